import PyProof.Rows.All
import Wide.All
import OpenK.AllK
import PySem.Challenge.RW_callwalk_k28_whole_least_falls
set_option autoImplicit true
set_option Elab.async false
set_option linter.all false
set_option genSizeOf false
set_option genSizeOfSpec false
set_option compiler.extract_closed false
set_option maxRecDepth 100000
set_option maxHeartbeats 4000000
set_option bootstrap.genMatcherCode false
noncomputable section
open PySem.W(instObj lookIn plainGet hasDictIn findIn isFn emptyDict keepIn fnOf codeIn kas_ask nsIn)
abbrev KE:=@PySem.wpAny_bind
abbrev RW:=@PySem.Heap.get?_push_of_some
abbrev TV:=@PySem.wpAny_pure
abbrev TY:=@Nat.le_refl
abbrev TZ:=@List.length_map
abbrev T1:=@List.map_cons
abbrev T2:=@if_pos
abbrev T3:=@List.mem_cons_of_mem
abbrev T4:=@PySem.Heap.get?_push_size
abbrev T5:=@List.mem_cons_self
abbrev T6:=@List.mem_cons
abbrev T7:=@List.getElem?_eq_some_iff
abbrev T8:=@PySem.Heap.lt_size
abbrev T9:=@if_neg
abbrev T_:=@List.mem_map
abbrev Ua:=@List.size_toArray
abbrev Ub:=@List.not_mem_nil
abbrev Uc:=@List.mem_iff_getElem?
abbrev Ud:=@Bool.false_eq_true
abbrev Ue:=@List.length_cons
abbrev Ug:=@List.mem_append
abbrev Uh:=@List.mem_singleton
abbrev Ui:=@List.getElem?_map
abbrev Uj:=@decide_eq_true
abbrev Uk:=@List.pairwise_iff_getElem
abbrev Ul:=@Nat.ne_of_lt
abbrev Um:=@List.length_append
abbrev Uo:=@List.map_map
abbrev Up:=@List.mem_filter
abbrev Uq:=@List.nodup_nil
abbrev Ur:=@decide_eq_false
abbrev Us:=@Nat.le_trans
abbrev Ut:=@Array.getElem?_toList
abbrev Uu:=@PySem.Heap.get?_update_other
abbrev Uv:=@Bool.and_eq_true
abbrev Uw:=@Nat.lt_of_lt_of_le
abbrev Ux:=@PySem.sizeLine_eq
abbrev Uy:=@PySem.F.plainAttrs_dict
abbrev Uz:=@List.mem_of_getElem?
abbrev UA:=@List.mem_append_right
abbrev UB:=@Nat.zero_le
abbrev UC:=@PySem.F.slot_dict_get
abbrev UD:=@List.getElem?_set_self
abbrev UE:=@PySem.PassesOwn.never
abbrev UF:=@List.mem_range
abbrev UG:=@PySem.W.mg_none_of
abbrev UH:=@PySem.Heap.SameBut.update
abbrev UI:=@List.mem_append_left
abbrev UJ:=@List.getElem?_set_ne
abbrev UK:=@PySem.wpAny_call_entry
abbrev UL:=@PySem.wpAny_newObj_type
abbrev UM:=@Bool.false_ne_true
abbrev UN:=@List.nodup_cons
abbrev UO:=@List.map_append
abbrev UP:=@List.pairwise_cons
abbrev UQ:=@List.length_eq_zero_iff
abbrev UR:=@Array.length_toList
abbrev US:=@PySem.F.slot_dict_setdefault
abbrev UT:=@Option.map_eq_some_iff
abbrev UU:=@List.take_of_length_le
abbrev UV:=@PySem.wpAny_holding
abbrev UW:=@List.all_eq_true
abbrev UX:=@Option.some.inj
abbrev UY:=@PyProof.Rows.slot_tuple_getitem
abbrev UZ:=@of_decide_eq_true
abbrev U0:=@List.getElem?_eq_getElem
abbrev U1:=@if_false
abbrev U2:=@Nat.lt_of_le_of_lt
abbrev U3:=@PySem.Heap.get?_update_self
abbrev U4:=@List.getElem?_append_right
abbrev U5:=@PySem.F.slot_dict_itemiterator_next
abbrev U6:=@PySem.wpAny_setState_of
abbrev U7:=@PySem.Calls.callWith_builtin
abbrev U8:=@PySem.F.entry_dict_get
abbrev U9:=@PySem.tupleKind_room_in1
abbrev U_:=@PySem.W.kia_one
abbrev Vb:=@List.map_congr_left
abbrev Vc:=@Ne.symm
abbrev Vd:=@PySem.Calls.spliced_cons
abbrev Ve:=@PyProof.Rows.F.plain_set_update_loop
abbrev Vf:=@Nat.shiftRight_eq_div_pow
abbrev Vg:=@PySem.F.slot_list_append
abbrev Vh:=@PySem.F.type_list_append
abbrev Vi:=@PySem.F.type_dict_setdefault
abbrev Vj:=@PyProof.Rows.callWith_type1
abbrev Vk:=@PySem.wpAny_callSpecial?_slot
abbrev Vl:=@PySem.F.plainAttrs_list
abbrev Vm:=@Int.eq_ofNat_of_zero_le
abbrev Vn:=@Int.emod_lt_of_pos
abbrev Vo:=@PySem.wpAny_mono
abbrev Vp:=@Array.getElem?_eq_some_iff
abbrev Vq:=@PySem.wpAny_truthy_bool
abbrev Vr:=@PySem.mem_of_lookup
abbrev Vs:=@List.take_add_one
abbrev Vt:=@List.foldl_append
abbrev Vu:=@decide_eq_true_eq
abbrev Vv:=@Classical.byContradiction
abbrev Vw:=@List.getElem?_append_left
abbrev Vx:=@List.length_nil
abbrev Vy:=@if_true
abbrev Vz:=@PySem.codeAny_builtin
abbrev VA:=@List.getElem?_eq_none
abbrev VB:=@PySem.wpAny_typeNameOfWhole_itemiter
abbrev VC:=@List.foldl_cons
abbrev VD:=@congrArg
abbrev VE:=@List.mem_filterMap
abbrev VF:=@List.length_take
abbrev VG:=@PySem.Calls.evalArgs_plain
abbrev VH:=@List.mem_of_mem_take
abbrev VI:=@PySem.Around.under_plainId
abbrev VJ:=@Nat.lt_irrefl
abbrev VL:=@List.any_cons
abbrev VM:=@Bool.not_true
abbrev VN:=@Nat.add_sub_cancel_left
abbrev VO:=@List.map_nil
abbrev VP:=@PySem.call_meetsIn
abbrev VQ:=@List.Perm.refl
abbrev VR:=@PySem.Calls.spliced_nil
abbrev VS:=@List.find?_cons
abbrev VT:=@List.length_set
abbrev VU:=@Int.emod_nonneg
abbrev VW:=@beq_iff_eq
abbrev VX:=@Nat.lt_succ_self
abbrev VY:=@PySem.F.plain_min_loop
abbrev VZ:=@PySem.wpAny_Call_Name_kw
abbrev V0:=@List.take_append_drop
abbrev V1:=@PySem.Heap.size_push
abbrev V2:=@PySem.wpAny_typeNameOf_itemiter
abbrev V3:=@PySem.wpAny_passesOwn
abbrev V4:=@List.nodup_append
abbrev V5:=@List.pairwise_map
abbrev V6:=@List.Pairwise.imp_of_mem
abbrev V7:=@Nat.lt_succ_of_lt
abbrev V8:=@Int.le_trans
abbrev V9:=@PySem.F.args_dict_get_2
abbrev V_:=@PySem.F.args_dict_get_3
abbrev Wa:=@PySem.plainId_quiet
abbrev Wb:=@List.filter_cons
abbrev Wc:=@List.nodup_range
abbrev Wd:=@List.lookup_cons
abbrev We:=@PySem.wpAny_setField_rec
abbrev Wf:=@List.append_nil
abbrev Wg:=@PySem.F.type_dict_get
abbrev Wh:=@Classical.choose_spec
abbrev Wi:=@PySem.Paired.length
abbrev Wj:=@PySem.wpAny_pyIter_list
abbrev Wl:=@PySem.wpAny_Call_method
abbrev Wm:=@List.append_assoc
abbrev Wn:=@List.flatMap_cons
abbrev Wo:=@Int.fdiv_eq_ediv_of_nonneg
abbrev Wp:=@PySem.Obj.data_mapDictKeys
abbrev Wq:=@List.mem_iff_getElem
abbrev Wr:=@List.length_take_le'
abbrev Ws:=@List.getElem?_zip_eq_some
abbrev Wt:=@PyProof.Rows.F.entry_set_update_loop
abbrev Wu:=@Nat.mul_le_mul
abbrev Wv:=@List.filterMap_cons
abbrev Ww:=@beq_eq_false_iff_ne
abbrev Wx:=@PySem.Heap.SameBut.extBut
abbrev Wy:=@List.flatMap_append
abbrev Wz:=@List.length_pos_iff
abbrev WA:=@Nat.ne_of_gt
abbrev WB:=@Int.le_of_lt
abbrev WC:=@Bool.eq_iff_iff
abbrev WD:=@List.zip_cons_cons
abbrev WE:=@PySem.wpAny_Call_method0_late
abbrev WF:=@Nat.lt_or_gt_of_ne
abbrev WG:=@PySem.W.KasT.kasWp_bind
abbrev WH:=@PySem.wpAny_updateSeq
abbrev WI:=@List.getElem?_replicate
abbrev WJ:=@PySem.wpAny_isOneOf_itemiter
abbrev WK:=@Int.toNat_natCast
abbrev WL:=@PySem.wpAny_field
abbrev WM:=@Option.isSome_map
abbrev WN:=@Nat.lt_trichotomy
abbrev WO:=@PySem.wpAny_storeSet_of
abbrev WP:=@bne_self_eq_false
abbrev WQ:=@PySem.wpAny_pyIter_slot
abbrev WR:=@List.ext_getElem?
abbrev WS:=@PySem.wpAny_dictEntries
abbrev WT:=@List.length_range
abbrev WU:=@PySem.wpAny_seqItems
abbrev WV:=@Nat.le_of_lt
abbrev WW:=@PySem.codeAny_mono
abbrev WX:=@List.length_replicate
abbrev WY:=@PySem.wpAny_typeOf
abbrev WZ:=@List.length_singleton
abbrev W0:=@PySem.F.args_dict_setdefault_3
abbrev W1:=@PySem.wpAny_notOrdered_dict
abbrev W2:=@List.set_getElem_self
abbrev W3:=@PySem.wpAny_forIn_list
abbrev W4:=@PySem.F.entry_dict_setdefault
abbrev W5:=@List.eq_nil_of_length_eq_zero
abbrev W6:=@List.pairwise_append
abbrev W7:=@Bool.and_self
abbrev W8:=@PySem.wpAny_rule
abbrev W9:=@PySem.wpAny_execs_nil
abbrev W_:=@PySem.W.plainGet_of
abbrev Xa:=@Nat.add_le_add_left
abbrev Xb:=@Nat.mul_le_mul_left
abbrev Xc:=@PySem.W.callWith_K
abbrev Xd:=@Prod.ext
abbrev Xe:=@Bool.false_and
abbrev Xf:=@Bool.and_false
abbrev Xg:=@PySem.wpAny_setField
abbrev Xh:=@PySem.wpAny_tryCatch
abbrev Xi:=@PySem.boot_len
abbrev Xj:=@PySem.W.kitx_dict
abbrev Xk:=@Nat.le_of_lt_succ
abbrev Xl:=@Option.some.injEq
abbrev Xm:=@List.getElem?_inj
abbrev Xn:=@Bool.false_or
abbrev Xo:=@PySem.Moved.trans
abbrev Xp:=@PySem.wpAny_letGo
abbrev Xq:=@Sum.inl.inj
abbrev Xr:=@Sum.inr.inj
abbrev Xs:=@List.sum_cons
abbrev Xt:=@Nat.mul_add
abbrev Xu:=@List.length_drop
abbrev Xv:=@List.getElem_mem
abbrev Xw:=@List.perm_middle
abbrev Xx:=@List.mem_flatMap
abbrev Xy:=@Nat.le_of_eq
abbrev Xz:=@Nat.add_comm
abbrev XA:=@List.all_map
abbrev XB:=@Nat.mod_lt
abbrev XC:=@or_false
abbrev XD:=PySem.Shared
abbrev XE:=PySem.W.Frag
abbrev XF:=PySem.Program
abbrev XG:=PySem.Value
abbrev XH:=PySem.Around
def XR(h : True := by rfl) : True := h
def aM:Lean.Syntax:=XR._auto_1
def XI(h : True := by decide) : True := h
def ab:Lean.Syntax:=XI._auto_1
def XO(h : ∀u : Unit, u = u := by intro _; rfl) : True := True.intro
def am:Lean.Syntax:=XO._auto_1
def XJ(h : True := by first|exact .inl rfl|exact .inr rfl|assumption) : True := h
def ae:Lean.Syntax:=XJ._auto_1
def XN(h : True := by first|exact Or.inl rfl|exact Or.inr (Or.inl rfl)|exact Or.inr (Or.inr rfl)) : True := h
def XQ(h : True := by intro _ _; rfl) : True := h

namespace L2
open PySem PySem.Spec PyProof.Rows
noncomputable abbrev br:=Sum Int Str
noncomputable def lC:br->XG->Bool
 |.inl k,v=>Value.isInt k v
 |.inr x,v=>Value.isStrOf x v
noncomputable def Rm(w:World):br->Int
 |.inl k=>hashInt k
 |.inr x=>hashStr w x
def bp:∀{k:br}{v:XG},lC k v=true->(∃i t,k=Sum.inl i/\v=Value.int i t)\/(∃x t,k=Sum.inr x/\v=Value.str x t)
 |.inl i,v,h=>by obtain⟨t,e⟩:=Value.isInt_shape (k:=i) (v:=v) h;exact .inl ⟨i,t,rfl,e⟩
 |.inr x,v,h=>by obtain⟨t,e⟩:=Value.isStrOf_shape (x:=x) (v:=v) h;exact .inr ⟨x,t,rfl,e⟩
def AF(i:Int)(t:Tok):lC (.inl i) (.int i t)=true:=by simp[lC,Value.isInt]
def AG(x:Str)(t:Tok):lC (.inr x) (.str x t)=true:=by simp[lC,Value.isStrOf]
def JX(a b:Int):decide ((Sum.inl a:br)=Sum.inl b)=(a==b):=by grind
def JY(a b:Str):decide ((Sum.inr a:br)=Sum.inr b)=decide (a=b):=by grind
def JZ(a:Int)(b:Str):decide ((Sum.inl a:br)=Sum.inr b)=false:=Ur (λq=>nomatch q)
def J0(a:Str)(b:Int):decide ((Sum.inr a:br)=Sum.inl b)=false:=Ur (λq=>nomatch q)
def aF(prog:XF)(w:World):PySem.KeyKind prog w br where
 is:=lC
 hash:=Rm w
 inj:=λv a b ha hb=>by
  rcases bp ha with⟨i,t,rfl,rfl⟩|⟨x,t,rfl,rfl⟩
  .rcases bp hb with⟨j,u,rfl,e⟩|⟨y,u,rfl,e⟩
   .injection e with e1 _;rw[e1]
   .exact nomatch e
  .rcases bp hb with⟨j,u,rfl,e⟩|⟨y,u,rfl,e⟩
   .exact nomatch e
   .injection e with e1 _;rw[e1]
 byValue:=λk v h=>by rcases bp h with⟨i,t,rfl,rfl⟩|⟨x,t,rfl,rfl⟩<;>rfl
 pyHash:=λhv h=>by
  rcases bp hv with⟨i,t,rfl,rfl⟩|⟨x,t,rfl,rfl⟩
  .exact wpAny_pyHash_int h
  .exact wpAny_pyHash_str h
 eqBool:=λhu hv h=>by
  rcases bp hu with⟨i,t,rfl,rfl⟩|⟨x,t,rfl,rfl⟩
  .rcases bp hv with⟨j,u,rfl,rfl⟩|⟨y,u,rfl,rfl⟩
   .rw[JX]at h;exact wpAny_eqBool_int h
   .rw[JZ]at h;exact SeqAt.EqAt.int_str i t y u _ _ _ _ h
  .rcases bp hv with⟨j,u,rfl,rfl⟩|⟨y,u,rfl,rfl⟩
   .rw[J0]at h;exact SeqAt.EqAt.str_int x t j u _ _ _ _ h
   .rw[JY]at h;exact wpAny_eqBool_str h
 «strs»:=λk x t v h=>by
  rcases bp h with⟨i,u,rfl,e⟩|⟨y,u,rfl,e⟩
  .exact nomatch e
  .injection e with e1 _;subst e1;cases v<;>rfl
def vn(prog:XF)(w:World)(i:Int)(t:Tok):(aF prog w).is (.inl i) (.int i t)=true:=AF i t
def vp(prog:XF)(w:World)(x:Str)(t:Tok):(aF prog w).is (.inr x) (.str x t)=true:=AG x t
inductive V where
 |bn|bl (b:Bool)|int (i:Int)|str (x:Str)|Cd (b:Array UInt8)|JW (b:UInt64)|ref (a:Addr)|ty (n:String)
 deriving DecidableEq
noncomputable def RelV:V->XG->Prop
 |.bn,u=>u=Value.none
 |.bl b,u=>u=Value.bool b
 |.int i,u=>∃t,u=Value.int i t
 |.str x,u=>∃t,u=Value.str x t
 |.Cd b,u=>∃t,u=Value.bytes b t
 |.JW b,u=>∃t,u=Value.float b t
 |.ref a,u=>u=Value.ref a
 |.ty n,u=>u=Value.type n
abbrev Vals:List V->List XG->Prop:=Paired RelV
theorem Vals.length(r:Vals xs us):xs.length=us.length:=Wi r
theorem Vals.get:∀{xs:List V}{us:List XG}{i:Nat}{x:V},Vals xs us->xs[i]?=some x->∃u,us[i]?=some u/\RelV x u
 |_,_,_,_,.nil,e=>by simp at e
 |_,_,0,_,.cons r _,e=>by simp at e;subst e;exact⟨_,rfl,r⟩
 |_,_,i+1,x,.cons _ t,e=>by obtain⟨u,h1,a⟩:=Vals.get (i:=i) (x:=x) t (by simpa using e);exact⟨u,by simpa using h1,a⟩
theorem Vals.append:∀{xs a:List V}{us ws:List XG},Vals xs us->Vals a ws->Vals (xs++a) (us++ws)
 |_,_,_,_,.nil,s=>s
 |_,_,_,_,.cons r t,s=>.cons r (Vals.append t s)
theorem Vals.take:∀{xs:List V}{us:List XG}(n:Nat),Vals xs us->Vals (xs.take n) (us.take n)
 |_,_,0,_=>.nil
 |_,_,_+1,.nil=>.nil
 |_,_,n+1,.cons r t=>.cons r (Vals.take n t)
theorem Vals.drop:∀{xs:List V}{us:List XG}(n:Nat),Vals xs us->Vals (xs.drop n) (us.drop n)
 |_,_,0,r=>r
 |_,_,_+1,.nil=>.nil
 |_,_,n+1,.cons _ t=>Vals.drop n t
def RelO:Option V->Option XG->Prop
 |some v,some u=>RelV v u
 |none,none=>True
 |_,_=>False
def KV{κ:Type}:List (κ×V)->List (κ×XG)->Prop:=Paired λ(p:κ×V)(q:κ×XG)=>p.1=q.1/\RelV p.2 q.2
noncomputable def kV:br->V
 |.inl i=>.int i
 |.inr x=>.str x
inductive HO where
  
 |lst (xs:List V)
  
 |tup (xs:List V)
  
 |dK (kvs:List (br×V))|dT (kvs:List (List br×V))
  
 |set (S:Int->Bool) (n:Nat)
  
 |ins (C dx:Addr) (fs:List (Str×V))
  
 |own (x:Addr)
  
 |xd (fs:List (Str×V))
  
 |met (f x:Addr)
  
 |SI (lo hi:Int)
  
 |ba (o:Obj) (u:HO)
  
 |xF (ps:Array XG)
  
 |ext (φ:Heap->Prop)
noncomputable abbrev Hp:=Addr->Option HO
noncomputable def aO(H:Hp)(a:Addr)(o:HO):Hp:=λb=>if b=a then some o else H b
def ag:aO H a o a=some o:=by unfold aO;rw[T2 rfl]
theorem af(h:b≠a):aO H a o b=H b:=by unfold aO;rw[T9 h]
def ze:aO (aO H a o) a u=aO H a u:=by funext b;unfold aO;split<;>rfl
def zf{H:Hp}(h:H a=some o)(h':H b=some u)(d:o≠u):a≠b:=by intro e;subst e;rw[h]at h';exact d (UX h')
def ao{H:Hp}(h:H a=some o)(h':H b=none):a≠b:=by intro e;subst e;rw[h]at h';cases h'
section
variable(P:XF)(w:World)
def ObjOk(H:Hp)(h:Heap)(a:Addr):HO->Prop
 |.lst xs=>xs.length<=sizeLine/\∃(its:List XG)(n:Nat),Vals xs its/\h.get? a=some { cls:=.type "list",data:=.seq its.toArray n }
 |.tup xs=>xs.length<=sizeLine/\∃its:List XG,Vals xs its/\IsTup h a its.toArray
 |.dK kvs=>kvs.length<=sizeLine/\(a==sysModules)=false/\∃vs,KV kvs vs/\h.DictOf (aF P w) a vs
 |.dT kvs=>kvs.length<=sizeLine/\(a==sysModules)=false/\∃xs:List (List br×Addr×XG),
  Paired (λ(p:List br×V)(q:List br×Addr×XG)=>p.1=q.1/\H q.2.1=some (.tup (p.1.map kV))/\RelV p.2 q.2.2) kvs xs/\
  ∃o es g,h.get? a=some o/\o.ExactDict/\o.data=.dict es g/\es.toList=xs.map (entryOfKey (tupleKind (aF P w)))/\(xs.map (·.1)).Nodup
 |.set S n=>h.SetOf (intKind P w) a S n
 |.ins C c fs=>H c=some (.own a)/\fs.length<=1000/\c≠a/\h.get? a=some (instObj C c)/\
  ∃b,h.Ns1 c b/\(∀f,RelO (fs.lookup f) (b f))/\PySem.Within b (fs.map (·.1))
 |.own _=>∃o,h.get? a=some o
 |.xd fs=>∃b,h.Ns1 a b/\∀f,RelO (fs.lookup f) (b f)
 |.SI lo i=>∃t u v,h.get? a=some { cls:=.type "range",data:=.fields #[.int lo t,.int i u,.int 1 v] }
 |.ba o u=>h.get? a=some o/\ObjOk H h a u
 |.xF ps=>h.get? a=some {cls:=.none,data:=.fields ps}
 |.met f x=>h.get? a=some (PySem.W.methodObj (.ref f) (.ref x))
 |.ext d=>d h/\(∃o,h.get? a=some o)/\∀h1 e:Heap,d h1->(∀o,h1.get? a=some o->e.get? a=some o)->d e
def HOk(H:Hp)(h:Heap):Prop:=∀a o,H a=some o->ObjOk P w H h a o
end
section
variable{P:XF}{w:World}{H H':Hp}{h h':Heap}{a:Addr}{o:HO}
theorem ObjOk.lt(x:ObjOk P w H h a o):a<h.objs.size:=by
 cases o with
 |lst xs=>obtain⟨_,_,_,_,e⟩:=x;exact T8 e
 |tup xs=>obtain⟨_,_,_,p⟩:=x;exact p.lt
 |dK kvs=>obtain⟨_,_,_,_,o,_,_,e,_⟩:=x;exact T8 e
 |dT kvs=>obtain⟨_,_,_,_,o,_,_,e,_⟩:=x;exact T8 e
 |set S n=>obtain⟨o,_,_,_,e,_⟩:=x;exact T8 e
 |ins C b fs=>obtain⟨_,_,_,e,_⟩:=x;exact T8 e
 |own y=>obtain⟨_,e⟩:=x;exact T8 e
 |xd fs=>obtain⟨_,⟨_,_,_,e,_⟩,_⟩:=x;exact T8 e
 |SI lo c=>obtain⟨_,_,_,e⟩:=x;exact T8 e
 |ba d u=>obtain⟨e,_⟩:=x;exact T8 e
 |xF ps=>exact T8 (show h.get? a=some _ from x)
 |met f y=>exact T8 (show h.get? a=some _ from x)
 |ext g=>obtain⟨_,⟨_,e⟩,_⟩:=x;exact T8 e
def Paired.Nd{α e:Type}{F G:α->e->Prop}{c:List α}{d:List e}(h:Paired F c d)(f:∀a b,F a b->G a b):Paired G c d:=by
 induction h with
 |nil=>exact .nil
 |cons r _ g=>exact .cons (f _ _ r) g
def ObjOk.stay(x:ObjOk P w H h a o)(k:∀b u,(b=a\/H b=some (.own a))->h.get? b=some u->h'.get? b=some u)
 (l:∀b,H b=some (.own a)->H' b=some (.own a)) (m:∀b xs,H b=some (.tup xs)->H' b=some (.tup xs)):ObjOk P w H' h' a o:=by
 induction o with
 |lst xs=>obtain⟨z,its,n,r,e⟩:=x;exact⟨z,its,n,r,k _ _ (.inl rfl) e⟩
 |tup xs=>obtain⟨z,its,r,g,e,c⟩:=x;exact⟨z,its,r,g,k _ _ (.inl rfl) e,c⟩
 |dK kvs=>obtain⟨z,y,vs,r,g,es,i,e,c⟩:=x;exact⟨z,y,vs,r,g,es,i,k _ _ (.inl rfl) e,c⟩
 |dT kvs=>obtain⟨z,y,xs,r,g,es,i,e,c⟩:=x;exact⟨z,y,xs,Paired.Nd r λp q z=>⟨z.1,m _ _ z.2.1,z.2.2⟩,g,es,i,k _ _ (.inl rfl) e,c⟩
 |set S n=>obtain⟨g,es,i,t,e,c⟩:=x;exact⟨g,es,i,t,k _ _ (.inl rfl) e,c⟩
 |ins C A fs=>obtain⟨d,z,ne,e,j,⟨od,es,i,e2,c⟩,r⟩:=x;exact⟨l _ d,z,ne,k _ _ (.inl rfl) e,j,⟨od,es,i,k _ _ (.inr d) e2,c⟩,r⟩
 |own y=>obtain⟨g,e⟩:=x;exact⟨g,k _ _ (.inl rfl) e⟩
 |xd fs=>obtain⟨j,⟨od,es,i,e,c⟩,r⟩:=x;exact⟨j,⟨od,es,i,k _ _ (.inl rfl) e,c⟩,r⟩
 |SI lo B=>obtain⟨t,u,v,e⟩:=x;exact⟨t,u,v,k _ _ (.inl rfl) e⟩
 |ba g u s=>obtain⟨e,q⟩:=x;exact⟨k _ _ (.inl rfl) e,s q⟩
 |xF ps=>have e:h.get? a=some {cls:=.none,data:=.fields ps}:=x;show h'.get? a=some {cls:=.none,data:=.fields ps};exact k a _ (.inl rfl) e
 |met f y=>have e:h.get? a=some (PySem.W.methodObj (.ref f) (.ref y)):=x;show h'.get? a=some (PySem.W.methodObj (.ref f) (.ref y));exact k a _ (.inl rfl) e
 |ext D=>obtain⟨p,⟨o,e⟩,st⟩:=x;exact⟨st _ _ p λo q=>k _ _ (.inl rfl) q,⟨o,k _ _ (.inl rfl) e⟩,st⟩
theorem HOk.lt(x:HOk P w H h)(e:H a=some o):a<h.objs.size:=(x a o e).lt
def HOk.fresh(x:HOk P w H h)(e:h.objs.size<=a):H a=none:=by
 cases q:H a with
 |none=>rfl
 |some u=>exact absurd (Uw (x.lt q) e) (VJ _)
def HOk.kept(x:HOk P w H h)(k:∀b u,h.get? b=some u->h'.get? b=some u):HOk P w H h':=λa o e=>(x a o e).stay (λb u _ q=>k b u q) (λ_ q=>q) λ_ _ q=>q
def HOk.laid(x:HOk P w H h)(k:∀b u,h.get? b=some u->h'.get? b=some u)(g:h.objs.size<=a)(new:ObjOk P w (aO H a o) h' a o):HOk P w (aO H a o) h':=λb u e=>by
 have d:=x.fresh g;by_cases f:b=a
 .subst f;rw[ag]at e;cases e;exact new
 .rw[af f]at e;exact(x b u e).stay (λc v _ q=>k c v q) (λc q=>by rw[af (ao q d)];exact q) λc xs q=>by rw[af (ao q d)];exact q
end
def Rd(H:Hp)(a:Addr)(u:HO):Prop:=H a=some u\/∃o,H a=some (.ba o u)
def Rd.ok(r:Rd H a u)(x:HOk P w H h):ObjOk P w H h a u:=by
 rcases r with r|⟨o,r⟩
 .exact x a u r
 .obtain⟨_,q⟩:=x a _ r;exact q
noncomputable def Nx:Option HO->Prop
 |some (.lst _)=>True
 |some (.dK _)=>True
 |some (.dT _)=>True
 |some (.set _ _)=>True
 |some (.ins _ _ _)=>True
 |some (.ext _)=>True
 |_=>False
section
variable{P:XF}{w:World}{H:Hp}{h h':Heap}{x e:Addr}{o':HO}
def HOk.write(ok:HOk P w H h)(mu:Nx (H x))(m:e=x\/H e=some (.own x))(k:∀b u,b≠e->h.get? b=some u->h'.get? b=some u)(f:∃u,h'.get? e=some u)
 (new:ObjOk P w (aO H x o') h' x o'):HOk P w (aO H x o') h':=λb u q=>by
 have a:∀c y,H c=some (.own y)->c≠x:=λc y r z=>by subst z;rw[r]at mu;exact mu
 have d:∀c xs,H c=some (.tup xs)->c≠x:=λc xs r z=>by subst z;rw[r]at mu;exact mu
 by_cases i:b=x
 .subst i;rw[ag]at q;cases q;exact new
 .rw[af i]at q;by_cases g:b=e
  .have j:H b=some (.own x):=by
    grind
   rw[q]at j;cases j;obtain⟨v,l⟩:=f;exact⟨v,by rw[g];exact l⟩
  .refine(ok b u q).stay (λc v n r=>k c v ?_ r) (λc r=>by rw[af (a c b r)];exact r) λc xs r=>by rw[af (d c xs r)];exact r
   grind
end
def Qt(H:Hp)(b:Addr):Prop:=H b=none\/∃xs,H b=some (.tup xs)
structure Un(fs ex:List Addr) (H H':Hp) (h h':Heap):Prop where
 keep:∀b o,h.get? b=some o->Qt H b->b∉fs->b∉ex->h'.get? b=some o
 slot:∀b o,h.get? b=some o->H b=none->b∈fs->b∉ex->∃sl,h'.get? b=some {o with slots:=sl}
 free:∀b o,h.get? b=some o->H b=none->b∉ex->H' b=none
 there:∀b o,h.get? b=some o->b∉ex->∃o',h'.get? b=some o'
 rE:∀b xs,H b=some (.tup xs)->H' b=some (.tup xs)
 pj:∀b o u,H b=some (.ba o u)->H' b=some (.ba o u)
 xC:∀b ps,H b=some (.xF ps)->∃more,H' b=some (.xF (ps++more))
section
variable{fs ex:List Addr}{H H1:Hp}{h h1 h':Heap}{a x e:Addr}{o:HO}
def Un.any(u:Un fs ex H H1 h h1)(q:h.get? b=some ob)(n:H b=none)(c:b∉ex):∃sl,h1.get? b=some {ob with slots:=sl}:=by
 by_cases d:b∈fs
 .exact u.slot b ob q n d c
 .exact⟨ob.slots,u.keep b ob q (.inl n) d c⟩
def Un.kept(k:∀b u,h.get? b=some u->h'.get? b=some u):Un fs ex H H h h':=⟨λb c q _ _ _=>k b c q,λb c q _ _ _=>⟨c.slots,k b c q⟩,λ_ _ _ n _=>n,λb c q _=>⟨c,k b c q⟩,λ_ _ q=>q,λ_ _ _ q=>q,λ_ ps q=>⟨#[],by rw[q];simp⟩⟩
def Un.refl:Un fs ex H H h h:=Un.kept λ_ _ q=>q
def Un.laid(k:∀b u,h.get? b=some u->h'.get? b=some u)(hp:h.objs.size<=a)(hn:H a=none):Un fs ex H (aO H a o) h h' where
 keep:=λb u q _ _ _=>k b u q
 slot:=λb u q _ _ _=>⟨u.slots,k b u q⟩
 free:=λb u q n _=>by rw[af (Ul (Uw (T8 q) hp))];exact n
 there:=λb u q _=>⟨u,k b u q⟩
 rE:=λb xs q=>by rw[af (ao q hn)];exact q
 pj:=λb u xs q=>by rw[af (ao q hn)];exact q
 xC:=λb ps q=>⟨#[],by rw[af (ao q hn),q];simp⟩
def Un.write(mu:Nx (H x))(j:e=x\/H e=some (.own x))(k:∀b u,b≠e->h.get? b=some u->h'.get? b=some u)(d:∃u,h'.get? e=some u):Un fs ex H (aO H x o) h h':=by
 have l:∀b,H b=none->b≠x:=λb n z=>by subst z;rw[n]at mu;exact mu
 have g:∀b,H b=none->b≠e:=λb n z=>by grind
 have f:∀b u,H b=some u->¬Nx (some u)->b≠x:=λb u q m z=>by subst z;rw[q]at mu;exact m mu
 refine⟨λb u q n _ _=>k b u (n.elim (g b) λ⟨xs,i⟩ z=>by rcases j with r|r;(·rw[<- r,<- z,i]at mu;exact mu);(·rw[<- z,i]at r;cases r)) q,λb u q n _ _=>⟨u.slots,k b u (g b n) q⟩,λb u q n _=>by rw[af (l b n)];exact n,λb u q _=>?_,
  λb xs q=>by rw[af (f b _ q λz=>z)];exact q,λb u xs q=>by rw[af (f b _ q λz=>z)];exact q,λb ps q=>⟨#[],by rw[af (f b _ q λz=>z),q];simp⟩⟩
 by_cases c:b=e
 .subst c;exact d
 .exact⟨u,k b u c q⟩
end
noncomputable def Q3(h:Heap)(H:Hp):List Addr:=(List.range h.objs.size).filter λa=>(H a).isSome
def vq(h:Heap)(H:Hp):Heap:=PySem.W.hideAll h (Q3 h H)
def AH(h:Heap)(H:Hp):(vq h H).objs.size=h.objs.size:=PySem.W.hideAll_size _ _
def vw(e:h.get? b=some o)(n:H b=none):(vq h H).get? b=some o:=PySem.W.hideAll_get _ e λa=>by have q:(H b).isSome=true:=(Up.mp a).2;rw[n]at q;simp at q
def FP(e:(vq h H).get? b=some o):h.get? b=some o/\H b=none:=by
 have a:h.get? b=some o:=PySem.W.of_hideAll (Q3 h H) e;refine⟨a,?_⟩;cases q:H b with
 |none=>rfl
 |some x=>have c:b∈Q3 h H:=Up.mpr ⟨UF.mpr (T8 a),by simp[q]⟩;have z:(vq h H).get? b=none:=PySem.W.hideAll_none (Q3 h H) c;rw[z]at e;cases e
noncomputable def FQ(g h:Heap)(L:Addr):List (Addr×Obj):=(List.range h.objs.size).filterMap λa=>if a=L\/(g.get? a).isSome=true then none else(h.get? a).map λo=>(a,o)
def rest(g h:Heap)(L d:Addr):List (Addr×Obj):=(FQ g h L).filter λp=>decide (p.1≠d)
noncomputable def S9:XG->V
 |.str x _=>.str x
 |.ref a=>.ref a
 |_=>.bn
def J1(o:Obj):Option (Addr×List V):=match o.cls with
 |.type n=>if n=="kt" then(match o.data with
  |.seq its _=>(match its.toList with
   |.ref a::r=>some (a,r.map S9)
   |_=>none)
  |_=>none)else none
 |_=>none
def Rn(K:XE)(H:Hp):Prop:=∀p∈K,∀a xs,J1 p.2=some (a,xs)->H a=some (.tup xs)
structure Mod(K:XE) (mg:Str->Option XG) (base:Heap):Prop where
 mi:K.In base
 glob:base.Ns mainGlobals mg
 blt:∃mb,base.Ns builtinsNs mb/\∀x:Str,x≠"__name__"->mb x=bootBuiltins x
 nolimit:base.NoLimit
structure Cx where
 prog:XF
 w:World
 K:XE
 mg:Str->Option XG
 base:Heap
 A:XH
 N:List Str
 s₀:XD
 H₀:Hp
 env:Env
 outer:List Env
 stack:List Env
 ex:List Addr
 fn:Str->Bool
 calm:Bool
 pn:List (Addr×Obj)
 xe:XG->XD->Prop
abbrev wX(X:Cx){α:Type}(m:Sem α):(α->XD->Prop)->(XG->XD->Prop)->XD->Prop:=wpAny (model X.prog X.w) X.A m
abbrev sE(X:Cx)(e:Expr)(es:List Expr):Prop:=starEach (e::es) X.env=(false,eval e X.env)::starEach es X.env
abbrev bT(X:Cx)(p:Pos)(es:List Expr):Prop:=(backTo p (starEach es X.env)).any (·.1)=false
abbrev dB(x:Str):Prop:=(x==("__debug__" : Str))=false
noncomputable def Cj(l:List Env):List Addr:=l.filterMap (·.frame)
abbrev Cx.fs(X:Cx):List Addr:=Cj X.outer
def Q5(a:Scope)(x:Str):Prop:=a.names.lookup x=some .local\/a.names.lookup x=some .cell\/a.names.lookup x=some .free
def J2(a:Scope)(x:Str):Prop:=a.names.lookup x=some .local\/a.names.lookup x=some .cell
def Ro(env:Env)(h:Heap)(m:Str->Option XG)(x:Str)(u:XG):Prop:=(env.kindOf x=some .local/\m x=some u)\/((env.kindOf x=some .cell\/env.kindOf x=some .free)/\∃c,env.cells.lookup x=some c/\h.IsCell c (some u))
structure Cx.Ok(X:Cx):Prop where
 mod:Mod X.K X.mg X.base
 kind:X.env.scope.kind=.function
 glob:X.env.globals=mainGlobals
 blt:X.env.builtins=builtinsNs
 above:X.s₀.heap.objs.size<=X.env.locals
 inj:∀x y c,X.env.cells.lookup x=some c->X.env.cells.lookup y=some c->x=y
 has:∀x,(X.env.kindOf x=some .cell\/X.env.kindOf x=some .free)->∃c,X.env.cells.lookup x=some c
 NI:∀x c,X.fn x=true->X.env.cells.lookup x=some c->X.s₀.heap.objs.size<=c
 hd:X.calm=true->X.A.handled=none
 frames:X.A.frames=some X.stack
 Q2:X.stack=X.outer\/(X.stack=X.env::X.outer/\X.env.frame=some X.env.locals)
 SF:∀b∈X.ex,b≠X.env.locals/\∀x c,X.env.cells.lookup x=some c->c≠b
 bs:∀b o,X.base.get? b=some o->X.s₀.heap.get? b=some o/\X.H₀ b=none
 FH:X.base.objs.size<=X.s₀.heap.objs.size
 Cc:∀b o,X.base.get? b=some o->b∉X.ex
 FE:∀b∈X.ex,b∉X.fs
 oM:X.s₀.heap.FunFrames X.base X.outer
 JB:∀b∈X.fs,X.H₀ b=none
 kt:Rn X.K X.H₀
structure Inv(X:Cx) (aa:List (Addr×Obj)) (σ:List (Option V)) (H:Hp) (s:XD):Prop where
 ok:X.Ok
 os:s.os=X.s₀.os
 bare:AllBare s.gens
 base:Un X.fs X.ex X.H₀ H X.s₀.heap s.heap
 loc:∃m,s.heap.Ns X.env.locals m/\∀(i:Nat)(x:Str)(v:V),X.N[i]?=some x->σ[i]?=some (some v)->Q5 X.env.scope x->∃u,RelV v u/\Ro X.env s.heap m x u
 cell:∀x c,X.env.cells.lookup x=some c->∃v,s.heap.IsCell c v
 free:H X.env.locals=none
 ja:∀x c,X.env.cells.lookup x=some c->H c=none
 pin:∀p∈X.pn++aa,s.heap.get? p.1=some p.2/\H p.1=none/\p.1≠X.env.locals/\p.1∉X.fs/\∀v,p.2.data≠.cell v
 aT:HOk X.prog X.w H s.heap
 len:σ.length=X.N.length
section
variable{X:Cx}{aa:List (Addr×Obj)}{σ:List (Option V)}{H H':Hp}{s:XD}{h':Heap}
def Cx.Ok.SQ(ok:X.Ok)(e:X.base.get? b=some o):b∉X.fs:=λa=>by have:=(ok.oM.mem a).1;rw[e]at this;cases this
theorem Inv.bs(I:Inv X aa σ H s):∀b o,X.base.get? b=some o->s.heap.get? b=some o/\H b=none:=λb o e=>⟨I.base.keep b o (I.ok.bs b o e).1 (.inl (I.ok.bs b o e).2) (I.ok.SQ e) (I.ok.Cc b o e),I.base.free b o (I.ok.bs b o e).1 (I.ok.bs b o e).2 (I.ok.Cc b o e)⟩
theorem Inv.kt(I:Inv X aa σ H s):Rn X.K H:=λp b a xs e=>I.base.rE a xs (I.ok.kt p b a xs e)
def Inv.bk(I:Inv X aa σ H s):∀b o,X.base.get? b=some o->s.heap.get? b=some o:=λb o e=>(I.bs b o e).1
theorem Inv.mod(I:Inv X aa σ H s):Mod X.K X.mg X.base:=I.ok.mod
def Inv.oN(I:Inv X aa σ H s):X.K.In s.heap:=I.ok.mod.mi.keeps I.bk
theorem Inv.lt(I:Inv X aa σ H s):X.env.locals<s.heap.objs.size:=let ⟨_,a,_⟩:=I.loc;a.lt
def Inv.sz(I:Inv X aa σ H s):X.s₀.heap.objs.size<=s.heap.objs.size:=Us I.ok.above (WV I.lt)
def Inv.SL(I:Inv X aa σ H s)(h:s.heap.objs.size<=a):a∉X.fs:=λb=>by obtain⟨_,o,c,_⟩:=I.ok.oM.mem b;exact absurd (Uw (T8 c) (Us I.sz h)) (VJ _)
def Inv.Nl(I:Inv X aa σ H s):∀x c,X.env.cells.lookup x=some c->c≠X.env.locals:=λx c e z=>by obtain⟨v,o,d,hd⟩:=I.cell x c e;obtain⟨m,⟨f,es,g,a,b,_⟩,_⟩:=I.loc;rw[z,a]at d;cases d;rw[b]at hd;cases hd
theorem Inv.oM(I:Inv X aa σ H s):s.heap.FunFrames X.base X.outer:=by
 have all:∀(l:List Env),(∀b∈Cj l,b∈X.fs)->X.s₀.heap.FunFrames X.base l->s.heap.FunFrames X.base l:=by
  intro l;induction l with
  |nil=>intro _ _;trivial
  |cons env r f=>intro hs g;obtain⟨h,⟨L,o,a,i,j,hd⟩,k⟩:=g;have c:L∈X.fs:=hs L (by unfold Cj;rw[Wv,a];exact T5);obtain⟨sl,e⟩:=I.base.slot L o j (I.ok.JB L c) c λz=>I.ok.FE L z c;exact⟨h,⟨L,_,a,i,e,hd⟩,f (λb d=>hs b (by unfold Cj;rw[Wv,a];exact T3 _ d)) k⟩
 exact all X.outer (λ_ d=>d) I.ok.oM
theorem Inv.stack(I:Inv X aa σ H s):s.heap.FunFrames X.base X.stack:=by
 rcases I.ok.Q2 with e|⟨e,a⟩
 .rw[e];exact I.oM
 .rw[e];obtain⟨m,b,_⟩:=I.loc;refine .cons (by rw[I.ok.kind];decide) a b ?_ I.oM;exact Heap.get?_none_of_le (Us I.ok.FH I.ok.above)
def Inv.vi(I:Inv X aa σ H s):∀b∈Cj X.stack,b∈X.env.locals::X.fs:=λb a=>by
 rcases I.ok.Q2 with e|⟨e,c⟩
 .rw[e]at a;exact T3 _ a
 .rw[e]at a;unfold Cj at a;rw[Wv,c]at a;exact a
def Inv.AD(I:Inv X aa σ H s):∀b∈Cj X.stack,H b=none:=λb hb=>by
 rcases T6.mp (I.vi b hb)with e|hb
 .rw[e];exact I.free
 .obtain⟨_,o,a,_⟩:=I.ok.oM.mem hb;exact I.base.free b o a (I.ok.JB b hb) λz=>I.ok.FE b z hb
def Inv.step{d':Drawn}{ch:List Addr}(I:Inv X aa σ H s)
 (f:∀b∈ch,(b∈X.ex\/X.s₀.heap.objs.size<=b)/\b≠X.env.locals/\(∀x c,X.env.cells.lookup x=some c->c≠b)/\∀p∈X.pn++aa,p.1≠b)
 (keep:∀b o,b≠X.env.locals->b∉X.fs->b∉ch->s.heap.get? b=some o->Qt H b->h'.get? b=some o)
 (slot:∀b o,b≠X.env.locals->b∈X.fs->b∉ch->s.heap.get? b=some o->H b=none->∃sl,h'.get? b=some {o with slots:=sl}) (free:∀b o,b∉ch->s.heap.get? b=some o->H b=none->H' b=none)
 (there:∀b o,b∉ch->s.heap.get? b=some o->∃A,h'.get? b=some A)
 (rE:∀b xs,H b=some (.tup xs)->H' b=some (.tup xs)) (pj:∀b o u,H b=some (.ba o u)->H' b=some (.ba o u)) (xC:∀b ps,H b=some (.xF ps)->∃more,H' b=some (.xF (ps++more)))
 (ns:∀m,s.heap.Ns X.env.locals m->h'.Ns X.env.locals m) (aT:HOk X.prog X.w H' h') (G:AllBare g') :
 Inv X aa σ H' {s with heap:=h',gens:=g',drawn:=d',toks:=t'}:=by
 have B:∀b o,X.s₀.heap.get? b=some o->b≠X.env.locals:=λb o e=>Ul (Uw (T8 e) I.ok.above);have j:∀b o,X.s₀.heap.get? b=some o->b∉X.ex->b∉ch:=λb o e a t=>by
  rcases(f b t).1 with z|z
  .exact a z
  .exact absurd (Uw (T8 e) z) (VJ _)
 have g:∀x c,X.env.cells.lookup x=some c->∀v,s.heap.IsCell c v->h'.IsCell c v:=λx c e v ⟨o,y,hd⟩=>by
  have h:c∉ch:=λz=>(f c z).2.2.1 x c e rfl;by_cases D:c∈X.fs
  .obtain⟨sl,q⟩:=slot c o (I.Nl x c e) D h y (I.ja x c e);exact⟨_,q,hd⟩
  .exact⟨o,keep c o (I.Nl x c e) D h y (.inl (I.ja x c e)),hd⟩
 refine⟨I.ok,I.os,G,⟨λb o e n t a=>?_,λb o e n t a=>?_,λb o e n a=>?_,λb o e a=>?_,λb xs e=>rE b xs (I.base.rE b xs e),λb o xs e=>pj b o xs (I.base.pj b o xs e),λb ps e=>?_⟩,?_,λx c e=>?_,?_,λx c e=>?_,λp E=>?_,aT,I.len⟩
 .exact keep b o (B b o e) t (j b o e a) (I.base.keep b o e n t a) (n.imp (λn=>I.base.free b o e n a) λ⟨xs,q⟩=>⟨xs,I.base.rE b xs q⟩)
 .obtain⟨sl,e1⟩:=I.base.slot b o e n t a;obtain⟨C,e2⟩:=slot b _ (B b o e) t (j b o e a) e1 (I.base.free b o e n a);exact⟨C,e2⟩
 .obtain⟨A,e1⟩:=I.base.there b o e a;exact free b A (j b o e a) e1 (I.base.free b o e n a)
 .obtain⟨A,e1⟩:=I.base.there b o e a;exact there b A (j b o e a) e1
 .obtain⟨M,e1⟩:=I.base.xC b ps e
  grind
 .obtain⟨m,J,K⟩:=I.loc;refine⟨m,ns m J,λi x v e1 e2 L=>?_⟩;obtain⟨u,r,l⟩:=K i x v e1 e2 L;refine⟨u,r,?_⟩;rcases l with l|⟨k,c,e,z⟩
  .exact .inl l
  .exact .inr ⟨k,c,e,g x c e _ z⟩
 .obtain⟨v,z⟩:=I.cell x c e;exact⟨v,g x c e v z⟩
 .obtain⟨m,⟨o,_,_,y,_⟩,_⟩:=I.loc;exact free _ o (λz=>(f _ z).2.1 rfl) y I.free
 .obtain⟨v,o,y,hd⟩:=I.cell x c e;exact free c o (λz=>(f c z).2.2.1 x c e rfl) y (I.ja x c e)
 .obtain⟨e,n,ne,F,d⟩:=I.pin p E;have h:p.1∉ch:=λz=>(f p.1 z).2.2.2 p E rfl;exact⟨keep p.1 p.2 ne F h e (.inl n),free p.1 p.2 h e n,ne,F,d⟩
def Inv.un{t':Nat}(I:Inv X aa σ H s)(u:Un X.fs [] H H' s.heap h')(aT:HOk X.prog X.w H' h'):Inv X aa σ H' {s with heap:=h',toks:=t'}:=by obtain⟨m,⟨o,es,k,g,r⟩,_⟩:=id I.loc;obtain⟨sl,h⟩:=u.any g I.free (by simp);exact I.step (g':=s.gens) (d':=s.drawn) (ch:=[]) (λ_ z=>nomatch z) (λb o _ c _ e n=>u.keep b o e n c (by simp)) (λb o _ c _ e n=>u.slot b o e n c (by simp)) (λb o _ e n=>u.free b o e n (by simp)) (λb o _ e=>u.there b o e (by simp)) u.rE u.pj u.xC (λm' i=>by obtain⟨l,d,f,a,j⟩:=i;rw[g]at a;cases a;exact⟨_,d,f,h,j⟩) aT I.bare
def Inv.call{d':Drawn}{ch:List Addr}(I:Inv X aa σ H s)(u:Un (Cj X.stack) ch H H' s.heap h')(aT:HOk X.prog X.w H' h')(k:AllBare g')
 (d:∀b∈ch,(b∈X.ex\/X.s₀.heap.objs.size<=b)/\b≠X.env.locals/\(∀x c,X.env.cells.lookup x=some c->c≠b)/\∀p∈X.pn++aa,p.1≠b) :
 Inv X aa σ H' {s with heap:=h',gens:=g',drawn:=d',toks:=t'}:=by
 obtain⟨m,⟨o,es,v,j,r⟩,_⟩:=id I.loc;obtain⟨sl,g⟩:=u.any j I.free λz=>(d _ z).2.1 rfl;exact I.step (ch:=ch) d (λb o g l a e n=>u.keep b o e n (λz=>(T6.mp (I.vi b z)).elim g l) a) (λb o _ _ a e n=>u.any e n a) (λb o a e n=>u.free b o e n a) (λb o a e=>u.there b o e a) u.rE u.pj u.xC (λm' q=>by obtain⟨y,h,i,f,t⟩:=q;rw[j]at f;cases f;exact⟨_,h,i,g,t⟩) aT k
def Inv.turned{it:Addr}(I:Inv X aa σ H s)(k:∀b o,b≠it->s.heap.get? b=some o->h'.get? b=some o)(g:H it=none)(f:it≠X.env.locals)
 (h1:it∈X.ex\/X.s₀.heap.objs.size<=it) (h:∀x c,X.env.cells.lookup x=some c->c≠it) (i:∀p∈X.pn++aa,p.1≠it):Inv X aa σ H {s with heap:=h',toks:=t'}:=by
 have d:∀b u,H b=some u->b≠it:=λb u e z=>by rw[z,g]at e;cases e
 refine I.step (g':=s.gens) (d':=s.drawn) (ch:=[it]) (λb j=>?_) (λb o _ _ a e _=>k b o (λz=>a (by simp[z])) e) (λb o _ _ a e _=>⟨o.slots,k b o (λz=>a (by simp[z])) e⟩) (λ_ _ _ _ n=>n)
  (λb o a e=>⟨o,k b o (λz=>a (by simp[z])) e⟩) (λ_ _ e=>e) (λ_ _ _ e=>e) (λb ps e=>⟨#[],by rw[e];simp⟩) (λm l=>?_) (λb u e=>?_) I.bare
 .have e:b=it:=by simpa using j
  subst e;exact⟨h1,f,h,i⟩
 .obtain⟨o,es,t,w,r⟩:=l;exact⟨o,es,t,k _ o (Vc f) w,r⟩
 .refine(I.aT b u e).stay (λc v a q=>k c v ?_ q) (λ_ q=>q) λ_ _ q=>q;rcases a with z|z
  .rw[z];exact d b u e
  .exact d c _ z
def Inv.tok(I:Inv X aa σ H s)(t:Nat):Inv X aa σ H {s with toks:=t}:=I.un (h':=s.heap) (t':=t) Un.refl I.aT
theorem Inv.kept(I:Inv X aa σ H s)(k:∀b u,s.heap.get? b=some u->h'.get? b=some u):Inv X aa σ H {s with heap:=h',toks:=t'}:=I.un (Un.kept k) (I.aT.kept k)
theorem Inv.laid(I:Inv X aa σ H s)(k:∀b u,s.heap.get? b=some u->h'.get? b=some u)(c:s.heap.objs.size<=a)(new:ObjOk X.prog X.w (aO H a o) h' a o) :
 Inv X aa σ (aO H a o) {s with heap:=h',toks:=t'}:=I.un (Un.laid k c (I.aT.fresh c)) (I.aT.laid k c new)
theorem Inv.write(I:Inv X aa σ H s)(mu:Nx (H x))(c:e=x\/H e=some (.own x))(k:∀b u,b≠e->s.heap.get? b=some u->h'.get? b=some u)(a:∃u,h'.get? e=some u)
 (new:ObjOk X.prog X.w (aO H x o) h' x o):Inv X aa σ (aO H x o) {s with heap:=h',toks:=t'}:=I.un (Un.write mu c k a) (I.aT.write mu c k a new)
def Inv.AE(I:Inv X aa σ H s)(h:∀p∈pins',s.heap.get? p.1=some p.2/\H p.1=none/\p.1≠X.env.locals/\p.1∉X.fs/\∀v,p.2.data≠.cell v):Inv X pins' σ H s:=⟨I.ok,I.os,I.bare,I.base,I.loc,I.cell,I.free,I.ja,λp a=>(Ug.mp a).elim (λz=>I.pin p (UI _ z)) (h p),I.aT,I.len⟩
def vx{N:List Str}(c:N.Nodup){i j:Nat}{x:Str}(a:N[i]?=some x)(b:N[j]?=some x):i=j:=by obtain⟨h1,e1⟩:=T7.mp a;obtain⟨d,e2⟩:=T7.mp b;exact(List.getElem_inj c).mp (e1.trans e2.symm)
def sD{E:XG->XD->Prop}{x:Str}{v:V}{u:XG}{Q:Unit->XD->Prop}(I:Inv X aa σ H s)(hN:X.N.Nodup)(F:X.N[i]?=some x)(g:J2 X.env.scope x)(r:RelV v u)
 (h:∀O,Inv X aa (σ.set i (some v)) H O->(∃a,Heap.SameBut a s.heap O.heap/\(a=X.env.locals\/X.env.cells.lookup x=some a))->Q () O) (hf:autoParam (X.fn x=true\/X.env.scope.names.lookup x=some .local) ae):wpAny M A (storeName X.env x u) Q E s:=by
 obtain⟨m,P,hl⟩:=id I.loc;have G:(X.env.scope.kind==.class ||(X.env.scope.kind==.module&&X.env.locals != X.env.globals))=false:=by rw[I.ok.kind];rfl
 have t:i<σ.length:=by rw[I.len];exact(T7.mp F).1
 have Nl:=I.Nl;have f:∀{a:Addr}{h':Heap},(∃o,s.heap.get? a=some o/\H a=none)->Heap.SameBut a s.heap h'->HOk X.prog X.w H h':=λ{a h'} ha hs b ob e=>by
  obtain⟨_,_,R⟩:=ha;refine(I.aT b ob e).stay (λc S l q=>(hs.2 c ?_).trans q) (λ_ q=>q) λ_ _ q=>q
  grind
 rcases g with hk|hk
 .refine wpAny_storeName_local hk P (λh' T hs=>?_) G;obtain⟨oL,_,_,U,_⟩:=id P;refine h _ ⟨I.ok,I.os,I.bare,⟨λb o e n B g=>?_,λb o e n B g=>?_,I.base.free,λb o e g=>?_,I.base.rE,I.base.pj,I.base.xC⟩,⟨_,T,λj y W e1 e2 Y=>?_⟩,λy c e=>?_,I.free,I.ja,λp Z=>?_,f ⟨oL,U,I.free⟩ hs,by simpa using I.len⟩ ⟨_,hs,.inl rfl⟩
  .exact(hs.2 b (Ul (Uw (T8 e) I.ok.above))).trans (I.base.keep b o e n B g)
  .obtain⟨sl,e1⟩:=I.base.slot b o e n B g;exact⟨sl,(hs.2 b (Ul (Uw (T8 e) I.ok.above))).trans e1⟩
  .obtain⟨o',e1⟩:=I.base.there b o e g;exact⟨o',(hs.2 b (Ul (Uw (T8 e) I.ok.above))).trans e1⟩
  .by_cases C:j=i
   .subst C;rw[F]at e1;cases e1;rw[UD t]at e2;cases e2;exact⟨u,r,.inl ⟨hk,by simp⟩⟩
   .rw[UJ (Vc C)]at e2;obtain⟨u',r',q⟩:=hl j y W e1 e2 Y;refine⟨u',r',?_⟩;rcases q with⟨k,e⟩|⟨k,c,e,z⟩
    .refine .inl ⟨k,?_⟩;have:y≠x:=λe=>C (vx hN e1 (e▸F));simp[this,e]
    .exact .inr ⟨k,c,e,z.sameBut hs (Nl y c e)⟩
  .obtain⟨S,z⟩:=I.cell y c e;exact⟨S,z.sameBut hs (Nl y c e)⟩
  .obtain⟨e,n,ne,nf,d⟩:=I.pin p Z;exact⟨(hs.2 p.1 ne).trans e,n,ne,nf,d⟩
 .have D:X.fn x=true:=by
   rcases hf with z|z
   .exact z
   .rw[z]at hk;cases hk
  obtain⟨c,l⟩:=I.ok.has x (.inl hk);obtain⟨S,z⟩:=I.cell x c l;refine wpAny_storeName_cell I.ok.kind hk l z (λh' J hs=>?_);obtain⟨oc,hoc,hocd⟩:=id z;refine h {s with heap:=h'} ⟨I.ok,I.os,I.bare,⟨λb o e n B g=>?_,λb o e n B g=>?_,I.base.free,λb o e g=>?_,I.base.rE,I.base.pj,I.base.xC⟩,⟨m,P.sameBut hs (Vc (Nl x c l)),λj y W e1 e2 Y=>?_⟩,λy L e=>?_,I.free,I.ja,λp Z=>?_,f ⟨oc,hoc,I.ja x c l⟩ hs,by simpa using I.len⟩ ⟨c,hs,.inr l⟩
  .exact(hs.2 b (Ul (Uw (T8 e) (I.ok.NI x c D l)))).trans (I.base.keep b o e n B g)
  .obtain⟨sl,e1⟩:=I.base.slot b o e n B g;exact⟨sl,(hs.2 b (Ul (Uw (T8 e) (I.ok.NI x c D l)))).trans e1⟩
  .obtain⟨o',e1⟩:=I.base.there b o e g;exact⟨o',(hs.2 b (Ul (Uw (T8 e) (I.ok.NI x c D l)))).trans e1⟩
  .by_cases C:j=i
   .subst C;rw[F]at e1;cases e1;rw[UD t]at e2;cases e2;exact⟨u,r,.inr ⟨.inl hk,c,l,J⟩⟩
   .rw[UJ (Vc C)]at e2;obtain⟨u',r',q⟩:=hl j y W e1 e2 Y;refine⟨u',r',?_⟩;rcases q with q|⟨k,L,e,z'⟩
    .exact .inl q
    .refine .inr ⟨k,L,e,z'.sameBut hs ?_⟩;rintro rfl;exact C (vx hN e1 (I.ok.inj _ _ _ e l▸F))
  .by_cases K:L=c
   .subst K;exact⟨_,J⟩
   .obtain⟨w2,z2⟩:=I.cell y L e;exact⟨w2,z2.sameBut hs K⟩
  .obtain⟨e,n,ne,nf,d⟩:=I.pin p Z;refine⟨(hs.2 p.1 ?_).trans e,n,ne,nf,d⟩
   grind
def vy(I:Inv X aa σ H s)(b:X.N.Nodup)(c:X.N[i]?=some x)(d:J2 X.env.scope x)(r:RelV v u)
 (h:∀a,Inv X aa (σ.set i (some v)) H a->Q () a) (e:autoParam (X.fn x=true\/X.env.scope.names.lookup x=some .local) ae):wpAny M A (storeName X.env x u) Q E s:=
 sD I b c d r (λa f _=>h a f) e
def Inv.QU(I:Inv X aa σ H s)(d:s'.os=s.os)(u:Un (Cj X.stack) ch H H' s.heap s'.heap)(aT:HOk X.prog X.w H' s'.heap)(f:AllBare s'.gens)
 (a:∀b∈ch,(b∈X.ex\/X.s₀.heap.objs.size<=b)/\b≠X.env.locals/\(∀x c,X.env.cells.lookup x=some c->c≠b)/\∀p∈X.pn++aa,p.1≠b):Inv X aa σ H' s':=by
 obtain⟨h',g',d',t',g⟩:=s';have e:g=s.os:=d;subst e;exact I.call (g':=g') (t':=t') (d':=d') u aT f a
end
abbrev XK:=XG->Option Addr->Hp->Prop
noncomputable abbrev St:=List (Option V)
abbrev VK:=V->Hp->Prop
abbrev TE:=St->Hp->VK->Prop
abbrev TT:=St->Hp->(Bool->Hp->Prop)->Prop
abbrev TA:=St->Hp->(List V->Hp->Prop)->Prop
structure Ends where
 nx:St->Hp->Prop
 rt:VK
 bk:St->Hp->Prop:=λ_ _=>False
 ct:St->Hp->Prop:=λ_ _=>False
abbrev TS:=Ends->St->Hp->Prop
def EP(X:Cx)(aa:List (Addr×Obj))(σ:St)(Q:VK)(u:XG)(a:XD):Prop:=∃v H',Inv X aa σ H' a/\RelV v u/\Q v H'
def TP(X:Cx)(aa:List (Addr×Obj))(σ:St)(Q:Bool->Hp->Prop)(b:Bool)(a:XD):Prop:=∃H',Inv X aa σ H' a/\Q b H'
def AP(X:Cx)(aa:List (Addr×Obj))(σ:St)(Q:List V->Hp->Prop)(us:List XG)(a:XD):Prop:=∃vs H',Inv X aa σ H' a/\Vals vs us/\Q vs H'
def SP(X:Cx)(aa:List (Addr×Obj))(D:Ends)(f:Flow)(b:XD):Prop:=
 match f with
 |.next=>∃a H',Inv X aa a H' b/\D.nx a H'
 |.brk=>∃a H',Inv X aa a H' b/\D.bk a H'
 |.cont=>∃a H',Inv X aa a H' b/\D.ct a H'
 |.ret u=>∃v a H',Inv X aa a H' b/\RelV v u/\D.rt v H'
def PE(X:Cx)(e:Expr)(t:TE):Prop:=∀(aa:List (Addr×Obj))(s:XD)(σ:St)(H:Hp)(Q:VK),Inv X aa σ H s->t σ H Q->wpAny (model X.prog X.w) X.A (eval e X.env) (EP X aa σ Q) X.xe s
def PT(X:Cx)(e:Expr)(t:TT):Prop:=∀(aa:List (Addr×Obj))(s:XD)(σ:St)(H:Hp)(Q:Bool->Hp->Prop),Inv X aa σ H s->t σ H Q->wpAny (model X.prog X.w) X.A (isTrue e X.env (eval e X.env)) (TP X aa σ Q) X.xe s
def PW(X:Cx)(e:Expr)(t:TT):Prop:=∀(a:Sem XG)(aa:List (Addr×Obj))(s:XD)(σ:St)(H:Hp)(Q:Bool->Hp->Prop),Inv X aa σ H s->t σ H Q->wpAny (model X.prog X.w) X.A (isTrue e X.env a) (TP X aa σ Q) X.xe s
def PW.pt(h:PW X e t):PT X e t:=h _
def PA(X:Cx)(es:List Expr)(t:TA):Prop:=∀(a:Pos)(aa:List (Addr×Obj))(s:XD)(σ:St)(H:Hp)(Q:List V->Hp->Prop),Inv X aa σ H s->t σ H Q->wpAny (model X.prog X.w) X.A (spliced (backTo a (starEach es X.env))) (AP X aa σ Q) X.xe s
def PS(X:Cx)(st:Stmt)(t:TS):Prop:=∀(aa:List (Addr×Obj))(s:XD)(σ:St)(H:Hp)(D:Ends),Inv X aa σ H s->t D σ H->wpAny (model X.prog X.w) X.A (exec st X.env) (SP X aa D) X.xe s
def PSs(X:Cx)(st:List Stmt)(t:TS):Prop:=∀(aa:List (Addr×Obj))(s:XD)(σ:St)(H:Hp)(D:Ends),Inv X aa σ H s->t D σ H->wpAny (model X.prog X.w) X.A (execs st X.env) (SP X aa D) X.xe s
def bP{α:Type}{t:Sem α}{Q b:α->XD->Prop}{M:Model}{A:XH}{E:XG->XD->Prop}{s:XD}(h:wpAny M A t Q E s)(c:∀a s,Q a s->b a s):wpAny M A t b E s:=Vo h c λ_ _ x=>x
section
variable{X:Cx}
noncomputable def aI(i:Nat):TE:=λσ H Q=>∃v,σ[i]?=some (some v)/\Q v H
noncomputable def tC(v:V):TE:=λ_ H Q=>Q v H
def J3(g:X.N[i]?=some x)(j:Q5 X.env.scope x)(hd:autoParam (dB x) ab) (d:autoParam ((x==("__classdict__" : Str))=false) ab):PE X (.Name x pos) (aI i):=by
 intro aa s σ H Q I h;obtain⟨v,e,h⟩:=h;obtain⟨m,k,n⟩:=I.loc;obtain⟨u,r,l⟩:=n i x v g e j;have b:EP X aa σ Q u s:=⟨v,H,I,r,h⟩;rcases l with⟨hk,o⟩|⟨hk,c,f,a⟩
 .exact wpAny_Name (wpAny_loadName_local I.ok.kind hk k o b) hd
 .rcases hk with hk|hk
  .exact wpAny_Name (wpAny_loadName_cell I.ok.kind hk f a b) hd
  .exact wpAny_Name (wpAny_loadName_free I.ok.kind hk f a b d) hd
def aS{i j pos}:PE X (.Constant (.int i) j pos) (tC (.int i)):=λ_ _ _ H _ I h=>wpAny_Constant_int ⟨.int i,H,I.tok _,⟨_,rfl⟩,h⟩
def NM{b j pos}:PE X (.Constant (.bool b) j pos) (tC (.bl b)):=λ_ _ _ H _ I h=>Constant_bool ⟨.bl b,H,I,rfl,h⟩
def lT{j pos}:PE X (.Constant .none j pos) (tC .bn):=λ_ _ _ H _ I h=>Constant_none ⟨.bn,H,I,rfl,h⟩
def Gl(X:Cx)(x:Str):Prop:=X.env.kindOf x=some .globalImplicit
def tT(I:Inv X aa σ H s)(a:Gl X x)(b:X.mg x=some u)(h:Q u s)
 (hd:autoParam (dB x) ab):wX X (eval (.Name x pos) X.env) Q E s:=
 Calls.Name_function_global I.ok.kind a (Calls.loadGlobal_global (by rw[I.ok.glob];exact I.mod.glob.keeps I.bk) b h) hd
def jU(I:Inv X aa σ H s)(a:Gl X x)(b:X.mg x=none)(c:bootBuiltins x=some u)(h:Q u s)
 (d:autoParam (x≠"__name__") ab) (hd:autoParam (dB x) ab):wX X (eval (.Name x pos) X.env) Q E s:=by
 obtain⟨f,h1,e⟩:=I.mod.blt;exact Calls.Name_function_global I.ok.kind a (Calls.loadGlobal_builtin (by rw[I.ok.glob];exact I.mod.glob.keeps I.bk) b (by rw[I.ok.blt];exact h1.keeps I.bk) ((e x d).trans c) h) hd
def FR(a:Gl X x)(b:X.mg x=none)(c:bootBuiltins x=some u)(r:RelV v u)(d:autoParam (x≠"__name__") ab) (hd:autoParam (dB x) ab):PE X (.Name x pos) (tC v):=λ_ _ _ H _ I h=>jU I a b c ⟨v,H,I,r,h⟩ d hd
variable{a b:Expr}{ta tb:TE}{pos:Pos}
def PC(X:Cx)(op:CmpOp)(a b:Expr)(t:TE):Prop:=
 ∀(aa:List (Addr×Obj))(s:XD)(σ:St)(H:Hp)(Q:VK),Inv X aa σ H s->t σ H Q->
  wpAny (model X.prog X.w) X.A (eval a X.env) (λv c=>wpAny (model X.prog X.w) X.A (eval b X.env) (λu d=>wpAny (model X.prog X.w) X.A (compareOp op v u) (EP X aa σ Q) X.xe d) X.xe c) X.xe s
def vz(b:Expr)(h:op≠.In)(c:op≠.NotIn):behindInMarks op b=false:=by
 have e1:(op==CmpOp.In)=false:=by cases op<;>first|rfl|exact absurd rfl h
 have e2:(op==CmpOp.NotIn)=false:=by cases op<;>first|rfl|exact absurd rfl c
 cases b<;>simp[behindInMarks,e1,e2]
noncomputable def Rp(ta:TE):TE:=λσ H Q=>ta σ H λx c=>Q (.bl (decide (x=.bn))) c
noncomputable def NN(ta:TE):TE:=λσ H Q=>ta σ H λx c=>Q (.bl (!decide (x=.bn))) c
def RelV.xA(r:RelV x v):(v==Value.none)=decide (x=.bn):=by
 cases x with
 |bn=>cases r;rfl
 |bl _=>cases r;rfl
 |int _=>obtain⟨t,rfl⟩:=r;rfl
 |str _=>obtain⟨t,rfl⟩:=r;rfl
 |Cd _=>obtain⟨t,rfl⟩:=r;rfl
 |JW _=>obtain⟨t,rfl⟩:=r;rfl
 |ref _=>cases r;rfl
 |ty _=>cases r;rfl
def Ck{j pos'}(ha:PE X a ta):PC X .Is a (.Constant .none j pos') (Rp ta):=by intro aa s σ H Q I h;refine bP (ha aa s σ H _ I h) λv s1 ⟨x,c,d,e,q1⟩=>?_;exact Constant_none (is_none_gen ⟨.bl _,c,d,by rw[e.xA];rfl,q1⟩)
def FS{j pos'}(ha:PE X a ta):PC X .IsNot a (.Constant .none j pos') (NN ta):=by intro aa s σ H Q I h;refine bP (ha aa s σ H _ I h) λv s1 ⟨x,c,d,e,q1⟩=>?_;exact Constant_none (isnot_none_gen ⟨.bl _,c,d,by rw[e.xA];rfl,q1⟩)
noncomputable def tB(t:TE):TT:=λσ H Q=>t σ H λx d=>∃c,x=.bl c/\Q c d
def J4(h:PC X op a b t)(h1:behindInMarks op b=false:=by first|exact vz _ (by decide) (by decide)|rfl):PE X (.Compare a [op] [b] pos) t:=λaa s σ H Q I c=>wpAny_Compare1 (h aa s σ H Q I c) h1
def Cm(h:PC X op a b t)(h1:behindInMarks op b=false:=by first|exact vz _ (by decide) (by decide)|rfl):PT X (.Compare a [op] [b] pos) (tB t):=by intro aa s σ H Q I e;refine wpAny_isTrue_Compare1 (bP (h aa s σ H _ I e) λv s1 h1=>bP h1 λu s2 f=>bP f λc k ⟨x,g,i,j,q1⟩=>?_) h1;obtain⟨d,rfl,q⟩:=q1;cases j;exact Vq ⟨g,i,q⟩
def J5(h:PE X e t)(f:autoParam (∀c,isTrue e X.env c=(do let v <- c;standAt e.pos;holding [v] (truthy v))) am):PT X e (tB t):=by intro aa s σ H Q I g;refine isTrue_plain (bP (h aa s σ H _ I g) λv s1 ⟨x,i,j,k,q1⟩=>?_) (f _);obtain⟨d,rfl,q⟩:=q1;cases k;exact Vq ⟨i,j,q⟩
variable{tA tB':TT}{rest:List Expr}
noncomputable def Rr(t u:TT):TT:=λσ H Q=>t σ H λc d=>if c=true then u σ d Q else Q false d
noncomputable def SR(t u:TT):TT:=λσ H Q=>t σ H λc d=>if c=true then Q true d else u σ d Q
noncomputable def NO(t:TT):TT:=λσ H Q=>t σ H λc d=>Q (!c) d
def FT(ha:PT X a tA):PW X (.BoolOp .And [a] pos) tA:=by
 intro d aa s σ H Q I h;refine isTrue_and (bP (ha aa s σ H Q I h) λc s1 e=>?_);cases c with
 |true=>exact isTrue_and_nil e
 |false=>exact e
def Co(ha:PT X a tA):PW X (.BoolOp .Or [a] pos) tA:=by
 intro d aa s σ H Q I h;refine isTrue_or (bP (ha aa s σ H Q I h) λc s1 e=>?_);cases c with
 |false=>exact isTrue_or_nil e
 |true=>exact e
def J6(ha:PT X a tA)(f:PW X (.BoolOp .And (b::rest) pos) tB'):PW X (.BoolOp .And (a::b::rest) pos) (Rr tA tB'):=by
 intro g aa s σ H Q I h;refine isTrue_and (bP (ha aa s σ H _ I h) λc s1 ⟨d,e,q1⟩=>?_);cases c with
 |true=>exact f g aa s1 σ d Q e q1
 |false=>exact⟨d,e,q1⟩
def IF(ha:PT X a tA)(f:PW X (.BoolOp .Or (b::rest) pos) tB'):PW X (.BoolOp .Or (a::b::rest) pos) (SR tA tB'):=by
 intro g aa s σ H Q I h;refine isTrue_or (bP (ha aa s σ H _ I h) λc s1 ⟨d,e,q1⟩=>?_);cases c with
 |true=>exact⟨d,e,q1⟩
 |false=>exact f g aa s1 σ d Q e q1
def Cp(ha:PT X a tA):PT X (.UnaryOp .Not a pos) (NO tA):=by intro aa s σ H Q I h;exact isTrue_not (ha aa s σ H (λc d=>Q (!c) d) I h)
noncomputable def NP(ta tb:TE):TE:=λσ H Q=>ta σ H λx d=>∃c,x=.bl c/\if c=true then tb σ d Q else Q (.bl false) d
noncomputable def NQ(ta:TE):TE:=λσ H Q=>ta σ H λx d=>∃c,x=.bl c/\Q (.bl (!c)) d
def J7{op}(h:PE X a t):PE X (.BoolOp op [a] pos) t:=λaa s σ H Q I c=>BoolOp_one (h aa s σ H Q I c)
def J8(ha:PE X a ta)(f:PE X (.BoolOp .And (b::rest) pos) tb):PE X (.BoolOp .And (a::b::rest) pos) (NP ta tb):=by
 intro aa s σ H Q I h;refine BoolOp_and (bP (ha aa s σ H _ I h) λv s1 ⟨x,d,e,g,q1⟩=>?_);obtain⟨c,rfl,q1⟩:=q1;cases g;refine Vq ?_;cases c with
 |true=>exact f aa s1 σ d Q e q1
 |false=>exact⟨.bl false,d,e,rfl,q1⟩
def J9(ha:PE X a ta):PE X (.UnaryOp .Not a pos) (NQ ta):=by intro aa s σ H Q I h;refine UnaryOp_ (bP (ha aa s σ H _ I h) λv s1 ⟨x,d,e,f,q1⟩=>?_);obtain⟨c,rfl,q1⟩:=q1;cases f;exact not_of (Vq ⟨.bl (!c),d,e,rfl,q1⟩)
noncomputable def S_(t:TT)(ta tb:TE):TE:=λσ H Q=>t σ H λc d=>if c=true then ta σ d Q else tb σ d Q
def Cq(g:PT X c tA)(ha:PE X a ta)(i:PE X b tb):PE X (.IfExp c a b pos) (S_ tA ta tb):=by
 intro aa s σ H Q I h;refine wpAny_IfExp (bP (g aa s σ H _ I h) λd s1 ⟨e,f,q1⟩=>?_);cases d with
 |true=>exact ha aa s1 σ e Q f q1
 |false=>exact i aa s1 σ e Q f q1
end
def SqL(K:XE)(H:Hp)(a:Addr)(xs:List V):Prop:=
 Rd H a (.lst xs)\/
  ∃(o:Obj)(its:Array XG)(n:Nat),K.lookup a=some o/\o.cls=.type "list"/\o.dict=none/\o.data=.seq its n/\its.size<=sizeLine/\Vals xs its.toList
def SqT(K:XE)(H:Hp)(a:Addr)(xs:List V):Prop:=
 Rd H a (.tup xs)\/
  ∃(o:Obj)(its:Array XG)(n:Nat),K.lookup a=some o/\o.cls=.type "tuple"/\o.data=.seq its n/\its.size<=sizeLine/\Vals xs its.toList
noncomputable def Rt:XG->Option V
 |.none=>some .bn
 |.bool b=>some (.bl b)
 |.int i _=>some (.int i)
 |.str x _=>some (.str x)
 |.bytes b _=>some (.Cd b)
 |.float b _=>some (.JW b)
 |.ref a=>some (.ref a)
 |.type n=>some (.ty n)
 |_=>none
def RelV.abs(r:RelV x u):Rt u=some x:=by
 cases x with
 |bn=>cases r;rfl
 |bl _=>cases r;rfl
 |int _=>obtain⟨t,rfl⟩:=r;rfl
 |str _=>obtain⟨t,rfl⟩:=r;rfl
 |Cd _=>obtain⟨t,rfl⟩:=r;rfl
 |JW _=>obtain⟨t,rfl⟩:=r;rfl
 |ref _=>cases r;rfl
 |ty _=>cases r;rfl
def RelV.inj(r:RelV x u)(q:RelV y u):x=y:=UX (r.abs.symm.trans q.abs)
theorem Vals.inj{xs a:List V}{us:List XG}(h:Vals xs us)(k:Vals a us):xs=a:=by
 induction h generalizing a with
 |nil=>cases k;rfl
 |cons r _ b=>
  cases k with
  |cons c t'=>rw[r.inj c,b t']
section
variable{X:Cx}{aa:List (Addr×Obj)}{σ:St}{H:Hp}{s:XD}{a:Addr}{xs ys:List V}
def SqL.of{K:XE}(h:H a=some (.lst xs)):SqL K H a xs:=.inl (.inl h)
def SqT.of{K:XE}(h:H a=some (.tup xs)):SqT K H a xs:=.inl (.inl h)
def Inv.list(I:Inv X aa σ H s)(h:SqL X.K H a xs):∃its:List XG,Vals xs its/\PlainL s.heap a its.toArray/\xs.length<=sizeLine:=by
 rcases h with h|⟨o,its,n,b,c,hd,hs,hz,r⟩
 .obtain⟨z,its,n,r,e⟩:=h.ok I.aT;exact⟨its,r,⟨_,n,e,rfl,rfl,rfl⟩,z⟩
 .refine⟨its.toList,r,⟨o,n,I.oN a o b,c,hd,by simpa using hs⟩,?_⟩;have e:=r.length;simp only[UR]at e;lia
def Inv.tuple(I:Inv X aa σ H s)(h:SqT X.K H a xs):∃its:List XG,Vals xs its/\IsTup s.heap a its.toArray/\xs.length<=sizeLine:=by
 rcases h with h|⟨o,its,n,b,c,hs,hz,r⟩
 .obtain⟨z,its,r,p⟩:=h.ok I.aT;exact⟨its,r,p,z⟩
 .refine⟨its.toList,r,⟨o,I.oN a o b,c,n,by simpa using hs⟩,?_⟩;have e:=r.length;simp only[UR]at e;lia
def Inv.xD(I:Inv X aa σ H s)(h:SqL X.K H a xs)(h':SqL X.K H a ys):xs=ys:=by
 obtain⟨its,r,⟨o,n,e,_,_,d⟩,_⟩:=I.list h;obtain⟨its',c,⟨f,g,b,_,_,d'⟩,_⟩:=I.list h';rw[e]at b;cases b;rw[d]at d';injection d' with d1 _;have:its=its':=by simpa using VD Array.toList d1
 subst this;exact r.inj c
def Inv.Cf(I:Inv X aa σ H s)(h:SqT X.K H a xs)(h':SqT X.K H a ys):xs=ys:=by
 obtain⟨its,r,⟨o,e,_,n,d⟩,_⟩:=I.tuple h;obtain⟨its',c,⟨f,b,_,g,d'⟩,_⟩:=I.tuple h';rw[e]at b;cases b;rw[d]at d';injection d' with d1 _;have:its=its':=by simpa using VD Array.toList d1
 subst this;exact r.inj c
end
noncomputable abbrev Cx.sB(X:Cx)(E:XG->XD->Prop):Cx:={X with xe:=E}
abbrev Cx.QW(X:Cx):Cx:=X.sB λ_ _=>False
theorem Cx.Ok.sB{X:Cx}(ok:X.Ok)(E:XG->XD->Prop):(X.sB E).Ok:=⟨ok.mod,ok.kind,ok.glob,ok.blt,ok.above,ok.inj,ok.has,ok.NI,ok.hd,ok.frames,ok.Q2,ok.SF,ok.bs,ok.FH,ok.Cc,ok.FE,ok.oM,ok.JB,ok.kt⟩
def Cx.Ok.kT{X:Cx}{E:XG->XD->Prop}(ok:(X.sB E).Ok):X.Ok:=⟨ok.mod,ok.kind,ok.glob,ok.blt,ok.above,ok.inj,ok.has,ok.NI,ok.hd,ok.frames,ok.Q2,ok.SF,ok.bs,ok.FH,ok.Cc,ok.FE,ok.oM,ok.JB,ok.kt⟩
section
variable{X:Cx}{aa:List (Addr×Obj)}{σ:St}{H:Hp}{s:XD}{E:XG->XD->Prop}
theorem Inv.sB(I:Inv X aa σ H s)(E:XG->XD->Prop):Inv (X.sB E) aa σ H s:=⟨I.ok.sB E,I.os,I.bare,I.base,I.loc,I.cell,I.free,I.ja,I.pin,I.aT,I.len⟩
theorem Inv.kT(I:Inv (X.sB E) aa σ H s):Inv X aa σ H s:=⟨I.ok.kT,I.os,I.bare,I.base,I.loc,I.cell,I.free,I.ja,I.pin,I.aT,I.len⟩
theorem SP.kT(h:SP (X.sB E) aa D f s'):SP X aa D f s':=by
 cases f with
 |next=>obtain⟨a,H',I,q⟩:=h;exact⟨a,H',I.kT,q⟩
 |brk=>obtain⟨a,H',I,q⟩:=h;exact⟨a,H',I.kT,q⟩
 |cont=>obtain⟨a,H',I,q⟩:=h;exact⟨a,H',I.kT,q⟩
 |ret u=>obtain⟨v,a,H',I,r,q⟩:=h;exact⟨v,a,H',I.kT,r,q⟩
theorem PSs.QW{st:List Stmt}(h:PSs X.QW st t):PSs X st t:=λaa s σ H D I a=>Vo (h aa s σ H D (I.sB _) a) (λ_ _ q=>q.kT) λ_ _ z=>False.elim z
end
section
variable{X:Cx}{st:Stmt}{rest:List Stmt}{t u:TS}{e:Expr}{te:TE}{pos:Pos}
noncomputable def vA:TS:=λD σ H=>D.nx σ H
noncomputable def dY(t u:TS):TS:=λD σ H=>t {D with nx:=u D} σ H
def mB:PSs X [] vA:=λ_ _ σ H _ I h=>W9 ⟨σ,H,I,h⟩
def aW(h1:PS X st t)(b:PSs X rest u):PSs X (st::rest) (dY t u):=by
 intro aa s σ H D I h;refine wpAny_execs_cons (bP (h1 aa s σ H {D with nx:=u D} I h) λf s1 q=>?_);cases f with
 |next=>obtain⟨a,H',c,q⟩:=q;exact b aa s1 a H' D c q
 |ret v=>exact q
 |brk=>exact q
 |cont=>exact q
def aX(h1:PS X st t):PSs X [st] t:=by
 intro aa s σ H D I h;refine wpAny_execs_cons (bP (h1 aa s σ H D I h) λf s1 q=>?_);cases f with
 |next=>exact W9 q
 |ret v=>exact q
 |brk=>exact q
 |cont=>exact q
noncomputable def J_:TS:=λD σ H=>D.bk σ H
def Cr:PS X (.Break pos) J_:=λ_ _ σ H _ I h=>wpAny_Break ⟨σ,H,I,h⟩
def Inv.quiet(I:Inv X aa σ H s):interactive X.env=false:=by simp[interactive,I.ok.kind]
noncomputable def fF(te:TE):TS:=λD σ H=>te σ H λ_ a=>D.nx σ a
def b5(a:PE X e te)(hs:autoParam (swapsWith e none pos.line X.env=pure false) aM):PS X (.Expr e pos) (fF te):=by intro aa s σ H D I h;exact wpAny_Expr_any (bP (a aa s σ H _ I h) λv s1 ⟨x,b,c,d,q1⟩=>⟨σ,b,c,q1⟩) I.quiet hs
noncomputable def tU(te:TE):TS:=λD σ H=>te σ H D.rt
def nK(a:PE X e te):PS X (.Return (some e) pos) (tU te):=by intro aa s σ H D I h;exact wpAny_Return_some (bP (a aa s σ H _ I h) λv s1 ⟨x,b,c,d,q1⟩=>⟨x,σ,b,c,d,q1⟩)
noncomputable def xN(c:TT)(t u:TS):TS:=λD σ H=>c σ H λb a=>if b=true then t D σ a else u D σ a
def sF(i:PT X c tc)(ha:PSs X a t)(j:PSs X b u):PS X (.If c a b pos) (xN tc t u):=by
 intro aa s σ H D I h;refine wpAny_If (bP (i aa s σ H _ I h) λd s1 ⟨f,g,q1⟩=>?_);cases d with
 |true=>exact ha aa s1 σ f D g q1
 |false=>exact j aa s1 σ f D g q1
end
abbrev TG:=V->St->Hp->(St->Hp->Prop)->Prop
abbrev Ny:=List V->St->Hp->(St->Hp->Prop)->Prop
def PG(X:Cx)(a:Expr)(t:TG):Prop:=
 ∀(aa:List (Addr×Obj))(s:XD)(σ:St)(H:Hp)(v:V)(u:XG)(Q:St->Hp->Prop),Inv X aa σ H s->RelV v u->t v σ H Q->
  wpAny (model X.prog X.w) X.A (assign a X.env u) (λ_ c=>∃b H',Inv X aa b H' c/\Q b H') X.xe s
def Ka(X:Cx)(ts:List Expr)(t:Ny):Prop:=
 ∀(aa:List (Addr×Obj))(s:XD)(σ:St)(H:Hp)(vs:List V)(us:List XG)(Q:St->Hp->Prop),Inv X aa σ H s->Vals vs us->t vs σ H Q->
  wpAny (model X.prog X.w) X.A (assignInOrder ((assignEach ts X.env).map (·.2)) us) (λ_ b=>∃a H',Inv X aa a H' b/\Q a H') X.xe s
section
variable{X:Cx}{pos:Pos}
noncomputable def aU(i:Nat):TG:=λv σ H Q=>Q (σ.set i (some v)) H
def bD(a:X.N.Nodup)(b:X.N[i]?=some x)(c:J2 X.env.scope x)(d:autoParam (X.fn x=true\/X.env.scope.names.lookup x=some .local) ae):PG X (.Name x pos) (aU i):=by intro aa s σ H v u Q I r h;exact wpAny_assign_Name (vy I a b c r (λf e=>⟨_,H,e,h⟩) d)
noncomputable def iG:Ny:=λvs σ H Q=>vs=[]/\Q σ H
noncomputable def be(t:TG)(u:Ny):Ny:=λvs σ H Q=>∃v r,vs=v::r/\t v σ H λa H'=>u r a H' Q
def fQ:Ka X [] iG:=by intro aa s σ H vs us Q I r h;obtain⟨e,h⟩:=h;subst e;cases r;exact assignInOrder_nil ⟨σ,H,I,h⟩
def az(h1:PG X e t)(b:Ka X es u)
 (hs:autoParam ((assignEach (e::es) X.env).map (·.2)=assign e X.env::(assignEach es X.env).map (·.2)) aM):Ka X (e::es) (be t u):=by
 intro aa s σ H vs us Q I r h;obtain⟨v,g,e1,h⟩:=h;subst e1;cases r with
 |cons r c=>rw[hs];refine assignInOrder_cons (bP (h1 aa s σ H _ _ _ I r h) λ_ s1 ⟨a,d,f,q1⟩=>?_);exact b aa s1 a d _ _ Q f c q1
noncomputable def iH(K:XE)(n:Nat)(t:Ny):TG:=λv σ H Q=>∃a xs,v=.ref a/\SqT K H a xs/\xs.length=n/\t xs σ H Q
def iI(g:X.calm=true)(h:Ka X es t)
 (i:autoParam ((assignEach es X.env).length=n) aM) (c:autoParam ((assignEach es X.env).findIdx? (·.1)=none) aM):PG X (.Tuple es k pos) (iH X.K n t):=by
 intro aa s σ H v u Q I r d;obtain⟨a,xs,e1,j,l,d⟩:=d;subst e1;cases r;obtain⟨its,f,m,hz⟩:=I.tuple j;refine assign_Tuple_tuple (I.ok.hd g) m (by simp[i,<- l,f.length]) c λh' p=>?_;have q:Inv X aa σ H {s with heap:=h'}:=I.kept (t':=s.toks) λb o e=>p b o (Ul (T8 e)) e;exact h aa _ σ H xs _ Q q (by simpa using f) d
noncomputable def lU(a:TE)(g:TG):TS:=λD σ H=>a σ H λx b=>g x σ b D.nx
def Kb(a:PE X e te)(b:PG X tg g)(hs:autoParam (swapsWithSole [tg] e pos.line X.env=pure false) aM)(c:autoParam (swappedStores [tg] e X.env=pure none) aM)
 (h1:autoParam ((assignEach [tg] X.env).map (·.2)=[assign tg X.env]) aM):PS X (.Assign [tg] e pos) (lU te g):=by
 intro aa s σ H D I h;refine wpAny_Assign_stores (bP (a aa s σ H _ I h) λv s1 ⟨x,d,f,i,q1⟩=>?_) hs c;rw[h1];exact bP (b aa s1 σ d x v _ f i q1) λ_ s2 q=>q
def jb(a:X.N.Nodup)(b:X.N[i]?=some x)(c:J2 X.env.scope x)(d:PE X e te)(hs:autoParam (swapsWith e (some (.Name x pos')) pos.line X.env=pure false) aM)(f:autoParam (X.fn x=true\/X.env.scope.names.lookup x=some .local) ae) :
 PS X (.Assign [.Name x pos'] e pos) (lU te (aU i)):=by
 intro aa s σ H D I h;refine wpAny_Assign_Name (bP (d aa s σ H _ I h) λv s1 ⟨y,g,j,k,q1⟩=>?_) hs;exact vy j a b c k (λs2 l=>⟨_,g,l,q1⟩) f
def Cs(c:TT)(tb:TS):TS:=λD σ H=>∃W:Nat->St->Hp->Prop,(∃m,W m σ H)/\∀m σ H,W m σ H->
 c σ H λb d=>if b=true then ∃N:St->Hp->Prop,(∀a H',N a H'->∃m',m'<m/\W m' a H')/\tb {D with nx:=N,ct:=N,bk:=D.nx} σ d else D.nx σ d
def Ct(o:PassesOwn (model X.prog X.w) X.A X.env X.xe)(u:PT X c tc)(x:PSs X body tb):PS X (.While c body [] pos) (Cs tc tb):=by
 intro aa s σ H D I h;obtain⟨W,⟨m0,y⟩,turn⟩:=h;refine wpAny_While (codeAny_whileLoop (λn z=>∃e H',Inv X aa e H' z/\W n e H') ?_ m0 ⟨σ,H,I,y⟩);rintro n s1 ⟨d,p,B,C⟩;refine V3 o (bP (u aa s1 d p _ B (turn n d p C)) λb s2 ⟨q,r,q2⟩=>?_);cases b with
 |true=>
  obtain⟨N,t,q2⟩:=q2;rw[T2 rfl];refine V3 o (bP (x aa s2 d q _ r q2) λf E i=>?_);cases f with
  |next=>obtain⟨a,g,j,k⟩:=i;obtain⟨m',l,m⟩:=t a g k;exact⟨m',l,a,g,j,m⟩
  |cont=>obtain⟨a,g,j,k⟩:=i;obtain⟨m',l,m⟩:=t a g k;exact⟨m',l,a,g,j,m⟩
  |brk=>exact i
  |ret v=>exact i
 |false=>rw[T9 UM];exact W9 ⟨d,q,r,q2⟩
end
structure It where
 go:Nat->Hp->Prop
 FI:Nat->Hp->V->Hp->Prop
 stop:Nat->Hp->Prop
def lu(X:Cx)(aa:List (Addr×Obj))(H:Hp)(b:Addr):Prop:=H b=none/\b≠X.env.locals/\b∉X.fs/\(b∈X.ex\/X.s₀.heap.objs.size<=b)/\(∀x c,X.env.cells.lookup x=some c->c≠b)/\∀p∈X.pn++aa,p.1≠b
def Inv.sC(I:Inv X aa σ H s)(a:s.heap.objs.size<=b)(d:H' b=none):lu X aa H' b:=by
 refine⟨d,WA (Uw I.lt a),I.SL a,.inr (Us I.sz a),λx c e z=>?_,λp f z=>?_⟩
 .obtain⟨v,q⟩:=I.cell x c e;exact absurd (Uw q.lt (by rw[z];exact a)) (VJ _)
 .exact absurd (Uw (T8 (I.pin p f).1) (by rw[z];exact a)) (VJ _)
structure Turn(P:XF) (w:World) (K:XE) (tg:Expr) (J:It) (fp:List Addr) (it:Addr) (tn:Nat->Heap->Prop):Prop where
 mem:it∈fp
 obj:∀i h,tn i h->∀b∈fp,∃o,h.get? b=some o/\∀v,o.data≠.cell v
 keep:∀i h h',tn i h->(∀b∈fp,∀o,h.get? b=some o->h'.get? b=some o)->tn i h'
 item:∀(X:Cx),X.prog=P->X.w=w->X.K=K->X.calm=true->∀(i:Nat)(aa:List (Addr×Obj))(s:XD)(σ:St)(H:Hp)(E:XG->XD->Prop),Inv X aa σ H s->(∀b∈fp,lu X aa H b)->tn i s.heap->J.go i H->
  wpAny (model P w) X.A (pyNext (.ref it)) (λr s1=>∃u,r=some u/\
   wpAny (model P w) X.A (letOwnedTupleGo tg (.ref it) u) (λ_ s2=>∃x H',Inv X aa σ H' s2/\RelV x u/\J.FI i H x H'/\tn (i+1) s2.heap/\∀b∈fp,H' b=none) E s1) E s
 done:∀(X:Cx),X.prog=P->X.w=w->X.K=K->X.calm=true->∀(i:Nat)(aa:List (Addr×Obj))(s:XD)(σ:St)(H:Hp)(E:XG->XD->Prop),Inv X aa σ H s->(∀b∈fp,lu X aa H b)->tn i s.heap->J.stop i H->
  wpAny (model P w) X.A (pyNext (.ref it)) (λr s1=>r=none/\Inv X aa σ H s1) E s
 self:∀(A:XH)(i:Nat)(s:XD)(Q:XG->XD->Prop)(E:XG->XD->Prop),tn i s.heap->Q (.ref it) s->wpAny (model P w) A (pyIter (.ref it)) Q E s
abbrev TI:=St->Hp->(It->Hp->Prop)->Prop
def NR(X:Cx)(aa:List (Addr×Obj))(σ:St)(tg:Expr)(R:It->Hp->Prop)(a:XG)(s2:XD):Prop:=∃(it:Addr)(fp:List Addr)(tn:Nat->Heap->Prop)(J:It)(H':Hp),a=.ref it/\Inv X aa σ H' s2/\Turn X.prog X.w X.K tg J fp it tn/\tn 0 s2.heap/\(∀b∈fp,lu X aa H' b)/\R J H'
def PI(X:Cx)(tg iter:Expr)(a:TI):Prop:=
 ∀(aa:List (Addr×Obj))(s:XD)(σ:St)(H:Hp)(R:It->Hp->Prop),Inv X aa σ H s->a σ H R->
  wpAny (model X.prog X.w) X.A (eval iter X.env) (λv s1=>wpAny (model X.prog X.w) X.A (pyIter v) (NR X aa σ tg R) X.xe s1) X.xe s
def Cu(b:s.heap.get? it=some o)(c:o.cls=.type n)(hd:o.data=.fields vs)
 (d:["enumerate","zip","dict_itemiterator","dict_reverseitemiterator","odict_iterator","itertools.zip_longest","itertools.pairwise"].contains n=false) (a:Q () s):wpAny M A (letOwnedTupleGo tg (.ref it) u) Q E s:=by
 unfold letOwnedTupleGo;cases tg<;>first
  |exact TV a
  |(cases u<;>first
     |exact TV a
     |(refine KE (wpAny_load b ?_)
       rw[c,hd];show wpAny M A (if(["enumerate","zip","dict_itemiterator","dict_reverseitemiterator","odict_iterator","itertools.zip_longest","itertools.pairwise"].contains n&&vs[0]?==some (rawInt _))=true then _ else _) Q E s;rw[T9 (by intro h;rw[d,Xe]at h;cases h)];exact TV a))
noncomputable def FU(K:XE)(a:Addr):It:=⟨λi H=>∃xs x,SqL K H a xs/\xs[i]?=some x,λi H x H'=>H'=H/\∀xs,SqL K H a xs->xs[i]?=some x,λi H=>∃xs,SqL K H a xs/\xs.length<=i⟩
noncomputable def Ru(K:XE)(a:Addr):It:=⟨λi H=>∃xs x,SqT K H a xs/\xs[i]?=some x,λi H x H'=>H'=H/\∀xs,SqT K H a xs->xs[i]?=some x,λi H=>∃xs,SqT K H a xs/\xs.length<=i⟩
noncomputable def Q7(lo:Int)(n:Nat):It:=⟨λi _=>i<n,λi H x H'=>H'=H/\x=.int (lo+i),λi _=>n<=i⟩
def sG{K:XE}{tg:Expr}(a it:Addr):Turn P w K tg (FU K a) [it] it (λi h=>h.IsListIter it a i) where
 mem:=by simp
 obj:=λi h st b hb=>by
  have e:b=it:=by simpa using hb
  subst e;obtain⟨o,e,c,d⟩:=st;exact⟨o,e,λv z=>by rw[d]at z;cases z⟩
 keep:=λi h h' st k=>st.at λo e=>k it (by simp) o e
 item:=by intro X hP hw hK hc i aa s σ H E I hf st hg;subst hP hw hK;obtain⟨xs,x,hq,hx⟩:=hg;obtain⟨its,rv,p,hz⟩:=I.list hq;obtain⟨u,hu,ru⟩:=rv.get hx;obtain⟨f0,f1,f2,f3,f4,f5⟩:=hf it (by simp);refine wpAny_pyNext_list_item st p.isList (x:=u) (by simpa using hu) λh' st' sb=>?_;have I1:Inv X aa σ H {s with heap:=h'}:=I.turned (t':=s.toks) (λb o hb e=>(sb.2 b hb).trans e) f0 f1 f3 f4 f5;obtain⟨o,e,c,d⟩:=id st';exact⟨u,rfl,Cu (s:={s with heap:=h'}) e c d (by decide) ⟨x,H,I1,ru,⟨rfl,λys hy=>by rw[I.xD hy hq];exact hx⟩,st',λb hb=>(hf b hb).1⟩⟩
 done:=by intro X hP hw hK hc i aa s σ H E I hf st hg;subst hP hw hK;obtain⟨xs,hq,hx⟩:=hg;obtain⟨its,rv,p,hz⟩:=I.list hq;obtain⟨f0,f1,f2,f3,f4,f5⟩:=hf it (by simp);have hl:=rv.length;exact wpAny_pyNext_list_end (I.ok.hd hc) st p.isList (by simp;lia) λh' eb=>⟨rfl,I.turned (t':=s.toks) (λb o hb e=>eb b o hb e) f0 f1 f3 f4 f5⟩
 self:=λ_ _ _ _ _ st h=>wpAny_pyIter_listiter st h
def xO{K:XE}{tg:Expr}(a it:Addr):Turn P w K tg (Ru K a) [it] it (λi h=>h.IsTupleIter it a i) where
 mem:=by simp
 obj:=λi h st b hb=>by
  have e:b=it:=by simpa using hb
  subst e;obtain⟨o,e,c,d⟩:=st;exact⟨o,e,λv z=>by rw[d]at z;cases z⟩
 keep:=λi h h' st k=>st.at λo e=>k it (by simp) o e
 item:=by intro X hP hw hK hc i aa s σ H E I hf st hg;subst hP hw hK;obtain⟨xs,x,hq,hx⟩:=hg;obtain⟨its,rv,p,hz⟩:=I.tuple hq;obtain⟨u,hu,ru⟩:=rv.get hx;obtain⟨f0,f1,f2,f3,f4,f5⟩:=hf it (by simp);refine wpAny_pyNext_tuple_item st (show s.heap.IsTuple a its.toArray from p) (x:=u) (by simpa using hu) λh' st' sb=>?_;have I1:Inv X aa σ H {s with heap:=h'}:=I.turned (t':=s.toks) (λb o hb e=>(sb.2 b hb).trans e) f0 f1 f3 f4 f5;obtain⟨o,e,c,d⟩:=id st';exact⟨u,rfl,Cu (s:={s with heap:=h'}) e c d (by decide) ⟨x,H,I1,ru,⟨rfl,λys hy=>by rw[I.Cf hy hq];exact hx⟩,st',λb hb=>(hf b hb).1⟩⟩
 done:=by intro X hP hw hK hc i aa s σ H E I hf st hg;subst hP hw hK;obtain⟨xs,hq,hx⟩:=hg;obtain⟨its,rv,p,hz⟩:=I.tuple hq;obtain⟨f0,f1,f2,f3,f4,f5⟩:=hf it (by simp);have hl:=rv.length;exact wpAny_pyNext_tuple_end (I.ok.hd hc) st (show s.heap.IsTuple a its.toArray from p) (by simp;lia) λh' eb=>⟨rfl,I.turned (t':=s.toks) (λb o hb e=>eb b o hb e) f0 f1 f3 f4 f5⟩
 self:=λ_ _ _ _ _ st h=>wpAny_pyIter_tupleiter st h
def xP{K:XE}{tg:Expr}(it:Addr)(lo:Int)(n:Nat):Turn P w K tg (Q7 lo n) [it] it (λi h=>IsRangeIter h it (lo+(i:Nat)*1) ((n:Int)-(i:Nat)) 1) where
 mem:=by simp
 obj:=λi h st b hb=>by grind
 keep:=λi h h' st k=>k it (by simp) _ st
 item:=by intro X hP hw hK hc i aa s σ H E I hf st hg;subst hP hw hK;obtain⟨f0,f1,f2,f3,f4,f5⟩:=hf it (by simp);have W:=Walks.range (prog:=X.prog) (w:=X.w) (I.ok.hd hc) it lo 1 n;refine W.item i s _ _ hg st λv h' tk hv st' kk=>?_;obtain⟨t,rfl⟩:=hv;have I1:Inv X aa σ H {s with heap:=h',toks:=tk}:=I.turned (λb o hb e=>kk b o (by simpa using hb) e) f0 f1 f3 f4 f5;refine⟨_,rfl,Cu (s:={s with heap:=h',toks:=tk}) (n:="range_iterator") st' rfl rfl (by decide) ⟨.int (lo+i),H,I1,⟨t,?_⟩,⟨rfl,rfl⟩,st',λb hb=>(hf b hb).1⟩⟩;rw[Int.mul_one]
 done:=by intro X hP hw hK hc i aa s σ H E I hf st hg;subst hP hw hK;obtain⟨f0,f1,f2,f3,f4,f5⟩:=hf it (by simp);exact wpAny_pyNext_range_end (I.ok.hd hc) st (by have:n<=i:=hg;lia) λh' eb=>⟨rfl,I.turned (t':=s.toks) (λb o hb e=>eb b o hb e) f0 f1 f3 f4 f5⟩
 self:=λ_ _ _ _ _ st h=>wpAny_pyIter_rangeiter st h
section
variable{X:Cx}{tg:Expr}
def lD(K:XE)(c:TE):TI:=λσ H R=>c σ H λx b=>∃a,x=.ref a/\(∃xs,SqL K b a xs)/\R (FU K a) b
def jc{d:TE}(f:PE X l d):PI X tg l (lD X.K d):=by
 intro aa s σ H R I h;refine bP (f aa s σ H _ I h) λv s1 ⟨x,g,c,i,q1⟩=>?_;obtain⟨a,e,⟨xs,j⟩,q⟩:=q1;subst e;cases i;obtain⟨its,m,p,hz⟩:=c.list j;refine Wj p.isList ?_;refine⟨s1.heap.objs.size,[s1.heap.objs.size],_,_,g,rfl,c.kept (t':=s1.toks) λb o e=>RW _ e,sG a _,⟨_,T4 _ rfl,rfl,rfl⟩,λb k=>?_,q⟩;have e:b=s1.heap.objs.size:=by simpa using k
 subst e;exact c.sC (TY _) (c.aT.fresh (TY _))
def Cv{s:XD}{R:It->Hp->Prop}{E:XG->XD->Prop}{lo a:Int}{t u v:Tok}{tk:Nat}(I:Inv X aa σ H s)(h1:-(2^62)<=lo)(d:lo<2^62)(f:-(2^62)<=a)(g:a<2^62)
 (q:R (Q7 lo (a-lo).toNat) H):wX X (pyIter (.ref s.heap.objs.size)) (NR X aa σ tg R) E { s with heap:=s.heap.push { cls:=.type "range",data:=.fields #[.int lo t,.int a u,.int 1 v] },toks:=tk }:=by
 refine wpAny_pyIter_range (IsRange.new ..) (small_one h1 d f g) ?_;have c:Inv X aa σ H { s with heap:=s.heap.push { cls:=.type "range",data:=.fields #[.int lo t,.int a u,.int 1 v] },toks:=tk }:=I.kept λb o e=>RW _ e;refine⟨(s.heap.push { cls:=.type "range",data:=.fields #[.int lo t,.int a u,.int 1 v] }).objs.size,[(s.heap.push { cls:=.type "range",data:=.fields #[.int lo t,.int a u,.int 1 v] }).objs.size],_,_,H,rfl,
  c.kept (t':=tk) λb o e=>RW _ e,xP _ lo (a-lo).toNat,?_,λb h=>?_,q⟩
 .have e1:lo+((0:Nat):Int)*1=lo:=by simp
  have e2:(((a-lo).toNat:Nat):Int)-((0:Nat):Int)=Builtin.Range.rangeSize lo a 1:=by rw[rangeSize_one];split<;>lia
  show IsRangeIter _ _ (lo+((0:Nat):Int)*1) ((((a-lo).toNat:Nat):Int)-((0:Nat):Int)) 1;rw[e1,e2];exact T4 _ rfl
 .have e:b=(s.heap.push { cls:=.type "range",data:=.fields #[.int lo t,.int a u,.int 1 v] }).objs.size:=by simpa using h
  subst e;exact c.sC (TY _) (c.aT.fresh (TY _))
def NS(ta:TA):TI:=λσ H R=>ta σ H λvs a=>∃j:Int,vs=[.int j]/\-(2^62)<=j/\j<2^62/\R (Q7 0 j.toNat) a
def AI{a:Expr}{ta:TA}{p b:Pos}(c:Gl X "range") (d:X.mg "range"=none) (ha:PA X [a] ta) (hs:autoParam (starEach [a] X.env=[(false,eval a X.env)]) aM):PI X tg (.Call (.Name "range" p) [a] [] b) (NS ta):=by
 intro aa s σ H R I h;refine Call_ (jU I c d boot_range (Vj (bP (ha b aa s σ H _ I h) λus s1 ⟨vs,k,f,g,q1⟩=>?_) hs rfl));obtain⟨j,e,q1,q2,q⟩:=q1;subst e;cases g with
 |cons r i=>cases i;obtain⟨t,rfl⟩:=r;exact call_range_1 (Cv f (by lia) (by lia) q1 q2 (by simpa using q))
def nL(c:TI)(g:TG)(tb:TS):TS:=λD σ H=>c σ H λJ d=>∃W:Nat->Nat->St->Hp->Prop,(∃m,W 0 m σ d)/\∀i m σ H,W i m σ H->
 (J.stop i H/\D.nx σ H)\/(J.go i H/\∃N:St->Hp->Prop,(∀a H',N a H'->∃m',m'<m/\W (i+1) m' a H')/\∀x H',J.FI i H x H'->g x σ H' λb e=>tb {D with nx:=N,ct:=N,bk:=D.nx} b e)
noncomputable def pQ(fp:List Addr)(h:Heap):List (Addr×Obj):=fp.filterMap λb=>(h.get? b).map λo=>(b,o)
def jd(a:b∈fp)(e:h.get? b=some o):(b,o)∈pQ fp h:=VE.mpr ⟨b,a,by rw[e];rfl⟩
def AJ(a:p∈pQ fp h):p.1∈fp/\h.get? p.1=some p.2:=by
 obtain⟨b,c,e⟩:=VE.mp a;cases q:h.get? b with
 |none=>rw[q]at e;cases e
 |some o=>rw[q]at e;have d:(b,o)=p:=UX e;subst d;exact⟨c,q⟩
def Inv.pinned(I:Inv X aa σ H s)(a:∀b∈fp,lu X aa H b)(f:∀b∈fp,∃o,s.heap.get? b=some o/\∀v,o.data≠.cell v):Inv X (aa++pQ fp s.heap) σ H s:=
 I.AE λp c=>(Ug.mp c).elim (λz=>I.pin p (UA _ z)) λz=>by
  obtain⟨d,e⟩:=AJ z;obtain⟨g,h,i,_⟩:=a p.1 d
  grind
def Inv.nF(I:Inv X (aa++pl) σ H s):Inv X aa σ H s:=I.AE λp a=>I.pin p (UA _ (UI _ a))
def gS(z:PassesOwn (model X.prog X.w) X.A X.env X.xe)(Q:X.calm=true)(hi:PI X tg iter wi)(hg:PG X tg g)(c:PSs X body tb)
 (hs:autoParam (∀x,foldedSetIterable iter X.env x=pure x) am):PS X (.For tg iter body [] pos) (nL wi g tb):=by
 intro aa s σ H D I h;refine wpAny_For (bP (hi aa s σ H _ I h) λv s1 h1=>bP h1 λitv s2 h2=>?_) hs;obtain⟨it,fp,tn,J,H2,e,I2,T,G,R,W,⟨m0,w0⟩,turn⟩:=h2;subst e;have j:∀{H':Hp},(∀b∈fp,H' b=none)->∀b∈fp,lu X aa H' b:=λhn b c=>⟨hn b c,(R b c).2⟩;refine codeAny_forLoop_any (λn S=>∃i k H',Inv X aa k H' S/\tn i S.heap/\(∀b∈fp,H' b=none)/\W i n k H') ?_ m0 ⟨0,σ,H2,I2,G,λb c=>(R b c).1,w0⟩;rintro n U ⟨i,l,F,V,B,C,w3⟩;rcases turn i n l F w3 with⟨stop,qn⟩|⟨go,N,hN,step⟩
 .refine V3 z (bP (T.done X rfl rfl rfl Q i aa U l F X.xe V (j C) B stop) λr s4 ⟨K,I4⟩=>?_);subst K;exact W9 ⟨l,F,I4,qn⟩
 .refine V3 z (bP (T.item X rfl rfl rfl Q i aa U l F X.xe V (j C) B go) λr s4 ⟨u,K,h4⟩=>?_);subst K;refine V3 z (bP h4 λ_ Y ⟨x,Z,I5,r5,y5,y,L⟩=>?_);have M:=I5.pinned (j L) (T.obj _ _ y);refine V3 z (bP (hg _ Y l Z x u _ M r5 (step x Z y5)) λ_ s6 ⟨O,H6,I6,q6⟩=>?_);refine V3 z (bP (c _ s6 O H6 _ I6 q6) λf P t=>?_);have again:∀{a:St}{p:Hp},Inv X (aa++pQ fp Y.heap) a p P->N a p->∃m,m<n/\∃i k H',Inv X aa k H' P/\tn i P.heap/\(∀b∈fp,H' b=none)/\W i m k H':=λ{a p} q E=>by obtain⟨m',hm,w7⟩:=hN a p E;refine⟨m',hm,i+1,a,p,q.nF,T.keep _ _ _ y λb c o e=>(q.pin (b,o) (UA _ (UA _ (jd c e)))).1,λb c=>?_,w7⟩;obtain⟨o,e,d⟩:=T.obj _ _ y b c;exact(q.pin (b,o) (UA _ (UA _ (jd c e)))).2.1
  cases f with
  |next=>obtain⟨a,p,q,E⟩:=t;exact again q E
  |cont=>obtain⟨a,p,q,E⟩:=t;exact again q E
  |brk=>obtain⟨a,p,q,t⟩:=t;exact⟨a,p,q.nF,t⟩
  |ret v=>obtain⟨x7,a,p,q,r7,t⟩:=t;exact⟨x7,a,p,q.nF,r7,t⟩
end
def vD{K:XE}{a:Addr}{xs:List V}{g:TG}{tb:TS}{D:Ends}{σ:St}{H:Hp}(b:Nat->St->Hp->Prop)(j:b 0 σ H)(k:∀i σ H,i<=xs.length->b i σ H->SqL K H a xs)
 (hs:∀i x σ H,xs[i]?=some x->b i σ H->g x σ H λc h=>tb {D with nx:=b (i+1),ct:=b (i+1),bk:=D.nx} c h) (hd:∀σ H,b xs.length σ H->D.nx σ H) :
 ∃W:Nat->Nat->St->Hp->Prop,(∃m,W 0 m σ H)/\∀i m σ H,W i m σ H->
  ((FU K a).stop i H/\D.nx σ H)\/((FU K a).go i H/\∃N:St->Hp->Prop,(∀d H',N d H'->∃m',m'<m/\W (i+1) m' d H')/\∀x H',(FU K a).FI i H x H'->g x σ H' λc h=>tb {D with nx:=N,ct:=N,bk:=D.nx} c h):=by
 refine⟨λi m σ H=>m=xs.length-i/\i<=xs.length/\b i σ H,⟨xs.length,by simp,UB _,j⟩,?_⟩;rintro i m σ H ⟨rfl,l,p⟩;have q:=k i σ H l p;by_cases f:i<xs.length
 .refine .inr ⟨⟨xs,xs[i],q,by simp[f]⟩,b (i+1),λd H' n=>⟨xs.length-(i+1),by lia,rfl,f,n⟩,λx H' y=>?_⟩;obtain⟨e,y⟩:=y;subst e;exact hs i x σ _ (y xs q) p
 .have e:i=xs.length:=by lia
  subst e;exact .inl ⟨⟨xs,q,TY _⟩,hd σ H p⟩
abbrev R2:=V->V->Hp->VK->Prop
def OpR(X:Cx)(f:XG->XG->Sem XG)(r:R2):Prop:=
 ∀(aa:List (Addr×Obj))(s:XD)(σ:St)(H:Hp)(x y:V)(v u:XG)(Q:VK),Inv X aa σ H s->RelV x v->RelV y u->r x y H Q->
  wpAny (model X.prog X.w) X.A (f v u) (EP X aa σ Q) X.xe s
def Rv(X:Cx)(f:XG->Sem XG)(r:V->Hp->VK->Prop):Prop:=
 ∀(aa:List (Addr×Obj))(s:XD)(σ:St)(H:Hp)(x:V)(v:XG)(Q:VK),Inv X aa σ H s->RelV x v->r x H Q->
  wpAny (model X.prog X.w) X.A (f v) (EP X aa σ Q) X.xe s
def CallR(X:Cx)(f:XG)(r:List V->Hp->VK->Prop):Prop:=
 ∀(aa:List (Addr×Obj))(s:XD)(σ:St)(H:Hp)(xs:List V)(us:List XG)(Q:VK),Inv X aa σ H s->Vals xs us->r xs H Q->
  wpAny (model X.prog X.w) X.A (call f us) (EP X aa σ Q) X.xe s
def Rw(X:Cx)(r:V->Hp->(Bool->Hp->Prop)->Prop):Prop:=
 ∀(aa:List (Addr×Obj))(s:XD)(σ:St)(H:Hp)(x:V)(v:XG)(Q:Bool->Hp->Prop),Inv X aa σ H s->RelV x v->r x H Q->
  wpAny (model X.prog X.w) X.A (truthy v) (TP X aa σ Q) X.xe s
noncomputable def lV(r:R2)(ta tb:TE):TE:=λσ H Q=>ta σ H λx a=>tb σ a λy b=>r x y b Q
noncomputable def Ta(r:V->Hp->VK->Prop)(ta:TE):TE:=λσ H Q=>ta σ H λx a=>r x a Q
noncomputable def rI(C:Int->Int->Prop)(g:Int->Int->V):R2:=λx y H Q=>∃i j,x=.int i/\y=.int j/\C i j/\Q (g i j) H
noncomputable def AK(g:Int->Int->V):R2:=λx y H Q=>∃i j,x=.int i/\y=.int j/\Q (g i j) H
noncomputable def rU(g:Int->V):V->Hp->VK->Prop:=λx H Q=>∃i,x=.int i/\Q (g i) H
section
variable{X:Cx}{a b:Expr}{ta tb:TE}{pos:Pos}
def Kc(ha:PE X a ta)(i:PE X b tb){R:V->V->Hp->Prop}(I:Inv X aa σ H s)
 (h:ta σ H λx g=>tb σ g λy c=>R x y c) {Q:XG->XD->Prop} {f:XG->XG->Sem XG}
 (j:∀v u s2 x y c,Inv X aa σ c s2->RelV x v->RelV y u->R x y c->wX X (f v u) Q X.xe s2) :
 wX X (eval a X.env) (λv d=>wX X (eval b X.env) (λu e=>wX X (f v u) Q X.xe e) X.xe d) X.xe s:=by
 refine bP (ha aa s σ H _ I h) λv s1 ⟨x,g,k,l,q1⟩=>?_;refine bP (i aa s1 σ g _ k q1) λu s2 ⟨y,c,m,n,q2⟩=>?_;exact j v u s2 x y c m l n q2
def pR{op:Operator}(c:OpR X (binaryOp op) r)(ha:PE X a ta)(d:PE X b tb):PE X (.BinOp a op b pos) (lV r ta tb):=by intro aa s σ H Q I h;exact wpAny_BinOp (Kc ha d I h λv u s2 x y e f g i q=>c aa s2 σ e x y v u Q f g i q)
def NT(c:Rv X (unaryOp op) r)(ha:PE X a ta):PE X (.UnaryOp op a pos) (Ta r ta):=by intro aa s σ H Q I h;exact UnaryOp_ (bP (ha aa s σ H _ I h) λv s1 ⟨x,d,e,f,q1⟩=>c aa s1 σ d x v Q e f q1)
def NU{f:XG->XG->Sem XG}{C:Int->Int->Prop}{g:Int->Int->Int}
 (rule:∀(i j:Int)(t u:Tok)(s:XD)(Q:XG->XD->Prop)(E:XG->XD->Prop),C i j->Q (.int (g i j) s.toks) {s with toks:=s.toks+1}->wX X (f (.int i t) (.int j u)) Q E s) :
 OpR X f (rI C λi j=>.int (g i j)):=by
 intro aa s σ H x y v u Q I c d h;obtain⟨i,j,rfl,rfl,e,q⟩:=h;obtain⟨t,rfl⟩:=c;obtain⟨t',rfl⟩:=d;exact rule i j t t' s _ _ e ⟨.int (g i j),H,I.tok _,⟨_,rfl⟩,q⟩
def Ke{f:XG->XG->Sem XG}{g:Int->Int->Int}
 (rule:∀(i j:Int)(t u:Tok)(s:XD)(Q:XG->XD->Prop)(E:XG->XD->Prop),Q (.int (g i j) s.toks) {s with toks:=s.toks+1}->wX X (f (.int i t) (.int j u)) Q E s) :
 OpR X f (AK λi j=>.int (g i j)):=by
 intro aa s σ H x y v u Q I c d h;obtain⟨i,j,rfl,rfl,q⟩:=h;obtain⟨t,rfl⟩:=c;obtain⟨t',rfl⟩:=d;exact rule i j t t' s _ _ ⟨.int (g i j),H,I.tok _,⟨_,rfl⟩,q⟩
def Kf{f:XG->XG->Sem XG}{g:Int->Int->Bool}
 (rule:∀(i j:Int)(t u:Tok)(s:XD)(Q:XG->XD->Prop)(E:XG->XD->Prop),Q (.bool (g i j)) s->wX X (f (.int i t) (.int j u)) Q E s) :
 OpR X f (AK λi j=>.bl (g i j)):=by
 intro aa s σ H x y v u Q I c d h;obtain⟨i,j,rfl,rfl,q⟩:=h;obtain⟨t,rfl⟩:=c;obtain⟨t',rfl⟩:=d;exact rule i j t t' s _ _ ⟨.bl (g i j),H,I,rfl,q⟩
def NV(i j:Int):Prop:=0<j/\j<1073741824
def Rx(i j:Int):Prop:=0<=j/\j<=1000000/\i.natAbs<2^64
def CMul(i j:Int):Prop:=(-(2^64)<i/\i<2^64)\/(-(2^64)<j/\j<2^64)
def CMul.ok(h:CMul i j):IntMulOk i j:=by
 rcases h with⟨h1,c⟩|⟨h1,c⟩
 .exact .of_left (intBits_le_64 h1 c)
 .exact .of_right (intBits_le_64 h1 c)
def xQ(k:Nat):(0:Int)<=2^k:=by rw[two_pow_cast];exact Int.natCast_nonneg _
def op_add:OpR X (binaryOp .Add) (AK λi j=>.int (i+j)):=Ke λ_ _ _ _ _ _ _ q=>add_int q
def Kg:OpR X (binaryOp .Mult) (rI CMul λi j=>.int (i*j)):=NU λ_ _ _ _ _ _ _ c q=>mul_int q c.ok
def FV:OpR X (binaryOp .FloorDiv) (rI NV λi j=>.int (i/j)):=NU λi j _ _ _ _ _ c q=>by have h1:(0:Int)<j:=c.1;have d:j<1073741824:=c.2;exact floordiv_int (by lia) (by rw[Wo i (by lia)];exact q) (.inl (PyProof.noPylong_small (by lia)))
def Kh:OpR X (binaryOp .Mod) (rI (λ_ j=>0<j) λi j=>.int (i%j)):=NU λi j _ _ _ _ _ c q=>by have h1:(0:Int)<j:=c;exact mod_int' (by lia) (by rw[Int.fmod_eq_emod_of_nonneg i (by lia)];exact q)
def Ki:OpR X (binaryOp .Pow) (rI Rx λi j=>.int (i^j.toNat)):=NU λ_ _ _ _ _ _ _ c q=>pow_int_small c.1 c.2.1 c.2.2 q
def Kj:OpR X (binaryOp .RShift) (rI (λ_ j=>0<=j) λi j=>.int (i/2^j.toNat)):=NU λi j _ _ _ _ _ c q=>rshift_int c (by rw[Wo i (xQ _)];exact q)
def Kk:OpR X (binaryOp .BitAnd) (AK λi j=>.int (Builtin.bitAnd i j)):=Ke λ_ _ _ _ _ _ _ q=>and_int q
def Kl:OpR X (binaryOp .BitXor) (AK λi j=>.int (Builtin.bitXor i j)):=Ke λ_ _ _ _ _ _ _ q=>xor_int q
def Tc{f:XG->Sem XG}{g:Int->Int}
 (rule:∀(i:Int)(t:Tok)(s:XD)(Q:XG->XD->Prop)(E:XG->XD->Prop),Q (.int (g i) s.toks) {s with toks:=s.toks+1}->wX X (f (.int i t)) Q E s) :
 Rv X f (rU λi=>.int (g i)):=by
 intro aa s σ H x v Q I c h;obtain⟨i,rfl,q⟩:=h;obtain⟨t,rfl⟩:=c;exact rule i t s _ _ ⟨.int (g i),H,I.tok _,⟨_,rfl⟩,q⟩
def Km:Rv X (unaryOp .USub) (rU λi=>.int (-i)):=Tc λ_ _ _ _ _ q=>neg_int q
end
noncomputable def Ry:V->V->Bool
 |.bn,.bn=>true|.bn,.int _=>true|.int _,.bn=>true|.bn,.bl _=>true|.bl _,.bn=>true|.bn,.str _=>true|.str _,.bn=>true
 |.int _,.int _=>true|.bl _,.bl _=>true|.str _,.str _=>true|.Cd _,.Cd _=>true
 |.int _,.str _=>true|.str _,.int _=>true|.bl _,.str _=>true|.str _,.bl _=>true
 |_,_=>false
def Nz:R2:=λx y H Q=>Ry x y=true/\Q (.bl (decide (x=y))) H
def FW:decide (V.int i=V.int j)=(i==j):=by rw[WC];simp
def Kn:decide (V.bl i=V.bl j)=(i==j):=by rw[WC];simp
def FX:decide (V.str i=V.str j)=(i==j):=by rw[WC];simp
def FY:decide (V.Cd i=V.Cd j)=(i.toList==j.toList):=by rw[WC];cases i;cases j;simp
section
variable{X:Cx}{a b c:Expr}{ta tb:TE}{pos:Pos}
def dg(I:Inv X aa σ H s)(q:Q (.bl k) H)(e:k=k'):EP X aa σ Q (.bool k') s:=by subst e;exact⟨.bl k,H,I,rfl,q⟩
def zg:OpR X (compareOp .Eq) Nz:=by
 intro aa s σ H x y v u Q I e d h;obtain⟨hs,q⟩:=h;cases x with
 |bn=>
  cases e;cases y with
  |bn=>cases d;exact PySem.EqNone.eq_none_none (dg I q (by simp))
  |bl j=>cases d;exact PySem.EqNone.eq_none_bool (dg I q (by simp))
  |int j=>obtain⟨t',rfl⟩:=d;exact PySem.EqNone.eq_none_int (dg I q (by simp))
  |str j=>obtain⟨t',rfl⟩:=d;exact PySem.EqNone.eq_none_str (dg I q (by simp))
  |_=>exact absurd (show false=true from hs) UM
 |bl i=>
  cases e;cases y with
  |bn=>cases d;exact PySem.EqNone.eq_bool_none (dg I q (by simp))
  |bl j=>cases d;exact eq_bool (dg I q Kn)
  |str j=>obtain⟨t',rfl⟩:=d;exact PySem.EqMixed.eq_bool_str (dg I q (by simp))
  |_=>exact absurd (show false=true from hs) UM
 |int i=>
  obtain⟨t,rfl⟩:=e;cases y with
  |bn=>cases d;exact PySem.EqNone.eq_int_none (dg I q (by simp))
  |int j=>obtain⟨t',rfl⟩:=d;exact eq_int (dg I q FW)
  |str j=>obtain⟨t',rfl⟩:=d;exact PySem.EqMixed.eq_int_str (dg I q (by simp))
  |_=>exact absurd (show false=true from hs) UM
 |str i=>
  obtain⟨t,rfl⟩:=e;cases y with
  |bn=>cases d;exact PySem.EqNone.eq_str_none (dg I q (by simp))
  |bl j=>cases d;exact PySem.EqMixed.eq_str_bool (dg I q (by simp))
  |int j=>obtain⟨t',rfl⟩:=d;exact PySem.EqMixed.eq_str_int (dg I q (by simp))
  |str j=>obtain⟨t',rfl⟩:=d;exact eq_str (dg I q FX)
  |_=>exact absurd (show false=true from hs) UM
 |Cd i=>
  obtain⟨t,rfl⟩:=e;cases y with
  |Cd j=>obtain⟨t',rfl⟩:=d;exact PySem.W.eq_bytes (dg I q FY)
  |_=>exact absurd (show false=true from hs) UM
 |_=>cases y<;>exact absurd (show false=true from hs) UM
def IG:OpR X (compareOp .Lt) (AK λi j=>.bl (decide (i<j))):=Kf λ_ _ _ _ _ _ _ q=>lt_int q
def NW:OpR X (compareOp .Gt) (AK λi j=>.bl (decide (j<i))):=Kf λ_ _ _ _ _ _ _ q=>gt_int q
def NY:OpR X (compareOp .GtE) (AK λi j=>.bl (decide (j<=i))):=Kf λ_ _ _ _ _ _ _ q=>ge_int q
def Ko:OpR X (compareOp .Is) (λx y H Q=>y=.bn/\Q (.bl (decide (x=.bn))) H):=by
 intro aa s σ H x y v u Q I d e h;obtain⟨rfl,q⟩:=h;cases e;refine is_none_gen (dg I q ?_);cases x<;>first
  |(cases d;rfl)
  |(obtain⟨t,rfl⟩:=d;rfl)
def OpR.or(h:OpR X f r)(h':OpR X f r'):OpR X f (λx y H Q=>r x y H Q\/r' x y H Q):=by
 intro aa s σ H x y v u Q I d e q;rcases q with q|q
 .exact h aa s σ H x y v u Q I d e q
 .exact h' aa s σ H x y v u Q I d e q
def bR(b:Expr)(h:autoParam (op≠.In) ab)(d:autoParam (op≠.NotIn) ab):behindInMarks op b=false:=by
 have e1:(op==CmpOp.In)=false:=by cases op<;>first|rfl|exact absurd rfl h
 have e2:(op==CmpOp.NotIn)=false:=by cases op<;>first|rfl|exact absurd rfl d
 cases b<;>simp[behindInMarks,e1,e2]
def zh(d:OpR X (compareOp op) r)(ha:PE X a ta)(e:PE X b tb)(f:behindInMarks op b=false):PE X (.Compare a [op] [b] pos) (lV r ta tb):=by intro aa s σ H Q I h;exact wpAny_Compare1 (Kc ha e I h λv u s2 x y g i j k q=>d aa s2 σ g x y v u Q i j k q) f
noncomputable def oP(t:TE):TT:=λσ H Q=>t σ H λx H'=>∃k,x=.bl k/\Q k H'
def je(d:OpR X (compareOp op) r)(ha:PE X a ta)(f:PE X b tb)(g:behindInMarks op b=false):PT X (.Compare a [op] [b] pos) (oP (lV r ta tb)):=by intro aa s σ H Q I h;refine wpAny_isTrue_Compare1 (bP (ha aa s σ H _ I h) λv s1 ⟨x,i,j,l,q1⟩=>bP (f aa s1 σ i _ j q1) λu s2 ⟨y,m,n,o,q2⟩=>bP (d aa s2 σ m x y v u _ n l o q2) λc A ⟨z,p,q,t,k,e,w⟩=>?_) g;subst e;cases t;exact Vq ⟨p,q,w⟩
def Kp(K:XE)(x:V)(H:Hp)(k:Bool):Prop:=
 match x with
 |.bn=>k=false
 |.bl b=>k=b
 |.int i=>k=(i != 0)
 |.str y=>y.length<=sizeLine/\k=((y.length:Int) != 0)
 |.Cd y=>y.size<=sizeLine/\k=((y.size:Int) != 0)
 |.ref p=>(∃xs,SqL K H p xs/\k=!xs.isEmpty)\/(∃xs,SqT K H p xs/\k=!xs.isEmpty)\/∃kvs,H p=some (.dK kvs)/\k=!kvs.isEmpty
 |_=>False
def xR{κ:Type}{kvs:List (κ×V)}{vs:List (κ×XG)}(r:KV kvs vs):(!vs.isEmpty)=!kvs.isEmpty:=by cases r<;>rfl
def pS(r:Vals xs its):(!its.toArray.isEmpty)=!xs.isEmpty:=by cases r<;>simp
def nM:(sizeLine:Nat)<2^63:=by rw[Ux];decide
def Kq:Rw X (λx H Q=>∃k,Kp X.K x H k/\Q k H):=by
 intro aa s σ H x v Q I f h;obtain⟨k,e,q⟩:=h;have o:=nM;have hs:sizeLine=16777216:=Ux;cases x with
 |bn=>cases f;have d:k=false:=e;subst d;exact truthy_none ⟨H,I,q⟩
 |bl b=>cases f;have d:k=b:=e;subst d;exact Vq ⟨H,I,q⟩
 |int i=>obtain⟨t,rfl⟩:=f;have d:k=(i != 0):=e;subst d;exact PySem.P.truthy_int ⟨H,I,q⟩
 |str y=>obtain⟨t,rfl⟩:=f;obtain⟨l,d⟩ : y.length<=sizeLine/\k=((y.length:Int) != 0):=e;subst d;exact PySem.P.truthy_str (by lia) ⟨H,I.tok _,q⟩
 |Cd y=>obtain⟨t,rfl⟩:=f;obtain⟨l,d⟩ : y.size<=sizeLine/\k=((y.size:Int) != 0):=e;subst d;exact PySem.W.truthy_bytes (by lia) ⟨H,I.tok _,q⟩
 |ref p=>
  cases f;have d:(∃xs,SqL X.K H p xs/\k=!xs.isEmpty)\/(∃xs,SqT X.K H p xs/\k=!xs.isEmpty)\/∃kvs,H p=some (.dK kvs)/\k=!kvs.isEmpty:=e;rcases d with⟨xs,g,d⟩|⟨xs,g,d⟩|⟨kvs,g,d⟩
  .subst d;obtain⟨its,r,pl,hz⟩:=I.list g;have j:=r.length;exact wpAny_truthy_list pl.isList (by simp only[Ua];lia) ⟨H,I.tok _,by rw[pS r];exact q⟩
  .subst d;obtain⟨its,r,pl,hz⟩:=I.tuple g;have j:=r.length;exact truthy_tuple pl (by simp only[Ua];lia) ⟨H,I.tok _,by rw[pS r];exact q⟩
  .subst d;obtain⟨hz,n,vs,r,m⟩ : kvs.length<=sizeLine/\(p==sysModules)=false/\∃vs,KV kvs vs/\s.heap.DictOf (aF X.prog X.w) p vs:=I.aT p _ g;have j:kvs.length=vs.length:=Wi r;exact wpAny_truthy_dict n m (by lia) ⟨H,I.tok _,by rw[xR r];exact q⟩
 |_=>exact(show False from e).elim
def Cw(ha:PE X a ta)(e:∀d,isTrue a X.env d=(do let v <- d;standAt a.pos;holding [v] (truthy v))) :
 PT X a (λσ H Q=>ta σ H λx H'=>∃k,Kp X.K x H' k/\Q k H'):=by
 intro aa s σ H Q I h;exact isTrue_plain (bP (ha aa s σ H _ I h) λv s1 ⟨x,f,g,i,q1⟩=>Kq aa s1 σ f x v Q g i q1) (e _)
def xS:OpR X (binaryOp .Add) (λx y H Q=>∃i j,x=.str i/\y=.str j/\i.length+j.length<=sizeLine/\Q (.str (i++j)) H):=by intro aa s σ H x y v u Q I d e h;obtain⟨i,j,rfl,rfl,hz,q⟩:=h;obtain⟨t,rfl⟩:=d;obtain⟨t',rfl⟩:=e;exact add_str (λt' tk=>⟨.str (i++j),H,I.tok _,⟨_,rfl⟩,q⟩) hz
def gm(r:Vals [x] us):∃u,us=[u]/\RelV x u:=by
 cases r with
 |cons d e=>cases e;exact⟨_,rfl,d⟩
def zi(r:Vals [x,y] us):∃u d,us=[u,d]/\RelV x u/\RelV y d:=by
 cases r with
 |cons e f=>
  cases f with
  |cons g h=>cases h;exact⟨_,_,rfl,e,g⟩
def vE:CallR X (.builtin "divmod") (λxs H Q=>∃i j,xs=[.int i,.int j]/\NV i j/\∀p,H p=none->Q (.ref p) (aO H p (.tup [.int (i/j),.int (i%j)]))):=by intro aa s σ H xs us Q I r h;obtain⟨i,j,rfl,⟨h1,f⟩,q⟩:=h;obtain⟨u,g,rfl,⟨t,rfl⟩,⟨t',rfl⟩⟩:=zi r;refine divmod_int (by lia) ?_ (.inl (PyProof.noPylong_small (by lia)));rw[Wo i (by lia),Int.fmod_eq_emod_of_nonneg i (by lia)];have d:H s.heap.objs.size=none:=I.aT.fresh (TY _);refine⟨.ref s.heap.objs.size,_,?_,rfl,q _ d⟩;refine I.laid (λb o e=>RW _ e) (TY _) ⟨by simp only[Ue,Vx];rw[Ux];decide,[.int (i/j) s.toks,.int (i%j) (s.toks+1)],.cons ⟨_,rfl⟩ (.cons ⟨_,rfl⟩ .nil),?_⟩;exact⟨_,T4 s.heap rfl,rfl,0,rfl⟩
end
structure zc(h:Heap) (x dx C:Addr) (mA:Str->Option XG):Prop where
 obj:h.get? x=some (instObj C dx)
 ns:h.Ns1 dx mA
 ne:dx≠x
def AM{h:Heap}{b:Str->Option XG}(n:h.Ns1 dx b):∃od,h.get? dx=some od/\∀name,lookIn name od=some (b name):=by
 obtain⟨o,es,k,c,hd,d,_,f⟩:=n;refine⟨o,c,λname=>?_⟩;have e:=f name;unfold nsFind findBy at e;rw[<- Array.find?_toList]at e;unfold lookIn;rw[hd];dsimp only;split
 .rename_i y q;rw[q]at e;exact VD some e
 .rename_i q;rw[q]at e;have a:es.toList.any (·.refKey)=false:=by rw[List.any_eq_false];intro y g;obtain⟨z,t,i⟩:=d y (Array.mem_toList_iff.mp g);simp[DictEntry.refKey,i]
  have j:¬es.toList.any (·.refKey)=true:=by rw[a];exact UM
  rw[T9 j];exact VD some e
def zc.look(I:zc h x dx C mA):∃od,PySem.W.InstAt h x (instObj C dx) C (some od)/\∀name,lookIn name od=some (mA name):=
 let ⟨od,a,b⟩:=AM I.ns
 ⟨od,⟨I.obj,rfl,rfl,a⟩,b⟩
section
variable{prog:XF}{w:World}{A:XH}{E:XG->XD->Prop}{s:XD}{K:XE}{x dx C f:Addr}{mA:Str->Option XG}{name:Str}{v:XG}
def FZ(X:K.In s.heap)(I:zc s.heap x dx C mA)(b:plainGet K C name=true)(c:hasDictIn K C=true)
 (ha:findIn K (.ref C) name=some none) (d:mA name=some v) (a:PySem.W.handedIn v=true) (h:Q v {s with toks:=s.toks+1}) :
 wpAny (model prog w) A (getAttr (.ref x) name expr) Q E s:=by
 obtain⟨od,J,e⟩:=I.look;exact PySem.W.get_value X J (W_ b).1 (PySem.W.findObj_own c ha rfl (by rw[e,d])) a h
def Cy(X:K.In s.heap)(I:zc s.heap x dx C mA)(a:plainGet K C name=true)
 (b:findIn K (.ref C) name=some (some (.ref f))) (c:isFn K (.ref f)=true) (d:mA name=none) (h:Q (.ref f,[.ref x]) s) :
 wpAny (model prog w) A (getMethod (.ref x) name pl) Q E s:=by
 obtain⟨od,J,e⟩:=I.look;exact PySem.W.method_fn X J (W_ a).1 (W_ a).2 b (VW.mp c) (by show(lookIn name od).map (·.isSome)=some false;rw[e,d];rfl) h
def F0(X:K.In s.heap)(I:zc s.heap x dx C mA)
 (hs:findIn K (.ref C) "__setattr__"=some (some (.builtin "object.__setattr__"))) (k:PySem.W.plainOver K C=true) (l:PySem.W.takerIn K C name=some none) (m:hasDictIn K C=true)
 (n:PySem.Within mA ns) (hsz:ns.length<=sizeLine)
 (h:∀h',zc h' x dx C (λy=>if y=name then some v else mA y)->Heap.SameBut dx s.heap h'->Q () {s with heap:=h',toks:=s.toks+2}) :
 wpAny (model prog w) A (setAttr (.ref x) name v) Q E s:=by
 obtain⟨od,J,u⟩:=I.look;refine PySem.W.set_plain X J hs (PySem.W.osa_open (s:={s with toks:=s.toks+1}) (r:=none) X J k l λb=>?_);obtain⟨z,o,e⟩:=PySem.W.any_some m;have p:s.heap.get? x=some ⟨.ref C,some dx,.plain,#[]⟩:=I.obj;refine KE (TV (KE (KE (wpAny_loadPart p (KE (PySem.W.Looks.here (s:={s with toks:=s.toks+1}) (PySem.W.looks_clsIn X o) ?_))))));rw[e];refine TV (a:=some dx) (KE (TV (KE ?_)));refine wpAny_nsSet1 (s:={s with toks:=s.toks+1}) I.ns λh' c d=>?_;obtain⟨oD,q,t,g,i,j⟩:=c.count (PySem.Within.cons name v n);refine KE (wpAny_lookBehind g (by rw[i];exact pastItsLine_dict (Us j (by rw[Ue];lia))) ?_);exact TV (h _ ⟨(d.2 _ (Vc I.ne)).trans I.obj,c,I.ne⟩ d)
def Cz(X:K.In s.heap)(a:PySem.W.makesIn K C=true)
 (b:findIn K (.ref C) "__init__"=some (some (.ref f))) (c:PySem.W.typeIn K (.ref f)=some (.type "function"))
 (h:codeAny (model prog w) (A.under (.builtin "type.__call__" ⟨.ref C::vs,kw⟩)) (.call (.ref f) ⟨.ref (s.heap.objs.size+1)::vs,kw⟩) (PySem.W.InitBack (s.heap.objs.size+1) R)
   {s with heap:=(s.heap.push emptyDict).push (instObj C s.heap.objs.size)}) :
 codeAny (model prog w) A (.call (.ref C) ⟨vs,kw⟩) R s:=by
 obtain⟨e,g,d,t,os⟩:=s;exact PySem.W.make_core (PySem.W.makes_of X a) (PySem.W.looks_findIn X b) (λself=>PySem.W.bind_fn X self c) (.inl rfl) h
end
noncomputable def iP(f:Str)(v:V):List (Str×V)->List (Str×V)
 |[]=>[(f,v)]
 |(g,x)::r=>if g=f then(g,v)::r else(g,x)::iP f v r
theorem oQ(f g:Str)(v:V):∀fs:List (Str×V),(iP f v fs).lookup g=if g=f then some v else fs.lookup g
 |[]=>by
  show List.lookup g [(f,v)]=_
  grind
 |(k,x)::r=>by
  have a:=oQ f g v r
  grind [iP]
theorem nN(f:Str)(v:V):∀fs:List (Str×V),f∈(iP f v fs).map (·.1)/\∀g,g∈fs.map (·.1)->g∈(iP f v fs).map (·.1)
 |[]=>⟨by simp[iP],λg h=>by simp at h⟩
 |(k,x)::r=>by
  obtain⟨a,b⟩:=nN f v r
  grind [iP]
theorem oR(f:Str)(v:V):∀fs:List (Str×V),(iP f v fs).length<=fs.length+1
 |[]=>by simp[iP]
 |(k,x)::r=>by
  have b:=oR f v r;rw[show iP f v ((k,x)::r)=(if k=f then(k,v)::r else(k,x)::iP f v r)from rfl];by_cases a:k=f
  .rw[T2 a,Ue,Ue];lia
  .rw[T9 a,Ue,Ue];lia
def RelO.some_of(r:RelO (some v) o):∃u,o=some u/\RelV v u:=by
 cases o with
 |none=>exact(show False from r).elim
 |some u=>exact⟨u,rfl,r⟩
def RelO.none_of(r:RelO none o):o=none:=by
 cases o with
 |none=>rfl
 |some u=>exact(show False from r).elim
def AN(r:RelV v u):PySem.W.handedIn u=true:=by
 cases v with
 |bn=>cases(show u=Value.none from r);rfl
 |bl b=>cases(show u=Value.bool b from r);rfl
 |int i=>obtain⟨t,e⟩:=(show ∃t,u=Value.int i t from r);cases e;rfl
 |str x=>obtain⟨t,e⟩:=(show ∃t,u=Value.str x t from r);cases e;rfl
 |Cd b=>obtain⟨t,e⟩:=(show ∃t,u=Value.bytes b t from r);cases e;rfl
 |JW b=>obtain⟨t,e⟩:=(show ∃t,u=Value.float b t from r);cases e;rfl
 |ref a=>cases(show u=Value.ref a from r);rfl
 |ty n=>cases(show u=Value.type n from r);rfl
section
variable{P:XF}{w:World}{H:Hp}{h:Heap}{a C dx:Addr}{fs:List (Str×V)}
def pk(aT:HOk P w H h)(e:H a=some (.ins C dx fs)):∃b,zc h a dx C b/\(∀f,RelO (fs.lookup f) (b f))/\PySem.Within b (fs.map (·.1))/\fs.length<=1000/\H dx=some (.own a):=by obtain⟨d,z,ne,c,b,n,r,q⟩:=(show ObjOk P w H h a (.ins C dx fs)from aT a _ e);exact⟨b,⟨c,n,ne⟩,r,q,z,d⟩
end
structure vg(K:XE) (C:Addr):Prop where
 pg:plainGet K C Str.empty=true
 hd:hasDictIn K C=true
 po:PySem.W.plainOver K C=true
 sa:findIn K (.ref C) "__setattr__"=some (some (.builtin "object.__setattr__"))
theorem vg.get{K:XE}(c:vg K C)(f:Str):plainGet K C f=true:=c.pg
def NoAttr(K:XE)(C:Addr)(f:Str):Prop:=findIn K (.ref C) f=some none
def NoAttr.taker{K:XE}(n:NoAttr K C f):PySem.W.takerIn K C f=some none:=by unfold PySem.W.takerIn;rw[show findIn K (.ref C) f=some none from n];rfl
structure Meth(K:XE) (C:Addr) (m:Str) (f:Addr):Prop where
 at_:findIn K (.ref C) m=some (some (.ref f))
 fn:isFn K (.ref f)=true
 kp:keepIn K (.ref f)=true
section
variable{X:Cx}{aa:List (Addr×Obj)}{σ:St}{H:Hp}{s:XD}{a C dx:Addr}{fs:List (Str×V)}{f:Str}{v:V}{A:XH}{E:XG->XD->Prop}
def xT(I:Inv X aa σ H s)(e:H a=some (.ins C dx fs))(c:vg X.K C)(n:NoAttr X.K C f)(l:fs.lookup f=some v)
 (h:∀u d,Inv X aa σ H d->RelV v u->Q u d):wpAny (model X.prog X.w) A (getAttr (.ref a) f b) Q E s:=by
 obtain⟨i,O,r,_,_,_⟩:=pk I.aT e;obtain⟨u,j,g⟩:=RelO.some_of (v:=v) (o:=i f) (by rw[<- l];exact r f);exact FZ I.oN O (c.get f) c.hd n j (AN g) (h u _ (I.tok _) g)
def pT(I:Inv X aa σ H s)(e:H a=some (.ins C dx fs))(c:vg X.K C)(k:Meth X.K C m g)(l:fs.lookup m=none)
 (h:Q (.ref g,[.ref a]) s):wpAny (model X.prog X.w) A (getMethod (.ref a) m pl) Q E s:=by
 obtain⟨b,O,r,_,_,_⟩:=pk I.aT e;have d:b m=none:=RelO.none_of (by rw[<- l];exact r m);exact Cy I.oN O (c.get m) k.at_ k.fn d h
def xU(I:Inv X aa σ H s)(e:H a=some (.ins C dx fs))(c:vg X.K C)(n:NoAttr X.K C f)(D:fs.length<1000)(F:RelV y u)
 (h:∀i,Inv X aa σ (aO H a (.ins C dx (iP f y fs))) i->Q () i):wpAny (model X.prog X.w) A (setAttr (.ref a) f u) Q E s:=by
 obtain⟨l,O,r,j,_,k⟩:=pk I.aT e;have hz:(fs.map (·.1)).length<=sizeLine:=by rw[TZ,Ux];lia
 refine F0 I.oN O c.sa c.po n.taker c.hd j hz λh' d m=>h _ ?_;have hd:∃o,h'.get? dx=some o:=let ⟨o,_,_,p,_⟩:=d.ns;⟨o,p⟩;refine I.write (x:=a) (e:=dx) (by rw[e];exact True.intro) (.inr k) (λb q t z=>(m.2 b t).trans z) hd ?_;refine⟨by rw[af O.ne];exact k,?_,O.ne,d.obj,_,d.ns,λg=>?_,λg B=>?_⟩
 .have:=oR f y fs;lia
 .grind [RelO,iP,oQ]
 .by_cases q:g=f
  .rw[q];exact(nN f y fs).1
  .refine(nN f y fs).2 g (j g λz=>B ?_);show(if g=f then some u else l g)=none;rw[T9 q];exact z
def Inv.made(I:Inv X aa σ H s):Inv X aa σ (aO (aO H s.heap.objs.size (.own (s.heap.objs.size+1))) (s.heap.objs.size+1) (.ins C s.heap.objs.size []))
 {s with heap:=(s.heap.push emptyDict).push (instObj C s.heap.objs.size)}:=by
 have e1:(s.heap.push emptyDict).get? s.heap.objs.size=some emptyDict:=T4 s.heap rfl;have e2:((s.heap.push emptyDict).push (instObj C s.heap.objs.size)).get? (s.heap.objs.size+1)=some (instObj C s.heap.objs.size):=by
  have:=T4 (s.heap.push emptyDict) (o:=instObj C s.heap.objs.size) rfl
  rwa [V1]at this
 have c:(s.heap.push emptyDict).Ns s.heap.objs.size (λ_=>none):=⟨emptyDict,#[],_,e1,rfl,(λe d=>absurd d (by simp)),λ_=>rfl⟩;have g:=I.laid (a:=s.heap.objs.size) (o:=.own (s.heap.objs.size+1)) (h':=s.heap.push emptyDict) (t':=s.toks) (λb u q=>RW _ q) (TY _) ⟨_,e1⟩;refine g.laid (a:=s.heap.objs.size+1) (o:=.ins C s.heap.objs.size []) (t':=s.toks) (λb u q=>RW _ q) (Xy (V1 _ _)) ?_;have ne:s.heap.objs.size≠s.heap.objs.size+1:=Ul (VX _);refine⟨by rw[af ne,ag],UB _,ne,e2,λ_=>none,(Heap.Ns1.of_empty c).at λo q=>RW _ q,λ_=>True.intro,λy h=>absurd rfl h⟩
def F1(c:attributeBase e f env (eval e env)=eval e env)
 (h:wpAny (model prog w) A (eval e env) (λo b=>wpAny (model prog w) A (getAttr o f true) Q E b) E s):wpAny (model prog w) A (eval (.Attribute e f pos) env) Q E s:=
 Attribute_any_ h (by rw[arm_eval_Attribute,c])
end
def f7(K:XE)(ta:TE)(f:Str):TE:=λσ H Q=>ta σ H λx b=>∃a C c fs v,x=.ref a/\b a=some (.ins C c fs)/\vg K C/\NoAttr K C f/\fs.lookup f=some v/\Q v b
def tV(K:XE)(ta d:TE)(f:Str):TS:=λD σ H=>d σ H λy e=>ta σ e λx b=>∃a C c fs,x=.ref a/\b a=some (.ins C c fs)/\vg K C/\NoAttr K C f/\fs.length<1000/\
 D.nx σ (aO b a (.ins C c (iP f y fs)))
section
variable{X:Cx}{o e value:Expr}{f:Str}{pos pos':Pos}{ta tv:TE}
def cG(b:PE X e ta)(d:attributeBase e f X.env (eval e X.env)=eval e X.env):PE X (.Attribute e f pos) (f7 X.K ta f):=by intro aa s σ H Q I h;refine F1 d (bP (b aa s σ H _ I h) λu s1 z=>?_);obtain⟨x,g,i,j,a,C,r,fs,v,rfl,k,c,n,l,q⟩:=z;obtain rfl:u=Value.ref a:=j;exact xT i k c n l λu' s2 m p=>⟨v,g,m,p,q⟩
def jV(ha:PE X o ta)(b:PE X value tv)(hs:swapsWith value (some (.Attribute o f pos')) pos.line X.env=pure false):PS X (.Assign [.Attribute o f pos'] value pos) (tV X.K ta tv f):=by intro aa s σ H D I h;refine plainObj_wpAny_Assign_Attribute (bP (b aa s σ H _ I h) λu s1 ⟨y,d,g,i,q⟩=>bP (ha aa s1 σ d _ g q) λj s2 z=>?_) hs;obtain⟨x,t,k,m,a,C,v,fs,rfl,p,c,n,l,q2⟩:=z;obtain rfl:j=Value.ref a:=m;exact xU k p c n l i λw r=>⟨σ,_,r,q2⟩
end
section
variable{X:Cx}{aa:List (Addr×Obj)}{σ:St}{H:Hp}{s:XD}{A:XH}{E:XG->XD->Prop}{Q:XG->XD->Prop}{c:XG}{b:Bool}
inductive oK(K:XE) (H:Hp):V->XG->Prop where
 |bn:oK K H .bn (.type "NoneType")
 |bl (x:Bool):oK K H (.bl x) (.type "bool")
 |int (i:Int):oK K H (.int i) (.type "int")
 |str (x:Str):oK K H (.str x) (.type "str")
 |JW (x:UInt64):oK K H (.JW x) (.type "float")
 |lst {a:Addr} {xs:List V} (e:H a=some (.lst xs)):oK K H (.ref a) (.type "list")
 |ba {a:Addr} {o:Obj} {xs:List V} (e:H a=some (.ba o (.lst xs))):oK K H (.ref a) (.type "list")
 |tup {a:Addr} {xs:List V} (e:H a=some (.tup xs)):oK K H (.ref a) (.type "tuple")
 |dK {a:Addr} {kvs:List (br×V)} (e:H a=some (.dK kvs)):oK K H (.ref a) (.type "dict")
 |dT {a:Addr} {kvs:List (List br×V)} (e:H a=some (.dT kvs)):oK K H (.ref a) (.type "dict")
 |ins {a C dx:Addr} {fs:List (Str×V)} (e:H a=some (.ins C dx fs)) (cl:vg K C) (ha:findIn K (.ref C) "__class__"=some (some (.builtin "object.__class__")))
  (hn:PySem.W.specialIn K (.builtin "object.__class__") "__get__"=some (some (.builtin "getset_descriptor.__get__"))) (htk:PySem.W.takesIn K (.builtin "object.__class__")=some true)
  (hm:PySem.W.mroIn K C (.type "object")=some true):oK K H (.ref a) (.ref C)
def AO(I:Inv X aa σ H s)(d:RelV x u)(ty:oK X.K H x t)(e:PySem.W.kitOne X.K t c=some b)(h:∀tk,Q (.bool b) {s with toks:=tk}) :
 wpAny (model X.prog X.w) A (call (.builtin "isinstance") [u,c]) Q E s:=by
 cases ty with
 |bn=>cases(show u=Value.none from d);exact U_ PySem.W.kitx_none I.oN True.intro e (λz=>nomatch z) h
 |bl y=>cases(show u=Value.bool y from d);exact U_ PySem.W.kitx_bool I.oN True.intro e (λz=>nomatch z) h
 |int i=>obtain⟨t,q⟩:=(show ∃t,u=Value.int i t from d);cases q;exact U_ PySem.W.kitx_int I.oN True.intro e (λz=>nomatch z) h
 |str y=>obtain⟨t,q⟩:=(show ∃t,u=Value.str y t from d);cases q;exact U_ PySem.W.kitx_str I.oN True.intro e (λz=>nomatch z) h
 |JW y=>obtain⟨t,q⟩:=(show ∃t,u=Value.float y t from d);cases q;exact U_ PySem.W.kitx_float I.oN True.intro e (λz=>nomatch z) h
 |@lst a xs f=>cases(show u=Value.ref a from d);obtain⟨_,_,n,_,h1⟩:=(show ObjOk X.prog X.w H s.heap a (.lst xs)from I.aT a _ f);exact U_ PySem.W.kitx_list I.oN ⟨_,h1,rfl⟩ e (λz=>nomatch z) h
 |@ba a k xs f=>cases(show u=Value.ref a from d);obtain⟨_,_,_,n,_,h1⟩:=(show ObjOk X.prog X.w H s.heap a (.ba k (.lst xs))from I.aT a _ f);exact U_ PySem.W.kitx_list I.oN ⟨_,h1,rfl⟩ e (λz=>nomatch z) h
 |@tup a xs f=>cases(show u=Value.ref a from d);obtain⟨_,_,_,p⟩:=(show ObjOk X.prog X.w H s.heap a (.tup xs)from I.aT a _ f);obtain⟨o,h1,g,_⟩:=p;exact U_ PySem.W.kitx_tuple I.oN ⟨o,h1,g⟩ e (λz=>nomatch z) h
 |@dK a kvs f=>cases(show u=Value.ref a from d);obtain⟨_,_,vs,_,p⟩:=(show ObjOk X.prog X.w H s.heap a (.dK kvs)from I.aT a _ f);obtain⟨o,es,l,h1,g,_⟩:=p;exact U_ Xj I.oN ⟨o,h1,g.1⟩ e (λz=>nomatch z) h
 |@dT a kvs f=>cases(show u=Value.ref a from d);obtain⟨_,_,xs,_,o,es,l,h1,g,_⟩:=(show ObjOk X.prog X.w H s.heap a (.dT kvs)from I.aT a _ f);exact U_ Xj I.oN ⟨o,h1,g.1⟩ e (λz=>nomatch z) h
 |@ins a C v fs f cl ha m j r=>cases(show u=Value.ref a from d);obtain⟨B,O,_⟩:=pk I.aT f;obtain⟨od,J,_⟩:=O.look;exact U_ (PySem.W.kitx_own (cl.get _) cl.hd ha m j r) I.oN J e (λz=>nomatch z) h
end
structure dQ(k:Nat) (A:XH):Prop where
 hd:A.handled=none
 dp:A.depth+3*k+5<recursionLimit
 un:A.units+16*k+200<cLine
def dQ.mono(r:dQ k A)(h:j<=k):dQ j A:=⟨r.hd,by have:=r.dp;lia,by have:=r.un;lia⟩
theorem dQ.deeper(r:dQ (k+1) A)(env:Env):dQ k (A.deeper env):=⟨r.hd,by have:=r.dp;show A.depth+1+3*k+5<_;lia,by have:=r.un;show A.units+3+16*k+200<_;lia⟩
def xV{A:XH}{C:Addr}:(A.under (.builtin "type.__call__" ⟨.ref C::us,kw⟩)).depth=A.depth+1:=by
 first|rfl|simp[Around.under,Code.weight,Code.isCreation,Code.isGuard,Code.isCaller,Code.frames,Code.isFrame,guardIds]
def xW{A:XH}{C:Addr}:(A.under (.builtin "type.__call__" ⟨.ref C::us,kw⟩)).units=A.units+1:=by
 first|rfl|simp[Around.under,Code.cUnits,Code.frames,Code.isFrame]
def dQ.make(r:dQ (k+1) A) (C:Addr) (us:List XG) (a:List (Str×XG)):dQ k (A.under (.builtin "type.__call__" ⟨.ref C::us,a⟩)):=⟨r.hd,by have:=r.dp;rw[xV];lia,by have:=r.un;rw[xW];lia⟩
theorem dQ.depth(r:dQ k A):A.depth<recursionLimit:=by have:=r.dp;lia
theorem dQ.units(r:dQ k A):A.units+64<cLine:=by have:=r.un;lia
noncomputable def bv:TA:=λ_ H Q=>Q [] H
noncomputable def aB(ta:TE)(tr:TA):TA:=λσ H Q=>ta σ H λx a=>tr σ a λxs b=>Q (x::xs) b
section
variable{X:Cx}{e:Expr}{es:List Expr}{te:TE}{t:TA}{pos:Pos}
def aG:PA X [] bv:=λ_ _ _ _ H Q I h=>VR ⟨[],H,I,.nil,h⟩
def ah(ha:PE X e te)(a:PA X es t)(hs:autoParam (starEach (e::es) X.env=(false,eval e X.env)::starEach es X.env) aM):PA X (e::es) (aB te t):=by intro pos aa s σ H Q I h;rw[hs];show wpAny _ _ (spliced ((false,eval e X.env)::backTo pos (starEach es X.env))) _ _ s;refine Vd (bP (ha aa s σ H _ I h) λu s1 ⟨x,b,c,d,q1⟩=>?_);exact bP (a pos aa s1 σ b _ c q1) λus s2 ⟨xs,f,g,i,q2⟩=>⟨x::xs,f,g,.cons d i,q2⟩
def jW(t:TA):TE:=λσ H Q=>t σ H λxs a=>xs.length<=sizeLine/\∀p,a p=none->Q (.ref p) (aO a p (.tup xs))
def vF(t:TA):TE:=λσ H Q=>t σ H λxs a=>xs.length<=sizeLine/\∀p,a p=none->Q (.ref p) (aO a p (.lst xs))
def dG{x1}(h:PA X es t):PE X (.Tuple es x1 pos) (jW t):=by intro aa s σ H Q I d;refine wpAny_Tuple_spliced (bP (h pos aa s σ H _ I d) λus s1 ⟨xs,a,c,r,z,q⟩=>⟨by rw[<- r.length];exact z,?_⟩);have f:a s1.heap.objs.size=none:=c.aT.fresh (TY _);refine⟨.ref s1.heap.objs.size,aO a s1.heap.objs.size (.tup xs),c.laid (t':=s1.toks) (λb u e=>RW _ e) (TY _) ?_,rfl,q _ f⟩;exact⟨z,us,r,⟨_,T4 _ rfl,rfl,_,rfl⟩⟩
def jf(h:PA X es t):PE X (.List es pos) (vF t):=by intro aa s σ H Q I d;refine wpAny_List_spliced (bP (h pos aa s σ H _ I d) λus s1 ⟨xs,a,c,r,z,q⟩=>⟨by rw[<- r.length];exact z,?_⟩);have f:a s1.heap.objs.size=none:=c.aT.fresh (TY _);refine⟨.ref s1.heap.objs.size,aO a s1.heap.objs.size (.lst xs),c.laid (t':=s1.toks) (λb u e=>RW _ e) (TY _) ?_,rfl,q _ f⟩;exact⟨z,us,0,r,T4 _ rfl⟩
end
abbrev Sp:=List V->Hp->VK->XK->Prop
abbrev AQ:=List Env->Hp->XD->XK->XG->XD->Prop
structure zd(P:XF) (w:World) (K:XE) (mg:Str->Option XG) (base:Heap) (A:XH) (outer:List Env) (s:XD) (H:Hp):Prop where
 frames:A.frames=some outer
 mod:Mod K mg base
 bs:∀b o,base.get? b=some o->s.heap.get? b=some o/\H b=none
 FH:base.objs.size<=s.heap.objs.size
 oM:s.heap.FunFrames base outer
 JB:∀b∈Cj outer,H b=none
 aT:HOk P w H s.heap
 bare:AllBare s.gens
 kt:Rn K H
def CE(outer:List Env)(P:XF)(w:World)(H:Hp)(s:XD)(Q:VK)(u:XG)(a:XD):Prop:=∃v H',a.os=s.os/\AllBare a.gens/\Un (Cj outer) [] H H' s.heap a.heap/\HOk P w H' a.heap/\RelV v u/\Q v H'
def CR(CX:AQ)(outer:List Env)(P:XF)(w:World)(H:Hp)(s:XD)(Q:VK)(E:XK)(r:Result)(a:XD):Prop:=
 match r with
 |.ok (.ret u)=>CE outer P w H s Q u a
 |.ok _=>False
 |.error e=>CX outer H s E e a
structure bH(P:XF) (w:World) (K:XE) (mg:Str->Option XG) (base:Heap) (CX:AQ) (k:Nat) (f:Addr) (fd:FuncData) (ps:List Str) (sp:Sp):Prop where
 len:∀vs H Q E,sp vs H Q E->vs.length=ps.length
 run:∀(A:XH)(outer:List Env)(s:XD)(H:Hp)(args:Args)(us:List XG)(vs:List V)(Q:VK)(E:XK),dQ k A->zd P w K mg base A outer s H->BindsTo s fd args (ps.zip us)->Vals vs us->sp vs H Q E->
  codeAny (model P w) A (.call (.ref f) args) (CR CX outer P w H s Q E) s
def bH.imp{P:XF}{w:World}{K:XE}{mg:Str->Option XG}{base:Heap}{CX:AQ}(F:bH P w K mg base CX k f fd ps sp)
 (h:∀vs H Q E,sp' vs H Q E->sp vs H Q E):bH P w K mg base CX k f fd ps sp':=
 ⟨λvs H Q E q=>F.len vs H Q E (h _ _ _ _ q),λA outer s H args us vs Q E a b c d hs=>F.run A outer s H args us vs Q E a b c d (h _ _ _ _ hs)⟩
def zd.make{P:XF}{w:World}{K:XE}{mg:Str->Option XG}{base:Heap}(e:zd P w K mg base A outer s H)(C:Addr)(us:List XG)(a:List (Str×XG)) :
 zd P w K mg base (A.under (.builtin "type.__call__" ⟨.ref C::us,a⟩)) outer s H:=⟨by first|exact e.frames|(simpa[Around.under,Code.envs,Code.isFrame,pushEnvs]using e.frames),e.mod,e.bs,e.FH,e.oM,e.JB,e.aT,e.bare,e.kt⟩
section
variable{X:Cx}{aa:List (Addr×Obj)}{σ:St}{H:Hp}{s s':XD}
def Inv.QY(I:Inv X aa σ H s):zd X.prog X.w X.K X.mg X.base X.A X.stack s H:=⟨I.ok.frames,I.ok.mod,I.bs,Us I.ok.FH I.sz,I.stack,I.AD,I.aT,I.bare,I.kt⟩
def Inv.after(I:Inv X aa σ H s)(h:CE X.stack X.prog X.w H s Q u s'):EP X aa σ Q u s':=by obtain⟨v,H',os,bare,un,aT,r,q⟩:=h;obtain⟨c,g,d,t,a⟩:=s';obtain rfl:a=s.os:=os;exact⟨v,H',I.call (h':=c) (g':=g) (d':=d) (t':=t) (ch:=[]) un aT bare (λb z=>absurd z (by simp)),r,q⟩
end
noncomputable def zj(sp:Sp)(a:List V)(E:XK)(t:TA):TE:=λσ H Q=>t σ H λvs b=>sp (vs++a) b Q E
def gn(C:Addr)(m:Str)(sp:Sp)(b:List V)(E:XK)(ta:TE)(t:TA):TE:=λσ H Q=>ta σ H λx c=>∃a d fs,x=.ref a/\c a=some (.ins C d fs)/\fs.lookup m=none/\
 t σ c λvs e=>sp (x::(vs++b)) e Q E
def zk(C:Addr)(sp:Sp)(b:List V)(E:XK)(t:TA):TE:=λσ H Q=>t σ H λvs c=>∀x a,c x=none->c a=none->a≠x->
 sp (.ref x::(vs++b)) (aO (aO c a (.own x)) x (.ins C a [])) (λv d=>v=.bn/\Q (.ref x) d) E
def Binds(K:XE)(fd:FuncData)(ps:List Str)(ds:List XG):Prop:=∀(s:XD)(us:List XG),K.In s.heap->(us++ds).length=ps.length->BindsTo s fd ⟨us,[]⟩ (ps.zip (us++ds))
def Binds.all{K:XE}(h:∀us:List XG,us.length=ps.length->bindArgs fd ⟨us,[]⟩=pure (ps.zip us)):Binds K fd ps []:=λs us _ a=>by rw[Wf]at a ⊢;exact .of_eq (h us a)
def gU(CX:AQ)(X:Cx)(E:XK):Prop:=∀(aa:List (Addr×Obj))(σ:St)(H:Hp)(s:XD)(e:XG)(a:XD),Inv X aa σ H s->CX X.stack H s E e a->X.xe e a
section
variable{X:Cx}{CX:AQ}{k:Nat}{f C:Addr}{fd:FuncData}{ps:List Str}{sp:Sp}{dvs:List V}{ds:List XG}{E:XK}{x m:Str}{p pos apos:Pos}{e o:Expr}{es:List Expr}{ta:TE}{t:TA}
def xX(F:bH X.prog X.w X.K X.mg X.base CX k f fd ps sp)(c:dQ k X.A)(d:Binds X.K fd ps ds)(hd:Vals dvs ds)(g:gU CX X E)
 (I:Inv X aa σ H s) (r:Vals vs us) (h:sp (vs++dvs) H Q E):wX X (call (.ref f) us) (EP X aa σ Q) X.xe s:=by
 have b:Vals (vs++dvs) (us++ds):=r.append hd;have i:(us++ds).length=ps.length:=by rw[<- b.length];exact F.len _ _ _ _ h
 refine wpAny_call (WW (F.run X.A X.stack s H ⟨us,[]⟩ (us++ds) (vs++dvs) Q E c I.QY (d s us I.oN i) b h) λr j a=>?_);cases r with
 |error e=>exact g aa σ H s e j I a
 |ok fl=>
  cases fl with
  |ret u=>exact I.after a
  |next=>exact False.elim a
  |brk=>exact False.elim a
  |cont=>exact False.elim a
def tW(F:bH X.prog X.w X.K X.mg X.base CX k f fd ps sp)(d:dQ k X.A)(g:Gl X x)(i:X.mg x=some (.ref f))(j:keepIn X.K (.ref f)=true)(l:Binds X.K fd ps ds)(hd:Vals dvs ds)(n:gU CX X E)
 (ha:PA X (e::es) t) (a:autoParam (dB x) ab) (u:autoParam (sE X e es) aM) (b:autoParam (bT X pos es) aM) :
 PE X (.Call (.Name x p) (e::es) [] pos) (zj sp dvs E t):=by
 intro aa s σ H Q I h;refine VZ (tT I g i ?_ a);refine Xc (h₀:=X.base) I.ok.mod.mi j (bP (ha pos aa s σ H _ I h) λus s1 ⟨vs,v,c,r,q⟩=>⟨c.oN,?_⟩) u b;exact xX F d l hd n c r q
def gs(v:PE X o ta)(c:vg X.K C)(g:Meth X.K C m f)(F:bH X.prog X.w X.K X.mg X.base CX k f fd ps sp)(y:dQ k X.A)(B:Binds X.K fd ps ds)(hd:Vals dvs ds)(D:gU CX X E)(ha:PA X (e::es) t)
 (b:autoParam (starEach (e::es) X.env=(false,eval e X.env)::starEach es X.env) aM) (d:autoParam (bT X pos es) aM)
 (G:autoParam (eval (.Call (.Attribute o m apos) (e::es) [] pos) X.env=(do
   let i <- eval o X.env
   standAt apos.atName
   let (f,first) <- holding [i] (getMethod i m pl)
   callWith pos f first (backTo pos (starEach (e::es) X.env)) (backToKw pos (keywordEach [] X.env)))) aM) :
 PE X (.Call (.Attribute o m apos) (e::es) [] pos) (gn C m sp dvs E ta t):=by
 intro aa s σ H Q I h;refine PySem.W.methodCall_KW (pl:=pl) (bP (v aa s σ H _ I h) λu s1 z=>?_) G;obtain⟨x,J,j,L,a,N,fs,rfl,M,l,q⟩:=z;obtain rfl:u=Value.ref a:=L;refine pT j M c g l ?_;refine Xc (first:=[.ref a]) (h₀:=X.base) I.ok.mod.mi g.kp (bP (ha pos aa s1 σ J _ j q) λus s2 ⟨vs,O,n,r,q2⟩=>⟨n.oN,?_⟩) b d;exact xX (us:=.ref a::us) (vs:=.ref a::vs) F y B hd D n (.cons rfl r) q2
def pU(i:PE X o ta)(c:vg X.K C)(d:Meth X.K C m f)(F:bH X.prog X.w X.K X.mg X.base CX k f fd ps sp)(j:dQ k X.A)(n:Binds X.K fd ps ds)(hd:Vals dvs ds)(r:gU CX X E)
 (v:autoParam (eval (.Call (.Attribute o m apos) [] [] pos) X.env=(do
   let g <- eval o X.env
   standAt apos.atName
   let (f,first) <- holding [g] (getMethod g m pl)
   callWith pos f first (backTo pos (starEach [] X.env)) (backToKw pos (keywordEach [] X.env)))) aM) :
 PE X (.Call (.Attribute o m apos) [] [] pos) (gn C m sp dvs E ta bv):=by
 intro aa s σ H Q I h;refine PySem.W.methodCall_KW (pl:=pl) (bP (i aa s σ H _ I h) λu s1 z=>?_) v;obtain⟨x,D,b,y,a,G,fs,rfl,B,l,q⟩:=z;obtain rfl:u=Value.ref a:=y;refine pT b B c d l ?_;exact PySem.W.callWith_K0 (first:=[.ref a]) b.oN d.kp (xX (us:=[.ref a]) (vs:=[.ref a]) F j n hd r b (.cons rfl .nil) q)
structure Mk(K:XE) (C f:Addr):Prop where
 makes:PySem.W.makesIn K C=true
 init:findIn K (.ref C) "__init__"=some (some (.ref f))
 fn:isFn K (.ref f)=true
 kp:keepIn K (.ref C)=true
def vG(M:Mk X.K C f)(F:bH X.prog X.w X.K X.mg X.base CX k f fd ps sp)(i:dQ (k+1) X.A)(j:Binds X.K fd ps ds)(hd:Vals dvs ds)
 (l:gU CX X E) (I:Inv X aa σ H s) (r:Vals vs us)
 (h:∀x b,H x=none->H b=none->b≠x->sp (.ref x::(vs++dvs)) (aO (aO H b (.own x)) x (.ins C b [])) (λv n=>v=.bn/\Q (.ref x) n) E) :
 wX X (call (.ref C) us) (EP X aa σ Q) X.xe s:=by
 have d:=h (s.heap.objs.size+1) s.heap.objs.size (I.aT.fresh (Nat.le_succ _)) (I.aT.fresh (TY _)) (Ul (VX _));have c:=Inv.made (C:=C) I;have g:Vals (V.ref (s.heap.objs.size+1)::(vs++dvs)) (Value.ref (s.heap.objs.size+1)::(us++ds)):=.cons rfl (r.append hd);have q:(Value.ref (s.heap.objs.size+1)::us++ds).length=ps.length:=by have e:=g.length;rw[F.len _ _ _ _ d]at e;exact e.symm
 refine wpAny_call (Cz (f:=f) I.oN M.makes M.init (VW.mp M.fn) (WW (F.run _ X.stack _ _ ⟨Value.ref (s.heap.objs.size+1)::us,[]⟩ (Value.ref (s.heap.objs.size+1)::(us++ds)) _ _ E (i.make C us [])
  (c.QY.make C us []) (j _ (Value.ref (s.heap.objs.size+1)::us) c.oN q) g d) λr y a=>?_))
 cases r with
 |error e=>exact l aa σ _ _ e y c a
 |ok fl=>
  cases fl with
  |ret u=>obtain⟨v,H',z,B,D,G⟩:=c.after a;subst D;exact⟨B,⟨V.ref (s.heap.objs.size+1),H',z,rfl,G⟩⟩
  |next=>exact False.elim a
  |brk=>exact False.elim a
  |cont=>exact False.elim a
def F2(M:Mk X.K C f)(F:bH X.prog X.w X.K X.mg X.base CX k f fd ps sp)(d:dQ (k+1) X.A)(g:Gl X x)(i:X.mg x=some (.ref C))(j:Binds X.K fd ps ds)(hd:Vals dvs ds)(l:gU CX X E)
 (ha:PA X (e::es) t) (a:autoParam (dB x) ab) (n:autoParam (sE X e es) aM) (b:autoParam (bT X pos es) aM) :
 PE X (.Call (.Name x p) (e::es) [] pos) (zk C sp dvs E t):=by
 intro aa s σ H Q I h;refine VZ (tT I g i ?_ a);refine Xc (h₀:=X.base) I.ok.mod.mi M.kp (bP (ha pos aa s σ H _ I h) λus s1 ⟨vs,u,c,r,q⟩=>⟨c.oN,?_⟩) n b;exact vG M F d j hd l c r q
def CA(M:Mk X.K C f)(F:bH X.prog X.w X.K X.mg X.base CX k f fd ps sp)(b:dQ (k+1) X.A)(c:Gl X x)(d:X.mg x=some (.ref C))(g:Binds X.K fd ps ds)(hd:Vals dvs ds)(i:gU CX X E)
 (a:autoParam (dB x) ab):PE X (.Call (.Name x p) [] [] pos) (zk C sp dvs E bv):=by
 intro aa s σ H Q I h;refine VZ (tT I c d ?_ a);exact PySem.W.callWith_K0 I.oN M.kp (vG (us:=[]) M F b g hd i I .nil h)
end
def PK(X:Cx)(a:List Keyword)(t:TA):Prop:=∀(b:Pos)(aa:List (Addr×Obj))(s:XD)(σ:St)(H:Hp)(Q:List V->Hp->Prop),Inv X aa σ H s->t σ H Q->wpAny (model X.prog X.w) X.A (evalAll ((backToKw b (keywordEach a X.env)).map (·.2))) (AP X aa σ Q) X.xe s
section
variable{X:Cx}{x:Str}{pos kpos:Pos}{e:Expr}{kws:List Keyword}{te:TE}{t:TA}{nm:Option Str}
def Kr:PK X [] bv:=λ_ _ _ _ H Q I h=>wpAny_evalAll_nil ⟨[],H,I,.nil,h⟩
def F3(ha:PE X e te)(a:PK X kws t):PK X (⟨nm,e,kpos⟩::kws) (aB te t):=by intro pos aa s σ H Q I h;show wpAny _ _ (evalAll ((do let v <- eval e X.env;standAt pos;pure v)::(backToKw pos (keywordEach kws X.env)).map (·.2))) _ _ s;refine wpAny_evalAll_cons (KE (bP (ha aa s σ H _ I h) λu s1 ⟨x,b,c,d,q1⟩=>KE (wpAny_standAt (TV ?_))));exact bP (a pos aa s1 σ b _ c q1) λus s2 ⟨xs,f,g,i,q2⟩=>⟨x::xs,f,g,.cons d i,q2⟩
end
structure aQ(N P:List Str) (sc:Scope):Prop where
 kind:sc.kind=.function
 co:sc.isCoroutine=false
 gen:sc.isGenerator=false
 nd:N.Nodup
 pre:N.take P.length=P
 par:∀x∈P,sc.names.lookup x=some .local\/sc.names.lookup x=some .cell
 Nr:∀y∈sc.names,y.2≠.free
theorem sH{kindOf:Str->Option NameKind}:∀{binds:List (Str×XG)}{m:Str->Option XG},(∀v,(x,v)∉binds)->bindL kindOf binds m x=m x
 |[],_,_=>rfl
 |(n,v)::r,m,h=>by
  unfold bindL;rw[sH λw a=>h w (T3 _ a)];split
  .have:x≠n:=by rintro rfl;exact h v T5
   simp[this]
  .rfl
theorem sI{kindOf:Str->Option NameKind}:∀{binds:List (Str×XG)}{m:Str->Option XG},(∀v,(x,v)∉binds)->bindC kindOf binds m x=m x
 |[],_,_=>rfl
 |(n,v)::r,m,h=>by
  unfold bindC;rw[sI λw a=>h w (T3 _ a)];split
  .rfl
  .have:x≠n:=by rintro rfl;exact h v T5
   simp[this]
theorem sJ{kindOf:Str->Option NameKind}:∀{P:List Str}{vs:List XG}{i:Nat}{m:Str->Option XG},P.Nodup->P[i]?=some x->vs[i]?=some v->kindOf x=some .local->
 bindL kindOf (P.zip vs) m x=some v
 |[],_,_,_,_,h,_,_=>by simp at h
 |_::_,[],_,_,_,_,h,_=>by simp at h
 |p::P,w::vs,0,m,nd,h1,a,b=>by simp at h1 a;subst h1;subst a;show bindL kindOf ((p,w)::P.zip vs) m p=_;unfold bindL;rw[sH λv c=>(UN.mp nd).1 (List.of_mem_zip c).1,T2 b];simp
 |p::P,w::vs,i+1,m,nd,h1,a,b=>by show bindL kindOf ((p,w)::P.zip vs) m x=_;unfold bindL;exact sJ (i:=i) (UN.mp nd).2 (by simpa using h1) (by simpa using a) b
theorem sK{kindOf:Str->Option NameKind}:∀{P:List Str}{vs:List XG}{i:Nat}{m:Str->Option XG},P.Nodup->P[i]?=some x->vs[i]?=some v->kindOf x≠some .local->
 bindC kindOf (P.zip vs) m x=some v
 |[],_,_,_,_,h,_,_=>by simp at h
 |_::_,[],_,_,_,_,h,_=>by simp at h
 |p::P,w::vs,0,m,nd,h1,a,b=>by simp at h1 a;subst h1;subst a;show bindC kindOf ((p,w)::P.zip vs) m p=_;unfold bindC;rw[sI λv c=>(UN.mp nd).1 (List.of_mem_zip c).1,T9 b];simp
 |p::P,w::vs,i+1,m,nd,h1,a,b=>by show bindC kindOf ((p,w)::P.zip vs) m x=_;unfold bindC;exact sK (i:=i) (UN.mp nd).2 (by simpa using h1) (by simpa using a) b
noncomputable def cp(N:List Str)(vs:List V):St:=vs.map some++List.replicate (N.length-vs.length) none
noncomputable def xY(CX:AQ)(P:XF)(w:World)(K:XE)(mg:Str->Option XG)(base:Heap)(N:List Str)(qual:Str)(scope:Scope)(f:Addr)(cd:XG)(A:XH)(outer:List Env)(s:XD)(H:Hp)(E:XK):Cx where
 prog:=P
 w:=w
 K:=K
 mg:=mg
 base:=base
 A:=A.deeper (envOfC qual scope s.heap.objs.size f cd)
 N:=N
 s₀:=s
 H₀:=H
 env:=envOfC qual scope s.heap.objs.size f cd
 outer:=outer
 stack:=envOfC qual scope s.heap.objs.size f cd::outer
 ex:=[]
 calm:=true
 fn:=λ_=>true
 pn:=[]
 xe:=λe s'=>wpAny (model P w) (A.deeper (envOfC qual scope s.heap.objs.size f cd)) (leaving (envOfC qual scope s.heap.objs.size f cd) e) (λ_ s''=>CX outer H s E e s'') (λe' s''=>CX outer H s E e' s'') s'
def vH{a:Scope}(h:a.names.lookup x=some .cell):∃c,(cellsFrom n a.names []).lookup x=some c:=by have q:=PySem.W.cellsFrom_some a.names n [] (.inl h);exact Option.isSome_iff_exists.mp q
def AR{CX:AQ}{P:XF}{w:World}{K:XE}{mg:Str->Option XG}{base:Heap}{N ps:List Str}{qual:Str}{scope:Scope}
 (S:aQ N ps scope) (hd:A.handled=none) (e0:zd P w K mg base A outer s H) (B:vs.length=ps.length) (r:Vals vs us)
 (x:InCallC s s.heap.objs.size (bindL (envOfC qual scope s.heap.objs.size f cd).kindOf (ps.zip us) λ_=>none) (cellsFrom (s.heap.objs.size+1) scope.names []) (bindC (envOfC qual scope s.heap.objs.size f cd).kindOf (ps.zip us) λ_=>none) s1) :
 Inv (xY CX P w K mg base N qual scope f cd A outer s H E) [] (cp N vs) H s1:=by
 have o:ps.length<=N.length:=by have:=VD List.length S.pre;rw[VF]at this;lia
 obtain⟨h1,tk,rfl,j⟩:=x.done;have a:∀b:Addr,b∉(xY CX P w K mg base N qual scope f cd A outer s H E).ex:=λb z=>absurd (show b∈([]:List Addr)from z) (by simp);refine⟨⟨e0.mod,S.kind,rfl,rfl,TY _,λy z c h1 l=>?_,λy hy=>?_,λy c _ h=>?_,λ_=>hd,Around.frames_deeper e0.frames,.inr ⟨rfl,rfl⟩,λb z=>absurd z (a b),e0.bs,e0.FH,λb _ _=>a b,λb z=>absurd z (a b),e0.oM,e0.JB,e0.kt⟩,
  rfl,e0.bare,Un.kept j,⟨_,x.toInCall.ns,λi y v h1 l C=>?_⟩,λy c h=>⟨_,x.cell y c h⟩,e0.aT.fresh (TY _),λy c h=>?_,λp d=>absurd (show p∈([]:List (Addr×Obj))from d) (by simp),e0.aT.kept j,?_⟩
 .exact name_of_addr x.apart (Vr h1) (Vr l)
 .have hy:scope.names.lookup y=some .cell\/scope.names.lookup y=some .free:=hy;rcases hy with hy|hy
  .exact vH hy
  .exact absurd rfl (S.Nr _ (Vr hy))
 .exact WV (x.above y c (Vr h))
 .have D:i<vs.length:=by
   grind [cp]
  have ha:vs[i]?=some v:=by grind [cp]
  obtain⟨u,m,t⟩:=r.get ha;have d:ps[i]?=some y:=by rw[<- S.pre,List.getElem?_take_of_lt (by lia)];exact h1
  have g:ps.Nodup:=by rw[<- S.pre];exact S.nd.sublist (List.take_sublist _ _)
  refine⟨u,t,?_⟩;rcases S.par y (Uz d)with k|k
  .exact .inl ⟨k,sJ g d m k⟩
  .obtain⟨c,e⟩:=vH (n:=s.heap.objs.size+1) k;refine .inr ⟨.inl k,c,e,?_⟩;have q:=x.cell y c e;rw[sK g d m (by show scope.names.lookup y≠_;rw[k];decide)]at q;exact q
 .exact e0.aT.fresh (WV (x.above y c (Vr h)))
 .unfold cp;show _=N.length;rw[Um,TZ,WX];lia
def NZ{CX:AQ}{P:XF}{w:World}{K:XE}{mg:Str->Option XG}{base:Heap}{k:Nat}{f:Addr}{name qual:Str}{a:Arguments}{body:List Stmt}{scope:Scope}{z kV doc pm cdv ct oc:XG}{an od:Option Addr}
 {osl:Array (Option XG)} {N ps:List Str} {sp:Sp} (lk:K.lookup f=some ⟨oc,od,.func (fnOf name qual a body scope z kV doc pm an cdv ct),osl⟩) (j:codeIn K cdv qual=true) (S:aQ N ps scope)
 (len:∀vs H Q E,sp vs H Q E->vs.length=ps.length)
 (d:∀(A:XH)(outer:List Env)(s:XD)(H:Hp)(vs:List V)(Q:VK)(E:XK),dQ k (A.deeper (envOfC qual scope s.heap.objs.size f cdv))->sp vs H Q E->
   ∃t,PSs (xY CX P w K mg base N qual scope f cdv A outer s H E) body t/\t {nx:=λ_ H'=>Q .bn H',rt:=Q} (cp N vs) H) :
 bH P w K mg base CX (k+1) f (fnOf name qual a body scope z kV doc pm an cdv ct) ps sp:=by
 refine⟨len,λA outer s H args us vs Q E l e0 C r h=>?_⟩;have D:=len _ _ _ _ h;have B:K.In s.heap:=e0.mod.mi.keeps λb o e=>(e0.bs b o e).1;have lim:s.heap.NoLimit:=e0.mod.nolimit.keeps λb o e=>(e0.bs b o e).1;have g:∀y∈ps.zip us,scope.names.lookup y.1=some .local\/(scope.names.lookup y.1=some .cell/\((cellsFrom (s.heap.objs.size+1) scope.names []).lookup y.1).isSome=true):=λ⟨n,v⟩ F=>by
  rcases S.par n (List.of_mem_zip F).1 with q|q
  .exact .inl q
  .exact .inr ⟨q,PySem.W.cellsFrom_some _ _ _ (.inl q)⟩
 refine codeAny_call_function l.depth (B _ _ lk) rfl S.co S.gen rfl (PySem.W.codeRec_of B j) (C _ _ _ _ ?_);refine wpAny_newFunctionEnv_cells S.kind g λenv G s1 x=>?_;subst G;refine⟨lim.keeps x.toInCall.keep,codeAny_func ?_⟩;obtain⟨t,L,M⟩:=d A outer s H vs Q E (l.deeper _) h;have I:Inv (xY CX P w K mg base N qual scope f cdv A outer s H E) [] (cp N vs) H s1:=AR S l.hd e0 D r x;refine Vo (L [] s1 (cp N vs) H _ I M) (λfl m hs=>?_) λe m hs=>hs;have i:∀{c:St}{H':Hp}{v:V}{u:XG},Inv (xY CX P w K mg base N qual scope f cdv A outer s H E) [] c H' m->RelV v u->Q v H'->CE outer P w H s Q u m:=λ{c H' v u} J p q=>⟨v,H',J.os,J.bare,J.base,J.aT,p,q⟩;cases fl with
 |ret u=>obtain⟨v,c,H',J,p,q⟩:=hs;exact i J p q
 |next=>obtain⟨c,H',J,q⟩:=hs;exact i (v:=V.bn) (u:=Value.none) J rfl q
 |brk=>obtain⟨_,_,_,q⟩:=hs;exact False.elim q
 |cont=>obtain⟨_,_,_,q⟩:=hs;exact False.elim q
section
variable{X:Cx}{x:Str}{p pos:Pos}{e:Expr}{es:List Expr}{t:TA}{id T:String}{r:List V->Hp->VK->Prop}
noncomputable def F4(r:List V->Hp->VK->Prop)(t:TA):TE:=λσ H Q=>t σ H λvs a=>r vs a Q
def dk(c:CallR X (.builtin id) r) (d:Gl X x) (f:X.mg x=none) (g:bootBuiltins x=some (.builtin id)) (ha:PA X (e::es) t) (i:autoParam (x≠"__name__") ab) (a:autoParam (dB x) ab)
 (j:autoParam (starEach (e::es) X.env=(false,eval e X.env)::starEach es X.env) aM) (b:autoParam (bT X pos es) aM):PE X (.Call (.Name x p) (e::es) [] pos) (F4 r t):=by
 intro aa s σ H Q I h;refine VZ (jU I d f g ?_ i a);exact PyProof.Rows.callWith_builtin1 (bP (ha pos aa s σ H _ I h) λus s1 ⟨vs,k,l,m,q1⟩=>c aa s1 σ k vs us Q l m q1) j b
def nO(c:CallR X (.type T) r) (d:Gl X x) (f:X.mg x=none) (g:bootBuiltins x=some (.type T)) (ha:PA X (e::es) t) (i:autoParam (x≠"__name__") ab) (a:autoParam (dB x) ab)
 (j:autoParam (starEach (e::es) X.env=(false,eval e X.env)::starEach es X.env) aM) (b:autoParam (bT X pos es) aM):PE X (.Call (.Name x p) (e::es) [] pos) (F4 r t):=by
 intro aa s σ H Q I h;refine VZ (jU I d f g ?_ i a);exact Vj (bP (ha pos aa s σ H _ I h) λus s1 ⟨vs,k,l,m,q1⟩=>c aa s1 σ k vs us Q l m q1) j b
end
end L2
namespace HT
open PySem PyProof.Rows
noncomputable def lexLt:List Int->List Int->Bool
 |[],[]=>false
 |[],_::_=>true
 |_::_,[]=>false
 |x::xs,y::a=>if x=y then lexLt xs a else decide (x<y)
def xZ(x y:Int)(xs a:List Int):lexLt (x::xs) (y::a)=if x=y then lexLt xs a else decide (x<y):=rfl
def rJ:lexLt [] []=false:=rfl
def pV(y:Int)(a:List Int):lexLt [] (y::a)=true:=rfl
def pW(x:Int)(xs:List Int):lexLt (x::xs) []=false:=rfl
def CB(A:XH)(s:XD)(a:Int)(t:Tok)(c:Int)(u:Tok):∃e,SeqAt.EqAt A s (.int a t) (.int c u) e/\(e=true↔a=c):=⟨(a==c),SeqAt.EqAt.int_int a t c u,by simp⟩
def rcLt_int(A:XH)(s:XD)(a:Int)(t:Tok)(c:Int)(u:Tok)(prog:XF)(w:World)(E:XG->XD->Prop)(Q:XG->XD->Prop)(h:Q (.bool (decide (a<c))) s) :
 wpAny (model prog w) A (richCompare .Lt (.int a t) (.int c u)) Q E s:=
 (PyProof.Rows.lt_int h:wpAny (model prog w) A (compareOp .Lt (.int a t) (.int c u)) Q E s)
section
open PySem.SeqAt
open PySem.AutoSeq1 (wpAny_loadPart')
open PySem.MeetsSeq PySem.MeetsSeq2 PySem.MeetsSeq3
def rK(l b:Addr)(i f:Array XG)(n M:Nat)(dd F:Option Addr)(sl G:Array (Option XG))(ns D:List Int)(J:IntsAre i.toList ns)(K:IntsAre f.toList D) :
 Meets (Builtin.«tuple.__lt__» ⟨[.ref l,.ref b],[]⟩)
  (λ_ R s=>s.heap.get? l=some { cls:=.type "tuple",dict:=dd,data:=.seq i n,slots:=sl }/\s.heap.get? b=some { cls:=.type "tuple",dict:=F,data:=.seq f M,slots:=G }/\
    R (.ok (.ret (.bool (lexLt ns D)))) s):=
 .of_wp λprog w A R s h=>by
  obtain⟨E,g,d,tk,os⟩:=s;obtain⟨N,O,h⟩:=h;have S:=AutoSeq1.sub_tuple_tuple;have T:i.size=ns.length:=by rw[<- J.length];simp
  have U:f.size=D.length:=by rw[<- K.length];simp
  wp_walk using wpAny_loadPart' N,wpAny_loadPart' O,W3 _ (λrest b H=>b.1=none/\H=⟨E,g,d,tk,os⟩/\∃(vs ws:List XG)(j k:List Int),rest=vs.zip ws/\
   IntsAre vs j/\IntsAre ws k/\j.length+f.size=k.length+i.size/\R (.ok (.ret (.bool (lexLt j k)))) ⟨E,g,d,tk,os⟩) _
  case turn=>
   rintro⟨y,x⟩ rest b H ⟨r,rfl,vs,ws,j,k,hz,v,m,z,o⟩;cases v with
   |nil=>rw[List.zip_nil_left]at hz;cases hz
   |cons a t B=>
    cases m with
    |nil=>rw[List.zip_nil_right]at hz;cases hz
    |cons c u C=>
     rw[WD]at hz;injection hz with hyx hrest;injection hyx with hy hx;subst hy hx;rw[xZ]at o;simp only[Ue]at z;obtain⟨e,P,p⟩:=CB A.in1 ⟨E,g,d,tk,os⟩ a t c u;refine KE (P prog w _ _ ?_);cases e with
     |true=>
      rw[T2 (p.mp rfl)]at o
      wp_walk
      exact⟨rfl,rfl,_,_,_,_,hrest,B,C,by lia,o⟩
     |false=>
      rw[T9 (λq=>absurd (p.mpr q) UM)]at o;have I:=rcLt_int A.in1 ⟨E,g,d,tk,os⟩ a t c u prog w
      wp_walk using I
      exact⟨_,rfl,by simpa using o⟩
  case fin=>
   rintro⟨V,W⟩ H ⟨r,rfl,vs,ws,j,k,hz,v,m,z,o⟩;simp only at r;subst r;have L:lexLt j k=decide (i.size<f.size):=by
    cases v with
    |nil=>
     cases m with
     |nil=>simp only[Vx]at z;rw[rJ];exact(Ur (by lia)).symm
     |cons c u Q=>simp only[Vx,Ue]at z;rw[pV];exact(Uj (by lia)).symm
    |cons a t L=>
     cases m with
     |nil=>simp only[Vx,Ue]at z;rw[pW];exact(Ur (by lia)).symm
     |cons c u Q=>rw[WD]at hz;cases hz
   rw[L]at o
   wp_walk
   exact⟨_,rfl,by simpa[Builtin.Tuple.tupleCompareSizes]using o⟩
  case h=>exact⟨rfl,rfl,i.toList,f.toList,ns,D,rfl,J,K,by lia,h⟩
end
section
variable{prog:XF}{w:World}{A:XH}{E:XG->XD->Prop}{s:XD}
def lt_tupInts(k:IsTup s.heap l items)(m:IsTup s.heap b items2)(o:IntsAre items.toList ns)(p:IntsAre items2.toList ms)
 (q:A.units<cLine) (h:Q (.bool (lexLt ns ms)) s):wpAny (model prog w) A (compareOp .Lt (.ref l) (.ref b)) Q E s:=by
 obtain⟨⟨cls,dd,data,sl⟩,g,i,n,hd⟩:=id k;obtain⟨⟨j,e,data2,f⟩,a,c,r,d⟩:=id m;simp only at i hd c d;subst i hd c d;exact richCompare_meets_room (op:=.Lt) ⟨_,g,rfl⟩ ⟨_,a,rfl⟩ PySem.F.slot_tuple_lt PySem.F.entry_tuple_lt (PySem.F.args_tuple_lt_2 _ _) (rK l b items items2 n r dd e sl f ns ms o p)
  ⟨g,a,show Value.bool (lexLt ns ms)≠Value.notImplemented/\Q (.bool (lexLt ns ms)) s from⟨(λx=>nomatch x),h⟩⟩ q
def cat_tup(o:IsTup s.heap t vs.toArray)(p:IsTup s.heap b ws.toArray)(j:vs≠[])
 (h1:ws=[]->Q (.ref t) s) (q:ws≠[]->Q (.ref s.heap.objs.size) { s with heap:=s.heap.push { cls:=.type "tuple",data:=.seq (vs++ws).toArray } })
 (hsz:vs.length+ws.length<=sizeLine):wpAny (model prog w) A (binaryOp .Add (.ref t) (.ref b)) Q E s:=by
 obtain⟨⟨cls,dd,data,sl⟩,h,k,n,hd⟩:=id o;obtain⟨⟨l,c,data2,d⟩,a,f,m,g⟩:=id p;simp only at k hd f g;subst k hd f g;have e:vs.toArray++ws.toArray=(vs++ws).toArray:=by simp
 by_cases i:ws=[]
 .exact concat_meets ⟨_,h,rfl⟩ ⟨_,a,rfl⟩ noFill_tuple_add seq_tuple_add PySem.F.slot_tuple_add PySem.F.entry_tuple_add (PySem.F.args_tuple_add_2 _ _)
   (tuple_addW1 t b vs.toArray ws.toArray n m dd c sl d (by simpa using j) (by simp[i])) ⟨h,a,h1 i⟩
 .refine concat_meets ⟨_,h,rfl⟩ ⟨_,a,rfl⟩ noFill_tuple_add seq_tuple_add PySem.F.slot_tuple_add PySem.F.entry_tuple_add (PySem.F.args_tuple_add_2 _ _)
   (tuple_addW2 t b vs.toArray ws.toArray n m dd c sl d (by simpa using j) (by simpa using i) (by rw[Ua,Ua];exact hsz)) ⟨h,a,?_⟩
  rw[e];exact q i
noncomputable def sIx(n d:Nat):Option Int->Nat
 |none=>d
 |some v=>if v<0 then(v+(n:Int)).toNat else min v.toNat n
def sIx_nat(n d k:Nat):sIx n d (some (k:Int))=min k n:=by show(if(k:Int)<0 then((k:Int)+(n:Int)).toNat else min (k:Int).toNat n)=min k n;rw[T9 (by lia),WK]
def Ks(n d:Nat)(hd:d<=n)(o:Option Int):sIx n d o<=n:=by
 cases o with
 |none=>exact hd
 |some v=>
  show(if v<0 then(v+(n:Int)).toNat else min v.toNat n)<=n
  grind
def zl(v:Int)(n d:Nat):(if v<0 then max (v+(n:Int)) 0 else min v (n:Int))=((sIx n d (some v):Nat):Int):=by
 show(if v<0 then max (v+(n:Int)) 0 else min v (n:Int))=(((if v<0 then(v+(n:Int)).toNat else min v.toNat n):Nat):Int)
 grind
def x4(lo a:Option Int)(n:Nat):Builtin.Slice.sliceAdjust lo a 1 (n:Int)=(((sIx n 0 lo:Nat):Int),((sIx n n a:Nat):Int)):=by
 have h1:¬((1:Int)<0):=by lia
 unfold Builtin.Slice.sliceAdjust;simp only[h1,U1];refine Xd ?_ ?_
 .cases lo with
  |none=>rfl
  |some v=>exact zl v n 0
 .cases a with
  |none=>rfl
  |some v=>exact zl v n n
def x5(i j:Nat):Builtin.Slice.slicePlaces (i:Int) (j:Int) 1=j-i:=by
 unfold Builtin.Slice.slicePlaces
 grind
def pX(p:IsPart v o)(h:Q o s):wpAny (model prog w) A (Builtin.Slice.slicePartIndex v) Q E s:=by
 cases p with
 |none=>exact slicePart_none h
 |int i t=>exact slicePart_int h
def sliceApplied_gen{lo a:Option Int}{n:Nat}{Q:Int×Int×Nat->XD->Prop}(hs:s.heap.IsSliceOf sl vl vu .none)(pl:IsPart vl lo)(d:IsPart vu a)
 (h:Q (((sIx n 0 lo:Nat):Int),1,sIx n n a-sIx n 0 lo) s):wpAny (model prog w) A (Builtin.Slice.sliceApplied (.ref sl) (pure (n:Int))) Q E s:=by
 obtain⟨os,b,e,c⟩:=id hs;unfold Builtin.Slice.sliceApplied Builtin.Slice.sliceFields;refine KE (KE (WL b c (x:=vl) rfl (KE (WL b c (x:=vu) rfl (KE (WL b c (x:=.none) rfl (TV ?_)))))));refine KE (slicePart_none ?_);show wpAny _ _ (if((1:Int)==0)=true then _ else _) _ _ s;rw[T9 (by decide)];refine KE (pX pl (KE (pX d (KE (TV ?_)))));show wpAny _ _ (match Builtin.Slice.sliceAdjust lo a 1 (n:Int)with|(lo,a)=>pure (lo,(1:Int),Builtin.Slice.slicePlaces lo a 1)) _ _ s;rw[x4 lo a n];show wpAny _ _ (pure (((sIx n 0 lo:Nat):Int),(1:Int),Builtin.Slice.slicePlaces ((sIx n 0 lo:Nat):Int) ((sIx n n a:Nat):Int) 1)) _ _ s;rw[x5];exact TV h
def CC(xs:Array XG)(i k:Nat):((List.range k).filterMap λ(m:Nat)=>xs[((i:Int)+(m:Int)*1).toNat]?).toArray=((xs.toList.drop i).take k).toArray:=by
 have e:(λ(m:Nat)=>xs[((i:Int)+(m:Int)*1).toNat]?)=λm=>xs[i+m]?:=by grind
 rw[e];have:=pick_run xs i k;rw[List.filterMap_map]at this;have e2:((λx=>xs[x]?) ∘ λx=>i+x)=λm=>xs[i+m]?:=rfl;rw[e2]at this;rw[this]
def getItem_tuple_cut{i j:XG}{lo b:Option Int}{Q:XG->XD->Prop}(c:IsTup s.heap t items)(hs:s.heap.IsSliceOf sl i j .none)(pl:IsPart i lo)(k:IsPart j b)
 (n:¬(sIx items.size 0 lo=0/\sIx items.size items.size b=items.size))
 (h:Q (.ref s.heap.objs.size) { s with heap:=s.heap.push { cls:=.type "tuple",data:=.seq ((items.toList.drop (sIx items.size 0 lo)).take (sIx items.size items.size b-sIx items.size 0 lo)).toArray } })
 (hsz:items.size<=sizeLine):wpAny (model prog w) A (getItem (.ref t) (.ref sl)) Q E s:=by
 have a:sizeOk (.seq ((items.toList.drop (sIx items.size 0 lo)).take (sIx items.size items.size b-sIx items.size 0 lo)).toArray):=by
  show((items.toList.drop (sIx items.size 0 lo)).take (sIx items.size items.size b-sIx items.size 0 lo)).toArray.size<=sizeLine
  grind
 have o:sIx items.size items.size b<=items.size:=Ks _ _ (TY _) b;obtain⟨os,d,e,l⟩:=id hs;have f:s.TypeIs (.ref sl) "slice":=⟨os,d,e⟩;unfold getItem
 try with_reducible refine UV ?_
 first|refine KE (TV ?_)|skip
 refine KE (wpAny_sequenceKey c.typeIs (by decide) ?_);refine KE (Vk (name:=Str.ofString "__getitem__") c.typeIs UY
  (UK UY c.typeIs entry_tuple_getitem ?_ (args_tuple_getitem _ _)))
 show wpAny _ _ (Builtin.Tuple.tupleItemsOf (.ref t) >>= _) _ _ s;refine KE (tupleItemsOf_ c ?_);refine KE (WY f ?_);rw[T2 (by decide)];refine KE (sliceApplied_gen hs pl k ?_);have g:¬((((sIx items.size 0 lo:Nat):Int)==0&&(1:Int)==1&&(sIx items.size items.size b-sIx items.size 0 lo)==items.size)=true):=by grind
 show wpAny _ _ (if(((sIx items.size 0 lo:Nat):Int)==0&&(1:Int)==1&&(sIx items.size items.size b-sIx items.size 0 lo)==items.size)=true then _ else _) _ _ s;rw[T9 g,CC]
 first
  |exact KE (m:=Builtin.Tuple.tupleExact _) (UL (TV ⟨_,rfl,TV h⟩) a)
  |exact KE (m:=Builtin.Tuple.tupleExact _) (UL (KE (TV (TV ⟨_,rfl,TV h⟩))) a)
  |exact KE (KE (m:=Builtin.Tuple.tupleExact _) (UL (TV (TV ⟨_,rfl,TV h⟩)) a))
  |exact KE (KE (m:=Builtin.Tuple.tupleExact _) (UL (TV ⟨_,rfl,TV h⟩) a))
end
end HT
namespace L2
open PySem PySem.Spec PyProof.Rows
abbrev TO:=St->Hp->(Option Int->Hp->Prop)->Prop
def PO(X:Cx)(e:Option Expr)(t:TO):Prop:=
 ∀(aa:List (Addr×Obj))(s:XD)(σ:St)(H:Hp)(Q:Option Int->Hp->Prop),Inv X aa σ H s->t σ H Q->
  wpAny (model X.prog X.w) X.A (evalPart e X.env) (λu a=>∃o H',Inv X aa σ H' a/\IsPart u o/\Q o H') X.xe s
noncomputable def F5:TO:=λ_ H Q=>Q none H
noncomputable def N0(t:TE):TO:=λσ H Q=>t σ H λx a=>∃i,x=.int i/\Q (some i) a
def pY:∀{us:List XG},Vals (ns.map V.int) us->IntsAre us ns:=by
 induction ns with
 |nil=>intro us r;rw[VO]at r;cases r;exact .nil
 |cons n ns a=>
  intro us r;rw[T1]at r;cases r with
  |cons b c=>obtain⟨t,e⟩:=b;subst e;exact .cons n t (a c)
section
variable{X:Cx}{e:Expr}{te:TE}{lo hi:Option Expr}{tl th:TO}{pos p2:Pos}
def F6:PO X none F5:=by intro aa s σ H Q I h;rw[evalPart_none];exact TV ⟨none,H,I,.none,h⟩
def F7(h:PE X e te):PO X (some e) (N0 te):=by intro aa s σ H Q I a;rw[evalPart_some];refine bP (h aa s σ H _ I a) λu s1 ⟨x,b,c,d,q1⟩=>?_;obtain⟨i,rfl,q⟩:=q1;obtain⟨t,rfl⟩:=d;exact⟨some i,b,c,.int i t,q⟩
def SlR(X:Cx)(r:V->Option Int->Option Int->Hp->VK->Prop):Prop:=
 ∀(aa:List (Addr×Obj))(s:XD)(σ:St)(H:Hp)(x:V)(v a b:XG)(lo hi:Option Int)(sl:Addr)(Q:VK),Inv X aa σ H s->RelV x v->s.heap.IsSliceOf sl a b .none->IsPart a lo->IsPart b hi->r x lo hi H Q->
  ∃T id,typeLookup (.type T) "__getitem__"=pure (some (.builtin id))/\s.TypeIs v T/\wpAny (model X.prog X.w) X.A (getItem v (.ref sl)) (EP X aa σ Q) X.xe s
def SlR.or(h:SlR X r)(h':SlR X r'):SlR X (λx lo hi H Q=>r x lo hi H Q\/r' x lo hi H Q):=by
 intro aa s σ H x v a b lo hi sl Q I c hs pl d q;rcases q with q|q
 .exact h aa s σ H x v a b lo hi sl Q I c hs pl d q
 .exact h' aa s σ H x v a b lo hi sl Q I c hs pl d q
noncomputable def Td(r:V->Option Int->Option Int->Hp->VK->Prop)(te:TE)(tl th:TO):TE:=λσ H Q=>te σ H λx a=>tl σ a λl b=>th σ b λu c=>r x l u c Q
def CD(f:SlR X r)(g:PE X e te)(i:PO X lo tl)(j:PO X hi th):PE X (.Subscript e (.Slice lo hi none p2) pos) (Td r te tl th):=by intro aa s σ H Q I h;refine Subscript_ (bP (g aa s σ H _ I h) λv s1 ⟨x,k,m,n,q1⟩=>?_);refine wpAny_Slice (bP (i aa s1 σ k _ m q1) λc s2 ⟨l,o,p,pl,q2⟩=>bP (j aa s2 σ o _ p q2) λvu a ⟨u,d,t,w,y⟩=>?_);rw[evalPart_none];refine TV ?_;have z:Inv X aa σ d { a with heap:=a.heap.push { cls:=.type "slice",data:=.fields #[c,vu,.none] } }:=t.kept (t':=a.toks) λb D q=>RW _ q;obtain⟨T,id,A,B,C⟩:=f aa { a with heap:=a.heap.push { cls:=.type "slice",data:=.fields #[c,vu,.none] } } σ d x v c vu l u a.heap.objs.size Q z n (Heap.IsSliceOf.new ..) pl w y;show wX X (subscriptTail e (.Slice lo hi none p2) v (.ref a.heap.objs.size)) (EP X aa σ Q) X.xe { a with heap:=a.heap.push { cls:=.type "slice",data:=.fields #[c,vu,.none] } };exact tail_any (ops:=[.ref a.heap.objs.size,v]) B A C (by with_unfolding_all rfl)
def vI(xs:List V)(lo hi:Option Int):List V:=(xs.drop (HT.sIx xs.length 0 lo)).take (HT.sIx xs.length xs.length hi-HT.sIx xs.length 0 lo)
def oS(xs:List V)(lo hi:Option Int):(vI xs lo hi).length<=xs.length:=by unfold vI;rw[VF,Xu];lia
def Rz(K:XE):V->Option Int->Option Int->Hp->VK->Prop:=λx lo hi H Q=>∃a xs,x=.ref a/\SqT K H a xs/\
 ¬(HT.sIx xs.length 0 lo=0/\HT.sIx xs.length xs.length hi=xs.length)/\∀p,H p=none->Q (.ref p) (aO H p (.tup (vI xs lo hi)))
def sl_tup:SlR X (Rz X.K):=by
 intro aa s σ H x v k l lo hi sl Q I f hs pl g h;obtain⟨a,xs,rfl,i,j,q⟩:=h;cases f;obtain⟨its,r,d,hz⟩:=I.tuple i;have c:its.toArray.size=xs.length:=by rw[Ua];exact r.length.symm
 refine⟨"tuple",_,UY.lookup,d.typeIs,?_⟩;refine HT.getItem_tuple_cut d hs pl g (by rw[c];exact j) ?_ (by rw[c];exact hz);rw[c];refine⟨.ref s.heap.objs.size,_,I.laid (t':=s.toks) (o:=.tup (vI xs lo hi)) (λb m q=>RW _ q) (TY _) ?_,rfl,q _ (I.aT.fresh (TY _))⟩;exact⟨Us (oS xs lo hi) hz,_,(r.drop (HT.sIx xs.length 0 lo)).take (HT.sIx xs.length xs.length hi-HT.sIx xs.length 0 lo),IsTup.new _ _⟩
def N1(K:XE):R2:=λx y H Q=>∃a b xs c,x=.ref a/\y=.ref b/\SqT K H a xs/\SqT K H b c/\xs≠[]/\xs.length+c.length<=sizeLine/\
 (c=[]->Q (.ref a) H)/\(c≠[]->∀p,H p=none->Q (.ref p) (aO H p (.tup (xs++c))))
def Vals.vc(r:Vals xs us):us=[]↔xs=[]:=by
 cases r with
 |nil=>simp
 |cons _ _=>simp
def op_catT:OpR X (binaryOp .Add) (N1 X.K):=by intro aa s σ H x y v u Q I g i h;obtain⟨a,b,xs,j,rfl,rfl,ha,k,l,hz,q1,q2⟩:=h;cases g;cases i;obtain⟨its,d,p1,_⟩:=I.tuple ha;obtain⟨f,c,p2,_⟩:=I.tuple k;refine HT.cat_tup p1 p2 (λz=>l (d.vc.mp z)) (λz=>⟨.ref a,H,I,rfl,q1 (c.vc.mp z)⟩) (λz=>?_) (by rw[<- d.length,<- c.length];exact hz);refine⟨.ref s.heap.objs.size,_,I.laid (t':=s.toks) (o:=.tup (xs++j)) (λb m q=>RW _ q) (TY _) ?_,rfl,q2 (λw=>z (c.vc.mpr w)) _ (I.aT.fresh (TY _))⟩;exact⟨by rw[Um];exact hz,_,d.append c,IsTup.new _ _⟩
end
noncomputable def zq(n:Nat)(i:Int):Option Nat:=if 0<=i then(if i<n then some i.toNat else none)else if -(n:Int)<=i then some (i+n).toNat else none
def dR{α:Type}(xs:List α)(i:Int):Option α:=(zq xs.length i).bind λj=>xs[j]?
def F8(h:zq n i=some j):seqIndex? i n=some j/\j<n/\-(n:Int)<=i/\i<n:=by
 unfold zq at h;by_cases a:0<=i
 .rw[T2 a]at h;by_cases h1:i<n
  .rw[T2 h1]at h;have e:i.toNat=j:=UX h;exact⟨by rw[seqIndex_of a h1,e],by lia,by lia,h1⟩
  .rw[T9 h1]at h;cases h
 .rw[T9 a]at h;by_cases h1:-(n:Int)<=i
  .rw[T2 h1]at h;have e:(i+n).toNat=j:=UX h;exact⟨by rw[seqIndex_neg (by lia) h1,e],by lia,h1,by lia⟩
  .rw[T9 h1]at h;cases h
def tX{α:Type}{xs:List α}{i:Int}{v:α}(h:dR xs i=some v):∃j,seqIndex? i xs.length=some j/\xs[j]?=some v/\j<xs.length/\-(xs.length:Int)<=i/\i<xs.length:=by
 unfold dR at h;cases e:zq xs.length i with
 |none=>rw[e]at h;cases h
 |some j=>rw[e]at h;obtain⟨h1,a,b,c⟩:=F8 e;exact⟨j,h1,h,a,b,c⟩
def zr{α:Type}{xs:List α}{j:Nat}{v:α}(h:xs[j]?=some v):dR xs (j:Int)=some v:=by grind [zq,dR]
def tY(b:Expr):Prop:=∀o i,subscripted b false o i=operate [o,i] (getItem o i)
def IxR(X:Cx)(r:R2):Prop:=
 ∀(b a:Expr)(aa:List (Addr×Obj))(s:XD)(σ:St)(H:Hp)(x y:V)(v u:XG)(Q:VK),Inv X aa σ H s->RelV x v->RelV y u->r x y H Q->
  subscripted a false v u=operate [v,u] (getItem v u)->wpAny (model X.prog X.w) X.A (subscriptTail b a v u) (EP X aa σ Q) X.xe s
def Kt(X:Cx)(id:String)(r:V->List V->Hp->VK->Prop):Prop:=
 ∀(aa:List (Addr×Obj))(s:XD)(σ:St)(H:Hp)(x:V)(xs:List V)(v:XG)(us:List XG)(Q:VK),Inv X aa σ H s->RelV x v->Vals xs us->r x xs H Q->
  wpAny (model X.prog X.w) X.A (call (.builtin id) (v::us)) (EP X aa σ Q) X.xe s
section
variable{X:Cx}{a b:Expr}{ta tb:TE}{pos:Pos}
def IxR.or(h:IxR X r)(h':IxR X r'):IxR X (λx y H Q=>r x y H Q\/r' x y H Q):=by
 intro c d aa s σ H x y v u Q I e f q hs;rcases q with q|q
 .exact h c d aa s σ H x y v u Q I e f q hs
 .exact h' c d aa s σ H x y v u Q I e f q hs
def bI(c:IxR X r)(ha:PE X a ta)(d:PE X b tb)(hs:tY b):PE X (.Subscript a b pos) (lV r ta tb):=by intro aa s σ H Q I h;exact Subscript_ (Kc ha d I h λv u s2 x y e f g i q=>c a b aa s2 σ e x y v u Q f g i q (hs _ _))
def Ku(K:XE):R2:=λx y H Q=>∃p xs i v,x=.ref p/\y=.int i/\SqL K H p xs/\dR xs i=some v/\Q v H
def pZ(K:XE):R2:=λx y H Q=>∃p xs i v,x=.ref p/\y=.int i/\SqT K H p xs/\dR xs i=some v/\Q v H
def N2:R2:=λx y H Q=>∃z i c,x=.str z/\y=.int i/\z.length<=sizeLine/\dR z.cps.toList i=some c/\Q (.str ⟨#[c]⟩) H
def ix_list:IxR X (Ku X.K):=by
 intro d e aa s σ H x y v u Q I m n h hs;obtain⟨p,xs,i,z,rfl,rfl,o,A,q⟩:=h;cases m;obtain⟨t,rfl⟩:=n;obtain⟨its,r,pl,hz⟩:=I.list o;obtain⟨j,h1,B,G,C,D⟩:=tX A;obtain⟨w,k,f⟩:=r.get B;have E:=r.length;have J:=nM;have c:EP X aa σ Q w s:=⟨z,H,I,f,q⟩;by_cases l:0<=i
 .have g:i.toNat=j:=by rw[seqIndex_of l D]at h1;exact UX h1
  exact item_listR pl.isList l (by lia) (by rw[g];simpa using k) c hs
 .have g:(i+(its.toArray.size:Int)).toNat=j:=by rw[seqIndex_neg (by lia) C]at h1;rw[Ua,<- E];exact UX h1
  exact subscriptTail_builtinR (x:=w) pl.isList.typeIs slot_list_getitem.lookup
   (wpAny_getItem_list_neg (Q:=λr F=>r=w/\EP X aa σ Q r F) pl.isList (by lia) (by rw[Ua]<;>lia) (by lia) (by rw[g];simpa using k) ⟨rfl,c⟩) hs
def ix_tup:IxR X (pZ X.K):=by
 intro c d aa s σ H x y v u Q I g k h hs;obtain⟨p,xs,i,z,rfl,rfl,l,m,q⟩:=h;cases g;obtain⟨t,rfl⟩:=k;obtain⟨its,r,pl,hz⟩:=I.tuple l;obtain⟨j,h1,n,C,D,E⟩:=tX m;obtain⟨w,o,e⟩:=r.get n;have A:=r.length;have F:=nM;have f:EP X aa σ Q w s:=⟨z,H,I,e,q⟩;exact subscriptTail_builtinR (x:=w) pl.typeIs slot_tuple_getitem.lookup
  (getItem_tuple (j:=j) (Q:=λr B=>r=w/\EP X aa σ Q r B) pl (by lia) (by lia) (by rw[Ua,<- A];exact h1) (by simpa using o) ⟨rfl,f⟩) hs
def Kv:IxR X N2:=by
 intro d e aa s σ H x y v u Q I f g h hs;obtain⟨z,i,c,rfl,rfl,hz,k,q⟩:=h;obtain⟨t,rfl⟩:=f;obtain⟨t',rfl⟩:=g;obtain⟨j,h1,l,p,m,n⟩:=tX k;have o:z.cps.toList.length=z.length:=by simp[Str.length]
 rw[o]at h1 m n;have r:=nM;exact tail_any (typeIs_str s z t) slot_str_getitem.lookup (getItem_str (c:=c) (by have e1:decide (i < -(2^63:Int))=false:=Ur (by lia);have e2:decide (i>=2^63)=false:=Ur (by lia);rw[e1,e2,Bool.or_false]) (by rw[h1];simpa using l) ⟨.str ⟨#[c]⟩,H,I.tok _,⟨_,rfl⟩,q⟩) hs
def Te(K:XE):R2:=λx y H Q=>Ku K x y H Q\/pZ K x y H Q\/N2 x y H Q
def Kw:IxR X (Te X.K):=ix_list.or (ix_tup.or Kv)
def tZ(lo c:Option Int)(n:Nat):(sliceBounds lo c none n).1=((HT.sIx n 0 lo:Nat):Int)/\(sliceBounds lo c none n).2.1=((HT.sIx n n c:Nat):Int)/\(sliceBounds lo c none n).2.2=1:=by
 refine⟨?_,?_,rfl⟩
 .cases lo with
  |none=>simp[sliceBounds,HT.sIx]
  |some i=>
   simp only[sliceBounds,HT.sIx,Option.getD_none,show(1:Int)>0 by decide,Vy]
   grind
 .cases c with
  |none=>simp[sliceBounds,HT.sIx]
  |some i=>
   simp only[sliceBounds,HT.sIx,Option.getD_none,show(1:Int)>0 by decide,Vy]
   grind
def rL(its:List XG)(lo c:Option Int):slicePick its.toArray lo c none=((its.drop (HT.sIx its.length 0 lo)).take (HT.sIx its.length its.length c-HT.sIx its.length 0 lo)).toArray:=by obtain⟨h1,d,e⟩:=tZ lo c its.toArray.size;unfold slicePick;rw[h1,d,e];simp only[sliceRange_one,pick_run,Ua]<;>rfl
def RA(K:XE):V->Option Int->Option Int->Hp->VK->Prop:=λx lo c H Q=>∃a xs,x=.ref a/\SqL K H a xs/\∀p,H p=none->Q (.ref p) (aO H p (.lst (vI xs lo c)))
def sl_list:SlR X (RA X.K):=by intro aa s σ H x v j k lo c sl Q I e hs pl f h;obtain⟨a,xs,rfl,g,q⟩:=h;cases e;obtain⟨its,r,d,hz⟩:=I.list g;have i:=r.length;refine⟨"list",_,slot_list_getitem.lookup,d.isList.typeIs,?_⟩;refine wpAny_getItem_list_slice d.isList hs pl f .none (by simp) ?_ (by rw[Ua]<;>lia);rw[rL,<- i];refine⟨.ref s.heap.objs.size,_,I.laid (t':=s.toks) (o:=.lst (vI xs lo c)) (λb l q=>RW _ q) (TY _) ?_,rfl,q _ (I.aT.fresh (TY _))⟩;exact⟨Us (oS xs lo c) hz,_,0,(r.drop (HT.sIx xs.length 0 lo)).take (HT.sIx xs.length xs.length c-HT.sIx xs.length 0 lo),T4 _ rfl⟩
def call_len_seq:CallR X (.builtin "len") (λxs H Q=>∃p c,xs=[.ref p]/\(SqL X.K H p c\/SqT X.K H p c)/\Q (.int c.length) H):=by
 intro aa s σ H xs us Q I r h;obtain⟨p,c,rfl,hq,q⟩:=h;obtain⟨u,rfl,f⟩:=gm r;cases f;have g:=nM;rcases hq with hq|hq
 .obtain⟨its,d,pl,hz⟩:=I.list hq;have e:=d.length;exact Calls.call_len_list pl.isList (by simp only[Ua]<;>lia) ⟨.int c.length,H,I.tok _,⟨s.toks+1,by rw[Ua,e]⟩,q⟩
 .obtain⟨its,d,pl,hz⟩:=I.tuple hq;have e:=d.length;exact len_tuple pl (by simp only[Ua]<;>lia) ⟨.int c.length,H,I.tok _,⟨s.toks+1,by rw[Ua,e]⟩,q⟩
def t3:CallR X (.builtin "len") (λxs H Q=>∃z,xs=[.str z]/\z.length<=sizeLine/\Q (.int z.length) H):=by intro aa s σ H xs us Q I r h;obtain⟨z,rfl,hz,q⟩:=h;obtain⟨u,rfl,t,rfl⟩:=gm r;have c:=nM;exact len_str (by lia) ⟨.int z.length,H,I.tok _,⟨_,rfl⟩,q⟩
def CallR.or(h:CallR X f r)(h':CallR X f r'):CallR X f (λxs H Q=>r xs H Q\/r' xs H Q):=by
 intro aa s σ H xs us Q I rs q;rcases q with q|q
 .exact h aa s σ H xs us Q I rs q
 .exact h' aa s σ H xs us Q I rs q
def t4:CallR X (.type "list") (λxs H Q=>∃p c,xs=[.ref p]/\(SqL X.K H p c\/SqT X.K H p c)/\∀l,H l=none->Q (.ref l) (aO H l (.lst c))):=by
 intro aa s σ H xs us Q I r h;obtain⟨p,c,rfl,hq,q⟩:=h;obtain⟨u,rfl,m⟩:=gm r;cases m;have g:∀(its:List XG),Vals c its->c.length<=sizeLine->∀(h':Heap)(d:Nat),(∀b k,s.heap.get? b=some k->h'.get? b=some k)->
  h'.get? s.heap.objs.size=some { cls:=.type "list",dict:=none,data:=.seq its.toArray d,slots:=#[] }->EP X aa σ Q (.ref s.heap.objs.size) {s with heap:=h'}:=λits f hz h' d kp e=>
  ⟨.ref s.heap.objs.size,_,I.laid (t':=s.toks) kp (TY _) (show ObjOk X.prog X.w _ h' _ (.lst c)from⟨hz,its,d,f,e⟩),rfl,q _ (I.aT.fresh (TY _))⟩
 rcases hq with hq|hq
 .obtain⟨its,f,pl,hz⟩:=I.list hq;have t:=f.length;obtain⟨o,i,j,n,hd⟩:=pl.isList;exact call_list_seq p (.inl rfl) i j hd (λh' d kp e=>g its f hz h' d kp e) (by simp only[Ua]<;>lia)
 .obtain⟨its,f,pl,hz⟩:=I.tuple hq;have t:=f.length;obtain⟨o,i,j,n,hd⟩:=pl;exact call_list_seq p (.inr rfl) i j hd (λh' d kp e=>g its f hz h' d kp e) (by simp only[Ua]<;>lia)
def rM:CallR X (.type "tuple") (λxs H Q=>∃p c,xs=[.ref p]/\((SqL X.K H p c/\∀l,H l=none->Q (.ref l) (aO H l (.tup c)))\/(SqT X.K H p c/\Q (.ref p) H))):=by
 intro aa s σ H xs us Q I r h;obtain⟨p,c,rfl,h⟩:=h;obtain⟨u,rfl,i⟩:=gm r;cases i;rcases h with⟨d,q⟩|⟨d,q⟩
 .obtain⟨its,f,pl,hz⟩:=I.list d;have k:=f.length;refine call_tuple_list pl.isList (λh' kp=>?_) (by simp only[Ua]<;>lia);have g:Inv X aa σ H {s with heap:=h'}:=I.kept (t':=s.toks) kp;have j:Inv X aa σ (aO H h'.objs.size (.tup c)) { s with heap:=h'.push { cls:=.type "tuple",data:=.seq its.toArray } }:=g.laid (t':=s.toks) (λb o e=>RW _ e) (TY _) (show ObjOk X.prog X.w _ _ _ (.tup c)from⟨hz,its,f,IsTup.new _ _⟩);exact⟨.ref h'.objs.size,_,j,rfl,q _ (g.aT.fresh (TY _))⟩
 .obtain⟨its,f,pl,hz⟩:=I.tuple d;exact call_tuple_same pl ⟨.ref p,H,I,rfl,q⟩
def N3(K:XE)(T:String)(x:V)(H:Hp):Prop:=match x with
 |.str _=>T="str"
 |.int _=>T="int"
 |.ref p=>(T="list"/\∃xs,SqL K H p xs)\/(T="tuple"/\∃o,K.lookup p=some o/\o.cls=.type "tuple"/\o.dict=none)\/
  (T="dict"/\((∃kvs,H p=some (.dK kvs))\/∃kvs,H p=some (.dT kvs)))\/(T="set"/\∃S n,H p=some (.set S n))
 |_=>False
def CF(I:Inv X aa σ H s)(r:RelV x v)(ty:N3 X.K T x H) :
 s.TypeIs v T/\∀a,v=.ref a->∃f,s.heap.get? a=some f/\f.dict=none:=by
 cases x with
 |str z=>obtain⟨t,rfl⟩:=r;cases(show T="str" from ty);exact⟨typeIs_str s z t,λ_ e=>nomatch e⟩
 |int i=>obtain⟨t,rfl⟩:=r;cases(show T="int" from ty);exact⟨typeIs_int s i t,λ_ e=>nomatch e⟩
 |ref p=>
  cases r;rcases ty with⟨rfl,xs,g⟩|⟨rfl,o,d,h,hd⟩|⟨rfl,d⟩|⟨rfl,S,n,d⟩
  .obtain⟨its,_,pl,_⟩:=I.list g;refine⟨pl.isList.typeIs,λa e=>?_⟩;cases e;obtain⟨o,n,e,c,hd,_⟩:=pl;exact⟨o,e,hd⟩
  .refine⟨⟨o,I.oN p o d,h⟩,λa e=>?_⟩;cases e;exact⟨o,I.oN _ o d,hd⟩
  .have z:∃o,s.heap.get? p=some o/\o.ExactDict:=by
    rcases d with⟨kvs,d⟩|⟨kvs,d⟩
    .obtain⟨_,_,_,_,o,_,_,e,ex,_⟩:=I.aT p _ d;exact⟨o,e,ex⟩
    .obtain⟨_,_,_,_,o,_,_,e,ex,_⟩:=I.aT p _ d;exact⟨o,e,ex⟩
   obtain⟨o,e,ex⟩:=z;refine⟨⟨o,e,ex.1⟩,λa e2=>?_⟩;cases e2;exact⟨o,e,ex.2.1⟩
  .obtain⟨o,_,_,_,e,ex,_⟩:=I.aT p _ d;refine⟨⟨o,e,ex.1⟩,λa e2=>?_⟩;cases e2;exact⟨o,e,ex.2.1⟩
 |_=>exact False.elim ty
noncomputable def Kx(K:XE)(T:String)(r:V->List V->Hp->VK->Prop)(to:TE):TE:=λσ H Q=>to σ H λx c=>N3 K T x c/\r x [] c Q
noncomputable def N4(K:XE)(T:String)(r:V->List V->Hp->VK->Prop)(to:TE)(t:TA):TE:=λσ H Q=>to σ H λx c=>N3 K T x c/\t σ c λxs d=>r x xs d Q
variable{o e:Expr}{es:List Expr}{to:TE}{t:TA}{name:Str}{apos cpos:Pos}{T id:String}{r:V->List V->Hp->VK->Prop}
def CG(j:PlainAttrs T)(slot:Slot T name id)(f:typeOf (.builtin id)=pure (.type "method_descriptor")) (k:Kt X id r) (l:PE X o to)
 (c:autoParam (attributeBase o name X.env (eval o X.env)=eval o X.env) aM) (d:autoParam ((apos.endLine==cpos.line)=true) aM):PE X (.Call (.Attribute o name apos) [] [] cpos) (Kx X.K T r to):=by
 intro aa s σ H Q I h;refine WE c d (bP (l aa s σ H _ I h) λv s1 ⟨x,m,g,i,ty,q1⟩=>?_);obtain⟨h1,n⟩:=CF g i ty;exact⟨T,id,j,slot,f,h1,n,U7 rfl (PySem.evalArgs_none (k aa s1 σ m x [] v [] Q g i .nil q1))⟩
def jX(m:PlainAttrs T)(slot:Slot T name id)(i:typeOf (.builtin id)=pure (.type "method_descriptor")) (n:Kt X id r) (p:PE X o to) (ha:PA X (e::es) t)
 (d:autoParam (attributeBase o name X.env (eval o X.env)=eval o X.env) aM)
 (g:autoParam (((backTo cpos (starEach (e::es) X.env)).all (λx=>!x.1)&&(backToKw cpos (keywordEach [] X.env)).all (λx=>x.1.isSome)
   && decide ((e::es).length+([]:List Keyword).length+(if([]:List Keyword).isEmpty then 0 else 1)<30))=true) aM)
 (f:autoParam ((apos.endLine==cpos.line)=true) aM) (hs:autoParam (starEach (e::es) X.env=(false,eval e X.env)::starEach es X.env) aM) (c:autoParam (bT X cpos es) aM) :
 PE X (.Call (.Attribute o name apos) (e::es) [] cpos) (N4 X.K T r to t):=by
 intro aa s σ H Q I h;refine wpAny_Call_method_late d g f rfl (bP (p aa s σ H _ I h) λv s1 ⟨x,q,j,k,ty,q1⟩=>?_);obtain⟨h1,u⟩:=CF j k ty;refine⟨T,id,m,slot,i,h1,u,?_⟩;have l:=ha cpos aa s1 σ q _ j q1;rw[hs]at l ⊢;refine U7 (by show(false ||(backTo cpos (starEach es X.env)).any (·.1))=false;rw[c]<;>rfl) (VG ?_);exact bP l λus s2 ⟨vs,w,y,z,q2⟩=>n aa s2 σ w x vs v us Q y k z q2
end
def Tf(X:Cx)(id:String)(r:V->List V->Hp->VK->Prop):Prop:=
 ∀(aa:List (Addr×Obj))(s:XD)(σ:St)(H:Hp)(x:V)(xs:List V)(v:XG)(us:List XG)(Q:VK),Inv X aa σ H s->RelV x v->Vals xs us->r x xs H Q->
  wpAny (model X.prog X.w) X.A (call (.builtin id) (v::us)) (EP X aa σ Q) X.xe s
def Vals.one{x:V}{us:List XG}(h:Vals [x] us):∃u,us=[u]/\RelV x u:=gm h
section
variable{X:Cx}{aa:List (Addr×Obj)}{σ:St}{H:Hp}{s:XD}{l:Addr}{xs ys:List V}
def Inv.SJ{its its':List XG}{f:Array XG->Array XG}(I:Inv X aa σ H s)(a:H l=some (.lst xs))
 (e:s.heap.get? l=some { cls:=.type "list",data:=.seq its.toArray n }) (b:f its.toArray=its'.toArray) (c:Vals ys its') (hz:ys.length<=sizeLine) :
 Inv X aa σ (aO H l (.lst ys)) {s with heap:=s.heap.update l (Obj.mapSeq f),toks:=t'}:=by
 have q:=PySem.IsL.update e f;rw[b]at q;refine I.write (x:=l) (e:=l) (by rw[a];exact trivial) (.inl rfl) (λh u d g=>(Uu s.heap (Obj.mapSeq f) (Vc d)).trans g) ⟨_,q⟩ ?_;exact⟨hz,its',_,c,q⟩
def Inv.SH(I:Inv X aa σ H s)(a:Vals ys its)(hz:ys.length<=sizeLine) :
 Inv X aa σ (aO H s.heap.objs.size (.lst ys)) { s with heap:=s.heap.push { cls:=.type "list",data:=.seq its.toArray },toks:=t' }:=
 I.laid (λ_ _ q=>RW _ q) (TY _) ⟨hz,its,0,a,T4 _ rfl⟩
theorem Inv.fresh(I:Inv X aa σ H s):H s.heap.objs.size=none:=I.aT.fresh (TY _)
def Inv.SN(I:Inv X aa σ H s)(a:H l=some (.lst xs)):xs.length<=sizeLine/\∃(its:List XG)(n:Nat),Vals xs its/\xs.length=its.length/\s.heap.get? l=some { cls:=.type "list",data:=.seq its.toArray n }:=by obtain⟨z,its,n,r,e⟩:=I.aT l _ a;exact⟨z,its,n,r,r.length,e⟩
end
section
variable{X:Cx}
def mC:V->List V->Hp->VK->Prop:=λx vs H Q=>∃l xs y,x=.ref l/\vs=[y]/\H l=some (.lst xs)/\xs.length<sizeLine/\Q .bn (aO H l (.lst (xs++[y])))
def fJ:Tf X "list.append" mC:=by intro aa s σ H x vs v us Q I b c h;obtain⟨l,xs,y,rfl,rfl,a,hz,q⟩:=h;cases b;obtain⟨u,rfl,d⟩:=c.one;obtain⟨z,its,n,r,f,e⟩:=I.SN a;refine call_meets F.slot_list_append ⟨_,e,rfl⟩ F.entry_list_append (F.args_list_append_2 _ _) (PySem.list_append l its.toArray n u (by rw[Ua];lia)) ⟨e,?_⟩;refine⟨.bn,_,I.SJ (its':=its++[u]) a e (by simp) (r.append (.cons d .nil)) ?_,rfl,q⟩;rw[Um,WZ];lia
end
section
variable{κ:Type}[DecidableEq κ]
noncomputable def c9(kvs:List (κ×V))(k:κ):Option V:=(kvs.find? λkv=>decide (kv.1=k)).map (·.2)
noncomputable def ce(kvs:List (κ×V))(k:κ)(v:V):List (κ×V):=if(kvs.any λkv=>decide (kv.1=k))=true then kvs.map (λkv=>if kv.1=k then(kv.1,v)else kv)else kvs++[(k,v)]
noncomputable def lE(kvs:List (κ×V))(k:κ):List (κ×V):=kvs.filter λkv=>decide (kv.1≠k)
def gV{p:κ×V}(e:p.1=k):c9 (p::r) k=some p.2:=by simp[c9,VS,e]
def gW{p:κ×V}(e:¬p.1=k):c9 (p::r) k=c9 r k:=by simp[c9,VS,e]
theorem jY(k:κ):∀kvs:List (κ×V),(kvs.any λkv=>decide (kv.1=k))=(c9 kvs k).isSome
 |[]=>rfl
 |p::r=>by
  rw[VL];by_cases e:p.1=k
  .simp only[gV e,Uj e,Bool.true_or,Option.isSome_some]
  .rw[gW e,Ur e,Xn];exact jY k r
theorem fV(kvs:List (κ×V))(k:κ)(v:V):(ce kvs k v).length<=kvs.length+1:=by grind [ce]
def vJ{kvs:List (κ×V)}(v:V)(h:c9 kvs k=none):ce kvs k v=kvs++[(k,v)]:=by unfold ce;rw[jY,h];exact T9 (by decide)
def RelO.dW(r:RelO o u):o.isSome=u.isSome:=by
 cases o with
 |none=>cases u with
  |none=>rfl
  |some _=>exact(show False from r).elim
 |some _=>cases u with
  |none=>exact(show False from r).elim
  |some _=>rfl
theorem RelO.getD(r:RelO o u)(rd:RelV d d'):RelV (o.getD d) (u.getD d'):=by
 cases o with
 |none=>cases u with
  |none=>exact rd
  |some _=>exact(show False from r).elim
 |some _=>cases u with
  |none=>exact(show False from r).elim
  |some _=>exact r
def KV.val{kvs:List (κ×V)}(r:KV kvs vs)(k:κ):RelO (c9 kvs k) (valueAt vs k):=by
 unfold KV at r;induction r with
 |nil=>exact True.intro
 |@cons p q ps a h t d=>
  obtain⟨h1,f⟩:=h;by_cases e:p.1=k
  .have c:q.1=k:=h1.symm.trans e;have b:valueAt (q::a) k=some q.2:=by simp[valueAt,VS,c]
   rw[gV e,b];exact f
  .have c:¬q.1=k:=λz=>e (h1.trans z);have b:valueAt (q::a) k=valueAt a k:=by simp[valueAt,VS,c]
   rw[gW e,b];exact d
theorem KV.any(r:KV kvs vs)(k:κ):(kvs.any λkv=>decide (kv.1=k))=vs.any λkv=>decide (kv.1=k):=by
 unfold KV at r;induction r with
 |nil=>rfl
 |cons h t a=>rw[VL,VL,a,h.1]
def KV.Nm(r:KV kvs vs)(k:κ)(b:RelV y u) :
 KV (kvs.map λkv=>if kv.1=k then(kv.1,y)else kv) (vs.map λkv=>if kv.1=k then(kv.1,u)else kv):=by
 unfold KV at r ⊢;induction r with
 |nil=>exact .nil
 |@cons p q ps c h t a=>
  rw[T1,T1];refine .cons ?_ a
  grind
def KV.put(r:KV kvs vs)(k:κ)(a:RelV y u):KV (ce kvs k y) (stored vs k u):=by
 unfold ce stored;rw[r.any k];by_cases e:(vs.any λkv=>decide (kv.1=k))=true
 .rw[T2 e,T2 e];exact r.Nm k a
 .rw[T9 e,T9 e];exact Paired.snoc r ⟨rfl,a⟩
theorem KV.drop(r:KV kvs vs)(k:κ):KV (lE kvs k) (without vs k):=by
 unfold KV at r ⊢;unfold lE without;induction r with
 |nil=>exact .nil
 |@cons p q ps g h t c=>
  obtain⟨h1,d⟩:=h;rw[Wb,Wb];by_cases e:p.1=k
  .grind
  .have f:¬q.1=k:=λz=>e (h1.trans z);have a:decide (p.1≠k)=true:=by simp[e]
   have b:decide (q.1≠k)=true:=by simp[f]
   rw[T2 a,T2 b];exact .cons ⟨h1,d⟩ c
theorem KV.length(r:KV kvs vs):kvs.length=vs.length:=Wi r
def CH(kvs:List (κ×V))(k:κ):(lE kvs k).length<=kvs.length:=List.length_filter_le _ _
end
def iq(r:RelV (kV k) u):(aF P w).is k u=true:=by
 cases k with
 |inl i=>obtain⟨t,e⟩:=(show ∃t,u=Value.int i t from r);subst e;exact vn P w i t
 |inr x=>obtain⟨t,e⟩:=(show ∃t,u=Value.str x t from r);subst e;exact vp P w x t
theorem sL:∀{ks:List br}{us:List XG},Vals (ks.map kV) us->ItemsAre (aF P w) ks us
 |[],_,r=>by rw[VO]at r;cases r;exact .nil
 |k::ks,_,r=>by
  rw[T1]at r;cases r with
  |cons h t=>exact .cons (iq h) (sL t)
abbrev KT(H:Hp):List (List br×V)->List (List br×Addr×XG)->Prop:=Paired λp q=>p.1=q.1/\H q.2.1=some (.tup (p.1.map kV))/\RelV p.2 q.2.2
def KT.val{H:Hp}(r:KT H kvs xs)(k:List br):RelO (c9 kvs k) ((atKey xs k).map (·.2)):=by
 induction r with
 |nil=>exact True.intro
 |@cons p q ps a h t d=>
  obtain⟨h1,_,f⟩:=h;by_cases e:p.1=k
  .have c:q.1=k:=h1.symm.trans e;have b:atKey (q::a) k=some q.2:=by simp[atKey,VS,c]
   rw[gV e,b];exact f
  .have c:¬q.1=k:=λz=>e (h1.trans z);have b:atKey (q::a) k=atKey a k:=by simp[atKey,VS,c]
   rw[gW e,b];exact d
def KT.Nm(r:KT H kvs xs)(k:List br)(b:RelV y u) :
 KT H (kvs.map λkv=>if kv.1=k then(kv.1,y)else kv) (xs.map (putAt k u)):=by
 induction r with
 |nil=>exact .nil
 |@cons p q ps c h t a=>
  rw[T1,T1];refine .cons ?_ a;obtain⟨h1,d,e⟩:=h;unfold putAt
  grind
def KT.put(r:KT H kvs xs)(k:List br)(c:H b=some (.tup (k.map kV)))(a:RelV y u) :
 KT H (ce kvs k y) (storedH xs k b u):=by
 have e:(kvs.any λkv=>decide (kv.1=k))=(atKey xs k).isSome:=by rw[jY,(r.val k).dW,WM]
 unfold ce storedH;rw[e];by_cases q:(atKey xs k).isSome=true
 .rw[T2 q,T2 q];exact r.Nm k a
 .rw[T9 q,T9 q];exact Paired.snoc r ⟨rfl,c,a⟩
def KT.keeps(r:KT H kvs xs)(c:∀b a,H b=some (.tup a)->H' b=some (.tup a)):KT H' kvs xs:=Paired.Nd r λ_ _ z=>⟨z.1,c _ _ z.2.1,z.2.2⟩
section
variable{P:XF}{w:World}{H:Hp}{h:Heap}{a:Addr}
def IH(ok:HOk P w H h)(e:Rd H a u):ObjOk P w H h a u:=e.ok ok
def lF(ok:HOk P w H h)(e:Rd H a (.dK kvs)):kvs.length<=sizeLine/\(a==sysModules)=false/\∃vs,KV kvs vs/\h.DictOf (aF P w) a vs:=show ObjOk P w H h a (.dK kvs)from IH ok e
def vK(ok:HOk P w H h)(e:H a=some (.dK kvs)):kvs.length<=sizeLine/\(a==sysModules)=false/\∃vs,KV kvs vs/\h.DictOf (aF P w) a vs:=lF ok (.inl e)
theorem dH(ok:HOk P w H h)(e:H a=some (.tup (ks.map kV))):(tupleKind (aF P w)).is h ks a:=by obtain⟨_,its,r,o,h1,b,n,c⟩:=(show ObjOk P w H h a (.tup (ks.map kV))from ok a _ e);exact⟨o,its.toArray,n,h1,b,c,by simpa using sL r⟩
def mD(ok:HOk P w H h)(e:Rd H a (.dT kvs)):kvs.length<=sizeLine/\(a==sysModules)=false/\
 ∃xs,KT H kvs xs/\h.DictOfH (tupleKind (aF P w)) a xs:=by
 obtain⟨z,y,xs,r,o,es,c,h1,d,f,g,i⟩:=(show ObjOk P w H h a (.dT kvs)from IH ok e);refine⟨z,y,xs,r,o,es,c,h1,d,f,g,λx b=>?_,i⟩;have all:∀{l:List (List br×V)}{m:List (List br×Addr×XG)},KT H l m->∀x∈m,(tupleKind (aF P w)).is h x.1 x.2.1:=by
  intro l m q;induction q with
  |nil=>intro x b;exact nomatch b
  |@cons p q ps j k t n=>grind [dH]
 exact all r x b
def II(ok:HOk P w H h)(e:H a=some (.dT kvs)):kvs.length<=sizeLine/\(a==sysModules)=false/\
 ∃xs,KT H kvs xs/\h.DictOfH (tupleKind (aF P w)) a xs:=mD ok (.inl e)
end
def DGet(H:Hp)(a:Addr)(y:V)(r:Option V):Prop:=(∃kvs k,Rd H a (.dK kvs)/\y=kV k/\r=c9 kvs k)\/∃kvs k b,Rd H a (.dT kvs)/\y=.ref b/\H b=some (.tup (k.map kV))/\r=c9 kvs k
def DPut(H:Hp)(a:Addr)(y v:V)(H':Hp):Prop:=
 (∃kvs k,H a=some (.dK kvs)/\y=kV k/\kvs.length<sizeLine/\H'=aO H a (.dK (ce kvs k v)))\/
 ∃kvs k b,H a=some (.dT kvs)/\y=.ref b/\H b=some (.tup (k.map kV))/\kvs.length<sizeLine/\H'=aO H a (.dT (ce kvs k v))
def DGet.t{kvs:List (List br×V)}{k:List br}(e:H a=some (.dT kvs))(c:H b=some (.tup (k.map kV))):DGet H a (.ref b) (c9 kvs k):=.inr ⟨kvs,k,b,.inl e,rfl,c,rfl⟩
theorem DPut.k{kvs:List (br×V)}{k:br}{v:V}(e:H a=some (.dK kvs))(b:kvs.length<sizeLine):DPut H a (kV k) v (aO H a (.dK (ce kvs k v))):=.inl ⟨kvs,k,e,rfl,b,rfl⟩
def DPut.t{kvs:List (List br×V)}{k:List br}{v:V}(e:H a=some (.dT kvs))(c:H b=some (.tup (k.map kV)))(d:kvs.length<sizeLine) :
 DPut H a (.ref b) v (aO H a (.dT (ce kvs k v))):=.inr ⟨kvs,k,b,e,rfl,c,d,rfl⟩
section
variable{X:Cx}{aa:List (Addr×Obj)}{σ:St}{H:Hp}{s:XD}{a:Addr}{y v:V}{u r:XG}{o:Option V}{A:XH}{E:XG->XD->Prop}
def Inv.big(I:Inv X aa σ H s):sysModules<s.heap.objs.size:=by have h:mainGlobals<s.heap.objs.size:=(I.mod.glob.keeps I.bk).lt;exact Nat.lt_trans (by decide) h
def AS(t:A.units+1<cLine)(I:Inv X aa σ H s)(g:DGet H a y (some v))(n:RelV y u)(h:∀f q,Inv X aa σ H q->RelV v f->Q f q) :
 wpAny (model X.prog X.w) A (getItem (.ref a) u) Q E s:=by
 rcases g with⟨kvs,k,e,i,l⟩|⟨kvs,k,b,e,i,x,l⟩
 .subst i;obtain⟨z,hd,vs,c,dd⟩:=lF I.aT e;obtain⟨f,j,d⟩:=RelO.some_of (v:=v) (o:=valueAt vs k) (by rw[l];exact c.val k);exact wpAny_getItem_of (iq n) dd.mapOf j (h f _ (I.tok _) d)
 .subst i;cases(show u=Value.ref b from n);obtain⟨z,hd,xs,c,dd⟩:=mD I.aT e;obtain⟨f,j,d⟩:=RelO.some_of (v:=v) (o:=(atKey xs k).map (·.2)) (by rw[l];exact c.val k);obtain⟨p,B,m⟩:=UT.mp j;refine wpAny_getItem_heap (U9 t) (dH I.aT x) dd B ?_;rw[m];exact h f _ (I.tok _) d
def RB(j:A.units+1<cLine)(I:Inv X aa σ H s)(g:DGet H a y o)(f:RelV y u)(h:∀i,Inv X aa σ H i->Q (.bool o.isSome) i) :
 wpAny (model X.prog X.w) A (compareOp .In u (.ref a)) Q E s:=by
 rcases g with⟨kvs,k,e,d,l⟩|⟨kvs,k,b,e,d,m,l⟩
 .subst d;obtain⟨z,hd,vs,c,dd⟩:=lF I.aT e;refine wpAny_in_of (iq f) hd dd.mapOf ?_;rw[<- (c.val k).dW,<- l];exact h _ (I.tok _)
 .subst d;cases(show u=Value.ref b from f);obtain⟨z,hd,xs,c,dd⟩:=mD I.aT e;refine wpAny_in_heap (U9 j) (dH I.aT m) hd dd ?_;have q:=(c.val k).dW;rw[WM]at q;rw[<- q,<- l];exact h _ (I.tok _)
def F9(j:A.units+1<cLine)(I:Inv X aa σ H s)(g:DGet H a y o)(f:RelV y u)(h:∀i,Inv X aa σ H i->Q (.bool (!o.isSome)) i) :
 wpAny (model X.prog X.w) A (compareOp .NotIn u (.ref a)) Q E s:=by
 rcases g with⟨kvs,k,e,d,l⟩|⟨kvs,k,b,e,d,m,l⟩
 .subst d;obtain⟨z,hd,vs,c,dd⟩:=lF I.aT e;refine wpAny_notIn_of (iq f) hd dd.mapOf ?_;rw[<- (c.val k).dW,<- l];exact h _ (I.tok _)
 .subst d;cases(show u=Value.ref b from f);obtain⟨z,hd,xs,c,dd⟩:=mD I.aT e;refine wpAny_notIn_heap (U9 j) (dH I.aT m) hd dd ?_;have q:=(c.val k).dW;rw[WM]at q;rw[<- q,<- l];exact h _ (I.tok _)
def kU(I:Inv X aa σ H s)(mu:Nx (H a))(hs:Heap.SameBut a s.heap h')(c:∃q,h'.get? a=some q)(new:ObjOk X.prog X.w (aO H a ob) h' a ob) :
 Inv X aa σ (aO H a ob) {s with heap:=h',toks:=t'}:=
 I.write (x:=a) (e:=a) mu (.inl rfl) (λb q d z=>(hs.2 b d).trans z) c new
def t5(z:kvs.length<=sizeLine)(hd:(a==sysModules)=false)(b:KV kvs vs)(dd:h'.DictOf (aF P w) a vs) :
 ObjOk P w H' h' a (.dK kvs):=⟨z,hd,vs,b,dd⟩
def kW(D:A.units+1<cLine)(I:Inv X aa σ H s)(g:DPut H a y v H')(p:RelV y u)(t:RelV v r)(h:∀x,Inv X aa σ H' x->Q () x) :
 wpAny (model X.prog X.w) A (setItem (.ref a) u r) Q E s:=by
 rcases g with⟨kvs,k,e,j,l,m⟩|⟨kvs,k,b,e,j,B,l,m⟩
 .subst j m;obtain⟨z,hd,vs,d,dd⟩:=vK I.aT e;have hz:vs.length<=sizeLine:=by rw[<- d.length];exact z
  have n:(ce kvs k v).length<=sizeLine:=by have:=fV kvs k v;lia
  refine wpAny_setItem_pairs (hsz:=hz) (iq p) dd λh' f hs=>h _ ?_;have F:∃q,h'.get? a=some q:=let ⟨q,_,_,i,_⟩:=f;⟨q,i⟩;exact kU I (by rw[e];exact True.intro) hs F (t5 n hd (d.put k t) f)
 .subst j m;cases(show u=Value.ref b from p);obtain⟨z,hd,xs,d,dd⟩:=II I.aT e;have hz:xs.length<=sizeLine:=by rw[<- Wi d];exact z
  have n:(ce kvs k v).length<=sizeLine:=by have:=fV kvs k v;lia
  refine wpAny_setItem_heap (hsz:=hz) (U9 D) (dH I.aT B) dd λh' f hs=>h _ ?_;obtain⟨q,es,G,i,J,K,L,_,M⟩:=f;refine kU I (by rw[e];exact True.intro) hs ⟨q,i⟩ ⟨n,hd,_,(d.put k B t).keeps λc N C=>?_,q,es,G,i,J,K,L,M⟩;rw[af (zf C e (λz=>nomatch z))];exact C
end
section
variable{X:Cx}{aa:List (Addr×Obj)}{σ:St}{H:Hp}{s:XD}{a:Addr}{kvs:List (br×V)}{k:br}{u:XG}{A:XH}{E:XG->XD->Prop}
def N5(I:Inv X aa σ H s)(e:H a=some (.dK kvs))(f:RelV (kV k) u)(l:c9 kvs k=some v)(j:more=[]\/∃x,more=[x])
 (h:∀c m,Inv X aa σ (aO H a (.dK (lE kvs k))) m->RelV v c->Q c m):wpAny (model X.prog X.w) A (call (.builtin "dict.pop") (.ref a::u::more)) Q E s:=by
 obtain⟨z,hd,vs,b,dd⟩:=vK I.aT e;obtain⟨c,n,g⟩:=RelO.some_of (v:=v) (o:=valueAt vs k) (by rw[<- l];exact b.val k);have p:(keyPart u).isSome=true:=by
  cases k with
  |inl i=>obtain⟨t,q⟩:=(show ∃t,u=Value.int i t from f);subst q;rfl
  |inr x=>obtain⟨t,q⟩:=(show ∃t,u=Value.str x t from f);subst q;rfl
 have ha:argsOk "dict.pop" ⟨.ref a::u::more,[]⟩:=by
  rcases j with q|⟨x,q⟩
  .subst q;exact PySem.F.args_dict_pop_2 _ _
  .subst q;exact PySem.F.args_dict_pop_3 _ _ _
 refine VP PySem.F.slot_dict_pop dd.typeIs PySem.F.entry_dict_pop ha (meets_dict_pop_there (aF X.prog X.w) a (iq f) more j p)
  ⟨vs,c,dd,by rw[<- b.length];exact z,n,λh' d hs=>h c _ ?_ g⟩
 have r:∃q,h'.get? a=some q:=let ⟨q,_,_,y,_⟩:=d;⟨q,y⟩;exact kU I (by rw[e];exact True.intro) hs r (t5 (Us (CH kvs k) z) hd (b.drop k) d)
end
def Ky(i:Expr):Prop:=∀a b,subscripted i false a b=operate [a,b] (getItem a b)
def F_{E:XG->XD->Prop}{env:Env}{b a:Expr}{l:Pos}{T id:String}{Q:XG->XD->Prop}
 (n:typeLookup (.type T) "__getitem__"=pure (some (.builtin id))) (hs:Ky a)
 (h:wpAny (model prog w) A (eval b env) (λo e=>wpAny (model prog w) A (eval a env) (λi c=>c.TypeIs o T/\wpAny (model prog w) A (getItem o i) Q E c) E e) E s) :
 wpAny (model prog w) A (eval (.Subscript b a l) env) Q E s:=by
 refine Subscript_ (Vo h (λo e j=>Vo j (λi c d=>?_) λ_ _ x=>x) λ_ _ x=>x);obtain⟨m,d⟩:=d;unfold subscriptTail;refine KE ?_;rw[getitemInPython_of_ne m.not_modules];refine KE (wpAny_specialOf m n ?_);have g:wpAny (model prog w) A (subscripted a false o i) (λr f=>wpAny (model prog w) A (letTemporaryGo b o r >>= λ_=>pure r) Q E f) E c:=by rw[hs o i];exact wpAny_operating (Vo d (λr f k=>KE (wpAny_letTemporaryGo (TV k))) λ_ _ x=>x)
 first
  |exact TV (KE g)
  |exact KE (TV (KE g))
  |exact KE g
def vL(I:Inv X aa σ H s)(g:DGet H a y o):s.TypeIs (.ref a) "dict":=by
 rcases g with⟨kvs,k,e,_,_⟩|⟨kvs,k,b,e,_,_,_⟩
 .obtain⟨_,_,vs,_,dd⟩:=lF I.aT e;exact dd.typeIs
 .obtain⟨_,_,xs,_,dd⟩:=mD I.aT e;exact dd.typeIs
noncomputable def IJ(td ty:TE):TE:=λσ H Q=>td σ H λx c=>ty σ c λy b=>∃a v,x=.ref a/\DGet b a y (some v)/\Q v b
noncomputable def CI(td ty c:TE):TS:=λD σ H=>c σ H λv d=>td σ d λx e=>ty σ e λy f=>∃a b,x=.ref a/\DPut f a y v b/\D.nx σ b
section
variable{X:Cx}{o i value:Expr}{pos pos':Pos}{td ty tv:TE}
def zt(d:X.A.units+1<cLine)(e:PE X o td)(f:PE X i ty)(hs:Ky i):PE X (.Subscript o i pos) (IJ td ty):=by intro aa s σ H Q I h;refine F_ PySem.F.slot_dict_getitem.lookup hs (bP (e aa s σ H _ I h) λu s1 ⟨x,j,k,l,q1⟩=>bP (f aa s1 σ j _ k q1) λq s2 ⟨y,m,c,n,a,v,ex,g,q2⟩=>?_);subst ex;obtain rfl:u=Value.ref a:=l;exact⟨vL c g,AS d c g n λr t p b=>⟨v,m,p,b,q2⟩⟩
def Ga(b:X.A.units+1<cLine)(c:PE X o td)(d:PE X i ty)(e:PE X value tv)(hs:swapsWith value (some (.Subscript o i pos')) pos.line X.env=pure false) :
 PS X (.Assign [.Subscript o i pos'] value pos) (CI td ty tv):=by
 intro aa s σ H D I h;refine wpAny_Assign_Subscript (bP (e aa s σ H _ I h) λr s1 ⟨v,f,j,k,q1⟩=>bP (c aa s1 σ f _ j q1) λu s2 ⟨x,l,m,n,q2⟩=>bP (d aa s2 σ l _ m q2) λB C ⟨y,E,p,q,a,t,ex,g,w⟩=>?_) hs;subst ex;obtain rfl:u=Value.ref a:=n;exact kW b p g q k λF z=>⟨σ,t,z,w⟩
end
def vM(h:Heap)(a:sysModules<h.objs.size):ObjOk P w H (h.push { cls:=.type "dict",data:=.dict #[] }) h.objs.size (.dK []):=⟨UB _,Ww.mpr (Vc (Ul a)),[],.nil,Heap.DictOf.new h⟩
def CJ(h:Heap)(a:sysModules<h.objs.size):ObjOk P w H (h.push { cls:=.type "dict",data:=.dict #[] }) h.objs.size (.dT []):=⟨UB _,Ww.mpr (Vc (Ul a)),[],.nil,_,#[],0,T4 _ rfl,⟨rfl,rfl,rfl⟩,rfl,rfl,Uq⟩
def CL:TE:=λ_ H Q=>∀p,H p=none->Q (.ref p) (aO H p (.dK []))
def nP:TE:=λ_ H Q=>∀p,H p=none->Q (.ref p) (aO H p (.dT []))
section
variable{X:Cx}{pos:Pos}
def vN:PE X (.Dict [] [] pos) CL:=λaa s σ H Q I h=>wpAny_Dict_empty ⟨.ref s.heap.objs.size,_,I.laid (a:=s.heap.objs.size) (o:=.dK []) (t':=s.toks) (λ_ _ q=>RW _ q) (TY _) (vM s.heap I.big),rfl,h _ (I.aT.fresh (TY _))⟩
def jZ:PE X (.Dict [] [] pos) nP:=λaa s σ H Q I h=>wpAny_Dict_empty ⟨.ref s.heap.objs.size,_,I.laid (a:=s.heap.objs.size) (o:=.dT []) (t':=s.toks) (λ_ _ q=>RW _ q) (TY _) (CJ s.heap I.big),rfl,h _ (I.aT.fresh (TY _))⟩
end
noncomputable def x6:List (TE×TE)->St->Hp->(List (V×V)->Hp->Prop)->Prop
 |[],_,H,Q=>Q [] H
 |(tk,a)::r,σ,H,Q=>tk σ H λx b=>a σ b λy c=>x6 r σ c λps d=>Q ((x,y)::ps) d
abbrev VV:List (V×V)->List (XG×XG)->Prop:=Paired λp q=>RelV p.1 q.1/\RelV p.2 q.2
def Q8(X:Cx)(b:Pos)(keys:List (Option Expr))(a:List Expr)(c:List (TE×TE)):Prop:=
 ∀(aa:List (Addr×Obj))(s:XD)(σ:St)(H:Hp)(Q:List (V×V)->Hp->Prop),Inv X aa σ H s->x6 c σ H Q->
  wpAny (model X.prog X.w) X.A (evalPairs (pairTrees keys a X.env b)) (λvs d=>∃ps H',Inv X aa σ H' d/\VV ps vs/\Q ps H') X.xe s
def Gb:Q8 X pos [] [] []:=λaa s σ H Q I h=>pairTrees_nil_walk ⟨[],H,I,.nil,h⟩
def CM(b:PE X k tk)(c:PE X v tv)(d:Q8 X pos ks vs trs) :
 Q8 X pos (some k::ks) (v::vs) ((tk,tv)::trs):=λaa s σ H Q I h=>
 pairTrees_cons_walk (bP (b aa s σ H _ I h) λu s1 ⟨x,e,f,g,q1⟩=>bP (c aa s1 σ e _ f q1) λp s2 ⟨y,i,j,l,q2⟩=>bP (d aa s2 σ i _ j q2) λws q ⟨ps,m,n,a,o⟩=>⟨(x,y)::ps,m,n,.cons ⟨g,l⟩ a,o⟩)
def nQ(kvs more:List (br×V)):List (br×V):=more.foldl (λa kv=>ce a kv.1 kv.2) kvs
def KV.merge:∀{more:List (br×V)}{rs:List (br×XG)}{kvs:List (br×V)}{vs:List (br×XG)},KV more rs->KV kvs vs->KV (nQ kvs more) (merged vs rs):=by
 intro more rs kvs vs r;unfold KV at r;induction r generalizing kvs vs with
 |nil=>intro q;exact q
 |@cons p q ps c h t a=>
  intro b;have e:KV (ce kvs p.1 p.2) (stored vs q.1 q.2):=by have:=b.put p.1 h.2;rw[<- h.1];exact this
  exact a e
theorem lG:∀(more kvs:List (br×V)),(nQ kvs more).length<=kvs.length+more.length
 |[],kvs=>by show kvs.length<=kvs.length+0;lia
 |p::r,kvs=>by
  have h1:=lG r (ce kvs p.1 p.2)
  grind [fV,nQ,ce]
theorem p6:∀{kvs:List (br×V)}{ws:List (XG×XG)},VV (kvs.map λkv=>(kV kv.1,kv.2)) ws->∃rs,Carries (aF P w) ws rs/\KV kvs rs
 |[],_,r=>by rw[VO]at r;cases r;exact⟨[],True.intro,.nil⟩
 |p::kvs,_,r=>by
  rw[T1]at r;cases r with
  |@cons a b e bs h t=>obtain⟨rs,c,q⟩:=p6 (P:=P) (w:=w) t;obtain⟨f,d⟩:=b;exact⟨(p.1,d)::rs,⟨iq h.1,rfl,c⟩,.cons ⟨rfl,h.2⟩ q⟩
def N6(a:List (TE×TE)):TE:=λσ H Q=>∀p,H p=none->x6 a σ (aO H p (.dK [])) λps b=>b p=some (.dK [])/\∃kvs:List (br×V),ps=kvs.map (λkv=>(kV kv.1,kv.2))/\kvs.length<=15/\Q (.ref p) (aO b p (.dK (nQ [] kvs)))
def Gc(h:Q8 X pos keys values trs)(b:keys.all (·.isSome)=true)(j:keys.length=values.length)(k:keys≠[])
 (f:keys.length<=15):PE X (.Dict keys values pos) (N6 trs):=by
 intro aa s σ H Q I q;have l:=I.aT.fresh (TY s.heap.objs.size);have m:=I.laid (a:=s.heap.objs.size) (o:=.dK []) (h':=s.heap.push { cls:=.type "dict",data:=.dict #[] }) (t':=s.toks) (λ_ _ q=>RW _ q) (TY _) (vM s.heap I.big);refine wpAny_Dict_walk (knd:=aF X.prog X.w) b j k f (bP (h aa _ σ _ _ m (q _ l)) λws s2 ⟨ps,v,i,g,e,kvs,n,lk,q2⟩=>?_);subst n;obtain⟨rs,c,rk⟩:=p6 (P:=X.prog) (w:=X.w) g;obtain⟨z,hd,p,r,dd⟩:=vK i.aT e;cases r;refine⟨rs,c,dd,λh' d hs=>⟨.ref s.heap.objs.size,_,?_,rfl,q2⟩⟩;have hz:(nQ [] kvs).length<=sizeLine:=by have h1:=lG kvs [];rw[Vx]at h1;rw[Ux];lia
 have t:∃q,h'.get? s.heap.objs.size=some q:=let ⟨q,_,_,u,_⟩:=d;⟨q,u⟩;exact kU i (by rw[e];exact True.intro) hs t (t5 hz hd (rk.merge .nil) d)
structure M1(X:Cx) (o:Expr) (m:Str) (apos:Pos) (e:Expr) (cpos:Pos):Prop where
 base:attributeBase o m X.env (eval o X.env)=eval o X.env
 nJ:((backTo cpos (starEach [e] X.env)).all (λx=>!x.1)&&(backToKw cpos (keywordEach [] X.env)).all (λx=>x.1.isSome)
  && decide (([e]:List Expr).length+([]:List Keyword).length+(if([]:List Keyword).isEmpty then 0 else 1)<30))=true
 line:(apos.endLine==cpos.line)=true
 trees:backTo cpos (starEach [e] X.env)=[(false,eval e X.env)]
structure M2(X:Cx) (o:Expr) (m:Str) (apos:Pos) (e f:Expr) (cpos:Pos):Prop where
 base:attributeBase o m X.env (eval o X.env)=eval o X.env
 nJ:((backTo cpos (starEach [e,f] X.env)).all (λx=>!x.1)&&(backToKw cpos (keywordEach [] X.env)).all (λx=>x.1.isSome)
  && decide (([e,f]:List Expr).length+([]:List Keyword).length+(if([]:List Keyword).isEmpty then 0 else 1)<30))=true
 line:(apos.endLine==cpos.line)=true
 trees:backTo cpos (starEach [e,f] X.env)=[(false,eval e X.env),(false,eval f X.env)]
def IK(H:Hp)(a:Addr):Prop:=(∃kvs,Rd H a (.dK kvs))\/∃kvs,Rd H a (.dT kvs)
def nR(I:Inv X aa σ H s)(d:IK H a) :
 s.TypeIs (.ref a) "dict"/\(∀b,Value.ref a=.ref b->∃c,s.heap.get? b=some c/\c.dict=none)/\(a==sysModules)=false:=by
 rcases d with⟨kvs,e⟩|⟨kvs,e⟩
 .obtain⟨_,hd,vs,_,dd⟩:=lF I.aT e;refine⟨dd.typeIs,λb q=>?_,hd⟩;cases q;obtain⟨c,_,_,h1,f,_⟩:=dd;exact⟨c,h1,f.2.1⟩
 .obtain⟨_,hd,xs,_,dd⟩:=mD I.aT e;refine⟨dd.typeIs,λb q=>?_,hd⟩;cases q;obtain⟨c,_,_,h1,f,_⟩:=dd;exact⟨c,h1,f.2.1⟩
section
variable{X:Cx}{aa:List (Addr×Obj)}{σ:St}{H:Hp}{s:XD}{a:Addr}{y d:V}{u r:XG}{o:Option V}{A:XH}{E:XG->XD->Prop}
def CN(n:A.units+1<cLine)(I:Inv X aa σ H s)(g:DGet H a y o)(i:RelV y u)(h:∀j m,Inv X aa σ H m->RelV (o.getD .bn) j->Q j m) :
 wpAny (model X.prog X.w) A (call (.builtin "dict.get") [.ref a,u]) Q E s:=by
 rcases g with⟨kvs,k,e,f,l⟩|⟨kvs,k,b,e,f,p,l⟩
 .subst f;obtain⟨z,hd,vs,c,dd⟩:=lF I.aT e;refine VP UC dd.typeIs U8 (V9 _ _) (meets_dict_get (aF X.prog X.w) a (iq i) hd) ⟨_,dd.mapOf,h _ _ (I.tok _) ?_⟩;rw[l];exact(c.val k).getD rfl
 .subst f;cases(show u=Value.ref b from i);obtain⟨z,hd,xs,c,dd⟩:=mD I.aT e;refine VP UC dd.typeIs U8 (V9 _ _) (meetsH_dict_get (tupleKind (aF X.prog X.w)) a b hd) ⟨U9 n,k,xs,dH I.aT p,dd,h _ _ (I.tok _) ?_⟩;rw[l];exact(c.val k).getD rfl
def CO(n:A.units+1<cLine)(I:Inv X aa σ H s)(g:DGet H a y o)(i:RelV y u)(rd:RelV d r)(h:∀j m,Inv X aa σ H m->RelV (o.getD d) j->Q j m) :
 wpAny (model X.prog X.w) A (call (.builtin "dict.get") [.ref a,u,r]) Q E s:=by
 rcases g with⟨kvs,k,e,f,l⟩|⟨kvs,k,b,e,f,p,l⟩
 .subst f;obtain⟨z,hd,vs,c,dd⟩:=lF I.aT e;refine VP UC dd.typeIs U8 (V_ _ _ _) (meets_dict_get_default (aF X.prog X.w) a (iq i) hd r) ⟨_,dd.mapOf,h _ _ (I.tok _) ?_⟩;rw[l];exact(c.val k).getD rd
 .subst f;cases(show u=Value.ref b from i);obtain⟨z,hd,xs,c,dd⟩:=mD I.aT e;refine VP UC dd.typeIs U8 (V_ _ _ _) (meetsH_dict_get_default (tupleKind (aF X.prog X.w)) a b hd r) ⟨U9 n,k,xs,dH I.aT p,dd,h _ _ (I.tok _) ?_⟩;rw[l];exact(c.val k).getD rd
end
noncomputable def x8(td ty:TE):TE:=λσ H Q=>td σ H λx b=>∃a,x=.ref a/\IK b a/\ty σ b λy c=>∃o,DGet c a y o/\Q (o.getD .bn) c
noncomputable def lW(td ty d:TE):TE:=λσ H Q=>td σ H λx b=>∃a,x=.ref a/\IK b a/\ty σ b λy e=>d σ e λz c=>∃o,DGet c a y o/\Q (o.getD z) c
def p7(td ty:TE):TE:=λσ H Q=>td σ H λx b=>∃a,x=.ref a/\IK b a/\ty σ b λy c=>∃kvs k v,c a=some (.dK kvs)/\y=kV k/\c9 kvs k=some v/\Q v (aO c a (.dK (lE kvs k)))
section
variable{X:Cx}{o e f:Expr}{apos cpos:Pos}{td ty tx:TE}
def CS(i:X.A.units+1<cLine)(j:PE X o td)(k:PE X e ty)(m:M1 X o "get" apos e cpos):PE X (.Call (.Attribute o "get" apos) [e] [] cpos) (x8 td ty):=by intro aa s σ H Q I h;refine Wl m.base m.nJ m.line Uy UC Wg (bP (j aa s σ H _ I h) λu s1 ⟨x,l,c,n,a,ex,d,q1⟩=>?_);subst ex;obtain rfl:u=Value.ref a:=n;obtain⟨p,q,_⟩:=nR c d;refine⟨p,q,?_⟩;rw[m.trees];refine U7 rfl (VG (Vd (bP (k aa s1 σ l _ c q1) λz s2 ⟨y,r,t,v,B,g,q2⟩=>VR ?_)));exact CN i t g v λC D w b=>⟨_,r,w,b,q2⟩
def p8(i:X.A.units+1<cLine)(j:PE X o td)(k:PE X e ty)(l:PE X f tx)(m:M2 X o "get" apos e f cpos):PE X (.Call (.Attribute o "get" apos) [e,f] [] cpos) (lW td ty tx):=by intro aa s σ H Q I h;refine Wl m.base m.nJ m.line Uy UC Wg (bP (j aa s σ H _ I h) λu s1 ⟨x,n,c,p,a,ex,d,q1⟩=>?_);subst ex;obtain rfl:u=Value.ref a:=p;obtain⟨q,r,_⟩:=nR c d;refine⟨q,r,?_⟩;rw[m.trees];refine U7 rfl (VG (Vd (bP (k aa s1 σ n _ c q1) λG s2 ⟨y,t,v,w,q2⟩=>Vd (bP (l aa s2 σ t _ v q2) λJ K ⟨z,B,C,D,L,g,E⟩=>VR ?_))));exact CO i C g w D λM N F b=>⟨_,B,F,b,E⟩
def vP(g:PE X o td)(i:PE X e ty)(m:M1 X o "pop" apos e cpos):PE X (.Call (.Attribute o "pop" apos) [e] [] cpos) (p7 td ty):=by intro aa s σ H Q I h;refine Wl m.base m.nJ m.line Uy PySem.F.slot_dict_pop PySem.F.type_dict_pop (bP (g aa s σ H _ I h) λu s1 ⟨x,j,c,n,a,ex,d,q1⟩=>?_);subst ex;obtain rfl:u=Value.ref a:=n;obtain⟨p,q,_⟩:=nR c d;refine⟨p,q,?_⟩;rw[m.trees];refine U7 rfl (VG (Vd (bP (i aa s1 σ j _ c q1) λB s2 z=>VR ?_)));obtain⟨y,C,r,t,kvs,k,v,w,rfl,l,q2⟩:=z;exact N5 r w t l (.inl rfl) λD E A b=>⟨v,_,A,b,q2⟩
end
end L2
namespace Att
open PySem PySem.W PySem.Calls PyProof.Rows
def o7:∀(ns:List Int)(vs:List XG),WellAll P h vs (ns.map WData.int)->IntsAre vs ns:=by
 intro ns;induction ns with
 |nil=>intro vs w;rw[VO]at w;cases w;exact .nil
 |cons n ns c=>
  intro vs w;rw[T1]at w;cases w with
  |cons a b=>cases a;exact .cons _ _ (c _ b)
def AT{l:OpenLaw}{n:Nat}(j:l.most=some n){P:Params}
 (b:l.row.toRowW.claim.pre args=true) (f:WellAll P h vals args) :
 ∃a vs ns,vals=[Value.ref a]/\args=[WData.list (ns.map WData.int)]/\h.get? a=some { cls:=.type "list",data:=.seq vs.toArray }/\IntsAre vs ns/\ns.length<=n:=by
 have g:WShape.hasAll [] args [.list .int]=true:=(pre_splitW b).1;have i:l.pre.holds [] {args:=args}=true:=(pre_splitW b).2;obtain⟨d,r,rfl,h1,k⟩:=hasAllW_cons g;obtain rfl:=hasAllW_nil k;obtain⟨xs,rfl,m⟩:=hasW_list h1;obtain⟨ns,rfl⟩:=items_int m;have o:ns.length<=n:=by
  unfold OpenLaw.pre at i;have e:(WTm.not (.lt (.lit (.int (n:Int))) (.len (.arg 0)))).holds [] {args:=[.list (ns.map .int)]}=true:=by have e:=(holds_andW i).1;rw[j]at e;exact e
  have t:=condW_of e (w_not (w_lt w_lit (w_len_list (w_arg rfl))))
  grind
 cases f with
 |cons p q=>
  cases q;cases p with
  |list s c=>exact⟨_,_,ns,rfl,rfl,s,o7 ns _ c,o⟩
def AU(l:OpenLaw)(args:List WData):l.row.toRowW.claim.post args (.bool true) args=true:=
 postW_of (r:=l.row.toRowW) (X:=(true==true))
  (show WShape.has [] (.bool true) .bool=true by first|rfl|decide|simp[WShape.has,WShape.arms,WShape.armsAll])
  (show(WTm.eq .res (.lit (.bool true))).value [] {args:=args,res:=some (.bool true),after:=args}=some (.bool (true==true))from w_eq_bool (w_res rfl) w_lit) rfl
def attach_call{l:OpenLaw}{n:Nat}{t:(Str->Option XG)->Heap->Prop}{u:World->Heap->Prop}
 (z:l.most=some n) (j:d.params.defaults=[])
 (call:∀(w:World)(s₀ b:XD)(mg k:Str->Option XG)(fa:Addr)(o:Obj)(pm h doc:XG)(a:Addr)(vs:List XG)(ns:List Int),
   Ground q loose [] t w s₀ mg k b.heap->u w b.heap->
   b.heap.get? fa=some o->o.data=.func (docDef d.name d.params d.body d.scope pm h doc)->b.heap.CodeRec h d.name->mg d.name=some (.ref fa)->
   b.heap.get? a=some { cls:=.type "list",data:=.seq vs.toArray }->IntsAre vs ns->ns.length<=n->b.gens=#[]->
   codeAny (model l.prog w) callerA (.call (.ref fa) ⟨[.ref a],[]⟩) (λr i=>r=.ok (.ret (.bool true))/\OldK b.heap i.heap/\i.os=b.os/\AllBare i.gens) b) :
 WalkO q loose t u l.row.toRowW d [] (λf vs=>PySem.call f vs):=by
 intro w s₀ b mg k G Y fa o pm h doc A kV B hd m v p C args x M e y D s E;obtain rfl:A=.none:=Dflts.none v j;obtain rfl:kV=.none:=Dflts.noKw v;obtain⟨a,vs,ns,rfl,rfl,g,c,F⟩:=AT z e s;refine enter_call (WW (call w s₀ b mg k fa o pm h doc a vs ns G Y B (fd_plain hd) m p g c F C) λr i H=>?_);obtain⟨rfl,I,J,K⟩:=H;exact⟨.inl ⟨.bool true,.bool true,[],rfl,λ_=>rfl,.bool true,AU l _,λ_=>⟨List.Pairwise.nil,λ_ L=>(nomatch L)⟩⟩,I,J,K⟩
end Att
namespace L2
open PySem PySem.Spec PyProof.Rows
noncomputable def gu(s:Stmt)(j:Nat):Stmt:=match s with
 |.ClassDef _ _ _ body _ _ _ _ _ _ _=>body.getD j (.Pass ⟨0,0,0,0⟩)
 |_=>.Pass ⟨0,0,0,0⟩
noncomputable def d4(s:Stmt):Arguments:=match s with
 |.FunctionDef _ a _ _ _ _ _ _ _ _=>a
 |_=>{posonlyargs:=[],args:=[],vararg:=none,kwonlyargs:=[],kw_defaults:=[],kwarg:=none,defaults:=[]}
noncomputable def c_(s:Stmt):List Stmt:=match s with
 |.FunctionDef _ _ b _ _ _ _ _ _ _=>b
 |_=>[]
noncomputable def ay(s:Stmt):Scope:=match s with
 |.FunctionDef _ _ _ _ _ _ a _ _ _=>a
 |_=>{kind:=.function,names:=[],isGenerator:=false,isCoroutine:=false}
noncomputable abbrev jg:AQ:=λ_ _ _ _ _ _=>False
noncomputable abbrev E0:XK:=λ_ _ _=>False
def gX:gU jg X E0:=λ_ _ _ _ _ _ _ h=>h.elim
structure FM(K:XE) (x qual:Str) (st:Stmt) (f:Addr) (fd:FuncData):Prop where
 ex:∃(oc:XG)(od:Option Addr)(kV doc pm:XG)(an:Option Addr)(cdv ct:XG)(osl:Array (Option XG)),
  fd=fnOf x qual (d4 st) (c_ st) (ay st) .none kV doc pm an cdv ct/\K.lookup f=some ⟨oc,od,.func fd,osl⟩/\codeIn K cdv qual=true
 kp:keepIn K (.ref f)=true
section
variable{P:XF}{w:World}{K:XE}{mg:Str->Option XG}{base:Heap}
def FM.ok{x qual:Str}{st:Stmt}{f:Addr}{fd:FuncData}{N ps:List Str}{k:Nat}{sp:Sp}(F:FM K x qual st f fd)(S:aQ N ps (ay st))(len:∀vs H Q E,sp vs H Q E->vs.length=ps.length)
 (a:∀(cdv:XG)(A:XH)(outer:List Env)(s:XD)(H:Hp)(vs:List V)(Q:VK)(E:XK),dQ k (A.deeper (envOfC qual (ay st) s.heap.objs.size f cdv))->sp vs H Q E->
   ∃t,PSs (xY jg P w K mg base N qual (ay st) f cdv A outer s H E).QW (c_ st) t/\t {nx:=λ_ H'=>Q .bn H',rt:=Q} (cp N vs) H):bH P w K mg base jg (k+1) f fd ps sp:=by
 obtain⟨oc,od,kV,doc,pm,an,cdv,ct,osl,rfl,lk,b⟩:=F.ex;refine NZ lk b S len λA outer s H vs Q E d c=>?_;obtain⟨t,h,q⟩:=a cdv A outer s H vs Q E d c;exact⟨t,h.QW,q⟩
def FM.binds{x qual:Str}{st:Stmt}(F:FM K x qual st f fd)
 (h:∀(kV doc pm:XG)(an:Option Addr)(cdv ct:XG)(us:List XG),us.length=ps.length->bindArgs (fnOf x qual (d4 st) (c_ st) (ay st) .none kV doc pm an cdv ct) ⟨us,[]⟩=pure (ps.zip us)):Binds K fd ps []:=by
 obtain⟨oc,od,kV,doc,pm,an,cdv,ct,osl,rfl,lk,a⟩:=F.ex;exact .all (h kV doc pm an cdv ct)
def CT{x qual:Str}{st:Stmt}{f:Addr}{oc:XG}{od an:Option Addr}{osl:Array (Option XG)}{kV doc pm cdv ct:XG}(l:K.lookup f=some ⟨oc,od,.func (fnOf x qual (d4 st) (c_ st) (ay st) .none kV doc pm an cdv ct),osl⟩)
 (c:codeIn K cdv qual=true) (k:keepIn K (.ref f)=true):FM K x qual st f (fnOf x qual (d4 st) (c_ st) (ay st) .none kV doc pm an cdv ct):=⟨⟨oc,od,kV,doc,pm,an,cdv,ct,osl,rfl,l,c⟩,k⟩
end
def sM(a:dQ k A):A.units+1<cLine:=U2 (Xa (by decide:1<=64) _) a.units
section
variable{X:Cx}
def pv(i:Nat)(b:autoParam (X.N[i]?=some x) aM)(c:autoParam (Q5 X.env.scope x) XN._auto_1)(hd:autoParam (dB x) ab)
 (a:autoParam ((x==("__classdict__" : Str))=false) ab):PE X (.Name x pos) (aI i):=J3 b c hd a
end
def x9{A B:Prop}(h:B):if false=true then A else B:=by rw[T9 UM];exact h
def vQ{A B:Prop}(h:A):if true=true then A else B:=by rw[T2 rfl];exact h
def RC{c A B:Prop}[Decidable c](h1:c->A)(a:¬c->B):if c then A else B:=by
 by_cases h:c
 .rw[T2 h];exact h1 h
 .rw[T9 h];exact a h
def Same(H H':Hp):Prop:=∀b o,H b=some o->H' b=some o
def Same.refl(H:Hp):Same H H:=λ_ _ h=>h
def Same.trans(a:Same H H1)(b:Same H1 H2):Same H H2:=λc o h=>b c o (a c o h)
def Same.free(e:Same H H')(h:H' l=Option.none):H l=Option.none:=by
 cases q:H l with
 |none=>rfl
 |some o=>rw[e l o q]at h;cases h
abbrev TX:=St->Hp->VK->XK->Prop
end L2
namespace L2
open PySem PySem.Spec PySem.Calls PyProof.Rows
section
variable{prog:XF}{w:World}
abbrev tK(prog:XF)(w:World):=tupleKind (aF prog w)
def pq(x:(tK prog w).is h k a)(e:∀b o,h.get? b=some o->h'.get? b=some o):(tK prog w).is h' k a:=by obtain⟨o,c,n,h1,r⟩:=x;exact⟨o,c,n,e _ _ h1,r⟩
end
section
variable{X:Cx}{aa:List (Addr×Obj)}{σ:St}{H:Hp}{s:XD}{a:Addr}
def Inv.SG(I:Inv X aa σ H s)(e:H a=some (.dT [])):Inv X aa σ (aO H a (.dK [])) s:=by
 obtain⟨z,y,xs,r,o,es,d,h1,f,g,c,i⟩:=(show ObjOk X.prog X.w H s.heap a (.dT [])from I.aT a _ e);cases r;exact I.write (x:=a) (e:=a) (t':=s.toks) (h':=s.heap) (by rw[e];exact True.intro) (.inl rfl) (λb u _ q=>q) ⟨o,h1⟩ ⟨z,y,[],.nil,o,es,d,h1,f,g,by
  have e:es=#[]:=by simpa using c
  subst e;intro x h;simp at h,by
  have e:es=#[]:=by simpa using c
  subst e;constructor,Uq⟩
def Inv.QX(I:Inv X aa σ H s)(e:H a=some (.dK [])):Inv X aa σ (aO H a (.dT [])) s:=by
 obtain⟨z,y,vs,r,o,es,d,h1,f,g,h,c⟩:=(show ObjOk X.prog X.w H s.heap a (.dK [])from I.aT a _ e);cases r;exact I.write (x:=a) (e:=a) (t':=s.toks) (h':=s.heap) (by rw[e];exact True.intro) (.inl rfl) (λb u _ q=>q) ⟨o,h1⟩ ⟨z,y,[],.nil,o,es,d,h1,f,g,(by
  generalize es.toList=l at c;obtain⟨c,_⟩:=c;cases l with
  |nil=>rfl
  |cons x r=>cases c),Uq⟩
end
def mE(H:Hp)(a:Addr)(y:V)(r:Option V):Prop:=DGet H a y r\/(Rd H a (.dT [])/\(∃k,y=kV k)/\r=none)\/(Rd H a (.dK [])/\(∃(b:Addr)(k:List br),y=.ref b/\H b=some (.tup (k.map kV)))/\r=none)
def IL(H:Hp)(a:Addr)(y v:V)(H':Hp):Prop:=DPut H a y v H'\/(H a=some (.dT [])/\∃k,y=kV k/\H'=aO H a (.dK [(k,v)]))\/(H a=some (.dK [])/\∃(b:Addr)(k:List br),y=.ref b/\H b=some (.tup (k.map kV))/\H'=aO H a (.dT [(k,v)]))
section
variable{X:Cx}{aa:List (Addr×Obj)}{σ:St}{H:Hp}{s:XD}{a:Addr}{y v:V}{u r:XG}{o:Option V}{A:XH}{E:XG->XD->Prop}
def lX(x:ObjOk P w H h a (.dT [])):(a==sysModules)=false/\h.DictOf (aF P w) a []:=by
 obtain⟨z,y,xs,r,o,es,b,h1,c,d,g,i⟩:=x;cases r;have e:es=#[]:=by grind
 subst e;exact⟨y,o,#[],b,h1,c,d,λx f=>by simp at f,by constructor,Uq⟩
def t7(x:ObjOk P w H h a (.dK [])):(a==sysModules)=false/\h.DictOfH (tupleKind (aF P w)) a []:=by
 obtain⟨z,y,vs,r,o,es,c,h1,d,e,g,b⟩:=x;cases r;refine⟨y,o,es,c,h1,d,e,?_,λx f=>(nomatch f),Uq⟩;generalize es.toList=l at b;obtain⟨b,_⟩:=b;cases l with
 |nil=>rfl
 |cons x r=>cases b
def N7(d:A.units+1<cLine)(I:Inv X aa σ H s)(g:mE H a y o)(c:RelV y u)(h:∀f,Inv X aa σ H f->Q (.bool o.isSome) f) :
 wpAny (model X.prog X.w) A (compareOp .In u (.ref a)) Q E s:=by
 rcases g with g|⟨e,⟨k,rfl⟩,rfl⟩|⟨e,⟨b,k,rfl,i⟩,rfl⟩
 .exact RB d I g c h
 .obtain⟨y,dd⟩:=lX (e.ok I.aT);exact wpAny_in_of (iq c) y dd.mapOf (h _ (I.tok _))
 .obtain rfl:u=Value.ref b:=c;obtain⟨y,dd⟩:=t7 (e.ok I.aT);exact wpAny_in_heap (U9 d) (dH I.aT i) y dd (h _ (I.tok _))
def CU(d:A.units+1<cLine)(I:Inv X aa σ H s)(g:mE H a y o)(c:RelV y u)(h:∀f,Inv X aa σ H f->Q (.bool (!o.isSome)) f) :
 wpAny (model X.prog X.w) A (compareOp .NotIn u (.ref a)) Q E s:=by
 rcases g with g|⟨e,⟨k,rfl⟩,rfl⟩|⟨e,⟨b,k,rfl,i⟩,rfl⟩
 .exact F9 d I g c h
 .obtain⟨y,dd⟩:=lX (e.ok I.aT);exact wpAny_notIn_of (iq c) y dd.mapOf (h _ (I.tok _))
 .obtain rfl:u=Value.ref b:=c;obtain⟨y,dd⟩:=t7 (e.ok I.aT);exact wpAny_notIn_heap (U9 d) (dH I.aT i) y dd (h _ (I.tok _))
def x_(f:A.units+1<cLine)(I:Inv X aa σ H s)(g:IL H a y v H')(i:RelV y u)(j:RelV v r)(h:∀c,Inv X aa σ H' c->Q () c) :
 wpAny (model X.prog X.w) A (setItem (.ref a) u r) Q E s:=by
 rcases g with g|⟨e,k,rfl,rfl⟩|⟨e,b,k,rfl,l,rfl⟩
 .exact kW f I g i j h
 .refine kW f (I.SG e) (DPut.k (kvs:=[]) (k:=k) (v:=v) ag (by decide)) i j λc d=>?_;rw[ze]at d;exact h c d
 .refine kW f (I.QX e) (DPut.t (kvs:=[]) (k:=k) (v:=v) ag (by rw[af (zf l e (λz=>nomatch z))];exact l) (by decide)) i j λc d=>?_;rw[ze]at d;exact h c d
end
section
variable{X:Cx}{value o i:Expr}{td ty tv:TE}{pos pos':Pos}
noncomputable def CV(td ty tv:TE):TS:=λD σ H=>tv σ H λv c=>td σ c λx d=>ty σ d λy e=>∃a b,x=.ref a/\IL e a y v b/\D.nx σ b
def CW(b:X.A.units+1<cLine)(c:PE X o td)(d:PE X i ty)(e:PE X value tv)(hs:swapsWith value (some (.Subscript o i pos')) pos.line X.env=pure false) :
 PS X (.Assign [.Subscript o i pos'] value pos) (CV td ty tv):=by
 intro aa s σ H D I h;refine wpAny_Assign_Subscript (bP (e aa s σ H _ I h) λr s1 ⟨v,f,j,k,q1⟩=>bP (c aa s1 σ f _ j q1) λu s2 ⟨x,l,m,n,q2⟩=>bP (d aa s2 σ l _ m q2) λB C ⟨y,E,p,q,a,t,ex,g,w⟩=>?_) hs;subst ex;obtain rfl:u=Value.ref a:=n;exact x_ b p g q k λF z=>⟨σ,t,z,w⟩
end
section
variable{X:Cx}{aa:List (Addr×Obj)}{σ:St}{H:Hp}{s:XD}{a:Addr}{y d:V}{u r:XG}{o:Option V}{A:XH}{E:XG->XD->Prop}
def Ge(f:A.units+1<cLine)(I:Inv X aa σ H s)(g:mE H a y o)(c:RelV y u)(rd:RelV d r)(h:∀i j,Inv X aa σ H j->RelV (o.getD d) i->Q i j) :
 wpAny (model X.prog X.w) A (call (.builtin "dict.get") [.ref a,u,r]) Q E s:=by
 rcases g with g|⟨e,⟨k,rfl⟩,rfl⟩|⟨e,⟨b,k,rfl,l⟩,rfl⟩
 .exact CO f I g c rd h
 .obtain⟨y,dd⟩:=lX (e.ok I.aT);exact VP UC dd.typeIs U8 (V_ _ _ _) (meets_dict_get_default (aF X.prog X.w) a (iq c) y r) ⟨_,dd.mapOf,h _ _ (I.tok _) rd⟩
 .obtain rfl:u=Value.ref b:=c;obtain⟨y,dd⟩:=t7 (e.ok I.aT);exact VP UC dd.typeIs U8 (V_ _ _ _) (meetsH_dict_get_default (tupleKind (aF X.prog X.w)) a b y r) ⟨U9 f,k,[],dH I.aT l,dd,h _ _ (I.tok _) rd⟩
end
noncomputable def Gf(td ty d:TE):TE:=λσ H Q=>td σ H λx b=>∃a,x=.ref a/\IK b a/\ty σ b λy e=>d σ e λz c=>∃o,mE c a y o/\Q (o.getD z) c
section
variable{X:Cx}{o e f:Expr}{apos cpos:Pos}{td ty tx:TE}
def AV(i:X.A.units+1<cLine)(j:PE X o td)(k:PE X e ty)(l:PE X f tx)(m:M2 X o "get" apos e f cpos):PE X (.Call (.Attribute o "get" apos) [e,f] [] cpos) (Gf td ty tx):=by intro aa s σ H Q I h;refine Wl m.base m.nJ m.line Uy UC Wg (bP (j aa s σ H _ I h) λu s1 ⟨x,n,c,p,a,ex,d,q1⟩=>?_);subst ex;obtain rfl:u=Value.ref a:=p;obtain⟨q,r,_⟩:=nR c d;refine⟨q,r,?_⟩;rw[m.trees];refine U7 rfl (VG (Vd (bP (k aa s1 σ n _ c q1) λG s2 ⟨y,t,v,w,q2⟩=>Vd (bP (l aa s2 σ t _ v q2) λJ K ⟨z,B,C,D,L,g,E⟩=>VR ?_))));exact Ge i C g w D λM N F b=>⟨_,B,F,b,E⟩
end
noncomputable def iJ:HO->Prop
 |.dK _=>True
 |.dT _=>True
 |_=>False
section
variable{X:Cx}{aa:List (Addr×Obj)}{σ:St}{H H':Hp}{s:XD}{d:Addr}{o:Obj}{u:HO}
def Inv.view(I:Inv X aa σ H s)(hn:∀b,H b=none->H' b=none)(ht:∀b xs,H b=some (.tup xs)->H' b=some (.tup xs))(hf:∀b o u,X.H₀ b=some (.ba o u)->H' b=some (.ba o u))
 (hb:∀b ps,H b=some (.xF ps)->H' b=some (.xF ps)) (aT:HOk X.prog X.w H' s.heap):Inv X aa σ H' s where
 ok:=I.ok
 os:=I.os
 bare:=I.bare
 base:=⟨I.base.keep,I.base.slot,λb o e n hx=>hn b (I.base.free b o e n hx),I.base.there,λb xs e=>ht b xs (I.base.rE b xs e),hf,λb ps e=>let ⟨m,q⟩:=I.base.xC b ps e;⟨m,hb b _ q⟩⟩
 loc:=I.loc
 cell:=I.cell
 free:=hn _ I.free
 ja:=λx c e=>hn c (I.ja x c e)
 pin:=λp hp=>let ⟨a,b,c⟩:=I.pin p hp;⟨a,hn _ b,c⟩
 aT:=aT
 len:=I.len
def zu(ok:HOk P w H h)(hd:∃u,H d=some u/\(∀y,u≠.own y)/\∀xs,u≠.tup xs)(new:ObjOk P w (aO H d u') h d u'):HOk P w (aO H d u') h:=λb v e=>by
 obtain⟨u,a,h1,g⟩:=hd;by_cases f:b=d
 .subst f;rw[ag]at e;cases e;exact new
 .rw[af f]at e;refine(ok b v e).stay (λ_ _ _ q=>q) (λc q=>?_) λc xs q=>?_
  .rw[af]
   .exact q
   .rintro rfl;rw[a]at q;cases q;exact h1 _ rfl
  .rw[af]
   .exact q
   .rintro rfl;rw[a]at q;cases q;exact g _ rfl
def zv(h:iJ u):(∀y,u≠.own y)/\(∀xs,u≠.tup xs)/\(∀ps,u≠.xF ps)/\∀o v,u≠.ba o v:=by cases u<;>first|exact h.elim|exact⟨λ_ z=>(nomatch z),λ_ z=>(nomatch z),λ_ z=>(nomatch z),λ_ _ z=>(nomatch z)⟩
def sN(a:iJ u)(x:ObjOk P w H h d u)(c:∀b xs,H b=some (.tup xs)->H' b=some (.tup xs)):ObjOk P w H' h d u:=by
 cases u with
 |dK kvs=>exact x
 |dT kvs=>obtain⟨z,y,xs,r,q⟩:=x;exact⟨z,y,xs,Paired.Nd r λp q z=>⟨z.1,c _ _ z.2.1,z.2.2⟩,q⟩
 |_=>exact a.elim
theorem Inv.ba(I:Inv X aa σ H s)(e:H d=some u)(c:iJ u)(h:s.heap.get? d=some o):Inv X aa σ (aO H d (.ba o u)) s:=by
 obtain⟨i,f,j,k⟩:=zv c;have g:∀b xs,H b=some (.tup xs)->aO H d (.ba o u) b=some (.tup xs):=λb xs q=>by
  rw[af]
  .exact q
  .rintro rfl;rw[e]at q;cases q;exact f _ rfl
 refine I.view (λb a=>?_) g (λb l u' q=>?_) (λb ps q=>?_) (zu I.aT ⟨u,e,i,f⟩ ⟨h,sN c (I.aT d u e) g⟩)
 .rw[af]
  .exact a
  .rintro rfl;rw[e]at a;cases a
 .have q:=I.base.pj b l u' q;rw[af]
  .exact q
  .rintro rfl;rw[e]at q;cases q;exact k _ _ rfl
 .rw[af]
  .exact q
  .rintro rfl;rw[e]at q;cases q;exact j _ rfl
def Inv.JD(I:Inv X aa σ H s)(e:H d=some u)(a:iJ u):∀o v,X.H₀ d≠some (.ba o v):=λo v q=>by have:=I.base.pj d o v q;rw[e]at this;cases this;exact(zv a).2.2.2 _ _ rfl
def Inv.JR(I:Inv X aa σ H s)(e:H d=some (.ba o u))(f:iJ u)(g:∀o v,X.H₀ d≠some (.ba o v)):Inv X aa σ (aO H d u) s:=by
 have c:∀b xs,H b=some (.tup xs)->aO H d u b=some (.tup xs):=λb xs q=>by
  rw[af]
  .exact q
  .rintro rfl;rw[e]at q;cases q
 have x:ObjOk X.prog X.w H s.heap d u:=(show ObjOk X.prog X.w H s.heap d (.ba o u)from I.aT d _ e).2;refine I.view (λb a=>?_) c (λb h u' q=>?_) (λb ps q=>?_) (zu I.aT ⟨_,e,λ_ z=>(nomatch z),λ_ z=>(nomatch z)⟩ (sN f x c))
 .rw[af]
  .exact a
  .rintro rfl;rw[e]at a;cases a
 .have q2:=I.base.pj b h u' q;rw[af]
  .exact q2
  .rintro rfl;exact g _ _ q
 .rw[af]
  .exact q
  .rintro rfl;rw[e]at q;cases q
end
def Gg(h:(aF P w).is k u=true):RelV (kV k) u:=by
 rcases bp (show lC k u=true from h)with⟨i,t,rfl,rfl⟩|⟨x,t,rfl,rfl⟩
 .exact⟨t,rfl⟩
 .exact⟨t,rfl⟩
section
variable{X:Cx}
def Kz(I:Inv X aa σ H s)(e:Rd H a (.dK kvs)\/(Rd H a (.dT [])/\kvs=[])) :
 kvs.length<=sizeLine/\(a==sysModules)=false/\∃vs,KV kvs vs/\s.heap.DictOf (aF X.prog X.w) a vs:=by
 rcases e with e|⟨e,rfl⟩
 .exact lF I.aT e
 .obtain⟨y,dd⟩:=lX (e.ok I.aT);exact⟨UB _,y,[],.nil,dd⟩
end
section
variable{prog:XF}{w:World}{A:XH}{E:XG->XD->Prop}{s:XD}
def KA{k:br}{key dflt:XG}{Q:XG->XD->Prop}(j:(aF prog w).is k key=true)(v:s.heap.DictOf (aF prog w) d vs)(m:valueAt vs k=none)
 (h:∀h',h'.DictOf (aF prog w) d (stored vs k dflt)->Heap.SameBut d s.heap h'->Q dflt {s with heap:=h',toks:=s.toks+1}) (hsz:vs.length<=sizeLine):wpAny (model prog w) A (dictSetDefault d key dflt) Q E s:=by
 obtain⟨o,es,y,n,z,hd,t,p,B⟩:=v;have q:es.size<=sizeLine:=by
  have e1:=p.length;have e2:es.toList.length=es.size:=by simp
  lia
 have c:vs.findIdx? (λkv=>decide (kv.1=k))=none:=by
  rw[List.findIdx?_eq_none_iff];intro x C;refine Ur λe=>?_;have:(valueAt vs k).isSome=true:=by unfold valueAt;rw[WM,List.find?_isSome];exact⟨x,C,Uj e⟩
  rw[m]at this;cases this
 have i:(es.findIdx? λe=>(aF prog w).is k e.key)=none:=by
  have:(es.findIdx? λe=>(aF prog w).is k e.key)=vs.findIdx? λkv=>decide (kv.1=k):=by rw[<- p.findIdx k];obtain⟨l⟩:=es;simp
  rw[this];exact c
 have f:k∉vs.map (·.1):=not_mem_of_findIdx_none c;have g:¬(vs.any λkv=>decide (kv.1=k))=true:=by rw[List.any_eq_true];rintro⟨kv,r,D⟩;exact f (T_.mpr ⟨kv,r,UZ D⟩)
 unfold dictSetDefault
 try with_reducible refine UV ?_
 refine KE ((aF prog w).pyHash j ?_);refine KE (wpAny_dictFind_of (s:={s with toks:=s.toks+1}) j n hd t ?_);rw[i];refine KE (W8 (KE (wpAny_updateDictKeys (hz:=q) (s:={s with toks:=s.toks+1}) n hd (TV (h _ ⟨_,_,y+1,U3 _ n (Obj.isFreed_of_dict (Wp hd _)),z.mapDictKeys _,Wp hd _,t.push j _,?_,?_⟩ (UH ..))))))
 .rw[stored,T9 g];have:=p.append j ((aF prog w).hash k) dflt;obtain⟨l⟩:=es;simpa using this
 .rw[stored,T9 g,UO,V4];refine⟨B,by simp,?_⟩;intro a ha b u;simp only[T1,VO,Uh]at u;subst u;exact λe=>f (e▸ha)
end
section
variable{X:Cx}
def IM:V->List V->Hp->VK->Prop:=λx xs H Q=>∃a k y kvs,x=.ref a/\xs=[kV k,y]/\(H a=some (.dK kvs)\/(H a=some (.dT [])/\kvs=[]))/\kvs.length<sizeLine/\
 ((∃v,c9 kvs k=some v/\Q v H)\/(c9 kvs k=none/\Q y (aO H a (.dK (ce kvs k y)))))
def Gh:Kt X "dict.setdefault" IM:=by
 intro aa s σ H x xs v us Q I t rs q;obtain⟨a,k,y,kvs,rfl,rfl,ha,hz,q⟩:=q;obtain rfl:v=Value.ref a:=t;obtain⟨u1,u2,rfl,h,b⟩:=zi rs;obtain⟨L,u,vs,i,c⟩:=Kz I (ha.imp .inl λ⟨e,w⟩=>⟨.inl e,w⟩);have n:=iq (P:=X.prog) (w:=X.w) h;refine UK US c.typeIs W4 ?_ (W0 _ _ _);unfold Builtin.«dict.setdefault»;refine KE ?_;unfold Builtin.Dict.keyAndDefault;refine KE (W1 c.typeIs (show wpAny _ _ (pure (a,u1,some u2)) _ _ s from TV ?_));show wpAny _ _ (if(a==sysModules)=true then _ else(dictSetDefault a u1 u2 >>= _)) _ _ s;rw[T9 (by grind)];have A:vs.length<=sizeLine:=by rw[<- i.length];lia
 have j:s.heap.DictLe a sizeLine:=λo es M B hd=>by
  obtain⟨N,C,D,d,_,f,_,E,_⟩:=id c;rw[B]at d;cases d;rw[hd]at f;cases f;have e1:=E.length;have e2:es.toList.length=es.size:=by simp
  lia
 have F:=i.val k;rcases q with⟨v,p,q⟩|⟨p,q⟩
 .obtain⟨O,r,l⟩:=RelO.some_of (v:=v) (o:=valueAt vs k) (by grind);refine KE (wpAny_dictSetDefault_of (hz:=j) n c.mapOf (λR e=>?_) λe=>?_)
  .rw[r]at e;cases e;exact TV ⟨_,rfl,v,H,I.tok _,l,q⟩
  .rw[r]at e;cases e
 .have m:valueAt vs k=none:=by
   have:=F.dW;rw[p]at this;cases z:valueAt vs k with
   |none=>rfl
   |some _=>rw[z]at this;cases this
  refine KE (KA n c m (λh' g hs=>TV ⟨_,rfl,?_⟩) A);have G:∃q,h'.get? a=some q:=let ⟨q,_,_,J,_⟩:=g;⟨q,J⟩;have mu:Nx (H a):=by rcases ha with e|⟨e,_⟩<;>(rw[e];exact True.intro)
  have K:(ce kvs k y).length<=sizeLine:=by have:=fV kvs k y;lia
  exact⟨y,_,kU (t':=s.toks+1) I mu hs G (t5 K u (i.put k b) g),b,q⟩
end
end L2
namespace ST
open PySem PySem.SetTable
noncomputable def st(m:Nat)(h:Int):Probe:={j:=bits h%(m+1),more:=runEnd m (bits h%(m+1))-bits h%(m+1),i:=bits h%(m+1),perturb:=bits h,dummy:=none}
noncomputable def rs(m:Nat)(p:Nat×Nat):Probe:={j:=p.1,more:=runEnd m p.1-p.1,i:=p.1,perturb:=p.2,dummy:=none}
noncomputable def ya(m:Nat)(p:Probe):Probe:=if p.more>0 then {p with j:=p.j+1,more:=p.more-1}else {p with j:=(leap m p.i p.perturb).1,more:=runEnd m (leap m p.i p.perturb).1-(leap m p.i p.perturb).1,i:=(leap m p.i p.perturb).1,perturb:=(leap m p.i p.perturb).2}
def yb(t:SetTable)(p:Probe):t.advance p=ya t.mask p:=rfl
def it(m:Nat):Nat->Probe->Probe
 |0,p=>p
 |n+1,p=>it m n (ya m p)
def gY(m:Nat):∀(a b:Nat)(p:Probe),it m (a+b) p=it m b (it m a p):=by intro a b;induction a<;>grind [it,ya]
def Gi(m n:Nat)(p:Probe):it m (n+1) p=ya m (it m n p):=gY m n 1 p
structure Va(m:Nat) (p:Probe):Prop where
 i:p.i<=m
 more:p.more<=9
 j:p.j+p.more<=m
 q:p.perturb<2^64
 d:p.dummy=none
def t8(h:Int):bits h<2^64:=by
 unfold bits
 grind
def lY(m i:Nat)(h:i<=m):runEnd m i-i<=9/\i+(runEnd m i-i)<=m:=by unfold runEnd;split<;>lia
theorem Va.rs(h1:p.1<=m)(a:p.2<2^64):Va m (rs m p):=⟨h1,(lY m _ h1).1,(lY m _ h1).2,a,rfl⟩
theorem Va.st(m:Nat)(h:Int):Va m (st m h):=by have:bits h%(m+1)<=m:=Xk (XB _ (Nat.succ_pos m));exact⟨this,(lY m _ this).1,(lY m _ this).2,t8 h,rfl⟩
def t9(m i q:Nat):(leap m i q).1<=m:=by exact Xk (XB _ (Nat.succ_pos m))
def yc(m i q:Nat):(leap m i q).2=q/32:=rfl
theorem Va.ya(v:Va m p):Va m (ya m p):=by
 unfold ST.ya;split
 .exact⟨v.i,by dsimp only;have:=v.more;lia,by dsimp only;have:=v.j;lia,v.q,v.d⟩
 .have l:=t9 m p.i p.perturb;exact⟨l,(lY m _ l).1,(lY m _ l).2,by dsimp only;rw[yc];have:=v.q;have:=Nat.div_le_self p.perturb 32;lia,v.d⟩
theorem Va.it:∀{n:Nat}{p:Probe},Va m p->Va m (it m n p)
 |0,_,v=>v
 |n+1,_,v=>Va.it (n:=n) v.ya
def Va.S4(v:Va m p):p.j<=m:=by have:=v.j;lia
def px:∀(k:Nat)(p:Probe),p.more=k->Va m p->it m (k+1) p=rs m (leap m p.i p.perturb):=by intro k;induction k<;>grind [Va,it,rs,ya]
noncomputable def lp(m:Nat):Nat->Nat×Nat->Nat×Nat
 |0,p=>p
 |n+1,p=>lp m n (leap m p.1 p.2)
def KB(m:Nat):∀(a b:Nat)(p:Nat×Nat),lp m (a+b) p=lp m b (lp m a p):=by intro a b;induction a<;>grind [lp]
theorem N8(m:Nat):∀(n:Nat)(p:Nat×Nat),(lp m n p).2=p.2/32^n
 |0,p=>by simp[lp]
 |n+1,p=>by show(lp m n (leap m p.1 p.2)).2=_;rw[N8 m n,yc,Nat.div_div_eq_div_mul,Nat.pow_succ,Nat.mul_comm]
theorem IN(m:Nat):∀(n:Nat)(p:Nat×Nat),p.1<=m->(lp m n p).1<=m
 |0,p,h=>h
 |n+1,p,_=>IN m n _ (t9 m _ _)
theorem vR:∀(L:Nat)(p:Probe),Va m p->∃n,n<=10*(L+1)/\it m n p=rs m (lp m (L+1) (p.i,p.perturb))
 |0,p,v=>⟨p.more+1,by have:=v.more;lia,px _ p rfl v⟩
 |L+1,p,v=>by
  have h1:=px _ p rfl v;have a:Va m (rs m (leap m p.i p.perturb)):=by rw[<- h1];exact v.it
  obtain⟨n,b,e⟩:=vR L _ a;refine⟨p.more+1+n,by have:=v.more;lia,?_⟩;rw[gY,h1,e];rfl
noncomputable def f5(m i:Nat):Nat:=(i*5+1)%(m+1)
def fN(m:Nat):Nat->Nat->Nat
 |0,i=>i
 |n+1,i=>fN m n (f5 m i)
def CY(m:Nat):Nat->Nat->List Nat
 |0,_=>[]
 |n+1,i=>i::CY m n (f5 m i)
theorem vS(m:Nat):∀(n i k:Nat),k<n->(CY m n i)[k]?=some (fN m k i)
 |n+1,i,0,_=>rfl
 |n+1,i,k+1,h=>vS m n _ k (by lia)
theorem vT(m:Nat):∀(n i:Nat),(CY m n i).length=n
 |0,_=>rfl
 |n+1,i=>by show(CY m n _).length+1=_;rw[vT]
theorem t_(m:Nat):∀(a b i:Nat),fN m (a+b) i=fN m b (fN m a i)
 |0,b,i=>by rw[Nat.zero_add];rfl
 |a+1,b,i=>by rw[Nat.succ_add];exact t_ m a b _
def RD(m:Nat):Bool:=((List.range (m+1)).all λj=>(CY m (m+1) 0).contains j)&&(fN m (m+1) 0==0)
def xK(m:Nat):Prop:=m=7\/m=31\/m=127\/m=511
def zw(h:xK m):RD m=true:=by rcases h with rfl|rfl|rfl|rfl<;>decide +kernel
def CZ(h:xK m)(c:j<=m):∃n,n<=m/\fN m n 0=j:=by have:=zw h;unfold RD at this;simp only[Uv,UW]at this;have h1:=this.1 j (UF.mpr (by lia));rw[List.contains_iff_mem,Uc]at h1;obtain⟨n,a⟩:=h1;have b:=(T7.mp a).1;rw[vT]at b;rw[vS m _ _ _ b]at a;exact⟨n,by lia,UX a⟩
def KC(h:xK m)(e:i<=m)(f:j<=m):∃n,n<=m/\fN m n i=j:=by
 obtain⟨a,ha,c⟩:=CZ h e;obtain⟨b,k,d⟩:=CZ h f;by_cases g:a<=b
 .refine⟨b-a,by lia,?_⟩;rw[<- c,<- t_,show a+(b-a)=b by lia,d]
 .refine⟨m+1+b-a,by lia,?_⟩;have z:=zw h;unfold RD at z;simp only[Uv,VW]at z;rw[<- c,<- t_,show a+(m+1+b-a)=m+1+b by lia,t_,z.2,d]
theorem zx(m:Nat):∀(n i:Nat),lp m n (i,0)=(fN m n i,0)
 |0,_=>rfl
 |n+1,i=>by show lp m n (leap m i 0)=_;have:leap m i 0=(f5 m i,0):=rfl;rw[this];exact zx m n _
def vU(h:xK m)(b:j<=m)(p:Nat×Nat)(h1:p.1<=m)(c:p.2<2^64):∃n,13<=n/\n<=m+13/\(lp m n p).1=j:=by
 have a:(2:Nat)^64<32^13:=by decide
 have d:(lp m 13 p).2=0:=by rw[N8];exact Nat.div_eq_of_lt (by lia)
 obtain⟨n,f,e⟩:=KC h (IN m 13 p h1) b;refine⟨13+n,by lia,by lia,?_⟩;rw[KB]
 grind [lp,zx]
def IQ(h:xK m)(a:j<=m)(v:Va m p):∃n,n<10*turns m/\(it m n p).j=j:=by obtain⟨L,h1,c,e⟩:=vU h a (p.i,p.perturb) v.i v.q;obtain⟨n,b,en⟩:=vR (L-1) p v;rw[show L-1+1=L by lia]at en b;refine⟨n,by unfold turns;lia,?_⟩;rw[en];exact e
def Gj(xs:List Nat):Prop:=xs.Pairwise (·< ·)
theorem p9(m:Gj xs.toList):∀(d lo c:Nat),lo<=c->c<=xs.size->c-lo<=d->
 (∀i (h:i<xs.size),i<lo->xs[i]<j)->(∀i (h:i<xs.size),c<=i->j<=xs[i])->
 below.go xs j d lo c<=xs.size/\(∀i (h:i<xs.size),i<below.go xs j d lo c->xs[i]<j)/\∀i (h:i<xs.size),below.go xs j d lo c<=i->j<=xs[i]
 |0,lo,c,h1,g,s,k,l=>by
  have:lo=c:=by lia
  subst this;exact⟨g,k,l⟩
 |f+1,lo,c,h1,g,s,k,l=>by
  have mono:∀a b (ha:a<xs.size) (q:b<xs.size),a<=b->xs[a]<=xs[b]:=by
   intro a b ha q n;rcases Nat.lt_or_eq_of_le n with h|h
   .have:=Uk.mp m a b (by simpa using ha) (by simpa using q) h;simpa using WV this
   .subst h;exact TY _
  unfold below.go;by_cases r:lo<c
  .rw[T2 r];have o:(lo+c)/2<xs.size:=by lia
   have t:xs.getD ((lo+c)/2) j=xs[(lo+c)/2]:=by simp[Array.getD,o]
   dsimp only;rw[t];by_cases p:xs[(lo+c)/2]<j
   .rw[T2 p];refine p9 m f _ _ (by lia) g (by lia) (λi h e=>?_) l;exact U2 (mono i _ h o (by lia)) p
   .rw[T9 p];refine p9 m f _ _ (by lia) (by lia) (by lia) k λi h e=>?_;exact Us (by lia) (mono _ i o h e)
  .rw[T9 r];have:lo=c:=by lia
   subst this;exact⟨g,k,l⟩
def dI(j:Nat)(a:Gj xs.toList):below xs j<=xs.size/\(∀i (h:i<xs.size),i<below xs j->xs[i]<j)/\∀i (h:i<xs.size),below xs j<=i->j<=xs[i]:=by unfold below;exact p9 a xs.size 0 xs.size (UB _) (TY _) (by lia) (λi h z=>by lia) λi h z=>by lia
def C0(d:Gj xs.toList)(h:i<xs.size):below xs xs[i]=i:=by
 obtain⟨a,b,c⟩:=dI xs[i] d;rcases WN (below xs xs[i]) i with q|q|q
 .have e:below xs xs[i]<xs.size:=by lia
  have h1:=c (below xs xs[i]) e (TY _);have f:=Uk.mp d _ i (by grind) (by grind) q;simp at f;lia
 .exact q
 .have:=b i h q;lia
theorem sO(j:Nat):has #[] j=false:=rfl
structure Tb(t:SetTable):Prop where
 f9:xK t.mask
 NK:t.dummies=#[]
 xB:Gj t.place.toList
 le:∀j∈t.place.toList,j<=t.mask
theorem sP(h:Tb t)(a:i<t.place.size):t.slot t.place[i]=.live i:=by unfold slot;dsimp only;rw[C0 h.xB a];rw[T2];simp[a]
def yd(h:Tb t)(a:j∉t.place.toList):t.slot j=.empty:=by
 unfold slot;dsimp only;rw[T9,h.NK,sO]
 .rfl
 .grind
def ye(h:Tb t)(j:Nat):(j∉t.place.toList/\t.slot j=.empty)\/∃i,∃b:i<t.place.size,t.place[i]=j/\t.slot j=.live i:=by
 by_cases a:j∈t.place.toList
 .right;obtain⟨i,b,e⟩:=Wq.mp a
  grind [sP]
 .exact .inl ⟨a,yd h a⟩
def Lv(t:SetTable)(j:Nat):Prop:=j∈t.place.toList
inductive kN(t:SetTable) (ha:Nat->Int) (h:Int) (p:Probe):Option Met->Prop
 |em (n:Nat) (e:¬Lv t (it t.mask n p).j) (b:∀k,k<n->∃i,∃hi:i<t.place.size,t.place[i]=(it t.mask k p).j/\ha i≠h):kN t ha h p (some (.empty (it t.mask n p).j none))
 |ca (n i:Nat) (hi:i<t.place.size) (e:t.place[i]=(it t.mask n p).j) (q:ha i=h) (b:∀k,k<n->∃i,∃hi:i<t.place.size,t.place[i]=(it t.mask k p).j/\ha i≠h) :
  kN t ha h p (some (.candidate (it t.mask n p).j i (it t.mask (n+1) p)))
theorem vV(h:Tb t)(ha:Nat->Int)(x:Int):∀(c:Nat)(p:Probe),Va t.mask p->(∃n,n<c/\¬Lv t (it t.mask n p).j)->kN t ha x p (probe.go t ha x c p)
 |0,p,v,⟨n,w,_⟩=>by lia
 |f+1,p,v,⟨n,w,r⟩=>by
  unfold probe.go;rcases ye h p.j with⟨h1,e⟩|⟨i,g,h1,e⟩
  .rw[e];dsimp only;have:=kN.em (t:=t) (ha:=ha) (h:=x) (p:=p) 0 h1 λk s=>by lia
   rw[v.d];exact this
  .rw[e];dsimp only;by_cases l:ha i=x
   .rw[T2 (by simpa using l)];exact kN.ca (t:=t) (ha:=ha) (h:=x) (p:=p) 0 i g h1 l λk s=>by lia
   .rw[T9 (by simpa using l),yb];have y:n≠0:=by rintro rfl;exact r (by show p.j∈t.place.toList;rw[<- h1];simp)
    have u:=vV h ha x f (ya t.mask p) v.ya ⟨n-1,by lia,by
     have:it t.mask (n-1) (ya t.mask p)=it t.mask n p:=by show _=it t.mask n p;rw[show n=(n-1)+1 by lia];rfl
     rw[this];exact r⟩
    have a:∀{nn:Nat},(∀k,k<nn->∃i,∃g:i<t.place.size,t.place[i]=(it t.mask k (ya t.mask p)).j/\ha i≠x)->∀k,k<nn+1->∃i,∃g:i<t.place.size,t.place[i]=(it t.mask k p).j/\ha i≠x:=by
     intro nn b k s;cases k with
     |zero=>exact⟨i,g,h1,l⟩
     |succ k=>exact b k (by lia)
    generalize probe.go t ha x f (ya t.mask p)=B at u;cases u with
    |em m o b=>exact kN.em (t:=t) (ha:=ha) (h:=x) (p:=p) (m+1) o (a b)
    |ca m z q o A b=>exact kN.ca (t:=t) (ha:=ha) (h:=x) (p:=p) (m+1) z q o A (a b)
theorem p_:∀(b c:List Nat),b.Nodup->(∀x∈b,x∈c)->b.length<=c.length
 |[],_,_,_=>UB _
 |a::b,c,nd,hs=>by
  have ha:a∈c:=hs a (T5 ..);have d:=p_ b (c.erase a) (UN.mp nd).2 λx e=>by grind
  grind
def qg(h:Tb t)(hs:t.place.size<=t.mask):∃j,j<=t.mask/\¬Lv t j:=by refine Vv λc=>?_;have a:∀j,j<=t.mask->j∈t.place.toList:=λj b=>Vv λz=>c ⟨j,b,z⟩;have:=p_ (List.range (t.mask+1)) t.place.toList Wc λj b=>a j (by grind);simp at this;lia
def qh(h:Tb t)(hs:t.place.size<=t.mask)(ha:Nat->Int)(x:Int)(v:Va t.mask p):kN t ha x p (t.probe ha x p):=by obtain⟨j,a,b⟩:=qg h hs;obtain⟨n,h1,c⟩:=IQ h.f9 a v;unfold probe;exact vV h ha x _ p v ⟨n,h1,by grind⟩
def Rea(m:Nat)(a:Nat->Prop)(h:Int)(j:Nat):Prop:=∃n,(it m n (st m h)).j=j/\∀k,k<n->a (it m k (st m h)).j
def Rea.mono(r:Rea m lv h j)(s:∀j,lv j->lv' j):Rea m lv' h j:=let ⟨n,e,b⟩:=r;⟨n,e,λk a=>s _ (b k a)⟩
structure rG{V:Type} (t:SetTable) (es:Array (Int×V)):Prop where
 tb:Tb t
 len:t.place.size=es.size
 NJ:∀q∈t.place.toList.zip es.toList,Rea t.mask (·∈ t.place.toList) q.2.1 q.1
def lH(t:SetTable):Prop:=t.place.size*5<t.mask*3
def insertAt_toList{α:Type}(xs:Array α)(p:Nat)(x:α)(h:p<=xs.size):(insertAt xs p x).toList=xs.toList.take p++x::xs.toList.drop p:=by unfold insertAt;simp[Array.toList_extract,List.extract_eq_drop_take,UU]
def insertAt_size{α:Type}(xs:Array α)(p:Nat)(x:α)(h:p<=xs.size):(insertAt xs p x).size=xs.size+1:=by rw[<- UR,insertAt_toList xs p x h];simp;lia
def mF(h:Tb t)(j:Nat):(t.put j).1={t with place:=insertAt t.place (below t.place j) j}:=by
 unfold put;dsimp only;rw[h.NK]
 grind [sO]
def pz(t:SetTable)(j:Nat):(t.put j).2=below t.place j:=rfl
def yf{α b:Type}(xs:List α)(a:List b)(p:Nat)(x:α)(y:b)(h:xs.length=a.length):(xs.take p++x::xs.drop p).zip (a.take p++y::a.drop p)=(xs.zip a).take p++(x,y)::(xs.zip a).drop p:=by rw[List.zip_append (by simp[h]),WD];simp[List.zip,List.take_zipWith,List.drop_zipWith]
def yg{V:Type}{t:SetTable}{es:Array (Int×V)}(h:rG t es){j:Nat}(x:j∉t.place.toList)(m:j<=t.mask){g:Int}{v:V}(r:Rea t.mask (·∈ t.place.toList) g j) :
 rG (t.put j).1 (insertAt es (t.put j).2 (g,v))/\(t.put j).1.mask=t.mask/\(t.put j).1.place.size=t.place.size+1:=by
 obtain⟨a,b,c⟩:=dI j h.tb.xB;rw[mF h.tb,pz];have o:below t.place j<=es.size:=by rw[<- h.len];exact a
 have el:=insertAt_toList t.place _ j a;have u:=insertAt_toList es (below t.place j) (g,v) o;have mem:∀k,k∈(insertAt t.place (below t.place j) j).toList↔k=j\/k∈t.place.toList:=by
  intro k;rw[el,Ug,T6];constructor
  .grind
  .rintro(rfl|z)
   .exact .inr (.inl rfl)
   .rw[<- V0 (below t.place j) t.place.toList,Ug]at z;exact z.elim .inl λz=>.inr (.inr z)
 refine⟨⟨⟨h.tb.f9,h.tb.NK,?_,λk d=>?_⟩,?_,λq f=>?_⟩,rfl,insertAt_size _ _ _ a⟩
 .show Gj (insertAt t.place (below t.place j) j).toList;rw[el];unfold Gj;rw[W6];refine⟨h.tb.xB.sublist (List.take_sublist _ _),?_,?_⟩
  .rw[UP];refine⟨λk d=>?_,h.tb.xB.sublist (List.drop_sublist _ _)⟩;obtain⟨i,p,e⟩:=Wq.mp d
   grind
  .intro k d l hl;obtain⟨i,p,e⟩:=Wq.mp d;rw[VF]at p;have n:i<t.place.size:=by grind
   have e2:t.place[i]=k:=by grind
   have s:=b i n (by lia);rw[e2]at s;rw[T6]at hl;rcases hl with rfl|hl
   .exact s
   .obtain⟨y,w,A⟩:=Wq.mp hl
    grind
 .rcases(mem k).mp d with rfl|z
  .exact m
  .exact h.tb.le k z
 .show(insertAt t.place (below t.place j) j).size=_;rw[insertAt_size _ _ _ a,insertAt_size _ _ _ o,h.len]
 .have f:q∈(insertAt t.place (below t.place j) j).toList.zip (insertAt es (below t.place j) (g,v)).toList:=f;rw[el,u,yf _ _ _ _ _ (by simpa using h.len)]at f;have sub:∀k,k∈t.place.toList->k∈(insertAt t.place (below t.place j) j).toList:=λk d=>(mem k).mpr (.inr d);rw[Ug,T6]at f;rcases f with z|rfl|z
  .exact(h.NJ q (VH z)).mono sub
  .exact r.mono sub
  .exact(h.NJ q (List.mem_of_mem_drop z)).mono sub
def ow(owner:Array (Option Nat))(j:Nat):Prop:=∃k,owner[j]?=some (some k)
theorem ua(i q:Nat):∀k,k<=runEnd m i-i->it m k (rs m (i,q))={j:=i+k,more:=runEnd m i-i-k,i:=i,perturb:=q,dummy:=none}
 |0,_=>rfl
 |k+1,h=>by
  rw[Gi,ua i q k (by lia)]
  grind [ya]
theorem sQ(hs:owner.size=m+1):∀(a i q:Nat),i<=m->q<2^64->(∃L,L<a/\¬ow owner (lp m L (i,q)).1)->
 ∃j,layClean.free m owner a i q=some j/\j<=m/\¬ow owner j/\∃n,(it m n (rs m (i,q))).j=j/\∀k,k<n->ow owner (it m k (rs m (i,q))).j
 |0,i,q,_,_,⟨L,h,_⟩=>by lia
 |f+1,i,q,l,t,⟨L,A,o⟩=>by
  obtain⟨B,C⟩:=lY m i l;have v:runEnd m i+1-i=(runEnd m i-i)+1:=by
   have:i<=runEnd m i:=by unfold runEnd;split<;>lia
   lia
  have p:∀k,k<=runEnd m i-i->((owner.getD (i+k) (some 0)).isNone=true↔¬ow owner (i+k)):=by
   intro k d;have g:i+k<owner.size:=by lia
   have e:owner[i+k]?=some owner[i+k]:=by simp[g]
   have e2:owner.getD (i+k) (some 0)=owner[i+k]:=by simp[Array.getD,g]
   unfold ow;rw[e2,e];cases owner[i+k]<;>simp
  unfold layClean.free;cases r:(List.range (runEnd m i+1-i)).find? λk=>(owner.getD (i+k) (some 0)).isNone with
  |some k=>
   dsimp only;rw[List.find?_range_eq_some]at r;obtain⟨h1,u,D⟩:=r;have u:=UF.mp u;have d:k<=runEnd m i-i:=by lia
   refine⟨i+k,rfl,by lia,(p k d).mp h1,k,by rw[ua i q k d],λE w=>?_⟩
   grind [ua]
  |none=>
   dsimp only;rw[List.find?_range_eq_none]at r;have b:∀k,k<=runEnd m i-i->ow owner (i+k):=by grind
   have x:L≠0:=by rintro rfl;exact o (b 0 (UB _))
   have y:=sQ hs f (leap m i q).1 (leap m i q).2 (t9 m i q) (by rw[yc];have:=Nat.div_le_self q 32;lia) ⟨L-1,by lia,by
    have:lp m L (i,q)=lp m (L-1) (leap m i q):=by rw[show L=(L-1)+1 by lia];rfl
    rw[this]at o;exact o⟩
   obtain⟨j,e,z,s,n,en,g⟩:=y;refine⟨j,e,z,s,runEnd m i-i+1+n,?_,λk d=>?_⟩
   .rw[gY,px (runEnd m i-i) (rs m (i,q)) rfl (Va.rs l t)];exact en
   .by_cases c:k<=runEnd m i-i
    .rw[ua i q k c];exact b k c
    .have:it m k (rs m (i,q))=it m (k-(runEnd m i-i+1)) (rs m (leap m i q)):=by rw[show k=(runEnd m i-i+1)+(k-(runEnd m i-i+1)) by lia,gY,px (runEnd m i-i) (rs m (i,q)) rfl (Va.rs l t)];congr 1;lia
     rw[this];exact g _ (by lia)
structure Own(m:Nat) (hs:List Int) (owner:Array (Option Nat)):Prop where
 size:owner.size=m+1
 all:∀k:Nat,k<hs.length->∃j:Nat,owner[j]?=some (some k)
 lt:∀j k:Nat,owner[j]?=some (some k)->k<hs.length
 NJ:∀(j k:Nat)(h:Int),owner[j]?=some (some k)->hs[k]?=some h->Rea m (ow owner) h j
 inj:∀j j' k:Nat,owner[j]?=some (some k)->owner[j']?=some (some k)->j=j'
def Own.QT(o:Own m hs owner)(q:hs.length<=m):∃j,j<=m/\¬ow owner j:=by
 refine Vv λl=>?_;have d:∀j,j<=m->ow owner j:=λj c=>Vv λz=>l ⟨j,c,z⟩
 let g:Nat->Nat:=λj=>((owner[j]?).getD none).getD 0
 have h:∀j,j<=m->owner[j]?=some (some (g j)):=λj c=>by
  obtain⟨k,r⟩:=d j c
  grind
 have nd:((List.range (m+1)).map g).Nodup:=by unfold List.Nodup;rw[V5];have:=Wc (n:=m+1);refine V6 (λ{a b} ha i f e=>f ?_) this;have ha:=UF.mp ha;have i:=UF.mp i;exact o.inj a b (g a) (h a (by lia)) (by grind)
 have:=p_ _ (List.range hs.length) nd λx p=>by obtain⟨j,c,rfl⟩:=T_.mp p;have c:=UF.mp c;exact UF.mpr (o.lt j _ (h j (by lia)))
 simp at this;lia
def C1(t:xK m)(o:Own m hs owner)(u:hs.length<=m)(h:Int) :
 ∃j,layClean.free m owner (turns m) (bits h%(m+1)) (bits h)=some j/\Own m (hs++[h]) (owner.setIfInBounds j (some hs.length)):=by
 obtain⟨A,l,v⟩:=o.QT u;have d:bits h%(m+1)<=m:=Xk (XB _ (Nat.succ_pos m));obtain⟨L,B,C,el⟩:=vU t l (bits h%(m+1),bits h) d (t8 h);obtain⟨j,e,D,p,n,en,w⟩:=sQ o.size (turns m) _ _ d (t8 h) ⟨L,by unfold turns;lia,by grind⟩;refine⟨j,e,?_⟩;have x:j<owner.size:=by rw[o.size];lia
 have get:∀i,(owner.setIfInBounds j (some hs.length))[i]?=if i=j then some (some hs.length)else owner[i]?:=by grind
 have sub:∀i,ow owner i->ow (owner.setIfInBounds j (some hs.length)) i:=by
  rintro i ⟨k,b⟩;by_cases c:i=j
  .exact⟨_,by rw[get,T2 c]⟩
  .exact⟨k,by grind⟩
 have a:∀i k,(owner.setIfInBounds j (some hs.length))[i]?=some (some k)->(i=j/\k=hs.length)\/(i≠j/\owner[i]?=some (some k)):=by grind
 refine⟨by rw[Array.size_setIfInBounds,o.size],λk b=>?_,λi k b=>?_,λi k h' b g=>?_,λi q k h1 y=>?_⟩
 .rw[Um,WZ]at b;by_cases f:k=hs.length
  .exact⟨j,by grind⟩
  .obtain⟨i,d⟩:=o.all k (by lia);refine⟨i,?_⟩;rw[get,T9]
   .exact d
   .rintro rfl;exact p ⟨k,d⟩
 .rw[Um,WZ];rcases a i k b with⟨_,rfl⟩|⟨_,z⟩
  .lia
  .have:=o.lt i k z;lia
 .rcases a i k b with⟨rfl,rfl⟩|⟨c,z⟩
  .rw[U4 (TY _),Nat.sub_self]at g;cases g;exact⟨n,en,λk b=>sub _ (w k b)⟩
  .have f:=o.lt i k z;rw[Vw f]at g;exact(o.NJ i k h' z g).mono sub
 .rcases a i k h1 with⟨rfl,rfl⟩|⟨c,z⟩<;>rcases a q _ y with⟨rfl,E⟩|⟨r,s⟩
  .rfl
  .have:=o.lt _ _ s;lia
  .have:=o.lt _ _ z;lia
  .exact o.inj i q k z s
theorem C2(d:xK m):∀(b pre:List Int)(owner:Array (Option Nat)),Own m pre owner->pre.length+b.length<=m->
 ∃a,b.foldl (λc h=>do
  let (owner,k) <- c
  let j <- layClean.free m owner (turns m) (bits h%(m+1)) (bits h)
  pure (owner.setIfInBounds j (some k),k+1)) (some (owner,pre.length))=some (a,pre.length+b.length)/\Own m (pre++b) a
 |[],pre,owner,o,_=>⟨owner,rfl,by grind⟩
 |h::b,pre,owner,o,f=>by
  simp only[Ue]at f;obtain⟨j,e,g⟩:=C1 d o (by lia) h;obtain⟨a,e2,i⟩:=C2 d b (pre++[h]) _ g (by simp;lia)
  grind
def KD(a:xK m)(hs:Array Int)(d:hs.size<=m):∃owner,layClean m hs=some owner/\Own m hs.toList owner:=by
 have b:Own m [] (Array.replicate (m+1) none):=by
  have no:∀j k:Nat,(Array.replicate (m+1) (none:Option Nat))[j]?=some (some k)->False:=by grind
  exact⟨by simp,λk c=>by simp at c,λj k h=>(no j k h).elim,λj k _ h=>(no j k h).elim,λj _ k h=>(no j k h).elim⟩
 obtain⟨owner,e,o⟩:=C2 a hs.toList [] _ b (by grind);refine⟨owner,?_,by grind⟩;unfold layClean
 grind
theorem C3{α:Type}(es:Array α):∀(l:List Nat),(∀k∈l,k<es.size)->(l.filterMap (es[·]?)).length=l.length/\∀i:Nat,(l.filterMap (es[·]?))[i]?=(l[i]?).bind (es[·]?)
 |[],_=>⟨rfl,λi=>by simp⟩
 |k::l,h=>by
  have c:k<es.size:=h k (T5 ..);have e:es[k]?=some es[k]:=by simp[c]
  obtain⟨a,b⟩:=C3 es l λk c=>h k (T3 _ c);rw[List.filterMap_cons_some e];refine⟨by simp[a],λi=>?_⟩;cases i with
  |zero=>simp[e]
  |succ i=>simpa using b i
theorem qj(o:Nat->Option Nat):∀l:List Nat,(l.filterMap λj=>(o j).map (j,·)).map Prod.fst=l.filter λj=>(o j).isSome
 |[]=>rfl
 |j::l=>by
  rw[Wv,Wb];cases e:o j with
  |none=>simpa using qj o l
  |some k=>simpa using qj o l
def C4(owner:Array (Option Nat))(m:Nat)(hs:owner.size=m+1)(j k:Nat):(j,k)∈((List.range (m+1)).filterMap λj=>(owner.getD j none).map (j,·))↔owner[j]?=some (some k):=by
 rw[VE];constructor
 .rintro⟨a,h1,c⟩;have h1:=UF.mp h1;have b:a<owner.size:=by lia
  have e:owner.getD a none=owner[a]:=by simp[Array.getD,b]
  rw[e]at c;obtain⟨d,e1,e2⟩:=UT.mp c;cases e2;rw[show owner[j]?=some owner[j] by simp[b],e1]
 .intro h;obtain⟨b,e⟩:=Vp.mp h;refine⟨j,UF.mpr (by lia),?_⟩;have e2:owner.getD j none=owner[j]:=by simp[Array.getD,b]
  rw[e2,e];rfl
structure Laid{V:Type} (m:Nat) (es es':Array (Int×V)) (t':SetTable):Prop where
 xF:rG t' es'
 mask:t'.mask=m
 size:es'.size=es.size
 mem:∀x,x∈es'.toList↔x∈es.toList
 pw:∀R:Int×V->Int×V->Prop,(∀x y,R x y->R y x)->es.toList.Pairwise R->es'.toList.Pairwise R
def vW{V:Type}{m:Nat}(D:xK m)(es:Array (Int×V))(J:es.size<=m)(finger moves:Nat)(led plain:Bool) :
 ∃t' c,laid m finger moves led plain (es.map (·.1))=some (t',c)/\Laid m es (c.filterMap (es[·]?)) t'/\t'.led=led/\t'.plain=plain/\c.toList.Perm (List.range es.size):=by
 obtain⟨owner,K,o⟩:=KD D (es.map (·.1)) (by simpa using J);have len:(es.map (·.1)).toList.length=es.size:=by simp
 let live:=(List.range (m+1)).filterMap λj=>(owner.getD j none).map (j,·)
 have l:∀j k,(j,k)∈live↔owner[j]?=some (some k):=C4 owner m o.size;have xB:Gj (live.map Prod.fst):=by show Gj (((List.range (m+1)).filterMap λj=>(owner.getD j none).map (j,·)).map Prod.fst);rw[qj];exact List.pairwise_lt_range.sublist (List.filter_sublist)
 have n:(live.map Prod.snd).Nodup:=by unfold List.Nodup;unfold Gj at xB;rw[V5]at xB ⊢;refine V6 (λ{a b} ha g s e=>?_) xB;have h1:=(l a.1 a.2).mp ha;have f:=(l b.1 b.2).mp g;rw[<- e]at f;have:=o.inj _ _ _ h1 f;lia
 have lt:∀k∈live.map Prod.snd,k<es.size:=by
  intro k d;obtain⟨p,r,rfl⟩:=T_.mp d;have:=o.lt p.1 p.2 ((l p.1 p.2).mp r)
  rwa [len]at this
 have all:∀k,k<es.size->k∈live.map Prod.snd:=by intro k d;obtain⟨j,t⟩:=o.all k (by rw[len];exact d);exact T_.mpr ⟨(j,k),(l j k).mpr t,rfl⟩
 have E:live.length=es.size:=by have a:=p_ _ (List.range es.size) n λk d=>UF.mpr (lt k d);have b:=p_ (List.range es.size) (live.map Prod.snd) Wc λk d=>all k (UF.mp d);simp at a b;lia
 obtain⟨F,A⟩:=C3 es (live.map Prod.snd) lt;refine⟨{mask:=m,place:=(live.map (·.1)).toArray,dummies:=#[],finger,led,moves,plain},(live.map (·.2)).toArray,?_,?_,rfl,rfl,(List.perm_ext_iff_of_nodup n Wc).mpr λk=>⟨λh=>UF.mpr (lt k h),λh=>all k (UF.mp h)⟩⟩
 .unfold laid;rw[K];rfl
 .have el:((live.map (·.2)).toArray.filterMap (es[·]?)).toList=(live.map Prod.snd).filterMap (es[·]?):=by simp
  have u:((live.map (·.2)).toArray.filterMap (es[·]?)).size=es.size:=by rw[<- UR,el,F,TZ,E]
  refine⟨⟨⟨D,rfl,by simpa using xB,λj t=>?_⟩,?_,λq y=>?_⟩,rfl,u,λx=>?_,λR L pw=>?_⟩
  .have t:j∈live.map Prod.fst:=by simpa using t
   obtain⟨p,r,rfl⟩:=T_.mp t;obtain⟨g,_⟩:=Vp.mp ((l p.1 p.2).mp r);show p.1<=m;have:=o.size;lia
  .rw[u];simpa using E
  .have y:q∈(live.map Prod.fst).zip ((live.map Prod.snd).filterMap (es[·]?)):=by rw[el]at y;simpa using y
   obtain⟨i,G⟩:=Uc.mp y;rw[Ws,A]at G;obtain⟨h1,f⟩:=G;rw[Ui]at h1 f;obtain⟨p,r,e1⟩:=UT.mp h1;rw[r]at f;have f:es[p.2]?=some q.2:=f;have M:=(l p.1 p.2).mp (Uc.mpr ⟨i,r⟩);have N:(es.map (·.1)).toList[p.2]?=some q.2.1:=by rw[Ut,Array.getElem?_map,f];rfl
   rw[<- e1];refine(o.NJ p.1 p.2 q.2.1 M N).mono λj ⟨k,d⟩=>?_;show j∈(live.map (·.1)).toArray.toList;simpa using⟨k,(l j k).mpr d⟩
  .rw[el];constructor
   .intro B;obtain⟨k,_,f⟩:=VE.mp B;exact Uc.mpr ⟨k,by rw[Ut];exact f⟩
   .intro B;obtain⟨k,d⟩:=Uc.mp B;have g:k<es.size:=by have:=(T7.mp d).1;simpa using this
    exact VE.mpr ⟨k,all k g,by rw[Ut]at d;exact d⟩
  .rw[el];rw[Uk];intro a b ha g s;have v:=A a;have w:=A b;rw[U0 ha]at v;rw[U0 g]at w;rw[F]at ha g;rw[U0 ha]at v;rw[U0 g]at w;have C:(live.map Prod.snd)[a]≠(live.map Prod.snd)[b]:=Uk.mp n a b ha g s;have v:es[(live.map Prod.snd)[a]]?=some _:=v.symm;have w:es[(live.map Prod.snd)[b]]?=some _:=w.symm;obtain⟨H,va⟩:=Vp.mp v;obtain⟨I,O⟩:=Vp.mp w;have P:=Uk.mp pw;rw[<- va,<- O];rcases WF C with z|z
   .simpa using P _ _ (by simpa using H) (by simpa using I) z
   .refine L _ _ ?_;simpa using P _ _ (by simpa using I) (by simpa using H) z
def Gk{V:Type}{m:Nat}(f:xK m)(es:Array (Int×V))(g:es.size<=m)(finger moves:Nat)(led plain:Bool) :
 ∃t' e,laid m finger moves led plain (es.map (·.1))=some (t',e)/\Laid m es (e.filterMap (es[·]?)) t'/\t'.led=led/\t'.plain=plain:=by
 obtain⟨t',e,a,b,c,d,_⟩:=vW f es g finger moves led plain;exact⟨t',e,a,b,c,d⟩
end ST
namespace ST
open PySem PySem.W PyProof.Rows
structure Lt(N:Nat) (lt:Nat->Nat->Bool):Prop where
 TN:∀i,lt i i=false
 tr:∀i j k,lt i j=true->lt j k=true->lt i k=true
 TR:∀i j,i<N->j<N->i≠j->lt i j=true\/lt j i=true
noncomputable abbrev SS:=Nat->Nat->(Bool->XD->Prop)->XD->Prop
def Gm(N:Nat)(lt:Nat->Nat->Bool)(a:SS)(s:XD):Prop:=∀i j C,i<N->j<N->C (lt i j) s->a i j C s
def Pm(N:Nat)(p:Array Nat):Prop:=p.toList.Perm (List.range N)
noncomputable def cN(p:Array Nat)(i:Nat):Nat:=p.getD i 0
section
variable{N:Nat}{lt:Nat->Nat->Bool}{cmp:SS}{s:XD}{p:Array Nat}
theorem Pm.size(h:Pm N p):p.size=N:=by have:=h.length_eq;simpa using this
def Pm.perm(h:Pm N p)(q:p'.Perm p):Pm N p':=(Array.perm_iff_toList_perm.mp q).trans h
def KF(a:i<p.size):p[i]?=some (cN p i):=by unfold cN;simp[Array.getD,a]
theorem C5(h:p'[i]?=p[k]?):cN p' i=cN p k:=by
 simp_all [cN,cN]
def Pm.bd(h:Pm N p)(b:i<N):cN p i<N:=by
 have a:i<p.size:=by rw[h.size];exact b
 have:cN p i∈p.toList:=Uc.mpr ⟨i,by rw[Ut];exact KF a⟩;exact UF.mp (h.mem_iff.mp this)
def Pm.ne(h:Pm N p)(f:i<N)(g:j<N)(e:i≠j):cN p i≠cN p j:=by
 have nd:p.toList.Nodup:=h.nodup_iff.mpr Wc;have a:i<p.size:=by rw[h.size];exact f
 have b:j<p.size:=by rw[h.size];exact g
 have c:p.toList[i]'(by simpa using a)=cN p i:=by simp[cN,Array.getD,a]
 have d:p.toList[j]'(by simpa using b)=cN p j:=by simp[cN,Array.getD,b]
 intro z;rcases WF e with q|q
 .exact Uk.mp nd i j (by simpa using a) (by simpa using b) q (by rw[c,d];exact z)
 .exact Uk.mp nd j i (by simpa using b) (by simpa using a) q (by rw[c,d];exact z.symm)
def So(lt:Nat->Nat->Bool)(p:Array Nat)(k:Nat):Prop:=∀a b,a<b->b<k->lt (cN p a) (cN p b)=true
def De(lt:Nat->Nat->Bool)(p:Array Nat)(k:Nat):Prop:=∀a b,a<b->b<k->lt (cN p b) (cN p a)=true
def Lt.zb(o:Lt N lt)(a:i<N)(b:j<N)(e:i≠j)(h:lt i j=false):lt j i=true:=by
 grind [Lt]
def So.snoc(o:Lt N lt)(h:So lt p k)(a:1<=k)(l:lt (cN p (k-1)) (cN p k)=true):So lt p (k+1):=by
 grind [Lt,So]
def De.snoc(o:Lt N lt)(h:De lt p k)(a:1<=k)(l:lt (cN p k) (cN p (k-1))=true):De lt p (k+1):=by
 grind [Lt,De]
theorem yh(o:Lt N lt)(an:Gm N lt cmp s)(pm:Pm N p):∀(f n:Nat){Q:Nat->XD->Prop},1<=n->n+f=N->So lt p n->
 (∀m,n<=m->m<=N->So lt p m->(m<N->lt (cN p m) (cN p (m-1))=true)->Q m s)->(kas_asc p f n).kasWp cmp Q s
 |0,n,Q,h1,g,e,k=>k n (TY _) (by lia) e λz=>by lia
 |f+1,n,Q,h1,g,e,k=>by
  refine an _ _ _ (pm.bd (by lia)) (pm.bd (by lia)) ?_;show KasT.kasWp cmp (if lt (cN p n) (cN p (n-1))=true then .ret n else kas_asc p f (n+1)) Q s;by_cases c:lt (cN p n) (cN p (n-1))=true
  .rw[T2 c];exact k n (TY _) (by lia) e λ_=>c
  .rw[T9 c];have c:lt (cN p n) (cN p (n-1))=false:=by grind
   exact yh o an pm f (n+1) (by lia) (by lia) (e.snoc o h1 (o.zb (pm.bd (by lia)) (pm.bd (by lia)) (pm.ne (by lia) (by lia) (by lia)) c)) λm a b c d=>k m (by lia) b c d
theorem zy(o:Lt N lt)(an:Gm N lt cmp s)(pm:Pm N p):∀(f n:Nat){Q:Array Nat×Nat×Nat->XD->Prop},1<=n->n+f=N->De lt p n->
 (∀m,n<=m->m<=N->De lt p m->Q (p,m,0) s)->(kas_desc f p n 0).kasWp cmp Q s
 |0,n,Q,h1,g,e,k=>k n (TY _) (by lia) e
 |f+1,n,Q,h1,g,e,k=>by
  refine an _ _ _ (pm.bd (by lia)) (pm.bd (by lia)) ?_;show KasT.kasWp cmp (if lt (cN p n) (cN p (n-1))=true then(if 0>0 then kas_desc f (kas_rev p (n-(0+1)) n) (n+1) 0 else kas_desc f p (n+1) 0)
   else .ask (cN p (n-1)) (cN p n) λd=>if d=true then .ret (p,n,0)else kas_desc f p (n+1) (0+1)) Q s
  by_cases c:lt (cN p n) (cN p (n-1))=true
  .rw[T2 c,T9 (by lia)];exact zy o an pm f (n+1) (by lia) (by lia) (e.snoc o h1 c) λm a b c=>k m (by lia) b c
  .rw[T9 c];have c:lt (cN p n) (cN p (n-1))=false:=by grind
   refine an _ _ _ (pm.bd (by lia)) (pm.bd (by lia)) ?_;rw[o.zb (pm.bd (by lia)) (pm.bd (by lia)) (pm.ne (by lia) (by lia) (by lia)) c];show KasT.kasWp cmp (if true=true then _ else _) Q s;rw[T2 rfl];exact k n (TY _) (by lia) e
def C6(n:Nat)(a:n<=p.size)(k:Nat):cN (kas_rev p 0 n) k=if k<n then cN p (n-1-k)else cN p k:=by
 have e:=getElem?_mirror_all (xs:=p) (i:=0) a k;unfold kas_rev
 grind [C5]
def C7(o:Lt N lt)(an:Gm N lt cmp s)(pm:Pm N p)(h1:1<=n)(f:n<=N)(hd:De lt p n)
 (k:∀m e,1<=m->m<=N->Pm N e->So lt e m->Q (m,e) s):(kas_tail3 n N p).kasWp cmp Q s:=by
 unfold kas_tail3;rw[WG];have d:Pm N (kas_rev p 0 n):=pm.perm (mirror_perm _ _ _ _);refine yh o an d (N-n) n h1 (by lia) ?_ λm a b c _=>k m _ (by lia) b d c;intro a b g h;rw[C6 n (by rw[pm.size];exact f),C6 n (by rw[pm.size];exact f),T2 (by lia),T2 h];exact hd _ _ (by lia) (by lia)
def C8(o:Lt N lt)(an:Gm N lt cmp s)(pm:Pm N p)(r:2<=N)
 (k:∀m f,1<=m->m<=N->Pm N f->So lt f m->Q (m,f) s):(kas_count N p).kasWp cmp Q s:=by
 unfold kas_count;rw[WG];refine yh o an pm (N-1) 1 (TY _) (by lia) (λa b g j=>by lia) λm a b c d=>?_;by_cases e:m=N
 .rw[T2 (by simpa using e)];exact k m p a b pm c
 .rw[T9 (by simpa using e)];by_cases i:m>1
  .rw[T2 i];refine an _ _ _ (pm.bd (by lia)) (pm.bd (by lia)) ?_;have:lt (cN p 0) (cN p (m-1))=true:=c 0 (m-1) (by lia) (by lia);show KasT.kasWp cmp (if lt (cN p 0) (cN p (m-1))=true then _ else _) Q s;rw[T2 this];exact k m p a b pm c
  .rw[T9 i];have h:m=1:=by lia
   subst h;unfold kas_descPart;rw[WG];have l:=d (by lia);refine zy o an pm (N-(1+1)) (1+1) (by lia) (by lia) (λa b g j=>?_) λm' t n q=>?_
   .have:a=0:=by lia
    have:b=1:=by lia
    subst_vars
    exact l
   .show KasT.kasWp cmp (if 0>0 then _ else kas_tail3 m' N p) Q s;rw[T9 (by lia)];exact C7 o an pm (by lia) n q k
theorem qo(o:Lt N lt)(an:Gm N lt cmp s)(pm:Pm N p)(b:i<N)(so:So lt p i):∀(f l r:Nat){Q:Nat->XD->Prop},l<=r->r<=i->r-l<=f->
 (∀a,a<l->lt (cN p a) (cN p i)=true)->(∀a,r<=a->a<i->lt (cN p i) (cN p a)=true)->
 (∀m,m<=i->(∀a,a<m->lt (cN p a) (cN p i)=true)->(∀a,m<=a->a<i->lt (cN p i) (cN p a)=true)->Q m s)->(kas_place p i f l r).kasWp cmp Q s
 |0,l,r,Q,h1,h,j,d,g,k=>k l (by lia) d λa x y=>g a (by lia) y
 |f+1,l,r,Q,h1,h,j,d,g,k=>by
  unfold kas_place;by_cases c:l>=r
  .rw[T2 c];exact k l (by lia) d λa x y=>g a (by lia) y
  .rw[T9 c];refine an _ _ _ (pm.bd b) (pm.bd (by lia)) ?_;show KasT.kasWp cmp (if lt (cN p i) (cN p ((l+r)/2))=true then _ else _) Q s;by_cases q:lt (cN p i) (cN p ((l+r)/2))=true
   .rw[T2 q];refine qo o an pm b so f l ((l+r)/2) (by lia) (by lia) (by lia) d (λa x y=>?_) k;by_cases e:a=(l+r)/2
    .rw[e];exact q
    .exact o.tr _ _ _ q (so _ _ (by lia) y)
   .rw[T9 q];have q:lt (cN p i) (cN p ((l+r)/2))=false:=by grind
    have q:=o.zb (pm.bd b) (pm.bd (by lia)) (pm.ne b (by lia) (by lia)) q;refine qo o an pm b so f _ r (by lia) h (by lia) (λa x=>?_) g k;by_cases e:a=(l+r)/2
    .rw[e];exact q
    .exact o.tr _ _ _ (so _ _ (by lia) (by lia)) q
def C9(a:i<p.size)(b:l<=i)(k:Nat):cN (bubble p i (i-l)) k=if k=l then cN p i else if l<k/\k<=i then cN p (k-1)else cN p k:=by
 have e:=getElem?_bubble a (i-l) (by lia) k;rw[show i-(i-l)=l by lia]at e;by_cases h1:k=l
 .rw[T2 h1]at e ⊢;exact C5 e
 .rw[T9 h1]at e ⊢
  grind [C5]
theorem C_(o:Lt N lt)(an:Gm N lt cmp s):∀(f i:Nat)(p:Array Nat){Q:Array Nat->XD->Prop},Pm N p->i+f=N->So lt p i->
 (∀c,Pm N c->So lt c N->Q c s)->(kas_bin f p i).kasWp cmp Q s
 |0,i,p,Q,pm,h,so,k=>k p pm (by grind)
 |f+1,i,p,Q,pm,h,so,k=>by
  unfold kas_bin;rw[WG];refine qo o an pm (by lia) so i 0 i (by lia) (TY _) (by lia) (λa x=>by lia) (λa x y=>by lia) λm d lo e=>?_;refine C_ o an f (i+1) _ (pm.perm (bubble_perm _ _ _)) (by lia) (λa b g j=>?_) k;have hs:i<p.size:=by rw[pm.size];lia
  rw[C9 hs d,C9 hs d]
  repeat' split
  all_goals first|lia|(exact e _ (by lia) (by lia))|(exact lo _ (by lia))|(exact so _ _ (by lia) (by lia))
def Gn(o:Lt N lt)(an:Gm N lt cmp s)(g:2<=N)(k:∀p,Pm N p->So lt p N->Q p s):(kas_sort N).kasWp cmp Q s:=by
 unfold kas_sort;rw[WG];have pm:Pm N (List.toArray (List.range N)):=by unfold Pm;simp
 refine C8 o an pm g λm f a b c d=>?_;show KasT.kasWp cmp (if m<N then kas_bin (N-max m 1) f (max m 1)else .ret f) Q s;by_cases e:m<N
 .rw[T2 e];have:max m 1=m:=by lia
  rw[this];exact C_ o an (N-m) m f c (by lia) d k
 .rw[T9 e];have:m=N:=by lia
  subst this;exact k f c d
end
end ST
namespace L2
open PySem PySem.Spec PySem.Calls PyProof.Rows ST
noncomputable abbrev iK(ns:List Int):List br:=ns.map Sum.inl
section
variable{prog:XF}{w:World}{A:XH}{E:XG->XD->Prop}{s:XD}
def pA(h:(aF prog w).is (.inl i) v=true):∃t,v=.int i t:=by
 rcases bp (show lC (.inl i) v=true from h)with⟨j,t,e,rfl⟩|⟨x,t,e,_⟩
 .cases e;exact⟨t,rfl⟩
 .cases e
theorem items_int:∀{ns:List Int}{vs:List XG},ItemsAre (aF prog w) (iK ns) vs->∀v∈vs,∃i t,v=.int i t
 |[],_,h,v,hv=>by cases h;simp at hv
 |n::ns,_,h,v,hv=>by
  cases h with
  |cons h1 a=>
   rcases T6.mp hv with rfl|hv
   .obtain⟨t,rfl⟩:=pA h1;exact⟨n,t,rfl⟩
   .exact items_int a v hv
def KG(g:(tK prog w).is s.heap (iK ns) b)(h:Q true s):wpAny (model prog w) A (hashByValue 8 (.ref b)) Q E s:=by
 have j:=IsTupleKey.typeIs g;obtain⟨o,c,n,k,_,hd,l⟩:=g;unfold hashByValue;refine KE (wpAny_specialOf j PySem.F.slot_tuple_hash.lookup ?_);dsimp only;refine KE (WU k hd ?_);refine KE ?_;show wpAny _ _ (forIn c _ _) _ _ s;rw[<- Array.forIn_toList];refine W3 _ (λrest r d=>r.1=none/\d=s/\∀v∈rest,∃i t,v=Value.int i t) _ ?_ ?_ _ _ ⟨rfl,rfl,items_int l⟩
 .rintro v rest r d ⟨e,rfl,a⟩;obtain⟨i,t,rfl⟩:=a v T5;refine KE (TV ?_);simp only[VM,Ud,U1];exact TV ⟨rfl,rfl,λu f=>a u (T3 _ f)⟩
 .rintro⟨m,p⟩ d ⟨e,rfl,_⟩;simp only at e;subst e;exact TV h
def vX(g:(tK prog w).is s.heap (iK ns) b)(h:Q false s):wpAny (model prog w) A (ofAClassStatement 8 (.ref b)) Q E s:=by
 have j:=IsTupleKey.typeIs g;obtain⟨o,c,n,k,_,hd,l⟩:=g;unfold ofAClassStatement;refine KE (WY j ?_);dsimp only;rw[T2 (by decide)];refine KE (TV ?_);simp only[VM,Ud,U1];refine KE (WU k hd ?_);refine KE ?_;show wpAny _ _ (forIn c _ _) _ _ s;rw[<- Array.forIn_toList];refine W3 _ (λrest r d=>r.1=none/\d=s/\∀v∈rest,∃i t,v=Value.int i t) _ ?_ ?_ _ _ ⟨rfl,rfl,items_int l⟩
 .rintro v rest r d ⟨e,rfl,a⟩;obtain⟨i,t,rfl⟩:=a v T5;refine KE (TV ?_);simp only[Ud,U1];exact TV ⟨rfl,rfl,λu f=>a u (T3 _ f)⟩
 .rintro⟨m,p⟩ d ⟨e,rfl,_⟩;simp only at e;subst e;exact TV h
def KH(j:(tK prog w).is s.heap (iK ns) b)(l:∀y∈ys,∃d c,y=.ref c/\(tK prog w).is s.heap (iK d) c)(h:Q false s):wpAny (model prog w) A (searchCouldBeSeen (.ref b) ys) Q E s:=by
 unfold searchCouldBeSeen;refine KE ?_;refine W3 _ (λrest r f=>r.1=none/\f=s/\∀y∈rest,∃d c,y=.ref c/\(tK prog w).is s.heap (iK d) c) _ ?_ ?_ _ _ ⟨rfl,rfl,l⟩
 .rintro v rest r f ⟨g,rfl,a⟩;obtain⟨d,c,rfl,k⟩:=a v T5;have e:∀u∈rest,∃d c,u=Value.ref c/\(tK prog w).is f.heap (iK d) c:=λu i=>a u (T3 _ i);dsimp only;split
  .exact TV ⟨rfl,rfl,e⟩
  .refine KE ((tK prog w).quiet j ?_);simp only[VM,Ud,U1];refine KE ((tK prog w).quiet k ?_);simp only[VM,Ud,U1];refine KE (vX j ?_);simp only[Ud,U1];refine KE (vX k ?_);simp only[Ud,U1];exact TV ⟨rfl,rfl,e⟩
 .rintro⟨m,n⟩ f ⟨g,rfl,_⟩;simp only at g;subst g;exact TV h
def SU(prog:XF)(w:World)(h:Heap)(es:Array (Int×XG)):Prop:=∀e∈es.toList,∃a c,e=((tK prog w).hash (iK a),Value.ref c)/\(tK prog w).is h (iK a) c
def Gp(h:xK m):(m%2==0)=false:=by rcases h with rfl|rfl|rfl|rfl<;>rfl
theorem rG.fits(T:rG t es)(hs:t.place.size<=t.mask):t.fits es.size=true:=by unfold SetTable.fits SetTable.fill;rw[T.tb.NK];simp[T.len]at hs ⊢;exact hs
def yi{α:Type}{es:Array α}{i:Nat}{e:α}(h:es[i]?=some e):e∈es.toList:=Uc.mpr ⟨i,by rw[Ut];exact h⟩
theorem sR{ep:Nat}{t:SetTable}{ns:List Int}{Q:SetFound->XD->Prop}(O:s.heap.get? a=some o)(hd:o.data=.set es ep t)(T:rG t es)(hs:t.place.size<=t.mask)
 (hu:A.units<cLine) (P:(tK prog w).is s.heap (iK ns) b) (el:SU prog w s.heap es)
 (h1:(∃e∈es.toList,∃c,e.2=.ref c/\(tK prog w).is s.heap (iK ns) c)->Q (.there none) s)
 (h2:(∀e∈es.toList,∀c,e.2=.ref c->¬(tK prog w).is s.heap (iK ns) c)->∀j,j∉t.place.toList->j<=t.mask->Rea t.mask (·∈ t.place.toList) ((tK prog w).hash (iK ns)) j->Q (.free j false) s) :
 ∀(fuel n:Nat)(d:Option SetTable.Probe),d.getD (t.probeStart ((tK prog w).hash (iK ns)))=it t.mask n (st t.mask ((tK prog w).hash (iK ns)))->
  (∀k,k<n->∃i e,∃f:i<t.place.size,t.place[i]=(it t.mask k (st t.mask ((tK prog w).hash (iK ns)))).j/\es[i]?=some e/\∀c,e.2=.ref c->¬(tK prog w).is s.heap (iK ns) c)->
  (∃N,n<=N/\N<n+fuel/\(it t.mask N (st t.mask ((tK prog w).hash (iK ns)))).j∉t.place.toList)->
  wpAny (model prog w) A (setSearchFrom a (.ref b) ((tK prog w).hash (iK ns)) true fuel d) Q E s
 |0,n,d,_,_,⟨N,x1,x2,_⟩=>by lia
 |fuel+1,n,d,e1,e2,⟨N,x1,x2,R⟩=>by
  have v0:Va t.mask (it t.mask n (st t.mask ((tK prog w).hash (iK ns)))):=(Va.st _ _).it;have sp:=qh T.tb hs (λi=>(es[i]?.map (·.1)).getD 0) ((tK prog w).hash (iK ns)) v0;have at_:∀i,i<t.place.size->∃e,es[i]?=some e:=λi f=>⟨es[i]'(by rw[<- T.len];exact f),by simp[T.len▸f]⟩;unfold setSearchFrom;refine KE (U6 O hd (rG.fits T hs) ?_);dsimp only;have hg:t.gaveWay=false:=Gp T.tb.f9;rw[hg];simp only[Ud,U1];rw[e1];have pre:∀{nn:Nat},(∀k,k<nn->∃i,∃f:i<t.place.size,t.place[i]=(it t.mask k (it t.mask n (st t.mask ((tK prog w).hash (iK ns))))).j/\(es[i]?.map (·.1)).getD 0≠(tK prog w).hash (iK ns))->
   ∀k,k<n+nn->∃i e,∃f:i<t.place.size,t.place[i]=(it t.mask k (st t.mask ((tK prog w).hash (iK ns)))).j/\es[i]?=some e/\∀c,e.2=.ref c->¬(tK prog w).is s.heap (iK ns) c:=by
   intro nn z k B;by_cases C:k<n
   .exact e2 k C
   .obtain⟨i,f,q1,q2⟩:=z (k-n) (by lia);obtain⟨e,l⟩:=at_ i f;refine⟨i,e,f,?_,l,λc L g=>q2 ?_⟩
    .rw[q1,<- gY,show n+(k-n)=k by lia]
    .obtain⟨I,v,rfl,h⟩:=el e (yi l);have p:v=c:=by injection L
     subst p;rw[l];show(tK prog w).hash (iK I)=_;rw[(tK prog w).inj h g]
  generalize J:t.probe _ _ (it t.mask n (st t.mask ((tK prog w).hash (iK ns))))=pr;have K:t.probe (λi=>(es[i]?.map (·.1)).getD 0) ((tK prog w).hash (iK ns)) (it t.mask n (st t.mask ((tK prog w).hash (iK ns))))=pr:=J;rw[K]at sp;clear K J;cases sp with
  |em nn D z=>
   dsimp only;refine TV (h2 ?_ _ D (v0.it).S4 ?_)
   .intro e l c L g;obtain⟨i,f⟩:=Uc.mp l;rw[Ut]at f;have F:i<t.place.size:=by rw[T.len];exact(Vp.mp f).1
    obtain⟨I,v,rfl,h⟩:=el e l;have p:v=c:=by injection L
    subst p;have ek:=(tK prog w).inj h g;have hz:(t.place[i],((tK prog w).hash (iK I),Value.ref v))∈t.place.toList.zip es.toList:=Uc.mpr ⟨i,by rw[Ws];exact⟨by simp[F],by rw[Ut];exact f⟩⟩;obtain⟨m,em,eb⟩:=T.NJ _ hz;have em:(it t.mask m (st t.mask ((tK prog w).hash (iK I)))).j=t.place[i]:=em;rw[ek]at em eb;have hm:m<n+nn:=by
     rcases WN m (n+nn)with q|q|q
     .exact q
     .exfalso;refine D ?_;show(it t.mask nn (it t.mask n _)).j∈t.place.toList;rw[<- gY,<- q,em];simp
     .exfalso;refine D ?_;show(it t.mask nn (it t.mask n _)).j∈t.place.toList;rw[<- gY];exact eb _ q
    obtain⟨r,M,G,q1,q2,q3⟩:=pre z m hm;have S:r=i:=by
     have:t.place[r]=t.place[i]:=q1.trans em;rcases WN r i with q|q|q
     .have:=Uk.mp T.tb.xB r i (by simpa using G) (by simpa using F) q;simp at this;lia
     .exact q
     .have:=Uk.mp T.tb.xB i r (by simpa using F) (by simpa using G) q;simp at this;lia
    subst S;rw[f]at q2;cases q2;exact q3 v rfl g
   .refine⟨n+nn,by rw[gY],λk B=>?_⟩;obtain⟨i,e,f,q1,_⟩:=pre z k B;show _∈t.place.toList;rw[<- q1];simp
  |ca nn i f H hq z=>
   dsimp only;obtain⟨e,l⟩:=at_ i f;obtain⟨I,c,rfl,g⟩:=el e (yi l);have rest:wpAny (model prog w) A (do
    let some (_,y):=es[i]?|unsupported "internal:set-entry"
    let u <- holding [y] (eqBool y (.ref b))
    let (U,_,t') <- setState a
    if true&&u then return SetFound.there none
    let some same:=t'.sameMemory t.moves t.mask|unsupported "set.changed-during-lookup:is-the-new-block-at-the-old-address"
    let xy <- match(if same then t'.slot (it t.mask nn (it t.mask n (st t.mask ((tK prog w).hash (iK ns))))).j else .empty)with
     |.live r=>match U[r]? with
      |some (_,y')=>do pure (if <- isSame y' y then some r else none)
      |none=>pure none
     |_=>pure none
    match xy with
    |none=>rule "set.search.anew";setSearchFrom a (.ref b) ((tK prog w).hash (iK ns)) true fuel none
    |some r=>if u then return .there (some r)else setSearchFrom a (.ref b) ((tK prog w).hash (iK ns)) true fuel (some (it t.mask (nn+1) (it t.mask n (st t.mask ((tK prog w).hash (iK ns))))))) Q E s:=by
    rw[l];dsimp only;refine KE (UV ((tK prog w).eqBool hu g P ?_));refine KE (U6 O hd (rG.fits T hs) ?_);dsimp only;by_cases x:iK I=iK ns
    .rw[Uj x];simp only[W7,Vy];exact TV (h1 ⟨_,yi l,c,rfl,by rw[<- x];exact g⟩)
    .rw[Ur x];simp only[Xf,Ud,U1];have V:t.sameMemory t.moves t.mask=some true:=by unfold SetTable.sameMemory;simp
     rw[V];dsimp only;rw[T2 rfl,<- H,sP T.tb f];dsimp only;rw[l];dsimp only;refine KE (wpAny_isSame_ref_self ?_);refine KE (TV ?_);rw[T2 rfl]
     try dsimp only
     refine sR O hd T hs hu P el h1 h2 fuel (n+(nn+1)) _ ?_ ?_ ⟨N,?_,?_,R⟩
     .exact(gY t.mask n (nn+1) _).symm
     .intro k B;by_cases C:k<n+nn
      .exact pre z k C
      .have:k=n+nn:=by lia
       subst this;refine⟨i,_,f,by rw[H,gY],l,λv p hh=>x ?_⟩;have:c=v:=by injection p
       subst this;exact(tK prog w).inj g hh
     .refine Vv λL=>?_;have hN:N<n+(nn+1):=by lia
      by_cases W:N<n+nn
      .obtain⟨r,M,G,q1,_⟩:=pre z N W;exact R (by rw[<- q1];simp)
      .have:N=n+nn:=by lia
       subst this;exact R (by rw[gY,<- H];simp)
     .lia
   split
   .refine KE (KH P ?_ ?_)
    .intro y hy;obtain⟨M,X,rfl⟩:=T_.mp hy;have Y:M∈es.toList:=by have:=(Array.mem_toList_iff).mp X;rw[Array.mem_filter]at this;exact Array.mem_toList_iff.mpr this.1
     obtain⟨Z,v,rfl,h⟩:=el M Y;exact⟨Z,v,rfl,h⟩
    .simp only[Ud,U1];exact rest
   .exact rest
end
noncomputable def byT(w:World):Bool:=w.params.followText "set-order"
def SetAt(w:World)(h:Heap)(a:Addr)(es:Array (Int×XG)):Prop:=∃o b t,h.get? a=some o/\o.ExactSet/\o.data=.set es b t/\rG t es/\lH t/\t.plain=true/\t.led=!byT w
def SetAt.keep(x:SetAt w h a es)(k:∀o,h.get? a=some o->h'.get? a=some o):SetAt w h' a es:=let ⟨o,b,t,e,r⟩:=x;⟨o,b,t,k o e,r⟩
def iQ(h:lH t):t.place.size<=t.mask:=by unfold lH at h;lia
section
variable{prog:XF}{w:World}{A:XH}{E:XG->XD->Prop}{s:XD}
structure o6(es es':Array (Int×XG)) (x:Int×XG):Prop where
 mem:∀y,y∈es'.toList↔y=x\/y∈es.toList
 pw:∀R:Int×XG->Int×XG->Prop,(∀x y,R x y->R y x)->es.toList.Pairwise R->(∀e∈es.toList,R e x)->es'.toList.Pairwise R
 size:es'.size=es.size+1
def sS(es:Array (Int×XG))(p:Nat)(x:Int×XG)(a:p<=es.size):o6 es (SetTable.insertAt es p x) x:=by
 have e:=ST.insertAt_toList es p x a;refine⟨λy=>?_,λR b pw c=>?_,ST.insertAt_size es p x a⟩
 .rw[e,Ug,T6];constructor
  .grind
  .rintro(rfl|z)
   .exact .inr (.inl rfl)
   .rw[<- V0 p es.toList,Ug]at z;exact z.elim .inl λz=>.inr (.inr z)
 .rw[e,W6];rw[<- V0 p es.toList,W6]at pw;obtain⟨p1,p2,p3⟩:=pw;refine⟨p1,?_,?_⟩
  .rw[UP]
   grind
  .grind
def o6.laid(g:o6 es es1 x)(l:Laid m es1 es2 t):o6 es es2 x:=⟨λy=>(l.mem y).trans (g.mem y),λR a pw b=>l.pw R a (g.pw R a pw b),by rw[l.size,g.size]⟩
def kX{d:Nat}{t:SetTable}(b:Array (Int×XG))(t':SetTable){h:Heap}(e:h.get? a=some o)(hex:o.ExactSet)(hd:o.data=.set es d t) :
 ∃c,(h.update a (Obj.putSet b t')).get? a=some c/\c.ExactSet/\c.data=.set b (d+1) t':=by
 have:=U3 (Obj.putSet b t') e (by rw[putSet_of b t' hd];rfl);rw[putSet_of b t' hd]at this;exact⟨_,this,hex,rfl⟩
def qp{t:SetTable}(h:xK t.mask)(h1:n*5<t.mask*3)(a:(n+1)*5>=t.mask*3)(b:n+1<=300):∃m,SetTable.sizeAbove (SetTable.grown (n+1))=m+1/\xK m/\(n+1)*5<m*3:=by
 rcases h with e|e|e|e<;>rw[e]at h1 a
 .have:n=4:=by lia
  subst this;exact⟨31,by decide,.inr (.inl rfl),by lia⟩
 .have:n=18:=by lia
  subst this;exact⟨127,by decide,.inr (.inr (.inl rfl)),by lia⟩
 .have:n=76:=by lia
  subst this;exact⟨511,by decide,.inr (.inr (.inr rfl)),by lia⟩
 .lia
def Da{a:Addr}{o:Obj}{es:Array (Int×XG)}{Q:Unit->XD->Prop}(d:s.heap.get? a=some o)(hex:o.ExactSet)(hd:o.data=.set es ep t)(l:t.fits es.size=true)(j:xK m)(k:SetTable.sizeAbove n=m+1)(p:es.size*5<m*3)(f:t.plain=true)(g:t.led=!byT w)
 (h:∀c t',Laid m es c t'->SetAt w (s.heap.update a (Obj.putSet c t')) a c->Q () {s with heap:=s.heap.update a (Obj.putSet c t')}):wpAny (model prog w) A (setRelay a n) Q E s:=by
 have q:m<=511:=by rcases j with rfl|rfl|rfl|rfl<;>lia
 unfold setRelay;refine KE (U6 d hd l ?_);dsimp only;rw[T9 (by rw[k,Ux];lia)];obtain⟨t',b,e,L,i,u⟩:=Gk j es (by lia) t.finger (t.movedTo m) t.led t.plain;have v:t.relaid (es.map (·.1)) n=some (t',b):=by unfold SetTable.relaid;rw[k];exact e
 rw[v];show wpAny _ _ (do
  let r <- (do
   if(b.filterMap (es[·]?)).size != es.size then unsupported "internal:set-table-lost-an-element"
   pure (b.filterMap (es[·]?),t'):Sem (Array (Int×XG)×SetTable))
  storeSet a r.1 r.2) _ _ _
 refine KE ?_;rw[T9 (by rw[L.size];simp)];refine TV ?_;refine WO d hd ?_ (by show(b.filterMap (es[·]?)).size<=_;rw[L.size,Ux];lia);obtain⟨x,g1,g2,g3⟩:=kX (b.filterMap (es[·]?)) t' d hex hd;refine h _ t' L ⟨x,_,t',g1,g2,g3,L.xF,?_,by rw[u];exact f,by rw[i];exact g⟩;unfold lH;rw[L.xF.len,L.size,L.mask];exact p
def Dc(T:rG t es)(hs:t.place.size<=t.mask)(h:Int):∃N,N<100000/\(it t.mask N (st t.mask h)).j∉t.place.toList:=by
 obtain⟨j,a,b⟩:=qg T.tb hs;obtain⟨N,h1,c⟩:=IQ T.tb.f9 a (Va.st t.mask h);refine⟨N,?_,by rw[c];exact b⟩;have:t.mask<=511:=by rcases T.tb.f9 with e|e|e|e<;>rw[e]<;>lia
 unfold SetTable.turns at h1;lia
def KI(G:A.units<cLine)(q:(tK prog w).is s.heap (iK ns) b)(M:SetAt w s.heap a es)(el:SU prog w s.heap es)(hz:es.size+1<=300)
 (h1:∀tk,s.toks<=tk->(∃e∈es.toList,∃c,e.2=.ref c/\(tK prog w).is s.heap (iK ns) c)->Q false {s with toks:=tk})
 (H:∀tk h' h,s.toks<=tk->(∀e∈es.toList,∀c,e.2=.ref c->¬(tK prog w).is s.heap (iK ns) c)->Heap.SameBut a s.heap h'->SetAt w h' a h->o6 es h ((tK prog w).hash (iK ns),.ref b)->Q true {s with heap:=h',toks:=tk}) :
 wpAny (model prog w) A (setAdd a (.ref b)) Q E s:=by
 obtain⟨o,Y,t,p,hex,hd,T,sp,r,u⟩:=M;have I:=rG.fits T (iQ sp);unfold setAdd;refine UV ?_;refine KE ((tK prog w).pyHash G q ?_);have i:s.toks<=s.toks+(tK prog w).draws (iK ns):=Nat.le_add_right _ _;generalize s.toks+(tK prog w).draws (iK ns)=tk at i;unfold setAddHashed setAddHashedIn;refine UV ?_;refine KE (U6 (s:={s with toks:=tk}) p hd I ?_);dsimp only;have x:byScan (.ref b) es=false:=by simp[byScan,Value.scannable]
 rw[x];simp only[Ud,U1];unfold setSearch;obtain⟨N,Z,O⟩:=Dc T (iQ sp) ((tK prog w).hash (iK ns));refine KE (sR (s:={s with toks:=tk}) p hd T (iQ sp) G q el (λy=>?_) (λl j P z R=>?_) 100000 0 none rfl (λk S=>by lia) ⟨N,UB _,by lia,O⟩)
 .exact TV (h1 tk i y)
 .dsimp only;refine KE (U6 (s:={s with toks:=tk}) p hd I ?_);dsimp only;obtain⟨B,em,C⟩:=yg T P z (v:=Value.ref b) R;have f:(t.put j).1.plain=true:=by rw[mF T.tb];exact r
  have n:(t.put j).1.led=!byT w:=by rw[mF T.tb];exact u
  rw[f];simp only[Vy];refine KE (KG (s:={s with toks:=tk}) q ?_);simp only[Vy];have U:(t.put j).2<=es.size:=by rw[pz,<- T.len];exact(dI j T.tb.xB).1
  have g:=sS es (t.put j).2 ((tK prog w).hash (iK ns),Value.ref b) U;refine KE (WO (s:={s with toks:=tk}) p hd ?_ (by rw[g.size,Ux];lia));obtain⟨o1,q1,q2,J⟩:=kX (SetTable.insertAt es (t.put j).2 ((tK prog w).hash (iK ns),Value.ref b)) (t.put j).1 p hex hd;have K:=UH s.heap a (Obj.putSet (SetTable.insertAt es (t.put j).2 ((tK prog w).hash (iK ns),Value.ref b)) (t.put j).1);have fill:(t.put j).1.fill=es.size+1:=by unfold SetTable.fill;rw[B.tb.NK,C,T.len];rfl
  by_cases d:(t.put j).1.tooFull=true
  .rw[d];simp only[Bool.not_false,W7,Vy];unfold SetTable.tooFull at d;rw[fill,em]at d;have d:(es.size+1)*5>=t.mask*3:=by simpa using d
   have D:es.size*5<t.mask*3:=by rw[<- T.len];exact sp
   obtain⟨m,V,W,X⟩:=qp T.tb.f9 D d hz;have F:(t.put j).1.place.size<=(t.put j).1.mask:=by
    rw[C,em];unfold lH at sp;have:t.mask>=7:=by rcases T.tb.f9 with e|e|e|e<;>rw[e]<;>lia
    lia
   refine KE (Da (s:={s with heap:=s.heap.update a (Obj.putSet (SetTable.insertAt es (t.put j).2 ((tK prog w).hash (iK ns),Value.ref b)) (t.put j).1),toks:=tk}) q1 q2 J (rG.fits B F) W V (by rw[g.size];exact X) f n λh t' L sa=>?_);exact TV (H tk _ h i l (K.trans (UH _ a _)) sa (g.laid L))
  .have d:(t.put j).1.tooFull=false:=by simpa using d
   rw[d];simp only[Xf,Ud,U1];refine TV (H tk _ _ i l K ⟨o1,_,_,q1,q2,J,B,?_,f,n⟩ g);unfold SetTable.tooFull at d;unfold lH;rw[fill]at d;rw[C,T.len];simpa using d
end
noncomputable abbrev jK:=List Int×Addr
def Dd(h:iK a=iK b):a=b:=by
 induction a generalizing b with
 |nil=>cases b with
  |nil=>rfl
  |cons _ _=>cases h
 |cons x a c=>cases b with
  |nil=>cases h
  |cons y b=>grind
section
variable{κ μ:Type}{ent:κ×μ->Int×XG}{es es':Array (Int×XG)}{xs:List (κ×μ)}{x:κ×μ}
structure jT(ent:κ×μ->Int×XG) (es:Array (Int×XG)) (xs:List (κ×μ)):Prop where
 el:∀e∈es.toList,∃x∈xs,e=ent x
 sz:es.size<=xs.length
 pw:es.toList.Pairwise λe e'=>∀x x',e=ent x->e'=ent x'->x∈xs->x'∈xs->x.1≠x'.1
 all:∀x∈xs,∃y∈xs,y.1=x.1/\ent y∈es.toList
def Gq(ent:κ×μ->Int×XG)(xs:List (κ×μ)):Prop:=∀x∈xs,∀y∈xs,ent x=ent y->x.1=y.1
def jT.wide(v:jT ent es xs)(un:Gq ent (xs++[x])):es.toList.Pairwise λe h=>∀y c,e=ent y->h=ent c->y∈xs++[x]->c∈xs++[x]->y.1≠c.1:=by refine V6 (λ{a b} ha i f z j e1 e2 k l=>?_) v.pw;obtain⟨y,g,rfl⟩:=v.el a ha;obtain⟨c,d,rfl⟩:=v.el b i;rw[un z k y (UI _ g) e1.symm,un j l c (UI _ d) e2.symm];exact f y c rfl rfl g d
def jT.seen(v:jT ent es xs)(a:∃y∈xs,y.1=x.1)(un:Gq ent (xs++[x])):jT ent es (xs++[x]):=by
 refine⟨λe c=>?_,?_,v.wide un,λy hy=>?_⟩
 .obtain⟨z,h1,b⟩:=v.el e c;exact⟨z,UI _ h1,b⟩
 .have:=v.sz;simp;lia
 .obtain⟨d,h1,b⟩ : ∃z∈xs,z.1=y.1:=by
   rcases Ug.mp hy with hy|hy
   .exact⟨y,hy,rfl⟩
   .rw[Uh]at hy;subst hy;exact a
  obtain⟨z,g1,g2,g3⟩:=v.all d h1;exact⟨z,UI _ g1,g2.trans b,g3⟩
def jT.new(v:jT ent es xs)(c:¬∃y∈xs,y.1=x.1)(un:Gq ent (xs++[x]))(g:o6 es es' (ent x)):jT ent es' (xs++[x]):=by
 have d:x∈xs++[x]:=UA _ (Uh.mpr rfl);refine⟨λe he=>?_,?_,?_,λy hy=>?_⟩
 .rcases(g.mem e).mp he with rfl|he
  .exact⟨x,d,rfl⟩
  .obtain⟨z,h1,f⟩:=v.el e he;exact⟨z,UI _ h1,f⟩
 .have:=v.sz;rw[g.size];simp;lia
 .refine g.pw _ (λa b i z j e1 e2 k l h=>i j z e2 e1 l k h.symm) (v.wide un) λe he z j e1 e2 k l h=>?_;obtain⟨y,m,rfl⟩:=v.el e he;exact c ⟨y,m,(un z k y (UI _ m) e1.symm).symm.trans (h.trans (un j l x d e2.symm))⟩
 .rcases Ug.mp hy with hy|hy
  .obtain⟨z,h1,f,n⟩:=v.all y hy;exact⟨z,UI _ h1,f,(g.mem _).mpr (.inr n)⟩
  .rw[Uh]at hy;subst hy;exact⟨y,d,rfl,(g.mem _).mpr (.inl rfl)⟩
end
section
variable{prog:XF}{w:World}{κ μ:Type}{ent:κ×μ->Int×XG}
def zA(prog:XF)(w:World)(A:XH)(c:Heap)(S:Addr)(ent:κ×μ->Int×XG)(its:List (κ×μ)):Prop:=∀(x:κ×μ)(xs:List (κ×μ))(s:XD)(es:Array (Int×XG))(Q:Bool->XD->Prop)(E:XG->XD->Prop),x∈its->(∀y∈xs,y∈its)->(∀b o,c.get? b=some o->s.heap.get? b=some o)->SetAt w s.heap S es->jT ent es xs->es.size+1<=300->
 (∀tk,s.toks<=tk->(∃y∈xs,y.1=x.1)->Q false {s with toks:=tk})->(∀tk h' a,s.toks<=tk->(¬∃y∈xs,y.1=x.1)->Heap.SameBut S s.heap h'->SetAt w h' S a->o6 es a (ent x)->Q true {s with heap:=h',toks:=tk})->wpAny (model prog w) A (setAdd S (ent x).2) Q E s
variable{A:XH}{R:Result->XD->Prop}{I S:Addr}{fp wr:List Addr}{G:Array GenState->Array GenState->Prop}{n:Nat}{P:Nat->XG->Prop}{St:Nat->XD->Prop}
def nT(W:WalksS prog w A.in1 I fp wr G n P St)(S:Addr)(J:S∉fp)(c:Heap)(U:c.get? S=none)(V:∀b∈wr,c.get? b=none)(its:List (κ×μ))(hn:its.length=n)
 (L:∀i v,P i v->∃x,its[i]?=some x/\v=(ent x).2) (un:Gq ent its) (add:zA prog w A.in1 c S ent its) (hz:n<=300) :
 ∀(k i:Nat)(s:XD)(es:Array (Int×XG)),n-i=k->i<=n->St i s->(∀b o,c.get? b=some o->s.heap.get? b=some o)->SetAt w s.heap S es->jT ent es (its.take i)->
  (∀d p,Moved (S::wr) G s d->SetAt w d.heap S p->jT ent p its->R (.ok (.ret .none)) d)->
  codeAny (model prog w) A (.builtin "set.update.loop" ⟨[.ref S,.ref I],[]⟩) R s:=by
 have M:S∉wr:=λh=>J (W.sub _ h);have f:∀b∈wr,b∈S::wr:=λb c=>T3 _ c;intro k;induction k with
 |zero=>
  intro i s es hk hi r K X v T;have t:i=n:=by lia
  subst t;refine Vz Wt ?_;rw[VI Ve _];show wpAny _ A.in1 (pyNext (.ref I) >>= _) _ _ s;refine KE (W.done s _ _ r λd B=>?_);rw[UU (by lia)]at v;have Y:=T d es (B.mono f) (X.keep λo e=>B.heap S o M e) v;show wpAny _ A.in1 (ret Value.none) _ _ d;exact TV Y
 |succ k ih=>
  intro i s es hk hi r K X v T;have C:i<n:=by lia
  refine Vz Wt ?_;rw[VI Ve _];show wpAny _ A.in1 (pyNext (.ref I) >>= _) _ _ s;refine KE (W.item i s _ _ C r λu d hP q B=>?_);obtain⟨x,hx,rfl⟩:=L i u hP;have D:its.take (i+1)=its.take i++[x]:=by rw[Vs,hx];rfl
  have N:Gq ent (its.take i++[x]):=by rw[<- D];exact λy Z z hz=>un y (VH Z) z (VH hz)
  have K':∀b o,c.get? b=some o->d.heap.get? b=some o:=λb o e=>B.heap b o (λz=>by rw[V b z]at e;cases e) (K b o e);have O:=X.keep λo e=>B.heap S o M e;have hes:es.size+1<=300:=by have:=v.sz;rw[VF]at this;lia
  show wpAny _ A.in1 (holding [(ent x).2] (setAdd S (ent x).2) >>= _) _ _ d;refine KE (UV (add x (its.take i) d es _ _ (Uz hx) (λy Z=>VH Z) K' O v hes (λtk a t=>?_) λtk h' p a Q E hSn g=>?_))
  .refine TV ⟨Wa Ve _,ih (i+1) _ es (by lia) C (W.frame _ d _ _ q a λb c o e=>e) K' O (by rw[D];exact v.seen t N) λF j l m H=>?_⟩;exact T F j (Xo W.gtrans ((B.mono f).then_heap a λb o c e=>e) l) m H
  .have K2:∀b o,c.get? b=some o->h'.get? b=some o:=λb o e=>(E.2 b (λz=>by rw[z,U]at e;cases e)).trans (K' b o e);refine TV ⟨Wa Ve _,ih (i+1) _ p (by lia) C (W.frame _ d _ _ q a λb c o e=>?_) K2 hSn (by rw[D];exact v.new Q N g) λF j l m H=>?_⟩
   .rw[E.2 b (λh:b=S=>J (h▸c))];exact e
   .refine T F j (Xo W.gtrans ((B.mono f).then_heap a λb o c e=>?_) l) m H;rw[E.2 b (λh:b=S=>c (h▸T5))];exact e
abbrev eT(prog:XF)(w:World)(x:jK):Int×XG:=((tK prog w).hash (iK x.1),Value.ref x.2)
def N9(a:∀x∈its,(tK prog w).is hb (iK x.1) x.2):Gq (eT prog w) its:=λx b y c e=>Dd ((tK prog w).inj (a x b) (by
 have e:x.2=y.2:=by injection e with _ e;injection e
 rw[e];exact a y c))
def Gr(m:A.units<cLine)(d:∀x∈its,(tK prog w).is hb (iK x.1) x.2):zA prog w A hb S (eT prog w) its:=λx xs s es Q E o hs K p v hz h1 q=>by
 have a:∀y∈xs,(tK prog w).is s.heap (iK y.1) y.2:=λy i=>pq (d y (hs y i)) K;refine KI m (pq (d x o) K) p (λe j=>?_) hz (λtk t b=>h1 tk t ?_) λtk h' k t f r sa g=>q tk h' k t (λb=>?_) r sa g
 .obtain⟨y,i,rfl⟩:=v.el e j;exact⟨_,_,rfl,a y i⟩
 .obtain⟨e,j,c,l,u⟩:=b;obtain⟨y,h,rfl⟩:=v.el e j;injection l with l;subst l;exact⟨y,h,Dd ((tK prog w).inj (a y h) u)⟩
 .obtain⟨y,h,B⟩:=b;obtain⟨z,C,D,F⟩:=v.all y h;exact f _ F z.2 rfl (by rw[<- B,<- D];exact a z C)
end
noncomputable abbrev setNew(led:Bool):Obj:={ cls:=.type "set",dict:=none,data:=.set #[] 0 (.fresh 0 0 led) }
def AW(e:h.get? a=some (setNew (!byT w))):SetAt w h a #[]:=by refine⟨_,0,_,e,⟨rfl,rfl,rfl⟩,rfl,⟨⟨.inl rfl,rfl,List.Pairwise.nil,λj b=>nomatch b⟩,rfl,λq c=>nomatch c⟩,?_,rfl,rfl⟩;show 0*5<7*3;decide
section
variable{prog:XF}{w:World}{A:XH}{E:XG->XD->Prop}{s:XD}
def rN(a:XG)(h:Q₁ (.ref s.heap.objs.size) {s with heap:=s.heap.push (setNew (!byT w))}) :
 codeAny (model prog w) A (.call (.builtin "set.__new__") ⟨[.type "set",a],[]⟩) (wants Q₁ E) s:=by
 refine codeAny_of_tree (show wpAny _ A.in1 (do checkBuiltinCall "set.__new__" ⟨[.type "set",a],[]⟩;again (.builtin "set.__new__" ⟨[.type "set",a],[]⟩)) _ _ s from ?_);refine KE (wpAny_of_eq (PySem.F.newCall_set_1 a) (TV ⟨Wa PySem.F.plain_set_new _,Vz PySem.F.entry_set_new ?_⟩));rw[VI PySem.F.plain_set_new _];unfold Builtin.«set.__new__» Builtin.Frozenset.newClass;have b:=sub_set_self;obtain⟨c,g,d,tk,os⟩:=s;dsimp only;wp_walk;refine wpAny_askSetting (TV ?_);dsimp only;simp only[newObj];refine KE (wpAny_alloc (TV ?_));exact TV h
def sU{κ L:Type}{ent:κ×L->Int×XG}{l:Addr}{a:Array XG}{nl:Nat}{its:List (κ×L)} {Q:XG->XD->Prop} (U:A.handled=none) (M:s.heap.get? l=some { cls:=.type "list",data:=.seq a nl }) (V:its.length=a.size) (hz:a.size<=300)
 (m:∀(i:Nat)(v:XG),a[i]?=some v->∃x,its[i]?=some x/\v=(ent x).2) (un:Gq ent its) (add:zA prog w A.in1.in1.in1 s.heap s.heap.objs.size ent its)
 (h:∀(h':Heap)(tk:Nat)(es:Array (Int×XG)),SetAt w h' s.heap.objs.size es->jT ent es its->(∀b o,b<s.heap.objs.size->s.heap.get? b=some o->h'.get? b=some o)->Q (.ref s.heap.objs.size) {s with heap:=h',toks:=tk}) :
 wpAny (model prog w) A (call (.type "set") [.ref l]) Q E s:=by
 obtain⟨c,tl,N⟩:=PySem.F.called_set.mro;have C:=PySem.F.called_set.made;have O:=PySem.F.called_set.sub;refine wpAny_call (codeAny_of_tree ?_);show wpAny _ _ (callAny (.type "set") _) _ _ _;refine TV ⟨Code.quiet_builtin _ (by decide +kernel),Vz PySem.F.entry_type_call ?_⟩;rw[Around.under_plain (weight_type_call_type "set" [.ref l] []) rfl];have h1:=PySem.F.called_set.notType;have h2:=PySem.F.called_set.canCreate;have W:=PySem.F.typeCall_set_1 (.ref l)
 repeat (any_goals (first|assumption|wp_step))
 refine WW (rN (.ref l) (E:=E) (Q₁:=λobj f=>obj=.ref s.heap.objs.size/\f={s with heap:=s.heap.push (setNew (!byT w))}) ⟨rfl,rfl⟩) λr f D=>?_;rcases r with e|fl
 .exact D
 cases fl with
 |ret obj=>
  obtain⟨rfl,rfl⟩:=D;have P:(s.heap.push (setNew (!byT w))).get? s.heap.objs.size=some (setNew (!byT w)):=T4 _ rfl;have X:Shared.TypeIs {s with heap:=s.heap.push (setNew (!byT w))} (.ref s.heap.objs.size) "set":=⟨_,P,rfl⟩;have Y:=PySem.F.called_set.init.lookup;have Z:=PySem.F.called_set.init.bind (.ref s.heap.objs.size)
  repeat (any_goals (first|assumption|wp_step))
  refine WW (codeAny_call_builtin (R:=wants (λr g=>r=.none/\∃h' tk es,g={s with heap:=h',toks:=tk}/\SetAt w h' s.heap.objs.size es/\jT ent es its/\
   (∀b o,b<s.heap.objs.size->s.heap.get? b=some o->h'.get? b=some o)) E) PySem.F.called_set.init.plain PySem.F.entry_set_init (check_set_init_1 X ?_)) λn g d=>?_
  .have p:(s.heap.push (setNew (!byT w))).get? l=some { cls:=.type "list",data:=.seq a nl }:=RW _ M;have S:=PySem.F.sub_list_set;have T:=PySem.F.sub_list_frozenset;have hne:(Value.type "list"==Value.type "dict")=false:=by decide
   have t:(s.heap.push (setNew (!byT w))).IsList l a:=⟨_,p,rfl,nl,rfl⟩;unfold Builtin.«set.__init__» noKeywords Builtin.Frozenset.updateFrom;generalize G:pyIter=PI
   wp_walk
   subst G;refine Wj t (KE (wpAny_runValue ?_));have u:l<s.heap.objs.size:=T8 M;have H:A.in1.in1.in1.handled=none:=by simp[U]
   have y:l≠(s.heap.push (setNew (!byT w))).objs.size:=by rw[V1];exact Ul (V7 u)
   have z:∀b,s.heap.objs.size<=b->s.heap.get? b=none:=λb j=>by
    cases q:s.heap.get? b with
    |none=>rfl
    |some o=>exact absurd (T8 q) (Nat.not_lt.mpr j)
   refine nT ((Walks.list H _ l y a).toS) s.heap.objs.size ?hSf s.heap (z _ (TY _)) ?hbw its V m un add hz (a.size-0) 0 _ #[] rfl (UB _) ⟨⟨_,T4 _ rfl,rfl,rfl⟩,(t.push _)⟩
    (λb o e=>RW _ (RW _ e)) (AW (RW _ P)) ⟨λe he=>(nomatch he),UB _,List.Pairwise.nil,λx hx=>(nomatch hx)⟩ ?hR
   case hSf=>rw[V1];simp only[T6,Ub,XC,not_or];exact⟨Ul (VX _),WA u⟩
   case hbw=>intro b j;simp only[T6,Ub,XC]at j;subst j;exact z _ (by rw[V1];lia)
   case hR=>intro s' es B k v;obtain⟨h',g',d',I,J⟩:=s';have eg:g'=s.gens:=B.gens;have ed:d'=s.drawn:=B.drawn;have eo:J=s.os:=B.os;subst eg ed eo;refine TV (TV ⟨rfl,h',I,es,rfl,k,v,λb o j e=>B.heap b o ?_ (RW _ (RW _ e))⟩);simp only[T6,Ub,XC,not_or];exact⟨Ul j,by rw[V1];exact Ul (V7 j)⟩
  .rcases n with e|fl₂
   .exact d
   cases fl₂ with
   |ret r=>
    obtain⟨rfl,h',tk,es,rfl,k,v,K⟩:=d
    repeat (any_goals (first|assumption|wp_step))
    exact h _ _ _ k v K
   |_=>exact d.elim
 |_=>exact D.elim
end
theorem qu{α:Type}:∀(l:List α)(i:Nat)(h:i<l.length),(l[i]::l.eraseIdx i).Perm l
 |[],i,h=>by simp at h
 |x::l,0,h=>VQ _
 |x::l,i+1,h=>by have a:=qu l i (by simpa using h);have e:(x::l).eraseIdx (i+1)=x::l.eraseIdx i:=rfl;rw[e,List.getElem_cons_succ];exact(List.Perm.swap _ _ _).trans (List.Perm.cons x a)
theorem zB{α:Type}(next:Nat->Nat):∀(a k:Nat)(left:List α)(out:Array α),left.length=a->(pickOrder.go next a k left out).toList.Perm (out.toList++left)
 |0,k,left,out,h=>by have:left=[]:=UQ.mp h;subst this;unfold pickOrder.go;simp
 |f+1,k,left,out,h=>by have b:next k%left.length<left.length:=XB _ (by lia);unfold pickOrder.go;rw[U0 b];dsimp only;have c:=zB next f (k+1) (left.eraseIdx (next k%left.length)) (out.push left[next k%left.length]) (by rw[List.length_eraseIdx,T2 b];lia);refine c.trans ?_;rw[Array.toList_push,Wm];exact List.Perm.append_left _ (qu left _ b)
def AX{α:Type}(next:Nat->Nat)(xs:Array α):(pickOrder next xs).toList.Perm xs.toList:=by have:=zB next xs.size 0 xs.toList #[] (by simp);unfold pickOrder;simpa using this
def j3(w:World)(S:Addr)(a:Nat)(es:Array (Int×XG)):Array (Int×XG):=if byT w then pickOrder (w.params.setOrder S a) es else es
def vY(w:World)(S:Addr)(a:Nat)(es:Array (Int×XG)):(j3 w S a es).toList.Perm es.toList:=by
 unfold j3;split
 .exact AX _ _
 .exact VQ _
def mG(w:World)(S:Addr)(a:Nat)(es:Array (Int×XG)):(j3 w S a es).size=es.size:=by have:=(vY w S a es).length_eq;simpa using this
def dJ(w:World)(t:SetTable):Nat->Nat
 |0=>0
 |i+1=>if byT w then 0 else t.place.getD i 0+1
def yj(T:Tb t):∀(i:Nat),i<=t.place.size->SetTable.below t.place (match i with|0=>0|i+1=>t.place.getD i 0+1)=i
 |0,_=>by
  obtain⟨a,b,c⟩:=dI 0 T.xB;dsimp only;rcases Nat.eq_zero_or_pos (SetTable.below t.place 0)with h|h
  .exact h
  .have:=b 0 (by lia) h;lia
 |i+1,f=>by
  dsimp only;have e:t.place.getD i 0=t.place[i]:=by simp[Array.getD,show i<t.place.size by lia]
  rw[e];obtain⟨a,b,c⟩:=dI (t.place[i]+1) T.xB;rcases WN (SetTable.below t.place (t.place[i]+1)) (i+1)with q|q|q
  .have h1:=c i (by lia) (by lia);lia
  .exact q
  .have h1:=b (i+1) (by lia) q;have d:=Uk.mp T.xB i (i+1) (by simp;lia) (by simp;lia) (by lia);simp at d;lia
def slot_setiter_next:Slot "set_iterator" "__next__" "set_iterator.__next__":=.of (owner:="set_iterator") (n:="__next__") (by rw[typeLookup_type,builtinLookup_eq_fast];kernel_rfl) (by decide +kernel) (by decide +kernel) (by decide +kernel) (by first|exact .inl (by decide +kernel)|exact .inr (by decide +kernel)) (by rw[isSubtype_type];kernel_rfl)
def gZ:entryFor table "set_iterator.__next__"=some Builtin.«set_iterator.__next__»:=entryFor_of_fast (by kernel_rfl)
def iu(a:XG):argsOk "set_iterator.__next__" ⟨[a],[]⟩:=by(unfold argsOk;kernel_rfl)
def rO:entryFor table "set.__iter__"=some Builtin.«frozenset.__iter__»:=entryFor_alias (id':="frozenset.__iter__") (by kernel_rfl) rfl (by decide +kernel) (by kernel_rfl)
def SetIt(h:Heap)(it S:Addr)(slot i n a:Nat):Prop:=∃o,h.get? it=some o/\o.cls=.type "set_iterator"/\o.data=.fields #[.int slot 0,.int i 0,.ref S,.int n 0,.int a 0]
def SetIt.typeIs{s:XD}{it S:Addr}{slot i n a:Nat}(x:SetIt s.heap it S slot i n a):s.TypeIs (.ref it) "set_iterator":=let ⟨o,b,c,_⟩:=x;⟨o,b,c⟩
def nU(h:Heap)(S:Addr)(es:Array (Int×XG))(a:Nat)(t:SetTable):Prop:=∃o,h.get? S=some o/\o.ExactSet/\o.data=.set es a t
section
variable{prog:XF}{w:World}{A:XH}{E:XG->XD->Prop}{s:XD}
def yk(h:Q (byT w) s):wpAny (model prog w) A setsByText Q E s:=by unfold setsByText;exact KE (wpAny_askSetting (TV h))
def qw(r:nU s.heap S es ep t)(T:rG t es)(hs:t.place.size<=t.mask)(d:t.plain=true)(a:t.led=!byT w)(k:i<=es.size)
 (h:Q (((j3 w S ep es)[i]?).map λe=>(e.2,dJ w t (i+1))) s):wpAny (model prog w) A (setNext S (dJ w t i) i ep) Q E s:=by
 obtain⟨o,f,hex,hd⟩:=r;have g:=rG.fits T hs;unfold setNext;refine KE (U6 f hd g ?_);dsimp only;refine KE (yk ?_);cases b:byT w with
 |true=>
  simp only[Vy];rw[T9 (by simp)];refine KE ?_;unfold setWalk;refine KE (U6 f hd g ?_);dsimp only;refine KE (yk ?_);rw[b];simp only[Vy];refine KE (wpAny_askSetting (TV ?_));have e1:dJ w t (i+1)=0:=by unfold dJ;rw[b];rfl
  have e2:dJ w t i=0:=by cases i with|zero=>rfl|succ i=>(unfold dJ;rw[b];rfl)
  rw[e2];rw[e1]at h;unfold j3 at h;rw[b]at h;exact TV h
 |false=>
  simp only[Ud,U1];rw[b]at a;have a:t.led=true:=a;show wpAny _ _ (if(!t.plain&&decide (es.size>1))=true then _ else _) _ _ _;rw[d];simp only[VM,Xe,Ud,U1];show wpAny _ _ ((if(!t.led&&!es.isEmpty)=true then unsupported "set:maker-not-led" else pure ()) >>= λ_=>_) _ _ _;rw[a];simp only[VM,Xe,Ud,U1];refine KE (TV ?_);have e1:SetTable.below t.place (dJ w t i)=i:=by
   have:=yj T.tb i (by rw[T.len];exact k);cases i with
   |zero=>exact this
   |succ i=>unfold dJ;rw[b];exact this
  have l:j3 w S ep es=es:=by unfold j3;rw[b];rfl
  rw[l]at h;rw[e1];by_cases c:i<es.size
  .have g1:es[i]?=some es[i]:=by simp[c]
   have j:i<t.place.size:=by rw[T.len];exact c
   have g2:t.place[i]?=some t.place[i]:=by simp[j]
   rw[g1]at h;rw[g1,g2];have e2:dJ w t (i+1)=t.place[i]+1:=by unfold dJ;rw[b];simp[Array.getD,j]
   rw[e2]at h;exact TV h
  .have g1:es[i]?=none:=by simp;lia
   rw[g1]at h;rw[g1];exact TV h
end
def iz:Slot "set_iterator" "__iter__" "set_iterator.__iter__":=.of (owner:="set_iterator") (n:="__iter__") (by rw[typeLookup_type,builtinLookup_eq_fast];kernel_rfl) (by decide +kernel) (by decide +kernel) (by decide +kernel) (by first|exact .inl (by decide +kernel)|exact .inr (by decide +kernel)) (by rw[isSubtype_type];kernel_rfl)
def lZ:entryFor table "set_iterator.__iter__"=some Builtin.«dict_keyiterator.__iter__»:=entryFor_alias (id':="dict_keyiterator.__iter__") (by kernel_rfl) rfl (by decide +kernel) (by kernel_rfl)
def mH(a:XG):argsOk "set_iterator.__iter__" ⟨[a],[]⟩:=by(unfold argsOk;kernel_rfl)
section
variable{prog:XF}{w:World}{A:XH}{E:XG->XD->Prop}{s:XD}
def sV{it S:Addr}{slot i n a:Nat}{P:PySem.Fin->XD->Prop}{F:XG->XD->Prop}(g:s.heap.get? it=some o)(hd:o.data=.fields #[.int slot 0,.int i 0,.ref S,.int n 0,.int a 0])
 (r:nU s.heap S es a t) (j:t.fits es.size=true) (k:n=es.size)
 (h:wpAny (model prog w) A (setNext S slot i a) (λm b=>match m with
   |some (x,next)=>wpAny (model prog w) A (do setField (.ref it) 0 (rawInt next);setField (.ref it) 1 (rawInt (i+1));ret x) P F b
   |none=>wpAny (model prog w) A (do setField (.ref it) 2 .none;raiseNew (<- newExc (.type "StopIteration") [])) P F b) F s) :
 wpAny (model prog w) A (Builtin.«set_iterator.__next__» ⟨[.ref it],[]⟩) P F s:=by
 obtain⟨os,c,hex,d⟩:=r;unfold Builtin.«set_iterator.__next__» slotArgs;simp only[List.isEmpty_nil,VM,Ud,U1,Vx,WP];refine KE (TV ?_);refine KE (wpAny_fieldsOf g hd ?_);dsimp only;refine KE ?_;unfold setEntries;refine KE (U6 c d j (TV ?_));dsimp only;rw[T9 (by rw[k];simp)];simp only[WK];refine KE (Vo h (λm b f=>?_) λ_ _ e=>e);cases m with
 |none=>exact f
 |some p=>obtain⟨x,next⟩:=p;exact f
def rP{it S:Addr}(hne:S≠it)(hh:A.handled=none){es:Array (Int×XG)}{ep:Nat}{t:SetTable}(T:rG t es)(hs:t.place.size<=t.mask)(hpl:t.plain=true)(hle:t.led=!byT w) :
 Walks prog w A it [it,S] [it] es.size (λi v=>((j3 w S ep es)[i]?).map (·.2)=some v) (λi h=>SetIt h it S (dJ w t i) i es.size ep/\nU h S es ep t) where
 sub:=λb hb=>by simp at hb;simp[hb]
 frame:=λi h h' st hk=>by obtain⟨⟨o,h1,r1⟩,⟨o2,h2,r2⟩⟩:=st;exact⟨⟨o,hk it (by simp) o h1,r1⟩,⟨o2,hk S (by simp) o2 h2,r2⟩⟩
 item:=λi s Q E hi st hQ=>by
  obtain⟨x1,x2⟩:=st;have hT:=x1.typeIs;obtain⟨o,ho,hc,hd⟩:=x1;have x2':=x2;obtain⟨o2,ho2,hex2,hd2⟩:=x2;unfold pyNext;refine KE (wpAny_attempt (Vk (name:=Str.ofString "__next__") hT slot_setiter_next (UK slot_setiter_next hT gZ ?_ (iu _))));refine sV ho hd x2' (rG.fits T hs) rfl (qw x2' T hs hpl hle (by lia) ?_);have hio:i<(j3 w S ep es).size:=by rw[mG];exact hi
  have e1:(j3 w S ep es)[i]?=some (j3 w S ep es)[i]:=by simp[hio]
  rw[e1];show wpAny _ _ _ _ _ _;refine KE (Xg ho hd (by simp) ?_);have d1:=Obj.data_mapFields hd (·.setIfInBounds 0 (rawInt ((dJ w t (i+1):Nat):Int)));have ho1:=U3 (Obj.mapFields (·.setIfInBounds 0 (rawInt ((dJ w t (i+1):Nat):Int)))) ho (Obj.isFreed_of_fields d1);refine KE (Xg (s:={s with heap:=_}) ho1 d1 (by simp) ?_);have d2:=Obj.data_mapFields d1 (·.setIfInBounds 1 (rawInt ((i:Int)+1)));have ho3:=U3 (Obj.mapFields (·.setIfInBounds 1 (rawInt ((i:Int)+1)))) ho1 (Obj.isFreed_of_fields d2);have sb:=(UH s.heap it (Obj.mapFields (·.setIfInBounds 0 (rawInt ((dJ w t (i+1):Nat):Int))))).trans (UH _ it (Obj.mapFields (·.setIfInBounds 1 (rawInt ((i:Int)+1)))));refine TV ⟨_,rfl,TV ?_⟩;refine hQ _ _ s.toks (by rw[e1];rfl) ⟨⟨_,ho3,?_,?_⟩,o2,(sb.2 S hne).trans ho2,hex2,hd2⟩ (λb o hb e=>(sb.2 b (λz=>hb (by simp[z]))).trans e)
  .exact(Obj.cls_mapFields ..).trans ((Obj.cls_mapFields ..).trans hc)
  .rw[d2];simp[rawInt]
 done:=λs Q E st hQ=>by
  obtain⟨x1,x2⟩:=st;have hT:=x1.typeIs;obtain⟨o,ho,hc,hd⟩:=x1;unfold pyNext;refine KE (wpAny_attempt (Vk (name:=Str.ofString "__next__") hT slot_setiter_next (UK slot_setiter_next hT gZ ?_ (iu _))));refine sV ho hd x2 (rG.fits T hs) rfl (qw x2 T hs hpl hle (TY _) ?_);have e1:(j3 w S ep es)[es.size]?=none:=by simp[mG]
  rw[e1];show wpAny _ _ _ _ _ _;refine KE (Xg ho hd (by simp) ?_);refine KE ?_;simp only[newExc,newTuple];refine KE (UL ?_ (by size_fits));refine KE (m:=firstArgMember _ _) (wpAny_of_eq (a:=Value.none) (by first|rfl|(simp only[firstArgMember];rfl)) ?_);refine UL ?_ (by size_fits);simp only[raiseNew];refine KE (wpAny_handled ?_);rw[show A.in1.handled=none from hh];refine KE (TV (wpAny_throw ?_));refine KE (wpAny_isInstance (T:="StopIteration") (b:=true) ⟨_,T4 _ rfl,rfl⟩ isSubtype_stop ?_);refine TV (hQ _ s.toks λb o hb e=>?_);exact RW _ (RW _ (((UH ..).2 b (λz=>hb (by simp[z]))).trans e))
 self:=λ_ _ _ _ st hQ=>by refine WQ st.1.typeIs iz (UK iz st.1.typeIs lZ ?_ (mH _));exact TV ⟨_,rfl,"set_iterator",_,st.1.typeIs,slot_setiter_next.lookup,hQ⟩
def ym(r:nU s.heap S es ep t)(b:t.fits es.size=true)(c:t.plain=true)
 (h:Q (.ref s.heap.objs.size) { s with heap:=s.heap.push { cls:=.type "set_iterator",data:=.fields #[.int 0 0,.int 0 0,.ref S,.int es.size 0,.int ep 0] } }):wpAny (model prog w) A (pyIter (.ref S)) Q E s:=by
 obtain⟨o,a,hex,hd⟩:=r;have d:s.TypeIs (.ref S) "set":=⟨o,a,hex.1⟩;refine WQ d PySem.F.slot_set_iter (UK PySem.F.slot_set_iter d rO ?_ (PySem.F.args_set_iter_1 _));unfold Builtin.«frozenset.__iter__» Builtin.Frozenset.slot0 slotArgs;simp only[List.isEmpty_nil,VM,Ud,↓reduceIte,bind_assoc,Vx,WP];unfold Builtin.Frozenset.addrOf Builtin.Frozenset.sizeOf setEntries;refine KE (TV (KE (TV ?_)));simp only[bind_assoc];refine KE (U6 a hd b (KE (TV (KE (TV ?_)))));refine KE ?_;unfold setDrawn;refine KE (U6 a hd b ?_);dsimp only;refine KE (yk (TV ?_));show wpAny _ _ (if(!byT w&&(!t.plain&&decide (es.size>1)))=true then _ else _) _ _ _;rw[c];simp only[VM,Xe,Xf,Ud,U1];refine KE (TV ?_);refine KE (wpAny_setEpoch_of a hd b ?_);exact KE (UL (TV ⟨_,rfl,"set_iterator",_,⟨_,T4 _ rfl,rfl⟩,slot_setiter_next.lookup,h⟩))
def Dg(a:s.TypeIs (.ref S) "set") (h:Q false s):wpAny (model prog w) A (Builtin.List.listLengthHint (.ref S)) Q E s:=by
 unfold Builtin.List.listLengthHint;refine KE (wpAny_specialOf a PySem.F.slot_set_len.lookup ?_);dsimp only;have b:splitId "set.__len__"=some ("set","__len__"):=by decide +kernel
 rw[b];dsimp only;refine KE (wpAny_isInstance a sub_set_self ?_);simp only[VM,Ud,U1];rw[T2 (by decide +kernel)];refine KE (WY a ?_);exact TV h
def vZ(r:nU s.heap S es ep t)(T:rG t es)(hs:t.place.size<=t.mask)(k:t.plain=true)(x:t.led=!byT w)(K:A.handled=none)(hz:es.size<=300)
 (h:∀h' tk,s.heap.objs.size<h'.objs.size->(∀b o,s.heap.get? b=some o->h'.get? b=some o)->Q ((j3 w S ep es).toList.map (·.2)) {s with heap:=h',toks:=tk}):wpAny (model prog w) A (collect (.ref S)) Q E s:=by
 have L:=rG.fits T hs;obtain⟨o,y,hex,hd⟩:=r;have g:S<s.heap.objs.size:=T8 y;unfold collect;refine KE (wpAny_runValue (Vz entry_proto_collect' (show wpAny _ _ (do again (.builtin "list.__iadd__" ⟨[<- newList [],.ref S],[]⟩)) _ _ s from ?_)));refine KE (wpAny_newList (TV ⟨Code.quiet_builtin _ (by decide +kernel),Vz entry_list_iadd' ?_⟩));show wpAny _ _ (Builtin.List.listExtendWith (.ref s.heap.objs.size) (.ref S) (.ref s.heap.objs.size)) _ _ { s with heap:=s.heap.push (seqObj "list" #[] 0) };have j:(s.heap.push (seqObj "list" #[] 0)).get? S=some o:=RW _ y;have z:Shared.TypeIs { s with heap:=s.heap.push (seqObj "list" #[] 0) } (.ref S) "set":=⟨o,j,hex.1⟩;unfold Builtin.List.listExtendWith;refine KE (WY z ?_);have q1:Builtin.List.listSameRef (.ref s.heap.objs.size) (.ref S)=false:=by simp[Builtin.List.listSameRef,WA g]
 have q2:(Value.type "set"==Value.type "list")=false:=by decide
 have M:(Value.type "set"==Value.type "tuple")=false:=by decide
 simp only[q1,q2,M,Bool.or_false,Ud,U1];refine KE (ym ⟨o,j,hex,hd⟩ L k ?_);have B:Shared.TypeIs { s with heap:=(s.heap.push (seqObj "list" #[] 0)).push { cls:=.type "set_iterator",data:=.fields #[.int 0 0,.int 0 0,.ref S,.int es.size 0,.int ep 0] } } (.ref S) "set":=⟨o,RW _ j,hex.1⟩;refine KE (UV (Dg B ?_));rw[T2 (by decide +kernel)];refine KE (W8 ?_);have l:((s.heap.push (seqObj "list" #[] 0)).push { cls:=.type "set_iterator",data:=.fields #[.int 0 0,.int 0 0,.ref S,.int es.size 0,.int ep 0] }).get? s.heap.objs.size=some (seqObj "list" #[] 0):=RW _ (T4 _ rfl);refine KE (show wpAny _ _ (updateSeq s.heap.objs.size (·.push .none) >>= λ_=>updateSeq s.heap.objs.size (·.pop)) _ _ _ from ?_);refine KE (WH l rfl ?_);have m:=U3 (Obj.mapSeq (·.push Value.none)) l rfl;refine WH (hz:=by seq_fits) m rfl ?_;have C:=U3 (Obj.mapSeq (·.pop)) m rfl;generalize N:(((s.heap.push (seqObj "list" #[] 0)).push { cls:=.type "set_iterator",data:=.fields #[.int 0 0,.int 0 0,.ref S,.int es.size 0,.int ep 0] }).update s.heap.objs.size (Obj.mapSeq (·.push Value.none))).update s.heap.objs.size (Obj.mapSeq (·.pop))=D at *;have n:∀b o,b≠s.heap.objs.size->((s.heap.push (seqObj "list" #[] 0)).push { cls:=.type "set_iterator",data:=.fields #[.int 0 0,.int 0 0,.ref S,.int es.size 0,.int ep 0] }).get? b=some o->D.get? b=some o:=λb o J e=>by rw[<- N];exact(Uu _ _ (Vc J)).trans ((Uu _ _ (Vc J)).trans e)
 have old:∀b o,s.heap.get? b=some o->D.get? b=some o:=λb o e=>n b o (Ul (T8 e)) (RW _ (RW _ e));have d:(s.heap.push (seqObj "list" #[] 0)).objs.size=s.heap.objs.size+1:=size_push' _ _;have G:D.get? (s.heap.objs.size+1)=some { cls:=.type "set_iterator",data:=.fields #[.int 0 0,.int 0 0,.ref S,.int es.size 0,.int ep 0] }:=n _ _ (by lia) (by rw[<- d];exact T4 _ rfl);refine TV ⟨Wa PySem.F.plain_extend_loop _,?_⟩;show codeAny _ _ (.builtin "list.extend.loop" ⟨[.ref s.heap.objs.size,.ref (s.heap.push (seqObj "list" #[] 0)).objs.size,.ref s.heap.objs.size],[]⟩) _ _;rw[d];have W:Walks prog w A.in1 (s.heap.objs.size+1) [s.heap.objs.size+1,S] [s.heap.objs.size+1] es.size (λi v=>((j3 w S ep es)[i]?).map (·.2)=some v) (λi h=>SetIt h (s.heap.objs.size+1) S (dJ w t i) i es.size ep/\nU h S es ep t):=rP (Ul (V7 g)) (by simp[K]) T hs k x;refine codeAny_extend_loopS W.toS (by rw[Ux];lia) s.heap.objs.size (by simp only[T6,Ub,XC,not_or];exact⟨Ul (VX _),WA g⟩) _ es.size 0 _ #[] _ rfl (UB _) ⟨⟨_,G,rfl,rfl⟩,o,old S o y,hex,hd⟩ (by rw[C];rfl) (ItemsOf.nil _) λO a c q p f=>?_;obtain⟨h',g',d',H,I⟩:=O;have P:g'=s.gens:=q.gens;have R:d'=s.drawn:=q.drawn;have U:I=s.os:=q.os;subst P R U;refine KE (wpAny_load p ?_);have V:a.toList=(j3 w S ep es).toList.map (·.2):=by
  apply WR
  intro i;by_cases u:i<a.size
  .have e1:a.toList[i]?=some a[i]:=by rw[Ut];simp[u]
   have e2:=f.2 i a[i] (by simp[u]);rw[e1,Ui,Ut];exact e2.symm
  .rw[VA (by simpa using Nat.le_of_not_lt u),VA];rw[TZ,UR,mG,<- f.1];exact Nat.le_of_not_lt u
 show wpAny _ _ (pure a.toList) _ _ _;rw[V];refine TV (h h' H (T8 p) λb o e=>q.heap b o ?_ (old b o e));have:=T8 e;simp only[T6,Ub,XC,not_or];exact⟨Ul this,Ul (V7 this)⟩
end
noncomputable def dL:List Int->List Int->Bool
 |[],[]=>false
 |[],_::_=>true
 |_::_,[]=>false
 |a::x,b::y=>if a=b then dL x y else decide (a<b)
theorem mI:∀a:List Int,dL a a=false
 |[]=>rfl
 |a::x=>by unfold dL;rw[T2 rfl];exact mI x
theorem ub:∀a b c:List Int,dL a b=true->dL b c=true->dL a c=true
 |[],[],_,h,_=>by cases h
 |[],_::_,[],_,h=>by cases h
 |[],_::_,_::_,_,_=>rfl
 |_::_,[],_,h,_=>by cases h
 |_::_,_::_,[],_,h=>by cases h
 |a::x,b::y,c::z,h1,d=>by
  unfold dL at h1 d ⊢;by_cases e1:a=b
  .subst e1;rw[T2 rfl]at h1;by_cases e2:a=c
   .subst e2;rw[T2 rfl]at d ⊢;exact ub x y z h1 d
   .rw[T9 e2]at d ⊢;exact d
  .grind
theorem uc:∀a b:List Int,a≠b->dL a b=true\/dL b a=true
 |[],[],h=>(h rfl).elim
 |[],_::_,_=>.inl rfl
 |_::_,[],_=>.inr rfl
 |a::x,b::y,h=>by
  unfold dL;by_cases e:a=b
  .subst e;rw[T2 rfl,T2 rfl];exact uc x y λz=>h (by rw[z])
  .grind
section
variable{prog:XF}{w:World}{A:XH}{E:XG->XD->Prop}{s:XD}
theorem zC:∀{a b:List Int}{xs f:List XG}(i:Nat),ItemsAre (aF prog w) (iK a) xs->ItemsAre (aF prog w) (iK b) f->Q (dL a b) s->PySem.W.KatLex prog w A true (decide (xs.length<f.length)) Q (xs.zip f) i s
 |[],[],_,_,i,c,d,h=>by cases c;cases d;exact h
 |[],_::_,_,_,i,c,d,h=>by
  cases c;cases d with
  |cons h1 g=>exact PySem.W.kat_nil h
 |_::_,[],_,_,i,c,d,h=>by
  cases d;cases c with
  |cons h1 g=>exact PySem.W.kat_nil h
 |a::x,b::y,_,_,i,c,d,h=>by
  cases c with
  |@cons _ o _ l h1 j=>
   cases d with
   |@cons _ v2 _ m g k=>
    obtain⟨p,rfl⟩:=pA h1;obtain⟨q,rfl⟩:=pA g;rw[WD];refine PySem.W.kat_cons (wpAny_eqBool_int ?_);unfold dL at h;by_cases e:a=b
    .subst e;rw[T2 rfl]at h;rw[beq_self_eq_true];refine PySem.W.kat_yes ?_;have:=zC (i+1) j k h;simpa using this
    .rw[T9 e]at h;have n:(a==b)=false:=by grind
     rw[n];refine PySem.W.kat_no ?_;cases i with
     |zero=>exact oneLt_int h
     |succ i=>exact PySem.W.kat_one _ _ (lt_int h)
structure sA(prog:XF) (w:World) (h:Heap) (xs:List jK):Prop where
 is:∀x∈xs,(tK prog w).is h (iK x.1) x.2
 ne:∀x∈xs,x.1≠[]
 nd:(xs.map (·.1)).Nodup
noncomputable def valsT(xs:List jK):List XG:=xs.map λx=>Value.ref x.2
noncomputable def iA(xs:List jK)(i:Nat):List Int:=((xs[i]?).getD ([],0)).1
def Gs(t:sA prog w s.heap xs):Lt xs.length λi j=>dL (iA xs i) (iA xs j) where
 TN:=λi=>mI _
 tr:=λi j k=>ub _ _ _
 TR:=λi j hi hj e=>uc _ _ λz=>by
  have gi:iA xs i=(xs.map (·.1))[i]'(by simpa using hi):=by simp[iA,hi]
  have gj:iA xs j=(xs.map (·.1))[j]'(by simpa using hj):=by simp[iA,hj]
  rw[gi,gj]at z;rcases WF e with q|q
  .exact Uk.mp t.nd i j (by simpa using hi) (by simpa using hj) q z
  .exact Uk.mp t.nd j i (by simpa using hj) (by simpa using hi) q z.symm
def Dh(t:sA prog w s.heap xs):Gm xs.length (λi j=>dL (iA xs i) (iA xs j)) (kas_ask prog w A (tuples' true) (valsT xs)) s:=by intro i j C b c h;have one:∀k,k<xs.length->∃x,(valsT xs).getD k Value.none=.ref x.2/\iA xs k=x.1/\x∈xs:=λk a=>⟨xs[k],by simp[valsT,a],by simp[iA,a],Xv a⟩;obtain⟨x,ex,d,e⟩:=one i b;obtain⟨y,f,g,l⟩:=one j c;unfold kas_ask;rw[ex,f];obtain⟨u,ix,nx,m,v,n,o⟩:=t.is x e;obtain⟨z,B,D,p,F,q,r⟩:=t.is y l;refine PySem.W.kat_lt m n p q ?_;have h:C (dL (iA xs i) (iA xs j)) s:=h;rw[d,g]at h;have:=zC (A:=A) 0 o r h;simpa using this
theorem v4:∀{xs:List jK},(∀x∈xs,(tK prog w).is h (iK x.1) x.2)->(∀x∈xs,x.1≠[])->∃fs:List XG,PySem.W.KatTups h (valsT xs) fs/\fs.length=xs.length/\∀v∈fs,∃i t,v=Value.int i t
 |[],_,_=>⟨[],trivial,rfl,λv g=>nomatch g⟩
 |x::xs,h1,j=>by
  obtain⟨fs,a,b,c⟩:=v4 (λy e=>h1 y (T3 _ e)) λy e=>j y (T3 _ e);obtain⟨o,ix,nx,m,p,q,f⟩:=h1 x T5;have d:=j x T5;obtain⟨k,r⟩:=x;dsimp only at d f m;cases k with
  |nil=>exact(d rfl).elim
  |cons n ns=>
   generalize u:ix.toList=l at f;cases f with
   |@cons _ v _ vs q1 q2=>
    obtain⟨t,rfl⟩:=pA q1;refine⟨.int n t::fs,⟨⟨r,o,ix,nx,rfl,m,p,q,?_⟩,a⟩,by simp[b],λv g=>?_⟩
    .rw[<- Ut,u];rfl
    .grind
def AY(t:sA prog w s.heap xs)(d:0<xs.length)(h:Q (tuples' true) s):wpAny (model prog w) A (keyKind' (valsT xs).toArray) Q E s:=by
 obtain⟨fs,a,b,c⟩:=v4 t.is t.ne;refine PySem.W.kat_kind (T:=.type "int") a (by lia) (λv e=>?_) (by decide) ?_
 .obtain⟨i,t,rfl⟩:=c v e;exact λA Q E s k q=>TV q
 .have:(Value.type "int" != Value.type "tuple")=true:=by decide
  rw[this];exact h
end
noncomputable def j5{α:Type}(d:α)(xs:List α)(i:Nat):α:=(xs[i]?).getD d
section
variable{α β:Type}{d:α}{xs:List α}{p:Array Nat}
def qx(d:α)(xs:List α):(List.range xs.length).map (j5 d xs)=xs:=by
 apply WR
 intro i;rw[Ui];by_cases h:i<xs.length
 .rw[List.getElem?_range h,U0 h];simp[j5,h]
 .rw[VA (by grind),VA (by grind)];rfl
def sW(d:α)(pm:Pm xs.length p):(p.toList.map (j5 d xs)).Perm xs:=by have:=List.Perm.map (j5 d xs) pm;rw[qx]at this;exact this
def zD{r:α->α->Bool}(pm:Pm xs.length p)(so:So (λi j=>r (j5 d xs i) (j5 d xs j)) p xs.length):(p.toList.map (j5 d xs)).Pairwise λx y=>r x y=true:=by
 rw[V5,Uk];intro i j g h b;have c:i<p.size:=by grind
 have a:j<p.size:=by grind
 have:=so i j b (by rw[<- pm.size];exact a);dsimp only at this;have e:cN p i=p.toList[i]:=by simp[cN,Array.getD,c]
 have f:cN p j=p.toList[j]:=by simp[cN,Array.getD,a]
 rw[e,f]at this;exact this
def v5{f:α->β}{e:β}(d:α)(pm:Pm xs.length p):(p.toList.map λi=>(xs.map f).getD i e)=(p.toList.map (j5 d xs)).map f:=by rw[Uo];refine Vb λi a=>?_;have a:i<xs.length:=UF.mp (pm.mem_iff.mp a);simp[j5,a]
end
section
variable{prog:XF}{w:World}{A:XH}{E:XG->XD->Prop}{s:XD}
def sA.off(t:sA prog w h xs)(f:h.get? a=some o)(g:o.cls=.type "list") (k:∀b o,b≠a->h.get? b=some o->h'.get? b=some o):sA prog w h' xs:=by refine⟨λx i=>?_,t.ne,t.nd⟩;obtain⟨d,ix,nx,h1,c,r⟩:=t.is x i;refine⟨d,ix,nx,k x.2 d (λe=>?_) h1,c,r⟩;rw[e,f]at h1;cases h1;rw[g]at c;exact absurd c (by decide)
def v6{a:Addr}{n:Nat}{vs:List XG}{κ:SortKind}{lt:Nat->Nat->Bool}{P:PySem.Fin->XD->Prop}(m:s.heap.get? a=some (seqObj "list" vs.toArray n)) (B:vs.length<64)
 (C:∀H,(∀b o,b≠a->s.heap.get? b=some o->H.get? b=some o)->2<=vs.length->(∀Q,Q κ {s with heap:=H}->wpAny (model prog w) A (keyKind' vs.toArray) Q E {s with heap:=H})/\Lt vs.length lt/\Gm vs.length lt (kas_ask prog w A κ vs) {s with heap:=H})
 (h:∀p h' c,Pm vs.length p->So lt p vs.length->h'.get? a=some (seqObj "list" (p.toList.map λi=>vs.getD i Value.none).toArray c)->(∀b o,b≠a->s.heap.get? b=some o->h'.get? b=some o)->P (.done (.ret .none)) {s with heap:=h'}) :
 wpAny (model prog w) A (Builtin.«list.sort» ⟨[.ref a],[]⟩) P E s:=by
 rw[list_sort_plain];refine KE (listItems_at m rfl (KE (listUpdate_at m rfl ?_ (by rw[Ua,Ux];lia) (UB _))));obtain⟨e1,q⟩ : ∃e1,(s.heap.update a (Obj.mapSeq λ_=>#[])).get? a=some (seqObj "list" #[] e1):=⟨_,get?_update_seq m (λ_=>#[])⟩;refine KE (seqEpoch_at q rfl (KE (wpAny_newTuple (KE (wpAny_newList (UV ?_) (UB _))) (by show vs.length<=_;rw[Ux];lia))));have k:∀b o,b≠a->s.heap.get? b=some o->(((s.heap.update a (Obj.mapSeq λ_=>(#[]:Array XG))).push (seqObj "tuple" vs.toArray 0)).push (seqObj "list" #[] 0)).get? b=some o:=λb o y e=>RW _ (RW _ ((Uu _ _ (Vc y)).trans e));have d:(((s.heap.update a (Obj.mapSeq λ_=>(#[]:Array XG))).push (seqObj "tuple" vs.toArray 0)).push (seqObj "list" #[] 0)).get? a=some (seqObj "list" #[] e1):=RW _ (RW _ q);show wpAny (model prog w) A _ P E { s with heap:=((s.heap.update a (Obj.mapSeq λ_=>(#[]:Array XG))).push (seqObj "tuple" vs.toArray 0)).push (seqObj "list" #[] 0) };generalize(((s.heap.update a (Obj.mapSeq λ_=>(#[]:Array XG))).push (seqObj "tuple" vs.toArray 0)).push (seqObj "list" #[] 0))=r at d k;dsimp only;have t:∀(p:Array Nat)(out:Array XG),Pm vs.length p->So lt p vs.length->out=(p.toList.map λi=>vs.getD i Value.none).toArray->P (.done (.ret .none)) {s with heap:=r.update a (Obj.mapSeq λ_=>out)}:=λp out D F m=>by subst m;exact h p _ _ D F (get?_update_seq d λ_=>(p.toList.map λi=>vs.getD i Value.none).toArray) λb o y e=>(Uu _ _ (Vc y)).trans (k b o y e)
 by_cases u:vs.toArray.size<2
 .rw[T2 u,T2 u];refine KE (TV ?_);rw[StateT.run_pure];have l:vs.length<2:=by grind
  have j:Array.map (λx:Keyed=>x.2) (vs.toArray.zip vs.toArray)=vs.toArray:=by apply Array.ext';simp[List.map_snd_zip]
  refine KE (TV ?_);dsimp only;refine KE (seqEpoch_at d rfl (KE (listUpdate_at d rfl ?_ (UB _) ?_)))
  .simp only[WP,Ud,U1];refine TV (t (List.range vs.length).toArray _ (VQ _) (λa b h1 u=>by lia) (j.trans ?_));rw[show(λi=>vs.getD i Value.none)=j5 Value.none vs from funext λi=>by simp[j5]];show _=(List.map _ (List.range vs.length)).toArray;rw[qx]
  .show(Array.map (λx:Keyed=>x.2) (vs.toArray.zip vs.toArray)).size<=_;rw[j,Ua,Ux];lia
 .rw[T9 u,T9 u];have l:2<=vs.length:=by grind
  obtain⟨k1,k2,k3⟩:=C r k l;refine KE (k1 _ ?_);refine KE (Vo (PySem.W.kat_run (s:={s with heap:=r}) (Q:=λf v=>v={s with heap:=r}/\∃p:Array Nat,Pm vs.length p/\So lt p vs.length/\arrOf f=p.map (PySem.W.kas_item (vs.toArray.zip vs.toArray))/\failedOf f=none)
   (G:=λp v=>v={s with heap:=r}/\Pm vs.length p/\So lt p vs.length) rfl (by lia) (by lia) (λp f v _ I J g=>⟨g.1,p,g.2.1,g.2.2,I,J⟩) ?_) ?_ λ_ _ e=>e)
  .exact Gn k2 k3 l λp pm so=>⟨rfl,pm,so⟩
  .rintro⟨⟨⟩,f⟩ v ⟨rfl,p,pm,so,z,K⟩;dsimp only;rw[PySem.W.kat_snds rfl z];refine KE (seqEpoch_at d rfl (KE (listUpdate_at d rfl ?_ (UB _) ?_)))
   .rw[K];simp only[WP,Ud,U1];exact TV (t _ _ pm so rfl)
   .have:=pm.size;simp[this];rw[Ux];lia
def AZ(m:s.heap.get? a=some (seqObj "list" (valsT xs).toArray n)) (t:sA prog w s.heap xs) (u:xs.length<64)
 (h:∀f h' c,f.Perm xs->f.Pairwise (λx y=>dL x.1 y.1=true)->h'.get? a=some (seqObj "list" (valsT f).toArray c)->(∀b o,b≠a->s.heap.get? b=some o->h'.get? b=some o)->P (.done (.ret .none)) {s with heap:=h'}) :
 wpAny (model prog w) A (Builtin.«list.sort» ⟨[.ref a],[]⟩) P E s:=by
 have d:(valsT xs).length=xs.length:=by simp[valsT]
 refine v6 (κ:=tuples' true) (lt:=λi j=>dL (iA xs i) (iA xs j)) m (by lia) (λH g v=>?_) λp h' c pm so e k=>?_
 .have l:sA prog w H xs:=t.off m rfl g;rw[d];exact⟨λQ q=>AY (s:={s with heap:=H}) l (by lia) q,Gs (s:={s with heap:=H}) l,Dh (s:={s with heap:=H}) l⟩
 .rw[d]at pm so;exact h (p.toList.map (j5 ([],0) xs)) h' c (sW _ pm) (zD (r:=λx y=>dL x.1 y.1) pm so) (by rw[e];unfold valsT;rw[v5 ([],0) pm]) k
def mJ(prog:XF)(w:World)(N:Nat):Prop:=∀(A:XH)(E:XG->XD->Prop)(s:XD)(a:Addr)(n:Nat)(xs:List jK)(P:PySem.Fin->XD->Prop),s.heap.get? a=some (seqObj "list" (valsT xs).toArray n)->sA prog w s.heap xs->xs.length<=N->
 (∀d h' c,d.Perm xs->d.Pairwise (λx y=>dL x.1 y.1=true)->h'.get? a=some (seqObj "list" (valsT d).toArray c)->(∀b o,b≠a->s.heap.get? b=some o->h'.get? b=some o)->P (.done (.ret .none)) {s with heap:=h'})->wpAny (model prog w) A (Builtin.«list.sort» ⟨[.ref a],[]⟩) P E s
def zE:mJ prog w 63:=λ_ _ _ _ _ _ _ a t hz h=>AZ a t (by lia) h
end
section
variable{prog:XF}{w:World}{A:XH}{E:XG->XD->Prop}{s:XD}{κ μ:Type}{ent:κ×μ->Int×XG}{its:List (κ×μ)}
theorem v7:∀(l:List (Int×XG)),(∀e∈l,∃x∈its,e=ent x)->∃a:List (κ×μ),l=a.map ent/\∀z∈a,z∈its
 |[],_=>⟨[],rfl,λz hz=>nomatch hz⟩
 |e::l,h=>by
  obtain⟨x,b,rfl⟩:=h e T5;obtain⟨a,h1,c⟩:=v7 l λe d=>h e (T3 _ d);exact⟨x::a,by rw[h1];rfl,λz hz=>by
   rcases T6.mp hz with rfl|hz
   .exact b
   .exact c z hz⟩
structure xJ(lt:κ->κ->Prop) (its ys:List (κ×μ)):Prop where
 sub:∀y∈ys,y∈its
 all:∀x∈its,∃y∈ys,y.1=x.1
 pw:ys.Pairwise λx y=>lt x.1 y.1
def KJ(prog:XF)(w:World)(f:Heap)(ent:κ×μ->Int×XG)(lt:κ->κ->Prop)(its:List (κ×μ)) (N:Nat):Prop:=∀(A:XH)(E:XG->XD->Prop)(s:XD)(a:Addr)(n:Nat)(d:List (κ×μ))(P:PySem.Fin->XD->Prop),(∀b o,f.get? b=some o->s.heap.get? b=some o)->s.heap.get? a=some (seqObj "list" (d.map λz=>(ent z).2).toArray n)->(∀z∈d,z∈its)->(d.map (·.1)).Nodup->d.length<=N->
 (∀(e:List (κ×μ)) h' c,e.Perm d->e.Pairwise (λx y=>lt x.1 y.1)->h'.get? a=some (seqObj "list" (e.map λz=>(ent z).2).toArray c)->(∀b o,b≠a->s.heap.get? b=some o->h'.get? b=some o)->P (.done (.ret .none)) {s with heap:=h'})->wpAny (model prog w) A (Builtin.«list.sort» ⟨[.ref a],[]⟩) P E s
def mK(sa:SetAt w s.heap S es)(v:jT ent es its)(un:Gq ent its)(I:A.handled=none)(hN:N<=300)(hs:KJ prog w s.heap ent lt its N)(hz:its.length<=N)
 (h:∀(f:List (κ×μ)) h' tk l c,xJ lt its f->f.length<=N->s.heap.objs.size<=l->h'.get? l=some (seqObj "list" (f.map λz=>(ent z).2).toArray c)->(∀b o,s.heap.get? b=some o->h'.get? b=some o)->Q (.ref l) {s with heap:=h',toks:=tk}) :
 wpAny (model prog w) A (call (.builtin "sorted") [.ref S]) Q E s:=by
 obtain⟨o,k,t,J,hex,hd,T,sp,n,p⟩:=sa;have q:=vY w S k es;have K:=v.sz;obtain⟨d,j,g⟩:=v7 (ent:=ent) (its:=its) (j3 w S k es).toList λe L=>v.el e (q.mem_iff.mp L);have M:(j3 w S k es).toList.map (·.2)=d.map λz=>(ent z).2:=by rw[j,Uo];rfl
 have r:d.length=es.size:=by have:=VD List.length j;rw[TZ,UR,mG]at this;exact this.symm
 have nd:(d.map (·.1)).Nodup:=by have pw:=(q.pairwise_iff (λ{x y} u a b e1 e2 O P z=>u b a e2 e1 P O z.symm)).mpr v.pw;rw[j,V5]at pw;unfold List.Nodup;rw[V5];exact V6 (λ{a b} ha R B=>B a b rfl rfl (g a ha) (g b R)) pw
 refine Calls.call_function_entry kind_sorted plain_sorted entry_sorted (args_sorted1 _) ?_;unfold Builtin.«sorted»;refine KE (m:=checkCount "sorted" 1 1 _) (TV (KE (vZ ⟨o,J,hex,hd⟩ T (iQ sp) n p (by simp[I]) (by lia) λh1 tk1 g1 k1=>?_)));rw[M];refine KE (wpAny_newList ?_ (by rw[TZ,r,Ux];lia));have i:(h1.push (seqObj "list" (d.map λz=>(ent z).2).toArray 0)).get? h1.objs.size=some (seqObj "list" (d.map λz=>(ent z).2).toArray 0):=T4 _ rfl;have F:∀b o,s.heap.get? b=some o->(h1.push (seqObj "list" (d.map λz=>(ent z).2).toArray 0)).get? b=some o:=λb o e=>RW _ (k1 b o e);have ge:s.heap.objs.size<=h1.objs.size:=WV g1;refine KE (UV (UK slot_list_sort ⟨_,i,rfl⟩ entry_list_sort (hs _ _ { s with heap:=h1.push (seqObj "list" (d.map λz=>(ent z).2).toArray 0),toks:=tk1 } _ _ d _ F i g nd (by lia) λf U V C W D k2=>⟨_,rfl,?_⟩) (args_list_sort _)));refine TV ⟨_,rfl,h f U tk1 _ V ⟨λy X=>g y (C.mem_iff.mp X),λx Y=>?_,W⟩ (by rw[C.length_eq];lia) ge D λb o e=>k2 b o (λz=>?_) (F b o e)⟩
 .obtain⟨y,Z,y2,y3⟩:=v.all x Y;have G:=q.mem_iff.mpr y3;rw[j]at G;obtain⟨z,H,z2⟩:=T_.mp G;exact⟨z,C.mem_iff.mpr H,(un z (g z H) y Z z2).trans y2⟩
 .subst z;exact absurd (T8 e) (Nat.not_lt.mpr ge)
end
def TupsIn(H:Hp):List V->List jK->Prop:=Paired λv x=>v=.ref x.2/\H x.2=some (.tup ((iK x.1).map kV))
theorem TupsIn.get(t:TupsIn H vs its)(d:Vals vs us):its.length=us.length/\(∀(i:Nat)(v:XG),us[i]?=some v->∃x:jK,its[i]?=some x/\v=.ref x.2)/\∀x∈its,H x.2=some (.tup ((iK x.1).map kV)):=by
 unfold TupsIn at t;induction t generalizing us with
 |nil=>cases d;exact⟨rfl,λi v e=>by simp at e,λx hx=>nomatch hx⟩
 |@cons v y vs its q t f=>
  cases d with
  |@cons _ u _ us r s=>
   obtain⟨a,b,c⟩:=f s;obtain⟨rfl,q⟩:=q;obtain rfl:u=Value.ref y.2:=r;refine⟨by simp[a],λi v e=>?_,λx hx=>?_⟩
   .cases i with
    |zero=>simp at e;exact⟨y,rfl,e.symm⟩
    |succ i=>exact b i v e
   .rcases T6.mp hx with rfl|hx
    .exact q
    .exact c x hx
section
variable{X:Cx}
def A0(g:X.calm=true)(D:X.A.units+64<cLine):CallR X (.type "set") (λxs H Q=>∃l vs its,xs=[.ref l]/\Rd H l (.lst vs)/\TupsIn H vs its/\vs.length<=300/\
 ∀p es,H p=none->jT (eT X.prog X.w) es its->Q (.ref p) (aO H p (.ext λh=>SetAt X.w h p es))):=by
 intro aa s σ H xs us Q I r h;obtain⟨l,vs,its,rfl,j,m,hz,q⟩:=h;obtain⟨u,rfl,t⟩:=gm r;obtain rfl:u=Value.ref l:=t;obtain⟨_,us,n,d,y⟩:=(show ObjOk X.prog X.w H s.heap l (.lst vs)from j.ok I.aT);obtain⟨g1,g2,g3⟩:=m.get d;have c:=λx z=>dH I.aT (g3 x z);refine sU (ent:=eT X.prog X.w) (I.ok.hd g) y (its:=its) (by grind) (by rw[Ua,<- d.length];exact hz) (λi v e=>g2 i v (by grind)) (N9 c) (Gr (by show X.A.units+1+1+1<cLine;lia) c) λh' tk es f v B=>?_;have C:H s.heap.objs.size=none:=I.aT.fresh (TY _);refine⟨.ref s.heap.objs.size,_,I.laid (a:=s.heap.objs.size) (o:=.ext λh=>SetAt X.w h s.heap.objs.size es) (t':=tk) (λb o e=>B b o (T8 e) e) (TY _) ?_,rfl,q _ es C v⟩;exact⟨f,(let ⟨o,_,_,e,_⟩:=f;⟨o,e⟩),λh1 E hs k=>SetAt.keep hs k⟩
def ud(m:X.calm=true)(t:N<=300)(hs:mJ X.prog X.w N):CallR X (.builtin "sorted") (λxs H Q=>∃p es its,xs=[.ref p]/\H p=some (.ext λh=>SetAt X.w h p es)/\jT (eT X.prog X.w) es its/\(∀x∈its,H x.2=some (.tup ((iK x.1).map kV)))/\(∀x∈its,x.1≠[])/\its.length<=N/\
 ∀l b,H l=none->xJ (λx y=>dL x y=true) its b->Q (.ref l) (aO H l (.lst (b.map λy=>.ref y.2)))):=by
 intro aa s σ H xs us Q I r h;obtain⟨p,es,its,rfl,z,v,B,g,hz,q⟩:=h;obtain⟨u,rfl,C⟩:=gm r;obtain rfl:u=Value.ref p:=C;obtain⟨D,_,_⟩:=(show ObjOk X.prog X.w H s.heap p (.ext λh=>SetAt X.w h p es)from I.aT p _ z);have d:=λx e=>dH I.aT (B x e);refine mK D v (N9 d) (I.ok.hd m) t (lt:=λx y=>dL x y=true) (λA E s a n F P G J j nd hz h=>hs A E s a n F P J ⟨λx e=>pq (d x (j x e)) G,λx e=>g x (j x e),nd⟩ hz h) hz λb h' tk l c so i f k K=>?_;refine⟨.ref l,_,I.laid (a:=l) (o:=.lst (b.map λy=>.ref y.2)) (t':=tk) K f ⟨by rw[TZ,Ux];lia,_,c,?_,k⟩,rfl,q l b (I.aT.fresh f) so⟩;clear so k i;induction b with
 |nil=>exact .nil
 |cons y b L=>exact .cons rfl L
end
end L2
namespace L2
open PySem PySem.Spec PySem.Calls PyProof.Rows ST
section
def Gu(T:rG t es)(sp:lH t)(h:Int)(x:XG):∃j,j∉t.place.toList/\j<=t.mask/\Rea t.mask (·∈ t.place.toList) h j/\layNew t es h x=(SetTable.insertAt es (t.put j).2 (h,x),(t.put j).1,false,false):=by
 have hs:=iQ sp;have pr:=qh T.tb hs (λ_=>h+1) h (Va.st t.mask h);have c:t.probeStart h=st t.mask h:=rfl;generalize l:t.probe (λ_=>h+1) h (st t.mask h)=m at pr;cases pr with
 |ca n i o e q b=>exact absurd q (by lia)
 |em n e b=>
  have f:Rea t.mask (·∈ t.place.toList) h (it t.mask n (st t.mask h)).j:=⟨n,rfl,λk p=>by obtain⟨i,o,q,_⟩:=b k p;show _∈t.place.toList;rw[<- q];simp⟩;have a:(it t.mask n (st t.mask h)).j<=t.mask:=((Va.st t.mask h).it).S4;refine⟨_,e,a,f,?_⟩;obtain⟨r,em,u⟩:=yg T e a (v:=x) f;have s:(t.put (it t.mask n (st t.mask h)).j).2<=es.size:=by rw[pz,<- T.len];exact(dI _ T.tb.xB).1
  have d:(t.put (it t.mask n (st t.mask h)).j).1.place.size<=(t.put (it t.mask n (st t.mask h)).j).1.mask:=by grind [lH]
  have g:=rG.fits r d;unfold layNew SetTable.freeSlot;rw[c,l];dsimp only[Option.getD,Option.isSome];unfold SetTable.orStandIn;rw[T2 g,g];rfl
def A1(d:xK m)(f:SetTable.sizeAbove n=m+1)(c:es.size<=m):∃b t',relayAll t es n=(b,t',false)/\Laid m es b t'/\t'.led=t.led/\t'.plain=t.plain:=by
 obtain⟨t',a,e,L,h1,g,h⟩:=vW d es c t.finger (t.movedTo m) t.led t.plain;refine⟨_,t',?_,L,h1,g⟩;have i:t.relaid (es.map (·.1)) n=some (t',a):=by unfold SetTable.relaid;rw[f];exact e
 unfold relayAll;rw[i];dsimp only;have j:coversAll a es.size=true:=by unfold coversAll;exact List.isPerm_iff.mpr h
 have k:t'.fits (a.filterMap (es[·]?)).size=true:=rG.fits L.xF (by rw[L.xF.len,L.mask,L.size];exact c);rw[j,k];rfl
end
section
variable{prog:XF}{w:World}{A:XH}{E:XG->XD->Prop}{s:XD}
def Gv(N:SetAt w s.heap a es)(el:ElemsOf (intKind prog w) es.toList)(hz:es.size+1<=300)
 (h1:∀tk,s.toks<=tk->(∃e∈es.toList,(intKind prog w).is i e.2=true)->Q false {s with toks:=tk})
 (F:∀tk h' c,s.toks<=tk->(∀e∈es.toList,(intKind prog w).is i e.2=false)->Heap.SameBut a s.heap h'->SetAt w h' a c->o6 es c ((intKind prog w).hash i,.int i t0)->Q true {s with heap:=h',toks:=tk}) :
 wpAny (model prog w) A (setAdd a (.int i t0)) Q E s:=by
 obtain⟨o,ep,t,q,hex,hd,T,sp,r,u⟩:=N;have G:=rG.fits T (iQ sp);have H:=intKind_is prog w i t0;have n:(Value.int i t0).scannable=true:=rfl;unfold setAdd;refine UV ?_;refine KE ((intKind prog w).pyHash (k:=i) H ?_);have f:s.toks<=s.toks+1:=Nat.le_succ _;generalize s.toks+1=tk at f;unfold setAddHashed setAddHashedIn;refine UV (KE (U6 (s:={s with toks:=tk}) q hd G ?_));dsimp only;rw[byScan_of n (by unfold scanBound;lia) el];simp only[Vy];unfold setAddByScan;refine KE ?_;refine KE (W8 ?_);refine KE (wpAny_setScan_of (s:={s with toks:=tk}) H q hd G el ?_);cases I:List.findIdx? (λe=>(intKind prog w).is i e.2) es.toList with
 |some j=>dsimp only;obtain⟨x,y,_⟩:=List.findIdx?_eq_some_iff_getElem.mp I;exact TV (TV (h1 tk f ⟨_,Xv x,y⟩))
 |none=>
  dsimp only;have h:∀e∈es.toList,(intKind prog w).is i e.2=false:=λe O=>by have:=List.findIdx?_eq_none_iff.mp I e O;simpa using this
  obtain⟨j,x,z,P,p⟩:=Gu T sp ((intKind prog w).hash i) (.int i t0);obtain⟨J,em,K⟩:=yg T x z (v:=Value.int i t0) P;have d:(t.put j).1.plain=true:=by rw[mF T.tb];exact r
  have l:(t.put j).1.led=!byT w:=by rw[mF T.tb];exact u
  rw[p];dsimp only;refine KE (show wpAny _ _ (pure ()) _ _ _ from TV ?_);rw[d];simp only[Vy];rw[hashByValue_scannable 8 n];refine KE (TV ?_);rw[show plainKind (Value.int i t0)=true from rfl];simp only[Vy];have R:(t.put j).2<=es.size:=by rw[pz,<- T.len];exact(dI j T.tb.xB).1
  have g:=sS es (t.put j).2 ((intKind prog w).hash i,Value.int i t0) R;refine KE (WO (s:={s with toks:=tk}) q hd ?_ (by rw[g.size,Ux];lia));obtain⟨o1,q1,q2,B⟩:=kX (SetTable.insertAt es (t.put j).2 ((intKind prog w).hash i,Value.int i t0)) (t.put j).1 q hex hd;have M:=UH s.heap a (Obj.putSet (SetTable.insertAt es (t.put j).2 ((intKind prog w).hash i,Value.int i t0)) (t.put j).1);have fill:(t.put j).1.fill=es.size+1:=by unfold SetTable.fill;rw[J.tb.NK,K,T.len];rfl
  by_cases b:(t.put j).1.tooFull=true
  .rw[b];simp only[Bool.not_false,W7,Vy];unfold SetTable.tooFull at b;rw[fill,em]at b;have b:(es.size+1)*5>=t.mask*3:=by simpa using b
   have C:es.size*5<t.mask*3:=by rw[<- T.len];exact sp
   obtain⟨m,S,U,V⟩:=qp T.tb.f9 C b hz;rw[g.size];obtain⟨c,t',D,L,W,X⟩:=A1 (t:=(t.put j).1) (es:=SetTable.insertAt es (t.put j).2 ((intKind prog w).hash i,Value.int i t0)) U S (by rw[g.size];lia);rw[D];dsimp only;refine KE (show wpAny _ _ (pure ()) _ _ _ from TV ?_);refine KE (WO q1 B ?_ (by rw[L.size,g.size,Ux];lia));obtain⟨Y,Z,r2,r3⟩:=kX c t' q1 q2 B;refine TV (TV (F tk _ c f h (M.trans (UH _ a _)) ⟨Y,_,_,Z,r2,r3,L.xF,?_,by rw[X];exact d,by rw[W];exact l⟩ (g.laid L)));unfold lH;rw[L.xF.len,L.mask,L.size,g.size];exact V
  .have b:(t.put j).1.tooFull=false:=by simpa using b
   rw[b];simp only[Xf,Ud,U1];refine TV (TV (F tk _ _ f h M ⟨o1,_,_,q1,q2,B,J,?_,d,l⟩ g));unfold SetTable.tooFull at b;unfold lH;rw[fill]at b;rw[K,T.len];simpa using b
end
section
variable{prog:XF}{w:World}
noncomputable abbrev v8:=Int×Tok
noncomputable abbrev eI(prog:XF)(w:World)(x:v8):Int×XG:=((intKind prog w).hash x.1,.int x.1 x.2)
def isI:(intKind prog w).is k (.int j t)=true↔k=j:=by
 constructor
 .intro h;by_cases e:k=j
  .exact e
  .have a:=intKind_is prog w j t;exact absurd ((intKind prog w).inj _ _ _ h a) e
 .rintro rfl;exact intKind_is prog w k t
def N_:Gq (eI prog w) its:=λx _ y _ e=>by injection e with _ e;injection e
def Gw:zA prog w A hb S (eI prog w) its:=λx xs s es Q E o hs K h v hz h1 i=>by
 refine Gv h (λe c=>?_) hz (λtk t a=>h1 tk t ?_) λtk h' d t b j sa g=>i tk h' d t (λa=>?_) j sa g
 .obtain⟨y,_,rfl⟩:=v.el e c;exact⟨⟨y.1,intKind_is prog w y.1 y.2,rfl⟩,rfl⟩
 .obtain⟨e,c,k⟩:=a;obtain⟨y,f,rfl⟩:=v.el e c;exact⟨y,f,(isI.mp k).symm⟩
 .obtain⟨y,f,l⟩:=a;obtain⟨z,p,m,n⟩:=v.all y f;have:=b _ n;rw[isI.mpr (m.trans l).symm]at this;cases this
end
section
variable{X:Cx}
def Oa(r:Vals (xs.map V.int) us):∃its:List v8,its.map (·.1)=xs/\us=its.map λz=>Value.int z.1 z.2:=by
 induction xs generalizing us with
 |nil=>cases r;exact⟨[],rfl,rfl⟩
 |cons x xs a=>
  cases r with
  |cons q h=>obtain⟨t,rfl⟩:=q;obtain⟨its,rfl,rfl⟩:=a h;exact⟨(x,t)::its,rfl,rfl⟩
def yn(f:X.calm=true):CallR X (.type "set") (λvs H Q=>∃l xs,vs=[.ref l]/\Rd H l (.lst (xs.map V.int))/\xs.length<=300/\∀p es its,H p=none->its.map (·.1)=xs->jT (eI X.prog X.w) es its->Q (.ref p) (aO H p (.ext λh=>SetAt X.w h p es))):=by
 intro aa s σ H vs us Q I r h;obtain⟨l,xs,rfl,g,hz,q⟩:=h;obtain⟨u,rfl,j⟩:=gm r;obtain rfl:u=Value.ref l:=j;obtain⟨_,us,n,m,t⟩:=(show ObjOk X.prog X.w H s.heap l (.lst (xs.map V.int))from g.ok I.aT);obtain⟨its,rfl,rfl⟩:=Oa m;rw[TZ]at hz;refine sU (ent:=eI X.prog X.w) (I.ok.hd f) t (its:=its) (by simp) (by simpa using hz) (λi v e=>?_) N_ Gw λh' tk es c v y=>?_
 .simp only[List.getElem?_toArray,Ui,UT]at e;obtain⟨x,h1,d⟩:=e;exact⟨x,h1,d.symm⟩
 .refine⟨.ref s.heap.objs.size,_,I.laid (a:=s.heap.objs.size) (o:=.ext λh=>SetAt X.w h s.heap.objs.size es) (t':=tk) (λb o e=>y b o (T8 e) e) (TY _) ?_,rfl,q _ es its (I.aT.fresh (TY _)) rfl v⟩;exact⟨c,(let ⟨o,_,_,e,_⟩:=c;⟨o,e⟩),λh1 d hs k=>SetAt.keep hs k⟩
end
noncomputable def j6(a:List v8):List XG:=a.map λz=>Value.int z.1 z.2
section
variable{prog:XF}{w:World}{A:XH}{E:XG->XD->Prop}{s:XD}
theorem v9:∀a:List v8,IntsAre (j6 a) (a.map (·.1))
 |[]=>.nil
 |z::a=>.cons _ _ (v9 a)
def A2{P:PySem.Fin->XD->Prop}(u:s.heap.get? a=some (seqObj "list" (j6 zs).toArray n)) (nd:(zs.map (·.1)).Nodup) (hz:zs.length<=63)
 (h:∀t h' c,t.Perm zs->t.Pairwise (λx y=>x.1<y.1)->h'.get? a=some (seqObj "list" (j6 t).toArray c)->(∀b o,b≠a->s.heap.get? b=some o->h'.get? b=some o)->P (.done (.ret .none)) {s with heap:=h'}) :
 wpAny (model prog w) A (Builtin.«list.sort» ⟨[.ref a],[]⟩) P E s:=by
 have d:(j6 zs).length=zs.length:=by simp[j6]
 have at_:∀k (m:k<zs.length),j5 (0,0) zs k=zs[k]:=λk m=>by simp[j5,m]
 refine v6 (κ:=oneType') (lt:=λi j=>decide ((j5 (0,0) zs i).1<(j5 (0,0) zs j).1)) u (by lia) (λH v B=>⟨λQ q=>?_,⟨λi=>by simp,λi j k=>by grind,λi j g l e=>?_⟩,λi j C g l q=>?_⟩) λp h' c pm so e k=>?_
 .have f:keyKind' (j6 zs).toArray=pure oneType':=by
   match zs,(show 2<=zs.length by lia)with
   |z1::z::r,_=>exact keyKind_ints (v9 (z1::z::r))
  rw[f];exact TV q
 .rw[d]at g l;rw[at_ i g,at_ j l];rcases WF e with q|q
  .have:=Uk.mp nd i j (by grind) (by grind) q;grind
  .have:=Uk.mp nd j i (by grind) (by grind) q;grind
 .rw[d]at g l;unfold kas_ask;have one:∀k (m:k<zs.length),(j6 zs).getD k Value.none=.int zs[k].1 zs[k].2:=λk m=>by simp[j6,m]
  rw[one i g,one j l,keyLt'_oneType];dsimp only at q;rw[at_ i g,at_ j l]at q;exact oneLt_int q
 .rw[d]at pm so;refine h (p.toList.map (j5 (0,0) zs)) h' c (sW _ pm) ((zD (r:=λx y=>decide (x.1<y.1)) pm so).imp λh=>UZ h) ?_ k;rw[e];unfold j6;rw[v5 (0,0) pm]
end
section
variable{X:Cx}
theorem sX:∀a:List v8,Vals (a.map λy=>V.int y.1) (j6 a)
 |[]=>.nil
 |y::a=>.cons ⟨y.2,rfl⟩ (sX a)
def rQ(f:X.calm=true):CallR X (.builtin "sorted") (λvs H Q=>∃p es its,vs=[.ref p]/\H p=some (.ext λh=>SetAt X.w h p es)/\jT (eI X.prog X.w) es its/\its.length<=63/\
 ∀(l:Addr)(ks:List Int),H l=none->(∀k,k∈ks↔k∈its.map (·.1))->ks.Pairwise (·< ·)->Q (.ref l) (aO H l (.lst (ks.map V.int)))):=by
 intro aa s σ H vs us Q I r h;obtain⟨p,es,its,rfl,g,v,hz,q⟩:=h;obtain⟨u,rfl,i⟩:=gm r;obtain rfl:u=Value.ref p:=i;obtain⟨j,_,_⟩:=(show ObjOk X.prog X.w H s.heap p (.ext λh=>SetAt X.w h p es)from I.aT p _ g);refine mK j v N_ (I.ok.hd f) (by decide) (lt:=(·< ·)) (λA E s a n G P _ m _ nd hz h=>A2 m nd hz h) hz λb h' tk l c so t d z e=>?_;have em:(b.map (·.1)).map V.int=b.map λy=>V.int y.1:=by rw[Uo];rfl
 refine⟨.ref l,_,I.laid (a:=l) (o:=.lst ((b.map (·.1)).map V.int)) (t':=tk) e d ?_,rfl,q l (b.map (·.1)) (I.aT.fresh d) (λk=>?_) (V5.mpr so.pw)⟩
 .rw[em];exact⟨by rw[TZ,Ux];lia,j6 b,c,sX b,z⟩
 .constructor
  .intro e;obtain⟨y,B,rfl⟩:=T_.mp e;exact T_.mpr ⟨y,so.sub y B,rfl⟩
  .intro e;obtain⟨x,C,rfl⟩:=T_.mp e;obtain⟨y,D,F⟩:=so.all x C;exact T_.mpr ⟨y,D,F⟩
end
end L2
namespace L2
open PySem PySem.Spec PySem.Calls PyProof.Rows
section
variable{prog:XF}{w:World}{A:XH}{E:XG->XD->Prop}{s:XD}
def KL{k:List br}{dflt:XG}{Q:XG->XD->Prop}(n:A.units<cLine)(l:(tK prog w).is s.heap k a)(t:s.heap.DictOfH (tK prog w) d xs)(hsz:xs.length<=sizeLine)
 (h1:∀p,atKey xs k=some p->Q p.2 {s with toks:=s.toks+(tK prog w).draws k})
 (u:atKey xs k=none->∀h',h'.DictOfH (tK prog w) d (storedH xs k a dflt)->Heap.SameBut d s.heap h'->Q dflt {s with heap:=h',toks:=s.toks+(tK prog w).draws k}):wpAny (model prog w) A (dictSetDefault d (.ref a) dflt) Q E s:=by
 obtain⟨o,es,v,c,z,hd,i,f,m⟩:=t;unfold dictSetDefault
 try with_reducible refine UV ?_
 refine KE ((tK prog w).pyHash n l (KE (wpAny_dictFind_heap (knd:=tK prog w) (s:={s with toks:=s.toks+(tK prog w).draws k}) n l c hd i f m (λg=>?_) λj p q=>?_)))
 .have b:=atKey_none_of_get g;have h:k∉xs.map (·.1):=not_mem_keys_of_get g;refine KE (W8 (KE (wpAny_updateDictKeys (hz:=by have e:=size_of_entries i;lia) (s:={s with toks:=s.toks+(tK prog w).draws k}) c hd (TV (u b _ ⟨_,_,v+1,U3 _ c (Obj.isFreed_of_dict (Wp hd _)),z.mapDictKeys _,Wp hd _,?_,?_,?_⟩ (UH ..))))))
  .rw[storedH_new b];simp[i,entryOfKey]
  .rw[storedH_new b];intro x hx;rcases Ug.mp hx with hx|hx
   .exact(tK prog w).keeps (f x hx) c hd (UH ..)
   .obtain rfl:=Uh.mp hx;exact(tK prog w).keeps l c hd (UH ..)
  .rw[storedH_new b,UO,V4];exact⟨m,by simp,λx hx y r e=>by simp only[T1,VO,Uh]at r;subst r;exact h (e▸hx)⟩
 .refine KE (WS (s:={s with toks:=s.toks+(tK prog w).draws k}) c hd ?_);rw[entry_at i j,q];exact KE (W8 (TV (h1 p (atKey_of_get m q))))
end
section
variable{X:Cx}
def Gx:V->List V->Hp->VK->Prop:=λx xs H Q=>∃a b k y kvs,x=.ref a/\xs=[.ref b,y]/\H b=some (.tup (k.map kV))/\H a=some (.dT kvs)/\kvs.length<sizeLine/\
 ((∃v,c9 kvs k=some v/\Q v H)\/(c9 kvs k=none/\Q y (aO H a (.dT (ce kvs k y)))))
def sY(S:X.A.units+64<cLine):Kt X "dict.setdefault" Gx:=by
 intro aa s σ H x xs v us Q I D rs q;obtain⟨a,b,k,y,kvs,rfl,rfl,l,ha,hz,q⟩:=q;obtain rfl:v=Value.ref a:=D;obtain⟨u1,u2,rfl,g,e⟩:=zi rs;obtain rfl:u1=Value.ref b:=g;obtain⟨E,F,vs,h,m⟩:=II I.aT ha;have G:=dH I.aT l;have n:Shared.TypeIs s (.ref a) "dict":=by obtain⟨o,es,r,J,K,_⟩:=m;exact⟨o,J,K.1⟩
 refine UK US n W4 ?_ (W0 _ _ _);unfold Builtin.«dict.setdefault»;refine KE ?_;unfold Builtin.Dict.keyAndDefault;refine KE (W1 n (show wpAny _ _ (pure (a,Value.ref b,some u2)) _ _ s from TV ?_));show wpAny _ _ (if(a==sysModules)=true then _ else(dictSetDefault a (Value.ref b) u2 >>= _)) _ _ s;rw[T9 (by grind)];have L:vs.length<=sizeLine:=by rw[<- Wi h];exact E
 have f:=h.val k;refine KE (KL (by grind) G m L (λp t=>?_) λi h' j hs=>?_)
 .rcases q with⟨v,d,q⟩|⟨d,q⟩
  .have:RelO (some v) (some p.2):=by rw[<- d];rw[t]at f;exact f
   exact TV ⟨_,rfl,v,H,I.tok _,this,q⟩
  .have:=f.dW;rw[d,t]at this;cases this
 .rcases q with⟨v,d,q⟩|⟨d,q⟩
  .have:=f.dW;rw[d,i]at this;cases this
  .obtain⟨u,es,r,B,M,N,O,_,P⟩:=j;have R:(ce kvs k y).length<=sizeLine:=by have:=fV kvs k y;lia
   have aT:ObjOk X.prog X.w (aO H a (.dT (ce kvs k y))) h' a (.dT (ce kvs k y)):=by refine⟨R,F,_,(h.put k l e).keeps λc T C=>?_,u,es,r,B,M,N,O,P⟩;rw[af (zf C ha (λz=>nomatch z))];exact C
   exact TV ⟨_,rfl,y,_,kU (t':=s.toks+(tK X.prog X.w).draws k) I (by rw[ha];exact True.intro) hs ⟨u,B⟩ aT,e,q⟩
def Di:V->List V->Hp->VK->Prop:=λx xs H Q=>∃a b k y kvs,x=.ref a/\xs=[.ref b,y]/\H b=some (.tup (k.map kV))/\(H a=some (.dT kvs)\/(H a=some (.dK [])/\kvs=[]))/\kvs.length<sizeLine/\
 ((∃v,c9 kvs k=some v/\Q v H)\/(c9 kvs k=none/\Q y (aO H a (.dT (ce kvs k y)))))
def mL(g:X.A.units+64<cLine):Kt X "dict.setdefault" Di:=by
 intro aa s σ H x xs v us Q I i rs q;obtain⟨a,b,k,y,kvs,e1,e2,d,ha,hz,q⟩:=q;rcases ha with ha|⟨ha,rfl⟩
 .exact sY g aa s σ H x xs v us Q I i rs ⟨a,b,k,y,kvs,e1,e2,d,ha,hz,q⟩
 .have e:b≠a:=zf d ha (λz=>nomatch z);refine sY g aa s σ (aO H a (.dT [])) x xs v us Q (I.QX ha) i rs ⟨a,b,k,y,[],e1,e2,by rw[af e];exact d,ag,hz,.inr ?_⟩;rcases q with⟨v,f,q⟩|⟨f,q⟩
  .cases f
  .have:aO (aO H a (.dT [])) a (.dT (ce [] k y))=aO H a (.dT (ce [] k y)):=by
    funext c;by_cases h:c=a
    .subst h;rw[ag,ag]
    .rw[af h,af h,af h]
   exact⟨f,by grind⟩
end
def RawD(h:Heap)(d:Addr)(es:Array DictEntry)(a:Nat):Prop:=∃o,h.get? d=some o/\o.ExactDict/\o.data=.dict es a
section
variable{prog:XF}{w:World}{A:XH}{E:XG->XD->Prop}{s:XD}{d v it:Addr}{es:Array DictEntry}{ep i:Nat}{ok ov:XG}
def RawD.ty(m:RawD s.heap d es ep):s.TypeIs (.ref d) "dict":=let ⟨o,h,c,_⟩:=m;⟨o,h,c.1⟩
def ue(d:Addr)(hd:(d==sysModules)=false) :
 MeetsIn prog w (Builtin.«dict.items» ⟨[.ref d],[]⟩) (λ_ R s=>(∃es ep,RawD s.heap d es ep)/\R (.ok (.ret (.ref s.heap.objs.size))) { s with heap:=s.heap.push { cls:=.type "dict_items",data:=.fields #[.ref d] } }):=
 .of_wp λA R s ⟨⟨es,ep,m⟩,h⟩=>by unfold Builtin.«dict.items» Builtin.Dict.noArgs;refine KE (KE (W1 m.ty (TV ?_)));show wpAny _ _ (Builtin.Dict.showsAll d >>= _) _ _ s;unfold Builtin.Dict.showsAll;rw[T9 (by rw[hd];simp)];exact KE (TV (KE (UL (TV ⟨_,rfl,h⟩))))
def v_(a:s.heap.IsItemsView v d)(m:RawD s.heap d es ep)
 (c:Q (.ref s.heap.objs.size) { s with heap:=s.heap.push { cls:=.type "dict_itemiterator",data:=.fields #[.none,.bool false,.ref d,.int 0 0,.int es.size 0,.int ep 0,.none,.none] } }) :
 wpAny (model prog w) A (pyIter (.ref v)) Q E s:=by
 obtain⟨e,e1,_,e2⟩:=id a;obtain⟨o,b,_,hd⟩:=id m;refine WQ a.typeIs F.slot_dict_items_iter (UK F.slot_dict_items_iter a.typeIs F.entry_dict_items_iter ?_ (F.args_dict_items_iter_1 _));unfold Builtin.«dict_items.__iter__» Builtin.Dict_items.dictOf Builtin.Dict_items.newIterator;refine KE (TV (KE (KE (WL e1 e2 (x:=.ref d) rfl (TV (KE (KE (WS b hd (KE (wpAny_dictEpoch b hd ?_))))))))));simp only[show Builtin.Dict_items.ownsTuple "dict_itemiterator"=true by decide,Vy];refine UL (TV ⟨_,rfl,"dict_itemiterator",_,⟨_,T4 _ rfl,rfl⟩,U5.lookup,?_⟩)
  (by simp only[sizeOk,Builtin.Dict_items.ownedTupleFields,Ua,Um,Ue,Vx,Ux];lia)
 simpa[rawInt,Builtin.Dict_items.ownedTupleFields]using c
def wa(f:A.handled=none)(y:IsItemIter s.heap it d i es.size ep ok ov)(m:RawD s.heap d es ep)(g:es.size<=i)(h:∀h',Heap.ExtBut it s.heap h'->Q none {s with heap:=h'}):wpAny (model prog w) A (pyNext (.ref it)) Q E s:=by
 obtain⟨o,e,_,hd⟩:=id m;have c:s.TypeIs (.ref it) "dict_itemiterator":=⟨_,y,rfl⟩;unfold pyNext;refine KE (wpAny_attempt (Vk (name:=Str.ofString "__next__") c U5 (UK U5 c F.entry_dict_itemiterator_next ?_ (F.args_dict_itemiterator_next_1 _))));refine KE (TV (KE (KE ?_)))
 first|refine KE (VB c (TV ?_))|refine KE (V2 c (TV ?_))
 refine KE (wpAny_fieldsOf y rfl ?_);simp only[show Builtin.Dict_items.ownsTuple "dict_itemiterator"=true by decide,Vy];show wpAny _ _ (if(Value.ref d==Value.none)=true then _ else _) _ _ s;rw[T9 (show ¬((Value.ref d==Value.none)=true)from UM)];refine KE (TV (KE (WS e hd ?_)));rw[T9 (by simp)];refine KE (TV (KE (wpAny_dictEpoch e hd ?_)));rw[T9 (by simp)];refine TV ?_;simp only[show ¬((i:Int)<0)from by lia,U1,WK,Array.getElem?_eq_none g];refine KE ?_
 first|refine KE (VB c (TV ?_))|refine KE (V2 c (TV ?_))
 show wpAny _ _ (setField (.ref it) 2 .none >>= _) _ _ s;refine KE (Xg y rfl (by simp) ?_);show wpAny _ _ (newExc (.type "StopIteration") [] >>= _) _ _ _;refine KE ?_;simp only[newExc,newTuple];refine KE (UL ?_ (by size_fits));refine KE (m:=firstArgMember _ _) (wpAny_of_eq (a:=Value.none) (by first|rfl|(simp only[firstArgMember];rfl)) ?_);refine UL ?_ (by size_fits);simp only[raiseNew];refine KE (wpAny_handled ?_);rw[show A.in1.handled=none from f];refine KE (TV (wpAny_throw ?_));refine KE (wpAny_isInstance (T:="StopIteration") (b:=true) ⟨_,T4 _ rfl,rfl⟩ isSubtype_stop ?_);exact TV (h _ (((UH ..).extBut.push _).push _))
def yo(y:IsItemIter s.heap it d i es.size ep ok ov)(m:RawD s.heap d es ep)(L:es[i]?=some e)
 (M:∀h',IsItemIterOut h' it d (i+1) es.size ep e.key e.val s.heap.objs.size->h'.get? s.heap.objs.size=some { cls:=.type "tuple",data:=.seq #[e.key,e.val] }->
   (∀b o,b≠it->s.heap.get? b=some o->h'.get? b=some o)->Q (some (.ref s.heap.objs.size)) {s with heap:=h'}):wpAny (model prog w) A (pyNext (.ref it)) Q E s:=by
 obtain⟨a,g,h,tk,os⟩:=s;obtain⟨o,H,_,hd⟩:=id m;have c:Shared.TypeIs ⟨a,g,h,tk,os⟩ (.ref it) "dict_itemiterator":=⟨_,y,rfl⟩;have p:a.objs.size≠it:=WA (T8 y);unfold pyNext;refine KE (wpAny_attempt (Vk (name:=Str.ofString "__next__") c U5 (UK U5 c F.entry_dict_itemiterator_next ?_ (F.args_dict_itemiterator_next_1 _))));refine KE (TV (KE (KE ?_)))
 first|refine KE (VB c (TV ?_))|refine KE (V2 c (TV ?_))
 refine KE (wpAny_fieldsOf y rfl ?_);simp only[show Builtin.Dict_items.ownsTuple "dict_itemiterator"=true by decide,Vy];show wpAny _ _ (if(Value.ref d==Value.none)=true then _ else _) _ _ _;rw[T9 (show ¬((Value.ref d==Value.none)=true)from UM)];refine KE (TV (KE (WS H hd ?_)));rw[T9 (by simp)];refine KE (TV (KE (wpAny_dictEpoch H hd ?_)));rw[T9 (by simp)];refine TV ?_;simp only[show ¬((i:Int)<0)from by lia,U1,WK,L];refine KE ?_
 first|refine KE (VB c (TV ?_))|refine KE (V2 c (TV ?_))
 refine KE (WJ c ?_);show wpAny _ _ (setField (.ref it) 3 (rawInt ((i:Int)+1)) >>= _) _ _ ⟨a,g,h,tk,os⟩;refine KE (We y (by simp) λh1 j s1=>?_);replace s1:Heap.SameBut it a h1:=s1;replace j:IsItemIter h1 it d (i+1) es.size ep ok ov:=by
  have q:((i+1:Nat):Int)=(i:Int)+1:=by lia
  unfold IsItemIter;rw[q];simpa[rawInt]using j
 have f:Shared.TypeIs ⟨h1,g,h,tk,os⟩ (.ref it) "dict_itemiterator":=⟨_,j,rfl⟩;refine KE (UV (KE (WJ f (KE (WJ f ?_)))));show wpAny _ _ (Builtin.Dict_items.pairFromOwner (.ref it) 6 e.key e.val) _ _ ⟨h1,g,h,tk,os⟩;unfold Builtin.Dict_items.pairFromOwner;refine KE (wpAny_newTuple ?_);have k:IsItemIter (h1.push { cls:=.type "tuple",data:=.seq #[e.key,e.val] }) it d (i+1) es.size ep ok ov:=RW _ j;have I:(h1.push { cls:=.type "tuple",data:=.seq #[e.key,e.val] }).get? a.objs.size=some { cls:=.type "tuple",data:=.seq #[e.key,e.val] }:=by rw[<- s1.1];exact T4 _ rfl
 have k2:∀b o,b≠it->a.get? b=some o->(h1.push { cls:=.type "tuple",data:=.seq #[e.key,e.val] }).get? b=some o:=λb o n q=>RW _ (s1.extBut b o n q);have J:h1.objs.size=a.objs.size:=s1.1;generalize h1.push { cls:=.type "tuple",data:=.seq #[e.key,e.val] }=r at k I k2;show wpAny _ _ (Builtin.Dict_items.ownedTupleIsFree (.ref it) >>= _) _ _ ⟨r,g,h,tk,os⟩;rw[J];clear j s1 f J h1;refine KE ?_;unfold Builtin.Dict_items.ownedTupleIsFree;refine KE (WL k rfl (x:=.none) rfl (TV ?_));simp only[Vy];refine KE (WL k rfl (x:=ok) rfl (KE (WL k rfl (x:=ov) rfl ?_)));refine KE (We k (by simp) λt u N=>?_);replace u:IsItemIter t it d (i+1) es.size ep e.key ov:=u;refine KE (We u (by simp) λz B O=>?_);replace B:IsItemIter z it d (i+1) es.size ep e.key e.val:=B;refine KE (We B (by simp) λC D P=>?_);replace D:IsItemIterOut C it d (i+1) es.size ep e.key e.val a.objs.size:=D;refine KE (We D (by simp) λl G R=>?_);replace G:IsItemIterOut l it d (i+1) es.size ep e.key e.val a.objs.size:=G;have K:∀b o,b≠it->r.get? b=some o->l.get? b=some o:=λb o n q=>Wx (show Heap.SameBut it C l from R) b o n (Wx (show Heap.SameBut it z C from P) b o n (Wx (show Heap.SameBut it t z from O) b o n (Wx (show Heap.SameBut it r t from N) b o n q)));exact KE (Xp (TV (TV ⟨_,rfl,TV (M l G (K _ _ p I) λb o n q=>K b o n (k2 b o n q))⟩)))
end
def yp{P:XF}{w:World}{K:XE}{es:List Expr}{k0:Nat}{pos:Pos}(hex:o.ExactDict)(hdat:o.data=.dict en ep)(hgo:∀i H,J.go i H->H d=some (.ba o u))(hst:∀i H,J.stop i H->H d=some (.ba o u)/\en.size<=i)
 (hent:∀H h,HOk P w H h->∀i,J.go i H->∃e y v,en[i]?=some e/\RelV y e.key/\RelV v e.val/\∀p,H p=none->J.FI i H (.ref p) (aO H p (.tup [y,v]))) :
 Turn P w K (.Tuple es k0 pos) J [it] it (λi h=>∃ok ov,IsItemIter h it d i en.size ep ok ov) where
 mem:=by simp
 obj:=λi h st b hb=>by
  have e:b=it:=by simpa using hb
  subst e;obtain⟨ok,ov,e⟩:=st;exact⟨_,e,λv z=>by cases z⟩
 keep:=λi h h' st k=>by obtain⟨ok,ov,e⟩:=st;exact⟨ok,ov,k it (by simp) _ e⟩
 item:=by
  intro X hP hw hK hc i aa s σ H E I hf st hg;subst hP hw hK;have hd:=hgo i H hg;obtain⟨ok,ov,st⟩:=st;obtain⟨eo,_⟩:=(show ObjOk X.prog X.w H s.heap d (.ba o u)from I.aT d _ hd);obtain⟨e,y,v,he,ry,rv,hy⟩:=hent H s.heap I.aT i hg;have fi:=hf it (by simp);refine yo st ⟨o,eo,hex,hdat⟩ he λh' hout hT kp=>?_;refine⟨_,rfl,wpAny_letOwnedTupleGo_items hout λh'' hit'' hs''=>?_⟩;have keep2:∀b o,b≠it->s.heap.get? b=some o->h''.get? b=some o:=λb o n1 q=>(hs''.2 b n1).trans (kp b o n1 q);have hTe:s.heap.objs.size≠it:=WA (T8 st);have hT'':h''.get? s.heap.objs.size=some { cls:=.type "tuple",data:=.seq #[e.key,e.val] }:=(hs''.2 _ hTe).trans hT;have fr:=I.aT.fresh (TY _);have I1:Inv X aa σ (aO H s.heap.objs.size (.tup [y,v])) {s with heap:=h''}:=by
   refine I.step (g':=s.gens) (d':=s.drawn) (ch:=[it]) (λb hb=>?_) (λb o _ _ hn q _=>keep2 b o (λz=>hn (by simp[z])) q)
    (λb o _ _ hn q _=>⟨o.slots,keep2 b o (λz=>hn (by simp[z])) q⟩) (λb o _ q hH=>by rw[af (Ul (T8 q))];exact hH)
    (λb o hn q=>⟨o,keep2 b o (λz=>hn (by simp[z])) q⟩) (λb ys q=>by rw[af (ao q fr)];exact q)
    (λb o' u' q=>by rw[af (ao q fr)];exact q) (λb ps q=>⟨#[],by rw[af (ao q fr)];simp[q]⟩) (λm hm=>?_) (λb u' q=>?_) I.bare
   .have:b=it:=by simpa using hb
    subst this;exact⟨fi.2.2.2.1,fi.2.1,fi.2.2.2.2.1,fi.2.2.2.2.2⟩
   .obtain⟨o,es',ep,ho',r⟩:=hm;exact⟨o,es',ep,keep2 _ o (Vc fi.2.1) ho',r⟩
   .by_cases hb:b=s.heap.objs.size
    .subst hb;rw[ag]at q;cases q;exact⟨by show 2<=sizeLine;decide,[e.key,e.val],.cons ry (.cons rv .nil),⟨_,hT'',rfl,0,rfl⟩⟩
    .rw[af hb]at q;refine(I.aT b u' q).stay (λc v hc' q'=>keep2 c v ?_ q') (λc r=>by rw[af (ao r fr)];exact r) λc ys r=>by rw[af (ao r fr)];exact r
     rcases hc' with z|z
     .rw[z];exact ao q fi.1
     .exact ao z fi.1
  refine⟨.ref s.heap.objs.size,_,I1,rfl,hy _ fr,⟨_,_,hit''⟩,λb hb=>?_⟩;have:b=it:=by simpa using hb
  subst this;rw[af (Ul (T8 st))];exact fi.1
 done:=by intro X hP hw hK hc i aa s σ H E I hf st hg;subst hP hw hK;obtain⟨hd,hi⟩:=hst i H hg;obtain⟨ok,ov,st⟩:=st;obtain⟨eo,_⟩:=(show ObjOk X.prog X.w H s.heap d (.ba o u)from I.aT d _ hd);obtain⟨f0,f1,f2,f3,f4,f5⟩:=hf it (by simp);exact wa (I.ok.hd hc) st ⟨o,eo,hex,hdat⟩ (by lia) λh' eb=>⟨rfl,I.turned (t':=s.toks) (λb o hb e=>eb b o hb e) f0 f1 f3 f4 f5⟩
 self:=λA i s Q E st h=>by obtain⟨ok,ov,st⟩:=st;have hT:s.TypeIs (.ref it) "dict_itemiterator":=⟨_,st,rfl⟩;refine WQ hT F.slot_dict_itemiterator_iter (UK F.slot_dict_itemiterator_iter hT (entryFor_alias (id':="dict_keyiterator.__iter__") (by kernel_rfl) rfl (by decide +kernel) (by kernel_rfl):entryFor table "dict_itemiterator.__iter__"=some Builtin.«dict_keyiterator.__iter__») ?_ (F.args_dict_itemiterator_iter_1 _));show wpAny _ _ (ret (.ref it)) _ _ s;exact TV ⟨_,rfl,"dict_itemiterator",_,hT,U5.lookup,h⟩
section
variable{X:Cx}{aa:List (Addr×Obj)}{σ:St}{s1:XD}{H2:Hp}{d:Addr}{o:Obj}{u:HO}{J:It}{en:Array DictEntry}{ep:Nat}{es:List Expr}{k0:Nat}{rC cpos:Pos}
def sZ{R:It->Hp->Prop}(s:Inv X aa σ H2 s1)(e2:H2 d=some (.ba o u))(hd:(d==sysModules)=false)(hex:o.ExactDict)(c:o.data=.dict en ep)(n:∀i H,J.go i H->H d=some (.ba o u))(q:∀i H,J.stop i H->H d=some (.ba o u)/\en.size<=i)
 (f:∀H h,HOk X.prog X.w H h->∀i,J.go i H->∃e y v,en[i]?=some e/\RelV y e.key/\RelV v e.val/\∀p,H p=none->J.FI i H (.ref p) (aO H p (.tup [y,v]))) (q2:R J H2) :
 MethodOn X.prog X.w X.A "items" cpos (.ref d) [] (λv s1=>wX X (pyIter v) (NR X aa σ (.Tuple es k0 rC) R) X.xe s1) X.xe s1:=by
 obtain⟨l,_⟩:=(show ObjOk X.prog X.w H2 s1.heap d (.ba o u)from s.aT d _ e2);have g:s1.TypeIs (.ref d) "dict":=⟨o,l,hex.1⟩;have j:∀a,Value.ref d=.ref a->∃t,s1.heap.get? a=some t/\t.dict=none:=λa e=>by cases e;exact⟨o,l,hex.2.1⟩
 refine⟨"dict","dict.items",Uy,PySem.F.slot_dict_items,PySem.F.type_dict_items,g,j,U7 rfl (PySem.evalArgs_none ?_)⟩;refine VP PySem.F.slot_dict_items g PySem.F.entry_dict_items (PySem.F.args_dict_items_1 _) (ue d hd) ⟨⟨en,ep,o,l,hex,c⟩,?_⟩;have m:Inv X aa σ H2 { s1 with heap:=s1.heap.push { cls:=.type "dict_items",data:=.fields #[.ref d] } }:=s.kept (t':=s1.toks) λb o e=>RW _ e;have x:({ s1 with heap:=s1.heap.push { cls:=.type "dict_items",data:=.fields #[.ref d] } }:XD).heap.get? d=some o:=RW _ l;generalize r:({ s1 with heap:=s1.heap.push { cls:=.type "dict_items",data:=.fields #[.ref d] } }:XD)=k at m x;have z:k.heap.IsItemsView s1.heap.objs.size d:=by rw[<- r];exact⟨_,T4 _ rfl,rfl,rfl⟩
 show wpAny _ _ (pyIter (.ref s1.heap.objs.size)) _ _ _;refine v_ z ⟨o,x,hex,c⟩ ?_;refine⟨k.heap.objs.size,[k.heap.objs.size],_,_,H2,rfl,m.kept (t':=k.toks) λb o e=>RW _ e,yp hex c n q f,⟨_,_,T4 _ rfl⟩,λb B=>?_,q2⟩;have e:b=k.heap.objs.size:=by simpa using B
 subst e;exact m.sC (TY _) (m.aT.fresh (TY _))
end
def Ob(d:Addr)(o:Obj)(u:HO)(kvs:List (br×V)):It:=⟨λi H=>H d=some (.ba o u)/\i<kvs.length,λi H x H'=>∃p k v,H p=none/\x=.ref p/\H'=aO H p (.tup [kV k,v])/\kvs[i]?=some (k,v),λi H=>H d=some (.ba o u)/\kvs.length<=i⟩
theorem KV.at(r:KV a b):∀(i:Nat) p q,a[i]?=some p->b[i]?=some q->p.1=q.1/\RelV p.2 q.2:=by
 induction r with
 |nil=>intro i p q e;simp at e
 |cons c t d=>
  intro i p q e1 e2;cases i with
  |zero=>simp at e1 e2;subst e1 e2;exact c
  |succ i=>exact d i p q (by simpa using e1) (by simpa using e2)
def Dj(r:KV a b)(q:Pairs (aF P w) l b):l.length=a.length/\∀(i:Nat) p,a[i]?=some p->∃e,l[i]?=some e/\RelV (kV p.1) e.key/\RelV p.2 e.val:=by
 unfold KV at r;induction r generalizing l with
 |nil=>cases q;exact⟨rfl,λi p e=>by simp at e⟩
 |cons h _ c=>
  cases q with
  |cons h1 d q=>
   obtain⟨a,b⟩:=c q;refine⟨by simp[a],λi p e=>?_⟩;cases i with
   |zero=>simp only[List.getElem?_cons_zero,Xl]at e;subst e;exact⟨_,rfl,by rw[h.1];exact Gg h1,by rw[d];exact h.2⟩
   |succ i=>exact b i p e
section
variable{X:Cx}{es:List Expr}{k0:Nat}{rC:Pos}
def RE(X:Cx)(b:TE):TI:=λσ H R=>b σ H λx a=>∃d kvs u,x=.ref d/\(u=.dK kvs\/(u=.dT []/\kvs=[]))/\((∃o,a d=some (.ba o u)/\R (Ob d o u kvs) a)\/(a d=some u/\∀o,(∀c v,X.H₀ d≠some (.ba c v))->R (Ob d o u kvs) (aO a d (.ba o u))))
def Dk(L:PE X l tl)(f:autoParam (attributeBase l "items" X.env (eval l X.env)=eval l X.env) aM) (j:autoParam ((apos.endLine==cpos.line)=true) aM):PI X (.Tuple es k0 rC) (.Call (.Attribute l "items" apos) [] [] cpos) (RE X tl):=by
 intro aa s σ H R I h;refine WE f j (bP (L aa s σ H _ I h) λv s1 ⟨x,z,k,M,q1⟩=>?_);obtain⟨d,kvs,u,e,B,q⟩:=q1;subst e;cases M;have F:iJ u:=by rcases B with rfl|⟨rfl,_⟩<;>exact True.intro
 have m:∀(o:Obj)(n:Hp),Inv X aa σ n s1->n d=some (.ba o u)->R (Ob d o u kvs) n->MethodOn X.prog X.w X.A "items" cpos (.ref d) [] (λv s1=>wX X (pyIter v) (NR X aa σ (.Tuple es k0 rC) R) X.xe s1) X.xe s1:=λo n C e2 q2=>by
  obtain⟨G,D⟩:=(show ObjOk X.prog X.w n s1.heap d (.ba o u)from C.aT d _ e2);have key:∀{H h},HOk X.prog X.w H h->H d=some (.ba o u)->(d==sysModules)=false/\∃en y vs,o.ExactDict/\o.data=.dict en y/\KV kvs vs/\Pairs (aF X.prog X.w) en.toList vs:=λ{H h} ok e=>by
   obtain⟨G,D⟩:=(show ObjOk X.prog X.w H h d (.ba o u)from ok d _ e);have key:(d==sysModules)=false/\∃vs,KV kvs vs/\h.DictOf (aF X.prog X.w) d vs:=by
    rcases B with rfl|⟨rfl,rfl⟩
    .exact D.2
    .obtain⟨hd,dd⟩:=lX D;exact⟨hd,[],.nil,dd⟩
   obtain⟨hd,vs,b,Q,en,y,r,hex,a,_,c,_⟩:=key;rw[G]at r;cases r;exact⟨hd,en,y,vs,hex,a,b,c⟩
  obtain⟨hd,en,y,vs,hex,a,b,c⟩:=key C.aT e2;refine sZ (J:=Ob d o u kvs) C e2 hd hex a (λi H h=>h.1) (λi H h=>⟨h.1,?_⟩) (λH h ok i g=>?_) q2
  .rw[<- UR,(Dj b c).1];exact h.2
  .obtain⟨_,g⟩ : _/\i<kvs.length:=g;have K:kvs[i]?=some kvs[i]:=by simp[g]
   obtain⟨e,h1,N,O⟩:=(Dj b c).2 i _ K;exact⟨e,kV kvs[i].1,kvs[i].2,by rw[<- Ut];exact h1,N,O,λp P=>⟨p,_,_,P,rfl,rfl,K⟩⟩
 rcases q with⟨o,e1,q⟩|⟨e1,q⟩
 .exact m o z k e1 q
 .have E:∃o,s1.heap.get? d=some o:=by
   rcases B with rfl|⟨rfl,_⟩
   .obtain⟨_,_,_,_,o,_,_,t,_⟩:=(show ObjOk X.prog X.w z s1.heap d (.dK kvs)from k.aT d _ e1);exact⟨o,t⟩
   .obtain⟨_,_,_,_,o,_,_,t,_⟩:=(show ObjOk X.prog X.w z s1.heap d (.dT [])from k.aT d _ e1);exact⟨o,t⟩
  obtain⟨o,t⟩:=E;exact m o _ (k.ba e1 F t) ag (q o (k.JD e1 F))
end
def Oc(d:Addr)(o:Obj)(u:HO)(kvs:List (List br×V)):It:=⟨λi H=>H d=some (.ba o u)/\i<kvs.length,λi H x H'=>∃p b k v,H p=none/\x=.ref p/\H b=some (.tup (k.map kV))/\H'=aO H p (.tup [.ref b,v])/\kvs[i]?=some (k,v),λi H=>H d=some (.ba o u)/\kvs.length<=i⟩
theorem KT.at(r:KT H a b):∀(i:Nat) p q,a[i]?=some p->b[i]?=some q->p.1=q.1/\H q.2.1=some (.tup (p.1.map kV))/\RelV p.2 q.2.2:=by
 induction r with
 |nil=>intro i p q e;simp at e
 |cons c t d=>
  intro i p q e1 e2;cases i with
  |zero=>simp at e1 e2;subst e1 e2;exact c
  |succ i=>exact d i p q (by simpa using e1) (by simpa using e2)
section
variable{X:Cx}{es:List Expr}{k0:Nat}{rC:Pos}
def Od(X:Cx)(b:TE):TI:=λσ H R=>b σ H λx a=>∃d kvs u,x=.ref d/\(u=.dT kvs\/(u=.dK []/\kvs=[]))/\((∃o,a d=some (.ba o u)/\R (Oc d o u kvs) a)\/(a d=some u/\∀o,(∀c v,X.H₀ d≠some (.ba c v))->R (Oc d o u kvs) (aO a d (.ba o u))))
def A3(F:PE X l tl)(m:autoParam (attributeBase l "items" X.env (eval l X.env)=eval l X.env) aM) (n:autoParam ((apos.endLine==cpos.line)=true) aM):PI X (.Tuple es k0 rC) (.Call (.Attribute l "items" apos) [] [] cpos) (Od X tl):=by
 intro aa s σ H R I h;refine WE m n (bP (F aa s σ H _ I h) λv s1 ⟨x,G,t,T,q1⟩=>?_);obtain⟨d,kvs,u,e,K,q⟩:=q1;subst e;cases T;have P:iJ u:=by rcases K with rfl|⟨rfl,_⟩<;>exact True.intro
 have y:∀(o:Obj)(z:Hp),Inv X aa σ z s1->z d=some (.ba o u)->R (Oc d o u kvs) z->MethodOn X.prog X.w X.A "items" cpos (.ref d) [] (λv s1=>wX X (pyIter v) (NR X aa σ (.Tuple es k0 rC) R) X.xe s1) X.xe s1:=λo z L e2 q2=>by
  obtain⟨M,_⟩:=(show ObjOk X.prog X.w z s1.heap d (.ba o u)from L.aT d _ e2);have key:∀{H h},HOk X.prog X.w H h->H d=some (.ba o u)->(d==sysModules)=false/\∃(en:Array DictEntry)(r:Nat),o.ExactDict/\o.data=.dict en r/\en.size=kvs.length/\∀(i:Nat) p,kvs[i]?=some p->∃e b,en[i]?=some e/\e.key=.ref b/\H b=some (.tup (p.1.map kV))/\RelV p.2 e.val:=λ{H h} ok e=>by
   obtain⟨M,N⟩:=(show ObjOk X.prog X.w H h d (.ba o u)from ok d _ e);rcases K with rfl|⟨rfl,rfl⟩
   .obtain⟨_,hd,xs,c,U,en,r,j,hex,a,B,_,_⟩:=mD ok (.inr ⟨o,e⟩);rw[M]at j;cases j;refine⟨hd,en,r,hex,a,by rw[size_of_entries B,Wi c],λi p E=>?_⟩;have F:i<xs.length:=by rw[<- Wi c];exact(T7.mp E).1
    have N:xs[i]?=some xs[i]:=by simp[F]
    obtain⟨_,V,W⟩:=c.at i _ _ E N;exact⟨_,_,by rw[entry_at B,N];rfl,rfl,V,W⟩
   .obtain⟨_,hd,vs,c,U,en,r,j,hex,a,_,C,_⟩:=lF ok (.inr ⟨o,e⟩);rw[M]at j;cases j;cases c;cases Q:en.toList with
    |nil=>exact⟨hd,en,r,hex,a,by rw[<- UR,Q];rfl,λi p e=>by simp at e⟩
    |cons _ _=>rw[Q]at C;cases C
  obtain⟨hd,en,r,hex,a,Y,_⟩:=key L.aT e2;refine sZ (J:=Oc d o u kvs) L e2 hd hex a (λi H h=>h.1) (λi H h=>⟨h.1,by rw[Y];exact h.2⟩) (λH h ok i g=>?_) q2;obtain⟨_,Z,ep',_,k,_,f⟩:=key ok g.1;rw[a]at k;cases k;obtain⟨_,g⟩ : _/\i<kvs.length:=g;have S:kvs[i]?=some kvs[i]:=by simp[g]
  obtain⟨e,b,h1,h2,h3,h4⟩:=f i _ S;exact⟨e,.ref b,kvs[i].2,h1,h2,h4,λp E=>⟨p,b,_,_,E,rfl,h3,rfl,S⟩⟩
 rcases q with⟨o,e1,q⟩|⟨e1,q⟩
 .exact y o G t e1 q
 .have O:∃o,s1.heap.get? d=some o:=by
   rcases K with rfl|⟨rfl,_⟩
   .obtain⟨_,_,_,_,o,_,_,D,_⟩:=(show ObjOk X.prog X.w G s1.heap d (.dT kvs)from t.aT d _ e1);exact⟨o,D⟩
   .obtain⟨_,_,_,_,o,_,_,D,_⟩:=(show ObjOk X.prog X.w G s1.heap d (.dK [])from t.aT d _ e1);exact⟨o,D⟩
  obtain⟨o,D⟩:=O;exact y o _ (t.ba e1 P D) ag (q o (t.JD e1 P))
end
section
variable{X:Cx}
theorem zF:∀{vs:List V}{its:List XG},vs.length=its.length->(∀(i:Nat) v u,vs[i]?=some v->its[i]?=some u->RelV v u)->Vals vs its
 |[],[],_,_=>.nil
 |[],_::_,e,_=>by cases e
 |_::_,[],e,_=>by cases e
 |v::vs,u::its,e,f=>.cons (f 0 v u rfl rfl) (zF (by simpa using e) λi w z a b=>f (i+1) w z (by simpa using a) (by simpa using b))
def Gy(ta:TA):TE:=λσ H Q=>ta σ H λvs a=>∃j:Int,vs=[.int j]/\0<=j/\j<=1000/\∀l,a l=none->Q (.ref l) (aO a l (.lst ((List.range j.toNat).map λk=>.int (k:Nat))))
def A4(A:X.calm=true)(g:Gl X "list") (l:X.mg "list"=none) (m:bootBuiltins "list"=some (.type "list")) (B:Gl X "range") (C:X.mg "range"=none) (ha:PA X [a] ta) (hs:autoParam (starEach [a] X.env=[(false,eval a X.env)]) aM)
 (d:autoParam (starEach [.Call (.Name "range" p2) [a] [] pos2] X.env=[(false,eval (.Call (.Name "range" p2) [a] [] pos2) X.env)]) aM):PE X (.Call (.Name "list" p) [.Call (.Name "range" p2) [a] [] pos2] [] pos) (Gy ta):=by
 intro aa s σ H Q I h;refine Call_ (jU I g l m (Vj ?_ d rfl));rw[d];show wpAny _ _ (spliced ((false,eval (.Call (.Name "range" p2) [a] [] pos2) X.env)::[])) _ _ s;refine Vd (Call_ (jU I B C boot_range (Vj (bP (ha pos2 aa s σ H _ I h) λus s1 ⟨vs,D,E,F,q1⟩=>?_) hs rfl)));obtain⟨j,e,N,O,q⟩:=q1;subst e;cases F with
 |cons r G=>
  cases G;obtain⟨t,rfl⟩:=r;refine call_range_1 (VR ?_);have f:Inv X aa σ D { s1 with heap:=s1.heap.push { cls:=.type "range",data:=.fields #[.int 0 s1.toks,.int j t,.int 1 (s1.toks+1)] },toks:=s1.toks+1+1 }:=E.kept λb o e=>RW _ e;have u:IsRange ({ s1 with heap:=s1.heap.push { cls:=.type "range",data:=.fields #[.int 0 s1.toks,.int j t,.int 1 (s1.toks+1)] },toks:=s1.toks+1+1 }:XD).heap s1.heap.objs.size 0 j 1 s1.toks t (s1.toks+1):=T4 _ rfl;generalize({ s1 with heap:=s1.heap.push { cls:=.type "range",data:=.fields #[.int 0 s1.toks,.int j t,.int 1 (s1.toks+1)] },toks:=s1.toks+1+1 }:XD)=s2 at f u;have J:Builtin.Range.rangeSize 0 j 1=(j.toNat:Nat):=by rw[rangeSize_one];split<;>lia
  refine call_list_range (f.ok.hd A) u (small_one (by lia) (by lia) (by lia) (by lia)) J (by lia) λh' tk c x kp e it=>?_;obtain⟨y,K⟩:=it;have L:Vals ((List.range j.toNat).map λk=>.int (k:Nat)) c.toList:=by
   refine zF (by rw[TZ,WT,UR,y]) λi v w n z=>?_;obtain⟨t',rfl⟩:=K i w (by rw[<- Ut];exact z);rw[Ui]at n;have M:i<j.toNat:=by have:=(T7.mp z).1;rw[UR,y]at this;exact this
   rw[List.getElem?_range M]at n;cases n;exact⟨t',by congr 1;lia⟩
  have e:h'.get? s2.heap.objs.size=some { cls:=.type "list",dict:=none,data:=.seq c.toList.toArray x,slots:=#[] }:=by rw[Array.toArray_toList];exact e
  exact⟨.ref s2.heap.objs.size,_,f.laid (t':=tk) kp (TY _) (show ObjOk X.prog X.w _ h' _ (.lst ((List.range j.toNat).map λk=>.int (k:Nat)))from⟨by rw[TZ,WT,Ux];lia,c.toList,x,L,e⟩),rfl,q _ (f.aT.fresh (TY _))⟩
end
noncomputable def uf:List Int->Int
 |[]=>0
 |x::r=>r.foldl (λa b=>if b<a then b else a) x
def A5(h:l≠[])(z:Int):uf (l++[z])=if z<uf l then z else uf l:=by
 cases l with
 |nil=>exact(h rfl).elim
 |cons x r=>show(r++[z]).foldl _ x=_;rw[Vt];rfl
theorem iS(xs:Array (Int×Tok)):∀k,k<xs.size->numAt xs (argBest (λi j=>decide (numAt xs i<numAt xs j)) k)=uf ((xs.toList.map (·.1)).take (k+1))
 |0,h=>by
  have e:xs.toList.map (·.1)≠[]:=λz=>by have:=VD List.length z;simp at this;rw[this]at h;simp at h
  cases q:xs.toList.map (·.1)with
  |nil=>exact(e q).elim
  |cons y r=>
   have:(xs[0]?.map (·.1))=some y:=by rw[<- Ut,<- Ui,q];rfl
   show numAt xs 0=y;unfold numAt;rw[this];rfl
 |k+1,h=>by
  have b:=iS xs k (by lia);have c:(xs.toList.map (·.1))[k+1]?=some (numAt xs (k+1)):=by rw[Ui,Ut];unfold numAt;rw[Array.getElem?_eq_getElem h];rfl
  have d:(xs.toList.map (·.1)).take (k+1+1)=(xs.toList.map (·.1)).take (k+1)++[numAt xs (k+1)]:=by rw[List.take_succ,c];rfl
  have ne:(xs.toList.map (·.1)).take (k+1)≠[]:=λz=>by have f:=VD List.length z;rw[VF,TZ,UR,Vx]at f;lia
  rw[d,A5 ne,<- b];show numAt xs (if(decide (numAt xs (k+1)<numAt xs (argBest _ k)))=true then k+1 else argBest _ k)=_;by_cases a:numAt xs (k+1)<numAt xs (argBest (λi j=>decide (numAt xs i<numAt xs j)) k)
  .rw[T2 (Uj a),T2 a]
  .rw[T9 (by simpa using a),T9 a]
theorem qy:∀{ns:List Int}{its:List XG},Vals (ns.map V.int) its->∃ps:List (Int×Tok),its=ps.map (λp=>.int p.1 p.2)/\ps.map (·.1)=ns
 |[],_,h=>by cases h;exact⟨[],rfl,rfl⟩
 |n::ns,_,h=>by
  cases h with
  |cons r a=>obtain⟨t,rfl⟩:=r;obtain⟨ps,rfl,e⟩:=qy a;exact⟨(n,t)::ps,rfl,by rw[T1,e]⟩
def A6(c:X.calm=true):CallR X (.builtin "min") (λxs H Q=>∃p ns,xs=[.ref p]/\SqL X.K H p (ns.map V.int)/\ns≠[]/\Q (.int (uf ns)) H):=by
 intro aa s σ H xs us Q I r h;obtain⟨p,ns,rfl,d,b,q⟩:=h;obtain⟨u,rfl,f⟩:=gm r;cases f;obtain⟨its,g,pl,hz⟩:=I.list d;obtain⟨ps,rfl,e⟩:=qy g;have i:s.heap.IsList p (intItems ps.toArray):=by
  have:intItems ps.toArray=(ps.map (λp=>Value.int p.1 p.2)).toArray:=by simp[intItems]
  rw[this];exact pl.isList
 have a:0<ps.toArray.size:=by
  cases ps with
  |nil=>exact(b e.symm).elim
  |cons _ _=>simp
 refine min_intList (I.ok.hd c) i a λv h' tk j kp=>?_;obtain⟨t,rfl⟩:=intItems_at j;rw[iS ps.toArray _ (by lia)];have k:(ps.toArray.toList.map (·.1)).take (ps.toArray.size-1+1)=ns:=by rw[UU (by simp;lia)];simpa using e
 rw[k];exact⟨.int (uf ns),H,I.kept (t':=tk) kp,⟨t,rfl⟩,q⟩
end L2
namespace L2
open PySem PySem.Spec PyProof.Rows
open Sem (wp)
open Builtin
open Sem (wp)
open Builtin
noncomputable def qz(kts:List (Addr×List V))(a:Addr)(o:Obj)(ns:List Int):Hp:=λb=>match kts.lookup b with
 |some xs=>some (.tup xs)
 |none=>if b=a then some (.ba o (.lst (ns.map V.int)))else none
section
variable{kts:List (Addr×List V)}{a b:Addr}{o:Obj}{ns:List Int}{xs:List V}
def Gz(e:kts.lookup b=some xs):qz kts a o ns b=some (.tup xs):=by unfold qz;rw[e]
def GA(e:kts.lookup a=none):qz kts a o ns a=some (.ba o (.lst (ns.map V.int))):=by unfold qz;rw[e];exact T2 rfl
def GB(e:kts.lookup b=none)(n:b≠a):qz kts a o ns b=none:=by unfold qz;rw[e];exact T9 n
end
theorem mM:∀{vs:List XG}{ns:List Int},IntsAre vs ns->Vals (ns.map V.int) vs
 |_,_,.nil=>.nil
 |_,_,.cons n t h=>.cons ⟨t,rfl⟩ (mM h)
def A7{P:XF}{w:World}{K:XE}{mg M:Str->Option XG}{CX:AQ}{k:Nat}{fa a:Addr}{fd:FuncData}{x:Str}{sp:Sp}{f:XD}{vs:List XG}{ns:List Int}{kts:List (Addr×List V)}
 (Z:K.In f.heap) (C:f.heap.Ns mainGlobals mg) (N:f.heap.Ns builtinsNs M) (O:∀x:Str,x≠"__name__"->M x=bootBuiltins x) (D:f.heap.NoLimit) (hg:f.gens=#[])
 (ha:f.heap.get? a=some { cls:=.type "list",data:=.seq vs.toArray }) (hi:IntsAre vs ns) (hl:ns.length<=sizeLine) (hr:dQ k callerA)
 (hK:∀o,K.lookup a=some o->o.cls=.type "list"->False)
 (J:∀b xs,kts.lookup b=some xs->K.lookup b=none/\∃(o:Obj)(its:Array XG)(n:Nat),f.heap.get? b=some o/\o.cls=.type "tuple"/\o.data=.seq its n/\its.size<=sizeLine/\Vals xs its.toList)
 (hM:∀p∈K,∀b xs,J1 p.2=some (b,xs)->kts.lookup b=some xs)
 (F:∀base:Heap,K.In base->base.Ns mainGlobals mg->bH P w K mg base CX k fa fd [x] sp) (j:∀(s:XD)(u:XG),BindsTo s fd ⟨[u],[]⟩ [(x,u)])
 (Q:∀H:Hp,(∃o,H a=some (.ba o (.lst (ns.map V.int))))->sp [.ref a] H (λv _=>v=.bl true) λ_ _ _=>False)
 (R:∀H e l,CX [] H f (λ_ _ _=>False) e l->False) :
 codeAny (model P w) callerA (.call (.ref fa) ⟨[.ref a],[]⟩) (λr l=>r=.ok (.ret (.bool true))/\OldK f.heap l.heap/\l.os=f.os/\AllBare l.gens) f:=by
 have rv:=mM hi;have S:K.lookup a=none:=by
  cases q:K.lookup a with
  |none=>rfl
  |some o=>have e:=Z a o q;rw[ha]at e;cases e;exact(hK _ q rfl).elim
 have T:kts.lookup a=none:=by
  cases q:kts.lookup a with
  |none=>rfl
  |some xs=>obtain⟨_,o,its,n,e,c,_⟩:=J a xs q;rw[ha]at e;cases e;exact absurd c (by simp)
 obtain⟨B,t⟩ : ∃B:Obj,B={ cls:=.type "list",data:=.seq vs.toArray }:=⟨_,rfl⟩;rw[<- t]at ha;generalize U:qz kts a B ns=H;have W:H a=some (.ba B (.lst (ns.map V.int))):=by rw[<- U];exact GA T
 have X:∀b xs,kts.lookup b=some xs->H b=some (.tup xs):=λb xs e=>by rw[<- U];exact Gz e
 have L:∀b,kts.lookup b=none->b≠a->H b=none:=λb e n=>by rw[<- U];exact GB e n
 have y:∀b o,K.lookup b=some o->H b=none:=λb o e=>by
  refine L b ?_ λz=>by rw[z,S]at e;cases e
  cases q:kts.lookup b with
  |none=>rfl
  |some xs=>rw[(J b xs q).1]at e;cases e
 have A:∀(b:Addr)(o:Obj)(es:Array DictEntry)(E:Nat),f.heap.get? b=some o->o.data=.dict es E->H b=none:=λb o es E e d=>by
  refine L b ?_ λz=>?_
  .cases q:kts.lookup b with
   |none=>rfl
   |some xs=>obtain⟨_,o',its,n,e',_,d',_⟩:=J b xs q;rw[e]at e';cases e';rw[d]at d';cases d'
  .rw[z,ha]at e;cases e;rw[t]at d;cases d
 have i:∀{b:Addr}{m:Str->Option XG},f.heap.Ns b m->(vq f.heap H).Ns b m:=λ{b m} ⟨o,es,E,e,d,r⟩=>⟨o,es,E,vw e (A b o es E e d),d,r⟩;have G:K.In (vq f.heap H):=λb o e=>vw (Z b o e) (y b o e);have Y:Mod K mg (vq f.heap H):=⟨G,i C,⟨M,i N,O⟩,let ⟨mc,h1,h2⟩:=D;⟨mc,i h1,h2⟩⟩;have aT:HOk P w H f.heap:=λb u e=>by
  cases q:kts.lookup b with
  |some xs=>rw[X b xs q]at e;cases e;obtain⟨_,o,its,n,e1,c,d,z,r⟩:=J b xs q;refine⟨by rw[r.length];simpa using z,its.toList,r,o,e1,c,n,by simpa using d⟩
  |none=>
   by_cases g:b=a
   .rw[g,W]at e;cases e;rw[g];exact⟨ha,by rw[TZ];exact hl,vs,_,rv,by rw[ha,t]⟩
   .rw[L b q g]at e;cases e
 have e0:zd P w K mg (vq f.heap H) callerA [] f H:=⟨rfl,Y,λb o e=>FP e,Xy (AH _ _),trivial,λb N=>absurd (show b∈([]:List Addr)from N) (by simp),aT,.of_eq hg,λp hp b xs e=>X b xs (hM p hp b xs e)⟩;refine WW ((F _ G (i C)).run callerA [] f H ⟨[.ref a],[]⟩ [.ref a] [.ref a] _ _ hr e0 (j f (.ref a)) (.cons rfl .nil) (Q H ⟨B,W⟩)) λr l h=>?_;cases r with
 |error e=>exact(R H e l h).elim
 |ok fl=>
  cases fl with
  |next=>exact False.elim h
  |brk=>exact False.elim h
  |cont=>exact False.elim h
  |ret u=>
   obtain⟨v,H',os,bare,un,I,r',q⟩:=h;have q':v=.bl true:=q;subst q';obtain rfl:u=Value.bool true:=r';refine⟨rfl,OldK.of_keep λb o e=>?_,os,bare⟩;by_cases g:b=a
   .rw[g]at e ⊢;have z2:=un.pj a B _ W;obtain⟨e2,_⟩:=I a _ z2;rw[ha]at e;cases e;exact e2
   .refine un.keep b o e ?_ (by intro z;exact absurd (show b∈([]:List Addr)from z) (by simp)) (by simp);cases q:kts.lookup b with
    |none=>exact .inl (L b q g)
    |some xs=>exact .inr ⟨xs,X b xs q⟩
section
variable{K K':XE}
def RF(K:XE):Bool:=K.all λp=>(J1 p.2).isNone
structure xI(K K':XE):Prop where
 look:∀b o,K.lookup b=some o->(∀its n,o.data≠.seq its n)->K'.lookup b=some o
def A8:xI K K:=⟨λ_ _ e _=>e⟩
def xI.code(S:xI K K')(h:codeIn K cd q=true):codeIn K' cd q=true:=by
 unfold codeIn at h ⊢;cases cd with
 |ref c=>
  dsimp only at h ⊢;cases e:K.lookup c with
  |none=>rw[e]at h;cases h
  |some o=>
   obtain⟨o1,b,a,d⟩:=o;cases a with
   |fields vs=>rw[S.look c _ e (λ_ _ z=>nomatch z)];rw[e]at h;exact h
   |_=>rw[e]at h;cases h
 |_=>cases h
def xI.keep(S:xI K K')(e:K.lookup f=some ⟨o1,o2,.func fd,o4⟩):keepIn K' (.ref f)=true:=by unfold keepIn;dsimp only;rw[S.look f _ e (λ_ _ z=>nomatch z)]
end
noncomputable def zG:XG->Bool
 |.type n=>n=="list"
 |_=>false
def RG(K:XE):Bool:=K.all λp=>!zG p.2.cls
theorem Dm:∀{K:XE},RG K=true->K.lookup a=some o->o.cls=.type "list"->False
 |[],_,e,_=>by cases e
 |(b,x)::r,h,e,c=>by
  unfold RG at h;rw[List.all_cons,Uv]at h;rw[Wd]at e;split at e
  .cases e;rw[c]at h;have h1:=h.1;simp[zG]at h1
  .exact Dm (K:=r) h.2 e c
section
variable{l:PySem.W.OpenLaw}{n k:Nat}{q:XF}{loose:List Str}{XP:(Str->Option XG)->Heap->Prop}{YP:World->Heap->Prop}{d:DefRec}{K:Params->XE}{CX:World->AQ}{sp:World->Sp}{x:Str}
def Dn(I:l.most=some n)(r:n<=sizeLine)(t:d.params.defaults=[])(J:dQ k callerA)(L:∀(w:World)(h:Heap),YP w h->(K w.params).In h)
 (C:∀w:World,RG (K w.params)=true/\RF (K w.params)=true)
 (F:∀(w:World)(mg:Str->Option XG)(fa:Addr)(h:Heap),(K w.params).In h->h.Ns mainGlobals mg->mg d.name=some (.ref fa)->
   ∃fd:FuncData,(∀(s:XD)(u:XG),BindsTo s fd ⟨[u],[]⟩ [(x,u)])/\∀base:Heap,(K w.params).In base->base.Ns mainGlobals mg->bH l.prog w (K w.params) mg base (CX w) k fa fd [x] (sp w))
 (y:∀(w:World)(H:Hp)(a:Addr)(ns:List Int),ns.length<=n->(∃o,H a=some (.ba o (.lst (ns.map V.int))))->sp w [.ref a] H (λv _=>v=.bl true) λ_ _ _=>False)
 (z:∀(w:World)(H:Hp)(s:XD)(e:XG)(A:XD),CX w [] H s (λ_ _ _=>False) e A->False) :
 PySem.W.WalkO q loose XP YP l.row.toRowW d [] (λf vs=>PySem.call f vs):=by
 refine Att.attach_call I t λw s₀ j mg S fa o pm U doc a vs ns G Y X hd M B m i D N=>?_;have E:=L w _ Y;obtain⟨fd,O,P⟩:=F w mg fa _ E G.T.g B;exact A7 (kts:=[]) E G.T.g G.T.b G.T.builtins G.T.nolimit N m i (Us D r) J (λo e c=>Dm (C w).1 e c) (λb xs e=>by cases e)
  (λp Q b xs e=>by have:=UW.mp (C w).2 p Q;rw[e]at this;cases this) P O (λH R=>y w H a ns D R) λH e A=>z w H j e A
end
end L2
namespace L2
open PySem PySem.Spec PySem.Calls PyProof.Rows
noncomputable abbrev K0:=Sum Int (List Int)
abbrev NX:=List (List K0×Addr×XG)
noncomputable def NVs(H:Hp):List K0->List V->Prop
 |[],vs=>vs=[]
 |.inl i::ks,vs=>∃r,vs=.int i::r/\NVs H ks r
 |.inr l::ks,vs=>∃c r,vs=.ref c::r/\H c=some (.tup (l.map V.int))/\NVs H ks r
def KeyN(H:Hp)(k:List K0)(b:Addr):Prop:=∃vs,H b=some (.tup vs)/\NVs H k vs
section
variable{H H':Hp}
theorem NVs.mono(kt:∀b vs,H b=some (.tup vs)->H' b=some (.tup vs)):∀{k:List K0}{vs:List V},NVs H k vs->NVs H' k vs
 |[],_,h=>h
 |.inl i::ks,_,⟨r,e,h⟩=>⟨r,e,NVs.mono kt h⟩
 |.inr l::ks,_,⟨c,r,e,e2,h⟩=>⟨c,r,e,kt _ _ e2,NVs.mono kt h⟩
theorem KeyN.mono(kt:∀b vs,H b=some (.tup vs)->H' b=some (.tup vs))(h:KeyN H k b):KeyN H' k b:=let ⟨vs,e,q⟩:=h;⟨vs,kt _ _ e,q.mono kt⟩
end
end L2
namespace L2
open PySem PySem.Spec PySem.Calls PyProof.Rows ST
section
variable{X:Cx}
def A9(t:TupsIn H vs its)(a:Vals vs us):us=valsT its:=by
 unfold TupsIn at t;induction t generalizing us with
 |nil=>cases a;rfl
 |cons q _ b=>
  cases a with
  |cons r s=>obtain⟨rfl,q⟩:=q;cases r;rw[b s];rfl
def rR(L:N<=300)(hs:mJ X.prog X.w N):CallR X (.builtin "sorted") (λxs H Q=>∃(l:Addr)(vs:List V)(its:List jK),xs=[.ref l]/\Rd H l (.lst vs)/\TupsIn H vs its/\its.length<=N/\(∀x∈its,x.1≠[])/\(its.map (·.1)).Nodup/\
 ∀(j:Addr)(c:List jK),H j=none->c.Perm its->c.Pairwise (λx y=>dL x.1 y.1=true)->Q (.ref j) (aO H j (.lst (c.map λy=>.ref y.2)))):=by
 intro aa s σ H xs us Q I r h;obtain⟨l,vs,its,rfl,B,p,hz,k,nd,q⟩:=h;obtain⟨u,rfl,C⟩:=gm r;obtain rfl:u=Value.ref l:=C;obtain⟨_,us,n,t,D⟩:=(show ObjOk X.prog X.w H s.heap l (.lst vs)from B.ok I.aT);obtain⟨_,_,g3⟩:=p.get t;obtain rfl:=A9 p t;have f:(valsT its).length=its.length:=by simp[valsT]
 have sl:=Ux;refine Calls.call_function_entry kind_sorted plain_sorted entry_sorted (args_sorted1 _) ?_;unfold Builtin.«sorted»;refine KE (m:=checkCount "sorted" 1 1 _) (TV (KE (collect_list (l:=l) (vs:=valsT its) ⟨_,D,rfl,n,rfl⟩ ?_ (by rw[f];lia))));have k1:∀b o,s.heap.get? b=some o->((s.heap.push (seqObj "list" #[] 0)).update s.heap.objs.size (Obj.mapSeq (·++ (valsT its).toArray))).get? b=some o:=λb o e=>(Uu _ _ (Vc (Ul (T8 e)))).trans (RW _ e);have g1:s.heap.objs.size<=((s.heap.push (seqObj "list" #[] 0)).update s.heap.objs.size (Obj.mapSeq (·++ (valsT its).toArray))).objs.size:=WV (T8 (get?_update_seq (T4 _ rfl) (·++ (valsT its).toArray)));generalize((s.heap.push (seqObj "list" #[] 0)).update s.heap.objs.size (Obj.mapSeq (·++ (valsT its).toArray)))=h1 at k1 g1;refine KE (wpAny_newList ?_ (by rw[f];lia));have g:(h1.push (seqObj "list" (valsT its).toArray 0)).get? h1.objs.size=some (seqObj "list" (valsT its).toArray 0):=T4 _ rfl;have v:∀b o,s.heap.get? b=some o->(h1.push (seqObj "list" (valsT its).toArray 0)).get? b=some o:=λb o e=>RW _ (k1 b o e);have E:sA X.prog X.w (h1.push (seqObj "list" (valsT its).toArray 0)) its:=⟨λx F=>pq (dH I.aT (g3 x F)) v,k,nd⟩;refine KE (UV (UK slot_list_sort ⟨_,g,rfl⟩ entry_list_sort ?body (args_list_sort _)))
 case body=>
  refine hs _ _ { s with heap:=h1.push (seqObj "list" (valsT its).toArray 0) } _ _ _ _ g E hz λc M G d A i k2=>⟨_,rfl,?_⟩;have J:H h1.objs.size=none:=I.aT.fresh g1;refine TV ⟨_,rfl,.ref h1.objs.size,_,I.laid (a:=h1.objs.size) (o:=.lst (c.map λy=>.ref y.2)) (t':=s.toks) (λb o e=>k2 b o (λz=>?_) (v b o e)) g1 ?_,rfl,q h1.objs.size c J d A⟩
  .subst z;exact absurd (T8 e) (Nat.not_lt.mpr g1)
  .refine⟨by rw[TZ,d.length_eq];lia,valsT c,G,?_,i⟩;clear i A d;induction c with
   |nil=>exact .nil
   |cons y c K=>exact .cons rfl K
end
end L2
namespace L3
open PySem PySem.Spec PyProof.Rows L2
abbrev DK:=Sum br (List br)
inductive D where
 |bn|bl (b:Bool)|int (i:Int)|str (x:Str)|tup (ds:List D)|lst (ds:List D)|dZ (ks:List DK) (ds:List D)
mutual
noncomputable def D.flat:D->Bool
 |.lst _=>false
 |.dZ _ _=>false
 |.tup ds=>D.bW ds
 |_=>true
noncomputable def D.bW:List D->Bool
 |[]=>true
 |d::ds=>d.flat&&D.bW ds
end
mutual
noncomputable def D.dep:D->Nat
 |.lst ds=>D.f6 ds+1
 |.tup ds=>D.f6 ds+1
 |.dZ _ ds=>D.f6 ds+1000
 |_=>0
noncomputable def D.f6:List D->Nat
 |[]=>0
 |d::ds=>max d.dep (D.f6 ds)
end
mutual
noncomputable def fW:D->D->Bool
 |.bn,e=>match e with|.bn=>true|_=>false
 |.bl a,e=>match e with|.bl b=>a==b|.int b=>(if a then 1 else 0)==b|_=>false
 |.int a,e=>match e with|.int b=>a==b|.bl b=>a==(if b then 1 else 0)|_=>false
 |.str a,e=>match e with|.str b=>a==b|_=>false
 |.tup c,e=>match e with|.tup bs=>eqDs c bs|_=>false
 |.lst c,e=>match e with|.lst bs=>eqDs c bs|_=>false
 |.dZ ks c,e=>match e with|.dZ d bs=>decide (ks=d)&&eqDs c bs|_=>false
noncomputable def eqDs:List D->List D->Bool
 |[],bs=>match bs with|[]=>true|_=>false
 |a::c,bs=>match bs with|b::r=>fW a b&&eqDs c r|[]=>false
end
mutual
theorem qA:∀d:D,fW d d=true
 |.bn=>rfl
 |.bl a=>by simp[fW]
 |.int a=>by simp[fW]
 |.str a=>by simp[fW]
 |.tup b=>by simp only[fW];exact eqDs_refl b
 |.lst b=>by simp only[fW];exact eqDs_refl b
 |.dZ ks b=>by simp only[fW,decide_true,Bool.true_and];exact eqDs_refl b
theorem eqDs_refl:∀ds:List D,eqDs ds ds=true
 |[]=>rfl
 |d::ds=>by simp only[eqDs,qA d,eqDs_refl ds,W7]
end
def DAt(H:Hp)(a:Addr)(ks:List DK)(vs:List V):Prop:=(∃kvs:List (br×V),Rd H a (.dK kvs)/\ks=kvs.map (λp=>.inl p.1)/\vs=kvs.map Prod.snd)\/∃kvs:List (List br×V),Rd H a (.dT kvs)/\ks=kvs.map (λp=>.inr p.1)/\vs=kvs.map Prod.snd
noncomputable def KM:HO->Prop
 |.lst _=>True
 |.dK _=>True
 |.dT _=>True
 |.ext _=>True
 |_=>False
def Mu(H:Hp)(a:Addr):Prop:=∃o,H a=some o/\KM o
theorem Mu.lst(h:H a=some (.lst vs)):Mu H a:=⟨_,h,True.intro⟩
def Mu.same(h:Mu H a)(s:∀o,H a=some o->H' a=some o):Mu H' a:=let ⟨o,e,m⟩:=h;⟨o,s o e,m⟩
def Mu.some(h:Mu H a):H a≠none:=by obtain⟨o,e,_⟩:=h;rw[e];simp
def IR(h:Rd H a u):∃o,H a=some o:=h.elim (λe=>⟨_,e⟩) λ⟨_,e⟩=>⟨_,e⟩
def nV(h:Rd H a u)(s:∀o,H a=some o->H' a=some o):Rd H' a u:=h.imp (s _) λ⟨o,e⟩=>⟨o,s _ e⟩
def DAt.obj(h:DAt H a ks vs):∃o,H a=some o:=h.elim (λ⟨_,e,_⟩=>IR e) λ⟨_,e,_⟩=>IR e
def DAt.mu(h:DAt H a ks vs)(n:∀o u,H a≠some (.ba o u)):Mu H a:=by rcases h with⟨kvs,e|⟨o,e⟩,_⟩|⟨kvs,e|⟨o,e⟩,_⟩<;>first|exact⟨_,e,True.intro⟩|exact(n _ _ e).elim
def DAt.keep(h:DAt H a ks vs)(s:∀o,H a=some o->H' a=some o):DAt H' a ks vs:=h.imp (λ⟨kvs,e,r⟩=>⟨kvs,nV e s,r⟩) λ⟨kvs,e,r⟩=>⟨kvs,nV e s,r⟩
def DAt.inj(h:DAt H a ks vs)(g:DAt H a ls ws):ks=ls/\vs=ws:=by rcases h with⟨k1,e1|⟨o1,e1⟩,b,c⟩|⟨k1,e1|⟨o1,e1⟩,b,c⟩<;>rcases g with⟨k2,e2|⟨d,e2⟩,q1,q2⟩|⟨k2,e2|⟨d,e2⟩,q1,q2⟩<;>(rw[e1]at e2;cases e2;try exact⟨b.trans q1.symm,c.trans q2.symm⟩)
noncomputable def RH:HO->Prop
 |.dK _=>False
 |.dT _=>False
 |.ba _ (.dK _)=>False
 |.ba _ (.dT _)=>False
 |_=>True
def DAt.no(h:DAt H a ks vs)(e:H a=some o)(n:RH o):False:=by rcases h with⟨k,z|⟨b,z⟩,_⟩|⟨k,z|⟨b,z⟩,_⟩<;>(rw[e]at z;cases z;exact n)
mutual
noncomputable def Is(H:Hp)(m:Addr->Prop):D->V->Prop
 |.bn,v=>v=.bn
 |.bl b,v=>v=.bl b
 |.int i,v=>v=.int i
 |.str x,v=>v=.str x
 |.tup ds,v=>∃a vs,v=.ref a/\H a=some (.tup vs)/\IsAll H m ds vs
 |.lst ds,v=>∃a vs,v=.ref a/\((H a=some (.lst vs)/\m a)\/∃o,H a=some (.ba o (.lst vs))/\m a)/\IsAll H m ds vs
 |.dZ ks ds,v=>∃a vs,v=.ref a/\(DAt H a ks vs/\m a)/\IsAll H m ds vs
noncomputable def IsAll(H:Hp)(m:Addr->Prop):List D->List V->Prop
 |[],vs=>vs=[]
 |d::ds,vs=>∃v r,vs=v::r/\Is H m d v/\IsAll H m ds r
end
noncomputable def iL:HO->Prop
 |.tup _=>True
 |.ba _ _=>True
 |_=>False
section
variable{H H':Hp}{m m':Addr->Prop}
mutual
theorem Is.mono(kp:∀a o,H a=some o->(m a\/iL o)->H' a=some o)(b:∀a o,H a=some o->m a->m' a):∀{d:D}{v:V},Is H m d v->Is H' m' d v
 |.bn,_,h=>h
 |.bl _,_,h=>h
 |.int _,_,h=>h
 |.str _,_,h=>h
 |.tup ds,_,h=>by obtain⟨a,vs,e,h1,c⟩:=h;exact⟨a,vs,e,kp a _ h1 (.inr True.intro),IsAll.mono kp b c⟩
 |.lst ds,_,h=>by
  obtain⟨a,vs,e,h1,c⟩:=h;refine⟨a,vs,e,?_,IsAll.mono kp b c⟩;rcases h1 with⟨h1,f⟩|⟨o,h1,f⟩
  .exact .inl ⟨kp a _ h1 (.inl f),b a _ h1 f⟩
  .exact .inr ⟨o,kp a _ h1 (.inr True.intro),b a _ h1 f⟩
 |.dZ ks ds,_,h=>by obtain⟨a,vs,e,h1,c⟩:=h;obtain⟨o,g⟩:=h1.1.obj;exact⟨a,vs,e,⟨h1.1.keep λo e=>kp a o e (.inl h1.2),b a o g h1.2⟩,IsAll.mono kp b c⟩
theorem IsAll.mono(kp:∀a o,H a=some o->(m a\/iL o)->H' a=some o)(b:∀a o,H a=some o->m a->m' a):∀{ds:List D}{vs:List V},IsAll H m ds vs->IsAll H' m' ds vs
 |[],_,h=>h
 |d::ds,_,h=>by obtain⟨v,r,e,h1,c⟩:=h;exact⟨v,r,e,Is.mono kp b h1,IsAll.mono kp b c⟩
end
def Is.weak(b:∀a,m a->m' a)(h:Is H m d v):Is H m' d v:=h.mono (λ_ _ e _=>e) λa _ _=>b a
def IsAll.weak(b:∀a,m a->m' a)(h:IsAll H m ds vs):IsAll H m' ds vs:=h.mono (λ_ _ e _=>e) λa _ _=>b a
def Is.same(s:Same H H')(h:Is H m d v):Is H' m d v:=h.mono (λa o e _=>s a o e) λ_ _ _ z=>z
def IsAll.same(s:Same H H')(h:IsAll H m ds vs):IsAll H' m ds vs:=h.mono (λa o e _=>s a o e) λ_ _ _ z=>z
mutual
theorem Is.flat:∀{d:D}{v:V},d.flat=true->Is H m d v->Is H m' d v
 |.bn,_,_,h=>h
 |.bl _,_,_,h=>h
 |.int _,_,_,h=>h
 |.str _,_,_,h=>h
 |.tup ds,_,f,h=>by obtain⟨a,vs,e,h1,b⟩:=h;exact⟨a,vs,e,h1,IsAll.flat (by simpa only[D.flat]using f) b⟩
 |.lst ds,_,f,_=>by simp[D.flat]at f
 |.dZ ks ds,_,f,_=>by simp[D.flat]at f
theorem IsAll.flat:∀{ds:List D}{vs:List V},D.bW ds=true->IsAll H m ds vs->IsAll H m' ds vs
 |[],_,_,h=>h
 |d::ds,_,f,h=>by obtain⟨v,r,e,h1,a⟩:=h;simp only[D.bW,Uv]at f;exact⟨v,r,e,Is.flat f.1 h1,IsAll.flat f.2 a⟩
end
mutual
theorem Is.inj:∀{d e:D}{v:V},Is H m d v->Is H m' e v->d=e
 |.bn,e,_,h,g=>by cases e<;>first|rfl|(cases h;first|(obtain⟨_,_,z,_⟩:=g;cases z;done)|cases g)
 |.bl _,e,_,h,g=>by cases e<;>(cases h;first|(obtain⟨_,_,z,_⟩:=g;cases z;done)|(cases g;rfl)|cases g)
 |.int _,e,_,h,g=>by cases e<;>(cases h;first|(obtain⟨_,_,z,_⟩:=g;cases z;done)|(cases g;rfl)|cases g)
 |.str _,e,_,h,g=>by cases e<;>(cases h;first|(obtain⟨_,_,z,_⟩:=g;cases z;done)|(cases g;rfl)|cases g)
 |.tup ds,e,_,h,g=>by
  obtain⟨a,vs,rfl,h1,c⟩:=h;cases e with
  |tup es=>obtain⟨b,ws,z,g1,g2⟩:=g;cases z;rw[h1]at g1;cases g1;rw[IsAll.inj c g2]
  |lst es=>obtain⟨b,ws,z,g1,g2⟩:=g;cases z;rcases g1 with⟨g1,_⟩|⟨o,g1,_⟩<;>(rw[h1]at g1;cases g1)
  |dZ f es=>obtain⟨b,ws,z,g1,g2⟩:=g;cases z;exact(g1.1.no h1 True.intro).elim
  |_=>cases g
 |.lst ds,e,_,h,g=>by
  obtain⟨a,vs,rfl,h1,c⟩:=h;cases e with
  |tup es=>obtain⟨b,ws,z,g1,g2⟩:=g;cases z;rcases h1 with⟨h1,_⟩|⟨o,h1,_⟩<;>(rw[h1]at g1;cases g1)
  |lst es=>
   obtain⟨b,ws,z,g1,g2⟩:=g;cases z;have e:vs=ws:=by rcases h1 with⟨h1,_⟩|⟨o,h1,_⟩<;>rcases g1 with⟨g1,_⟩|⟨i,g1,_⟩<;>(rw[h1]at g1;cases g1;try rfl)
   subst e;rw[IsAll.inj c g2]
  |dZ f es=>obtain⟨b,ws,z,g1,g2⟩:=g;cases z;rcases h1 with⟨h1,_⟩|⟨o,h1,_⟩<;>exact(g1.1.no h1 True.intro).elim
  |_=>cases g
 |.dZ ks ds,e,_,h,g=>by
  obtain⟨a,vs,rfl,h1,c⟩:=h;cases e with
  |tup es=>obtain⟨b,ws,z,g1,g2⟩:=g;cases z;exact(h1.1.no g1 True.intro).elim
  |lst es=>obtain⟨b,ws,z,g1,g2⟩:=g;cases z;rcases g1 with⟨g1,_⟩|⟨o,g1,_⟩<;>exact(h1.1.no g1 True.intro).elim
  |dZ f es=>obtain⟨b,ws,z,g1,g2⟩:=g;cases z;obtain⟨e1,e2⟩:=h1.1.inj g1.1;subst e1 e2;rw[IsAll.inj c g2]
  |_=>cases g
theorem IsAll.inj:∀{ds es:List D}{vs:List V},IsAll H m ds vs->IsAll H m' es vs->ds=es
 |[],es,_,h,g=>by
  cases h;cases es with
  |nil=>rfl
  |cons e es=>obtain⟨_,_,z,_⟩:=g;cases z
 |d::ds,es,_,h,g=>by
  obtain⟨v,r,rfl,h1,a⟩:=h;cases es with
  |nil=>cases g
  |cons e es=>obtain⟨w,q,z,g1,g2⟩:=g;cases z;rw[Is.inj h1 g1,IsAll.inj a g2]
end
theorem IsAll.length:∀{ds:List D}{vs:List V},IsAll H m ds vs->vs.length=ds.length
 |[],_,h=>by cases h;rfl
 |d::ds,_,h=>by obtain⟨v,r,rfl,_,a⟩:=h;simp[IsAll.length a]
theorem IsAll.append:∀{ds es:List D}{vs ws:List V},IsAll H m ds vs->IsAll H m es ws->IsAll H m (ds++es) (vs++ws)
 |[],_,_,_,h,g=>by cases h;exact g
 |d::ds,_,_,_,h,g=>by obtain⟨v,r,rfl,h1,a⟩:=h;exact⟨v,r++_,rfl,h1,IsAll.append a g⟩
def IsAll.snoc(h:IsAll H m ds vs)(g:Is H m d v):IsAll H m (ds++[d]) (vs++[v]):=h.append ⟨v,[],rfl,g,rfl⟩
theorem IsAll.get:∀{ds:List D}{vs:List V}{i:Nat}{d:D},IsAll H m ds vs->ds[i]?=some d->∃v,vs[i]?=some v/\Is H m d v
 |[],_,_,_,_,e=>by simp at e
 |d::ds,_,0,_,h,e=>by obtain⟨v,r,rfl,h1,c⟩:=h;simp at e;subst e;exact⟨v,rfl,h1⟩
 |d::ds,_,i+1,_,h,e=>by obtain⟨v,r,rfl,h1,c⟩:=h;obtain⟨w,a,b⟩:=IsAll.get (i:=i) c (by simpa using e);exact⟨w,by simpa using a,b⟩
theorem IsAll.take:∀{ds:List D}{vs:List V}(n:Nat),IsAll H m ds vs->IsAll H m (ds.take n) (vs.take n)
 |_,_,0,_=>rfl
 |[],_,n+1,h=>by cases h;exact rfl
 |d::ds,_,n+1,h=>by obtain⟨v,r,rfl,h1,a⟩:=h;exact⟨v,r.take n,rfl,h1,IsAll.take n a⟩
theorem IsAll.drop:∀{ds:List D}{vs:List V}(n:Nat),IsAll H m ds vs->IsAll H m (ds.drop n) (vs.drop n)
 |_,_,0,h=>h
 |[],_,n+1,h=>by cases h;exact rfl
 |d::ds,_,n+1,h=>by obtain⟨v,r,rfl,h1,a⟩:=h;exact IsAll.drop n a
end
section
variable{P:XF}{w:World}{H:Hp}{s:XD}{m m':Addr->Prop}
def KN(ok:HOk P w H s.heap)(h:(H a=some (.lst vs)/\m a)\/∃o,H a=some (.ba o (.lst vs))/\m a) :
 ∃its:List XG,Vals vs its/\s.heap.IsList a its.toArray:=by
 have key:ObjOk P w H s.heap a (.lst vs)->∃its:List XG,Vals vs its/\s.heap.IsList a its.toArray:=λ⟨_,its,n,r,e⟩=>⟨its,r,⟨_,e,rfl,n,rfl⟩⟩;rcases h with⟨h,_⟩|⟨o,h,_⟩
 .exact key (ok a _ h)
 .exact key (ok a _ h).2
def KO(ok:HOk P w H s.heap)(h:H a=some (.tup vs)):∃its:List XG,Vals vs its/\s.heap.IsTuple a its.toArray:=by obtain⟨_,its,r,e⟩:=ok a _ h;exact⟨its,r,e⟩
theorem A_(n:Nat)(e:Nat->Bool):(List.range n).all e=true↔∀j,j<n->e j=true:=by simp[UW,UF]
theorem qB:∀(ds es:List D),eqDs ds es=true↔ds.length=es.length/\∀(j:Nat)(d e:D),ds[j]?=some d->es[j]?=some e->fW d e=true
 |[],[]=>by simp[eqDs]
 |[],e::es=>by simp[eqDs]
 |d::ds,[]=>by simp[eqDs]
 |d::ds,e::es=>by
  simp only[eqDs,Uv,qB ds es,Ue,Nat.add_right_cancel_iff];constructor
  .rintro⟨h1,c,b⟩;refine⟨c,λj x y ex a=>?_⟩;cases j with
   |zero=>simp at ex a;subst ex;subst a;exact h1
   |succ j=>exact b j x y (by simpa using ex) (by simpa using a)
  .rintro⟨c,b⟩;exact⟨b 0 d e rfl rfl,c,λj x y ex a=>b (j+1) x y (by simpa using ex) (by simpa using a)⟩
theorem gv:∀{ds:List D}{j:Nat}{d:D},ds[j]?=some d->d.dep<=D.f6 ds
 |[],_,_,e=>by simp at e
 |d::ds,0,_,e=>by simp at e;subst e;simp only[D.f6];lia
 |d::ds,j+1,x,e=>by have:=gv (ds:=ds) (j:=j) (d:=x) (by simpa using e);simp only[D.f6];lia
def ug(ok:HOk P w H s.heap){A:XH}{ds es:List D}(h1:IsAll H m ds vs)(b:IsAll H m' es ws)(c:Vals vs its)(f:Vals ws its2)
 (rec:∀d∈ds,∀e∈es,∀(v w:V)(u u':XG),Is H m d v->Is H m' e w->RelV v u->RelV w u'->SeqAt.EqAt A.in1 s u u' (fW d e)) :
 ∀j (g:j<its.toArray.size) (h:j<its2.toArray.size),SeqAt.EqAt A.in1 s its.toArray[j] its2.toArray[j] (match ds[j]?,es[j]? with|some d,some e=>fW d e|_,_=>true):=by
 intro j g h;have p:=c.length;have q:=f.length;have r:=h1.length;have t:=b.length;have x:j<its.length:=by simpa using g
 have y:j<its2.length:=by simpa using h
 have k1:j<ds.length:=by lia
 have k2:j<es.length:=by lia
 obtain⟨v,k,z⟩:=h1.get (i:=j) (d:=ds[j]) (by simp[k1]);obtain⟨B,a,l⟩:=b.get (i:=j) (d:=es[j]) (by simp[k2]);obtain⟨u,C,E⟩:=c.get k;obtain⟨u',n,o⟩:=f.get a
 grind
theorem yq(a:ds.length=es.length) :
 ((List.range ds.length).all λj=>match ds[j]?,es[j]? with|some d,some e=>fW d e|_,_=>true)=eqDs ds es:=by
 grind [A_,qB]
theorem uh(a:ds.length≠es.length):eqDs ds es=false:=by grind [eqDs,qB]
abbrev oT(H:Hp)(s:XD)(m m':Addr->Prop)(A:XH)(n:Nat):Prop:=∀(d e:D)(v w:V)(u u':XG),d.dep<n->e.dep<1000->Is H m d v->Is H m' e w->RelV v u->RelV w u'->SeqAt.EqAt A.in1 s u u' (fW d e)
section
variable{A:XH}{n:Nat}{l1 l2:List D}{vs1 vs2:List V}{its1 its2:List XG}{a1 a2:Addr}
def qC(ok:HOk P w H s.heap)(i:(D.lst l1).dep<=n)(k:(D.lst l2).dep<1000)(f:A.units<cLine)(q1:IsAll H m l1 vs1)(q2:IsAll H m' l2 vs2)(g:Vals vs1 its1)(h:Vals vs2 its2)(p1:s.heap.IsList a1 its1.toArray)(p2:s.heap.IsList a2 its2.toArray)
 (rec:oT H s m m' A n):SeqAt.RcAt A s (.ref a1) (.ref a2) (fW (.lst l1) (.lst l2)):=by
 have e1:its1.toArray.size=l1.length:=by rw[Ua,<- g.length,q1.length]
 have e2:its2.toArray.size=l2.length:=by rw[Ua,<- h.length,q2.length]
 have hd:∀d∈l1,d.dep<n:=λd hd=>by obtain⟨j,b⟩:=Uc.mp hd;have:=gv b;simp only[D.dep]at i;lia
 have l:∀e∈l2,e.dep<1000:=λd hd=>by obtain⟨j,b⟩:=Uc.mp hd;have:=gv b;simp only[D.dep]at k;lia
 by_cases a:l1.length=l2.length
 .have z:=SeqAt.RcAt.lists p1 p2 (by rw[e1,e2,a]) f (ug ok q1 q2 g h λd o e c v w u u' p q r t=>rec d e v w u u' (hd d o) (l e c) p q r t);rw[e1,yq a]at z;exact z
 .have z:=SeqAt.RcAt.lists_lengths p1 p2 (by rw[e1,e2];simpa using a) f;rw[show fW (.lst l1) (.lst l2)=eqDs l1 l2 from rfl,uh a];exact z
def ui(ok:HOk P w H s.heap)(i:(D.lst l1).dep<=n)(k:(D.lst l2).dep<1000)(f:A.units<cLine)(q1:IsAll H m l1 vs1)(q2:IsAll H m' l2 vs2)(g:Vals vs1 its1)(h:Vals vs2 its2)(p1:s.heap.IsList a1 its1.toArray)(p2:s.heap.IsList a2 its2.toArray)
 (rec:oT H s m m' A n):SeqAt.RcNeAt A s (.ref a1) (.ref a2) (!fW (.lst l1) (.lst l2)):=by
 have e1:its1.toArray.size=l1.length:=by rw[Ua,<- g.length,q1.length]
 have e2:its2.toArray.size=l2.length:=by rw[Ua,<- h.length,q2.length]
 have hd:∀d∈l1,d.dep<n:=λd hd=>by obtain⟨j,b⟩:=Uc.mp hd;have:=gv b;simp only[D.dep]at i;lia
 have l:∀e∈l2,e.dep<1000:=λd hd=>by obtain⟨j,b⟩:=Uc.mp hd;have:=gv b;simp only[D.dep]at k;lia
 by_cases a:l1.length=l2.length
 .have z:=SeqAt.RcNeAt.lists p1 p2 (by rw[e1,e2,a]) f (ug ok q1 q2 g h λd o e c v w u u' p q r t=>rec d e v w u u' (hd d o) (l e c) p q r t);rw[e1,yq a]at z;exact z
 .have z:=SeqAt.RcNeAt.lists_lengths p1 p2 (by rw[e1,e2];simpa using a) f;rw[show fW (.lst l1) (.lst l2)=eqDs l1 l2 from rfl,uh a];exact z
def zH:((List.range (min l1.length l2.length)).all (λj=>match l1[j]?,l2[j]? with|some d,some e=>fW d e|_,_=>true)&&l1.length==l2.length)=eqDs l1 l2:=by grind [yq,uh]
def s_(ok:HOk P w H s.heap)(g:(D.tup l1).dep<=n)(h:(D.tup l2).dep<1000)(i:A.units<cLine)(q1:IsAll H m l1 vs1)(q2:IsAll H m' l2 vs2)(c:Vals vs1 its1)(f:Vals vs2 its2)(p1:s.heap.IsTuple a1 its1.toArray)(p2:s.heap.IsTuple a2 its2.toArray)
 (rec:oT H s m m' A n):SeqAt.RcAt A s (.ref a1) (.ref a2) (fW (.tup l1) (.tup l2)):=by
 have e1:its1.toArray.size=l1.length:=by rw[Ua,<- c.length,q1.length]
 have e2:its2.toArray.size=l2.length:=by rw[Ua,<- f.length,q2.length]
 have hd:∀d∈l1,d.dep<n:=λd hd=>by obtain⟨j,a⟩:=Uc.mp hd;have:=gv a;simp only[D.dep]at g;lia
 have k:∀e∈l2,e.dep<1000:=λd hd=>by obtain⟨j,a⟩:=Uc.mp hd;have:=gv a;simp only[D.dep]at h;lia
 have z:=SeqAt.RcAt.tuples p1 p2 i (ug ok q1 q2 c f λd l e b v w u u' o p q r=>rec d e v w u u' (hd d l) (k e b) o p q r);rw[e1,e2,zH]at z;exact z
def wb(ok:HOk P w H s.heap)(g:(D.tup l1).dep<=n)(h:(D.tup l2).dep<1000)(i:A.units<cLine)(q1:IsAll H m l1 vs1)(q2:IsAll H m' l2 vs2)(c:Vals vs1 its1)(f:Vals vs2 its2)(p1:s.heap.IsTuple a1 its1.toArray)(p2:s.heap.IsTuple a2 its2.toArray)
 (rec:oT H s m m' A n):SeqAt.RcNeAt A s (.ref a1) (.ref a2) (!fW (.tup l1) (.tup l2)):=by
 have e1:its1.toArray.size=l1.length:=by rw[Ua,<- c.length,q1.length]
 have e2:its2.toArray.size=l2.length:=by rw[Ua,<- f.length,q2.length]
 have hd:∀d∈l1,d.dep<n:=λd hd=>by obtain⟨j,a⟩:=Uc.mp hd;have:=gv a;simp only[D.dep]at g;lia
 have k:∀e∈l2,e.dep<1000:=λd hd=>by obtain⟨j,a⟩:=Uc.mp hd;have:=gv a;simp only[D.dep]at h;lia
 have z:=SeqAt.RcNeAt.tuples p1 p2 i (ug ok q1 q2 c f λd l e b v w u u' o p q r=>rec d e v w u u' (hd d l) (k e b) o p q r);rw[e1,e2,zH]at z;exact z
def wc(h:SeqAt.RcAt A s (.ref a1) (.ref a2) k)(hs:a1=a2->k=true):SeqAt.EqAt A s (.ref a1) (.ref a2) k:=by
 by_cases e:a1=a2
 .subst e;rw[hs rfl];exact SeqAt.EqAt.same _
 .exact SeqAt.EqAt.of_refs e h
end
def Is.shape(ok:HOk P w H s.heap)(c:d.dep<1000)(h:Is H m d v)(r:RelV v u):(d=.bn/\u=.none)\/(∃b,d=.bl b/\u=.bool b)\/(∃i t,d=.int i/\u=.int i t)\/(∃x t,d=.str x/\u=.str x t)\/
 (∃l a vs its,d=.lst l/\v=.ref a/\u=.ref a/\IsAll H m l vs/\Vals vs its/\s.heap.IsList a its.toArray)\/∃l a vs its,d=.tup l/\v=.ref a/\u=.ref a/\IsAll H m l vs/\Vals vs its/\s.heap.IsTuple a its.toArray:=by
 cases d with
 |bn=>cases h;cases r;exact .inl ⟨rfl,rfl⟩
 |bl b=>cases h;cases r;exact .inr (.inl ⟨b,rfl,rfl⟩)
 |int i=>cases h;obtain⟨t,rfl⟩:=r;exact .inr (.inr (.inl ⟨i,t,rfl,rfl⟩))
 |str x=>cases h;obtain⟨t,rfl⟩:=r;exact .inr (.inr (.inr (.inl ⟨x,t,rfl,rfl⟩)))
 |lst l=>obtain⟨a,vs,rfl,g,q⟩:=h;cases r;obtain⟨its,y,p⟩:=KN ok g;exact .inr (.inr (.inr (.inr (.inl ⟨l,a,vs,its,rfl,rfl,rfl,q,y,p⟩))))
 |tup l=>obtain⟨a,vs,rfl,g,q⟩:=h;cases r;obtain⟨its,y,p⟩:=KO ok g;exact .inr (.inr (.inr (.inr (.inr ⟨l,a,vs,its,rfl,rfl,rfl,q,y,p⟩))))
 |dZ k l=>exact absurd c (by simp only[D.dep];lia)
def GC(ok:HOk P w H s.heap)(a:A.units<cLine)(rec:oT H s m m' A n)(x:d.dep<=n)(G:n<1000)(o:e.dep<1000)(h1:Is H m d v)(y:Is H m' e w')(z:RelV v u)(B:RelV w' u') :
 SeqAt.RcAt A s u u' (fW d e):=by
 rcases h1.shape ok (by lia) z with⟨rfl,rfl⟩|⟨f,rfl,rfl⟩|⟨g,b,rfl,rfl⟩|⟨x1,b,rfl,rfl⟩|⟨C,D,p,k,rfl,rfl,rfl,q1,q,p1⟩|⟨C,D,p,k,rfl,rfl,rfl,q1,q,p1⟩<;>rcases y.shape ok o B with⟨rfl,rfl⟩|⟨h,rfl,rfl⟩|⟨i,c,rfl,rfl⟩|⟨j,c,rfl,rfl⟩|⟨E,F,r,l,rfl,rfl,rfl,q2,t,p2⟩|⟨E,F,r,l,rfl,rfl,rfl,q2,t,p2⟩;exact .none_none;exact .none_bool h;exact .none_int i c;exact .none_str j c;exact .none_list p2 a;exact .none_tuple p2 a;exact .bool_none f;exact .bool_bool f h;exact .bool_int f i c;exact .bool_str f j c;exact .bool_list f p2 a;exact .bool_tuple f p2 a;exact .int_none g b;exact .int_bool g b h;exact .int_int g b i c;exact .int_str g b j c;exact .int_list g b p2 a;exact .int_tuple g b p2 a;exact .str_none x1 b;exact .str_bool x1 b h;exact .str_int x1 b i c;exact .str_str x1 b j c;exact .str_list x1 b p2 a;exact .str_tuple x1 b p2 a;exact .list_none p1 a;exact .list_bool h p1 a;exact .list_int i c p1 a;exact .list_str j c p1 a;exact qC ok x o a q1 q2 q t p1 p2 rec;exact .list_tuple p1 p2 a;exact .tuple_none p1 a;exact .tuple_bool h p1 a;exact .tuple_int i c p1 a;exact .tuple_str j c p1 a;exact .tuple_list p1 p2 a;exact s_ ok x o a q1 q2 q t p1 p2 rec
def GD(ok:HOk P w H s.heap)(a:A.units<cLine)(rec:oT H s m m' A n)(x:d.dep<=n)(G:n<1000)(o:e.dep<1000)(h1:Is H m d v)(y:Is H m' e w')(z:RelV v u)(B:RelV w' u') :
 SeqAt.RcNeAt A s u u' (!fW d e):=by
 rcases h1.shape ok (by lia) z with⟨rfl,rfl⟩|⟨f,rfl,rfl⟩|⟨g,b,rfl,rfl⟩|⟨x1,b,rfl,rfl⟩|⟨C,D,p,k,rfl,rfl,rfl,q1,q,p1⟩|⟨C,D,p,k,rfl,rfl,rfl,q1,q,p1⟩<;>rcases y.shape ok o B with⟨rfl,rfl⟩|⟨h,rfl,rfl⟩|⟨i,c,rfl,rfl⟩|⟨j,c,rfl,rfl⟩|⟨E,F,r,l,rfl,rfl,rfl,q2,t,p2⟩|⟨E,F,r,l,rfl,rfl,rfl,q2,t,p2⟩;exact .none_none;exact .none_bool h;exact .none_int i c;exact .none_str j c;exact .none_list p2 a;exact .none_tuple p2 a;exact .bool_none f;exact .bool_bool f h;exact .bool_int f i c;exact .bool_str f j c;exact .bool_list f p2 a;exact .bool_tuple f p2 a;exact .int_none g b;exact .int_bool g b h;exact .int_int g b i c;exact .int_str g b j c;exact .int_list g b p2 a;exact .int_tuple g b p2 a;exact .str_none x1 b;exact .str_bool x1 b h;exact .str_int x1 b i c;exact .str_str x1 b j c;exact .str_list x1 b p2 a;exact .str_tuple x1 b p2 a;exact .list_none p1 a;exact .list_bool h p1 a;exact .list_int i c p1 a;exact .list_str j c p1 a;exact ui ok x o a q1 q2 q t p1 p2 rec;exact .list_tuple p1 p2 a;exact .tuple_none p1 a;exact .tuple_bool h p1 a;exact .tuple_int i c p1 a;exact .tuple_str j c p1 a;exact .tuple_list p1 p2 a;exact wb ok x o a q1 q2 q t p1 p2 rec
def zI(ok:HOk P w H s.heap)(a:A.units<cLine)(rec:oT H s m m' A n)(y:d.dep<=n)(I:n<1000)(o:e.dep<1000)(h1:Is H m d v)(p:Is H m' e w')(B:RelV v u)(C:RelV w' u') :
 SeqAt.EqAt A s u u' (fW d e):=by
 rcases h1.shape ok (by lia) B with⟨rfl,rfl⟩|⟨f,rfl,rfl⟩|⟨g,b,rfl,rfl⟩|⟨x1,b,rfl,rfl⟩|⟨D,E,q,k,rfl,rfl,rfl,q1,r,p1⟩|⟨D,E,q,k,rfl,rfl,rfl,q1,r,p1⟩<;>rcases p.shape ok o C with⟨rfl,rfl⟩|⟨h,rfl,rfl⟩|⟨i,c,rfl,rfl⟩|⟨j,c,rfl,rfl⟩|⟨F,G,t,l,rfl,rfl,rfl,q2,x,p2⟩|⟨F,G,t,l,rfl,rfl,rfl,q2,x,p2⟩;exact .same _;exact .none_bool h;exact .none_int i c;exact .none_str j c;exact .none_list p2 a;exact .none_tuple p2 a;exact .bool_none f;exact .bool_bool f h;exact .bool_int f i c;exact .bool_str f j c;exact .bool_list f p2 a;exact .bool_tuple f p2 a;exact .int_none g b;exact .int_bool g b h;exact .int_int g b i c;exact .int_str g b j c;exact .int_list g b p2 a;exact .int_tuple g b p2 a;exact .str_none x1 b;exact .str_bool x1 b h;exact .str_int x1 b i c;exact .str_str x1 b j c;exact .str_list x1 b p2 a;exact .str_tuple x1 b p2 a;exact .list_none p1 a;exact .list_bool h p1 a;exact .list_int i c p1 a;exact .list_str j c p1 a;exact wc (qC ok y o a q1 q2 r x p1 p2 rec) (λz=>by subst z;rw[Is.inj h1 p];exact qA _);exact .list_tuple p1 p2 a;exact .tuple_none p1 a;exact .tuple_bool h p1 a;exact .tuple_int i c p1 a;exact .tuple_str j c p1 a;exact .tuple_list p1 p2 a;exact wc (s_ ok y o a q1 q2 r x p1 p2 rec) (λz=>by subst z;rw[Is.inj h1 p];exact qA _)
theorem Do(ok:HOk P w H s.heap):∀(n:Nat)(A:XH){d e:D}{v c:V}{u u':XG},A.units+n<cLine->n<1000->d.dep<=n->e.dep<1000->Is H m d v->Is H m' e c->RelV v u->RelV c u'->SeqAt.EqAt A s u u' (fW d e)
 |0,A,d,e,v,c,u,u',j,f,g,h,h1,i,a,b=>zI ok (by lia) (λd e v w u u' hd=>absurd hd (by lia)) g f h h1 i a b
 |n+1,A,d,e,v,c,u,u',j,f,g,h,h1,i,a,b=>zI ok (by lia) (λd e v w u u' hd k l o a b=>Do ok n A.in1 (by show A.units+1+n<cLine;lia) (by lia) (by lia) k l o a b) g f h h1 i a b
def Dp(ok:HOk P w H s.heap)(h:A.units+n<cLine)(i:n<1000):oT H s m m' A n:=λd e v w u u' hd a b c f g=>Do ok (n-1) A.in1 (by show A.units+1+(n-1)<cLine;lia) (by lia) (by lia) a b c f g
end
abbrev St:=L2.St
inductive Res(α:Type) where
 |stuck|ok (a:α)|exc (c:Str)
noncomputable def Res.bind{α b:Type}:Res α->(α->Res b)->Res b
 |.stuck,_=>.stuck
 |.exc c,_=>.exc c
 |.ok a,k=>k a
@[simp] theorem Res.lr {α b:Type}(a:α)(k:α->Res b):(Res.ok a).bind k=k a:=rfl
inductive Kd where
 |no|tr (d:D)|ds (d:D)
inductive Sl where
 |val (d:D) (fr:Bool)|own (ds:List D) (fr:Bool)|lP (d:D)|Ce (d:D)
noncomputable abbrev En:=List (Option Sl)
inductive R where
 |val (d:D) (fr:Bool) (al:List Nat)|new (ds:List D) (fr:Bool)|jJ (d:D)
noncomputable def R.d:R->D
 |.val d _ _=>d
 |.new ds _=>.lst ds
 |.jJ d=>d
noncomputable def R.fr:R->Bool
 |.val _ f _=>f
 |.new _ f=>f
 |.jJ _=>true
noncomputable def R.al:R->List Nat
 |.val _ _ al=>al
 |.new _ _=>[]
 |.jJ _=>[]
def jh(d:D)(fr:Bool)(al:List Nat):R:=if d.flat then .val d true []else .val d fr al
structure Gd where
 H₀:Hp
 Ma:Addr->Prop
 Z:Addr->Prop
 root:Option V
 QZ:Option V
noncomputable abbrev Oe(H:Hp)(Ma:Addr->Prop):Gd:=⟨H,Ma,λ_=>False,none,none⟩
def MuZ(g:Gd)(H:Hp)(a:Addr):Prop:=Mu H a\/(g.Z a/\∃o u,H a=some (.ba o u))
theorem MuZ.same(h:MuZ g H a)(s:∀o,H a=some o->H' a=some o):MuZ g H' a:=h.imp (λz=>z.same s) λ⟨z,o,u,e⟩=>⟨z,o,u,s _ e⟩
def f9(g:Gd)(M:Addr->Prop)(fr:Bool)(a:Addr):Prop:=M a/\(fr=true->g.H₀ a=none)
noncomputable abbrev Pr:=Nat->Addr->Prop
def vmsk(g:Gd)(M:Addr->Prop)(fr:Bool)(b:Pr)(al:List Nat)(a:Addr):Prop:=f9 g M fr a\/∃i,i∈al/\b i a
mutual
noncomputable def IsSh(H:Hp)(m:Addr->Prop):D->V->Prop
 |.tup ds,v=>∃a vs,v=.ref a/\H a=some (.tup vs)/\IsShs H m ds vs
 |.lst _,v=>∃a vs,v=.ref a/\H a=some (.lst vs)/\m a
 |_,_=>True
noncomputable def IsShs(H:Hp)(m:Addr->Prop):List D->List V->Prop
 |[],_=>True
 |d::ds,vs=>∃v r,vs=v::r/\IsSh H m d v/\IsShs H m ds r
end
def Dst(H:Hp)(T:Addr->Prop)(v:V):Prop:=∃(a:Addr)(vs:List V),v=.ref a/\T a/\(H a=some (.lst vs)\/(∃kvs,H a=some (.dK kvs)/\vs=kvs.map Prod.snd)\/(H a=some (.dT [])/\vs=[]))/\V.ref a∉vs/\∀(i j:Nat)(b:Addr),vs[i]?=some (V.ref b)->vs[j]?=some (V.ref b)->i=j
def Dst.mono(kp:∀a o,T a->H a=some o->H' a=some o)(b:∀a,T a->T' a)(h:Dst H T v):Dst H' T' v:=by obtain⟨a,vs,e,ta,h1,c⟩:=h;exact⟨a,vs,e,b a ta,h1.imp (kp a _ ta) (.imp (λ⟨kvs,q,z⟩=>⟨kvs,kp a _ ta q,z⟩) λ⟨q,z⟩=>⟨kp a _ ta q,z⟩),c⟩
def KdOk(H:Hp)(T:Addr->Prop)(v:V):Kd->Prop
 |.no=>True
 |.tr d=>Is H T d v
 |.ds d=>Is H T d v/\Dst H T v
theorem KdOk.mono(kp:∀a o,H a=some o->(T a\/iL o)->H' a=some o)(h:KdOk H T v k):KdOk H' T v k:=by
 cases k with
 |no=>exact h
 |tr d=>exact Is.mono kp (λ_ _ _ z=>z) h
 |ds d=>exact⟨Is.mono kp (λ_ _ _ z=>z) h.1,h.2.mono (λa o z e=>kp a o e (.inl z)) λ_ z=>z⟩
noncomputable def Gd.rt(g:Gd)(n:Nat):Option V:=if n=0 then g.root else g.QZ
def SlOk(g:Gd)(M T:Addr->Prop)(H:Hp)(v:V):Sl->Prop
 |.val d fr=>Is H (f9 g M fr) d v
 |.own ds fr=>∃a vs,v=.ref a/\H a=some (.lst vs)/\(∀b,T b↔b=a)/\IsAll H (f9 g M fr) ds vs
 |.lP d=>Is H T d v
 |.Ce d=>IsSh H T d v
noncomputable def Sl.QR:Sl->Bool
 |.val _ _=>false
 |_=>true
def iB(env:En)(j:Nat):Bool:=match env[j]? with
 |some (some sl)=>sl.QR
 |_=>false
structure Rep(g:Gd) (M:Addr->Prop) (ρ:Pr) (env:En) (σ:St) (H:Hp):Prop where
 same:Same g.H₀ H
 jI:∀a,M a->H a≠none
 vh:∀a,M a->g.H₀ a=none\/g.Ma a
 fl:∀a,M a->g.H₀ a=none->MuZ g H a
 slot:∀(i:Nat)(sl:Sl),env[i]?=some (some sl)->∃v,σ[i]?=some (some v)/\SlOk g M (ρ i) H v sl
 cc:∀(i:Nat)(a:Addr),ρ i a->¬M a/\g.H₀ a=none/\Mu H a
 apart:∀(i j:Nat)(a:Addr),ρ i a->ρ j a->i=j
 ow:∀(i:Nat)(a:Addr),ρ i a->iB env i=true
 len:env.length=σ.length
 zz:∀a,g.Z a->H a≠none
def ROk(g:Gd)(M:Addr->Prop)(b:Pr)(c H:Hp)(v:V):R->Prop
 |.val d fr al=>Is H (vmsk g M fr b al) d v
 |.new ds fr=>∃a vs,v=.ref a/\H a=some (.lst vs)/\¬M a/\c a=none/\(∀i,¬b i a)/\IsAll H (f9 g M fr) ds vs
 |.jJ d=>∃T:Addr->Prop,(∀a,T a->¬M a/\c a=none/\Mu H a/\∀i,¬b i a)/\Is H T d v
structure Ext(M:Addr->Prop) (H:Hp) (M':Addr->Prop) (H':Hp):Prop where
 m:∀a,M a->M' a
 h:Same H H'
 n:∀a,M' a->M a\/H a=none
theorem Ext.refl(M:Addr->Prop)(H:Hp):Ext M H M H:=⟨λ_ z=>z,Same.refl H,λ_ z=>.inl z⟩
theorem Ext.trans{M M1 M2:Addr->Prop}(a:Ext M H M1 H1)(b:Ext M1 H1 M2 H2):Ext M H M2 H2:=⟨λx z=>b.m x (a.m x z),a.h.trans b.h,λx z=>(b.n x z).elim (a.n x) λw=>.inr (a.h.free w)⟩
section
variable{g:Gd}{M M':Addr->Prop}{ρ:Pr}{env:En}{σ:St}{H H' H0:Hp}{fr:Bool}{al:List Nat}
mutual
theorem IsSh.mono(kp:∀a o,H a=some o->iL o->H' a=some o)(c:∀a vs,m a->H a=some (.lst vs)->∃vs',H' a=some (.lst vs'))(f:∀a,m a->m' a):∀{d:D}{v:V},IsSh H m d v->IsSh H' m' d v
 |.bn,_,h=>h
 |.bl _,_,h=>h
 |.int _,_,h=>h
 |.str _,_,h=>h
 |.tup ds,_,h=>by obtain⟨a,vs,e,h1,b⟩:=h;exact⟨a,vs,e,kp a _ h1 True.intro,IsShs.mono kp c f b⟩
 |.lst ds,_,h=>by obtain⟨a,vs,e,h1,b⟩:=h;obtain⟨vs',i⟩:=c a vs b h1;exact⟨a,vs',e,i,f a b⟩
 |.dZ _ _,_,h=>h
theorem IsShs.mono(kp:∀a o,H a=some o->iL o->H' a=some o)(b:∀a vs,m a->H a=some (.lst vs)->∃vs',H' a=some (.lst vs'))(c:∀a,m a->m' a):∀{ds:List D}{vs:List V},IsShs H m ds vs->IsShs H' m' ds vs
 |[],_,h=>h
 |d::ds,_,h=>by obtain⟨v,r,e,h1,f⟩:=h;exact⟨v,r,e,IsSh.mono kp b c h1,IsShs.mono kp b c f⟩
end
def f9.mono(b:∀a,M a->M' a)(h:f9 g M fr a):f9 g M' fr a:=⟨b a h.1,h.2⟩
theorem vmsk.mono(b:∀a,M a->M' a)(h:vmsk g M fr ρ al a):vmsk g M' fr ρ al a:=h.imp (f9.mono b) id
def Is.ext(e:Ext M H M' H')(h:Is H (vmsk g M fr ρ al) d v):Is H' (vmsk g M' fr ρ al) d v:=h.mono (λa o q _=>e.h a o q) λ_ _ _ z=>z.mono e.m
def IsAll.ext(e:Ext M H M' H')(h:IsAll H (vmsk g M fr ρ al) ds vs):IsAll H' (vmsk g M' fr ρ al) ds vs:=h.mono (λa o q _=>e.h a o q) λ_ _ _ z=>z.mono e.m
theorem SlOk.weak(c:∀a,M a->M' a)(h:SlOk g M T H v sl):SlOk g M' T H v sl:=by
 cases sl with
 |val d fr=>exact Is.weak (λb z=>f9.mono c z) h
 |own ds fr=>obtain⟨b,vs,rfl,h1,e,f⟩:=h;exact⟨b,vs,rfl,h1,e,IsAll.weak (λb z=>f9.mono c z) f⟩
 |lP d=>exact h
 |Ce d=>exact h
theorem SlOk.same(s:Same H H')(h:SlOk g M T H v sl):SlOk g M T H' v sl:=by
 cases sl with
 |val d fr=>exact Is.same s h
 |own ds fr=>obtain⟨b,vs,rfl,h1,c,f⟩:=h;exact⟨b,vs,rfl,s _ _ h1,c,IsAll.same s f⟩
 |lP d=>exact Is.same s h
 |Ce d=>exact IsSh.mono (λa o e _=>s a o e) (λa vs _ e=>⟨vs,s _ _ e⟩) (λ_ z=>z) h
def Rep.Fz{T:Addr->Prop}(r:Rep g M ρ env σ H)(ht:∀a,T a->Mu H a/\g.H₀ a=none/\∀i,¬ρ i a):Rep g (λb=>M b\/T b) ρ env σ H where
 same:=r.same
 jI:=λb hb=>hb.elim (r.jI b) λe=>(ht b e).1.some
 vh:=λb hb=>hb.elim (r.vh b) λe=>.inl (ht b e).2.1
 fl:=λb hb h0=>hb.elim (λz=>r.fl b z h0) λe=>.inl (ht b e).1
 slot:=λi sl e=>by obtain⟨v,ev,s⟩:=r.slot i sl e;exact⟨v,ev,SlOk.weak (λ_=>.inl) s⟩
 cc:=λi a h=>⟨λz=>z.elim (r.cc i a h).1 λz=>(ht a z).2.2 i h,(r.cc i a h).2⟩
 apart:=r.apart
 ow:=r.ow
 len:=r.len
 zz:=r.zz
def Rep.more{a:Addr}(r:Rep g M ρ env σ H)(ha:H a=some (.lst ws))(c:g.H₀ a=none)(no:∀i,¬ρ i a):Rep g (λb=>M b\/b=a) ρ env σ H:=r.Fz λb e=>by subst e;exact⟨Mu.lst ha,c,no⟩
def Rep.grow(r:Rep g M ρ env σ H)(s:Same H H'):Rep g M ρ env σ H' where
 same:=r.same.trans s
 jI:=λa ha e=>by
  cases q:H a with
  |none=>exact r.jI a ha q
  |some o=>rw[s a o q]at e;cases e
 vh:=r.vh
 fl:=λa ha h0=>(r.fl a ha h0).same λo e=>s a o e
 slot:=λi sl e=>by obtain⟨v,ev,k⟩:=r.slot i sl e;exact⟨v,ev,SlOk.same s k⟩
 cc:=λi a h=>let ⟨a1,a2,a3⟩:=r.cc i a h;⟨a1,a2,a3.same λo e=>s a o e⟩
 apart:=r.apart
 ow:=r.ow
 len:=r.len
 zz:=λa z e=>by
  cases q:H a with
  |none=>exact r.zz a z q
  |some o=>rw[s a o q]at e;cases e
theorem Rep.free(r:Rep g M ρ env σ H)(h:H a=none):g.H₀ a=none/\¬M a/\∀i,¬ρ i a:=by refine⟨r.same.free h,λz=>r.jI a z h,λi o=>?_⟩;exact(r.cc i a o).2.2.some h
def aP(h:H a=none):Same H (aO H a o):=λb u e=>by rw[af (ao e h)];exact e
theorem ROk.is(c:Rep g M ρ env σ H)(x:Ext M0 H0 M H)(f:Same g.H₀ H0)(h:ROk g M ρ H0 H v r):∃M',Ext M0 H0 M' H/\(∀a,M a->M' a)/\Rep g M' ρ env σ H/\Is H (vmsk g M' r.fr ρ r.al) r.d v:=by
 cases r with
 |val d fr al=>exact⟨M,x,λ_ z=>z,c,h⟩
 |new ds fr=>obtain⟨a,vs,rfl,h1,t,j,l,o⟩:=h;have k:g.H₀ a=none:=f.free j;exact⟨λb=>M b\/b=a,⟨λb z=>.inl (x.m b z),x.h,λb z=>z.elim (x.n b) λe=>.inr (e▸j)⟩,λ_=>.inl,c.more h1 k l,a,vs,rfl,.inl ⟨h1,.inl ⟨.inr rfl,λ_=>k⟩⟩,IsAll.weak (λb z=>.inl (f9.mono (λ_=>.inl) z)) o⟩
 |jJ d=>obtain⟨T,i,is⟩:=h;exact⟨λb=>M b\/T b,⟨λb z=>.inl (x.m b z),x.h,λb z=>z.elim (x.n b) λe=>.inr (i b e).2.1⟩,λ_=>.inl,c.Fz λa z=>let ⟨u,p,q,s⟩:=i a z;⟨q,f.free p,s⟩,Is.weak (λb z=>.inl ⟨.inr z,λ_=>f.free (i b z).2.1⟩) is⟩
theorem ROk.jh(h:Is H (vmsk g M fr ρ al) d v):ROk g M ρ H0 H v (jh d fr al):=by
 unfold L3.jh;split
 .exact Is.flat (by assumption) h
 .exact h
def ROk.back(s:Same H1 H0)(h:ROk g M ρ H0 H v r):ROk g M ρ H1 H v r:=by
 cases r with
 |val d fr al=>exact h
 |new ds fr=>obtain⟨a,vs,rfl,h1,b,c,e,f⟩:=h;exact⟨a,vs,rfl,h1,b,s.free c,e,f⟩
 |jJ d=>obtain⟨T,i,is⟩:=h;exact⟨T,λa z=>let ⟨j,k,l⟩:=i a z;⟨j,s.free k,l⟩,is⟩
end
def GE(mg:Str->Option XG)(E:XK)(g:Gd)(c:Str):Prop:=∀cls a H',mg c=some cls->Same g.H₀ H'->E cls a H'
section
variable(mg:Str->Option XG)(E:XK)(g:Gd)(M:Addr->Prop)(ρ:Pr)(env:En)(σ:St)(H:Hp)
def PostE(Q:VK):Res R->Prop
 |.stuck=>False
 |.exc c=>GE mg E g c
 |.ok r=>∀v a H',Ext M H a H'->Rep g a ρ env σ H'->ROk g a ρ H H' v r->Q v H'
def bZ(rs:List R):Bool:=rs.all R.fr
def cO(rs:List R):List Nat:=rs.flatMap R.al
def PostA(Q:List V->Hp->Prop):Res (List R)->Prop
 |.stuck=>False
 |.exc c=>GE mg E g c
 |.ok rs=>∀vs a H',Ext M H a H'->Rep g a ρ env σ H'->IsAll H' (vmsk g a (bZ rs) ρ (cO rs)) (rs.map R.d) vs->Q vs H'
noncomputable def PostT(Q:Bool->Hp->Prop):Res Bool->Prop
 |.stuck=>False
 |.exc c=>GE mg E g c
 |.ok b=>∀a H',Ext M H a H'->Rep g a ρ env σ H'->Q b H'
end
def Snd(mg:Str->Option XG)(E:XK)(t:TE)(f:En->Res R):Prop:=∀g M a env σ H Q,Rep g M a env σ H->PostE mg E g M a env σ H Q (f env)->t σ H Q
def SndA(mg:Str->Option XG)(E:XK)(t:TA)(f:En->Res (List R)):Prop:=∀g M a env σ H Q,Rep g M a env σ H->PostA mg E g M a env σ H Q (f env)->t σ H Q
def SndT(mg:Str->Option XG)(E:XK)(t:TT)(f:En->Res Bool):Prop:=∀g M a env σ H Q,Rep g M a env σ H->PostT mg E g M a env σ H Q (f env)->t σ H Q
def PD(X:Cx)(E:XK)(e:Expr)(f:En->Res R):Prop:=∃t,PE X e t/\Snd X.mg E t f
def Dq(X:Cx)(E:XK)(es:List Expr)(f:En->Res (List R)):Prop:=∃t,PA X es t/\SndA X.mg E t f
def xL(X:Cx)(E:XK)(e:Expr)(f:En->Res Bool):Prop:=∃t,PT X e t/\SndT X.mg E t f
def PWD(X:Cx)(E:XK)(e:Expr)(f:En->Res Bool):Prop:=∃t,PW X e t/\SndT X.mg E t f
theorem PWD.pt(h:PWD X E e f):xL X E e f:=let ⟨t,a,b⟩:=h;⟨t,a.pt,b⟩
section
variable{mg:Str->Option XG}{E:XK}{g:Gd}{M M':Addr->Prop}{ρ:Pr}{env:En}{σ:St}{H H':Hp}
def PostE.ext(e:Ext M H M' H')(p:PostE mg E g M ρ env σ H Q r):PostE mg E g M' ρ env σ H' Q r:=by
 cases r with
 |stuck=>exact p
 |exc c=>exact p
 |ok r=>exact λv M2 b e2 a ro=>p v M2 b (e.trans e2) a (ro.back e.h)
def PostA.ext(e:Ext M H M' H')(p:PostA mg E g M ρ env σ H Q r):PostA mg E g M' ρ env σ H' Q r:=by
 cases r with
 |stuck=>exact p
 |exc c=>exact p
 |ok r=>exact λv M2 a e2=>p v M2 a (e.trans e2)
def PostT.ext(e:Ext M H M' H')(p:PostT mg E g M ρ env σ H Q r):PostT mg E g M' ρ env σ H' Q r:=by
 cases r with
 |stuck=>exact p
 |exc c=>exact p
 |ok r=>exact λM2 a e2=>p M2 a (e.trans e2)
def PostE.val(p:PostE mg E g M ρ env σ H Q (.ok (jh d fr al)))(a:Rep g M ρ env σ H)(h:Is H (vmsk g M fr ρ al) d v):Q v H:=p v M H (Ext.refl M H) a (ROk.jh h)
theorem PostE.new(p:PostE mg E g M ρ env σ H Q (.ok (.new ds fr)))(b:Rep g M ρ env σ H)(ha:H a=none)(h:IsAll H (f9 g M fr) ds vs):Q (.ref a) (aO H a (.lst vs)):=by have s:Same H (aO H a (.lst vs)):=aP ha;obtain⟨e,c,d⟩:=b.free ha;exact p _ M _ ⟨λ_ z=>z,s,λ_ z=>.inl z⟩ (b.grow s) ⟨a,vs,rfl,ag,c,ha,d,IsAll.same s h⟩
theorem PostE.tup(p:PostE mg E g M ρ env σ H Q (.ok (jh (.tup ds) fr al)))(b:Rep g M ρ env σ H)(ha:H a=none)(h:IsAll H (vmsk g M fr ρ al) ds vs):Q (.ref a) (aO H a (.tup vs)):=by have s:Same H (aO H a (.tup vs)):=aP ha;exact p _ M _ ⟨λ_ z=>z,s,λ_ z=>.inl z⟩ (b.grow s) (ROk.jh ⟨a,vs,rfl,ag,IsAll.same s h⟩)
def Snd.one{t:TE}{f:En->Res R}(h:Snd mg E t f)(b:Rep g M ρ env σ H){α:Type}{K:R->Res α}{P:(M:Addr->Prop)->(H:Hp)->Res α->Prop}{Q:VK}
 (a:P M H ((f env).bind K)) (hs:∀M H,P M H .stuck->False) (l:∀M H c,P M H (.exc c)->GE mg E g c) (m:∀M H M' H' r,Ext M H M' H'->P M H r->P M' H' r)
 (k:∀r v M' H',Ext M H M' H'->Rep g M' ρ env σ H'->Is H' (vmsk g M' r.fr ρ r.al) r.d v->P M' H' (K r)->Q v H'):t σ H Q:=by
 refine h g M ρ env σ H Q b ?_;cases e:f env with
 |stuck=>rw[e]at a;exact hs _ _ a
 |exc c=>rw[e]at a;exact l _ _ c a
 |ok r=>rw[e]at a;intro v M1 n e1 i ro;obtain⟨M2,e2,_,j,is⟩:=ro.is i e1 b.same;exact k r v M2 n e2 j is (m _ _ _ _ _ e2 a)
def Snd.gh{f:En->Res R}(h:Snd mg E t f)(a:Rep g M ρ env σ H){K:R->Res R}(b:PostE mg E g M ρ env σ H Q' ((f env).bind K))
 (k:∀r v M' H',Ext M H M' H'->Rep g M' ρ env σ H'->Is H' (vmsk g M' r.fr ρ r.al) r.d v->PostE mg E g M' ρ env σ H' Q' (K r)->Q v H'):t σ H Q:=
 h.one a (P:=λM H r=>PostE mg E g M ρ env σ H Q' r) b (λ_ _ z=>z) (λ_ _ _ z=>z) (λ_ _ _ _ _ e p=>p.ext e) k
def Snd.Nf{f:En->Res R}(h:Snd mg E t f)(a:Rep g M ρ env σ H){K:R->Res (List R)}{b:List V->Hp->Prop}(c:PostA mg E g M ρ env σ H b ((f env).bind K))
 (k:∀r v M' H',Ext M H M' H'->Rep g M' ρ env σ H'->Is H' (vmsk g M' r.fr ρ r.al) r.d v->PostA mg E g M' ρ env σ H' b (K r)->Q v H'):t σ H Q:=
 h.one a (P:=λM H r=>PostA mg E g M ρ env σ H b r) c (λ_ _ z=>z) (λ_ _ _ z=>z) (λ_ _ _ _ _ e p=>p.ext e) k
def Snd.xG{f:En->Res R}(h:Snd mg E t f)(a:Rep g M ρ env σ H){K:R->Res Bool}{b:Bool->Hp->Prop}(c:PostT mg E g M ρ env σ H b ((f env).bind K))
 (k:∀r v M' H',Ext M H M' H'->Rep g M' ρ env σ H'->Is H' (vmsk g M' r.fr ρ r.al) r.d v->PostT mg E g M' ρ env σ H' b (K r)->Q v H'):t σ H Q:=
 h.one a (P:=λM H r=>PostT mg E g M ρ env σ H b r) c (λ_ _ z=>z) (λ_ _ _ z=>z) (λ_ _ _ _ _ e p=>p.ext e) k
def Snd.Cb{fa h:En->Res R}(ha:Snd mg E ta fa)(j:Snd mg E tb h)(e:Rep g M ρ env σ H){K:R->R->Res R}{S:V->V->Hp->Prop}
 (l:PostE mg E g M ρ env σ H Q' ((fa env).bind λra=>(h env).bind λa=>K ra a))
 (k:∀ra a x y M' H',Rep g M' ρ env σ H'->Is H' (vmsk g M' ra.fr ρ ra.al) ra.d x->Is H' (vmsk g M' a.fr ρ a.al) a.d y->PostE mg E g M' ρ env σ H' Q' (K ra a)->S x y H') :
 ta σ H λx i=>tb σ i λy f=>S x y f:=
 ha.gh e l λra x M1 i e1 b m p1=>j.gh b p1 λa y M2 f e2 c n p2=>k ra a x y M2 f c (m.ext e2) n p2
end
noncomputable def lim:Nat:=1000000
def j7(h:n<=lim):n<=sizeLine:=by rw[Ux];unfold lim at h;lia
def uj(h:n<lim):n<sizeLine:=by rw[Ux];unfold lim at h;lia
def mN(ds:List D)(fr:Bool)(al:List Nat):R:=if D.bW ds then .new ds true else if al.isEmpty then .new ds fr else .val (.lst ds) fr al
section
variable{mg:Str->Option XG}{E:XK}{g:Gd}{M:Addr->Prop}{ρ:Pr}{env:En}{σ:St}{H:Hp}
def vmsk.nil(h:vmsk g M fr ρ [] a):f9 g M fr a:=h.elim id λ⟨_,z,_⟩=>absurd z (by simp)
theorem PostE.lst(p:PostE mg E g M ρ env σ H Q (.ok (mN ds fr al)))(c:Rep g M ρ env σ H)(ha:H a=none)(h:IsAll H (vmsk g M fr ρ al) ds vs):Q (.ref a) (aO H a (.lst vs)):=by
 unfold mN at p;by_cases d:D.bW ds=true
 .rw[T2 d]at p;exact p.new c ha (IsAll.flat d h)
 .rw[T9 d]at p;cases al with
  |nil=>exact PostE.new (p:=p) c ha (IsAll.weak (λ_ z=>z.nil) h)
  |cons i al=>have p:PostE mg E g M ρ env σ H Q (.ok (.val (.lst ds) fr (i::al))):=p;have s:Same H (aO H a (.lst vs)):=aP ha;obtain⟨f,k,j⟩:=c.free ha;refine p _ (λb=>M b\/b=a) _ ⟨λ_=>.inl,s,λb z=>z.imp id λ(e:b=a)=>by grind⟩ ((c.grow s).more ag f j) ⟨a,vs,rfl,.inl ⟨ag,.inl ⟨.inr rfl,λ_=>f⟩⟩,?_⟩;exact(IsAll.same s h).weak λb z=>z.mono λ_=>.inl
def Is.rd(h:Is H m (.lst ds) v):∃a vs,v=.ref a/\Rd H a (.lst vs)/\IsAll H m ds vs:=by obtain⟨a,vs,e,h1,b⟩:=h;exact⟨a,vs,e,h1.imp (·.1) λ⟨o,z,_⟩=>⟨o,z⟩,b⟩
end
section
variable{X:Cx}{E:XK}
def aj(i:Nat):En->Res R:=λenv=>match env[i]? with
 |some (some (.val d fr))=>.ok (jh d fr [])
 |some (some (.own ds fr))=>.ok (.val (.lst ds) fr [i])
 |some (some (.lP d))=>.ok (.val d true [i])
 |_=>.stuck
def zJ:Snd mg E (aI i) (aj i):=by
 intro g M h env σ H Q b p;unfold aj at p;cases e1:env[i]? with
 |none=>rw[e1]at p;exact p.elim
 |some o=>
  cases o with
  |none=>rw[e1]at p;exact p.elim
  |some sl=>
   obtain⟨v,c,k⟩:=b.slot i sl e1;rw[e1]at p;refine⟨v,c,?_⟩;cases sl with
   |val d fr=>exact PostE.val p b (Is.weak (λ_ z=>.inl z) k)
   |own ds fr=>obtain⟨a,vs,rfl,h1,e,f⟩:=k;exact p _ M H (Ext.refl M H) b ⟨a,vs,rfl,.inl ⟨h1,.inr ⟨i,by simp,(e a).mpr rfl⟩⟩,IsAll.weak (λ_ z=>.inl z) f⟩
   |lP d=>exact p _ M H (Ext.refl M H) b (Is.weak (λa z=>.inr ⟨i,by simp,z⟩) k)
   |Ce d=>exact p.elim
def KP(h:PE X e (aI i)):PD X E e (aj i):=⟨_,h,zJ⟩
def vC(d:D):En->Res R:=λ_=>.ok (.val d true [])
def Ds(h:∀H m,Is H m d v):Snd mg E (tC v) (vC d):=λg M b env σ H Q a p=>p v M H (Ext.refl M H) a (h H _)
def aA{i j pos}:PD X E (.Constant (.int i) j pos) (vC (.int i)):=⟨_,aS,Ds λ_ _=>rfl⟩
def Of{b j pos}:PD X E (.Constant (.bool b) j pos) (vC (.bl b)):=⟨_,NM,Ds λ_ _=>rfl⟩
def Dt{j pos}:PD X E (.Constant .none j pos) (vC .bn):=⟨_,lT,Ds λ_ _=>rfl⟩
def v2(op:R->R->Res R)(fa a:En->Res R):En->Res R:=λenv=>(fa env).bind λra=>(a env).bind λb=>op ra b
def qD(X:Cx)(E:XK)(f:XG->XG->Sem XG)(op:R->R->Res R):Prop:=∃r:R2,OpR X f r/\
 ∀g M a env σ H Q ra b x y,Rep g M a env σ H->Is H (vmsk g M ra.fr a ra.al) ra.d x->Is H (vmsk g M b.fr a b.al) b.d y->PostE X.mg E g M a env σ H Q (op ra b)->r x y H Q
def aL(e:qD X E (binaryOp op) k)(ha:PD X E a fa)(f:PD X E b fb):PD X E (.BinOp a op b pos) (v2 k fa fb):=by obtain⟨r,h1,h⟩:=e;obtain⟨ta,i,sa⟩:=ha;obtain⟨tb,j,l⟩:=f;exact⟨_,pR h1 i j,λg M m env σ H Q d p=>sa.Cb l d p λra n x y o H' c q s t=>h g o m env σ H' Q ra n x y c q s t⟩
def uk(e:qD X E (compareOp op) k)(ha:PD X E a fa)(f:PD X E b fb)(h:behindInMarks op b=false):PD X E (.Compare a [op] [b] pos) (v2 k fa fb):=by obtain⟨r,h1,i⟩:=e;obtain⟨ta,j,sa⟩:=ha;obtain⟨tb,l,m⟩:=f;exact⟨_,zh h1 j l h,λg M n env σ H Q d p=>sa.Cb m d p λra o x y q H' c s t u=>i g q n env σ H' Q ra o x y c s t u⟩
def oI(C:Int->Int->Bool)(k:Int->Int->D)(a b:R):Res R:=match a.d,b.d with
 |.int i,.int j=>if C i j then .ok (.val (k i j) true [])else .stuck
 |_,_=>.stuck
def tf{f:XG->XG->Sem XG}{C:Int->Int->Prop}{kV:Int->Int->V}(c:Int->Int->Bool)(k:Int->Int->D)(l:OpR X f (rI C kV))(n:∀i j,c i j=true->C i j)(o:∀H m i j,Is H m (k i j) (kV i j)):qD X E f (oI c k):=by
 refine⟨_,l,λg M r env σ H Q ra q x y a b e p=>?_⟩;unfold oI at p;cases e1:ra.d with
 |int i=>
  rw[e1]at p b;cases e2:q.d with
  |int j=>
   rw[e2]at p e;cases b;cases e;by_cases h:c i j=true
   .simp only[h,Vy]at p;exact⟨i,j,rfl,rfl,n i j h,p _ M H (Ext.refl M H) a (o H _ i j)⟩
   .simp only[h]at p;exact p.elim
  |_=>rw[e2]at p;exact p.elim
 |_=>rw[e1]at p;exact p.elim
def yr{f:XG->XG->Sem XG}{kV:Int->Int->V}(k:Int->Int->D)(c:OpR X f (AK kV))(d:∀H m i j,Is H m (k i j) (kV i j)):qD X E f (oI (λ_ _=>true) k):=by refine tf (C:=λ_ _=>True) (kV:=kV) _ k (λaa s σ H x y v u Q I e g h=>?_) (λ_ _ _=>True.intro) d;obtain⟨i,j,a,b,_,q⟩:=h;exact c aa s σ H x y v u Q I e g ⟨i,j,a,b,q⟩
noncomputable def Ba(i j:Int):Bool:=(decide (-(2^64)<i)&&decide (i<2^64)) ||(decide (-(2^64)<j)&&decide (j<2^64))
def qE:R->R->Res R:=oI Ba λi j=>.int (i*j)
def nW:R->R->Res R:=oI (λ_ j=>decide (0<j)&&decide (j<1073741824)) λi j=>.int (i/j)
def dM:R->R->Res R:=oI (λ_ j=>decide (0<j)) λi j=>.int (i%j)
def j8:qD X E (binaryOp .Mult) qE:=tf _ _ Kg (λi j h=>by simp only[Ba,Bool.or_eq_true,Uv,Vu]at h;exact h) λ_ _ _ _=>rfl
def g6:qD X E (binaryOp .FloorDiv) nW:=tf _ _ FV (λi j h=>by simp only[Uv,Vu]at h;exact h) λ_ _ _ _=>rfl
def bw:qD X E (binaryOp .Mod) dM:=tf _ _ Kh (λi j h=>by simpa using h) λ_ _ _ _=>rfl
def Q9:R->R->Res R:=oI (λ_ _=>true) λi j=>.bl (decide (i<j))
def RI:R->R->Res R:=oI (λ_ _=>true) λi j=>.bl (decide (j<=i))
def IS:qD X E (compareOp .Lt) Q9:=yr _ IG λ_ _ _ _=>rfl
def Og:qD X E (compareOp .GtE) RI:=yr _ NY λ_ _ _ _=>rfl
def Inv.S5(I:L2.Inv X aa σ H s)(h:Rd H l (.lst xs)) :
 xs.length<=sizeLine/\∃(its:List XG)(n:Nat),Vals xs its/\xs.length=its.length/\s.heap.get? l=some { cls:=.type "list",data:=.seq its.toArray n }:=by
 obtain⟨z,its,n,r,e⟩:=(h.ok I.aT:ObjOk X.prog X.w H s.heap l (.lst xs));exact⟨z,its,n,r,r.length,e⟩
def Oh:R2:=λx y H Q=>∃l b xs a,x=.ref l/\y=.ref b/\Rd H l (.lst xs)/\Rd H b (.lst a)/\xs.length+a.length<=sizeLine/\∀p,H p=none->Q (.ref p) (aO H p (.lst (xs++a)))
def op_catS:OpR X (binaryOp .Add) Oh:=by
 intro aa s σ H x y v u Q I c d h;obtain⟨l,b,xs,m,rfl,rfl,f,g,hz,q⟩:=h;cases c;cases d;obtain⟨z,its,n,r,o,e⟩:=Inv.S5 I f;obtain⟨p,a,t,i,j,e2⟩:=Inv.S5 I g;refine PySem.P.add_list e e2 ?_ (by grind);have k:its.toArray++a.toArray=(its++a).toArray:=by simp
 rw[k];exact⟨.ref _,_,I.SH (t':=s.toks) (r.append i) (by grind),rfl,q _ I.fresh⟩
def f_(a b:R):Res R:=match a.d,b.d with
 |.int i,.int j=>.ok (.val (.int (i+j)) true [])
 |.lst xs,.lst c=>if xs.length+c.length<=lim then .ok (mN (xs++c) (a.fr&&b.fr) (a.al++b.al))else .stuck
 |.tup xs,.tup c=>if xs.length+c.length<=lim/\xs≠[]then .ok (jh (.tup (xs++c)) (a.fr&&b.fr) (a.al++b.al))else .stuck
 |.str x,.str y=>if x.length+y.length<=lim then .ok (.val (.str (x++y)) true [])else .stuck
 |_,_=>.stuck
section
variable{g:Gd}{M:Addr->Prop}{ρ:Pr}
def vmsk.l(h:vmsk g M f1 ρ l1 a):vmsk g M (f1&&f2) ρ (l1++l2) a:=h.imp (λz=>⟨z.1,λe=>z.2 (by grind)⟩) λ⟨i,b,o⟩=>⟨i,by simp[b],o⟩
def vmsk.r(h:vmsk g M f2 ρ l2 a):vmsk g M (f1&&f2) ρ (l1++l2) a:=h.imp (λz=>⟨z.1,λe=>z.2 (by grind)⟩) λ⟨i,b,o⟩=>⟨i,by simp[b],o⟩
end
def b8:qD X E (binaryOp .Add) f_:=by
 refine⟨_,op_add.or (op_catS.or (op_catT.or xS)),λg M v env σ H Q ra n x y c e f p=>?_⟩;unfold f_ at p;cases e1:ra.d with
 |int i=>
  rw[e1]at p e;cases e2:n.d with
  |int j=>rw[e2]at p f;cases e;cases f;exact .inl ⟨i,j,rfl,rfl,p _ M H (Ext.refl M H) c rfl⟩
  |_=>rw[e2]at p;exact p.elim
 |lst xs=>
  rw[e1]at p e;cases e2:n.d with
  |lst h=>
   rw[e2]at p f;obtain⟨a,vs,rfl,h1,k⟩:=e.rd;obtain⟨b,ws,rfl,o,m⟩:=f.rd;by_cases hz:xs.length+h.length<=lim
   .simp only[hz,Vy]at p;refine .inr (.inl ⟨a,b,vs,ws,rfl,rfl,h1,o,by rw[k.length,m.length];exact j7 hz,λq s=>?_⟩);exact p.lst c s ((k.weak λ_ z=>z.l).append (m.weak λ_ z=>z.r))
   .simp only[hz,U1]at p;exact p.elim
  |_=>rw[e2]at p;exact p.elim
 |tup xs=>
  rw[e1]at p e;cases e2:n.d with
  |tup h=>
   rw[e2]at p f;obtain⟨a,vs,rfl,h1,k⟩:=e;obtain⟨b,ws,rfl,o,m⟩:=f;dsimp only at p;by_cases hz:xs.length+h.length<=lim/\xs≠[]
   .rw[T2 hz]at p;have t:vs≠[]:=λz=>hz.2 (by have:=k.length;rw[z]at this;exact W5 this.symm);refine .inr (.inr (.inl ⟨a,b,vs,ws,rfl,rfl,SqT.of h1,SqT.of o,t,by rw[k.length,m.length];exact j7 hz.1,λz=>?_,λ_ q s=>?_⟩))
    .have u:h=[]:=by have:=m.length;rw[z]at this;exact W5 this.symm
     rw[u,Wf]at p;exact p.val c (Is.weak (d:=.tup xs) (λ_ z=>z.l) ⟨a,vs,rfl,h1,k⟩)
    .exact p.tup c s ((k.weak λ_ z=>z.l).append (m.weak λ_ z=>z.r))
   .rw[T9 hz]at p;exact p.elim
  |_=>rw[e2]at p;exact p.elim
 |str xs=>
  rw[e1]at p e;cases e2:n.d with
  |str h=>
   rw[e2]at p f;cases e;cases f;by_cases hz:xs.length+h.length<=lim
   .simp only[hz,Vy]at p;exact .inr (.inr (.inr ⟨xs,h,rfl,rfl,j7 hz,p _ M H (Ext.refl M H) c rfl⟩))
   .simp only[hz,U1]at p;exact p.elim
  |_=>rw[e2]at p;exact p.elim
 |_=>rw[e1]at p;exact p.elim
def ti(a b:R):Res R:=if a.d.dep<=50/\b.d.dep<=50 then .ok (.val (.bl (fW a.d b.d)) true [])else .stuck
def zK(a b:R):Res R:=if a.d.dep<=50/\b.d.dep<=50 then .ok (.val (.bl (!fW a.d b.d)) true [])else .stuck
def RJ:R2:=λx y H Q=>∃d e m m',Is H m d x/\Is H m' e y/\(d.dep<=50/\e.dep<=50)/\Q (.bl (fW d e)) H
def RK:R2:=λx y H Q=>∃d e m m',Is H m d x/\Is H m' e y/\(d.dep<=50/\e.dep<=50)/\Q (.bl (!fW d e)) H
def KQ(f:X.A.units+64<cLine):OpR X (compareOp .Eq) RJ:=by intro aa s σ H x y v u Q I a b h;obtain⟨d,e,m,m',h1,c,hd,q⟩:=h;exact GC I.aT (by lia) (Dp I.aT (A:=X.A) (n:=50) (by lia) (by lia)) hd.1 (by lia) (by lia) h1 c a b X.prog X.w X.xe _ ⟨.bl _,H,I,rfl,q⟩
def KR(f:X.A.units+64<cLine):OpR X (compareOp .NotEq) RK:=by intro aa s σ H x y v u Q I a b h;obtain⟨d,e,m,m',h1,c,hd,q⟩:=h;exact GD I.aT (by lia) (Dp I.aT (A:=X.A) (n:=50) (by lia) (by lia)) hd.1 (by lia) (by lia) h1 c a b X.prog X.w X.xe _ ⟨.bl _,H,I,rfl,q⟩
def lI(b:X.A.units+64<cLine):qD X E (compareOp .Eq) ti:=by
 refine⟨_,KQ b,λg M i env σ H Q ra c x y a e f p=>?_⟩;unfold ti at p;by_cases h:ra.d.dep<=50/\c.d.dep<=50
 .rw[T2 h]at p;exact⟨_,_,_,_,e,f,h,p _ M H (Ext.refl M H) a rfl⟩
 .rw[T9 h]at p;exact p.elim
def Du(b:X.A.units+64<cLine):qD X E (compareOp .NotEq) zK:=by
 refine⟨_,KR b,λg M i env σ H Q ra c x y a e f p=>?_⟩;unfold zK at p;by_cases h:ra.d.dep<=50/\c.d.dep<=50
 .rw[T2 h]at p;exact⟨_,_,_,_,e,f,h,p _ M H (Ext.refl M H) a rfl⟩
 .rw[T9 h]at p;exact p.elim
end
section
variable{X:Cx}{E:XK}
noncomputable def D.gr:D->Bool
 |.bn=>true
 |_=>false
def Is.vj(h:Is H m d v):decide (v=.bn)=d.gr:=by
 cases d with
 |bn=>cases h;rfl
 |bl b=>cases h;rfl
 |int b=>cases h;rfl
 |str b=>cases h;rfl
 |tup ds=>obtain⟨a,vs,rfl,_⟩:=h;rfl
 |lst ds=>obtain⟨a,vs,rfl,_⟩:=h;rfl
 |dZ ks ds=>obtain⟨a,vs,rfl,_⟩:=h;rfl
def KS(fa:En->Res R):En->Res R:=λenv=>(fa env).bind λra=>.ok (.val (.bl ra.d.gr) true [])
def KU(ha:PD X E a fa):PD X E (.Compare a [.Is] [.Constant .none j pos'] pos) (KS fa):=by obtain⟨ta,d,sa⟩:=ha;refine⟨_,J4 (Ck d),λg M k env σ H Q c p=>sa.gh c p λr v f H' e b i h=>?_⟩;show Q (.bl (decide (v=.bn))) H';rw[i.vj];exact h _ f H' (Ext.refl _ _) b rfl
def KW(fa:En->Res R):En->Res R:=λenv=>(fa env).bind λra=>match ra.d with
 |.bl b=>.ok (.val (.bl (!b)) true [])
 |_=>.stuck
def GF(fa a:En->Res R):En->Res R:=λenv=>(fa env).bind λra=>match ra.d with
 |.bl true=>a env
 |.bl false=>.ok (.val (.bl false) true [])
 |_=>.stuck
def KY(ha:PD X E a fa):PD X E (.UnaryOp .Not a pos) (KW fa):=by
 obtain⟨ta,j,sa⟩:=ha;refine⟨_,J9 j,λg M l env σ H Q h p=>sa.gh h p λr v k H' e c i f=>?_⟩;cases q:r.d with
 |bl b=>rw[q]at i;simp only[q]at f;cases i;exact⟨b,rfl,f _ k H' (Ext.refl _ _) c rfl⟩
 |_=>simp only[q]at f;exact f.elim
def Dv(ha:PD X E a fa):PD X E (.BoolOp op [a] pos) fa:=let ⟨t,b,sa⟩:=ha;⟨t,J7 b,sa⟩
def Dw{rest:List Expr}{fa k:En->Res R}{f:Pos}(ha:PD X E a fa)(m:PD X E (.BoolOp .And (b::rest) f) k):PD X E (.BoolOp .And (a::b::rest) f) (GF fa k):=by
 obtain⟨ta,n,sa⟩:=ha;obtain⟨tb,o,s⟩:=m;refine⟨_,J8 n o,λg M t env σ H Q j p=>sa.gh j p λr v l H' e c i h=>?_⟩;cases q:r.d with
 |bl b=>
  rw[q]at i;simp only[q]at h;cases i;refine⟨b,rfl,?_⟩;cases b with
  |true=>exact vQ (s g l t env σ H' Q c h)
  |false=>exact x9 (h _ l H' (Ext.refl _ _) c rfl)
 |_=>simp only[q]at h;exact h.elim
def IT:D->Res Bool
 |.bn=>.ok false
 |.bl b=>.ok b
 |.int i=>.ok (i != 0)
 |.str y=>if y.length<=lim then .ok ((y.length:Int) != 0)else .stuck
 |.tup ds=>.ok (!ds.isEmpty)
 |.lst ds=>.ok (!ds.isEmpty)
 |.dZ _ _=>.stuck
theorem Is.IT(h:Is H m d v)(e:IT d=.ok k):Kp X.K v H k:=by
 cases d with
 |bn=>cases h;cases e;rfl
 |bl b=>cases h;cases e;rfl
 |int b=>cases h;cases e;rfl
 |str b=>
  cases h;unfold L3.IT at e;dsimp only at e;by_cases c:b.length<=lim
  .rw[T2 c]at e;cases e;exact⟨j7 c,rfl⟩
  .rw[T9 c]at e;cases e
 |tup ds=>obtain⟨a,vs,rfl,h1,f⟩:=h;cases e;refine .inr (.inl ⟨vs,SqT.of h1,?_⟩);have:=f.length;cases ds<;>cases vs<;>simp_all
 |lst ds=>obtain⟨a,vs,rfl,h1,f⟩:=h.rd;cases e;refine .inl ⟨vs,.inl h1,?_⟩;have:=f.length;cases ds<;>cases vs<;>simp_all
 |dZ ks ds=>cases e
def Dx(fa:En->Res R):En->Res Bool:=λenv=>(fa env).bind λra=>IT ra.d
def yt(ha:PD X E a fa)(l:autoParam (∀b,isTrue a X.env b=(do let v <- b;standAt a.pos;holding [v] (truthy v))) am):xL X E a (Dx fa):=by
 obtain⟨ta,m,sa⟩:=ha;refine⟨_,Cw m l,λg M o env σ H Q j p=>sa.xG j p λr v n H' e f i h=>?_⟩;cases q:IT r.d with
 |stuck=>rw[q]at h;exact h.elim
 |exc c=>
  exfalso;unfold IT at q
  grind
 |ok k=>rw[q]at h;exact⟨k,i.IT q,h n H' (Ext.refl _ _) f⟩
def vB(fa:En->Res R):En->Res Bool:=λenv=>(fa env).bind λra=>match ra.d with
 |.bl b=>.ok b
 |_=>.stuck
def cg(m:qD X E (compareOp op) k)(ha:PD X E a fa)(n:PD X E b fb)(o:behindInMarks op b=false):xL X E (.Compare a [op] [b] pos) (vB (v2 k fa fb)):=by
 obtain⟨r,h1,s⟩:=m;obtain⟨ta,t,sa⟩:=ha;obtain⟨tb,u,w⟩:=n;have S:Snd X.mg E (lV r ta tb) (v2 k fa fb):=λg M l env σ H Q f p=>sa.Cb w f p λra z x y j H' c A B h=>s g j l env σ H' Q ra z x y c A B h;refine⟨_,je h1 t u o,λg M l env σ H Q f p=>S.xG f p λr v j H' e c i h=>?_⟩;cases q:r.d with
 |bl b=>rw[q]at i;simp only[q]at h;cases i;exact⟨b,rfl,h j H' (Ext.refl _ _) c⟩
 |_=>simp only[q]at h;exact h.elim
def GG(ha:PD X E a fa):xL X E (.Compare a [.Is] [.Constant .none j pos'] pos) (λenv=>(fa env).bind λra=>.ok ra.d.gr):=by obtain⟨ta,f,sa⟩:=ha;refine⟨_,Cm (Ck f),λg M l env σ H Q c p=>sa.xG c p λr v h H' e b i k=>?_⟩;exact⟨_,rfl,by rw[i.vj];exact k h H' (Ext.refl _ _) b⟩
def Dy(ha:PD X E a fa):xL X E (.Compare a [.IsNot] [.Constant .none j pos'] pos) (λenv=>(fa env).bind λra=>.ok (!ra.d.gr)):=by obtain⟨ta,f,sa⟩:=ha;refine⟨_,Cm (FS f),λg M l env σ H Q c p=>sa.xG c p λr v h H' e b i k=>?_⟩;exact⟨_,rfl,by rw[i.vj];exact k h H' (Ext.refl _ _) b⟩
def GH(fa:En->Res Bool):En->Res Bool:=λenv=>(fa env).bind λb=>.ok (!b)
def yu(fa a:En->Res Bool):En->Res Bool:=λenv=>(fa env).bind λb=>if b then a env else .ok false
def RN(fa a:En->Res Bool):En->Res Bool:=λenv=>(fa env).bind λb=>if b then .ok true else a env
section
variable{mg:Str->Option XG}{g:Gd}{M M':Addr->Prop}{ρ:Pr}{env:En}{σ:St}{H H':Hp}
def SndT.xG{f:En->Res Bool}(h:SndT mg E t f)(i:Rep g M ρ env σ H){K:Bool->Res Bool}{j:Bool->Hp->Prop}{Q:Bool->Hp->Prop}(a:PostT mg E g M ρ env σ H j ((f env).bind K))
 (k:∀b M' H',Ext M H M' H'->Rep g M' ρ env σ H'->PostT mg E g M' ρ env σ H' j (K b)->Q b H'):t σ H Q:=by
 refine h g M ρ env σ H Q i ?_;cases e:f env with
 |stuck=>rw[e]at a;exact a
 |exc c=>rw[e]at a;exact a
 |ok b=>rw[e]at a;exact λM1 l e1 d=>k b M1 l e1 d (PostT.ext e1 a)
def SndT.gh{f:En->Res Bool}(h:SndT mg E t f)(i:Rep g M ρ env σ H){K:Bool->Res R}{Q:Bool->Hp->Prop}(a:PostE mg E g M ρ env σ H Q' ((f env).bind K))
 (k:∀b M' H',Ext M H M' H'->Rep g M' ρ env σ H'->PostE mg E g M' ρ env σ H' Q' (K b)->Q b H'):t σ H Q:=by
 refine h g M ρ env σ H Q i ?_;cases e:f env with
 |stuck=>rw[e]at a;exact a
 |exc c=>rw[e]at a;exact a
 |ok b=>rw[e]at a;exact λM1 j e1 d=>k b M1 j e1 d (PostE.ext e1 a)
end
def zL(ha:xL X E a fa):xL X E (.UnaryOp .Not a pos) (GH fa):=by obtain⟨ta,f,sa⟩:=ha;exact⟨_,Cp f,λg M j env σ H Q d p=>sa.xG d p λb h H' e c i=>i h H' (Ext.refl _ _) c⟩
def mP(ha:xL X E a fa):PWD X E (.BoolOp .And [a] pos) fa:=let ⟨t,b,sa⟩:=ha;⟨t,FT b,sa⟩
def GI(ha:xL X E a fa):PWD X E (.BoolOp .Or [a] pos) fa:=let ⟨t,b,sa⟩:=ha;⟨t,Co b,sa⟩
def pB{rest:List Expr}{fa h:En->Res Bool}{d:Pos}(ha:xL X E a fa)(k:PWD X E (.BoolOp .And (b::rest) d) h):PWD X E (.BoolOp .And (a::b::rest) d) (yu fa h):=by
 obtain⟨ta,l,sa⟩:=ha;obtain⟨tb,m,n⟩:=k;refine⟨_,J6 l m,λg M o env σ H Q f p=>sa.xG f p λb i H' e c j=>?_⟩;cases b with
 |true=>exact vQ (n g i o env σ H' Q c j)
 |false=>exact x9 (j i H' (Ext.refl _ _) c)
def KZ{rest:List Expr}{fa h:En->Res Bool}{d:Pos}(ha:xL X E a fa)(k:PWD X E (.BoolOp .Or (b::rest) d) h):PWD X E (.BoolOp .Or (a::b::rest) d) (RN fa h):=by
 obtain⟨ta,l,sa⟩:=ha;obtain⟨tb,m,n⟩:=k;refine⟨_,IF l m,λg M o env σ H Q f p=>sa.xG f p λb i H' e c j=>?_⟩;cases b with
 |true=>exact vQ (j i H' (Ext.refl _ _) c)
 |false=>exact x9 (n g i o env σ H' Q c j)
def RO(a:En->Res Bool)(fa c:En->Res R):En->Res R:=λenv=>(a env).bind λb=>if b then fa env else c env
def Oi(k:xL X E c fc)(ha:PD X E a fa)(l:PD X E b fb):PD X E (.IfExp c a b pos) (RO fc fa fb):=by
 obtain⟨s,m,n⟩:=k;obtain⟨ta,o,sa⟩:=ha;obtain⟨tb,q,r⟩:=l;refine⟨_,Cq m o q,λg M h env σ H Q f p=>n.gh f p λb i H' e d j=>?_⟩;cases b with
 |true=>exact vQ (sa g i h env σ H' Q d j)
 |false=>exact x9 (r g i h env σ H' Q d j)
def Dz(a b:R):Res R:=match a.d,b.d with
 |.lst xs,.int i=>match dR xs i with
  |some d=>.ok (jh d a.fr a.al)
  |none=>.stuck
 |.tup xs,.int i=>match dR xs i with
  |some d=>.ok (jh d a.fr a.al)
  |none=>.stuck
 |.str z,.int i=>if z.length<=lim then(match dR z.cps.toList i with
  |some c=>.ok (.val (.str ⟨#[c]⟩) true [])
  |none=>.stuck)else .stuck
 |_,_=>.stuck
theorem IsAll.dR(h:IsAll H m ds vs)(e:L2.dR ds i=some d):∃v,L2.dR vs i=some v/\Is H m d v:=by
 unfold L2.dR at e ⊢;rw[h.length];cases q:zq ds.length i with
 |none=>rw[q]at e;cases e
 |some j=>rw[q]at e;exact h.get e
def IU:∃r:R2,IxR X r/\∀g M j env σ H Q ra b x y,Rep g M j env σ H->Is H (vmsk g M ra.fr j ra.al) ra.d x->Is H (vmsk g M b.fr j b.al) b.d y->PostE X.mg E g M j env σ H Q (Dz ra b)->r x y H Q:=by
 refine⟨_,Kw,λg M j env σ H Q ra b x y e f h p=>?_⟩;unfold Dz at p;cases e1:ra.d with
 |lst xs=>
  rw[e1]at p f;cases e2:b.d with
  |int i=>
   rw[e2]at p h;cases h;obtain⟨a,vs,rfl,h1,k⟩:=f.rd;cases q:dR xs i with
   |none=>simp only[q]at p;exact p.elim
   |some d=>simp only[q]at p;obtain⟨v,l,m⟩:=k.dR q;exact .inl ⟨a,vs,i,v,rfl,rfl,.inl h1,l,p.val e m⟩
  |_=>rw[e2]at p;exact p.elim
 |tup xs=>
  rw[e1]at p f;cases e2:b.d with
  |int i=>
   rw[e2]at p h;cases h;obtain⟨a,vs,rfl,h1,k⟩:=f;cases q:dR xs i with
   |none=>simp only[q]at p;exact p.elim
   |some d=>simp only[q]at p;obtain⟨v,l,m⟩:=k.dR q;exact .inr (.inl ⟨a,vs,i,v,rfl,rfl,SqT.of h1,l,p.val e m⟩)
  |_=>rw[e2]at p;exact p.elim
 |str z=>
  rw[e1]at p f;cases e2:b.d with
  |int i=>
   rw[e2]at p h;cases f;cases h;by_cases hz:z.length<=lim
   .simp only[hz,Vy]at p;cases q:dR z.cps.toList i with
    |none=>simp only[q]at p;exact p.elim
    |some c=>simp only[q]at p;exact .inr (.inr ⟨z,i,c,rfl,rfl,j7 hz,q,p _ M H (Ext.refl _ _) e rfl⟩)
   .simp only[hz,U1]at p;exact p.elim
  |_=>rw[e2]at p;exact p.elim
 |_=>rw[e1]at p;exact p.elim
def IV(ha:PD X E a fa)(e:PD X E b fb)(hs:tY b):PD X E (.Subscript a b pos) (v2 Dz fa fb):=by obtain⟨r,h1,f⟩:=IU (X:=X) (E:=E);obtain⟨ta,h,sa⟩:=ha;obtain⟨tb,i,j⟩:=e;exact⟨_,bI h1 h i hs,λg M k env σ H Q d p=>sa.Cb j d p λra l x y m H' c n o q=>f g m k env σ H' Q ra l x y c n o q⟩
def bE(i:Nat)(a:En->Res R):En->Res R:=λenv=>match env[i]? with
 |some (some (.own ds fr))=>(a env).bind λb=>match b.d with
  |.int k=>match dR ds k with
   |some d=>.ok (jh d fr [])
   |none=>.stuck
  |_=>.stuck
 |_=>v2 Dz (aj i) a env
def nX(ha:PE X a (aI i))(u:PD X E b fb)(hs:tY b):PD X E (.Subscript a b pos) (bE i fb):=by
 obtain⟨r,h1,A⟩:=IU (X:=X) (E:=E);obtain⟨tb,B,t⟩:=u;refine⟨_,bI (ix_list.or h1) ha B hs,λg M l env σ H Q j p=>?_⟩;have gen:PostE X.mg E g M l env σ H Q (v2 Dz (aj i) fb env)->lV (λx y H Q=>Ku X.K x y H Q\/r x y H Q) (aI i) tb σ H Q:=λp=>Snd.Cb zJ t j p λra n x y s H' c C m f=>.inr (A g s l env σ H' Q ra n x y c C m f);unfold bE at p;cases e1:env[i]? with
 |none=>rw[e1]at p;exact gen p
 |some o=>
  cases o with
  |none=>rw[e1]at p;exact gen p
  |some sl=>
   cases sl with
   |val d fr=>rw[e1]at p;exact gen p
   |lP d=>rw[e1]at p;exact gen p
   |Ce d=>rw[e1]at p;exact gen p
   |own ds fr=>
    rw[e1]at p;obtain⟨v,D,a,vs,rfl,k1,k2,F⟩:=j.slot i _ e1;refine⟨_,D,t.gh j p λn y s H' e c m f=>?_⟩;cases q:n.d with
    |int k=>
     rw[q]at m;simp only[q]at f;cases m;cases q2:dR ds k with
     |none=>simp only[q2]at f;exact f.elim
     |some d=>simp only[q2]at f;have G:IsAll H' (vmsk g s fr l []) ds vs:=(IsAll.weak (λ_ z=>.inl z) F:IsAll H (vmsk g M fr l []) ds vs).ext e;obtain⟨w,I,J⟩:=G.dR q2;exact .inl ⟨a,vs,k,w,rfl,rfl,.inl (.inl (e.h _ _ k1)),I,f.val c J⟩
    |_=>simp only[q]at f;exact f.elim
end
section
variable{mg:Str->Option XG}{E:XK}{g:Gd}{M M':Addr->Prop}{ρ:Pr}{env:En}{σ:St}{H H':Hp}
def SndA.one{t:TA}{f:En->Res (List R)}(h:SndA mg E t f)(i:Rep g M ρ env σ H){α:Type}{K:List R->Res α}{P:(M:Addr->Prop)->(H:Hp)->Res α->Prop}{Q:List V->Hp->Prop}
 (a:P M H ((f env).bind K)) (hs:∀M H,P M H .stuck->False) (j:∀M H c,P M H (.exc c)->GE mg E g c) (l:∀M H M' H' r,Ext M H M' H'->P M H r->P M' H' r)
 (k:∀rs vs M' H',Ext M H M' H'->Rep g M' ρ env σ H'->IsAll H' (vmsk g M' (bZ rs) ρ (cO rs)) (rs.map R.d) vs->P M' H' (K rs)->Q vs H'):t σ H Q:=by
 refine h g M ρ env σ H Q i ?_;cases e:f env with
 |stuck=>rw[e]at a;exact hs _ _ a
 |exc c=>rw[e]at a;exact j _ _ c a
 |ok r=>rw[e]at a;exact λvs M1 m e1 b is=>k r vs M1 m e1 b is (l _ _ _ _ _ e1 a)
def SndA.gh{f:En->Res (List R)}(h:SndA mg E t f)(a:Rep g M ρ env σ H){K:List R->Res R}{Q:List V->Hp->Prop}(b:PostE mg E g M ρ env σ H Q' ((f env).bind K))
 (k:∀rs vs M' H',Ext M H M' H'->Rep g M' ρ env σ H'->IsAll H' (vmsk g M' (bZ rs) ρ (cO rs)) (rs.map R.d) vs->PostE mg E g M' ρ env σ H' Q' (K rs)->Q vs H'):t σ H Q:=
 h.one a (P:=λM H r=>PostE mg E g M ρ env σ H Q' r) b (λ_ _ z=>z) (λ_ _ _ z=>z) (λ_ _ _ _ _ e p=>p.ext e) k
def SndA.Nf{f:En->Res (List R)}(h:SndA mg E t f)(a:Rep g M ρ env σ H){K:List R->Res (List R)}{b:List V->Hp->Prop}{Q:List V->Hp->Prop}(c:PostA mg E g M ρ env σ H b ((f env).bind K))
 (k:∀rs vs M' H',Ext M H M' H'->Rep g M' ρ env σ H'->IsAll H' (vmsk g M' (bZ rs) ρ (cO rs)) (rs.map R.d) vs->PostA mg E g M' ρ env σ H' b (K rs)->Q vs H'):t σ H Q:=
 h.one a (P:=λM H r=>PostA mg E g M ρ env σ H b r) c (λ_ _ z=>z) (λ_ _ _ z=>z) (λ_ _ _ _ _ e p=>p.ext e) k
def IsAll.args(h1:Is H (vmsk g M r.fr ρ r.al) r.d v)(b:IsAll H (vmsk g M (bZ rs) ρ (cO rs)) (rs.map R.d) vs) :
 IsAll H (vmsk g M (bZ (r::rs)) ρ (cO (r::rs))) ((r::rs).map R.d) (v::vs):=by
 refine⟨v,vs,rfl,h1.weak λa z=>?_,b.weak λa z=>?_⟩
 .exact(z.l:vmsk g M (r.fr&&bZ rs) ρ (r.al++cO rs) a)
 .exact(z.r:vmsk g M (r.fr&&bZ rs) ρ (r.al++cO rs) a)
end
section
variable{X:Cx}{E:XK}
noncomputable def aR:En->Res (List R):=λ_=>.ok []
def ai(f:En->Res R)(fs:En->Res (List R)):En->Res (List R):=λenv=>(f env).bind λr=>(fs env).bind λrs=>.ok (r::rs)
def aw:Dq X E [] aR:=⟨_,aG,λg M b env σ H Q a p=>p [] M H (Ext.refl _ _) a rfl⟩
def ac(d:PD X E e f)(h:Dq X E es fs)(hs:autoParam (starEach (e::es) X.env=(false,eval e X.env)::starEach es X.env) aM):Dq X E (e::es) (ai f fs):=by obtain⟨t,p1,s1⟩:=d;obtain⟨u,p2,s2⟩:=h;refine⟨_,ah p1 p2 hs,λg M l env σ H Q c p=>s1.Nf c p λr v M1 m e1 a i q1=>s2.Nf a q1 λrs vs M2 j e2 b k q2=>?_⟩;exact q2 (v::vs) M2 j (Ext.refl _ _) b (IsAll.args (i.ext e2) k)
def fX(fs:En->Res (List R)):En->Res R:=λenv=>(fs env).bind λrs=>if rs.length<=lim then .ok (jh (.tup (rs.map R.d)) (bZ rs) (cO rs))else .stuck
def b9(h:Dq X E es fs):PD X E (.Tuple es k pos) (fX fs):=by
 obtain⟨t,p1,s1⟩:=h;refine⟨_,dG p1,λg M f env σ H Q c p=>s1.gh c p λrs vs M1 i e1 b e q1=>?_⟩;by_cases d:rs.length<=lim
 .rw[T2 d]at q1;exact⟨by rw[e.length,TZ];exact j7 d,λa ha=>q1.tup b ha e⟩
 .rw[T9 d]at q1;exact q1.elim
def jO(fs:En->Res (List R)):En->Res R:=λenv=>(fs env).bind λrs=>if rs.length<=lim then .ok (mN (rs.map R.d) (bZ rs) (cO rs))else .stuck
def d5(h:Dq X E es fs):PD X E (.List es pos) (jO fs):=by
 obtain⟨t,p1,s1⟩:=h;refine⟨_,jf p1,λg M f env σ H Q c p=>s1.gh c p λrs vs M1 i e1 b e q1=>?_⟩;by_cases d:rs.length<=lim
 .rw[T2 d]at q1;exact⟨by rw[e.length,TZ];exact j7 d,λa ha=>q1.lst b ha e⟩
 .rw[T9 d]at q1;exact q1.elim
end
def nl(b H':Hp)(a:Addr):Prop:=b a=none/\Mu H' a
def RetOk(g:Gd)(H':Hp)(v:V):R->Prop
 |.val d fr _=>Is H' (λa=>nl g.H₀ H' a\/(fr=false/\g.Ma a)) d v
 |.new ds fr=>∃a vs,v=.ref a/\H' a=some (.lst vs)/\g.H₀ a=none/\IsAll H' (λb=>b≠a/\(nl g.H₀ H' b\/(fr=false/\g.Ma b))) ds vs
 |.jJ d=>Is H' (nl g.H₀ H') d v
def Oj(mg:Str->Option XG)(E:XK)(g:Gd)(Q:VK):Res R->Prop
 |.stuck=>False
 |.exc c=>GE mg E g c
 |.ok r=>∀v H',Same g.H₀ H'->RetOk g H' v r->Q v H'
def mQ(mg:Str->Option XG)(n:Nat)(F:List D->Res R):Sp:=λvs H Q E=>vs.length=n/\∃ds Ma,IsAll H Ma ds vs/\Oj mg E (Oe H Ma) Q (F ds)
def FF(d:D)(fr:Bool)(rs:List R):R:=if d.flat then .val d true []else if fr then .jJ d else .val d (bZ rs) (cO rs)
def iT(rs:List R):R->R
 |.val d fr _=>FF d fr rs
 |.new ds fr=>if D.bW ds then .new ds true else if fr then .jJ (.lst ds)else if(cO rs).isEmpty then .new ds (bZ rs)else .val (.lst ds) (bZ rs) (cO rs)
 |.jJ d=>FF d true rs
section
variable{g:Gd}{M:Addr->Prop}{ρ:Pr}{env:En}{σ:St}{H H':Hp}
def Rep.came(b:Rep g M ρ env σ H)(s:Same H H')(p:Addr->Prop):Rep g (λa=>M a\/(nl H H' a/\p a)) ρ env σ H':=(b.grow s).Fz λa z=>⟨z.1.2,b.same.free z.1.1,(b.free z.1.1).2.2⟩
def DA(rs:List R)(b:Rep g M ρ env σ H)(s:Same H H')(h:Is H' (λa=>nl H H' a\/(fr=false/\vmsk g M (bZ rs) ρ (cO rs) a)) d v) :
 ∃c,Ext M H c H'/\Rep g c ρ env σ H'/\ROk g c ρ H H' v (FF d fr rs):=by
 unfold FF;by_cases e:d.flat=true
 .rw[T2 e];exact⟨M,⟨λ_ z=>z,s,λ_ z=>.inl z⟩,b.grow s,Is.flat e h⟩
 .rw[T9 e];cases fr with
  |true=>
   refine⟨M,⟨λ_ z=>z,s,λ_ z=>.inl z⟩,b.grow s,nl H H',λa z=>?_,?_⟩
   .exact⟨λw=>b.jI a w z.1,z.1,z.2,(b.free z.1).2.2⟩
   .exact Is.weak (λa z=>z.elim id λw=>by cases w.1) h
  |false=>
   refine⟨_,⟨λ_=>.inl,s,λ_ z=>z.imp id (·.1.1)⟩,b.came s λ_=>True,?_⟩;refine Is.weak (λa z=>?_) h;rcases z with z|⟨_,z⟩
   .exact .inl ⟨.inr ⟨z,True.intro⟩,λ_=>b.same.free z.1⟩
   .exact z.mono λ_=>.inl
def RetOk.caller(rs:List R)(c:Rep g M ρ env σ H)(s:Same H H')(h:RetOk (Oe H (vmsk g M (bZ rs) ρ (cO rs))) H' v r) :
 ∃k,Ext M H k H'/\Rep g k ρ env σ H'/\ROk g k ρ H H' v (iT rs r):=by
 cases r with
 |val d fr al=>exact DA rs c s h
 |jJ d=>exact DA rs c s (Is.weak (λa z=>.inl z) h)
 |new ds fr=>
  obtain⟨a,vs,rfl,h1,f,j⟩:=h;have f:H a=none:=f;obtain⟨t,x,l⟩:=c.free f;have m:Rep g (λb=>M b\/(nl H H' b/\b≠a)) ρ env σ H':=c.came s λb=>b≠a;have u:¬(M a\/(nl H H' a/\a≠a)):=λz=>z.elim x λz=>z.2 rfl;have o:Ext M H (λb=>M b\/(nl H H' b/\b≠a)) H':=⟨λ_=>.inl,s,λ_ z=>z.imp id (·.1.1)⟩;unfold iT;dsimp only;by_cases i:D.bW ds=true
  .rw[T2 i];exact⟨_,o,m,a,vs,rfl,h1,u,f,l,IsAll.flat i j⟩
  .rw[T9 i];cases fr with
   |true=>
    refine⟨M,⟨λ_ z=>z,s,λ_ z=>.inl z⟩,c.grow s,nl H H',λa z=>?_,?_⟩
    .exact⟨λw=>c.jI a w z.1,z.1,z.2,(c.free z.1).2.2⟩
    .exact⟨a,vs,rfl,.inl ⟨h1,f,Mu.lst h1⟩,IsAll.weak (λb z=>z.2.elim id λw=>by cases w.1) j⟩
   |false=>
    simp only[Ud,U1];by_cases p:(cO rs).isEmpty=true
    .rw[T2 p];refine⟨_,o,m,a,vs,rfl,h1,u,f,l,?_⟩;refine IsAll.weak (λb z=>?_) j;rcases z with⟨q,z|⟨y,z⟩⟩
     .exact⟨.inr ⟨z,q⟩,λ_=>c.same.free z.1⟩
     .have A:cO rs=[]:=by simpa using p
      have z:vmsk g M (bZ rs) ρ (cO rs) b:=z;rw[A]at z;exact⟨.inl z.nil.1,z.nil.2⟩
    .rw[T9 p];refine⟨λb=>(M b\/(nl H H' b/\b≠a))\/b=a,⟨λ_ z=>.inl (.inl z),s,λb z=>z.elim (o.n b) λe=>.inr (e▸f)⟩,m.more h1 t l,a,vs,rfl,.inl ⟨h1,.inl ⟨.inr rfl,λ_=>t⟩⟩,?_⟩;refine IsAll.weak (λb z=>?_) j;rcases z with⟨q,z|⟨y,z⟩⟩
     .exact .inl ⟨.inl (.inr ⟨z,q⟩),λ_=>c.same.free z.1⟩
     .exact vmsk.mono (λ_ w=>.inl (.inl w)) z
end
section
variable{X:Cx}{E:XK}{CX:AQ}{k:Nat}{f:Addr}{fd:FuncData}{ps:List Str}{F:List D->Res R}{x:Str}{p pos:Pos}{e:Expr}{es:List Expr}{fs:En->Res (List R)}
def bS(F:List D->Res R)(fs:En->Res (List R)):En->Res R:=λenv=>(fs env).bind λrs=>(F (rs.map R.d)).bind λr=>.ok (iT rs r)
def DB(l:∀env rs,fs env=.ok rs->rs.length=ps.length)(s:SndA X.mg E t fs):Snd X.mg E (zj (mQ X.mg ps.length F) [] E t) (bS F fs):=by
 intro g M j env σ H Q h p;refine s g M j env σ H _ h ?_;unfold bS at p;cases e:fs env with
 |stuck=>rw[e]at p;exact p
 |exc c=>rw[e]at p;exact p
 |ok rs=>
  rw[e]at p;intro vs M1 m e1 a is;have p1:PostE X.mg E g M1 j env σ m Q ((F (rs.map R.d)).bind λr=>.ok (iT rs r)):=PostE.ext e1 p;rw[Wf];refine⟨by rw[is.length,TZ];exact l env rs e,rs.map R.d,_,is,?_⟩;cases q:F (rs.map R.d)with
  |stuck=>rw[q]at p1;exact p1
  |exc c=>rw[q]at p1;exact λcls n H' h1 o=>p1 cls n H' h1 (a.same.trans o)
  |ok r=>rw[q]at p1;intro v u s2 ro;obtain⟨w,y,b,i⟩:=RetOk.caller rs a s2 ro;exact p1 v w u y b i
def GJ(G:bH X.prog X.w X.K X.mg X.base CX k f fd ps (mQ X.mg ps.length F))(c:dQ k X.A)(d:Gl X x)(g:X.mg x=some (.ref f))(h:keepIn X.K (.ref f)=true)(i:Binds X.K fd ps [])(j:gU CX X E)
 (ha:Dq X E (e::es) fs) (l:∀env rs,fs env=.ok rs->rs.length=ps.length) (a:autoParam (dB x) ab) (m:autoParam (sE X e es) aM) (b:autoParam (bT X pos es) aM) :
 PD X E (.Call (.Name x p) (e::es) [] pos) (bS F fs):=by
 obtain⟨t,p1,s1⟩:=ha;exact⟨_,tW G c d g h i .nil j p1 a m b,DB l s1⟩
def aY:∀env rs,aR env=.ok rs->rs.length=0:=λ_ _ e=>by cases e;rfl
def av{f:En->Res R}{fs:En->Res (List R)}(h:∀env rs,fs env=.ok rs->rs.length=n):∀env rs,ai f fs env=.ok rs->rs.length=n+1:=λenv rs e=>by
 unfold ai at e;cases q:f env with
 |stuck=>rw[q]at e;cases e
 |exc c=>rw[q]at e;cases e
 |ok r=>
  rw[q]at e;cases q2:fs env with
  |stuck=>simp only[Res.lr,q2]at e;cases e
  |exc c=>simp only[Res.lr,q2]at e;cases e
  |ok a=>simp only[Res.lr,q2]at e;cases e;simp[h env a q2]
def mR(X:Cx)(E:XK)(f:XG)(k:List R->Res R):Prop:=∃r,CallR X f r/\
 ∀g M a env σ H Q rs vs,Rep g M a env σ H->IsAll H (vmsk g M (bZ rs) a (cO rs)) (rs.map R.d) vs->PostE X.mg E g M a env σ H Q (k rs)->r vs H Q
def rH(k:List R->Res R)(fs:En->Res (List R)):En->Res R:=λenv=>(fs env).bind k
def ci{id:String}{k:List R->Res R}(h:mR X E (.builtin id) k) (i:Gl X x) (j:X.mg x=none) (l:bootBuiltins x=some (.builtin id)) (ha:Dq X E (e::es) fs) (m:autoParam (x≠"__name__") ab) (b:autoParam (dB x) ab)
 (n:autoParam (starEach (e::es) X.env=(false,eval e X.env)::starEach es X.env) aM) (c:autoParam (bT X pos es) aM):PD X E (.Call (.Name x p) (e::es) [] pos) (rH k fs):=by
 obtain⟨r,h1,o⟩:=h;obtain⟨t,p1,s1⟩:=ha;exact⟨_,dk h1 i j l p1 m b n c,λg M q env σ H Q d p=>s1.gh d p λrs vs M1 s e1 a u q1=>o g M1 q env σ s Q rs vs a u q1⟩
def kY{k:List R->Res R}(h:mR X E (.type T) k) (i:Gl X x) (j:X.mg x=none) (l:bootBuiltins x=some (.type T)) (ha:Dq X E (e::es) fs) (m:autoParam (x≠"__name__") ab) (b:autoParam (dB x) ab)
 (n:autoParam (starEach (e::es) X.env=(false,eval e X.env)::starEach es X.env) aM) (c:autoParam (bT X pos es) aM):PD X E (.Call (.Name x p) (e::es) [] pos) (rH k fs):=by
 obtain⟨r,h1,o⟩:=h;obtain⟨t,p1,s1⟩:=ha;exact⟨_,nO h1 i j l p1 m b n c,λg M q env σ H Q d p=>s1.gh d p λrs vs M1 s e1 a u q1=>o g M1 q env σ s Q rs vs a u q1⟩
def yw:List R->Res R
 |[r]=>match r.d with
  |.lst ds=>.ok (.val (.int ds.length) true [])
  |.tup ds=>.ok (.val (.int ds.length) true [])
  |.str z=>if z.length<=lim then .ok (.val (.int z.length) true [])else .stuck
  |_=>.stuck
 |_=>.stuck
def yx:mR X E (.builtin "len") yw:=by
 refine⟨_,call_len_seq.or t3,λg M j env σ H Q rs vs c i p=>?_⟩;rcases rs with _|⟨r,_|_⟩
 .exact p.elim
 rotate_left
 .exact p.elim
 obtain⟨v,w,rfl,b,l⟩:=i;cases l;have b:Is H (vmsk g M (bZ [r]) j (cO [r])) r.d v:=b;unfold yw at p;dsimp only at p;cases q:r.d with
 |lst ds=>rw[q]at p b;obtain⟨a,ws,rfl,h1,h⟩:=b.rd;exact .inl ⟨a,ws,rfl,.inl (.inl h1),by rw[h.length];exact p _ M H (Ext.refl _ _) c rfl⟩
 |tup ds=>rw[q]at p b;obtain⟨a,ws,rfl,h1,h⟩:=b;exact .inl ⟨a,ws,rfl,.inr (SqT.of h1),by rw[h.length];exact p _ M H (Ext.refl _ _) c rfl⟩
 |str z=>
  rw[q]at p b;cases b;by_cases hz:z.length<=lim
  .simp only[hz,Vy]at p;exact .inr ⟨z,rfl,j7 hz,p _ M H (Ext.refl _ _) c rfl⟩
  .simp only[hz,U1]at p;exact p.elim
 |_=>rw[q]at p;exact p.elim
def qF:List R->Res R
 |[r]=>match r.d with
  |.lst ds=>.ok (mN ds r.fr r.al)
  |.tup ds=>.ok (mN ds r.fr r.al)
  |_=>.stuck
 |_=>.stuck
def zM(h:vmsk g M (bZ [r]) ρ (cO [r]) a):vmsk g M r.fr ρ r.al a:=by
 have e1:bZ [r]=r.fr:=by simp[bZ]
 have e2:cO [r]=r.al:=by simp[cO]
 rw[e1,e2]at h;exact h
def um:mR X E (.type "list") qF:=by
 refine⟨_,t4,λg M m env σ H Q rs vs c i p=>?_⟩;rcases rs with _|⟨r,_|_⟩
 .exact p.elim
 rotate_left
 .exact p.elim
 obtain⟨v,w,rfl,b,n⟩:=i;cases n;have b:Is H (vmsk g M (bZ [r]) m (cO [r])) r.d v:=b;replace b:=b.weak λ_ z=>zM z;unfold qF at p;dsimp only at p;cases q:r.d with
 |lst ds=>rw[q]at p b;obtain⟨a,ws,rfl,h1,h⟩:=b.rd;exact⟨a,ws,rfl,.inl (.inl h1),λl j=>p.lst c j h⟩
 |tup ds=>rw[q]at p b;obtain⟨a,ws,rfl,h1,h⟩:=b;exact⟨a,ws,rfl,.inr (SqT.of h1),λl j=>p.lst c j h⟩
 |_=>rw[q]at p;exact p.elim
end
inductive Fl where
 |nx (env:En)|rt (r:R)|bk (env:En)|ct (env:En)|rm (r:R) (env:En)
structure lR(M:Addr->Prop) (H:Hp) (M':Addr->Prop) (H':Hp):Prop where
 m:∀a,M a->M' a
 h:∀a o,H a=some o->(M a\/iL o)->H' a=some o
def lR.refl(M:Addr->Prop)(H:Hp):lR M H M H:=⟨λ_ z=>z,λ_ _ e _=>e⟩
def lR.trans{M M1 M2:Addr->Prop}(a:lR M H M1 H1)(b:lR M1 H1 M2 H2):lR M H M2 H2:=⟨λx z=>b.m x (a.m x z),λx o e z=>b.h x o (a.h x o e z) (z.imp (a.m x) id)⟩
def Ext.ba(e:Ext M H M' H'):lR M H M' H':=⟨e.m,λa o q _=>e.h a o q⟩
section
variable(mg:Str->Option XG)(E:XK)(g:Gd)(M:Addr->Prop)(H:Hp)(D:Ends)
def PostS:Res Fl->Prop
 |.stuck=>False
 |.exc c=>GE mg E g c
 |.ok (.nx env)=>∀σ b e H',lR M H b H'->Rep g b e env σ H'->D.nx σ H'
 |.ok (.bk env)=>∀σ b e H',lR M H b H'->Rep g b e env σ H'->D.bk σ H'
 |.ok (.ct env)=>∀σ b e H',lR M H b H'->Rep g b e env σ H'->D.ct σ H'
 |.ok (.rt r)=>∀v b H',lR M H b H'->Same g.H₀ H'->((∀a,¬g.Z a)->RetOk g H' v r)->(r.d.flat=true->Is H' (λ_=>False) r.d v)->D.rt v H'
 |.ok (.rm r env)=>∀v σ b e f H',lR M H b H'->Rep g b e env σ H'->Same g.H₀ f->ROk g b e f H' v r->D.rt v H'
end
def GK(mg:Str->Option XG)(E:XK)(t:TS)(f:En->Res Fl):Prop:=∀g M a env σ H D,Rep g M a env σ H->PostS mg E g M H D (f env)->t D σ H
def zN(X:Cx)(E:XK)(st:Stmt)(f:En->Res Fl):Prop:=∃t,PS X st t/\GK X.mg E t f
def uq(X:Cx)(E:XK)(st:List Stmt)(f:En->Res Fl):Prop:=∃t,PSs X st t/\GK X.mg E t f
section
variable{mg:Str->Option XG}{E:XK}{g:Gd}{M M':Addr->Prop}{ρ:Pr}{env:En}{σ:St}{H H':Hp}{D:Ends}
def PostS.ba(e:lR M H M' H')(p:PostS mg E g M H D r):PostS mg E g M' H' D r:=by
 cases r with
 |stuck=>exact p
 |exc c=>exact p
 |ok r=>cases r with
  |nx env=>exact λσ M2 a b e2=>p σ M2 a b (e.trans e2)
  |bk env=>exact λσ M2 a b e2=>p σ M2 a b (e.trans e2)
  |ct env=>exact λσ M2 a b e2=>p σ M2 a b (e.trans e2)
  |rt r=>exact λv M2 b e2=>p v M2 b (e.trans e2)
  |rm r env=>exact λv σ M2 a d b e2=>p v σ M2 a d b (e.trans e2)
def Snd.sv{f:En->Res R}(h:Snd mg E t f)(d:Rep g M ρ env σ H){K:R->Res Fl}(a:PostS mg E g M H D ((f env).bind K))
 (k:∀r v M' H',Ext M H M' H'->Rep g M' ρ env σ H'->ROk g M' ρ H H' v r->PostS mg E g M' H' D (K r)->Q v H'):t σ H Q:=by
 refine h g M ρ env σ H Q d ?_;cases e:f env with
 |stuck=>rw[e]at a;exact a
 |exc c=>rw[e]at a;exact a
 |ok r=>rw[e]at a;exact λv M1 i e1 b ro=>k r v M1 i e1 b ro (PostS.ba e1.ba a)
def SndT.sv{f:En->Res Bool}(h:SndT mg E t f)(i:Rep g M ρ env σ H){K:Bool->Res Fl}{Q:Bool->Hp->Prop}(a:PostS mg E g M H D ((f env).bind K))
 (k:∀b M' H',lR M H M' H'->Rep g M' ρ env σ H'->PostS mg E g M' H' D (K b)->Q b H'):t σ H Q:=by
 refine h g M ρ env σ H Q i ?_;cases e:f env with
 |stuck=>rw[e]at a;exact a
 |exc c=>rw[e]at a;exact a
 |ok r=>rw[e]at a;exact λM1 j e1 d=>k r M1 j e1.ba d (PostS.ba e1.ba a)
noncomputable def Ol(ρ:Pr)(i:Nat):Pr:=λj a=>if j=i then False else ρ j a
def yy(h:j≠i):Ol ρ i j=ρ j:=by funext a;unfold Ol;rw[T9 h]
def qG(h:Ol ρ i j a):j≠i/\ρ j a:=by grind [Ol]
noncomputable def wd(ρ:Pr)(i:Nat)(T:Addr->Prop):Pr:=λj a=>if j=i then T a else ρ j a
theorem fR(h:j≠i):wd ρ i T j=ρ j:=by funext a;unfold wd;rw[T9 h]
theorem iC:wd ρ i T i=T:=by funext a;unfold wd;rw[T2 rfl]
def io(env:En)(i:Nat):En:=match env[i]? with
 |some (some (.own ds fr))=>env.set i (some (.val (.lst ds) fr))
 |some (some (.lP d))=>env.set i (some (.val d true))
 |some (some (.Ce _))=>env.set i none
 |_=>env
def ba(env:En)(al:List Nat):En:=al.foldl io env
def ur(h:j≠i):(io env i)[j]?=env[j]?:=by unfold io;split<;>first|rfl|exact UJ (Vc h)
def we(i:Nat):(io env i).length=env.length:=by unfold io;split<;>simp
theorem DC:∀(al:List Nat){env:En}{j:Nat},¬j∈al->(ba env al)[j]?=env[j]?
 |[],_,_,_=>rfl
 |i::al,env,j,h=>by show(ba (io env i) al)[j]?=_;rw[DC al λz=>h (by simp[z]),ur λz=>h (by simp[z])]
theorem ut:∀(al:List Nat)(env:En),(ba env al).length=env.length
 |[],_=>rfl
 |i::al,env=>by show(ba (io env i) al).length=_;rw[ut al,we]
theorem Rep.io(rep:Rep g M ρ env σ H)(i:Nat):Rep g (λa=>M a\/ρ i a) (Ol ρ i) (io env i) σ H where
 same:=rep.same
 jI:=λb hb=>hb.elim (rep.jI b) λz=>(rep.cc i b z).2.2.some
 vh:=λb hb=>hb.elim (rep.vh b) λz=>.inl (rep.cc i b z).2.1
 fl:=λb hb h0=>hb.elim (λz=>rep.fl b z h0) λz=>.inl (rep.cc i b z).2.2
 slot:=λj sl ej=>by
  by_cases hj:j=i
  .subst hj;cases e:env[j]? with
   |none=>
    have:L3.io env j=env:=by unfold L3.io;rw[e]
    rw[this,e]at ej;cases ej
   |some o=>
    have hi:j<env.length:=(T7.mp e).1;cases o with
    |none=>
     have:L3.io env j=env:=by unfold L3.io;rw[e]
     rw[this,e]at ej;cases ej
    |some s0=>
     obtain⟨v,ev,k⟩:=rep.slot j s0 e;cases s0 with
     |val d fr=>
      have:L3.io env j=env:=by unfold L3.io;rw[e]
      rw[this,e]at ej;cases ej;exact⟨v,ev,Is.weak (λb z=>f9.mono (λ_=>.inl) z) k⟩
     |own ds fr=>
      have:L3.io env j=env.set j (some (.val (.lst ds) fr)):=by unfold L3.io;rw[e]
      rw[this,UD hi]at ej;cases ej;obtain⟨a,vs,rfl,h1,h2,h4⟩:=k;have ha:=(h2 a).mpr rfl;exact⟨_,ev,a,vs,rfl,.inl ⟨h1,.inr ha,λ_=>(rep.cc j a ha).2.1⟩,IsAll.weak (λb z=>f9.mono (λ_=>.inl) z) h4⟩
     |lP d=>
      have:L3.io env j=env.set j (some (.val d true)):=by unfold L3.io;rw[e]
      rw[this,UD hi]at ej;cases ej;exact⟨v,ev,Is.weak (λb z=>⟨.inr z,λ_=>(rep.cc j b z).2.1⟩) k⟩
     |Ce d=>
      have:L3.io env j=env.set j none:=by unfold L3.io;rw[e]
      rw[this,UD hi]at ej;cases ej
  .rw[ur hj]at ej;obtain⟨v,ev,k⟩:=rep.slot j sl ej;exact⟨v,ev,by rw[yy hj];exact SlOk.weak (λ_=>.inl) k⟩
 cc:=λj a h=>by obtain⟨hj,h⟩:=qG h;exact⟨λz=>z.elim (rep.cc j a h).1 λz=>hj (rep.apart j i a h z),(rep.cc j a h).2⟩
 apart:=λj k a h1 h2=>rep.apart j k a (qG h1).2 (qG h2).2
 ow:=λj a h=>by obtain⟨hj,h⟩:=qG h;have:=rep.ow j a h;unfold iB at this ⊢;rw[ur hj];exact this
 len:=by rw[we];exact rep.len
 zz:=rep.zz
theorem Rep.ba:∀(al:List Nat){env:En}{M:Addr->Prop}{ρ:Pr},Rep g M ρ env σ H->∃(M':Addr->Prop)(b:Pr),(∀a,M a->M' a)/\Rep g M' b (L3.ba env al) σ H/\(∀i,i∈al->∀a,ρ i a->M' a)/\(∀j a,b j a->ρ j a)/\(∀j,¬j∈al->b j=ρ j)
 |[],env,M,ρ,c=>⟨M,ρ,λ_ z=>z,c,λ_ z=>absurd z (by simp),λ_ _ o=>o,λ_ _=>rfl⟩
 |i::al,env,M,ρ,c=>by
  obtain⟨M2,h,e2,e,k,k2,l⟩:=Rep.ba al (c.io i);refine⟨M2,h,λa z=>e2 a (.inl z),e,λj f a o=>?_,λj a o=>(qG (k2 j a o)).2,λj f=>?_⟩
  .by_cases d:j=i
   .exact e2 a (.inr (d▸o))
   .exact k j ((T6.mp f).resolve_left d) a (by rw[yy d];exact o)
  .rw[l j λz=>f (by simp[z]),yy λz=>f (by simp[z])]
def Is.frozen(b:Rep g M ρ env σ H)(e:∀a,M a->M' a)(c:∀i,i∈al->∀a,ρ i a->M' a)(h:Is H (vmsk g M fr ρ al) d v):Is H (f9 g M' fr) d v:=h.weak λa z=>z.elim (f9.mono e) λ⟨i,f,o⟩=>⟨c i f a o,λ_=>(b.cc i a o).2.1⟩
def Rep.put(b:Rep g M ρ env σ H)(m:i<env.length)(ok:SlOk g M T H v sl)(f:∀a,T a->¬M a/\g.H₀ a=none/\Mu H a/\∀j,j≠i->¬ρ j a)(o:autoParam (∀a,T a->sl.QR=true) XQ._auto_1) :
 Rep g M (wd ρ i T) (env.set i (some sl)) (σ.set i (some v)) H:=by
 have n:i<σ.length:=by rw[<- b.len];exact m
 refine⟨b.same,b.jI,b.vh,b.fl,λj s l=>?_,λj a h=>?_,λj k a h1 d=>?_,λj a h=>?_,by rw[VT,VT];exact b.len,b.zz⟩
 .by_cases c:j=i
  .subst c;rw[UD m]at l;cases l;exact⟨v,UD n,by rw[iC];exact ok⟩
  .rw[UJ (Vc c)]at l;obtain⟨w,p,k⟩:=b.slot j s l;exact⟨w,by rw[UJ (Vc c)];exact p,by rw[fR c];exact k⟩
 .by_cases c:j=i
  .subst c;rw[iC]at h;exact⟨(f a h).1,(f a h).2.1,(f a h).2.2.1⟩
  .rw[fR c]at h;exact b.cc j a h
 .by_cases c:j=i
  .by_cases e:k=i
   .rw[c,e]
   .subst c;rw[iC]at h1;rw[fR e]at d;exact absurd d ((f a h1).2.2.2 k e)
  .by_cases e:k=i
   .subst e;rw[iC]at d;rw[fR c]at h1;exact absurd h1 ((f a d).2.2.2 j c)
   .rw[fR c]at h1;rw[fR e]at d;exact b.apart j k a h1 d
 .unfold iB;by_cases c:j=i
  .subst c;rw[iC]at h;rw[UD m];exact o a h
  .rw[fR c]at h;rw[UJ (Vc c)];exact b.ow j a h
def put(env:En)(i:Nat):R->En
 |.new ds fr=>env.set i (some (.own ds fr))
 |.val d fr al=>(ba env al).set i (some (.val d fr))
 |.jJ d=>env.set i (some (.lP d))
def Rep.store(c:Rep g M ρ env σ H)(m:Same g.H₀ H0)(k:i<env.length)(h:ROk g M ρ H0 H v r):∃M' l,lR M H M' H/\Rep g M' l (L3.put env i r) (σ.set i (some v)) H:=by
 cases r with
 |new ds fr=>obtain⟨a,vs,rfl,h1,n,o,p,q⟩:=h;exact⟨M,_,lR.refl _ _,c.put (sl:=.own ds fr) (T:=λb=>b=a) k ⟨a,vs,rfl,h1,λ_=>Iff.rfl,q⟩ λb e=>by subst e;exact⟨n,m.free o,Mu.lst h1,λj _=>p j⟩⟩
 |val d fr al=>obtain⟨M1,s,e1,f,o1,k1,_⟩:=Rep.ba al c;exact⟨M1,_,⟨e1,λ_ _ e _=>e⟩,f.put (sl:=.val d fr) (T:=λ_=>False) (by rw[ut];exact k) (Is.frozen c e1 o1 h) (λ_ z=>z.elim) λ_ z=>z.elim⟩
 |jJ d=>obtain⟨T,t,is⟩:=h;exact⟨M,_,lR.refl _ _,c.put (sl:=.lP d) (T:=T) k is λb z=>let ⟨u,w,x,y⟩:=t b z;⟨u,m.free w,x,λj _=>y j⟩⟩
def Rep.Fw(F:KM u')(f:Rep g M ρ env σ H)(o:ρ i a)(G:i<env.length)(U:σ[i]?=some (some v))(ok:SlOk g M (ρ i) (aO H a u') v sl)(I:autoParam (sl.QR=true) aM) :
 lR M H M (aO H a u')/\Rep g M ρ (env.set i (some sl)) σ (aO H a u'):=by
 obtain⟨t,J,K,ha,n⟩:=f.cc i a o;have L:∀u,H a=some u->¬iL u:=λu e z=>by rw[ha]at e;cases e;cases K<;>first|exact z|exact n
 have kp:∀b u,H b=some u->(M b\/iL u)->aO H a u' b=some u:=λb u q z=>by grind [af]
 have x:∀(fr:Bool) b u,H b=some u->(f9 g M fr b\/iL u)->aO H a u' b=some u:=λfr b u q z=>kp b u q (z.imp (·.1) id);refine⟨⟨λ_ z=>z,kp⟩,λb u q=>?_,λb l=>?_,f.vh,λb l N=>?_,λj s y=>?_,λj b h=>?_,f.apart,λj b h=>?_,by rw[VT];exact f.len,λc z e=>by
  by_cases A:c=a
  .subst A;rw[ag]at e;cases e
  .rw[af A]at e;exact f.zz c z e⟩
 .rw[af (λz=>by rw[z,J]at q;cases q)];exact f.same b u q
 .have p:b≠a:=λz=>t (by rw[<- z];exact l);rw[af p];exact f.jI b l
 .have p:b≠a:=λz=>t (by rw[<- z];exact l);exact(f.fl b l N).same λo e=>by rw[af p];exact e
 .by_cases m:j=i
  .grind
  .rw[UJ (Vc m)]at y;obtain⟨w,O,k⟩:=f.slot j s y;refine⟨w,O,?_⟩;have B:∀b,ρ j b->b≠a:=λb l e=>m (f.apart j i a (e▸l) o);cases s with
   |val d fr=>exact Is.mono (x fr) (λ_ _ _ z=>z) k
   |own P r=>obtain⟨b,ws,rfl,h1,C,Q⟩:=k;exact⟨b,ws,rfl,by rw[af (B b ((C b).mpr rfl))];exact h1,C,IsAll.mono (x r) (λ_ _ _ z=>z) Q⟩
   |lP d=>
    refine Is.mono (λb u q z=>?_) (λ_ _ _ z=>z) k
    grind [af]
   |Ce d=>refine IsSh.mono (λb u q z=>kp b u q (.inr z)) (λb ws z q=>⟨ws,by rw[af (B b z)];exact q⟩) (λ_ z=>z) k
 .obtain⟨R,S,T⟩:=f.cc j b h;refine⟨R,S,?_⟩;by_cases e:b=a
  .exact⟨u',by rw[e,ag],F⟩
  .exact T.same λo z=>by rw[af e];exact z
 .unfold iB;by_cases m:j=i
  .subst m;rw[UD G];exact I
  .rw[UJ (Vc m)];exact f.ow j b h
def Rep.write(b:Rep g M ρ env σ H)(o:ρ i a)(c:i<env.length)(d:σ[i]?=some (some v))(ok:SlOk g M (ρ i) (aO H a (.lst vs')) v sl)(e:autoParam (sl.QR=true) aM) :
 lR M H M (aO H a (.lst vs'))/\Rep g M ρ (env.set i (some sl)) σ (aO H a (.lst vs')):=b.Fw (u':=.lst vs') True.intro o c d ok e
end
section
variable{X:Cx}{E:XK}
noncomputable def mS:En->Res Fl:=λenv=>.ok (.nx env)
def bo(f k:En->Res Fl):En->Res Fl:=λenv=>(f env).bind λr=>match r with
 |.nx a=>k a
 |r=>.ok r
def cC:uq X E [] mS:=⟨_,mB,λg M b env σ H D a p=>p σ M b H (lR.refl _ _) a⟩
def aJ{st:Stmt}{f:En->Res Fl}(h:zN X E st f):uq X E [st] f:=let ⟨t,a,b⟩:=h;⟨t,aX a,b⟩
def au{st:Stmt}{rest:List Stmt}{f k:En->Res Fl}(h1:zN X E st f)(n:uq X E rest k):uq X E (st::rest) (bo f k):=by
 obtain⟨t,a,b⟩:=h1;obtain⟨u,c,d⟩:=n;refine⟨_,aW a c,λg M o env σ H D j p=>b g M o env σ H _ j ?_⟩;unfold bo at p;cases q:f env with
 |stuck=>rw[q]at p;exact p
 |exc c=>rw[q]at p;exact p
 |ok r=>
  rw[q]at p;cases r with
  |nx i=>exact λl s m H' e h=>d g s m i l H' D h (PostS.ba e p)
  |bk i=>exact p
  |ct i=>exact p
  |rt r=>exact p
  |rm r i=>exact p
def Bb:zN X E (.Break pos) (λenv=>.ok (.bk env)):=⟨_,Cr,λg M b env σ H D a p=>p σ M b H (lR.refl _ _) a⟩
def zO(c:En->Res Bool)(a b:En->Res Fl):En->Res Fl:=λenv=>(c env).bind λk=>if k then a env else b env
def ga(k:xL X E c fc)(ha:uq X E a fa)(l:uq X E b fb):zN X E (.If c a b pos) (zO fc fa fb):=by
 obtain⟨n,p1,s1⟩:=k;obtain⟨ta,p2,s2⟩:=ha;obtain⟨tb,p3,m⟩:=l;refine⟨_,sF p1 p2 p3,λg M h env σ H D f p=>s1.sv f p λb i H' e d j=>?_⟩;cases b with
 |true=>exact vQ (s2 g i h env σ H' D d j)
 |false=>exact x9 (m g i h env σ H' D d j)
def gb(f:En->Res R):En->Res Fl:=λenv=>(f env).bind λr=>.ok (.rt r)
def ROk.ret(c:Rep g M ρ env σ H)(j:Same g.H₀ H0)(h:ROk g M ρ H0 H v r)(hz:∀a,¬g.Z a):RetOk g H v r:=by
 have mu:∀a,M a->g.H₀ a=none->Mu H a:=λa h1 f=>(c.fl a h1 f).elim id λz=>(hz a z.1).elim;have key:∀{fr:Bool}{a:Addr},f9 g M fr a->nl g.H₀ H a\/(fr=false/\g.Ma a):=λ{fr a} z=>by
  cases fr with
  |true=>exact .inl ⟨z.2 rfl,mu a z.1 (z.2 rfl)⟩
  |false=>exact(c.vh a z.1).imp (λw=>⟨w,mu a z.1 w⟩) λw=>⟨rfl,w⟩
 cases r with
 |val d fr al=>exact Is.weak (λa z=>z.elim key λ⟨i,_,o⟩=>.inl (c.cc i a o).2) h
 |new ds fr=>obtain⟨a,vs,rfl,h1,f,k,q,l⟩:=h;exact⟨a,vs,rfl,h1,j.free k,IsAll.weak (λb z=>⟨λe=>f (e▸z.1),key z⟩) l⟩
 |jJ d=>obtain⟨T,m,is⟩:=h;exact Is.weak (λa z=>let ⟨_,n,p,_⟩:=m a z;⟨j.free n,p⟩) is
def ROk.flatIs(h:ROk g M ρ H0 H v r)(a:r.d.flat=true):Is H (λ_=>False) r.d v:=by
 cases r with
 |val d fr al=>exact Is.flat a h
 |new ds fr=>simp[D.flat,R.d]at a
 |jJ d=>obtain⟨T,_,is⟩:=h;exact Is.flat a is
def bx(h:PD X E e f):zN X E (.Return (some e) pos) (gb f):=by obtain⟨t,p1,s1⟩:=h;exact⟨_,nK p1,λg M j env σ H D b p=>s1.sv b p λr v c H' e a ro d=>d v c H' (lR.refl _ _) a.same (λhz=>ro.ret a b.same hz) λi=>ro.flatIs i⟩
def cS(i:Nat)(f:En->Res R):En->Res Fl:=λenv=>(f env).bind λr=>if i<env.length then .ok (.nx (put env i r))else .stuck
def zP(s:Snd mg E t f):GK mg E (lU t (aU i)) (cS i f):=by
 intro g M k env σ H D a p;refine s.sv a p λr v l H' e b ro d=>?_;by_cases h:i<env.length
 .rw[T2 h]at d;obtain⟨M2,j,e2,c⟩:=b.store a.same h ro;exact d _ M2 j H' e2 c
 .rw[T9 h]at d;exact d.elim
def bm(a:X.N.Nodup)(b:X.N[i]?=some x)(c:J2 X.env.scope x)(h:PD X E e f)(hs:autoParam (swapsWith e (some (.Name x pos')) pos.line X.env=pure false) aM)
 (d:autoParam (X.fn x=true\/X.env.scope.names.lookup x=some .local) ae):zN X E (.Assign [.Name x pos'] e pos) (cS i f):=by
 obtain⟨t,p1,s1⟩:=h;exact⟨_,jb a b c p1 hs d,zP s1⟩
def qH(env:En)(i:Nat):Option (List D×Bool):=match env[i]? with
 |some (some (.own ds fr))=>some (ds,fr)
 |some (some (.lP (.lst ds)))=>some (ds,true)
 |_=>none
mutual
noncomputable def D.sz:D->Nat
 |.tup ds=>D.NL ds+1
 |.lst ds=>D.NL ds+1
 |.dZ _ ds=>D.NL ds+1
 |_=>0
noncomputable def D.NL:List D->Nat
 |[]=>0
 |d::ds=>d.sz+D.NL ds+1
end
section
variable{H:Hp}{m m':Addr->Prop}
mutual
theorem Is.avoid(ha:Is H m' e (.ref a)):∀{d:D}{v:V},d.sz<e.sz->Is H m d v->Is H (λb=>m b/\b≠a) d v
 |.bn,_,_,h=>h
 |.bl _,_,_,h=>h
 |.int _,_,_,h=>h
 |.str _,_,_,h=>h
 |.tup ds,_,hs,h=>by obtain⟨b,vs,rfl,h1,c⟩:=h;simp only[D.sz]at hs;exact⟨b,vs,rfl,h1,IsAll.avoid ha (by lia) c⟩
 |.lst ds,_,hs,h=>by
  have h':=h;obtain⟨b,vs,rfl,h1,c⟩:=h;have f:b≠a:=λz=>by subst z;have q:=Is.inj h' ha;rw[q]at hs;lia
  simp only[D.sz]at hs;refine⟨b,vs,rfl,?_,IsAll.avoid ha (by lia) c⟩;rcases h1 with⟨h1,g⟩|⟨o,h1,g⟩
  .exact .inl ⟨h1,g,f⟩
  .exact .inr ⟨o,h1,g,f⟩
 |.dZ ks ds,_,hs,h=>by
  have h':=h;obtain⟨b,kvs,rfl,h1,c⟩:=h;have f:b≠a:=λz=>by subst z;have q:=Is.inj h' ha;rw[q]at hs;lia
  simp only[D.sz]at hs;exact⟨b,kvs,rfl,⟨h1.1,h1.2,f⟩,IsAll.avoid ha (by lia) c⟩
theorem IsAll.avoid(ha:Is H m' e (.ref a)):∀{ds:List D}{vs:List V},D.NL ds<e.sz->IsAll H m ds vs->IsAll H (λb=>m b/\b≠a) ds vs
 |[],_,_,h=>h
 |d::ds,_,hs,h=>by obtain⟨v,r,rfl,h1,c⟩:=h;simp only[D.NL]at hs;exact⟨v,r,rfl,Is.avoid ha (by lia) h1,IsAll.avoid ha (by lia) c⟩
end
end
def Rep.JI(c:Rep g M ρ env σ H)(e:qH env i=some (ds,fr)) :
 ∃(p:Addr->Prop)(m:Pr)(a:Addr)(vs:List V),(∀b,M b->p b)/\Rep g p m (env.set i (some (.own ds fr))) σ H/\σ[i]?=some (some (.ref a))/\H a=some (.lst vs)/\(∀b,m i b↔b=a)/\IsAll H (f9 g p fr) ds vs/\i<env.length/\(∀j b,m j b->ρ j b)/\(∀j,j≠i->m j=ρ j):=by
 unfold qH at e;cases q:env[i]? with
 |none=>rw[q]at e;cases e
 |some o=>
  have t:i<env.length:=(T7.mp q).1;have C:env.set i (env[i])=env:=W2 t;cases o with
  |none=>rw[q]at e;cases e
  |some sl=>
   obtain⟨v,A,k⟩:=c.slot i sl q;rw[q]at e;cases sl with
   |val d f=>cases e
   |Ce d=>cases e
   |own F f'=>
    cases e;obtain⟨a,vs,rfl,h1,L,T⟩:=k
    grind
   |lP d=>
    cases d with
    |lst F=>
     cases e;have P:=k;obtain⟨a,vs,rfl,h1,L⟩:=k;have G:ρ i a:=by rcases h1 with⟨_,z⟩|⟨_,_,z⟩<;>exact z
     obtain⟨pm,Q,U,pl,I⟩:=c.cc i a G;have J:H a=some (.lst vs):=by
      rcases h1 with⟨h1,_⟩|⟨o,h1,_⟩
      .exact h1
      .rw[h1]at pl;cases pl;exact I.elim
     have n:IsAll H (λb=>ρ i b/\b≠a) ds vs:=IsAll.avoid P (by simp only[D.sz];lia) L
     let p:Addr->Prop:=λb=>M b\/(ρ i b/\b≠a)
     let m:Pr:=wd ρ i λb=>b=a
     have N:Rep g p m (env.set i (some (.own ds true))) (σ.set i (some (.ref a))) H:=by
      have R:Rep g p (λj b=>if j=i then b=a else ρ j b) (env.set i (some (.own ds true))) σ H:=by
       refine⟨c.same,λb y=>y.elim (c.jI b) λz=>?_,λb y=>y.elim (c.vh b) λz=>.inl (c.cc i b z.1).2.1,λb y S=>y.elim (λz=>c.fl b z S) λz=>.inl (c.cc i b z.1).2.2,λj s B=>?_,λj b h=>?_,λj k b u w=>?_,λj b h=>?_,by rw[VT];exact c.len,c.zz⟩
       .exact(c.cc i b z.1).2.2.some
       .by_cases l:j=i
        .subst l;rw[UD t]at B;cases B;exact⟨_,A,a,vs,rfl,J,λb=>by simp,IsAll.weak (λb z=>⟨.inr z,λ_=>(c.cc j b z.1).2.1⟩) n⟩
        .rw[UJ (Vc l)]at B;obtain⟨O,K,k2⟩:=c.slot j s B;have eT:(λb=>if j=i then b=a else ρ j b)=ρ j:=by funext b;rw[T9 l]
         exact⟨O,K,by show SlOk g p (λb=>if j=i then b=a else ρ j b) H O s;rw[eT];exact SlOk.weak (λ_=>.inl) k2⟩
       .by_cases l:j=i
        .rw[T2 l]at h;subst h;exact⟨λz=>z.elim pm λz=>z.2 rfl,Q,Mu.lst J⟩
        .rw[T9 l]at h;exact⟨λz=>z.elim (c.cc j b h).1 λz=>l (c.apart j i b h z.1),(c.cc j b h).2⟩
       .by_cases l:j=i
        .by_cases x:k=i
         .rw[l,x]
         .rw[T2 l]at u;rw[T9 x]at w;subst u;exact absurd (c.apart k i b w G) x
        .by_cases x:k=i
         .rw[T2 x]at w;rw[T9 l]at u;subst w;exact absurd (c.apart j i b u G) l
         .rw[T9 l]at u;rw[T9 x]at w;exact c.apart j k b u w
       .unfold iB;by_cases l:j=i
        .subst l;rw[UD t];rfl
        .rw[T9 l]at h;rw[UJ (Vc l)];exact c.ow j b h
      have r:i<σ.length:=by rw[<- c.len];exact t
      have es:σ.set i (some (.ref a))=σ:=by have:σ[i]=some (.ref a):=(T7.mp A).2;rw[<- this];exact W2 r
      rw[es];exact R
     have r:i<σ.length:=by rw[<- c.len];exact t
     have es:σ.set i (some (.ref a))=σ:=by have:σ[i]=some (.ref a):=(T7.mp A).2;rw[<- this];exact W2 r
     rw[es]at N;refine⟨p,m,a,vs,λ_=>.inl,N,A,J,λb=>by show wd ρ i (λb=>b=a) i b↔b=a;rw[iC],IsAll.weak (λb z=>⟨.inr z,λ_=>(c.cc i b z.1).2.1⟩) n,t,λj b z=>?_,λj l=>fR l⟩
     grind [wd,iC,fR]
    |_=>cases e
def wf(i:Nat)(f:En->Res R):En->Res Fl:=λenv=>match qH env i with
 |some (ds,fr)=>(f env).bind λr=>if ds.length<lim/\¬i∈r.al then .ok (.nx ((ba env r.al).set i (some (.own (ds++[r.d]) (fr&&r.fr)))))else .stuck
 |none=>.stuck
def pC(ha:PE X a (aI i))(h:PD X E e f)
 (n:autoParam (attributeBase a "append" X.env (eval a X.env)=eval a X.env) aM)
 (w:autoParam (((backTo cpos (starEach [e] X.env)).all (λx=>!x.1)&&(backToKw cpos (keywordEach [] X.env)).all (λx=>x.1.isSome)
   && decide (([e]:List Expr).length+([]:List Keyword).length+(if([]:List Keyword).isEmpty then 0 else 1)<30))=true) aM)
 (s:autoParam ((apos.endLine==cpos.line)=true) aM) (hs:autoParam (starEach [e] X.env=(false,eval e X.env)::starEach [] X.env) aM) (c:autoParam (bT X cpos []) aM)
 (J:autoParam (swapsWith (.Call (.Attribute a "append" apos) [e] [] cpos) none pos.line X.env=pure false) aM) :
 zN X E (.Expr (.Call (.Attribute a "append" apos) [e] [] cpos) pos) (wf i f):=by
 obtain⟨t,p1,s1⟩:=h;refine⟨_,b5 (jX Vl Vg Vh fJ ha (ah p1 aG hs) n w s hs c) J,λg M ρ env σ H D v p=>?_⟩;unfold wf at p;cases e1:qH env i with
 |none=>rw[e1]at p;exact p.elim
 |some o=>
  obtain⟨ds,fr⟩:=o;rw[e1]at p;dsimp only at p;obtain⟨M0,ρ0,l,vs,m0,U,K,k1,k2,k4,hi,_⟩:=v.JI e1;refine⟨_,K,.inl ⟨rfl,vs,SqL.of k1⟩,s1.sv v p λr y M' H' e A ro G=>?_⟩;by_cases I:ds.length<lim/\¬i∈r.al
  .rw[T2 I]at G;obtain⟨M1,x1,L,j,N⟩:=ro.is A e v.same;obtain⟨M2,ρ2,V,B,o2,k5,k6⟩:=Rep.ba r.al j;have O:Is H' (f9 g M2 r.fr) r.d y:=Is.frozen j V o2 N;have e2:qH (ba env r.al) i=some (ds,fr):=by unfold qH;rw[DC _ I.2];exact e1
   obtain⟨P,C,l3,vs3,W,k,F,Y,Z,j4,Q,_⟩:=B.JI e2;rw[K]at F;cases F;have R:H' l=some (.lst vs):=e.h _ _ k1;rw[R]at Y;cases Y;have pl:C i l:=(Z l).mpr rfl;obtain⟨S,_⟩:=k.cc i l pl;have T:IsAll H' (f9 g P (fr&&r.fr)) (ds++[r.d]) (vs++[y]):=by refine IsAll.snoc (IsAll.weak (λb z=>⟨z.1,λq=>z.2 (by cases fr<;>simp_all)⟩) j4) (Is.weak (λb z=>⟨W b z.1,λq=>z.2 (by cases fr<;>simp_all)⟩) O)
   have kp:∀b u,H' b=some u->(f9 g P (fr&&r.fr) b\/iL u)->aO H' l (.lst (vs++[y])) b=some u:=λb u q z=>by
    rw[af]
    .exact q
    .rintro rfl;rcases z with z|z
     .exact S z.1
     .rw[R]at q;cases q;exact z
   obtain⟨f1,m⟩:=k.write (sl:=.own (ds++[r.d]) (fr&&r.fr)) (vs':=vs++[y]) pl (by rw[VT];exact Q) K ⟨l,vs++[y],rfl,ag,Z,IsAll.mono kp (λ_ _ _ z=>z) T⟩;rw[List.set_set]at m;refine⟨l,vs,y,rfl,rfl,R,by rw[k4.length];exact uj I.1,?_⟩;exact G σ P C _ (lR.trans ⟨λa z=>W a (V a (L a z)),λ_ _ q _=>q⟩ f1) m
  .rw[T9 I]at G;exact G.elim
end
def K1(ix:List Nat)(t:TG)(asg:D->Bool->En->Option En):Prop:=∀(g:Gd)(M:Addr->Prop)(e:Pr)(env f:En)(σ:St)(H:Hp)(d:D)(fr:Bool)(v:V)(Q:St->Hp->Prop),
 Rep g M e env σ H->Is H (f9 g M fr) d v->asg d fr env=some f->(∀(b:St)(c:Pr),Rep g M c f b H->(∀j,¬j∈ix->b[j]?=σ[j]?)->(∀j a,c j a->e j a)->Q b H)->t v σ H Q
def Om(ix:List Nat)(t:Ny)(asg:List D->Bool->En->Option En):Prop:=∀(g:Gd)(M:Addr->Prop)(d:Pr)(env e:En)(σ:St)(H:Hp)(ds:List D)(fr:Bool)(vs:List V)(Q:St->Hp->Prop),
 Rep g M d env σ H->IsAll H (f9 g M fr) ds vs->asg ds fr env=some e->(∀(b:St)(c:Pr),Rep g M c e b H->(∀j,¬j∈ix->b[j]?=σ[j]?)->(∀j a,c j a->d j a)->Q b H)->t vs σ H Q
def FG(X:Cx)(ix:List Nat)(tg:Expr)(asg:D->Bool->En->Option En):Prop:=∃t,PG X tg t/\K1 ix t asg
def GL(X:Cx)(ix:List Nat)(ts:List Expr)(asg:List D->Bool->En->Option En):Prop:=∃t,Ka X ts t/\Om ix t asg
section
variable{X:Cx}{E:XK}
def gN(i:Nat):D->Bool->En->Option En:=λd fr env=>if i<env.length then some (env.set i (some (.val d fr)))else none
def Bc:K1 [i] (aU i) (gN i):=by
 intro g M h env l σ H d fr v Q c is e k;unfold gN at e;by_cases f:i<env.length
 .rw[T2 f]at e;cases e;exact k _ _ (c.put (sl:=.val d fr) (T:=λ_=>False) f is (λ_ z=>z.elim) λ_ z=>z.elim) (λj b=>UJ λe=>b (by simp[e])) λj a z=>by
   by_cases b:j=i
   .subst b;rw[iC]at z;exact z.elim
   .rw[fR b]at z;exact z
 .rw[T9 f]at e;cases e
def aC(a:X.N.Nodup)(b:X.N[i]?=some x)(c:J2 X.env.scope x)(d:autoParam (X.fn x=true\/X.env.scope.names.lookup x=some .local) ae):FG X [i] (.Name x pos) (gN i):=⟨_,bD a b c d,Bc⟩
noncomputable def cq:List D->Bool->En->Option En:=λds _ env=>match ds with
 |[]=>some env
 |_=>none
def aK(f:D->Bool->En->Option En)(fs:List D->Bool->En->Option En):List D->Bool->En->Option En:=λds fr env=>match ds with
 |d::r=>(f d fr env).bind λa=>fs r fr a
 |[]=>none
def b6:GL X [] [] cq:=⟨_,fQ,λg M b env c σ H ds fr vs Q a is e k=>by
 cases ds with
 |nil=>cases e;cases is;exact⟨rfl,k σ b a (λ_ _=>rfl) λ_ _ z=>z⟩
 |cons d ds=>cases e⟩
def aN(h1:FG X ix e f)(s:GL X jx es fs)
 (hs:∀t,PG X e t->∀u,Ka X es u->Ka X (e::es) (be t u)):GL X (ix++jx) (e::es) (aK f fs):=by
 obtain⟨t,p1,s1⟩:=h1;obtain⟨u,p2,s2⟩:=s;refine⟨_,hs t p1 u p2,λg M w env x σ H ds fr vs Q h is e k=>?_⟩;cases ds with
 |nil=>cases e
 |cons d ds=>
  obtain⟨v,r,rfl,y,A⟩:=is;unfold aK at e;dsimp only at e;cases q:f d fr env with
  |none=>rw[q]at e;cases e
  |some o=>rw[q]at e;refine⟨v,r,rfl,s1 g M w env o σ H d fr v _ h y q λi l b B C=>?_⟩;exact s2 g M l o x i H ds fr r Q b A e λm n c D F=>k m n c (λj p=>(D j λz=>p (by simp[z])).trans (B j λz=>p (by simp[z]))) λj a z=>C j a (F j a z)
def gT(n:Nat)(fs:List D->Bool->En->Option En):D->Bool->En->Option En:=λd fr env=>match d with
 |.tup ds=>if ds.length=n then fs ds fr env else none
 |_=>none
def cI(j:X.calm=true)(h:GL X ix es fs)(l:autoParam ((assignEach es X.env).length=n) aM)(b:autoParam ((assignEach es X.env).findIdx? (·.1)=none) aM):FG X ix (.Tuple es k pos) (gT n fs):=by
 obtain⟨t,p1,s1⟩:=h;refine⟨_,iI j p1 l b,λg M m env o σ H d fr v Q c is e p=>?_⟩;unfold gT at e;cases d with
 |tup ds=>
  obtain⟨a,vs,rfl,h1,i⟩:=is;dsimp only at e;by_cases f:ds.length=n
  .rw[T2 f]at e;exact⟨a,vs,rfl,SqT.of h1,i.length.trans f,s1 g M m env o σ H ds fr vs Q c i e p⟩
  .rw[T9 f]at e;cases e
 |_=>cases e
def nY(f:En->Res R)(asg:D->Bool->En->Option En):En->Res Fl:=λenv=>(f env).bind λr=>match asg r.d r.fr (ba env r.al)with
 |some a=>.ok (.nx a)
 |none=>.stuck
def d6(y:PD X E e f)(A:FG X ix tg asg)(hs:autoParam (swapsWithSole [tg] e pos.line X.env=pure false) aM)(B:autoParam (swappedStores [tg] e X.env=pure none) aM)
 (h1:autoParam ((assignEach [tg] X.env).map (·.2)=[assign tg X.env]) aM):zN X E (.Assign [tg] e pos) (nY f asg):=by
 obtain⟨t,p1,s1⟩:=y;obtain⟨u,p2,s2⟩:=A;refine⟨_,Kb p1 p2 hs B h1,λg M G env σ H D c p=>s1.sv c p λr v I H' e h ro k=>?_⟩;obtain⟨M1,x1,l,b,m⟩:=ro.is h e c.same;obtain⟨M2,n,x,i,C,_,_⟩:=Rep.ba r.al b;have o:Is H' (f9 g M2 r.fr) r.d v:=Is.frozen b x C m;cases q:asg r.d r.fr (ba env r.al)with
 |none=>simp only[q]at k;exact k.elim
 |some F=>simp only[q]at k;exact s2 g M2 n _ F σ H' r.d r.fr v _ i o q λs w j _ _=>k s M2 w H' ⟨λa z=>x a (l a z),λ_ _ q _=>q⟩ j
end
structure Src where
 xs:List D
 fr:Bool
 al:List Nat
structure Walk(J:It) (m:Addr->Prop) (H:Hp) (xs:List D):Prop where
 go:∀H' i d,(∀a o,H a=some o->(m a\/iL o)->H' a=some o)->xs[i]?=some d->J.go i H'/\∀x H'',J.FI i H' x H''->Same H' H''/\Is H'' m d x
 stop:∀H',(∀a o,H a=some o->(m a\/iL o)->H' a=some o)->J.stop xs.length H'
theorem Walk.weak(w:Walk J m H xs)(h:∀a,m a->m' a):Walk J m' H xs:=⟨λH' i d k e=>let ⟨a,b⟩:=w.go H' i d (λa o q z=>k a o q (z.imp (h a) id)) e;⟨a,λx f y=>let ⟨c,d⟩:=b x f y;⟨c,d.weak h⟩⟩,λH' k=>w.stop H' λa o q z=>k a o q (z.imp (h a) id)⟩
def PostI(mg:Str->Option XG)(E:XK)(g:Gd)(M:Addr->Prop)(b:Pr)(env:En)(σ:St)(H:Hp)(R:It->Hp->Prop):Res Src->Prop
 |.stuck=>False
 |.exc c=>GE mg E g c
 |.ok s=>∀J a H',Ext M H a H'->Rep g a b env σ H'->Walk J (vmsk g a s.fr b s.al) H' s.xs->R J H'
def On(mg:Str->Option XG)(E:XK)(b:TI)(f:En->Res Src):Prop:=∀g M a env σ H R,Rep g M a env σ H->PostI mg E g M a env σ H R (f env)->b σ H R
def Oo(X:Cx)(E:XK)(tg iter:Expr)(f:En->Res Src):Prop:=∃a,PI X tg iter a/\On X.mg E a f
section
variable{X:Cx}{E:XK}{tg:Expr}
def RP(K:XE)(c:TE):TI:=λσ H R=>c σ H λx b=>∃a,x=.ref a/\(((∃xs,SqL K b a xs)/\R (FU K a) b)\/((∃xs,SqT K b a xs)/\R (Ru K a) b))
def K3(i:PE X l tl):PI X tg l (RP X.K tl):=by
 intro aa s σ H R I h;refine bP (i aa s σ H _ I h) λv s1 ⟨x,g,c,j,q1⟩=>?_;obtain⟨a,e,q⟩:=q1;subst e;cases j;rcases q with⟨⟨xs,d⟩,q⟩|⟨⟨xs,d⟩,q⟩
 .obtain⟨its,k,p,hz⟩:=c.list d;refine Wj p.isList ?_;refine⟨s1.heap.objs.size,[s1.heap.objs.size],_,_,g,rfl,c.kept (t':=s1.toks) λb o e=>RW _ e,sG a _,⟨_,T4 _ rfl,rfl,rfl⟩,λb f=>?_,q⟩;have e:b=s1.heap.objs.size:=by simpa using f
  subst e;exact c.sC (TY _) (c.aT.fresh (TY _))
 .obtain⟨its,k,p,hz⟩:=c.tuple d;refine wpAny_pyIter_tuple (show s1.heap.IsTuple a its.toArray from p) ?_;refine⟨s1.heap.objs.size,[s1.heap.objs.size],_,_,g,rfl,c.kept (t':=s1.toks) λb o e=>RW _ e,xO a _,⟨_,T4 _ rfl,rfl,rfl⟩,λb f=>?_,q⟩;have e:b=s1.heap.objs.size:=by simpa using f
  subst e;exact c.sC (TY _) (c.aT.fresh (TY _))
def Bd{K:XE}{a:Addr}{m:Addr->Prop}(h:(H a=some (.lst vs)/\m a)\/∃o,H a=some (.ba o (.lst vs))/\m a)(is:IsAll H m ds vs):Walk (FU K a) m H ds:=by
 have st:∀H',(∀a o,H a=some o->(m a\/iL o)->H' a=some o)->SqL K H' a vs:=λH' k=>by
  rcases h with⟨h,c⟩|⟨o,h,_⟩
  .exact .inl (.inl (k a _ h (.inl c)))
  .exact .inl (.inr ⟨o,k a _ h (.inr True.intro)⟩)
 refine⟨λH' i d k e=>?_,λH' k=>⟨vs,st H' k,by rw[is.length];exact TY _⟩⟩;obtain⟨v,b,f⟩:=(is.mono k λ_ _ _ z=>z:IsAll H' m ds vs).get e;refine⟨⟨vs,v,st H' k,b⟩,λx g y=>?_⟩;obtain⟨rfl,y⟩:=y;have:=y vs (st _ k);rw[b]at this;cases this;exact⟨Same.refl _,f⟩
def DD{K:XE}{a:Addr}{m:Addr->Prop}(h:H a=some (.tup vs))(is:IsAll H m ds vs):Walk (Ru K a) m H ds:=by have st:∀H',(∀a o,H a=some o->(m a\/iL o)->H' a=some o)->SqT K H' a vs:=λH' k=>SqT.of (k a _ h (.inr True.intro));refine⟨λH' i d k e=>?_,λH' k=>⟨vs,st H' k,by rw[is.length];exact TY _⟩⟩;obtain⟨v,b,c⟩:=(is.mono k λ_ _ _ z=>z:IsAll H' m ds vs).get e;refine⟨⟨vs,v,st H' k,b⟩,λx f y=>?_⟩;obtain⟨rfl,y⟩:=y;have:=y vs (st _ k);rw[b]at this;cases this;exact⟨Same.refl _,c⟩
noncomputable def gp(lo:Int)(n:Nat):List D:=(List.range n).map λk=>.int (lo+(k:Nat))
def yz(lo:Int)(n:Nat):Walk (Q7 lo n) m H (gp lo n):=by
 refine⟨λH' i d k e=>?_,λH' k=>by show n<=(gp lo n).length;simp[gp]⟩;have a:i<n:=by have:=(T7.mp e).1;simpa[gp]using this
 refine⟨a,λx b y=>?_⟩;obtain⟨rfl,rfl⟩:=y;refine⟨Same.refl _,?_⟩;have:(gp lo n)[i]?=some (.int (lo+(i:Nat))):=by simp[gp,a]
 rw[this]at e;cases e;rfl
def g7(f:En->Res R):En->Res Src:=λenv=>(f env).bind λr=>match r.d with
 |.lst ds=>.ok ⟨ds,r.fr,r.al⟩
 |.tup ds=>.ok ⟨ds,r.fr,r.al⟩
 |_=>.stuck
def cJ(h:PD X E l f):Oo X E tg l (g7 f):=by
 obtain⟨t,p1,s1⟩:=h;refine⟨_,K3 p1,λg M m env σ H R i p=>?_⟩;refine s1.one i (P:=λM H r=>PostI X.mg E g M m env σ H R r) p (λ_ _ z=>z) (λ_ _ _ z=>z) (λM H u H' r e p=>?_) λr v M1 k e1 b is q=>?_
 .cases r with
  |stuck=>exact p
  |exc c=>exact p
  |ok s=>exact λJ M2 n e2=>p J M2 n (e.trans e2)
 .cases z:r.d with
  |lst ds=>rw[z]at is;simp only[z]at q;obtain⟨a,vs,rfl,h1,j⟩:=is;exact⟨a,rfl,.inl ⟨⟨vs,.inl (h1.imp (·.1) λ⟨o,z,_⟩=>⟨o,z⟩)⟩,q _ M1 k (Ext.refl _ _) b (Bd h1 j)⟩⟩
  |tup ds=>rw[z]at is;simp only[z]at q;obtain⟨a,vs,rfl,h1,j⟩:=is;exact⟨a,rfl,.inr ⟨⟨vs,SqT.of h1⟩,q _ M1 k (Ext.refl _ _) b (DD h1 j)⟩⟩
  |_=>simp only[z]at q;exact q.elim
noncomputable def cR(i:Int):Bool:=decide (-(2^62)<=i)&&decide (i<2^62)
def Oq(fs:En->Res (List R)):En->Res Src:=λenv=>(fs env).bind λrs=>match rs.map R.d with
 |[.int j]=>if cR j then .ok ⟨gp 0 j.toNat,true,[]⟩else .stuck
 |_=>.stuck
def PostI.ext{mg:Str->Option XG}{M a:Addr->Prop}{R:It->Hp->Prop}(e:Ext M H a H')(p:PostI mg E g M ρ env σ H R r):PostI mg E g a ρ env σ H' R r:=by
 cases r with
 |stuck=>exact p
 |exc c=>exact p
 |ok s=>exact λJ M2 b e2=>p J M2 b (e.trans e2)
def l7(h:Gl X "range") (i:X.mg "range"=none) (ha:Dq X E [a] fs) (hs:autoParam (starEach [a] X.env=[(false,eval a X.env)]) aM):Oo X E tg (.Call (.Name "range" p) [a] [] pos) (Oq fs):=by
 obtain⟨t,p1,s1⟩:=ha;refine⟨_,AI h i p1 hs,λg M k env σ H l f p=>s1.one f (P:=λM H r=>PostI X.mg E g M k env σ H l r) p (λ_ _ z=>z) (λ_ _ _ z=>z) (λ_ _ _ _ _ e p=>p.ext e) λrs vs M1 m e1 b is q=>?_⟩;generalize hd:rs.map R.d=ds at is q
 match ds,is,q with
 |[.int j],is,q=>
  obtain⟨v,w,rfl,n,o⟩:=is;cases n;cases o;dsimp only at q;by_cases c:cR j=true
  .rw[T2 c]at q;simp only[cR,Uv,Vu]at c;exact⟨j,rfl,c.1,c.2,q _ M1 m (Ext.refl _ _) b (yz 0 j.toNat)⟩
  .rw[T9 c]at q;exact q.elim
 |[],_,q=>exact q.elim
 |[.bn],_,q=>exact q.elim
 |[.bl _],_,q=>exact q.elim
 |[.str _],_,q=>exact q.elim
 |[.tup _],_,q=>exact q.elim
 |[.lst _],_,q=>exact q.elim
 |[.dZ _ _],_,q=>exact q.elim
 |.int _::_::_,_,q=>exact q.elim
 |.bn::_::_,_,q=>exact q.elim
 |.bl _::_::_,_,q=>exact q.elim
 |.str _::_::_,_,q=>exact q.elim
 |.tup _::_::_,_,q=>exact q.elim
 |.lst _::_::_,_,q=>exact q.elim
 |.dZ _ _::_::_,_,q=>exact q.elim
def j9(asg:D->Bool->En->Option En)(fr:Bool)(body:En->Res Fl):List D->En->Res Fl
 |[],env=>.ok (.nx env)
 |x::xs,env=>match asg x fr env with
  |none=>.stuck
  |some b=>(body b).bind λr=>match r with
   |.nx a=>j9 asg fr body xs a
   |.ct a=>j9 asg fr body xs a
   |.bk a=>.ok (.nx a)
   |.rt r=>.ok (.rt r)
   |.rm r e=>.ok (.rm r e)
def uu(a:En->Res Src)(asg:D->Bool->En->Option En)(body:En->Res Fl):En->Res Fl:=λenv=>(a env).bind λs=>j9 asg s.fr body s.xs (ba env s.al)
def Os(J:It)(u:TG)(tb:TS)(D:Ends)(σ:St)(c:Hp):Prop:=∃W:Nat->Nat->St->Hp->Prop,(∃m,W 0 m σ c)/\∀i m σ H,W i m σ H->(J.stop i H/\D.nx σ H)\/(J.go i H/\∃N:St->Hp->Prop,(∀a H',N a H'->∃m',m'<m/\W (i+1) m' a H')/\∀x H',J.FI i H x H'->u x σ H' λb d=>tb {D with nx:=N,ct:=N,bk:=D.nx} b d)
def qI{asg:D->Bool->En->Option En}{G:En->Res Fl}{g:Gd}{M2:Addr->Prop}{H:Pr}{p:En}{σ:St}{v:Hp}{D:Ends}(s2:K1 ix u asg)(s3:GK X.mg E tb G)(I:Rep g M2 H p σ v)(K:Walk J (f9 g M2 fr) v xs)(P:PostS X.mg E g M2 v D (j9 asg fr G xs p)):Os J u tb D σ v:=by
 refine⟨λi m l H'=>m=xs.length-i/\i<=xs.length/\∃k n L,Rep g k n L l H'/\lR M2 v k H'/\PostS X.mg E g k H' D (j9 asg fr G (xs.drop i) L),⟨_,rfl,UB _,M2,H,_,I,lR.refl _ _,P⟩,?_⟩;rintro i m l H' ⟨rfl,hle,k,n,L,q,f',s⟩;have kp:∀a o,v a=some o->(f9 g M2 fr a\/iL o)->H' a=some o:=λa o e z=>f'.h a o e (z.imp (·.1) id);by_cases w:i<xs.length
 .have ed:xs[i]?=some xs[i]:=by simp[w]
  obtain⟨go,yl⟩:=K.go H' i _ kp ed;have A:xs.drop i=xs[i]::xs.drop (i+1):=List.drop_eq_getElem_cons w;rw[A]at s;unfold j9 at s;refine .inr ⟨go,λt b=>∃M'' M f,Rep g M'' M f t b/\lR M2 v M'' b/\PostS X.mg E g M'' b D (j9 asg fr G (xs.drop (i+1)) f),λt b z=>⟨xs.length-(i+1),by lia,rfl,w,z⟩,λx b y=>?_⟩;obtain⟨Z,is⟩:=yl x b y;have B:=q.grow Z;have fx:lR k H' k b:=⟨λ_ z=>z,λa o e _=>Z a o e⟩;have Q:Is b (f9 g k fr) xs[i] x:=is.weak λa z=>f9.mono f'.m z;cases R:asg xs[i] fr L with
  |none=>simp only[R]at s;exact s.elim
  |some S=>
   simp only[R]at s;refine s2 g k n L S l b _ fr x _ B Q R λT U C _ _=>?_;refine s3 g k U S T b _ C ?_;have d:=PostS.ba fx s;cases V:G S with
   |stuck=>rw[V]at d;exact d
   |exc c=>rw[V]at d;exact d
   |ok r=>
    rw[V]at d;cases r with
    |nx N=>exact λW Y F H3 O j=>⟨Y,F,N,j,(f'.trans fx).trans O,PostS.ba O d⟩
    |ct N=>exact λW Y F H3 O j=>⟨Y,F,N,j,(f'.trans fx).trans O,PostS.ba O d⟩
    |bk N=>exact d
    |rt r=>exact d
    |rm r N=>exact d
 .have e:i=xs.length:=by lia
  subst e;rw[List.drop_length]at s;exact .inl ⟨K.stop H' kp,s l k n H' (lR.refl _ _) q⟩
def kZ(m:PassesOwn (model X.prog X.w) X.A X.env X.xe)(n:X.calm=true)
 (e:Oo X E tg iter src) (r:FG X ix tg asg) (t:uq X E body fb) (hs:autoParam (∀x,foldedSetIterable iter X.env x=pure x) am):zN X E (.For tg iter body [] pos) (uu src asg fb):=by
 obtain⟨G,p1,s1⟩:=e;obtain⟨u,p2,s2⟩:=r;obtain⟨tb,p3,v⟩:=t;refine⟨_,gS m n p1 p2 p3 hs,λg M y env σ H D f p=>?_⟩;refine s1 g M y env σ H _ f ?_;unfold uu at p;cases q:src env with
 |stuck=>rw[q]at p;exact p
 |exc c=>rw[q]at p;exact p
 |ok s=>rw[q]at p;intro J M1 k e1 b B;obtain⟨M2,C,l,d,F,_,_⟩:=Rep.ba s.al b;have h:Walk J (f9 g M2 s.fr) k s.xs:=B.weak λa z=>z.elim (f9.mono l) λ⟨i,e,o⟩=>⟨F i e a o,λ_=>(b.cc i a o).2.1⟩;have j:PostS X.mg E g M2 k D (j9 asg s.fr fb s.xs (ba env s.al)):=PostS.ba (e1.ba.trans ⟨l,λ_ _ q _=>q⟩) p;exact qI s2 v d h j
end
theorem ji:∀(names:List (Str×NameKind))(cs:List (Str×Addr)),(∀x∈names,x.2=.free->∃c,env.cells.lookup x.1=some c)->(∀y c,cs.lookup y=some c->env.cells.lookup y=some c)->
 ∃cl,(forIn names cs λ(x:Str×NameKind)(r:List (Str×Addr))=>(do
  if(x.2==.free)=true then
   let c <- cellOf env x.1
   pure (ForInStep.yield ((x.1,c)::r))
  else pure (ForInStep.yield r):Sem (ForInStep (List (Str×Addr)))))=pure cl/\(∀y c,cl.lookup y=some c->env.cells.lookup y=some c)/\(∀x∈names,x.2=.free->∃c,cl.lookup x.1=some c)/\(∀y c,cs.lookup y=some c->∃a,cl.lookup y=some a)
 |[],cs,_,h=>⟨cs,by simp,h,λ_ z=>absurd z (by simp),λy c e=>⟨c,e⟩⟩
 |(n,k)::r,cs,f,h=>by
  by_cases g:k=.free
  .subst g;obtain⟨c,m⟩:=f (n,.free) (by simp) rfl;have i:cellOf env n=pure c:=by simp[cellOf,m]
   have h':∀y a,((n,c)::cs).lookup y=some a->env.cells.lookup y=some a:=λy a e=>by
    rw[Wd]at e;cases d:y==n with
    |true=>rw[d]at e;cases e;rw[eq_of_beq d];exact m
    |false=>rw[d]at e;exact h y a e
   obtain⟨cl,e1,e2,j,e4⟩:=ji r ((n,c)::cs) (λx hx=>f x (by simp[hx])) h';have self:∃a,cl.lookup n=some a:=e4 n c (by simp[Wd]);refine⟨cl,?_,e2,λx hx b=>?_,λy a e=>?_⟩
   .rw[List.forIn_cons];simp only[beq_self_eq_true,Vy,i,pure_bind];exact e1
   .rcases T6.mp hx with rfl|hx
    .exact self
    .exact j x hx b
   .by_cases d:y=n
    .rw[d];exact self
    .refine e4 y a ?_;have o:(y==n)=false:=by simpa using d
     rw[Wd,o];exact e
  .obtain⟨cl,e1,e2,j,e4⟩:=ji r cs (λx hx=>f x (by simp[hx])) h;refine⟨cl,?_,e2,λx hx b=>?_,e4⟩
   .rw[List.forIn_cons];have l:(k==NameKind.free)=false:=by simpa using g
    simp only[l,Ud,U1,pure_bind];exact e1
   .rcases T6.mp hx with rfl|hx
    .exact absurd b g
    .exact j x hx b
def rS(h:∀x∈scope.names,x.2=.free->∃c,env.cells.lookup x.1=some c) :
 ∃cl,closureFor scope env=pure cl/\(∀y c,cl.lookup y=some c->env.cells.lookup y=some c)/\(∀x∈scope.names,x.2=.free->∃c,cl.lookup x.1=some c):=by
 obtain⟨cl,e1,e2,a,_⟩:=ji scope.names [] h (λ_ _ e=>by simp at e);refine⟨cl,?_,e2,a⟩;unfold closureFor;refine Eq.trans ?_ (show((pure cl:Sem (List (Str×Addr))) >>= λcs=>pure cs)=pure cl by simp);rw[<- e1]
 all_goals first
  |rfl
  |(congr 1;congr 1;funext x r;obtain⟨n,k⟩:=x;first|rfl|(dsimp only;split<;>simp_all))
theorem oU{f:Str->NameKind->NameKind}:∀(names:List (Str×NameKind))(y:Str),(names.map λx=>(x.1,f x.1 x.2)).lookup y=(names.lookup y).map (f y)
 |[],y=>rfl
 |(n,k)::r,y=>by
  rw[T1,Wd,Wd];cases h:y==n with
  |true=>rw[eq_of_beq h];rfl
  |false=>exact oU r y
def j_(scope:Scope)(env:Env)(y:Str):(relabel scope env).names.lookup y=(scope.names.lookup y).map λk=>if(k==.free&&env.scope.kind==.function&&env.kindOf y==some .cell)=true then .cell else k:=by
 have e:(relabel scope env).names=scope.names.map λx=>(x.1,(λn k=>if(k==NameKind.free&&env.scope.kind==.function&&env.kindOf n==some .cell)=true then NameKind.cell else k) x.1 x.2):=by unfold relabel;refine Vb λx _=>?_;obtain⟨n,k⟩:=x;dsimp only;split<;>rfl
 rw[e];exact oU (f:=λn k=>if(k==NameKind.free&&env.scope.kind==.function&&env.kindOf n==some .cell)=true then NameKind.cell else k) scope.names y
def uv(h:scope.names.lookup y=some .free):(relabel scope env).names.lookup y=some .cell\/(relabel scope env).names.lookup y=some .free:=by
 rw[j_,h];simp only[Option.map_some];split
 .exact .inl rfl
 .exact .inr rfl
noncomputable def cK(X:Cx)(scope:Scope)(N:List Str)(cl:List (Str×Addr))(C:Addr)(s:XD)(H:Hp)(ex:List Addr):Cx:={X with N:=N,s₀:=s,H₀:=H,env:=compEnvC scope cl C X.env,outer:=X.stack,ex:=ex,fn:=λ_=>false,pn:=[],xe:=λ_ _=>False}
section
variable{X:Cx}{aa:List (Addr×Obj)}{σ:St}{H:Hp}{s:XD}{scope:Scope}{N:List Str}{cl:List (Str×Addr)}{C:Addr}{ex:List Addr}
def GM(I:L2.Inv X aa σ H s)(hkind:scope.kind=.function)(hcell:∀y∈scope.names,y.2≠.cell)(hcl:∀y c,cl.lookup y=some c->X.env.cells.lookup y=some c)(hhas:∀x∈scope.names,x.2=.free->∃c,cl.lookup x.1=some c)
 (hC:s.heap.objs.size<=C) (hex:∀b∈ex,lu X aa H b/\b<s.heap.objs.size):(cK X scope N cl C s H ex).Ok where
 mod:=I.ok.mod
 kind:=hkind
 glob:=I.ok.glob
 blt:=I.ok.blt
 above:=hC
 inj:=λx y c h1 h2=>I.ok.inj x y c (hcl x c h1) (hcl y c h2)
 has:=λy hy=>by
  have key:∀k,(relabel scope X.env).names.lookup y=some k->(k=.cell\/k=.free)->∃c,cl.lookup y=some c:=λk e hk=>by
   rw[j_]at e;cases q:scope.names.lookup y with
   |none=>rw[q]at e;cases e
   |some k0=>
    have hm:=Vr q;have h0:=hcell _ hm;have hf:k0=.free:=by
     rw[q]at e;simp only[Option.map_some,Xl]at e;split at e
     .rename_i z;simp only[Uv,VW]at z;exact z.1.1
     .rcases hk with hk|hk
      .exact absurd (e.trans hk) h0
      .exact e.trans hk
    exact hhas _ hm hf
  rcases hy with hy|hy
  .exact key _ hy (.inl rfl)
  .exact key _ hy (.inr rfl)
 NI:=λ_ _ h=>by cases h
 hd:=I.ok.hd
 frames:=I.ok.frames
 Q2:=.inl rfl
 SF:=λb hb=>⟨Ul (Uw (hex b hb).2 hC),λx c e=>(hex b hb).1.2.2.2.2.1 x c (hcl x c e)⟩
 bs:=λb o e=>I.bs b o e
 FH:=Us I.ok.FH I.sz
 Cc:=λb o e hb=>by
  rcases(hex b hb).1.2.2.2.1 with z|z
  .exact I.ok.Cc b o e z
  .exact absurd (Uw (T8 e) (Us I.ok.FH z)) (VJ _)
 FE:=λb hb hfs=>by
  rcases T6.mp (I.vi b hfs)with z|z
  .exact(hex b hb).1.2.1 z
  .exact(hex b hb).1.2.2.1 z
 oM:=I.stack
 JB:=I.AD
 kt:=I.kt
structure QV(X:Cx) (scope:Scope) (capN:List Str) (caps:List Nat):Prop where
 at':∀(k:Nat)(y:Str),capN[k]?=some y->∃j:Nat,caps[k]?=some j/\X.N[j]?=some y
 out:∀y∈capN,X.env.kindOf y=some .cell\/X.env.kindOf y=some .free
 vh:∀y∈capN,scope.names.lookup y=some .free
 len:caps.length=capN.length
noncomputable def nZ(σ:St)(caps:List Nat):St:=caps.map λj=>(σ[j]?).join
def DE(I:L2.Inv X aa σ H s)(hkind:scope.kind=.function)(hcell:∀y∈scope.names,y.2≠.cell)(hcl:∀y c,cl.lookup y=some c->X.env.cells.lookup y=some c)(hhas:∀x∈scope.names,x.2=.free->∃c,cl.lookup x.1=some c)
 (hC:s.heap.objs.size<=C) (hex:∀b∈ex,lu X aa H b/\b<s.heap.objs.size) (hc:QV X scope capN caps) (kp:∀b o,s.heap.get? b=some o->h4.get? b=some o) (ns:h4.Ns C m4) :
 L2.Inv (cK X scope (tN++capN) cl C s H ex) [] (List.replicate tN.length none++nZ σ caps) H {s with heap:=h4,toks:=tk} where
 ok:=GM I hkind hcell hcl hhas hC hex
 os:=rfl
 bare:=I.bare
 base:=Un.kept kp
 loc:=by
  refine⟨m4,ns,λi y v e1 e2 e3=>?_⟩;by_cases hlt:i<tN.length
  .rw[Vw (by simpa using hlt),WI]at e2;rw[T2 hlt]at e2;cases e2
  .obtain⟨k,rfl⟩ : ∃k,i=tN.length+k:=⟨i-tN.length,by lia⟩;have e1:capN[k]?=some y:=by
    have e1:(tN++capN)[tN.length+k]?=some y:=e1
    rwa [U4 (by lia),VN]at e1
   have e2:(nZ σ caps)[k]?=some (some v):=by
    rwa [U4 (by simp),WX,VN]at e2
   obtain⟨j,ej,eN⟩:=hc.at' k y e1;have e4:σ[j]?=some (some v):=by
    unfold nZ at e2;rw[Ui,ej]at e2;have e2:(σ[j]?).join=some v:=by simpa using e2
    cases q:σ[j]? with
    |none=>rw[q]at e2;cases e2
    |some o=>rw[q]at e2;cases o with
     |none=>cases e2
     |some w=>cases e2;rfl
   have hm:=Uz e1;obtain⟨m,hn,hl⟩:=I.loc;have hout:=hc.out y hm;obtain⟨u,r,l⟩:=hl j y v eN e4 (.inr hout);refine⟨u,r,.inr ⟨uv (hc.vh y hm),?_⟩⟩;obtain⟨c,hcl2⟩:=hhas (y,.free) (Vr (hc.vh y hm)) rfl;refine⟨c,hcl2,?_⟩;rcases l with⟨l,_⟩|⟨_,c',e5,z⟩
   .rcases hout with h|h<;>(rw[h]at l;cases l)
   .have:=hcl y c hcl2;rw[e5]at this;cases this;obtain⟨o,ho,hd⟩:=z;exact⟨o,kp _ o ho,hd⟩
 cell:=λy c e=>by obtain⟨v,o,ho,hd⟩:=I.cell y c (hcl y c e);exact⟨v,o,kp _ o ho,hd⟩
 free:=I.aT.fresh hC
 ja:=λy c e=>I.ja y c (hcl y c e)
 pin:=λp hp=>absurd (show p∈([]:List (Addr×Obj))from hp) (by simp)
 aT:=I.aT.kept kp
 len:=by simp[cK,nZ,hc.len]
def Be(I:L2.Inv X aa σ H s)(c:X'=cK X scope N cl C s H ex)(d:s.heap.objs.size<=C)(hex:∀b∈ex,lu X aa H b/\b<s.heap.objs.size)
 (a:L2.Inv X' pl σ' H' s'):L2.Inv X aa σ H' s'/\lu X aa H' C:=by
 subst c;refine⟨I.QU (ch:=ex) a.os a.base a.aT a.bare λb e=>?_,I.sC d a.free⟩;obtain⟨_,f,j,g,h,i⟩:=(hex b e).1;exact⟨g,f,h,i⟩
def zQ(I:L2.Inv X aa σ H s)(a:lu X aa H C)(c:Heap.SameBut C s.heap h'):L2.Inv X aa σ H {s with heap:=h'}:=I.turned (t':=s.toks) (it:=C) (λb o d e=>(c.2 b d).trans e) a.1 a.2.1 a.2.2.2.1 a.2.2.2.2.1 a.2.2.2.2.2
end
section
variable{X:Cx}{aa:List (Addr×Obj)}{σ:St}{H3:Hp}{s3:XD}{scope:Scope}{tg:Expr}{tN:List Str}{capN:List Str}{cl:List (Str×Addr)}{C:Addr}{fp:List Addr}{elt iter:Expr}{pos:Pos}{ifs:List Expr}
def Ot(X:Cx)(ifs:List Expr)(a:TT):Prop:=∀(aa:List (Addr×Obj))(s:XD)(σ:St)(H:Hp)(Q:Bool->Hp->Prop),L2.Inv X aa σ H s->a σ H Q->
 wpAny (model X.prog X.w) X.A (forIn ifs true λc r=>if r=true then do let ok <- isTrue c X.env (eval c X.env);pure (ForInStep.yield ok)else pure (ForInStep.yield r)) (TP X aa σ Q) X.xe s
def zR:Ot X [] (λ_ H Q=>Q true H):=λ_ _ σ H Q I q=>wpAny_tests_nil ⟨H,I,q⟩
def GN(h:PT X c tt):Ot X [c] tt:=λaa s σ H Q I q=>wpAny_tests_one (h aa s σ H Q I q)
def Bf(p:X'=cK X scope (tN++capN) cl C s3 H3 fp)(T:Turn X.prog X.w X.K tg J fp it tn)(q:X.calm=true)
 (I4:L2.Inv X' [] (List.replicate tN.length none++c) H3 s4) (bq:X'.N.length=tN.length+c.length) (st4:tn 0 s4.heap) (hf:∀b∈fp,lu X' [] H3 b)
 (hg:PG X' tg gt) (ht:Ot X' ifs tt) (he:PE X' elt te)
   (W:Nat->Nat->List V->Hp->Prop) (Fin:List V->Hp->Prop) (w0:∃m,W 0 m [] H3)
   (turn:∀i m a H,W i m a H->H Dl=some (.lst a)/\((J.stop i H/\Fin a H)\/(J.go i H/\∀G H' o,J.FI i H G H'->o.length=tN.length->gt G (o++c) H' λt H1=>(∀j:Nat,tN.length<=j->t[j]?=(o++c)[j]?)/\tt t H1 λb H2=>if b=true then
     te t H2 λy g=>g Dl=some (.lst a)/\a.length<sizeLine/\∃m',m'<m/\W (i+1) m' (a++[y]) (aO g Dl (.lst (a++[y])))else ∃m',m'<m/\W (i+1) m' a H2)))
   (R:Result->XD->Prop) (hR:∀σ' H' a B,L2.Inv X' [] σ' H' B->H' Dl=some (.lst a)->Fin a H'->R (.ok .next) B) :
   codeAny (model X.prog X.w) X.A (.compLoop (.ListComp elt [⟨tg,iter,ifs,0⟩] scope pos) 0 (.ref it) (.ref Dl) (compEnvC scope cl C X.env)) R s4:=by
  obtain⟨m0,w0⟩:=w0;have eA:X'.A=X.A:=by rw[p];rfl
  have E:X'.prog=X.prog:=by rw[p];rfl
  have F:X'.w=X.w:=by rw[p];rfl
  have eK:X'.K=X.K:=by rw[p];rfl
  have eE:X'.env=compEnvC scope cl C X.env:=by rw[p];rfl
  have Y:X'.xe=λ_ _=>False:=by rw[p];rfl
  have eC:X'.calm=true:=by rw[p];exact q
  have f:∀{H':Hp},(∀b∈fp,H' b=none)->∀b∈fp,lu X' [] H' b:=λhn b h=>⟨hn b h,(hf b h).2⟩;refine codeAny_loop rfl (λn s=>∃i o a H,L2.Inv X' [] (o++c) H s/\o.length=tN.length/\tn i s.heap/\(∀b∈fp,H b=none)/\W i n a H) ?_ m0 ⟨0,List.replicate tN.length none,[],H3,I4,by simp,st4,λb h=>(hf b h).1,w0⟩;rintro n s5 ⟨i,o,a,g,I5,lo,I,L,w5⟩;show wpAny _ X.A ((compTurn (.ListComp elt [⟨tg,iter,ifs,0⟩] scope pos) 0 (.ref it) (.ref Dl) (compEnvC scope cl C X.env)).onRaise (λx=>do noteFrame x (compEnvC scope cl C X.env);theTreesLotGoes x)) _ _ s5;refine wpAny_noted ?_;rw[compTurn_list];obtain⟨hD,alt⟩:=turn i n a g w5;rcases alt with⟨stop,fin⟩|⟨go,step⟩
  .refine KE (wpAny_standAt (KE (Vo (eA▸T.done X' E F eK eC i [] s5 _ g _ I5 (f L) I stop) (λr s6 ⟨hr,I6⟩=>?_) λ_ _ z=>z)));subst hr;exact TV (hR _ g a s6 I6 hD fin)
  .refine KE (wpAny_standAt (KE (Vo (eA▸T.item X' E F eK eC i [] s5 _ g _ I5 (f L) I go) (λr s6 ⟨u,hr,h6⟩=>?_) λ_ _ z=>z)));subst hr;refine KE (Vo h6 (λ_ s7 ⟨G,H7,I7,r7,y7,D,fr7⟩=>?_) λ_ _ z=>z);have I7':=I7.pinned (f fr7) (T.obj _ _ D);have M:=hg _ s7 _ H7 G u _ I7' r7 (step G H7 o y7 lo);rw[E,F,eA,eE,Y]at M;refine KE (Vo M (λ_ s8 ⟨k,H8,I8,shp,q8⟩=>?_) λ_ _ z=>z.elim);obtain⟨l,O,eσ⟩ : ∃l:St,l.length=tN.length/\k=l++c:=by
    have l8:k.length=tN.length+c.length:=I8.len.trans bq;refine⟨k.take tN.length,by rw[VF];lia,?_⟩;have ed:k.drop tN.length=c:=by
     apply WR
     intro j;rw[List.getElem?_drop,shp (tN.length+j) (by lia),U4 (by lia),lo,VN]
    rw[<- ed,V0]
   subst eσ;have P:=ht _ s8 _ H8 _ I8 q8;rw[E,F,eA,eE,Y]at P;refine KE (Vo P (λok s9 ⟨Z,I9,q9⟩=>?_) λ_ _ z=>z.elim);have again:∀{B:XD}{H':Hp},L2.Inv X' ([]++pQ fp s7.heap) (l++c) H' B->L2.Inv X' [] (l++c) H' B/\tn (i+1) B.heap/\∀b∈fp,H' b=none:=λ{B H'} J'=>by refine⟨J'.nF,T.keep _ _ _ D λb h ob e=>(J'.pin (b,ob) (UA _ (UA _ (jd h e)))).1,λb h=>?_⟩;obtain⟨ob,e,d⟩:=T.obj _ _ D b h;exact(J'.pin (b,ob) (UA _ (UA _ (jd h e)))).2.1
   cases ok with
   |false=>obtain⟨m',hm,w9⟩:=(show ∃m',m'<n/\W (i+1) m' a Z from by simpa using q9);obtain⟨a1,a2,a3⟩:=again I9;exact TV ⟨rfl,m',hm,i+1,l,a,Z,a1,O,a2,a3,w9⟩
   |true=>
    have q9:te (l++c) Z λy g=>g Dl=some (.lst a)/\a.length<sizeLine/\∃m',m'<n/\W (i+1) m' (a++[y]) (aO g Dl (.lst (a++[y]))):=by simpa using q9
    have Q:=he _ s9 _ Z _ I9 q9;rw[E,F,eA,eE,Y]at Q;refine KE (KE (Vo Q (λv s10 ⟨y,S,I10,ry,eD,hl,m',hm,w10⟩=>?_) λ_ _ z=>z.elim));have U:=fJ (X:=X') _ s10 _ S (.ref Dl) [y] (.ref Dl) [v] (λw H'=>w=.bn/\H'=aO S Dl (.lst (a++[y]))) I10 rfl (.cons ry .nil) ⟨Dl,a,y,rfl,rfl,eD,hl,rfl,rfl⟩;rw[E,F,eA,Y]at U;refine KE (Vo U (λ_ s11 ⟨w,H11,I11,_,_,eH⟩=>?_) λ_ _ z=>z.elim);subst eH;obtain⟨a1,a2,a3⟩:=again I11;exact TV (TV ⟨rfl,m',hm,i+1,l,a++[y],_,a1,O,a2,a3,w10⟩)
end
structure ck(X:Cx) (scope:Scope) (tN:List Str) (capN:List Str) (caps:List Nat):Prop where
 kind:scope.kind=.function
 JM:∀y∈scope.names,y.2≠.cell
 names:∀y∈scope.names,y.2=.local->scope.names.lookup y.1=some .local
 own:∀x∈tN,scope.names.lookup x=some .local
 free:∀y∈scope.names,y.2=.free->X.env.kindOf y.1=some .cell\/X.env.kindOf y.1=some .free
 cap:QV X scope capN caps
 nd:(tN++capN).Nodup
section
variable{X:Cx}{aa:List (Addr×Obj)}{σ:St}{H:Hp}{s:XD}{scope:Scope}{tg:Expr}{tN:List Str}{capN:List Str}{caps:List Nat}{elt iter:Expr}{pos:Pos}{ifs:List Expr}{wi:TI}
def kc(X:Cx)(scope:Scope)(tg:Expr)(tN:List Str)(capN:List Str)(caps:List Nat)(elt:Expr)(ifs:List Expr)(σ:St)(Fin:Addr->List V->Hp->Prop)(J:It)(d:Hp):Prop:=
 ∀(c:Addr),d c=none->∀(cl:List (Str×Addr))(C:Addr)(f:XD)(fp:List Addr),∃(gt:TG)(g:TT)(h:TE)(W:Nat->Nat->List V->Hp->Prop),
  PG (cK X scope (tN++capN) cl C f (aO d c (.lst [])) fp) tg gt/\Ot (cK X scope (tN++capN) cl C f (aO d c (.lst [])) fp) ifs g/\PE (cK X scope (tN++capN) cl C f (aO d c (.lst [])) fp) elt h/\(∃m,W 0 m [] (aO d c (.lst [])))/\
  ∀i m a H,W i m a H->H c=some (.lst a)/\((J.stop i H/\Fin c a H)\/(J.go i H/\∀k H' (o:St),J.FI i H k H'->o.length=tN.length->gt k (o++nZ σ caps) H' λe n=>(∀j:Nat,tN.length<=j->e[j]?=(o++nZ σ caps)[j]?)/\g e n λb d=>if b=true then
   h e d λy l=>l c=some (.lst a)/\a.length<sizeLine/\∃m',m'<m/\W (i+1) m' (a++[y]) (aO l c (.lst (a++[y])))else ∃m',m'<m/\W (i+1) m' a d))
def tj{use:Option (XG->Sem Unit)}{Qv:XG->XD->Prop}{Fin:Addr->List V->Hp->Prop}(hc:X.calm=true)(S:ck X scope tN capN caps)(I:L2.Inv X aa σ H s)(hi:PI X tg iter wi)
 (h:wi σ H (kc X scope tg tN capN caps elt ifs σ Fin))
 (hu:∀(L C:Addr)(j:List V)(H':Hp)(q:XD),L2.Inv X aa σ H' q->lu X aa H' C->H' L=some (.lst j)->Fin L j H'->(∃m,q.heap.Ns C m)->compPost (model X.prog X.w) X.A X.xe use Qv (.ref L) C (.ok .next) q)
 (hs:autoParam (∀x,foldedSetIterable iter X.env x=pure x) am) :
 wX X (comprehension (.ListComp elt [⟨tg,iter,ifs,0⟩] scope pos) scope X.env (firstIterPos [⟨tg,iter,ifs,0⟩] pos) (newList []) false (eval iter X.env) use) Qv X.xe s:=by
 obtain⟨cl,M,r,t⟩:=rS (scope:=scope) (env:=X.env) λy N hf=>I.ok.has y.1 (S.free y N hf);refine wpAny_comprehension_free rfl hs M S.kind S.names (bP (hi aa s σ H _ I h) λv s1 h1=>bP h1 λitv s2 h2=>?_);obtain⟨it,fp,tn,J,k,rfl,U,T,B,Y,D⟩:=h2;refine UL (wpAny_newFunctionEnv S.JM (by intro y N;simp at N) (λa d g=>?_) S.kind);dsimp only at d g ⊢;have hD:k s2.heap.objs.size=none:=U.aT.fresh (TY _);have K:L2.Inv X aa σ (aO k s2.heap.objs.size (.lst [])) { s2 with heap:=s2.heap.push { cls:=.type "list",dict:=none,data:=.seq ([]:List XG).toArray } }:=U.laid (t':=s2.toks) (λb u e=>RW _ e) (TY _) ⟨UB _,[],0,.nil,T4 _ rfl⟩;generalize E:({ s2 with heap:=s2.heap.push { cls:=.type "list",dict:=none,data:=.seq ([]:List XG).toArray } }:XD)=i at K;have Z:s2.heap.push { cls:=.type "list",dict:=none,data:=.seq ([]:List XG).toArray }=i.heap:=by rw[<- E]
 rw[Z]at d g ⊢;have kp:∀b o,i.heap.get? b=some o->a.get? b=some o:=λb o e=>g.extBut b o (Ul (T8 e)) (RW _ e);have F:∀b o,s2.heap.get? b=some o->i.heap.get? b=some o:=λb o e=>by rw[<- Z];exact RW _ e
 have hex:∀b∈fp,lu X aa (aO k s2.heap.objs.size (.lst [])) b/\b<i.heap.objs.size:=λb l=>by obtain⟨o,ho,_⟩:=T.obj 0 _ B b l;have n:b<s2.heap.objs.size:=T8 ho;refine⟨⟨?_,(Y b l).2⟩,T8 (F b o ho)⟩;rw[af (Ul n)];exact(Y b l).1
 have es:({s2 with heap:=a,toks:=s2.toks+([]:List (Str×XG)).length}:XD)={i with heap:=a,toks:=s2.toks+([]:List (Str×XG)).length}:=by rw[<- E]
 have I4:L2.Inv (cK X scope (tN++capN) cl i.heap.objs.size i (aO k s2.heap.objs.size (.lst [])) fp) [] (List.replicate tN.length none++nZ σ caps) (aO k s2.heap.objs.size (.lst [])) {i with heap:=a,toks:=s2.toks+([]:List (Str×XG)).length}:=DE K S.kind S.JM r t (TY _) hex S.cap kp d;obtain⟨gt,tt,te,W,hg,ht,he,w0,turn⟩:=D s2.heap.objs.size hD cl i.heap.objs.size i fp;have G:tn 0 a:=T.keep 0 _ _ B λb l o e=>kp b o (F b o e);have f4:∀b∈fp,lu (cK X scope (tN++capN) cl i.heap.objs.size i (aO k s2.heap.objs.size (.lst [])) fp) [] (aO k s2.heap.objs.size (.lst [])) b:=λb l=>by
  obtain⟨f,n⟩:=hex b l;refine⟨f.1,Ul n,λO=>?_,.inl l,λy c e=>f.2.2.2.2.1 y c (r y c e),λp hp=>absurd (show p∈([]:List (Addr×Obj))from hp) (by simp)⟩;rcases T6.mp (K.vi b O)with z|z
  .exact f.2.1 z
  .exact f.2.2.1 z
 have loop:codeAny (model X.prog X.w) X.A (.compLoop (.ListComp elt [⟨tg,iter,ifs,0⟩] scope pos) 0 (.ref it) (.ref s2.heap.objs.size) (compEnvC scope cl i.heap.objs.size X.env)) (compPost (model X.prog X.w) X.A X.xe use Qv (.ref s2.heap.objs.size) i.heap.objs.size)
  {i with heap:=a,toks:=s2.toks+([]:List (Str×XG)).length}:=by
  refine Bf rfl T hc I4 (by show(tN++capN).length=_;simp[nZ,S.cap.len]) G f4 hg ht he W (Fin s2.heap.objs.size) w0 turn _ λσ' H' j q I' P Q=>?_;obtain⟨Io,fo⟩:=Be K rfl (TY _) hex I';obtain⟨m',R,_⟩:=I'.loc;exact hu _ _ j H' q Io fo P Q ⟨m',R⟩
 rw[es];exact codeAny_compStart_list loop (T.self _ 0 _ _ _ G loop)
def wg(d:X.calm=true)(S:ck X scope tN capN caps)(I:L2.Inv X aa σ H s)(e:PI X tg iter wi)(h:wi σ H (kc X scope tg tN capN caps elt ifs σ λa _ H'=>Q (.ref a) H'))
 (hs:autoParam (∀x,foldedSetIterable iter X.env x=pure x) am):wX X (eval (.ListComp elt [⟨tg,iter,ifs,0⟩] scope pos) X.env) (EP X aa σ Q) X.xe s:=by
 rw[eval_ListComp];refine tj (use:=none) d S I e h (λa C f H' k g i l b c=>?_) hs;obtain⟨m,c⟩:=c;exact⟨m,c,λh' j=>⟨.ref a,H',zQ g i j,rfl,b⟩⟩
def DF{D:Ends}{i:Nat}(q:X.calm=true)(S:ck X scope tN capN caps)(r:X.N.Nodup)(c:X.N[i]?=some y)(p:X.env.scope.names.lookup y=some .local)
 (d:swapsWith (.ListComp elt [⟨tg,iter,ifs,0⟩] scope pos) (some (.Name y py)) spos.line X.env=pure true) (I:L2.Inv X aa σ H s) (t:PI X tg iter wi)
 (h:wi σ H (kc X scope tg tN capN caps elt ifs σ λb _ H'=>D.nx (σ.set i (some (.ref b))) H')) (hs:autoParam (∀x,foldedSetIterable iter X.env x=pure x) am) :
 wX X (exec (.Assign [.Name y py] (.ListComp elt [⟨tg,iter,ifs,0⟩] scope pos) spos) X.env) (SP X aa D) X.xe s:=by
 rw[exec_Assign_Name_used _ _ _ _ d];refine KE (wpAny_standAt (KE ?_));show wpAny _ X.A (do let _ <- comprehension (.ListComp elt [⟨tg,iter,ifs,0⟩] scope pos) scope X.env _ (newList []) false (eval iter X.env) (some (assign (.Name y py) X.env))) _ _ s;refine KE (Vo (tj (use:=some (assign (.Name y py) X.env)) (Qv:=λ_ f=>SP X aa D .next f) q S I t h (λb C u H' f w g G j k=>?_) hs) (λ_ f B=>TV (TV B)) λ_ _ e=>e);obtain⟨m,k⟩:=k;show wpAny _ X.A (assign (.Name y py) X.env (.ref b)) _ _ _;refine wpAny_assign_Name (sD (v:=.ref b) w r c (.inl p) rfl (λE l ⟨a,F,ha⟩=>?_) (.inr p));have n:C≠a:=by
  rcases ha with z|z
  .rw[z];exact g.2.1
  .exact Vc (g.2.2.2.2.1 y a z)
 refine⟨m,k.sameBut F n,λh' o=>?_⟩;exact⟨_,H',zQ l g o,j⟩
end
noncomputable def Res.S7{α:Type}:Res α->Res α
 |.exc _=>.stuck
 |r=>r
def GO(env:En)(j:Nat):Option Sl:=match env[j]? with
 |some (some (.val d fr))=>some (.val d fr)
 |some (some (.own ds fr))=>some (.val (.lst ds) fr)
 |some (some (.lP d))=>some (.val d true)
 |_=>none
def gw(env:En)(n:Nat)(caps:List Nat):En:=List.replicate n none++caps.map (GO env)
def g8(mk:D->Option En)(test:En->Res Bool)(elt:En->Res R):List D->Res (List R)
 |[]=>.ok []
 |x::xs=>match mk x with
  |none=>.stuck
  |some e=>(test e).bind λb=>if b then(elt e).bind λr=>(g8 mk test elt xs).bind λrs=>.ok (r::rs)else g8 mk test elt xs
def de(n:Nat)(caps:List Nat)(a:En->Res Src)(asg:D->Bool->En->Option En)(test:En->Res Bool)(elt:En->Res R):En->Res R:=λenv=>(a env).bind λs=>if s.xs.length<=lim then
 (g8 (λd=>asg d s.fr (gw env n caps)) test elt s.xs).S7.bind λrs=>.ok (mN (rs.map R.d) (bZ rs) (s.al++caps.filter (iB env)))else .stuck
def Bg(X:Cx)(E:XK)(a:List Expr)(f:En->Res Bool):Prop:=∃t,Ot X a t/\SndT X.mg E t f
section
variable{X:Cx}{E:XK}
def ke:Bg X E [] (λ_=>.ok true):=⟨_,zR,λg M b env σ H Q a p=>p M H (Ext.refl _ _) a⟩
def iU(h:xL X E c f):Bg X E [c] f:=let ⟨t,a,b⟩:=h;⟨t,GN a,b⟩
end
section
variable{g:Gd}{M1:Addr->Prop}{ρ:Pr}{env:En}{σ:St}{H H1:Hp}
def Ou(rep:Rep g M1 ρ env σ H1)(s:Same H1 H)(ho:o.length=n)(hM:∀a,(M1 a\/∃i,i∈caps/\ρ i a)->M' a)(hf:∀a,M' a->H a≠none)(hi:∀a,M' a->g.H₀ a=none\/g.Ma a)(hfl:∀a,M' a->g.H₀ a=none->MuZ g H a) :
 Rep g M' (λ_ _=>False) (gw env n caps) (o++nZ σ caps) H where
 same:=rep.same.trans s
 jI:=hf
 vh:=hi
 fl:=hfl
 slot:=λi sl e=>by
  by_cases hlt:i<n
  .unfold gw at e;rw[Vw (by simpa using hlt),WI,T2 hlt]at e;cases e
  .obtain⟨k,rfl⟩ : ∃k,i=n+k:=⟨i-n,by lia⟩;have e:(caps.map (GO env))[k]?=some (some sl):=by
    unfold gw at e
    rwa [U4 (by simp),WX,VN]at e
   rw[Ui]at e;cases q:caps[k]? with
   |none=>rw[q]at e;cases e
   |some j=>
    rw[q]at e;have e:GO env j=some sl:=by simpa using e
    have hj:j∈caps:=Uz q;unfold GO at e;cases q2:env[j]? with
    |none=>rw[q2]at e;cases e
    |some o=>
     cases o with
     |none=>rw[q2]at e;cases e
     |some sl0=>
      obtain⟨v,ev,k2⟩:=rep.slot j sl0 q2;have el:(o++nZ σ caps)[n+k]?=some (some v):=by rw[U4 (by lia),ho,VN];unfold nZ;rw[Ui,q];simp[ev]
      rw[q2]at e;cases sl0 with
      |val d' fr'=>cases e;exact⟨v,el,Is.mono (λa o q _=>s a o q) (λa _ _ z=>⟨hM a (.inl z.1),z.2⟩) k2⟩
      |own ds' fr'=>cases e;obtain⟨a,vs,rfl,h1,h2,h4⟩:=k2;have ha:=(h2 a).mpr rfl;exact⟨_,el,a,vs,rfl,.inl ⟨s _ _ h1,hM a (.inr ⟨j,hj,ha⟩),λ_=>(rep.cc j a ha).2.1⟩,IsAll.mono (λa o q _=>s a o q) (λa _ _ z=>⟨hM a (.inl z.1),z.2⟩) h4⟩
      |lP d'=>cases e;exact⟨v,el,Is.mono (λa o q _=>s a o q) (λa _ _ z=>⟨hM a (.inr ⟨j,hj,z⟩),λ_=>(rep.cc j a z).2.1⟩) k2⟩
      |Ce d'=>cases e
 cc:=λ_ _ z=>z.elim
 apart:=λ_ _ _ z=>z.elim
 ow:=λ_ _ z=>z.elim
 len:=by simp[gw,nZ,ho]
 zz:=λa z e=>rep.zz a z (s.free e)
end
noncomputable def wl(X:Cx)(scope:Scope)(tg:Expr)(tN:List Str)(capN:List Str)(caps:List Nat)(elt:Expr)(a:List Expr)(b:TI):TE:=λσ H Q=>b σ H (kc X scope tg tN capN caps elt a σ λc _ H'=>Q (.ref c) H')
section
variable{X:Cx}{E:XK}{scope:Scope}{tg:Expr}{tN:List Str}{capN:List Str}{caps:List Nat}{ix:List Nat}{asg:D->Bool->En->Option En}{elt iter:Expr}{pos:Pos}{ifs:List Expr}{wi:TI}{src:En->Res Src}{ft:En->Res Bool}{fe:En->Res R}
def Bh{M1:Addr->Prop}{F:Hp}{Q:VK}{J:It}{s:Src}{x:List R}(hix:∀j∈ix,j<tN.length)(hg:∀cl C S K fp,FG (cK X scope (tN++capN) cl C S K fp) ix tg asg)(ht:∀cl C S K fp,Bg (cK X scope (tN++capN) cl C S K fp) E0 ifs ft)(he:∀cl C S K fp,PD (cK X scope (tN++capN) cl C S K fp) E0 elt fe)(f:Rep g M1 ρ env σ F)(wk:Walk J (vmsk g M1 s.fr ρ s.al) F s.xs)(hlim:s.xs.length<=lim)(qc:g8 (λd=>asg d s.fr (gw env tN.length caps)) ft fe s.xs=.ok x)
 (p:PostE X.mg E g M1 ρ env σ F Q (.ok (mN (x.map R.d) (bZ x) (s.al++caps.filter (iB env))))):kc X scope tg tN capN caps elt ifs σ (λl _ H'=>Q (.ref l) H') J F:=by
 intro l v cl C S fp;obtain⟨gt,pg,sg⟩:=hg cl C S (aO F l (.lst [])) fp;obtain⟨tt,pt,st⟩:=ht cl C S (aO F l (.lst [])) fp;obtain⟨te,pe,se⟩:=he cl C S (aO F l (.lst [])) fp;obtain⟨d0,dm,T⟩:=f.free v;refine⟨gt,tt,te,λi m t H=>m=s.xs.length-i/\i<=s.xs.length/\∃(A:Addr->Prop)(rs rest:List R),Same F H/\H l=some (.lst t)/\(∀a,(M1 a\/∃j,j∈s.al++caps/\ρ j a)->A a)/\
  (∀a,A a->(M1 a\/∃j,j∈s.al++caps/\ρ j a)\/F a=none)/\¬A l/\(∀a,A a->H a≠none)/\(∀a,A a->g.H₀ a=none->MuZ g H a)/\rs.length<=i/\IsAll H (f9 g A (bZ rs)) (rs.map R.d) t/\g8 (λd=>asg d s.fr (gw env tN.length caps)) ft fe (s.xs.drop i)=.ok rest/\x=rs++rest,
  pg,pt,pe,⟨_,rfl,UB _,(λa=>M1 a\/∃j,j∈s.al++caps/\ρ j a),[],x,aP v,ag,λ_ z=>z,λ_ z=>.inl z,?_,?_,?_,TY _,rfl,qc,rfl⟩,?_⟩
 .rintro(z|⟨j,_,z⟩)
  .exact dm z
  .exact T j z
 .rintro a (z|⟨j,_,z⟩) hn
  .exact f.jI a z ((aP v).free hn)
  .obtain⟨_,_,uo,hz,_⟩:=f.cc j a z;rw[(aP v) a _ hz]at hn;cases hn
 .rintro a (z|⟨j,_,z⟩) h0
  .exact(f.fl a z h0).same λo e=>aP v _ _ e
  .exact .inl ((f.cc j a z).2.2.same λo e=>aP v _ _ e)
 .rintro i m t L ⟨rfl,hle,A,rs,rest,U,G,M,N,nD,Z,W,hrs,I,k,B⟩;refine⟨G,?_⟩;have kp:∀a o,F a=some o->(vmsk g M1 s.fr ρ s.al a\/iL o)->L a=some o:=λa o e _=>U a o e;have inn2:∀{M'':Addr->Prop}{a:Addr},(M1 a\/∃j,j∈s.al++caps/\ρ j a)\/F a=none->g.H₀ a=none\/g.Ma a:=λ{M'' a} z=>by
   rcases z with(z|⟨j,_,z⟩)|z
   .exact f.vh a z
   .exact .inl (f.cc j _ z).2.1
   .exact .inl (f.same.free z)
  by_cases Y:i<s.xs.length
  .have ed:s.xs[i]?=some s.xs[i]:=by simp[Y]
   obtain⟨go,yl⟩:=wk.go L i _ kp ed;refine .inr ⟨go,λxv K o y lo=>?_⟩;obtain⟨u,isx⟩:=yl xv K y;have edrop:s.xs.drop i=s.xs[i]::s.xs.drop (i+1):=List.drop_eq_getElem_cons Y;rw[edrop]at k;unfold g8 at k;have isx':Is K (f9 g A s.fr) s.xs[i] xv:=isx.weak λa z=>by
    rcases z with z|⟨j,hj,z⟩
    .exact⟨M a (.inl z.1),z.2⟩
    .exact⟨M a (.inr ⟨j,by simp[hj],z⟩),λ_=>(f.cc j _ z).2.1⟩
   have repI:Rep g A (λ_ _=>False) (gw env tN.length caps) (o++nZ σ caps) K:=Ou f (U.trans u) lo (λa z=>M a (z.imp id λ⟨j,hj,w⟩=>⟨j,by simp[hj],w⟩)) (λa z hn=>Z a z (u.free hn)) (λa z=>inn2 (M'':=A) (N a z)) (λa z h0=>(W a z h0).same λo e=>u _ _ e);cases qa:asg s.xs[i] s.fr (gw env tN.length caps)with
   |none=>simp only[qa]at k;cases k
   |some O=>
   simp only[qa]at k;refine sg g A _ _ O _ K _ s.fr xv _ repI isx' qa λσ2 ρ2 repT shp nρ=>⟨λj hj=>shp j λz=>absurd (hix j z) (by lia),?_⟩;refine st g A ρ2 _ _ K _ repT ?_;cases qt:ft O with
   |stuck=>rw[qt]at k;cases k
   |exc c=>rw[qt]at k;cases k
   |ok b=>
    rw[qt]at k;intro M4 H4 e4 rep4;cases b with
    |false=>refine x9 ⟨s.xs.length-(i+1),by lia,rfl,Y,A,rs,rest,(U.trans u).trans e4.h,e4.h _ _ (u _ _ G),M,N,nD,λa z hn=>Z a z (u.free (e4.h.free hn)),λa z h0=>(W a z h0).same λo e=>e4.h _ _ (u _ _ e),by lia,?_,by simpa using k,B⟩;exact IsAll.same e4.h (IsAll.same u I)
    |true=>
     refine vQ ?_;simp only[Res.lr,Vy]at k;refine se g M4 ρ2 _ _ H4 _ rep4 ?_;cases qe:fe O with
     |stuck=>rw[qe]at k;cases k
     |exc c=>rw[qe]at k;cases k
     |ok r=>
      rw[qe]at k;simp only[Res.lr]at k;cases qd:g8 (λd=>asg d s.fr (gw env tN.length caps)) ft fe (s.xs.drop (i+1))with
      |stuck=>rw[qd]at k;cases k
      |exc c=>rw[qd]at k;cases k
      |ok P=>
       rw[qd]at k;have k:r::P=rest:=by simpa using k
       intro yv M5 H5 e5 rep5 ro;obtain⟨M6,e6,m56,rep6,is6⟩:=ro.is rep5 e5 rep4.same;have D3:K l=some (.lst t):=u _ _ G;have D4:H4 l=some (.lst t):=e4.h _ _ D3;have D5:H5 l=some (.lst t):=e5.h _ _ D4;have nD4:¬M4 l:=λz=>(e4.n l z).elim nD λw=>by rw[D3]at w;cases w
       have nD6:¬M6 l:=λz=>(e6.n l z).elim nD4 λw=>by rw[D4]at w;cases w
       have M46:∀a,M4 a->M6 a:=e6.m;have up:∀a o,H5 a=some o->a≠l->aO H5 l (.lst (t++[yv])) a=some o:=λa o e n=>by rw[af n];exact e
       have kp5:∀(fr:Bool) a o,H5 a=some o->(f9 g M6 fr a\/iL o)->aO H5 l (.lst (t++[yv])) a=some o:=λfr a o e z=>up a o e λw=>by
        subst w;rcases z with z|z
        .exact nD6 z.1
        .rw[D5]at e;cases e;exact z
       refine⟨D5,?_,s.xs.length-(i+1),by lia,rfl,Y,M6,rs++[r],P,?_,ag,λa z=>M46 a (e4.m a (M a z)),λa z=>?_,nD6,λa z=>?_,λa z h0=>?_,by simp;lia,?_,qd,by rw[B,<- k];simp⟩
       .have:t.length=rs.length:=by rw[I.length,TZ]
        exact uj (by lia)
       .intro b o e;exact up b o (e5.h _ _ (e4.h _ _ (u _ _ (U _ _ e)))) (ao e v)
       .rcases e6.n a z with z|z
        .rcases e4.n a z with z|z
         .exact N a z
         .exact .inr (U.free (u.free z))
        .exact .inr (U.free (u.free (e4.h.free z)))
       .by_cases hw:a=l
        .rw[hw,ag];simp
        .rw[af hw];exact rep6.jI a z
       .have hw:a≠l:=λe=>nD6 (e▸z);exact(rep6.fl a z h0).same λo e=>by rw[af hw];exact e
       .rw[UO];refine IsAll.append ?_ ⟨yv,[],rfl,?_,rfl⟩
        .have i5:IsAll H5 (f9 g A (bZ rs)) (rs.map R.d) t:=((I.same u).same e4.h).same e5.h;refine(i5.weak λa z=>(⟨M46 a (e4.m a z.1),λe=>z.2 (by simp[bZ]at e ⊢;exact e.1)⟩ : f9 g M6 (bZ (rs++[r])) a)).mono (kp5 _) λ_ _ _ z=>z
        .refine(is6.weak λa z=>?_:Is H5 (f9 g M6 (bZ (rs++[r]))) r.d yv).mono (kp5 _) λ_ _ _ z=>z;rcases z with z|⟨j,_,z⟩
         .exact⟨z.1,λe=>z.2 (by simp[bZ]at e;exact e.2)⟩
         .exact(nρ _ _ z).elim
  .have ei:i=s.xs.length:=by lia
   subst ei;refine .inl ⟨wk.stop L kp,?_⟩;rw[List.drop_length]at k;unfold g8 at k;cases k;rw[Wf]at B;subst B;have RM:Rep g (λa=>M1 a\/(nl F L a/\A a)) ρ env σ L:=f.came U A;have XM:Ext M1 F (λa=>M1 a\/(nl F L a/\A a)) L:=⟨λ_=>.inl,U,λ_ z=>z.imp id (·.1.1)⟩;have nDl:¬(M1 l\/(nl F L l/\A l)):=λz=>z.elim dm λz=>nD z.2;have nwD:∀b,V.ref l=.ref b->F b=none:=λb e=>by cases e;exact v
   unfold mN at p;by_cases hfl:D.bW (x.map R.d)=true
   .rw[T2 hfl]at p;exact p _ _ L XM RM ⟨l,t,rfl,G,nDl,v,T,IsAll.flat hfl I⟩
   .rw[T9 hfl]at p;by_cases hal:(s.al++caps.filter (iB env)).isEmpty=true
    .rw[T2 hal]at p;refine p _ _ L XM RM ⟨l,t,rfl,G,nDl,v,T,I.weak λa z=>⟨?_,z.2⟩⟩;rcases N a z.1 with(w|⟨j,hj,w⟩)|w
     .exact .inl w
     .exfalso;have he:s.al++caps.filter (iB env)=[]:=by simpa using hal
      rcases Ug.mp hj with hj|hj
      .have:j∈s.al++caps.filter (iB env):=UI _ hj;rw[he]at this;simp at this
      .have:j∈s.al++caps.filter (iB env):=UA _ (Up.mpr ⟨hj,f.ow j a w⟩);rw[he]at this;simp at this
     .exact .inr ⟨⟨w,(W a z.1 (f.same.free w)).elim id λq=>(f.zz a q.1 w).elim⟩,z.1⟩
    .rw[T9 hal]at p;refine p _ (λa=>(M1 a\/(nl F L a/\A a))\/a=l) L ⟨λ_ z=>.inl (.inl z),U,λa z=>z.elim (XM.n a) λe=>.inr (e▸v)⟩ (RM.more G d0 T) ⟨l,t,rfl,.inl ⟨G,.inl ⟨.inr rfl,λ_=>d0⟩⟩,I.weak λa z=>?_⟩;rcases N a z.1 with(w|⟨j,hj,w⟩)|w
     .exact .inl ⟨.inl (.inl w),z.2⟩
     .refine .inr ⟨j,?_,w⟩;rcases Ug.mp hj with hj|hj
      .exact UI _ hj
      .exact UA _ (Up.mpr ⟨hj,f.ow j a w⟩)
     .exact .inl ⟨.inl (.inr ⟨⟨w,(W a z.1 (f.same.free w)).elim id λq=>(f.zz a q.1 w).elim⟩,z.1⟩),z.2⟩
def wn(o:On X.mg E wi src)(k:∀j∈ix,j<tN.length)(r:∀cl C e f fp,FG (cK X scope (tN++capN) cl C e f fp) ix tg asg)(t:∀cl C e f fp,Bg (cK X scope (tN++capN) cl C e f fp) E0 ifs ft)(u:∀cl C e f fp,PD (cK X scope (tN++capN) cl C e f fp) E0 elt fe) :
 Snd X.mg E (wl X scope tg tN capN caps elt ifs wi) (de tN.length caps src asg ft fe):=by
 intro g M n env σ H Q l p;refine o g M n env σ H _ l ?_;unfold de at p;cases q:src env with
 |stuck=>rw[q]at p;exact p
 |exc c=>rw[q]at p;exact p
 |ok s=>
  rw[q]at p;simp only[Res.lr]at p;intro J M1 v e1 h w x m cl C e fp;by_cases a:s.xs.length<=lim
  .rw[T2 a]at p;cases i:g8 (λd=>asg d s.fr (gw env tN.length caps)) ft fe s.xs with
   |stuck=>rw[i]at p;exact p.elim
   |exc c=>rw[i]at p;exact p.elim
   |ok b=>rw[i]at p;have p:PostE X.mg E g M1 n env σ v Q (.ok (mN (b.map R.d) (bZ b) (s.al++caps.filter (iB env)))):=PostE.ext e1 p;exact Bh k r t u h w a i p x m cl C e fp
  .rw[T9 a]at p;exact p.elim
def k7(d:X.calm=true)(S:ck X scope tN capN caps)(e:Oo X E tg iter src)(c:∀j∈ix,j<tN.length)(f:∀cl C a b fp,FG (cK X scope (tN++capN) cl C a b fp) ix tg asg)(g:∀cl C a b fp,Bg (cK X scope (tN++capN) cl C a b fp) E0 ifs ft)(i:∀cl C a b fp,PD (cK X scope (tN++capN) cl C a b fp) E0 elt fe)
 (hs:autoParam (∀x,foldedSetIterable iter X.env x=pure x) am):PD X E (.ListComp elt [⟨tg,iter,ifs,0⟩] scope pos) (de tN.length caps src asg ft fe):=by
 obtain⟨wi,p1,s1⟩:=e;exact⟨wl X scope tg tN capN caps elt ifs wi,λaa s σ H Q I h=>wg d S I p1 h hs,wn s1 c f g i⟩
def kf(f:X.calm=true)(S:ck X scope tN capN caps)(g:X.N.Nodup)(c:X.N[i]?=some y)(k:X.env.scope.names.lookup y=some .local)
 (l:Oo X E tg iter src) (d:∀j∈ix,j<tN.length) (m:∀cl C a b fp,FG (cK X scope (tN++capN) cl C a b fp) ix tg asg) (n:∀cl C a b fp,Bg (cK X scope (tN++capN) cl C a b fp) E0 ifs ft) (o:∀cl C a b fp,PD (cK X scope (tN++capN) cl C a b fp) E0 elt fe)
 (e:autoParam (swapsWith (.ListComp elt [⟨tg,iter,ifs,0⟩] scope pos) (some (.Name y py)) spos.line X.env=pure true) aM) (hs:autoParam (∀x,foldedSetIterable iter X.env x=pure x) am) :
 zN X E (.Assign [.Name y py] (.ListComp elt [⟨tg,iter,ifs,0⟩] scope pos) spos) (cS i (de tN.length caps src asg ft fe)):=by
 obtain⟨wi,p1,s1⟩:=l;exact⟨lU (wl X scope tg tN capN caps elt ifs wi) (aU i),λaa s σ H D I h=>DF f S g c k e I p1 h hs,zP (wn s1 d m n o)⟩
end
def l9(N:List Str)(ds:List D):En:=ds.map (λd=>some (.val d false))++List.replicate (N.length-ds.length) none
def DG:Res Fl->Res R
 |.ok (.nx _)=>.ok (.val .bn true [])
 |.ok (.rt r)=>.ok r
 |.ok _=>.stuck
 |.exc c=>.exc c
 |.stuck=>.stuck
def ip(N:List Str)(a:En->Res Fl)(ds:List D):Res R:=DG (a (l9 N ds))
def cD:gU jg X E:=λ_ _ _ _ _ _ _ h=>h.elim
def Bi(is:IsAll H Ma ds vs):Rep (Oe H Ma) (λa=>Ma a/\H a≠none) (λ_ _=>False) (l9 N ds) (L2.cp N vs) H where
 same:=Same.refl H
 jI:=λa z=>z.2
 vh:=λa z=>.inr z.1
 fl:=λa z h=>absurd h z.2
 slot:=λi sl e=>by
  have hl:=is.length;unfold l9 at e;by_cases hi:i<ds.length
  .rw[Vw (by simpa using hi),Ui]at e;obtain⟨v,ev,iv⟩:=is.get (i:=i) (d:=ds[i]) (by simp[hi]);have e1:ds[i]?=some ds[i]:=by simp[hi]
   rw[e1]at e;cases e;refine⟨v,?_,Is.mono (λ_ _ q _=>q) (λa o q z=>⟨⟨z,by rw[q];simp⟩,λz=>by cases z⟩) iv⟩;unfold L2.cp;rw[Vw (by simp;lia),Ui,ev];rfl
  .rw[U4 (by simpa using hi),WI]at e;split at e<;>cases e
 cc:=λ_ _ z=>z.elim
 apart:=λ_ _ _ z=>z.elim
 ow:=λ_ _ z=>z.elim
 len:=by have hl:=is.length;unfold l9 L2.cp;simp[hl]
 zz:=λ_ z=>z.elim
section
variable{P:XF}{w:World}{K:XE}{mg:Str->Option XG}{base:Heap}
def d7{x qual:Str}{st:Stmt}{f:Addr}{b:En->Res Fl}(F:FM K x qual st f fd)(S:aQ N ps (ay st))
 (body:∀(cdv:XG)(A:XH)(outer:List Env)(s:XD)(H:Hp)(E:XK),dQ k (A.deeper (envOfC qual (ay st) s.heap.objs.size f cdv))->uq (xY jg P w K mg base N qual (ay st) f cdv A outer s H E).QW E (c_ st) b) :
 bH P w K mg base jg (k+1) f fd ps (mQ mg ps.length (ip N b)):=by
 refine F.ok S (λvs H Q E h=>h.1) (λcdv A outer s H vs Q E e h=>?_);obtain⟨j,ds,Ma,is,a⟩:=h;obtain⟨t,p1,s1⟩:=body cdv A outer s H E e;refine⟨t,p1,s1 (Oe H Ma) _ _ (l9 N ds) (L2.cp N vs) H _ (Bi is) ?_⟩;unfold ip at a;cases q:b (l9 N ds)with
 |stuck=>rw[q]at a;exact a
 |exc c=>rw[q]at a;exact a
 |ok r=>
  rw[q]at a;cases r with
  |nx env=>exact λσ g i H' _ d=>a .bn H' d.same rfl
  |rt r=>exact λv g H' _ s ro _=>a v H' s (ro λ_ z=>z)
  |rm r env=>exact a.elim
  |bk env=>exact a.elim
  |ct env=>exact a.elim
end
section
variable{X:Cx}
def GP:SlR X (λx lo d H Q=>∃a xs,x=.ref a/\SqT X.K H a xs/\(HT.sIx xs.length 0 lo=0/\HT.sIx xs.length xs.length d=xs.length)/\Q x H):=by
 intro aa s σ H x v t u lo d sl Q I k hs pl l h;obtain⟨a,xs,rfl,n,j,q⟩:=h;cases k;obtain⟨its,r,b,hz⟩:=I.tuple n;have o:its.toArray.size=xs.length:=by rw[Ua];exact r.length.symm
 refine⟨"tuple",_,UY.lookup,b.typeIs,?_⟩;obtain⟨os,e,f,p⟩:=id hs;have g:s.TypeIs (.ref sl) "slice":=⟨os,e,f⟩;unfold getItem
 try with_reducible refine UV ?_
 first|refine KE (TV ?_)|skip
 refine KE (wpAny_sequenceKey b.typeIs (by decide) ?_);refine KE (Vk (name:=Str.ofString "__getitem__") b.typeIs UY
  (UK UY b.typeIs entry_tuple_getitem ?_ (args_tuple_getitem _ _)))
 show wpAny _ _ (Builtin.Tuple.tupleItemsOf (.ref a) >>= _) _ _ s;refine KE (tupleItemsOf_ b ?_);refine KE (WY g ?_);rw[T2 (by decide)];refine KE (HT.sliceApplied_gen hs pl l ?_);have c:((((HT.sIx its.toArray.size 0 lo:Nat):Int)==0&&(1:Int)==1&&(HT.sIx its.toArray.size its.toArray.size d-HT.sIx its.toArray.size 0 lo)==its.toArray.size)=true):=by rw[o,j.1,j.2];simp
 show wpAny _ _ (if(((HT.sIx its.toArray.size 0 lo:Nat):Int)==0&&(1:Int)==1&&(HT.sIx its.toArray.size its.toArray.size d-HT.sIx its.toArray.size 0 lo)==its.toArray.size)=true then _ else _) _ _ s;rw[T2 c];have i:EP X aa σ Q (.ref a) s:=⟨.ref a,H,I,rfl,q⟩;refine KE (m:=Builtin.Tuple.tupleIsExact (.ref a)) ?_;unfold Builtin.Tuple.tupleIsExact;refine KE (WY b.typeIs ?_);refine TV ?_;rw[T2 (by decide)];exact KE (W8 (TV ⟨_,rfl,TV i⟩))
end
section
variable{X:Cx}{E:XK}
def db{α:Type}(xs:List α)(lo a:Option Int):List α:=(xs.drop (HT.sIx xs.length 0 lo)).take (HT.sIx xs.length xs.length a-HT.sIx xs.length 0 lo)
def IsAll.cut(h:IsAll H m ds vs)(lo a:Option Int):IsAll H m (db ds lo a) (vI vs lo a):=by unfold db vI;rw[h.length];exact(h.drop _).take _
noncomputable def IW(mg:Str->Option XG)(E:XK)(g:Gd)(M:Addr->Prop)(b:Pr)(env:En)(σ:St)(H:Hp)(Q:Option Int->Hp->Prop):Res (Option Int)->Prop
 |.stuck=>False
 |.exc c=>GE mg E g c
 |.ok o=>∀a H',Ext M H a H'->Rep g a b env σ H'->Q o H'
def Q_(X:Cx)(E:XK)(e:Option Expr)(f:En->Res (Option Int)):Prop:=∃t,PO X e t/\∀g M a env σ H Q,Rep g M a env σ H->IW X.mg E g M a env σ H Q (f env)->t σ H Q
noncomputable def wo:En->Res (Option Int):=λ_=>.ok none
def kg(f:En->Res R):En->Res (Option Int):=λenv=>(f env).bind λr=>match r.d with
 |.int i=>.ok (some i)
 |_=>.stuck
def qJ:Q_ X E none wo:=⟨_,F6,λg M b env σ H Q a p=>p M H (Ext.refl _ _) a⟩
def d8(h:PD X E e f):Q_ X E (some e) (kg f):=by
 obtain⟨t,p1,s1⟩:=h;refine⟨_,F7 p1,λg M j env σ H Q b p=>s1.one b (P:=λM H r=>IW X.mg E g M j env σ H Q r) p (λ_ _ z=>z) (λ_ _ _ z=>z) (λM H m H' r e p=>?_) λr v M1 k e1 a is q=>?_⟩
 .cases r with
  |stuck=>exact p
  |exc c=>exact p
  |ok o=>exact λM2 l e2=>p M2 l (e.trans e2)
 .cases z:r.d with
  |int i=>rw[z]at is;simp only[z]at q;cases is;exact⟨i,rfl,q M1 k (Ext.refl _ _) a⟩
  |_=>simp only[z]at q;exact q.elim
def uw(r:R)(lo a:Option Int):Res R:=match r.d with
 |.lst xs=>.ok (mN (db xs lo a) r.fr r.al)
 |.tup xs=>.ok (jh (.tup (db xs lo a)) r.fr r.al)
 |_=>.stuck
def kh(fa:En->Res R)(fl a:En->Res (Option Int)):En->Res R:=λenv=>(fa env).bind λr=>(fl env).bind λlo=>(a env).bind λb=>uw r lo b
def iV{lo n:Option Expr}{fa:En->Res R}{fl o:En->Res (Option Int)}{p2 u:Pos}(ha:PD X E e fa)(F:Q_ X E lo fl)(G:Q_ X E n o):PD X E (.Subscript e (.Slice lo n none p2) u) (kh fa fl o):=by
 obtain⟨ta,p1,s1⟩:=ha;obtain⟨O,p2,s2⟩:=F;obtain⟨P,p3,I⟩:=G;refine⟨_,CD (sl_list.or (sl_tup.or GP)) p1 p2 p3,λg M s env σ H Q w p=>s1.gh w p λr v M1 J e1 k is q=>?_⟩;refine s2 g M1 s env σ J _ k ?_;cases x:fl env with
 |stuck=>rw[x]at q;exact q
 |exc c=>rw[x]at q;exact q
 |ok b=>
  rw[x]at q;intro M2 C e2 l;have q2:PostE X.mg E g M2 s env σ C Q ((o env).bind λn=>uw r b n):=PostE.ext e2 q;refine I g M2 s env σ C _ l ?_;cases y:o env with
  |stuck=>rw[y]at q2;exact q2
  |exc c=>rw[y]at q2;exact q2
  |ok f=>
   rw[y]at q2;intro K L D h;have j:PostE X.mg E g K s env σ L Q (uw r b f):=PostE.ext D q2;have i:=(is.ext e2).ext D;unfold uw at j;cases z:r.d with
   |lst xs=>rw[z]at j i;obtain⟨a,vs,rfl,h1,m⟩:=i.rd;exact .inl ⟨a,vs,rfl,.inl h1,λp A=>j.lst h A (m.cut b f)⟩
   |tup xs=>
    rw[z]at j i;have B:=i;obtain⟨a,vs,rfl,h1,m⟩:=i;by_cases t:HT.sIx vs.length 0 b=0/\HT.sIx vs.length vs.length f=vs.length
    .have N:db xs b f=xs:=by unfold db;rw[<- m.length,t.1,t.2,m.length];simp
     dsimp only at j;rw[N]at j;exact .inr (.inr ⟨a,vs,rfl,SqT.of h1,t,j.val h B⟩)
    .exact .inr (.inl ⟨a,vs,rfl,SqT.of h1,t,λp A=>j.tup h A (m.cut b f)⟩)
   |_=>rw[z]at j;exact j.elim
noncomputable def D.ty:D->String
 |.bn=>"NoneType" |.bl _=>"bool" |.int _=>"int" |.str _=>"str" |.tup _=>"tuple" |.lst _=>"list" |.dZ _ _=>"dict"
def SV(K:XE)(H:Hp)(x:V)(t:XG):Prop:=oK K H x t\/(t=.type "dict"/\∃a,x=.ref a/\IK H a)
theorem Is.ty{m:Addr->Prop}{v:V}{K:XE}(h:Is H m d v):SV K H v (.type d.ty):=by
 cases d with
 |bn=>cases h;exact .inl .bn
 |bl b=>cases h;exact .inl (.bl b)
 |int b=>cases h;exact .inl (.int b)
 |str b=>cases h;exact .inl (.str b)
 |tup ds=>obtain⟨a,vs,rfl,h1,_⟩:=h;exact .inl (.tup h1)
 |lst ds=>
  obtain⟨a,vs,rfl,h1,_⟩:=h;rcases h1 with⟨h1,_⟩|⟨o,h1,_⟩
  .exact .inl (.lst h1)
  .exact .inl (.ba h1)
 |dZ ks ds=>obtain⟨a,kvs,rfl,h1,_⟩:=h;exact .inr ⟨rfl,a,rfl,h1.1.imp (λ⟨kvs,e,_⟩=>⟨kvs,e⟩) λ⟨kvs,e,_⟩=>⟨kvs,e⟩⟩
def NA(T:String)(d:D):Bool:=match d with
 |.bn=>T=="NoneType"
 |.bl _=>T=="bool" || T=="int"
 |.int _=>T=="int"
 |.str _=>T=="str"
 |.tup _=>T=="tuple"
 |.lst _=>T=="list"
 |.dZ _ _=>T=="dict"
def K4(T:String):Prop:=∀(K:XE)(d:D),PySem.W.kitOne K (.type d.ty) (.type T)=some (NA T d)
def DH:K4 "int":=λK d=>by cases d<;>kernel_rfl
def Bj:K4 "bool":=λK d=>by cases d<;>kernel_rfl
def GQ(T:String)(fa:En->Res R):En->Res R:=λenv=>(fa env).bind λr=>.ok (.val (.bl (NA T r.d)) true [])
def DI:CallR X (.builtin "isinstance") (λxs H Q=>∃x T t b,xs=[x,.ty T]/\SV X.K H x t/\PySem.W.kitOne X.K t (.type T)=some b/\Q (.bl b) H):=by
 intro aa s σ H xs us Q I r h;obtain⟨x,T,t,b,rfl,ty,e,q⟩:=h;obtain⟨u,c,rfl,d,f⟩:=zi r;obtain rfl:c=Value.type T:=f;rcases ty with ty|⟨rfl,a,rfl,hd⟩
 .exact AO I d ty e λtk=>⟨.bl b,H,I.tok tk,rfl,q⟩
 .obtain rfl:u=Value.ref a:=d;obtain⟨g,_⟩:=nR I hd;exact U_ Xj I.oN g e (λz=>nomatch z) λtk=>⟨.bl b,H,I.tok tk,rfl,q⟩
def DJ(n:K4 T')(o:Gl X "isinstance") (s:X.mg "isinstance"=none) (b:Gl X T) (c:X.mg T=none) (f:bootBuiltins T=some (.type T')) (ha:PD X E e fa)
 (h:autoParam (T≠"__name__") ab) (i:autoParam (dB T) ab)
 (m:autoParam (starEach [e,.Name T q] X.env=(false,eval e X.env)::starEach [.Name T q] X.env) aM) (j:autoParam (starEach [.Name T q] X.env=(false,eval (.Name T q) X.env)::starEach [] X.env) aM) (k:autoParam ((backTo pos (starEach [.Name T q] X.env)).any (·.1)=false) aM) :
 PD X E (.Call (.Name "isinstance" p) [e,.Name T q] [] pos) (GQ T' fa):=by
 obtain⟨ta,p1,s1⟩:=ha;refine⟨_,dk DI o s (by decide +kernel) (ah p1 (ah (FR b c f (v:=.ty T') rfl h i) aG j) m) (by decide) (by decide) m k,λg M u env σ H Q l p=>s1.gh l p λr v M1 t e1 a is q=>?_⟩;exact⟨v,T',_,_,rfl,is.ty,n X.K r.d,q _ M1 t (Ext.refl _ _) a rfl⟩
noncomputable def g9:List D->Option (List Bool)
 |[]=>some []
 |.bl b::r=>(g9 r).map λbs=>b::bs
 |_::_=>none
def GR:List R->Res R
 |[r]=>match r.d with
  |.lst ds=>match g9 ds with
   |some bs=>.ok (.val (.bl (bs.all id)) true [])
   |none=>.stuck
  |_=>.stuck
 |_=>.stuck
theorem tp:∀{ds:List D}{bs:List Bool}{i:Nat}{d:D},g9 ds=some bs->ds[i]?=some d->∃b,d=.bl b/\bs[i]?=some b
 |[],_,_,_,_,e=>by simp at e
 |.bl b::r,bs,0,d,h,e=>by
  simp at e;subst e;unfold g9 at h;cases q:g9 r with
  |none=>rw[q]at h;cases h
  |some a=>rw[q]at h;cases h;exact⟨b,rfl,rfl⟩
 |.bl b::r,bs,i+1,d,h,e=>by
  unfold g9 at h;cases q:g9 r with
  |none=>rw[q]at h;cases h
  |some a=>rw[q]at h;cases h;obtain⟨c,e1,e2⟩:=tp (i:=i) q (by simpa using e);exact⟨c,e1,by simpa using e2⟩
 |.bn::_,_,_,_,h,_=>by cases h
 |.int _::_,_,_,_,h,_=>by cases h
 |.str _::_,_,_,_,h,_=>by cases h
 |.tup _::_,_,_,_,h,_=>by cases h
 |.lst _::_,_,_,_,h,_=>by cases h
theorem tq:∀{ds:List D}{bs:List Bool},g9 ds=some bs->bs.length=ds.length
 |[],_,h=>by cases h;rfl
 |.bl b::r,bs,h=>by
  unfold g9 at h;cases q:g9 r with
  |none=>rw[q]at h;cases h
  |some a=>rw[q]at h;cases h;simp[tq q]
 |.bn::_,_,h=>by cases h
 |.int _::_,_,h=>by cases h
 |.str _::_,_,h=>by cases h
 |.tup _::_,_,h=>by cases h
 |.lst _::_,_,h=>by cases h
def Bk(t:X.calm=true):CallR X (.builtin "all") (λxs H Q=>∃(p:Addr)(vs:List V)(bs:List Bool),xs=[.ref p]/\SqL X.K H p vs/\vs=bs.map V.bl/\Q (.bl (bs.all id)) H):=by
 intro aa s σ H xs us Q I r h;obtain⟨p,vs,bs,rfl,w,rfl,q⟩:=h;obtain⟨u,rfl,y⟩:=gm r;cases y;obtain⟨its,g,pl,hz⟩:=I.list w;have z:X.A.in1.handled=none:=I.ok.hd t;obtain⟨o,B,_⟩:=pl.isList;have j:p<s.heap.objs.size:=T8 B;refine call_all_walk (Wj pl.isList ?_);refine⟨s.heap.objs.size,_,_,_,_,_,λi=>(bs[i]?).getD true,rfl,Walks.list z s.heap.objs.size p (Ul j) its.toArray,⟨⟨_,T4 _ rfl,rfl,rfl⟩,?_⟩,?_,λh' tk C=>?_⟩
 .exact pl.isList.at λo e=>RW _ e
 .intro i v G J L k a;have k:its[i]?=some v:=by grind
  have c:i<its.length:=(T7.mp k).1;have l:=g.length;have d:i<bs.length:=by grind
  obtain⟨u',n,D⟩:=g.get (i:=i) (x:=.bl bs[i]) (by simp[d]);rw[k]at n;cases n;cases D;have m:bs[i]?=some bs[i]:=by simp[d]
  dsimp only at a;rw[m]at a;exact Vq a
 .have l:=g.length;rw[TZ]at l;have e:((List.range its.toArray.size).all λi=>(bs[i]?).getD true)=bs.all id:=by
   rw[Ua,<- l];rw[WC,UW,UW];constructor
   .intro h b d;obtain⟨i,c⟩:=Uc.mp d;have:=h i (by grind);rw[c]at this;exact this
   .intro h i c;have c:i<bs.length:=by grind
    have m:bs[i]?=some bs[i]:=by simp[c]
    rw[m];exact h _ (Xv c)
  rw[e];refine⟨.bl _,H,?_,rfl,q⟩;have F:L2.Inv X aa σ H { s with heap:=s.heap.push { cls:=.type "list_iterator",data:=.fields #[.ref p,.int 0 0] } }:=I.kept (t':=s.toks) λb o e=>RW _ e;have f:=I.sC (H':=H) (TY s.heap.objs.size) (I.aT.fresh (TY _));exact F.turned (t':=tk) (it:=s.heap.objs.size) (λb o d e=>C b o (by grind) e) f.1 f.2.1 f.2.2.2.1 f.2.2.2.2.1 f.2.2.2.2.2
def K5(m:X.calm=true):mR X E (.builtin "all") GR:=by
 refine⟨_,Bk m,λg M n env σ H Q rs vs f i p=>?_⟩;rcases rs with _|⟨r,_|_⟩
 .exact p.elim
 rotate_left
 .exact p.elim
 obtain⟨v,w,rfl,c,o⟩:=i;cases o;have c:Is H (vmsk g M (bZ [r]) n (cO [r])) r.d v:=c;unfold GR at p;dsimp only at p;cases q:r.d with
 |lst ds=>
  rw[q]at p c;obtain⟨a,ws,rfl,h1,h⟩:=c.rd;dsimp only at p;cases e:g9 ds with
  |none=>rw[e]at p;exact p.elim
  |some bs=>
   rw[e]at p;refine⟨a,ws,bs,rfl,.inl h1,?_,p _ M H (Ext.refl _ _) f rfl⟩;apply WR
   intro j;by_cases k:j<ds.length
   .obtain⟨b,e1,e2⟩:=tp (i:=j) (d:=ds[j]) e (by simp[k]);obtain⟨t,s,l⟩:=h.get (i:=j) (d:=ds[j]) (by simp[k]);rw[e1]at l;cases l;rw[s,Ui,e2];rfl
   .have u:=h.length;have x:=tq e;rw[VA (by lia),VA (by simp;lia)]
 |_=>rw[q]at p;exact p.elim
end
def Ra(K:XE)(a:Addr):It:=⟨λi H=>∃xs x,SqL K H a xs/\xs[i]?=some x,λi H y H'=>∃p x,H p=none/\y=.ref p/\H'=aO H p (.tup [.int (i:Nat),x])/\∀xs,SqL K H a xs->xs[i]?=some x,λi H=>∃xs,SqL K H a xs/\xs.length<=i⟩
def Bl{P:XF}{w:World}{K:XE}(a it e:Addr)(hei:e≠it):Turn P w K (.Tuple es k pos) (Ra K a) [e,it] e (λi h=>(∃old,IsEnum h e it i old)/\h.IsListIter it a i) where
 mem:=by simp
 obj:=λi h st b hb=>by
  obtain⟨⟨old,he⟩,o,ho,c,d⟩:=st;rcases T6.mp hb with rfl|hb
  .exact⟨_,he,λv z=>by cases z⟩
  .have:b=it:=by simpa using hb
   subst this;exact⟨o,ho,λv z=>by rw[d]at z;cases z⟩
 keep:=λi h h' st kk=>by obtain⟨⟨old,he⟩,hl⟩:=st;exact⟨⟨old,kk e (by simp) _ he⟩,hl.at λo q=>kk it (by simp) o q⟩
 item:=by
  intro X hP hw hK hc i aa s σ H E I hf st hg;subst hP hw hK;obtain⟨xs,x,hq,hx⟩:=hg;obtain⟨⟨old,he⟩,hl⟩:=st;obtain⟨its,rv,p,hz⟩:=I.list hq;obtain⟨u,hu,ru⟩:=rv.get hx;have fe:=hf e (by simp);have fi:=hf it (by simp);have hai:a≠it:=by intro z;obtain⟨o1,e1,c1,_⟩:=p.isList;obtain⟨o2,e2,c2,_⟩:=hl;rw[z,e2]at e1;cases e1;rw[c2]at c1;injection c1 with z;exact absurd z (by decide)
  have hae:a≠e:=by intro z;obtain⟨o1,e1,c1,_⟩:=p.isList;rw[z,he]at e1;cases e1;injection c1 with z;exact absurd z (by decide)
  have hh:X.A.in1.handled=none:=I.ok.hd hc;have hil:i<its.length:=(T7.mp hu).1;refine wpAny_pyNext_enum_itemD (Draws.list hh it a hai its.toArray) he ⟨hl,p.isList⟩ (by simpa using hil) hei (by simp;exact⟨hei,Vc hae⟩) λx' h' tk hx' ho hs' hT hsz hk=>?_;have ex:x'=u:=by
   have:its[i]?=some x':=by simpa using hx'
   rw[hu]at this;exact(UX this).symm
  subst ex;refine⟨_,rfl,wpAny_letOwnedTupleGo_enum ho λh'' he'' hs''=>?_⟩;have keep2:∀b o,b≠e->b≠it->s.heap.get? b=some o->h''.get? b=some o:=λb o n1 n2 q=>(hs''.2 b n1).trans (hk b o n1 n2 q);have hTe:s.heap.objs.size≠e:=WA (T8 he);have hT'':h''.get? s.heap.objs.size=some { cls:=.type "tuple",data:=.seq #[.int i tk,x'] }:=(hs''.2 _ hTe).trans hT;have I1:L2.Inv X aa σ (aO H s.heap.objs.size (.tup [.int (i:Nat),x])) {s with heap:=h'',toks:=tk+1}:=by
   refine I.step (g':=s.gens) (d':=s.drawn) (ch:=[e,it]) (λb hb=>?_) (λb o _ _ hn q _=>keep2 b o (λz=>hn (by simp[z])) (λz=>hn (by simp[z])) q)
    (λb o _ _ hn q _=>⟨o.slots,keep2 b o (λz=>hn (by simp[z])) (λz=>hn (by simp[z])) q⟩) (λb o _ q hH=>by rw[af (Ul (T8 q))];exact hH)
    (λb o hn q=>⟨o,keep2 b o (λz=>hn (by simp[z])) (λz=>hn (by simp[z])) q⟩) (λb ys q=>by rw[af (ao q (I.aT.fresh (TY _)))];exact q)
    (λb o' u' q=>by rw[af (ao q (I.aT.fresh (TY _)))];exact q) (λb ps q=>⟨#[],by rw[af (ao q (I.aT.fresh (TY _)))];simp[q]⟩) (λm hm=>?_) (λb u' q=>?_) I.bare
   .rcases T6.mp hb with rfl|hb
    .exact⟨fe.2.2.2.1,fe.2.1,fe.2.2.2.2.1,fe.2.2.2.2.2⟩
    .have:b=it:=by simpa using hb
     subst this;exact⟨fi.2.2.2.1,fi.2.1,fi.2.2.2.2.1,fi.2.2.2.2.2⟩
   .obtain⟨o,es',ep,ho',r⟩:=hm;exact⟨o,es',ep,keep2 _ o (Vc fe.2.1) (Vc fi.2.1) ho',r⟩
   .by_cases hb:b=s.heap.objs.size
    .subst hb;rw[ag]at q;cases q;refine⟨by show 2<=sizeLine;decide,[.int i tk,x'],.cons ⟨tk,rfl⟩ (.cons ru .nil),⟨_,hT'',rfl,0,rfl⟩⟩
    .rw[af hb]at q;refine(I.aT b u' q).stay (λc v hc' q'=>keep2 c v ?_ ?_ q') (λc r=>by rw[af (ao r (I.aT.fresh (TY _)))];exact r) λc ys r=>by rw[af (ao r (I.aT.fresh (TY _)))];exact r
     .rcases hc' with z|z
      .rw[z];exact ao q fe.1
      .exact ao z fe.1
     .rcases hc' with z|z
      .rw[z];exact ao q fi.1
      .exact ao z fi.1
  refine⟨.ref s.heap.objs.size,_,I1,rfl,⟨_,x,I.aT.fresh (TY _),rfl,rfl,λys hy=>by rw[I.xD hy hq];exact hx⟩,⟨⟨_,by simpa using he''⟩,?_⟩,λb hb=>?_⟩
  .obtain⟨o,q,r⟩:=hs'.1;exact⟨o,(hs''.2 it (Vc hei)).trans q,r⟩
  .rcases T6.mp hb with rfl|hb
   .rw[af (Ul (T8 he))];exact fe.1
   .have:b=it:=by simpa using hb
    subst this;obtain⟨o,q,_⟩:=hl;rw[af (Ul (T8 q))];exact fi.1
 done:=by
  intro X hP hw hK hc i aa s σ H E I hf st hg;subst hP hw hK;obtain⟨xs,hq,hx⟩:=hg;obtain⟨⟨old,he⟩,hl⟩:=st;obtain⟨its,rv,p,hz⟩:=I.list hq;have fi:=hf it (by simp);have hai:a≠it:=by intro z;obtain⟨o1,e1,c1,_⟩:=p.isList;obtain⟨o2,e2,c2,_⟩:=hl;rw[z,e2]at e1;cases e1;rw[c2]at c1;injection c1 with z;exact absurd z (by decide)
  have hh:X.A.in1.handled=none:=I.ok.hd hc;have hln:=rv.length;have Dr:Draws X.prog X.w X.A.in1 it [it,a] 0 (λ_ _=>True) (λ_ h=>h.IsListIter it a i/\h.IsList a its.toArray):=
   { live:=λ_ _ st=>let ⟨o,ho,_⟩:=st.1;⟨o,ho⟩
     frame:=λ_ _ _ st hk=>⟨st.1.at λo e=>hk it (by simp) o e,st.2.at λo e=>hk a (by simp) o e⟩
     item:=λi s Q E hi=>absurd hi (by lia)
     done:=λs Q E st hE=>wpAny_nextOf_list_end hh st.1 st.2 (by simp;lia) hE }
  exact wpAny_pyNext_enum_endD Dr he ⟨hl,p.isList⟩ λh' eb=>⟨rfl,I.turned (t':=s.toks) (λb o hb e=>eb b o hb e) fi.1 fi.2.1 fi.2.2.2.1 fi.2.2.2.2.1 fi.2.2.2.2.2⟩
 self:=λA i s Q E st h=>by obtain⟨⟨old,he⟩,_⟩:=st;exact wpAny_pyIter_enum he h
section
variable{X:Cx}{es:List Expr}{k:Nat}{rC:Pos}
def zS(K:XE)(ta:TA):TI:=λσ H R=>ta σ H λvs b=>∃a xs,vs=[.ref a]/\SqL K b a xs/\R (Ra K a) b
def zT{l:Expr}(g:Gl X "enumerate") (i:X.mg "enumerate"=none) (ha:PA X [l] ta) (hs:autoParam (starEach [l] X.env=[(false,eval l X.env)]) aM):PI X (.Tuple es k rC) (.Call (.Name "enumerate" p) [l] [] pos) (zS X.K ta):=by
 intro aa s σ H R I h;refine Call_ (jU I g i (by decide +kernel:bootBuiltins "enumerate"=some (.type "enumerate")) (Vj (bP (ha pos aa s σ H _ I h) λus s1 ⟨vs,d,c,j,q1⟩=>?_) hs rfl));obtain⟨a,xs,e,m,q⟩:=q1;subst e;cases j with
 |cons r n=>
  cases n;cases r;obtain⟨its,u,pl,hz⟩:=c.list m;refine call_enumerate_list pl.isList λh' f o hsz kp=>?_;have t:L2.Inv X aa σ d {s1 with heap:=h'}:=c.kept (t':=s1.toks) kp;refine wpAny_pyIter_enum f ?_;refine⟨s1.heap.objs.size+1,[s1.heap.objs.size+1,s1.heap.objs.size],_,_,d,rfl,t,Bl a s1.heap.objs.size (s1.heap.objs.size+1) (Nat.succ_ne_self _),⟨⟨_,by simpa using f⟩,o⟩,λb hb=>?_,q⟩;rcases T6.mp hb with rfl|hb
  .exact c.sC (Nat.le_succ _) (c.aT.fresh (Nat.le_succ _))
  .have e:b=s1.heap.objs.size:=by simpa using hb
   subst e;exact c.sC (TY _) (c.aT.fresh (TY _))
end
noncomputable def SW(osc:Scope)(N:List Str)(scope:Scope)(tN capN:List Str)(caps:List Nat):Bool:=
 (scope.kind==.function)&&scope.names.all (λy=>y.2 != .cell)&&scope.names.all (λy=>y.2 != .local || scope.names.lookup y.1==some .local)&&tN.all (λx=>scope.names.lookup x==some .local) &&
 scope.names.all (λy=>y.2 != .free ||(osc.names.lookup y.1==some .cell || osc.names.lookup y.1==some .free))&&(capN.zip caps).all (λp=>N[p.2]?==some p.1)&&(caps.length==capN.length) &&
 capN.all (λy=>osc.names.lookup y==some .cell || osc.names.lookup y==some .free)&&capN.all (λy=>scope.names.lookup y==some .free)&&decide (tN++capN).Nodup
def ck.of(h1:X.env.scope=osc)(f:X.N=N)(b:SW osc N scope tN capN caps=true):ck X scope tN capN caps:=by
 unfold SW at b;simp only[Uv,UW,Bool.or_eq_true,VW,bne_iff_ne,Vu,ne_eq]at b;obtain⟨⟨⟨⟨⟨⟨⟨⟨⟨g,h⟩,i⟩,j⟩,l⟩,m⟩,n⟩,o⟩,p⟩,c⟩:=b;subst h1 f;refine⟨g,h,λy d q=>(i y d).resolve_left λz=>z q,j,λy d r=>(l y d).resolve_left λz=>z r,⟨λk y e=>?_,o,p,n⟩,c⟩;have t:k<capN.length:=(T7.mp e).1;have a:k<caps.length:=by lia
 refine⟨caps[k],by simp[a],?_⟩;have s:(y,caps[k])∈capN.zip caps:=by
  have:(capN.zip caps)[k]?=some (y,caps[k]):=by rw[Ws];exact⟨e,by simp[a]⟩
  exact Uz this
 exact m _ s
structure Fn(K:XE) (mg:Str->Option XG) (x:Str) (st:Stmt) (ps:List Str) (f:Addr) (fd:FuncData):Prop where
 fu:FM K x x st f fd
 bi:Binds K fd ps []
 gl:mg x=some (.ref f)
def Rb(F:List D->Res R):Sp:=λvs H Q _=>vs.length=1/\∃ds Ma r,IsAll H Ma ds vs/\F ds=.ok r/\∀v H',Same H H'->RetOk (Oe H Ma) H' v r->Q v H'
theorem l_:∀ns:List Int,IsAll H m (ns.map D.int) (ns.map V.int)
 |[]=>rfl
 |n::r=>⟨.int n,r.map V.int,rfl,rfl,l_ r⟩
def K6(d:∀ns:List Int,ns.length<=63->∃f al,F [.lst (ns.map .int)]=.ok (.val (.bl true) f al))(H:Hp)(a:Addr)(ns:List Int)(g:ns.length<=63)(c:∃o,H a=some (.ba o (.lst (ns.map V.int)))) :
 Rb F [.ref a] H (λv _=>v=.bl true) λ_ _ _=>False:=by
 obtain⟨f,al,e⟩:=d ns g;obtain⟨o,c⟩:=c;exact⟨rfl,[.lst (ns.map .int)],λb=>b=a,_,⟨_,[],rfl,⟨a,ns.map V.int,rfl,.inr ⟨o,c,rfl⟩,l_ ns⟩,rfl⟩,e,λv H' _ h=>h⟩
section
variable{P:XF}{w:World}{K:XE}{mg:Str->Option XG}{base:Heap}
def bH.top(h:bH P w K mg base CX k f fd ps (mQ mg 1 F)):bH P w K mg base CX k f fd ps (Rb F):=h.imp λvs H Q E ⟨a,ds,Ma,r,is,e,q⟩=>⟨a,ds,Ma,is,by rw[e];exact q⟩
end
section
variable{X:Cx}{E:XK}
def Bm(fa:En->Res R):En->Res R:=λenv=>(fa env).bind λra=>match ra.d with
 |.int i=>.ok (.val (.int (-i)) true [])
 |_=>.stuck
def yA(ha:PD X E a fa):PD X E (.UnaryOp .USub a pos) (Bm fa):=by
 obtain⟨ta,j,sa⟩:=ha;refine⟨_,NT Km j,λg M l env σ H Q h p=>sa.gh h p λr v k H' e c i f=>?_⟩;cases q:r.d with
 |int b=>rw[q]at i;simp only[q]at f;cases i;exact⟨b,rfl,f _ k H' (Ext.refl _ _) c rfl⟩
 |_=>simp only[q]at f;exact f.elim
def DM(fa:En->Res R):En->Res Bool:=λenv=>(fa env).bind λra=>.ok ra.d.gr
def zU(fa:En->Res R):En->Res Bool:=λenv=>(fa env).bind λra=>.ok (!ra.d.gr)
def ux(ha:PD X E a fa):xL X E (.Compare a [.Is] [.Constant .none j pos'] pos) (DM fa):=GG ha
def wq(ha:PD X E a fa):xL X E (.Compare a [.IsNot] [.Constant .none j pos'] pos) (zU fa):=Dy ha
open Classical in
def dh(H:Hp)(m:Addr->Prop)(x:D)(u:XG):Bool:=decide (∃d v,RelV v u/\Is H m d v/\fW d x=true)
def tz(r:RelV v u)(h:Is H m d v):dh H m x u=fW d x:=by
 unfold dh;cases q:fW d x with
 |true=>exact @Uj _ (Classical.propDecidable _) ⟨d,v,r,h,q⟩
 |false=>refine @Ur _ (Classical.propDecidable _) λ⟨d',c,b,h',a⟩=>?_;have e:=L2.RelV.inj r b;subst e;have e:=Is.inj h h';subst e;rw[q]at a;cases a
theorem iW:∀{ds:List D}{vs:List V}{us:List XG},IsAll H m ds vs->Vals vs us->us.any (dh H m x)=ds.any λd=>fW d x
 |[],_,_,h,r=>by cases h;cases r;rfl
 |d::ds,_,_,h,r=>by
  obtain⟨v,w,rfl,h1,a⟩:=h;cases r with
  |cons b c=>rw[VL,VL,tz b h1,iW a c]
def K7(neg:Bool)(K:XE):R2:=λx y H Q=>∃p ds vs d m m',y=.ref p/\(SqL K H p vs\/SqT K H p vs)/\IsAll H m ds vs/\Is H m' d x/\(D.f6 ds<=50/\d.dep<=50)/\Q (.bl (if neg then !(ds.any λe=>fW e d)else ds.any λe=>fW e d)) H
theorem iX(I:L2.Inv X aa σ H s)(a:A.units+50<cLine)(b:Is H m' d x)(g:d.dep<=50)(c:RelV x v) :
 ∀{ds:List D}{vs:List V}{us:List XG},IsAll H m ds vs->Vals vs us->D.f6 ds<=50->∀u∈us,SeqAt.EqAt A s u v (dh H m d u)
 |[],_,_,h,r,_=>λu a=>by cases h;cases r;cases a
 |e::ds,_,_,h,r,hd=>λu hm=>by
  obtain⟨y,w,rfl,h1,i⟩:=h;have j:max e.dep (D.f6 ds)<=50:=hd;cases r with
  |cons f k=>
   rcases T6.mp hm with rfl|hm
   .rw[tz f h1];exact Do I.aT 50 A a (by lia) (by lia) (by lia) h1 b f c
   .exact iX I a b g c i k (by lia) u hm
def K8(g:X.A.units+64<cLine):OpR X (compareOp .In) (K7 false X.K):=by
 intro aa s σ H x y v u Q I b e h;obtain⟨p,ds,vs,d,m,m',rfl,hq,a,c,hd,q⟩:=h;cases e;rcases hq with hq|hq
 .obtain⟨its,r,pl,hz⟩:=I.list hq;refine SeqAt.in_listAt (dh H m d) pl.isList (λw f=>iX I (by grind) c hd.2 b a r hd.1 w (by grind)) ⟨.bl _,H,I,rfl,?_⟩;rw[show its.toArray.any (dh H m d)=its.any (dh H m d) by simp,iW a r];exact q
 .obtain⟨its,r,pl,hz⟩:=I.tuple hq;refine SeqAt.in_tupleAt (dh H m d) pl (λw f=>iX I (by grind) c hd.2 b a r hd.1 w (by grind)) ⟨.bl _,H,I,rfl,?_⟩;rw[show its.toArray.any (dh H m d)=its.any (dh H m d) by simp,iW a r];exact q
def Bn(g:X.A.units+64<cLine):OpR X (compareOp .NotIn) (K7 true X.K):=by
 intro aa s σ H x y v u Q I b e h;obtain⟨p,ds,vs,d,m,m',rfl,hq,a,c,hd,q⟩:=h;cases e;rcases hq with hq|hq
 .obtain⟨its,r,pl,hz⟩:=I.list hq;refine SeqAt.notIn_listAt (dh H m d) pl.isList (λw f=>iX I (by grind) c hd.2 b a r hd.1 w (by grind)) ⟨.bl _,H,I,rfl,?_⟩;rw[show its.toArray.any (dh H m d)=its.any (dh H m d) by simp,iW a r];exact q
 .obtain⟨its,r,pl,hz⟩:=I.tuple hq;refine SeqAt.notIn_tupleAt (dh H m d) pl (λw f=>iX I (by grind) c hd.2 b a r hd.1 w (by grind)) ⟨.bl _,H,I,rfl,?_⟩;rw[show its.toArray.any (dh H m d)=its.any (dh H m d) by simp,iW a r];exact q
def NB(neg:Bool)(x:D)(ds:List D):Res R:=if D.f6 ds<=50/\x.dep<=50 then .ok (.val (.bl (if neg then !(ds.any λe=>fW e x)else ds.any λe=>fW e x)) true [])else .stuck
def yB(neg:Bool)(a b:R):Res R:=match b.d with
 |.lst ds=>NB neg a.d ds
 |.tup ds=>NB neg a.d ds
 |_=>.stuck
def Tg:R->R->Res R:=yB false
def K9:R->R->Res R:=yB true
def DN(h:OpR X f (K7 neg X.K)):qD X E f (yB neg):=by
 refine⟨_,h,λg M k env σ H Q ra l x y c j b p=>?_⟩;unfold yB at p;have key:∀ds,PostE X.mg E g M k env σ H Q (NB neg ra.d ds)->(D.f6 ds<=50/\ra.d.dep<=50)/\Q (.bl (if neg then !(ds.any λe=>fW e ra.d)else ds.any λe=>fW e ra.d)) H:=λds p=>by
  unfold NB at p;by_cases hd:D.f6 ds<=50/\ra.d.dep<=50
  .rw[T2 hd]at p;exact⟨hd,p _ M H (Ext.refl _ _) c rfl⟩
  .rw[T9 hd]at p;exact p.elim
 cases e2:l.d with
 |lst ds=>rw[e2]at p b;obtain⟨a,vs,rfl,h1,i⟩:=b.rd;obtain⟨k1,k2⟩:=key ds p;exact⟨a,ds,vs,ra.d,_,_,rfl,.inl (.inl h1),i,j,k1,k2⟩
 |tup ds=>rw[e2]at p b;obtain⟨a,vs,rfl,h1,i⟩:=b;obtain⟨k1,k2⟩:=key ds p;exact⟨a,ds,vs,ra.d,_,_,rfl,.inr (SqT.of h1),i,j,k1,k2⟩
 |_=>rw[e2]at p;exact p.elim
def Ov(a:X.A.units+64<cLine):qD X E (compareOp .In) Tg:=DN (K8 a)
def DO(a:X.A.units+64<cLine):qD X E (compareOp .NotIn) K9:=DN (Bn a)
end
end L3
namespace L3
open PySem PySem.Spec PyProof.Rows L2
noncomputable def DP:D->Option br
 |.int i=>some (.inl i)
 |.str x=>some (.inr x)
 |_=>none
def oV:List D->Option (List br)
 |[]=>some []
 |d::ds=>match DP d,oV ds with
  |some k,some ks=>some (k::ks)
  |_,_=>none
def K_:D->Option (List br)
 |.tup ds=>oV ds
 |_=>none
section
variable{H:Hp}{m:Addr->Prop}
def Is.key(h:Is H m d v)(e:DP d=some k):v=kV k:=by
 cases d with
 |int i=>cases e;exact h
 |str x=>cases e;exact h
 |_=>cases e
theorem IsAll.keys:∀{ds:List D}{vs:List V}{ks:List br},IsAll H m ds vs->oV ds=some ks->vs=ks.map kV
 |[],_,_,h,e=>by cases h;cases e;rfl
 |d::ds,_,ks,h,e=>by
  obtain⟨v,r,rfl,h1,a⟩:=h;unfold oV at e;cases q:DP d with
  |none=>rw[q]at e;cases e
  |some k=>
   cases q2:oV ds with
   |none=>rw[q,q2]at e;cases e
   |some b=>rw[q,q2]at e;cases e;rw[h1.key q,IsAll.keys a q2];rfl
theorem Is.K_(h:Is H m d v)(e:L3.K_ d=some k):∃b,v=.ref b/\H b=some (.tup (k.map kV)):=by
 cases d with
 |tup ds=>obtain⟨a,vs,rfl,h1,c⟩:=h;have e:oV ds=some k:=e;rw[IsAll.keys c e]at h1;exact⟨a,rfl,h1⟩
 |_=>cases e
end
section
variable{X:Cx}{E:XK}
def GS(c:Rep g M ρ env σ H)(f:H b=none)(is:Is H' (λa=>a=b) d (.ref b))(mu:Mu H' b):ROk g M ρ H H' (.ref b) (.jJ d):=by obtain⟨j,h,i⟩:=c.free f;exact⟨λa=>a=b,λa e=>by subst e;exact⟨h,f,mu,i⟩,is⟩
def GT:PD X E (.Dict [] [] pos) (λ_=>.ok (.jJ (.dZ [] []))):=by refine⟨_,vN,λg M d env σ H Q a p b c=>?_⟩;have s:Same H (aO H b (.dK [])):=aP c;exact p _ M _ ⟨λ_ z=>z,s,λ_ z=>.inl z⟩ (a.grow s) (GS a c ⟨b,[],rfl,⟨.inl ⟨[],.inl ag,rfl,rfl⟩,rfl⟩,rfl⟩ ⟨_,ag,True.intro⟩)
def g_:D->Option DK
 |.int i=>some (.inl (.inl i))
 |.str x=>some (.inl (.inr x))
 |.tup ds=>(oV ds).map .inr
 |_=>none
noncomputable def mi:DK->DK->Bool
 |.inl _,.inl _=>true
 |.inr _,.inr _=>true
 |_,_=>false
noncomputable def n5(ks:List DK)(k:DK):Bool:=ks.any λx=>decide (x=k)
def DQ(neg:Bool)(a:D)(ks:List DK):Res R:=match g_ a with
 |some k=>if ks.all (mi k)then .ok (.val (.bl (if neg then !n5 ks k else n5 ks k)) true [])else .stuck
 |none=>.stuck
def Bo(neg:Bool)(a b:R):Res R:=match b.d with
 |.dZ ks _=>DQ neg a.d ks
 |_=>yB neg a b
def DR:R->R->Res R:=Bo false
def uy:R->R->Res R:=Bo true
noncomputable def La(neg:Bool):R2:=λx y H Q=>∃a o,y=.ref a/\mE H a x o/\Q (.bl (if neg then !o.isSome else o.isSome)) H
def Lb(e:X.A.units+64<cLine):OpR X (compareOp .In) (La false):=by intro aa s σ H x y v u Q I b c h;obtain⟨a,o,rfl,g,q⟩:=h;cases c;exact N7 (by lia) I g b λf d=>⟨.bl _,H,d,rfl,q⟩
def Bp(e:X.A.units+64<cLine):OpR X (compareOp .NotIn) (La true):=by intro aa s σ H x y v u Q I b c h;obtain⟨a,o,rfl,g,q⟩:=h;cases c;exact CU (by lia) I g b λf d=>⟨.bl _,H,d,rfl,q⟩
def qK{κ:Type}[DecidableEq κ]{kvs:List (κ×V)}(inj:κ->DK)(c:∀a b,inj a=inj b->a=b)(k:κ):(c9 kvs k).isSome=n5 (kvs.map λp=>inj p.1) (inj k):=by
 unfold n5;induction kvs with
 |nil=>rfl
 |cons p r d=>
  rw[T1,VL];by_cases e:p.1=k
  .rw[gV e,Uj (VD inj e)];rfl
  .rw[gW e,d,Ur (λz=>e (c _ _ z)),Xn]
theorem Is.g_(h:Is H m d v)(e:L3.g_ d=some k):(∃k0,k=.inl k0/\v=kV k0)\/∃k0 b,k=.inr k0/\v=.ref b/\H b=some (.tup (k0.map kV)):=by
 cases d with
 |int i=>cases e;exact .inl ⟨_,rfl,h⟩
 |str x=>cases e;exact .inl ⟨_,rfl,h⟩
 |tup ds=>have e:(oV ds).map Sum.inr=some k:=e;obtain⟨k0,a,rfl⟩:=UT.mp e;obtain⟨b,e1,e2⟩:=Is.K_ (d:=.tup ds) h a;exact .inr ⟨k0,b,rfl,e1,e2⟩
 |_=>cases e
def GU(h:DAt H a ks vs)(g:Is H m d x)(e:L3.g_ d=some k)(c:ks.all (mi k)=true):∃o,mE H a x o/\o.isSome=n5 ks k:=by
 rcases g.g_ e with⟨k0,rfl,rfl⟩|⟨k0,b,rfl,rfl,f⟩
 .rcases h with⟨kvs,e1,rfl,rfl⟩|⟨kvs,e1,rfl,rfl⟩
  .exact⟨_,.inl (.inl ⟨kvs,k0,e1,rfl,rfl⟩),qK Sum.inl (λ_ _ z=>Xq z) k0⟩
  .cases kvs with
   |nil=>exact⟨none,.inr (.inl ⟨e1,⟨k0,rfl⟩,rfl⟩),rfl⟩
   |cons p r=>simp[mi]at c
 .rcases h with⟨kvs,e1,rfl,rfl⟩|⟨kvs,e1,rfl,rfl⟩
  .cases kvs with
   |nil=>exact⟨none,.inr (.inr ⟨e1,⟨b,k0,rfl,f⟩,rfl⟩),rfl⟩
   |cons p r=>simp[mi]at c
  .exact⟨_,.inl (.inr ⟨kvs,k0,b,e1,rfl,f,rfl⟩),qK Sum.inr (λ_ _ z=>Xr z) k0⟩
def DS(h1:qD X E f (yB neg))(h:OpR X f (La neg)):qD X E f (Bo neg):=by
 obtain⟨r,o1,s1⟩:=h1;refine⟨_,o1.or h,λg M l env σ H Q ra i x y b j c p=>?_⟩;unfold Bo at p;cases q:i.d with
 |dZ ks ds=>
  right;rw[q]at p c;dsimp only at p;unfold DQ at p;cases q2:g_ ra.d with
  |none=>rw[q2]at p;exact p.elim
  |some k=>
   rw[q2]at p;dsimp only at p;by_cases e:ks.all (mi k)=true
   .rw[T2 e]at p;obtain⟨a,vs,rfl,h1,h⟩:=c;obtain⟨o,g1,g2⟩:=GU h1.1 j q2 e;refine⟨a,o,rfl,g1,?_⟩;rw[g2];exact p _ M H (Ext.refl _ _) b rfl
   .rw[T9 e]at p;exact p.elim
 |_=>left;refine s1 g M l env σ H Q ra i x y b j c ?_;rw[q]at p;exact p
def yC(a:X.A.units+64<cLine):qD X E (compareOp .In) DR:=DS (Ov a) (Lb a)
def Bq(a:X.A.units+64<cLine):qD X E (compareOp .NotIn) uy:=DS (DO a) (Bp a)
def tD:List DK->List D->DK->D->List D
 |k'::ks,d'::ds,k,d=>(if k'=k then d else d')::tD ks ds k d
 |_,_,_,_=>[]
def ko(ks:List DK)(ds:List D)(k:DK)(d:D):D:=if n5 ks k then .dZ ks (tD ks ds k d)else .dZ (ks++[k]) (ds++[d])
def zV{κ:Type}[DecidableEq κ](inj:κ->DK)(o:∀a b,inj a=inj b->a=b){H:Hp}{m:Addr->Prop}{kvs:List (κ×V)}{ds:List D}{k:κ}{v:V}{d:D}(h:IsAll H m ds (kvs.map Prod.snd))(i:Is H m d v) :
 ∃f g,ko (kvs.map λp=>inj p.1) ds (inj k) d=.dZ f g/\f=(ce kvs k v).map (λp=>inj p.1)/\IsAll H m g ((ce kvs k v).map Prod.snd):=by
 have c:n5 (kvs.map λp=>inj p.1) (inj k)=kvs.any λp=>decide (p.1=k):=by grind [n5]
 unfold ko ce;rw[c];by_cases e:(kvs.any λp=>decide (p.1=k))=true
 .rw[T2 e,T2 e];refine⟨_,_,rfl,?_,?_⟩
  .rw[Uo];refine Vb λp _=>?_
   grind
  .clear e c;induction kvs generalizing ds with
   |nil=>
    cases ds with
    |nil=>exact rfl
    |cons j r=>obtain⟨_,_,z,_⟩:=h;cases z
   |cons p r l=>
    cases ds with
    |nil=>cases h
    |cons j ds=>
     obtain⟨q,s,z,t,n⟩:=h;cases z;have:=l n;refine⟨_,_,rfl,?_,this⟩
     grind
 .rw[T9 e,T9 e];exact⟨_,_,rfl,by simp,by rw[UO];exact h.append ⟨v,[],rfl,i,rfl⟩⟩
def wt(i:Nat)(env:En)(ks:List DK)(ds:List D)(d:D)(k:R):Res Fl:=match g_ k.d with
 |some x=>if ks.all (mi x)/\ks.length<lim then .ok (.nx (env.set i (some (.lP (ko ks ds x d)))))else .stuck
 |none=>.stuck
def zW(i:Nat)(fk:En->Res R)(env:En)(ks:List DK)(ds:List D)(r:R):Res Fl:=if r.d.flat then(fk env).bind (wt i env ks ds r.d)else .stuck
def wu(i:Nat)(fk a:En->Res R):En->Res Fl:=λenv=>match env[i]? with
 |some (some (.lP (.dZ ks ds)))=>(a env).bind (zW i fk env ks ds)
 |_=>.stuck
def DT(mk:D->Sl)(i:Nat)(env:En)(ks:List DK)(ds:List D)(d:D)(k:R):Res Fl:=match g_ k.d with
 |some x=>if ks.all (mi x)/\ks.length<lim then .ok (.nx (env.set i (some (mk (ko ks ds x d)))))else .stuck
 |none=>.stuck
def DU(mk:D->Sl)(i:Nat)(fk:En->Res R)(env:En)(ks:List DK)(ds:List D)(r:R):Res Fl:=if r.d.flat then(fk env).bind (DT mk i env ks ds r.d)else .stuck
def DV{fk fv:En->Res R}{M:Addr->Prop}{σ:St}{H:Hp}{D:Ends}{ks:List DK}{ds:List L3.D}(mk:L3.D->Sl)(P0:Gd->V->Prop)(L:∀(g:Gd)(M T:Addr->Prop)(H:Hp)(v:V)(d:L3.D),SlOk g M T H v (mk d)↔Is H T d v/\P0 g v)(N:∀d,(mk d).QR=true)
 (s1:Snd X.mg E tk fk) (s2:Snd X.mg E tv fv) (O:Rep g M ρ env σ H) (hq:env[i]?=some (some (mk (.dZ ks ds)))) (p:PostS X.mg E g M H D ((fv env).bind (DU mk i fk env ks ds))):CV (aI i) tk tv D σ H:=by
 have hi:i<env.length:=(T7.mp hq).1;refine s2.sv O p λr v M1 H1 e1 P ro p1=>?_;obtain⟨M1',x1,x1m,l,is1⟩:=ro.is P e1 O.same;unfold DU at p1;by_cases Y:r.d.flat=true
 .rw[T2 Y]at p1;obtain⟨va,ev,ka⟩:=l.slot i _ hq;obtain⟨ka,G⟩:=(L g M1' (ρ i) H1 va (.dZ ks ds)).mp ka;obtain⟨a,vs,rfl,⟨dat,Z⟩,Q⟩:=ka;refine⟨.ref a,ev,s1.sv l (PostS.ba ⟨x1m,λ_ _ q _=>q⟩ p1) λrk y M2 m e2 S rok p2=>?_⟩;obtain⟨U,x2,x2m,s,is2⟩:=rok.is S e2 l.same;unfold DT at p2;cases qk:g_ rk.d with
  |none=>rw[qk]at p2;exact p2.elim
  |some x=>
   rw[qk]at p2;dsimp only at p2;by_cases K:ks.all (mi x)=true/\ks.length<lim
   .rw[T2 K]at p2;have n:DAt m a ks vs:=dat.keep λo e=>e2.h _ _ e;have w:IsAll m (ρ i) ds vs:=Q.same e2.h;have hv2:Is m (ρ i) r.d v:=Is.flat Y (is1.same e2.h);have kd:Is m (ρ i) (.dZ ks ds) (.ref a):=⟨a,vs,rfl,⟨n,Z⟩,w⟩;have c:IsAll m (λb=>ρ i b/\b≠a) ds vs:=IsAll.avoid kd (by simp only[L3.D.sz];lia) w;have A:Is m (λb=>ρ i b/\b≠a) r.d v:=Is.flat Y hv2;have F:∀o u,m a≠some (.ba o u):=λo u z=>by obtain⟨_,_,uo,q,qm⟩:=s.cc i a Z;rw[z]at q;cases q;exact qm
    obtain⟨uo,huo,hmo⟩:=n.mu F;have B:∀u,Rd m a u->m a=some u:=λu z=>z.elim id λ⟨o,z⟩=>(F _ _ z).elim;have nfx:∀u,m a=some u->¬iL u:=λu e z=>by rw[huo]at e;cases e;cases uo<;>first|exact z|exact hmo
    have C:∀(u':HO)(j:List DK)(f:List L3.D)(vs':List V),KM u'->DAt (aO m a u') a j vs'->ko ks ds x r.d=.dZ j f->IsAll m (λb=>ρ i b/\b≠a) f vs'->D.nx σ (aO m a u'):=λu' j f vs' hu' hd he I=>by
     rw[he]at p2;have J:IsAll (aO m a u') (ρ i) f vs':=I.mono (λb u q z=>by
      rw[af]
      .exact q
      .rintro rfl;rcases z with z|z
       .exact z.2 rfl
       .exact nfx u q z) λ_ _ _ z=>z.1
     obtain⟨f1,W⟩:=s.Fw (u':=u') hu' Z hi ev (sl:=mk (.dZ j f)) ((L g U (ρ i) _ _ _).mpr ⟨⟨a,vs',rfl,⟨hd,Z⟩,J⟩,G⟩) (N _);exact p2 σ U ρ _ (lR.trans ⟨x2m,λ_ _ q _=>q⟩ f1) W
    refine⟨a,?_⟩;rcases is2.g_ qk with⟨k0,rfl,rfl⟩|⟨k0,b,rfl,rfl,hb⟩
    .rcases n with⟨kvs,e1,rfl,rfl⟩|⟨kvs,e1,rfl,rfl⟩
     .obtain⟨j,f,g1,g2,g3⟩:=zV Sum.inl (λ_ _ z=>Xq z) (k:=k0) c A;refine⟨_,rfl,.inl (DPut.k (B _ e1) (by have:=K.2;rw[TZ]at this;exact uj this)),C _ j f _ True.intro (.inl ⟨_,.inl ag,g2,rfl⟩) g1 g3⟩
     .cases kvs with
      |nil=>
       cases ds with
       |nil=>exact⟨_,rfl,.inr (.inl ⟨B _ e1,k0,rfl,rfl⟩),C (.dK [(k0,v)]) [.inl k0] [r.d] [v] True.intro (.inl ⟨_,.inl ag,rfl,rfl⟩) rfl ⟨v,[],rfl,A,rfl⟩⟩
       |cons d0 ds0=>obtain⟨_,_,z,_⟩:=c;cases z
      |cons q r0=>simp[mi]at K
    .rcases n with⟨kvs,e1,rfl,rfl⟩|⟨kvs,e1,rfl,rfl⟩
     .cases kvs with
      |nil=>
       cases ds with
       |nil=>exact⟨_,rfl,.inr (.inr ⟨B _ e1,b,k0,rfl,hb,rfl⟩),C (.dT [(k0,v)]) [.inr k0] [r.d] [v] True.intro (.inr ⟨_,.inl ag,rfl,rfl⟩) rfl ⟨v,[],rfl,A,rfl⟩⟩
       |cons d0 ds0=>obtain⟨_,_,z,_⟩:=c;cases z
      |cons q r0=>simp[mi]at K
     .obtain⟨j,f,g1,g2,g3⟩:=zV Sum.inr (λ_ _ z=>Xr z) (k:=k0) c A;refine⟨_,rfl,.inl (DPut.t (B _ e1) hb (by have:=K.2;rw[TZ]at this;exact uj this)),C _ j f _ True.intro (.inr ⟨_,.inl ag,g2,rfl⟩) g1 g3⟩
   .rw[T9 K]at p2;exact p2.elim
 .rw[T9 Y]at p1;exact p1.elim
def GV(f:X.A.units+64<cLine)(b:PE X o (aI i))(c:PD X E ki fk)(d:PD X E value fv)
 (hs:autoParam (swapsWith value (some (.Subscript o ki pos')) pos.line X.env=pure false) aM):zN X E (.Assign [.Subscript o ki pos'] value pos) (wu i fk fv):=by
 obtain⟨tk,p1,s1⟩:=c;obtain⟨h,p2,s2⟩:=d;refine⟨_,CW (by lia) b p1 p2 hs,λg M j env σ H D a p=>?_⟩;unfold wu at p;split at p
 .rename_i ks ds e;exact DV .lP (λ_ _=>True) (λ_ _ _ _ _ _=>⟨λz=>⟨z,True.intro⟩,λz=>z.1⟩) (λ_=>rfl) s1 s2 a e p
 .exact p.elim
def Lc:R->R->Res R:=oI (λ_ j=>decide (0<=j)) λi j=>.int (i/2^j.toNat)
def DW:R->R->Res R:=oI (λ_ _=>true) λi j=>.int (Builtin.bitAnd i j)
def Ld:qD X E (binaryOp .RShift) Lc:=tf _ _ Kj (λi j h=>by grind) λ_ _ _ _=>rfl
def GW:qD X E (binaryOp .BitAnd) DW:=yr _ Kk λ_ _ _ _=>rfl
def uz:List R->Res R
 |[r]=>match r.d with
  |.lst ds=>.ok (jh (.tup ds) r.fr r.al)
  |.tup ds=>.ok (jh (.tup ds) r.fr r.al)
  |_=>.stuck
 |_=>.stuck
def DY:mR X E (.type "tuple") uz:=by
 refine⟨_,rM,λg M h env σ H Q rs vs c i p=>?_⟩;rcases rs with _|⟨r,_|_⟩
 .exact p.elim
 rotate_left
 .exact p.elim
 obtain⟨v,w,rfl,b,j⟩:=i;cases j;have b:Is H (vmsk g M (bZ [r]) h (cO [r])) r.d v:=b;replace b:=b.weak λ_ z=>zM z;unfold uz at p;dsimp only at p;cases q:r.d with
 |lst ds=>rw[q]at p b;obtain⟨a,ws,rfl,h1,f⟩:=b.rd;exact⟨a,ws,rfl,.inl ⟨.inl h1,λl k=>p.tup c k f⟩⟩
 |tup ds=>rw[q]at p b;have e:=b;obtain⟨a,ws,rfl,h1,f⟩:=b;exact⟨a,ws,rfl,.inr ⟨SqT.of h1,p.val c e⟩⟩
 |_=>rw[q]at p;exact p.elim
end
def getD:List DK->List D->DK->Option D
 |k'::ks,d::ds,k=>if k'=k then some d else getD ks ds k
 |_,_,_=>none
def tE(ra rk:R):Res R:=match ra.d with
 |.dZ ks ds=>match g_ rk.d with
  |some x=>if ks.all (mi x)then(match getD ks ds x with
   |some d=>.ok (jh d ra.fr ra.al)
   |none=>.stuck)else .stuck
  |none=>.stuck
 |_=>.stuck
theorem pD{κ:Type}[DecidableEq κ](inj:κ->DK)(f:∀a b,inj a=inj b->a=b){H:Hp}{m:Addr->Prop}{k:κ}{d:D}:∀{kvs:List (κ×V)}{ds:List D},IsAll H m ds (kvs.map Prod.snd)->getD (kvs.map λp=>inj p.1) ds (inj k)=some d->∃v,c9 kvs k=some v/\Is H m d v
 |[],ds,_,e=>by cases ds<;>cases e
 |p::r,[],h,e=>by cases h
 |p::r,j::ds,h,e=>by
  obtain⟨l,n,z,g,i⟩:=h;cases z;rw[T1]at e;unfold getD at e;by_cases c:p.1=k
  .rw[T2 (VD inj c)]at e;cases e;exact⟨p.2,gV c,g⟩
  .rw[T9 (λz=>c (f _ _ z))]at e;obtain⟨v,e1,e2⟩:=pD inj f i e;exact⟨v,by rw[gW c];exact e1,e2⟩
section
variable{X:Cx}{E:XK}
def GX(C:X.A.units+64<cLine)(t:PD X E o fa)(u:PD X E k fk)(hs:Ky k):PD X E (.Subscript o k pos) (v2 tE fa fk):=by
 obtain⟨ta,p1,s1⟩:=t;obtain⟨tk,p2,s2⟩:=u;refine⟨_,zt (by lia) p1 p2 hs,λg M D env σ H Q j p=>s1.Cb s2 j p λra rk x y M1 F c m w q=>?_⟩;unfold tE at q;cases n:ra.d with
 |dZ ks ds=>
  rw[n]at q m;dsimp only at q;cases l:g_ rk.d with
  |none=>rw[l]at q;exact q.elim
  |some s=>
   rw[l]at q;dsimp only at q;by_cases i:ks.all (mi s)=true
   .rw[T2 i]at q;obtain⟨a,vs,rfl,⟨h,_⟩,e⟩:=m;cases f:getD ks ds s with
    |none=>rw[f]at q;exact q.elim
    |some d=>
     rw[f]at q;refine⟨a,?_⟩;rcases w.g_ l with⟨k0,rfl,rfl⟩|⟨k0,b,rfl,rfl,B⟩
     .rcases h with⟨kvs,e1,rfl,rfl⟩|⟨kvs,e1,rfl,rfl⟩
      .obtain⟨v,g1,g2⟩:=pD Sum.inl (λ_ _ z=>Xq z) e f;exact⟨v,rfl,by rw[<- g1];exact .inl ⟨kvs,k0,e1,rfl,rfl⟩,q.val c g2⟩
      .cases kvs with
       |nil=>cases ds<;>cases f
       |cons p r=>simp[mi]at i
     .rcases h with⟨kvs,e1,rfl,rfl⟩|⟨kvs,e1,rfl,rfl⟩
      .cases kvs with
       |nil=>cases ds<;>cases f
       |cons p r=>simp[mi]at i
      .obtain⟨v,g1,g2⟩:=pD Sum.inr (λ_ _ z=>Xr z) e f;exact⟨v,rfl,by rw[<- g1];exact .inr ⟨kvs,k0,b,e1,rfl,B,rfl⟩,q.val c g2⟩
   .rw[T9 i]at q;exact q.elim
 |_=>rw[n]at q;exact q.elim
def Ow(ra:R)(ks:List DK)(ds:List D)(rk a:R):Res R:=match g_ rk.d with
 |some x=>if ks.all (mi x)then(match getD ks ds x with
  |some d=>.ok (jh d ra.fr ra.al)
  |none=>.ok (jh a.d a.fr a.al))else .stuck
 |none=>.stuck
def RQ(fx:En->Res R)(env:En)(ra:R)(ks:List DK)(ds:List D)(rk:R):Res R:=(fx env).bind (Ow ra ks ds rk)
def Ox(fk fx:En->Res R)(env:En)(ra:R):Res R:=match ra.d with
 |.dZ ks ds=>(fk env).bind (RQ fx env ra ks ds)
 |_=>.stuck
def wv(fa fk fx:En->Res R):En->Res R:=λenv=>(fa env).bind (Ox fk fx env)
def DAt.S8(h:DAt H a ks vs):IK H a:=h.imp (λ⟨kvs,e,_⟩=>⟨kvs,e⟩) λ⟨kvs,e,_⟩=>⟨kvs,e⟩
theorem zX:∀{ks:List DK}{ds:List D}{k:DK},ks.length=ds.length->n5 ks k=(getD ks ds k).isSome
 |[],ds,k,_=>by cases ds<;>rfl
 |k'::ks,[],k,h=>by cases h
 |k'::ks,d::ds,k,h=>by
  have a:=zX (ks:=ks) (ds:=ds) (k:=k) (by simpa using h);unfold n5 getD;unfold n5 at a;rw[VL];by_cases e:k'=k
  .rw[T2 e,Uj e];rfl
  .rw[T9 e,Ur e,Xn];exact a
def ww(h:DAt H a ks vs)(c:IsAll H m ds vs)(n:Is H m' d x)(e:L3.g_ d=some k)(i:ks.all (mi k)=true) :
 ∃o,mE H a x o/\(match getD ks ds k with|some d=>∃v,o=some v/\Is H m d v|none=>o=none):=by
 have key:∀{κ:Type} [DecidableEq κ] (inj:κ->DK) (f:∀a b,inj a=inj b->a=b) (kvs:List (κ×V)) (k0:κ),IsAll H m ds (kvs.map Prod.snd)->(match getD (kvs.map λp=>inj p.1) ds (inj k0)with|some d=>∃v,c9 kvs k0=some v/\Is H m d v|none=>c9 kvs k0=none):=by
  intro κ _ inj f kvs k0 j;have s:(kvs.map λp=>inj p.1).length=ds.length:=by have:=j.length;rw[TZ]at this ⊢;exact this
  have h1:=zX (k:=inj k0) s;have g:=qK (kvs:=kvs) inj f k0;cases q:getD (kvs.map λp=>inj p.1) ds (inj k0)with
  |some d=>exact pD inj f j q
  |none=>
   rw[q]at h1;rw[h1]at g;cases z:c9 kvs k0 with
   |none=>rfl
   |some v=>rw[z]at g;cases g
 rcases n.g_ e with⟨k0,rfl,rfl⟩|⟨k0,b,rfl,rfl,l⟩
 .rcases h with⟨kvs,e1,rfl,rfl⟩|⟨kvs,e1,rfl,rfl⟩
  .exact⟨_,.inl (.inl ⟨kvs,k0,e1,rfl,rfl⟩),key Sum.inl (λ_ _ z=>Xq z) kvs k0 c⟩
  .cases kvs with
   |nil=>exact⟨none,.inr (.inl ⟨e1,⟨k0,rfl⟩,rfl⟩),by cases ds<;>rfl⟩
   |cons p r=>simp[mi]at i
 .rcases h with⟨kvs,e1,rfl,rfl⟩|⟨kvs,e1,rfl,rfl⟩
  .cases kvs with
   |nil=>exact⟨none,.inr (.inr ⟨e1,⟨b,k0,rfl,l⟩,rfl⟩),by cases ds<;>rfl⟩
   |cons p r=>simp[mi]at i
  .exact⟨_,.inl (.inr ⟨kvs,k0,b,e1,rfl,l,rfl⟩),key Sum.inr (λ_ _ z=>Xr z) kvs k0 c⟩
def GY(T:X.A.units+64<cLine)(I:PD X E o fa)(J:PD X E k fk)(K:PD X E x fx)(m:M2 X o "get" apos k x cpos):PD X E (.Call (.Attribute o "get" apos) [k,x] [] cpos) (wv fa fk fx):=by
 obtain⟨ta,p1,s1⟩:=I;obtain⟨tk,p2,s2⟩:=J;obtain⟨U,p3,L⟩:=K;refine⟨_,AV (by lia) p1 p2 p3 m,λg M N env σ H Q r p=>s1.gh r p λra v M1 V e1 i w q1=>?_⟩;unfold Ox at q1;cases B:ra.d with
 |dZ ks ds=>
  rw[B]at q1 w;dsimp only at q1;obtain⟨a,vs,rfl,⟨j,ma⟩,l⟩:=w;refine⟨a,rfl,j.S8,s2.gh i q1 λrk y M2 W e2 n O q2=>?_⟩;refine L.gh n q2 λY z P C s c R b=>?_;unfold Ow at b;cases t:g_ rk.d with
  |none=>rw[t]at b;exact b.elim
  |some D=>
   rw[t]at b;dsimp only at b;by_cases u:ks.all (mi D)=true
   .rw[T2 u]at b;have q:DAt C a ks vs:=j.keep λo e=>s.h _ _ (e2.h _ _ e);have f:IsAll C (vmsk g P ra.fr N ra.al) ds vs:=(l.ext e2).ext s;obtain⟨F,g1,g2⟩:=ww q f (O.ext s) t u;refine⟨F,g1,?_⟩;cases G:getD ks ds D with
    |some d=>rw[G]at b g2;obtain⟨v,rfl,S⟩:=g2;exact b.val c S
    |none=>rw[G]at b g2;have g2:F=none:=g2;subst g2;exact b.val c R
   .rw[T9 u]at b;exact b.elim
 |_=>rw[B]at q1;exact q1.elim
end
noncomputable def hI:List D->Option (List Int)
 |[]=>some []
 |.int i::r=>(hI r).map (i::·)
 |_::_=>none
def GZ:D->Option (List Int)
 |.tup ds=>hI ds
 |_=>none
def d9:List D->Option (List (List Int))
 |[]=>some []
 |d::r=>match GZ d,d9 r with
  |some k,some ks=>some (k::ks)
  |_,_=>none
noncomputable def iY(k:List Int):D:=.tup (k.map .int)
def rT(k:List Int):List (List Int)->List (List Int)
 |[]=>[k]
 |h::t=>if k=h then h::t else if dL k h then k::h::t else h::rT k t
def fG:List (List Int)->List (List Int)
 |[]=>[]
 |k::ks=>rT k (fG ks)
def G0(N:Nat)(r:R):Res R:=match r.d with
 |.lst ds=>match d9 ds with
  |some ks=>if decide (ds.length<=N)&&ks.all (λk=>!k.isEmpty)then .ok (.new ((fG ks).map iY) true)else .stuck
  |none=>.stuck
 |_=>.stuck
def IX(r:R):Res R:=G0 63 r
def RT(f:En->Res R):En->Res R:=λenv=>(f env).bind IX
theorem uA(k x:List Int):∀l,x∈rT k l↔x=k\/x∈l
 |[]=>by simp[rT]
 |h::t=>by
  unfold rT;split
  .rename_i e;subst e;simp
  .split
   .simp
   .rw[T6,uA k x t,T6]
    grind
theorem DZ(k:List Int):∀l,l.Pairwise (λx y=>dL x y=true)->(rT k l).Pairwise (λx y=>dL x y=true)
 |[],_=>List.pairwise_singleton _ _
 |h::t,p=>by
  obtain⟨p1,p2⟩:=UP.mp p;unfold rT;split
  .exact p
  .rename_i b;split
   .rename_i a;refine UP.mpr ⟨λy c=>?_,p⟩
    grind [ub]
   .rename_i a;refine UP.mpr ⟨λy c=>?_,DZ k t p2⟩
    grind [uA,uc]
theorem iZ(x:List Int):∀ks,x∈fG ks↔x∈ks
 |[]=>by simp[fG]
 |k::ks=>by unfold fG;rw[uA,iZ x ks,T6]
theorem pE:∀ks,(fG ks).Pairwise (λx y=>dL x y=true)
 |[]=>List.Pairwise.nil
 |k::ks=>by unfold fG;exact DZ k _ (pE ks)
def D0(h:dL a b=true):dL b a=false:=by grind [dL,ub,mI]
theorem mj:∀(a b:List (List Int)),a.Pairwise (λx y=>dL x y=true)->b.Pairwise (λx y=>dL x y=true)->(∀x,x∈a↔x∈b)->a=b
 |[],[],_,_,_=>rfl
 |[],y::b,_,_,h=>by have:=(h y).mpr T5;simp at this
 |x::a,[],_,_,h=>by have:=(h x).mp T5;simp at this
 |x::a,y::b,d,f,h=>by
  obtain⟨g,i⟩:=UP.mp d;obtain⟨j,k⟩:=UP.mp f;have c:x=y:=by
   rcases T6.mp ((h x).mp T5)with e|e
   .exact e
   .rcases T6.mp ((h y).mpr T5)with e'|e'
    .exact e'.symm
    .have:=D0 (g y e');rw[j x e]at this;cases this
  subst c;rw[mj a b i k λz=>?_]
  grind [mI]
section
variable{H:Hp}{m:Addr->Prop}
theorem IsAll.ints:∀{ds:List D}{vs:List V}{k:List Int},IsAll H m ds vs->hI ds=some k->vs=(iK k).map kV
 |[],_,_,h,e=>by cases h;cases e;rfl
 |d::ds,_,k,h,e=>by
  obtain⟨v,r,rfl,h1,a⟩:=h;cases d with
  |int i=>unfold hI at e;obtain⟨b,e1,rfl⟩:=UT.mp e;rw[IsAll.ints a e1,show v=V.int i from h1];rfl
  |_=>cases e
theorem qL:∀(k:List Int),IsAll H m (k.map .int) ((iK k).map kV)
 |[]=>rfl
 |i::k=>⟨.int i,_,rfl,rfl,qL k⟩
theorem IsAll.d9:∀{ds:List D}{vs:List V}{ks:List (List Int)},IsAll H m ds vs->L3.d9 ds=some ks->∃its:List jK,TupsIn H vs its/\its.map (·.1)=ks
 |[],_,_,h,e=>by cases h;cases e;exact⟨[],.nil,rfl⟩
 |d::ds,_,ks,h,e=>by
  obtain⟨v,r,rfl,h1,b⟩:=h;unfold L3.d9 at e;cases q:GZ d with
  |none=>rw[q]at e;cases e
  |some k=>
   cases q2:L3.d9 ds with
   |none=>rw[q,q2]at e;cases e
   |some c=>
    rw[q,q2]at e;cases e;obtain⟨its,f,g⟩:=IsAll.d9 b q2;cases d with
    |tup es=>obtain⟨a,ws,rfl,g1,g2⟩:=h1;have q:hI es=some k:=q;rw[IsAll.ints g2 q]at g1;exact⟨(k,a)::its,.cons ⟨rfl,g1⟩ f,by grind⟩
    |_=>cases q
end
def yD(t:TupsIn H vs its):vs.length=its.length:=by
 unfold TupsIn at t;induction t with
 |nil=>rfl
 |cons _ _ a=>rw[Ue,Ue,a]
def tF(t:TupsIn H vs its):∀x∈its,H x.2=some (.tup ((iK x.1).map kV)):=by
 unfold TupsIn at t;induction t with
 |nil=>exact λx hx=>nomatch hx
 |cons q _ a=>
  intro x hx;rcases T6.mp hx with rfl|hx
  .exact q.2
  .exact a x hx
theorem kq:∀{a:List jK},(∀y∈a,H y.2=some (.tup ((iK y.1).map kV)))->IsAll H m (a.map (iY ∘ λy=>y.1)) (a.map λy=>.ref y.2)
 |[],_=>rfl
 |y::a,h=>⟨.ref y.2,_,rfl,⟨y.2,_,rfl,h y T5,qL y.1⟩,kq λz hz=>h z (T3 _ hz)⟩
section
variable{X:Cx}{E:XK}
def rV(hN:N<=300)(I:mJ X.prog X.w N)(hc:X.calm=true)(hu:X.A.units+64<cLine)(h:PD X E e f)
 (J:Gl X x1) (K:X.mg x1=none) (L:bootBuiltins x1=some (.builtin "sorted")) (O:Gl X x2) (P:X.mg x2=none) (R:bootBuiltins x2=some (.type "set"))
 (S:autoParam (x1≠"__name__") ab) (o:autoParam (dB x1) ab) (T:autoParam (x2≠"__name__") ab) (q:autoParam (dB x2) ab)
 (s:autoParam (starEach [e] X.env=(false,eval e X.env)::starEach [] X.env) aM) (u:autoParam (bT X pos2 []) aM)
 (B:autoParam (starEach [.Call (.Name x2 p2) [e] [] pos2] X.env=(false,eval (.Call (.Name x2 p2) [e] [] pos2) X.env)::starEach [] X.env) aM) (C:autoParam (bT X pos1 []) aM) :
 PD X E (.Call (.Name x1 p1) [.Call (.Name x2 p2) [e] [] pos2] [] pos1) (λenv=>(f env).bind (G0 N)):=by
 obtain⟨t,p1,s1⟩:=h;refine⟨_,dk (ud hc hN I) J K L (ah (nO (A0 hc hu) O P R (ah p1 aG s) T q s u) aG B) S o B C,λg M ρ env σ H Q U p=>?_⟩;refine s1.gh U p λr v M1 D e1 i i1 q1=>?_;unfold G0 at q1;cases qd:r.d with
 |lst ds=>
  rw[qd]at q1 i1;dsimp only at q1;cases V:d9 ds with
  |none=>rw[V]at q1;exact q1.elim
  |some ks=>
   rw[V]at q1;dsimp only at q1;by_cases c:(decide (ds.length<=N)&&ks.all (λk=>!k.isEmpty))=true
   .rw[T2 c]at q1;simp only[Uv,Vu,UW]at c;obtain⟨m,W⟩:=c;obtain⟨a,vs,rfl,h1,h2⟩:=i1.rd;obtain⟨its,Y,t2⟩:=h2.d9 V;have F:vs.length<=N:=by rw[h2.length];exact m
    have n:=tF Y;refine⟨a,vs,its,rfl,h1,Y,Us F hN,λb es hb v=>?_⟩;refine⟨b,es,its,rfl,ag,v,λx j=>?_,λx j z=>?_,by rw[<- yD Y];exact F,λl ys m so=>?_⟩
    .rw[af (ao (n x j) hb)];exact n x j
    .have:x.1∈ks:=by rw[<- t2];exact T_.mpr ⟨x,j,rfl⟩
     have:=W _ this;rw[z]at this;simp at this
    .have Z:l≠b:=λz=>by rw[z,ag]at m;cases m
     have G:D l=none:=by rw[af Z]at m;exact m
     have sm1:Same D (aO D b (.ext λh=>SetAt X.w h b es)):=aP hb;have sm2:Same (aO D b (.ext λh=>SetAt X.w h b es)) (aO (aO D b (.ext λh=>SetAt X.w h b es)) l (.lst (ys.map λy=>.ref y.2))):=aP m;have sm:=sm1.trans sm2;obtain⟨z0,zm,zo⟩:=i.free G;refine q1 _ M1 _ ⟨λ_ z=>z,sm,λ_ z=>.inl z⟩ (i.grow sm) ⟨l,_,rfl,ag,zm,G,zo,?_⟩;have ek:ys.map (·.1)=fG ks:=by
      refine mj _ _ ?_ (pE ks) λk=>?_
      .rw[V5];exact so.pw
      .rw[iZ,<- t2];constructor
       .intro hk;obtain⟨y,hy,rfl⟩:=T_.mp hk;exact T_.mpr ⟨y,so.sub y hy,rfl⟩
       .intro hk;obtain⟨x,j,rfl⟩:=T_.mp hk;obtain⟨y,y1,y2⟩:=so.all x j;exact T_.mpr ⟨y,y1,y2⟩
     rw[<- ek,Uo];exact kq (λx j=>sm _ _ (n x (so.sub x j)))
   .rw[T9 c]at q1;exact q1.elim
 |_=>rw[qd]at q1;exact q1.elim
def uB(r:X.calm=true)(s:X.A.units+64<cLine)(h:PD X E e f)
 (g:Gl X x1) (i:X.mg x1=none) (j:bootBuiltins x1=some (.builtin "sorted")) (k:Gl X x2) (l:X.mg x2=none) (m:bootBuiltins x2=some (.type "set"))
 (n:autoParam (x1≠"__name__") ab) (a:autoParam (dB x1) ab) (o:autoParam (x2≠"__name__") ab) (b:autoParam (dB x2) ab)
 (p:autoParam (starEach [e] X.env=(false,eval e X.env)::starEach [] X.env) aM) (c:autoParam (bT X pos2 []) aM)
 (q:autoParam (starEach [.Call (.Name x2 p2) [e] [] pos2] X.env=(false,eval (.Call (.Name x2 p2) [e] [] pos2) X.env)::starEach [] X.env) aM) (d:autoParam (bT X pos1 []) aM) :
 PD X E (.Call (.Name x1 p1) [.Call (.Name x2 p2) [e] [] pos2] [] pos1) (RT f):=rV (Nat.le_of_ble_eq_true rfl) zE r s h g i j k l m n a o b p c q d
end
section
variable{H H':Hp}{m m':Addr->Prop}
mutual
theorem Is.view(f:∀a vs,H a=some (.lst vs)->H' a=some (.lst vs))(g:∀a o vs,H a=some (.ba o (.lst vs))->H' a=some (.ba o (.lst vs)))(i:∀a vs,H a=some (.tup vs)->H' a=some (.tup vs))(hd:∀a u,iJ u->Rd H a u->Rd H' a u)(b:∀a,m a->m' a):∀{d:D}{v:V},Is H m d v->Is H' m' d v
 |.bn,_,h=>h
 |.bl _,_,h=>h
 |.int _,_,h=>h
 |.str _,_,h=>h
 |.tup ds,_,h=>by obtain⟨a,vs,e,h1,c⟩:=h;exact⟨a,vs,e,i a _ h1,IsAll.view f g i hd b c⟩
 |.lst ds,_,h=>by
  obtain⟨a,vs,e,h1,c⟩:=h;refine⟨a,vs,e,?_,IsAll.view f g i hd b c⟩;rcases h1 with⟨h1,j⟩|⟨o,h1,j⟩
  .exact .inl ⟨f a _ h1,b a j⟩
  .exact .inr ⟨o,g a o _ h1,b a j⟩
 |.dZ ks ds,_,h=>by obtain⟨a,vs,e,h1,c⟩:=h;refine⟨a,vs,e,⟨?_,b a h1.2⟩,IsAll.view f g i hd b c⟩;exact h1.1.imp (λ⟨kvs,e,r⟩=>⟨kvs,hd a _ True.intro e,r⟩) λ⟨kvs,e,r⟩=>⟨kvs,hd a _ True.intro e,r⟩
theorem IsAll.view(b:∀a vs,H a=some (.lst vs)->H' a=some (.lst vs))(c:∀a o vs,H a=some (.ba o (.lst vs))->H' a=some (.ba o (.lst vs)))(f:∀a vs,H a=some (.tup vs)->H' a=some (.tup vs))(hd:∀a u,iJ u->Rd H a u->Rd H' a u)(g:∀a,m a->m' a):∀{ds:List D}{vs:List V},IsAll H m ds vs->IsAll H' m' ds vs
 |[],_,h=>h
 |d::ds,_,h=>by obtain⟨v,r,e,h1,i⟩:=h;exact⟨v,r,e,Is.view b c f hd g h1,IsAll.view b c f hd g i⟩
end
mutual
theorem IsSh.view(c:∀a vs,H a=some (.lst vs)->H' a=some (.lst vs))(f:∀a vs,H a=some (.tup vs)->H' a=some (.tup vs)):∀{d:D}{v:V},IsSh H m d v->IsSh H' m d v
 |.bn,_,h=>h
 |.bl _,_,h=>h
 |.int _,_,h=>h
 |.str _,_,h=>h
 |.tup ds,_,h=>by obtain⟨a,vs,e,h1,b⟩:=h;exact⟨a,vs,e,f a _ h1,IsShs.view c f b⟩
 |.lst ds,_,h=>by obtain⟨a,vs,e,h1,b⟩:=h;exact⟨a,vs,e,c a _ h1,b⟩
 |.dZ _ _,_,h=>h
theorem IsShs.view(b:∀a vs,H a=some (.lst vs)->H' a=some (.lst vs))(c:∀a vs,H a=some (.tup vs)->H' a=some (.tup vs)):∀{ds:List D}{vs:List V},IsShs H m ds vs->IsShs H' m ds vs
 |[],_,h=>h
 |d::ds,_,h=>by obtain⟨v,r,e,h1,f⟩:=h;exact⟨v,r,e,IsSh.view b c h1,IsShs.view b c f⟩
end
end
section
variable{g:Gd}{M:Addr->Prop}{ρ:Pr}{env:En}{σ:St}{H:Hp}{d:Addr}{o:Obj}{u:HO}
open Classical in
def hJ(g:Gd)(d:Addr)(o:Obj)(u:HO):Gd:=⟨if g.H₀ d=none then g.H₀ else aO g.H₀ d (.ba o u),g.Ma,λa=>g.Z a\/a=d,g.root,g.QZ⟩
def mT(a:b≠d):(hJ g d o u).H₀ b=g.H₀ b:=by
 unfold hJ;dsimp only;split
 .rfl
 .exact af a
def cT(b:Addr):(hJ g d o u).H₀ b=none↔g.H₀ b=none:=by
 by_cases a:b=d
 .subst a;unfold hJ;dsimp only;split
  .exact Iff.rfl
  .rename_i h;rw[ag];exact⟨λz=>(by cases z),λz=>(h z).elim⟩
 .rw[mT a]
def G2(h:g.H₀ d≠none):(hJ g d o u).H₀ d=some (.ba o u):=by unfold hJ;dsimp only;rw[T9 h,ag]
def tG(b:iJ u)(hd:H d=some u):(∀a vs,H a=some (.lst vs)->a≠d)/\(∀a o vs,H a=some (.ba o (.lst vs))->a≠d)/\∀a vs,H a=some (.tup vs)->a≠d:=by refine⟨λa vs e z=>?_,λa o vs e z=>?_,λa vs e z=>?_⟩<;>(subst z;rw[hd]at e;cases e;exact b)
def msk_still:f9 (hJ g d o u) M fr a↔f9 g M fr a:=by unfold f9;rw[cT]
def Rep.xy(c:Rep g M ρ env σ H)(hd:H d=some u)(r:iJ u)(s:M d):Rep (hJ g d o u) M ρ env σ (aO H d (.ba o u)):=by
 obtain⟨k1,k2,k3⟩:=tG r hd;have l:∀a vs,H a=some (.lst vs)->aO H d (.ba o u) a=some (.lst vs):=λa vs e=>by rw[af (k1 a vs e)];exact e
 have n:∀a j vs,H a=some (.ba j (.lst vs))->aO H d (.ba o u) a=some (.ba j (.lst vs)):=λa j vs e=>by rw[af (k2 a j vs e)];exact e
 have m:∀a vs,H a=some (.tup vs)->aO H d (.ba o u) a=some (.tup vs):=λa vs e=>by rw[af (k3 a vs e)];exact e
 have p:∀a u',iJ u'->Rd H a u'->Rd (aO H d (.ba o u)) a u':=λa u' t e=>by
  by_cases ha:a=d
  .subst ha;rcases e with e|⟨j,e⟩
   .rw[hd]at e;cases e;exact .inr ⟨o,ag⟩
   .rw[hd]at e;cases e;exact r.elim
  .exact nV e λj q=>by rw[af ha];exact q
 have pn:∀i a,ρ i a->a≠d:=λi a h z=>(c.cc i a h).1 (z▸s);refine⟨λb x e=>?_,λa ha=>?_,λa ha=>(c.vh a ha).imp (cT a).mpr id,λa ha w=>?_,λi sl e=>?_,λi a h=>?_,c.apart,c.ow,c.len,λa z=>?_⟩
 .by_cases f:b=d
  .subst f;have y:g.H₀ b≠none:=λz=>by rw[(cT b).mpr z]at e;cases e
   rw[G2 y]at e;cases e;exact ag
  .rw[mT f]at e;rw[af f];exact c.same b x e
 .by_cases f:a=d
  .rw[f,ag];simp
  .rw[af f];exact c.jI a ha
 .by_cases f:a=d
  .rw[f];exact .inr ⟨.inr rfl,o,u,ag⟩
  .rcases c.fl a ha ((cT a).mp w)with q|⟨q,j,u',e⟩
   .exact .inl (q.same λj e=>by rw[af f];exact e)
   .exact .inr ⟨.inl q,j,u',by rw[af f];exact e⟩
 .obtain⟨v,A,k⟩:=c.slot i sl e;refine⟨v,A,?_⟩;cases sl with
  |val d' fr=>exact Is.view l n m p (λa z=>msk_still.mpr z) k
  |own ds fr=>obtain⟨a,vs,rfl,h1,B,C⟩:=k;exact⟨a,vs,rfl,l _ _ h1,B,IsAll.view l n m p (λa z=>msk_still.mpr z) C⟩
  |lP d'=>exact Is.view l n m p (λa z=>z) k
  |Ce d'=>exact IsSh.view l m k
 .obtain⟨q1,q2,D⟩:=c.cc i a h;exact⟨q1,(cT a).mpr q2,D.same λj e=>by rw[af (pn i a h)];exact e⟩
 .by_cases f:a=d
  .rw[f,ag];simp
  .rw[af f];exact c.zz a (z.resolve_right f)
def Rep.IC(c:Rep (hJ g d o u) M ρ env σ H)(hd:H d=some (.ba o u))(t:iJ u)(w:M d)(y:∀x,g.H₀ d=some x->x=u):Rep g M ρ env σ (aO H d u):=by
 have A:∀a vs,H a=some (.lst vs)->a≠d:=λa vs e z=>by subst z;rw[hd]at e;cases e
 have B:∀a j vs,H a=some (.ba j (.lst vs))->a≠d:=λa j vs e z=>by subst z;rw[hd]at e;cases e;exact t
 have C:∀a vs,H a=some (.tup vs)->a≠d:=λa vs e z=>by subst z;rw[hd]at e;cases e
 have m:∀a vs,H a=some (.lst vs)->aO H d u a=some (.lst vs):=λa vs e=>by rw[af (A a vs e)];exact e
 have p:∀a j vs,H a=some (.ba j (.lst vs))->aO H d u a=some (.ba j (.lst vs)):=λa j vs e=>by rw[af (B a j vs e)];exact e
 have n:∀a vs,H a=some (.tup vs)->aO H d u a=some (.tup vs):=λa vs e=>by rw[af (C a vs e)];exact e
 have r:∀a u',iJ u'->Rd H a u'->Rd (aO H d u) a u':=λa u' s e=>by
  by_cases ha:a=d
  .subst ha;rcases e with e|⟨j,e⟩
   .rw[hd]at e;cases e;exact s.elim
   .rw[hd]at e;cases e;exact .inl ag
  .exact nV e λj q=>by rw[af ha];exact q
 have l:Mu (aO H d u) d:=⟨u,ag,by cases u<;>first|exact True.intro|exact t.elim⟩;have pn:∀i a,ρ i a->a≠d:=λi a h z=>(c.cc i a h).1 (z▸w);refine⟨λb x e=>?_,λa ha=>?_,λa ha=>(c.vh a ha).imp (cT a).mp id,λa ha D=>?_,λi sl e=>?_,λi a h=>?_,c.apart,c.ow,c.len,λa z=>?_⟩
 .by_cases f:b=d
  .subst f;rw[y x e,ag]
  .rw[af f];exact c.same b x (by rw[mT f];exact e)
 .by_cases f:a=d
  .rw[f];exact l.some
  .rw[af f];exact c.jI a ha
 .by_cases f:a=d
  .rw[f];exact .inl l
  .rcases c.fl a ha ((cT a).mpr D)with q|⟨q,j,u',e⟩
   .exact .inl (q.same λj e=>by rw[af f];exact e)
   .exact .inr ⟨q.resolve_right f,j,u',by rw[af f];exact e⟩
 .obtain⟨v,E,k⟩:=c.slot i sl e;refine⟨v,E,?_⟩;cases sl with
  |val d' fr=>exact Is.view m p n r (λa z=>msk_still.mp z) k
  |own ds fr=>obtain⟨a,vs,rfl,h1,F,G⟩:=k;exact⟨a,vs,rfl,m _ _ h1,F,IsAll.view m p n r (λa z=>msk_still.mp z) G⟩
  |lP d'=>exact Is.view m p n r (λa z=>z) k
  |Ce d'=>exact IsSh.view m n k
 .obtain⟨q1,q2,I⟩:=c.cc i a h;exact⟨q1,(cT a).mp q2,I.same λj e=>by rw[af (pn i a h)];exact e⟩
 .by_cases f:a=d
  .rw[f];exact l.some
  .rw[af f];exact c.zz a (.inl z)
end
noncomputable def kD:br->D
 |.inl i=>.int i
 |.inr x=>.str x
def Oy(k:br):Is H m (kD k) (kV k):=by cases k<;>exact rfl
noncomputable def Oz(t:List (br×D)):D:=.dZ (t.map λp=>.inl p.1) (t.map Prod.snd)
section
variable{H:Hp}{m:Addr->Prop}
def REK(H:Hp)(m:Addr->Prop):List (br×V)->List (br×D)->Prop:=Paired λa b=>a.1=b.1/\Is H m b.2 a.2
theorem REK.fst(r:REK H m a b):a.map Prod.fst=b.map Prod.fst:=by
 induction r with
 |nil=>rfl
 |cons h _ c=>rw[T1,T1,c,h.1]
theorem REK.snd(r:REK H m a b):IsAll H m (b.map Prod.snd) (a.map Prod.snd):=by
 induction r with
 |nil=>rfl
 |cons h _ c=>exact⟨_,_,rfl,h.2,c⟩
def G3{b:Addr}{u:HO}{kvs:List (br×V)}{t:List (br×D)}(e:H b=some (.dK kvs))(r:REK H m kvs t)(a:m b):Is H m (Oz t) (.ref b):=by refine⟨b,_,rfl,⟨.inl ⟨kvs,.inl e,?_,rfl⟩,a⟩,r.snd⟩;have:=VD (List.map λk:br=>(Sum.inl k:DK)) r.fst;rw[Uo,Uo]at this;exact this.symm
end
section
variable{X:Cx}{E:XK}
def Rep.Nk(c:Rep g M ρ env σ H)(h:H b=some u)(j:¬iL u)(l:¬M b)(no:∀i,¬ρ i b)(x:g.H₀ b=none):Rep g M ρ env σ (aO H b u'):=by
 have kp:∀a o,H a=some o->(M a\/iL o)->aO H b u' a=some o:=λa o e z=>by
  rw[af]
  .exact e
  .rintro rfl;rcases z with z|z
   .exact l z
   .rw[h]at e;cases e;exact j z
 have n:∀i a o,H a=some o->(ρ i a\/iL o)->aO H b u' a=some o:=λi a o e z=>by
  rw[af]
  .exact e
  .rintro rfl;rcases z with z|z
   .exact no i z
   .rw[h]at e;cases e;exact j z
 have ne:∀a,M a->a≠b:=λa z e=>l (e▸z);have f:∀i a,ρ i a->a≠b:=λi a z e=>no i (e▸z);refine⟨λa o e=>?_,λa z=>by rw[af (ne a z)];exact c.jI a z,c.vh,λa z q=>(c.fl a z q).same λo e=>by grind,λi sl e=>?_,λi a z=>?_,c.apart,c.ow,c.len,λa z e=>?_⟩
 .rw[af (λz=>by grind)];exact c.same a o e
 .obtain⟨v,p,k⟩:=c.slot i sl e;refine⟨v,p,?_⟩;cases sl with
  |val d fr=>exact Is.mono (λa o e z=>kp a o e (z.imp (·.1) id)) (λ_ _ _ z=>z) k
  |own ds fr=>obtain⟨a,vs,rfl,h1,m,r⟩:=k;exact⟨a,vs,rfl,by rw[af (f i a ((m a).mpr rfl))];exact h1,m,IsAll.mono (λa o e z=>kp a o e (z.imp (·.1) id)) (λ_ _ _ z=>z) r⟩
  |lP d=>exact Is.mono (λa o e z=>n i a o e z) (λ_ _ _ z=>z) k
  |Ce d=>exact IsSh.mono (λa o e z=>kp a o e (.inr z)) (λa vs z e=>⟨vs,by grind⟩) (λ_ z=>z) k
 .obtain⟨s,t,w⟩:=c.cc i a z;exact⟨s,t,w.same λo e=>by grind⟩
 .by_cases ha:a=b
  .subst ha;rw[ag]at e;cases e
  .rw[af ha]at e;exact c.zz a z e
def qM(rk a:R):Res R:=match DP rk.d with
 |some k=>if a.d.flat then .ok (.jJ (Oz [(k,a.d)]))else .stuck
 |none=>.stuck
def D7{k v:Expr}{fk r:En->Res R}{I:Pos}(W:PD X E k fk)(Y:PD X E v r):PD X E (.Dict [some k] [v] I) (v2 qM fk r):=by
 obtain⟨tk,p1,s1⟩:=W;obtain⟨tv,p2,s2⟩:=Y;refine⟨_,Gc (CM p1 p2 Gb) rfl rfl (by simp) (by simp),λg M s env σ H Q i p b F=>?_⟩;have t:Same H (aO H b (.dK [])):=aP F;obtain⟨Z,zm,T⟩:=i.free F;have p:PostE X.mg E g M s env σ H Q ((fk env).bind λrk=>(r env).bind λq=>qM rk q):=p;refine s1 g M s env σ _ _ (i.grow t) ?_;cases J:fk env with
 |stuck=>rw[J]at p;exact p
 |exc c=>rw[J]at p;exact p
 |ok rk=>
  rw[J]at p;have p:PostE X.mg E g M s env σ H Q ((r env).bind λq=>qM rk q):=p;intro x M1 H1 e1 A K;obtain⟨L,x1,x1m,f,N⟩:=K.is A e1 (i.grow t).same;refine s2 g L s env σ H1 _ f ?_;cases qv:r env with
  |stuck=>rw[qv]at p;exact p
  |exc c=>rw[qv]at p;exact p
  |ok q=>
   rw[qv]at p;have p:PostE X.mg E g M s env σ H Q (qM rk q):=p;intro y M2 U e2 B O;obtain⟨C,D,x2m,j,P⟩:=O.is B e2 f.same;have l:U b=some (.dK []):=D.h _ _ (x1.h _ _ ag);have V:¬C b:=λz=>by
    rcases D.n b z with z|z
    .rcases x1.n b z with z|z
     .exact zm z
     .rw[ag]at z;cases z
    .rw[x1.h _ _ ag]at z;cases z
   unfold qM at p;cases S:DP rk.d with
   |none=>rw[S]at p;exact p.elim
   |some k=>
    rw[S]at p;dsimp only at p;by_cases G:q.d.flat=true
    .rw[T2 G]at p;have hx:x=kV k:=N.key S;refine⟨l,[(k,y)],by grind,by simp,?_⟩;have hs:Same H (aO U b (.dK (nQ [] [(k,y)]))):=λa o e=>by rw[af (ao e F)];exact D.h _ _ (x1.h _ _ (t a o e))
     refine p (.ref b) C _ ⟨λa z=>D.m a (x1.m a z),hs,λa z=>?_⟩ (j.Nk l (λz=>z) V T Z) ⟨λa=>a=b,λa e=>(by subst e;exact⟨V,F,⟨_,ag,True.intro⟩,T⟩),G3 (u:=.dK []) ag ?_ rfl⟩
     .rcases D.n a z with z|z
      .exact(x1.n a z).imp id λw=>t.free w
      .exact .inr (t.free (x1.h.free z))
     .refine .cons ⟨rfl,Is.flat G (Is.mono (λa o e z=>?_) (λ_ _ _ z=>z) (Is.flat (m':=λ_=>False) G P))⟩ .nil;rw[af]
      .exact e
      .rintro rfl;rw[l]at e;cases e;exact z.elim id id
    .rw[T9 G]at p;exact p.elim
end
noncomputable abbrev Rc:=Int×Int×Int
noncomputable def dd(l:List Int)(x:Int):List Int:=if x∈l then l else l++[x]
def OA(xs:List Int):List Int:=xs.foldl dd []
def g1(ts:List Rc):List Int:=OA (ts.map (·.1))
def g2(ts:List Rc)(x:Int):List Int:=OA ((ts.filter λt=>decide (t.1=x)).map (·.2.1))
noncomputable def g3(ts:List Rc)(x y:Int):List Int:=(ts.filter λt=>decide (t.1=x)&&decide (t.2.1=y)).map (·.2.2)
noncomputable def ik(i:Int):DK:=.inl (.inl i)
section
variable{X:Cx}
def Th(X:Cx)(Q:VK):VK:=λv H=>Q v H\/∃d o u,H d=some (.ba o u)/\iJ u/\(∀o v,X.H₀ d≠some (.ba o v))/\Q v (aO H d u)
def NC(X:Cx)(D:Ends):Ends where
 nx:=λσ H=>D.nx σ H\/∃d o u,H d=some (.ba o u)/\iJ u/\(∀o v,X.H₀ d≠some (.ba o v))/\D.nx σ (aO H d u)
 rt:=Th X D.rt
 bk:=D.bk
 ct:=D.ct
def D8{st:Stmt}(h:PS X st t):PS X st (λD σ H=>t (NC X D) σ H):=by
 intro aa s σ H D I q;refine bP (h aa s σ H _ I q) λf j r=>?_;cases f with
 |next=>
  obtain⟨a,H',b,r⟩:=r;rcases r with r|⟨d,o,u,e,c,g,r⟩
  .exact⟨a,H',b,r⟩
  .exact⟨a,_,b.JR e c g,r⟩
 |ret v=>
  obtain⟨x,a,H',b,i,r⟩:=r;rcases r with r|⟨d,o,u,e,c,g,r⟩
  .exact⟨x,a,H',b,i,r⟩
  .exact⟨x,a,_,b.JR e c g,i,r⟩
 |brk=>exact r
 |cont=>exact r
end
section
variable{g:Gd}{M:Addr->Prop}{ρ:Pr}{env:En}{σ:St}{H H1 H':Hp}{d:Addr}{o:Obj}{u:HO}{m m':Addr->Prop}
def Is.SK(hd:H d=some (.ba o u))(f:iJ u)(i:∀a,m a->m' a)(h:Is H m x v):Is (aO H d u) m' x v:=by
 refine Is.view (λa vs e=>?_) (λa c vs e=>?_) (λa vs e=>?_) (λa u' b e=>?_) i h
 .rw[af (λz=>by subst z;rw[hd]at e;cases e)];exact e
 .rw[af (λz=>by subst z;rw[hd]at e;cases e;exact f)];exact e
 .rw[af (λz=>by subst z;rw[hd]at e;cases e)];exact e
 .by_cases ha:a=d
  .subst ha;rcases e with e|⟨c,e⟩
   .rw[hd]at e;cases e;exact b.elim
   .rw[hd]at e;cases e;exact .inl ag
  .exact nV e λc q=>by rw[af ha];exact q
def Is.xy(hd:H d=some u)(c:iJ u)(f:∀a,m a->m' a)(h:Is H m x v):Is (aO H d (.ba o u)) m' x v:=by
 obtain⟨k1,k2,k3⟩:=tG c hd;refine Is.view (λa vs e=>?_) (λa b vs e=>?_) (λa vs e=>?_) (λa u' i e=>?_) f h
 .rw[af (k1 a vs e)];exact e
 .rw[af (k2 a b vs e)];exact e
 .rw[af (k3 a vs e)];exact e
 .by_cases ha:a=d
  .subst ha;rcases e with e|⟨b,e⟩
   .rw[hd]at e;cases e;exact .inr ⟨o,ag⟩
   .rw[hd]at e;cases e;exact c.elim
  .exact nV e λb q=>by rw[af ha];exact q
theorem IsAll.AC:∀{ds:List D}{vs:List V}{P:D->V->Prop},(∀x v,Is H m x v->Is H' m' x v)->IsAll H m ds vs->IsAll H' m' ds vs
 |[],_,_,_,h=>h
 |d::ds,_,P,f,h=>by obtain⟨v,r,e,h1,a⟩:=h;exact⟨v,r,e,f _ _ h1,IsAll.AC (P:=P) f a⟩
def D9(a:Rep g M ρ env σ H1)(b:H1 d=some u):∀x,g.H₀ d=some x->x=u:=λx e=>by have:=a.same d x e;rw[b]at this;cases this;rfl
end
def o8:List DK->List D->Option (List D)
 |[],[]=>some []
 |.inl k::r,x::ds=>(o8 r ds).map (.tup [kD k,x]::·)
 |_,_=>none
theorem wx:∀{kvs:List (br×V)}{ds xs:List D},o8 (kvs.map λp=>.inl p.1) ds=some xs->xs.length=kvs.length/\∀(i:Nat)(x:D),xs[i]?=some x->∃p y,kvs[i]?=some p/\ds[i]?=some y/\x=.tup [kD p.1,y]
 |[],[],_,e=>by cases e;exact⟨rfl,λi x e=>by simp at e⟩
 |[],_::_,_,e=>by cases e
 |_::_,[],_,e=>by cases e
 |p::r,y::ds,xs,e=>by
  rw[T1]at e;unfold o8 at e;obtain⟨h,e1,rfl⟩:=UT.mp e;obtain⟨l,f⟩:=wx e1;refine⟨by simp[l],λi x ex=>?_⟩;cases i with
  |zero=>simp at ex;subst ex;exact⟨p,y,rfl,rfl,rfl⟩
  |succ i=>obtain⟨d,g,a,b,c⟩:=f i x (by simpa using ex);exact⟨d,g,by simpa using a,by simpa using b,c⟩
def qN(hd:H d=some (.ba o u))(is:IsAll H m ds (kvs.map Prod.snd))(e0:o8 (kvs.map λp=>.inl p.1) ds=some xs):Walk (Ob d o u kvs) m H xs:=by
 obtain⟨l,f⟩:=wx e0;refine⟨λH' i x k e=>?_,λH' k=>⟨k d _ hd (.inr True.intro),by rw[l];exact TY _⟩⟩;have g:i<kvs.length:=by rw[<- l];exact(T7.mp e).1
 refine⟨⟨k d _ hd (.inr True.intro),g⟩,λy h z=>?_⟩;obtain⟨p,a,v,j,rfl,rfl,b⟩:=z;obtain⟨q,w,e1,e2,rfl⟩:=f i x e;rw[b]at e1;cases e1;have s:Same H' (aO H' p (.tup [kV a,v])):=aP j;obtain⟨r,c,n⟩:=(is.mono k λ_ _ _ z=>z:IsAll H' m ds (kvs.map Prod.snd)).get e2;rw[Ui,b]at c;cases c;exact⟨s,p,_,rfl,ag,_,_,rfl,Oy a,_,_,rfl,n.same s,rfl⟩
def Br(h:Is H m (.dZ ks ds) v)(g:∀k∈ks,∃a,k=.inl a):∃d kvs u,v=.ref d/\m d/\(u=.dK kvs\/(u=.dT []/\kvs=[]))/\Rd H d u/\ks=kvs.map (λp=>.inl p.1)/\IsAll H m ds (kvs.map Prod.snd):=by
 obtain⟨d,vs,rfl,⟨c,f⟩,b⟩:=h;rcases c with⟨kvs,e,rfl,rfl⟩|⟨kvs,e,rfl,rfl⟩
 .exact⟨d,kvs,_,rfl,f,.inl rfl,e,rfl,b⟩
 .cases kvs with
  |nil=>exact⟨d,[],_,rfl,f,.inr ⟨rfl,rfl⟩,e,rfl,b⟩
  |cons p r=>obtain⟨a,i⟩:=g (.inr p.1) (by simp);cases i
theorem wy:∀{ks:List DK}{ds xs:List D},o8 ks ds=some xs->∀k∈ks,∃a,k=.inl a
 |[],_,_,_,k,h=>by cases h
 |.inl a::r,x::ds,_,e,k,h=>by
  unfold o8 at e;obtain⟨y,e1,_⟩:=UT.mp e;rcases T6.mp h with h|h
  .exact⟨a,h⟩
  .exact wy e1 k h
 |.inl _::_,[],_,e,_,_=>by cases e
 |.inr _::_,_,_,e,_,_=>by simp[o8]at e
def ku:Res Fl->Res Fl
 |.ok (.nx e)=>.ok (.nx e)
 |.ok (.rt r)=>if r.d.flat then .ok (.rt (.val r.d true []))else .stuck
 |_=>.stuck
def zY(asg:D->Bool->En->Option En)(a:En->Res Fl)(env:En)(r:R):Res Fl:=match r.d with
 |.dZ ks ds=>match o8 ks ds with
  |some xs=>ku (j9 asg r.fr a xs (ba env r.al))
  |none=>.stuck
 |_=>.stuck
def D_(f:En->Res R)(asg:D->Bool->En->Option En)(a:En->Res Fl):En->Res Fl:=λenv=>(f env).bind (zY asg a env)
section
variable{X:Cx}{E:XK}{g:Gd}{M:Addr->Prop}{ρ:Pr}{env:En}{σ:St}{H:Hp}{D:Ends}{d:Addr}{o:Obj}{u:HO}
def yE(w:Rep g M ρ env σ H)(k:H d=some u)(q:iJ u)(y:M d)(l:∀o v,X.H₀ d≠some (.ba o v))(p:PostS X.mg E g M H D (ku r)):PostS X.mg E (hJ g d o u) M (aO H d (.ba o u)) (NC X D) r:=by
 have F:=D9 w k;have G:∀{j:Addr->Prop}{H':Hp},lR M (aO H d (.ba o u)) j H'->lR M H j (aO H' d u):=λ{j H'} f=>⟨f.m,λa x e z=>by
  by_cases ha:a=d
  .subst ha;rw[k]at e;cases e;exact ag
  .rw[af ha];exact f.h a x (by rw[af ha];exact e) z⟩
 cases r with
 |stuck=>exact p
 |exc c=>exact(show False from p).elim
 |ok r=>
  cases r with
  |nx e=>intro A j B H' f n;have i:H' d=some (.ba o u):=f.h d _ ag (.inl y);exact .inr ⟨d,o,u,i,q,l,p A j B _ (G f) (n.IC i q (f.m d y) F)⟩
  |bk e=>exact(show False from p).elim
  |ct e=>exact(show False from p).elim
  |rm r e=>exact(show False from p).elim
  |rt r=>
   unfold ku at p;by_cases t:r.d.flat=true
   .simp only[t,Vy]at p;intro v j H' f s _ fl;have i:H' d=some (.ba o u):=f.h d _ ag (.inl y);have is:∀{m:Addr->Prop},Is (aO H' d u) m r.d v:=λ{m}=>Is.flat t (Is.SK (m':=m) i q (λ_ z=>z.elim) (fl t));refine .inr ⟨d,o,u,i,q,l,p v j _ (G f) (λb x e=>?_) (λ_=>is) λ_=>is⟩;by_cases C:b=d
    .subst C;rw[F x e];exact ag
    .rw[af C];exact s b x (by rw[mT C];exact e)
   .simp only[t]at p;exact(show False from p).elim
def wz(p:PostS X.mg E g M H D (ku r)):PostS X.mg E g M H (NC X D) r:=by
 cases r with
 |stuck=>exact p
 |exc c=>exact(show False from p).elim
 |ok r=>
  cases r with
  |nx e=>exact λh i j H' f b=>.inl (p h i j H' f b)
  |bk e=>exact(show False from p).elim
  |ct e=>exact(show False from p).elim
  |rm r e=>exact(show False from p).elim
  |rt r=>
   unfold ku at p;by_cases a:r.d.flat=true
   .simp only[a,Vy]at p;exact λv i H' f s _ fl=>.inl (p v i H' f s (λ_=>Is.flat a (fl a)) λ_=>Is.flat a (fl a))
   .simp only[a]at p;exact(show False from p).elim
def Ea(Q:PassesOwn (model X.prog X.w) X.A X.env X.xe)(R:X.calm=true)
 (S:PD X E l f) (T:FG X ix (.Tuple es k0 rC) asg) (U:uq X E body fb) (j:autoParam (attributeBase l "items" X.env (eval l X.env)=eval l X.env) aM) (k:autoParam ((apos.endLine==cpos.line)=true) aM)
 (hs:autoParam (∀x,foldedSetIterable (.Call (.Attribute l "items" apos) [] [] cpos) X.env x=pure x) am):zN X E (.For (.Tuple es k0 rC) (.Call (.Attribute l "items" apos) [] [] cpos) body [] pos) (D_ f asg fb):=by
 obtain⟨Z,p1,s1⟩:=S;obtain⟨w,p2,s2⟩:=T;obtain⟨tb,p3,J⟩:=U;refine⟨_,D8 (gS Q R (Dk p1 j k) p2 p3 hs),λg M ρ env σ H D m p=>?_⟩;refine s1.sv m p λr v V B e1 n ro K=>?_;obtain⟨M1,x1,C,h,F⟩:=ro.is n e1 m.same;obtain⟨M2,W,L,e,Y,_,_⟩:=Rep.ba r.al h;have s:Is B (f9 g M2 r.fr) r.d v:=Is.frozen h L Y F;have b:=PostS.ba (⟨λa z=>L a (C a z),λ_ _ q _=>q⟩ : lR V B M2 B) K;clear K p;unfold zY at b;cases N:r.d with
 |dZ ks ds=>
  rw[N]at b s;dsimp only at b;cases t:o8 ks ds with
  |none=>rw[t]at b;exact b.elim
  |some xs=>
   rw[t]at b;dsimp only at b;obtain⟨d,kvs,u,rfl,y,O,c,rfl,i⟩:=Br s (wy t);have y:M2 d:=y.1;have G:iJ u:=by rcases O with rfl|⟨rfl,_⟩<;>exact True.intro
   refine⟨d,kvs,u,rfl,O,?_⟩;rcases c with c|⟨o,c⟩
   .right;refine⟨c,λo I=>qI (E:=E) (g:=hJ g d o u) (fr:=r.fr) (xs:=xs) s2 J (e.xy c G y) (qN ag ?_ t) (yE e c G y I b)⟩;exact IsAll.AC (P:=λ_ _=>True) (λx w=>Is.xy c G λ_ z=>msk_still.mpr z) i
   .left;exact⟨o,c,qI (E:=E) (g:=g) (fr:=r.fr) (xs:=xs) s2 J e (qN c i t) (wz b)⟩
 |_=>rw[N]at b;exact b.elim
end
open Classical in
section
variable{X:Cx}{E:XK}
def pG(rs:List R):Res R:=match rs.map R.d with
 |[.int j]=>if 0<=j/\j<=1000 then .ok (.new (gp 0 j.toNat) true)else .stuck
 |_=>.stuck
def Bs(q:X.calm=true)(f:Gl X "list") (h:X.mg "list"=none) (i:bootBuiltins "list"=some (.type "list")) (s:Gl X "range") (u:X.mg "range"=none) (ha:Dq X E [a] fs) (hs:autoParam (starEach [a] X.env=[(false,eval a X.env)]) aM)
 (m:autoParam (starEach [.Call (.Name "range" p2) [a] [] pos2] X.env=[(false,eval (.Call (.Name "range" p2) [a] [] pos2) X.env)]) aM):PD X E (.Call (.Name "list" p) [.Call (.Name "range" p2) [a] [] pos2] [] pos) (rH pG fs):=by
 obtain⟨t,p1,s1⟩:=ha;refine⟨_,A4 q f h i s u p1 hs m,λg M z env σ H Q n p=>s1.gh n p λrs vs M1 A e1 b o q1=>?_⟩;unfold pG at q1;generalize rs.map R.d=ds at o q1;split at q1
 .rename_i j;obtain⟨v,w,rfl,k1,k2⟩:=o;cases k1;cases k2;by_cases c:0<=j/\j<=1000
  .rw[T2 c]at q1;refine⟨j,rfl,c.1,c.2,λl x=>?_⟩;have e:((List.range j.toNat).map λk=>(V.int (k:Nat)))=((List.range j.toNat).map λ(k:Nat)=>(V.int (0+(k:Nat)))):=Vb λk _=>by grind
   rw[e];refine q1.new b x ?_;unfold gp;generalize List.range j.toNat=l0;induction l0 with
   |nil=>exact rfl
   |cons k r y=>exact⟨_,_,rfl,rfl,y⟩
  .rw[T9 c]at q1;exact q1.elim
 .exact q1.elim
def mU(i:Nat)(f:En->Res R):En->Res Fl:=λenv=>(f env).bind λr=>if i<env.length then .ok (.nx ((ba env r.al).set i (some (.val r.d r.fr))))else .stuck
def hV(w:X.N.Nodup)(c:X.N[i]?=some x)(y:J2 X.env.scope x)(h:PD X E e f)(hs:autoParam (swapsWith e (some (.Name x pos')) pos.line X.env=pure false) aM)
 (A:autoParam (X.fn x=true\/X.env.scope.names.lookup x=some .local) ae):zN X E (.Assign [.Name x pos'] e pos) (mU i f):=by
 obtain⟨t,p1,s1⟩:=h;refine⟨_,jb w c y p1 hs A,λg M G env σ H D j p=>?_⟩;refine s1.sv j p λr v I H' e k ro n=>?_;by_cases c:i<env.length
 .rw[T2 c]at n;obtain⟨M2,J,o,b,s⟩:=ro.is k e j.same;obtain⟨B,C,u,l,F,_,_⟩:=Rep.ba r.al b;have m:=l.put (i:=i) (sl:=.val r.d r.fr) (T:=λ_=>False) (by rw[ut];exact c) (Is.frozen b u F s) (λ_ z=>z.elim) λ_ z=>z.elim;exact n _ B _ H' ⟨λa z=>u a (o a z),λ_ _ q _=>q⟩ m
 .rw[T9 c]at n;exact n.elim
def qv(i:Nat)(a:autoParam (X.N[i]?=some x) aM)(b:autoParam (Q5 X.env.scope x) XN._auto_1)(hd:autoParam (dB x) ab)
 (c:autoParam ((x==("__classdict__" : Str))=false) ab):PD X E (.Name x pos) (aj i):=KP (pv i a b hd c)
end
end L3
namespace L3
open PySem PySem.Spec PyProof.Rows L2
section
variable{X:Cx}{E:XK}
def Eb:R->R->Res R:=oI (λi j=>decide (0<=j)&&decide (j<=1000)&&decide (i.natAbs<2000000)) λi j=>.int (i^j.toNat)
def Ec:qD X E (binaryOp .Pow) Eb:=tf _ _ Ki (λi j h=>by simp only[Uv,Vu]at h;exact⟨h.1.1,by lia,Nat.lt_trans h.2 (by decide)⟩) λ_ _ _ _=>rfl
end
section
def zZ(a b:Str):Prop:=0<b.length/\a.length<=100000/\(Txt.split a b).length<=100000/\(Builtin.Str.partsBetween a (Builtin.Str.occurrences a b 0 a.length (a.length+1)) b.length).length<=100000
instance (a b:Str):Decidable (zZ a b):=by unfold zZ;infer_instance
end
open Classical in
section
def vJ{kvs:List (br×V)}(h:c9 kvs k=none):ce kvs k y=kvs++[(k,y)]:=by unfold ce;rw[jY,h,T9 (by simp)]
end
section
open Classical in
end
noncomputable def qO(k:Int):List Int->List Int
 |[]=>[k]
 |h::t=>if k=h then h::t else if k<h then k::h::t else h::qO k t
def i6:List Int->List Int
 |[]=>[]
 |k::ks=>qO k (i6 ks)
def Ed(r:R):Res R:=match r.d with
 |.lst ds=>match hI ds with
  |some is=>if is.length<=63 then .ok (.new ((i6 is).map .int) true)else .stuck
  |none=>.stuck
 |_=>.stuck
def Le(f:En->Res R):En->Res R:=λenv=>(f env).bind Ed
theorem qP(k x:Int):∀l,x∈qO k l↔x=k\/x∈l
 |[]=>by simp[qO]
 |h::t=>by
  unfold qO;split
  .rename_i e;subst e;simp
  .split
   .simp
   .rw[T6,qP k x t,T6]
    grind
theorem z4(k:Int):∀l:List Int,l.Pairwise (·< ·)->(qO k l).Pairwise (·< ·)
 |[],_=>by simp[qO]
 |h::t,p=>by
  have a:=UP.mp p;unfold qO;split
  .exact p
  .split
   .rename_i h1 b;refine UP.mpr ⟨λx c=>?_,p⟩
    grind
   .rename_i h1 b;refine UP.mpr ⟨λx c=>?_,z4 k t a.2⟩
    grind [qP]
theorem n8(x:Int):∀ks,x∈i6 ks↔x∈ks
 |[]=>Iff.rfl
 |k::ks=>by unfold i6;rw[qP,n8 x ks,T6]
theorem wB:∀ks,(i6 ks).Pairwise (·< ·)
 |[]=>List.Pairwise.nil
 |k::ks=>by unfold i6;exact z4 k _ (wB ks)
theorem oW:∀(a b:List Int),a.Pairwise (·< ·)->b.Pairwise (·< ·)->(∀x,x∈a↔x∈b)->a=b
 |[],[],_,_,_=>rfl
 |[],y::b,_,_,h=>by have:=(h y).mpr (by simp);cases this
 |x::a,[],_,_,h=>by have:=(h x).mp (by simp);cases this
 |x::a,y::b,f,g,h=>by
  have c:=UP.mp f;have d:=UP.mp g;have e:x=y:=by
   have h1:=(h x).mp (by simp);have i:=(h y).mpr (by simp)
   grind
  subst e;rw[oW a b c.2 d.2 λz=>?_]
  grind
section
variable{X:Cx}{E:XK}
def rW(P:X.calm=true)(h:PD X E e f)
 (y:Gl X x1) (A:X.mg x1=none) (B:bootBuiltins x1=some (.builtin "sorted")) (C:Gl X x2) (D:X.mg x2=none) (F:bootBuiltins x2=some (.type "set"))
 (G:autoParam (x1≠"__name__") ab) (j:autoParam (dB x1) ab) (I:autoParam (x2≠"__name__") ab) (k:autoParam (dB x2) ab)
 (m:autoParam (starEach [e] X.env=(false,eval e X.env)::starEach [] X.env) aM) (n:autoParam (bT X pos2 []) aM)
 (o:autoParam (starEach [.Call (.Name x2 p2) [e] [] pos2] X.env=(false,eval (.Call (.Name x2 p2) [e] [] pos2) X.env)::starEach [] X.env) aM) (q:autoParam (bT X pos1 []) aM) :
 PD X E (.Call (.Name x1 p1) [.Call (.Name x2 p2) [e] [] pos2] [] pos1) (Le f):=by
 obtain⟨t,p1,s1⟩:=h;refine⟨_,dk (rQ P) y A B (ah (nO (yn P) C D F (ah p1 aG m) I k m n) aG o) G j o q,λg M ρ env σ H Q J p=>?_⟩;refine s1.gh J p λr v M1 s e1 i R q1=>?_;unfold Ed at q1;cases S:r.d with
 |lst ds=>
  rw[S]at q1 R;dsimp only at q1;cases K:hI ds with
  |none=>rw[K]at q1;exact q1.elim
  |some is=>
   rw[K]at q1;dsimp only at q1;by_cases x:is.length<=63
   .rw[T2 x]at q1;obtain⟨a,vs,rfl,h1,W⟩:=R.rd;have Y:vs=is.map V.int:=by rw[IsAll.ints W K];unfold iK;rw[Uo];rfl
    rw[Y]at h1;refine⟨a,is,rfl,h1,by lia,λb es its Z T v=>?_⟩;rw[<- T,TZ]at x;refine⟨b,es,its,rfl,ag,v,x,λl ks c hm hw=>?_⟩;rw[T]at hm;have L:l≠b:=λz=>by rw[z,ag]at c;cases c
    have u:s l=none:=by rw[af L]at c;exact c
    have N:Same s (aO s b (.ext λh=>SetAt X.w h b es)):=aP Z;have O:Same (aO s b (.ext λh=>SetAt X.w h b es)) (aO (aO s b (.ext λh=>SetAt X.w h b es)) l (.lst (ks.map V.int))):=aP c;have U:=N.trans O;obtain⟨z0,zm,zo⟩:=i.free u;refine q1 _ M1 _ ⟨λ_ z=>z,U,λ_ z=>.inl z⟩ (i.grow U) ⟨l,_,rfl,ag,zm,u,zo,?_⟩
    grind [i6,oW,wB,n8,l_]
   .rw[T9 x]at q1;exact q1.elim
 |_=>rw[S]at q1;exact q1.elim
end
noncomputable abbrev IP:=Int×Int
noncomputable def dp(l:List IP)(x:IP):List IP:=if x∈l then l else l++[x]
def h1(ts:List Rc):List IP:=(ts.map λt=>(t.1,t.2.1)).foldl dp []
end L3
namespace L2
open PySem PySem.Spec PySem.Calls PyProof.Rows
section
variable{X:Cx}
def Bt:CallR X (.builtin "len") (λxs H Q=>∃(d:Addr)(kvs:List (br×V))(u:HO),xs=[.ref d]/\(u=.dK kvs\/(u=.dT []/\kvs=[]))/\Rd H d u/\kvs.length<=sizeLine/\Q (.int kvs.length) H):=by
 intro aa s σ H xs us Q I r h;obtain⟨d,kvs,u,rfl,e,b,hz,q⟩:=h;obtain⟨w,rfl,f⟩:=gm r;cases f;have c:=b.ok I.aT;have key:(d==sysModules)=false/\∃vs,KV kvs vs/\s.heap.DictOf (aF X.prog X.w) d vs:=by
  rcases e with rfl|⟨rfl,rfl⟩
  .obtain⟨z,hd,vs,a,dd⟩:=c;exact⟨hd,vs,a,dd⟩
  .obtain⟨hd,dd⟩:=lX c;exact⟨hd,[],.nil,dd⟩
 obtain⟨hd,vs,a,dd⟩:=key;refine call_len_dict hd dd (by rw[<- a.length];rw[Ux]at hz;lia) ?_;exact⟨.int kvs.length,H,I.tok _,⟨_,by rw[a.length]⟩,q⟩
end
end L2
namespace L3
open PySem PySem.Spec PyProof.Rows L2
def G4(N:Nat):List R->Res R
 |[r]=>match r.d with
  |.lst ds=>match d9 ds with
   |some ks=>if decide (ks.length<=N)&&ks.all (λk=>!k.isEmpty)&&decide ks.Nodup then .ok (.new ((fG ks).map iY) true)else .stuck
   |none=>.stuck
  |_=>.stuck
 |_=>.stuck
def ND:List R->Res R:=G4 63
section
variable{X:Cx}{E:XK}
def wC(y:N<=300)(c:mJ X.prog X.w N):mR X E (.builtin "sorted") (G4 N):=by
 refine⟨_,rR y c,λg M A env σ H Q rs vs e i p=>?_⟩;rcases rs with _|⟨r,_|_⟩
 .exact p.elim
 rotate_left
 .exact p.elim
 unfold G4 at p;dsimp only at p;split at p
 .rename_i ds q;cases f:d9 ds with
  |none=>rw[f]at p;exact p.elim
  |some ks=>
   rw[f]at p;dsimp only at p;split at p
   .rename_i n;simp only[Uv,Vu,UW]at n;obtain⟨⟨o,h⟩,nd⟩:=n;obtain⟨v,w,rfl,b,B⟩:=i;cases B;have b:Is H (vmsk g M (bZ [r]) A (cO [r])) r.d v:=b;rw[q]at b;obtain⟨a,vs,rfl,h1,C⟩:=b.rd;obtain⟨its,s,t⟩:=C.d9 f;have j:=tF s;refine⟨a,vs,its,rfl,h1,s,by grind,λx m z=>?_,by grind,λl D o u G=>?_⟩
    .have:x.1∈ks:=by rw[<- t];exact T_.mpr ⟨x,m,rfl⟩
     have:=h _ this;rw[z]at this;simp at this
    .have F:D.map (·.1)=fG ks:=by refine mj _ _ (by grind) (pE ks) λk=>?_;rw[iZ,<- t,(u.map (·.1)).mem_iff]
     rw[<- F,Uo]at p;exact p.new e o (kq (λx m=>j x (u.mem_iff.mp m)))
   .exact p.elim
 .exact p.elim
def bh(h:PE X o (aI i)):PD X E (.Subscript o (.Constant (.int k) j pos') pos) (bE i (vC (.int k))):=nX h aA (λ_ _=>rfl)
def yF:mR X E (.builtin "sorted") ND:=wC (by decide) zE
end
def Lf{K KK:XE}{mg:Str->Option XG}{x:Str}{st:Stmt}{ps:List Str}{f:Addr}{oc:XG}{od an:Option Addr}{osl:Array (Option XG)}{kV doc pm cdv ct:XG}(U:xI K KK)
 (l:K.lookup f=some ⟨oc,od,.func (fnOf x x (d4 st) (c_ st) (ay st) .none kV doc pm an cdv ct),osl⟩) (c:codeIn K cdv x=true) (g:mg x=some (.ref f))
 (h:∀(kV doc pm:XG)(an:Option Addr)(cdv ct:XG)(us:List XG),us.length=ps.length->bindArgs (fnOf x x (d4 st) (c_ st) (ay st) .none kV doc pm an cdv ct) ⟨us,[]⟩=pure (ps.zip us)) :
 Fn KK mg x st ps f (fnOf x x (d4 st) (c_ st) (ay st) .none kV doc pm an cdv ct):=
 have F:FM KK x x st f _:=CT (U.look _ _ l (λ_ _ z=>nomatch z)) (U.code c) (U.keep l)
 ⟨F,F.binds h,g⟩
section
variable{X:Cx}{E:XK}{CX:AQ}{k:Nat}{f:Addr}{fd:FuncData}{ps:List Str}{F:List D->Res R}{x:Str}{e:Expr}{es:List Expr}{fs:En->Res (List R)}{p pos:Pos}
def aZ{st:Stmt}(G:bH X.prog X.w X.K X.mg X.base CX k f fd ps (mQ X.mg ps.length F))(c:dQ k X.A)(d:Gl X x)(h:Fn X.K X.mg x st ps f fd)(g:gU CX X E)
 (ha:Dq X E (e::es) fs) (i:∀env rs,fs env=.ok rs->rs.length=ps.length) (a:autoParam (dB x) ab) (j:autoParam (sE X e es) aM) (b:autoParam (bT X pos es) aM) :
 PD X E (.Call (.Name x p) (e::es) [] pos) (bS F fs):=GJ G c d h.gl h.fu.kp h.bi g ha i a j b
end
def yG(h:Is H m (.dZ ks ds) v)(g:∀k∈ks,∃a,k=.inr a):∃d kvs u,v=.ref d/\m d/\(u=.dT kvs\/(u=.dK []/\kvs=[]))/\Rd H d u/\ks=kvs.map (λp=>.inr p.1)/\IsAll H m ds (kvs.map Prod.snd):=by
 obtain⟨d,vs,rfl,⟨c,f⟩,b⟩:=h;rcases c with⟨kvs,e,rfl,rfl⟩|⟨kvs,e,rfl,rfl⟩
 .cases kvs with
  |nil=>exact⟨d,[],_,rfl,f,.inr ⟨rfl,rfl⟩,e,rfl,b⟩
  |cons p r=>obtain⟨a,i⟩:=g (.inl p.1) (by simp);cases i
 .exact⟨d,kvs,_,rfl,f,.inl rfl,e,rfl,b⟩
def d_:List R->Res R
 |[r,q]=>match r.d,q.d with
  |.int i,.int j=>if 0<j/\j<1073741824 then .ok (jh (.tup [.int (i/j),.int (i%j)]) true [])else .stuck
  |_,_=>.stuck
 |_=>.stuck
section
variable{X:Cx}{E:XK}
def dS:mR X E (.builtin "divmod") d_:=by
 refine⟨_,vE,λg M n env σ H Q rs vs f i p=>?_⟩;rcases rs with _|⟨r,_|⟨q,_|_⟩⟩
 .exact p.elim
 .exact p.elim
 rotate_left
 .exact p.elim
 obtain⟨v,_,rfl,h,w,_,rfl,j,e⟩:=i;cases e;unfold d_ at p;dsimp only at p h j;cases c:r.d with
 |int a=>
  cases k:q.d with
  |int b=>
   rw[c,k]at p;rw[c]at h;rw[k]at j;dsimp only at p;cases h;cases j;by_cases l:0<b/\b<1073741824
   .rw[T2 l]at p;exact⟨a,b,rfl,l,λt m=>p.tup f m ⟨_,_,rfl,rfl,_,_,rfl,rfl,rfl⟩⟩
   .rw[T9 l]at p;exact p.elim
  |_=>rw[c,k]at p;exact p.elim
 |_=>rw[c]at p;exact p.elim
end
def Bu{X:Cx}{E:XK}{st:Stmt}:zN X E st (λ_=>.stuck):=⟨λ_ _ _=>False,λ_ _ _ _ _ _ h=>h.elim,λ_ _ _ _ _ _ _ _ p=>p⟩
end L3
namespace Pz
section
variable{κ α:Type}[DecidableEq κ]
noncomputable abbrev MD(κ α:Type):=List (κ×List α)
def MD.get(d:MD κ α)(k:κ):List α:=((d.find? λx=>decide (x.1=k)).map (·.2)).getD []
def MD.has(d:MD κ α)(k:κ):Bool:=d.any λx=>decide (x.1=k)
def MD.app(d:MD κ α)(k:κ)(v:α):MD κ α:=if d.has k then d.map (λx=>if x.1=k then(x.1,x.2++[v])else x)else d++[(k,[v])]
def MD.drop(d:MD κ α)(k:κ):MD κ α:=d.filter λx=>decide (x.1≠k)
def MD.flat(d:MD κ α):List α:=d.flatMap (·.2)
abbrev MD.keys(d:MD κ α):List κ:=d.map (·.1)
structure MD.Ok(d:MD κ α):Prop where
 nk:d.keys.Nodup
 ne:∀x∈d,x.2≠[]
theorem dt(x:κ×List α)(d:MD κ α)(k:κ):MD.get (x::d) k=if x.1=k then x.2 else MD.get d k:=by grind [MD.get]
def has_iff{d:MD κ α}{k:κ}:d.has k=true↔k∈d.keys:=by
 unfold MD.has
 grind
theorem Ee{d:MD κ α}{k:κ}(h:k∉d.keys):d.get k=[]:=by
 induction d with
 |nil=>rfl
 |cons x r a=>grind [dt]
def G5{d:MD κ α}(nd:d.keys.Nodup){k:κ}{l:List α}(h:(k,l)∈d):d.get k=l:=by
 induction d with
 |nil=>cases h
 |cons x r a=>grind [dt]
def uC{d:MD κ α}{k:κ}{v:α}(h:v∈d.get k):(k,d.get k)∈d:=by
 induction d with
 |nil=>cases h
 |cons x r a=>grind [dt]
def uD{d:MD κ α}{k:κ}{v:α}(h:k∉d.keys):d.map (λx=>if x.1=k then(x.1,x.2++[v])else x)=d:=by induction d<;>grind
def Ef(d:MD κ α)(k:κ)(v:α):(d.app k v).keys=if k∈d.keys then d.keys else d.keys++[k]:=by
 unfold MD.app;by_cases h:k∈d.keys
 .rw[T2 (has_iff.mpr h),T2 h];unfold MD.keys;rw[Uo];exact Vb λx _=>by grind
 .rw[T9 (λq=>h (has_iff.mp q)),T9 h];unfold MD.keys;rw[UO];rfl
def n9{d:MD κ α}(O:d.Ok)(k:κ)(v:α):(d.app k v).Ok:=by
 constructor
 .rw[Ef];split
  .exact O.nk
  .rename_i h;exact V4.mpr ⟨O.nk,by simp,λa ha b g e=>by grind⟩
 .intro x c;unfold MD.app at c;split at c
  .obtain⟨y,f,rfl⟩:=T_.mp c;split
   .simp
   .exact O.ne y f
  .rcases Ug.mp c with h|h
   .exact O.ne x h
   .rw[Uh]at h;subst h;simp
theorem o9{d:MD κ α}{k:κ}{l:List α}(h:k∉d.keys):MD.get (d++[(k,l)]) k=l:=by
 grind [MD.get]
theorem rX{d:MD κ α}{k a:κ}{l:List α}(h:k≠a):MD.get (d++[(k,l)]) a=d.get a:=by
 grind [MD.get]
def uE{d:MD κ α}{k:κ}{v:α}(h:k∈d.keys):MD.get (d.map (λx=>if x.1=k then(x.1,x.2++[v])else x)) k=d.get k++[v]:=by
 induction d with
 |nil=>cases h
 |cons x r a=>grind [dt]
def yH{d:MD κ α}{k a:κ}{v:α}(h:k≠a):MD.get (d.map (λx=>if x.1=k then(x.1,x.2++[v])else x)) a=d.get a:=by
 induction d with
 |nil=>rfl
 |cons x r b=>grind [dt]
theorem pH(d:MD κ α)(k:κ)(v:α)(a:κ):(d.app k v).get a=if k=a then d.get k++[v]else d.get a:=by
 unfold MD.app;by_cases h:k∈d.keys
 .rw[T2 (has_iff.mpr h)];by_cases e:k=a
  .subst e;rw[T2 rfl,uE h]
  .rw[T9 e,yH e]
 .rw[T9 (λq=>h (has_iff.mp q))]
  grind [o9,Ee,rX]
def fY{d:MD κ α}(nd:d.keys.Nodup)(k:κ)(v:α):(d.app k v).flat.Perm (v::d.flat):=by
 unfold MD.app;by_cases h:k∈d.keys
 .rw[T2 (has_iff.mpr h)];induction d with
  |nil=>cases h
  |cons x r b=>
   have a:=UN.mp nd;unfold MD.flat at b ⊢;rw[T1,Wn,Wn];by_cases e:x.1=k
   .subst e;rw[T2 rfl,uD a.1];show((x.2++[v])++_).Perm _;rw[Wm];exact Xw
   .rw[T9 e];rcases T6.mp h with q|q
    .exact(e q.symm).elim
    .exact((VQ _).append (b a.2 q)).trans Xw
 .rw[T9 (λq=>h (has_iff.mp q))];unfold MD.flat;rw[Wy];show(_++([v]++[])).Perm _;rw[Wf];exact List.perm_append_singleton _ _
def Bv(d:MD κ α)(k:κ):(d.drop k).keys=d.keys.filter λx=>decide (x≠k):=by unfold MD.drop MD.keys;rw[List.filter_map];rfl
def z5{d:MD κ α}(O:d.Ok)(k:κ):(d.drop k).Ok:=⟨by rw[Bv];exact List.Pairwise.filter _ O.nk,λx a=>O.ne x (Up.mp a).1⟩
theorem Bw{d:MD κ α}{k:κ}(h:k∉d.keys):d.drop k=d:=by induction d<;>grind [MD.drop]
def n_{d:MD κ α}(nd:d.keys.Nodup)(k:κ):d.flat.Perm (d.get k++(d.drop k).flat):=by
 induction d with
 |nil=>exact VQ _
 |cons x r b=>
  have a:=UN.mp nd;rw[dt];by_cases e:x.1=k
  .subst e;rw[T2 rfl];have:MD.drop (x::r) x.1=r:=by grind [MD.drop,Bw]
   rw[this];exact VQ _
  .rw[T9 e];have:MD.drop (x::r) k=x::MD.drop r k:=by grind [MD.drop]
   rw[this];unfold MD.flat at b ⊢;rw[Wn,Wn];refine((VQ _).append (b a.2)).trans ?_;rw[<- Wm,<- Wm];exact List.perm_append_comm.append_right _
def mem_flat{d:MD κ α}{v:α}:v∈d.flat↔∃x∈d,v∈x.2:=Xx
def mV(d:MD κ α){k:κ}{v:α}(h:v∈d.get k):v∈d.flat:=mem_flat.mpr ⟨_,uC h,h⟩
def pI(d:MD κ α)(k:κ):(d.get k).length<=d.flat.length:=by
 induction d with
 |nil=>exact TY _
 |cons x r a=>grind [dt,MD.flat]
def jj{d:MD κ α}(O:d.Ok):d.length<=d.flat.length:=by
 have:∀d:MD κ α,(∀x∈d,x.2≠[])->d.length<=d.flat.length:=by
  intro d;induction d with
  |nil=>intro _;exact TY _
  |cons x r a=>
   intro h;have h1:=a λy b=>h y (T3 _ b);have c:0<x.2.length:=Wz.mpr (h x T5);unfold MD.flat at h1 ⊢
   grind
 exact this d O.ne
end
end Pz
namespace Pz
noncomputable def lo:List Int->Int
 |[]=>0
 |x::r=>r.foldl (λa b=>if b<a then b else a) x
theorem yI:∀(r:List Int)(x:Int),r.foldl (λa b=>if b<a then b else a) x∈x::r/\∀y∈x::r,r.foldl (λa b=>if b<a then b else a) x<=y
 |[],x=>by grind
 |z::r,x=>by
  obtain⟨h1,c⟩:=yI r (if z<x then z else x);rw[VC];constructor
  .grind
  .intro y d;have e:=c _ T5
   grind
def Eg(h:l≠[]):lo l∈l:=by
 cases l with
 |nil=>exact(h rfl).elim
 |cons x r=>exact(yI r x).1
def Eh(h:y∈l):lo l<=y:=by
 cases l with
 |nil=>cases h
 |cons x r=>exact(yI r x).2 y h
structure vk(pile:Int->Int->Int):Prop where
 nn:∀{p l:Int},0<=p->0<=l->0<=pile p l
 ch:∀{p l:Int},0<=p->0<=l->∀k:Nat,pile p l<=k↔p/2^k=l/2^k
section
variable{pile:Int->Int->Int}(P:vk pile){p l m r:Int}
include P
def vk.zero(a:0<=p)(b:0<=l):pile p l=0↔p=l:=by
 have h1:=P.nn a b;have c:=P.ch a b 0
 grind
def vk.lt(a:0<=l)(f:l<=p)(c:l<=r)(h:pile p l<pile r l):p<r:=by
 have d:0<=p:=V8 a f;have g:0<=r:=V8 a c;obtain⟨k,j⟩:=Vm (P.nn d a);have e1:=(P.ch d a k).mp (by lia);have e2:¬r/2^k=l/2^k:=λe=>by have:=(P.ch g a k).mpr e;lia
 have b:(0:Int)<2^k:=Int.pow_pos (by decide);have n:=Int.ediv_le_ediv b c;refine Int.not_le.mp λi=>?_;have e4:=Int.ediv_le_ediv b i;lia
def vk.same(c:0<=l)(f:l<=m)(g:l<=r)(h:pile m l<pile r l):pile r m=pile r l:=by
 have m0:0<=m:=V8 c f;have d:0<=r:=V8 c g;have key:∀j:Nat,pile r m<=j↔pile r l<=j:=by
  intro j;rw[P.ch d m0,P.ch d c];by_cases n:pile m l<=j
  .rw[(P.ch m0 c j).mp n]
  .have hd:∀{a b:Int}{i:Nat},a/2^j=b/2^j->a/2^(j+i)=b/2^(j+i):=by intro a b i e;rw[Int.pow_add,<- Int.ediv_ediv_of_nonneg (WB (Int.pow_pos (by decide))),<- Int.ediv_ediv_of_nonneg (WB (Int.pow_pos (by decide))),e]
   obtain⟨k,o⟩:=Vm (P.nn m0 c);obtain⟨i,rfl⟩ : ∃i,k=j+i:=⟨k-j,by lia⟩;constructor<;>intro e<;>exfalso
   .have e1:=hd (i:=i) e;rw[(P.ch m0 c (j+i)).mp (by lia)]at e1;have:=(P.ch d c (j+i)).mpr e1;lia
   .have:=(P.ch d c j).mpr e;lia
 obtain⟨a,ha⟩:=Vm (P.nn d m0);obtain⟨b,q⟩:=Vm (P.nn d c);have h1:=key a;have s:=key b;lia
end
section
variable{α:Type}{pile:Int->Int->Int}
abbrev Q(α:Type):=MD Int (Int×α)
structure xM(pile:Int->Int->Int) (last:Int) (d:Q α):Prop where
 ok:d.Ok
 l0:0<=last
 at_:∀x∈d,∀y∈x.2,x.1=pile y.1 last/\last<=y.1
def xM.add(h:xM pile last d)(a:α)(b:last<=p):xM pile last (d.app (pile p last) (p,a)):=by
 refine⟨n9 h.ok _ _,h.l0,λx hx y hy=>?_⟩;unfold MD.app at hx;split at hx
 .obtain⟨z,hz,rfl⟩:=T_.mp hx;by_cases e:z.1=pile p last
  .rw[T2 e]at hy ⊢;rcases Ug.mp hy with hy|hy
   .exact h.at_ z hz y hy
   .rw[Uh]at hy;subst hy;exact⟨e,b⟩
  .rw[T9 e]at hy ⊢;exact h.at_ z hz y hy
 .rcases Ug.mp hx with hx|hx
  .exact h.at_ x hx y hy
  .grind
def di(pile:Int->Int->Int)(last:Int)(d:Q α)(l:List (Int×α)):Q α:=l.foldl (λd x=>d.app (pile x.1 last) x) d
theorem xM.di:∀{l:List (Int×α)}{d:Q α},xM pile last d->(∀x∈l,last<=x.1)->xM pile last (di pile last d l)
 |[],d,h,_=>h
 |x::l,d,h,a=>xM.di (l:=l) (h.add x.2 (a x T5)) λy b=>a y (T3 _ b)
theorem kz:∀{l:List (Int×α)}{d:Q α},d.Ok->(di pile last d l).flat.Perm (l++d.flat)
 |[],d,h=>VQ _
 |x::l,d,h=>(kz (l:=l) (n9 h _ _)).trans (((VQ _).append (fY h.nk _ _)).trans Xw)
def cf(d:Q α):Int:=lo d.keys
def lowP(d:Q α):Int:=lo ((d.get (cf d)).map (·.1))
def mid(pile:Int->Int->Int)(d:Q α):Q α:=di pile (lowP d) (d.drop (cf d)) (d.get (cf d))
def eh(pile:Int->Int->Int)(d:Q α):List (Int×α):=(mid pile d).get 0
def left(pile:Int->Int->Int)(d:Q α):Q α:=(mid pile d).drop 0
structure Nt(pile:Int->Int->Int) (last:Int) (d:Q α):Prop where
 ge:last<=lowP d
 ok:xM pile (lowP d) (left pile d)
 eq:∀x∈eh pile d,x.1=lowP d
 lt:∀x∈(left pile d).flat,lowP d<x.1
 pm:d.flat.Perm (eh pile d++(left pile d).flat)
 ne:eh pile d≠[]
 k1:cf d∈d.keys
 k2:d.get (cf d)≠[]
 k3:0∈(mid pile d).keys
 o1:xM pile (lowP d) (d.drop (cf d))
def Bx(P:vk pile)(h:xM pile last d)(m:d≠[]):Nt pile last d:=by
 have k1:cf d∈d.keys:=Eg (by simpa[MD.keys]using m);obtain⟨n,f,o⟩:=T_.mp k1;have t:d.get (cf d)=n.2:=G5 h.ok.nk (by grind);have k2:d.get (cf d)≠[]:=by rw[t];exact h.ok.ne n f
 have v:lowP d∈(d.get (cf d)).map (·.1):=Eg (by simpa using k2);obtain⟨u,p,w⟩:=T_.mp v;have cN:∀y∈d.get (cf d),cf d=pile y.1 last/\last<=y.1:=λy b=>by rw[t]at b;have:=h.at_ n f y b;rw[o]at this;exact this
 have l:last<=lowP d:=by grind
 have l0:0<=lowP d:=V8 h.l0 l;have kP:pile (lowP d) last=cf d:=by grind
 have g:∀y∈d.get (cf d),lowP d<=y.1:=λy b=>Eh (T_.mpr ⟨y,b,rfl⟩);have i:∀x∈d.drop (cf d),∀y∈x.2,x.1=pile y.1 (lowP d)/\lowP d<y.1:=λx a y b=>by
  obtain⟨a,c⟩:=Up.mp a;have c:x.1≠cf d:=UZ c;have z:cf d<=x.1:=Eh (T_.mpr ⟨x,a,rfl⟩);obtain⟨e1,e2⟩:=h.at_ x a y b;have j:pile (lowP d) last<pile y.1 last:=by grind
  exact⟨e1.trans (P.same h.l0 l e2 j).symm,P.lt h.l0 l e2 j⟩
 have o1:xM pile (lowP d) (d.drop (cf d)):=⟨z5 h.ok _,l0,λx a y b=>⟨(i x a y b).1,WB (i x a y b).2⟩⟩;have k:xM pile (lowP d) (mid pile d):=o1.di g;have q:d.flat.Perm (mid pile d).flat:=(n_ h.ok.nk _).trans (kz o1.ok).symm;have r:(mid pile d).flat.Perm (eh pile d++(left pile d).flat):=n_ k.ok.nk 0;have eq:∀x∈eh pile d,x.1=lowP d:=λx a=>by have:=k.at_ _ (uC a) x a;exact(P.zero (V8 l0 this.2) l0).mp this.1.symm
 have lt:∀x∈(left pile d).flat,lowP d<x.1:=λx a=>by obtain⟨y,b,a⟩:=mem_flat.mp a;obtain⟨b,c⟩:=Up.mp b;have c:y.1≠0:=UZ c;obtain⟨e1,e2⟩:=k.at_ y b x a;have:¬x.1=lowP d:=λe=>c (e1.trans ((P.zero (V8 l0 e2) l0).mpr e));lia
 have s:u∈eh pile d:=by
  have h1:u∈d.flat:=mV d p
  grind
 exact⟨l,⟨z5 k.ok _,l0,λx a=>k.at_ x (Up.mp a).1⟩,eq,lt,q.trans r,(λe=>by grind),k1,k2,T_.mpr ⟨_,uC s,rfl⟩,o1⟩
end
end Pz
namespace Pz
noncomputable abbrev bb:=Int×Int×Int
noncomputable abbrev aV:=Int×Int×Int×List Int
noncomputable abbrev nI:=Int×Option Int×Option Int
abbrev TD:=List (bb×nI)
noncomputable def bF(t:TD)(a:bb):Option nI:=(t.find? λx=>decide (x.1=a)).map (·.2)
def tput(t:TD)(a:bb)(v:nI):TD:=if(bF t a).isSome then t.map (λx=>if x.1=a then(x.1,v)else x)else t++[(a,v)]
structure PS where
 told:TD
 last:Int
 aE:Q bb
 settled:MD (Int×Int) (Int×Int)
 aH:MD (Int×Int) (Int×aV×Int)
abbrev RS:=MD (Int×Int) (Int×aV)
section
variable(pile:Int->Int->Int)(rs:RS)
def i7(S:PS)(a:bb)(p:Int):Bool:=match bF S.told a with
 |none=>true
 |some v=>decide (p<v.1)
def kA(S:PS)(a:bb)(p:Int)(n m:Option Int):PS:={S with told:=tput S.told a (p,n,m),aE:=S.aE.app (pile p S.last) (p,a)}
def bc(S:PS)(a:bb)(p:Int)(n m:Option Int):PS:=if i7 S a p then kA pile S a p n m else S
def nth1(l:List Int):Int:=l[1]?.getD 0
def uF(S:PS)(b:Int)(r:aV)(mid a:Int):PS:={S with aH:=S.aH.app (mid,nth1 r.2.2.2) (b,r,a)}
def first(S:PS)(b:Int)(r:aV)(mid a:Int):PS:=(S.settled.get (mid,nth1 r.2.2.2)).foldl (λS x=>bc pile S (r.1,r.2.1,x.1) (a+x.2+1) (some b) (some mid)) (uF S b r mid a)
def note(S:PS)(a:bb)(b:Int):PS:={S with settled:=S.settled.app (a.1,a.2.1) (a.2.2,b)}
def oX(a:bb)(b:Int)(S:PS)(x:Int×aV×Int):PS:=bc pile S (x.2.1.1,x.2.1.2.1,a.2.2) (x.2.2+b+1) (some x.1) (some a.1)
def cL(a:bb)(b:Int)(S:PS)(x:Int×aV):PS:=if x.2.2.2.2.length=1 then bc pile S (x.2.1,x.2.2.1,a.2.2) (b+1) (some x.1) none else first pile S x.1 x.2 a.2.2 b
def settle(S:PS)(a:bb)(b:Int):PS:=(rs.get (a.1,a.2.1)).foldl (cL pile a b) ((S.aH.get (a.1,a.2.1)).foldl (oX pile a b) (note S a b))
def NE(S:PS)(x:Int×bb):Bool:=match bF S.told x.2 with
 |none=>false
 |some v=>decide (v.1=x.1)
def turn(S:PS)(x:Int×bb):PS:=if NE S x then settle pile rs S x.2 x.1 else S
def batch(S:PS)(l:List (Int×bb)):PS:=l.foldl (turn pile rs) S
def take(S:PS):PS:={S with last:=lowP S.aE,aE:=left pile S.aE}
end
noncomputable def L:Nat:=16000000
structure lS(S:PS):Prop where
 t:S.told.length<L
 p:S.aE.length<L
 pf:S.aE.flat.length<L
 s:S.settled.length<L
 sf:S.settled.flat.length<L
 l:S.aH.length<L
 lf:S.aH.flat.length<L
inductive Loop(pile:Int->Int->Int) (rs:RS):Nat->PS->PS->Prop where
 |done {S:PS}:S.aE=[]->Loop pile rs 0 S S
 |step {n:Nat} {S T:PS}:S.aE≠[]->xM pile S.last S.aE->(∀x∈eh pile S.aE,bF S.told x.2≠none)->lS S->lS (batch pile rs (take pile S) (eh pile S.aE))->
  Loop pile rs n (batch pile rs (take pile S) (eh pile S.aE)) T->Loop pile rs (n+1) S T
theorem dU(x:bb×nI)(t:TD)(a:bb):bF (x::t) a=if x.1=a then some x.2 else bF t a:=by grind [bF]
def tget_none:bF t a=none↔a∉t.map (·.1):=by
 induction t with
 |nil=>simp[bF]
 |cons x r b=>grind [dU]
def mW(h:bF t a=some v):(a,v)∈t:=by
 induction t with
 |nil=>cases h
 |cons x r b=>grind [dU]
def qQ(nd:(t.map (·.1)).Nodup)(h:(a,v)∈t):bF t a=some v:=by
 induction t with
 |nil=>cases h
 |cons x r b=>grind [dU]
def By(t:TD)(a:bb)(v:nI):(tput t a v).map (·.1)=if a∈t.map (·.1)then t.map (·.1)else t.map (·.1)++[a]:=by
 unfold tput;cases h:bF t a with
 |none=>rw[T9 (by simp),T9 (tget_none.mp h),UO];rfl
 |some w=>have:a∈t.map (·.1):=T_.mpr ⟨_,mW h,rfl⟩;rw[T2 (by simp),T2 this,Uo];exact Vb λx _=>by grind
def G6(h:(t.map (·.1)).Nodup)(a:bb)(v:nI):((tput t a v).map (·.1)).Nodup:=by
 rw[By];split
 .exact h
 .rename_i q;exact V4.mpr ⟨h,by simp,λx d b c e=>by rw[Uh]at c;subst c;subst e;exact q d⟩
def wD(t:TD)(a:bb)(v:nI):t.length<=(tput t a v).length/\(tput t a v).length<=t.length+1:=by
 unfold tput;split
 .rw[TZ];lia
 .rw[Um];simp
def i8(t:TD)(a:bb)(v:nI)(b:bb):bF (tput t a v) b=if a=b then some v else bF t b:=by
 unfold tput;cases h:bF t a with
 |none=>
  rw[T9 (by simp)];have f:=tget_none.mp h;clear h;induction t with
  |nil=>rw[List.nil_append,dU]
  |cons x r c=>grind [dU]
 |some w=>
  rw[T2 (by simp)];have d:a∈t.map (·.1):=T_.mpr ⟨_,mW h,rfl⟩;clear h;by_cases e:a=b
  .subst e;rw[T2 rfl];induction t with
   |nil=>cases d
   |cons x r c=>grind [dU]
  .rw[T9 e];clear d;induction t with
   |nil=>rfl
   |cons x r c=>grind [dU]
structure gM(S T:PS):Prop where
 t:S.told.length<=T.told.length
 p:S.aE.length<=T.aE.length
 pf:S.aE.flat.length<=T.aE.flat.length
 s:S.settled.length<=T.settled.length
 sf:S.settled.flat.length<=T.settled.flat.length
 l:S.aH.length<=T.aH.length
 lf:S.aH.flat.length<=T.aH.flat.length
def gM.refl(S:PS):gM S S:=by
 grind [PS,gM]
def gM.trans(a:gM S T)(b:gM T U):gM S U:=⟨Us a.t b.t,Us a.p b.p,Us a.pf b.pf,Us a.s b.s,Us a.sf b.sf,Us a.l b.l,Us a.lf b.lf⟩
def gM.fit(a:gM S T)(h:lS T):lS S:=⟨U2 a.t h.t,U2 a.p h.p,U2 a.pf h.pf,U2 a.s h.s,U2 a.sf h.sf,U2 a.l h.l,U2 a.lf h.lf⟩
def gx{κ α:Type}[DecidableEq κ](d:MD κ α)(k:κ)(v:α):d.length<=(d.app k v).length/\d.flat.length<=(d.app k v).flat.length:=by
 unfold MD.app;split
 .rw[TZ];refine⟨TY _,?_⟩;unfold MD.flat;rw[List.length_flatMap,List.length_flatMap,Uo];induction d with
  |nil=>exact TY _
  |cons x r a=>
   rename_i h;clear h;rw[T1,T1,Xs,Xs];refine Nat.add_le_add ?_ ?_
   .simp only[Function.comp];split<;>simp
   .clear a;induction r with
    |nil=>exact TY _
    |cons y r a=>rw[T1,T1,Xs,Xs];exact Nat.add_le_add (by simp only[Function.comp];split<;>simp) a
 .rw[Um];unfold MD.flat;rw[Wy,Um];lia
theorem cu{a:Type}(f:PS->a->PS)(h:∀S x,gM S (f S x)):∀(l:List a)(S:PS),gM S (l.foldl f S)
 |[],S=>.refl S
 |x::l,S=>(h S x).trans (cu f h l _)
variable{pile:Int->Int->Int}{rs:RS}
def b_(S:PS)(a:bb)(p:Int)(n m:Option Int):gM S (bc pile S a p n m):=by
 unfold bc;split
 .exact⟨(wD _ _ _).1,(gx _ _ _).1,(gx _ _ _).2,TY _,TY _,TY _,TY _⟩
 .exact .refl S
def yJ(S:PS)(b:Int)(r:aV)(mid a:Int):gM S (first pile S b r mid a):=gM.trans (T:=uF S b r mid a) ⟨TY _,TY _,TY _,TY _,TY _,(gx _ _ _).1,(gx _ _ _).2⟩ (cu _ (λS x=>b_ S _ _ _ _) _ _)
def ml(a:bb)(b:Int)(S:PS)(x:Int×aV):gM S (cL pile a b S x):=by
 unfold cL;split
 .exact b_ _ _ _ _ _
 .exact yJ _ _ _ _ _
def wF(S:PS)(a:bb)(b:Int):gM S (settle pile rs S a b):=(gM.trans (S:=S) (T:=note S a b) ⟨TY _,TY _,TY _,(gx _ _ _).1,(gx _ _ _).2,TY _,TY _⟩ (cu (oX pile a b) (λS x=>b_ S _ _ _ _) _ _)).trans (cu _ (ml a b) _ _)
def Bz(S:PS)(x:Int×bb):gM S (turn pile rs S x):=by
 unfold turn;split
 .exact wF _ _ _
 .exact .refl S
theorem kC{b:Type}(f:PS->b->PS){a:bb}(h:∀S x,bF S.told a≠none->bF (f S x).told a≠none):∀(l:List b)(S:PS),bF S.told a≠none->bF (l.foldl f S).told a≠none
 |[],S,k=>k
 |x::l,S,k=>kC f h l _ (h S x k)
def qR(h:bF S.told b≠none):bF (bc pile S a p n m).told b≠none:=by
 unfold bc;split
 .show bF (tput _ _ _) _≠none;rw[i8];split
  .simp
  .exact h
 .exact h
def Ei(h:bF S.told b≠none):bF (cL pile a p S x).told b≠none:=by
 unfold cL;split
 .exact qR h
 .exact kC _ (λS x k=>qR k) _ _ (show bF (uF S _ _ _ _).told b≠none from h)
def G7(h:bF S.told b≠none):bF (turn pile rs S x).told b≠none:=by
 unfold turn;split
 .exact kC _ (λS x k=>Ei k) _ _ (kC (oX pile _ _) (λS x k=>qR k) _ _ (show bF (note S _ _).told b≠none from h))
 .exact h
end Pz
namespace Pz
def Sd(S:PS)(a:bb)(q:Int):Prop:=(a.2.2,q)∈S.settled.get (a.1,a.2.1)
def lJ(S:PS)(a:bb)(p:Int):Prop:=∃v,bF S.told a=some v/\v.1<=p
def JustP(sd:bb->Int->Prop)(c:Int)(put:List Int)(t p:Int)(m:Option Int):Prop:=match put with
 |[]=>m=none/\p=1/\t=c
 |[x]=>m=none/\∃q,sd (c,x,t) q/\p=q+1
 |[x,y]=>∃d q1 q2,m=some d/\sd (c,x,d) q1/\sd (d,y,t) q2/\p=q1+q2+1
 |_=>False
def JustP.mono(h:∀a q,sd a q->sd' a q)(j:JustP sd c put t p m):JustP sd' c put t p m:=by
 match put,j with
 |[],j=>exact j
 |[x],⟨e,q,s,e2⟩=>exact⟨e,q,h _ _ s,e2⟩
 |[x,y],⟨d,q1,q2,e,s1,s2,e2⟩=>exact⟨d,q1,q2,e,h _ _ s1,h _ _ s2,e2⟩
section
variable(RL:List aV)(M:List bb)
def Just(sd:bb->Int->Prop)(a:bb)(v:nI):Prop:=match v.2.1 with
 |none=>v.2.2=none/\v.1=0/\a∈M
 |some i=>∃(j:Nat)(r:aV),i=j/\RL[j]?=some r/\a.1=r.1/\a.2.1=r.2.1/\JustP sd r.2.2.1 r.2.2.2 a.2.2 v.1 v.2.2
theorem Just.mono(h:∀a q,sd a q->sd' a q)(j:Just RL M sd a v):Just RL M sd' a v:=by
 obtain⟨p,n,m⟩:=v;cases n with
 |none=>exact j
 |some i=>obtain⟨k,r,e1,e2,b,e4,j⟩:=j;exact⟨k,r,e1,e2,b,e4,j.mono h⟩
structure B(pile:Int->Int->Int) (U:List bb) (S:PS) (rest:List (Int×bb)):Prop where
 q:xM pile S.last S.aE
 nd:S.aE.flat.Nodup
 nr:rest.Nodup
 tk:(S.told.map (·.1)).Nodup
 tu:∀a v,bF S.told a=some v->a∈U
 ju:∀a v,bF S.told a=some v->Just RL M (Sd S) a v
 ps:∀a v,bF S.told a=some v->0<=v.1
 sd:∀a p,Sd S a p->p<=S.last/\∃v,bF S.told a=some v/\v.1=p
 sp:∀a v,bF S.told a=some v->Sd S a v.1\/(v.1,a)∈S.aE.flat\/(v.1,a)∈rest
 it:∀p a,(p,a)∈S.aE.flat\/(p,a)∈rest->lJ S a p
 ns:∀p a,(p,a)∈S.aE.flat\/(p,a)∈rest->¬Sd S a p
 m0:∀a v,bF S.told a=some v->a∈M->v=(0,none,none)
end
variable{RL:List aV}{M U:List bb}{pile:Int->Int->Int}{S:PS}{rest:List (Int×bb)}
def wG(h:¬i7 S a p=true):lJ S a p:=by
 grind [i7,lJ]
def hZ(h:i7 S a p=true)(e:bF S.told a=some v):p<v.1:=by unfold i7 at h;rw[e]at h;exact UZ h
def k9(a:bb)(p:Int)(n m:Option Int):lJ (bc pile S a p n m) a p:=by
 unfold bc;by_cases h:i7 S a p=true
 .rw[T2 h];exact⟨(p,n,m),by show bF (tput _ _ _) _=_;rw[i8,T2 rfl],Int.le_refl _⟩
 .rw[T9 h];exact wG h
def jk(h:lJ S b q):lJ (bc pile S a p n m) b q:=by
 unfold bc;by_cases k:i7 S a p=true
 .rw[T2 k];obtain⟨v,e,c⟩:=h;by_cases e2:a=b
  .subst e2;exact⟨(p,n,m),by show bF (tput _ _ _) _=_;rw[i8,T2 rfl],WB (Int.lt_of_lt_of_le (hZ k e) c)⟩
  .exact⟨v,by show bF (tput _ _ _) _=_;rw[i8,T9 e2];exact e,c⟩
 .rw[T9 k];exact h
def jl(a:bb)(p:Int)(n m:Option Int):(bc pile S a p n m).settled=S.settled/\(bc pile S a p n m).aH=S.aH/\(bc pile S a p n m).last=S.last:=by unfold bc;split<;>exact⟨rfl,rfl,rfl⟩
def yK(h:S.aE.Ok)(a:bb)(p:Int)(n m:Option Int)(b:x∈(bc pile S a p n m).aE.flat):x∈S.aE.flat\/x=(p,a):=by
 unfold bc at b;split at b
 .rcases T6.mp ((fY h.nk _ _).mem_iff.mp b)with e|e
  .exact .inr e
  .exact .inl e
 .exact .inl b
def tH(h:S.aE.Ok)(a:bb)(p:Int)(n m:Option Int):(bc pile S a p n m).aE.flat.length<=S.aE.flat.length+1:=by
 unfold bc;split
 .exact Xy (fY h.nk _ _).length_eq
 .lia
theorem B.bc(b:B RL M pile U S rest)(i:Just RL M (Sd S) a (p,n,m))(j:a∈U)(f:S.last<=p)(r:(p,a)∉rest)(hs:¬Sd S a p)
 (l:a∈M->lJ S a 0\/(p,n,m)=(0,none,none)):B RL M pile U (bc pile S a p n m) rest:=by
 unfold Pz.bc;by_cases k:i7 S a p=true
 .rw[T2 k];have s:∀c q,Sd (kA pile S a p n m) c q↔Sd S c q:=λc q=>Iff.rfl;have tg:∀c,bF (kA pile S a p n m).told c=if a=c then some (p,n,m)else bF S.told c:=λc=>i8 _ _ _ _;have pf:=fY b.q.ok.nk (pile p S.last) (p,a);have o:0<=p:=V8 b.q.l0 f;have fl:∀x,x∈(kA pile S a p n m).aE.flat↔x=(p,a)\/x∈S.aE.flat:=λx=>by show x∈(S.aE.app (pile p S.last) (p,a)).flat↔_;rw[pf.mem_iff,T6]
  refine⟨b.q.add a f,?_,b.nr,G6 b.tk _ _,λc v e=>?_,λc v e=>?_,λc v e=>?_,λc q h=>?_,λc v e=>?_,λq c h=>?_,λq c h=>?_,λc v e g=>?_⟩
  .refine pf.nodup_iff.mpr (UN.mpr ⟨λh=>?_,b.nd⟩);obtain⟨v,e,d⟩:=b.it p a (.inl h);have:=hZ k e;lia
  .rw[tg]at e;by_cases z:a=c
   .rw[<- z];exact j
   .rw[T9 z]at e;exact b.tu c v e
  .rw[tg]at e;by_cases z:a=c
   .rw[T2 z]at e;cases e;rw[<- z];exact i
   .rw[T9 z]at e;exact b.ju c v e
  .rw[tg]at e;by_cases z:a=c
   .rw[T2 z]at e;cases e;exact o
   .rw[T9 z]at e;exact b.ps c v e
  .obtain⟨h1,v,e,d⟩:=b.sd c q h;refine⟨h1,v,?_,d⟩;rw[tg,T9 (λz=>?_)]
   .exact e
   .subst z;have:=hZ k e;lia
  .rw[tg]at e;by_cases z:a=c
   .rw[T2 z]at e;cases e;subst z;exact .inr (.inl ((fl _).mpr (.inl rfl)))
   .rw[T9 z]at e;rcases b.sp c v e with h|h|h
    .exact .inl h
    .exact .inr (.inl ((fl _).mpr (.inr h)))
    .exact .inr (.inr h)
  .have:(q,c)=(p,a)\/(q,c)∈S.aE.flat\/(q,c)∈rest:=by
    rcases h with h|h
    .rcases(fl _).mp h with h|h
     .exact .inl h
     .exact .inr (.inl h)
    .exact .inr (.inr h)
   rcases this with h|h
   .cases h;exact⟨(p,n,m),by grind,Int.le_refl _⟩
   .obtain⟨v,e,d⟩:=b.it q c h;by_cases z:a=c
    .subst z;exact⟨(p,n,m),by grind,WB (Int.lt_of_lt_of_le (hZ k e) d)⟩
    .exact⟨v,by grind,d⟩
  .rcases h with h|h
   .rcases(fl _).mp h with h|h
    .cases h;exact hs
    .exact b.ns q c (.inl h)
   .exact b.ns q c (.inr h)
  .rw[tg]at e;by_cases z:a=c
   .rw[T2 z]at e;cases e;subst z;rcases l g with⟨v,e,d⟩|h
    .have:=hZ k e;lia
    .exact h
   .rw[T9 z]at e;exact b.m0 c v e g
 .rw[T9 k];exact b
end Pz
namespace Pz
section
variable(RL:List aV)(M U:List bb)(pile:Int->Int->Int)
structure BG(S:PS) (rest:List (Int×bb)):Prop where
 b:B RL M pile U S rest
 gt:∀x∈S.aE.flat,S.last<x.1
 eq:∀x∈rest,x.1=S.last
 mh:∀a∈M,lJ S a 0
structure Ext(S T:PS) (rest:List (Int×bb)) (k:Nat):Prop where
 bg:BG RL M U pile T rest
 mono:∀a p,lJ S a p->lJ T a p
 se:T.settled=S.settled
 la:T.last=S.last
 len:T.aE.flat.length<=S.aE.flat.length+k
end
variable{RL:List aV}{M U:List bb}{pile:Int->Int->Int}{rs:RS}{S T V:PS}{rest:List (Int×bb)}{k l:Nat}
def tJ(h:T.settled=S.settled):Sd T=Sd S:=by unfold Sd;rw[h]
theorem Ext.trans(x:Ext RL M U pile S T rest k)(y:Ext RL M U pile T V rest l):Ext RL M U pile S V rest (k+l):=⟨y.bg,λa p h=>y.mono a p (x.mono a p h),y.se.trans x.se,y.la.trans x.la,by have:=x.len;have:=y.len;lia⟩
theorem BG.bc(g:BG RL M U pile S rest)(i:Just RL M (Sd S) a (p,n,m))(j:a∈U)(f:S.last<p):Ext RL M U pile S (bc pile S a p n m) rest 1:=by
 obtain⟨e1,e2,c⟩:=jl (pile:=pile) (S:=S) a p n m;have d:=g.b.bc i j (WB f) (λh=>by have:=g.eq _ h;dsimp only at this;lia) (λh=>by have:=(g.b.sd _ _ h).1;lia) λh=>.inl (g.mh a h);refine⟨⟨d,λx e=>?_,λx e=>by rw[c];exact g.eq x e,λb d=>jk (g.mh b d)⟩,λb q h=>jk h,e1,c,tH g.b.q.ok _ _ _ _⟩;rw[c];rcases yK g.b.q.ok _ _ _ _ e with h|rfl
 .exact g.gt x h
 .exact f
theorem mn{b:Type}(fa:b->bb)(fp:b->Int)(fn a:b->Option Int):∀(l:List b){S:PS},BG RL M U pile S rest->
 (∀x∈l,Just RL M (Sd S) (fa x) (fp x,fn x,a x)/\fa x∈U/\S.last<fp x)->
 Ext RL M U pile S (l.foldl (λS x=>bc pile S (fa x) (fp x) (fn x) (a x)) S) rest l.length/\(l.foldl (λS x=>bc pile S (fa x) (fp x) (fn x) (a x)) S).aH=S.aH/\
 ∀x∈l,lJ (l.foldl (λS x=>bc pile S (fa x) (fp x) (fn x) (a x)) S) (fa x) (fp x)
 |[],S,g,_=>⟨⟨g,λ_ _ h=>h,rfl,rfl,TY _⟩,rfl,λ_ h=>nomatch h⟩
 |x::l,S,g,h=>by
  obtain⟨j,u,lt⟩:=h x T5;have e:=g.bc j u lt;obtain⟨r,c,d⟩:=mn fa fp fn a l (S:=bc pile S (fa x) (fp x) (fn x) (a x)) e.bg λy hy=>by rw[tJ e.se,e.la];exact h y (T3 _ hy)
  rw[VC,Ue,Xz];refine⟨e.trans r,c.trans (jl _ _ _ _).2.1,λy hy=>?_⟩;rcases T6.mp hy with rfl|hy
  .exact r.mono _ _ (k9 _ _ _ _)
  .exact d y hy
structure xE(RL:List aV) (M U:List bb) (rs:RS):Prop where
 nJ:∀r∈RL,r.2.2.2.length<=2
 to:∀{n r c x},(n,r)∈rs.get (c,x)->∃(j:Nat)(l:List Int),n=j/\RL[j]?=some r/\r.2.2.1=c/\r.2.2.2=x::l
 of:∀{j:Nat}{r:aV}{x l},RL[j]?=some r->r.2.2.2=x::l->((j:Int),r)∈rs.get (r.2.2.1,x)
 u1:∀a∈M,a∈U
 u2:∀r∈RL,(r.1,r.2.1,r.2.2.1)∈U
 u3:∀r∈RL,∀s x t,(s,x,t)∈U->(r.1,r.2.1,t)∈U
def SX(RL:List aV)(S:PS):Prop:=∀(j:Nat)(r:aV),RL[j]?=some r->match r.2.2.2 with
 |[]=>lJ S (r.1,r.2.1,r.2.2.1) 1
 |[x]=>∀t q,Sd S (r.2.2.1,x,t) q->lJ S (r.1,r.2.1,t) (q+1)
 |[x,y]=>∀d t q1 q2,Sd S (r.2.2.1,x,d) q1->Sd S (d,y,t) q2->lJ S (r.1,r.2.1,t) (q1+q2+1)
 |_=>True
structure Lk(RL:List aV) (S:PS):Prop where
 ok:S.aH.Ok
 to:∀{n r q d y},(n,r,q)∈S.aH.get (d,y)->∃(j:Nat)(x:Int),n=j/\RL[j]?=some r/\r.2.2.2=[x,y]/\Sd S (r.2.2.1,x,d) q
 of:∀{j:Nat}{r:aV}{x y d q},RL[j]?=some r->r.2.2.2=[x,y]->Sd S (r.2.2.1,x,d) q->((j:Int),r,q)∈S.aH.get (d,y)
theorem IY(Hs:xE RL M U rs)(d:a∈U)(G:0<=p):∀(l:List (Int×aV)){S:PS},BG RL M U pile S rest->S.aH.Ok->S.settled.Ok->S.last=p->Sd S a p->(∀x∈l,x∈rs.get (a.1,a.2.1))->
 Ext RL M U pile S (l.foldl (cL pile a p) S) rest (l.length*S.settled.flat.length)/\(l.foldl (cL pile a p) S).aH.Ok/\(l.foldl (cL pile a p) S).aH.flat.length<=S.aH.flat.length+l.length/\
 (∀k z,z∈(l.foldl (cL pile a p) S).aH.get k↔z∈S.aH.get k\/∃x∈l,x.2.2.2.2.length=2/\k=(a.2.2,nth1 x.2.2.2.2)/\z=(x.1,x.2,p))/\
 (∀x∈l,x.2.2.2.2.length=1->lJ (l.foldl (cL pile a p) S) (x.2.1,x.2.2.1,a.2.2) (p+1))/\
 ∀x∈l,x.2.2.2.2.length=2->∀t q,Sd S (a.2.2,nth1 x.2.2.2.2,t) q->lJ (l.foldl (cL pile a p) S) (x.2.1,x.2.2.1,t) (p+q+1)
 |[],S,g,ok,so,A,ha,_=>⟨⟨g,λ_ _ h=>h,rfl,rfl,Nat.le_add_right _ _⟩,ok,by simp,(λk z=>⟨.inl,λh=>h.elim id λ⟨x,h,_⟩=>(Ub h).elim⟩),(λ_ h=>(Ub h).elim),λ_ h=>(Ub h).elim⟩
 |x::l,S,g,ok,so,A,ha,f=>by
  obtain⟨n,r⟩:=x;obtain⟨j,H,rfl,o,B,I⟩:=Hs.to (f _ T5);have s:r∈RL:=Uz o;have bq:=Hs.nJ r s;have J:1<=S.settled.flat.length:=List.length_pos_of_mem (mV _ ha);have one:Ext RL M U pile S (cL pile a p S ((j:Int),r)) rest S.settled.flat.length/\(cL pile a p S ((j:Int),r)).aH.Ok/\(cL pile a p S ((j:Int),r)).aH.flat.length<=S.aH.flat.length+1/\
   (∀k z,z∈(cL pile a p S ((j:Int),r)).aH.get k↔z∈S.aH.get k\/(r.2.2.2.length=2/\k=(a.2.2,nth1 r.2.2.2)/\z=((j:Int),r,p)))/\
   (r.2.2.2.length=1->lJ (cL pile a p S ((j:Int),r)) (r.1,r.2.1,a.2.2) (p+1))/\
   (r.2.2.2.length=2->∀t q,Sd S (a.2.2,nth1 r.2.2.2,t) q->lJ (cL pile a p S ((j:Int),r)) (r.1,r.2.1,t) (p+q+1)):=by
   unfold cL;by_cases h1:r.2.2.2.length=1
   .rw[T2 (show((j:Int),r).2.2.2.2.length=1 from h1)];have c:r.2.2.2=[a.2.1]:=by grind
    have e:=g.bc (a:=(r.1,r.2.1,a.2.2)) (p:=p+1) (n:=some (j:Int)) (m:=none) ⟨j,r,rfl,o,rfl,rfl,by rw[c];exact⟨rfl,p,by rw[B];exact ha,rfl⟩⟩ (Hs.u3 r s _ _ _ d) (by lia);obtain⟨_,e2,_⟩:=jl (pile:=pile) (S:=S) (r.1,r.2.1,a.2.2) (p+1) (some (j:Int)) none;refine⟨⟨e.bg,e.mono,e.se,e.la,Us e.len (Xa J _)⟩,by grind,by grind,λk z=>?_,λ_=>k9 _ _ _ _,λh=>by lia⟩
    grind
   .rw[T9 (show ¬((j:Int),r).2.2.2.2.length=1 from h1)];have C:r.2.2.2.length=2:=by grind
    obtain⟨y,c⟩ : ∃y,r.2.2.2=[a.2.1,y]:=by
     rw[I]at C ⊢
     match H,C with
     |[y],_=>exact⟨y,rfl⟩
    have K:nth1 r.2.2.2=y:=by rw[c];rfl
    have g1:BG RL M U pile (uF S (j:Int) r a.2.2 p) rest:=⟨⟨g.b.q,g.b.nd,g.b.nr,g.b.tk,g.b.tu,g.b.ju,g.b.ps,g.b.sd,g.b.sp,g.b.it,g.b.ns,g.b.m0⟩,g.gt,g.eq,g.mh⟩;obtain⟨e,e2,L⟩:=mn (λx:Int×Int=>(r.1,r.2.1,x.1)) (λx=>p+x.2+1) (λ_=>some (j:Int)) (λ_=>some a.2.2) (S.settled.get (a.2.2,nth1 r.2.2.2)) g1 λx hx=>by
     have D:Sd S (a.2.2,y,x.1) x.2:=by rw[K]at hx;exact hx
     obtain⟨_,v,E,hv⟩:=g.b.sd _ _ D;have:=g.b.ps _ _ E;refine⟨⟨j,r,rfl,o,rfl,rfl,?_⟩,Hs.u3 r s _ _ _ (g.b.tu _ _ E),by show S.last<_;lia⟩;rw[c];exact⟨a.2.2,p,x.2,rfl,by rw[B];exact ha,D,rfl⟩
    have N:∀k z,z∈(first pile S (j:Int) r a.2.2 p).aH.get k↔z∈S.aH.get k\/(r.2.2.2.length=2/\k=(a.2.2,nth1 r.2.2.2)/\z=((j:Int),r,p)):=λk z=>by
     show z∈(List.foldl _ _ _:PS).aH.get k↔_;rw[e2];show z∈(S.aH.app _ _).get k↔_
     grind [pH,nth1]
    have lk:(first pile S (j:Int) r a.2.2 p).aH=S.aH.app (a.2.2,nth1 r.2.2.2) ((j:Int),r,p):=e2;refine⟨⟨e.bg,λb q h=>e.mono b q h,e.se,e.la,Us e.len (Xa (pI _ _) _)⟩,by rw[lk];exact n9 ok _ _,by rw[lk,(fY ok.nk _ _).length_eq];exact TY _,N,λh=>by lia,λ_ t q h=>L (t,q) h⟩
  obtain⟨e,u,O,w,P,Q⟩:=one;obtain⟨i,R,r2,W,X,Y⟩:=IY Hs d G l e.bg u (by rw[e.se];exact so) (by rw[e.la];exact A) (by rw[tJ e.se];exact ha) λy Z=>f y (T3 _ Z);rw[VC,Ue];rw[e.se]at i;refine⟨by rw[Nat.add_mul,Nat.one_mul,Xz];exact e.trans i,R,by lia,λk z=>?_,λx hx h=>?_,λx hx h t q F=>?_⟩
  .rw[W,w];constructor
   .rintro((h|h)|⟨x,hx,h⟩)
    .exact .inl h
    .exact .inr ⟨_,T5,h⟩
    .exact .inr ⟨x,T3 _ hx,h⟩
   .grind
  .rcases T6.mp hx with rfl|hx
   .exact i.mono _ _ (P h)
   .exact X x hx h
  .rcases T6.mp hx with rfl|hx
   .exact i.mono _ _ (Q h t q F)
   .exact Y x hx h t q (by rw[tJ e.se];exact F)
end Pz
namespace Pz
section
variable(RL:List aV)(M U:List bb)(pile:Int->Int->Int)(C:Nat)
structure S6(S:PS) (k:Nat):Prop where
 so:S.settled.Ok
 G:∃G:List bb,G.Nodup/\G.length=S.settled.flat.length/\∀a∈G,∃q,Sd S a q
 ln:S.aH.flat.length<=RL.length*S.settled.flat.length
 pn:S.aE.flat.length+k<=C+RL.length*(S.settled.flat.length*S.settled.flat.length)
structure I(S:PS) (rest:List (Int×bb)):Prop where
 bg:BG RL M U pile S rest
 JK:SX RL S
 lk:Lk RL S
 cnt:S6 RL C S rest.length
end
variable{RL:List aV}{M U:List bb}{pile:Int->Int->Int}{rs:RS}{S T:PS}{rest:List (Int×bb)}{C:Nat}
def sd_note:Sd (note S a p) c q↔Sd S c q\/(a=c/\p=q):=by
 grind [Sd,note,pH]
theorem I.settle(Hs:xE RL M U rs)(D:∀k,(rs.get k).length<=RL.length)(i:I RL M U pile C S ((p,a)::rest))(R:bF S.told a=some v)(N:v.1=p) :
 I RL M U pile C (settle pile rs S a p) rest/\(settle pile rs S a p).settled.flat.length=S.settled.flat.length+1:=by
 have b:=i.bg.b;have pl:p=S.last:=i.bg.eq _ T5;have p0:0<=p:=by rw[pl];exact b.q.l0
 have E:a∈U:=b.tu a v R;have nS:∀q,¬Sd S a q:=λq h=>by obtain⟨_,w,e,ew⟩:=b.sd a q h;rw[R]at e;cases e;rw[<- ew,N]at h;exact b.ns p a (.inr T5) h
 have nr:=UN.mp b.nr;have m:∀c q,Sd S c q->Sd (note S a p) c q:=λc q h=>sd_note.mpr (.inl h);have u:Sd (note S a p) a p:=sd_note.mpr (.inr ⟨rfl,rfl⟩);have g1:BG RL M U pile (note S a p) rest:=by
  refine⟨⟨b.q,b.nd,nr.2,b.tk,b.tu,λc w e=>(b.ju c w e).mono RL M m,b.ps,λc q h=>?_,λc w e=>?_,λq c h=>?_,λq c h k=>?_,b.m0⟩,i.bg.gt,λx A=>i.bg.eq x (T3 _ A),i.bg.mh⟩
  .rcases sd_note.mp h with h|⟨rfl,rfl⟩
   .exact b.sd c q h
   .exact⟨Int.le_of_eq pl,v,R,N⟩
  .rcases b.sp c w e with h|h|h
   .exact .inl (m _ _ h)
   .exact .inr (.inl h)
   .rcases T6.mp h with h|h
    .cases h;exact .inl u
    .exact .inr (.inr h)
  .exact b.it q c (h.elim .inl λh=>.inr (T3 _ h))
  .rcases sd_note.mp k with k|⟨rfl,rfl⟩
   .exact b.ns q c (h.elim .inl λh=>.inr (T3 _ h)) k
   .rcases h with h|h
    .have:=i.bg.gt _ h;dsimp only at this;lia
    .exact nr.1 h
 have so1:(note S a p).settled.Ok:=n9 i.cnt.so _ _;have V:(note S a p).settled.flat.length=S.settled.flat.length+1:=(fY i.cnt.so.nk _ _).length_eq;obtain⟨e1,l1,h1⟩:=mn (λx:Int×aV×Int=>(x.2.1.1,x.2.1.2.1,a.2.2)) (λx=>x.2.2+p+1) (λx=>some x.1) (λ_=>some a.1) (S.aH.get (a.1,a.2.1)) g1 λx A=>by obtain⟨n,r,q⟩:=x;obtain⟨j,y,rfl,o,B,s⟩:=i.lk.to A;obtain⟨_,w,tw,hw⟩:=b.sd _ _ s;have:=b.ps _ _ tw;refine⟨⟨j,r,rfl,o,rfl,rfl,?_⟩,Hs.u3 r (Uz o) _ _ _ E,by show S.last<q+p+1;lia⟩;show JustP _ r.2.2.1 r.2.2.2 _ _ _;rw[B];exact⟨a.1,q,p,rfl,m _ _ s,u,rfl⟩
 generalize W:(S.aH.get (a.1,a.2.1)).foldl (λS x=>bc pile S (x.2.1.1,x.2.1.2.1,a.2.2) (x.2.2+p+1) (some x.1) (some a.1)) (note S a p)=F at e1 l1 h1;have s2:F.settled=(note S a p).settled:=e1.se;have H:Sd F=Sd (note S a p):=tJ s2;have O:F.aH=S.aH:=l1;obtain⟨e2,k1,k2,k3,X,Y⟩:=IY (rs:=rs) Hs E p0 (rs.get (a.1,a.2.1)) e1.bg (by rw[O];exact i.lk.ok) (by grind) (by rw[e1.la,pl];rfl) (by rw[H];exact u) λx A=>A;have eT:(rs.get (a.1,a.2.1)).foldl (cL pile a p) F=Pz.settle pile rs S a p:=by rw[<- W];rfl
 rw[eT]at e2 k1 k2 k3 X Y;generalize Pz.settle pile rs S a p=T at e2 k1 k2 k3 X Y;have P:T.settled=(note S a p).settled:=e2.se.trans s2;have g:∀c q,Sd T c q↔Sd S c q\/(a=c/\p=q):=λc q=>by rw[tJ P];exact sd_note
 have Z:∀{j:Nat}{r:aV}{x d l},RL[j]?=some r->r.2.2.2=x::l->a=(r.2.2.1,x,d)->((j:Int),r)∈rs.get (a.1,a.2.1):=λo N h=>by rw[h];exact Hs.of o N
 have mono:∀c q,lJ S c q->lJ T c q:=λc q h=>e2.mono _ _ (e1.mono _ _ h);refine⟨⟨e2.bg,?_,⟨k1,?_,?_⟩,⟨by grind,?_,?_,?_⟩⟩,by grind⟩
 .intro j r o;have hc:=i.JK j r o;cases f:r.2.2.2 with
  |nil=>rw[f]at hc;exact mono _ _ hc
  |cons x ys=>
   cases ys with
   |nil=>
    rw[f]at hc;intro t q s;rcases(g _ _).mp s with h|⟨h,rfl⟩
    .exact mono _ _ (hc t q h)
    .obtain rfl:a.2.2=t:=by rw[h]
     exact X ((j:Int),r) (Z o f h) (by rw[f];rfl)
   |cons y zs=>
    cases zs with
    |cons _ _=>trivial
    |nil=>
     rw[f]at hc;intro d t q1 q2 hq1 J;have ny:nth1 r.2.2.2=y:=by rw[f];rfl
     rcases(g _ _).mp hq1 with K|⟨K,rfl⟩
     .rcases(g _ _).mp J with Q|⟨Q,rfl⟩
      .exact mono _ _ (hc d t q1 q2 K Q)
      .obtain rfl:a.2.2=t:=by rw[Q]
       exact e2.mono _ _ (h1 ((j:Int),r,q1) (by rw[Q];exact i.lk.of o f K))
     .obtain rfl:a.2.2=d:=by rw[K]
      refine Y ((j:Int),r) (Z o f K) (by rw[f];rfl) t q2 ?_;rw[ny,H,<- tJ P];exact J
 .intro n r q d y h;rcases(k3 _ _).mp h with h|⟨x,A,L,hk,hz⟩
  .rw[O]at h;obtain⟨j,x,e1,e2,e3,e4⟩:=i.lk.to h;exact⟨j,x,e1,e2,e3,(g _ _).mpr (.inl e4)⟩
  .obtain⟨n',r'⟩:=x;obtain⟨rfl,hz⟩:=Prod.mk.inj hz;obtain⟨rfl,s⟩:=Prod.mk.inj hz;obtain⟨j,l,rfl,o,hc,f⟩:=Hs.to A;obtain⟨rfl,B⟩:=Prod.mk.inj hk;have L:r.2.2.2.length=2:=L;have B:y=nth1 r.2.2.2:=B;rw[f]at L B;refine⟨j,a.2.1,rfl,o,?_,(g _ _).mpr (.inr ⟨by rw[hc],s.symm⟩)⟩;rcases l with _|⟨z,_|_⟩
   .cases L
   .rw[f,B];rfl
   .cases L
 .intro j r x y d q o f s;rw[k3];rcases(g _ _).mp s with h|⟨h,rfl⟩
  .rw[O];exact .inl (i.lk.of o f h)
  .exact .inr ⟨((j:Int),r),Z o f h,by rw[f];rfl,by rw[f,h];rfl,rfl⟩
 .obtain⟨G,g1,g2,g3⟩:=i.cnt.G;refine⟨a::G,UN.mpr ⟨λh=>?_,g1⟩,by grind,λc hc=>?_⟩
  .obtain⟨q,s⟩:=g3 a h;exact nS q s
  .rcases T6.mp hc with rfl|hc
   .exact⟨p,(g _ _).mpr (.inr ⟨rfl,rfl⟩)⟩
   .obtain⟨q,s⟩:=g3 c hc;exact⟨q,(g _ _).mpr (.inl s)⟩
 .have:=i.cnt.ln;have:=D (a.1,a.2.1);rw[P,V,Xt,Nat.mul_one];rw[O]at k2;lia
 .have c1:=i.cnt.pn;have c2:=e1.len;have c3:=e2.len;have c4:=i.cnt.ln;have c5:=pI S.aH (a.1,a.2.1);have c6:(rs.get (a.1,a.2.1)).length*F.settled.flat.length<=RL.length*(S.settled.flat.length+1):=by rw[s2,V];exact Nat.mul_le_mul_right _ (D _)
  rw[Ue]at c1;have c7:(note S a p).aE.flat.length=S.aE.flat.length:=rfl;rw[P,V];have c8:RL.length*((S.settled.flat.length+1)*(S.settled.flat.length+1))=RL.length*(S.settled.flat.length*S.settled.flat.length)+RL.length*S.settled.flat.length+RL.length*(S.settled.flat.length+1):=by rw[Nat.add_mul,Nat.one_mul,Xt RL.length,Xt S.settled.flat.length,Nat.mul_one,Xt RL.length (S.settled.flat.length*S.settled.flat.length)]
  rw[c8];lia
def I.skip(i:I RL M U pile C S (x::rest))(h:¬NE S x=true):I RL M U pile C S rest:=by
 have b:=i.bg.b;refine⟨⟨⟨b.q,b.nd,(UN.mp b.nr).2,b.tk,b.tu,b.ju,b.ps,b.sd,λc w e=>?_,λq c h=>b.it q c (h.elim .inl λh=>.inr (T3 _ h)),λq c h=>b.ns q c (h.elim .inl λh=>.inr (T3 _ h)),b.m0⟩,i.bg.gt,λy a=>i.bg.eq y (T3 _ a),i.bg.mh⟩,i.JK,i.lk,i.cnt.so,i.cnt.G,i.cnt.ln,by have:=i.cnt.pn;rw[Ue]at this;lia⟩;rcases b.sp c w e with k|k|k
 .exact .inl k
 .exact .inr (.inl k)
 .grind [NE]
theorem I.batch(Hs:xE RL M U rs)(b:∀k,(rs.get k).length<=RL.length):∀(l:List (Int×bb)){S:PS},I RL M U pile C S l->
 I RL M U pile C (batch pile rs S l) []/\S.settled.flat.length<=(batch pile rs S l).settled.flat.length/\((batch pile rs S l).settled.flat.length=S.settled.flat.length->batch pile rs S l=S)
 |[],S,i=>⟨i,TY _,λ_=>rfl⟩
 |x::l,S,i=>by
  show I RL M U pile C (Pz.batch pile rs (turn pile rs S x) l) []/\_<=(Pz.batch pile rs (turn pile rs S x) l).settled.flat.length/\((Pz.batch pile rs (turn pile rs S x) l).settled.flat.length=_->Pz.batch pile rs (turn pile rs S x) l=S);unfold turn;by_cases h:NE S x=true
  .rw[T2 h];obtain⟨p,a⟩:=x;unfold NE at h;cases e:bF S.told a with
   |none=>rw[show((p,a):Int×bb).2=a from rfl,e]at h;cases h
   |some v=>rw[show((p,a):Int×bb).2=a from rfl,e]at h;obtain⟨j,n⟩:=i.settle Hs b e (UZ h);obtain⟨c,d,f⟩:=I.batch Hs b l j;exact⟨c,by grind,λq=>by grind⟩
  .rw[T9 h];exact I.batch Hs b l (i.skip h)
structure Top(RL:List aV) (M U:List bb) (pile:Int->Int->Int) (C:Nat) (S:PS):Prop where
 b:B RL M pile U S []
 mh:∀a∈M,lJ S a 0
 JK:SX RL S
 lk:Lk RL S
 cnt:S6 RL C S 0
def I.top(i:I RL M U pile C S []):Top RL M U pile C S:=⟨i.bg.b,i.bg.mh,i.JK,i.lk,i.cnt⟩
theorem Top.take(P:vk pile)(t:Top RL M U pile C S)(d:S.aE≠[]):I RL M U pile C (take pile S) (eh pile S.aE):=by
 have b:=t.b;have k:=Bx P b.q d;have mem:∀x,x∈S.aE.flat↔x∈(left pile S.aE).flat\/x∈eh pile S.aE:=λx=>by rw[k.pm.mem_iff,Ug];exact Or.comm
 obtain⟨f,g,_⟩:=V4.mp (k.pm.nodup_iff.mp b.nd);have no:∀{q c},(q,c)∉([]:List (Int×bb)):=λh=>nomatch h;refine⟨⟨⟨k.ok,g,f,b.tk,b.tu,b.ju,b.ps,λa p h=>⟨V8 (b.sd a p h).1 k.ge,(b.sd a p h).2⟩,λa v e=>?_,λp a h=>b.it p a (.inl ((mem _).mpr h)),λp a h=>b.ns p a (.inl ((mem _).mpr h)),b.m0⟩,k.lt,k.eq,t.mh⟩,t.JK,⟨t.lk.ok,t.lk.to,t.lk.of⟩,t.cnt.so,t.cnt.G,t.cnt.ln,?_⟩
 .rcases b.sp a v e with h|h|h
  .exact .inl h
  .exact .inr ((mem _).mp h)
  .exact(no h).elim
 .have h1:=k.pm.length_eq;rw[Um]at h1;have i:=t.cnt.pn;show(left pile S.aE).flat.length+(eh pile S.aE).length<=_;show _<=C+RL.length*(S.settled.flat.length*S.settled.flat.length);lia
theorem mX{α:Type}[DecidableEq α]:∀(l m:List α),l.Nodup->(∀x∈l,x∈m)->l.length<=m.length
 |[],m,_,_=>UB _
 |x::l,m,nd,h=>by
  have c:=h x T5;have a:=UN.mp nd;have:=mX l (m.erase x) a.2 λy b=>(List.mem_erase_of_ne (λ(e:y=x)=>a.1 (by grind))).mpr (h y (T3 _ b))
  grind
def Top.nJ(t:Top RL M U pile C S):S.settled.flat.length<=U.length/\S.told.length<=U.length:=by
 obtain⟨G,g1,g2,g3⟩:=t.cnt.G;constructor
 .rw[<- g2];exact mX G U g1 λa ha=>by obtain⟨q,c⟩:=g3 a ha;obtain⟨_,v,e,_⟩:=t.b.sd a q c;exact t.b.tu a v e
 .have:=mX (S.told.map (·.1)) U t.b.tk λa ha=>by obtain⟨x,d,rfl⟩:=T_.mp ha;exact t.b.tu x.1 x.2 (qQ t.b.tk d)
  rwa [TZ]at this
def Top.fit(t:Top RL M U pile C S)(c:C+RL.length*(U.length*U.length)<L)(d:RL.length*U.length<L)(e:U.length<L):lS S:=by obtain⟨a,f⟩:=t.nJ;have g:=jj t.b.q.ok;have h:=jj t.cnt.so;have i:=jj t.lk.ok;have j:=t.cnt.pn;have k:RL.length*(S.settled.flat.length*S.settled.flat.length)<=RL.length*(U.length*U.length):=Xb _ (Wu a a);have l:=t.cnt.ln;have m:RL.length*S.settled.flat.length<=RL.length*U.length:=Xb _ a;constructor<;>lia
def Top.loop(P:vk pile)(Hs:xE RL M U rs)(g:∀k,(rs.get k).length<=RL.length)(p:C+RL.length*(U.length*U.length)<L)(s:RL.length*U.length<L)(u:U.length<L) :
 ∀(a b:Nat)(S:PS),Top RL M U pile C S->U.length-S.settled.flat.length<=a->S.aE.flat.length<=b->∃n T,Loop pile rs n S T/\Top RL M U pile C T/\T.aE=[]:=by
 have step:∀S,Top RL M U pile C S->S.aE≠[]->let S2:=batch pile rs (Pz.take pile S) (eh pile S.aE);Top RL M U pile C S2/\(∀n T,Loop pile rs n S2 T->Loop pile rs (n+1) S T)/\
  (S.settled.flat.length<S2.settled.flat.length\/S2.settled.flat.length=S.settled.flat.length/\S2.aE.flat.length<S.aE.flat.length):=by
  intro S t c;obtain⟨i,h1,w⟩:=I.batch Hs g _ (t.take P c);have d:=i.top;refine⟨d,λn T l=>.step c t.b.q (λx y=>?_) (t.fit p s u) (d.fit p s u) l,?_⟩
  .obtain⟨v,e,_⟩:=t.b.it x.1 x.2 (.inl ((Bx P t.b.q c).pm.mem_iff.mpr (Ug.mpr (.inl y))));rw[e];simp
  have k:=Bx P t.b.q c;by_cases e:(batch pile rs (Pz.take pile S) (eh pile S.aE)).settled.flat.length=S.settled.flat.length
  .refine .inr ⟨e,?_⟩;rw[w e];show(left pile S.aE).flat.length<_;rw[k.pm.length_eq,Um];have:=Wz.mpr k.ne;lia
  .have h1:S.settled.flat.length<=(batch pile rs (Pz.take pile S) (eh pile S.aE)).settled.flat.length:=h1;exact .inl (by lia)
 intro a;induction a with
 |zero=>
  intro b;induction b with
  |zero=>intro S t _ j;have:S.aE=[]:=UQ.mp (by have:=jj t.b.q.ok;lia);exact⟨0,S,.done this,t,this⟩
  |succ b m=>
   intro S t ha j;by_cases c:S.aE=[]
   .exact⟨0,S,.done c,t,c⟩
   obtain⟨d,f,hd⟩:=step S t c;have:=d.nJ.1;obtain⟨n,T,l,r⟩:=m _ d (by rcases hd with h|h<;>lia) (by rcases hd with h|h<;>lia);exact⟨_,T,f _ _ l,r⟩
 |succ a o=>
  intro b;induction b with
  |zero=>intro S t _ j;have:S.aE=[]:=UQ.mp (by have:=jj t.b.q.ok;lia);exact⟨0,S,.done this,t,this⟩
  |succ b m=>
   intro S t ha j;by_cases c:S.aE=[]
   .exact⟨0,S,.done c,t,c⟩
   obtain⟨d,f,hd⟩:=step S t c;have:=d.nJ.1;rcases hd with h|h
   .obtain⟨n,T,l,r⟩:=o _ _ d (by lia) (TY _);exact⟨_,T,f _ _ l,r⟩
   .obtain⟨n,T,l,r⟩:=m _ d (by lia) (by lia);exact⟨_,T,f _ _ l,r⟩
end Pz
namespace Pz
noncomputable def en:List aV->Nat->List (Int×aV)
 |[],_=>[]
 |r::l,k=>((k:Int),r)::en l (k+1)
theorem en_mem:∀{l:List aV}{k:Nat}{n:Int}{r:aV},(n,r)∈en l k↔∃j:Nat,n=((k+j:Nat):Int)/\l[j]?=some r
 |[],k,n,r=>⟨λh=>(Ub h).elim,λ⟨j,_,h⟩=>by simp at h⟩
 |x::l,k,n,r=>by
  unfold en;rw[T6,en_mem];constructor
  .rintro(h|⟨j,rfl,h⟩)
   .obtain⟨rfl,rfl⟩:=Prod.mk.inj h;exact⟨0,rfl,rfl⟩
   .exact⟨j+1,by lia,by simpa using h⟩
  .rintro⟨j,rfl,h⟩;cases j with
   |zero=>left;simp at h;subst h;rfl
   |succ j=>exact .inr ⟨j,by lia,by simpa using h⟩
theorem qS:∀(l:List aV)(k:Nat),(en l k).length=l.length:=by intro l;induction l<;>grind [en]
def iD(d:RS)(x:Int×aV):RS:=if x.2.2.2.2.length>0 then d.app (x.2.2.2.1,x.2.2.2.2[0]?.getD 0) x else d
def bO(RL:List aV):RS:=(en RL 0).foldl iD []
def BA(d:RS)(x:Int×aV)(k:Int×Int)(z:Int×aV):z∈(iD d x).get k↔z∈d.get k\/(z=x/\∃y l,x.2.2.2.2=y::l/\k=(x.2.2.2.1,y)):=by
 unfold iD;cases h:x.2.2.2.2 with
 |nil=>grind
 |cons y l=>
  rw[T2 (by simp),pH]
  grind
theorem uG:∀(l:List (Int×aV))(d:RS)(k:Int×Int)(z:Int×aV),z∈(l.foldl iD d).get k↔z∈d.get k\/(z∈l/\∃y b,z.2.2.2.2=y::b/\k=(z.2.2.2.1,y))
 |[],d,k,z=>⟨.inl,λq=>q.elim id λq=>(Ub q.1).elim⟩
 |x::l,d,k,z=>by
  rw[VC,uG l,BA,T6];constructor
  .rintro((h|⟨rfl,h⟩)|⟨h1,a⟩)
   .exact .inl h
   .exact .inr ⟨.inl rfl,h⟩
   .exact .inr ⟨.inr h1,a⟩
  .rintro(h|⟨rfl|h1,a⟩)
   .exact .inl (.inl h)
   .exact .inl (.inr ⟨rfl,a⟩)
   .exact .inr ⟨h1,a⟩
theorem yL:∀(l:List (Int×aV))(d:RS),d.Ok->(l.foldl iD d).Ok/\(l.foldl iD d).flat.length<=d.flat.length+l.length
 |[],d,h=>⟨h,TY _⟩
 |x::l,d,h=>by
  rw[VC,Ue];have:(iD d x).Ok/\(iD d x).flat.length<=d.flat.length+1:=by
   unfold iD;split
   .exact⟨n9 h _ _,Xy (fY h.nk _ _).length_eq⟩
   .exact⟨h,by lia⟩
  obtain⟨a,b⟩:=yL l _ this.1;exact⟨a,by lia⟩
theorem tL{κ α:Type}:MD.Ok (κ:=κ) (α:=α) []:=⟨Uq,λ_ h=>(Ub h).elim⟩
def Lg(RL:List aV):(bO RL).Ok/\(bO RL).flat.length<=RL.length:=by
 grind [bO,en,MD.flat,yL,tL,qS]
noncomputable def S0:PS:=⟨[],0,[],[],[]⟩
variable(pile:Int->Int->Int)
def jL(S:PS)(a:bb):PS:=bc pile S a 0 none none
def gq(S:PS)(x:Int×aV):PS:=if x.2.2.2.2.length=0 then bc pile S (x.2.1,x.2.2.1,x.2.2.2.1) 1 (some x.1) none else S
def kE(RL:List aV)(M:List bb):PS:=(en RL 0).foldl (gq pile) (M.foldl (jL pile) S0)
variable{RL:List aV}{M U:List bb}{pile}{S:PS}
structure Ci(RL:List aV) (M U:List bb) (pile:Int->Int->Int) (S:PS) (k:Nat):Prop where
 b:B RL M pile U S []
 l0:S.last=0
 s0:S.settled=[]
 k0:S.aH=[]
 len:S.aE.flat.length<=k
def Ci.no(h:Ci RL M U pile S k)(a:bb)(q:Int):¬Sd S a q:=by unfold Sd;rw[h.s0];exact λh=>(Ub h).elim
theorem Ci.bc(h:Ci RL M U pile S k)(c:Just RL M (Sd S) a (p,n,m))(d:a∈U)(e:0<=p)(f:a∈M->lJ S a 0\/(p,n,m)=(0,none,none)):Ci RL M U pile (bc pile S a p n m) (k+1):=by obtain⟨e1,e2,g⟩:=jl (pile:=pile) (S:=S) a p n m;exact⟨h.b.bc c d (by rw[h.l0];exact e) (λh=>(Ub h).elim) (h.no _ _) f,by rw[g];exact h.l0,by rw[e1];exact h.s0,by rw[e2];exact h.k0,Us (tH h.b.q.ok _ _ _ _) (Nat.add_le_add_right h.len 1)⟩
def RU:Ci RL M U pile S0 0:=by have no:∀{α:Type}{x:α},x∉([]:List α):=λh=>(Ub h).elim;exact⟨⟨⟨tL,Int.le_refl _,λ_ h=>(no h).elim⟩,Uq,Uq,Uq,(λ_ _ h=>nomatch h),(λ_ _ h=>nomatch h),(λ_ _ h=>nomatch h),(λ_ _ h=>(no h).elim),(λ_ _ h=>nomatch h),(λ_ _ h=>h.elim (λh=>(no h).elim) λh=>(no h).elim),(λ_ _ h=>h.elim (λh=>(no h).elim) λh=>(no h).elim),(λ_ _ h=>nomatch h)⟩,rfl,rfl,rfl,TY _⟩
theorem OB:∀(l:List bb){S:PS}{k:Nat},Ci RL M U pile S k->(∀a∈l,a∈M/\a∈U)->Ci RL M U pile (l.foldl (jL pile) S) (k+l.length)/\(∀a p,lJ S a p->lJ (l.foldl (jL pile) S) a p)/\∀a∈l,lJ (l.foldl (jL pile) S) a 0
 |[],S,k,h,_=>⟨h,λ_ _ h=>h,λ_ h=>(Ub h).elim⟩
 |a::l,S,k,h,c=>by
  obtain⟨h1,f⟩:=c a T5;have e:=h.bc (a:=a) (p:=0) (n:=none) (m:=none) ⟨rfl,rfl,h1⟩ f (Int.le_refl _) λ_=>.inr rfl;obtain⟨g,d,i⟩:=OB l e λb hb=>c b (T3 _ hb);rw[VC,Ue,Xz l.length,<- Nat.add_assoc];refine⟨g,λb p h=>d b p (jk h),λb hb=>?_⟩;rcases T6.mp hb with rfl|hb
  .exact d _ _ (k9 _ _ _ _)
  .exact i b hb
theorem OC(u2:∀r∈RL,(r.1,r.2.1,r.2.2.1)∈U):∀(l:List (Int×aV)){S:PS}{k:Nat},Ci RL M U pile S k->(∀a∈M,lJ S a 0)->(∀x∈l,∃j:Nat,x.1=j/\RL[j]?=some x.2)->
 Ci RL M U pile (l.foldl (gq pile) S) (k+l.length)/\(∀a p,lJ S a p->lJ (l.foldl (gq pile) S) a p)/\∀x∈l,x.2.2.2.2=[]->lJ (l.foldl (gq pile) S) (x.2.1,x.2.2.1,x.2.2.2.1) 1
 |[],S,k,h,_,_=>⟨h,λ_ _ h=>h,λ_ h=>(Ub h).elim⟩
 |x::l,S,k,h,d,f=>by
  obtain⟨j,e1,e2⟩:=f x T5;have one:Ci RL M U pile (gq pile S x) (k+1)/\(∀a p,lJ S a p->lJ (gq pile S x) a p)/\(x.2.2.2.2=[]->lJ (gq pile S x) (x.2.1,x.2.2.1,x.2.2.2.1) 1):=by
   unfold gq;by_cases c:x.2.2.2.2.length=0
   .rw[T2 c];have e:=h.bc (a:=(x.2.1,x.2.2.1,x.2.2.2.1)) (p:=1) (n:=some x.1) (m:=none) ⟨j,x.2,e1,e2,rfl,rfl,by rw[UQ.mp c];exact⟨rfl,rfl,rfl⟩⟩ (u2 _ (Uz e2)) (by decide) λh=>.inl (d _ h);exact⟨e,λb p h=>jk h,λ_=>k9 _ _ _ _⟩
   .rw[T9 c];exact⟨⟨h.b,h.l0,h.s0,h.k0,Nat.le_succ_of_le h.len⟩,λ_ _ h=>h,λe=>(c (by rw[e];rfl)).elim⟩
  obtain⟨o1,g,o⟩:=one;obtain⟨q,i,s⟩:=OC u2 l o1 (λa ha=>g a 0 (d a ha)) λb hb=>f b (T3 _ hb);rw[VC,Ue,Xz l.length,<- Nat.add_assoc];refine⟨q,λb p h=>i b p (g b p h),λb hb e=>?_⟩;rcases T6.mp hb with rfl|hb
  .exact i _ _ (o e)
  .exact s b hb e
structure Set(RL:List aV) (M U:List bb):Prop where
 nJ:∀r∈RL,r.2.2.2.length<=2
 u1:∀a∈M,a∈U
 u2:∀r∈RL,(r.1,r.2.1,r.2.2.1)∈U
 u3:∀r∈RL,∀s x t,(s,x,t)∈U->(r.1,r.2.1,t)∈U
 big:M.length+RL.length+RL.length*(U.length*U.length)<L
 QQ:RL.length*U.length<L
 Q0:U.length<L
def Set.Q1(h:Set RL M U):xE RL M U (bO RL):=by
 refine⟨h.nJ,λ{n r c x} q=>?_,λ{j r x l} e1 e2=>?_,h.u1,h.u2,h.u3⟩
 .rcases(uG _ _ _ _).mp q with q|⟨q,y,l,e,k⟩
  .exact(Ub q).elim
  .obtain⟨j,e1,e2⟩:=en_mem.mp q
   grind
 .exact(uG _ _ _ _).mpr (.inr ⟨en_mem.mpr ⟨j,by grind,e1⟩,x,l,e2,rfl⟩)
def BB(h:Set RL M U):Top RL M U pile (M.length+RL.length) (kE pile RL M):=by
 obtain⟨f,p,e⟩:=OB (RL:=RL) (M:=M) (U:=U) (pile:=pile) M RU λa ha=>⟨ha,h.u1 a ha⟩;obtain⟨c,g,i⟩:=OC h.u2 (en RL 0) f e λx k=>by obtain⟨j,e1,e2⟩:=en_mem.mp k;exact⟨j,by grind,e2⟩
 have c:Ci RL M U pile (kE pile RL M) _:=c;refine⟨c.b,λa ha=>g a 0 (e a ha),λj r m=>?_,⟨by rw[c.k0];exact tL,λ{n r q d y} h=>by rw[c.k0]at h;exact(Ub h).elim,λ_ _ h=>(c.no _ _ h).elim⟩,⟨by rw[c.s0];exact tL,⟨[],Uq,by rw[c.s0];rfl,λ_ h=>(Ub h).elim⟩,by rw[c.k0];exact UB _,?_⟩⟩
 .cases o:r.2.2.2 with
  |nil=>exact i ((j:Int),r) (en_mem.mpr ⟨j,by grind,m⟩) o
  |cons x l=>
   match l with
   |[]=>exact λt q h=>(c.no _ _ h).elim
   |[y]=>exact λd t q1 q2 h=>(c.no _ _ h).elim
   |_::_::_=>trivial
 .have:=c.len;rw[qS]at this;lia
def At(t:TD)(a:bb)(q:Int):Prop:=∃w,bF t a=some w/\w.1=q
def Re(t:TD)(a:bb)(q:Int):Prop:=∃w,bF t a=some w/\w.1<=q
structure Good(RL:List aV) (M U:List bb) (t:TD):Prop where
 nd:(t.map (·.1)).Nodup
 u:∀a v,bF t a=some v->a∈U
 ju:∀a v,bF t a=some v->Just RL M (At t) a v
 ps:∀a v,bF t a=some v->0<=v.1
 m0:∀a∈M,bF t a=some (0,none,none)
 JK:∀(j:Nat)(r:aV),RL[j]?=some r->match r.2.2.2 with
  |[]=>Re t (r.1,r.2.1,r.2.2.1) 1
  |[x]=>∀d q,At t (r.2.2.1,x,d) q->Re t (r.1,r.2.1,d) (q+1)
  |[x,y]=>∀d e q1 q2,At t (r.2.2.1,x,d) q1->At t (d,y,e) q2->Re t (r.1,r.2.1,e) (q1+q2+1)
  |_=>True
def Top.good(h:Top RL M U pile C S)(e:S.aE=[]):Good RL M U S.told:=by
 have hs:∀a q,Sd S a q↔At S.told a q:=λa q=>by
  constructor
  .intro k;exact(h.b.sd a q k).2
  .rintro⟨w,k,rfl⟩;rcases h.b.sp a w k with k|k|k
   .exact k
   .rw[e]at k;exact(Ub k).elim
   .exact(Ub k).elim
 refine⟨h.b.tk,h.b.tu,λa v k=>(h.b.ju a v k).mono RL M λa q=>(hs a q).mp,h.b.ps,λa ha=>?_,λj r g=>?_⟩
 .obtain⟨v,k,_⟩:=h.mh a ha;rw[k,h.b.m0 a v k ha]
 .have c:=h.JK j r g;cases f:r.2.2.2 with
  |nil=>rw[f]at c;exact c
  |cons x l=>
   rw[f]at c
   match l with
   |[]=>exact λt q k=>c t q ((hs _ _).mpr k)
   |[y]=>exact λd t q1 q2 k1 k2=>c d t q1 q2 ((hs _ _).mpr k1) ((hs _ _).mpr k2)
   |_::_::_=>trivial
def Set.run(P:vk pile)(h:Set RL M U):lS (kE pile RL M)/\∃n T,Loop pile (bO RL) n (kE pile RL M) T/\Good RL M U T.told:=by have t:=BB (pile:=pile) h;obtain⟨n,T,l,a,e⟩:=t.loop P h.Q1 (λk=>Us (pI _ k) (Lg RL).2) h.big h.QQ h.Q0 _ _ _ (TY _) (TY _);exact⟨t.fit h.big h.QQ h.Q0,n,T,l,a.good e⟩
end Pz
namespace Pz
def G8(x y k:Nat):(x ||| y)-(x &&& y)<2^k↔x/2^k=y/2^k:=by
 have d:(x ||| y)/2^k=x/2^k ||| y/2^k:=by rw[<- Vf,<- Vf,<- Vf,Nat.shiftRight_or_distrib]
 have e:(x &&& y)/2^k=x/2^k &&& y/2^k:=by rw[<- Vf,<- Vf,<- Vf,Nat.shiftRight_and_distrib]
 have f:(x ||| y)%2^k=x%2^k ||| y%2^k:=Nat.or_mod_two_pow;have g:(x &&& y)%2^k=x%2^k &&& y%2^k:=Nat.and_mod_two_pow;have a:0<2^k:=Nat.two_pow_pos k;have i:=Nat.div_add_mod (x ||| y) (2^k);have j:=Nat.div_add_mod (x &&& y) (2^k);have l:=XB (x ||| y) a;have m:x/2^k &&& y/2^k<=x/2^k:=Nat.and_le_left;have n:x/2^k &&& y/2^k<=y/2^k:=Nat.and_le_right;have o:x/2^k<=x/2^k ||| y/2^k:=Nat.left_le_or;have p:y/2^k<=x/2^k ||| y/2^k:=Nat.right_le_or;have q:x%2^k &&& y%2^k<=x%2^k:=Nat.and_le_left;have r:x%2^k<=x%2^k ||| y%2^k:=Nat.left_le_or;constructor
 .intro h;refine Nat.le_antisymm ?_ ?_
  all_goals
   refine Nat.not_lt.mp λs=>?_;have b:(x &&& y)/2^k+1<=(x ||| y)/2^k:=by lia
   have c:=Xb (2^k) b;rw[Xt,Nat.mul_one]at c;lia
 .grind
def G9(z k:Nat):(if((z:Int)==0)=true then 0 else(z:Int).natAbs.log2+1)<=k↔z<2^k:=by
 rw[Int.natAbs_natCast];by_cases h:z=0
 .subst h;rw[T2 (by decide)];exact⟨λ_=>Nat.two_pow_pos k,λ_=>UB _⟩
 .have:¬((z:Int)==0)=true:=by simpa using h
  rw[T9 this];exact Nat.log2_lt h
end Pz
namespace L4
open PySem PySem.Spec PyProof.Rows L2 L3
section
variable{κ:Type}[DecidableEq κ]
noncomputable abbrev DX(κ:Type):=List (κ×Addr×List V)
noncomputable abbrev DX.kv(xs:DX κ):List (κ×V):=xs.map λx=>(x.1,V.ref x.2.1)
structure DL(mk:List (κ×V)->HO) (H:Hp) (a:Addr) (xs:DX κ):Prop where
 root:H a=some (mk xs.kv)
 rD:∀x∈xs,H x.2.1=some (.lst x.2.2)
 nk:(xs.map (·.1)).Nodup
 na:(xs.map (·.2.1)).Nodup
def cE(a:Addr)(xs:DX κ)(b:Addr):Prop:=b=a\/∃x∈xs,b=x.2.1
noncomputable def iE(xs:DX κ)(k:κ):Option (Addr×List V):=(xs.find? λx=>decide (x.1=k)).map (·.2)
noncomputable def oe(xs:DX κ)(k:κ)(v:V):DX κ:=xs.map λx=>if x.1=k then(x.1,x.2.1,x.2.2++[v])else x
def mo(xs:DX κ)(k:κ):c9 xs.kv k=(iE xs k).map λp=>.ref p.1:=by
 induction xs with
 |nil=>rfl
 |cons x r a=>
  unfold iE at a ⊢;show c9 ((x.1,V.ref x.2.1)::DX.kv r) k=_;rw[VS];by_cases h:x.1=k
  .rw[gV h,Uj h];rfl
  .rw[gW h,Ur h,a]
def BC(xs:DX κ)(k:κ)(v:V):(oe xs k v).kv=xs.kv:=by unfold oe DX.kv;rw[Uo];apply Vb;intro x _;show((if x.1=k then(x.1,x.2.1,x.2.2++[v])else x).1,V.ref (if x.1=k then(x.1,x.2.1,x.2.2++[v])else x).2.1)=_;split<;>rfl
def qT{e:Type}(f:κ×Addr×List V->e)(g:∀a b c d,f (a,b,c)=f (a,b,d))(xs:DX κ)(k:κ)(v:V):(oe xs k v).map f=xs.map f:=by
 unfold oe;rw[Uo];apply Vb;intro x _;show f (if x.1=k then(x.1,x.2.1,x.2.2++[v])else x)=_;split
 .exact g _ _ _ _
 .rfl
def eB{xs:DX κ}(h:iE xs k=some p):(k,p)∈xs:=by unfold iE at h;obtain⟨x,c,rfl⟩:=UT.mp h;have h1:=List.find?_some c;have d:=List.mem_of_find?_eq_some c;have e:x.1=k:=UZ h1;obtain⟨a,b⟩:=x;dsimp only at e;subst e;exact d
def BD{xs:DX κ}(h:iE xs k=none):k∉xs.map (·.1):=λa=>by obtain⟨x,b,rfl⟩:=T_.mp a;unfold iE at h;have:=List.find?_eq_none.mp (Option.map_eq_none_iff.mp h) x b;simp at this
variable{mk:List (κ×V)->HO}{H H':Hp}{a l:Addr}{xs:DX κ}{k:κ}{v:V}{p:Addr×List V}
def DL.old(f:∀q ws,mk q≠.lst ws)(G:DL mk H a xs)(n:iE xs k=some p)(o:H' p.1=some (.lst (p.2++[v])))(kp:∀c u,H c=some u->c≠p.1->H' c=some u):DL mk H' a (oe xs k v):=by
 have g:=eB n;have h:a≠p.1:=λe=>by have:=G.rD _ g;dsimp only at this;rw[<- e,G.root]at this;exact f _ _ (UX this)
 refine⟨by rw[BC];exact kp _ _ G.root h,λx r=>?_,by rw[qT _ (λ_ _ _ _=>rfl)];exact G.nk,by rw[qT _ (λ_ _ _ _=>rfl)];exact G.na⟩;obtain⟨y,m,rfl⟩:=T_.mp r;by_cases e:y.1=k
 .rw[T2 e];have:y=(k,p):=by
   have h1:(xs.map (·.1)).Nodup:=G.nk;obtain⟨i,d⟩:=Uc.mp m;obtain⟨j,b⟩:=Uc.mp g;have e1:(xs.map (·.1))[i]?=some k:=by rw[Ui,d];exact VD some e
   have e2:(xs.map (·.1))[j]?=some k:=by rw[Ui,b];rfl
   have:i=j:=(Xm (T7.mp e1).1 h1).mp (e1.trans e2.symm);subst this;rw[d]at b;exact UX b
  subst this;exact o
 .rw[T9 e];refine kp _ _ (G.rD y m) λq=>e ?_;obtain⟨i,d⟩:=Uc.mp m;obtain⟨j,b⟩:=Uc.mp g;have e1:(xs.map (·.2.1))[i]?=some p.1:=by rw[Ui,d];exact VD some q
  have e2:(xs.map (·.2.1))[j]?=some p.1:=by rw[Ui,b];rfl
  have:i=j:=(Xm (T7.mp e1).1 G.na).mp (e1.trans e2.symm);subst this;rw[d]at b;rw[UX b]
def DL.new(g:∀q ws,mk q≠.lst ws)(G:DL mk H a xs)(j:iE xs k=none)(m:H l=none)(n:H' l=some (.lst [v]))(ha:H' a=some (mk (xs.kv++[(k,.ref l)])))(kp:∀c u,H c=some u->c≠a->H' c=some u):DL mk H' a (xs++[(k,l,[v])]):=by
 have nl:∀x∈xs,x.2.1≠l:=λx d e=>by have:=G.rD x d;rw[e,m]at this;cases this
 refine⟨by grind,λx d=>?_,?_,?_⟩
 .rcases Ug.mp d with h|h
  .refine kp _ _ (G.rD x h) λe=>?_;have:=G.rD x h;rw[e,G.root]at this;exact g _ _ (UX this)
  .rw[Uh]at h;subst h;exact n
 .rw[UO,V4];exact⟨G.nk,by simp,λb i c f e=>by rw[T1,VO,Uh]at f;subst f;subst e;exact BD j i⟩
 .rw[UO,V4];exact⟨G.na,by simp,λb i c f e=>by rw[T1,VO,Uh]at f;subst f;subst e;obtain⟨x,d,q⟩:=T_.mp i;exact nl x d q⟩
end
def Reads(t:TE)(σ:L2.St)(H:Hp)(v:V):Prop:=∀Q:VK,Q v H->t σ H Q
def Makes(t:TE)(σ:L2.St)(H:Hp)(ws:List V):Prop:=∀Q:VK,(∀p,H p=none->Q (.ref p) (aO H p (.tup ws)))->t σ H Q
section
variable{K:XE}{σ:L2.St}{H:Hp}{i j:Nat}{v w x y z:V}{ta tb te:TE}{tr:TA}{vs ws dvs:List V}{b o C dx:Addr}{n:Int}{Q:VK}{E:XK}{sp:Sp}{m f:Str}{fs:List (Str×V)}{r:R2}
def Reads.va(h:σ[i]?=some (some v)):Reads (aI i) σ H v:=λ_ q=>⟨_,h,q⟩
def Reads.k:Reads (tC v) σ H v:=λ_ q=>q
def Reads.op(ha:Reads ta σ H x)(a:Reads tb σ H y)(h:∀Q:VK,Q z H->r x y H Q):Reads (lV r ta tb) σ H z:=λQ q=>ha _ (a _ (h Q q))
def Reads.ix(h:Reads ta σ H (.ref b))(hs:H b=some (.tup ws))(e:dR ws n=some v):Reads (lV (pZ K) ta (tC (.int n))) σ H v:=h.op .k λ_ q=>⟨b,ws,n,v,rfl,rfl,SqT.of hs,e,q⟩
def Reads.fld(h:Reads ta σ H (.ref o))(a:∃dx,H o=some (.ins C dx fs))(cl:vg K C)(n:NoAttr K C f)(c:fs.lookup f=some v):Reads (f7 K ta f) σ H v:=λQ q=>by obtain⟨dx,a⟩:=a;exact h _ ⟨o,C,dx,_,_,rfl,a,cl,n,c,q⟩
def Lh(h:Reads ta σ H (.ref o))(a:∃dx,H o=some (.ins C dx fs))(cl:vg K C)(n:NoAttr K C f)(c:fs.lookup f=some v)(q:Q v H):f7 K ta f σ H Q:=Reads.fld h a cl n c _ q
def ReadsA(t:TA)(σ:L2.St)(H:Hp)(vs:List V):Prop:=∀Q:List V->Hp->Prop,Q vs H->t σ H Q
def ReadsA.ni:ReadsA bv σ H []:=λ_ q=>q
def ReadsA.c(h:Reads ta σ H v)(k:ReadsA tr σ H vs):ReadsA (aB ta tr) σ H (v::vs):=λ_ q=>h _ (k _ q)
def Makes.t(h:ReadsA tr σ H ws)(l:Nat.ble ws.length 9=true):Makes (jW tr) σ H ws:=λ_ q=>h _ ⟨Us (Nat.le_of_ble_eq_true l) (by decide),q⟩
def Li(h:ReadsA tr σ H ws)(l:Nat.ble ws.length 9=true)(k:∀p,H p=none->Q (.ref p) (aO H p (.tup ws))):jW tr σ H Q:=Makes.t h l _ k
def wH(h:Reads ta σ H (.ref b))(a:∃dx,H b=some (.ins C dx fs))(c:fs.lookup m=none)(ha:ReadsA tr σ H vs)(k:sp (.ref b::(vs++dvs)) H Q E):gn C m sp dvs E ta tr σ H Q:=by obtain⟨dx,a⟩:=a;exact h _ ⟨b,dx,fs,rfl,a,c,ha _ k⟩
def IZ{Q:L2.St->Hp->Prop}(a:H b=some (.tup [v,w]))(k:Q ((σ.set i (some v)).set j (some w)) H):iH K 2 (be (aU i) (be (aU j) iG)) (.ref b) σ H Q:=⟨b,_,rfl,SqT.of a,rfl,_,_,rfl,_,_,rfl,rfl,k⟩
def wI{t u:TS}{D:Ends}(h:Reads te σ H (.bl c))(k1:c=true->t D σ H)(k2:¬c=true->u D σ H):xN (oP te) t u D σ H:=h _ ⟨_,rfl,RC k1 k2⟩
end
def og{κ:Type}[DecidableEq κ](xs:DX κ)(k:κ)(l:Addr)(v:V):DX κ:=if(iE xs k).isSome then oe xs k v else xs++[(k,l,[v])]
def oY(K:XE)(to tk a:TE):TE:=N4 K "list" mC (N4 K "dict" Di to (aB tk (aB (vF bv) bv))) (aB a bv)
def z9{κ:Type}[DecidableEq κ]{mk:List (κ×V)->HO}(r:∀q ws,mk q≠.lst ws){K:XE}{y:TE}{σ:L2.St}{H:Hp}{a l:Addr}{xs:DX κ}{k:κ}{ws:List V}{C:Hp->Prop}(G:DL mk H a xs)(i:H l=none)
 (s:∀H',(∀c u,H c=some u->c≠a->H' c=some u)->Makes y σ H' ws) (I:∀x∈xs,x.2.2.length<16000000)
 (E:∀(l p:Addr)(H':Hp),H l=none->H p=none->H' p=some (.tup ws)->DL mk H' a (og xs k l (.ref p))->(∀c u,H c=some u->¬cE a xs c->H' c=some u)->C H') :
 (∃v,c9 xs.kv k=some v/\N3 K "list" v (aO H l (.lst []))/\aB y bv σ (aO H l (.lst [])) λxs A=>mC v xs A λ_ H'=>C H')\/(c9 xs.kv k=none/\N3 K "list" (.ref l) (aO (aO H l (.lst [])) a (mk (ce xs.kv k (.ref l))))/\aB y bv σ (aO (aO H l (.lst [])) a (mk (ce xs.kv k (.ref l)))) λxs A=>mC (.ref l) xs A λ_ H'=>C H'):=by
 have sz:∀n,n<16000000->n<sizeLine:=λn h=>by rw[Ux];lia
 have B:H a≠none:=by rw[G.root];simp
 have f:a≠l:=λe=>B (by rw[e];exact i);have m:∀c u,H c=some u->aO H l (.lst []) c=some u:=λc u e=>by rw[af (ao e i)];exact e
 cases d:iE xs k with
 |some q=>
  left;have F:=G.rD _ (eB d);refine⟨.ref q.1,by rw[mo,d];rfl,.inl ⟨rfl,_,SqL.of (m _ _ F)⟩,s _ (λc u e _=>m c u e) _ λp j=>?_⟩;have b:H p=none:=(aP i).free j;have t:q.1≠p:=λe=>by grind
  refine⟨q.1,q.2,.ref p,rfl,rfl,by rw[af t];exact m _ _ F,sz _ (I _ (eB d)),?_⟩;have kp:∀c u,H c=some u->c≠q.1->aO (aO (aO H l (.lst [])) p (.tup ws)) q.1 (.lst (q.2++[.ref p])) c=some u:=λc u e g=>by rw[af g,af (ao e b)];exact m c u e
  refine E l p _ i b (by rw[af (Vc t),ag]) ?_ λc u e g=>kp c u e λz=>g (.inr ⟨_,eB d,z⟩);unfold og;rw[d,T2 (by simp)];exact G.old r d ag kp
 |none=>
  right;refine⟨by rw[mo,d];rfl,.inl ⟨rfl,[],SqL.of (by rw[af (Vc f),ag])⟩,s _ (λc u e g=>by rw[af g];exact m c u e) _ λp j=>?_⟩;have D:c9 xs.kv k=none:=by rw[mo,d];rfl
  have w:p≠a:=λe=>by rw[e,ag]at j;cases j
  have o:p≠l:=λe=>by rw[e,af (Vc f),ag]at j;cases j
  have b:H p=none:=by rw[af w,af o]at j;exact j
  refine⟨l,[],.ref p,rfl,rfl,by rw[af (Vc o),af (Vc f),ag],by decide,?_⟩;refine E l p _ i b (by rw[af o,ag]) ?_ λc u e g=>?_
  .unfold og;rw[d,T9 (by simp)];refine G.new r d i ag (by rw[af f,af (Vc w),ag,vJ _ D]) λc u e g=>?_;rw[af (ao e i),af (ao e b),af g];exact m c u e
  .rw[af (ao e i),af (ao e b),af (λz=>g (.inl z))];exact m c u e
def uH{K:XE}{to tk i:TE}{σ:L2.St}{H:Hp}{C:Hp->Prop}(G:DL .dT H a xs)(f:Reads to σ H (.ref a))(g:Reads tk σ H (.ref b))(m:H b=some (.tup (k.map kV)))
 (h:∀H',(∀c u,H c=some u->c≠a->H' c=some u)->Makes i σ H' ws) (hz:xs.length<16000000) (n:∀x∈xs,x.2.2.length<16000000)
 (o:∀(l p:Addr)(H':Hp),H l=none->H p=none->H' p=some (.tup ws)->DL .dT H' a (og xs k l (.ref p))->(∀c u,H c=some u->¬cE a xs c->H' c=some u)->C H') :
 oY K to tk i σ H λ_ H'=>C H':=by
 have j:∀l,H l=none->∀c u,H c=some u->aO H l (.lst []) c=some u:=λl d c u e=>by rw[af (ao e d)];exact e
 exact f _ ⟨.inr (.inr (.inl ⟨rfl,.inr ⟨_,G.root⟩⟩)),g _ ⟨UB _,λl d=>⟨a,b,k,.ref l,xs.kv,rfl,rfl,j l d _ _ m,.inl (j l d _ _ G.root),by unfold DX.kv;rw[TZ,Ux];lia,z9 (mk:=.dT) (λ_ _ z=>HO.noConfusion z) G d h n o⟩⟩⟩
def I0(K:XE)(to tk a:TE):TE:=N4 K "list" mC (N4 K "dict" IM to (aB tk (aB (vF bv) bv))) (aB a bv)
def G_{K:XE}{to tk g:TE}{σ:L2.St}{H:Hp}{C:Hp->Prop}(G:DL .dK H a xs)(d:Reads to σ H (.ref a))(e:Reads tk σ H (.int i))
 (f:∀H',(∀c u,H c=some u->c≠a->H' c=some u)->Makes g σ H' ws) (hz:xs.length<16000000) (h:∀x∈xs,x.2.2.length<16000000)
 (j:∀(l p:Addr)(H':Hp),H l=none->H p=none->H' p=some (.tup ws)->DL .dK H' a (og xs (.inl i) l (.ref p))->(∀c u,H c=some u->¬cE a xs c->H' c=some u)->C H') :
 I0 K to tk g σ H λ_ H'=>C H':=by
 have k:∀l,H l=none->aO H l (.lst []) a=some (.dK xs.kv):=λl b=>by rw[af (ao G.root b)];exact G.root
 exact d _ ⟨.inr (.inr (.inl ⟨rfl,.inl ⟨_,G.root⟩⟩)),e _ ⟨UB _,λl b=>⟨a,.inl i,.ref l,xs.kv,rfl,rfl,.inl (k l b),by unfold DX.kv;rw[TZ,Ux];lia,z9 (mk:=.dK) (λ_ _ z=>HO.noConfusion z) G b f h j⟩⟩⟩
section
variable{X:Cx}
def I_:V->List V->Hp->VK->Prop:=λx xs H Q=>∃i,x=.int i/\xs=[]/\Q (.int (Builtin.Int.intBits i)) H
def Hb:Kt X "int.bit_length" I_:=by intro aa s σ H x xs v us Q I a rs q;obtain⟨i,rfl,rfl,q⟩:=q;obtain⟨t,rfl⟩:=a;cases rs;exact call_int_bit_length ⟨.int _,H,I.tok _,⟨_,rfl⟩,q⟩
end
structure Nc(C:Addr) (H:Hp) (q ap:Addr) (last:Int) (xs:DX br):Prop where
 ins:∃dx,H q=some (.ins C dx [("last",.int last),("piles",.ref ap)])
 aE:DL .dK H ap xs
 nJ:xs.length<16000000
 low:∀x∈xs,x.2.2.length<16000000
structure ve(K:XE) (C:Addr):Prop where
 cl:vg K C
 nl:NoAttr K C "last"
 np:NoAttr K C "piles"
noncomputable def ax(a last:Int):Int:=Builtin.Int.intBits (Builtin.bitXor a last)
def OD(K:XE):TE:=I0 K (f7 K (aI 0) "piles") (Kx K "int" I_ (lV (AK λi j=>.int (Builtin.bitXor i j)) (aI 1) (f7 K (aI 0) "last"))) (jW (aB (aI 1) (aB (aI 2) bv)))
def Lj{K:XE}{C q ap b:Addr}{H:Hp}{e:Hp->Prop}(T:ve K C)(G:Nc C H q ap last xs)(f:σ[0]?=some (some (.ref q)))(h1:σ[1]?=some (some (.int price)))(g:σ[2]?=some (some (.ref b)))
 (j:∀(l p:Addr)(H':Hp),H l=none->H p=none->H' p=some (.tup [.int price,.ref b])->(∃a,H' q=some (.ins C a [("last",.int last),("piles",.ref ap)]))->DL .dK H' ap (og xs (.inl (ax price last)) l (.ref p))->(∀c u,H c=some u->¬cE ap xs c->H' c=some u)->e H') :
 OD K σ H λ_ H'=>e H':=by
 obtain⟨a,d⟩:=G.ins;have k:¬cE ap xs q:=λz=>by
  rcases z with z|⟨x,m,z⟩
  .have:=G.aE.root;rw[<- z,d]at this;cases this
  .have:=G.aE.rD x m;rw[<- z,d]at this;cases this
 refine G_ (ws:=[.int price,.ref b]) (i:=ax price last) G.aE (λQ h=>⟨_,f,q,C,a,_,_,rfl,d,T.cl,T.np,rfl,h⟩) (λQ h=>?_) (λH' _ Q h=>⟨_,h1,_,g,(by show 2<=sizeLine;decide),h⟩) G.nJ G.low λl p H' n o r hd kp=>j l p H' n o r ⟨a,kp _ _ d k⟩ hd kp;exact⟨_,h1,_,f,q,C,a,_,_,rfl,d,T.cl,T.nl,rfl,_,_,rfl,rfl,rfl,_,rfl,rfl,h⟩
inductive tS(C:Addr):Sp
 |mk {q ap b:Addr} {last price:Int} {xs:DX br} {H:Hp} {Q:VK} {E:XK} (G:Nc C H q ap last xs) (k:∀(l p:Addr)(H':Hp),H l=none->H p=none->H' p=some (.tup [.int price,.ref b])->(∃dx,H' q=some (.ins C dx [("last",.int last),("piles",.ref ap)]))->DL .dK H' ap (og xs (.inl (ax price last)) l (.ref p))->(∀c u,H c=some u->¬cE ap xs c->H' c=some u)->Q .bn H'):tS C [.ref q,.int price,.ref b] H Q E
def BE(h:tS C vs H Q E):vs.length=3:=by cases h;rfl
def Ej{K:XE}{C:Addr}{vs:List V}(T:ve K C)(h:tS C vs H Q E)(a:N.length=3):fF (OD K) {nx:=λ_ H'=>Q .bn H',rt:=Q} (cp N vs) H:=by obtain⟨G,k⟩:=h;exact Lj T G rfl rfl rfl k
section
variable{κ:Type}[DecidableEq κ]{mk:List (κ×V)->HO}{H H':Hp}{a:Addr}{xs:DX κ}{k:κ}{p:Addr×List V}
noncomputable def mY(xs:DX κ)(k:κ):DX κ:=xs.filter λx=>decide (x.1≠k)
def Ek(xs:DX κ)(k:κ):(mY xs k).kv=lE xs.kv k:=by unfold mY lE DX.kv;rw[List.filter_map];rfl
theorem DL.drop(h:∀q ws,mk q≠.lst ws)(G:DL mk H a xs)(m:iE xs k=some p)(ha:H' a=some (mk (lE xs.kv k)))(kp:∀c u,H c=some u->c≠a->H' c=some u) :
 DL mk H' a (mY xs k)/\H' p.1=some (.lst p.2)/\¬cE a (mY xs k) p.1:=by
 have g:=eB m;have b:∀x∈xs,x.2.1≠a:=λx d e=>by have:=G.rD x d;rw[e,G.root]at this;exact h _ _ (UX this)
 have sub:(mY xs k).Sublist xs:=List.filter_sublist;refine⟨⟨by rw[Ek];exact ha,λx d=>?_,(sub.map _).nodup G.nk,(sub.map _).nodup G.na⟩,kp _ _ (G.rD _ g) (b _ g),λz=>?_⟩
 .have f:=(Up.mp d).1;exact kp _ _ (G.rD x f) (b x f)
 .rcases z with z|⟨x,d,z⟩
  .exact b _ g z
  .obtain⟨h1,n⟩:=Up.mp d;have l:x.1≠k:=UZ n;obtain⟨i,o⟩:=Uc.mp h1;obtain⟨j,r⟩:=Uc.mp g;have e1:(xs.map (·.2.1))[i]?=some p.1:=by grind
   have e2:(xs.map (·.2.1))[j]?=some p.1:=by grind
   have:i=j:=(Xm (T7.mp e1).1 G.na).mp (e1.trans e2.symm);subst this;rw[o]at r;exact l (by grind)
end
end L4
namespace L4
open PySem PySem.Spec PySem.Calls PyProof.Rows L2 L3
section
variable{X:Cx}
abbrev wJ(v d:Addr):HO:=.ext λh=>PySem.W.KdlKeysView h v d
def Ja:V->List V->Hp->VK->Prop:=λx xs H Q=>∃a kvs,x=.ref a/\xs=[]/\H a=some (.dK kvs)/\∀v,H v=none->Q (.ref v) (aO H v (wJ v a))
def Hd:Kt X "dict.keys" Ja:=by intro aa s σ H x xs v us Q I b rs q;obtain⟨a,kvs,rfl,rfl,ha,q⟩:=q;obtain rfl:v=Value.ref a:=b;cases rs;obtain⟨z,hd,vs,c,dd⟩:=vK I.aT ha;refine VP PySem.F.slot_dict_keys dd.typeIs PySem.F.entry_dict_keys (PySem.F.args_dict_keys_1 _) (PySem.W.kdl_meets_keys (aF X.prog X.w) a hd) ?_;have d:PySem.W.KdlKeysView (s.heap.push { cls:=.type "dict_keys",data:=.fields #[.ref a] }) s.heap.objs.size a:=⟨_,T4 _ rfl,rfl,rfl⟩;exact⟨⟨vs,dd⟩,.ref s.heap.objs.size,_,I.laid (a:=s.heap.objs.size) (o:=wJ s.heap.objs.size a) (t':=s.toks) (λ_ _ e=>RW _ e) (TY _) ⟨d,⟨_,T4 _ rfl⟩,λh1 g ⟨o,f,r⟩ k=>⟨o,k _ f,r⟩⟩,rfl,q _ (I.aT.fresh (TY _))⟩
def Jb:List V->Hp->VK->Prop:=λxs H Q=>∃(v a:Addr)(kvs:List (br×V))(ns:List Int),xs=[.ref v]/\H v=some (wJ v a)/\H a=some (.dK kvs)/\kvs.map (·.1)=ns.map Sum.inl/\ns≠[]/\Q (.int (uf ns)) H
def BF(L:X.calm=true):CallR X (.builtin "min") Jb:=by
 intro aa s σ H xs us Q I r q;obtain⟨v,a,kvs,ns,rfl,m,ha,E,p,q⟩:=q;obtain⟨u,rfl,M⟩:=gm r;obtain rfl:u=Value.ref v:=M;obtain⟨z,hd,vs,d,dd⟩:=vK I.aT ha;obtain⟨y,_,_⟩:=(show ObjOk X.prog X.w H s.heap v (wJ v a)from I.aT v _ m);obtain⟨N,F⟩:=dd.dictAt;have O:=d.length;have P:kvs.length=ns.length:=by have:=VD List.length E;simpa using this
 have f:∀(i:Nat)(k:br)(x:XG),vs[i]?=some (k,x)->∃n,ns[i]?=some n/\k=.inl n:=λi k x e=>by
  have G:i<kvs.length:=by rw[O];exact(T7.mp e).1
  obtain⟨e1,_⟩:=d.at i _ _ (U0 G) e;have e2:(kvs.map (·.1))[i]?=some k:=by rw[Ui,U0 G];exact VD some e1
  rw[E,Ui]at e2;obtain⟨n,h1,R⟩:=UT.mp e2;exact⟨n,h1,R.symm⟩
 generalize c:(ns.map λn=>(n,(0:Tok))).toArray=ps;have hsz:ps.size=ns.length:=by rw[<- c];simp
 have g:∀(i:Nat)(n:Int),ns[i]?=some n->numAt ps i=n:=λi n e=>by unfold numAt;rw[<- c];simp[e]
 have B:ps.toList.map (·.1)=ns:=by rw[<- c];simp[Function.comp_def]
 have J:0<ns.length:=Wz.mpr p;have h:a≠s.heap.objs.size:=by obtain⟨o,_,_,C,_⟩:=dd;exact Ul (T8 C)
 refine call_min_walk (PySem.W.kdl_pyIter_keys (knd:=aF X.prog X.w) (s:=s) y F ?_);refine⟨_,_,_,_,_,_,_,rfl,Walks.dictKeys (knd:=aF X.prog X.w) (A:=X.A.in1) (I.ok.hd L) s.heap.objs.size a h vs N,⟨⟨_,T4 _ rfl,rfl,rfl⟩,F.at' λo e=>RW _ e⟩,λb l=>?_,by lia,CmpOf.ints_lt (numAt ps) (λi v m=>?_),λv h' tk S kp=>?_⟩
 .simp only[T6,Ub,XC]at l;rw[V1];rcases l with rfl|rfl
  .exact VX _
  .obtain⟨o,_,_,C,_⟩:=dd;exact V7 (T8 C)
 .obtain⟨k,x,e1,e2⟩:=m;obtain⟨n,D,rfl⟩:=f i k x e1;obtain⟨j,t,e4,rfl⟩|⟨j,t,e4,_⟩:=bp (show lC (.inl n) v=true from e2)
  .cases e4;exact⟨t,by rw[g i n D]⟩
  .cases e4
 .obtain⟨k,x,e1,e2⟩:=S;obtain⟨n,D,rfl⟩:=f _ k x e1;obtain⟨j,t,e4,rfl⟩|⟨j,t,e4,_⟩:=bp (show lC (.inl n) v=true from e2)
  .cases e4;have l:=iS ps (vs.length-1) (by lia);rw[g _ n D,B,UU (by lia)]at l;exact⟨.int n,H,I.kept (t':=tk) λb o e=>kp b o (λK=>by rw[Uh]at K;subst K;exact VJ _ (T8 e)) (RW _ e),⟨t,rfl⟩,by rw[l];exact q⟩
  .cases e4
end
end L4
namespace L4
open PySem PySem.Spec PyProof.Rows L2 L3
inductive fE{α β:Type} (R:α->β->Prop):List α->List β->Prop where
 |nil:fE R [] []
 |cons {x y xs ys}:R x y->fE R xs ys->fE R (x::xs) (y::ys)
section
variable{α β:Type}{R R':α->β->Prop}{xs:List α}{ys:List β}
def fE.len(h:fE R xs ys):xs.length=ys.length:=by
 induction h with
 |nil=>rfl
 |cons _ _ a=>rw[Ue,Ue,a]
def fE.mono(f:∀x y,R x y->R' x y)(h:fE R xs ys):fE R' xs ys:=by
 induction h with
 |nil=>exact .nil
 |cons a _ b=>exact .cons (f _ _ a) b
def fE.snoc(h:fE R xs ys)(r:R x y):fE R (xs++[x]) (ys++[y]):=by
 induction h with
 |nil=>exact .cons r .nil
 |cons a _ b=>exact .cons a b
theorem fE.get(h:fE R xs ys){i:Nat}(e:ys[i]?=some y):∃x,xs[i]?=some x/\R x y:=by
 induction h generalizing i with
 |nil=>simp at e
 |cons a _ b=>
  cases i with
  |zero=>simp at e;subst e;exact⟨_,rfl,a⟩
  |succ i=>simp at e;obtain⟨x,e1,e2⟩:=b e;exact⟨x,by simpa using e1,e2⟩
def fE.QS{b c:Type}{T:b->c->Prop}(f:α->b)(g:β->c)(k:∀x y,R x y->T (f x) (g y))(h:fE R xs ys):fE T (xs.map f) (ys.map g):=by
 induction h with
 |nil=>exact .nil
 |cons a _ d=>exact .cons (k _ _ a) d
end
def KT(H H':Hp):Prop:=∀a ws,H a=some (.tup ws)->H' a=some (.tup ws)
section
variable{κ κ' α:Type}[DecidableEq κ][DecidableEq κ'](key:κ->κ')(it:Hp->α->V->Prop)
abbrev RepM(H:Hp)(d:Pz.MD κ α)(xs:DX κ'):Prop:=fE (λx y=>y.1=key x.1/\fE (it H) x.2 y.2.2) d xs
variable{key it}{H H':Hp}{d:Pz.MD κ α}{xs:DX κ'}
def RepM.keep(b:∀a v,it H a v->it H' a v)(h:RepM key it H d xs):RepM key it H' d xs:=h.mono λ_ _ ⟨e,a⟩=>⟨e,a.mono b⟩
def RepM.find(inj:∀a b,key a=key b->a=b)(h:RepM key it H d xs)(k:κ) :
 (iE xs (key k)=none/\d.has k=false/\d.get k=[])\/∃p,iE xs (key k)=some p/\d.has k=true/\fE (it H) (d.get k) p.2:=by
 induction h with
 |nil=>exact .inl ⟨rfl,rfl,rfl⟩
 |@cons x y d xs r _ c=>
  unfold iE at c ⊢;unfold Pz.MD.has at c ⊢;rw[VS,Pz.dt,VL];by_cases e:x.1=k
  .right;have:y.1=key k:=by rw[r.1,e]
   rw[Uj this,Uj e,T2 e];exact⟨y.2,rfl,rfl,r.2⟩
  .have:¬y.1=key k:=λz=>e (inj _ _ (r.1.symm.trans z));rw[Ur this,Ur e,T9 e,Xn];exact c
def RepM.add(inj:∀a b,key a=key b->a=b)(g:∀a v,it H a v->it H' a v)(h:RepM key it H d xs)(c:it H' v (.ref p)):RepM key it H' (d.app k v) (og xs (key k) l (.ref p)):=by
 have h':=h.keep g;unfold Pz.MD.app og;rcases h.find inj k with⟨e1,e2,_⟩|⟨q,e1,e2,_⟩
 .rw[e1,e2];exact h'.snoc ⟨rfl,.cons c .nil⟩
 .rw[e1,e2];refine h'.QS _ _ λx y ⟨f,i⟩=>?_;by_cases e:x.1=k
  .have:y.1=key k:=by rw[f,e]
   rw[T2 e,T2 this];exact⟨f,i.snoc c⟩
  .grind
theorem RepM.drop(inj:∀a b,key a=key b->a=b)(h:RepM key it H d xs)(k:κ):RepM key it H (d.drop k) (mY xs (key k)):=by
 induction h with
 |nil=>exact .nil
 |@cons x y d xs r _ c=>
  unfold Pz.MD.drop mY at c ⊢;by_cases e:x.1=k
  .grind
  .have:¬y.1=key k:=λz=>e (inj _ _ (r.1.symm.trans z));rw[List.filter_cons_of_pos (by grind),List.filter_cons_of_pos (by grind)];exact .cons r c
theorem RepM.keys(h:RepM key it H d xs):xs.map (·.1)=d.keys.map key:=by
 induction h with
 |nil=>rfl
 |cons r _ a=>grind
def RepM.low(h:RepM key it H d xs)(a:d.flat.length<n):∀x∈xs,x.2.2.length<n:=by
 induction h with
 |nil=>exact λ_ h=>(Ub h).elim
 |@cons x y d xs r _ b=>
  unfold Pz.MD.flat at a b;rw[Wn,Um]at a;intro z hz;rcases T6.mp hz with rfl|hz
  .have:=r.2.len;lia
  .exact b (by lia) z hz
end
noncomputable def vO:Option Int->V
 |none=>.bn
 |some i=>.int i
noncomputable def oh(a:Pz.bb):List V:=[.int a.1,.int a.2.1,.int a.2.2]
def IsArr(H:Hp)(a:Pz.bb)(v:V):Prop:=∃p,v=.ref p/\H p=some (.tup (oh a))
def IsRule(H:Hp)(r:Pz.aV)(v:V):Prop:=∃p q,v=.ref p/\H p=some (.tup [.int r.1,.int r.2.1,.int r.2.2.1,.ref q])/\H q=some (.tup (r.2.2.2.map .int))
def IsVal(H:Hp)(x:Pz.nI)(v:V):Prop:=∃p,v=.ref p/\H p=some (.tup [.int x.1,vO x.2.1,vO x.2.2])
def IsItem(H:Hp)(x:Int×Pz.bb)(v:V):Prop:=∃p w,v=.ref p/\H p=some (.tup [.int x.1,w])/\IsArr H x.2 w
def IsSet(H:Hp)(x:Int×Int)(v:V):Prop:=∃p,v=.ref p/\H p=some (.tup [.int x.1,.int x.2])
def IsLack(H:Hp)(x:Int×Pz.aV×Int)(v:V):Prop:=∃p w,v=.ref p/\H p=some (.tup [.int x.1,w,.int x.2.2])/\IsRule H x.2.1 w
def IsNum(H:Hp)(x:Int×Pz.aV)(v:V):Prop:=∃p w,v=.ref p/\H p=some (.tup [.int x.1,w])/\IsRule H x.2 w
section
variable{H H':Hp}(k:KT H H')
include k
def IsArr.keep(a:Pz.bb)(v:V):IsArr H a v->IsArr H' a v:=λ⟨p,e,h⟩=>⟨p,e,k _ _ h⟩
def IsRule.keep(a:Pz.aV)(v:V):IsRule H a v->IsRule H' a v:=λ⟨p,q,e,h,g⟩=>⟨p,q,e,k _ _ h,k _ _ g⟩
def IsVal.keep(a:Pz.nI)(v:V):IsVal H a v->IsVal H' a v:=λ⟨p,e,h⟩=>⟨p,e,k _ _ h⟩
theorem IsItem.keep(a:Int×Pz.bb)(v:V):IsItem H a v->IsItem H' a v:=λ⟨p,w,e,h,g⟩=>⟨p,w,e,k _ _ h,IsArr.keep k _ _ g⟩
def IsSet.keep(a:Int×Int)(v:V):IsSet H a v->IsSet H' a v:=λ⟨p,e,h⟩=>⟨p,e,k _ _ h⟩
theorem IsLack.keep(a:Int×Pz.aV×Int)(v:V):IsLack H a v->IsLack H' a v:=λ⟨p,w,e,h,g⟩=>⟨p,w,e,k _ _ h,IsRule.keep k _ _ g⟩
theorem IsNum.keep(a:Int×Pz.aV)(v:V):IsNum H a v->IsNum H' a v:=λ⟨p,w,e,h,g⟩=>⟨p,w,e,k _ _ h,IsRule.keep k _ _ g⟩
end
noncomputable def ak(a:Pz.bb):List br:=[.inl a.1,.inl a.2.1,.inl a.2.2]
theorem yM(a b:Pz.bb)(h:ak a=ak b):a=b:=by grind [ak]
noncomputable def k2(k:Int×Int):List br:=[.inl k.1,.inl k.2]
theorem qU(a b:Int×Int)(h:k2 a=k2 b):a=b:=by grind [k2]
noncomputable def k1(i:Int):br:=.inl i
def oj(a b:Int)(h:k1 a=k1 b):a=b:=Xq h
abbrev RepT(H:Hp)(t:Pz.TD)(kt:List (List br×V)):Prop:=fE (λx y=>y.1=ak x.1/\IsVal H x.2 y.2) t kt
theorem RepT.keep(k:KT H H')(h:RepT H t kt):RepT H' t kt:=h.mono λ_ _ ⟨e,a⟩=>⟨e,IsVal.keep k _ _ a⟩
def RepT.find(h:RepT H t kt)(a:Pz.bb) :
 (c9 kt (ak a)=none/\Pz.bF t a=none)\/∃v x,c9 kt (ak a)=some v/\Pz.bF t a=some x/\IsVal H x v:=by
 induction h with
 |nil=>exact .inl ⟨rfl,rfl⟩
 |@cons x y t kt r _ b=>
  rw[Pz.dU];by_cases e:x.1=a
  .have:y.1=ak a:=by rw[r.1,e]
   rw[T2 e,gV this];exact .inr ⟨_,_,rfl,rfl,r.2⟩
  .have:¬y.1=ak a:=λz=>e (yM _ _ (r.1.symm.trans z));rw[T9 e,gW this];exact b
def RepT.put(h:RepT H t kt)(b:IsVal H x v):RepT H (Pz.tput t a x) (ce kt (ak a) v):=by
 unfold Pz.tput ce;rw[jY];rcases h.find a with⟨e1,e2⟩|⟨w,y,e1,e2,_⟩
 .rw[e1,e2];exact h.snoc ⟨rfl,b⟩
 .rw[e1,e2];refine h.QS _ _ λz y ⟨c,d⟩=>?_
  grind [ak,yM]
def k_{κ:Type}[DecidableEq κ]{xs:DX κ}{k:κ}{l a c:Addr}{v:V}(h:cE a (og xs k l v) c):cE a xs c\/c=l:=by
 rcases h with h|⟨x,hx,h⟩
 .exact .inl (.inl h)
 .unfold og at hx;split at hx
  .obtain⟨y,b,rfl⟩:=T_.mp hx;refine .inl (.inr ⟨y,b,?_⟩);rw[h];split<;>rfl
  .rcases Ug.mp hx with hx|hx
   .exact .inl (.inr ⟨x,hx,h⟩)
   .rw[Uh]at hx;subst hx;exact .inr h
section
variable{κ κ' α:Type}[DecidableEq κ][DecidableEq κ'](mk:List (κ'×V)->HO)(key:κ->κ')(it:Hp->α->V->Prop)
structure PM(col:Addr->Nat) (j:Nat) (B H:Hp) (a:Addr) (dd:Pz.MD κ α) (xs:DX κ'):Prop where
 d:DL mk H a xs
 r:RepM key it H dd xs
 c:∀c,cE a xs c->col c=j/\B c=none
variable{mk key it}{col col':Addr->Nat}{j:Nat}{B B' H H':Hp}{a:Addr}{d:Pz.MD κ α}{xs:DX κ'}
def DL.obj(h:DL mk H a xs)(b:cE a xs c):H c≠none:=by
 grind [DL,cE]
def DL.keep(h:DL mk H a xs)(kp:∀c u,H c=some u->cE a xs c->H' c=some u):DL mk H' a xs:=⟨kp _ _ h.root (.inl rfl),λx b=>kp _ _ (h.rD x b) (.inr ⟨x,b,rfl⟩),h.nk,h.na⟩
theorem PM.keep(h:PM mk key it col j B H a d xs)(b:∀x v,it H x v->it H' x v)(kp:∀c u,H c=some u->col c=j->H' c=some u)(f:∀c,H c≠none->col' c=col c):PM mk key it col' j B H' a d xs:=⟨h.d.keep λc u e i=>kp c u e (h.c c i).1,h.r.keep b,λc i=>⟨by rw[f c (h.d.obj i)];exact(h.c c i).1,(h.c c i).2⟩⟩
def DL.kt(b:∀q ws,mk q≠.tup ws)(h:DL mk H a xs)(kp:∀c u,H c=some u->¬cE a xs c->H' c=some u):KT H H':=by
 grind [DL,cE,KT]
noncomputable def uI(col:Addr->Nat)(j:Nat)(H:Hp):Addr->Nat:=λc=>open Classical in if H c=none then j else col c
def bz(b:H a≠none):uI col j H a=col a:=by unfold uI;rw[T9 b]
def El(b:H a=none):uI col j H a=j:=by unfold uI;rw[T2 b]
def PM.new(h:PM mk key it col j B H a d xs)(b:Same B H)(h1:DL mk H' a xs')(f:RepM key it H' d' xs')(g:∀c,cE a xs' c->cE a xs c\/H c=none):PM mk key it (uI col j H) j B H' a d' xs':=
 ⟨h1,f,λc i=>by
   rcases g c i with i|e
   .rw[bz (h.d.obj i)];exact h.c c i
   .exact⟨El e,b.free e⟩⟩
def PM.base(h:PM mk key it col j B H a d xs)(b:∀c,cE a xs c->B' c=none):PM mk key it col j B' H a d xs:=⟨h.d,h.r,λc i=>⟨(h.c c i).1,b c i⟩⟩
end
structure PA where
 o:Addr
 ta:Addr
 aq:Addr
 ap:Addr
 sa:Addr
 la:Addr
 ar:Addr
noncomputable def pf(A:PA):List (Str×V):=[("rules",.ref A.ar),("told",.ref A.ta),("offers",.ref A.aq),("settled",.ref A.sa),("lacking",.ref A.la)]
noncomputable abbrev qf(A:PA)(last:Int):List (Str×V):=[("last",.int last),("piles",.ref A.ap)]
structure PO(CP CQ:Addr) (col:Addr->Nat) (B H:Hp) (A:PA) (last:Int) (t:Pz.TD) (kt:List (List br×V)):Prop where
 ins:∃dx,H A.o=some (.ins CP dx (pf A))
 FL:∃dx,H A.aq=some (.ins CQ dx (qf A last))
 td:H A.ta=some (.dT kt)
 tr:RepT H t kt
 c5:col A.ta=5/\B A.ta=none
 c6:col A.o=6/\B A.o=none
 c7:col A.aq=7/\B A.aq=none
structure bu(CP CQ:Addr) (B H:Hp) (A:PA) (rs:Pz.RS) (S:Pz.PS) (xs xl xr:DX (List br)) (xp:DX br) (kt:List (List br×V)) (col:Addr->Nat):Prop where
 same:Same B H
 p1:PM .dK k1 IsItem col 1 B H A.ap S.aE xp
 p2:PM .dT k2 IsSet col 2 B H A.sa S.settled xs
 p3:PM .dT k2 IsLack col 3 B H A.la S.aH xl
 p4:PM .dT k2 IsNum col 4 B H A.ar rs xr
 po:PO CP CQ col B H A S.last S.told kt
def PAt(CP CQ:Addr)(B H:Hp)(A:PA)(rs:Pz.RS)(S:Pz.PS)(xs b c:DX (List br)):Prop:=∃d kt a,bu CP CQ B H A rs S xs b c d kt a
section
variable{CP CQ:Addr}{B B' H H':Hp}{A:PA}{rs:Pz.RS}{S:Pz.PS}{xs xl xr:DX (List br)}{xp:DX br}{kt:List (List br×V)}{col:Addr->Nat}
theorem PO.keep(h:PO CP CQ col B H A last t kt)(k:KT H H')(kp:∀c u,H c=some u->5<=col c->col c<=7->H' c=some u)(a:∀c,H c≠none->col' c=col c):PO CP CQ col' B H' A last t kt:=by
 obtain⟨⟨b,h1⟩,⟨d,e⟩,f,g,c5,c6,c7⟩:=h;refine⟨⟨b,kp _ _ h1 (by lia) (by lia)⟩,⟨d,kp _ _ e (by lia) (by lia)⟩,kp _ _ f (by lia) (by lia),g.keep k,?_,?_,?_⟩
 .rw[a _ (by grind)];exact c5
 .rw[a _ (by grind)];exact c6
 .rw[a _ (by grind)];exact c7
def bu.pile(h:bu CP CQ B H A rs S xs xl xr xp kt col)(h1:DL .dK H' A.ap xp')(b:RepM k1 IsItem H' d' xp')(f:∀c,cE A.ap xp' c->cE A.ap xp c\/H c=none)
 (kp:∀c u,H c=some u->¬cE A.ap xp c->H' c=some u):bu CP CQ B H' A rs {S with aE:=d'} xs xl xr xp' kt (uI col 1 H):=by
 have k:KT H H':=h.p1.d.kt (λ_ _ z=>HO.noConfusion z) kp;have a:∀c u,H c=some u->col c≠1->H' c=some u:=λc u e n=>kp c u e λi=>n (h.p1.c c i).1;exact⟨(λc u e=>kp c u (h.same c u e) λi=>by rw[(h.p1.c c i).2]at e;cases e),h.p1.new h.same h1 b f,h.p2.keep (IsSet.keep k) (λc u e z=>a c u e (by lia)) λc=>bz,h.p3.keep (IsLack.keep k) (λc u e z=>a c u e (by lia)) λc=>bz,h.p4.keep (IsNum.keep k) (λc u e z=>a c u e (by lia)) λc=>bz,h.po.keep k (λc u e z _=>a c u e (by lia)) λc=>bz⟩
def bu.SO(h:bu CP CQ B H A rs S xs xl xr xp kt col)(h1:DL .dT H' A.sa xs')(b:RepM k2 IsSet H' d' xs')(f:∀c,cE A.sa xs' c->cE A.sa xs c\/H c=none)
 (kp:∀c u,H c=some u->¬cE A.sa xs c->H' c=some u):bu CP CQ B H' A rs {S with settled:=d'} xs' xl xr xp kt (uI col 2 H):=by
 have k:KT H H':=h.p2.d.kt (λ_ _ z=>HO.noConfusion z) kp;have a:∀c u,H c=some u->col c≠2->H' c=some u:=λc u e n=>kp c u e λi=>n (h.p2.c c i).1;exact⟨(λc u e=>kp c u (h.same c u e) λi=>by rw[(h.p2.c c i).2]at e;cases e),h.p1.keep (IsItem.keep k) (λc u e z=>a c u e (by lia)) λc=>bz,h.p2.new h.same h1 b f,h.p3.keep (IsLack.keep k) (λc u e z=>a c u e (by lia)) λc=>bz,h.p4.keep (IsNum.keep k) (λc u e z=>a c u e (by lia)) λc=>bz,h.po.keep k (λc u e z _=>a c u e (by lia)) λc=>bz⟩
def bu.uF(h:bu CP CQ B H A rs S xs xl xr xp kt col)(h1:DL .dT H' A.la xl')(b:RepM k2 IsLack H' d' xl')(f:∀c,cE A.la xl' c->cE A.la xl c\/H c=none)
 (kp:∀c u,H c=some u->¬cE A.la xl c->H' c=some u):bu CP CQ B H' A rs {S with aH:=d'} xs xl' xr xp kt (uI col 3 H):=by
 have k:KT H H':=h.p3.d.kt (λ_ _ z=>HO.noConfusion z) kp;have a:∀c u,H c=some u->col c≠3->H' c=some u:=λc u e n=>kp c u e λi=>n (h.p3.c c i).1;exact⟨(λc u e=>kp c u (h.same c u e) λi=>by rw[(h.p3.c c i).2]at e;cases e),h.p1.keep (IsItem.keep k) (λc u e z=>a c u e (by lia)) λc=>bz,h.p2.keep (IsSet.keep k) (λc u e z=>a c u e (by lia)) λc=>bz,h.p3.new h.same h1 b f,h.p4.keep (IsNum.keep k) (λc u e z=>a c u e (by lia)) λc=>bz,h.po.keep k (λc u e z _=>a c u e (by lia)) λc=>bz⟩
def bu.more(h:bu CP CQ B H A rs S xs xl xr xp kt col)(s:Same H H'):bu CP CQ B H' A rs S xs xl xr xp kt col:=by have k:KT H H':=λa ws e=>s a _ e;exact⟨h.same.trans s,h.p1.keep (IsItem.keep k) (λc u e _=>s c u e) λ_ _=>rfl,h.p2.keep (IsSet.keep k) (λc u e _=>s c u e) λ_ _=>rfl,h.p3.keep (IsLack.keep k) (λc u e _=>s c u e) λ_ _=>rfl,h.p4.keep (IsNum.keep k) (λc u e _=>s c u e) λ_ _=>rfl,h.po.keep k (λc u e _ _=>s c u e) λ_ _=>rfl⟩
theorem PAt.more(h:PAt CP CQ B H A rs S xs xl xr)(s:Same H H'):PAt CP CQ B H' A rs S xs xl xr:=let ⟨xp,kt,col,h⟩:=h;⟨xp,kt,col,h.more s⟩
def bu.tell(h:bu CP CQ B H A rs S xs xl xr xp kt col)(b:H p=some (.tup [.int x.1,vO x.2.1,vO x.2.2])) :
 bu CP CQ B (aO H A.ta (.dT (ce kt (ak a) (.ref p)))) A rs {S with told:=Pz.tput S.told a x} xs xl xr xp (ce kt (ak a) (.ref p)) col:=by
 have kp:∀c u,H c=some u->col c≠5->aO H A.ta (.dT (ce kt (ak a) (.ref p))) c=some u:=λc u e n=>by rw[af (λz=>n (by rw[z];exact h.po.c5.1))];exact e
 have k:KT H (aO H A.ta (.dT (ce kt (ak a) (.ref p)))):=λc ws e=>by rw[af (λz=>by rw[z,h.po.td]at e;cases e)];exact e
 obtain⟨⟨d,h1⟩,⟨f,g⟩,j,i,c5,c6,c7⟩:=h.po;refine⟨λc u e=>?_,h.p1.keep (IsItem.keep k) (λc u e z=>kp c u e (by lia)) λ_ _=>rfl,h.p2.keep (IsSet.keep k) (λc u e z=>kp c u e (by lia)) λ_ _=>rfl,h.p3.keep (IsLack.keep k) (λc u e z=>kp c u e (by lia)) λ_ _=>rfl,h.p4.keep (IsNum.keep k) (λc u e z=>kp c u e (by lia)) λ_ _=>rfl,⟨d,kp _ _ h1 (by lia)⟩,⟨f,kp _ _ g (by lia)⟩,ag,(i.keep k).put ⟨p,rfl,k _ _ b⟩,c5,c6,c7⟩;rw[af (λz=>by grind)];exact h.same c u e
def bu.wide(h:bu CP CQ B H A rs S xs xl xr xp kt col)(Z:Addr->Prop)(hz:∀c,Z c->¬cE A.ap xp c/\¬cE A.sa xs c/\¬cE A.la xl c/\¬cE A.ar xr c/\c≠A.ta/\c≠A.o/\c≠A.aq) :
 ∃B',Same B B'/\KT H B'/\(∀c u,Z c->H c=some u->B' c=some u)/\bu CP CQ B' H A rs S xs xl xr xp kt col:=by
 classical
 refine⟨λc=>if B c≠none\/Z c\/∃ws,H c=some (.tup ws)then H c else none,λc u e=>?_,λc ws e=>?_,λc u z e=>?_,λc u e=>?_,h.p1.base λc i=>?_,h.p2.base λc i=>?_,h.p3.base λc i=>?_,h.p4.base λc i=>?_,h.po.ins,h.po.FL,h.po.td,h.po.tr,⟨h.po.c5.1,?_⟩,⟨h.po.c6.1,?_⟩,⟨h.po.c7.1,?_⟩⟩
 .dsimp only;rw[T2 (.inl (by grind))];exact h.same c u e
 .dsimp only;rw[T2 (.inr (.inr ⟨ws,e⟩))];exact e
 .dsimp only;rw[T2 (.inr (.inl z))];exact e
 .split at e
  .exact e
  .cases e
 all_goals
  refine T9 λq=>?_
 .rcases q with q|q|⟨ws,q⟩
  .exact q (h.p1.c c i).2
  .exact(hz c q).1 i
  .rcases i with rfl|⟨x,a,rfl⟩
   .rw[h.p1.d.root]at q;cases q
   .rw[h.p1.d.rD x a]at q;cases q
 .rcases q with q|q|⟨ws,q⟩
  .exact q (h.p2.c c i).2
  .exact(hz c q).2.1 i
  .rcases i with rfl|⟨x,a,rfl⟩
   .rw[h.p2.d.root]at q;cases q
   .rw[h.p2.d.rD x a]at q;cases q
 .rcases q with q|q|⟨ws,q⟩
  .exact q (h.p3.c c i).2
  .exact(hz c q).2.2.1 i
  .rcases i with rfl|⟨x,a,rfl⟩
   .rw[h.p3.d.root]at q;cases q
   .rw[h.p3.d.rD x a]at q;cases q
 .rcases q with q|q|⟨ws,q⟩
  .exact q (h.p4.c c i).2
  .exact(hz c q).2.2.2.1 i
  .rcases i with rfl|⟨x,a,rfl⟩
   .rw[h.p4.d.root]at q;cases q
   .rw[h.p4.d.rD x a]at q;cases q
 .rcases q with q|q|⟨ws,q⟩
  .exact q h.po.c5.2
  .exact(hz _ q).2.2.2.2.1 rfl
  .rw[h.po.td]at q;cases q
 .rcases q with q|q|⟨ws,q⟩
  .exact q h.po.c6.2
  .exact(hz _ q).2.2.2.2.2.1 rfl
  .obtain⟨b,e⟩:=h.po.ins;rw[e]at q;cases q
 .rcases q with q|q|⟨ws,q⟩
  .exact q h.po.c7.2
  .exact(hz _ q).2.2.2.2.2.2 rfl
  .obtain⟨b,e⟩:=h.po.FL;rw[e]at q;cases q
def PAt.less(h:PAt CP CQ B' H A rs S xs xl xr)(s:Same B B'):PAt CP CQ B H A rs S xs xl xr:=by obtain⟨xp,kt,col,h⟩:=h;refine⟨xp,kt,col,s.trans h.same,h.p1.base λc i=>s.free (h.p1.c c i).2,h.p2.base λc i=>s.free (h.p2.c c i).2,h.p3.base λc i=>s.free (h.p3.c c i).2,h.p4.base λc i=>s.free (h.p4.c c i).2,h.po.ins,h.po.FL,h.po.td,h.po.tr,⟨h.po.c5.1,s.free h.po.c5.2⟩,⟨h.po.c6.1,s.free h.po.c6.2⟩,⟨h.po.c7.1,s.free h.po.c7.2⟩⟩
theorem PAt.same(h:PAt CP CQ B H A rs S xs xl xr):Same B H:=let ⟨_,_,_,h⟩:=h;h.same
end
def He(x y:Nat):Builtin.bitXor (x:Int) (y:Int)=(((x ||| y)-(x &&& y):Nat):Int):=by
 have a:∀z:Nat,decide (0<=Builtin.bitNot (z:Int))=false:=λz=>Ur (by unfold Builtin.bitNot;lia);have b:∀z:Nat,(Builtin.bitNot (Builtin.bitNot (z:Int))).toNat=z:=λz=>by unfold Builtin.bitNot;lia
 have p1:∀z:Nat,decide (0<=(z:Int))=true:=λz=>Uj (by lia);have eA:Builtin.bitAnd (x:Int) (y:Int)=((x &&& y:Nat):Int):=by unfold Builtin.bitAnd;rw[p1,p1];rfl
 have c:Builtin.bitOr (x:Int) (y:Int)=((x ||| y:Nat):Int):=by unfold Builtin.bitOr Builtin.bitAnd;rw[a,a];show Builtin.bitNot (Builtin.bitNot (((Builtin.bitNot (Builtin.bitNot (x:Int))).toNat |||(Builtin.bitNot (Builtin.bitNot (y:Int))).toNat:Nat):Int))=_;rw[b,b];unfold Builtin.bitNot;lia
 unfold Builtin.bitXor;rw[eA,c];have:x &&& y<=x ||| y:=Us Nat.and_le_left Nat.left_le_or;lia
def z_:Pz.vk ax:=by
 have key:∀{p l:Int},0<=p->0<=l->∃z:Nat,ax p l=(z:Int)/\∀k:Nat,z<=k↔p/2^k=l/2^k:=by
  intro p l a b;obtain⟨x,rfl⟩:=Vm a;obtain⟨y,rfl⟩:=Vm b;refine⟨_,rfl,λk=>?_⟩;rw[He];unfold Builtin.Int.intBits;rw[Pz.G9,Pz.G8];have e:∀z:Nat,(z:Int)/2^k=((z/2^k:Nat):Int):=λz=>by rw[Int.natCast_ediv];norm_cast
  rw[e,e];lia
 constructor
 .intro p l a b;obtain⟨z,e,_⟩:=key a b;rw[e];lia
 .intro p l a b k;obtain⟨z,e,h⟩:=key a b;rw[e,<- h k];lia
section
variable{K:XE}{C q ap:Addr}{H:Hp}{last:Int}{xp:DX br}{σ:L2.St}
inductive nG(C:Addr):Sp
 |mk {q dx:Addr} {H:Hp} {Q:VK} {E:XK} (hq:H q=some (.ins C dx [])) (k:∀(d:Addr)(H':Hp),H d=none->H' q=some (.ins C dx [("last",.int 0),("piles",.ref d)])->H' d=some (.dK [])->(∀b o,H b=some o->b≠q->H' b=some o)->Q .bn H'):nG C [.ref q] H Q E
def Ll(K:XE):TS:=dY (tV K (aI 0) (tC (.int 0)) "last") (tV K (aI 0) CL "piles")
def wK(h:nG C vs H Q E):vs.length=1:=by cases h;rfl
def yN(T:ve K C)(h:nG C vs H Q E):Ll K {nx:=λ_ H'=>Q .bn H',rt:=Q} (cp N vs) H:=by
 obtain @⟨q,dx,_,_,_,hq,k⟩:=h;refine⟨_,rfl,q,C,dx,[],rfl,hq,T.cl,T.nl,(by show 0<1000;decide),?_⟩;intro d hd;have a:d≠q:=λe=>by rw[e,ag]at hd;cases hd
 have c:H d=none:=by rw[af a]at hd;exact hd
 refine⟨_,rfl,q,C,dx,_,rfl,(by rw[af (Vc a),ag]),T.cl,T.np,(by show 1<1000;decide),?_⟩;refine k d _ c (by rw[ag];rfl) (by rw[af a,ag]) λb o e f=>?_;rw[af f,af (ao e c),af f];exact e
inductive nB(C:Addr):Sp
 |mk {q ap dx:Addr} {last:Int} {kvs:List (br×V)} {H:Hp} {Q:VK} {E:XK} (hq:H q=some (.ins C dx [("last",.int last),("piles",.ref ap)])) (ha:H ap=some (.dK kvs)) (hl:kvs.length<=sizeLine) (k:Q (.bl (decide (kvs.length=0))) H):nB C [.ref q] H Q E
def Jc:List V->Hp->VK->Prop:=λxs H Q=>∃(d:Addr)(kvs:List (br×V))(u:HO),xs=[.ref d]/\(u=.dK kvs\/(u=.dT []/\kvs=[]))/\Rd H d u/\kvs.length<=sizeLine/\Q (.int kvs.length) H
def BH:CallR X (.builtin "len") Jc:=Bt
def Lm(K:XE):TS:=tU (lV Nz (F4 Jc (aB (f7 K (aI 0) "piles") bv)) (tC (.int 0)))
def wL(h:nB C vs H Q E):vs.length=1:=by cases h;rfl
def yO(T:ve K C)(h:nB C vs H Q E):Lm K {nx:=λ_ H'=>Q .bn H',rt:=Q} (cp N vs) H:=by
 obtain @⟨q,ap,dx,last,kvs,_,_,_,hq,ha,hl,k⟩:=h;refine⟨_,rfl,q,C,dx,_,_,rfl,hq,T.cl,T.np,rfl,ap,kvs,_,rfl,.inl rfl,.inl ha,hl,rfl,?_⟩;have:decide (V.int (kvs.length:Int)=V.int 0)=decide (kvs.length=0):=by apply decide_eq_decide.mpr;exact⟨λe=>by injection e with e;lia,λe=>by rw[e];rfl⟩
 rw[this];exact k
def RV(C q ap:Addr)(d:Pz.Q Pz.bb)(xp:DX br)(H:Hp)(Q:VK):Prop:=∀(l:Addr)(vs':List V)(a:DX br)(H':Hp),Nc C H' q ap (Pz.lowP d) a->RepM k1 IsItem H' (Pz.left ax d) a->H' l=some (.lst vs')->fE (IsItem H') (Pz.eh ax d) vs'->¬cE ap a l->(cE ap xp l\/H l=none)->(∀c,cE ap a c->cE ap xp c\/H c=none)->
 (∀c u,H c=some u->¬cE ap xp c->c≠q->H' c=some u)->Q (.ref l) H'
inductive rF(C:Addr):Sp
 |mk {q ap:Addr} {last:Int} {xp:DX br} {d:Pz.Q Pz.bb} {H:Hp} {Q:VK} {E:XK} (G:Nc C H q ap last xp) (R:RepM k1 IsItem H d xp) (ok:Pz.xM ax last d) (hne:d≠[]) (hfew:d.flat.length<16000000)
  (k:RV C q ap d xp H Q):rF C [.ref q] H Q E
def yP(h:rF C vs H Q E):vs.length=1:=by cases h;rfl
def Ln(K:XE):TS:=tU (p7 (f7 K (aI 0) "piles") (tC (.int 0)))
def OE(C:Addr):TS:=fF (gn C "add" (tS C) [] E0 (aI 0) (aB (aI 2) (aB (aI 3) bv)))
def RX(K:XE)(C:Addr):TS:=dY (nL (lD K (aI 1)) (iH K 2 (be (aU 2) (be (aU 3) iG))) (OE C)) (Ln K)
def OF(K:XE)(C:Addr)(a:TE):TS:=dY (tV K (aI 0) a "last") (RX K C)
def Jd(K:XE)(C:Addr)(a:TE):TS:=dY (lU (p7 (f7 K (aI 0) "piles") (F4 Jb (aB (Kx K "dict" Ja (f7 K (aI 0) "piles")) bv))) (aU 1)) (OF K C a)
def Lo(b:TE):Prop:=∀(σ:L2.St)(H:Hp)(a:Addr)(vs:List V)(its:List (Int×Pz.bb))(Q:VK),σ[1]?=some (some (.ref a))->H a=some (.lst vs)->fE (IsItem H) its vs->its≠[]->its.length<16000000->(∀H',Same H H'->Q (.int (Pz.lo (its.map (·.1)))) H')->b σ H Q
def Aa(l:List Int):uf l=Pz.lo l:=by cases l<;>rfl
def Hf{κ:Type}(xs:DX κ):xs.kv.map (·.1)=xs.map (·.1):=by unfold DX.kv;rw[Uo];rfl
def Nc.ne(G:Nc C H q ap last xp)(i:cE ap xp c):c≠q:=λe=>by
 obtain⟨d,a⟩:=G.ins;rcases i with z|⟨x,b,z⟩
 .have:=G.aE.root;rw[<- z,e,a]at this;cases this
 .have:=G.aE.rD x b;rw[<- z,e,a]at this;cases this
end
section
variable{K:XE}{C q ap:Addr}{H:Hp}{last:Int}{xp:DX br}
def oZ(m:Int)(d:Pz.Q Pz.bb)(l:List (Int×Pz.bb))(x:Int×Pz.bb):Pz.di ax m d (l++[x])=(Pz.di ax m d l).app (ax x.1 m) x:=by unfold Pz.di;rw[Vt];rfl
def pJ(s:Same H H'):KT H H':=λa ws e=>s a _ e
variable{D:Ends}{σ:L2.St}{d:Pz.Q Pz.bb}{H0:Hp}{p:Addr×List V}{i:Nat}{xi:DX br}
structure Rk(C q ap:Addr) (d:Pz.Q Pz.bb) (H0:Hp) (xp:DX br) (p:Addr×List V) (i:Nat) (H:Hp) (xi:DX br):Prop where
 G:Nc C H q ap (Pz.lowP d) xi
 R:RepM k1 IsItem H (Pz.di ax (Pz.lowP d) (d.drop (Pz.cf d)) ((d.get (Pz.cf d)).take i)) xi
 l:H p.1=some (.lst p.2)
 n:¬cE ap xi p.1
 a:fE (IsItem H) (d.get (Pz.cf d)) p.2
 sub:∀c,cE ap xi c->cE ap xp c\/H0 c=none
 kp:∀c u,H0 c=some u->¬cE ap xp c->c≠q->H c=some u
def Rf(q:Addr)(l:Addr)(σ:L2.St):Prop:=∃u v,σ=[some (.ref q),some (.ref l),u,v]
def Ti(I:Rk C q ap d H0 xp p i H xi)(F:(d.get (Pz.cf d))[i]?=some x)(h:IsItem H x v)(hs:Rf q p.1 σ)(ok:(Pz.di ax (Pz.lowP d) (d.drop (Pz.cf d)) ((d.get (Pz.cf d)).take (i+1))).Ok)(nJ:(Pz.di ax (Pz.lowP d) (d.drop (Pz.cf d)) ((d.get (Pz.cf d)).take (i+1))).flat.length<16000000)
 (k:∀o H' r,Rf q p.1 o->Rk C q ap d H0 xp p (i+1) H' r->D.nx o H'):iH K 2 (be (aU 2) (be (aU 3) iG)) v σ H λs M=>OE C D s M:=by
 obtain⟨t,_,rfl,N,b,rfl,O⟩:=h;obtain⟨u,w,rfl⟩:=hs;refine IZ N (wH (.va rfl) I.G.ins rfl (.c (.va rfl) (.c (.va rfl) .ni)) (.mk I.G λl J y j P Q A B f=>?_));have g:KT H y:=I.G.aE.kt (λ_ _ z=>HO.noConfusion z) f;rw[Vs,F,show(some x).toList=[x]from rfl,oZ]at ok nJ;have E:RepM k1 IsItem y _ (og xi (.inl (ax x.1 (Pz.lowP d))) l (.ref J)):=I.R.add (k:=ax x.1 (Pz.lowP d)) oj (IsItem.keep g) ⟨J,_,rfl,Q,b,rfl,g _ _ O⟩;refine k _ y _ ⟨_,_,rfl⟩ ⟨⟨A,B,?_,E.low nJ⟩,?_,f _ _ I.l I.n,λz=>?_,I.a.mono (IsItem.keep g),λc z=>?_,λc u e n m=>?_⟩
 .have:=E.len;have:=Pz.jj ok;exact U2 (by lia) nJ
 .rw[Vs,F,show(some x).toList=[x]from rfl,oZ];exact E
 .rcases k_ z with z|z
  .exact I.n z
  .rw[<- z,I.l]at j;cases j
 .rcases k_ z with z|rfl
  .exact I.sub c z
  .by_cases L:cE ap xp c
   .exact .inl L
   .refine .inr ?_;cases e:H0 c with
    |none=>rfl
    |some u=>
     by_cases z:c=q
     .obtain⟨_,S⟩:=I.G.ins;rw[z,S]at j;cases j
     .rw[I.kp c u e L z]at j;cases j
 .exact f _ _ (I.kp c u e n m) λz=>(I.sub c z).elim n λz=>by rw[z]at e;cases e
def Ab{κ:Type}[DecidableEq κ]{xs:DX κ}{k:κ}{a c:Addr}(i:cE a (mY xs k) c):cE a xs c:=i.imp id λ⟨x,b,e⟩=>⟨x,(Up.mp b).1,e⟩
def Tj(T:ve K C)(l:Pz.Nt ax last d)(v:d.flat.length<16000000)(I:Rk C q ap d H0 xp p p.2.length H xi)(hs:Rf q p.1 σ)
 (k:RV C q ap d xp H0 D.rt):Ln K D σ H:=by
 obtain⟨u,w,rfl⟩:=hs;have f:=I.R;rw[UU (by rw[I.a.len];exact TY _)]at f;have f:RepM k1 IsItem H (Pz.mid ax d) xi:=f;have ha:=I.G.aE.root;obtain⟨x,o⟩:=I.G.ins;rcases f.find oj 0 with⟨_,y,_⟩|⟨p1,r,_,A⟩
 .have:=Pz.has_iff.mpr l.k3;rw[y]at this;cases this
 delta Ln tU p7
 refine Lh (.va rfl) I.G.ins T.cl T.np rfl ⟨ap,rfl,.inl ⟨_,.inl ha⟩,xi.kv,k1 0,.ref p1.1,ha,rfl,(by rw[mo,r];rfl),?_⟩;generalize g:aO H ap (.dK (lE xi.kv (k1 0)))=j;have b:∀c u,H c=some u->c≠ap->j c=some u:=λc u e n=>by rw[<- g,af n];exact e
 obtain⟨B,E,F⟩:=I.G.aE.drop (λ_ _ z=>HO.noConfusion z) r (by rw[<- g,ag]) b;have h:KT H j:=λc ws e=>b c _ e λz=>by rw[z,ha]at e;cases e
 have s:RepM k1 IsItem j (Pz.left ax d) (mY xi (k1 0)):=(f.drop oj 0).keep (IsItem.keep h);have t:(Pz.left ax d).flat.length<16000000:=by have:=l.pm.length_eq;rw[Um]at this;lia
 have:=s.len;have:=Pz.jj l.ok.ok;exact k p1.1 p1.2 _ j ⟨⟨x,b _ _ o λe=>by rw[e,ha]at o;cases o⟩,B,by lia,s.low t⟩ s E (A.mono (IsItem.keep h)) F (I.sub _ (.inr ⟨_,eB r,rfl⟩)) (λc z=>I.sub c (Ab z)) λc u e n m=>b _ _ (I.kp c u e n m) λz=>n (.inl z)
def tk1(T:ve K C)(N:Lo tm)(r:Pz.Nt ax last d)(ok:d.Ok)(f:d.flat.length<16000000)(s:∃g,H q=some (.ins C g [("last",.int last),("piles",.ref ap)])) (O:DL .dK H ap xi) (R2:RepM k1 IsItem H (d.drop (Pz.cf d)) xi) (P:∀c,cE ap xp c->c≠q) (w:H p.1=some (.lst p.2)) (J:p.1≠q) (Q:¬cE ap xi p.1) (L:fE (IsItem H) (d.get (Pz.cf d)) p.2) (sub:∀c,cE ap xi c->cE ap xp c) (kp:∀c u,H0 c=some u->¬cE ap xp c->H c=some u)
 (hs:σ=[some (.ref q),some (.ref p.1),none,none]) (k:RV C q ap d xp H0 D.rt):OF K C tm D σ H:=by
 subst hs;obtain⟨g,s⟩:=s;refine N _ H p.1 p.2 (d.get (Pz.cf d)) _ rfl w L r.k2 (U2 (Pz.pI d _) f) λR M=>?_;refine⟨_,rfl,q,C,g,_,rfl,M _ _ s,T.cl,T.nl,(by show 2<1000;decide),?_⟩;generalize h:aO R q (.ins C g (iP "last" (.int (Pz.lo ((d.get (Pz.cf d)).map (·.1)))) [("last",.int last),("piles",.ref ap)]))=A;have b:∀c u,H c=some u->c≠q->A c=some u:=λc u e n=>by rw[<- h,af n];exact M c u e
 have S:A q=some (.ins C g [("last",.int (Pz.lowP d)),("piles",.ref ap)]):=by rw[<- h,ag];rfl
 have j:KT H A:=λc ws e=>b c _ e λz=>by rw[z,s]at e;cases e
 have ge:∀y∈d.get (Pz.cf d),Pz.lowP d<=y.1:=λy B=>Pz.Eh (T_.mpr ⟨y,B,rfl⟩);have fl:∀i,((Pz.di ax (Pz.lowP d) (d.drop (Pz.cf d)) ((d.get (Pz.cf d)).take i))).flat.length<16000000:=λi=>by rw[(Pz.kz r.o1.ok).length_eq,Um];have:=Wr i (d.get (Pz.cf d));have:=(Pz.n_ ok.nk (Pz.cf d)).length_eq;rw[Um]at this;lia
 have o:∀i,(Pz.di ax (Pz.lowP d) (d.drop (Pz.cf d)) ((d.get (Pz.cf d)).take i)).Ok:=λi=>(r.o1.di λx E=>ge x (VH E)).ok;have F:=fl 0;have t:=Pz.jj (o 0);have X:=R2.len;rw[List.take_zero]at F t;have U:(Pz.di ax (Pz.lowP d) (d.drop (Pz.cf d)) [])=d.drop (Pz.cf d):=rfl;rw[U]at F t;refine⟨_,rfl,p.1,rfl,⟨_,SqL.of (b _ _ w J)⟩,vD (K:=K) (a:=p.1) (xs:=p.2) (λi σ v=>Rf q p.1 σ/\∃xi,Rk C q ap d H0 xp p i v xi)
  ⟨⟨none,none,rfl⟩,xi,⟨⟨g,S⟩,O.keep λc u e i=>b c u e (P c (sub c i)),by lia,R2.low F⟩,?_,b _ _ w J,Q,L.mono (IsItem.keep j),λc i=>.inl (sub c i),λc u e n m=>b c u (kp c u e n) m⟩
  (λi σ v _ ⟨_,xi,I⟩=>SqL.of I.l) (λi y σ v V ⟨hs,xi,I⟩=>?_) λσ v ⟨hs,xi,I⟩=>Tj T r f I hs k⟩
 .rw[List.take_zero];exact R2.keep (IsItem.keep j)
 .obtain⟨x,E,B⟩:=I.a.get V;exact Ti I E B hs (o _) (fl _) λW H' G h1 t=>⟨h1,G,t⟩
def BI(T:ve K C)(t:∀(last:Int)(ap:Addr),List.lookup ("add" : Str) ([("last",V.int last),("piles",V.ref ap)]:List (Str×V))=none) (w:Lo tm) (h:rF C vs H Q E) :
 Jd K C tm {nx:=λ_ H'=>Q .bn H',rt:=Q} (cp ["self","pile","price","thing"] vs) H:=by
 obtain @⟨q,ap,last,xp,d,H,Q,_,G,R,ok,hne,hfew,k⟩:=h;have o:=Pz.Bx z_ ok hne;have a:=G.aE.root
 delta Jd dY lU p7
 refine Lh (.va rfl) G.ins T.cl T.np rfl ⟨ap,rfl,.inl ⟨_,.inl a⟩,Lh (.va rfl) G.ins T.cl T.np rfl ⟨.inr (.inr (.inl ⟨rfl,.inl ⟨_,a⟩⟩)),ap,_,rfl,rfl,a,λv r=>?_⟩⟩;have f:ap≠v:=ao a r;refine⟨v,ap,xp.kv,d.keys,rfl,ag,(by rw[af f];exact a),(by rw[Hf,R.keys];rfl),(by intro e;exact hne (List.map_eq_nil_iff.mp e)),?_⟩;rcases R.find oj (Pz.cf d)with⟨_,_,e⟩|⟨x,l,_,y⟩
 .exact(o.k2 e).elim
 refine⟨xp.kv,k1 (Pz.cf d),.ref x.1,(by rw[af f];exact a),(by rw[Aa];rfl),(by rw[mo,l];rfl),?_⟩;generalize g:aO (aO H v (wJ v ap)) ap (.dK (lE xp.kv (k1 (Pz.cf d))))=s;have b:∀c u,H c=some u->c≠ap->s c=some u:=λc u e n=>by rw[<- g,af n,af (ao e r)];exact e
 obtain⟨A,B,F⟩:=G.aE.drop (λ_ _ z=>HO.noConfusion z) l (by rw[<- g,ag]) b;have j:KT H s:=λc ws e=>b c _ e λz=>by rw[z,a]at e;cases e
 obtain⟨I,m⟩:=G.ins;exact tk1 T w o ok.ok hfew ⟨I,b _ _ m λe=>by rw[e,a]at m;cases m⟩ A ((R.drop oj _).keep (IsItem.keep j)) (λc=>G.ne) B (G.ne (.inr ⟨_,eB l,rfl⟩)) F (y.mono (IsItem.keep j)) (λc=>Ab) (λc u e n=>b c u e λz=>n (.inl z)) rfl k
end
structure lB(K:XE) (C:Addr):Prop where
 cl:vg K C
 nr:NoAttr K C "rules"
 nt:NoAttr K C "told"
 no:NoAttr K C "offers"
 ns:NoAttr K C "settled"
 nl:NoAttr K C "lacking"
def RY(A:PA):(pf A).lookup ("rules" : Str)=some (V.ref A.ar):=rfl
def Hg(A:PA):(pf A).lookup ("told" : Str)=some (V.ref A.ta):=rfl
def Lp(A:PA):(pf A).lookup ("offers" : Str)=some (V.ref A.aq):=rfl
def OG(A:PA):(pf A).lookup ("settled" : Str)=some (V.ref A.sa):=rfl
def OH(A:PA):(pf A).lookup ("lacking" : Str)=some (V.ref A.la):=rfl
def Lq(A:PA)(last:Int):(qf A last).lookup ("add" : Str)=none:=rfl
section
variable{K:XE}{CP CQ:Addr}{B H:Hp}{A:PA}{rs:Pz.RS}{S:Pz.PS}{xs xl xr:DX (List br)}
inductive fU(CP CQ:Addr):Sp
 |mk {B H:Hp} {A:PA} {rs:Pz.RS} {S:Pz.PS} {xs xl xr:DX (List br)} {b:Addr} {a:Pz.bb} {p:Int} {n m:Option Int} {Q:VK} {E:XK} (P:PAt CP CQ B H A rs S xs xl xr) (hb:H b=some (.tup (oh a))) (f:Pz.lS (Pz.bc ax S a p n m)) (k:∀H',PAt CP CQ B H' A rs (Pz.bc ax S a p n m) xs xl xr->Q .bn H'):fU CP CQ [.ref A.o,.ref b,.int p,vO n,vO m] H Q E
def OI:R2:=λx y H Q=>y=.bn/\Q (.bl (decide (x=.bn))) H
def Lr:OpR X (compareOp .Is) OI:=Ko
def Tl:R2:=AK λi j=>.bl (decide (i<j))
def Ls(K:XE)(CQ:Addr):TS:=dY (CI (f7 K (aI 0) "told") (aI 1) (jW (aB (aI 2) (aB (aI 3) (aB (aI 4) bv)))))
 (fF (gn CQ "add" (tS CQ) [] E0 (f7 K (aI 0) "offers") (aB (aI 2) (aB (aI 1) bv))))
def OJ(K:XE)(CQ:Addr):TS:=xN (SR (oP (lV OI (aI 5) (tC .bn))) (oP (lV Tl (aI 2) (lV (pZ K) (aI 5) (tC (.int 0)))))) (Ls K CQ) vA
def Em(K:XE)(CQ:Addr):TS:=dY (lU (x8 (f7 K (aI 0) "told") (aI 1)) (aU 5)) (OJ K CQ)
def wM(h:fU CP CQ vs H Q E):vs.length=5:=by cases h;rfl
variable{b:Addr}{a:Pz.bb}{p:Int}{n m:Option Int}{Q:VK}{E:XK}{D:Ends}{σ:L2.St}{xp:DX br}{kt:List (List br×V)}{col:Addr->Nat}
theorem bu.fld(P:bu CP CQ B H A rs S xs xl xr xp kt col)(cl:vg K CP)(n:NoAttr K CP f)(c:(pf A).lookup f=some v)(h:σ[i]?=some (some (.ref A.o))):Reads (f7 K (aI i) f) σ H v:=.fld (.va h) P.po.ins cl n c
def bu.rd(P:bu CP CQ B H A rs S xs xl xr xp kt col)(cl:vg K CP)(n:NoAttr K CP f)(c:(pf A).lookup f=some v)(h:σ[i]?=some (some (.ref A.o)))(q:Q v H):f7 K (aI i) f σ H Q:=P.fld cl n c h _ q
def wN(TP:lB K CP)(P:bu CP CQ B H A rs S xs xl xr xp kt col)(I:H b=some (.tup (oh a)))(fit:Pz.lS (Pz.kA ax S a p n m))
 (k:∀σ H',PAt CP CQ B H' A rs (Pz.kA ax S a p n m) xs xl xr->D.nx σ H'):Ls K CQ D [some (.ref A.o),some (.ref b),some (.int p),some (vO n),some (vO m),some w] H:=by
 delta Ls dY CI
 refine Li (.c (.va rfl) (.c (.va rfl) (.c (.va rfl) .ni))) rfl λt i=>?_;have s1:Same H (aO H t (.tup [.int p,vO n,vO m])):=aP i;have s:=P.more s1;have u:=s.po.td;have e:=s1 _ _ I;have F:kt.length<sizeLine:=by have e1:S.told.length=kt.length:=P.po.tr.len;have e2:=fit.t;have U:=(Pz.wD S.told a (p,n,m)).1;have e4:(Pz.kA ax S a p n m).told=Pz.tput S.told a (p,n,m):=rfl;rw[e4]at e2;rw[Ux];unfold Pz.L at e2;lia
 refine s.rd TP.cl TP.nt (Hg A) rfl ⟨_,rfl,A.ta,_,rfl,DPut.t (k:=ak a) u e F,?_⟩;have f:=s.tell (a:=a) (x:=(p,n,m)) (p:=t) ag;have j:aO (aO H t (.tup [.int p,vO n,vO m])) A.ta (.dT (ce kt (ak a) (.ref t))) b=some (.tup (oh a)):=by rw[af (λz=>by rw[z,u]at e;cases e)];exact e
 generalize aO (aO H t (.tup [.int p,vO n,vO m])) A.ta (.dT (ce kt (ak a) (.ref t)))=J at f j;clear s u e s1 F i;have g:=fit.p;have h:=fit.pf;have al:=Pz.gx S.aE (ax p S.last) (p,a);have M:(Pz.kA ax S a p n m).aE=S.aE.app (ax p S.last) (p,a):=rfl;rw[M]at g h;unfold Pz.L at g h;have pr2:RepM k1 IsItem J S.aE xp:=f.p1.r;refine wH (f.fld TP.cl TP.no (Lp A) rfl) f.po.FL (Lq A _) (.c (.va rfl) (.c (.va rfl) .ni)) (.mk ⟨f.po.FL,f.p1.d,by rw[<- pr2.len];lia,pr2.low (by lia)⟩ ?_);intro l N O v R y T C q;have G:=f.p1.d.kt (λ_ _ z=>HO.noConfusion z) q;exact k _ O ⟨_,_,_,f.pile C (pr2.add oj (IsItem.keep G) ⟨N,_,rfl,y,b,rfl,G _ _ j⟩) (λc z=>(k_ z).imp id λz=>by rw[z];exact v) q⟩
def Eo(TP:lB K CP)(P:bu CP CQ B H A rs S xs xl xr xp kt col)(d:H b=some (.tup (oh a)))(fit:Pz.lS (Pz.bc ax S a p n m))
 (k:∀σ H',PAt CP CQ B H' A rs (Pz.bc ax S a p n m) xs xl xr->D.nx σ H'):OJ K CQ D [some (.ref A.o),some (.ref b),some (.int p),some (vO n),some (vO m),some ((c9 kt (ak a)).getD .bn)] H:=by
 unfold Pz.bc at fit k;rcases P.po.tr.find a with⟨e1,e2⟩|⟨v,x,e1,e2,q,rfl,e⟩
 .rw[T2 (show Pz.i7 S a p=true by unfold Pz.i7;rw[e2])]at fit k;rw[e1];exact⟨_,rfl,rfl,_,rfl,wN TP P d fit k⟩
 .rw[e1];refine⟨_,rfl,rfl,_,rfl,?_⟩;refine wI (c:=decide (p<x.1)) (.op (.va rfl) (.ix (.va rfl) e rfl) (λ_ q=>⟨p,x.1,rfl,rfl,q⟩)) (λh=>?_) (λh=>?_)
  .rw[T2 (show Pz.i7 S a p=true by unfold Pz.i7;rw[e2];exact h)]at fit k;exact wN TP P d fit k
  .rw[T9 λz=>by unfold Pz.i7 at z;rw[e2]at z;exact h z]at k;exact k _ H ⟨xp,kt,col,P⟩
def yQ(TP:lB K CP)(d:ve K CQ)(h:fU CP CQ vs H Q E):Em K CQ {nx:=λ_ H'=>Q .bn H',rt:=Q} (cp ["self","arrow","price","number","mid","known"] vs) H:=by
 obtain⟨⟨xp,kt,col,P⟩,c,fit,k⟩:=h
 delta Em dY lU x8
 exact P.rd TP.cl TP.nt (Hg _) rfl ⟨_,rfl,.inr ⟨_,.inl P.po.td⟩,_,rfl,_,DGet.t (k:=ak _) P.po.td c,Eo TP P c fit λ_=>k⟩
def uJ(P:PAt CP CQ B H A rs S xs xl xr)(f:Pz.lS (Pz.bc ax S a p n m))(h:Reads ta σ H (.ref A.o))(d:Makes te σ H (oh a))(e:∀H',Same H H'->ReadsA tr σ H' [.int p,vO n,vO m])(k:∀H',PAt CP CQ B H' A rs (Pz.bc ax S a p n m) xs xl xr->D.nx σ H') :
 fF (gn CP "offer" (fU CP CQ) [] E0 ta (aB te tr)) D σ H:=by
 have g:=P;obtain⟨_,_,_,i⟩:=g;obtain⟨j,l⟩:=i.po.ins;exact h _ ⟨A.o,j,_,rfl,l,rfl,d _ λq c=>e _ (aP c) _ (.mk (P.more (aP c)) ag f k)⟩
end
section
variable{K:XE}{CP CQ:Addr}{B H:Hp}{A:PA}{rs:Pz.RS}{S:Pz.PS}{xs xl xr:DX (List br)}{xp:DX br}{kt:List (List br×V)}{col:Addr->Nat}
theorem bu.obj(P:bu CP CQ B H A rs S xs xl xr xp kt col)(hz:H z=none):¬cE A.ap xp z/\¬cE A.sa xs z/\¬cE A.la xl z/\¬cE A.ar xr z/\z≠A.ta/\z≠A.o/\z≠A.aq:=by
 refine⟨λi=>P.p1.d.obj i hz,λi=>P.p2.d.obj i hz,λi=>P.p3.d.obj i hz,λi=>P.p4.d.obj i hz,λe=>?_,λe=>?_,λe=>?_⟩
 .rw[e,P.po.td]at hz;cases hz
 .obtain⟨_,h⟩:=P.po.ins;rw[e,h]at hz;cases hz
 .obtain⟨_,h⟩:=P.po.FL;rw[e,h]at hz;cases hz
def Hh{α:Type}{it:Hp->α->V->Prop}(F:∀H H',KT H H'->∀x v,it H x v->it H' x v){a:Addr}{f:Str}{q:DX (List br)}{d:Pz.MD (Int×Int) α}(P:bu CP CQ B H A rs S xs xl xr xp kt col)(r:DL .dT H a q)(G:RepM k2 it H d q)
 (cl:vg K CP) (I:NoAttr K CP f) (J:(pf A).lookup f=some (V.ref a)) {σ:L2.St} {j:Nat} {b:Addr} {k:Int×Int} (L:σ[0]?=some (some (.ref A.o))) (M:σ[j]?=some (some (.ref b))) (N:H b=some (.tup [.int k.1,.int k.2])) {Q:VK}
 (C:∀(l:Addr)(vs:List V)(g i:Hp),Same H i->Same B g->KT i g->bu CP CQ g i A rs S xs xl xr xp kt col->i l=some (.lst vs)->(∀h,Same g h->DL .dT h a q->h l=some (.lst vs)/\fE (it h) (d.get k) vs)->Q (.ref l) i) :
 lW (f7 K (aI 0) f) (aI j) (vF bv) σ H Q:=by
 delta lW
 refine P.rd cl I J L ⟨a,rfl,.inr ⟨_,.inl r.root⟩,_,M,UB _,λz hz=>?_⟩;have s1:Same H (aO H z (.lst [])):=aP hz;have s:aO H z (.lst []) b=some (.tup ((k2 k).map kV)):=s1 _ _ N;refine⟨_,DGet.t (s1 _ _ r.root) s,?_⟩;have D:=P.more s1;rcases G.find qU k with⟨m,O,u⟩|⟨p,m,O,u⟩
 .rw[mo,m];obtain⟨g,w,n,E,y⟩:=D.wide (λc=>c=z) λc e=>by subst e;exact P.obj hz
  refine C z [] g _ s1 w n y ag λh s2 _=>⟨s2 _ _ (E z _ rfl ag),?_⟩;rw[u];exact .nil
 .rw[mo,m];obtain⟨g,w,n,E,y⟩:=D.wide (λ_=>False) λ_ e=>e.elim;refine C p.1 p.2 g _ s1 w n y (s1 _ _ (r.rD _ (eB m))) λh s2 R=>⟨R.rD _ (eB m),u.mono (F _ _ λc ws e=>s2 _ _ (n _ _ (s1 _ _ e)))⟩
def Wk(J:L2.It)(g:TG)(tb:TS)(D:Ends)(σ:L2.St)(H:Hp):Prop:=∃W:Nat->Nat->L2.St->Hp->Prop,(∃m,W 0 m σ H)/\∀i m σ H,W i m σ H->
 (J.stop i H/\D.nx σ H)\/(J.go i H/\∃N:L2.St->Hp->Prop,(∀a H',N a H'->∃m',m'<m/\W (i+1) m' a H')/\∀x H',J.FI i H x H'->g x σ H' λb c=>tb {D with nx:=N,ct:=N,bk:=D.nx} b c)
def ol{tb:TS}{D:Ends}{σ:L2.St}(h:tl σ H λx b=>∃a,x=.ref a/\(∃xs,SqL K b a xs)/\Wk (FU K a) g tb D σ b):nL (lD K tl) g tb D σ H:=h
def uK{α:Type}{it:Hp->α->V->Prop}{l:Addr}{vs:List V}{its:List α}{g:TG}{tb:TS}{D:Ends}{σ:L2.St}{h:Hp}(b:L2.St->Prop)(step:Pz.PS->α->Pz.PS)(S0:Pz.PS)(W:Pz.PS->Hp->Prop)(m:b σ)(h1:W S0 h)
 (d:∀S H,W S H->Rd H l (.lst vs)/\fE (it H) its vs)
 (n:∀(i:Nat)(x:α)(v:V)(σ:L2.St)(H:Hp)(j:Ends),its[i]?=some x->it H x v->b σ->W ((its.take i).foldl step S0) H->(∀c H',b c->W (step ((its.take i).foldl step S0) x) H'->j.nx c H')->g v σ H λf o=>tb j f o)
 (hd:∀σ H,b σ->W (its.foldl step S0) H->D.nx σ H):Wk (FU K l) g tb D σ h:=by
 have q:its.length=vs.length:=(d _ _ h1).2.len;refine vD (K:=K) (a:=l) (xs:=vs) (λi σ H=>b σ/\W ((its.take i).foldl step S0) H) ⟨m,h1⟩ (λi σ H _ ⟨_,w⟩=>Or.inl (d _ _ w).1) (λi v σ H p ⟨s,w⟩=>?_) λσ H ⟨s,w⟩=>?_
 .obtain⟨x,k,ix⟩:=(d _ _ w).2.get p;have e:(its.take (i+1)).foldl step S0=step ((its.take i).foldl step S0) x:=by rw[Vs,k,Vt];rfl
  rw[e];exact n i x v σ H _ k ix s w λ_ _=>And.intro
 .rw[UU (by lia)]at w;exact hd σ H s w
def uL{α:Type}{it:Hp->α->V->Prop}(E:∀H H',KT H H'->∀x v,it H x v->it H' x v){a:Addr}{f:Str}{y:DX (List br)}{d:Pz.MD (Int×Int) α}(P:bu CP CQ B H A rs S xs xl xr xp kt col)(F:DL .dT H a y)(G:RepM k2 it H d y)
 (cl:vg K CP) (I:NoAttr K CP f) (J:(pf A).lookup f=some (V.ref a)) {σ:L2.St} {j:Nat} {b:Addr} {k:Int×Int} (L:σ[0]?=some (some (.ref A.o))) (M:σ[j]?=some (some (.ref b))) (N:H b=some (.tup [.int k.1,.int k.2])) {g:TG} {tb:TS} {D:Ends} (n:L2.St->Prop) (step:Pz.PS->α->Pz.PS) (W:Hp->Pz.PS->Hp->Prop) (hs:n σ)
 (O:∀h m,bu CP CQ h m A rs S xs xl xr xp kt col->W h S m) (p:∀h T m,W h T m->Same h m/\DL .dT m a y)
 (Q:∀h (i:Nat) x v σ c (u:Ends),KT H c->(d.get k)[i]?=some x->it c x v->n σ->W h (((d.get k).take i).foldl step S) c->(∀q H',n q->W h (step (((d.get k).take i).foldl step S) x) H'->u.nx q H')->g v σ c λz R=>tb u z R)
 (hd:∀h σ c,Same B h->KT H c->n σ->W h ((d.get k).foldl step S) c->D.nx σ c):nL (lD K (lW (f7 K (aI 0) f) (aI j) (vF bv))) g tb D σ H:=by
 refine ol (Hh E P F G cl I J L M N λl vs h m s1 U X Y C r=>?_);have t:∀T c,W h T c->KT H c:=λT c w a ws e=>(p h T c w).1 _ _ (X _ _ (s1 _ _ e));exact⟨l,rfl,⟨_,SqL.of C⟩,uK (it:=it) n step S (W h) hs (O h m Y) (λT c w=>⟨.inl (r c (p h T c w).1 (p h T c w).2).1,(r c (p h T c w).1 (p h T c w).2).2⟩)
  (λi x v σ c u e1 e2 Z e4=>Q h i x v σ c u (t _ _ e4) e1 e2 Z e4) λσ c s w=>hd h σ c U (t _ _ w) s w⟩
def Tn(a:H b=some (.tup [x,y,z]))(k:Q (((σ.set i (some x)).set j (some y)).set l (some z)) H):iH K 3 (be (aU i) (be (aU j) (be (aU l) iG))) (.ref b) σ H Q:=⟨b,_,rfl,SqT.of a,rfl,_,_,rfl,_,_,rfl,_,_,rfl,rfl,k⟩
def i9{α:Type}{step:Pz.PS->α->Pz.PS}(a:∀S x,Pz.gM S (step S x)){its:List α}{S0:Pz.PS}(h:Pz.lS (its.foldl step S0)){i:Nat}{x:α}(b:its[i]?=some x):Pz.lS (step ((its.take i).foldl step S0) x):=by
 have e:(its.take (i+1)).foldl step S0=step ((its.take i).foldl step S0) x:=by rw[Vs,b,Vt];rfl
 rw[<- e];refine Pz.gM.fit (Pz.cu step a (its.drop (i+1)) _) ?_;rw[<- Vt,V0];exact h
def tM:R2:=AK λi j=>.int (i+j)
def Reads.add(h:Reads ta σ H (.int i))(h':Reads tb σ H (.int j)):Reads (lV tM ta tb) σ H (.int (i+j)):=h.op h' λ_ q=>⟨i,j,rfl,rfl,q⟩
inductive nA(CP CQ:Addr):Sp
 |mk {B H:Hp} {A:PA} {rs:Pz.RS} {S:Pz.PS} {xs xl xr:DX (List br)} {c:Addr} {r:Pz.aV} {num mid price:Int} {Q:VK} {E:XK} (P:PAt CP CQ B H A rs S xs xl xr) (hr:IsRule H r (.ref c)) (h2:2<=r.2.2.2.length) (f:Pz.lS (Pz.first ax S num r mid price))
  (k:∀H' xl',PAt CP CQ B H' A rs (Pz.first ax S num r mid price) xs xl' xr->Q .bn H'):nA CP CQ [.ref A.o,.int num,.ref c,.int mid,.int price] H Q E
def OK(K:XE)(CP CQ:Addr):TS:=fF (gn CP "offer" (fU CP CQ) [] E0 (aI 0) (aB (jW (aB (lV (pZ K) (aI 2) (tC (.int 0))) (aB (lV (pZ K) (aI 2) (tC (.int 1))) (aB (aI 6) bv))))
 (aB (lV tM (lV tM (aI 4) (aI 7)) (tC (.int 1))) (aB (aI 1) (aB (aI 3) bv)))))
def RZ(K:XE)(CP CQ:Addr):TS:=nL (lD K (lW (f7 K (aI 0) "settled") (aI 5) (vF bv))) (iH K 2 (be (aU 6) (be (aU 7) iG))) (OK K CP CQ)
def OL(K:XE)(CP CQ:Addr):TS:=dY (fF (oY K (f7 K (aI 0) "lacking") (aI 5) (jW (aB (aI 1) (aB (aI 2) (aB (aI 4) bv)))))) (RZ K CP CQ)
def Ep(K:XE)(CP CQ:Addr):TS:=dY (lU (jW (aB (aI 3) (aB (lV (pZ K) (lV (pZ K) (aI 2) (tC (.int 3))) (tC (.int 1))) bv))) (aU 5)) (OL K CP CQ)
def wO(h:nA CP CQ vs H Q E):vs.length=5:=by cases h;rfl
def Er(A:PA):(pf A).lookup ("offer" : Str)=none:=rfl
def Hi{l:List Int}(h:2<=l.length):(l.map V.int)[1]?=some (.int (Pz.nth1 l)):=by rcases l with _|⟨_,_|⟨_,_⟩⟩<;>first|rfl|(simp at h)
variable{D:Ends}{σ:L2.St}{b c q:Addr}{r:Pz.aV}{num mid price:Int}
abbrev Rg(r:Pz.aV)(num mid price:Int)(S:Pz.PS)(x:Int×Int):Pz.PS:=Pz.bc ax S (r.1,r.2.1,x.1) (price+x.2+1) (some num) (some mid)
def R0(A:PA)(num:Int)(c:Addr)(mid price:Int)(b:Addr)(σ:L2.St):Prop:=∃u v,σ=[some (.ref A.o),some (.int num),some (.ref c),some (.int mid),some (.int price),some (.ref b),u,v]
def Lu(P:PAt CP CQ B H A rs S xs xl xr)(h:IsSet H x v)(hs:R0 A num c mid price b σ)(e:H c=some (.tup [.int r.1,.int r.2.1,.int r.2.2.1,.ref q]))(f:Pz.lS (Rg r num mid price S x))
 (k:∀a H',R0 A num c mid price b a->PAt CP CQ B H' A rs (Rg r num mid price S x) xs xl xr->D.nx a H'):iH K 2 (be (aU 6) (be (aU 7) iG)) v σ H λd g=>OK K CP CQ D d g:=by
 obtain⟨t,rfl,i⟩:=h;obtain⟨u,w,rfl⟩:=hs;exact IZ i (uJ P f (.va rfl) (.t (.c (.ix (.va rfl) e rfl) (.c (.ix (.va rfl) e rfl) (.c (.va rfl) .ni))) rfl) (λ_ _=>.c (.add (.add (.va rfl) (.va rfl)) .k) (.c (.va rfl) (.c (.va rfl) .ni))) λH'=>k _ H' ⟨_,_,rfl⟩)
def Lx(TP:lB K CP)(P:bu CP CQ B H A rs S xs xl xr xp kt col)(C:H b=some (.tup [.int mid,.int (Pz.nth1 r.2.2.2)]))(E:H c=some (.tup [.int r.1,.int r.2.1,.int r.2.2.1,.ref q]))(J:H q=some (.tup (r.2.2.2.map .int)))(fit:Pz.lS (Pz.first ax S num r mid price))(hs:σ=[some (.ref A.o),some (.int num),some (.ref c),some (.int mid),some (.int price),some (.ref b),none,none])
 (k:∀n H' u,PAt CP CQ B H' A rs (Pz.first ax S num r mid price) xs u xr->D.nx n H'):OL K CP CQ D σ H:=by
 subst hs;have f:Pz.lS (Pz.uF S num r mid price):=Pz.gM.fit (Pz.cu _ (λS x=>Pz.b_ S _ _ _ _) _ _) fit;have F:=f.l;have G:=f.lf;have al:=Pz.gx S.aH (mid,Pz.nth1 r.2.2.2) (num,r,price);have M:(Pz.uF S num r mid price).aH=S.aH.app (mid,Pz.nth1 r.2.2.2) (num,r,price):=rfl;rw[M]at F G;unfold Pz.L at F G;have g:RepM k2 IsLack H S.aH xl:=P.p3.r;refine uH (a:=A.la) (b:=b) (xs:=xl) (k:=k2 (mid,Pz.nth1 r.2.2.2)) (ws:=[.int num,.ref c,.int price]) P.p3.d (P.fld TP.cl TP.nl (OH A) rfl) (.va rfl) C (λH' _=>.t (.c (.va rfl) (.c (.va rfl) (.c (.va rfl) .ni))) rfl) (by rw[<- g.len];lia) (g.low (by lia)) ?_;intro l p N O W Q hd kp;have e:=P.p3.d.kt (λ_ _ z=>HO.noConfusion z) kp;have y:bu CP CQ B N A rs (Pz.uF S num r mid price) xs _ xr _ _ _:=P.uF hd (g.add (k:=(mid,Pz.nth1 r.2.2.2)) (v:=(num,r,price)) qU (IsLack.keep e) ⟨p,_,rfl,Q,c,q,rfl,e _ _ E,e _ _ J⟩) (λc z=>(k_ z).imp id λz=>by rw[z];exact O) kp;exact uL (λH H' k=>IsSet.keep k) y y.p2.d y.p2.r TP.cl TP.ns (OG A) (j:=5) (k:=(mid,Pz.nth1 r.2.2.2)) rfl rfl (e _ _ C) (R0 A num c mid price b) (Rg r num mid price) (λh T m=>PAt CP CQ h m A rs T xs _ xr) ⟨none,none,rfl⟩ (λh R P=>⟨_,_,_,P⟩)
  (λh T R ⟨_,_,_,P⟩=>⟨P.same,P.p2.d⟩) (λh i x v σ m X I e1 e2 U e4 k=>Lu e4 e2 U (I _ _ (e _ _ E)) (i9 (step:=Rg r num mid price) (λS x=>Pz.b_ S _ _ _ _) fit e1) k) λh σ m V I s w=>k σ m _ (w.less V)
def yR{vs:List V}(TP:lB K CP)(h:nA CP CQ vs H Q E):Ep K CP CQ {nx:=λ_ H'=>Q .bn H',rt:=Q} (cp ["self","number","rule","mid","price","start","state","second"] vs) H:=by
 obtain⟨⟨xp,kt,col,P⟩,⟨_,q,f,d,e⟩,g,fit,k⟩:=h;cases f
 delta Ep dY lU
 exact Li (.c (.va rfl) (.c (.ix (.ix (.va rfl) d rfl) e (zr (j:=1) (Hi g))) .ni)) rfl λb a=>Lx TP (P.more (aP a)) ag (aP a _ _ d) (aP a _ _ e) fit rfl λ_=>k
end
section
variable{K:XE}{CP CQ:Addr}{B H:Hp}{A:PA}{rs:Pz.RS}{S:Pz.PS}{xs xl xr:DX (List br)}{xp:DX br}{kt:List (List br×V)}{col:Addr->Nat}
def wQ(K:XE):List V->Hp->VK->Prop:=λxs H Q=>∃p a,xs=[.ref p]/\(SqL K H p a\/SqT K H p a)/\Q (.int a.length) H
def om:CallR X (.builtin "len") (wQ X.K):=call_len_seq
abbrev tI(K:XE)(i:Nat)(n:Int):TE:=lV (pZ K) (aI i) (tC (.int n))
def uM(rs:Pz.RS):Prop:=∀k x,x∈rs.get k->1<=x.2.2.2.2.length
inductive kR(CP CQ:Addr):Sp
 |mk {B H:Hp} {A:PA} {rs:Pz.RS} {S:Pz.PS} {xs xl xr:DX (List br)} {b:Addr} {a:Pz.bb} {price:Int} {Q:VK} {E:XK} (P:PAt CP CQ B H A rs S xs xl xr) (ha:H b=some (.tup (oh a))) (rok:uM rs) (f:Pz.lS (Pz.settle ax rs S a price))
  (k:∀H' xs' xl',PAt CP CQ B H' A rs (Pz.settle ax rs S a price) xs' xl' xr->Q .bn H'):kR CP CQ [.ref A.o,.ref b,.int price] H Q E
def OM(K:XE)(CP CQ:Addr):TS:=xN (oP (lV Nz (F4 (wQ K) (aB (tI K 5 3) bv)) (tC (.int 1))))
 (fF (gn CP "offer" (fU CP CQ) [] E0 (aI 0) (aB (jW (aB (tI K 5 0) (aB (tI K 5 1) (aB (tI K 1 2) bv)))) (aB (lV tM (aI 2) (tC (.int 1))) (aB (aI 4) (aB (tC .bn) bv))))))
 (fF (gn CP "settle_first" (nA CP CQ) [] E0 (aI 0) (aB (aI 4) (aB (aI 5) (aB (tI K 1 2) (aB (aI 2) bv))))))
def R3(K:XE)(CP CQ:Addr):TS:=nL (lD K (lW (f7 K (aI 0) "rules") (aI 3) (vF bv))) (iH K 2 (be (aU 4) (be (aU 5) iG))) (OM K CP CQ)
def ON(K:XE)(CP CQ:Addr):TS:=fF (gn CP "offer" (fU CP CQ) [] E0 (aI 0) (aB (jW (aB (tI K 5 0) (aB (tI K 5 1) (aB (tI K 1 2) bv)))) (aB (lV tM (lV tM (aI 6) (aI 2)) (tC (.int 1))) (aB (aI 4) (aB (tI K 1 0) bv)))))
def R4(K:XE)(CP CQ:Addr):TS:=dY (nL (lD K (lW (f7 K (aI 0) "lacking") (aI 3) (vF bv))) (iH K 3 (be (aU 4) (be (aU 5) (be (aU 6) iG)))) (ON K CP CQ)) (R3 K CP CQ)
def OO(K:XE)(CP CQ:Addr):TS:=dY (fF (oY K (f7 K (aI 0) "settled") (aI 3) (jW (aB (tI K 1 2) (aB (aI 2) bv))))) (R4 K CP CQ)
def Ac(K:XE)(CP CQ:Addr):TS:=dY (lU (jW (aB (tI K 1 0) (aB (tI K 1 1) bv))) (aU 3)) (OO K CP CQ)
def uN(h:kR CP CQ vs H Q E):vs.length=3:=by cases h;rfl
def Es(A:PA):(pf A).lookup ("settle_first" : Str)=none:=rfl
def Reads.len(h:Reads ta σ H (.ref q))(a:H q=some (.tup ws)):Reads (F4 (wQ K) (aB ta bv)) σ H (.int ws.length):=λ_ k=>h _ ⟨q,ws,rfl,.inr (SqT.of a),k⟩
def Reads.SM(h:Reads ta σ H (.int m))(h':Reads tb σ H (.int n)):Reads (lV Nz ta tb) σ H (.bl (decide (m=n))):=h.op h' λ_ q=>⟨rfl,by rw[show decide (V.int m=V.int n)=decide (m=n)from decide_eq_decide.mpr ⟨λe=>by injection e,λe=>by rw[e]⟩];exact q⟩
variable{D:Ends}{σ:L2.St}{b b0:Addr}{a:Pz.bb}{price:Int}
def NF(A:PA)(b0:Addr)(price:Int)(b:Addr)(σ:L2.St):Prop:=∃u v w,σ=[some (.ref A.o),some (.ref b0),some (.int price),some (.ref b),u,v,w]
def R5(P:PAt CP CQ B H A rs S xs xl xr)(h:IsLack H x v)(hs:NF A b0 price b σ)(ha:H b0=some (.tup (oh a)))(f:Pz.lS (Pz.oX ax a price S x))
 (k:∀d H',NF A b0 price b d->PAt CP CQ B H' A rs (Pz.oX ax a price S x) xs xl xr->D.nx d H'):iH K 3 (be (aU 4) (be (aU 5) (be (aU 6) iG))) v σ H λe i=>ON K CP CQ D e i:=by
 obtain⟨t,_,rfl,j,c,q,rfl,g,l⟩:=h;obtain⟨u,w,z,rfl⟩:=hs;exact Tn j (uJ P f (.va rfl) (.t (.c (.ix (.va rfl) g rfl) (.c (.ix (.va rfl) g rfl) (.c (.ix (.va rfl) ha rfl) .ni))) rfl) (λ_ s=>.c (.add (.add (.va rfl) (.va rfl)) .k) (.c (.va rfl) (.c (.ix (.va rfl) (s _ _ ha) rfl) .ni))) λH'=>k _ H' ⟨_,_,_,rfl⟩)
def R7(P:PAt CP CQ B H A rs S xs xl xr)(h:IsNum H x v)(hs:NF A b0 price b σ)(ha:H b0=some (.tup (oh a)))(p:1<=x.2.2.2.2.length)(f:Pz.lS (Pz.cL ax a price S x))
 (k:∀e H',NF A b0 price b e->(∃d,PAt CP CQ B H' A rs (Pz.cL ax a price S x) xs d xr)->D.nx e H'):iH K 2 (be (aU 4) (be (aU 5) iG)) v σ H λj m=>OM K CP CQ D j m:=by
 obtain⟨t,_,rfl,n,c,q,rfl,i,l⟩:=h;obtain⟨u,w,z,rfl⟩:=hs;unfold Pz.cL at f k;have e1:(((x.2.2.2.2.map V.int).length:Nat):Int)=1↔x.2.2.2.2.length=1:=by rw[TZ];lia
 refine IZ n (wI (.SM (.len (.ix (.va rfl) i rfl) l) .k) (λh=>?_) λh=>?_)
 .rw[T2 (e1.mp (UZ h))]at f k;exact uJ P f (.va rfl) (.t (.c (.ix (.va rfl) i rfl) (.c (.ix (.va rfl) i rfl) (.c (.ix (.va rfl) ha rfl) .ni))) rfl) (λ_ s=>.c (.add (.va rfl) .k) (.c (.va rfl) (.c .k .ni))) λH' g=>k _ H' ⟨_,_,_,rfl⟩ ⟨_,g⟩
 .have h1:¬x.2.2.2.2.length=1:=λz=>h (Uj (e1.mpr z));have o:2<=x.2.2.2.2.length:=by lia
  rw[T9 h1]at f k;have g:=P;obtain⟨_,_,_,Q⟩:=g;exact wH (.va rfl) Q.po.ins (Es A) (.c (.va rfl) (.c (.va rfl) (.c (.ix (.va rfl) ha rfl) (.c (.va rfl) .ni)))) (.mk P ⟨c,q,rfl,i,l⟩ o f λH' d g=>k _ H' ⟨_,_,_,rfl⟩ ⟨d,g⟩)
def R8(TP:lB K CP)(P:bu CP CQ B H A rs S xs xl xr xp kt col)(ha:H b0=some (.tup (oh a)))(F:H b=some (.tup [.int a.1,.int a.2.1]))(G:uM rs)(fit:Pz.lS (Pz.settle ax rs S a price))(hs:σ=[some (.ref A.o),some (.ref b0),some (.int price),some (.ref b),none,none,none])
 (k:∀I H' J e,PAt CP CQ B H' A rs (Pz.settle ax rs S a price) J e xr->D.nx I H'):OO K CP CQ D σ H:=by
 subst hs;have g2:Pz.gM ((S.aH.get (a.1,a.2.1)).foldl (Pz.oX ax a price) (Pz.note S a price)) (Pz.settle ax rs S a price):=Pz.cu _ (Pz.ml a price) _ _;have h:=g2.fit fit;have m:Pz.lS (Pz.note S a price):=Pz.gM.fit (Pz.cu _ (λS x=>Pz.b_ S _ _ _ _) _ _) h;have U:=m.s;have V:=m.sf;have al:=Pz.gx S.settled (a.1,a.2.1) (a.2.2,price);have X:(Pz.note S a price).settled=S.settled.app (a.1,a.2.1) (a.2.2,price):=rfl;rw[X]at U V;unfold Pz.L at U V;have n:RepM k2 IsSet H S.settled xs:=P.p2.r;refine uH (a:=A.sa) (b:=b) (xs:=xs) (k:=k2 (a.1,a.2.1)) (ws:=[.int a.2.2,.int price]) P.p2.d (P.fld TP.cl TP.ns (OG A) rfl) (.va rfl) F (λH' kp=>.t (.c (.ix (.va rfl) (kp _ _ ha (λz=>by rw[z,P.p2.d.root]at ha;cases ha)) rfl) (.c (.va rfl) .ni)) rfl) (by rw[<- n.len];lia) (n.low (by lia)) ?_;intro l p Y Z hp hm hd kp;have f:=P.p2.d.kt (λ_ _ z=>HO.noConfusion z) kp;have y:bu CP CQ B Y A rs (Pz.note S a price) _ xl xr _ _ _:=P.SO hd (n.add (k:=(a.1,a.2.1)) (v:=(a.2.2,price)) qU (IsSet.keep f) ⟨p,rfl,hm⟩) (λc z=>(k_ z).imp id λz=>by rw[z];exact Z) kp;generalize og xs (k2 (a.1,a.2.1)) l (.ref p)=q at y;refine uL (λH H' k=>IsLack.keep k) y y.p3.d y.p3.r TP.cl TP.nl (OH A) (j:=3) (k:=(a.1,a.2.1)) rfl rfl (f _ _ F) (NF A b0 price b) (Pz.oX ax a price) (λg T M=>PAt CP CQ g M A rs T q xl xr) ⟨none,none,none,rfl⟩ (λg N P=>⟨_,_,_,P⟩)
  (λg T N ⟨_,_,_,P⟩=>⟨P.same,P.p3.d⟩) (λg i x v σ M D' C e1 e2 O e4 k=>R5 e4 e2 O (C _ _ (f _ _ ha)) (i9 (step:=Pz.oX ax a price) (λS x=>Pz.b_ S _ _ _ _) h e1) k) λg σ M b1 C s w=>?_
 obtain⟨u,v,z,rfl⟩:=s;obtain⟨_,_,_,Q⟩:=w;have R:=C _ _ (f _ _ ha);exact uL (λH H' k=>IsNum.keep k) Q Q.p4.d Q.p4.r TP.cl TP.nr (RY A) (j:=3) (k:=(a.1,a.2.1)) rfl rfl (C _ _ (f _ _ F)) (NF A b0 price b) (Pz.cL ax a price) (λg T E=>∃e,PAt CP CQ g E A rs T q e xr) ⟨_,_,_,rfl⟩ (λg N P=>⟨_,_,_,_,P⟩)
  (λg T N ⟨_,_,_,_,P⟩=>⟨P.same,P.p4.d⟩) (λg i x v σ E D' W e1 e2 O ⟨_,e4⟩ k=>R7 e4 e2 O (W _ _ R) (G _ _ (Uz e1)) (i9 (step:=Pz.cL ax a price) (Pz.ml a price) fit e1) k) λB2 σ E b2 W s ⟨e,w⟩=>k σ E _ e (w.less (b1.trans b2))
def wR(TP:lB K CP)(h:kR CP CQ vs H Q E):Ac K CP CQ {nx:=λ_ H'=>Q .bn H',rt:=Q} (cp ["self","arrow","price","start","number","rule","first"] vs) H:=by
 obtain⟨⟨xp,kt,col,P⟩,ha,d,fit,k⟩:=h
 delta Ac dY lU
 exact Li (.c (.ix (.va rfl) ha rfl) (.c (.ix (.va rfl) ha rfl) .ni)) rfl λb e=>R8 TP (P.more (aP e)) (aP e _ _ ha) ag d fit rfl λ_=>k
end
section
variable{K:XE}{CP CQ:Addr}{B H H':Hp}{A:PA}{rs:Pz.RS}{S:Pz.PS}{xs xl xr:DX (List br)}{xp:DX br}{kt:List (List br×V)}{col:Addr->Nat}
def bu.Bx(h:bu CP CQ B H A rs S xs xl xr xp kt col)(l:∃b,H' A.aq=some (.ins CQ b (qf A m)))(h1:DL .dK H' A.ap xp')(o:RepM k1 IsItem H' d' xp')(p:∀c,cE A.ap xp' c->cE A.ap xp c\/H c=none)
 (kp:∀c u,H c=some u->¬cE A.ap xp c->c≠A.aq->H' c=some u):bu CP CQ B H' A rs {S with last:=m,aE:=d'} xs xl xr xp' kt (uI col 1 H):=by
 obtain⟨t,f⟩:=h.po.FL;have k:KT H H':=λc ws e=>kp c _ e (λi=>by
  rcases i with rfl|⟨x,q,rfl⟩
  .rw[h.p1.d.root]at e;cases e
  .rw[h.p1.d.rD x q]at e;cases e) λz=>by rw[z,f]at e;cases e
 have a:∀c u,H c=some u->col c≠1->col c≠7->H' c=some u:=λc u e n r=>kp c u e (λi=>n (h.p1.c c i).1) λz=>r (by rw[z];exact h.po.c7.1);obtain⟨⟨b,g⟩,_,j,s,c5,c6,c7⟩:=h.po;refine⟨(λc u e=>kp c u (h.same c u e) (λi=>by rw[(h.p1.c c i).2]at e;cases e) λz=>by rw[z,c7.2]at e;cases e),h.p1.new h.same h1 o p,h.p2.keep (IsSet.keep k) (λc u e z=>a c u e (by lia) (by lia)) λc=>bz,h.p3.keep (IsLack.keep k) (λc u e z=>a c u e (by lia) (by lia)) λc=>bz,h.p4.keep (IsNum.keep k) (λc u e z=>a c u e (by lia) (by lia)) λc=>bz,⟨b,a _ _ g (by lia) (by lia)⟩,l,a _ _ j (by lia) (by lia),s.keep k,?_,?_,?_⟩
 .rw[bz (by rw[j];simp)];exact c5
 .rw[bz (by rw[g];simp)];exact c6
 .rw[bz (by rw[f];simp)];exact c7
inductive xH(CP CQ:Addr):Sp
 |mk {B H:Hp} {A:PA} {rs:Pz.RS} {S T:Pz.PS} {xs xl xr:DX (List br)} {n:Nat} {Q:VK} {E:XK} (P:PAt CP CQ B H A rs S xs xl xr) (rok:uM rs) (fit:Pz.lS S) (lp:Pz.Loop ax rs n S T) (k:∀H' xs' xl',PAt CP CQ B H' A rs T xs' xl' xr->Q .bn H'):xH CP CQ [.ref A.o] H Q E
def OP(K:XE)(CP CQ:Addr):TS:=xN (oP (lV Nz (lV (pZ K) (IJ (f7 K (aI 0) "told") (aI 2)) (tC (.int 0))) (aI 1))) (fF (gn CP "settle" (kR CP CQ) [] E0 (aI 0) (aB (aI 2) (aB (aI 1) bv)))) vA
def OQ(K:XE)(CP CQ:Addr):TS:=nL (lD K (gn CQ "take_lowest" (rF CQ) [] E0 (f7 K (aI 0) "offers") bv)) (iH K 2 (be (aU 1) (be (aU 2) iG))) (OP K CP CQ)
def R9(K:XE)(CP CQ:Addr):TS:=Cs (NO (tB (gn CQ "is_empty" (nB CQ) [] E0 (f7 K (aI 0) "offers") bv))) (OQ K CP CQ)
def BJ(h:xH CP CQ vs H Q E):vs.length=1:=by cases h;rfl
def Ly(A:PA)(last:Int):(qf A last).lookup ("is_empty" : Str)=none:=rfl
def Hj(A:PA)(last:Int):(qf A last).lookup ("take_lowest" : Str)=none:=rfl
def BK(A:PA):(pf A).lookup ("settle" : Str)=none:=rfl
variable{D:Ends}{σ:L2.St}{T:Pz.PS}{m:Nat}
def OR(A:PA)(σ:L2.St):Prop:=∃u v,σ=[some (.ref A.o),u,v]
def wA(CP CQ:Addr)(B:Hp)(A:PA)(rs:Pz.RS)(xr:DX (List br))(T:Pz.PS)(m:Nat)(σ:L2.St)(H:Hp):Prop:=OR A σ/\∃S xs xl,PAt CP CQ B H A rs S xs xl xr/\Pz.lS S/\Pz.Loop ax rs m S T
def To(TP:lB K CP)(g:uM rs)(P:PAt CP CQ B H A rs S xs xl xr)(h:IsItem H x v)(hs:OR A σ)(n:Pz.bF S.told x.2≠none)(f:Pz.lS (Pz.turn ax rs S x))
 (k:∀e H',OR A e->(∃a d,PAt CP CQ B H' A rs (Pz.turn ax rs S x) a d xr)->D.nx e H'):iH K 2 (be (aU 1) (be (aU 2) iG)) v σ H λi o=>OP K CP CQ D i o:=by
 obtain⟨t,_,rfl,p,b,rfl,l⟩:=h;obtain⟨u,w,rfl⟩:=hs;have j:=P;obtain⟨_,_,_,Q⟩:=j;rcases Q.po.tr.find x.2 with⟨_,e2⟩|⟨_,y,e1,e2,q,rfl,r⟩
 .exact(n e2).elim
 unfold Pz.turn Pz.NE at f k;rw[e2]at f k;refine IZ p (wI (.SM (.ix (λ_ z=>Q.fld TP.cl TP.nt (Hg A) rfl _ ⟨_,rfl,A.ta,.ref q,rfl,by rw[<- e1];exact DGet.t Q.po.td l,z⟩) r rfl) (.va rfl)) (λh=>?_) λh=>?_)
 .rw[T2 h]at f k;exact wH (.va rfl) Q.po.ins (BK A) (.c (.va rfl) (.c (.va rfl) .ni)) (.mk P l g f λH' a d j=>k _ H' ⟨_,_,rfl⟩ ⟨a,d,j⟩)
 .rw[T9 h]at k;exact k _ H ⟨_,_,rfl⟩ ⟨xs,xl,P⟩
def Tp(TP:lB K CP)(q:uM rs)(P:bu CP CQ B H A rs S xs xl xr xp kt col)(fit:Pz.lS S)(hs:OR A σ)(t:S.aE≠[])(aT:Pz.xM ax S.last S.aE)(y:∀x∈Pz.eh ax S.aE,Pz.bF S.told x.2≠none)(g:Pz.lS (Pz.batch ax rs (Pz.take ax S) (Pz.eh ax S.aE)))
 (lp:Pz.Loop ax rs m (Pz.batch ax rs (Pz.take ax S) (Pz.eh ax S.aE)) T) (k:∀j H',wA CP CQ B A rs xr T m j H'->D.nx j H'):OQ K CP CQ D σ H:=by
 obtain⟨u,v,rfl⟩:=hs;have pr:RepM k1 IsItem H S.aE xp:=P.p1.r;have N:=fit.p;have O:=fit.pf;unfold Pz.L at N O;refine ol (wH (P.fld TP.cl TP.no (Lp A) rfl) P.po.FL (Hj A _) .ni (.mk ⟨P.po.FL,P.p1.d,by rw[<- pr.len];lia,pr.low (by lia)⟩ pr aT t (by lia) ?_));intro l vs' C Q I R n U nl il o E;have V:bu CP CQ B Q A rs (Pz.take ax S) xs xl xr C kt _:=P.Bx (m:=Pz.lowP S.aE) (d':=Pz.left ax S.aE) I.ins I.aE R o E;obtain⟨F,W,X,Y,Z⟩:=V.wide (λc=>c=l) λc e=>by
  subst e;rcases il with il|il
  .have G:=(P.p1.c c il).1;refine⟨nl,λi=>?_,λi=>?_,λi=>?_,λz=>?_,λz=>?_,λz=>?_⟩
   .have:=(P.p2.c c i).1;lia
   .have:=(P.p3.c c i).1;lia
   .have:=(P.p4.c c i).1;lia
   .have:=P.po.c5.1;rw[z]at G;lia
   .have:=P.po.c6.1;rw[z]at G;lia
   .have:=P.po.c7.1;rw[z]at G;lia
  .exact⟨nl,(P.obj il).2⟩
 have J:∀h a,(∃b f,PAt CP CQ F a A rs h b f xr)->Same F a:=λh a ⟨_,_,_,_,_,P⟩=>P.same;exact⟨l,rfl,⟨_,SqL.of n⟩,uK (it:=IsItem) (OR A) (Pz.turn ax rs) (Pz.take ax S) (λh a=>∃b f,PAt CP CQ F a A rs h b f xr) ⟨_,_,rfl⟩ ⟨xs,xl,_,_,_,Z⟩ (λh a w=>⟨.inl (J h a w _ _ (Y l _ rfl n)),U.mono (IsItem.keep λc ws e=>J h a w _ _ (X _ _ e))⟩)
  (λi x v σ a D' M ix s ⟨_,_,w⟩ k=>To TP q w ix s (Pz.kC _ (λS x k=>Pz.G7 k) _ _ (y x (Uz M))) (i9 (step:=Pz.turn ax rs) Pz.Bz g M) k) λσ a s ⟨b,f,w⟩=>k σ a ⟨s,_,b,f,w.less W,g,lp⟩⟩
def Et(TP:lB K CP)(h:xH CP CQ vs H Q E):R9 K CP CQ {nx:=λ_ H'=>Q .bn H',rt:=Q} (cp ["self","price","arrow"] vs) H:=by
 obtain @⟨B,H,A,rs,S,T,xs,xl,xr,n,Q,E,P,rok,fit,lp,k⟩:=h;refine⟨wA CP CQ B A rs xr T,⟨n,⟨none,none,rfl⟩,S,xs,xl,P,fit,lp⟩,?_⟩;clear P lp fit;rintro m σ H ⟨hs,S,xs,xl,⟨xp,kt,col,P⟩,fit,lp⟩;have g:σ[0]?=some (some (.ref A.o)):=by obtain⟨_,_,rfl⟩:=hs;rfl
 have el:xp.kv.length=S.aE.length:=by unfold DX.kv;rw[TZ,<- P.p1.r.len]
 obtain⟨i,f⟩:=P.po.FL;have j:=fit.p;unfold Pz.L at j;refine wH (P.fld TP.cl TP.no (Lp A) g) ⟨i,f⟩ (Ly A _) .ni (.mk f P.p1.d.root (by rw[el,Ux];lia) ⟨_,rfl,?_⟩);rw[el];cases lp with
 |done e=>rw[e];exact x9 (k H xs xl ⟨xp,kt,col,P⟩)
 |@step m _ _ a aT c _ b lp=>rw[Ur λz=>a (UQ.mp z)];exact vQ ⟨wA CP CQ B A rs xr T m,λl H' h'=>⟨m,VX _,h'⟩,Tp TP rok P fit hs a aT c b lp λ_ _=>id⟩
end
section
variable{K:XE}{H:Hp}
def Ad{tb:TS}{D:Ends}{σ:L2.St}{f:Hp}(b:L2.St->Prop)(W:Nat->Hp->Prop)(j:b σ)(h1:W 0 f)(k:∀i H,W i H->SqL K H l vs)
 (n:∀(i:Nat)(v:V)(p:Addr)(σ:L2.St)(H:Hp)(h:Ends),vs[i]?=some v->H p=none->b σ->W i H->(∀a H',b a->W (i+1) H'->h.nx a H')->g (.ref p) σ (aO H p (.tup [.int (i:Nat),v])) λd o=>tb h d o)
 (hd:∀σ H,b σ->W vs.length H->D.nx σ H):Wk (Ra K l) g tb D σ f:=by
 refine⟨λi m σ H=>m=vs.length-i/\i<=vs.length/\b σ/\W i H,⟨vs.length,by simp,UB _,j,h1⟩,?_⟩;rintro i m σ H ⟨rfl,u,s,w⟩;have q:=k i H w;by_cases c:i<vs.length
 .refine .inr ⟨⟨vs,vs[i],q,by simp[c]⟩,λa H'=>b a/\W (i+1) H',λa H' r=>⟨vs.length-(i+1),by lia,rfl,c,r⟩,λx H' y=>?_⟩;obtain⟨p,v,t,rfl,rfl,y⟩:=y;exact n i v p σ H _ (y vs q) t s w λ_ _=>And.intro
 .have e:i=vs.length:=by lia
  subst e;exact .inl ⟨⟨vs,q,TY _⟩,hd σ H s w⟩
def tO{tb:TS}{D:Ends}{σ:L2.St}(h:ta σ H λvs b=>∃a xs,vs=[.ref a]/\SqL K b a xs/\Wk (Ra K a) g tb D σ b):nL (zS K ta) g tb D σ H:=h
theorem yS:∀(l:List Pz.aV)(k i:Nat),(Pz.en l k)[i]?=(l[i]?).map λr=>(((k+i:Nat):Int),r)
 |[],k,i=>by simp[Pz.en]
 |r::l,k,0=>by simp[Pz.en]
 |r::l,k,i+1=>by show(Pz.en l (k+1))[i]?=(l[i]?).map _;rw[yS l];congr 1;funext r;congr 2;lia
def Ae{a:Type}(f:a->Int×Pz.aV->a)(b:a){l:List Pz.aV}{i:Nat}{r:Pz.aV}(h:l[i]?=some r):((Pz.en l 0).take (i+1)).foldl f b=f (((Pz.en l 0).take i).foldl f b) ((i:Int),r):=by
 have e:(Pz.en l 0)[i]?=some ((i:Int),r):=by rw[yS,h];simp
 rw[Vs,e,Vt];rfl
structure iF(H:Hp) (RL:List Pz.aV) (p l:Addr) (vs:List V):Prop where
 tup:∃w0 w1,H p=some (.tup [w0,w1,.ref l])
 lst:Rd H l (.lst vs)
 its:fE (IsRule H) RL vs
def jm(s:Same H H')(h:Rd H a u):Rd H' a u:=h.imp (s a _) λ⟨o,e⟩=>⟨o,s a _ e⟩
def iF.same(h:iF H RL p l vs)(s:Same H H'):iF H' RL p l vs:=⟨let ⟨a,b,e⟩:=h.tup;⟨a,b,s _ _ e⟩,jm s h.lst,h.its.mono (IsRule.keep (pJ s))⟩
inductive Fx:Sp
 |mk {RL:List Pz.aV} {p l:Addr} {ws:List V} {H:Hp} {Q:VK} {E:XK} (G:iF H RL p l ws) (bq:RL.length<16000000) (k:∀(ar:Addr)(xr:DX (List br))(H':Hp),Same H H'->DL .dT H' ar xr->RepM k2 IsNum H' (Pz.bO RL) xr->(∀c,cE ar xr c->H c=none)->Q (.ref ar) H'):Fx [.ref p] H Q E
def Tq:R2:=AK λi j=>.bl (decide (j<i))
def OS(K:XE):TS:=xN (oP (lV Tq (F4 (wQ K) (aB (tI K 3 3) bv)) (tC (.int 0)))) (fF (oY K (aI 1) (jW (aB (tI K 3 2) (aB (lV (pZ K) (tI K 3 3) (tC (.int 0))) bv))) (jW (aB (aI 2) (aB (aI 3) bv))))) vA
def R_(K:XE):TS:=dY (nL (zS K (aB (tI K 0 2) bv)) (iH K 2 (be (aU 2) (be (aU 3) iG))) (OS K)) (tU (aI 1))
def Tr(K:XE):TS:=dY (lU nP (aU 1)) (R_ K)
def Eu(h:Fx vs H Q E):vs.length=1:=by cases h;rfl
def BL(c:Reads to σ H (.ref a))(d:H a=some (.dT kvs))(e:Makes tk σ H ks)(h:∀b,H b=none->oY K (tC (.ref a)) (tC (.ref b)) te σ (aO H b (.tup ks)) Q):oY K to tk te σ H Q:=c _ ⟨.inr (.inr (.inl ⟨rfl,.inr ⟨_,d⟩⟩)),e _ λb f=>(h b f).2⟩
def Ew{m:Type}{it:Hp->m->V->Prop}(kp:∀{H H':Hp},KT H H'->∀a v,it H a v->it H' a v){to tk w:TE}{σ:L2.St}{ar:Addr}{g:DX (List br)}{d:Pz.MD (Int×Int) m}{k:Int×Int}{v:m}{ws:List V}{C:Hp->Prop}(j:DL .dT H ar g)(R2:RepM k2 it H d g)(ok:d.Ok)(nJ:d.flat.length<16000000)(x:Reads to σ H (.ref ar))(y:Makes tk σ H [.int k.1,.int k.2])(A:∀H',KT H H'->Makes w σ H' ws)(B:∀p H',KT H H'->H' p=some (.tup ws)->it H' v (.ref p))
 (D:∀H' f,DL .dT H' ar f->RepM k2 it H' (d.app k v) f->(∀c,cE ar f c->cE ar g c\/H c=none)->(∀c u,H c=some u->¬cE ar g c->H' c=some u)->C H'):oY K to tk w σ H λ_ H'=>C H':=by
 refine BL x j.root y λb E=>?_;have l:=aP (o:=HO.tup [.int k.1,.int k.2]) E;refine uH (a:=ar) (b:=b) (xs:=g) (k:=k2 k) (ws:=ws) (j.keep λc u e _=>l c u e) .k .k ag (λH' kp=>A H' λc vs e=>kp c _ (l _ _ e) λz=>by rw[z,j.root]at e;cases e) (by rw[<- R2.len];have:=Pz.jj ok;lia) (R2.low nJ) ?_;intro I F n q G r s t;have h:∀c u,H c=some u->¬cE ar g c->n c=some u:=λc u e=>t c u (l _ _ e);have i:=j.kt (λ_ _ z=>HO.noConfusion z) h;exact D n _ s (R2.add (k:=k) (v:=v) qU (kp i) (B F n i r)) (λc z=>(k_ z).imp id λz=>by rw[z];exact l.free q) h
variable{D:Ends}{σ:L2.St}{p ar pp c q:Addr}{r:Pz.aV}{n:Int}{xr:DX (List br)}{d:Pz.RS}
def Sa(p ar:Addr)(σ:L2.St):Prop:=∃u v,σ=[some (.ref p),some (.ref ar),u,v]
def Ts(o:DL .dT H ar xr)(R2:RepM k2 IsNum H d xr)(ok:d.Ok)(nJ:d.flat.length<16000000)(hs:Sa p ar σ)(g:H pp=some (.tup [.int n,.ref c]))(f:H c=some (.tup [.int r.1,.int r.2.1,.int r.2.2.1,.ref q]))(i:H q=some (.tup (r.2.2.2.map .int)))
 (k:∀b H' a,Sa p ar b->DL .dT H' ar a->RepM k2 IsNum H' (Pz.iD d (n,r)) a->(∀c,cE ar a c->cE ar xr c\/H c=none)->(∀c u,H c=some u->¬cE ar xr c->H' c=some u)->D.nx b H'):iH K 2 (be (aU 2) (be (aU 3) iG)) (.ref pp) σ H λl s=>OS K D l s:=by
 obtain⟨u,w,rfl⟩:=hs;have e2:(0:Int)<(((r.2.2.2.map V.int).length:Nat):Int)↔r.2.2.2.length>0:=by rw[TZ];lia
 unfold Pz.iD at k;refine IZ g (wI (.op (.len (.ix (.va rfl) f rfl) i) .k λ_ q=>⟨_,_,rfl,rfl,q⟩) (λh=>?_) λh=>?_)
 .have h1:=e2.mp (UZ h);rw[T2 h1]at k;have m:(r.2.2.2.map V.int)[0]?=some (.int (r.2.2.2[0]?.getD 0)):=by
   cases A:r.2.2.2 with
   |nil=>rw[A]at h1;simp at h1
   |cons x y=>rfl
  exact Ew (k:=(r.2.2.1,r.2.2.2[0]?.getD 0)) (v:=(n,r)) (λk=>IsNum.keep k) o R2 ok nJ (.va rfl) (.t (.c (.ix (.va rfl) f rfl) (.c (.ix (.ix (.va rfl) f rfl) i (zr (j:=0) m)) .ni)) rfl) (λH' _=>.t (.c (.va rfl) (.c (.va rfl) .ni)) rfl) (λp H' kt B=>⟨p,_,rfl,B,c,q,rfl,kt _ _ f,kt _ _ i⟩) λH' a=>k _ H' a ⟨_,_,rfl⟩
 .rw[T9 λz=>h (Uj (e2.mpr z))]at k;exact k _ H _ ⟨_,_,rfl⟩ o R2 (λc=>.inl) λc u e _=>e
def Hk{Q:VK}{E:XK}(h:Fx vs H Q E):Tr K {nx:=λ_ H'=>Q .bn H',rt:=Q} (cp ["house","rules","number","rule"] vs) H:=by
 obtain @⟨RL,p,l,ws,H,Q,E,G,bq,k⟩:=h;intro ar j;have s1:Same H (aO H ar (.dT [])):=aP j;obtain⟨S,T,F⟩:=(G.same s1).tup;have bl:∀i,(((Pz.en RL 0).take i).foldl Pz.iD []).Ok/\(((Pz.en RL 0).take i).foldl Pz.iD []).flat.length<16000000:=λi=>by obtain⟨a,b⟩:=Pz.yL ((Pz.en RL 0).take i) [] Pz.tL;have h1:=Wr i (Pz.en RL 0);rw[Pz.qS]at h1;have C:(Pz.MD.flat ([]:Pz.RS)).length=0:=rfl;exact⟨a,by lia⟩
 refine tO (ReadsA.c (.ix (.va (i:=0) rfl) F (v:=.ref l) rfl) .ni _ ⟨l,ws,rfl,.inl (jm s1 G.lst),?_⟩);refine Ad (Sa p ar) (λi g=>∃xr,Same H g/\DL .dT g ar xr/\RepM k2 IsNum g (((Pz.en RL 0).take i).foldl Pz.iD []) xr/\∀c,cE ar xr c->H c=none) ⟨none,none,rfl⟩ ⟨[],s1,⟨ag,λ_ h=>(Ub h).elim,Uq,Uq⟩,.nil,λc i=>?_⟩ (λi g ⟨xr,s2,_⟩=>.inl (jm s2 G.lst)) (λi v pp σ g U I s hs ⟨xr,s2,t,R2,m⟩ k=>?_) λσ g ⟨u,w,e⟩ ⟨xr,s2,t,R2,m⟩=>?_
 .rcases i with rfl|⟨x,J,_⟩
  .exact j
  .exact(Ub J).elim
 .obtain⟨r,L,c,q,rfl,M,N⟩:=G.its.get I;have y:=aP (o:=HO.tup [.int (i:Nat),.ref c]) s;have f:=s2.trans y;rw[Ae _ _ L]at k;exact Ts (t.keep λc u e _=>y c u e) (R2.keep (IsNum.keep (pJ y))) (bl i).1 (bl i).2 hs ag (f _ _ M) (f _ _ N) λA H' B h1 C O P R=>k A H' h1 ⟨B,(λc u e=>R c u (f _ _ e) λz=>by rw[m c z]at e;cases e),C,O,λc z=>(P c z).elim (m c) f.free⟩
 .subst e;rw[UU (by rw[Pz.qS,G.its.len];exact TY _)]at R2;exact⟨_,rfl,k ar xr g s2 t R2 m⟩
end
section
variable{K:XE}{CP CQ:Addr}{H:Hp}
inductive nC(CP CQ:Addr):Sp
 |mk {B H:Hp} {RL:List Pz.aV} {o dx p l:Addr} {ws:List V} {Q:VK} {E:XK} (ho:H o=some (.ins CP dx [])) (sb:Same B H) (nb:B o=none) (G:iF H RL p l ws) (bq:RL.length<16000000) (k:∀(A:PA)(xr:DX (List br))(H':Hp),A.o=o->PAt CP CQ B H' A (Pz.bO RL) Pz.S0 [] [] xr->Q .bn H'):nC CP CQ [.ref o,.ref p] H Q E
def Lz(K:XE)(CQ:Addr):TS:=
 dY (tV K (aI 0) (zj Fx [] E0 (aB (aI 1) bv)) "rules")
 (dY (tV K (aI 0) nP "told")
 (dY (tV K (aI 0) (zk CQ (nG CQ) [] E0 bv) "offers")
 (dY (tV K (aI 0) nP "settled")
 (tV K (aI 0) nP "lacking"))))
def wU(h:nC CP CQ vs H Q E):vs.length=2:=by cases h;rfl
def yT(TP:lB K CP)(h:nC CP CQ vs H Q E):Lz K CQ {nx:=λ_ H'=>Q .bn H',rt:=Q} (cp N vs) H:=by
 obtain @⟨B,H,RL,o,dx,p,l,ws,Q,E,ho,sb,nb,G,bq,k⟩:=h;refine⟨_,rfl,.mk G bq λar xr t s1 D1 R1 n1=>?_⟩;have ho1:=s1 _ _ ho;have nor:∀c,cE ar xr c->c≠o:=λc i z=>by grind
 refine⟨_,rfl,o,CP,dx,_,rfl,ho1,TP.cl,TP.nr,(by grind),?_⟩;generalize hH2:aO t o (.ins CP dx (iP "rules" (.ref ar) []))=H2;have J:H2 o=some (.ins CP dx [("rules",.ref ar)]):=by rw[<- hH2,ag];rfl
 have L:∀c u,t c=some u->c≠o->H2 c=some u:=λc u e n=>by rw[<- hH2,af n];exact e
 intro ta g;have e3:aO H2 ta (.dT []) o=some (.ins CP dx [("rules",.ref ar)]):=by rw[af (ao J g)];exact J
 refine⟨_,rfl,o,CP,dx,_,rfl,e3,TP.cl,TP.nt,(by grind),?_⟩;generalize M:aO (aO H2 ta (.dT [])) o (.ins CP dx (iP "told" (.ref ta) [("rules",.ref ar)]))=v;have f:ta≠o:=(ao J g).symm;have ho4:v o=some (.ins CP dx [("rules",.ref ar),("told",.ref ta)]):=by rw[<- M,ag];rfl
 have ta4:v ta=some (.dT []):=by rw[<- M,af f,ag]
 have kp4:∀c u,H2 c=some u->c≠o->v c=some u:=λc u e n=>by rw[<- M,af n,af (ao e g)];exact e
 intro aq dq O hdq ndq;refine .mk ag λap P w hq5 hp5 kp5=>⟨rfl,?_⟩;have j:∀c u,v c=some u->P c=some u:=λc u e=>kp5 c u (by rw[af (ao e O),af (ao e hdq)];exact e) (ao e O);have ap4:v ap=none:=by
  have h1:ap≠aq:=λz=>by grind
  have h2:ap≠dq:=λz=>by rw[z,af ndq,ag]at w;cases w
  rw[af h1,af h2]at w;exact w
 have apq:ap≠aq:=λz=>by grind
 refine⟨_,rfl,o,CP,dx,_,rfl,j _ _ ho4,TP.cl,TP.no,(by grind),?_⟩;generalize hH6:aO P o (.ins CP dx (iP "offers" (.ref aq) [("rules",.ref ar),("told",.ref ta)]))=I;have noq:aq≠o:=λz=>by grind
 have nop:ap≠o:=λz=>by grind
 have y:I o=some (.ins CP dx [("rules",.ref ar),("told",.ref ta),("offers",.ref aq)]):=by rw[<- hH6,ag];rfl
 have kp6:∀c u,P c=some u->c≠o->I c=some u:=λc u e n=>by rw[<- hH6,af n];exact e
 intro sa A;have C:sa≠o:=(ao y A).symm;refine⟨_,rfl,o,CP,dx,_,rfl,(by rw[af (ao y A)];exact y),TP.cl,TP.ns,(by grind),?_⟩;generalize R:aO (aO I sa (.dT [])) o (.ins CP dx (iP "settled" (.ref sa) [("rules",.ref ar),("told",.ref ta),("offers",.ref aq)]))=Z;have D:Z o=some (.ins CP dx [("rules",.ref ar),("told",.ref ta),("offers",.ref aq),("settled",.ref sa)]):=by rw[<- R,ag];rfl
 have sa8:Z sa=some (.dT []):=by rw[<- R,af C,ag]
 have kp8:∀c u,I c=some u->c≠o->Z c=some u:=λc u e n=>by rw[<- R,af n,af (ao e A)];exact e
 intro la F;have S:la≠o:=(ao D F).symm;refine⟨_,rfl,o,CP,dx,_,rfl,(by rw[af (ao D F)];exact D),TP.cl,TP.nl,(by grind),?_⟩;generalize T:aO (aO Z la (.dT [])) o (.ins CP dx (iP "lacking" (.ref la) [("rules",.ref ar),("told",.ref ta),("offers",.ref aq),("settled",.ref sa)]))=s;have ho9:s o=some (.ins CP dx (pf ⟨o,ta,aq,ap,sa,la,ar⟩)):=by rw[<- T,ag];rfl
 have la9:s la=some (.dT []):=by rw[<- T,af S,ag]
 have kp9:∀c u,Z c=some u->c≠o->s c=some u:=λc u e n=>by rw[<- T,af n,af (ao e F)];exact e
 have sa9:=kp9 _ _ sa8 C;have k69:∀c u,I c=some u->c≠o->s c=some u:=λc u e n=>kp9 c u (kp8 c u e n) n;have U:∀c u,P c=some u->c≠o->s c=some u:=λc u e n=>k69 c u (kp6 c u e n) n;have k49:∀c u,v c=some u->c≠o->s c=some u:=λc u e n=>U c u (j c u e) n;have V:∀c u,t c=some u->c≠o->s c=some u:=λc u e n=>k49 c u (kp4 c u (L c u e n) n) n;have fr:∀c,s c≠none->H c=none->B c=none:=λc _ e=>sb.free e;have oldR:∀c,cE ar xr c->t c≠none:=λc i=>D1.obj i;have W:t ta=none:=by
  cases e:t ta with
  |none=>rfl
  |some u=>rw[L _ _ e f]at g;cases g
 have b:∀c,v c=none->c≠o->t c=none/\c≠ta:=λc e n=>by
  refine⟨?_,λz=>by grind⟩;cases X:t c with
  |none=>rfl
  |some u=>rw[kp4 _ _ (L _ _ X n) n]at e;cases e
 have m:∀c,P c=none->c≠o->v c=none/\c≠aq/\c≠ap:=λc e n=>by
  refine⟨?_,(λz=>by grind),λz=>by grind⟩;cases X:v c with
  |none=>rfl
  |some u=>rw[j _ _ X]at e;cases e
 have q:∀c,I c=none->P c=none:=λc e=>by
  cases X:P c with
  |none=>rfl
  |some u=>
   by_cases n:c=o
   .rw[n,y]at e;cases e
   .rw[kp6 _ _ X n]at e;cases e
 have Y:∀c,Z c=none->I c=none/\c≠sa:=λc e=>by
  refine⟨?_,λz=>by grind⟩;cases X:I c with
  |none=>rfl
  |some u=>
   by_cases n:c=o
   .rw[n,D]at e;cases e
   .rw[kp8 _ _ X n]at e;cases e
 obtain⟨la6,la_sa⟩:=Y la F;obtain⟨la4,la_aq,la_ap⟩:=m la (q la la6) S;obtain⟨la1,la_ta⟩:=b la la4 S;obtain⟨sa4,sa_aq,sa_ap⟩:=m sa (q sa A) C;obtain⟨sa1,sa_ta⟩:=b sa sa4 C;obtain⟨aq1,aq_ta⟩:=b aq O noq;obtain⟨ap1,ap_ta⟩:=b ap ap4 nop;have d:∀c,t c=none->H c=none:=λc e=>s1.free e;have same:Same B s:=λc u e=>V c u (s1 c u (sb c u e)) λz=>by grind
 have r:∀{a c:Addr},cE a ([]:DX (List br)) c->c=a:=λi=>i.elim id λ⟨x,hx,_⟩=>(Ub hx).elim
 classical
 refine k ⟨o,ta,aq,ap,sa,la,ar⟩ xr s rfl ⟨[],[],λc=>if c=o then 6 else if c=ta then 5 else if c=aq then 7 else if c=ap then 1 else if c=sa then 2 else if c=la then 3 else 4,same,⟨⟨?_,λ_ h=>(Ub h).elim,Uq,Uq⟩,.nil,λc i=>?_⟩,⟨⟨sa9,λ_ h=>(Ub h).elim,Uq,Uq⟩,.nil,λc i=>?_⟩,⟨⟨la9,λ_ h=>(Ub h).elim,Uq,Uq⟩,.nil,λc i=>?_⟩,⟨D1.keep λc u e i=>V c u e (nor c i),R1.keep (IsNum.keep λc ws e=>V c _ e λz=>by grind),λc i=>?_⟩,⟨dx,ho9⟩,⟨dq,U _ _ hq5 noq⟩,k49 _ _ ta4 f,.nil,?_,?_,?_⟩
 .exact U _ _ hp5 nop
 .have:c=ap:=i.elim id λ⟨x,hx,_⟩=>(Ub hx).elim;subst this;exact⟨by grind,sb.free (d _ ap1)⟩
 .have:=r i;dsimp only at this;subst this;exact⟨by grind,sb.free (d _ sa1)⟩
 .have:=r i;dsimp only at this;subst this;exact⟨by grind,sb.free (d _ la1)⟩
 .have hc:=oldR c i;refine⟨?_,sb.free (n1 c i)⟩;rw[T9 (nor c i),T9 (λz=>hc (by grind)),T9 (λz=>hc (by grind)),T9 (λz=>hc (by grind)),T9 (λz=>hc (by grind)),T9 (λz=>hc (by grind))]
 .exact⟨by grind,sb.free (d _ W)⟩
 .exact⟨T2 rfl,nb⟩
 .exact⟨by grind,sb.free (d _ aq1)⟩
end
noncomputable def cn(a:Pz.bb):D:=.tup [.int a.1,.int a.2.1,.int a.2.2]
noncomputable def a_(r:Pz.aV):D:=.tup [.int r.1,.int r.2.1,.int r.2.2.1,.tup (r.2.2.2.map .int)]
noncomputable def oD:Option Int->D
 |none=>.bn
 |some i=>.int i
def yU(x:Pz.nI):D:=.tup [.int x.1,oD x.2.1,oD x.2.2]
def fZ(t:Pz.TD):D:=.dZ (t.map λx=>.inr (ak x.1)) (t.map λx=>yU x.2)
def qV(ds:List D)(t:Pz.TD):Prop:=∃(RL:List Pz.aV)(M:List Pz.bb)(a h1 m0 b:D)(n:Nat)(T:Pz.PS),ds=[.tup [a,h1,.lst (RL.map a_)],.tup [m0,.lst (M.map cn),b]]/\RL.length<16000000/\Pz.lS (Pz.kE ax RL M)/\Pz.Loop ax (Pz.bO RL) n (Pz.kE ax RL M) T/\t=T.told
open Classical in
def OT(Fr:List D->Res R)(ds:List D):Res R:=match Fr ds with
 |.ok _=>if h:∃t,qV ds t then .ok (.jJ (fZ (Classical.choose h)))else .stuck
 |.exc c=>.exc c
 |.stuck=>.stuck
theorem Ex:∀{ns:List Int}{vs:List V},IsAll H m (ns.map .int) vs->vs=ns.map .int
 |[],vs,h=>h
 |n::ns,vs,h=>by obtain⟨v,r,rfl,h1,a⟩:=h;rw[Ex a,show v=.int n from h1];rfl
def LA(h:Is H m (a_ r) v):IsRule H r v:=by obtain⟨a,vs,rfl,ha,b,f,rfl,e0,c,g,rfl,e1,v2,i,rfl,e2,j,k,rfl,⟨q,ws,rfl,d,e⟩,rfl⟩:=h;obtain rfl:b=.int r.1:=e0;obtain rfl:c=.int r.2.1:=e1;obtain rfl:v2=.int r.2.2.1:=e2;exact⟨a,q,rfl,ha,by rw[d,Ex e]⟩
def OU(h:Is H m (cn r) v):IsArr H r v:=by obtain⟨a,vs,rfl,ha,b,d,rfl,e0,c,e,rfl,e1,v2,f,rfl,e2,rfl⟩:=h;obtain rfl:b=.int r.1:=e0;obtain rfl:c=.int r.2.1:=e1;obtain rfl:v2=.int r.2.2:=e2;exact⟨a,rfl,ha⟩
theorem Ey{α:Type}{H:Hp}{m:Addr->Prop}{f:α->D}{it:α->V->Prop}(a:∀x v,Is H m (f x) v->it x v):∀{xs:List α}{vs:List V},IsAll H m (xs.map f) vs->fE it xs vs
 |[],vs,h=>by cases(show vs=[]from h);exact .nil
 |x::xs,vs,h=>by obtain⟨v,r,rfl,h1,b⟩:=h;exact .cons (a x v h1) (Ey a b)
def Je(h:Is H m (.lst ds) v):∃a vs,v=.ref a/\Rd H a (.lst vs)/\IsAll H m ds vs:=by obtain⟨a,vs,rfl,h1,b⟩:=h;exact⟨a,vs,rfl,h1.imp And.left λ⟨o,e,_⟩=>⟨o,e⟩,b⟩
def Sb(RL:List Pz.aV):uM (Pz.bO RL):=λk x a=>by
 rcases(Pz.uG _ _ _ _).mp a with h|⟨_,y,l,e,_⟩
 .exact(Ub h).elim
 .rw[e];simp
section
variable{K:XE}{CP CQ:Addr}{H:Hp}
def OV(K:XE)(CP CQ:Addr):TS:=dY (fF (gn CP "settle_all" (xH CP CQ) [] E0 (aI 2) bv)) (tU (f7 K (aI 2) "told"))
def OW(K:XE)(CP CQ:Addr):TS:=xN (oP (lV Nz (F4 (wQ K) (aB (tI K 5 3) bv)) (tC (.int 0))))
 (fF (gn CP "offer" (fU CP CQ) [] E0 (aI 2) (aB (jW (aB (tI K 5 0) (aB (tI K 5 1) (aB (tI K 5 2) bv)))) (aB (tC (.int 1)) (aB (aI 4) (aB (tC .bn) bv)))))) vA
def OX(K:XE)(CP CQ:Addr):TS:=dY (nL (zS K (aB (tI K 0 2) bv)) (iH K 2 (be (aU 4) (be (aU 5) iG))) (OW K CP CQ)) (OV K CP CQ)
def OY(CP CQ:Addr):TS:=fF (gn CP "offer" (fU CP CQ) [] E0 (aI 2) (aB (aI 3) (aB (tC (.int 0)) (aB (tC .bn) (aB (tC .bn) bv)))))
def OZ(K:XE)(CP CQ:Addr):TS:=dY (nL (lD K (tI K 1 1)) (aU 3) (OY CP CQ)) (OX K CP CQ)
def Hl(K:XE)(mg:Str->Option XG)(Fr:List D->Res R)(CP CQ:Addr)(E:XK):TS:=dY (fF (zj (mQ mg 2 Fr) [] E (aB (aI 0) (aB (aI 1) bv)))) (dY (lU (zk CP (nC CP CQ) [] E0 (aB (aI 0) bv)) (aU 2)) (OZ K CP CQ))
def LB(A:PA):(pf A).lookup ("settle_all" : Str)=none:=rfl
def LC(h:RepT H t kt):(t.map λx=>(Sum.inr (ak x.1):DK))=kt.map (λp=>.inr p.1)/\IsAll H m (t.map λx=>yU x.2) (kt.map Prod.snd):=by
 have a:∀o:Option Int,Is H m (oD o) (vO o):=λo=>by cases o<;>rfl
 induction h with
 |nil=>exact⟨rfl,rfl⟩
 |@cons x y _ _ q _ b=>obtain⟨e,p,c,d⟩:=q;exact⟨by rw[T1,T1,e,b.1],y.2,_,rfl,⟨p,_,c,d,_,_,rfl,rfl,_,_,rfl,a _,_,_,rfl,a _,rfl⟩,b.2⟩
section
variable{D:Ends}{σ:L2.St}{B:Hp}{A:PA}{rs:Pz.RS}{S T:Pz.PS}{xs xl xr:DX (List br)}{p0 p1 l lm:Addr}{RL:List Pz.aV}{M:List Pz.bb}{ws wm:List V}{n:Nat}
def Hm(p0 p1:Addr)(A:PA)(σ:L2.St):Prop:=∃u v w,σ=[some (.ref p0),some (.ref p1),some (.ref A.o),u,v,w]
def pr2(P:PAt CP CQ B H A rs S xs xl xr)(h:IsArr H a v)(hs:Hm p0 p1 A σ)(f:Pz.lS (Pz.jL ax S a))(k:∀d H',Hm p0 p1 A d->PAt CP CQ B H' A rs (Pz.jL ax S a) xs xl xr->D.nx d H'):aU 3 v σ H λe g=>OY CP CQ D e g:=by obtain⟨b,rfl,i⟩:=h;obtain⟨u,w,z,rfl⟩:=hs;have j:=P;obtain⟨_,_,_,Q⟩:=j;exact wH (.va rfl) Q.po.ins (Er A) (.c (.va rfl) (.c .k (.c .k (.c .k .ni)))) (.mk (n:=none) (m:=none) P i f λH'=>k _ H' ⟨_,_,_,rfl⟩)
def Tt(P:PAt CP CQ B H A rs S xs xl xr)(e:H pp=some (.tup [.int i,.ref c]))(b:H c=some (.tup [.int r.1,.int r.2.1,.int r.2.2.1,.ref q]))(g:H q=some (.tup (r.2.2.2.map .int)))(hs:Hm p0 p1 A σ)(f:Pz.lS (Pz.gq ax S (i,r)))
 (k:∀a H',Hm p0 p1 A a->PAt CP CQ B H' A rs (Pz.gq ax S (i,r)) xs xl xr->D.nx a H'):iH K 2 (be (aU 4) (be (aU 5) iG)) (.ref pp) σ H λd j=>OW K CP CQ D d j:=by
 obtain⟨u,w,z,rfl⟩:=hs;have e2:(((r.2.2.2.map V.int).length:Nat):Int)=0↔r.2.2.2.length=0:=by rw[TZ];lia
 unfold Pz.gq at f k;refine IZ e (wI (.SM (.len (.ix (.va rfl) b rfl) g) .k) (λh=>?_) λh=>?_)
 .rw[T2 (e2.mp (UZ h))]at f k;exact uJ P f (.va rfl) (.t (.c (.ix (.va rfl) b rfl) (.c (.ix (.va rfl) b rfl) (.c (.ix (.va rfl) b rfl) .ni))) rfl) (λ_ _=>.c .k (.c (.va rfl) (.c .k .ni))) λH'=>k _ H' ⟨_,_,_,rfl⟩
 .rw[T9 λz=>h (Uj (e2.mpr z))]at k;exact k _ H ⟨_,_,_,rfl⟩ P
def Tu(TP:lB K CP)(P:PAt CP CQ B H A rs S xs xl xr)(d:uM rs)(fit:Pz.lS S)(lp:Pz.Loop ax rs n S T)(hs:Hm p0 p1 A σ)(k:∀H' a b,PAt CP CQ B H' A rs T a b xr->D.rt (.ref A.ta) H'):OV K CP CQ D σ H:=by obtain⟨u,w,z,rfl⟩:=hs;have c:=P;obtain⟨_,_,_,Q⟩:=c;exact wH (.va rfl) Q.po.ins (LB A) .ni (.mk P d fit lp λH' a b c=>by have e:=c;obtain⟨_,_,_,Q⟩:=e;exact Q.fld TP.cl TP.nt (Hg A) rfl _ (k H' a b c))
def Tv(TP:lB K CP)(G:iF B RL p0 l ws)(P:PAt CP CQ B H A (Pz.bO RL) (M.foldl (Pz.jL ax) Pz.S0) xs xl xr)(fit:Pz.lS (Pz.kE ax RL M))(d:uM (Pz.bO RL))(lp:Pz.Loop ax (Pz.bO RL) n (Pz.kE ax RL M) T)(hs:Hm p0 p1 A σ)
 (k:∀H' e f,PAt CP CQ B H' A (Pz.bO RL) T e f xr->D.rt (.ref A.ta) H'):OX K CP CQ D σ H:=by
 obtain⟨w,y,g⟩:=(G.same P.same).tup;have p:σ[0]?=some (some (.ref p0)):=by obtain⟨_,_,_,rfl⟩:=hs;rfl
 refine tO (ReadsA.c (.ix (.va p) g (v:=.ref l) rfl) .ni _ ⟨l,ws,rfl,.inl (jm P.same G.lst),?_⟩);refine Ad (Hm p0 p1 A) (λi b=>PAt CP CQ B b A (Pz.bO RL) (((Pz.en RL 0).take i).foldl (Pz.gq ax) (M.foldl (Pz.jL ax) Pz.S0)) xs xl xr) hs P (λi b a=>.inl (jm a.same G.lst)) (λi v z σ b C s h hs a k=>?_) λσ b hs a=>?_
 .obtain⟨r,m,c,q,rfl,t,u⟩:=G.its.get s;have j:=a.more (aP (o:=.tup [.int (i:Nat),.ref c]) h);rw[Ae (Pz.gq ax) (M.foldl (Pz.jL ax) Pz.S0) m]at k;exact Tt j ag (j.same _ _ t) (j.same _ _ u) hs (i9 (step:=Pz.gq ax) (λS x=>by unfold Pz.gq;split;exact Pz.b_ _ _ _ _ _;exact .refl _) (its:=Pz.en RL 0) fit (by rw[yS,m];simp)) k
 .rw[UU (by rw[Pz.qS,G.its.len];exact TY _)]at a;exact Tu TP a d fit lp hs k
def Tw(TP:lB K CP)(G:iF B RL p0 l ws)(e:B p1=some (.tup [y0,.ref lm,y2]))(c:Rd B lm (.lst wm))(j:fE (IsArr B) M wm)(P:PAt CP CQ B H A (Pz.bO RL) Pz.S0 xs xl xr)(fit:Pz.lS (Pz.kE ax RL M))(f:uM (Pz.bO RL))(lp:Pz.Loop ax (Pz.bO RL) n (Pz.kE ax RL M) T)(hs:Hm p0 p1 A σ)
 (k:∀H' g h,PAt CP CQ B H' A (Pz.bO RL) T g h xr->D.rt (.ref A.ta) H'):OZ K CP CQ D σ H:=by
 have g2:Pz.gM (M.foldl (Pz.jL ax) Pz.S0) (Pz.kE ax RL M):=Pz.cu _ (λS x=>by unfold Pz.gq;split;exact Pz.b_ _ _ _ _ _;exact .refl _) _ _;have h1:σ[1]?=some (some (.ref p1)):=by obtain⟨_,_,_,rfl⟩:=hs;rfl
 exact ol (Reads.ix (.va h1) (P.same _ _ e) (v:=.ref lm) rfl _ ⟨lm,rfl,⟨wm,.inl (jm P.same c)⟩,uK (it:=IsArr) (Hm p0 p1 A) (Pz.jL ax) Pz.S0 (λT d=>PAt CP CQ B d A (Pz.bO RL) T xs xl xr) hs P (λp d b=>⟨jm b.same c,j.mono (IsArr.keep (pJ b.same))⟩)
  (λi a v σ d q m o hs b k=>pr2 b o hs (i9 (step:=Pz.jL ax) (λS x=>Pz.b_ S _ _ _ _) (g2.fit fit) m) k) λσ d hs b=>Tv TP G b fit f lp hs k⟩)
end
def wV{mg:Str->Option XG}{Fr:List D->Res R}(TP:lB K CP)(h:mQ mg 2 (OT Fr) vs H Q E):Hl K mg Fr CP CQ E {nx:=λ_ H'=>Q .bn H',rt:=Q} (cp ["house","machine","pricing","arrow","number","rule"] vs) H:=by
 obtain⟨i,ds,Ma,is,a⟩:=h;obtain⟨j,k,rfl⟩ : ∃j k,vs=[j,k]:=by rcases vs with _|⟨j,_|⟨k,_|⟨_,_⟩⟩⟩<;>first|(cases i;done)|exact⟨_,_,rfl⟩
 refine⟨_,rfl,_,rfl,rfl,ds,Ma,is,?_⟩;unfold OT at a;cases p:Fr ds with
 |stuck=>rw[p]at a;exact a
 |exc c=>rw[p]at a;exact a
 |ok r=>
  rw[p]at a;dsimp only at a;by_cases hex:∃t,qV ds t
  case neg=>rw[dif_neg hex]at a;exact a.elim
  case pos=>
  rw[dif_pos hex]at a;have d:=Wh hex;generalize Classical.choose hex=t at a d;obtain⟨RL,M,d0,d1,m0,m2,n,T,rfl,L,fit,lp,rfl⟩:=d;intro v N s1 _;obtain⟨_,_,O,⟨S,_,rfl,q,w0,_,rfl,_,w1,_,rfl,_,w2,_,rfl,s,rfl⟩,_,_,w,⟨p1,_,rfl,y,y0,_,rfl,_,y1,_,rfl,z,y2,_,rfl,_,rfl⟩,rfl⟩:=is;cases O;cases w;obtain⟨l,ws,rfl,i,U⟩:=Je s;obtain⟨lm,wm,rfl,B,V⟩:=Je z;have G:iF H RL S l ws:=⟨⟨_,_,q⟩,i,Ey (λx v=>LA) U⟩;refine⟨_,rfl,λo F I C W=>?_⟩;have s2:Same H (aO (aO N F (.own o)) o (.ins CP F [])):=s1.trans λb u e=>by rw[af (ao e I),af (ao e C)];exact e
  refine .mk ag s2 (s1.free I) (G.same s2) L λA xr H3 eA P=>⟨rfl,?_⟩;subst eA;refine Tw TP G y B (Ey (λx v=>OU) V) P fit (Sb RL) lp ⟨none,none,none,rfl⟩ λJ X Y ⟨_,f,_,g⟩=>?_;obtain⟨Z,t2⟩:=LC (m:=nl H J) g.po.tr;exact a _ J g.same ⟨A.ta,f.map Prod.snd,rfl,⟨.inr ⟨f,.inl g.po.td,Z,rfl⟩,g.po.c5.2,⟨_,g.po.td,True.intro⟩⟩,t2⟩
end
def Ez:∀{n:Nat}{S T:Pz.PS},Pz.Loop pile rs n S T->∀{m:Nat}{b:Pz.PS},Pz.Loop pile rs m S b->T=b:=by
 intro n S T h;induction h with
 |done e=>
  intro m b h';cases h' with
  |done _=>rfl
  |step a=>exact(a e).elim
 |step a _ _ _ _ _ c=>
  intro m b h';cases h' with
  |done e=>exact(a e).elim
  |step _ _ _ _ _ h'=>exact c h'
def BM(h:a_ r=a_ s):r=s:=by
 have a:∀{l m:List Int},l.map D.int=m.map D.int->l=m:=λ{l m} e=>by
  induction l generalizing m with
  |nil=>cases m with
   |nil=>rfl
   |cons _ _=>cases e
  |cons x l b=>cases m with
   |nil=>cases e
   |cons y m=>rw[T1,T1]at e;injection e with e1 e2;injection e1 with e1;rw[e1,b e2]
 unfold a_ at h;injection h with h;injection h with h0 h;injection h with h1 h;injection h with h2 h;injection h with h3 h;injection h0 with h0;injection h1 with h1;injection h2 with h2;injection h3 with h3;exact Xd h0 (Xd h1 (Xd h2 (a h3)))
def EA(h:cn r=cn s):r=s:=by unfold cn at h;injection h with h;injection h with h0 h;injection h with h1 h;injection h with h2 h;injection h0 with h0;injection h1 with h1;injection h2 with h2;exact Xd h0 (Xd h1 h2)
theorem uO{α:Type}{f:α->D}(a:∀{x y},f x=f y->x=y):∀{l m:List α},l.map f=m.map f->l=m
 |[],[],_=>rfl
 |[],_::_,e=>nomatch e
 |_::_,[],e=>nomatch e
 |x::l,y::m,e=>by rw[T1,T1]at e;injection e with e1 e2;rw[a e1,uO a e2]
def LD{Fr:List D->Res R}{b h1 m0 c:D}{r:R}(hs:Pz.Set RL M U)(d:Fr [.tup [b,h1,.lst (RL.map a_)],.tup [m0,.lst (M.map cn),c]]=.ok r) :
 ∃t,OT Fr [.tup [b,h1,.lst (RL.map a_)],.tup [m0,.lst (M.map cn),c]]=.ok (.jJ (fZ t))/\Pz.Good RL M U t:=by
 obtain⟨fit,n,T,lp,good⟩:=hs.run z_;have f:RL.length<16000000:=by have:=hs.big;unfold Pz.L at this;lia
 have hex:∃t,qV [.tup [b,h1,.lst (RL.map a_)],.tup [m0,.lst (M.map cn),c]] t:=⟨T.told,RL,M,b,h1,m0,c,n,T,rfl,f,fit,lp,rfl⟩;refine⟨Classical.choose hex,?_,?_⟩
 .unfold OT;rw[d];dsimp only;rw[dif_pos hex]
 .obtain⟨g,i,j,k,l,m,o,p,e,_,_,a,e2⟩:=Wh hex;rw[e2];injection e with e3 e;injection e3 with e3;injection e3 with _ e3;injection e3 with _ e3;injection e3 with e3 _;injection e3 with e3;injection e with e _;injection e with e;injection e with _ e;injection e with e _;injection e with e;rw[<- uO (λh=>BM h) e3,<- uO (λh=>EA h) e]at a;rw[<- Ez lp a];exact good
structure Mt(K:XE) (C:Addr) (x q:Str) (st:Stmt) (ps:List Str) (f:Addr) (fd:FuncData):Prop where
 fu:FM K x q st f fd
 bi:Binds K fd ps []
 me:Meth K C x f
def O0{K:XE}{C:Addr}{x q:Str}{st:Stmt}{ps:List Str}{f:Addr}{oc:XG}{od an:Option Addr}{osl:Array (Option XG)}{kV doc pm cdv ct:XG}
 (l:K.lookup f=some ⟨oc,od,.func (fnOf x q (d4 st) (c_ st) (ay st) .none kV doc pm an cdv ct),osl⟩) (c:codeIn K cdv q=true) (k:keepIn K (.ref f)=true) (a:findIn K (.ref C) x=some (some (.ref f))) (i:isFn K (.ref f)=true)
 (h:∀(kV doc pm:XG)(an:Option Addr)(cdv ct:XG)(us:List XG),us.length=ps.length->bindArgs (fnOf x q (d4 st) (c_ st) (ay st) .none kV doc pm an cdv ct) ⟨us,[]⟩=pure (ps.zip us)) :
 Mt K C x q st ps f (fnOf x q (d4 st) (c_ st) (ay st) .none kV doc pm an cdv ct):=
 have F:FM K x q st f _:=CT l c k
 ⟨F,F.binds h,a,i,k⟩
def Tz{α:Type}{l:List α}(h:l.length=2):∃a b,l=[a,b]:=by rcases l with _|⟨a,_|⟨b,_|_⟩⟩<;>first|(cases h;done)|exact⟨_,_,rfl⟩
def EB(a:X.calm=true)(S:ck X scope tN capN caps)(b:PI X tg iter wi)(hs:autoParam (∀x,foldedSetIterable iter X.env x=pure x) am) :
 PE X (.ListComp elt [⟨tg,iter,ifs,0⟩] scope pos) (wl X scope tg tN capN caps elt ifs wi):=λaa s σ H Q I h=>wg a S I b h hs
def Jf(K:XE):List V->Hp->VK->Prop:=λxs H Q=>∃p ns,xs=[.ref p]/\SqL K H p (ns.map V.int)/\ns≠[]/\Q (.int (uf ns)) H
def BN(a:X.calm=true):CallR X (.builtin "min") (Jf X.K):=A6 a
def BO(z:tN.length=2)(E:∀cl C g h fp,PG (cK X scope (tN++[]) cl C g h fp) tg (iH X.K 2 (be (aU 0) (be (aU 1) iG))))(F:∀cl C g h fp,PE (cK X scope (tN++[]) cl C g h fp) elt (aI 0)) :
 Lo (F4 (Jf X.K) (aB (wl X scope tg tN [] [] elt [] (lD X.K (aI 1))) bv)):=by
 intro σ H a vs its Q h1 l A n O k;refine⟨_,h1,a,rfl,⟨_,SqL.of l⟩,?_⟩;intro q r cl C g fp;have G:a≠q:=ao l r;have I:=A.len;refine⟨_,_,_,λi m d H'=>m=its.length-i/\i<=its.length/\d=((its.take i).map λx=>V.int x.1)/\Same H H'/\H' q=some (.lst d),E cl C g _ fp,zR,F cl C g _ fp,⟨its.length,by simp,UB _,by simp,aP r,ag⟩,?_⟩;rintro i m d H' ⟨rfl,P,rfl,s,b⟩;have f:=s _ _ l;refine⟨b,?_⟩;by_cases t:i<its.length
 .right;have v:i<vs.length:=by lia
  refine⟨⟨vs,vs[i],SqL.of f,by simp[v]⟩,λR J o y B=>?_⟩;obtain⟨rfl,y⟩:=y;have L:=y vs (SqL.of f);obtain⟨x,ex,p,w,rfl,M,_⟩:=A.get L;rw[z]at B;obtain⟨S,u1,rfl⟩:=Tz B;refine IZ (s _ _ M) ⟨λj D=>?_,?_⟩
  .rw[z]at D;obtain⟨j,rfl⟩:=Nat.exists_eq_add_of_le' D;rfl
  .refine vQ ?_;refine⟨_,rfl,b,?_,its.length-(i+1),by lia,rfl,t,?_,λc u e=>?_,ag⟩
   .rw[TZ,Ux];have:=Wr i its;lia
   .rw[Vs,ex,UO];rfl
   .rw[af (ao e r)];exact s _ _ e
 .left;have N:i=its.length:=by lia
  subst N;refine⟨⟨vs,SqL.of f,by lia⟩,q,its.map (·.1),rfl,?_,by simpa using n,?_⟩
  .rw[List.take_length]at b;rw[Uo];exact SqL.of b
  .rw[Aa];exact k H' s
section
variable{β:Type}(eD:β->D)(el:Pz.bb×Pz.nI->β)
def pK(t:Pz.TD):Pz.MD (Int×Int) β:=t.foldl (λd x=>d.app (x.1.1,x.1.2.1) (el x)) []
def EC(d:Pz.MD (Int×Int) β):D:=.dZ (d.map λe=>.inr (k2 e.1)) (d.map λe=>.lst (e.2.map eD))
open Classical in
def O1(ds:List D):Res R:=match ds with
 |[d]=>if h:∃t:Pz.TD,d=fZ t/\t.length<16000000 then .ok (.jJ (EC eD (pK el (Classical.choose h))))else .stuck
 |_=>.stuck
end
def ED(h:yU a=yU b):a=b:=by
 have c:∀{x y:Option Int},oD x=oD y->x=y:=λ{x y} e=>by
  cases x<;>cases y
  .rfl
  .cases e
  .cases e
  .injection e with e;rw[e]
 unfold yU at h;injection h with h;injection h with h0 h;injection h with h1 h;injection h with h2 h;injection h0 with h0;exact Xd h0 (Xd (c h1) (c h2))
def BP:∀{t s:Pz.TD},fZ t=fZ s->t=s:=by
 intro t s h;unfold fZ at h;injection h with h1 h2;induction t generalizing s with
 |nil=>cases s with
  |nil=>rfl
  |cons _ _=>cases h1
 |cons x t a=>cases s with
  |nil=>cases h1
  |cons y s=>rw[T1,T1]at h1 h2;injection h1 with a1 b1;injection h2 with a2 b2;rw[a b1 b2,Xd (yM _ _ (Xr a1)) (ED a2)]
def LF{a:Type}{eD:a->D}{el:Pz.bb×Pz.nI->a}{t:Pz.TD}(h:t.length<16000000):O1 eD el [fZ t]=.ok (.jJ (EC eD (pK el t))):=by have hex:∃s:Pz.TD,fZ t=fZ s/\s.length<16000000:=⟨t,rfl,h⟩;unfold O1;dsimp only;rw[dif_pos hex,<- BP (Wh hex).1]
theorem Af{c:Type}(el:Pz.bb×Pz.nI->c):∀(t:Pz.TD)(d:Pz.MD (Int×Int) c),d.Ok->(t.foldl (λd x=>d.app (x.1.1,x.1.2.1) (el x)) d).Ok/\(t.foldl (λd x=>d.app (x.1.1,x.1.2.1) (el x)) d).flat.length=d.flat.length+t.length
 |[],d,h=>⟨h,rfl⟩
 |x::t,d,h=>by rw[VC,Ue];obtain⟨a,b⟩:=Af el t _ (Pz.n9 h (x.1.1,x.1.2.1) (el x));have:=(Pz.fY h.nk (x.1.1,x.1.2.1) (el x)).length_eq;rw[Ue]at this;exact⟨a,by lia⟩
section
variable{X:Cx}{K:XE}{H:Hp}{β:Type}{it:Hp->β->V->Prop}{eD:β->D}{el:Pz.bb×Pz.nI->β}{ws:Pz.bb×Pz.nI->Addr->List V}{te:TE}
def LG(K:XE)(te:TE):TS:=fF (oY K (aI 1) (jW (aB (tI K 2 0) (aB (tI K 2 1) bv))) te)
def TB(X:Cx)(K:XE)(te:TE):TS:=
 dY (lU nP (aU 1))
 (dY (λD σ H=>nL (Od X (aI 0)) (iH K 2 (be (aU 2) (be (aU 3) iG))) (LG K te) (NC X D) σ H)
 (tU (aI 1)))
structure FD(it:Hp->β->V->Prop) (eD:β->D) (el:Pz.bb×Pz.nI->β) (ws:Pz.bb×Pz.nI->Addr->List V) (te:TE):Prop where
 ma:∀(H:Hp)(x:Pz.bb×Pz.nI)(b q:Addr)(v0 v1:Option V),H b=some (.tup (oh x.1))->H q=some (.tup [.int x.2.1,vO x.2.2.1,vO x.2.2.2])->Makes te [v0,v1,some (.ref b),some (.ref q)] H (ws x b)
 is:∀(H:Hp)(x:Pz.bb×Pz.nI)(b p:Addr),H b=some (.tup (oh x.1))->H p=some (.tup (ws x b))->it H (el x) (.ref p)
 kp:∀{H H':Hp},KT H H'->∀a v,it H a v->it H' a v
 d:∀(H:Hp)(m:Addr->Prop) a v,it H a v->Is H m (eD a) v
def O2(h:Is H m (yU x) v):∃q,v=.ref q/\H q=some (.tup [.int x.1,vO x.2.1,vO x.2.2]):=by
 obtain⟨a,vs,rfl,ha,c,d,rfl,e0,f,g,rfl,e1,v2,i,rfl,e2,rfl⟩:=h;have b:∀(o:Option Int)(v:V),Is H m (oD o) v->v=vO o:=λo v e=>by cases o<;>exact e
 obtain rfl:c=.int x.1:=e0;rw[b _ _ e1,b _ _ e2]at ha;exact⟨a,rfl,ha⟩
def O3(c:V)(ar:Addr)(σ:L2.St):Prop:=∃a b,σ=[some c,some (.ref ar),a,b]
def TC(O:FD it eD el ws te){ar p b q:Addr}{σ:L2.St}{x:Pz.bb×Pz.nI}{e:DX (List br)}{f:Pz.MD (Int×Int) β}{D:Ends}{i:V}(j:DL .dT H ar e)(R2:RepM k2 it H f e)(ok:f.Ok)(nJ:f.flat.length<16000000)(hs:O3 i ar σ)(l:H p=some (.tup [.ref b,.ref q]))(g:H b=some (.tup (oh x.1)))(m:H q=some (.tup [.int x.2.1,vO x.2.2.1,vO x.2.2.2]))
 (k:∀d H' a,O3 i ar d->DL .dT H' ar a->RepM k2 it H' (f.app (x.1.1,x.1.2.1) (el x)) a->(∀c,cE ar a c->cE ar e c\/H c=none)->(∀c u,H c=some u->¬cE ar e c->H' c=some u)->D.nx d H'):iH K 2 (be (aU 2) (be (aU 3) iG)) (.ref p) σ H λh n=>LG K te D h n:=by
 obtain⟨_,_,rfl⟩:=hs;exact IZ l (Ew (k:=(x.1.1,x.1.2.1)) (v:=el x) O.kp j R2 ok nJ (.va rfl) (.t (.c (.ix (.va rfl) g rfl) (.c (.ix (.va rfl) g rfl) .ni)) rfl) (λH' kt=>O.ma H' x b q _ _ (kt _ _ g) (kt _ _ m)) (λp H' kt=>O.is H' x b p (kt _ _ g)) λH' a=>k _ H' a ⟨_,_,rfl⟩)
def Ag(O:FD it eD el ws te){t:Pz.TD}{B:Hp}{E:Hp}{D:Ends}(bq:t.length<16000000)(hd:B d=some (.ba o u))(M:(t.map λx=>(Sum.inr (ak x.1):DK))=kvs.map λp=>.inr p.1)(r:∀(i:Nat)(x:Pz.bb×Pz.nI)(p:List br×V),t[i]?=some x->kvs[i]?=some p->∃q,p.2=.ref q/\B q=some (.tup [.int x.2.1,vO x.2.2.1,vO x.2.2.2]))
 (F:B ar=none) (s1:Same B E) (h1:E ar=some (.dT [])) {A:V} (s:∀σ j a,O3 A ar σ->Same B j->DL .dT j ar a->RepM k2 it j (pK el t) a->(∀c,cE ar a c->B c=none)->D.nx σ j) :
 Wk (Oc d o u kvs) (iH K 2 (be (aU 2) (be (aU 3) iG))) (LG K te) D [some A,some (.ref ar),none,none] E:=by
 have hl:t.length=kvs.length:=by have:=VD List.length M;simpa using this
 refine⟨λi m σ G=>m=t.length-i/\i<=t.length/\O3 A ar σ/\∃a,Same B G/\DL .dT G ar a/\RepM k2 it G (pK el (t.take i)) a/\∀c,cE ar a c->B c=none,⟨t.length,by simp,UB _,⟨_,_,rfl⟩,[],s1,⟨h1,λ_ h=>(Ub h).elim,Uq,Uq⟩,.nil,λc i=>?_⟩,?_⟩
 .rcases i with rfl|⟨x,n,_⟩
  .exact F
  .exact(Ub n).elim
 rintro i m σ j ⟨rfl,hi,hs,a,s2,N,R2,I⟩;by_cases w:i<t.length
 .refine .inr ⟨⟨s2 _ _ hd,by lia⟩,λf H'=>O3 A ar f/\∃a,Same B H'/\DL .dT H' ar a/\RepM k2 it H' (pK el (t.take (i+1))) a/\∀c,cE ar a c->B c=none,λf H' Q=>⟨t.length-(i+1),by lia,rfl,w,Q⟩,λy H' z=>?_⟩;obtain⟨p,b,k,v,R,rfl,S,rfl,P⟩:=z;have n:t[i]?=some t[i]:=by simp[w]
  generalize t[i]=x at n;have J:k=ak x.1:=by have:=VD (λl=>l[i]?) M;simp only[Ui,n,P,Option.map_some,Xl,Sum.inr.injEq]at this;exact this.symm
  subst J;obtain⟨q,e,T⟩:=r i x _ n P;cases e;have e1:pK el (t.take (i+1))=(pK el (t.take i)).app (x.1.1,x.1.2.1) (el x):=by unfold pK;rw[Vs,n,Vt];rfl
  have bl:=Af el (t.take i) [] Pz.tL;have hf:(Pz.MD.flat ([]:Pz.MD (Int×Int) β)).length=0:=rfl;have U:=Wr i t;have C:=aP (o:=.tup [.ref b,.ref q]) R;have g:=s2.trans C;rw[e1];exact TC O (N.keep λc u e _=>C c u e) (R2.keep (O.kp (pJ C))) bl.1 (by have:=bl.2;unfold pK;lia) hs ag (C _ _ S) (g _ _ T) λf H' L h1 W Y Z h5=>⟨h1,L,(λc u e=>h5 c u (g _ _ e) λz=>by rw[I c z]at e;cases e),W,Y,λc z=>(Z c z).elim (I c) g.free⟩
 .refine .inl ⟨⟨s2 _ _ hd,by lia⟩,s _ j a hs s2 N ?_ I⟩;rw[UU (by lia)]at R2;exact R2
def Se(O:FD it eD el ws te)(i:DL .dT H' ar b)(R2:RepM k2 it H' f b)(n:∀c,cE ar b c->H0 c=none):Is H' (nl H0 H') (EC eD f) (.ref ar):=by
 have e:(f.map λe=>(Sum.inr (k2 e.1):DK))=(DX.kv b).map (λp=>.inr p.1):=by
  have h:∀{f:Pz.MD (Int×Int) β}{b:DX (List br)},RepM k2 it H' f b->(f.map λe=>(Sum.inr (k2 e.1):DK))=(DX.kv b).map (λp=>.inr p.1):=λ{f b} R=>by
   induction R with
   |nil=>rfl
   |cons r _ g=>unfold DX.kv at g ⊢;rw[T1,T1,T1,g,r.1]
  exact h R2
 refine⟨ar,(DX.kv b).map Prod.snd,rfl,⟨.inr ⟨_,.inl i.root,e,rfl⟩,n ar (.inl rfl),⟨_,i.root,True.intro⟩⟩,?_⟩;have rD:=i.rD;have k:∀x∈b,H0 x.2.1=none:=λx l=>n _ (.inr ⟨x,l,rfl⟩);clear e i n;induction R2 with
 |nil=>exact rfl
 |@cons x y f b r _ g=>
  refine⟨.ref y.2.1,_,rfl,?_,g (λz hz=>rD z (T3 _ hz)) λz hz=>k z (T3 _ hz)⟩;have j:=rD y T5;refine⟨y.2.1,y.2.2,rfl,.inl ⟨j,k y T5,⟨_,j,True.intro⟩⟩,?_⟩;have a:=r.2;generalize x.2=m at a;generalize y.2.2=o at a;clear r j g;induction a with
  |nil=>exact rfl
  |cons h _ g=>exact⟨_,_,rfl,O.d _ _ _ _ h,g⟩
def Ho(O:FD it eD el ws te){mg:Str->Option XG}{vs:List V}{Q:VK}(hN:N.length=4)(h:mQ mg 1 (O1 eD el) vs H Q E):TB X K te {nx:=λ_ H'=>Q .bn H',rt:=Q} (L2.cp N vs) H:=by
 obtain⟨hl,ds,Ma,is,f⟩:=h;obtain⟨v0,rfl⟩:=List.length_eq_one_iff.mp hl;have S:L2.cp N [v0]=[some v0,none,none,none]:=by unfold L2.cp;rw[hN];rfl
 rw[S];rcases ds with _|⟨d0,ds⟩
 .cases is
 obtain⟨v,r,C,T,e0⟩:=is;obtain rfl:ds=[]:=by
  cases ds with
  |nil=>rfl
  |cons _ _=>obtain⟨_,_,e1,_⟩:=e0;cases C;cases e1
 cases e0;cases C;unfold O1 at f;dsimp only at f;by_cases hex:∃t:Pz.TD,d0=fZ t/\t.length<16000000
 case neg=>rw[dif_neg hex]at f;exact f.elim
 case pos=>
 rw[dif_pos hex]at f;have F:=Wh hex;generalize Classical.choose hex=t at f F;obtain⟨rfl,bq⟩:=F;obtain⟨d,kvs,u,rfl,md,U,g,P,G⟩:=yG T (λk P=>by obtain⟨x,_,rfl⟩:=T_.mp P;exact⟨_,rfl⟩);have lA:iJ u:=by rcases U with rfl|⟨rfl,_⟩<;>exact True.intro
 have j:∀(i:Nat)(x:Pz.bb×Pz.nI)(p:List br×V),t[i]?=some x->kvs[i]?=some p->∃q,p.2=.ref q/\H q=some (.tup [.int x.2.1,vO x.2.2.1,vO x.2.2.2]):=λi x p W Y=>by obtain⟨v',C,iv⟩:=G.get (i:=i) (d:=yU x.2) (by rw[Ui,W];rfl);rw[Ui,Y]at C;cases C;exact O2 iv
 have I:∀(ar:Addr)(H':Hp)(l:DX (List br)),Same H H'->DL .dT H' ar l->RepM k2 it H' (pK el t) l->(∀c,cE ar l c->H c=none)->Q (.ref ar) H':=λar H' l s J R2 n=>f _ H' s (Se O J R2 n);clear f;intro ar m;have s1:Same H (aO H ar (.dT [])):=aP m;refine⟨_,rfl,d,kvs,u,rfl,U,?_⟩;rcases g with g|⟨o,g⟩
 .right;have L:d≠ar:=ao g m;refine⟨by rw[af L];exact g,λo Z=>?_⟩;have cm:aO (aO H ar (.dT [])) d (.ba o u)=aO (aO H d (.ba o u)) ar (.dT []):=by funext c;unfold aO;by_cases a:c=d<;>by_cases b:c=ar<;>simp_all
  have y:aO H d (.ba o u) ar=none:=by rw[af (Vc L)];exact m
  rw[cm];refine Ag (K:=K) (D:=NC X {nx:=λA H'=>(tU (aI 1)) {nx:=λ_ H'=>Q .bn H',rt:=Q} A H',rt:=Q}) O bq (B:=aO H d (.ba o u)) ag P (λi x p W Y=>?_) y (aP y) ag ?_
  .obtain⟨q,e,hq⟩:=j i x p W Y;refine⟨q,e,?_⟩;rw[af λz=>by rw[z,g]at hq;cases hq;rcases U with z|⟨z,_⟩<;>cases z];exact hq
  .rintro σ H2 l ⟨a,b,rfl⟩ s2 J R2 R;refine .inr ⟨d,o,u,s2 _ _ ag,lA,Z,?_⟩;have M:∀c,cE ar l c->c≠d:=λc hc z=>by have:=R c hc;rw[z,ag]at this;cases this
   refine⟨_,rfl,I ar _ l (λc w e=>?_) (J.keep λc w e i=>by rw[af (M c i)];exact e) (R2.keep (O.kp λc ws e=>?_)) λc i=>?_⟩
   .by_cases z:c=d
    .rw[z]at e ⊢;rw[ag,<- e,g]
    .rw[af z];exact s2 c w (by rw[af z];exact e)
   .rw[af λz=>by rw[z,s2 _ _ ag]at e;cases e];exact e
   .have:=R c i;rw[af (M c i)]at this;exact this
 .left;refine⟨o,s1 _ _ g,?_⟩;refine Ag (K:=K) (D:=NC X {nx:=λA H'=>(tU (aI 1)) {nx:=λ_ H'=>Q .bn H',rt:=Q} A H',rt:=Q}) O bq (B:=H) g P j m s1 ag ?_;rintro σ H2 l ⟨a,b,rfl⟩ s2 J R2 R;exact .inl ⟨_,rfl,I ar H2 l s2 J R2 R⟩
def Sf(H:Hp)(x:Pz.bb×Int)(v:V):Prop:=∃p w,v=.ref p/\H p=some (.tup [w,.int x.2])/\IsArr H x.1 w
def Hq(x:Pz.bb×Int):D:=.tup [cn x.1,.int x.2]
noncomputable def NG(x:Pz.bb×Pz.nI):Int×Int:=(x.1.2.2,x.2.1)
noncomputable def Hr(x:Pz.bb×Pz.nI):Pz.bb×Int:=(x.1,x.2.1)
def LH(h:IsArr H a v):Is H m (cn a) v:=by obtain⟨p,rfl,h⟩:=h;exact⟨p,_,rfl,h,_,_,rfl,rfl,_,_,rfl,rfl,_,_,rfl,rfl,rfl⟩
def O4:FD Sf Hq Hr (λx b=>[.ref b,.int x.2.1]) (jW (aB (aI 2) (aB (tI K 3 0) bv))) where
 ma:=λH x b q v0 v1 hb hq=>.t (.c (.va rfl) (.c (.ix (.va rfl) hq rfl) .ni)) rfl
 is:=λH x b p hb hp=>⟨p,_,rfl,hp,b,rfl,hb⟩
 kp:=λk a v ⟨p,w,e,h,g⟩=>⟨p,w,e,k _ _ h,IsArr.keep k _ _ g⟩
 d:=λH m a v ⟨p,w,e,h,g⟩=>⟨p,_,e,h,_,_,rfl,LH g,_,_,rfl,rfl,rfl⟩
end
def bU{N P:List Str}{h:Scope}(a:autoParam (h.kind=.function) aM)(b:autoParam (h.isCoroutine=false) aM)(c:autoParam (h.isGenerator=false) aM)(d:N.Nodup:=by decide +kernel)(e:autoParam (N.take P.length=P) aM)
 (f:∀x∈P,h.names.lookup x=some .local\/h.names.lookup x=some .cell:=by decide +kernel) (g:∀y∈h.names,y.2≠.free:=by decide +kernel):aQ N P h:=⟨a,b,c,d,e,f,g⟩
abbrev NH(x q:Str)(st:Stmt)(kV doc pm:XG)(an:Option Addr)(cdv ct:XG):FuncData:=fnOf x q (d4 st) (c_ st) (ay st) .none kV doc pm an cdv ct
structure Df(K:XE) (mg:Str->Option XG) (x:Str) (st:Stmt) (ps:List Str) where
 f:Addr
 fd:FuncData
 h:Fn K mg x st ps f fd
structure Mf(K:XE) (C:Addr) (x q:Str) (st:Stmt) (ps:List Str) where
 f:Addr
 fd:FuncData
 h:Mt K C x q st ps f fd
section
variable{K KK:XE}{x q:Str}{st:Stmt}{f C:Addr}{oc:XG}{od an:Option Addr}{osl:Array (Option XG)}{kV doc pm cdv ct:XG}
def Lk(K:XE)(x q:Str)(st:Stmt)(f:Addr):Prop:=∃oc od an osl kV doc pm cdv ct,K.lookup f=some ⟨oc,od,.func (NH x q st kV doc pm an cdv ct),osl⟩/\codeIn K cdv q=true
def lk(l:K.lookup f=some ⟨oc,od,.func (NH x q st kV doc pm an cdv ct),osl⟩)(c:codeIn K cdv q=true):Lk K x q st f:=⟨_,_,_,_,_,_,_,_,_,l,c⟩
def FK(K:XE)(x:Str)(st:Stmt):Prop:=∃f,nsIn K mainGlobals x=some (some (.ref f))/\Lk K x x st f
def fk(a:nsIn K mainGlobals x=some (some (.ref f)))(l:K.lookup f=some ⟨oc,od,.func (NH x x st kV doc pm an cdv ct),osl⟩)(c:codeIn K cdv x=true):FK K x st:=⟨_,a,lk l c⟩
structure MK(K:XE) (C:Addr) (x q:Str) (st:Stmt) (f:Addr):Prop where
 a:findIn K (.ref C) x=some (some (.ref f))
 i:isFn K (.ref f)=true
 l:Lk K x q st f
 k:keepIn K (.ref f)=true
def mk(a:findIn K (.ref C) x=some (some (.ref f)))(i:isFn K (.ref f)=true)(l:K.lookup f=some ⟨oc,od,.func (NH x q st kV doc pm an cdv ct),osl⟩)(c:codeIn K cdv q=true)(k:keepIn K (.ref f)=true):MK K C x q st f:=⟨a,i,lk l c,k⟩
structure CK(K KK:XE) (x:Str) (C:Addr):Prop where
 b:nsIn K mainGlobals x=some (some (.ref C))
 pg:plainGet KK C Str.empty=true
 hd:hasDictIn KK C=true
 po:PySem.W.plainOver KK C=true
 sa:findIn KK (.ref C) "__setattr__"=some (some (.builtin "object.__setattr__"))
 m:PySem.W.makesIn KK C=true
 k:keepIn KK (.ref C)=true
def CK.cl(c:CK K KK x C):vg KK C:=⟨c.pg,c.hd,c.po,c.sa⟩
variable{mg:Str->Option XG}{ps:List Str}{h:Heap}
def df(X:K.In h)(G:h.Ns mainGlobals mg)(U:xI K KK)(k:FK K x st)
 (b:∀(kV doc pm:XG)(an:Option Addr)(cdv ct:XG)(us:List XG),us.length=ps.length->bindArgs (NH x x st kV doc pm an cdv ct) ⟨us,[]⟩=pure (ps.zip us):=by intro _ _ _ _ _ _ us d;rcases us with _|⟨_,_|⟨_,_|⟨_,_|⟨_,_|⟨_,_|⟨_,us⟩⟩⟩⟩⟩⟩<;>first|(cases d;done)|rfl):Nonempty (Df KK mg x st ps):=by
 obtain⟨f,a,oc,od,an,osl,kV,doc,pm,cdv,ct,l,c⟩:=k;exact⟨f,_,Lf U l c (PySem.W.mg_of X G a) b⟩
def mf(k:MK K C x q st f)
 (b:∀(kV doc pm:XG)(an:Option Addr)(cdv ct:XG)(us:List XG),us.length=ps.length->bindArgs (NH x q st kV doc pm an cdv ct) ⟨us,[]⟩=pure (ps.zip us):=by intro _ _ _ _ _ _ us d;rcases us with _|⟨_,_|⟨_,_|⟨_,_|⟨_,_|⟨_,_|⟨_,us⟩⟩⟩⟩⟩⟩<;>first|(cases d;done)|rfl):∃m:Mf K C x q st ps,m.f=f:=by
 obtain⟨a,i,⟨oc,od,an,osl,kV,doc,pm,cdv,ct,l,c⟩,kp⟩:=k;exact⟨⟨f,_,O0 l c kp a i b⟩,rfl⟩
def O5(c:CK K KK x C)(k:MK KK C "__init__" q st f):Mk KK C f:=⟨c.m,k.a,k.i,c.k⟩
end
end L4
namespace L2
open PySem PySem.Spec PySem.Calls PyProof.Rows
section
variable{prog:XF}{w:World}{A:XH}{R:Result->XD->Prop}{I:Addr}{fp wr:List Addr}{G:Array GenState->Array GenState->Prop}{n:Nat}{P:Nat->XG->Prop}{St:Nat->XD->Prop}
def qW(h h':Heap):Prop:=∀b o,h.get? b=some o->h'.get? b=some o
def EE(prog:XF)(w:World)(A:XH)(a:Heap)(P:Nat->XG->Prop)(b:Nat->Nat->Bool):Prop:=∀i j u v (s:XD) (Q:XG->XD->Prop) (E:XG->XD->Prop),qW a s.heap->P i u->P j v->Q (.bool (b i j)) s->wpAny (model prog w) A (richCompare .Lt u v) Q E s
def lb:(toString "min"++toString ".loop" : String)="min.loop":=by decide
def BQ(W:WalksS prog w A.in1 I fp wr G n P St)(x:EE prog w A.in1 h0 P bt)(E:∀b∈wr,h0.get? b=none)(N:S∉fp)(H:h0.get? S=none) :
 ∀(k j:Nat)(s:XD)(l:XG)(c:Nat),n-(j+1)=k->j+1<=n->St (j+1) s->qW h0 s.heap->P (argBest bt j) l->s.heap.get? S=some { cls:=.type "list",dict:=none,data:=.seq #[l,l] c,slots:=#[] }->
  (∀v g,P (argBest bt (n-1)) v->Moved (S::wr) G s g->R (.ok (.ret v)) g)->codeAny (model prog w) A (.builtin "min.loop" ⟨[.ref I,.none,.ref S],kw⟩) R s:=by
 have O:S∉wr:=λh=>N (W.sub _ h);have sub:∀b∈wr,b∈S::wr:=λb i=>T3 _ i;have Q:∀{b:Addr},b∉S::wr->S≠b:=λi h=>i (h▸T5);have J:∀{s g:XD},qW h0 s.heap->Moved wr G s g->qW h0 g.heap:=λK m b o e=>m.heap b o (λz=>by rw[E b z]at e;cases e) (K b o e);intro k;induction k with
 |zero=>
  intro j s l c K V q kp C y D;have T:j+1=n:=by lia
  refine Vz F.entry_min_loop ?_;rw[VI VY _];refine KE (WU y rfl (KE (Xh (W.done s _ _ (T▸q) λg m=>?_))));have a:=m.heap S _ O y;refine KE (WH a rfl (KE (Xp (TV ?_))));exact D l _ (by rw[<- T];exact C) ((m.mono sub).then_heap (tk:=g.toks) (TY _) λb o i e=>(Uu _ _ (Q i)).trans e)
 |succ k U=>
  intro j s l c K V q kp C y D;have r:j+1<n:=by lia
  refine Vz F.entry_min_loop ?_;rw[VI VY _];refine KE (WU y rfl (KE (Xh (W.item (j+1) s _ _ r q λv g B p m=>?_))));have a:=m.heap S _ O y;have t:=J kp m;show wpAny _ A.in1 (tryCatch (holding [v,v] (richCompare .Lt v l >>= _)) _ >>= _) _ _ _;refine KE (Xh (UV (KE (x (j+1) (argBest bt j) v l _ _ _ t B C (KE (UV (Vq (KE (Xp (TV ?_))))))))));cases i:bt (j+1) (argBest bt j)with
  |true=>
   simp only[Vy];refine KE (WH a rfl (KE (Xp ?_)));rw[lb];refine TV ⟨Wa VY _,U (j+1) _ v _ (by lia) r (W.frame _ g _ g.toks p (TY _) λb L o e=>?_) (λb o e=>?_) (by simp only[argBest,i,Vy];exact B) (U3 _ a rfl) λM u d f=>?_⟩
   .exact(Uu _ _ (λh:S=b=>N (h▸L))).trans e
   .exact(Uu _ _ (λh:S=b=>by rw[<- h,H]at e;cases e)).trans (t b o e)
   .exact D M u d (Xo W.gtrans ((m.mono sub).then_heap (TY _) λb o i e=>(Uu _ _ (Q i)).trans e) f)
  |false=>simp only[Ud,U1];refine KE (Xp ?_);rw[lb];refine TV ⟨Wa VY _,U (j+1) _ l c (by lia) r p t (by simp only[argBest,i,Ud,U1];exact C) a λM u d f=>?_⟩;exact D M u d (Xo W.gtrans (m.mono sub) f)
def BR(d:XG):Builtin.Builtins.bindParams "min" ["key","default"] 0 ⟨[],[(("default" : Str),d)]⟩=pure [none,some d]:=by rfl
def BS(a d:XG):argsOk "min" ⟨[a],[(("default" : Str),d)]⟩:=by unfold argsOk;kernel_rfl
def BU
 (h:wpAny (model prog w) A.in1 (pyIter x) (λit a=>∃I fp wr G n P St y i,it=.ref I/\WalksS prog w A.in1 I fp wr G n P St/\St 0 a/\(∀b∈fp,b<a.heap.objs.size)/\EE prog w A.in1 i P y/\qW i a.heap/\(∀b∈wr,i.get? b=none)/\
   (n=0->∀c,Moved wr G a c->Q d c)/\(0<n->∀v c,P (argBest y (n-1)) v->Moved wr G a c->Q v c)) E s) :
 wpAny (model prog w) A (call (.builtin "min") [x] [(("default" : Str),d)]) Q E s:=by
 refine PyProof.Rows.kmk_tree PySem.F.kind_min PySem.F.plain_min PySem.F.entry_min (BS _ _) ?_;show wpAny _ A.in1 (Builtin.Builtins.bindParams "min" ["key","default"] 0 ⟨[],[(("default" : Str),d)]⟩ >>= _) _ _ s;refine KE (wpAny_of_eq (BR d) ?_);refine KE (TV ?_);refine KE (Vo h (λit a j=>?_) λ_ _ e=>e);obtain⟨I,fp,wr,G,n,P,St,y,i,rfl,W,B,C,k,kp,l,M,q1⟩:=j;have f:a.heap.objs.size∉fp:=λg=>VJ _ (C _ g);have D:a.heap.objs.size∉wr:=λh=>f (W.sub _ h);have m:i.get? a.heap.objs.size=none:=by
  cases e:i.get? a.heap.objs.size with
  |none=>rfl
  |some o=>exact absurd (T8 (kp _ _ e)) (VJ _)
 refine KE (UL ?_);rw[lb];have p:=W.frame 0 a (a.heap.push { cls:=.type "list",data:=.seq #[] }) a.toks B (TY _) λb _ o e=>RW _ e;have L:(a.heap.push { cls:=.type "list",data:=.seq #[] }).get? a.heap.objs.size=_:=T4 _ rfl;have N:∀{b:Addr},b∉a.heap.objs.size::wr->a.heap.objs.size≠b:=λq h=>q (h▸T5);have sub:∀b∈wr,b∈a.heap.objs.size::wr:=λb q=>T3 _ q;refine TV ⟨Wa VY _,Vz F.entry_min_loop ?_⟩;rw[VI VY _];refine KE (WU L rfl (KE (Xh ?_)));by_cases O:n=0
 .subst O;refine W.done _ _ _ p λc g=>?_;refine KE (W8 (TV ?_));exact M rfl c (Moved.drop_new (tk:=a.toks) (g.mono sub) (TY _))
 .refine W.item 0 _ _ _ (by lia) p λv c S r g=>?_;have t:=g.heap _ _ D L;show wpAny _ A.in1 (updateSeq a.heap.objs.size (λ_=>#[v,v]) >>= _) _ _ _;refine KE (WH t rfl ?_);rw[lb];refine TV ⟨Wa VY _,BQ W k l f m _ 0 _ v _ rfl (by lia) (W.frame _ c _ c.toks r (TY _) λb H o e=>?_) (λb o e=>?_) S (U3 _ t rfl) λT J K u=>?_⟩
  .exact(Uu _ _ (λh:a.heap.objs.size=b=>f (h▸H))).trans e
  .exact(Uu _ _ (λh:a.heap.objs.size=b=>by rw[<- h,m]at e;cases e)).trans (g.heap b o (λz=>by rw[l b z]at e;cases e) (RW _ (kp b o e)))
  .exact q1 (by lia) T J K (Moved.drop_new (tk:=a.toks) (Xo W.gtrans ((g.mono sub).then_heap (TY _) λb o q e=>(Uu _ _ (N q)).trans e) u) (TY _))
end
def yV(K:XE)(H:Hp)(vs:List V)(ks:List (List Int)):Prop:=ks.length=vs.length/\∀(i:Nat) v k,vs[i]?=some v->ks[i]?=some k->∃a,v=.ref a/\SqT K H a (k.map .int)
def yW(vs:List V)(ks:List (List Int)):Prop:=ks.length=vs.length/\∀(i:Nat) v k,vs[i]?=some v->ks[i]?=some k->∃n,k=[n]/\v=.int n
def vm(ks:List (List Int))(i j:Nat):Bool:=HT.lexLt (ks[i]?.getD []) (ks[j]?.getD [])
def O6(K:XE)(b:TE):TE:=λσ H Q=>b σ H λx a=>∃p vs ks,x=.ref p/\SqL K a p vs/\(yV K a vs ks\/yW vs ks)/\(vs=[]->Q .bn a)/\∀v,vs[argBest (vm ks) (vs.length-1)]?=some v->Q v a
section
variable{X:Cx}
theorem Ah(a:Nat->Nat->Bool):∀n,argBest a n<=n
 |0=>TY _
 |n+1=>by unfold argBest;split;exact TY _;exact Nat.le_succ_of_le (Ah a n)
def Hu(hc:X.calm=true)(hu:X.A.units+64<cLine)(I:Inv X aa σ H s)(hl:SqL X.K H p vs)(hk:yV X.K H vs ks\/yW vs ks)(q0:vs=[]->Q .bn H)(q1:∀v,vs[argBest (vm ks) (vs.length-1)]?=some v->Q v H) :
 wX X (call (.builtin "min") [.ref p] [(("default" : Str),.none)]) (EP X aa σ Q) X.xe s:=by
 obtain⟨its,rv,pl,hz⟩:=I.list hl;have hh:X.A.in1.handled=none:=I.ok.hd hc;obtain⟨o,ho,_⟩:=pl.isList;have hlt:p<s.heap.objs.size:=T8 ho;have bq:=rv.length;have hkl:ks.length=vs.length:=hk.elim And.left And.left;have cmp:EE X.prog X.w X.A.in1 s.heap (λi v=>its[i]?=some v) (vm ks):=by
  intro i j u v s' Q' E' kp hu' hv' hQ;have hi:i<its.length:=(T7.mp hu').1;have hj:j<its.length:=(T7.mp hv').1;have eki:ks[i]?=some ks[i]:=by simp[show i<ks.length by lia]
  have ekj:ks[j]?=some ks[j]:=by simp[show j<ks.length by lia]
  have evi:vs[i]?=some vs[i]:=by simp[show i<vs.length by lia]
  have evj:vs[j]?=some vs[j]:=by simp[show j<vs.length by lia]
  obtain⟨u',e1,r1⟩:=rv.get evi;obtain⟨v',e2,r2⟩:=rv.get evj;rw[hu']at e1;cases e1;rw[hv']at e2;cases e2;unfold vm at hQ;rw[eki,ekj]at hQ;simp only[Option.getD_some]at hQ;generalize ks[i]=ki at eki hQ;generalize ks[j]=kj at ekj hQ;generalize vs[i]=wi at evi r1;generalize vs[j]=wj at evj r2;rcases hk with hk|hk
  .obtain⟨a,rfl,ha⟩:=hk.2 i _ _ evi eki;obtain⟨b,rfl,hb⟩:=hk.2 j _ _ evj ekj;cases r1;cases r2;obtain⟨ia,ra,pa,_⟩:=I.tuple ha;obtain⟨ib,rb,pb,_⟩:=I.tuple hb;obtain⟨oa,ea,pa⟩:=pa;obtain⟨ob,eb,pb⟩:=pb;refine HT.lt_tupInts (s:=s') ⟨oa,kp _ _ ea,pa⟩ ⟨ob,kp _ _ eb,pb⟩ (pY ra) (pY rb) ?_ hQ;show X.A.units+1<cLine;lia
  .obtain⟨m,rfl,rfl⟩:=hk.2 i _ _ evi eki;obtain⟨n,rfl,rfl⟩:=hk.2 j _ _ evj ekj;obtain⟨t1,rfl⟩:=r1;obtain⟨t2,rfl⟩:=r2;refine HT.rcLt_int _ _ _ _ _ _ _ _ _ _ ?_;have:HT.lexLt [m] [n]=decide (m<n):=by
    show(if m=n then false else decide (m<n))=_;split
    .rename_i e;rw[Ur (by lia)]
    .rfl
   rw[<- this];exact hQ
 refine BU (Wj pl.isList ?_);refine⟨s.heap.objs.size,_,_,_,_,_,_,vm ks,s.heap,rfl,(Walks.list hh s.heap.objs.size p (Ul hlt) its.toArray).toS,⟨⟨_,T4 _ rfl,rfl,rfl⟩,?_⟩,?_,?_,?_,?_,?_,?_⟩
 .exact pl.isList.at λo e=>RW _ e
 .intro b hb;rw[V1];rcases T6.mp hb with e|hb
  .rw[e];exact VX _
  .rcases T6.mp hb with e|hb
   .rw[e];exact V7 hlt
   .cases hb
 .intro i j u v s' Q' E' kp hu' hv' hQ;exact cmp i j u v s' Q' E' kp (by simpa using hu') (by simpa using hv') hQ
 .exact λb o e=>RW _ e
 .intro b hb;obtain rfl:=Uh.mp hb;cases e:s.heap.get? s.heap.objs.size with
  |none=>rfl
  |some o=>exact absurd (T8 e) (VJ _)
 .intro hn s' hm;have e0:vs=[]:=UQ.mp (by rw[bq];simpa using hn);exact⟨.bn,H,back I hm,rfl,q0 e0⟩
 .intro hn v s' hv hm;have hv:its[argBest (vm ks) (its.length-1)]?=some v:=by simpa using hv
  have hb:=Ah (vm ks) (vs.length-1);have hpos:0<its.length:=by simpa using hn
  have ev:vs[argBest (vm ks) (vs.length-1)]?=some (vs[argBest (vm ks) (vs.length-1)]'(by lia)):=by simp
  obtain⟨u',e1,r1⟩:=rv.get ev;rw[bq,hv]at e1;cases e1;exact⟨_,H,back I hm,r1,q1 _ ev⟩
where
 back {X:Cx} {aa:List (Addr×Obj)} {s s':XD} {σ:St} {H:Hp} {p:Addr} (I:Inv X aa σ H s) (hm:Moved [s.heap.objs.size] (λa b=>b=a) { s with heap:=s.heap.push { cls:=.type "list_iterator",data:=.fields #[.ref p,.int 0 0] } } s'):Inv X aa σ H s':=by obtain⟨h',g',d',tk',os'⟩:=s';obtain rfl:g'=s.gens:=hm.gens;obtain rfl:d'=s.drawn:=hm.drawn;obtain rfl:os'=s.os:=hm.os;have I1:Inv X aa σ H { s with heap:=s.heap.push { cls:=.type "list_iterator",data:=.fields #[.ref p,.int 0 0] } }:=I.kept (t':=s.toks) λb o e=>RW _ e;have fo:=I.sC (H':=H) (TY s.heap.objs.size) (I.aT.fresh (TY _));have I2:=I1.turned (h':=h') (t':=tk') (it:=s.heap.objs.size) (λb o hb e=>hm.heap b o (by simpa using hb) e) fo.1 fo.2.1 fo.2.2.2.1 fo.2.2.2.2.1 fo.2.2.2.2.2;exact I2
def Hv(i:X.calm=true)(k:X.A.units+64<cLine)(l:Gl X "min") (m:X.mg "min"=none) (n:PE X e te) (b:autoParam (sE X e []) aM)
 (c:autoParam (((backTo pos (starEach [e] X.env)).any (·.1) ||(backToKw pos (keywordEach [⟨some "default",.Constant .none j kp,kpos⟩] X.env)).any (·.1.isNone))=false) aM) :
 PE X (.Call (.Name "min" p) [e] [⟨some "default",.Constant .none j kp,kpos⟩] pos) (O6 X.K te):=by
 intro aa s σ H Q I h;refine VZ (jU I l m (by decide +kernel:bootBuiltins "min"=some (.builtin "min")) ?_ (by decide) (by decide));have o:PA X [e] (aB te bv):=ah n aG (hs:=b);have d:PK X [⟨some "default",.Constant .none j kp,kpos⟩] (aB (tC .bn) bv):=F3 lT Kr;refine PySem.W.callWith_of (P:=λ_=>True) c (λh _=>⟨Keeper.machine,.inr (.inl rfl),PySem.W.Looks.now⟩) (PyProof.Rows.evalArgs_kw2 rfl (bP (o pos aa s σ H (λws a=>match ws with|[x]=>(∃p vs ks,x=.ref p/\SqL X.K a p vs/\(yV X.K a vs ks\/yW vs ks)/\(vs=[]->Q .bn a)/\∀v,vs[argBest (vm ks) (vs.length-1)]?=some v->Q v a)|_=>False) I h) λus s1 ⟨vs,a,t,r,q⟩=>?_) b);obtain⟨x,rfl⟩ : ∃x,vs=[x]:=by
  match vs,q with
  |[x],_=>exact⟨x,rfl⟩
 obtain⟨p,vs,ks,rfl,w,y,z,q1⟩:=q;obtain⟨u,rfl,f⟩:=gm r;cases f;refine bP (d pos aa s1 σ a (λvs g=>vs=[.bn]/\g=a) t ⟨rfl,rfl⟩) λws s2 ⟨D,g,B,C,e1,e2⟩=>⟨True.intro,?_⟩;subst e1 e2;obtain⟨u,rfl,f⟩:=gm C;cases f;exact Hu i k B w y z q1
end
end L2
namespace L3
open PySem PySem.Spec PyProof.Rows L2
def qX(b x:List Int):List Int:=if HT.lexLt x b then x else b
def oo:List (List Int)->List Int
 |[]=>[]
 |k::r=>r.foldl qX k
def lK(r:R):Res R:=match r.d with
 |.lst []=>.ok (.val .bn true [])
 |.lst ds=>match d9 ds with
  |some ks=>.ok (.val (iY (oo ks)) true [])
  |none=>match hI ds with
   |some ns=>.ok (.val (.int ((oo (ns.map λn=>[n])).headD 0)) true [])
   |none=>.stuck
 |_=>.stuck
def wW(f:En->Res R):En->Res R:=λenv=>(f env).bind lK
theorem o5:∀k:List Int,(iY k).flat=true
 |[]=>rfl
 |_::k=>o5 k
theorem iS:∀(k:List Int)(r:List (List Int))(j:Nat),j<=r.length->(k::r)[argBest (vm (k::r)) j]?=some ((r.take j).foldl qX k)
 |k,r,0,_=>by simp[argBest]
 |k,r,j+1,h=>by
  have a:=iS k r j (by lia);have c:j<r.length:=h;have e:(k::r)[j+1]?=some r[j]:=by simp[c]
  have e2:r.take (j+1)=r.take j++[r[j]]:=by rw[List.take_append_getElem]
  show(k::r)[if vm (k::r) (j+1) (argBest (vm (k::r)) j)then j+1 else argBest (vm (k::r)) j]?=_;rw[e2,Vt];generalize argBest (vm (k::r)) j=b at a;generalize(r.take j).foldl qX k=m at a;have q:vm (k::r) (j+1) b=HT.lexLt r[j] m:=by show HT.lexLt ((k::r)[j+1]?.getD []) ((k::r)[b]?.getD [])=_;rw[e,a];rfl
  rw[q];show _=some (if HT.lexLt r[j] m=true then r[j]else m);by_cases z:HT.lexLt r[j] m=true
  .rw[T2 z,T2 z];exact e
  .rw[T9 z,T9 z];exact a
def tP(h:ks≠[]):ks[argBest (vm ks) (ks.length-1)]?=some (oo ks):=by
 cases ks with
 |nil=>exact(h rfl).elim
 |cons k r=>have:=iS k r r.length (TY _);rw[List.take_length]at this;exact this
theorem Ai:∀{ds:List D}{vs:List V}{ks:List (List Int)},IsAll H m ds vs->L3.d9 ds=some ks->ks.length=vs.length/\∀(i:Nat) v k,vs[i]?=some v->ks[i]?=some k->(∃a,v=.ref a/\H a=some (.tup (k.map .int)))/\Is H m (iY k) v
 |[],vs,ks,h,e=>by cases(show vs=[]from h);cases(show(some []:Option (List (List Int)))=some ks from e);exact⟨rfl,λi v k e=>by simp at e⟩
 |d::ds,vs,ks,h,e=>by
  obtain⟨v,r,rfl,h1,h2⟩:=h;unfold L3.d9 at e;cases q1:GZ d with
  |none=>simp only[q1]at e;cases e
  |some k0=>
   cases q2:L3.d9 ds with
   |none=>simp only[q1,q2]at e;cases e
   |some kr=>
    simp only[q1,q2]at e;cases e;obtain⟨l,f⟩:=Ai h2 q2;refine⟨by simp[l],λi w k ew ek=>?_⟩;cases i with
    |zero=>
     simp at ew ek;subst ew ek;cases d with
     |tup xs=>
      have h1':=h1;obtain⟨a,us,rfl,ha,hu⟩:=h1;have qi:hI xs=some k0:=q1;have eu:us=k0.map V.int:=by rw[hu.ints qi];unfold iK;rw[Uo];rfl
      have ex:xs=k0.map D.int:=ints_eq qi;rw[eu]at ha;exact⟨⟨a,rfl,ha⟩,by show Is H m (.tup (k0.map .int)) _;rw[<- ex];exact h1'⟩
     |_=>cases q1
    |succ i=>exact f i w k (by simpa using ew) (by simpa using ek)
where
 ints_eq:∀{xs:List D}{k:List Int},hI xs=some k->xs=k.map D.int
 |[],_,e=>by cases e;rfl
 |.int i::r,k,e=>by
  unfold hI at e;cases q:hI r with
  |none=>rw[q]at e;cases e
  |some kr=>rw[q]at e;cases e;rw[T1,ints_eq q]
 |.bn::_,_,e=>by cases e
 |.bl _::_,_,e=>by cases e
 |.str _::_,_,e=>by cases e
 |.tup _::_,_,e=>by cases e
 |.lst _::_,_,e=>by cases e
 |.dZ _ _::_,_,e=>by cases e
section
variable{X:Cx}{E:XK}
def Aj(R:X.calm=true)(S:X.A.units+64<cLine)(T:Gl X "min") (U:X.mg "min"=none) (W:PD X E e f) (B:autoParam (sE X e []) aM)
 (C:autoParam (((backTo pos (starEach [e] X.env)).any (·.1) ||(backToKw pos (keywordEach [⟨some "default",.Constant .none j kp,kpos⟩] X.env)).any (·.1.isNone))=false) aM) :
 PD X E (.Call (.Name "min" p) [e] [⟨some "default",.Constant .none j kp,kpos⟩] pos) (wW f):=by
 obtain⟨t,p1,s1⟩:=W;refine⟨_,Hv R S T U p1 B C,λg M Y env σ H Q F p=>s1.gh F p λr v M1 x e1 u N q1=>?_⟩;unfold lK at q1;have fl:∀{d:D}{w:V}{m:Addr->Prop},d.flat=true->Is x m d w->PostE X.mg E g M1 Y env σ x Q (.ok (.val d true []))->Q w x:=λ{d w m} y Z hp=>hp w M1 x (Ext.refl _ _) u (Is.flat y Z);cases q:r.d with
 |lst ds=>
  rw[q]at q1 N;obtain⟨a,ws,rfl,h1,G⟩:=N.rd;have I:=G.length;cases ds with
  |nil=>cases(show ws=[]from UQ.mp (by rw[I];rfl));exact⟨a,[],[],rfl,.inl h1,.inr ⟨rfl,λi v k e=>by simp at e⟩,λ_=>fl (d:=.bn) (m:=λ_=>False) rfl rfl q1,λv e=>by simp at e⟩
  |cons O P=>
   dsimp only at q1;have o:ws≠[]:=λz=>by rw[z]at I;cases I
   cases J:d9 (O::P)with
   |some ks=>
    rw[J]at q1;dsimp only at q1;obtain⟨K,y⟩:=Ai G J;have s:ks≠[]:=λz=>o (UQ.mp (by rw[<- K,z];rfl));refine⟨a,ws,ks,rfl,.inl h1,.inl ⟨K,λi v k l ek=>?_⟩,λz=>(o z).elim,λv l=>?_⟩
    .obtain⟨⟨b,rfl,c⟩,_⟩:=y i v k l ek;exact⟨b,rfl,SqT.of c⟩
    .have c:=tP s;rw[K]at c;exact fl (d:=iY (oo ks)) (o5 _) (y _ _ _ l c).2 q1
   |none=>
    rw[J]at q1;dsimp only at q1;cases L:hI (O::P)with
    |none=>rw[L]at q1;exact q1.elim
    |some ns=>
     rw[L]at q1;dsimp only at q1;have ew:ws=ns.map V.int:=by rw[G.ints L];unfold iK;rw[Uo];rfl
     subst ew;have s:(ns.map λn=>[n])≠[]:=λz=>o (by cases ns with|nil=>rfl|cons _ _=>cases z);refine⟨a,_,ns.map λn=>[n],rfl,.inl h1,.inr ⟨by simp,λi v k e1 e2=>?_⟩,λz=>(o z).elim,λv l=>?_⟩
     .rw[Ui]at e1 e2;cases h:ns[i]? with
      |none=>rw[h]at e1;cases e1
      |some n=>rw[h]at e1 e2;cases e1;cases e2;exact⟨n,rfl,rfl⟩
     .have c:=tP s;rw[TZ]at c l;rw[Ui]at c l;cases h:ns[argBest (vm (ns.map λn=>[n])) (ns.length-1)]? with
      |none=>rw[h]at l;cases l
      |some n=>rw[h]at c l;cases l;injection c with c;rw[<- c]at q1;exact fl (d:=.int n) (m:=λ_=>False) rfl rfl q1
 |_=>rw[q]at q1;exact q1.elim
end
end L3
namespace L2
open PySem PySem.Spec PySem.Calls PyProof.Rows
section
variable{X:Cx}{aa:List (Addr×Obj)}{σ:St}{H:Hp}{s:XD}{a:Addr}{y:V}{u:XG}{o:Option V}{A:XH}{E:XG->XD->Prop}
def Hw(d:A.units+1<cLine)(I:Inv X aa σ H s)(g:mE H a y o)(c:RelV y u)(h:∀f i,Inv X aa σ H i->RelV (o.getD .bn) f->Q f i):wpAny (model X.prog X.w) A (call (.builtin "dict.get") [.ref a,u]) Q E s:=by
 rcases g with g|⟨e,⟨k,rfl⟩,rfl⟩|⟨e,⟨b,k,rfl,j⟩,rfl⟩
 .exact CN d I g c h
 .obtain⟨y,dd⟩:=lX (e.ok I.aT);exact VP UC dd.typeIs U8 (V9 _ _) (meets_dict_get (aF X.prog X.w) a (iq c) y) ⟨_,dd.mapOf,h _ _ (I.tok _) rfl⟩
 .obtain rfl:u=Value.ref b:=c;obtain⟨y,dd⟩:=t7 (e.ok I.aT);exact VP UC dd.typeIs U8 (V9 _ _) (meetsH_dict_get (tupleKind (aF X.prog X.w)) a b y) ⟨U9 d,k,[],dH I.aT j,dd,h _ _ (I.tok _) rfl⟩
end
def Hx(td ty:TE):TE:=λσ H Q=>td σ H λx b=>∃a,x=.ref a/\IK b a/\ty σ b λy c=>∃o,mE c a y o/\Q (o.getD .bn) c
def BV(f:X.A.units+1<cLine)(i:PE X o td)(j:PE X e ty)(m:M1 X o "get" apos e cpos):PE X (.Call (.Attribute o "get" apos) [e] [] cpos) (Hx td ty):=by intro aa s σ H Q I h;refine Wl m.base m.nJ m.line Uy UC Wg (bP (i aa s σ H _ I h) λu s1 ⟨x,k,c,l,a,ex,d,q1⟩=>?_);subst ex;obtain rfl:u=Value.ref a:=l;obtain⟨n,p,_⟩:=nR c d;refine⟨n,p,?_⟩;rw[m.trees];exact U7 rfl (VG (Vd (bP (j aa s1 σ k _ c q1) λw s2 ⟨y,q,r,t,z,g,q2⟩=>VR (Hw f r g t λB C v b=>⟨_,q,v,b,q2⟩))))
end L2
namespace L3
open PySem PySem.Spec PyProof.Rows L2
def Rh(ra:R)(ks:List DK)(ds:List D)(rk:R):Res R:=match g_ rk.d with
 |some x=>if ks.all (mi x)then(match getD ks ds x with
  |some d=>.ok (jh d ra.fr ra.al)
  |none=>.ok (.val .bn true []))else .stuck
 |none=>.stuck
def O7(fk:En->Res R)(env:En)(ra:R):Res R:=match ra.d with
 |.dZ ks ds=>(fk env).bind (Rh ra ks ds)
 |_=>.stuck
def Ak(fa fk:En->Res R):En->Res R:=λenv=>(fa env).bind (O7 fk env)
section
variable{X:Cx}{E:XK}
def Hy(D:X.A.units+64<cLine)(u:PD X E o fa)(w:PD X E k fk)(m:M1 X o "get" apos k cpos):PD X E (.Call (.Attribute o "get" apos) [k] [] cpos) (Ak fa fk):=by
 obtain⟨ta,p1,s1⟩:=u;obtain⟨tk,p2,s2⟩:=w;refine⟨_,BV (by lia) p1 p2 m,λg M F env σ H Q j p=>s1.gh j p λra v M1 G e1 c q q1=>?_⟩;unfold O7 at q1;cases r:ra.d with
 |dZ ks ds=>
  rw[r]at q1 q;dsimp only at q1;obtain⟨a,vs,rfl,⟨f,ma⟩,i⟩:=q;refine⟨a,rfl,f.S8,s2.gh c q1 λrk y M2 x e2 b z q2=>?_⟩;unfold Rh at q2;cases l:g_ rk.d with
  |none=>rw[l]at q2;exact q2.elim
  |some s=>
   rw[l]at q2;dsimp only at q2;by_cases n:ks.all (mi s)=true
   .rw[T2 n]at q2;obtain⟨B,g1,g2⟩:=ww (f.keep λo e=>e2.h _ _ e) (i.ext e2) z l n;refine⟨B,g1,?_⟩;cases t:getD ks ds s with
    |some d=>rw[t]at q2 g2;obtain⟨v,rfl,C⟩:=g2;exact q2.val b C
    |none=>rw[t]at q2 g2;cases g2;exact q2 _ M2 x (Ext.refl _ _) b rfl
   .rw[T9 n]at q2;exact q2.elim
 |_=>rw[r]at q1;exact q1.elim
end
end L3
namespace L2
open PySem PySem.Spec PySem.Calls PyProof.Rows
abbrev TU:=List (List br×Addr×XG)
end L2
namespace L3
open PySem L2
section
variable{env bK:En}{i j:Nat}{d:D}{ds es:List D}{f g:Bool}{al bl:List Nat}{x y:Int}
noncomputable def kS(k:En->Res Fl):Fl->Res Fl
 |.nx bK=>k bK
 |r=>.ok r
def O8(f k:En->Res Fl)(env:En):bo f k env=(f env).bind (kS k):=by rfl
def Sg(k:En->Res Fl)(e:En):kS k (.nx e)=k e:=(rfl)
def Si(k:En->Res Fl)(r:R):kS k (.rt r)=.ok (.rt r):=(rfl)
noncomputable def Sj(a b:En->Res Fl)(env:En)(k:Bool):Res Fl:=if k then a env else b env
def LI(c:En->Res Bool)(a b:En->Res Fl)(env:En):zO c a b env=(c env).bind (Sj a b env):=(rfl)
def O9(a b:En->Res Fl)(env:En):Sj a b env true=a env:=(rfl)
def O_(a b:En->Res Fl)(env:En):Sj a b env false=b env:=(rfl)
def Pa(env:En):mS env=.ok (.nx env):=(rfl)
def Pb(r:R):Res Fl:=.ok (.rt r)
def Pc(a:En->Res R)(env:En):gb a env=(a env).bind Pb:=(rfl)
def LJ(r:R):Pb r=.ok (.rt r):=(rfl)
def Pd(i:Nat)(env:En)(r:R):Res Fl:=if i<env.length then .ok (.nx (put env i r))else .stuck
def Pe(i:Nat)(a:En->Res R)(env:En):cS i a env=(a env).bind (Pd i env):=(rfl)
def LK(r:R)(h:i<env.length):Pd i env r=.ok (.nx (put env i r)):=T2 h
def LL:put env i (.val d f [])=env.set i (some (.val d f)):=(rfl)
def LM:put env i (.new ds f)=env.set i (some (.own ds f)):=(rfl)
def LN:put env i (.jJ d)=env.set i (some (.lP d)):=(rfl)
def uP(i:Nat):Option (Option Sl)->Res R
 |some (some (.val d fr))=>.ok (jh d fr [])
 |some (some (.own ds fr))=>.ok (.val (.lst ds) fr [i])
 |some (some (.lP d))=>.ok (.val d true [i])
 |_=>.stuck
def Pf(i:Nat)(env:En):aj i env=uP i env[i]?:=by unfold aj uP;rfl
def Pg:uP i (some (some (.val d f)))=.ok (jh d f []):=(rfl)
def Ph:uP i (some (some (.own ds f)))=.ok (.val (.lst ds) f [i]):=(rfl)
def Pi:uP i (some (some (.lP d)))=.ok (.val d true [i]):=(rfl)
def TF(d:D)(env:En):vC d env=.ok (.val d true []):=(rfl)
def yX(h:d.flat=true):jh d f al=.val d true []:=by unfold jh;rw[T2 h]
def jn(h:d.flat=false):jh d f al=.val d f al:=by unfold jh;rw[T9 (by rw[h];simp)]
def gc(h:D.bW ds=true):mN ds f al=.new ds true:=by unfold mN;rw[T2 h]
def Hz:mN ds true []=.new ds true:=by unfold mN;split<;>rfl
def SY(op:R->R->Res R)(a:En->Res R)(env:En)(ra:R):Res R:=(a env).bind (op ra)
def Sk(op:R->R->Res R)(fa a:En->Res R)(env:En):v2 op fa a env=(fa env).bind (SY op a env):=(rfl)
def Pj(op:R->R->Res R)(a:En->Res R)(env:En)(ra:R):SY op a env ra=(a env).bind (op ra):=(rfl)
def Pk:f_ (.val (.int x) f al) (.val (.int y) g bl)=.ok (.val (.int (x+y)) true []):=(rfl)
def LO(h1:-18446744073709551616<y)(a:y<18446744073709551616):qE (.val (.int x) f al) (.val (.int y) g bl)=.ok (.val (.int (x*y)) true []):=by
 have:Ba x y=true:=by unfold Ba;rw[Bool.or_eq_true,Uv,Uv];exact .inr ⟨Uj (by lia),Uj (by lia)⟩
 show(if Ba x y=true then _ else _)=_;rw[T2 this]
def Pl(h:0<y):dM (.val (.int x) f al) (.val (.int y) g bl)=.ok (.val (.int (x%y)) true []):=by show(if decide (0<y)=true then _ else _)=_;rw[T2 (Uj h)]
def Pn(h:0<y)(a:y<1073741824):nW (.val (.int x) f al) (.val (.int y) g bl)=.ok (.val (.int (x/y)) true []):=by show(if(decide (0<y)&&decide (y<1073741824))=true then _ else _)=_;rw[T2 (by rw[Uj h,Uj a];rfl)]
def Sm:Q9 (.val (.int x) f al) (.val (.int y) g bl)=.ok (.val (.bl (decide (x<y))) true []):=(rfl)
def Sn:RI (.val (.int x) f al) (.val (.int y) g bl)=.ok (.val (.bl (decide (y<=x))) true []):=(rfl)
def oq(h:a.d.dep<=50)(c:b.d.dep<=50):ti a b=.ok (.val (.bl (fW a.d b.d)) true []):=by unfold ti;rw[T2 ⟨h,c⟩]
def Po(h:a.d.dep<=50)(c:b.d.dep<=50):zK a b=.ok (.val (.bl (!fW a.d b.d)) true []):=by unfold zK;rw[T2 ⟨h,c⟩]
def Pp:fW (.int x) (.int y)=(x==y):=(rfl)
def Pq(xs a:List D)(f:Bool)(al:List Nat):Res R:=if xs.length+a.length<=lim then .ok (mN (xs++a) f al)else .stuck
def HA:f_ (.new ds f) (.new es g)=Pq ds es (f&&g) []:=(rfl)
def uQ(h:ds.length+es.length<=1000000):Pq ds es f al=.ok (mN (ds++es) f al):=T2 h
def Jg(fs:En->Res (List R))(env:En)(r:R):Res (List R):=(fs env).bind (λrs=>.ok (r::rs))
def EF(r:R)(rs:List R):Res (List R):=.ok (r::rs)
def LP(env:En):aR env=.ok []:=(rfl)
def HB(a:En->Res R)(fs:En->Res (List R))(env:En):ai a fs env=(a env).bind (Jg fs env):=(rfl)
def HC(fs:En->Res (List R))(env:En)(r:R):Jg fs env r=(fs env).bind (EF r):=(rfl)
def EG(r:R)(rs:List R):EF r rs=.ok (r::rs):=(rfl)
def Ps(rs:List R):Res R:=if rs.length<=lim then .ok (jh (.tup (rs.map R.d)) (bZ rs) (cO rs))else .stuck
def Pt(fs:En->Res (List R))(env:En):fX fs env=(fs env).bind Ps:=(rfl)
def LQ(rs:List R)(h:rs.length<=1000000):Ps rs=.ok (jh (.tup (rs.map R.d)) (bZ rs) (cO rs)):=T2 h
def Pu(rs:List R):Res R:=if rs.length<=lim then .ok (mN (rs.map R.d) (bZ rs) (cO rs))else .stuck
def Pw(fs:En->Res (List R))(env:En):jO fs env=(fs env).bind Pu:=(rfl)
def LR(rs:List R)(h:rs.length<=1000000):Pu rs=.ok (mN (rs.map R.d) (bZ rs) (cO rs)):=T2 h
def EH:bZ []=true:=(rfl)
def BW(r:R)(rs:List R):bZ (r::rs)=(r.fr&&bZ rs):=(rfl)
def EI:cO []=[]:=(rfl)
def BX(r:R)(rs:List R):cO (r::rs)=r.al++cO rs:=(rfl)
def Jh(F:List D->Res R)(rs:List R):Res R:=(F (rs.map R.d)).bind (λr=>.ok (iT rs r))
def EJ(rs:List R)(r:R):Res R:=.ok (iT rs r)
def LS(F:List D->Res R)(fs:En->Res (List R))(env:En):bS F fs env=(fs env).bind (Jh F):=(rfl)
def HD(F:List D->Res R)(rs:List R):Jh F rs=(F (rs.map R.d)).bind (EJ rs):=(rfl)
def EK(rs:List R)(r:R):EJ rs r=.ok (iT rs r):=(rfl)
def EL(rs:List R)(h:d.flat=true):iT rs (.val d f al)=.val d true []:=T2 h
def qY(rs:List R)(h:d.flat=false):iT rs (.val d true al)=.jJ d:=by show FF d true rs=_;unfold FF;rw[T9 (by rw[h];simp),T2 rfl]
def EM(rs:List R)(h:d.flat=false):iT rs (.val d false al)=.val d (bZ rs) (cO rs):=by show FF d false rs=_;unfold FF;rw[T9 (by rw[h];simp),T9 (by simp)]
def Sq(k:List R->Res R)(fs:En->Res (List R))(env:En):rH k fs env=(fs env).bind k:=(rfl)
def LU:D->Res R
 |.lst ds=>.ok (.val (.int ds.length) true [])
 |.tup ds=>.ok (.val (.int ds.length) true [])
 |.str z=>if z.length<=lim then .ok (.val (.int z.length) true [])else .stuck
 |_=>.stuck
def Px(r:R):yw [r]=LU r.d:=by unfold yw LU;rfl
def LV:LU (.lst ds)=.ok (.val (.int ds.length) true []):=(rfl)
def Al(f:Bool)(al:List Nat):D->Res R
 |.lst ds=>.ok (mN ds f al)
 |.tup ds=>.ok (mN ds f al)
 |_=>.stuck
def LW(r:R):qF [r]=Al r.fr r.al r.d:=by unfold qF Al;rfl
def HE:Al f al (.lst ds)=.ok (mN ds f al):=(rfl)
def HF:Al f al (.tup ds)=.ok (mN ds f al):=(rfl)
def kB(ra:R):Res Bool:=match ra.d with
 |.bl b=>.ok b
 |_=>.stuck
def Sr(a:En->Res R)(env:En):vB a env=(a env).bind kB:=(rfl)
def Su(b:Bool):kB (.val (.bl b) f al)=.ok b:=(rfl)
def Py(ra:R):Res Bool:=IT ra.d
def LX(a:En->Res R)(env:En):Dx a env=(a env).bind Py:=(rfl)
def LY(b:Bool):Py (.val (.bl b) f al)=.ok b:=(rfl)
noncomputable def Ji(b:Bool):Res Bool:=.ok (!b)
def LZ(a:En->Res Bool)(env:En):GH a env=(a env).bind Ji:=(rfl)
def HG(b:Bool):Ji b=.ok (!b):=(rfl)
noncomputable def EN(b:En->Res Bool)(env:En)(k:Bool):Res Bool:=if k then b env else .ok false
noncomputable def L0(b:En->Res Bool)(env:En)(k:Bool):Res Bool:=if k then .ok true else b env
def L1(a b:En->Res Bool)(env:En):yu a b env=(a env).bind (EN b env):=(rfl)
def PB(a b:En->Res Bool)(env:En):RN a b env=(a env).bind (L0 b env):=(rfl)
def L5(b:En->Res Bool)(env:En):EN b env true=b env:=(rfl)
def L6(b:En->Res Bool)(env:En):EN b env false=.ok false:=(rfl)
def PF(b:En->Res Bool)(env:En):L0 b env true=.ok true:=(rfl)
def PH(b:En->Res Bool)(env:En):L0 b env false=b env:=(rfl)
def Jj(b:En->Res R)(env:En)(ra:R):Res R:=match ra.d with
 |.bl true=>b env
 |.bl false=>.ok (.val (.bl false) true [])
 |_=>.stuck
def L7(a b:En->Res R)(env:En):GF a b env=(a env).bind (Jj b env):=(rfl)
def HH(b:En->Res R)(env:En):Jj b env (.val (.bl true) f al)=b env:=(rfl)
def Jk(ra:R):Res R:=match ra.d with
 |.bl b=>.ok (.val (.bl (!b)) true [])
 |_=>.stuck
def L8(a:En->Res R)(env:En):KW a env=(a env).bind Jk:=(rfl)
def L9(b:Bool):Jk (.val (.bl b) f al)=.ok (.val (.bl (!b)) true []):=(rfl)
def Cg(f:Bool)(al:List Nat):Option D->Res R
 |some d=>.ok (jh d f al)
 |none=>.stuck
def o_(a b:D)(f:Bool)(al:List Nat):Res R:=match a,b with
 |.lst xs,.int i=>Cg f al (dR xs i)
 |.tup xs,.int i=>Cg f al (dR xs i)
 |.str z,.int i=>if z.length<=lim then(match dR z.cps.toList i with
  |some c=>.ok (.val (.str ⟨#[c]⟩) true [])
  |none=>.stuck)else .stuck
 |_,_=>.stuck
def Sv(a b:R):Dz a b=o_ a.d b.d a.fr a.al:=by unfold Dz o_ Cg;rfl
def PJ:o_ (.lst ds) (.int k) f al=Cg f al (dR ds k):=(rfl)
def PN:o_ (.tup ds) (.int k) f al=Cg f al (dR ds k):=(rfl)
def PP:Cg f al (some d)=.ok (jh d f al):=(rfl)
def HI(ds:List D)(fr:Bool)(a:R):Res R:=match a.d with
 |.int k=>match dR ds k with
  |some d=>.ok (jh d fr [])
  |none=>.stuck
 |_=>.stuck
def HJ(i:Nat)(a:En->Res R)(env:En):Option (Option Sl)->Res R
 |some (some (.own ds fr))=>(a env).bind (HI ds fr)
 |_=>v2 Dz (aj i) a env
def PQ(i:Nat)(a:En->Res R)(env:En):bE i a env=HJ i a env env[i]?:=by unfold bE HJ;rfl
def L_(a:En->Res R):HJ i a env (some (some (.own ds f)))=(a env).bind (HI ds f):=(rfl)
def Mb(a:En->Res R):HJ i a env (some (some (.val d f)))=v2 Dz (aj i) a env:=(rfl)
def Md:HI ds f (.val (.int k) g al)=Cg f [] (dR ds k):=by unfold HI Cg;rfl
def cN{α:Type}(a:α)(l:List α):dR (a::l) 0=some a:=by unfold dR zq;rw[T2 (by lia),T2 (by simp)];rfl
def TH{α:Type}(a b:α)(l:List α):dR (a::b::l) 1=some b:=by unfold dR zq;rw[T2 (by lia),T2 (by simp;lia)];rfl
def TJ{α:Type}(a b c:α)(l:List α):dR (a::b::c::l) 2=some c:=by unfold dR zq;rw[T2 (by lia),T2 (by simp;lia)];rfl
def TL{α:Type}(a b c d:α)(l:List α):dR (a::b::c::d::l) 3=some d:=by unfold dR zq;rw[T2 (by lia),T2 (by simp;lia)];rfl
def PR(fl a:En->Res (Option Int))(env:En)(r:R):Res R:=(fl env).bind λlo=>(a env).bind λb=>uw r lo b
def PU(a:En->Res (Option Int))(env:En)(r:R)(lo:Option Int):Res R:=(a env).bind λb=>uw r lo b
def HK(fa:En->Res R)(fl a:En->Res (Option Int))(env:En):kh fa fl a env=(fa env).bind (PR fl a env):=(rfl)
def Me(fl a:En->Res (Option Int))(env:En)(r:R):PR fl a env r=(fl env).bind (PU a env r):=(rfl)
def Mg(a:En->Res (Option Int))(env:En)(r:R)(lo:Option Int):PU a env r lo=(a env).bind (uw r lo):=(rfl)
def kO(r:R):Res (Option Int):=match r.d with
 |.int i=>.ok (some i)
 |_=>.stuck
def HL(env:En):wo env=.ok none:=(rfl)
def HN(a:En->Res R)(env:En):kg a env=(a env).bind kO:=(rfl)
def Sw:kO (.val (.int x) f al)=.ok (some x):=(rfl)
def Mh(f:Bool)(al:List Nat)(lo a:Option Int):D->Res R
 |.lst xs=>.ok (mN (db xs lo a) f al)
 |.tup xs=>.ok (jh (.tup (db xs lo a)) f al)
 |_=>.stuck
def PX(r:R)(lo a:Option Int):uw r lo a=Mh r.fr r.al lo a r.d:=by unfold uw Mh;rfl
def Mi(lo a:Option Int):Mh f al lo a (.lst ds)=.ok (mN (db ds lo a) f al):=(rfl)
def PY(T:String)(r:R):Res R:=.ok (.val (.bl (NA T r.d)) true [])
def PZ(T:String)(a:En->Res R)(env:En):GQ T a env=(a env).bind (PY T):=(rfl)
def Mj(T:String)(r:R):PY T r=.ok (.val (.bl (NA T r.d)) true []):=(rfl)
def Ml:NA "int" (.int x)=true:=(rfl)
def Mm:NA "bool" (.int x)=false:=(rfl)
def P3(asg:D->Bool->En->Option En)(body:En->Res Fl)(env:En)(s:Src):Res Fl:=j9 asg s.fr body s.xs (ba env s.al)
def P7(a:En->Res Src)(asg:D->Bool->En->Option En)(body:En->Res Fl)(env:En):uu a asg body env=(a env).bind (P3 asg body env):=(rfl)
def Mn(asg:D->Bool->En->Option En)(body:En->Res Fl)(env:En)(xs:List D):P3 asg body env ⟨xs,f,al⟩=j9 asg f body xs (ba env al):=(rfl)
def HP(r:R):Res Src:=match r.d with
 |.lst ds=>.ok ⟨ds,r.fr,r.al⟩
 |.tup ds=>.ok ⟨ds,r.fr,r.al⟩
 |_=>.stuck
def uR(a:En->Res R)(env:En):g7 a env=(a env).bind HP:=(rfl)
def EO:HP (.val (.lst ds) f al)=.ok ⟨ds,f,al⟩:=(rfl)
def HQ:HP (.new ds f)=.ok ⟨ds,f,[]⟩:=(rfl)
def EQ:HP (.jJ (.lst ds))=.ok ⟨ds,true,[]⟩:=(rfl)
def SZ(rs:List R):Res Src:=match rs.map R.d with
 |[.int j]=>if cR j then .ok ⟨gp 0 j.toNat,true,[]⟩else .stuck
 |_=>.stuck
def P8(fs:En->Res (List R))(env:En):Oq fs env=(fs env).bind SZ:=(rfl)
def P9(h1:-4611686018427387904<=x)(a:x<4611686018427387904):cR x=true:=by unfold cR;rw[Uv];exact⟨Uj (by lia),Uj (by lia)⟩
def Am(h1:-4611686018427387904<=x)(a:x<4611686018427387904):SZ [.val (.int x) f al]=.ok ⟨gp 0 x.toNat,true,[]⟩:=T2 (P9 h1 a)
def Mo:ba env []=env:=(rfl)
def ER(h:i<env.length):gN i d f env=some (env.set i (some (.val d f))):=T2 h
def lL(n:Nat)(caps:List Nat)(asg:D->Bool->En->Option En)(test:En->Res Bool)(elt:En->Res R)(env:En)(s:Src):Res R:=if s.xs.length<=lim then
 (g8 (λd=>asg d s.fr (gw env n caps)) test elt s.xs).S7.bind λrs=>.ok (mN (rs.map R.d) (bZ rs) (s.al++caps.filter (iB env)))else .stuck
def gd(n:Nat)(caps:List Nat)(a:En->Res Src)(asg:D->Bool->En->Option En)(test:En->Res Bool)(elt:En->Res R)(env:En) :
 de n caps a asg test elt env=(a env).bind (lL n caps asg test elt env):=(rfl)
def eF(a:xs.length<=1000000)
 (h:g8 (λd=>asg d f (gw env n caps)) test elt xs=.ok rs):lL n caps asg test elt env ⟨xs,f,al⟩=.ok (mN (rs.map R.d) (bZ rs) (al++caps.filter (iB env))):=by
 unfold lL;dsimp only;rw[T2 (show xs.length<=lim from a),h];rfl
theorem gO{α:Type}{mk:D->Option En}{test:En->Res Bool}{elt:En->Res R}(g:α->D)(k:α->R):∀(xs:List α),(∀a∈xs,∃e,mk (g a)=some e/\test e=.ok true/\elt e=.ok (k a))->g8 mk test elt (xs.map g)=.ok (xs.map k)
 |[],_=>rfl
 |a::r,h=>by obtain⟨e,h1,c,l⟩:=h a (by simp);rw[T1,T1];unfold g8;rw[h1];dsimp only;rw[c];dsimp only[Res.bind];rw[T2 rfl,l,gO g k r λb m=>h b (by simp[m])]
theorem cv{α:Type}{mk:D->Option En}{test:En->Res Bool}{elt:En->Res R}(g:α->D)(p:α->Bool)(k:α->R):∀(xs:List α),(∀a∈xs,∃e,mk (g a)=some e/\test e=.ok (p a)/\(p a=true->elt e=.ok (k a)))->g8 mk test elt (xs.map g)=.ok ((xs.filter p).map k)
 |[],_=>rfl
 |a::r,h=>by
  obtain⟨e,h1,m,n⟩:=h a (by simp);rw[T1];unfold g8;rw[h1];dsimp only;rw[m];dsimp only[Res.bind];have l:=cv g p k r λb o=>h b (by simp[o]);cases c:p a with
  |true=>rw[T2 rfl,n c,Wb,T2 c,l];rfl
  |false=>rw[T9 (by simp),Wb,T9 (by rw[c];simp),l]
def ES(i:Nat)(env:En)(ds:List D)(fr:Bool)(r:R):Res Fl:=if ds.length<lim/\¬i∈r.al then .ok (.nx ((ba env r.al).set i (some (.own (ds++[r.d]) (fr&&r.fr)))))else .stuck
def ET(i:Nat)(a:En->Res R)(env:En):Option (Option Sl)->Res Fl
 |some (some (.own ds fr))=>(a env).bind (ES i env ds fr)
 |some (some (.lP (.lst ds)))=>(a env).bind (ES i env ds true)
 |_=>.stuck
def P_(a:En->Res R)(env:En):wf i a env=ET i a env env[i]?:=by
 unfold wf qH ET;cases env[i]? with
 |none=>rfl
 |some o=>cases o with
  |none=>rfl
  |some s=>cases s with
   |lP d=>cases d<;>rfl
   |_=>rfl
def Mp(a:En->Res R):ET i a env (some (some (.own ds f)))=(a env).bind (ES i env ds f):=(rfl)
def uS(h:ds.length<1000000)(a:r.al=[]):ES i env ds f r=.ok (.nx (env.set i (some (.own (ds++[r.d]) (f&&r.fr))))):=by unfold ES;rw[a];rw[T2 ⟨h,by simp⟩];rfl
end
def qZ(x:Int):(D.int x).flat=true:=(rfl)
def HR(x:Bool):(D.bl x).flat=true:=(rfl)
def EU:D.bn.flat=true:=(rfl)
def wY(ds:List D):(D.tup ds).flat=D.bW ds:=(rfl)
def kF(ds:List D):(D.lst ds).flat=false:=(rfl)
def tQ:D.bW []=true:=(rfl)
def jo(d:D)(ds:List D):D.bW (d::ds)=(d.flat&&D.bW ds):=(rfl)
def uT(x:Int):(D.int x).dep=0:=(rfl)
def uU(ds:List D):(D.tup ds).dep=D.f6 ds+1:=(rfl)
def mZ(ds:List D):(D.lst ds).dep=D.f6 ds+1:=(rfl)
def m5:D.f6 []=0:=(rfl)
def lc(d:D)(ds:List D):D.f6 (d::ds)=max d.dep (D.f6 ds):=(rfl)
def Mq(r:R):DG (.ok (.rt r))=.ok r:=(rfl)
def Mr(e:En):DG (.ok (.nx e))=.ok (.val .bn true []):=(rfl)
def gy(d:D)(f:Bool)(al:List Nat):(R.val d f al).d=d:=(rfl)
def lg(ds:List D)(f:Bool):(R.new ds f).d=.lst ds:=(rfl)
def HS(d:D):(R.jJ d).d=d:=(rfl)
def EV(d:D)(f:Bool)(al:List Nat):(R.val d f al).fr=f:=(rfl)
def EW(ds:List D)(f:Bool):(R.new ds f).fr=f:=(rfl)
def EX(d:D):(R.jJ d).fr=true:=(rfl)
def EY(d:D)(f:Bool)(al:List Nat):(R.val d f al).al=al:=(rfl)
def EZ(ds:List D)(f:Bool):(R.new ds f).al=[]:=(rfl)
def E1(d:D):(R.jJ d).al=[]:=(rfl)
def rY{α b:Type}(a:α)(k:α->Res b):(Res.ok a).bind k=k a:=(rfl)
def Qa:D->Res R
 |.lst ds=>match g9 ds with
  |some bs=>.ok (.val (.bl (bs.all id)) true [])
  |none=>.stuck
 |_=>.stuck
def Qb(r:R):GR [r]=Qa r.d:=by rcases r with⟨d,f,al⟩|⟨ds,f⟩|⟨d⟩<;>first|rfl|(cases d<;>rfl)
def BY{α:Type}(xs:List α):Qa (.lst (xs.map λ_=>D.bl true))=.ok (.val (.bl true) true []):=by
 have:∀xs:List α,g9 (xs.map λ_=>D.bl true)=some (xs.map λ_=>true):=by
  intro xs;induction xs with
  |nil=>rfl
  |cons a r b=>rw[T1];unfold g9;rw[b];rfl
 show(match g9 (xs.map λ_=>D.bl true)with|some bs=>Res.ok (R.val (D.bl (bs.all id)) true [])|none=>Res.stuck)=_;rw[this];dsimp only;congr 3;rw[UW];intro x c;obtain⟨_,_,rfl⟩:=T_.mp c;rfl
noncomputable def Sx:D->Res R
 |.int i=>.ok (.val (.int (-i)) true [])
 |_=>.stuck
def Qc(r:R):Res R:=Sx r.d
def Qd(fa:En->Res R)(env:En):Bm fa env=(fa env).bind Qc:=by unfold Bm;congr 1
def Ms:Qc (.val (.int x) f al)=.ok (.val (.int (-x)) true []):=(rfl)
def E2(asg:D->Bool->En->Option En)(env:En)(r:R):Res Fl:=match asg r.d r.fr (ba env r.al)with
 |some a=>.ok (.nx a)
 |none=>.stuck
def Qe(f:En->Res R)(asg:D->Bool->En->Option En)(env:En):nY f asg env=(f env).bind (E2 asg env):=(rfl)
def E3(h:asg r.d r.fr (ba env r.al)=some bK):E2 asg env r=.ok (.nx bK):=by unfold E2;rw[h]
def uV{α:Type}(l:List α)(a:α):dR (l++[a]) (-1)=some a:=by
 unfold dR zq;rw[T9 (by lia),T2 (by simp;lia)];have:((-1:Int)+((l++[a]).length:Nat)).toNat=l.length:=by simp;lia
 show(l++[a])[((-1:Int)+((l++[a]).length:Nat)).toNat]?=some a;rw[this];simp
def Jl(r:R):Res Bool:=.ok (!r.d.gr)
def Qf(r:R):Res Bool:=.ok r.d.gr
def HU(a:En->Res R)(env:En):zU a env=(a env).bind Jl:=(rfl)
def Mv(a:En->Res R)(env:En):DM a env=(a env).bind Qf:=(rfl)
def HV(r:R):Jl r=.ok (!r.d.gr):=(rfl)
def Mw(r:R):Qf r=.ok r.d.gr:=(rfl)
def HW:D.bn.gr=true:=(rfl)
def HX(x:Int):(D.int x).gr=false:=(rfl)
def HY(x:List D):(D.tup x).gr=false:=(rfl)
def uW(neg:Bool)(a b:D):Res R:=match b with
 |.dZ ks _=>DQ neg a ks
 |.lst ds=>NB neg a ds
 |.tup ds=>NB neg a ds
 |_=>.stuck
def Jm(neg:Bool)(a b:R):Bo neg a b=uW neg a.d b.d:=by unfold Bo yB uW;cases b.d<;>rfl
def Sy(a b:R):DR a b=uW false a.d b.d:=Jm false a b
def HZ(a b:R):uy a b=uW true a.d b.d:=Jm true a b
def Jn(h:D.f6 ds<=50)(b:a.dep<=50):uW neg a (.lst ds)=.ok (.val (.bl (if neg then !(ds.any λe=>fW e a)else ds.any λe=>fW e a)) true []):=T2 ⟨h,b⟩
def kG(ks:List DK)(ds:List D):(D.dZ ks ds).flat=false:=(rfl)
def putAt(i:Nat)(fk a:En->Res R)(env:En):Option (Option Sl)->Res Fl
 |some (some (.lP (.dZ ks ds)))=>(a env).bind (zW i fk env ks ds)
 |_=>.stuck
def Mx(i:Nat)(fk a:En->Res R)(env:En):wu i fk a env=putAt i fk a env env[i]?:=by unfold wu putAt;rfl
def An(h:r.d.flat=true):zW i fk env ks ds r=(fk env).bind (wt i env ks ds r.d):=T2 h
def H_(h:g_ k.d=some x)(a:ks.all (mi x)=true)(b:ks.length<1000000):wt i env ks ds d k=.ok (.nx (env.set i (some (.lP (ko ks ds x d))))):=by unfold wt;rw[h];exact T2 ⟨a,b⟩
def BZ(h:d.flat=false):iT rs (.jJ d)=.jJ d:=by show FF d true rs=_;unfold FF;rw[T9 (by rw[h];simp),T2 rfl]
def yY(fa fk fx:En->Res R)(env:En):wv fa fk fx env=(fa env).bind (Ox fk fx env):=(rfl)
def Qg(h:ra.d=.dZ ks ds):Ox fk fx env ra=(fk env).bind (RQ fx env ra ks ds):=by unfold Ox;rw[h]
def Jo(fx:En->Res R)(env:En)(ra:R)(ks:List DK)(ds:List D)(rk:R):RQ fx env ra ks ds rk=(fx env).bind (Ow ra ks ds rk):=(rfl)
def Qh(h:0<=y):Lc (.val (.int x) f al) (.val (.int y) g bl)=.ok (.val (.int (x/2^y.toNat)) true []):=by show(if decide (0<=y)=true then _ else _)=_;rw[T2 (Uj h)]
def My:DW (.val (.int x) f al) (.val (.int y) g bl)=.ok (.val (.int (Builtin.bitAnd x y)) true []):=(rfl)
def Sz(f:En->Res R)(env:En):RT f env=(f env).bind IX:=(rfl)
theorem lh:∀k:List Int,hI (k.map .int)=some k
 |[]=>rfl
 |a::r=>by rw[T1];unfold hI;rw[lh r];rfl
theorem li:∀ks:List (List Int),d9 (ks.map iY)=some ks
 |[]=>rfl
 |k::r=>by rw[T1];unfold d9;rw[li r,show GZ (iY k)=some k from lh k]
def Qi(f:En->Res R)(env:En):Le f env=(f env).bind Ed:=(rfl)
def Mz(a:r.d=.lst (is.map .int))(h:is.length<=63):Ed r=.ok (.new ((i6 is).map .int) true):=by unfold Ed;rw[a];dsimp only;rw[lh];dsimp only;rw[T2 h]
def Jp(i:Nat)(env:En)(r:R):Res Fl:=if i<env.length then .ok (.nx ((ba env r.al).set i (some (.val r.d r.fr))))else .stuck
def MA(i:Nat)(a:En->Res R)(env:En):mU i a env=(a env).bind (Jp i env):=(rfl)
def Ia(h:i<env.length):Jp i env r=.ok (.nx ((ba env r.al).set i (some (.val r.d r.fr)))):=T2 h
def E4(a:0<=j)(h1:j<=1000):pG [.val (.int j) f al]=.ok (.new (gp 0 j.toNat) true):=T2 ⟨a,h1⟩
def E5(f:En->Res R)(asg:D->Bool->En->Option En)(a:En->Res Fl)(env:En):D_ f asg a env=(f env).bind (zY asg a env):=(rfl)
def E6(e:En):ku (.ok (.nx e))=.ok (.nx e):=(rfl)
def MB(h:ra.d=.dZ ks ds)(a:g_ rk.d=some x)(ha:ks.all (mi x)=true)(b:getD ks ds x=some d):tE ra rk=.ok (jh d ra.fr ra.al):=by unfold tE;rw[h];dsimp only;rw[a];dsimp only;rw[T2 ha,b]
end L3
local macro_rules|`(tactic| simp_arith[$as,*] $[$l:location]?)=>do
 let ls←("L3.ip L3.l9 L3.Qi L3.MA L3.Ia L3.E5 decide_true decide_false List.map_cons List.map_nil List.length_cons List.length_nil List.replicate List.cons_append List.nil_append List.append_nil Nat.reduceAdd Nat.max_self Nat.zero_max Nat.max_zero Nat.zero_add Nat.reduceSub L3.O8 L3.Pe L3.Sk L3.Pj L3.Pf L3.Pg L3.Ph L3.Pi L3.yX L3.jn L3.qZ L3.HR L3.EU L3.wY L3.kF L3.tQ L3.jo L3.uT L3.uU L3.mZ L3.m5 L3.lc L3.TF L3.rY List.getElem?_cons_zero List.getElem?_cons_succ L3.Pl L3.Pn L3.Pk L3.LO Int.reduceLT Int.reduceLE Int.reduceNeg L3.LK L3.LL L3.LM L3.LN L3.Sg L3.Si List.set_cons_zero List.set_cons_succ Nat.reduceLT Nat.reduceLeDiff L3.LI L3.O9 L3.O_ L3.Pa L3.Pc L3.LJ L3.Sm L3.Sn L3.Pp L3.HA L3.LP L3.HB L3.HC L3.EG L3.Pt L3.LQ L3.Pw L3.LR L3.EH L3.BW L3.EI L3.BX L3.LS L3.HD L3.EK L3.EL L3.qY L3.EM L3.Sq L3.Px L3.LV L3.LW L3.HE L3.HF L3.Sr L3.Su L3.LX L3.LY L3.LZ L3.HG L3.L1 L3.PB L3.L5 L3.L6 L3.PF L3.PH L3.L7 L3.HH L3.L8 L3.L9 L3.Sv L3.PJ L3.PN L3.PP L3.PQ L3.L_ L3.Mb L3.Md L3.cN L3.TH L3.TJ L3.TL L3.HK L3.Me L3.Mg L3.HL L3.HN L3.Sw L3.PX L3.Mi L3.PZ L3.Mj L3.Ml L3.Mm L3.P7 L3.Mn L3.uR L3.EO L3.HQ L3.EQ L3.P8 L3.Mo L3.HU L3.Mv L3.HV L3.Mw L3.HW L3.HX L3.HY L3.Qd L3.Ms L3.Qe Int.reduceBEq L3.Qb Bool.not_not Nat.reduceEqDiff L3.gd L3.P_ L3.Mp L3.gy L3.lg L3.HS L3.EV L3.EW L3.EX L3.EY L3.EZ L3.E1 Bool.and_true Bool.true_and Bool.and_false Bool.false_and Bool.and_self Bool.not_true Bool.not_false L3.Mq L3.Mr L3.gc L3.Hz L3.Sy L3.HZ L3.kG L3.Mx L3.Qh L3.My L3.Sz L3.yY L3.Jo L3.BZ".splitOn " ").toArray.mapM λs=>`(Lean.Parser.Tactic.simpLemma| $(Lean.mkIdent s.toName):ident)
 `(tactic| simp only[$[$ls:simpLemma],*,$as,*] $[$l]?)
local macro_rules|`(tactic| simp_arith $[$l:location]?)=>`(tactic| simp_arith[L3.rY] $[$l]?)
namespace L3
open PySem L2
def m6{α b:Type}(g:α->b)(xs:List α)(lo a:Option Int):db (xs.map g) lo a=(db xs lo a).map g:=by unfold db;rw[TZ,List.map_take,List.map_drop]
def E7{α:Type}(xs:List α)(lo a:Option Int):(db xs lo a).length<=xs.length:=by unfold db;rw[VF,Xu];lia
def E8{α:Type}(xs:List α)(lo b:Option Int):∀a∈db xs lo b,a∈xs:=by unfold db;intro a h;exact List.mem_of_mem_drop (VH h)
def wZ{α:Type}(xs:List α):db xs (some 1) none=xs.tail:=by
 unfold db;have h1:HT.sIx xs.length 0 (some 1)=min 1 xs.length:=HT.sIx_nat xs.length 0 1;have b:HT.sIx xs.length xs.length none=xs.length:=rfl;rw[h1,b];cases xs with
 |nil=>rfl
 |cons a r=>
  have:min 1 (a::r).length=1:=by simp
  rw[this];simp
def E9:(∀d∈ds,d.flat=true)->D.bW ds=true:=by
 induction ds with
 |nil=>intro _;rfl
 |cons d r a=>intro h;rw[jo,h d (by simp),a λx b=>h x (by simp[b])];rfl
def bB{α:Type}(g:α->D)(xs:List α)(h:∀a,(g a).flat=true):D.bW (xs.map g)=true:=E9 λd hd=>by obtain⟨a,_,rfl⟩:=T_.mp hd;exact h a
def bj(xs:List Int):D.bW (xs.map D.int)=true:=bB _ _ qZ
def fK(h:d.flat=false):D.bW (d::ds)=false:=by rw[jo,h];rfl
def Ib:(∀d∈ds,d.dep<=n)->D.f6 ds<=n:=by
 induction ds with
 |nil=>intro _;rw[m5];lia
 |cons d r a=>intro h;have h1:=h d (by simp);have c:=a λx b=>h x (by simp[b]);rw[lc];lia
def q5{α:Type}{g:α->D}{xs:List α}{n:Nat}(h:∀a,(g a).dep<=n):D.f6 (xs.map g)<=n:=Ib λd hd=>by obtain⟨a,_,rfl⟩:=T_.mp hd;exact h a
def i_(xs:List Int):D.f6 (xs.map D.int)<=0:=q5 λ_=>TY 0
def cU{α:Type}(g:α->D)(xs:List α):bZ (xs.map λa=>.val (g a) true [])=true:=by unfold bZ;rw[UW];intro r h;obtain⟨a,_,rfl⟩:=T_.mp h;rfl
def kH{α:Type}(g:α->D)(fr:Bool)(al:List Nat)(xs:List α):(xs.map λa=>R.val (g a) fr al).map R.d=xs.map g:=by rw[Uo];rfl
def pL(n:Nat):gp 0 n=(List.range n).map λk=>.int (k:Nat):=by unfold gp;congr 1;funext k;simp
theorem jp{α:Type}(g:α->D){asg:D->Bool->En->Option En}{fr:Bool}{body:En->Res Fl}(all:List α)(P:List α->En->Prop):∀(xs pre:List α)(env:En),all=pre++xs->P pre env->
 (∀(pre c:List α)(a:α)(env:En),all=pre++a::c->P pre env->∃f b,asg (g a) fr env=some f/\body f=.ok (.nx b)/\P (pre++[a]) b)->
 ∃d,j9 asg fr body (xs.map g) env=.ok (.nx d)/\P all d
 |[],pre,env,e,h,_=>⟨env,rfl,by rw[e,Wf];exact h⟩
 |a::r,pre,env,e,h,st=>by obtain⟨f,b,h1,i,j⟩:=st pre r a env e h;obtain⟨d,e1,e2⟩:=jp g all P r (pre++[a]) b (by rw[e];simp) j st;refine⟨d,?_,e2⟩;rw[T1];unfold j9;rw[h1];dsimp only;rw[i];exact e1
def m7(f:D->Bool->En->Option En)(fs:List D->Bool->En->Option En)(d:D)(ds:List D)(fr:Bool)(env:En):aK f fs (d::ds) fr env=(f d fr env).bind λe=>fs ds fr e:=(rfl)
def Ic(d:i<env.length)(e:j<env.length)(f:k<env.length):E2 (gT 3 (aK (gN i) (aK (gN j) (aK (gN k) cq)))) env (.jJ (.tup [a,b,c]))=.ok (.nx (((env.set i (some (.val a true))).set j (some (.val b true))).set k (some (.val c true)))):=by refine E3 ?_;show(aK (gN i) (aK (gN j) (aK (gN k) cq))) [a,b,c] true env=_;rw[m7,ER d];show(aK (gN j) (aK (gN k) cq)) [b,c] true _=_;rw[m7,ER (by rw[VT];exact e)];show(aK (gN k) cq) [c] true _=_;rw[m7,ER (by rw[VT,VT];exact f)];rfl
def uX{α a:Type}(g:α->a)(xs:List α)(k:Int):dR (xs.map g) k=(dR xs k).map g:=by
 unfold dR;rw[TZ];cases zq xs.length k with
 |none=>rfl
 |some j=>simp
def yZ{α:Type}{xs:List α}{k:Int}(b:0<=k)(h:k<xs.length):∃a,dR xs k=some a/\xs[k.toNat]?=some a:=by
 unfold dR zq;rw[T2 b,T2 h];have:k.toNat<xs.length:=by lia
 exact⟨xs[k.toNat],by simp[this],by simp[this]⟩
structure Rl where
 room:Int
 sign:Int
 to:Int
 put:List Int
def Rl.d(r:Rl):D:=.tup [.int r.room,.int r.sign,.int r.to,.tup (r.put.map .int)]
end L3
namespace W
open PySem PySem.Spec PyProof.Rows L2 L3 L4
def top(i:Nat):Stmt:=PySem.Challenge.pw_callwalk_k28_whole_least_falls.main.body.getD i (.Pass ⟨0,0,0,0⟩)
abbrev h7:Stmt:=top 19
noncomputable abbrev N__law_seed_at:List Str:=["_law_script","_law_k","_law_cell"]
abbrev eG:List Str:=N__law_seed_at.take 2
def sc__law_seed_at:aQ N__law_seed_at eG (ay h7):=bU
def h8:En->Res Fl:=
 (bo (cS 2 (vC (.int 0)))
 (bo (zO (vB (v2 Q9 (aj 1) (rH yw (ai (aj 0) aR)))) (cS 2 (bE 0 (aj 1))) mS)
 (gb (v2 dM (v2 qE (v2 qE (v2 f_ (v2 dM (aj 2) (vC (.int 2147483647))) (vC (.int 11))) (vC (.int 48271))) (vC (.int 69621))) (vC (.int 2147483629))))))
def bG:List D->Res R:=ip N__law_seed_at h8
abbrev gf:Stmt:=top 22
noncomputable abbrev N__law_arrow_by:List Str:=["_law_cell","_law_rooms","_law_own","_law_signs","_law_number","_law_state","_law_sign"]
abbrev dv:List Str:=N__law_arrow_by.take 4
def sc__law_arrow_by:aQ N__law_arrow_by dv (ay gf):=bU
def jM:En->Res Fl:=
 (bo (cS 4 (v2 dM (v2 qE (aj 0) (vC (.int 69621))) (vC (.int 2147483629))))
 (bo (nY (rH d_ (ai (aj 4) (ai (vC (.int 60)) aR))) (gT 2 (aK (gN 4) (aK (gN 5) cq))))
 (bo (nY (rH d_ (ai (aj 4) (ai (vC (.int 60)) aR))) (gT 2 (aK (gN 4) (aK (gN 6) cq))))
 (gb (fX (ai (v2 dM (aj 5) (v2 f_ (aj 1) (aj 2))) (ai (v2 dM (aj 6) (aj 3)) (ai (v2 f_ (aj 1) (v2 dM (aj 4) (aj 2))) aR))))))))
def dw:List D->Res R:=ip N__law_arrow_by jM
abbrev bJ:Stmt:=top 25
noncomputable abbrev N__law_machine_by:List Str:=["_law_cell","_law_cells","_law_rooms","_law_own","_law_signs","_law_form","_law_head","_law_arrows","_law_ends"]
abbrev cM:List Str:=N__law_machine_by.take 5
def sc__law_machine_by:aQ N__law_machine_by cM (ay bJ):=bU
def jP:((["_law_sign"]:List Str)++(["_law_rooms"]:List Str)).Nodup:=by decide +kernel
def jQ:((["_law_one"]:List Str)++(["_law_rooms","_law_own","_law_signs"]:List Str)).Nodup:=by decide +kernel
def jR:((["_law_state"]:List Str)++(["_law_cell"]:List Str)).Nodup:=by decide +kernel
def bL:En->Res R:=λenv=>(fX (ai (aj 1) (ai (aj 0) (ai (aj 1) aR)))) env
def bC:En->Res R:=λenv=>(bS dw (ai (aj 0) (ai (aj 1) (ai (aj 2) (ai (aj 3) aR))))) env
def bM:En->Res Bool:=λenv=>(vB (v2 ti (v2 DW (v2 Lc (v2 dM (v2 nW (aj 1) (vC (.int 10))) (vC (.int 32))) (aj 0)) (vC (.int 1))) (vC (.int 1)))) env
def bN:En->Res R:=λenv=>(aj 0) env
def b7:En->Res Fl:=
 (bo (cS 5 (v2 dM (v2 nW (aj 0) (vC (.int 320))) (vC (.int 4))))
 (bo (zO (vB (v2 ti (aj 5) (vC (.int 2)))) (bo (cS 6 (fX (ai (v2 dM (v2 nW (aj 0) (vC (.int 1280))) (aj 2)) (ai (v2 dM (v2 nW (aj 0) (vC (.int 7680))) (aj 4)) (ai (aj 2) aR)))))
 (gb (fX (ai (v2 f_ (aj 2) (vC (.int 1))) (ai (rH ND (ai (v2 f_ (jO (ai (aj 6) aR)) (de 1 [2] (Oq (ai (aj 4) aR)) (gN 0) (λ_=>.ok true) bL)) aR)) (ai (jO (ai (aj 2) aR)) aR)))))) mS)
 (bo (zO (vB (v2 ti (aj 5) (vC (.int 3)))) (gb (fX (ai (aj 2) (ai (jO aR) (ai (rH pG (ai (aj 2) aR)) aR))))) mS)
 (bo (cS 7 (de 1 [2,3,4] (g7 (aj 1)) (gN 0) (λ_=>.ok true) bC))
 (bo (cS 8 (de 1 [0] (Oq (ai (v2 f_ (aj 2) (aj 3)) aR)) (gN 0) bM bN))
 (gb (fX (ai (v2 f_ (aj 2) (aj 3)) (ai (RT (aj 7)) (ai (aj 8) aR))))))))))
def bA:List D->Res R:=ip N__law_machine_by b7
abbrev h_:Stmt:=top 21
noncomputable abbrev N__law_rule_by:List Str:=["_law_cell","_law_rooms","_law_signs","_law_number","_law_kind","_law_room","_law_sign","_law_to","_law_one","_law_put"]
abbrev eJ:List Str:=N__law_rule_by.take 3
def sc__law_rule_by:aQ N__law_rule_by eJ (ay h_):=bU
def kI:En->Res Fl:=
 (bo (cS 3 (v2 dM (v2 qE (aj 0) (vC (.int 48271))) (vC (.int 2147483647))))
 (bo (nY (rH d_ (ai (aj 3) (ai (vC (.int 3)) aR))) (gT 2 (aK (gN 3) (aK (gN 4) cq))))
 (bo (nY (rH d_ (ai (aj 3) (ai (vC (.int 6)) aR))) (gT 2 (aK (gN 3) (aK (gN 5) cq))))
 (bo (nY (rH d_ (ai (aj 3) (ai (vC (.int 60)) aR))) (gT 2 (aK (gN 3) (aK (gN 6) cq))))
 (bo (nY (rH d_ (ai (aj 3) (ai (vC (.int 6)) aR))) (gT 2 (aK (gN 3) (aK (gN 7) cq))))
 (bo (nY (rH d_ (ai (aj 3) (ai (vC (.int 60)) aR))) (gT 2 (aK (gN 3) (aK (gN 8) cq))))
 (bo (cS 9 (jO (ai (v2 dM (aj 8) (aj 2)) (ai (v2 dM (aj 3) (aj 2)) aR))))
 (gb (fX (ai (v2 dM (aj 5) (aj 1)) (ai (v2 dM (aj 6) (aj 2)) (ai (v2 dM (aj 7) (aj 1)) (ai (rH uz (ai (kh (aj 9) wo (kg (aj 4))) aR)) aR)))))))))))))
def eL:List D->Res R:=ip N__law_rule_by kI
abbrev eM:Stmt:=top 26
noncomputable abbrev ic:List Str:=["_law_script","_law_shape","_law_seed","_law_rooms","_law_signs","_law_own","_law_many","_law_machine","_law_rules"]
noncomputable abbrev eU:List Str:=["_law_script"]
def sc__law_made_by:aQ ic eU (ay eM):=bU
def mq:((["_law_cell"]:List Str)++(["_law_rooms","_law_signs"]:List Str)).Nodup:=by decide +kernel
def bQ:En->Res R:=λenv=>(bS eL (ai (aj 0) (ai (aj 1) (ai (aj 2) aR)))) env
def kJ:En->Res Fl:=
 (bo (mU 1 (bS bG (ai (aj 0) (ai (vC (.int 0)) aR))))
 (bo (mU 2 (bS bG (ai (aj 0) (ai (vC (.int 1)) aR))))
 (bo (cS 3 (v2 f_ (vC (.int 1)) (v2 dM (aj 1) (vC (.int 2)))))
 (bo (cS 4 (v2 f_ (vC (.int 1)) (v2 dM (v2 nW (aj 1) (vC (.int 2))) (vC (.int 3)))))
 (bo (cS 5 (v2 dM (v2 nW (aj 1) (vC (.int 6))) (vC (.int 2))))
 (bo (cS 6 (v2 qE (v2 dM (aj 2) (vC (.int 5))) (aj 5)))
 (bo (mU 7 (bS bA (ai (aj 2) (ai (kh (aj 0) (kg (vC (.int 4))) (kg (v2 f_ (vC (.int 4)) (aj 6)))) (ai (aj 3) (ai (aj 5) (ai (aj 4) aR)))))))
 (bo (cS 8 (de 1 [3,4] (g7 (kh (aj 0) (kg (v2 f_ (vC (.int 4)) (aj 6))) (kg (v2 f_ (vC (.int 16)) (aj 6))))) (gN 0) (λ_=>.ok true) bQ))
 (gb (fX (ai (fX (ai (aj 3) (ai (aj 4) (ai (aj 8) aR)))) (ai (aj 7) (ai (kh (aj 0) (kg (v2 f_ (vC (.int 16)) (aj 6))) (kg (v2 f_ (vC (.int 56)) (aj 6)))) aR)))))))))))))
def eV:List D->Res R:=ip ic kJ
abbrev jq:Stmt:=top 28
noncomputable abbrev N__law_run:List Str:=["_law_house","_law_standing","_law_cells","_law_run_here","_law_cell","_law_room","_law_stack","_law_fits","_law_rule"]
abbrev jr:List Str:=N__law_run.take 3
def sc__law_run:aQ N__law_run jr (ay jq):=bU
def q_:((["_law_rule"]:List Str)++(["_law_room","_law_stack"]:List Str)).Nodup:=by decide +kernel
def cw:En->Res Bool:=λenv=>(yu (vB (v2 zK (aj 2) (jO aR))) (vB (v2 ti (fX (ai (bE 0 (vC (.int 0))) (ai (bE 0 (vC (.int 1))) aR))) (fX (ai (aj 1) (ai (bE 2 (vC (.int 0))) aR)))))) env
def eY:En->Res R:=λenv=>(aj 0) env
def gz:En->Res Fl:=λenv=>
 (bo (nY (bE 3 (Bm (vC (.int 1)))) (gT 2 (aK (gN 5) (aK (gN 6) cq))))
 (bo (cS 7 (de 1 [5,6] (g7 (bE 0 (vC (.int 2)))) (gN 0) cw eY))
 (bo (zO (vB (v2 ti (aj 7) (jO aR))) (λenv=>.ok (.bk env)) mS)
 (bo (cS 8 (bE 7 (v2 dM (aj 4) (rH yw (ai (aj 7) aR)))))
 (wf 3 (fX (ai (bE 8 (vC (.int 2))) (ai (v2 f_ (rH qF (ai (bE 8 (vC (.int 3))) aR)) (kh (aj 6) (kg (vC (.int 1))) wo)) aR)))))))) env
def rf:En->Res Fl:=
 (bo (cS 3 (jO (ai (aj 1) aR)))
 (bo (uu (g7 (aj 2)) (gN 4) gz)
 (gb (aj 3))))
def ie:List D->Res R:=ip N__law_run rf
abbrev gg:Stmt:=top 23
noncomputable abbrev N__law_stack_by:List Str:=["_law_cell","_law_size","_law_signs","_law_found","_law_number","_law_k","_law_sign"]
abbrev dz:List Str:=N__law_stack_by.take 3
def sc__law_stack_by:aQ N__law_stack_by dz (ay gg):=bU
def eZ:En->Res Fl:=λenv=>
 (bo (nY (rH d_ (ai (aj 4) (ai (aj 2) aR))) (gT 2 (aK (gN 4) (aK (gN 6) cq))))
 (wf 3 (v2 dM (v2 f_ (aj 6) (v2 qE (v2 qE (aj 5) (aj 5)) (v2 nW (aj 1) (vC (.int 30))))) (aj 2)))) env
def jN:En->Res Fl:=
 (bo (cS 3 (jO aR))
 (bo (cS 4 (v2 qE (v2 dM (aj 0) (v2 Eb (vC (.int 10)) (vC (.int 20)))) (v2 Eb (vC (.int 1000003)) (vC (.int 4)))))
 (bo (uu (Oq (ai (aj 1) aR)) (gN 5) eZ)
 (gb (aj 3)))))
def dC:List D->Res R:=ip N__law_stack_by jN
abbrev dN:Stmt:=top 24
noncomputable abbrev N__law_standing_by:List Str:=["_law_cell","_law_rooms","_law_signs","_law_size"]
abbrev cz:List Str:=N__law_standing_by.take 3
def sc__law_standing_by:aQ N__law_standing_by cz (ay dN):=bU
def dP:En->Res Fl:=
 (bo (cS 3 (v2 dM (v2 nW (aj 0) (vC (.int 6))) (vC (.int 6))))
 (bo (zO (vB (v2 ti (v2 dM (v2 nW (aj 0) (vC (.int 36))) (vC (.int 8))) (vC (.int 5)))) (cS 3 (v2 f_ (vC (.int 30)) (v2 dM (v2 nW (aj 0) (vC (.int 288))) (vC (.int 26))))) mS)
 (gb (fX (ai (v2 dM (v2 dM (aj 0) (vC (.int 6))) (aj 1)) (ai (bS dC (ai (v2 nW (aj 0) (vC (.int 288))) (ai (aj 3) (ai (aj 2) aR)))) aR))))))
def bV:List D->Res R:=ip N__law_standing_by dP
abbrev gA:Stmt:=top 16
noncomputable abbrev js:List Str:=["machine","sums"]
noncomputable abbrev gB:List Str:=["machine","sums"]
def rZ:aQ js gB (ay gA):=bU
def ot:((["end"]:List Str)++(["sums"]:List Str)).Nodup:=by decide +kernel
def cV:En->Res Bool:=λenv=>(vB (v2 DR (aj 0) (aj 1))) env
def cW:En->Res R:=λenv=>(fX (ai (v2 Dz (v2 tE (aj 1) (aj 0)) (vC (.int 0))) (ai (aj 0) aR))) env
def jt:En->Res Fl:=(gb (wW (de 1 [1] (g7 (bE 0 (vC (.int 2)))) (gN 0) cV cW)))
def e9:List D->Res R:=ip js jt
abbrev iN:Stmt:=top 13
noncomputable abbrev r_:List Str:=["told","leading","arrow","price"]
noncomputable abbrev fS:List Str:=["told"]
def sc_priced_from:aQ r_ fS (ay iN):=bU
def iO:List D->Res R:=L4.O1 L4.Hq L4.Hr
abbrev jv:Stmt:=top 14
noncomputable abbrev N_sums_ahead:List Str:=["leading","sums","sign","ahead","state","reached","arrow","price","known"]
abbrev gC:List Str:=N_sums_ahead.take 3
def sc_sums_ahead:aQ N_sums_ahead gC (ay jv):=bU
def cj:En->Res Fl:=λenv=>
 (bo (cS 8 (Ak (aj 3) (bE 6 (vC (.int 2)))))
 (zO (RN (DM (aj 8)) (vB (v2 Q9 (v2 f_ (bE 5 (vC (.int 0))) (aj 7)) (bE 8 (vC (.int 0)))))) (wu 3 (bE 6 (vC (.int 2))) (fX (ai (v2 f_ (bE 5 (vC (.int 0))) (aj 7)) (ai (aj 6) aR)))) mS)) env
def ig:En->Res Fl:=λenv=>(uu (g7 (wv (aj 0) (fX (ai (aj 4) (ai (aj 2) aR))) (jO aR))) (gT 2 (aK (gN 6) (aK (gN 7) cq))) cj) env
def m8:En->Res Fl:=
 (bo (cS 3 (λ_=>.ok (.jJ (.dZ [] []))))
 (bo (D_ (aj 1) (gT 2 (aK (gN 4) (aK (gN 5) cq))) ig)
 (gb (aj 3))))
def gD:List D->Res R:=ip N_sums_ahead m8
abbrev jw:Stmt:=top 15
noncomputable abbrev N_sums_along:List Str:=["told","standing","leading","rows","sign"]
abbrev gE:List Str:=N_sums_along.take 2
def sc_sums_along:aQ N_sums_along gE (ay jw):=bU
def ii:En->Res Fl:=λenv=>(wf 3 (bS gD (ai (aj 2) (ai (bE 3 (Bm (vC (.int 1)))) (ai (aj 4) aR))))) env
def m_:En->Res Fl:=
 (bo (mU 2 (bS iO (ai (aj 0) aR)))
 (bo (cS 3 (jO (ai (v2 qM (bE 1 (vC (.int 0))) (fX (ai (vC (.int 0)) (ai (vC .bn) aR)))) aR)))
 (bo (uu (g7 (bE 1 (vC (.int 1)))) (gN 4) ii)
 (gb (aj 3)))))
def gF:List D->Res R:=ip N_sums_along m_
abbrev jy:Stmt:=top 4
noncomputable abbrev N_is_plain:List Str:=["house","machine"]
abbrev jz:List Str:=N_is_plain.take 2
def w6:aQ N_is_plain jz (ay jy):=bU
def rg:((["arrow"]:List Str)++(["house"]:List Str)).Nodup:=by decide +kernel
def e_:En->Res R:=λenv=>(v2 RI (bE 0 (vC (.int 2))) (bE 1 (vC (.int 0)))) env
def rh:En->Res Fl:=(gb (rH GR (ai (de 1 [0] (g7 (bE 1 (vC (.int 1)))) (gN 0) (λ_=>.ok true) e_) aR)))
def jA:List D->Res R:=ip N_is_plain rh
abbrev cH:Stmt:=top 5
noncomputable abbrev fH:List Str:=["house","machine"]
noncomputable abbrev bX:List Str:=["house","machine"]
def jB:aQ fH bX (ay cH):=bU
def fI:En->Res Fl:=(zO (GH (Dx (bS jA (ai (aj 0) (ai (aj 1) aR))))) (λ_=>.stuck) mS)
def bY:List D->Res R:=ip fH fI
abbrev fL:Stmt:=top 9
noncomputable abbrev ou:List Str:=["house","rules","number","rule"]
noncomputable abbrev fM:List Str:=["house"]
def sc_rules_by_start:aQ ou fM (ay fL):=bU
abbrev ri:Stmt:=top 11
noncomputable abbrev N_prices:List Str:=["house","machine","pricing","arrow","number","rule"]
abbrev nc:List Str:=N_prices.take 2
def sc_prices:aQ N_prices nc (ay ri):=bU
abbrev MC:Stmt:=gu (top 7) 0
def Qj:aQ ["self"] ["self"] (ay MC):=bU
abbrev ME:Stmt:=gu (top 7) 1
def Qk:aQ ["self","price","thing"] ["self","price","thing"] (ay ME):=bU
abbrev MF:Stmt:=gu (top 7) 2
def Ql:aQ ["self"] ["self"] (ay MF):=bU
abbrev Ie:Stmt:=gu (top 7) 3
def sc_QT:aQ ["self","pile","price","thing"] ["self"] (ay Ie):=bU
abbrev MG:Stmt:=gu (top 10) 0
def Qm:aQ ["self","house"] ["self","house"] (ay MG):=bU
abbrev MH:Stmt:=gu (top 10) 1
def sc_PO:aQ ["self","arrow","price","number","mid","known"] ["self","arrow","price","number","mid"] (ay MH):=bU
abbrev MI:Stmt:=gu (top 10) 2
def sc_PS:aQ ["self","arrow","price","start","number","rule","first"] ["self","arrow","price"] (ay MI):=bU
abbrev MJ:Stmt:=gu (top 10) 3
def sc_PF:aQ ["self","number","rule","mid","price","start","state","second"] ["self","number","rule","mid","price"] (ay MJ):=bU
abbrev ML:Stmt:=gu (top 10) 4
def sc_PA:aQ ["self","price","arrow"] ["self"] (ay ML):=bU
def kK:List D->Res R:=L4.OT bY
abbrev uY:Stmt:=top 17
noncomputable abbrev N_least:List Str:=["house","machine","standing","lowest"]
abbrev pM:List Str:=N_least.take 3
def sc_least:aQ N_least pM (ay uY):=bU
def uZ:En->Res Fl:=
 (bo (mU 3 (bS e9 (ai (aj 1) (ai (v2 Dz (bS gF (ai (bS kK (ai (aj 0) (ai (aj 1) aR))) (ai (aj 2) aR))) (Bm (vC (.int 1)))) aR))))
 (gb (RO (DM (aj 3)) (vC .bn) (bE 3 (vC (.int 0))))))
def fT:List D->Res R:=ip N_least uZ
abbrev jC:Stmt:=top 20
noncomputable abbrev ng:List Str:=["_law_found"]
noncomputable abbrev gG:List Str:=["_law_found"]
def sh:aQ ng gG (ay jC):=bU
def nh:En->Res Fl:=(gb (GF (GQ "int" (aj 0)) (KW (GQ "bool" (aj 0)))))
def gH:List D->Res R:=ip ng nh
abbrev ff:Stmt:=top 27
noncomputable abbrev N__law_taken:List Str:=["_law_machine","_law_standing","_law_states","_law_sign"]
abbrev gI:List Str:=N__law_taken.take 2
def sc__law_taken:aQ N__law_taken gI (ay ff):=bU
def fO:((["_law_first","_law_seen","_law_last"]:List Str)++(["_law_states","_law_sign"]:List Str)).Nodup:=by decide +kernel
def oz:((["_law_state"]:List Str)++(["_law_machine"]:List Str)).Nodup:=by decide +kernel
def cX:En->Res Bool:=λenv=>(yu (vB (v2 ti (aj 1) (aj 4))) (vB (v2 DR (aj 0) (aj 3)))) env
def fg:En->Res R:=λenv=>(aj 2) env
def ij:En->Res Fl:=λenv=>(cS 2 (Le (de 3 [2,3] (g7 (bE 0 (vC (.int 1)))) (gT 3 (aK (gN 0) (aK (gN 1) (aK (gN 2) cq)))) cX fg))) env
def fj:En->Res Bool:=λenv=>(vB (v2 DR (aj 0) (bE 1 (vC (.int 2))))) env
def fq:En->Res R:=λenv=>(aj 0) env
def nu:En->Res Fl:=
 (bo (cS 2 (jO (ai (bE 1 (vC (.int 0))) aR)))
 (bo (uu (g7 (bE 1 (vC (.int 1)))) (gN 3) ij)
 (gb (v2 zK (de 1 [0] (g7 (aj 2)) (gN 0) fj fq) (jO aR)))))
def fy:List D->Res R:=ip N__law_taken nu
abbrev jD:Stmt:=top 29
noncomputable abbrev N__law_nexts:List Str:=["_law_house","_law_standing","_law_room","_law_stack","_law_found","_law_rule","_law_later"]
abbrev gJ:List Str:=N__law_nexts.take 2
def sc__law_nexts:aQ N__law_nexts gJ (ay jD):=bU
def fA:En->Res Fl:=λenv=>
 (zO (yu (vB (v2 zK (aj 3) (jO aR))) (vB (v2 ti (fX (ai (bE 5 (vC (.int 0))) (ai (bE 5 (vC (.int 1))) aR))) (fX (ai (aj 2) (ai (bE 3 (vC (.int 0))) aR)))))) (bo (cS 6 (fX (ai (bE 5 (vC (.int 2))) (ai (v2 f_ (rH qF (ai (bE 5 (vC (.int 3))) aR)) (kh (aj 3) (kg (vC (.int 1))) wo)) aR))))
 (zO (vB (v2 uy (aj 6) (aj 4))) (wf 4 (aj 6)) mS)) mS) env
def nv:En->Res Fl:=
 (bo (nY (aj 1) (gT 2 (aK (gN 2) (aK (gN 3) cq))))
 (bo (cS 4 (jO aR))
 (bo (uu (g7 (bE 0 (vC (.int 2)))) (gN 5) fA)
 (gb (aj 4)))))
def dc:List D->Res R:=ip N__law_nexts nv
abbrev fB:Stmt:=top 30
noncomputable abbrev N__law_falls:List Str:=["_law_house","_law_machine","_law_standing","_law_found","_law_later","_law_best"]
abbrev gK:List Str:=N__law_falls.take 3
def sc__law_falls:aQ N__law_falls gK (ay fB):=bU
def oB:((["_law_following"]:List Str)++(["_law_house","_law_machine"]:List Str)).Nodup:=by decide +kernel
def oC:((["_law_number"]:List Str)++([]:List Str)).Nodup:=by decide +kernel
def fC:En->Res R:=λenv=>(bS fT (ai (aj 1) (ai (aj 2) (ai (aj 0) aR)))) env
def cY:En->Res Bool:=λenv=>(zU (aj 0)) env
def cZ:En->Res R:=λenv=>(aj 0) env
def gL:En->Res Fl:=
 (bo (mU 3 (bS fT (ai (aj 0) (ai (aj 1) (ai (fX (ai (bE 2 (vC (.int 0))) (ai (rH qF (ai (bE 2 (vC (.int 1))) aR)) aR))) aR)))))
 (bo (zO (yu (zU (aj 3)) (GH (Dx (bS gH (ai (aj 3) aR))))) (gb (vC (.bl false))) mS)
 (bo (zO (Dx (bS fy (ai (aj 1) (ai (aj 2) aR)))) (gb (v2 ti (aj 3) (vC (.int 0)))) mS)
 (bo (cS 4 (de 1 [0,1] (g7 (bS dc (ai (aj 0) (ai (aj 2) aR)))) (gN 0) (λ_=>.ok true) fC))
 (bo (cS 5 (wW (de 1 [] (g7 (aj 4)) (gN 0) cY cZ)))
 (bo (zO (DM (aj 5)) (gb (KS (aj 3))) mS)
 (gb (v2 ti (aj 3) (v2 f_ (vC (.int 1)) (aj 5))))))))))
def cA:List D->Res R:=ip N__law_falls gL
abbrev E_:Stmt:=top 31
noncomputable abbrev N_law:List Str:=["_law_script","_law_house","_law_machine","_law_cells","_law_run_here","_law_at"]
abbrev Ao:List Str:=N_law.take 1
def sc_law:aQ N_law Ao (ay E_):=bU
def Ap:En->Res Fl:=λenv=>(gb (GF (bS cA (ai (aj 1) (ai (aj 2) (ai (bE 4 (vC (.int 0))) aR)))) (bS cA (ai (aj 1) (ai (aj 2) (ai (bE 4 (aj 5)) aR)))))) env
def Aq:En->Res Fl:=λenv=>
 (bo (cS 5 (v2 dM (bS bG (ai (aj 0) (ai (vC (.int 3)) aR))) (rH yw (ai (aj 4) aR))))
 Ap) env
def Ar:En->Res Fl:=λenv=>
 (bo (mU 4 (bS ie (ai (aj 1) (ai (bS bV (ai (bS bG (ai (aj 0) (ai (vC (.int 2)) aR))) (ai (bE 1 (vC (.int 0))) (ai (bE 1 (vC (.int 1))) aR)))) (ai (aj 3) aR)))))
 Aq) env
def Jq:En->Res Fl:=
 (bo (nY (bS eV (ai (aj 0) aR)) (gT 3 (aK (gN 1) (aK (gN 2) (aK (gN 3) cq)))))
 Ar)
def w8:List D->Res R:=ip N_law Jq
set_option genInjectivity false in
structure Tx(K:XE) (mg:Str->Option XG) where
 FC:Df K mg "_law_seed_at" h7 eG
 JV:Df K mg "_law_arrow_by" gf dv
 JE:Df K mg "_law_machine_by" bJ cM
 JU:Df K mg "_law_rule_by" h_ eJ
 JA:Df K mg "_law_made_by" eM eU
 JP:Df K mg "_law_run" jq jr
 JS:Df K mg "_law_stack_by" gg dz
 JG:Df K mg "_law_standing_by" dN cz
 JO:Df K mg "lowest_end" gA gB
 JJ:Df K mg "priced_from" iN fS
 JT:Df K mg "sums_ahead" jv gC
 JL:Df K mg "sums_along" jw gE
 JF:Df K mg "is_plain" jy jz
 FO:Df K mg "refuse_unless_plain" cH bX
 FN:Df K mg "rules_by_start" fL fM
 JH:Df K mg "prices" ri nc
 IE:Df K mg "least" uY pM
 JQ:Df K mg "_law_whole" jC gG
 JC:Df K mg "_law_taken" ff gI
 JN:Df K mg "_law_nexts" jD gJ
 IB:Df K mg "_law_falls" fB gK
 FJ:Df K mg "law" E_ Ao
 Ng:mg "all"=none
 Iz:mg "bool"=none
 dX:mg "divmod"=none
 nE:mg "enumerate"=none
 Nq:mg "int"=none
 lQ:mg "isinstance"=none
 mw:mg "len"=none
 pP:mg "list"=none
 u_:mg "min"=none
 nH:mg "range"=none
 Fv:mg "set"=none
 oO:mg "sorted"=none
 Fy:mg "tuple"=none
 CQ:Addr
 kQ:ve K CQ
 gQ:mg "Queue"=some (.ref CQ)
 CP:Addr
 kP:lB K CP
 gP:mg "Pricing"=some (.ref CP)
 Nb:Mf K CQ "__init__" "Queue.__init__" MC ["self"]
 Nv:Mk K CQ Nb.f
 IA:Mf K CQ "add" "Queue.add" ME ["self","price","thing"]
 Nw:Mf K CQ "is_empty" "Queue.is_empty" MF ["self"]
 Nn:Mf K CQ "take_lowest" "Queue.take_lowest" Ie ["self"]
 Nj:Mf K CP "__init__" "Pricing.__init__" MG ["self","house"]
 Ni:Mk K CP Nj.f
 za:Mf K CP "offer" "Pricing.offer" MH ["self","arrow","price","number","mid"]
 Np:Mf K CP "settle" "Pricing.settle" MI ["self","arrow","price"]
 Nh:Mf K CP "settle_first" "Pricing.settle_first" MJ ["self","number","rule","mid","price"]
 Nu:Mf K CP "settle_all" "Pricing.settle_all" ML ["self"]
section
variable{P:XF}{w:World}{K:XE}{mg:Str->Option XG}{base:Heap}(t:Tx K mg)
def dD:bH P w K mg base jg 1 t.FC.f t.FC.fd eG (mQ mg 2 bG):=
 d7 t.FC.h.fu sc__law_seed_at λcdv A outer s H E a=>
  have b:=a.units
  (au (bm sc__law_seed_at.nd rfl (.inl rfl) aA)
    (au (ga (cg (IS) (qv 1) (ci yx (by rfl) t.mw (by decide +kernel) (ac (qv 0) aw)) (bR _)) (aJ (bm sc__law_seed_at.nd rfl (.inl rfl) (nX (pv 0) (qv 1) (λ_ _=>rfl)))) cC)
    (aJ (bx (aL bw (aL j8 (aL j8 (aL b8 (aL bw (qv 2) aA) aA) aA) aA) aA)))))
def oE:bH P w K mg base jg 1 t.JV.f t.JV.fd dv (mQ mg 4 dw):=
 d7 t.JV.h.fu sc__law_arrow_by λcdv A outer s H E c=>
  have d:=c.units
  (au (bm sc__law_arrow_by.nd rfl (.inl rfl) (aL bw (aL j8 (qv 0) aA) aA))
    (au (d6 (ci dS (by rfl) t.dX (by decide +kernel) (ac (qv 4) (ac aA aw))) (cI rfl (aN (aC sc__law_arrow_by.nd rfl (.inl rfl)) (aN (aC sc__law_arrow_by.nd rfl (.inl rfl)) b6 (λ_ a _ b=>az a b)) (λ_ a _ b=>az a b))))
    (au (d6 (ci dS (by rfl) t.dX (by decide +kernel) (ac (qv 4) (ac aA aw))) (cI rfl (aN (aC sc__law_arrow_by.nd rfl (.inl rfl)) (aN (aC sc__law_arrow_by.nd rfl (.inl rfl)) b6 (λ_ a _ b=>az a b)) (λ_ a _ b=>az a b))))
    (aJ (bx (b9 (ac (aL bw (qv 5) (aL b8 (qv 1) (qv 2))) (ac (aL bw (qv 6) (qv 3)) (ac (aL b8 (qv 1) (aL bw (qv 4) (qv 2))) aw)))))))))
def mr:bH P w K mg base jg 2 t.JE.f t.JE.fd cM (mQ mg 5 bA):=
 d7 t.JE.h.fu sc__law_machine_by λcdv A outer s H E d=>
  have c:=d.units
  (au (bm sc__law_machine_by.nd rfl (.inl rfl) (aL bw (aL g6 (qv 0) aA) aA))
    (au (ga (cg (lI c) (qv 5) aA (bR _)) (au (bm sc__law_machine_by.nd rfl (.inl rfl) (b9 (ac (aL bw (aL g6 (qv 0) aA) (qv 2)) (ac (aL bw (aL g6 (qv 0) aA) (qv 4)) (ac (qv 2) aw)))))
    (aJ (bx (b9 (ac (aL b8 (qv 2) aA) (ac (ci yF (by rfl) t.oO (by decide +kernel) (ac (aL b8 (d5 (ac (qv 6) aw)) (k7 rfl (ck.of (osc:=ay bJ) (N:=N__law_machine_by) (tN:=["_law_sign"]) (capN:=["_law_rooms"]) (caps:=[2]) rfl rfl (by decide +kernel)) (l7 (by rfl) t.nH (ac (qv 4) aw)) (by decide) (λcl C a b fp=>(aC jP rfl (.inl rfl))) (λcl C a b fp=>ke) (λcl C a b fp=>(b9 (ac (qv 1) (ac (qv 0) (ac (qv 1) aw))))))) aw)) (ac (d5 (ac (qv 2) aw)) aw))))))) cC)
    (au (ga (cg (lI c) (qv 5) aA (bR _)) (aJ (bx (b9 (ac (qv 2) (ac (d5 aw) (ac (Bs (by rfl) (by rfl) t.pP (by decide +kernel) (by rfl) t.nH (ac (qv 2) aw)) aw)))))) cC)
    (au (kf rfl (ck.of (osc:=ay bJ) (N:=N__law_machine_by) (tN:=["_law_one"]) (capN:=["_law_rooms","_law_own","_law_signs"]) (caps:=[2,3,4]) rfl rfl (by decide +kernel)) sc__law_machine_by.nd rfl rfl (cJ (qv 1)) (by decide) (λcl C a b fp=>(aC jQ rfl (.inl rfl))) (λcl C a b fp=>ke) (λcl C a b fp=>(aZ (oE t) (d.mono (by decide)) (by rfl) t.JV.h cD (ac (qv 0) (ac (qv 1) (ac (qv 2) (ac (qv 3) aw)))) (av (av (av (av aY)))))))
    (au (kf rfl (ck.of (osc:=ay bJ) (N:=N__law_machine_by) (tN:=["_law_state"]) (capN:=["_law_cell"]) (caps:=[0]) rfl rfl (by decide +kernel)) sc__law_machine_by.nd rfl rfl (l7 (by rfl) t.nH (ac (aL b8 (qv 2) (qv 3)) aw)) (by decide) (λcl C a b fp=>(aC jR rfl (.inl rfl))) (λcl C a b fp=>(iU (cg (lI c) (aL GW (aL Ld (aL bw (aL g6 (qv 1) aA) aA) (qv 0)) aA) aA (bR _)))) (λcl C a b fp=>(qv 0)))
    (aJ (bx (b9 (ac (aL b8 (qv 2) (qv 3)) (ac (uB (by rfl) c (qv 7) (by rfl) t.oO (by decide +kernel) (by rfl) t.Fv (by decide +kernel)) (ac (qv 8) aw)))))))))))
def pd:bH P w K mg base jg 1 t.JU.f t.JU.fd eJ (mQ mg 3 eL):=
 d7 t.JU.h.fu sc__law_rule_by λcdv A outer s H E c=>
  have d:=c.units
  (au (bm sc__law_rule_by.nd rfl (.inl rfl) (aL bw (aL j8 (qv 0) aA) aA))
    (au (d6 (ci dS (by rfl) t.dX (by decide +kernel) (ac (qv 3) (ac aA aw))) (cI rfl (aN (aC sc__law_rule_by.nd rfl (.inl rfl)) (aN (aC sc__law_rule_by.nd rfl (.inl rfl)) b6 (λ_ a _ b=>az a b)) (λ_ a _ b=>az a b))))
    (au (d6 (ci dS (by rfl) t.dX (by decide +kernel) (ac (qv 3) (ac aA aw))) (cI rfl (aN (aC sc__law_rule_by.nd rfl (.inl rfl)) (aN (aC sc__law_rule_by.nd rfl (.inl rfl)) b6 (λ_ a _ b=>az a b)) (λ_ a _ b=>az a b))))
    (au (d6 (ci dS (by rfl) t.dX (by decide +kernel) (ac (qv 3) (ac aA aw))) (cI rfl (aN (aC sc__law_rule_by.nd rfl (.inl rfl)) (aN (aC sc__law_rule_by.nd rfl (.inl rfl)) b6 (λ_ a _ b=>az a b)) (λ_ a _ b=>az a b))))
    (au (d6 (ci dS (by rfl) t.dX (by decide +kernel) (ac (qv 3) (ac aA aw))) (cI rfl (aN (aC sc__law_rule_by.nd rfl (.inl rfl)) (aN (aC sc__law_rule_by.nd rfl (.inl rfl)) b6 (λ_ a _ b=>az a b)) (λ_ a _ b=>az a b))))
    (au (d6 (ci dS (by rfl) t.dX (by decide +kernel) (ac (qv 3) (ac aA aw))) (cI rfl (aN (aC sc__law_rule_by.nd rfl (.inl rfl)) (aN (aC sc__law_rule_by.nd rfl (.inl rfl)) b6 (λ_ a _ b=>az a b)) (λ_ a _ b=>az a b))))
    (au (bm sc__law_rule_by.nd rfl (.inl rfl) (d5 (ac (aL bw (qv 8) (qv 2)) (ac (aL bw (qv 3) (qv 2)) aw))))
    (aJ (bx (b9 (ac (aL bw (qv 5) (qv 1)) (ac (aL bw (qv 6) (qv 2)) (ac (aL bw (qv 7) (qv 1)) (ac (kY DY (by rfl) t.Fy (by decide +kernel) (ac (iV (qv 9) qJ (d8 (qv 4))) aw)) aw))))))))))))))
def ph:bH P w K mg base jg 3 t.JA.f t.JA.fd eU (mQ mg 1 eV):=
 d7 t.JA.h.fu sc__law_made_by λcdv A outer s H E a=>
  have d:=a.units
  (au (hV sc__law_made_by.nd rfl (.inl rfl) (aZ (dD t) (a.mono (by decide)) (by rfl) t.FC.h cD (ac (qv 0) (ac aA aw)) (av (av aY))))
    (au (hV sc__law_made_by.nd rfl (.inl rfl) (aZ (dD t) (a.mono (by decide)) (by rfl) t.FC.h cD (ac (qv 0) (ac aA aw)) (av (av aY))))
    (au (bm sc__law_made_by.nd rfl (.inr rfl) (aL b8 aA (aL bw (qv 1) aA)))
    (au (bm sc__law_made_by.nd rfl (.inr rfl) (aL b8 aA (aL bw (aL g6 (qv 1) aA) aA)))
    (au (bm sc__law_made_by.nd rfl (.inl rfl) (aL bw (aL g6 (qv 1) aA) aA))
    (au (bm sc__law_made_by.nd rfl (.inl rfl) (aL j8 (aL bw (qv 2) aA) (qv 5)))
    (au (hV sc__law_made_by.nd rfl (.inl rfl) (aZ (mr t) (a.mono (by decide)) (by rfl) t.JE.h cD (ac (qv 2) (ac (iV (qv 0) (d8 aA) (d8 (aL b8 aA (qv 6)))) (ac (qv 3) (ac (qv 5) (ac (qv 4) aw))))) (av (av (av (av (av aY)))))))
    (au (kf rfl (ck.of (osc:=ay eM) (N:=ic) (tN:=["_law_cell"]) (capN:=["_law_rooms","_law_signs"]) (caps:=[3,4]) rfl rfl (by decide +kernel)) sc__law_made_by.nd rfl rfl (cJ (iV (qv 0) (d8 (aL b8 aA (qv 6))) (d8 (aL b8 aA (qv 6))))) (by decide) (λcl C b c fp=>(aC mq rfl (.inl rfl))) (λcl C b c fp=>ke) (λcl C b c fp=>(aZ (pd t) (a.mono (by decide)) (by rfl) t.JU.h cD (ac (qv 0) (ac (qv 1) (ac (qv 2) aw))) (av (av (av aY))))))
    (aJ (bx (b9 (ac (b9 (ac (qv 3) (ac (qv 4) (ac (qv 8) aw)))) (ac (qv 7) (ac (iV (qv 0) (d8 (aL b8 aA (qv 6))) (d8 (aL b8 aA (qv 6)))) aw))))))))))))))
def w_:bH P w K mg base jg 1 t.JP.f t.JP.fd jr (mQ mg 3 ie):=
 d7 t.JP.h.fu sc__law_run λcdv A outer s H E g=>
  have c:=g.units
  (au (bm sc__law_run.nd rfl (.inl rfl) (d5 (ac (qv 1) aw)))
    (au (kZ UE rfl (cJ (qv 2)) (aC sc__law_run.nd rfl (.inl rfl)) (au (d6 (nX (pv 3) (yA aA) (λ_ _=>rfl)) (cI rfl (aN (aC sc__law_run.nd rfl (.inr rfl)) (aN (aC sc__law_run.nd rfl (.inr rfl)) b6 (λ_ a _ b=>az a b)) (λ_ a _ b=>az a b))))
    (au (kf rfl (ck.of (osc:=ay jq) (N:=N__law_run) (tN:=["_law_rule"]) (capN:=["_law_room","_law_stack"]) (caps:=[5,6]) rfl rfl (by decide +kernel)) sc__law_run.nd rfl rfl (cJ (bh (pv 0))) (by decide) (λcl C d e fp=>(aC q_ rfl (.inl rfl))) (λcl C d e fp=>(iU (PWD.pt (pB (cg (Du c) (qv 2) (d5 aw) (bR _)) (mP (cg (lI c) (b9 (ac (bh (pv 0)) (ac (bh (pv 0)) aw))) (b9 (ac (qv 1) (ac (bh (pv 2)) aw))) (bR _))))))) (λcl C d e fp=>(qv 0)))
    (au (ga (cg (lI c) (qv 7) (d5 aw) (bR _)) (aJ Bb) cC)
    (au (bm sc__law_run.nd rfl (.inl rfl) (nX (pv 7) (aL bw (qv 4) (ci yx (by rfl) t.mw (by decide +kernel) (ac (qv 7) aw))) (λ_ _=>rfl)))
    (aJ (pC (pv 3) (b9 (ac (bh (pv 8)) (ac (aL b8 (kY um (by rfl) t.pP (by decide +kernel) (ac (bh (pv 8)) aw)) (iV (qv 6) (d8 aA) qJ)) aw))))))))))
    (aJ (bx (qv 3)))))
def oF:bH P w K mg base jg 1 t.JS.f t.JS.fd dz (mQ mg 3 dC):=
 d7 t.JS.h.fu sc__law_stack_by λcdv A outer s H E c=>
  have d:=c.units
  (au (bm sc__law_stack_by.nd rfl (.inl rfl) (d5 aw))
    (au (bm sc__law_stack_by.nd rfl (.inl rfl) (aL j8 (aL bw (qv 0) (aL Ec aA aA)) (aL Ec aA aA)))
    (au (kZ UE rfl (l7 (by rfl) t.nH (ac (qv 1) aw)) (aC sc__law_stack_by.nd rfl (.inl rfl)) (au (d6 (ci dS (by rfl) t.dX (by decide +kernel) (ac (qv 4) (ac (qv 2) aw))) (cI rfl (aN (aC sc__law_stack_by.nd rfl (.inl rfl)) (aN (aC sc__law_stack_by.nd rfl (.inl rfl)) b6 (λ_ a _ b=>az a b)) (λ_ a _ b=>az a b))))
    (aJ (pC (pv 3) (aL bw (aL b8 (qv 6) (aL j8 (aL j8 (qv 5) (qv 5)) (aL g6 (qv 1) aA))) (qv 2))))))
    (aJ (bx (qv 3))))))
def lw:bH P w K mg base jg 2 t.JG.f t.JG.fd cz (mQ mg 3 bV):=
 d7 t.JG.h.fu sc__law_standing_by λcdv A outer s H E a=>
  have b:=a.units
  (au (bm sc__law_standing_by.nd rfl (.inl rfl) (aL bw (aL g6 (qv 0) aA) aA))
    (au (ga (cg (lI b) (aL bw (aL g6 (qv 0) aA) aA) aA (bR _)) (aJ (bm sc__law_standing_by.nd rfl (.inl rfl) (aL b8 aA (aL bw (aL g6 (qv 0) aA) aA)))) cC)
    (aJ (bx (b9 (ac (aL bw (aL bw (qv 0) aA) (qv 1)) (ac (aZ (oF t) (a.mono (by decide)) (by rfl) t.JS.h cD (ac (aL g6 (qv 0) aA) (ac (qv 3) (ac (qv 2) aw))) (av (av (av aY)))) aw)))))))
def sj:bH P w K mg base jg 1 t.JO.f t.JO.fd gB (mQ mg 2 e9):=
 d7 t.JO.h.fu rZ λcdv A outer s H E d=>
  have a:=d.units
  (aJ (bx (Aj rfl a (by rfl) t.u_ (k7 rfl (ck.of (osc:=ay gA) (N:=js) (tN:=["end"]) (capN:=["sums"]) (caps:=[1]) rfl rfl (by decide +kernel)) (cJ (bh (pv 0))) (by decide) (λcl C b c fp=>(aC ot rfl (.inl rfl))) (λcl C b c fp=>(iU (cg (yC a) (qv 0) (qv 1) (by rfl)))) (λcl C b c fp=>(b9 (ac (IV (GX a (qv 1) (qv 0) (λ_ _=>rfl)) aA (λ_ _=>rfl)) (ac (qv 0) aw))))))))
def rj:bH P w K mg base jg 1 t.JJ.f t.JJ.fd fS (mQ mg 1 iO):=
 t.JJ.h.fu.ok sc_priced_from (λ_ _ _ _ h=>h.1) λcdv A outer s H vs Q E a h=>
  ⟨_,aW (jb (i:=1) sc_priced_from.nd rfl (Or.inl rfl) jZ)
    (aW (D8 (gS UE rfl (A3 (pv 0)) (iI rfl (az (bD (i:=2) sc_priced_from.nd rfl (Or.inl rfl)) (az (bD (i:=3) sc_priced_from.nd rfl (Or.inl rfl)) fQ)))
      (aX (b5 (jX Vl Vg Vh fJ (jX Uy US Vi (mL a.units) (pv 1)
        (ah (dG (ah (bI ix_tup (pv 2) aS (λ_ _=>rfl)) (ah (bI ix_tup (pv 2) aS (λ_ _=>rfl)) aG))) (ah (jf aG) aG))) (ah (dG (ah (pv 2) (ah (bI ix_tup (pv 3) aS (λ_ _=>rfl)) aG))) aG))))))
    (aX (nK (pv 1)))),Ho O4 rfl h⟩
def sk:bH P w K mg base jg 1 t.JT.f t.JT.fd gC (mQ mg 3 gD):=
 d7 t.JT.h.fu sc_sums_ahead λcdv A outer s H E d=>
  have c:=d.units
  (au (bm sc_sums_ahead.nd rfl (.inl rfl) GT)
    (au (Ea UE rfl (qv 1) (cI rfl (aN (aC sc_sums_ahead.nd rfl (.inl rfl)) (aN (aC sc_sums_ahead.nd rfl (.inl rfl)) b6 (λ_ a _ b=>az a b)) (λ_ a _ b=>az a b))) (aJ (kZ UE rfl (cJ (GY c (qv 0) (b9 (ac (qv 4) (ac (qv 2) aw))) (d5 aw) ⟨rfl,rfl,rfl,rfl⟩)) (cI rfl (aN (aC sc_sums_ahead.nd rfl (.inl rfl)) (aN (aC sc_sums_ahead.nd rfl (.inl rfl)) b6 (λ_ a _ b=>az a b)) (λ_ a _ b=>az a b))) (au (bm sc_sums_ahead.nd rfl (.inl rfl) (Hy c (qv 3) (bh (pv 6)) ⟨rfl,rfl,rfl,rfl⟩))
    (aJ (ga (PWD.pt (KZ (ux (qv 8)) (GI (cg (IS) (aL b8 (bh (pv 5)) (qv 7)) (bh (pv 8)) (bR _))))) (aJ (GV c (pv 3) (bh (pv 6)) (b9 (ac (aL b8 (bh (pv 5)) (qv 7)) (ac (qv 6) aw))))) cC))))))
    (aJ (bx (qv 3)))))
def sn:bH P w K mg base jg 2 t.JL.f t.JL.fd gE (mQ mg 2 gF):=
 d7 t.JL.h.fu sc_sums_along λcdv A outer s H E a=>
  have b:=a.units
  (au (hV sc_sums_along.nd rfl (.inl rfl) (aZ (rj t) (a.mono (by decide)) (by rfl) t.JJ.h cD (ac (qv 0) aw) (av aY)))
    (au (bm sc_sums_along.nd rfl (.inl rfl) (d5 (ac (D7 (bh (pv 1)) (b9 (ac aA (ac Dt aw)))) aw)))
    (au (kZ UE rfl (cJ (bh (pv 1))) (aC sc_sums_along.nd rfl (.inl rfl)) (aJ (pC (pv 3) (aZ (sk t) (a.mono (by decide)) (by rfl) t.JT.h cD (ac (qv 2) (ac (nX (pv 3) (yA aA) (λ_ _=>rfl)) (ac (qv 4) aw))) (av (av (av aY)))))))
    (aJ (bx (qv 3))))))
def xa:bH P w K mg base jg 1 t.JF.f t.JF.fd jz (mQ mg 2 jA):=
 d7 t.JF.h.fu w6 λcdv A outer s H E c=>
  have d:=c.units
  (aJ (bx (ci (K5 (by rfl)) (by rfl) t.Ng (by decide +kernel) (ac (k7 rfl (ck.of (osc:=ay jy) (N:=N_is_plain) (tN:=["arrow"]) (capN:=["house"]) (caps:=[0]) rfl rfl (by decide +kernel)) (cJ (bh (pv 1))) (by decide) (λcl C a b fp=>(aC rg rfl (.inl rfl))) (λcl C a b fp=>ke) (λcl C a b fp=>(uk (Og) (bh (pv 0)) (bh (pv 1)) (bR _)))) aw))))
def jE:bH P w K mg base jg 2 t.FO.f t.FO.fd bX (mQ mg 2 bY):=
 d7 t.FO.h.fu jB λcdv A outer s H E a=>
  have b:=a.units
  (aJ (ga (zL (yt (aZ (xa t) (a.mono (by decide)) (by rfl) t.JF.h cD (ac (qv 0) (ac (qv 1) aw)) (av (av aY))))) (aJ Bu) cC))
def Qn:bH P w K mg base jg 1 t.Nb.f t.Nb.fd ["self"] (nG t.CQ):=t.Nb.h.fu.ok Qj (λ_ _ _ _ h=>wK h) λcdv A outer s H vs Q E a h=>⟨_,aW (jV (pv 0) aS rfl) (aX (jV (pv 0) vN rfl)),yN t.kQ h⟩
def Jr:bH P w K mg base jg 1 t.IA.f t.IA.fd ["self","price","thing"] (tS t.CQ):=
 t.IA.h.fu.ok Qk (λ_ _ _ _ h=>BE h) λcdv A outer s H vs Q E a h=>
  ⟨_,aX (b5 (jX Vl Vg Vh fJ (jX Uy US Vi Gh (cG (pv 0) rfl)
    (ah (CG PySem.F.plainAttrs_int PySem.F.slot_int_bit_length PySem.F.type_int_bit_length Hb (pR Kl (pv 1) (cG (pv 0) rfl))) (ah (jf aG) aG))) (ah (dG (ah (pv 1) (ah (pv 2) aG))) aG))),Ej t.kQ h rfl⟩
def Qo:bH P w K mg base jg 1 t.Nw.f t.Nw.fd ["self"] (nB t.CQ):=t.Nw.h.fu.ok Ql (λ_ _ _ _ h=>wL h) λcdv A outer s H vs Q E a h=>⟨_,aX (nK (zh zg (dk BH (by rfl) t.mw Xi (ah (cG (pv 0) rfl) aG)) aS (bR _))),yO t.kQ h⟩
def xb:bH P w K mg base jg 2 t.za.f t.za.fd ["self","arrow","price","number","mid"] (fU t.CP t.CQ):=
 t.za.h.fu.ok sc_PO (λ_ _ _ _ h=>wM h) λcdv A outer s H vs Q E a h=>
  ⟨_,aW (jb (i:=5) sc_PO.nd rfl (Or.inl rfl) (CS (sM a) (cG (pv 0) rfl) (pv 1) ⟨rfl,rfl,rfl,rfl⟩))
    (aX (sF (PW.pt (IF (je Lr (pv 5) lT (bR _)) (Co (je IG (pv 2) (bI ix_tup (pv 5) aS (λ_ _=>rfl)) (bR _)))))
      (aW (Ga (sM a) (cG (pv 0) rfl) (pv 1) (dG (ah (pv 2) (ah (pv 3) (ah (pv 4) aG)))) rfl)
        (aX (b5 (gs (cG (pv 0) rfl) t.kQ.cl t.IA.h.me (Jr t) a t.IA.h.bi .nil gX (ah (pv 2) (ah (pv 1) aG))))))
      mB)),yQ t.kP t.kQ h⟩
def Fa:((["price","thing"]:List Str)++([]:List Str)).Nodup:=by decide +kernel
def Qp:bH P w K mg base jg 2 t.Nn.f t.Nn.fd ["self"] (rF t.CQ):=
 t.Nn.h.fu.ok sc_QT (λ_ _ _ _ h=>yP h) λcdv A outer s H vs Q E a h=>
  ⟨_,aW (jb (i:=1) sc_QT.nd rfl (Or.inl rfl) (vP (cG (pv 0) rfl) (dk (BF rfl) (by rfl) t.u_ (by decide +kernel) (ah (CG Uy PySem.F.slot_dict_keys PySem.F.type_dict_keys Hd (cG (pv 0) rfl)) aG)) ⟨rfl,rfl,rfl,rfl⟩))
    (aW (jV (pv 0) (dk (BN rfl) (by rfl) t.u_ (by decide +kernel) (ah (EB (tN:=["price","thing"]) (capN:=[]) (caps:=[]) rfl (ck.of (osc:=ay Ie) (N:=["self","pile","price","thing"]) rfl rfl (by decide +kernel)) (jc (pv 1))) aG)) rfl)
    (aW (gS UE rfl (jc (pv 1)) (iI rfl (az (bD (i:=2) sc_QT.nd rfl (Or.inl rfl)) (az (bD (i:=3) sc_QT.nd rfl (Or.inl rfl)) fQ)))
      (aX (b5 (gs (pv 0) t.kQ.cl t.IA.h.me (Jr t) a t.IA.h.bi .nil gX (ah (pv 2) (ah (pv 3) aG))))))
    (aX (nK (vP (cG (pv 0) rfl) aS ⟨rfl,rfl,rfl,rfl⟩))))),
    BI t.kQ (λ_ _=>rfl) (BO rfl (λ_ _ _ _ _=>iI rfl (az (bD (i:=0) Fa rfl (Or.inl rfl)) (az (bD (i:=1) Fa rfl (Or.inl rfl)) fQ))) λ_ _ _ _ _=>pv 0) h⟩
def Qq:bH P w K mg base jg 3 t.Nh.f t.Nh.fd ["self","number","rule","mid","price"] (nA t.CP t.CQ):=
 t.Nh.h.fu.ok sc_PF (λ_ _ _ _ h=>wO h) λcdv A outer s H vs Q E a h=>
  ⟨_,aW (jb (i:=5) sc_PF.nd rfl (Or.inl rfl) (dG (ah (pv 3) (ah (bI ix_tup (bI ix_tup (pv 2) aS (λ_ _=>rfl)) aS (λ_ _=>rfl)) aG))))
    (aW (b5 (jX Vl Vg Vh fJ (jX Uy US Vi (mL a.units) (cG (pv 0) rfl) (ah (pv 5) (ah (jf aG) aG))) (ah (dG (ah (pv 1) (ah (pv 2) (ah (pv 4) aG)))) aG)))
    (aX (gS UE rfl (jc (p8 (sM a) (cG (pv 0) rfl) (pv 5) (jf aG) ⟨rfl,rfl,rfl,rfl⟩)) (iI rfl (az (bD (i:=6) sc_PF.nd rfl (Or.inl rfl)) (az (bD (i:=7) sc_PF.nd rfl (Or.inl rfl)) fQ)))
      (aX (b5 (gs (pv 0) t.kP.cl t.za.h.me (xb t) a t.za.h.bi .nil gX (ah (dG (ah (bI ix_tup (pv 2) aS (λ_ _=>rfl)) (ah (bI ix_tup (pv 2) aS (λ_ _=>rfl)) (ah (pv 6) aG))))
        (ah (pR op_add (pR op_add (pv 4) (pv 7)) aS) (ah (pv 1) (ah (pv 3) aG)))))))))),yR t.kP h⟩
def Qr:bH P w K mg base jg 4 t.Np.f t.Np.fd ["self","arrow","price"] (kR t.CP t.CQ):=
 t.Np.h.fu.ok sc_PS (λ_ _ _ _ h=>uN h) λcdv A outer s H vs Q E a h=>
  have b:dQ 2 _:=a.mono (by decide)
  ⟨_,aW (jb (i:=3) sc_PS.nd rfl (Or.inl rfl) (dG (ah (bI ix_tup (pv 1) aS (λ_ _=>rfl)) (ah (bI ix_tup (pv 1) aS (λ_ _=>rfl)) aG))))
    (aW (b5 (jX Vl Vg Vh fJ (jX Uy US Vi (mL a.units) (cG (pv 0) rfl) (ah (pv 3) (ah (jf aG) aG))) (ah (dG (ah (bI ix_tup (pv 1) aS (λ_ _=>rfl)) (ah (pv 2) aG))) aG)))
    (aW (gS UE rfl (jc (p8 (sM a) (cG (pv 0) rfl) (pv 3) (jf aG) ⟨rfl,rfl,rfl,rfl⟩)) (iI rfl (az (bD (i:=4) sc_PS.nd rfl (Or.inl rfl)) (az (bD (i:=5) sc_PS.nd rfl (Or.inl rfl)) (az (bD (i:=6) sc_PS.nd rfl (Or.inl rfl)) fQ))))
      (aX (b5 (gs (pv 0) t.kP.cl t.za.h.me (xb t) b t.za.h.bi .nil gX (ah (dG (ah (bI ix_tup (pv 5) aS (λ_ _=>rfl)) (ah (bI ix_tup (pv 5) aS (λ_ _=>rfl)) (ah (bI ix_tup (pv 1) aS (λ_ _=>rfl)) aG))))
        (ah (pR op_add (pR op_add (pv 6) (pv 2)) aS) (ah (pv 4) (ah (bI ix_tup (pv 1) aS (λ_ _=>rfl)) aG))))))))
    (aX (gS UE rfl (jc (p8 (sM a) (cG (pv 0) rfl) (pv 3) (jf aG) ⟨rfl,rfl,rfl,rfl⟩)) (iI rfl (az (bD (i:=4) sc_PS.nd rfl (Or.inl rfl)) (az (bD (i:=5) sc_PS.nd rfl (Or.inl rfl)) fQ)))
      (aX (sF (je zg (dk om (by rfl) t.mw Xi (ah (bI ix_tup (pv 5) aS (λ_ _=>rfl)) aG)) aS (bR _))
        (aX (b5 (gs (pv 0) t.kP.cl t.za.h.me (xb t) b t.za.h.bi .nil gX (ah (dG (ah (bI ix_tup (pv 5) aS (λ_ _=>rfl)) (ah (bI ix_tup (pv 5) aS (λ_ _=>rfl)) (ah (bI ix_tup (pv 1) aS (λ_ _=>rfl)) aG))))
          (ah (pR op_add (pv 2) aS) (ah (pv 4) (ah lT aG)))))))
        (aX (b5 (gs (pv 0) t.kP.cl t.Nh.h.me (Qq t) a t.Nh.h.bi .nil gX (ah (pv 4) (ah (pv 5) (ah (bI ix_tup (pv 1) aS (λ_ _=>rfl)) (ah (pv 2) aG))))))))))))),wR t.kP h⟩
def Qs:bH P w K mg base jg 5 t.Nu.f t.Nu.fd ["self"] (xH t.CP t.CQ):=
 t.Nu.h.fu.ok sc_PA (λ_ _ _ _ h=>BJ h) λcdv A outer s H vs Q E a h=>
  ⟨_,aX (Ct UE (Cp (J5 (pU (cG (pv 0) rfl) t.kQ.cl t.Nw.h.me (Qo t) (a.mono (by decide)) t.Nw.h.bi .nil gX)))
    (aX (gS UE rfl (jc (pU (cG (pv 0) rfl) t.kQ.cl t.Nn.h.me (Qp t) (a.mono (by decide)) t.Nn.h.bi .nil gX)) (iI rfl (az (bD (i:=1) sc_PA.nd rfl (Or.inl rfl)) (az (bD (i:=2) sc_PA.nd rfl (Or.inl rfl)) fQ)))
      (aX (sF (je zg (bI ix_tup (zt (sM a) (cG (pv 0) rfl) (pv 2) (λ_ _=>rfl)) aS (λ_ _=>rfl)) (pv 1) (bR _))
        (aX (b5 (gs (pv 0) t.kP.cl t.Np.h.me (Qr t) a t.Np.h.bi .nil gX (ah (pv 2) (ah (pv 1) aG))))) mB))))),Et t.kP h⟩
def nw:bH P w K mg base jg 1 t.FN.f t.FN.fd ["house"] Fx:=
 t.FN.h.fu.ok sc_rules_by_start (λ_ _ _ _ h=>Eu h) λcdv A outer s H vs Q E a h=>
  ⟨_,aW (jb (i:=1) sc_rules_by_start.nd rfl (Or.inl rfl) jZ)
    (aW (gS UE rfl (zT rfl t.nE (ah (bI ix_tup (pv 0) aS (λ_ _=>rfl)) aG)) (iI rfl (az (bD (i:=2) sc_rules_by_start.nd rfl (Or.inl rfl)) (az (bD (i:=3) sc_rules_by_start.nd rfl (Or.inl rfl)) fQ)))
      (aX (sF (je NW (dk om (by rfl) t.mw Xi (ah (bI ix_tup (pv 3) aS (λ_ _=>rfl)) aG)) aS (bR _))
        (aX (b5 (jX Vl Vg Vh fJ (jX Uy US Vi (mL a.units) (pv 1)
          (ah (dG (ah (bI ix_tup (pv 3) aS (λ_ _=>rfl)) (ah (bI ix_tup (bI ix_tup (pv 3) aS (λ_ _=>rfl)) aS (λ_ _=>rfl)) aG))) (ah (jf aG) aG))) (ah (dG (ah (pv 2) (ah (pv 3) aG))) aG)))) mB)))
    (aX (nK (pv 1)))),Hk h⟩
def Qu:bH P w K mg base jg 3 t.Nj.f t.Nj.fd ["self","house"] (nC t.CP t.CQ):=
 t.Nj.h.fu.ok Qm (λ_ _ _ _ h=>wU h) λcdv A outer s H vs Q E a h=>
  ⟨_,aW (jV (pv 0) (tW (nw t) (a.mono (by decide)) rfl t.FN.h.gl t.FN.h.fu.kp t.FN.h.bi .nil gX (ah (pv 1) aG)) rfl)
    (aW (jV (pv 0) jZ rfl) (aW (jV (pv 0) (CA t.Nv (Qn t) a rfl t.gQ t.Nb.h.bi .nil gX) rfl) (aW (jV (pv 0) jZ rfl) (aX (jV (pv 0) jZ rfl))))),yT t.kP h⟩
def B0:bH P w K mg base jg 6 t.JH.f t.JH.fd nc (mQ mg 2 kK):=
 t.JH.h.fu.ok sc_prices (λ_ _ _ _ h=>h.1) λcdv A outer s H vs Q E b h=>
  have a:dQ 2 _:=b.mono (by decide)
  ⟨_,aW (b5 (tW (jE t) (b.mono (by decide)) rfl t.FO.h.gl t.FO.h.fu.kp t.FO.h.bi .nil cD (ah (pv 0) (ah (pv 1) aG))))
    (aW (jb (i:=2) sc_prices.nd rfl (Or.inl rfl) (F2 t.Ni (Qu t) (b.mono (by decide)) rfl t.gP t.Nj.h.bi .nil gX (ah (pv 0) aG)))
    (aW (gS UE rfl (jc (bI ix_tup (pv 1) aS (λ_ _=>rfl))) (bD (i:=3) sc_prices.nd rfl (Or.inl rfl)) (aX (b5 (gs (pv 2) t.kP.cl t.za.h.me (xb t) a t.za.h.bi .nil gX (ah (pv 3) (ah aS (ah lT (ah lT aG))))))))
    (aW (gS UE rfl (zT rfl t.nE (ah (bI ix_tup (pv 0) aS (λ_ _=>rfl)) aG)) (iI rfl (az (bD (i:=4) sc_prices.nd rfl (Or.inl rfl)) (az (bD (i:=5) sc_prices.nd rfl (Or.inl rfl)) fQ)))
      (aX (sF (je zg (dk om (by rfl) t.mw Xi (ah (bI ix_tup (pv 5) aS (λ_ _=>rfl)) aG)) aS (bR _))
        (aX (b5 (gs (pv 2) t.kP.cl t.za.h.me (xb t) a t.za.h.bi .nil gX (ah (dG (ah (bI ix_tup (pv 5) aS (λ_ _=>rfl)) (ah (bI ix_tup (pv 5) aS (λ_ _=>rfl)) (ah (bI ix_tup (pv 5) aS (λ_ _=>rfl)) aG))))
          (ah aS (ah (pv 4) (ah lT aG))))))) mB)))
    (aW (b5 (pU (pv 2) t.kP.cl t.Nu.h.me (Qs t) b t.Nu.h.bi .nil gX))
    (aX (nK (cG (pv 2) rfl))))))),wV t.kP h⟩
def xc:bH P w K mg base jg 7 t.IE.f t.IE.fd pM (mQ mg 3 fT):=
 d7 t.IE.h.fu sc_least λcdv A outer s H E a=>
  have b:=a.units
  (au (hV sc_least.nd rfl (.inl rfl) (aZ (sj t) (a.mono (by decide)) (by rfl) t.JO.h cD (ac (qv 1) (ac (IV (aZ (sn t) (a.mono (by decide)) (by rfl) t.JL.h cD (ac (aZ (B0 t) (a.mono (by decide)) (by rfl) t.JH.h cD (ac (qv 0) (ac (qv 1) aw)) (av (av aY))) (ac (qv 2) aw)) (av (av aY))) (yA aA) (λ_ _=>rfl)) aw)) (av (av aY))))
    (aJ (bx (Oi (ux (qv 3)) Dt (bh (pv 3))))))
def sq:bH P w K mg base jg 1 t.JQ.f t.JQ.fd gG (mQ mg 1 gH):=
 d7 t.JQ.h.fu sh λcdv A outer s H E a=>
  have b:=a.units
  (aJ (bx (Dw (DJ DH (by rfl) t.lQ (by rfl) t.Nq (by decide +kernel) (qv 0)) (Dv (KY (DJ Bj (by rfl) t.lQ (by rfl) t.Iz (by decide +kernel) (qv 0)))))))
def sr:bH P w K mg base jg 1 t.JC.f t.JC.fd gI (mQ mg 2 fy):=
 d7 t.JC.h.fu sc__law_taken λcdv A outer s H E g=>
  have e:=g.units
  (au (bm sc__law_taken.nd rfl (.inr rfl) (d5 (ac (bh (pv 1)) aw)))
    (au (kZ UE rfl (cJ (bh (pv 1))) (aC sc__law_taken.nd rfl (.inr rfl)) (aJ (bm sc__law_taken.nd rfl (.inr rfl) (rW (by rfl) (k7 rfl (ck.of (osc:=ay ff) (N:=N__law_taken) (tN:=["_law_first","_law_seen","_law_last"]) (capN:=["_law_states","_law_sign"]) (caps:=[2,3]) rfl rfl (by decide +kernel)) (cJ (bh (pv 0))) (by decide) (λcl C c d fp=>(cI rfl (aN (aC fO rfl (.inl rfl)) (aN (aC fO rfl (.inl rfl)) (aN (aC fO rfl (.inl rfl)) b6 (λ_ a _ b=>az a b)) (λ_ a _ b=>az a b)) (λ_ a _ b=>az a b)))) (λcl C c d fp=>(iU (PWD.pt (pB (cg (lI e) (qv 1) (qv 4) (bR _)) (mP (cg (yC e) (qv 0) (qv 3) (by rfl))))))) (λcl C c d fp=>(qv 2))) (by rfl) t.oO (by decide +kernel) (by rfl) t.Fv (by decide +kernel)))))
    (aJ (bx (uk (Du e) (k7 rfl (ck.of (osc:=ay ff) (N:=N__law_taken) (tN:=["_law_state"]) (capN:=["_law_machine"]) (caps:=[0]) rfl rfl (by decide +kernel)) (cJ (qv 2)) (by decide) (λcl C c d fp=>(aC oz rfl (.inl rfl))) (λcl C c d fp=>(iU (cg (yC e) (qv 0) (bh (pv 1)) (by rfl)))) (λcl C c d fp=>(qv 0))) (d5 aw) (bR _))))))
def ss:bH P w K mg base jg 1 t.JN.f t.JN.fd gJ (mQ mg 2 dc):=
 d7 t.JN.h.fu sc__law_nexts λcdv A outer s H E d=>
  have c:=d.units
  (au (d6 (qv 1) (cI rfl (aN (aC sc__law_nexts.nd rfl (.inl rfl)) (aN (aC sc__law_nexts.nd rfl (.inl rfl)) b6 (λ_ a _ b=>az a b)) (λ_ a _ b=>az a b))))
    (au (bm sc__law_nexts.nd rfl (.inl rfl) (d5 aw))
    (au (kZ UE rfl (cJ (bh (pv 0))) (aC sc__law_nexts.nd rfl (.inl rfl)) (aJ (ga (PWD.pt (pB (cg (Du c) (qv 3) (d5 aw) (bR _)) (mP (cg (lI c) (b9 (ac (bh (pv 5)) (ac (bh (pv 5)) aw))) (b9 (ac (qv 2) (ac (bh (pv 3)) aw))) (bR _))))) (au (bm sc__law_nexts.nd rfl (.inl rfl) (b9 (ac (bh (pv 5)) (ac (aL b8 (kY um (by rfl) t.pP (by decide +kernel) (ac (bh (pv 5)) aw)) (iV (qv 3) (d8 aA) qJ)) aw))))
    (aJ (ga (cg (Bq c) (qv 6) (qv 4) (by rfl)) (aJ (pC (pv 4) (qv 6))) cC))) cC)))
    (aJ (bx (qv 4))))))
def lM:bH P w K mg base jg 8 t.IB.f t.IB.fd gK (mQ mg 3 cA):=
 d7 t.IB.h.fu sc__law_falls λcdv A outer s H E a=>
  have d:=a.units
  (au (hV sc__law_falls.nd rfl (.inl rfl) (aZ (xc t) (a.mono (by decide)) (by rfl) t.IE.h cD (ac (qv 0) (ac (qv 1) (ac (b9 (ac (bh (pv 2)) (ac (kY um (by rfl) t.pP (by decide +kernel) (ac (bh (pv 2)) aw)) aw))) aw))) (av (av (av aY)))))
    (au (ga (PWD.pt (pB (wq (qv 3)) (mP (zL (yt (aZ (sq t) (a.mono (by decide)) (by rfl) t.JQ.h cD (ac (qv 3) aw) (av aY))))))) (aJ (bx Of)) cC)
    (au (ga (yt (aZ (sr t) (a.mono (by decide)) (by rfl) t.JC.h cD (ac (qv 1) (ac (qv 2) aw)) (av (av aY)))) (aJ (bx (uk (lI d) (qv 3) aA (bR _)))) cC)
    (au (kf rfl (ck.of (osc:=ay fB) (N:=N__law_falls) (tN:=["_law_following"]) (capN:=["_law_house","_law_machine"]) (caps:=[0,1]) rfl rfl (by decide +kernel)) sc__law_falls.nd rfl rfl (cJ (aZ (ss t) (a.mono (by decide)) (by rfl) t.JN.h cD (ac (qv 0) (ac (qv 2) aw)) (av (av aY)))) (by decide) (λcl C b c fp=>(aC oB rfl (.inl rfl))) (λcl C b c fp=>ke) (λcl C b c fp=>(aZ (xc t) (a.mono (by decide)) (by rfl) t.IE.h cD (ac (qv 1) (ac (qv 2) (ac (qv 0) aw))) (av (av (av aY))))))
    (au (bm sc__law_falls.nd rfl (.inl rfl) (Aj rfl d (by rfl) t.u_ (k7 rfl (ck.of (osc:=ay fB) (N:=N__law_falls) (tN:=["_law_number"]) (capN:=[]) (caps:=[]) rfl rfl (by decide +kernel)) (cJ (qv 4)) (by decide) (λcl C b c fp=>(aC oC rfl (.inl rfl))) (λcl C b c fp=>(iU (wq (qv 0)))) (λcl C b c fp=>(qv 0)))))
    (au (ga (ux (qv 5)) (aJ (bx (KU (qv 3)))) cC)
    (aJ (bx (uk (lI d) (qv 3) (aL b8 aA (qv 5)) (bR _))))))))))
def MM:bH P w K mg base jg 9 t.FJ.f t.FJ.fd Ao (mQ mg 1 w8):=
 d7 t.FJ.h.fu sc_law λcdv A outer s H E c=>
  have d:=c.units
  (au (d6 (aZ (ph t) (c.mono (by decide)) (by rfl) t.JA.h cD (ac (qv 0) aw) (av aY)) (cI rfl (aN (aC sc_law.nd rfl (.inl rfl)) (aN (aC sc_law.nd rfl (.inl rfl)) (aN (aC sc_law.nd rfl (.inl rfl)) b6 (λ_ a _ b=>az a b)) (λ_ a _ b=>az a b)) (λ_ a _ b=>az a b))))
    (au (hV sc_law.nd rfl (.inl rfl) (aZ (w_ t) (c.mono (by decide)) (by rfl) t.JP.h cD (ac (qv 1) (ac (aZ (lw t) (c.mono (by decide)) (by rfl) t.JG.h cD (ac (aZ (dD t) (c.mono (by decide)) (by rfl) t.FC.h cD (ac (qv 0) (ac aA aw)) (av (av aY))) (ac (bh (pv 1)) (ac (bh (pv 1)) aw))) (av (av (av aY)))) (ac (qv 3) aw))) (av (av (av aY)))))
    (au (bm sc_law.nd rfl (.inl rfl) (aL bw (aZ (dD t) (c.mono (by decide)) (by rfl) t.FC.h cD (ac (qv 0) (ac aA aw)) (av (av aY))) (ci yx (by rfl) t.mw (by decide +kernel) (ac (qv 4) aw))))
    (aJ (bx (Dw (aZ (lM t) (c.mono (by decide)) (by rfl) t.IB.h cD (ac (qv 1) (ac (qv 2) (ac (bh (pv 4)) aw))) (av (av (av aY)))) (Dv (aZ (lM t) (c.mono (by decide)) (by rfl) t.IB.h cD (ac (qv 1) (ac (qv 2) (ac (nX (pv 4) (qv 5) (λ_ _=>rfl)) aw))) (av (av (av aY)))))))))))
end
def Qw{K KK:XE}{mg:Str->Option XG}{h:Heap}(X:K.In h)(G:h.Ns mainGlobals mg)(U:xI K KK)
 (FC:FK K "_law_seed_at" h7) (JV:FK K "_law_arrow_by" gf) (JE:FK K "_law_machine_by" bJ) (JU:FK K "_law_rule_by" h_) (JA:FK K "_law_made_by" eM) (JP:FK K "_law_run" jq) (JS:FK K "_law_stack_by" gg) (JG:FK K "_law_standing_by" dN) (JO:FK K "lowest_end" gA) (JJ:FK K "priced_from" iN) (JT:FK K "sums_ahead" jv) (JL:FK K "sums_along" jw) (JF:FK K "is_plain" jy) (FO:FK K "refuse_unless_plain" cH) (FN:FK K "rules_by_start" fL) (JH:FK K "prices" ri) (IE:FK K "least" uY) (JQ:FK K "_law_whole" jC) (JC:FK K "_law_taken" ff) (JN:FK K "_law_nexts" jD) (IB:FK K "_law_falls" fB) (FJ:FK K "law" E_)
 (m:nsIn K mainGlobals "all"=some none)
 (k:nsIn K mainGlobals "bool"=some none)
 (d:nsIn K mainGlobals "divmod"=some none)
 (c:nsIn K mainGlobals "enumerate"=some none)
 (n:nsIn K mainGlobals "int"=some none)
 (a:nsIn K mainGlobals "isinstance"=some none)
 (o:nsIn K mainGlobals "len"=some none)
 (l:nsIn K mainGlobals "list"=some none)
 (p:nsIn K mainGlobals "min"=some none)
 (f:nsIn K mainGlobals "range"=some none)
 (q:nsIn K mainGlobals "set"=some none)
 (e:nsIn K mainGlobals "sorted"=some none)
 (g:nsIn K mainGlobals "tuple"=some none)
 {CQ:Addr} (R:CK K KK "Queue" CQ) (z:findIn KK (.ref CQ) "last"=some none) (A:findIn KK (.ref CQ) "piles"=some none)
 {CP:Addr} (S:CK K KK "Pricing" CP) (B:findIn KK (.ref CP) "rules"=some none) (C:findIn KK (.ref CP) "told"=some none) (D:findIn KK (.ref CP) "offers"=some none) (E:findIn KK (.ref CP) "settled"=some none) (F:findIn KK (.ref CP) "lacking"=some none)
 {H:Addr} (i:MK KK CQ "__init__" "Queue.__init__" MC H)
 {I:Addr} (r:MK KK CQ "add" "Queue.add" ME I)
 {J:Addr} (s:MK KK CQ "is_empty" "Queue.is_empty" MF J)
 {L:Addr} (u:MK KK CQ "take_lowest" "Queue.take_lowest" Ie L)
 {M:Addr} (j:MK KK CP "__init__" "Pricing.__init__" MG M)
 {N:Addr} (v:MK KK CP "offer" "Pricing.offer" MH N)
 {O:Addr} (w:MK KK CP "settle" "Pricing.settle" MI O)
 {P:Addr} (x:MK KK CP "settle_first" "Pricing.settle_first" MJ P)
 {Q:Addr} (y:MK KK CP "settle_all" "Pricing.settle_all" ML Q)
 : ∃t:Tx KK mg,True:=by
 obtain⟨FC⟩:=df (ps:=eG) X G U FC;obtain⟨JV⟩:=df (ps:=dv) X G U JV;obtain⟨JE⟩:=df (ps:=cM) X G U JE;obtain⟨JU⟩:=df (ps:=eJ) X G U JU;obtain⟨JA⟩:=df (ps:=eU) X G U JA;obtain⟨JP⟩:=df (ps:=jr) X G U JP;obtain⟨JS⟩:=df (ps:=dz) X G U JS;obtain⟨JG⟩:=df (ps:=cz) X G U JG;obtain⟨JO⟩:=df (ps:=gB) X G U JO;obtain⟨JJ⟩:=df (ps:=fS) X G U JJ;obtain⟨JT⟩:=df (ps:=gC) X G U JT;obtain⟨JL⟩:=df (ps:=gE) X G U JL;obtain⟨JF⟩:=df (ps:=jz) X G U JF;obtain⟨FO⟩:=df (ps:=bX) X G U FO;obtain⟨FN⟩:=df (ps:=fM) X G U FN;obtain⟨JH⟩:=df (ps:=nc) X G U JH;obtain⟨IE⟩:=df (ps:=pM) X G U IE;obtain⟨JQ⟩:=df (ps:=gG) X G U JQ;obtain⟨JC⟩:=df (ps:=gI) X G U JC;obtain⟨JN⟩:=df (ps:=gJ) X G U JN;obtain⟨IB⟩:=df (ps:=gK) X G U IB;obtain⟨FJ⟩:=df (ps:=Ao) X G U FJ;have Nv:=O5 R i;obtain⟨Nb,rfl⟩:=mf (ps:=["self"]) i;obtain⟨IA,rfl⟩:=mf (ps:=["self","price","thing"]) r;obtain⟨Nw,rfl⟩:=mf (ps:=["self"]) s;obtain⟨Nn,rfl⟩:=mf (ps:=["self"]) u;have Ni:=O5 S j;obtain⟨Nj,rfl⟩:=mf (ps:=["self","house"]) j;obtain⟨za,rfl⟩:=mf (ps:=["self","arrow","price","number","mid"]) v;obtain⟨Np,rfl⟩:=mf (ps:=["self","arrow","price"]) w;obtain⟨Nh,rfl⟩:=mf (ps:=["self","number","rule","mid","price"]) x;obtain⟨Nu,rfl⟩:=mf (ps:=["self"]) y;exact⟨⟨FC,JV,JE,JU,JA,JP,JS,JG,JO,JJ,JT,JL,JF,FO,FN,JH,IE,JQ,JC,JN,IB,FJ,UG X G m,UG X G k,UG X G d,UG X G c,UG X G n,UG X G a,UG X G o,UG X G l,UG X G p,UG X G f,UG X G q,UG X G e,UG X G g,CQ,⟨R.cl,z,A⟩,PySem.W.mg_of X G R.b,CP,⟨S.cl,B,C,D,E,F⟩,PySem.W.mg_of X G S.b,Nb,Nv,IA,Nw,Nn,Nj,Ni,za,Np,Nh,Nu⟩,True.intro⟩
def MN{l:PySem.W.OpenLaw}{w:World}{K:XE}{mg:Str->Option XG}{fa:Addr}(a:mg "law"=some (.ref fa)) (T:∃t:Tx K mg,True) :
 ∃fd:FuncData,(∀(s:XD)(v:XG),BindsTo s fd ⟨[v],[]⟩ [("_law_script",v)])/\∀base:Heap,bH l.prog w K mg base jg 9 fa fd ["_law_script"] (Rb w8):=by
 obtain⟨t,_⟩:=T;have e:=a.symm.trans t.FJ.h.gl;cases e;obtain⟨oc,od,kV,doc,pm,an,cdv,ct,osl,b,lk,c⟩:=t.FJ.h.fu.ex;exact⟨t.FJ.fd,λs v=>by rw[b];exact .of_eq rfl,λbase=>bH.top (MM t)⟩
end W
namespace W
open PySem L2 L3 L4
def rp(h:0<y)(a:y<1073741824):d_ [.val (.int x) f al,.val (.int y) g bl]=.ok (.val (.tup [.int (x/y),.int (x%y)]) true []):=T2 ⟨h,a⟩
def MO(f:En->Res R)(env:En):KS f env=(f env).bind λra=>.ok (.val (.bl ra.d.gr) true []):=(rfl)
def Fb:uz [.new ds f]=.ok (jh (.tup ds) f []):=(rfl)
def lj(c:i<env.length)(d:j<env.length):E2 (gT 2 (aK (gN i) (aK (gN j) cq))) env (.val (.tup [a,b]) f [])=.ok (.nx ((env.set i (some (.val a f))).set j (some (.val b f)))):=by refine E3 ?_;show(aK (gN i) (aK (gN j) cq)) [a,b] f env=_;rw[m7,ER c];show(aK (gN j) cq) [b] f _=_;rw[m7,ER (by grind)];rfl
theorem As(k:List Int):∀l,(rT k l).length<=l.length+1
 |[]=>by simp[rT]
 |h::t=>by
  have:=As k t;unfold rT;split
  .simp
  .split<;>simp<;>lia
theorem xf:∀ks,(fG ks).length<=ks.length
 |[]=>TY _
 |k::r=>by have h1:=As k (fG r);have a:=xf r;unfold fG;simp only[Ue];lia
def Qx(a:r.d=.lst (ks.map iY))(h:ks.length<=63)(b:ks.all (λk=>!k.isEmpty)=true)(nd:ks.Nodup):ND [r]=.ok (.new ((fG ks).map iY) true):=by
 simp_all [R,iY,ND,fG,G4,li]
abbrev vv(d:D)(f:Bool):Option Sl:=some (.val d f)
abbrev ow(d:List D)(f:Bool):Option Sl:=some (.own d f)
def sd(ns:List Int)(k:Int):Int:=((if k<ns.length then(dR ns k).getD 0 else 0)%2147483647+11)*48271*69621%2147483629
def Fc(ns:List Int)(k:Int):0<=sd ns k:=by unfold sd;lia
def pN(ns:List Int)(k:Int)(c:0<=k):bG [.lst (ns.map .int),.int k]=.ok (.val (.int (sd ns k)) true []):=by
 by_cases h:k<ns.length
 .have hd:decide (k<(ns.length:Int))=true:=Uj h;obtain⟨a,b,_⟩:=yZ c h;have ha:dR (ns.map D.int) k=some (.int a):=by rw[uX,b];rfl
  simp_arith[bG,h8,TZ,hd,ha];unfold sd;rw[T2 h,b];rfl
 .have hd:decide (k<(ns.length:Int))=false:=Ur h;simp_arith[bG,h8,TZ,hd];unfold sd;rw[T9 h]
def gR(t:Pz.bb):(cn t).flat=true:=(rfl)
def cb(r:Pz.aV):(a_ r).flat=true:=by unfold a_;simp only[wY,jo,qZ,bj,tQ,W7]
def B3(r:Pz.aV):(a_ r).dep<=2:=by have:=i_ r.2.2.2;unfold a_;simp only[uU,lc,uT,m5];lia
structure RR(ro sg:Int) (r:Pz.aV):Prop where
 a:0<=r.1/\r.1<ro
 s:0<=r.2.1/\r.2.1<sg
 t:0<=r.2.2.1/\r.2.2.1<ro
 p:r.2.2.2.length<=2
 q:∀x∈r.2.2.2,0<=x/\x<sg
def Mc(n:Int)(ts:List Pz.bb)(es:List Int):D:=.tup [.int n,.lst (ts.map cn),.lst (es.map .int)]
def dE(n:Int)(ts:List Pz.bb)(es:List Int):(Mc n ts es).flat=false:=by constructor<;>grind
structure PM(ro sg n:Int) (ts:List Pz.bb) (es:List Int):Prop where
 rn:ro<=n
 S3:n<=ro+22
 arr:∀t∈ts,0<=t.1/\t.1<n/\0<=t.2.1/\t.2.1<sg/\ro<=t.2.2/\t.2.2<n
 lt:ts.length<=29
 nd:ts.Nodup
 ends:∀e∈es,0<=e/\e<n
 le:es.length<=6
def Hs(ro sg:Int)(RL:List Pz.aV):D:=.tup [.int ro,.int sg,.lst (RL.map a_)]
def oG(h:f env=.ok (.val (.lst ds) fr al)):de n caps (g7 f) asg ft fe env=lL n caps asg ft fe env ⟨ds,fr,al⟩:=by rw[gd,uR,h];rfl
def dF(ro sg:Int)(RL:List Pz.aV):(Hs ro sg RL).flat=false:=by constructor<;>grind
def Fd(P:PM ro sg n ts es):bY [Hs ro sg RL,Mc n ts es]=.ok (.val .bn true []):=by
 have a:jA [Hs ro sg RL,Mc n ts es]=.ok (.val (.bl true) true []):=by
  have f:=P.lt;have h:=gO (mk:=λd=>gN 0 d false (gw [vv (Hs ro sg RL) false,vv (Mc n ts es) false] 1 [0])) (test:=λ_=>.ok true) (elt:=e_) cn (λ_=>.val (.bl true) true []) ts λt b=>⟨_,rfl,rfl,by show e_ [vv (cn t) false,vv (Hs ro sg RL) false]=_;have:=P.arr t b;have hd:decide (ro<=t.2.2)=true:=Uj (by lia);unfold cn Hs;simp_arith[e_,hd]⟩;have e:de 1 [0] (g7 (bE 1 (vC (.int 1)))) (gN 0) (λ_=>.ok true) e_ [vv (Hs ro sg RL) false,vv (Mc n ts es) false]=.ok (.new (ts.map λ_=>D.bl true) true):=by have g:D.bW (ts.map cn)=true:=bB _ _ gR;rw[oG (ds:=ts.map cn) (fr:=false) (al:=[]) (by unfold Mc;simp_arith)];rw[eF (by grind) h,kH,cU,gc (bB _ _ λc=>rfl)]
  simp_arith[-gd,jA,rh,e,BY]
 simp_arith[bY,fI,dF,dE,a]
noncomputable def oH(ro sg n:Int):List Pz.bb:=(List.range ro.toNat).flatMap λa=>(List.range sg.toNat).flatMap λs=>(List.range n.toNat).map λt=>(((a:Nat):Int),((s:Nat):Int),((t:Nat):Int))
def univ_mem:((a,s,t):Pz.bb)∈oH ro sg n↔(0<=a/\a<ro)/\(0<=s/\s<sg)/\0<=t/\t<n:=by
 unfold oH;simp only[Xx,T_,UF,Prod.mk.injEq];constructor
 .rintro⟨x,b,y,c,z,hz,rfl,rfl,rfl⟩;lia
 .rintro⟨h1,d,e⟩;exact⟨a.toNat,by lia,s.toNat,by lia,t.toNat,by lia,by lia,by lia,by lia⟩
def B4{α:Type}(c:Nat):∀l:List α,(l.map λ_=>c).sum=l.length*c:=by intro l;induction l<;>grind
def Fe(ro sg n:Int):(oH ro sg n).length=ro.toNat*(sg.toNat*n.toNat):=by
 simp_all [oH,B4]
def mv(t:Pz.TD):(fZ t).flat=false:=kG _ _
def Js(c ro sg:Int):Pz.aV:=
 let n:=c*48271%2147483647
 (n/3%6%ro,n/3/6%60%sg,n/3/6/60%6%ro,db [n/3/6/60/6%60%sg,n/3/6/60/6/60%sg] none (some (n%3)))
def Ig(c ro sg:Int)(h1:0<ro)(d:0<sg):eL [.int c,.int ro,.int sg]=.ok (.val (a_ (Js c ro sg)) true []):=by have e:∀a b:Int,∀k:Option Int,db [D.int a,D.int b] none k=(db [a,b] none k).map D.int:=λa b k=>m6 D.int [a,b] none k;simp_arith[eL,kI,h1,d,rp,lj,e,bj,Fb];rfl
def MP(c ro sg:Int)(h1:0<ro)(d:0<sg):RR ro sg (Js c ro sg):=
 have e:∀a b:Int,0<b->0<=a%b/\a%b<b:=λa b h=>⟨VU _ (by lia),Vn _ h⟩
 ⟨e _ _ h1,e _ _ d,e _ _ h1,E7 _ _ _,λx f=>by
   have:=E8 _ _ _ x f;rcases T6.mp this with h|h
   .rw[h];exact e _ _ d
   .rw[Uh.mp h];exact e _ _ d⟩
noncomputable def B5(c ro own sg:Int):Pz.bb:=
 let n:=c*69621%2147483629
 (n%60%(ro+own),n/60%60%sg,ro+n/60/60%own)
def Ff(c ro own sg:Int)(h1:0<ro)(a:0<own)(b:0<sg):dw [.int c,.int ro,.int own,.int sg]=.ok (.val (cn (B5 c ro own sg)) true []):=by
 have d:0<ro+own:=by lia
 simp_arith[dw,jM,d,a,b,rp,lj];rfl
def MQ(c ro own sg:Int)(h1:0<ro)(d:0<own)(e:0<sg):0<=(B5 c ro own sg).1/\(B5 c ro own sg).1<ro+own/\0<=(B5 c ro own sg).2.1/\(B5 c ro own sg).2.1<sg/\ro<=(B5 c ro own sg).2.2/\(B5 c ro own sg).2.2<ro+own:=by unfold B5;have a:=VU (c*69621%2147483629/60/60) (show own≠0 by lia);have b:=Vn (c*69621%2147483629/60/60) d;refine⟨VU _ (by lia),Vn _ (by lia),VU _ (by lia),Vn _ e,?_,?_⟩<;>(simp only[];lia)
def Qy(a:r.d=.lst (ks.map iY))(h:ks.length<=63)(b:ks.all (λk=>!k.isEmpty)=true):IX r=.ok (.new ((fG ks).map iY) true):=by grind [IX,G0,li,iY]
noncomputable def Jt:List Int->Pz.bb
 |[a,b,c]=>(a,b,c)
 |_=>(0,0,0)
noncomputable def xg(t:Pz.bb):List Int:=[t.1,t.2.1,t.2.2]
def fP(ts:List Pz.bb):List Pz.bb:=(fG (ts.map xg)).map Jt
def xh(ts:List Pz.bb):(fP ts).length<=ts.length:=by grind [xf,xg,fP]
def Au(ts:List Pz.bb):(fG (ts.map xg)).map iY=(fP ts).map cn:=by unfold fP;rw[Uo];refine Vb λk a=>?_;obtain⟨t,_,rfl⟩:=T_.mp ((iZ k _).mp a);rfl
theorem jF(t:Pz.bb):Jt (xg t)=t:=(rfl)
theorem xj(ts:List Pz.bb)(t:Pz.bb):t∈fP ts↔t∈ts:=by induction ts<;>grind [fP,xg,iZ,jF]
theorem lq{α c:Type}(f:α->c):∀{l:List α},l.Nodup->(∀a∈l,∀b∈l,f a=f b->a=b)->(l.map f).Nodup
 |[],_,_=>by simp
 |a::r,h,d=>by
  have h':=UN.mp h;rw[T1,UN];refine⟨λi=>?_,lq f h'.2 λx e y g=>d x (by simp[e]) y (by simp[g])⟩
  grind
def rq(ts:List Pz.bb):(fP ts).Nodup:=by
 unfold fP;refine lq _ ((pE _).imp λ{a b} h e=>?_) λa ha b c e=>?_
 .subst e;rw[mI]at h;cases h
 .grind [iZ,jF]
def y8(ts:List Pz.bb)(h:ts.length<=63)(a:r.d=.lst (ts.map cn)):IX r=.ok (.new ((fP ts).map cn) true):=by
 have e:r.d=.lst ((ts.map xg).map iY):=by rw[a,Uo];rfl
 rw[Qy e (by grind) (by rw[XA,UW];intro t _;rfl),Au]
def MR(ts:List Pz.bb)(h:ts.length<=63)(nd:ts.Nodup)(c:r.d=.lst (ts.map cn)):ND [r]=.ok (.new ((fP ts).map cn) true):=by
 have e:r.d=.lst ((ts.map xg).map iY):=by rw[c,Uo];rfl
 rw[Qx e (by grind) (by rw[XA,UW];intro t _;rfl) (lq xg nd λa _ b _ e=>by rw[<- jF a,e,jF]),Au]
noncomputable def rl(ro:Int)(k:Nat):Pz.bb:=(ro,(k:Int),ro)
noncomputable def Ju(bits:Int)(k:Nat):Bool:=Builtin.bitAnd (bits/2^((k:Int)).toNat) 1==1
def jG(bits:Int)(n:Nat):List Int:=((List.range n).filter (Ju bits)).map λk=>((k:Nat):Int)
def Fg(bits:Int)(n:Nat):(jG bits n).length<=n:=by grind [jG]
def Ih(bits:Int)(n:Nat):∀e∈jG bits n,0<=e/\e<n:=λe a=>by grind [jG]
section
variable{e0 e1 e2 e3 e4 e5 e6 e7 e8:Option Sl}{g1 g2 g3 fr:Bool}
def SA(n:Nat)(a:n<=1000000):lL 1 [2] (gN 0) (λ_=>.ok true) bL [e0,e1,vv (.int ro) g1,e3,e4,e5,e6,e7,e8] ⟨gp 0 n,fr,[]⟩=.ok (.new (((List.range n).map (rl ro)).map cn) true):=by have h:=gO (mk:=λd=>gN 0 d fr (gw [e0,e1,vv (.int ro) g1,e3,e4,e5,e6,e7,e8] 1 [2])) (test:=λ_=>.ok true) (elt:=bL) (λk:Nat=>D.int k) (λk:Nat=>.val (cn (rl ro k)) true []) (List.range n) λk b=>⟨_,rfl,rfl,by show bL [vv (.int (k:Nat)) fr,vv (.int ro) g1]=_;simp_arith[bL];rfl⟩;rw[pL,eF (by grind) h,kH,cU,gc (bB _ _ λc=>rfl),Uo];rfl
def SB(h1:0<ro)(a:0<own)(b:0<sg)(xs:List Int)(e:xs.length<=1000000):lL 1 [2,3,4] (gN 0) (λ_=>.ok true) bC [e0,e1,vv (.int ro) g1,vv (.int own) g2,vv (.int sg) g3,e5,e6,e7,e8] ⟨xs.map .int,fr,[]⟩=.ok (.new ((xs.map λc=>B5 c ro own sg).map cn) true):=by have h:=gO (mk:=λd=>gN 0 d fr (gw [e0,e1,vv (.int ro) g1,vv (.int own) g2,vv (.int sg) g3,e5,e6,e7,e8] 1 [2,3,4])) (test:=λ_=>.ok true) (elt:=bC) D.int (λc=>.val (cn (B5 c ro own sg)) true []) xs λc f=>⟨_,rfl,rfl,by show bC [vv (.int c) fr,vv (.int ro) g1,vv (.int own) g2,vv (.int sg) g3]=_;simp_arith[bC,Ff c ro own sg h1 a b,gR]⟩;rw[eF (by grind) h,kH,cU,gc (bB _ _ λc=>rfl),Uo];rfl
def Qz(n:Nat)(b:n<=1000000):lL 1 [0] (gN 0) bM bN [vv (.int c) g1,e1,e2,e3,e4,e5,e6,e7,e8] ⟨gp 0 n,fr,[]⟩=.ok (.new ((jG (c/10%32) n).map .int) true):=by
 have h:=cv (mk:=λd=>gN 0 d fr (gw [vv (.int c) g1,e1,e2,e3,e4,e5,e6,e7,e8] 1 [0])) (test:=bM) (elt:=bN) (λk:Nat=>D.int k) (Ju (c/10%32)) (λk=>.val (.int k) true []) (List.range n) λk e=>⟨_,rfl,by
  show bM [vv (.int (k:Nat)) fr,vv (.int c) g1]=_;have a:(0:Int)<=((k:Nat):Int):=by lia
  simp_arith[bM,a,oq];rfl,λ_=>by
  show bN [vv (.int (k:Nat)) fr,vv (.int c) g1]=_;simp_arith[bN]⟩
 rw[pL,eF (by grind) h,kH,cU,gc (bB _ _ λc=>rfl)];unfold jG;rw[Uo];rfl
end
def QA(c:Int)(N:0<=c)(xs:List Int)(O:xs.length<=9)(ro own sg:Int)(h1:0<ro)(H:ro<=3)(P:0<=own)(I:own<=2)(r:own=0->xs=[])(m:0<sg)(J:sg<=5) :
 ∃n ts es al,PM ro sg n ts es/\(c/320%4<2->ts.length<=9/\es.length<=5/\n<=ro+2)/\bA [.int c,.lst (xs.map .int),.int ro,.int own,.int sg]=.ok (.val (Mc n ts es) true al):=by
 have s:D.bW (List.map D.int xs)=true:=bj _;generalize o:c/320%4=g;have em:∀a b:Int,0<b->0<=a%b/\a%b<b:=λa b h=>⟨VU _ (by lia),Vn _ h⟩;have s1:-4611686018427387904<=sg:=by lia
 have s2:sg<4611686018427387904:=by lia
 have z:-4611686018427387904<=ro+own:=by lia
 have A:ro+own<4611686018427387904:=by lia
 by_cases B:g=2
 .have j:(g==2)=true:=VW.mpr B;generalize C:c/1280%ro=a;generalize E:c/7680%sg=b;have ha:0<=a/\a<ro:=by rw[<- C];exact em _ _ h1
  have Q:0<=b/\b<sg:=by rw[<- E];exact em _ _ m
  have nd:((a,b,ro)::(List.range sg.toNat).map (rl ro)).Nodup:=by
   rw[UN];refine⟨λh=>?_,lq _ Wc λx _ y _ e=>?_⟩
   .obtain⟨k,_,e⟩:=T_.mp h;have:ro=a:=VD (λt:Pz.bb=>t.1) e;lia
   .have:(x:Int)=(y:Int):=VD (λt:Pz.bb=>t.2.1) e;lia
  have R:((a,b,ro)::(List.range sg.toNat).map (rl ro)).length<=6:=by simp;lia
  have al:=xh ((a,b,ro)::(List.range sg.toNat).map (rl ro));refine⟨ro+1,fP ((a,b,ro)::(List.range sg.toNat).map (rl ro)),[ro],?_,⟨by lia,by lia,λt i=>?_,by lia,rq _,λe p=>?_,by simp⟩,λh=>by lia,?_⟩
  rotate_left
  .grind [xj,rl]
  .rw[Uh]at p;lia
  .have d:∀f,ND [.new (D.tup [.int a,.int b,.int ro]::((List.range sg.toNat).map (rl ro)).map cn) f]=.ok (.new ((fP ((a,b,ro)::(List.range sg.toNat).map (rl ro))).map cn) true):=λf=>MR ((a,b,ro)::(List.range sg.toNat).map (rl ro)) (by lia) nd (lg _ f);have fl:D.bW (((List.range sg.toNat).map (rl ro)).map cn)=true:=bB _ _ gR;have u:[D.tup [.int a,.int b,.int ro]].length+(((List.range sg.toNat).map (rl ro)).map cn).length<=1000000:=by simp;lia
   simp_arith[bA,b7,o,oq,j,h1,m,C,E,Am,s1,s2,SA sg.toNat (show sg.toNat<=1000000 by lia),uQ u,fl,d];rfl
 .have j:(g==2)=false:=Ww.mpr B;by_cases F:g=3
  .have q:(g==3)=true:=VW.mpr F;refine⟨ro,[],(List.range ro.toNat).map λk=>((k:Nat):Int),?_,⟨by lia,by lia,λt i=>(nomatch i),by simp,Uq,λe p=>?_,by simp;lia⟩,λh=>by lia,?_⟩
   rotate_left
   .grind
   .have r:0<=ro:=by lia
    have K:ro<=1000:=by lia
    simp_arith[bA,b7,o,oq,j,q,E4 r K,pL];unfold Mc;rw[Uo];rfl
  .have q:(g==3)=false:=Ww.mpr F;have L:=Fg (c/10%32) (ro+own).toNat;have ends:∀e∈jG (c/10%32) (ro+own).toNat,0<=e/\e<ro+own:=λe p=>by have:=Ih _ _ e p;lia
   have G:(ro+own).toNat<=1000000:=by lia
   by_cases M:own=0
   .have v:∀f al,IX (.val (.lst []) f al)=.ok (.new [] true):=λf al=>y8 [] (by simp) (gy _ f al);have d:∀f,IX (.new [] f)=.ok (.new [] true):=λf=>y8 [] (by simp) (lg _ f);refine⟨ro+own,[],jG (c/10%32) (ro+own).toNat,?_,⟨by lia,by lia,λt i=>(nomatch i),by simp,Uq,ends,by lia⟩,λ_=>⟨by simp,by lia,by lia⟩,?_⟩
    rotate_left
    .have w:∀(env:En)(fr:Bool),lL 1 [2,3,4] (gN 0) (λ_=>.ok true) bC env ⟨[],fr,[]⟩=.ok (.new [] true):=λ_ _=>rfl;rw[r M];simp_arith[bA,b7,o,oq,j,q,w,v,d,Qz (c:=c) (ro+own).toNat G,Am,z,A,bj];rfl
   .have l:0<own:=by lia
    have al:=xh (xs.map λc=>B5 c ro own sg);rw[TZ]at al;refine⟨ro+own,fP (xs.map λc=>B5 c ro own sg),jG (c/10%32) (ro+own).toNat,?_,⟨by lia,by lia,λt i=>?_,by lia,rq _,ends,by lia⟩,λ_=>⟨by lia,by lia,by lia⟩,?_⟩
    rotate_left
    .obtain⟨x,_,rfl⟩:=T_.mp ((xj _ t).mp i);exact MQ x ro own sg h1 l m
    .have v:∀f al,IX (.val (.lst ((xs.map λc=>B5 c ro own sg).map cn)) f al)=_:=λf al=>y8 _ (by grind) (gy _ f al);simp_arith[bA,b7,o,oq,j,q,s,SB h1 l m xs (show xs.length<=1000000 by lia),v,Qz (c:=c) (ro+own).toNat G,Am,z,A,bj];rfl
def xk(d:ro<=3)(s2:sg<=5)(e:n<=25):(oH ro sg n).length<=375:=by
 rw[Fe];have a:ro.toNat<=3:=by lia
 have b:sg.toNat<=5:=by lia
 have c:n.toNat<=25:=by lia
 exact Us (Wu a (Wu b c)) (by decide)
def MS(j:0<ro)(f:ro<=3)(s1:0<sg)(s2:sg<=5)(b:∀r∈RL,RR ro sg r)(e:RL.length<=60)(P:PM ro sg n ts es):Pz.Set RL ts (ts++oH ro sg n):=by
 have l:=P.S3;have g:=P.rn;have i:=P.lt;have u:=xk (n:=n) f s2 (by lia);have c:(ts++oH ro sg n).length<=404:=by rw[Um];lia
 have d:∀s x t:Int,((s,x,t):Pz.bb)∈ts++oH ro sg n->0<=t/\t<n:=λs x t h=>by
  rcases Ug.mp h with h|h
  .have:=P.arr _ h;simp only[]at this;lia
  .exact(univ_mem.mp h).2.2
 refine⟨λr h=>(b r h).p,λa h=>Ug.mpr (.inl h),λr h=>Ug.mpr (.inr (univ_mem.mpr ⟨(b r h).a,(b r h).s,?_⟩)),λr h s x t k=>Ug.mpr (.inr (univ_mem.mpr ⟨(b r h).a,(b r h).s,d s x t k⟩)),?_,?_,?_⟩
 .have:=(b r h).t;lia
 .have:RL.length*((ts++oH ro sg n).length*(ts++oH ro sg n).length)<=60*(404*404):=Wu e (Wu c c);unfold Pz.L;lia
 .have:RL.length*(ts++oH ro sg n).length<=60*404:=Wu e c;unfold Pz.L;lia
 .unfold Pz.L;lia
def B6(c:0<ro)(b:ro<=3)(s1:0<sg)(s2:sg<=5)(d:∀r∈RL,RR ro sg r)(e:RL.length<=60)(P:PM ro sg n ts es) :
 ∃t,kK [Hs ro sg RL,Mc n ts es]=.ok (.jJ (fZ t))/\Pz.Good RL ts (ts++oH ro sg n) t/\t.length<=404:=by
 obtain⟨t,h,G⟩:=LD (MS c b s1 s2 d e P) (Fd P);refine⟨t,h,G,?_⟩;have i:=P.S3;have f:=P.lt;have u:=xk (n:=n) b s2 (by lia);have:=Pz.mX _ (ts++oH ro sg n) G.nd λa ha=>by obtain⟨x,g,rfl⟩:=T_.mp ha;exact G.u x.1 x.2 (Pz.qQ G.nd (by obtain⟨a,v⟩:=x;exact g))
 rw[TZ,Um]at this;lia
theorem Av{a:Type}(el:Pz.bb×Pz.nI->a)(k:Int×Int):∀(t:Pz.TD)(d:Pz.MD (Int×Int) a),(t.foldl (λd x=>d.app (x.1.1,x.1.2.1) (el x)) d).get k=d.get k++(t.filter λx=>decide ((x.1.1,x.1.2.1)=k)).map el
 |[],d=>by simp
 |x::t,d=>by
  rw[VC,Av el k t,Pz.pH,Wb]
  grind
def rA{a:Type}(el:Pz.bb×Pz.nI->a)(k:Int×Int)(t:Pz.TD):(pK el t).get k=(t.filter λx=>decide ((x.1.1,x.1.2.1)=k)).map el:=by unfold pK;rw[Av];rfl
theorem Fh{a:Type}(eD:a->D)(k:Int×Int):∀d:Pz.MD (Int×Int) a,getD (d.map λe=>(.inr (k2 e.1):DK)) (d.map λe=>.lst (e.2.map eD)) (.inr (k2 k))=if d.has k then some (.lst ((d.get k).map eD))else none
 |[]=>rfl
 |x::d=>by
  have b:=Fh eD k d;rw[T1,T1];unfold getD;rw[b,Pz.dt];unfold Pz.MD.has
  grind [qU]
def Ii{b:Type}(k:Int×Int)(d:Pz.MD (Int×Int) b)(h:d.has k=false):d.get k=[]:=by
 induction d with
 |nil=>rfl
 |cons x d a=>unfold Pz.MD.has at h a;rw[VL,Bool.or_eq_false_iff]at h;rw[Pz.dt,T9 (of_decide_eq_false h.1)];exact a h.2
def MT{a:Type}(k:Int×Int)(d:Pz.MD (Int×Int) a):(d.map λe=>(.inr (k2 e.1):DK)).all (mi (.inr (k2 k)))=true:=by rw[XA,UW];intro x _;rfl
def Ij{c:Type}{eD:c->D}{d:Pz.MD (Int×Int) c}{fa fk fx:En->Res R}{env:En}{f:Bool}{a b:Int}{r:R}(h1:fa env=.ok (.val (EC eD d) f []))(g:fk env=.ok r)(i:r.d=.tup [.int a,.int b])(j:fx env=.ok (.new [] true)) :
 ∃f',wv fa fk fx env=.ok (.val (.lst ((d.get (a,b)).map eD)) f' []):=by
 have k:g_ r.d=some (.inr (k2 (a,b))):=by rw[i];rfl
 have e:wv fa fk fx env=Ow (.val (EC eD d) f []) (d.map λe=>(.inr (k2 e.1):DK)) (d.map λe=>.lst (e.2.map eD)) r (.new [] true):=by rw[yY,h1,rY,Qg (ks:=d.map λe=>(.inr (k2 e.1):DK)) (ds:=d.map λe=>.lst (e.2.map eD)) rfl,g,rY,Jo,j,rY]
 rw[e];unfold Ow;rw[k];dsimp only;rw[T2 (MT (a,b) d),Fh];cases h:d.has (a,b)with
 |true=>exact⟨f,by rw[T2 rfl];dsimp only;rw[jn (kF _)];rfl⟩
 |false=>exact⟨true,by rw[T9 (by simp),Ii _ _ h];dsimp only;rw[lg,jn (kF _)];rfl⟩
def nz{a:Type}(eD:a->D)(d:Pz.MD (Int×Int) a):(EC eD d).flat=false:=kG _ _
def Fi(h1:0<ro)(a:0<sg)(xs:List Int)(b:xs.length<=1000000):lL 1 [3,4] (gN 0) (λ_=>.ok true) bQ [e0,e1,e2,vv (.int ro) g4,vv (.int sg) g5,e5,e6,e7,e8] ⟨xs.map .int,fr,[]⟩=.ok (.new ((xs.map λc=>Js c ro sg).map a_) true):=by have h:=gO (mk:=λd=>gN 0 d fr (gw [e0,e1,e2,vv (.int ro) g4,vv (.int sg) g5,e5,e6,e7,e8] 1 [3,4])) (test:=λ_=>.ok true) (elt:=bQ) D.int (λc=>.val (a_ (Js c ro sg)) true []) xs λc e=>⟨_,rfl,rfl,by show bQ [vv (.int c) fr,vv (.int ro) g4,vv (.int sg) g5]=_;simp_arith[bQ,Ig c ro sg h1 a,cb]⟩;rw[eF (by rw[TZ];exact b) h,kH,cU,gc (bB _ _ λc=>cb _),Uo];rfl
def u4{α:Type}(xs:List α)(a b:Int)(ha:0<=a)(c:a<=b):(db xs (some a) (some b)).length<=(b-a).toNat:=by
 unfold db;rw[VF,Xu];have e1:HT.sIx xs.length 0 (some a)=min a.toNat xs.length:=by have:=HT.sIx_nat xs.length 0 a.toNat;rw[Int.toNat_of_nonneg ha]at this;exact this
 have e2:HT.sIx xs.length xs.length (some b)=min b.toNat xs.length:=by have:=HT.sIx_nat xs.length xs.length b.toNat;rw[Int.toNat_of_nonneg (by lia)]at this;exact this
 rw[e1,e2];lia
def Ik(ns:List Int)(I:ns.length<=63) :
 ∃(ro sg:Int)(RL:List Pz.aV)(n:Int)(ts:List Pz.bb)(es cs:List Int),0<ro/\ro<=3/\0<sg/\sg<=5/\(∀r∈RL,RR ro sg r)/\RL.length<=12/\PM ro sg n ts es/\cs.length<=40/\eV [.lst (ns.map .int)]=.ok (.val (.tup [Hs ro sg RL,Mc n ts es,.lst (cs.map .int)]) true [8]):=by
 have w:=Fc ns 0;have q1:=Fc ns 1;have k0:=pN ns 0 (by decide);have k1:=pN ns 1 (by decide);generalize sd ns 0=shape at w k0;generalize sd ns 1=b at q1 k1;generalize l:1+shape%2=ro;generalize m:1+shape/2%3=sg;generalize o:shape/6%2=own;generalize d:b%5*own=a;have k:0<ro:=by lia
 have s1:0<sg:=by lia
 have o1:0<=own:=by lia
 have J:own<=1:=by lia
 have x:0<=a/\a<=4/\(own=0->a=0):=by rcases(show own=0\/own=1 by lia)with e|e<;>(rw[e]at d;lia)
 obtain⟨m0,K,y⟩:=x;have v:=u4 ns 4 (4+a) (by decide) (by lia);have L:=u4 ns (4+a) (16+a) (by lia) (by lia);have M:=u4 ns (16+a) (56+a) (by lia) (by lia);have z:own=0->db ns (some 4) (some (4+a))=[]:=λh=>by rw[y h]at v ⊢;exact UQ.mp (by simpa using v)
 obtain⟨n,ts,es,al,pm,_,p⟩:=QA b q1 (db ns (some 4) (some (4+a))) (by lia) ro own sg k (by lia) o1 (by lia) z s1 (by lia);have q:D.bW (ns.map D.int)=true:=bj _;have f:∀{e0 e1 e2 A B C e8:Option Sl}{E g5 fr:Bool},lL 1 [3,4] (gN 0) (λ_=>.ok true) bQ [e0,e1,e2,vv (.int ro) E,vv (.int sg) g5,A,B,C,e8] ⟨(db ns (some (4+a)) (some (16+a))).map .int,fr,[]⟩=_:=λ{_ _ _ _ _ _ _ _ _ _}=>Fi k s1 _ (by lia);have g:∀r∈(db ns (some (4+a)) (some (16+a))).map (λc=>Js c ro sg),RR ro sg r:=λr F=>by obtain⟨c,_,rfl⟩:=T_.mp F;exact MP c ro sg k s1
 have i:((db ns (some (4+a)) (some (16+a))).map (λc=>Js c ro sg)).length<=12:=by rw[TZ];lia
 have j:D.bW (((db ns (some (4+a)) (some (16+a))).map (λc=>Js c ro sg)).map a_)=true:=bB _ _ cb;have s:∀lo G,D.bW ((db ns lo G).map D.int)=true:=λ_ _=>bj _;have t:(-18446744073709551616:Int)<own:=by lia
 have u:own<18446744073709551616:=by lia
 generalize H:(db ns (some (4+a)) (some (16+a))).map (λc=>Js c ro sg)=RL at f g i j;refine⟨ro,sg,RL,n,ts,es,db ns (some (16+a)) (some (56+a)),k,by lia,s1,by lia,g,i,pm,by lia,?_⟩;simp_arith[eV,kJ,k0,k1,l,m,o,d,t,u,m6,s,p,dE,f,q,j];rfl
noncomputable def lN(t:Pz.TD):Int->List Int->Int->Int->Prop
 |a,[],b,v=>b=a/\v=0
 |a,x::w,b,v=>∃m p u,Pz.At t (a,x,m) p/\lN t m w b u/\v=p+u
def pth_app{a:Int}:lN t a (w++z) b v↔∃m u p,lN t a w m u/\lN t m z b p/\v=u+p:=by
 induction w generalizing a v with
 |nil=>simp only[List.nil_append,lN];grind
 |cons x w f=>
  simp only[List.cons_append,lN,f];constructor
  .rintro⟨m,p,_,h1,⟨c,u2,p2,d,e,rfl⟩,rfl⟩;exact⟨c,p+u2,p2,⟨m,p,u2,h1,d,rfl⟩,e,by lia⟩
  .rintro⟨c,_,p2,⟨m,p,u2,h1,d,rfl⟩,e,rfl⟩;exact⟨m,p,u2+p2,h1,⟨c,u2,p2,d,e,rfl⟩,by lia⟩
def pth_one:lN t a [x] b v↔Pz.At t (a,x,b) v:=by simp only[lN];grind
section
variable{β:Type}
noncomputable abbrev AL(β:Type):=List (Int×β)
noncomputable def cF:AL β->Int->Option β
 |[],_=>none
 |x::l,k=>if x.1=k then some x.2 else cF l k
noncomputable def lz:AL β->Int->β->AL β
 |[],k,v=>[(k,v)]
 |x::l,k,v=>if x.1=k then(k,v)::l else x::lz l k v
def aD(w:β->D)(l:AL β):D:=.dZ (l.map λx=>ik x.1) (l.map λx=>w x.2)
def MU(h:ik a=ik b):a=b:=by unfold ik at h;injection h with h;injection h
theorem u5{a b:Int}:ik a=ik b↔a=b:=⟨MU,λh=>by rw[h]⟩
def Jv(w:β->D)(k:Int)(l:AL β):getD (l.map λx=>ik x.1) (l.map λx=>w x.2) (ik k)=(cF l k).map w:=by
 induction l with
 |nil=>rfl
 |cons x l a=>simp only[T1,getD,u5,a,cF];split<;>rfl
def Aw(k:Int)(l:AL β):(l.map λx=>ik x.1).all (mi (ik k))=true:=by rw[XA,UW];intro x _;rfl
def Jw(k:Int)(l:AL β):n5 (l.map λx=>ik x.1) (ik k)=(cF l k).isSome:=by
 induction l with
 |nil=>rfl
 |cons x l a=>unfold n5 at *;grind [u5,cF]
def QB(k:Int)(v:β)(l:AL β):cF l k=none->lz l k v=l++[(k,v)]:=by induction l<;>grind [cF,lz]
def QC(w:β->D)(k:Int)(v:β)(l:AL β)(h:¬k∈l.map (·.1)):tD (l.map λx=>ik x.1) (l.map λx=>w x.2) (ik k) (w v)=l.map λx=>w x.2:=by
 induction l with
 |nil=>rfl
 |cons x l a=>simp only[T1,tD,u5];grind
def QD(w:β->D)(k:Int)(v:β)(l:AL β):(l.map (·.1)).Nodup->(cF l k).isSome=true->((lz l k v).map λx=>ik x.1)=(l.map λx=>ik x.1)/\((lz l k v).map λx=>w x.2)=tD (l.map λx=>ik x.1) (l.map λx=>w x.2) (ik k) (w v):=by
 induction l with
 |nil=>grind [cF]
 |cons x l a=>have:=QC w k v l;simp only[T1,tD,u5];grind [cF,lz]
def QE(w:β->D)(k:Int)(v:β)(l:AL β)(nd:(l.map (·.1)).Nodup):ko (l.map λx=>ik x.1) (l.map λx=>w x.2) (ik k) (w v)=aD w (lz l k v):=by have:=QD w k v l nd;have:=QB k v l;unfold ko aD;rw[Jw];cases e:cF l k<;>simp_all
theorem xm(k:Int)(v:β)(j:Int)(l:AL β):cF (lz l k v) j=if k=j then some v else cF l j:=by induction l<;>grind [cF,lz]
def B7(k:Int)(v:β)(l:AL β):(∀j,j∈(lz l k v).map (·.1)->j=k\/j∈l.map (·.1))/\((l.map (·.1)).Nodup->((lz l k v).map (·.1)).Nodup):=by induction l<;>grind [lz]
def B8{l:AL β}:cF l k=some b->(k,b)∈l:=by induction l<;>grind [cF]
def xn{l:AL β}:(l.map (·.1)).Nodup->(k,b)∈l->cF l k=some b:=by induction l<;>grind [cF]
structure Lw(pr:β->Int) (l:AL β) (C:List (Int×Int)):Prop where
 nd:(l.map (·.1)).Nodup
 on:∀k b,cF l k=some b->(k,pr b)∈C/\∀s,(k,s)∈C->pr b<=s
 no:∀k,cF l k=none->∀s,¬(k,s)∈C
def Lw.nil(pr:β->Int):Lw pr [] []:=⟨Uq,λ_ _ h=>(nomatch h),λ_ _ _=>Ub⟩
def Lw.put(h:Lw pr l C)(k:Int)(v:β)(a:∀b,cF l k=some b->pr v<=pr b):Lw pr (lz l k v) (C++[(k,pr v)]):=by
 refine⟨(B7 k v l).2 h.nd,λj b e=>?_,λj e s hs=>?_⟩
 .have:=h.no j;have:=h.on j;rw[xm]at e;cases z:cF l j<;>grind
 .have:=h.no j
  grind [xm]
def Lw.keep(h:Lw pr l C)(e:cF l k=some b)(hs:pr b<=s):Lw pr l (C++[(k,s)]):=by cases h;constructor<;>grind
structure FA(t:Pz.TD) (a:Int) (w:List Int) (pr:β->Int) (l:AL β):Prop where
 nd:(l.map (·.1)).Nodup
 on:∀k b,cF l k=some b->lN t a w k (pr b)/\∀s,lN t a w k s->pr b<=s
 no:∀k,cF l k=none->∀s,¬lN t a w k s
def Ax(t:Pz.TD)(pr:β->Int)(x:Int)(l:AL β):List (Int×Int):=l.flatMap λy=>((pK NG t).get (y.1,x)).map λz=>(z.1,pr y.2+z.2)
def Il(nd:(t.map (·.1)).Nodup):(d,p)∈(pK NG t).get (c,x)↔Pz.At t (c,x,d) p:=by
 rw[rA,T_];constructor
 .rintro⟨⟨⟨f,g,h⟩,v⟩,a,e⟩;have:=Pz.qQ nd (Up.mp a).1
  grind [NG,Pz.At]
 .rintro⟨v,b,rfl⟩;exact⟨((c,x,d),v),Up.mpr ⟨Pz.mW b,Uj rfl⟩,rfl⟩
def u6(nt:(t.map (·.1)).Nodup):(k,s)∈Ax t pr x l↔∃q b p,(q,b)∈l/\Pz.At t (q,x,k) p/\s=pr b+p:=by
 simp only[Ax,Xx,T_,Prod.mk.injEq,Prod.exists,Il nt]
 grind
def FA.next{i:Type}{t:Pz.TD}{a x:Int}{w:List Int}{pr:β->Int}{l:AL β}{pr2:i->Int}{j:AL i}(nt:(t.map (·.1)).Nodup)(h:FA t a w pr l)(f:Lw pr2 j (Ax t pr x l)):FA t a (w++[x]) pr2 j:=by
 have le:∀k s,lN t a (w++[x]) k s->∃u,(k,u)∈Ax t pr x l/\u<=s:=λk s n=>by
  obtain⟨m,u,p,d,g,rfl⟩:=pth_app.mp n;cases e:cF l m with
  |none=>exact absurd d (h.no m e u)
  |some b=>exact⟨pr b+p,(u6 nt).mpr ⟨m,b,p,B8 e,pth_one.mp g,rfl⟩,by have:=(h.on m b e).2 u d;lia⟩
 have:=f.on;have:=f.no;refine⟨f.nd,λk b e=>⟨?_,by grind⟩,by grind⟩;obtain⟨q,c,p,o,r,v⟩:=(u6 nt).mp (f.on k b e).1;exact pth_app.mpr ⟨q,pr c,p,(h.on q c (xn h.nd o)).1,pth_one.mpr r,v⟩
def FA.one(h:pr b=0):FA t a [] pr [(a,b)]:=by constructor<;>grind [cF,lN]
def Lw.nJ{e:Type}{t:Pz.TD}{x:Int}{pr:β->Int}{l:AL β}{pr2:e->Int}{a:AL e}{C:List (Int×Int)}(nt:(t.map (·.1)).Nodup)(d:Lw pr2 a C)(f:∀y∈C,y∈Ax t pr x l):a.length<=t.length:=by
 have:=Pz.mX (a.map (·.1)) (t.map λy=>y.1.2.2) d.nd λk g=>by obtain⟨⟨k,b⟩,h,rfl⟩:=T_.mp g;obtain⟨q,c,p,_,⟨v,i,_⟩,_⟩:=(u6 nt).mp (f _ (d.on k b (xn d.nd h)).1);exact T_.mpr ⟨_,Pz.mW i,rfl⟩
 simpa using this
end
structure ID(t:Pz.TD) (es:List Int) (a:Int) (w:List Int) (o:Option Int):Prop where
 on:∀v,o=some v->(∃e∈es,lN t a w e v)/\∀e∈es,∀s,lN t a w e s->v<=s
 no:o=none->∀e∈es,∀s,¬lN t a w e s
def QF(h:ra.d=.dZ ks ds):O7 gk env ra=(gk env).bind (Rh ra ks ds):=by unfold O7;rw[h]
def MV(fa a:En->Res R)(env:En):Ak fa a env=(fa env).bind (O7 a env):=(rfl)
def Jx(a:En->Res Bool)(fa c:En->Res R)(env:En):RO a fa c env=(a env).bind λb=>if b then fa env else c env:=(rfl)
theorem Jy{a:Type}(w:a->D):∀l:AL a,o8 (l.map λx=>ik x.1) (l.map λx=>w x.2)=some (l.map λx=>.tup [.int x.1,w x.2])
 |[]=>rfl
 |x::l=>by rw[T1,T1];show Option.map _ (o8 _ _)=_;rw[Jy w l];rfl
def QG{b:Type}{w:b->D}{asg:D->Bool->En->Option En}{a:En->Res Fl}{env:En}{fr:Bool}{l:AL b}:zY asg a env (.val (aD w l) fr [])=ku (j9 asg fr a (l.map λx=>.tup [.int x.1,w x.2]) env):=by show(match o8 _ _ with|some xs=>ku (j9 asg fr a xs env)|none=>.stuck)=_;rw[Jy]
def cB{a:Type}(w:a->D)(l:AL a):(aD w l).flat=false:=kG _ _
abbrev PV:=Int×Option Pz.bb
def oA:Option Pz.bb->D
 |none=>.bn
 |some a=>cn a
def dj(b:PV):D:=.tup [.int b.1,oA b.2]
def fD(b:PV):(dj b).flat=true:=by obtain⟨s,_|a⟩:=b<;>rfl
abbrev PL:=AL PV
noncomputable def pF(b:PV):Int:=b.1
def Im(l:PL)(s:Int)(x:Pz.bb×Int):PL:=match cF l x.1.2.2 with
 |none=>lz l x.1.2.2 (s+x.2,some x.1)
 |some b=>if s+x.2<b.1 then lz l x.1.2.2 (s+x.2,some x.1)else l
def Fj(h:Lw pF l C):Lw pF (Im l s x) (C++[(x.1.2.2,s+x.2)]):=by
 unfold Im;cases e:cF l x.1.2.2 with
 |none=>exact h.put _ _ λb d=>by grind
 |some b=>
  dsimp only;by_cases z:s+x.2<b.1
  .rw[T2 z];exact h.put _ _ λc a=>by rw[e]at a;injection a with a;subst a;exact WB z
  .rw[T9 z];exact h.keep e (by unfold pF;lia)
abbrev eR(A:PL)(b:PV)(x:Pz.bb×Int)(e0 e1 e2 e4 e8:Option Sl)(g f:Bool):En:=[e0,e1,e2,some (.lP (aD dj A)),e4,vv (dj b) g,vv (cn x.1) f,vv (.int x.2) f,e8]
def MW(nd:(A.map (·.1)).Nodup)(q:A.length<1000000) :
 ∃j,cj (eR A b x e0 e1 e2 e4 e8 g5 f')=.ok (.nx (eR (Im A b.1 x) b x e0 e1 e2 e4 j g5 f')):=by
 have a:Ak (aj 3) (bE 6 (vC (.int 2))) (eR A b x e0 e1 e2 e4 e8 g5 f')=.ok (match cF A x.1.2.2 with|some c=>.val (dj c) true []|none=>.val .bn true []):=by
  have h1:aj 3 (eR A b x e0 e1 e2 e4 e8 g5 f')=.ok (.val (aD dj A) true [3]):=by simp_arith[cB]
  have g:bE 6 (vC (.int 2)) (eR A b x e0 e1 e2 e4 e8 g5 f')=.ok (.val (.int x.1.2.2) true []):=by unfold eR cn;simp_arith
  rw[MV,h1,rY,QF (ra:=.val (aD dj A) true [3]) rfl,g,rY];unfold Rh;have p:g_ (R.val (.int x.1.2.2) true []).d=some (ik x.1.2.2):=rfl;rw[p];dsimp only;rw[T2 (Aw _ A),Jv];cases cF A x.1.2.2 with
  |none=>rfl
  |some c=>show Res.ok (jh (dj c) true [3])=_;rw[yX (fD c)]
 have g:o_ (cn x.1) (.int 2) true []=.ok (.val (.int x.1.2.2) true []):=by unfold cn;simp_arith
 have k:∀c:PV,∀f,o_ (dj c) (.int 0) f []=.ok (.val (.int c.1) true []):=λc f=>by have:=fD c;unfold dj at *;simp_arith
 have h:∀i l m env,putAt i l m env (some (some (.lP (aD dj A))))=(m env).bind (zW i l env (A.map λx=>ik x.1) (A.map λx=>dj x.2)):=λ_ _ _ _=>rfl;have n:∀env,wt 3 env (A.map λx=>ik x.1) (A.map λx=>dj x.2) (.tup [.int (b.1+x.2),cn x.1]) (.val (.int x.1.2.2) true [])=.ok (.nx (env.set 3 (some (.lP (aD dj (lz A x.1.2.2 (b.1+x.2,some x.1))))))):=λenv=>by rw[H_ (x:=ik x.1.2.2) rfl (Aw _ A) (by grind),<- QE dj _ _ A nd];rfl
 have fl:=fD b;unfold Im;cases e:cF A x.1.2.2 with
 |none=>rw[e]at a;refine⟨vv .bn true,?_⟩;simp_arith[cj,fD,a,g,k,h,n,An,gR]
 |some c=>
  rw[e]at a;refine⟨vv (dj c) true,?_⟩;have o:(dj c).gr=false:=rfl;have r:=fD c;by_cases z:b.1+x.2<c.1
  .have hd:decide (b.1+x.2<c.1)=true:=Uj z;simp_arith[cj,fD,a,g,k,o,hd,h,n,An,gR];rw[T2 z]
  .have hd:decide (b.1+x.2<c.1)=false:=Ur z;simp_arith[cj,fD,a,g,k,o,hd,gR];rw[T9 z]
def Rj(t:Pz.TD)(a p1:Int):List (Pz.bb×Int):=(pK Hr t).get (a,p1)
def Jz(t:Pz.TD)(q x s:Int):(Rj t q x).map (λy=>(y.1.2.2,s+y.2))=((pK NG t).get (q,x)).map λz=>(z.1,s+z.2):=by unfold Rj;rw[rA,rA,Uo,Uo];rfl
def Ay{a:Type}(t:Pz.TD)(pr:a->Int)(x:Int)(l:AL a)(y:Int×a):Ax t pr x (l++[y])=Ax t pr x l++((pK NG t).get (y.1,x)).map λz=>(z.1,pr y.2+z.2):=by unfold Ax;rw[Wy];simp
def Ip{b:Type}{t:Pz.TD}{pr:b->Int}{x:Int}{pre a:AL b}{z:Int×Int}(h:z∈Ax t pr x pre):z∈Ax t pr x (pre++a):=by unfold Ax at *;rw[Wy];exact Ug.mpr (.inl h)
abbrev eA(t:Pz.TD)(S:PL)(x:Int)(A:PL)(e4 a b c e8:Option Sl):En:=[vv (EC Hq (pK Hr t)) false,vv (aD dj S) false,vv (.int x) false,some (.lP (aD dj A)),e4,a,b,c,e8]
def Fk(nd:(t.map (·.1)).Nodup)(E:t.length<=1000):∃A,Lw pF A (Ax t pF x S)/\gD [EC Hq (pK Hr t),aD dj S,.int x]=.ok (.val (aD dj A) true [3]):=by
 obtain⟨v,h1,A,e4,m,c,e,e8,rfl,o⟩:=jp (λy:Int×PV=>.tup [.int y.1,dj y.2]) (asg:=gT 2 (aK (gN 4) (aK (gN 5) cq))) (fr:=false) (body:=ig) S (λpre env=>∃A e4 m c e e8,env=(eA t S x A e4 m c e e8)/\Lw pF A (Ax t pF x pre)) S [] (eA t S x [] none none none none none) rfl ⟨[],none,none,none,none,none,rfl,Lw.nil pF⟩ (by
  rintro pre g ⟨q,b⟩ env j ⟨A,e4,m,c,e,e8,rfl,o⟩;obtain⟨f',w⟩:=Ij (d:=pK Hr t) (eD:=Hq) (fa:=aj 0) (fk:=fX (ai (aj 4) (ai (aj 2) aR))) (fx:=jO aR) (env:=(eA t S x A (vv (.int q) false) (vv (dj b) false) c e e8)) (f:=false) (a:=q) (b:=x) (r:=.val (.tup [.int q,.int x]) true []) (by simp_arith[nz]) (by simp_arith) rfl (by simp_arith);obtain⟨v,h1,B,p,s,n,rfl,k⟩:=jp Hq (asg:=gT 2 (aK (gN 6) (aK (gN 7) cq))) (fr:=f') (body:=cj) (Rj t q x) (λu env=>∃A c e e8,env=(eA t S x A (vv (.int q) false) (vv (dj b) false) c e e8)/\Lw pF A (Ax t pF x pre++u.map λy=>(y.1.2.2,b.1+y.2))) (Rj t q x) [] _ rfl ⟨A,c,e,e8,rfl,by grind⟩ (by
   rintro u po y env i ⟨B,p,s,n,rfl,k⟩;have F:=k.nJ (pr:=pF) (x:=x) (l:=S) nd λz hz=>by
    rw[j];have:pre++(q,b)::g=(pre++[(q,b)])++g:=by simp
    rw[this];refine Ip ?_;rw[Ay];rcases Ug.mp hz with h|h
    .exact Ug.mpr (.inl h)
    .refine Ug.mpr (.inr ?_);show z∈((pK NG t).get (q,x)).map λz=>(z.1,b.1+z.2);rw[<- Jz,i,UO];exact Ug.mpr (.inl h)
   obtain⟨G,C⟩:=MW (A:=B) (x:=y) (b:=b) (e0:=vv (EC Hq (pK Hr t)) false) (e1:=vv (aD dj S) false) (e2:=vv (.int x) false) (e4:=vv (.int q) false) (e8:=n) (g5:=false) (f':=f') k.nd (by lia);refine⟨_,_,rfl,C,_,_,_,_,rfl,?_⟩;rw[UO,<- Wm];exact Fj k)
  refine⟨(eA t S x A (vv (.int q) false) (vv (dj b) false) c e e8),_,rfl,?_,B,vv (.int q) false,vv (dj b) false,p,s,n,rfl,?_⟩
  .simp_arith[-yY,ig,w];exact h1
  .rw[Ay,<- Jz];exact k)
 refine⟨A,o,?_⟩;have D:aD dj []=.dZ [] []:=rfl;unfold eA at h1;rw[D]at h1;simp_arith[gD,m8,nz,cB,E5,QG,h1,E6]
abbrev eS(t:Pz.TD)(a:Int)(w:List Int)(l:List D)(e:Option Sl):En:=[vv (fZ t) false,vv (.tup [.int a,.lst (w.map .int)]) false,vv (EC Hq (pK Hr t)) true,ow l true,e]
def Fm(nd:(t.map (·.1)).Nodup)(i:t.length<=1000)(q:w.length<=1000):∃(b:List PL)(S:PL),FA t a w pF S/\gF [fZ t,.tup [.int a,.lst (w.map .int)]]=.ok (.val (.lst (b.map (aD dj)++[aD dj S])) true [3]):=by
 have j:iO [fZ t]=.ok (.jJ (EC Hq (pK Hr t))):=LF (by lia);have fl:∀(b:List PL)(S:PL),D.bW (b.map (aD dj)++[aD dj S])=false:=λb S=>by
  cases b with
  |nil=>exact fK (cB _ _)
  |cons s b=>exact fK (cB _ _)
 obtain⟨r,h1,b,S,e4,rfl,c,_⟩:=jp D.int (asg:=gN 4) (fr:=false) (body:=ii) w (λpre env=>∃(b:List PL)(S:PL)(e4:Option Sl),env=(eS t a w (b.map (aD dj)++[aD dj S]) e4)/\FA t a pre pF S/\b.length=pre.length) w [] (eS t a w [aD dj [(a,(0,none))]] none) rfl ⟨[],[(a,(0,none))],none,rfl,FA.one rfl,rfl⟩ (by
  rintro pre e x env h ⟨b,S,e4,rfl,c,k⟩;have l:pre.length<=1000:=by grind
  obtain⟨A,m,ha⟩:=Fk (t:=t) (x:=x) (S:=S) nd i;refine⟨(eS t a w (b.map (aD dj)++[aD dj S]) (vv (.int x) false)),(eS t a w ((b++[S]).map (aD dj)++[aD dj A]) (vv (.int x) false)),rfl,?_,b++[S],A,_,rfl,c.next nd m,by simp[k]⟩;have n:Cg true [] (dR (b.map (aD dj)++[aD dj S]) (-1))=.ok (.val (aD dj S) true []):=by have:dR (b.map (aD dj)++[aD dj S]) (-1)=some (aD dj S):=uV _ _;rw[this];show Res.ok (jh (aD dj S) true [])=_;rw[jn (cB _ _)]
  have o:∀rs,iT rs (.val (aD dj A) true [3])=.jJ (aD dj A):=λrs=>qY rs (cB _ _);have d:(b.map (aD dj)++[aD dj S]).length<1000000:=by simp;lia
  simp_arith[ii,nz,cB,fl,n,ha,o,uS d];rw[UO,T1,VO])
 refine⟨b,S,c,?_⟩;have hd:∀f g al bl,qM (.val (.int a) f al) (.val (.tup [.int 0,.bn]) g bl)=.ok (.jJ (aD dj [(a,(0,none))])):=λ_ _ _ _=>rfl;have p:D.bW [aD dj [(a,((0:Int),(none:Option Pz.bb)))]]=false:=fl [] _;simp_arith[gF,m_,j,mv,nz,hd,cB,p,h1,fl]
def y9(f:En->Res R)(env:En):wW f env=(f env).bind lK:=(rfl)
def MX(h:r.d=.lst []):lK r=.ok (.val .bn true []):=by unfold lK;rw[h]
def MY(h:r.d=.lst ((k::ks).map iY)):lK r=.ok (.val (iY (oo (k::ks))) true []):=by grind [li,lK]
def MZ(h:r.d=.lst ((n::ns).map .int)):lK r=.ok (.val (.int ((oo ((n::ns).map λn=>[n])).headD 0)) true []):=by have:=lh (n::ns);unfold lK;rw[h];rw[T1]at this ⊢;dsimp only;rw[this];rfl
def Iq(h1:k≠[])(c:y≠[]):(qX k y=k\/qX k y=y)/\(qX k y).headD 0<=k.headD 0/\(qX k y).headD 0<=y.headD 0:=by
 cases k with
 |nil=>exact absurd rfl h1
 |cons a k=>
  cases y with
  |nil=>exact absurd rfl c
  |cons b y=>
   unfold qX HT.lexLt
   grind
theorem u7:∀(r:List (List Int))(k:List Int),(∀x∈k::r,x≠[])->r.foldl qX k∈k::r/\∀x∈k::r,(r.foldl qX k).headD 0<=x.headD 0
 |[],k,_=>by grind
 |y::r,k,h=>by
  obtain⟨h1,a,b⟩:=Iq (h k T5) (h y (T3 _ T5));have c:=u7 r (qX k y) λx d=>by grind
  grind
section
variable{β:Type}{pr:β->Int}{S:AL β}{t:Pz.TD}{a:Int}{w es:List Int}
def uP(pr:β->Int)(S:AL β)(e:Int):Int:=((cF S e).map pr).getD 0
def B9(S:AL β)(e:Int):Bool:=(cF S e).isSome
def FA.lst(h:FA t a w pr S)(f:Int->List Int)(n:∀e,(f e).headD 0=uP pr S e)(o:∀e,f e≠[]):match es.filter (B9 S)with
 |[]=>ID t es a w none
 |e::r=>ID t es a w (some ((oo ((e::r).map f)).headD 0))/\∃g,oo ((e::r).map f)=f g:=by
 have on:∀e,B9 S e=true->lN t a w e (uP pr S e)/\∀s,lN t a w e s->uP pr S e<=s:=λe c=>by
  unfold B9 at c;unfold uP;cases z:cF S e with
  |none=>rw[z]at c;cases c
  |some b=>exact h.on e b z
 have no:∀e s,lN t a w e s->B9 S e=true:=λe s i=>by
  unfold B9;cases z:cF S e with
  |none=>exact absurd i (h.no e z s)
  |some b=>rfl
 cases k:es.filter (B9 S)with
 |nil=>exact⟨λv d=>(nomatch d),λ_ e c s i=>by have:e∈es.filter (B9 S):=Up.mpr ⟨c,no e s i⟩;rw[k]at this;cases this⟩
 |cons e r=>
  have l:=u7 (r.map f) (f e) λx p=>by grind
  have j:oo ((e::r).map f)∈(e::r).map f:=l.1;obtain⟨g,h1,m⟩:=T_.mp j;rw[<- k]at h1;obtain⟨q,u⟩:=Up.mp h1;refine⟨⟨λv d=>?_,λd=>(nomatch d)⟩,g,m.symm⟩
  grind [oo]
end
def QH{a:Type}(w:a->D)(e:Int)(S:AL a):uW false (.int e) (aD w S)=.ok (.val (.bl (B9 S e)) true []):=by unfold B9;rw[<- Jw];exact T2 (Aw e S)
def QI{a:Type}{w:a->D}{e:Int}{S:AL a}{b:a}{f g:Bool}{al:List Nat}(h:cF S e=some b)(c:(w b).flat=true):tE (.val (aD w S) f []) (.val (.int e) g al)=.ok (.val (w b) true []):=by rw[MB (ra:=.val (aD w S) f []) (rk:=.val (.int e) g al) (x:=ik e) rfl rfl (Aw e S) (by rw[Jv,h];rfl),yX c]
def M7(h:FA t a w pF S)(C:es.length<=1000):∃o l,ID t es a w o/\e9 [Mc n ts es,aD dj S]=.ok (.val (match o with|none=>.bn|some v=>.tup [.int v,.int l]) true []):=by
 have x:bE 0 (vC (.int 2)) [vv (Mc n ts es) false,vv (aD dj S) false]=.ok (.val (.lst (es.map .int)) false []):=by unfold Mc;simp_arith
 have y:=cv (mk:=λd=>gN 0 d false (gw [vv (Mc n ts es) false,vv (aD dj S) false] 1 [1])) (test:=cV) (elt:=cW) D.int (B9 S) (λe=>.val (.tup [.int (uP pF S e),.int e]) true []) es λe _=>⟨_,rfl,by
  show cV [vv (.int e) false,vv (aD dj S) false]=_;have m:=QH dj e S;simp_arith[cV,cB,m],λp=>by
  show cW [vv (.int e) false,vv (aD dj S) false]=_;unfold B9 at p;unfold uP;cases z:cF S e with
  |none=>rw[z]at p;cases p
  |some b=>
   have A:=QI (f:=false) (g:=true) (al:=[]) z (fD b);have B:∀f,o_ (dj b) (.int 0) f []=.ok (.val (.int b.1) true []):=λf=>by have:=fD b;unfold dj at *;simp_arith
   simp_arith[cW,cB,A,B];rfl⟩
 have j:de 1 [1] (g7 (bE 0 (vC (.int 2)))) (gN 0) cV cW [vv (Mc n ts es) false,vv (aD dj S) false]=.ok (.new ((es.filter (B9 S)).map λe=>.tup [.int (uP pF S e),.int e]) true):=by rw[oG x,eF (by grind) y,kH,cU,gc (bB _ _ λc=>rfl)]
 have i:=h.lst (es:=es) (λe=>[uP pF S e,e]) (λ_=>rfl) (λ_=>by simp);cases q:es.filter (B9 S)with
 |nil=>rw[q]at i j;refine⟨none,0,i,?_⟩;simp_arith[-gd,e9,jt,y9,dE,cB,j];rfl
 |cons e r=>rw[q]at i j;obtain⟨i,l,s⟩:=i;rw[s]at i;refine⟨_,l,i,?_⟩;have u:=MY (r:=.new ((e::r).map λe=>.tup [.int (uP pF S e),.int e]) true) (k:=[uP pF S e,e]) (ks:=r.map λe=>[uP pF S e,e]) (by rw[<- T1 (f:=λe=>[uP pF S e,e]),Uo];rfl);rw[<- T1 (f:=λe=>[uP pF S e,e]),s,T1]at u;simp_arith[-gd,e9,jt,y9,dE,cB,j,u];rfl
def Fo(d:kK [Hs ro sg RL,Mc n ts es]=.ok (.jJ (fZ t)))(nd:(t.map (·.1)).Nodup)(h:t.length<=1000)(i:w.length<=1000)(j:es.length<=1000) :
 ∃o,ID t es a w o/\fT [Hs ro sg RL,Mc n ts es,.tup [.int a,.lst (w.map .int)]]=.ok (.val (oD o) true []):=by
 obtain⟨e,S,k,ha⟩:=Fm (a:=a) nd h i;obtain⟨o,m,l,c⟩:=M7 (n:=n) (ts:=ts) k j;refine⟨o,l,?_⟩;have hs:(D.tup [D.int a,D.lst (w.map .int)]).flat=false:=rfl;have g:∀f al,Cg f al (dR (e.map (aD dj)++[aD dj S]) (-1))=.ok (.val (aD dj S) f al):=λf al=>by rw[uV];show Res.ok (jh (aD dj S) f al)=_;rw[jn (cB _ _)]
 have b:(D.lst (e.map (aD dj)++[aD dj S])).flat=false:=kF _;cases o with
 |none=>dsimp only at c;simp_arith[fT,uZ,dF,dE,hs,d,ha,b,g,c,mv,cB,Jx];rfl
 |some v=>dsimp only at c;simp_arith[fT,uZ,dF,dE,hs,d,ha,b,g,c,mv,cB,Jx,oD];rfl
theorem y_(ps:∀a v,Pz.bF t a=some v->0<=v.1):∀{w:List Int}{a v:Int},lN t a w b v->0<=v
 |[],_,_,h=>by have:=h.2;lia
 |x::w,a,v,⟨m,p,u,⟨z,h1,d⟩,c,e⟩=>by have a:=ps _ _ h1;have b:=y_ ps c;lia
def cN(G:Pz.Good RL M U t)(a:Pz.bb):Pz.At t a 0↔a∈M:=by
 constructor
 .rintro⟨⟨p,n,m⟩,h,e⟩;have j:=G.ju a _ h;have e:p=0:=e;subst e;cases n with
  |none=>exact j.2.2
  |some i=>
   obtain⟨j,r,_,_,_,_,k⟩:=j;have q:=λa q (h:Pz.At t a q)=>(h.elim λw h=>h.2▸G.ps a w h.1:0<=q);obtain⟨f,g,o,put⟩:=r;rcases put with _|⟨x,_|⟨y,_|⟨z,l⟩⟩⟩
   .have:=k.2.1;simp at this
   .obtain⟨_,q1,h1,b⟩:=k;have:=q _ _ h1;simp only[]at b;lia
   .obtain⟨d,q1,q2,_,h1,b,c⟩:=k;have:=q _ _ h1;have:=q _ _ b;simp only[]at c;lia
   .exact k.elim
 .intro h;exact⟨_,G.m0 a h,rfl⟩
def SC:dR [a,b] 0=some a:=(rfl)
def QJ:dR [a,b] 1=some b:=(rfl)
def Ir(es:List Int)(x:Int):((es.map D.int).any λe=>fW e (.int x))=decide (x∈es):=by induction es<;>grind [fW]
def Az(es:List Int)(x:Int):uW false (.int x) (.lst (es.map .int))=.ok (.val (.bl (decide (x∈es))) true []):=by rw[Jn (by have:=i_ es;lia) (by simp[D.dep]),Ir];rfl
theorem xo(k:Int):∀l,(qO k l).length<=l.length+1
 |[]=>by simp[qO]
 |h::t=>by
  have:=xo k t;unfold qO;split
  .simp
  .split<;>simp<;>lia
theorem tR:∀ks,(i6 ks).length<=ks.length
 |[]=>TY _
 |k::r=>by have h1:=xo k (i6 r);have a:=tR r;unfold i6;simp only[Ue];lia
abbrev eQ(n:Int)(ts:List Pz.bb)(es:List Int)(a:Int)(w:List Int)(l:List D)(e:Option Sl):En:=[vv (Mc n ts es) false,vv (.tup [.int a,.lst (w.map .int)]) false,ow l true,e]
def Fp(G:Pz.Good RL ts U t)(N:ts.length<=63) :
 ∃b,fy [Mc n ts es,.tup [.int a,.lst (w.map .int)]]=.ok (.val (.bl b) true [])/\(b=true↔∃e∈es,lN t a w e 0):=by
 have step:∀pre x q,lN t a (pre++[x]) q 0↔∃m,lN t a pre m 0/\(m,x,q)∈ts:=λpre x q=>by
  rw[pth_app];constructor
  .rintro⟨m,u,p,h1,j,e⟩;have j:=pth_one.mp j;have:=y_ G.ps h1;have z:0<=p:=j.elim λw h=>h.2▸G.ps _ w h.1;obtain⟨rfl,rfl⟩ : u=0/\p=0:=by lia
   exact⟨m,h1,(cN G _).mp j⟩
  .rintro⟨m,h1,j⟩;exact⟨m,0,0,h1,pth_one.mpr ((cN G _).mpr j),rfl⟩
 obtain⟨O,h1,Q,o,rfl,s,I⟩:=jp D.int (asg:=gN 3) (fr:=false) (body:=ij) w (λpre env=>∃(Q:List Int)(o:Option Sl),env=(eQ n ts es a w (Q.map .int) o)/\(∀q,q∈Q↔lN t a pre q 0)/\Q.length<=64) w [] (eQ n ts es a w [.int a] none) rfl ⟨[a],none,rfl,λq=>⟨λh=>⟨Uh.mp h,rfl⟩,λh=>Uh.mpr h.1⟩,by simp⟩ (by
  rintro pre E x env _ ⟨Q,o,rfl,s,I⟩;have J:bE 0 (vC (.int 1)) (eQ n ts es a w (Q.map .int) (vv (.int x) false))=.ok (.val (.lst (ts.map cn)) false []):=by unfold eQ Mc;simp_arith
  have v:=cv (mk:=λd=>gT 3 (aK (gN 0) (aK (gN 1) (aK (gN 2) cq))) d false (gw (eQ n ts es a w (Q.map .int) (vv (.int x) false)) 3 [2,3])) (test:=cX) (elt:=fg) cn (λy=>(y.2.1==x)&&decide (y.1∈Q)) (λy=>.val (.int y.2.2) true []) ts λy _=>⟨[vv (.int y.1) false,vv (.int y.2.1) false,vv (.int y.2.2) false,vv (.lst (Q.map .int)) true,vv (.int x) false],rfl,by
   have k:=Az Q y.1;cases F:(y.2.1==x)
   .simp_arith[cX,oq,F]
   .simp_arith[cX,oq,F,k],λ_=>by simp_arith[fg]⟩
  have l:=oG (n:=3) (caps:=[2,3]) (asg:=gT 3 (aK (gN 0) (aK (gN 1) (aK (gN 2) cq)))) (ft:=cX) (fe:=fg) J;rw[eF (by grind) v,kH,cU,gc (bB _ _ λc=>rfl)]at l;generalize A:(ts.filter λy=>(y.2.1==x)&&decide (y.1∈Q))=i at l;have rl:i.length<=ts.length:=by grind
  have hs:=Mz (r:=.new (i.map λy=>.int y.2.2) true) (is:=i.map λy=>y.2.2) (by rw[Uo];rfl) (by grind);refine⟨(eQ n ts es a w (Q.map .int) (vv (.int x) false)),(eQ n ts es a w ((i6 (i.map λy=>y.2.2)).map .int) (vv (.int x) false)),rfl,?_,i6 (i.map λy=>y.2.2),_,rfl,λq=>?_,?_⟩
  .simp_arith[-gd,ij,l,hs]
  .rw[n8,step,T_,<- A];constructor
   .rintro⟨⟨K,P,R⟩,h1,rfl⟩;obtain⟨j,H⟩:=Up.mp h1;rw[Uv,VW,Vu]at H;obtain⟨rfl,L⟩:=H;exact⟨K,(s _).mp L,j⟩
   .rintro⟨m,h1,j⟩;exact⟨(m,x,q),Up.mpr ⟨j,by grind⟩,rfl⟩
  .have:=tR (i.map λy=>y.2.2);rw[TZ]at this;lia)
 have B:aj 2 (eQ n ts es a w (Q.map .int) o)=.ok (.val (.lst (Q.map .int)) true [2]):=by simp_arith
 have v:=cv (mk:=λd=>gN 0 d true (gw (eQ n ts es a w (Q.map .int) o) 1 [0])) (test:=fj) (elt:=fq) D.int (λq=>decide (q∈es)) (λq=>.val (.int q) true []) Q λq _=>⟨[vv (.int q) true,vv (Mc n ts es) false],rfl,by have k:=Az es q;unfold Mc;simp_arith[fj,k],λ_=>by simp_arith[fq]⟩;have l:=oG (n:=1) (caps:=[0]) (asg:=gN 0) (ft:=fj) (fe:=fq) B;rw[eF (by grind) v,kH,cU,gc (bB _ _ λc=>rfl)]at l;generalize A:(Q.filter λq=>decide (q∈es))=i at l;have M:(D.lst (i.map .int)).dep<=50:=by have:=i_ i;rw[mZ];lia
 have C:∀f g,zK (.new (i.map .int) f) (.new [] g)=.ok (.val (.bl (!fW (.lst (i.map .int)) (.lst []))) true []):=λf g=>Po (a:=.new (i.map .int) f) (b:=.new [] g) M (by show(D.lst []).dep<=50;decide);refine⟨!fW (.lst (i.map .int)) (.lst []),?_,?_⟩
 .simp_arith[-gd,fy,nu,dE,SC,QJ,h1,l,C]
 .have:(∃e∈es,lN t a w e 0)↔∃e,e∈i:=by rw[<- A];exact⟨λ⟨e,h1,j⟩=>⟨e,Up.mpr ⟨(s e).mpr j,Uj h1⟩⟩,λ⟨e,h⟩=>⟨e,UZ (Up.mp h).2,(s e).mp (Up.mp h).1⟩⟩
  rw[this];cases i with
  |nil=>exact⟨λh=>(nomatch h),λ⟨e,h⟩=>(nomatch h)⟩
  |cons e r=>exact⟨λ_=>⟨e,T5⟩,λ_=>rfl⟩
def QK:Eb (.val (.int 10) f al) (.val (.int 20) g bl)=.ok (.val (.int 100000000000000000000) true []):=(rfl)
def QL:Eb (.val (.int 1000003) f al) (.val (.int 4) g bl)=.ok (.val (.int 1000012000054000108000081) true []):=(rfl)
def oJ(c:0<=x)(h1:x<18446744073709551616):qE (.val (.int x) f al) (.val (.int y) g bl)=.ok (.val (.int (x*y)) true []):=by
 have a:(-(2^64)<x):=by lia
 have b:x<2^64:=by lia
 refine T2 ?_;unfold Ba;rw[Uj a,Uj b];rfl
def xq(p:0<=c)(q:c<10000000)(r:0<=sz)(s:sz<=100)(h1:0<sg)(t:sg<=5):∃w:List Int,w.length<=100/\dC [.int c,.int sz,.int sg]=.ok (.val (.lst (w.map .int)) true [3]):=by
 obtain⟨u,j,w,n,d,b,rfl,e⟩:=jp (λk:Nat=>D.int (k:Nat)) (asg:=gN 5) (fr:=true) (body:=eZ) (List.range sz.toNat) (λpre env=>∃(w:List Int)(n:Int)(d b:Option Sl),env=[vv (.int c) false,vv (.int sz) false,vv (.int sg) false,ow (w.map .int) true,vv (.int n) true,d,b]/\w.length=pre.length) (List.range sz.toNat) [] [vv (.int c) false,vv (.int sz) false,vv (.int sg) false,ow [] true,vv (.int (c%100000000000000000000*1000012000054000108000081)) true,none,none] rfl ⟨[],_,none,none,rfl,rfl⟩ (by
  rintro pre i k env a ⟨w,n,d,b,rfl,e⟩;have v:k<100:=by
   have:k∈List.range sz.toNat:=by grind
   have:=UF.mp this;lia
  have x:w.length<100:=by have:=VD List.length a;rw[WT,Um,Ue]at this;lia
  have f:(w.map D.int).length<1000000:=by grind
  have k0:(0:Int)<=(k:Nat):=by lia
  have k1:((k:Nat):Int)<18446744073709551616:=by lia
  have g:(0:Int)<=((k:Nat):Int)*((k:Nat):Int):=Int.mul_nonneg k0 k0;have h:((k:Nat):Int)*((k:Nat):Int)<18446744073709551616:=by have:((k:Nat):Int)*((k:Nat):Int)<=100*100:=Int.mul_le_mul (by lia) (by lia) (by lia) (by lia);lia
  have s1:sg<1073741824:=by lia
  refine⟨[vv (.int c) false,vv (.int sz) false,vv (.int sg) false,ow (w.map .int) true,vv (.int n) true,vv (.int (k:Nat)) true,b],[vv (.int c) false,vv (.int sz) false,vv (.int sg) false,ow ((w++[(n%sg+((k:Nat):Int)*((k:Nat):Int)*(sz/30))%sg]).map .int) true,vv (.int (n/sg)) true,vv (.int (k:Nat)) true,vv (.int (n%sg)) true],rfl,?_,_,_,_,_,rfl,by simp[e]⟩;rw[UO,T1,VO];simp_arith[eZ,rp,h1,s1,lj,oJ k0 k1,oJ g h,uS f])
 rw[WT]at e;refine⟨w,by lia,?_⟩;have m0:0<=c%100000000000000000000:=by lia
 have l:c%100000000000000000000<18446744073709551616:=by lia
 have m:-4611686018427387904<=sz:=by lia
 have o:sz<4611686018427387904:=by lia
 simp_arith[dC,jN,QK,QL,oJ m0 l,Am,m,o,pL,j]
def xt(g:0<=c)(h:c<2147483648)(b:0<ro)(s1:0<sg)(s2:sg<=5):∃(a:Int)(w:List Int),0<=a/\a<ro/\w.length<=100/\bV [.int c,.int ro,.int sg]=.ok (.val (.tup [.int a,.lst (w.map .int)]) true []):=by
 have e:=VU (c%6) (show ro≠0 by lia);have an:=Vn (c%6) b;cases f:(c/36%8==5)
 .obtain⟨w,d,hs⟩:=xq (c:=c/288) (sz:=c/6%6) (by lia) (by lia) (by lia) (by lia) s1 s2;refine⟨c%6%ro,w,e,an,d,?_⟩;simp_arith[bV,dP,oq,f,b,hs]
 .obtain⟨w,d,hs⟩:=xq (c:=c/288) (sz:=30+c/288%26) (by lia) (by lia) (by lia) (by lia) s1 s2;refine⟨c%6%ro,w,e,an,d,?_⟩;simp_arith[bV,dP,oq,f,b,hs]
section
variable{ro:Int}{RL:List Pz.aV}{ts U:List Pz.bb}{t:Pz.TD}
def Fq(G:Pz.Good RL ts U t)(b:r∈RL)(c:r.2.2.2.length<=2)(h:lN t r.2.2.1 r.2.2.2 m q):Pz.Re t (r.1,r.2.1,m) (q+1):=by
 obtain⟨j,e⟩:=List.getElem?_of_mem b;have a:=G.JK j r e;obtain⟨g,i,k,put⟩:=r;rcases put with _|⟨x,_|⟨y,_|⟨z,l⟩⟩⟩
 .obtain⟨rfl,rfl⟩:=h;exact a
 .exact a m q (pth_one.mp h)
 .obtain⟨d,p,u,h1,f,rfl⟩:=h;have:=a d m p u h1 (pth_one.mp f);exact this
 .simp at c
def Iu(G:Pz.Good RL ts U t)(a:r∈RL)(b:r.2.2.2.length<=2)(h:lN t r.2.2.1 (r.2.2.2++w) e v):∃u,lN t r.1 (r.2.1::w) e u/\u<=v+1:=by obtain⟨m,q,u,h1,c,rfl⟩:=pth_app.mp h;obtain⟨z,d,f⟩:=Fq G a b h1;exact⟨z.1+u,⟨m,z.1,u,⟨z,d,rfl⟩,c,rfl⟩,by lia⟩
theorem xu(G:Pz.Good RL ts U t)(b:∀r∈RL,r.1<ro)(c:∀a∈ts,ro<=a.2.2):∀{w:List Int}{a v:Int},ro<=a->lN t a w e v->v=0
 |[],_,_,_,h=>h.2
 |x::w,a,v,ha,⟨m,p,u,⟨z,h1,d⟩,k,o⟩=>by
  have j:=G.ju _ _ h1;obtain⟨f,l,n⟩:=z;cases l with
  |none=>have j:n=none/\f=0/\(a,x,m)∈ts:=j;have:=xu G b c (c _ j.2.2) k;have d:f=p:=d;lia
  |some i=>obtain⟨j,r,_,e2,g,_⟩:=j;have:=b r (Uz e2);have g:a=r.1:=g;lia
def Iv(G:Pz.Good RL ts U t)(s:∀r∈RL,r.1<ro)(f:∀a∈ts,ro<=a.2.2)(h:lN t a w e v)(A:v≠0):∃r∈RL,∃x g,w=x::g/\r.1=a/\r.2.1=x/\∃u,lN t r.2.2.1 (r.2.2.2++g) e u/\v=u+1:=by
 cases w with
 |nil=>exact absurd h.2 A
 |cons x w=>
  obtain⟨m,p,u,⟨⟨b,B,C⟩,h1,n⟩,c,e1⟩:=h;have n:b=p:=n;have j:=G.ju _ _ h1;cases B with
  |none=>have j:C=none/\b=0/\(a,x,m)∈ts:=j;have:=xu G s f (f _ j.2.2) c;lia
  |some i=>
   obtain⟨j,⟨F,H,D,put⟩,_,e2,E,e4,k⟩:=j;refine⟨_,Uz e2,x,w,rfl,E.symm,e4.symm,?_⟩;rcases put with _|⟨y,_|⟨z,_|⟨I,l⟩⟩⟩
   .obtain⟨_,k2,k3⟩:=k;have k2:b=1:=k2;have k3:m=D:=k3;subst k3;exact⟨u,c,by lia⟩
   .obtain⟨_,q,k2,k3⟩:=k;have k3:b=q+1:=k3;exact⟨q+u,⟨m,q,u,k2,c,rfl⟩,by lia⟩
   .obtain⟨d,q1,q2,_,k2,k3,o⟩:=k;have o:b=q1+q2+1:=o;exact⟨q1+(q2+u),⟨d,q1,q2+u,k2,⟨m,q2,u,k3,c,rfl⟩,rfl⟩,by lia⟩
   .exact k.elim
end
theorem xw{α:Type}(g:α->D){asg:D->Bool->En->Option En}{fr:Bool}{body:En->Res Fl}(P:Nat->En->Prop)(N:Nat)(st:∀(k:Nat)(a:α)(env:En),k<N->P k env->∃d b,asg (g a) fr env=some d/\((body d=.ok (.nx b)/\P (k+1) b)\/(body d=.ok (.bk b)/\P k b))):∀(xs:List α)(k:Nat)(env:En),k+xs.length<=N->P k env->∃i j,j9 asg fr body (xs.map g) env=.ok (.nx j)/\P i j/\i<=N
 |[],k,env,e,h=>⟨k,env,rfl,h,e⟩
 |a::r,k,env,e,h=>by
  rw[Ue]at e;obtain⟨d,b,h1,c⟩:=st k a env (by lia) h;rw[T1];unfold j9;rw[h1];dsimp only;rcases c with⟨c,f⟩|⟨c,f⟩
  .rw[c];exact xw g P N st r (k+1) b (by lia) f
  .rw[c];exact⟨k,b,rfl,f,by lia⟩
noncomputable abbrev pO:=Int×List Int
noncomputable def cr(s:pO):D:=.tup [.int s.1,.lst (s.2.map .int)]
def du(s:pO):(cr s).flat=false:=rfl
noncomputable def fits(s:pO)(r:Pz.aV):Bool:=match s.2 with
 |[]=>false
 |x::_=>(r.1==s.1)&&(r.2.1==x)
noncomputable def rB(s:pO)(r:Pz.aV):pO:=(r.2.2.1,r.2.2.2++s.2.tail)
def S1(a b c d:Int):fW (.tup [.int a,.int b]) (.tup [.int c,.int d])=((a==c)&&(b==d)):=by simp[fW,eqDs]
def Iw:dR (a::l) 0=some a:=by unfold dR zq;rw[T2 (by decide),T2 (by simp only[Ue];lia)];rfl
def u9(w:List Int)(f g:Bool)(al:List Nat):zK (.val (.lst (w.map .int)) f al) (.new [] g)=.ok (.val (.bl (!w.isEmpty)) true []):=by
 have c:(D.lst (w.map .int)).dep<=50:=by have:=i_ w;rw[mZ];lia
 rw[Po (a:=.val (.lst (w.map .int)) f al) (b:=.new [] g) c (by show(D.lst []).dep<=50;decide),gy,lg];cases w<;>rfl
def QM{r:Pz.aV}{i g1 g2:Bool}:cw [vv (a_ r) i,vv (.int s.1) g1,vv (.lst (s.2.map .int)) g2]=.ok (fits s r):=by
 obtain⟨a,w⟩:=s;obtain⟨c,d,h,put⟩:=r;cases w with
 |nil=>have e:∀f g al,zK (.val (.lst []) f al) (.new [] g)=.ok (.val (.bl false) true []):=λf g al=>u9 [] f g al;simp_arith[cw,e];rfl
 |cons x w=>
  have j:∀f g al bl,ti (.val (.tup [.int c,.int d]) f al) (.val (.tup [.int a,.int x]) g bl)=.ok (.val (.bl ((c==a)&&(d==x))) true []):=λf g al bl=>by rw[oq (a:=.val (.tup [.int c,.int d]) f al) (b:=.val (.tup [.int a,.int x]) g bl) (by show(D.tup [.int c,.int d]).dep<=50;simp[D.dep,D.f6]) (by show(D.tup [.int a,.int x]).dep<=50;simp[D.dep,D.f6]),gy,gy,S1]
  have k:(D.tup [D.int c,D.int d,D.int h,D.tup (put.map .int)]).flat=true:=cb (c,d,h,put);have e:∀f g al,zK (.val (.lst (.int x::w.map .int)) f al) (.new [] g)=.ok (.val (.bl true) true []):=λf g al=>u9 (x::w) f g al;unfold a_;simp only[T1];simp_arith[cw,e,j,k,bj,Iw];rfl
def Iy(p w:List Int):(D.lst (p.map .int++w.map .int))=.lst ((p++w).map .int):=by rw[UO]
def M8{RL:List Pz.aV}{w cs:List Int}(X:∀r∈RL,r.2.2.2.length<=2)(hl:RL.length<=100)(Y:w.length<=100)(hc:cs.length<=100):∃i:List pO,i≠[]/\i.length<=200/\(∀s∈i,s.2.length<=300)/\ie [Hs ro sg RL,cr (a,w),.lst (cs.map .int)]=.ok (.val (.lst (i.map cr)) false [3]):=by
 have fl:∀i:List pO,i≠[]->D.bW (i.map cr)=false:=λi h=>by
  cases i with
  |nil=>exact absurd rfl h
  |cons s r=>exact fK (du s)
 obtain⟨k,bf,h1,⟨i,s,e4,v,A,m,e8,rfl,J,B⟩,t⟩:=xw D.int (asg:=gN 4) (fr:=false) (body:=gz) (λk env=>∃(i:List pO)(s:pO)(e4 v A m e8:Option Sl),env=[vv (Hs ro sg RL) false,vv (cr (a,w)) false,vv (.lst (cs.map .int)) false,ow ((i++[s]).map cr) false,e4,v,A,m,e8]/\i.length=k/\∀z∈i++[s],z.2.length<=100+k) 100 (by
  rintro k c env Z ⟨i,s,e4,v,A,m,e8,rfl,J,B⟩;obtain⟨b,x⟩:=s;have K:Cg false [] (dR ((i++[(b,x)]).map cr) (-1))=.ok (.val (cr (b,x)) false []):=by rw[UO,T1,VO,uV];show Res.ok (jh (cr (b,x)) false [])=_;rw[jn (du _)]
  have hH:∀e1 e2 p e4 v A m e8:Option Sl,bE 0 (vC (.int 2)) [vv (Hs ro sg RL) false,e1,e2,p,e4,v,A,m,e8]=.ok (.val (.lst (RL.map a_)) false []):=λ_ _ _ _ _ _ _ _=>by unfold Hs;simp_arith
  have L:=λe1 e2 p e4 m e8=>cv (mk:=λd=>gN 0 d false (gw [vv (Hs ro sg RL) false,e1,e2,p,e4,vv (.int b) false,vv (.lst (x.map .int)) false,m,e8] 1 [5,6])) (test:=cw) (elt:=eY) a_ (fits (b,x)) (λr=>.val (a_ r) true []) RL λr _=>⟨[vv (a_ r) false,vv (.int b) false,vv (.lst (x.map .int)) false],rfl,QM (s:=(b,x)),λ_=>by simp_arith[eY,cb]⟩;have t:=λe1 e2 p e4 m e8=>oG (n:=1) (caps:=[5,6]) (asg:=gN 0) (ft:=cw) (fe:=eY) (hH e1 e2 p e4 (vv (.int b) false) (vv (.lst (x.map .int)) false) m e8);have t:∀e1 e2 p e4 m e8,de 1 [5,6] (g7 (bE 0 (vC (.int 2)))) (gN 0) cw eY [vv (Hs ro sg RL) false,e1,e2,p,e4,vv (.int b) false,vv (.lst (x.map .int)) false,m,e8]=.ok (.new ((RL.filter (fits (b,x))).map a_) true):=λe1 e2 p e4 m e8=>by rw[t,eF (by rw[TZ];lia) (L e1 e2 p e4 m e8),kH,cU,gc (bB _ _ cb)]
  have fs:(cr (b,x)).flat=false:=du _;refine⟨[vv (Hs ro sg RL) false,vv (cr (a,w)) false,vv (.lst (cs.map .int)) false,ow ((i++[(b,x)]).map cr) false,vv (.int c) false,v,A,m,e8],?_⟩;have V:=fl (i++[(b,x)]) (by simp);cases I:RL.filter (fits (b,x))with
  |nil=>rw[I]at t;refine⟨_,rfl,.inr ⟨?_,i,(b,x),vv (.int c) false,vv (.int b) false,vv (.lst (x.map .int)) false,ow [] true,e8,rfl,J,B⟩⟩;have M:∀f al g,ti (.val (.lst []) f al) (.new [] g)=.ok (.val (.bl true) true []):=λ_ _ _=>rfl;unfold cr at K ⊢;simp_arith[-gd,gz,K,lj,t,M];rfl
  |cons r rs=>
   rw[I]at t;generalize N:r::rs=j at t;have h0:0<j.length:=by rw[<- N];simp
   have i0:=VU c (show((j.length:Nat):Int)≠0 by lia);have i1:=Vn c (show(0:Int)<(j.length:Nat) by lia);obtain⟨q,O,P⟩:=yZ i0 i1;have Q:q∈RL:=by
    have:q∈RL.filter (fits (b,x)):=by rw[I,N];exact Uz P
    exact(Up.mp this).1
   have R:dR (j.map a_) (c%(j.length:Nat))=some (a_ q):=by rw[uX,O];rfl
   have C:=X q Q;have hxl:x.length<=100+k:=B (b,x) (by simp);obtain⟨E,q1,q2,put⟩:=q;refine⟨[vv (Hs ro sg RL) false,vv (cr (a,w)) false,vv (.lst (cs.map .int)) false,ow ((i++[(b,x)]++[(q2,put++x.tail)]).map cr) false,vv (.int c) false,vv (.int b) false,vv (.lst (x.map .int)) false,ow (j.map a_) true,vv (a_ (E,q1,q2,put)) true],rfl,.inl ⟨?_,i++[(b,x)],(q2,put++x.tail),_,_,_,_,_,rfl,by simp[J],λz hz=>?_⟩⟩
   .have F:db (x.map D.int) (some 1) none=x.tail.map D.int:=by rw[m6,wZ]
    have M:∀f al g,ti (.val (.lst (j.map a_)) f al) (.new [] g)=.ok (.val (.bl false) true []):=λf al g=>by rw[oq (a:=.val (.lst (j.map a_)) f al) (b:=.new [] g) (by have:=q5 (g:=a_) (xs:=j) B3;show(D.lst (j.map a_)).dep<=50;rw[mZ];lia) (by show(D.lst []).dep<=50;decide),gy,lg,<- N];rfl
    have S:D.bW (j.map a_)=true:=bB _ _ cb;have G:(0:Int)<((j.map a_).length:Nat):=by rw[TZ];lia
    have o:dR (j.map a_) (c%((j.map a_).length:Nat))=some (a_ (E,q1,q2,put)):=by rw[TZ];exact R
    have H:(put.map D.int).length+(x.tail.map D.int).length<=1000000:=by have:put.length<=2:=C;simp;lia
    have T:((i++[(b,x)]).map cr).length<1000000:=by simp;lia
    have u:=cb (E,q1,q2,put);have eS:(i++[(b,x)]++[(q2,put++x.tail)]).map cr=(i++[(b,x)]).map cr++[.tup [.int q2,.lst (put.map .int++x.tail.map .int)]]:=by simp[cr]
    rw[eS];have o:dR (j.map a_) (c%((j.map a_).length:Nat))=some (.tup [.int E,.int q1,.int q2,.tup (put.map .int)]):=o;have u:(D.tup [.int E,.int q1,.int q2,.tup (put.map .int)]).flat=true:=u;have U:Cg false [] (dR ((i++[(b,x)]).map cr) (-1))=.ok (.val (.tup [.int b,.lst (x.map .int)]) false []):=K;simp_arith[-gd,gz,U,lj,t,M,S,G,o,u,bj,F,uQ H,uS T];rfl
   .rcases Ug.mp hz with hz|hz
    .have:=B z hz;lia
    .rw[Uh]at hz;subst hz;have:put.length<=2:=C;have h1:x≠[]:=λe=>by
      have hh:r∈RL.filter (fits (b,x)):=by rw[I];simp
      have:=(Up.mp hh).2;rw[e]at this;cases this
     have:x.tail.length+1=x.length:=by cases x with|nil=>exact absurd rfl h1|cons y l=>rfl
     simp only[Um];lia) cs 0 [vv (Hs ro sg RL) false,vv (cr (a,w)) false,vv (.lst (cs.map .int)) false,ow [cr (a,w)] false,none,none,none,none,none] (by lia) ⟨[],(a,w),none,none,none,none,none,rfl,rfl,λz hz=>by rw[List.nil_append,Uh]at hz;subst hz;exact Y⟩
 refine⟨i++[s],by simp,by simp;lia,λz hz=>by have:=B z hz;lia,?_⟩;have W:D.bW [cr (a,w)]=false:=fK (du _);have V:=fl (i++[s]) (by simp);have P:=jn (f:=false) (al:=[]) (du (a,w));have O:mN [cr (a,w)] false []=.new [cr (a,w)] false:=by unfold mN;rw[W];rfl
 simp_arith[ie,rf,dF,du,P,O,W,h1,V]
theorem AA:∀(a b:List Int),eqDs (a.map .int) (b.map .int)=decide (a=b)
 |[],[]=>rfl
 |[],_::_=>rfl
 |_::_,[]=>rfl
 |x::a,y::b=>by
  show(fW (.int x) (.int y)&&eqDs (a.map .int) (b.map .int))=_;rw[AA a b];show((x==y)&&_)=_
  grind
def QN(s z:pO):fW (cr s) (cr z)=decide (s=z):=by
 obtain⟨a,w⟩:=s;obtain⟨b,x⟩:=z;show((a==b)&&(eqDs (w.map .int) (x.map .int)&&true))=_;rw[AA]
 grind
def AB(s:pO):(cr s).dep<=2:=by have:=i_ s.2;unfold cr;simp only[uU,mZ,lc,uT,m5];lia
def QO(a:List pO)(s:pO):uW true (cr s) (.lst (a.map cr))=.ok (.val (.bl (!decide (s∈a))) true []):=by
 rw[Jn (by have:=q5 (g:=cr) (xs:=a) AB;lia) (by have:=AB s;lia)];have:((a.map cr).any λe=>fW e (cr s))=decide (s∈a):=by
  rw[List.any_map];induction a with
  |nil=>rfl
  |cons z a b=>
   rw[VL,b];show(fW (cr z) (cr s) || _)=_;rw[QN]
   grind
 rw[this];rfl
def Ft(s:pO)(H:∀r∈RL,r.2.2.2.length<=2)(O:RL.length<=100)(E:s.2.length<=1000):∃c:List pO,(∀z,z∈c↔∃r∈RL,fits s r=true/\z=rB s r)/\c.length<=100/\dc [Hs ro sg RL,cr s]=.ok (.val (.lst (c.map cr)) true [4]):=by
 obtain⟨a,w⟩:=s;obtain⟨P,h1,c,v,l,rfl,p,F⟩:=jp a_ (asg:=gN 5) (fr:=false) (body:=fA) RL (λpre env=>∃(c:List pO)(v l:Option Sl),env=[vv (Hs ro sg RL) false,vv (cr (a,w)) false,vv (.int a) false,vv (.lst (w.map .int)) false,ow (c.map cr) true,v,l]/\(∀z,z∈c↔∃r∈pre,fits (a,w) r=true/\z=rB (a,w) r)/\c.length<=pre.length) RL [] [vv (Hs ro sg RL) false,vv (cr (a,w)) false,vv (.int a) false,vv (.lst (w.map .int)) false,ow [] true,none,none] rfl ⟨[],none,none,rfl,by simp,by simp⟩ (by
  rintro pre G r env i ⟨c,v,l,rfl,p,F⟩;have I:=H r (by rw[i];simp);have J:pre.length<=100:=by have:=VD List.length i;rw[Um]at this;lia
  refine⟨[vv (Hs ro sg RL) false,vv (cr (a,w)) false,vv (.int a) false,vv (.lst (w.map .int)) false,ow (c.map cr) true,vv (a_ r) false,l],?_⟩;have m:∀e0 e1 e4 l,yu (vB (v2 zK (aj 3) (jO aR))) (vB (v2 ti (fX (ai (bE 5 (vC (.int 0))) (ai (bE 5 (vC (.int 1))) aR))) (fX (ai (aj 2) (ai (bE 3 (vC (.int 0))) aR))))) [e0,e1,vv (.int a) false,vv (.lst (w.map .int)) false,e4,vv (a_ r) false,l]=.ok (fits (a,w) r):=λe0 e1 e4 l=>by
   clear p F i E;obtain⟨j,k,d,put⟩:=r;cases w with
   |nil=>have y:∀f g al,zK (.val (.lst []) f al) (.new [] g)=.ok (.val (.bl false) true []):=λf g al=>u9 [] f g al;simp_arith[y];rfl
   |cons x w=>
    have K:∀f g al bl,ti (.val (.tup [.int j,.int k]) f al) (.val (.tup [.int a,.int x]) g bl)=.ok (.val (.bl ((j==a)&&(k==x))) true []):=λf g al bl=>by rw[oq (a:=.val (.tup [.int j,.int k]) f al) (b:=.val (.tup [.int a,.int x]) g bl) (by show(D.tup [.int j,.int k]).dep<=50;simp[D.dep,D.f6]) (by show(D.tup [.int a,.int x]).dep<=50;simp[D.dep,D.f6]),gy,gy,S1]
    have L:(D.tup [D.int j,D.int k,D.int d,D.tup (put.map .int)]).flat=true:=cb (j,k,d,put);have y:∀f g al,zK (.val (.lst (.int x::w.map .int)) f al) (.new [] g)=.ok (.val (.bl true) true []):=λf g al=>u9 (x::w) f g al;unfold a_;simp only[T1];simp_arith[y,K,L,bj,Iw];rfl
  cases A:fits (a,w) r with
  |false=>
   refine⟨_,rfl,?_,c,vv (a_ r) false,l,rfl,λz=>?_,by simp;lia⟩
   .have m:=m (vv (Hs ro sg RL) false) (vv (cr (a,w)) false) (ow (c.map cr) true) l;rw[A]at m;unfold fA;rw[LI,m];rfl
   .rw[p];grind
  |true=>
   have m:=m (vv (Hs ro sg RL) false) (vv (cr (a,w)) false) (ow (c.map cr) true) l;rw[A]at m;obtain⟨j,k,d,put⟩:=r;have n:db (w.map D.int) (some 1) none=w.tail.map D.int:=by rw[m6,wZ]
   have o:(put.map D.int).length+(w.tail.map D.int).length<=1000000:=by have:put.length<=2:=I;have:w.length<=1000:=E;simp;lia
   have B:(c.map cr).length<1000000:=by rw[TZ];lia
   have t:(D.tup [.int j,.int k,.int d,.tup (put.map .int)]).flat=true:=cb (j,k,d,put);have e:=QO c (d,put++w.tail);have e:uW true (.tup [.int d,.lst (put.map .int++w.tail.map .int)]) (.lst (c.map cr))=.ok (.val (.bl (!decide ((d,put++w.tail)∈c))) true []):=by rw[Iy];exact e
   unfold fA;rw[LI,m,rY];by_cases C:(d,put++w.tail)∈c
   .rw[Uj C]at e;refine⟨_,rfl,?_,c,vv (a_ (j,k,d,put)) false,vv (.tup [.int d,.lst (put.map .int++w.tail.map .int)]) true,rfl,λz=>?_,by simp;lia⟩
    .unfold a_;simp_arith[t,bj,n,uQ o,e]
    .rw[p];constructor
     .rintro⟨r,h1,q⟩;exact⟨r,by simp[h1],q⟩
     .rintro⟨r,h1,q,u⟩;rcases Ug.mp h1 with h1|h1
      .exact⟨r,h1,q,u⟩
      .rw[Uh]at h1;subst h1;rw[u];exact(p _).mp C
   .rw[Ur C]at e;refine⟨_,rfl,?_,c++[(d,put++w.tail)],vv (a_ (j,k,d,put)) false,vv (.tup [.int d,.lst (put.map .int++w.tail.map .int)]) true,rfl,λz=>?_,by simp;lia⟩
    .have eS:(c++[(d,put++w.tail)]).map cr=c.map cr++[.tup [.int d,.lst (put.map .int++w.tail.map .int)]]:=by simp[cr]
     rw[eS];unfold a_;simp_arith[t,bj,n,uQ o,e,uS B]
    .rw[Ug,p,Uh];constructor
     .rintro(⟨r,h1,q⟩|h)
      .exact⟨r,by simp[h1],q⟩
      .exact⟨_,by simp,A,h⟩
     .rintro⟨r,h1,q,u⟩;rcases Ug.mp h1 with h1|h1
      .exact .inl ⟨r,h1,q,u⟩
      .rw[Uh]at h1;subst h1;exact .inr u)
 refine⟨c,p,by lia,?_⟩;have M:(c.map cr)=[]\/D.bW (c.map cr)=false:=by
  cases c with
  |nil=>exact .inl rfl
  |cons s r=>exact .inr (fK (du s))
 have hs:cr (a,w)=.tup [.int a,.lst (w.map .int)]:=rfl;rw[hs]at h1 ⊢;have N:o_ (Hs ro sg RL) (.int 2) false []=.ok (.val (.lst (RL.map a_)) false []):=by unfold Hs;simp_arith
 simp_arith[dc,nv,dF,lj,N,h1]
def su(l:List (Option Int)):Option Int:=match l.filterMap id with
 |[]=>none
 |v::r=>some ((oo ((v::r).map λn=>[n])).headD 0)
def B_(h:su l=none):∀v,¬some v∈l:=λv b=>by
 have:v∈l.filterMap id:=VE.mpr ⟨some v,b,rfl⟩;unfold su at h;cases e:l.filterMap id with
 |nil=>rw[e]at this;cases this
 |cons a r=>rw[e]at h;cases h
def Ca(h:su l=some m):some m∈l/\∀v,some v∈l->m<=v:=by
 unfold su at h;cases e:l.filterMap id with
 |nil=>rw[e]at h;cases h
 |cons a r=>
  rw[e]at h;injection h with h;have b:=u7 (r.map λn=>[n]) [a] (by grind);have h1:oo ((a::r).map λn=>[n])∈(a::r).map λn=>[n]:=b.1;obtain⟨z,d,g⟩:=T_.mp h1;have hz:z=m:=by rw[<- h,<- g];rfl
  subst hz;have mem:∀v,v∈a::r↔some v∈l:=λv=>by rw[<- e,VE];simp
  refine⟨(mem z).mp d,λv i=>?_⟩;have c:(oo ((a::r).map λn=>[n])).headD 0<=[v].headD 0:=b.2 [v] (by rw[<- T1 (f:=λn=>[n])];exact T_.mpr ⟨v,(mem v).mpr i,rfl⟩);rw[h]at c;exact c
def SD{t:Pz.TD}(G:Pz.Good RL ts U t)(E:∀r∈RL,RR ro sg r)(P:PM ro sg n ts es){s:pO}{o:Option Int}(l:ID t es s.1 s.2 o)(M:¬∃e∈es,lN t s.1 s.2 e 0)
 {d:List pO} (F:∀z,z∈d↔∃r∈RL,fits s r=true/\z=rB s r) {f:pO->Option Int} (H:∀z∈d,ID t es z.1 z.2 (f z)):o=(su (d.map f)).map (1+·):=by
 obtain⟨a,w⟩:=s;have N:∀z∈d,∀v,f z=some v->∃u,o=some u/\u<=v+1:=λz hz v c=>by
  obtain⟨r,h1,b,rfl⟩:=(F z).mp hz;obtain⟨⟨e,i,k⟩,_⟩:=(H _ hz).on v c;cases w with
  |nil=>cases b
  |cons x w=>
   have b:((r.1==a)&&(r.2.1==x))=true:=b;rw[Uv,VW,VW]at b;obtain⟨u,j,y⟩:=Iu G h1 (E r h1).p k;rw[b.1,b.2]at j;cases g:o with
   |none=>exact absurd j (l.no g e i u)
   |some q=>exact⟨q,rfl,by have:=(l.on q g).2 e i u j;lia⟩
 have I:∀u,o=some u->∃z∈d,∃v,f z=some v/\v+1<=u:=λu J=>by
  obtain⟨⟨e,i,k⟩,_⟩:=l.on u J;have O:u≠0:=λz=>M ⟨e,i,z▸k⟩;obtain⟨r,h1,x,A,B,b,j,q,y,T⟩:=Iv G (ro:=ro) (λr h=>(E r h).a.2) (λa h=>(P.arr a h).2.2.2.2.1) k O;have B:w=x::A:=B;subst B;have hz:rB (a,x::A) r∈d:=(F _).mpr ⟨r,h1,by show((r.1==a)&&(r.2.1==x))=true;rw[Uv,VW,VW];exact⟨b,j⟩,rfl⟩;have K:=H _ hz;cases c:f (rB (a,x::A) r)with
  |none=>exact absurd y (K.no c e i q)
  |some v=>exact⟨_,hz,v,c,by have:=(K.on v c).2 e i q y;lia⟩
 cases L:su (d.map f)with
 |none=>
  cases g:o with
  |none=>rfl
  |some u=>obtain⟨z,hz,v,c,_⟩:=I u g;exact absurd (T_.mpr ⟨z,hz,c⟩) (B_ L v)
 |some m=>obtain⟨h1,b⟩:=Ca L;obtain⟨z,hz,c⟩:=T_.mp h1;obtain⟨u,g,J⟩:=N z hz m c;obtain⟨Q,C,R,D,S⟩:=I u g;have:=b R (T_.mpr ⟨Q,C,D⟩);rw[g];show some u=some (1+m);rw[show u=1+m by lia]
def jH(o:Option Int):(oD o).flat=true:=by cases o<;>rfl
def xx(v:Int):gH [.int v]=.ok (.val (.bl true) true []):=by simp_arith[gH,nh]
def M9(l:List (Option Int)):(l.filter Option.isSome).map oD=(l.filterMap id).map .int:=by
 induction l with
 |nil=>rfl
 |cons o l a=>cases o<;>simp_all [oD]
def M_(l:List (Option Int))(h:r.d=.lst ((l.filter Option.isSome).map oD)):lK r=.ok (.val (oD (su l)) true []):=by
 rw[M9]at h;unfold su;cases e:l.filterMap id with
 |nil=>rw[e]at h;exact MX h
 |cons v r=>rw[e]at h;exact MZ h
def Fu{ro sg n:Int}{RL:List Pz.aV}{ts U:List Pz.bb}{es:List Int}{t:Pz.TD}(W:kK [Hs ro sg RL,Mc n ts es]=.ok (.jJ (fZ t)))(G:Pz.Good RL ts U t)(J:∀r∈RL,RR ro sg r)(P:PM ro sg n ts es)(X:t.length<=1000)(Y:RL.length<=100)(s:pO)(hs:s.2.length<=900) :
 cA [Hs ro sg RL,Mc n ts es,cr s]=.ok (.val (.bl true) true []):=by
 have le:=P.le;have lt:=P.lt;have ex:∀z:pO,z.2.length<=1000->∃o,ID t es z.1 z.2 o/\fT [Hs ro sg RL,Mc n ts es,cr z]=.ok (.val (oD o) true []):=λz hz=>Fo W G.nd X hz (by lia);obtain⟨f,K⟩ : ∃f:pO->Option Int,∀z:pO,z.2.length<=1000->ID t es z.1 z.2 (f z)/\fT [Hs ro sg RL,Mc n ts es,cr z]=.ok (.val (oD (f z)) true []):=⟨λz=>Classical.epsilon λo=>ID t es z.1 z.2 o/\fT [Hs ro sg RL,Mc n ts es,cr z]=.ok (.val (oD o) true []),λz hz=>Classical.epsilon_spec (ex z hz)⟩;obtain⟨F,B⟩:=K s (by lia);obtain⟨b,L,S⟩:=Fp G (n:=n) (a:=s.1) (w:=s.2) (es:=es) (by lia);obtain⟨k,T,nl,M⟩:=Ft (ro:=ro) (sg:=sg) s (λr h=>(J r h).p) Y (by lia);have C:∀z∈k,z.2.length<=1000:=λz hz=>by obtain⟨r,h1,N,rfl⟩:=(T z).mp hz;have:=(J r h1).p;show(r.2.2.2++s.2.tail).length<=1000;simp;lia
 have i:=λO=>SD G J P F O T (f:=f) (λz hz=>(K z (C z hz)).1);generalize Z:f s=o at F B i;have fs:(cr s).flat=false:=du s;have y:∀g:Bool,o_ (cr s) (.int 0) g []=.ok (.val (.int s.1) true []):=λg=>by unfold cr;simp_arith[Iw]
 have A:∀g:Bool,o_ (cr s) (.int 1) g []=.ok (.val (.lst (s.2.map .int)) g []):=λg=>by unfold cr;simp_arith[QJ]
 have j:fT [Hs ro sg RL,Mc n ts es,.tup [.int s.1,.lst (s.2.map .int)]]=.ok (.val (oD o) true []):=B;have l:fy [Mc n ts es,cr s]=.ok (.val (.bl b) true []):=L;have ofl:=jH o;cases b with
 |true=>
  have h0:o=some 0:=by
   obtain⟨e,h1,N⟩:=S.mp rfl;cases V:o with
   |none=>exact absurd N (F.no V e h1 0)
   |some v=>obtain⟨⟨e',h3,h4⟩,h5⟩:=F.on v V;have a:=h5 e h1 0 N;have b:=y_ G.ps h4;rw[show v=0 by lia]
  subst h0;have Q:=xx 0;have H:∀f g al bl,ti (.val (oD (some 0)) f al) (.val (.int 0) g bl)=.ok (.val (.bl true) true []):=λ_ _ _ _=>rfl;have O:(oD (some 0)).gr=false:=rfl;have e0:oD (some 0)=.int 0:=rfl;rw[e0]at j H O;simp_arith[cA,gL,dF,dE,fs,y,A,bj,j,Q,l,H]
 |false=>
  have i:=i (λh=>Bool.noConfusion (S.mpr h));have D:∀q e4 u:Option Sl,g7 (bS dc (ai (aj 0) (ai (aj 2) aR))) [vv (Hs ro sg RL) false,vv (Mc n ts es) false,vv (cr s) false,q,e4,u]=.ok ⟨k.map cr,true,[]⟩:=λq e4 u=>by have I:∀rs,iT rs (.val (.lst (k.map cr)) true [4])=.jJ (.lst (k.map cr)):=λrs=>qY rs (kF _);simp_arith[dF,fs,M,I]
  have E:∀q e4 u:Option Sl,de 1 [0,1] (g7 (bS dc (ai (aj 0) (ai (aj 2) aR)))) (gN 0) (λ_=>.ok true) fC [vv (Hs ro sg RL) false,vv (Mc n ts es) false,vv (cr s) false,q,e4,u]=.ok (.new ((k.map f).map oD) true):=λq e4 u=>by have h:=gO (mk:=λd=>gN 0 d true (gw [vv (Hs ro sg RL) false,vv (Mc n ts es) false,vv (cr s) false,q,e4,u] 1 [0,1])) (test:=λ_=>.ok true) (elt:=fC) cr (λz=>.val (oD (f z)) true []) k λz hz=>⟨[vv (cr z) true,vv (Hs ro sg RL) false,vv (Mc n ts es) false],rfl,rfl,by have hq:=(K z (C z hz)).2;have R:=jn (f:=true) (al:=[]) (du z);simp_arith[fC,dF,dE,R,hq,jH]⟩;rw[gd,D,rY,eF (by rw[TZ];lia) h,kH,cU,gc (bB _ _ λc=>jH _),Uo];rfl
  have x:∀e0 e1 e2 q u:Option Sl,wW (de 1 [] (g7 (aj 4)) (gN 0) cY cZ) [e0,e1,e2,q,ow ((k.map f).map oD) true,u]=.ok (.val (oD (su (k.map f))) true []):=λe0 e1 e2 q u=>by
   have hv:aj 4 [e0,e1,e2,q,ow ((k.map f).map oD) true,u]=.ok (.val (.lst ((k.map f).map oD)) true [4]):=by simp_arith
   have h:=cv (mk:=λd=>gN 0 d true (gw [e0,e1,e2,q,ow ((k.map f).map oD) true,u] 1 [])) (test:=cY) (elt:=cZ) oD Option.isSome (λo=>.val (oD o) true []) (k.map f) λo _=>⟨[vv (oD o) true],rfl,by cases o<;>(simp_arith[cY,jH];rfl),λ_=>by simp_arith[cZ,jH]⟩;have I:=oG (n:=1) (caps:=[]) (asg:=gN 0) (ft:=cY) (fe:=cZ) hv;rw[eF (by rw[TZ,TZ];lia) h,kH,cU,gc (bB _ _ jH)]at I;rw[y9,I,rY,M_ (k.map f) rfl]
  generalize su (k.map f)=m at i x;have fm:=jH m;cases m with
  |none=>have i:o=none:=i;subst i;have e0:oD none=.bn:=rfl;rw[e0]at j x;simp_arith[-gd,-uR,cA,gL,dF,dE,fs,y,A,bj,j,l,E,x,MO]
  |some v=>have i:o=some (1+v):=i;subst i;have e0:oD (some (1+v))=.int (1+v):=rfl;have e1:oD (some v)=.int v:=rfl;rw[e0]at j;rw[e1]at x;have Q:=xx (1+v);have H:(1+v==1+v)=true:=VW.mpr rfl;simp_arith[-gd,-uR,cA,gL,dF,dE,fs,y,A,bj,j,Q,l,E,x,oq,H]
def QP(ns:List Int)(k:Int):sd ns k<2147483648:=by unfold sd;lia
def SE:dR [a,b,c] 0=some a:=(rfl)
def Na(ns:List Int)(H:ns.length<=63):w8 [.lst (ns.map .int)]=.ok (.val (.bl true) true []):=by
 obtain⟨ro,sg,RL,n,ts,es,cs,F,I,s1,s2,j,J,P,K,L⟩:=Ik ns H;obtain⟨t,M,G,T⟩:=B6 F I s1 s2 j (by lia) P;obtain⟨a,w,U,V,N,k⟩:=xt (Fc ns 2) (QP ns 2) F s1 s2;obtain⟨b,d,O,l,e⟩:=M8 (ro:=ro) (sg:=sg) (a:=a) (RL:=RL) (w:=w) (cs:=cs) (λr h=>(j r h).p) (by lia) N (by lia);have k2:=pN ns 2 (by decide);have k3:=pN ns 3 (by decide);have fa:=λ(s:pO)(h:s∈b)=>Fu M G j P (by lia) (by lia) s (by have:=l s h;lia);have W:0<b.length:=Wz.mpr d;have Q:=VU (sd ns 3) (show((b.length:Nat):Int)≠0 by lia);have R:=Vn (sd ns 3) (show(0:Int)<(b.length:Nat) by lia);obtain⟨q,S,m⟩:=yZ Q R;have o:=fa q (Uz m);obtain⟨z,u,v⟩ : ∃z,dR (b.map cr) 0=some (cr z)/\z∈b:=by
  cases b with
  |nil=>exact absurd rfl d
  |cons z X=>exact⟨z,Iw,by simp⟩
 have x:=fa z v;have g:=λy=>jn (f:=true) (al:=[]) (du y);have A:D.bW (ns.map D.int)=true:=bj _;have B:dR (b.map cr) (sd ns 3%((b.map cr).length:Nat))=some (cr q):=by rw[TZ,uX,S];rfl
 have hs:(D.tup [D.int a,D.lst (w.map .int)]).flat=false:=rfl;have C:∀f:Bool,o_ (Hs ro sg RL) (.int 0) f []=.ok (.val (.int ro) true []):=λf=>by unfold Hs;simp_arith[SE]
 have E:∀f:Bool,o_ (Hs ro sg RL) (.int 1) f []=.ok (.val (.int sg) true []):=λf=>by unfold Hs;simp_arith
 have fp:(D.tup [Hs ro sg RL,Mc n ts es,.lst (cs.map .int)]).flat=false:=fK (dF _ _ _);have c:ie [Hs ro sg RL,.tup [.int a,.lst (w.map .int)],.lst (cs.map .int)]=.ok (.val (.lst (b.map cr)) false [3]):=e;have i:(0:Int)<((b.map cr).length:Nat):=by rw[TZ];lia
 simp_arith[w8,Jq,L,A,fp,Ic,Ar,dF,dE,k2,C,E,k,hs,c,Aq,k3,i,Ap,u,B,g z,g q,x,o]
end W
open PySem PySem.W PyProof.Rows
def PySem.W.Vw:PySem.Program:={PySem.Challenge.pw_callwalk_k28_whole_least_falls with main:={PySem.Challenge.pw_callwalk_k28_whole_least_falls.main with body:=PySem.Challenge.pw_callwalk_k28_whole_least_falls.main.body.filter fun s=>match s with|.FunctionDef ..=>true|.ClassDef ..=>true|_=>false}}
local macro_rules | `(tactic| o_head $H) => `(tactic| refine holds_open (q := PySem.W.Vw) (loose := []) (Xt := fun s => xlAt PySem.W.Vw [] s && recOk (RowW.records PySem.Challenge.rw_callwalk_k28_whole_least_falls.row.toRowW) s) (XP := XL PySem.W.Vw []) (Yf := Hook.obs $H) (Ya := Hook.val $H) (YP := Hook.says $H) (N := 3800) (fun w => by kernel_rfl) (Hook.of $H) (Hook.keeps $H) (fun s e => xl_of s (Bool.and_eq_true_iff.mp e).1) XL.keeps (by rfl) (by rfl) (by rfl) (fun s e => recFacts_of (Bool.and_eq_true_iff.mp e).2) (by rfl) (by first | assumption | decide +kernel) (by decide +kernel) ⟨rfl, rfl, rfl, rfl, rfl, by decide +kernel⟩ ?_ ?_)
set_option maxRecDepth 100000 in
set_option maxHeartbeats 0 in
theorem PySem.Challenge.cw_callwalk_k28_whole_least_falls_holds : PySem.Challenge.rw_callwalk_k28_whole_least_falls.Holds := by
 w_on;o_law;k_head;(· w_witness2)
 k_fill
 refine L2.Dn (l:=PySem.Challenge.rw_callwalk_k28_whole_least_falls) (n:=63) (k:=9) (x:="_law_script") (CX:=fun w=>L2.jg) (sp:=fun _=>L3.Rb W.w8) rfl (by decide) rfl ⟨rfl,by decide,by decide⟩ (fun w h Y=>PySem.W.kIn_of Y) ?kL ?F ?S ?C
 case kL=>exact fun w=>⟨by rfl,by rfl⟩
 case F=>
  intro w mg fa h KX G hmg
  refine' Exists.imp (fun _ z=>⟨z.1,fun base _ _=>z.2 base⟩) (W.MN hmg ?_)
  refine' (W.Qw KX G L2.A8 (L4.fk ?_ ?_ ?_) (L4.fk ?_ ?_ ?_) (L4.fk ?_ ?_ ?_) (L4.fk ?_ ?_ ?_) (L4.fk ?_ ?_ ?_) (L4.fk ?_ ?_ ?_) (L4.fk ?_ ?_ ?_) (L4.fk ?_ ?_ ?_) (L4.fk ?_ ?_ ?_) (L4.fk ?_ ?_ ?_) (L4.fk ?_ ?_ ?_) (L4.fk ?_ ?_ ?_) (L4.fk ?_ ?_ ?_) (L4.fk ?_ ?_ ?_) (L4.fk ?_ ?_ ?_) (L4.fk ?_ ?_ ?_) (L4.fk ?_ ?_ ?_) (L4.fk ?_ ?_ ?_) (L4.fk ?_ ?_ ?_) (L4.fk ?_ ?_ ?_) (L4.fk ?_ ?_ ?_) (L4.fk ?_ ?_ ?_) ?_ ?_ ?_ ?_ ?_ ?_ ?_ ?_ ?_ ?_ ?_ ?_ ?_ ⟨?_,?_,?_,?_,?_,?_,?_⟩ ?_ ?_ ⟨?_,?_,?_,?_,?_,?_,?_⟩ ?_ ?_ ?_ ?_ ?_ (L4.mk ?_ ?_ ?_ ?_ ?_) (L4.mk ?_ ?_ ?_ ?_ ?_) (L4.mk ?_ ?_ ?_ ?_ ?_) (L4.mk ?_ ?_ ?_ ?_ ?_) (L4.mk ?_ ?_ ?_ ?_ ?_) (L4.mk ?_ ?_ ?_ ?_ ?_) (L4.mk ?_ ?_ ?_ ?_ ?_) (L4.mk ?_ ?_ ?_ ?_ ?_) (L4.mk ?_ ?_ ?_ ?_ ?_))
  all_goals try k_is
 case S=>exact fun w H a ns hl hS=>L3.K6 (fun ns hn=>⟨_,_,W.Na ns hn⟩) H a ns hl hS
 case C=>exact fun _ _ _ _ _ z=>z
