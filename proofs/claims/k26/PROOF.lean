import PyProof.Rows.All
import Wide.All
import OpenK.AllK
import PySem.Challenge.RW_callwalk_k26_no_run_is_shorter
set_option autoImplicit true
set_option Elab.async false
set_option linter.all false
set_option genSizeOf false
set_option genSizeOfSpec false
set_option compiler.extract_closed false
set_option maxRecDepth 100000
set_option maxHeartbeats 0
set_option bootstrap.genMatcherCode false
noncomputable section
open PySem.W(instObj lookIn plainGet hasDictIn findIn isFn emptyDict keepIn fnOf codeIn kas_ask nsIn)
abbrev KE:=@PySem.wpAny_bind
abbrev tI_:=True.intro
abbrev RW:=@PySem.Heap.get?_push_of_some
abbrev UM:=@PySem.wpAny_pure
abbrev UN:=@Nat.le_refl
abbrev UO:=@List.length_map
abbrev UP:=@if_pos
abbrev UQ:=@List.getElem?_eq_some_iff
abbrev UR:=@List.map_cons
abbrev US:=@List.mem_cons
abbrev UT:=@List.mem_cons_of_mem
abbrev UU:=@PySem.Heap.get?_push_size
abbrev UV:=@if_neg
abbrev UW:=@List.mem_cons_self
abbrev UX:=@PySem.Heap.lt_size
abbrev UY:=@List.mem_map
abbrev UZ:=@List.size_toArray
abbrev U0:=@List.not_mem_nil
abbrev U1:=@List.length_cons
abbrev U2:=@Bool.false_eq_true
abbrev U3:=@List.mem_iff_getElem?
abbrev U4:=@List.mem_append
abbrev U5:=@List.mem_singleton
abbrev U6:=@decide_eq_true
abbrev U7:=@List.getElem?_map
abbrev U8:=@List.pairwise_iff_getElem
abbrev U9:=@Nat.ne_of_lt
abbrev U_:=@decide_eq_false
abbrev Vb:=@List.map_map
abbrev Vc:=@List.length_append
abbrev Vd:=@List.mem_filter
abbrev Ve:=@List.nodup_nil
abbrev Vf:=@Nat.le_trans
abbrev Vg:=@Array.getElem?_toList
abbrev Vh:=@PySem.Heap.get?_update_other
abbrev Vi:=@Bool.and_eq_true
abbrev Vj:=@Nat.lt_of_lt_of_le
abbrev Vk:=@PySem.sizeLine_eq
abbrev Vl:=@PySem.F.plainAttrs_dict
abbrev Vm:=@List.mem_of_getElem?
abbrev Vn:=@List.mem_append_right
abbrev Vo:=@Nat.zero_le
abbrev Vp:=@List.mem_range
abbrev Vq:=@PySem.F.slot_dict_get
abbrev Vr:=@PySem.PassesOwn.never
abbrev Vs:=@List.getElem?_set_self
abbrev Vt:=@PySem.W.mg_none_of
abbrev Vu:=@List.nodup_cons
abbrev Vv:=@PySem.Heap.SameBut.update
abbrev Vw:=@List.mem_append_left
abbrev Vx:=@List.getElem?_set_ne
abbrev Vy:=@PySem.wpAny_call_entry
abbrev Vz:=@PySem.wpAny_newObj_type
abbrev VA:=@Bool.false_ne_true
abbrev VB:=@List.pairwise_cons
abbrev VC:=@List.length_eq_zero_iff
abbrev VD:=@Array.length_toList
abbrev VE:=@PySem.F.slot_dict_setdefault
abbrev VF:=@Option.map_eq_some_iff
abbrev VG:=@List.take_of_length_le
abbrev VH:=@if_false
abbrev VI:=@PySem.wpAny_holding
abbrev VJ:=@List.all_eq_true
abbrev VL:=@Option.some.inj
abbrev VM:=@PyProof.Rows.slot_tuple_getitem
abbrev VN:=@of_decide_eq_true
abbrev VO:=@List.map_append
abbrev VP:=@List.getElem?_eq_getElem
abbrev VQ:=@Nat.lt_of_le_of_lt
abbrev VR:=@PySem.Heap.get?_update_self
abbrev VS:=@List.getElem?_append_right
abbrev VT:=@PySem.F.slot_dict_itemiterator_next
abbrev VU:=@PySem.wpAny_setState_of
abbrev VW:=@PySem.Calls.callWith_builtin
abbrev VX:=@PySem.F.entry_dict_get
abbrev VY:=@Int.emod_lt_of_pos
abbrev VZ:=@PyProof.Rows.callWith_type1
abbrev V0:=@PySem.W.kia_one
abbrev V1:=@List.map_congr_left
abbrev V2:=@Ne.symm
abbrev V3:=@PySem.Calls.spliced_cons
abbrev V4:=@List.getElem?_append_left
abbrev V5:=@PyProof.Rows.F.plain_set_update_loop
abbrev V6:=@Nat.shiftRight_eq_div_pow
abbrev V7:=@PySem.wpAny_truthy_bool
abbrev V8:=@decide_eq_true_eq
abbrev V9:=@PySem.F.slot_list_append
abbrev V_:=@PySem.F.type_list_append
abbrev Wa:=@PySem.F.type_dict_setdefault
abbrev Wb:=@PySem.wpAny_callSpecial?_slot
abbrev Wc:=@PySem.tupleKind_room_in1
abbrev Wd:=@PySem.F.plainAttrs_list
abbrev We:=@Int.eq_ofNat_of_zero_le
abbrev Wf:=@Int.emod_nonneg
abbrev Wg:=@PySem.wpAny_mono
abbrev Wh:=@List.mem_of_mem_take
abbrev Wi:=@Array.getElem?_eq_some_iff
abbrev Wj:=@PySem.mem_of_lookup
abbrev Wl:=@if_true
abbrev Wm:=@List.take_add_one
abbrev Wn:=@List.foldl_append
abbrev Wo:=@congrArg
abbrev Wp:=@Classical.byContradiction
abbrev Wq:=@List.length_nil
abbrev Wr:=@PySem.codeAny_builtin
abbrev Ws:=@List.getElem?_eq_none
abbrev Wt:=@PySem.wpAny_typeNameOfWhole_itemiter
abbrev Wu:=@List.foldl_cons
abbrev Wv:=@List.length_take
abbrev Ww:=@PySem.Calls.evalArgs_plain
abbrev Wx:=@PySem.Around.under_plainId
abbrev Wy:=@Nat.lt_irrefl
abbrev Wz:=@Bool.not_true
abbrev WA:=@Nat.add_sub_cancel_left
abbrev WB:=@List.map_nil
abbrev WC:=@PySem.call_meetsIn
abbrev WD:=@List.Perm.refl
abbrev WE:=@PySem.Calls.spliced_nil
abbrev WF:=@List.find?_cons
abbrev WG:=@List.length_set
abbrev WH:=@Nat.lt_succ_self
abbrev WI:=@PySem.F.plain_min_loop
abbrev WJ:=@PySem.wpAny_Call_Name_kw
abbrev WK:=@List.any_cons
abbrev WL:=@List.take_append_drop
abbrev WM:=@Int.le_trans
abbrev WN:=@PySem.Heap.size_push
abbrev WO:=@PySem.wpAny_typeNameOf_itemiter
abbrev WP:=@PySem.wpAny_passesOwn
abbrev WQ:=@Int.toNat_natCast
abbrev WR:=@List.nodup_append
abbrev WS:=@List.pairwise_map
abbrev WT:=@List.Pairwise.imp_of_mem
abbrev WU:=@Nat.lt_succ_of_lt
abbrev WV:=@beq_eq_false_iff_ne
abbrev WW:=@PySem.F.args_dict_get_2
abbrev WX:=@PySem.F.args_dict_get_3
abbrev WY:=@PySem.plainId_quiet
abbrev WZ:=@List.filter_cons
abbrev W0:=@List.nodup_range
abbrev W1:=@List.lookup_cons
abbrev W2:=@beq_iff_eq
abbrev W3:=@PySem.wpAny_setField_rec
abbrev W4:=@Bool.eq_iff_iff
abbrev W5:=@List.append_nil
abbrev W6:=@PySem.F.type_dict_get
abbrev W7:=@Classical.choose_spec
abbrev W8:=@PySem.Paired.length
abbrev W9:=@PySem.wpAny_pyIter_list
abbrev W_:=@PySem.wpAny_Call_method
abbrev Xa:=@List.append_assoc
abbrev Xb:=@List.flatMap_cons
abbrev Xc:=@Int.fdiv_eq_ediv_of_nonneg
abbrev Xd:=@PySem.Obj.data_mapDictKeys
abbrev Xe:=@List.mem_iff_getElem
abbrev Xf:=@List.length_take_le'
abbrev Xg:=@List.getElem?_zip_eq_some
abbrev Xh:=@PyProof.Rows.F.entry_set_update_loop
abbrev Xi:=@Nat.mul_le_mul
abbrev Xj:=@List.length_drop
abbrev Xk:=@List.filterMap_cons
abbrev Xl:=@PySem.Heap.SameBut.extBut
abbrev Xm:=@List.flatMap_append
abbrev Xn:=@List.length_pos_iff
abbrev Xo:=@Nat.ne_of_gt
abbrev Xp:=@Int.le_of_lt
abbrev Xq:=@List.mem_filterMap
abbrev Xr:=@List.zip_cons_cons
abbrev Xs:=@PySem.wpAny_Call_method0_late
abbrev Xt:=@Nat.lt_or_gt_of_ne
abbrev Xu:=@PySem.W.KasT.kasWp_bind
abbrev Xv:=@PySem.wpAny_updateSeq
abbrev Xw:=@List.getElem?_replicate
abbrev Xx:=@PySem.wpAny_isOneOf_itemiter
abbrev Xy:=@PySem.wpAny_field
abbrev Xz:=@Nat.lt_trichotomy
abbrev XA:=@PySem.wpAny_storeSet_of
abbrev XB:=@bne_self_eq_false
abbrev XC:=@PySem.wpAny_pyIter_slot
abbrev XD:=@List.ext_getElem?
abbrev XE:=@PySem.wpAny_dictEntries
abbrev XF:=@List.length_range
abbrev XG:=@PySem.wpAny_seqItems
abbrev XH:=@Nat.le_of_lt
abbrev XI:=@PySem.codeAny_mono
abbrev XJ:=@List.length_replicate
abbrev XN:=@PySem.wpAny_typeOf
abbrev XO:=@List.length_singleton
abbrev XQ:=@PySem.F.args_dict_setdefault_3
abbrev XR:=@PySem.wpAny_notOrdered_dict
abbrev XS:=@List.set_getElem_self
abbrev XT:=@PySem.wpAny_forIn_list
abbrev XU:=@PySem.F.entry_dict_setdefault
abbrev XW:=@List.eq_nil_of_length_eq_zero
abbrev XX:=@List.mem_of_mem_drop
abbrev XY:=@List.pairwise_append
abbrev XZ:=@Bool.and_self
abbrev X0:=@PySem.wpAny_rule
abbrev X2:=@PySem.wpAny_execs_nil
abbrev X3:=@PySem.W.plainGet_of
abbrev X4:=@Nat.add_le_add_left
abbrev X5:=@Nat.mul_le_mul_left
abbrev X6:=@PySem.W.callWith_K
abbrev X7:=@Prod.ext
abbrev X8:=@Bool.false_and
abbrev X9:=@Bool.and_false
abbrev X_:=@PySem.wpAny_setField
abbrev Ya:=@PySem.wpAny_tryCatch
abbrev Yb:=@PySem.boot_len
abbrev Yc:=@PySem.W.kitx_dict
abbrev Yd:=@Option.isSome_map
abbrev Ye:=@Nat.le_of_lt_succ
abbrev Yf:=@Option.some.injEq
abbrev Yg:=@List.getElem?_inj
abbrev Yh:=@Bool.false_or
abbrev Yi:=@PySem.Moved.trans
abbrev Yj:=@PySem.wpAny_letGo
abbrev Yk:=@Sum.inl.inj
abbrev Yl:=@Sum.inr.inj
abbrev Ym:=@List.sum_cons
abbrev Yn:=@Nat.mul_add
abbrev Yo:=@List.getElem_mem
abbrev Yp:=@decide_eq_decide
abbrev Yq:=@List.perm_middle
abbrev Yr:=@List.mem_flatMap
abbrev Ys:=@Nat.le_of_eq
abbrev Yt:=@Nat.add_comm
abbrev Yu:=@List.all_map
abbrev Yv:=@Nat.mod_lt
abbrev Yw:=@or_false
abbrev Yx:=PySem.Shared
abbrev Yy:=PySem.W.Frag
abbrev Yz:=PySem.Program
abbrev YA:=PySem.Value
abbrev YB:=PySem.Around
def YH(h : True := by rfl) : True := h
def aM:Lean.Syntax:=YH._auto_1
def YC(h : True := by decide) : True := h
def ab:Lean.Syntax:=YC._auto_1
def YF(h : ∀u : Unit, u = u := by intro _; rfl) : True := tI_
def am:Lean.Syntax:=YF._auto_1
def YD(h : True := by first|exact .inl rfl|exact .inr rfl|assumption) : True := h
def ae:Lean.Syntax:=YD._auto_1
def YE(h : True := by first|exact Or.inl rfl|exact Or.inr (Or.inl rfl)|exact Or.inr (Or.inr rfl)) : True := h
def YG(h : True := by intro _ _; rfl) : True := h

namespace L2
open PySem PySem.Spec PyProof.Rows
abbrev bH:=Sum Int Str
noncomputable def lP:bH->YA->Bool
 |.inl k,v=>Value.isInt k v
 |.inr x,v=>Value.isStrOf x v
def Se(w:World):bH->Int
 |.inl k=>hashInt k
 |.inr x=>hashStr w x
def bw:∀{k:bH}{v:YA},lP k v=true->(∃i t,k=Sum.inl i/\v=Value.int i t)\/(∃x t,k=Sum.inr x/\v=Value.str x t)
 |.inl i,v,h=>by obtain⟨t,e⟩:=Value.isInt_shape (k:=i) (v:=v) h;exact .inl ⟨i,t,rfl,e⟩
 |.inr x,v,h=>by obtain⟨t,e⟩:=Value.isStrOf_shape (x:=x) (v:=v) h;exact .inr ⟨x,t,rfl,e⟩
def AS(i:Int)(t:Tok):lP (.inl i) (.int i t)=true:=by simp[lP,Value.isInt]
def AT(x:Str)(t:Tok):lP (.inr x) (.str x t)=true:=by simp[lP,Value.isStrOf]
def Kk(a b:Int):decide ((Sum.inl a:bH)=Sum.inl b)=(a==b):=by grind
def Kl(a b:Str):decide ((Sum.inr a:bH)=Sum.inr b)=decide (a=b):=by grind
def Km(a:Int)(b:Str):decide ((Sum.inl a:bH)=Sum.inr b)=false:=U_ (λq=>nomatch q)
def Kn(a:Str)(b:Int):decide ((Sum.inr a:bH)=Sum.inl b)=false:=U_ (λq=>nomatch q)
def aI(prog:Yz)(w:World):PySem.KeyKind prog w bH where
 is:=lP
 hash:=Se w
 inj:=λv a b ha hb=>by
  rcases bw ha with⟨i,t,rfl,rfl⟩|⟨x,t,rfl,rfl⟩
  .rcases bw hb with⟨j,u,rfl,e⟩|⟨y,u,rfl,e⟩
   .injection e with e1 _;rw[e1]
   .exact nomatch e
  .rcases bw hb with⟨j,u,rfl,e⟩|⟨y,u,rfl,e⟩
   .exact nomatch e
   .injection e with e1 _;rw[e1]
 byValue:=λk v h=>by rcases bw h with⟨i,t,rfl,rfl⟩|⟨x,t,rfl,rfl⟩<;>rfl
 pyHash:=λhv h=>by
  rcases bw hv with⟨i,t,rfl,rfl⟩|⟨x,t,rfl,rfl⟩
  .exact wpAny_pyHash_int h
  .exact wpAny_pyHash_str h
 eqBool:=λhu hv h=>by
  rcases bw hu with⟨i,t,rfl,rfl⟩|⟨x,t,rfl,rfl⟩
  .rcases bw hv with⟨j,u,rfl,rfl⟩|⟨y,u,rfl,rfl⟩
   .rw[Kk]at h;exact wpAny_eqBool_int h
   .rw[Km]at h;exact SeqAt.EqAt.int_str i t y u _ _ _ _ h
  .rcases bw hv with⟨j,u,rfl,rfl⟩|⟨y,u,rfl,rfl⟩
   .rw[Kn]at h;exact SeqAt.EqAt.str_int x t j u _ _ _ _ h
   .rw[Kl]at h;exact wpAny_eqBool_str h
 «strs»:=λk x t v h=>by
  rcases bw h with⟨i,u,rfl,e⟩|⟨y,u,rfl,e⟩
  .exact nomatch e
  .injection e with e1 _;subst e1;cases v<;>rfl
def vG(prog:Yz)(w:World)(i:Int)(t:Tok):(aI prog w).is (.inl i) (.int i t)=true:=AS i t
def vH(prog:Yz)(w:World)(x:Str)(t:Tok):(aI prog w).is (.inr x) (.str x t)=true:=AT x t
inductive V where
 |bv|bl (b:Bool)|int (i:Int)|str (x:Str)|Cm (b:Array UInt8)|J6 (b:UInt64)|ref (a:Addr)|ty (n:String)
 deriving DecidableEq
def RelV:V->YA->Prop
 |.bv,u=>u=Value.none
 |.bl b,u=>u=Value.bool b
 |.int i,u=>∃t,u=Value.int i t
 |.str x,u=>∃t,u=Value.str x t
 |.Cm b,u=>∃t,u=Value.bytes b t
 |.J6 b,u=>∃t,u=Value.float b t
 |.ref a,u=>u=Value.ref a
 |.ty n,u=>u=Value.type n
abbrev Vals:List V->List YA->Prop:=Paired RelV
theorem Vals.length(r:Vals xs us):xs.length=us.length:=W8 r
theorem Vals.get:∀{xs:List V}{us:List YA}{i:Nat}{x:V},Vals xs us->xs[i]?=some x->∃u,us[i]?=some u/\RelV x u
 |_,_,_,_,.nil,e=>by simp at e
 |_,_,0,_,.cons r _,e=>by simp at e;subst e;exact⟨_,rfl,r⟩
 |_,_,i+1,x,.cons _ t,e=>by obtain⟨u,h1,a⟩:=Vals.get (i:=i) (x:=x) t (by simpa using e);exact⟨u,by simpa using h1,a⟩
theorem Vals.append:∀{xs a:List V}{us ws:List YA},Vals xs us->Vals a ws->Vals (xs++a) (us++ws)
 |_,_,_,_,.nil,s=>s
 |_,_,_,_,.cons r t,s=>.cons r (Vals.append t s)
theorem Vals.take:∀{xs:List V}{us:List YA}(n:Nat),Vals xs us->Vals (xs.take n) (us.take n)
 |_,_,0,_=>.nil
 |_,_,_+1,.nil=>.nil
 |_,_,n+1,.cons r t=>.cons r (Vals.take n t)
theorem Vals.drop:∀{xs:List V}{us:List YA}(n:Nat),Vals xs us->Vals (xs.drop n) (us.drop n)
 |_,_,0,r=>r
 |_,_,_+1,.nil=>.nil
 |_,_,n+1,.cons _ t=>Vals.drop n t
def RelO:Option V->Option YA->Prop
 |some v,some u=>RelV v u
 |none,none=>True
 |_,_=>False
def KV{κ:Type}:List (κ×V)->List (κ×YA)->Prop:=Paired λ(p:κ×V)(q:κ×YA)=>p.1=q.1/\RelV p.2 q.2
def kV:bH->V
 |.inl i=>.int i
 |.inr x=>.str x
inductive HO where
  
 |lst (xs:List V)
  
 |tup (xs:List V)
  
 |dK (kvs:List (bH×V))|dT (kvs:List (List bH×V))
  
 |set (S:Int->Bool) (n:Nat)
  
 |ins (C dx:Addr) (fs:List (Str×V))
  
 |own (x:Addr)
  
 |xd (fs:List (Str×V))
  
 |met (f x:Addr)
  
 |TJ (lo hi:Int)
  
 |ba (o:Obj) (u:HO)
  
 |xL (ps:Array YA)
  
 |ext (φ:Heap->Prop)
abbrev Hp:=Addr->Option HO
noncomputable def aP(H:Hp)(a:Addr)(o:HO):Hp:=λb=>if b=a then some o else H b
def ag:aP H a o a=some o:=by unfold aP;rw[UP rfl]
theorem af(h:b≠a):aP H a o b=H b:=by unfold aP;rw[UV h]
def zt:aP (aP H a o) a u=aP H a u:=by funext b;unfold aP;split<;>rfl
def zu{H:Hp}(h:H a=some o)(h':H b=some u)(d:o≠u):a≠b:=by intro e;subst e;rw[h]at h';exact d (VL h')
def av{H:Hp}(h:H a=some o)(h':H b=none):a≠b:=by intro e;subst e;rw[h]at h';cases h'
section
variable(P:Yz)(w:World)
def ObjOk(H:Hp)(h:Heap)(a:Addr):HO->Prop
 |.lst xs=>xs.length<=sizeLine/\∃(its:List YA)(n:Nat),Vals xs its/\h.get? a=some { cls:=.type "list",data:=.seq its.toArray n }
 |.tup xs=>xs.length<=sizeLine/\∃its:List YA,Vals xs its/\IsTup h a its.toArray
 |.dK kvs=>kvs.length<=sizeLine/\(a==sysModules)=false/\∃vs,KV kvs vs/\h.DictOf (aI P w) a vs
 |.dT kvs=>kvs.length<=sizeLine/\(a==sysModules)=false/\∃xs:List (List bH×Addr×YA),
  Paired (λ(p:List bH×V)(q:List bH×Addr×YA)=>p.1=q.1/\H q.2.1=some (.tup (p.1.map kV))/\RelV p.2 q.2.2) kvs xs/\
  ∃o es g,h.get? a=some o/\o.ExactDict/\o.data=.dict es g/\es.toList=xs.map (entryOfKey (tupleKind (aI P w)))/\(xs.map (·.1)).Nodup
 |.set S n=>h.SetOf (intKind P w) a S n
 |.ins C c fs=>H c=some (.own a)/\fs.length<=1000/\c≠a/\h.get? a=some (instObj C c)/\
  ∃b,h.Ns1 c b/\(∀f,RelO (fs.lookup f) (b f))/\PySem.Within b (fs.map (·.1))
 |.own _=>∃o,h.get? a=some o
 |.xd fs=>∃b,h.Ns1 a b/\∀f,RelO (fs.lookup f) (b f)
 |.TJ lo i=>∃t u v,h.get? a=some { cls:=.type "range",data:=.fields #[.int lo t,.int i u,.int 1 v] }
 |.ba o u=>h.get? a=some o/\ObjOk H h a u
 |.xL ps=>h.get? a=some {cls:=.none,data:=.fields ps}
 |.met f x=>h.get? a=some (PySem.W.methodObj (.ref f) (.ref x))
 |.ext d=>d h/\(∃o,h.get? a=some o)/\∀h1 e:Heap,d h1->(∀o,h1.get? a=some o->e.get? a=some o)->d e
def HOk(H:Hp)(h:Heap):Prop:=∀a o,H a=some o->ObjOk P w H h a o
end
section
theorem ObjOk.lt(x:ObjOk P w H h a o):a<h.objs.size:=by
 cases o with
 |lst xs=>obtain⟨_,_,_,_,e⟩:=x;exact UX e
 |tup xs=>obtain⟨_,_,_,p⟩:=x;exact p.lt
 |dK kvs=>obtain⟨_,_,_,_,o,_,_,e,_⟩:=x;exact UX e
 |dT kvs=>obtain⟨_,_,_,_,o,_,_,e,_⟩:=x;exact UX e
 |set S n=>obtain⟨o,_,_,_,e,_⟩:=x;exact UX e
 |ins C b fs=>obtain⟨_,_,_,e,_⟩:=x;exact UX e
 |own y=>obtain⟨_,e⟩:=x;exact UX e
 |xd fs=>obtain⟨_,⟨_,_,_,e,_⟩,_⟩:=x;exact UX e
 |TJ lo c=>obtain⟨_,_,_,e⟩:=x;exact UX e
 |ba d u=>obtain⟨e,_⟩:=x;exact UX e
 |xL ps=>exact UX (show h.get? a=some _ from x)
 |met f y=>exact UX (show h.get? a=some _ from x)
 |ext g=>obtain⟨_,⟨_,e⟩,_⟩:=x;exact UX e
def Paired.NT{α e:Type}{F G:α->e->Prop}{c:List α}{d:List e}(h:Paired F c d)(f:∀a b,F a b->G a b):Paired G c d:=by
 induction h with
 |nil=>exact .nil
 |cons r _ g=>exact .cons (f _ _ r) g
def ObjOk.stay(x:ObjOk P w H h a o)(k:∀b u,(b=a\/H b=some (.own a))->h.get? b=some u->h'.get? b=some u)
 (l:∀b,H b=some (.own a)->H' b=some (.own a)) (m:∀b xs,H b=some (.tup xs)->H' b=some (.tup xs)):ObjOk P w H' h' a o:=by
 induction o with
 |lst xs=>obtain⟨z,its,n,r,e⟩:=x;exact⟨z,its,n,r,k _ _ (.inl rfl) e⟩
 |tup xs=>obtain⟨z,its,r,g,e,c⟩:=x;exact⟨z,its,r,g,k _ _ (.inl rfl) e,c⟩
 |dK kvs=>obtain⟨z,y,vs,r,g,es,i,e,c⟩:=x;exact⟨z,y,vs,r,g,es,i,k _ _ (.inl rfl) e,c⟩
 |dT kvs=>obtain⟨z,y,xs,r,g,es,i,e,c⟩:=x;exact⟨z,y,xs,Paired.NT r λp q z=>⟨z.1,m _ _ z.2.1,z.2.2⟩,g,es,i,k _ _ (.inl rfl) e,c⟩
 |set S n=>obtain⟨g,es,i,t,e,c⟩:=x;exact⟨g,es,i,t,k _ _ (.inl rfl) e,c⟩
 |ins C A fs=>obtain⟨d,z,ne,e,j,⟨od,es,i,e2,c⟩,r⟩:=x;exact⟨l _ d,z,ne,k _ _ (.inl rfl) e,j,⟨od,es,i,k _ _ (.inr d) e2,c⟩,r⟩
 |own y=>obtain⟨g,e⟩:=x;exact⟨g,k _ _ (.inl rfl) e⟩
 |xd fs=>obtain⟨j,⟨od,es,i,e,c⟩,r⟩:=x;exact⟨j,⟨od,es,i,k _ _ (.inl rfl) e,c⟩,r⟩
 |TJ lo B=>obtain⟨t,u,v,e⟩:=x;exact⟨t,u,v,k _ _ (.inl rfl) e⟩
 |ba g u s=>obtain⟨e,q⟩:=x;exact⟨k _ _ (.inl rfl) e,s q⟩
 |xL ps=>have e:h.get? a=some {cls:=.none,data:=.fields ps}:=x;show h'.get? a=some {cls:=.none,data:=.fields ps};exact k a _ (.inl rfl) e
 |met f y=>have e:h.get? a=some (PySem.W.methodObj (.ref f) (.ref y)):=x;show h'.get? a=some (PySem.W.methodObj (.ref f) (.ref y));exact k a _ (.inl rfl) e
 |ext D=>obtain⟨p,⟨o,e⟩,st⟩:=x;exact⟨st _ _ p λo q=>k _ _ (.inl rfl) q,⟨o,k _ _ (.inl rfl) e⟩,st⟩
theorem HOk.lt(x:HOk P w H h)(e:H a=some o):a<h.objs.size:=(x a o e).lt
def HOk.fresh(x:HOk P w H h)(e:h.objs.size<=a):H a=none:=by
 cases q:H a with
 |none=>rfl
 |some u=>exact absurd (Vj (x.lt q) e) (Wy _)
def HOk.kept(x:HOk P w H h)(k:∀b u,h.get? b=some u->h'.get? b=some u):HOk P w H h':=λa o e=>(x a o e).stay (λb u _ q=>k b u q) (λ_ q=>q) λ_ _ q=>q
def HOk.laid(x:HOk P w H h)(k:∀b u,h.get? b=some u->h'.get? b=some u)(g:h.objs.size<=a)(new:ObjOk P w (aP H a o) h' a o):HOk P w (aP H a o) h':=λb u e=>by
 have d:=x.fresh g;by_cases f:b=a
 .subst f;rw[ag]at e;cases e;exact new
 .rw[af f]at e;exact(x b u e).stay (λc v _ q=>k c v q) (λc q=>by rw[af (av q d)];exact q) λc xs q=>by rw[af (av q d)];exact q
end
def Rd(H:Hp)(a:Addr)(u:HO):Prop:=H a=some u\/∃o,H a=some (.ba o u)
def Rd.ok(r:Rd H a u)(x:HOk P w H h):ObjOk P w H h a u:=by
 rcases r with r|⟨o,r⟩
 .exact x a u r
 .obtain⟨_,q⟩:=x a _ r;exact q
def N1:Option HO->Prop
 |some (.lst _)=>True
 |some (.dK _)=>True
 |some (.dT _)=>True
 |some (.set _ _)=>True
 |some (.ins _ _ _)=>True
 |some (.ext _)=>True
 |_=>False
section
def HOk.write(ok:HOk P w H h)(mu:N1 (H x))(m:e=x\/H e=some (.own x))(k:∀b u,b≠e->h.get? b=some u->h'.get? b=some u)(f:∃u,h'.get? e=some u)
 (new:ObjOk P w (aP H x o') h' x o'):HOk P w (aP H x o') h':=λb u q=>by
 have a:∀c y,H c=some (.own y)->c≠x:=λc y r z=>by subst z;rw[r]at mu;exact mu
 have d:∀c xs,H c=some (.tup xs)->c≠x:=λc xs r z=>by subst z;rw[r]at mu;exact mu
 by_cases i:b=x
 .subst i;rw[ag]at q;cases q;exact new
 .rw[af i]at q;by_cases g:b=e
  .have j:H b=some (.own x):=by
    grind
   rw[q]at j;cases j;obtain⟨v,l⟩:=f;exact⟨v,by rw[g];exact l⟩
  .refine(ok b u q).stay (λc v n r=>k c v ?_ r) (λc r=>by rw[af (a c b r)];exact r) λc xs r=>by rw[af (d c xs r)];exact r
   grind
end
def Qt(H:Hp)(b:Addr):Prop:=H b=none\/∃xs,H b=some (.tup xs)
structure Un(fs ex:List Addr) (H H':Hp) (h h':Heap):Prop where
 keep:∀b o,h.get? b=some o->Qt H b->b∉fs->b∉ex->h'.get? b=some o
 slot:∀b o,h.get? b=some o->H b=none->b∈fs->b∉ex->∃sl,h'.get? b=some {o with slots:=sl}
 free:∀b o,h.get? b=some o->H b=none->b∉ex->H' b=none
 there:∀b o,h.get? b=some o->b∉ex->∃o',h'.get? b=some o'
 rV:∀b xs,H b=some (.tup xs)->H' b=some (.tup xs)
 pL:∀b o u,H b=some (.ba o u)->H' b=some (.ba o u)
 xT:∀b ps,H b=some (.xL ps)->∃more,H' b=some (.xL (ps++more))
section
def Un.any(u:Un fs ex H H1 h h1)(q:h.get? b=some ob)(n:H b=none)(a:b∉ex):∃sl,h1.get? b=some {ob with slots:=sl}:=by
 by_cases c:b∈fs
 .exact u.slot b ob q n c a
 .exact⟨ob.slots,u.keep b ob q (.inl n) c a⟩
def Un.kept(k:∀b u,h.get? b=some u->h'.get? b=some u):Un fs ex H H h h':=⟨λb a q _ _ _=>k b a q,λb a q _ _ _=>⟨a.slots,k b a q⟩,λ_ _ _ n _=>n,λb a q _=>⟨a,k b a q⟩,λ_ _ q=>q,λ_ _ _ q=>q,λ_ ps q=>⟨#[],by rw[q];simp⟩⟩
def Un.refl:Un fs ex H H h h:=Un.kept λ_ _ q=>q
def Un.laid(k:∀b u,h.get? b=some u->h'.get? b=some u)(hp:h.objs.size<=a)(hn:H a=none):Un fs ex H (aP H a o) h h' where
 keep:=λb u q _ _ _=>k b u q
 slot:=λb u q _ _ _=>⟨u.slots,k b u q⟩
 free:=λb u q n _=>by rw[af (U9 (Vj (UX q) hp))];exact n
 there:=λb u q _=>⟨u,k b u q⟩
 rV:=λb xs q=>by rw[af (av q hn)];exact q
 pL:=λb u xs q=>by rw[af (av q hn)];exact q
 xT:=λb ps q=>⟨#[],by rw[af (av q hn),q];simp⟩
def Un.write(mu:N1 (H x))(i:e=x\/H e=some (.own x))(k:∀b u,b≠e->h.get? b=some u->h'.get? b=some u)(c:∃u,h'.get? e=some u):Un fs ex H (aP H x o) h h':=by
 have j:∀b,H b=none->b≠x:=λb n z=>by subst z;rw[n]at mu;exact mu
 have f:∀b,H b=none->b≠e:=λb n z=>by grind
 have d:∀b u,H b=some u->¬N1 (some u)->b≠x:=λb u q l z=>by subst z;rw[q]at mu;exact l mu
 refine⟨λb u q n _ _=>k b u (n.elim (f b) λ⟨xs,g⟩ z=>by rcases i with r|r;(·rw[<- r,<- z,g]at mu;exact mu);(·rw[<- z,g]at r;cases r)) q,λb u q n _ _=>⟨u.slots,k b u (f b n) q⟩,λb u q n _=>by rw[af (j b n)];exact n,λb u q _=>?_,
  λb xs q=>by rw[af (d b _ q λz=>z)];exact q,λb u xs q=>by rw[af (d b _ q λz=>z)];exact q,λb ps q=>⟨#[],by rw[af (d b _ q λz=>z),q];simp⟩⟩
 by_cases a:b=e
 .subst a;exact c
 .exact⟨u,k b u a q⟩
end
noncomputable def RT(h:Heap)(H:Hp):List Addr:=(List.range h.objs.size).filter λa=>(H a).isSome
def vI(h:Heap)(H:Hp):Heap:=PySem.W.hideAll h (RT h H)
def AU(h:Heap)(H:Hp):(vI h H).objs.size=h.objs.size:=PySem.W.hideAll_size _ _
def vJ(e:h.get? b=some o)(n:H b=none):(vI h H).get? b=some o:=PySem.W.hideAll_get _ e λa=>by have q:(H b).isSome=true:=(Vd.mp a).2;rw[n]at q;simp at q
def F9(e:(vI h H).get? b=some o):h.get? b=some o/\H b=none:=by
 have a:h.get? b=some o:=PySem.W.of_hideAll (RT h H) e;refine⟨a,?_⟩;cases q:H b with
 |none=>rfl
 |some x=>have c:b∈RT h H:=Vd.mpr ⟨Vp.mpr (UX a),by simp[q]⟩;have z:(vI h H).get? b=none:=PySem.W.hideAll_none (RT h H) c;rw[z]at e;cases e
noncomputable def F_(g h:Heap)(L:Addr):List (Addr×Obj):=(List.range h.objs.size).filterMap λa=>if a=L\/(g.get? a).isSome=true then none else(h.get? a).map λo=>(a,o)
def rest(g h:Heap)(L d:Addr):List (Addr×Obj):=(F_ g h L).filter λp=>decide (p.1≠d)
noncomputable def Uc:YA->V
 |.str x _=>.str x
 |.ref a=>.ref a
 |_=>.bv
def Ko(o:Obj):Option (Addr×List V):=match o.cls with
 |.type n=>if n=="kt" then(match o.data with
  |.seq its _=>(match its.toList with
   |.ref a::r=>some (a,r.map Uc)
   |_=>none)
  |_=>none)else none
 |_=>none
def Sf(K:Yy)(H:Hp):Prop:=∀p∈K,∀a xs,Ko p.2=some (a,xs)->H a=some (.tup xs)
structure Mod(K:Yy) (mg:Str->Option YA) (base:Heap):Prop where
 mD:K.In base
 glob:base.Ns mainGlobals mg
 blt:∃mb,base.Ns builtinsNs mb/\∀x:Str,x≠"__name__"->mb x=bootBuiltins x
 nolimit:base.NoLimit
structure Cx where
 prog:Yz
 w:World
 K:Yy
 mg:Str->Option YA
 base:Heap
 A:YB
 N:List Str
 s₀:Yx
 H₀:Hp
 env:Env
 outer:List Env
 stack:List Env
 ex:List Addr
 fn:Str->Bool
 calm:Bool
 pn:List (Addr×Obj)
 xe:YA->Yx->Prop
abbrev wX(X:Cx){α:Type}(m:Sem α):(α->Yx->Prop)->(YA->Yx->Prop)->Yx->Prop:=wpAny (model X.prog X.w) X.A m
abbrev sE(X:Cx)(e:Expr)(es:List Expr):Prop:=starEach (e::es) X.env=(false,eval e X.env)::starEach es X.env
abbrev bT(X:Cx)(p:Pos)(es:List Expr):Prop:=(backTo p (starEach es X.env)).any (·.1)=false
abbrev dB(x:Str):Prop:=(x==("__debug__" : Str))=false
noncomputable def Cw(l:List Env):List Addr:=l.filterMap (·.frame)
abbrev Cx.fs(X:Cx):List Addr:=Cw X.outer
def RU(a:Scope)(x:Str):Prop:=a.names.lookup x=some .local\/a.names.lookup x=some .cell\/a.names.lookup x=some .free
def Kp(a:Scope)(x:Str):Prop:=a.names.lookup x=some .local\/a.names.lookup x=some .cell
def Sg(env:Env)(h:Heap)(m:Str->Option YA)(x:Str)(u:YA):Prop:=(env.kindOf x=some .local/\m x=some u)\/((env.kindOf x=some .cell\/env.kindOf x=some .free)/\∃c,env.cells.lookup x=some c/\h.IsCell c (some u))
structure Cx.Ok(X:Cx):Prop where
 mod:Mod X.K X.mg X.base
 kind:X.env.scope.kind=.function
 glob:X.env.globals=mainGlobals
 blt:X.env.builtins=builtinsNs
 above:X.s₀.heap.objs.size<=X.env.locals
 inj:∀x y c,X.env.cells.lookup x=some c->X.env.cells.lookup y=some c->x=y
 has:∀x,(X.env.kindOf x=some .cell\/X.env.kindOf x=some .free)->∃c,X.env.cells.lookup x=some c
 Oh:∀x c,X.fn x=true->X.env.cells.lookup x=some c->X.s₀.heap.objs.size<=c
 hd:X.calm=true->X.A.handled=none
 frames:X.A.frames=some X.stack
 RI:X.stack=X.outer\/(X.stack=X.env::X.outer/\X.env.frame=some X.env.locals)
 TL:∀b∈X.ex,b≠X.env.locals/\∀x c,X.env.cells.lookup x=some c->c≠b
 bs:∀b o,X.base.get? b=some o->X.s₀.heap.get? b=some o/\X.H₀ b=none
 F5:X.base.objs.size<=X.s₀.heap.objs.size
 Cq:∀b o,X.base.get? b=some o->b∉X.ex
 FW:∀b∈X.ex,b∉X.fs
 oY:X.s₀.heap.FunFrames X.base X.outer
 J3:∀b∈X.fs,X.H₀ b=none
 kt:Sf X.K X.H₀
structure Inv(X:Cx) (ac:List (Addr×Obj)) (σ:List (Option V)) (H:Hp) (s:Yx):Prop where
 ok:X.Ok
 os:s.os=X.s₀.os
 bare:AllBare s.gens
 base:Un X.fs X.ex X.H₀ H X.s₀.heap s.heap
 loc:∃m,s.heap.Ns X.env.locals m/\∀(i:Nat)(x:Str)(v:V),X.N[i]?=some x->σ[i]?=some (some v)->RU X.env.scope x->∃u,RelV v u/\Sg X.env s.heap m x u
 cell:∀x c,X.env.cells.lookup x=some c->∃v,s.heap.IsCell c v
 free:H X.env.locals=none
 jo:∀x c,X.env.cells.lookup x=some c->H c=none
 pin:∀p∈X.pn++ac,s.heap.get? p.1=some p.2/\H p.1=none/\p.1≠X.env.locals/\p.1∉X.fs/\∀v,p.2.data≠.cell v
 aU:HOk X.prog X.w H s.heap
 len:σ.length=X.N.length
section
variable{X:Cx}{ac:List (Addr×Obj)}{σ:List (Option V)}{H H':Hp}{s:Yx}
def Cx.Ok.TF(ok:X.Ok)(e:X.base.get? b=some o):b∉X.fs:=λa=>by have:=(ok.oY.mem a).1;rw[e]at this;cases this
theorem Inv.bs(I:Inv X ac σ H s):∀b o,X.base.get? b=some o->s.heap.get? b=some o/\H b=none:=λb o e=>⟨I.base.keep b o (I.ok.bs b o e).1 (.inl (I.ok.bs b o e).2) (I.ok.TF e) (I.ok.Cq b o e),I.base.free b o (I.ok.bs b o e).1 (I.ok.bs b o e).2 (I.ok.Cq b o e)⟩
theorem Inv.kt(I:Inv X ac σ H s):Sf X.K H:=λp b a xs e=>I.base.rV a xs (I.ok.kt p b a xs e)
def Inv.bk(I:Inv X ac σ H s):∀b o,X.base.get? b=some o->s.heap.get? b=some o:=λb o e=>(I.bs b o e).1
theorem Inv.mod(I:Inv X ac σ H s):Mod X.K X.mg X.base:=I.ok.mod
def Inv.o5(I:Inv X ac σ H s):X.K.In s.heap:=I.ok.mod.mD.keeps I.bk
theorem Inv.lt(I:Inv X ac σ H s):X.env.locals<s.heap.objs.size:=let ⟨_,a,_⟩:=I.loc;a.lt
def Inv.sz(I:Inv X ac σ H s):X.s₀.heap.objs.size<=s.heap.objs.size:=Vf I.ok.above (XH I.lt)
def Inv.TU(I:Inv X ac σ H s)(h:s.heap.objs.size<=a):a∉X.fs:=λb=>by obtain⟨_,o,c,_⟩:=I.ok.oY.mem b;exact absurd (Vj (UX c) (Vf I.sz h)) (Wy _)
def Inv.NZ(I:Inv X ac σ H s):∀x c,X.env.cells.lookup x=some c->c≠X.env.locals:=λx c e z=>by obtain⟨v,o,d,hd⟩:=I.cell x c e;obtain⟨m,⟨f,es,g,a,b,_⟩,_⟩:=I.loc;rw[z,a]at d;cases d;rw[b]at hd;cases hd
theorem Inv.oY(I:Inv X ac σ H s):s.heap.FunFrames X.base X.outer:=by
 have all:∀(l:List Env),(∀b∈Cw l,b∈X.fs)->X.s₀.heap.FunFrames X.base l->s.heap.FunFrames X.base l:=by
  intro l;induction l with
  |nil=>intro _ _;trivial
  |cons env r f=>intro hs g;obtain⟨h,⟨L,o,a,i,j,hd⟩,k⟩:=g;have c:L∈X.fs:=hs L (by unfold Cw;rw[Xk,a];exact UW);obtain⟨sl,e⟩:=I.base.slot L o j (I.ok.J3 L c) c λz=>I.ok.FW L z c;exact⟨h,⟨L,_,a,i,e,hd⟩,f (λb d=>hs b (by unfold Cw;rw[Xk,a];exact UT _ d)) k⟩
 exact all X.outer (λ_ d=>d) I.ok.oY
theorem Inv.stack(I:Inv X ac σ H s):s.heap.FunFrames X.base X.stack:=by
 rcases I.ok.RI with e|⟨e,a⟩
 .rw[e];exact I.oY
 .rw[e];obtain⟨m,b,_⟩:=I.loc;refine .cons (by rw[I.ok.kind];decide) a b ?_ I.oY;exact Heap.get?_none_of_le (Vf I.ok.F5 I.ok.above)
def Inv.vz(I:Inv X ac σ H s):∀b∈Cw X.stack,b∈X.env.locals::X.fs:=λb a=>by
 rcases I.ok.RI with e|⟨e,c⟩
 .rw[e]at a;exact UT _ a
 .rw[e]at a;unfold Cw at a;rw[Xk,c]at a;exact a
def Inv.AQ(I:Inv X ac σ H s):∀b∈Cw X.stack,H b=none:=λb hb=>by
 rcases US.mp (I.vz b hb)with e|hb
 .rw[e];exact I.free
 .obtain⟨_,o,a,_⟩:=I.ok.oY.mem hb;exact I.base.free b o a (I.ok.J3 b hb) λz=>I.ok.FW b z hb
def Inv.step{d':Drawn}{ch:List Addr}(I:Inv X ac σ H s)
 (f:∀b∈ch,(b∈X.ex\/X.s₀.heap.objs.size<=b)/\b≠X.env.locals/\(∀x c,X.env.cells.lookup x=some c->c≠b)/\∀p∈X.pn++ac,p.1≠b)
 (keep:∀b o,b≠X.env.locals->b∉X.fs->b∉ch->s.heap.get? b=some o->Qt H b->h'.get? b=some o)
 (slot:∀b o,b≠X.env.locals->b∈X.fs->b∉ch->s.heap.get? b=some o->H b=none->∃sl,h'.get? b=some {o with slots:=sl}) (free:∀b o,b∉ch->s.heap.get? b=some o->H b=none->H' b=none)
 (there:∀b o,b∉ch->s.heap.get? b=some o->∃A,h'.get? b=some A)
 (rV:∀b xs,H b=some (.tup xs)->H' b=some (.tup xs)) (pL:∀b o u,H b=some (.ba o u)->H' b=some (.ba o u)) (xT:∀b ps,H b=some (.xL ps)->∃more,H' b=some (.xL (ps++more)))
 (ns:∀m,s.heap.Ns X.env.locals m->h'.Ns X.env.locals m) (aU:HOk X.prog X.w H' h') (G:AllBare g') :
 Inv X ac σ H' {s with heap:=h',gens:=g',drawn:=d',toks:=t'}:=by
 have B:∀b o,X.s₀.heap.get? b=some o->b≠X.env.locals:=λb o e=>U9 (Vj (UX e) I.ok.above);have j:∀b o,X.s₀.heap.get? b=some o->b∉X.ex->b∉ch:=λb o e a t=>by
  rcases(f b t).1 with z|z
  .exact a z
  .exact absurd (Vj (UX e) z) (Wy _)
 have g:∀x c,X.env.cells.lookup x=some c->∀v,s.heap.IsCell c v->h'.IsCell c v:=λx c e v ⟨o,y,hd⟩=>by
  have h:c∉ch:=λz=>(f c z).2.2.1 x c e rfl;by_cases D:c∈X.fs
  .obtain⟨sl,q⟩:=slot c o (I.NZ x c e) D h y (I.jo x c e);exact⟨_,q,hd⟩
  .exact⟨o,keep c o (I.NZ x c e) D h y (.inl (I.jo x c e)),hd⟩
 refine⟨I.ok,I.os,G,⟨λb o e n t a=>?_,λb o e n t a=>?_,λb o e n a=>?_,λb o e a=>?_,λb xs e=>rV b xs (I.base.rV b xs e),λb o xs e=>pL b o xs (I.base.pL b o xs e),λb ps e=>?_⟩,?_,λx c e=>?_,?_,λx c e=>?_,λp E=>?_,aU,I.len⟩
 .exact keep b o (B b o e) t (j b o e a) (I.base.keep b o e n t a) (n.imp (λn=>I.base.free b o e n a) λ⟨xs,q⟩=>⟨xs,I.base.rV b xs q⟩)
 .obtain⟨sl,e1⟩:=I.base.slot b o e n t a;obtain⟨C,e2⟩:=slot b _ (B b o e) t (j b o e a) e1 (I.base.free b o e n a);exact⟨C,e2⟩
 .obtain⟨A,e1⟩:=I.base.there b o e a;exact free b A (j b o e a) e1 (I.base.free b o e n a)
 .obtain⟨A,e1⟩:=I.base.there b o e a;exact there b A (j b o e a) e1
 .obtain⟨L,e1⟩:=I.base.xT b ps e
  grind
 .obtain⟨m,J,K⟩:=I.loc;refine⟨m,ns m J,λi x v e1 e2 e3=>?_⟩;obtain⟨u,r,l⟩:=K i x v e1 e2 e3;refine⟨u,r,?_⟩;rcases l with l|⟨k,c,e,z⟩
  .exact .inl l
  .exact .inr ⟨k,c,e,g x c e _ z⟩
 .obtain⟨v,z⟩:=I.cell x c e;exact⟨v,g x c e v z⟩
 .obtain⟨m,⟨o,_,_,y,_⟩,_⟩:=I.loc;exact free _ o (λz=>(f _ z).2.1 rfl) y I.free
 .obtain⟨v,o,y,hd⟩:=I.cell x c e;exact free c o (λz=>(f c z).2.2.1 x c e rfl) y (I.jo x c e)
 .obtain⟨e,n,ne,F,d⟩:=I.pin p E;have h:p.1∉ch:=λz=>(f p.1 z).2.2.2 p E rfl;exact⟨keep p.1 p.2 ne F h e (.inl n),free p.1 p.2 h e n,ne,F,d⟩
def Inv.un{t':Nat}(I:Inv X ac σ H s)(u:Un X.fs [] H H' s.heap h')(aU:HOk X.prog X.w H' h'):Inv X ac σ H' {s with heap:=h',toks:=t'}:=by obtain⟨m,⟨o,es,k,g,r⟩,_⟩:=id I.loc;obtain⟨sl,h⟩:=u.any g I.free (by simp);exact I.step (g':=s.gens) (d':=s.drawn) (ch:=[]) (λ_ z=>nomatch z) (λb o _ c _ e n=>u.keep b o e n c (by simp)) (λb o _ c _ e n=>u.slot b o e n c (by simp)) (λb o _ e n=>u.free b o e n (by simp)) (λb o _ e=>u.there b o e (by simp)) u.rV u.pL u.xT (λm' i=>by obtain⟨l,d,f,a,j⟩:=i;rw[g]at a;cases a;exact⟨_,d,f,h,j⟩) aU I.bare
def Inv.call{d':Drawn}{ch:List Addr}(I:Inv X ac σ H s)(u:Un (Cw X.stack) ch H H' s.heap h')(aU:HOk X.prog X.w H' h')(k:AllBare g')
 (d:∀b∈ch,(b∈X.ex\/X.s₀.heap.objs.size<=b)/\b≠X.env.locals/\(∀x c,X.env.cells.lookup x=some c->c≠b)/\∀p∈X.pn++ac,p.1≠b) :
 Inv X ac σ H' {s with heap:=h',gens:=g',drawn:=d',toks:=t'}:=by
 obtain⟨m,⟨o,es,v,j,r⟩,_⟩:=id I.loc;obtain⟨sl,g⟩:=u.any j I.free λz=>(d _ z).2.1 rfl;exact I.step (ch:=ch) d (λb o g l a e n=>u.keep b o e n (λz=>(US.mp (I.vz b z)).elim g l) a) (λb o _ _ a e n=>u.any e n a) (λb o a e n=>u.free b o e n a) (λb o a e=>u.there b o e a) u.rV u.pL u.xT (λm' q=>by obtain⟨y,h,i,f,t⟩:=q;rw[j]at f;cases f;exact⟨_,h,i,g,t⟩) aU k
def Inv.turned{it:Addr}(I:Inv X ac σ H s)(k:∀b o,b≠it->s.heap.get? b=some o->h'.get? b=some o)(g:H it=none)(f:it≠X.env.locals)
 (h1:it∈X.ex\/X.s₀.heap.objs.size<=it) (h:∀x c,X.env.cells.lookup x=some c->c≠it) (i:∀p∈X.pn++ac,p.1≠it):Inv X ac σ H {s with heap:=h',toks:=t'}:=by
 have d:∀b u,H b=some u->b≠it:=λb u e z=>by rw[z,g]at e;cases e
 refine I.step (g':=s.gens) (d':=s.drawn) (ch:=[it]) (λb j=>?_) (λb o _ _ a e _=>k b o (λz=>a (by simp[z])) e) (λb o _ _ a e _=>⟨o.slots,k b o (λz=>a (by simp[z])) e⟩) (λ_ _ _ _ n=>n)
  (λb o a e=>⟨o,k b o (λz=>a (by simp[z])) e⟩) (λ_ _ e=>e) (λ_ _ _ e=>e) (λb ps e=>⟨#[],by rw[e];simp⟩) (λm l=>?_) (λb u e=>?_) I.bare
 .have e:b=it:=by simpa using j
  subst e;exact⟨h1,f,h,i⟩
 .obtain⟨o,es,t,w,r⟩:=l;exact⟨o,es,t,k _ o (V2 f) w,r⟩
 .refine(I.aU b u e).stay (λc v a q=>k c v ?_ q) (λ_ q=>q) λ_ _ q=>q;rcases a with z|z
  .rw[z];exact d b u e
  .exact d c _ z
def Inv.tok(I:Inv X ac σ H s)(t:Nat):Inv X ac σ H {s with toks:=t}:=I.un (h':=s.heap) (t':=t) Un.refl I.aU
theorem Inv.kept(I:Inv X ac σ H s)(k:∀b u,s.heap.get? b=some u->h'.get? b=some u):Inv X ac σ H {s with heap:=h',toks:=t'}:=I.un (Un.kept k) (I.aU.kept k)
theorem Inv.laid(I:Inv X ac σ H s)(k:∀b u,s.heap.get? b=some u->h'.get? b=some u)(c:s.heap.objs.size<=a)(new:ObjOk X.prog X.w (aP H a o) h' a o) :
 Inv X ac σ (aP H a o) {s with heap:=h',toks:=t'}:=I.un (Un.laid k c (I.aU.fresh c)) (I.aU.laid k c new)
theorem Inv.write(I:Inv X ac σ H s)(mu:N1 (H x))(c:e=x\/H e=some (.own x))(k:∀b u,b≠e->s.heap.get? b=some u->h'.get? b=some u)(a:∃u,h'.get? e=some u)
 (new:ObjOk X.prog X.w (aP H x o) h' x o):Inv X ac σ (aP H x o) {s with heap:=h',toks:=t'}:=I.un (Un.write mu c k a) (I.aU.write mu c k a new)
def Inv.AR(I:Inv X ac σ H s)(h:∀p∈pins',s.heap.get? p.1=some p.2/\H p.1=none/\p.1≠X.env.locals/\p.1∉X.fs/\∀v,p.2.data≠.cell v):Inv X pins' σ H s:=⟨I.ok,I.os,I.bare,I.base,I.loc,I.cell,I.free,I.jo,λp a=>(U4.mp a).elim (λz=>I.pin p (Vw _ z)) (h p),I.aU,I.len⟩
def vK{N:List Str}(c:N.Nodup){i j:Nat}{x:Str}(a:N[i]?=some x)(b:N[j]?=some x):i=j:=by obtain⟨h1,e1⟩:=UQ.mp a;obtain⟨d,e2⟩:=UQ.mp b;exact(List.getElem_inj c).mp (e1.trans e2.symm)
def sQ{E:YA->Yx->Prop}{x:Str}{v:V}{u:YA}{Q:Unit->Yx->Prop}(I:Inv X ac σ H s)(hN:X.N.Nodup)(F:X.N[i]?=some x)(g:Kp X.env.scope x)(r:RelV v u)
 (h:∀O,Inv X ac (σ.set i (some v)) H O->(∃a,Heap.SameBut a s.heap O.heap/\(a=X.env.locals\/X.env.cells.lookup x=some a))->Q () O) (hf:autoParam (X.fn x=true\/X.env.scope.names.lookup x=some .local) ae):wpAny M A (storeName X.env x u) Q E s:=by
 obtain⟨m,P,hl⟩:=id I.loc;have G:(X.env.scope.kind==.class ||(X.env.scope.kind==.module&&X.env.locals != X.env.globals))=false:=by rw[I.ok.kind];rfl
 have t:i<σ.length:=by rw[I.len];exact(UQ.mp F).1
 have NZ:=I.NZ;have f:∀{a:Addr}{h':Heap},(∃o,s.heap.get? a=some o/\H a=none)->Heap.SameBut a s.heap h'->HOk X.prog X.w H h':=λ{a h'} ha hs b ob e=>by
  obtain⟨_,_,R⟩:=ha;refine(I.aU b ob e).stay (λc S l q=>(hs.2 c ?_).trans q) (λ_ q=>q) λ_ _ q=>q
  grind
 rcases g with hk|hk
 .refine wpAny_storeName_local hk P (λh' T hs=>?_) G;obtain⟨oL,_,_,U,_⟩:=id P;refine h _ ⟨I.ok,I.os,I.bare,⟨λb o e n B g=>?_,λb o e n B g=>?_,I.base.free,λb o e g=>?_,I.base.rV,I.base.pL,I.base.xT⟩,⟨_,T,λj y W e1 e2 e3=>?_⟩,λy c e=>?_,I.free,I.jo,λp Y=>?_,f ⟨oL,U,I.free⟩ hs,by simpa using I.len⟩ ⟨_,hs,.inl rfl⟩
  .exact(hs.2 b (U9 (Vj (UX e) I.ok.above))).trans (I.base.keep b o e n B g)
  .obtain⟨sl,e1⟩:=I.base.slot b o e n B g;exact⟨sl,(hs.2 b (U9 (Vj (UX e) I.ok.above))).trans e1⟩
  .obtain⟨Z,e1⟩:=I.base.there b o e g;exact⟨Z,(hs.2 b (U9 (Vj (UX e) I.ok.above))).trans e1⟩
  .by_cases C:j=i
   .subst C;rw[F]at e1;cases e1;rw[Vs t]at e2;cases e2;exact⟨u,r,.inl ⟨hk,by simp⟩⟩
   .rw[Vx (V2 C)]at e2;obtain⟨u',r',q⟩:=hl j y W e1 e2 e3;refine⟨u',r',?_⟩;rcases q with⟨k,e⟩|⟨k,c,e,z⟩
    .refine .inl ⟨k,?_⟩;have:y≠x:=λe=>C (vK hN e1 (e▸F));simp[this,e]
    .exact .inr ⟨k,c,e,z.sameBut hs (NZ y c e)⟩
  .obtain⟨S,z⟩:=I.cell y c e;exact⟨S,z.sameBut hs (NZ y c e)⟩
  .obtain⟨e,n,ne,nf,d⟩:=I.pin p Y;exact⟨(hs.2 p.1 ne).trans e,n,ne,nf,d⟩
 .have D:X.fn x=true:=by
   rcases hf with z|z
   .exact z
   .rw[z]at hk;cases hk
  obtain⟨c,l⟩:=I.ok.has x (.inl hk);obtain⟨S,z⟩:=I.cell x c l;refine wpAny_storeName_cell I.ok.kind hk l z (λh' J hs=>?_);obtain⟨oc,hoc,hocd⟩:=id z;refine h {s with heap:=h'} ⟨I.ok,I.os,I.bare,⟨λb o e n B g=>?_,λb o e n B g=>?_,I.base.free,λb o e g=>?_,I.base.rV,I.base.pL,I.base.xT⟩,⟨m,P.sameBut hs (V2 (NZ x c l)),λj y W e1 e2 e3=>?_⟩,λy L e=>?_,I.free,I.jo,λp Y=>?_,f ⟨oc,hoc,I.jo x c l⟩ hs,by simpa using I.len⟩ ⟨c,hs,.inr l⟩
  .exact(hs.2 b (U9 (Vj (UX e) (I.ok.Oh x c D l)))).trans (I.base.keep b o e n B g)
  .obtain⟨sl,e1⟩:=I.base.slot b o e n B g;exact⟨sl,(hs.2 b (U9 (Vj (UX e) (I.ok.Oh x c D l)))).trans e1⟩
  .obtain⟨Z,e1⟩:=I.base.there b o e g;exact⟨Z,(hs.2 b (U9 (Vj (UX e) (I.ok.Oh x c D l)))).trans e1⟩
  .by_cases C:j=i
   .subst C;rw[F]at e1;cases e1;rw[Vs t]at e2;cases e2;exact⟨u,r,.inr ⟨.inl hk,c,l,J⟩⟩
   .rw[Vx (V2 C)]at e2;obtain⟨u',r',q⟩:=hl j y W e1 e2 e3;refine⟨u',r',?_⟩;rcases q with q|⟨k,L,e,z'⟩
    .exact .inl q
    .refine .inr ⟨k,L,e,z'.sameBut hs ?_⟩;rintro rfl;exact C (vK hN e1 (I.ok.inj _ _ _ e l▸F))
  .by_cases K:L=c
   .subst K;exact⟨_,J⟩
   .obtain⟨w2,z2⟩:=I.cell y L e;exact⟨w2,z2.sameBut hs K⟩
  .obtain⟨e,n,ne,nf,d⟩:=I.pin p Y;refine⟨(hs.2 p.1 ?_).trans e,n,ne,nf,d⟩
   grind
def vL(I:Inv X ac σ H s)(b:X.N.Nodup)(c:X.N[i]?=some x)(d:Kp X.env.scope x)(r:RelV v u)
 (h:∀a,Inv X ac (σ.set i (some v)) H a->Q () a) (e:autoParam (X.fn x=true\/X.env.scope.names.lookup x=some .local) ae):wpAny M A (storeName X.env x u) Q E s:=
 sQ I b c d r (λa f _=>h a f) e
def Inv.RG(I:Inv X ac σ H s)(d:s'.os=s.os)(u:Un (Cw X.stack) ch H H' s.heap s'.heap)(aU:HOk X.prog X.w H' s'.heap)(f:AllBare s'.gens)
 (a:∀b∈ch,(b∈X.ex\/X.s₀.heap.objs.size<=b)/\b≠X.env.locals/\(∀x c,X.env.cells.lookup x=some c->c≠b)/\∀p∈X.pn++ac,p.1≠b):Inv X ac σ H' s':=by
 obtain⟨h',g',d',t',g⟩:=s';have e:g=s.os:=d;subst e;exact I.call (g':=g') (t':=t') (d':=d') u aU f a
end
abbrev XK:=YA->Option Addr->Hp->Prop
abbrev St:=List (Option V)
abbrev VK:=V->Hp->Prop
abbrev TE:=St->Hp->VK->Prop
abbrev TT:=St->Hp->(Bool->Hp->Prop)->Prop
abbrev TA:=St->Hp->(List V->Hp->Prop)->Prop
structure Ends where
 nx:St->Hp->Prop
 rt:VK
 bk:St->Hp->Prop:=λ_ _=>False
 ct:St->Hp->Prop:=λ_ _=>False
abbrev TS:=Ends->St->Hp->Prop
def EP(X:Cx)(ac:List (Addr×Obj))(σ:St)(Q:VK)(u:YA)(a:Yx):Prop:=∃v H',Inv X ac σ H' a/\RelV v u/\Q v H'
def TP(X:Cx)(ac:List (Addr×Obj))(σ:St)(Q:Bool->Hp->Prop)(b:Bool)(a:Yx):Prop:=∃H',Inv X ac σ H' a/\Q b H'
def AP(X:Cx)(ac:List (Addr×Obj))(σ:St)(Q:List V->Hp->Prop)(us:List YA)(a:Yx):Prop:=∃vs H',Inv X ac σ H' a/\Vals vs us/\Q vs H'
def SP(X:Cx)(ac:List (Addr×Obj))(D:Ends)(f:Flow)(b:Yx):Prop:=
 match f with
 |.next=>∃a H',Inv X ac a H' b/\D.nx a H'
 |.brk=>∃a H',Inv X ac a H' b/\D.bk a H'
 |.cont=>∃a H',Inv X ac a H' b/\D.ct a H'
 |.ret u=>∃v a H',Inv X ac a H' b/\RelV v u/\D.rt v H'
def PE(X:Cx)(e:Expr)(t:TE):Prop:=∀(ac:List (Addr×Obj))(s:Yx)(σ:St)(H:Hp)(Q:VK),Inv X ac σ H s->t σ H Q->wpAny (model X.prog X.w) X.A (eval e X.env) (EP X ac σ Q) X.xe s
def PT(X:Cx)(e:Expr)(t:TT):Prop:=∀(ac:List (Addr×Obj))(s:Yx)(σ:St)(H:Hp)(Q:Bool->Hp->Prop),Inv X ac σ H s->t σ H Q->wpAny (model X.prog X.w) X.A (isTrue e X.env (eval e X.env)) (TP X ac σ Q) X.xe s
def PW(X:Cx)(e:Expr)(t:TT):Prop:=∀(a:Sem YA)(ac:List (Addr×Obj))(s:Yx)(σ:St)(H:Hp)(Q:Bool->Hp->Prop),Inv X ac σ H s->t σ H Q->wpAny (model X.prog X.w) X.A (isTrue e X.env a) (TP X ac σ Q) X.xe s
def PW.pt(h:PW X e t):PT X e t:=h _
def PA(X:Cx)(es:List Expr)(t:TA):Prop:=∀(a:Pos)(ac:List (Addr×Obj))(s:Yx)(σ:St)(H:Hp)(Q:List V->Hp->Prop),Inv X ac σ H s->t σ H Q->wpAny (model X.prog X.w) X.A (spliced (backTo a (starEach es X.env))) (AP X ac σ Q) X.xe s
def PS(X:Cx)(st:Stmt)(t:TS):Prop:=∀(ac:List (Addr×Obj))(s:Yx)(σ:St)(H:Hp)(D:Ends),Inv X ac σ H s->t D σ H->wpAny (model X.prog X.w) X.A (exec st X.env) (SP X ac D) X.xe s
def PSs(X:Cx)(st:List Stmt)(t:TS):Prop:=∀(ac:List (Addr×Obj))(s:Yx)(σ:St)(H:Hp)(D:Ends),Inv X ac σ H s->t D σ H->wpAny (model X.prog X.w) X.A (execs st X.env) (SP X ac D) X.xe s
def bX{α:Type}{t:Sem α}{Q b:α->Yx->Prop}{M:Model}{A:YB}{E:YA->Yx->Prop}{s:Yx}(h:wpAny M A t Q E s)(c:∀a s,Q a s->b a s):wpAny M A t b E s:=Wg h c λ_ _ x=>x
section
variable{X:Cx}
def aK(i:Nat):TE:=λσ H Q=>∃v,σ[i]?=some (some v)/\Q v H
def tC(v:V):TE:=λ_ H Q=>Q v H
def Kq(g:X.N[i]?=some x)(j:RU X.env.scope x)(hd:autoParam (dB x) ab) (d:autoParam ((x==("__classdict__" : Str))=false) ab):PE X (.Name x pos) (aK i):=by
 intro ac s σ H Q I h;obtain⟨v,e,h⟩:=h;obtain⟨m,k,n⟩:=I.loc;obtain⟨u,r,l⟩:=n i x v g e j;have b:EP X ac σ Q u s:=⟨v,H,I,r,h⟩;rcases l with⟨hk,o⟩|⟨hk,c,f,a⟩
 .exact wpAny_Name (wpAny_loadName_local I.ok.kind hk k o b) hd
 .rcases hk with hk|hk
  .exact wpAny_Name (wpAny_loadName_cell I.ok.kind hk f a b) hd
  .exact wpAny_Name (wpAny_loadName_free I.ok.kind hk f a b d) hd
def aS{i j pos}:PE X (.Constant (.int i) j pos) (tC (.int i)):=λ_ _ _ H _ I h=>wpAny_Constant_int ⟨.int i,H,I.tok _,⟨_,rfl⟩,h⟩
def Oi{b j pos}:PE X (.Constant (.bool b) j pos) (tC (.bl b)):=λ_ _ _ H _ I h=>Constant_bool ⟨.bl b,H,I,rfl,h⟩
def mj{j pos}:PE X (.Constant .none j pos) (tC .bv):=λ_ _ _ H _ I h=>Constant_none ⟨.bv,H,I,rfl,h⟩
def Gl(X:Cx)(x:Str):Prop:=X.env.kindOf x=some .globalImplicit
def uc(I:Inv X ac σ H s)(a:Gl X x)(b:X.mg x=some u)(h:Q u s)
 (hd:autoParam (dB x) ab):wX X (eval (.Name x pos) X.env) Q E s:=
 Calls.Name_function_global I.ok.kind a (Calls.loadGlobal_global (by rw[I.ok.glob];exact I.mod.glob.keeps I.bk) b h) hd
def jp(I:Inv X ac σ H s)(a:Gl X x)(b:X.mg x=none)(c:bootBuiltins x=some u)(h:Q u s)
 (d:autoParam (x≠"__name__") ab) (hd:autoParam (dB x) ab):wX X (eval (.Name x pos) X.env) Q E s:=by
 obtain⟨f,h1,e⟩:=I.mod.blt;exact Calls.Name_function_global I.ok.kind a (Calls.loadGlobal_builtin (by rw[I.ok.glob];exact I.mod.glob.keeps I.bk) b (by rw[I.ok.blt];exact h1.keeps I.bk) ((e x d).trans c) h) hd
def Ga(a:Gl X x)(b:X.mg x=none)(c:bootBuiltins x=some u)(r:RelV v u)(d:autoParam (x≠"__name__") ab) (hd:autoParam (dB x) ab):PE X (.Name x pos) (tC v):=λ_ _ _ H _ I h=>jp I a b c ⟨v,H,I,r,h⟩ d hd
variable{a b:Expr}{ta tb:TE}{pos:Pos}
def PC(X:Cx)(op:CmpOp)(a b:Expr)(t:TE):Prop:=
 ∀(ac:List (Addr×Obj))(s:Yx)(σ:St)(H:Hp)(Q:VK),Inv X ac σ H s->t σ H Q->
  wpAny (model X.prog X.w) X.A (eval a X.env) (λv c=>wpAny (model X.prog X.w) X.A (eval b X.env) (λu d=>wpAny (model X.prog X.w) X.A (compareOp op v u) (EP X ac σ Q) X.xe d) X.xe c) X.xe s
def vM(b:Expr)(h:op≠.In)(c:op≠.NotIn):behindInMarks op b=false:=by
 have e1:(op==CmpOp.In)=false:=by cases op<;>first|rfl|exact absurd rfl h
 have e2:(op==CmpOp.NotIn)=false:=by cases op<;>first|rfl|exact absurd rfl c
 cases b<;>simp[behindInMarks,e1,e2]
def Si(ta:TE):TE:=λσ H Q=>ta σ H λx c=>Q (.bl (decide (x=.bv))) c
def Oj(ta:TE):TE:=λσ H Q=>ta σ H λx c=>Q (.bl (!decide (x=.bv))) c
def RelV.xJ(r:RelV x v):(v==Value.none)=decide (x=.bv):=by
 cases x with
 |bv=>cases r;rfl
 |bl _=>cases r;rfl
 |int _=>obtain⟨t,rfl⟩:=r;rfl
 |str _=>obtain⟨t,rfl⟩:=r;rfl
 |Cm _=>obtain⟨t,rfl⟩:=r;rfl
 |J6 _=>obtain⟨t,rfl⟩:=r;rfl
 |ref _=>cases r;rfl
 |ty _=>cases r;rfl
def Cy{j pos'}(ha:PE X a ta):PC X .Is a (.Constant .none j pos') (Si ta):=by intro ac s σ H Q I h;refine bX (ha ac s σ H _ I h) λv s1 ⟨x,c,d,e,q1⟩=>?_;exact Constant_none (is_none_gen ⟨.bl _,c,d,by rw[e.xJ];rfl,q1⟩)
def zv{j pos'}(ha:PE X a ta):PC X .IsNot a (.Constant .none j pos') (Oj ta):=by intro ac s σ H Q I h;refine bX (ha ac s σ H _ I h) λv s1 ⟨x,c,d,e,q1⟩=>?_;exact Constant_none (isnot_none_gen ⟨.bl _,c,d,by rw[e.xJ];rfl,q1⟩)
def tB(t:TE):TT:=λσ H Q=>t σ H λx d=>∃c,x=.bl c/\Q c d
def Cz(h:PC X op a b t)(h1:behindInMarks op b=false:=by first|exact vM _ (by decide) (by decide)|rfl):PE X (.Compare a [op] [b] pos) t:=λac s σ H Q I c=>wpAny_Compare1 (h ac s σ H Q I c) h1
def CA(h:PC X op a b t)(h1:behindInMarks op b=false:=by first|exact vM _ (by decide) (by decide)|rfl):PT X (.Compare a [op] [b] pos) (tB t):=by intro ac s σ H Q I e;refine wpAny_isTrue_Compare1 (bX (h ac s σ H _ I e) λv s1 h1=>bX h1 λu s2 f=>bX f λc k ⟨x,g,i,j,q1⟩=>?_) h1;obtain⟨d,rfl,q⟩:=q1;cases j;exact V7 ⟨g,i,q⟩
def Kr(h:PE X e t)(f:autoParam (∀c,isTrue e X.env c=(do let v <- c;standAt e.pos;holding [v] (truthy v))) am):PT X e (tB t):=by intro ac s σ H Q I g;refine isTrue_plain (bX (h ac s σ H _ I g) λv s1 ⟨x,i,j,k,q1⟩=>?_) (f _);obtain⟨d,rfl,q⟩:=q1;cases k;exact V7 ⟨i,j,q⟩
variable{tA tB':TT}{rest:List Expr}
def Sj(t u:TT):TT:=λσ H Q=>t σ H λc d=>if c=true then u σ d Q else Q false d
def TZ(t u:TT):TT:=λσ H Q=>t σ H λc d=>if c=true then Q true d else u σ d Q
def Ol(t:TT):TT:=λσ H Q=>t σ H λc d=>Q (!c) d
def Gb(ha:PT X a tA):PW X (.BoolOp .And [a] pos) tA:=by
 intro d ac s σ H Q I h;refine isTrue_and (bX (ha ac s σ H Q I h) λc s1 e=>?_);cases c with
 |true=>exact isTrue_and_nil e
 |false=>exact e
def CB(ha:PT X a tA):PW X (.BoolOp .Or [a] pos) tA:=by
 intro d ac s σ H Q I h;refine isTrue_or (bX (ha ac s σ H Q I h) λc s1 e=>?_);cases c with
 |false=>exact isTrue_or_nil e
 |true=>exact e
def Ks(ha:PT X a tA)(f:PW X (.BoolOp .And (b::rest) pos) tB'):PW X (.BoolOp .And (a::b::rest) pos) (Sj tA tB'):=by
 intro g ac s σ H Q I h;refine isTrue_and (bX (ha ac s σ H _ I h) λc s1 ⟨d,e,q1⟩=>?_);cases c with
 |true=>exact f g ac s1 σ d Q e q1
 |false=>exact⟨d,e,q1⟩
def Jc(ha:PT X a tA)(f:PW X (.BoolOp .Or (b::rest) pos) tB'):PW X (.BoolOp .Or (a::b::rest) pos) (TZ tA tB'):=by
 intro g ac s σ H Q I h;refine isTrue_or (bX (ha ac s σ H _ I h) λc s1 ⟨d,e,q1⟩=>?_);cases c with
 |true=>exact⟨d,e,q1⟩
 |false=>exact f g ac s1 σ d Q e q1
def CC(ha:PT X a tA):PT X (.UnaryOp .Not a pos) (Ol tA):=by intro ac s σ H Q I h;exact isTrue_not (ha ac s σ H (λc d=>Q (!c) d) I h)
def Om(ta tb:TE):TE:=λσ H Q=>ta σ H λx d=>∃c,x=.bl c/\if c=true then tb σ d Q else Q (.bl false) d
def Sk(ta tb:TE):TE:=λσ H Q=>ta σ H λx d=>∃c,x=.bl c/\if c=true then Q (.bl true) d else tb σ d Q
def On(ta:TE):TE:=λσ H Q=>ta σ H λx d=>∃c,x=.bl c/\Q (.bl (!c)) d
def Kt{op}(h:PE X a t):PE X (.BoolOp op [a] pos) t:=λac s σ H Q I c=>BoolOp_one (h ac s σ H Q I c)
def Ku(ha:PE X a ta)(f:PE X (.BoolOp .And (b::rest) pos) tb):PE X (.BoolOp .And (a::b::rest) pos) (Om ta tb):=by
 intro ac s σ H Q I h;refine BoolOp_and (bX (ha ac s σ H _ I h) λv s1 ⟨x,d,e,g,q1⟩=>?_);obtain⟨c,rfl,q1⟩:=q1;cases g;refine V7 ?_;cases c with
 |true=>exact f ac s1 σ d Q e q1
 |false=>exact⟨.bl false,d,e,rfl,q1⟩
def Oo(ha:PE X a ta)(f:PE X (.BoolOp .Or (b::rest) pos) tb):PE X (.BoolOp .Or (a::b::rest) pos) (Sk ta tb):=by
 intro ac s σ H Q I h;refine BoolOp_or (bX (ha ac s σ H _ I h) λv s1 ⟨x,d,e,g,q1⟩=>?_);obtain⟨c,rfl,q1⟩:=q1;cases g;refine V7 ?_;cases c with
 |false=>exact f ac s1 σ d Q e q1
 |true=>exact⟨.bl true,d,e,rfl,q1⟩
def Kv(ha:PE X a ta):PE X (.UnaryOp .Not a pos) (On ta):=by intro ac s σ H Q I h;refine UnaryOp_ (bX (ha ac s σ H _ I h) λv s1 ⟨x,d,e,f,q1⟩=>?_);obtain⟨c,rfl,q1⟩:=q1;cases f;exact not_of (V7 ⟨.bl (!c),d,e,rfl,q1⟩)
def Ud(t:TT)(ta tb:TE):TE:=λσ H Q=>t σ H λc d=>if c=true then ta σ d Q else tb σ d Q
def CD(g:PT X c tA)(ha:PE X a ta)(i:PE X b tb):PE X (.IfExp c a b pos) (Ud tA ta tb):=by
 intro ac s σ H Q I h;refine wpAny_IfExp (bX (g ac s σ H _ I h) λd s1 ⟨e,f,q1⟩=>?_);cases d with
 |true=>exact ha ac s1 σ e Q f q1
 |false=>exact i ac s1 σ e Q f q1
end
def SqL(K:Yy)(H:Hp)(a:Addr)(xs:List V):Prop:=
 Rd H a (.lst xs)\/
  ∃(o:Obj)(its:Array YA)(n:Nat),K.lookup a=some o/\o.cls=.type "list"/\o.dict=none/\o.data=.seq its n/\its.size<=sizeLine/\Vals xs its.toList
def SqT(K:Yy)(H:Hp)(a:Addr)(xs:List V):Prop:=
 Rd H a (.tup xs)\/
  ∃(o:Obj)(its:Array YA)(n:Nat),K.lookup a=some o/\o.cls=.type "tuple"/\o.data=.seq its n/\its.size<=sizeLine/\Vals xs its.toList
noncomputable def Sm:YA->Option V
 |.none=>some .bv
 |.bool b=>some (.bl b)
 |.int i _=>some (.int i)
 |.str x _=>some (.str x)
 |.bytes b _=>some (.Cm b)
 |.float b _=>some (.J6 b)
 |.ref a=>some (.ref a)
 |.type n=>some (.ty n)
 |_=>none
def RelV.abs(r:RelV x u):Sm u=some x:=by
 cases x with
 |bv=>cases r;rfl
 |bl _=>cases r;rfl
 |int _=>obtain⟨t,rfl⟩:=r;rfl
 |str _=>obtain⟨t,rfl⟩:=r;rfl
 |Cm _=>obtain⟨t,rfl⟩:=r;rfl
 |J6 _=>obtain⟨t,rfl⟩:=r;rfl
 |ref _=>cases r;rfl
 |ty _=>cases r;rfl
def RelV.inj(r:RelV x u)(q:RelV y u):x=y:=VL (r.abs.symm.trans q.abs)
theorem Vals.inj{xs a:List V}{us:List YA}(h:Vals xs us)(k:Vals a us):xs=a:=by
 induction h generalizing a with
 |nil=>cases k;rfl
 |cons r _ b=>
  cases k with
  |cons c t'=>rw[r.inj c,b t']
section
def SqL.of{K:Yy}(h:H a=some (.lst xs)):SqL K H a xs:=.inl (.inl h)
def SqT.of{K:Yy}(h:H a=some (.tup xs)):SqT K H a xs:=.inl (.inl h)
def Inv.list(I:Inv X ac σ H s)(h:SqL X.K H a xs):∃its:List YA,Vals xs its/\PlainL s.heap a its.toArray/\xs.length<=sizeLine:=by
 rcases h with h|⟨o,its,n,b,c,hd,hs,hz,r⟩
 .obtain⟨z,its,n,r,e⟩:=h.ok I.aU;exact⟨its,r,⟨_,n,e,rfl,rfl,rfl⟩,z⟩
 .refine⟨its.toList,r,⟨o,n,I.o5 a o b,c,hd,by simpa using hs⟩,?_⟩;have e:=r.length;simp only[VD]at e;lia
def Inv.tuple(I:Inv X ac σ H s)(h:SqT X.K H a xs):∃its:List YA,Vals xs its/\IsTup s.heap a its.toArray/\xs.length<=sizeLine:=by
 rcases h with h|⟨o,its,n,b,c,hs,hz,r⟩
 .obtain⟨z,its,r,p⟩:=h.ok I.aU;exact⟨its,r,p,z⟩
 .refine⟨its.toList,r,⟨o,I.o5 a o b,c,n,by simpa using hs⟩,?_⟩;have e:=r.length;simp only[VD]at e;lia
def Inv.xP(I:Inv X ac σ H s)(h:SqL X.K H a xs)(h':SqL X.K H a ys):xs=ys:=by
 obtain⟨its,r,⟨o,n,e,_,_,d⟩,_⟩:=I.list h;obtain⟨its',c,⟨f,g,b,_,_,d'⟩,_⟩:=I.list h';rw[e]at b;cases b;rw[d]at d';injection d' with d1 _;have:its=its':=by simpa using Wo Array.toList d1
 subst this;exact r.inj c
def Inv.Co(I:Inv X ac σ H s)(h:SqT X.K H a xs)(h':SqT X.K H a ys):xs=ys:=by
 obtain⟨its,r,⟨o,e,_,n,d⟩,_⟩:=I.tuple h;obtain⟨its',c,⟨f,b,_,g,d'⟩,_⟩:=I.tuple h';rw[e]at b;cases b;rw[d]at d';injection d' with d1 _;have:its=its':=by simpa using Wo Array.toList d1
 subst this;exact r.inj c
end
noncomputable abbrev Cx.sN(X:Cx)(E:YA->Yx->Prop):Cx:={X with xe:=E}
abbrev Cx.RK(X:Cx):Cx:=X.sN λ_ _=>False
theorem Cx.Ok.sN{X:Cx}(ok:X.Ok)(E:YA->Yx->Prop):(X.sN E).Ok:=⟨ok.mod,ok.kind,ok.glob,ok.blt,ok.above,ok.inj,ok.has,ok.Oh,ok.hd,ok.frames,ok.RI,ok.TL,ok.bs,ok.F5,ok.Cq,ok.FW,ok.oY,ok.J3,ok.kt⟩
def Cx.Ok.lg{X:Cx}{E:YA->Yx->Prop}(ok:(X.sN E).Ok):X.Ok:=⟨ok.mod,ok.kind,ok.glob,ok.blt,ok.above,ok.inj,ok.has,ok.Oh,ok.hd,ok.frames,ok.RI,ok.TL,ok.bs,ok.F5,ok.Cq,ok.FW,ok.oY,ok.J3,ok.kt⟩
section
theorem Inv.sN(I:Inv X ac σ H s)(E:YA->Yx->Prop):Inv (X.sN E) ac σ H s:=⟨I.ok.sN E,I.os,I.bare,I.base,I.loc,I.cell,I.free,I.jo,I.pin,I.aU,I.len⟩
theorem Inv.lg(I:Inv (X.sN E) ac σ H s):Inv X ac σ H s:=⟨I.ok.lg,I.os,I.bare,I.base,I.loc,I.cell,I.free,I.jo,I.pin,I.aU,I.len⟩
theorem SP.lg(h:SP (X.sN E) ac D f s'):SP X ac D f s':=by
 cases f with
 |next=>obtain⟨a,H',I,q⟩:=h;exact⟨a,H',I.lg,q⟩
 |brk=>obtain⟨a,H',I,q⟩:=h;exact⟨a,H',I.lg,q⟩
 |cont=>obtain⟨a,H',I,q⟩:=h;exact⟨a,H',I.lg,q⟩
 |ret u=>obtain⟨v,a,H',I,r,q⟩:=h;exact⟨v,a,H',I.lg,r,q⟩
theorem PSs.RK{st:List Stmt}(h:PSs X.RK st t):PSs X st t:=λac s σ H D I a=>Wg (h ac s σ H D (I.sN _) a) (λ_ _ q=>q.lg) λ_ _ z=>False.elim z
end
section
variable{X:Cx}{st:Stmt}{rest:List Stmt}{t u:TS}
def vN:TS:=λD σ H=>D.nx σ H
def dY(t u:TS):TS:=λD σ H=>t {D with nx:=u D} σ H
def mP:PSs X [] vN:=λ_ _ σ H _ I h=>X2 ⟨σ,H,I,h⟩
def aX(h1:PS X st t)(b:PSs X rest u):PSs X (st::rest) (dY t u):=by
 intro ac s σ H D I h;refine wpAny_execs_cons (bX (h1 ac s σ H {D with nx:=u D} I h) λf s1 q=>?_);cases f with
 |next=>obtain⟨a,H',c,q⟩:=q;exact b ac s1 a H' D c q
 |ret v=>exact q
 |brk=>exact q
 |cont=>exact q
def aY(h1:PS X st t):PSs X [st] t:=by
 intro ac s σ H D I h;refine wpAny_execs_cons (bX (h1 ac s σ H D I h) λf s1 q=>?_);cases f with
 |next=>exact X2 q
 |ret v=>exact q
 |brk=>exact q
 |cont=>exact q
def Kw:TS:=λD σ H=>D.bk σ H
def CF:PS X (.Break pos) Kw:=λ_ _ σ H _ I h=>wpAny_Break ⟨σ,H,I,h⟩
def Inv.quiet(I:Inv X ac σ H s):interactive X.env=false:=by simp[interactive,I.ok.kind]
def fL(a:TE):TS:=λD σ H=>a σ H λ_ b=>D.nx σ b
def b_(a:PE X e te)(hs:autoParam (swapsWith e none pos.line X.env=pure false) aM):PS X (.Expr e pos) (fL te):=by intro ac s σ H D I h;exact wpAny_Expr_any (bX (a ac s σ H _ I h) λv s1 ⟨x,b,c,d,q1⟩=>⟨σ,b,c,q1⟩) I.quiet hs
def ud(a:TE):TS:=λD σ H=>a σ H D.rt
def nZ(a:PE X e te):PS X (.Return (some e) pos) (ud te):=by intro ac s σ H D I h;exact wpAny_Return_some (bX (a ac s σ H _ I h) λv s1 ⟨x,b,c,d,q1⟩=>⟨x,σ,b,c,d,q1⟩)
def xY(c:TT)(t u:TS):TS:=λD σ H=>c σ H λb a=>if b=true then t D σ a else u D σ a
def sR(g:PT X c tc)(ha:PSs X a t)(i:PSs X b u):PS X (.If c a b pos) (xY tc t u):=by
 intro ac s σ H D I h;refine wpAny_If (bX (g ac s σ H _ I h) λd s1 ⟨e,f,q1⟩=>?_);cases d with
 |true=>exact ha ac s1 σ e D f q1
 |false=>exact i ac s1 σ e D f q1
end
abbrev TG:=V->St->Hp->(St->Hp->Prop)->Prop
abbrev N2:=List V->St->Hp->(St->Hp->Prop)->Prop
def PG(X:Cx)(a:Expr)(t:TG):Prop:=
 ∀(ac:List (Addr×Obj))(s:Yx)(σ:St)(H:Hp)(v:V)(u:YA)(Q:St->Hp->Prop),Inv X ac σ H s->RelV v u->t v σ H Q->
  wpAny (model X.prog X.w) X.A (assign a X.env u) (λ_ c=>∃b H',Inv X ac b H' c/\Q b H') X.xe s
def Kx(X:Cx)(ts:List Expr)(t:N2):Prop:=
 ∀(ac:List (Addr×Obj))(s:Yx)(σ:St)(H:Hp)(vs:List V)(us:List YA)(Q:St->Hp->Prop),Inv X ac σ H s->Vals vs us->t vs σ H Q->
  wpAny (model X.prog X.w) X.A (assignInOrder ((assignEach ts X.env).map (·.2)) us) (λ_ b=>∃a H',Inv X ac a H' b/\Q a H') X.xe s
section
def aT(i:Nat):TG:=λv σ H Q=>Q (σ.set i (some v)) H
def bK(a:X.N.Nodup)(b:X.N[i]?=some x)(c:Kp X.env.scope x)(d:autoParam (X.fn x=true\/X.env.scope.names.lookup x=some .local) ae):PG X (.Name x pos) (aT i):=by intro ac s σ H v u Q I r h;exact wpAny_assign_Name (vL I a b c r (λf e=>⟨_,H,e,h⟩) d)
def iW:N2:=λvs σ H Q=>vs=[]/\Q σ H
def bm(t:TG)(u:N2):N2:=λvs σ H Q=>∃v r,vs=v::r/\t v σ H λa H'=>u r a H' Q
def f7:Kx X [] iW:=by intro ac s σ H vs us Q I r h;obtain⟨e,h⟩:=h;subst e;cases r;exact assignInOrder_nil ⟨σ,H,I,h⟩
def aA(h1:PG X e t)(b:Kx X es u)
 (hs:autoParam ((assignEach (e::es) X.env).map (·.2)=assign e X.env::(assignEach es X.env).map (·.2)) aM):Kx X (e::es) (bm t u):=by
 intro ac s σ H vs us Q I r h;obtain⟨v,g,e1,h⟩:=h;subst e1;cases r with
 |cons r c=>rw[hs];refine assignInOrder_cons (bX (h1 ac s σ H _ _ _ I r h) λ_ s1 ⟨a,d,f,q1⟩=>?_);exact b ac s1 a d _ _ Q f c q1
def iX(K:Yy)(n:Nat)(t:N2):TG:=λv σ H Q=>∃a xs,v=.ref a/\SqT K H a xs/\xs.length=n/\t xs σ H Q
def iY(g:X.calm=true)(h:Kx X es t)
 (i:autoParam ((assignEach es X.env).length=n) aM) (c:autoParam ((assignEach es X.env).findIdx? (·.1)=none) aM):PG X (.Tuple es k pos) (iX X.K n t):=by
 intro ac s σ H v u Q I r d;obtain⟨a,xs,e1,j,l,d⟩:=d;subst e1;cases r;obtain⟨its,f,m,hz⟩:=I.tuple j;refine assign_Tuple_tuple (I.ok.hd g) m (by simp[i,<- l,f.length]) c λh' p=>?_;have q:Inv X ac σ H {s with heap:=h'}:=I.kept (t':=s.toks) λb o e=>p b o (U9 (UX e)) e;exact h ac _ σ H xs _ Q q (by simpa using f) d
def ml(a:TE)(g:TG):TS:=λD σ H=>a σ H λx b=>g x σ b D.nx
def Ky(a:PE X e te)(b:PG X tg g)(hs:autoParam (swapsWithSole [tg] e pos.line X.env=pure false) aM)(c:autoParam (swappedStores [tg] e X.env=pure none) aM)
 (h1:autoParam ((assignEach [tg] X.env).map (·.2)=[assign tg X.env]) aM):PS X (.Assign [tg] e pos) (ml te g):=by
 intro ac s σ H D I h;refine wpAny_Assign_stores (bX (a ac s σ H _ I h) λv s1 ⟨x,d,f,i,q1⟩=>?_) hs c;rw[h1];exact bX (b ac s1 σ d x v _ f i q1) λ_ s2 q=>q
def jq(a:X.N.Nodup)(b:X.N[i]?=some x)(c:Kp X.env.scope x)(d:PE X e te)(hs:autoParam (swapsWith e (some (.Name x pos')) pos.line X.env=pure false) aM)(f:autoParam (X.fn x=true\/X.env.scope.names.lookup x=some .local) ae) :
 PS X (.Assign [.Name x pos'] e pos) (ml te (aT i)):=by
 intro ac s σ H D I h;refine wpAny_Assign_Name (bX (d ac s σ H _ I h) λv s1 ⟨y,g,j,k,q1⟩=>?_) hs;exact vL j a b c k (λs2 l=>⟨_,g,l,q1⟩) f
end
section
def CG(c:TT)(tb:TS):TS:=λD σ H=>∃W:Nat->St->Hp->Prop,(∃m,W m σ H)/\∀m σ H,W m σ H->
 c σ H λb d=>if b=true then ∃N:St->Hp->Prop,(∀a H',N a H'->∃m',m'<m/\W m' a H')/\tb {D with nx:=N,ct:=N,bk:=D.nx} σ d else D.nx σ d
def CH(o:PassesOwn (model X.prog X.w) X.A X.env X.xe)(u:PT X c tc)(x:PSs X body tb):PS X (.While c body [] pos) (CG tc tb):=by
 intro ac s σ H D I h;obtain⟨W,⟨m0,y⟩,turn⟩:=h;refine wpAny_While (codeAny_whileLoop (λn z=>∃e H',Inv X ac e H' z/\W n e H') ?_ m0 ⟨σ,H,I,y⟩);rintro n s1 ⟨d,p,B,C⟩;refine WP o (bX (u ac s1 d p _ B (turn n d p C)) λb s2 ⟨q,r,q2⟩=>?_);cases b with
 |true=>
  obtain⟨N,t,q2⟩:=q2;rw[UP rfl];refine WP o (bX (x ac s2 d q _ r q2) λf E i=>?_);cases f with
  |next=>obtain⟨a,g,j,k⟩:=i;obtain⟨m',l,m⟩:=t a g k;exact⟨m',l,a,g,j,m⟩
  |cont=>obtain⟨a,g,j,k⟩:=i;obtain⟨m',l,m⟩:=t a g k;exact⟨m',l,a,g,j,m⟩
  |brk=>exact i
  |ret v=>exact i
 |false=>rw[UV VA];exact X2 ⟨d,q,r,q2⟩
end
structure It where
 go:Nat->Hp->Prop
 F3:Nat->Hp->V->Hp->Prop
 stop:Nat->Hp->Prop
def lI(X:Cx)(ac:List (Addr×Obj))(H:Hp)(b:Addr):Prop:=H b=none/\b≠X.env.locals/\b∉X.fs/\(b∈X.ex\/X.s₀.heap.objs.size<=b)/\(∀x c,X.env.cells.lookup x=some c->c≠b)/\∀p∈X.pn++ac,p.1≠b
def Inv.sO(I:Inv X ac σ H s)(a:s.heap.objs.size<=b)(d:H' b=none):lI X ac H' b:=by
 refine⟨d,Xo (Vj I.lt a),I.TU a,.inr (Vf I.sz a),λx c e z=>?_,λp f z=>?_⟩
 .obtain⟨v,q⟩:=I.cell x c e;exact absurd (Vj q.lt (by rw[z];exact a)) (Wy _)
 .exact absurd (Vj (UX (I.pin p f).1) (by rw[z];exact a)) (Wy _)
structure Turn(P:Yz) (w:World) (K:Yy) (tg:Expr) (J:It) (fp:List Addr) (it:Addr) (tn:Nat->Heap->Prop):Prop where
 mem:it∈fp
 obj:∀i h,tn i h->∀b∈fp,∃o,h.get? b=some o/\∀v,o.data≠.cell v
 keep:∀i h h',tn i h->(∀b∈fp,∀o,h.get? b=some o->h'.get? b=some o)->tn i h'
 item:∀(X:Cx),X.prog=P->X.w=w->X.K=K->X.calm=true->∀(i:Nat)(ac:List (Addr×Obj))(s:Yx)(σ:St)(H:Hp)(E:YA->Yx->Prop),Inv X ac σ H s->(∀b∈fp,lI X ac H b)->tn i s.heap->J.go i H->
  wpAny (model P w) X.A (pyNext (.ref it)) (λr s1=>∃u,r=some u/\
   wpAny (model P w) X.A (letOwnedTupleGo tg (.ref it) u) (λ_ s2=>∃x H',Inv X ac σ H' s2/\RelV x u/\J.F3 i H x H'/\tn (i+1) s2.heap/\∀b∈fp,H' b=none) E s1) E s
 done:∀(X:Cx),X.prog=P->X.w=w->X.K=K->X.calm=true->∀(i:Nat)(ac:List (Addr×Obj))(s:Yx)(σ:St)(H:Hp)(E:YA->Yx->Prop),Inv X ac σ H s->(∀b∈fp,lI X ac H b)->tn i s.heap->J.stop i H->
  wpAny (model P w) X.A (pyNext (.ref it)) (λr s1=>r=none/\Inv X ac σ H s1) E s
 self:∀(A:YB)(i:Nat)(s:Yx)(Q:YA->Yx->Prop)(E:YA->Yx->Prop),tn i s.heap->Q (.ref it) s->wpAny (model P w) A (pyIter (.ref it)) Q E s
abbrev TI:=St->Hp->(It->Hp->Prop)->Prop
def Oq(X:Cx)(ac:List (Addr×Obj))(σ:St)(tg:Expr)(R:It->Hp->Prop)(a:YA)(s2:Yx):Prop:=∃(it:Addr)(fp:List Addr)(tn:Nat->Heap->Prop)(J:It)(H':Hp),a=.ref it/\Inv X ac σ H' s2/\Turn X.prog X.w X.K tg J fp it tn/\tn 0 s2.heap/\(∀b∈fp,lI X ac H' b)/\R J H'
def PI(X:Cx)(tg iter:Expr)(a:TI):Prop:=
 ∀(ac:List (Addr×Obj))(s:Yx)(σ:St)(H:Hp)(R:It->Hp->Prop),Inv X ac σ H s->a σ H R->
  wpAny (model X.prog X.w) X.A (eval iter X.env) (λv s1=>wpAny (model X.prog X.w) X.A (pyIter v) (Oq X ac σ tg R) X.xe s1) X.xe s
def CJ(b:s.heap.get? it=some o)(c:o.cls=.type n)(hd:o.data=.fields vs)
 (d:["enumerate","zip","dict_itemiterator","dict_reverseitemiterator","odict_iterator","itertools.zip_longest","itertools.pairwise"].contains n=false) (a:Q () s):wpAny M A (letOwnedTupleGo tg (.ref it) u) Q E s:=by
 unfold letOwnedTupleGo;cases tg<;>first
  |exact UM a
  |(cases u<;>first
     |exact UM a
     |(refine KE (wpAny_load b ?_)
       rw[c,hd];show wpAny M A (if(["enumerate","zip","dict_itemiterator","dict_reverseitemiterator","odict_iterator","itertools.zip_longest","itertools.pairwise"].contains n&&vs[0]?==some (rawInt _))=true then _ else _) Q E s;rw[UV (by intro h;rw[d,X8]at h;cases h)];exact UM a))
def Gc(K:Yy)(a:Addr):It:=⟨λi H=>∃xs x,SqL K H a xs/\xs[i]?=some x,λi H x H'=>H'=H/\∀xs,SqL K H a xs->xs[i]?=some x,λi H=>∃xs,SqL K H a xs/\xs.length<=i⟩
def Sn(K:Yy)(a:Addr):It:=⟨λi H=>∃xs x,SqT K H a xs/\xs[i]?=some x,λi H x H'=>H'=H/\∀xs,SqT K H a xs->xs[i]?=some x,λi H=>∃xs,SqT K H a xs/\xs.length<=i⟩
def Os(lo:Int)(n:Nat):It:=⟨λi _=>i<n,λi H x H'=>H'=H/\x=.int (lo+i),λi _=>n<=i⟩
def sS{K:Yy}{tg:Expr}(a it:Addr):Turn P w K tg (Gc K a) [it] it (λi h=>h.IsListIter it a i) where
 mem:=by simp
 obj:=λi h st b hb=>by
  have e:b=it:=by simpa using hb
  subst e;obtain⟨o,e,c,d⟩:=st;exact⟨o,e,λv z=>by rw[d]at z;cases z⟩
 keep:=λi h h' st k=>st.at λo e=>k it (by simp) o e
 item:=by intro X hP hw hK hc i ac s σ H E I hf st hg;subst hP hw hK;obtain⟨xs,x,hq,hx⟩:=hg;obtain⟨its,rv,p,hz⟩:=I.list hq;obtain⟨u,hu,ru⟩:=rv.get hx;obtain⟨f0,f1,f2,f3,f4,f5⟩:=hf it (by simp);refine wpAny_pyNext_list_item st p.isList (x:=u) (by simpa using hu) λh' st' sb=>?_;have I1:Inv X ac σ H {s with heap:=h'}:=I.turned (t':=s.toks) (λb o hb e=>(sb.2 b hb).trans e) f0 f1 f3 f4 f5;obtain⟨o,e,c,d⟩:=id st';exact⟨u,rfl,CJ (s:={s with heap:=h'}) e c d (by decide) ⟨x,H,I1,ru,⟨rfl,λys hy=>by rw[I.xP hy hq];exact hx⟩,st',λb hb=>(hf b hb).1⟩⟩
 done:=by intro X hP hw hK hc i ac s σ H E I hf st hg;subst hP hw hK;obtain⟨xs,hq,hx⟩:=hg;obtain⟨its,rv,p,hz⟩:=I.list hq;obtain⟨f0,f1,f2,f3,f4,f5⟩:=hf it (by simp);have hl:=rv.length;exact wpAny_pyNext_list_end (I.ok.hd hc) st p.isList (by simp;lia) λh' eb=>⟨rfl,I.turned (t':=s.toks) (λb o hb e=>eb b o hb e) f0 f1 f3 f4 f5⟩
 self:=λ_ _ _ _ _ st h=>wpAny_pyIter_listiter st h
def xZ{K:Yy}{tg:Expr}(a it:Addr):Turn P w K tg (Sn K a) [it] it (λi h=>h.IsTupleIter it a i) where
 mem:=by simp
 obj:=λi h st b hb=>by
  have e:b=it:=by simpa using hb
  subst e;obtain⟨o,e,c,d⟩:=st;exact⟨o,e,λv z=>by rw[d]at z;cases z⟩
 keep:=λi h h' st k=>st.at λo e=>k it (by simp) o e
 item:=by intro X hP hw hK hc i ac s σ H E I hf st hg;subst hP hw hK;obtain⟨xs,x,hq,hx⟩:=hg;obtain⟨its,rv,p,hz⟩:=I.tuple hq;obtain⟨u,hu,ru⟩:=rv.get hx;obtain⟨f0,f1,f2,f3,f4,f5⟩:=hf it (by simp);refine wpAny_pyNext_tuple_item st (show s.heap.IsTuple a its.toArray from p) (x:=u) (by simpa using hu) λh' st' sb=>?_;have I1:Inv X ac σ H {s with heap:=h'}:=I.turned (t':=s.toks) (λb o hb e=>(sb.2 b hb).trans e) f0 f1 f3 f4 f5;obtain⟨o,e,c,d⟩:=id st';exact⟨u,rfl,CJ (s:={s with heap:=h'}) e c d (by decide) ⟨x,H,I1,ru,⟨rfl,λys hy=>by rw[I.Co hy hq];exact hx⟩,st',λb hb=>(hf b hb).1⟩⟩
 done:=by intro X hP hw hK hc i ac s σ H E I hf st hg;subst hP hw hK;obtain⟨xs,hq,hx⟩:=hg;obtain⟨its,rv,p,hz⟩:=I.tuple hq;obtain⟨f0,f1,f2,f3,f4,f5⟩:=hf it (by simp);have hl:=rv.length;exact wpAny_pyNext_tuple_end (I.ok.hd hc) st (show s.heap.IsTuple a its.toArray from p) (by simp;lia) λh' eb=>⟨rfl,I.turned (t':=s.toks) (λb o hb e=>eb b o hb e) f0 f1 f3 f4 f5⟩
 self:=λ_ _ _ _ _ st h=>wpAny_pyIter_tupleiter st h
def x4{K:Yy}{tg:Expr}(it:Addr)(lo:Int)(n:Nat):Turn P w K tg (Os lo n) [it] it (λi h=>IsRangeIter h it (lo+(i:Nat)*1) ((n:Int)-(i:Nat)) 1) where
 mem:=by simp
 obj:=λi h st b hb=>by grind
 keep:=λi h h' st k=>k it (by simp) _ st
 item:=by intro X hP hw hK hc i ac s σ H E I hf st hg;subst hP hw hK;obtain⟨f0,f1,f2,f3,f4,f5⟩:=hf it (by simp);have W:=Walks.range (prog:=X.prog) (w:=X.w) (I.ok.hd hc) it lo 1 n;refine W.item i s _ _ hg st λv h' tk hv st' kk=>?_;obtain⟨t,rfl⟩:=hv;have I1:Inv X ac σ H {s with heap:=h',toks:=tk}:=I.turned (λb o hb e=>kk b o (by simpa using hb) e) f0 f1 f3 f4 f5;refine⟨_,rfl,CJ (s:={s with heap:=h',toks:=tk}) (n:="range_iterator") st' rfl rfl (by decide) ⟨.int (lo+i),H,I1,⟨t,?_⟩,⟨rfl,rfl⟩,st',λb hb=>(hf b hb).1⟩⟩;rw[Int.mul_one]
 done:=by intro X hP hw hK hc i ac s σ H E I hf st hg;subst hP hw hK;obtain⟨f0,f1,f2,f3,f4,f5⟩:=hf it (by simp);exact wpAny_pyNext_range_end (I.ok.hd hc) st (by have:n<=i:=hg;lia) λh' eb=>⟨rfl,I.turned (t':=s.toks) (λb o hb e=>eb b o hb e) f0 f1 f3 f4 f5⟩
 self:=λ_ _ _ _ _ st h=>wpAny_pyIter_rangeiter st h
section
def lQ(K:Yy)(c:TE):TI:=λσ H R=>c σ H λx b=>∃a,x=.ref a/\(∃xs,SqL K b a xs)/\R (Gc K a) b
def jr{d:TE}(f:PE X l d):PI X tg l (lQ X.K d):=by
 intro ac s σ H R I h;refine bX (f ac s σ H _ I h) λv s1 ⟨x,g,c,i,q1⟩=>?_;obtain⟨a,e,⟨xs,j⟩,q⟩:=q1;subst e;cases i;obtain⟨its,m,p,hz⟩:=c.list j;refine W9 p.isList ?_;refine⟨s1.heap.objs.size,[s1.heap.objs.size],_,_,g,rfl,c.kept (t':=s1.toks) λb o e=>RW _ e,sS a _,⟨_,UU _ rfl,rfl,rfl⟩,λb k=>?_,q⟩;have e:b=s1.heap.objs.size:=by simpa using k
 subst e;exact c.sO (UN _) (c.aU.fresh (UN _))
def vP{s:Yx}{R:It->Hp->Prop}{E:YA->Yx->Prop}{lo a:Int}{t u v:Tok}{tk:Nat}(I:Inv X ac σ H s)(h1:-(2^62)<=lo)(d:lo<2^62)(f:-(2^62)<=a)(g:a<2^62)
 (q:R (Os lo (a-lo).toNat) H):wX X (pyIter (.ref s.heap.objs.size)) (Oq X ac σ tg R) E { s with heap:=s.heap.push { cls:=.type "range",data:=.fields #[.int lo t,.int a u,.int 1 v] },toks:=tk }:=by
 refine wpAny_pyIter_range (IsRange.new ..) (small_one h1 d f g) ?_;have c:Inv X ac σ H { s with heap:=s.heap.push { cls:=.type "range",data:=.fields #[.int lo t,.int a u,.int 1 v] },toks:=tk }:=I.kept λb o e=>RW _ e;refine⟨(s.heap.push { cls:=.type "range",data:=.fields #[.int lo t,.int a u,.int 1 v] }).objs.size,[(s.heap.push { cls:=.type "range",data:=.fields #[.int lo t,.int a u,.int 1 v] }).objs.size],_,_,H,rfl,
  c.kept (t':=tk) λb o e=>RW _ e,x4 _ lo (a-lo).toNat,?_,λb h=>?_,q⟩
 .have e1:lo+((0:Nat):Int)*1=lo:=by simp
  have e2:(((a-lo).toNat:Nat):Int)-((0:Nat):Int)=Builtin.Range.rangeSize lo a 1:=by rw[rangeSize_one];split<;>lia
  show IsRangeIter _ _ (lo+((0:Nat):Int)*1) ((((a-lo).toNat:Nat):Int)-((0:Nat):Int)) 1;rw[e1,e2];exact UU _ rfl
 .have e:b=(s.heap.push { cls:=.type "range",data:=.fields #[.int lo t,.int a u,.int 1 v] }).objs.size:=by simpa using h
  subst e;exact c.sO (UN _) (c.aU.fresh (UN _))
def Ot(ta:TA):TI:=λσ H R=>ta σ H λvs a=>∃j:Int,vs=[.int j]/\-(2^62)<=j/\j<2^62/\R (Os 0 j.toNat) a
def Ou(ta:TA):TI:=λσ H R=>ta σ H λvs a=>∃i j:Int,vs=[.int i,.int j]/\(-(2^62)<=i/\i<2^62/\-(2^62)<=j/\j<2^62)/\R (Os i (j-i).toNat) a
def AV{a:Expr}{ta:TA}{p b:Pos}(c:Gl X "range") (d:X.mg "range"=none) (ha:PA X [a] ta) (hs:autoParam (starEach [a] X.env=[(false,eval a X.env)]) aM):PI X tg (.Call (.Name "range" p) [a] [] b) (Ot ta):=by
 intro ac s σ H R I h;refine Call_ (jp I c d boot_range (VZ (bX (ha b ac s σ H _ I h) λus s1 ⟨vs,k,f,g,q1⟩=>?_) hs rfl));obtain⟨j,e,q1,q2,q⟩:=q1;subst e;cases g with
 |cons r i=>cases i;obtain⟨t,rfl⟩:=r;exact call_range_1 (vP f (by lia) (by lia) q1 q2 (by simpa using q))
def AW(f:Gl X "range") (g:X.mg "range"=none) (ha:PA X [a,b] ta) (hs:autoParam (starEach [a,b] X.env=[(false,eval a X.env),(false,eval b X.env)]) aM) (c:autoParam (starEach [b] X.env=[(false,eval b X.env)]) aM) :
 PI X tg (.Call (.Name "range" p) [a,b] [] pos) (Ou ta):=by
 intro ac s σ H R I h;refine Call_ (jp I f g boot_range (VZ (bX (ha pos ac s σ H _ I h) λus s1 ⟨vs,u,k,l,q1⟩=>?_) (by rw[hs,c]) (by rw[c];rfl)));obtain⟨i,j,e,⟨q1,q2,m,n⟩,q⟩:=q1;subst e;cases l with
 |cons r d=>
  cases d with
  |cons o d=>cases d;obtain⟨t,rfl⟩:=r;obtain⟨t',rfl⟩:=o;exact call_range_2 (vP k q1 q2 m n q)
def n5(c:TI)(g:TG)(tb:TS):TS:=λD σ H=>c σ H λJ d=>∃W:Nat->Nat->St->Hp->Prop,(∃m,W 0 m σ d)/\∀i m σ H,W i m σ H->
 (J.stop i H/\D.nx σ H)\/(J.go i H/\∃N:St->Hp->Prop,(∀a H',N a H'->∃m',m'<m/\W (i+1) m' a H')/\∀x H',J.F3 i H x H'->g x σ H' λb e=>tb {D with nx:=N,ct:=N,bk:=D.nx} b e)
def qj(fp:List Addr)(h:Heap):List (Addr×Obj):=fp.filterMap λb=>(h.get? b).map λo=>(b,o)
def js(a:b∈fp)(e:h.get? b=some o):(b,o)∈qj fp h:=Xq.mpr ⟨b,a,by rw[e];rfl⟩
def AX(a:p∈qj fp h):p.1∈fp/\h.get? p.1=some p.2:=by
 obtain⟨b,c,e⟩:=Xq.mp a;cases q:h.get? b with
 |none=>rw[q]at e;cases e
 |some o=>rw[q]at e;have d:(b,o)=p:=VL e;subst d;exact⟨c,q⟩
def Inv.pinned(I:Inv X ac σ H s)(a:∀b∈fp,lI X ac H b)(f:∀b∈fp,∃o,s.heap.get? b=some o/\∀v,o.data≠.cell v):Inv X (ac++qj fp s.heap) σ H s:=
 I.AR λp c=>(U4.mp c).elim (λz=>I.pin p (Vn _ z)) λz=>by
  obtain⟨d,e⟩:=AX z;obtain⟨g,h,i,_⟩:=a p.1 d
  grind
def Inv.nT(I:Inv X (ac++pl) σ H s):Inv X ac σ H s:=I.AR λp a=>I.pin p (Vn _ (Vw _ a))
def gS(z:PassesOwn (model X.prog X.w) X.A X.env X.xe)(Q:X.calm=true)(hi:PI X tg iter wi)(hg:PG X tg g)(c:PSs X body tb)
 (hs:autoParam (∀x,foldedSetIterable iter X.env x=pure x) am):PS X (.For tg iter body [] pos) (n5 wi g tb):=by
 intro ac s σ H D I h;refine wpAny_For (bX (hi ac s σ H _ I h) λv s1 h1=>bX h1 λitv s2 h2=>?_) hs;obtain⟨it,fp,tn,J,H2,e,I2,T,G,R,W,⟨m0,w0⟩,turn⟩:=h2;subst e;have j:∀{H':Hp},(∀b∈fp,H' b=none)->∀b∈fp,lI X ac H' b:=λhn b c=>⟨hn b c,(R b c).2⟩;refine codeAny_forLoop_any (λn S=>∃i k H',Inv X ac k H' S/\tn i S.heap/\(∀b∈fp,H' b=none)/\W i n k H') ?_ m0 ⟨0,σ,H2,I2,G,λb c=>(R b c).1,w0⟩;rintro n U ⟨i,l,F,V,B,C,w3⟩;rcases turn i n l F w3 with⟨stop,qn⟩|⟨go,N,hN,step⟩
 .refine WP z (bX (T.done X rfl rfl rfl Q i ac U l F X.xe V (j C) B stop) λr s4 ⟨K,I4⟩=>?_);subst K;exact X2 ⟨l,F,I4,qn⟩
 .refine WP z (bX (T.item X rfl rfl rfl Q i ac U l F X.xe V (j C) B go) λr s4 ⟨u,K,h4⟩=>?_);subst K;refine WP z (bX h4 λ_ Y ⟨x,Z,I5,r5,y5,y,L⟩=>?_);have M:=I5.pinned (j L) (T.obj _ _ y);refine WP z (bX (hg _ Y l Z x u _ M r5 (step x Z y5)) λ_ s6 ⟨O,H6,I6,q6⟩=>?_);refine WP z (bX (c _ s6 O H6 _ I6 q6) λf P t=>?_);have again:∀{a:St}{p:Hp},Inv X (ac++qj fp Y.heap) a p P->N a p->∃m,m<n/\∃i k H',Inv X ac k H' P/\tn i P.heap/\(∀b∈fp,H' b=none)/\W i m k H':=λ{a p} q E=>by obtain⟨m',hm,w7⟩:=hN a p E;refine⟨m',hm,i+1,a,p,q.nT,T.keep _ _ _ y λb c o e=>(q.pin (b,o) (Vn _ (Vn _ (js c e)))).1,λb c=>?_,w7⟩;obtain⟨o,e,d⟩:=T.obj _ _ y b c;exact(q.pin (b,o) (Vn _ (Vn _ (js c e)))).2.1
  cases f with
  |next=>obtain⟨a,p,q,E⟩:=t;exact again q E
  |cont=>obtain⟨a,p,q,E⟩:=t;exact again q E
  |brk=>obtain⟨a,p,q,t⟩:=t;exact⟨a,p,q.nT,t⟩
  |ret v=>obtain⟨x7,a,p,q,r7,t⟩:=t;exact⟨x7,a,p,q.nT,r7,t⟩
end
def vQ{K:Yy}{a:Addr}{xs:List V}{g:TG}{tb:TS}{D:Ends}{σ:St}{H:Hp}(b:Nat->St->Hp->Prop)(j:b 0 σ H)(k:∀i σ H,i<=xs.length->b i σ H->SqL K H a xs)
 (hs:∀i x σ H,xs[i]?=some x->b i σ H->g x σ H λc h=>tb {D with nx:=b (i+1),ct:=b (i+1),bk:=D.nx} c h) (hd:∀σ H,b xs.length σ H->D.nx σ H) :
 ∃W:Nat->Nat->St->Hp->Prop,(∃m,W 0 m σ H)/\∀i m σ H,W i m σ H->
  ((Gc K a).stop i H/\D.nx σ H)\/((Gc K a).go i H/\∃N:St->Hp->Prop,(∀d H',N d H'->∃m',m'<m/\W (i+1) m' d H')/\∀x H',(Gc K a).F3 i H x H'->g x σ H' λc h=>tb {D with nx:=N,ct:=N,bk:=D.nx} c h):=by
 refine⟨λi m σ H=>m=xs.length-i/\i<=xs.length/\b i σ H,⟨xs.length,by simp,Vo _,j⟩,?_⟩;rintro i m σ H ⟨rfl,l,p⟩;have q:=k i σ H l p;by_cases f:i<xs.length
 .refine .inr ⟨⟨xs,xs[i],q,by simp[f]⟩,b (i+1),λd H' n=>⟨xs.length-(i+1),by lia,rfl,f,n⟩,λx H' y=>?_⟩;obtain⟨e,y⟩:=y;subst e;exact hs i x σ _ (y xs q) p
 .have e:i=xs.length:=by lia
  subst e;exact .inl ⟨⟨xs,q,UN _⟩,hd σ H p⟩
abbrev R2:=V->V->Hp->VK->Prop
def OpR(X:Cx)(f:YA->YA->Sem YA)(r:R2):Prop:=
 ∀(ac:List (Addr×Obj))(s:Yx)(σ:St)(H:Hp)(x y:V)(v u:YA)(Q:VK),Inv X ac σ H s->RelV x v->RelV y u->r x y H Q->
  wpAny (model X.prog X.w) X.A (f v u) (EP X ac σ Q) X.xe s
def Sq(X:Cx)(f:YA->Sem YA)(r:V->Hp->VK->Prop):Prop:=
 ∀(ac:List (Addr×Obj))(s:Yx)(σ:St)(H:Hp)(x:V)(v:YA)(Q:VK),Inv X ac σ H s->RelV x v->r x H Q->
  wpAny (model X.prog X.w) X.A (f v) (EP X ac σ Q) X.xe s
def CallR(X:Cx)(f:YA)(r:List V->Hp->VK->Prop):Prop:=
 ∀(ac:List (Addr×Obj))(s:Yx)(σ:St)(H:Hp)(xs:List V)(us:List YA)(Q:VK),Inv X ac σ H s->Vals xs us->r xs H Q->
  wpAny (model X.prog X.w) X.A (call f us) (EP X ac σ Q) X.xe s
def Sr(X:Cx)(r:V->Hp->(Bool->Hp->Prop)->Prop):Prop:=
 ∀(ac:List (Addr×Obj))(s:Yx)(σ:St)(H:Hp)(x:V)(v:YA)(Q:Bool->Hp->Prop),Inv X ac σ H s->RelV x v->r x H Q->
  wpAny (model X.prog X.w) X.A (truthy v) (TP X ac σ Q) X.xe s
def mn(r:R2)(ta tb:TE):TE:=λσ H Q=>ta σ H λx a=>tb σ a λy b=>r x y b Q
def Ue(r:V->Hp->VK->Prop)(ta:TE):TE:=λσ H Q=>ta σ H λx a=>r x a Q
def rI(C:Int->Int->Prop)(g:Int->Int->V):R2:=λx y H Q=>∃i j,x=.int i/\y=.int j/\C i j/\Q (g i j) H
def x5(g:Int->Int->V):R2:=λx y H Q=>∃i j,x=.int i/\y=.int j/\Q (g i j) H
def rU(g:Int->V):V->Hp->VK->Prop:=λx H Q=>∃i,x=.int i/\Q (g i) H
section
def Kz(ha:PE X a ta)(i:PE X b tb){R:V->V->Hp->Prop}(I:Inv X ac σ H s)
 (h:ta σ H λx g=>tb σ g λy c=>R x y c) {Q:YA->Yx->Prop} {f:YA->YA->Sem YA}
 (j:∀v u s2 x y c,Inv X ac σ c s2->RelV x v->RelV y u->R x y c->wX X (f v u) Q X.xe s2) :
 wX X (eval a X.env) (λv d=>wX X (eval b X.env) (λu e=>wX X (f v u) Q X.xe e) X.xe d) X.xe s:=by
 refine bX (ha ac s σ H _ I h) λv s1 ⟨x,g,k,l,q1⟩=>?_;refine bX (i ac s1 σ g _ k q1) λu s2 ⟨y,c,m,n,q2⟩=>?_;exact j v u s2 x y c m l n q2
def qo{op:Operator}(c:OpR X (binaryOp op) r)(ha:PE X a ta)(d:PE X b tb):PE X (.BinOp a op b pos) (mn r ta tb):=by intro ac s σ H Q I h;exact wpAny_BinOp (Kz ha d I h λv u s2 x y e f g i q=>c ac s2 σ e x y v u Q f g i q)
def Ov(b:Sq X (unaryOp op) r)(ha:PE X a ta):PE X (.UnaryOp op a pos) (Ue r ta):=by intro ac s σ H Q I h;exact UnaryOp_ (bX (ha ac s σ H _ I h) λv s1 ⟨x,c,d,e,q1⟩=>b ac s1 σ c x v Q d e q1)
def Ow{f:YA->YA->Sem YA}{C:Int->Int->Prop}{g:Int->Int->Int}
 (rule:∀(i j:Int)(t u:Tok)(s:Yx)(Q:YA->Yx->Prop)(E:YA->Yx->Prop),C i j->Q (.int (g i j) s.toks) {s with toks:=s.toks+1}->wX X (f (.int i t) (.int j u)) Q E s) :
 OpR X f (rI C λi j=>.int (g i j)):=by
 intro ac s σ H x y v u Q I a b h;obtain⟨i,j,rfl,rfl,c,q⟩:=h;obtain⟨t,rfl⟩:=a;obtain⟨t',rfl⟩:=b;exact rule i j t t' s _ _ c ⟨.int (g i j),H,I.tok _,⟨_,rfl⟩,q⟩
def Ge{f:YA->YA->Sem YA}{g:Int->Int->Int}
 (rule:∀(i j:Int)(t u:Tok)(s:Yx)(Q:YA->Yx->Prop)(E:YA->Yx->Prop),Q (.int (g i j) s.toks) {s with toks:=s.toks+1}->wX X (f (.int i t) (.int j u)) Q E s) :
 OpR X f (x5 λi j=>.int (g i j)):=by
 intro ac s σ H x y v u Q I a b h;obtain⟨i,j,rfl,rfl,q⟩:=h;obtain⟨t,rfl⟩:=a;obtain⟨t',rfl⟩:=b;exact rule i j t t' s _ _ ⟨.int (g i j),H,I.tok _,⟨_,rfl⟩,q⟩
def Gf{f:YA->YA->Sem YA}{g:Int->Int->Bool}
 (rule:∀(i j:Int)(t u:Tok)(s:Yx)(Q:YA->Yx->Prop)(E:YA->Yx->Prop),Q (.bool (g i j)) s->wX X (f (.int i t) (.int j u)) Q E s) :
 OpR X f (x5 λi j=>.bl (g i j)):=by
 intro ac s σ H x y v u Q I a b h;obtain⟨i,j,rfl,rfl,q⟩:=h;obtain⟨t,rfl⟩:=a;obtain⟨t',rfl⟩:=b;exact rule i j t t' s _ _ ⟨.bl (g i j),H,I,rfl,q⟩
def Ox(i j:Int):Prop:=0<j/\j<1073741824
def Su(i j:Int):Prop:=0<=j/\j<=1000000/\i.natAbs<2^64
def CMul(i j:Int):Prop:=(-(2^64)<i/\i<2^64)\/(-(2^64)<j/\j<2^64)
def CMul.ok(h:CMul i j):IntMulOk i j:=by
 rcases h with⟨h1,a⟩|⟨h1,a⟩
 .exact .of_left (intBits_le_64 h1 a)
 .exact .of_right (intBits_le_64 h1 a)
def x6(k:Nat):(0:Int)<=2^k:=by rw[two_pow_cast];exact Int.natCast_nonneg _
def op_add:OpR X (binaryOp .Add) (x5 λi j=>.int (i+j)):=Ge λ_ _ _ _ _ _ _ q=>add_int q
def KA:OpR X (binaryOp .Sub) (x5 λi j=>.int (i-j)):=Ge λ_ _ _ _ _ _ _ q=>sub_int q
def KB:OpR X (binaryOp .Mult) (rI CMul λi j=>.int (i*j)):=Ow λ_ _ _ _ _ _ _ a q=>mul_int q a.ok
def Gg:OpR X (binaryOp .FloorDiv) (rI Ox λi j=>.int (i/j)):=Ow λi j _ _ _ _ _ a q=>by have h1:(0:Int)<j:=a.1;have b:j<1073741824:=a.2;exact floordiv_int (by lia) (by rw[Xc i (by lia)];exact q) (.inl (PyProof.noPylong_small (by lia)))
def KC:OpR X (binaryOp .Mod) (rI (λ_ j=>0<j) λi j=>.int (i%j)):=Ow λi j _ _ _ _ _ a q=>by have h1:(0:Int)<j:=a;exact mod_int' (by lia) (by rw[Int.fmod_eq_emod_of_nonneg i (by lia)];exact q)
def KD:OpR X (binaryOp .Pow) (rI Su λi j=>.int (i^j.toNat)):=Ow λ_ _ _ _ _ _ _ a q=>pow_int_small a.1 a.2.1 a.2.2 q
def KF:OpR X (binaryOp .RShift) (rI (λ_ j=>0<=j) λi j=>.int (i/2^j.toNat)):=Ow λi j _ _ _ _ _ a q=>rshift_int a (by rw[Xc i (x6 _)];exact q)
def KG:OpR X (binaryOp .BitAnd) (x5 λi j=>.int (Builtin.bitAnd i j)):=Ge λ_ _ _ _ _ _ _ q=>and_int q
def KH:OpR X (binaryOp .BitXor) (x5 λi j=>.int (Builtin.bitXor i j)):=Ge λ_ _ _ _ _ _ _ q=>xor_int q
def Ug{f:YA->Sem YA}{g:Int->Int}
 (rule:∀(i:Int)(t:Tok)(s:Yx)(Q:YA->Yx->Prop)(E:YA->Yx->Prop),Q (.int (g i) s.toks) {s with toks:=s.toks+1}->wX X (f (.int i t)) Q E s) :
 Sq X f (rU λi=>.int (g i)):=by
 intro ac s σ H x v Q I a h;obtain⟨i,rfl,q⟩:=h;obtain⟨t,rfl⟩:=a;exact rule i t s _ _ ⟨.int (g i),H,I.tok _,⟨_,rfl⟩,q⟩
def KI:Sq X (unaryOp .USub) (rU λi=>.int (-i)):=Ug λ_ _ _ _ _ q=>neg_int q
end
noncomputable def Sv:V->V->Bool
 |.bv,.bv=>true|.bv,.int _=>true|.int _,.bv=>true|.bv,.bl _=>true|.bl _,.bv=>true|.bv,.str _=>true|.str _,.bv=>true
 |.int _,.int _=>true|.bl _,.bl _=>true|.str _,.str _=>true|.Cm _,.Cm _=>true
 |.int _,.str _=>true|.str _,.int _=>true|.bl _,.str _=>true|.str _,.bl _=>true
 |_,_=>false
def N3:R2:=λx y H Q=>Sv x y=true/\Q (.bl (decide (x=y))) H
def Gh:decide (V.int i=V.int j)=(i==j):=by rw[W4];simp
def KJ:decide (V.bl i=V.bl j)=(i==j):=by rw[W4];simp
def Gi:decide (V.str i=V.str j)=(i==j):=by rw[W4];simp
def Gj:decide (V.Cm i=V.Cm j)=(i.toList==j.toList):=by rw[W4];cases i;cases j;simp
section
def di(I:Inv X ac σ H s)(q:Q (.bl k) H)(e:k=k'):EP X ac σ Q (.bool k') s:=by subst e;exact⟨.bl k,H,I,rfl,q⟩
def zw:OpR X (compareOp .Eq) N3:=by
 intro ac s σ H x y v u Q I b a h;obtain⟨hs,q⟩:=h;cases x with
 |bv=>
  cases b;cases y with
  |bv=>cases a;exact PySem.EqNone.eq_none_none (di I q (by simp))
  |bl j=>cases a;exact PySem.EqNone.eq_none_bool (di I q (by simp))
  |int j=>obtain⟨t',rfl⟩:=a;exact PySem.EqNone.eq_none_int (di I q (by simp))
  |str j=>obtain⟨t',rfl⟩:=a;exact PySem.EqNone.eq_none_str (di I q (by simp))
  |_=>exact absurd (show false=true from hs) VA
 |bl i=>
  cases b;cases y with
  |bv=>cases a;exact PySem.EqNone.eq_bool_none (di I q (by simp))
  |bl j=>cases a;exact eq_bool (di I q KJ)
  |str j=>obtain⟨t',rfl⟩:=a;exact PySem.EqMixed.eq_bool_str (di I q (by simp))
  |_=>exact absurd (show false=true from hs) VA
 |int i=>
  obtain⟨t,rfl⟩:=b;cases y with
  |bv=>cases a;exact PySem.EqNone.eq_int_none (di I q (by simp))
  |int j=>obtain⟨t',rfl⟩:=a;exact eq_int (di I q Gh)
  |str j=>obtain⟨t',rfl⟩:=a;exact PySem.EqMixed.eq_int_str (di I q (by simp))
  |_=>exact absurd (show false=true from hs) VA
 |str i=>
  obtain⟨t,rfl⟩:=b;cases y with
  |bv=>cases a;exact PySem.EqNone.eq_str_none (di I q (by simp))
  |bl j=>cases a;exact PySem.EqMixed.eq_str_bool (di I q (by simp))
  |int j=>obtain⟨t',rfl⟩:=a;exact PySem.EqMixed.eq_str_int (di I q (by simp))
  |str j=>obtain⟨t',rfl⟩:=a;exact eq_str (di I q Gi)
  |_=>exact absurd (show false=true from hs) VA
 |Cm i=>
  obtain⟨t,rfl⟩:=b;cases y with
  |Cm j=>obtain⟨t',rfl⟩:=a;exact PySem.W.eq_bytes (di I q Gj)
  |_=>exact absurd (show false=true from hs) VA
 |_=>cases y<;>exact absurd (show false=true from hs) VA
def Jd:OpR X (compareOp .Lt) (x5 λi j=>.bl (decide (i<j))):=Gf λ_ _ _ _ _ _ _ q=>lt_int q
def Oy:OpR X (compareOp .LtE) (x5 λi j=>.bl (decide (i<=j))):=Gf λ_ _ _ _ _ _ _ q=>le_int q
def Je:OpR X (compareOp .Gt) (x5 λi j=>.bl (decide (j<i))):=Gf λ_ _ _ _ _ _ _ q=>gt_int q
def Oz:OpR X (compareOp .GtE) (x5 λi j=>.bl (decide (j<=i))):=Gf λ_ _ _ _ _ _ _ q=>ge_int q
def KL:OpR X (compareOp .Is) (λx y H Q=>y=.bv/\Q (.bl (decide (x=.bv))) H):=by
 intro ac s σ H x y v u Q I a b h;obtain⟨rfl,q⟩:=h;cases b;refine is_none_gen (di I q ?_);cases x<;>first
  |(cases a;rfl)
  |(obtain⟨t,rfl⟩:=a;rfl)
def OpR.or(h:OpR X f r)(h':OpR X f r'):OpR X f (λx y H Q=>r x y H Q\/r' x y H Q):=by
 intro ac s σ H x y v u Q I a b q;rcases q with q|q
 .exact h ac s σ H x y v u Q I a b q
 .exact h' ac s σ H x y v u Q I a b q
def bG(b:Expr)(h:autoParam (op≠.In) ab)(a:autoParam (op≠.NotIn) ab):behindInMarks op b=false:=by
 have e1:(op==CmpOp.In)=false:=by cases op<;>first|rfl|exact absurd rfl h
 have e2:(op==CmpOp.NotIn)=false:=by cases op<;>first|rfl|exact absurd rfl a
 cases b<;>simp[behindInMarks,e1,e2]
def zx(c:OpR X (compareOp op) r)(ha:PE X a ta)(d:PE X b tb)(e:behindInMarks op b=false):PE X (.Compare a [op] [b] pos) (mn r ta tb):=by intro ac s σ H Q I h;exact wpAny_Compare1 (Kz ha d I h λv u s2 x y f g i j q=>c ac s2 σ f x y v u Q g i j q) e
def o6(t:TE):TT:=λσ H Q=>t σ H λx H'=>∃k,x=.bl k/\Q k H'
def jt(d:OpR X (compareOp op) r)(ha:PE X a ta)(f:PE X b tb)(g:behindInMarks op b=false):PT X (.Compare a [op] [b] pos) (o6 (mn r ta tb)):=by intro ac s σ H Q I h;refine wpAny_isTrue_Compare1 (bX (ha ac s σ H _ I h) λv s1 ⟨x,i,j,l,q1⟩=>bX (f ac s1 σ i _ j q1) λu s2 ⟨y,m,n,o,q2⟩=>bX (d ac s2 σ m x y v u _ n l o q2) λc A ⟨z,p,q,t,k,e,w⟩=>?_) g;subst e;cases t;exact V7 ⟨p,q,w⟩
def KM(K:Yy)(x:V)(H:Hp)(k:Bool):Prop:=
 match x with
 |.bv=>k=false
 |.bl b=>k=b
 |.int i=>k=(i != 0)
 |.str y=>y.length<=sizeLine/\k=((y.length:Int) != 0)
 |.Cm y=>y.size<=sizeLine/\k=((y.size:Int) != 0)
 |.ref p=>(∃xs,SqL K H p xs/\k=!xs.isEmpty)\/(∃xs,SqT K H p xs/\k=!xs.isEmpty)\/∃kvs,H p=some (.dK kvs)/\k=!kvs.isEmpty
 |_=>False
def x8{κ:Type}{kvs:List (κ×V)}{vs:List (κ×YA)}(r:KV kvs vs):(!vs.isEmpty)=!kvs.isEmpty:=by cases r<;>rfl
def qp(r:Vals xs its):(!its.toArray.isEmpty)=!xs.isEmpty:=by cases r<;>simp
def n8:(sizeLine:Nat)<2^63:=by rw[Vk];decide
def KN:Sr X (λx H Q=>∃k,KM X.K x H k/\Q k H):=by
 intro ac s σ H x v Q I c h;obtain⟨k,e,q⟩:=h;have l:=n8;have hs:sizeLine=16777216:=Vk;cases x with
 |bv=>cases c;have a:k=false:=e;subst a;exact truthy_none ⟨H,I,q⟩
 |bl b=>cases c;have a:k=b:=e;subst a;exact V7 ⟨H,I,q⟩
 |int i=>obtain⟨t,rfl⟩:=c;have a:k=(i != 0):=e;subst a;exact PySem.P.truthy_int ⟨H,I,q⟩
 |str y=>obtain⟨t,rfl⟩:=c;obtain⟨g,a⟩ : y.length<=sizeLine/\k=((y.length:Int) != 0):=e;subst a;exact PySem.P.truthy_str (by lia) ⟨H,I.tok _,q⟩
 |Cm y=>obtain⟨t,rfl⟩:=c;obtain⟨g,a⟩ : y.size<=sizeLine/\k=((y.size:Int) != 0):=e;subst a;exact PySem.W.truthy_bytes (by lia) ⟨H,I.tok _,q⟩
 |ref p=>
  cases c;have a:(∃xs,SqL X.K H p xs/\k=!xs.isEmpty)\/(∃xs,SqT X.K H p xs/\k=!xs.isEmpty)\/∃kvs,H p=some (.dK kvs)/\k=!kvs.isEmpty:=e;rcases a with⟨xs,d,a⟩|⟨xs,d,a⟩|⟨kvs,d,a⟩
  .subst a;obtain⟨its,r,pl,hz⟩:=I.list d;have f:=r.length;exact wpAny_truthy_list pl.isList (by simp only[UZ];lia) ⟨H,I.tok _,by rw[qp r];exact q⟩
  .subst a;obtain⟨its,r,pl,hz⟩:=I.tuple d;have f:=r.length;exact truthy_tuple pl (by simp only[UZ];lia) ⟨H,I.tok _,by rw[qp r];exact q⟩
  .subst a;obtain⟨hz,j,vs,r,m⟩ : kvs.length<=sizeLine/\(p==sysModules)=false/\∃vs,KV kvs vs/\s.heap.DictOf (aI X.prog X.w) p vs:=I.aU p _ d;have f:kvs.length=vs.length:=W8 r;exact wpAny_truthy_dict j m (by lia) ⟨H,I.tok _,by rw[x8 r];exact q⟩
 |_=>exact(show False from e).elim
def CL(ha:PE X a ta)(c:∀b,isTrue a X.env b=(do let v <- b;standAt a.pos;holding [v] (truthy v))) :
 PT X a (λσ H Q=>ta σ H λx H'=>∃k,KM X.K x H' k/\Q k H'):=by
 intro ac s σ H Q I h;exact isTrue_plain (bX (ha ac s σ H _ I h) λv s1 ⟨x,d,e,f,q1⟩=>KN ac s1 σ d x v Q e f q1) (c _)
def x9:OpR X (binaryOp .Add) (λx y H Q=>∃i j,x=.str i/\y=.str j/\i.length+j.length<=sizeLine/\Q (.str (i++j)) H):=by intro ac s σ H x y v u Q I a b h;obtain⟨i,j,rfl,rfl,hz,q⟩:=h;obtain⟨t,rfl⟩:=a;obtain⟨t',rfl⟩:=b;exact add_str (λt' tk=>⟨.str (i++j),H,I.tok _,⟨_,rfl⟩,q⟩) hz
def fM(r:Vals [x] us):∃u,us=[u]/\RelV x u:=by
 cases r with
 |cons a b=>cases b;exact⟨_,rfl,a⟩
def zy(r:Vals [x,y] us):∃u a,us=[u,a]/\RelV x u/\RelV y a:=by
 cases r with
 |cons b c=>
  cases c with
  |cons d e=>cases e;exact⟨_,_,rfl,b,d⟩
def AY:CallR X (.type "int") (λxs H Q=>(∃i,xs=[.int i]/\Q (.int i) H)\/∃k,xs=[.bl k]/\Q (.int (if k then 1 else 0)) H):=by
 intro ac s σ H xs us Q I r h;rcases h with⟨i,rfl,q⟩|⟨k,rfl,q⟩
 .obtain⟨u,rfl,t,rfl⟩:=fM r;exact call_int_int ⟨.int i,H,I,⟨_,rfl⟩,q⟩
 .obtain⟨u,rfl,a⟩:=fM r;cases a;exact call_int_bool ⟨.int (if k then 1 else 0),H,I.tok _,⟨_,rfl⟩,q⟩
def vR:CallR X (.builtin "divmod") (λxs H Q=>∃i j,xs=[.int i,.int j]/\Ox i j/\∀p,H p=none->Q (.ref p) (aP H p (.tup [.int (i/j),.int (i%j)]))):=by intro ac s σ H xs us Q I r h;obtain⟨i,j,rfl,⟨h1,c⟩,q⟩:=h;obtain⟨u,d,rfl,⟨t,rfl⟩,⟨t',rfl⟩⟩:=zy r;refine divmod_int (by lia) ?_ (.inl (PyProof.noPylong_small (by lia)));rw[Xc i (by lia),Int.fmod_eq_emod_of_nonneg i (by lia)];have a:H s.heap.objs.size=none:=I.aU.fresh (UN _);refine⟨.ref s.heap.objs.size,_,?_,rfl,q _ a⟩;refine I.laid (λb o e=>RW _ e) (UN _) ⟨by simp only[U1,Wq];rw[Vk];decide,[.int (i/j) s.toks,.int (i%j) (s.toks+1)],.cons ⟨_,rfl⟩ (.cons ⟨_,rfl⟩ .nil),?_⟩;exact⟨_,UU s.heap rfl,rfl,0,rfl⟩
end
structure zr(h:Heap) (x dx C:Addr) (mA:Str->Option YA):Prop where
 obj:h.get? x=some (instObj C dx)
 ns:h.Ns1 dx mA
 ne:dx≠x
def AZ{h:Heap}{b:Str->Option YA}(n:h.Ns1 dx b):∃od,h.get? dx=some od/\∀name,lookIn name od=some (b name):=by
 obtain⟨o,es,k,c,hd,d,_,f⟩:=n;refine⟨o,c,λname=>?_⟩;have e:=f name;unfold nsFind findBy at e;rw[<- Array.find?_toList]at e;unfold lookIn;rw[hd];dsimp only;split
 .rename_i y q;rw[q]at e;exact Wo some e
 .rename_i q;rw[q]at e;have a:es.toList.any (·.refKey)=false:=by rw[List.any_eq_false];intro y g;obtain⟨z,t,i⟩:=d y (Array.mem_toList_iff.mp g);simp[DictEntry.refKey,i]
  have j:¬es.toList.any (·.refKey)=true:=by rw[a];exact VA
  rw[UV j];exact Wo some e
def zr.look(I:zr h x dx C mA):∃od,PySem.W.InstAt h x (instObj C dx) C (some od)/\∀name,lookIn name od=some (mA name):=
 let ⟨od,a,b⟩:=AZ I.ns
 ⟨od,⟨I.obj,rfl,rfl,a⟩,b⟩
section
variable{prog:Yz}{w:World}{A:YB}{E:YA->Yx->Prop}{s:Yx}{K:Yy}{x dx C f:Addr}{mA:Str->Option YA}{name:Str}{v:YA}
def Gk(X:K.In s.heap)(I:zr s.heap x dx C mA)(b:plainGet K C name=true)(c:hasDictIn K C=true)
 (ha:findIn K (.ref C) name=some none) (d:mA name=some v) (a:PySem.W.handedIn v=true) (h:Q v {s with toks:=s.toks+1}) :
 wpAny (model prog w) A (getAttr (.ref x) name expr) Q E s:=by
 obtain⟨od,J,e⟩:=I.look;exact PySem.W.get_value X J (X3 b).1 (PySem.W.findObj_own c ha rfl (by rw[e,d])) a h
def CM(X:K.In s.heap)(I:zr s.heap x dx C mA)(a:plainGet K C name=true)
 (b:findIn K (.ref C) name=some (some (.ref f))) (c:isFn K (.ref f)=true) (d:mA name=none) (h:Q (.ref f,[.ref x]) s) :
 wpAny (model prog w) A (getMethod (.ref x) name pl) Q E s:=by
 obtain⟨od,J,e⟩:=I.look;exact PySem.W.method_fn X J (X3 a).1 (X3 a).2 b (W2.mp c) (by show(lookIn name od).map (·.isSome)=some false;rw[e,d];rfl) h
def Gm(X:K.In s.heap)(I:zr s.heap x dx C mA)
 (hs:findIn K (.ref C) "__setattr__"=some (some (.builtin "object.__setattr__"))) (k:PySem.W.plainOver K C=true) (l:PySem.W.takerIn K C name=some none) (m:hasDictIn K C=true)
 (n:PySem.Within mA ns) (hsz:ns.length<=sizeLine)
 (h:∀h',zr h' x dx C (λy=>if y=name then some v else mA y)->Heap.SameBut dx s.heap h'->Q () {s with heap:=h',toks:=s.toks+2}) :
 wpAny (model prog w) A (setAttr (.ref x) name v) Q E s:=by
 obtain⟨od,J,u⟩:=I.look;refine PySem.W.set_plain X J hs (PySem.W.osa_open (s:={s with toks:=s.toks+1}) (r:=none) X J k l λb=>?_);obtain⟨z,o,e⟩:=PySem.W.any_some m;have p:s.heap.get? x=some ⟨.ref C,some dx,.plain,#[]⟩:=I.obj;refine KE (UM (KE (KE (wpAny_loadPart p (KE (PySem.W.Looks.here (s:={s with toks:=s.toks+1}) (PySem.W.looks_clsIn X o) ?_))))));rw[e];refine UM (a:=some dx) (KE (UM (KE ?_)));refine wpAny_nsSet1 (s:={s with toks:=s.toks+1}) I.ns λh' c d=>?_;obtain⟨oD,q,t,g,i,j⟩:=c.count (PySem.Within.cons name v n);refine KE (wpAny_lookBehind g (by rw[i];exact pastItsLine_dict (Vf j (by rw[U1];lia))) ?_);exact UM (h _ ⟨(d.2 _ (V2 I.ne)).trans I.obj,c,I.ne⟩ d)
def CN(X:K.In s.heap)(a:PySem.W.makesIn K C=true)
 (b:findIn K (.ref C) "__init__"=some (some (.ref f))) (c:PySem.W.typeIn K (.ref f)=some (.type "function"))
 (h:codeAny (model prog w) (A.under (.builtin "type.__call__" ⟨.ref C::vs,kw⟩)) (.call (.ref f) ⟨.ref (s.heap.objs.size+1)::vs,kw⟩) (PySem.W.InitBack (s.heap.objs.size+1) R)
   {s with heap:=(s.heap.push emptyDict).push (instObj C s.heap.objs.size)}) :
 codeAny (model prog w) A (.call (.ref C) ⟨vs,kw⟩) R s:=by
 obtain⟨e,g,d,t,os⟩:=s;exact PySem.W.make_core (PySem.W.makes_of X a) (PySem.W.looks_findIn X b) (λself=>PySem.W.bind_fn X self c) (.inl rfl) h
end
noncomputable def jb(f:Str)(v:V):List (Str×V)->List (Str×V)
 |[]=>[(f,v)]
 |(g,x)::r=>if g=f then(g,v)::r else(g,x)::jb f v r
theorem o7(f g:Str)(v:V):∀fs:List (Str×V),(jb f v fs).lookup g=if g=f then some v else fs.lookup g
 |[]=>by
  show List.lookup g [(f,v)]=_
  grind
 |(k,x)::r=>by
  have a:=o7 f g v r
  grind [jb]
theorem n9(f:Str)(v:V):∀fs:List (Str×V),f∈(jb f v fs).map (·.1)/\∀g,g∈fs.map (·.1)->g∈(jb f v fs).map (·.1)
 |[]=>⟨by simp[jb],λg h=>by simp at h⟩
 |(k,x)::r=>by
  obtain⟨a,b⟩:=n9 f v r
  grind [jb]
theorem o8(f:Str)(v:V):∀fs:List (Str×V),(jb f v fs).length<=fs.length+1
 |[]=>by simp[jb]
 |(k,x)::r=>by
  have b:=o8 f v r;rw[show jb f v ((k,x)::r)=(if k=f then(k,v)::r else(k,x)::jb f v r)from rfl];by_cases a:k=f
  .rw[UP a,U1,U1];lia
  .rw[UV a,U1,U1];lia
def RelO.some_of(r:RelO (some v) o):∃u,o=some u/\RelV v u:=by
 cases o with
 |none=>exact(show False from r).elim
 |some u=>exact⟨u,rfl,r⟩
def RelO.none_of(r:RelO none o):o=none:=by
 cases o with
 |none=>rfl
 |some u=>exact(show False from r).elim
def A0(r:RelV v u):PySem.W.handedIn u=true:=by
 cases v with
 |bv=>cases(show u=Value.none from r);rfl
 |bl b=>cases(show u=Value.bool b from r);rfl
 |int i=>obtain⟨t,e⟩:=(show ∃t,u=Value.int i t from r);cases e;rfl
 |str x=>obtain⟨t,e⟩:=(show ∃t,u=Value.str x t from r);cases e;rfl
 |Cm b=>obtain⟨t,e⟩:=(show ∃t,u=Value.bytes b t from r);cases e;rfl
 |J6 b=>obtain⟨t,e⟩:=(show ∃t,u=Value.float b t from r);cases e;rfl
 |ref a=>cases(show u=Value.ref a from r);rfl
 |ty n=>cases(show u=Value.type n from r);rfl
section
def pM(aU:HOk P w H h)(e:H a=some (.ins C dx fs)):∃b,zr h a dx C b/\(∀f,RelO (fs.lookup f) (b f))/\PySem.Within b (fs.map (·.1))/\fs.length<=1000/\H dx=some (.own a):=by obtain⟨d,z,ne,c,b,n,r,q⟩:=(show ObjOk P w H h a (.ins C dx fs)from aU a _ e);exact⟨b,⟨c,n,ne⟩,r,q,z,d⟩
end
structure vy(K:Yy) (C:Addr):Prop where
 pg:plainGet K C Str.empty=true
 hd:hasDictIn K C=true
 po:PySem.W.plainOver K C=true
 sa:findIn K (.ref C) "__setattr__"=some (some (.builtin "object.__setattr__"))
theorem vy.get{K:Yy}(c:vy K C)(f:Str):plainGet K C f=true:=c.pg
def NoAttr(K:Yy)(C:Addr)(f:Str):Prop:=findIn K (.ref C) f=some none
def NoAttr.taker{K:Yy}(n:NoAttr K C f):PySem.W.takerIn K C f=some none:=by unfold PySem.W.takerIn;rw[show findIn K (.ref C) f=some none from n];rfl
structure Meth(K:Yy) (C:Addr) (m:Str) (f:Addr):Prop where
 at_:findIn K (.ref C) m=some (some (.ref f))
 fn:isFn K (.ref f)=true
 kp:keepIn K (.ref f)=true
section
def x_(I:Inv X ac σ H s)(e:H a=some (.ins C dx fs))(c:vy X.K C)(n:NoAttr X.K C f)(l:fs.lookup f=some v)
 (h:∀u d,Inv X ac σ H d->RelV v u->Q u d):wpAny (model X.prog X.w) A (getAttr (.ref a) f b) Q E s:=by
 obtain⟨i,O,r,_,_,_⟩:=pM I.aU e;obtain⟨u,j,g⟩:=RelO.some_of (v:=v) (o:=i f) (by rw[<- l];exact r f);exact Gk I.o5 O (c.get f) c.hd n j (A0 g) (h u _ (I.tok _) g)
def qu(I:Inv X ac σ H s)(e:H a=some (.ins C dx fs))(c:vy X.K C)(k:Meth X.K C m g)(l:fs.lookup m=none)
 (h:Q (.ref g,[.ref a]) s):wpAny (model X.prog X.w) A (getMethod (.ref a) m pl) Q E s:=by
 obtain⟨b,O,r,_,_,_⟩:=pM I.aU e;have d:b m=none:=RelO.none_of (by rw[<- l];exact r m);exact CM I.o5 O (c.get m) k.at_ k.fn d h
def ya(I:Inv X ac σ H s)(e:H a=some (.ins C dx fs))(c:vy X.K C)(n:NoAttr X.K C f)(B:fs.length<1000)(D:RelV y u)
 (h:∀i,Inv X ac σ (aP H a (.ins C dx (jb f y fs))) i->Q () i):wpAny (model X.prog X.w) A (setAttr (.ref a) f u) Q E s:=by
 obtain⟨l,O,r,j,_,k⟩:=pM I.aU e;have hz:(fs.map (·.1)).length<=sizeLine:=by rw[UO,Vk];lia
 refine Gm I.o5 O c.sa c.po n.taker c.hd j hz λh' d m=>h _ ?_;have hd:∃o,h'.get? dx=some o:=let ⟨o,_,_,p,_⟩:=d.ns;⟨o,p⟩;refine I.write (x:=a) (e:=dx) (by rw[e];exact tI_) (.inr k) (λb q t z=>(m.2 b t).trans z) hd ?_;refine⟨by rw[af O.ne];exact k,?_,O.ne,d.obj,_,d.ns,λg=>?_,λg v=>?_⟩
 .have:=o8 f y fs;lia
 .grind [RelO,jb,o7]
 .by_cases q:g=f
  .rw[q];exact(n9 f y fs).1
  .refine(n9 f y fs).2 g (j g λz=>v ?_);show(if g=f then some u else l g)=none;rw[UV q];exact z
def Inv.made(I:Inv X ac σ H s):Inv X ac σ (aP (aP H s.heap.objs.size (.own (s.heap.objs.size+1))) (s.heap.objs.size+1) (.ins C s.heap.objs.size []))
 {s with heap:=(s.heap.push emptyDict).push (instObj C s.heap.objs.size)}:=by
 have e1:(s.heap.push emptyDict).get? s.heap.objs.size=some emptyDict:=UU s.heap rfl;have e2:((s.heap.push emptyDict).push (instObj C s.heap.objs.size)).get? (s.heap.objs.size+1)=some (instObj C s.heap.objs.size):=by
  have:=UU (s.heap.push emptyDict) (o:=instObj C s.heap.objs.size) rfl
  rwa [WN]at this
 have e3:(s.heap.push emptyDict).Ns s.heap.objs.size (λ_=>none):=⟨emptyDict,#[],_,e1,rfl,(λe c=>absurd c (by simp)),λ_=>rfl⟩;have d:=I.laid (a:=s.heap.objs.size) (o:=.own (s.heap.objs.size+1)) (h':=s.heap.push emptyDict) (t':=s.toks) (λb u q=>RW _ q) (UN _) ⟨_,e1⟩;refine d.laid (a:=s.heap.objs.size+1) (o:=.ins C s.heap.objs.size []) (t':=s.toks) (λb u q=>RW _ q) (Ys (WN _ _)) ?_;have ne:s.heap.objs.size≠s.heap.objs.size+1:=U9 (WH _);refine⟨by rw[af ne,ag],Vo _,ne,e2,λ_=>none,(Heap.Ns1.of_empty e3).at λo q=>RW _ q,λ_=>tI_,λy f=>absurd rfl f⟩
def Gn(b:attributeBase e f env (eval e env)=eval e env)
 (h:wpAny (model prog w) A (eval e env) (λo a=>wpAny (model prog w) A (getAttr o f true) Q E a) E s):wpAny (model prog w) A (eval (.Attribute e f pos) env) Q E s:=
 Attribute_any_ h (by rw[arm_eval_Attribute,b])
end
def gh(K:Yy)(ta:TE)(f:Str):TE:=λσ H Q=>ta σ H λx b=>∃a C c fs v,x=.ref a/\b a=some (.ins C c fs)/\vy K C/\NoAttr K C f/\fs.lookup f=some v/\Q v b
def ue(K:Yy)(ta d:TE)(f:Str):TS:=λD σ H=>d σ H λy e=>ta σ e λx b=>∃a C c fs,x=.ref a/\b a=some (.ins C c fs)/\vy K C/\NoAttr K C f/\fs.length<1000/\
 D.nx σ (aP b a (.ins C c (jb f y fs)))
section
def cH(b:PE X e ta)(d:attributeBase e f X.env (eval e X.env)=eval e X.env):PE X (.Attribute e f pos) (gh X.K ta f):=by intro ac s σ H Q I h;refine Gn d (bX (b ac s σ H _ I h) λu s1 z=>?_);obtain⟨x,g,i,j,a,C,p,fs,v,rfl,k,c,n,l,q⟩:=z;obtain rfl:u=Value.ref a:=j;exact x_ i k c n l λu' s2 m o=>⟨v,g,m,o,q⟩
def kg(ha:PE X o ta)(b:PE X value tv)(hs:swapsWith value (some (.Attribute o f pos')) pos.line X.env=pure false):PS X (.Assign [.Attribute o f pos'] value pos) (ue X.K ta tv f):=by intro ac s σ H D I h;refine plainObj_wpAny_Assign_Attribute (bX (b ac s σ H _ I h) λu s1 ⟨y,d,e,g,q⟩=>bX (ha ac s1 σ d _ e q) λi s2 z=>?_) hs;obtain⟨x,r,j,k,a,C,t,fs,rfl,m,c,n,l,q2⟩:=z;obtain rfl:i=Value.ref a:=k;exact ya j m c n l g λv p=>⟨σ,_,p,q2⟩
end
section
inductive oZ(K:Yy) (H:Hp):V->YA->Prop where
 |bv:oZ K H .bv (.type "NoneType")
 |bl (x:Bool):oZ K H (.bl x) (.type "bool")
 |int (i:Int):oZ K H (.int i) (.type "int")
 |str (x:Str):oZ K H (.str x) (.type "str")
 |J6 (x:UInt64):oZ K H (.J6 x) (.type "float")
 |lst {a:Addr} {xs:List V} (e:H a=some (.lst xs)):oZ K H (.ref a) (.type "list")
 |ba {a:Addr} {o:Obj} {xs:List V} (e:H a=some (.ba o (.lst xs))):oZ K H (.ref a) (.type "list")
 |tup {a:Addr} {xs:List V} (e:H a=some (.tup xs)):oZ K H (.ref a) (.type "tuple")
 |dK {a:Addr} {kvs:List (bH×V)} (e:H a=some (.dK kvs)):oZ K H (.ref a) (.type "dict")
 |dT {a:Addr} {kvs:List (List bH×V)} (e:H a=some (.dT kvs)):oZ K H (.ref a) (.type "dict")
 |ins {a C dx:Addr} {fs:List (Str×V)} (e:H a=some (.ins C dx fs)) (cl:vy K C) (ha:findIn K (.ref C) "__class__"=some (some (.builtin "object.__class__")))
  (hn:PySem.W.specialIn K (.builtin "object.__class__") "__get__"=some (some (.builtin "getset_descriptor.__get__"))) (htk:PySem.W.takesIn K (.builtin "object.__class__")=some true)
  (hm:PySem.W.mroIn K C (.type "object")=some true):oZ K H (.ref a) (.ref C)
def A1(I:Inv X ac σ H s)(d:RelV x u)(ty:oZ X.K H x t)(e:PySem.W.kitOne X.K t c=some b)(h:∀tk,Q (.bool b) {s with toks:=tk}) :
 wpAny (model X.prog X.w) A (call (.builtin "isinstance") [u,c]) Q E s:=by
 cases ty with
 |bv=>cases(show u=Value.none from d);exact V0 PySem.W.kitx_none I.o5 tI_ e (λz=>nomatch z) h
 |bl y=>cases(show u=Value.bool y from d);exact V0 PySem.W.kitx_bool I.o5 tI_ e (λz=>nomatch z) h
 |int i=>obtain⟨t,q⟩:=(show ∃t,u=Value.int i t from d);cases q;exact V0 PySem.W.kitx_int I.o5 tI_ e (λz=>nomatch z) h
 |str y=>obtain⟨t,q⟩:=(show ∃t,u=Value.str y t from d);cases q;exact V0 PySem.W.kitx_str I.o5 tI_ e (λz=>nomatch z) h
 |J6 y=>obtain⟨t,q⟩:=(show ∃t,u=Value.float y t from d);cases q;exact V0 PySem.W.kitx_float I.o5 tI_ e (λz=>nomatch z) h
 |@lst a xs f=>cases(show u=Value.ref a from d);obtain⟨_,_,n,_,h1⟩:=(show ObjOk X.prog X.w H s.heap a (.lst xs)from I.aU a _ f);exact V0 PySem.W.kitx_list I.o5 ⟨_,h1,rfl⟩ e (λz=>nomatch z) h
 |@ba a k xs f=>cases(show u=Value.ref a from d);obtain⟨_,_,_,n,_,h1⟩:=(show ObjOk X.prog X.w H s.heap a (.ba k (.lst xs))from I.aU a _ f);exact V0 PySem.W.kitx_list I.o5 ⟨_,h1,rfl⟩ e (λz=>nomatch z) h
 |@tup a xs f=>cases(show u=Value.ref a from d);obtain⟨_,_,_,p⟩:=(show ObjOk X.prog X.w H s.heap a (.tup xs)from I.aU a _ f);obtain⟨o,h1,g,_⟩:=p;exact V0 PySem.W.kitx_tuple I.o5 ⟨o,h1,g⟩ e (λz=>nomatch z) h
 |@dK a kvs f=>cases(show u=Value.ref a from d);obtain⟨_,_,vs,_,p⟩:=(show ObjOk X.prog X.w H s.heap a (.dK kvs)from I.aU a _ f);obtain⟨o,es,l,h1,g,_⟩:=p;exact V0 Yc I.o5 ⟨o,h1,g.1⟩ e (λz=>nomatch z) h
 |@dT a kvs f=>cases(show u=Value.ref a from d);obtain⟨_,_,xs,_,o,es,l,h1,g,_⟩:=(show ObjOk X.prog X.w H s.heap a (.dT kvs)from I.aU a _ f);exact V0 Yc I.o5 ⟨o,h1,g.1⟩ e (λz=>nomatch z) h
 |@ins a C v fs f cl ha m j r=>cases(show u=Value.ref a from d);obtain⟨B,O,_⟩:=pM I.aU f;obtain⟨od,J,_⟩:=O.look;exact V0 (PySem.W.kitx_own (cl.get _) cl.hd ha m j r) I.o5 J e (λz=>nomatch z) h
end
structure dR(k:Nat) (A:YB):Prop where
 hd:A.handled=none
 dp:A.depth+3*k+5<recursionLimit
 un:A.units+16*k+200<cLine
def dR.mono(r:dR k A)(h:j<=k):dR j A:=⟨r.hd,by have:=r.dp;lia,by have:=r.un;lia⟩
theorem dR.deeper(r:dR (k+1) A)(env:Env):dR k (A.deeper env):=⟨r.hd,by have:=r.dp;show A.depth+1+3*k+5<_;lia,by have:=r.un;show A.units+3+16*k+200<_;lia⟩
def yb{A:YB}{C:Addr}:(A.under (.builtin "type.__call__" ⟨.ref C::us,kw⟩)).depth=A.depth+1:=by
 first|rfl|simp[Around.under,Code.weight,Code.isCreation,Code.isGuard,Code.isCaller,Code.frames,Code.isFrame,guardIds]
def yc{A:YB}{C:Addr}:(A.under (.builtin "type.__call__" ⟨.ref C::us,kw⟩)).units=A.units+1:=by
 first|rfl|simp[Around.under,Code.cUnits,Code.frames,Code.isFrame]
def dR.make(r:dR (k+1) A) (C:Addr) (us:List YA) (a:List (Str×YA)):dR k (A.under (.builtin "type.__call__" ⟨.ref C::us,a⟩)):=⟨r.hd,by have:=r.dp;rw[yb];lia,by have:=r.un;rw[yc];lia⟩
theorem dR.depth(r:dR k A):A.depth<recursionLimit:=by have:=r.dp;lia
theorem dR.units(r:dR k A):A.units+64<cLine:=by have:=r.un;lia
def bB:TA:=λ_ H Q=>Q [] H
def aB(ta:TE)(tr:TA):TA:=λσ H Q=>ta σ H λx a=>tr σ a λxs b=>Q (x::xs) b
section
def aH:PA X [] bB:=λ_ _ _ _ H Q I h=>WE ⟨[],H,I,.nil,h⟩
def aj(ha:PE X e te)(b:PA X es t)(hs:autoParam (starEach (e::es) X.env=(false,eval e X.env)::starEach es X.env) aM):PA X (e::es) (aB te t):=by intro a ac s σ H Q I h;rw[hs];show wpAny _ _ (spliced ((false,eval e X.env)::backTo a (starEach es X.env))) _ _ s;refine V3 (bX (ha ac s σ H _ I h) λu s1 ⟨x,c,d,f,q1⟩=>?_);exact bX (b a ac s1 σ c _ d q1) λus s2 ⟨xs,g,i,j,q2⟩=>⟨x::xs,g,i,.cons f j,q2⟩
def kh(t:TA):TE:=λσ H Q=>t σ H λxs a=>xs.length<=sizeLine/\∀p,a p=none->Q (.ref p) (aP a p (.tup xs))
def vS(t:TA):TE:=λσ H Q=>t σ H λxs a=>xs.length<=sizeLine/\∀p,a p=none->Q (.ref p) (aP a p (.lst xs))
def dj{x1}(h:PA X es t):PE X (.Tuple es x1 pos) (kh t):=by intro ac s σ H Q I d;refine wpAny_Tuple_spliced (bX (h pos ac s σ H _ I d) λus s1 ⟨xs,a,c,r,z,q⟩=>⟨by rw[<- r.length];exact z,?_⟩);have f:a s1.heap.objs.size=none:=c.aU.fresh (UN _);refine⟨.ref s1.heap.objs.size,aP a s1.heap.objs.size (.tup xs),c.laid (t':=s1.toks) (λb u e=>RW _ e) (UN _) ?_,rfl,q _ f⟩;exact⟨z,us,r,⟨_,UU _ rfl,rfl,_,rfl⟩⟩
def jv(h:PA X es t):PE X (.List es pos) (vS t):=by intro ac s σ H Q I d;refine wpAny_List_spliced (bX (h pos ac s σ H _ I d) λus s1 ⟨xs,a,c,r,z,q⟩=>⟨by rw[<- r.length];exact z,?_⟩);have f:a s1.heap.objs.size=none:=c.aU.fresh (UN _);refine⟨.ref s1.heap.objs.size,aP a s1.heap.objs.size (.lst xs),c.laid (t':=s1.toks) (λb u e=>RW _ e) (UN _) ?_,rfl,q _ f⟩;exact⟨z,us,0,r,UU _ rfl⟩
end
abbrev Sp:=List V->Hp->VK->XK->Prop
abbrev FZ:=List Env->Hp->Yx->XK->YA->Yx->Prop
structure zp(P:Yz) (w:World) (K:Yy) (mg:Str->Option YA) (base:Heap) (A:YB) (outer:List Env) (s:Yx) (H:Hp):Prop where
 frames:A.frames=some outer
 mod:Mod K mg base
 bs:∀b o,base.get? b=some o->s.heap.get? b=some o/\H b=none
 F5:base.objs.size<=s.heap.objs.size
 oY:s.heap.FunFrames base outer
 J3:∀b∈Cw outer,H b=none
 aU:HOk P w H s.heap
 bare:AllBare s.gens
 kt:Sf K H
def CE(outer:List Env)(P:Yz)(w:World)(H:Hp)(s:Yx)(Q:VK)(u:YA)(a:Yx):Prop:=∃v H',a.os=s.os/\AllBare a.gens/\Un (Cw outer) [] H H' s.heap a.heap/\HOk P w H' a.heap/\RelV v u/\Q v H'
def CR(CX:FZ)(outer:List Env)(P:Yz)(w:World)(H:Hp)(s:Yx)(Q:VK)(E:XK)(r:Result)(a:Yx):Prop:=
 match r with
 |.ok (.ret u)=>CE outer P w H s Q u a
 |.ok _=>False
 |.error e=>CX outer H s E e a
structure bO(P:Yz) (w:World) (K:Yy) (mg:Str->Option YA) (base:Heap) (CX:FZ) (k:Nat) (f:Addr) (fd:FuncData) (ps:List Str) (sp:Sp):Prop where
 len:∀vs H Q E,sp vs H Q E->vs.length=ps.length
 run:∀(A:YB)(outer:List Env)(s:Yx)(H:Hp)(args:Args)(us:List YA)(vs:List V)(Q:VK)(E:XK),dR k A->zp P w K mg base A outer s H->BindsTo s fd args (ps.zip us)->Vals vs us->sp vs H Q E->
  codeAny (model P w) A (.call (.ref f) args) (CR CX outer P w H s Q E) s
def bO.imp{P:Yz}{w:World}{K:Yy}{mg:Str->Option YA}{base:Heap}{CX:FZ}(F:bO P w K mg base CX k f fd ps sp)
 (h:∀vs H Q E,sp' vs H Q E->sp vs H Q E):bO P w K mg base CX k f fd ps sp':=
 ⟨λvs H Q E q=>F.len vs H Q E (h _ _ _ _ q),λA outer s H args us vs Q E a b c d hs=>F.run A outer s H args us vs Q E a b c d (h _ _ _ _ hs)⟩
def zp.make{P:Yz}{w:World}{K:Yy}{mg:Str->Option YA}{base:Heap}(e:zp P w K mg base A outer s H)(C:Addr)(us:List YA)(a:List (Str×YA)) :
 zp P w K mg base (A.under (.builtin "type.__call__" ⟨.ref C::us,a⟩)) outer s H:=⟨by first|exact e.frames|(simpa[Around.under,Code.envs,Code.isFrame,pushEnvs]using e.frames),e.mod,e.bs,e.F5,e.oY,e.J3,e.aU,e.bare,e.kt⟩
section
def Inv.RB(I:Inv X ac σ H s):zp X.prog X.w X.K X.mg X.base X.A X.stack s H:=⟨I.ok.frames,I.ok.mod,I.bs,Vf I.ok.F5 I.sz,I.stack,I.AQ,I.aU,I.bare,I.kt⟩
def Inv.after(I:Inv X ac σ H s)(h:CE X.stack X.prog X.w H s Q u s'):EP X ac σ Q u s':=by obtain⟨v,H',os,bare,un,aU,r,q⟩:=h;obtain⟨c,g,d,t,a⟩:=s';obtain rfl:a=s.os:=os;exact⟨v,H',I.call (h':=c) (g':=g) (d':=d) (t':=t) (ch:=[]) un aU bare (λb z=>absurd z (by simp)),r,q⟩
end
def zA(sp:Sp)(a:List V)(E:XK)(t:TA):TE:=λσ H Q=>t σ H λvs b=>sp (vs++a) b Q E
def gq(C:Addr)(m:Str)(sp:Sp)(b:List V)(E:XK)(ta:TE)(t:TA):TE:=λσ H Q=>ta σ H λx c=>∃a d fs,x=.ref a/\c a=some (.ins C d fs)/\fs.lookup m=none/\
 t σ c λvs e=>sp (x::(vs++b)) e Q E
def zB(C:Addr)(sp:Sp)(b:List V)(E:XK)(t:TA):TE:=λσ H Q=>t σ H λvs c=>∀x a,c x=none->c a=none->a≠x->
 sp (.ref x::(vs++b)) (aP (aP c a (.own x)) x (.ins C a [])) (λv d=>v=.bv/\Q (.ref x) d) E
def Binds(K:Yy)(fd:FuncData)(ps:List Str)(ds:List YA):Prop:=∀(s:Yx)(us:List YA),K.In s.heap->(us++ds).length=ps.length->BindsTo s fd ⟨us,[]⟩ (ps.zip (us++ds))
def Binds.all{K:Yy}(h:∀us:List YA,us.length=ps.length->bindArgs fd ⟨us,[]⟩=pure (ps.zip us)):Binds K fd ps []:=λs us _ a=>by rw[W5]at a ⊢;exact .of_eq (h us a)
def gU(CX:FZ)(X:Cx)(E:XK):Prop:=∀(ac:List (Addr×Obj))(σ:St)(H:Hp)(s:Yx)(e:YA)(a:Yx),Inv X ac σ H s->CX X.stack H s E e a->X.xe e a
section
def yd(F:bO X.prog X.w X.K X.mg X.base CX k f fd ps sp)(c:dR k X.A)(d:Binds X.K fd ps ds)(hd:Vals dvs ds)(g:gU CX X E)
 (I:Inv X ac σ H s) (r:Vals vs us) (h:sp (vs++dvs) H Q E):wX X (call (.ref f) us) (EP X ac σ Q) X.xe s:=by
 have b:Vals (vs++dvs) (us++ds):=r.append hd;have i:(us++ds).length=ps.length:=by rw[<- b.length];exact F.len _ _ _ _ h
 refine wpAny_call (XI (F.run X.A X.stack s H ⟨us,[]⟩ (us++ds) (vs++dvs) Q E c I.RB (d s us I.o5 i) b h) λr j a=>?_);cases r with
 |error e=>exact g ac σ H s e j I a
 |ok fl=>
  cases fl with
  |ret u=>exact I.after a
  |next=>exact False.elim a
  |brk=>exact False.elim a
  |cont=>exact False.elim a
def uf(F:bO X.prog X.w X.K X.mg X.base CX k f fd ps sp)(d:dR k X.A)(g:Gl X x)(i:X.mg x=some (.ref f))(j:keepIn X.K (.ref f)=true)(l:Binds X.K fd ps ds)(hd:Vals dvs ds)(m:gU CX X E)
 (ha:PA X (e::es) t) (a:autoParam (dB x) ab) (n:autoParam (sE X e es) aM) (b:autoParam (bT X pos es) aM) :
 PE X (.Call (.Name x p) (e::es) [] pos) (zA sp dvs E t):=by
 intro ac s σ H Q I h;refine WJ (uc I g i ?_ a);refine X6 (h₀:=X.base) I.ok.mod.mD j (bX (ha pos ac s σ H _ I h) λus s1 ⟨vs,o,c,r,q⟩=>⟨c.o5,?_⟩) n b;exact yd F d l hd m c r q
def gu(p:PE X o ta)(c:vy X.K C)(g:Meth X.K C m f)(F:bO X.prog X.w X.K X.mg X.base CX k f fd ps sp)(v:dR k X.A)(y:Binds X.K fd ps ds)(hd:Vals dvs ds)(B:gU CX X E)(ha:PA X (e::es) t)
 (b:autoParam (starEach (e::es) X.env=(false,eval e X.env)::starEach es X.env) aM) (d:autoParam (bT X pos es) aM)
 (D:autoParam (eval (.Call (.Attribute o m apos) (e::es) [] pos) X.env=(do
   let i <- eval o X.env
   standAt apos.atName
   let (f,first) <- holding [i] (getMethod i m pl)
   callWith pos f first (backTo pos (starEach (e::es) X.env)) (backToKw pos (keywordEach [] X.env)))) aM) :
 PE X (.Call (.Attribute o m apos) (e::es) [] pos) (gq C m sp dvs E ta t):=by
 intro ac s σ H Q I h;refine PySem.W.methodCall_KW (pl:=pl) (bX (p ac s σ H _ I h) λu s1 z=>?_) D;obtain⟨x,G,j,J,a,M,fs,rfl,L,l,q⟩:=z;obtain rfl:u=Value.ref a:=J;refine qu j L c g l ?_;refine X6 (first:=[.ref a]) (h₀:=X.base) I.ok.mod.mD g.kp (bX (ha pos ac s1 σ G _ j q) λus s2 ⟨vs,N,n,r,q2⟩=>⟨n.o5,?_⟩) b d;exact yd (us:=.ref a::us) (vs:=.ref a::vs) F v y hd B n (.cons rfl r) q2
def qw(g:PE X o ta)(c:vy X.K C)(d:Meth X.K C m f)(F:bO X.prog X.w X.K X.mg X.base CX k f fd ps sp)(i:dR k X.A)(j:Binds X.K fd ps ds)(hd:Vals dvs ds)(n:gU CX X E)
 (p:autoParam (eval (.Call (.Attribute o m apos) [] [] pos) X.env=(do
   let e <- eval o X.env
   standAt apos.atName
   let (f,first) <- holding [e] (getMethod e m pl)
   callWith pos f first (backTo pos (starEach [] X.env)) (backToKw pos (keywordEach [] X.env)))) aM) :
 PE X (.Call (.Attribute o m apos) [] [] pos) (gq C m sp dvs E ta bB):=by
 intro ac s σ H Q I h;refine PySem.W.methodCall_KW (pl:=pl) (bX (g ac s σ H _ I h) λu s1 z=>?_) p;obtain⟨x,v,b,r,a,y,fs,rfl,t,l,q⟩:=z;obtain rfl:u=Value.ref a:=r;refine qu b t c d l ?_;exact PySem.W.callWith_K0 (first:=[.ref a]) b.o5 d.kp (yd (us:=[.ref a]) (vs:=[.ref a]) F i j hd n b (.cons rfl .nil) q)
structure Mk(K:Yy) (C f:Addr):Prop where
 makes:PySem.W.makesIn K C=true
 init:findIn K (.ref C) "__init__"=some (some (.ref f))
 fn:isFn K (.ref f)=true
 kp:keepIn K (.ref C)=true
def vT(M:Mk X.K C f)(F:bO X.prog X.w X.K X.mg X.base CX k f fd ps sp)(i:dR (k+1) X.A)(j:Binds X.K fd ps ds)(hd:Vals dvs ds)
 (l:gU CX X E) (I:Inv X ac σ H s) (r:Vals vs us)
 (h:∀x b,H x=none->H b=none->b≠x->sp (.ref x::(vs++dvs)) (aP (aP H b (.own x)) x (.ins C b [])) (λv m=>v=.bv/\Q (.ref x) m) E) :
 wX X (call (.ref C) us) (EP X ac σ Q) X.xe s:=by
 have d:=h (s.heap.objs.size+1) s.heap.objs.size (I.aU.fresh (Nat.le_succ _)) (I.aU.fresh (UN _)) (U9 (WH _));have c:=Inv.made (C:=C) I;have g:Vals (V.ref (s.heap.objs.size+1)::(vs++dvs)) (Value.ref (s.heap.objs.size+1)::(us++ds)):=.cons rfl (r.append hd);have n:(Value.ref (s.heap.objs.size+1)::us++ds).length=ps.length:=by have e:=g.length;rw[F.len _ _ _ _ d]at e;exact e.symm
 refine wpAny_call (CN (f:=f) I.o5 M.makes M.init (W2.mp M.fn) (XI (F.run _ X.stack _ _ ⟨Value.ref (s.heap.objs.size+1)::us,[]⟩ (Value.ref (s.heap.objs.size+1)::(us++ds)) _ _ E (i.make C us [])
  (c.RB.make C us []) (j _ (Value.ref (s.heap.objs.size+1)::us) c.o5 n) g d) λr o a=>?_))
 cases r with
 |error e=>exact l ac σ _ _ e o c a
 |ok fl=>
  cases fl with
  |ret u=>obtain⟨v,H',p,q,t,y⟩:=c.after a;subst t;exact⟨q,⟨V.ref (s.heap.objs.size+1),H',p,rfl,y⟩⟩
  |next=>exact False.elim a
  |brk=>exact False.elim a
  |cont=>exact False.elim a
def Gp(M:Mk X.K C f)(F:bO X.prog X.w X.K X.mg X.base CX k f fd ps sp)(d:dR (k+1) X.A)(g:Gl X x)(i:X.mg x=some (.ref C))(j:Binds X.K fd ps ds)(hd:Vals dvs ds)(l:gU CX X E)
 (ha:PA X (e::es) t) (a:autoParam (dB x) ab) (m:autoParam (sE X e es) aM) (b:autoParam (bT X pos es) aM) :
 PE X (.Call (.Name x p) (e::es) [] pos) (zB C sp dvs E t):=by
 intro ac s σ H Q I h;refine WJ (uc I g i ?_ a);refine X6 (h₀:=X.base) I.ok.mod.mD M.kp (bX (ha pos ac s σ H _ I h) λus s1 ⟨vs,n,c,r,q⟩=>⟨c.o5,?_⟩) m b;exact vT M F d j hd l c r q
def CO(M:Mk X.K C f)(F:bO X.prog X.w X.K X.mg X.base CX k f fd ps sp)(b:dR (k+1) X.A)(c:Gl X x)(d:X.mg x=some (.ref C))(e:Binds X.K fd ps ds)(hd:Vals dvs ds)(g:gU CX X E)
 (a:autoParam (dB x) ab):PE X (.Call (.Name x p) [] [] pos) (zB C sp dvs E bB):=by
 intro ac s σ H Q I h;refine WJ (uc I c d ?_ a);exact PySem.W.callWith_K0 I.o5 M.kp (vT (us:=[]) M F b e hd g I .nil h)
end
def PK(X:Cx)(a:List Keyword)(t:TA):Prop:=∀(b:Pos)(ac:List (Addr×Obj))(s:Yx)(σ:St)(H:Hp)(Q:List V->Hp->Prop),Inv X ac σ H s->t σ H Q->wpAny (model X.prog X.w) X.A (evalAll ((backToKw b (keywordEach a X.env)).map (·.2))) (AP X ac σ Q) X.xe s
section
def KO:PK X [] bB:=λ_ _ _ _ H Q I h=>wpAny_evalAll_nil ⟨[],H,I,.nil,h⟩
def Gq(ha:PE X e te)(b:PK X kws t):PK X (⟨nm,e,kpos⟩::kws) (aB te t):=by intro a ac s σ H Q I h;show wpAny _ _ (evalAll ((do let v <- eval e X.env;standAt a;pure v)::(backToKw a (keywordEach kws X.env)).map (·.2))) _ _ s;refine wpAny_evalAll_cons (KE (bX (ha ac s σ H _ I h) λu s1 ⟨x,c,d,f,q1⟩=>KE (wpAny_standAt (UM ?_))));exact bX (b a ac s1 σ c _ d q1) λus s2 ⟨xs,g,i,j,q2⟩=>⟨x::xs,g,i,.cons f j,q2⟩
end
structure aR(N P:List Str) (sc:Scope):Prop where
 kind:sc.kind=.function
 co:sc.isCoroutine=false
 gen:sc.isGenerator=false
 nd:N.Nodup
 pre:N.take P.length=P
 par:∀x∈P,sc.names.lookup x=some .local\/sc.names.lookup x=some .cell
 NJ:∀y∈sc.names,y.2≠.free
theorem sU{kindOf:Str->Option NameKind}:∀{binds:List (Str×YA)}{m:Str->Option YA},(∀v,(x,v)∉binds)->bindL kindOf binds m x=m x
 |[],_,_=>rfl
 |(n,v)::r,m,h=>by
  unfold bindL;rw[sU λw a=>h w (UT _ a)];split
  .have:x≠n:=by rintro rfl;exact h v UW
   simp[this]
  .rfl
theorem sV{kindOf:Str->Option NameKind}:∀{binds:List (Str×YA)}{m:Str->Option YA},(∀v,(x,v)∉binds)->bindC kindOf binds m x=m x
 |[],_,_=>rfl
 |(n,v)::r,m,h=>by
  unfold bindC;rw[sV λw a=>h w (UT _ a)];split
  .rfl
  .have:x≠n:=by rintro rfl;exact h v UW
   simp[this]
theorem sW{kindOf:Str->Option NameKind}:∀{P:List Str}{vs:List YA}{i:Nat}{m:Str->Option YA},P.Nodup->P[i]?=some x->vs[i]?=some v->kindOf x=some .local->
 bindL kindOf (P.zip vs) m x=some v
 |[],_,_,_,_,h,_,_=>by simp at h
 |_::_,[],_,_,_,_,h,_=>by simp at h
 |p::P,w::vs,0,m,nd,h1,a,b=>by simp at h1 a;subst h1;subst a;show bindL kindOf ((p,w)::P.zip vs) m p=_;unfold bindL;rw[sU λv c=>(Vu.mp nd).1 (List.of_mem_zip c).1,UP b];simp
 |p::P,w::vs,i+1,m,nd,h1,a,b=>by show bindL kindOf ((p,w)::P.zip vs) m x=_;unfold bindL;exact sW (i:=i) (Vu.mp nd).2 (by simpa using h1) (by simpa using a) b
theorem sX{kindOf:Str->Option NameKind}:∀{P:List Str}{vs:List YA}{i:Nat}{m:Str->Option YA},P.Nodup->P[i]?=some x->vs[i]?=some v->kindOf x≠some .local->
 bindC kindOf (P.zip vs) m x=some v
 |[],_,_,_,_,h,_,_=>by simp at h
 |_::_,[],_,_,_,_,h,_=>by simp at h
 |p::P,w::vs,0,m,nd,h1,a,b=>by simp at h1 a;subst h1;subst a;show bindC kindOf ((p,w)::P.zip vs) m p=_;unfold bindC;rw[sV λv c=>(Vu.mp nd).1 (List.of_mem_zip c).1,UV b];simp
 |p::P,w::vs,i+1,m,nd,h1,a,b=>by show bindC kindOf ((p,w)::P.zip vs) m x=_;unfold bindC;exact sX (i:=i) (Vu.mp nd).2 (by simpa using h1) (by simpa using a) b
noncomputable def cq(N:List Str)(vs:List V):St:=vs.map some++List.replicate (N.length-vs.length) none
noncomputable def ye(CX:FZ)(P:Yz)(w:World)(K:Yy)(mg:Str->Option YA)(base:Heap)(N:List Str)(qual:Str)(scope:Scope)(f:Addr)(cd:YA)(A:YB)(outer:List Env)(s:Yx)(H:Hp)(E:XK):Cx where
 prog:=P
 w:=w
 K:=K
 mg:=mg
 base:=base
 A:=A.deeper (envOfC qual scope s.heap.objs.size f cd)
 N:=N
 s₀:=s
 H₀:=H
 env:=envOfC qual scope s.heap.objs.size f cd
 outer:=outer
 stack:=envOfC qual scope s.heap.objs.size f cd::outer
 ex:=[]
 calm:=true
 fn:=λ_=>true
 pn:=[]
 xe:=λe s'=>wpAny (model P w) (A.deeper (envOfC qual scope s.heap.objs.size f cd)) (leaving (envOfC qual scope s.heap.objs.size f cd) e) (λ_ s''=>CX outer H s E e s'') (λe' s''=>CX outer H s E e' s'') s'
def vU{a:Scope}(h:a.names.lookup x=some .cell):∃c,(cellsFrom n a.names []).lookup x=some c:=by have q:=PySem.W.cellsFrom_some a.names n [] (.inl h);exact Option.isSome_iff_exists.mp q
def A2{CX:FZ}{P:Yz}{w:World}{K:Yy}{mg:Str->Option YA}{base:Heap}{N ps:List Str}{qual:Str}{scope:Scope}
 (S:aR N ps scope) (hd:A.handled=none) (e0:zp P w K mg base A outer s H) (B:vs.length=ps.length) (r:Vals vs us)
 (x:InCallC s s.heap.objs.size (bindL (envOfC qual scope s.heap.objs.size f cd).kindOf (ps.zip us) λ_=>none) (cellsFrom (s.heap.objs.size+1) scope.names []) (bindC (envOfC qual scope s.heap.objs.size f cd).kindOf (ps.zip us) λ_=>none) s1) :
 Inv (ye CX P w K mg base N qual scope f cd A outer s H E) [] (cq N vs) H s1:=by
 have o:ps.length<=N.length:=by have:=Wo List.length S.pre;rw[Wv]at this;lia
 obtain⟨h1,tk,rfl,j⟩:=x.done;have a:∀b:Addr,b∉(ye CX P w K mg base N qual scope f cd A outer s H E).ex:=λb z=>absurd (show b∈([]:List Addr)from z) (by simp);refine⟨⟨e0.mod,S.kind,rfl,rfl,UN _,λy z c h1 l=>?_,λy hy=>?_,λy c _ h=>?_,λ_=>hd,Around.frames_deeper e0.frames,.inr ⟨rfl,rfl⟩,λb z=>absurd z (a b),e0.bs,e0.F5,λb _ _=>a b,λb z=>absurd z (a b),e0.oY,e0.J3,e0.kt⟩,
  rfl,e0.bare,Un.kept j,⟨_,x.toInCall.ns,λi y v h1 l C=>?_⟩,λy c h=>⟨_,x.cell y c h⟩,e0.aU.fresh (UN _),λy c h=>?_,λp d=>absurd (show p∈([]:List (Addr×Obj))from d) (by simp),e0.aU.kept j,?_⟩
 .exact name_of_addr x.apart (Wj h1) (Wj l)
 .have hy:scope.names.lookup y=some .cell\/scope.names.lookup y=some .free:=hy;rcases hy with hy|hy
  .exact vU hy
  .exact absurd rfl (S.NJ _ (Wj hy))
 .exact XH (x.above y c (Wj h))
 .have D:i<vs.length:=by
   grind [cq]
  have ha:vs[i]?=some v:=by grind [cq]
  obtain⟨u,m,t⟩:=r.get ha;have d:ps[i]?=some y:=by rw[<- S.pre,List.getElem?_take_of_lt (by lia)];exact h1
  have g:ps.Nodup:=by rw[<- S.pre];exact S.nd.sublist (List.take_sublist _ _)
  refine⟨u,t,?_⟩;rcases S.par y (Vm d)with k|k
  .exact .inl ⟨k,sW g d m k⟩
  .obtain⟨c,e⟩:=vU (n:=s.heap.objs.size+1) k;refine .inr ⟨.inl k,c,e,?_⟩;have q:=x.cell y c e;rw[sX g d m (by show scope.names.lookup y≠_;rw[k];decide)]at q;exact q
 .exact e0.aU.fresh (XH (x.above y c (Wj h)))
 .unfold cq;show _=N.length;rw[Vc,UO,XJ];lia
def OA{CX:FZ}{P:Yz}{w:World}{K:Yy}{mg:Str->Option YA}{base:Heap}{k:Nat}{f:Addr}{name qual:Str}{a:Arguments}{body:List Stmt}{scope:Scope}{z kV doc pm cdv ct oc:YA}{an od:Option Addr}
 {osl:Array (Option YA)} {N ps:List Str} {sp:Sp} (lk:K.lookup f=some ⟨oc,od,.func (fnOf name qual a body scope z kV doc pm an cdv ct),osl⟩) (j:codeIn K cdv qual=true) (S:aR N ps scope)
 (len:∀vs H Q E,sp vs H Q E->vs.length=ps.length)
 (d:∀(A:YB)(outer:List Env)(s:Yx)(H:Hp)(vs:List V)(Q:VK)(E:XK),dR k (A.deeper (envOfC qual scope s.heap.objs.size f cdv))->sp vs H Q E->
   ∃t,PSs (ye CX P w K mg base N qual scope f cdv A outer s H E) body t/\t {nx:=λ_ H'=>Q .bv H',rt:=Q} (cq N vs) H) :
 bO P w K mg base CX (k+1) f (fnOf name qual a body scope z kV doc pm an cdv ct) ps sp:=by
 refine⟨len,λA outer s H args us vs Q E l e0 C r h=>?_⟩;have D:=len _ _ _ _ h;have B:K.In s.heap:=e0.mod.mD.keeps λb o e=>(e0.bs b o e).1;have lim:s.heap.NoLimit:=e0.mod.nolimit.keeps λb o e=>(e0.bs b o e).1;have g:∀y∈ps.zip us,scope.names.lookup y.1=some .local\/(scope.names.lookup y.1=some .cell/\((cellsFrom (s.heap.objs.size+1) scope.names []).lookup y.1).isSome=true):=λ⟨n,v⟩ F=>by
  rcases S.par n (List.of_mem_zip F).1 with q|q
  .exact .inl q
  .exact .inr ⟨q,PySem.W.cellsFrom_some _ _ _ (.inl q)⟩
 refine codeAny_call_function l.depth (B _ _ lk) rfl S.co S.gen rfl (PySem.W.codeRec_of B j) (C _ _ _ _ ?_);refine wpAny_newFunctionEnv_cells S.kind g λenv G s1 x=>?_;subst G;refine⟨lim.keeps x.toInCall.keep,codeAny_func ?_⟩;obtain⟨t,L,M⟩:=d A outer s H vs Q E (l.deeper _) h;have I:Inv (ye CX P w K mg base N qual scope f cdv A outer s H E) [] (cq N vs) H s1:=A2 S l.hd e0 D r x;refine Wg (L [] s1 (cq N vs) H _ I M) (λfl m hs=>?_) λe m hs=>hs;have i:∀{c:St}{H':Hp}{v:V}{u:YA},Inv (ye CX P w K mg base N qual scope f cdv A outer s H E) [] c H' m->RelV v u->Q v H'->CE outer P w H s Q u m:=λ{c H' v u} J p q=>⟨v,H',J.os,J.bare,J.base,J.aU,p,q⟩;cases fl with
 |ret u=>obtain⟨v,c,H',J,p,q⟩:=hs;exact i J p q
 |next=>obtain⟨c,H',J,q⟩:=hs;exact i (v:=V.bv) (u:=Value.none) J rfl q
 |brk=>obtain⟨_,_,_,q⟩:=hs;exact False.elim q
 |cont=>obtain⟨_,_,_,q⟩:=hs;exact False.elim q
section
variable{X:Cx}{x:Str}{p pos:Pos}{e:Expr}{es:List Expr}{t:TA}{id T:String}{r:List V->Hp->VK->Prop}
def Gr(r:List V->Hp->VK->Prop)(t:TA):TE:=λσ H Q=>t σ H λvs a=>r vs a Q
def dv(c:CallR X (.builtin id) r) (d:Gl X x) (f:X.mg x=none) (g:bootBuiltins x=some (.builtin id)) (ha:PA X (e::es) t) (i:autoParam (x≠"__name__") ab) (a:autoParam (dB x) ab)
 (j:autoParam (starEach (e::es) X.env=(false,eval e X.env)::starEach es X.env) aM) (b:autoParam (bT X pos es) aM):PE X (.Call (.Name x p) (e::es) [] pos) (Gr r t):=by
 intro ac s σ H Q I h;refine WJ (jp I d f g ?_ i a);exact PyProof.Rows.callWith_builtin1 (bX (ha pos ac s σ H _ I h) λus s1 ⟨vs,k,l,m,q1⟩=>c ac s1 σ k vs us Q l m q1) j b
def n_(c:CallR X (.type T) r) (d:Gl X x) (f:X.mg x=none) (g:bootBuiltins x=some (.type T)) (ha:PA X (e::es) t) (i:autoParam (x≠"__name__") ab) (a:autoParam (dB x) ab)
 (j:autoParam (starEach (e::es) X.env=(false,eval e X.env)::starEach es X.env) aM) (b:autoParam (bT X pos es) aM):PE X (.Call (.Name x p) (e::es) [] pos) (Gr r t):=by
 intro ac s σ H Q I h;refine WJ (jp I d f g ?_ i a);exact VZ (bX (ha pos ac s σ H _ I h) λus s1 ⟨vs,k,l,m,q1⟩=>c ac s1 σ k vs us Q l m q1) j b
end
end L2
namespace HT
open PySem PyProof.Rows
noncomputable def lexLt:List Int->List Int->Bool
 |[],[]=>false
 |[],_::_=>true
 |_::_,[]=>false
 |x::xs,y::a=>if x=y then lexLt xs a else decide (x<y)
def yf(x y:Int)(xs a:List Int):lexLt (x::xs) (y::a)=if x=y then lexLt xs a else decide (x<y):=rfl
def rY:lexLt [] []=false:=rfl
def qx(y:Int)(a:List Int):lexLt [] (y::a)=true:=rfl
def qy(x:Int)(xs:List Int):lexLt (x::xs) []=false:=rfl
def CS(A:YB)(s:Yx)(a:Int)(t:Tok)(c:Int)(u:Tok):∃e,SeqAt.EqAt A s (.int a t) (.int c u) e/\(e=true↔a=c):=⟨(a==c),SeqAt.EqAt.int_int a t c u,by simp⟩
def rcLt_int(A:YB)(s:Yx)(a:Int)(t:Tok)(c:Int)(u:Tok)(prog:Yz)(w:World)(E:YA->Yx->Prop)(Q:YA->Yx->Prop)(h:Q (.bool (decide (a<c))) s) :
 wpAny (model prog w) A (richCompare .Lt (.int a t) (.int c u)) Q E s:=
 (PyProof.Rows.lt_int h:wpAny (model prog w) A (compareOp .Lt (.int a t) (.int c u)) Q E s)
section
open PySem.SeqAt
open PySem.AutoSeq1 (wpAny_loadPart')
open PySem.MeetsSeq PySem.MeetsSeq2 PySem.MeetsSeq3
def rZ(l b:Addr)(i f:Array YA)(n M:Nat)(dd F:Option Addr)(sl G:Array (Option YA))(ns D:List Int)(J:IntsAre i.toList ns)(K:IntsAre f.toList D) :
 Meets (Builtin.«tuple.__lt__» ⟨[.ref l,.ref b],[]⟩)
  (λ_ R s=>s.heap.get? l=some { cls:=.type "tuple",dict:=dd,data:=.seq i n,slots:=sl }/\s.heap.get? b=some { cls:=.type "tuple",dict:=F,data:=.seq f M,slots:=G }/\
    R (.ok (.ret (.bool (lexLt ns D)))) s):=
 .of_wp λprog w A R s h=>by
  obtain⟨E,g,d,tk,os⟩:=s;obtain⟨N,O,h⟩:=h;have S:=AutoSeq1.sub_tuple_tuple;have T:i.size=ns.length:=by rw[<- J.length];simp
  have U:f.size=D.length:=by rw[<- K.length];simp
  wp_walk using wpAny_loadPart' N,wpAny_loadPart' O,XT _ (λrest b H=>b.1=none/\H=⟨E,g,d,tk,os⟩/\∃(vs ws:List YA)(j k:List Int),rest=vs.zip ws/\
   IntsAre vs j/\IntsAre ws k/\j.length+f.size=k.length+i.size/\R (.ok (.ret (.bool (lexLt j k)))) ⟨E,g,d,tk,os⟩) _
  case turn=>
   rintro⟨y,x⟩ rest b H ⟨r,rfl,vs,ws,j,k,hz,v,m,z,o⟩;cases v with
   |nil=>rw[List.zip_nil_left]at hz;cases hz
   |cons a t B=>
    cases m with
    |nil=>rw[List.zip_nil_right]at hz;cases hz
    |cons c u C=>
     rw[Xr]at hz;injection hz with hyx hrest;injection hyx with hy hx;subst hy hx;rw[yf]at o;simp only[U1]at z;obtain⟨e,P,p⟩:=CS A.in1 ⟨E,g,d,tk,os⟩ a t c u;refine KE (P prog w _ _ ?_);cases e with
     |true=>
      rw[UP (p.mp rfl)]at o
      wp_walk
      exact⟨rfl,rfl,_,_,_,_,hrest,B,C,by lia,o⟩
     |false=>
      rw[UV (λq=>absurd (p.mpr q) VA)]at o;have I:=rcLt_int A.in1 ⟨E,g,d,tk,os⟩ a t c u prog w
      wp_walk using I
      exact⟨_,rfl,by simpa using o⟩
  case fin=>
   rintro⟨V,W⟩ H ⟨r,rfl,vs,ws,j,k,hz,v,m,z,o⟩;simp only at r;subst r;have L:lexLt j k=decide (i.size<f.size):=by
    cases v with
    |nil=>
     cases m with
     |nil=>simp only[Wq]at z;rw[rY];exact(U_ (by lia)).symm
     |cons c u Q=>simp only[Wq,U1]at z;rw[qx];exact(U6 (by lia)).symm
    |cons a t L=>
     cases m with
     |nil=>simp only[Wq,U1]at z;rw[qy];exact(U_ (by lia)).symm
     |cons c u Q=>rw[Xr]at hz;cases hz
   rw[L]at o
   wp_walk
   exact⟨_,rfl,by simpa[Builtin.Tuple.tupleCompareSizes]using o⟩
  case h=>exact⟨rfl,rfl,i.toList,f.toList,ns,D,rfl,J,K,by lia,h⟩
end
section
def lt_tupInts(k:IsTup s.heap l items)(m:IsTup s.heap b items2)(o:IntsAre items.toList ns)(p:IntsAre items2.toList ms)
 (q:A.units<cLine) (h:Q (.bool (lexLt ns ms)) s):wpAny (model prog w) A (compareOp .Lt (.ref l) (.ref b)) Q E s:=by
 obtain⟨⟨cls,dd,data,sl⟩,g,i,n,hd⟩:=id k;obtain⟨⟨j,e,data2,f⟩,a,c,r,d⟩:=id m;simp only at i hd c d;subst i hd c d;exact richCompare_meets_room (op:=.Lt) ⟨_,g,rfl⟩ ⟨_,a,rfl⟩ PySem.F.slot_tuple_lt PySem.F.entry_tuple_lt (PySem.F.args_tuple_lt_2 _ _) (rZ l b items items2 n r dd e sl f ns ms o p)
  ⟨g,a,show Value.bool (lexLt ns ms)≠Value.notImplemented/\Q (.bool (lexLt ns ms)) s from⟨(λx=>nomatch x),h⟩⟩ q
def cat_tup(o:IsTup s.heap t vs.toArray)(p:IsTup s.heap b ws.toArray)(j:vs≠[])
 (h1:ws=[]->Q (.ref t) s) (q:ws≠[]->Q (.ref s.heap.objs.size) { s with heap:=s.heap.push { cls:=.type "tuple",data:=.seq (vs++ws).toArray } })
 (hsz:vs.length+ws.length<=sizeLine):wpAny (model prog w) A (binaryOp .Add (.ref t) (.ref b)) Q E s:=by
 obtain⟨⟨cls,dd,data,sl⟩,h,k,n,hd⟩:=id o;obtain⟨⟨l,c,data2,d⟩,a,f,m,g⟩:=id p;simp only at k hd f g;subst k hd f g;have e:vs.toArray++ws.toArray=(vs++ws).toArray:=by simp
 by_cases i:ws=[]
 .exact concat_meets ⟨_,h,rfl⟩ ⟨_,a,rfl⟩ noFill_tuple_add seq_tuple_add PySem.F.slot_tuple_add PySem.F.entry_tuple_add (PySem.F.args_tuple_add_2 _ _)
   (tuple_addW1 t b vs.toArray ws.toArray n m dd c sl d (by simpa using j) (by simp[i])) ⟨h,a,h1 i⟩
 .refine concat_meets ⟨_,h,rfl⟩ ⟨_,a,rfl⟩ noFill_tuple_add seq_tuple_add PySem.F.slot_tuple_add PySem.F.entry_tuple_add (PySem.F.args_tuple_add_2 _ _)
   (tuple_addW2 t b vs.toArray ws.toArray n m dd c sl d (by simpa using j) (by simpa using i) (by rw[UZ,UZ];exact hsz)) ⟨h,a,?_⟩
  rw[e];exact q i
noncomputable def sIx(n d:Nat):Option Int->Nat
 |none=>d
 |some v=>if v<0 then(v+(n:Int)).toNat else min v.toNat n
def sIx_nat(n d k:Nat):sIx n d (some (k:Int))=min k n:=by show(if(k:Int)<0 then((k:Int)+(n:Int)).toNat else min (k:Int).toNat n)=min k n;rw[UV (by lia),WQ]
def KP(n d:Nat)(hd:d<=n)(o:Option Int):sIx n d o<=n:=by
 cases o with
 |none=>exact hd
 |some v=>
  show(if v<0 then(v+(n:Int)).toNat else min v.toNat n)<=n
  grind
def zC(v:Int)(n d:Nat):(if v<0 then max (v+(n:Int)) 0 else min v (n:Int))=((sIx n d (some v):Nat):Int):=by
 show(if v<0 then max (v+(n:Int)) 0 else min v (n:Int))=(((if v<0 then(v+(n:Int)).toNat else min v.toNat n):Nat):Int)
 grind
def yg(lo a:Option Int)(n:Nat):Builtin.Slice.sliceAdjust lo a 1 (n:Int)=(((sIx n 0 lo:Nat):Int),((sIx n n a:Nat):Int)):=by
 have h1:¬((1:Int)<0):=by lia
 unfold Builtin.Slice.sliceAdjust;simp only[h1,VH];refine X7 ?_ ?_
 .cases lo with
  |none=>rfl
  |some v=>exact zC v n 0
 .cases a with
  |none=>rfl
  |some v=>exact zC v n n
def yh(i j:Nat):Builtin.Slice.slicePlaces (i:Int) (j:Int) 1=j-i:=by
 unfold Builtin.Slice.slicePlaces
 grind
def qz(p:IsPart v o)(h:Q o s):wpAny (model prog w) A (Builtin.Slice.slicePartIndex v) Q E s:=by
 cases p with
 |none=>exact slicePart_none h
 |int i t=>exact slicePart_int h
def sliceApplied_gen{lo a:Option Int}{n:Nat}{Q:Int×Int×Nat->Yx->Prop}(hs:s.heap.IsSliceOf sl vl vu .none)(pl:IsPart vl lo)(d:IsPart vu a)
 (h:Q (((sIx n 0 lo:Nat):Int),1,sIx n n a-sIx n 0 lo) s):wpAny (model prog w) A (Builtin.Slice.sliceApplied (.ref sl) (pure (n:Int))) Q E s:=by
 obtain⟨os,b,e,c⟩:=id hs;unfold Builtin.Slice.sliceApplied Builtin.Slice.sliceFields;refine KE (KE (Xy b c (x:=vl) rfl (KE (Xy b c (x:=vu) rfl (KE (Xy b c (x:=.none) rfl (UM ?_)))))));refine KE (slicePart_none ?_);show wpAny _ _ (if((1:Int)==0)=true then _ else _) _ _ s;rw[UV (by decide)];refine KE (qz pl (KE (qz d (KE (UM ?_)))));show wpAny _ _ (match Builtin.Slice.sliceAdjust lo a 1 (n:Int)with|(lo,a)=>pure (lo,(1:Int),Builtin.Slice.slicePlaces lo a 1)) _ _ s;rw[yg lo a n];show wpAny _ _ (pure (((sIx n 0 lo:Nat):Int),(1:Int),Builtin.Slice.slicePlaces ((sIx n 0 lo:Nat):Int) ((sIx n n a:Nat):Int) 1)) _ _ s;rw[yh];exact UM h
def CT(xs:Array YA)(i k:Nat):((List.range k).filterMap λ(m:Nat)=>xs[((i:Int)+(m:Int)*1).toNat]?).toArray=((xs.toList.drop i).take k).toArray:=by
 have e:(λ(m:Nat)=>xs[((i:Int)+(m:Int)*1).toNat]?)=λm=>xs[i+m]?:=by grind
 rw[e];have:=pick_run xs i k;rw[List.filterMap_map]at this;have e2:((λx=>xs[x]?) ∘ λx=>i+x)=λm=>xs[i+m]?:=rfl;rw[e2]at this;rw[this]
def getItem_tuple_cut{i j:YA}{lo b:Option Int}{Q:YA->Yx->Prop}(c:IsTup s.heap t items)(hs:s.heap.IsSliceOf sl i j .none)(pl:IsPart i lo)(k:IsPart j b)
 (n:¬(sIx items.size 0 lo=0/\sIx items.size items.size b=items.size))
 (h:Q (.ref s.heap.objs.size) { s with heap:=s.heap.push { cls:=.type "tuple",data:=.seq ((items.toList.drop (sIx items.size 0 lo)).take (sIx items.size items.size b-sIx items.size 0 lo)).toArray } })
 (hsz:items.size<=sizeLine):wpAny (model prog w) A (getItem (.ref t) (.ref sl)) Q E s:=by
 have a:sizeOk (.seq ((items.toList.drop (sIx items.size 0 lo)).take (sIx items.size items.size b-sIx items.size 0 lo)).toArray):=by
  show((items.toList.drop (sIx items.size 0 lo)).take (sIx items.size items.size b-sIx items.size 0 lo)).toArray.size<=sizeLine
  grind
 have o:sIx items.size items.size b<=items.size:=KP _ _ (UN _) b;obtain⟨os,d,e,l⟩:=id hs;have f:s.TypeIs (.ref sl) "slice":=⟨os,d,e⟩;unfold getItem
 try with_reducible refine VI ?_
 first|refine KE (UM ?_)|skip
 refine KE (wpAny_sequenceKey c.typeIs (by decide) ?_);refine KE (Wb (name:=Str.ofString "__getitem__") c.typeIs VM
  (Vy VM c.typeIs entry_tuple_getitem ?_ (args_tuple_getitem _ _)))
 show wpAny _ _ (Builtin.Tuple.tupleItemsOf (.ref t) >>= _) _ _ s;refine KE (tupleItemsOf_ c ?_);refine KE (XN f ?_);rw[UP (by decide)];refine KE (sliceApplied_gen hs pl k ?_);have g:¬((((sIx items.size 0 lo:Nat):Int)==0&&(1:Int)==1&&(sIx items.size items.size b-sIx items.size 0 lo)==items.size)=true):=by grind
 show wpAny _ _ (if(((sIx items.size 0 lo:Nat):Int)==0&&(1:Int)==1&&(sIx items.size items.size b-sIx items.size 0 lo)==items.size)=true then _ else _) _ _ s;rw[UV g,CT]
 first
  |exact KE (m:=Builtin.Tuple.tupleExact _) (Vz (UM ⟨_,rfl,UM h⟩) a)
  |exact KE (m:=Builtin.Tuple.tupleExact _) (Vz (KE (UM (UM ⟨_,rfl,UM h⟩))) a)
  |exact KE (KE (m:=Builtin.Tuple.tupleExact _) (Vz (UM (UM ⟨_,rfl,UM h⟩)) a))
  |exact KE (KE (m:=Builtin.Tuple.tupleExact _) (Vz (UM ⟨_,rfl,UM h⟩) a))
end
end HT
namespace L2
open PySem PySem.Spec PyProof.Rows
abbrev TO:=St->Hp->(Option Int->Hp->Prop)->Prop
def PO(X:Cx)(e:Option Expr)(t:TO):Prop:=
 ∀(ac:List (Addr×Obj))(s:Yx)(σ:St)(H:Hp)(Q:Option Int->Hp->Prop),Inv X ac σ H s->t σ H Q->
  wpAny (model X.prog X.w) X.A (evalPart e X.env) (λu a=>∃o H',Inv X ac σ H' a/\IsPart u o/\Q o H') X.xe s
def Gs:TO:=λ_ H Q=>Q none H
def OB(t:TE):TO:=λσ H Q=>t σ H λx a=>∃i,x=.int i/\Q (some i) a
def qA:∀{us:List YA},Vals (ns.map V.int) us->IntsAre us ns:=by
 induction ns with
 |nil=>intro us r;rw[WB]at r;cases r;exact .nil
 |cons n ns a=>
  intro us r;rw[UR]at r;cases r with
  |cons b c=>obtain⟨t,e⟩:=b;subst e;exact .cons n t (a c)
section
variable{X:Cx}{e:Expr}{te:TE}{lo hi:Option Expr}{tl th:TO}{pos p2:Pos}
def Gu:PO X none Gs:=by intro ac s σ H Q I h;rw[evalPart_none];exact UM ⟨none,H,I,.none,h⟩
def Gv(h:PE X e te):PO X (some e) (OB te):=by intro ac s σ H Q I a;rw[evalPart_some];refine bX (h ac s σ H _ I a) λu s1 ⟨x,b,c,d,q1⟩=>?_;obtain⟨i,rfl,q⟩:=q1;obtain⟨t,rfl⟩:=d;exact⟨some i,b,c,.int i t,q⟩
def SlR(X:Cx)(r:V->Option Int->Option Int->Hp->VK->Prop):Prop:=
 ∀(ac:List (Addr×Obj))(s:Yx)(σ:St)(H:Hp)(x:V)(v a b:YA)(lo hi:Option Int)(sl:Addr)(Q:VK),Inv X ac σ H s->RelV x v->s.heap.IsSliceOf sl a b .none->IsPart a lo->IsPart b hi->r x lo hi H Q->
  ∃T id,typeLookup (.type T) "__getitem__"=pure (some (.builtin id))/\s.TypeIs v T/\wpAny (model X.prog X.w) X.A (getItem v (.ref sl)) (EP X ac σ Q) X.xe s
def SlR.or(h:SlR X r)(h':SlR X r'):SlR X (λx lo hi H Q=>r x lo hi H Q\/r' x lo hi H Q):=by
 intro ac s σ H x v a b lo hi sl Q I c hs pl d q;rcases q with q|q
 .exact h ac s σ H x v a b lo hi sl Q I c hs pl d q
 .exact h' ac s σ H x v a b lo hi sl Q I c hs pl d q
def Uh(r:V->Option Int->Option Int->Hp->VK->Prop)(te:TE)(tl th:TO):TE:=λσ H Q=>te σ H λx a=>tl σ a λl b=>th σ b λu c=>r x l u c Q
def CU(f:SlR X r)(g:PE X e te)(i:PO X lo tl)(j:PO X hi th):PE X (.Subscript e (.Slice lo hi none p2) pos) (Uh r te tl th):=by intro ac s σ H Q I h;refine Subscript_ (bX (g ac s σ H _ I h) λv s1 ⟨x,k,m,n,q1⟩=>?_);refine wpAny_Slice (bX (i ac s1 σ k _ m q1) λc s2 ⟨l,o,p,pl,q2⟩=>bX (j ac s2 σ o _ p q2) λvu a ⟨u,d,t,w,y⟩=>?_);rw[evalPart_none];refine UM ?_;have z:Inv X ac σ d { a with heap:=a.heap.push { cls:=.type "slice",data:=.fields #[c,vu,.none] } }:=t.kept (t':=a.toks) λb D q=>RW _ q;obtain⟨T,id,A,B,C⟩:=f ac { a with heap:=a.heap.push { cls:=.type "slice",data:=.fields #[c,vu,.none] } } σ d x v c vu l u a.heap.objs.size Q z n (Heap.IsSliceOf.new ..) pl w y;show wX X (subscriptTail e (.Slice lo hi none p2) v (.ref a.heap.objs.size)) (EP X ac σ Q) X.xe { a with heap:=a.heap.push { cls:=.type "slice",data:=.fields #[c,vu,.none] } };exact tail_any (ops:=[.ref a.heap.objs.size,v]) B A C (by with_unfolding_all rfl)
def vV(xs:List V)(lo hi:Option Int):List V:=(xs.drop (HT.sIx xs.length 0 lo)).take (HT.sIx xs.length xs.length hi-HT.sIx xs.length 0 lo)
def o9(xs:List V)(lo hi:Option Int):(vV xs lo hi).length<=xs.length:=by unfold vV;rw[Wv,Xj];lia
def Sw(K:Yy):V->Option Int->Option Int->Hp->VK->Prop:=λx lo hi H Q=>∃a xs,x=.ref a/\SqT K H a xs/\
 ¬(HT.sIx xs.length 0 lo=0/\HT.sIx xs.length xs.length hi=xs.length)/\∀p,H p=none->Q (.ref p) (aP H p (.tup (vV xs lo hi)))
def sl_tup:SlR X (Sw X.K):=by
 intro ac s σ H x v k l lo hi sl Q I f hs pl g h;obtain⟨a,xs,rfl,i,j,q⟩:=h;cases f;obtain⟨its,r,d,hz⟩:=I.tuple i;have c:its.toArray.size=xs.length:=by rw[UZ];exact r.length.symm
 refine⟨"tuple",_,VM.lookup,d.typeIs,?_⟩;refine HT.getItem_tuple_cut d hs pl g (by rw[c];exact j) ?_ (by rw[c];exact hz);rw[c];refine⟨.ref s.heap.objs.size,_,I.laid (t':=s.toks) (o:=.tup (vV xs lo hi)) (λb m q=>RW _ q) (UN _) ?_,rfl,q _ (I.aU.fresh (UN _))⟩;exact⟨Vf (o9 xs lo hi) hz,_,(r.drop (HT.sIx xs.length 0 lo)).take (HT.sIx xs.length xs.length hi-HT.sIx xs.length 0 lo),IsTup.new _ _⟩
def OC(K:Yy):R2:=λx y H Q=>∃a b xs c,x=.ref a/\y=.ref b/\SqT K H a xs/\SqT K H b c/\xs≠[]/\xs.length+c.length<=sizeLine/\
 (c=[]->Q (.ref a) H)/\(c≠[]->∀p,H p=none->Q (.ref p) (aP H p (.tup (xs++c))))
def Vals.vA(r:Vals xs us):us=[]↔xs=[]:=by
 cases r with
 |nil=>simp
 |cons _ _=>simp
def op_catT:OpR X (binaryOp .Add) (OC X.K):=by intro ac s σ H x y v u Q I g i h;obtain⟨a,b,xs,j,rfl,rfl,ha,k,l,hz,q1,q2⟩:=h;cases g;cases i;obtain⟨its,d,p1,_⟩:=I.tuple ha;obtain⟨f,c,p2,_⟩:=I.tuple k;refine HT.cat_tup p1 p2 (λz=>l (d.vA.mp z)) (λz=>⟨.ref a,H,I,rfl,q1 (c.vA.mp z)⟩) (λz=>?_) (by rw[<- d.length,<- c.length];exact hz);refine⟨.ref s.heap.objs.size,_,I.laid (t':=s.toks) (o:=.tup (xs++j)) (λb m q=>RW _ q) (UN _) ?_,rfl,q2 (λw=>z (c.vA.mpr w)) _ (I.aU.fresh (UN _))⟩;exact⟨by rw[Vc];exact hz,_,d.append c,IsTup.new _ _⟩
end
noncomputable def zD(n:Nat)(i:Int):Option Nat:=if 0<=i then(if i<n then some i.toNat else none)else if -(n:Int)<=i then some (i+n).toNat else none
def dk{α:Type}(xs:List α)(i:Int):Option α:=(zD xs.length i).bind λj=>xs[j]?
def Gw(h:zD n i=some j):seqIndex? i n=some j/\j<n/\-(n:Int)<=i/\i<n:=by
 unfold zD at h;by_cases a:0<=i
 .rw[UP a]at h;by_cases h1:i<n
  .rw[UP h1]at h;have e:i.toNat=j:=VL h;exact⟨by rw[seqIndex_of a h1,e],by lia,by lia,h1⟩
  .rw[UV h1]at h;cases h
 .rw[UV a]at h;by_cases h1:-(n:Int)<=i
  .rw[UP h1]at h;have e:(i+n).toNat=j:=VL h;exact⟨by rw[seqIndex_neg (by lia) h1,e],by lia,h1,by lia⟩
  .rw[UV h1]at h;cases h
def ug{α:Type}{xs:List α}{i:Int}{v:α}(h:dk xs i=some v):∃j,seqIndex? i xs.length=some j/\xs[j]?=some v/\j<xs.length/\-(xs.length:Int)<=i/\i<xs.length:=by
 unfold dk at h;cases e:zD xs.length i with
 |none=>rw[e]at h;cases h
 |some j=>rw[e]at h;obtain⟨h1,a,b,c⟩:=Gw e;exact⟨j,h1,h,a,b,c⟩
def zE{α:Type}{xs:List α}{j:Nat}{v:α}(h:xs[j]?=some v):dk xs (j:Int)=some v:=by grind [zD,dk]
def uh(b:Expr):Prop:=∀o i,subscripted b false o i=operate [o,i] (getItem o i)
def IxR(X:Cx)(r:R2):Prop:=
 ∀(b a:Expr)(ac:List (Addr×Obj))(s:Yx)(σ:St)(H:Hp)(x y:V)(v u:YA)(Q:VK),Inv X ac σ H s->RelV x v->RelV y u->r x y H Q->
  subscripted a false v u=operate [v,u] (getItem v u)->wpAny (model X.prog X.w) X.A (subscriptTail b a v u) (EP X ac σ Q) X.xe s
def KQ(X:Cx)(id:String)(r:V->List V->Hp->VK->Prop):Prop:=
 ∀(ac:List (Addr×Obj))(s:Yx)(σ:St)(H:Hp)(x:V)(xs:List V)(v:YA)(us:List YA)(Q:VK),Inv X ac σ H s->RelV x v->Vals xs us->r x xs H Q->
  wpAny (model X.prog X.w) X.A (call (.builtin id) (v::us)) (EP X ac σ Q) X.xe s
section
variable{X:Cx}
def IxR.or(h:IxR X r)(h':IxR X r'):IxR X (λx y H Q=>r x y H Q\/r' x y H Q):=by
 intro a b ac s σ H x y v u Q I c d q hs;rcases q with q|q
 .exact h a b ac s σ H x y v u Q I c d q hs
 .exact h' a b ac s σ H x y v u Q I c d q hs
def bP(c:IxR X r)(ha:PE X a ta)(d:PE X b tb)(hs:uh b):PE X (.Subscript a b pos) (mn r ta tb):=by intro ac s σ H Q I h;exact Subscript_ (Kz ha d I h λv u s2 x y e f g i q=>c a b ac s2 σ e x y v u Q f g i q (hs _ _))
def KR(K:Yy):R2:=λx y H Q=>∃p xs i v,x=.ref p/\y=.int i/\SqL K H p xs/\dk xs i=some v/\Q v H
def qB(K:Yy):R2:=λx y H Q=>∃p xs i v,x=.ref p/\y=.int i/\SqT K H p xs/\dk xs i=some v/\Q v H
def OD:R2:=λx y H Q=>∃z i c,x=.str z/\y=.int i/\z.length<=sizeLine/\dk z.cps.toList i=some c/\Q (.str ⟨#[c]⟩) H
def ix_list:IxR X (KR X.K):=by
 intro b c ac s σ H x y v u Q I k l h hs;obtain⟨p,xs,i,z,rfl,rfl,m,n,q⟩:=h;cases k;obtain⟨t,rfl⟩:=l;obtain⟨its,r,pl,hz⟩:=I.list m;obtain⟨j,h1,o,E,A,B⟩:=ug n;obtain⟨w,f,d⟩:=r.get o;have C:=r.length;have F:=n8;have a:EP X ac σ Q w s:=⟨z,H,I,d,q⟩;by_cases g:0<=i
 .have e:i.toNat=j:=by rw[seqIndex_of g B]at h1;exact VL h1
  exact item_listR pl.isList g (by lia) (by rw[e];simpa using f) a hs
 .have e:(i+(its.toArray.size:Int)).toNat=j:=by rw[seqIndex_neg (by lia) A]at h1;rw[UZ,<- C];exact VL h1
  exact subscriptTail_builtinR (x:=w) pl.isList.typeIs slot_list_getitem.lookup
   (wpAny_getItem_list_neg (Q:=λr D=>r=w/\EP X ac σ Q r D) pl.isList (by lia) (by rw[UZ]<;>lia) (by lia) (by rw[e];simpa using f) ⟨rfl,a⟩) hs
def ix_tup:IxR X (qB X.K):=by
 intro a b ac s σ H x y v u Q I e f h hs;obtain⟨p,xs,i,z,rfl,rfl,g,k,q⟩:=h;cases e;obtain⟨t,rfl⟩:=f;obtain⟨its,r,pl,hz⟩:=I.tuple g;obtain⟨j,h1,l,A,B,C⟩:=ug k;obtain⟨w,m,c⟩:=r.get l;have n:=r.length;have D:=n8;have d:EP X ac σ Q w s:=⟨z,H,I,c,q⟩;exact subscriptTail_builtinR (x:=w) pl.typeIs slot_tuple_getitem.lookup
  (getItem_tuple (j:=j) (Q:=λr o=>r=w/\EP X ac σ Q r o) pl (by lia) (by lia) (by rw[UZ,<- n];exact h1) (by simpa using m) ⟨rfl,d⟩) hs
def KS:IxR X OD:=by
 intro a b ac s σ H x y v u Q I d e h hs;obtain⟨z,i,c,rfl,rfl,hz,f,q⟩:=h;obtain⟨t,rfl⟩:=d;obtain⟨t',rfl⟩:=e;obtain⟨j,h1,g,n,k,l⟩:=ug f;have m:z.cps.toList.length=z.length:=by simp[Str.length]
 rw[m]at h1 k l;have o:=n8;exact tail_any (typeIs_str s z t) slot_str_getitem.lookup (getItem_str (c:=c) (by have e1:decide (i < -(2^63:Int))=false:=U_ (by lia);have e2:decide (i>=2^63)=false:=U_ (by lia);rw[e1,e2,Bool.or_false]) (by rw[h1];simpa using g) ⟨.str ⟨#[c]⟩,H,I.tok _,⟨_,rfl⟩,q⟩) hs
def Ui(K:Yy):R2:=λx y H Q=>KR K x y H Q\/qB K x y H Q\/OD x y H Q
def KU:IxR X (Ui X.K):=ix_list.or (ix_tup.or KS)
def ui(lo a:Option Int)(n:Nat):(sliceBounds lo a none n).1=((HT.sIx n 0 lo:Nat):Int)/\(sliceBounds lo a none n).2.1=((HT.sIx n n a:Nat):Int)/\(sliceBounds lo a none n).2.2=1:=by
 refine⟨?_,?_,rfl⟩
 .cases lo with
  |none=>simp[sliceBounds,HT.sIx]
  |some i=>
   simp only[sliceBounds,HT.sIx,Option.getD_none,show(1:Int)>0 by decide,Wl]
   grind
 .cases a with
  |none=>simp[sliceBounds,HT.sIx]
  |some i=>
   simp only[sliceBounds,HT.sIx,Option.getD_none,show(1:Int)>0 by decide,Wl]
   grind
def r_(its:List YA)(lo a:Option Int):slicePick its.toArray lo a none=((its.drop (HT.sIx its.length 0 lo)).take (HT.sIx its.length its.length a-HT.sIx its.length 0 lo)).toArray:=by obtain⟨h1,b,c⟩:=ui lo a its.toArray.size;unfold slicePick;rw[h1,b,c];simp only[sliceRange_one,pick_run,UZ]<;>rfl
def Sx(K:Yy):V->Option Int->Option Int->Hp->VK->Prop:=λx lo b H Q=>∃a xs,x=.ref a/\SqL K H a xs/\∀p,H p=none->Q (.ref p) (aP H p (.lst (vV xs lo b)))
def sl_list:SlR X (Sx X.K):=by intro ac s σ H x v j k lo c sl Q I e hs pl f h;obtain⟨a,xs,rfl,g,q⟩:=h;cases e;obtain⟨its,r,d,hz⟩:=I.list g;have i:=r.length;refine⟨"list",_,slot_list_getitem.lookup,d.isList.typeIs,?_⟩;refine wpAny_getItem_list_slice d.isList hs pl f .none (by simp) ?_ (by rw[UZ]<;>lia);rw[r_,<- i];refine⟨.ref s.heap.objs.size,_,I.laid (t':=s.toks) (o:=.lst (vV xs lo c)) (λb l q=>RW _ q) (UN _) ?_,rfl,q _ (I.aU.fresh (UN _))⟩;exact⟨Vf (o9 xs lo c) hz,_,0,(r.drop (HT.sIx xs.length 0 lo)).take (HT.sIx xs.length xs.length c-HT.sIx xs.length 0 lo),UU _ rfl⟩
def call_len_seq:CallR X (.builtin "len") (λxs H Q=>∃p a,xs=[.ref p]/\(SqL X.K H p a\/SqT X.K H p a)/\Q (.int a.length) H):=by
 intro ac s σ H xs us Q I r h;obtain⟨p,a,rfl,hq,q⟩:=h;obtain⟨u,rfl,d⟩:=fM r;cases d;have e:=n8;rcases hq with hq|hq
 .obtain⟨its,b,pl,hz⟩:=I.list hq;have c:=b.length;exact Calls.call_len_list pl.isList (by simp only[UZ]<;>lia) ⟨.int a.length,H,I.tok _,⟨s.toks+1,by rw[UZ,c]⟩,q⟩
 .obtain⟨its,b,pl,hz⟩:=I.tuple hq;have c:=b.length;exact len_tuple pl (by simp only[UZ]<;>lia) ⟨.int a.length,H,I.tok _,⟨s.toks+1,by rw[UZ,c]⟩,q⟩
def uj:CallR X (.builtin "len") (λxs H Q=>∃z,xs=[.str z]/\z.length<=sizeLine/\Q (.int z.length) H):=by intro ac s σ H xs us Q I r h;obtain⟨z,rfl,hz,q⟩:=h;obtain⟨u,rfl,t,rfl⟩:=fM r;have a:=n8;exact len_str (by lia) ⟨.int z.length,H,I.tok _,⟨_,rfl⟩,q⟩
def CallR.or(h:CallR X f r)(h':CallR X f r'):CallR X f (λxs H Q=>r xs H Q\/r' xs H Q):=by
 intro ac s σ H xs us Q I rs q;rcases q with q|q
 .exact h ac s σ H xs us Q I rs q
 .exact h' ac s σ H xs us Q I rs q
def uk:CallR X (.type "list") (λxs H Q=>∃p a,xs=[.ref p]/\(SqL X.K H p a\/SqT X.K H p a)/\∀l,H l=none->Q (.ref l) (aP H l (.lst a))):=by
 intro ac s σ H xs us Q I r h;obtain⟨p,a,rfl,hq,q⟩:=h;obtain⟨u,rfl,k⟩:=fM r;cases k;have f:∀(its:List YA),Vals a its->a.length<=sizeLine->∀(h':Heap)(c:Nat),(∀b j,s.heap.get? b=some j->h'.get? b=some j)->
  h'.get? s.heap.objs.size=some { cls:=.type "list",dict:=none,data:=.seq its.toArray c,slots:=#[] }->EP X ac σ Q (.ref s.heap.objs.size) {s with heap:=h'}:=λits d hz h' c kp e=>
  ⟨.ref s.heap.objs.size,_,I.laid (t':=s.toks) kp (UN _) (show ObjOk X.prog X.w _ h' _ (.lst a)from⟨hz,its,c,d,e⟩),rfl,q _ (I.aU.fresh (UN _))⟩
 rcases hq with hq|hq
 .obtain⟨its,d,pl,hz⟩:=I.list hq;have m:=d.length;obtain⟨o,g,i,n,hd⟩:=pl.isList;exact call_list_seq p (.inl rfl) g i hd (λh' c kp e=>f its d hz h' c kp e) (by simp only[UZ]<;>lia)
 .obtain⟨its,d,pl,hz⟩:=I.tuple hq;have m:=d.length;obtain⟨o,g,i,n,hd⟩:=pl;exact call_list_seq p (.inr rfl) g i hd (λh' c kp e=>f its d hz h' c kp e) (by simp only[UZ]<;>lia)
def sh:CallR X (.type "tuple") (λxs H Q=>∃p a,xs=[.ref p]/\((SqL X.K H p a/\∀l,H l=none->Q (.ref l) (aP H l (.tup a)))\/(SqT X.K H p a/\Q (.ref p) H))):=by
 intro ac s σ H xs us Q I r h;obtain⟨p,a,rfl,h⟩:=h;obtain⟨u,rfl,g⟩:=fM r;cases g;rcases h with⟨c,q⟩|⟨c,q⟩
 .obtain⟨its,d,pl,hz⟩:=I.list c;have j:=d.length;refine call_tuple_list pl.isList (λh' kp=>?_) (by simp only[UZ]<;>lia);have f:Inv X ac σ H {s with heap:=h'}:=I.kept (t':=s.toks) kp;have i:Inv X ac σ (aP H h'.objs.size (.tup a)) { s with heap:=h'.push { cls:=.type "tuple",data:=.seq its.toArray } }:=f.laid (t':=s.toks) (λb o e=>RW _ e) (UN _) (show ObjOk X.prog X.w _ _ _ (.tup a)from⟨hz,its,d,IsTup.new _ _⟩);exact⟨.ref h'.objs.size,_,i,rfl,q _ (f.aU.fresh (UN _))⟩
 .obtain⟨its,d,pl,hz⟩:=I.tuple c;exact call_tuple_same pl ⟨.ref p,H,I,rfl,q⟩
def OE(K:Yy)(T:String)(x:V)(H:Hp):Prop:=match x with
 |.str _=>T="str"
 |.int _=>T="int"
 |.ref p=>(T="list"/\∃xs,SqL K H p xs)\/(T="tuple"/\∃o,K.lookup p=some o/\o.cls=.type "tuple"/\o.dict=none)\/
  (T="dict"/\((∃kvs,H p=some (.dK kvs))\/∃kvs,H p=some (.dT kvs)))\/(T="set"/\∃S n,H p=some (.set S n))
 |_=>False
def CV(I:Inv X ac σ H s)(r:RelV x v)(ty:OE X.K T x H) :
 s.TypeIs v T/\∀a,v=.ref a->∃d,s.heap.get? a=some d/\d.dict=none:=by
 cases x with
 |str z=>obtain⟨t,rfl⟩:=r;cases(show T="str" from ty);exact⟨typeIs_str s z t,λ_ e=>nomatch e⟩
 |int i=>obtain⟨t,rfl⟩:=r;cases(show T="int" from ty);exact⟨typeIs_int s i t,λ_ e=>nomatch e⟩
 |ref p=>
  cases r;rcases ty with⟨rfl,xs,f⟩|⟨rfl,o,b,g,hd⟩|⟨rfl,b⟩|⟨rfl,S,n,b⟩
  .obtain⟨its,_,pl,_⟩:=I.list f;refine⟨pl.isList.typeIs,λa e=>?_⟩;cases e;obtain⟨o,n,e,c,hd,_⟩:=pl;exact⟨o,e,hd⟩
  .refine⟨⟨o,I.o5 p o b,g⟩,λa e=>?_⟩;cases e;exact⟨o,I.o5 _ o b,hd⟩
  .have z:∃o,s.heap.get? p=some o/\o.ExactDict:=by
    rcases b with⟨kvs,b⟩|⟨kvs,b⟩
    .obtain⟨_,_,_,_,o,_,_,e,ex,_⟩:=I.aU p _ b;exact⟨o,e,ex⟩
    .obtain⟨_,_,_,_,o,_,_,e,ex,_⟩:=I.aU p _ b;exact⟨o,e,ex⟩
   obtain⟨o,e,ex⟩:=z;refine⟨⟨o,e,ex.1⟩,λa e2=>?_⟩;cases e2;exact⟨o,e,ex.2.1⟩
  .obtain⟨o,_,_,_,e,ex,_⟩:=I.aU p _ b;refine⟨⟨o,e,ex.1⟩,λa e2=>?_⟩;cases e2;exact⟨o,e,ex.2.1⟩
 |_=>exact False.elim ty
def KW(K:Yy)(T:String)(r:V->List V->Hp->VK->Prop)(to:TE):TE:=λσ H Q=>to σ H λx a=>OE K T x a/\r x [] a Q
def OF(K:Yy)(T:String)(r:V->List V->Hp->VK->Prop)(to:TE)(t:TA):TE:=λσ H Q=>to σ H λx a=>OE K T x a/\t σ a λxs b=>r x xs b Q
variable{o e:Expr}{es:List Expr}{to:TE}{t:TA}{name:Str}{apos cpos:Pos}{T id:String}{r:V->List V->Hp->VK->Prop}
def CW(g:PlainAttrs T)(slot:Slot T name id)(c:typeOf (.builtin id)=pure (.type "method_descriptor")) (i:KQ X id r) (j:PE X o to)
 (a:autoParam (attributeBase o name X.env (eval o X.env)=eval o X.env) aM) (b:autoParam ((apos.endLine==cpos.line)=true) aM):PE X (.Call (.Attribute o name apos) [] [] cpos) (KW X.K T r to):=by
 intro ac s σ H Q I h;refine Xs a b (bX (j ac s σ H _ I h) λv s1 ⟨x,k,d,f,ty,q1⟩=>?_);obtain⟨h1,l⟩:=CV d f ty;exact⟨T,id,g,slot,c,h1,l,VW rfl (PySem.evalArgs_none (i ac s1 σ k x [] v [] Q d f .nil q1))⟩
def ko(k:PlainAttrs T)(slot:Slot T name id)(f:typeOf (.builtin id)=pure (.type "method_descriptor")) (l:KQ X id r) (m:PE X o to) (ha:PA X (e::es) t)
 (b:autoParam (attributeBase o name X.env (eval o X.env)=eval o X.env) aM)
 (d:autoParam (((backTo cpos (starEach (e::es) X.env)).all (λx=>!x.1)&&(backToKw cpos (keywordEach [] X.env)).all (λx=>x.1.isSome)
   && decide ((e::es).length+([]:List Keyword).length+(if([]:List Keyword).isEmpty then 0 else 1)<30))=true) aM)
 (c:autoParam ((apos.endLine==cpos.line)=true) aM) (hs:autoParam (starEach (e::es) X.env=(false,eval e X.env)::starEach es X.env) aM) (a:autoParam (bT X cpos es) aM) :
 PE X (.Call (.Attribute o name apos) (e::es) [] cpos) (OF X.K T r to t):=by
 intro ac s σ H Q I h;refine wpAny_Call_method_late b d c rfl (bX (m ac s σ H _ I h) λv s1 ⟨x,n,g,i,ty,q1⟩=>?_);obtain⟨h1,p⟩:=CV g i ty;refine⟨T,id,k,slot,f,h1,p,?_⟩;have j:=ha cpos ac s1 σ n _ g q1;rw[hs]at j ⊢;refine VW (by show(false ||(backTo cpos (starEach es X.env)).any (·.1))=false;rw[a]<;>rfl) (Ww ?_);exact bX j λus s2 ⟨vs,q,u,w,q2⟩=>l ac s2 σ q x vs v us Q u i w q2
end
def Uj(X:Cx)(id:String)(r:V->List V->Hp->VK->Prop):Prop:=
 ∀(ac:List (Addr×Obj))(s:Yx)(σ:St)(H:Hp)(x:V)(xs:List V)(v:YA)(us:List YA)(Q:VK),Inv X ac σ H s->RelV x v->Vals xs us->r x xs H Q->
  wpAny (model X.prog X.w) X.A (call (.builtin id) (v::us)) (EP X ac σ Q) X.xe s
def Vals.one{x:V}{us:List YA}(h:Vals [x] us):∃u,us=[u]/\RelV x u:=fM h
section
def Inv.TY{its its':List YA}{f:Array YA->Array YA}(I:Inv X ac σ H s)(a:H l=some (.lst xs))
 (e:s.heap.get? l=some { cls:=.type "list",data:=.seq its.toArray n }) (b:f its.toArray=its'.toArray) (c:Vals ys its') (hz:ys.length<=sizeLine) :
 Inv X ac σ (aP H l (.lst ys)) {s with heap:=s.heap.update l (Obj.mapSeq f),toks:=t'}:=by
 have q:=PySem.IsL.update e f;rw[b]at q;refine I.write (x:=l) (e:=l) (by rw[a];exact trivial) (.inl rfl) (λh u d g=>(Vh s.heap (Obj.mapSeq f) (V2 d)).trans g) ⟨_,q⟩ ?_;exact⟨hz,its',_,c,q⟩
def Inv.TB(I:Inv X ac σ H s)(a:Vals ys its)(hz:ys.length<=sizeLine) :
 Inv X ac σ (aP H s.heap.objs.size (.lst ys)) { s with heap:=s.heap.push { cls:=.type "list",data:=.seq its.toArray },toks:=t' }:=
 I.laid (λ_ _ q=>RW _ q) (UN _) ⟨hz,its,0,a,UU _ rfl⟩
theorem Inv.fresh(I:Inv X ac σ H s):H s.heap.objs.size=none:=I.aU.fresh (UN _)
def Inv.TN(I:Inv X ac σ H s)(a:H l=some (.lst xs)):xs.length<=sizeLine/\∃(its:List YA)(n:Nat),Vals xs its/\xs.length=its.length/\s.heap.get? l=some { cls:=.type "list",data:=.seq its.toArray n }:=by obtain⟨z,its,n,r,e⟩:=I.aU l _ a;exact⟨z,its,n,r,r.length,e⟩
end
section
def mQ:V->List V->Hp->VK->Prop:=λx vs H Q=>∃l xs y,x=.ref l/\vs=[y]/\H l=some (.lst xs)/\xs.length<sizeLine/\Q .bv (aP H l (.lst (xs++[y])))
def fS:Uj X "list.append" mQ:=by intro ac s σ H x vs v us Q I b c h;obtain⟨l,xs,y,rfl,rfl,a,hz,q⟩:=h;cases b;obtain⟨u,rfl,d⟩:=c.one;obtain⟨z,its,n,r,f,e⟩:=I.TN a;refine call_meets F.slot_list_append ⟨_,e,rfl⟩ F.entry_list_append (F.args_list_append_2 _ _) (PySem.list_append l its.toArray n u (by rw[UZ];lia)) ⟨e,?_⟩;refine⟨.bv,_,I.TY (its':=its++[u]) a e (by simp) (r.append (.cons d .nil)) ?_,rfl,q⟩;rw[Vc,XO];lia
end
section
variable{κ:Type}[DecidableEq κ]
def c9(kvs:List (κ×V))(k:κ):Option V:=(kvs.find? λkv=>decide (kv.1=k)).map (·.2)
noncomputable def cj(kvs:List (κ×V))(k:κ)(v:V):List (κ×V):=if(kvs.any λkv=>decide (kv.1=k))=true then kvs.map (λkv=>if kv.1=k then(kv.1,v)else kv)else kvs++[(k,v)]
def lR(kvs:List (κ×V))(k:κ):List (κ×V):=kvs.filter λkv=>decide (kv.1≠k)
def gV{p:κ×V}(e:p.1=k):c9 (p::r) k=some p.2:=by simp[c9,WF,e]
def gW{p:κ×V}(e:¬p.1=k):c9 (p::r) k=c9 r k:=by simp[c9,WF,e]
theorem kq(k:κ):∀kvs:List (κ×V),(kvs.any λkv=>decide (kv.1=k))=(c9 kvs k).isSome
 |[]=>rfl
 |p::r=>by
  rw[WK];by_cases e:p.1=k
  .simp only[gV e,U6 e,Bool.true_or,Option.isSome_some]
  .rw[gW e,U_ e,Yh];exact kq k r
theorem gd(kvs:List (κ×V))(k:κ)(v:V):(cj kvs k v).length<=kvs.length+1:=by grind [cj]
def vW{kvs:List (κ×V)}(v:V)(h:c9 kvs k=none):cj kvs k v=kvs++[(k,v)]:=by unfold cj;rw[kq,h];exact UV (by decide)
def RelO.gR(r:RelO o u):o.isSome=u.isSome:=by
 cases o with
 |none=>cases u with
  |none=>rfl
  |some _=>exact(show False from r).elim
 |some _=>cases u with
  |none=>exact(show False from r).elim
  |some _=>rfl
theorem RelO.getD(r:RelO o u)(rd:RelV d d'):RelV (o.getD d) (u.getD d'):=by
 cases o with
 |none=>cases u with
  |none=>exact rd
  |some _=>exact(show False from r).elim
 |some _=>cases u with
  |none=>exact(show False from r).elim
  |some _=>exact r
def KV.val{kvs:List (κ×V)}(r:KV kvs vs)(k:κ):RelO (c9 kvs k) (valueAt vs k):=by
 unfold KV at r;induction r with
 |nil=>exact tI_
 |@cons p q ps a h t d=>
  obtain⟨h1,f⟩:=h;by_cases e:p.1=k
  .have c:q.1=k:=h1.symm.trans e;have b:valueAt (q::a) k=some q.2:=by simp[valueAt,WF,c]
   rw[gV e,b];exact f
  .have c:¬q.1=k:=λz=>e (h1.trans z);have b:valueAt (q::a) k=valueAt a k:=by simp[valueAt,WF,c]
   rw[gW e,b];exact d
theorem KV.any(r:KV kvs vs)(k:κ):(kvs.any λkv=>decide (kv.1=k))=vs.any λkv=>decide (kv.1=k):=by
 unfold KV at r;induction r with
 |nil=>rfl
 |cons h t a=>rw[WK,WK,a,h.1]
def KV.NR(r:KV kvs vs)(k:κ)(b:RelV y u) :
 KV (kvs.map λkv=>if kv.1=k then(kv.1,y)else kv) (vs.map λkv=>if kv.1=k then(kv.1,u)else kv):=by
 unfold KV at r ⊢;induction r with
 |nil=>exact .nil
 |@cons p q ps c h t a=>
  rw[UR,UR];refine .cons ?_ a
  grind
def KV.put(r:KV kvs vs)(k:κ)(a:RelV y u):KV (cj kvs k y) (stored vs k u):=by
 unfold cj stored;rw[r.any k];by_cases e:(vs.any λkv=>decide (kv.1=k))=true
 .rw[UP e,UP e];exact r.NR k a
 .rw[UV e,UV e];exact Paired.snoc r ⟨rfl,a⟩
theorem KV.drop(r:KV kvs vs)(k:κ):KV (lR kvs k) (without vs k):=by
 unfold KV at r ⊢;unfold lR without;induction r with
 |nil=>exact .nil
 |@cons p q ps g h t c=>
  obtain⟨h1,d⟩:=h;rw[WZ,WZ];by_cases e:p.1=k
  .grind
  .have f:¬q.1=k:=λz=>e (h1.trans z);have a:decide (p.1≠k)=true:=by simp[e]
   have b:decide (q.1≠k)=true:=by simp[f]
   rw[UP a,UP b];exact .cons ⟨h1,d⟩ c
theorem KV.length(r:KV kvs vs):kvs.length=vs.length:=W8 r
def CY(kvs:List (κ×V))(k:κ):(lR kvs k).length<=kvs.length:=List.length_filter_le _ _
end
def jZ(r:RelV (kV k) u):(aI P w).is k u=true:=by
 cases k with
 |inl i=>obtain⟨t,e⟩:=(show ∃t,u=Value.int i t from r);subst e;exact vG P w i t
 |inr x=>obtain⟨t,e⟩:=(show ∃t,u=Value.str x t from r);subst e;exact vH P w x t
theorem sY:∀{ks:List bH}{us:List YA},Vals (ks.map kV) us->ItemsAre (aI P w) ks us
 |[],_,r=>by rw[WB]at r;cases r;exact .nil
 |k::ks,_,r=>by
  rw[UR]at r;cases r with
  |cons h t=>exact .cons (jZ h) (sY t)
abbrev KT(H:Hp):List (List bH×V)->List (List bH×Addr×YA)->Prop:=Paired λp q=>p.1=q.1/\H q.2.1=some (.tup (p.1.map kV))/\RelV p.2 q.2.2
def KT.val{H:Hp}(r:KT H kvs xs)(k:List bH):RelO (c9 kvs k) ((atKey xs k).map (·.2)):=by
 induction r with
 |nil=>exact tI_
 |@cons p q ps a h t d=>
  obtain⟨h1,_,f⟩:=h;by_cases e:p.1=k
  .have c:q.1=k:=h1.symm.trans e;have b:atKey (q::a) k=some q.2:=by simp[atKey,WF,c]
   rw[gV e,b];exact f
  .have c:¬q.1=k:=λz=>e (h1.trans z);have b:atKey (q::a) k=atKey a k:=by simp[atKey,WF,c]
   rw[gW e,b];exact d
def KT.NR(r:KT H kvs xs)(k:List bH)(b:RelV y u) :
 KT H (kvs.map λkv=>if kv.1=k then(kv.1,y)else kv) (xs.map (putAt k u)):=by
 induction r with
 |nil=>exact .nil
 |@cons p q ps c h t a=>
  rw[UR,UR];refine .cons ?_ a;obtain⟨h1,d,e⟩:=h;unfold putAt
  grind
def KT.put(r:KT H kvs xs)(k:List bH)(c:H b=some (.tup (k.map kV)))(a:RelV y u) :
 KT H (cj kvs k y) (storedH xs k b u):=by
 have e:(kvs.any λkv=>decide (kv.1=k))=(atKey xs k).isSome:=by rw[kq,(r.val k).gR,Yd]
 unfold cj storedH;rw[e];by_cases q:(atKey xs k).isSome=true
 .rw[UP q,UP q];exact r.NR k a
 .rw[UV q,UV q];exact Paired.snoc r ⟨rfl,c,a⟩
def KT.keeps(r:KT H kvs xs)(c:∀b a,H b=some (.tup a)->H' b=some (.tup a)):KT H' kvs xs:=Paired.NT r λ_ _ z=>⟨z.1,c _ _ z.2.1,z.2.2⟩
section
def Jf(ok:HOk P w H h)(e:Rd H a u):ObjOk P w H h a u:=e.ok ok
def mR(ok:HOk P w H h)(e:Rd H a (.dK kvs)):kvs.length<=sizeLine/\(a==sysModules)=false/\∃vs,KV kvs vs/\h.DictOf (aI P w) a vs:=show ObjOk P w H h a (.dK kvs)from Jf ok e
def vX(ok:HOk P w H h)(e:H a=some (.dK kvs)):kvs.length<=sizeLine/\(a==sysModules)=false/\∃vs,KV kvs vs/\h.DictOf (aI P w) a vs:=mR ok (.inl e)
theorem fT(ok:HOk P w H h)(e:H a=some (.tup (ks.map kV))):(tupleKind (aI P w)).is h ks a:=by obtain⟨_,its,r,o,h1,b,n,c⟩:=(show ObjOk P w H h a (.tup (ks.map kV))from ok a _ e);exact⟨o,its.toArray,n,h1,b,c,by simpa using sY r⟩
def o_(ok:HOk P w H h)(e:Rd H a (.dT kvs)):kvs.length<=sizeLine/\(a==sysModules)=false/\
 ∃xs,KT H kvs xs/\h.DictOfH (tupleKind (aI P w)) a xs:=by
 obtain⟨z,y,xs,r,o,es,c,h1,d,f,g,i⟩:=(show ObjOk P w H h a (.dT kvs)from Jf ok e);refine⟨z,y,xs,r,o,es,c,h1,d,f,g,λx b=>?_,i⟩;have all:∀{l:List (List bH×V)}{m:List (List bH×Addr×YA)},KT H l m->∀x∈m,(tupleKind (aI P w)).is h x.1 x.2.1:=by
  intro l m q;induction q with
  |nil=>intro x b;exact nomatch b
  |@cons p q ps j k t n=>grind [fT]
 exact all r x b
def Jg(ok:HOk P w H h)(e:H a=some (.dT kvs)):kvs.length<=sizeLine/\(a==sysModules)=false/\
 ∃xs,KT H kvs xs/\h.DictOfH (tupleKind (aI P w)) a xs:=o_ ok (.inl e)
end
def DGet(H:Hp)(a:Addr)(y:V)(r:Option V):Prop:=(∃kvs k,Rd H a (.dK kvs)/\y=kV k/\r=c9 kvs k)\/∃kvs k b,Rd H a (.dT kvs)/\y=.ref b/\H b=some (.tup (k.map kV))/\r=c9 kvs k
def DPut(H:Hp)(a:Addr)(y v:V)(H':Hp):Prop:=
 (∃kvs k,H a=some (.dK kvs)/\y=kV k/\kvs.length<sizeLine/\H'=aP H a (.dK (cj kvs k v)))\/
 ∃kvs k b,H a=some (.dT kvs)/\y=.ref b/\H b=some (.tup (k.map kV))/\kvs.length<sizeLine/\H'=aP H a (.dT (cj kvs k v))
def DGet.t{kvs:List (List bH×V)}{k:List bH}(e:H a=some (.dT kvs))(c:H b=some (.tup (k.map kV))):DGet H a (.ref b) (c9 kvs k):=.inr ⟨kvs,k,b,.inl e,rfl,c,rfl⟩
theorem DPut.k{kvs:List (bH×V)}{k:bH}{v:V}(e:H a=some (.dK kvs))(b:kvs.length<sizeLine):DPut H a (kV k) v (aP H a (.dK (cj kvs k v))):=.inl ⟨kvs,k,e,rfl,b,rfl⟩
def DPut.t{kvs:List (List bH×V)}{k:List bH}{v:V}(e:H a=some (.dT kvs))(c:H b=some (.tup (k.map kV)))(d:kvs.length<sizeLine) :
 DPut H a (.ref b) v (aP H a (.dT (cj kvs k v))):=.inr ⟨kvs,k,b,e,rfl,c,d,rfl⟩
section
def Inv.big(I:Inv X ac σ H s):sysModules<s.heap.objs.size:=by have h:mainGlobals<s.heap.objs.size:=(I.mod.glob.keeps I.bk).lt;exact Nat.lt_trans (by decide) h
def A3(r:A.units+1<cLine)(I:Inv X ac σ H s)(g:DGet H a y (some v))(n:RelV y u)(h:∀f q,Inv X ac σ H q->RelV v f->Q f q) :
 wpAny (model X.prog X.w) A (getItem (.ref a) u) Q E s:=by
 rcases g with⟨kvs,k,e,i,l⟩|⟨kvs,k,b,e,i,t,l⟩
 .subst i;obtain⟨z,hd,vs,c,dd⟩:=mR I.aU e;obtain⟨f,j,d⟩:=RelO.some_of (v:=v) (o:=valueAt vs k) (by rw[l];exact c.val k);exact wpAny_getItem_of (jZ n) dd.mapOf j (h f _ (I.tok _) d)
 .subst i;cases(show u=Value.ref b from n);obtain⟨z,hd,xs,c,dd⟩:=o_ I.aU e;obtain⟨f,j,d⟩:=RelO.some_of (v:=v) (o:=(atKey xs k).map (·.2)) (by rw[l];exact c.val k);obtain⟨p,x,m⟩:=VF.mp j;refine wpAny_getItem_heap (Wc r) (fT I.aU t) dd x ?_;rw[m];exact h f _ (I.tok _) d
def Sy(j:A.units+1<cLine)(I:Inv X ac σ H s)(g:DGet H a y o)(f:RelV y u)(h:∀i,Inv X ac σ H i->Q (.bool o.isSome) i) :
 wpAny (model X.prog X.w) A (compareOp .In u (.ref a)) Q E s:=by
 rcases g with⟨kvs,k,e,d,l⟩|⟨kvs,k,b,e,d,m,l⟩
 .subst d;obtain⟨z,hd,vs,c,dd⟩:=mR I.aU e;refine wpAny_in_of (jZ f) hd dd.mapOf ?_;rw[<- (c.val k).gR,<- l];exact h _ (I.tok _)
 .subst d;cases(show u=Value.ref b from f);obtain⟨z,hd,xs,c,dd⟩:=o_ I.aU e;refine wpAny_in_heap (Wc j) (fT I.aU m) hd dd ?_;have q:=(c.val k).gR;rw[Yd]at q;rw[<- q,<- l];exact h _ (I.tok _)
def lj(I:Inv X ac σ H s)(mu:N1 (H a))(hs:Heap.SameBut a s.heap h')(c:∃q,h'.get? a=some q)(new:ObjOk X.prog X.w (aP H a ob) h' a ob) :
 Inv X ac σ (aP H a ob) {s with heap:=h',toks:=t'}:=
 I.write (x:=a) (e:=a) mu (.inl rfl) (λb q d z=>(hs.2 b d).trans z) c new
def um(z:kvs.length<=sizeLine)(hd:(a==sysModules)=false)(b:KV kvs vs)(dd:h'.DictOf (aI P w) a vs) :
 ObjOk P w H' h' a (.dK kvs):=⟨z,hd,vs,b,dd⟩
def lq(C:A.units+1<cLine)(I:Inv X ac σ H s)(g:DPut H a y v H')(o:RelV y u)(p:RelV v r)(h:∀t,Inv X ac σ H' t->Q () t) :
 wpAny (model X.prog X.w) A (setItem (.ref a) u r) Q E s:=by
 rcases g with⟨kvs,k,e,j,l,m⟩|⟨kvs,k,b,e,j,x,l,m⟩
 .subst j m;obtain⟨z,hd,vs,d,dd⟩:=vX I.aU e;have hz:vs.length<=sizeLine:=by rw[<- d.length];exact z
  have n:(cj kvs k v).length<=sizeLine:=by have:=gd kvs k v;lia
  refine wpAny_setItem_pairs (hsz:=hz) (jZ o) dd λh' f hs=>h _ ?_;have D:∃q,h'.get? a=some q:=let ⟨q,_,_,i,_⟩:=f;⟨q,i⟩;exact lj I (by rw[e];exact tI_) hs D (um n hd (d.put k p) f)
 .subst j m;cases(show u=Value.ref b from o);obtain⟨z,hd,xs,d,dd⟩:=Jg I.aU e;have hz:xs.length<=sizeLine:=by rw[<- W8 d];exact z
  have n:(cj kvs k v).length<=sizeLine:=by have:=gd kvs k v;lia
  refine wpAny_setItem_heap (hsz:=hz) (Wc C) (fT I.aU x) dd λh' f hs=>h _ ?_;obtain⟨q,es,F,i,G,J,K,_,L⟩:=f;refine lj I (by rw[e];exact tI_) hs ⟨q,i⟩ ⟨n,hd,_,(d.put k x p).keeps λc M B=>?_,q,es,F,i,G,J,K,L⟩;rw[af (zu B e (λz=>nomatch z))];exact B
end
section
def OG(I:Inv X ac σ H s)(e:H a=some (.dK kvs))(f:RelV (kV k) u)(l:c9 kvs k=some v)(j:more=[]\/∃x,more=[x])
 (h:∀c m,Inv X ac σ (aP H a (.dK (lR kvs k))) m->RelV v c->Q c m):wpAny (model X.prog X.w) A (call (.builtin "dict.pop") (.ref a::u::more)) Q E s:=by
 obtain⟨z,hd,vs,b,dd⟩:=vX I.aU e;obtain⟨c,n,g⟩:=RelO.some_of (v:=v) (o:=valueAt vs k) (by rw[<- l];exact b.val k);have p:(keyPart u).isSome=true:=by
  cases k with
  |inl i=>obtain⟨t,q⟩:=(show ∃t,u=Value.int i t from f);subst q;rfl
  |inr x=>obtain⟨t,q⟩:=(show ∃t,u=Value.str x t from f);subst q;rfl
 have ha:argsOk "dict.pop" ⟨.ref a::u::more,[]⟩:=by
  rcases j with q|⟨x,q⟩
  .subst q;exact PySem.F.args_dict_pop_2 _ _
  .subst q;exact PySem.F.args_dict_pop_3 _ _ _
 refine WC PySem.F.slot_dict_pop dd.typeIs PySem.F.entry_dict_pop ha (meets_dict_pop_there (aI X.prog X.w) a (jZ f) more j p)
  ⟨vs,c,dd,by rw[<- b.length];exact z,n,λh' d hs=>h c _ ?_ g⟩
 have r:∃q,h'.get? a=some q:=let ⟨q,_,_,y,_⟩:=d;⟨q,y⟩;exact lj I (by rw[e];exact tI_) hs r (um (Vf (CY kvs k) z) hd (b.drop k) d)
end
def KY(i:Expr):Prop:=∀a b,subscripted i false a b=operate [a,b] (getItem a b)
def Gx{E:YA->Yx->Prop}{env:Env}{b a:Expr}{l:Pos}{T id:String}{Q:YA->Yx->Prop}
 (n:typeLookup (.type T) "__getitem__"=pure (some (.builtin id))) (hs:KY a)
 (h:wpAny (model prog w) A (eval b env) (λo e=>wpAny (model prog w) A (eval a env) (λi c=>c.TypeIs o T/\wpAny (model prog w) A (getItem o i) Q E c) E e) E s) :
 wpAny (model prog w) A (eval (.Subscript b a l) env) Q E s:=by
 refine Subscript_ (Wg h (λo e j=>Wg j (λi c d=>?_) λ_ _ x=>x) λ_ _ x=>x);obtain⟨m,d⟩:=d;unfold subscriptTail;refine KE ?_;rw[getitemInPython_of_ne m.not_modules];refine KE (wpAny_specialOf m n ?_);have g:wpAny (model prog w) A (subscripted a false o i) (λr f=>wpAny (model prog w) A (letTemporaryGo b o r >>= λ_=>pure r) Q E f) E c:=by rw[hs o i];exact wpAny_operating (Wg d (λr f k=>KE (wpAny_letTemporaryGo (UM k))) λ_ _ x=>x)
 first
  |exact UM (KE g)
  |exact KE (UM (KE g))
  |exact KE g
def vY(I:Inv X ac σ H s)(g:DGet H a y o):s.TypeIs (.ref a) "dict":=by
 rcases g with⟨kvs,k,e,_,_⟩|⟨kvs,k,b,e,_,_,_⟩
 .obtain⟨_,_,vs,_,dd⟩:=mR I.aU e;exact dd.typeIs
 .obtain⟨_,_,xs,_,dd⟩:=o_ I.aU e;exact dd.typeIs
def Jh(td ty:TE):TE:=λσ H Q=>td σ H λx c=>ty σ c λy b=>∃a v,x=.ref a/\DGet b a y (some v)/\Q v b
def CZ(td ty c:TE):TS:=λD σ H=>c σ H λv d=>td σ d λx e=>ty σ e λy f=>∃a b,x=.ref a/\DPut f a y v b/\D.nx σ b
section
def zF(d:X.A.units+1<cLine)(e:PE X o td)(f:PE X i ty)(hs:KY i):PE X (.Subscript o i pos) (Jh td ty):=by intro ac s σ H Q I h;refine Gx PySem.F.slot_dict_getitem.lookup hs (bX (e ac s σ H _ I h) λu s1 ⟨x,j,k,l,q1⟩=>bX (f ac s1 σ j _ k q1) λq s2 ⟨y,m,c,n,a,v,ex,g,q2⟩=>?_);subst ex;obtain rfl:u=Value.ref a:=l;exact⟨vY c g,A3 d c g n λr t p b=>⟨v,m,p,b,q2⟩⟩
def Gy(b:X.A.units+1<cLine)(c:PE X o td)(d:PE X i ty)(e:PE X value tv)(hs:swapsWith value (some (.Subscript o i pos')) pos.line X.env=pure false) :
 PS X (.Assign [.Subscript o i pos'] value pos) (CZ td ty tv):=by
 intro ac s σ H D I h;refine wpAny_Assign_Subscript (bX (e ac s σ H _ I h) λr s1 ⟨v,f,j,k,q1⟩=>bX (c ac s1 σ f _ j q1) λu s2 ⟨x,l,m,n,q2⟩=>bX (d ac s2 σ l _ m q2) λB C ⟨y,E,p,q,a,t,ex,g,w⟩=>?_) hs;subst ex;obtain rfl:u=Value.ref a:=n;exact lq b p g q k λF z=>⟨σ,t,z,w⟩
end
def vZ(h:Heap)(a:sysModules<h.objs.size):ObjOk P w H (h.push { cls:=.type "dict",data:=.dict #[] }) h.objs.size (.dK []):=⟨Vo _,WV.mpr (V2 (U9 a)),[],.nil,Heap.DictOf.new h⟩
def C0(h:Heap)(a:sysModules<h.objs.size):ObjOk P w H (h.push { cls:=.type "dict",data:=.dict #[] }) h.objs.size (.dT []):=⟨Vo _,WV.mpr (V2 (U9 a)),[],.nil,_,#[],0,UU _ rfl,⟨rfl,rfl,rfl⟩,rfl,rfl,Ve⟩
def C1:TE:=λ_ H Q=>∀p,H p=none->Q (.ref p) (aP H p (.dK []))
def oe:TE:=λ_ H Q=>∀p,H p=none->Q (.ref p) (aP H p (.dT []))
section
def v4:PE X (.Dict [] [] pos) C1:=λac s σ H Q I h=>wpAny_Dict_empty ⟨.ref s.heap.objs.size,_,I.laid (a:=s.heap.objs.size) (o:=.dK []) (t':=s.toks) (λ_ _ q=>RW _ q) (UN _) (vZ s.heap I.big),rfl,h _ (I.aU.fresh (UN _))⟩
def ku:PE X (.Dict [] [] pos) oe:=λac s σ H Q I h=>wpAny_Dict_empty ⟨.ref s.heap.objs.size,_,I.laid (a:=s.heap.objs.size) (o:=.dT []) (t':=s.toks) (λ_ _ q=>RW _ q) (UN _) (C0 s.heap I.big),rfl,h _ (I.aU.fresh (UN _))⟩
end
def yi:List (TE×TE)->St->Hp->(List (V×V)->Hp->Prop)->Prop
 |[],_,H,Q=>Q [] H
 |(tk,a)::r,σ,H,Q=>tk σ H λx b=>a σ b λy c=>yi r σ c λps d=>Q ((x,y)::ps) d
abbrev VV:List (V×V)->List (YA×YA)->Prop:=Paired λp q=>RelV p.1 q.1/\RelV p.2 q.2
def RV(X:Cx)(b:Pos)(keys:List (Option Expr))(a:List Expr)(c:List (TE×TE)):Prop:=
 ∀(ac:List (Addr×Obj))(s:Yx)(σ:St)(H:Hp)(Q:List (V×V)->Hp->Prop),Inv X ac σ H s->yi c σ H Q->
  wpAny (model X.prog X.w) X.A (evalPairs (pairTrees keys a X.env b)) (λvs d=>∃ps H',Inv X ac σ H' d/\VV ps vs/\Q ps H') X.xe s
def Gz:RV X pos [] [] []:=λac s σ H Q I h=>pairTrees_nil_walk ⟨[],H,I,.nil,h⟩
def C2(b:PE X k tk)(c:PE X v tv)(d:RV X pos ks vs trs) :
 RV X pos (some k::ks) (v::vs) ((tk,tv)::trs):=λac s σ H Q I h=>
 pairTrees_cons_walk (bX (b ac s σ H _ I h) λu s1 ⟨x,e,f,g,q1⟩=>bX (c ac s1 σ e _ f q1) λp s2 ⟨y,i,j,l,q2⟩=>bX (d ac s2 σ i _ j q2) λws q ⟨ps,m,n,a,o⟩=>⟨(x,y)::ps,m,n,.cons ⟨g,l⟩ a,o⟩)
def og(kvs more:List (bH×V)):List (bH×V):=more.foldl (λa kv=>cj a kv.1 kv.2) kvs
def KV.merge:∀{more:List (bH×V)}{rs:List (bH×YA)}{kvs:List (bH×V)}{vs:List (bH×YA)},KV more rs->KV kvs vs->KV (og kvs more) (merged vs rs):=by
 intro more rs kvs vs r;unfold KV at r;induction r generalizing kvs vs with
 |nil=>intro q;exact q
 |@cons p q ps c h t a=>
  intro b;have e:KV (cj kvs p.1 p.2) (stored vs q.1 q.2):=by have:=b.put p.1 h.2;rw[<- h.1];exact this
  exact a e
theorem lS:∀(more kvs:List (bH×V)),(og kvs more).length<=kvs.length+more.length
 |[],kvs=>by show kvs.length<=kvs.length+0;lia
 |p::r,kvs=>by
  have h1:=lS r (cj kvs p.1 p.2)
  grind [gd,og,cj]
theorem qC:∀{kvs:List (bH×V)}{ws:List (YA×YA)},VV (kvs.map λkv=>(kV kv.1,kv.2)) ws->∃rs,Carries (aI P w) ws rs/\KV kvs rs
 |[],_,r=>by rw[WB]at r;cases r;exact⟨[],tI_,.nil⟩
 |p::kvs,_,r=>by
  rw[UR]at r;cases r with
  |@cons a b e bs h t=>obtain⟨rs,c,q⟩:=qC (P:=P) (w:=w) t;obtain⟨f,d⟩:=b;exact⟨(p.1,d)::rs,⟨jZ h.1,rfl,c⟩,.cons ⟨rfl,h.2⟩ q⟩
def OH(a:List (TE×TE)):TE:=λσ H Q=>∀p,H p=none->yi a σ (aP H p (.dK [])) λps b=>b p=some (.dK [])/\∃kvs:List (bH×V),ps=kvs.map (λkv=>(kV kv.1,kv.2))/\kvs.length<=15/\Q (.ref p) (aP b p (.dK (og [] kvs)))
def GA(h:RV X pos keys values trs)(b:keys.all (·.isSome)=true)(j:keys.length=values.length)(k:keys≠[])
 (f:keys.length<=15):PE X (.Dict keys values pos) (OH trs):=by
 intro ac s σ H Q I q;have l:=I.aU.fresh (UN s.heap.objs.size);have m:=I.laid (a:=s.heap.objs.size) (o:=.dK []) (h':=s.heap.push { cls:=.type "dict",data:=.dict #[] }) (t':=s.toks) (λ_ _ q=>RW _ q) (UN _) (vZ s.heap I.big);refine wpAny_Dict_walk (knd:=aI X.prog X.w) b j k f (bX (h ac _ σ _ _ m (q _ l)) λws s2 ⟨ps,v,i,g,e,kvs,n,lk,q2⟩=>?_);subst n;obtain⟨rs,c,rk⟩:=qC (P:=X.prog) (w:=X.w) g;obtain⟨z,hd,p,r,dd⟩:=vX i.aU e;cases r;refine⟨rs,c,dd,λh' d hs=>⟨.ref s.heap.objs.size,_,?_,rfl,q2⟩⟩;have hz:(og [] kvs).length<=sizeLine:=by have h1:=lS kvs [];rw[Wq]at h1;rw[Vk];lia
 have t:∃q,h'.get? s.heap.objs.size=some q:=let ⟨q,_,_,u,_⟩:=d;⟨q,u⟩;exact lj i (by rw[e];exact tI_) hs t (um hz hd (rk.merge .nil) d)
structure M1(X:Cx) (o:Expr) (m:Str) (apos:Pos) (e:Expr) (cpos:Pos):Prop where
 base:attributeBase o m X.env (eval o X.env)=eval o X.env
 nY:((backTo cpos (starEach [e] X.env)).all (λx=>!x.1)&&(backToKw cpos (keywordEach [] X.env)).all (λx=>x.1.isSome)
  && decide (([e]:List Expr).length+([]:List Keyword).length+(if([]:List Keyword).isEmpty then 0 else 1)<30))=true
 line:(apos.endLine==cpos.line)=true
 trees:backTo cpos (starEach [e] X.env)=[(false,eval e X.env)]
structure M2(X:Cx) (o:Expr) (m:Str) (apos:Pos) (e f:Expr) (cpos:Pos):Prop where
 base:attributeBase o m X.env (eval o X.env)=eval o X.env
 nY:((backTo cpos (starEach [e,f] X.env)).all (λx=>!x.1)&&(backToKw cpos (keywordEach [] X.env)).all (λx=>x.1.isSome)
  && decide (([e,f]:List Expr).length+([]:List Keyword).length+(if([]:List Keyword).isEmpty then 0 else 1)<30))=true
 line:(apos.endLine==cpos.line)=true
 trees:backTo cpos (starEach [e,f] X.env)=[(false,eval e X.env),(false,eval f X.env)]
def Ji(H:Hp)(a:Addr):Prop:=(∃kvs,Rd H a (.dK kvs))\/∃kvs,Rd H a (.dT kvs)
def oh(I:Inv X ac σ H s)(d:Ji H a) :
 s.TypeIs (.ref a) "dict"/\(∀b,Value.ref a=.ref b->∃c,s.heap.get? b=some c/\c.dict=none)/\(a==sysModules)=false:=by
 rcases d with⟨kvs,e⟩|⟨kvs,e⟩
 .obtain⟨_,hd,vs,_,dd⟩:=mR I.aU e;refine⟨dd.typeIs,λb q=>?_,hd⟩;cases q;obtain⟨c,_,_,h1,f,_⟩:=dd;exact⟨c,h1,f.2.1⟩
 .obtain⟨_,hd,xs,_,dd⟩:=o_ I.aU e;refine⟨dd.typeIs,λb q=>?_,hd⟩;cases q;obtain⟨c,_,_,h1,f,_⟩:=dd;exact⟨c,h1,f.2.1⟩
section
def C3(m:A.units+1<cLine)(I:Inv X ac σ H s)(g:DGet H a y o)(f:RelV y u)(h:∀i j,Inv X ac σ H j->RelV (o.getD .bv) i->Q i j) :
 wpAny (model X.prog X.w) A (call (.builtin "dict.get") [.ref a,u]) Q E s:=by
 rcases g with⟨kvs,k,e,d,l⟩|⟨kvs,k,b,e,d,n,l⟩
 .subst d;obtain⟨z,hd,vs,c,dd⟩:=mR I.aU e;refine WC Vq dd.typeIs VX (WW _ _) (meets_dict_get (aI X.prog X.w) a (jZ f) hd) ⟨_,dd.mapOf,h _ _ (I.tok _) ?_⟩;rw[l];exact(c.val k).getD rfl
 .subst d;cases(show u=Value.ref b from f);obtain⟨z,hd,xs,c,dd⟩:=o_ I.aU e;refine WC Vq dd.typeIs VX (WW _ _) (meetsH_dict_get (tupleKind (aI X.prog X.w)) a b hd) ⟨Wc m,k,xs,fT I.aU n,dd,h _ _ (I.tok _) ?_⟩;rw[l];exact(c.val k).getD rfl
def C4(n:A.units+1<cLine)(I:Inv X ac σ H s)(g:DGet H a y o)(i:RelV y u)(rd:RelV d r)(h:∀j m,Inv X ac σ H m->RelV (o.getD d) j->Q j m) :
 wpAny (model X.prog X.w) A (call (.builtin "dict.get") [.ref a,u,r]) Q E s:=by
 rcases g with⟨kvs,k,e,f,l⟩|⟨kvs,k,b,e,f,p,l⟩
 .subst f;obtain⟨z,hd,vs,c,dd⟩:=mR I.aU e;refine WC Vq dd.typeIs VX (WX _ _ _) (meets_dict_get_default (aI X.prog X.w) a (jZ i) hd r) ⟨_,dd.mapOf,h _ _ (I.tok _) ?_⟩;rw[l];exact(c.val k).getD rd
 .subst f;cases(show u=Value.ref b from i);obtain⟨z,hd,xs,c,dd⟩:=o_ I.aU e;refine WC Vq dd.typeIs VX (WX _ _ _) (meetsH_dict_get_default (tupleKind (aI X.prog X.w)) a b hd r) ⟨Wc n,k,xs,fT I.aU p,dd,h _ _ (I.tok _) ?_⟩;rw[l];exact(c.val k).getD rd
end
def yj(td ty:TE):TE:=λσ H Q=>td σ H λx b=>∃a,x=.ref a/\Ji b a/\ty σ b λy c=>∃o,DGet c a y o/\Q (o.getD .bv) c
def mq(td ty d:TE):TE:=λσ H Q=>td σ H λx b=>∃a,x=.ref a/\Ji b a/\ty σ b λy e=>d σ e λz c=>∃o,DGet c a y o/\Q (o.getD z) c
def qD(td ty:TE):TE:=λσ H Q=>td σ H λx b=>∃a,x=.ref a/\Ji b a/\ty σ b λy c=>∃kvs k v,c a=some (.dK kvs)/\y=kV k/\c9 kvs k=some v/\Q v (aP c a (.dK (lR kvs k)))
section
def C5(f:X.A.units+1<cLine)(i:PE X o td)(j:PE X e ty)(m:M1 X o "get" apos e cpos):PE X (.Call (.Attribute o "get" apos) [e] [] cpos) (yj td ty):=by intro ac s σ H Q I h;refine W_ m.base m.nY m.line Vl Vq W6 (bX (i ac s σ H _ I h) λu s1 ⟨x,k,c,l,a,ex,d,q1⟩=>?_);subst ex;obtain rfl:u=Value.ref a:=l;obtain⟨n,p,_⟩:=oh c d;refine⟨n,p,?_⟩;rw[m.trees];refine VW rfl (Ww (V3 (bX (j ac s1 σ k _ c q1) λw s2 ⟨y,q,r,t,z,g,q2⟩=>WE ?_)));exact C3 f r g t λB C v b=>⟨_,q,v,b,q2⟩
def qE(i:X.A.units+1<cLine)(j:PE X o td)(k:PE X e ty)(l:PE X f tx)(m:M2 X o "get" apos e f cpos):PE X (.Call (.Attribute o "get" apos) [e,f] [] cpos) (mq td ty tx):=by intro ac s σ H Q I h;refine W_ m.base m.nY m.line Vl Vq W6 (bX (j ac s σ H _ I h) λu s1 ⟨x,n,c,p,a,ex,d,q1⟩=>?_);subst ex;obtain rfl:u=Value.ref a:=p;obtain⟨q,r,_⟩:=oh c d;refine⟨q,r,?_⟩;rw[m.trees];refine VW rfl (Ww (V3 (bX (k ac s1 σ n _ c q1) λG s2 ⟨y,t,v,w,q2⟩=>V3 (bX (l ac s2 σ t _ v q2) λJ K ⟨z,B,C,D,L,g,E⟩=>WE ?_))));exact C4 i C g w D λM N F b=>⟨_,B,F,b,E⟩
def v5(f:PE X o td)(g:PE X e ty)(m:M1 X o "pop" apos e cpos):PE X (.Call (.Attribute o "pop" apos) [e] [] cpos) (qD td ty):=by intro ac s σ H Q I h;refine W_ m.base m.nY m.line Vl PySem.F.slot_dict_pop PySem.F.type_dict_pop (bX (f ac s σ H _ I h) λu s1 ⟨x,i,c,j,a,ex,d,q1⟩=>?_);subst ex;obtain rfl:u=Value.ref a:=j;obtain⟨n,p,_⟩:=oh c d;refine⟨n,p,?_⟩;rw[m.trees];refine VW rfl (Ww (V3 (bX (g ac s1 σ i _ c q1) λA s2 z=>WE ?_)));obtain⟨y,B,q,r,kvs,k,v,t,rfl,l,q2⟩:=z;exact OG q t r l (.inl rfl) λC D w b=>⟨v,_,w,b,q2⟩
end
end L2
namespace Att
open PySem PySem.W PySem.Calls PyProof.Rows
def pE:∀(ns:List Int)(vs:List YA),WellAll P h vs (ns.map WData.int)->IntsAre vs ns:=by
 intro ns;induction ns with
 |nil=>intro vs w;rw[WB]at w;cases w;exact .nil
 |cons n ns c=>
  intro vs w;rw[UR]at w;cases w with
  |cons a b=>cases a;exact .cons _ _ (c _ b)
def A4{l:OpenLaw}{n:Nat}(j:l.most=some n){P:Params}
 (b:l.row.toRowW.claim.pre args=true) (f:WellAll P h vals args) :
 ∃a vs ns,vals=[Value.ref a]/\args=[WData.list (ns.map WData.int)]/\h.get? a=some { cls:=.type "list",data:=.seq vs.toArray }/\IntsAre vs ns/\ns.length<=n:=by
 have g:WShape.hasAll [] args [.list .int]=true:=(pre_splitW b).1;have i:l.pre.holds [] {args:=args}=true:=(pre_splitW b).2;obtain⟨d,r,rfl,h1,k⟩:=hasAllW_cons g;obtain rfl:=hasAllW_nil k;obtain⟨xs,rfl,m⟩:=hasW_list h1;obtain⟨ns,rfl⟩:=items_int m;have o:ns.length<=n:=by
  unfold OpenLaw.pre at i;have e:(WTm.not (.lt (.lit (.int (n:Int))) (.len (.arg 0)))).holds [] {args:=[.list (ns.map .int)]}=true:=by have e:=(holds_andW i).1;rw[j]at e;exact e
  have t:=condW_of e (w_not (w_lt w_lit (w_len_list (w_arg rfl))))
  grind
 cases f with
 |cons p q=>
  cases q;cases p with
  |list s c=>exact⟨_,_,ns,rfl,rfl,s,pE ns _ c,o⟩
def A5(l:OpenLaw)(args:List WData):l.row.toRowW.claim.post args (.bool true) args=true:=
 postW_of (r:=l.row.toRowW) (X:=(true==true))
  (show WShape.has [] (.bool true) .bool=true by first|rfl|decide|simp[WShape.has,WShape.arms,WShape.armsAll])
  (show(WTm.eq .res (.lit (.bool true))).value [] {args:=args,res:=some (.bool true),after:=args}=some (.bool (true==true))from w_eq_bool (w_res rfl) w_lit) rfl
def attach_call{l:OpenLaw}{n:Nat}{t:(Str->Option YA)->Heap->Prop}{u:World->Heap->Prop}
 (y:l.most=some n) (j:d.params.defaults=[])
 (call:∀(w:World)(s₀ b:Yx)(mg k:Str->Option YA)(fa:Addr)(o:Obj)(pm h doc:YA)(a:Addr)(vs:List YA)(ns:List Int),
   Ground q loose [] t w s₀ mg k b.heap->u w b.heap->
   b.heap.get? fa=some o->o.data=.func (docDef d.name d.params d.body d.scope pm h doc)->b.heap.CodeRec h d.name->mg d.name=some (.ref fa)->
   b.heap.get? a=some { cls:=.type "list",data:=.seq vs.toArray }->IntsAre vs ns->ns.length<=n->b.gens=#[]->
   codeAny (model l.prog w) callerA (.call (.ref fa) ⟨[.ref a],[]⟩) (λr i=>r=.ok (.ret (.bool true))/\OldK b.heap i.heap/\i.os=b.os/\AllBare i.gens) b) :
 WalkO q loose t u l.row.toRowW d [] (λf vs=>PySem.call f vs):=by
 intro w s₀ b mg k G Y fa o pm h doc z kV A hd m hD p B args v L e x C s D;obtain rfl:z=.none:=Dflts.none hD j;obtain rfl:kV=.none:=Dflts.noKw hD;obtain⟨a,vs,ns,rfl,rfl,g,c,E⟩:=A4 y e s;refine enter_call (XI (call w s₀ b mg k fa o pm h doc a vs ns G Y A (fd_plain hd) m p g c E B) λr i F=>?_);obtain⟨rfl,H,I,J⟩:=F;exact⟨.inl ⟨.bool true,.bool true,[],rfl,λ_=>rfl,.bool true,A5 l _,λ_=>⟨List.Pairwise.nil,λ_ K=>(nomatch K)⟩⟩,H,I,J⟩
end Att
namespace L2
open PySem PySem.Spec PyProof.Rows
noncomputable def gv(s:Stmt)(j:Nat):Stmt:=match s with
 |.ClassDef _ _ _ body _ _ _ _ _ _ _=>body.getD j (.Pass ⟨0,0,0,0⟩)
 |_=>.Pass ⟨0,0,0,0⟩
noncomputable def d4(s:Stmt):Arguments:=match s with
 |.FunctionDef _ a _ _ _ _ _ _ _ _=>a
 |_=>{posonlyargs:=[],args:=[],vararg:=none,kwonlyargs:=[],kw_defaults:=[],kwarg:=none,defaults:=[]}
def c_(s:Stmt):List Stmt:=match s with
 |.FunctionDef _ _ b _ _ _ _ _ _ _=>b
 |_=>[]
def ay(s:Stmt):Scope:=match s with
 |.FunctionDef _ _ _ _ _ _ a _ _ _=>a
 |_=>{kind:=.function,names:=[],isGenerator:=false,isCoroutine:=false}
abbrev jw:FZ:=λ_ _ _ _ _ _=>False
abbrev E0:XK:=λ_ _ _=>False
def gX:gU jw X E0:=λ_ _ _ _ _ _ _ h=>h.elim
structure F2(K:Yy) (x qual:Str) (st:Stmt) (f:Addr) (fd:FuncData):Prop where
 ex:∃(oc:YA)(od:Option Addr)(kV doc pm:YA)(an:Option Addr)(cdv ct:YA)(osl:Array (Option YA)),
  fd=fnOf x qual (d4 st) (c_ st) (ay st) .none kV doc pm an cdv ct/\K.lookup f=some ⟨oc,od,.func fd,osl⟩/\codeIn K cdv qual=true
 kp:keepIn K (.ref f)=true
section
variable{P:Yz}{w:World}{K:Yy}{mg:Str->Option YA}{base:Heap}
def F2.ok{x qual:Str}{st:Stmt}{f:Addr}{fd:FuncData}{N ps:List Str}{k:Nat}{sp:Sp}(F:F2 K x qual st f fd)(S:aR N ps (ay st))(len:∀vs H Q E,sp vs H Q E->vs.length=ps.length)
 (a:∀(cdv:YA)(A:YB)(outer:List Env)(s:Yx)(H:Hp)(vs:List V)(Q:VK)(E:XK),dR k (A.deeper (envOfC qual (ay st) s.heap.objs.size f cdv))->sp vs H Q E->
   ∃t,PSs (ye jw P w K mg base N qual (ay st) f cdv A outer s H E).RK (c_ st) t/\t {nx:=λ_ H'=>Q .bv H',rt:=Q} (cq N vs) H):bO P w K mg base jw (k+1) f fd ps sp:=by
 obtain⟨oc,od,kV,doc,pm,an,cdv,ct,osl,rfl,lk,b⟩:=F.ex;refine OA lk b S len λA outer s H vs Q E d c=>?_;obtain⟨t,h,q⟩:=a cdv A outer s H vs Q E d c;exact⟨t,h.RK,q⟩
def F2.binds{x qual:Str}{st:Stmt}(F:F2 K x qual st f fd)
 (h:∀(kV doc pm:YA)(an:Option Addr)(cdv ct:YA)(us:List YA),us.length=ps.length->bindArgs (fnOf x qual (d4 st) (c_ st) (ay st) .none kV doc pm an cdv ct) ⟨us,[]⟩=pure (ps.zip us)):Binds K fd ps []:=by
 obtain⟨oc,od,kV,doc,pm,an,cdv,ct,osl,rfl,lk,a⟩:=F.ex;exact .all (h kV doc pm an cdv ct)
def C6{x qual:Str}{st:Stmt}{f:Addr}{oc:YA}{od an:Option Addr}{osl:Array (Option YA)}{kV doc pm cdv ct:YA}(l:K.lookup f=some ⟨oc,od,.func (fnOf x qual (d4 st) (c_ st) (ay st) .none kV doc pm an cdv ct),osl⟩)
 (c:codeIn K cdv qual=true) (k:keepIn K (.ref f)=true):F2 K x qual st f (fnOf x qual (d4 st) (c_ st) (ay st) .none kV doc pm an cdv ct):=⟨⟨oc,od,kV,doc,pm,an,cdv,ct,osl,rfl,l,c⟩,k⟩
end
def sZ(a:dR k A):A.units+1<cLine:=VQ (X4 (by decide:1<=64) _) a.units
section
def pv(i:Nat)(b:autoParam (X.N[i]?=some x) aM)(c:autoParam (RU X.env.scope x) YE._auto_1)(hd:autoParam (dB x) ab)
 (a:autoParam ((x==("__classdict__" : Str))=false) ab):PE X (.Name x pos) (aK i):=Kq b c hd a
end
def v6{A B:Prop}(h:B):if false=true then A else B:=by rw[UV VA];exact h
def uq{A B:Prop}(h:A):if true=true then A else B:=by rw[UP rfl];exact h
def Sz{c A B:Prop}[Decidable c](h1:c->A)(a:¬c->B):if c then A else B:=by
 by_cases h:c
 .rw[UP h];exact h1 h
 .rw[UV h];exact a h
def Same(H H':Hp):Prop:=∀b o,H b=some o->H' b=some o
def Same.refl(H:Hp):Same H H:=λ_ _ h=>h
def Same.trans(a:Same H H1)(b:Same H1 H2):Same H H2:=λc o h=>b c o (a c o h)
def Same.free(e:Same H H')(h:H' l=Option.none):H l=Option.none:=by
 cases q:H l with
 |none=>rfl
 |some o=>rw[e l o q]at h;cases h
abbrev TX:=St->Hp->VK->XK->Prop
end L2
namespace L2
open PySem PySem.Spec PySem.Calls PyProof.Rows
section
variable{prog:Yz}{w:World}
abbrev tK(prog:Yz)(w:World):=tupleKind (aI prog w)
def pN(x:(tK prog w).is h k a)(e:∀b o,h.get? b=some o->h'.get? b=some o):(tK prog w).is h' k a:=by obtain⟨o,c,n,h1,r⟩:=x;exact⟨o,c,n,e _ _ h1,r⟩
end
section
def Inv.TC(I:Inv X ac σ H s)(e:H a=some (.dT [])):Inv X ac σ (aP H a (.dK [])) s:=by
 obtain⟨z,y,xs,r,o,es,d,h1,f,g,c,i⟩:=(show ObjOk X.prog X.w H s.heap a (.dT [])from I.aU a _ e);cases r;exact I.write (x:=a) (e:=a) (t':=s.toks) (h':=s.heap) (by rw[e];exact tI_) (.inl rfl) (λb u _ q=>q) ⟨o,h1⟩ ⟨z,y,[],.nil,o,es,d,h1,f,g,by
  have e:es=#[]:=by simpa using c
  subst e;intro x h;simp at h,by
  have e:es=#[]:=by simpa using c
  subst e;constructor,Ve⟩
def Inv.RQ(I:Inv X ac σ H s)(e:H a=some (.dK [])):Inv X ac σ (aP H a (.dT [])) s:=by
 obtain⟨z,y,vs,r,o,es,d,h1,f,g,h,c⟩:=(show ObjOk X.prog X.w H s.heap a (.dK [])from I.aU a _ e);cases r;exact I.write (x:=a) (e:=a) (t':=s.toks) (h':=s.heap) (by rw[e];exact tI_) (.inl rfl) (λb u _ q=>q) ⟨o,h1⟩ ⟨z,y,[],.nil,o,es,d,h1,f,g,(by
  generalize es.toList=l at c;obtain⟨c,_⟩:=c;cases l with
  |nil=>rfl
  |cons x r=>cases c),Ve⟩
end
def pd(H:Hp)(a:Addr)(y:V)(r:Option V):Prop:=DGet H a y r\/(Rd H a (.dT [])/\(∃k,y=kV k)/\r=none)\/(Rd H a (.dK [])/\(∃(b:Addr)(k:List bH),y=.ref b/\H b=some (.tup (k.map kV)))/\r=none)
def Jj(H:Hp)(a:Addr)(y v:V)(H':Hp):Prop:=DPut H a y v H'\/(H a=some (.dT [])/\∃k,y=kV k/\H'=aP H a (.dK [(k,v)]))\/(H a=some (.dK [])/\∃(b:Addr)(k:List bH),y=.ref b/\H b=some (.tup (k.map kV))/\H'=aP H a (.dT [(k,v)]))
section
def oj(x:ObjOk P w H h a (.dT [])):(a==sysModules)=false/\h.DictOf (aI P w) a []:=by
 obtain⟨z,y,xs,r,o,es,b,h1,c,d,g,i⟩:=x;cases r;have e:es=#[]:=by grind
 subst e;exact⟨y,o,#[],b,h1,c,d,λx f=>by simp at f,by constructor,Ve⟩
def yk(x:ObjOk P w H h a (.dK [])):(a==sysModules)=false/\h.DictOfH (tupleKind (aI P w)) a []:=by
 obtain⟨z,y,vs,r,o,es,c,h1,d,e,g,b⟩:=x;cases r;refine⟨y,o,es,c,h1,d,e,?_,λx f=>(nomatch f),Ve⟩;generalize es.toList=l at b;obtain⟨b,_⟩:=b;cases l with
 |nil=>rfl
 |cons x r=>cases b
def OI(d:A.units+1<cLine)(I:Inv X ac σ H s)(g:pd H a y o)(c:RelV y u)(h:∀f,Inv X ac σ H f->Q (.bool o.isSome) f) :
 wpAny (model X.prog X.w) A (compareOp .In u (.ref a)) Q E s:=by
 rcases g with g|⟨e,⟨k,rfl⟩,rfl⟩|⟨e,⟨b,k,rfl,i⟩,rfl⟩
 .exact Sy d I g c h
 .obtain⟨y,dd⟩:=oj (e.ok I.aU);exact wpAny_in_of (jZ c) y dd.mapOf (h _ (I.tok _))
 .obtain rfl:u=Value.ref b:=c;obtain⟨y,dd⟩:=yk (e.ok I.aU);exact wpAny_in_heap (Wc d) (fT I.aU i) y dd (h _ (I.tok _))
def ym(f:A.units+1<cLine)(I:Inv X ac σ H s)(g:Jj H a y v H')(i:RelV y u)(j:RelV v r)(h:∀c,Inv X ac σ H' c->Q () c) :
 wpAny (model X.prog X.w) A (setItem (.ref a) u r) Q E s:=by
 rcases g with g|⟨e,k,rfl,rfl⟩|⟨e,b,k,rfl,l,rfl⟩
 .exact lq f I g i j h
 .refine lq f (I.TC e) (DPut.k (kvs:=[]) (k:=k) (v:=v) ag (by decide)) i j λc d=>?_;rw[zt]at d;exact h c d
 .refine lq f (I.RQ e) (DPut.t (kvs:=[]) (k:=k) (v:=v) ag (by rw[af (zu l e (λz=>nomatch z))];exact l) (by decide)) i j λc d=>?_;rw[zt]at d;exact h c d
end
section
def C7(td ty c:TE):TS:=λD σ H=>c σ H λv d=>td σ d λx e=>ty σ e λy f=>∃a b,x=.ref a/\Jj f a y v b/\D.nx σ b
def C8(b:X.A.units+1<cLine)(c:PE X o td)(d:PE X i ty)(e:PE X value tv)(hs:swapsWith value (some (.Subscript o i pos')) pos.line X.env=pure false) :
 PS X (.Assign [.Subscript o i pos'] value pos) (C7 td ty tv):=by
 intro ac s σ H D I h;refine wpAny_Assign_Subscript (bX (e ac s σ H _ I h) λr s1 ⟨v,f,j,k,q1⟩=>bX (c ac s1 σ f _ j q1) λu s2 ⟨x,l,m,n,q2⟩=>bX (d ac s2 σ l _ m q2) λB C ⟨y,E,p,q,a,t,ex,g,w⟩=>?_) hs;subst ex;obtain rfl:u=Value.ref a:=n;exact ym b p g q k λF z=>⟨σ,t,z,w⟩
end
section
def GB(f:A.units+1<cLine)(I:Inv X ac σ H s)(g:pd H a y o)(c:RelV y u)(rd:RelV d r)(h:∀i j,Inv X ac σ H j->RelV (o.getD d) i->Q i j) :
 wpAny (model X.prog X.w) A (call (.builtin "dict.get") [.ref a,u,r]) Q E s:=by
 rcases g with g|⟨e,⟨k,rfl⟩,rfl⟩|⟨e,⟨b,k,rfl,l⟩,rfl⟩
 .exact C4 f I g c rd h
 .obtain⟨y,dd⟩:=oj (e.ok I.aU);exact WC Vq dd.typeIs VX (WX _ _ _) (meets_dict_get_default (aI X.prog X.w) a (jZ c) y r) ⟨_,dd.mapOf,h _ _ (I.tok _) rd⟩
 .obtain rfl:u=Value.ref b:=c;obtain⟨y,dd⟩:=yk (e.ok I.aU);exact WC Vq dd.typeIs VX (WX _ _ _) (meetsH_dict_get_default (tupleKind (aI X.prog X.w)) a b y r) ⟨Wc f,k,[],fT I.aU l,dd,h _ _ (I.tok _) rd⟩
end
def GC(td ty d:TE):TE:=λσ H Q=>td σ H λx b=>∃a,x=.ref a/\Ji b a/\ty σ b λy e=>d σ e λz c=>∃o,pd c a y o/\Q (o.getD z) c
section
def A6(i:X.A.units+1<cLine)(j:PE X o td)(k:PE X e ty)(l:PE X f tx)(m:M2 X o "get" apos e f cpos):PE X (.Call (.Attribute o "get" apos) [e,f] [] cpos) (GC td ty tx):=by intro ac s σ H Q I h;refine W_ m.base m.nY m.line Vl Vq W6 (bX (j ac s σ H _ I h) λu s1 ⟨x,n,c,p,a,ex,d,q1⟩=>?_);subst ex;obtain rfl:u=Value.ref a:=p;obtain⟨q,r,_⟩:=oh c d;refine⟨q,r,?_⟩;rw[m.trees];refine VW rfl (Ww (V3 (bX (k ac s1 σ n _ c q1) λG s2 ⟨y,t,v,w,q2⟩=>V3 (bX (l ac s2 σ t _ v q2) λJ K ⟨z,B,C,D,L,g,E⟩=>WE ?_))));exact GB i C g w D λM N F b=>⟨_,B,F,b,E⟩
end
def iZ:HO->Prop
 |.dK _=>True
 |.dT _=>True
 |_=>False
section
def Inv.view(I:Inv X ac σ H s)(hn:∀b,H b=none->H' b=none)(ht:∀b xs,H b=some (.tup xs)->H' b=some (.tup xs))(hf:∀b o u,X.H₀ b=some (.ba o u)->H' b=some (.ba o u))
 (hb:∀b ps,H b=some (.xL ps)->H' b=some (.xL ps)) (aU:HOk X.prog X.w H' s.heap):Inv X ac σ H' s where
 ok:=I.ok
 os:=I.os
 bare:=I.bare
 base:=⟨I.base.keep,I.base.slot,λb o e n hx=>hn b (I.base.free b o e n hx),I.base.there,λb xs e=>ht b xs (I.base.rV b xs e),hf,λb ps e=>let ⟨m,q⟩:=I.base.xT b ps e;⟨m,hb b _ q⟩⟩
 loc:=I.loc
 cell:=I.cell
 free:=hn _ I.free
 jo:=λx c e=>hn c (I.jo x c e)
 pin:=λp hp=>let ⟨a,b,c⟩:=I.pin p hp;⟨a,hn _ b,c⟩
 aU:=aU
 len:=I.len
def zG(ok:HOk P w H h)(hd:∃u,H d=some u/\(∀y,u≠.own y)/\∀xs,u≠.tup xs)(new:ObjOk P w (aP H d u') h d u'):HOk P w (aP H d u') h:=λb v e=>by
 obtain⟨u,a,h1,g⟩:=hd;by_cases f:b=d
 .subst f;rw[ag]at e;cases e;exact new
 .rw[af f]at e;refine(ok b v e).stay (λ_ _ _ q=>q) (λc q=>?_) λc xs q=>?_
  .rw[af]
   .exact q
   .rintro rfl;rw[a]at q;cases q;exact h1 _ rfl
  .rw[af]
   .exact q
   .rintro rfl;rw[a]at q;cases q;exact g _ rfl
def zH(h:iZ u):(∀y,u≠.own y)/\(∀xs,u≠.tup xs)/\(∀ps,u≠.xL ps)/\∀o v,u≠.ba o v:=by cases u<;>first|exact h.elim|exact⟨λ_ z=>(nomatch z),λ_ z=>(nomatch z),λ_ z=>(nomatch z),λ_ _ z=>(nomatch z)⟩
def s_(a:iZ u)(x:ObjOk P w H h d u)(c:∀b xs,H b=some (.tup xs)->H' b=some (.tup xs)):ObjOk P w H' h d u:=by
 cases u with
 |dK kvs=>exact x
 |dT kvs=>obtain⟨z,y,xs,r,q⟩:=x;exact⟨z,y,xs,Paired.NT r λp q z=>⟨z.1,c _ _ z.2.1,z.2.2⟩,q⟩
 |_=>exact a.elim
theorem Inv.ba(I:Inv X ac σ H s)(e:H d=some u)(c:iZ u)(h:s.heap.get? d=some o):Inv X ac σ (aP H d (.ba o u)) s:=by
 obtain⟨i,f,j,k⟩:=zH c;have g:∀b xs,H b=some (.tup xs)->aP H d (.ba o u) b=some (.tup xs):=λb xs q=>by
  rw[af]
  .exact q
  .rintro rfl;rw[e]at q;cases q;exact f _ rfl
 refine I.view (λb a=>?_) g (λb l u' q=>?_) (λb ps q=>?_) (zG I.aU ⟨u,e,i,f⟩ ⟨h,s_ c (I.aU d u e) g⟩)
 .rw[af]
  .exact a
  .rintro rfl;rw[e]at a;cases a
 .have q:=I.base.pL b l u' q;rw[af]
  .exact q
  .rintro rfl;rw[e]at q;cases q;exact k _ _ rfl
 .rw[af]
  .exact q
  .rintro rfl;rw[e]at q;cases q;exact j _ rfl
def Inv.Ka(I:Inv X ac σ H s)(e:H d=some u)(a:iZ u):∀o v,X.H₀ d≠some (.ba o v):=λo v q=>by have:=I.base.pL d o v q;rw[e]at this;cases this;exact(zH a).2.2.2 _ _ rfl
def Inv.Kc(I:Inv X ac σ H s)(e:H d=some (.ba o u))(f:iZ u)(g:∀o v,X.H₀ d≠some (.ba o v)):Inv X ac σ (aP H d u) s:=by
 have c:∀b xs,H b=some (.tup xs)->aP H d u b=some (.tup xs):=λb xs q=>by
  rw[af]
  .exact q
  .rintro rfl;rw[e]at q;cases q
 have x:ObjOk X.prog X.w H s.heap d u:=(show ObjOk X.prog X.w H s.heap d (.ba o u)from I.aU d _ e).2;refine I.view (λb a=>?_) c (λb h u' q=>?_) (λb ps q=>?_) (zG I.aU ⟨_,e,λ_ z=>(nomatch z),λ_ z=>(nomatch z)⟩ (s_ f x c))
 .rw[af]
  .exact a
  .rintro rfl;rw[e]at a;cases a
 .have q2:=I.base.pL b h u' q;rw[af]
  .exact q2
  .rintro rfl;exact g _ _ q
 .rw[af]
  .exact q
  .rintro rfl;rw[e]at q;cases q
end
def GD(h:(aI P w).is k u=true):RelV (kV k) u:=by
 rcases bw (show lP k u=true from h)with⟨i,t,rfl,rfl⟩|⟨x,t,rfl,rfl⟩
 .exact⟨t,rfl⟩
 .exact⟨t,rfl⟩
section
def KZ(I:Inv X ac σ H s)(e:Rd H a (.dK kvs)\/(Rd H a (.dT [])/\kvs=[])) :
 kvs.length<=sizeLine/\(a==sysModules)=false/\∃vs,KV kvs vs/\s.heap.DictOf (aI X.prog X.w) a vs:=by
 rcases e with e|⟨e,rfl⟩
 .exact mR I.aU e
 .obtain⟨y,dd⟩:=oj (e.ok I.aU);exact⟨Vo _,y,[],.nil,dd⟩
end
section
def K1{k:bH}{key dflt:YA}{Q:YA->Yx->Prop}(j:(aI prog w).is k key=true)(v:s.heap.DictOf (aI prog w) d vs)(m:valueAt vs k=none)
 (h:∀h',h'.DictOf (aI prog w) d (stored vs k dflt)->Heap.SameBut d s.heap h'->Q dflt {s with heap:=h',toks:=s.toks+1}) (hsz:vs.length<=sizeLine):wpAny (model prog w) A (dictSetDefault d key dflt) Q E s:=by
 obtain⟨o,es,y,n,z,hd,t,p,B⟩:=v;have q:es.size<=sizeLine:=by
  have e1:=p.length;have e2:es.toList.length=es.size:=by simp
  lia
 have c:vs.findIdx? (λkv=>decide (kv.1=k))=none:=by
  rw[List.findIdx?_eq_none_iff];intro x C;refine U_ λe=>?_;have:(valueAt vs k).isSome=true:=by unfold valueAt;rw[Yd,List.find?_isSome];exact⟨x,C,U6 e⟩
  rw[m]at this;cases this
 have i:(es.findIdx? λe=>(aI prog w).is k e.key)=none:=by
  have:(es.findIdx? λe=>(aI prog w).is k e.key)=vs.findIdx? λkv=>decide (kv.1=k):=by rw[<- p.findIdx k];obtain⟨l⟩:=es;simp
  rw[this];exact c
 have f:k∉vs.map (·.1):=not_mem_of_findIdx_none c;have g:¬(vs.any λkv=>decide (kv.1=k))=true:=by rw[List.any_eq_true];rintro⟨kv,r,D⟩;exact f (UY.mpr ⟨kv,r,VN D⟩)
 unfold dictSetDefault
 try with_reducible refine VI ?_
 refine KE ((aI prog w).pyHash j ?_);refine KE (wpAny_dictFind_of (s:={s with toks:=s.toks+1}) j n hd t ?_);rw[i];refine KE (X0 (KE (wpAny_updateDictKeys (hz:=q) (s:={s with toks:=s.toks+1}) n hd (UM (h _ ⟨_,_,y+1,VR _ n (Obj.isFreed_of_dict (Xd hd _)),z.mapDictKeys _,Xd hd _,t.push j _,?_,?_⟩ (Vv ..))))))
 .rw[stored,UV g];have:=p.append j ((aI prog w).hash k) dflt;obtain⟨l⟩:=es;simpa using this
 .rw[stored,UV g,VO,WR];refine⟨B,by simp,?_⟩;intro a ha b u;simp only[UR,WB,U5]at u;subst u;exact λe=>f (e▸ha)
end
section
def Jk:V->List V->Hp->VK->Prop:=λx xs H Q=>∃a k y kvs,x=.ref a/\xs=[kV k,y]/\(H a=some (.dK kvs)\/(H a=some (.dT [])/\kvs=[]))/\kvs.length<sizeLine/\
 ((∃v,c9 kvs k=some v/\Q v H)\/(c9 kvs k=none/\Q y (aP H a (.dK (cj kvs k y)))))
def GE:KQ X "dict.setdefault" Jk:=by
 intro ac s σ H x xs v us Q I t rs q;obtain⟨a,k,y,kvs,rfl,rfl,ha,hz,q⟩:=q;obtain rfl:v=Value.ref a:=t;obtain⟨u1,u2,rfl,h,b⟩:=zy rs;obtain⟨L,u,vs,i,c⟩:=KZ I (ha.imp .inl λ⟨e,w⟩=>⟨.inl e,w⟩);have n:=jZ (P:=X.prog) (w:=X.w) h;refine Vy VE c.typeIs XU ?_ (XQ _ _ _);unfold Builtin.«dict.setdefault»;refine KE ?_;unfold Builtin.Dict.keyAndDefault;refine KE (XR c.typeIs (show wpAny _ _ (pure (a,u1,some u2)) _ _ s from UM ?_));show wpAny _ _ (if(a==sysModules)=true then _ else(dictSetDefault a u1 u2 >>= _)) _ _ s;rw[UV (by grind)];have A:vs.length<=sizeLine:=by rw[<- i.length];lia
 have j:s.heap.DictLe a sizeLine:=λo es M B hd=>by
  obtain⟨N,C,D,d,_,f,_,E,_⟩:=id c;rw[B]at d;cases d;rw[hd]at f;cases f;have e1:=E.length;have e2:es.toList.length=es.size:=by simp
  lia
 have F:=i.val k;rcases q with⟨v,p,q⟩|⟨p,q⟩
 .obtain⟨O,r,l⟩:=RelO.some_of (v:=v) (o:=valueAt vs k) (by grind);refine KE (wpAny_dictSetDefault_of (hz:=j) n c.mapOf (λR e=>?_) λe=>?_)
  .rw[r]at e;cases e;exact UM ⟨_,rfl,v,H,I.tok _,l,q⟩
  .rw[r]at e;cases e
 .have m:valueAt vs k=none:=by
   have:=F.gR;rw[p]at this;cases z:valueAt vs k with
   |none=>rfl
   |some _=>rw[z]at this;cases this
  refine KE (K1 n c m (λh' g hs=>UM ⟨_,rfl,?_⟩) A);have G:∃q,h'.get? a=some q:=let ⟨q,_,_,J,_⟩:=g;⟨q,J⟩;have mu:N1 (H a):=by rcases ha with e|⟨e,_⟩<;>(rw[e];exact tI_)
  have K:(cj kvs k y).length<=sizeLine:=by have:=gd kvs k y;lia
  exact⟨y,_,lj (t':=s.toks+1) I mu hs G (um K u (i.put k b) g),b,q⟩
end
end L2
namespace ST
open PySem PySem.SetTable
def st(m:Nat)(h:Int):Probe:={j:=bits h%(m+1),more:=runEnd m (bits h%(m+1))-bits h%(m+1),i:=bits h%(m+1),perturb:=bits h,dummy:=none}
def rs(m:Nat)(p:Nat×Nat):Probe:={j:=p.1,more:=runEnd m p.1-p.1,i:=p.1,perturb:=p.2,dummy:=none}
noncomputable def yn(m:Nat)(p:Probe):Probe:=if p.more>0 then {p with j:=p.j+1,more:=p.more-1}else {p with j:=(leap m p.i p.perturb).1,more:=runEnd m (leap m p.i p.perturb).1-(leap m p.i p.perturb).1,i:=(leap m p.i p.perturb).1,perturb:=(leap m p.i p.perturb).2}
def yo(t:SetTable)(p:Probe):t.advance p=yn t.mask p:=rfl
def it(m:Nat):Nat->Probe->Probe
 |0,p=>p
 |n+1,p=>it m n (yn m p)
def gY(m:Nat):∀(a b:Nat)(p:Probe),it m (a+b) p=it m b (it m a p):=by intro a b;induction a<;>grind [it,yn]
def GF(m n:Nat)(p:Probe):it m (n+1) p=yn m (it m n p):=gY m n 1 p
structure Va(m:Nat) (p:Probe):Prop where
 i:p.i<=m
 more:p.more<=9
 j:p.j+p.more<=m
 q:p.perturb<2^64
 d:p.dummy=none
def ur(h:Int):bits h<2^64:=by
 unfold bits
 grind
def mr(m i:Nat)(h:i<=m):runEnd m i-i<=9/\i+(runEnd m i-i)<=m:=by unfold runEnd;split<;>lia
theorem Va.rs(h1:p.1<=m)(a:p.2<2^64):Va m (rs m p):=⟨h1,(mr m _ h1).1,(mr m _ h1).2,a,rfl⟩
theorem Va.st(m:Nat)(h:Int):Va m (st m h):=by have:bits h%(m+1)<=m:=Ye (Yv _ (Nat.succ_pos m));exact⟨this,(mr m _ this).1,(mr m _ this).2,ur h,rfl⟩
def ut(m i q:Nat):(leap m i q).1<=m:=by exact Ye (Yv _ (Nat.succ_pos m))
def yp(m i q:Nat):(leap m i q).2=q/32:=rfl
theorem Va.yn(v:Va m p):Va m (yn m p):=by
 unfold ST.yn;split
 .exact⟨v.i,by dsimp only;have:=v.more;lia,by dsimp only;have:=v.j;lia,v.q,v.d⟩
 .have l:=ut m p.i p.perturb;exact⟨l,(mr m _ l).1,(mr m _ l).2,by dsimp only;rw[yp];have:=v.q;have:=Nat.div_le_self p.perturb 32;lia,v.d⟩
theorem Va.it:∀{n:Nat}{p:Probe},Va m p->Va m (it m n p)
 |0,_,v=>v
 |n+1,_,v=>Va.it (n:=n) v.yn
def Va.T_(v:Va m p):p.j<=m:=by have:=v.j;lia
def pO:∀(k:Nat)(p:Probe),p.more=k->Va m p->it m (k+1) p=rs m (leap m p.i p.perturb):=by intro k;induction k<;>grind [Va,it,rs,yn]
def lp(m:Nat):Nat->Nat×Nat->Nat×Nat
 |0,p=>p
 |n+1,p=>lp m n (leap m p.1 p.2)
def K3(m:Nat):∀(a b:Nat)(p:Nat×Nat),lp m (a+b) p=lp m b (lp m a p):=by intro a b;induction a<;>grind [lp]
theorem OJ(m:Nat):∀(n:Nat)(p:Nat×Nat),(lp m n p).2=p.2/32^n
 |0,p=>by simp[lp]
 |n+1,p=>by show(lp m n (leap m p.1 p.2)).2=_;rw[OJ m n,yp,Nat.div_div_eq_div_mul,Nat.pow_succ,Nat.mul_comm]
theorem Jl(m:Nat):∀(n:Nat)(p:Nat×Nat),p.1<=m->(lp m n p).1<=m
 |0,p,h=>h
 |n+1,p,_=>Jl m n _ (ut m _ _)
theorem v7:∀(L:Nat)(p:Probe),Va m p->∃n,n<=10*(L+1)/\it m n p=rs m (lp m (L+1) (p.i,p.perturb))
 |0,p,v=>⟨p.more+1,by have:=v.more;lia,pO _ p rfl v⟩
 |L+1,p,v=>by
  have h1:=pO _ p rfl v;have a:Va m (rs m (leap m p.i p.perturb)):=by rw[<- h1];exact v.it
  obtain⟨n,b,e⟩:=v7 L _ a;refine⟨p.more+1+n,by have:=v.more;lia,?_⟩;rw[gY,h1,e];rfl
def f5(m i:Nat):Nat:=(i*5+1)%(m+1)
def fN(m:Nat):Nat->Nat->Nat
 |0,i=>i
 |n+1,i=>fN m n (f5 m i)
def C9(m:Nat):Nat->Nat->List Nat
 |0,_=>[]
 |n+1,i=>i::C9 m n (f5 m i)
theorem v8(m:Nat):∀(n i k:Nat),k<n->(C9 m n i)[k]?=some (fN m k i)
 |n+1,i,0,_=>rfl
 |n+1,i,k+1,h=>v8 m n _ k (by lia)
theorem v9(m:Nat):∀(n i:Nat),(C9 m n i).length=n
 |0,_=>rfl
 |n+1,i=>by show(C9 m n _).length+1=_;rw[v9]
theorem uu(m:Nat):∀(a b i:Nat),fN m (a+b) i=fN m b (fN m a i)
 |0,b,i=>by rw[Nat.zero_add];rfl
 |a+1,b,i=>by rw[Nat.succ_add];exact uu m a b _
def SA(m:Nat):Bool:=((List.range (m+1)).all λj=>(C9 m (m+1) 0).contains j)&&(fN m (m+1) 0==0)
def xU(m:Nat):Prop:=m=7\/m=31\/m=127\/m=511
def zI(h:xU m):SA m=true:=by rcases h with rfl|rfl|rfl|rfl<;>decide +kernel
def C_(h:xU m)(c:j<=m):∃n,n<=m/\fN m n 0=j:=by have:=zI h;unfold SA at this;simp only[Vi,VJ]at this;have h1:=this.1 j (Vp.mpr (by lia));rw[List.contains_iff_mem,U3]at h1;obtain⟨n,a⟩:=h1;have b:=(UQ.mp a).1;rw[v9]at b;rw[v8 m _ _ _ b]at a;exact⟨n,by lia,VL a⟩
def K4(h:xU m)(e:i<=m)(f:j<=m):∃n,n<=m/\fN m n i=j:=by
 obtain⟨a,ha,c⟩:=C_ h e;obtain⟨b,k,d⟩:=C_ h f;by_cases g:a<=b
 .refine⟨b-a,by lia,?_⟩;rw[<- c,<- uu,show a+(b-a)=b by lia,d]
 .refine⟨m+1+b-a,by lia,?_⟩;have z:=zI h;unfold SA at z;simp only[Vi,W2]at z;rw[<- c,<- uu,show a+(m+1+b-a)=m+1+b by lia,uu,z.2,d]
theorem zJ(m:Nat):∀(n i:Nat),lp m n (i,0)=(fN m n i,0)
 |0,_=>rfl
 |n+1,i=>by show lp m n (leap m i 0)=_;have:leap m i 0=(f5 m i,0):=rfl;rw[this];exact zJ m n _
def v_(h:xU m)(b:j<=m)(p:Nat×Nat)(h1:p.1<=m)(c:p.2<2^64):∃n,13<=n/\n<=m+13/\(lp m n p).1=j:=by
 have a:(2:Nat)^64<32^13:=by decide
 have d:(lp m 13 p).2=0:=by rw[OJ];exact Nat.div_eq_of_lt (by lia)
 obtain⟨n,f,e⟩:=K4 h (Jl m 13 p h1) b;refine⟨13+n,by lia,by lia,?_⟩;rw[K3]
 grind [lp,zJ]
def Jm(h:xU m)(a:j<=m)(v:Va m p):∃n,n<10*turns m/\(it m n p).j=j:=by obtain⟨L,h1,c,e⟩:=v_ h a (p.i,p.perturb) v.i v.q;obtain⟨n,b,en⟩:=v7 (L-1) p v;rw[show L-1+1=L by lia]at en b;refine⟨n,by unfold turns;lia,?_⟩;rw[en];exact e
def GG(xs:List Nat):Prop:=xs.Pairwise (·< ·)
theorem qF(m:GG xs.toList):∀(d lo c:Nat),lo<=c->c<=xs.size->c-lo<=d->
 (∀i (h:i<xs.size),i<lo->xs[i]<j)->(∀i (h:i<xs.size),c<=i->j<=xs[i])->
 below.go xs j d lo c<=xs.size/\(∀i (h:i<xs.size),i<below.go xs j d lo c->xs[i]<j)/\∀i (h:i<xs.size),below.go xs j d lo c<=i->j<=xs[i]
 |0,lo,c,h1,g,s,k,l=>by
  have:lo=c:=by lia
  subst this;exact⟨g,k,l⟩
 |f+1,lo,c,h1,g,s,k,l=>by
  have mono:∀a b (ha:a<xs.size) (q:b<xs.size),a<=b->xs[a]<=xs[b]:=by
   intro a b ha q n;rcases Nat.lt_or_eq_of_le n with h|h
   .have:=U8.mp m a b (by simpa using ha) (by simpa using q) h;simpa using XH this
   .subst h;exact UN _
  unfold below.go;by_cases r:lo<c
  .rw[UP r];have o:(lo+c)/2<xs.size:=by lia
   have t:xs.getD ((lo+c)/2) j=xs[(lo+c)/2]:=by simp[Array.getD,o]
   dsimp only;rw[t];by_cases p:xs[(lo+c)/2]<j
   .rw[UP p];refine qF m f _ _ (by lia) g (by lia) (λi h e=>?_) l;exact VQ (mono i _ h o (by lia)) p
   .rw[UV p];refine qF m f _ _ (by lia) (by lia) (by lia) k λi h e=>?_;exact Vf (by lia) (mono _ i o h e)
  .rw[UV r];have:lo=c:=by lia
   subst this;exact⟨g,k,l⟩
def dI(j:Nat)(a:GG xs.toList):below xs j<=xs.size/\(∀i (h:i<xs.size),i<below xs j->xs[i]<j)/\∀i (h:i<xs.size),below xs j<=i->j<=xs[i]:=by unfold below;exact qF a xs.size 0 xs.size (Vo _) (UN _) (by lia) (λi h z=>by lia) λi h z=>by lia
def Da(d:GG xs.toList)(h:i<xs.size):below xs xs[i]=i:=by
 obtain⟨a,b,c⟩:=dI xs[i] d;rcases Xz (below xs xs[i]) i with q|q|q
 .have e:below xs xs[i]<xs.size:=by lia
  have h1:=c (below xs xs[i]) e (UN _);have f:=U8.mp d _ i (by grind) (by grind) q;simp at f;lia
 .exact q
 .have:=b i h q;lia
theorem tf(j:Nat):has #[] j=false:=rfl
structure Tb(t:SetTable):Prop where
 gm:xU t.mask
 Of:t.dummies=#[]
 xK:GG t.place.toList
 le:∀j∈t.place.toList,j<=t.mask
def ti(h:Tb t)(a:i<t.place.size):t.slot t.place[i]=.live i:=by unfold slot;dsimp only;rw[Da h.xK a];rw[UP];simp[a]
def yq(h:Tb t)(a:j∉t.place.toList):t.slot j=.empty:=by
 unfold slot;dsimp only;rw[UV,h.Of,tf]
 .rfl
 .grind
def yr(h:Tb t)(j:Nat):(j∉t.place.toList/\t.slot j=.empty)\/∃i,∃c:i<t.place.size,t.place[i]=j/\t.slot j=.live i:=by
 by_cases b:j∈t.place.toList
 .right;obtain⟨i,c,e⟩:=Xe.mp b;have a:i<t.place.size:=by simpa using c
  have d:t.place[i]=j:=by simpa using e
  exact⟨i,a,d,by rw[<- d];exact ti h a⟩
 .exact .inl ⟨b,yq h b⟩
def Lv(t:SetTable)(j:Nat):Prop:=j∈t.place.toList
inductive lh(t:SetTable) (ha:Nat->Int) (h:Int) (p:Probe):Option Met->Prop
 |em (n:Nat) (e:¬Lv t (it t.mask n p).j) (b:∀k,k<n->∃i,∃hi:i<t.place.size,t.place[i]=(it t.mask k p).j/\ha i≠h):lh t ha h p (some (.empty (it t.mask n p).j none))
 |ca (n i:Nat) (hi:i<t.place.size) (e:t.place[i]=(it t.mask n p).j) (q:ha i=h) (b:∀k,k<n->∃i,∃hi:i<t.place.size,t.place[i]=(it t.mask k p).j/\ha i≠h) :
  lh t ha h p (some (.candidate (it t.mask n p).j i (it t.mask (n+1) p)))
theorem wa(h:Tb t)(ha:Nat->Int)(x:Int):∀(c:Nat)(p:Probe),Va t.mask p->(∃n,n<c/\¬Lv t (it t.mask n p).j)->lh t ha x p (probe.go t ha x c p)
 |0,p,v,⟨n,w,_⟩=>by lia
 |f+1,p,v,⟨n,w,r⟩=>by
  unfold probe.go;rcases yr h p.j with⟨h1,e⟩|⟨i,g,h1,e⟩
  .rw[e];dsimp only;have:=lh.em (t:=t) (ha:=ha) (h:=x) (p:=p) 0 h1 λk s=>by lia
   rw[v.d];exact this
  .rw[e];dsimp only;by_cases l:ha i=x
   .rw[UP (by simpa using l)];exact lh.ca (t:=t) (ha:=ha) (h:=x) (p:=p) 0 i g h1 l λk s=>by lia
   .rw[UV (by simpa using l),yo];have y:n≠0:=by rintro rfl;exact r (by show p.j∈t.place.toList;rw[<- h1];simp)
    have u:=wa h ha x f (yn t.mask p) v.yn ⟨n-1,by lia,by
     have:it t.mask (n-1) (yn t.mask p)=it t.mask n p:=by show _=it t.mask n p;rw[show n=(n-1)+1 by lia];rfl
     rw[this];exact r⟩
    have a:∀{nn:Nat},(∀k,k<nn->∃i,∃g:i<t.place.size,t.place[i]=(it t.mask k (yn t.mask p)).j/\ha i≠x)->∀k,k<nn+1->∃i,∃g:i<t.place.size,t.place[i]=(it t.mask k p).j/\ha i≠x:=by
     intro nn b k s;cases k with
     |zero=>exact⟨i,g,h1,l⟩
     |succ k=>exact b k (by lia)
    generalize probe.go t ha x f (yn t.mask p)=B at u;cases u with
    |em m o b=>exact lh.em (t:=t) (ha:=ha) (h:=x) (p:=p) (m+1) o (a b)
    |ca m z q o A b=>exact lh.ca (t:=t) (ha:=ha) (h:=x) (p:=p) (m+1) z q o A (a b)
theorem qG:∀(b c:List Nat),b.Nodup->(∀x∈b,x∈c)->b.length<=c.length
 |[],_,_,_=>Vo _
 |a::b,c,nd,hs=>by
  have ha:a∈c:=hs a (UW ..);have d:=qG b (c.erase a) (Vu.mp nd).2 λx e=>by grind
  grind
def qH(h:Tb t)(hs:t.place.size<=t.mask):∃j,j<=t.mask/\¬Lv t j:=by refine Wp λc=>?_;have a:∀j,j<=t.mask->j∈t.place.toList:=λj b=>Wp λz=>c ⟨j,b,z⟩;have:=qG (List.range (t.mask+1)) t.place.toList W0 λj b=>a j (by grind);simp at this;lia
def qI(h:Tb t)(hs:t.place.size<=t.mask)(ha:Nat->Int)(x:Int)(v:Va t.mask p):lh t ha x p (t.probe ha x p):=by obtain⟨j,a,b⟩:=qH h hs;obtain⟨n,h1,c⟩:=Jm h.gm a v;unfold probe;exact wa h ha x _ p v ⟨n,h1,by grind⟩
def Rea(m:Nat)(a:Nat->Prop)(h:Int)(j:Nat):Prop:=∃n,(it m n (st m h)).j=j/\∀k,k<n->a (it m k (st m h)).j
def Rea.mono(r:Rea m lv h j)(s:∀j,lv j->lv' j):Rea m lv' h j:=let ⟨n,e,b⟩:=r;⟨n,e,λk a=>s _ (b k a)⟩
structure rT{V:Type} (t:SetTable) (es:Array (Int×V)):Prop where
 tb:Tb t
 len:t.place.size=es.size
 Og:∀q∈t.place.toList.zip es.toList,Rea t.mask (·∈ t.place.toList) q.2.1 q.1
def lT(t:SetTable):Prop:=t.place.size*5<t.mask*3
def insertAt_toList{α:Type}(xs:Array α)(p:Nat)(x:α)(h:p<=xs.size):(insertAt xs p x).toList=xs.toList.take p++x::xs.toList.drop p:=by unfold insertAt;simp[Array.toList_extract,List.extract_eq_drop_take,VG]
def insertAt_size{α:Type}(xs:Array α)(p:Nat)(x:α)(h:p<=xs.size):(insertAt xs p x).size=xs.size+1:=by rw[<- VD,insertAt_toList xs p x h];simp;lia
def mS(h:Tb t)(j:Nat):(t.put j).1={t with place:=insertAt t.place (below t.place j) j}:=by
 unfold put;dsimp only;rw[h.Of]
 grind [tf]
def pP(t:SetTable)(j:Nat):(t.put j).2=below t.place j:=rfl
def yt{α b:Type}(xs:List α)(a:List b)(p:Nat)(x:α)(y:b)(h:xs.length=a.length):(xs.take p++x::xs.drop p).zip (a.take p++y::a.drop p)=(xs.zip a).take p++(x,y)::(xs.zip a).drop p:=by rw[List.zip_append (by simp[h]),Xr];simp[List.zip,List.take_zipWith,List.drop_zipWith]
def yu{V:Type}{t:SetTable}{es:Array (Int×V)}(h:rT t es){j:Nat}(y:j∉t.place.toList)(p:j<=t.mask){o:Int}{v:V}(r:Rea t.mask (·∈ t.place.toList) o j) :
 rT (t.put j).1 (insertAt es (t.put j).2 (o,v))/\(t.put j).1.mask=t.mask/\(t.put j).1.place.size=t.place.size+1:=by
 obtain⟨a,b,c⟩:=dI j h.tb.xK;rw[mS h.tb,pP];have u:below t.place j<=es.size:=by rw[<- h.len];exact a
 have el:=insertAt_toList t.place _ j a;have A:=insertAt_toList es (below t.place j) (o,v) u;have mem:∀k,k∈(insertAt t.place (below t.place j) j).toList↔k=j\/k∈t.place.toList:=by
  intro k;rw[el,U4,US];constructor
  .rintro(z|rfl|z)
   .exact .inr (Wh z)
   .exact .inl rfl
   .exact .inr (XX z)
  .rintro(rfl|z)
   .exact .inr (.inl rfl)
   .rw[<- WL (below t.place j) t.place.toList,U4]at z;exact z.elim .inl λz=>.inr (.inr z)
 refine⟨⟨⟨h.tb.gm,h.tb.Of,?_,λk d=>?_⟩,?_,λq g=>?_⟩,rfl,insertAt_size _ _ _ a⟩
 .show GG (insertAt t.place (below t.place j) j).toList;rw[el];unfold GG;rw[XY];refine⟨h.tb.xK.sublist (List.take_sublist _ _),?_,?_⟩
  .rw[VB];refine⟨λk d=>?_,h.tb.xK.sublist (List.drop_sublist _ _)⟩;obtain⟨i,m,e⟩:=Xe.mp d;rw[Xj]at m;have f:below t.place j+i<t.place.size:=by simp at m;lia
   have e2:t.place[below t.place j+i]=k:=by rw[<- e];simp
   have:=c _ f (by lia);rw[e2]at this;have:k≠j:=λz=>y (by rw[<- z,<- e2];simp);lia
  .intro k d l hl;obtain⟨i,m,e⟩:=Xe.mp d;rw[Wv]at m;have f:i<t.place.size:=by simp at m;lia
   have e2:t.place[i]=k:=by rw[<- e];simp
   have w:=b i f (by lia);rw[e2]at w;rw[US]at hl;rcases hl with rfl|hl
   .exact w
   .obtain⟨x,n,B⟩:=Xe.mp hl;rw[Xj]at n;have s:below t.place j+x<t.place.size:=by simp at n;lia
    have e3:t.place[below t.place j+x]=l:=by rw[<- B];simp
    have:=c _ s (by lia);rw[e3]at this;lia
 .rcases(mem k).mp d with rfl|z
  .exact p
  .exact h.tb.le k z
 .show(insertAt t.place (below t.place j) j).size=_;rw[insertAt_size _ _ _ a,insertAt_size _ _ _ u,h.len]
 .have g:q∈(insertAt t.place (below t.place j) j).toList.zip (insertAt es (below t.place j) (o,v)).toList:=g;rw[el,A,yt _ _ _ _ _ (by simpa using h.len)]at g;have sub:∀k,k∈t.place.toList->k∈(insertAt t.place (below t.place j) j).toList:=λk d=>(mem k).mpr (.inr d);rw[U4,US]at g;rcases g with z|rfl|z
  .exact(h.Og q (Wh z)).mono sub
  .exact r.mono sub
  .exact(h.Og q (XX z)).mono sub
def ow(owner:Array (Option Nat))(j:Nat):Prop:=∃k,owner[j]?=some (some k)
theorem uv(i q:Nat):∀k,k<=runEnd m i-i->it m k (rs m (i,q))={j:=i+k,more:=runEnd m i-i-k,i:=i,perturb:=q,dummy:=none}
 |0,_=>rfl
 |k+1,h=>by
  rw[GF,uv i q k (by lia)]
  grind [yn]
theorem tj(hs:owner.size=m+1):∀(a i q:Nat),i<=m->q<2^64->(∃L,L<a/\¬ow owner (lp m L (i,q)).1)->
 ∃j,layClean.free m owner a i q=some j/\j<=m/\¬ow owner j/\∃n,(it m n (rs m (i,q))).j=j/\∀k,k<n->ow owner (it m k (rs m (i,q))).j
 |0,i,q,_,_,⟨L,h,_⟩=>by lia
 |f+1,i,q,l,t,⟨L,A,o⟩=>by
  obtain⟨B,C⟩:=mr m i l;have v:runEnd m i+1-i=(runEnd m i-i)+1:=by
   have:i<=runEnd m i:=by unfold runEnd;split<;>lia
   lia
  have p:∀k,k<=runEnd m i-i->((owner.getD (i+k) (some 0)).isNone=true↔¬ow owner (i+k)):=by
   intro k d;have g:i+k<owner.size:=by lia
   have e:owner[i+k]?=some owner[i+k]:=by simp[g]
   have e2:owner.getD (i+k) (some 0)=owner[i+k]:=by simp[Array.getD,g]
   unfold ow;rw[e2,e];cases owner[i+k]<;>simp
  unfold layClean.free;cases r:(List.range (runEnd m i+1-i)).find? λk=>(owner.getD (i+k) (some 0)).isNone with
  |some k=>
   dsimp only;rw[List.find?_range_eq_some]at r;obtain⟨h1,u,D⟩:=r;have u:=Vp.mp u;have d:k<=runEnd m i-i:=by lia
   refine⟨i+k,rfl,by lia,(p k d).mp h1,k,by rw[uv i q k d],λE w=>?_⟩
   grind [uv]
  |none=>
   dsimp only;rw[List.find?_range_eq_none]at r;have b:∀k,k<=runEnd m i-i->ow owner (i+k):=by grind
   have x:L≠0:=by rintro rfl;exact o (b 0 (Vo _))
   have y:=tj hs f (leap m i q).1 (leap m i q).2 (ut m i q) (by rw[yp];have:=Nat.div_le_self q 32;lia) ⟨L-1,by lia,by
    have:lp m L (i,q)=lp m (L-1) (leap m i q):=by rw[show L=(L-1)+1 by lia];rfl
    rw[this]at o;exact o⟩
   obtain⟨j,e,z,s,n,en,g⟩:=y;refine⟨j,e,z,s,runEnd m i-i+1+n,?_,λk d=>?_⟩
   .rw[gY,pO (runEnd m i-i) (rs m (i,q)) rfl (Va.rs l t)];exact en
   .by_cases c:k<=runEnd m i-i
    .rw[uv i q k c];exact b k c
    .have:it m k (rs m (i,q))=it m (k-(runEnd m i-i+1)) (rs m (leap m i q)):=by rw[show k=(runEnd m i-i+1)+(k-(runEnd m i-i+1)) by lia,gY,pO (runEnd m i-i) (rs m (i,q)) rfl (Va.rs l t)];congr 1;lia
     rw[this];exact g _ (by lia)
structure Own(m:Nat) (hs:List Int) (owner:Array (Option Nat)):Prop where
 size:owner.size=m+1
 all:∀k:Nat,k<hs.length->∃j:Nat,owner[j]?=some (some k)
 lt:∀j k:Nat,owner[j]?=some (some k)->k<hs.length
 Og:∀(j k:Nat)(h:Int),owner[j]?=some (some k)->hs[k]?=some h->Rea m (ow owner) h j
 inj:∀j j' k:Nat,owner[j]?=some (some k)->owner[j']?=some (some k)->j=j'
def Own.RD(o:Own m hs owner)(r:hs.length<=m):∃j,j<=m/\¬ow owner j:=by
 refine Wp λl=>?_;have d:∀j,j<=m->ow owner j:=λj c=>Wp λz=>l ⟨j,c,z⟩
 let g:Nat->Nat:=λj=>((owner[j]?).getD none).getD 0
 have f:∀j,j<=m->owner[j]?=some (some (g j)):=λj c=>by obtain⟨k,p⟩:=d j c;show owner[j]?=some (some (((owner[j]?).getD none).getD 0));rw[p];rfl
 have nd:((List.range (m+1)).map g).Nodup:=by unfold List.Nodup;rw[WS];have:=W0 (n:=m+1);refine WT (λ{a b} ha i h e=>h ?_) this;have ha:=Vp.mp ha;have i:=Vp.mp i;exact o.inj a b (g a) (f a (by lia)) (by rw[e];exact f b (by lia))
 have:=qG _ (List.range hs.length) nd λx q=>by obtain⟨j,c,rfl⟩:=UY.mp q;have c:=Vp.mp c;exact Vp.mpr (o.lt j _ (f j (by lia)))
 simp at this;lia
def Dc(v:xU m)(o:Own m hs owner)(w:hs.length<=m)(h:Int) :
 ∃j,layClean.free m owner (turns m) (bits h%(m+1)) (bits h)=some j/\Own m (hs++[h]) (owner.setIfInBounds j (some hs.length)):=by
 obtain⟨A,l,p⟩:=o.RD w;have f:bits h%(m+1)<=m:=Ye (Yv _ (Nat.succ_pos m));obtain⟨L,B,C,el⟩:=v_ v l (bits h%(m+1),bits h) f (ur h);obtain⟨j,e,D,q,n,en,x⟩:=tj o.size (turns m) _ _ f (ur h) ⟨L,by unfold turns;lia,by rw[el];exact p⟩;refine⟨j,e,?_⟩;have r:j<owner.size:=by rw[o.size];lia
 have get:∀i,(owner.setIfInBounds j (some hs.length))[i]?=if i=j then some (some hs.length)else owner[i]?:=by
  intro i;rw[Array.getElem?_setIfInBounds];by_cases a:j=i
  .subst a;rw[UP rfl,UP r,UP rfl]
  .rw[UV a,UV (λz=>a z.symm)]
 have sub:∀i,ow owner i->ow (owner.setIfInBounds j (some hs.length)) i:=by
  rintro i ⟨k,b⟩;by_cases a:i=j
  .exact⟨_,by rw[get,UP a]⟩
  .exact⟨k,by rw[get,UV a];exact b⟩
 have c:∀i k,(owner.setIfInBounds j (some hs.length))[i]?=some (some k)->(i=j/\k=hs.length)\/(i≠j/\owner[i]?=some (some k)):=by
  intro i k b;rw[get]at b;by_cases a:i=j
  .rw[UP a]at b;exact .inl ⟨a,by simpa using b.symm⟩
  .rw[UV a]at b;exact .inr ⟨a,b⟩
 refine⟨by rw[Array.size_setIfInBounds,o.size],λk b=>?_,λi k b=>?_,λi k h' b g=>?_,λi s k h1 y=>?_⟩
 .rw[Vc,XO]at b;by_cases d:k=hs.length
  .exact⟨j,by rw[get,UP rfl,d]⟩
  .obtain⟨i,f⟩:=o.all k (by lia);refine⟨i,?_⟩;rw[get,UV]
   .exact f
   .rintro rfl;exact q ⟨k,f⟩
 .rw[Vc,XO];rcases c i k b with⟨_,rfl⟩|⟨_,z⟩
  .lia
  .have:=o.lt i k z;lia
 .rcases c i k b with⟨rfl,rfl⟩|⟨a,z⟩
  .rw[VS (UN _),Nat.sub_self]at g;cases g;exact⟨n,en,λk b=>sub _ (x k b)⟩
  .have d:=o.lt i k z;rw[V4 d]at g;exact(o.Og i k h' z g).mono sub
 .rcases c i k h1 with⟨rfl,rfl⟩|⟨a,z⟩<;>rcases c s _ y with⟨rfl,E⟩|⟨t,u⟩
  .rfl
  .have:=o.lt _ _ u;lia
  .have:=o.lt _ _ z;lia
  .exact o.inj i s k z u
theorem Dd(d:xU m):∀(b pre:List Int)(owner:Array (Option Nat)),Own m pre owner->pre.length+b.length<=m->
 ∃a,b.foldl (λc h=>do
  let (owner,k) <- c
  let j <- layClean.free m owner (turns m) (bits h%(m+1)) (bits h)
  pure (owner.setIfInBounds j (some k),k+1)) (some (owner,pre.length))=some (a,pre.length+b.length)/\Own m (pre++b) a
 |[],pre,owner,o,_=>⟨owner,rfl,by grind⟩
 |h::b,pre,owner,o,f=>by
  simp only[U1]at f;obtain⟨j,e,g⟩:=Dc d o (by lia) h;obtain⟨a,e2,i⟩:=Dd d b (pre++[h]) _ g (by simp;lia)
  grind
def K5(a:xU m)(hs:Array Int)(d:hs.size<=m):∃owner,layClean m hs=some owner/\Own m hs.toList owner:=by
 have b:Own m [] (Array.replicate (m+1) none):=by
  have no:∀j k:Nat,(Array.replicate (m+1) (none:Option Nat))[j]?=some (some k)->False:=by grind
  exact⟨by simp,λk c=>by simp at c,λj k h=>(no j k h).elim,λj k _ h=>(no j k h).elim,λj _ k h=>(no j k h).elim⟩
 obtain⟨owner,e,o⟩:=Dd a hs.toList [] _ b (by grind);refine⟨owner,?_,by grind⟩;unfold layClean
 grind
theorem Dg{α:Type}(es:Array α):∀(l:List Nat),(∀k∈l,k<es.size)->(l.filterMap (es[·]?)).length=l.length/\∀i:Nat,(l.filterMap (es[·]?))[i]?=(l[i]?).bind (es[·]?)
 |[],_=>⟨rfl,λi=>by simp⟩
 |k::l,h=>by
  have c:k<es.size:=h k (UW ..);have e:es[k]?=some es[k]:=by simp[c]
  obtain⟨a,b⟩:=Dg es l λk c=>h k (UT _ c);rw[List.filterMap_cons_some e];refine⟨by simp[a],λi=>?_⟩;cases i with
  |zero=>simp[e]
  |succ i=>simpa using b i
theorem qJ(o:Nat->Option Nat):∀l:List Nat,(l.filterMap λj=>(o j).map (j,·)).map Prod.fst=l.filter λj=>(o j).isSome
 |[]=>rfl
 |j::l=>by
  rw[Xk,WZ];cases e:o j with
  |none=>simpa using qJ o l
  |some k=>simpa using qJ o l
def Dh(owner:Array (Option Nat))(m:Nat)(hs:owner.size=m+1)(j k:Nat):(j,k)∈((List.range (m+1)).filterMap λj=>(owner.getD j none).map (j,·))↔owner[j]?=some (some k):=by
 rw[Xq];constructor
 .rintro⟨a,h1,c⟩;have h1:=Vp.mp h1;have b:a<owner.size:=by lia
  have e:owner.getD a none=owner[a]:=by simp[Array.getD,b]
  rw[e]at c;obtain⟨d,e1,e2⟩:=VF.mp c;cases e2;rw[show owner[j]?=some owner[j] by simp[b],e1]
 .intro h;obtain⟨b,e⟩:=Wi.mp h;refine⟨j,Vp.mpr (by lia),?_⟩;have e2:owner.getD j none=owner[j]:=by simp[Array.getD,b]
  rw[e2,e];rfl
structure Laid{V:Type} (m:Nat) (es es':Array (Int×V)) (t':SetTable):Prop where
 xL:rT t' es'
 mask:t'.mask=m
 size:es'.size=es.size
 mem:∀x,x∈es'.toList↔x∈es.toList
 pw:∀R:Int×V->Int×V->Prop,(∀x y,R x y->R y x)->es.toList.Pairwise R->es'.toList.Pairwise R
def wb{V:Type}{m:Nat}(D:xU m)(es:Array (Int×V))(J:es.size<=m)(finger moves:Nat)(led plain:Bool) :
 ∃t' c,laid m finger moves led plain (es.map (·.1))=some (t',c)/\Laid m es (c.filterMap (es[·]?)) t'/\t'.led=led/\t'.plain=plain/\c.toList.Perm (List.range es.size):=by
 obtain⟨owner,K,o⟩:=K5 D (es.map (·.1)) (by simpa using J);have len:(es.map (·.1)).toList.length=es.size:=by simp
 let live:=(List.range (m+1)).filterMap λj=>(owner.getD j none).map (j,·)
 have l:∀j k,(j,k)∈live↔owner[j]?=some (some k):=Dh owner m o.size;have xK:GG (live.map Prod.fst):=by show GG (((List.range (m+1)).filterMap λj=>(owner.getD j none).map (j,·)).map Prod.fst);rw[qJ];exact List.pairwise_lt_range.sublist (List.filter_sublist)
 have n:(live.map Prod.snd).Nodup:=by unfold List.Nodup;unfold GG at xK;rw[WS]at xK ⊢;refine WT (λ{a b} ha g s e=>?_) xK;have h1:=(l a.1 a.2).mp ha;have f:=(l b.1 b.2).mp g;rw[<- e]at f;have:=o.inj _ _ _ h1 f;lia
 have lt:∀k∈live.map Prod.snd,k<es.size:=by
  intro k d;obtain⟨p,r,rfl⟩:=UY.mp d;have:=o.lt p.1 p.2 ((l p.1 p.2).mp r)
  rwa [len]at this
 have all:∀k,k<es.size->k∈live.map Prod.snd:=by intro k d;obtain⟨j,t⟩:=o.all k (by rw[len];exact d);exact UY.mpr ⟨(j,k),(l j k).mpr t,rfl⟩
 have E:live.length=es.size:=by have a:=qG _ (List.range es.size) n λk d=>Vp.mpr (lt k d);have b:=qG (List.range es.size) (live.map Prod.snd) W0 λk d=>all k (Vp.mp d);simp at a b;lia
 obtain⟨F,A⟩:=Dg es (live.map Prod.snd) lt;refine⟨{mask:=m,place:=(live.map (·.1)).toArray,dummies:=#[],finger,led,moves,plain},(live.map (·.2)).toArray,?_,?_,rfl,rfl,(List.perm_ext_iff_of_nodup n W0).mpr λk=>⟨λh=>Vp.mpr (lt k h),λh=>all k (Vp.mp h)⟩⟩
 .unfold laid;rw[K];rfl
 .have el:((live.map (·.2)).toArray.filterMap (es[·]?)).toList=(live.map Prod.snd).filterMap (es[·]?):=by simp
  have u:((live.map (·.2)).toArray.filterMap (es[·]?)).size=es.size:=by rw[<- VD,el,F,UO,E]
  refine⟨⟨⟨D,rfl,by simpa using xK,λj t=>?_⟩,?_,λq y=>?_⟩,rfl,u,λx=>?_,λR L pw=>?_⟩
  .have t:j∈live.map Prod.fst:=by simpa using t
   obtain⟨p,r,rfl⟩:=UY.mp t;obtain⟨g,_⟩:=Wi.mp ((l p.1 p.2).mp r);show p.1<=m;have:=o.size;lia
  .rw[u];simpa using E
  .have y:q∈(live.map Prod.fst).zip ((live.map Prod.snd).filterMap (es[·]?)):=by rw[el]at y;simpa using y
   obtain⟨i,G⟩:=U3.mp y;rw[Xg,A]at G;obtain⟨h1,f⟩:=G;rw[U7]at h1 f;obtain⟨p,r,e1⟩:=VF.mp h1;rw[r]at f;have f:es[p.2]?=some q.2:=f;have M:=(l p.1 p.2).mp (U3.mpr ⟨i,r⟩);have N:(es.map (·.1)).toList[p.2]?=some q.2.1:=by rw[Vg,Array.getElem?_map,f];rfl
   rw[<- e1];refine(o.Og p.1 p.2 q.2.1 M N).mono λj ⟨k,d⟩=>?_;show j∈(live.map (·.1)).toArray.toList;simpa using⟨k,(l j k).mpr d⟩
  .rw[el];constructor
   .intro B;obtain⟨k,_,f⟩:=Xq.mp B;exact U3.mpr ⟨k,by rw[Vg];exact f⟩
   .intro B;obtain⟨k,d⟩:=U3.mp B;have g:k<es.size:=by have:=(UQ.mp d).1;simpa using this
    exact Xq.mpr ⟨k,all k g,by rw[Vg]at d;exact d⟩
  .rw[el];rw[U8];intro a b ha g s;have v:=A a;have w:=A b;rw[VP ha]at v;rw[VP g]at w;rw[F]at ha g;rw[VP ha]at v;rw[VP g]at w;have C:(live.map Prod.snd)[a]≠(live.map Prod.snd)[b]:=U8.mp n a b ha g s;have v:es[(live.map Prod.snd)[a]]?=some _:=v.symm;have w:es[(live.map Prod.snd)[b]]?=some _:=w.symm;obtain⟨H,va⟩:=Wi.mp v;obtain⟨I,O⟩:=Wi.mp w;have P:=U8.mp pw;rw[<- va,<- O];rcases Xt C with z|z
   .simpa using P _ _ (by simpa using H) (by simpa using I) z
   .refine L _ _ ?_;simpa using P _ _ (by simpa using I) (by simpa using H) z
def GH{V:Type}{m:Nat}(f:xU m)(es:Array (Int×V))(g:es.size<=m)(finger moves:Nat)(led plain:Bool) :
 ∃t' e,laid m finger moves led plain (es.map (·.1))=some (t',e)/\Laid m es (e.filterMap (es[·]?)) t'/\t'.led=led/\t'.plain=plain:=by
 obtain⟨t',e,a,b,c,d,_⟩:=wb f es g finger moves led plain;exact⟨t',e,a,b,c,d⟩
end ST
namespace ST
open PySem PySem.W PyProof.Rows
structure Lt(N:Nat) (lt:Nat->Nat->Bool):Prop where
 UJ:∀i,lt i i=false
 tr:∀i j k,lt i j=true->lt j k=true->lt i k=true
 UK:∀i j,i<N->j<N->i≠j->lt i j=true\/lt j i=true
abbrev Uk:=Nat->Nat->(Bool->Yx->Prop)->Yx->Prop
def GI(N:Nat)(lt:Nat->Nat->Bool)(a:Uk)(s:Yx):Prop:=∀i j C,i<N->j<N->C (lt i j) s->a i j C s
def Pm(N:Nat)(p:Array Nat):Prop:=p.toList.Perm (List.range N)
def cN(p:Array Nat)(i:Nat):Nat:=p.getD i 0
section
theorem Pm.size(h:Pm N p):p.size=N:=by have:=h.length_eq;simpa using this
def Pm.perm(h:Pm N p)(q:p'.Perm p):Pm N p':=(Array.perm_iff_toList_perm.mp q).trans h
def K6(a:i<p.size):p[i]?=some (cN p i):=by unfold cN;simp[Array.getD,a]
theorem Di(h:p'[i]?=p[k]?):cN p' i=cN p k:=by
 simp_all [cN,cN]
def Pm.bd(h:Pm N p)(b:i<N):cN p i<N:=by
 have a:i<p.size:=by rw[h.size];exact b
 have:cN p i∈p.toList:=U3.mpr ⟨i,by rw[Vg];exact K6 a⟩;exact Vp.mp (h.mem_iff.mp this)
def Pm.ne(h:Pm N p)(f:i<N)(g:j<N)(e:i≠j):cN p i≠cN p j:=by
 have nd:p.toList.Nodup:=h.nodup_iff.mpr W0;have a:i<p.size:=by rw[h.size];exact f
 have b:j<p.size:=by rw[h.size];exact g
 have c:p.toList[i]'(by simpa using a)=cN p i:=by simp[cN,Array.getD,a]
 have d:p.toList[j]'(by simpa using b)=cN p j:=by simp[cN,Array.getD,b]
 intro z;rcases Xt e with q|q
 .exact U8.mp nd i j (by simpa using a) (by simpa using b) q (by rw[c,d];exact z)
 .exact U8.mp nd j i (by simpa using b) (by simpa using a) q (by rw[c,d];exact z.symm)
def So(lt:Nat->Nat->Bool)(p:Array Nat)(k:Nat):Prop:=∀a b,a<b->b<k->lt (cN p a) (cN p b)=true
def De(lt:Nat->Nat->Bool)(p:Array Nat)(k:Nat):Prop:=∀a b,a<b->b<k->lt (cN p b) (cN p a)=true
def Lt.zq(o:Lt N lt)(a:i<N)(b:j<N)(e:i≠j)(h:lt i j=false):lt j i=true:=by
 grind [Lt]
def So.snoc(o:Lt N lt)(h:So lt p k)(a:1<=k)(l:lt (cN p (k-1)) (cN p k)=true):So lt p (k+1):=by
 grind [Lt,So]
def De.snoc(o:Lt N lt)(h:De lt p k)(a:1<=k)(l:lt (cN p k) (cN p (k-1))=true):De lt p (k+1):=by
 grind [Lt,De]
theorem yw(o:Lt N lt)(an:GI N lt cmp s)(pm:Pm N p):∀(f n:Nat){Q:Nat->Yx->Prop},1<=n->n+f=N->So lt p n->
 (∀m,n<=m->m<=N->So lt p m->(m<N->lt (cN p m) (cN p (m-1))=true)->Q m s)->(kas_asc p f n).kasWp cmp Q s
 |0,n,Q,h1,g,e,k=>k n (UN _) (by lia) e λz=>by lia
 |f+1,n,Q,h1,g,e,k=>by
  refine an _ _ _ (pm.bd (by lia)) (pm.bd (by lia)) ?_;show KasT.kasWp cmp (if lt (cN p n) (cN p (n-1))=true then .ret n else kas_asc p f (n+1)) Q s;by_cases c:lt (cN p n) (cN p (n-1))=true
  .rw[UP c];exact k n (UN _) (by lia) e λ_=>c
  .rw[UV c];have c:lt (cN p n) (cN p (n-1))=false:=by grind
   exact yw o an pm f (n+1) (by lia) (by lia) (e.snoc o h1 (o.zq (pm.bd (by lia)) (pm.bd (by lia)) (pm.ne (by lia) (by lia) (by lia)) c)) λm a b c d=>k m (by lia) b c d
theorem zK(o:Lt N lt)(an:GI N lt cmp s)(pm:Pm N p):∀(f n:Nat){Q:Array Nat×Nat×Nat->Yx->Prop},1<=n->n+f=N->De lt p n->
 (∀m,n<=m->m<=N->De lt p m->Q (p,m,0) s)->(kas_desc f p n 0).kasWp cmp Q s
 |0,n,Q,h1,g,e,k=>k n (UN _) (by lia) e
 |f+1,n,Q,h1,g,e,k=>by
  refine an _ _ _ (pm.bd (by lia)) (pm.bd (by lia)) ?_;show KasT.kasWp cmp (if lt (cN p n) (cN p (n-1))=true then(if 0>0 then kas_desc f (kas_rev p (n-(0+1)) n) (n+1) 0 else kas_desc f p (n+1) 0)
   else .ask (cN p (n-1)) (cN p n) λd=>if d=true then .ret (p,n,0)else kas_desc f p (n+1) (0+1)) Q s
  by_cases c:lt (cN p n) (cN p (n-1))=true
  .rw[UP c,UV (by lia)];exact zK o an pm f (n+1) (by lia) (by lia) (e.snoc o h1 c) λm a b c=>k m (by lia) b c
  .rw[UV c];have c:lt (cN p n) (cN p (n-1))=false:=by grind
   refine an _ _ _ (pm.bd (by lia)) (pm.bd (by lia)) ?_;rw[o.zq (pm.bd (by lia)) (pm.bd (by lia)) (pm.ne (by lia) (by lia) (by lia)) c];show KasT.kasWp cmp (if true=true then _ else _) Q s;rw[UP rfl];exact k n (UN _) (by lia) e
def Dj(n:Nat)(a:n<=p.size)(k:Nat):cN (kas_rev p 0 n) k=if k<n then cN p (n-1-k)else cN p k:=by
 have e:=getElem?_mirror_all (xs:=p) (i:=0) a k;unfold kas_rev
 grind [Di]
def Dk(o:Lt N lt)(an:GI N lt cmp s)(pm:Pm N p)(h1:1<=n)(f:n<=N)(hd:De lt p n)
 (k:∀m e,1<=m->m<=N->Pm N e->So lt e m->Q (m,e) s):(kas_tail3 n N p).kasWp cmp Q s:=by
 unfold kas_tail3;rw[Xu];have d:Pm N (kas_rev p 0 n):=pm.perm (mirror_perm _ _ _ _);refine yw o an d (N-n) n h1 (by lia) ?_ λm a b c _=>k m _ (by lia) b d c;intro a b g h;rw[Dj n (by rw[pm.size];exact f),Dj n (by rw[pm.size];exact f),UP (by lia),UP h];exact hd _ _ (by lia) (by lia)
def Dm(o:Lt N lt)(an:GI N lt cmp s)(pm:Pm N p)(r:2<=N)
 (k:∀m f,1<=m->m<=N->Pm N f->So lt f m->Q (m,f) s):(kas_count N p).kasWp cmp Q s:=by
 unfold kas_count;rw[Xu];refine yw o an pm (N-1) 1 (UN _) (by lia) (λa b g j=>by lia) λm a b c d=>?_;by_cases e:m=N
 .rw[UP (by simpa using e)];exact k m p a b pm c
 .rw[UV (by simpa using e)];by_cases i:m>1
  .rw[UP i];refine an _ _ _ (pm.bd (by lia)) (pm.bd (by lia)) ?_;have:lt (cN p 0) (cN p (m-1))=true:=c 0 (m-1) (by lia) (by lia);show KasT.kasWp cmp (if lt (cN p 0) (cN p (m-1))=true then _ else _) Q s;rw[UP this];exact k m p a b pm c
  .rw[UV i];have h:m=1:=by lia
   subst h;unfold kas_descPart;rw[Xu];have l:=d (by lia);refine zK o an pm (N-(1+1)) (1+1) (by lia) (by lia) (λa b g j=>?_) λm' t n q=>?_
   .have:a=0:=by lia
    have:b=1:=by lia
    subst_vars
    exact l
   .show KasT.kasWp cmp (if 0>0 then _ else kas_tail3 m' N p) Q s;rw[UV (by lia)];exact Dk o an pm (by lia) n q k
theorem qK(o:Lt N lt)(an:GI N lt cmp s)(pm:Pm N p)(b:i<N)(so:So lt p i):∀(f l r:Nat){Q:Nat->Yx->Prop},l<=r->r<=i->r-l<=f->
 (∀a,a<l->lt (cN p a) (cN p i)=true)->(∀a,r<=a->a<i->lt (cN p i) (cN p a)=true)->
 (∀m,m<=i->(∀a,a<m->lt (cN p a) (cN p i)=true)->(∀a,m<=a->a<i->lt (cN p i) (cN p a)=true)->Q m s)->(kas_place p i f l r).kasWp cmp Q s
 |0,l,r,Q,h1,h,j,d,g,k=>k l (by lia) d λa x y=>g a (by lia) y
 |f+1,l,r,Q,h1,h,j,d,g,k=>by
  unfold kas_place;by_cases c:l>=r
  .rw[UP c];exact k l (by lia) d λa x y=>g a (by lia) y
  .rw[UV c];refine an _ _ _ (pm.bd b) (pm.bd (by lia)) ?_;show KasT.kasWp cmp (if lt (cN p i) (cN p ((l+r)/2))=true then _ else _) Q s;by_cases q:lt (cN p i) (cN p ((l+r)/2))=true
   .rw[UP q];refine qK o an pm b so f l ((l+r)/2) (by lia) (by lia) (by lia) d (λa x y=>?_) k;by_cases e:a=(l+r)/2
    .rw[e];exact q
    .exact o.tr _ _ _ q (so _ _ (by lia) y)
   .rw[UV q];have q:lt (cN p i) (cN p ((l+r)/2))=false:=by grind
    have q:=o.zq (pm.bd b) (pm.bd (by lia)) (pm.ne b (by lia) (by lia)) q;refine qK o an pm b so f _ r (by lia) h (by lia) (λa x=>?_) g k;by_cases e:a=(l+r)/2
    .rw[e];exact q
    .exact o.tr _ _ _ (so _ _ (by lia) (by lia)) q
def Dn(a:i<p.size)(b:l<=i)(k:Nat):cN (bubble p i (i-l)) k=if k=l then cN p i else if l<k/\k<=i then cN p (k-1)else cN p k:=by
 have e:=getElem?_bubble a (i-l) (by lia) k;rw[show i-(i-l)=l by lia]at e;by_cases h1:k=l
 .rw[UP h1]at e ⊢;exact Di e
 .rw[UV h1]at e ⊢
  grind [Di]
theorem Do(o:Lt N lt)(an:GI N lt cmp s):∀(f i:Nat)(p:Array Nat){Q:Array Nat->Yx->Prop},Pm N p->i+f=N->So lt p i->
 (∀c,Pm N c->So lt c N->Q c s)->(kas_bin f p i).kasWp cmp Q s
 |0,i,p,Q,pm,h,so,k=>k p pm (by grind)
 |f+1,i,p,Q,pm,h,so,k=>by
  unfold kas_bin;rw[Xu];refine qK o an pm (by lia) so i 0 i (by lia) (UN _) (by lia) (λa x=>by lia) (λa x y=>by lia) λm d lo e=>?_;refine Do o an f (i+1) _ (pm.perm (bubble_perm _ _ _)) (by lia) (λa b g j=>?_) k;have hs:i<p.size:=by rw[pm.size];lia
  rw[Dn hs d,Dn hs d]
  repeat' split
  all_goals first|lia|(exact e _ (by lia) (by lia))|(exact lo _ (by lia))|(exact so _ _ (by lia) (by lia))
def GJ(o:Lt N lt)(an:GI N lt cmp s)(g:2<=N)(k:∀p,Pm N p->So lt p N->Q p s):(kas_sort N).kasWp cmp Q s:=by
 unfold kas_sort;rw[Xu];have pm:Pm N (List.toArray (List.range N)):=by unfold Pm;simp
 refine Dm o an pm g λm f a b c d=>?_;show KasT.kasWp cmp (if m<N then kas_bin (N-max m 1) f (max m 1)else .ret f) Q s;by_cases e:m<N
 .rw[UP e];have:max m 1=m:=by lia
  rw[this];exact Do o an (N-m) m f c (by lia) d k
 .rw[UV e];have:m=N:=by lia
  subst this;exact k f c d
end
end ST
namespace L2
open PySem PySem.Spec PySem.Calls PyProof.Rows ST
abbrev iK(ns:List Int):List bH:=ns.map Sum.inl
section
def pQ(h:(aI prog w).is (.inl i) v=true):∃t,v=.int i t:=by
 rcases bw (show lP (.inl i) v=true from h)with⟨j,t,e,rfl⟩|⟨x,t,e,_⟩
 .cases e;exact⟨t,rfl⟩
 .cases e
theorem items_int:∀{ns:List Int}{vs:List YA},ItemsAre (aI prog w) (iK ns) vs->∀v∈vs,∃i t,v=.int i t
 |[],_,h,v,hv=>by cases h;simp at hv
 |n::ns,_,h,v,hv=>by
  cases h with
  |cons h1 a=>
   rcases US.mp hv with rfl|hv
   .obtain⟨t,rfl⟩:=pQ h1;exact⟨n,t,rfl⟩
   .exact items_int a v hv
def K7(g:(tK prog w).is s.heap (iK ns) b)(h:Q true s):wpAny (model prog w) A (hashByValue 8 (.ref b)) Q E s:=by
 have j:=IsTupleKey.typeIs g;obtain⟨o,c,n,k,_,hd,l⟩:=g;unfold hashByValue;refine KE (wpAny_specialOf j PySem.F.slot_tuple_hash.lookup ?_);dsimp only;refine KE (XG k hd ?_);refine KE ?_;show wpAny _ _ (forIn c _ _) _ _ s;rw[<- Array.forIn_toList];refine XT _ (λrest r d=>r.1=none/\d=s/\∀v∈rest,∃i t,v=Value.int i t) _ ?_ ?_ _ _ ⟨rfl,rfl,items_int l⟩
 .rintro v rest r d ⟨e,rfl,a⟩;obtain⟨i,t,rfl⟩:=a v UW;refine KE (UM ?_);simp only[Wz,U2,VH];exact UM ⟨rfl,rfl,λu f=>a u (UT _ f)⟩
 .rintro⟨m,p⟩ d ⟨e,rfl,_⟩;simp only at e;subst e;exact UM h
def wc(g:(tK prog w).is s.heap (iK ns) b)(h:Q false s):wpAny (model prog w) A (ofAClassStatement 8 (.ref b)) Q E s:=by
 have j:=IsTupleKey.typeIs g;obtain⟨o,c,n,k,_,hd,l⟩:=g;unfold ofAClassStatement;refine KE (XN j ?_);dsimp only;rw[UP (by decide)];refine KE (UM ?_);simp only[Wz,U2,VH];refine KE (XG k hd ?_);refine KE ?_;show wpAny _ _ (forIn c _ _) _ _ s;rw[<- Array.forIn_toList];refine XT _ (λrest r d=>r.1=none/\d=s/\∀v∈rest,∃i t,v=Value.int i t) _ ?_ ?_ _ _ ⟨rfl,rfl,items_int l⟩
 .rintro v rest r d ⟨e,rfl,a⟩;obtain⟨i,t,rfl⟩:=a v UW;refine KE (UM ?_);simp only[U2,VH];exact UM ⟨rfl,rfl,λu f=>a u (UT _ f)⟩
 .rintro⟨m,p⟩ d ⟨e,rfl,_⟩;simp only at e;subst e;exact UM h
def K8(j:(tK prog w).is s.heap (iK ns) b)(l:∀y∈ys,∃d c,y=.ref c/\(tK prog w).is s.heap (iK d) c)(h:Q false s):wpAny (model prog w) A (searchCouldBeSeen (.ref b) ys) Q E s:=by
 unfold searchCouldBeSeen;refine KE ?_;refine XT _ (λrest r f=>r.1=none/\f=s/\∀y∈rest,∃d c,y=.ref c/\(tK prog w).is s.heap (iK d) c) _ ?_ ?_ _ _ ⟨rfl,rfl,l⟩
 .rintro v rest r f ⟨g,rfl,a⟩;obtain⟨d,c,rfl,k⟩:=a v UW;have e:∀u∈rest,∃d c,u=Value.ref c/\(tK prog w).is f.heap (iK d) c:=λu i=>a u (UT _ i);dsimp only;split
  .exact UM ⟨rfl,rfl,e⟩
  .refine KE ((tK prog w).quiet j ?_);simp only[Wz,U2,VH];refine KE ((tK prog w).quiet k ?_);simp only[Wz,U2,VH];refine KE (wc j ?_);simp only[U2,VH];refine KE (wc k ?_);simp only[U2,VH];exact UM ⟨rfl,rfl,e⟩
 .rintro⟨m,n⟩ f ⟨g,rfl,_⟩;simp only at g;subst g;exact UM h
end
section
def T1(prog:Yz)(w:World)(h:Heap)(es:Array (Int×YA)):Prop:=∀e∈es.toList,∃a c,e=((tK prog w).hash (iK a),Value.ref c)/\(tK prog w).is h (iK a) c
def GK(h:xU m):(m%2==0)=false:=by rcases h with rfl|rfl|rfl|rfl<;>rfl
theorem rT.fits(T:rT t es)(hs:t.place.size<=t.mask):t.fits es.size=true:=by unfold SetTable.fits SetTable.fill;rw[T.tb.Of];simp[T.len]at hs ⊢;exact hs
def yx{α:Type}{es:Array α}{i:Nat}{e:α}(h:es[i]?=some e):e∈es.toList:=U3.mpr ⟨i,by rw[Vg];exact h⟩
theorem tp{ep:Nat}{t:SetTable}{ns:List Int}{Q:SetFound->Yx->Prop}(O:s.heap.get? a=some o)(hd:o.data=.set es ep t)(T:rT t es)(hs:t.place.size<=t.mask)
 (hu:A.units<cLine) (P:(tK prog w).is s.heap (iK ns) b) (el:T1 prog w s.heap es)
 (h1:(∃e∈es.toList,∃c,e.2=.ref c/\(tK prog w).is s.heap (iK ns) c)->Q (.there none) s)
 (h2:(∀e∈es.toList,∀c,e.2=.ref c->¬(tK prog w).is s.heap (iK ns) c)->∀j,j∉t.place.toList->j<=t.mask->Rea t.mask (·∈ t.place.toList) ((tK prog w).hash (iK ns)) j->Q (.free j false) s) :
 ∀(fuel n:Nat)(d:Option SetTable.Probe),d.getD (t.probeStart ((tK prog w).hash (iK ns)))=it t.mask n (st t.mask ((tK prog w).hash (iK ns)))->
  (∀k,k<n->∃i e,∃f:i<t.place.size,t.place[i]=(it t.mask k (st t.mask ((tK prog w).hash (iK ns)))).j/\es[i]?=some e/\∀c,e.2=.ref c->¬(tK prog w).is s.heap (iK ns) c)->
  (∃N,n<=N/\N<n+fuel/\(it t.mask N (st t.mask ((tK prog w).hash (iK ns)))).j∉t.place.toList)->
  wpAny (model prog w) A (setSearchFrom a (.ref b) ((tK prog w).hash (iK ns)) true fuel d) Q E s
 |0,n,d,_,_,⟨N,x1,x2,_⟩=>by lia
 |fuel+1,n,d,e1,e2,⟨N,x1,x2,R⟩=>by
  have v0:Va t.mask (it t.mask n (st t.mask ((tK prog w).hash (iK ns)))):=(Va.st _ _).it;have sp:=qI T.tb hs (λi=>(es[i]?.map (·.1)).getD 0) ((tK prog w).hash (iK ns)) v0;have at_:∀i,i<t.place.size->∃e,es[i]?=some e:=λi f=>⟨es[i]'(by rw[<- T.len];exact f),by simp[T.len▸f]⟩;unfold setSearchFrom;refine KE (VU O hd (rT.fits T hs) ?_);dsimp only;have hg:t.gaveWay=false:=GK T.tb.gm;rw[hg];simp only[U2,VH];rw[e1];have pre:∀{nn:Nat},(∀k,k<nn->∃i,∃f:i<t.place.size,t.place[i]=(it t.mask k (it t.mask n (st t.mask ((tK prog w).hash (iK ns))))).j/\(es[i]?.map (·.1)).getD 0≠(tK prog w).hash (iK ns))->
   ∀k,k<n+nn->∃i e,∃f:i<t.place.size,t.place[i]=(it t.mask k (st t.mask ((tK prog w).hash (iK ns)))).j/\es[i]?=some e/\∀c,e.2=.ref c->¬(tK prog w).is s.heap (iK ns) c:=by
   intro nn z k B;by_cases C:k<n
   .exact e2 k C
   .obtain⟨i,f,q1,q2⟩:=z (k-n) (by lia);obtain⟨e,l⟩:=at_ i f;refine⟨i,e,f,?_,l,λc L g=>q2 ?_⟩
    .rw[q1,<- gY,show n+(k-n)=k by lia]
    .obtain⟨I,v,rfl,h⟩:=el e (yx l);have p:v=c:=by injection L
     subst p;rw[l];show(tK prog w).hash (iK I)=_;rw[(tK prog w).inj h g]
  generalize J:t.probe _ _ (it t.mask n (st t.mask ((tK prog w).hash (iK ns))))=pr;have K:t.probe (λi=>(es[i]?.map (·.1)).getD 0) ((tK prog w).hash (iK ns)) (it t.mask n (st t.mask ((tK prog w).hash (iK ns))))=pr:=J;rw[K]at sp;clear K J;cases sp with
  |em nn D z=>
   dsimp only;refine UM (h2 ?_ _ D (v0.it).T_ ?_)
   .intro e l c L g;obtain⟨i,f⟩:=U3.mp l;rw[Vg]at f;have F:i<t.place.size:=by rw[T.len];exact(Wi.mp f).1
    obtain⟨I,v,rfl,h⟩:=el e l;have p:v=c:=by injection L
    subst p;have ek:=(tK prog w).inj h g;have hz:(t.place[i],((tK prog w).hash (iK I),Value.ref v))∈t.place.toList.zip es.toList:=U3.mpr ⟨i,by rw[Xg];exact⟨by simp[F],by rw[Vg];exact f⟩⟩;obtain⟨m,em,eb⟩:=T.Og _ hz;have em:(it t.mask m (st t.mask ((tK prog w).hash (iK I)))).j=t.place[i]:=em;rw[ek]at em eb;have hm:m<n+nn:=by
     rcases Xz m (n+nn)with q|q|q
     .exact q
     .exfalso;refine D ?_;show(it t.mask nn (it t.mask n _)).j∈t.place.toList;rw[<- gY,<- q,em];simp
     .exfalso;refine D ?_;show(it t.mask nn (it t.mask n _)).j∈t.place.toList;rw[<- gY];exact eb _ q
    obtain⟨r,M,G,q1,q2,q3⟩:=pre z m hm;have S:r=i:=by
     have:t.place[r]=t.place[i]:=q1.trans em;rcases Xz r i with q|q|q
     .have:=U8.mp T.tb.xK r i (by simpa using G) (by simpa using F) q;simp at this;lia
     .exact q
     .have:=U8.mp T.tb.xK i r (by simpa using F) (by simpa using G) q;simp at this;lia
    subst S;rw[f]at q2;cases q2;exact q3 v rfl g
   .refine⟨n+nn,by rw[gY],λk B=>?_⟩;obtain⟨i,e,f,q1,_⟩:=pre z k B;show _∈t.place.toList;rw[<- q1];simp
  |ca nn i f H hq z=>
   dsimp only;obtain⟨e,l⟩:=at_ i f;obtain⟨I,c,rfl,g⟩:=el e (yx l);have rest:wpAny (model prog w) A (do
    let some (_,y):=es[i]?|unsupported "internal:set-entry"
    let u <- holding [y] (eqBool y (.ref b))
    let (U,_,t') <- setState a
    if true&&u then return SetFound.there none
    let some same:=t'.sameMemory t.moves t.mask|unsupported "set.changed-during-lookup:is-the-new-block-at-the-old-address"
    let xR <- match(if same then t'.slot (it t.mask nn (it t.mask n (st t.mask ((tK prog w).hash (iK ns))))).j else .empty)with
     |.live r=>match U[r]? with
      |some (_,y')=>do pure (if <- isSame y' y then some r else none)
      |none=>pure none
     |_=>pure none
    match xR with
    |none=>rule "set.search.anew";setSearchFrom a (.ref b) ((tK prog w).hash (iK ns)) true fuel none
    |some r=>if u then return .there (some r)else setSearchFrom a (.ref b) ((tK prog w).hash (iK ns)) true fuel (some (it t.mask (nn+1) (it t.mask n (st t.mask ((tK prog w).hash (iK ns))))))) Q E s:=by
    rw[l];dsimp only;refine KE (VI ((tK prog w).eqBool hu g P ?_));refine KE (VU O hd (rT.fits T hs) ?_);dsimp only;by_cases x:iK I=iK ns
    .rw[U6 x];simp only[XZ,Wl];exact UM (h1 ⟨_,yx l,c,rfl,by rw[<- x];exact g⟩)
    .rw[U_ x];simp only[X9,U2,VH];have V:t.sameMemory t.moves t.mask=some true:=by unfold SetTable.sameMemory;simp
     rw[V];dsimp only;rw[UP rfl,<- H,ti T.tb f];dsimp only;rw[l];dsimp only;refine KE (wpAny_isSame_ref_self ?_);refine KE (UM ?_);rw[UP rfl]
     try dsimp only
     refine tp O hd T hs hu P el h1 h2 fuel (n+(nn+1)) _ ?_ ?_ ⟨N,?_,?_,R⟩
     .exact(gY t.mask n (nn+1) _).symm
     .intro k B;by_cases C:k<n+nn
      .exact pre z k C
      .have:k=n+nn:=by lia
       subst this;refine⟨i,_,f,by rw[H,gY],l,λv p hh=>x ?_⟩;have:c=v:=by injection p
       subst this;exact(tK prog w).inj g hh
     .refine Wp λL=>?_;have hN:N<n+(nn+1):=by lia
      by_cases W:N<n+nn
      .obtain⟨r,M,G,q1,_⟩:=pre z N W;exact R (by rw[<- q1];simp)
      .have:N=n+nn:=by lia
       subst this;exact R (by rw[gY,<- H];simp)
     .lia
   split
   .refine KE (K8 P ?_ ?_)
    .intro y hy;obtain⟨M,X,rfl⟩:=UY.mp hy;have Y:M∈es.toList:=by have:=(Array.mem_toList_iff).mp X;rw[Array.mem_filter]at this;exact Array.mem_toList_iff.mpr this.1
     obtain⟨Z,v,rfl,h⟩:=el M Y;exact⟨Z,v,rfl,h⟩
    .simp only[U2,VH];exact rest
   .exact rest
end
noncomputable def byT(w:World):Bool:=w.params.followText "set-order"
def SetAt(w:World)(h:Heap)(a:Addr)(es:Array (Int×YA)):Prop:=∃o b t,h.get? a=some o/\o.ExactSet/\o.data=.set es b t/\rT t es/\lT t/\t.plain=true/\t.led=!byT w
def SetAt.keep(x:SetAt w h a es)(k:∀o,h.get? a=some o->h'.get? a=some o):SetAt w h' a es:=let ⟨o,b,t,e,r⟩:=x;⟨o,b,t,k o e,r⟩
def jc(h:lT t):t.place.size<=t.mask:=by unfold lT at h;lia
section
structure pD(es es':Array (Int×YA)) (x:Int×YA):Prop where
 mem:∀y,y∈es'.toList↔y=x\/y∈es.toList
 pw:∀R:Int×YA->Int×YA->Prop,(∀x y,R x y->R y x)->es.toList.Pairwise R->(∀e∈es.toList,R e x)->es'.toList.Pairwise R
 size:es'.size=es.size+1
def tq(es:Array (Int×YA))(p:Nat)(x:Int×YA)(a:p<=es.size):pD es (SetTable.insertAt es p x) x:=by
 have e:=ST.insertAt_toList es p x a;refine⟨λy=>?_,λR b pw c=>?_,ST.insertAt_size es p x a⟩
 .rw[e,U4,US];constructor
  .grind
  .rintro(rfl|z)
   .exact .inr (.inl rfl)
   .rw[<- WL p es.toList,U4]at z;exact z.elim .inl λz=>.inr (.inr z)
 .rw[e,XY];rw[<- WL p es.toList,XY]at pw;obtain⟨p1,p2,p3⟩:=pw;refine⟨p1,?_,?_⟩
  .rw[VB]
   grind
  .grind
def pD.laid(g:pD es es1 x)(l:Laid m es1 es2 t):pD es es2 x:=⟨λy=>(l.mem y).trans (g.mem y),λR a pw b=>l.pw R a (g.pw R a pw b),by rw[l.size,g.size]⟩
def lr{d:Nat}{t:SetTable}(b:Array (Int×YA))(t':SetTable){h:Heap}(e:h.get? a=some o)(hex:o.ExactSet)(hd:o.data=.set es d t) :
 ∃c,(h.update a (Obj.putSet b t')).get? a=some c/\c.ExactSet/\c.data=.set b (d+1) t':=by
 have:=VR (Obj.putSet b t') e (by rw[putSet_of b t' hd];rfl);rw[putSet_of b t' hd]at this;exact⟨_,this,hex,rfl⟩
def qL{t:SetTable}(h:xU t.mask)(h1:n*5<t.mask*3)(a:(n+1)*5>=t.mask*3)(b:n+1<=300):∃m,SetTable.sizeAbove (SetTable.grown (n+1))=m+1/\xU m/\(n+1)*5<m*3:=by
 rcases h with e|e|e|e<;>rw[e]at h1 a
 .have:n=4:=by lia
  subst this;exact⟨31,by decide,.inr (.inl rfl),by lia⟩
 .have:n=18:=by lia
  subst this;exact⟨127,by decide,.inr (.inr (.inl rfl)),by lia⟩
 .have:n=76:=by lia
  subst this;exact⟨511,by decide,.inr (.inr (.inr rfl)),by lia⟩
 .lia
def Dp{a:Addr}{o:Obj}{es:Array (Int×YA)}{Q:Unit->Yx->Prop}(d:s.heap.get? a=some o)(hex:o.ExactSet)(hd:o.data=.set es ep t)(l:t.fits es.size=true)(j:xU m)(k:SetTable.sizeAbove n=m+1)(p:es.size*5<m*3)(f:t.plain=true)(g:t.led=!byT w)
 (h:∀c t',Laid m es c t'->SetAt w (s.heap.update a (Obj.putSet c t')) a c->Q () {s with heap:=s.heap.update a (Obj.putSet c t')}):wpAny (model prog w) A (setRelay a n) Q E s:=by
 have q:m<=511:=by rcases j with rfl|rfl|rfl|rfl<;>lia
 unfold setRelay;refine KE (VU d hd l ?_);dsimp only;rw[UV (by rw[k,Vk];lia)];obtain⟨t',b,e,L,i,u⟩:=GH j es (by lia) t.finger (t.movedTo m) t.led t.plain;have v:t.relaid (es.map (·.1)) n=some (t',b):=by unfold SetTable.relaid;rw[k];exact e
 rw[v];show wpAny _ _ (do
  let r <- (do
   if(b.filterMap (es[·]?)).size != es.size then unsupported "internal:set-table-lost-an-element"
   pure (b.filterMap (es[·]?),t'):Sem (Array (Int×YA)×SetTable))
  storeSet a r.1 r.2) _ _ _
 refine KE ?_;rw[UV (by rw[L.size];simp)];refine UM ?_;refine XA d hd ?_ (by show(b.filterMap (es[·]?)).size<=_;rw[L.size,Vk];lia);obtain⟨x,g1,g2,g3⟩:=lr (b.filterMap (es[·]?)) t' d hex hd;refine h _ t' L ⟨x,_,t',g1,g2,g3,L.xL,?_,by rw[u];exact f,by rw[i];exact g⟩;unfold lT;rw[L.xL.len,L.size,L.mask];exact p
end
section
def Dq(T:rT t es)(hs:t.place.size<=t.mask)(h:Int):∃N,N<100000/\(it t.mask N (st t.mask h)).j∉t.place.toList:=by
 obtain⟨j,a,b⟩:=qH T.tb hs;obtain⟨N,h1,c⟩:=Jm T.tb.gm a (Va.st t.mask h);refine⟨N,?_,by rw[c];exact b⟩;have:t.mask<=511:=by rcases T.tb.gm with e|e|e|e<;>rw[e]<;>lia
 unfold SetTable.turns at h1;lia
def K9(G:A.units<cLine)(q:(tK prog w).is s.heap (iK ns) b)(M:SetAt w s.heap a es)(el:T1 prog w s.heap es)(hz:es.size+1<=300)
 (h1:∀tk,s.toks<=tk->(∃e∈es.toList,∃c,e.2=.ref c/\(tK prog w).is s.heap (iK ns) c)->Q false {s with toks:=tk})
 (H:∀tk h' h,s.toks<=tk->(∀e∈es.toList,∀c,e.2=.ref c->¬(tK prog w).is s.heap (iK ns) c)->Heap.SameBut a s.heap h'->SetAt w h' a h->pD es h ((tK prog w).hash (iK ns),.ref b)->Q true {s with heap:=h',toks:=tk}) :
 wpAny (model prog w) A (setAdd a (.ref b)) Q E s:=by
 obtain⟨o,Y,t,p,hex,hd,T,sp,r,u⟩:=M;have I:=rT.fits T (jc sp);unfold setAdd;refine VI ?_;refine KE ((tK prog w).pyHash G q ?_);have i:s.toks<=s.toks+(tK prog w).draws (iK ns):=Nat.le_add_right _ _;generalize s.toks+(tK prog w).draws (iK ns)=tk at i;unfold setAddHashed setAddHashedIn;refine VI ?_;refine KE (VU (s:={s with toks:=tk}) p hd I ?_);dsimp only;have x:byScan (.ref b) es=false:=by simp[byScan,Value.scannable]
 rw[x];simp only[U2,VH];unfold setSearch;obtain⟨N,Z,O⟩:=Dq T (jc sp) ((tK prog w).hash (iK ns));refine KE (tp (s:={s with toks:=tk}) p hd T (jc sp) G q el (λy=>?_) (λl j P z R=>?_) 100000 0 none rfl (λk S=>by lia) ⟨N,Vo _,by lia,O⟩)
 .exact UM (h1 tk i y)
 .dsimp only;refine KE (VU (s:={s with toks:=tk}) p hd I ?_);dsimp only;obtain⟨B,em,C⟩:=yu T P z (v:=Value.ref b) R;have f:(t.put j).1.plain=true:=by rw[mS T.tb];exact r
  have n:(t.put j).1.led=!byT w:=by rw[mS T.tb];exact u
  rw[f];simp only[Wl];refine KE (K7 (s:={s with toks:=tk}) q ?_);simp only[Wl];have U:(t.put j).2<=es.size:=by rw[pP,<- T.len];exact(dI j T.tb.xK).1
  have g:=tq es (t.put j).2 ((tK prog w).hash (iK ns),Value.ref b) U;refine KE (XA (s:={s with toks:=tk}) p hd ?_ (by rw[g.size,Vk];lia));obtain⟨o1,q1,q2,J⟩:=lr (SetTable.insertAt es (t.put j).2 ((tK prog w).hash (iK ns),Value.ref b)) (t.put j).1 p hex hd;have K:=Vv s.heap a (Obj.putSet (SetTable.insertAt es (t.put j).2 ((tK prog w).hash (iK ns),Value.ref b)) (t.put j).1);have fill:(t.put j).1.fill=es.size+1:=by unfold SetTable.fill;rw[B.tb.Of,C,T.len];rfl
  by_cases d:(t.put j).1.tooFull=true
  .rw[d];simp only[Bool.not_false,XZ,Wl];unfold SetTable.tooFull at d;rw[fill,em]at d;have d:(es.size+1)*5>=t.mask*3:=by simpa using d
   have D:es.size*5<t.mask*3:=by rw[<- T.len];exact sp
   obtain⟨m,V,W,X⟩:=qL T.tb.gm D d hz;have F:(t.put j).1.place.size<=(t.put j).1.mask:=by
    rw[C,em];unfold lT at sp;have:t.mask>=7:=by rcases T.tb.gm with e|e|e|e<;>rw[e]<;>lia
    lia
   refine KE (Dp (s:={s with heap:=s.heap.update a (Obj.putSet (SetTable.insertAt es (t.put j).2 ((tK prog w).hash (iK ns),Value.ref b)) (t.put j).1),toks:=tk}) q1 q2 J (rT.fits B F) W V (by rw[g.size];exact X) f n λh t' L sa=>?_);exact UM (H tk _ h i l (K.trans (Vv _ a _)) sa (g.laid L))
  .have d:(t.put j).1.tooFull=false:=by simpa using d
   rw[d];simp only[X9,U2,VH];refine UM (H tk _ _ i l K ⟨o1,_,_,q1,q2,J,B,?_,f,n⟩ g);unfold SetTable.tooFull at d;unfold lT;rw[fill]at d;rw[C,T.len];simpa using d
end
abbrev j3:=List Int×Addr
def Ds(h:iK a=iK b):a=b:=by
 induction a generalizing b with
 |nil=>cases b with
  |nil=>rfl
  |cons _ _=>cases h
 |cons x a c=>cases b with
  |nil=>cases h
  |cons y b=>grind
section
variable{κ μ:Type}{x:κ×μ}
structure kf(ent:κ×μ->Int×YA) (es:Array (Int×YA)) (xs:List (κ×μ)):Prop where
 el:∀e∈es.toList,∃x∈xs,e=ent x
 sz:es.size<=xs.length
 pw:es.toList.Pairwise λe e'=>∀x x',e=ent x->e'=ent x'->x∈xs->x'∈xs->x.1≠x'.1
 all:∀x∈xs,∃y∈xs,y.1=x.1/\ent y∈es.toList
def GL(ent:κ×μ->Int×YA)(xs:List (κ×μ)):Prop:=∀x∈xs,∀y∈xs,ent x=ent y->x.1=y.1
def kf.wide(v:kf ent es xs)(un:GL ent (xs++[x])):es.toList.Pairwise λe h=>∀y c,e=ent y->h=ent c->y∈xs++[x]->c∈xs++[x]->y.1≠c.1:=by refine WT (λ{a b} ha i f z j e1 e2 k l=>?_) v.pw;obtain⟨y,g,rfl⟩:=v.el a ha;obtain⟨c,d,rfl⟩:=v.el b i;rw[un z k y (Vw _ g) e1.symm,un j l c (Vw _ d) e2.symm];exact f y c rfl rfl g d
def kf.seen(v:kf ent es xs)(a:∃y∈xs,y.1=x.1)(un:GL ent (xs++[x])):kf ent es (xs++[x]):=by
 refine⟨λe c=>?_,?_,v.wide un,λy hy=>?_⟩
 .obtain⟨z,h1,b⟩:=v.el e c;exact⟨z,Vw _ h1,b⟩
 .have:=v.sz;simp;lia
 .obtain⟨d,h1,b⟩ : ∃z∈xs,z.1=y.1:=by
   rcases U4.mp hy with hy|hy
   .exact⟨y,hy,rfl⟩
   .rw[U5]at hy;subst hy;exact a
  obtain⟨z,g1,g2,g3⟩:=v.all d h1;exact⟨z,Vw _ g1,g2.trans b,g3⟩
def kf.new(v:kf ent es xs)(c:¬∃y∈xs,y.1=x.1)(un:GL ent (xs++[x]))(g:pD es es' (ent x)):kf ent es' (xs++[x]):=by
 have d:x∈xs++[x]:=Vn _ (U5.mpr rfl);refine⟨λe he=>?_,?_,?_,λy hy=>?_⟩
 .rcases(g.mem e).mp he with rfl|he
  .exact⟨x,d,rfl⟩
  .obtain⟨z,h1,f⟩:=v.el e he;exact⟨z,Vw _ h1,f⟩
 .have:=v.sz;rw[g.size];simp;lia
 .refine g.pw _ (λa b i z j e1 e2 k l h=>i j z e2 e1 l k h.symm) (v.wide un) λe he z j e1 e2 k l h=>?_;obtain⟨y,m,rfl⟩:=v.el e he;exact c ⟨y,m,(un z k y (Vw _ m) e1.symm).symm.trans (h.trans (un j l x d e2.symm))⟩
 .rcases U4.mp hy with hy|hy
  .obtain⟨z,h1,f,n⟩:=v.all y hy;exact⟨z,Vw _ h1,f,(g.mem _).mpr (.inr n)⟩
  .rw[U5]at hy;subst hy;exact⟨y,d,rfl,(g.mem _).mpr (.inl rfl)⟩
end
section
variable{κ μ:Type}
def zL(prog:Yz)(w:World)(A:YB)(c:Heap)(S:Addr)(ent:κ×μ->Int×YA)(its:List (κ×μ)):Prop:=∀(x:κ×μ)(xs:List (κ×μ))(s:Yx)(es:Array (Int×YA))(Q:Bool->Yx->Prop)(E:YA->Yx->Prop),x∈its->(∀y∈xs,y∈its)->(∀b o,c.get? b=some o->s.heap.get? b=some o)->SetAt w s.heap S es->kf ent es xs->es.size+1<=300->
 (∀tk,s.toks<=tk->(∃y∈xs,y.1=x.1)->Q false {s with toks:=tk})->(∀tk h' a,s.toks<=tk->(¬∃y∈xs,y.1=x.1)->Heap.SameBut S s.heap h'->SetAt w h' S a->pD es a (ent x)->Q true {s with heap:=h',toks:=tk})->wpAny (model prog w) A (setAdd S (ent x).2) Q E s
variable{St:Nat->Yx->Prop}
def ol(W:WalksS prog w A.in1 I fp wr G n P St)(S:Addr)(J:S∉fp)(c:Heap)(U:c.get? S=none)(V:∀b∈wr,c.get? b=none)(its:List (κ×μ))(hn:its.length=n)
 (L:∀i v,P i v->∃x,its[i]?=some x/\v=(ent x).2) (un:GL ent its) (add:zL prog w A.in1 c S ent its) (hz:n<=300) :
 ∀(k i:Nat)(s:Yx)(es:Array (Int×YA)),n-i=k->i<=n->St i s->(∀b o,c.get? b=some o->s.heap.get? b=some o)->SetAt w s.heap S es->kf ent es (its.take i)->
  (∀d p,Moved (S::wr) G s d->SetAt w d.heap S p->kf ent p its->R (.ok (.ret .none)) d)->
  codeAny (model prog w) A (.builtin "set.update.loop" ⟨[.ref S,.ref I],[]⟩) R s:=by
 have M:S∉wr:=λh=>J (W.sub _ h);have f:∀b∈wr,b∈S::wr:=λb c=>UT _ c;intro k;induction k with
 |zero=>
  intro i s es hk hi r K X v T;have t:i=n:=by lia
  subst t;refine Wr Xh ?_;rw[Wx V5 _];show wpAny _ A.in1 (pyNext (.ref I) >>= _) _ _ s;refine KE (W.done s _ _ r λd B=>?_);rw[VG (by lia)]at v;have Y:=T d es (B.mono f) (X.keep λo e=>B.heap S o M e) v;show wpAny _ A.in1 (ret Value.none) _ _ d;exact UM Y
 |succ k ih=>
  intro i s es hk hi r K X v T;have C:i<n:=by lia
  refine Wr Xh ?_;rw[Wx V5 _];show wpAny _ A.in1 (pyNext (.ref I) >>= _) _ _ s;refine KE (W.item i s _ _ C r λu d hP q B=>?_);obtain⟨x,hx,rfl⟩:=L i u hP;have D:its.take (i+1)=its.take i++[x]:=by rw[Wm,hx];rfl
  have N:GL ent (its.take i++[x]):=by rw[<- D];exact λy Z z hz=>un y (Wh Z) z (Wh hz)
  have K':∀b o,c.get? b=some o->d.heap.get? b=some o:=λb o e=>B.heap b o (λz=>by rw[V b z]at e;cases e) (K b o e);have O:=X.keep λo e=>B.heap S o M e;have hes:es.size+1<=300:=by have:=v.sz;rw[Wv]at this;lia
  show wpAny _ A.in1 (holding [(ent x).2] (setAdd S (ent x).2) >>= _) _ _ d;refine KE (VI (add x (its.take i) d es _ _ (Vm hx) (λy Z=>Wh Z) K' O v hes (λtk a t=>?_) λtk h' p a Q E hSn g=>?_))
  .refine UM ⟨WY V5 _,ih (i+1) _ es (by lia) C (W.frame _ d _ _ q a λb c o e=>e) K' O (by rw[D];exact v.seen t N) λF j l m H=>?_⟩;exact T F j (Yi W.gtrans ((B.mono f).then_heap a λb o c e=>e) l) m H
  .have K2:∀b o,c.get? b=some o->h'.get? b=some o:=λb o e=>(E.2 b (λz=>by rw[z,U]at e;cases e)).trans (K' b o e);refine UM ⟨WY V5 _,ih (i+1) _ p (by lia) C (W.frame _ d _ _ q a λb c o e=>?_) K2 hSn (by rw[D];exact v.new Q N g) λF j l m H=>?_⟩
   .rw[E.2 b (λh:b=S=>J (h▸c))];exact e
   .refine T F j (Yi W.gtrans ((B.mono f).then_heap a λb o c e=>?_) l) m H;rw[E.2 b (λh:b=S=>c (h▸UW))];exact e
abbrev eT(prog:Yz)(w:World)(x:j3):Int×YA:=((tK prog w).hash (iK x.1),Value.ref x.2)
def OK(a:∀x∈its,(tK prog w).is hb (iK x.1) x.2):GL (eT prog w) its:=λx b y c e=>Ds ((tK prog w).inj (a x b) (by
 have e:x.2=y.2:=by injection e with _ e;injection e
 rw[e];exact a y c))
def GM(m:A.units<cLine)(d:∀x∈its,(tK prog w).is hb (iK x.1) x.2):zL prog w A hb S (eT prog w) its:=λx xs s es Q E n hs K o v hz h1 p=>by
 have a:∀y∈xs,(tK prog w).is s.heap (iK y.1) y.2:=λy i=>pN (d y (hs y i)) K;refine K9 m (pN (d x n) K) o (λe j=>?_) hz (λtk t b=>h1 tk t ?_) λtk h' k t f q sa g=>p tk h' k t (λb=>?_) q sa g
 .obtain⟨y,i,rfl⟩:=v.el e j;exact⟨_,_,rfl,a y i⟩
 .obtain⟨e,j,c,l,r⟩:=b;obtain⟨y,h,rfl⟩:=v.el e j;injection l with l;subst l;exact⟨y,h,Ds ((tK prog w).inj (a y h) r)⟩
 .obtain⟨y,h,u⟩:=b;obtain⟨z,B,C,D⟩:=v.all y h;exact f _ D z.2 rfl (by rw[<- u,<- C];exact a z B)
end
abbrev setNew(led:Bool):Obj:={ cls:=.type "set",dict:=none,data:=.set #[] 0 (.fresh 0 0 led) }
def A7(e:h.get? a=some (setNew (!byT w))):SetAt w h a #[]:=by refine⟨_,0,_,e,⟨rfl,rfl,rfl⟩,rfl,⟨⟨.inl rfl,rfl,List.Pairwise.nil,λj b=>nomatch b⟩,rfl,λq c=>nomatch c⟩,?_,rfl,rfl⟩;show 0*5<7*3;decide
section
def sj(a:YA)(h:Q₁ (.ref s.heap.objs.size) {s with heap:=s.heap.push (setNew (!byT w))}) :
 codeAny (model prog w) A (.call (.builtin "set.__new__") ⟨[.type "set",a],[]⟩) (wants Q₁ E) s:=by
 refine codeAny_of_tree (show wpAny _ A.in1 (do checkBuiltinCall "set.__new__" ⟨[.type "set",a],[]⟩;again (.builtin "set.__new__" ⟨[.type "set",a],[]⟩)) _ _ s from ?_);refine KE (wpAny_of_eq (PySem.F.newCall_set_1 a) (UM ⟨WY PySem.F.plain_set_new _,Wr PySem.F.entry_set_new ?_⟩));rw[Wx PySem.F.plain_set_new _];unfold Builtin.«set.__new__» Builtin.Frozenset.newClass;have b:=sub_set_self;obtain⟨c,g,d,tk,os⟩:=s;dsimp only;wp_walk;refine wpAny_askSetting (UM ?_);dsimp only;simp only[newObj];refine KE (wpAny_alloc (UM ?_));exact UM h
def tz{κ L:Type}{ent:κ×L->Int×YA}{l:Addr}{a:Array YA}{nl:Nat}{its:List (κ×L)} {Q:YA->Yx->Prop} (U:A.handled=none) (M:s.heap.get? l=some { cls:=.type "list",data:=.seq a nl }) (V:its.length=a.size) (hz:a.size<=300)
 (m:∀(i:Nat)(v:YA),a[i]?=some v->∃x,its[i]?=some x/\v=(ent x).2) (un:GL ent its) (add:zL prog w A.in1.in1.in1 s.heap s.heap.objs.size ent its)
 (h:∀(h':Heap)(tk:Nat)(es:Array (Int×YA)),SetAt w h' s.heap.objs.size es->kf ent es its->(∀b o,b<s.heap.objs.size->s.heap.get? b=some o->h'.get? b=some o)->Q (.ref s.heap.objs.size) {s with heap:=h',toks:=tk}) :
 wpAny (model prog w) A (call (.type "set") [.ref l]) Q E s:=by
 obtain⟨c,tl,N⟩:=PySem.F.called_set.mro;have C:=PySem.F.called_set.made;have O:=PySem.F.called_set.sub;refine wpAny_call (codeAny_of_tree ?_);show wpAny _ _ (callAny (.type "set") _) _ _ _;refine UM ⟨Code.quiet_builtin _ (by decide +kernel),Wr PySem.F.entry_type_call ?_⟩;rw[Around.under_plain (weight_type_call_type "set" [.ref l] []) rfl];have h1:=PySem.F.called_set.notType;have h2:=PySem.F.called_set.canCreate;have W:=PySem.F.typeCall_set_1 (.ref l)
 repeat (any_goals (first|assumption|wp_step))
 refine XI (sj (.ref l) (E:=E) (Q₁:=λobj f=>obj=.ref s.heap.objs.size/\f={s with heap:=s.heap.push (setNew (!byT w))}) ⟨rfl,rfl⟩) λr f D=>?_;rcases r with e|fl
 .exact D
 cases fl with
 |ret obj=>
  obtain⟨rfl,rfl⟩:=D;have P:(s.heap.push (setNew (!byT w))).get? s.heap.objs.size=some (setNew (!byT w)):=UU _ rfl;have X:Shared.TypeIs {s with heap:=s.heap.push (setNew (!byT w))} (.ref s.heap.objs.size) "set":=⟨_,P,rfl⟩;have Y:=PySem.F.called_set.init.lookup;have Z:=PySem.F.called_set.init.bind (.ref s.heap.objs.size)
  repeat (any_goals (first|assumption|wp_step))
  refine XI (codeAny_call_builtin (R:=wants (λr g=>r=.none/\∃h' tk es,g={s with heap:=h',toks:=tk}/\SetAt w h' s.heap.objs.size es/\kf ent es its/\
   (∀b o,b<s.heap.objs.size->s.heap.get? b=some o->h'.get? b=some o)) E) PySem.F.called_set.init.plain PySem.F.entry_set_init (check_set_init_1 X ?_)) λn g d=>?_
  .have p:(s.heap.push (setNew (!byT w))).get? l=some { cls:=.type "list",data:=.seq a nl }:=RW _ M;have S:=PySem.F.sub_list_set;have T:=PySem.F.sub_list_frozenset;have hne:(Value.type "list"==Value.type "dict")=false:=by decide
   have t:(s.heap.push (setNew (!byT w))).IsList l a:=⟨_,p,rfl,nl,rfl⟩;unfold Builtin.«set.__init__» noKeywords Builtin.Frozenset.updateFrom;generalize G:pyIter=PI
   wp_walk
   subst G;refine W9 t (KE (wpAny_runValue ?_));have u:l<s.heap.objs.size:=UX M;have H:A.in1.in1.in1.handled=none:=by simp[U]
   have y:l≠(s.heap.push (setNew (!byT w))).objs.size:=by rw[WN];exact U9 (WU u)
   have z:∀b,s.heap.objs.size<=b->s.heap.get? b=none:=λb j=>by
    cases q:s.heap.get? b with
    |none=>rfl
    |some o=>exact absurd (UX q) (Nat.not_lt.mpr j)
   refine ol ((Walks.list H _ l y a).toS) s.heap.objs.size ?hSf s.heap (z _ (UN _)) ?hbw its V m un add hz (a.size-0) 0 _ #[] rfl (Vo _) ⟨⟨_,UU _ rfl,rfl,rfl⟩,(t.push _)⟩
    (λb o e=>RW _ (RW _ e)) (A7 (RW _ P)) ⟨λe he=>(nomatch he),Vo _,List.Pairwise.nil,λx hx=>(nomatch hx)⟩ ?hR
   case hSf=>rw[WN];simp only[US,U0,Yw,not_or];exact⟨U9 (WH _),Xo u⟩
   case hbw=>intro b j;simp only[US,U0,Yw]at j;subst j;exact z _ (by rw[WN];lia)
   case hR=>intro s' es B k v;obtain⟨h',g',d',I,J⟩:=s';have eg:g'=s.gens:=B.gens;have ed:d'=s.drawn:=B.drawn;have eo:J=s.os:=B.os;subst eg ed eo;refine UM (UM ⟨rfl,h',I,es,rfl,k,v,λb o j e=>B.heap b o ?_ (RW _ (RW _ e))⟩);simp only[US,U0,Yw,not_or];exact⟨U9 j,by rw[WN];exact U9 (WU j)⟩
  .rcases n with e|fl₂
   .exact d
   cases fl₂ with
   |ret r=>
    obtain⟨rfl,h',tk,es,rfl,k,v,K⟩:=d
    repeat (any_goals (first|assumption|wp_step))
    exact h _ _ _ k v K
   |_=>exact d.elim
 |_=>exact D.elim
end
theorem qM{α:Type}:∀(l:List α)(i:Nat)(h:i<l.length),(l[i]::l.eraseIdx i).Perm l
 |[],i,h=>by simp at h
 |x::l,0,h=>WD _
 |x::l,i+1,h=>by have a:=qM l i (by simpa using h);have e:(x::l).eraseIdx (i+1)=x::l.eraseIdx i:=rfl;rw[e,List.getElem_cons_succ];exact(List.Perm.swap _ _ _).trans (List.Perm.cons x a)
theorem zM{α:Type}(next:Nat->Nat):∀(a k:Nat)(left:List α)(out:Array α),left.length=a->(pickOrder.go next a k left out).toList.Perm (out.toList++left)
 |0,k,left,out,h=>by have:left=[]:=VC.mp h;subst this;unfold pickOrder.go;simp
 |f+1,k,left,out,h=>by have b:next k%left.length<left.length:=Yv _ (by lia);unfold pickOrder.go;rw[VP b];dsimp only;have c:=zM next f (k+1) (left.eraseIdx (next k%left.length)) (out.push left[next k%left.length]) (by rw[List.length_eraseIdx,UP b];lia);refine c.trans ?_;rw[Array.toList_push,Xa];exact List.Perm.append_left _ (qM left _ b)
def A8{α:Type}(next:Nat->Nat)(xs:Array α):(pickOrder next xs).toList.Perm xs.toList:=by have:=zM next xs.size 0 xs.toList #[] (by simp);unfold pickOrder;simpa using this
def kz(w:World)(S:Addr)(a:Nat)(es:Array (Int×YA)):Array (Int×YA):=if byT w then pickOrder (w.params.setOrder S a) es else es
def wd(w:World)(S:Addr)(a:Nat)(es:Array (Int×YA)):(kz w S a es).toList.Perm es.toList:=by
 unfold kz;split
 .exact A8 _ _
 .exact WD _
def mT(w:World)(S:Addr)(a:Nat)(es:Array (Int×YA)):(kz w S a es).size=es.size:=by have:=(wd w S a es).length_eq;simpa using this
def dJ(w:World)(t:SetTable):Nat->Nat
 |0=>0
 |i+1=>if byT w then 0 else t.place.getD i 0+1
def yy(T:Tb t):∀(i:Nat),i<=t.place.size->SetTable.below t.place (match i with|0=>0|i+1=>t.place.getD i 0+1)=i
 |0,_=>by
  obtain⟨a,b,c⟩:=dI 0 T.xK;dsimp only;rcases Nat.eq_zero_or_pos (SetTable.below t.place 0)with h|h
  .exact h
  .have:=b 0 (by lia) h;lia
 |i+1,f=>by
  dsimp only;have e:t.place.getD i 0=t.place[i]:=by simp[Array.getD,show i<t.place.size by lia]
  rw[e];obtain⟨a,b,c⟩:=dI (t.place[i]+1) T.xK;rcases Xz (SetTable.below t.place (t.place[i]+1)) (i+1)with q|q|q
  .have h1:=c i (by lia) (by lia);lia
  .exact q
  .have h1:=b (i+1) (by lia) q;have d:=U8.mp T.xK i (i+1) (by simp;lia) (by simp;lia) (by lia);simp at d;lia
def slot_setiter_next:Slot "set_iterator" "__next__" "set_iterator.__next__":=.of (owner:="set_iterator") (n:="__next__") (by rw[typeLookup_type,builtinLookup_eq_fast];kernel_rfl) (by decide +kernel) (by decide +kernel) (by decide +kernel) (by first|exact .inl (by decide +kernel)|exact .inr (by decide +kernel)) (by rw[isSubtype_type];kernel_rfl)
def gZ:entryFor table "set_iterator.__next__"=some Builtin.«set_iterator.__next__»:=entryFor_of_fast (by kernel_rfl)
def iC(a:YA):argsOk "set_iterator.__next__" ⟨[a],[]⟩:=by(unfold argsOk;kernel_rfl)
def sk:entryFor table "set.__iter__"=some Builtin.«frozenset.__iter__»:=entryFor_alias (id':="frozenset.__iter__") (by kernel_rfl) rfl (by decide +kernel) (by kernel_rfl)
def SetIt(h:Heap)(it S:Addr)(slot i n a:Nat):Prop:=∃o,h.get? it=some o/\o.cls=.type "set_iterator"/\o.data=.fields #[.int slot 0,.int i 0,.ref S,.int n 0,.int a 0]
def SetIt.typeIs{s:Yx}{it S:Addr}{slot i n a:Nat}(x:SetIt s.heap it S slot i n a):s.TypeIs (.ref it) "set_iterator":=let ⟨o,b,c,_⟩:=x;⟨o,b,c⟩
def om(h:Heap)(S:Addr)(es:Array (Int×YA))(a:Nat)(t:SetTable):Prop:=∃o,h.get? S=some o/\o.ExactSet/\o.data=.set es a t
section
def yz(h:Q (byT w) s):wpAny (model prog w) A setsByText Q E s:=by unfold setsByText;exact KE (wpAny_askSetting (UM h))
def qN(r:om s.heap S es ep t)(T:rT t es)(hs:t.place.size<=t.mask)(d:t.plain=true)(a:t.led=!byT w)(k:i<=es.size)
 (h:Q (((kz w S ep es)[i]?).map λe=>(e.2,dJ w t (i+1))) s):wpAny (model prog w) A (setNext S (dJ w t i) i ep) Q E s:=by
 obtain⟨o,f,hex,hd⟩:=r;have g:=rT.fits T hs;unfold setNext;refine KE (VU f hd g ?_);dsimp only;refine KE (yz ?_);cases b:byT w with
 |true=>
  simp only[Wl];rw[UV (by simp)];refine KE ?_;unfold setWalk;refine KE (VU f hd g ?_);dsimp only;refine KE (yz ?_);rw[b];simp only[Wl];refine KE (wpAny_askSetting (UM ?_));have e1:dJ w t (i+1)=0:=by unfold dJ;rw[b];rfl
  have e2:dJ w t i=0:=by cases i with|zero=>rfl|succ i=>(unfold dJ;rw[b];rfl)
  rw[e2];rw[e1]at h;unfold kz at h;rw[b]at h;exact UM h
 |false=>
  simp only[U2,VH];rw[b]at a;have a:t.led=true:=a;show wpAny _ _ (if(!t.plain&&decide (es.size>1))=true then _ else _) _ _ _;rw[d];simp only[Wz,X8,U2,VH];show wpAny _ _ ((if(!t.led&&!es.isEmpty)=true then unsupported "set:maker-not-led" else pure ()) >>= λ_=>_) _ _ _;rw[a];simp only[Wz,X8,U2,VH];refine KE (UM ?_);have e1:SetTable.below t.place (dJ w t i)=i:=by
   have:=yy T.tb i (by rw[T.len];exact k);cases i with
   |zero=>exact this
   |succ i=>unfold dJ;rw[b];exact this
  have l:kz w S ep es=es:=by unfold kz;rw[b];rfl
  rw[l]at h;rw[e1];by_cases c:i<es.size
  .have g1:es[i]?=some es[i]:=by simp[c]
   have j:i<t.place.size:=by rw[T.len];exact c
   have g2:t.place[i]?=some t.place[i]:=by simp[j]
   rw[g1]at h;rw[g1,g2];have e2:dJ w t (i+1)=t.place[i]+1:=by unfold dJ;rw[b];simp[Array.getD,j]
   rw[e2]at h;exact UM h
  .have g1:es[i]?=none:=by simp;lia
   rw[g1]at h;rw[g1];exact UM h
end
def iD:Slot "set_iterator" "__iter__" "set_iterator.__iter__":=.of (owner:="set_iterator") (n:="__iter__") (by rw[typeLookup_type,builtinLookup_eq_fast];kernel_rfl) (by decide +kernel) (by decide +kernel) (by decide +kernel) (by first|exact .inl (by decide +kernel)|exact .inr (by decide +kernel)) (by rw[isSubtype_type];kernel_rfl)
def mv:entryFor table "set_iterator.__iter__"=some Builtin.«dict_keyiterator.__iter__»:=entryFor_alias (id':="dict_keyiterator.__iter__") (by kernel_rfl) rfl (by decide +kernel) (by kernel_rfl)
def mU(a:YA):argsOk "set_iterator.__iter__" ⟨[a],[]⟩:=by(unfold argsOk;kernel_rfl)
section
def tD{it S:Addr}{slot i n a:Nat}{P:PySem.Fin->Yx->Prop}{F:YA->Yx->Prop}(g:s.heap.get? it=some o)(hd:o.data=.fields #[.int slot 0,.int i 0,.ref S,.int n 0,.int a 0])
 (r:om s.heap S es a t) (j:t.fits es.size=true) (k:n=es.size)
 (h:wpAny (model prog w) A (setNext S slot i a) (λm b=>match m with
   |some (x,next)=>wpAny (model prog w) A (do setField (.ref it) 0 (rawInt next);setField (.ref it) 1 (rawInt (i+1));ret x) P F b
   |none=>wpAny (model prog w) A (do setField (.ref it) 2 .none;raiseNew (<- newExc (.type "StopIteration") [])) P F b) F s) :
 wpAny (model prog w) A (Builtin.«set_iterator.__next__» ⟨[.ref it],[]⟩) P F s:=by
 obtain⟨os,c,hex,d⟩:=r;unfold Builtin.«set_iterator.__next__» slotArgs;simp only[List.isEmpty_nil,Wz,U2,VH,Wq,XB];refine KE (UM ?_);refine KE (wpAny_fieldsOf g hd ?_);dsimp only;refine KE ?_;unfold setEntries;refine KE (VU c d j (UM ?_));dsimp only;rw[UV (by rw[k];simp)];simp only[WQ];refine KE (Wg h (λm b f=>?_) λ_ _ e=>e);cases m with
 |none=>exact f
 |some p=>obtain⟨x,next⟩:=p;exact f
def sn{it S:Addr}(hne:S≠it)(hh:A.handled=none){es:Array (Int×YA)}{ep:Nat}{t:SetTable}(T:rT t es)(hs:t.place.size<=t.mask)(hpl:t.plain=true)(hle:t.led=!byT w) :
 Walks prog w A it [it,S] [it] es.size (λi v=>((kz w S ep es)[i]?).map (·.2)=some v) (λi h=>SetIt h it S (dJ w t i) i es.size ep/\om h S es ep t) where
 sub:=λb hb=>by simp at hb;simp[hb]
 frame:=λi h h' st hk=>by obtain⟨⟨o,h1,r1⟩,⟨o2,h2,r2⟩⟩:=st;exact⟨⟨o,hk it (by simp) o h1,r1⟩,⟨o2,hk S (by simp) o2 h2,r2⟩⟩
 item:=λi s Q E hi st hQ=>by
  obtain⟨x1,x2⟩:=st;have hT:=x1.typeIs;obtain⟨o,ho,hc,hd⟩:=x1;have x2':=x2;obtain⟨o2,ho2,hex2,hd2⟩:=x2;unfold pyNext;refine KE (wpAny_attempt (Wb (name:=Str.ofString "__next__") hT slot_setiter_next (Vy slot_setiter_next hT gZ ?_ (iC _))));refine tD ho hd x2' (rT.fits T hs) rfl (qN x2' T hs hpl hle (by lia) ?_);have hio:i<(kz w S ep es).size:=by rw[mT];exact hi
  have e1:(kz w S ep es)[i]?=some (kz w S ep es)[i]:=by simp[hio]
  rw[e1];show wpAny _ _ _ _ _ _;refine KE (X_ ho hd (by simp) ?_);have d1:=Obj.data_mapFields hd (·.setIfInBounds 0 (rawInt ((dJ w t (i+1):Nat):Int)));have ho1:=VR (Obj.mapFields (·.setIfInBounds 0 (rawInt ((dJ w t (i+1):Nat):Int)))) ho (Obj.isFreed_of_fields d1);refine KE (X_ (s:={s with heap:=_}) ho1 d1 (by simp) ?_);have d2:=Obj.data_mapFields d1 (·.setIfInBounds 1 (rawInt ((i:Int)+1)));have ho3:=VR (Obj.mapFields (·.setIfInBounds 1 (rawInt ((i:Int)+1)))) ho1 (Obj.isFreed_of_fields d2);have sb:=(Vv s.heap it (Obj.mapFields (·.setIfInBounds 0 (rawInt ((dJ w t (i+1):Nat):Int))))).trans (Vv _ it (Obj.mapFields (·.setIfInBounds 1 (rawInt ((i:Int)+1)))));refine UM ⟨_,rfl,UM ?_⟩;refine hQ _ _ s.toks (by rw[e1];rfl) ⟨⟨_,ho3,?_,?_⟩,o2,(sb.2 S hne).trans ho2,hex2,hd2⟩ (λb o hb e=>(sb.2 b (λz=>hb (by simp[z]))).trans e)
  .exact(Obj.cls_mapFields ..).trans ((Obj.cls_mapFields ..).trans hc)
  .rw[d2];simp[rawInt]
 done:=λs Q E st hQ=>by
  obtain⟨x1,x2⟩:=st;have hT:=x1.typeIs;obtain⟨o,ho,hc,hd⟩:=x1;unfold pyNext;refine KE (wpAny_attempt (Wb (name:=Str.ofString "__next__") hT slot_setiter_next (Vy slot_setiter_next hT gZ ?_ (iC _))));refine tD ho hd x2 (rT.fits T hs) rfl (qN x2 T hs hpl hle (UN _) ?_);have e1:(kz w S ep es)[es.size]?=none:=by simp[mT]
  rw[e1];show wpAny _ _ _ _ _ _;refine KE (X_ ho hd (by simp) ?_);refine KE ?_;simp only[newExc,newTuple];refine KE (Vz ?_ (by size_fits));refine KE (m:=firstArgMember _ _) (wpAny_of_eq (a:=Value.none) (by first|rfl|(simp only[firstArgMember];rfl)) ?_);refine Vz ?_ (by size_fits);simp only[raiseNew];refine KE (wpAny_handled ?_);rw[show A.in1.handled=none from hh];refine KE (UM (wpAny_throw ?_));refine KE (wpAny_isInstance (T:="StopIteration") (b:=true) ⟨_,UU _ rfl,rfl⟩ isSubtype_stop ?_);refine UM (hQ _ s.toks λb o hb e=>?_);exact RW _ (RW _ (((Vv ..).2 b (λz=>hb (by simp[z]))).trans e))
 self:=λ_ _ _ _ st hQ=>by refine XC st.1.typeIs iD (Vy iD st.1.typeIs mv ?_ (mU _));exact UM ⟨_,rfl,"set_iterator",_,st.1.typeIs,slot_setiter_next.lookup,hQ⟩
end
section
def yA(r:om s.heap S es ep t)(b:t.fits es.size=true)(c:t.plain=true)
 (h:Q (.ref s.heap.objs.size) { s with heap:=s.heap.push { cls:=.type "set_iterator",data:=.fields #[.int 0 0,.int 0 0,.ref S,.int es.size 0,.int ep 0] } }):wpAny (model prog w) A (pyIter (.ref S)) Q E s:=by
 obtain⟨o,a,hex,hd⟩:=r;have d:s.TypeIs (.ref S) "set":=⟨o,a,hex.1⟩;refine XC d PySem.F.slot_set_iter (Vy PySem.F.slot_set_iter d sk ?_ (PySem.F.args_set_iter_1 _));unfold Builtin.«frozenset.__iter__» Builtin.Frozenset.slot0 slotArgs;simp only[List.isEmpty_nil,Wz,U2,↓reduceIte,bind_assoc,Wq,XB];unfold Builtin.Frozenset.addrOf Builtin.Frozenset.sizeOf setEntries;refine KE (UM (KE (UM ?_)));simp only[bind_assoc];refine KE (VU a hd b (KE (UM (KE (UM ?_)))));refine KE ?_;unfold setDrawn;refine KE (VU a hd b ?_);dsimp only;refine KE (yz (UM ?_));show wpAny _ _ (if(!byT w&&(!t.plain&&decide (es.size>1)))=true then _ else _) _ _ _;rw[c];simp only[Wz,X8,X9,U2,VH];refine KE (UM ?_);refine KE (wpAny_setEpoch_of a hd b ?_);exact KE (Vz (UM ⟨_,rfl,"set_iterator",_,⟨_,UU _ rfl,rfl⟩,slot_setiter_next.lookup,h⟩))
def Dt(a:s.TypeIs (.ref S) "set") (h:Q false s):wpAny (model prog w) A (Builtin.List.listLengthHint (.ref S)) Q E s:=by
 unfold Builtin.List.listLengthHint;refine KE (wpAny_specialOf a PySem.F.slot_set_len.lookup ?_);dsimp only;have b:splitId "set.__len__"=some ("set","__len__"):=by decide +kernel
 rw[b];dsimp only;refine KE (wpAny_isInstance a sub_set_self ?_);simp only[Wz,U2,VH];rw[UP (by decide +kernel)];refine KE (XN a ?_);exact UM h
def we(r:om s.heap S es ep t)(T:rT t es)(hs:t.place.size<=t.mask)(k:t.plain=true)(x:t.led=!byT w)(K:A.handled=none)(hz:es.size<=300)
 (h:∀h' tk,s.heap.objs.size<h'.objs.size->(∀b o,s.heap.get? b=some o->h'.get? b=some o)->Q ((kz w S ep es).toList.map (·.2)) {s with heap:=h',toks:=tk}):wpAny (model prog w) A (collect (.ref S)) Q E s:=by
 have L:=rT.fits T hs;obtain⟨o,y,hex,hd⟩:=r;have g:S<s.heap.objs.size:=UX y;unfold collect;refine KE (wpAny_runValue (Wr entry_proto_collect' (show wpAny _ _ (do again (.builtin "list.__iadd__" ⟨[<- newList [],.ref S],[]⟩)) _ _ s from ?_)));refine KE (wpAny_newList (UM ⟨Code.quiet_builtin _ (by decide +kernel),Wr entry_list_iadd' ?_⟩));show wpAny _ _ (Builtin.List.listExtendWith (.ref s.heap.objs.size) (.ref S) (.ref s.heap.objs.size)) _ _ { s with heap:=s.heap.push (seqObj "list" #[] 0) };have j:(s.heap.push (seqObj "list" #[] 0)).get? S=some o:=RW _ y;have z:Shared.TypeIs { s with heap:=s.heap.push (seqObj "list" #[] 0) } (.ref S) "set":=⟨o,j,hex.1⟩;unfold Builtin.List.listExtendWith;refine KE (XN z ?_);have q1:Builtin.List.listSameRef (.ref s.heap.objs.size) (.ref S)=false:=by simp[Builtin.List.listSameRef,Xo g]
 have q2:(Value.type "set"==Value.type "list")=false:=by decide
 have M:(Value.type "set"==Value.type "tuple")=false:=by decide
 simp only[q1,q2,M,Bool.or_false,U2,VH];refine KE (yA ⟨o,j,hex,hd⟩ L k ?_);have B:Shared.TypeIs { s with heap:=(s.heap.push (seqObj "list" #[] 0)).push { cls:=.type "set_iterator",data:=.fields #[.int 0 0,.int 0 0,.ref S,.int es.size 0,.int ep 0] } } (.ref S) "set":=⟨o,RW _ j,hex.1⟩;refine KE (VI (Dt B ?_));rw[UP (by decide +kernel)];refine KE (X0 ?_);have l:((s.heap.push (seqObj "list" #[] 0)).push { cls:=.type "set_iterator",data:=.fields #[.int 0 0,.int 0 0,.ref S,.int es.size 0,.int ep 0] }).get? s.heap.objs.size=some (seqObj "list" #[] 0):=RW _ (UU _ rfl);refine KE (show wpAny _ _ (updateSeq s.heap.objs.size (·.push .none) >>= λ_=>updateSeq s.heap.objs.size (·.pop)) _ _ _ from ?_);refine KE (Xv l rfl ?_);have m:=VR (Obj.mapSeq (·.push Value.none)) l rfl;refine Xv (hz:=by seq_fits) m rfl ?_;have C:=VR (Obj.mapSeq (·.pop)) m rfl;generalize N:(((s.heap.push (seqObj "list" #[] 0)).push { cls:=.type "set_iterator",data:=.fields #[.int 0 0,.int 0 0,.ref S,.int es.size 0,.int ep 0] }).update s.heap.objs.size (Obj.mapSeq (·.push Value.none))).update s.heap.objs.size (Obj.mapSeq (·.pop))=D at *;have n:∀b o,b≠s.heap.objs.size->((s.heap.push (seqObj "list" #[] 0)).push { cls:=.type "set_iterator",data:=.fields #[.int 0 0,.int 0 0,.ref S,.int es.size 0,.int ep 0] }).get? b=some o->D.get? b=some o:=λb o J e=>by rw[<- N];exact(Vh _ _ (V2 J)).trans ((Vh _ _ (V2 J)).trans e)
 have old:∀b o,s.heap.get? b=some o->D.get? b=some o:=λb o e=>n b o (U9 (UX e)) (RW _ (RW _ e));have d:(s.heap.push (seqObj "list" #[] 0)).objs.size=s.heap.objs.size+1:=size_push' _ _;have G:D.get? (s.heap.objs.size+1)=some { cls:=.type "set_iterator",data:=.fields #[.int 0 0,.int 0 0,.ref S,.int es.size 0,.int ep 0] }:=n _ _ (by lia) (by rw[<- d];exact UU _ rfl);refine UM ⟨WY PySem.F.plain_extend_loop _,?_⟩;show codeAny _ _ (.builtin "list.extend.loop" ⟨[.ref s.heap.objs.size,.ref (s.heap.push (seqObj "list" #[] 0)).objs.size,.ref s.heap.objs.size],[]⟩) _ _;rw[d];have W:Walks prog w A.in1 (s.heap.objs.size+1) [s.heap.objs.size+1,S] [s.heap.objs.size+1] es.size (λi v=>((kz w S ep es)[i]?).map (·.2)=some v) (λi h=>SetIt h (s.heap.objs.size+1) S (dJ w t i) i es.size ep/\om h S es ep t):=sn (U9 (WU g)) (by simp[K]) T hs k x;refine codeAny_extend_loopS W.toS (by rw[Vk];lia) s.heap.objs.size (by simp only[US,U0,Yw,not_or];exact⟨U9 (WH _),Xo g⟩) _ es.size 0 _ #[] _ rfl (Vo _) ⟨⟨_,G,rfl,rfl⟩,o,old S o y,hex,hd⟩ (by rw[C];rfl) (ItemsOf.nil _) λO a c q p f=>?_;obtain⟨h',g',d',H,I⟩:=O;have P:g'=s.gens:=q.gens;have R:d'=s.drawn:=q.drawn;have U:I=s.os:=q.os;subst P R U;refine KE (wpAny_load p ?_);have V:a.toList=(kz w S ep es).toList.map (·.2):=by
  apply XD
  intro i;by_cases u:i<a.size
  .have e1:a.toList[i]?=some a[i]:=by rw[Vg];simp[u]
   have e2:=f.2 i a[i] (by simp[u]);rw[e1,U7,Vg];exact e2.symm
  .rw[Ws (by simpa using Nat.le_of_not_lt u),Ws];rw[UO,VD,mT,<- f.1];exact Nat.le_of_not_lt u
 show wpAny _ _ (pure a.toList) _ _ _;rw[V];refine UM (h h' H (UX p) λb o e=>q.heap b o ?_ (old b o e));have:=UX e;simp only[US,U0,Yw,not_or];exact⟨U9 this,U9 (WU this)⟩
end
noncomputable def dL:List Int->List Int->Bool
 |[],[]=>false
 |[],_::_=>true
 |_::_,[]=>false
 |a::x,b::y=>if a=b then dL x y else decide (a<b)
theorem mV:∀a:List Int,dL a a=false
 |[]=>rfl
 |a::x=>by unfold dL;rw[UP rfl];exact mV x
theorem uw:∀a b c:List Int,dL a b=true->dL b c=true->dL a c=true
 |[],[],_,h,_=>by cases h
 |[],_::_,[],_,h=>by cases h
 |[],_::_,_::_,_,_=>rfl
 |_::_,[],_,h,_=>by cases h
 |_::_,_::_,[],_,h=>by cases h
 |a::x,b::y,c::z,h1,d=>by
  unfold dL at h1 d ⊢;by_cases e1:a=b
  .subst e1;rw[UP rfl]at h1;by_cases e2:a=c
   .subst e2;rw[UP rfl]at d ⊢;exact uw x y z h1 d
   .rw[UV e2]at d ⊢;exact d
  .grind
theorem ux:∀a b:List Int,a≠b->dL a b=true\/dL b a=true
 |[],[],h=>(h rfl).elim
 |[],_::_,_=>.inl rfl
 |_::_,[],_=>.inr rfl
 |a::x,b::y,h=>by
  unfold dL;by_cases e:a=b
  .subst e;rw[UP rfl,UP rfl];exact ux x y λz=>h (by rw[z])
  .grind
section
variable{prog:Yz}{w:World}{A:YB}{s:Yx}
theorem zN:∀{a b:List Int}{xs f:List YA}(i:Nat),ItemsAre (aI prog w) (iK a) xs->ItemsAre (aI prog w) (iK b) f->Q (dL a b) s->PySem.W.KatLex prog w A true (decide (xs.length<f.length)) Q (xs.zip f) i s
 |[],[],_,_,i,c,d,h=>by cases c;cases d;exact h
 |[],_::_,_,_,i,c,d,h=>by
  cases c;cases d with
  |cons h1 g=>exact PySem.W.kat_nil h
 |_::_,[],_,_,i,c,d,h=>by
  cases d;cases c with
  |cons h1 g=>exact PySem.W.kat_nil h
 |a::x,b::y,_,_,i,c,d,h=>by
  cases c with
  |@cons _ o _ l h1 j=>
   cases d with
   |@cons _ v2 _ m g k=>
    obtain⟨p,rfl⟩:=pQ h1;obtain⟨q,rfl⟩:=pQ g;rw[Xr];refine PySem.W.kat_cons (wpAny_eqBool_int ?_);unfold dL at h;by_cases e:a=b
    .subst e;rw[UP rfl]at h;rw[beq_self_eq_true];refine PySem.W.kat_yes ?_;have:=zN (i+1) j k h;simpa using this
    .rw[UV e]at h;have n:(a==b)=false:=by grind
     rw[n];refine PySem.W.kat_no ?_;cases i with
     |zero=>exact oneLt_int h
     |succ i=>exact PySem.W.kat_one _ _ (lt_int h)
structure sM(prog:Yz) (w:World) (h:Heap) (xs:List j3):Prop where
 is:∀x∈xs,(tK prog w).is h (iK x.1) x.2
 ne:∀x∈xs,x.1≠[]
 nd:(xs.map (·.1)).Nodup
noncomputable def valsT(xs:List j3):List YA:=xs.map λx=>Value.ref x.2
def iE(xs:List j3)(i:Nat):List Int:=((xs[i]?).getD ([],0)).1
def GN(t:sM prog w s.heap xs):Lt xs.length λi j=>dL (iE xs i) (iE xs j) where
 UJ:=λi=>mV _
 tr:=λi j k=>uw _ _ _
 UK:=λi j hi hj e=>ux _ _ λz=>by
  have gi:iE xs i=(xs.map (·.1))[i]'(by simpa using hi):=by simp[iE,hi]
  have gj:iE xs j=(xs.map (·.1))[j]'(by simpa using hj):=by simp[iE,hj]
  rw[gi,gj]at z;rcases Xt e with q|q
  .exact U8.mp t.nd i j (by simpa using hi) (by simpa using hj) q z
  .exact U8.mp t.nd j i (by simpa using hj) (by simpa using hi) q z.symm
def Du(t:sM prog w s.heap xs):GI xs.length (λi j=>dL (iE xs i) (iE xs j)) (kas_ask prog w A (tuples' true) (valsT xs)) s:=by intro i j C b c h;have one:∀k,k<xs.length->∃x,(valsT xs).getD k Value.none=.ref x.2/\iE xs k=x.1/\x∈xs:=λk a=>⟨xs[k],by simp[valsT,a],by simp[iE,a],Yo a⟩;obtain⟨x,ex,d,e⟩:=one i b;obtain⟨y,f,g,l⟩:=one j c;unfold kas_ask;rw[ex,f];obtain⟨u,ix,nx,m,v,n,o⟩:=t.is x e;obtain⟨z,B,D,p,E,q,r⟩:=t.is y l;refine PySem.W.kat_lt m n p q ?_;have h:C (dL (iE xs i) (iE xs j)) s:=h;rw[d,g]at h;have:=zN (A:=A) 0 o r h;simpa using this
theorem wf:∀{xs:List j3},(∀x∈xs,(tK prog w).is h (iK x.1) x.2)->(∀x∈xs,x.1≠[])->∃fs:List YA,PySem.W.KatTups h (valsT xs) fs/\fs.length=xs.length/\∀v∈fs,∃i t,v=Value.int i t
 |[],_,_=>⟨[],trivial,rfl,λv g=>nomatch g⟩
 |x::xs,h1,j=>by
  obtain⟨fs,a,b,c⟩:=wf (λy e=>h1 y (UT _ e)) λy e=>j y (UT _ e);obtain⟨o,ix,nx,m,p,q,f⟩:=h1 x UW;have d:=j x UW;obtain⟨k,r⟩:=x;dsimp only at d f m;cases k with
  |nil=>exact(d rfl).elim
  |cons n ns=>
   generalize u:ix.toList=l at f;cases f with
   |@cons _ v _ vs q1 q2=>
    obtain⟨t,rfl⟩:=pQ q1;refine⟨.int n t::fs,⟨⟨r,o,ix,nx,rfl,m,p,q,?_⟩,a⟩,by simp[b],λv g=>?_⟩
    .rw[<- Vg,u];rfl
    .grind
def A9(t:sM prog w s.heap xs)(d:0<xs.length)(h:Q (tuples' true) s):wpAny (model prog w) A (keyKind' (valsT xs).toArray) Q E s:=by
 obtain⟨fs,a,b,c⟩:=wf t.is t.ne;refine PySem.W.kat_kind (T:=.type "int") a (by lia) (λv e=>?_) (by decide) ?_
 .obtain⟨i,t,rfl⟩:=c v e;exact λA Q E s k q=>UM q
 .have:(Value.type "int" != Value.type "tuple")=true:=by decide
  rw[this];exact h
end
def kA{α:Type}(d:α)(xs:List α)(i:Nat):α:=(xs[i]?).getD d
section
variable{α β:Type}
def qO(d:α)(xs:List α):(List.range xs.length).map (kA d xs)=xs:=by
 apply XD
 intro i;rw[U7];by_cases h:i<xs.length
 .rw[List.getElem?_range h,VP h];simp[kA,h]
 .rw[Ws (by grind),Ws (by grind)];rfl
def tE(d:α)(pm:Pm xs.length p):(p.toList.map (kA d xs)).Perm xs:=by have:=List.Perm.map (kA d xs) pm;rw[qO]at this;exact this
def zO{r:α->α->Bool}(pm:Pm xs.length p)(so:So (λi j=>r (kA d xs i) (kA d xs j)) p xs.length):(p.toList.map (kA d xs)).Pairwise λx y=>r x y=true:=by
 rw[WS,U8];intro i j g h b;have c:i<p.size:=by grind
 have a:j<p.size:=by grind
 have:=so i j b (by rw[<- pm.size];exact a);dsimp only at this;have e:cN p i=p.toList[i]:=by simp[cN,Array.getD,c]
 have f:cN p j=p.toList[j]:=by simp[cN,Array.getD,a]
 rw[e,f]at this;exact this
def wg{f:α->β}{e:β}(d:α)(pm:Pm xs.length p):(p.toList.map λi=>(xs.map f).getD i e)=(p.toList.map (kA d xs)).map f:=by rw[Vb];refine V1 λi a=>?_;have a:i<xs.length:=Vp.mp (pm.mem_iff.mp a);simp[kA,a]
end
section
def sM.off(t:sM prog w h xs)(f:h.get? a=some o)(g:o.cls=.type "list") (k:∀b o,b≠a->h.get? b=some o->h'.get? b=some o):sM prog w h' xs:=by refine⟨λx i=>?_,t.ne,t.nd⟩;obtain⟨d,ix,nx,h1,c,r⟩:=t.is x i;refine⟨d,ix,nx,k x.2 d (λe=>?_) h1,c,r⟩;rw[e,f]at h1;cases h1;rw[g]at c;exact absurd c (by decide)
def wl{a:Addr}{n:Nat}{vs:List YA}{κ:SortKind}{lt:Nat->Nat->Bool}{P:PySem.Fin->Yx->Prop}(m:s.heap.get? a=some (seqObj "list" vs.toArray n)) (B:vs.length<64)
 (C:∀H,(∀b o,b≠a->s.heap.get? b=some o->H.get? b=some o)->2<=vs.length->(∀Q,Q κ {s with heap:=H}->wpAny (model prog w) A (keyKind' vs.toArray) Q E {s with heap:=H})/\Lt vs.length lt/\GI vs.length lt (kas_ask prog w A κ vs) {s with heap:=H})
 (h:∀p h' c,Pm vs.length p->So lt p vs.length->h'.get? a=some (seqObj "list" (p.toList.map λi=>vs.getD i Value.none).toArray c)->(∀b o,b≠a->s.heap.get? b=some o->h'.get? b=some o)->P (.done (.ret .none)) {s with heap:=h'}) :
 wpAny (model prog w) A (Builtin.«list.sort» ⟨[.ref a],[]⟩) P E s:=by
 rw[list_sort_plain];refine KE (listItems_at m rfl (KE (listUpdate_at m rfl ?_ (by rw[UZ,Vk];lia) (Vo _))));obtain⟨e1,q⟩ : ∃e1,(s.heap.update a (Obj.mapSeq λ_=>#[])).get? a=some (seqObj "list" #[] e1):=⟨_,get?_update_seq m (λ_=>#[])⟩;refine KE (seqEpoch_at q rfl (KE (wpAny_newTuple (KE (wpAny_newList (VI ?_) (Vo _))) (by show vs.length<=_;rw[Vk];lia))));have k:∀b o,b≠a->s.heap.get? b=some o->(((s.heap.update a (Obj.mapSeq λ_=>(#[]:Array YA))).push (seqObj "tuple" vs.toArray 0)).push (seqObj "list" #[] 0)).get? b=some o:=λb o y e=>RW _ (RW _ ((Vh _ _ (V2 y)).trans e));have d:(((s.heap.update a (Obj.mapSeq λ_=>(#[]:Array YA))).push (seqObj "tuple" vs.toArray 0)).push (seqObj "list" #[] 0)).get? a=some (seqObj "list" #[] e1):=RW _ (RW _ q);show wpAny (model prog w) A _ P E { s with heap:=((s.heap.update a (Obj.mapSeq λ_=>(#[]:Array YA))).push (seqObj "tuple" vs.toArray 0)).push (seqObj "list" #[] 0) };generalize(((s.heap.update a (Obj.mapSeq λ_=>(#[]:Array YA))).push (seqObj "tuple" vs.toArray 0)).push (seqObj "list" #[] 0))=r at d k;dsimp only;have t:∀(p:Array Nat)(out:Array YA),Pm vs.length p->So lt p vs.length->out=(p.toList.map λi=>vs.getD i Value.none).toArray->P (.done (.ret .none)) {s with heap:=r.update a (Obj.mapSeq λ_=>out)}:=λp out D F m=>by subst m;exact h p _ _ D F (get?_update_seq d λ_=>(p.toList.map λi=>vs.getD i Value.none).toArray) λb o y e=>(Vh _ _ (V2 y)).trans (k b o y e)
 by_cases u:vs.toArray.size<2
 .rw[UP u,UP u];refine KE (UM ?_);rw[StateT.run_pure];have l:vs.length<2:=by grind
  have j:Array.map (λx:Keyed=>x.2) (vs.toArray.zip vs.toArray)=vs.toArray:=by apply Array.ext';simp[List.map_snd_zip]
  refine KE (UM ?_);dsimp only;refine KE (seqEpoch_at d rfl (KE (listUpdate_at d rfl ?_ (Vo _) ?_)))
  .simp only[XB,U2,VH];refine UM (t (List.range vs.length).toArray _ (WD _) (λa b h1 u=>by lia) (j.trans ?_));rw[show(λi=>vs.getD i Value.none)=kA Value.none vs from funext λi=>by simp[kA]];show _=(List.map _ (List.range vs.length)).toArray;rw[qO]
  .show(Array.map (λx:Keyed=>x.2) (vs.toArray.zip vs.toArray)).size<=_;rw[j,UZ,Vk];lia
 .rw[UV u,UV u];have l:2<=vs.length:=by grind
  obtain⟨k1,k2,k3⟩:=C r k l;refine KE (k1 _ ?_);refine KE (Wg (PySem.W.kat_run (s:={s with heap:=r}) (Q:=λf v=>v={s with heap:=r}/\∃p:Array Nat,Pm vs.length p/\So lt p vs.length/\arrOf f=p.map (PySem.W.kas_item (vs.toArray.zip vs.toArray))/\failedOf f=none)
   (G:=λp v=>v={s with heap:=r}/\Pm vs.length p/\So lt p vs.length) rfl (by lia) (by lia) (λp f v _ I J g=>⟨g.1,p,g.2.1,g.2.2,I,J⟩) ?_) ?_ λ_ _ e=>e)
  .exact GJ k2 k3 l λp pm so=>⟨rfl,pm,so⟩
  .rintro⟨⟨⟩,f⟩ v ⟨rfl,p,pm,so,z,K⟩;dsimp only;rw[PySem.W.kat_snds rfl z];refine KE (seqEpoch_at d rfl (KE (listUpdate_at d rfl ?_ (Vo _) ?_)))
   .rw[K];simp only[XB,U2,VH];exact UM (t _ _ pm so rfl)
   .have:=pm.size;simp[this];rw[Vk];lia
def A_(m:s.heap.get? a=some (seqObj "list" (valsT xs).toArray n)) (t:sM prog w s.heap xs) (u:xs.length<64)
 (h:∀f h' c,f.Perm xs->f.Pairwise (λx y=>dL x.1 y.1=true)->h'.get? a=some (seqObj "list" (valsT f).toArray c)->(∀b o,b≠a->s.heap.get? b=some o->h'.get? b=some o)->P (.done (.ret .none)) {s with heap:=h'}) :
 wpAny (model prog w) A (Builtin.«list.sort» ⟨[.ref a],[]⟩) P E s:=by
 have d:(valsT xs).length=xs.length:=by simp[valsT]
 refine wl (κ:=tuples' true) (lt:=λi j=>dL (iE xs i) (iE xs j)) m (by lia) (λH g v=>?_) λp h' c pm so e k=>?_
 .have l:sM prog w H xs:=t.off m rfl g;rw[d];exact⟨λQ q=>A9 (s:={s with heap:=H}) l (by lia) q,GN (s:={s with heap:=H}) l,Du (s:={s with heap:=H}) l⟩
 .rw[d]at pm so;exact h (p.toList.map (kA ([],0) xs)) h' c (tE _ pm) (zO (r:=λx y=>dL x.1 y.1) pm so) (by rw[e];unfold valsT;rw[wg ([],0) pm]) k
def mW(prog:Yz)(w:World)(N:Nat):Prop:=∀(A:YB)(E:YA->Yx->Prop)(s:Yx)(a:Addr)(n:Nat)(xs:List j3)(P:PySem.Fin->Yx->Prop),s.heap.get? a=some (seqObj "list" (valsT xs).toArray n)->sM prog w s.heap xs->xs.length<=N->
 (∀d h' c,d.Perm xs->d.Pairwise (λx y=>dL x.1 y.1=true)->h'.get? a=some (seqObj "list" (valsT d).toArray c)->(∀b o,b≠a->s.heap.get? b=some o->h'.get? b=some o)->P (.done (.ret .none)) {s with heap:=h'})->wpAny (model prog w) A (Builtin.«list.sort» ⟨[.ref a],[]⟩) P E s
def zP:mW prog w 63:=λ_ _ _ _ _ _ _ a t hz h=>A_ a t (by lia) h
end
section
variable{κ μ:Type}{its:List (κ×μ)}
theorem wn:∀(l:List (Int×YA)),(∀e∈l,∃x∈its,e=ent x)->∃a:List (κ×μ),l=a.map ent/\∀z∈a,z∈its
 |[],_=>⟨[],rfl,λz hz=>nomatch hz⟩
 |e::l,h=>by
  obtain⟨x,b,rfl⟩:=h e UW;obtain⟨a,h1,c⟩:=wn l λe d=>h e (UT _ d);exact⟨x::a,by rw[h1];rfl,λz hz=>by
   rcases US.mp hz with rfl|hz
   .exact b
   .exact c z hz⟩
structure xQ(lt:κ->κ->Prop) (its ys:List (κ×μ)):Prop where
 sub:∀y∈ys,y∈its
 all:∀x∈its,∃y∈ys,y.1=x.1
 pw:ys.Pairwise λx y=>lt x.1 y.1
def K_(prog:Yz)(w:World)(f:Heap)(ent:κ×μ->Int×YA)(lt:κ->κ->Prop)(its:List (κ×μ)) (N:Nat):Prop:=∀(A:YB)(E:YA->Yx->Prop)(s:Yx)(a:Addr)(n:Nat)(d:List (κ×μ))(P:PySem.Fin->Yx->Prop),(∀b o,f.get? b=some o->s.heap.get? b=some o)->s.heap.get? a=some (seqObj "list" (d.map λz=>(ent z).2).toArray n)->(∀z∈d,z∈its)->(d.map (·.1)).Nodup->d.length<=N->
 (∀(e:List (κ×μ)) h' c,e.Perm d->e.Pairwise (λx y=>lt x.1 y.1)->h'.get? a=some (seqObj "list" (e.map λz=>(ent z).2).toArray c)->(∀b o,b≠a->s.heap.get? b=some o->h'.get? b=some o)->P (.done (.ret .none)) {s with heap:=h'})->wpAny (model prog w) A (Builtin.«list.sort» ⟨[.ref a],[]⟩) P E s
def mX(sa:SetAt w s.heap S es)(v:kf ent es its)(un:GL ent its)(I:A.handled=none)(hN:N<=300)(hs:K_ prog w s.heap ent lt its N)(hz:its.length<=N)
 (h:∀(f:List (κ×μ)) h' tk l c,xQ lt its f->f.length<=N->s.heap.objs.size<=l->h'.get? l=some (seqObj "list" (f.map λz=>(ent z).2).toArray c)->(∀b o,s.heap.get? b=some o->h'.get? b=some o)->Q (.ref l) {s with heap:=h',toks:=tk}) :
 wpAny (model prog w) A (call (.builtin "sorted") [.ref S]) Q E s:=by
 obtain⟨o,k,t,J,hex,hd,T,sp,n,p⟩:=sa;have q:=wd w S k es;have K:=v.sz;obtain⟨d,j,g⟩:=wn (ent:=ent) (its:=its) (kz w S k es).toList λe L=>v.el e (q.mem_iff.mp L);have M:(kz w S k es).toList.map (·.2)=d.map λz=>(ent z).2:=by rw[j,Vb];rfl
 have r:d.length=es.size:=by have:=Wo List.length j;rw[UO,VD,mT]at this;exact this.symm
 have nd:(d.map (·.1)).Nodup:=by have pw:=(q.pairwise_iff (λ{x y} u a b e1 e2 O P z=>u b a e2 e1 P O z.symm)).mpr v.pw;rw[j,WS]at pw;unfold List.Nodup;rw[WS];exact WT (λ{a b} ha R B=>B a b rfl rfl (g a ha) (g b R)) pw
 refine Calls.call_function_entry kind_sorted plain_sorted entry_sorted (args_sorted1 _) ?_;unfold Builtin.«sorted»;refine KE (m:=checkCount "sorted" 1 1 _) (UM (KE (we ⟨o,J,hex,hd⟩ T (jc sp) n p (by simp[I]) (by lia) λh1 tk1 g1 k1=>?_)));rw[M];refine KE (wpAny_newList ?_ (by rw[UO,r,Vk];lia));have i:(h1.push (seqObj "list" (d.map λz=>(ent z).2).toArray 0)).get? h1.objs.size=some (seqObj "list" (d.map λz=>(ent z).2).toArray 0):=UU _ rfl;have F:∀b o,s.heap.get? b=some o->(h1.push (seqObj "list" (d.map λz=>(ent z).2).toArray 0)).get? b=some o:=λb o e=>RW _ (k1 b o e);have ge:s.heap.objs.size<=h1.objs.size:=XH g1;refine KE (VI (Vy slot_list_sort ⟨_,i,rfl⟩ entry_list_sort (hs _ _ { s with heap:=h1.push (seqObj "list" (d.map λz=>(ent z).2).toArray 0),toks:=tk1 } _ _ d _ F i g nd (by lia) λf U V C W D k2=>⟨_,rfl,?_⟩) (args_list_sort _)));refine UM ⟨_,rfl,h f U tk1 _ V ⟨λy X=>g y (C.mem_iff.mp X),λx Y=>?_,W⟩ (by rw[C.length_eq];lia) ge D λb o e=>k2 b o (λz=>?_) (F b o e)⟩
 .obtain⟨y,Z,y2,y3⟩:=v.all x Y;have G:=q.mem_iff.mpr y3;rw[j]at G;obtain⟨z,H,z2⟩:=UY.mp G;exact⟨z,C.mem_iff.mpr H,(un z (g z H) y Z z2).trans y2⟩
 .subst z;exact absurd (UX e) (Nat.not_lt.mpr ge)
end
def TupsIn(H:Hp):List V->List j3->Prop:=Paired λv x=>v=.ref x.2/\H x.2=some (.tup ((iK x.1).map kV))
theorem TupsIn.get(t:TupsIn H vs its)(d:Vals vs us):its.length=us.length/\(∀(i:Nat)(v:YA),us[i]?=some v->∃x:j3,its[i]?=some x/\v=.ref x.2)/\∀x∈its,H x.2=some (.tup ((iK x.1).map kV)):=by
 unfold TupsIn at t;induction t generalizing us with
 |nil=>cases d;exact⟨rfl,λi v e=>by simp at e,λx hx=>nomatch hx⟩
 |@cons v y vs its q t f=>
  cases d with
  |@cons _ u _ us r s=>
   obtain⟨a,b,c⟩:=f s;obtain⟨rfl,q⟩:=q;obtain rfl:u=Value.ref y.2:=r;refine⟨by simp[a],λi v e=>?_,λx hx=>?_⟩
   .cases i with
    |zero=>simp at e;exact⟨y,rfl,e.symm⟩
    |succ i=>exact b i v e
   .rcases US.mp hx with rfl|hx
    .exact q
    .exact c x hx
section
def Ba(g:X.calm=true)(D:X.A.units+64<cLine):CallR X (.type "set") (λxs H Q=>∃l vs its,xs=[.ref l]/\Rd H l (.lst vs)/\TupsIn H vs its/\vs.length<=300/\
 ∀p es,H p=none->kf (eT X.prog X.w) es its->Q (.ref p) (aP H p (.ext λh=>SetAt X.w h p es))):=by
 intro ac s σ H xs us Q I r h;obtain⟨l,vs,its,rfl,j,m,hz,q⟩:=h;obtain⟨u,rfl,t⟩:=fM r;obtain rfl:u=Value.ref l:=t;obtain⟨_,us,n,d,y⟩:=(show ObjOk X.prog X.w H s.heap l (.lst vs)from j.ok I.aU);obtain⟨g1,g2,g3⟩:=m.get d;have c:=λx z=>fT I.aU (g3 x z);refine tz (ent:=eT X.prog X.w) (I.ok.hd g) y (its:=its) (by grind) (by rw[UZ,<- d.length];exact hz) (λi v e=>g2 i v (by grind)) (OK c) (GM (by show X.A.units+1+1+1<cLine;lia) c) λh' tk es f v B=>?_;have C:H s.heap.objs.size=none:=I.aU.fresh (UN _);refine⟨.ref s.heap.objs.size,_,I.laid (a:=s.heap.objs.size) (o:=.ext λh=>SetAt X.w h s.heap.objs.size es) (t':=tk) (λb o e=>B b o (UX e) e) (UN _) ?_,rfl,q _ es C v⟩;exact⟨f,(let ⟨o,_,_,e,_⟩:=f;⟨o,e⟩),λh1 E hs k=>SetAt.keep hs k⟩
def uy(m:X.calm=true)(t:N<=300)(hs:mW X.prog X.w N):CallR X (.builtin "sorted") (λxs H Q=>∃p es its,xs=[.ref p]/\H p=some (.ext λh=>SetAt X.w h p es)/\kf (eT X.prog X.w) es its/\(∀x∈its,H x.2=some (.tup ((iK x.1).map kV)))/\(∀x∈its,x.1≠[])/\its.length<=N/\
 ∀l b,H l=none->xQ (λx y=>dL x y=true) its b->Q (.ref l) (aP H l (.lst (b.map λy=>.ref y.2)))):=by
 intro ac s σ H xs us Q I r h;obtain⟨p,es,its,rfl,z,v,B,g,hz,q⟩:=h;obtain⟨u,rfl,C⟩:=fM r;obtain rfl:u=Value.ref p:=C;obtain⟨D,_,_⟩:=(show ObjOk X.prog X.w H s.heap p (.ext λh=>SetAt X.w h p es)from I.aU p _ z);have d:=λx e=>fT I.aU (B x e);refine mX D v (OK d) (I.ok.hd m) t (lt:=λx y=>dL x y=true) (λA E s a n F P G J j nd hz h=>hs A E s a n F P J ⟨λx e=>pN (d x (j x e)) G,λx e=>g x (j x e),nd⟩ hz h) hz λb h' tk l c so i f k K=>?_;refine⟨.ref l,_,I.laid (a:=l) (o:=.lst (b.map λy=>.ref y.2)) (t':=tk) K f ⟨by rw[UO,Vk];lia,_,c,?_,k⟩,rfl,q l b (I.aU.fresh f) so⟩;clear so k i;induction b with
 |nil=>exact .nil
 |cons y b L=>exact .cons rfl L
end
end L2
namespace L2
open PySem PySem.Spec PySem.Calls PyProof.Rows ST
section
def GO(T:rT t es)(sp:lT t)(h:Int)(x:YA):∃j,j∉t.place.toList/\j<=t.mask/\Rea t.mask (·∈ t.place.toList) h j/\layNew t es h x=(SetTable.insertAt es (t.put j).2 (h,x),(t.put j).1,false,false):=by
 have hs:=jc sp;have pr:=qI T.tb hs (λ_=>h+1) h (Va.st t.mask h);have c:t.probeStart h=st t.mask h:=rfl;generalize l:t.probe (λ_=>h+1) h (st t.mask h)=m at pr;cases pr with
 |ca n i o e q b=>exact absurd q (by lia)
 |em n e b=>
  have f:Rea t.mask (·∈ t.place.toList) h (it t.mask n (st t.mask h)).j:=⟨n,rfl,λk p=>by obtain⟨i,o,q,_⟩:=b k p;show _∈t.place.toList;rw[<- q];simp⟩;have a:(it t.mask n (st t.mask h)).j<=t.mask:=((Va.st t.mask h).it).T_;refine⟨_,e,a,f,?_⟩;obtain⟨r,em,u⟩:=yu T e a (v:=x) f;have s:(t.put (it t.mask n (st t.mask h)).j).2<=es.size:=by rw[pP,<- T.len];exact(dI _ T.tb.xK).1
  have d:(t.put (it t.mask n (st t.mask h)).j).1.place.size<=(t.put (it t.mask n (st t.mask h)).j).1.mask:=by grind [lT]
  have g:=rT.fits r d;unfold layNew SetTable.freeSlot;rw[c,l];dsimp only[Option.getD,Option.isSome];unfold SetTable.orStandIn;rw[UP g,g];rfl
def Bb(d:xU m)(f:SetTable.sizeAbove n=m+1)(c:es.size<=m):∃b t',relayAll t es n=(b,t',false)/\Laid m es b t'/\t'.led=t.led/\t'.plain=t.plain:=by
 obtain⟨t',a,e,L,h1,g,h⟩:=wb d es c t.finger (t.movedTo m) t.led t.plain;refine⟨_,t',?_,L,h1,g⟩;have i:t.relaid (es.map (·.1)) n=some (t',a):=by unfold SetTable.relaid;rw[f];exact e
 unfold relayAll;rw[i];dsimp only;have j:coversAll a es.size=true:=by unfold coversAll;exact List.isPerm_iff.mpr h
 have k:t'.fits (a.filterMap (es[·]?)).size=true:=rT.fits L.xL (by rw[L.xL.len,L.mask,L.size];exact c);rw[j,k];rfl
end
section
def GP(N:SetAt w s.heap a es)(el:ElemsOf (intKind prog w) es.toList)(hz:es.size+1<=300)
 (h1:∀tk,s.toks<=tk->(∃e∈es.toList,(intKind prog w).is i e.2=true)->Q false {s with toks:=tk})
 (F:∀tk h' c,s.toks<=tk->(∀e∈es.toList,(intKind prog w).is i e.2=false)->Heap.SameBut a s.heap h'->SetAt w h' a c->pD es c ((intKind prog w).hash i,.int i t0)->Q true {s with heap:=h',toks:=tk}) :
 wpAny (model prog w) A (setAdd a (.int i t0)) Q E s:=by
 obtain⟨o,ep,t,q,hex,hd,T,sp,r,u⟩:=N;have G:=rT.fits T (jc sp);have H:=intKind_is prog w i t0;have n:(Value.int i t0).scannable=true:=rfl;unfold setAdd;refine VI ?_;refine KE ((intKind prog w).pyHash (k:=i) H ?_);have f:s.toks<=s.toks+1:=Nat.le_succ _;generalize s.toks+1=tk at f;unfold setAddHashed setAddHashedIn;refine VI (KE (VU (s:={s with toks:=tk}) q hd G ?_));dsimp only;rw[byScan_of n (by unfold scanBound;lia) el];simp only[Wl];unfold setAddByScan;refine KE ?_;refine KE (X0 ?_);refine KE (wpAny_setScan_of (s:={s with toks:=tk}) H q hd G el ?_);cases I:List.findIdx? (λe=>(intKind prog w).is i e.2) es.toList with
 |some j=>dsimp only;obtain⟨x,y,_⟩:=List.findIdx?_eq_some_iff_getElem.mp I;exact UM (UM (h1 tk f ⟨_,Yo x,y⟩))
 |none=>
  dsimp only;have h:∀e∈es.toList,(intKind prog w).is i e.2=false:=λe O=>by have:=List.findIdx?_eq_none_iff.mp I e O;simpa using this
  obtain⟨j,x,z,P,p⟩:=GO T sp ((intKind prog w).hash i) (.int i t0);obtain⟨J,em,K⟩:=yu T x z (v:=Value.int i t0) P;have d:(t.put j).1.plain=true:=by rw[mS T.tb];exact r
  have l:(t.put j).1.led=!byT w:=by rw[mS T.tb];exact u
  rw[p];dsimp only;refine KE (show wpAny _ _ (pure ()) _ _ _ from UM ?_);rw[d];simp only[Wl];rw[hashByValue_scannable 8 n];refine KE (UM ?_);rw[show plainKind (Value.int i t0)=true from rfl];simp only[Wl];have R:(t.put j).2<=es.size:=by rw[pP,<- T.len];exact(dI j T.tb.xK).1
  have g:=tq es (t.put j).2 ((intKind prog w).hash i,Value.int i t0) R;refine KE (XA (s:={s with toks:=tk}) q hd ?_ (by rw[g.size,Vk];lia));obtain⟨o1,q1,q2,B⟩:=lr (SetTable.insertAt es (t.put j).2 ((intKind prog w).hash i,Value.int i t0)) (t.put j).1 q hex hd;have M:=Vv s.heap a (Obj.putSet (SetTable.insertAt es (t.put j).2 ((intKind prog w).hash i,Value.int i t0)) (t.put j).1);have fill:(t.put j).1.fill=es.size+1:=by unfold SetTable.fill;rw[J.tb.Of,K,T.len];rfl
  by_cases b:(t.put j).1.tooFull=true
  .rw[b];simp only[Bool.not_false,XZ,Wl];unfold SetTable.tooFull at b;rw[fill,em]at b;have b:(es.size+1)*5>=t.mask*3:=by simpa using b
   have C:es.size*5<t.mask*3:=by rw[<- T.len];exact sp
   obtain⟨m,S,U,V⟩:=qL T.tb.gm C b hz;rw[g.size];obtain⟨c,t',D,L,W,X⟩:=Bb (t:=(t.put j).1) (es:=SetTable.insertAt es (t.put j).2 ((intKind prog w).hash i,Value.int i t0)) U S (by rw[g.size];lia);rw[D];dsimp only;refine KE (show wpAny _ _ (pure ()) _ _ _ from UM ?_);refine KE (XA q1 B ?_ (by rw[L.size,g.size,Vk];lia));obtain⟨Y,Z,r2,r3⟩:=lr c t' q1 q2 B;refine UM (UM (F tk _ c f h (M.trans (Vv _ a _)) ⟨Y,_,_,Z,r2,r3,L.xL,?_,by rw[X];exact d,by rw[W];exact l⟩ (g.laid L)));unfold lT;rw[L.xL.len,L.mask,L.size,g.size];exact V
  .have b:(t.put j).1.tooFull=false:=by simpa using b
   rw[b];simp only[X9,U2,VH];refine UM (UM (F tk _ _ f h M ⟨o1,_,_,q1,q2,B,J,?_,d,l⟩ g));unfold SetTable.tooFull at b;unfold lT;rw[fill]at b;rw[K,T.len];simpa using b
end
section
abbrev wo:=Int×Tok
abbrev eI(prog:Yz)(w:World)(x:wo):Int×YA:=((intKind prog w).hash x.1,.int x.1 x.2)
def isI:(intKind prog w).is k (.int j t)=true↔k=j:=by
 constructor
 .intro h;by_cases e:k=j
  .exact e
  .have a:=intKind_is prog w j t;exact absurd ((intKind prog w).inj _ _ _ h a) e
 .rintro rfl;exact intKind_is prog w k t
def OL:GL (eI prog w) its:=λx _ y _ e=>by injection e with _ e;injection e
def GQ:zL prog w A hb S (eI prog w) its:=λx xs s es Q E o hs K h v hz h1 i=>by
 refine GP h (λe c=>?_) hz (λtk t a=>h1 tk t ?_) λtk h' d t b j sa g=>i tk h' d t (λa=>?_) j sa g
 .obtain⟨y,_,rfl⟩:=v.el e c;exact⟨⟨y.1,intKind_is prog w y.1 y.2,rfl⟩,rfl⟩
 .obtain⟨e,c,k⟩:=a;obtain⟨y,f,rfl⟩:=v.el e c;exact⟨y,f,(isI.mp k).symm⟩
 .obtain⟨y,f,l⟩:=a;obtain⟨z,p,m,n⟩:=v.all y f;have:=b _ n;rw[isI.mpr (m.trans l).symm]at this;cases this
end
section
def OM(r:Vals (xs.map V.int) us):∃its:List wo,its.map (·.1)=xs/\us=its.map λz=>Value.int z.1 z.2:=by
 induction xs generalizing us with
 |nil=>cases r;exact⟨[],rfl,rfl⟩
 |cons x xs a=>
  cases r with
  |cons q h=>obtain⟨t,rfl⟩:=q;obtain⟨its,rfl,rfl⟩:=a h;exact⟨(x,t)::its,rfl,rfl⟩
def yB(f:X.calm=true):CallR X (.type "set") (λvs H Q=>∃l xs,vs=[.ref l]/\Rd H l (.lst (xs.map V.int))/\xs.length<=300/\∀p es its,H p=none->its.map (·.1)=xs->kf (eI X.prog X.w) es its->Q (.ref p) (aP H p (.ext λh=>SetAt X.w h p es))):=by
 intro ac s σ H vs us Q I r h;obtain⟨l,xs,rfl,g,hz,q⟩:=h;obtain⟨u,rfl,j⟩:=fM r;obtain rfl:u=Value.ref l:=j;obtain⟨_,us,n,m,t⟩:=(show ObjOk X.prog X.w H s.heap l (.lst (xs.map V.int))from g.ok I.aU);obtain⟨its,rfl,rfl⟩:=OM m;rw[UO]at hz;refine tz (ent:=eI X.prog X.w) (I.ok.hd f) t (its:=its) (by simp) (by simpa using hz) (λi v e=>?_) OL GQ λh' tk es c v y=>?_
 .simp only[List.getElem?_toArray,U7,VF]at e;obtain⟨x,h1,d⟩:=e;exact⟨x,h1,d.symm⟩
 .refine⟨.ref s.heap.objs.size,_,I.laid (a:=s.heap.objs.size) (o:=.ext λh=>SetAt X.w h s.heap.objs.size es) (t':=tk) (λb o e=>y b o (UX e) e) (UN _) ?_,rfl,q _ es its (I.aU.fresh (UN _)) rfl v⟩;exact⟨c,(let ⟨o,_,_,e,_⟩:=c;⟨o,e⟩),λh1 d hs k=>SetAt.keep hs k⟩
end
noncomputable def kC(a:List wo):List YA:=a.map λz=>Value.int z.1 z.2
section
theorem wq:∀a:List wo,IntsAre (kC a) (a.map (·.1))
 |[]=>.nil
 |z::a=>.cons _ _ (wq a)
def Bc{P:PySem.Fin->Yx->Prop}(u:s.heap.get? a=some (seqObj "list" (kC zs).toArray n)) (nd:(zs.map (·.1)).Nodup) (hz:zs.length<=63)
 (h:∀t h' c,t.Perm zs->t.Pairwise (λx y=>x.1<y.1)->h'.get? a=some (seqObj "list" (kC t).toArray c)->(∀b o,b≠a->s.heap.get? b=some o->h'.get? b=some o)->P (.done (.ret .none)) {s with heap:=h'}) :
 wpAny (model prog w) A (Builtin.«list.sort» ⟨[.ref a],[]⟩) P E s:=by
 have d:(kC zs).length=zs.length:=by simp[kC]
 have at_:∀k (m:k<zs.length),kA (0,0) zs k=zs[k]:=λk m=>by simp[kA,m]
 refine wl (κ:=oneType') (lt:=λi j=>decide ((kA (0,0) zs i).1<(kA (0,0) zs j).1)) u (by lia) (λH v B=>⟨λQ q=>?_,⟨λi=>by simp,λi j k=>by grind,λi j g l e=>?_⟩,λi j C g l q=>?_⟩) λp h' c pm so e k=>?_
 .have f:keyKind' (kC zs).toArray=pure oneType':=by
   match zs,(show 2<=zs.length by lia)with
   |z1::z::r,_=>exact keyKind_ints (wq (z1::z::r))
  rw[f];exact UM q
 .rw[d]at g l;rw[at_ i g,at_ j l];rcases Xt e with q|q
  .have:=U8.mp nd i j (by grind) (by grind) q;grind
  .have:=U8.mp nd j i (by grind) (by grind) q;grind
 .rw[d]at g l;unfold kas_ask;have one:∀k (m:k<zs.length),(kC zs).getD k Value.none=.int zs[k].1 zs[k].2:=λk m=>by simp[kC,m]
  rw[one i g,one j l,keyLt'_oneType];dsimp only at q;rw[at_ i g,at_ j l]at q;exact oneLt_int q
 .rw[d]at pm so;refine h (p.toList.map (kA (0,0) zs)) h' c (tE _ pm) ((zO (r:=λx y=>decide (x.1<y.1)) pm so).imp λh=>VN h) ?_ k;rw[e];unfold kC;rw[wg (0,0) pm]
end
section
theorem tF:∀a:List wo,Vals (a.map λy=>V.int y.1) (kC a)
 |[]=>.nil
 |y::a=>.cons ⟨y.2,rfl⟩ (tF a)
def sq(f:X.calm=true):CallR X (.builtin "sorted") (λvs H Q=>∃p es its,vs=[.ref p]/\H p=some (.ext λh=>SetAt X.w h p es)/\kf (eI X.prog X.w) es its/\its.length<=63/\
 ∀(l:Addr)(ks:List Int),H l=none->(∀k,k∈ks↔k∈its.map (·.1))->ks.Pairwise (·< ·)->Q (.ref l) (aP H l (.lst (ks.map V.int)))):=by
 intro ac s σ H vs us Q I r h;obtain⟨p,es,its,rfl,g,v,hz,q⟩:=h;obtain⟨u,rfl,i⟩:=fM r;obtain rfl:u=Value.ref p:=i;obtain⟨j,_,_⟩:=(show ObjOk X.prog X.w H s.heap p (.ext λh=>SetAt X.w h p es)from I.aU p _ g);refine mX j v OL (I.ok.hd f) (by decide) (lt:=(·< ·)) (λA E s a n G P _ m _ nd hz h=>Bc m nd hz h) hz λb h' tk l c so t d z e=>?_;have em:(b.map (·.1)).map V.int=b.map λy=>V.int y.1:=by rw[Vb];rfl
 refine⟨.ref l,_,I.laid (a:=l) (o:=.lst ((b.map (·.1)).map V.int)) (t':=tk) e d ?_,rfl,q l (b.map (·.1)) (I.aU.fresh d) (λk=>?_) (WS.mpr so.pw)⟩
 .rw[em];exact⟨by rw[UO,Vk];lia,kC b,c,tF b,z⟩
 .constructor
  .intro e;obtain⟨y,B,rfl⟩:=UY.mp e;exact UY.mpr ⟨y,so.sub y B,rfl⟩
  .intro e;obtain⟨x,C,rfl⟩:=UY.mp e;obtain⟨y,D,F⟩:=so.all x C;exact UY.mpr ⟨y,D,F⟩
end
end L2
namespace L2
open PySem PySem.Spec PySem.Calls PyProof.Rows
section
def La{k:List bH}{dflt:YA}{Q:YA->Yx->Prop}(n:A.units<cLine)(l:(tK prog w).is s.heap k a)(t:s.heap.DictOfH (tK prog w) d xs)(hsz:xs.length<=sizeLine)
 (h1:∀p,atKey xs k=some p->Q p.2 {s with toks:=s.toks+(tK prog w).draws k})
 (u:atKey xs k=none->∀h',h'.DictOfH (tK prog w) d (storedH xs k a dflt)->Heap.SameBut d s.heap h'->Q dflt {s with heap:=h',toks:=s.toks+(tK prog w).draws k}):wpAny (model prog w) A (dictSetDefault d (.ref a) dflt) Q E s:=by
 obtain⟨o,es,v,c,z,hd,i,f,m⟩:=t;unfold dictSetDefault
 try with_reducible refine VI ?_
 refine KE ((tK prog w).pyHash n l (KE (wpAny_dictFind_heap (knd:=tK prog w) (s:={s with toks:=s.toks+(tK prog w).draws k}) n l c hd i f m (λg=>?_) λj p q=>?_)))
 .have b:=atKey_none_of_get g;have h:k∉xs.map (·.1):=not_mem_keys_of_get g;refine KE (X0 (KE (wpAny_updateDictKeys (hz:=by have e:=size_of_entries i;lia) (s:={s with toks:=s.toks+(tK prog w).draws k}) c hd (UM (u b _ ⟨_,_,v+1,VR _ c (Obj.isFreed_of_dict (Xd hd _)),z.mapDictKeys _,Xd hd _,?_,?_,?_⟩ (Vv ..))))))
  .rw[storedH_new b];simp[i,entryOfKey]
  .rw[storedH_new b];intro x hx;rcases U4.mp hx with hx|hx
   .exact(tK prog w).keeps (f x hx) c hd (Vv ..)
   .obtain rfl:=U5.mp hx;exact(tK prog w).keeps l c hd (Vv ..)
  .rw[storedH_new b,VO,WR];exact⟨m,by simp,λx hx y r e=>by simp only[UR,WB,U5]at r;subst r;exact h (e▸hx)⟩
 .refine KE (XE (s:={s with toks:=s.toks+(tK prog w).draws k}) c hd ?_);rw[entry_at i j,q];exact KE (X0 (UM (h1 p (atKey_of_get m q))))
end
section
def GR:V->List V->Hp->VK->Prop:=λx xs H Q=>∃a b k y kvs,x=.ref a/\xs=[.ref b,y]/\H b=some (.tup (k.map kV))/\H a=some (.dT kvs)/\kvs.length<sizeLine/\
 ((∃v,c9 kvs k=some v/\Q v H)\/(c9 kvs k=none/\Q y (aP H a (.dT (cj kvs k y)))))
def tG(S:X.A.units+64<cLine):KQ X "dict.setdefault" GR:=by
 intro ac s σ H x xs v us Q I D rs q;obtain⟨a,b,k,y,kvs,rfl,rfl,l,ha,hz,q⟩:=q;obtain rfl:v=Value.ref a:=D;obtain⟨u1,u2,rfl,g,e⟩:=zy rs;obtain rfl:u1=Value.ref b:=g;obtain⟨E,F,vs,h,m⟩:=Jg I.aU ha;have G:=fT I.aU l;have n:Shared.TypeIs s (.ref a) "dict":=by obtain⟨o,es,r,J,K,_⟩:=m;exact⟨o,J,K.1⟩
 refine Vy VE n XU ?_ (XQ _ _ _);unfold Builtin.«dict.setdefault»;refine KE ?_;unfold Builtin.Dict.keyAndDefault;refine KE (XR n (show wpAny _ _ (pure (a,Value.ref b,some u2)) _ _ s from UM ?_));show wpAny _ _ (if(a==sysModules)=true then _ else(dictSetDefault a (Value.ref b) u2 >>= _)) _ _ s;rw[UV (by grind)];have L:vs.length<=sizeLine:=by rw[<- W8 h];exact E
 have f:=h.val k;refine KE (La (by grind) G m L (λp t=>?_) λi h' j hs=>?_)
 .rcases q with⟨v,d,q⟩|⟨d,q⟩
  .have:RelO (some v) (some p.2):=by rw[<- d];rw[t]at f;exact f
   exact UM ⟨_,rfl,v,H,I.tok _,this,q⟩
  .have:=f.gR;rw[d,t]at this;cases this
 .rcases q with⟨v,d,q⟩|⟨d,q⟩
  .have:=f.gR;rw[d,i]at this;cases this
  .obtain⟨u,es,r,B,M,N,O,_,P⟩:=j;have R:(cj kvs k y).length<=sizeLine:=by have:=gd kvs k y;lia
   have aU:ObjOk X.prog X.w (aP H a (.dT (cj kvs k y))) h' a (.dT (cj kvs k y)):=by refine⟨R,F,_,(h.put k l e).keeps λc T C=>?_,u,es,r,B,M,N,O,P⟩;rw[af (zu C ha (λz=>nomatch z))];exact C
   exact UM ⟨_,rfl,y,_,lj (t':=s.toks+(tK X.prog X.w).draws k) I (by rw[ha];exact tI_) hs ⟨u,B⟩ aU,e,q⟩
def Dv:V->List V->Hp->VK->Prop:=λx xs H Q=>∃a b k y kvs,x=.ref a/\xs=[.ref b,y]/\H b=some (.tup (k.map kV))/\(H a=some (.dT kvs)\/(H a=some (.dK [])/\kvs=[]))/\kvs.length<sizeLine/\
 ((∃v,c9 kvs k=some v/\Q v H)\/(c9 kvs k=none/\Q y (aP H a (.dT (cj kvs k y)))))
def mY(g:X.A.units+64<cLine):KQ X "dict.setdefault" Dv:=by
 intro ac s σ H x xs v us Q I i rs q;obtain⟨a,b,k,y,kvs,e1,e2,d,ha,hz,q⟩:=q;rcases ha with ha|⟨ha,rfl⟩
 .exact tG g ac s σ H x xs v us Q I i rs ⟨a,b,k,y,kvs,e1,e2,d,ha,hz,q⟩
 .have e:b≠a:=zu d ha (λz=>nomatch z);refine tG g ac s σ (aP H a (.dT [])) x xs v us Q (I.RQ ha) i rs ⟨a,b,k,y,[],e1,e2,by rw[af e];exact d,ag,hz,.inr ?_⟩;rcases q with⟨v,f,q⟩|⟨f,q⟩
  .cases f
  .have:aP (aP H a (.dT [])) a (.dT (cj [] k y))=aP H a (.dT (cj [] k y)):=by
    funext c;by_cases h:c=a
    .subst h;rw[ag,ag]
    .rw[af h,af h,af h]
   exact⟨f,by grind⟩
end
def RawD(h:Heap)(d:Addr)(es:Array DictEntry)(a:Nat):Prop:=∃o,h.get? d=some o/\o.ExactDict/\o.data=.dict es a
section
variable{prog:Yz}{w:World}{A:YB}{s:Yx}{d v it:Addr}{es:Array DictEntry}{ep i:Nat}{ok ov:YA}
def RawD.ty(m:RawD s.heap d es ep):s.TypeIs (.ref d) "dict":=let ⟨o,h,c,_⟩:=m;⟨o,h,c.1⟩
def uz(d:Addr)(hd:(d==sysModules)=false) :
 MeetsIn prog w (Builtin.«dict.items» ⟨[.ref d],[]⟩) (λ_ R s=>(∃es ep,RawD s.heap d es ep)/\R (.ok (.ret (.ref s.heap.objs.size))) { s with heap:=s.heap.push { cls:=.type "dict_items",data:=.fields #[.ref d] } }):=
 .of_wp λA R s ⟨⟨es,ep,m⟩,h⟩=>by unfold Builtin.«dict.items» Builtin.Dict.noArgs;refine KE (KE (XR m.ty (UM ?_)));show wpAny _ _ (Builtin.Dict.showsAll d >>= _) _ _ s;unfold Builtin.Dict.showsAll;rw[UV (by rw[hd];simp)];exact KE (UM (KE (Vz (UM ⟨_,rfl,h⟩))))
def wt(a:s.heap.IsItemsView v d)(m:RawD s.heap d es ep)
 (c:Q (.ref s.heap.objs.size) { s with heap:=s.heap.push { cls:=.type "dict_itemiterator",data:=.fields #[.none,.bool false,.ref d,.int 0 0,.int es.size 0,.int ep 0,.none,.none] } }) :
 wpAny (model prog w) A (pyIter (.ref v)) Q E s:=by
 obtain⟨e,e1,_,e2⟩:=id a;obtain⟨o,b,_,hd⟩:=id m;refine XC a.typeIs F.slot_dict_items_iter (Vy F.slot_dict_items_iter a.typeIs F.entry_dict_items_iter ?_ (F.args_dict_items_iter_1 _));unfold Builtin.«dict_items.__iter__» Builtin.Dict_items.dictOf Builtin.Dict_items.newIterator;refine KE (UM (KE (KE (Xy e1 e2 (x:=.ref d) rfl (UM (KE (KE (XE b hd (KE (wpAny_dictEpoch b hd ?_))))))))));simp only[show Builtin.Dict_items.ownsTuple "dict_itemiterator"=true by decide,Wl];refine Vz (UM ⟨_,rfl,"dict_itemiterator",_,⟨_,UU _ rfl,rfl⟩,VT.lookup,?_⟩)
  (by simp only[sizeOk,Builtin.Dict_items.ownedTupleFields,UZ,Vc,U1,Wq,Vk];lia)
 simpa[rawInt,Builtin.Dict_items.ownedTupleFields]using c
def wu(f:A.handled=none)(y:IsItemIter s.heap it d i es.size ep ok ov)(m:RawD s.heap d es ep)(g:es.size<=i)(h:∀h',Heap.ExtBut it s.heap h'->Q none {s with heap:=h'}):wpAny (model prog w) A (pyNext (.ref it)) Q E s:=by
 obtain⟨o,e,_,hd⟩:=id m;have c:s.TypeIs (.ref it) "dict_itemiterator":=⟨_,y,rfl⟩;unfold pyNext;refine KE (wpAny_attempt (Wb (name:=Str.ofString "__next__") c VT (Vy VT c F.entry_dict_itemiterator_next ?_ (F.args_dict_itemiterator_next_1 _))));refine KE (UM (KE (KE ?_)))
 first|refine KE (Wt c (UM ?_))|refine KE (WO c (UM ?_))
 refine KE (wpAny_fieldsOf y rfl ?_);simp only[show Builtin.Dict_items.ownsTuple "dict_itemiterator"=true by decide,Wl];show wpAny _ _ (if(Value.ref d==Value.none)=true then _ else _) _ _ s;rw[UV (show ¬((Value.ref d==Value.none)=true)from VA)];refine KE (UM (KE (XE e hd ?_)));rw[UV (by simp)];refine KE (UM (KE (wpAny_dictEpoch e hd ?_)));rw[UV (by simp)];refine UM ?_;simp only[show ¬((i:Int)<0)from by lia,VH,WQ,Array.getElem?_eq_none g];refine KE ?_
 first|refine KE (Wt c (UM ?_))|refine KE (WO c (UM ?_))
 show wpAny _ _ (setField (.ref it) 2 .none >>= _) _ _ s;refine KE (X_ y rfl (by simp) ?_);show wpAny _ _ (newExc (.type "StopIteration") [] >>= _) _ _ _;refine KE ?_;simp only[newExc,newTuple];refine KE (Vz ?_ (by size_fits));refine KE (m:=firstArgMember _ _) (wpAny_of_eq (a:=Value.none) (by first|rfl|(simp only[firstArgMember];rfl)) ?_);refine Vz ?_ (by size_fits);simp only[raiseNew];refine KE (wpAny_handled ?_);rw[show A.in1.handled=none from f];refine KE (UM (wpAny_throw ?_));refine KE (wpAny_isInstance (T:="StopIteration") (b:=true) ⟨_,UU _ rfl,rfl⟩ isSubtype_stop ?_);exact UM (h _ (((Vv ..).extBut.push _).push _))
def yC(y:IsItemIter s.heap it d i es.size ep ok ov)(m:RawD s.heap d es ep)(L:es[i]?=some e)
 (M:∀h',IsItemIterOut h' it d (i+1) es.size ep e.key e.val s.heap.objs.size->h'.get? s.heap.objs.size=some { cls:=.type "tuple",data:=.seq #[e.key,e.val] }->
   (∀b o,b≠it->s.heap.get? b=some o->h'.get? b=some o)->Q (some (.ref s.heap.objs.size)) {s with heap:=h'}):wpAny (model prog w) A (pyNext (.ref it)) Q E s:=by
 obtain⟨a,g,h,tk,os⟩:=s;obtain⟨o,H,_,hd⟩:=id m;have c:Shared.TypeIs ⟨a,g,h,tk,os⟩ (.ref it) "dict_itemiterator":=⟨_,y,rfl⟩;have p:a.objs.size≠it:=Xo (UX y);unfold pyNext;refine KE (wpAny_attempt (Wb (name:=Str.ofString "__next__") c VT (Vy VT c F.entry_dict_itemiterator_next ?_ (F.args_dict_itemiterator_next_1 _))));refine KE (UM (KE (KE ?_)))
 first|refine KE (Wt c (UM ?_))|refine KE (WO c (UM ?_))
 refine KE (wpAny_fieldsOf y rfl ?_);simp only[show Builtin.Dict_items.ownsTuple "dict_itemiterator"=true by decide,Wl];show wpAny _ _ (if(Value.ref d==Value.none)=true then _ else _) _ _ _;rw[UV (show ¬((Value.ref d==Value.none)=true)from VA)];refine KE (UM (KE (XE H hd ?_)));rw[UV (by simp)];refine KE (UM (KE (wpAny_dictEpoch H hd ?_)));rw[UV (by simp)];refine UM ?_;simp only[show ¬((i:Int)<0)from by lia,VH,WQ,L];refine KE ?_
 first|refine KE (Wt c (UM ?_))|refine KE (WO c (UM ?_))
 refine KE (Xx c ?_);show wpAny _ _ (setField (.ref it) 3 (rawInt ((i:Int)+1)) >>= _) _ _ ⟨a,g,h,tk,os⟩;refine KE (W3 y (by simp) λh1 j s1=>?_);replace s1:Heap.SameBut it a h1:=s1;replace j:IsItemIter h1 it d (i+1) es.size ep ok ov:=by
  have q:((i+1:Nat):Int)=(i:Int)+1:=by lia
  unfold IsItemIter;rw[q];simpa[rawInt]using j
 have f:Shared.TypeIs ⟨h1,g,h,tk,os⟩ (.ref it) "dict_itemiterator":=⟨_,j,rfl⟩;refine KE (VI (KE (Xx f (KE (Xx f ?_)))));show wpAny _ _ (Builtin.Dict_items.pairFromOwner (.ref it) 6 e.key e.val) _ _ ⟨h1,g,h,tk,os⟩;unfold Builtin.Dict_items.pairFromOwner;refine KE (wpAny_newTuple ?_);have k:IsItemIter (h1.push { cls:=.type "tuple",data:=.seq #[e.key,e.val] }) it d (i+1) es.size ep ok ov:=RW _ j;have I:(h1.push { cls:=.type "tuple",data:=.seq #[e.key,e.val] }).get? a.objs.size=some { cls:=.type "tuple",data:=.seq #[e.key,e.val] }:=by rw[<- s1.1];exact UU _ rfl
 have k2:∀b o,b≠it->a.get? b=some o->(h1.push { cls:=.type "tuple",data:=.seq #[e.key,e.val] }).get? b=some o:=λb o n q=>RW _ (s1.extBut b o n q);have J:h1.objs.size=a.objs.size:=s1.1;generalize h1.push { cls:=.type "tuple",data:=.seq #[e.key,e.val] }=r at k I k2;show wpAny _ _ (Builtin.Dict_items.ownedTupleIsFree (.ref it) >>= _) _ _ ⟨r,g,h,tk,os⟩;rw[J];clear j s1 f J h1;refine KE ?_;unfold Builtin.Dict_items.ownedTupleIsFree;refine KE (Xy k rfl (x:=.none) rfl (UM ?_));simp only[Wl];refine KE (Xy k rfl (x:=ok) rfl (KE (Xy k rfl (x:=ov) rfl ?_)));refine KE (W3 k (by simp) λt u N=>?_);replace u:IsItemIter t it d (i+1) es.size ep e.key ov:=u;refine KE (W3 u (by simp) λz B O=>?_);replace B:IsItemIter z it d (i+1) es.size ep e.key e.val:=B;refine KE (W3 B (by simp) λC D P=>?_);replace D:IsItemIterOut C it d (i+1) es.size ep e.key e.val a.objs.size:=D;refine KE (W3 D (by simp) λl G R=>?_);replace G:IsItemIterOut l it d (i+1) es.size ep e.key e.val a.objs.size:=G;have K:∀b o,b≠it->r.get? b=some o->l.get? b=some o:=λb o n q=>Xl (show Heap.SameBut it C l from R) b o n (Xl (show Heap.SameBut it z C from P) b o n (Xl (show Heap.SameBut it t z from O) b o n (Xl (show Heap.SameBut it r t from N) b o n q)));exact KE (Yj (UM (UM ⟨_,rfl,UM (M l G (K _ _ p I) λb o n q=>K b o n (k2 b o n q))⟩)))
end
def yD{P:Yz}{w:World}{K:Yy}{es:List Expr}{k0:Nat}{pos:Pos}(hex:o.ExactDict)(hdat:o.data=.dict en ep)(hgo:∀i H,J.go i H->H d=some (.ba o u))(hst:∀i H,J.stop i H->H d=some (.ba o u)/\en.size<=i)
 (hent:∀H h,HOk P w H h->∀i,J.go i H->∃e y v,en[i]?=some e/\RelV y e.key/\RelV v e.val/\∀p,H p=none->J.F3 i H (.ref p) (aP H p (.tup [y,v]))) :
 Turn P w K (.Tuple es k0 pos) J [it] it (λi h=>∃ok ov,IsItemIter h it d i en.size ep ok ov) where
 mem:=by simp
 obj:=λi h st b hb=>by
  have e:b=it:=by simpa using hb
  subst e;obtain⟨ok,ov,e⟩:=st;exact⟨_,e,λv z=>by cases z⟩
 keep:=λi h h' st k=>by obtain⟨ok,ov,e⟩:=st;exact⟨ok,ov,k it (by simp) _ e⟩
 item:=by
  intro X hP hw hK hc i ac s σ H E I hf st hg;subst hP hw hK;have hd:=hgo i H hg;obtain⟨ok,ov,st⟩:=st;obtain⟨eo,_⟩:=(show ObjOk X.prog X.w H s.heap d (.ba o u)from I.aU d _ hd);obtain⟨e,y,v,he,ry,rv,hy⟩:=hent H s.heap I.aU i hg;have fi:=hf it (by simp);refine yC st ⟨o,eo,hex,hdat⟩ he λh' hout hT kp=>?_;refine⟨_,rfl,wpAny_letOwnedTupleGo_items hout λh'' hit'' hs''=>?_⟩;have keep2:∀b o,b≠it->s.heap.get? b=some o->h''.get? b=some o:=λb o n1 q=>(hs''.2 b n1).trans (kp b o n1 q);have hTe:s.heap.objs.size≠it:=Xo (UX st);have hT'':h''.get? s.heap.objs.size=some { cls:=.type "tuple",data:=.seq #[e.key,e.val] }:=(hs''.2 _ hTe).trans hT;have fr:=I.aU.fresh (UN _);have I1:Inv X ac σ (aP H s.heap.objs.size (.tup [y,v])) {s with heap:=h''}:=by
   refine I.step (g':=s.gens) (d':=s.drawn) (ch:=[it]) (λb hb=>?_) (λb o _ _ hn q _=>keep2 b o (λz=>hn (by simp[z])) q)
    (λb o _ _ hn q _=>⟨o.slots,keep2 b o (λz=>hn (by simp[z])) q⟩) (λb o _ q hH=>by rw[af (U9 (UX q))];exact hH)
    (λb o hn q=>⟨o,keep2 b o (λz=>hn (by simp[z])) q⟩) (λb ys q=>by rw[af (av q fr)];exact q)
    (λb o' u' q=>by rw[af (av q fr)];exact q) (λb ps q=>⟨#[],by rw[af (av q fr)];simp[q]⟩) (λm hm=>?_) (λb u' q=>?_) I.bare
   .have:b=it:=by simpa using hb
    subst this;exact⟨fi.2.2.2.1,fi.2.1,fi.2.2.2.2.1,fi.2.2.2.2.2⟩
   .obtain⟨o,es',ep,ho',r⟩:=hm;exact⟨o,es',ep,keep2 _ o (V2 fi.2.1) ho',r⟩
   .by_cases hb:b=s.heap.objs.size
    .subst hb;rw[ag]at q;cases q;exact⟨by show 2<=sizeLine;decide,[e.key,e.val],.cons ry (.cons rv .nil),⟨_,hT'',rfl,0,rfl⟩⟩
    .rw[af hb]at q;refine(I.aU b u' q).stay (λc v hc' q'=>keep2 c v ?_ q') (λc r=>by rw[af (av r fr)];exact r) λc ys r=>by rw[af (av r fr)];exact r
     rcases hc' with z|z
     .rw[z];exact av q fi.1
     .exact av z fi.1
  refine⟨.ref s.heap.objs.size,_,I1,rfl,hy _ fr,⟨_,_,hit''⟩,λb hb=>?_⟩;have:b=it:=by simpa using hb
  subst this;rw[af (U9 (UX st))];exact fi.1
 done:=by intro X hP hw hK hc i ac s σ H E I hf st hg;subst hP hw hK;obtain⟨hd,hi⟩:=hst i H hg;obtain⟨ok,ov,st⟩:=st;obtain⟨eo,_⟩:=(show ObjOk X.prog X.w H s.heap d (.ba o u)from I.aU d _ hd);obtain⟨f0,f1,f2,f3,f4,f5⟩:=hf it (by simp);exact wu (I.ok.hd hc) st ⟨o,eo,hex,hdat⟩ (by lia) λh' eb=>⟨rfl,I.turned (t':=s.toks) (λb o hb e=>eb b o hb e) f0 f1 f3 f4 f5⟩
 self:=λA i s Q E st h=>by obtain⟨ok,ov,st⟩:=st;have hT:s.TypeIs (.ref it) "dict_itemiterator":=⟨_,st,rfl⟩;refine XC hT F.slot_dict_itemiterator_iter (Vy F.slot_dict_itemiterator_iter hT (entryFor_alias (id':="dict_keyiterator.__iter__") (by kernel_rfl) rfl (by decide +kernel) (by kernel_rfl):entryFor table "dict_itemiterator.__iter__"=some Builtin.«dict_keyiterator.__iter__») ?_ (F.args_dict_itemiterator_iter_1 _));show wpAny _ _ (ret (.ref it)) _ _ s;exact UM ⟨_,rfl,"dict_itemiterator",_,hT,VT.lookup,h⟩
section
def tH{R:It->Hp->Prop}(s:Inv X ac σ H2 s1)(e2:H2 d=some (.ba o u))(hd:(d==sysModules)=false)(hex:o.ExactDict)(c:o.data=.dict en ep)(n:∀i H,J.go i H->H d=some (.ba o u))(q:∀i H,J.stop i H->H d=some (.ba o u)/\en.size<=i)
 (f:∀H h,HOk X.prog X.w H h->∀i,J.go i H->∃e y v,en[i]?=some e/\RelV y e.key/\RelV v e.val/\∀p,H p=none->J.F3 i H (.ref p) (aP H p (.tup [y,v]))) (q2:R J H2) :
 MethodOn X.prog X.w X.A "items" cpos (.ref d) [] (λv s1=>wX X (pyIter v) (Oq X ac σ (.Tuple es k0 zk) R) X.xe s1) X.xe s1:=by
 obtain⟨l,_⟩:=(show ObjOk X.prog X.w H2 s1.heap d (.ba o u)from s.aU d _ e2);have g:s1.TypeIs (.ref d) "dict":=⟨o,l,hex.1⟩;have j:∀a,Value.ref d=.ref a->∃t,s1.heap.get? a=some t/\t.dict=none:=λa e=>by cases e;exact⟨o,l,hex.2.1⟩
 refine⟨"dict","dict.items",Vl,PySem.F.slot_dict_items,PySem.F.type_dict_items,g,j,VW rfl (PySem.evalArgs_none ?_)⟩;refine WC PySem.F.slot_dict_items g PySem.F.entry_dict_items (PySem.F.args_dict_items_1 _) (uz d hd) ⟨⟨en,ep,o,l,hex,c⟩,?_⟩;have m:Inv X ac σ H2 { s1 with heap:=s1.heap.push { cls:=.type "dict_items",data:=.fields #[.ref d] } }:=s.kept (t':=s1.toks) λb o e=>RW _ e;have e3:({ s1 with heap:=s1.heap.push { cls:=.type "dict_items",data:=.fields #[.ref d] } }:Yx).heap.get? d=some o:=RW _ l;generalize r:({ s1 with heap:=s1.heap.push { cls:=.type "dict_items",data:=.fields #[.ref d] } }:Yx)=k at m e3;have x:k.heap.IsItemsView s1.heap.objs.size d:=by rw[<- r];exact⟨_,UU _ rfl,rfl,rfl⟩
 show wpAny _ _ (pyIter (.ref s1.heap.objs.size)) _ _ _;refine wt x ⟨o,e3,hex,c⟩ ?_;refine⟨k.heap.objs.size,[k.heap.objs.size],_,_,H2,rfl,m.kept (t':=k.toks) λb o e=>RW _ e,yD hex c n q f,⟨_,_,UU _ rfl⟩,λb z=>?_,q2⟩;have e:b=k.heap.objs.size:=by simpa using z
 subst e;exact m.sO (UN _) (m.aU.fresh (UN _))
end
def ON(d:Addr)(o:Obj)(u:HO)(kvs:List (bH×V)):It:=⟨λi H=>H d=some (.ba o u)/\i<kvs.length,λi H x H'=>∃p k v,H p=none/\x=.ref p/\H'=aP H p (.tup [kV k,v])/\kvs[i]?=some (k,v),λi H=>H d=some (.ba o u)/\kvs.length<=i⟩
theorem KV.at(r:KV a b):∀(i:Nat) p q,a[i]?=some p->b[i]?=some q->p.1=q.1/\RelV p.2 q.2:=by
 induction r with
 |nil=>intro i p q e;simp at e
 |cons c t d=>
  intro i p q e1 e2;cases i with
  |zero=>simp at e1 e2;subst e1 e2;exact c
  |succ i=>exact d i p q (by simpa using e1) (by simpa using e2)
def Dw(r:KV a b)(q:Pairs (aI P w) l b):l.length=a.length/\∀(i:Nat) p,a[i]?=some p->∃e,l[i]?=some e/\RelV (kV p.1) e.key/\RelV p.2 e.val:=by
 unfold KV at r;induction r generalizing l with
 |nil=>cases q;exact⟨rfl,λi p e=>by simp at e⟩
 |cons h _ c=>
  cases q with
  |cons h1 d q=>
   obtain⟨a,b⟩:=c q;refine⟨by simp[a],λi p e=>?_⟩;cases i with
   |zero=>simp only[List.getElem?_cons_zero,Yf]at e;subst e;exact⟨_,rfl,by rw[h.1];exact GD h1,by rw[d];exact h.2⟩
   |succ i=>exact b i p e
section
def SB(X:Cx)(b:TE):TI:=λσ H R=>b σ H λx a=>∃d kvs u,x=.ref d/\(u=.dK kvs\/(u=.dT []/\kvs=[]))/\((∃o,a d=some (.ba o u)/\R (ON d o u kvs) a)\/(a d=some u/\∀o,(∀c v,X.H₀ d≠some (.ba c v))->R (ON d o u kvs) (aP a d (.ba o u))))
def Dx(L:PE X l tl)(f:autoParam (attributeBase l "items" X.env (eval l X.env)=eval l X.env) aM) (j:autoParam ((apos.endLine==cpos.line)=true) aM):PI X (.Tuple es k0 zk) (.Call (.Attribute l "items" apos) [] [] cpos) (SB X tl):=by
 intro ac s σ H R I h;refine Xs f j (bX (L ac s σ H _ I h) λv s1 ⟨x,z,k,M,q1⟩=>?_);obtain⟨d,kvs,u,e,B,q⟩:=q1;subst e;cases M;have F:iZ u:=by rcases B with rfl|⟨rfl,_⟩<;>exact tI_
 have m:∀(o:Obj)(n:Hp),Inv X ac σ n s1->n d=some (.ba o u)->R (ON d o u kvs) n->MethodOn X.prog X.w X.A "items" cpos (.ref d) [] (λv s1=>wX X (pyIter v) (Oq X ac σ (.Tuple es k0 zk) R) X.xe s1) X.xe s1:=λo n C e2 q2=>by
  obtain⟨G,D⟩:=(show ObjOk X.prog X.w n s1.heap d (.ba o u)from C.aU d _ e2);have key:∀{H h},HOk X.prog X.w H h->H d=some (.ba o u)->(d==sysModules)=false/\∃en y vs,o.ExactDict/\o.data=.dict en y/\KV kvs vs/\Pairs (aI X.prog X.w) en.toList vs:=λ{H h} ok e=>by
   obtain⟨G,D⟩:=(show ObjOk X.prog X.w H h d (.ba o u)from ok d _ e);have key:(d==sysModules)=false/\∃vs,KV kvs vs/\h.DictOf (aI X.prog X.w) d vs:=by
    rcases B with rfl|⟨rfl,rfl⟩
    .exact D.2
    .obtain⟨hd,dd⟩:=oj D;exact⟨hd,[],.nil,dd⟩
   obtain⟨hd,vs,b,Q,en,y,r,hex,a,_,c,_⟩:=key;rw[G]at r;cases r;exact⟨hd,en,y,vs,hex,a,b,c⟩
  obtain⟨hd,en,y,vs,hex,a,b,c⟩:=key C.aU e2;refine tH (J:=ON d o u kvs) C e2 hd hex a (λi H h=>h.1) (λi H h=>⟨h.1,?_⟩) (λH h ok i g=>?_) q2
  .rw[<- VD,(Dw b c).1];exact h.2
  .obtain⟨_,g⟩ : _/\i<kvs.length:=g;have K:kvs[i]?=some kvs[i]:=by simp[g]
   obtain⟨e,h1,N,O⟩:=(Dw b c).2 i _ K;exact⟨e,kV kvs[i].1,kvs[i].2,by rw[<- Vg];exact h1,N,O,λp P=>⟨p,_,_,P,rfl,rfl,K⟩⟩
 rcases q with⟨o,e1,q⟩|⟨e1,q⟩
 .exact m o z k e1 q
 .have E:∃o,s1.heap.get? d=some o:=by
   rcases B with rfl|⟨rfl,_⟩
   .obtain⟨_,_,_,_,o,_,_,t,_⟩:=(show ObjOk X.prog X.w z s1.heap d (.dK kvs)from k.aU d _ e1);exact⟨o,t⟩
   .obtain⟨_,_,_,_,o,_,_,t,_⟩:=(show ObjOk X.prog X.w z s1.heap d (.dT [])from k.aU d _ e1);exact⟨o,t⟩
  obtain⟨o,t⟩:=E;exact m o _ (k.ba e1 F t) ag (q o (k.Ka e1 F))
end
def OO(d:Addr)(o:Obj)(u:HO)(kvs:List (List bH×V)):It:=⟨λi H=>H d=some (.ba o u)/\i<kvs.length,λi H x H'=>∃p b k v,H p=none/\x=.ref p/\H b=some (.tup (k.map kV))/\H'=aP H p (.tup [.ref b,v])/\kvs[i]?=some (k,v),λi H=>H d=some (.ba o u)/\kvs.length<=i⟩
theorem KT.at(r:KT H a b):∀(i:Nat) p q,a[i]?=some p->b[i]?=some q->p.1=q.1/\H q.2.1=some (.tup (p.1.map kV))/\RelV p.2 q.2.2:=by
 induction r with
 |nil=>intro i p q e;simp at e
 |cons c t d=>
  intro i p q e1 e2;cases i with
  |zero=>simp at e1 e2;subst e1 e2;exact c
  |succ i=>exact d i p q (by simpa using e1) (by simpa using e2)
section
def OP(X:Cx)(b:TE):TI:=λσ H R=>b σ H λx a=>∃d kvs u,x=.ref d/\(u=.dT kvs\/(u=.dK []/\kvs=[]))/\((∃o,a d=some (.ba o u)/\R (OO d o u kvs) a)\/(a d=some u/\∀o,(∀c v,X.H₀ d≠some (.ba c v))->R (OO d o u kvs) (aP a d (.ba o u))))
def Bd(F:PE X l tl)(m:autoParam (attributeBase l "items" X.env (eval l X.env)=eval l X.env) aM) (n:autoParam ((apos.endLine==cpos.line)=true) aM):PI X (.Tuple es k0 zk) (.Call (.Attribute l "items" apos) [] [] cpos) (OP X tl):=by
 intro ac s σ H R I h;refine Xs m n (bX (F ac s σ H _ I h) λv s1 ⟨x,G,t,T,q1⟩=>?_);obtain⟨d,kvs,u,e,K,q⟩:=q1;subst e;cases T;have P:iZ u:=by rcases K with rfl|⟨rfl,_⟩<;>exact tI_
 have y:∀(o:Obj)(z:Hp),Inv X ac σ z s1->z d=some (.ba o u)->R (OO d o u kvs) z->MethodOn X.prog X.w X.A "items" cpos (.ref d) [] (λv s1=>wX X (pyIter v) (Oq X ac σ (.Tuple es k0 zk) R) X.xe s1) X.xe s1:=λo z L e2 q2=>by
  obtain⟨M,_⟩:=(show ObjOk X.prog X.w z s1.heap d (.ba o u)from L.aU d _ e2);have key:∀{H h},HOk X.prog X.w H h->H d=some (.ba o u)->(d==sysModules)=false/\∃(en:Array DictEntry)(r:Nat),o.ExactDict/\o.data=.dict en r/\en.size=kvs.length/\∀(i:Nat) p,kvs[i]?=some p->∃e b,en[i]?=some e/\e.key=.ref b/\H b=some (.tup (p.1.map kV))/\RelV p.2 e.val:=λ{H h} ok e=>by
   obtain⟨M,N⟩:=(show ObjOk X.prog X.w H h d (.ba o u)from ok d _ e);rcases K with rfl|⟨rfl,rfl⟩
   .obtain⟨_,hd,xs,c,U,en,r,j,hex,a,B,_,_⟩:=o_ ok (.inr ⟨o,e⟩);rw[M]at j;cases j;refine⟨hd,en,r,hex,a,by rw[size_of_entries B,W8 c],λi p E=>?_⟩;have F:i<xs.length:=by rw[<- W8 c];exact(UQ.mp E).1
    have N:xs[i]?=some xs[i]:=by simp[F]
    obtain⟨_,V,W⟩:=c.at i _ _ E N;exact⟨_,_,by rw[entry_at B,N];rfl,rfl,V,W⟩
   .obtain⟨_,hd,vs,c,U,en,r,j,hex,a,_,C,_⟩:=mR ok (.inr ⟨o,e⟩);rw[M]at j;cases j;cases c;cases Q:en.toList with
    |nil=>exact⟨hd,en,r,hex,a,by rw[<- VD,Q];rfl,λi p e=>by simp at e⟩
    |cons _ _=>rw[Q]at C;cases C
  obtain⟨hd,en,r,hex,a,Y,_⟩:=key L.aU e2;refine tH (J:=OO d o u kvs) L e2 hd hex a (λi H h=>h.1) (λi H h=>⟨h.1,by rw[Y];exact h.2⟩) (λH h ok i g=>?_) q2;obtain⟨_,Z,ep',_,k,_,f⟩:=key ok g.1;rw[a]at k;cases k;obtain⟨_,g⟩ : _/\i<kvs.length:=g;have S:kvs[i]?=some kvs[i]:=by simp[g]
  obtain⟨e,b,h1,h2,h3,h4⟩:=f i _ S;exact⟨e,.ref b,kvs[i].2,h1,h2,h4,λp E=>⟨p,b,_,_,E,rfl,h3,rfl,S⟩⟩
 rcases q with⟨o,e1,q⟩|⟨e1,q⟩
 .exact y o G t e1 q
 .have O:∃o,s1.heap.get? d=some o:=by
   rcases K with rfl|⟨rfl,_⟩
   .obtain⟨_,_,_,_,o,_,_,D,_⟩:=(show ObjOk X.prog X.w G s1.heap d (.dT kvs)from t.aU d _ e1);exact⟨o,D⟩
   .obtain⟨_,_,_,_,o,_,_,D,_⟩:=(show ObjOk X.prog X.w G s1.heap d (.dK [])from t.aU d _ e1);exact⟨o,D⟩
  obtain⟨o,D⟩:=O;exact y o _ (t.ba e1 P D) ag (q o (t.Ka e1 P))
end
section
theorem zQ:∀{vs:List V}{its:List YA},vs.length=its.length->(∀(i:Nat) v u,vs[i]?=some v->its[i]?=some u->RelV v u)->Vals vs its
 |[],[],_,_=>.nil
 |[],_::_,e,_=>by cases e
 |_::_,[],e,_=>by cases e
 |v::vs,u::its,e,f=>.cons (f 0 v u rfl rfl) (zQ (by simpa using e) λi w z a b=>f (i+1) w z (by simpa using a) (by simpa using b))
def GS(ta:TA):TE:=λσ H Q=>ta σ H λvs a=>∃j:Int,vs=[.int j]/\0<=j/\j<=1000/\∀l,a l=none->Q (.ref l) (aP a l (.lst ((List.range j.toNat).map λk=>.int (k:Nat))))
def Be(A:X.calm=true)(g:Gl X "list") (l:X.mg "list"=none) (m:bootBuiltins "list"=some (.type "list")) (B:Gl X "range") (C:X.mg "range"=none) (ha:PA X [a] ta) (hs:autoParam (starEach [a] X.env=[(false,eval a X.env)]) aM)
 (d:autoParam (starEach [.Call (.Name "range" p2) [a] [] pos2] X.env=[(false,eval (.Call (.Name "range" p2) [a] [] pos2) X.env)]) aM):PE X (.Call (.Name "list" p) [.Call (.Name "range" p2) [a] [] pos2] [] pos) (GS ta):=by
 intro ac s σ H Q I h;refine Call_ (jp I g l m (VZ ?_ d rfl));rw[d];show wpAny _ _ (spliced ((false,eval (.Call (.Name "range" p2) [a] [] pos2) X.env)::[])) _ _ s;refine V3 (Call_ (jp I B C boot_range (VZ (bX (ha pos2 ac s σ H _ I h) λus s1 ⟨vs,D,E,F,q1⟩=>?_) hs rfl)));obtain⟨j,e,N,O,q⟩:=q1;subst e;cases F with
 |cons r G=>
  cases G;obtain⟨t,rfl⟩:=r;refine call_range_1 (WE ?_);have f:Inv X ac σ D { s1 with heap:=s1.heap.push { cls:=.type "range",data:=.fields #[.int 0 s1.toks,.int j t,.int 1 (s1.toks+1)] },toks:=s1.toks+1+1 }:=E.kept λb o e=>RW _ e;have u:IsRange ({ s1 with heap:=s1.heap.push { cls:=.type "range",data:=.fields #[.int 0 s1.toks,.int j t,.int 1 (s1.toks+1)] },toks:=s1.toks+1+1 }:Yx).heap s1.heap.objs.size 0 j 1 s1.toks t (s1.toks+1):=UU _ rfl;generalize({ s1 with heap:=s1.heap.push { cls:=.type "range",data:=.fields #[.int 0 s1.toks,.int j t,.int 1 (s1.toks+1)] },toks:=s1.toks+1+1 }:Yx)=s2 at f u;have J:Builtin.Range.rangeSize 0 j 1=(j.toNat:Nat):=by rw[rangeSize_one];split<;>lia
  refine call_list_range (f.ok.hd A) u (small_one (by lia) (by lia) (by lia) (by lia)) J (by lia) λh' tk c x kp e it=>?_;obtain⟨y,K⟩:=it;have L:Vals ((List.range j.toNat).map λk=>.int (k:Nat)) c.toList:=by
   refine zQ (by rw[UO,XF,VD,y]) λi v w n z=>?_;obtain⟨t',rfl⟩:=K i w (by rw[<- Vg];exact z);rw[U7]at n;have M:i<j.toNat:=by have:=(UQ.mp z).1;rw[VD,y]at this;exact this
   rw[List.getElem?_range M]at n;cases n;exact⟨t',by congr 1;lia⟩
  have e:h'.get? s2.heap.objs.size=some { cls:=.type "list",dict:=none,data:=.seq c.toList.toArray x,slots:=#[] }:=by rw[Array.toArray_toList];exact e
  exact⟨.ref s2.heap.objs.size,_,f.laid (t':=tk) kp (UN _) (show ObjOk X.prog X.w _ h' _ (.lst ((List.range j.toNat).map λk=>.int (k:Nat)))from⟨by rw[UO,XF,Vk];lia,c.toList,x,L,e⟩),rfl,q _ (f.aU.fresh (UN _))⟩
end
noncomputable def uA:List Int->Int
 |[]=>0
 |x::r=>r.foldl (λa b=>if b<a then b else a) x
def Bf(h:l≠[])(z:Int):uA (l++[z])=if z<uA l then z else uA l:=by
 cases l with
 |nil=>exact(h rfl).elim
 |cons x r=>show(r++[z]).foldl _ x=_;rw[Wn];rfl
theorem jd(xs:Array (Int×Tok)):∀k,k<xs.size->numAt xs (argBest (λi j=>decide (numAt xs i<numAt xs j)) k)=uA ((xs.toList.map (·.1)).take (k+1))
 |0,h=>by
  have e:xs.toList.map (·.1)≠[]:=λz=>by have:=Wo List.length z;simp at this;rw[this]at h;simp at h
  cases q:xs.toList.map (·.1)with
  |nil=>exact(e q).elim
  |cons y r=>
   have:(xs[0]?.map (·.1))=some y:=by rw[<- Vg,<- U7,q];rfl
   show numAt xs 0=y;unfold numAt;rw[this];rfl
 |k+1,h=>by
  have b:=jd xs k (by lia);have c:(xs.toList.map (·.1))[k+1]?=some (numAt xs (k+1)):=by rw[U7,Vg];unfold numAt;rw[Array.getElem?_eq_getElem h];rfl
  have d:(xs.toList.map (·.1)).take (k+1+1)=(xs.toList.map (·.1)).take (k+1)++[numAt xs (k+1)]:=by rw[List.take_succ,c];rfl
  have ne:(xs.toList.map (·.1)).take (k+1)≠[]:=λz=>by have f:=Wo List.length z;rw[Wv,UO,VD,Wq]at f;lia
  rw[d,Bf ne,<- b];show numAt xs (if(decide (numAt xs (k+1)<numAt xs (argBest _ k)))=true then k+1 else argBest _ k)=_;by_cases a:numAt xs (k+1)<numAt xs (argBest (λi j=>decide (numAt xs i<numAt xs j)) k)
  .rw[UP (U6 a),UP a]
  .rw[UV (by simpa using a),UV a]
theorem qP:∀{ns:List Int}{its:List YA},Vals (ns.map V.int) its->∃ps:List (Int×Tok),its=ps.map (λp=>.int p.1 p.2)/\ps.map (·.1)=ns
 |[],_,h=>by cases h;exact⟨[],rfl,rfl⟩
 |n::ns,_,h=>by
  cases h with
  |cons r a=>obtain⟨t,rfl⟩:=r;obtain⟨ps,rfl,e⟩:=qP a;exact⟨(n,t)::ps,rfl,by rw[UR,e]⟩
def Bg(c:X.calm=true):CallR X (.builtin "min") (λxs H Q=>∃p ns,xs=[.ref p]/\SqL X.K H p (ns.map V.int)/\ns≠[]/\Q (.int (uA ns)) H):=by
 intro ac s σ H xs us Q I r h;obtain⟨p,ns,rfl,d,b,q⟩:=h;obtain⟨u,rfl,f⟩:=fM r;cases f;obtain⟨its,g,pl,hz⟩:=I.list d;obtain⟨ps,rfl,e⟩:=qP g;have i:s.heap.IsList p (intItems ps.toArray):=by
  have:intItems ps.toArray=(ps.map (λp=>Value.int p.1 p.2)).toArray:=by simp[intItems]
  rw[this];exact pl.isList
 have a:0<ps.toArray.size:=by
  cases ps with
  |nil=>exact(b e.symm).elim
  |cons _ _=>simp
 refine min_intList (I.ok.hd c) i a λv h' tk j kp=>?_;obtain⟨t,rfl⟩:=intItems_at j;rw[jd ps.toArray _ (by lia)];have ef:(ps.toArray.toList.map (·.1)).take (ps.toArray.size-1+1)=ns:=by rw[VG (by simp;lia)];simpa using e
 rw[ef];exact⟨.int (uA ns),H,I.kept (t':=tk) kp,⟨t,rfl⟩,q⟩
end L2
namespace L2
open PySem PySem.Spec PyProof.Rows
open Sem (wp)
open Builtin
open Sem (wp)
open Builtin
noncomputable def qQ(kts:List (Addr×List V))(a:Addr)(o:Obj)(ns:List Int):Hp:=λb=>match kts.lookup b with
 |some xs=>some (.tup xs)
 |none=>if b=a then some (.ba o (.lst (ns.map V.int)))else none
section
def GT(e:kts.lookup b=some xs):qQ kts a o ns b=some (.tup xs):=by unfold qQ;rw[e]
def GU(e:kts.lookup a=none):qQ kts a o ns a=some (.ba o (.lst (ns.map V.int))):=by unfold qQ;rw[e];exact UP rfl
def GV(e:kts.lookup b=none)(n:b≠a):qQ kts a o ns b=none:=by unfold qQ;rw[e];exact UV n
end
theorem mZ:∀{vs:List YA}{ns:List Int},IntsAre vs ns->Vals (ns.map V.int) vs
 |_,_,.nil=>.nil
 |_,_,.cons n t h=>.cons ⟨t,rfl⟩ (mZ h)
def Bh{P:Yz}{w:World}{K:Yy}{mg M:Str->Option YA}{CX:FZ}{k:Nat}{fa a:Addr}{fd:FuncData}{x:Str}{sp:Sp}{f:Yx}{vs:List YA}{ns:List Int}{kts:List (Addr×List V)}
 (Z:K.In f.heap) (C:f.heap.Ns mainGlobals mg) (N:f.heap.Ns builtinsNs M) (O:∀x:Str,x≠"__name__"->M x=bootBuiltins x) (D:f.heap.NoLimit) (hg:f.gens=#[])
 (ha:f.heap.get? a=some { cls:=.type "list",data:=.seq vs.toArray }) (hi:IntsAre vs ns) (hl:ns.length<=sizeLine) (hr:dR k callerA)
 (hK:∀o,K.lookup a=some o->o.cls=.type "list"->False)
 (J:∀b xs,kts.lookup b=some xs->K.lookup b=none/\∃(o:Obj)(its:Array YA)(n:Nat),f.heap.get? b=some o/\o.cls=.type "tuple"/\o.data=.seq its n/\its.size<=sizeLine/\Vals xs its.toList)
 (hM:∀p∈K,∀b xs,Ko p.2=some (b,xs)->kts.lookup b=some xs)
 (F:∀base:Heap,K.In base->base.Ns mainGlobals mg->bO P w K mg base CX k fa fd [x] sp) (j:∀(s:Yx)(u:YA),BindsTo s fd ⟨[u],[]⟩ [(x,u)])
 (Q:∀H:Hp,(∃o,H a=some (.ba o (.lst (ns.map V.int))))->sp [.ref a] H (λv _=>v=.bl true) λ_ _ _=>False)
 (R:∀H e l,CX [] H f (λ_ _ _=>False) e l->False) :
 codeAny (model P w) callerA (.call (.ref fa) ⟨[.ref a],[]⟩) (λr l=>r=.ok (.ret (.bool true))/\OldK f.heap l.heap/\l.os=f.os/\AllBare l.gens) f:=by
 have rv:=mZ hi;have S:K.lookup a=none:=by
  cases q:K.lookup a with
  |none=>rfl
  |some o=>have e:=Z a o q;rw[ha]at e;cases e;exact(hK _ q rfl).elim
 have T:kts.lookup a=none:=by
  cases q:kts.lookup a with
  |none=>rfl
  |some xs=>obtain⟨_,o,its,n,e,c,_⟩:=J a xs q;rw[ha]at e;cases e;exact absurd c (by simp)
 obtain⟨B,t⟩ : ∃B:Obj,B={ cls:=.type "list",data:=.seq vs.toArray }:=⟨_,rfl⟩;rw[<- t]at ha;generalize U:qQ kts a B ns=H;have W:H a=some (.ba B (.lst (ns.map V.int))):=by rw[<- U];exact GU T
 have X:∀b xs,kts.lookup b=some xs->H b=some (.tup xs):=λb xs e=>by rw[<- U];exact GT e
 have L:∀b,kts.lookup b=none->b≠a->H b=none:=λb e n=>by rw[<- U];exact GV e n
 have y:∀b o,K.lookup b=some o->H b=none:=λb o e=>by
  refine L b ?_ λz=>by rw[z,S]at e;cases e
  cases q:kts.lookup b with
  |none=>rfl
  |some xs=>rw[(J b xs q).1]at e;cases e
 have A:∀(b:Addr)(o:Obj)(es:Array DictEntry)(E:Nat),f.heap.get? b=some o->o.data=.dict es E->H b=none:=λb o es E e d=>by
  refine L b ?_ λz=>?_
  .cases q:kts.lookup b with
   |none=>rfl
   |some xs=>obtain⟨_,o',its,n,e',_,d',_⟩:=J b xs q;rw[e]at e';cases e';rw[d]at d';cases d'
  .rw[z,ha]at e;cases e;rw[t]at d;cases d
 have i:∀{b:Addr}{m:Str->Option YA},f.heap.Ns b m->(vI f.heap H).Ns b m:=λ{b m} ⟨o,es,E,e,d,r⟩=>⟨o,es,E,vJ e (A b o es E e d),d,r⟩;have G:K.In (vI f.heap H):=λb o e=>vJ (Z b o e) (y b o e);have Y:Mod K mg (vI f.heap H):=⟨G,i C,⟨M,i N,O⟩,let ⟨mc,h1,h2⟩:=D;⟨mc,i h1,h2⟩⟩;have aU:HOk P w H f.heap:=λb u e=>by
  cases q:kts.lookup b with
  |some xs=>rw[X b xs q]at e;cases e;obtain⟨_,o,its,n,e1,c,d,z,r⟩:=J b xs q;refine⟨by rw[r.length];simpa using z,its.toList,r,o,e1,c,n,by simpa using d⟩
  |none=>
   by_cases g:b=a
   .rw[g,W]at e;cases e;rw[g];exact⟨ha,by rw[UO];exact hl,vs,_,rv,by rw[ha,t]⟩
   .rw[L b q g]at e;cases e
 have e0:zp P w K mg (vI f.heap H) callerA [] f H:=⟨rfl,Y,λb o e=>F9 e,Ys (AU _ _),trivial,λb N=>absurd (show b∈([]:List Addr)from N) (by simp),aU,.of_eq hg,λp hp b xs e=>X b xs (hM p hp b xs e)⟩;refine XI ((F _ G (i C)).run callerA [] f H ⟨[.ref a],[]⟩ [.ref a] [.ref a] _ _ hr e0 (j f (.ref a)) (.cons rfl .nil) (Q H ⟨B,W⟩)) λr l h=>?_;cases r with
 |error e=>exact(R H e l h).elim
 |ok fl=>
  cases fl with
  |next=>exact False.elim h
  |brk=>exact False.elim h
  |cont=>exact False.elim h
  |ret u=>
   obtain⟨v,H',os,bare,un,I,r',q⟩:=h;have q':v=.bl true:=q;subst q';obtain rfl:u=Value.bool true:=r';refine⟨rfl,OldK.of_keep λb o e=>?_,os,bare⟩;by_cases g:b=a
   .rw[g]at e ⊢;have z2:=un.pL a B _ W;obtain⟨e2,_⟩:=I a _ z2;rw[ha]at e;cases e;exact e2
   .refine un.keep b o e ?_ (by intro z;exact absurd (show b∈([]:List Addr)from z) (by simp)) (by simp);cases q:kts.lookup b with
    |none=>exact .inl (L b q g)
    |some xs=>exact .inr ⟨xs,X b xs q⟩
section
variable{K K':Yy}
def SC(K:Yy):Bool:=K.all λp=>(Ko p.2).isNone
structure xN(K K':Yy):Prop where
 look:∀b o,K.lookup b=some o->(∀its n,o.data≠.seq its n)->K'.lookup b=some o
def Bi:xN K K:=⟨λ_ _ e _=>e⟩
def xN.code(S:xN K K')(h:codeIn K cd q=true):codeIn K' cd q=true:=by
 unfold codeIn at h ⊢;cases cd with
 |ref c=>
  dsimp only at h ⊢;cases e:K.lookup c with
  |none=>rw[e]at h;cases h
  |some o=>
   obtain⟨o1,b,a,d⟩:=o;cases a with
   |fields vs=>rw[S.look c _ e (λ_ _ z=>nomatch z)];rw[e]at h;exact h
   |_=>rw[e]at h;cases h
 |_=>cases h
def xN.keep(S:xN K K')(e:K.lookup f=some ⟨o1,o2,.func fd,o4⟩):keepIn K' (.ref f)=true:=by unfold keepIn;dsimp only;rw[S.look f _ e (λ_ _ z=>nomatch z)]
end
noncomputable def zR:YA->Bool
 |.type n=>n=="list"
 |_=>false
def SD(K:Yy):Bool:=K.all λp=>!zR p.2.cls
theorem Dy:∀{K:Yy},SD K=true->K.lookup a=some o->o.cls=.type "list"->False
 |[],_,e,_=>by cases e
 |(b,x)::r,h,e,c=>by
  unfold SD at h;rw[List.all_cons,Vi]at h;rw[W1]at e;split at e
  .cases e;rw[c]at h;have h1:=h.1;simp[zR]at h1
  .exact Dy (K:=r) h.2 e c
section
variable{l:PySem.W.OpenLaw}{K:Params->Yy}{CX:World->FZ}{sp:World->Sp}
def Dz(I:l.most=some n)(r:n<=sizeLine)(t:d.params.defaults=[])(J:dR k callerA)(L:∀(w:World)(h:Heap),YP w h->(K w.params).In h)
 (C:∀w:World,SD (K w.params)=true/\SC (K w.params)=true)
 (F:∀(w:World)(mg:Str->Option YA)(fa:Addr)(h:Heap),(K w.params).In h->h.Ns mainGlobals mg->mg d.name=some (.ref fa)->
   ∃fd:FuncData,(∀(s:Yx)(u:YA),BindsTo s fd ⟨[u],[]⟩ [(x,u)])/\∀base:Heap,(K w.params).In base->base.Ns mainGlobals mg->bO l.prog w (K w.params) mg base (CX w) k fa fd [x] (sp w))
 (y:∀(w:World)(H:Hp)(a:Addr)(ns:List Int),ns.length<=n->(∃o,H a=some (.ba o (.lst (ns.map V.int))))->sp w [.ref a] H (λv _=>v=.bl true) λ_ _ _=>False)
 (z:∀(w:World)(H:Hp)(s:Yx)(e:YA)(A:Yx),CX w [] H s (λ_ _ _=>False) e A->False) :
 PySem.W.WalkO q loose XP YP l.row.toRowW d [] (λf vs=>PySem.call f vs):=by
 refine Att.attach_call I t λw s₀ j mg S fa o pm U doc a vs ns G Y X hd M B m i D N=>?_;have E:=L w _ Y;obtain⟨fd,O,P⟩:=F w mg fa _ E G.T.g B;exact Bh (kts:=[]) E G.T.g G.T.b G.T.builtins G.T.nolimit N m i (Vf D r) J (λo e c=>Dy (C w).1 e c) (λb xs e=>by cases e)
  (λp Q b xs e=>by have:=VJ.mp (C w).2 p Q;rw[e]at this;cases this) P O (λH R=>y w H a ns D R) λH e A=>z w H j e A
end
end L2
namespace L2
open PySem PySem.Spec PySem.Calls PyProof.Rows
abbrev K0:=Sum Int (List Int)
abbrev NX:=List (List K0×Addr×YA)
def NVs(H:Hp):List K0->List V->Prop
 |[],vs=>vs=[]
 |.inl i::ks,vs=>∃r,vs=.int i::r/\NVs H ks r
 |.inr l::ks,vs=>∃c r,vs=.ref c::r/\H c=some (.tup (l.map V.int))/\NVs H ks r
def KeyN(H:Hp)(k:List K0)(b:Addr):Prop:=∃vs,H b=some (.tup vs)/\NVs H k vs
section
variable{H H':Hp}
theorem NVs.mono(kt:∀b vs,H b=some (.tup vs)->H' b=some (.tup vs)):∀{k:List K0}{vs:List V},NVs H k vs->NVs H' k vs
 |[],_,h=>h
 |.inl i::ks,_,⟨r,e,h⟩=>⟨r,e,NVs.mono kt h⟩
 |.inr l::ks,_,⟨c,r,e,e2,h⟩=>⟨c,r,e,kt _ _ e2,NVs.mono kt h⟩
theorem KeyN.mono(kt:∀b vs,H b=some (.tup vs)->H' b=some (.tup vs))(h:KeyN H k b):KeyN H' k b:=let ⟨vs,e,q⟩:=h;⟨vs,kt _ _ e,q.mono kt⟩
end
end L2
namespace L2
open PySem PySem.Spec PySem.Calls PyProof.Rows ST
section
def Bj(t:TupsIn H vs its)(a:Vals vs us):us=valsT its:=by
 unfold TupsIn at t;induction t generalizing us with
 |nil=>cases a;rfl
 |cons q _ b=>
  cases a with
  |cons r s=>obtain⟨rfl,q⟩:=q;cases r;rw[b s];rfl
def sr(L:N<=300)(hs:mW X.prog X.w N):CallR X (.builtin "sorted") (λxs H Q=>∃(l:Addr)(vs:List V)(its:List j3),xs=[.ref l]/\Rd H l (.lst vs)/\TupsIn H vs its/\its.length<=N/\(∀x∈its,x.1≠[])/\(its.map (·.1)).Nodup/\
 ∀(j:Addr)(c:List j3),H j=none->c.Perm its->c.Pairwise (λx y=>dL x.1 y.1=true)->Q (.ref j) (aP H j (.lst (c.map λy=>.ref y.2)))):=by
 intro ac s σ H xs us Q I r h;obtain⟨l,vs,its,rfl,B,p,hz,k,nd,q⟩:=h;obtain⟨u,rfl,C⟩:=fM r;obtain rfl:u=Value.ref l:=C;obtain⟨_,us,n,t,D⟩:=(show ObjOk X.prog X.w H s.heap l (.lst vs)from B.ok I.aU);obtain⟨_,_,g3⟩:=p.get t;obtain rfl:=Bj p t;have f:(valsT its).length=its.length:=by simp[valsT]
 have sl:=Vk;refine Calls.call_function_entry kind_sorted plain_sorted entry_sorted (args_sorted1 _) ?_;unfold Builtin.«sorted»;refine KE (m:=checkCount "sorted" 1 1 _) (UM (KE (collect_list (l:=l) (vs:=valsT its) ⟨_,D,rfl,n,rfl⟩ ?_ (by rw[f];lia))));have k1:∀b o,s.heap.get? b=some o->((s.heap.push (seqObj "list" #[] 0)).update s.heap.objs.size (Obj.mapSeq (·++ (valsT its).toArray))).get? b=some o:=λb o e=>(Vh _ _ (V2 (U9 (UX e)))).trans (RW _ e);have g1:s.heap.objs.size<=((s.heap.push (seqObj "list" #[] 0)).update s.heap.objs.size (Obj.mapSeq (·++ (valsT its).toArray))).objs.size:=XH (UX (get?_update_seq (UU _ rfl) (·++ (valsT its).toArray)));generalize((s.heap.push (seqObj "list" #[] 0)).update s.heap.objs.size (Obj.mapSeq (·++ (valsT its).toArray)))=h1 at k1 g1;refine KE (wpAny_newList ?_ (by rw[f];lia));have g:(h1.push (seqObj "list" (valsT its).toArray 0)).get? h1.objs.size=some (seqObj "list" (valsT its).toArray 0):=UU _ rfl;have v:∀b o,s.heap.get? b=some o->(h1.push (seqObj "list" (valsT its).toArray 0)).get? b=some o:=λb o e=>RW _ (k1 b o e);have E:sM X.prog X.w (h1.push (seqObj "list" (valsT its).toArray 0)) its:=⟨λx F=>pN (fT I.aU (g3 x F)) v,k,nd⟩;refine KE (VI (Vy slot_list_sort ⟨_,g,rfl⟩ entry_list_sort ?body (args_list_sort _)))
 case body=>
  refine hs _ _ { s with heap:=h1.push (seqObj "list" (valsT its).toArray 0) } _ _ _ _ g E hz λc M G d A i k2=>⟨_,rfl,?_⟩;have J:H h1.objs.size=none:=I.aU.fresh g1;refine UM ⟨_,rfl,.ref h1.objs.size,_,I.laid (a:=h1.objs.size) (o:=.lst (c.map λy=>.ref y.2)) (t':=s.toks) (λb o e=>k2 b o (λz=>?_) (v b o e)) g1 ?_,rfl,q h1.objs.size c J d A⟩
  .subst z;exact absurd (UX e) (Nat.not_lt.mpr g1)
  .refine⟨by rw[UO,d.length_eq];lia,valsT c,G,?_,i⟩;clear i A d;induction c with
   |nil=>exact .nil
   |cons y c K=>exact .cons rfl K
end
end L2
namespace L3
open PySem PySem.Spec PyProof.Rows L2
abbrev DK:=Sum bH (List bH)
inductive D where
 |bv|bl (b:Bool)|int (i:Int)|str (x:Str)|tup (ds:List D)|lst (ds:List D)|dZ (ks:List DK) (ds:List D)
mutual
noncomputable def D.flat:D->Bool
 |.lst _=>false
 |.dZ _ _=>false
 |.tup ds=>D.be ds
 |_=>true
noncomputable def D.be:List D->Bool
 |[]=>true
 |d::ds=>d.flat&&D.be ds
end
mutual
noncomputable def D.dep:D->Nat
 |.lst ds=>D.gJ ds+1
 |.tup ds=>D.gJ ds+1
 |.dZ _ ds=>D.gJ ds+1000
 |_=>0
noncomputable def D.gJ:List D->Nat
 |[]=>0
 |d::ds=>max d.dep (D.gJ ds)
end
mutual
noncomputable def gw:D->D->Bool
 |.bv,e=>match e with|.bv=>true|_=>false
 |.bl a,e=>match e with|.bl b=>a==b|.int b=>(if a then 1 else 0)==b|_=>false
 |.int a,e=>match e with|.int b=>a==b|.bl b=>a==(if b then 1 else 0)|_=>false
 |.str a,e=>match e with|.str b=>a==b|_=>false
 |.tup c,e=>match e with|.tup bs=>eqDs c bs|_=>false
 |.lst c,e=>match e with|.lst bs=>eqDs c bs|_=>false
 |.dZ ks c,e=>match e with|.dZ d bs=>decide (ks=d)&&eqDs c bs|_=>false
noncomputable def eqDs:List D->List D->Bool
 |[],bs=>match bs with|[]=>true|_=>false
 |a::c,bs=>match bs with|b::r=>gw a b&&eqDs c r|[]=>false
end
mutual
theorem m5:∀d:D,gw d d=true
 |.bv=>rfl
 |.bl a=>by simp[gw]
 |.int a=>by simp[gw]
 |.str a=>by simp[gw]
 |.tup b=>by simp only[gw];exact eqDs_refl b
 |.lst b=>by simp only[gw];exact eqDs_refl b
 |.dZ ks b=>by simp only[gw,decide_true,Bool.true_and];exact eqDs_refl b
theorem eqDs_refl:∀ds:List D,eqDs ds ds=true
 |[]=>rfl
 |d::ds=>by simp only[eqDs,m5 d,eqDs_refl ds,XZ]
end
def DAt(H:Hp)(a:Addr)(ks:List DK)(vs:List V):Prop:=(∃kvs:List (bH×V),Rd H a (.dK kvs)/\ks=kvs.map (λp=>.inl p.1)/\vs=kvs.map Prod.snd)\/∃kvs:List (List bH×V),Rd H a (.dT kvs)/\ks=kvs.map (λp=>.inr p.1)/\vs=kvs.map Prod.snd
def Lb:HO->Prop
 |.lst _=>True
 |.dK _=>True
 |.dT _=>True
 |.ext _=>True
 |_=>False
def Mu(H:Hp)(a:Addr):Prop:=∃o,H a=some o/\Lb o
theorem Mu.lst(h:H a=some (.lst vs)):Mu H a:=⟨_,h,tI_⟩
def Mu.same(h:Mu H a)(s:∀o,H a=some o->H' a=some o):Mu H' a:=let ⟨o,e,m⟩:=h;⟨o,s o e,m⟩
def Mu.some(h:Mu H a):H a≠none:=by obtain⟨o,e,_⟩:=h;rw[e];simp
def Jn(h:Rd H a u):∃o,H a=some o:=h.elim (λe=>⟨_,e⟩) λ⟨_,e⟩=>⟨_,e⟩
def oo(h:Rd H a u)(s:∀o,H a=some o->H' a=some o):Rd H' a u:=h.imp (s _) λ⟨o,e⟩=>⟨o,s _ e⟩
def DAt.obj(h:DAt H a ks vs):∃o,H a=some o:=h.elim (λ⟨_,e,_⟩=>Jn e) λ⟨_,e,_⟩=>Jn e
def DAt.mu(h:DAt H a ks vs)(n:∀o u,H a≠some (.ba o u)):Mu H a:=by rcases h with⟨kvs,e|⟨o,e⟩,_⟩|⟨kvs,e|⟨o,e⟩,_⟩<;>first|exact⟨_,e,tI_⟩|exact(n _ _ e).elim
def DAt.keep(h:DAt H a ks vs)(s:∀o,H a=some o->H' a=some o):DAt H' a ks vs:=h.imp (λ⟨kvs,e,r⟩=>⟨kvs,oo e s,r⟩) λ⟨kvs,e,r⟩=>⟨kvs,oo e s,r⟩
def DAt.inj(h:DAt H a ks vs)(g:DAt H a ls ws):ks=ls/\vs=ws:=by rcases h with⟨k1,e1|⟨o1,e1⟩,b,c⟩|⟨k1,e1|⟨o1,e1⟩,b,c⟩<;>rcases g with⟨k2,e2|⟨d,e2⟩,q1,q2⟩|⟨k2,e2|⟨d,e2⟩,q1,q2⟩<;>(rw[e1]at e2;cases e2;try exact⟨b.trans q1.symm,c.trans q2.symm⟩)
def SE:HO->Prop
 |.dK _=>False
 |.dT _=>False
 |.ba _ (.dK _)=>False
 |.ba _ (.dT _)=>False
 |_=>True
def DAt.no(h:DAt H a ks vs)(e:H a=some o)(n:SE o):False:=by rcases h with⟨k,z|⟨b,z⟩,_⟩|⟨k,z|⟨b,z⟩,_⟩<;>(rw[e]at z;cases z;exact n)
mutual
noncomputable def Is(H:Hp)(m:Addr->Prop):D->V->Prop
 |.bv,v=>v=.bv
 |.bl b,v=>v=.bl b
 |.int i,v=>v=.int i
 |.str x,v=>v=.str x
 |.tup ds,v=>∃a vs,v=.ref a/\H a=some (.tup vs)/\IsAll H m ds vs
 |.lst ds,v=>∃a vs,v=.ref a/\((H a=some (.lst vs)/\m a)\/∃o,H a=some (.ba o (.lst vs))/\m a)/\IsAll H m ds vs
 |.dZ ks ds,v=>∃a vs,v=.ref a/\(DAt H a ks vs/\m a)/\IsAll H m ds vs
noncomputable def IsAll(H:Hp)(m:Addr->Prop):List D->List V->Prop
 |[],vs=>vs=[]
 |d::ds,vs=>∃v r,vs=v::r/\Is H m d v/\IsAll H m ds r
end
def i6:HO->Prop
 |.tup _=>True
 |.ba _ _=>True
 |_=>False
section
mutual
theorem Is.mono(kp:∀a o,H a=some o->(m a\/i6 o)->H' a=some o)(b:∀a o,H a=some o->m a->m' a):∀{d:D}{v:V},Is H m d v->Is H' m' d v
 |.bv,_,h=>h
 |.bl _,_,h=>h
 |.int _,_,h=>h
 |.str _,_,h=>h
 |.tup ds,_,h=>by obtain⟨a,vs,e,h1,c⟩:=h;exact⟨a,vs,e,kp a _ h1 (.inr tI_),IsAll.mono kp b c⟩
 |.lst ds,_,h=>by
  obtain⟨a,vs,e,h1,c⟩:=h;refine⟨a,vs,e,?_,IsAll.mono kp b c⟩;rcases h1 with⟨h1,f⟩|⟨o,h1,f⟩
  .exact .inl ⟨kp a _ h1 (.inl f),b a _ h1 f⟩
  .exact .inr ⟨o,kp a _ h1 (.inr tI_),b a _ h1 f⟩
 |.dZ ks ds,_,h=>by obtain⟨a,vs,e,h1,c⟩:=h;obtain⟨o,g⟩:=h1.1.obj;exact⟨a,vs,e,⟨h1.1.keep λo e=>kp a o e (.inl h1.2),b a o g h1.2⟩,IsAll.mono kp b c⟩
theorem IsAll.mono(kp:∀a o,H a=some o->(m a\/i6 o)->H' a=some o)(b:∀a o,H a=some o->m a->m' a):∀{ds:List D}{vs:List V},IsAll H m ds vs->IsAll H' m' ds vs
 |[],_,h=>h
 |d::ds,_,h=>by obtain⟨v,r,e,h1,c⟩:=h;exact⟨v,r,e,Is.mono kp b h1,IsAll.mono kp b c⟩
end
def Is.weak(b:∀a,m a->m' a)(h:Is H m d v):Is H m' d v:=h.mono (λ_ _ e _=>e) λa _ _=>b a
def IsAll.weak(b:∀a,m a->m' a)(h:IsAll H m ds vs):IsAll H m' ds vs:=h.mono (λ_ _ e _=>e) λa _ _=>b a
def Is.same(s:Same H H')(h:Is H m d v):Is H' m d v:=h.mono (λa o e _=>s a o e) λ_ _ _ z=>z
def IsAll.same(s:Same H H')(h:IsAll H m ds vs):IsAll H' m ds vs:=h.mono (λa o e _=>s a o e) λ_ _ _ z=>z
mutual
theorem Is.flat:∀{d:D}{v:V},d.flat=true->Is H m d v->Is H m' d v
 |.bv,_,_,h=>h
 |.bl _,_,_,h=>h
 |.int _,_,_,h=>h
 |.str _,_,_,h=>h
 |.tup ds,_,f,h=>by obtain⟨a,vs,e,h1,b⟩:=h;exact⟨a,vs,e,h1,IsAll.flat (by simpa only[D.flat]using f) b⟩
 |.lst ds,_,f,_=>by simp[D.flat]at f
 |.dZ ks ds,_,f,_=>by simp[D.flat]at f
theorem IsAll.flat:∀{ds:List D}{vs:List V},D.be ds=true->IsAll H m ds vs->IsAll H m' ds vs
 |[],_,_,h=>h
 |d::ds,_,f,h=>by obtain⟨v,r,e,h1,a⟩:=h;simp only[D.be,Vi]at f;exact⟨v,r,e,Is.flat f.1 h1,IsAll.flat f.2 a⟩
end
mutual
theorem Is.inj:∀{d e:D}{v:V},Is H m d v->Is H m' e v->d=e
 |.bv,e,_,h,g=>by cases e<;>first|rfl|(cases h;first|(obtain⟨_,_,z,_⟩:=g;cases z;done)|cases g)
 |.bl _,e,_,h,g=>by cases e<;>(cases h;first|(obtain⟨_,_,z,_⟩:=g;cases z;done)|(cases g;rfl)|cases g)
 |.int _,e,_,h,g=>by cases e<;>(cases h;first|(obtain⟨_,_,z,_⟩:=g;cases z;done)|(cases g;rfl)|cases g)
 |.str _,e,_,h,g=>by cases e<;>(cases h;first|(obtain⟨_,_,z,_⟩:=g;cases z;done)|(cases g;rfl)|cases g)
 |.tup ds,e,_,h,g=>by
  obtain⟨a,vs,rfl,h1,c⟩:=h;cases e with
  |tup es=>obtain⟨b,ws,z,g1,g2⟩:=g;cases z;rw[h1]at g1;cases g1;rw[IsAll.inj c g2]
  |lst es=>obtain⟨b,ws,z,g1,g2⟩:=g;cases z;rcases g1 with⟨g1,_⟩|⟨o,g1,_⟩<;>(rw[h1]at g1;cases g1)
  |dZ f es=>obtain⟨b,ws,z,g1,g2⟩:=g;cases z;exact(g1.1.no h1 tI_).elim
  |_=>cases g
 |.lst ds,e,_,h,g=>by
  obtain⟨a,vs,rfl,h1,c⟩:=h;cases e with
  |tup es=>obtain⟨b,ws,z,g1,g2⟩:=g;cases z;rcases h1 with⟨h1,_⟩|⟨o,h1,_⟩<;>(rw[h1]at g1;cases g1)
  |lst es=>
   obtain⟨b,ws,z,g1,g2⟩:=g;cases z;have e:vs=ws:=by rcases h1 with⟨h1,_⟩|⟨o,h1,_⟩<;>rcases g1 with⟨g1,_⟩|⟨i,g1,_⟩<;>(rw[h1]at g1;cases g1;try rfl)
   subst e;rw[IsAll.inj c g2]
  |dZ f es=>obtain⟨b,ws,z,g1,g2⟩:=g;cases z;rcases h1 with⟨h1,_⟩|⟨o,h1,_⟩<;>exact(g1.1.no h1 tI_).elim
  |_=>cases g
 |.dZ ks ds,e,_,h,g=>by
  obtain⟨a,vs,rfl,h1,c⟩:=h;cases e with
  |tup es=>obtain⟨b,ws,z,g1,g2⟩:=g;cases z;exact(h1.1.no g1 tI_).elim
  |lst es=>obtain⟨b,ws,z,g1,g2⟩:=g;cases z;rcases g1 with⟨g1,_⟩|⟨o,g1,_⟩<;>exact(h1.1.no g1 tI_).elim
  |dZ f es=>obtain⟨b,ws,z,g1,g2⟩:=g;cases z;obtain⟨e1,e2⟩:=h1.1.inj g1.1;subst e1 e2;rw[IsAll.inj c g2]
  |_=>cases g
theorem IsAll.inj:∀{ds es:List D}{vs:List V},IsAll H m ds vs->IsAll H m' es vs->ds=es
 |[],es,_,h,g=>by
  cases h;cases es with
  |nil=>rfl
  |cons e es=>obtain⟨_,_,z,_⟩:=g;cases z
 |d::ds,es,_,h,g=>by
  obtain⟨v,r,rfl,h1,a⟩:=h;cases es with
  |nil=>cases g
  |cons e es=>obtain⟨w,q,z,g1,g2⟩:=g;cases z;rw[Is.inj h1 g1,IsAll.inj a g2]
end
theorem IsAll.length:∀{ds:List D}{vs:List V},IsAll H m ds vs->vs.length=ds.length
 |[],_,h=>by cases h;rfl
 |d::ds,_,h=>by obtain⟨v,r,rfl,_,a⟩:=h;simp[IsAll.length a]
theorem IsAll.append:∀{ds es:List D}{vs ws:List V},IsAll H m ds vs->IsAll H m es ws->IsAll H m (ds++es) (vs++ws)
 |[],_,_,_,h,g=>by cases h;exact g
 |d::ds,_,_,_,h,g=>by obtain⟨v,r,rfl,h1,a⟩:=h;exact⟨v,r++_,rfl,h1,IsAll.append a g⟩
def IsAll.snoc(h:IsAll H m ds vs)(g:Is H m d v):IsAll H m (ds++[d]) (vs++[v]):=h.append ⟨v,[],rfl,g,rfl⟩
theorem IsAll.get:∀{ds:List D}{vs:List V}{i:Nat}{d:D},IsAll H m ds vs->ds[i]?=some d->∃v,vs[i]?=some v/\Is H m d v
 |[],_,_,_,_,e=>by simp at e
 |d::ds,_,0,_,h,e=>by obtain⟨v,r,rfl,h1,c⟩:=h;simp at e;subst e;exact⟨v,rfl,h1⟩
 |d::ds,_,i+1,_,h,e=>by obtain⟨v,r,rfl,h1,c⟩:=h;obtain⟨w,a,b⟩:=IsAll.get (i:=i) c (by simpa using e);exact⟨w,by simpa using a,b⟩
theorem IsAll.take:∀{ds:List D}{vs:List V}(n:Nat),IsAll H m ds vs->IsAll H m (ds.take n) (vs.take n)
 |_,_,0,_=>rfl
 |[],_,n+1,h=>by cases h;exact rfl
 |d::ds,_,n+1,h=>by obtain⟨v,r,rfl,h1,a⟩:=h;exact⟨v,r.take n,rfl,h1,IsAll.take n a⟩
theorem IsAll.drop:∀{ds:List D}{vs:List V}(n:Nat),IsAll H m ds vs->IsAll H m (ds.drop n) (vs.drop n)
 |_,_,0,h=>h
 |[],_,n+1,h=>by cases h;exact rfl
 |d::ds,_,n+1,h=>by obtain⟨v,r,rfl,h1,a⟩:=h;exact IsAll.drop n a
end
section
variable{s:Yx}{m m':Addr->Prop}
def Lc(ok:HOk P w H s.heap)(h:(H a=some (.lst vs)/\m a)\/∃o,H a=some (.ba o (.lst vs))/\m a) :
 ∃its:List YA,Vals vs its/\s.heap.IsList a its.toArray:=by
 have key:ObjOk P w H s.heap a (.lst vs)->∃its:List YA,Vals vs its/\s.heap.IsList a its.toArray:=λ⟨_,its,n,r,e⟩=>⟨its,r,⟨_,e,rfl,n,rfl⟩⟩;rcases h with⟨h,_⟩|⟨o,h,_⟩
 .exact key (ok a _ h)
 .exact key (ok a _ h).2
def Ld(ok:HOk P w H s.heap)(h:H a=some (.tup vs)):∃its:List YA,Vals vs its/\s.heap.IsTuple a its.toArray:=by obtain⟨_,its,r,e⟩:=ok a _ h;exact⟨its,r,e⟩
def Bk(n:Nat)(e:Nat->Bool):(List.range n).all e=true↔∀j,j<n->e j=true:=by simp[VJ,Vp]
theorem qR:∀(ds es:List D),eqDs ds es=true↔ds.length=es.length/\∀(j:Nat)(d e:D),ds[j]?=some d->es[j]?=some e->gw d e=true
 |[],[]=>by simp[eqDs]
 |[],e::es=>by simp[eqDs]
 |d::ds,[]=>by simp[eqDs]
 |d::ds,e::es=>by
  simp only[eqDs,Vi,qR ds es,U1,Nat.add_right_cancel_iff];constructor
  .rintro⟨h1,c,b⟩;refine⟨c,λj x y ex a=>?_⟩;cases j with
   |zero=>simp at ex a;subst ex;subst a;exact h1
   |succ j=>exact b j x y (by simpa using ex) (by simpa using a)
  .rintro⟨c,b⟩;exact⟨b 0 d e rfl rfl,c,λj x y ex a=>b (j+1) x y (by simpa using ex) (by simpa using a)⟩
theorem gx:∀{ds:List D}{j:Nat}{d:D},ds[j]?=some d->d.dep<=D.gJ ds
 |[],_,_,e=>by simp at e
 |d::ds,0,_,e=>by simp at e;subst e;simp only[D.gJ];lia
 |d::ds,j+1,x,e=>by have:=gx (ds:=ds) (j:=j) (d:=x) (by simpa using e);simp only[D.gJ];lia
def uB(ok:HOk P w H s.heap){A:YB}{ds es:List D}(h1:IsAll H m ds vs)(b:IsAll H m' es ws)(c:Vals vs its)(f:Vals ws its2)
 (rec:∀d∈ds,∀e∈es,∀(v w:V)(u u':YA),Is H m d v->Is H m' e w->RelV v u->RelV w u'->SeqAt.EqAt A.in1 s u u' (gw d e)) :
 ∀j (g:j<its.toArray.size) (h:j<its2.toArray.size),SeqAt.EqAt A.in1 s its.toArray[j] its2.toArray[j] (match ds[j]?,es[j]? with|some d,some e=>gw d e|_,_=>true):=by
 intro j g h;have p:=c.length;have q:=f.length;have r:=h1.length;have t:=b.length;have x:j<its.length:=by simpa using g
 have y:j<its2.length:=by simpa using h
 have k1:j<ds.length:=by lia
 have k2:j<es.length:=by lia
 obtain⟨v,k,z⟩:=h1.get (i:=j) (d:=ds[j]) (by simp[k1]);obtain⟨B,a,l⟩:=b.get (i:=j) (d:=es[j]) (by simp[k2]);obtain⟨u,C,E⟩:=c.get k;obtain⟨u',n,o⟩:=f.get a
 grind
theorem yE(c:ds.length=es.length) :
 ((List.range ds.length).all λj=>match ds[j]?,es[j]? with|some d,some e=>gw d e|_,_=>true)=eqDs ds es:=by
 rw[W4,Bk,qR];constructor
 .intro h;refine⟨c,λj d e b f=>?_⟩;have:=h j (UQ.mp b).1;rw[b,f]at this;exact this
 .rintro⟨_,h⟩ j g;have e1:ds[j]?=some ds[j]:=by simp[g]
  have a:j<es.length:=by lia
  have e2:es[j]?=some es[j]:=by simp[a]
  rw[e1,e2];exact h j _ _ e1 e2
theorem uC(a:ds.length≠es.length):eqDs ds es=false:=by grind [eqDs,qR]
end
section
variable{s:Yx}
abbrev ph(H:Hp)(s:Yx)(m m':Addr->Prop)(A:YB)(n:Nat):Prop:=∀(d e:D)(v w:V)(u u':YA),d.dep<n->e.dep<1000->Is H m d v->Is H m' e w->RelV v u->RelV w u'->SeqAt.EqAt A.in1 s u u' (gw d e)
section
def qS(ok:HOk P w H s.heap)(i:(D.lst l1).dep<=n)(k:(D.lst l2).dep<1000)(f:A.units<cLine)(q1:IsAll H m l1 vs1)(q2:IsAll H m' l2 vs2)(g:Vals vs1 its1)(h:Vals vs2 its2)(p1:s.heap.IsList a1 its1.toArray)(p2:s.heap.IsList a2 its2.toArray)
 (rec:ph H s m m' A n):SeqAt.RcAt A s (.ref a1) (.ref a2) (gw (.lst l1) (.lst l2)):=by
 have e1:its1.toArray.size=l1.length:=by rw[UZ,<- g.length,q1.length]
 have e2:its2.toArray.size=l2.length:=by rw[UZ,<- h.length,q2.length]
 have hd:∀d∈l1,d.dep<n:=λd hd=>by obtain⟨j,b⟩:=U3.mp hd;have:=gx b;simp only[D.dep]at i;lia
 have l:∀e∈l2,e.dep<1000:=λd hd=>by obtain⟨j,b⟩:=U3.mp hd;have:=gx b;simp only[D.dep]at k;lia
 by_cases a:l1.length=l2.length
 .have z:=SeqAt.RcAt.lists p1 p2 (by rw[e1,e2,a]) f (uB ok q1 q2 g h λd o e c v w u u' p q r t=>rec d e v w u u' (hd d o) (l e c) p q r t);rw[e1,yE a]at z;exact z
 .have z:=SeqAt.RcAt.lists_lengths p1 p2 (by rw[e1,e2];simpa using a) f;rw[show gw (.lst l1) (.lst l2)=eqDs l1 l2 from rfl,uC a];exact z
def uD(ok:HOk P w H s.heap)(i:(D.lst l1).dep<=n)(k:(D.lst l2).dep<1000)(f:A.units<cLine)(q1:IsAll H m l1 vs1)(q2:IsAll H m' l2 vs2)(g:Vals vs1 its1)(h:Vals vs2 its2)(p1:s.heap.IsList a1 its1.toArray)(p2:s.heap.IsList a2 its2.toArray)
 (rec:ph H s m m' A n):SeqAt.RcNeAt A s (.ref a1) (.ref a2) (!gw (.lst l1) (.lst l2)):=by
 have e1:its1.toArray.size=l1.length:=by rw[UZ,<- g.length,q1.length]
 have e2:its2.toArray.size=l2.length:=by rw[UZ,<- h.length,q2.length]
 have hd:∀d∈l1,d.dep<n:=λd hd=>by obtain⟨j,b⟩:=U3.mp hd;have:=gx b;simp only[D.dep]at i;lia
 have l:∀e∈l2,e.dep<1000:=λd hd=>by obtain⟨j,b⟩:=U3.mp hd;have:=gx b;simp only[D.dep]at k;lia
 by_cases a:l1.length=l2.length
 .have z:=SeqAt.RcNeAt.lists p1 p2 (by rw[e1,e2,a]) f (uB ok q1 q2 g h λd o e c v w u u' p q r t=>rec d e v w u u' (hd d o) (l e c) p q r t);rw[e1,yE a]at z;exact z
 .have z:=SeqAt.RcNeAt.lists_lengths p1 p2 (by rw[e1,e2];simpa using a) f;rw[show gw (.lst l1) (.lst l2)=eqDs l1 l2 from rfl,uC a];exact z
def zS:((List.range (min l1.length l2.length)).all (λj=>match l1[j]?,l2[j]? with|some d,some e=>gw d e|_,_=>true)&&l1.length==l2.length)=eqDs l1 l2:=by grind [yE,uC]
def tJ(ok:HOk P w H s.heap)(g:(D.tup l1).dep<=n)(h:(D.tup l2).dep<1000)(i:A.units<cLine)(q1:IsAll H m l1 vs1)(q2:IsAll H m' l2 vs2)(c:Vals vs1 its1)(f:Vals vs2 its2)(p1:s.heap.IsTuple a1 its1.toArray)(p2:s.heap.IsTuple a2 its2.toArray)
 (rec:ph H s m m' A n):SeqAt.RcAt A s (.ref a1) (.ref a2) (gw (.tup l1) (.tup l2)):=by
 have e1:its1.toArray.size=l1.length:=by rw[UZ,<- c.length,q1.length]
 have e2:its2.toArray.size=l2.length:=by rw[UZ,<- f.length,q2.length]
 have hd:∀d∈l1,d.dep<n:=λd hd=>by obtain⟨j,a⟩:=U3.mp hd;have:=gx a;simp only[D.dep]at g;lia
 have k:∀e∈l2,e.dep<1000:=λd hd=>by obtain⟨j,a⟩:=U3.mp hd;have:=gx a;simp only[D.dep]at h;lia
 have z:=SeqAt.RcAt.tuples p1 p2 i (uB ok q1 q2 c f λd l e b v w u u' o p q r=>rec d e v w u u' (hd d l) (k e b) o p q r);rw[e1,e2,zS]at z;exact z
def wv(ok:HOk P w H s.heap)(g:(D.tup l1).dep<=n)(h:(D.tup l2).dep<1000)(i:A.units<cLine)(q1:IsAll H m l1 vs1)(q2:IsAll H m' l2 vs2)(c:Vals vs1 its1)(f:Vals vs2 its2)(p1:s.heap.IsTuple a1 its1.toArray)(p2:s.heap.IsTuple a2 its2.toArray)
 (rec:ph H s m m' A n):SeqAt.RcNeAt A s (.ref a1) (.ref a2) (!gw (.tup l1) (.tup l2)):=by
 have e1:its1.toArray.size=l1.length:=by rw[UZ,<- c.length,q1.length]
 have e2:its2.toArray.size=l2.length:=by rw[UZ,<- f.length,q2.length]
 have hd:∀d∈l1,d.dep<n:=λd hd=>by obtain⟨j,a⟩:=U3.mp hd;have:=gx a;simp only[D.dep]at g;lia
 have k:∀e∈l2,e.dep<1000:=λd hd=>by obtain⟨j,a⟩:=U3.mp hd;have:=gx a;simp only[D.dep]at h;lia
 have z:=SeqAt.RcNeAt.tuples p1 p2 i (uB ok q1 q2 c f λd l e b v w u u' o p q r=>rec d e v w u u' (hd d l) (k e b) o p q r);rw[e1,e2,zS]at z;exact z
def ww(h:SeqAt.RcAt A s (.ref a1) (.ref a2) k)(hs:a1=a2->k=true):SeqAt.EqAt A s (.ref a1) (.ref a2) k:=by
 by_cases e:a1=a2
 .subst e;rw[hs rfl];exact SeqAt.EqAt.same _
 .exact SeqAt.EqAt.of_refs e h
end
def Is.shape(ok:HOk P w H s.heap)(c:d.dep<1000)(h:Is H m d v)(r:RelV v u):(d=.bv/\u=.none)\/(∃b,d=.bl b/\u=.bool b)\/(∃i t,d=.int i/\u=.int i t)\/(∃x t,d=.str x/\u=.str x t)\/
 (∃l a vs its,d=.lst l/\v=.ref a/\u=.ref a/\IsAll H m l vs/\Vals vs its/\s.heap.IsList a its.toArray)\/∃l a vs its,d=.tup l/\v=.ref a/\u=.ref a/\IsAll H m l vs/\Vals vs its/\s.heap.IsTuple a its.toArray:=by
 cases d with
 |bv=>cases h;cases r;exact .inl ⟨rfl,rfl⟩
 |bl b=>cases h;cases r;exact .inr (.inl ⟨b,rfl,rfl⟩)
 |int i=>cases h;obtain⟨t,rfl⟩:=r;exact .inr (.inr (.inl ⟨i,t,rfl,rfl⟩))
 |str x=>cases h;obtain⟨t,rfl⟩:=r;exact .inr (.inr (.inr (.inl ⟨x,t,rfl,rfl⟩)))
 |lst l=>obtain⟨a,vs,rfl,g,q⟩:=h;cases r;obtain⟨its,y,p⟩:=Lc ok g;exact .inr (.inr (.inr (.inr (.inl ⟨l,a,vs,its,rfl,rfl,rfl,q,y,p⟩))))
 |tup l=>obtain⟨a,vs,rfl,g,q⟩:=h;cases r;obtain⟨its,y,p⟩:=Ld ok g;exact .inr (.inr (.inr (.inr (.inr ⟨l,a,vs,its,rfl,rfl,rfl,q,y,p⟩))))
 |dZ k l=>exact absurd c (by simp only[D.dep];lia)
def GW(ok:HOk P w H s.heap)(a:A.units<cLine)(rec:ph H s m m' A n)(x:d.dep<=n)(G:n<1000)(o:e.dep<1000)(h1:Is H m d v)(y:Is H m' e w')(z:RelV v u)(B:RelV w' u') :
 SeqAt.RcAt A s u u' (gw d e):=by
 rcases h1.shape ok (by lia) z with⟨rfl,rfl⟩|⟨f,rfl,rfl⟩|⟨g,b,rfl,rfl⟩|⟨x1,b,rfl,rfl⟩|⟨C,D,p,k,rfl,rfl,rfl,q1,q,p1⟩|⟨C,D,p,k,rfl,rfl,rfl,q1,q,p1⟩<;>rcases y.shape ok o B with⟨rfl,rfl⟩|⟨h,rfl,rfl⟩|⟨i,c,rfl,rfl⟩|⟨j,c,rfl,rfl⟩|⟨E,F,r,l,rfl,rfl,rfl,q2,t,p2⟩|⟨E,F,r,l,rfl,rfl,rfl,q2,t,p2⟩;exact .none_none;exact .none_bool h;exact .none_int i c;exact .none_str j c;exact .none_list p2 a;exact .none_tuple p2 a;exact .bool_none f;exact .bool_bool f h;exact .bool_int f i c;exact .bool_str f j c;exact .bool_list f p2 a;exact .bool_tuple f p2 a;exact .int_none g b;exact .int_bool g b h;exact .int_int g b i c;exact .int_str g b j c;exact .int_list g b p2 a;exact .int_tuple g b p2 a;exact .str_none x1 b;exact .str_bool x1 b h;exact .str_int x1 b i c;exact .str_str x1 b j c;exact .str_list x1 b p2 a;exact .str_tuple x1 b p2 a;exact .list_none p1 a;exact .list_bool h p1 a;exact .list_int i c p1 a;exact .list_str j c p1 a;exact qS ok x o a q1 q2 q t p1 p2 rec;exact .list_tuple p1 p2 a;exact .tuple_none p1 a;exact .tuple_bool h p1 a;exact .tuple_int i c p1 a;exact .tuple_str j c p1 a;exact .tuple_list p1 p2 a;exact tJ ok x o a q1 q2 q t p1 p2 rec
def GX(ok:HOk P w H s.heap)(a:A.units<cLine)(rec:ph H s m m' A n)(x:d.dep<=n)(G:n<1000)(o:e.dep<1000)(h1:Is H m d v)(y:Is H m' e w')(z:RelV v u)(B:RelV w' u') :
 SeqAt.RcNeAt A s u u' (!gw d e):=by
 rcases h1.shape ok (by lia) z with⟨rfl,rfl⟩|⟨f,rfl,rfl⟩|⟨g,b,rfl,rfl⟩|⟨x1,b,rfl,rfl⟩|⟨C,D,p,k,rfl,rfl,rfl,q1,q,p1⟩|⟨C,D,p,k,rfl,rfl,rfl,q1,q,p1⟩<;>rcases y.shape ok o B with⟨rfl,rfl⟩|⟨h,rfl,rfl⟩|⟨i,c,rfl,rfl⟩|⟨j,c,rfl,rfl⟩|⟨E,F,r,l,rfl,rfl,rfl,q2,t,p2⟩|⟨E,F,r,l,rfl,rfl,rfl,q2,t,p2⟩;exact .none_none;exact .none_bool h;exact .none_int i c;exact .none_str j c;exact .none_list p2 a;exact .none_tuple p2 a;exact .bool_none f;exact .bool_bool f h;exact .bool_int f i c;exact .bool_str f j c;exact .bool_list f p2 a;exact .bool_tuple f p2 a;exact .int_none g b;exact .int_bool g b h;exact .int_int g b i c;exact .int_str g b j c;exact .int_list g b p2 a;exact .int_tuple g b p2 a;exact .str_none x1 b;exact .str_bool x1 b h;exact .str_int x1 b i c;exact .str_str x1 b j c;exact .str_list x1 b p2 a;exact .str_tuple x1 b p2 a;exact .list_none p1 a;exact .list_bool h p1 a;exact .list_int i c p1 a;exact .list_str j c p1 a;exact uD ok x o a q1 q2 q t p1 p2 rec;exact .list_tuple p1 p2 a;exact .tuple_none p1 a;exact .tuple_bool h p1 a;exact .tuple_int i c p1 a;exact .tuple_str j c p1 a;exact .tuple_list p1 p2 a;exact wv ok x o a q1 q2 q t p1 p2 rec
def zT(ok:HOk P w H s.heap)(a:A.units<cLine)(rec:ph H s m m' A n)(y:d.dep<=n)(I:n<1000)(o:e.dep<1000)(h1:Is H m d v)(p:Is H m' e w')(B:RelV v u)(C:RelV w' u') :
 SeqAt.EqAt A s u u' (gw d e):=by
 rcases h1.shape ok (by lia) B with⟨rfl,rfl⟩|⟨f,rfl,rfl⟩|⟨g,b,rfl,rfl⟩|⟨x1,b,rfl,rfl⟩|⟨D,E,q,k,rfl,rfl,rfl,q1,r,p1⟩|⟨D,E,q,k,rfl,rfl,rfl,q1,r,p1⟩<;>rcases p.shape ok o C with⟨rfl,rfl⟩|⟨h,rfl,rfl⟩|⟨i,c,rfl,rfl⟩|⟨j,c,rfl,rfl⟩|⟨F,G,t,l,rfl,rfl,rfl,q2,x,p2⟩|⟨F,G,t,l,rfl,rfl,rfl,q2,x,p2⟩;exact .same _;exact .none_bool h;exact .none_int i c;exact .none_str j c;exact .none_list p2 a;exact .none_tuple p2 a;exact .bool_none f;exact .bool_bool f h;exact .bool_int f i c;exact .bool_str f j c;exact .bool_list f p2 a;exact .bool_tuple f p2 a;exact .int_none g b;exact .int_bool g b h;exact .int_int g b i c;exact .int_str g b j c;exact .int_list g b p2 a;exact .int_tuple g b p2 a;exact .str_none x1 b;exact .str_bool x1 b h;exact .str_int x1 b i c;exact .str_str x1 b j c;exact .str_list x1 b p2 a;exact .str_tuple x1 b p2 a;exact .list_none p1 a;exact .list_bool h p1 a;exact .list_int i c p1 a;exact .list_str j c p1 a;exact ww (qS ok y o a q1 q2 r x p1 p2 rec) (λz=>by subst z;rw[Is.inj h1 p];exact m5 _);exact .list_tuple p1 p2 a;exact .tuple_none p1 a;exact .tuple_bool h p1 a;exact .tuple_int i c p1 a;exact .tuple_str j c p1 a;exact .tuple_list p1 p2 a;exact ww (tJ ok y o a q1 q2 r x p1 p2 rec) (λz=>by subst z;rw[Is.inj h1 p];exact m5 _)
theorem DA(ok:HOk P w H s.heap):∀(n:Nat)(A:YB){d e:D}{v c:V}{u u':YA},A.units+n<cLine->n<1000->d.dep<=n->e.dep<1000->Is H m d v->Is H m' e c->RelV v u->RelV c u'->SeqAt.EqAt A s u u' (gw d e)
 |0,A,d,e,v,c,u,u',j,f,g,h,h1,i,a,b=>zT ok (by lia) (λd e v w u u' hd=>absurd hd (by lia)) g f h h1 i a b
 |n+1,A,d,e,v,c,u,u',j,f,g,h,h1,i,a,b=>zT ok (by lia) (λd e v w u u' hd k l o a b=>DA ok n A.in1 (by show A.units+1+n<cLine;lia) (by lia) (by lia) k l o a b) g f h h1 i a b
def DB(ok:HOk P w H s.heap)(h:A.units+n<cLine)(i:n<1000):ph H s m m' A n:=λd e v w u u' hd a b c f g=>DA ok (n-1) A.in1 (by show A.units+1+(n-1)<cLine;lia) (by lia) (by lia) a b c f g
end
abbrev St:=L2.St
inductive Res(α:Type) where
 |stuck|ok (a:α)|exc (c:Str)
noncomputable def Res.bind{α b:Type}:Res α->(α->Res b)->Res b
 |.stuck,_=>.stuck
 |.exc c,_=>.exc c
 |.ok a,k=>k a
@[simp] theorem Res.iV {α b:Type}(a:α)(k:α->Res b):(Res.ok a).bind k=k a:=rfl
inductive Kd where
 |no|tr (d:D)|ds (d:D)
inductive Sl where
 |val (d:D) (fr:Bool)|own (ds:List D) (fr:Bool)|l7 (d:D)|Cp (d:D)
abbrev En:=List (Option Sl)
inductive R where
 |val (d:D) (fr:Bool) (al:List Nat)|new (ds:List D) (fr:Bool)|jm (d:D)
noncomputable def R.d:R->D
 |.val d _ _=>d
 |.new ds _=>.lst ds
 |.jm d=>d
noncomputable def R.fr:R->Bool
 |.val _ f _=>f
 |.new _ f=>f
 |.jm _=>true
noncomputable def R.al:R->List Nat
 |.val _ _ al=>al
 |.new _ _=>[]
 |.jm _=>[]
def jy(d:D)(fr:Bool)(al:List Nat):R:=if d.flat then .val d true []else .val d fr al
structure Gd where
 H₀:Hp
 Ma:Addr->Prop
 Z:Addr->Prop
 root:Option V
 RE:Option V
abbrev OQ(H:Hp)(Ma:Addr->Prop):Gd:=⟨H,Ma,λ_=>False,none,none⟩
def MuZ(g:Gd)(H:Hp)(a:Addr):Prop:=Mu H a\/(g.Z a/\∃o u,H a=some (.ba o u))
theorem MuZ.same(h:MuZ g H a)(s:∀o,H a=some o->H' a=some o):MuZ g H' a:=h.imp (λz=>z.same s) λ⟨z,o,u,e⟩=>⟨z,o,u,s _ e⟩
def gm(g:Gd)(M:Addr->Prop)(fr:Bool)(a:Addr):Prop:=M a/\(fr=true->g.H₀ a=none)
abbrev Pr:=Nat->Addr->Prop
def vmsk(g:Gd)(M:Addr->Prop)(fr:Bool)(b:Pr)(al:List Nat)(a:Addr):Prop:=gm g M fr a\/∃i,i∈al/\b i a
mutual
noncomputable def IsSh(H:Hp)(m:Addr->Prop):D->V->Prop
 |.tup ds,v=>∃a vs,v=.ref a/\H a=some (.tup vs)/\IsShs H m ds vs
 |.lst _,v=>∃a vs,v=.ref a/\H a=some (.lst vs)/\m a
 |_,_=>True
noncomputable def IsShs(H:Hp)(m:Addr->Prop):List D->List V->Prop
 |[],_=>True
 |d::ds,vs=>∃v r,vs=v::r/\IsSh H m d v/\IsShs H m ds r
end
def Dst(H:Hp)(T:Addr->Prop)(v:V):Prop:=∃(a:Addr)(vs:List V),v=.ref a/\T a/\(H a=some (.lst vs)\/(∃kvs,H a=some (.dK kvs)/\vs=kvs.map Prod.snd)\/(H a=some (.dT [])/\vs=[]))/\V.ref a∉vs/\∀(i j:Nat)(b:Addr),vs[i]?=some (V.ref b)->vs[j]?=some (V.ref b)->i=j
def Dst.mono(kp:∀a o,T a->H a=some o->H' a=some o)(b:∀a,T a->T' a)(h:Dst H T v):Dst H' T' v:=by obtain⟨a,vs,e,ta,h1,c⟩:=h;exact⟨a,vs,e,b a ta,h1.imp (kp a _ ta) (.imp (λ⟨kvs,q,z⟩=>⟨kvs,kp a _ ta q,z⟩) λ⟨q,z⟩=>⟨kp a _ ta q,z⟩),c⟩
def KdOk(H:Hp)(T:Addr->Prop)(v:V):Kd->Prop
 |.no=>True
 |.tr d=>Is H T d v
 |.ds d=>Is H T d v/\Dst H T v
theorem KdOk.mono(kp:∀a o,H a=some o->(T a\/i6 o)->H' a=some o)(h:KdOk H T v k):KdOk H' T v k:=by
 cases k with
 |no=>exact h
 |tr d=>exact Is.mono kp (λ_ _ _ z=>z) h
 |ds d=>exact⟨Is.mono kp (λ_ _ _ z=>z) h.1,h.2.mono (λa o z e=>kp a o e (.inl z)) λ_ z=>z⟩
def Gd.rt(g:Gd)(n:Nat):Option V:=if n=0 then g.root else g.RE
def SlOk(g:Gd)(M T:Addr->Prop)(H:Hp)(v:V):Sl->Prop
 |.val d fr=>Is H (gm g M fr) d v
 |.own ds fr=>∃a vs,v=.ref a/\H a=some (.lst vs)/\(∀b,T b↔b=a)/\IsAll H (gm g M fr) ds vs
 |.l7 d=>Is H T d v
 |.Cp d=>IsSh H T d v
noncomputable def Sl.RF:Sl->Bool
 |.val _ _=>false
 |_=>true
def iF(env:En)(j:Nat):Bool:=match env[j]? with
 |some (some sl)=>sl.RF
 |_=>false
structure Rep(g:Gd) (M:Addr->Prop) (ρ:Pr) (env:En) (σ:St) (H:Hp):Prop where
 same:Same g.H₀ H
 jY:∀a,M a->H a≠none
 vx:∀a,M a->g.H₀ a=none\/g.Ma a
 fl:∀a,M a->g.H₀ a=none->MuZ g H a
 slot:∀(i:Nat)(sl:Sl),env[i]?=some (some sl)->∃v,σ[i]?=some (some v)/\SlOk g M (ρ i) H v sl
 ci:∀(i:Nat)(a:Addr),ρ i a->¬M a/\g.H₀ a=none/\Mu H a
 apart:∀(i j:Nat)(a:Addr),ρ i a->ρ j a->i=j
 ow:∀(i:Nat)(a:Addr),ρ i a->iF env i=true
 len:env.length=σ.length
 zz:∀a,g.Z a->H a≠none
def ROk(g:Gd)(M:Addr->Prop)(b:Pr)(c H:Hp)(v:V):R->Prop
 |.val d fr al=>Is H (vmsk g M fr b al) d v
 |.new ds fr=>∃a vs,v=.ref a/\H a=some (.lst vs)/\¬M a/\c a=none/\(∀i,¬b i a)/\IsAll H (gm g M fr) ds vs
 |.jm d=>∃T:Addr->Prop,(∀a,T a->¬M a/\c a=none/\Mu H a/\∀i,¬b i a)/\Is H T d v
structure Ext(M:Addr->Prop) (H:Hp) (M':Addr->Prop) (H':Hp):Prop where
 m:∀a,M a->M' a
 h:Same H H'
 n:∀a,M' a->M a\/H a=none
theorem Ext.refl(M:Addr->Prop)(H:Hp):Ext M H M H:=⟨λ_ z=>z,Same.refl H,λ_ z=>.inl z⟩
theorem Ext.trans{M M1 M2:Addr->Prop}(a:Ext M H M1 H1)(b:Ext M1 H1 M2 H2):Ext M H M2 H2:=⟨λx z=>b.m x (a.m x z),a.h.trans b.h,λx z=>(b.n x z).elim (a.n x) λw=>.inr (a.h.free w)⟩
section
mutual
theorem IsSh.mono(kp:∀a o,H a=some o->i6 o->H' a=some o)(c:∀a vs,m a->H a=some (.lst vs)->∃vs',H' a=some (.lst vs'))(f:∀a,m a->m' a):∀{d:D}{v:V},IsSh H m d v->IsSh H' m' d v
 |.bv,_,h=>h
 |.bl _,_,h=>h
 |.int _,_,h=>h
 |.str _,_,h=>h
 |.tup ds,_,h=>by obtain⟨a,vs,e,h1,b⟩:=h;exact⟨a,vs,e,kp a _ h1 tI_,IsShs.mono kp c f b⟩
 |.lst ds,_,h=>by obtain⟨a,vs,e,h1,b⟩:=h;obtain⟨vs',g⟩:=c a vs b h1;exact⟨a,vs',e,g,f a b⟩
 |.dZ _ _,_,h=>h
theorem IsShs.mono(kp:∀a o,H a=some o->i6 o->H' a=some o)(b:∀a vs,m a->H a=some (.lst vs)->∃vs',H' a=some (.lst vs'))(c:∀a,m a->m' a):∀{ds:List D}{vs:List V},IsShs H m ds vs->IsShs H' m' ds vs
 |[],_,h=>h
 |d::ds,_,h=>by obtain⟨v,r,e,h1,f⟩:=h;exact⟨v,r,e,IsSh.mono kp b c h1,IsShs.mono kp b c f⟩
end
def gm.mono(b:∀a,M a->M' a)(h:gm g M fr a):gm g M' fr a:=⟨b a h.1,h.2⟩
theorem vmsk.mono(b:∀a,M a->M' a)(h:vmsk g M fr ρ al a):vmsk g M' fr ρ al a:=h.imp (gm.mono b) id
def Is.ext(e:Ext M H M' H')(h:Is H (vmsk g M fr ρ al) d v):Is H' (vmsk g M' fr ρ al) d v:=h.mono (λa o q _=>e.h a o q) λ_ _ _ z=>z.mono e.m
def IsAll.ext(e:Ext M H M' H')(h:IsAll H (vmsk g M fr ρ al) ds vs):IsAll H' (vmsk g M' fr ρ al) ds vs:=h.mono (λa o q _=>e.h a o q) λ_ _ _ z=>z.mono e.m
theorem SlOk.weak(c:∀a,M a->M' a)(h:SlOk g M T H v sl):SlOk g M' T H v sl:=by
 cases sl with
 |val d fr=>exact Is.weak (λb z=>gm.mono c z) h
 |own ds fr=>obtain⟨b,vs,rfl,h1,e,f⟩:=h;exact⟨b,vs,rfl,h1,e,IsAll.weak (λb z=>gm.mono c z) f⟩
 |l7 d=>exact h
 |Cp d=>exact h
theorem SlOk.same(s:Same H H')(h:SlOk g M T H v sl):SlOk g M T H' v sl:=by
 cases sl with
 |val d fr=>exact Is.same s h
 |own ds fr=>obtain⟨b,vs,rfl,h1,c,f⟩:=h;exact⟨b,vs,rfl,s _ _ h1,c,IsAll.same s f⟩
 |l7 d=>exact Is.same s h
 |Cp d=>exact IsSh.mono (λa o e _=>s a o e) (λa vs _ e=>⟨vs,s _ _ e⟩) (λ_ z=>z) h
def Rep.FR{T:Addr->Prop}(r:Rep g M ρ env σ H)(ht:∀a,T a->Mu H a/\g.H₀ a=none/\∀i,¬ρ i a):Rep g (λb=>M b\/T b) ρ env σ H where
 same:=r.same
 jY:=λb hb=>hb.elim (r.jY b) λe=>(ht b e).1.some
 vx:=λb hb=>hb.elim (r.vx b) λe=>.inl (ht b e).2.1
 fl:=λb hb h0=>hb.elim (λz=>r.fl b z h0) λe=>.inl (ht b e).1
 slot:=λi sl e=>by obtain⟨v,ev,s⟩:=r.slot i sl e;exact⟨v,ev,SlOk.weak (λ_=>.inl) s⟩
 ci:=λi a h=>⟨λz=>z.elim (r.ci i a h).1 λz=>(ht a z).2.2 i h,(r.ci i a h).2⟩
 apart:=r.apart
 ow:=r.ow
 len:=r.len
 zz:=r.zz
def Rep.more{a:Addr}(r:Rep g M ρ env σ H)(ha:H a=some (.lst ws))(c:g.H₀ a=none)(no:∀i,¬ρ i a):Rep g (λb=>M b\/b=a) ρ env σ H:=r.FR λb e=>by subst e;exact⟨Mu.lst ha,c,no⟩
def Rep.grow(r:Rep g M ρ env σ H)(s:Same H H'):Rep g M ρ env σ H' where
 same:=r.same.trans s
 jY:=λa ha e=>by
  cases q:H a with
  |none=>exact r.jY a ha q
  |some o=>rw[s a o q]at e;cases e
 vx:=r.vx
 fl:=λa ha h0=>(r.fl a ha h0).same λo e=>s a o e
 slot:=λi sl e=>by obtain⟨v,ev,k⟩:=r.slot i sl e;exact⟨v,ev,SlOk.same s k⟩
 ci:=λi a h=>let ⟨a1,a2,a3⟩:=r.ci i a h;⟨a1,a2,a3.same λo e=>s a o e⟩
 apart:=r.apart
 ow:=r.ow
 len:=r.len
 zz:=λa z e=>by
  cases q:H a with
  |none=>exact r.zz a z q
  |some o=>rw[s a o q]at e;cases e
theorem Rep.free(r:Rep g M ρ env σ H)(h:H a=none):g.H₀ a=none/\¬M a/\∀i,¬ρ i a:=by refine⟨r.same.free h,λz=>r.jY a z h,λi o=>?_⟩;exact(r.ci i a o).2.2.some h
def aQ(h:H a=none):Same H (aP H a o):=λb u e=>by rw[af (av e h)];exact e
theorem ROk.is(c:Rep g M ρ env σ H)(x:Ext M0 H0 M H)(i:Same g.H₀ H0)(h:ROk g M ρ H0 H v r):∃f,Ext M0 H0 f H/\(∀a,M a->f a)/\Rep g f ρ env σ H/\Is H (vmsk g f r.fr ρ r.al) r.d v:=by
 cases r with
 |val d fr al=>exact⟨M,x,λ_ z=>z,c,h⟩
 |new ds fr=>obtain⟨a,vs,rfl,h1,u,k,o,p⟩:=h;have l:g.H₀ a=none:=i.free k;exact⟨λb=>M b\/b=a,⟨λb z=>.inl (x.m b z),x.h,λb z=>z.elim (x.n b) λe=>.inr (e▸k)⟩,λ_=>.inl,c.more h1 l o,a,vs,rfl,.inl ⟨h1,.inl ⟨.inr rfl,λ_=>l⟩⟩,IsAll.weak (λb z=>.inl (gm.mono (λ_=>.inl) z)) p⟩
 |jm d=>obtain⟨T,j,is⟩:=h;exact⟨λb=>M b\/T b,⟨λb z=>.inl (x.m b z),x.h,λb z=>z.elim (x.n b) λe=>.inr (j b e).2.1⟩,λ_=>.inl,c.FR λa z=>let ⟨w,q,s,t⟩:=j a z;⟨s,i.free q,t⟩,Is.weak (λb z=>.inl ⟨.inr z,λ_=>i.free (j b z).2.1⟩) is⟩
theorem ROk.jy(h:Is H (vmsk g M fr ρ al) d v):ROk g M ρ H0 H v (jy d fr al):=by
 unfold L3.jy;split
 .exact Is.flat (by assumption) h
 .exact h
def ROk.back(s:Same H1 H0)(h:ROk g M ρ H0 H v r):ROk g M ρ H1 H v r:=by
 cases r with
 |val d fr al=>exact h
 |new ds fr=>obtain⟨a,vs,rfl,h1,b,c,e,f⟩:=h;exact⟨a,vs,rfl,h1,b,s.free c,e,f⟩
 |jm d=>obtain⟨T,i,is⟩:=h;exact⟨T,λa z=>let ⟨j,k,l⟩:=i a z;⟨j,s.free k,l⟩,is⟩
end
def GY(mg:Str->Option YA)(E:XK)(g:Gd)(c:Str):Prop:=∀cls a H',mg c=some cls->Same g.H₀ H'->E cls a H'
section
variable(mg:Str->Option YA)(E:XK)(g:Gd)(M:Addr->Prop)(ρ:Pr)(env:En)(σ:St)(H:Hp)
def PostE(Q:VK):Res R->Prop
 |.stuck=>False
 |.exc c=>GY mg E g c
 |.ok r=>∀v a H',Ext M H a H'->Rep g a ρ env σ H'->ROk g a ρ H H' v r->Q v H'
def b5(rs:List R):Bool:=rs.all R.fr
def cO(rs:List R):List Nat:=rs.flatMap R.al
def PostA(Q:List V->Hp->Prop):Res (List R)->Prop
 |.stuck=>False
 |.exc c=>GY mg E g c
 |.ok rs=>∀vs a H',Ext M H a H'->Rep g a ρ env σ H'->IsAll H' (vmsk g a (b5 rs) ρ (cO rs)) (rs.map R.d) vs->Q vs H'
def PostT(Q:Bool->Hp->Prop):Res Bool->Prop
 |.stuck=>False
 |.exc c=>GY mg E g c
 |.ok b=>∀a H',Ext M H a H'->Rep g a ρ env σ H'->Q b H'
end
def Snd(mg:Str->Option YA)(E:XK)(t:TE)(f:En->Res R):Prop:=∀g M a env σ H Q,Rep g M a env σ H->PostE mg E g M a env σ H Q (f env)->t σ H Q
def SndA(mg:Str->Option YA)(E:XK)(t:TA)(f:En->Res (List R)):Prop:=∀g M a env σ H Q,Rep g M a env σ H->PostA mg E g M a env σ H Q (f env)->t σ H Q
def SndT(mg:Str->Option YA)(E:XK)(t:TT)(f:En->Res Bool):Prop:=∀g M a env σ H Q,Rep g M a env σ H->PostT mg E g M a env σ H Q (f env)->t σ H Q
def PD(X:Cx)(E:XK)(e:Expr)(f:En->Res R):Prop:=∃t,PE X e t/\Snd X.mg E t f
def Cr(X:Cx)(E:XK)(es:List Expr)(f:En->Res (List R)):Prop:=∃t,PA X es t/\SndA X.mg E t f
def xV(X:Cx)(E:XK)(e:Expr)(f:En->Res Bool):Prop:=∃t,PT X e t/\SndT X.mg E t f
def PWD(X:Cx)(E:XK)(e:Expr)(f:En->Res Bool):Prop:=∃t,PW X e t/\SndT X.mg E t f
theorem PWD.pt(h:PWD X E e f):xV X E e f:=let ⟨t,a,b⟩:=h;⟨t,a.pt,b⟩
section
def PostE.ext(e:Ext M H M' H')(p:PostE mg E g M ρ env σ H Q r):PostE mg E g M' ρ env σ H' Q r:=by
 cases r with
 |stuck=>exact p
 |exc c=>exact p
 |ok r=>exact λv M2 b e2 a ro=>p v M2 b (e.trans e2) a (ro.back e.h)
def PostA.ext(e:Ext M H M' H')(p:PostA mg E g M ρ env σ H Q r):PostA mg E g M' ρ env σ H' Q r:=by
 cases r with
 |stuck=>exact p
 |exc c=>exact p
 |ok r=>exact λv M2 a e2=>p v M2 a (e.trans e2)
def PostT.ext(e:Ext M H M' H')(p:PostT mg E g M ρ env σ H Q r):PostT mg E g M' ρ env σ H' Q r:=by
 cases r with
 |stuck=>exact p
 |exc c=>exact p
 |ok r=>exact λM2 a e2=>p M2 a (e.trans e2)
def PostE.val(p:PostE mg E g M ρ env σ H Q (.ok (jy d fr al)))(a:Rep g M ρ env σ H)(h:Is H (vmsk g M fr ρ al) d v):Q v H:=p v M H (Ext.refl M H) a (ROk.jy h)
theorem PostE.new(p:PostE mg E g M ρ env σ H Q (.ok (.new ds fr)))(b:Rep g M ρ env σ H)(ha:H a=none)(h:IsAll H (gm g M fr) ds vs):Q (.ref a) (aP H a (.lst vs)):=by have s:Same H (aP H a (.lst vs)):=aQ ha;obtain⟨e,c,d⟩:=b.free ha;exact p _ M _ ⟨λ_ z=>z,s,λ_ z=>.inl z⟩ (b.grow s) ⟨a,vs,rfl,ag,c,ha,d,IsAll.same s h⟩
theorem PostE.tup(p:PostE mg E g M ρ env σ H Q (.ok (jy (.tup ds) fr al)))(b:Rep g M ρ env σ H)(ha:H a=none)(h:IsAll H (vmsk g M fr ρ al) ds vs):Q (.ref a) (aP H a (.tup vs)):=by have s:Same H (aP H a (.tup vs)):=aQ ha;exact p _ M _ ⟨λ_ z=>z,s,λ_ z=>.inl z⟩ (b.grow s) (ROk.jy ⟨a,vs,rfl,ag,IsAll.same s h⟩)
def Snd.one{t:TE}{f:En->Res R}(h:Snd mg E t f)(i:Rep g M ρ env σ H){α:Type}{K:R->Res α}{P:(M:Addr->Prop)->(H:Hp)->Res α->Prop}{Q:VK}
 (b:P M H ((f env).bind K)) (hs:∀M H,P M H .stuck->False) (m:∀M H c,P M H (.exc c)->GY mg E g c) (n:∀M H a H' r,Ext M H a H'->P M H r->P a H' r)
 (k:∀r v a H',Ext M H a H'->Rep g a ρ env σ H'->Is H' (vmsk g a r.fr ρ r.al) r.d v->P a H' (K r)->Q v H'):t σ H Q:=by
 refine h g M ρ env σ H Q i ?_;cases e:f env with
 |stuck=>rw[e]at b;exact hs _ _ b
 |exc c=>rw[e]at b;exact m _ _ c b
 |ok r=>rw[e]at b;intro v M1 o e1 j ro;obtain⟨M2,e2,_,l,is⟩:=ro.is j e1 i.same;exact k r v M2 o e2 l is (n _ _ _ _ _ e2 b)
def Snd.fK{f:En->Res R}(h:Snd mg E t f)(b:Rep g M ρ env σ H){K:R->Res R}(c:PostE mg E g M ρ env σ H Q' ((f env).bind K))
 (k:∀r v a H',Ext M H a H'->Rep g a ρ env σ H'->Is H' (vmsk g a r.fr ρ r.al) r.d v->PostE mg E g a ρ env σ H' Q' (K r)->Q v H'):t σ H Q:=
 h.one b (P:=λM H r=>PostE mg E g M ρ env σ H Q' r) c (λ_ _ z=>z) (λ_ _ _ z=>z) (λ_ _ _ _ _ e p=>p.ext e) k
def Snd.NU{f:En->Res R}(h:Snd mg E t f)(b:Rep g M ρ env σ H){K:R->Res (List R)}{c:List V->Hp->Prop}(i:PostA mg E g M ρ env σ H c ((f env).bind K))
 (k:∀r v a H',Ext M H a H'->Rep g a ρ env σ H'->Is H' (vmsk g a r.fr ρ r.al) r.d v->PostA mg E g a ρ env σ H' c (K r)->Q v H'):t σ H Q:=
 h.one b (P:=λM H r=>PostA mg E g M ρ env σ H c r) i (λ_ _ z=>z) (λ_ _ _ z=>z) (λ_ _ _ _ _ e p=>p.ext e) k
def Snd.xO{f:En->Res R}(h:Snd mg E t f)(b:Rep g M ρ env σ H){K:R->Res Bool}{c:Bool->Hp->Prop}(i:PostT mg E g M ρ env σ H c ((f env).bind K))
 (k:∀r v a H',Ext M H a H'->Rep g a ρ env σ H'->Is H' (vmsk g a r.fr ρ r.al) r.d v->PostT mg E g a ρ env σ H' c (K r)->Q v H'):t σ H Q:=
 h.one b (P:=λM H r=>PostT mg E g M ρ env σ H c r) i (λ_ _ z=>z) (λ_ _ _ z=>z) (λ_ _ _ _ _ e p=>p.ext e) k
def Snd.Ck{fa i:En->Res R}(ha:Snd mg E ta fa)(l:Snd mg E tb i)(f:Rep g M ρ env σ H){K:R->R->Res R}{S:V->V->Hp->Prop}
 (m:PostE mg E g M ρ env σ H Q' ((fa env).bind λra=>(i env).bind λa=>K ra a))
 (k:∀ra a x y e H',Rep g e ρ env σ H'->Is H' (vmsk g e ra.fr ρ ra.al) ra.d x->Is H' (vmsk g e a.fr ρ a.al) a.d y->PostE mg E g e ρ env σ H' Q' (K ra a)->S x y H') :
 ta σ H λx j=>tb σ j λy h=>S x y h:=
 ha.fK f m λra x M1 j e1 b n p1=>l.fK b p1 λa y M2 h e2 c o p2=>k ra a x y M2 h c (n.ext e2) o p2
end
noncomputable def lim:Nat:=1000000
def kE(h:n<=lim):n<=sizeLine:=by rw[Vk];unfold lim at h;lia
def uE(h:n<lim):n<sizeLine:=by rw[Vk];unfold lim at h;lia
def m6(ds:List D)(fr:Bool)(al:List Nat):R:=if D.be ds then .new ds true else if al.isEmpty then .new ds fr else .val (.lst ds) fr al
section
def vmsk.nil(h:vmsk g M fr ρ [] a):gm g M fr a:=h.elim id λ⟨_,z,_⟩=>absurd z (by simp)
theorem PostE.lst(p:PostE mg E g M ρ env σ H Q (.ok (m6 ds fr al)))(c:Rep g M ρ env σ H)(ha:H a=none)(h:IsAll H (vmsk g M fr ρ al) ds vs):Q (.ref a) (aP H a (.lst vs)):=by
 unfold m6 at p;by_cases d:D.be ds=true
 .rw[UP d]at p;exact p.new c ha (IsAll.flat d h)
 .rw[UV d]at p;cases al with
  |nil=>exact PostE.new (p:=p) c ha (IsAll.weak (λ_ z=>z.nil) h)
  |cons i al=>have p:PostE mg E g M ρ env σ H Q (.ok (.val (.lst ds) fr (i::al))):=p;have s:Same H (aP H a (.lst vs)):=aQ ha;obtain⟨f,k,j⟩:=c.free ha;refine p _ (λb=>M b\/b=a) _ ⟨λ_=>.inl,s,λb z=>z.imp id λ(e:b=a)=>by grind⟩ ((c.grow s).more ag f j) ⟨a,vs,rfl,.inl ⟨ag,.inl ⟨.inr rfl,λ_=>f⟩⟩,?_⟩;exact(IsAll.same s h).weak λb z=>z.mono λ_=>.inl
def Is.rd(h:Is H m (.lst ds) v):∃a vs,v=.ref a/\Rd H a (.lst vs)/\IsAll H m ds vs:=by obtain⟨a,vs,e,h1,b⟩:=h;exact⟨a,vs,e,h1.imp (·.1) λ⟨o,z,_⟩=>⟨o,z⟩,b⟩
end
section
def ao(i:Nat):En->Res R:=λenv=>match env[i]? with
 |some (some (.val d fr))=>.ok (jy d fr [])
 |some (some (.own ds fr))=>.ok (.val (.lst ds) fr [i])
 |some (some (.l7 d))=>.ok (.val d true [i])
 |_=>.stuck
def zU:Snd mg E (aK i) (ao i):=by
 intro g M h env σ H Q b p;unfold ao at p;cases e1:env[i]? with
 |none=>rw[e1]at p;exact p.elim
 |some o=>
  cases o with
  |none=>rw[e1]at p;exact p.elim
  |some sl=>
   obtain⟨v,c,k⟩:=b.slot i sl e1;rw[e1]at p;refine⟨v,c,?_⟩;cases sl with
   |val d fr=>exact PostE.val p b (Is.weak (λ_ z=>.inl z) k)
   |own ds fr=>obtain⟨a,vs,rfl,h1,e,f⟩:=k;exact p _ M H (Ext.refl M H) b ⟨a,vs,rfl,.inl ⟨h1,.inr ⟨i,by simp,(e a).mpr rfl⟩⟩,IsAll.weak (λ_ z=>.inl z) f⟩
   |l7 d=>exact p _ M H (Ext.refl M H) b (Is.weak (λa z=>.inr ⟨i,by simp,z⟩) k)
   |Cp d=>exact p.elim
def Le(h:PE X e (aK i)):PD X E e (ao i):=⟨_,h,zU⟩
def vC(d:D):En->Res R:=λ_=>.ok (.val d true [])
def DC(h:∀H m,Is H m d v):Snd mg E (tC v) (vC d):=λg M b env σ H Q a p=>p v M H (Ext.refl M H) a (h H _)
def az{i j pos}:PD X E (.Constant (.int i) j pos) (vC (.int i)):=⟨_,aS,DC λ_ _=>rfl⟩
def DD{b j pos}:PD X E (.Constant (.bool b) j pos) (vC (.bl b)):=⟨_,Oi,DC λ_ _=>rfl⟩
def DE{j pos}:PD X E (.Constant .none j pos) (vC .bv):=⟨_,mj,DC λ_ _=>rfl⟩
def v2(op:R->R->Res R)(fa a:En->Res R):En->Res R:=λenv=>(fa env).bind λra=>(a env).bind λb=>op ra b
def pR(X:Cx)(E:XK)(f:YA->YA->Sem YA)(op:R->R->Res R):Prop:=∃r:R2,OpR X f r/\
 ∀g M a env σ H Q ra b x y,Rep g M a env σ H->Is H (vmsk g M ra.fr a ra.al) ra.d x->Is H (vmsk g M b.fr a b.al) b.d y->PostE X.mg E g M a env σ H Q (op ra b)->r x y H Q
def aE(e:pR X E (binaryOp op) k)(ha:PD X E a fa)(f:PD X E b fb):PD X E (.BinOp a op b pos) (v2 k fa fb):=by obtain⟨r,h1,h⟩:=e;obtain⟨ta,i,sa⟩:=ha;obtain⟨tb,j,l⟩:=f;exact⟨_,qo h1 i j,λg M m env σ H Q d p=>sa.Ck l d p λra n x y o H' c q s t=>h g o m env σ H' Q ra n x y c q s t⟩
def uF(e:pR X E (compareOp op) k)(ha:PD X E a fa)(f:PD X E b fb)(h:behindInMarks op b=false):PD X E (.Compare a [op] [b] pos) (v2 k fa fb):=by obtain⟨r,h1,i⟩:=e;obtain⟨ta,j,sa⟩:=ha;obtain⟨tb,l,m⟩:=f;exact⟨_,zx h1 j l h,λg M n env σ H Q d p=>sa.Ck m d p λra o x y q H' c s t u=>i g q n env σ H' Q ra o x y c s t u⟩
def oI(C:Int->Int->Bool)(k:Int->Int->D)(a b:R):Res R:=match a.d,b.d with
 |.int i,.int j=>if C i j then .ok (.val (k i j) true [])else .stuck
 |_,_=>.stuck
def tL{f:YA->YA->Sem YA}{C:Int->Int->Prop}{kV:Int->Int->V}(c:Int->Int->Bool)(k:Int->Int->D)(l:OpR X f (rI C kV))(n:∀i j,c i j=true->C i j)(o:∀H m i j,Is H m (k i j) (kV i j)):pR X E f (oI c k):=by
 refine⟨_,l,λg M r env σ H Q ra q x y a b e p=>?_⟩;unfold oI at p;cases e1:ra.d with
 |int i=>
  rw[e1]at p b;cases e2:q.d with
  |int j=>
   rw[e2]at p e;cases b;cases e;by_cases h:c i j=true
   .simp only[h,Wl]at p;exact⟨i,j,rfl,rfl,n i j h,p _ M H (Ext.refl M H) a (o H _ i j)⟩
   .simp only[h]at p;exact p.elim
  |_=>rw[e2]at p;exact p.elim
 |_=>rw[e1]at p;exact p.elim
def oq{f:YA->YA->Sem YA}{kV:Int->Int->V}(k:Int->Int->D)(c:OpR X f (x5 kV))(d:∀H m i j,Is H m (k i j) (kV i j)):pR X E f (oI (λ_ _=>true) k):=by refine tL (C:=λ_ _=>True) (kV:=kV) _ k (λac s σ H x y v u Q I e g h=>?_) (λ_ _ _=>tI_) d;obtain⟨i,j,a,b,_,q⟩:=h;exact c ac s σ H x y v u Q I e g ⟨i,j,a,b,q⟩
def DF:R->R->Res R:=oI (λ_ _=>true) λi j=>.int (i-j)
noncomputable def Bl(i j:Int):Bool:=(decide (-(2^64)<i)&&decide (i<2^64)) ||(decide (-(2^64)<j)&&decide (j<2^64))
def qT:R->R->Res R:=oI Bl λi j=>.int (i*j)
def lJ:R->R->Res R:=oI (λ_ j=>decide (0<j)&&decide (j<1073741824)) λi j=>.int (i/j)
def cS:R->R->Res R:=oI (λ_ j=>decide (0<j)) λi j=>.int (i%j)
def yF:pR X E (binaryOp .Sub) DF:=oq _ KA λ_ _ _ _=>rfl
def kF:pR X E (binaryOp .Mult) qT:=tL _ _ KB (λi j h=>by simp only[Bl,Bool.or_eq_true,Vi,V8]at h;exact h) λ_ _ _ _=>rfl
def d5:pR X E (binaryOp .FloorDiv) lJ:=tL _ _ Gg (λi j h=>by simp only[Vi,V8]at h;exact h) λ_ _ _ _=>rfl
def bo:pR X E (binaryOp .Mod) cS:=tL _ _ KC (λi j h=>by simpa using h) λ_ _ _ _=>rfl
def RX:R->R->Res R:=oI (λ_ _=>true) λi j=>.bl (decide (i<j))
def SF:R->R->Res R:=oI (λ_ _=>true) λi j=>.bl (decide (i<=j))
def N4:R->R->Res R:=oI (λ_ _=>true) λi j=>.bl (decide (j<i))
def RY:R->R->Res R:=oI (λ_ _=>true) λi j=>.bl (decide (j<=i))
def Jo:pR X E (compareOp .Lt) RX:=oq _ Jd λ_ _ _ _=>rfl
def OR:pR X E (compareOp .LtE) SF:=oq _ Oy λ_ _ _ _=>rfl
def zV:pR X E (compareOp .Gt) N4:=oq _ Je λ_ _ _ _=>rfl
def Jp:pR X E (compareOp .GtE) RY:=oq _ Oz λ_ _ _ _=>rfl
def Inv.T7(I:L2.Inv X ac σ H s)(h:Rd H l (.lst xs)) :
 xs.length<=sizeLine/\∃(its:List YA)(n:Nat),Vals xs its/\xs.length=its.length/\s.heap.get? l=some { cls:=.type "list",data:=.seq its.toArray n }:=by
 obtain⟨z,its,n,r,e⟩:=(h.ok I.aU:ObjOk X.prog X.w H s.heap l (.lst xs));exact⟨z,its,n,r,r.length,e⟩
def OS:R2:=λx y H Q=>∃l b xs a,x=.ref l/\y=.ref b/\Rd H l (.lst xs)/\Rd H b (.lst a)/\xs.length+a.length<=sizeLine/\∀p,H p=none->Q (.ref p) (aP H p (.lst (xs++a)))
def op_catS:OpR X (binaryOp .Add) OS:=by
 intro ac s σ H x y v u Q I c d h;obtain⟨l,b,xs,m,rfl,rfl,f,g,hz,q⟩:=h;cases c;cases d;obtain⟨z,its,n,r,o,e⟩:=Inv.T7 I f;obtain⟨p,a,t,i,j,e2⟩:=Inv.T7 I g;refine PySem.P.add_list e e2 ?_ (by grind);have k:its.toArray++a.toArray=(its++a).toArray:=by simp
 rw[k];exact⟨.ref _,_,I.TB (t':=s.toks) (r.append i) (by grind),rfl,q _ I.fresh⟩
def dM(a b:R):Res R:=match a.d,b.d with
 |.int i,.int j=>.ok (.val (.int (i+j)) true [])
 |.lst xs,.lst c=>if xs.length+c.length<=lim then .ok (m6 (xs++c) (a.fr&&b.fr) (a.al++b.al))else .stuck
 |.tup xs,.tup c=>if xs.length+c.length<=lim/\xs≠[]then .ok (jy (.tup (xs++c)) (a.fr&&b.fr) (a.al++b.al))else .stuck
 |.str x,.str y=>if x.length+y.length<=lim then .ok (.val (.str (x++y)) true [])else .stuck
 |_,_=>.stuck
section
def vmsk.l(h:vmsk g M f1 ρ l1 a):vmsk g M (f1&&f2) ρ (l1++l2) a:=h.imp (λz=>⟨z.1,λe=>z.2 (by grind)⟩) λ⟨i,b,o⟩=>⟨i,by simp[b],o⟩
def vmsk.r(h:vmsk g M f2 ρ l2 a):vmsk g M (f1&&f2) ρ (l1++l2) a:=h.imp (λz=>⟨z.1,λe=>z.2 (by grind)⟩) λ⟨i,b,o⟩=>⟨i,by simp[b],o⟩
end
def bM:pR X E (binaryOp .Add) dM:=by
 refine⟨_,op_add.or (op_catS.or (op_catT.or x9)),λg M v env σ H Q ra n x y c e f p=>?_⟩;unfold dM at p;cases e1:ra.d with
 |int i=>
  rw[e1]at p e;cases e2:n.d with
  |int j=>rw[e2]at p f;cases e;cases f;exact .inl ⟨i,j,rfl,rfl,p _ M H (Ext.refl M H) c rfl⟩
  |_=>rw[e2]at p;exact p.elim
 |lst xs=>
  rw[e1]at p e;cases e2:n.d with
  |lst h=>
   rw[e2]at p f;obtain⟨a,vs,rfl,h1,k⟩:=e.rd;obtain⟨b,ws,rfl,o,m⟩:=f.rd;by_cases hz:xs.length+h.length<=lim
   .simp only[hz,Wl]at p;refine .inr (.inl ⟨a,b,vs,ws,rfl,rfl,h1,o,by rw[k.length,m.length];exact kE hz,λq s=>?_⟩);exact p.lst c s ((k.weak λ_ z=>z.l).append (m.weak λ_ z=>z.r))
   .simp only[hz,VH]at p;exact p.elim
  |_=>rw[e2]at p;exact p.elim
 |tup xs=>
  rw[e1]at p e;cases e2:n.d with
  |tup h=>
   rw[e2]at p f;obtain⟨a,vs,rfl,h1,k⟩:=e;obtain⟨b,ws,rfl,o,m⟩:=f;dsimp only at p;by_cases hz:xs.length+h.length<=lim/\xs≠[]
   .rw[UP hz]at p;have t:vs≠[]:=λz=>hz.2 (by have:=k.length;rw[z]at this;exact XW this.symm);refine .inr (.inr (.inl ⟨a,b,vs,ws,rfl,rfl,SqT.of h1,SqT.of o,t,by rw[k.length,m.length];exact kE hz.1,λz=>?_,λ_ q s=>?_⟩))
    .have u:h=[]:=by have:=m.length;rw[z]at this;exact XW this.symm
     rw[u,W5]at p;exact p.val c (Is.weak (d:=.tup xs) (λ_ z=>z.l) ⟨a,vs,rfl,h1,k⟩)
    .exact p.tup c s ((k.weak λ_ z=>z.l).append (m.weak λ_ z=>z.r))
   .rw[UV hz]at p;exact p.elim
  |_=>rw[e2]at p;exact p.elim
 |str xs=>
  rw[e1]at p e;cases e2:n.d with
  |str h=>
   rw[e2]at p f;cases e;cases f;by_cases hz:xs.length+h.length<=lim
   .simp only[hz,Wl]at p;exact .inr (.inr (.inr ⟨xs,h,rfl,rfl,kE hz,p _ M H (Ext.refl M H) c rfl⟩))
   .simp only[hz,VH]at p;exact p.elim
  |_=>rw[e2]at p;exact p.elim
 |_=>rw[e1]at p;exact p.elim
def tM(a b:R):Res R:=if a.d.dep<=50/\b.d.dep<=50 then .ok (.val (.bl (gw a.d b.d)) true [])else .stuck
def Cs(a b:R):Res R:=if a.d.dep<=50/\b.d.dep<=50 then .ok (.val (.bl (!gw a.d b.d)) true [])else .stuck
def SG:R2:=λx y H Q=>∃d e m m',Is H m d x/\Is H m' e y/\(d.dep<=50/\e.dep<=50)/\Q (.bl (gw d e)) H
def SH:R2:=λx y H Q=>∃d e m m',Is H m d x/\Is H m' e y/\(d.dep<=50/\e.dep<=50)/\Q (.bl (!gw d e)) H
def Lf(f:X.A.units+64<cLine):OpR X (compareOp .Eq) SG:=by intro ac s σ H x y v u Q I a b h;obtain⟨d,e,m,m',h1,c,hd,q⟩:=h;exact GW I.aU (by lia) (DB I.aU (A:=X.A) (n:=50) (by lia) (by lia)) hd.1 (by lia) (by lia) h1 c a b X.prog X.w X.xe _ ⟨.bl _,H,I,rfl,q⟩
def Lg(f:X.A.units+64<cLine):OpR X (compareOp .NotEq) SH:=by intro ac s σ H x y v u Q I a b h;obtain⟨d,e,m,m',h1,c,hd,q⟩:=h;exact GX I.aU (by lia) (DB I.aU (A:=X.A) (n:=50) (by lia) (by lia)) hd.1 (by lia) (by lia) h1 c a b X.prog X.w X.xe _ ⟨.bl _,H,I,rfl,q⟩
def m7(b:X.A.units+64<cLine):pR X E (compareOp .Eq) tM:=by
 refine⟨_,Lf b,λg M i env σ H Q ra c x y a e f p=>?_⟩;unfold tM at p;by_cases h:ra.d.dep<=50/\c.d.dep<=50
 .rw[UP h]at p;exact⟨_,_,_,_,e,f,h,p _ M H (Ext.refl M H) a rfl⟩
 .rw[UV h]at p;exact p.elim
def DG(b:X.A.units+64<cLine):pR X E (compareOp .NotEq) Cs:=by
 refine⟨_,Lg b,λg M i env σ H Q ra c x y a e f p=>?_⟩;unfold Cs at p;by_cases h:ra.d.dep<=50/\c.d.dep<=50
 .rw[UP h]at p;exact⟨_,_,_,_,e,f,h,p _ M H (Ext.refl M H) a rfl⟩
 .rw[UV h]at p;exact p.elim
end
section
variable{X:Cx}
def D.fJ:D->Bool
 |.bv=>true
 |_=>false
def Is.qh(h:Is H m d v):decide (v=.bv)=d.fJ:=by
 cases d with
 |bv=>cases h;rfl
 |bl b=>cases h;rfl
 |int b=>cases h;rfl
 |str b=>cases h;rfl
 |tup ds=>obtain⟨a,vs,rfl,_⟩:=h;rfl
 |lst ds=>obtain⟨a,vs,rfl,_⟩:=h;rfl
 |dZ ks ds=>obtain⟨a,vs,rfl,_⟩:=h;rfl
def Lh(fa:En->Res R):En->Res R:=λenv=>(fa env).bind λra=>.ok (.val (.bl ra.d.fJ) true [])
def DH(fa:En->Res R):En->Res R:=λenv=>(fa env).bind λra=>.ok (.val (.bl (!ra.d.fJ)) true [])
def Li(ha:PD X E a fa):PD X E (.Compare a [.Is] [.Constant .none j pos'] pos) (Lh fa):=by obtain⟨ta,d,sa⟩:=ha;refine⟨_,Cz (Cy d),λg M k env σ H Q c p=>sa.fK c p λr v f H' e b i h=>?_⟩;show Q (.bl (decide (v=.bv))) H';rw[i.qh];exact h _ f H' (Ext.refl _ _) b rfl
def GZ(ha:PD X E a fa):PD X E (.Compare a [.IsNot] [.Constant .none j pos'] pos) (DH fa):=by obtain⟨ta,d,sa⟩:=ha;refine⟨_,Cz (zv d),λg M k env σ H Q c p=>sa.fK c p λr v f H' e b i h=>?_⟩;show Q (.bl (!decide (v=.bv))) H';rw[i.qh];exact h _ f H' (Ext.refl _ _) b rfl
def Lj(fa:En->Res R):En->Res R:=λenv=>(fa env).bind λra=>match ra.d with
 |.bl b=>.ok (.val (.bl (!b)) true [])
 |_=>.stuck
def G0(fa a:En->Res R):En->Res R:=λenv=>(fa env).bind λra=>match ra.d with
 |.bl true=>a env
 |.bl false=>.ok (.val (.bl false) true [])
 |_=>.stuck
def SI(fa a:En->Res R):En->Res R:=λenv=>(fa env).bind λra=>match ra.d with
 |.bl true=>.ok (.val (.bl true) true [])
 |.bl false=>a env
 |_=>.stuck
def Ll(ha:PD X E a fa):PD X E (.UnaryOp .Not a pos) (Lj fa):=by
 obtain⟨ta,j,sa⟩:=ha;refine⟨_,Kv j,λg M l env σ H Q h p=>sa.fK h p λr v k H' e c i f=>?_⟩;cases q:r.d with
 |bl b=>rw[q]at i;simp only[q]at f;cases i;exact⟨b,rfl,f _ k H' (Ext.refl _ _) c rfl⟩
 |_=>simp only[q]at f;exact f.elim
def yG(ha:PD X E a fa):PD X E (.BoolOp op [a] pos) fa:=let ⟨t,b,sa⟩:=ha;⟨t,Kt b,sa⟩
def DI{rest:List Expr}{fa k:En->Res R}{f:Pos}(ha:PD X E a fa)(m:PD X E (.BoolOp .And (b::rest) f) k):PD X E (.BoolOp .And (a::b::rest) f) (G0 fa k):=by
 obtain⟨ta,n,sa⟩:=ha;obtain⟨tb,o,s⟩:=m;refine⟨_,Ku n o,λg M t env σ H Q j p=>sa.fK j p λr v l H' e c i h=>?_⟩;cases q:r.d with
 |bl b=>
  rw[q]at i;simp only[q]at h;cases i;refine⟨b,rfl,?_⟩;cases b with
  |true=>exact uq (s g l t env σ H' Q c h)
  |false=>exact v6 (h _ l H' (Ext.refl _ _) c rfl)
 |_=>simp only[q]at h;exact h.elim
def OT{rest:List Expr}{fa k:En->Res R}{f:Pos}(ha:PD X E a fa)(m:PD X E (.BoolOp .Or (b::rest) f) k):PD X E (.BoolOp .Or (a::b::rest) f) (SI fa k):=by
 obtain⟨ta,n,sa⟩:=ha;obtain⟨tb,o,s⟩:=m;refine⟨_,Oo n o,λg M t env σ H Q j p=>sa.fK j p λr v l H' e c i h=>?_⟩;cases q:r.d with
 |bl b=>
  rw[q]at i;simp only[q]at h;cases i;refine⟨b,rfl,?_⟩;cases b with
  |true=>exact uq (h _ l H' (Ext.refl _ _) c rfl)
  |false=>exact v6 (s g l t env σ H' Q c h)
 |_=>simp only[q]at h;exact h.elim
def Jq:D->Res Bool
 |.bv=>.ok false
 |.bl b=>.ok b
 |.int i=>.ok (i != 0)
 |.str y=>if y.length<=lim then .ok ((y.length:Int) != 0)else .stuck
 |.tup ds=>.ok (!ds.isEmpty)
 |.lst ds=>.ok (!ds.isEmpty)
 |.dZ _ _=>.stuck
theorem Is.Jq(h:Is H m d v)(e:Jq d=.ok k):KM X.K v H k:=by
 cases d with
 |bv=>cases h;cases e;rfl
 |bl b=>cases h;cases e;rfl
 |int b=>cases h;cases e;rfl
 |str b=>
  cases h;unfold L3.Jq at e;dsimp only at e;by_cases c:b.length<=lim
  .rw[UP c]at e;cases e;exact⟨kE c,rfl⟩
  .rw[UV c]at e;cases e
 |tup ds=>obtain⟨a,vs,rfl,h1,f⟩:=h;cases e;refine .inr (.inl ⟨vs,SqT.of h1,?_⟩);have:=f.length;cases ds<;>cases vs<;>simp_all
 |lst ds=>obtain⟨a,vs,rfl,h1,f⟩:=h.rd;cases e;refine .inl ⟨vs,.inl h1,?_⟩;have:=f.length;cases ds<;>cases vs<;>simp_all
 |dZ ks ds=>cases e
def DJ(fa:En->Res R):En->Res Bool:=λenv=>(fa env).bind λra=>Jq ra.d
def yH(ha:PD X E a fa)(l:autoParam (∀b,isTrue a X.env b=(do let v <- b;standAt a.pos;holding [v] (truthy v))) am):xV X E a (DJ fa):=by
 obtain⟨ta,m,sa⟩:=ha;refine⟨_,CL m l,λg M o env σ H Q j p=>sa.xO j p λr v n H' e f i h=>?_⟩;cases q:Jq r.d with
 |stuck=>rw[q]at h;exact h.elim
 |exc c=>
  exfalso;unfold Jq at q
  grind
 |ok k=>rw[q]at h;exact⟨k,i.Jq q,h n H' (Ext.refl _ _) f⟩
def vB(fa:En->Res R):En->Res Bool:=λenv=>(fa env).bind λra=>match ra.d with
 |.bl b=>.ok b
 |_=>.stuck
def bQ(m:pR X E (compareOp op) k)(ha:PD X E a fa)(n:PD X E b fb)(o:behindInMarks op b=false):xV X E (.Compare a [op] [b] pos) (vB (v2 k fa fb)):=by
 obtain⟨r,h1,s⟩:=m;obtain⟨ta,t,sa⟩:=ha;obtain⟨tb,u,w⟩:=n;have S:Snd X.mg E (mn r ta tb) (v2 k fa fb):=λg M l env σ H Q f p=>sa.Ck w f p λra z x y j H' c A B h=>s g j l env σ H' Q ra z x y c A B h;refine⟨_,jt h1 t u o,λg M l env σ H Q f p=>S.xO f p λr v j H' e c i h=>?_⟩;cases q:r.d with
 |bl b=>rw[q]at i;simp only[q]at h;cases i;exact⟨b,rfl,h j H' (Ext.refl _ _) c⟩
 |_=>simp only[q]at h;exact h.elim
def G2(ha:PD X E a fa):xV X E (.Compare a [.Is] [.Constant .none j pos'] pos) (λenv=>(fa env).bind λra=>.ok ra.d.fJ):=by obtain⟨ta,f,sa⟩:=ha;refine⟨_,CA (Cy f),λg M l env σ H Q c p=>sa.xO c p λr v h H' e b i k=>?_⟩;exact⟨_,rfl,by rw[i.qh];exact k h H' (Ext.refl _ _) b⟩
def DM(ha:PD X E a fa):xV X E (.Compare a [.IsNot] [.Constant .none j pos'] pos) (λenv=>(fa env).bind λra=>.ok (!ra.d.fJ)):=by obtain⟨ta,f,sa⟩:=ha;refine⟨_,CA (zv f),λg M l env σ H Q c p=>sa.xO c p λr v h H' e b i k=>?_⟩;exact⟨_,rfl,by rw[i.qh];exact k h H' (Ext.refl _ _) b⟩
def G3(fa:En->Res Bool):En->Res Bool:=λenv=>(fa env).bind λb=>.ok (!b)
def Bm(fa a:En->Res Bool):En->Res Bool:=λenv=>(fa env).bind λb=>if b then a env else .ok false
def N5(fa a:En->Res Bool):En->Res Bool:=λenv=>(fa env).bind λb=>if b then .ok true else a env
section
def SndT.xO{f:En->Res Bool}(h:SndT mg E t f)(i:Rep g M ρ env σ H){K:Bool->Res Bool}{l:Bool->Hp->Prop}{Q:Bool->Hp->Prop}(a:PostT mg E g M ρ env σ H l ((f env).bind K))
 (k:∀b j H',Ext M H j H'->Rep g j ρ env σ H'->PostT mg E g j ρ env σ H' l (K b)->Q b H'):t σ H Q:=by
 refine h g M ρ env σ H Q i ?_;cases e:f env with
 |stuck=>rw[e]at a;exact a
 |exc c=>rw[e]at a;exact a
 |ok b=>rw[e]at a;exact λM1 m e1 d=>k b M1 m e1 d (PostT.ext e1 a)
def SndT.fK{f:En->Res Bool}(h:SndT mg E t f)(i:Rep g M ρ env σ H){K:Bool->Res R}{Q:Bool->Hp->Prop}(a:PostE mg E g M ρ env σ H Q' ((f env).bind K))
 (k:∀b j H',Ext M H j H'->Rep g j ρ env σ H'->PostE mg E g j ρ env σ H' Q' (K b)->Q b H'):t σ H Q:=by
 refine h g M ρ env σ H Q i ?_;cases e:f env with
 |stuck=>rw[e]at a;exact a
 |exc c=>rw[e]at a;exact a
 |ok b=>rw[e]at a;exact λM1 l e1 d=>k b M1 l e1 d (PostE.ext e1 a)
end
def zW(ha:xV X E a fa):xV X E (.UnaryOp .Not a pos) (G3 fa):=by obtain⟨ta,f,sa⟩:=ha;exact⟨_,CC f,λg M j env σ H Q d p=>sa.xO d p λb h H' e c i=>i h H' (Ext.refl _ _) c⟩
def m8(ha:xV X E a fa):PWD X E (.BoolOp .And [a] pos) fa:=let ⟨t,b,sa⟩:=ha;⟨t,Gb b,sa⟩
def pS(ha:xV X E a fa):PWD X E (.BoolOp .Or [a] pos) fa:=let ⟨t,b,sa⟩:=ha;⟨t,CB b,sa⟩
def pT{rest:List Expr}{fa h:En->Res Bool}{d:Pos}(ha:xV X E a fa)(k:PWD X E (.BoolOp .And (b::rest) d) h):PWD X E (.BoolOp .And (a::b::rest) d) (Bm fa h):=by
 obtain⟨ta,l,sa⟩:=ha;obtain⟨tb,m,n⟩:=k;refine⟨_,Ks l m,λg M o env σ H Q f p=>sa.xO f p λb i H' e c j=>?_⟩;cases b with
 |true=>exact uq (n g i o env σ H' Q c j)
 |false=>exact v6 (j i H' (Ext.refl _ _) c)
def uG{rest:List Expr}{fa h:En->Res Bool}{d:Pos}(ha:xV X E a fa)(k:PWD X E (.BoolOp .Or (b::rest) d) h):PWD X E (.BoolOp .Or (a::b::rest) d) (N5 fa h):=by
 obtain⟨ta,l,sa⟩:=ha;obtain⟨tb,m,n⟩:=k;refine⟨_,Jc l m,λg M o env σ H Q f p=>sa.xO f p λb i H' e c j=>?_⟩;cases b with
 |true=>exact uq (j i H' (Ext.refl _ _) c)
 |false=>exact v6 (n g i o env σ H' Q c j)
def SJ(a:En->Res Bool)(fa c:En->Res R):En->Res R:=λenv=>(a env).bind λb=>if b then fa env else c env
def OU(k:xV X E c fc)(ha:PD X E a fa)(l:PD X E b fb):PD X E (.IfExp c a b pos) (SJ fc fa fb):=by
 obtain⟨s,m,n⟩:=k;obtain⟨ta,o,sa⟩:=ha;obtain⟨tb,q,r⟩:=l;refine⟨_,CD m o q,λg M h env σ H Q f p=>n.fK f p λb i H' e d j=>?_⟩;cases b with
 |true=>exact uq (sa g i h env σ H' Q d j)
 |false=>exact v6 (r g i h env σ H' Q d j)
def yI(a b:R):Res R:=match a.d,b.d with
 |.lst xs,.int i=>match dk xs i with
  |some d=>.ok (jy d a.fr a.al)
  |none=>.stuck
 |.tup xs,.int i=>match dk xs i with
  |some d=>.ok (jy d a.fr a.al)
  |none=>.stuck
 |.str z,.int i=>if z.length<=lim then(match dk z.cps.toList i with
  |some c=>.ok (.val (.str ⟨#[c]⟩) true [])
  |none=>.stuck)else .stuck
 |_,_=>.stuck
theorem IsAll.dk(h:IsAll H m ds vs)(e:L2.dk ds i=some d):∃v,L2.dk vs i=some v/\Is H m d v:=by
 unfold L2.dk at e ⊢;rw[h.length];cases q:zD ds.length i with
 |none=>rw[q]at e;cases e
 |some j=>rw[q]at e;exact h.get e
def Jr:∃r:R2,IxR X r/\∀g M j env σ H Q ra b x y,Rep g M j env σ H->Is H (vmsk g M ra.fr j ra.al) ra.d x->Is H (vmsk g M b.fr j b.al) b.d y->PostE X.mg E g M j env σ H Q (yI ra b)->r x y H Q:=by
 refine⟨_,KU,λg M j env σ H Q ra b x y e f h p=>?_⟩;unfold yI at p;cases e1:ra.d with
 |lst xs=>
  rw[e1]at p f;cases e2:b.d with
  |int i=>
   rw[e2]at p h;cases h;obtain⟨a,vs,rfl,h1,k⟩:=f.rd;cases q:dk xs i with
   |none=>simp only[q]at p;exact p.elim
   |some d=>simp only[q]at p;obtain⟨v,l,m⟩:=k.dk q;exact .inl ⟨a,vs,i,v,rfl,rfl,.inl h1,l,p.val e m⟩
  |_=>rw[e2]at p;exact p.elim
 |tup xs=>
  rw[e1]at p f;cases e2:b.d with
  |int i=>
   rw[e2]at p h;cases h;obtain⟨a,vs,rfl,h1,k⟩:=f;cases q:dk xs i with
   |none=>simp only[q]at p;exact p.elim
   |some d=>simp only[q]at p;obtain⟨v,l,m⟩:=k.dk q;exact .inr (.inl ⟨a,vs,i,v,rfl,rfl,SqT.of h1,l,p.val e m⟩)
  |_=>rw[e2]at p;exact p.elim
 |str z=>
  rw[e1]at p f;cases e2:b.d with
  |int i=>
   rw[e2]at p h;cases f;cases h;by_cases hz:z.length<=lim
   .simp only[hz,Wl]at p;cases q:dk z.cps.toList i with
    |none=>simp only[q]at p;exact p.elim
    |some c=>simp only[q]at p;exact .inr (.inr ⟨z,i,c,rfl,rfl,kE hz,q,p _ M H (Ext.refl _ _) e rfl⟩)
   .simp only[hz,VH]at p;exact p.elim
  |_=>rw[e2]at p;exact p.elim
 |_=>rw[e1]at p;exact p.elim
def tO(ha:PD X E a fa)(e:PD X E b fb)(hs:uh b):PD X E (.Subscript a b pos) (v2 yI fa fb):=by obtain⟨r,h1,f⟩:=Jr (X:=X) (E:=E);obtain⟨ta,h,sa⟩:=ha;obtain⟨tb,i,j⟩:=e;exact⟨_,bP h1 h i hs,λg M k env σ H Q d p=>sa.Ck j d p λra l x y m H' c n o q=>f g m k env σ H' Q ra l x y c n o q⟩
def bz(i:Nat)(a:En->Res R):En->Res R:=λenv=>match env[i]? with
 |some (some (.own ds fr))=>(a env).bind λb=>match b.d with
  |.int k=>match dk ds k with
   |some d=>.ok (jy d fr [])
   |none=>.stuck
  |_=>.stuck
 |_=>v2 yI (ao i) a env
def i7(ha:PE X a (aK i))(u:PD X E b fb)(hs:uh b):PD X E (.Subscript a b pos) (bz i fb):=by
 obtain⟨r,h1,A⟩:=Jr (X:=X) (E:=E);obtain⟨tb,B,t⟩:=u;refine⟨_,bP (ix_list.or h1) ha B hs,λg M l env σ H Q j p=>?_⟩;have gen:PostE X.mg E g M l env σ H Q (v2 yI (ao i) fb env)->mn (λx y H Q=>KR X.K x y H Q\/r x y H Q) (aK i) tb σ H Q:=λp=>Snd.Ck zU t j p λra n x y s H' c C m f=>.inr (A g s l env σ H' Q ra n x y c C m f);unfold bz at p;cases e1:env[i]? with
 |none=>rw[e1]at p;exact gen p
 |some o=>
  cases o with
  |none=>rw[e1]at p;exact gen p
  |some sl=>
   cases sl with
   |val d fr=>rw[e1]at p;exact gen p
   |l7 d=>rw[e1]at p;exact gen p
   |Cp d=>rw[e1]at p;exact gen p
   |own ds fr=>
    rw[e1]at p;obtain⟨v,D,a,vs,rfl,k1,k2,F⟩:=j.slot i _ e1;refine⟨_,D,t.fK j p λn y s H' e c m f=>?_⟩;cases q:n.d with
    |int k=>
     rw[q]at m;simp only[q]at f;cases m;cases q2:dk ds k with
     |none=>simp only[q2]at f;exact f.elim
     |some d=>simp only[q2]at f;have G:IsAll H' (vmsk g s fr l []) ds vs:=(IsAll.weak (λ_ z=>.inl z) F:IsAll H (vmsk g M fr l []) ds vs).ext e;obtain⟨w,I,J⟩:=G.dk q2;exact .inl ⟨a,vs,k,w,rfl,rfl,.inl (.inl (e.h _ _ k1)),I,f.val c J⟩
    |_=>simp only[q]at f;exact f.elim
end
section
def SndA.one{t:TA}{f:En->Res (List R)}(h:SndA mg E t f)(j:Rep g M ρ env σ H){α:Type}{K:List R->Res α}{P:(M:Addr->Prop)->(H:Hp)->Res α->Prop}{Q:List V->Hp->Prop}
 (b:P M H ((f env).bind K)) (hs:∀M H,P M H .stuck->False) (l:∀M H c,P M H (.exc c)->GY mg E g c) (m:∀M H a H' r,Ext M H a H'->P M H r->P a H' r)
 (k:∀rs vs a H',Ext M H a H'->Rep g a ρ env σ H'->IsAll H' (vmsk g a (b5 rs) ρ (cO rs)) (rs.map R.d) vs->P a H' (K rs)->Q vs H'):t σ H Q:=by
 refine h g M ρ env σ H Q j ?_;cases e:f env with
 |stuck=>rw[e]at b;exact hs _ _ b
 |exc c=>rw[e]at b;exact l _ _ c b
 |ok r=>rw[e]at b;exact λvs M1 n e1 i is=>k r vs M1 n e1 i is (m _ _ _ _ _ e1 b)
def SndA.fK{f:En->Res (List R)}(h:SndA mg E t f)(b:Rep g M ρ env σ H){K:List R->Res R}{Q:List V->Hp->Prop}(c:PostE mg E g M ρ env σ H Q' ((f env).bind K))
 (k:∀rs vs a H',Ext M H a H'->Rep g a ρ env σ H'->IsAll H' (vmsk g a (b5 rs) ρ (cO rs)) (rs.map R.d) vs->PostE mg E g a ρ env σ H' Q' (K rs)->Q vs H'):t σ H Q:=
 h.one b (P:=λM H r=>PostE mg E g M ρ env σ H Q' r) c (λ_ _ z=>z) (λ_ _ _ z=>z) (λ_ _ _ _ _ e p=>p.ext e) k
def SndA.NU{f:En->Res (List R)}(h:SndA mg E t f)(b:Rep g M ρ env σ H){K:List R->Res (List R)}{c:List V->Hp->Prop}{Q:List V->Hp->Prop}(i:PostA mg E g M ρ env σ H c ((f env).bind K))
 (k:∀rs vs a H',Ext M H a H'->Rep g a ρ env σ H'->IsAll H' (vmsk g a (b5 rs) ρ (cO rs)) (rs.map R.d) vs->PostA mg E g a ρ env σ H' c (K rs)->Q vs H'):t σ H Q:=
 h.one b (P:=λM H r=>PostA mg E g M ρ env σ H c r) i (λ_ _ z=>z) (λ_ _ _ z=>z) (λ_ _ _ _ _ e p=>p.ext e) k
def IsAll.args(h1:Is H (vmsk g M r.fr ρ r.al) r.d v)(b:IsAll H (vmsk g M (b5 rs) ρ (cO rs)) (rs.map R.d) vs) :
 IsAll H (vmsk g M (b5 (r::rs)) ρ (cO (r::rs))) ((r::rs).map R.d) (v::vs):=by
 refine⟨v,vs,rfl,h1.weak λa z=>?_,b.weak λa z=>?_⟩
 .exact(z.l:vmsk g M (r.fr&&b5 rs) ρ (r.al++cO rs) a)
 .exact(z.r:vmsk g M (r.fr&&b5 rs) ρ (r.al++cO rs) a)
end
section
def aN:En->Res (List R):=λ_=>.ok []
def ah(f:En->Res R)(fs:En->Res (List R)):En->Res (List R):=λenv=>(f env).bind λr=>(fs env).bind λrs=>.ok (r::rs)
def ai:Cr X E [] aN:=⟨_,aH,λg M b env σ H Q a p=>p [] M H (Ext.refl _ _) a rfl⟩
def aa(d:PD X E e f)(h:Cr X E es fs)(hs:autoParam (starEach (e::es) X.env=(false,eval e X.env)::starEach es X.env) aM):Cr X E (e::es) (ah f fs):=by obtain⟨t,p1,s1⟩:=d;obtain⟨u,p2,s2⟩:=h;refine⟨_,aj p1 p2 hs,λg M l env σ H Q c p=>s1.NU c p λr v M1 m e1 a i q1=>s2.NU a q1 λrs vs M2 j e2 b k q2=>?_⟩;exact q2 (v::vs) M2 j (Ext.refl _ _) b (IsAll.args (i.ext e2) k)
def d6(fs:En->Res (List R)):En->Res R:=λenv=>(fs env).bind λrs=>if rs.length<=lim then .ok (jy (.tup (rs.map R.d)) (b5 rs) (cO rs))else .stuck
def bN(h:Cr X E es fs):PD X E (.Tuple es k pos) (d6 fs):=by
 obtain⟨t,p1,s1⟩:=h;refine⟨_,dj p1,λg M f env σ H Q c p=>s1.fK c p λrs vs M1 i e1 b e q1=>?_⟩;by_cases d:rs.length<=lim
 .rw[UP d]at q1;exact⟨by rw[e.length,UO];exact kE d,λa ha=>q1.tup b ha e⟩
 .rw[UV d]at q1;exact q1.elim
def g6(fs:En->Res (List R)):En->Res R:=λenv=>(fs env).bind λrs=>if rs.length<=lim then .ok (m6 (rs.map R.d) (b5 rs) (cO rs))else .stuck
def cn(h:Cr X E es fs):PD X E (.List es pos) (g6 fs):=by
 obtain⟨t,p1,s1⟩:=h;refine⟨_,jv p1,λg M f env σ H Q c p=>s1.fK c p λrs vs M1 i e1 b e q1=>?_⟩;by_cases d:rs.length<=lim
 .rw[UP d]at q1;exact⟨by rw[e.length,UO];exact kE d,λa ha=>q1.lst b ha e⟩
 .rw[UV d]at q1;exact q1.elim
end
def nl(b H':Hp)(a:Addr):Prop:=b a=none/\Mu H' a
def RetOk(g:Gd)(H':Hp)(v:V):R->Prop
 |.val d fr _=>Is H' (λa=>nl g.H₀ H' a\/(fr=false/\g.Ma a)) d v
 |.new ds fr=>∃a vs,v=.ref a/\H' a=some (.lst vs)/\g.H₀ a=none/\IsAll H' (λb=>b≠a/\(nl g.H₀ H' b\/(fr=false/\g.Ma b))) ds vs
 |.jm d=>Is H' (nl g.H₀ H') d v
def OV(mg:Str->Option YA)(E:XK)(g:Gd)(Q:VK):Res R->Prop
 |.stuck=>False
 |.exc c=>GY mg E g c
 |.ok r=>∀v H',Same g.H₀ H'->RetOk g H' v r->Q v H'
def m_(mg:Str->Option YA)(n:Nat)(F:List D->Res R):Sp:=λvs H Q E=>vs.length=n/\∃ds Ma,IsAll H Ma ds vs/\OV mg E (OQ H Ma) Q (F ds)
def F0(d:D)(fr:Bool)(rs:List R):R:=if d.flat then .val d true []else if fr then .jm d else .val d (b5 rs) (cO rs)
def je(rs:List R):R->R
 |.val d fr _=>F0 d fr rs
 |.new ds fr=>if D.be ds then .new ds true else if fr then .jm (.lst ds)else if(cO rs).isEmpty then .new ds (b5 rs)else .val (.lst ds) (b5 rs) (cO rs)
 |.jm d=>F0 d true rs
section
def Rep.came(b:Rep g M ρ env σ H)(s:Same H H')(p:Addr->Prop):Rep g (λa=>M a\/(nl H H' a/\p a)) ρ env σ H':=(b.grow s).FR λa z=>⟨z.1.2,b.same.free z.1.1,(b.free z.1.1).2.2⟩
def DN(rs:List R)(b:Rep g M ρ env σ H)(s:Same H H')(h:Is H' (λa=>nl H H' a\/(fr=false/\vmsk g M (b5 rs) ρ (cO rs) a)) d v) :
 ∃c,Ext M H c H'/\Rep g c ρ env σ H'/\ROk g c ρ H H' v (F0 d fr rs):=by
 unfold F0;by_cases e:d.flat=true
 .rw[UP e];exact⟨M,⟨λ_ z=>z,s,λ_ z=>.inl z⟩,b.grow s,Is.flat e h⟩
 .rw[UV e];cases fr with
  |true=>
   refine⟨M,⟨λ_ z=>z,s,λ_ z=>.inl z⟩,b.grow s,nl H H',λa z=>?_,?_⟩
   .exact⟨λw=>b.jY a w z.1,z.1,z.2,(b.free z.1).2.2⟩
   .exact Is.weak (λa z=>z.elim id λw=>by cases w.1) h
  |false=>
   refine⟨_,⟨λ_=>.inl,s,λ_ z=>z.imp id (·.1.1)⟩,b.came s λ_=>True,?_⟩;refine Is.weak (λa z=>?_) h;rcases z with z|⟨_,z⟩
   .exact .inl ⟨.inr ⟨z,tI_⟩,λ_=>b.same.free z.1⟩
   .exact z.mono λ_=>.inl
def RetOk.caller(rs:List R)(c:Rep g M ρ env σ H)(s:Same H H')(h:RetOk (OQ H (vmsk g M (b5 rs) ρ (cO rs))) H' v r) :
 ∃k,Ext M H k H'/\Rep g k ρ env σ H'/\ROk g k ρ H H' v (je rs r):=by
 cases r with
 |val d fr al=>exact DN rs c s h
 |jm d=>exact DN rs c s (Is.weak (λa z=>.inl z) h)
 |new ds fr=>
  obtain⟨a,vs,rfl,h1,f,j⟩:=h;have f:H a=none:=f;obtain⟨t,x,l⟩:=c.free f;have m:Rep g (λb=>M b\/(nl H H' b/\b≠a)) ρ env σ H':=c.came s λb=>b≠a;have u:¬(M a\/(nl H H' a/\a≠a)):=λz=>z.elim x λz=>z.2 rfl;have o:Ext M H (λb=>M b\/(nl H H' b/\b≠a)) H':=⟨λ_=>.inl,s,λ_ z=>z.imp id (·.1.1)⟩;unfold je;dsimp only;by_cases i:D.be ds=true
  .rw[UP i];exact⟨_,o,m,a,vs,rfl,h1,u,f,l,IsAll.flat i j⟩
  .rw[UV i];cases fr with
   |true=>
    refine⟨M,⟨λ_ z=>z,s,λ_ z=>.inl z⟩,c.grow s,nl H H',λa z=>?_,?_⟩
    .exact⟨λw=>c.jY a w z.1,z.1,z.2,(c.free z.1).2.2⟩
    .exact⟨a,vs,rfl,.inl ⟨h1,f,Mu.lst h1⟩,IsAll.weak (λb z=>z.2.elim id λw=>by cases w.1) j⟩
   |false=>
    simp only[U2,VH];by_cases p:(cO rs).isEmpty=true
    .rw[UP p];refine⟨_,o,m,a,vs,rfl,h1,u,f,l,?_⟩;refine IsAll.weak (λb z=>?_) j;rcases z with⟨q,z|⟨y,z⟩⟩
     .exact⟨.inr ⟨z,q⟩,λ_=>c.same.free z.1⟩
     .have A:cO rs=[]:=by simpa using p
      have z:vmsk g M (b5 rs) ρ (cO rs) b:=z;rw[A]at z;exact⟨.inl z.nil.1,z.nil.2⟩
    .rw[UV p];refine⟨λb=>(M b\/(nl H H' b/\b≠a))\/b=a,⟨λ_ z=>.inl (.inl z),s,λb z=>z.elim (o.n b) λe=>.inr (e▸f)⟩,m.more h1 t l,a,vs,rfl,.inl ⟨h1,.inl ⟨.inr rfl,λ_=>t⟩⟩,?_⟩;refine IsAll.weak (λb z=>?_) j;rcases z with⟨q,z|⟨y,z⟩⟩
     .exact .inl ⟨.inl (.inr ⟨z,q⟩),λ_=>c.same.free z.1⟩
     .exact vmsk.mono (λ_ w=>.inl (.inl w)) z
end
section
variable{X:Cx}{ps:List Str}
def cb(F:List D->Res R)(fs:En->Res (List R)):En->Res R:=λenv=>(fs env).bind λrs=>(F (rs.map R.d)).bind λr=>.ok (je rs r)
def DO(j:∀env rs,fs env=.ok rs->rs.length=ps.length)(s:SndA X.mg E t fs):Snd X.mg E (zA (m_ X.mg ps.length F) [] E t) (cb F fs):=by
 intro g M i env σ H Q f p;refine s g M i env σ H _ f ?_;unfold cb at p;cases e:fs env with
 |stuck=>rw[e]at p;exact p
 |exc c=>rw[e]at p;exact p
 |ok rs=>
  rw[e]at p;intro vs M1 k e1 a is;have p1:PostE X.mg E g M1 i env σ k Q ((F (rs.map R.d)).bind λr=>.ok (je rs r)):=PostE.ext e1 p;rw[W5];refine⟨by rw[is.length,UO];exact j env rs e,rs.map R.d,_,is,?_⟩;cases q:F (rs.map R.d)with
  |stuck=>rw[q]at p1;exact p1
  |exc c=>rw[q]at p1;exact λcls l H' h1 m=>p1 cls l H' h1 (a.same.trans m)
  |ok r=>rw[q]at p1;intro v n s2 ro;obtain⟨o,e3,b,h⟩:=RetOk.caller rs a s2 ro;exact p1 v o n e3 b h
def G4(G:bO X.prog X.w X.K X.mg X.base CX k f fd ps (m_ X.mg ps.length F))(c:dR k X.A)(d:Gl X x)(g:X.mg x=some (.ref f))(h:keepIn X.K (.ref f)=true)(i:Binds X.K fd ps [])(j:gU CX X E)
 (ha:Cr X E (e::es) fs) (l:∀env rs,fs env=.ok rs->rs.length=ps.length) (a:autoParam (dB x) ab) (m:autoParam (sE X e es) aM) (b:autoParam (bT X pos es) aM) :
 PD X E (.Call (.Name x p) (e::es) [] pos) (cb F fs):=by
 obtain⟨t,p1,s1⟩:=ha;exact⟨_,uf G c d g h i .nil j p1 a m b,DO l s1⟩
def aZ:∀env rs,aN env=.ok rs->rs.length=0:=λ_ _ e=>by cases e;rfl
def aw{f:En->Res R}{fs:En->Res (List R)}(h:∀env rs,fs env=.ok rs->rs.length=n):∀env rs,ah f fs env=.ok rs->rs.length=n+1:=λenv rs e=>by
 unfold ah at e;cases q:f env with
 |stuck=>rw[q]at e;cases e
 |exc c=>rw[q]at e;cases e
 |ok r=>
  rw[q]at e;cases q2:fs env with
  |stuck=>simp only[Res.iV,q2]at e;cases e
  |exc c=>simp only[Res.iV,q2]at e;cases e
  |ok a=>simp only[Res.iV,q2]at e;cases e;simp[h env a q2]
def lU(X:Cx)(E:XK)(f:YA)(k:List R->Res R):Prop:=∃r,CallR X f r/\
 ∀g M a env σ H Q rs vs,Rep g M a env σ H->IsAll H (vmsk g M (b5 rs) a (cO rs)) (rs.map R.d) vs->PostE X.mg E g M a env σ H Q (k rs)->r vs H Q
def lu(k:List R->Res R)(fs:En->Res (List R)):En->Res R:=λenv=>(fs env).bind k
def bp{id:String}{k:List R->Res R}(f:lU X E (.builtin id) k) (h:Gl X x) (i:X.mg x=none) (j:bootBuiltins x=some (.builtin id)) (ha:Cr X E (e::es) fs) (l:autoParam (x≠"__name__") ab) (b:autoParam (dB x) ab)
 (m:autoParam (starEach (e::es) X.env=(false,eval e X.env)::starEach es X.env) aM) (c:autoParam (bT X pos es) aM):PD X E (.Call (.Name x p) (e::es) [] pos) (lu k fs):=by
 obtain⟨r,h1,n⟩:=f;obtain⟨t,p1,s1⟩:=ha;exact⟨_,dv h1 h i j p1 l b m c,λg M o env σ H Q d p=>s1.fK d p λrs vs M1 q e1 a s q1=>n g M1 o env σ q Q rs vs a s q1⟩
def dS{k:List R->Res R}(f:lU X E (.type T) k) (h:Gl X x) (i:X.mg x=none) (j:bootBuiltins x=some (.type T)) (ha:Cr X E (e::es) fs) (l:autoParam (x≠"__name__") ab) (b:autoParam (dB x) ab)
 (m:autoParam (starEach (e::es) X.env=(false,eval e X.env)::starEach es X.env) aM) (c:autoParam (bT X pos es) aM):PD X E (.Call (.Name x p) (e::es) [] pos) (lu k fs):=by
 obtain⟨r,h1,n⟩:=f;obtain⟨t,p1,s1⟩:=ha;exact⟨_,n_ h1 h i j p1 l b m c,λg M o env σ H Q d p=>s1.fK d p λrs vs M1 q e1 a s q1=>n g M1 o env σ q Q rs vs a s q1⟩
def ot:List R->Res R
 |[r]=>match r.d with
  |.lst ds=>.ok (.val (.int ds.length) true [])
  |.tup ds=>.ok (.val (.int ds.length) true [])
  |.str z=>if z.length<=lim then .ok (.val (.int z.length) true [])else .stuck
  |_=>.stuck
 |_=>.stuck
def jz:lU X E (.builtin "len") ot:=by
 refine⟨_,call_len_seq.or uj,λg M f env σ H Q rs vs c i p=>?_⟩;rcases rs with _|⟨r,_|_⟩
 .exact p.elim
 rotate_left
 .exact p.elim
 obtain⟨v,w,rfl,b,h⟩:=i;cases h;have b:Is H (vmsk g M (b5 [r]) f (cO [r])) r.d v:=b;unfold ot at p;dsimp only at p;cases q:r.d with
 |lst ds=>rw[q]at p b;obtain⟨a,ws,rfl,h1,e⟩:=b.rd;exact .inl ⟨a,ws,rfl,.inl (.inl h1),by rw[e.length];exact p _ M H (Ext.refl _ _) c rfl⟩
 |tup ds=>rw[q]at p b;obtain⟨a,ws,rfl,h1,e⟩:=b;exact .inl ⟨a,ws,rfl,.inr (SqT.of h1),by rw[e.length];exact p _ M H (Ext.refl _ _) c rfl⟩
 |str z=>
  rw[q]at p b;cases b;by_cases hz:z.length<=lim
  .simp only[hz,Wl]at p;exact .inr ⟨z,rfl,kE hz,p _ M H (Ext.refl _ _) c rfl⟩
  .simp only[hz,VH]at p;exact p.elim
 |_=>rw[q]at p;exact p.elim
def lV:List R->Res R
 |[r]=>match r.d with
  |.lst ds=>.ok (m6 ds r.fr r.al)
  |.tup ds=>.ok (m6 ds r.fr r.al)
  |_=>.stuck
 |_=>.stuck
def zX(h:vmsk g M (b5 [r]) ρ (cO [r]) a):vmsk g M r.fr ρ r.al a:=by
 have e1:b5 [r]=r.fr:=by simp[b5]
 have e2:cO [r]=r.al:=by simp[cO]
 rw[e1,e2]at h;exact h
def lw:lU X E (.type "list") lV:=by
 refine⟨_,uk,λg M h env σ H Q rs vs c i p=>?_⟩;rcases rs with _|⟨r,_|_⟩
 .exact p.elim
 rotate_left
 .exact p.elim
 obtain⟨v,w,rfl,b,j⟩:=i;cases j;have b:Is H (vmsk g M (b5 [r]) h (cO [r])) r.d v:=b;replace b:=b.weak λ_ z=>zX z;unfold lV at p;dsimp only at p;cases q:r.d with
 |lst ds=>rw[q]at p b;obtain⟨a,ws,rfl,h1,e⟩:=b.rd;exact⟨a,ws,rfl,.inl (.inl h1),λl f=>p.lst c f e⟩
 |tup ds=>rw[q]at p b;obtain⟨a,ws,rfl,h1,e⟩:=b;exact⟨a,ws,rfl,.inr (SqT.of h1),λl f=>p.lst c f e⟩
 |_=>rw[q]at p;exact p.elim
end
inductive Fl where
 |nx (env:En)|rt (r:R)|bk (env:En)|ct (env:En)|rm (r:R) (env:En)
structure l_(M:Addr->Prop) (H:Hp) (M':Addr->Prop) (H':Hp):Prop where
 m:∀a,M a->M' a
 h:∀a o,H a=some o->(M a\/i6 o)->H' a=some o
def l_.refl(M:Addr->Prop)(H:Hp):l_ M H M H:=⟨λ_ z=>z,λ_ _ e _=>e⟩
def l_.trans{M M1 M2:Addr->Prop}(a:l_ M H M1 H1)(b:l_ M1 H1 M2 H2):l_ M H M2 H2:=⟨λx z=>b.m x (a.m x z),λx o e z=>b.h x o (a.h x o e z) (z.imp (a.m x) id)⟩
def Ext.ba(e:Ext M H M' H'):l_ M H M' H':=⟨e.m,λa o q _=>e.h a o q⟩
section
variable(mg:Str->Option YA)(E:XK)(g:Gd)(M:Addr->Prop)(H:Hp)(D:Ends)
def PostS:Res Fl->Prop
 |.stuck=>False
 |.exc c=>GY mg E g c
 |.ok (.nx env)=>∀σ b e H',l_ M H b H'->Rep g b e env σ H'->D.nx σ H'
 |.ok (.bk env)=>∀σ b e H',l_ M H b H'->Rep g b e env σ H'->D.bk σ H'
 |.ok (.ct env)=>∀σ b e H',l_ M H b H'->Rep g b e env σ H'->D.ct σ H'
 |.ok (.rt r)=>∀v b H',l_ M H b H'->Same g.H₀ H'->((∀a,¬g.Z a)->RetOk g H' v r)->(r.d.flat=true->Is H' (λ_=>False) r.d v)->D.rt v H'
 |.ok (.rm r env)=>∀v σ b e f H',l_ M H b H'->Rep g b e env σ H'->Same g.H₀ f->ROk g b e f H' v r->D.rt v H'
end
def G5(mg:Str->Option YA)(E:XK)(t:TS)(f:En->Res Fl):Prop:=∀g M a env σ H D,Rep g M a env σ H->PostS mg E g M H D (f env)->t D σ H
def zY(X:Cx)(E:XK)(st:Stmt)(f:En->Res Fl):Prop:=∃t,PS X st t/\G5 X.mg E t f
def uH(X:Cx)(E:XK)(st:List Stmt)(f:En->Res Fl):Prop:=∃t,PSs X st t/\G5 X.mg E t f
section
variable{D:Ends}
def PostS.ba(e:l_ M H M' H')(p:PostS mg E g M H D r):PostS mg E g M' H' D r:=by
 cases r with
 |stuck=>exact p
 |exc c=>exact p
 |ok r=>cases r with
  |nx env=>exact λσ M2 a b e2=>p σ M2 a b (e.trans e2)
  |bk env=>exact λσ M2 a b e2=>p σ M2 a b (e.trans e2)
  |ct env=>exact λσ M2 a b e2=>p σ M2 a b (e.trans e2)
  |rt r=>exact λv M2 b e2=>p v M2 b (e.trans e2)
  |rm r env=>exact λv σ M2 a d b e2=>p v σ M2 a d b (e.trans e2)
def Snd.sP{f:En->Res R}(h:Snd mg E t f)(i:Rep g M ρ env σ H){K:R->Res Fl}(a:PostS mg E g M H D ((f env).bind K))
 (k:∀r v d H',Ext M H d H'->Rep g d ρ env σ H'->ROk g d ρ H H' v r->PostS mg E g d H' D (K r)->Q v H'):t σ H Q:=by
 refine h g M ρ env σ H Q i ?_;cases e:f env with
 |stuck=>rw[e]at a;exact a
 |exc c=>rw[e]at a;exact a
 |ok r=>rw[e]at a;exact λv M1 j e1 b ro=>k r v M1 j e1 b ro (PostS.ba e1.ba a)
def SndT.sP{f:En->Res Bool}(h:SndT mg E t f)(i:Rep g M ρ env σ H){K:Bool->Res Fl}{Q:Bool->Hp->Prop}(a:PostS mg E g M H D ((f env).bind K))
 (k:∀b j H',l_ M H j H'->Rep g j ρ env σ H'->PostS mg E g j H' D (K b)->Q b H'):t σ H Q:=by
 refine h g M ρ env σ H Q i ?_;cases e:f env with
 |stuck=>rw[e]at a;exact a
 |exc c=>rw[e]at a;exact a
 |ok r=>rw[e]at a;exact λM1 l e1 d=>k r M1 l e1.ba d (PostS.ba e1.ba a)
def OW(b:Pr)(i:Nat):Pr:=λj a=>if j=i then False else b j a
def yJ(h:j≠i):OW ρ i j=ρ j:=by funext a;unfold OW;rw[UV h]
def qU(h:OW ρ i j a):j≠i/\ρ j a:=by grind [OW]
def uI(b:Pr)(i:Nat)(T:Addr->Prop):Pr:=λj a=>if j=i then T a else b j a
def f9(h:j≠i):uI ρ i T j=ρ j:=by funext a;unfold uI;rw[UV h]
def iG:uI ρ i T i=T:=by funext a;unfold uI;rw[UP rfl]
def iA(env:En)(i:Nat):En:=match env[i]? with
 |some (some (.own ds fr))=>env.set i (some (.val (.lst ds) fr))
 |some (some (.l7 d))=>env.set i (some (.val d true))
 |some (some (.Cp _))=>env.set i none
 |_=>env
def ba(env:En)(al:List Nat):En:=al.foldl iA env
def uJ(h:j≠i):(iA env i)[j]?=env[j]?:=by unfold iA;split<;>first|rfl|exact Vx (V2 h)
def wx(i:Nat):(iA env i).length=env.length:=by unfold iA;split<;>simp
theorem DP:∀(al:List Nat){env:En}{j:Nat},¬j∈al->(ba env al)[j]?=env[j]?
 |[],_,_,_=>rfl
 |i::al,env,j,h=>by show(ba (iA env i) al)[j]?=_;rw[DP al λz=>h (by simp[z]),uJ λz=>h (by simp[z])]
theorem uK:∀(al:List Nat)(env:En),(ba env al).length=env.length
 |[],_=>rfl
 |i::al,env=>by show(ba (iA env i) al).length=_;rw[uK al,wx]
theorem Rep.iA(rep:Rep g M ρ env σ H)(i:Nat):Rep g (λa=>M a\/ρ i a) (OW ρ i) (iA env i) σ H where
 same:=rep.same
 jY:=λb hb=>hb.elim (rep.jY b) λz=>(rep.ci i b z).2.2.some
 vx:=λb hb=>hb.elim (rep.vx b) λz=>.inl (rep.ci i b z).2.1
 fl:=λb hb h0=>hb.elim (λz=>rep.fl b z h0) λz=>.inl (rep.ci i b z).2.2
 slot:=λj sl ej=>by
  by_cases hj:j=i
  .subst hj;cases e:env[j]? with
   |none=>
    have:L3.iA env j=env:=by unfold L3.iA;rw[e]
    rw[this,e]at ej;cases ej
   |some o=>
    have hi:j<env.length:=(UQ.mp e).1;cases o with
    |none=>
     have:L3.iA env j=env:=by unfold L3.iA;rw[e]
     rw[this,e]at ej;cases ej
    |some s0=>
     obtain⟨v,ev,k⟩:=rep.slot j s0 e;cases s0 with
     |val d fr=>
      have:L3.iA env j=env:=by unfold L3.iA;rw[e]
      rw[this,e]at ej;cases ej;exact⟨v,ev,Is.weak (λb z=>gm.mono (λ_=>.inl) z) k⟩
     |own ds fr=>
      have:L3.iA env j=env.set j (some (.val (.lst ds) fr)):=by unfold L3.iA;rw[e]
      rw[this,Vs hi]at ej;cases ej;obtain⟨a,vs,rfl,h1,h2,h4⟩:=k;have ha:=(h2 a).mpr rfl;exact⟨_,ev,a,vs,rfl,.inl ⟨h1,.inr ha,λ_=>(rep.ci j a ha).2.1⟩,IsAll.weak (λb z=>gm.mono (λ_=>.inl) z) h4⟩
     |l7 d=>
      have:L3.iA env j=env.set j (some (.val d true)):=by unfold L3.iA;rw[e]
      rw[this,Vs hi]at ej;cases ej;exact⟨v,ev,Is.weak (λb z=>⟨.inr z,λ_=>(rep.ci j b z).2.1⟩) k⟩
     |Cp d=>
      have:L3.iA env j=env.set j none:=by unfold L3.iA;rw[e]
      rw[this,Vs hi]at ej;cases ej
  .rw[uJ hj]at ej;obtain⟨v,ev,k⟩:=rep.slot j sl ej;exact⟨v,ev,by rw[yJ hj];exact SlOk.weak (λ_=>.inl) k⟩
 ci:=λj a h=>by obtain⟨hj,h⟩:=qU h;exact⟨λz=>z.elim (rep.ci j a h).1 λz=>hj (rep.apart j i a h z),(rep.ci j a h).2⟩
 apart:=λj k a h1 h2=>rep.apart j k a (qU h1).2 (qU h2).2
 ow:=λj a h=>by obtain⟨hj,h⟩:=qU h;have:=rep.ow j a h;unfold iF at this ⊢;rw[uJ hj];exact this
 len:=by rw[wx];exact rep.len
 zz:=rep.zz
theorem Rep.ba:∀(al:List Nat){env:En}{M:Addr->Prop}{b:Pr},Rep g M b env σ H->∃(k:Addr->Prop)(c:Pr),(∀a,M a->k a)/\Rep g k c (L3.ba env al) σ H/\(∀i,i∈al->∀a,b i a->k a)/\(∀j a,c j a->b j a)/\(∀j,¬j∈al->c j=b j)
 |[],env,M,b,d=>⟨M,b,λ_ z=>z,d,λ_ z=>absurd z (by simp),λ_ _ o=>o,λ_ _=>rfl⟩
 |i::al,env,M,b,d=>by
  obtain⟨M2,l,e2,f,m,k2,n⟩:=Rep.ba al (d.iA i);refine⟨M2,l,λa z=>e2 a (.inl z),f,λj h a o=>?_,λj a o=>(qU (k2 j a o)).2,λj h=>?_⟩
  .by_cases e:j=i
   .exact e2 a (.inr (e▸o))
   .exact m j ((US.mp h).resolve_left e) a (by rw[yJ e];exact o)
  .rw[n j λz=>h (by simp[z]),yJ λz=>h (by simp[z])]
def Is.frozen(b:Rep g M ρ env σ H)(e:∀a,M a->M' a)(c:∀i,i∈al->∀a,ρ i a->M' a)(h:Is H (vmsk g M fr ρ al) d v):Is H (gm g M' fr) d v:=h.weak λa z=>z.elim (gm.mono e) λ⟨i,f,o⟩=>⟨c i f a o,λ_=>(b.ci i a o).2.1⟩
def Rep.put(b:Rep g M ρ env σ H)(m:i<env.length)(ok:SlOk g M T H v sl)(f:∀a,T a->¬M a/\g.H₀ a=none/\Mu H a/\∀j,j≠i->¬ρ j a)(o:autoParam (∀a,T a->sl.RF=true) YG._auto_1) :
 Rep g M (uI ρ i T) (env.set i (some sl)) (σ.set i (some v)) H:=by
 have n:i<σ.length:=by rw[<- b.len];exact m
 refine⟨b.same,b.jY,b.vx,b.fl,λj s l=>?_,λj a h=>?_,λj k a h1 d=>?_,λj a h=>?_,by rw[WG,WG];exact b.len,b.zz⟩
 .by_cases c:j=i
  .subst c;rw[Vs m]at l;cases l;exact⟨v,Vs n,by rw[iG];exact ok⟩
  .rw[Vx (V2 c)]at l;obtain⟨w,p,k⟩:=b.slot j s l;exact⟨w,by rw[Vx (V2 c)];exact p,by rw[f9 c];exact k⟩
 .by_cases c:j=i
  .subst c;rw[iG]at h;exact⟨(f a h).1,(f a h).2.1,(f a h).2.2.1⟩
  .rw[f9 c]at h;exact b.ci j a h
 .by_cases c:j=i
  .by_cases e:k=i
   .rw[c,e]
   .subst c;rw[iG]at h1;rw[f9 e]at d;exact absurd d ((f a h1).2.2.2 k e)
  .by_cases e:k=i
   .subst e;rw[iG]at d;rw[f9 c]at h1;exact absurd h1 ((f a d).2.2.2 j c)
   .rw[f9 c]at h1;rw[f9 e]at d;exact b.apart j k a h1 d
 .unfold iF;by_cases c:j=i
  .subst c;rw[iG]at h;rw[Vs m];exact o a h
  .rw[f9 c]at h;rw[Vx (V2 c)];exact b.ow j a h
def put(env:En)(i:Nat):R->En
 |.new ds fr=>env.set i (some (.own ds fr))
 |.val d fr al=>(ba env al).set i (some (.val d fr))
 |.jm d=>env.set i (some (.l7 d))
def Rep.store(c:Rep g M ρ env σ H)(m:Same g.H₀ H0)(k:i<env.length)(h:ROk g M ρ H0 H v r):∃n l,l_ M H n H/\Rep g n l (L3.put env i r) (σ.set i (some v)) H:=by
 cases r with
 |new ds fr=>obtain⟨a,vs,rfl,h1,o,p,q,s⟩:=h;exact⟨M,_,l_.refl _ _,c.put (sl:=.own ds fr) (T:=λb=>b=a) k ⟨a,vs,rfl,h1,λ_=>Iff.rfl,s⟩ λb e=>by subst e;exact⟨o,m.free p,Mu.lst h1,λj _=>q j⟩⟩
 |val d fr al=>obtain⟨M1,t,e1,f,o1,k1,_⟩:=Rep.ba al c;exact⟨M1,_,⟨e1,λ_ _ e _=>e⟩,f.put (sl:=.val d fr) (T:=λ_=>False) (by rw[uK];exact k) (Is.frozen c e1 o1 h) (λ_ z=>z.elim) λ_ z=>z.elim⟩
 |jm d=>obtain⟨T,u,is⟩:=h;exact⟨M,_,l_.refl _ _,c.put (sl:=.l7 d) (T:=T) k is λb z=>let ⟨w,x,y,A⟩:=u b z;⟨w,m.free x,y,λj _=>A j⟩⟩
def Rep.FV(E:Lb u')(f:Rep g M ρ env σ H)(o:ρ i a)(F:i<env.length)(T:σ[i]?=some (some v))(ok:SlOk g M (ρ i) (aP H a u') v sl)(G:autoParam (sl.RF=true) aM) :
 l_ M H M (aP H a u')/\Rep g M ρ (env.set i (some sl)) σ (aP H a u'):=by
 obtain⟨t,I,J,ha,n⟩:=f.ci i a o;have K:∀u,H a=some u->¬i6 u:=λu e z=>by rw[ha]at e;cases e;cases J<;>first|exact z|exact n
 have kp:∀b u,H b=some u->(M b\/i6 u)->aP H a u' b=some u:=λb u q z=>by grind [af]
 have x:∀(fr:Bool) b u,H b=some u->(gm g M fr b\/i6 u)->aP H a u' b=some u:=λfr b u q z=>kp b u q (z.imp (·.1) id);refine⟨⟨λ_ z=>z,kp⟩,λb u q=>?_,λb l=>?_,f.vx,λb l L=>?_,λj s y=>?_,λj b h=>?_,f.apart,λj b h=>?_,by rw[WG];exact f.len,λc z e=>by
  by_cases A:c=a
  .subst A;rw[ag]at e;cases e
  .rw[af A]at e;exact f.zz c z e⟩
 .rw[af (λz=>by rw[z,I]at q;cases q)];exact f.same b u q
 .have p:b≠a:=λz=>t (by rw[<- z];exact l);rw[af p];exact f.jY b l
 .have p:b≠a:=λz=>t (by rw[<- z];exact l);exact(f.fl b l L).same λo e=>by rw[af p];exact e
 .by_cases m:j=i
  .grind
  .rw[Vx (V2 m)]at y;obtain⟨w,N,k⟩:=f.slot j s y;refine⟨w,N,?_⟩;have B:∀b,ρ j b->b≠a:=λb l e=>m (f.apart j i a (e▸l) o);cases s with
   |val d fr=>exact Is.mono (x fr) (λ_ _ _ z=>z) k
   |own O r=>obtain⟨b,ws,rfl,h1,C,P⟩:=k;exact⟨b,ws,rfl,by rw[af (B b ((C b).mpr rfl))];exact h1,C,IsAll.mono (x r) (λ_ _ _ z=>z) P⟩
   |l7 d=>
    refine Is.mono (λb u q z=>?_) (λ_ _ _ z=>z) k
    grind [af]
   |Cp d=>refine IsSh.mono (λb u q z=>kp b u q (.inr z)) (λb ws z q=>⟨ws,by rw[af (B b z)];exact q⟩) (λ_ z=>z) k
 .obtain⟨Q,R,S⟩:=f.ci j b h;refine⟨Q,R,?_⟩;by_cases e:b=a
  .exact⟨u',by rw[e,ag],E⟩
  .exact S.same λo z=>by rw[af e];exact z
 .unfold iF;by_cases m:j=i
  .subst m;rw[Vs F];exact G
  .rw[Vx (V2 m)];exact f.ow j b h
def Rep.write(b:Rep g M ρ env σ H)(o:ρ i a)(c:i<env.length)(d:σ[i]?=some (some v))(ok:SlOk g M (ρ i) (aP H a (.lst vs')) v sl)(e:autoParam (sl.RF=true) aM) :
 l_ M H M (aP H a (.lst vs'))/\Rep g M ρ (env.set i (some sl)) σ (aP H a (.lst vs')):=b.FV (u':=.lst vs') tI_ o c d ok e
end
section
def lK:En->Res Fl:=λenv=>.ok (.nx env)
def bn(f k:En->Res Fl):En->Res Fl:=λenv=>(f env).bind λr=>match r with
 |.nx a=>k a
 |r=>.ok r
def cc:uH X E [] lK:=⟨_,mP,λg M b env σ H D a p=>p σ M b H (l_.refl _ _) a⟩
def aG{st:Stmt}{f:En->Res Fl}(h:zY X E st f):uH X E [st] f:=let ⟨t,a,b⟩:=h;⟨t,aY a,b⟩
def au{st:Stmt}{rest:List Stmt}{f k:En->Res Fl}(h1:zY X E st f)(n:uH X E rest k):uH X E (st::rest) (bn f k):=by
 obtain⟨t,a,b⟩:=h1;obtain⟨u,c,d⟩:=n;refine⟨_,aX a c,λg M o env σ H D j p=>b g M o env σ H _ j ?_⟩;unfold bn at p;cases q:f env with
 |stuck=>rw[q]at p;exact p
 |exc c=>rw[q]at p;exact p
 |ok r=>
  rw[q]at p;cases r with
  |nx i=>exact λl s m H' e h=>d g s m i l H' D h (PostS.ba e p)
  |bk i=>exact p
  |ct i=>exact p
  |rt r=>exact p
  |rm r i=>exact p
def Bn:zY X E (.Break pos) (λenv=>.ok (.bk env)):=⟨_,CF,λg M b env σ H D a p=>p σ M b H (l_.refl _ _) a⟩
def xW(c:En->Res Bool)(a b:En->Res Fl):En->Res Fl:=λenv=>(c env).bind λk=>if k then a env else b env
def d7(k:xV X E c fc)(ha:uH X E a fa)(l:uH X E b fb):zY X E (.If c a b pos) (xW fc fa fb):=by
 obtain⟨n,p1,s1⟩:=k;obtain⟨ta,p2,s2⟩:=ha;obtain⟨tb,p3,m⟩:=l;refine⟨_,sR p1 p2 p3,λg M h env σ H D f p=>s1.sP f p λb i H' e d j=>?_⟩;cases b with
 |true=>exact uq (s2 g i h env σ H' D d j)
 |false=>exact v6 (m g i h env σ H' D d j)
def fU(f:En->Res R):En->Res Fl:=λenv=>(f env).bind λr=>.ok (.rt r)
def ROk.ret(c:Rep g M ρ env σ H)(j:Same g.H₀ H0)(h:ROk g M ρ H0 H v r)(hz:∀a,¬g.Z a):RetOk g H v r:=by
 have mu:∀a,M a->g.H₀ a=none->Mu H a:=λa h1 f=>(c.fl a h1 f).elim id λz=>(hz a z.1).elim;have key:∀{fr:Bool}{a:Addr},gm g M fr a->nl g.H₀ H a\/(fr=false/\g.Ma a):=λ{fr a} z=>by
  cases fr with
  |true=>exact .inl ⟨z.2 rfl,mu a z.1 (z.2 rfl)⟩
  |false=>exact(c.vx a z.1).imp (λw=>⟨w,mu a z.1 w⟩) λw=>⟨rfl,w⟩
 cases r with
 |val d fr al=>exact Is.weak (λa z=>z.elim key λ⟨i,_,o⟩=>.inl (c.ci i a o).2) h
 |new ds fr=>obtain⟨a,vs,rfl,h1,f,k,q,l⟩:=h;exact⟨a,vs,rfl,h1,j.free k,IsAll.weak (λb z=>⟨λe=>f (e▸z.1),key z⟩) l⟩
 |jm d=>obtain⟨T,m,is⟩:=h;exact Is.weak (λa z=>let ⟨_,n,p,_⟩:=m a z;⟨j.free n,p⟩) is
def ROk.flatIs(h:ROk g M ρ H0 H v r)(a:r.d.flat=true):Is H (λ_=>False) r.d v:=by
 cases r with
 |val d fr al=>exact Is.flat a h
 |new ds fr=>simp[D.flat,R.d]at a
 |jm d=>obtain⟨T,_,is⟩:=h;exact Is.flat a is
def br(h:PD X E e f):zY X E (.Return (some e) pos) (fU f):=by obtain⟨t,p1,s1⟩:=h;exact⟨_,nZ p1,λg M j env σ H D b p=>s1.sP b p λr v c H' e a ro d=>d v c H' (l_.refl _ _) a.same (λhz=>ro.ret a b.same hz) λi=>ro.flatIs i⟩
def cT(i:Nat)(f:En->Res R):En->Res Fl:=λenv=>(f env).bind λr=>if i<env.length then .ok (.nx (put env i r))else .stuck
def zZ(s:Snd mg E t f):G5 mg E (ml t (aT i)) (cT i f):=by
 intro g M k env σ H D a p;refine s.sP a p λr v l H' e b ro d=>?_;by_cases h:i<env.length
 .rw[UP h]at d;obtain⟨M2,j,e2,c⟩:=b.store a.same h ro;exact d _ M2 j H' e2 c
 .rw[UV h]at d;exact d.elim
def bh(a:X.N.Nodup)(b:X.N[i]?=some x)(c:Kp X.env.scope x)(h:PD X E e f)(hs:autoParam (swapsWith e (some (.Name x pos')) pos.line X.env=pure false) aM)
 (d:autoParam (X.fn x=true\/X.env.scope.names.lookup x=some .local) ae):zY X E (.Assign [.Name x pos'] e pos) (cT i f):=by
 obtain⟨t,p1,s1⟩:=h;exact⟨_,jq a b c p1 hs d,zZ s1⟩
def qV(env:En)(i:Nat):Option (List D×Bool):=match env[i]? with
 |some (some (.own ds fr))=>some (ds,fr)
 |some (some (.l7 (.lst ds)))=>some (ds,true)
 |_=>none
mutual
noncomputable def D.sz:D->Nat
 |.tup ds=>D.Oe ds+1
 |.lst ds=>D.Oe ds+1
 |.dZ _ ds=>D.Oe ds+1
 |_=>0
noncomputable def D.Oe:List D->Nat
 |[]=>0
 |d::ds=>d.sz+D.Oe ds+1
end
section
mutual
theorem Is.avoid(ha:Is H m' e (.ref a)):∀{d:D}{v:V},d.sz<e.sz->Is H m d v->Is H (λb=>m b/\b≠a) d v
 |.bv,_,_,h=>h
 |.bl _,_,_,h=>h
 |.int _,_,_,h=>h
 |.str _,_,_,h=>h
 |.tup ds,_,hs,h=>by obtain⟨b,vs,rfl,h1,c⟩:=h;simp only[D.sz]at hs;exact⟨b,vs,rfl,h1,IsAll.avoid ha (by lia) c⟩
 |.lst ds,_,hs,h=>by
  have h':=h;obtain⟨b,vs,rfl,h1,c⟩:=h;have f:b≠a:=λz=>by subst z;have q:=Is.inj h' ha;rw[q]at hs;lia
  simp only[D.sz]at hs;refine⟨b,vs,rfl,?_,IsAll.avoid ha (by lia) c⟩;rcases h1 with⟨h1,g⟩|⟨o,h1,g⟩
  .exact .inl ⟨h1,g,f⟩
  .exact .inr ⟨o,h1,g,f⟩
 |.dZ ks ds,_,hs,h=>by
  have h':=h;obtain⟨b,kvs,rfl,h1,c⟩:=h;have f:b≠a:=λz=>by subst z;have q:=Is.inj h' ha;rw[q]at hs;lia
  simp only[D.sz]at hs;exact⟨b,kvs,rfl,⟨h1.1,h1.2,f⟩,IsAll.avoid ha (by lia) c⟩
theorem IsAll.avoid(ha:Is H m' e (.ref a)):∀{ds:List D}{vs:List V},D.Oe ds<e.sz->IsAll H m ds vs->IsAll H (λb=>m b/\b≠a) ds vs
 |[],_,_,h=>h
 |d::ds,_,hs,h=>by obtain⟨v,r,rfl,h1,c⟩:=h;simp only[D.Oe]at hs;exact⟨v,r,rfl,Is.avoid ha (by lia) h1,IsAll.avoid ha (by lia) c⟩
end
end
def Rep.J9(c:Rep g M ρ env σ H)(e:qV env i=some (ds,fr)) :
 ∃(p:Addr->Prop)(m:Pr)(a:Addr)(vs:List V),(∀b,M b->p b)/\Rep g p m (env.set i (some (.own ds fr))) σ H/\σ[i]?=some (some (.ref a))/\H a=some (.lst vs)/\(∀b,m i b↔b=a)/\IsAll H (gm g p fr) ds vs/\i<env.length/\(∀j b,m j b->ρ j b)/\(∀j,j≠i->m j=ρ j):=by
 unfold qV at e;cases q:env[i]? with
 |none=>rw[q]at e;cases e
 |some o=>
  have r:i<env.length:=(UQ.mp q).1;have t:env.set i (env[i])=env:=XS r;cases o with
  |none=>rw[q]at e;cases e
  |some sl=>
   obtain⟨v,A,k⟩:=c.slot i sl q;rw[q]at e;cases sl with
   |val d f=>cases e
   |Cp d=>cases e
   |own F f'=>
    cases e;obtain⟨a,vs,rfl,h1,G,O⟩:=k;have eq:env.set i (some (.own ds fr))=env:=by
     have:env[i]=some (.own ds fr):=by have:=(UQ.mp q).2;exact this
     rw[<- this];exact t
    rw[eq];exact⟨M,ρ,a,vs,λ_ z=>z,c,A,h1,G,O,r,λ_ _ z=>z,λ_ _=>rfl⟩
   |l7 d=>
    cases d with
    |lst F=>
     cases e;have P:=k;obtain⟨a,vs,rfl,h1,G⟩:=k;have C:ρ i a:=by rcases h1 with⟨_,z⟩|⟨_,_,z⟩<;>exact z
     obtain⟨pm,Q,T,pl,I⟩:=c.ci i a C;have J:H a=some (.lst vs):=by
      rcases h1 with⟨h1,_⟩|⟨o,h1,_⟩
      .exact h1
      .rw[h1]at pl;cases pl;exact I.elim
     have n:IsAll H (λb=>ρ i b/\b≠a) ds vs:=IsAll.avoid P (by simp only[D.sz];lia) G
     let p:Addr->Prop:=λb=>M b\/(ρ i b/\b≠a)
     let m:Pr:=uI ρ i λb=>b=a
     have L:Rep g p m (env.set i (some (.own ds true))) (σ.set i (some (.ref a))) H:=by
      have R:Rep g p (λj b=>if j=i then b=a else ρ j b) (env.set i (some (.own ds true))) σ H:=by
       refine⟨c.same,λb B=>B.elim (c.jY b) λz=>?_,λb B=>B.elim (c.vx b) λz=>.inl (c.ci i b z.1).2.1,λb B S=>B.elim (λz=>c.fl b z S) λz=>.inl (c.ci i b z.1).2.2,λj s E=>?_,λj b h=>?_,λj k b w x=>?_,λj b h=>?_,by rw[WG];exact c.len,c.zz⟩
       .exact(c.ci i b z.1).2.2.some
       .by_cases l:j=i
        .subst l;rw[Vs r]at E;cases E;exact⟨_,A,a,vs,rfl,J,λb=>by simp,IsAll.weak (λb z=>⟨.inr z,λ_=>(c.ci j b z.1).2.1⟩) n⟩
        .rw[Vx (V2 l)]at E;obtain⟨N,K,k2⟩:=c.slot j s E;have eT:(λb=>if j=i then b=a else ρ j b)=ρ j:=by funext b;rw[UV l]
         exact⟨N,K,by show SlOk g p (λb=>if j=i then b=a else ρ j b) H N s;rw[eT];exact SlOk.weak (λ_=>.inl) k2⟩
       .by_cases l:j=i
        .rw[UP l]at h;subst h;exact⟨λz=>z.elim pm λz=>z.2 rfl,Q,Mu.lst J⟩
        .rw[UV l]at h;exact⟨λz=>z.elim (c.ci j b h).1 λz=>l (c.apart j i b h z.1),(c.ci j b h).2⟩
       .by_cases l:j=i
        .by_cases y:k=i
         .rw[l,y]
         .rw[UP l]at w;rw[UV y]at x;subst w;exact absurd (c.apart k i b x C) y
        .by_cases y:k=i
         .rw[UP y]at x;rw[UV l]at w;subst x;exact absurd (c.apart j i b w C) l
         .rw[UV l]at w;rw[UV y]at x;exact c.apart j k b w x
       .unfold iF;by_cases l:j=i
        .subst l;rw[Vs r];rfl
        .rw[UV l]at h;rw[Vx (V2 l)];exact c.ow j b h
      have u:i<σ.length:=by rw[<- c.len];exact r
      have es:σ.set i (some (.ref a))=σ:=by have:σ[i]=some (.ref a):=(UQ.mp A).2;rw[<- this];exact XS u
      rw[es];exact R
     have u:i<σ.length:=by rw[<- c.len];exact r
     have es:σ.set i (some (.ref a))=σ:=by have:σ[i]=some (.ref a):=(UQ.mp A).2;rw[<- this];exact XS u
     rw[es]at L;refine⟨p,m,a,vs,λ_=>.inl,L,A,J,λb=>by show uI ρ i (λb=>b=a) i b↔b=a;rw[iG],IsAll.weak (λb z=>⟨.inr z,λ_=>(c.ci i b z.1).2.1⟩) n,r,λj b z=>?_,λj l=>f9 l⟩;by_cases l:j=i
     .subst l;have z:uI ρ j (λb=>b=a) j b:=z;rw[iG]at z;rw[z];exact C
     .have z:uI ρ i (λb=>b=a) j b:=z;rw[f9 l]at z;exact z
    |_=>cases e
def wy(i:Nat)(f:En->Res R):En->Res Fl:=λenv=>match qV env i with
 |some (ds,fr)=>(f env).bind λr=>if ds.length<lim/\¬i∈r.al then .ok (.nx ((ba env r.al).set i (some (.own (ds++[r.d]) (fr&&r.fr)))))else .stuck
 |none=>.stuck
def pU(ha:PE X a (aK i))(h:PD X E e f)
 (n:autoParam (attributeBase a "append" X.env (eval a X.env)=eval a X.env) aM)
 (w:autoParam (((backTo cpos (starEach [e] X.env)).all (λx=>!x.1)&&(backToKw cpos (keywordEach [] X.env)).all (λx=>x.1.isSome)
   && decide (([e]:List Expr).length+([]:List Keyword).length+(if([]:List Keyword).isEmpty then 0 else 1)<30))=true) aM)
 (s:autoParam ((apos.endLine==cpos.line)=true) aM) (hs:autoParam (starEach [e] X.env=(false,eval e X.env)::starEach [] X.env) aM) (c:autoParam (bT X cpos []) aM)
 (J:autoParam (swapsWith (.Call (.Attribute a "append" apos) [e] [] cpos) none pos.line X.env=pure false) aM) :
 zY X E (.Expr (.Call (.Attribute a "append" apos) [e] [] cpos) pos) (wy i f):=by
 obtain⟨t,p1,s1⟩:=h;refine⟨_,b_ (ko Wd V9 V_ fS ha (aj p1 aH hs) n w s hs c) J,λg M ρ env σ H D v p=>?_⟩;unfold wy at p;cases e1:qV env i with
 |none=>rw[e1]at p;exact p.elim
 |some o=>
  obtain⟨ds,fr⟩:=o;rw[e1]at p;dsimp only at p;obtain⟨M0,ρ0,l,vs,m0,U,K,k1,k2,k4,hi,_⟩:=v.J9 e1;refine⟨_,K,.inl ⟨rfl,vs,SqL.of k1⟩,s1.sP v p λr y M' H' e A ro G=>?_⟩;by_cases I:ds.length<lim/\¬i∈r.al
  .rw[UP I]at G;obtain⟨M1,x1,L,j,N⟩:=ro.is A e v.same;obtain⟨M2,ρ2,V,B,o2,k5,k6⟩:=Rep.ba r.al j;have O:Is H' (gm g M2 r.fr) r.d y:=Is.frozen j V o2 N;have e2:qV (ba env r.al) i=some (ds,fr):=by unfold qV;rw[DP _ I.2];exact e1
   obtain⟨P,C,l3,vs3,W,k,F,Y,Z,j4,Q,_⟩:=B.J9 e2;rw[K]at F;cases F;have R:H' l=some (.lst vs):=e.h _ _ k1;rw[R]at Y;cases Y;have pl:C i l:=(Z l).mpr rfl;obtain⟨S,_⟩:=k.ci i l pl;have T:IsAll H' (gm g P (fr&&r.fr)) (ds++[r.d]) (vs++[y]):=by refine IsAll.snoc (IsAll.weak (λb z=>⟨z.1,λq=>z.2 (by cases fr<;>simp_all)⟩) j4) (Is.weak (λb z=>⟨W b z.1,λq=>z.2 (by cases fr<;>simp_all)⟩) O)
   have kp:∀b u,H' b=some u->(gm g P (fr&&r.fr) b\/i6 u)->aP H' l (.lst (vs++[y])) b=some u:=λb u q z=>by
    rw[af]
    .exact q
    .rintro rfl;rcases z with z|z
     .exact S z.1
     .rw[R]at q;cases q;exact z
   obtain⟨f1,m⟩:=k.write (sl:=.own (ds++[r.d]) (fr&&r.fr)) (vs':=vs++[y]) pl (by rw[WG];exact Q) K ⟨l,vs++[y],rfl,ag,Z,IsAll.mono kp (λ_ _ _ z=>z) T⟩;rw[List.set_set]at m;refine⟨l,vs,y,rfl,rfl,R,by rw[k4.length];exact uE I.1,?_⟩;exact G σ P C _ (l_.trans ⟨λa z=>W a (V a (L a z)),λ_ _ q _=>q⟩ f1) m
  .rw[UV I]at G;exact G.elim
end
def Lm(ix:List Nat)(t:TG)(asg:D->Bool->En->Option En):Prop:=∀(g:Gd)(M:Addr->Prop)(e:Pr)(env f:En)(σ:St)(H:Hp)(d:D)(fr:Bool)(v:V)(Q:St->Hp->Prop),
 Rep g M e env σ H->Is H (gm g M fr) d v->asg d fr env=some f->(∀(b:St)(c:Pr),Rep g M c f b H->(∀j,¬j∈ix->b[j]?=σ[j]?)->(∀j a,c j a->e j a)->Q b H)->t v σ H Q
def OX(ix:List Nat)(t:N2)(asg:List D->Bool->En->Option En):Prop:=∀(g:Gd)(M:Addr->Prop)(d:Pr)(env e:En)(σ:St)(H:Hp)(ds:List D)(fr:Bool)(vs:List V)(Q:St->Hp->Prop),
 Rep g M d env σ H->IsAll H (gm g M fr) ds vs->asg ds fr env=some e->(∀(b:St)(c:Pr),Rep g M c e b H->(∀j,¬j∈ix->b[j]?=σ[j]?)->(∀j a,c j a->d j a)->Q b H)->t vs σ H Q
def F1(X:Cx)(ix:List Nat)(tg:Expr)(asg:D->Bool->En->Option En):Prop:=∃t,PG X tg t/\Lm ix t asg
def G6(X:Cx)(ix:List Nat)(ts:List Expr)(asg:List D->Bool->En->Option En):Prop:=∃t,Kx X ts t/\OX ix t asg
section
def gN(i:Nat):D->Bool->En->Option En:=λd fr env=>if i<env.length then some (env.set i (some (.val d fr)))else none
def Bo:Lm [i] (aT i) (gN i):=by
 intro g M h env l σ H d fr v Q c is e k;unfold gN at e;by_cases f:i<env.length
 .rw[UP f]at e;cases e;exact k _ _ (c.put (sl:=.val d fr) (T:=λ_=>False) f is (λ_ z=>z.elim) λ_ z=>z.elim) (λj b=>Vx λe=>b (by simp[e])) λj a z=>by
   by_cases b:j=i
   .subst b;rw[iG]at z;exact z.elim
   .rw[f9 b]at z;exact z
 .rw[UV f]at e;cases e
def aC(a:X.N.Nodup)(b:X.N[i]?=some x)(c:Kp X.env.scope x)(d:autoParam (X.fn x=true\/X.env.scope.names.lookup x=some .local) ae):F1 X [i] (.Name x pos) (gN i):=⟨_,bK a b c d,Bo⟩
def cr:List D->Bool->En->Option En:=λds _ env=>match ds with
 |[]=>some env
 |_=>none
def aL(f:D->Bool->En->Option En)(fs:List D->Bool->En->Option En):List D->Bool->En->Option En:=λds fr env=>match ds with
 |d::r=>(f d fr env).bind λa=>fs r fr a
 |[]=>none
def ce:G6 X [] [] cr:=⟨_,f7,λg M b env c σ H ds fr vs Q a is e k=>by
 cases ds with
 |nil=>cases e;cases is;exact⟨rfl,k σ b a (λ_ _=>rfl) λ_ _ z=>z⟩
 |cons d ds=>cases e⟩
def aO(h1:F1 X ix e f)(p:G6 X jx es fs)
 (hs:∀t,PG X e t->∀u,Kx X es u->Kx X (e::es) (bm t u)):G6 X (ix++jx) (e::es) (aL f fs):=by
 obtain⟨t,p1,s1⟩:=h1;obtain⟨u,p2,s2⟩:=p;refine⟨_,hs t p1 u p2,λg M s env w σ H ds fr vs Q h is e k=>?_⟩;cases ds with
 |nil=>cases e
 |cons d ds=>
  obtain⟨v,r,rfl,x,y⟩:=is;unfold aL at e;dsimp only at e;cases q:f d fr env with
  |none=>rw[q]at e;cases e
  |some env1=>rw[q]at e;refine⟨v,r,rfl,s1 g M s env env1 σ H d fr v _ h x q λi l b A B=>?_⟩;exact s2 g M l env1 w i H ds fr r Q b y e λm n c C D=>k m n c (λj o=>(C j λz=>o (by simp[z])).trans (A j λz=>o (by simp[z]))) λj a z=>B j a (D j a z)
def gT(n:Nat)(fs:List D->Bool->En->Option En):D->Bool->En->Option En:=λd fr env=>match d with
 |.tup ds=>if ds.length=n then fs ds fr env else none
 |_=>none
def cJ(j:X.calm=true)(h:G6 X ix es fs)(l:autoParam ((assignEach es X.env).length=n) aM)(b:autoParam ((assignEach es X.env).findIdx? (·.1)=none) aM):F1 X ix (.Tuple es k pos) (gT n fs):=by
 obtain⟨t,p1,s1⟩:=h;refine⟨_,iY j p1 l b,λg M m env o σ H d fr v Q c is e p=>?_⟩;unfold gT at e;cases d with
 |tup ds=>
  obtain⟨a,vs,rfl,h1,i⟩:=is;dsimp only at e;by_cases f:ds.length=n
  .rw[UP f]at e;exact⟨a,vs,rfl,SqT.of h1,i.length.trans f,s1 g M m env o σ H ds fr vs Q c i e p⟩
  .rw[UV f]at e;cases e
 |_=>cases e
def ou(f:En->Res R)(asg:D->Bool->En->Option En):En->Res Fl:=λenv=>(f env).bind λr=>match asg r.d r.fr (ba env r.al)with
 |some a=>.ok (.nx a)
 |none=>.stuck
def d8(y:PD X E e f)(A:F1 X ix tg asg)(hs:autoParam (swapsWithSole [tg] e pos.line X.env=pure false) aM)(B:autoParam (swappedStores [tg] e X.env=pure none) aM)
 (h1:autoParam ((assignEach [tg] X.env).map (·.2)=[assign tg X.env]) aM):zY X E (.Assign [tg] e pos) (ou f asg):=by
 obtain⟨t,p1,s1⟩:=y;obtain⟨u,p2,s2⟩:=A;refine⟨_,Ky p1 p2 hs B h1,λg M G env σ H D c p=>s1.sP c p λr v I H' e h ro k=>?_⟩;obtain⟨M1,x1,l,b,m⟩:=ro.is h e c.same;obtain⟨M2,n,x,i,C,_,_⟩:=Rep.ba r.al b;have o:Is H' (gm g M2 r.fr) r.d v:=Is.frozen b x C m;cases q:asg r.d r.fr (ba env r.al)with
 |none=>simp only[q]at k;exact k.elim
 |some F=>simp only[q]at k;exact s2 g M2 n _ F σ H' r.d r.fr v _ i o q λs w j _ _=>k s M2 w H' ⟨λa z=>x a (l a z),λ_ _ q _=>q⟩ j
end
structure Src where
 xs:List D
 fr:Bool
 al:List Nat
structure Walk(J:It) (m:Addr->Prop) (H:Hp) (xs:List D):Prop where
 go:∀H' i d,(∀a o,H a=some o->(m a\/i6 o)->H' a=some o)->xs[i]?=some d->J.go i H'/\∀x H'',J.F3 i H' x H''->Same H' H''/\Is H'' m d x
 stop:∀H',(∀a o,H a=some o->(m a\/i6 o)->H' a=some o)->J.stop xs.length H'
theorem Walk.weak(w:Walk J m H xs)(h:∀a,m a->m' a):Walk J m' H xs:=⟨λH' i d k e=>let ⟨a,b⟩:=w.go H' i d (λa o q z=>k a o q (z.imp (h a) id)) e;⟨a,λx f y=>let ⟨c,d⟩:=b x f y;⟨c,d.weak h⟩⟩,λH' k=>w.stop H' λa o q z=>k a o q (z.imp (h a) id)⟩
def PostI(mg:Str->Option YA)(E:XK)(g:Gd)(M:Addr->Prop)(b:Pr)(env:En)(σ:St)(H:Hp)(R:It->Hp->Prop):Res Src->Prop
 |.stuck=>False
 |.exc c=>GY mg E g c
 |.ok s=>∀J a H',Ext M H a H'->Rep g a b env σ H'->Walk J (vmsk g a s.fr b s.al) H' s.xs->R J H'
def OY(mg:Str->Option YA)(E:XK)(b:TI)(f:En->Res Src):Prop:=∀g M a env σ H R,Rep g M a env σ H->PostI mg E g M a env σ H R (f env)->b σ H R
def N6(X:Cx)(E:XK)(tg iter:Expr)(f:En->Res Src):Prop:=∃a,PI X tg iter a/\OY X.mg E a f
section
variable{X:Cx}{E:XK}
def SK(K:Yy)(c:TE):TI:=λσ H R=>c σ H λx b=>∃a,x=.ref a/\(((∃xs,SqL K b a xs)/\R (Gc K a) b)\/((∃xs,SqT K b a xs)/\R (Sn K a) b))
def Ln(i:PE X l tl):PI X tg l (SK X.K tl):=by
 intro ac s σ H R I h;refine bX (i ac s σ H _ I h) λv s1 ⟨x,g,c,j,q1⟩=>?_;obtain⟨a,e,q⟩:=q1;subst e;cases j;rcases q with⟨⟨xs,d⟩,q⟩|⟨⟨xs,d⟩,q⟩
 .obtain⟨its,k,p,hz⟩:=c.list d;refine W9 p.isList ?_;refine⟨s1.heap.objs.size,[s1.heap.objs.size],_,_,g,rfl,c.kept (t':=s1.toks) λb o e=>RW _ e,sS a _,⟨_,UU _ rfl,rfl,rfl⟩,λb f=>?_,q⟩;have e:b=s1.heap.objs.size:=by simpa using f
  subst e;exact c.sO (UN _) (c.aU.fresh (UN _))
 .obtain⟨its,k,p,hz⟩:=c.tuple d;refine wpAny_pyIter_tuple (show s1.heap.IsTuple a its.toArray from p) ?_;refine⟨s1.heap.objs.size,[s1.heap.objs.size],_,_,g,rfl,c.kept (t':=s1.toks) λb o e=>RW _ e,xZ a _,⟨_,UU _ rfl,rfl,rfl⟩,λb f=>?_,q⟩;have e:b=s1.heap.objs.size:=by simpa using f
  subst e;exact c.sO (UN _) (c.aU.fresh (UN _))
def Bp{K:Yy}{a:Addr}{m:Addr->Prop}(h:(H a=some (.lst vs)/\m a)\/∃o,H a=some (.ba o (.lst vs))/\m a)(is:IsAll H m ds vs):Walk (Gc K a) m H ds:=by
 have st:∀H',(∀a o,H a=some o->(m a\/i6 o)->H' a=some o)->SqL K H' a vs:=λH' k=>by
  rcases h with⟨h,c⟩|⟨o,h,_⟩
  .exact .inl (.inl (k a _ h (.inl c)))
  .exact .inl (.inr ⟨o,k a _ h (.inr tI_)⟩)
 refine⟨λH' i d k e=>?_,λH' k=>⟨vs,st H' k,by rw[is.length];exact UN _⟩⟩;obtain⟨v,b,f⟩:=(is.mono k λ_ _ _ z=>z:IsAll H' m ds vs).get e;refine⟨⟨vs,v,st H' k,b⟩,λx g y=>?_⟩;obtain⟨rfl,y⟩:=y;have:=y vs (st _ k);rw[b]at this;cases this;exact⟨Same.refl _,f⟩
def DQ{K:Yy}{a:Addr}{m:Addr->Prop}(h:H a=some (.tup vs))(is:IsAll H m ds vs):Walk (Sn K a) m H ds:=by have st:∀H',(∀a o,H a=some o->(m a\/i6 o)->H' a=some o)->SqT K H' a vs:=λH' k=>SqT.of (k a _ h (.inr tI_));refine⟨λH' i d k e=>?_,λH' k=>⟨vs,st H' k,by rw[is.length];exact UN _⟩⟩;obtain⟨v,b,c⟩:=(is.mono k λ_ _ _ z=>z:IsAll H' m ds vs).get e;refine⟨⟨vs,v,st H' k,b⟩,λx f y=>?_⟩;obtain⟨rfl,y⟩:=y;have:=y vs (st _ k);rw[b]at this;cases this;exact⟨Same.refl _,c⟩
noncomputable def dg(lo:Int)(n:Nat):List D:=(List.range n).map λk=>.int (lo+(k:Nat))
def qW(lo:Int)(n:Nat):Walk (Os lo n) m H (dg lo n):=by
 refine⟨λH' i d k e=>?_,λH' k=>by show n<=(dg lo n).length;simp[dg]⟩;have a:i<n:=by have:=(UQ.mp e).1;simpa[dg]using this
 refine⟨a,λx b y=>?_⟩;obtain⟨rfl,rfl⟩:=y;refine⟨Same.refl _,?_⟩;have:(dg lo n)[i]?=some (.int (lo+(i:Nat))):=by simp[dg,a]
 rw[this]at e;cases e;rfl
def kG(f:En->Res R):En->Res Src:=λenv=>(f env).bind λr=>match r.d with
 |.lst ds=>.ok ⟨ds,r.fr,r.al⟩
 |.tup ds=>.ok ⟨ds,r.fr,r.al⟩
 |_=>.stuck
def d9(h:PD X E l f):N6 X E tg l (kG f):=by
 obtain⟨t,p1,s1⟩:=h;refine⟨_,Ln p1,λg M m env σ H R i p=>?_⟩;refine s1.one i (P:=λM H r=>PostI X.mg E g M m env σ H R r) p (λ_ _ z=>z) (λ_ _ _ z=>z) (λM H u H' r e p=>?_) λr v M1 k e1 b is q=>?_
 .cases r with
  |stuck=>exact p
  |exc c=>exact p
  |ok s=>exact λJ M2 n e2=>p J M2 n (e.trans e2)
 .cases z:r.d with
  |lst ds=>rw[z]at is;simp only[z]at q;obtain⟨a,vs,rfl,h1,j⟩:=is;exact⟨a,rfl,.inl ⟨⟨vs,.inl (h1.imp (·.1) λ⟨o,z,_⟩=>⟨o,z⟩)⟩,q _ M1 k (Ext.refl _ _) b (Bp h1 j)⟩⟩
  |tup ds=>rw[z]at is;simp only[z]at q;obtain⟨a,vs,rfl,h1,j⟩:=is;exact⟨a,rfl,.inr ⟨⟨vs,SqT.of h1⟩,q _ M1 k (Ext.refl _ _) b (DQ h1 j)⟩⟩
  |_=>simp only[z]at q;exact q.elim
noncomputable def cR(i:Int):Bool:=decide (-(2^62)<=i)&&decide (i<2^62)
def Lo(fs:En->Res (List R)):En->Res Src:=λenv=>(fs env).bind λrs=>match rs.map R.d with
 |[.int j]=>if cR j then .ok ⟨dg 0 j.toNat,true,[]⟩else .stuck
 |_=>.stuck
def SL(fs:En->Res (List R)):En->Res Src:=λenv=>(fs env).bind λrs=>match rs.map R.d with
 |[.int i,.int j]=>if cR i&&cR j then .ok ⟨dg i (j-i).toNat,true,[]⟩else .stuck
 |_=>.stuck
def PostI.ext{mg:Str->Option YA}{M a:Addr->Prop}{R:It->Hp->Prop}(e:Ext M H a H')(p:PostI mg E g M ρ env σ H R r):PostI mg E g a ρ env σ H' R r:=by
 cases r with
 |stuck=>exact p
 |exc c=>exact p
 |ok s=>exact λJ M2 b e2=>p J M2 b (e.trans e2)
def g7(h:Gl X "range") (i:X.mg "range"=none) (ha:Cr X E [a] fs) (hs:autoParam (starEach [a] X.env=[(false,eval a X.env)]) aM):N6 X E tg (.Call (.Name "range" p) [a] [] pos) (Lo fs):=by
 obtain⟨t,p1,s1⟩:=ha;refine⟨_,AV h i p1 hs,λg M k env σ H l f p=>s1.one f (P:=λM H r=>PostI X.mg E g M k env σ H l r) p (λ_ _ z=>z) (λ_ _ _ z=>z) (λ_ _ _ _ _ e p=>p.ext e) λrs vs M1 m e1 b is q=>?_⟩;generalize hd:rs.map R.d=ds at is q
 match ds,is,q with
 |[.int j],is,q=>
  obtain⟨v,w,rfl,n,o⟩:=is;cases n;cases o;dsimp only at q;by_cases c:cR j=true
  .rw[UP c]at q;simp only[cR,Vi,V8]at c;exact⟨j,rfl,c.1,c.2,q _ M1 m (Ext.refl _ _) b (qW 0 j.toNat)⟩
  .rw[UV c]at q;exact q.elim
 |[],_,q=>exact q.elim
 |[.bv],_,q=>exact q.elim
 |[.bl _],_,q=>exact q.elim
 |[.str _],_,q=>exact q.elim
 |[.tup _],_,q=>exact q.elim
 |[.lst _],_,q=>exact q.elim
 |[.dZ _ _],_,q=>exact q.elim
 |.int _::_::_,_,q=>exact q.elim
 |.bv::_::_,_,q=>exact q.elim
 |.bl _::_::_,_,q=>exact q.elim
 |.str _::_::_,_,q=>exact q.elim
 |.tup _::_::_,_,q=>exact q.elim
 |.lst _::_::_,_,q=>exact q.elim
 |.dZ _ _::_::_,_,q=>exact q.elim
def gy(asg:D->Bool->En->Option En)(fr:Bool)(body:En->Res Fl):List D->En->Res Fl
 |[],env=>.ok (.nx env)
 |x::xs,env=>match asg x fr env with
  |none=>.stuck
  |some env1=>(body env1).bind λr=>match r with
   |.nx a=>gy asg fr body xs a
   |.ct a=>gy asg fr body xs a
   |.bk a=>.ok (.nx a)
   |.rt r=>.ok (.rt r)
   |.rm r e=>.ok (.rm r e)
def ss(a:En->Res Src)(asg:D->Bool->En->Option En)(body:En->Res Fl):En->Res Fl:=λenv=>(a env).bind λs=>gy asg s.fr body s.xs (ba env s.al)
def OZ(J:It)(u:TG)(tb:TS)(D:Ends)(σ:St)(c:Hp):Prop:=∃W:Nat->Nat->St->Hp->Prop,(∃m,W 0 m σ c)/\∀i m σ H,W i m σ H->(J.stop i H/\D.nx σ H)\/(J.go i H/\∃N:St->Hp->Prop,(∀a H',N a H'->∃m',m'<m/\W (i+1) m' a H')/\∀x H',J.F3 i H x H'->u x σ H' λb d=>tb {D with nx:=N,ct:=N,bk:=D.nx} b d)
def qX{asg:D->Bool->En->Option En}{G:En->Res Fl}{g:Gd}{M2:Addr->Prop}{H:Pr}{p:En}{σ:St}{v:Hp}{D:Ends}(s2:Lm ix u asg)(W:G5 X.mg E tb G)(I:Rep g M2 H p σ v)(K:Walk J (gm g M2 fr) v xs)(O:PostS X.mg E g M2 v D (gy asg fr G xs p)):OZ J u tb D σ v:=by
 refine⟨λi m l H'=>m=xs.length-i/\i<=xs.length/\∃k n L,Rep g k n L l H'/\l_ M2 v k H'/\PostS X.mg E g k H' D (gy asg fr G (xs.drop i) L),⟨_,rfl,Vo _,M2,H,_,I,l_.refl _ _,O⟩,?_⟩;rintro i m l H' ⟨rfl,Y,k,n,L,q,f',s⟩;have kp:∀a o,v a=some o->(gm g M2 fr a\/i6 o)->H' a=some o:=λa o e z=>f'.h a o e (z.imp (·.1) id);by_cases w:i<xs.length
 .have Z:xs[i]?=some xs[i]:=by simp[w]
  obtain⟨go,yl⟩:=K.go H' i _ kp Z;have A:xs.drop i=xs[i]::xs.drop (i+1):=List.drop_eq_getElem_cons w;rw[A]at s;unfold gy at s;refine .inr ⟨go,λt b=>∃M'' M f,Rep g M'' M f t b/\l_ M2 v M'' b/\PostS X.mg E g M'' b D (gy asg fr G (xs.drop (i+1)) f),λt b z=>⟨xs.length-(i+1),by lia,rfl,w,z⟩,λx b y=>?_⟩;obtain⟨sm,is⟩:=yl x b y;have B:=q.grow sm;have fx:l_ k H' k b:=⟨λ_ z=>z,λa o e _=>sm a o e⟩;have P:Is b (gm g k fr) xs[i] x:=is.weak λa z=>gm.mono f'.m z;cases Q:asg xs[i] fr L with
  |none=>simp only[Q]at s;exact s.elim
  |some env1=>
   simp only[Q]at s;refine s2 g k n L env1 l b _ fr x _ B P Q λR S C _ _=>?_;refine W g k S env1 R b _ C ?_;have d:=PostS.ba fx s;cases T:G env1 with
   |stuck=>rw[T]at d;exact d
   |exc c=>rw[T]at d;exact d
   |ok r=>
    rw[T]at d;cases r with
    |nx e3=>exact λU V F H3 N j=>⟨V,F,e3,j,(f'.trans fx).trans N,PostS.ba N d⟩
    |ct e3=>exact λU V F H3 N j=>⟨V,F,e3,j,(f'.trans fx).trans N,PostS.ba N d⟩
    |bk e3=>exact d
    |rt r=>exact d
    |rm r e3=>exact d
 .have e:i=xs.length:=by lia
  subst e;rw[List.drop_length]at s;exact .inl ⟨K.stop H' kp,s l k n H' (l_.refl _ _) q⟩
def jA(m:PassesOwn (model X.prog X.w) X.A X.env X.xe)(n:X.calm=true)
 (e:N6 X E tg iter src) (r:F1 X ix tg asg) (t:uH X E body fb) (hs:autoParam (∀x,foldedSetIterable iter X.env x=pure x) am):zY X E (.For tg iter body [] pos) (ss src asg fb):=by
 obtain⟨G,p1,s1⟩:=e;obtain⟨u,p2,s2⟩:=r;obtain⟨tb,p3,v⟩:=t;refine⟨_,gS m n p1 p2 p3 hs,λg M y env σ H D f p=>?_⟩;refine s1 g M y env σ H _ f ?_;unfold ss at p;cases q:src env with
 |stuck=>rw[q]at p;exact p
 |exc c=>rw[q]at p;exact p
 |ok s=>rw[q]at p;intro J M1 k e1 b B;obtain⟨M2,C,l,d,F,_,_⟩:=Rep.ba s.al b;have h:Walk J (gm g M2 s.fr) k s.xs:=B.weak λa z=>z.elim (gm.mono l) λ⟨i,e,o⟩=>⟨F i e a o,λ_=>(b.ci i a o).2.1⟩;have j:PostS X.mg E g M2 k D (gy asg s.fr fb s.xs (ba env s.al)):=PostS.ba (e1.ba.trans ⟨l,λ_ _ q _=>q⟩) p;exact qX s2 v d h j
end
theorem jB:∀(names:List (Str×NameKind))(cs:List (Str×Addr)),(∀x∈names,x.2=.free->∃c,env.cells.lookup x.1=some c)->(∀y c,cs.lookup y=some c->env.cells.lookup y=some c)->
 ∃cl,(forIn names cs λ(x:Str×NameKind)(r:List (Str×Addr))=>(do
  if(x.2==.free)=true then
   let c <- cellOf env x.1
   pure (ForInStep.yield ((x.1,c)::r))
  else pure (ForInStep.yield r):Sem (ForInStep (List (Str×Addr)))))=pure cl/\(∀y c,cl.lookup y=some c->env.cells.lookup y=some c)/\(∀x∈names,x.2=.free->∃c,cl.lookup x.1=some c)/\(∀y c,cs.lookup y=some c->∃a,cl.lookup y=some a)
 |[],cs,_,h=>⟨cs,by simp,h,λ_ z=>absurd z (by simp),λy c e=>⟨c,e⟩⟩
 |(n,k)::r,cs,f,h=>by
  by_cases g:k=.free
  .subst g;obtain⟨c,l⟩:=f (n,.free) (by simp) rfl;have i:cellOf env n=pure c:=by simp[cellOf,l]
   have h':∀y a,((n,c)::cs).lookup y=some a->env.cells.lookup y=some a:=λy a e=>by
    rw[W1]at e;cases d:y==n with
    |true=>rw[d]at e;cases e;rw[eq_of_beq d];exact l
    |false=>rw[d]at e;exact h y a e
   obtain⟨cl,e1,e2,e3,e4⟩:=jB r ((n,c)::cs) (λx hx=>f x (by simp[hx])) h';have self:∃a,cl.lookup n=some a:=e4 n c (by simp[W1]);refine⟨cl,?_,e2,λx hx b=>?_,λy a e=>?_⟩
   .rw[List.forIn_cons];simp only[beq_self_eq_true,Wl,i,pure_bind];exact e1
   .rcases US.mp hx with rfl|hx
    .exact self
    .exact e3 x hx b
   .by_cases d:y=n
    .rw[d];exact self
    .refine e4 y a ?_;have m:(y==n)=false:=by simpa using d
     rw[W1,m];exact e
  .obtain⟨cl,e1,e2,e3,e4⟩:=jB r cs (λx hx=>f x (by simp[hx])) h;refine⟨cl,?_,e2,λx hx b=>?_,e4⟩
   .rw[List.forIn_cons];have j:(k==NameKind.free)=false:=by simpa using g
    simp only[j,U2,VH,pure_bind];exact e1
   .rcases US.mp hx with rfl|hx
    .exact absurd b g
    .exact e3 x hx b
def su(h:∀x∈scope.names,x.2=.free->∃c,env.cells.lookup x.1=some c) :
 ∃cl,closureFor scope env=pure cl/\(∀y c,cl.lookup y=some c->env.cells.lookup y=some c)/\(∀x∈scope.names,x.2=.free->∃c,cl.lookup x.1=some c):=by
 obtain⟨cl,e1,e2,e3,_⟩:=jB scope.names [] h (λ_ _ e=>by simp at e);refine⟨cl,?_,e2,e3⟩;unfold closureFor;refine Eq.trans ?_ (show((pure cl:Sem (List (Str×Addr))) >>= λcs=>pure cs)=pure cl by simp);rw[<- e1]
 all_goals first
  |rfl
  |(congr 1;congr 1;funext x r;obtain⟨n,k⟩:=x;first|rfl|(dsimp only;split<;>simp_all))
theorem pj{f:Str->NameKind->NameKind}:∀(names:List (Str×NameKind))(y:Str),(names.map λx=>(x.1,f x.1 x.2)).lookup y=(names.lookup y).map (f y)
 |[],y=>rfl
 |(n,k)::r,y=>by
  rw[UR,W1,W1];cases h:y==n with
  |true=>rw[eq_of_beq h];rfl
  |false=>exact pj r y
def kH(scope:Scope)(env:Env)(y:Str):(relabel scope env).names.lookup y=(scope.names.lookup y).map λk=>if(k==.free&&env.scope.kind==.function&&env.kindOf y==some .cell)=true then .cell else k:=by
 have e:(relabel scope env).names=scope.names.map λx=>(x.1,(λn k=>if(k==NameKind.free&&env.scope.kind==.function&&env.kindOf n==some .cell)=true then NameKind.cell else k) x.1 x.2):=by unfold relabel;refine V1 λx _=>?_;obtain⟨n,k⟩:=x;dsimp only;split<;>rfl
 rw[e];exact pj (f:=λn k=>if(k==NameKind.free&&env.scope.kind==.function&&env.kindOf n==some .cell)=true then NameKind.cell else k) scope.names y
def uL(h:scope.names.lookup y=some .free):(relabel scope env).names.lookup y=some .cell\/(relabel scope env).names.lookup y=some .free:=by
 rw[kH,h];simp only[Option.map_some];split
 .exact .inl rfl
 .exact .inr rfl
noncomputable def cK(X:Cx)(scope:Scope)(N:List Str)(cl:List (Str×Addr))(C:Addr)(s:Yx)(H:Hp)(ex:List Addr):Cx:={X with N:=N,s₀:=s,H₀:=H,env:=compEnvC scope cl C X.env,outer:=X.stack,ex:=ex,fn:=λ_=>false,pn:=[],xe:=λ_ _=>False}
section
def G7(I:L2.Inv X ac σ H s)(hkind:scope.kind=.function)(hcell:∀y∈scope.names,y.2≠.cell)(hcl:∀y c,cl.lookup y=some c->X.env.cells.lookup y=some c)(hhas:∀x∈scope.names,x.2=.free->∃c,cl.lookup x.1=some c)
 (hC:s.heap.objs.size<=C) (hex:∀b∈ex,lI X ac H b/\b<s.heap.objs.size):(cK X scope N cl C s H ex).Ok where
 mod:=I.ok.mod
 kind:=hkind
 glob:=I.ok.glob
 blt:=I.ok.blt
 above:=hC
 inj:=λx y c h1 h2=>I.ok.inj x y c (hcl x c h1) (hcl y c h2)
 has:=λy hy=>by
  have key:∀k,(relabel scope X.env).names.lookup y=some k->(k=.cell\/k=.free)->∃c,cl.lookup y=some c:=λk e hk=>by
   rw[kH]at e;cases q:scope.names.lookup y with
   |none=>rw[q]at e;cases e
   |some k0=>
    have hm:=Wj q;have h0:=hcell _ hm;have hf:k0=.free:=by
     rw[q]at e;simp only[Option.map_some,Yf]at e;split at e
     .rename_i z;simp only[Vi,W2]at z;exact z.1.1
     .rcases hk with hk|hk
      .exact absurd (e.trans hk) h0
      .exact e.trans hk
    exact hhas _ hm hf
  rcases hy with hy|hy
  .exact key _ hy (.inl rfl)
  .exact key _ hy (.inr rfl)
 Oh:=λ_ _ h=>by cases h
 hd:=I.ok.hd
 frames:=I.ok.frames
 RI:=.inl rfl
 TL:=λb hb=>⟨U9 (Vj (hex b hb).2 hC),λx c e=>(hex b hb).1.2.2.2.2.1 x c (hcl x c e)⟩
 bs:=λb o e=>I.bs b o e
 F5:=Vf I.ok.F5 I.sz
 Cq:=λb o e hb=>by
  rcases(hex b hb).1.2.2.2.1 with z|z
  .exact I.ok.Cq b o e z
  .exact absurd (Vj (UX e) (Vf I.ok.F5 z)) (Wy _)
 FW:=λb hb hfs=>by
  rcases US.mp (I.vz b hfs)with z|z
  .exact(hex b hb).1.2.1 z
  .exact(hex b hb).1.2.2.1 z
 oY:=I.stack
 J3:=I.AQ
 kt:=I.kt
structure RH(X:Cx) (scope:Scope) (capN:List Str) (caps:List Nat):Prop where
 at':∀(k:Nat)(y:Str),capN[k]?=some y->∃j:Nat,caps[k]?=some j/\X.N[j]?=some y
 out:∀y∈capN,X.env.kindOf y=some .cell\/X.env.kindOf y=some .free
 vx:∀y∈capN,scope.names.lookup y=some .free
 len:caps.length=capN.length
noncomputable def oz(σ:St)(caps:List Nat):St:=caps.map λj=>(σ[j]?).join
def DR(I:L2.Inv X ac σ H s)(hkind:scope.kind=.function)(hcell:∀y∈scope.names,y.2≠.cell)(hcl:∀y c,cl.lookup y=some c->X.env.cells.lookup y=some c)(hhas:∀x∈scope.names,x.2=.free->∃c,cl.lookup x.1=some c)
 (hC:s.heap.objs.size<=C) (hex:∀b∈ex,lI X ac H b/\b<s.heap.objs.size) (hc:RH X scope capN caps) (kp:∀b o,s.heap.get? b=some o->h4.get? b=some o) (ns:h4.Ns C m4) :
 L2.Inv (cK X scope (tN++capN) cl C s H ex) [] (List.replicate tN.length none++oz σ caps) H {s with heap:=h4,toks:=tk} where
 ok:=G7 I hkind hcell hcl hhas hC hex
 os:=rfl
 bare:=I.bare
 base:=Un.kept kp
 loc:=by
  refine⟨m4,ns,λi y v e1 e2 e3=>?_⟩;by_cases hlt:i<tN.length
  .rw[V4 (by simpa using hlt),Xw]at e2;rw[UP hlt]at e2;cases e2
  .obtain⟨k,rfl⟩ : ∃k,i=tN.length+k:=⟨i-tN.length,by lia⟩;have e1:capN[k]?=some y:=by
    have e1:(tN++capN)[tN.length+k]?=some y:=e1
    rwa [VS (by lia),WA]at e1
   have e2:(oz σ caps)[k]?=some (some v):=by
    rwa [VS (by simp),XJ,WA]at e2
   obtain⟨j,ej,eN⟩:=hc.at' k y e1;have e4:σ[j]?=some (some v):=by
    unfold oz at e2;rw[U7,ej]at e2;have e2:(σ[j]?).join=some v:=by simpa using e2
    cases q:σ[j]? with
    |none=>rw[q]at e2;cases e2
    |some o=>rw[q]at e2;cases o with
     |none=>cases e2
     |some w=>cases e2;rfl
   have hm:=Vm e1;obtain⟨m,hn,hl⟩:=I.loc;have hout:=hc.out y hm;obtain⟨u,r,l⟩:=hl j y v eN e4 (.inr hout);refine⟨u,r,.inr ⟨uL (hc.vx y hm),?_⟩⟩;obtain⟨c,hcl2⟩:=hhas (y,.free) (Wj (hc.vx y hm)) rfl;refine⟨c,hcl2,?_⟩;rcases l with⟨l,_⟩|⟨_,c',e5,z⟩
   .rcases hout with h|h<;>(rw[h]at l;cases l)
   .have:=hcl y c hcl2;rw[e5]at this;cases this;obtain⟨o,ho,hd⟩:=z;exact⟨o,kp _ o ho,hd⟩
 cell:=λy c e=>by obtain⟨v,o,ho,hd⟩:=I.cell y c (hcl y c e);exact⟨v,o,kp _ o ho,hd⟩
 free:=I.aU.fresh hC
 jo:=λy c e=>I.jo y c (hcl y c e)
 pin:=λp hp=>absurd (show p∈([]:List (Addr×Obj))from hp) (by simp)
 aU:=I.aU.kept kp
 len:=by simp[cK,oz,hc.len]
def Bq(I:L2.Inv X ac σ H s)(c:X'=cK X scope N cl C s H ex)(d:s.heap.objs.size<=C)(hex:∀b∈ex,lI X ac H b/\b<s.heap.objs.size)
 (a:L2.Inv X' pl σ' H' s'):L2.Inv X ac σ H' s'/\lI X ac H' C:=by
 subst c;refine⟨I.RG (ch:=ex) a.os a.base a.aU a.bare λb e=>?_,I.sO d a.free⟩;obtain⟨_,f,j,g,h,i⟩:=(hex b e).1;exact⟨g,f,h,i⟩
def z4(I:L2.Inv X ac σ H s)(a:lI X ac H C)(c:Heap.SameBut C s.heap h'):L2.Inv X ac σ H {s with heap:=h'}:=I.turned (t':=s.toks) (it:=C) (λb o d e=>(c.2 b d).trans e) a.1 a.2.1 a.2.2.2.1 a.2.2.2.2.1 a.2.2.2.2.2
end
section
def O0(X:Cx)(a:List Expr)(b:TT):Prop:=∀(ac:List (Addr×Obj))(s:Yx)(σ:St)(H:Hp)(Q:Bool->Hp->Prop),L2.Inv X ac σ H s->b σ H Q->
 wpAny (model X.prog X.w) X.A (forIn a true λc r=>if r=true then do let ok <- isTrue c X.env (eval c X.env);pure (ForInStep.yield ok)else pure (ForInStep.yield r)) (TP X ac σ Q) X.xe s
def z5:O0 X [] (λ_ H Q=>Q true H):=λ_ _ σ H Q I q=>wpAny_tests_nil ⟨H,I,q⟩
def G8(h:PT X c tt):O0 X [c] tt:=λac s σ H Q I q=>wpAny_tests_one (h ac s σ H Q I q)
def Br(p:X'=cK X scope (tN++capN) cl C s3 H3 fp)(T:Turn X.prog X.w X.K tg J fp it tn)(q:X.calm=true)
 (I4:L2.Inv X' [] (List.replicate tN.length none++c) H3 s4) (bu:X'.N.length=tN.length+c.length) (st4:tn 0 s4.heap) (hf:∀b∈fp,lI X' [] H3 b)
 (hg:PG X' tg gt) (ht:O0 X' ifs tt) (he:PE X' elt te)
   (W:Nat->Nat->List V->Hp->Prop) (Fin:List V->Hp->Prop) (w0:∃m,W 0 m [] H3)
   (turn:∀i m a H,W i m a H->H Dl=some (.lst a)/\((J.stop i H/\Fin a H)\/(J.go i H/\∀G H' o,J.F3 i H G H'->o.length=tN.length->gt G (o++c) H' λt H1=>(∀j:Nat,tN.length<=j->t[j]?=(o++c)[j]?)/\tt t H1 λb H2=>if b=true then
     te t H2 λy g=>g Dl=some (.lst a)/\a.length<sizeLine/\∃m',m'<m/\W (i+1) m' (a++[y]) (aP g Dl (.lst (a++[y])))else ∃m',m'<m/\W (i+1) m' a H2)))
   (R:Result->Yx->Prop) (hR:∀σ' H' a B,L2.Inv X' [] σ' H' B->H' Dl=some (.lst a)->Fin a H'->R (.ok .next) B) :
   codeAny (model X.prog X.w) X.A (.compLoop (.ListComp elt [⟨tg,iter,ifs,0⟩] scope pos) 0 (.ref it) (.ref Dl) (compEnvC scope cl C X.env)) R s4:=by
  obtain⟨m0,w0⟩:=w0;have eA:X'.A=X.A:=by rw[p];rfl
  have E:X'.prog=X.prog:=by rw[p];rfl
  have F:X'.w=X.w:=by rw[p];rfl
  have eK:X'.K=X.K:=by rw[p];rfl
  have eE:X'.env=compEnvC scope cl C X.env:=by rw[p];rfl
  have Y:X'.xe=λ_ _=>False:=by rw[p];rfl
  have eC:X'.calm=true:=by rw[p];exact q
  have f:∀{H':Hp},(∀b∈fp,H' b=none)->∀b∈fp,lI X' [] H' b:=λhn b h=>⟨hn b h,(hf b h).2⟩;refine codeAny_loop rfl (λn s=>∃i o a H,L2.Inv X' [] (o++c) H s/\o.length=tN.length/\tn i s.heap/\(∀b∈fp,H b=none)/\W i n a H) ?_ m0 ⟨0,List.replicate tN.length none,[],H3,I4,by simp,st4,λb h=>(hf b h).1,w0⟩;rintro n s5 ⟨i,o,a,g,I5,lo,I,L,w5⟩;show wpAny _ X.A ((compTurn (.ListComp elt [⟨tg,iter,ifs,0⟩] scope pos) 0 (.ref it) (.ref Dl) (compEnvC scope cl C X.env)).onRaise (λx=>do noteFrame x (compEnvC scope cl C X.env);theTreesLotGoes x)) _ _ s5;refine wpAny_noted ?_;rw[compTurn_list];obtain⟨hD,alt⟩:=turn i n a g w5;rcases alt with⟨stop,fin⟩|⟨go,step⟩
  .refine KE (wpAny_standAt (KE (Wg (eA▸T.done X' E F eK eC i [] s5 _ g _ I5 (f L) I stop) (λr s6 ⟨hr,I6⟩=>?_) λ_ _ z=>z)));subst hr;exact UM (hR _ g a s6 I6 hD fin)
  .refine KE (wpAny_standAt (KE (Wg (eA▸T.item X' E F eK eC i [] s5 _ g _ I5 (f L) I go) (λr s6 ⟨u,hr,h6⟩=>?_) λ_ _ z=>z)));subst hr;refine KE (Wg h6 (λ_ s7 ⟨G,H7,I7,r7,y7,D,fr7⟩=>?_) λ_ _ z=>z);have I7':=I7.pinned (f fr7) (T.obj _ _ D);have M:=hg _ s7 _ H7 G u _ I7' r7 (step G H7 o y7 lo);rw[E,F,eA,eE,Y]at M;refine KE (Wg M (λ_ s8 ⟨k,H8,I8,shp,q8⟩=>?_) λ_ _ z=>z.elim);obtain⟨l,O,eσ⟩ : ∃l:St,l.length=tN.length/\k=l++c:=by
    have l8:k.length=tN.length+c.length:=I8.len.trans bu;refine⟨k.take tN.length,by rw[Wv];lia,?_⟩;have ed:k.drop tN.length=c:=by
     apply XD
     intro j;rw[List.getElem?_drop,shp (tN.length+j) (by lia),VS (by lia),lo,WA]
    rw[<- ed,WL]
   subst eσ;have P:=ht _ s8 _ H8 _ I8 q8;rw[E,F,eA,eE,Y]at P;refine KE (Wg P (λok s9 ⟨Z,I9,q9⟩=>?_) λ_ _ z=>z.elim);have again:∀{B:Yx}{H':Hp},L2.Inv X' ([]++qj fp s7.heap) (l++c) H' B->L2.Inv X' [] (l++c) H' B/\tn (i+1) B.heap/\∀b∈fp,H' b=none:=λ{B H'} J'=>by refine⟨J'.nT,T.keep _ _ _ D λb h ob e=>(J'.pin (b,ob) (Vn _ (Vn _ (js h e)))).1,λb h=>?_⟩;obtain⟨ob,e,d⟩:=T.obj _ _ D b h;exact(J'.pin (b,ob) (Vn _ (Vn _ (js h e)))).2.1
   cases ok with
   |false=>obtain⟨m',hm,w9⟩:=(show ∃m',m'<n/\W (i+1) m' a Z from by simpa using q9);obtain⟨a1,a2,a3⟩:=again I9;exact UM ⟨rfl,m',hm,i+1,l,a,Z,a1,O,a2,a3,w9⟩
   |true=>
    have q9:te (l++c) Z λy g=>g Dl=some (.lst a)/\a.length<sizeLine/\∃m',m'<n/\W (i+1) m' (a++[y]) (aP g Dl (.lst (a++[y]))):=by simpa using q9
    have Q:=he _ s9 _ Z _ I9 q9;rw[E,F,eA,eE,Y]at Q;refine KE (KE (Wg Q (λv s10 ⟨y,S,I10,ry,eD,hl,m',hm,w10⟩=>?_) λ_ _ z=>z.elim));have U:=fS (X:=X') _ s10 _ S (.ref Dl) [y] (.ref Dl) [v] (λw H'=>w=.bv/\H'=aP S Dl (.lst (a++[y]))) I10 rfl (.cons ry .nil) ⟨Dl,a,y,rfl,rfl,eD,hl,rfl,rfl⟩;rw[E,F,eA,Y]at U;refine KE (Wg U (λ_ s11 ⟨w,H11,I11,_,_,eH⟩=>?_) λ_ _ z=>z.elim);subst eH;obtain⟨a1,a2,a3⟩:=again I11;exact UM (UM ⟨rfl,m',hm,i+1,l,a++[y],_,a1,O,a2,a3,w10⟩)
end
structure cB(X:Cx) (scope:Scope) (tN:List Str) (capN:List Str) (caps:List Nat):Prop where
 kind:scope.kind=.function
 Kh:∀y∈scope.names,y.2≠.cell
 names:∀y∈scope.names,y.2=.local->scope.names.lookup y.1=some .local
 own:∀x∈tN,scope.names.lookup x=some .local
 free:∀y∈scope.names,y.2=.free->X.env.kindOf y.1=some .cell\/X.env.kindOf y.1=some .free
 cap:RH X scope capN caps
 nd:(tN++capN).Nodup
section
def kI(X:Cx)(scope:Scope)(tg:Expr)(tN:List Str)(capN:List Str)(caps:List Nat)(elt:Expr)(f:List Expr)(σ:St)(Fin:Addr->List V->Hp->Prop)(J:It)(d:Hp):Prop:=
 ∀(c:Addr),d c=none->∀(cl:List (Str×Addr))(C:Addr)(g:Yx)(fp:List Addr),∃(gt:TG)(h:TT)(k:TE)(W:Nat->Nat->List V->Hp->Prop),
  PG (cK X scope (tN++capN) cl C g (aP d c (.lst [])) fp) tg gt/\O0 (cK X scope (tN++capN) cl C g (aP d c (.lst [])) fp) f h/\PE (cK X scope (tN++capN) cl C g (aP d c (.lst [])) fp) elt k/\(∃m,W 0 m [] (aP d c (.lst [])))/\
  ∀i m a H,W i m a H->H c=some (.lst a)/\((J.stop i H/\Fin c a H)\/(J.go i H/\∀l H' (o:St),J.F3 i H l H'->o.length=tN.length->gt l (o++oz σ caps) H' λe p=>(∀j:Nat,tN.length<=j->e[j]?=(o++oz σ caps)[j]?)/\h e p λb d=>if b=true then
   k e d λy n=>n c=some (.lst a)/\a.length<sizeLine/\∃m',m'<m/\W (i+1) m' (a++[y]) (aP n c (.lst (a++[y])))else ∃m',m'<m/\W (i+1) m' a d))
def tP{use:Option (YA->Sem Unit)}{Qv:YA->Yx->Prop}{Fin:Addr->List V->Hp->Prop}(hc:X.calm=true)(S:cB X scope tN capN caps)(I:L2.Inv X ac σ H s)(hi:PI X tg iter wi)
 (h:wi σ H (kI X scope tg tN capN caps elt ifs σ Fin))
 (hu:∀(L C:Addr)(j:List V)(H':Hp)(q:Yx),L2.Inv X ac σ H' q->lI X ac H' C->H' L=some (.lst j)->Fin L j H'->(∃m,q.heap.Ns C m)->compPost (model X.prog X.w) X.A X.xe use Qv (.ref L) C (.ok .next) q)
 (hs:autoParam (∀x,foldedSetIterable iter X.env x=pure x) am) :
 wX X (comprehension (.ListComp elt [⟨tg,iter,ifs,0⟩] scope pos) scope X.env (firstIterPos [⟨tg,iter,ifs,0⟩] pos) (newList []) false (eval iter X.env) use) Qv X.xe s:=by
 obtain⟨cl,M,r,t⟩:=su (scope:=scope) (env:=X.env) λy N hf=>I.ok.has y.1 (S.free y N hf);refine wpAny_comprehension_free rfl hs M S.kind S.names (bX (hi ac s σ H _ I h) λv s1 h1=>bX h1 λitv s2 h2=>?_);obtain⟨it,fp,tn,J,k,rfl,U,T,B,Y,D⟩:=h2;refine Vz (wpAny_newFunctionEnv S.Kh (by intro y N;simp at N) (λa d g=>?_) S.kind);dsimp only at d g ⊢;have hD:k s2.heap.objs.size=none:=U.aU.fresh (UN _);have K:L2.Inv X ac σ (aP k s2.heap.objs.size (.lst [])) { s2 with heap:=s2.heap.push { cls:=.type "list",dict:=none,data:=.seq ([]:List YA).toArray } }:=U.laid (t':=s2.toks) (λb u e=>RW _ e) (UN _) ⟨Vo _,[],0,.nil,UU _ rfl⟩;generalize E:({ s2 with heap:=s2.heap.push { cls:=.type "list",dict:=none,data:=.seq ([]:List YA).toArray } }:Yx)=i at K;have e3:s2.heap.push { cls:=.type "list",dict:=none,data:=.seq ([]:List YA).toArray }=i.heap:=by rw[<- E]
 rw[e3]at d g ⊢;have kp:∀b o,i.heap.get? b=some o->a.get? b=some o:=λb o e=>g.extBut b o (U9 (UX e)) (RW _ e);have F:∀b o,s2.heap.get? b=some o->i.heap.get? b=some o:=λb o e=>by rw[<- e3];exact RW _ e
 have hex:∀b∈fp,lI X ac (aP k s2.heap.objs.size (.lst [])) b/\b<i.heap.objs.size:=λb l=>by obtain⟨o,Z,_⟩:=T.obj 0 _ B b l;have n:b<s2.heap.objs.size:=UX Z;refine⟨⟨?_,(Y b l).2⟩,UX (F b o Z)⟩;rw[af (U9 n)];exact(Y b l).1
 have es:({s2 with heap:=a,toks:=s2.toks+([]:List (Str×YA)).length}:Yx)={i with heap:=a,toks:=s2.toks+([]:List (Str×YA)).length}:=by rw[<- E]
 have I4:L2.Inv (cK X scope (tN++capN) cl i.heap.objs.size i (aP k s2.heap.objs.size (.lst [])) fp) [] (List.replicate tN.length none++oz σ caps) (aP k s2.heap.objs.size (.lst [])) {i with heap:=a,toks:=s2.toks+([]:List (Str×YA)).length}:=DR K S.kind S.Kh r t (UN _) hex S.cap kp d;obtain⟨gt,tt,te,W,hg,ht,he,w0,turn⟩:=D s2.heap.objs.size hD cl i.heap.objs.size i fp;have G:tn 0 a:=T.keep 0 _ _ B λb l o e=>kp b o (F b o e);have f4:∀b∈fp,lI (cK X scope (tN++capN) cl i.heap.objs.size i (aP k s2.heap.objs.size (.lst [])) fp) [] (aP k s2.heap.objs.size (.lst [])) b:=λb l=>by
  obtain⟨f,n⟩:=hex b l;refine⟨f.1,U9 n,λO=>?_,.inl l,λy c e=>f.2.2.2.2.1 y c (r y c e),λp hp=>absurd (show p∈([]:List (Addr×Obj))from hp) (by simp)⟩;rcases US.mp (K.vz b O)with z|z
  .exact f.2.1 z
  .exact f.2.2.1 z
 have loop:codeAny (model X.prog X.w) X.A (.compLoop (.ListComp elt [⟨tg,iter,ifs,0⟩] scope pos) 0 (.ref it) (.ref s2.heap.objs.size) (compEnvC scope cl i.heap.objs.size X.env)) (compPost (model X.prog X.w) X.A X.xe use Qv (.ref s2.heap.objs.size) i.heap.objs.size)
  {i with heap:=a,toks:=s2.toks+([]:List (Str×YA)).length}:=by
  refine Br rfl T hc I4 (by show(tN++capN).length=_;simp[oz,S.cap.len]) G f4 hg ht he W (Fin s2.heap.objs.size) w0 turn _ λσ' H' j q I' P Q=>?_;obtain⟨Io,fo⟩:=Bq K rfl (UN _) hex I';obtain⟨m',R,_⟩:=I'.loc;exact hu _ _ j H' q Io fo P Q ⟨m',R⟩
 rw[es];exact codeAny_compStart_list loop (T.self _ 0 _ _ _ G loop)
def wz(d:X.calm=true)(S:cB X scope tN capN caps)(I:L2.Inv X ac σ H s)(e:PI X tg iter wi)(h:wi σ H (kI X scope tg tN capN caps elt ifs σ λa _ H'=>Q (.ref a) H'))
 (hs:autoParam (∀x,foldedSetIterable iter X.env x=pure x) am):wX X (eval (.ListComp elt [⟨tg,iter,ifs,0⟩] scope pos) X.env) (EP X ac σ Q) X.xe s:=by
 rw[eval_ListComp];refine tP (use:=none) d S I e h (λa C f H' k g i hD b c=>?_) hs;obtain⟨m,c⟩:=c;exact⟨m,c,λh' j=>⟨.ref a,H',z4 g i j,rfl,b⟩⟩
def DS{D:Ends}{i:Nat}(q:X.calm=true)(S:cB X scope tN capN caps)(r:X.N.Nodup)(c:X.N[i]?=some y)(p:X.env.scope.names.lookup y=some .local)
 (d:swapsWith (.ListComp elt [⟨tg,iter,ifs,0⟩] scope pos) (some (.Name y py)) spos.line X.env=pure true) (I:L2.Inv X ac σ H s) (t:PI X tg iter wi)
 (h:wi σ H (kI X scope tg tN capN caps elt ifs σ λb _ H'=>D.nx (σ.set i (some (.ref b))) H')) (hs:autoParam (∀x,foldedSetIterable iter X.env x=pure x) am) :
 wX X (exec (.Assign [.Name y py] (.ListComp elt [⟨tg,iter,ifs,0⟩] scope pos) spos) X.env) (SP X ac D) X.xe s:=by
 rw[exec_Assign_Name_used _ _ _ _ d];refine KE (wpAny_standAt (KE ?_));show wpAny _ X.A (do let _ <- comprehension (.ListComp elt [⟨tg,iter,ifs,0⟩] scope pos) scope X.env _ (newList []) false (eval iter X.env) (some (assign (.Name y py) X.env))) _ _ s;refine KE (Wg (tP (use:=some (assign (.Name y py) X.env)) (Qv:=λ_ f=>SP X ac D .next f) q S I t h (λb C u H' f w g hD j k=>?_) hs) (λ_ f B=>UM (UM B)) λ_ _ e=>e);obtain⟨m,k⟩:=k;show wpAny _ X.A (assign (.Name y py) X.env (.ref b)) _ _ _;refine wpAny_assign_Name (sQ (v:=.ref b) w r c (.inl p) rfl (λE l ⟨a,F,ha⟩=>?_) (.inr p));have n:C≠a:=by
  rcases ha with z|z
  .rw[z];exact g.2.1
  .exact V2 (g.2.2.2.2.1 y a z)
 refine⟨m,k.sameBut F n,λh' o=>?_⟩;exact⟨_,H',z4 l g o,j⟩
end
def Res.T9{α:Type}:Res α->Res α
 |.exc _=>.stuck
 |r=>r
def G9(env:En)(j:Nat):Option Sl:=match env[j]? with
 |some (some (.val d fr))=>some (.val d fr)
 |some (some (.own ds fr))=>some (.val (.lst ds) fr)
 |some (some (.l7 d))=>some (.val d true)
 |_=>none
def g8(env:En)(n:Nat)(caps:List Nat):En:=List.replicate n none++caps.map (G9 env)
def g9(mk:D->Option En)(test:En->Res Bool)(elt:En->Res R):List D->Res (List R)
 |[]=>.ok []
 |x::xs=>match mk x with
  |none=>.stuck
  |some e=>(test e).bind λb=>if b then(elt e).bind λr=>(g9 mk test elt xs).bind λrs=>.ok (r::rs)else g9 mk test elt xs
def d_(n:Nat)(caps:List Nat)(a:En->Res Src)(asg:D->Bool->En->Option En)(test:En->Res Bool)(elt:En->Res R):En->Res R:=λenv=>(a env).bind λs=>if s.xs.length<=lim then
 (g9 (λd=>asg d s.fr (g8 env n caps)) test elt s.xs).T9.bind λrs=>.ok (m6 (rs.map R.d) (b5 rs) (s.al++caps.filter (iF env)))else .stuck
def Bs(X:Cx)(E:XK)(a:List Expr)(f:En->Res Bool):Prop:=∃t,O0 X a t/\SndT X.mg E t f
section
def kJ:Bs X E [] (λ_=>.ok true):=⟨_,z5,λg M b env σ H Q a p=>p M H (Ext.refl _ _) a⟩
def kK(h:xV X E c f):Bs X E [c] f:=let ⟨t,a,b⟩:=h;⟨t,G8 a,b⟩
end
section
variable{M1:Addr->Prop}
def O1(rep:Rep g M1 ρ env σ H1)(s:Same H1 H)(ho:o.length=n)(hM:∀a,(M1 a\/∃i,i∈caps/\ρ i a)->M' a)(hf:∀a,M' a->H a≠none)(hi:∀a,M' a->g.H₀ a=none\/g.Ma a)(hfl:∀a,M' a->g.H₀ a=none->MuZ g H a) :
 Rep g M' (λ_ _=>False) (g8 env n caps) (o++oz σ caps) H where
 same:=rep.same.trans s
 jY:=hf
 vx:=hi
 fl:=hfl
 slot:=λi sl e=>by
  by_cases hlt:i<n
  .unfold g8 at e;rw[V4 (by simpa using hlt),Xw,UP hlt]at e;cases e
  .obtain⟨k,rfl⟩ : ∃k,i=n+k:=⟨i-n,by lia⟩;have e:(caps.map (G9 env))[k]?=some (some sl):=by
    unfold g8 at e
    rwa [VS (by simp),XJ,WA]at e
   rw[U7]at e;cases q:caps[k]? with
   |none=>rw[q]at e;cases e
   |some j=>
    rw[q]at e;have e:G9 env j=some sl:=by simpa using e
    have hj:j∈caps:=Vm q;unfold G9 at e;cases q2:env[j]? with
    |none=>rw[q2]at e;cases e
    |some o=>
     cases o with
     |none=>rw[q2]at e;cases e
     |some sl0=>
      obtain⟨v,ev,k2⟩:=rep.slot j sl0 q2;have el:(o++oz σ caps)[n+k]?=some (some v):=by rw[VS (by lia),ho,WA];unfold oz;rw[U7,q];simp[ev]
      rw[q2]at e;cases sl0 with
      |val d' fr'=>cases e;exact⟨v,el,Is.mono (λa o q _=>s a o q) (λa _ _ z=>⟨hM a (.inl z.1),z.2⟩) k2⟩
      |own ds' fr'=>cases e;obtain⟨a,vs,rfl,h1,h2,h4⟩:=k2;have ha:=(h2 a).mpr rfl;exact⟨_,el,a,vs,rfl,.inl ⟨s _ _ h1,hM a (.inr ⟨j,hj,ha⟩),λ_=>(rep.ci j a ha).2.1⟩,IsAll.mono (λa o q _=>s a o q) (λa _ _ z=>⟨hM a (.inl z.1),z.2⟩) h4⟩
      |l7 d'=>cases e;exact⟨v,el,Is.mono (λa o q _=>s a o q) (λa _ _ z=>⟨hM a (.inr ⟨j,hj,z⟩),λ_=>(rep.ci j a z).2.1⟩) k2⟩
      |Cp d'=>cases e
 ci:=λ_ _ z=>z.elim
 apart:=λ_ _ _ z=>z.elim
 ow:=λ_ _ z=>z.elim
 len:=by simp[g8,oz,ho]
 zz:=λa z e=>rep.zz a z (s.free e)
end
def wB(X:Cx)(scope:Scope)(tg:Expr)(tN:List Str)(capN:List Str)(caps:List Nat)(elt:Expr)(a:List Expr)(b:TI):TE:=λσ H Q=>b σ H (kI X scope tg tN capN caps elt a σ λc _ H'=>Q (.ref c) H')
structure CI(g:Gd) (M:Addr->Prop) (H1:Hp) (Dl:Addr) (C:Nat->List R->Prop) (full:List R) (i:Nat) (acc:List V) (H:Hp) (M':Addr->Prop) (rs rest:List R):Prop where
 sm:Same H1 H
 hD:H Dl=some (.lst acc)
 mi:∀a,M a->M' a
 mo:∀a,M' a->M a\/H1 a=none
 nD:¬M' Dl
 fz:∀a,M' a->H a≠none
 fl:∀a,M' a->g.H₀ a=none->MuZ g H a
 rl:rs.length<=i
 is:IsAll H (gm g M' (b5 rs)) (rs.map R.d) acc
 qr:C i rest
 ef:full=rs++rest
section
def Bt{M1:Addr->Prop}{A:Hp}{Q:VK}{J:It}{s:Src}{v:List R}(hix:∀j∈ix,j<tN.length)(hg:∀cl C P I fp,F1 (cK X scope (tN++capN) cl C P I fp) ix tg asg)(ht:∀cl C P I fp,Bs (cK X scope (tN++capN) cl C P I fp) E0 ifs ft)(he:∀cl C P I fp,PD (cK X scope (tN++capN) cl C P I fp) E0 elt fe)(f:Rep g M1 ρ env σ A)(wk:Walk J (vmsk g M1 s.fr ρ s.al) A s.xs)(hlim:s.xs.length<=lim)(qc:g9 (λd=>asg d s.fr (g8 env tN.length caps)) ft fe s.xs=.ok v)
 (p:PostE X.mg E g M1 ρ env σ A Q (.ok (m6 (v.map R.d) (b5 v) (s.al++caps.filter (iF env))))):kI X scope tg tN capN caps elt ifs σ (λl _ H'=>Q (.ref l) H') J A:=by
 intro l u cl C P fp;obtain⟨gt,pg,sg⟩:=hg cl C P (aP A l (.lst [])) fp;obtain⟨tt,pt,st⟩:=ht cl C P (aP A l (.lst [])) fp;obtain⟨te,pe,se⟩:=he cl C P (aP A l (.lst [])) fp;obtain⟨d0,dm,S⟩:=f.free u;refine⟨gt,tt,te,λi m t H=>m=s.xs.length-i/\i<=s.xs.length/\∃(F:Addr->Prop)(rs rest:List R),CI g (λa=>M1 a\/∃j,j∈s.al++caps/\ρ j a) A l (λi rest=>g9 (λd=>asg d s.fr (g8 env tN.length caps)) ft fe (s.xs.drop i)=.ok rest) v i t H F rs rest,
  pg,pt,pe,⟨_,rfl,Vo _,(λa=>M1 a\/∃j,j∈s.al++caps/\ρ j a),[],v,aQ u,ag,λ_ z=>z,λ_ z=>.inl z,?_,?_,?_,UN _,rfl,qc,rfl⟩,?_⟩
 .rintro(z|⟨j,_,z⟩)
  .exact dm z
  .exact S j z
 .rintro a (z|⟨j,_,z⟩) hn
  .exact f.jY a z ((aQ u).free hn)
  .obtain⟨_,_,uo,hz,_⟩:=f.ci j a z;rw[(aQ u) a _ hz]at hn;cases hn
 .rintro a (z|⟨j,_,z⟩) h0
  .exact(f.fl a z h0).same λo e=>aQ u _ _ e
  .exact .inl ((f.ci j a z).2.2.same λo e=>aQ u _ _ e)
 .rintro i m t K ⟨rfl,hle,F,rs,rest,sm,B,L,M,nD,W,T,hrs,G,qr,x⟩;refine⟨B,?_⟩;have kp:∀a o,A a=some o->(vmsk g M1 s.fr ρ s.al a\/i6 o)->K a=some o:=λa o e _=>sm a o e;have inn2:∀{M'':Addr->Prop}{a:Addr},(M1 a\/∃j,j∈s.al++caps/\ρ j a)\/A a=none->g.H₀ a=none\/g.Ma a:=λ{M'' a} z=>by
   rcases z with(z|⟨j,_,z⟩)|z
   .exact f.vx a z
   .exact .inl (f.ci j _ z).2.1
   .exact .inl (f.same.free z)
  by_cases U:i<s.xs.length
  .have ed:s.xs[i]?=some s.xs[i]:=by simp[U]
   obtain⟨go,yl⟩:=wk.go K i _ kp ed;refine .inr ⟨go,λxv I o y lo=>?_⟩;obtain⟨k,isx⟩:=yl xv I y;have edrop:s.xs.drop i=s.xs[i]::s.xs.drop (i+1):=List.drop_eq_getElem_cons U;rw[edrop]at qr;unfold g9 at qr;have isx':Is I (gm g F s.fr) s.xs[i] xv:=isx.weak λa z=>by
    rcases z with z|⟨j,hj,z⟩
    .exact⟨L a (.inl z.1),z.2⟩
    .exact⟨L a (.inr ⟨j,by simp[hj],z⟩),λ_=>(f.ci j _ z).2.1⟩
   have repI:Rep g F (λ_ _=>False) (g8 env tN.length caps) (o++oz σ caps) I:=O1 f (sm.trans k) lo (λa z=>L a (z.imp id λ⟨j,hj,w⟩=>⟨j,by simp[hj],w⟩)) (λa z hn=>W a z (k.free hn)) (λa z=>inn2 (M'':=F) (M a z)) (λa z h0=>(T a z h0).same λo e=>k _ _ e);cases qa:asg s.xs[i] s.fr (g8 env tN.length caps)with
   |none=>simp only[qa]at qr;cases qr
   |some N=>
   simp only[qa]at qr;refine sg g F _ _ N _ I _ s.fr xv _ repI isx' qa λσ2 ρ2 repT shp nρ=>⟨λj hj=>shp j λz=>absurd (hix j z) (by lia),?_⟩;refine st g F ρ2 _ _ I _ repT ?_;cases qt:ft N with
   |stuck=>rw[qt]at qr;cases qr
   |exc c=>rw[qt]at qr;cases qr
   |ok b=>
    rw[qt]at qr;intro M4 H4 e4 Y;cases b with
    |false=>refine v6 ⟨s.xs.length-(i+1),by lia,rfl,U,F,rs,rest,(sm.trans k).trans e4.h,e4.h _ _ (k _ _ B),L,M,nD,λa z hn=>W a z (k.free (e4.h.free hn)),λa z h0=>(T a z h0).same λo e=>e4.h _ _ (k _ _ e),by lia,?_,by simpa using qr,x⟩;exact IsAll.same e4.h (IsAll.same k G)
    |true=>
     refine uq ?_;simp only[Res.iV,Wl]at qr;refine se g M4 ρ2 _ _ H4 _ Y ?_;cases qe:fe N with
     |stuck=>rw[qe]at qr;cases qr
     |exc c=>rw[qe]at qr;cases qr
     |ok r=>
      rw[qe]at qr;simp only[Res.iV]at qr;cases qd:g9 (λd=>asg d s.fr (g8 env tN.length caps)) ft fe (s.xs.drop (i+1))with
      |stuck=>rw[qd]at qr;cases qr
      |exc c=>rw[qd]at qr;cases qr
      |ok O=>
       rw[qd]at qr;have qr:r::O=rest:=by simpa using qr
       intro yv M5 H5 e5 rep5 ro;obtain⟨M6,e6,m56,Z,is6⟩:=ro.is rep5 e5 Y.same;have D3:I l=some (.lst t):=k _ _ B;have D4:H4 l=some (.lst t):=e4.h _ _ D3;have D5:H5 l=some (.lst t):=e5.h _ _ D4;have nD4:¬M4 l:=λz=>(e4.n l z).elim nD λw=>by rw[D3]at w;cases w
       have nD6:¬M6 l:=λz=>(e6.n l z).elim nD4 λw=>by rw[D4]at w;cases w
       have M46:∀a,M4 a->M6 a:=e6.m;have up:∀a o,H5 a=some o->a≠l->aP H5 l (.lst (t++[yv])) a=some o:=λa o e n=>by rw[af n];exact e
       have kp5:∀(fr:Bool) a o,H5 a=some o->(gm g M6 fr a\/i6 o)->aP H5 l (.lst (t++[yv])) a=some o:=λfr a o e z=>up a o e λw=>by
        subst w;rcases z with z|z
        .exact nD6 z.1
        .rw[D5]at e;cases e;exact z
       refine⟨D5,?_,s.xs.length-(i+1),by lia,rfl,U,M6,rs++[r],O,?_,ag,λa z=>M46 a (e4.m a (L a z)),λa z=>?_,nD6,λa z=>?_,λa z h0=>?_,by simp;lia,?_,qd,by rw[x,<- qr];simp⟩
       .have:t.length=rs.length:=by rw[G.length,UO]
        exact uE (by lia)
       .intro b o e;exact up b o (e5.h _ _ (e4.h _ _ (k _ _ (sm _ _ e)))) (av e u)
       .rcases e6.n a z with z|z
        .rcases e4.n a z with z|z
         .exact M a z
         .exact .inr (sm.free (k.free z))
        .exact .inr (sm.free (k.free (e4.h.free z)))
       .by_cases hw:a=l
        .rw[hw,ag];simp
        .rw[af hw];exact Z.jY a z
       .have hw:a≠l:=λe=>nD6 (e▸z);exact(Z.fl a z h0).same λo e=>by rw[af hw];exact e
       .rw[VO];refine IsAll.append ?_ ⟨yv,[],rfl,?_,rfl⟩
        .have i5:IsAll H5 (gm g F (b5 rs)) (rs.map R.d) t:=((G.same k).same e4.h).same e5.h;refine(i5.weak λa z=>(⟨M46 a (e4.m a z.1),λe=>z.2 (by simp[b5]at e ⊢;exact e.1)⟩ : gm g M6 (b5 (rs++[r])) a)).mono (kp5 _) λ_ _ _ z=>z
        .refine(is6.weak λa z=>?_:Is H5 (gm g M6 (b5 (rs++[r]))) r.d yv).mono (kp5 _) λ_ _ _ z=>z;rcases z with z|⟨j,_,z⟩
         .exact⟨z.1,λe=>z.2 (by simp[b5]at e;exact e.2)⟩
         .exact(nρ _ _ z).elim
  .have ei:i=s.xs.length:=by lia
   subst ei;refine .inl ⟨wk.stop K kp,?_⟩;rw[List.drop_length]at qr;unfold g9 at qr;cases qr;rw[W5]at x;subst x;have RM:Rep g (λa=>M1 a\/(nl A K a/\F a)) ρ env σ K:=f.came sm F;have XM:Ext M1 A (λa=>M1 a\/(nl A K a/\F a)) K:=⟨λ_=>.inl,sm,λ_ z=>z.imp id (·.1.1)⟩;have nDl:¬(M1 l\/(nl A K l/\F l)):=λz=>z.elim dm λz=>nD z.2;have nwD:∀b,V.ref l=.ref b->A b=none:=λb e=>by cases e;exact u
   unfold m6 at p;by_cases hfl:D.be (v.map R.d)=true
   .rw[UP hfl]at p;exact p _ _ K XM RM ⟨l,t,rfl,B,nDl,u,S,IsAll.flat hfl G⟩
   .rw[UV hfl]at p;by_cases hal:(s.al++caps.filter (iF env)).isEmpty=true
    .rw[UP hal]at p;refine p _ _ K XM RM ⟨l,t,rfl,B,nDl,u,S,G.weak λa z=>⟨?_,z.2⟩⟩;rcases M a z.1 with(w|⟨j,hj,w⟩)|w
     .exact .inl w
     .exfalso;have he:s.al++caps.filter (iF env)=[]:=by simpa using hal
      rcases U4.mp hj with hj|hj
      .have:j∈s.al++caps.filter (iF env):=Vw _ hj;rw[he]at this;simp at this
      .have:j∈s.al++caps.filter (iF env):=Vn _ (Vd.mpr ⟨hj,f.ow j a w⟩);rw[he]at this;simp at this
     .exact .inr ⟨⟨w,(T a z.1 (f.same.free w)).elim id λq=>(f.zz a q.1 w).elim⟩,z.1⟩
    .rw[UV hal]at p;refine p _ (λa=>(M1 a\/(nl A K a/\F a))\/a=l) K ⟨λ_ z=>.inl (.inl z),sm,λa z=>z.elim (XM.n a) λe=>.inr (e▸u)⟩ (RM.more B d0 S) ⟨l,t,rfl,.inl ⟨B,.inl ⟨.inr rfl,λ_=>d0⟩⟩,G.weak λa z=>?_⟩;rcases M a z.1 with(w|⟨j,hj,w⟩)|w
     .exact .inl ⟨.inl (.inl w),z.2⟩
     .refine .inr ⟨j,?_,w⟩;rcases U4.mp hj with hj|hj
      .exact Vw _ hj
      .exact Vn _ (Vd.mpr ⟨hj,f.ow j a w⟩)
     .exact .inl ⟨.inl (.inr ⟨⟨w,(T a z.1 (f.same.free w)).elim id λq=>(f.zz a q.1 w).elim⟩,z.1⟩),z.2⟩
def wC(o:OY X.mg E wi src)(k:∀j∈ix,j<tN.length)(r:∀cl C e f fp,F1 (cK X scope (tN++capN) cl C e f fp) ix tg asg)(t:∀cl C e f fp,Bs (cK X scope (tN++capN) cl C e f fp) E0 ifs ft)(u:∀cl C e f fp,PD (cK X scope (tN++capN) cl C e f fp) E0 elt fe) :
 Snd X.mg E (wB X scope tg tN capN caps elt ifs wi) (d_ tN.length caps src asg ft fe):=by
 intro g M n env σ H Q l p;refine o g M n env σ H _ l ?_;unfold d_ at p;cases q:src env with
 |stuck=>rw[q]at p;exact p
 |exc c=>rw[q]at p;exact p
 |ok s=>
  rw[q]at p;simp only[Res.iV]at p;intro J M1 v e1 h w x m cl C e fp;by_cases a:s.xs.length<=lim
  .rw[UP a]at p;cases i:g9 (λd=>asg d s.fr (g8 env tN.length caps)) ft fe s.xs with
   |stuck=>rw[i]at p;exact p.elim
   |exc c=>rw[i]at p;exact p.elim
   |ok b=>rw[i]at p;have p:PostE X.mg E g M1 n env σ v Q (.ok (m6 (b.map R.d) (b5 b) (s.al++caps.filter (iF env)))):=PostE.ext e1 p;exact Bt k r t u h w a i p x m cl C e fp
  .rw[UV a]at p;exact p.elim
def lz(d:X.calm=true)(S:cB X scope tN capN caps)(e:N6 X E tg iter src)(c:∀j∈ix,j<tN.length)(f:∀cl C a b fp,F1 (cK X scope (tN++capN) cl C a b fp) ix tg asg)(g:∀cl C a b fp,Bs (cK X scope (tN++capN) cl C a b fp) E0 ifs ft)(i:∀cl C a b fp,PD (cK X scope (tN++capN) cl C a b fp) E0 elt fe)
 (hs:autoParam (∀x,foldedSetIterable iter X.env x=pure x) am):PD X E (.ListComp elt [⟨tg,iter,ifs,0⟩] scope pos) (d_ tN.length caps src asg ft fe):=by
 obtain⟨k,p1,s1⟩:=e;exact⟨wB X scope tg tN capN caps elt ifs k,λac s σ H Q I h=>wz d S I p1 h hs,wC s1 c f g i⟩
def nc(f:X.calm=true)(S:cB X scope tN capN caps)(g:X.N.Nodup)(c:X.N[i]?=some y)(k:X.env.scope.names.lookup y=some .local)
 (l:N6 X E tg iter src) (d:∀j∈ix,j<tN.length) (m:∀cl C a b fp,F1 (cK X scope (tN++capN) cl C a b fp) ix tg asg) (n:∀cl C a b fp,Bs (cK X scope (tN++capN) cl C a b fp) E0 ifs ft) (o:∀cl C a b fp,PD (cK X scope (tN++capN) cl C a b fp) E0 elt fe)
 (e:autoParam (swapsWith (.ListComp elt [⟨tg,iter,ifs,0⟩] scope pos) (some (.Name y py)) spos.line X.env=pure true) aM) (hs:autoParam (∀x,foldedSetIterable iter X.env x=pure x) am) :
 zY X E (.Assign [.Name y py] (.ListComp elt [⟨tg,iter,ifs,0⟩] scope pos) spos) (cT i (d_ tN.length caps src asg ft fe)):=by
 obtain⟨p,p1,s1⟩:=l;exact⟨ml (wB X scope tg tN capN caps elt ifs p) (aT i),λac s σ H D I h=>DS f S g c k e I p1 h hs,zZ (wC s1 d m n o)⟩
end
def mw(N:List Str)(ds:List D):En:=ds.map (λd=>some (.val d false))++List.replicate (N.length-ds.length) none
def wD:Res Fl->Res R
 |.ok (.nx _)=>.ok (.val .bv true [])
 |.ok (.rt r)=>.ok r
 |.ok _=>.stuck
 |.exc c=>.exc c
 |.stuck=>.stuck
def iB(N:List Str)(a:En->Res Fl)(ds:List D):Res R:=wD (a (mw N ds))
def cC:gU jw X E:=λ_ _ _ _ _ _ _ h=>h.elim
def Bu(is:IsAll H Ma ds vs):Rep (OQ H Ma) (λa=>Ma a/\H a≠none) (λ_ _=>False) (mw N ds) (L2.cq N vs) H where
 same:=Same.refl H
 jY:=λa z=>z.2
 vx:=λa z=>.inr z.1
 fl:=λa z h=>absurd h z.2
 slot:=λi sl e=>by
  have hl:=is.length;unfold mw at e;by_cases hi:i<ds.length
  .rw[V4 (by simpa using hi),U7]at e;obtain⟨v,ev,iv⟩:=is.get (i:=i) (d:=ds[i]) (by simp[hi]);have e1:ds[i]?=some ds[i]:=by simp[hi]
   rw[e1]at e;cases e;refine⟨v,?_,Is.mono (λ_ _ q _=>q) (λa o q z=>⟨⟨z,by rw[q];simp⟩,λz=>by cases z⟩) iv⟩;unfold L2.cq;rw[V4 (by simp;lia),U7,ev];rfl
  .rw[VS (by simpa using hi),Xw]at e;split at e<;>cases e
 ci:=λ_ _ z=>z.elim
 apart:=λ_ _ _ z=>z.elim
 ow:=λ_ _ z=>z.elim
 len:=by have hl:=is.length;unfold mw L2.cq;simp[hl]
 zz:=λ_ z=>z.elim
section
variable{P:Yz}{w:World}{K:Yy}{mg:Str->Option YA}{base:Heap}
def eh{x qual:Str}{st:Stmt}{f:Addr}{b:En->Res Fl}(F:F2 K x qual st f fd)(S:aR N ps (ay st))
 (body:∀(cdv:YA)(A:YB)(outer:List Env)(s:Yx)(H:Hp)(E:XK),dR k (A.deeper (envOfC qual (ay st) s.heap.objs.size f cdv))->uH (ye jw P w K mg base N qual (ay st) f cdv A outer s H E).RK E (c_ st) b) :
 bO P w K mg base jw (k+1) f fd ps (m_ mg ps.length (iB N b)):=by
 refine F.ok S (λvs H Q E h=>h.1) (λcdv A outer s H vs Q E e h=>?_);obtain⟨j,ds,Ma,is,a⟩:=h;obtain⟨t,p1,s1⟩:=body cdv A outer s H E e;refine⟨t,p1,s1 (OQ H Ma) _ _ (mw N ds) (L2.cq N vs) H _ (Bu is) ?_⟩;unfold iB at a;cases q:b (mw N ds)with
 |stuck=>rw[q]at a;exact a
 |exc c=>rw[q]at a;exact a
 |ok r=>
  rw[q]at a;cases r with
  |nx env=>exact λσ g i H' _ d=>a .bv H' d.same rfl
  |rt r=>exact λv g H' _ s ro _=>a v H' s (ro λ_ z=>z)
  |rm r env=>exact a.elim
  |bk env=>exact a.elim
  |ct env=>exact a.elim
end
section
def G_:SlR X (λx lo d H Q=>∃a xs,x=.ref a/\SqT X.K H a xs/\(HT.sIx xs.length 0 lo=0/\HT.sIx xs.length xs.length d=xs.length)/\Q x H):=by
 intro ac s σ H x v t u lo d sl Q I k hs pl l h;obtain⟨a,xs,rfl,n,j,q⟩:=h;cases k;obtain⟨its,r,b,hz⟩:=I.tuple n;have o:its.toArray.size=xs.length:=by rw[UZ];exact r.length.symm
 refine⟨"tuple",_,VM.lookup,b.typeIs,?_⟩;obtain⟨os,e,f,p⟩:=id hs;have g:s.TypeIs (.ref sl) "slice":=⟨os,e,f⟩;unfold getItem
 try with_reducible refine VI ?_
 first|refine KE (UM ?_)|skip
 refine KE (wpAny_sequenceKey b.typeIs (by decide) ?_);refine KE (Wb (name:=Str.ofString "__getitem__") b.typeIs VM
  (Vy VM b.typeIs entry_tuple_getitem ?_ (args_tuple_getitem _ _)))
 show wpAny _ _ (Builtin.Tuple.tupleItemsOf (.ref a) >>= _) _ _ s;refine KE (tupleItemsOf_ b ?_);refine KE (XN g ?_);rw[UP (by decide)];refine KE (HT.sliceApplied_gen hs pl l ?_);have c:((((HT.sIx its.toArray.size 0 lo:Nat):Int)==0&&(1:Int)==1&&(HT.sIx its.toArray.size its.toArray.size d-HT.sIx its.toArray.size 0 lo)==its.toArray.size)=true):=by rw[o,j.1,j.2];simp
 show wpAny _ _ (if(((HT.sIx its.toArray.size 0 lo:Nat):Int)==0&&(1:Int)==1&&(HT.sIx its.toArray.size its.toArray.size d-HT.sIx its.toArray.size 0 lo)==its.toArray.size)=true then _ else _) _ _ s;rw[UP c];have i:EP X ac σ Q (.ref a) s:=⟨.ref a,H,I,rfl,q⟩;refine KE (m:=Builtin.Tuple.tupleIsExact (.ref a)) ?_;unfold Builtin.Tuple.tupleIsExact;refine KE (XN b.typeIs ?_);refine UM ?_;rw[UP (by decide)];exact KE (X0 (UM ⟨_,rfl,UM i⟩))
end
section
def dn{α:Type}(xs:List α)(lo a:Option Int):List α:=(xs.drop (HT.sIx xs.length 0 lo)).take (HT.sIx xs.length xs.length a-HT.sIx xs.length 0 lo)
def IsAll.cut(h:IsAll H m ds vs)(lo a:Option Int):IsAll H m (dn ds lo a) (vV vs lo a):=by unfold dn vV;rw[h.length];exact(h.drop _).take _
def Js(mg:Str->Option YA)(E:XK)(g:Gd)(M:Addr->Prop)(b:Pr)(env:En)(σ:St)(H:Hp)(Q:Option Int->Hp->Prop):Res (Option Int)->Prop
 |.stuck=>False
 |.exc c=>GY mg E g c
 |.ok o=>∀a H',Ext M H a H'->Rep g a b env σ H'->Q o H'
def RZ(X:Cx)(E:XK)(e:Option Expr)(f:En->Res (Option Int)):Prop:=∃t,PO X e t/\∀g M a env σ H Q,Rep g M a env σ H->Js X.mg E g M a env σ H Q (f env)->t σ H Q
def z9:En->Res (Option Int):=λ_=>.ok none
def lW(f:En->Res R):En->Res (Option Int):=λenv=>(f env).bind λr=>match r.d with
 |.int i=>.ok (some i)
 |_=>.stuck
def wF:RZ X E none z9:=⟨_,Gu,λg M b env σ H Q a p=>p M H (Ext.refl _ _) a⟩
def gf(h:PD X E e f):RZ X E (some e) (lW f):=by
 obtain⟨t,p1,s1⟩:=h;refine⟨_,Gv p1,λg M j env σ H Q b p=>s1.one b (P:=λM H r=>Js X.mg E g M j env σ H Q r) p (λ_ _ z=>z) (λ_ _ _ z=>z) (λM H m H' r e p=>?_) λr v M1 k e1 a is q=>?_⟩
 .cases r with
  |stuck=>exact p
  |exc c=>exact p
  |ok o=>exact λM2 l e2=>p M2 l (e.trans e2)
 .cases z:r.d with
  |int i=>rw[z]at is;simp only[z]at q;cases is;exact⟨i,rfl,q M1 k (Ext.refl _ _) a⟩
  |_=>simp only[z]at q;exact q.elim
def uM(r:R)(lo a:Option Int):Res R:=match r.d with
 |.lst xs=>.ok (m6 (dn xs lo a) r.fr r.al)
 |.tup xs=>.ok (jy (.tup (dn xs lo a)) r.fr r.al)
 |_=>.stuck
def mB(fa:En->Res R)(fl a:En->Res (Option Int)):En->Res R:=λenv=>(fa env).bind λr=>(fl env).bind λlo=>(a env).bind λb=>uM r lo b
def kM{lo n:Option Expr}{fa:En->Res R}{fl o:En->Res (Option Int)}{p2 u:Pos}(ha:PD X E e fa)(D:RZ X E lo fl)(F:RZ X E n o):PD X E (.Subscript e (.Slice lo n none p2) u) (mB fa fl o):=by
 obtain⟨ta,p1,s1⟩:=ha;obtain⟨N,p2,s2⟩:=D;obtain⟨O,p3,G⟩:=F;refine⟨_,CU (sl_list.or (sl_tup.or G_)) p1 p2 p3,λg M s env σ H Q w p=>s1.fK w p λr v M1 I e1 k is q=>?_⟩;refine s2 g M1 s env σ I _ k ?_;cases x:fl env with
 |stuck=>rw[x]at q;exact q
 |exc c=>rw[x]at q;exact q
 |ok b=>
  rw[x]at q;intro M2 C e2 l;have q2:PostE X.mg E g M2 s env σ C Q ((o env).bind λn=>uM r b n):=PostE.ext e2 q;refine G g M2 s env σ C _ l ?_;cases y:o env with
  |stuck=>rw[y]at q2;exact q2
  |exc c=>rw[y]at q2;exact q2
  |ok f=>
   rw[y]at q2;intro J K e3 h;have j:PostE X.mg E g J s env σ K Q (uM r b f):=PostE.ext e3 q2;have i:=(is.ext e2).ext e3;unfold uM at j;cases z:r.d with
   |lst xs=>rw[z]at j i;obtain⟨a,vs,rfl,h1,m⟩:=i.rd;exact .inl ⟨a,vs,rfl,.inl h1,λp A=>j.lst h A (m.cut b f)⟩
   |tup xs=>
    rw[z]at j i;have B:=i;obtain⟨a,vs,rfl,h1,m⟩:=i;by_cases t:HT.sIx vs.length 0 b=0/\HT.sIx vs.length vs.length f=vs.length
    .have L:dn xs b f=xs:=by unfold dn;rw[<- m.length,t.1,t.2,m.length];simp
     dsimp only at j;rw[L]at j;exact .inr (.inr ⟨a,vs,rfl,SqT.of h1,t,j.val h B⟩)
    .exact .inr (.inl ⟨a,vs,rfl,SqT.of h1,t,λp A=>j.tup h A (m.cut b f)⟩)
   |_=>rw[z]at j;exact j.elim
noncomputable def D.ty:D->String
 |.bv=>"NoneType" |.bl _=>"bool" |.int _=>"int" |.str _=>"str" |.tup _=>"tuple" |.lst _=>"list" |.dZ _ _=>"dict"
def T2(K:Yy)(H:Hp)(x:V)(t:YA):Prop:=oZ K H x t\/(t=.type "dict"/\∃a,x=.ref a/\Ji H a)
theorem Is.ty{m:Addr->Prop}{v:V}{K:Yy}(h:Is H m d v):T2 K H v (.type d.ty):=by
 cases d with
 |bv=>cases h;exact .inl .bv
 |bl b=>cases h;exact .inl (.bl b)
 |int b=>cases h;exact .inl (.int b)
 |str b=>cases h;exact .inl (.str b)
 |tup ds=>obtain⟨a,vs,rfl,h1,_⟩:=h;exact .inl (.tup h1)
 |lst ds=>
  obtain⟨a,vs,rfl,h1,_⟩:=h;rcases h1 with⟨h1,_⟩|⟨o,h1,_⟩
  .exact .inl (.lst h1)
  .exact .inl (.ba h1)
 |dZ ks ds=>obtain⟨a,kvs,rfl,h1,_⟩:=h;exact .inr ⟨rfl,a,rfl,h1.1.imp (λ⟨kvs,e,_⟩=>⟨kvs,e⟩) λ⟨kvs,e,_⟩=>⟨kvs,e⟩⟩
def N7(T:String)(d:D):Bool:=match d with
 |.bv=>T=="NoneType"
 |.bl _=>T=="bool" || T=="int"
 |.int _=>T=="int"
 |.str _=>T=="str"
 |.tup _=>T=="tuple"
 |.lst _=>T=="list"
 |.dZ _ _=>T=="dict"
def Lp(T:String):Prop:=∀(K:Yy)(d:D),PySem.W.kitOne K (.type d.ty) (.type T)=some (N7 T d)
def DT:Lp "int":=λK d=>by cases d<;>kernel_rfl
def Bv:Lp "bool":=λK d=>by cases d<;>kernel_rfl
def Hb(T:String)(fa:En->Res R):En->Res R:=λenv=>(fa env).bind λr=>.ok (.val (.bl (N7 T r.d)) true [])
def DU:CallR X (.builtin "isinstance") (λxs H Q=>∃x T t b,xs=[x,.ty T]/\T2 X.K H x t/\PySem.W.kitOne X.K t (.type T)=some b/\Q (.bl b) H):=by
 intro ac s σ H xs us Q I r h;obtain⟨x,T,t,b,rfl,ty,e,q⟩:=h;obtain⟨u,c,rfl,d,f⟩:=zy r;obtain rfl:c=Value.type T:=f;rcases ty with ty|⟨rfl,a,rfl,hd⟩
 .exact A1 I d ty e λtk=>⟨.bl b,H,I.tok tk,rfl,q⟩
 .obtain rfl:u=Value.ref a:=d;obtain⟨g,_⟩:=oh I hd;exact V0 Yc I.o5 g e (λz=>nomatch z) λtk=>⟨.bl b,H,I.tok tk,rfl,q⟩
def DV(n:Lp T')(o:Gl X "isinstance") (s:X.mg "isinstance"=none) (b:Gl X T) (c:X.mg T=none) (f:bootBuiltins T=some (.type T')) (ha:PD X E e fa)
 (h:autoParam (T≠"__name__") ab) (i:autoParam (dB T) ab)
 (m:autoParam (starEach [e,.Name T q] X.env=(false,eval e X.env)::starEach [.Name T q] X.env) aM) (j:autoParam (starEach [.Name T q] X.env=(false,eval (.Name T q) X.env)::starEach [] X.env) aM) (k:autoParam ((backTo pos (starEach [.Name T q] X.env)).any (·.1)=false) aM) :
 PD X E (.Call (.Name "isinstance" p) [e,.Name T q] [] pos) (Hb T' fa):=by
 obtain⟨ta,p1,s1⟩:=ha;refine⟨_,dv DU o s (by decide +kernel) (aj p1 (aj (Ga b c f (v:=.ty T') rfl h i) aH j) m) (by decide) (by decide) m k,λg M u env σ H Q l p=>s1.fK l p λr v M1 t e1 a is q=>?_⟩;exact⟨v,T',_,_,rfl,is.ty,n X.K r.d,q _ M1 t (Ext.refl _ _) a rfl⟩
end
section
noncomputable def g_:List D->Option (List Bool)
 |[]=>some []
 |.bl b::r=>(g_ r).map λbs=>b::bs
 |_::_=>none
def Hd:List R->Res R
 |[r]=>match r.d with
  |.lst ds=>match g_ ds with
   |some bs=>.ok (.val (.bl (bs.all id)) true [])
   |none=>.stuck
  |_=>.stuck
 |_=>.stuck
theorem tQ:∀{ds:List D}{bs:List Bool}{i:Nat}{d:D},g_ ds=some bs->ds[i]?=some d->∃b,d=.bl b/\bs[i]?=some b
 |[],_,_,_,_,e=>by simp at e
 |.bl b::r,bs,0,d,h,e=>by
  simp at e;subst e;unfold g_ at h;cases q:g_ r with
  |none=>rw[q]at h;cases h
  |some a=>rw[q]at h;cases h;exact⟨b,rfl,rfl⟩
 |.bl b::r,bs,i+1,d,h,e=>by
  unfold g_ at h;cases q:g_ r with
  |none=>rw[q]at h;cases h
  |some a=>rw[q]at h;cases h;obtain⟨c,e1,e2⟩:=tQ (i:=i) q (by simpa using e);exact⟨c,e1,by simpa using e2⟩
 |.bv::_,_,_,_,h,_=>by cases h
 |.int _::_,_,_,_,h,_=>by cases h
 |.str _::_,_,_,_,h,_=>by cases h
 |.tup _::_,_,_,_,h,_=>by cases h
 |.lst _::_,_,_,_,h,_=>by cases h
theorem tR:∀{ds:List D}{bs:List Bool},g_ ds=some bs->bs.length=ds.length
 |[],_,h=>by cases h;rfl
 |.bl b::r,bs,h=>by
  unfold g_ at h;cases q:g_ r with
  |none=>rw[q]at h;cases h
  |some a=>rw[q]at h;cases h;simp[tR q]
 |.bv::_,_,h=>by cases h
 |.int _::_,_,h=>by cases h
 |.str _::_,_,h=>by cases h
 |.tup _::_,_,h=>by cases h
 |.lst _::_,_,h=>by cases h
def Bw(t:X.calm=true):CallR X (.builtin "all") (λxs H Q=>∃(p:Addr)(vs:List V)(bs:List Bool),xs=[.ref p]/\SqL X.K H p vs/\vs=bs.map V.bl/\Q (.bl (bs.all id)) H):=by
 intro ac s σ H xs us Q I r h;obtain⟨p,vs,bs,rfl,w,rfl,q⟩:=h;obtain⟨u,rfl,y⟩:=fM r;cases y;obtain⟨its,k,pl,hz⟩:=I.list w;have z:X.A.in1.handled=none:=I.ok.hd t;obtain⟨o,B,_⟩:=pl.isList;have l:p<s.heap.objs.size:=UX B;refine call_all_walk (W9 pl.isList ?_);refine⟨s.heap.objs.size,_,_,_,_,_,λi=>(bs[i]?).getD true,rfl,Walks.list z s.heap.objs.size p (U9 l) its.toArray,⟨⟨_,UU _ rfl,rfl,rfl⟩,?_⟩,?_,λh' tk C=>?_⟩
 .exact pl.isList.at λo e=>RW _ e
 .intro i v F G J g c;have g:its[i]?=some v:=by simpa using g
  have a:i<its.length:=(UQ.mp g).1;have j:=k.length;have d:i<bs.length:=by simpa using(by rw[UO]at j;lia:i<bs.length)
  obtain⟨u',n,D⟩:=k.get (i:=i) (x:=.bl bs[i]) (by simp[d]);rw[g]at n;cases n;cases D;have m:bs[i]?=some bs[i]:=by simp[d]
  dsimp only at c;rw[m]at c;exact V7 c
 .have j:=k.length;rw[UO]at j;have e:((List.range its.toArray.size).all λi=>(bs[i]?).getD true)=bs.all id:=by
   rw[UZ,<- j];rw[W4,VJ,VJ];constructor
   .intro h b d;obtain⟨i,a⟩:=U3.mp d;have:=h i (by simp;exact(UQ.mp a).1);rw[a]at this;exact this
   .intro h i a;have a:i<bs.length:=by simpa using a
    have m:bs[i]?=some bs[i]:=by simp[a]
    rw[m];exact h _ (Yo a)
  rw[e];refine⟨.bl _,H,?_,rfl,q⟩;have E:L2.Inv X ac σ H { s with heap:=s.heap.push { cls:=.type "list_iterator",data:=.fields #[.ref p,.int 0 0] } }:=I.kept (t':=s.toks) λb o e=>RW _ e;have f:=I.sO (H':=H) (UN s.heap.objs.size) (I.aU.fresh (UN _));exact E.turned (t':=tk) (it:=s.heap.objs.size) (λb o d e=>C b o (by simpa using d) e) f.1 f.2.1 f.2.2.2.1 f.2.2.2.2.1 f.2.2.2.2.2
def Lq(m:X.calm=true):lU X E (.builtin "all") Hd:=by
 refine⟨_,Bw m,λg M n env σ H Q rs vs f i p=>?_⟩;rcases rs with _|⟨r,_|_⟩
 .exact p.elim
 rotate_left
 .exact p.elim
 obtain⟨v,w,rfl,c,o⟩:=i;cases o;have c:Is H (vmsk g M (b5 [r]) n (cO [r])) r.d v:=c;unfold Hd at p;dsimp only at p;cases q:r.d with
 |lst ds=>
  rw[q]at p c;obtain⟨a,ws,rfl,h1,h⟩:=c.rd;dsimp only at p;cases e:g_ ds with
  |none=>rw[e]at p;exact p.elim
  |some bs=>
   rw[e]at p;refine⟨a,ws,bs,rfl,.inl h1,?_,p _ M H (Ext.refl _ _) f rfl⟩;apply XD
   intro j;by_cases k:j<ds.length
   .obtain⟨b,e1,e2⟩:=tQ (i:=j) (d:=ds[j]) e (by simp[k]);obtain⟨t,s,l⟩:=h.get (i:=j) (d:=ds[j]) (by simp[k]);rw[e1]at l;cases l;rw[s,U7,e2];rfl
   .have u:=h.length;have x:=tR e;rw[Ws (by lia),Ws (by simp;lia)]
 |_=>rw[q]at p;exact p.elim
end
def R0(K:Yy)(a:Addr):It:=⟨λi H=>∃xs x,SqL K H a xs/\xs[i]?=some x,λi H y H'=>∃p x,H p=none/\y=.ref p/\H'=aP H p (.tup [.int (i:Nat),x])/\∀xs,SqL K H a xs->xs[i]?=some x,λi H=>∃xs,SqL K H a xs/\xs.length<=i⟩
def Bx{P:Yz}{w:World}{K:Yy}(a it e:Addr)(hei:e≠it):Turn P w K (.Tuple es k pos) (R0 K a) [e,it] e (λi h=>(∃old,IsEnum h e it i old)/\h.IsListIter it a i) where
 mem:=by simp
 obj:=λi h st b hb=>by
  obtain⟨⟨old,he⟩,o,ho,c,d⟩:=st;rcases US.mp hb with rfl|hb
  .exact⟨_,he,λv z=>by cases z⟩
  .have:b=it:=by simpa using hb
   subst this;exact⟨o,ho,λv z=>by rw[d]at z;cases z⟩
 keep:=λi h h' st kk=>by obtain⟨⟨old,he⟩,hl⟩:=st;exact⟨⟨old,kk e (by simp) _ he⟩,hl.at λo q=>kk it (by simp) o q⟩
 item:=by
  intro X hP hw hK hc i ac s σ H E I hf st hg;subst hP hw hK;obtain⟨xs,x,hq,hx⟩:=hg;obtain⟨⟨old,he⟩,hl⟩:=st;obtain⟨its,rv,p,hz⟩:=I.list hq;obtain⟨u,hu,ru⟩:=rv.get hx;have fe:=hf e (by simp);have fi:=hf it (by simp);have hai:a≠it:=by intro z;obtain⟨o1,e1,c1,_⟩:=p.isList;obtain⟨o2,e2,c2,_⟩:=hl;rw[z,e2]at e1;cases e1;rw[c2]at c1;injection c1 with z;exact absurd z (by decide)
  have hae:a≠e:=by intro z;obtain⟨o1,e1,c1,_⟩:=p.isList;rw[z,he]at e1;cases e1;injection c1 with z;exact absurd z (by decide)
  have hh:X.A.in1.handled=none:=I.ok.hd hc;have hil:i<its.length:=(UQ.mp hu).1;refine wpAny_pyNext_enum_itemD (Draws.list hh it a hai its.toArray) he ⟨hl,p.isList⟩ (by simpa using hil) hei (by simp;exact⟨hei,V2 hae⟩) λx' h' tk hx' ho hs' hT hsz hk=>?_;have ex:x'=u:=by
   have:its[i]?=some x':=by simpa using hx'
   rw[hu]at this;exact(VL this).symm
  subst ex;refine⟨_,rfl,wpAny_letOwnedTupleGo_enum ho λh'' he'' hs''=>?_⟩;have keep2:∀b o,b≠e->b≠it->s.heap.get? b=some o->h''.get? b=some o:=λb o n1 n2 q=>(hs''.2 b n1).trans (hk b o n1 n2 q);have hTe:s.heap.objs.size≠e:=Xo (UX he);have hT'':h''.get? s.heap.objs.size=some { cls:=.type "tuple",data:=.seq #[.int i tk,x'] }:=(hs''.2 _ hTe).trans hT;have I1:L2.Inv X ac σ (aP H s.heap.objs.size (.tup [.int (i:Nat),x])) {s with heap:=h'',toks:=tk+1}:=by
   refine I.step (g':=s.gens) (d':=s.drawn) (ch:=[e,it]) (λb hb=>?_) (λb o _ _ hn q _=>keep2 b o (λz=>hn (by simp[z])) (λz=>hn (by simp[z])) q)
    (λb o _ _ hn q _=>⟨o.slots,keep2 b o (λz=>hn (by simp[z])) (λz=>hn (by simp[z])) q⟩) (λb o _ q hH=>by rw[af (U9 (UX q))];exact hH)
    (λb o hn q=>⟨o,keep2 b o (λz=>hn (by simp[z])) (λz=>hn (by simp[z])) q⟩) (λb ys q=>by rw[af (av q (I.aU.fresh (UN _)))];exact q)
    (λb o' u' q=>by rw[af (av q (I.aU.fresh (UN _)))];exact q) (λb ps q=>⟨#[],by rw[af (av q (I.aU.fresh (UN _)))];simp[q]⟩) (λm hm=>?_) (λb u' q=>?_) I.bare
   .rcases US.mp hb with rfl|hb
    .exact⟨fe.2.2.2.1,fe.2.1,fe.2.2.2.2.1,fe.2.2.2.2.2⟩
    .have:b=it:=by simpa using hb
     subst this;exact⟨fi.2.2.2.1,fi.2.1,fi.2.2.2.2.1,fi.2.2.2.2.2⟩
   .obtain⟨o,es',ep,ho',r⟩:=hm;exact⟨o,es',ep,keep2 _ o (V2 fe.2.1) (V2 fi.2.1) ho',r⟩
   .by_cases hb:b=s.heap.objs.size
    .subst hb;rw[ag]at q;cases q;refine⟨by show 2<=sizeLine;decide,[.int i tk,x'],.cons ⟨tk,rfl⟩ (.cons ru .nil),⟨_,hT'',rfl,0,rfl⟩⟩
    .rw[af hb]at q;refine(I.aU b u' q).stay (λc v hc' q'=>keep2 c v ?_ ?_ q') (λc r=>by rw[af (av r (I.aU.fresh (UN _)))];exact r) λc ys r=>by rw[af (av r (I.aU.fresh (UN _)))];exact r
     .rcases hc' with z|z
      .rw[z];exact av q fe.1
      .exact av z fe.1
     .rcases hc' with z|z
      .rw[z];exact av q fi.1
      .exact av z fi.1
  refine⟨.ref s.heap.objs.size,_,I1,rfl,⟨_,x,I.aU.fresh (UN _),rfl,rfl,λys hy=>by rw[I.xP hy hq];exact hx⟩,⟨⟨_,by simpa using he''⟩,?_⟩,λb hb=>?_⟩
  .obtain⟨o,q,r⟩:=hs'.1;exact⟨o,(hs''.2 it (V2 hei)).trans q,r⟩
  .rcases US.mp hb with rfl|hb
   .rw[af (U9 (UX he))];exact fe.1
   .have:b=it:=by simpa using hb
    subst this;obtain⟨o,q,_⟩:=hl;rw[af (U9 (UX q))];exact fi.1
 done:=by
  intro X hP hw hK hc i ac s σ H E I hf st hg;subst hP hw hK;obtain⟨xs,hq,hx⟩:=hg;obtain⟨⟨old,he⟩,hl⟩:=st;obtain⟨its,rv,p,hz⟩:=I.list hq;have fi:=hf it (by simp);have hai:a≠it:=by intro z;obtain⟨o1,e1,c1,_⟩:=p.isList;obtain⟨o2,e2,c2,_⟩:=hl;rw[z,e2]at e1;cases e1;rw[c2]at c1;injection c1 with z;exact absurd z (by decide)
  have hh:X.A.in1.handled=none:=I.ok.hd hc;have hln:=rv.length;have Dr:Draws X.prog X.w X.A.in1 it [it,a] 0 (λ_ _=>True) (λ_ h=>h.IsListIter it a i/\h.IsList a its.toArray):=
   { live:=λ_ _ st=>let ⟨o,ho,_⟩:=st.1;⟨o,ho⟩
     frame:=λ_ _ _ st hk=>⟨st.1.at λo e=>hk it (by simp) o e,st.2.at λo e=>hk a (by simp) o e⟩
     item:=λi s Q E hi=>absurd hi (by lia)
     done:=λs Q E st hE=>wpAny_nextOf_list_end hh st.1 st.2 (by simp;lia) hE }
  exact wpAny_pyNext_enum_endD Dr he ⟨hl,p.isList⟩ λh' eb=>⟨rfl,I.turned (t':=s.toks) (λb o hb e=>eb b o hb e) fi.1 fi.2.1 fi.2.2.2.1 fi.2.2.2.2.1 fi.2.2.2.2.2⟩
 self:=λA i s Q E st h=>by obtain⟨⟨old,he⟩,_⟩:=st;exact wpAny_pyIter_enum he h
section
def z_(K:Yy)(ta:TA):TI:=λσ H R=>ta σ H λvs b=>∃a xs,vs=[.ref a]/\SqL K b a xs/\R (R0 K a) b
def Aa{l:Expr}(g:Gl X "enumerate") (i:X.mg "enumerate"=none) (ha:PA X [l] ta) (hs:autoParam (starEach [l] X.env=[(false,eval l X.env)]) aM):PI X (.Tuple es k zk) (.Call (.Name "enumerate" p) [l] [] pos) (z_ X.K ta):=by
 intro ac s σ H R I h;refine Call_ (jp I g i (by decide +kernel:bootBuiltins "enumerate"=some (.type "enumerate")) (VZ (bX (ha pos ac s σ H _ I h) λus s1 ⟨vs,d,c,j,q1⟩=>?_) hs rfl));obtain⟨a,xs,e,m,q⟩:=q1;subst e;cases j with
 |cons r n=>
  cases n;cases r;obtain⟨its,u,pl,hz⟩:=c.list m;refine call_enumerate_list pl.isList λh' f o hsz kp=>?_;have t:L2.Inv X ac σ d {s1 with heap:=h'}:=c.kept (t':=s1.toks) kp;refine wpAny_pyIter_enum f ?_;refine⟨s1.heap.objs.size+1,[s1.heap.objs.size+1,s1.heap.objs.size],_,_,d,rfl,t,Bx a s1.heap.objs.size (s1.heap.objs.size+1) (Nat.succ_ne_self _),⟨⟨_,by simpa using f⟩,o⟩,λb hb=>?_,q⟩;rcases US.mp hb with rfl|hb
  .exact c.sO (Nat.le_succ _) (c.aU.fresh (Nat.le_succ _))
  .have e:b=s1.heap.objs.size:=by simpa using hb
   subst e;exact c.sO (UN _) (c.aU.fresh (UN _))
end
noncomputable def T3(osc:Scope)(N:List Str)(scope:Scope)(tN capN:List Str)(caps:List Nat):Bool:=
 (scope.kind==.function)&&scope.names.all (λy=>y.2 != .cell)&&scope.names.all (λy=>y.2 != .local || scope.names.lookup y.1==some .local)&&tN.all (λx=>scope.names.lookup x==some .local) &&
 scope.names.all (λy=>y.2 != .free ||(osc.names.lookup y.1==some .cell || osc.names.lookup y.1==some .free))&&(capN.zip caps).all (λp=>N[p.2]?==some p.1)&&(caps.length==capN.length) &&
 capN.all (λy=>osc.names.lookup y==some .cell || osc.names.lookup y==some .free)&&capN.all (λy=>scope.names.lookup y==some .free)&&decide (tN++capN).Nodup
def cB.of(h1:X.env.scope=osc)(f:X.N=N)(b:T3 osc N scope tN capN caps=true):cB X scope tN capN caps:=by
 unfold T3 at b;simp only[Vi,VJ,Bool.or_eq_true,W2,bne_iff_ne,V8,ne_eq]at b;obtain⟨⟨⟨⟨⟨⟨⟨⟨⟨g,h⟩,i⟩,j⟩,l⟩,m⟩,n⟩,o⟩,p⟩,c⟩:=b;subst h1 f;refine⟨g,h,λy d q=>(i y d).resolve_left λz=>z q,j,λy d r=>(l y d).resolve_left λz=>z r,⟨λk y e=>?_,o,p,n⟩,c⟩;have t:k<capN.length:=(UQ.mp e).1;have a:k<caps.length:=by lia
 refine⟨caps[k],by simp[a],?_⟩;have s:(y,caps[k])∈capN.zip caps:=by
  have:(capN.zip caps)[k]?=some (y,caps[k]):=by rw[Xg];exact⟨e,by simp[a]⟩
  exact Vm this
 exact m _ s
structure Fn(K:Yy) (mg:Str->Option YA) (x:Str) (st:Stmt) (ps:List Str) (f:Addr) (fd:FuncData):Prop where
 fu:F2 K x x st f fd
 bi:Binds K fd ps []
 gl:mg x=some (.ref f)
def R3(F:List D->Res R):Sp:=λvs H Q _=>vs.length=1/\∃ds Ma r,IsAll H Ma ds vs/\F ds=.ok r/\∀v H',Same H H'->RetOk (OQ H Ma) H' v r->Q v H'
theorem mC:∀ns:List Int,IsAll H m (ns.map D.int) (ns.map V.int)
 |[]=>rfl
 |n::r=>⟨.int n,r.map V.int,rfl,rfl,mC r⟩
def Lr(d:∀ns:List Int,ns.length<=63->∃f al,F [.lst (ns.map .int)]=.ok (.val (.bl true) f al))(H:Hp)(a:Addr)(ns:List Int)(g:ns.length<=63)(c:∃o,H a=some (.ba o (.lst (ns.map V.int)))) :
 R3 F [.ref a] H (λv _=>v=.bl true) λ_ _ _=>False:=by
 obtain⟨f,al,e⟩:=d ns g;obtain⟨o,c⟩:=c;exact⟨rfl,[.lst (ns.map .int)],λb=>b=a,_,⟨_,[],rfl,⟨a,ns.map V.int,rfl,.inr ⟨o,c,rfl⟩,mC ns⟩,rfl⟩,e,λv H' _ h=>h⟩
section
variable{P:Yz}{w:World}{K:Yy}{mg:Str->Option YA}{base:Heap}
def bO.top(h:bO P w K mg base CX k f fd ps (m_ mg 1 F)):bO P w K mg base CX k f fd ps (R3 F):=h.imp λvs H Q E ⟨a,ds,Ma,r,is,e,q⟩=>⟨a,ds,Ma,is,by rw[e];exact q⟩
end
section
def He:List R->Res R
 |[r]=>match r.d with
  |.int i=>.ok (.val (.int i) true [])
  |.bl b=>.ok (.val (.int (if b then 1 else 0)) true [])
  |_=>.stuck
 |_=>.stuck
def Ls:lU X E (.type "int") He:=by
 refine⟨_,AY,λg M f env σ H Q rs vs e i p=>?_⟩;rcases rs with _|⟨r,_|_⟩
 .exact p.elim
 rotate_left
 .exact p.elim
 obtain⟨v,w,rfl,c,h⟩:=i;cases h;have c:Is H (vmsk g M (b5 [r]) f (cO [r])) r.d v:=c;unfold He at p;dsimp only at p;cases z:r.d with
 |int a=>rw[z]at c p;cases c;exact .inl ⟨a,rfl,p _ M H (Ext.refl _ _) e rfl⟩
 |bl b=>rw[z]at c p;cases c;exact .inr ⟨b,rfl,p _ M H (Ext.refl _ _) e rfl⟩
 |_=>rw[z]at p;exact p.elim
end
section
def By(fa:En->Res R):En->Res R:=λenv=>(fa env).bind λra=>match ra.d with
 |.int i=>.ok (.val (.int (-i)) true [])
 |_=>.stuck
def yK(ha:PD X E a fa):PD X E (.UnaryOp .USub a pos) (By fa):=by
 obtain⟨ta,j,sa⟩:=ha;refine⟨_,Ov KI j,λg M l env σ H Q h p=>sa.fK h p λr v k H' e c i f=>?_⟩;cases q:r.d with
 |int b=>rw[q]at i;simp only[q]at f;cases i;exact⟨b,rfl,f _ k H' (Ext.refl _ _) c rfl⟩
 |_=>simp only[q]at f;exact f.elim
def Bz(fa:En->Res R):En->Res Bool:=λenv=>(fa env).bind λra=>.ok ra.d.fJ
def DW(fa:En->Res R):En->Res Bool:=λenv=>(fa env).bind λra=>.ok (!ra.d.fJ)
def pV(ha:PD X E a fa):xV X E (.Compare a [.Is] [.Constant .none j pos'] pos) (Bz fa):=G2 ha
def DY(ha:PD X E a fa):xV X E (.Compare a [.IsNot] [.Constant .none j pos'] pos) (DW fa):=DM ha
def yL(l:Gl X "range") (m:X.mg "range"=none) (ha:Cr X E [a,b] fs) (hs:autoParam (starEach [a,b] X.env=[(false,eval a X.env),(false,eval b X.env)]) aM) (h:autoParam (starEach [b] X.env=[(false,eval b X.env)]) aM) :
 N6 X E tg (.Call (.Name "range" p) [a,b] [] pos) (SL fs):=by
 obtain⟨t,p1,s1⟩:=ha;refine⟨_,AW l m p1 hs h,λg M n env σ H o k p=>s1.one k (P:=λM H r=>PostI X.mg E g M n env σ H o r) p (λ_ _ z=>z) (λ_ _ _ z=>z) (λ_ _ _ _ _ e p=>p.ext e) λrs vs M1 s e1 f is q=>?_⟩;generalize hd:rs.map R.d=ds at is q;cases ds with
 |nil=>exact q.elim
 |cons d ds=>
  cases d with
  |int i=>
   cases ds with
   |nil=>exact q.elim
   |cons u ds=>
    cases u with
    |int j=>
     cases ds with
     |cons B ds=>exact q.elim
     |nil=>
      obtain⟨v,w,rfl,x,v2,C,rfl,y,A⟩:=is;cases x;cases y;cases A;dsimp only at q;by_cases c:(cR i&&cR j)=true
      .rw[UP c]at q;simp only[cR,Vi,V8]at c;exact⟨i,j,rfl,⟨c.1.1,c.1.2,c.2.1,c.2.2⟩,q _ M1 s (Ext.refl _ _) f (qW i (j-i).toNat)⟩
      .rw[UV c]at q;exact q.elim
    |_=>exact q.elim
  |_=>exact q.elim
open Classical in
def i8(H:Hp)(m:Addr->Prop)(x:D)(u:YA):Bool:=decide (∃d v,RelV v u/\Is H m d v/\gw d x=true)
def tS(r:RelV v u)(h:Is H m d v):i8 H m x u=gw d x:=by
 unfold i8;cases q:gw d x with
 |true=>exact @U6 _ (Classical.propDecidable _) ⟨d,v,r,h,q⟩
 |false=>refine @U_ _ (Classical.propDecidable _) λ⟨d',c,b,h',a⟩=>?_;have e:=L2.RelV.inj r b;subst e;have e:=Is.inj h h';subst e;rw[q]at a;cases a
theorem oB:∀{ds:List D}{vs:List V}{us:List YA},IsAll H m ds vs->Vals vs us->us.any (i8 H m x)=ds.any λd=>gw d x
 |[],_,_,h,r=>by cases h;cases r;rfl
 |d::ds,_,_,h,r=>by
  obtain⟨v,w,rfl,h1,a⟩:=h;cases r with
  |cons b c=>rw[WK,WK,tS b h1,oB a c]
def O2(neg:Bool)(K:Yy):R2:=λx y H Q=>∃p ds vs d m m',y=.ref p/\(SqL K H p vs\/SqT K H p vs)/\IsAll H m ds vs/\Is H m' d x/\(D.gJ ds<=50/\d.dep<=50)/\Q (.bl (if neg then !(ds.any λe=>gw e d)else ds.any λe=>gw e d)) H
theorem oC(I:L2.Inv X ac σ H s)(a:A.units+50<cLine)(b:Is H m' d x)(g:d.dep<=50)(c:RelV x v) :
 ∀{ds:List D}{vs:List V}{us:List YA},IsAll H m ds vs->Vals vs us->D.gJ ds<=50->∀u∈us,SeqAt.EqAt A s u v (i8 H m d u)
 |[],_,_,h,r,_=>λu a=>by cases h;cases r;cases a
 |e::ds,_,_,h,r,hd=>λu hm=>by
  obtain⟨y,w,rfl,h1,i⟩:=h;have j:max e.dep (D.gJ ds)<=50:=hd;cases r with
  |cons f k=>
   rcases US.mp hm with rfl|hm
   .rw[tS f h1];exact DA I.aU 50 A a (by lia) (by lia) (by lia) h1 b f c
   .exact oC I a b g c i k (by lia) u hm
def Lu(g:X.A.units+64<cLine):OpR X (compareOp .In) (O2 false X.K):=by
 intro ac s σ H x y v u Q I b e h;obtain⟨p,ds,vs,d,m,m',rfl,hq,a,c,hd,q⟩:=h;cases e;rcases hq with hq|hq
 .obtain⟨its,r,pl,hz⟩:=I.list hq;refine SeqAt.in_listAt (i8 H m d) pl.isList (λw f=>oC I (by grind) c hd.2 b a r hd.1 w (by grind)) ⟨.bl _,H,I,rfl,?_⟩;rw[show its.toArray.any (i8 H m d)=its.any (i8 H m d) by simp,oB a r];exact q
 .obtain⟨its,r,pl,hz⟩:=I.tuple hq;refine SeqAt.in_tupleAt (i8 H m d) pl (λw f=>oC I (by grind) c hd.2 b a r hd.1 w (by grind)) ⟨.bl _,H,I,rfl,?_⟩;rw[show its.toArray.any (i8 H m d)=its.any (i8 H m d) by simp,oB a r];exact q
def N8(neg:Bool)(x:D)(ds:List D):Res R:=if D.gJ ds<=50/\x.dep<=50 then .ok (.val (.bl (if neg then !(ds.any λe=>gw e x)else ds.any λe=>gw e x)) true [])else .stuck
def BA(neg:Bool)(a b:R):Res R:=match b.d with
 |.lst ds=>N8 neg a.d ds
 |.tup ds=>N8 neg a.d ds
 |_=>.stuck
def Ul:R->R->Res R:=BA false
def Lx(h:OpR X f (O2 neg X.K)):pR X E f (BA neg):=by
 refine⟨_,h,λg M k env σ H Q ra l x y c j b p=>?_⟩;unfold BA at p;have key:∀ds,PostE X.mg E g M k env σ H Q (N8 neg ra.d ds)->(D.gJ ds<=50/\ra.d.dep<=50)/\Q (.bl (if neg then !(ds.any λe=>gw e ra.d)else ds.any λe=>gw e ra.d)) H:=λds p=>by
  unfold N8 at p;by_cases hd:D.gJ ds<=50/\ra.d.dep<=50
  .rw[UP hd]at p;exact⟨hd,p _ M H (Ext.refl _ _) c rfl⟩
  .rw[UV hd]at p;exact p.elim
 cases e2:l.d with
 |lst ds=>rw[e2]at p b;obtain⟨a,vs,rfl,h1,i⟩:=b.rd;obtain⟨k1,k2⟩:=key ds p;exact⟨a,ds,vs,ra.d,_,_,rfl,.inl (.inl h1),i,j,k1,k2⟩
 |tup ds=>rw[e2]at p b;obtain⟨a,vs,rfl,h1,i⟩:=b;obtain⟨k1,k2⟩:=key ds p;exact⟨a,ds,vs,ra.d,_,_,rfl,.inr (SqT.of h1),i,j,k1,k2⟩
 |_=>rw[e2]at p;exact p.elim
def O3(a:X.A.units+64<cLine):pR X E (compareOp .In) Ul:=Lx (Lu a)
end
end L3
namespace L3
open PySem PySem.Spec PyProof.Rows L2
def DZ:D->Option bH
 |.int i=>some (.inl i)
 |.str x=>some (.inr x)
 |_=>none
def pk:List D->Option (List bH)
 |[]=>some []
 |d::ds=>match DZ d,pk ds with
  |some k,some ks=>some (k::ks)
  |_,_=>none
def Ly:D->Option (List bH)
 |.tup ds=>pk ds
 |_=>none
section
def Is.key(h:Is H m d v)(e:DZ d=some k):v=kV k:=by
 cases d with
 |int i=>cases e;exact h
 |str x=>cases e;exact h
 |_=>cases e
theorem IsAll.keys:∀{ds:List D}{vs:List V}{ks:List bH},IsAll H m ds vs->pk ds=some ks->vs=ks.map kV
 |[],_,_,h,e=>by cases h;cases e;rfl
 |d::ds,_,ks,h,e=>by
  obtain⟨v,r,rfl,h1,a⟩:=h;unfold pk at e;cases q:DZ d with
  |none=>rw[q]at e;cases e
  |some k=>
   cases q2:pk ds with
   |none=>rw[q,q2]at e;cases e
   |some b=>rw[q,q2]at e;cases e;rw[h1.key q,IsAll.keys a q2];rfl
theorem Is.Ly(h:Is H m d v)(e:L3.Ly d=some k):∃b,v=.ref b/\H b=some (.tup (k.map kV)):=by
 cases d with
 |tup ds=>obtain⟨a,vs,rfl,h1,c⟩:=h;have e:pk ds=some k:=e;rw[IsAll.keys c e]at h1;exact⟨a,rfl,h1⟩
 |_=>cases e
end
section
variable{X:Cx}{E:XK}
def Hf(c:Rep g M ρ env σ H)(f:H b=none)(is:Is H' (λa=>a=b) d (.ref b))(mu:Mu H' b):ROk g M ρ H H' (.ref b) (.jm d):=by obtain⟨j,h,i⟩:=c.free f;exact⟨λa=>a=b,λa e=>by subst e;exact⟨h,f,mu,i⟩,is⟩
def Hg:PD X E (.Dict [] [] pos) (λ_=>.ok (.jm (.dZ [] []))):=by refine⟨_,v4,λg M d env σ H Q a p b c=>?_⟩;have s:Same H (aP H b (.dK [])):=aQ c;exact p _ M _ ⟨λ_ z=>z,s,λ_ z=>.inl z⟩ (a.grow s) (Hf a c ⟨b,[],rfl,⟨.inl ⟨[],.inl ag,rfl,rfl⟩,rfl⟩,rfl⟩ ⟨_,ag,tI_⟩)
def hI:D->Option DK
 |.int i=>some (.inl (.inl i))
 |.str x=>some (.inl (.inr x))
 |.tup ds=>(pk ds).map .inr
 |_=>none
noncomputable def mD:DK->DK->Bool
 |.inl _,.inl _=>true
 |.inr _,.inr _=>true
 |_,_=>false
noncomputable def oE(ks:List DK)(k:DK):Bool:=ks.any λx=>decide (x=k)
def D0(neg:Bool)(a:D)(ks:List DK):Res R:=match hI a with
 |some k=>if ks.all (mD k)then .ok (.val (.bl (if neg then !oE ks k else oE ks k)) true [])else .stuck
 |none=>.stuck
def D7(neg:Bool)(a b:R):Res R:=match b.d with
 |.dZ ks _=>D0 neg a.d ks
 |_=>BA neg a b
def D8:R->R->Res R:=D7 false
def O4(neg:Bool):R2:=λx y H Q=>∃a o,y=.ref a/\pd H a x o/\Q (.bl (if neg then !o.isSome else o.isSome)) H
def Lz(e:X.A.units+64<cLine):OpR X (compareOp .In) (O4 false):=by intro ac s σ H x y v u Q I b c h;obtain⟨a,o,rfl,g,q⟩:=h;cases c;exact OI (by lia) I g b λf d=>⟨.bl _,H,d,rfl,q⟩
def qY{κ:Type}[DecidableEq κ]{kvs:List (κ×V)}(inj:κ->DK)(c:∀a b,inj a=inj b->a=b)(k:κ):(c9 kvs k).isSome=oE (kvs.map λp=>inj p.1) (inj k):=by
 unfold oE;induction kvs with
 |nil=>rfl
 |cons p r d=>
  rw[UR,WK];by_cases e:p.1=k
  .rw[gV e,U6 (Wo inj e)];rfl
  .rw[gW e,d,U_ (λz=>e (c _ _ z)),Yh]
theorem Is.hI(h:Is H m d v)(e:L3.hI d=some k):(∃k0,k=.inl k0/\v=kV k0)\/∃k0 b,k=.inr k0/\v=.ref b/\H b=some (.tup (k0.map kV)):=by
 cases d with
 |int i=>cases e;exact .inl ⟨_,rfl,h⟩
 |str x=>cases e;exact .inl ⟨_,rfl,h⟩
 |tup ds=>have e:(pk ds).map Sum.inr=some k:=e;obtain⟨k0,a,rfl⟩:=VF.mp e;obtain⟨b,e1,e2⟩:=Is.Ly (d:=.tup ds) h a;exact .inr ⟨k0,b,rfl,e1,e2⟩
 |_=>cases e
def Hh(h:DAt H a ks vs)(g:Is H m d x)(e:L3.hI d=some k)(c:ks.all (mD k)=true):∃o,pd H a x o/\o.isSome=oE ks k:=by
 rcases g.hI e with⟨k0,rfl,rfl⟩|⟨k0,b,rfl,rfl,f⟩
 .rcases h with⟨kvs,e1,rfl,rfl⟩|⟨kvs,e1,rfl,rfl⟩
  .exact⟨_,.inl (.inl ⟨kvs,k0,e1,rfl,rfl⟩),qY Sum.inl (λ_ _ z=>Yk z) k0⟩
  .cases kvs with
   |nil=>exact⟨none,.inr (.inl ⟨e1,⟨k0,rfl⟩,rfl⟩),rfl⟩
   |cons p r=>simp[mD]at c
 .rcases h with⟨kvs,e1,rfl,rfl⟩|⟨kvs,e1,rfl,rfl⟩
  .cases kvs with
   |nil=>exact⟨none,.inr (.inr ⟨e1,⟨b,k0,rfl,f⟩,rfl⟩),rfl⟩
   |cons p r=>simp[mD]at c
  .exact⟨_,.inl (.inr ⟨kvs,k0,b,e1,rfl,f,rfl⟩),qY Sum.inr (λ_ _ z=>Yl z) k0⟩
def LA(h1:pR X E f (BA neg))(h:OpR X f (O4 neg)):pR X E f (D7 neg):=by
 obtain⟨r,o1,s1⟩:=h1;refine⟨_,o1.or h,λg M l env σ H Q ra i x y b j c p=>?_⟩;unfold D7 at p;cases q:i.d with
 |dZ ks ds=>
  right;rw[q]at p c;dsimp only at p;unfold D0 at p;cases q2:hI ra.d with
  |none=>rw[q2]at p;exact p.elim
  |some k=>
   rw[q2]at p;dsimp only at p;by_cases e:ks.all (mD k)=true
   .rw[UP e]at p;obtain⟨a,vs,rfl,h1,h⟩:=c;obtain⟨o,g1,g2⟩:=Hh h1.1 j q2 e;refine⟨a,o,rfl,g1,?_⟩;rw[g2];exact p _ M H (Ext.refl _ _) b rfl
   .rw[UV e]at p;exact p.elim
 |_=>left;refine s1 g M l env σ H Q ra i x y b j c ?_;rw[q]at p;exact p
def yM(a:X.A.units+64<cLine):pR X E (compareOp .In) D8:=LA (O3 a) (Lz a)
def tT:List DK->List D->DK->D->List D
 |k'::ks,d'::ds,k,d=>(if k'=k then d else d')::tT ks ds k d
 |_,_,_,_=>[]
def kN(ks:List DK)(ds:List D)(k:DK)(d:D):D:=if oE ks k then .dZ ks (tT ks ds k d)else .dZ (ks++[k]) (ds++[d])
def Ab{κ:Type}[DecidableEq κ](inj:κ->DK)(i:∀a b,inj a=inj b->a=b){H:Hp}{m:Addr->Prop}{kvs:List (κ×V)}{ds:List D}{k:κ}{v:V}{d:D}(h:IsAll H m ds (kvs.map Prod.snd))(j:Is H m d v) :
 ∃f g,kN (kvs.map λp=>inj p.1) ds (inj k) d=.dZ f g/\f=(cj kvs k v).map (λp=>inj p.1)/\IsAll H m g ((cj kvs k v).map Prod.snd):=by
 have c:oE (kvs.map λp=>inj p.1) (inj k)=kvs.any λp=>decide (p.1=k):=by unfold oE;rw[List.any_map];congr 1;funext p;exact Yp.mpr ⟨i _ _,Wo inj⟩
 unfold kN cj;rw[c];by_cases e:(kvs.any λp=>decide (p.1=k))=true
 .rw[UP e,UP e];refine⟨_,_,rfl,?_,?_⟩
  .rw[Vb];refine V1 λp _=>?_;show inj p.1=inj (if p.1=k then(p.1,v)else p).1;split<;>rfl
  .clear e c;induction kvs generalizing ds with
   |nil=>
    cases ds with
    |nil=>exact rfl
    |cons l r=>obtain⟨_,_,z,_⟩:=h;cases z
   |cons p r n=>
    cases ds with
    |nil=>cases h
    |cons l ds=>
     obtain⟨s,t,z,o,q⟩:=h;cases z;have:=n q;refine⟨_,_,rfl,?_,this⟩;dsimp only;by_cases e:p.1=k
     .rw[UP (Wo inj e),UP e];exact j
     .rw[UV (λz=>e (i _ _ z)),UV e];exact o
 .rw[UV e,UV e];exact⟨_,_,rfl,by simp,by rw[VO];exact h.append ⟨v,[],rfl,j,rfl⟩⟩
def wG(i:Nat)(env:En)(ks:List DK)(ds:List D)(d:D)(k:R):Res Fl:=match hI k.d with
 |some x=>if ks.all (mD x)/\ks.length<lim then .ok (.nx (env.set i (some (.l7 (kN ks ds x d)))))else .stuck
 |none=>.stuck
def Ac(i:Nat)(fk:En->Res R)(env:En)(ks:List DK)(ds:List D)(r:R):Res Fl:=if r.d.flat then(fk env).bind (wG i env ks ds r.d)else .stuck
def wH(i:Nat)(fk a:En->Res R):En->Res Fl:=λenv=>match env[i]? with
 |some (some (.l7 (.dZ ks ds)))=>(a env).bind (Ac i fk env ks ds)
 |_=>.stuck
def D9(mk:D->Sl)(i:Nat)(env:En)(ks:List DK)(ds:List D)(d:D)(k:R):Res Fl:=match hI k.d with
 |some x=>if ks.all (mD x)/\ks.length<lim then .ok (.nx (env.set i (some (mk (kN ks ds x d)))))else .stuck
 |none=>.stuck
def D_(mk:D->Sl)(i:Nat)(fk:En->Res R)(env:En)(ks:List DK)(ds:List D)(r:R):Res Fl:=if r.d.flat then(fk env).bind (D9 mk i env ks ds r.d)else .stuck
def Ea{fk fv:En->Res R}{M:Addr->Prop}{σ:St}{H:Hp}{D:Ends}{ks:List DK}{ds:List L3.D}(mk:L3.D->Sl)(P0:Gd->V->Prop)(L:∀(g:Gd)(M T:Addr->Prop)(H:Hp)(v:V)(d:L3.D),SlOk g M T H v (mk d)↔Is H T d v/\P0 g v)(N:∀d,(mk d).RF=true)
 (s1:Snd X.mg E tk fk) (s2:Snd X.mg E tv fv) (O:Rep g M ρ env σ H) (hq:env[i]?=some (some (mk (.dZ ks ds)))) (p:PostS X.mg E g M H D ((fv env).bind (D_ mk i fk env ks ds))):C7 (aK i) tk tv D σ H:=by
 have hi:i<env.length:=(UQ.mp hq).1;refine s2.sP O p λr v M1 H1 e1 P ro p1=>?_;obtain⟨M1',x1,x1m,l,is1⟩:=ro.is P e1 O.same;unfold D_ at p1;by_cases Y:r.d.flat=true
 .rw[UP Y]at p1;obtain⟨va,ev,ka⟩:=l.slot i _ hq;obtain⟨ka,G⟩:=(L g M1' (ρ i) H1 va (.dZ ks ds)).mp ka;obtain⟨a,vs,rfl,⟨dat,Z⟩,Q⟩:=ka;refine⟨.ref a,ev,s1.sP l (PostS.ba ⟨x1m,λ_ _ q _=>q⟩ p1) λrk y M2 m e2 S rok p2=>?_⟩;obtain⟨U,x2,x2m,s,is2⟩:=rok.is S e2 l.same;unfold D9 at p2;cases qk:hI rk.d with
  |none=>rw[qk]at p2;exact p2.elim
  |some x=>
   rw[qk]at p2;dsimp only at p2;by_cases K:ks.all (mD x)=true/\ks.length<lim
   .rw[UP K]at p2;have n:DAt m a ks vs:=dat.keep λo e=>e2.h _ _ e;have w:IsAll m (ρ i) ds vs:=Q.same e2.h;have hv2:Is m (ρ i) r.d v:=Is.flat Y (is1.same e2.h);have kd:Is m (ρ i) (.dZ ks ds) (.ref a):=⟨a,vs,rfl,⟨n,Z⟩,w⟩;have c:IsAll m (λb=>ρ i b/\b≠a) ds vs:=IsAll.avoid kd (by simp only[L3.D.sz];lia) w;have A:Is m (λb=>ρ i b/\b≠a) r.d v:=Is.flat Y hv2;have F:∀o u,m a≠some (.ba o u):=λo u z=>by obtain⟨_,_,uo,q,qm⟩:=s.ci i a Z;rw[z]at q;cases q;exact qm
    obtain⟨uo,huo,hmo⟩:=n.mu F;have B:∀u,Rd m a u->m a=some u:=λu z=>z.elim id λ⟨o,z⟩=>(F _ _ z).elim;have nfx:∀u,m a=some u->¬i6 u:=λu e z=>by rw[huo]at e;cases e;cases uo<;>first|exact z|exact hmo
    have C:∀(u':HO)(j:List DK)(f:List L3.D)(vs':List V),Lb u'->DAt (aP m a u') a j vs'->kN ks ds x r.d=.dZ j f->IsAll m (λb=>ρ i b/\b≠a) f vs'->D.nx σ (aP m a u'):=λu' j f vs' hu' hd he I=>by
     rw[he]at p2;have J:IsAll (aP m a u') (ρ i) f vs':=I.mono (λb u q z=>by
      rw[af]
      .exact q
      .rintro rfl;rcases z with z|z
       .exact z.2 rfl
       .exact nfx u q z) λ_ _ _ z=>z.1
     obtain⟨f1,W⟩:=s.FV (u':=u') hu' Z hi ev (sl:=mk (.dZ j f)) ((L g U (ρ i) _ _ _).mpr ⟨⟨a,vs',rfl,⟨hd,Z⟩,J⟩,G⟩) (N _);exact p2 σ U ρ _ (l_.trans ⟨x2m,λ_ _ q _=>q⟩ f1) W
    refine⟨a,?_⟩;rcases is2.hI qk with⟨k0,rfl,rfl⟩|⟨k0,b,rfl,rfl,hb⟩
    .rcases n with⟨kvs,e1,rfl,rfl⟩|⟨kvs,e1,rfl,rfl⟩
     .obtain⟨j,f,g1,g2,g3⟩:=Ab Sum.inl (λ_ _ z=>Yk z) (k:=k0) c A;refine⟨_,rfl,.inl (DPut.k (B _ e1) (by have:=K.2;rw[UO]at this;exact uE this)),C _ j f _ tI_ (.inl ⟨_,.inl ag,g2,rfl⟩) g1 g3⟩
     .cases kvs with
      |nil=>
       cases ds with
       |nil=>exact⟨_,rfl,.inr (.inl ⟨B _ e1,k0,rfl,rfl⟩),C (.dK [(k0,v)]) [.inl k0] [r.d] [v] tI_ (.inl ⟨_,.inl ag,rfl,rfl⟩) rfl ⟨v,[],rfl,A,rfl⟩⟩
       |cons d0 ds0=>obtain⟨_,_,z,_⟩:=c;cases z
      |cons q r0=>simp[mD]at K
    .rcases n with⟨kvs,e1,rfl,rfl⟩|⟨kvs,e1,rfl,rfl⟩
     .cases kvs with
      |nil=>
       cases ds with
       |nil=>exact⟨_,rfl,.inr (.inr ⟨B _ e1,b,k0,rfl,hb,rfl⟩),C (.dT [(k0,v)]) [.inr k0] [r.d] [v] tI_ (.inr ⟨_,.inl ag,rfl,rfl⟩) rfl ⟨v,[],rfl,A,rfl⟩⟩
       |cons d0 ds0=>obtain⟨_,_,z,_⟩:=c;cases z
      |cons q r0=>simp[mD]at K
     .obtain⟨j,f,g1,g2,g3⟩:=Ab Sum.inr (λ_ _ z=>Yl z) (k:=k0) c A;refine⟨_,rfl,.inl (DPut.t (B _ e1) hb (by have:=K.2;rw[UO]at this;exact uE this)),C _ j f _ tI_ (.inr ⟨_,.inl ag,g2,rfl⟩) g1 g3⟩
   .rw[UV K]at p2;exact p2.elim
 .rw[UV Y]at p1;exact p1.elim
def Hi(f:X.A.units+64<cLine)(b:PE X o (aK i))(c:PD X E ki fk)(d:PD X E value fv)
 (hs:autoParam (swapsWith value (some (.Subscript o ki pos')) pos.line X.env=pure false) aM):zY X E (.Assign [.Subscript o ki pos'] value pos) (wH i fk fv):=by
 obtain⟨tk,p1,s1⟩:=c;obtain⟨h,p2,s2⟩:=d;refine⟨_,C8 (by lia) b p1 p2 hs,λg M j env σ H D a p=>?_⟩;unfold wH at p;split at p
 .rename_i ks ds e;exact Ea .l7 (λ_ _=>True) (λ_ _ _ _ _ _=>⟨λz=>⟨z,tI_⟩,λz=>z.1⟩) (λ_=>rfl) s1 s2 a e p
 .exact p.elim
end
section
def LB:R->R->Res R:=oI (λ_ j=>decide (0<=j)) λi j=>.int (i/2^j.toNat)
def Eb:R->R->Res R:=oI (λ_ _=>true) λi j=>.int (Builtin.bitAnd i j)
def LC:pR X E (binaryOp .RShift) LB:=tL _ _ KF (λi j h=>by grind) λ_ _ _ _=>rfl
def Hj:pR X E (binaryOp .BitAnd) Eb:=oq _ KG λ_ _ _ _=>rfl
def uN:List R->Res R
 |[r]=>match r.d with
  |.lst ds=>.ok (jy (.tup ds) r.fr r.al)
  |.tup ds=>.ok (jy (.tup ds) r.fr r.al)
  |_=>.stuck
 |_=>.stuck
def Ec:lU X E (.type "tuple") uN:=by
 refine⟨_,sh,λg M h env σ H Q rs vs c i p=>?_⟩;rcases rs with _|⟨r,_|_⟩
 .exact p.elim
 rotate_left
 .exact p.elim
 obtain⟨v,w,rfl,b,j⟩:=i;cases j;have b:Is H (vmsk g M (b5 [r]) h (cO [r])) r.d v:=b;replace b:=b.weak λ_ z=>zX z;unfold uN at p;dsimp only at p;cases q:r.d with
 |lst ds=>rw[q]at p b;obtain⟨a,ws,rfl,h1,f⟩:=b.rd;exact⟨a,ws,rfl,.inl ⟨.inl h1,λl k=>p.tup c k f⟩⟩
 |tup ds=>rw[q]at p b;have e:=b;obtain⟨a,ws,rfl,h1,f⟩:=b;exact⟨a,ws,rfl,.inr ⟨SqT.of h1,p.val c e⟩⟩
 |_=>rw[q]at p;exact p.elim
end
def getD:List DK->List D->DK->Option D
 |k'::ks,d::ds,k=>if k'=k then some d else getD ks ds k
 |_,_,_=>none
def tU(ra rk:R):Res R:=match ra.d with
 |.dZ ks ds=>match hI rk.d with
  |some x=>if ks.all (mD x)then(match getD ks ds x with
   |some d=>.ok (jy d ra.fr ra.al)
   |none=>.stuck)else .stuck
  |none=>.stuck
 |_=>.stuck
theorem pW{κ:Type}[DecidableEq κ](inj:κ->DK)(f:∀a b,inj a=inj b->a=b){H:Hp}{m:Addr->Prop}{k:κ}{d:D}:∀{kvs:List (κ×V)}{ds:List D},IsAll H m ds (kvs.map Prod.snd)->getD (kvs.map λp=>inj p.1) ds (inj k)=some d->∃v,c9 kvs k=some v/\Is H m d v
 |[],ds,_,e=>by cases ds<;>cases e
 |p::r,[],h,e=>by cases h
 |p::r,j::ds,h,e=>by
  obtain⟨l,n,z,g,i⟩:=h;cases z;rw[UR]at e;unfold getD at e;by_cases c:p.1=k
  .rw[UP (Wo inj c)]at e;cases e;exact⟨p.2,gV c,g⟩
  .rw[UV (λz=>c (f _ _ z))]at e;obtain⟨v,e1,e2⟩:=pW inj f i e;exact⟨v,by rw[gW c];exact e1,e2⟩
section
def Hk(C:X.A.units+64<cLine)(t:PD X E o fa)(u:PD X E k fk)(hs:KY k):PD X E (.Subscript o k pos) (v2 tU fa fk):=by
 obtain⟨ta,p1,s1⟩:=t;obtain⟨tk,p2,s2⟩:=u;refine⟨_,zF (by lia) p1 p2 hs,λg M D env σ H Q j p=>s1.Ck s2 j p λra rk x y M1 F c m w q=>?_⟩;unfold tU at q;cases n:ra.d with
 |dZ ks ds=>
  rw[n]at q m;dsimp only at q;cases l:hI rk.d with
  |none=>rw[l]at q;exact q.elim
  |some s=>
   rw[l]at q;dsimp only at q;by_cases i:ks.all (mD s)=true
   .rw[UP i]at q;obtain⟨a,vs,rfl,⟨h,_⟩,e⟩:=m;cases f:getD ks ds s with
    |none=>rw[f]at q;exact q.elim
    |some d=>
     rw[f]at q;refine⟨a,?_⟩;rcases w.hI l with⟨k0,rfl,rfl⟩|⟨k0,b,rfl,rfl,B⟩
     .rcases h with⟨kvs,e1,rfl,rfl⟩|⟨kvs,e1,rfl,rfl⟩
      .obtain⟨v,g1,g2⟩:=pW Sum.inl (λ_ _ z=>Yk z) e f;exact⟨v,rfl,by rw[<- g1];exact .inl ⟨kvs,k0,e1,rfl,rfl⟩,q.val c g2⟩
      .cases kvs with
       |nil=>cases ds<;>cases f
       |cons p r=>simp[mD]at i
     .rcases h with⟨kvs,e1,rfl,rfl⟩|⟨kvs,e1,rfl,rfl⟩
      .cases kvs with
       |nil=>cases ds<;>cases f
       |cons p r=>simp[mD]at i
      .obtain⟨v,g1,g2⟩:=pW Sum.inr (λ_ _ z=>Yl z) e f;exact⟨v,rfl,by rw[<- g1];exact .inr ⟨kvs,k0,b,e1,rfl,B,rfl⟩,q.val c g2⟩
   .rw[UV i]at q;exact q.elim
 |_=>rw[n]at q;exact q.elim
def O5(ra:R)(ks:List DK)(ds:List D)(rk a:R):Res R:=match hI rk.d with
 |some x=>if ks.all (mD x)then(match getD ks ds x with
  |some d=>.ok (jy d ra.fr ra.al)
  |none=>.ok (jy a.d a.fr a.al))else .stuck
 |none=>.stuck
def SM(fx:En->Res R)(env:En)(ra:R)(ks:List DK)(ds:List D)(rk:R):Res R:=(fx env).bind (O5 ra ks ds rk)
def O6(fk fx:En->Res R)(env:En)(ra:R):Res R:=match ra.d with
 |.dZ ks ds=>(fk env).bind (SM fx env ra ks ds)
 |_=>.stuck
def wI(fa fk fx:En->Res R):En->Res R:=λenv=>(fa env).bind (O6 fk fx env)
def DAt.Ua(h:DAt H a ks vs):Ji H a:=h.imp (λ⟨kvs,e,_⟩=>⟨kvs,e⟩) λ⟨kvs,e,_⟩=>⟨kvs,e⟩
theorem Ad:∀{ks:List DK}{ds:List D}{k:DK},ks.length=ds.length->oE ks k=(getD ks ds k).isSome
 |[],ds,k,_=>by cases ds<;>rfl
 |k'::ks,[],k,h=>by cases h
 |k'::ks,d::ds,k,h=>by
  have a:=Ad (ks:=ks) (ds:=ds) (k:=k) (by simpa using h);unfold oE getD;unfold oE at a;rw[WK];by_cases e:k'=k
  .rw[UP e,U6 e];rfl
  .rw[UV e,U_ e,Yh];exact a
def wJ(h:DAt H a ks vs)(c:IsAll H m ds vs)(n:Is H m' d x)(e:L3.hI d=some k)(i:ks.all (mD k)=true) :
 ∃o,pd H a x o/\(match getD ks ds k with|some d=>∃v,o=some v/\Is H m d v|none=>o=none):=by
 have key:∀{κ:Type} [DecidableEq κ] (inj:κ->DK) (f:∀a b,inj a=inj b->a=b) (kvs:List (κ×V)) (k0:κ),IsAll H m ds (kvs.map Prod.snd)->(match getD (kvs.map λp=>inj p.1) ds (inj k0)with|some d=>∃v,c9 kvs k0=some v/\Is H m d v|none=>c9 kvs k0=none):=by
  intro κ _ inj f kvs k0 j;have s:(kvs.map λp=>inj p.1).length=ds.length:=by have:=j.length;rw[UO]at this ⊢;exact this
  have h1:=Ad (k:=inj k0) s;have g:=qY (kvs:=kvs) inj f k0;cases q:getD (kvs.map λp=>inj p.1) ds (inj k0)with
  |some d=>exact pW inj f j q
  |none=>
   rw[q]at h1;rw[h1]at g;cases z:c9 kvs k0 with
   |none=>rfl
   |some v=>rw[z]at g;cases g
 rcases n.hI e with⟨k0,rfl,rfl⟩|⟨k0,b,rfl,rfl,l⟩
 .rcases h with⟨kvs,e1,rfl,rfl⟩|⟨kvs,e1,rfl,rfl⟩
  .exact⟨_,.inl (.inl ⟨kvs,k0,e1,rfl,rfl⟩),key Sum.inl (λ_ _ z=>Yk z) kvs k0 c⟩
  .cases kvs with
   |nil=>exact⟨none,.inr (.inl ⟨e1,⟨k0,rfl⟩,rfl⟩),by cases ds<;>rfl⟩
   |cons p r=>simp[mD]at i
 .rcases h with⟨kvs,e1,rfl,rfl⟩|⟨kvs,e1,rfl,rfl⟩
  .cases kvs with
   |nil=>exact⟨none,.inr (.inr ⟨e1,⟨b,k0,rfl,l⟩,rfl⟩),by cases ds<;>rfl⟩
   |cons p r=>simp[mD]at i
  .exact⟨_,.inl (.inr ⟨kvs,k0,b,e1,rfl,l,rfl⟩),key Sum.inr (λ_ _ z=>Yl z) kvs k0 c⟩
def Hl(S:X.A.units+64<cLine)(G:PD X E o fa)(I:PD X E k fk)(J:PD X E x fx)(m:M2 X o "get" apos k x cpos):PD X E (.Call (.Attribute o "get" apos) [k,x] [] cpos) (wI fa fk fx):=by
 obtain⟨ta,p1,s1⟩:=G;obtain⟨tk,p2,s2⟩:=I;obtain⟨T,p3,K⟩:=J;refine⟨_,A6 (by lia) p1 p2 p3 m,λg M L env σ H Q r p=>s1.fK r p λra v M1 U e1 i u q1=>?_⟩;unfold O6 at q1;cases w:ra.d with
 |dZ ks ds=>
  rw[w]at q1 u;dsimp only at q1;obtain⟨a,vs,rfl,⟨j,ma⟩,l⟩:=u;refine⟨a,rfl,j.Ua,s2.fK i q1 λrk y M2 V e2 n N q2=>?_⟩;refine K.fK n q2 λW z O B e3 c P b=>?_;unfold O5 at b;cases s:hI rk.d with
  |none=>rw[s]at b;exact b.elim
  |some C=>
   rw[s]at b;dsimp only at b;by_cases t:ks.all (mD C)=true
   .rw[UP t]at b;have q:DAt B a ks vs:=j.keep λo e=>e3.h _ _ (e2.h _ _ e);have f:IsAll B (vmsk g O ra.fr L ra.al) ds vs:=(l.ext e2).ext e3;obtain⟨D,g1,g2⟩:=wJ q f (N.ext e3) s t;refine⟨D,g1,?_⟩;cases F:getD ks ds C with
    |some d=>rw[F]at b g2;obtain⟨v,rfl,R⟩:=g2;exact b.val c R
    |none=>rw[F]at b g2;have g2:D=none:=g2;subst g2;exact b.val c P
   .rw[UV t]at b;exact b.elim
 |_=>rw[w]at q1;exact q1.elim
end
noncomputable def hJ:List D->Option (List Int)
 |[]=>some []
 |.int i::r=>(hJ r).map (i::·)
 |_::_=>none
def Hm:D->Option (List Int)
 |.tup ds=>hJ ds
 |_=>none
def eB:List D->Option (List (List Int))
 |[]=>some []
 |d::r=>match Hm d,eB r with
  |some k,some ks=>some (k::ks)
  |_,_=>none
noncomputable def jf(k:List Int):D:=.tup (k.map .int)
def sv(k:List Int):List (List Int)->List (List Int)
 |[]=>[k]
 |h::t=>if k=h then h::t else if dL k h then k::h::t else h::sv k t
def fO:List (List Int)->List (List Int)
 |[]=>[]
 |k::ks=>sv k (fO ks)
def Ho(N:Nat)(r:R):Res R:=match r.d with
 |.lst ds=>match eB ds with
  |some ks=>if decide (ds.length<=N)&&ks.all (λk=>!k.isEmpty)then .ok (.new ((fO ks).map jf) true)else .stuck
  |none=>.stuck
 |_=>.stuck
def Jt(r:R):Res R:=Ho 63 r
def SN(f:En->Res R):En->Res R:=λenv=>(f env).bind Jt
theorem uO(k x:List Int):∀l,x∈sv k l↔x=k\/x∈l
 |[]=>by simp[sv]
 |h::t=>by
  unfold sv;split
  .rename_i e;subst e;simp
  .split
   .simp
   .rw[US,uO k x t,US]
    grind
theorem Ed(k:List Int):∀l,l.Pairwise (λx y=>dL x y=true)->(sv k l).Pairwise (λx y=>dL x y=true)
 |[],_=>List.pairwise_singleton _ _
 |h::t,p=>by
  obtain⟨p1,p2⟩:=VB.mp p;unfold sv;split
  .exact p
  .rename_i b;split
   .rename_i a;refine VB.mpr ⟨λy c=>?_,p⟩
    grind [uw]
   .rename_i a;refine VB.mpr ⟨λy c=>?_,Ed k t p2⟩
    grind [uO,ux]
theorem jg(x:List Int):∀ks,x∈fO ks↔x∈ks
 |[]=>by simp[fO]
 |k::ks=>by unfold fO;rw[uO,jg x ks,US]
theorem pX:∀ks,(fO ks).Pairwise (λx y=>dL x y=true)
 |[]=>List.Pairwise.nil
 |k::ks=>by unfold fO;exact Ed k _ (pX ks)
def Ee(h:dL a b=true):dL b a=false:=by grind [dL,uw,mV]
theorem mE:∀(a b:List (List Int)),a.Pairwise (λx y=>dL x y=true)->b.Pairwise (λx y=>dL x y=true)->(∀x,x∈a↔x∈b)->a=b
 |[],[],_,_,_=>rfl
 |[],y::b,_,_,h=>by have:=(h y).mpr UW;simp at this
 |x::a,[],_,_,h=>by have:=(h x).mp UW;simp at this
 |x::a,y::b,d,f,h=>by
  obtain⟨g,i⟩:=VB.mp d;obtain⟨j,k⟩:=VB.mp f;have c:x=y:=by
   rcases US.mp ((h x).mp UW)with e|e
   .exact e
   .rcases US.mp ((h y).mpr UW)with e'|e'
    .exact e'.symm
    .have:=Ee (g y e');rw[j x e]at this;cases this
  subst c;rw[mE a b i k λz=>?_]
  grind [mV]
section
theorem IsAll.ints:∀{ds:List D}{vs:List V}{k:List Int},IsAll H m ds vs->hJ ds=some k->vs=(iK k).map kV
 |[],_,_,h,e=>by cases h;cases e;rfl
 |d::ds,_,k,h,e=>by
  obtain⟨v,r,rfl,h1,a⟩:=h;cases d with
  |int i=>unfold hJ at e;obtain⟨b,e1,rfl⟩:=VF.mp e;rw[IsAll.ints a e1,show v=V.int i from h1];rfl
  |_=>cases e
theorem qZ:∀(k:List Int),IsAll H m (k.map .int) ((iK k).map kV)
 |[]=>rfl
 |i::k=>⟨.int i,_,rfl,rfl,qZ k⟩
theorem IsAll.eB:∀{ds:List D}{vs:List V}{ks:List (List Int)},IsAll H m ds vs->L3.eB ds=some ks->∃its:List j3,TupsIn H vs its/\its.map (·.1)=ks
 |[],_,_,h,e=>by cases h;cases e;exact⟨[],.nil,rfl⟩
 |d::ds,_,ks,h,e=>by
  obtain⟨v,r,rfl,h1,b⟩:=h;unfold L3.eB at e;cases q:Hm d with
  |none=>rw[q]at e;cases e
  |some k=>
   cases q2:L3.eB ds with
   |none=>rw[q,q2]at e;cases e
   |some c=>
    rw[q,q2]at e;cases e;obtain⟨its,f,g⟩:=IsAll.eB b q2;cases d with
    |tup es=>obtain⟨a,ws,rfl,g1,g2⟩:=h1;have q:hJ es=some k:=q;rw[IsAll.ints g2 q]at g1;exact⟨(k,a)::its,.cons ⟨rfl,g1⟩ f,by grind⟩
    |_=>cases q
end
def yN(t:TupsIn H vs its):vs.length=its.length:=by
 unfold TupsIn at t;induction t with
 |nil=>rfl
 |cons _ _ a=>rw[U1,U1,a]
def tV(t:TupsIn H vs its):∀x∈its,H x.2=some (.tup ((iK x.1).map kV)):=by
 unfold TupsIn at t;induction t with
 |nil=>exact λx hx=>nomatch hx
 |cons q _ a=>
  intro x hx;rcases US.mp hx with rfl|hx
  .exact q.2
  .exact a x hx
theorem kR:∀{a:List j3},(∀y∈a,H y.2=some (.tup ((iK y.1).map kV)))->IsAll H m (a.map (jf ∘ λy=>y.1)) (a.map λy=>.ref y.2)
 |[],_=>rfl
 |y::a,h=>⟨.ref y.2,_,rfl,⟨y.2,_,rfl,h y UW,qZ y.1⟩,kR λz hz=>h z (UT _ hz)⟩
section
def sA(hN:N<=300)(I:mW X.prog X.w N)(hc:X.calm=true)(hu:X.A.units+64<cLine)(h:PD X E e f)
 (J:Gl X x1) (K:X.mg x1=none) (L:bootBuiltins x1=some (.builtin "sorted")) (O:Gl X x2) (P:X.mg x2=none) (R:bootBuiltins x2=some (.type "set"))
 (S:autoParam (x1≠"__name__") ab) (o:autoParam (dB x1) ab) (T:autoParam (x2≠"__name__") ab) (q:autoParam (dB x2) ab)
 (s:autoParam (starEach [e] X.env=(false,eval e X.env)::starEach [] X.env) aM) (u:autoParam (bT X pos2 []) aM)
 (B:autoParam (starEach [.Call (.Name x2 p2) [e] [] pos2] X.env=(false,eval (.Call (.Name x2 p2) [e] [] pos2) X.env)::starEach [] X.env) aM) (C:autoParam (bT X pos1 []) aM) :
 PD X E (.Call (.Name x1 p1) [.Call (.Name x2 p2) [e] [] pos2] [] pos1) (λenv=>(f env).bind (Ho N)):=by
 obtain⟨t,p1,s1⟩:=h;refine⟨_,dv (uy hc hN I) J K L (aj (n_ (Ba hc hu) O P R (aj p1 aH s) T q s u) aH B) S o B C,λg M ρ env σ H Q U p=>?_⟩;refine s1.fK U p λr v M1 D e1 i i1 q1=>?_;unfold Ho at q1;cases qd:r.d with
 |lst ds=>
  rw[qd]at q1 i1;dsimp only at q1;cases V:eB ds with
  |none=>rw[V]at q1;exact q1.elim
  |some ks=>
   rw[V]at q1;dsimp only at q1;by_cases c:(decide (ds.length<=N)&&ks.all (λk=>!k.isEmpty))=true
   .rw[UP c]at q1;simp only[Vi,V8,VJ]at c;obtain⟨m,W⟩:=c;obtain⟨a,vs,rfl,h1,h2⟩:=i1.rd;obtain⟨its,Y,t2⟩:=h2.eB V;have F:vs.length<=N:=by rw[h2.length];exact m
    have n:=tV Y;refine⟨a,vs,its,rfl,h1,Y,Vf F hN,λb es hb v=>?_⟩;refine⟨b,es,its,rfl,ag,v,λx j=>?_,λx j z=>?_,by rw[<- yN Y];exact F,λl ys m so=>?_⟩
    .rw[af (av (n x j) hb)];exact n x j
    .have:x.1∈ks:=by rw[<- t2];exact UY.mpr ⟨x,j,rfl⟩
     have:=W _ this;rw[z]at this;simp at this
    .have Z:l≠b:=λz=>by rw[z,ag]at m;cases m
     have G:D l=none:=by rw[af Z]at m;exact m
     have sm1:Same D (aP D b (.ext λh=>SetAt X.w h b es)):=aQ hb;have sm2:Same (aP D b (.ext λh=>SetAt X.w h b es)) (aP (aP D b (.ext λh=>SetAt X.w h b es)) l (.lst (ys.map λy=>.ref y.2))):=aQ m;have sm:=sm1.trans sm2;obtain⟨z0,zm,zo⟩:=i.free G;refine q1 _ M1 _ ⟨λ_ z=>z,sm,λ_ z=>.inl z⟩ (i.grow sm) ⟨l,_,rfl,ag,zm,G,zo,?_⟩;have ek:ys.map (·.1)=fO ks:=by
      refine mE _ _ ?_ (pX ks) λk=>?_
      .rw[WS];exact so.pw
      .rw[jg,<- t2];constructor
       .intro hk;obtain⟨y,hy,rfl⟩:=UY.mp hk;exact UY.mpr ⟨y,so.sub y hy,rfl⟩
       .intro hk;obtain⟨x,j,rfl⟩:=UY.mp hk;obtain⟨y,y1,y2⟩:=so.all x j;exact UY.mpr ⟨y,y1,y2⟩
     rw[<- ek,Vb];exact kR (λx j=>sm _ _ (n x (so.sub x j)))
   .rw[UV c]at q1;exact q1.elim
 |_=>rw[qd]at q1;exact q1.elim
def uP(r:X.calm=true)(s:X.A.units+64<cLine)(h:PD X E e f)
 (g:Gl X x1) (i:X.mg x1=none) (j:bootBuiltins x1=some (.builtin "sorted")) (k:Gl X x2) (l:X.mg x2=none) (m:bootBuiltins x2=some (.type "set"))
 (n:autoParam (x1≠"__name__") ab) (a:autoParam (dB x1) ab) (o:autoParam (x2≠"__name__") ab) (b:autoParam (dB x2) ab)
 (p:autoParam (starEach [e] X.env=(false,eval e X.env)::starEach [] X.env) aM) (c:autoParam (bT X pos2 []) aM)
 (q:autoParam (starEach [.Call (.Name x2 p2) [e] [] pos2] X.env=(false,eval (.Call (.Name x2 p2) [e] [] pos2) X.env)::starEach [] X.env) aM) (d:autoParam (bT X pos1 []) aM) :
 PD X E (.Call (.Name x1 p1) [.Call (.Name x2 p2) [e] [] pos2] [] pos1) (SN f):=sA (Nat.le_of_ble_eq_true rfl) zP r s h g i j k l m n a o b p c q d
end
section
mutual
theorem Is.view(f:∀a vs,H a=some (.lst vs)->H' a=some (.lst vs))(g:∀a o vs,H a=some (.ba o (.lst vs))->H' a=some (.ba o (.lst vs)))(i:∀a vs,H a=some (.tup vs)->H' a=some (.tup vs))(hd:∀a u,iZ u->Rd H a u->Rd H' a u)(b:∀a,m a->m' a):∀{d:D}{v:V},Is H m d v->Is H' m' d v
 |.bv,_,h=>h
 |.bl _,_,h=>h
 |.int _,_,h=>h
 |.str _,_,h=>h
 |.tup ds,_,h=>by obtain⟨a,vs,e,h1,c⟩:=h;exact⟨a,vs,e,i a _ h1,IsAll.view f g i hd b c⟩
 |.lst ds,_,h=>by
  obtain⟨a,vs,e,h1,c⟩:=h;refine⟨a,vs,e,?_,IsAll.view f g i hd b c⟩;rcases h1 with⟨h1,j⟩|⟨o,h1,j⟩
  .exact .inl ⟨f a _ h1,b a j⟩
  .exact .inr ⟨o,g a o _ h1,b a j⟩
 |.dZ ks ds,_,h=>by obtain⟨a,vs,e,h1,c⟩:=h;refine⟨a,vs,e,⟨?_,b a h1.2⟩,IsAll.view f g i hd b c⟩;exact h1.1.imp (λ⟨kvs,e,r⟩=>⟨kvs,hd a _ tI_ e,r⟩) λ⟨kvs,e,r⟩=>⟨kvs,hd a _ tI_ e,r⟩
theorem IsAll.view(b:∀a vs,H a=some (.lst vs)->H' a=some (.lst vs))(c:∀a o vs,H a=some (.ba o (.lst vs))->H' a=some (.ba o (.lst vs)))(f:∀a vs,H a=some (.tup vs)->H' a=some (.tup vs))(hd:∀a u,iZ u->Rd H a u->Rd H' a u)(g:∀a,m a->m' a):∀{ds:List D}{vs:List V},IsAll H m ds vs->IsAll H' m' ds vs
 |[],_,h=>h
 |d::ds,_,h=>by obtain⟨v,r,e,h1,i⟩:=h;exact⟨v,r,e,Is.view b c f hd g h1,IsAll.view b c f hd g i⟩
end
mutual
theorem IsSh.view(c:∀a vs,H a=some (.lst vs)->H' a=some (.lst vs))(f:∀a vs,H a=some (.tup vs)->H' a=some (.tup vs)):∀{d:D}{v:V},IsSh H m d v->IsSh H' m d v
 |.bv,_,h=>h
 |.bl _,_,h=>h
 |.int _,_,h=>h
 |.str _,_,h=>h
 |.tup ds,_,h=>by obtain⟨a,vs,e,h1,b⟩:=h;exact⟨a,vs,e,f a _ h1,IsShs.view c f b⟩
 |.lst ds,_,h=>by obtain⟨a,vs,e,h1,b⟩:=h;exact⟨a,vs,e,c a _ h1,b⟩
 |.dZ _ _,_,h=>h
theorem IsShs.view(b:∀a vs,H a=some (.lst vs)->H' a=some (.lst vs))(c:∀a vs,H a=some (.tup vs)->H' a=some (.tup vs)):∀{ds:List D}{vs:List V},IsShs H m ds vs->IsShs H' m ds vs
 |[],_,h=>h
 |d::ds,_,h=>by obtain⟨v,r,e,h1,f⟩:=h;exact⟨v,r,e,IsSh.view b c h1,IsShs.view b c f⟩
end
end
section
variable{g:Gd}{M:Addr->Prop}{ρ:Pr}{env:En}{σ:St}{H:Hp}{d:Addr}{o:Obj}{u:HO}
open Classical in
def hV(g:Gd)(d:Addr)(o:Obj)(u:HO):Gd:=⟨if g.H₀ d=none then g.H₀ else aP g.H₀ d (.ba o u),g.Ma,λa=>g.Z a\/a=d,g.root,g.RE⟩
def ng(a:b≠d):(hV g d o u).H₀ b=g.H₀ b:=by
 unfold hV;dsimp only;split
 .rfl
 .exact af a
def cU(b:Addr):(hV g d o u).H₀ b=none↔g.H₀ b=none:=by
 by_cases a:b=d
 .subst a;unfold hV;dsimp only;split
  .exact Iff.rfl
  .rename_i h;rw[ag];exact⟨λz=>(by cases z),λz=>(h z).elim⟩
 .rw[ng a]
def Hq(h:g.H₀ d≠none):(hV g d o u).H₀ d=some (.ba o u):=by unfold hV;dsimp only;rw[UV h,ag]
def tW(b:iZ u)(hd:H d=some u):(∀a vs,H a=some (.lst vs)->a≠d)/\(∀a o vs,H a=some (.ba o (.lst vs))->a≠d)/\∀a vs,H a=some (.tup vs)->a≠d:=by refine⟨λa vs e z=>?_,λa o vs e z=>?_,λa vs e z=>?_⟩<;>(subst z;rw[hd]at e;cases e;exact b)
def msk_still:gm (hV g d o u) M fr a↔gm g M fr a:=by unfold gm;rw[cU]
def Rep.xR(c:Rep g M ρ env σ H)(hd:H d=some u)(r:iZ u)(s:M d):Rep (hV g d o u) M ρ env σ (aP H d (.ba o u)):=by
 obtain⟨k1,k2,k3⟩:=tW r hd;have l:∀a vs,H a=some (.lst vs)->aP H d (.ba o u) a=some (.lst vs):=λa vs e=>by rw[af (k1 a vs e)];exact e
 have n:∀a j vs,H a=some (.ba j (.lst vs))->aP H d (.ba o u) a=some (.ba j (.lst vs)):=λa j vs e=>by rw[af (k2 a j vs e)];exact e
 have m:∀a vs,H a=some (.tup vs)->aP H d (.ba o u) a=some (.tup vs):=λa vs e=>by rw[af (k3 a vs e)];exact e
 have p:∀a u',iZ u'->Rd H a u'->Rd (aP H d (.ba o u)) a u':=λa u' t e=>by
  by_cases ha:a=d
  .subst ha;rcases e with e|⟨j,e⟩
   .rw[hd]at e;cases e;exact .inr ⟨o,ag⟩
   .rw[hd]at e;cases e;exact r.elim
  .exact oo e λj q=>by rw[af ha];exact q
 have pn:∀i a,ρ i a->a≠d:=λi a h z=>(c.ci i a h).1 (z▸s);refine⟨λb x e=>?_,λa ha=>?_,λa ha=>(c.vx a ha).imp (cU a).mpr id,λa ha w=>?_,λi sl e=>?_,λi a h=>?_,c.apart,c.ow,c.len,λa z=>?_⟩
 .by_cases f:b=d
  .subst f;have y:g.H₀ b≠none:=λz=>by rw[(cU b).mpr z]at e;cases e
   rw[Hq y]at e;cases e;exact ag
  .rw[ng f]at e;rw[af f];exact c.same b x e
 .by_cases f:a=d
  .rw[f,ag];simp
  .rw[af f];exact c.jY a ha
 .by_cases f:a=d
  .rw[f];exact .inr ⟨.inr rfl,o,u,ag⟩
  .rcases c.fl a ha ((cU a).mp w)with q|⟨q,j,u',e⟩
   .exact .inl (q.same λj e=>by rw[af f];exact e)
   .exact .inr ⟨.inl q,j,u',by rw[af f];exact e⟩
 .obtain⟨v,A,k⟩:=c.slot i sl e;refine⟨v,A,?_⟩;cases sl with
  |val d' fr=>exact Is.view l n m p (λa z=>msk_still.mpr z) k
  |own ds fr=>obtain⟨a,vs,rfl,h1,B,C⟩:=k;exact⟨a,vs,rfl,l _ _ h1,B,IsAll.view l n m p (λa z=>msk_still.mpr z) C⟩
  |l7 d'=>exact Is.view l n m p (λa z=>z) k
  |Cp d'=>exact IsSh.view l m k
 .obtain⟨q1,q2,D⟩:=c.ci i a h;exact⟨q1,(cU a).mpr q2,D.same λj e=>by rw[af (pn i a h)];exact e⟩
 .by_cases f:a=d
  .rw[f,ag];simp
  .rw[af f];exact c.zz a (z.resolve_right f)
def Rep.Ja(c:Rep (hV g d o u) M ρ env σ H)(hd:H d=some (.ba o u))(t:iZ u)(w:M d)(y:∀x,g.H₀ d=some x->x=u):Rep g M ρ env σ (aP H d u):=by
 have A:∀a vs,H a=some (.lst vs)->a≠d:=λa vs e z=>by subst z;rw[hd]at e;cases e
 have B:∀a j vs,H a=some (.ba j (.lst vs))->a≠d:=λa j vs e z=>by subst z;rw[hd]at e;cases e;exact t
 have C:∀a vs,H a=some (.tup vs)->a≠d:=λa vs e z=>by subst z;rw[hd]at e;cases e
 have m:∀a vs,H a=some (.lst vs)->aP H d u a=some (.lst vs):=λa vs e=>by rw[af (A a vs e)];exact e
 have p:∀a j vs,H a=some (.ba j (.lst vs))->aP H d u a=some (.ba j (.lst vs)):=λa j vs e=>by rw[af (B a j vs e)];exact e
 have n:∀a vs,H a=some (.tup vs)->aP H d u a=some (.tup vs):=λa vs e=>by rw[af (C a vs e)];exact e
 have r:∀a u',iZ u'->Rd H a u'->Rd (aP H d u) a u':=λa u' s e=>by
  by_cases ha:a=d
  .subst ha;rcases e with e|⟨j,e⟩
   .rw[hd]at e;cases e;exact s.elim
   .rw[hd]at e;cases e;exact .inl ag
  .exact oo e λj q=>by rw[af ha];exact q
 have l:Mu (aP H d u) d:=⟨u,ag,by cases u<;>first|exact tI_|exact t.elim⟩;have pn:∀i a,ρ i a->a≠d:=λi a h z=>(c.ci i a h).1 (z▸w);refine⟨λb x e=>?_,λa ha=>?_,λa ha=>(c.vx a ha).imp (cU a).mp id,λa ha D=>?_,λi sl e=>?_,λi a h=>?_,c.apart,c.ow,c.len,λa z=>?_⟩
 .by_cases f:b=d
  .subst f;rw[y x e,ag]
  .rw[af f];exact c.same b x (by rw[ng f];exact e)
 .by_cases f:a=d
  .rw[f];exact l.some
  .rw[af f];exact c.jY a ha
 .by_cases f:a=d
  .rw[f];exact .inl l
  .rcases c.fl a ha ((cU a).mpr D)with q|⟨q,j,u',e⟩
   .exact .inl (q.same λj e=>by rw[af f];exact e)
   .exact .inr ⟨q.resolve_right f,j,u',by rw[af f];exact e⟩
 .obtain⟨v,E,k⟩:=c.slot i sl e;refine⟨v,E,?_⟩;cases sl with
  |val d' fr=>exact Is.view m p n r (λa z=>msk_still.mp z) k
  |own ds fr=>obtain⟨a,vs,rfl,h1,F,G⟩:=k;exact⟨a,vs,rfl,m _ _ h1,F,IsAll.view m p n r (λa z=>msk_still.mp z) G⟩
  |l7 d'=>exact Is.view m p n r (λa z=>z) k
  |Cp d'=>exact IsSh.view m n k
 .obtain⟨q1,q2,I⟩:=c.ci i a h;exact⟨q1,(cU a).mp q2,I.same λj e=>by rw[af (pn i a h)];exact e⟩
 .by_cases f:a=d
  .rw[f];exact l.some
  .rw[af f];exact c.zz a (.inl z)
end
def kD:bH->D
 |.inl i=>.int i
 |.inr x=>.str x
def O7(k:bH):Is H m (kD k) (kV k):=by cases k<;>exact rfl
noncomputable def O8(t:List (bH×D)):D:=.dZ (t.map λp=>.inl p.1) (t.map Prod.snd)
section
def REK(H:Hp)(m:Addr->Prop):List (bH×V)->List (bH×D)->Prop:=Paired λa b=>a.1=b.1/\Is H m b.2 a.2
theorem REK.fst(r:REK H m a b):a.map Prod.fst=b.map Prod.fst:=by
 induction r with
 |nil=>rfl
 |cons h _ c=>rw[UR,UR,c,h.1]
theorem REK.snd(r:REK H m a b):IsAll H m (b.map Prod.snd) (a.map Prod.snd):=by
 induction r with
 |nil=>rfl
 |cons h _ c=>exact⟨_,_,rfl,h.2,c⟩
def Hr{b:Addr}{u:HO}{kvs:List (bH×V)}{t:List (bH×D)}(e:H b=some (.dK kvs))(r:REK H m kvs t)(a:m b):Is H m (O8 t) (.ref b):=by refine⟨b,_,rfl,⟨.inl ⟨kvs,.inl e,?_,rfl⟩,a⟩,r.snd⟩;have:=Wo (List.map λk:bH=>(Sum.inl k:DK)) r.fst;rw[Vb,Vb]at this;exact this.symm
end
section
def Rep.NQ(c:Rep g M ρ env σ H)(h:H b=some u)(j:¬i6 u)(l:¬M b)(no:∀i,¬ρ i b)(x:g.H₀ b=none):Rep g M ρ env σ (aP H b u'):=by
 have kp:∀a o,H a=some o->(M a\/i6 o)->aP H b u' a=some o:=λa o e z=>by
  rw[af]
  .exact e
  .rintro rfl;rcases z with z|z
   .exact l z
   .rw[h]at e;cases e;exact j z
 have n:∀i a o,H a=some o->(ρ i a\/i6 o)->aP H b u' a=some o:=λi a o e z=>by
  rw[af]
  .exact e
  .rintro rfl;rcases z with z|z
   .exact no i z
   .rw[h]at e;cases e;exact j z
 have ne:∀a,M a->a≠b:=λa z e=>l (e▸z);have f:∀i a,ρ i a->a≠b:=λi a z e=>no i (e▸z);refine⟨λa o e=>?_,λa z=>by rw[af (ne a z)];exact c.jY a z,c.vx,λa z q=>(c.fl a z q).same λo e=>by grind,λi sl e=>?_,λi a z=>?_,c.apart,c.ow,c.len,λa z e=>?_⟩
 .rw[af (λz=>by grind)];exact c.same a o e
 .obtain⟨v,p,k⟩:=c.slot i sl e;refine⟨v,p,?_⟩;cases sl with
  |val d fr=>exact Is.mono (λa o e z=>kp a o e (z.imp (·.1) id)) (λ_ _ _ z=>z) k
  |own ds fr=>obtain⟨a,vs,rfl,h1,m,r⟩:=k;exact⟨a,vs,rfl,by rw[af (f i a ((m a).mpr rfl))];exact h1,m,IsAll.mono (λa o e z=>kp a o e (z.imp (·.1) id)) (λ_ _ _ z=>z) r⟩
  |l7 d=>exact Is.mono (λa o e z=>n i a o e z) (λ_ _ _ z=>z) k
  |Cp d=>exact IsSh.mono (λa o e z=>kp a o e (.inr z)) (λa vs z e=>⟨vs,by grind⟩) (λ_ z=>z) k
 .obtain⟨s,t,w⟩:=c.ci i a z;exact⟨s,t,w.same λo e=>by grind⟩
 .by_cases ha:a=b
  .subst ha;rw[ag]at e;cases e
  .rw[af ha]at e;exact c.zz a z e
def q5(rk a:R):Res R:=match DZ rk.d with
 |some k=>if a.d.flat then .ok (.jm (O8 [(k,a.d)]))else .stuck
 |none=>.stuck
def Ef{k v:Expr}{fk r:En->Res R}{G:Pos}(V:PD X E k fk)(W:PD X E v r):PD X E (.Dict [some k] [v] G) (v2 q5 fk r):=by
 obtain⟨tk,p1,s1⟩:=V;obtain⟨tv,p2,s2⟩:=W;refine⟨_,GA (C2 p1 p2 Gz) rfl rfl (by simp) (by simp),λg M s env σ H Q i p b D=>?_⟩;have sm:Same H (aP H b (.dK [])):=aQ D;obtain⟨Y,Z,S⟩:=i.free D;have p:PostE X.mg E g M s env σ H Q ((fk env).bind λrk=>(r env).bind λq=>q5 rk q):=p;refine s1 g M s env σ _ _ (i.grow sm) ?_;cases I:fk env with
 |stuck=>rw[I]at p;exact p
 |exc c=>rw[I]at p;exact p
 |ok rk=>
  rw[I]at p;have p:PostE X.mg E g M s env σ H Q ((r env).bind λq=>q5 rk q):=p;intro x M1 H1 e1 t J;obtain⟨K,x1,x1m,f,L⟩:=J.is t e1 (i.grow sm).same;refine s2 g K s env σ H1 _ f ?_;cases qv:r env with
  |stuck=>rw[qv]at p;exact p
  |exc c=>rw[qv]at p;exact p
  |ok q=>
   rw[qv]at p;have p:PostE X.mg E g M s env σ H Q (q5 rk q):=p;intro y M2 T e2 A N;obtain⟨B,C,x2m,j,O⟩:=N.is A e2 f.same;have l:T b=some (.dK []):=C.h _ _ (x1.h _ _ ag);have U:¬B b:=λz=>by
    rcases C.n b z with z|z
    .rcases x1.n b z with z|z
     .exact Z z
     .rw[ag]at z;cases z
    .rw[x1.h _ _ ag]at z;cases z
   unfold q5 at p;cases P:DZ rk.d with
   |none=>rw[P]at p;exact p.elim
   |some k=>
    rw[P]at p;dsimp only at p;by_cases F:q.d.flat=true
    .rw[UP F]at p;have hx:x=kV k:=L.key P;refine⟨l,[(k,y)],by grind,by simp,?_⟩;have hs:Same H (aP T b (.dK (og [] [(k,y)]))):=λa o e=>by rw[af (av e D)];exact C.h _ _ (x1.h _ _ (sm a o e))
     refine p (.ref b) B _ ⟨λa z=>C.m a (x1.m a z),hs,λa z=>?_⟩ (j.NQ l (λz=>z) U S Y) ⟨λa=>a=b,λa e=>(by subst e;exact⟨U,D,⟨_,ag,tI_⟩,S⟩),Hr (u:=.dK []) ag ?_ rfl⟩
     .rcases C.n a z with z|z
      .exact(x1.n a z).imp id λw=>sm.free w
      .exact .inr (sm.free (x1.h.free z))
     .refine .cons ⟨rfl,Is.flat F (Is.mono (λa o e z=>?_) (λ_ _ _ z=>z) (Is.flat (m':=λ_=>False) F O))⟩ .nil;rw[af]
      .exact e
      .rintro rfl;rw[l]at e;cases e;exact z.elim id id
    .rw[UV F]at p;exact p.elim
end
abbrev R4:=Int×Int×Int
noncomputable def dd(l:List Int)(x:Int):List Int:=if x∈l then l else l++[x]
def O9(xs:List Int):List Int:=xs.foldl dd []
def g1(ts:List R4):List Int:=O9 (ts.map (·.1))
def g2(ts:List R4)(x:Int):List Int:=O9 ((ts.filter λt=>decide (t.1=x)).map (·.2.1))
noncomputable def g3(ts:List R4)(x y:Int):List Int:=(ts.filter λt=>decide (t.1=x)&&decide (t.2.1=y)).map (·.2.2)
noncomputable def ik(i:Int):DK:=.inl (.inl i)
section
def Um(X:Cx)(Q:VK):VK:=λv H=>Q v H\/∃d o u,H d=some (.ba o u)/\iZ u/\(∀o v,X.H₀ d≠some (.ba o v))/\Q v (aP H d u)
def N9(X:Cx)(D:Ends):Ends where
 nx:=λσ H=>D.nx σ H\/∃d o u,H d=some (.ba o u)/\iZ u/\(∀o v,X.H₀ d≠some (.ba o v))/\D.nx σ (aP H d u)
 rt:=Um X D.rt
 bk:=D.bk
 ct:=D.ct
def Eg{st:Stmt}(h:PS X st t):PS X st (λD σ H=>t (N9 X D) σ H):=by
 intro ac s σ H D I q;refine bX (h ac s σ H _ I q) λf j r=>?_;cases f with
 |next=>
  obtain⟨a,H',b,r⟩:=r;rcases r with r|⟨d,o,u,e,c,g,r⟩
  .exact⟨a,H',b,r⟩
  .exact⟨a,_,b.Kc e c g,r⟩
 |ret v=>
  obtain⟨x,a,H',b,i,r⟩:=r;rcases r with r|⟨d,o,u,e,c,g,r⟩
  .exact⟨x,a,H',b,i,r⟩
  .exact⟨x,a,_,b.Kc e c g,i,r⟩
 |brk=>exact r
 |cont=>exact r
end
section
def Is.TR(hd:H d=some (.ba o u))(f:iZ u)(g:∀a,m a->m' a)(h:Is H m x v):Is (aP H d u) m' x v:=by
 refine Is.view (λa vs e=>?_) (λa c vs e=>?_) (λa vs e=>?_) (λa u' b e=>?_) g h
 .rw[af (λz=>by subst z;rw[hd]at e;cases e)];exact e
 .rw[af (λz=>by subst z;rw[hd]at e;cases e;exact f)];exact e
 .rw[af (λz=>by subst z;rw[hd]at e;cases e)];exact e
 .by_cases ha:a=d
  .subst ha;rcases e with e|⟨c,e⟩
   .rw[hd]at e;cases e;exact b.elim
   .rw[hd]at e;cases e;exact .inl ag
  .exact oo e λc q=>by rw[af ha];exact q
def Is.xR(hd:H d=some u)(c:iZ u)(f:∀a,m a->m' a)(h:Is H m x v):Is (aP H d (.ba o u)) m' x v:=by
 obtain⟨k1,k2,k3⟩:=tW c hd;refine Is.view (λa vs e=>?_) (λa b vs e=>?_) (λa vs e=>?_) (λa u' g e=>?_) f h
 .rw[af (k1 a vs e)];exact e
 .rw[af (k2 a b vs e)];exact e
 .rw[af (k3 a vs e)];exact e
 .by_cases ha:a=d
  .subst ha;rcases e with e|⟨b,e⟩
   .rw[hd]at e;cases e;exact .inr ⟨o,ag⟩
   .rw[hd]at e;cases e;exact c.elim
  .exact oo e λb q=>by rw[af ha];exact q
theorem IsAll.AO:∀{ds:List D}{vs:List V}{P:D->V->Prop},(∀x v,Is H m x v->Is H' m' x v)->IsAll H m ds vs->IsAll H' m' ds vs
 |[],_,_,_,h=>h
 |d::ds,_,P,f,h=>by obtain⟨v,r,e,h1,a⟩:=h;exact⟨v,r,e,f _ _ h1,IsAll.AO (P:=P) f a⟩
def Eh(a:Rep g M ρ env σ H1)(b:H1 d=some u):∀x,g.H₀ d=some x->x=u:=λx e=>by have:=a.same d x e;rw[b]at this;cases this;rfl
end
def pG:List DK->List D->Option (List D)
 |[],[]=>some []
 |.inl k::r,x::ds=>(pG r ds).map (.tup [kD k,x]::·)
 |_,_=>none
theorem wK:∀{kvs:List (bH×V)}{ds xs:List D},pG (kvs.map λp=>.inl p.1) ds=some xs->xs.length=kvs.length/\∀(i:Nat)(x:D),xs[i]?=some x->∃p y,kvs[i]?=some p/\ds[i]?=some y/\x=.tup [kD p.1,y]
 |[],[],_,e=>by cases e;exact⟨rfl,λi x e=>by simp at e⟩
 |[],_::_,_,e=>by cases e
 |_::_,[],_,e=>by cases e
 |p::r,y::ds,xs,e=>by
  rw[UR]at e;unfold pG at e;obtain⟨h,e1,rfl⟩:=VF.mp e;obtain⟨l,f⟩:=wK e1;refine⟨by simp[l],λi x ex=>?_⟩;cases i with
  |zero=>simp at ex;subst ex;exact⟨p,y,rfl,rfl,rfl⟩
  |succ i=>obtain⟨d,g,a,b,c⟩:=f i x (by simpa using ex);exact⟨d,g,by simpa using a,by simpa using b,c⟩
def q_(hd:H d=some (.ba o u))(is:IsAll H m ds (kvs.map Prod.snd))(e0:pG (kvs.map λp=>.inl p.1) ds=some xs):Walk (ON d o u kvs) m H xs:=by
 obtain⟨l,f⟩:=wK e0;refine⟨λH' i x k e=>?_,λH' k=>⟨k d _ hd (.inr tI_),by rw[l];exact UN _⟩⟩;have g:i<kvs.length:=by rw[<- l];exact(UQ.mp e).1
 refine⟨⟨k d _ hd (.inr tI_),g⟩,λy h z=>?_⟩;obtain⟨p,a,v,j,rfl,rfl,b⟩:=z;obtain⟨q,w,e1,e2,rfl⟩:=f i x e;rw[b]at e1;cases e1;have s:Same H' (aP H' p (.tup [kV a,v])):=aQ j;obtain⟨r,c,n⟩:=(is.mono k λ_ _ _ z=>z:IsAll H' m ds (kvs.map Prod.snd)).get e2;rw[U7,b]at c;cases c;exact⟨s,p,_,rfl,ag,_,_,rfl,O7 a,_,_,rfl,n.same s,rfl⟩
def BB(h:Is H m (.dZ ks ds) v)(g:∀k∈ks,∃a,k=.inl a):∃d kvs u,v=.ref d/\m d/\(u=.dK kvs\/(u=.dT []/\kvs=[]))/\Rd H d u/\ks=kvs.map (λp=>.inl p.1)/\IsAll H m ds (kvs.map Prod.snd):=by
 obtain⟨d,vs,rfl,⟨c,f⟩,b⟩:=h;rcases c with⟨kvs,e,rfl,rfl⟩|⟨kvs,e,rfl,rfl⟩
 .exact⟨d,kvs,_,rfl,f,.inl rfl,e,rfl,b⟩
 .cases kvs with
  |nil=>exact⟨d,[],_,rfl,f,.inr ⟨rfl,rfl⟩,e,rfl,b⟩
  |cons p r=>obtain⟨a,i⟩:=g (.inr p.1) (by simp);cases i
theorem wL:∀{ks:List DK}{ds xs:List D},pG ks ds=some xs->∀k∈ks,∃a,k=.inl a
 |[],_,_,_,k,h=>by cases h
 |.inl a::r,x::ds,_,e,k,h=>by
  unfold pG at e;obtain⟨y,e1,_⟩:=VF.mp e;rcases US.mp h with h|h
  .exact⟨a,h⟩
  .exact wL e1 k h
 |.inl _::_,[],_,e,_,_=>by cases e
 |.inr _::_,_,_,e,_,_=>by simp[pG]at e
def kT:Res Fl->Res Fl
 |.ok (.nx e)=>.ok (.nx e)
 |.ok (.rt r)=>if r.d.flat then .ok (.rt (.val r.d true []))else .stuck
 |_=>.stuck
def Ae(asg:D->Bool->En->Option En)(a:En->Res Fl)(env:En)(r:R):Res Fl:=match r.d with
 |.dZ ks ds=>match pG ks ds with
  |some xs=>kT (gy asg r.fr a xs (ba env r.al))
  |none=>.stuck
 |_=>.stuck
def Ei(f:En->Res R)(asg:D->Bool->En->Option En)(a:En->Res Fl):En->Res Fl:=λenv=>(f env).bind (Ae asg a env)
section
variable{D:Ends}
def yO(w:Rep g M ρ env σ H)(k:H d=some u)(q:iZ u)(y:M d)(l:∀o v,X.H₀ d≠some (.ba o v))(p:PostS X.mg E g M H D (kT r)):PostS X.mg E (hV g d o u) M (aP H d (.ba o u)) (N9 X D) r:=by
 have F:=Eh w k;have fz:∀{j:Addr->Prop}{H':Hp},l_ M (aP H d (.ba o u)) j H'->l_ M H j (aP H' d u):=λ{j H'} f=>⟨f.m,λa x e z=>by
  by_cases ha:a=d
  .subst ha;rw[k]at e;cases e;exact ag
  .rw[af ha];exact f.h a x (by rw[af ha];exact e) z⟩
 cases r with
 |stuck=>exact p
 |exc c=>exact(show False from p).elim
 |ok r=>
  cases r with
  |nx e=>intro A j B H' f n;have i:H' d=some (.ba o u):=f.h d _ ag (.inl y);exact .inr ⟨d,o,u,i,q,l,p A j B _ (fz f) (n.Ja i q (f.m d y) F)⟩
  |bk e=>exact(show False from p).elim
  |ct e=>exact(show False from p).elim
  |rm r e=>exact(show False from p).elim
  |rt r=>
   unfold kT at p;by_cases t:r.d.flat=true
   .simp only[t,Wl]at p;intro v j H' f s _ fl;have i:H' d=some (.ba o u):=f.h d _ ag (.inl y);have is:∀{m:Addr->Prop},Is (aP H' d u) m r.d v:=λ{m}=>Is.flat t (Is.TR (m':=m) i q (λ_ z=>z.elim) (fl t));refine .inr ⟨d,o,u,i,q,l,p v j _ (fz f) (λb x e=>?_) (λ_=>is) λ_=>is⟩;by_cases C:b=d
    .subst C;rw[F x e];exact ag
    .rw[af C];exact s b x (by rw[ng C];exact e)
   .simp only[t]at p;exact(show False from p).elim
def wM(p:PostS X.mg E g M H D (kT r)):PostS X.mg E g M H (N9 X D) r:=by
 cases r with
 |stuck=>exact p
 |exc c=>exact(show False from p).elim
 |ok r=>
  cases r with
  |nx e=>exact λh i j H' f b=>.inl (p h i j H' f b)
  |bk e=>exact(show False from p).elim
  |ct e=>exact(show False from p).elim
  |rm r e=>exact(show False from p).elim
  |rt r=>
   unfold kT at p;by_cases a:r.d.flat=true
   .simp only[a,Wl]at p;exact λv i H' f s _ fl=>.inl (p v i H' f s (λ_=>Is.flat a (fl a)) λ_=>Is.flat a (fl a))
   .simp only[a]at p;exact(show False from p).elim
def Ej(Q:PassesOwn (model X.prog X.w) X.A X.env X.xe)(R:X.calm=true)
 (S:PD X E l f) (T:F1 X ix (.Tuple es k0 zk) asg) (U:uH X E body fb) (j:autoParam (attributeBase l "items" X.env (eval l X.env)=eval l X.env) aM) (k:autoParam ((apos.endLine==cpos.line)=true) aM)
 (hs:autoParam (∀x,foldedSetIterable (.Call (.Attribute l "items" apos) [] [] cpos) X.env x=pure x) am):zY X E (.For (.Tuple es k0 zk) (.Call (.Attribute l "items" apos) [] [] cpos) body [] pos) (Ei f asg fb):=by
 obtain⟨Z,p1,s1⟩:=S;obtain⟨w,p2,s2⟩:=T;obtain⟨tb,p3,J⟩:=U;refine⟨_,Eg (gS Q R (Dx p1 j k) p2 p3 hs),λg M ρ env σ H D m p=>?_⟩;refine s1.sP m p λr v V B e1 n ro K=>?_;obtain⟨M1,x1,C,h,F⟩:=ro.is n e1 m.same;obtain⟨M2,W,L,e,Y,_,_⟩:=Rep.ba r.al h;have s:Is B (gm g M2 r.fr) r.d v:=Is.frozen h L Y F;have b:=PostS.ba (⟨λa z=>L a (C a z),λ_ _ q _=>q⟩ : l_ V B M2 B) K;clear K p;unfold Ae at b;cases N:r.d with
 |dZ ks ds=>
  rw[N]at b s;dsimp only at b;cases t:pG ks ds with
  |none=>rw[t]at b;exact b.elim
  |some xs=>
   rw[t]at b;dsimp only at b;obtain⟨d,kvs,u,rfl,y,O,c,rfl,i⟩:=BB s (wL t);have y:M2 d:=y.1;have G:iZ u:=by rcases O with rfl|⟨rfl,_⟩<;>exact tI_
   refine⟨d,kvs,u,rfl,O,?_⟩;rcases c with c|⟨o,c⟩
   .right;refine⟨c,λo I=>qX (E:=E) (g:=hV g d o u) (fr:=r.fr) (xs:=xs) s2 J (e.xR c G y) (q_ ag ?_ t) (yO e c G y I b)⟩;exact IsAll.AO (P:=λ_ _=>True) (λx w=>Is.xR c G λ_ z=>msk_still.mpr z) i
   .left;exact⟨o,c,qX (E:=E) (g:=g) (fr:=r.fr) (xs:=xs) s2 J e (q_ c i t) (wM b)⟩
 |_=>rw[N]at b;exact b.elim
end
open Classical in
section
def pY(rs:List R):Res R:=match rs.map R.d with
 |[.int j]=>if 0<=j/\j<=1000 then .ok (.new (dg 0 j.toNat) true)else .stuck
 |_=>.stuck
def BC(q:X.calm=true)(f:Gl X "list") (h:X.mg "list"=none) (i:bootBuiltins "list"=some (.type "list")) (s:Gl X "range") (u:X.mg "range"=none) (ha:Cr X E [a] fs) (hs:autoParam (starEach [a] X.env=[(false,eval a X.env)]) aM)
 (m:autoParam (starEach [.Call (.Name "range" p2) [a] [] pos2] X.env=[(false,eval (.Call (.Name "range" p2) [a] [] pos2) X.env)]) aM):PD X E (.Call (.Name "list" p) [.Call (.Name "range" p2) [a] [] pos2] [] pos) (lu pY fs):=by
 obtain⟨t,p1,s1⟩:=ha;refine⟨_,Be q f h i s u p1 hs m,λg M z env σ H Q n p=>s1.fK n p λrs vs M1 A e1 b o q1=>?_⟩;unfold pY at q1;generalize rs.map R.d=ds at o q1;split at q1
 .rename_i j;obtain⟨v,w,rfl,k1,k2⟩:=o;cases k1;cases k2;by_cases c:0<=j/\j<=1000
  .rw[UP c]at q1;refine⟨j,rfl,c.1,c.2,λl x=>?_⟩;have e:((List.range j.toNat).map λk=>(V.int (k:Nat)))=((List.range j.toNat).map λ(k:Nat)=>(V.int (0+(k:Nat)))):=V1 λk _=>by grind
   rw[e];refine q1.new b x ?_;unfold dg;generalize List.range j.toNat=l0;induction l0 with
   |nil=>exact rfl
   |cons k r y=>exact⟨_,_,rfl,rfl,y⟩
  .rw[UV c]at q1;exact q1.elim
 .exact q1.elim
def yP(a e f:R):Res R:=match e,f with
 |.new b _,.new c _=>if a.d.flat/\D.be b=true/\D.be c=true then .ok (.jm (.tup [a.d,.lst b,.lst c]))else .stuck
 |_,_=>.stuck
def SO(a b c:En->Res R):En->Res R:=λenv=>(a env).bind λd=>(b env).bind λe=>(c env).bind λf=>yP d e f
def O_(V:PD X E e0 f0)(h1:PD X E e1 f1)(W:PD X E e2 f2)(v:autoParam (starEach [e0,e1,e2] X.env=(false,eval e0 X.env)::starEach [e1,e2] X.env) aM)(x:autoParam (starEach [e1,e2] X.env=(false,eval e1 X.env)::starEach [e2] X.env) aM)(y:autoParam (starEach [e2] X.env=(false,eval e2 X.env)::starEach [] X.env) aM):PD X E (.Tuple [e0,e1,e2] k pos) (SO f0 f1 f2):=by
 obtain⟨t0,Y,s0⟩:=V;obtain⟨t1,p1,s1⟩:=h1;obtain⟨t2,p2,s2⟩:=W;refine⟨_,dj (aj Y (aj p1 (aj p2 aH y) x) v),λg M A env σ H Q B p=>?_⟩;have p:PostE X.mg E g M A env σ H Q ((f0 env).bind λC=>(f1 env).bind λF=>(f2 env).bind λG=>yP C F G):=p;refine s0.fK B p λC R Z S x0 q i0 f=>?_;refine s1 g Z A env σ S _ q ?_;cases l:f1 env with
 |stuck=>rw[l]at f;exact f
 |exc c=>rw[l]at f;exact f
 |ok F=>
  rw[l]at f;intro v1 M1 T x1 r I;refine s2 g M1 A env σ T _ r ?_;simp only[Res.iV]at f;cases m:f2 env with
  |stuck=>rw[m]at f;exact f
  |exc c=>rw[m]at f;exact f
  |ok G=>
   rw[m]at f;simp only[Res.iV]at f;intro v2 M2 J s t K;unfold yP at f;cases F with
   |val d fr al=>exact f.elim
   |jm d=>exact f.elim
   |new d1 fr1=>
    cases G with
    |val d fr al=>exact f.elim
    |jm d=>exact f.elim
    |new d2 fr2=>
     dsimp only at f;by_cases L:C.d.flat=true/\D.be d1=true/\D.be d2=true
     .rw[UP L]at f;obtain⟨c0,c1,c2⟩:=L;obtain⟨i,U,rfl,g1,g2,g3,g4,g5⟩:=I;obtain⟨o,w2,rfl,k1,k2,k3,k4,k5⟩:=K;refine⟨by show 3<=sizeLine;decide,λb hb=>?_⟩;have j:Same J (aP J b (.tup [R,.ref i,.ref o])):=aQ hb;have u:J i=some (.lst U):=s.h _ _ g1;have N:¬M2 i:=λz=>(s.n i z).elim g2 λw=>by grind
      have O:S i=none:=g3;have P:T o=none:=k3;have n12:i≠o:=λe=>by grind
      refine f (.ref b) M2 _ ((x1.trans s).trans ⟨λ_ z=>z,j,λ_ z=>.inl z⟩) (t.grow j) ⟨λa=>a=i\/a=o,λa z=>?_,b,_,rfl,ag,R,_,rfl,Is.flat c0 ((((i0.same x1.h).same s.h)).same j),.ref i,_,rfl,⟨i,U,rfl,.inl ⟨j _ _ u,.inl rfl⟩,IsAll.flat c1 ((g5.same s.h).same j)⟩,.ref o,_,rfl,⟨o,w2,rfl,.inl ⟨j _ _ k1,.inr rfl⟩,IsAll.flat c2 (k5.same j)⟩,rfl⟩;rcases z with rfl|rfl
      .exact⟨N,O,⟨_,j _ _ u,tI_⟩,g4⟩
      .exact⟨k2,x1.h.free P,⟨_,j _ _ k1,tI_⟩,k4⟩
     .rw[UV L]at f;exact f.elim
def j5(i:Nat)(f:En->Res R):En->Res Fl:=λenv=>(f env).bind λr=>if i<env.length then .ok (.nx ((ba env r.al).set i (some (.val r.d r.fr))))else .stuck
def dw(w:X.N.Nodup)(c:X.N[i]?=some x)(y:Kp X.env.scope x)(h:PD X E e f)(hs:autoParam (swapsWith e (some (.Name x pos')) pos.line X.env=pure false) aM)
 (A:autoParam (X.fn x=true\/X.env.scope.names.lookup x=some .local) ae):zY X E (.Assign [.Name x pos'] e pos) (j5 i f):=by
 obtain⟨t,p1,s1⟩:=h;refine⟨_,jq w c y p1 hs A,λg M G env σ H D j p=>?_⟩;refine s1.sP j p λr v I H' e k ro n=>?_;by_cases c:i<env.length
 .rw[UP c]at n;obtain⟨M2,J,o,b,s⟩:=ro.is k e j.same;obtain⟨B,C,u,l,F,_,_⟩:=Rep.ba r.al b;have m:=l.put (i:=i) (sl:=.val r.d r.fr) (T:=λ_=>False) (by rw[uK];exact c) (Is.frozen b u F s) (λ_ z=>z.elim) λ_ z=>z.elim;exact n _ B _ H' ⟨λa z=>u a (o a z),λ_ _ q _=>q⟩ m
 .rw[UV c]at n;exact n.elim
def qv(i:Nat)(a:autoParam (X.N[i]?=some x) aM)(b:autoParam (RU X.env.scope x) YE._auto_1)(hd:autoParam (dB x) ab)
 (c:autoParam ((x==("__classdict__" : Str))=false) ab):PD X E (.Name x pos) (ao i):=Le (pv i a b hd c)
end
end L3
namespace L3
open PySem PySem.Spec PyProof.Rows L2
section
def Ek:R->R->Res R:=oI (λi j=>decide (0<=j)&&decide (j<=1000)&&decide (i.natAbs<2000000)) λi j=>.int (i^j.toNat)
def El:pR X E (binaryOp .Pow) Ek:=tL _ _ KD (λi j h=>by simp only[Vi,V8]at h;exact⟨h.1.1,by lia,Nat.lt_trans h.2 (by decide)⟩) λ_ _ _ _=>rfl
end
section
def Af(a b:Str):Prop:=0<b.length/\a.length<=100000/\(Txt.split a b).length<=100000/\(Builtin.Str.partsBetween a (Builtin.Str.occurrences a b 0 a.length (a.length+1)) b.length).length<=100000
instance (a b:Str):Decidable (Af a b):=by unfold Af;infer_instance
end
open Classical in
section
def vW{kvs:List (bH×V)}(h:c9 kvs k=none):cj kvs k y=kvs++[(k,y)]:=by unfold cj;rw[kq,h,UV (by simp)]
end
section
open Classical in
end
noncomputable def rf(k:Int):List Int->List Int
 |[]=>[k]
 |h::t=>if k=h then h::t else if k<h then k::h::t else h::rf k t
def jh:List Int->List Int
 |[]=>[]
 |k::ks=>rf k (jh ks)
def Em(r:R):Res R:=match r.d with
 |.lst ds=>match hJ ds with
  |some is=>if is.length<=63 then .ok (.new ((jh is).map .int) true)else .stuck
  |none=>.stuck
 |_=>.stuck
def LD(f:En->Res R):En->Res R:=λenv=>(f env).bind Em
theorem rg(k x:Int):∀l,x∈rf k l↔x=k\/x∈l
 |[]=>by simp[rf]
 |h::t=>by
  unfold rf;split
  .rename_i e;subst e;simp
  .split
   .simp
   .rw[US,rg k x t,US]
    grind
theorem Ag(k:Int):∀l:List Int,l.Pairwise (·< ·)->(rf k l).Pairwise (·< ·)
 |[],_=>by simp[rf]
 |h::t,p=>by
  have a:=VB.mp p;unfold rf;split
  .exact p
  .split
   .rename_i h1 b;refine VB.mpr ⟨λx c=>?_,p⟩
    grind
   .rename_i h1 b;refine VB.mpr ⟨λx c=>?_,Ag k t a.2⟩
    grind [rg]
theorem oF(x:Int):∀ks,x∈jh ks↔x∈ks
 |[]=>Iff.rfl
 |k::ks=>by unfold jh;rw[rg,oF x ks,US]
theorem wN:∀ks,(jh ks).Pairwise (·< ·)
 |[]=>List.Pairwise.nil
 |k::ks=>by unfold jh;exact Ag k _ (wN ks)
theorem pq:∀(a b:List Int),a.Pairwise (·< ·)->b.Pairwise (·< ·)->(∀x,x∈a↔x∈b)->a=b
 |[],[],_,_,_=>rfl
 |[],y::b,_,_,h=>by have:=(h y).mpr (by simp);cases this
 |x::a,[],_,_,h=>by have:=(h x).mp (by simp);cases this
 |x::a,y::b,f,g,h=>by
  have c:=VB.mp f;have d:=VB.mp g;have e:x=y:=by
   have h1:=(h x).mp (by simp);have i:=(h y).mpr (by simp)
   grind
  subst e;rw[pq a b c.2 d.2 λz=>?_]
  grind
section
def sB(P:X.calm=true)(h:PD X E e f)
 (y:Gl X x1) (A:X.mg x1=none) (B:bootBuiltins x1=some (.builtin "sorted")) (C:Gl X x2) (D:X.mg x2=none) (F:bootBuiltins x2=some (.type "set"))
 (G:autoParam (x1≠"__name__") ab) (j:autoParam (dB x1) ab) (I:autoParam (x2≠"__name__") ab) (k:autoParam (dB x2) ab)
 (m:autoParam (starEach [e] X.env=(false,eval e X.env)::starEach [] X.env) aM) (n:autoParam (bT X pos2 []) aM)
 (o:autoParam (starEach [.Call (.Name x2 p2) [e] [] pos2] X.env=(false,eval (.Call (.Name x2 p2) [e] [] pos2) X.env)::starEach [] X.env) aM) (q:autoParam (bT X pos1 []) aM) :
 PD X E (.Call (.Name x1 p1) [.Call (.Name x2 p2) [e] [] pos2] [] pos1) (LD f):=by
 obtain⟨t,p1,s1⟩:=h;refine⟨_,dv (sq P) y A B (aj (n_ (yB P) C D F (aj p1 aH m) I k m n) aH o) G j o q,λg M ρ env σ H Q J p=>?_⟩;refine s1.fK J p λr v M1 s e1 i R q1=>?_;unfold Em at q1;cases S:r.d with
 |lst ds=>
  rw[S]at q1 R;dsimp only at q1;cases K:hJ ds with
  |none=>rw[K]at q1;exact q1.elim
  |some is=>
   rw[K]at q1;dsimp only at q1;by_cases x:is.length<=63
   .rw[UP x]at q1;obtain⟨a,vs,rfl,h1,U⟩:=R.rd;have W:vs=is.map V.int:=by rw[IsAll.ints U K];unfold iK;rw[Vb];rfl
    rw[W]at h1;refine⟨a,is,rfl,h1,by lia,λb es its Y T v=>?_⟩;rw[<- T,UO]at x;refine⟨b,es,its,rfl,ag,v,x,λl ks c Z hw=>?_⟩;rw[T]at Z;have L:l≠b:=λz=>by rw[z,ag]at c;cases c
    have u:s l=none:=by rw[af L]at c;exact c
    have N:Same s (aP s b (.ext λh=>SetAt X.w h b es)):=aQ Y;have O:Same (aP s b (.ext λh=>SetAt X.w h b es)) (aP (aP s b (.ext λh=>SetAt X.w h b es)) l (.lst (ks.map V.int))):=aQ c;have sm:=N.trans O;obtain⟨z0,zm,zo⟩:=i.free u;refine q1 _ M1 _ ⟨λ_ z=>z,sm,λ_ z=>.inl z⟩ (i.grow sm) ⟨l,_,rfl,ag,zm,u,zo,?_⟩
    grind [jh,pq,wN,oF,mC]
   .rw[UV x]at q1;exact q1.elim
 |_=>rw[S]at q1;exact q1.elim
end
abbrev IP:=Int×Int
noncomputable def dp(l:List IP)(x:IP):List IP:=if x∈l then l else l++[x]
def h1(ts:List R4):List IP:=(ts.map λt=>(t.1,t.2.1)).foldl dp []
end L3
namespace L2
open PySem PySem.Spec PySem.Calls PyProof.Rows
section
def BD:CallR X (.builtin "len") (λxs H Q=>∃(d:Addr)(kvs:List (bH×V))(u:HO),xs=[.ref d]/\(u=.dK kvs\/(u=.dT []/\kvs=[]))/\Rd H d u/\kvs.length<=sizeLine/\Q (.int kvs.length) H):=by
 intro ac s σ H xs us Q I r h;obtain⟨d,kvs,u,rfl,e,b,hz,q⟩:=h;obtain⟨w,rfl,f⟩:=fM r;cases f;have c:=b.ok I.aU;have key:(d==sysModules)=false/\∃vs,KV kvs vs/\s.heap.DictOf (aI X.prog X.w) d vs:=by
  rcases e with rfl|⟨rfl,rfl⟩
  .obtain⟨z,hd,vs,a,dd⟩:=c;exact⟨hd,vs,a,dd⟩
  .obtain⟨hd,dd⟩:=oj c;exact⟨hd,[],.nil,dd⟩
 obtain⟨hd,vs,a,dd⟩:=key;refine call_len_dict hd dd (by rw[<- a.length];rw[Vk]at hz;lia) ?_;exact⟨.int kvs.length,H,I.tok _,⟨_,by rw[a.length]⟩,q⟩
end
end L2
namespace L3
open PySem PySem.Spec PyProof.Rows L2
def Hu(N:Nat):List R->Res R
 |[r]=>match r.d with
  |.lst ds=>match eB ds with
   |some ks=>if decide (ks.length<=N)&&ks.all (λk=>!k.isEmpty)&&decide ks.Nodup then .ok (.new ((fO ks).map jf) true)else .stuck
   |none=>.stuck
  |_=>.stuck
 |_=>.stuck
def Hv:List R->Res R:=Hu 63
section
def wO(y:N<=300)(c:mW X.prog X.w N):lU X E (.builtin "sorted") (Hu N):=by
 refine⟨_,sr y c,λg M A env σ H Q rs vs e i p=>?_⟩;rcases rs with _|⟨r,_|_⟩
 .exact p.elim
 rotate_left
 .exact p.elim
 unfold Hu at p;dsimp only at p;split at p
 .rename_i ds q;cases f:eB ds with
  |none=>rw[f]at p;exact p.elim
  |some ks=>
   rw[f]at p;dsimp only at p;split at p
   .rename_i n;simp only[Vi,V8,VJ]at n;obtain⟨⟨o,h⟩,nd⟩:=n;obtain⟨v,w,rfl,b,B⟩:=i;cases B;have b:Is H (vmsk g M (b5 [r]) A (cO [r])) r.d v:=b;rw[q]at b;obtain⟨a,vs,rfl,h1,C⟩:=b.rd;obtain⟨its,s,t⟩:=C.eB f;have j:=tV s;refine⟨a,vs,its,rfl,h1,s,by grind,λx m z=>?_,by grind,λl D o u G=>?_⟩
    .have:x.1∈ks:=by rw[<- t];exact UY.mpr ⟨x,m,rfl⟩
     have:=h _ this;rw[z]at this;simp at this
    .have F:D.map (·.1)=fO ks:=by refine mE _ _ (by grind) (pX ks) λk=>?_;rw[jg,<- t,(u.map (·.1)).mem_iff]
     rw[<- F,Vb]at p;exact p.new e o (kR (λx m=>j x (u.mem_iff.mp m)))
   .exact p.elim
 .exact p.elim
def aW(h:PE X o (aK i)):PD X E (.Subscript o (.Constant (.int k) j pos') pos) (bz i (vC (.int k))):=i7 h az (λ_ _=>rfl)
def mF:lU X E (.builtin "sorted") Hv:=wO (by decide) zP
end
def LF{K KK:Yy}{mg:Str->Option YA}{x:Str}{st:Stmt}{ps:List Str}{f:Addr}{oc:YA}{od an:Option Addr}{osl:Array (Option YA)}{kV doc pm cdv ct:YA}(U:xN K KK)
 (l:K.lookup f=some ⟨oc,od,.func (fnOf x x (d4 st) (c_ st) (ay st) .none kV doc pm an cdv ct),osl⟩) (c:codeIn K cdv x=true) (g:mg x=some (.ref f))
 (h:∀(kV doc pm:YA)(an:Option Addr)(cdv ct:YA)(us:List YA),us.length=ps.length->bindArgs (fnOf x x (d4 st) (c_ st) (ay st) .none kV doc pm an cdv ct) ⟨us,[]⟩=pure (ps.zip us)) :
 Fn KK mg x st ps f (fnOf x x (d4 st) (c_ st) (ay st) .none kV doc pm an cdv ct):=
 have F:F2 KK x x st f _:=C6 (U.look _ _ l (λ_ _ z=>nomatch z)) (U.code c) (U.keep l)
 ⟨F,F.binds h,g⟩
section
def a_{st:Stmt}(G:bO X.prog X.w X.K X.mg X.base CX k f fd ps (m_ X.mg ps.length F))(c:dR k X.A)(d:Gl X x)(h:Fn X.K X.mg x st ps f fd)(g:gU CX X E)
 (ha:Cr X E (e::es) fs) (i:∀env rs,fs env=.ok rs->rs.length=ps.length) (a:autoParam (dB x) ab) (j:autoParam (sE X e es) aM) (b:autoParam (bT X pos es) aM) :
 PD X E (.Call (.Name x p) (e::es) [] pos) (cb F fs):=G4 G c d h.gl h.fu.kp h.bi g ha i a j b
end
def yQ(h:Is H m (.dZ ks ds) v)(g:∀k∈ks,∃a,k=.inr a):∃d kvs u,v=.ref d/\m d/\(u=.dT kvs\/(u=.dK []/\kvs=[]))/\Rd H d u/\ks=kvs.map (λp=>.inr p.1)/\IsAll H m ds (kvs.map Prod.snd):=by
 obtain⟨d,vs,rfl,⟨c,f⟩,b⟩:=h;rcases c with⟨kvs,e,rfl,rfl⟩|⟨kvs,e,rfl,rfl⟩
 .cases kvs with
  |nil=>exact⟨d,[],_,rfl,f,.inr ⟨rfl,rfl⟩,e,rfl,b⟩
  |cons p r=>obtain⟨a,i⟩:=g (.inl p.1) (by simp);cases i
 .exact⟨d,kvs,_,rfl,f,.inl rfl,e,rfl,b⟩
def eF:List R->Res R
 |[r,q]=>match r.d,q.d with
  |.int i,.int j=>if 0<j/\j<1073741824 then .ok (jy (.tup [.int (i/j),.int (i%j)]) true [])else .stuck
  |_,_=>.stuck
 |_=>.stuck
section
def dU:lU X E (.builtin "divmod") eF:=by
 refine⟨_,vR,λg M n env σ H Q rs vs f i p=>?_⟩;rcases rs with _|⟨r,_|⟨q,_|_⟩⟩
 .exact p.elim
 .exact p.elim
 rotate_left
 .exact p.elim
 obtain⟨v,_,rfl,h,w,_,rfl,j,e⟩:=i;cases e;unfold eF at p;dsimp only at p h j;cases c:r.d with
 |int a=>
  cases k:q.d with
  |int b=>
   rw[c,k]at p;rw[c]at h;rw[k]at j;dsimp only at p;cases h;cases j;by_cases l:0<b/\b<1073741824
   .rw[UP l]at p;exact⟨a,b,rfl,l,λt m=>p.tup f m ⟨_,_,rfl,rfl,_,_,rfl,rfl,rfl⟩⟩
   .rw[UV l]at p;exact p.elim
  |_=>rw[c,k]at p;exact p.elim
 |_=>rw[c]at p;exact p.elim
end
def BE{X:Cx}{E:XK}{st:Stmt}:zY X E st (λ_=>.stuck):=⟨λ_ _ _=>False,λ_ _ _ _ _ _ h=>h.elim,λ_ _ _ _ _ _ _ _ p=>p⟩
end L3
namespace Pz
section
variable{κ α:Type}[DecidableEq κ]
abbrev MD(κ α:Type):=List (κ×List α)
def MD.get(d:MD κ α)(k:κ):List α:=((d.find? λx=>decide (x.1=k)).map (·.2)).getD []
def MD.has(d:MD κ α)(k:κ):Bool:=d.any λx=>decide (x.1=k)
def MD.app(d:MD κ α)(k:κ)(v:α):MD κ α:=if d.has k then d.map (λx=>if x.1=k then(x.1,x.2++[v])else x)else d++[(k,[v])]
def MD.drop(d:MD κ α)(k:κ):MD κ α:=d.filter λx=>decide (x.1≠k)
def MD.flat(d:MD κ α):List α:=d.flatMap (·.2)
abbrev MD.keys(d:MD κ α):List κ:=d.map (·.1)
structure MD.Ok(d:MD κ α):Prop where
 nk:d.keys.Nodup
 ne:∀x∈d,x.2≠[]
theorem cV(x:κ×List α)(d:MD κ α)(k:κ):MD.get (x::d) k=if x.1=k then x.2 else MD.get d k:=by grind [MD.get]
def has_iff{d:MD κ α}{k:κ}:d.has k=true↔k∈d.keys:=by
 unfold MD.has
 grind
def Eo{d:MD κ α}{k:κ}(h:k∉d.keys):d.get k=[]:=by
 induction d with
 |nil=>rfl
 |cons x r a=>grind [cV]
def Hw{d:MD κ α}(nd:d.keys.Nodup){k:κ}{l:List α}(h:(k,l)∈d):d.get k=l:=by
 induction d with
 |nil=>cases h
 |cons x r a=>grind [cV]
def uQ{d:MD κ α}{k:κ}{v:α}(h:v∈d.get k):(k,d.get k)∈d:=by
 induction d with
 |nil=>cases h
 |cons x r a=>grind [cV]
def uR{d:MD κ α}{k:κ}{v:α}(h:k∉d.keys):d.map (λx=>if x.1=k then(x.1,x.2++[v])else x)=d:=by induction d<;>grind
def Ep(d:MD κ α)(k:κ)(v:α):(d.app k v).keys=if k∈d.keys then d.keys else d.keys++[k]:=by
 unfold MD.app;by_cases h:k∈d.keys
 .rw[UP (has_iff.mpr h),UP h];unfold MD.keys;rw[Vb];exact V1 λx _=>by grind
 .rw[UV (λq=>h (has_iff.mp q)),UV h];unfold MD.keys;rw[VO];rfl
def oG{d:MD κ α}(O:d.Ok)(k:κ)(v:α):(d.app k v).Ok:=by
 constructor
 .rw[Ep];split
  .exact O.nk
  .rename_i h;exact WR.mpr ⟨O.nk,by simp,λa ha b g e=>by grind⟩
 .intro x c;unfold MD.app at c;split at c
  .obtain⟨y,f,rfl⟩:=UY.mp c;split
   .simp
   .exact O.ne y f
  .rcases U4.mp c with h|h
   .exact O.ne x h
   .rw[U5]at h;subst h;simp
def pH{d:MD κ α}{k:κ}{l:List α}(h:k∉d.keys):MD.get (d++[(k,l)]) k=l:=by
 grind [MD.get]
def sC{d:MD κ α}{k a:κ}{l:List α}(h:k≠a):MD.get (d++[(k,l)]) a=d.get a:=by
 grind [MD.get]
def uS{d:MD κ α}{k:κ}{v:α}(h:k∈d.keys):MD.get (d.map (λx=>if x.1=k then(x.1,x.2++[v])else x)) k=d.get k++[v]:=by
 induction d with
 |nil=>cases h
 |cons x r a=>
  rw[UR,cV,cV];by_cases e:x.1=k
  .rw[UP e,UP (show x.1=k from e),UP e]
  .rw[UV e,UV e,UV e];rcases US.mp h with q|q
   .exact(e q.symm).elim
   .exact a q
def yR{d:MD κ α}{k a:κ}{v:α}(h:k≠a):MD.get (d.map (λx=>if x.1=k then(x.1,x.2++[v])else x)) a=d.get a:=by
 induction d with
 |nil=>rfl
 |cons x r b=>grind [cV]
theorem pZ(d:MD κ α)(k:κ)(v:α)(a:κ):(d.app k v).get a=if k=a then d.get k++[v]else d.get a:=by
 unfold MD.app;by_cases h:k∈d.keys
 .rw[UP (has_iff.mpr h)];by_cases e:k=a
  .subst e;rw[UP rfl,uS h]
  .rw[UV e,yR e]
 .rw[UV (λq=>h (has_iff.mp q))];by_cases e:k=a
  .subst e;rw[UP rfl,pH h,Eo h];rfl
  .rw[UV e,sC e]
def gg{d:MD κ α}(nd:d.keys.Nodup)(k:κ)(v:α):(d.app k v).flat.Perm (v::d.flat):=by
 unfold MD.app;by_cases h:k∈d.keys
 .rw[UP (has_iff.mpr h)];induction d with
  |nil=>cases h
  |cons x r b=>
   have a:=Vu.mp nd;unfold MD.flat at b ⊢;rw[UR,Xb,Xb];by_cases e:x.1=k
   .subst e;rw[UP rfl,uR a.1];show((x.2++[v])++_).Perm _;rw[Xa];exact Yq
   .rw[UV e];rcases US.mp h with q|q
    .exact(e q.symm).elim
    .exact((WD _).append (b a.2 q)).trans Yq
 .rw[UV (λq=>h (has_iff.mp q))];unfold MD.flat;rw[Xm];show(_++([v]++[])).Perm _;rw[W5];exact List.perm_append_singleton _ _
def BF(d:MD κ α)(k:κ):(d.drop k).keys=d.keys.filter λx=>decide (x≠k):=by unfold MD.drop MD.keys;rw[List.filter_map];rfl
def Ah{d:MD κ α}(O:d.Ok)(k:κ):(d.drop k).Ok:=⟨by rw[BF];exact List.Pairwise.filter _ O.nk,λx a=>O.ne x (Vd.mp a).1⟩
theorem BH{d:MD κ α}{k:κ}(h:k∉d.keys):d.drop k=d:=by induction d<;>grind [MD.drop]
def oH{d:MD κ α}(nd:d.keys.Nodup)(k:κ):d.flat.Perm (d.get k++(d.drop k).flat):=by
 induction d with
 |nil=>exact WD _
 |cons x r b=>
  have a:=Vu.mp nd;rw[cV];by_cases e:x.1=k
  .subst e;rw[UP rfl];have:MD.drop (x::r) x.1=r:=by grind [MD.drop,BH]
   rw[this];exact WD _
  .rw[UV e];have:MD.drop (x::r) k=x::MD.drop r k:=by grind [MD.drop]
   rw[this];unfold MD.flat at b ⊢;rw[Xb,Xb];refine((WD _).append (b a.2)).trans ?_;rw[<- Xa,<- Xa];exact List.perm_append_comm.append_right _
def mem_flat{d:MD κ α}{v:α}:v∈d.flat↔∃x∈d,v∈x.2:=Yr
def nh(d:MD κ α){k:κ}{v:α}(h:v∈d.get k):v∈d.flat:=mem_flat.mpr ⟨_,uQ h,h⟩
def p6(d:MD κ α)(k:κ):(d.get k).length<=d.flat.length:=by
 induction d with
 |nil=>exact UN _
 |cons x r a=>grind [cV,MD.flat]
def jC{d:MD κ α}(O:d.Ok):d.length<=d.flat.length:=by
 have:∀d:MD κ α,(∀x∈d,x.2≠[])->d.length<=d.flat.length:=by
  intro d;induction d with
  |nil=>intro _;exact UN _
  |cons x r a=>
   intro h;have h1:=a λy b=>h y (UT _ b);have c:0<x.2.length:=Xn.mpr (h x UW);unfold MD.flat at h1 ⊢
   grind
 exact this d O.ne
end
end Pz
namespace Pz
noncomputable def lo:List Int->Int
 |[]=>0
 |x::r=>r.foldl (λa b=>if b<a then b else a) x
theorem yS:∀(r:List Int)(x:Int),r.foldl (λa b=>if b<a then b else a) x∈x::r/\∀y∈x::r,r.foldl (λa b=>if b<a then b else a) x<=y
 |[],x=>by grind
 |z::r,x=>by
  obtain⟨h1,c⟩:=yS r (if z<x then z else x);rw[Wu];constructor
  .grind
  .intro y d;have e:=c _ UW
   grind
def Er(h:l≠[]):lo l∈l:=by
 cases l with
 |nil=>exact(h rfl).elim
 |cons x r=>exact(yS r x).1
def Es(h:y∈l):lo l<=y:=by
 cases l with
 |nil=>cases h
 |cons x r=>exact(yS r x).2 y h
structure vD(pile:Int->Int->Int):Prop where
 nn:∀{p l:Int},0<=p->0<=l->0<=pile p l
 ch:∀{p l:Int},0<=p->0<=l->∀k:Nat,pile p l<=k↔p/2^k=l/2^k
section
variable(P:vD pile)
include P
def vD.zero(a:0<=p)(b:0<=l):pile p l=0↔p=l:=by
 have h1:=P.nn a b;have c:=P.ch a b 0
 grind
def vD.lt(a:0<=l)(f:l<=p)(c:l<=r)(h:pile p l<pile r l):p<r:=by
 have d:0<=p:=WM a f;have g:0<=r:=WM a c;obtain⟨k,j⟩:=We (P.nn d a);have e1:=(P.ch d a k).mp (by lia);have e2:¬r/2^k=l/2^k:=λe=>by have:=(P.ch g a k).mpr e;lia
 have b:(0:Int)<2^k:=Int.pow_pos (by decide);have e3:=Int.ediv_le_ediv b c;refine Int.not_le.mp λi=>?_;have e4:=Int.ediv_le_ediv b i;lia
def vD.same(c:0<=l)(f:l<=m)(g:l<=r)(h:pile m l<pile r l):pile r m=pile r l:=by
 have m0:0<=m:=WM c f;have d:0<=r:=WM c g;have key:∀j:Nat,pile r m<=j↔pile r l<=j:=by
  intro j;rw[P.ch d m0,P.ch d c];by_cases n:pile m l<=j
  .rw[(P.ch m0 c j).mp n]
  .have hd:∀{a b:Int}{i:Nat},a/2^j=b/2^j->a/2^(j+i)=b/2^(j+i):=by intro a b i e;rw[Int.pow_add,<- Int.ediv_ediv_of_nonneg (Xp (Int.pow_pos (by decide))),<- Int.ediv_ediv_of_nonneg (Xp (Int.pow_pos (by decide))),e]
   obtain⟨k,o⟩:=We (P.nn m0 c);obtain⟨i,rfl⟩ : ∃i,k=j+i:=⟨k-j,by lia⟩;constructor<;>intro e<;>exfalso
   .have e1:=hd (i:=i) e;rw[(P.ch m0 c (j+i)).mp (by lia)]at e1;have:=(P.ch d c (j+i)).mpr e1;lia
   .have:=(P.ch d c j).mpr e;lia
 obtain⟨a,ha⟩:=We (P.nn d m0);obtain⟨b,p⟩:=We (P.nn d c);have h1:=key a;have q:=key b;lia
end
section
variable{α:Type}
abbrev Q(α:Type):=MD Int (Int×α)
structure xX(pile:Int->Int->Int) (last:Int) (d:Q α):Prop where
 ok:d.Ok
 l0:0<=last
 at_:∀x∈d,∀y∈x.2,x.1=pile y.1 last/\last<=y.1
def xX.add(h:xX pile last d)(a:α)(b:last<=p):xX pile last (d.app (pile p last) (p,a)):=by
 refine⟨oG h.ok _ _,h.l0,λx hx y hy=>?_⟩;unfold MD.app at hx;split at hx
 .obtain⟨z,hz,rfl⟩:=UY.mp hx;by_cases e:z.1=pile p last
  .rw[UP e]at hy ⊢;rcases U4.mp hy with hy|hy
   .exact h.at_ z hz y hy
   .rw[U5]at hy;subst hy;exact⟨e,b⟩
  .rw[UV e]at hy ⊢;exact h.at_ z hz y hy
 .rcases U4.mp hx with hx|hx
  .exact h.at_ x hx y hy
  .grind
def dt(pile:Int->Int->Int)(last:Int)(d:Q α)(l:List (Int×α)):Q α:=l.foldl (λd x=>d.app (pile x.1 last) x) d
theorem xX.dt:∀{l:List (Int×α)}{d:Q α},xX pile last d->(∀x∈l,last<=x.1)->xX pile last (dt pile last d l)
 |[],d,h,_=>h
 |x::l,d,h,a=>xX.dt (l:=l) (h.add x.2 (a x UW)) λy b=>a y (UT _ b)
theorem kU:∀{l:List (Int×α)}{d:Q α},d.Ok->(dt pile last d l).flat.Perm (l++d.flat)
 |[],d,h=>WD _
 |x::l,d,h=>(kU (l:=l) (oG h _ _)).trans (((WD _).append (gg h.nk _ _)).trans Yq)
def ck(d:Q α):Int:=lo d.keys
def lowP(d:Q α):Int:=lo ((d.get (ck d)).map (·.1))
def mid(pile:Int->Int->Int)(d:Q α):Q α:=dt pile (lowP d) (d.drop (ck d)) (d.get (ck d))
def eG(pile:Int->Int->Int)(d:Q α):List (Int×α):=(mid pile d).get 0
def left(pile:Int->Int->Int)(d:Q α):Q α:=(mid pile d).drop 0
structure NO(pile:Int->Int->Int) (last:Int) (d:Q α):Prop where
 ge:last<=lowP d
 ok:xX pile (lowP d) (left pile d)
 eq:∀x∈eG pile d,x.1=lowP d
 lt:∀x∈(left pile d).flat,lowP d<x.1
 pm:d.flat.Perm (eG pile d++(left pile d).flat)
 ne:eG pile d≠[]
 k1:ck d∈d.keys
 k2:d.get (ck d)≠[]
 k3:0∈(mid pile d).keys
 o1:xX pile (lowP d) (d.drop (ck d))
def BI(P:vD pile)(h:xX pile last d)(m:d≠[]):NO pile last d:=by
 have k1:ck d∈d.keys:=Er (by simpa[MD.keys]using m);obtain⟨n,f,o⟩:=UY.mp k1;have t:d.get (ck d)=n.2:=Hw h.ok.nk (by grind);have k2:d.get (ck d)≠[]:=by rw[t];exact h.ok.ne n f
 have v:lowP d∈(d.get (ck d)).map (·.1):=Er (by simpa using k2);obtain⟨u,p,w⟩:=UY.mp v;have cN:∀y∈d.get (ck d),ck d=pile y.1 last/\last<=y.1:=λy b=>by rw[t]at b;have:=h.at_ n f y b;rw[o]at this;exact this
 have l:last<=lowP d:=by grind
 have l0:0<=lowP d:=WM h.l0 l;have kP:pile (lowP d) last=ck d:=by grind
 have g:∀y∈d.get (ck d),lowP d<=y.1:=λy b=>Es (UY.mpr ⟨y,b,rfl⟩);have i:∀x∈d.drop (ck d),∀y∈x.2,x.1=pile y.1 (lowP d)/\lowP d<y.1:=λx a y b=>by
  obtain⟨a,c⟩:=Vd.mp a;have c:x.1≠ck d:=VN c;have z:ck d<=x.1:=Es (UY.mpr ⟨x,a,rfl⟩);obtain⟨e1,e2⟩:=h.at_ x a y b;have j:pile (lowP d) last<pile y.1 last:=by grind
  exact⟨e1.trans (P.same h.l0 l e2 j).symm,P.lt h.l0 l e2 j⟩
 have o1:xX pile (lowP d) (d.drop (ck d)):=⟨Ah h.ok _,l0,λx a y b=>⟨(i x a y b).1,Xp (i x a y b).2⟩⟩;have k:xX pile (lowP d) (mid pile d):=o1.dt g;have q:d.flat.Perm (mid pile d).flat:=(oH h.ok.nk _).trans (kU o1.ok).symm;have r:(mid pile d).flat.Perm (eG pile d++(left pile d).flat):=oH k.ok.nk 0;have eq:∀x∈eG pile d,x.1=lowP d:=λx a=>by have:=k.at_ _ (uQ a) x a;exact(P.zero (WM l0 this.2) l0).mp this.1.symm
 have lt:∀x∈(left pile d).flat,lowP d<x.1:=λx a=>by obtain⟨y,b,a⟩:=mem_flat.mp a;obtain⟨b,c⟩:=Vd.mp b;have c:y.1≠0:=VN c;obtain⟨e1,e2⟩:=k.at_ y b x a;have:¬x.1=lowP d:=λe=>c (e1.trans ((P.zero (WM l0 e2) l0).mpr e));lia
 have s:u∈eG pile d:=by
  have h1:u∈d.flat:=nh d p
  grind
 exact⟨l,⟨Ah k.ok _,l0,λx a=>k.at_ x (Vd.mp a).1⟩,eq,lt,q.trans r,(λe=>by grind),k1,k2,UY.mpr ⟨_,uQ s,rfl⟩,o1⟩
end
end Pz
namespace Pz
abbrev bc:=Int×Int×Int
abbrev aV:=Int×Int×Int×List Int
abbrev nX:=Int×Option Int×Option Int
abbrev TD:=List (bc×nX)
noncomputable def bL(t:TD)(a:bc):Option nX:=(t.find? λx=>decide (x.1=a)).map (·.2)
def tput(t:TD)(a:bc)(v:nX):TD:=if(bL t a).isSome then t.map (λx=>if x.1=a then(x.1,v)else x)else t++[(a,v)]
structure PS where
 told:TD
 last:Int
 aF:Q bc
 settled:MD (Int×Int) (Int×Int)
 aJ:MD (Int×Int) (Int×aV×Int)
abbrev RS:=MD (Int×Int) (Int×aV)
section
variable(pile:Int->Int->Int)(rs:RS)
def ji(S:PS)(a:bc)(p:Int):Bool:=match bL S.told a with
 |none=>true
 |some v=>decide (p<v.1)
def kW(S:PS)(a:bc)(p:Int)(n m:Option Int):PS:={S with told:=tput S.told a (p,n,m),aF:=S.aF.app (pile p S.last) (p,a)}
def bb(S:PS)(a:bc)(p:Int)(n m:Option Int):PS:=if ji S a p then kW pile S a p n m else S
def nth1(l:List Int):Int:=l[1]?.getD 0
def uT(S:PS)(b:Int)(r:aV)(mid a:Int):PS:={S with aJ:=S.aJ.app (mid,nth1 r.2.2.2) (b,r,a)}
def first(S:PS)(b:Int)(r:aV)(mid a:Int):PS:=(S.settled.get (mid,nth1 r.2.2.2)).foldl (λS x=>bb pile S (r.1,r.2.1,x.1) (a+x.2+1) (some b) (some mid)) (uT S b r mid a)
def note(S:PS)(a:bc)(b:Int):PS:={S with settled:=S.settled.app (a.1,a.2.1) (a.2.2,b)}
def px(a:bc)(b:Int)(S:PS)(x:Int×aV×Int):PS:=bb pile S (x.2.1.1,x.2.1.2.1,a.2.2) (x.2.2+b+1) (some x.1) (some a.1)
def cL(a:bc)(b:Int)(S:PS)(x:Int×aV):PS:=if x.2.2.2.2.length=1 then bb pile S (x.2.1,x.2.2.1,a.2.2) (b+1) (some x.1) none else first pile S x.1 x.2 a.2.2 b
def settle(S:PS)(a:bc)(b:Int):PS:=(rs.get (a.1,a.2.1)).foldl (cL pile a b) ((S.aJ.get (a.1,a.2.1)).foldl (px pile a b) (note S a b))
def N_(S:PS)(x:Int×bc):Bool:=match bL S.told x.2 with
 |none=>false
 |some v=>decide (v.1=x.1)
def turn(S:PS)(x:Int×bc):PS:=if N_ S x then settle pile rs S x.2 x.1 else S
def batch(S:PS)(l:List (Int×bc)):PS:=l.foldl (turn pile rs) S
def take(S:PS):PS:={S with last:=lowP S.aF,aF:=left pile S.aF}
end
def L:Nat:=16000000
structure lZ(S:PS):Prop where
 t:S.told.length<L
 p:S.aF.length<L
 pf:S.aF.flat.length<L
 s:S.settled.length<L
 sf:S.settled.flat.length<L
 l:S.aJ.length<L
 lf:S.aJ.flat.length<L
inductive Loop(pile:Int->Int->Int) (rs:RS):Nat->PS->PS->Prop where
 |done {S:PS}:S.aF=[]->Loop pile rs 0 S S
 |step {n:Nat} {S T:PS}:S.aF≠[]->xX pile S.last S.aF->(∀x∈eG pile S.aF,bL S.told x.2≠none)->lZ S->lZ (batch pile rs (take pile S) (eG pile S.aF))->
  Loop pile rs n (batch pile rs (take pile S) (eG pile S.aF)) T->Loop pile rs (n+1) S T
theorem dW(x:bc×nX)(t:TD)(a:bc):bL (x::t) a=if x.1=a then some x.2 else bL t a:=by grind [bL]
def tget_none:bL t a=none↔a∉t.map (·.1):=by
 induction t with
 |nil=>simp[bL]
 |cons x r b=>grind [dW]
def nu(h:bL t a=some v):(a,v)∈t:=by
 induction t with
 |nil=>cases h
 |cons x r b=>grind [dW]
def rh(nd:(t.map (·.1)).Nodup)(h:(a,v)∈t):bL t a=some v:=by
 induction t with
 |nil=>cases h
 |cons x r b=>grind [dW]
def BJ(t:TD)(a:bc)(v:nX):(tput t a v).map (·.1)=if a∈t.map (·.1)then t.map (·.1)else t.map (·.1)++[a]:=by
 unfold tput;cases h:bL t a with
 |none=>rw[UV (by simp),UV (tget_none.mp h),VO];rfl
 |some w=>have:a∈t.map (·.1):=UY.mpr ⟨_,nu h,rfl⟩;rw[UP (by simp),UP this,Vb];exact V1 λx _=>by grind
def Hx(h:(t.map (·.1)).Nodup)(a:bc)(v:nX):((tput t a v).map (·.1)).Nodup:=by
 rw[BJ];split
 .exact h
 .rename_i q;exact WR.mpr ⟨h,by simp,λx d b c e=>by rw[U5]at c;subst c;subst e;exact q d⟩
def wQ(t:TD)(a:bc)(v:nX):t.length<=(tput t a v).length/\(tput t a v).length<=t.length+1:=by
 unfold tput;split
 .rw[UO];lia
 .rw[Vc];simp
def jj(t:TD)(a:bc)(v:nX)(b:bc):bL (tput t a v) b=if a=b then some v else bL t b:=by
 unfold tput;cases h:bL t a with
 |none=>
  rw[UV (by simp)];have f:=tget_none.mp h;clear h;induction t with
  |nil=>rw[List.nil_append,dW]
  |cons x r c=>grind [dW]
 |some w=>
  rw[UP (by simp)];have d:a∈t.map (·.1):=UY.mpr ⟨_,nu h,rfl⟩;clear h;by_cases e:a=b
  .subst e;rw[UP rfl];induction t with
   |nil=>cases d
   |cons x r c=>grind [dW]
  .rw[UV e];clear d;induction t with
   |nil=>rfl
   |cons x r c=>grind [dW]
structure gK(S T:PS):Prop where
 t:S.told.length<=T.told.length
 p:S.aF.length<=T.aF.length
 pf:S.aF.flat.length<=T.aF.flat.length
 s:S.settled.length<=T.settled.length
 sf:S.settled.flat.length<=T.settled.flat.length
 l:S.aJ.length<=T.aJ.length
 lf:S.aJ.flat.length<=T.aJ.flat.length
def gK.refl(S:PS):gK S S:=by
 grind [PS,gK]
def gK.trans(a:gK S T)(b:gK T U):gK S U:=⟨Vf a.t b.t,Vf a.p b.p,Vf a.pf b.pf,Vf a.s b.s,Vf a.sf b.sf,Vf a.l b.l,Vf a.lf b.lf⟩
def gK.fit(a:gK S T)(h:lZ T):lZ S:=⟨VQ a.t h.t,VQ a.p h.p,VQ a.pf h.pf,VQ a.s h.s,VQ a.sf h.sf,VQ a.l h.l,VQ a.lf h.lf⟩
def gz{κ α:Type}[DecidableEq κ](d:MD κ α)(k:κ)(v:α):d.length<=(d.app k v).length/\d.flat.length<=(d.app k v).flat.length:=by
 unfold MD.app;split
 .rw[UO];refine⟨UN _,?_⟩;unfold MD.flat;rw[List.length_flatMap,List.length_flatMap,Vb];induction d with
  |nil=>exact UN _
  |cons x r a=>
   rename_i h;clear h;rw[UR,UR,Ym,Ym];refine Nat.add_le_add ?_ ?_
   .simp only[Function.comp];split<;>simp
   .clear a;induction r with
    |nil=>exact UN _
    |cons y r a=>rw[UR,UR,Ym,Ym];exact Nat.add_le_add (by simp only[Function.comp];split<;>simp) a
 .rw[Vc];unfold MD.flat;rw[Xm,Vc];lia
theorem cu{a:Type}(f:PS->a->PS)(h:∀S x,gK S (f S x)):∀(l:List a)(S:PS),gK S (l.foldl f S)
 |[],S=>.refl S
 |x::l,S=>(h S x).trans (cu f h l _)
def cg(S:PS)(a:bc)(p:Int)(n m:Option Int):gK S (bb pile S a p n m):=by
 unfold bb;split
 .exact⟨(wQ _ _ _).1,(gz _ _ _).1,(gz _ _ _).2,UN _,UN _,UN _,UN _⟩
 .exact .refl S
def yT(S:PS)(b:Int)(r:aV)(mid a:Int):gK S (first pile S b r mid a):=gK.trans (T:=uT S b r mid a) ⟨UN _,UN _,UN _,UN _,UN _,(gz _ _ _).1,(gz _ _ _).2⟩ (cu _ (λS x=>cg S _ _ _ _) _ _)
def mG(a:bc)(b:Int)(S:PS)(x:Int×aV):gK S (cL pile a b S x):=by
 unfold cL;split
 .exact cg _ _ _ _ _
 .exact yT _ _ _ _ _
def wR(S:PS)(a:bc)(b:Int):gK S (settle pile rs S a b):=(gK.trans (S:=S) (T:=note S a b) ⟨UN _,UN _,UN _,(gz _ _ _).1,(gz _ _ _).2,UN _,UN _⟩ (cu (px pile a b) (λS x=>cg S _ _ _ _) _ _)).trans (cu _ (mG a b) _ _)
def BK(S:PS)(x:Int×bc):gK S (turn pile rs S x):=by
 unfold turn;split
 .exact wR _ _ _
 .exact .refl S
theorem kX{b:Type}(f:PS->b->PS){a:bc}(h:∀S x,bL S.told a≠none->bL (f S x).told a≠none):∀(l:List b)(S:PS),bL S.told a≠none->bL (l.foldl f S).told a≠none
 |[],S,k=>k
 |x::l,S,k=>kX f h l _ (h S x k)
def ri(h:bL S.told b≠none):bL (bb pile S a p n m).told b≠none:=by
 unfold bb;split
 .show bL (tput _ _ _) _≠none;rw[jj];split
  .simp
  .exact h
 .exact h
def Et(h:bL S.told b≠none):bL (cL pile a p S x).told b≠none:=by
 unfold cL;split
 .exact ri h
 .exact kX _ (λS x k=>ri k) _ _ (show bL (uT S _ _ _ _).told b≠none from h)
def Hy(h:bL S.told b≠none):bL (turn pile rs S x).told b≠none:=by
 unfold turn;split
 .exact kX _ (λS x k=>Et k) _ _ (kX (px pile _ _) (λS x k=>ri k) _ _ (show bL (note S _ _).told b≠none from h))
 .exact h
end Pz
namespace Pz
def Sd(S:PS)(a:bc)(q:Int):Prop:=(a.2.2,q)∈S.settled.get (a.1,a.2.1)
def lX(S:PS)(a:bc)(p:Int):Prop:=∃v,bL S.told a=some v/\v.1<=p
def JustP(sd:bc->Int->Prop)(c:Int)(put:List Int)(t p:Int)(m:Option Int):Prop:=match put with
 |[]=>m=none/\p=1/\t=c
 |[x]=>m=none/\∃q,sd (c,x,t) q/\p=q+1
 |[x,y]=>∃d q1 q2,m=some d/\sd (c,x,d) q1/\sd (d,y,t) q2/\p=q1+q2+1
 |_=>False
def JustP.mono(h:∀a q,sd a q->sd' a q)(j:JustP sd c put t p m):JustP sd' c put t p m:=by
 match put,j with
 |[],j=>exact j
 |[x],⟨e,q,s,e2⟩=>exact⟨e,q,h _ _ s,e2⟩
 |[x,y],⟨d,q1,q2,e,s1,s2,e2⟩=>exact⟨d,q1,q2,e,h _ _ s1,h _ _ s2,e2⟩
section
variable(RL:List aV)(M:List bc)
def Just(sd:bc->Int->Prop)(a:bc)(v:nX):Prop:=match v.2.1 with
 |none=>v.2.2=none/\v.1=0/\a∈M
 |some i=>∃(j:Nat)(r:aV),i=j/\RL[j]?=some r/\a.1=r.1/\a.2.1=r.2.1/\JustP sd r.2.2.1 r.2.2.2 a.2.2 v.1 v.2.2
theorem Just.mono(h:∀a q,sd a q->sd' a q)(j:Just RL M sd a v):Just RL M sd' a v:=by
 obtain⟨p,n,m⟩:=v;cases n with
 |none=>exact j
 |some i=>obtain⟨k,r,e1,e2,e3,e4,j⟩:=j;exact⟨k,r,e1,e2,e3,e4,j.mono h⟩
structure B(pile:Int->Int->Int) (U:List bc) (S:PS) (rest:List (Int×bc)):Prop where
 q:xX pile S.last S.aF
 nd:S.aF.flat.Nodup
 nr:rest.Nodup
 tk:(S.told.map (·.1)).Nodup
 tu:∀a v,bL S.told a=some v->a∈U
 ju:∀a v,bL S.told a=some v->Just RL M (Sd S) a v
 ps:∀a v,bL S.told a=some v->0<=v.1
 sd:∀a p,Sd S a p->p<=S.last/\∃v,bL S.told a=some v/\v.1=p
 sp:∀a v,bL S.told a=some v->Sd S a v.1\/(v.1,a)∈S.aF.flat\/(v.1,a)∈rest
 it:∀p a,(p,a)∈S.aF.flat\/(p,a)∈rest->lX S a p
 ns:∀p a,(p,a)∈S.aF.flat\/(p,a)∈rest->¬Sd S a p
 m0:∀a v,bL S.told a=some v->a∈M->v=(0,none,none)
end
def wU(h:¬ji S a p=true):lX S a p:=by
 grind [ji,lX]
def hZ(h:ji S a p=true)(e:bL S.told a=some v):p<v.1:=by unfold ji at h;rw[e]at h;exact VN h
def lA(a:bc)(p:Int)(n m:Option Int):lX (bb pile S a p n m) a p:=by
 unfold bb;by_cases h:ji S a p=true
 .rw[UP h];exact⟨(p,n,m),by show bL (tput _ _ _) _=_;rw[jj,UP rfl],Int.le_refl _⟩
 .rw[UV h];exact wU h
def jD(h:lX S b q):lX (bb pile S a p n m) b q:=by
 unfold bb;by_cases k:ji S a p=true
 .rw[UP k];obtain⟨v,e,c⟩:=h;by_cases e2:a=b
  .subst e2;exact⟨(p,n,m),by show bL (tput _ _ _) _=_;rw[jj,UP rfl],Xp (Int.lt_of_lt_of_le (hZ k e) c)⟩
  .exact⟨v,by show bL (tput _ _ _) _=_;rw[jj,UV e2];exact e,c⟩
 .rw[UV k];exact h
def jE(a:bc)(p:Int)(n m:Option Int):(bb pile S a p n m).settled=S.settled/\(bb pile S a p n m).aJ=S.aJ/\(bb pile S a p n m).last=S.last:=by unfold bb;split<;>exact⟨rfl,rfl,rfl⟩
def yU(h:S.aF.Ok)(a:bc)(p:Int)(n m:Option Int)(b:x∈(bb pile S a p n m).aF.flat):x∈S.aF.flat\/x=(p,a):=by
 unfold bb at b;split at b
 .rcases US.mp ((gg h.nk _ _).mem_iff.mp b)with e|e
  .exact .inr e
  .exact .inl e
 .exact .inl b
def tX(h:S.aF.Ok)(a:bc)(p:Int)(n m:Option Int):(bb pile S a p n m).aF.flat.length<=S.aF.flat.length+1:=by
 unfold bb;split
 .exact Ys (gg h.nk _ _).length_eq
 .lia
theorem B.bb(b:B RL M pile U S rest)(i:Just RL M (Sd S) a (p,n,m))(j:a∈U)(f:S.last<=p)(r:(p,a)∉rest)(hs:¬Sd S a p)
 (l:a∈M->lX S a 0\/(p,n,m)=(0,none,none)):B RL M pile U (bb pile S a p n m) rest:=by
 unfold Pz.bb;by_cases k:ji S a p=true
 .rw[UP k];have s:∀c q,Sd (kW pile S a p n m) c q↔Sd S c q:=λc q=>Iff.rfl;have tg:∀c,bL (kW pile S a p n m).told c=if a=c then some (p,n,m)else bL S.told c:=λc=>jj _ _ _ _;have pf:=gg b.q.ok.nk (pile p S.last) (p,a);have o:0<=p:=WM b.q.l0 f;have fl:∀x,x∈(kW pile S a p n m).aF.flat↔x=(p,a)\/x∈S.aF.flat:=λx=>by show x∈(S.aF.app (pile p S.last) (p,a)).flat↔_;rw[pf.mem_iff,US]
  refine⟨b.q.add a f,?_,b.nr,Hx b.tk _ _,λc v e=>?_,λc v e=>?_,λc v e=>?_,λc q h=>?_,λc v e=>?_,λq c h=>?_,λq c h=>?_,λc v e g=>?_⟩
  .refine pf.nodup_iff.mpr (Vu.mpr ⟨λh=>?_,b.nd⟩);obtain⟨v,e,d⟩:=b.it p a (.inl h);have:=hZ k e;lia
  .rw[tg]at e;by_cases z:a=c
   .rw[<- z];exact j
   .rw[UV z]at e;exact b.tu c v e
  .rw[tg]at e;by_cases z:a=c
   .rw[UP z]at e;cases e;rw[<- z];exact i
   .rw[UV z]at e;exact b.ju c v e
  .rw[tg]at e;by_cases z:a=c
   .rw[UP z]at e;cases e;exact o
   .rw[UV z]at e;exact b.ps c v e
  .obtain⟨h1,v,e,d⟩:=b.sd c q h;refine⟨h1,v,?_,d⟩;rw[tg,UV (λz=>?_)]
   .exact e
   .subst z;have:=hZ k e;lia
  .rw[tg]at e;by_cases z:a=c
   .rw[UP z]at e;cases e;subst z;exact .inr (.inl ((fl _).mpr (.inl rfl)))
   .rw[UV z]at e;rcases b.sp c v e with h|h|h
    .exact .inl h
    .exact .inr (.inl ((fl _).mpr (.inr h)))
    .exact .inr (.inr h)
  .have:(q,c)=(p,a)\/(q,c)∈S.aF.flat\/(q,c)∈rest:=by
    rcases h with h|h
    .rcases(fl _).mp h with h|h
     .exact .inl h
     .exact .inr (.inl h)
    .exact .inr (.inr h)
   rcases this with h|h
   .cases h;exact⟨(p,n,m),by grind,Int.le_refl _⟩
   .obtain⟨v,e,d⟩:=b.it q c h;by_cases z:a=c
    .subst z;exact⟨(p,n,m),by grind,Xp (Int.lt_of_lt_of_le (hZ k e) d)⟩
    .exact⟨v,by grind,d⟩
  .rcases h with h|h
   .rcases(fl _).mp h with h|h
    .cases h;exact hs
    .exact b.ns q c (.inl h)
   .exact b.ns q c (.inr h)
  .rw[tg]at e;by_cases z:a=c
   .rw[UP z]at e;cases e;subst z;rcases l g with⟨v,e,d⟩|h
    .have:=hZ k e;lia
    .exact h
   .rw[UV z]at e;exact b.m0 c v e g
 .rw[UV k];exact b
end Pz
namespace Pz
section
variable(RL:List aV)(M U:List bc)(pile:Int->Int->Int)
structure BG(S:PS) (rest:List (Int×bc)):Prop where
 b:B RL M pile U S rest
 gt:∀x∈S.aF.flat,S.last<x.1
 eq:∀x∈rest,x.1=S.last
 mh:∀a∈M,lX S a 0
structure Ext(S T:PS) (rest:List (Int×bc)) (k:Nat):Prop where
 bg:BG RL M U pile T rest
 mono:∀a p,lX S a p->lX T a p
 se:T.settled=S.settled
 la:T.last=S.last
 len:T.aF.flat.length<=S.aF.flat.length+k
end
def tY(h:T.settled=S.settled):Sd T=Sd S:=by unfold Sd;rw[h]
theorem Ext.trans(x:Ext RL M U pile S T rest k)(y:Ext RL M U pile T V rest l):Ext RL M U pile S V rest (k+l):=⟨y.bg,λa p h=>y.mono a p (x.mono a p h),y.se.trans x.se,y.la.trans x.la,by have:=x.len;have:=y.len;lia⟩
theorem BG.bb(g:BG RL M U pile S rest)(f:Just RL M (Sd S) a (p,n,m))(i:a∈U)(e:S.last<p):Ext RL M U pile S (bb pile S a p n m) rest 1:=by
 obtain⟨e1,e2,e3⟩:=jE (pile:=pile) (S:=S) a p n m;have c:=g.b.bb f i (Xp e) (λh=>by have:=g.eq _ h;dsimp only at this;lia) (λh=>by have:=(g.b.sd _ _ h).1;lia) λh=>.inl (g.mh a h);refine⟨⟨c,λx d=>?_,λx d=>by rw[e3];exact g.eq x d,λb c=>jD (g.mh b c)⟩,λb q h=>jD h,e1,e3,tX g.b.q.ok _ _ _ _⟩;rw[e3];rcases yU g.b.q.ok _ _ _ _ d with h|rfl
 .exact g.gt x h
 .exact e
theorem mH{b:Type}(fa:b->bc)(fp:b->Int)(fn a:b->Option Int):∀(l:List b){S:PS},BG RL M U pile S rest->
 (∀x∈l,Just RL M (Sd S) (fa x) (fp x,fn x,a x)/\fa x∈U/\S.last<fp x)->
 Ext RL M U pile S (l.foldl (λS x=>bb pile S (fa x) (fp x) (fn x) (a x)) S) rest l.length/\(l.foldl (λS x=>bb pile S (fa x) (fp x) (fn x) (a x)) S).aJ=S.aJ/\
 ∀x∈l,lX (l.foldl (λS x=>bb pile S (fa x) (fp x) (fn x) (a x)) S) (fa x) (fp x)
 |[],S,g,_=>⟨⟨g,λ_ _ h=>h,rfl,rfl,UN _⟩,rfl,λ_ h=>nomatch h⟩
 |x::l,S,g,h=>by
  obtain⟨j,u,lt⟩:=h x UW;have e:=g.bb j u lt;obtain⟨r,c,d⟩:=mH fa fp fn a l (S:=bb pile S (fa x) (fp x) (fn x) (a x)) e.bg λy hy=>by rw[tY e.se,e.la];exact h y (UT _ hy)
  rw[Wu,U1,Yt];refine⟨e.trans r,c.trans (jE _ _ _ _).2.1,λy hy=>?_⟩;rcases US.mp hy with rfl|hy
  .exact r.mono _ _ (lA _ _ _ _)
  .exact d y hy
structure xM(RL:List aV) (M U:List bc) (rs:RS):Prop where
 nY:∀r∈RL,r.2.2.2.length<=2
 to:∀{n r c x},(n,r)∈rs.get (c,x)->∃(j:Nat)(l:List Int),n=j/\RL[j]?=some r/\r.2.2.1=c/\r.2.2.2=x::l
 of:∀{j:Nat}{r:aV}{x l},RL[j]?=some r->r.2.2.2=x::l->((j:Int),r)∈rs.get (r.2.2.1,x)
 u1:∀a∈M,a∈U
 u2:∀r∈RL,(r.1,r.2.1,r.2.2.1)∈U
 u3:∀r∈RL,∀s x t,(s,x,t)∈U->(r.1,r.2.1,t)∈U
def T4(RL:List aV)(S:PS):Prop:=∀(j:Nat)(r:aV),RL[j]?=some r->match r.2.2.2 with
 |[]=>lX S (r.1,r.2.1,r.2.2.1) 1
 |[x]=>∀t q,Sd S (r.2.2.1,x,t) q->lX S (r.1,r.2.1,t) (q+1)
 |[x,y]=>∀d t q1 q2,Sd S (r.2.2.1,x,d) q1->Sd S (d,y,t) q2->lX S (r.1,r.2.1,t) (q1+q2+1)
 |_=>True
structure Lk(RL:List aV) (S:PS):Prop where
 ok:S.aJ.Ok
 to:∀{n r q d y},(n,r,q)∈S.aJ.get (d,y)->∃(j:Nat)(x:Int),n=j/\RL[j]?=some r/\r.2.2.2=[x,y]/\Sd S (r.2.2.1,x,d) q
 of:∀{j:Nat}{r:aV}{x y d q},RL[j]?=some r->r.2.2.2=[x,y]->Sd S (r.2.2.1,x,d) q->((j:Int),r,q)∈S.aJ.get (d,y)
theorem Ju(Hs:xM RL M U rs)(d:a∈U)(K:0<=p):∀(l:List (Int×aV)){S:PS},BG RL M U pile S rest->S.aJ.Ok->S.settled.Ok->S.last=p->Sd S a p->(∀x∈l,x∈rs.get (a.1,a.2.1))->
 Ext RL M U pile S (l.foldl (cL pile a p) S) rest (l.length*S.settled.flat.length)/\(l.foldl (cL pile a p) S).aJ.Ok/\(l.foldl (cL pile a p) S).aJ.flat.length<=S.aJ.flat.length+l.length/\
 (∀k z,z∈(l.foldl (cL pile a p) S).aJ.get k↔z∈S.aJ.get k\/∃x∈l,x.2.2.2.2.length=2/\k=(a.2.2,nth1 x.2.2.2.2)/\z=(x.1,x.2,p))/\
 (∀x∈l,x.2.2.2.2.length=1->lX (l.foldl (cL pile a p) S) (x.2.1,x.2.2.1,a.2.2) (p+1))/\
 ∀x∈l,x.2.2.2.2.length=2->∀t q,Sd S (a.2.2,nth1 x.2.2.2.2,t) q->lX (l.foldl (cL pile a p) S) (x.2.1,x.2.2.1,t) (p+q+1)
 |[],S,g,ok,so,D,ha,_=>⟨⟨g,λ_ _ h=>h,rfl,rfl,Nat.le_add_right _ _⟩,ok,by simp,(λk z=>⟨.inl,λh=>h.elim id λ⟨x,h,_⟩=>(U0 h).elim⟩),(λ_ h=>(U0 h).elim),λ_ h=>(U0 h).elim⟩
 |x::l,S,g,ok,so,D,ha,f=>by
  obtain⟨n,r⟩:=x;obtain⟨j,E,rfl,o,F,s⟩:=Hs.to (f _ UW);have u:r∈RL:=Vm o;have G:=Hs.nY r u;have L:1<=S.settled.flat.length:=List.length_pos_of_mem (nh _ ha);have one:Ext RL M U pile S (cL pile a p S ((j:Int),r)) rest S.settled.flat.length/\(cL pile a p S ((j:Int),r)).aJ.Ok/\(cL pile a p S ((j:Int),r)).aJ.flat.length<=S.aJ.flat.length+1/\
   (∀k z,z∈(cL pile a p S ((j:Int),r)).aJ.get k↔z∈S.aJ.get k\/(r.2.2.2.length=2/\k=(a.2.2,nth1 r.2.2.2)/\z=((j:Int),r,p)))/\
   (r.2.2.2.length=1->lX (cL pile a p S ((j:Int),r)) (r.1,r.2.1,a.2.2) (p+1))/\
   (r.2.2.2.length=2->∀t q,Sd S (a.2.2,nth1 r.2.2.2,t) q->lX (cL pile a p S ((j:Int),r)) (r.1,r.2.1,t) (p+q+1)):=by
   unfold cL;by_cases h1:r.2.2.2.length=1
   .rw[UP (show((j:Int),r).2.2.2.2.length=1 from h1)];have c:r.2.2.2=[a.2.1]:=by
     rw[s]at h1 ⊢;cases E with
     |nil=>rfl
     |cons _ _=>simp at h1
    have e:=g.bb (a:=(r.1,r.2.1,a.2.2)) (p:=p+1) (n:=some (j:Int)) (m:=none) ⟨j,r,rfl,o,rfl,rfl,by rw[c];exact⟨rfl,p,by rw[F];exact ha,rfl⟩⟩ (Hs.u3 r u _ _ _ d) (by lia);obtain⟨_,e2,_⟩:=jE (pile:=pile) (S:=S) (r.1,r.2.1,a.2.2) (p+1) (some (j:Int)) none;refine⟨⟨e.bg,e.mono,e.se,e.la,Vf e.len (X4 L _)⟩,by rw[e2];exact ok,by rw[e2];lia,λk z=>?_,λ_=>lA _ _ _ _,λh=>by lia⟩;rw[e2];exact⟨.inl,λh=>h.elim id λh=>by lia⟩
   .rw[UV (show ¬((j:Int),r).2.2.2.2.length=1 from h1)];have w:r.2.2.2.length=2:=by rw[s]at h1 G ⊢;simp only[U1]at h1 G ⊢;lia
    obtain⟨y,c⟩ : ∃y,r.2.2.2=[a.2.1,y]:=by
     rw[s]at w ⊢
     match E,w with
     |[y],_=>exact⟨y,rfl⟩
    have N:nth1 r.2.2.2=y:=by rw[c];rfl
    have g1:BG RL M U pile (uT S (j:Int) r a.2.2 p) rest:=⟨⟨g.b.q,g.b.nd,g.b.nr,g.b.tk,g.b.tu,g.b.ju,g.b.ps,g.b.sd,g.b.sp,g.b.it,g.b.ns,g.b.m0⟩,g.gt,g.eq,g.mh⟩;obtain⟨e,e2,e3⟩:=mH (λx:Int×Int=>(r.1,r.2.1,x.1)) (λx=>p+x.2+1) (λ_=>some (j:Int)) (λ_=>some a.2.2) (S.settled.get (a.2.2,nth1 r.2.2.2)) g1 λx hx=>by
     have H:Sd S (a.2.2,y,x.1) x.2:=by rw[N]at hx;exact hx
     obtain⟨_,v,I,Z⟩:=g.b.sd _ _ H;have:=g.b.ps _ _ I;refine⟨⟨j,r,rfl,o,rfl,rfl,?_⟩,Hs.u3 r u _ _ _ (g.b.tu _ _ I),by show S.last<_;lia⟩;rw[c];exact⟨a.2.2,p,x.2,rfl,by rw[F];exact ha,H,rfl⟩
    have O:∀k z,z∈(first pile S (j:Int) r a.2.2 p).aJ.get k↔z∈S.aJ.get k\/(r.2.2.2.length=2/\k=(a.2.2,nth1 r.2.2.2)/\z=((j:Int),r,p)):=λk z=>by
     show z∈(List.foldl _ _ _:PS).aJ.get k↔_;rw[e2];show z∈(S.aJ.app _ _).get k↔_;rw[pZ];by_cases A:(a.2.2,nth1 r.2.2.2)=k
     .subst A;rw[UP rfl,U4,U5];exact⟨λh=>h.elim .inl λh=>.inr ⟨w,rfl,h⟩,λh=>h.elim .inl λh=>.inr h.2.2⟩
     .rw[UV A];exact⟨.inl,λh=>h.elim id λh=>(A h.2.1.symm).elim⟩
    have lk:(first pile S (j:Int) r a.2.2 p).aJ=S.aJ.app (a.2.2,nth1 r.2.2.2) ((j:Int),r,p):=e2;refine⟨⟨e.bg,λb q h=>e.mono b q h,e.se,e.la,Vf e.len (X4 (p6 _ _) _)⟩,by rw[lk];exact oG ok _ _,by rw[lk,(gg ok.nk _ _).length_eq];exact UN _,O,λh=>by lia,λ_ t q h=>e3 (t,q) h⟩
  obtain⟨e,B,P,C,Q,R⟩:=one;obtain⟨i,T,r2,V,W,X⟩:=Ju Hs d K l e.bg B (by rw[e.se];exact so) (by rw[e.la];exact D) (by rw[tY e.se];exact ha) λy Y=>f y (UT _ Y);rw[Wu,U1];rw[e.se]at i;refine⟨by rw[Nat.add_mul,Nat.one_mul,Yt];exact e.trans i,T,by lia,λk z=>?_,λx hx h=>?_,λx hx h t q J=>?_⟩
  .rw[V,C];constructor
   .rintro((h|h)|⟨x,hx,h⟩)
    .exact .inl h
    .exact .inr ⟨_,UW,h⟩
    .exact .inr ⟨x,UT _ hx,h⟩
   .rintro(h|⟨x,hx,h⟩)
    .exact .inl (.inl h)
    .rcases US.mp hx with rfl|hx
     .exact .inl (.inr h)
     .exact .inr ⟨x,hx,h⟩
  .rcases US.mp hx with rfl|hx
   .exact i.mono _ _ (Q h)
   .exact W x hx h
  .rcases US.mp hx with rfl|hx
   .exact i.mono _ _ (R h t q J)
   .exact X x hx h t q (by rw[tY e.se];exact J)
end Pz
namespace Pz
section
variable(RL:List aV)(M U:List bc)(pile:Int->Int->Int)(C:Nat)
structure Ub(S:PS) (k:Nat):Prop where
 so:S.settled.Ok
 G:∃G:List bc,G.Nodup/\G.length=S.settled.flat.length/\∀a∈G,∃q,Sd S a q
 ln:S.aJ.flat.length<=RL.length*S.settled.flat.length
 pn:S.aF.flat.length+k<=C+RL.length*(S.settled.flat.length*S.settled.flat.length)
structure I(S:PS) (rest:List (Int×bc)):Prop where
 bg:BG RL M U pile S rest
 Kf:T4 RL S
 lk:Lk RL S
 cnt:Ub RL C S rest.length
end
def sd_note:Sd (note S a p) c q↔Sd S c q\/(a=c/\p=q):=by
 grind [Sd,note,pZ]
theorem I.settle(Hs:xM RL M U rs)(D:∀k,(rs.get k).length<=RL.length)(i:I RL M U pile C S ((p,a)::rest))(R:bL S.told a=some v)(N:v.1=p) :
 I RL M U pile C (settle pile rs S a p) rest/\(settle pile rs S a p).settled.flat.length=S.settled.flat.length+1:=by
 have b:=i.bg.b;have pl:p=S.last:=i.bg.eq _ UW;have p0:0<=p:=by rw[pl];exact b.q.l0
 have E:a∈U:=b.tu a v R;have nS:∀q,¬Sd S a q:=λq h=>by obtain⟨_,w,e,ew⟩:=b.sd a q h;rw[R]at e;cases e;rw[<- ew,N]at h;exact b.ns p a (.inr UW) h
 have nr:=Vu.mp b.nr;have m:∀c q,Sd S c q->Sd (note S a p) c q:=λc q h=>sd_note.mpr (.inl h);have u:Sd (note S a p) a p:=sd_note.mpr (.inr ⟨rfl,rfl⟩);have g1:BG RL M U pile (note S a p) rest:=by
  refine⟨⟨b.q,b.nd,nr.2,b.tk,b.tu,λc w e=>(b.ju c w e).mono RL M m,b.ps,λc q h=>?_,λc w e=>?_,λq c h=>?_,λq c h k=>?_,b.m0⟩,i.bg.gt,λx A=>i.bg.eq x (UT _ A),i.bg.mh⟩
  .rcases sd_note.mp h with h|⟨rfl,rfl⟩
   .exact b.sd c q h
   .exact⟨Int.le_of_eq pl,v,R,N⟩
  .rcases b.sp c w e with h|h|h
   .exact .inl (m _ _ h)
   .exact .inr (.inl h)
   .rcases US.mp h with h|h
    .cases h;exact .inl u
    .exact .inr (.inr h)
  .exact b.it q c (h.elim .inl λh=>.inr (UT _ h))
  .rcases sd_note.mp k with k|⟨rfl,rfl⟩
   .exact b.ns q c (h.elim .inl λh=>.inr (UT _ h)) k
   .rcases h with h|h
    .have:=i.bg.gt _ h;dsimp only at this;lia
    .exact nr.1 h
 have so1:(note S a p).settled.Ok:=oG i.cnt.so _ _;have V:(note S a p).settled.flat.length=S.settled.flat.length+1:=(gg i.cnt.so.nk _ _).length_eq;obtain⟨e1,l1,h1⟩:=mH (λx:Int×aV×Int=>(x.2.1.1,x.2.1.2.1,a.2.2)) (λx=>x.2.2+p+1) (λx=>some x.1) (λ_=>some a.1) (S.aJ.get (a.1,a.2.1)) g1 λx A=>by obtain⟨n,r,q⟩:=x;obtain⟨j,y,rfl,o,B,s⟩:=i.lk.to A;obtain⟨_,w,tw,hw⟩:=b.sd _ _ s;have:=b.ps _ _ tw;refine⟨⟨j,r,rfl,o,rfl,rfl,?_⟩,Hs.u3 r (Vm o) _ _ _ E,by show S.last<q+p+1;lia⟩;show JustP _ r.2.2.1 r.2.2.2 _ _ _;rw[B];exact⟨a.1,q,p,rfl,m _ _ s,u,rfl⟩
 generalize W:(S.aJ.get (a.1,a.2.1)).foldl (λS x=>bb pile S (x.2.1.1,x.2.1.2.1,a.2.2) (x.2.2+p+1) (some x.1) (some a.1)) (note S a p)=F at e1 l1 h1;have s2:F.settled=(note S a p).settled:=e1.se;have H:Sd F=Sd (note S a p):=tY s2;have O:F.aJ=S.aJ:=l1;obtain⟨e2,k1,k2,k3,X,Y⟩:=Ju (rs:=rs) Hs E p0 (rs.get (a.1,a.2.1)) e1.bg (by rw[O];exact i.lk.ok) (by grind) (by rw[e1.la,pl];rfl) (by rw[H];exact u) λx A=>A;have eT:(rs.get (a.1,a.2.1)).foldl (cL pile a p) F=Pz.settle pile rs S a p:=by rw[<- W];rfl
 rw[eT]at e2 k1 k2 k3 X Y;generalize Pz.settle pile rs S a p=T at e2 k1 k2 k3 X Y;have P:T.settled=(note S a p).settled:=e2.se.trans s2;have g:∀c q,Sd T c q↔Sd S c q\/(a=c/\p=q):=λc q=>by rw[tY P];exact sd_note
 have Z:∀{j:Nat}{r:aV}{x d l},RL[j]?=some r->r.2.2.2=x::l->a=(r.2.2.1,x,d)->((j:Int),r)∈rs.get (a.1,a.2.1):=λo N h=>by rw[h];exact Hs.of o N
 have mono:∀c q,lX S c q->lX T c q:=λc q h=>e2.mono _ _ (e1.mono _ _ h);refine⟨⟨e2.bg,?_,⟨k1,?_,?_⟩,⟨by grind,?_,?_,?_⟩⟩,by grind⟩
 .intro j r o;have hc:=i.Kf j r o;cases f:r.2.2.2 with
  |nil=>rw[f]at hc;exact mono _ _ hc
  |cons x ys=>
   cases ys with
   |nil=>
    rw[f]at hc;intro t q s;rcases(g _ _).mp s with h|⟨h,rfl⟩
    .exact mono _ _ (hc t q h)
    .obtain rfl:a.2.2=t:=by rw[h]
     exact X ((j:Int),r) (Z o f h) (by rw[f];rfl)
   |cons y zs=>
    cases zs with
    |cons _ _=>trivial
    |nil=>
     rw[f]at hc;intro d t q1 q2 hq1 J;have ny:nth1 r.2.2.2=y:=by rw[f];rfl
     rcases(g _ _).mp hq1 with K|⟨K,rfl⟩
     .rcases(g _ _).mp J with Q|⟨Q,rfl⟩
      .exact mono _ _ (hc d t q1 q2 K Q)
      .obtain rfl:a.2.2=t:=by rw[Q]
       exact e2.mono _ _ (h1 ((j:Int),r,q1) (by rw[Q];exact i.lk.of o f K))
     .obtain rfl:a.2.2=d:=by rw[K]
      refine Y ((j:Int),r) (Z o f K) (by rw[f];rfl) t q2 ?_;rw[ny,H,<- tY P];exact J
 .intro n r q d y h;rcases(k3 _ _).mp h with h|⟨x,A,L,hk,hz⟩
  .rw[O]at h;obtain⟨j,x,e1,e2,e3,e4⟩:=i.lk.to h;exact⟨j,x,e1,e2,e3,(g _ _).mpr (.inl e4)⟩
  .obtain⟨n',r'⟩:=x;obtain⟨rfl,hz⟩:=Prod.mk.inj hz;obtain⟨rfl,s⟩:=Prod.mk.inj hz;obtain⟨j,l,rfl,o,hc,f⟩:=Hs.to A;obtain⟨rfl,B⟩:=Prod.mk.inj hk;have L:r.2.2.2.length=2:=L;have B:y=nth1 r.2.2.2:=B;rw[f]at L B;refine⟨j,a.2.1,rfl,o,?_,(g _ _).mpr (.inr ⟨by rw[hc],s.symm⟩)⟩;rcases l with _|⟨z,_|_⟩
   .cases L
   .rw[f,B];rfl
   .cases L
 .intro j r x y d q o f s;rw[k3];rcases(g _ _).mp s with h|⟨h,rfl⟩
  .rw[O];exact .inl (i.lk.of o f h)
  .exact .inr ⟨((j:Int),r),Z o f h,by rw[f];rfl,by rw[f,h];rfl,rfl⟩
 .obtain⟨G,g1,g2,g3⟩:=i.cnt.G;refine⟨a::G,Vu.mpr ⟨λh=>?_,g1⟩,by grind,λc hc=>?_⟩
  .obtain⟨q,s⟩:=g3 a h;exact nS q s
  .rcases US.mp hc with rfl|hc
   .exact⟨p,(g _ _).mpr (.inr ⟨rfl,rfl⟩)⟩
   .obtain⟨q,s⟩:=g3 c hc;exact⟨q,(g _ _).mpr (.inl s)⟩
 .have:=i.cnt.ln;have:=D (a.1,a.2.1);rw[P,V,Yn,Nat.mul_one];rw[O]at k2;lia
 .have c1:=i.cnt.pn;have c2:=e1.len;have c3:=e2.len;have c4:=i.cnt.ln;have c5:=p6 S.aJ (a.1,a.2.1);have c6:(rs.get (a.1,a.2.1)).length*F.settled.flat.length<=RL.length*(S.settled.flat.length+1):=by rw[s2,V];exact Nat.mul_le_mul_right _ (D _)
  rw[U1]at c1;have c7:(note S a p).aF.flat.length=S.aF.flat.length:=rfl;rw[P,V];have c8:RL.length*((S.settled.flat.length+1)*(S.settled.flat.length+1))=RL.length*(S.settled.flat.length*S.settled.flat.length)+RL.length*S.settled.flat.length+RL.length*(S.settled.flat.length+1):=by rw[Nat.add_mul,Nat.one_mul,Yn RL.length,Yn S.settled.flat.length,Nat.mul_one,Yn RL.length (S.settled.flat.length*S.settled.flat.length)]
  rw[c8];lia
def I.skip(i:I RL M U pile C S (x::rest))(h:¬N_ S x=true):I RL M U pile C S rest:=by
 have b:=i.bg.b;refine⟨⟨⟨b.q,b.nd,(Vu.mp b.nr).2,b.tk,b.tu,b.ju,b.ps,b.sd,λc w e=>?_,λq c h=>b.it q c (h.elim .inl λh=>.inr (UT _ h)),λq c h=>b.ns q c (h.elim .inl λh=>.inr (UT _ h)),b.m0⟩,i.bg.gt,λy a=>i.bg.eq y (UT _ a),i.bg.mh⟩,i.Kf,i.lk,i.cnt.so,i.cnt.G,i.cnt.ln,by have:=i.cnt.pn;rw[U1]at this;lia⟩;rcases b.sp c w e with k|k|k
 .exact .inl k
 .exact .inr (.inl k)
 .grind [N_]
theorem I.batch(Hs:xM RL M U rs)(b:∀k,(rs.get k).length<=RL.length):∀(l:List (Int×bc)){S:PS},I RL M U pile C S l->
 I RL M U pile C (batch pile rs S l) []/\S.settled.flat.length<=(batch pile rs S l).settled.flat.length/\((batch pile rs S l).settled.flat.length=S.settled.flat.length->batch pile rs S l=S)
 |[],S,i=>⟨i,UN _,λ_=>rfl⟩
 |x::l,S,i=>by
  show I RL M U pile C (Pz.batch pile rs (turn pile rs S x) l) []/\_<=(Pz.batch pile rs (turn pile rs S x) l).settled.flat.length/\((Pz.batch pile rs (turn pile rs S x) l).settled.flat.length=_->Pz.batch pile rs (turn pile rs S x) l=S);unfold turn;by_cases h:N_ S x=true
  .rw[UP h];obtain⟨p,a⟩:=x;unfold N_ at h;cases e:bL S.told a with
   |none=>rw[show((p,a):Int×bc).2=a from rfl,e]at h;cases h
   |some v=>rw[show((p,a):Int×bc).2=a from rfl,e]at h;obtain⟨j,n⟩:=i.settle Hs b e (VN h);obtain⟨c,d,f⟩:=I.batch Hs b l j;exact⟨c,by grind,λq=>by grind⟩
  .rw[UV h];exact I.batch Hs b l (i.skip h)
structure Top(RL:List aV) (M U:List bc) (pile:Int->Int->Int) (C:Nat) (S:PS):Prop where
 b:B RL M pile U S []
 mh:∀a∈M,lX S a 0
 Kf:T4 RL S
 lk:Lk RL S
 cnt:Ub RL C S 0
def I.top(i:I RL M U pile C S []):Top RL M U pile C S:=⟨i.bg.b,i.bg.mh,i.Kf,i.lk,i.cnt⟩
theorem Top.take(P:vD pile)(t:Top RL M U pile C S)(d:S.aF≠[]):I RL M U pile C (take pile S) (eG pile S.aF):=by
 have b:=t.b;have k:=BI P b.q d;have mem:∀x,x∈S.aF.flat↔x∈(left pile S.aF).flat\/x∈eG pile S.aF:=λx=>by rw[k.pm.mem_iff,U4];exact Or.comm
 obtain⟨f,g,_⟩:=WR.mp (k.pm.nodup_iff.mp b.nd);have no:∀{q c},(q,c)∉([]:List (Int×bc)):=λh=>nomatch h;refine⟨⟨⟨k.ok,g,f,b.tk,b.tu,b.ju,b.ps,λa p h=>⟨WM (b.sd a p h).1 k.ge,(b.sd a p h).2⟩,λa v e=>?_,λp a h=>b.it p a (.inl ((mem _).mpr h)),λp a h=>b.ns p a (.inl ((mem _).mpr h)),b.m0⟩,k.lt,k.eq,t.mh⟩,t.Kf,⟨t.lk.ok,t.lk.to,t.lk.of⟩,t.cnt.so,t.cnt.G,t.cnt.ln,?_⟩
 .rcases b.sp a v e with h|h|h
  .exact .inl h
  .exact .inr ((mem _).mp h)
  .exact(no h).elim
 .have h1:=k.pm.length_eq;rw[Vc]at h1;have i:=t.cnt.pn;show(left pile S.aF).flat.length+(eG pile S.aF).length<=_;show _<=C+RL.length*(S.settled.flat.length*S.settled.flat.length);lia
theorem nv{α:Type}[DecidableEq α]:∀(l m:List α),l.Nodup->(∀x∈l,x∈m)->l.length<=m.length
 |[],m,_,_=>Vo _
 |x::l,m,nd,h=>by
  have c:=h x UW;have a:=Vu.mp nd;have:=nv l (m.erase x) a.2 λy b=>(List.mem_erase_of_ne (λ(e:y=x)=>a.1 (by grind))).mpr (h y (UT _ b))
  grind
def Top.nY(t:Top RL M U pile C S):S.settled.flat.length<=U.length/\S.told.length<=U.length:=by
 obtain⟨G,g1,g2,g3⟩:=t.cnt.G;constructor
 .rw[<- g2];exact nv G U g1 λa ha=>by obtain⟨q,c⟩:=g3 a ha;obtain⟨_,v,e,_⟩:=t.b.sd a q c;exact t.b.tu a v e
 .have:=nv (S.told.map (·.1)) U t.b.tk λa ha=>by obtain⟨x,d,rfl⟩:=UY.mp ha;exact t.b.tu x.1 x.2 (rh t.b.tk d)
  rwa [UO]at this
def Top.fit(t:Top RL M U pile C S)(c:C+RL.length*(U.length*U.length)<L)(d:RL.length*U.length<L)(e:U.length<L):lZ S:=by obtain⟨a,f⟩:=t.nY;have g:=jC t.b.q.ok;have h:=jC t.cnt.so;have i:=jC t.lk.ok;have j:=t.cnt.pn;have k:RL.length*(S.settled.flat.length*S.settled.flat.length)<=RL.length*(U.length*U.length):=X5 _ (Xi a a);have l:=t.cnt.ln;have m:RL.length*S.settled.flat.length<=RL.length*U.length:=X5 _ a;constructor<;>lia
def Top.loop(P:vD pile)(Hs:xM RL M U rs)(g:∀k,(rs.get k).length<=RL.length)(p:C+RL.length*(U.length*U.length)<L)(s:RL.length*U.length<L)(u:U.length<L) :
 ∀(a b:Nat)(S:PS),Top RL M U pile C S->U.length-S.settled.flat.length<=a->S.aF.flat.length<=b->∃n T,Loop pile rs n S T/\Top RL M U pile C T/\T.aF=[]:=by
 have step:∀S,Top RL M U pile C S->S.aF≠[]->let S2:=batch pile rs (Pz.take pile S) (eG pile S.aF);Top RL M U pile C S2/\(∀n T,Loop pile rs n S2 T->Loop pile rs (n+1) S T)/\
  (S.settled.flat.length<S2.settled.flat.length\/S2.settled.flat.length=S.settled.flat.length/\S2.aF.flat.length<S.aF.flat.length):=by
  intro S t c;obtain⟨i,h1,w⟩:=I.batch Hs g _ (t.take P c);have d:=i.top;refine⟨d,λn T l=>.step c t.b.q (λx y=>?_) (t.fit p s u) (d.fit p s u) l,?_⟩
  .obtain⟨v,e,_⟩:=t.b.it x.1 x.2 (.inl ((BI P t.b.q c).pm.mem_iff.mpr (U4.mpr (.inl y))));rw[e];simp
  have k:=BI P t.b.q c;by_cases e:(batch pile rs (Pz.take pile S) (eG pile S.aF)).settled.flat.length=S.settled.flat.length
  .refine .inr ⟨e,?_⟩;rw[w e];show(left pile S.aF).flat.length<_;rw[k.pm.length_eq,Vc];have:=Xn.mpr k.ne;lia
  .have h1:S.settled.flat.length<=(batch pile rs (Pz.take pile S) (eG pile S.aF)).settled.flat.length:=h1;exact .inl (by lia)
 intro a;induction a with
 |zero=>
  intro b;induction b with
  |zero=>intro S t _ j;have:S.aF=[]:=VC.mp (by have:=jC t.b.q.ok;lia);exact⟨0,S,.done this,t,this⟩
  |succ b m=>
   intro S t ha j;by_cases c:S.aF=[]
   .exact⟨0,S,.done c,t,c⟩
   obtain⟨d,f,hd⟩:=step S t c;have:=d.nY.1;obtain⟨n,T,l,r⟩:=m _ d (by rcases hd with h|h<;>lia) (by rcases hd with h|h<;>lia);exact⟨_,T,f _ _ l,r⟩
 |succ a o=>
  intro b;induction b with
  |zero=>intro S t _ j;have:S.aF=[]:=VC.mp (by have:=jC t.b.q.ok;lia);exact⟨0,S,.done this,t,this⟩
  |succ b m=>
   intro S t ha j;by_cases c:S.aF=[]
   .exact⟨0,S,.done c,t,c⟩
   obtain⟨d,f,hd⟩:=step S t c;have:=d.nY.1;rcases hd with h|h
   .obtain⟨n,T,l,r⟩:=o _ _ d (by lia) (UN _);exact⟨_,T,f _ _ l,r⟩
   .obtain⟨n,T,l,r⟩:=m _ d (by lia) (by lia);exact⟨_,T,f _ _ l,r⟩
end Pz
namespace Pz
noncomputable def en:List aV->Nat->List (Int×aV)
 |[],_=>[]
 |r::l,k=>((k:Int),r)::en l (k+1)
theorem en_mem:∀{l:List aV}{k:Nat}{n:Int}{r:aV},(n,r)∈en l k↔∃j:Nat,n=((k+j:Nat):Int)/\l[j]?=some r
 |[],k,n,r=>⟨λh=>(U0 h).elim,λ⟨j,_,h⟩=>by simp at h⟩
 |x::l,k,n,r=>by
  unfold en;rw[US,en_mem];constructor
  .rintro(h|⟨j,rfl,h⟩)
   .obtain⟨rfl,rfl⟩:=Prod.mk.inj h;exact⟨0,rfl,rfl⟩
   .exact⟨j+1,by lia,by simpa using h⟩
  .rintro⟨j,rfl,h⟩;cases j with
   |zero=>left;simp at h;subst h;rfl
   |succ j=>exact .inr ⟨j,by lia,by simpa using h⟩
theorem rj:∀(l:List aV)(k:Nat),(en l k).length=l.length:=by intro l;induction l<;>grind [en]
def iH(d:RS)(x:Int×aV):RS:=if x.2.2.2.2.length>0 then d.app (x.2.2.2.1,x.2.2.2.2[0]?.getD 0) x else d
def bY(RL:List aV):RS:=(en RL 0).foldl iH []
def BL(d:RS)(x:Int×aV)(k:Int×Int)(z:Int×aV):z∈(iH d x).get k↔z∈d.get k\/(z=x/\∃y l,x.2.2.2.2=y::l/\k=(x.2.2.2.1,y)):=by
 unfold iH;cases h:x.2.2.2.2 with
 |nil=>grind
 |cons y l=>
  rw[UP (by simp),pZ]
  grind
theorem uU:∀(l:List (Int×aV))(d:RS)(k:Int×Int)(z:Int×aV),z∈(l.foldl iH d).get k↔z∈d.get k\/(z∈l/\∃y b,z.2.2.2.2=y::b/\k=(z.2.2.2.1,y))
 |[],d,k,z=>⟨.inl,λq=>q.elim id λq=>(U0 q.1).elim⟩
 |x::l,d,k,z=>by
  rw[Wu,uU l,BL,US];constructor
  .rintro((h|⟨rfl,h⟩)|⟨h1,a⟩)
   .exact .inl h
   .exact .inr ⟨.inl rfl,h⟩
   .exact .inr ⟨.inr h1,a⟩
  .rintro(h|⟨rfl|h1,a⟩)
   .exact .inl (.inl h)
   .exact .inl (.inr ⟨rfl,a⟩)
   .exact .inr ⟨h1,a⟩
theorem yV:∀(l:List (Int×aV))(d:RS),d.Ok->(l.foldl iH d).Ok/\(l.foldl iH d).flat.length<=d.flat.length+l.length
 |[],d,h=>⟨h,UN _⟩
 |x::l,d,h=>by
  rw[Wu,U1];have:(iH d x).Ok/\(iH d x).flat.length<=d.flat.length+1:=by
   unfold iH;split
   .exact⟨oG h _ _,Ys (gg h.nk _ _).length_eq⟩
   .exact⟨h,by lia⟩
  obtain⟨a,b⟩:=yV l _ this.1;exact⟨a,by lia⟩
theorem tZ{κ α:Type}:MD.Ok (κ:=κ) (α:=α) []:=⟨Ve,λ_ h=>(U0 h).elim⟩
def LG(RL:List aV):(bY RL).Ok/\(bY RL).flat.length<=RL.length:=by
 grind [bY,en,MD.flat,yV,tZ,rj]
def S0:PS:=⟨[],0,[],[],[]⟩
variable(pile:Int->Int->Int)
def j6(S:PS)(a:bc):PS:=bb pile S a 0 none none
def gr(S:PS)(x:Int×aV):PS:=if x.2.2.2.2.length=0 then bb pile S (x.2.1,x.2.2.1,x.2.2.2.1) 1 (some x.1) none else S
def kY(RL:List aV)(M:List bc):PS:=(en RL 0).foldl (gr pile) (M.foldl (j6 pile) S0)
variable{pile}
structure Cv(RL:List aV) (M U:List bc) (pile:Int->Int->Int) (S:PS) (k:Nat):Prop where
 b:B RL M pile U S []
 l0:S.last=0
 s0:S.settled=[]
 k0:S.aJ=[]
 len:S.aF.flat.length<=k
def Cv.no(h:Cv RL M U pile S k)(a:bc)(q:Int):¬Sd S a q:=by unfold Sd;rw[h.s0];exact λh=>(U0 h).elim
theorem Cv.bb(h:Cv RL M U pile S k)(c:Just RL M (Sd S) a (p,n,m))(d:a∈U)(e:0<=p)(f:a∈M->lX S a 0\/(p,n,m)=(0,none,none)):Cv RL M U pile (bb pile S a p n m) (k+1):=by obtain⟨e1,e2,e3⟩:=jE (pile:=pile) (S:=S) a p n m;exact⟨h.b.bb c d (by rw[h.l0];exact e) (λh=>(U0 h).elim) (h.no _ _) f,by rw[e3];exact h.l0,by rw[e1];exact h.s0,by rw[e2];exact h.k0,Vf (tX h.b.q.ok _ _ _ _) (Nat.add_le_add_right h.len 1)⟩
def SQ:Cv RL M U pile S0 0:=by have no:∀{α:Type}{x:α},x∉([]:List α):=λh=>(U0 h).elim;exact⟨⟨⟨tZ,Int.le_refl _,λ_ h=>(no h).elim⟩,Ve,Ve,Ve,(λ_ _ h=>nomatch h),(λ_ _ h=>nomatch h),(λ_ _ h=>nomatch h),(λ_ _ h=>(no h).elim),(λ_ _ h=>nomatch h),(λ_ _ h=>h.elim (λh=>(no h).elim) λh=>(no h).elim),(λ_ _ h=>h.elim (λh=>(no h).elim) λh=>(no h).elim),(λ_ _ h=>nomatch h)⟩,rfl,rfl,rfl,UN _⟩
theorem Pa:∀(l:List bc){S:PS}{k:Nat},Cv RL M U pile S k->(∀a∈l,a∈M/\a∈U)->Cv RL M U pile (l.foldl (j6 pile) S) (k+l.length)/\(∀a p,lX S a p->lX (l.foldl (j6 pile) S) a p)/\∀a∈l,lX (l.foldl (j6 pile) S) a 0
 |[],S,k,h,_=>⟨h,λ_ _ h=>h,λ_ h=>(U0 h).elim⟩
 |a::l,S,k,h,c=>by
  obtain⟨h1,f⟩:=c a UW;have e:=h.bb (a:=a) (p:=0) (n:=none) (m:=none) ⟨rfl,rfl,h1⟩ f (Int.le_refl _) λ_=>.inr rfl;obtain⟨g,d,i⟩:=Pa l e λb hb=>c b (UT _ hb);rw[Wu,U1,Yt l.length,<- Nat.add_assoc];refine⟨g,λb p h=>d b p (jD h),λb hb=>?_⟩;rcases US.mp hb with rfl|hb
  .exact d _ _ (lA _ _ _ _)
  .exact i b hb
theorem Pb(u2:∀r∈RL,(r.1,r.2.1,r.2.2.1)∈U):∀(l:List (Int×aV)){S:PS}{k:Nat},Cv RL M U pile S k->(∀a∈M,lX S a 0)->(∀x∈l,∃j:Nat,x.1=j/\RL[j]?=some x.2)->
 Cv RL M U pile (l.foldl (gr pile) S) (k+l.length)/\(∀a p,lX S a p->lX (l.foldl (gr pile) S) a p)/\∀x∈l,x.2.2.2.2=[]->lX (l.foldl (gr pile) S) (x.2.1,x.2.2.1,x.2.2.2.1) 1
 |[],S,k,h,_,_=>⟨h,λ_ _ h=>h,λ_ h=>(U0 h).elim⟩
 |x::l,S,k,h,d,f=>by
  obtain⟨j,e1,e2⟩:=f x UW;have one:Cv RL M U pile (gr pile S x) (k+1)/\(∀a p,lX S a p->lX (gr pile S x) a p)/\(x.2.2.2.2=[]->lX (gr pile S x) (x.2.1,x.2.2.1,x.2.2.2.1) 1):=by
   unfold gr;by_cases c:x.2.2.2.2.length=0
   .rw[UP c];have e:=h.bb (a:=(x.2.1,x.2.2.1,x.2.2.2.1)) (p:=1) (n:=some x.1) (m:=none) ⟨j,x.2,e1,e2,rfl,rfl,by rw[VC.mp c];exact⟨rfl,rfl,rfl⟩⟩ (u2 _ (Vm e2)) (by decide) λh=>.inl (d _ h);exact⟨e,λb p h=>jD h,λ_=>lA _ _ _ _⟩
   .rw[UV c];exact⟨⟨h.b,h.l0,h.s0,h.k0,Nat.le_succ_of_le h.len⟩,λ_ _ h=>h,λe=>(c (by rw[e];rfl)).elim⟩
  obtain⟨o1,g,o⟩:=one;obtain⟨q,i,s⟩:=Pb u2 l o1 (λa ha=>g a 0 (d a ha)) λb hb=>f b (UT _ hb);rw[Wu,U1,Yt l.length,<- Nat.add_assoc];refine⟨q,λb p h=>i b p (g b p h),λb hb e=>?_⟩;rcases US.mp hb with rfl|hb
  .exact i _ _ (o e)
  .exact s b hb e
structure Set(RL:List aV) (M U:List bc):Prop where
 nY:∀r∈RL,r.2.2.2.length<=2
 u1:∀a∈M,a∈U
 u2:∀r∈RL,(r.1,r.2.1,r.2.2.1)∈U
 u3:∀r∈RL,∀s x t,(s,x,t)∈U->(r.1,r.2.1,t)∈U
 big:M.length+RL.length+RL.length*(U.length*U.length)<L
 RN:RL.length*U.length<L
 RJ:U.length<L
def Set.RP(h:Set RL M U):xM RL M U (bY RL):=by
 refine⟨h.nY,λ{n r c x} q=>?_,λ{j r x l} e1 e2=>?_,h.u1,h.u2,h.u3⟩
 .rcases(uU _ _ _ _).mp q with q|⟨q,y,l,e,k⟩
  .exact(U0 q).elim
  .obtain⟨j,e1,e2⟩:=en_mem.mp q
   grind
 .exact(uU _ _ _ _).mpr (.inr ⟨en_mem.mpr ⟨j,by grind,e1⟩,x,l,e2,rfl⟩)
def BM(h:Set RL M U):Top RL M U pile (M.length+RL.length) (kY pile RL M):=by
 obtain⟨f,p,e⟩:=Pa (RL:=RL) (M:=M) (U:=U) (pile:=pile) M SQ λa ha=>⟨ha,h.u1 a ha⟩;obtain⟨c,g,i⟩:=Pb h.u2 (en RL 0) f e λx k=>by obtain⟨j,e1,e2⟩:=en_mem.mp k;exact⟨j,by grind,e2⟩
 have c:Cv RL M U pile (kY pile RL M) _:=c;refine⟨c.b,λa ha=>g a 0 (e a ha),λj r m=>?_,⟨by rw[c.k0];exact tZ,λ{n r q d y} h=>by rw[c.k0]at h;exact(U0 h).elim,λ_ _ h=>(c.no _ _ h).elim⟩,⟨by rw[c.s0];exact tZ,⟨[],Ve,by rw[c.s0];rfl,λ_ h=>(U0 h).elim⟩,by rw[c.k0];exact Vo _,?_⟩⟩
 .cases o:r.2.2.2 with
  |nil=>exact i ((j:Int),r) (en_mem.mpr ⟨j,by grind,m⟩) o
  |cons x l=>
   match l with
   |[]=>exact λt q h=>(c.no _ _ h).elim
   |[y]=>exact λd t q1 q2 h=>(c.no _ _ h).elim
   |_::_::_=>trivial
 .have:=c.len;rw[rj]at this;lia
def At(t:TD)(a:bc)(q:Int):Prop:=∃w,bL t a=some w/\w.1=q
def R5(t:TD)(a:bc)(q:Int):Prop:=∃w,bL t a=some w/\w.1<=q
structure Good(RL:List aV) (M U:List bc) (t:TD):Prop where
 nd:(t.map (·.1)).Nodup
 u:∀a v,bL t a=some v->a∈U
 ju:∀a v,bL t a=some v->Just RL M (At t) a v
 ps:∀a v,bL t a=some v->0<=v.1
 m0:∀a∈M,bL t a=some (0,none,none)
 Kf:∀(j:Nat)(r:aV),RL[j]?=some r->match r.2.2.2 with
  |[]=>R5 t (r.1,r.2.1,r.2.2.1) 1
  |[x]=>∀d q,At t (r.2.2.1,x,d) q->R5 t (r.1,r.2.1,d) (q+1)
  |[x,y]=>∀d e q1 q2,At t (r.2.2.1,x,d) q1->At t (d,y,e) q2->R5 t (r.1,r.2.1,e) (q1+q2+1)
  |_=>True
def Top.good(h:Top RL M U pile C S)(e:S.aF=[]):Good RL M U S.told:=by
 have hs:∀a q,Sd S a q↔At S.told a q:=λa q=>by
  constructor
  .intro k;exact(h.b.sd a q k).2
  .rintro⟨w,k,rfl⟩;rcases h.b.sp a w k with k|k|k
   .exact k
   .rw[e]at k;exact(U0 k).elim
   .exact(U0 k).elim
 refine⟨h.b.tk,h.b.tu,λa v k=>(h.b.ju a v k).mono RL M λa q=>(hs a q).mp,h.b.ps,λa ha=>?_,λj r g=>?_⟩
 .obtain⟨v,k,_⟩:=h.mh a ha;rw[k,h.b.m0 a v k ha]
 .have c:=h.Kf j r g;cases f:r.2.2.2 with
  |nil=>rw[f]at c;exact c
  |cons x l=>
   rw[f]at c
   match l with
   |[]=>exact λt q k=>c t q ((hs _ _).mpr k)
   |[y]=>exact λd t q1 q2 k1 k2=>c d t q1 q2 ((hs _ _).mpr k1) ((hs _ _).mpr k2)
   |_::_::_=>trivial
def Set.run(P:vD pile)(h:Set RL M U):lZ (kY pile RL M)/\∃n T,Loop pile (bY RL) n (kY pile RL M) T/\Good RL M U T.told:=by have t:=BM (pile:=pile) h;obtain⟨n,T,l,a,e⟩:=t.loop P h.RP (λk=>Vf (p6 _ k) (LG RL).2) h.big h.RN h.RJ _ _ _ (UN _) (UN _);exact⟨t.fit h.big h.RN h.RJ,n,T,l,a.good e⟩
end Pz
namespace Pz
def Hz(x y k:Nat):(x ||| y)-(x &&& y)<2^k↔x/2^k=y/2^k:=by
 have d:(x ||| y)/2^k=x/2^k ||| y/2^k:=by rw[<- V6,<- V6,<- V6,Nat.shiftRight_or_distrib]
 have e:(x &&& y)/2^k=x/2^k &&& y/2^k:=by rw[<- V6,<- V6,<- V6,Nat.shiftRight_and_distrib]
 have f:(x ||| y)%2^k=x%2^k ||| y%2^k:=Nat.or_mod_two_pow;have g:(x &&& y)%2^k=x%2^k &&& y%2^k:=Nat.and_mod_two_pow;have a:0<2^k:=Nat.two_pow_pos k;have i:=Nat.div_add_mod (x ||| y) (2^k);have j:=Nat.div_add_mod (x &&& y) (2^k);have l:=Yv (x ||| y) a;have m:x/2^k &&& y/2^k<=x/2^k:=Nat.and_le_left;have n:x/2^k &&& y/2^k<=y/2^k:=Nat.and_le_right;have o:x/2^k<=x/2^k ||| y/2^k:=Nat.left_le_or;have p:y/2^k<=x/2^k ||| y/2^k:=Nat.right_le_or;have q:x%2^k &&& y%2^k<=x%2^k:=Nat.and_le_left;have r:x%2^k<=x%2^k ||| y%2^k:=Nat.left_le_or;constructor
 .intro h;refine Nat.le_antisymm ?_ ?_
  all_goals
   refine Nat.not_lt.mp λs=>?_;have b:(x &&& y)/2^k+1<=(x ||| y)/2^k:=by lia
   have c:=X5 (2^k) b;rw[Yn,Nat.mul_one]at c;lia
 .grind
def HA(z k:Nat):(if((z:Int)==0)=true then 0 else(z:Int).natAbs.log2+1)<=k↔z<2^k:=by
 rw[Int.natAbs_natCast];by_cases h:z=0
 .subst h;rw[UP (by decide)];exact⟨λ_=>Nat.two_pow_pos k,λ_=>Vo _⟩
 .have:¬((z:Int)==0)=true:=by simpa using h
  rw[UV this];exact Nat.log2_lt h
end Pz
namespace L4
open PySem PySem.Spec PyProof.Rows L2 L3
section
variable{κ:Type}[DecidableEq κ]
abbrev DX(κ:Type):=List (κ×Addr×List V)
abbrev DX.kv(xs:DX κ):List (κ×V):=xs.map λx=>(x.1,V.ref x.2.1)
structure DL(mk:List (κ×V)->HO) (H:Hp) (a:Addr) (xs:DX κ):Prop where
 root:H a=some (mk xs.kv)
 rX:∀x∈xs,H x.2.1=some (.lst x.2.2)
 nk:(xs.map (·.1)).Nodup
 na:(xs.map (·.2.1)).Nodup
def cD(a:Addr)(xs:DX κ)(b:Addr):Prop:=b=a\/∃x∈xs,b=x.2.1
def iI(xs:DX κ)(k:κ):Option (Addr×List V):=(xs.find? λx=>decide (x.1=k)).map (·.2)
noncomputable def oJ(xs:DX κ)(k:κ)(v:V):DX κ:=xs.map λx=>if x.1=k then(x.1,x.2.1,x.2.2++[v])else x
def mI(xs:DX κ)(k:κ):c9 xs.kv k=(iI xs k).map λp=>.ref p.1:=by
 induction xs with
 |nil=>rfl
 |cons x r a=>
  unfold iI at a ⊢;show c9 ((x.1,V.ref x.2.1)::DX.kv r) k=_;rw[WF];by_cases h:x.1=k
  .rw[gV h,U6 h];rfl
  .rw[gW h,U_ h,a]
def BN(xs:DX κ)(k:κ)(v:V):(oJ xs k v).kv=xs.kv:=by unfold oJ DX.kv;rw[Vb];apply V1;intro x _;show((if x.1=k then(x.1,x.2.1,x.2.2++[v])else x).1,V.ref (if x.1=k then(x.1,x.2.1,x.2.2++[v])else x).2.1)=_;split<;>rfl
def rp{e:Type}(f:κ×Addr×List V->e)(g:∀a b c d,f (a,b,c)=f (a,b,d))(xs:DX κ)(k:κ)(v:V):(oJ xs k v).map f=xs.map f:=by
 unfold oJ;rw[Vb];apply V1;intro x _;show f (if x.1=k then(x.1,x.2.1,x.2.2++[v])else x)=_;split
 .exact g _ _ _ _
 .rfl
def eJ{xs:DX κ}(h:iI xs k=some p):(k,p)∈xs:=by unfold iI at h;obtain⟨x,c,rfl⟩:=VF.mp h;have h1:=List.find?_some c;have d:=List.mem_of_find?_eq_some c;have e:x.1=k:=VN h1;obtain⟨a,b⟩:=x;dsimp only at e;subst e;exact d
def BO{xs:DX κ}(h:iI xs k=none):k∉xs.map (·.1):=λa=>by obtain⟨x,b,rfl⟩:=UY.mp a;unfold iI at h;have:=List.find?_eq_none.mp (Option.map_eq_none_iff.mp h) x b;simp at this
variable{mk:List (κ×V)->HO}
def DL.old(f:∀q ws,mk q≠.lst ws)(G:DL mk H a xs)(m:iI xs k=some p)(n:H' p.1=some (.lst (p.2++[v])))(kp:∀c u,H c=some u->c≠p.1->H' c=some u):DL mk H' a (oJ xs k v):=by
 have g:=eJ m;have h:a≠p.1:=λe=>by have:=G.rX _ g;dsimp only at this;rw[<- e,G.root]at this;exact f _ _ (VL this)
 refine⟨by rw[BN];exact kp _ _ G.root h,λx o=>?_,by rw[rp _ (λ_ _ _ _=>rfl)];exact G.nk,by rw[rp _ (λ_ _ _ _=>rfl)];exact G.na⟩;obtain⟨y,l,rfl⟩:=UY.mp o;by_cases e:y.1=k
 .rw[UP e];have:y=(k,p):=by
   have h1:(xs.map (·.1)).Nodup:=G.nk;obtain⟨i,d⟩:=U3.mp l;obtain⟨j,b⟩:=U3.mp g;have e1:(xs.map (·.1))[i]?=some k:=by rw[U7,d];exact Wo some e
   have e2:(xs.map (·.1))[j]?=some k:=by rw[U7,b];rfl
   have:i=j:=(Yg (UQ.mp e1).1 h1).mp (e1.trans e2.symm);subst this;rw[d]at b;exact VL b
  subst this;exact n
 .rw[UV e];refine kp _ _ (G.rX y l) λq=>e ?_;obtain⟨i,d⟩:=U3.mp l;obtain⟨j,b⟩:=U3.mp g;have e1:(xs.map (·.2.1))[i]?=some p.1:=by rw[U7,d];exact Wo some q
  have e2:(xs.map (·.2.1))[j]?=some p.1:=by rw[U7,b];rfl
  have:i=j:=(Yg (UQ.mp e1).1 G.na).mp (e1.trans e2.symm);subst this;rw[d]at b;rw[VL b]
def DL.new(g:∀q ws,mk q≠.lst ws)(G:DL mk H a xs)(j:iI xs k=none)(m:H l=none)(n:H' l=some (.lst [v]))(ha:H' a=some (mk (xs.kv++[(k,.ref l)])))(kp:∀c u,H c=some u->c≠a->H' c=some u):DL mk H' a (xs++[(k,l,[v])]):=by
 have nl:∀x∈xs,x.2.1≠l:=λx d e=>by have:=G.rX x d;rw[e,m]at this;cases this
 refine⟨by grind,λx d=>?_,?_,?_⟩
 .rcases U4.mp d with h|h
  .refine kp _ _ (G.rX x h) λe=>?_;have:=G.rX x h;rw[e,G.root]at this;exact g _ _ (VL this)
  .rw[U5]at h;subst h;exact n
 .rw[VO,WR];exact⟨G.nk,by simp,λb i c f e=>by rw[UR,WB,U5]at f;subst f;subst e;exact BO j i⟩
 .rw[VO,WR];exact⟨G.na,by simp,λb i c f e=>by rw[UR,WB,U5]at f;subst f;subst e;obtain⟨x,d,q⟩:=UY.mp i;exact nl x d q⟩
end
def Reads(t:TE)(σ:L2.St)(H:Hp)(v:V):Prop:=∀Q:VK,Q v H->t σ H Q
def Makes(t:TE)(σ:L2.St)(H:Hp)(ws:List V):Prop:=∀Q:VK,(∀p,H p=none->Q (.ref p) (aP H p (.tup ws)))->t σ H Q
section
variable{K:Yy}
def Reads.va(h:σ[i]?=some (some v)):Reads (aK i) σ H v:=λ_ q=>⟨_,h,q⟩
def Reads.k:Reads (tC v) σ H v:=λ_ q=>q
def Reads.op(ha:Reads ta σ H x)(a:Reads tb σ H y)(h:∀Q:VK,Q z H->r x y H Q):Reads (mn r ta tb) σ H z:=λQ q=>ha _ (a _ (h Q q))
def Reads.ix(h:Reads ta σ H (.ref b))(hs:H b=some (.tup ws))(e:dk ws n=some v):Reads (mn (qB K) ta (tC (.int n))) σ H v:=h.op .k λ_ q=>⟨b,ws,n,v,rfl,rfl,SqT.of hs,e,q⟩
def Reads.fld(h:Reads ta σ H (.ref o))(a:∃b,H o=some (.ins C b fs))(cl:vy K C)(n:NoAttr K C f)(c:fs.lookup f=some v):Reads (gh K ta f) σ H v:=λQ q=>by obtain⟨b,a⟩:=a;exact h _ ⟨o,C,b,_,_,rfl,a,cl,n,c,q⟩
def LH(h:Reads ta σ H (.ref o))(a:∃b,H o=some (.ins C b fs))(cl:vy K C)(n:NoAttr K C f)(c:fs.lookup f=some v)(q:Q v H):gh K ta f σ H Q:=Reads.fld h a cl n c _ q
def ReadsA(t:TA)(σ:L2.St)(H:Hp)(vs:List V):Prop:=∀Q:List V->Hp->Prop,Q vs H->t σ H Q
def ReadsA.ni:ReadsA bB σ H []:=λ_ q=>q
def ReadsA.c(h:Reads ta σ H v)(k:ReadsA tr σ H vs):ReadsA (aB ta tr) σ H (v::vs):=λ_ q=>h _ (k _ q)
def Makes.t(h:ReadsA tr σ H ws)(l:Nat.ble ws.length 9=true):Makes (kh tr) σ H ws:=λ_ q=>h _ ⟨Vf (Nat.le_of_ble_eq_true l) (by decide),q⟩
def LI(h:ReadsA tr σ H ws)(l:Nat.ble ws.length 9=true)(k:∀p,H p=none->Q (.ref p) (aP H p (.tup ws))):kh tr σ H Q:=Makes.t h l _ k
def wV(h:Reads ta σ H (.ref b))(a:∃c,H b=some (.ins C c fs))(d:fs.lookup m=none)(ha:ReadsA tr σ H vs)(k:sp (.ref b::(vs++dvs)) H Q E):gq C m sp dvs E ta tr σ H Q:=by obtain⟨c,a⟩:=a;exact h _ ⟨b,c,fs,rfl,a,d,ha _ k⟩
def Jv{Q:L2.St->Hp->Prop}(a:H b=some (.tup [v,w]))(k:Q ((σ.set i (some v)).set j (some w)) H):iX K 2 (bm (aT i) (bm (aT j) iW)) (.ref b) σ H Q:=⟨b,_,rfl,SqT.of a,rfl,_,_,rfl,_,_,rfl,rfl,k⟩
def wW{t u:TS}{D:Ends}(h:Reads te σ H (.bl c))(k1:c=true->t D σ H)(k2:¬c=true->u D σ H):xY (o6 te) t u D σ H:=h _ ⟨_,rfl,Sz k1 k2⟩
end
def oK{κ:Type}[DecidableEq κ](xs:DX κ)(k:κ)(l:Addr)(v:V):DX κ:=if(iI xs k).isSome then oJ xs k v else xs++[(k,l,[v])]
def pz(K:Yy)(to tk a:TE):TE:=OF K "list" mQ (OF K "dict" Dv to (aB tk (aB (vS bB) bB))) (aB a bB)
def Ai{κ:Type}[DecidableEq κ]{mk:List (κ×V)->HO}(r:∀q ws,mk q≠.lst ws){K:Yy}{y:TE}{σ:L2.St}{H:Hp}{a l:Addr}{xs:DX κ}{k:κ}{ws:List V}{C:Hp->Prop}(G:DL mk H a xs)(i:H l=none)
 (s:∀H',(∀c u,H c=some u->c≠a->H' c=some u)->Makes y σ H' ws) (I:∀x∈xs,x.2.2.length<16000000)
 (E:∀(l p:Addr)(H':Hp),H l=none->H p=none->H' p=some (.tup ws)->DL mk H' a (oK xs k l (.ref p))->(∀c u,H c=some u->¬cD a xs c->H' c=some u)->C H') :
 (∃v,c9 xs.kv k=some v/\OE K "list" v (aP H l (.lst []))/\aB y bB σ (aP H l (.lst [])) λxs A=>mQ v xs A λ_ H'=>C H')\/(c9 xs.kv k=none/\OE K "list" (.ref l) (aP (aP H l (.lst [])) a (mk (cj xs.kv k (.ref l))))/\aB y bB σ (aP (aP H l (.lst [])) a (mk (cj xs.kv k (.ref l)))) λxs A=>mQ (.ref l) xs A λ_ H'=>C H'):=by
 have sz:∀n,n<16000000->n<sizeLine:=λn h=>by rw[Vk];lia
 have B:H a≠none:=by rw[G.root];simp
 have f:a≠l:=λe=>B (by rw[e];exact i);have m:∀c u,H c=some u->aP H l (.lst []) c=some u:=λc u e=>by rw[af (av e i)];exact e
 cases d:iI xs k with
 |some q=>
  left;have F:=G.rX _ (eJ d);refine⟨.ref q.1,by rw[mI,d];rfl,.inl ⟨rfl,_,SqL.of (m _ _ F)⟩,s _ (λc u e _=>m c u e) _ λp j=>?_⟩;have b:H p=none:=(aQ i).free j;have t:q.1≠p:=λe=>by grind
  refine⟨q.1,q.2,.ref p,rfl,rfl,by rw[af t];exact m _ _ F,sz _ (I _ (eJ d)),?_⟩;have kp:∀c u,H c=some u->c≠q.1->aP (aP (aP H l (.lst [])) p (.tup ws)) q.1 (.lst (q.2++[.ref p])) c=some u:=λc u e g=>by rw[af g,af (av e b)];exact m c u e
  refine E l p _ i b (by rw[af (V2 t),ag]) ?_ λc u e g=>kp c u e λz=>g (.inr ⟨_,eJ d,z⟩);unfold oK;rw[d,UP (by simp)];exact G.old r d ag kp
 |none=>
  right;refine⟨by rw[mI,d];rfl,.inl ⟨rfl,[],SqL.of (by rw[af (V2 f),ag])⟩,s _ (λc u e g=>by rw[af g];exact m c u e) _ λp j=>?_⟩;have D:c9 xs.kv k=none:=by rw[mI,d];rfl
  have w:p≠a:=λe=>by rw[e,ag]at j;cases j
  have o:p≠l:=λe=>by rw[e,af (V2 f),ag]at j;cases j
  have b:H p=none:=by rw[af w,af o]at j;exact j
  refine⟨l,[],.ref p,rfl,rfl,by rw[af (V2 o),af (V2 f),ag],by decide,?_⟩;refine E l p _ i b (by rw[af o,ag]) ?_ λc u e g=>?_
  .unfold oK;rw[d,UV (by simp)];refine G.new r d i ag (by rw[af f,af (V2 w),ag,vW _ D]) λc u e g=>?_;rw[af (av e i),af (av e b),af g];exact m c u e
  .rw[af (av e i),af (av e b),af (λz=>g (.inl z))];exact m c u e
def uV{K:Yy}{to tk i:TE}{σ:L2.St}{H:Hp}{C:Hp->Prop}(G:DL .dT H a xs)(f:Reads to σ H (.ref a))(g:Reads tk σ H (.ref b))(m:H b=some (.tup (k.map kV)))
 (h:∀H',(∀c u,H c=some u->c≠a->H' c=some u)->Makes i σ H' ws) (hz:xs.length<16000000) (n:∀x∈xs,x.2.2.length<16000000)
 (o:∀(l p:Addr)(H':Hp),H l=none->H p=none->H' p=some (.tup ws)->DL .dT H' a (oK xs k l (.ref p))->(∀c u,H c=some u->¬cD a xs c->H' c=some u)->C H') :
 pz K to tk i σ H λ_ H'=>C H':=by
 have j:∀l,H l=none->∀c u,H c=some u->aP H l (.lst []) c=some u:=λl d c u e=>by rw[af (av e d)];exact e
 exact f _ ⟨.inr (.inr (.inl ⟨rfl,.inr ⟨_,G.root⟩⟩)),g _ ⟨Vo _,λl d=>⟨a,b,k,.ref l,xs.kv,rfl,rfl,j l d _ _ m,.inl (j l d _ _ G.root),by unfold DX.kv;rw[UO,Vk];lia,Ai (mk:=.dT) (λ_ _ z=>HO.noConfusion z) G d h n o⟩⟩⟩
def Jw(K:Yy)(to tk a:TE):TE:=OF K "list" mQ (OF K "dict" Jk to (aB tk (aB (vS bB) bB))) (aB a bB)
def HB{K:Yy}{to tk g:TE}{σ:L2.St}{H:Hp}{C:Hp->Prop}(G:DL .dK H a xs)(d:Reads to σ H (.ref a))(e:Reads tk σ H (.int i))
 (f:∀H',(∀c u,H c=some u->c≠a->H' c=some u)->Makes g σ H' ws) (hz:xs.length<16000000) (h:∀x∈xs,x.2.2.length<16000000)
 (j:∀(l p:Addr)(H':Hp),H l=none->H p=none->H' p=some (.tup ws)->DL .dK H' a (oK xs (.inl i) l (.ref p))->(∀c u,H c=some u->¬cD a xs c->H' c=some u)->C H') :
 Jw K to tk g σ H λ_ H'=>C H':=by
 have k:∀l,H l=none->aP H l (.lst []) a=some (.dK xs.kv):=λl b=>by rw[af (av G.root b)];exact G.root
 exact d _ ⟨.inr (.inr (.inl ⟨rfl,.inl ⟨_,G.root⟩⟩)),e _ ⟨Vo _,λl b=>⟨a,.inl i,.ref l,xs.kv,rfl,rfl,.inl (k l b),by unfold DX.kv;rw[UO,Vk];lia,Ai (mk:=.dK) (λ_ _ z=>HO.noConfusion z) G b f h j⟩⟩⟩
section
def Jx:V->List V->Hp->VK->Prop:=λx xs H Q=>∃i,x=.int i/\xs=[]/\Q (.int (Builtin.Int.intBits i)) H
def HC:KQ X "int.bit_length" Jx:=by intro ac s σ H x xs v us Q I a rs q;obtain⟨i,rfl,rfl,q⟩:=q;obtain⟨t,rfl⟩:=a;cases rs;exact call_int_bit_length ⟨.int _,H,I.tok _,⟨_,rfl⟩,q⟩
end
structure NW(C:Addr) (H:Hp) (q ap:Addr) (last:Int) (xs:DX bH):Prop where
 ins:∃dx,H q=some (.ins C dx [("last",.int last),("piles",.ref ap)])
 aF:DL .dK H ap xs
 nY:xs.length<16000000
 low:∀x∈xs,x.2.2.length<16000000
structure vE(K:Yy) (C:Addr):Prop where
 cl:vy K C
 nl:NoAttr K C "last"
 np:NoAttr K C "piles"
def ax(a last:Int):Int:=Builtin.Int.intBits (Builtin.bitXor a last)
def Pc(K:Yy):TE:=Jw K (gh K (aK 0) "piles") (KW K "int" Jx (mn (x5 λi j=>.int (Builtin.bitXor i j)) (aK 1) (gh K (aK 0) "last"))) (kh (aB (aK 1) (aB (aK 2) bB)))
def LJ{K:Yy}{C q ap b:Addr}{H:Hp}{e:Hp->Prop}(T:vE K C)(G:NW C H q ap last xs)(f:σ[0]?=some (some (.ref q)))(h1:σ[1]?=some (some (.int price)))(g:σ[2]?=some (some (.ref b)))
 (j:∀(l p:Addr)(H':Hp),H l=none->H p=none->H' p=some (.tup [.int price,.ref b])->(∃a,H' q=some (.ins C a [("last",.int last),("piles",.ref ap)]))->DL .dK H' ap (oK xs (.inl (ax price last)) l (.ref p))->(∀c u,H c=some u->¬cD ap xs c->H' c=some u)->e H') :
 Pc K σ H λ_ H'=>e H':=by
 obtain⟨a,d⟩:=G.ins;have k:¬cD ap xs q:=λz=>by
  rcases z with z|⟨x,m,z⟩
  .have:=G.aF.root;rw[<- z,d]at this;cases this
  .have:=G.aF.rX x m;rw[<- z,d]at this;cases this
 refine HB (ws:=[.int price,.ref b]) (i:=ax price last) G.aF (λQ h=>⟨_,f,q,C,a,_,_,rfl,d,T.cl,T.np,rfl,h⟩) (λQ h=>?_) (λH' _ Q h=>⟨_,h1,_,g,(by show 2<=sizeLine;decide),h⟩) G.nY G.low λl p H' n o r hd kp=>j l p H' n o r ⟨a,kp _ _ d k⟩ hd kp;exact⟨_,h1,_,f,q,C,a,_,_,rfl,d,T.cl,T.nl,rfl,_,_,rfl,rfl,rfl,_,rfl,rfl,h⟩
inductive ub(C:Addr):Sp
 |mk {q ap b:Addr} {last price:Int} {xs:DX bH} {H:Hp} {Q:VK} {E:XK} (G:NW C H q ap last xs) (k:∀(l p:Addr)(H':Hp),H l=none->H p=none->H' p=some (.tup [.int price,.ref b])->(∃dx,H' q=some (.ins C dx [("last",.int last),("piles",.ref ap)]))->DL .dK H' ap (oK xs (.inl (ax price last)) l (.ref p))->(∀c u,H c=some u->¬cD ap xs c->H' c=some u)->Q .bv H'):ub C [.ref q,.int price,.ref b] H Q E
def BP(h:ub C vs H Q E):vs.length=3:=by cases h;rfl
def Eu{K:Yy}{C:Addr}{vs:List V}(T:vE K C)(h:ub C vs H Q E)(a:N.length=3):fL (Pc K) {nx:=λ_ H'=>Q .bv H',rt:=Q} (cq N vs) H:=by obtain⟨G,k⟩:=h;exact LJ T G rfl rfl rfl k
section
variable{κ:Type}[DecidableEq κ]{mk:List (κ×V)->HO}{H H':Hp}{a:Addr}{xs:DX κ}{k:κ}{p:Addr×List V}
def nw(xs:DX κ)(k:κ):DX κ:=xs.filter λx=>decide (x.1≠k)
def Ew(xs:DX κ)(k:κ):(nw xs k).kv=lR xs.kv k:=by unfold nw lR DX.kv;rw[List.filter_map];rfl
theorem DL.drop(h:∀q ws,mk q≠.lst ws)(G:DL mk H a xs)(m:iI xs k=some p)(ha:H' a=some (mk (lR xs.kv k)))(kp:∀c u,H c=some u->c≠a->H' c=some u) :
 DL mk H' a (nw xs k)/\H' p.1=some (.lst p.2)/\¬cD a (nw xs k) p.1:=by
 have g:=eJ m;have b:∀x∈xs,x.2.1≠a:=λx d e=>by have:=G.rX x d;rw[e,G.root]at this;exact h _ _ (VL this)
 have sub:(nw xs k).Sublist xs:=List.filter_sublist;refine⟨⟨by rw[Ew];exact ha,λx d=>?_,(sub.map _).nodup G.nk,(sub.map _).nodup G.na⟩,kp _ _ (G.rX _ g) (b _ g),λz=>?_⟩
 .have f:=(Vd.mp d).1;exact kp _ _ (G.rX x f) (b x f)
 .rcases z with z|⟨x,d,z⟩
  .exact b _ g z
  .obtain⟨h1,n⟩:=Vd.mp d;have l:x.1≠k:=VN n;obtain⟨i,o⟩:=U3.mp h1;obtain⟨j,r⟩:=U3.mp g;have e1:(xs.map (·.2.1))[i]?=some p.1:=by grind
   have e2:(xs.map (·.2.1))[j]?=some p.1:=by grind
   have:i=j:=(Yg (UQ.mp e1).1 G.na).mp (e1.trans e2.symm);subst this;rw[o]at r;exact l (by grind)
end
end L4
namespace L4
open PySem PySem.Spec PySem.Calls PyProof.Rows L2 L3
section
abbrev wY(v d:Addr):HO:=.ext λh=>PySem.W.KdlKeysView h v d
def Jy:V->List V->Hp->VK->Prop:=λx xs H Q=>∃a kvs,x=.ref a/\xs=[]/\H a=some (.dK kvs)/\∀v,H v=none->Q (.ref v) (aP H v (wY v a))
def HD:KQ X "dict.keys" Jy:=by intro ac s σ H x xs v us Q I b rs q;obtain⟨a,kvs,rfl,rfl,ha,q⟩:=q;obtain rfl:v=Value.ref a:=b;cases rs;obtain⟨z,hd,vs,c,dd⟩:=vX I.aU ha;refine WC PySem.F.slot_dict_keys dd.typeIs PySem.F.entry_dict_keys (PySem.F.args_dict_keys_1 _) (PySem.W.kdl_meets_keys (aI X.prog X.w) a hd) ?_;have d:PySem.W.KdlKeysView (s.heap.push { cls:=.type "dict_keys",data:=.fields #[.ref a] }) s.heap.objs.size a:=⟨_,UU _ rfl,rfl,rfl⟩;exact⟨⟨vs,dd⟩,.ref s.heap.objs.size,_,I.laid (a:=s.heap.objs.size) (o:=wY s.heap.objs.size a) (t':=s.toks) (λ_ _ e=>RW _ e) (UN _) ⟨d,⟨_,UU _ rfl⟩,λh1 g ⟨o,f,r⟩ k=>⟨o,k _ f,r⟩⟩,rfl,q _ (I.aU.fresh (UN _))⟩
def Jz:List V->Hp->VK->Prop:=λxs H Q=>∃(v a:Addr)(kvs:List (bH×V))(ns:List Int),xs=[.ref v]/\H v=some (wY v a)/\H a=some (.dK kvs)/\kvs.map (·.1)=ns.map Sum.inl/\ns≠[]/\Q (.int (uA ns)) H
def BQ(K:X.calm=true):CallR X (.builtin "min") Jz:=by
 intro ac s σ H xs us Q I r q;obtain⟨v,a,kvs,ns,rfl,m,ha,D,p,q⟩:=q;obtain⟨u,rfl,L⟩:=fM r;obtain rfl:u=Value.ref v:=L;obtain⟨z,hd,vs,d,dd⟩:=vX I.aU ha;obtain⟨y,_,_⟩:=(show ObjOk X.prog X.w H s.heap v (wY v a)from I.aU v _ m);obtain⟨M,E⟩:=dd.dictAt;have N:=d.length;have O:kvs.length=ns.length:=by have:=Wo List.length D;simpa using this
 have f:∀(i:Nat)(k:bH)(x:YA),vs[i]?=some (k,x)->∃n,ns[i]?=some n/\k=.inl n:=λi k x e=>by
  have F:i<kvs.length:=by rw[N];exact(UQ.mp e).1
  obtain⟨e1,_⟩:=d.at i _ _ (VP F) e;have e2:(kvs.map (·.1))[i]?=some k:=by rw[U7,VP F];exact Wo some e1
  rw[D,U7]at e2;obtain⟨n,h1,P⟩:=VF.mp e2;exact⟨n,h1,P.symm⟩
 generalize c:(ns.map λn=>(n,(0:Tok))).toArray=ps;have hsz:ps.size=ns.length:=by rw[<- c];simp
 have g:∀(i:Nat)(n:Int),ns[i]?=some n->numAt ps i=n:=λi n e=>by unfold numAt;rw[<- c];simp[e]
 have B:ps.toList.map (·.1)=ns:=by rw[<- c];simp[Function.comp_def]
 have G:0<ns.length:=Xn.mpr p;have h:a≠s.heap.objs.size:=by obtain⟨o,_,_,C,_⟩:=dd;exact U9 (UX C)
 refine call_min_walk (PySem.W.kdl_pyIter_keys (knd:=aI X.prog X.w) (s:=s) y E ?_);refine⟨_,_,_,_,_,_,_,rfl,Walks.dictKeys (knd:=aI X.prog X.w) (A:=X.A.in1) (I.ok.hd K) s.heap.objs.size a h vs M,⟨⟨_,UU _ rfl,rfl,rfl⟩,E.at' λo e=>RW _ e⟩,λb l=>?_,by lia,CmpOf.ints_lt (numAt ps) (λi v m=>?_),λv h' tk R kp=>?_⟩
 .simp only[US,U0,Yw]at l;rw[WN];rcases l with rfl|rfl
  .exact WH _
  .obtain⟨o,_,_,C,_⟩:=dd;exact WU (UX C)
 .obtain⟨k,x,e1,e2⟩:=m;obtain⟨n,e3,rfl⟩:=f i k x e1;obtain⟨j,t,e4,rfl⟩|⟨j,t,e4,_⟩:=bw (show lP (.inl n) v=true from e2)
  .cases e4;exact⟨t,by rw[g i n e3]⟩
  .cases e4
 .obtain⟨k,x,e1,e2⟩:=R;obtain⟨n,e3,rfl⟩:=f _ k x e1;obtain⟨j,t,e4,rfl⟩|⟨j,t,e4,_⟩:=bw (show lP (.inl n) v=true from e2)
  .cases e4;have l:=jd ps (vs.length-1) (by lia);rw[g _ n e3,B,VG (by lia)]at l;exact⟨.int n,H,I.kept (t':=tk) λb o e=>kp b o (λJ=>by rw[U5]at J;subst J;exact Wy _ (UX e)) (RW _ e),⟨t,rfl⟩,by rw[l];exact q⟩
  .cases e4
end
end L4
namespace L4
open PySem PySem.Spec PyProof.Rows L2 L3
inductive fI{α β:Type} (R:α->β->Prop):List α->List β->Prop where
 |nil:fI R [] []
 |cons {x y xs ys}:R x y->fI R xs ys->fI R (x::xs) (y::ys)
section
variable{α β:Type}{R R':α->β->Prop}
def fI.len(h:fI R xs ys):xs.length=ys.length:=by
 induction h with
 |nil=>rfl
 |cons _ _ a=>rw[U1,U1,a]
def fI.mono(f:∀x y,R x y->R' x y)(h:fI R xs ys):fI R' xs ys:=by
 induction h with
 |nil=>exact .nil
 |cons a _ b=>exact .cons (f _ _ a) b
def fI.snoc(h:fI R xs ys)(r:R x y):fI R (xs++[x]) (ys++[y]):=by
 induction h with
 |nil=>exact .cons r .nil
 |cons a _ b=>exact .cons a b
theorem fI.get(h:fI R xs ys){i:Nat}(e:ys[i]?=some y):∃x,xs[i]?=some x/\R x y:=by
 induction h generalizing i with
 |nil=>simp at e
 |cons a _ b=>
  cases i with
  |zero=>simp at e;subst e;exact⟨_,rfl,a⟩
  |succ i=>simp at e;obtain⟨x,e1,e2⟩:=b e;exact⟨x,by simpa using e1,e2⟩
def fI.RC{b c:Type}{T:b->c->Prop}(f:α->b)(g:β->c)(k:∀x y,R x y->T (f x) (g y))(h:fI R xs ys):fI T (xs.map f) (ys.map g):=by
 induction h with
 |nil=>exact .nil
 |cons a _ d=>exact .cons (k _ _ a) d
end
def KT(H H':Hp):Prop:=∀a ws,H a=some (.tup ws)->H' a=some (.tup ws)
section
variable{κ κ' α:Type}[DecidableEq κ][DecidableEq κ'](key:κ->κ')(it:Hp->α->V->Prop)
abbrev RepM(H:Hp)(d:Pz.MD κ α)(xs:DX κ'):Prop:=fI (λx y=>y.1=key x.1/\fI (it H) x.2 y.2.2) d xs
variable{key it}
def RepM.keep(b:∀a v,it H a v->it H' a v)(h:RepM key it H d xs):RepM key it H' d xs:=h.mono λ_ _ ⟨e,a⟩=>⟨e,a.mono b⟩
def RepM.find(inj:∀a b,key a=key b->a=b)(h:RepM key it H d xs)(k:κ) :
 (iI xs (key k)=none/\d.has k=false/\d.get k=[])\/∃p,iI xs (key k)=some p/\d.has k=true/\fI (it H) (d.get k) p.2:=by
 induction h with
 |nil=>exact .inl ⟨rfl,rfl,rfl⟩
 |@cons x y d xs r _ c=>
  unfold iI at c ⊢;unfold Pz.MD.has at c ⊢;rw[WF,Pz.cV,WK];by_cases e:x.1=k
  .right;have:y.1=key k:=by rw[r.1,e]
   rw[U6 this,U6 e,UP e];exact⟨y.2,rfl,rfl,r.2⟩
  .have:¬y.1=key k:=λz=>e (inj _ _ (r.1.symm.trans z));rw[U_ this,U_ e,UV e,Yh];exact c
def RepM.add(inj:∀a b,key a=key b->a=b)(g:∀a v,it H a v->it H' a v)(h:RepM key it H d xs)(c:it H' v (.ref p)):RepM key it H' (d.app k v) (oK xs (key k) l (.ref p)):=by
 have h':=h.keep g;unfold Pz.MD.app oK;rcases h.find inj k with⟨e1,e2,_⟩|⟨q,e1,e2,_⟩
 .rw[e1,e2];exact h'.snoc ⟨rfl,.cons c .nil⟩
 .rw[e1,e2];refine h'.RC _ _ λx y ⟨f,i⟩=>?_;by_cases e:x.1=k
  .have:y.1=key k:=by rw[f,e]
   rw[UP e,UP this];exact⟨f,i.snoc c⟩
  .grind
theorem RepM.drop(inj:∀a b,key a=key b->a=b)(h:RepM key it H d xs)(k:κ):RepM key it H (d.drop k) (nw xs (key k)):=by
 induction h with
 |nil=>exact .nil
 |@cons x y d xs r _ c=>
  unfold Pz.MD.drop nw at c ⊢;by_cases e:x.1=k
  .have:y.1=key k:=by rw[r.1,e]
   rw[List.filter_cons_of_neg (by simpa using e),List.filter_cons_of_neg (by simpa using this)];exact c
  .have:¬y.1=key k:=λz=>e (inj _ _ (r.1.symm.trans z));rw[List.filter_cons_of_pos (by simpa using e),List.filter_cons_of_pos (by simpa using this)];exact .cons r c
theorem RepM.keys(h:RepM key it H d xs):xs.map (·.1)=d.keys.map key:=by
 induction h with
 |nil=>rfl
 |cons r _ a=>grind
def RepM.low(h:RepM key it H d xs)(a:d.flat.length<n):∀x∈xs,x.2.2.length<n:=by
 induction h with
 |nil=>exact λ_ h=>(U0 h).elim
 |@cons x y d xs r _ b=>
  unfold Pz.MD.flat at a b;rw[Xb,Vc]at a;intro z hz;rcases US.mp hz with rfl|hz
  .have:=r.2.len;lia
  .exact b (by lia) z hz
end
def vO:Option Int->V
 |none=>.bv
 |some i=>.int i
noncomputable def oM(a:Pz.bc):List V:=[.int a.1,.int a.2.1,.int a.2.2]
def IsArr(H:Hp)(a:Pz.bc)(v:V):Prop:=∃p,v=.ref p/\H p=some (.tup (oM a))
def IsRule(H:Hp)(r:Pz.aV)(v:V):Prop:=∃p q,v=.ref p/\H p=some (.tup [.int r.1,.int r.2.1,.int r.2.2.1,.ref q])/\H q=some (.tup (r.2.2.2.map .int))
def IsVal(H:Hp)(x:Pz.nX)(v:V):Prop:=∃p,v=.ref p/\H p=some (.tup [.int x.1,vO x.2.1,vO x.2.2])
def IsItem(H:Hp)(x:Int×Pz.bc)(v:V):Prop:=∃p w,v=.ref p/\H p=some (.tup [.int x.1,w])/\IsArr H x.2 w
def IsSet(H:Hp)(x:Int×Int)(v:V):Prop:=∃p,v=.ref p/\H p=some (.tup [.int x.1,.int x.2])
def IsLack(H:Hp)(x:Int×Pz.aV×Int)(v:V):Prop:=∃p w,v=.ref p/\H p=some (.tup [.int x.1,w,.int x.2.2])/\IsRule H x.2.1 w
def IsNum(H:Hp)(x:Int×Pz.aV)(v:V):Prop:=∃p w,v=.ref p/\H p=some (.tup [.int x.1,w])/\IsRule H x.2 w
section
variable(k:KT H H')
include k
def IsArr.keep(a:Pz.bc)(v:V):IsArr H a v->IsArr H' a v:=λ⟨p,e,h⟩=>⟨p,e,k _ _ h⟩
def IsRule.keep(a:Pz.aV)(v:V):IsRule H a v->IsRule H' a v:=λ⟨p,q,e,h,g⟩=>⟨p,q,e,k _ _ h,k _ _ g⟩
def IsVal.keep(a:Pz.nX)(v:V):IsVal H a v->IsVal H' a v:=λ⟨p,e,h⟩=>⟨p,e,k _ _ h⟩
theorem IsItem.keep(a:Int×Pz.bc)(v:V):IsItem H a v->IsItem H' a v:=λ⟨p,w,e,h,g⟩=>⟨p,w,e,k _ _ h,IsArr.keep k _ _ g⟩
def IsSet.keep(a:Int×Int)(v:V):IsSet H a v->IsSet H' a v:=λ⟨p,e,h⟩=>⟨p,e,k _ _ h⟩
theorem IsLack.keep(a:Int×Pz.aV×Int)(v:V):IsLack H a v->IsLack H' a v:=λ⟨p,w,e,h,g⟩=>⟨p,w,e,k _ _ h,IsRule.keep k _ _ g⟩
theorem IsNum.keep(a:Int×Pz.aV)(v:V):IsNum H a v->IsNum H' a v:=λ⟨p,w,e,h,g⟩=>⟨p,w,e,k _ _ h,IsRule.keep k _ _ g⟩
end
def ak(a:Pz.bc):List bH:=[.inl a.1,.inl a.2.1,.inl a.2.2]
def yW(a b:Pz.bc)(h:ak a=ak b):a=b:=by grind [ak]
noncomputable def k2(k:Int×Int):List bH:=[.inl k.1,.inl k.2]
theorem rq(a b:Int×Int)(h:k2 a=k2 b):a=b:=by grind [k2]
def k1(i:Int):bH:=.inl i
def oN(a b:Int)(h:k1 a=k1 b):a=b:=Yk h
abbrev RepT(H:Hp)(t:Pz.TD)(kt:List (List bH×V)):Prop:=fI (λx y=>y.1=ak x.1/\IsVal H x.2 y.2) t kt
theorem RepT.keep(k:KT H H')(h:RepT H t kt):RepT H' t kt:=h.mono λ_ _ ⟨e,a⟩=>⟨e,IsVal.keep k _ _ a⟩
def RepT.find(h:RepT H t kt)(a:Pz.bc) :
 (c9 kt (ak a)=none/\Pz.bL t a=none)\/∃v x,c9 kt (ak a)=some v/\Pz.bL t a=some x/\IsVal H x v:=by
 induction h with
 |nil=>exact .inl ⟨rfl,rfl⟩
 |@cons x y t kt r _ b=>
  rw[Pz.dW];by_cases e:x.1=a
  .have:y.1=ak a:=by rw[r.1,e]
   rw[UP e,gV this];exact .inr ⟨_,_,rfl,rfl,r.2⟩
  .have:¬y.1=ak a:=λz=>e (yW _ _ (r.1.symm.trans z));rw[UV e,gW this];exact b
def RepT.put(h:RepT H t kt)(c:IsVal H x v):RepT H (Pz.tput t a x) (cj kt (ak a) v):=by
 unfold Pz.tput cj;rw[kq];rcases h.find a with⟨e1,e2⟩|⟨w,y,e1,e2,_⟩
 .rw[e1,e2];exact h.snoc ⟨rfl,c⟩
 .rw[e1,e2];refine h.RC _ _ λz y ⟨b,d⟩=>?_;by_cases e:z.1=a
  .have:y.1=ak a:=by rw[b,e]
   rw[UP e,UP this];exact⟨b,c⟩
  .have:¬y.1=ak a:=λq=>e (yW _ _ (b.symm.trans q));rw[UV e,UV this];exact⟨b,d⟩
def lB{κ:Type}[DecidableEq κ]{xs:DX κ}{k:κ}{l a c:Addr}{v:V}(h:cD a (oK xs k l v) c):cD a xs c\/c=l:=by
 rcases h with h|⟨x,hx,h⟩
 .exact .inl (.inl h)
 .unfold oK at hx;split at hx
  .obtain⟨y,b,rfl⟩:=UY.mp hx;refine .inl (.inr ⟨y,b,?_⟩);rw[h];split<;>rfl
  .rcases U4.mp hx with hx|hx
   .exact .inl (.inr ⟨x,hx,h⟩)
   .rw[U5]at hx;subst hx;exact .inr h
section
variable{κ κ' α:Type}[DecidableEq κ][DecidableEq κ'](mk:List (κ'×V)->HO)(key:κ->κ')(it:Hp->α->V->Prop)
structure PM(col:Addr->Nat) (j:Nat) (B H:Hp) (a:Addr) (dd:Pz.MD κ α) (xs:DX κ'):Prop where
 d:DL mk H a xs
 r:RepM key it H dd xs
 c:∀c,cD a xs c->col c=j/\B c=none
variable{mk key it}{d:Pz.MD κ α}
def DL.obj(h:DL mk H a xs)(b:cD a xs c):H c≠none:=by
 grind [DL,cD]
def DL.keep(h:DL mk H a xs)(kp:∀c u,H c=some u->cD a xs c->H' c=some u):DL mk H' a xs:=⟨kp _ _ h.root (.inl rfl),λx b=>kp _ _ (h.rX x b) (.inr ⟨x,b,rfl⟩),h.nk,h.na⟩
theorem PM.keep(h:PM mk key it col j B H a d xs)(b:∀x v,it H x v->it H' x v)(kp:∀c u,H c=some u->col c=j->H' c=some u)(f:∀c,H c≠none->col' c=col c):PM mk key it col' j B H' a d xs:=⟨h.d.keep λc u e i=>kp c u e (h.c c i).1,h.r.keep b,λc i=>⟨by rw[f c (h.d.obj i)];exact(h.c c i).1,(h.c c i).2⟩⟩
def DL.kt(b:∀q ws,mk q≠.tup ws)(h:DL mk H a xs)(kp:∀c u,H c=some u->¬cD a xs c->H' c=some u):KT H H':=by
 grind [DL,cD,KT]
def uW(a:Addr->Nat)(j:Nat)(H:Hp):Addr->Nat:=λc=>open Classical in if H c=none then j else a c
def bC(b:H a≠none):uW col j H a=col a:=by unfold uW;rw[UV b]
def Ex(b:H a=none):uW col j H a=j:=by unfold uW;rw[UP b]
def PM.new(h:PM mk key it col j B H a d xs)(sm:Same B H)(h1:DL mk H' a xs')(b:RepM key it H' d' xs')(f:∀c,cD a xs' c->cD a xs c\/H c=none):PM mk key it (uW col j H) j B H' a d' xs':=
 ⟨h1,b,λc i=>by
   rcases f c i with i|e
   .rw[bC (h.d.obj i)];exact h.c c i
   .exact⟨Ex e,sm.free e⟩⟩
def PM.base(h:PM mk key it col j B H a d xs)(b:∀c,cD a xs c->B' c=none):PM mk key it col j B' H a d xs:=⟨h.d,h.r,λc i=>⟨(h.c c i).1,b c i⟩⟩
end
structure PA where
 o:Addr
 ta:Addr
 aq:Addr
 ap:Addr
 sa:Addr
 la:Addr
 ar:Addr
noncomputable def pf(A:PA):List (Str×V):=[("rules",.ref A.ar),("told",.ref A.ta),("offers",.ref A.aq),("settled",.ref A.sa),("lacking",.ref A.la)]
noncomputable abbrev qf(A:PA)(last:Int):List (Str×V):=[("last",.int last),("piles",.ref A.ap)]
structure PO(CP CQ:Addr) (col:Addr->Nat) (B H:Hp) (A:PA) (last:Int) (t:Pz.TD) (kt:List (List bH×V)):Prop where
 ins:∃dx,H A.o=some (.ins CP dx (pf A))
 F8:∃dx,H A.aq=some (.ins CQ dx (qf A last))
 td:H A.ta=some (.dT kt)
 tr:RepT H t kt
 c5:col A.ta=5/\B A.ta=none
 c6:col A.o=6/\B A.o=none
 c7:col A.aq=7/\B A.aq=none
structure bA(CP CQ:Addr) (B H:Hp) (A:PA) (rs:Pz.RS) (S:Pz.PS) (xs xl xr:DX (List bH)) (xp:DX bH) (kt:List (List bH×V)) (col:Addr->Nat):Prop where
 same:Same B H
 p1:PM .dK k1 IsItem col 1 B H A.ap S.aF xp
 p2:PM .dT k2 IsSet col 2 B H A.sa S.settled xs
 p3:PM .dT k2 IsLack col 3 B H A.la S.aJ xl
 p4:PM .dT k2 IsNum col 4 B H A.ar rs xr
 po:PO CP CQ col B H A S.last S.told kt
def PAt(CP CQ:Addr)(B H:Hp)(A:PA)(rs:Pz.RS)(S:Pz.PS)(xs b c:DX (List bH)):Prop:=∃d kt a,bA CP CQ B H A rs S xs b c d kt a
section
theorem PO.keep(h:PO CP CQ col B H A last t kt)(k:KT H H')(kp:∀c u,H c=some u->5<=col c->col c<=7->H' c=some u)(a:∀c,H c≠none->col' c=col c):PO CP CQ col' B H' A last t kt:=by
 obtain⟨⟨b,h1⟩,⟨d,e⟩,f,g,c5,c6,c7⟩:=h;refine⟨⟨b,kp _ _ h1 (by lia) (by lia)⟩,⟨d,kp _ _ e (by lia) (by lia)⟩,kp _ _ f (by lia) (by lia),g.keep k,?_,?_,?_⟩
 .rw[a _ (by grind)];exact c5
 .rw[a _ (by grind)];exact c6
 .rw[a _ (by grind)];exact c7
def bA.pile(h:bA CP CQ B H A rs S xs xl xr xp kt col)(h1:DL .dK H' A.ap xp')(b:RepM k1 IsItem H' d' xp')(f:∀c,cD A.ap xp' c->cD A.ap xp c\/H c=none)
 (kp:∀c u,H c=some u->¬cD A.ap xp c->H' c=some u):bA CP CQ B H' A rs {S with aF:=d'} xs xl xr xp' kt (uW col 1 H):=by
 have k:KT H H':=h.p1.d.kt (λ_ _ z=>HO.noConfusion z) kp;have a:∀c u,H c=some u->col c≠1->H' c=some u:=λc u e n=>kp c u e λi=>n (h.p1.c c i).1;exact⟨(λc u e=>kp c u (h.same c u e) λi=>by rw[(h.p1.c c i).2]at e;cases e),h.p1.new h.same h1 b f,h.p2.keep (IsSet.keep k) (λc u e z=>a c u e (by lia)) λc=>bC,h.p3.keep (IsLack.keep k) (λc u e z=>a c u e (by lia)) λc=>bC,h.p4.keep (IsNum.keep k) (λc u e z=>a c u e (by lia)) λc=>bC,h.po.keep k (λc u e z _=>a c u e (by lia)) λc=>bC⟩
def bA.TH(h:bA CP CQ B H A rs S xs xl xr xp kt col)(h1:DL .dT H' A.sa xs')(b:RepM k2 IsSet H' d' xs')(f:∀c,cD A.sa xs' c->cD A.sa xs c\/H c=none)
 (kp:∀c u,H c=some u->¬cD A.sa xs c->H' c=some u):bA CP CQ B H' A rs {S with settled:=d'} xs' xl xr xp kt (uW col 2 H):=by
 have k:KT H H':=h.p2.d.kt (λ_ _ z=>HO.noConfusion z) kp;have a:∀c u,H c=some u->col c≠2->H' c=some u:=λc u e n=>kp c u e λi=>n (h.p2.c c i).1;exact⟨(λc u e=>kp c u (h.same c u e) λi=>by rw[(h.p2.c c i).2]at e;cases e),h.p1.keep (IsItem.keep k) (λc u e z=>a c u e (by lia)) λc=>bC,h.p2.new h.same h1 b f,h.p3.keep (IsLack.keep k) (λc u e z=>a c u e (by lia)) λc=>bC,h.p4.keep (IsNum.keep k) (λc u e z=>a c u e (by lia)) λc=>bC,h.po.keep k (λc u e z _=>a c u e (by lia)) λc=>bC⟩
def bA.uT(h:bA CP CQ B H A rs S xs xl xr xp kt col)(h1:DL .dT H' A.la xl')(b:RepM k2 IsLack H' d' xl')(f:∀c,cD A.la xl' c->cD A.la xl c\/H c=none)
 (kp:∀c u,H c=some u->¬cD A.la xl c->H' c=some u):bA CP CQ B H' A rs {S with aJ:=d'} xs xl' xr xp kt (uW col 3 H):=by
 have k:KT H H':=h.p3.d.kt (λ_ _ z=>HO.noConfusion z) kp;have a:∀c u,H c=some u->col c≠3->H' c=some u:=λc u e n=>kp c u e λi=>n (h.p3.c c i).1;exact⟨(λc u e=>kp c u (h.same c u e) λi=>by rw[(h.p3.c c i).2]at e;cases e),h.p1.keep (IsItem.keep k) (λc u e z=>a c u e (by lia)) λc=>bC,h.p2.keep (IsSet.keep k) (λc u e z=>a c u e (by lia)) λc=>bC,h.p3.new h.same h1 b f,h.p4.keep (IsNum.keep k) (λc u e z=>a c u e (by lia)) λc=>bC,h.po.keep k (λc u e z _=>a c u e (by lia)) λc=>bC⟩
def bA.more(h:bA CP CQ B H A rs S xs xl xr xp kt col)(s:Same H H'):bA CP CQ B H' A rs S xs xl xr xp kt col:=by have k:KT H H':=λa ws e=>s a _ e;exact⟨h.same.trans s,h.p1.keep (IsItem.keep k) (λc u e _=>s c u e) λ_ _=>rfl,h.p2.keep (IsSet.keep k) (λc u e _=>s c u e) λ_ _=>rfl,h.p3.keep (IsLack.keep k) (λc u e _=>s c u e) λ_ _=>rfl,h.p4.keep (IsNum.keep k) (λc u e _=>s c u e) λ_ _=>rfl,h.po.keep k (λc u e _ _=>s c u e) λ_ _=>rfl⟩
theorem PAt.more(h:PAt CP CQ B H A rs S xs xl xr)(s:Same H H'):PAt CP CQ B H' A rs S xs xl xr:=let ⟨b,kt,a,h⟩:=h;⟨b,kt,a,h.more s⟩
def bA.tell(h:bA CP CQ B H A rs S xs xl xr xp kt col)(b:H p=some (.tup [.int x.1,vO x.2.1,vO x.2.2])) :
 bA CP CQ B (aP H A.ta (.dT (cj kt (ak a) (.ref p)))) A rs {S with told:=Pz.tput S.told a x} xs xl xr xp (cj kt (ak a) (.ref p)) col:=by
 have kp:∀c u,H c=some u->col c≠5->aP H A.ta (.dT (cj kt (ak a) (.ref p))) c=some u:=λc u e n=>by rw[af (λz=>n (by rw[z];exact h.po.c5.1))];exact e
 have k:KT H (aP H A.ta (.dT (cj kt (ak a) (.ref p)))):=λc ws e=>by rw[af (λz=>by rw[z,h.po.td]at e;cases e)];exact e
 obtain⟨⟨d,h1⟩,⟨f,g⟩,j,i,c5,c6,c7⟩:=h.po;refine⟨λc u e=>?_,h.p1.keep (IsItem.keep k) (λc u e z=>kp c u e (by lia)) λ_ _=>rfl,h.p2.keep (IsSet.keep k) (λc u e z=>kp c u e (by lia)) λ_ _=>rfl,h.p3.keep (IsLack.keep k) (λc u e z=>kp c u e (by lia)) λ_ _=>rfl,h.p4.keep (IsNum.keep k) (λc u e z=>kp c u e (by lia)) λ_ _=>rfl,⟨d,kp _ _ h1 (by lia)⟩,⟨f,kp _ _ g (by lia)⟩,ag,(i.keep k).put ⟨p,rfl,k _ _ b⟩,c5,c6,c7⟩;rw[af (λz=>by grind)];exact h.same c u e
def bA.wide(h:bA CP CQ B H A rs S xs xl xr xp kt col)(Z:Addr->Prop)(hz:∀c,Z c->¬cD A.ap xp c/\¬cD A.sa xs c/\¬cD A.la xl c/\¬cD A.ar xr c/\c≠A.ta/\c≠A.o/\c≠A.aq) :
 ∃b,Same B b/\KT H b/\(∀c u,Z c->H c=some u->b c=some u)/\bA CP CQ b H A rs S xs xl xr xp kt col:=by
 classical
 refine⟨λc=>if B c≠none\/Z c\/∃ws,H c=some (.tup ws)then H c else none,λc u e=>?_,λc ws e=>?_,λc u z e=>?_,λc u e=>?_,h.p1.base λc i=>?_,h.p2.base λc i=>?_,h.p3.base λc i=>?_,h.p4.base λc i=>?_,h.po.ins,h.po.F8,h.po.td,h.po.tr,⟨h.po.c5.1,?_⟩,⟨h.po.c6.1,?_⟩,⟨h.po.c7.1,?_⟩⟩
 .dsimp only;rw[UP (.inl (by grind))];exact h.same c u e
 .dsimp only;rw[UP (.inr (.inr ⟨ws,e⟩))];exact e
 .dsimp only;rw[UP (.inr (.inl z))];exact e
 .split at e
  .exact e
  .cases e
 all_goals
  refine UV λq=>?_
 .rcases q with q|q|⟨ws,q⟩
  .exact q (h.p1.c c i).2
  .exact(hz c q).1 i
  .rcases i with rfl|⟨x,a,rfl⟩
   .rw[h.p1.d.root]at q;cases q
   .rw[h.p1.d.rX x a]at q;cases q
 .rcases q with q|q|⟨ws,q⟩
  .exact q (h.p2.c c i).2
  .exact(hz c q).2.1 i
  .rcases i with rfl|⟨x,a,rfl⟩
   .rw[h.p2.d.root]at q;cases q
   .rw[h.p2.d.rX x a]at q;cases q
 .rcases q with q|q|⟨ws,q⟩
  .exact q (h.p3.c c i).2
  .exact(hz c q).2.2.1 i
  .rcases i with rfl|⟨x,a,rfl⟩
   .rw[h.p3.d.root]at q;cases q
   .rw[h.p3.d.rX x a]at q;cases q
 .rcases q with q|q|⟨ws,q⟩
  .exact q (h.p4.c c i).2
  .exact(hz c q).2.2.2.1 i
  .rcases i with rfl|⟨x,a,rfl⟩
   .rw[h.p4.d.root]at q;cases q
   .rw[h.p4.d.rX x a]at q;cases q
 .rcases q with q|q|⟨ws,q⟩
  .exact q h.po.c5.2
  .exact(hz _ q).2.2.2.2.1 rfl
  .rw[h.po.td]at q;cases q
 .rcases q with q|q|⟨ws,q⟩
  .exact q h.po.c6.2
  .exact(hz _ q).2.2.2.2.2.1 rfl
  .obtain⟨f,e⟩:=h.po.ins;rw[e]at q;cases q
 .rcases q with q|q|⟨ws,q⟩
  .exact q h.po.c7.2
  .exact(hz _ q).2.2.2.2.2.2 rfl
  .obtain⟨f,e⟩:=h.po.F8;rw[e]at q;cases q
def PAt.less(h:PAt CP CQ B' H A rs S xs xl xr)(s:Same B B'):PAt CP CQ B H A rs S xs xl xr:=by obtain⟨b,kt,a,h⟩:=h;refine⟨b,kt,a,s.trans h.same,h.p1.base λc i=>s.free (h.p1.c c i).2,h.p2.base λc i=>s.free (h.p2.c c i).2,h.p3.base λc i=>s.free (h.p3.c c i).2,h.p4.base λc i=>s.free (h.p4.c c i).2,h.po.ins,h.po.F8,h.po.td,h.po.tr,⟨h.po.c5.1,s.free h.po.c5.2⟩,⟨h.po.c6.1,s.free h.po.c6.2⟩,⟨h.po.c7.1,s.free h.po.c7.2⟩⟩
theorem PAt.same(h:PAt CP CQ B H A rs S xs xl xr):Same B H:=let ⟨_,_,_,h⟩:=h;h.same
end
def HE(x y:Nat):Builtin.bitXor (x:Int) (y:Int)=(((x ||| y)-(x &&& y):Nat):Int):=by
 have a:∀z:Nat,decide (0<=Builtin.bitNot (z:Int))=false:=λz=>U_ (by unfold Builtin.bitNot;lia);have b:∀z:Nat,(Builtin.bitNot (Builtin.bitNot (z:Int))).toNat=z:=λz=>by unfold Builtin.bitNot;lia
 have p1:∀z:Nat,decide (0<=(z:Int))=true:=λz=>U6 (by lia);have eA:Builtin.bitAnd (x:Int) (y:Int)=((x &&& y:Nat):Int):=by unfold Builtin.bitAnd;rw[p1,p1];rfl
 have c:Builtin.bitOr (x:Int) (y:Int)=((x ||| y:Nat):Int):=by unfold Builtin.bitOr Builtin.bitAnd;rw[a,a];show Builtin.bitNot (Builtin.bitNot (((Builtin.bitNot (Builtin.bitNot (x:Int))).toNat |||(Builtin.bitNot (Builtin.bitNot (y:Int))).toNat:Nat):Int))=_;rw[b,b];unfold Builtin.bitNot;lia
 unfold Builtin.bitXor;rw[eA,c];have:x &&& y<=x ||| y:=Vf Nat.and_le_left Nat.left_le_or;lia
def Aj:Pz.vD ax:=by
 have key:∀{p l:Int},0<=p->0<=l->∃z:Nat,ax p l=(z:Int)/\∀k:Nat,z<=k↔p/2^k=l/2^k:=by
  intro p l a b;obtain⟨x,rfl⟩:=We a;obtain⟨y,rfl⟩:=We b;refine⟨_,rfl,λk=>?_⟩;rw[HE];unfold Builtin.Int.intBits;rw[Pz.HA,Pz.Hz];have e:∀z:Nat,(z:Int)/2^k=((z/2^k:Nat):Int):=λz=>by rw[Int.natCast_ediv];norm_cast
  rw[e,e];lia
 constructor
 .intro p l a b;obtain⟨z,e,_⟩:=key a b;rw[e];lia
 .intro p l a b k;obtain⟨z,e,h⟩:=key a b;rw[e,<- h k];lia
section
variable{K:Yy}{C q ap:Addr}{H:Hp}{last:Int}
inductive nW(C:Addr):Sp
 |mk {q dx:Addr} {H:Hp} {Q:VK} {E:XK} (hq:H q=some (.ins C dx [])) (k:∀(d:Addr)(H':Hp),H d=none->H' q=some (.ins C dx [("last",.int 0),("piles",.ref d)])->H' d=some (.dK [])->(∀b o,H b=some o->b≠q->H' b=some o)->Q .bv H'):nW C [.ref q] H Q E
def LK(K:Yy):TS:=dY (ue K (aK 0) (tC (.int 0)) "last") (ue K (aK 0) C1 "piles")
def wZ(h:nW C vs H Q E):vs.length=1:=by cases h;rfl
def yX(T:vE K C)(h:nW C vs H Q E):LK K {nx:=λ_ H'=>Q .bv H',rt:=Q} (cq N vs) H:=by
 obtain @⟨q,dx,_,_,_,hq,k⟩:=h;refine⟨_,rfl,q,C,dx,[],rfl,hq,T.cl,T.nl,(by show 0<1000;decide),?_⟩;intro d hd;have a:d≠q:=λe=>by rw[e,ag]at hd;cases hd
 have c:H d=none:=by rw[af a]at hd;exact hd
 refine⟨_,rfl,q,C,dx,_,rfl,(by rw[af (V2 a),ag]),T.cl,T.np,(by show 1<1000;decide),?_⟩;refine k d _ c (by rw[ag];rfl) (by rw[af a,ag]) λb o e f=>?_;rw[af f,af (av e c),af f];exact e
inductive nR(C:Addr):Sp
 |mk {q ap dx:Addr} {last:Int} {kvs:List (bH×V)} {H:Hp} {Q:VK} {E:XK} (hq:H q=some (.ins C dx [("last",.int last),("piles",.ref ap)])) (ha:H ap=some (.dK kvs)) (hl:kvs.length<=sizeLine) (k:Q (.bl (decide (kvs.length=0))) H):nR C [.ref q] H Q E
def JA:List V->Hp->VK->Prop:=λxs H Q=>∃(d:Addr)(kvs:List (bH×V))(u:HO),xs=[.ref d]/\(u=.dK kvs\/(u=.dT []/\kvs=[]))/\Rd H d u/\kvs.length<=sizeLine/\Q (.int kvs.length) H
def BR:CallR X (.builtin "len") JA:=BD
def LL(K:Yy):TS:=ud (mn N3 (Gr JA (aB (gh K (aK 0) "piles") bB)) (tC (.int 0)))
def w6(h:nR C vs H Q E):vs.length=1:=by cases h;rfl
def yY(T:vE K C)(h:nR C vs H Q E):LL K {nx:=λ_ H'=>Q .bv H',rt:=Q} (cq N vs) H:=by
 obtain @⟨q,ap,dx,last,kvs,_,_,_,hq,ha,hl,k⟩:=h;refine⟨_,rfl,q,C,dx,_,_,rfl,hq,T.cl,T.np,rfl,ap,kvs,_,rfl,.inl rfl,.inl ha,hl,rfl,?_⟩;have:decide (V.int (kvs.length:Int)=V.int 0)=decide (kvs.length=0):=by apply Yp.mpr;exact⟨λe=>by injection e with e;lia,λe=>by rw[e];rfl⟩
 rw[this];exact k
def SR(C q ap:Addr)(d:Pz.Q Pz.bc)(b:DX bH)(H:Hp)(Q:VK):Prop:=∀(l:Addr)(vs':List V)(a:DX bH)(H':Hp),NW C H' q ap (Pz.lowP d) a->RepM k1 IsItem H' (Pz.left ax d) a->H' l=some (.lst vs')->fI (IsItem H') (Pz.eG ax d) vs'->¬cD ap a l->(cD ap b l\/H l=none)->(∀c,cD ap a c->cD ap b c\/H c=none)->
 (∀c u,H c=some u->¬cD ap b c->c≠q->H' c=some u)->Q (.ref l) H'
inductive rW(C:Addr):Sp
 |mk {q ap:Addr} {last:Int} {xp:DX bH} {d:Pz.Q Pz.bc} {H:Hp} {Q:VK} {E:XK} (G:NW C H q ap last xp) (R:RepM k1 IsItem H d xp) (ok:Pz.xX ax last d) (hne:d≠[]) (hfew:d.flat.length<16000000)
  (k:SR C q ap d xp H Q):rW C [.ref q] H Q E
def yZ(h:rW C vs H Q E):vs.length=1:=by cases h;rfl
def LM(K:Yy):TS:=ud (qD (gh K (aK 0) "piles") (tC (.int 0)))
def Pd(C:Addr):TS:=fL (gq C "add" (ub C) [] E0 (aK 0) (aB (aK 2) (aB (aK 3) bB)))
def SS(K:Yy)(C:Addr):TS:=dY (n5 (lQ K (aK 1)) (iX K 2 (bm (aT 2) (bm (aT 3) iW))) (Pd C)) (LM K)
def Pe(K:Yy)(C:Addr)(a:TE):TS:=dY (ue K (aK 0) a "last") (SS K C)
def JB(K:Yy)(C:Addr)(a:TE):TS:=dY (ml (qD (gh K (aK 0) "piles") (Gr Jz (aB (KW K "dict" Jy (gh K (aK 0) "piles")) bB))) (aT 1)) (Pe K C a)
def LN(b:TE):Prop:=∀(σ:L2.St)(H:Hp)(a:Addr)(vs:List V)(its:List (Int×Pz.bc))(Q:VK),σ[1]?=some (some (.ref a))->H a=some (.lst vs)->fI (IsItem H) its vs->its≠[]->its.length<16000000->(∀H',Same H H'->Q (.int (Pz.lo (its.map (·.1)))) H')->b σ H Q
def Ak(l:List Int):uA l=Pz.lo l:=by cases l<;>rfl
def HF{κ:Type}(xs:DX κ):xs.kv.map (·.1)=xs.map (·.1):=by unfold DX.kv;rw[Vb];rfl
def NW.ne(G:NW C H q ap last xp)(i:cD ap xp c):c≠q:=λe=>by
 obtain⟨d,a⟩:=G.ins;rcases i with z|⟨x,b,z⟩
 .have:=G.aF.root;rw[<- z,e,a]at this;cases this
 .have:=G.aF.rX x b;rw[<- z,e,a]at this;cases this
end
section
variable{K:Yy}{C q ap:Addr}{H:Hp}{last:Int}{xp:DX bH}
def pA(m:Int)(d:Pz.Q Pz.bc)(l:List (Int×Pz.bc))(x:Int×Pz.bc):Pz.dt ax m d (l++[x])=(Pz.dt ax m d l).app (ax x.1 m) x:=by unfold Pz.dt;rw[Wn];rfl
def p7(s:Same H H'):KT H H':=λa ws e=>s a _ e
variable{D:Ends}{σ:L2.St}{d:Pz.Q Pz.bc}{H0:Hp}{p:Addr×List V}{i:Nat}{xi:DX bH}
structure Sb(C q ap:Addr) (d:Pz.Q Pz.bc) (H0:Hp) (xp:DX bH) (p:Addr×List V) (i:Nat) (H:Hp) (xi:DX bH):Prop where
 G:NW C H q ap (Pz.lowP d) xi
 R:RepM k1 IsItem H (Pz.dt ax (Pz.lowP d) (d.drop (Pz.ck d)) ((d.get (Pz.ck d)).take i)) xi
 l:H p.1=some (.lst p.2)
 n:¬cD ap xi p.1
 a:fI (IsItem H) (d.get (Pz.ck d)) p.2
 sub:∀c,cD ap xi c->cD ap xp c\/H0 c=none
 kp:∀c u,H0 c=some u->¬cD ap xp c->c≠q->H c=some u
def R7(q:Addr)(l:Addr)(σ:L2.St):Prop:=∃u v,σ=[some (.ref q),some (.ref l),u,v]
def Uo(I:Sb C q ap d H0 xp p i H xi)(F:(d.get (Pz.ck d))[i]?=some x)(h:IsItem H x v)(hs:R7 q p.1 σ)(ok:(Pz.dt ax (Pz.lowP d) (d.drop (Pz.ck d)) ((d.get (Pz.ck d)).take (i+1))).Ok)(nY:(Pz.dt ax (Pz.lowP d) (d.drop (Pz.ck d)) ((d.get (Pz.ck d)).take (i+1))).flat.length<16000000)
 (k:∀o H' r,R7 q p.1 o->Sb C q ap d H0 xp p (i+1) H' r->D.nx o H'):iX K 2 (bm (aT 2) (bm (aT 3) iW)) v σ H λs M=>Pd C D s M:=by
 obtain⟨t,_,rfl,N,b,rfl,O⟩:=h;obtain⟨u,w,rfl⟩:=hs;refine Jv N (wV (.va rfl) I.G.ins rfl (.c (.va rfl) (.c (.va rfl) .ni)) (.mk I.G λl J y j P Q A B f=>?_));have g:KT H y:=I.G.aF.kt (λ_ _ z=>HO.noConfusion z) f;rw[Wm,F,show(some x).toList=[x]from rfl,pA]at ok nY;have E:RepM k1 IsItem y _ (oK xi (.inl (ax x.1 (Pz.lowP d))) l (.ref J)):=I.R.add (k:=ax x.1 (Pz.lowP d)) oN (IsItem.keep g) ⟨J,_,rfl,Q,b,rfl,g _ _ O⟩;refine k _ y _ ⟨_,_,rfl⟩ ⟨⟨A,B,?_,E.low nY⟩,?_,f _ _ I.l I.n,λz=>?_,I.a.mono (IsItem.keep g),λc z=>?_,λc u e n m=>?_⟩
 .have:=E.len;have:=Pz.jC ok;exact VQ (by lia) nY
 .rw[Wm,F,show(some x).toList=[x]from rfl,pA];exact E
 .rcases lB z with z|z
  .exact I.n z
  .rw[<- z,I.l]at j;cases j
 .rcases lB z with z|rfl
  .exact I.sub c z
  .by_cases L:cD ap xp c
   .exact .inl L
   .refine .inr ?_;cases e:H0 c with
    |none=>rfl
    |some u=>
     by_cases z:c=q
     .obtain⟨_,S⟩:=I.G.ins;rw[z,S]at j;cases j
     .rw[I.kp c u e L z]at j;cases j
 .exact f _ _ (I.kp c u e n m) λz=>(I.sub c z).elim n λz=>by rw[z]at e;cases e
def Al{κ:Type}[DecidableEq κ]{xs:DX κ}{k:κ}{a c:Addr}(i:cD a (nw xs k) c):cD a xs c:=i.imp id λ⟨x,b,e⟩=>⟨x,(Vd.mp b).1,e⟩
def Up(T:vE K C)(l:Pz.NO ax last d)(v:d.flat.length<16000000)(I:Sb C q ap d H0 xp p p.2.length H xi)(hs:R7 q p.1 σ)
 (k:SR C q ap d xp H0 D.rt):LM K D σ H:=by
 obtain⟨u,w,rfl⟩:=hs;have f:=I.R;rw[VG (by rw[I.a.len];exact UN _)]at f;have f:RepM k1 IsItem H (Pz.mid ax d) xi:=f;have ha:=I.G.aF.root;obtain⟨x,o⟩:=I.G.ins;rcases f.find oN 0 with⟨_,y,_⟩|⟨p1,r,_,A⟩
 .have:=Pz.has_iff.mpr l.k3;rw[y]at this;cases this
 delta LM ud qD
 refine LH (.va rfl) I.G.ins T.cl T.np rfl ⟨ap,rfl,.inl ⟨_,.inl ha⟩,xi.kv,k1 0,.ref p1.1,ha,rfl,(by rw[mI,r];rfl),?_⟩;generalize g:aP H ap (.dK (lR xi.kv (k1 0)))=j;have b:∀c u,H c=some u->c≠ap->j c=some u:=λc u e n=>by rw[<- g,af n];exact e
 obtain⟨B,E,F⟩:=I.G.aF.drop (λ_ _ z=>HO.noConfusion z) r (by rw[<- g,ag]) b;have h:KT H j:=λc ws e=>b c _ e λz=>by rw[z,ha]at e;cases e
 have s:RepM k1 IsItem j (Pz.left ax d) (nw xi (k1 0)):=(f.drop oN 0).keep (IsItem.keep h);have t:(Pz.left ax d).flat.length<16000000:=by have:=l.pm.length_eq;rw[Vc]at this;lia
 have:=s.len;have:=Pz.jC l.ok.ok;exact k p1.1 p1.2 _ j ⟨⟨x,b _ _ o λe=>by rw[e,ha]at o;cases o⟩,B,by lia,s.low t⟩ s E (A.mono (IsItem.keep h)) F (I.sub _ (.inr ⟨_,eJ r,rfl⟩)) (λc z=>I.sub c (Al z)) λc u e n m=>b _ _ (I.kp c u e n m) λz=>n (.inl z)
def tk1(T:vE K C)(N:LN tm)(r:Pz.NO ax last d)(ok:d.Ok)(f:d.flat.length<16000000)(s:∃g,H q=some (.ins C g [("last",.int last),("piles",.ref ap)])) (O:DL .dK H ap xi) (R2:RepM k1 IsItem H (d.drop (Pz.ck d)) xi) (P:∀c,cD ap xp c->c≠q) (w:H p.1=some (.lst p.2)) (J:p.1≠q) (Q:¬cD ap xi p.1) (L:fI (IsItem H) (d.get (Pz.ck d)) p.2) (sub:∀c,cD ap xi c->cD ap xp c) (kp:∀c u,H0 c=some u->¬cD ap xp c->H c=some u)
 (hs:σ=[some (.ref q),some (.ref p.1),none,none]) (k:SR C q ap d xp H0 D.rt):Pe K C tm D σ H:=by
 subst hs;obtain⟨g,s⟩:=s;refine N _ H p.1 p.2 (d.get (Pz.ck d)) _ rfl w L r.k2 (VQ (Pz.p6 d _) f) λR M=>?_;refine⟨_,rfl,q,C,g,_,rfl,M _ _ s,T.cl,T.nl,(by show 2<1000;decide),?_⟩;generalize h:aP R q (.ins C g (jb "last" (.int (Pz.lo ((d.get (Pz.ck d)).map (·.1)))) [("last",.int last),("piles",.ref ap)]))=A;have b:∀c u,H c=some u->c≠q->A c=some u:=λc u e n=>by rw[<- h,af n];exact M c u e
 have S:A q=some (.ins C g [("last",.int (Pz.lowP d)),("piles",.ref ap)]):=by rw[<- h,ag];rfl
 have j:KT H A:=λc ws e=>b c _ e λz=>by rw[z,s]at e;cases e
 have ge:∀y∈d.get (Pz.ck d),Pz.lowP d<=y.1:=λy B=>Pz.Es (UY.mpr ⟨y,B,rfl⟩);have fl:∀i,((Pz.dt ax (Pz.lowP d) (d.drop (Pz.ck d)) ((d.get (Pz.ck d)).take i))).flat.length<16000000:=λi=>by rw[(Pz.kU r.o1.ok).length_eq,Vc];have:=Xf i (d.get (Pz.ck d));have:=(Pz.oH ok.nk (Pz.ck d)).length_eq;rw[Vc]at this;lia
 have o:∀i,(Pz.dt ax (Pz.lowP d) (d.drop (Pz.ck d)) ((d.get (Pz.ck d)).take i)).Ok:=λi=>(r.o1.dt λx E=>ge x (Wh E)).ok;have F:=fl 0;have t:=Pz.jC (o 0);have X:=R2.len;rw[List.take_zero]at F t;have U:(Pz.dt ax (Pz.lowP d) (d.drop (Pz.ck d)) [])=d.drop (Pz.ck d):=rfl;rw[U]at F t;refine⟨_,rfl,p.1,rfl,⟨_,SqL.of (b _ _ w J)⟩,vQ (K:=K) (a:=p.1) (xs:=p.2) (λi σ v=>R7 q p.1 σ/\∃xi,Sb C q ap d H0 xp p i v xi)
  ⟨⟨none,none,rfl⟩,xi,⟨⟨g,S⟩,O.keep λc u e i=>b c u e (P c (sub c i)),by lia,R2.low F⟩,?_,b _ _ w J,Q,L.mono (IsItem.keep j),λc i=>.inl (sub c i),λc u e n m=>b c u (kp c u e n) m⟩
  (λi σ v _ ⟨_,xi,I⟩=>SqL.of I.l) (λi y σ v V ⟨hs,xi,I⟩=>?_) λσ v ⟨hs,xi,I⟩=>Up T r f I hs k⟩
 .rw[List.take_zero];exact R2.keep (IsItem.keep j)
 .obtain⟨x,E,B⟩:=I.a.get V;exact Uo I E B hs (o _) (fl _) λW H' G h1 t=>⟨h1,G,t⟩
def BS(T:vE K C)(t:∀(last:Int)(ap:Addr),List.lookup ("add" : Str) ([("last",V.int last),("piles",V.ref ap)]:List (Str×V))=none) (w:LN tm) (h:rW C vs H Q E) :
 JB K C tm {nx:=λ_ H'=>Q .bv H',rt:=Q} (cq ["self","pile","price","thing"] vs) H:=by
 obtain @⟨q,ap,last,xp,d,H,Q,_,G,R,ok,hne,hfew,k⟩:=h;have o:=Pz.BI Aj ok hne;have a:=G.aF.root
 delta JB dY ml qD
 refine LH (.va rfl) G.ins T.cl T.np rfl ⟨ap,rfl,.inl ⟨_,.inl a⟩,LH (.va rfl) G.ins T.cl T.np rfl ⟨.inr (.inr (.inl ⟨rfl,.inl ⟨_,a⟩⟩)),ap,_,rfl,rfl,a,λv r=>?_⟩⟩;have f:ap≠v:=av a r;refine⟨v,ap,xp.kv,d.keys,rfl,ag,(by rw[af f];exact a),(by rw[HF,R.keys];rfl),(by intro e;exact hne (List.map_eq_nil_iff.mp e)),?_⟩;rcases R.find oN (Pz.ck d)with⟨_,_,e⟩|⟨x,l,_,y⟩
 .exact(o.k2 e).elim
 refine⟨xp.kv,k1 (Pz.ck d),.ref x.1,(by rw[af f];exact a),(by rw[Ak];rfl),(by rw[mI,l];rfl),?_⟩;generalize g:aP (aP H v (wY v ap)) ap (.dK (lR xp.kv (k1 (Pz.ck d))))=s;have b:∀c u,H c=some u->c≠ap->s c=some u:=λc u e n=>by rw[<- g,af n,af (av e r)];exact e
 obtain⟨A,B,F⟩:=G.aF.drop (λ_ _ z=>HO.noConfusion z) l (by rw[<- g,ag]) b;have j:KT H s:=λc ws e=>b c _ e λz=>by rw[z,a]at e;cases e
 obtain⟨I,m⟩:=G.ins;exact tk1 T w o ok.ok hfew ⟨I,b _ _ m λe=>by rw[e,a]at m;cases m⟩ A ((R.drop oN _).keep (IsItem.keep j)) (λc=>G.ne) B (G.ne (.inr ⟨_,eJ l,rfl⟩)) F (y.mono (IsItem.keep j)) (λc=>Al) (λc u e n=>b c u e λz=>n (.inl z)) rfl k
end
structure lN(K:Yy) (C:Addr):Prop where
 cl:vy K C
 nr:NoAttr K C "rules"
 nt:NoAttr K C "told"
 no:NoAttr K C "offers"
 ns:NoAttr K C "settled"
 nl:NoAttr K C "lacking"
def SU(A:PA):(pf A).lookup ("rules" : Str)=some (V.ref A.ar):=rfl
def HG(A:PA):(pf A).lookup ("told" : Str)=some (V.ref A.ta):=rfl
def LO(A:PA):(pf A).lookup ("offers" : Str)=some (V.ref A.aq):=rfl
def Pf(A:PA):(pf A).lookup ("settled" : Str)=some (V.ref A.sa):=rfl
def Pg(A:PA):(pf A).lookup ("lacking" : Str)=some (V.ref A.la):=rfl
def LP(A:PA)(last:Int):(qf A last).lookup ("add" : Str)=none:=rfl
section
variable{K:Yy}
inductive gc(CP CQ:Addr):Sp
 |mk {B H:Hp} {A:PA} {rs:Pz.RS} {S:Pz.PS} {xs xl xr:DX (List bH)} {b:Addr} {a:Pz.bc} {p:Int} {n m:Option Int} {Q:VK} {E:XK} (P:PAt CP CQ B H A rs S xs xl xr) (hb:H b=some (.tup (oM a))) (f:Pz.lZ (Pz.bb ax S a p n m)) (k:∀H',PAt CP CQ B H' A rs (Pz.bb ax S a p n m) xs xl xr->Q .bv H'):gc CP CQ [.ref A.o,.ref b,.int p,vO n,vO m] H Q E
def Ph:R2:=λx y H Q=>y=.bv/\Q (.bl (decide (x=.bv))) H
def LQ:OpR X (compareOp .Is) Ph:=KL
def Uq:R2:=x5 λi j=>.bl (decide (i<j))
def LR(K:Yy)(CQ:Addr):TS:=dY (CZ (gh K (aK 0) "told") (aK 1) (kh (aB (aK 2) (aB (aK 3) (aB (aK 4) bB)))))
 (fL (gq CQ "add" (ub CQ) [] E0 (gh K (aK 0) "offers") (aB (aK 2) (aB (aK 1) bB))))
def Pi(K:Yy)(CQ:Addr):TS:=xY (TZ (o6 (mn Ph (aK 5) (tC .bv))) (o6 (mn Uq (aK 2) (mn (qB K) (aK 5) (tC (.int 0)))))) (LR K CQ) vN
def Ey(K:Yy)(CQ:Addr):TS:=dY (ml (yj (gh K (aK 0) "told") (aK 1)) (aT 5)) (Pi K CQ)
def w8(h:gc CP CQ vs H Q E):vs.length=5:=by cases h;rfl
variable{D:Ends}
theorem bA.fld(P:bA CP CQ B H A rs S xs xl xr xp kt col)(cl:vy K CP)(n:NoAttr K CP f)(a:(pf A).lookup f=some v)(h:σ[i]?=some (some (.ref A.o))):Reads (gh K (aK i) f) σ H v:=.fld (.va h) P.po.ins cl n a
def bA.rd(P:bA CP CQ B H A rs S xs xl xr xp kt col)(cl:vy K CP)(n:NoAttr K CP f)(a:(pf A).lookup f=some v)(h:σ[i]?=some (some (.ref A.o)))(q:Q v H):gh K (aK i) f σ H Q:=P.fld cl n a h _ q
def w_(TP:lN K CP)(P:bA CP CQ B H A rs S xs xl xr xp kt col)(G:H b=some (.tup (oM a)))(fit:Pz.lZ (Pz.kW ax S a p n m))
 (k:∀σ H',PAt CP CQ B H' A rs (Pz.kW ax S a p n m) xs xl xr->D.nx σ H'):LR K CQ D [some (.ref A.o),some (.ref b),some (.int p),some (vO n),some (vO m),some w] H:=by
 delta LR dY CZ
 refine LI (.c (.va rfl) (.c (.va rfl) (.c (.va rfl) .ni))) rfl λt i=>?_;have s1:Same H (aP H t (.tup [.int p,vO n,vO m])):=aQ i;have s:=P.more s1;have u:=s.po.td;have e:=s1 _ _ G;have E:kt.length<sizeLine:=by have e1:S.told.length=kt.length:=P.po.tr.len;have e2:=fit.t;have e3:=(Pz.wQ S.told a (p,n,m)).1;have e4:(Pz.kW ax S a p n m).told=Pz.tput S.told a (p,n,m):=rfl;rw[e4]at e2;rw[Vk];unfold Pz.L at e2;lia
 refine s.rd TP.cl TP.nt (HG A) rfl ⟨_,rfl,A.ta,_,rfl,DPut.t (k:=ak a) u e E,?_⟩;have f:=s.tell (a:=a) (x:=(p,n,m)) (p:=t) ag;have j:aP (aP H t (.tup [.int p,vO n,vO m])) A.ta (.dT (cj kt (ak a) (.ref t))) b=some (.tup (oM a)):=by rw[af (λz=>by rw[z,u]at e;cases e)];exact e
 generalize aP (aP H t (.tup [.int p,vO n,vO m])) A.ta (.dT (cj kt (ak a) (.ref t)))=I at f j;clear s u e s1 E i;have g:=fit.p;have h:=fit.pf;have al:=Pz.gz S.aF (ax p S.last) (p,a);have e5:(Pz.kW ax S a p n m).aF=S.aF.app (ax p S.last) (p,a):=rfl;rw[e5]at g h;unfold Pz.L at g h;have pr2:RepM k1 IsItem I S.aF xp:=f.p1.r;refine wV (f.fld TP.cl TP.no (LO A) rfl) f.po.F8 (LP A _) (.c (.va rfl) (.c (.va rfl) .ni)) (.mk ⟨f.po.F8,f.p1.d,by rw[<- pr2.len];lia,pr2.low (by lia)⟩ ?_);intro l J M v N y O C q;have F:=f.p1.d.kt (λ_ _ z=>HO.noConfusion z) q;exact k _ M ⟨_,_,_,f.pile C (pr2.add oN (IsItem.keep F) ⟨J,_,rfl,y,b,rfl,F _ _ j⟩) (λc z=>(lB z).imp id λz=>by rw[z];exact v) q⟩
def Ez(TP:lN K CP)(P:bA CP CQ B H A rs S xs xl xr xp kt col)(d:H b=some (.tup (oM a)))(fit:Pz.lZ (Pz.bb ax S a p n m))
 (k:∀σ H',PAt CP CQ B H' A rs (Pz.bb ax S a p n m) xs xl xr->D.nx σ H'):Pi K CQ D [some (.ref A.o),some (.ref b),some (.int p),some (vO n),some (vO m),some ((c9 kt (ak a)).getD .bv)] H:=by
 unfold Pz.bb at fit k;rcases P.po.tr.find a with⟨e1,e2⟩|⟨v,x,e1,e2,q,rfl,e⟩
 .rw[UP (show Pz.ji S a p=true by unfold Pz.ji;rw[e2])]at fit k;rw[e1];exact⟨_,rfl,rfl,_,rfl,w_ TP P d fit k⟩
 .rw[e1];refine⟨_,rfl,rfl,_,rfl,?_⟩;refine wW (c:=decide (p<x.1)) (.op (.va rfl) (.ix (.va rfl) e rfl) (λ_ q=>⟨p,x.1,rfl,rfl,q⟩)) (λh=>?_) (λh=>?_)
  .rw[UP (show Pz.ji S a p=true by unfold Pz.ji;rw[e2];exact h)]at fit k;exact w_ TP P d fit k
  .rw[UV λz=>by unfold Pz.ji at z;rw[e2]at z;exact h z]at k;exact k _ H ⟨xp,kt,col,P⟩
def y8(TP:lN K CP)(c:vE K CQ)(h:gc CP CQ vs H Q E):Ey K CQ {nx:=λ_ H'=>Q .bv H',rt:=Q} (cq ["self","arrow","price","number","mid","known"] vs) H:=by
 obtain⟨⟨d,kt,b,P⟩,a,fit,k⟩:=h
 delta Ey dY ml yj
 exact P.rd TP.cl TP.nt (HG _) rfl ⟨_,rfl,.inr ⟨_,.inl P.po.td⟩,_,rfl,_,DGet.t (k:=ak _) P.po.td a,Ez TP P a fit λ_=>k⟩
def uX(P:PAt CP CQ B H A rs S xs xl xr)(f:Pz.lZ (Pz.bb ax S a p n m))(h:Reads ta σ H (.ref A.o))(c:Makes te σ H (oM a))(d:∀H',Same H H'->ReadsA tr σ H' [.int p,vO n,vO m])(k:∀H',PAt CP CQ B H' A rs (Pz.bb ax S a p n m) xs xl xr->D.nx σ H') :
 fL (gq CP "offer" (gc CP CQ) [] E0 ta (aB te tr)) D σ H:=by
 have e:=P;obtain⟨_,_,_,g⟩:=e;obtain⟨i,j⟩:=g.po.ins;exact h _ ⟨A.o,i,_,rfl,j,rfl,c _ λq b=>d _ (aQ b) _ (.mk (P.more (aQ b)) ag f k)⟩
end
section
variable{K:Yy}{CP CQ:Addr}{B H:Hp}{A:PA}{rs:Pz.RS}{S:Pz.PS}{xs xl xr:DX (List bH)}{xp:DX bH}{kt:List (List bH×V)}{col:Addr->Nat}
theorem bA.obj(P:bA CP CQ B H A rs S xs xl xr xp kt col)(hz:H z=none):¬cD A.ap xp z/\¬cD A.sa xs z/\¬cD A.la xl z/\¬cD A.ar xr z/\z≠A.ta/\z≠A.o/\z≠A.aq:=by
 refine⟨λi=>P.p1.d.obj i hz,λi=>P.p2.d.obj i hz,λi=>P.p3.d.obj i hz,λi=>P.p4.d.obj i hz,λe=>?_,λe=>?_,λe=>?_⟩
 .rw[e,P.po.td]at hz;cases hz
 .obtain⟨_,h⟩:=P.po.ins;rw[e,h]at hz;cases hz
 .obtain⟨_,h⟩:=P.po.F8;rw[e,h]at hz;cases hz
def HH{α:Type}{it:Hp->α->V->Prop}(E:∀H H',KT H H'->∀x v,it H x v->it H' x v){a:Addr}{f:Str}{q:DX (List bH)}{d:Pz.MD (Int×Int) α}(P:bA CP CQ B H A rs S xs xl xr xp kt col)(hD:DL .dT H a q)(F:RepM k2 it H d q)
 (cl:vy K CP) (G:NoAttr K CP f) (I:(pf A).lookup f=some (V.ref a)) {σ:L2.St} {j:Nat} {b:Addr} {k:Int×Int} (J:σ[0]?=some (some (.ref A.o))) (L:σ[j]?=some (some (.ref b))) (M:H b=some (.tup [.int k.1,.int k.2])) {Q:VK}
 (y:∀(l:Addr)(vs:List V)(g i:Hp),Same H i->Same B g->KT i g->bA CP CQ g i A rs S xs xl xr xp kt col->i l=some (.lst vs)->(∀h,Same g h->DL .dT h a q->h l=some (.lst vs)/\fI (it h) (d.get k) vs)->Q (.ref l) i) :
 mq (gh K (aK 0) f) (aK j) (vS bB) σ H Q:=by
 delta mq
 refine P.rd cl G I J ⟨a,rfl,.inr ⟨_,.inl hD.root⟩,_,L,Vo _,λz hz=>?_⟩;have s1:Same H (aP H z (.lst [])):=aQ hz;have r:aP H z (.lst []) b=some (.tup ((k2 k).map kV)):=s1 _ _ M;refine⟨_,DGet.t (s1 _ _ hD.root) r,?_⟩;have C:=P.more s1;rcases F.find rq k with⟨m,N,s⟩|⟨p,m,N,s⟩
 .rw[mI,m];obtain⟨g,u,n,D,w⟩:=C.wide (λc=>c=z) λc e=>by subst e;exact P.obj hz
  refine y z [] g _ s1 u n w ag λh s2 _=>⟨s2 _ _ (D z _ rfl ag),?_⟩;rw[s];exact .nil
 .rw[mI,m];obtain⟨g,u,n,D,w⟩:=C.wide (λ_=>False) λ_ e=>e.elim;refine y p.1 p.2 g _ s1 u n w (s1 _ _ (hD.rX _ (eJ m))) λh s2 O=>⟨O.rX _ (eJ m),s.mono (E _ _ λc ws e=>s2 _ _ (n _ _ (s1 _ _ e)))⟩
def Wk(J:L2.It)(g:TG)(tb:TS)(D:Ends)(σ:L2.St)(H:Hp):Prop:=∃W:Nat->Nat->L2.St->Hp->Prop,(∃m,W 0 m σ H)/\∀i m σ H,W i m σ H->
 (J.stop i H/\D.nx σ H)\/(J.go i H/\∃N:L2.St->Hp->Prop,(∀a H',N a H'->∃m',m'<m/\W (i+1) m' a H')/\∀x H',J.F3 i H x H'->g x σ H' λb c=>tb {D with nx:=N,ct:=N,bk:=D.nx} b c)
def oO{tb:TS}{D:Ends}{σ:L2.St}(h:tl σ H λx b=>∃a,x=.ref a/\(∃xs,SqL K b a xs)/\Wk (Gc K a) g tb D σ b):n5 (lQ K tl) g tb D σ H:=h
def uY{α:Type}{it:Hp->α->V->Prop}{l:Addr}{vs:List V}{its:List α}{g:TG}{tb:TS}{D:Ends}{σ:L2.St}{h:Hp}(b:L2.St->Prop)(step:Pz.PS->α->Pz.PS)(S0:Pz.PS)(W:Pz.PS->Hp->Prop)(m:b σ)(h1:W S0 h)
 (d:∀S H,W S H->Rd H l (.lst vs)/\fI (it H) its vs)
 (n:∀(i:Nat)(x:α)(v:V)(σ:L2.St)(H:Hp)(j:Ends),its[i]?=some x->it H x v->b σ->W ((its.take i).foldl step S0) H->(∀c H',b c->W (step ((its.take i).foldl step S0) x) H'->j.nx c H')->g v σ H λf o=>tb j f o)
 (hd:∀σ H,b σ->W (its.foldl step S0) H->D.nx σ H):Wk (Gc K l) g tb D σ h:=by
 have q:its.length=vs.length:=(d _ _ h1).2.len;refine vQ (K:=K) (a:=l) (xs:=vs) (λi σ H=>b σ/\W ((its.take i).foldl step S0) H) ⟨m,h1⟩ (λi σ H _ ⟨_,w⟩=>Or.inl (d _ _ w).1) (λi v σ H p ⟨s,w⟩=>?_) λσ H ⟨s,w⟩=>?_
 .obtain⟨x,k,ix⟩:=(d _ _ w).2.get p;have e:(its.take (i+1)).foldl step S0=step ((its.take i).foldl step S0) x:=by rw[Wm,k,Wn];rfl
  rw[e];exact n i x v σ H _ k ix s w λ_ _=>And.intro
 .rw[VG (by lia)]at w;exact hd σ H s w
def uZ{α:Type}{it:Hp->α->V->Prop}(E:∀H H',KT H H'->∀x v,it H x v->it H' x v){a:Addr}{f:Str}{y:DX (List bH)}{d:Pz.MD (Int×Int) α}(P:bA CP CQ B H A rs S xs xl xr xp kt col)(hD:DL .dT H a y)(F:RepM k2 it H d y)
 (cl:vy K CP) (G:NoAttr K CP f) (I:(pf A).lookup f=some (V.ref a)) {σ:L2.St} {j:Nat} {b:Addr} {k:Int×Int} (J:σ[0]?=some (some (.ref A.o))) (L:σ[j]?=some (some (.ref b))) (M:H b=some (.tup [.int k.1,.int k.2])) {g:TG} {tb:TS} {D:Ends} (n:L2.St->Prop) (step:Pz.PS->α->Pz.PS) (W:Hp->Pz.PS->Hp->Prop) (hs:n σ)
 (N:∀h m,bA CP CQ h m A rs S xs xl xr xp kt col->W h S m) (p:∀h T m,W h T m->Same h m/\DL .dT m a y)
 (O:∀h (i:Nat) x v σ c (u:Ends),KT H c->(d.get k)[i]?=some x->it c x v->n σ->W h (((d.get k).take i).foldl step S) c->(∀q H',n q->W h (step (((d.get k).take i).foldl step S) x) H'->u.nx q H')->g v σ c λz Q=>tb u z Q)
 (hd:∀h σ c,Same B h->KT H c->n σ->W h ((d.get k).foldl step S) c->D.nx σ c):n5 (lQ K (mq (gh K (aK 0) f) (aK j) (vS bB))) g tb D σ H:=by
 refine oO (HH E P hD F cl G I J L M λl vs h m s1 R U X C r=>?_);have t:∀T c,W h T c->KT H c:=λT c w a ws e=>(p h T c w).1 _ _ (U _ _ (s1 _ _ e));exact⟨l,rfl,⟨_,SqL.of C⟩,uY (it:=it) n step S (W h) hs (N h m X) (λT c w=>⟨.inl (r c (p h T c w).1 (p h T c w).2).1,(r c (p h T c w).1 (p h T c w).2).2⟩)
  (λi x v σ c u e1 e2 e3 e4=>O h i x v σ c u (t _ _ e4) e1 e2 e3 e4) λσ c s w=>hd h σ c R (t _ _ w) s w⟩
def Ur(a:H b=some (.tup [x,y,z]))(k:Q (((σ.set i (some x)).set j (some y)).set l (some z)) H):iX K 3 (bm (aT i) (bm (aT j) (bm (aT l) iW))) (.ref b) σ H Q:=⟨b,_,rfl,SqT.of a,rfl,_,_,rfl,_,_,rfl,_,_,rfl,rfl,k⟩
def jk{α:Type}{step:Pz.PS->α->Pz.PS}(a:∀S x,Pz.gK S (step S x)){its:List α}{S0:Pz.PS}(h:Pz.lZ (its.foldl step S0)){i:Nat}{x:α}(b:its[i]?=some x):Pz.lZ (step ((its.take i).foldl step S0) x):=by
 have e:(its.take (i+1)).foldl step S0=step ((its.take i).foldl step S0) x:=by rw[Wm,b,Wn];rfl
 rw[<- e];refine Pz.gK.fit (Pz.cu step a (its.drop (i+1)) _) ?_;rw[<- Wn,WL];exact h
def t3:R2:=x5 λi j=>.int (i+j)
def Reads.add(h:Reads ta σ H (.int i))(h':Reads tb σ H (.int j)):Reads (mn t3 ta tb) σ H (.int (i+j)):=h.op h' λ_ q=>⟨i,j,rfl,rfl,q⟩
inductive nV(CP CQ:Addr):Sp
 |mk {B H:Hp} {A:PA} {rs:Pz.RS} {S:Pz.PS} {xs xl xr:DX (List bH)} {c:Addr} {r:Pz.aV} {num mid price:Int} {Q:VK} {E:XK} (P:PAt CP CQ B H A rs S xs xl xr) (hr:IsRule H r (.ref c)) (h2:2<=r.2.2.2.length) (f:Pz.lZ (Pz.first ax S num r mid price))
  (k:∀H' xl',PAt CP CQ B H' A rs (Pz.first ax S num r mid price) xs xl' xr->Q .bv H'):nV CP CQ [.ref A.o,.int num,.ref c,.int mid,.int price] H Q E
def Pj(K:Yy)(CP CQ:Addr):TS:=fL (gq CP "offer" (gc CP CQ) [] E0 (aK 0) (aB (kh (aB (mn (qB K) (aK 2) (tC (.int 0))) (aB (mn (qB K) (aK 2) (tC (.int 1))) (aB (aK 6) bB))))
 (aB (mn t3 (mn t3 (aK 4) (aK 7)) (tC (.int 1))) (aB (aK 1) (aB (aK 3) bB)))))
def SV(K:Yy)(CP CQ:Addr):TS:=n5 (lQ K (mq (gh K (aK 0) "settled") (aK 5) (vS bB))) (iX K 2 (bm (aT 6) (bm (aT 7) iW))) (Pj K CP CQ)
def Pk(K:Yy)(CP CQ:Addr):TS:=dY (fL (pz K (gh K (aK 0) "lacking") (aK 5) (kh (aB (aK 1) (aB (aK 2) (aB (aK 4) bB)))))) (SV K CP CQ)
def EA(K:Yy)(CP CQ:Addr):TS:=dY (ml (kh (aB (aK 3) (aB (mn (qB K) (mn (qB K) (aK 2) (tC (.int 3))) (tC (.int 1))) bB))) (aT 5)) (Pk K CP CQ)
def xa(h:nV CP CQ vs H Q E):vs.length=5:=by cases h;rfl
def EB(A:PA):(pf A).lookup ("offer" : Str)=none:=rfl
def HI{l:List Int}(h:2<=l.length):(l.map V.int)[1]?=some (.int (Pz.nth1 l)):=by rcases l with _|⟨_,_|⟨_,_⟩⟩<;>first|rfl|(simp at h)
variable{D:Ends}{σ:L2.St}{b c q:Addr}{r:Pz.aV}{num mid price:Int}
abbrev R8(r:Pz.aV)(num mid price:Int)(S:Pz.PS)(x:Int×Int):Pz.PS:=Pz.bb ax S (r.1,r.2.1,x.1) (price+x.2+1) (some num) (some mid)
def SW(A:PA)(num:Int)(c:Addr)(mid price:Int)(b:Addr)(σ:L2.St):Prop:=∃u v,σ=[some (.ref A.o),some (.int num),some (.ref c),some (.int mid),some (.int price),some (.ref b),u,v]
def LS(P:PAt CP CQ B H A rs S xs xl xr)(h:IsSet H x v)(hs:SW A num c mid price b σ)(e:H c=some (.tup [.int r.1,.int r.2.1,.int r.2.2.1,.ref q]))(f:Pz.lZ (R8 r num mid price S x))
 (k:∀a H',SW A num c mid price b a->PAt CP CQ B H' A rs (R8 r num mid price S x) xs xl xr->D.nx a H'):iX K 2 (bm (aT 6) (bm (aT 7) iW)) v σ H λd g=>Pj K CP CQ D d g:=by
 obtain⟨t,rfl,i⟩:=h;obtain⟨u,w,rfl⟩:=hs;exact Jv i (uX P f (.va rfl) (.t (.c (.ix (.va rfl) e rfl) (.c (.ix (.va rfl) e rfl) (.c (.va rfl) .ni))) rfl) (λ_ _=>.c (.add (.add (.va rfl) (.va rfl)) .k) (.c (.va rfl) (.c (.va rfl) .ni))) λH'=>k _ H' ⟨_,_,rfl⟩)
def LU(TP:lN K CP)(P:bA CP CQ B H A rs S xs xl xr xp kt col)(C:H b=some (.tup [.int mid,.int (Pz.nth1 r.2.2.2)]))(E:H c=some (.tup [.int r.1,.int r.2.1,.int r.2.2.1,.ref q]))(J:H q=some (.tup (r.2.2.2.map .int)))(fit:Pz.lZ (Pz.first ax S num r mid price))(hs:σ=[some (.ref A.o),some (.int num),some (.ref c),some (.int mid),some (.int price),some (.ref b),none,none])
 (k:∀n H' u,PAt CP CQ B H' A rs (Pz.first ax S num r mid price) xs u xr->D.nx n H'):Pk K CP CQ D σ H:=by
 subst hs;have f:Pz.lZ (Pz.uT S num r mid price):=Pz.gK.fit (Pz.cu _ (λS x=>Pz.cg S _ _ _ _) _ _) fit;have F:=f.l;have G:=f.lf;have al:=Pz.gz S.aJ (mid,Pz.nth1 r.2.2.2) (num,r,price);have e5:(Pz.uT S num r mid price).aJ=S.aJ.app (mid,Pz.nth1 r.2.2.2) (num,r,price):=rfl;rw[e5]at F G;unfold Pz.L at F G;have g:RepM k2 IsLack H S.aJ xl:=P.p3.r;refine uV (a:=A.la) (b:=b) (xs:=xl) (k:=k2 (mid,Pz.nth1 r.2.2.2)) (ws:=[.int num,.ref c,.int price]) P.p3.d (P.fld TP.cl TP.nl (Pg A) rfl) (.va rfl) C (λH' _=>.t (.c (.va rfl) (.c (.va rfl) (.c (.va rfl) .ni))) rfl) (by rw[<- g.len];lia) (g.low (by lia)) ?_;intro l p M N U O hd kp;have e:=P.p3.d.kt (λ_ _ z=>HO.noConfusion z) kp;have y:bA CP CQ B M A rs (Pz.uT S num r mid price) xs _ xr _ _ _:=P.uT hd (g.add (k:=(mid,Pz.nth1 r.2.2.2)) (v:=(num,r,price)) rq (IsLack.keep e) ⟨p,_,rfl,O,c,q,rfl,e _ _ E,e _ _ J⟩) (λc z=>(lB z).imp id λz=>by rw[z];exact N) kp;exact uZ (λH H' k=>IsSet.keep k) y y.p2.d y.p2.r TP.cl TP.ns (Pf A) (j:=5) (k:=(mid,Pz.nth1 r.2.2.2)) rfl rfl (e _ _ C) (SW A num c mid price b) (R8 r num mid price) (λh T m=>PAt CP CQ h m A rs T xs _ xr) ⟨none,none,rfl⟩ (λh Q P=>⟨_,_,_,P⟩)
  (λh T Q ⟨_,_,_,P⟩=>⟨P.same,P.p2.d⟩) (λh i x v σ m V I e1 e2 e3 e4 k=>LS e4 e2 e3 (I _ _ (e _ _ E)) (jk (step:=R8 r num mid price) (λS x=>Pz.cg S _ _ _ _) fit e1) k) λh σ m R I s w=>k σ m _ (w.less R)
def y9{vs:List V}(TP:lN K CP)(h:nV CP CQ vs H Q E):EA K CP CQ {nx:=λ_ H'=>Q .bv H',rt:=Q} (cq ["self","number","rule","mid","price","start","state","second"] vs) H:=by
 obtain⟨⟨xp,kt,col,P⟩,⟨_,q,f,d,e⟩,g,fit,k⟩:=h;cases f
 delta EA dY ml
 exact LI (.c (.va rfl) (.c (.ix (.ix (.va rfl) d rfl) e (zE (j:=1) (HI g))) .ni)) rfl λb a=>LU TP (P.more (aQ a)) ag (aQ a _ _ d) (aQ a _ _ e) fit rfl λ_=>k
end
section
variable{K:Yy}{xp:DX bH}{kt:List (List bH×V)}{col:Addr->Nat}
def xb(K:Yy):List V->Hp->VK->Prop:=λxs H Q=>∃p a,xs=[.ref p]/\(SqL K H p a\/SqT K H p a)/\Q (.int a.length) H
def oP:CallR X (.builtin "len") (xb X.K):=call_len_seq
abbrev tI(K:Yy)(i:Nat)(n:Int):TE:=mn (qB K) (aK i) (tC (.int n))
def u4(rs:Pz.RS):Prop:=∀k x,x∈rs.get k->1<=x.2.2.2.2.length
inductive li(CP CQ:Addr):Sp
 |mk {B H:Hp} {A:PA} {rs:Pz.RS} {S:Pz.PS} {xs xl xr:DX (List bH)} {b:Addr} {a:Pz.bc} {price:Int} {Q:VK} {E:XK} (P:PAt CP CQ B H A rs S xs xl xr) (ha:H b=some (.tup (oM a))) (rok:u4 rs) (f:Pz.lZ (Pz.settle ax rs S a price))
  (k:∀H' xs' xl',PAt CP CQ B H' A rs (Pz.settle ax rs S a price) xs' xl' xr->Q .bv H'):li CP CQ [.ref A.o,.ref b,.int price] H Q E
def Pl(K:Yy)(CP CQ:Addr):TS:=xY (o6 (mn N3 (Gr (xb K) (aB (tI K 5 3) bB)) (tC (.int 1))))
 (fL (gq CP "offer" (gc CP CQ) [] E0 (aK 0) (aB (kh (aB (tI K 5 0) (aB (tI K 5 1) (aB (tI K 1 2) bB)))) (aB (mn t3 (aK 2) (tC (.int 1))) (aB (aK 4) (aB (tC .bv) bB))))))
 (fL (gq CP "settle_first" (nV CP CQ) [] E0 (aK 0) (aB (aK 4) (aB (aK 5) (aB (tI K 1 2) (aB (aK 2) bB))))))
def SX(K:Yy)(CP CQ:Addr):TS:=n5 (lQ K (mq (gh K (aK 0) "rules") (aK 3) (vS bB))) (iX K 2 (bm (aT 4) (bm (aT 5) iW))) (Pl K CP CQ)
def Pn(K:Yy)(CP CQ:Addr):TS:=fL (gq CP "offer" (gc CP CQ) [] E0 (aK 0) (aB (kh (aB (tI K 5 0) (aB (tI K 5 1) (aB (tI K 1 2) bB)))) (aB (mn t3 (mn t3 (aK 6) (aK 2)) (tC (.int 1))) (aB (aK 4) (aB (tI K 1 0) bB)))))
def SY(K:Yy)(CP CQ:Addr):TS:=dY (n5 (lQ K (mq (gh K (aK 0) "lacking") (aK 3) (vS bB))) (iX K 3 (bm (aT 4) (bm (aT 5) (bm (aT 6) iW)))) (Pn K CP CQ)) (SX K CP CQ)
def Po(K:Yy)(CP CQ:Addr):TS:=dY (fL (pz K (gh K (aK 0) "settled") (aK 3) (kh (aB (tI K 1 2) (aB (aK 2) bB))))) (SY K CP CQ)
def Am(K:Yy)(CP CQ:Addr):TS:=dY (ml (kh (aB (tI K 1 0) (aB (tI K 1 1) bB))) (aT 3)) (Po K CP CQ)
def u5(h:li CP CQ vs H Q E):vs.length=3:=by cases h;rfl
def EC(A:PA):(pf A).lookup ("settle_first" : Str)=none:=rfl
def Reads.len(h:Reads ta σ H (.ref q))(a:H q=some (.tup ws)):Reads (Gr (xb K) (aB ta bB)) σ H (.int ws.length):=λ_ k=>h _ ⟨q,ws,rfl,.inr (SqT.of a),k⟩
def Reads.TV(h:Reads ta σ H (.int m))(h':Reads tb σ H (.int n)):Reads (mn N3 ta tb) σ H (.bl (decide (m=n))):=h.op h' λ_ q=>⟨rfl,by rw[show decide (V.int m=V.int n)=decide (m=n)from Yp.mpr ⟨λe=>by injection e,λe=>by rw[e]⟩];exact q⟩
variable{D:Ends}{σ:L2.St}{b b0:Addr}{a:Pz.bc}{price:Int}
def Oa(A:PA)(b0:Addr)(price:Int)(b:Addr)(σ:L2.St):Prop:=∃u v w,σ=[some (.ref A.o),some (.ref b0),some (.int price),some (.ref b),u,v,w]
def SZ(P:PAt CP CQ B H A rs S xs xl xr)(h:IsLack H x v)(hs:Oa A b0 price b σ)(ha:H b0=some (.tup (oM a)))(f:Pz.lZ (Pz.px ax a price S x))
 (k:∀d H',Oa A b0 price b d->PAt CP CQ B H' A rs (Pz.px ax a price S x) xs xl xr->D.nx d H'):iX K 3 (bm (aT 4) (bm (aT 5) (bm (aT 6) iW))) v σ H λe i=>Pn K CP CQ D e i:=by
 obtain⟨t,_,rfl,j,c,q,rfl,g,l⟩:=h;obtain⟨u,w,z,rfl⟩:=hs;exact Ur j (uX P f (.va rfl) (.t (.c (.ix (.va rfl) g rfl) (.c (.ix (.va rfl) g rfl) (.c (.ix (.va rfl) ha rfl) .ni))) rfl) (λ_ s=>.c (.add (.add (.va rfl) (.va rfl)) .k) (.c (.va rfl) (.c (.ix (.va rfl) (s _ _ ha) rfl) .ni))) λH'=>k _ H' ⟨_,_,_,rfl⟩)
def S1(P:PAt CP CQ B H A rs S xs xl xr)(h:IsNum H x v)(hs:Oa A b0 price b σ)(ha:H b0=some (.tup (oM a)))(p:1<=x.2.2.2.2.length)(f:Pz.lZ (Pz.cL ax a price S x))
 (k:∀e H',Oa A b0 price b e->(∃d,PAt CP CQ B H' A rs (Pz.cL ax a price S x) xs d xr)->D.nx e H'):iX K 2 (bm (aT 4) (bm (aT 5) iW)) v σ H λj m=>Pl K CP CQ D j m:=by
 obtain⟨t,_,rfl,n,c,q,rfl,i,l⟩:=h;obtain⟨u,w,z,rfl⟩:=hs;unfold Pz.cL at f k;have e1:(((x.2.2.2.2.map V.int).length:Nat):Int)=1↔x.2.2.2.2.length=1:=by rw[UO];lia
 refine Jv n (wW (.TV (.len (.ix (.va rfl) i rfl) l) .k) (λh=>?_) λh=>?_)
 .rw[UP (e1.mp (VN h))]at f k;exact uX P f (.va rfl) (.t (.c (.ix (.va rfl) i rfl) (.c (.ix (.va rfl) i rfl) (.c (.ix (.va rfl) ha rfl) .ni))) rfl) (λ_ s=>.c (.add (.va rfl) .k) (.c (.va rfl) (.c .k .ni))) λH' g=>k _ H' ⟨_,_,_,rfl⟩ ⟨_,g⟩
 .have h1:¬x.2.2.2.2.length=1:=λz=>h (U6 (e1.mpr z));have o:2<=x.2.2.2.2.length:=by lia
  rw[UV h1]at f k;have g:=P;obtain⟨_,_,_,Q⟩:=g;exact wV (.va rfl) Q.po.ins (EC A) (.c (.va rfl) (.c (.va rfl) (.c (.ix (.va rfl) ha rfl) (.c (.va rfl) .ni)))) (.mk P ⟨c,q,rfl,i,l⟩ o f λH' d g=>k _ H' ⟨_,_,_,rfl⟩ ⟨d,g⟩)
def S3(TP:lN K CP)(P:bA CP CQ B H A rs S xs xl xr xp kt col)(ha:H b0=some (.tup (oM a)))(F:H b=some (.tup [.int a.1,.int a.2.1]))(G:u4 rs)(fit:Pz.lZ (Pz.settle ax rs S a price))(hs:σ=[some (.ref A.o),some (.ref b0),some (.int price),some (.ref b),none,none,none])
 (k:∀I H' J e,PAt CP CQ B H' A rs (Pz.settle ax rs S a price) J e xr->D.nx I H'):Po K CP CQ D σ H:=by
 subst hs;have g2:Pz.gK ((S.aJ.get (a.1,a.2.1)).foldl (Pz.px ax a price) (Pz.note S a price)) (Pz.settle ax rs S a price):=Pz.cu _ (Pz.mG a price) _ _;have h:=g2.fit fit;have m:Pz.lZ (Pz.note S a price):=Pz.gK.fit (Pz.cu _ (λS x=>Pz.cg S _ _ _ _) _ _) h;have R:=m.s;have U:=m.sf;have al:=Pz.gz S.settled (a.1,a.2.1) (a.2.2,price);have e5:(Pz.note S a price).settled=S.settled.app (a.1,a.2.1) (a.2.2,price):=rfl;rw[e5]at R U;unfold Pz.L at R U;have n:RepM k2 IsSet H S.settled xs:=P.p2.r;refine uV (a:=A.sa) (b:=b) (xs:=xs) (k:=k2 (a.1,a.2.1)) (ws:=[.int a.2.2,.int price]) P.p2.d (P.fld TP.cl TP.ns (Pf A) rfl) (.va rfl) F (λH' kp=>.t (.c (.ix (.va rfl) (kp _ _ ha (λz=>by rw[z,P.p2.d.root]at ha;cases ha)) rfl) (.c (.va rfl) .ni)) rfl) (by rw[<- n.len];lia) (n.low (by lia)) ?_;intro l p W X hp Y hd kp;have f:=P.p2.d.kt (λ_ _ z=>HO.noConfusion z) kp;have y:bA CP CQ B W A rs (Pz.note S a price) _ xl xr _ _ _:=P.TH hd (n.add (k:=(a.1,a.2.1)) (v:=(a.2.2,price)) rq (IsSet.keep f) ⟨p,rfl,Y⟩) (λc z=>(lB z).imp id λz=>by rw[z];exact X) kp;generalize oK xs (k2 (a.1,a.2.1)) l (.ref p)=q at y;refine uZ (λH H' k=>IsLack.keep k) y y.p3.d y.p3.r TP.cl TP.nl (Pg A) (j:=3) (k:=(a.1,a.2.1)) rfl rfl (f _ _ F) (Oa A b0 price b) (Pz.px ax a price) (λg T M=>PAt CP CQ g M A rs T q xl xr) ⟨none,none,none,rfl⟩ (λg N P=>⟨_,_,_,P⟩)
  (λg T N ⟨_,_,_,P⟩=>⟨P.same,P.p3.d⟩) (λg i x v σ M Z C e1 e2 e3 e4 k=>SZ e4 e2 e3 (C _ _ (f _ _ ha)) (jk (step:=Pz.px ax a price) (λS x=>Pz.cg S _ _ _ _) h e1) k) λg σ M b1 C s w=>?_
 obtain⟨u,v,z,rfl⟩:=s;obtain⟨_,_,_,O⟩:=w;have Q:=C _ _ (f _ _ ha);exact uZ (λH H' k=>IsNum.keep k) O O.p4.d O.p4.r TP.cl TP.nr (SU A) (j:=3) (k:=(a.1,a.2.1)) rfl rfl (C _ _ (f _ _ F)) (Oa A b0 price b) (Pz.cL ax a price) (λg T E=>∃e,PAt CP CQ g E A rs T q e xr) ⟨_,_,_,rfl⟩ (λg N P=>⟨_,_,_,_,P⟩)
  (λg T N ⟨_,_,_,_,P⟩=>⟨P.same,P.p4.d⟩) (λg i x v σ E Z V e1 e2 e3 ⟨_,e4⟩ k=>S1 e4 e2 e3 (V _ _ Q) (G _ _ (Vm e1)) (jk (step:=Pz.cL ax a price) (Pz.mG a price) fit e1) k) λB2 σ E b2 V s ⟨e,w⟩=>k σ E _ e (w.less (b1.trans b2))
def xc(TP:lN K CP)(h:li CP CQ vs H Q E):Am K CP CQ {nx:=λ_ H'=>Q .bv H',rt:=Q} (cq ["self","arrow","price","start","number","rule","first"] vs) H:=by
 obtain⟨⟨xp,kt,col,P⟩,ha,d,fit,k⟩:=h
 delta Am dY ml
 exact LI (.c (.ix (.va rfl) ha rfl) (.c (.ix (.va rfl) ha rfl) .ni)) rfl λb e=>S3 TP (P.more (aQ e)) (aQ e _ _ ha) ag d fit rfl λ_=>k
end
section
variable{K:Yy}
def bA.BI(h:bA CP CQ B H A rs S xs xl xr xp kt col)(l:∃b,H' A.aq=some (.ins CQ b (qf A m)))(h1:DL .dK H' A.ap xp')(o:RepM k1 IsItem H' d' xp')(p:∀c,cD A.ap xp' c->cD A.ap xp c\/H c=none)
 (kp:∀c u,H c=some u->¬cD A.ap xp c->c≠A.aq->H' c=some u):bA CP CQ B H' A rs {S with last:=m,aF:=d'} xs xl xr xp' kt (uW col 1 H):=by
 obtain⟨t,f⟩:=h.po.F8;have k:KT H H':=λc ws e=>kp c _ e (λi=>by
  rcases i with rfl|⟨x,q,rfl⟩
  .rw[h.p1.d.root]at e;cases e
  .rw[h.p1.d.rX x q]at e;cases e) λz=>by rw[z,f]at e;cases e
 have a:∀c u,H c=some u->col c≠1->col c≠7->H' c=some u:=λc u e n r=>kp c u e (λi=>n (h.p1.c c i).1) λz=>r (by rw[z];exact h.po.c7.1);obtain⟨⟨b,g⟩,_,j,s,c5,c6,c7⟩:=h.po;refine⟨(λc u e=>kp c u (h.same c u e) (λi=>by rw[(h.p1.c c i).2]at e;cases e) λz=>by rw[z,c7.2]at e;cases e),h.p1.new h.same h1 o p,h.p2.keep (IsSet.keep k) (λc u e z=>a c u e (by lia) (by lia)) λc=>bC,h.p3.keep (IsLack.keep k) (λc u e z=>a c u e (by lia) (by lia)) λc=>bC,h.p4.keep (IsNum.keep k) (λc u e z=>a c u e (by lia) (by lia)) λc=>bC,⟨b,a _ _ g (by lia) (by lia)⟩,l,a _ _ j (by lia) (by lia),s.keep k,?_,?_,?_⟩
 .rw[bC (by rw[j];simp)];exact c5
 .rw[bC (by rw[g];simp)];exact c6
 .rw[bC (by rw[f];simp)];exact c7
inductive xS(CP CQ:Addr):Sp
 |mk {B H:Hp} {A:PA} {rs:Pz.RS} {S T:Pz.PS} {xs xl xr:DX (List bH)} {n:Nat} {Q:VK} {E:XK} (P:PAt CP CQ B H A rs S xs xl xr) (rok:u4 rs) (fit:Pz.lZ S) (lp:Pz.Loop ax rs n S T) (k:∀H' xs' xl',PAt CP CQ B H' A rs T xs' xl' xr->Q .bv H'):xS CP CQ [.ref A.o] H Q E
def Pp(K:Yy)(CP CQ:Addr):TS:=xY (o6 (mn N3 (mn (qB K) (Jh (gh K (aK 0) "told") (aK 2)) (tC (.int 0))) (aK 1))) (fL (gq CP "settle" (li CP CQ) [] E0 (aK 0) (aB (aK 2) (aB (aK 1) bB)))) vN
def Pq(K:Yy)(CP CQ:Addr):TS:=n5 (lQ K (gq CQ "take_lowest" (rW CQ) [] E0 (gh K (aK 0) "offers") bB)) (iX K 2 (bm (aT 1) (bm (aT 2) iW))) (Pp K CP CQ)
def S4(K:Yy)(CP CQ:Addr):TS:=CG (Ol (tB (gq CQ "is_empty" (nR CQ) [] E0 (gh K (aK 0) "offers") bB))) (Pq K CP CQ)
def BU(h:xS CP CQ vs H Q E):vs.length=1:=by cases h;rfl
def LV(A:PA)(last:Int):(qf A last).lookup ("is_empty" : Str)=none:=rfl
def HJ(A:PA)(last:Int):(qf A last).lookup ("take_lowest" : Str)=none:=rfl
def BV(A:PA):(pf A).lookup ("settle" : Str)=none:=rfl
variable{D:Ends}{σ:L2.St}{T:Pz.PS}{m:Nat}
def Ps(A:PA)(σ:L2.St):Prop:=∃u v,σ=[some (.ref A.o),u,v]
def wA(CP CQ:Addr)(B:Hp)(A:PA)(rs:Pz.RS)(a:DX (List bH))(T:Pz.PS)(m:Nat)(σ:L2.St)(H:Hp):Prop:=Ps A σ/\∃S xs b,PAt CP CQ B H A rs S xs b a/\Pz.lZ S/\Pz.Loop ax rs m S T
def Us(TP:lN K CP)(g:u4 rs)(P:PAt CP CQ B H A rs S xs xl xr)(h:IsItem H x v)(hs:Ps A σ)(n:Pz.bL S.told x.2≠none)(f:Pz.lZ (Pz.turn ax rs S x))
 (k:∀e H',Ps A e->(∃a d,PAt CP CQ B H' A rs (Pz.turn ax rs S x) a d xr)->D.nx e H'):iX K 2 (bm (aT 1) (bm (aT 2) iW)) v σ H λi o=>Pp K CP CQ D i o:=by
 obtain⟨t,_,rfl,p,b,rfl,l⟩:=h;obtain⟨u,w,rfl⟩:=hs;have j:=P;obtain⟨_,_,_,Q⟩:=j;rcases Q.po.tr.find x.2 with⟨_,e2⟩|⟨_,y,e1,e2,q,rfl,r⟩
 .exact(n e2).elim
 unfold Pz.turn Pz.N_ at f k;rw[e2]at f k;refine Jv p (wW (.TV (.ix (λ_ z=>Q.fld TP.cl TP.nt (HG A) rfl _ ⟨_,rfl,A.ta,.ref q,rfl,by rw[<- e1];exact DGet.t Q.po.td l,z⟩) r rfl) (.va rfl)) (λh=>?_) λh=>?_)
 .rw[UP h]at f k;exact wV (.va rfl) Q.po.ins (BV A) (.c (.va rfl) (.c (.va rfl) .ni)) (.mk P l g f λH' a d j=>k _ H' ⟨_,_,rfl⟩ ⟨a,d,j⟩)
 .rw[UV h]at k;exact k _ H ⟨_,_,rfl⟩ ⟨xs,xl,P⟩
def Ut(TP:lN K CP)(q:u4 rs)(P:bA CP CQ B H A rs S xs xl xr xp kt col)(fit:Pz.lZ S)(hs:Ps A σ)(t:S.aF≠[])(aU:Pz.xX ax S.last S.aF)(y:∀x∈Pz.eG ax S.aF,Pz.bL S.told x.2≠none)(g:Pz.lZ (Pz.batch ax rs (Pz.take ax S) (Pz.eG ax S.aF)))
 (lp:Pz.Loop ax rs m (Pz.batch ax rs (Pz.take ax S) (Pz.eG ax S.aF)) T) (k:∀j H',wA CP CQ B A rs xr T m j H'->D.nx j H'):Pq K CP CQ D σ H:=by
 obtain⟨u,v,rfl⟩:=hs;have pr:RepM k1 IsItem H S.aF xp:=P.p1.r;have M:=fit.p;have N:=fit.pf;unfold Pz.L at M N;refine oO (wV (P.fld TP.cl TP.no (LO A) rfl) P.po.F8 (HJ A _) .ni (.mk ⟨P.po.F8,P.p1.d,by rw[<- pr.len];lia,pr.low (by lia)⟩ pr aU t (by lia) ?_));intro l vs' C O I Q n R nl il o E;have U:bA CP CQ B O A rs (Pz.take ax S) xs xl xr C kt _:=P.BI (m:=Pz.lowP S.aF) (d':=Pz.left ax S.aF) I.ins I.aF Q o E;obtain⟨F,V,W,X,Y⟩:=U.wide (λc=>c=l) λc e=>by
  subst e;rcases il with il|il
  .have G:=(P.p1.c c il).1;refine⟨nl,λi=>?_,λi=>?_,λi=>?_,λz=>?_,λz=>?_,λz=>?_⟩
   .have:=(P.p2.c c i).1;lia
   .have:=(P.p3.c c i).1;lia
   .have:=(P.p4.c c i).1;lia
   .have:=P.po.c5.1;rw[z]at G;lia
   .have:=P.po.c6.1;rw[z]at G;lia
   .have:=P.po.c7.1;rw[z]at G;lia
  .exact⟨nl,(P.obj il).2⟩
 have sm:∀h a,(∃b f,PAt CP CQ F a A rs h b f xr)->Same F a:=λh a ⟨_,_,_,_,_,P⟩=>P.same;exact⟨l,rfl,⟨_,SqL.of n⟩,uY (it:=IsItem) (Ps A) (Pz.turn ax rs) (Pz.take ax S) (λh a=>∃b f,PAt CP CQ F a A rs h b f xr) ⟨_,_,rfl⟩ ⟨xs,xl,_,_,_,Y⟩ (λh a w=>⟨.inl (sm h a w _ _ (X l _ rfl n)),R.mono (IsItem.keep λc ws e=>sm h a w _ _ (W _ _ e))⟩)
  (λi x v σ a Z J ix s ⟨_,_,w⟩ k=>Us TP q w ix s (Pz.kX _ (λS x k=>Pz.Hy k) _ _ (y x (Vm J))) (jk (step:=Pz.turn ax rs) Pz.BK g J) k) λσ a s ⟨b,f,w⟩=>k σ a ⟨s,_,b,f,w.less V,g,lp⟩⟩
def ED(TP:lN K CP)(h:xS CP CQ vs H Q E):S4 K CP CQ {nx:=λ_ H'=>Q .bv H',rt:=Q} (cq ["self","price","arrow"] vs) H:=by
 obtain @⟨B,H,A,rs,S,T,xs,c,xr,n,Q,E,P,rok,fit,lp,k⟩:=h;refine⟨wA CP CQ B A rs xr T,⟨n,⟨none,none,rfl⟩,S,xs,c,P,fit,lp⟩,?_⟩;clear P lp fit;rintro m σ H ⟨hs,S,xs,c,⟨i,kt,f,P⟩,fit,lp⟩;have l:σ[0]?=some (some (.ref A.o)):=by obtain⟨_,_,rfl⟩:=hs;rfl
 have el:i.kv.length=S.aF.length:=by unfold DX.kv;rw[UO,<- P.p1.r.len]
 obtain⟨q,j⟩:=P.po.F8;have s:=fit.p;unfold Pz.L at s;refine wV (P.fld TP.cl TP.no (LO A) l) ⟨q,j⟩ (LV A _) .ni (.mk j P.p1.d.root (by rw[el,Vk];lia) ⟨_,rfl,?_⟩);rw[el];cases lp with
 |done e=>rw[e];exact v6 (k H xs c ⟨i,kt,f,P⟩)
 |@step m _ _ a aU g _ b lp=>rw[U_ λz=>a (VC.mp z)];exact uq ⟨wA CP CQ B A rs xr T m,λt H' h'=>⟨m,WH _,h'⟩,Ut TP rok P fit hs a aU g b lp λ_ _=>id⟩
end
section
variable{K:Yy}{H:Hp}
def An{tb:TS}{D:Ends}{σ:L2.St}{f:Hp}(b:L2.St->Prop)(W:Nat->Hp->Prop)(j:b σ)(h1:W 0 f)(k:∀i H,W i H->SqL K H l vs)
 (n:∀(i:Nat)(v:V)(p:Addr)(σ:L2.St)(H:Hp)(h:Ends),vs[i]?=some v->H p=none->b σ->W i H->(∀a H',b a->W (i+1) H'->h.nx a H')->g (.ref p) σ (aP H p (.tup [.int (i:Nat),v])) λd o=>tb h d o)
 (hd:∀σ H,b σ->W vs.length H->D.nx σ H):Wk (R0 K l) g tb D σ f:=by
 refine⟨λi m σ H=>m=vs.length-i/\i<=vs.length/\b σ/\W i H,⟨vs.length,by simp,Vo _,j,h1⟩,?_⟩;rintro i m σ H ⟨rfl,u,s,w⟩;have q:=k i H w;by_cases c:i<vs.length
 .refine .inr ⟨⟨vs,vs[i],q,by simp[c]⟩,λa H'=>b a/\W (i+1) H',λa H' r=>⟨vs.length-(i+1),by lia,rfl,c,r⟩,λx H' y=>?_⟩;obtain⟨p,v,t,rfl,rfl,y⟩:=y;exact n i v p σ H _ (y vs q) t s w λ_ _=>And.intro
 .have e:i=vs.length:=by lia
  subst e;exact .inl ⟨⟨vs,q,UN _⟩,hd σ H s w⟩
def t4{tb:TS}{D:Ends}{σ:L2.St}(h:ta σ H λvs b=>∃a xs,vs=[.ref a]/\SqL K b a xs/\Wk (R0 K a) g tb D σ b):n5 (z_ K ta) g tb D σ H:=h
theorem y_:∀(l:List Pz.aV)(k i:Nat),(Pz.en l k)[i]?=(l[i]?).map λr=>(((k+i:Nat):Int),r)
 |[],k,i=>by simp[Pz.en]
 |r::l,k,0=>by simp[Pz.en]
 |r::l,k,i+1=>by show(Pz.en l (k+1))[i]?=(l[i]?).map _;rw[y_ l];congr 1;funext r;congr 2;lia
def Ao{a:Type}(f:a->Int×Pz.aV->a)(b:a){l:List Pz.aV}{i:Nat}{r:Pz.aV}(h:l[i]?=some r):((Pz.en l 0).take (i+1)).foldl f b=f (((Pz.en l 0).take i).foldl f b) ((i:Int),r):=by
 have e:(Pz.en l 0)[i]?=some ((i:Int),r):=by rw[y_,h];simp
 rw[Wm,e,Wn];rfl
structure iU(H:Hp) (RL:List Pz.aV) (p l:Addr) (vs:List V):Prop where
 tup:∃w0 w1,H p=some (.tup [w0,w1,.ref l])
 lst:Rd H l (.lst vs)
 its:fI (IsRule H) RL vs
def jF(s:Same H H')(h:Rd H a u):Rd H' a u:=h.imp (s a _) λ⟨o,e⟩=>⟨o,s a _ e⟩
def iU.same(h:iU H RL p l vs)(s:Same H H'):iU H' RL p l vs:=⟨let ⟨a,b,e⟩:=h.tup;⟨a,b,s _ _ e⟩,jF s h.lst,h.its.mono (IsRule.keep (p7 s))⟩
inductive FU:Sp
 |mk {RL:List Pz.aV} {p l:Addr} {ws:List V} {H:Hp} {Q:VK} {E:XK} (G:iU H RL p l ws) (bu:RL.length<16000000) (k:∀(ar:Addr)(xr:DX (List bH))(H':Hp),Same H H'->DL .dT H' ar xr->RepM k2 IsNum H' (Pz.bY RL) xr->(∀c,cD ar xr c->H c=none)->Q (.ref ar) H'):FU [.ref p] H Q E
def Uu:R2:=x5 λi j=>.bl (decide (j<i))
def Pt(K:Yy):TS:=xY (o6 (mn Uu (Gr (xb K) (aB (tI K 3 3) bB)) (tC (.int 0)))) (fL (pz K (aK 1) (kh (aB (tI K 3 2) (aB (mn (qB K) (tI K 3 3) (tC (.int 0))) bB))) (kh (aB (aK 2) (aB (aK 3) bB))))) vN
def S5(K:Yy):TS:=dY (n5 (z_ K (aB (tI K 0 2) bB)) (iX K 2 (bm (aT 2) (bm (aT 3) iW))) (Pt K)) (ud (aK 1))
def Uv(K:Yy):TS:=dY (ml oe (aT 1)) (S5 K)
def EE(h:FU vs H Q E):vs.length=1:=by cases h;rfl
def BW(c:Reads to σ H (.ref a))(d:H a=some (.dT kvs))(e:Makes tk σ H ks)(h:∀b,H b=none->pz K (tC (.ref a)) (tC (.ref b)) te σ (aP H b (.tup ks)) Q):pz K to tk te σ H Q:=c _ ⟨.inr (.inr (.inl ⟨rfl,.inr ⟨_,d⟩⟩)),e _ λb f=>(h b f).2⟩
def EF{m:Type}{it:Hp->m->V->Prop}(kp:∀{H H':Hp},KT H H'->∀a v,it H a v->it H' a v){to tk w:TE}{σ:L2.St}{ar:Addr}{g:DX (List bH)}{d:Pz.MD (Int×Int) m}{k:Int×Int}{v:m}{ws:List V}{C:Hp->Prop}(j:DL .dT H ar g)(R2:RepM k2 it H d g)(ok:d.Ok)(nY:d.flat.length<16000000)(x:Reads to σ H (.ref ar))(y:Makes tk σ H [.int k.1,.int k.2])(A:∀H',KT H H'->Makes w σ H' ws)(B:∀p H',KT H H'->H' p=some (.tup ws)->it H' v (.ref p))
 (D:∀H' f,DL .dT H' ar f->RepM k2 it H' (d.app k v) f->(∀c,cD ar f c->cD ar g c\/H c=none)->(∀c u,H c=some u->¬cD ar g c->H' c=some u)->C H'):pz K to tk w σ H λ_ H'=>C H':=by
 refine BW x j.root y λb E=>?_;have l:=aQ (o:=HO.tup [.int k.1,.int k.2]) E;refine uV (a:=ar) (b:=b) (xs:=g) (k:=k2 k) (ws:=ws) (j.keep λc u e _=>l c u e) .k .k ag (λH' kp=>A H' λc vs e=>kp c _ (l _ _ e) λz=>by rw[z,j.root]at e;cases e) (by rw[<- R2.len];have:=Pz.jC ok;lia) (R2.low nY) ?_;intro I F n q G r s t;have h:∀c u,H c=some u->¬cD ar g c->n c=some u:=λc u e=>t c u (l _ _ e);have i:=j.kt (λ_ _ z=>HO.noConfusion z) h;exact D n _ s (R2.add (k:=k) (v:=v) rq (kp i) (B F n i r)) (λc z=>(lB z).imp id λz=>by rw[z];exact l.free q) h
variable{D:Ends}{σ:L2.St}{p ar pp c q:Addr}{r:Pz.aV}{n:Int}{xr:DX (List bH)}{d:Pz.RS}
def S6(p ar:Addr)(σ:L2.St):Prop:=∃u v,σ=[some (.ref p),some (.ref ar),u,v]
def Uw(o:DL .dT H ar xr)(R2:RepM k2 IsNum H d xr)(ok:d.Ok)(nY:d.flat.length<16000000)(hs:S6 p ar σ)(g:H pp=some (.tup [.int n,.ref c]))(f:H c=some (.tup [.int r.1,.int r.2.1,.int r.2.2.1,.ref q]))(i:H q=some (.tup (r.2.2.2.map .int)))
 (k:∀b H' a,S6 p ar b->DL .dT H' ar a->RepM k2 IsNum H' (Pz.iH d (n,r)) a->(∀c,cD ar a c->cD ar xr c\/H c=none)->(∀c u,H c=some u->¬cD ar xr c->H' c=some u)->D.nx b H'):iX K 2 (bm (aT 2) (bm (aT 3) iW)) (.ref pp) σ H λl s=>Pt K D l s:=by
 obtain⟨u,w,rfl⟩:=hs;have e2:(0:Int)<(((r.2.2.2.map V.int).length:Nat):Int)↔r.2.2.2.length>0:=by rw[UO];lia
 unfold Pz.iH at k;refine Jv g (wW (.op (.len (.ix (.va rfl) f rfl) i) .k λ_ q=>⟨_,_,rfl,rfl,q⟩) (λh=>?_) λh=>?_)
 .have h1:=e2.mp (VN h);rw[UP h1]at k;have m:(r.2.2.2.map V.int)[0]?=some (.int (r.2.2.2[0]?.getD 0)):=by
   cases A:r.2.2.2 with
   |nil=>rw[A]at h1;simp at h1
   |cons x y=>rfl
  exact EF (k:=(r.2.2.1,r.2.2.2[0]?.getD 0)) (v:=(n,r)) (λk=>IsNum.keep k) o R2 ok nY (.va rfl) (.t (.c (.ix (.va rfl) f rfl) (.c (.ix (.ix (.va rfl) f rfl) i (zE (j:=0) m)) .ni)) rfl) (λH' _=>.t (.c (.va rfl) (.c (.va rfl) .ni)) rfl) (λp H' kt B=>⟨p,_,rfl,B,c,q,rfl,kt _ _ f,kt _ _ i⟩) λH' a=>k _ H' a ⟨_,_,rfl⟩
 .rw[UV λz=>h (U6 (e2.mpr z))]at k;exact k _ H _ ⟨_,_,rfl⟩ o R2 (λc=>.inl) λc u e _=>e
def HK{Q:VK}{E:XK}(h:FU vs H Q E):Uv K {nx:=λ_ H'=>Q .bv H',rt:=Q} (cq ["house","rules","number","rule"] vs) H:=by
 obtain @⟨RL,p,l,ws,H,Q,E,G,bu,k⟩:=h;intro ar j;have s1:Same H (aP H ar (.dT [])):=aQ j;obtain⟨S,T,F⟩:=(G.same s1).tup;have bl:∀i,(((Pz.en RL 0).take i).foldl Pz.iH []).Ok/\(((Pz.en RL 0).take i).foldl Pz.iH []).flat.length<16000000:=λi=>by obtain⟨a,b⟩:=Pz.yV ((Pz.en RL 0).take i) [] Pz.tZ;have h1:=Xf i (Pz.en RL 0);rw[Pz.rj]at h1;have C:(Pz.MD.flat ([]:Pz.RS)).length=0:=rfl;exact⟨a,by lia⟩
 refine t4 (ReadsA.c (.ix (.va (i:=0) rfl) F (v:=.ref l) rfl) .ni _ ⟨l,ws,rfl,.inl (jF s1 G.lst),?_⟩);refine An (S6 p ar) (λi g=>∃xr,Same H g/\DL .dT g ar xr/\RepM k2 IsNum g (((Pz.en RL 0).take i).foldl Pz.iH []) xr/\∀c,cD ar xr c->H c=none) ⟨none,none,rfl⟩ ⟨[],s1,⟨ag,λ_ h=>(U0 h).elim,Ve,Ve⟩,.nil,λc i=>?_⟩ (λi g ⟨xr,s2,_⟩=>.inl (jF s2 G.lst)) (λi v pp σ g U I s hs ⟨xr,s2,t,R2,m⟩ k=>?_) λσ g ⟨u,w,e⟩ ⟨xr,s2,t,R2,m⟩=>?_
 .rcases i with rfl|⟨x,J,_⟩
  .exact j
  .exact(U0 J).elim
 .obtain⟨r,L,c,q,rfl,M,N⟩:=G.its.get I;have y:=aQ (o:=HO.tup [.int (i:Nat),.ref c]) s;have f:=s2.trans y;rw[Ao _ _ L]at k;exact Uw (t.keep λc u e _=>y c u e) (R2.keep (IsNum.keep (p7 y))) (bl i).1 (bl i).2 hs ag (f _ _ M) (f _ _ N) λA H' B h1 C O P R=>k A H' h1 ⟨B,(λc u e=>R c u (f _ _ e) λz=>by rw[m c z]at e;cases e),C,O,λc z=>(P c z).elim (m c) f.free⟩
 .subst e;rw[VG (by rw[Pz.rj,G.its.len];exact UN _)]at R2;exact⟨_,rfl,k ar xr g s2 t R2 m⟩
end
section
variable{K:Yy}{CP CQ:Addr}{H:Hp}
inductive nQ(CP CQ:Addr):Sp
 |mk {B H:Hp} {RL:List Pz.aV} {o dx p l:Addr} {ws:List V} {Q:VK} {E:XK} (ho:H o=some (.ins CP dx [])) (sb:Same B H) (nb:B o=none) (G:iU H RL p l ws) (bu:RL.length<16000000) (k:∀(A:PA)(xr:DX (List bH))(H':Hp),A.o=o->PAt CP CQ B H' A (Pz.bY RL) Pz.S0 [] [] xr->Q .bv H'):nQ CP CQ [.ref o,.ref p] H Q E
def LW(K:Yy)(CQ:Addr):TS:=
 dY (ue K (aK 0) (zA FU [] E0 (aB (aK 1) bB)) "rules")
 (dY (ue K (aK 0) oe "told")
 (dY (ue K (aK 0) (zB CQ (nW CQ) [] E0 bB) "offers")
 (dY (ue K (aK 0) oe "settled")
 (ue K (aK 0) oe "lacking"))))
def xf(h:nQ CP CQ vs H Q E):vs.length=2:=by cases h;rfl
def za(TP:lN K CP)(h:nQ CP CQ vs H Q E):LW K CQ {nx:=λ_ H'=>Q .bv H',rt:=Q} (cq N vs) H:=by
 obtain @⟨B,H,RL,o,dx,p,l,ws,Q,E,ho,sb,nb,G,bu,k⟩:=h;refine⟨_,rfl,.mk G bu λar xr t s1 D1 R1 n1=>?_⟩;have ho1:=s1 _ _ ho;have nor:∀c,cD ar xr c->c≠o:=λc i z=>by grind
 refine⟨_,rfl,o,CP,dx,_,rfl,ho1,TP.cl,TP.nr,(by grind),?_⟩;generalize hH2:aP t o (.ins CP dx (jb "rules" (.ref ar) []))=H2;have J:H2 o=some (.ins CP dx [("rules",.ref ar)]):=by rw[<- hH2,ag];rfl
 have L:∀c u,t c=some u->c≠o->H2 c=some u:=λc u e n=>by rw[<- hH2,af n];exact e
 intro ta g;have e3:aP H2 ta (.dT []) o=some (.ins CP dx [("rules",.ref ar)]):=by rw[af (av J g)];exact J
 refine⟨_,rfl,o,CP,dx,_,rfl,e3,TP.cl,TP.nt,(by grind),?_⟩;generalize M:aP (aP H2 ta (.dT [])) o (.ins CP dx (jb "told" (.ref ta) [("rules",.ref ar)]))=v;have f:ta≠o:=(av J g).symm;have ho4:v o=some (.ins CP dx [("rules",.ref ar),("told",.ref ta)]):=by rw[<- M,ag];rfl
 have ta4:v ta=some (.dT []):=by rw[<- M,af f,ag]
 have kp4:∀c u,H2 c=some u->c≠o->v c=some u:=λc u e n=>by rw[<- M,af n,af (av e g)];exact e
 intro aq dq O hdq ndq;refine .mk ag λap P w hq5 hp5 kp5=>⟨rfl,?_⟩;have j:∀c u,v c=some u->P c=some u:=λc u e=>kp5 c u (by rw[af (av e O),af (av e hdq)];exact e) (av e O);have ap4:v ap=none:=by
  have h1:ap≠aq:=λz=>by grind
  have h2:ap≠dq:=λz=>by rw[z,af ndq,ag]at w;cases w
  rw[af h1,af h2]at w;exact w
 have apq:ap≠aq:=λz=>by grind
 refine⟨_,rfl,o,CP,dx,_,rfl,j _ _ ho4,TP.cl,TP.no,(by grind),?_⟩;generalize hH6:aP P o (.ins CP dx (jb "offers" (.ref aq) [("rules",.ref ar),("told",.ref ta)]))=I;have noq:aq≠o:=λz=>by grind
 have nop:ap≠o:=λz=>by grind
 have y:I o=some (.ins CP dx [("rules",.ref ar),("told",.ref ta),("offers",.ref aq)]):=by rw[<- hH6,ag];rfl
 have kp6:∀c u,P c=some u->c≠o->I c=some u:=λc u e n=>by rw[<- hH6,af n];exact e
 intro sa A;have C:sa≠o:=(av y A).symm;refine⟨_,rfl,o,CP,dx,_,rfl,(by rw[af (av y A)];exact y),TP.cl,TP.ns,(by grind),?_⟩;generalize R:aP (aP I sa (.dT [])) o (.ins CP dx (jb "settled" (.ref sa) [("rules",.ref ar),("told",.ref ta),("offers",.ref aq)]))=Z;have D:Z o=some (.ins CP dx [("rules",.ref ar),("told",.ref ta),("offers",.ref aq),("settled",.ref sa)]):=by rw[<- R,ag];rfl
 have sa8:Z sa=some (.dT []):=by rw[<- R,af C,ag]
 have kp8:∀c u,I c=some u->c≠o->Z c=some u:=λc u e n=>by rw[<- R,af n,af (av e A)];exact e
 intro la F;have S:la≠o:=(av D F).symm;refine⟨_,rfl,o,CP,dx,_,rfl,(by rw[af (av D F)];exact D),TP.cl,TP.nl,(by grind),?_⟩;generalize T:aP (aP Z la (.dT [])) o (.ins CP dx (jb "lacking" (.ref la) [("rules",.ref ar),("told",.ref ta),("offers",.ref aq),("settled",.ref sa)]))=s;have ho9:s o=some (.ins CP dx (pf ⟨o,ta,aq,ap,sa,la,ar⟩)):=by rw[<- T,ag];rfl
 have la9:s la=some (.dT []):=by rw[<- T,af S,ag]
 have kp9:∀c u,Z c=some u->c≠o->s c=some u:=λc u e n=>by rw[<- T,af n,af (av e F)];exact e
 have sa9:=kp9 _ _ sa8 C;have k69:∀c u,I c=some u->c≠o->s c=some u:=λc u e n=>kp9 c u (kp8 c u e n) n;have U:∀c u,P c=some u->c≠o->s c=some u:=λc u e n=>k69 c u (kp6 c u e n) n;have k49:∀c u,v c=some u->c≠o->s c=some u:=λc u e n=>U c u (j c u e) n;have V:∀c u,t c=some u->c≠o->s c=some u:=λc u e n=>k49 c u (kp4 c u (L c u e n) n) n;have fr:∀c,s c≠none->H c=none->B c=none:=λc _ e=>sb.free e;have oldR:∀c,cD ar xr c->t c≠none:=λc i=>D1.obj i;have W:t ta=none:=by
  cases e:t ta with
  |none=>rfl
  |some u=>rw[L _ _ e f]at g;cases g
 have b:∀c,v c=none->c≠o->t c=none/\c≠ta:=λc e n=>by
  refine⟨?_,λz=>by grind⟩;cases X:t c with
  |none=>rfl
  |some u=>rw[kp4 _ _ (L _ _ X n) n]at e;cases e
 have m:∀c,P c=none->c≠o->v c=none/\c≠aq/\c≠ap:=λc e n=>by
  refine⟨?_,(λz=>by grind),λz=>by grind⟩;cases X:v c with
  |none=>rfl
  |some u=>rw[j _ _ X]at e;cases e
 have q:∀c,I c=none->P c=none:=λc e=>by
  cases X:P c with
  |none=>rfl
  |some u=>
   by_cases n:c=o
   .rw[n,y]at e;cases e
   .rw[kp6 _ _ X n]at e;cases e
 have Y:∀c,Z c=none->I c=none/\c≠sa:=λc e=>by
  refine⟨?_,λz=>by grind⟩;cases X:I c with
  |none=>rfl
  |some u=>
   by_cases n:c=o
   .rw[n,D]at e;cases e
   .rw[kp8 _ _ X n]at e;cases e
 obtain⟨la6,la_sa⟩:=Y la F;obtain⟨la4,la_aq,la_ap⟩:=m la (q la la6) S;obtain⟨la1,la_ta⟩:=b la la4 S;obtain⟨sa4,sa_aq,sa_ap⟩:=m sa (q sa A) C;obtain⟨sa1,sa_ta⟩:=b sa sa4 C;obtain⟨aq1,aq_ta⟩:=b aq O noq;obtain⟨ap1,ap_ta⟩:=b ap ap4 nop;have d:∀c,t c=none->H c=none:=λc e=>s1.free e;have same:Same B s:=λc u e=>V c u (s1 c u (sb c u e)) λz=>by grind
 have r:∀{a c:Addr},cD a ([]:DX (List bH)) c->c=a:=λi=>i.elim id λ⟨x,hx,_⟩=>(U0 hx).elim
 classical
 refine k ⟨o,ta,aq,ap,sa,la,ar⟩ xr s rfl ⟨[],[],λc=>if c=o then 6 else if c=ta then 5 else if c=aq then 7 else if c=ap then 1 else if c=sa then 2 else if c=la then 3 else 4,same,⟨⟨?_,λ_ h=>(U0 h).elim,Ve,Ve⟩,.nil,λc i=>?_⟩,⟨⟨sa9,λ_ h=>(U0 h).elim,Ve,Ve⟩,.nil,λc i=>?_⟩,⟨⟨la9,λ_ h=>(U0 h).elim,Ve,Ve⟩,.nil,λc i=>?_⟩,⟨D1.keep λc u e i=>V c u e (nor c i),R1.keep (IsNum.keep λc ws e=>V c _ e λz=>by grind),λc i=>?_⟩,⟨dx,ho9⟩,⟨dq,U _ _ hq5 noq⟩,k49 _ _ ta4 f,.nil,?_,?_,?_⟩
 .exact U _ _ hp5 nop
 .have:c=ap:=i.elim id λ⟨x,hx,_⟩=>(U0 hx).elim;subst this;exact⟨by grind,sb.free (d _ ap1)⟩
 .have:=r i;dsimp only at this;subst this;exact⟨by grind,sb.free (d _ sa1)⟩
 .have:=r i;dsimp only at this;subst this;exact⟨by grind,sb.free (d _ la1)⟩
 .have hc:=oldR c i;refine⟨?_,sb.free (n1 c i)⟩;rw[UV (nor c i),UV (λz=>hc (by grind)),UV (λz=>hc (by grind)),UV (λz=>hc (by grind)),UV (λz=>hc (by grind)),UV (λz=>hc (by grind))]
 .exact⟨by grind,sb.free (d _ W)⟩
 .exact⟨UP rfl,nb⟩
 .exact⟨by grind,sb.free (d _ aq1)⟩
end
noncomputable def bI(a:Pz.bc):D:=.tup [.int a.1,.int a.2.1,.int a.2.2]
noncomputable def bx(r:Pz.aV):D:=.tup [.int r.1,.int r.2.1,.int r.2.2.1,.tup (r.2.2.2.map .int)]
noncomputable def oD:Option Int->D
 |none=>.bv
 |some i=>.int i
def zb(x:Pz.nX):D:=.tup [.int x.1,oD x.2.1,oD x.2.2]
def gs(t:Pz.TD):D:=.dZ (t.map λx=>.inr (ak x.1)) (t.map λx=>zb x.2)
def rA(ds:List D)(t:Pz.TD):Prop:=∃(RL:List Pz.aV)(M:List Pz.bc)(a h1 m0 b:D)(n:Nat)(T:Pz.PS),ds=[.tup [a,h1,.lst (RL.map bx)],.tup [m0,.lst (M.map bI),b]]/\RL.length<16000000/\Pz.lZ (Pz.kY ax RL M)/\Pz.Loop ax (Pz.bY RL) n (Pz.kY ax RL M) T/\t=T.told
open Classical in
def Pu(Fr:List D->Res R)(ds:List D):Res R:=match Fr ds with
 |.ok _=>if h:∃t,rA ds t then .ok (.jm (gs (Classical.choose h)))else .stuck
 |.exc c=>.exc c
 |.stuck=>.stuck
theorem EG:∀{ns:List Int}{vs:List V},IsAll H m (ns.map .int) vs->vs=ns.map .int
 |[],vs,h=>h
 |n::ns,vs,h=>by obtain⟨v,r,rfl,h1,a⟩:=h;rw[EG a,show v=.int n from h1];rfl
def LX(h:Is H m (bx r) v):IsRule H r v:=by obtain⟨a,vs,rfl,ha,b,f,rfl,e0,c,g,rfl,e1,v2,i,rfl,e2,j,k,rfl,⟨q,ws,rfl,d,e⟩,rfl⟩:=h;obtain rfl:b=.int r.1:=e0;obtain rfl:c=.int r.2.1:=e1;obtain rfl:v2=.int r.2.2.1:=e2;exact⟨a,q,rfl,ha,by rw[d,EG e]⟩
def Pw(h:Is H m (bI r) v):IsArr H r v:=by obtain⟨a,vs,rfl,ha,b,d,rfl,e0,c,e,rfl,e1,v2,f,rfl,e2,rfl⟩:=h;obtain rfl:b=.int r.1:=e0;obtain rfl:c=.int r.2.1:=e1;obtain rfl:v2=.int r.2.2:=e2;exact⟨a,rfl,ha⟩
theorem EH{α:Type}{H:Hp}{m:Addr->Prop}{f:α->D}{it:α->V->Prop}(a:∀x v,Is H m (f x) v->it x v):∀{xs:List α}{vs:List V},IsAll H m (xs.map f) vs->fI it xs vs
 |[],vs,h=>by cases(show vs=[]from h);exact .nil
 |x::xs,vs,h=>by obtain⟨v,r,rfl,h1,b⟩:=h;exact .cons (a x v h1) (EH a b)
def JC(h:Is H m (.lst ds) v):∃a vs,v=.ref a/\Rd H a (.lst vs)/\IsAll H m ds vs:=by obtain⟨a,vs,rfl,h1,b⟩:=h;exact⟨a,vs,rfl,h1.imp And.left λ⟨o,e,_⟩=>⟨o,e⟩,b⟩
def S7(RL:List Pz.aV):u4 (Pz.bY RL):=λk x a=>by
 rcases(Pz.uU _ _ _ _).mp a with h|⟨_,y,l,e,_⟩
 .exact(U0 h).elim
 .rw[e];simp
section
variable{K:Yy}{CP CQ:Addr}{H:Hp}
def Px(K:Yy)(CP CQ:Addr):TS:=dY (fL (gq CP "settle_all" (xS CP CQ) [] E0 (aK 2) bB)) (ud (gh K (aK 2) "told"))
def Py(K:Yy)(CP CQ:Addr):TS:=xY (o6 (mn N3 (Gr (xb K) (aB (tI K 5 3) bB)) (tC (.int 0))))
 (fL (gq CP "offer" (gc CP CQ) [] E0 (aK 2) (aB (kh (aB (tI K 5 0) (aB (tI K 5 1) (aB (tI K 5 2) bB)))) (aB (tC (.int 1)) (aB (aK 4) (aB (tC .bv) bB)))))) vN
def PB(K:Yy)(CP CQ:Addr):TS:=dY (n5 (z_ K (aB (tI K 0 2) bB)) (iX K 2 (bm (aT 4) (bm (aT 5) iW))) (Py K CP CQ)) (Px K CP CQ)
def PF(CP CQ:Addr):TS:=fL (gq CP "offer" (gc CP CQ) [] E0 (aK 2) (aB (aK 3) (aB (tC (.int 0)) (aB (tC .bv) (aB (tC .bv) bB)))))
def PH(K:Yy)(CP CQ:Addr):TS:=dY (n5 (lQ K (tI K 1 1)) (aT 3) (PF CP CQ)) (PB K CP CQ)
def HL(K:Yy)(mg:Str->Option YA)(Fr:List D->Res R)(CP CQ:Addr)(E:XK):TS:=dY (fL (zA (m_ mg 2 Fr) [] E (aB (aK 0) (aB (aK 1) bB)))) (dY (ml (zB CP (nQ CP CQ) [] E0 (aB (aK 0) bB)) (aT 2)) (PH K CP CQ))
def LY(A:PA):(pf A).lookup ("settle_all" : Str)=none:=rfl
def LZ(h:RepT H t kt):(t.map λx=>(Sum.inr (ak x.1):DK))=kt.map (λp=>.inr p.1)/\IsAll H m (t.map λx=>zb x.2) (kt.map Prod.snd):=by
 have a:∀o:Option Int,Is H m (oD o) (vO o):=λo=>by cases o<;>rfl
 induction h with
 |nil=>exact⟨rfl,rfl⟩
 |@cons x y _ _ q _ b=>obtain⟨e,p,c,d⟩:=q;exact⟨by rw[UR,UR,e,b.1],y.2,_,rfl,⟨p,_,c,d,_,_,rfl,rfl,_,_,rfl,a _,_,_,rfl,a _,rfl⟩,b.2⟩
section
variable{D:Ends}{σ:L2.St}{B:Hp}{A:PA}{rs:Pz.RS}{S T:Pz.PS}{xs xl xr:DX (List bH)}{p0 p1 l lm:Addr}{RL:List Pz.aV}{M:List Pz.bc}{ws wm:List V}{n:Nat}
def HN(p0 p1:Addr)(A:PA)(σ:L2.St):Prop:=∃u v w,σ=[some (.ref p0),some (.ref p1),some (.ref A.o),u,v,w]
def pr2(P:PAt CP CQ B H A rs S xs xl xr)(h:IsArr H a v)(hs:HN p0 p1 A σ)(f:Pz.lZ (Pz.j6 ax S a))(k:∀d H',HN p0 p1 A d->PAt CP CQ B H' A rs (Pz.j6 ax S a) xs xl xr->D.nx d H'):aT 3 v σ H λe g=>PF CP CQ D e g:=by obtain⟨b,rfl,i⟩:=h;obtain⟨u,w,z,rfl⟩:=hs;have j:=P;obtain⟨_,_,_,Q⟩:=j;exact wV (.va rfl) Q.po.ins (EB A) (.c (.va rfl) (.c .k (.c .k (.c .k .ni)))) (.mk (n:=none) (m:=none) P i f λH'=>k _ H' ⟨_,_,_,rfl⟩)
def Ux(P:PAt CP CQ B H A rs S xs xl xr)(e:H pp=some (.tup [.int i,.ref c]))(b:H c=some (.tup [.int r.1,.int r.2.1,.int r.2.2.1,.ref q]))(g:H q=some (.tup (r.2.2.2.map .int)))(hs:HN p0 p1 A σ)(f:Pz.lZ (Pz.gr ax S (i,r)))
 (k:∀a H',HN p0 p1 A a->PAt CP CQ B H' A rs (Pz.gr ax S (i,r)) xs xl xr->D.nx a H'):iX K 2 (bm (aT 4) (bm (aT 5) iW)) (.ref pp) σ H λd j=>Py K CP CQ D d j:=by
 obtain⟨u,w,z,rfl⟩:=hs;have e2:(((r.2.2.2.map V.int).length:Nat):Int)=0↔r.2.2.2.length=0:=by rw[UO];lia
 unfold Pz.gr at f k;refine Jv e (wW (.TV (.len (.ix (.va rfl) b rfl) g) .k) (λh=>?_) λh=>?_)
 .rw[UP (e2.mp (VN h))]at f k;exact uX P f (.va rfl) (.t (.c (.ix (.va rfl) b rfl) (.c (.ix (.va rfl) b rfl) (.c (.ix (.va rfl) b rfl) .ni))) rfl) (λ_ _=>.c .k (.c (.va rfl) (.c .k .ni))) λH'=>k _ H' ⟨_,_,_,rfl⟩
 .rw[UV λz=>h (U6 (e2.mpr z))]at k;exact k _ H ⟨_,_,_,rfl⟩ P
def Uy(TP:lN K CP)(P:PAt CP CQ B H A rs S xs xl xr)(d:u4 rs)(fit:Pz.lZ S)(lp:Pz.Loop ax rs n S T)(hs:HN p0 p1 A σ)(k:∀H' a b,PAt CP CQ B H' A rs T a b xr->D.rt (.ref A.ta) H'):Px K CP CQ D σ H:=by obtain⟨u,w,z,rfl⟩:=hs;have c:=P;obtain⟨_,_,_,Q⟩:=c;exact wV (.va rfl) Q.po.ins (LY A) .ni (.mk P d fit lp λH' a b c=>by have e:=c;obtain⟨_,_,_,Q⟩:=e;exact Q.fld TP.cl TP.nt (HG A) rfl _ (k H' a b c))
def Uz(TP:lN K CP)(G:iU B RL p0 l ws)(P:PAt CP CQ B H A (Pz.bY RL) (M.foldl (Pz.j6 ax) Pz.S0) xs xl xr)(fit:Pz.lZ (Pz.kY ax RL M))(d:u4 (Pz.bY RL))(lp:Pz.Loop ax (Pz.bY RL) n (Pz.kY ax RL M) T)(hs:HN p0 p1 A σ)
 (k:∀H' e f,PAt CP CQ B H' A (Pz.bY RL) T e f xr->D.rt (.ref A.ta) H'):PB K CP CQ D σ H:=by
 obtain⟨w,y,g⟩:=(G.same P.same).tup;have p:σ[0]?=some (some (.ref p0)):=by obtain⟨_,_,_,rfl⟩:=hs;rfl
 refine t4 (ReadsA.c (.ix (.va p) g (v:=.ref l) rfl) .ni _ ⟨l,ws,rfl,.inl (jF P.same G.lst),?_⟩);refine An (HN p0 p1 A) (λi b=>PAt CP CQ B b A (Pz.bY RL) (((Pz.en RL 0).take i).foldl (Pz.gr ax) (M.foldl (Pz.j6 ax) Pz.S0)) xs xl xr) hs P (λi b a=>.inl (jF a.same G.lst)) (λi v z σ b C s h hs a k=>?_) λσ b hs a=>?_
 .obtain⟨r,m,c,q,rfl,t,u⟩:=G.its.get s;have j:=a.more (aQ (o:=.tup [.int (i:Nat),.ref c]) h);rw[Ao (Pz.gr ax) (M.foldl (Pz.j6 ax) Pz.S0) m]at k;exact Ux j ag (j.same _ _ t) (j.same _ _ u) hs (jk (step:=Pz.gr ax) (λS x=>by unfold Pz.gr;split;exact Pz.cg _ _ _ _ _;exact .refl _) (its:=Pz.en RL 0) fit (by rw[y_,m];simp)) k
 .rw[VG (by rw[Pz.rj,G.its.len];exact UN _)]at a;exact Uy TP a d fit lp hs k
def UA(TP:lN K CP)(G:iU B RL p0 l ws)(e:B p1=some (.tup [y0,.ref lm,y2]))(c:Rd B lm (.lst wm))(j:fI (IsArr B) M wm)(P:PAt CP CQ B H A (Pz.bY RL) Pz.S0 xs xl xr)(fit:Pz.lZ (Pz.kY ax RL M))(f:u4 (Pz.bY RL))(lp:Pz.Loop ax (Pz.bY RL) n (Pz.kY ax RL M) T)(hs:HN p0 p1 A σ)
 (k:∀H' g h,PAt CP CQ B H' A (Pz.bY RL) T g h xr->D.rt (.ref A.ta) H'):PH K CP CQ D σ H:=by
 have g2:Pz.gK (M.foldl (Pz.j6 ax) Pz.S0) (Pz.kY ax RL M):=Pz.cu _ (λS x=>by unfold Pz.gr;split;exact Pz.cg _ _ _ _ _;exact .refl _) _ _;have h1:σ[1]?=some (some (.ref p1)):=by obtain⟨_,_,_,rfl⟩:=hs;rfl
 exact oO (Reads.ix (.va h1) (P.same _ _ e) (v:=.ref lm) rfl _ ⟨lm,rfl,⟨wm,.inl (jF P.same c)⟩,uY (it:=IsArr) (HN p0 p1 A) (Pz.j6 ax) Pz.S0 (λT d=>PAt CP CQ B d A (Pz.bY RL) T xs xl xr) hs P (λp d b=>⟨jF b.same c,j.mono (IsArr.keep (p7 b.same))⟩)
  (λi a v σ d q m o hs b k=>pr2 b o hs (jk (step:=Pz.j6 ax) (λS x=>Pz.cg S _ _ _ _) (g2.fit fit) m) k) λσ d hs b=>Uz TP G b fit f lp hs k⟩)
end
def xg{mg:Str->Option YA}{Fr:List D->Res R}(TP:lN K CP)(h:m_ mg 2 (Pu Fr) vs H Q E):HL K mg Fr CP CQ E {nx:=λ_ H'=>Q .bv H',rt:=Q} (cq ["house","machine","pricing","arrow","number","rule"] vs) H:=by
 obtain⟨i,ds,Ma,is,a⟩:=h;obtain⟨j,k,rfl⟩ : ∃j k,vs=[j,k]:=by rcases vs with _|⟨j,_|⟨k,_|⟨_,_⟩⟩⟩<;>first|(cases i;done)|exact⟨_,_,rfl⟩
 refine⟨_,rfl,_,rfl,rfl,ds,Ma,is,?_⟩;unfold Pu at a;cases p:Fr ds with
 |stuck=>rw[p]at a;exact a
 |exc c=>rw[p]at a;exact a
 |ok r=>
  rw[p]at a;dsimp only at a;by_cases hex:∃t,rA ds t
  case neg=>rw[dif_neg hex]at a;exact a.elim
  case pos=>
  rw[dif_pos hex]at a;have d:=W7 hex;generalize Classical.choose hex=t at a d;obtain⟨RL,M,d0,d1,m0,m2,n,T,rfl,L,fit,lp,rfl⟩:=d;intro v N s1 _;obtain⟨_,_,O,⟨S,_,rfl,q,w0,_,rfl,_,w1,_,rfl,_,w2,_,rfl,s,rfl⟩,_,_,w,⟨p1,_,rfl,y,y0,_,rfl,_,y1,_,rfl,z,y2,_,rfl,_,rfl⟩,rfl⟩:=is;cases O;cases w;obtain⟨l,ws,rfl,i,U⟩:=JC s;obtain⟨lm,wm,rfl,B,V⟩:=JC z;have G:iU H RL S l ws:=⟨⟨_,_,q⟩,i,EH (λx v=>LX) U⟩;refine⟨_,rfl,λo F I C W=>?_⟩;have s2:Same H (aP (aP N F (.own o)) o (.ins CP F [])):=s1.trans λb u e=>by rw[af (av e I),af (av e C)];exact e
  refine .mk ag s2 (s1.free I) (G.same s2) L λA xr H3 eA P=>⟨rfl,?_⟩;subst eA;refine UA TP G y B (EH (λx v=>Pw) V) P fit (S7 RL) lp ⟨none,none,none,rfl⟩ λJ X Y ⟨_,f,_,g⟩=>?_;obtain⟨Z,t2⟩:=LZ (m:=nl H J) g.po.tr;exact a _ J g.same ⟨A.ta,f.map Prod.snd,rfl,⟨.inr ⟨f,.inl g.po.td,Z,rfl⟩,g.po.c5.2,⟨_,g.po.td,tI_⟩⟩,t2⟩
end
def EI:∀{n:Nat}{S T:Pz.PS},Pz.Loop pile rs n S T->∀{m:Nat}{b:Pz.PS},Pz.Loop pile rs m S b->T=b:=by
 intro n S T h;induction h with
 |done e=>
  intro m b h';cases h' with
  |done _=>rfl
  |step a=>exact(a e).elim
 |step a _ _ _ _ _ c=>
  intro m b h';cases h' with
  |done e=>exact(a e).elim
  |step _ _ _ _ _ h'=>exact c h'
def BX(h:bx r=bx s):r=s:=by
 have a:∀{l m:List Int},l.map D.int=m.map D.int->l=m:=λ{l m} e=>by
  induction l generalizing m with
  |nil=>cases m with
   |nil=>rfl
   |cons _ _=>cases e
  |cons x l b=>cases m with
   |nil=>cases e
   |cons y m=>rw[UR,UR]at e;injection e with e1 e2;injection e1 with e1;rw[e1,b e2]
 unfold bx at h;injection h with h;injection h with h0 h;injection h with h1 h;injection h with h2 h;injection h with h3 h;injection h0 with h0;injection h1 with h1;injection h2 with h2;injection h3 with h3;exact X7 h0 (X7 h1 (X7 h2 (a h3)))
def EJ(h:bI r=bI s):r=s:=by unfold bI at h;injection h with h;injection h with h0 h;injection h with h1 h;injection h with h2 h;injection h0 with h0;injection h1 with h1;injection h2 with h2;exact X7 h0 (X7 h1 h2)
theorem u6{α:Type}{f:α->D}(a:∀{x y},f x=f y->x=y):∀{l m:List α},l.map f=m.map f->l=m
 |[],[],_=>rfl
 |[],_::_,e=>nomatch e
 |_::_,[],e=>nomatch e
 |x::l,y::m,e=>by rw[UR,UR]at e;injection e with e1 e2;rw[a e1,u6 a e2]
def L0{Fr:List D->Res R}{b h1 m0 c:D}{r:R}(hs:Pz.Set RL M U)(d:Fr [.tup [b,h1,.lst (RL.map bx)],.tup [m0,.lst (M.map bI),c]]=.ok r) :
 ∃t,Pu Fr [.tup [b,h1,.lst (RL.map bx)],.tup [m0,.lst (M.map bI),c]]=.ok (.jm (gs t))/\Pz.Good RL M U t:=by
 obtain⟨fit,n,T,lp,good⟩:=hs.run Aj;have f:RL.length<16000000:=by have:=hs.big;unfold Pz.L at this;lia
 have hex:∃t,rA [.tup [b,h1,.lst (RL.map bx)],.tup [m0,.lst (M.map bI),c]] t:=⟨T.told,RL,M,b,h1,m0,c,n,T,rfl,f,fit,lp,rfl⟩;refine⟨Classical.choose hex,?_,?_⟩
 .unfold Pu;rw[d];dsimp only;rw[dif_pos hex]
 .obtain⟨g,i,j,k,l,m,o,p,e,_,_,a,e2⟩:=W7 hex;rw[e2];injection e with e3 e;injection e3 with e3;injection e3 with _ e3;injection e3 with _ e3;injection e3 with e3 _;injection e3 with e3;injection e with e _;injection e with e;injection e with _ e;injection e with e _;injection e with e;rw[<- u6 (λh=>BX h) e3,<- u6 (λh=>EJ h) e]at a;rw[<- EI lp a];exact good
structure Mt(K:Yy) (C:Addr) (x q:Str) (st:Stmt) (ps:List Str) (f:Addr) (fd:FuncData):Prop where
 fu:F2 K x q st f fd
 bi:Binds K fd ps []
 me:Meth K C x f
def PJ{K:Yy}{C:Addr}{x q:Str}{st:Stmt}{ps:List Str}{f:Addr}{oc:YA}{od an:Option Addr}{osl:Array (Option YA)}{kV doc pm cdv ct:YA}
 (l:K.lookup f=some ⟨oc,od,.func (fnOf x q (d4 st) (c_ st) (ay st) .none kV doc pm an cdv ct),osl⟩) (c:codeIn K cdv q=true) (k:keepIn K (.ref f)=true) (a:findIn K (.ref C) x=some (some (.ref f))) (i:isFn K (.ref f)=true)
 (h:∀(kV doc pm:YA)(an:Option Addr)(cdv ct:YA)(us:List YA),us.length=ps.length->bindArgs (fnOf x q (d4 st) (c_ st) (ay st) .none kV doc pm an cdv ct) ⟨us,[]⟩=pure (ps.zip us)) :
 Mt K C x q st ps f (fnOf x q (d4 st) (c_ st) (ay st) .none kV doc pm an cdv ct):=
 have F:F2 K x q st f _:=C6 l c k
 ⟨F,F.binds h,a,i,k⟩
def UB{α:Type}{l:List α}(h:l.length=2):∃a b,l=[a,b]:=by rcases l with _|⟨a,_|⟨b,_|_⟩⟩<;>first|(cases h;done)|exact⟨_,_,rfl⟩
def EK(a:X.calm=true)(S:cB X scope tN capN caps)(b:PI X tg iter wi)(hs:autoParam (∀x,foldedSetIterable iter X.env x=pure x) am) :
 PE X (.ListComp elt [⟨tg,iter,ifs,0⟩] scope pos) (wB X scope tg tN capN caps elt ifs wi):=λac s σ H Q I h=>wz a S I b h hs
def JD(K:Yy):List V->Hp->VK->Prop:=λxs H Q=>∃p ns,xs=[.ref p]/\SqL K H p (ns.map V.int)/\ns≠[]/\Q (.int (uA ns)) H
def BY(a:X.calm=true):CallR X (.builtin "min") (JD X.K):=Bg a
def BZ(v:tN.length=2)(D:∀cl C g h fp,PG (cK X scope (tN++[]) cl C g h fp) tg (iX X.K 2 (bm (aT 0) (bm (aT 1) iW))))(E:∀cl C g h fp,PE (cK X scope (tN++[]) cl C g h fp) elt (aK 0)) :
 LN (Gr (JD X.K) (aB (wB X scope tg tN [] [] elt [] (lQ X.K (aK 1))) bB)):=by
 intro σ H a vs its Q h1 l z n N k;refine⟨_,h1,a,rfl,⟨_,SqL.of l⟩,?_⟩;intro q hD cl C g fp;have F:a≠q:=av l hD;have G:=z.len;refine⟨_,_,_,λi m d H'=>m=its.length-i/\i<=its.length/\d=((its.take i).map λx=>V.int x.1)/\Same H H'/\H' q=some (.lst d),D cl C g _ fp,z5,E cl C g _ fp,⟨its.length,by simp,Vo _,by simp,aQ hD,ag⟩,?_⟩;rintro i m d H' ⟨rfl,O,rfl,s,b⟩;have f:=s _ _ l;refine⟨b,?_⟩;by_cases r:i<its.length
 .right;have t:i<vs.length:=by lia
  refine⟨⟨vs,vs[i],SqL.of f,by simp[t]⟩,λP I o y A=>?_⟩;obtain⟨rfl,y⟩:=y;have J:=y vs (SqL.of f);obtain⟨x,ex,p,w,rfl,L,_⟩:=z.get J;rw[v]at A;obtain⟨R,u1,rfl⟩:=UB A;refine Jv (s _ _ L) ⟨λj B=>?_,?_⟩
  .rw[v]at B;obtain⟨j,rfl⟩:=Nat.exists_eq_add_of_le' B;rfl
  .refine uq ?_;refine⟨_,rfl,b,?_,its.length-(i+1),by lia,rfl,r,?_,λc u e=>?_,ag⟩
   .rw[UO,Vk];have:=Xf i its;lia
   .rw[Wm,ex,VO];rfl
   .rw[af (av e hD)];exact s _ _ e
 .left;have M:i=its.length:=by lia
  subst M;refine⟨⟨vs,SqL.of f,by lia⟩,q,its.map (·.1),rfl,?_,by simpa using n,?_⟩
  .rw[List.take_length]at b;rw[Vb];exact SqL.of b
  .rw[Ak];exact k H' s
section
variable{β:Type}(eD:β->D)(el:Pz.bc×Pz.nX->β)
def p8(t:Pz.TD):Pz.MD (Int×Int) β:=t.foldl (λd x=>d.app (x.1.1,x.1.2.1) (el x)) []
def EL(d:Pz.MD (Int×Int) β):D:=.dZ (d.map λe=>.inr (k2 e.1)) (d.map λe=>.lst (e.2.map eD))
open Classical in
def PN(ds:List D):Res R:=match ds with
 |[d]=>if h:∃t:Pz.TD,d=gs t/\t.length<16000000 then .ok (.jm (EL eD (p8 el (Classical.choose h))))else .stuck
 |_=>.stuck
end
def EM(h:zb a=zb b):a=b:=by
 have c:∀{x y:Option Int},oD x=oD y->x=y:=λ{x y} e=>by
  cases x<;>cases y
  .rfl
  .cases e
  .cases e
  .injection e with e;rw[e]
 unfold zb at h;injection h with h;injection h with h0 h;injection h with h1 h;injection h with h2 h;injection h0 with h0;exact X7 h0 (X7 (c h1) (c h2))
def B0:∀{t s:Pz.TD},gs t=gs s->t=s:=by
 intro t s h;unfold gs at h;injection h with h1 h2;induction t generalizing s with
 |nil=>cases s with
  |nil=>rfl
  |cons _ _=>cases h1
 |cons x t a=>cases s with
  |nil=>cases h1
  |cons y s=>rw[UR,UR]at h1 h2;injection h1 with a1 b1;injection h2 with a2 b2;rw[a b1 b2,X7 (yW _ _ (Yl a1)) (EM a2)]
def L5{a:Type}{eD:a->D}{el:Pz.bc×Pz.nX->a}{t:Pz.TD}(h:t.length<16000000):PN eD el [gs t]=.ok (.jm (EL eD (p8 el t))):=by have hex:∃s:Pz.TD,gs t=gs s/\s.length<16000000:=⟨t,rfl,h⟩;unfold PN;dsimp only;rw[dif_pos hex,<- B0 (W7 hex).1]
theorem Ap{c:Type}(el:Pz.bc×Pz.nX->c):∀(t:Pz.TD)(d:Pz.MD (Int×Int) c),d.Ok->(t.foldl (λd x=>d.app (x.1.1,x.1.2.1) (el x)) d).Ok/\(t.foldl (λd x=>d.app (x.1.1,x.1.2.1) (el x)) d).flat.length=d.flat.length+t.length
 |[],d,h=>⟨h,rfl⟩
 |x::t,d,h=>by rw[Wu,U1];obtain⟨a,b⟩:=Ap el t _ (Pz.oG h (x.1.1,x.1.2.1) (el x));have:=(Pz.gg h.nk (x.1.1,x.1.2.1) (el x)).length_eq;rw[U1]at this;exact⟨a,by lia⟩
section
variable{X:Cx}{K:Yy}{H:Hp}{β:Type}{it:Hp->β->V->Prop}{eD:β->D}{el:Pz.bc×Pz.nX->β}{ws:Pz.bc×Pz.nX->Addr->List V}{te:TE}
def L6(K:Yy)(te:TE):TS:=fL (pz K (aK 1) (kh (aB (tI K 2 0) (aB (tI K 2 1) bB))) te)
def UC(X:Cx)(K:Yy)(te:TE):TS:=
 dY (ml oe (aT 1))
 (dY (λD σ H=>n5 (OP X (aK 0)) (iX K 2 (bm (aT 2) (bm (aT 3) iW))) (L6 K te) (N9 X D) σ H)
 (ud (aK 1)))
structure FY(it:Hp->β->V->Prop) (eD:β->D) (el:Pz.bc×Pz.nX->β) (ws:Pz.bc×Pz.nX->Addr->List V) (te:TE):Prop where
 ma:∀(H:Hp)(x:Pz.bc×Pz.nX)(b q:Addr)(v0 v1:Option V),H b=some (.tup (oM x.1))->H q=some (.tup [.int x.2.1,vO x.2.2.1,vO x.2.2.2])->Makes te [v0,v1,some (.ref b),some (.ref q)] H (ws x b)
 is:∀(H:Hp)(x:Pz.bc×Pz.nX)(b p:Addr),H b=some (.tup (oM x.1))->H p=some (.tup (ws x b))->it H (el x) (.ref p)
 kp:∀{H H':Hp},KT H H'->∀a v,it H a v->it H' a v
 d:∀(H:Hp)(m:Addr->Prop) a v,it H a v->Is H m (eD a) v
def PP(h:Is H m (zb x) v):∃q,v=.ref q/\H q=some (.tup [.int x.1,vO x.2.1,vO x.2.2]):=by
 obtain⟨a,vs,rfl,ha,c,d,rfl,e0,f,g,rfl,e1,v2,i,rfl,e2,rfl⟩:=h;have b:∀(o:Option Int)(v:V),Is H m (oD o) v->v=vO o:=λo v e=>by cases o<;>exact e
 obtain rfl:c=.int x.1:=e0;rw[b _ _ e1,b _ _ e2]at ha;exact⟨a,rfl,ha⟩
def PQ(c:V)(ar:Addr)(σ:L2.St):Prop:=∃a b,σ=[some c,some (.ref ar),a,b]
def UD(O:FY it eD el ws te){ar p b q:Addr}{σ:L2.St}{x:Pz.bc×Pz.nX}{e:DX (List bH)}{f:Pz.MD (Int×Int) β}{D:Ends}{i:V}(j:DL .dT H ar e)(R2:RepM k2 it H f e)(ok:f.Ok)(nY:f.flat.length<16000000)(hs:PQ i ar σ)(l:H p=some (.tup [.ref b,.ref q]))(g:H b=some (.tup (oM x.1)))(m:H q=some (.tup [.int x.2.1,vO x.2.2.1,vO x.2.2.2]))
 (k:∀d H' a,PQ i ar d->DL .dT H' ar a->RepM k2 it H' (f.app (x.1.1,x.1.2.1) (el x)) a->(∀c,cD ar a c->cD ar e c\/H c=none)->(∀c u,H c=some u->¬cD ar e c->H' c=some u)->D.nx d H'):iX K 2 (bm (aT 2) (bm (aT 3) iW)) (.ref p) σ H λh n=>L6 K te D h n:=by
 obtain⟨_,_,rfl⟩:=hs;exact Jv l (EF (k:=(x.1.1,x.1.2.1)) (v:=el x) O.kp j R2 ok nY (.va rfl) (.t (.c (.ix (.va rfl) g rfl) (.c (.ix (.va rfl) g rfl) .ni)) rfl) (λH' kt=>O.ma H' x b q _ _ (kt _ _ g) (kt _ _ m)) (λp H' kt=>O.is H' x b p (kt _ _ g)) λH' a=>k _ H' a ⟨_,_,rfl⟩)
def Aq(O:FY it eD el ws te){t:Pz.TD}{B:Hp}{E:Hp}{D:Ends}(bu:t.length<16000000)(hd:B d=some (.ba o u))(M:(t.map λx=>(Sum.inr (ak x.1):DK))=kvs.map λp=>.inr p.1)(r:∀(i:Nat)(x:Pz.bc×Pz.nX)(p:List bH×V),t[i]?=some x->kvs[i]?=some p->∃q,p.2=.ref q/\B q=some (.tup [.int x.2.1,vO x.2.2.1,vO x.2.2.2]))
 (F:B ar=none) (s1:Same B E) (h1:E ar=some (.dT [])) {A:V} (s:∀σ j a,PQ A ar σ->Same B j->DL .dT j ar a->RepM k2 it j (p8 el t) a->(∀c,cD ar a c->B c=none)->D.nx σ j) :
 Wk (OO d o u kvs) (iX K 2 (bm (aT 2) (bm (aT 3) iW))) (L6 K te) D [some A,some (.ref ar),none,none] E:=by
 have hl:t.length=kvs.length:=by have:=Wo List.length M;simpa using this
 refine⟨λi m σ G=>m=t.length-i/\i<=t.length/\PQ A ar σ/\∃a,Same B G/\DL .dT G ar a/\RepM k2 it G (p8 el (t.take i)) a/\∀c,cD ar a c->B c=none,⟨t.length,by simp,Vo _,⟨_,_,rfl⟩,[],s1,⟨h1,λ_ h=>(U0 h).elim,Ve,Ve⟩,.nil,λc i=>?_⟩,?_⟩
 .rcases i with rfl|⟨x,n,_⟩
  .exact F
  .exact(U0 n).elim
 rintro i m σ j ⟨rfl,hi,hs,a,s2,N,R2,I⟩;by_cases w:i<t.length
 .refine .inr ⟨⟨s2 _ _ hd,by lia⟩,λf H'=>PQ A ar f/\∃a,Same B H'/\DL .dT H' ar a/\RepM k2 it H' (p8 el (t.take (i+1))) a/\∀c,cD ar a c->B c=none,λf H' Q=>⟨t.length-(i+1),by lia,rfl,w,Q⟩,λy H' z=>?_⟩;obtain⟨p,b,k,v,R,rfl,S,rfl,P⟩:=z;have n:t[i]?=some t[i]:=by simp[w]
  generalize t[i]=x at n;have J:k=ak x.1:=by have:=Wo (λl=>l[i]?) M;simp only[U7,n,P,Option.map_some,Yf,Sum.inr.injEq]at this;exact this.symm
  subst J;obtain⟨q,e,T⟩:=r i x _ n P;cases e;have e1:p8 el (t.take (i+1))=(p8 el (t.take i)).app (x.1.1,x.1.2.1) (el x):=by unfold p8;rw[Wm,n,Wn];rfl
  have bl:=Ap el (t.take i) [] Pz.tZ;have hf:(Pz.MD.flat ([]:Pz.MD (Int×Int) β)).length=0:=rfl;have U:=Xf i t;have C:=aQ (o:=.tup [.ref b,.ref q]) R;have g:=s2.trans C;rw[e1];exact UD O (N.keep λc u e _=>C c u e) (R2.keep (O.kp (p7 C))) bl.1 (by have:=bl.2;unfold p8;lia) hs ag (C _ _ S) (g _ _ T) λf H' L h1 W Y Z h5=>⟨h1,L,(λc u e=>h5 c u (g _ _ e) λz=>by rw[I c z]at e;cases e),W,Y,λc z=>(Z c z).elim (I c) g.free⟩
 .refine .inl ⟨⟨s2 _ _ hd,by lia⟩,s _ j a hs s2 N ?_ I⟩;rw[VG (by lia)]at R2;exact R2
def S8(O:FY it eD el ws te)(i:DL .dT H' ar b)(R2:RepM k2 it H' f b)(n:∀c,cD ar b c->H0 c=none):Is H' (nl H0 H') (EL eD f) (.ref ar):=by
 have e:(f.map λe=>(Sum.inr (k2 e.1):DK))=(DX.kv b).map (λp=>.inr p.1):=by
  have h:∀{f:Pz.MD (Int×Int) β}{b:DX (List bH)},RepM k2 it H' f b->(f.map λe=>(Sum.inr (k2 e.1):DK))=(DX.kv b).map (λp=>.inr p.1):=λ{f b} R=>by
   induction R with
   |nil=>rfl
   |cons r _ g=>unfold DX.kv at g ⊢;rw[UR,UR,UR,g,r.1]
  exact h R2
 refine⟨ar,(DX.kv b).map Prod.snd,rfl,⟨.inr ⟨_,.inl i.root,e,rfl⟩,n ar (.inl rfl),⟨_,i.root,tI_⟩⟩,?_⟩;have rX:=i.rX;have k:∀x∈b,H0 x.2.1=none:=λx l=>n _ (.inr ⟨x,l,rfl⟩);clear e i n;induction R2 with
 |nil=>exact rfl
 |@cons x y f b r _ g=>
  refine⟨.ref y.2.1,_,rfl,?_,g (λz hz=>rX z (UT _ hz)) λz hz=>k z (UT _ hz)⟩;have j:=rX y UW;refine⟨y.2.1,y.2.2,rfl,.inl ⟨j,k y UW,⟨_,j,tI_⟩⟩,?_⟩;have a:=r.2;generalize x.2=m at a;generalize y.2.2=o at a;clear r j g;induction a with
  |nil=>exact rfl
  |cons h _ g=>exact⟨_,_,rfl,O.d _ _ _ _ h,g⟩
def HP(O:FY it eD el ws te){mg:Str->Option YA}{vs:List V}{Q:VK}(hN:N.length=4)(h:m_ mg 1 (PN eD el) vs H Q E):UC X K te {nx:=λ_ H'=>Q .bv H',rt:=Q} (L2.cq N vs) H:=by
 obtain⟨hl,ds,Ma,is,f⟩:=h;obtain⟨v0,rfl⟩:=List.length_eq_one_iff.mp hl;have S:L2.cq N [v0]=[some v0,none,none,none]:=by unfold L2.cq;rw[hN];rfl
 rw[S];rcases ds with _|⟨d0,ds⟩
 .cases is
 obtain⟨v,r,C,T,e0⟩:=is;obtain rfl:ds=[]:=by
  cases ds with
  |nil=>rfl
  |cons _ _=>obtain⟨_,_,e1,_⟩:=e0;cases C;cases e1
 cases e0;cases C;unfold PN at f;dsimp only at f;by_cases hex:∃t:Pz.TD,d0=gs t/\t.length<16000000
 case neg=>rw[dif_neg hex]at f;exact f.elim
 case pos=>
 rw[dif_pos hex]at f;have F:=W7 hex;generalize Classical.choose hex=t at f F;obtain⟨rfl,bu⟩:=F;obtain⟨d,kvs,u,rfl,md,U,g,P,G⟩:=yQ T (λk P=>by obtain⟨x,_,rfl⟩:=UY.mp P;exact⟨_,rfl⟩);have lM:iZ u:=by rcases U with rfl|⟨rfl,_⟩<;>exact tI_
 have j:∀(i:Nat)(x:Pz.bc×Pz.nX)(p:List bH×V),t[i]?=some x->kvs[i]?=some p->∃q,p.2=.ref q/\H q=some (.tup [.int x.2.1,vO x.2.2.1,vO x.2.2.2]):=λi x p W Y=>by obtain⟨v',C,iv⟩:=G.get (i:=i) (d:=zb x.2) (by rw[U7,W];rfl);rw[U7,Y]at C;cases C;exact PP iv
 have I:∀(ar:Addr)(H':Hp)(l:DX (List bH)),Same H H'->DL .dT H' ar l->RepM k2 it H' (p8 el t) l->(∀c,cD ar l c->H c=none)->Q (.ref ar) H':=λar H' l s J R2 n=>f _ H' s (S8 O J R2 n);clear f;intro ar m;have s1:Same H (aP H ar (.dT [])):=aQ m;refine⟨_,rfl,d,kvs,u,rfl,U,?_⟩;rcases g with g|⟨o,g⟩
 .right;have L:d≠ar:=av g m;refine⟨by rw[af L];exact g,λo Z=>?_⟩;have cm:aP (aP H ar (.dT [])) d (.ba o u)=aP (aP H d (.ba o u)) ar (.dT []):=by funext c;unfold aP;by_cases a:c=d<;>by_cases b:c=ar<;>simp_all
  have y:aP H d (.ba o u) ar=none:=by rw[af (V2 L)];exact m
  rw[cm];refine Aq (K:=K) (D:=N9 X {nx:=λA H'=>(ud (aK 1)) {nx:=λ_ H'=>Q .bv H',rt:=Q} A H',rt:=Q}) O bu (B:=aP H d (.ba o u)) ag P (λi x p W Y=>?_) y (aQ y) ag ?_
  .obtain⟨q,e,hq⟩:=j i x p W Y;refine⟨q,e,?_⟩;rw[af λz=>by rw[z,g]at hq;cases hq;rcases U with z|⟨z,_⟩<;>cases z];exact hq
  .rintro σ H2 l ⟨a,b,rfl⟩ s2 J R2 R;refine .inr ⟨d,o,u,s2 _ _ ag,lM,Z,?_⟩;have M:∀c,cD ar l c->c≠d:=λc hc z=>by have:=R c hc;rw[z,ag]at this;cases this
   refine⟨_,rfl,I ar _ l (λc w e=>?_) (J.keep λc w e i=>by rw[af (M c i)];exact e) (R2.keep (O.kp λc ws e=>?_)) λc i=>?_⟩
   .by_cases z:c=d
    .rw[z]at e ⊢;rw[ag,<- e,g]
    .rw[af z];exact s2 c w (by rw[af z];exact e)
   .rw[af λz=>by rw[z,s2 _ _ ag]at e;cases e];exact e
   .have:=R c i;rw[af (M c i)]at this;exact this
 .left;refine⟨o,s1 _ _ g,?_⟩;refine Aq (K:=K) (D:=N9 X {nx:=λA H'=>(ud (aK 1)) {nx:=λ_ H'=>Q .bv H',rt:=Q} A H',rt:=Q}) O bu (B:=H) g P j m s1 ag ?_;rintro σ H2 l ⟨a,b,rfl⟩ s2 J R2 R;exact .inl ⟨_,rfl,I ar H2 l s2 J R2 R⟩
def S9(H:Hp)(x:Pz.bc×Int)(v:V):Prop:=∃p w,v=.ref p/\H p=some (.tup [w,.int x.2])/\IsArr H x.1 w
def HQ(x:Pz.bc×Int):D:=.tup [bI x.1,.int x.2]
noncomputable def Ob(x:Pz.bc×Pz.nX):Int×Int:=(x.1.2.2,x.2.1)
noncomputable def HR(x:Pz.bc×Pz.nX):Pz.bc×Int:=(x.1,x.2.1)
def L7(h:IsArr H a v):Is H m (bI a) v:=by obtain⟨p,rfl,h⟩:=h;exact⟨p,_,rfl,h,_,_,rfl,rfl,_,_,rfl,rfl,_,_,rfl,rfl,rfl⟩
def PR:FY S9 HQ HR (λx b=>[.ref b,.int x.2.1]) (kh (aB (aK 2) (aB (tI K 3 0) bB))) where
 ma:=λH x b q v0 v1 hb hq=>.t (.c (.va rfl) (.c (.ix (.va rfl) hq rfl) .ni)) rfl
 is:=λH x b p hb hp=>⟨p,_,rfl,hp,b,rfl,hb⟩
 kp:=λk a v ⟨p,w,e,h,g⟩=>⟨p,w,e,k _ _ h,IsArr.keep k _ _ g⟩
 d:=λH m a v ⟨p,w,e,h,g⟩=>⟨p,_,e,h,_,_,rfl,L7 g,_,_,rfl,rfl,rfl⟩
end
def b6{N P:List Str}{h:Scope}(a:autoParam (h.kind=.function) aM)(b:autoParam (h.isCoroutine=false) aM)(c:autoParam (h.isGenerator=false) aM)(d:N.Nodup:=by decide +kernel)(e:autoParam (N.take P.length=P) aM)
 (f:∀x∈P,h.names.lookup x=some .local\/h.names.lookup x=some .cell:=by decide +kernel) (g:∀y∈h.names,y.2≠.free:=by decide +kernel):aR N P h:=⟨a,b,c,d,e,f,g⟩
abbrev Oc(x q:Str)(st:Stmt)(kV doc pm:YA)(an:Option Addr)(cdv ct:YA):FuncData:=fnOf x q (d4 st) (c_ st) (ay st) .none kV doc pm an cdv ct
structure Df(K:Yy) (mg:Str->Option YA) (x:Str) (st:Stmt) (ps:List Str) where
 f:Addr
 fd:FuncData
 h:Fn K mg x st ps f fd
structure Mf(K:Yy) (C:Addr) (x q:Str) (st:Stmt) (ps:List Str) where
 f:Addr
 fd:FuncData
 h:Mt K C x q st ps f fd
section
variable{K KK:Yy}{x q:Str}{st:Stmt}{f C:Addr}{oc:YA}{od an:Option Addr}{osl:Array (Option YA)}{kV doc pm cdv ct:YA}
def Lk(K:Yy)(x q:Str)(st:Stmt)(f:Addr):Prop:=∃oc od an osl kV doc pm cdv ct,K.lookup f=some ⟨oc,od,.func (Oc x q st kV doc pm an cdv ct),osl⟩/\codeIn K cdv q=true
def lk(l:K.lookup f=some ⟨oc,od,.func (Oc x q st kV doc pm an cdv ct),osl⟩)(c:codeIn K cdv q=true):Lk K x q st f:=⟨_,_,_,_,_,_,_,_,_,l,c⟩
def FK(K:Yy)(x:Str)(st:Stmt):Prop:=∃f,nsIn K mainGlobals x=some (some (.ref f))/\Lk K x x st f
def fk(a:nsIn K mainGlobals x=some (some (.ref f)))(l:K.lookup f=some ⟨oc,od,.func (Oc x x st kV doc pm an cdv ct),osl⟩)(c:codeIn K cdv x=true):FK K x st:=⟨_,a,lk l c⟩
structure MK(K:Yy) (C:Addr) (x q:Str) (st:Stmt) (f:Addr):Prop where
 a:findIn K (.ref C) x=some (some (.ref f))
 i:isFn K (.ref f)=true
 l:Lk K x q st f
 k:keepIn K (.ref f)=true
def mk(a:findIn K (.ref C) x=some (some (.ref f)))(i:isFn K (.ref f)=true)(l:K.lookup f=some ⟨oc,od,.func (Oc x q st kV doc pm an cdv ct),osl⟩)(c:codeIn K cdv q=true)(k:keepIn K (.ref f)=true):MK K C x q st f:=⟨a,i,lk l c,k⟩
structure CK(K KK:Yy) (x:Str) (C:Addr):Prop where
 b:nsIn K mainGlobals x=some (some (.ref C))
 pg:plainGet KK C Str.empty=true
 hd:hasDictIn KK C=true
 po:PySem.W.plainOver KK C=true
 sa:findIn KK (.ref C) "__setattr__"=some (some (.builtin "object.__setattr__"))
 m:PySem.W.makesIn KK C=true
 k:keepIn KK (.ref C)=true
def CK.cl(c:CK K KK x C):vy KK C:=⟨c.pg,c.hd,c.po,c.sa⟩
variable{mg:Str->Option YA}{ps:List Str}{h:Heap}
def df(X:K.In h)(G:h.Ns mainGlobals mg)(U:xN K KK)(k:FK K x st)
 (b:∀(kV doc pm:YA)(an:Option Addr)(cdv ct:YA)(us:List YA),us.length=ps.length->bindArgs (Oc x x st kV doc pm an cdv ct) ⟨us,[]⟩=pure (ps.zip us):=by intro _ _ _ _ _ _ us d;rcases us with _|⟨_,_|⟨_,_|⟨_,_|⟨_,_|⟨_,_|⟨_,us⟩⟩⟩⟩⟩⟩<;>first|(cases d;done)|rfl):Nonempty (Df KK mg x st ps):=by
 obtain⟨f,a,oc,od,an,osl,kV,doc,pm,cdv,ct,l,c⟩:=k;exact⟨f,_,LF U l c (PySem.W.mg_of X G a) b⟩
def mf(k:MK K C x q st f)
 (b:∀(kV doc pm:YA)(an:Option Addr)(cdv ct:YA)(us:List YA),us.length=ps.length->bindArgs (Oc x q st kV doc pm an cdv ct) ⟨us,[]⟩=pure (ps.zip us):=by intro _ _ _ _ _ _ us d;rcases us with _|⟨_,_|⟨_,_|⟨_,_|⟨_,_|⟨_,_|⟨_,us⟩⟩⟩⟩⟩⟩<;>first|(cases d;done)|rfl):∃m:Mf K C x q st ps,m.f=f:=by
 obtain⟨a,i,⟨oc,od,an,osl,kV,doc,pm,cdv,ct,l,c⟩,kp⟩:=k;exact⟨⟨f,_,PJ l c kp a i b⟩,rfl⟩
def PU(c:CK K KK x C)(k:MK KK C "__init__" q st f):Mk KK C f:=⟨c.m,k.a,k.i,c.k⟩
end
end L4
namespace L2
open PySem PySem.Spec PySem.Calls PyProof.Rows
section
variable{St:Nat->Yx->Prop}
def rB(h h':Heap):Prop:=∀b o,h.get? b=some o->h'.get? b=some o
def EN(prog:Yz)(w:World)(A:YB)(a:Heap)(P:Nat->YA->Prop)(b:Nat->Nat->Bool):Prop:=∀i j u v (s:Yx) (Q:YA->Yx->Prop) (E:YA->Yx->Prop),rB a s.heap->P i u->P j v->Q (.bool (b i j)) s->wpAny (model prog w) A (richCompare .Lt u v) Q E s
def lC:(toString "min"++toString ".loop" : String)="min.loop":=by decide
def B3(W:WalksS prog w A.in1 I fp wr G n P St)(x:EN prog w A.in1 h0 P bt)(E:∀b∈wr,h0.get? b=none)(N:S∉fp)(H:h0.get? S=none) :
 ∀(k j:Nat)(s:Yx)(l:YA)(c:Nat),n-(j+1)=k->j+1<=n->St (j+1) s->rB h0 s.heap->P (argBest bt j) l->s.heap.get? S=some { cls:=.type "list",dict:=none,data:=.seq #[l,l] c,slots:=#[] }->
  (∀v g,P (argBest bt (n-1)) v->Moved (S::wr) G s g->R (.ok (.ret v)) g)->codeAny (model prog w) A (.builtin "min.loop" ⟨[.ref I,.none,.ref S],kw⟩) R s:=by
 have O:S∉wr:=λh=>N (W.sub _ h);have sub:∀b∈wr,b∈S::wr:=λb i=>UT _ i;have Q:∀{b:Addr},b∉S::wr->S≠b:=λi h=>i (h▸UW);have J:∀{s g:Yx},rB h0 s.heap->Moved wr G s g->rB h0 g.heap:=λK m b o e=>m.heap b o (λz=>by rw[E b z]at e;cases e) (K b o e);intro k;induction k with
 |zero=>
  intro j s l c K V q kp C y D;have T:j+1=n:=by lia
  refine Wr F.entry_min_loop ?_;rw[Wx WI _];refine KE (XG y rfl (KE (Ya (W.done s _ _ (T▸q) λg m=>?_))));have a:=m.heap S _ O y;refine KE (Xv a rfl (KE (Yj (UM ?_))));exact D l _ (by rw[<- T];exact C) ((m.mono sub).then_heap (tk:=g.toks) (UN _) λb o i e=>(Vh _ _ (Q i)).trans e)
 |succ k U=>
  intro j s l c K V q kp C y D;have r:j+1<n:=by lia
  refine Wr F.entry_min_loop ?_;rw[Wx WI _];refine KE (XG y rfl (KE (Ya (W.item (j+1) s _ _ r q λv g B p m=>?_))));have a:=m.heap S _ O y;have t:=J kp m;show wpAny _ A.in1 (tryCatch (holding [v,v] (richCompare .Lt v l >>= _)) _ >>= _) _ _ _;refine KE (Ya (VI (KE (x (j+1) (argBest bt j) v l _ _ _ t B C (KE (VI (V7 (KE (Yj (UM ?_))))))))));cases i:bt (j+1) (argBest bt j)with
  |true=>
   simp only[Wl];refine KE (Xv a rfl (KE (Yj ?_)));rw[lC];refine UM ⟨WY WI _,U (j+1) _ v _ (by lia) r (W.frame _ g _ g.toks p (UN _) λb L o e=>?_) (λb o e=>?_) (by simp only[argBest,i,Wl];exact B) (VR _ a rfl) λM u d f=>?_⟩
   .exact(Vh _ _ (λh:S=b=>N (h▸L))).trans e
   .exact(Vh _ _ (λh:S=b=>by rw[<- h,H]at e;cases e)).trans (t b o e)
   .exact D M u d (Yi W.gtrans ((m.mono sub).then_heap (UN _) λb o i e=>(Vh _ _ (Q i)).trans e) f)
  |false=>simp only[U2,VH];refine KE (Yj ?_);rw[lC];refine UM ⟨WY WI _,U (j+1) _ l c (by lia) r p t (by simp only[argBest,i,U2,VH];exact C) a λM u d f=>?_⟩;exact D M u d (Yi W.gtrans (m.mono sub) f)
def B4(d:YA):Builtin.Builtins.bindParams "min" ["key","default"] 0 ⟨[],[(("default" : Str),d)]⟩=pure [none,some d]:=by rfl
def B5(a d:YA):argsOk "min" ⟨[a],[(("default" : Str),d)]⟩:=by unfold argsOk;kernel_rfl
def B6
 (h:wpAny (model prog w) A.in1 (pyIter x) (λit a=>∃I fp f G n P St B j,it=.ref I/\WalksS prog w A.in1 I fp f G n P St/\St 0 a/\(∀b∈fp,b<a.heap.objs.size)/\EN prog w A.in1 j P B/\rB j a.heap/\(∀b∈f,j.get? b=none)/\
   (n=0->∀c,Moved f G a c->Q d c)/\(0<n->∀v c,P (argBest B (n-1)) v->Moved f G a c->Q v c)) E s) :
 wpAny (model prog w) A (call (.builtin "min") [x] [(("default" : Str),d)]) Q E s:=by
 refine PyProof.Rows.kmk_tree PySem.F.kind_min PySem.F.plain_min PySem.F.entry_min (B5 _ _) ?_;show wpAny _ A.in1 (Builtin.Builtins.bindParams "min" ["key","default"] 0 ⟨[],[(("default" : Str),d)]⟩ >>= _) _ _ s;refine KE (wpAny_of_eq (B4 d) ?_);refine KE (UM ?_);refine KE (Wg h (λit a k=>?_) λ_ _ e=>e);obtain⟨I,fp,f,G,n,P,St,B,j,rfl,W,C,D,l,kp,m,N,q1⟩:=k;have g:a.heap.objs.size∉fp:=λi=>Wy _ (D _ i);have H:a.heap.objs.size∉f:=λh=>g (W.sub _ h);have p:j.get? a.heap.objs.size=none:=by
  cases e:j.get? a.heap.objs.size with
  |none=>rfl
  |some o=>exact absurd (UX (kp _ _ e)) (Wy _)
 refine KE (Vz ?_);rw[lC];have q:=W.frame 0 a (a.heap.push { cls:=.type "list",data:=.seq #[] }) a.toks C (UN _) λb _ o e=>RW _ e;have M:(a.heap.push { cls:=.type "list",data:=.seq #[] }).get? a.heap.objs.size=_:=UU _ rfl;have O:∀{b:Addr},b∉a.heap.objs.size::f->a.heap.objs.size≠b:=λr h=>r (h▸UW);have sub:∀b∈f,b∈a.heap.objs.size::f:=λb r=>UT _ r;refine UM ⟨WY WI _,Wr F.entry_min_loop ?_⟩;rw[Wx WI _];refine KE (XG M rfl (KE (Ya ?_)));by_cases R:n=0
 .subst R;refine W.done _ _ _ q λc i=>?_;refine KE (X0 (UM ?_));exact N rfl c (Moved.drop_new (tk:=a.toks) (i.mono sub) (UN _))
 .refine W.item 0 _ _ _ (by lia) q λv c S t i=>?_;have u:=i.heap _ _ H M;show wpAny _ A.in1 (updateSeq a.heap.objs.size (λ_=>#[v,v]) >>= _) _ _ _;refine KE (Xv u rfl ?_);rw[lC];refine UM ⟨WY WI _,B3 W l m g p _ 0 _ v _ rfl (by lia) (W.frame _ c _ c.toks t (UN _) λb J o e=>?_) (λb o e=>?_) S (VR _ u rfl) λT K L y=>?_⟩
  .exact(Vh _ _ (λh:a.heap.objs.size=b=>g (h▸J))).trans e
  .exact(Vh _ _ (λh:a.heap.objs.size=b=>by rw[<- h,p]at e;cases e)).trans (i.heap b o (λz=>by rw[m b z]at e;cases e) (RW _ (kp b o e)))
  .exact q1 (by lia) T K L (Moved.drop_new (tk:=a.toks) (Yi W.gtrans ((i.mono sub).then_heap (UN _) λb o r e=>(Vh _ _ (O r)).trans e) y) (UN _))
end
def zc(K:Yy)(H:Hp)(vs:List V)(ks:List (List Int)):Prop:=ks.length=vs.length/\∀(i:Nat) v k,vs[i]?=some v->ks[i]?=some k->∃a,v=.ref a/\SqT K H a (k.map .int)
def zd(vs:List V)(ks:List (List Int)):Prop:=ks.length=vs.length/\∀(i:Nat) v k,vs[i]?=some v->ks[i]?=some k->∃n,k=[n]/\v=.int n
def vF(ks:List (List Int))(i j:Nat):Bool:=HT.lexLt (ks[i]?.getD []) (ks[j]?.getD [])
def PX(K:Yy)(b:TE):TE:=λσ H Q=>b σ H λx a=>∃p vs ks,x=.ref p/\SqL K a p vs/\(zc K a vs ks\/zd vs ks)/\(vs=[]->Q .bv a)/\∀v,vs[argBest (vF ks) (vs.length-1)]?=some v->Q v a
section
theorem Ar(a:Nat->Nat->Bool):∀n,argBest a n<=n
 |0=>UN _
 |n+1=>by unfold argBest;split;exact UN _;exact Nat.le_succ_of_le (Ar a n)
def HS(hc:X.calm=true)(hu:X.A.units+64<cLine)(I:Inv X ac σ H s)(hl:SqL X.K H p vs)(hk:zc X.K H vs ks\/zd vs ks)(q0:vs=[]->Q .bv H)(q1:∀v,vs[argBest (vF ks) (vs.length-1)]?=some v->Q v H) :
 wX X (call (.builtin "min") [.ref p] [(("default" : Str),.none)]) (EP X ac σ Q) X.xe s:=by
 obtain⟨its,rv,pl,hz⟩:=I.list hl;have hh:X.A.in1.handled=none:=I.ok.hd hc;obtain⟨o,ho,_⟩:=pl.isList;have hlt:p<s.heap.objs.size:=UX ho;have bu:=rv.length;have hkl:ks.length=vs.length:=hk.elim And.left And.left;have cmp:EN X.prog X.w X.A.in1 s.heap (λi v=>its[i]?=some v) (vF ks):=by
  intro i j u v s' Q' E' kp hu' hv' hQ;have hi:i<its.length:=(UQ.mp hu').1;have hj:j<its.length:=(UQ.mp hv').1;have eki:ks[i]?=some ks[i]:=by simp[show i<ks.length by lia]
  have ekj:ks[j]?=some ks[j]:=by simp[show j<ks.length by lia]
  have evi:vs[i]?=some vs[i]:=by simp[show i<vs.length by lia]
  have evj:vs[j]?=some vs[j]:=by simp[show j<vs.length by lia]
  obtain⟨u',e1,r1⟩:=rv.get evi;obtain⟨v',e2,r2⟩:=rv.get evj;rw[hu']at e1;cases e1;rw[hv']at e2;cases e2;unfold vF at hQ;rw[eki,ekj]at hQ;simp only[Option.getD_some]at hQ;generalize ks[i]=ki at eki hQ;generalize ks[j]=kj at ekj hQ;generalize vs[i]=wi at evi r1;generalize vs[j]=wj at evj r2;rcases hk with hk|hk
  .obtain⟨a,rfl,ha⟩:=hk.2 i _ _ evi eki;obtain⟨b,rfl,hb⟩:=hk.2 j _ _ evj ekj;cases r1;cases r2;obtain⟨ia,ra,pa,_⟩:=I.tuple ha;obtain⟨ib,rb,pb,_⟩:=I.tuple hb;obtain⟨oa,ea,pa⟩:=pa;obtain⟨ob,eb,pb⟩:=pb;refine HT.lt_tupInts (s:=s') ⟨oa,kp _ _ ea,pa⟩ ⟨ob,kp _ _ eb,pb⟩ (qA ra) (qA rb) ?_ hQ;show X.A.units+1<cLine;lia
  .obtain⟨m,rfl,rfl⟩:=hk.2 i _ _ evi eki;obtain⟨n,rfl,rfl⟩:=hk.2 j _ _ evj ekj;obtain⟨t1,rfl⟩:=r1;obtain⟨t2,rfl⟩:=r2;refine HT.rcLt_int _ _ _ _ _ _ _ _ _ _ ?_;have:HT.lexLt [m] [n]=decide (m<n):=by
    show(if m=n then false else decide (m<n))=_;split
    .rename_i e;rw[U_ (by lia)]
    .rfl
   rw[<- this];exact hQ
 refine B6 (W9 pl.isList ?_);refine⟨s.heap.objs.size,_,_,_,_,_,_,vF ks,s.heap,rfl,(Walks.list hh s.heap.objs.size p (U9 hlt) its.toArray).toS,⟨⟨_,UU _ rfl,rfl,rfl⟩,?_⟩,?_,?_,?_,?_,?_,?_⟩
 .exact pl.isList.at λo e=>RW _ e
 .intro b hb;rw[WN];rcases US.mp hb with e|hb
  .rw[e];exact WH _
  .rcases US.mp hb with e|hb
   .rw[e];exact WU hlt
   .cases hb
 .intro i j u v s' Q' E' kp hu' hv' hQ;exact cmp i j u v s' Q' E' kp (by simpa using hu') (by simpa using hv') hQ
 .exact λb o e=>RW _ e
 .intro b hb;obtain rfl:=U5.mp hb;cases e:s.heap.get? s.heap.objs.size with
  |none=>rfl
  |some o=>exact absurd (UX e) (Wy _)
 .intro hn s' hm;have e0:vs=[]:=VC.mp (by rw[bu];simpa using hn);exact⟨.bv,H,back I hm,rfl,q0 e0⟩
 .intro hn v s' hv hm;have hv:its[argBest (vF ks) (its.length-1)]?=some v:=by simpa using hv
  have hb:=Ar (vF ks) (vs.length-1);have hpos:0<its.length:=by simpa using hn
  have ev:vs[argBest (vF ks) (vs.length-1)]?=some (vs[argBest (vF ks) (vs.length-1)]'(by lia)):=by simp
  obtain⟨u',e1,r1⟩:=rv.get ev;rw[bu,hv]at e1;cases e1;exact⟨_,H,back I hm,r1,q1 _ ev⟩
where
 back {X:Cx} {ac:List (Addr×Obj)} {s s':Yx} {σ:St} {H:Hp} {p:Addr} (I:Inv X ac σ H s) (hm:Moved [s.heap.objs.size] (λa b=>b=a) { s with heap:=s.heap.push { cls:=.type "list_iterator",data:=.fields #[.ref p,.int 0 0] } } s'):Inv X ac σ H s':=by obtain⟨h',g',d',tk',os'⟩:=s';obtain rfl:g'=s.gens:=hm.gens;obtain rfl:d'=s.drawn:=hm.drawn;obtain rfl:os'=s.os:=hm.os;have I1:Inv X ac σ H { s with heap:=s.heap.push { cls:=.type "list_iterator",data:=.fields #[.ref p,.int 0 0] } }:=I.kept (t':=s.toks) λb o e=>RW _ e;have fo:=I.sO (H':=H) (UN s.heap.objs.size) (I.aU.fresh (UN _));have I2:=I1.turned (h':=h') (t':=tk') (it:=s.heap.objs.size) (λb o hb e=>hm.heap b o (by simpa using hb) e) fo.1 fo.2.1 fo.2.2.2.1 fo.2.2.2.2.1 fo.2.2.2.2.2;exact I2
def HU(i:X.calm=true)(k:X.A.units+64<cLine)(l:Gl X "min") (m:X.mg "min"=none) (n:PE X e te) (b:autoParam (sE X e []) aM)
 (c:autoParam (((backTo pos (starEach [e] X.env)).any (·.1) ||(backToKw pos (keywordEach [⟨some "default",.Constant .none j kp,kpos⟩] X.env)).any (·.1.isNone))=false) aM) :
 PE X (.Call (.Name "min" p) [e] [⟨some "default",.Constant .none j kp,kpos⟩] pos) (PX X.K te):=by
 intro ac s σ H Q I h;refine WJ (jp I l m (by decide +kernel:bootBuiltins "min"=some (.builtin "min")) ?_ (by decide) (by decide));have o:PA X [e] (aB te bB):=aj n aH (hs:=b);have d:PK X [⟨some "default",.Constant .none j kp,kpos⟩] (aB (tC .bv) bB):=Gq mj KO;refine PySem.W.callWith_of (P:=λ_=>True) c (λh _=>⟨Keeper.machine,.inr (.inl rfl),PySem.W.Looks.now⟩) (PyProof.Rows.evalArgs_kw2 rfl (bX (o pos ac s σ H (λws a=>match ws with|[x]=>(∃p vs ks,x=.ref p/\SqL X.K a p vs/\(zc X.K a vs ks\/zd vs ks)/\(vs=[]->Q .bv a)/\∀v,vs[argBest (vF ks) (vs.length-1)]?=some v->Q v a)|_=>False) I h) λus s1 ⟨vs,a,t,r,q⟩=>?_) b);obtain⟨x,rfl⟩ : ∃x,vs=[x]:=by
  match vs,q with
  |[x],_=>exact⟨x,rfl⟩
 obtain⟨p,vs,ks,rfl,w,y,z,q1⟩:=q;obtain⟨u,rfl,f⟩:=fM r;cases f;refine bX (d pos ac s1 σ a (λvs g=>vs=[.bv]/\g=a) t ⟨rfl,rfl⟩) λws s2 ⟨D,g,B,C,e1,e2⟩=>⟨tI_,?_⟩;subst e1 e2;obtain⟨u,rfl,f⟩:=fM C;cases f;exact HS i k B w y z q1
end
end L2
namespace L3
open PySem PySem.Spec PyProof.Rows L2
def rC(b x:List Int):List Int:=if HT.lexLt x b then x else b
def u7:List (List Int)->List Int
 |[]=>[]
 |k::r=>r.foldl rC k
def xh(r:R):Res R:=match r.d with
 |.lst []=>.ok (.val .bv true [])
 |.lst ds=>match eB ds with
  |some ks=>.ok (.val (jf (u7 ks)) true [])
  |none=>match hJ ds with
   |some ns=>.ok (.val (.int ((u7 (ns.map λn=>[n])).headD 0)) true [])
   |none=>.stuck
 |_=>.stuck
def EO(f:En->Res R):En->Res R:=λenv=>(f env).bind xh
theorem pB:∀k:List Int,(jf k).flat=true
 |[]=>rfl
 |_::k=>pB k
theorem jd:∀(k:List Int)(r:List (List Int))(j:Nat),j<=r.length->(k::r)[argBest (vF (k::r)) j]?=some ((r.take j).foldl rC k)
 |k,r,0,_=>by simp[argBest]
 |k,r,j+1,h=>by
  have a:=jd k r j (by lia);have c:j<r.length:=h;have e:(k::r)[j+1]?=some r[j]:=by simp[c]
  have e2:r.take (j+1)=r.take j++[r[j]]:=by rw[List.take_append_getElem]
  show(k::r)[if vF (k::r) (j+1) (argBest (vF (k::r)) j)then j+1 else argBest (vF (k::r)) j]?=_;rw[e2,Wn];generalize argBest (vF (k::r)) j=b at a;generalize(r.take j).foldl rC k=m at a;have q:vF (k::r) (j+1) b=HT.lexLt r[j] m:=by show HT.lexLt ((k::r)[j+1]?.getD []) ((k::r)[b]?.getD [])=_;rw[e,a];rfl
  rw[q];show _=some (if HT.lexLt r[j] m=true then r[j]else m);by_cases z:HT.lexLt r[j] m=true
  .rw[UP z,UP z];exact e
  .rw[UV z,UV z];exact a
def t5(h:ks≠[]):ks[argBest (vF ks) (ks.length-1)]?=some (u7 ks):=by
 cases ks with
 |nil=>exact(h rfl).elim
 |cons k r=>have:=jd k r r.length (UN _);rw[List.take_length]at this;exact this
theorem As:∀{ds:List D}{vs:List V}{ks:List (List Int)},IsAll H m ds vs->L3.eB ds=some ks->ks.length=vs.length/\∀(i:Nat) v k,vs[i]?=some v->ks[i]?=some k->(∃a,v=.ref a/\H a=some (.tup (k.map .int)))/\Is H m (jf k) v
 |[],vs,ks,h,e=>by cases(show vs=[]from h);cases(show(some []:Option (List (List Int)))=some ks from e);exact⟨rfl,λi v k e=>by simp at e⟩
 |d::ds,vs,ks,h,e=>by
  obtain⟨v,r,rfl,h1,h2⟩:=h;unfold L3.eB at e;cases q1:Hm d with
  |none=>simp only[q1]at e;cases e
  |some k0=>
   cases q2:L3.eB ds with
   |none=>simp only[q1,q2]at e;cases e
   |some kr=>
    simp only[q1,q2]at e;cases e;obtain⟨l,f⟩:=As h2 q2;refine⟨by simp[l],λi w k ew ek=>?_⟩;cases i with
    |zero=>
     simp at ew ek;subst ew ek;cases d with
     |tup xs=>
      have h1':=h1;obtain⟨a,us,rfl,ha,hu⟩:=h1;have qi:hJ xs=some k0:=q1;have eu:us=k0.map V.int:=by rw[hu.ints qi];unfold iK;rw[Vb];rfl
      have ex:xs=k0.map D.int:=ints_eq qi;rw[eu]at ha;exact⟨⟨a,rfl,ha⟩,by show Is H m (.tup (k0.map .int)) _;rw[<- ex];exact h1'⟩
     |_=>cases q1
    |succ i=>exact f i w k (by simpa using ew) (by simpa using ek)
where
 ints_eq:∀{xs:List D}{k:List Int},hJ xs=some k->xs=k.map D.int
 |[],_,e=>by cases e;rfl
 |.int i::r,k,e=>by
  unfold hJ at e;cases q:hJ r with
  |none=>rw[q]at e;cases e
  |some kr=>rw[q]at e;cases e;rw[UR,ints_eq q]
 |.bv::_,_,e=>by cases e
 |.bl _::_,_,e=>by cases e
 |.str _::_,_,e=>by cases e
 |.tup _::_,_,e=>by cases e
 |.lst _::_,_,e=>by cases e
 |.dZ _ _::_,_,e=>by cases e
section
def HV(R:X.calm=true)(S:X.A.units+64<cLine)(T:Gl X "min") (U:X.mg "min"=none) (W:PD X E e f) (B:autoParam (sE X e []) aM)
 (C:autoParam (((backTo pos (starEach [e] X.env)).any (·.1) ||(backToKw pos (keywordEach [⟨some "default",.Constant .none j kp,kpos⟩] X.env)).any (·.1.isNone))=false) aM) :
 PD X E (.Call (.Name "min" p) [e] [⟨some "default",.Constant .none j kp,kpos⟩] pos) (EO f):=by
 obtain⟨t,p1,s1⟩:=W;refine⟨_,HU R S T U p1 B C,λg M Y env σ H Q F p=>s1.fK F p λr v M1 x e1 u N q1=>?_⟩;unfold xh at q1;have fl:∀{d:D}{w:V}{m:Addr->Prop},d.flat=true->Is x m d w->PostE X.mg E g M1 Y env σ x Q (.ok (.val d true []))->Q w x:=λ{d w m} y Z hp=>hp w M1 x (Ext.refl _ _) u (Is.flat y Z);cases q:r.d with
 |lst ds=>
  rw[q]at q1 N;obtain⟨a,ws,rfl,h1,G⟩:=N.rd;have I:=G.length;cases ds with
  |nil=>cases(show ws=[]from VC.mp (by rw[I];rfl));exact⟨a,[],[],rfl,.inl h1,.inr ⟨rfl,λi v k e=>by simp at e⟩,λ_=>fl (d:=.bv) (m:=λ_=>False) rfl rfl q1,λv e=>by simp at e⟩
  |cons O P=>
   dsimp only at q1;have o:ws≠[]:=λz=>by rw[z]at I;cases I
   cases J:eB (O::P)with
   |some ks=>
    rw[J]at q1;dsimp only at q1;obtain⟨K,y⟩:=As G J;have s:ks≠[]:=λz=>o (VC.mp (by rw[<- K,z];rfl));refine⟨a,ws,ks,rfl,.inl h1,.inl ⟨K,λi v k l ek=>?_⟩,λz=>(o z).elim,λv l=>?_⟩
    .obtain⟨⟨b,rfl,c⟩,_⟩:=y i v k l ek;exact⟨b,rfl,SqT.of c⟩
    .have c:=t5 s;rw[K]at c;exact fl (d:=jf (u7 ks)) (pB _) (y _ _ _ l c).2 q1
   |none=>
    rw[J]at q1;dsimp only at q1;cases L:hJ (O::P)with
    |none=>rw[L]at q1;exact q1.elim
    |some ns=>
     rw[L]at q1;dsimp only at q1;have ew:ws=ns.map V.int:=by rw[G.ints L];unfold iK;rw[Vb];rfl
     subst ew;have s:(ns.map λn=>[n])≠[]:=λz=>o (by cases ns with|nil=>rfl|cons _ _=>cases z);refine⟨a,_,ns.map λn=>[n],rfl,.inl h1,.inr ⟨by simp,λi v k e1 e2=>?_⟩,λz=>(o z).elim,λv l=>?_⟩
     .rw[U7]at e1 e2;cases h:ns[i]? with
      |none=>rw[h]at e1;cases e1
      |some n=>rw[h]at e1 e2;cases e1;cases e2;exact⟨n,rfl,rfl⟩
     .have c:=t5 s;rw[UO]at c l;rw[U7]at c l;cases h:ns[argBest (vF (ns.map λn=>[n])) (ns.length-1)]? with
      |none=>rw[h]at l;cases l
      |some n=>rw[h]at c l;cases l;injection c with c;rw[<- c]at q1;exact fl (d:=.int n) (m:=λ_=>False) rfl rfl q1
 |_=>rw[q]at q1;exact q1.elim
end
end L3
namespace L2
open PySem PySem.Spec PySem.Calls PyProof.Rows
section
def HW(d:A.units+1<cLine)(I:Inv X ac σ H s)(g:pd H a y o)(c:RelV y u)(h:∀f i,Inv X ac σ H i->RelV (o.getD .bv) f->Q f i):wpAny (model X.prog X.w) A (call (.builtin "dict.get") [.ref a,u]) Q E s:=by
 rcases g with g|⟨e,⟨k,rfl⟩,rfl⟩|⟨e,⟨b,k,rfl,j⟩,rfl⟩
 .exact C3 d I g c h
 .obtain⟨y,dd⟩:=oj (e.ok I.aU);exact WC Vq dd.typeIs VX (WW _ _) (meets_dict_get (aI X.prog X.w) a (jZ c) y) ⟨_,dd.mapOf,h _ _ (I.tok _) rfl⟩
 .obtain rfl:u=Value.ref b:=c;obtain⟨y,dd⟩:=yk (e.ok I.aU);exact WC Vq dd.typeIs VX (WW _ _) (meetsH_dict_get (tupleKind (aI X.prog X.w)) a b y) ⟨Wc d,k,[],fT I.aU j,dd,h _ _ (I.tok _) rfl⟩
end
def HX(td ty:TE):TE:=λσ H Q=>td σ H λx b=>∃a,x=.ref a/\Ji b a/\ty σ b λy c=>∃o,pd c a y o/\Q (o.getD .bv) c
def B7(f:X.A.units+1<cLine)(i:PE X o td)(j:PE X e ty)(m:M1 X o "get" apos e cpos):PE X (.Call (.Attribute o "get" apos) [e] [] cpos) (HX td ty):=by intro ac s σ H Q I h;refine W_ m.base m.nY m.line Vl Vq W6 (bX (i ac s σ H _ I h) λu s1 ⟨x,k,c,l,a,ex,d,q1⟩=>?_);subst ex;obtain rfl:u=Value.ref a:=l;obtain⟨n,p,_⟩:=oh c d;refine⟨n,p,?_⟩;rw[m.trees];exact VW rfl (Ww (V3 (bX (j ac s1 σ k _ c q1) λw s2 ⟨y,q,r,t,z,g,q2⟩=>WE (HW f r g t λB C v b=>⟨_,q,v,b,q2⟩))))
end L2
namespace L3
open PySem PySem.Spec PyProof.Rows L2
def R9(ra:R)(ks:List DK)(ds:List D)(rk:R):Res R:=match hI rk.d with
 |some x=>if ks.all (mD x)then(match getD ks ds x with
  |some d=>.ok (jy d ra.fr ra.al)
  |none=>.ok (.val .bv true []))else .stuck
 |none=>.stuck
def PY(fk:En->Res R)(env:En)(ra:R):Res R:=match ra.d with
 |.dZ ks ds=>(fk env).bind (R9 ra ks ds)
 |_=>.stuck
def Au(fa fk:En->Res R):En->Res R:=λenv=>(fa env).bind (PY fk env)
section
def HY(D:X.A.units+64<cLine)(u:PD X E o fa)(w:PD X E k fk)(m:M1 X o "get" apos k cpos):PD X E (.Call (.Attribute o "get" apos) [k] [] cpos) (Au fa fk):=by
 obtain⟨ta,p1,s1⟩:=u;obtain⟨tk,p2,s2⟩:=w;refine⟨_,B7 (by lia) p1 p2 m,λg M F env σ H Q j p=>s1.fK j p λra v M1 G e1 c q q1=>?_⟩;unfold PY at q1;cases r:ra.d with
 |dZ ks ds=>
  rw[r]at q1 q;dsimp only at q1;obtain⟨a,vs,rfl,⟨f,ma⟩,i⟩:=q;refine⟨a,rfl,f.Ua,s2.fK c q1 λrk y M2 x e2 b z q2=>?_⟩;unfold R9 at q2;cases l:hI rk.d with
  |none=>rw[l]at q2;exact q2.elim
  |some s=>
   rw[l]at q2;dsimp only at q2;by_cases n:ks.all (mD s)=true
   .rw[UP n]at q2;obtain⟨B,g1,g2⟩:=wJ (f.keep λo e=>e2.h _ _ e) (i.ext e2) z l n;refine⟨B,g1,?_⟩;cases t:getD ks ds s with
    |some d=>rw[t]at q2 g2;obtain⟨v,rfl,C⟩:=g2;exact q2.val b C
    |none=>rw[t]at q2 g2;cases g2;exact q2 _ M2 x (Ext.refl _ _) b rfl
   .rw[UV n]at q2;exact q2.elim
 |_=>rw[r]at q1;exact q1.elim
end
end L3
namespace L2
open PySem PySem.Spec PySem.Calls PyProof.Rows
abbrev UL:=List (List bH×Addr×YA)
end L2
namespace L3
open PySem L2
section
variable{env bS:En}{i j:Nat}{d:D}{ds es:List D}{f g:Bool}{al bl:List Nat}{x y:Int}
def kS(k:En->Res Fl):Fl->Res Fl
 |.nx bS=>k bS
 |r=>.ok r
def PZ(f k:En->Res Fl)(env:En):bn f k env=(f env).bind (kS k):=by rfl
def S_(k:En->Res Fl)(e:En):kS k (.nx e)=k e:=(rfl)
def Ta(k:En->Res Fl)(r:R):kS k (.rt r)=.ok (.rt r):=(rfl)
def Tc(a b:En->Res Fl)(env:En)(k:Bool):Res Fl:=if k then a env else b env
def Td(c:En->Res Bool)(a b:En->Res Fl)(env:En):xW c a b env=(c env).bind (Tc a b env):=(rfl)
def P3(a b:En->Res Fl)(env:En):Tc a b env true=a env:=(rfl)
def P7(a b:En->Res Fl)(env:En):Tc a b env false=b env:=(rfl)
def P8(env:En):lK env=.ok (.nx env):=(rfl)
def P9(r:R):Res Fl:=.ok (.rt r)
def P_(a:En->Res R)(env:En):fU a env=(a env).bind P9:=(rfl)
def L8(r:R):P9 r=.ok (.rt r):=(rfl)
def Qa(i:Nat)(env:En)(r:R):Res Fl:=if i<env.length then .ok (.nx (put env i r))else .stuck
def Qb(i:Nat)(a:En->Res R)(env:En):cT i a env=(a env).bind (Qa i env):=(rfl)
def L9(r:R)(h:i<env.length):Qa i env r=.ok (.nx (put env i r)):=UP h
def L_:put env i (.val d f [])=env.set i (some (.val d f)):=(rfl)
def Mb:put env i (.new ds f)=env.set i (some (.own ds f)):=(rfl)
def Md:put env i (.jm d)=env.set i (some (.l7 d)):=(rfl)
def u9(i:Nat):Option (Option Sl)->Res R
 |some (some (.val d fr))=>.ok (jy d fr [])
 |some (some (.own ds fr))=>.ok (.val (.lst ds) fr [i])
 |some (some (.l7 d))=>.ok (.val d true [i])
 |_=>.stuck
def Qc(i:Nat)(env:En):ao i env=u9 i env[i]?:=by unfold ao u9;rfl
def Qd:u9 i (some (some (.val d f)))=.ok (jy d f []):=(rfl)
def Qe:u9 i (some (some (.own ds f)))=.ok (.val (.lst ds) f [i]):=(rfl)
def Qf:u9 i (some (some (.l7 d)))=.ok (.val d true [i]):=(rfl)
def UE(d:D)(env:En):vC d env=.ok (.val d true []):=(rfl)
def ze(h:d.flat=true):jy d f al=.val d true []:=by unfold jy;rw[UP h]
def i9(h:d.flat=false):jy d f al=.val d f al:=by unfold jy;rw[UV (by rw[h];simp)]
def h_(h:D.be ds=true):m6 ds f al=.new ds true:=by unfold m6;rw[UP h]
def HZ:m6 ds true []=.new ds true:=by unfold m6;split<;>rfl
def T5(op:R->R->Res R)(a:En->Res R)(env:En)(ra:R):Res R:=(a env).bind (op ra)
def Te(op:R->R->Res R)(fa a:En->Res R)(env:En):v2 op fa a env=(fa env).bind (T5 op a env):=(rfl)
def Qg(op:R->R->Res R)(a:En->Res R)(env:En)(ra:R):T5 op a env ra=(a env).bind (op ra):=(rfl)
def Qh:dM (.val (.int x) f al) (.val (.int y) g bl)=.ok (.val (.int (x+y)) true []):=(rfl)
def Qi:DF (.val (.int x) f al) (.val (.int y) g bl)=.ok (.val (.int (x-y)) true []):=(rfl)
def Me(h1:-18446744073709551616<y)(a:y<18446744073709551616):qT (.val (.int x) f al) (.val (.int y) g bl)=.ok (.val (.int (x*y)) true []):=by
 have:Bl x y=true:=by unfold Bl;rw[Bool.or_eq_true,Vi,Vi];exact .inr ⟨U6 (by lia),U6 (by lia)⟩
 show(if Bl x y=true then _ else _)=_;rw[UP this]
def Qj(h:0<y):cS (.val (.int x) f al) (.val (.int y) g bl)=.ok (.val (.int (x%y)) true []):=by show(if decide (0<y)=true then _ else _)=_;rw[UP (U6 h)]
def Qk(h:0<y)(a:y<1073741824):lJ (.val (.int x) f al) (.val (.int y) g bl)=.ok (.val (.int (x/y)) true []):=by show(if(decide (0<y)&&decide (y<1073741824))=true then _ else _)=_;rw[UP (by rw[U6 h,U6 a];rfl)]
def Tf:RX (.val (.int x) f al) (.val (.int y) g bl)=.ok (.val (.bl (decide (x<y))) true []):=(rfl)
def Tg:SF (.val (.int x) f al) (.val (.int y) g bl)=.ok (.val (.bl (decide (x<=y))) true []):=(rfl)
def Th:N4 (.val (.int x) f al) (.val (.int y) g bl)=.ok (.val (.bl (decide (y<x))) true []):=(rfl)
def Ti:RY (.val (.int x) f al) (.val (.int y) g bl)=.ok (.val (.bl (decide (y<=x))) true []):=(rfl)
def nz(h:a.d.dep<=50)(c:b.d.dep<=50):tM a b=.ok (.val (.bl (gw a.d b.d)) true []):=by unfold tM;rw[UP ⟨h,c⟩]
def Mg(h:a.d.dep<=50)(c:b.d.dep<=50):Cs a b=.ok (.val (.bl (!gw a.d b.d)) true []):=by unfold Cs;rw[UP ⟨h,c⟩]
def Ql:gw (.int x) (.int y)=(x==y):=(rfl)
def Mh(xs a:List D)(f:Bool)(al:List Nat):Res R:=if xs.length+a.length<=lim then .ok (m6 (xs++a) f al)else .stuck
def H_:dM (.val (.lst ds) f al) (.new es g)=Mh ds es (f&&g) (al++[]):=(rfl)
def Ia:dM (.new ds f) (.new es g)=Mh ds es (f&&g) []:=(rfl)
def zf(h:ds.length+es.length<=1000000):Mh ds es f al=.ok (m6 (ds++es) f al):=UP h
def JE(fs:En->Res (List R))(env:En)(r:R):Res (List R):=(fs env).bind (λrs=>.ok (r::rs))
def EQ(r:R)(rs:List R):Res (List R):=.ok (r::rs)
def Mi(env:En):aN env=.ok []:=(rfl)
def Ib(a:En->Res R)(fs:En->Res (List R))(env:En):ah a fs env=(a env).bind (JE fs env):=(rfl)
def Ic(fs:En->Res (List R))(env:En)(r:R):JE fs env r=(fs env).bind (EQ r):=(rfl)
def ER(r:R)(rs:List R):EQ r rs=.ok (r::rs):=(rfl)
def Qm(rs:List R):Res R:=if rs.length<=lim then .ok (jy (.tup (rs.map R.d)) (b5 rs) (cO rs))else .stuck
def Qn(fs:En->Res (List R))(env:En):d6 fs env=(fs env).bind Qm:=(rfl)
def Mj(rs:List R)(h:rs.length<=1000000):Qm rs=.ok (jy (.tup (rs.map R.d)) (b5 rs) (cO rs)):=UP h
def Qo(rs:List R):Res R:=if rs.length<=lim then .ok (m6 (rs.map R.d) (b5 rs) (cO rs))else .stuck
def Qp(fs:En->Res (List R))(env:En):g6 fs env=(fs env).bind Qo:=(rfl)
def Ml(rs:List R)(h:rs.length<=1000000):Qo rs=.ok (m6 (rs.map R.d) (b5 rs) (cO rs)):=UP h
def ES:b5 []=true:=(rfl)
def B8(r:R)(rs:List R):b5 (r::rs)=(r.fr&&b5 rs):=(rfl)
def ET:cO []=[]:=(rfl)
def B9(r:R)(rs:List R):cO (r::rs)=r.al++cO rs:=(rfl)
def JF(F:List D->Res R)(rs:List R):Res R:=(F (rs.map R.d)).bind (λr=>.ok (je rs r))
def EU(rs:List R)(r:R):Res R:=.ok (je rs r)
def Mm(F:List D->Res R)(fs:En->Res (List R))(env:En):cb F fs env=(fs env).bind (JF F):=(rfl)
def Ie(F:List D->Res R)(rs:List R):JF F rs=(F (rs.map R.d)).bind (EU rs):=(rfl)
def EV(rs:List R)(r:R):EU rs r=.ok (je rs r):=(rfl)
def EW(rs:List R)(h:d.flat=true):je rs (.val d f al)=.val d true []:=UP h
def xj(rs:List R)(h:d.flat=false):je rs (.val d true al)=.jm d:=by show F0 d true rs=_;unfold F0;rw[UV (by rw[h];simp),UP rfl]
def EX(rs:List R)(h:d.flat=false):je rs (.val d false al)=.val d (b5 rs) (cO rs):=by show F0 d false rs=_;unfold F0;rw[UV (by rw[h];simp),UV (by simp)]
def t7(rs:List R)(h:D.be ds=false):je rs (.new ds true)=.jm (.lst ds):=by show(if D.be ds=true then _ else _)=_;rw[UV (by rw[h];simp),UP rfl]
def Tj(k:List R->Res R)(fs:En->Res (List R))(env:En):lu k fs env=(fs env).bind k:=(rfl)
def Mn:D->Res R
 |.lst ds=>.ok (.val (.int ds.length) true [])
 |.tup ds=>.ok (.val (.int ds.length) true [])
 |.str z=>if z.length<=lim then .ok (.val (.int z.length) true [])else .stuck
 |_=>.stuck
def Qq(r:R):ot [r]=Mn r.d:=by unfold ot Mn;rfl
def Mo:Mn (.lst ds)=.ok (.val (.int ds.length) true []):=(rfl)
def Av(f:Bool)(al:List Nat):D->Res R
 |.lst ds=>.ok (m6 ds f al)
 |.tup ds=>.ok (m6 ds f al)
 |_=>.stuck
def Mp(r:R):lV [r]=Av r.fr r.al r.d:=by unfold lV Av;rfl
def Ig:Av f al (.lst ds)=.ok (m6 ds f al):=(rfl)
def Ih:Av f al (.tup ds)=.ok (m6 ds f al):=(rfl)
def kB(ra:R):Res Bool:=match ra.d with
 |.bl b=>.ok b
 |_=>.stuck
def Tl(a:En->Res R)(env:En):vB a env=(a env).bind kB:=(rfl)
def Tn(b:Bool):kB (.val (.bl b) f al)=.ok b:=(rfl)
def Qr(ra:R):Res Bool:=Jq ra.d
def Mq(a:En->Res R)(env:En):DJ a env=(a env).bind Qr:=(rfl)
def Mr(b:Bool):Qr (.val (.bl b) f al)=.ok b:=(rfl)
def JG(b:Bool):Res Bool:=.ok (!b)
def Ms(a:En->Res Bool)(env:En):G3 a env=(a env).bind JG:=(rfl)
def Ii(b:Bool):JG b=.ok (!b):=(rfl)
def EY(b:En->Res Bool)(env:En)(k:Bool):Res Bool:=if k then b env else .ok false
def Mv(b:En->Res Bool)(env:En)(k:Bool):Res Bool:=if k then .ok true else b env
def Mw(a b:En->Res Bool)(env:En):Bm a b env=(a env).bind (EY b env):=(rfl)
def Qs(a b:En->Res Bool)(env:En):N5 a b env=(a env).bind (Mv b env):=(rfl)
def Mx(b:En->Res Bool)(env:En):EY b env true=b env:=(rfl)
def My(b:En->Res Bool)(env:En):EY b env false=.ok false:=(rfl)
def Qu(b:En->Res Bool)(env:En):Mv b env true=.ok true:=(rfl)
def Qw(b:En->Res Bool)(env:En):Mv b env false=b env:=(rfl)
def JH(b:En->Res R)(env:En)(ra:R):Res R:=match ra.d with
 |.bl true=>b env
 |.bl false=>.ok (.val (.bl false) true [])
 |_=>.stuck
def Mz(a b:En->Res R)(env:En):G0 a b env=(a env).bind (JH b env):=(rfl)
def Ij(b:En->Res R)(env:En):JH b env (.val (.bl true) f al)=b env:=(rfl)
def MA(b:En->Res R)(env:En)(ra:R):Res R:=match ra.d with
 |.bl true=>.ok (.val (.bl true) true [])
 |.bl false=>b env
 |_=>.stuck
def Qx(a b:En->Res R)(env:En):SI a b env=(a env).bind (MA b env):=(rfl)
def MB(b:En->Res R)(env:En):MA b env (.val (.bl true) f al)=.ok (.val (.bl true) true []):=(rfl)
def MC(b:En->Res R)(env:En):MA b env (.val (.bl false) f al)=b env:=(rfl)
def JI(ra:R):Res R:=match ra.d with
 |.bl b=>.ok (.val (.bl (!b)) true [])
 |_=>.stuck
def ME(a:En->Res R)(env:En):Lj a env=(a env).bind JI:=(rfl)
def MF(b:Bool):JI (.val (.bl b) f al)=.ok (.val (.bl (!b)) true []):=(rfl)
def Ct(f:Bool)(al:List Nat):Option D->Res R
 |some d=>.ok (jy d f al)
 |none=>.stuck
def nA(a b:D)(f:Bool)(al:List Nat):Res R:=match a,b with
 |.lst xs,.int i=>Ct f al (dk xs i)
 |.tup xs,.int i=>Ct f al (dk xs i)
 |.str z,.int i=>if z.length<=lim then(match dk z.cps.toList i with
  |some c=>.ok (.val (.str ⟨#[c]⟩) true [])
  |none=>.stuck)else .stuck
 |_,_=>.stuck
def Qy(a b:R):yI a b=nA a.d b.d a.fr a.al:=by unfold yI nA Ct;rfl
def Qz:nA (.lst ds) (.int k) f al=Ct f al (dk ds k):=(rfl)
def QA:nA (.tup ds) (.int k) f al=Ct f al (dk ds k):=(rfl)
def QB:Ct f al (some d)=.ok (jy d f al):=(rfl)
def Ik(ds:List D)(fr:Bool)(a:R):Res R:=match a.d with
 |.int k=>match dk ds k with
  |some d=>.ok (jy d fr [])
  |none=>.stuck
 |_=>.stuck
def Il(i:Nat)(a:En->Res R)(env:En):Option (Option Sl)->Res R
 |some (some (.own ds fr))=>(a env).bind (Ik ds fr)
 |_=>v2 yI (ao i) a env
def QC(i:Nat)(a:En->Res R)(env:En):bz i a env=Il i a env env[i]?:=by unfold bz Il;rfl
def MG(a:En->Res R):Il i a env (some (some (.own ds f)))=(a env).bind (Ik ds f):=(rfl)
def MH(a:En->Res R):Il i a env (some (some (.val d f)))=v2 yI (ao i) a env:=(rfl)
def MI:Ik ds f (.val (.int k) g al)=Ct f [] (dk ds k):=by unfold Ik Ct;rfl
def cN{α:Type}(a:α)(l:List α):dk (a::l) 0=some a:=by unfold dk zD;rw[UP (by lia),UP (by simp)];rfl
def UF{α:Type}(a b:α)(l:List α):dk (a::b::l) 1=some b:=by unfold dk zD;rw[UP (by lia),UP (by simp;lia)];rfl
def UG{α:Type}(a b c:α)(l:List α):dk (a::b::c::l) 2=some c:=by unfold dk zD;rw[UP (by lia),UP (by simp;lia)];rfl
def UH{α:Type}(a b c d:α)(l:List α):dk (a::b::c::d::l) 3=some d:=by unfold dk zD;rw[UP (by lia),UP (by simp;lia)];rfl
def QD(fl a:En->Res (Option Int))(env:En)(r:R):Res R:=(fl env).bind λlo=>(a env).bind λb=>uM r lo b
def QE(a:En->Res (Option Int))(env:En)(r:R)(lo:Option Int):Res R:=(a env).bind λb=>uM r lo b
def Im(fa:En->Res R)(fl a:En->Res (Option Int))(env:En):mB fa fl a env=(fa env).bind (QD fl a env):=(rfl)
def MJ(fl a:En->Res (Option Int))(env:En)(r:R):QD fl a env r=(fl env).bind (QE a env r):=(rfl)
def ML(a:En->Res (Option Int))(env:En)(r:R)(lo:Option Int):QE a env r lo=(a env).bind (uM r lo):=(rfl)
def kO(r:R):Res (Option Int):=match r.d with
 |.int i=>.ok (some i)
 |_=>.stuck
def Ip(env:En):z9 env=.ok none:=(rfl)
def Iq(a:En->Res R)(env:En):lW a env=(a env).bind kO:=(rfl)
def To:kO (.val (.int x) f al)=.ok (some x):=(rfl)
def MM(f:Bool)(al:List Nat)(lo a:Option Int):D->Res R
 |.lst xs=>.ok (m6 (dn xs lo a) f al)
 |.tup xs=>.ok (jy (.tup (dn xs lo a)) f al)
 |_=>.stuck
def QF(r:R)(lo a:Option Int):uM r lo a=MM r.fr r.al lo a r.d:=by unfold uM MM;rfl
def MN(lo a:Option Int):MM f al lo a (.lst ds)=.ok (m6 (dn ds lo a) f al):=(rfl)
def QG(T:String)(r:R):Res R:=.ok (.val (.bl (N7 T r.d)) true [])
def QH(T:String)(a:En->Res R)(env:En):Hb T a env=(a env).bind (QG T):=(rfl)
def MO(T:String)(r:R):QG T r=.ok (.val (.bl (N7 T r.d)) true []):=(rfl)
def MP:N7 "int" (.int x)=true:=(rfl)
def MQ:N7 "bool" (.int x)=false:=(rfl)
def QI(asg:D->Bool->En->Option En)(body:En->Res Fl)(env:En)(s:Src):Res Fl:=gy asg s.fr body s.xs (ba env s.al)
def QJ(a:En->Res Src)(asg:D->Bool->En->Option En)(body:En->Res Fl)(env:En):ss a asg body env=(a env).bind (QI asg body env):=(rfl)
def MR(asg:D->Bool->En->Option En)(body:En->Res Fl)(env:En)(xs:List D):QI asg body env ⟨xs,f,al⟩=gy asg f body xs (ba env al):=(rfl)
def MS(r:R):Res Src:=match r.d with
 |.lst ds=>.ok ⟨ds,r.fr,r.al⟩
 |.tup ds=>.ok ⟨ds,r.fr,r.al⟩
 |_=>.stuck
def EZ(a:En->Res R)(env:En):kG a env=(a env).bind MS:=(rfl)
def E1:MS (.val (.lst ds) f al)=.ok ⟨ds,f,al⟩:=(rfl)
def Ir:MS (.new ds f)=.ok ⟨ds,f,[]⟩:=(rfl)
def T6(rs:List R):Res Src:=match rs.map R.d with
 |[.int j]=>if cR j then .ok ⟨dg 0 j.toNat,true,[]⟩else .stuck
 |_=>.stuck
def QK(fs:En->Res (List R))(env:En):Lo fs env=(fs env).bind T6:=(rfl)
def E2(h1:-4611686018427387904<=x)(a:x<4611686018427387904):cR x=true:=by unfold cR;rw[Vi];exact⟨U6 (by lia),U6 (by lia)⟩
def t8(h1:-4611686018427387904<=x)(a:x<4611686018427387904):T6 [.val (.int x) f al]=.ok ⟨dg 0 x.toNat,true,[]⟩:=UP (E2 h1 a)
def Tp(rs:List R):Res Src:=match rs.map R.d with
 |[.int i,.int j]=>if cR i&&cR j then .ok ⟨dg i (j-i).toNat,true,[]⟩else .stuck
 |_=>.stuck
def QL(fs:En->Res (List R))(env:En):SL fs env=(fs env).bind Tp:=(rfl)
def QM(h1:-4611686018427387904<=x)(a:x<4611686018427387904)(b:-4611686018427387904<=y)(c:y<4611686018427387904):Tp [.val (.int x) f al,.val (.int y) g bl]=.ok ⟨dg x (y-x).toNat,true,[]⟩:=by show(if(cR x&&cR y)=true then _ else _)=_;rw[UP (by rw[E2 h1 a,E2 b c];rfl)]
def MT:ba env []=env:=(rfl)
def E3(h:i<env.length):gN i d f env=some (env.set i (some (.val d f))):=UP h
def kZ(n:Nat)(caps:List Nat)(asg:D->Bool->En->Option En)(test:En->Res Bool)(elt:En->Res R)(env:En)(s:Src):Res R:=if s.xs.length<=lim then
 (g9 (λd=>asg d s.fr (g8 env n caps)) test elt s.xs).T9.bind λrs=>.ok (m6 (rs.map R.d) (b5 rs) (s.al++caps.filter (iF env)))else .stuck
def jG(n:Nat)(caps:List Nat)(a:En->Res Src)(asg:D->Bool->En->Option En)(test:En->Res Bool)(elt:En->Res R)(env:En) :
 d_ n caps a asg test elt env=(a env).bind (kZ n caps asg test elt env):=(rfl)
def f_(a:xs.length<=1000000)
 (h:g9 (λd=>asg d f (g8 env n caps)) test elt xs=.ok rs):kZ n caps asg test elt env ⟨xs,f,al⟩=.ok (m6 (rs.map R.d) (b5 rs) (al++caps.filter (iF env))):=by
 unfold kZ;dsimp only;rw[UP (show xs.length<=lim from a),h];rfl
theorem gL{α:Type}{mk:D->Option En}{test:En->Res Bool}{elt:En->Res R}(g:α->D)(k:α->R):∀(xs:List α),(∀a∈xs,∃e,mk (g a)=some e/\test e=.ok true/\elt e=.ok (k a))->g9 mk test elt (xs.map g)=.ok (xs.map k)
 |[],_=>rfl
 |a::r,h=>by obtain⟨e,h1,c,l⟩:=h a (by simp);rw[UR,UR];unfold g9;rw[h1];dsimp only;rw[c];dsimp only[Res.bind];rw[UP rfl,l,gL g k r λb m=>h b (by simp[m])]
theorem db{α:Type}{mk:D->Option En}{test:En->Res Bool}{elt:En->Res R}(g:α->D)(p:α->Bool)(k:α->R):∀(xs:List α),(∀a∈xs,∃e,mk (g a)=some e/\test e=.ok (p a)/\(p a=true->elt e=.ok (k a)))->g9 mk test elt (xs.map g)=.ok ((xs.filter p).map k)
 |[],_=>rfl
 |a::r,h=>by
  obtain⟨e,h1,m,n⟩:=h a (by simp);rw[UR];unfold g9;rw[h1];dsimp only;rw[m];dsimp only[Res.bind];have l:=db g p k r λb o=>h b (by simp[o]);cases c:p a with
  |true=>rw[UP rfl,n c,WZ,UP c,l];rfl
  |false=>rw[UV (by simp),WZ,UV (by rw[c];simp),l]
def E4(i:Nat)(env:En)(ds:List D)(fr:Bool)(r:R):Res Fl:=if ds.length<lim/\¬i∈r.al then .ok (.nx ((ba env r.al).set i (some (.own (ds++[r.d]) (fr&&r.fr)))))else .stuck
def E5(i:Nat)(a:En->Res R)(env:En):Option (Option Sl)->Res Fl
 |some (some (.own ds fr))=>(a env).bind (E4 i env ds fr)
 |some (some (.l7 (.lst ds)))=>(a env).bind (E4 i env ds true)
 |_=>.stuck
def QN(a:En->Res R)(env:En):wy i a env=E5 i a env env[i]?:=by
 unfold wy qV E5;cases env[i]? with
 |none=>rfl
 |some o=>cases o with
  |none=>rfl
  |some s=>cases s with
   |l7 d=>cases d<;>rfl
   |_=>rfl
def MU(a:En->Res R):E5 i a env (some (some (.own ds f)))=(a env).bind (E4 i env ds f):=(rfl)
def u_(h:ds.length<1000000)(a:r.al=[]):E4 i env ds f r=.ok (.nx (env.set i (some (.own (ds++[r.d]) (f&&r.fr))))):=by unfold E4;rw[a];rw[UP ⟨h,by simp⟩];rfl
end
def rD(x:Int):(D.int x).flat=true:=(rfl)
def Iu(x:Bool):(D.bl x).flat=true:=(rfl)
def E6:D.bv.flat=true:=(rfl)
def xk(ds:List D):(D.tup ds).flat=D.be ds:=(rfl)
def nB(ds:List D):(D.lst ds).flat=false:=(rfl)
def t9:D.be []=true:=(rfl)
def jH(d:D)(ds:List D):D.be (d::ds)=(d.flat&&D.be ds):=(rfl)
def p9(x:Int):(D.int x).dep=0:=(rfl)
def p_(ds:List D):(D.tup ds).dep=D.gJ ds+1:=(rfl)
def iJ(ds:List D):(D.lst ds).dep=D.gJ ds+1:=(rfl)
def jl:D.gJ []=0:=(rfl)
def gM(d:D)(ds:List D):D.gJ (d::ds)=max d.dep (D.gJ ds):=(rfl)
def MV(r:R):wD (.ok (.rt r))=.ok r:=(rfl)
def MW(e:En):wD (.ok (.nx e))=.ok (.val .bv true []):=(rfl)
def ga(d:D)(f:Bool)(al:List Nat):(R.val d f al).d=d:=(rfl)
def iL(ds:List D)(f:Bool):(R.new ds f).d=.lst ds:=(rfl)
def Iv(d:D):(R.jm d).d=d:=(rfl)
def E7(d:D)(f:Bool)(al:List Nat):(R.val d f al).fr=f:=(rfl)
def E8(ds:List D)(f:Bool):(R.new ds f).fr=f:=(rfl)
def E9(d:D):(R.jm d).fr=true:=(rfl)
def E_(d:D)(f:Bool)(al:List Nat):(R.val d f al).al=al:=(rfl)
def Fa(ds:List D)(f:Bool):(R.new ds f).al=[]:=(rfl)
def Fb(d:D):(R.jm d).al=[]:=(rfl)
def zg{α b:Type}(a:α)(k:α->Res b):(Res.ok a).bind k=k a:=(rfl)
def QO(asg:D->Bool->En->Option En)(fr:Bool)(body:En->Res Fl)(xs:List D):Fl->Res Fl
 |.nx e=>gy asg fr body xs e
 |.ct e=>gy asg fr body xs e
 |.bk e=>.ok (.nx e)
 |.rt r=>.ok (.rt r)
 |.rm r e=>.ok (.rm r e)
def MX(h:asg x fr env=some env1):gy asg fr body (x::xs) env=(body env1).bind (QO asg fr body xs):=by unfold gy;rw[h];rfl
def QP:D->Res R
 |.lst ds=>match g_ ds with
  |some bs=>.ok (.val (.bl (bs.all id)) true [])
  |none=>.stuck
 |_=>.stuck
def QQ(r:R):Hd [r]=QP r.d:=by rcases r with⟨d,f,al⟩|⟨ds,f⟩|⟨d⟩<;>first|rfl|(cases d<;>rfl)
def B_{α:Type}(xs:List α):QP (.lst (xs.map λ_=>D.bl true))=.ok (.val (.bl true) true []):=by
 have:∀xs:List α,g_ (xs.map λ_=>D.bl true)=some (xs.map λ_=>true):=by
  intro xs;induction xs with
  |nil=>rfl
  |cons a r b=>rw[UR];unfold g_;rw[b];rfl
 show(match g_ (xs.map λ_=>D.bl true)with|some bs=>Res.ok (R.val (D.bl (bs.all id)) true [])|none=>Res.stuck)=_;rw[this];dsimp only;congr 3;rw[VJ];intro x c;obtain⟨_,_,rfl⟩:=UY.mp c;rfl
def Tq:D->Res R
 |.int i=>.ok (.val (.int (-i)) true [])
 |_=>.stuck
def QR(r:R):Res R:=Tq r.d
def QS(fa:En->Res R)(env:En):By fa env=(fa env).bind QR:=by unfold By;congr 1
def MY:QR (.val (.int x) f al)=.ok (.val (.int (-x)) true []):=(rfl)
def Fc(asg:D->Bool->En->Option En)(env:En)(r:R):Res Fl:=match asg r.d r.fr (ba env r.al)with
 |some a=>.ok (.nx a)
 |none=>.stuck
def QT(f:En->Res R)(asg:D->Bool->En->Option En)(env:En):ou f asg env=(f env).bind (Fc asg env):=(rfl)
def Fd(h:asg r.d r.fr (ba env r.al)=some bS):Fc asg env r=.ok (.nx bS):=by unfold Fc;rw[h]
def vc{α:Type}(l:List α)(a:α):dk (l++[a]) (-1)=some a:=by
 unfold dk zD;rw[UV (by lia),UP (by simp;lia)];have:((-1:Int)+((l++[a]).length:Nat)).toNat=l.length:=by simp;lia
 show(l++[a])[((-1:Int)+((l++[a]).length:Nat)).toNat]?=some a;rw[this];simp
def JJ(r:R):Res Bool:=.ok (!r.d.fJ)
def QU(r:R):Res Bool:=.ok r.d.fJ
def Iw(a:En->Res R)(env:En):DW a env=(a env).bind JJ:=(rfl)
def MZ(a:En->Res R)(env:En):Bz a env=(a env).bind QU:=(rfl)
def Iy(r:R):JJ r=.ok (!r.d.fJ):=(rfl)
def M7(r:R):QU r=.ok r.d.fJ:=(rfl)
def Iz:D.bv.fJ=true:=(rfl)
def IA(x:Int):(D.int x).fJ=false:=(rfl)
def IB(x:List D):(D.tup x).fJ=false:=(rfl)
def Ca(neg:Bool)(a b:D):Res R:=match b with
 |.dZ ks _=>D0 neg a ks
 |.lst ds=>N8 neg a ds
 |.tup ds=>N8 neg a ds
 |_=>.stuck
def QV(neg:Bool)(a b:R):D7 neg a b=Ca neg a.d b.d:=by unfold D7 BA Ca;cases b.d<;>rfl
def Tr(a b:R):D8 a b=Ca false a.d b.d:=QV false a b
def QW(h:D.gJ ds<=50)(b:a.dep<=50):Ca neg a (.lst ds)=.ok (.val (.bl (if neg then !(ds.any λe=>gw e a)else ds.any λe=>gw e a)) true []):=UP ⟨h,b⟩
def k7(ks:List DK)(ds:List D):(D.dZ ks ds).flat=false:=(rfl)
def putAt(i:Nat)(fk a:En->Res R)(env:En):Option (Option Sl)->Res Fl
 |some (some (.l7 (.dZ ks ds)))=>(a env).bind (Ac i fk env ks ds)
 |_=>.stuck
def M8(i:Nat)(fk a:En->Res R)(env:En):wH i fk a env=putAt i fk a env env[i]?:=by unfold wH putAt;rfl
def Aw(h:r.d.flat=true):Ac i fk env ks ds r=(fk env).bind (wG i env ks ds r.d):=UP h
def IC(h:hI k.d=some x)(a:ks.all (mD x)=true)(b:ks.length<1000000):wG i env ks ds d k=.ok (.nx (env.set i (some (.l7 (kN ks ds x d))))):=by unfold wG;rw[h];exact UP ⟨a,b⟩
def Cb(h:d.flat=false):je rs (.jm d)=.jm d:=by show F0 d true rs=_;unfold F0;rw[UV (by rw[h];simp),UP rfl]
def zh(fa fk fx:En->Res R)(env:En):wI fa fk fx env=(fa env).bind (O6 fk fx env):=(rfl)
def QX(h:ra.d=.dZ ks ds):O6 fk fx env ra=(fk env).bind (SM fx env ra ks ds):=by unfold O6;rw[h]
def JK(fx:En->Res R)(env:En)(ra:R)(ks:List DK)(ds:List D)(rk:R):SM fx env ra ks ds rk=(fx env).bind (O5 ra ks ds rk):=(rfl)
def QY(h:0<=y):LB (.val (.int x) f al) (.val (.int y) g bl)=.ok (.val (.int (x/2^y.toNat)) true []):=by show(if decide (0<=y)=true then _ else _)=_;rw[UP (U6 h)]
def M9:Eb (.val (.int x) f al) (.val (.int y) g bl)=.ok (.val (.int (Builtin.bitAnd x y)) true []):=(rfl)
def Ts(f:En->Res R)(env:En):SN f env=(f env).bind Jt:=(rfl)
theorem oQ:∀k:List Int,hJ (k.map .int)=some k
 |[]=>rfl
 |a::r=>by rw[UR];unfold hJ;rw[oQ r];rfl
theorem lD:∀ks:List (List Int),eB (ks.map jf)=some ks
 |[]=>rfl
 |k::r=>by rw[UR];unfold eB;rw[lD r,show Hm (jf k)=some k from oQ k]
def QZ(f:En->Res R)(env:En):LD f env=(f env).bind Em:=(rfl)
def M_(a:r.d=.lst (is.map .int))(h:is.length<=63):Em r=.ok (.new ((jh is).map .int) true):=by unfold Em;rw[a];dsimp only;rw[oQ];dsimp only;rw[UP h]
def JL(i:Nat)(env:En)(r:R):Res Fl:=if i<env.length then .ok (.nx ((ba env r.al).set i (some (.val r.d r.fr))))else .stuck
def Na(i:Nat)(a:En->Res R)(env:En):j5 i a env=(a env).bind (JL i env):=(rfl)
def ID(h:i<env.length):JL i env r=.ok (.nx ((ba env r.al).set i (some (.val r.d r.fr)))):=UP h
def Fe(a:0<=j)(h1:j<=1000):pY [.val (.int j) f al]=.ok (.new (dg 0 j.toNat) true):=UP ⟨a,h1⟩
def Q0(a b:En->Res R)(env:En)(c:R):Res R:=(a env).bind λd=>(b env).bind λe=>yP c d e
def Q1(a:En->Res R)(env:En)(b c:R):Res R:=(a env).bind (yP b c)
def Tt(a b c:En->Res R)(env:En):SO a b c env=(a env).bind (Q0 b c env):=(rfl)
def Nb(a b:En->Res R)(env:En)(c:R):Q0 a b env c=(a env).bind (Q1 b env c):=(rfl)
def Nc(a:En->Res R)(env:En)(b c:R):Q1 a env b c=(a env).bind (yP b c):=(rfl)
def Nd{a b:List D}{g1 g2:Bool}(c:r0.d.flat=true)(h1:D.be a=true)(e:D.be b=true):yP r0 (.new a g1) (.new b g2)=.ok (.jm (.tup [r0.d,.lst a,.lst b])):=UP ⟨c,h1,e⟩
def Ff(f:En->Res R)(asg:D->Bool->En->Option En)(a:En->Res Fl)(env:En):Ei f asg a env=(f env).bind (Ae asg a env):=(rfl)
def Fg(e:En):kT (.ok (.nx e))=.ok (.nx e):=(rfl)
def Nf(h:ra.d=.dZ ks ds)(a:hI rk.d=some x)(ha:ks.all (mD x)=true)(b:getD ks ds x=some d):tU ra rk=.ok (jy d ra.fr ra.al):=by unfold tU;rw[h];dsimp only;rw[a];dsimp only;rw[UP ha,b]
end L3
local macro_rules|`(tactic| simp_arith[$as,*] $[$l:location]?)=>do
 let ls←("L3.iB L3.mw L3.QZ L3.Qx L3.MB L3.MC L3.Na L3.ID L3.Tt L3.Nb L3.Nc L3.Ff decide_true decide_false List.map_cons List.map_nil List.length_cons List.length_nil List.replicate List.cons_append List.nil_append List.append_nil Nat.reduceAdd Nat.max_self Nat.zero_max Nat.max_zero Nat.zero_add Nat.reduceSub L3.PZ L3.Qb L3.Te L3.Qg L3.Qc L3.Qd L3.Qe L3.Qf L3.ze L3.i9 L3.rD L3.Iu L3.E6 L3.xk L3.nB L3.t9 L3.jH L3.p9 L3.p_ L3.iJ L3.jl L3.gM L3.UE L3.zg List.getElem?_cons_zero List.getElem?_cons_succ L3.Qj L3.Qk L3.Qh L3.Qi L3.Me Int.reduceLT Int.reduceLE Int.reduceNeg L3.L9 L3.L_ L3.Mb L3.Md L3.S_ L3.Ta List.set_cons_zero List.set_cons_succ Nat.reduceLT Nat.reduceLeDiff L3.Td L3.P3 L3.P7 L3.P8 L3.P_ L3.L8 L3.Tf L3.Tg L3.Th L3.Ti L3.Ql L3.H_ L3.Ia L3.Mi L3.Ib L3.Ic L3.ER L3.Qn L3.Mj L3.Qp L3.Ml L3.ES L3.B8 L3.ET L3.B9 L3.Mm L3.Ie L3.EV L3.EW L3.xj L3.EX L3.t7 L3.Tj L3.Qq L3.Mo L3.Mp L3.Ig L3.Ih L3.Tl L3.Tn L3.Mq L3.Mr L3.Ms L3.Ii L3.Mw L3.Qs L3.Mx L3.My L3.Qu L3.Qw L3.Mz L3.Ij L3.ME L3.MF L3.Qy L3.Qz L3.QA L3.QB L3.QC L3.MG L3.MH L3.MI L3.cN L3.UF L3.UG L3.UH L3.Im L3.MJ L3.ML L3.Ip L3.Iq L3.To L3.QF L3.MN L3.QH L3.MO L3.MP L3.MQ L3.QJ L3.MR L3.EZ L3.E1 L3.Ir L3.QK L3.QL L3.MT L3.Iw L3.MZ L3.Iy L3.M7 L3.Iz L3.IA L3.IB L3.QS L3.MY L3.QT Int.reduceBEq L3.QQ Bool.not_not Nat.reduceEqDiff L3.jG L3.QN L3.MU L3.ga L3.iL L3.Iv L3.E7 L3.E8 L3.E9 L3.E_ L3.Fa L3.Fb Bool.and_true Bool.true_and Bool.and_false Bool.false_and Bool.and_self Bool.not_true Bool.not_false L3.MV L3.MW L3.h_ L3.HZ L3.Tr L3.k7 L3.M8 L3.QY L3.M9 L3.Ts L3.zh L3.JK L3.Cb".splitOn " ").toArray.mapM λs=>`(Lean.Parser.Tactic.simpLemma| $(Lean.mkIdent s.toName):ident)
 `(tactic| simp only[$[$ls:simpLemma],*,$as,*] $[$l]?)
local macro_rules|`(tactic| simp_arith $[$l:location]?)=>`(tactic| simp_arith[L3.zg] $[$l]?)
namespace L3
open PySem L2
def rE{α b:Type}(g:α->b)(xs:List α)(lo a:Option Int):dn (xs.map g) lo a=(dn xs lo a).map g:=by unfold dn;rw[UO,List.map_take,List.map_drop]
def Fh{α:Type}(xs:List α)(lo a:Option Int):(dn xs lo a).length<=xs.length:=by unfold dn;rw[Wv,Xj];lia
def Fi{α:Type}(xs:List α)(lo b:Option Int):∀a∈dn xs lo b,a∈xs:=by unfold dn;intro a h;exact XX (Wh h)
def Fj{α:Type}(xs:List α):dn xs (some 1) none=xs.tail:=by
 unfold dn;have h1:HT.sIx xs.length 0 (some 1)=min 1 xs.length:=HT.sIx_nat xs.length 0 1;have b:HT.sIx xs.length xs.length none=xs.length:=rfl;rw[h1,b];cases xs with
 |nil=>rfl
 |cons a r=>
  have:min 1 (a::r).length=1:=by simp
  rw[this];simp
def Fk:(∀d∈ds,d.flat=true)->D.be ds=true:=by
 induction ds with
 |nil=>intro _;rfl
 |cons d r a=>intro h;rw[jH,h d (by simp),a λx b=>h x (by simp[b])];rfl
def bj{α:Type}(g:α->D)(xs:List α)(h:∀a,(g a).flat=true):D.be (xs.map g)=true:=Fk λd hd=>by obtain⟨a,_,rfl⟩:=UY.mp hd;exact h a
def bJ(xs:List Int):D.be (xs.map D.int)=true:=bj _ _ rD
def fV(h:d.flat=false):D.be (d::ds)=false:=by rw[jH,h];rfl
def IE:(∀d∈ds,d.dep<=n)->D.gJ ds<=n:=by
 induction ds with
 |nil=>intro _;rw[jl];lia
 |cons d r a=>intro h;have h1:=h d (by simp);have c:=a λx b=>h x (by simp[b]);rw[gM];lia
def nC{α:Type}{g:α->D}{xs:List α}{n:Nat}(h:∀a,(g a).dep<=n):D.gJ (xs.map g)<=n:=IE λd hd=>by obtain⟨a,_,rfl⟩:=UY.mp hd;exact h a
def gO(xs:List Int):D.gJ (xs.map D.int)<=0:=nC λ_=>UN 0
def dz{α:Type}(g:α->D)(xs:List α):b5 (xs.map λa=>.val (g a) true [])=true:=by unfold b5;rw[VJ];intro r h;obtain⟨a,_,rfl⟩:=UY.mp h;rfl
def lY{α:Type}(g:α->D)(fr:Bool)(al:List Nat)(xs:List α):(xs.map λa=>R.val (g a) fr al).map R.d=xs.map g:=by rw[Vb];rfl
def lE(n:Nat):dg 0 n=(List.range n).map λk=>.int (k:Nat):=by unfold dg;congr 1;funext k;simp
theorem jI{α:Type}(g:α->D){asg:D->Bool->En->Option En}{fr:Bool}{body:En->Res Fl}(all:List α)(P:List α->En->Prop):∀(xs pre:List α)(env:En),all=pre++xs->P pre env->
 (∀(pre c:List α)(a:α)(env:En),all=pre++a::c->P pre env->∃env1 b,asg (g a) fr env=some env1/\body env1=.ok (.nx b)/\P (pre++[a]) b)->
 ∃d,gy asg fr body (xs.map g) env=.ok (.nx d)/\P all d
 |[],pre,env,e,h,_=>⟨env,rfl,by rw[e,W5];exact h⟩
 |a::r,pre,env,e,h,st=>by obtain⟨env1,b,h1,f,i⟩:=st pre r a env e h;obtain⟨d,e1,e2⟩:=jI g all P r (pre++[a]) b (by rw[e];simp) i st;refine⟨d,?_,e2⟩;rw[UR];unfold gy;rw[h1];dsimp only;rw[f];exact e1
def nE(f:D->Bool->En->Option En)(fs:List D->Bool->En->Option En)(d:D)(ds:List D)(fr:Bool)(env:En):aL f fs (d::ds) fr env=(f d fr env).bind λe=>fs ds fr e:=(rfl)
def IF(d:i<env.length)(e:j<env.length)(f:k<env.length):Fc (gT 3 (aL (gN i) (aL (gN j) (aL (gN k) cr)))) env (.jm (.tup [a,b,c]))=.ok (.nx (((env.set i (some (.val a true))).set j (some (.val b true))).set k (some (.val c true)))):=by refine Fd ?_;show(aL (gN i) (aL (gN j) (aL (gN k) cr))) [a,b,c] true env=_;rw[nE,E3 d];show(aL (gN j) (aL (gN k) cr)) [b,c] true _=_;rw[nE,E3 (by rw[WG];exact e)];show(aL (gN k) cr) [c] true _=_;rw[nE,E3 (by rw[WG,WG];exact f)];rfl
def nF{α a:Type}(g:α->a)(xs:List α)(k:Int):dk (xs.map g) k=(dk xs k).map g:=by
 unfold dk;rw[UO];cases zD xs.length k with
 |none=>rfl
 |some j=>simp
def rF{α:Type}{xs:List α}{k:Int}(b:0<=k)(h:k<xs.length):∃a,dk xs k=some a/\xs[k.toNat]?=some a:=by
 unfold dk zD;rw[UP b,UP h];have:k.toNat<xs.length:=by lia
 exact⟨xs[k.toNat],by simp[this],by simp[this]⟩
structure Rl where
 room:Int
 sign:Int
 to:Int
 put:List Int
def Rl.d(r:Rl):D:=.tup [.int r.room,.int r.sign,.int r.to,.tup (r.put.map .int)]
end L3
namespace W
open PySem PySem.Spec PyProof.Rows L2 L3 L4
def top(i:Nat):Stmt:=PySem.Challenge.pw_callwalk_k26_no_run_is_shorter.main.body.getD i (.Pass ⟨0,0,0,0⟩)
abbrev ic:Stmt:=top 19
noncomputable abbrev N__law_seed_at:List Str:=["_law_script","_law_k","_law_cell"]
abbrev eM:List Str:=N__law_seed_at.take 2
def sc__law_seed_at:aR N__law_seed_at eM (ay ic):=b6
def ie:En->Res Fl:=
 (bn (cT 2 (vC (.int 0)))
 (bn (xW (vB (v2 RX (ao 1) (lu ot (ah (ao 0) aN)))) (cT 2 (bz 0 (ao 1))) lK)
 (fU (v2 cS (v2 qT (v2 qT (v2 dM (v2 cS (ao 2) (vC (.int 2147483647))) (vC (.int 11))) (vC (.int 48271))) (vC (.int 69621))) (vC (.int 2147483629))))))
def bD:List D->Res R:=iB N__law_seed_at ie
abbrev gn:Stmt:=top 22
noncomputable abbrev N__law_arrow_by:List Str:=["_law_cell","_law_rooms","_law_own","_law_signs","_law_number","_law_state","_law_sign"]
abbrev dD:List Str:=N__law_arrow_by.take 4
def sc__law_arrow_by:aR N__law_arrow_by dD (ay gn):=b6
def j7:En->Res Fl:=
 (bn (cT 4 (v2 cS (v2 qT (ao 0) (vC (.int 69621))) (vC (.int 2147483629))))
 (bn (ou (lu eF (ah (ao 4) (ah (vC (.int 60)) aN))) (gT 2 (aL (gN 4) (aL (gN 5) cr))))
 (bn (ou (lu eF (ah (ao 4) (ah (vC (.int 60)) aN))) (gT 2 (aL (gN 4) (aL (gN 6) cr))))
 (fU (d6 (ah (v2 cS (ao 5) (v2 dM (ao 1) (ao 2))) (ah (v2 cS (ao 6) (ao 3)) (ah (v2 dM (ao 1) (v2 cS (ao 4) (ao 2))) aN))))))))
def dE:List D->Res R:=iB N__law_arrow_by j7
abbrev bR:Stmt:=top 25
noncomputable abbrev N__law_machine_by:List Str:=["_law_cell","_law_cells","_law_rooms","_law_own","_law_signs","_law_form","_law_head","_law_arrows","_law_ends"]
abbrev cM:List Str:=N__law_machine_by.take 5
def sc__law_machine_by:aR N__law_machine_by cM (ay bR):=b6
def j9:((["_law_sign"]:List Str)++(["_law_rooms"]:List Str)).Nodup:=by decide +kernel
def j_:((["_law_one"]:List Str)++(["_law_rooms","_law_own","_law_signs"]:List Str)).Nodup:=by decide +kernel
def kc:((["_law_state"]:List Str)++(["_law_cell"]:List Str)).Nodup:=by decide +kernel
def bU:En->Res R:=λenv=>(d6 (ah (ao 1) (ah (ao 0) (ah (ao 1) aN)))) env
def bF:En->Res R:=λenv=>(cb dE (ah (ao 0) (ah (ao 1) (ah (ao 2) (ah (ao 3) aN))))) env
def bV:En->Res Bool:=λenv=>(vB (v2 tM (v2 Eb (v2 LB (v2 cS (v2 lJ (ao 1) (vC (.int 10))) (vC (.int 32))) (ao 0)) (vC (.int 1))) (vC (.int 1)))) env
def bW:En->Res R:=λenv=>(ao 0) env
def cf:En->Res Fl:=
 (bn (cT 5 (v2 cS (v2 lJ (ao 0) (vC (.int 320))) (vC (.int 4))))
 (bn (xW (vB (v2 tM (ao 5) (vC (.int 2)))) (bn (cT 6 (d6 (ah (v2 cS (v2 lJ (ao 0) (vC (.int 1280))) (ao 2)) (ah (v2 cS (v2 lJ (ao 0) (vC (.int 7680))) (ao 4)) (ah (ao 2) aN)))))
 (fU (d6 (ah (v2 dM (ao 2) (vC (.int 1))) (ah (lu Hv (ah (v2 dM (g6 (ah (ao 6) aN)) (d_ 1 [2] (Lo (ah (ao 4) aN)) (gN 0) (λ_=>.ok true) bU)) aN)) (ah (g6 (ah (ao 2) aN)) aN)))))) lK)
 (bn (xW (vB (v2 tM (ao 5) (vC (.int 3)))) (fU (d6 (ah (ao 2) (ah (g6 aN) (ah (lu pY (ah (ao 2) aN)) aN))))) lK)
 (bn (cT 7 (d_ 1 [2,3,4] (kG (ao 1)) (gN 0) (λ_=>.ok true) bF))
 (bn (cT 8 (d_ 1 [0] (Lo (ah (v2 dM (ao 2) (ao 3)) aN)) (gN 0) bV bW))
 (fU (d6 (ah (v2 dM (ao 2) (ao 3)) (ah (SN (ao 7)) (ah (ao 8) aN))))))))))
def bE:List D->Res R:=iB N__law_machine_by cf
abbrev ii:Stmt:=top 21
noncomputable abbrev N__law_rule_by:List Str:=["_law_cell","_law_rooms","_law_signs","_law_number","_law_kind","_law_room","_law_sign","_law_to","_law_one","_law_put"]
abbrev eU:List Str:=N__law_rule_by.take 3
def sc__law_rule_by:aR N__law_rule_by eU (ay ii):=b6
def k9:En->Res Fl:=
 (bn (cT 3 (v2 cS (v2 qT (ao 0) (vC (.int 48271))) (vC (.int 2147483647))))
 (bn (ou (lu eF (ah (ao 3) (ah (vC (.int 3)) aN))) (gT 2 (aL (gN 3) (aL (gN 4) cr))))
 (bn (ou (lu eF (ah (ao 3) (ah (vC (.int 6)) aN))) (gT 2 (aL (gN 3) (aL (gN 5) cr))))
 (bn (ou (lu eF (ah (ao 3) (ah (vC (.int 60)) aN))) (gT 2 (aL (gN 3) (aL (gN 6) cr))))
 (bn (ou (lu eF (ah (ao 3) (ah (vC (.int 6)) aN))) (gT 2 (aL (gN 3) (aL (gN 7) cr))))
 (bn (ou (lu eF (ah (ao 3) (ah (vC (.int 60)) aN))) (gT 2 (aL (gN 3) (aL (gN 8) cr))))
 (bn (cT 9 (g6 (ah (v2 cS (ao 8) (ao 2)) (ah (v2 cS (ao 3) (ao 2)) aN))))
 (fU (d6 (ah (v2 cS (ao 5) (ao 1)) (ah (v2 cS (ao 6) (ao 2)) (ah (v2 cS (ao 7) (ao 1)) (ah (lu uN (ah (mB (ao 9) z9 (lW (ao 4))) aN)) aN)))))))))))))
def eV:List D->Res R:=iB N__law_rule_by k9
abbrev eY:Stmt:=top 26
noncomputable abbrev ij:List Str:=["_law_script","_law_shape","_law_seed","_law_rooms","_law_signs","_law_own","_law_many","_law_start","_law_machine","_law_rules"]
abbrev eZ:List Str:=["_law_script"]
def sc__law_made_by:aR ij eZ (ay eY):=b6
def mJ:((["_law_cell"]:List Str)++(["_law_rooms","_law_signs"]:List Str)).Nodup:=by decide +kernel
def bZ:En->Res R:=λenv=>(cb eV (ah (ao 0) (ah (ao 1) (ah (ao 2) aN)))) env
def k_:En->Res Fl:=
 (bn (j5 1 (cb bD (ah (ao 0) (ah (vC (.int 0)) aN))))
 (bn (j5 2 (cb bD (ah (ao 0) (ah (vC (.int 1)) aN))))
 (bn (cT 3 (v2 dM (vC (.int 1)) (v2 cS (ao 1) (vC (.int 3)))))
 (bn (cT 4 (v2 dM (vC (.int 1)) (v2 cS (v2 lJ (ao 1) (vC (.int 3))) (vC (.int 5)))))
 (bn (cT 5 (v2 cS (v2 lJ (ao 1) (vC (.int 15))) (vC (.int 3))))
 (bn (cT 6 (v2 qT (v2 cS (ao 2) (vC (.int 10))) (lu He (ah (v2 N4 (ao 5) (vC (.int 0))) aN))))
 (bn (cT 7 (v2 dM (v2 dM (vC (.int 4)) (ao 6)) (v2 cS (cb bD (ah (ao 0) (ah (vC (.int 3)) aN))) (vC (.int 31)))))
 (bn (j5 8 (cb bE (ah (ao 2) (ah (mB (ao 0) (lW (vC (.int 4))) (lW (v2 dM (vC (.int 4)) (ao 6)))) (ah (ao 3) (ah (ao 5) (ah (ao 4) aN)))))))
 (bn (cT 9 (d_ 1 [3,4] (kG (mB (ao 0) (lW (v2 dM (vC (.int 4)) (ao 6))) (lW (ao 7)))) (gN 0) (λ_=>.ok true) bZ))
 (fU (d6 (ah (d6 (ah (ao 3) (ah (ao 4) (ah (ao 9) aN)))) (ah (ao 8) (ah (mB (ao 0) (lW (ao 7)) (lW (v2 dM (ao 7) (vC (.int 40))))) aN))))))))))))))
def e_:List D->Res R:=iB ij k_
abbrev jJ:Stmt:=top 29
noncomputable abbrev N__law_run:List Str:=["_law_house","_law_standing","_law_cells","_law_run_here","_law_cell","_law_room","_law_stack","_law_fits","_law_rule"]
abbrev jK:List Str:=N__law_run.take 3
def sc__law_run:aR N__law_run jK (ay jJ):=b6
def rG:((["_law_rule"]:List Str)++(["_law_room","_law_stack"]:List Str)).Nodup:=by decide +kernel
def cv:En->Res Bool:=λenv=>(Bm (vB (v2 Cs (ao 2) (g6 aN))) (vB (v2 tM (d6 (ah (bz 0 (vC (.int 0))) (ah (bz 0 (vC (.int 1))) aN))) (d6 (ah (ao 1) (ah (bz 2 (vC (.int 0))) aN)))))) env
def fg:En->Res R:=λenv=>(ao 0) env
def gA:En->Res Fl:=λenv=>
 (bn (ou (bz 3 (By (vC (.int 1)))) (gT 2 (aL (gN 5) (aL (gN 6) cr))))
 (bn (cT 7 (d_ 1 [5,6] (kG (bz 0 (vC (.int 2)))) (gN 0) cv fg))
 (bn (xW (vB (v2 tM (ao 7) (g6 aN))) (λenv=>.ok (.bk env)) lK)
 (bn (cT 8 (bz 7 (v2 cS (ao 4) (lu ot (ah (ao 7) aN)))))
 (wy 3 (d6 (ah (bz 8 (vC (.int 2))) (ah (v2 dM (lu lV (ah (bz 8 (vC (.int 3))) aN)) (mB (ao 6) (lW (vC (.int 1))) z9)) aN)))))))) env
def rH:En->Res Fl:=
 (bn (cT 3 (g6 (ah (ao 1) aN)))
 (bn (ss (kG (ao 2)) (gN 4) gA)
 (fU (ao 3))))
def io:List D->Res R:=iB N__law_run rH
abbrev gp:Stmt:=top 23
noncomputable abbrev N__law_stack_by:List Str:=["_law_cell","_law_size","_law_signs","_law_found","_law_number","_law_k","_law_sign"]
abbrev dF:List Str:=N__law_stack_by.take 3
def sc__law_stack_by:aR N__law_stack_by dF (ay gp):=b6
def fj:En->Res Fl:=λenv=>
 (bn (ou (lu eF (ah (ao 4) (ah (ao 2) aN))) (gT 2 (aL (gN 4) (aL (gN 6) cr))))
 (wy 3 (v2 cS (v2 dM (ao 6) (v2 qT (v2 qT (ao 5) (ao 5)) (v2 lJ (ao 1) (vC (.int 30))))) (ao 2)))) env
def j8:En->Res Fl:=
 (bn (cT 3 (g6 aN))
 (bn (cT 4 (v2 qT (v2 cS (ao 0) (v2 Ek (vC (.int 10)) (vC (.int 20)))) (v2 Ek (vC (.int 1000003)) (vC (.int 4)))))
 (bn (ss (Lo (ah (ao 1) aN)) (gN 5) fj)
 (fU (ao 3)))))
def dG:List D->Res R:=iB N__law_stack_by j8
abbrev dN:Stmt:=top 24
noncomputable abbrev N__law_standing_by:List Str:=["_law_cell","_law_rooms","_law_signs","_law_size"]
abbrev cw:List Str:=N__law_standing_by.take 3
def sc__law_standing_by:aR N__law_standing_by cw (ay dN):=b6
def dP:En->Res Fl:=
 (bn (cT 3 (v2 cS (v2 lJ (ao 0) (vC (.int 6))) (vC (.int 6))))
 (bn (xW (vB (v2 tM (v2 cS (v2 lJ (ao 0) (vC (.int 36))) (vC (.int 8))) (vC (.int 5)))) (cT 3 (v2 dM (vC (.int 30)) (v2 cS (v2 lJ (ao 0) (vC (.int 288))) (vC (.int 26))))) lK)
 (fU (d6 (ah (v2 cS (v2 cS (ao 0) (vC (.int 6))) (ao 1)) (ah (cb dG (ah (v2 lJ (ao 0) (vC (.int 288))) (ah (ao 3) (ah (ao 2) aN)))) aN))))))
def b7:List D->Res R:=iB N__law_standing_by dP
abbrev iN:Stmt:=top 30
noncomputable abbrev N__law_only:List Str:=["_law_house","_law_standing","_law_rooms","_law_room","_law_stack","_law_arrows","_law_k"]
abbrev iO:List Str:=N__law_only.take 2
def sc__law_only:aR N__law_only iO (ay iN):=b6
def pI:((["_law_sign"]:List Str)++(["_law_rooms"]:List Str)).Nodup:=by decide +kernel
def dC:En->Res R:=λenv=>(d6 (ah (ao 1) (ah (ao 0) (ah (ao 1) aN)))) env
def cG:En->Res Fl:=λenv=>(wy 5 (d6 (ah (v2 DF (v2 dM (ao 2) (ao 6)) (vC (.int 1))) (ah (bz 4 (ao 6)) (ah (v2 dM (ao 2) (ao 6)) aN))))) env
def iP:En->Res Fl:=
 (bn (cT 2 (bz 0 (vC (.int 0))))
 (bn (ou (ao 1) (gT 2 (aL (gN 3) (aL (gN 4) cr))))
 (bn (xW (vB (v2 tM (ao 4) (g6 aN))) (fU (d6 (ah (ao 2) (ah (g6 aN) (ah (g6 (ah (ao 3) aN)) aN))))) lK)
 (bn (cT 5 (g6 (ah (d6 (ah (ao 3) (ah (bz 4 (vC (.int 0))) (ah (ao 2) aN)))) aN)))
 (bn (xW (vB (v2 N4 (lu ot (ah (ao 4) aN)) (vC (.int 3)))) (fU (d6 (ah (v2 dM (ao 2) (vC (.int 1))) (ah (lu Hv (ah (v2 dM (ao 5) (d_ 1 [2] (Lo (ah (bz 0 (vC (.int 1))) aN)) (gN 0) (λ_=>.ok true) dC)) aN)) (ah (g6 (ah (ao 2) aN)) aN))))) lK)
 (bn (ss (SL (ah (vC (.int 1)) (ah (lu ot (ah (ao 4) aN)) aN))) (gN 6) cG)
 (fU (d6 (ah (v2 dM (ao 2) (lu ot (ah (ao 4) aN))) (ah (lu Hv (ah (ao 5) aN)) (ah (g6 (ah (v2 DF (v2 dM (ao 2) (lu ot (ah (ao 4) aN))) (vC (.int 1))) aN)) aN)))))))))))
def cW:List D->Res R:=iB N__law_only iP
abbrev lb:Stmt:=top 27
noncomputable abbrev N__law_copy:List Str:=["_law_house","_law_machine"]
abbrev iQ:List Str:=N__law_copy.take 2
def ve:aR N__law_copy iQ (ay lb):=b6
def pC:En->Res Fl:=(fU (g6 (ah (d6 (ah (bz 0 (vC (.int 0))) (ah (bz 0 (vC (.int 1))) (ah (lu lV (ah (bz 0 (vC (.int 2))) aN)) aN)))) (ah (SO (bz 1 (vC (.int 0))) (lu lV (ah (bz 1 (vC (.int 1))) aN)) (lu lV (ah (bz 1 (vC (.int 2))) aN))) aN))))
def iS:List D->Res R:=iB N__law_copy pC
abbrev gB:Stmt:=top 16
abbrev jL:List Str:=["machine","sums"]
abbrev gC:List Str:=["machine","sums"]
def sD:aR jL gC (ay gB):=b6
def oR:((["end"]:List Str)++(["sums"]:List Str)).Nodup:=by decide +kernel
def cX:En->Res Bool:=λenv=>(vB (v2 D8 (ao 0) (ao 1))) env
def cY:En->Res R:=λenv=>(d6 (ah (v2 yI (v2 tU (ao 1) (ao 0)) (vC (.int 0))) (ah (ao 0) aN))) env
def jM:En->Res Fl:=(fU (EO (d_ 1 [1] (kG (bz 0 (vC (.int 2)))) (gN 0) cX cY)))
def fq:List D->Res R:=iB jL jM
abbrev i_:Stmt:=top 13
noncomputable abbrev sF:List Str:=["told","leading","arrow","price"]
abbrev gb:List Str:=["told"]
def sc_priced_from:aR sF gb (ay i_):=b6
def ja:List D->Res R:=L4.PN L4.HQ L4.HR
abbrev jN:Stmt:=top 14
noncomputable abbrev N_sums_ahead:List Str:=["leading","sums","sign","ahead","state","reached","arrow","price","known"]
abbrev gD:List Str:=N_sums_ahead.take 3
def sc_sums_ahead:aR N_sums_ahead gD (ay jN):=b6
def cp:En->Res Fl:=λenv=>
 (bn (cT 8 (Au (ao 3) (bz 6 (vC (.int 2)))))
 (xW (N5 (Bz (ao 8)) (vB (v2 RX (v2 dM (bz 5 (vC (.int 0))) (ao 7)) (bz 8 (vC (.int 0)))))) (wH 3 (bz 6 (vC (.int 2))) (d6 (ah (v2 dM (bz 5 (vC (.int 0))) (ao 7)) (ah (ao 6) aN)))) lK)) env
def ip:En->Res Fl:=λenv=>(ss (kG (wI (ao 0) (d6 (ah (ao 4) (ah (ao 2) aN))) (g6 aN))) (gT 2 (aL (gN 6) (aL (gN 7) cr))) cp) env
def nG:En->Res Fl:=
 (bn (cT 3 (λ_=>.ok (.jm (.dZ [] []))))
 (bn (Ei (ao 1) (gT 2 (aL (gN 4) (aL (gN 5) cr))) ip)
 (fU (ao 3))))
def gE:List D->Res R:=iB N_sums_ahead nG
abbrev jO:Stmt:=top 15
noncomputable abbrev N_sums_along:List Str:=["told","standing","leading","rows","sign"]
abbrev gF:List Str:=N_sums_along.take 2
def sc_sums_along:aR N_sums_along gF (ay jO):=b6
def iq:En->Res Fl:=λenv=>(wy 3 (cb gE (ah (ao 2) (ah (bz 3 (By (vC (.int 1)))) (ah (ao 4) aN))))) env
def nH:En->Res Fl:=
 (bn (j5 2 (cb ja (ah (ao 0) aN)))
 (bn (cT 3 (g6 (ah (v2 q5 (bz 1 (vC (.int 0))) (d6 (ah (vC (.int 0)) (ah (vC .bv) aN)))) aN)))
 (bn (ss (kG (bz 1 (vC (.int 1)))) (gN 4) iq)
 (fU (ao 3)))))
def gG:List D->Res R:=iB N_sums_along nH
abbrev jP:Stmt:=top 4
noncomputable abbrev N_is_plain:List Str:=["house","machine"]
abbrev jQ:List Str:=N_is_plain.take 2
def xm:aR N_is_plain jQ (ay jP):=b6
def rJ:((["arrow"]:List Str)++(["house"]:List Str)).Nodup:=by decide +kernel
def fy:En->Res R:=λenv=>(v2 RY (bz 0 (vC (.int 2))) (bz 1 (vC (.int 0)))) env
def rK:En->Res Fl:=(fU (lu Hd (ah (d_ 1 [0] (kG (bz 1 (vC (.int 1)))) (gN 0) (λ_=>.ok true) fy) aN)))
def jR:List D->Res R:=iB N_is_plain rK
abbrev cI:Stmt:=top 5
abbrev fP:List Str:=["house","machine"]
abbrev b8:List Str:=["house","machine"]
def jS:aR fP b8 (ay cI):=b6
def fQ:En->Res Fl:=(xW (G3 (DJ (cb jR (ah (ao 0) (ah (ao 1) aN))))) (λ_=>.stuck) lK)
def b9:List D->Res R:=iB fP fQ
abbrev fW:Stmt:=top 9
noncomputable abbrev oS:List Str:=["house","rules","number","rule"]
abbrev fY:List Str:=["house"]
def sc_rules_by_start:aR oS fY (ay fW):=b6
abbrev rL:Stmt:=top 11
noncomputable abbrev N_prices:List Str:=["house","machine","pricing","arrow","number","rule"]
abbrev nI:List Str:=N_prices.take 2
def sc_prices:aR N_prices nI (ay rL):=b6
abbrev Ng:Stmt:=gv (top 7) 0
def Q2:aR ["self"] ["self"] (ay Ng):=b6
abbrev Nh:Stmt:=gv (top 7) 1
def Q3:aR ["self","price","thing"] ["self","price","thing"] (ay Nh):=b6
abbrev Ni:Stmt:=gv (top 7) 2
def Q5:aR ["self"] ["self"] (ay Ni):=b6
abbrev IG:Stmt:=gv (top 7) 3
def sc_QT:aR ["self","pile","price","thing"] ["self"] (ay IG):=b6
abbrev Nj:Stmt:=gv (top 10) 0
def Q7:aR ["self","house"] ["self","house"] (ay Nj):=b6
abbrev Nk:Stmt:=gv (top 10) 1
def sc_PO:aR ["self","arrow","price","number","mid","known"] ["self","arrow","price","number","mid"] (ay Nk):=b6
abbrev Nl:Stmt:=gv (top 10) 2
def sc_PS:aR ["self","arrow","price","start","number","rule","first"] ["self","arrow","price"] (ay Nl):=b6
abbrev Nm:Stmt:=gv (top 10) 3
def sc_PF:aR ["self","number","rule","mid","price","start","state","second"] ["self","number","rule","mid","price"] (ay Nm):=b6
abbrev Nn:Stmt:=gv (top 10) 4
def sc_PA:aR ["self","price","arrow"] ["self"] (ay Nn):=b6
def nJ:List D->Res R:=L4.Pu b9
abbrev vg:Stmt:=top 17
noncomputable abbrev N_least:List Str:=["house","machine","standing","lowest"]
abbrev qg:List Str:=N_least.take 3
def sc_least:aR N_least qg (ay vg):=b6
def vh:En->Res Fl:=
 (bn (j5 3 (cb fq (ah (ao 1) (ah (v2 yI (cb gG (ah (cb nJ (ah (ao 0) (ah (ao 1) aN))) (ah (ao 2) aN))) (By (vC (.int 1)))) aN))))
 (fU (SJ (Bz (ao 3)) (vC .bv) (bz 3 (vC (.int 0))))))
def lF:List D->Res R:=iB N_least vh
abbrev jT:Stmt:=top 20
abbrev nK:List Str:=["_law_found"]
abbrev gH:List Str:=["_law_found"]
def sG:aR nK gH (ay jT):=b6
def nL:En->Res Fl:=(fU (G0 (Hb "int" (ao 0)) (Lj (Hb "bool" (ao 0)))))
def fA:List D->Res R:=iB nK nL
abbrev fB:Stmt:=top 28
noncomputable abbrev N__law_taken:List Str:=["_law_machine","_law_standing","_law_states","_law_sign"]
abbrev gI:List Str:=N__law_taken.take 2
def sc__law_taken:aR N__law_taken gI (ay fB):=b6
def fZ:((["_law_first","_law_seen","_law_last"]:List Str)++(["_law_states","_law_sign"]:List Str)).Nodup:=by decide +kernel
def oT:((["_law_state"]:List Str)++(["_law_machine"]:List Str)).Nodup:=by decide +kernel
def cZ:En->Res Bool:=λenv=>(Bm (vB (v2 tM (ao 1) (ao 4))) (vB (v2 D8 (ao 0) (ao 3)))) env
def fC:En->Res R:=λenv=>(ao 2) env
def iu:En->Res Fl:=λenv=>(cT 2 (LD (d_ 3 [2,3] (kG (bz 0 (vC (.int 1)))) (gT 3 (aL (gN 0) (aL (gN 1) (aL (gN 2) cr)))) cZ fC))) env
def fD:En->Res Bool:=λenv=>(vB (v2 D8 (ao 0) (bz 1 (vC (.int 2))))) env
def fE:En->Res R:=λenv=>(ao 0) env
def nM:En->Res Fl:=
 (bn (cT 2 (g6 (ah (bz 1 (vC (.int 0))) aN)))
 (bn (ss (kG (bz 1 (vC (.int 1)))) (gN 3) iu)
 (fU (v2 Cs (d_ 1 [0] (kG (ao 2)) (gN 0) fD fE) (g6 aN)))))
def fF:List D->Res R:=iB N__law_taken nM
abbrev Fm:Stmt:=top 31
noncomputable abbrev N_law:List Str:=["_law_script","_law_house","_law_machine","_law_cells","_law_run_here","_law_seed","_law_at","_law_handed","_law_first","_law_second","_law_k"]
abbrev Ax:List Str:=N_law.take 1
def sc_law:aR N_law Ax (ay Fm):=b6
def lG:En->Res Fl:=λenv=>
 (xW (DJ (cb fF (ah (ao 2) (ah (bz 4 (ao 10)) aN)))) (bn (xW (N5 (Bz (ao 8)) (vB (v2 N4 (ao 8) (ao 10)))) (fU (vC (.bl false))) lK)
 (xW (Bm (vB (v2 RY (ao 10) (ao 6))) (N5 (Bz (ao 9)) (vB (v2 N4 (ao 9) (v2 DF (ao 10) (ao 6)))))) (fU (vC (.bl false))) lK)) lK) env
def xn:En->Res Fl:=λenv=>(fU (SI (Lh (ao 9)) (G0 (DH (ao 8)) (v2 SF (ao 8) (v2 dM (ao 6) (ao 9)))))) env
def rM:En->Res Fl:=λenv=>
 (bn (ss (Lo (ah (lu ot (ah (ao 4) aN)) aN)) (gN 10) lG)
 xn) env
def Ay:En->Res Fl:=λenv=>
 (bn (xW (N5 (vB (v2 Cs (ao 7) (g6 (ah (ao 1) (ah (ao 2) aN))))) (Bm (DW (ao 8)) (G3 (DJ (cb fA (ah (ao 8) aN)))))) (fU (vC (.bl false))) lK)
 rM) env
def Az:En->Res Fl:=λenv=>
 (bn (j5 9 (cb lF (ah (bz 7 (vC (.int 0))) (ah (bz 7 (vC (.int 1))) (ah (d6 (ah (v2 yI (bz 4 (ao 6)) (vC (.int 0))) (ah (lu lV (ah (v2 yI (bz 4 (ao 6)) (vC (.int 1))) aN)) aN))) aN)))))
 Ay) env
def AA:En->Res Fl:=λenv=>
 (bn (j5 8 (cb lF (ah (bz 7 (vC (.int 0))) (ah (bz 7 (vC (.int 1))) (ah (d6 (ah (v2 yI (bz 4 (vC (.int 0))) (vC (.int 0))) (ah (lu lV (ah (v2 yI (bz 4 (vC (.int 0))) (vC (.int 1))) aN)) aN))) aN)))))
 Az) env
def vi:En->Res Fl:=λenv=>
 (bn (j5 7 (cb iS (ah (ao 1) (ah (ao 2) aN))))
 AA) env
def vj:En->Res Fl:=λenv=>
 (bn (xW (vB (v2 tM (v2 cS (ao 5) (vC (.int 2))) (vC (.int 1)))) (j5 2 (cb cW (ah (ao 1) (ah (bz 4 (v2 cS (v2 cS (v2 lJ (ao 5) (vC (.int 2))) (vC (.int 64))) (lu ot (ah (ao 4) aN)))) aN)))) lK)
 vi) env
def AB:En->Res Fl:=λenv=>
 (bn (cT 6 (v2 cS (v2 lJ (ao 5) (vC (.int 128))) (lu ot (ah (ao 4) aN))))
 vj) env
def AC:En->Res Fl:=λenv=>
 (bn (cT 5 (v2 lJ (cb bD (ah (ao 0) (ah (vC (.int 3)) aN))) (vC (.int 31))))
 AB) env
def AD:En->Res Fl:=λenv=>
 (bn (j5 4 (cb io (ah (ao 1) (ah (cb b7 (ah (cb bD (ah (ao 0) (ah (vC (.int 2)) aN))) (ah (bz 1 (vC (.int 0))) (ah (bz 1 (vC (.int 1))) aN)))) (ah (ao 3) aN)))))
 AC) env
def JM:En->Res Fl:=
 (bn (ou (cb e_ (ah (ao 0) aN)) (gT 3 (aL (gN 1) (aL (gN 2) (aL (gN 3) cr)))))
 AD)
def xo:List D->Res R:=iB N_law JM
set_option genInjectivity false in
structure Tx(K:Yy) (mg:Str->Option YA) where
 Cu:Df K mg "_law_seed_at" ic eM
 J0:Df K mg "_law_arrow_by" gn dD
 Kj:Df K mg "_law_machine_by" bR cM
 JY:Df K mg "_law_rule_by" ii eU
 Kg:Df K mg "_law_made_by" eY eZ
 J5:Df K mg "_law_run" jJ jK
 J8:Df K mg "_law_stack_by" gp dF
 JW:Df K mg "_law_standing_by" dN cw
 J7:Df K mg "_law_only" iN iO
 Ki:Df K mg "_law_copy" lb iQ
 JZ:Df K mg "lowest_end" gB gC
 J1:Df K mg "priced_from" i_ gb
 Ke:Df K mg "sums_ahead" jN gD
 J2:Df K mg "sums_along" jO gF
 J_:Df K mg "is_plain" jP jQ
 F4:Df K mg "refuse_unless_plain" cI b8
 F6:Df K mg "rules_by_start" fW fY
 Kb:Df K mg "prices" rL nI
 Jb:Df K mg "least" vg qg
 JX:Df K mg "_law_whole" jT gH
 J4:Df K mg "_law_taken" fB gI
 F7:Df K mg "law" Fm Ax
 NI:mg "all"=none
 I0:mg "bool"=none
 dX:mg "divmod"=none
 nU:mg "enumerate"=none
 FS:mg "int"=none
 l9:mg "isinstance"=none
 f6:mg "len"=none
 jX:mg "list"=none
 zn:mg "min"=none
 iz:mg "range"=none
 FQ:mg "set"=none
 jn:mg "sorted"=none
 FT:mg "tuple"=none
 CQ:Addr
 kQ:vE K CQ
 gQ:mg "Queue"=some (.ref CQ)
 CP:Addr
 kP:lN K CP
 gP:mg "Pricing"=some (.ref CP)
 NY:Mf K CQ "__init__" "Queue.__init__" Ng ["self"]
 NL:Mk K CQ NY.f
 I_:Mf K CQ "add" "Queue.add" Nh ["self","price","thing"]
 NV:Mf K CQ "is_empty" "Queue.is_empty" Ni ["self"]
 NN:Mf K CQ "take_lowest" "Queue.take_lowest" IG ["self"]
 NP:Mf K CP "__init__" "Pricing.__init__" Nj ["self","house"]
 NS:Mk K CP NP.f
 zl:Mf K CP "offer" "Pricing.offer" Nk ["self","arrow","price","number","mid"]
 NK:Mf K CP "settle" "Pricing.settle" Nl ["self","arrow","price"]
 N0:Mf K CP "settle_first" "Pricing.settle_first" Nm ["self","number","rule","mid","price"]
 NM:Mf K CP "settle_all" "Pricing.settle_all" Nn ["self"]
section
variable{P:Yz}{w:World}{K:Yy}{mg:Str->Option YA}{base:Heap}(t:Tx K mg)
def cE:bO P w K mg base jw 1 t.Cu.f t.Cu.fd eM (m_ mg 2 bD):=
 eh t.Cu.h.fu sc__law_seed_at λcdv A outer s H E a=>
  have b:=a.units
  (au (bh sc__law_seed_at.nd rfl (.inl rfl) az)
    (au (d7 (bQ (Jo) (qv 1) (bp jz (by rfl) t.f6 (by decide +kernel) (aa (qv 0) ai)) (bG _)) (aG (bh sc__law_seed_at.nd rfl (.inl rfl) (i7 (pv 0) (qv 1) (λ_ _=>rfl)))) cc)
    (aG (br (aE bo (aE kF (aE kF (aE bM (aE bo (qv 2) az) az) az) az) az)))))
def oU:bO P w K mg base jw 1 t.J0.f t.J0.fd dD (m_ mg 4 dE):=
 eh t.J0.h.fu sc__law_arrow_by λcdv A outer s H E c=>
  have d:=c.units
  (au (bh sc__law_arrow_by.nd rfl (.inl rfl) (aE bo (aE kF (qv 0) az) az))
    (au (d8 (bp dU (by rfl) t.dX (by decide +kernel) (aa (qv 4) (aa az ai))) (cJ rfl (aO (aC sc__law_arrow_by.nd rfl (.inl rfl)) (aO (aC sc__law_arrow_by.nd rfl (.inl rfl)) ce (λ_ a _ b=>aA a b)) (λ_ a _ b=>aA a b))))
    (au (d8 (bp dU (by rfl) t.dX (by decide +kernel) (aa (qv 4) (aa az ai))) (cJ rfl (aO (aC sc__law_arrow_by.nd rfl (.inl rfl)) (aO (aC sc__law_arrow_by.nd rfl (.inl rfl)) ce (λ_ a _ b=>aA a b)) (λ_ a _ b=>aA a b))))
    (aG (br (bN (aa (aE bo (qv 5) (aE bM (qv 1) (qv 2))) (aa (aE bo (qv 6) (qv 3)) (aa (aE bM (qv 1) (aE bo (qv 4) (qv 2))) ai)))))))))
def mK:bO P w K mg base jw 2 t.Kj.f t.Kj.fd cM (m_ mg 5 bE):=
 eh t.Kj.h.fu sc__law_machine_by λcdv A outer s H E d=>
  have c:=d.units
  (au (bh sc__law_machine_by.nd rfl (.inl rfl) (aE bo (aE d5 (qv 0) az) az))
    (au (d7 (bQ (m7 c) (qv 5) az (bG _)) (au (bh sc__law_machine_by.nd rfl (.inl rfl) (bN (aa (aE bo (aE d5 (qv 0) az) (qv 2)) (aa (aE bo (aE d5 (qv 0) az) (qv 4)) (aa (qv 2) ai)))))
    (aG (br (bN (aa (aE bM (qv 2) az) (aa (bp mF (by rfl) t.jn (by decide +kernel) (aa (aE bM (cn (aa (qv 6) ai)) (lz rfl (cB.of (osc:=ay bR) (N:=N__law_machine_by) (tN:=["_law_sign"]) (capN:=["_law_rooms"]) (caps:=[2]) rfl rfl (by decide +kernel)) (g7 (by rfl) t.iz (aa (qv 4) ai)) (by decide) (λcl C a b fp=>(aC j9 rfl (.inl rfl))) (λcl C a b fp=>kJ) (λcl C a b fp=>(bN (aa (qv 1) (aa (qv 0) (aa (qv 1) ai))))))) ai)) (aa (cn (aa (qv 2) ai)) ai))))))) cc)
    (au (d7 (bQ (m7 c) (qv 5) az (bG _)) (aG (br (bN (aa (qv 2) (aa (cn ai) (aa (BC (by rfl) (by rfl) t.jX (by decide +kernel) (by rfl) t.iz (aa (qv 2) ai)) ai)))))) cc)
    (au (nc rfl (cB.of (osc:=ay bR) (N:=N__law_machine_by) (tN:=["_law_one"]) (capN:=["_law_rooms","_law_own","_law_signs"]) (caps:=[2,3,4]) rfl rfl (by decide +kernel)) sc__law_machine_by.nd rfl rfl (d9 (qv 1)) (by decide) (λcl C a b fp=>(aC j_ rfl (.inl rfl))) (λcl C a b fp=>kJ) (λcl C a b fp=>(a_ (oU t) (d.mono (by decide)) (by rfl) t.J0.h cC (aa (qv 0) (aa (qv 1) (aa (qv 2) (aa (qv 3) ai)))) (aw (aw (aw (aw aZ)))))))
    (au (nc rfl (cB.of (osc:=ay bR) (N:=N__law_machine_by) (tN:=["_law_state"]) (capN:=["_law_cell"]) (caps:=[0]) rfl rfl (by decide +kernel)) sc__law_machine_by.nd rfl rfl (g7 (by rfl) t.iz (aa (aE bM (qv 2) (qv 3)) ai)) (by decide) (λcl C a b fp=>(aC kc rfl (.inl rfl))) (λcl C a b fp=>(kK (bQ (m7 c) (aE Hj (aE LC (aE bo (aE d5 (qv 1) az) az) (qv 0)) az) az (bG _)))) (λcl C a b fp=>(qv 0)))
    (aG (br (bN (aa (aE bM (qv 2) (qv 3)) (aa (uP (by rfl) c (qv 7) (by rfl) t.jn (by decide +kernel) (by rfl) t.FQ (by decide +kernel)) (aa (qv 8) ai)))))))))))
def pJ:bO P w K mg base jw 1 t.JY.f t.JY.fd eU (m_ mg 3 eV):=
 eh t.JY.h.fu sc__law_rule_by λcdv A outer s H E c=>
  have d:=c.units
  (au (bh sc__law_rule_by.nd rfl (.inl rfl) (aE bo (aE kF (qv 0) az) az))
    (au (d8 (bp dU (by rfl) t.dX (by decide +kernel) (aa (qv 3) (aa az ai))) (cJ rfl (aO (aC sc__law_rule_by.nd rfl (.inl rfl)) (aO (aC sc__law_rule_by.nd rfl (.inl rfl)) ce (λ_ a _ b=>aA a b)) (λ_ a _ b=>aA a b))))
    (au (d8 (bp dU (by rfl) t.dX (by decide +kernel) (aa (qv 3) (aa az ai))) (cJ rfl (aO (aC sc__law_rule_by.nd rfl (.inl rfl)) (aO (aC sc__law_rule_by.nd rfl (.inl rfl)) ce (λ_ a _ b=>aA a b)) (λ_ a _ b=>aA a b))))
    (au (d8 (bp dU (by rfl) t.dX (by decide +kernel) (aa (qv 3) (aa az ai))) (cJ rfl (aO (aC sc__law_rule_by.nd rfl (.inl rfl)) (aO (aC sc__law_rule_by.nd rfl (.inl rfl)) ce (λ_ a _ b=>aA a b)) (λ_ a _ b=>aA a b))))
    (au (d8 (bp dU (by rfl) t.dX (by decide +kernel) (aa (qv 3) (aa az ai))) (cJ rfl (aO (aC sc__law_rule_by.nd rfl (.inl rfl)) (aO (aC sc__law_rule_by.nd rfl (.inl rfl)) ce (λ_ a _ b=>aA a b)) (λ_ a _ b=>aA a b))))
    (au (d8 (bp dU (by rfl) t.dX (by decide +kernel) (aa (qv 3) (aa az ai))) (cJ rfl (aO (aC sc__law_rule_by.nd rfl (.inl rfl)) (aO (aC sc__law_rule_by.nd rfl (.inl rfl)) ce (λ_ a _ b=>aA a b)) (λ_ a _ b=>aA a b))))
    (au (bh sc__law_rule_by.nd rfl (.inl rfl) (cn (aa (aE bo (qv 8) (qv 2)) (aa (aE bo (qv 3) (qv 2)) ai))))
    (aG (br (bN (aa (aE bo (qv 5) (qv 1)) (aa (aE bo (qv 6) (qv 2)) (aa (aE bo (qv 7) (qv 1)) (aa (dS Ec (by rfl) t.FT (by decide +kernel) (aa (kM (qv 9) wF (gf (qv 4))) ai)) ai))))))))))))))
def pK:bO P w K mg base jw 3 t.Kg.f t.Kg.fd eZ (m_ mg 1 e_):=
 eh t.Kg.h.fu sc__law_made_by λcdv A outer s H E a=>
  have d:=a.units
  (au (dw sc__law_made_by.nd rfl (.inl rfl) (a_ (cE t) (a.mono (by decide)) (by rfl) t.Cu.h cC (aa (qv 0) (aa az ai)) (aw (aw aZ))))
    (au (dw sc__law_made_by.nd rfl (.inl rfl) (a_ (cE t) (a.mono (by decide)) (by rfl) t.Cu.h cC (aa (qv 0) (aa az ai)) (aw (aw aZ))))
    (au (bh sc__law_made_by.nd rfl (.inr rfl) (aE bM az (aE bo (qv 1) az)))
    (au (bh sc__law_made_by.nd rfl (.inr rfl) (aE bM az (aE bo (aE d5 (qv 1) az) az)))
    (au (bh sc__law_made_by.nd rfl (.inl rfl) (aE bo (aE d5 (qv 1) az) az))
    (au (bh sc__law_made_by.nd rfl (.inl rfl) (aE kF (aE bo (qv 2) az) (dS Ls (by rfl) t.FS (by decide +kernel) (aa (uF (zV) (qv 5) az (bG _)) ai))))
    (au (bh sc__law_made_by.nd rfl (.inl rfl) (aE bM (aE bM az (qv 6)) (aE bo (a_ (cE t) (a.mono (by decide)) (by rfl) t.Cu.h cC (aa (qv 0) (aa az ai)) (aw (aw aZ))) az)))
    (au (dw sc__law_made_by.nd rfl (.inl rfl) (a_ (mK t) (a.mono (by decide)) (by rfl) t.Kj.h cC (aa (qv 2) (aa (kM (qv 0) (gf az) (gf (aE bM az (qv 6)))) (aa (qv 3) (aa (qv 5) (aa (qv 4) ai))))) (aw (aw (aw (aw (aw aZ)))))))
    (au (nc rfl (cB.of (osc:=ay eY) (N:=ij) (tN:=["_law_cell"]) (capN:=["_law_rooms","_law_signs"]) (caps:=[3,4]) rfl rfl (by decide +kernel)) sc__law_made_by.nd rfl rfl (d9 (kM (qv 0) (gf (aE bM az (qv 6))) (gf (qv 7)))) (by decide) (λcl C b c fp=>(aC mJ rfl (.inl rfl))) (λcl C b c fp=>kJ) (λcl C b c fp=>(a_ (pJ t) (a.mono (by decide)) (by rfl) t.JY.h cC (aa (qv 0) (aa (qv 1) (aa (qv 2) ai))) (aw (aw (aw aZ))))))
    (aG (br (bN (aa (bN (aa (qv 3) (aa (qv 4) (aa (qv 9) ai)))) (aa (qv 8) (aa (kM (qv 0) (gf (qv 7)) (gf (aE bM (qv 7) az))) ai)))))))))))))))
def xq:bO P w K mg base jw 1 t.J5.f t.J5.fd jK (m_ mg 3 io):=
 eh t.J5.h.fu sc__law_run λcdv A outer s H E g=>
  have c:=g.units
  (au (bh sc__law_run.nd rfl (.inl rfl) (cn (aa (qv 1) ai)))
    (au (jA Vr rfl (d9 (qv 2)) (aC sc__law_run.nd rfl (.inl rfl)) (au (d8 (i7 (pv 3) (yK az) (λ_ _=>rfl)) (cJ rfl (aO (aC sc__law_run.nd rfl (.inr rfl)) (aO (aC sc__law_run.nd rfl (.inr rfl)) ce (λ_ a _ b=>aA a b)) (λ_ a _ b=>aA a b))))
    (au (nc rfl (cB.of (osc:=ay jJ) (N:=N__law_run) (tN:=["_law_rule"]) (capN:=["_law_room","_law_stack"]) (caps:=[5,6]) rfl rfl (by decide +kernel)) sc__law_run.nd rfl rfl (d9 (aW (pv 0))) (by decide) (λcl C d e fp=>(aC rG rfl (.inl rfl))) (λcl C d e fp=>(kK (PWD.pt (pT (bQ (DG c) (qv 2) (cn ai) (bG _)) (m8 (bQ (m7 c) (bN (aa (aW (pv 0)) (aa (aW (pv 0)) ai))) (bN (aa (qv 1) (aa (aW (pv 2)) ai))) (bG _))))))) (λcl C d e fp=>(qv 0)))
    (au (d7 (bQ (m7 c) (qv 7) (cn ai) (bG _)) (aG Bn) cc)
    (au (bh sc__law_run.nd rfl (.inl rfl) (i7 (pv 7) (aE bo (qv 4) (bp jz (by rfl) t.f6 (by decide +kernel) (aa (qv 7) ai))) (λ_ _=>rfl)))
    (aG (pU (pv 3) (bN (aa (aW (pv 8)) (aa (aE bM (dS lw (by rfl) t.jX (by decide +kernel) (aa (aW (pv 8)) ai)) (kM (qv 6) (gf az) wF)) ai))))))))))
    (aG (br (qv 3)))))
def oV:bO P w K mg base jw 1 t.J8.f t.J8.fd dF (m_ mg 3 dG):=
 eh t.J8.h.fu sc__law_stack_by λcdv A outer s H E c=>
  have d:=c.units
  (au (bh sc__law_stack_by.nd rfl (.inl rfl) (cn ai))
    (au (bh sc__law_stack_by.nd rfl (.inl rfl) (aE kF (aE bo (qv 0) (aE El az az)) (aE El az az)))
    (au (jA Vr rfl (g7 (by rfl) t.iz (aa (qv 1) ai)) (aC sc__law_stack_by.nd rfl (.inl rfl)) (au (d8 (bp dU (by rfl) t.dX (by decide +kernel) (aa (qv 4) (aa (qv 2) ai))) (cJ rfl (aO (aC sc__law_stack_by.nd rfl (.inl rfl)) (aO (aC sc__law_stack_by.nd rfl (.inl rfl)) ce (λ_ a _ b=>aA a b)) (λ_ a _ b=>aA a b))))
    (aG (pU (pv 3) (aE bo (aE bM (qv 6) (aE kF (aE kF (qv 5) (qv 5)) (aE d5 (qv 1) az))) (qv 2))))))
    (aG (br (qv 3))))))
def lL:bO P w K mg base jw 2 t.JW.f t.JW.fd cw (m_ mg 3 b7):=
 eh t.JW.h.fu sc__law_standing_by λcdv A outer s H E a=>
  have b:=a.units
  (au (bh sc__law_standing_by.nd rfl (.inl rfl) (aE bo (aE d5 (qv 0) az) az))
    (au (d7 (bQ (m7 b) (aE bo (aE d5 (qv 0) az) az) az (bG _)) (aG (bh sc__law_standing_by.nd rfl (.inl rfl) (aE bM az (aE bo (aE d5 (qv 0) az) az)))) cc)
    (aG (br (bN (aa (aE bo (aE bo (qv 0) az) (qv 1)) (aa (a_ (oV t) (a.mono (by decide)) (by rfl) t.J8.h cC (aa (aE d5 (qv 0) az) (aa (qv 3) (aa (qv 2) ai))) (aw (aw (aw aZ)))) ai)))))))
def vk:bO P w K mg base jw 1 t.J7.f t.J7.fd iO (m_ mg 2 cW):=
 eh t.J7.h.fu sc__law_only λcdv A outer s H E e=>
  have g:=e.units
  (au (bh sc__law_only.nd rfl (.inr rfl) (aW (pv 0)))
    (au (d8 (qv 1) (cJ rfl (aO (aC sc__law_only.nd rfl (.inl rfl)) (aO (aC sc__law_only.nd rfl (.inl rfl)) ce (λ_ a _ b=>aA a b)) (λ_ a _ b=>aA a b))))
    (au (d7 (bQ (m7 g) (qv 4) (cn ai) (bG _)) (aG (br (bN (aa (qv 2) (aa (cn ai) (aa (cn (aa (qv 3) ai)) ai)))))) cc)
    (au (bh sc__law_only.nd rfl (.inl rfl) (cn (aa (bN (aa (qv 3) (aa (aW (pv 4)) (aa (qv 2) ai)))) ai)))
    (au (d7 (bQ (zV) (bp jz (by rfl) t.f6 (by decide +kernel) (aa (qv 4) ai)) az (bG _)) (aG (br (bN (aa (aE bM (qv 2) az) (aa (bp mF (by rfl) t.jn (by decide +kernel) (aa (aE bM (qv 5) (lz rfl (cB.of (osc:=ay iN) (N:=N__law_only) (tN:=["_law_sign"]) (capN:=["_law_rooms"]) (caps:=[2]) rfl rfl (by decide +kernel)) (g7 (by rfl) t.iz (aa (aW (pv 0)) ai)) (by decide) (λcl C c d fp=>(aC pI rfl (.inl rfl))) (λcl C c d fp=>kJ) (λcl C c d fp=>(bN (aa (qv 1) (aa (qv 0) (aa (qv 1) ai))))))) ai)) (aa (cn (aa (qv 2) ai)) ai)))))) cc)
    (au (jA Vr rfl (yL (by rfl) t.iz (aa az (aa (bp jz (by rfl) t.f6 (by decide +kernel) (aa (qv 4) ai)) ai))) (aC sc__law_only.nd rfl (.inl rfl)) (aG (pU (pv 5) (bN (aa (aE yF (aE bM (qv 2) (qv 6)) az) (aa (i7 (pv 4) (qv 6) (λ_ _=>rfl)) (aa (aE bM (qv 2) (qv 6)) ai)))))))
    (aG (br (bN (aa (aE bM (qv 2) (bp jz (by rfl) t.f6 (by decide +kernel) (aa (qv 4) ai))) (aa (bp mF (by rfl) t.jn (by decide +kernel) (aa (qv 5) ai)) (aa (cn (aa (aE yF (aE bM (qv 2) (bp jz (by rfl) t.f6 (by decide +kernel) (aa (qv 4) ai))) az) ai)) ai))))))))))))
def vm:bO P w K mg base jw 1 t.Ki.f t.Ki.fd iQ (m_ mg 2 iS):=
 eh t.Ki.h.fu ve λcdv A outer s H E a=>
  have b:=a.units
  (aG (br (cn (aa (bN (aa (aW (pv 0)) (aa (aW (pv 0)) (aa (dS lw (by rfl) t.jX (by decide +kernel) (aa (aW (pv 0)) ai)) ai)))) (aa (O_ (aW (pv 1)) (dS lw (by rfl) t.jX (by decide +kernel) (aa (aW (pv 1)) ai)) (dS lw (by rfl) t.jX (by decide +kernel) (aa (aW (pv 1)) ai))) ai)))))
def sH:bO P w K mg base jw 1 t.JZ.f t.JZ.fd gC (m_ mg 2 fq):=
 eh t.JZ.h.fu sD λcdv A outer s H E d=>
  have a:=d.units
  (aG (br (HV rfl a (by rfl) t.zn (lz rfl (cB.of (osc:=ay gB) (N:=jL) (tN:=["end"]) (capN:=["sums"]) (caps:=[1]) rfl rfl (by decide +kernel)) (d9 (aW (pv 0))) (by decide) (λcl C b c fp=>(aC oR rfl (.inl rfl))) (λcl C b c fp=>(kK (bQ (yM a) (qv 0) (qv 1) (by rfl)))) (λcl C b c fp=>(bN (aa (tO (Hk a (qv 1) (qv 0) (λ_ _=>rfl)) az (λ_ _=>rfl)) (aa (qv 0) ai))))))))
def rN:bO P w K mg base jw 1 t.J1.f t.J1.fd gb (m_ mg 1 ja):=
 t.J1.h.fu.ok sc_priced_from (λ_ _ _ _ h=>h.1) λcdv A outer s H vs Q E a h=>
  ⟨_,aX (jq (i:=1) sc_priced_from.nd rfl (Or.inl rfl) ku)
    (aX (Eg (gS Vr rfl (Bd (pv 0)) (iY rfl (aA (bK (i:=2) sc_priced_from.nd rfl (Or.inl rfl)) (aA (bK (i:=3) sc_priced_from.nd rfl (Or.inl rfl)) f7)))
      (aY (b_ (ko Wd V9 V_ fS (ko Vl VE Wa (mY a.units) (pv 1)
        (aj (dj (aj (bP ix_tup (pv 2) aS (λ_ _=>rfl)) (aj (bP ix_tup (pv 2) aS (λ_ _=>rfl)) aH))) (aj (jv aH) aH))) (aj (dj (aj (pv 2) (aj (bP ix_tup (pv 3) aS (λ_ _=>rfl)) aH))) aH))))))
    (aY (nZ (pv 1)))),HP PR rfl h⟩
def sI:bO P w K mg base jw 1 t.Ke.f t.Ke.fd gD (m_ mg 3 gE):=
 eh t.Ke.h.fu sc_sums_ahead λcdv A outer s H E d=>
  have c:=d.units
  (au (bh sc_sums_ahead.nd rfl (.inl rfl) Hg)
    (au (Ej Vr rfl (qv 1) (cJ rfl (aO (aC sc_sums_ahead.nd rfl (.inl rfl)) (aO (aC sc_sums_ahead.nd rfl (.inl rfl)) ce (λ_ a _ b=>aA a b)) (λ_ a _ b=>aA a b))) (aG (jA Vr rfl (d9 (Hl c (qv 0) (bN (aa (qv 4) (aa (qv 2) ai))) (cn ai) ⟨rfl,rfl,rfl,rfl⟩)) (cJ rfl (aO (aC sc_sums_ahead.nd rfl (.inl rfl)) (aO (aC sc_sums_ahead.nd rfl (.inl rfl)) ce (λ_ a _ b=>aA a b)) (λ_ a _ b=>aA a b))) (au (bh sc_sums_ahead.nd rfl (.inl rfl) (HY c (qv 3) (aW (pv 6)) ⟨rfl,rfl,rfl,rfl⟩))
    (aG (d7 (PWD.pt (uG (pV (qv 8)) (pS (bQ (Jo) (aE bM (aW (pv 5)) (qv 7)) (aW (pv 8)) (bG _))))) (aG (Hi c (pv 3) (aW (pv 6)) (bN (aa (aE bM (aW (pv 5)) (qv 7)) (aa (qv 6) ai))))) cc))))))
    (aG (br (qv 3)))))
def sJ:bO P w K mg base jw 2 t.J2.f t.J2.fd gF (m_ mg 2 gG):=
 eh t.J2.h.fu sc_sums_along λcdv A outer s H E a=>
  have b:=a.units
  (au (dw sc_sums_along.nd rfl (.inl rfl) (a_ (rN t) (a.mono (by decide)) (by rfl) t.J1.h cC (aa (qv 0) ai) (aw aZ)))
    (au (bh sc_sums_along.nd rfl (.inl rfl) (cn (aa (Ef (aW (pv 1)) (bN (aa az (aa DE ai)))) ai)))
    (au (jA Vr rfl (d9 (aW (pv 1))) (aC sc_sums_along.nd rfl (.inl rfl)) (aG (pU (pv 3) (a_ (sI t) (a.mono (by decide)) (by rfl) t.Ke.h cC (aa (qv 2) (aa (i7 (pv 3) (yK az) (λ_ _=>rfl)) (aa (qv 4) ai))) (aw (aw (aw aZ)))))))
    (aG (br (qv 3))))))
def xt:bO P w K mg base jw 1 t.J_.f t.J_.fd jQ (m_ mg 2 jR):=
 eh t.J_.h.fu xm λcdv A outer s H E c=>
  have d:=c.units
  (aG (br (bp (Lq (by rfl)) (by rfl) t.NI (by decide +kernel) (aa (lz rfl (cB.of (osc:=ay jP) (N:=N_is_plain) (tN:=["arrow"]) (capN:=["house"]) (caps:=[0]) rfl rfl (by decide +kernel)) (d9 (aW (pv 1))) (by decide) (λcl C a b fp=>(aC rJ rfl (.inl rfl))) (λcl C a b fp=>kJ) (λcl C a b fp=>(uF (Jp) (aW (pv 0)) (aW (pv 1)) (bG _)))) ai))))
def jU:bO P w K mg base jw 2 t.F4.f t.F4.fd b8 (m_ mg 2 b9):=
 eh t.F4.h.fu jS λcdv A outer s H E a=>
  have b:=a.units
  (aG (d7 (zW (yH (a_ (xt t) (a.mono (by decide)) (by rfl) t.J_.h cC (aa (qv 0) (aa (qv 1) ai)) (aw (aw aZ))))) (aG BE) cc))
def Q8:bO P w K mg base jw 1 t.NY.f t.NY.fd ["self"] (nW t.CQ):=t.NY.h.fu.ok Q2 (λ_ _ _ _ h=>wZ h) λcdv A outer s H vs Q E a h=>⟨_,aX (kg (pv 0) aS rfl) (aY (kg (pv 0) v4 rfl)),yX t.kQ h⟩
def JN:bO P w K mg base jw 1 t.I_.f t.I_.fd ["self","price","thing"] (ub t.CQ):=
 t.I_.h.fu.ok Q3 (λ_ _ _ _ h=>BP h) λcdv A outer s H vs Q E a h=>
  ⟨_,aY (b_ (ko Wd V9 V_ fS (ko Vl VE Wa GE (cH (pv 0) rfl)
    (aj (CW PySem.F.plainAttrs_int PySem.F.slot_int_bit_length PySem.F.type_int_bit_length HC (qo KH (pv 1) (cH (pv 0) rfl))) (aj (jv aH) aH))) (aj (dj (aj (pv 1) (aj (pv 2) aH))) aH))),Eu t.kQ h rfl⟩
def Q9:bO P w K mg base jw 1 t.NV.f t.NV.fd ["self"] (nR t.CQ):=t.NV.h.fu.ok Q5 (λ_ _ _ _ h=>w6 h) λcdv A outer s H vs Q E a h=>⟨_,aY (nZ (zx zw (dv BR (by rfl) t.f6 Yb (aj (cH (pv 0) rfl) aH)) aS (bG _))),yY t.kQ h⟩
def xu:bO P w K mg base jw 2 t.zl.f t.zl.fd ["self","arrow","price","number","mid"] (gc t.CP t.CQ):=
 t.zl.h.fu.ok sc_PO (λ_ _ _ _ h=>w8 h) λcdv A outer s H vs Q E a h=>
  ⟨_,aX (jq (i:=5) sc_PO.nd rfl (Or.inl rfl) (C5 (sZ a) (cH (pv 0) rfl) (pv 1) ⟨rfl,rfl,rfl,rfl⟩))
    (aY (sR (PW.pt (Jc (jt LQ (pv 5) mj (bG _)) (CB (jt Jd (pv 2) (bP ix_tup (pv 5) aS (λ_ _=>rfl)) (bG _)))))
      (aX (Gy (sZ a) (cH (pv 0) rfl) (pv 1) (dj (aj (pv 2) (aj (pv 3) (aj (pv 4) aH)))) rfl)
        (aY (b_ (gu (cH (pv 0) rfl) t.kQ.cl t.I_.h.me (JN t) a t.I_.h.bi .nil gX (aj (pv 2) (aj (pv 1) aH))))))
      mP)),y8 t.kP t.kQ h⟩
def Fo:((["price","thing"]:List Str)++([]:List Str)).Nodup:=by decide +kernel
def Q_:bO P w K mg base jw 2 t.NN.f t.NN.fd ["self"] (rW t.CQ):=
 t.NN.h.fu.ok sc_QT (λ_ _ _ _ h=>yZ h) λcdv A outer s H vs Q E a h=>
  ⟨_,aX (jq (i:=1) sc_QT.nd rfl (Or.inl rfl) (v5 (cH (pv 0) rfl) (dv (BQ rfl) (by rfl) t.zn (by decide +kernel) (aj (CW Vl PySem.F.slot_dict_keys PySem.F.type_dict_keys HD (cH (pv 0) rfl)) aH)) ⟨rfl,rfl,rfl,rfl⟩))
    (aX (kg (pv 0) (dv (BY rfl) (by rfl) t.zn (by decide +kernel) (aj (EK (tN:=["price","thing"]) (capN:=[]) (caps:=[]) rfl (cB.of (osc:=ay IG) (N:=["self","pile","price","thing"]) rfl rfl (by decide +kernel)) (jr (pv 1))) aH)) rfl)
    (aX (gS Vr rfl (jr (pv 1)) (iY rfl (aA (bK (i:=2) sc_QT.nd rfl (Or.inl rfl)) (aA (bK (i:=3) sc_QT.nd rfl (Or.inl rfl)) f7)))
      (aY (b_ (gu (pv 0) t.kQ.cl t.I_.h.me (JN t) a t.I_.h.bi .nil gX (aj (pv 2) (aj (pv 3) aH))))))
    (aY (nZ (v5 (cH (pv 0) rfl) aS ⟨rfl,rfl,rfl,rfl⟩))))),
    BS t.kQ (λ_ _=>rfl) (BZ rfl (λ_ _ _ _ _=>iY rfl (aA (bK (i:=0) Fo rfl (Or.inl rfl)) (aA (bK (i:=1) Fo rfl (Or.inl rfl)) f7))) λ_ _ _ _ _=>pv 0) h⟩
def Ra:bO P w K mg base jw 3 t.N0.f t.N0.fd ["self","number","rule","mid","price"] (nV t.CP t.CQ):=
 t.N0.h.fu.ok sc_PF (λ_ _ _ _ h=>xa h) λcdv A outer s H vs Q E a h=>
  ⟨_,aX (jq (i:=5) sc_PF.nd rfl (Or.inl rfl) (dj (aj (pv 3) (aj (bP ix_tup (bP ix_tup (pv 2) aS (λ_ _=>rfl)) aS (λ_ _=>rfl)) aH))))
    (aX (b_ (ko Wd V9 V_ fS (ko Vl VE Wa (mY a.units) (cH (pv 0) rfl) (aj (pv 5) (aj (jv aH) aH))) (aj (dj (aj (pv 1) (aj (pv 2) (aj (pv 4) aH)))) aH)))
    (aY (gS Vr rfl (jr (qE (sZ a) (cH (pv 0) rfl) (pv 5) (jv aH) ⟨rfl,rfl,rfl,rfl⟩)) (iY rfl (aA (bK (i:=6) sc_PF.nd rfl (Or.inl rfl)) (aA (bK (i:=7) sc_PF.nd rfl (Or.inl rfl)) f7)))
      (aY (b_ (gu (pv 0) t.kP.cl t.zl.h.me (xu t) a t.zl.h.bi .nil gX (aj (dj (aj (bP ix_tup (pv 2) aS (λ_ _=>rfl)) (aj (bP ix_tup (pv 2) aS (λ_ _=>rfl)) (aj (pv 6) aH))))
        (aj (qo op_add (qo op_add (pv 4) (pv 7)) aS) (aj (pv 1) (aj (pv 3) aH)))))))))),y9 t.kP h⟩
def Rb:bO P w K mg base jw 4 t.NK.f t.NK.fd ["self","arrow","price"] (li t.CP t.CQ):=
 t.NK.h.fu.ok sc_PS (λ_ _ _ _ h=>u5 h) λcdv A outer s H vs Q E a h=>
  have b:dR 2 _:=a.mono (by decide)
  ⟨_,aX (jq (i:=3) sc_PS.nd rfl (Or.inl rfl) (dj (aj (bP ix_tup (pv 1) aS (λ_ _=>rfl)) (aj (bP ix_tup (pv 1) aS (λ_ _=>rfl)) aH))))
    (aX (b_ (ko Wd V9 V_ fS (ko Vl VE Wa (mY a.units) (cH (pv 0) rfl) (aj (pv 3) (aj (jv aH) aH))) (aj (dj (aj (bP ix_tup (pv 1) aS (λ_ _=>rfl)) (aj (pv 2) aH))) aH)))
    (aX (gS Vr rfl (jr (qE (sZ a) (cH (pv 0) rfl) (pv 3) (jv aH) ⟨rfl,rfl,rfl,rfl⟩)) (iY rfl (aA (bK (i:=4) sc_PS.nd rfl (Or.inl rfl)) (aA (bK (i:=5) sc_PS.nd rfl (Or.inl rfl)) (aA (bK (i:=6) sc_PS.nd rfl (Or.inl rfl)) f7))))
      (aY (b_ (gu (pv 0) t.kP.cl t.zl.h.me (xu t) b t.zl.h.bi .nil gX (aj (dj (aj (bP ix_tup (pv 5) aS (λ_ _=>rfl)) (aj (bP ix_tup (pv 5) aS (λ_ _=>rfl)) (aj (bP ix_tup (pv 1) aS (λ_ _=>rfl)) aH))))
        (aj (qo op_add (qo op_add (pv 6) (pv 2)) aS) (aj (pv 4) (aj (bP ix_tup (pv 1) aS (λ_ _=>rfl)) aH))))))))
    (aY (gS Vr rfl (jr (qE (sZ a) (cH (pv 0) rfl) (pv 3) (jv aH) ⟨rfl,rfl,rfl,rfl⟩)) (iY rfl (aA (bK (i:=4) sc_PS.nd rfl (Or.inl rfl)) (aA (bK (i:=5) sc_PS.nd rfl (Or.inl rfl)) f7)))
      (aY (sR (jt zw (dv oP (by rfl) t.f6 Yb (aj (bP ix_tup (pv 5) aS (λ_ _=>rfl)) aH)) aS (bG _))
        (aY (b_ (gu (pv 0) t.kP.cl t.zl.h.me (xu t) b t.zl.h.bi .nil gX (aj (dj (aj (bP ix_tup (pv 5) aS (λ_ _=>rfl)) (aj (bP ix_tup (pv 5) aS (λ_ _=>rfl)) (aj (bP ix_tup (pv 1) aS (λ_ _=>rfl)) aH))))
          (aj (qo op_add (pv 2) aS) (aj (pv 4) (aj mj aH)))))))
        (aY (b_ (gu (pv 0) t.kP.cl t.N0.h.me (Ra t) a t.N0.h.bi .nil gX (aj (pv 4) (aj (pv 5) (aj (bP ix_tup (pv 1) aS (λ_ _=>rfl)) (aj (pv 2) aH))))))))))))),xc t.kP h⟩
def Rc:bO P w K mg base jw 5 t.NM.f t.NM.fd ["self"] (xS t.CP t.CQ):=
 t.NM.h.fu.ok sc_PA (λ_ _ _ _ h=>BU h) λcdv A outer s H vs Q E a h=>
  ⟨_,aY (CH Vr (CC (Kr (qw (cH (pv 0) rfl) t.kQ.cl t.NV.h.me (Q9 t) (a.mono (by decide)) t.NV.h.bi .nil gX)))
    (aY (gS Vr rfl (jr (qw (cH (pv 0) rfl) t.kQ.cl t.NN.h.me (Q_ t) (a.mono (by decide)) t.NN.h.bi .nil gX)) (iY rfl (aA (bK (i:=1) sc_PA.nd rfl (Or.inl rfl)) (aA (bK (i:=2) sc_PA.nd rfl (Or.inl rfl)) f7)))
      (aY (sR (jt zw (bP ix_tup (zF (sZ a) (cH (pv 0) rfl) (pv 2) (λ_ _=>rfl)) aS (λ_ _=>rfl)) (pv 1) (bG _))
        (aY (b_ (gu (pv 0) t.kP.cl t.NK.h.me (Rb t) a t.NK.h.bi .nil gX (aj (pv 2) (aj (pv 1) aH))))) mP))))),ED t.kP h⟩
def nN:bO P w K mg base jw 1 t.F6.f t.F6.fd ["house"] FU:=
 t.F6.h.fu.ok sc_rules_by_start (λ_ _ _ _ h=>EE h) λcdv A outer s H vs Q E a h=>
  ⟨_,aX (jq (i:=1) sc_rules_by_start.nd rfl (Or.inl rfl) ku)
    (aX (gS Vr rfl (Aa rfl t.nU (aj (bP ix_tup (pv 0) aS (λ_ _=>rfl)) aH)) (iY rfl (aA (bK (i:=2) sc_rules_by_start.nd rfl (Or.inl rfl)) (aA (bK (i:=3) sc_rules_by_start.nd rfl (Or.inl rfl)) f7)))
      (aY (sR (jt Je (dv oP (by rfl) t.f6 Yb (aj (bP ix_tup (pv 3) aS (λ_ _=>rfl)) aH)) aS (bG _))
        (aY (b_ (ko Wd V9 V_ fS (ko Vl VE Wa (mY a.units) (pv 1)
          (aj (dj (aj (bP ix_tup (pv 3) aS (λ_ _=>rfl)) (aj (bP ix_tup (bP ix_tup (pv 3) aS (λ_ _=>rfl)) aS (λ_ _=>rfl)) aH))) (aj (jv aH) aH))) (aj (dj (aj (pv 2) (aj (pv 3) aH))) aH)))) mP)))
    (aY (nZ (pv 1)))),HK h⟩
def Re:bO P w K mg base jw 3 t.NP.f t.NP.fd ["self","house"] (nQ t.CP t.CQ):=
 t.NP.h.fu.ok Q7 (λ_ _ _ _ h=>xf h) λcdv A outer s H vs Q E a h=>
  ⟨_,aX (kg (pv 0) (uf (nN t) (a.mono (by decide)) rfl t.F6.h.gl t.F6.h.fu.kp t.F6.h.bi .nil gX (aj (pv 1) aH)) rfl)
    (aX (kg (pv 0) ku rfl) (aX (kg (pv 0) (CO t.NL (Q8 t) a rfl t.gQ t.NY.h.bi .nil gX) rfl) (aX (kg (pv 0) ku rfl) (aY (kg (pv 0) ku rfl))))),za t.kP h⟩
def Cc:bO P w K mg base jw 6 t.Kb.f t.Kb.fd nI (m_ mg 2 nJ):=
 t.Kb.h.fu.ok sc_prices (λ_ _ _ _ h=>h.1) λcdv A outer s H vs Q E b h=>
  have a:dR 2 _:=b.mono (by decide)
  ⟨_,aX (b_ (uf (jU t) (b.mono (by decide)) rfl t.F4.h.gl t.F4.h.fu.kp t.F4.h.bi .nil cC (aj (pv 0) (aj (pv 1) aH))))
    (aX (jq (i:=2) sc_prices.nd rfl (Or.inl rfl) (Gp t.NS (Re t) (b.mono (by decide)) rfl t.gP t.NP.h.bi .nil gX (aj (pv 0) aH)))
    (aX (gS Vr rfl (jr (bP ix_tup (pv 1) aS (λ_ _=>rfl))) (bK (i:=3) sc_prices.nd rfl (Or.inl rfl)) (aY (b_ (gu (pv 2) t.kP.cl t.zl.h.me (xu t) a t.zl.h.bi .nil gX (aj (pv 3) (aj aS (aj mj (aj mj aH))))))))
    (aX (gS Vr rfl (Aa rfl t.nU (aj (bP ix_tup (pv 0) aS (λ_ _=>rfl)) aH)) (iY rfl (aA (bK (i:=4) sc_prices.nd rfl (Or.inl rfl)) (aA (bK (i:=5) sc_prices.nd rfl (Or.inl rfl)) f7)))
      (aY (sR (jt zw (dv oP (by rfl) t.f6 Yb (aj (bP ix_tup (pv 5) aS (λ_ _=>rfl)) aH)) aS (bG _))
        (aY (b_ (gu (pv 2) t.kP.cl t.zl.h.me (xu t) a t.zl.h.bi .nil gX (aj (dj (aj (bP ix_tup (pv 5) aS (λ_ _=>rfl)) (aj (bP ix_tup (pv 5) aS (λ_ _=>rfl)) (aj (bP ix_tup (pv 5) aS (λ_ _=>rfl)) aH))))
          (aj aS (aj (pv 4) (aj mj aH))))))) mP)))
    (aX (b_ (qw (pv 2) t.kP.cl t.NM.h.me (Rc t) b t.NM.h.bi .nil gX))
    (aY (nZ (cH (pv 2) rfl))))))),xg t.kP h⟩
def xw:bO P w K mg base jw 7 t.Jb.f t.Jb.fd qg (m_ mg 3 lF):=
 eh t.Jb.h.fu sc_least λcdv A outer s H E a=>
  have b:=a.units
  (au (dw sc_least.nd rfl (.inl rfl) (a_ (sH t) (a.mono (by decide)) (by rfl) t.JZ.h cC (aa (qv 1) (aa (tO (a_ (sJ t) (a.mono (by decide)) (by rfl) t.J2.h cC (aa (a_ (Cc t) (a.mono (by decide)) (by rfl) t.Kb.h cC (aa (qv 0) (aa (qv 1) ai)) (aw (aw aZ))) (aa (qv 2) ai)) (aw (aw aZ))) (yK az) (λ_ _=>rfl)) ai)) (aw (aw aZ))))
    (aG (br (OU (pV (qv 3)) DE (aW (pv 3))))))
def sK:bO P w K mg base jw 1 t.JX.f t.JX.fd gH (m_ mg 1 fA):=
 eh t.JX.h.fu sG λcdv A outer s H E a=>
  have b:=a.units
  (aG (br (DI (DV DT (by rfl) t.l9 (by rfl) t.FS (by decide +kernel) (qv 0)) (yG (Ll (DV Bv (by rfl) t.l9 (by rfl) t.I0 (by decide +kernel) (qv 0)))))))
def sL:bO P w K mg base jw 1 t.J4.f t.J4.fd gI (m_ mg 2 fF):=
 eh t.J4.h.fu sc__law_taken λcdv A outer s H E g=>
  have e:=g.units
  (au (bh sc__law_taken.nd rfl (.inr rfl) (cn (aa (aW (pv 1)) ai)))
    (au (jA Vr rfl (d9 (aW (pv 1))) (aC sc__law_taken.nd rfl (.inr rfl)) (aG (bh sc__law_taken.nd rfl (.inr rfl) (sB (by rfl) (lz rfl (cB.of (osc:=ay fB) (N:=N__law_taken) (tN:=["_law_first","_law_seen","_law_last"]) (capN:=["_law_states","_law_sign"]) (caps:=[2,3]) rfl rfl (by decide +kernel)) (d9 (aW (pv 0))) (by decide) (λcl C c d fp=>(cJ rfl (aO (aC fZ rfl (.inl rfl)) (aO (aC fZ rfl (.inl rfl)) (aO (aC fZ rfl (.inl rfl)) ce (λ_ a _ b=>aA a b)) (λ_ a _ b=>aA a b)) (λ_ a _ b=>aA a b)))) (λcl C c d fp=>(kK (PWD.pt (pT (bQ (m7 e) (qv 1) (qv 4) (bG _)) (m8 (bQ (yM e) (qv 0) (qv 3) (by rfl))))))) (λcl C c d fp=>(qv 2))) (by rfl) t.jn (by decide +kernel) (by rfl) t.FQ (by decide +kernel)))))
    (aG (br (uF (DG e) (lz rfl (cB.of (osc:=ay fB) (N:=N__law_taken) (tN:=["_law_state"]) (capN:=["_law_machine"]) (caps:=[0]) rfl rfl (by decide +kernel)) (d9 (qv 2)) (by decide) (λcl C c d fp=>(aC oT rfl (.inl rfl))) (λcl C c d fp=>(kK (bQ (yM e) (qv 0) (aW (pv 1)) (by rfl)))) (λcl C c d fp=>(qv 0))) (cn ai) (bG _))))))
def Np:bO P w K mg base jw 8 t.F7.f t.F7.fd Ax (m_ mg 1 xo):=
 eh t.F7.h.fu sc_law λcdv A outer s H E c=>
  have d:=c.units
  (au (d8 (a_ (pK t) (c.mono (by decide)) (by rfl) t.Kg.h cC (aa (qv 0) ai) (aw aZ)) (cJ rfl (aO (aC sc_law.nd rfl (.inl rfl)) (aO (aC sc_law.nd rfl (.inl rfl)) (aO (aC sc_law.nd rfl (.inl rfl)) ce (λ_ a _ b=>aA a b)) (λ_ a _ b=>aA a b)) (λ_ a _ b=>aA a b))))
    (au (dw sc_law.nd rfl (.inl rfl) (a_ (xq t) (c.mono (by decide)) (by rfl) t.J5.h cC (aa (qv 1) (aa (a_ (lL t) (c.mono (by decide)) (by rfl) t.JW.h cC (aa (a_ (cE t) (c.mono (by decide)) (by rfl) t.Cu.h cC (aa (qv 0) (aa az ai)) (aw (aw aZ))) (aa (aW (pv 1)) (aa (aW (pv 1)) ai))) (aw (aw (aw aZ)))) (aa (qv 3) ai))) (aw (aw (aw aZ)))))
    (au (bh sc_law.nd rfl (.inl rfl) (aE d5 (a_ (cE t) (c.mono (by decide)) (by rfl) t.Cu.h cC (aa (qv 0) (aa az ai)) (aw (aw aZ))) az))
    (au (bh sc_law.nd rfl (.inl rfl) (aE bo (aE d5 (qv 5) az) (bp jz (by rfl) t.f6 (by decide +kernel) (aa (qv 4) ai))))
    (au (d7 (bQ (m7 d) (aE bo (qv 5) az) az (bG _)) (aG (dw sc_law.nd rfl (.inl rfl) (a_ (vk t) (c.mono (by decide)) (by rfl) t.J7.h cC (aa (qv 1) (aa (i7 (pv 4) (aE bo (aE bo (aE d5 (qv 5) az) az) (bp jz (by rfl) t.f6 (by decide +kernel) (aa (qv 4) ai))) (λ_ _=>rfl)) ai)) (aw (aw aZ))))) cc)
    (au (dw sc_law.nd rfl (.inl rfl) (a_ (vm t) (c.mono (by decide)) (by rfl) t.Ki.h cC (aa (qv 1) (aa (qv 2) ai)) (aw (aw aZ))))
    (au (dw sc_law.nd rfl (.inl rfl) (a_ (xw t) (c.mono (by decide)) (by rfl) t.Jb.h cC (aa (aW (pv 7)) (aa (aW (pv 7)) (aa (bN (aa (tO (aW (pv 4)) az (λ_ _=>rfl)) (aa (dS lw (by rfl) t.jX (by decide +kernel) (aa (tO (aW (pv 4)) az (λ_ _=>rfl)) ai)) ai))) ai))) (aw (aw (aw aZ)))))
    (au (dw sc_law.nd rfl (.inl rfl) (a_ (xw t) (c.mono (by decide)) (by rfl) t.Jb.h cC (aa (aW (pv 7)) (aa (aW (pv 7)) (aa (bN (aa (tO (i7 (pv 4) (qv 6) (λ_ _=>rfl)) az (λ_ _=>rfl)) (aa (dS lw (by rfl) t.jX (by decide +kernel) (aa (tO (i7 (pv 4) (qv 6) (λ_ _=>rfl)) az (λ_ _=>rfl)) ai)) ai))) ai))) (aw (aw (aw aZ)))))
    (au (d7 (PWD.pt (uG (bQ (DG d) (qv 7) (cn (aa (qv 1) (aa (qv 2) ai))) (bG _)) (pS (PWD.pt (pT (DY (qv 8)) (m8 (zW (yH (a_ (sK t) (c.mono (by decide)) (by rfl) t.JX.h cC (aa (qv 8) ai) (aw aZ)))))))))) (aG (br DD)) cc)
    (au (jA Vr rfl (g7 (by rfl) t.iz (aa (bp jz (by rfl) t.f6 (by decide +kernel) (aa (qv 4) ai)) ai)) (aC sc_law.nd rfl (.inl rfl)) (aG (d7 (yH (a_ (sL t) (c.mono (by decide)) (by rfl) t.J4.h cC (aa (qv 2) (aa (i7 (pv 4) (qv 10) (λ_ _=>rfl)) ai)) (aw (aw aZ)))) (au (d7 (PWD.pt (uG (pV (qv 8)) (pS (bQ (zV) (qv 8) (qv 10) (bG _))))) (aG (br DD)) cc)
    (aG (d7 (PWD.pt (pT (bQ (Jp) (qv 10) (qv 6) (bG _)) (m8 (PWD.pt (uG (pV (qv 9)) (pS (bQ (zV) (qv 9) (aE yF (qv 10) (qv 6)) (bG _)))))))) (aG (br DD)) cc))) cc)))
    (aG (br (OT (Li (qv 9)) (yG (DI (GZ (qv 8)) (yG (uF (OR) (qv 8) (aE bM (qv 6) (qv 9)) (bG _))))))))))))))))))
end
def Rf{K KK:Yy}{mg:Str->Option YA}{h:Heap}(X:K.In h)(G:h.Ns mainGlobals mg)(U:xN K KK)
 (Cu:FK K "_law_seed_at" ic) (J0:FK K "_law_arrow_by" gn) (Kj:FK K "_law_machine_by" bR) (JY:FK K "_law_rule_by" ii) (Kg:FK K "_law_made_by" eY) (J5:FK K "_law_run" jJ) (J8:FK K "_law_stack_by" gp) (JW:FK K "_law_standing_by" dN) (J7:FK K "_law_only" iN) (Ki:FK K "_law_copy" lb) (JZ:FK K "lowest_end" gB) (J1:FK K "priced_from" i_) (Ke:FK K "sums_ahead" jN) (J2:FK K "sums_along" jO) (J_:FK K "is_plain" jP) (F4:FK K "refuse_unless_plain" cI) (F6:FK K "rules_by_start" fW) (Kb:FK K "prices" rL) (Jb:FK K "least" vg) (JX:FK K "_law_whole" jT) (J4:FK K "_law_taken" fB) (F7:FK K "law" Fm)
 (m:nsIn K mainGlobals "all"=some none)
 (k:nsIn K mainGlobals "bool"=some none)
 (d:nsIn K mainGlobals "divmod"=some none)
 (c:nsIn K mainGlobals "enumerate"=some none)
 (n:nsIn K mainGlobals "int"=some none)
 (a:nsIn K mainGlobals "isinstance"=some none)
 (o:nsIn K mainGlobals "len"=some none)
 (l:nsIn K mainGlobals "list"=some none)
 (p:nsIn K mainGlobals "min"=some none)
 (f:nsIn K mainGlobals "range"=some none)
 (q:nsIn K mainGlobals "set"=some none)
 (e:nsIn K mainGlobals "sorted"=some none)
 (g:nsIn K mainGlobals "tuple"=some none)
 {CQ:Addr} (R:CK K KK "Queue" CQ) (z:findIn KK (.ref CQ) "last"=some none) (A:findIn KK (.ref CQ) "piles"=some none)
 {CP:Addr} (S:CK K KK "Pricing" CP) (B:findIn KK (.ref CP) "rules"=some none) (C:findIn KK (.ref CP) "told"=some none) (D:findIn KK (.ref CP) "offers"=some none) (E:findIn KK (.ref CP) "settled"=some none) (F:findIn KK (.ref CP) "lacking"=some none)
 {H:Addr} (i:MK KK CQ "__init__" "Queue.__init__" Ng H)
 {I:Addr} (r:MK KK CQ "add" "Queue.add" Nh I)
 {J:Addr} (s:MK KK CQ "is_empty" "Queue.is_empty" Ni J)
 {L:Addr} (u:MK KK CQ "take_lowest" "Queue.take_lowest" IG L)
 {M:Addr} (j:MK KK CP "__init__" "Pricing.__init__" Nj M)
 {N:Addr} (v:MK KK CP "offer" "Pricing.offer" Nk N)
 {O:Addr} (w:MK KK CP "settle" "Pricing.settle" Nl O)
 {P:Addr} (x:MK KK CP "settle_first" "Pricing.settle_first" Nm P)
 {Q:Addr} (y:MK KK CP "settle_all" "Pricing.settle_all" Nn Q)
 : ∃t:Tx KK mg,True:=by
 obtain⟨Cu⟩:=df (ps:=eM) X G U Cu;obtain⟨J0⟩:=df (ps:=dD) X G U J0;obtain⟨Kj⟩:=df (ps:=cM) X G U Kj;obtain⟨JY⟩:=df (ps:=eU) X G U JY;obtain⟨Kg⟩:=df (ps:=eZ) X G U Kg;obtain⟨J5⟩:=df (ps:=jK) X G U J5;obtain⟨J8⟩:=df (ps:=dF) X G U J8;obtain⟨JW⟩:=df (ps:=cw) X G U JW;obtain⟨J7⟩:=df (ps:=iO) X G U J7;obtain⟨Ki⟩:=df (ps:=iQ) X G U Ki;obtain⟨JZ⟩:=df (ps:=gC) X G U JZ;obtain⟨J1⟩:=df (ps:=gb) X G U J1;obtain⟨Ke⟩:=df (ps:=gD) X G U Ke;obtain⟨J2⟩:=df (ps:=gF) X G U J2;obtain⟨J_⟩:=df (ps:=jQ) X G U J_;obtain⟨F4⟩:=df (ps:=b8) X G U F4;obtain⟨F6⟩:=df (ps:=fY) X G U F6;obtain⟨Kb⟩:=df (ps:=nI) X G U Kb;obtain⟨Jb⟩:=df (ps:=qg) X G U Jb;obtain⟨JX⟩:=df (ps:=gH) X G U JX;obtain⟨J4⟩:=df (ps:=gI) X G U J4;obtain⟨F7⟩:=df (ps:=Ax) X G U F7;have NL:=PU R i;obtain⟨NY,rfl⟩:=mf (ps:=["self"]) i;obtain⟨I_,rfl⟩:=mf (ps:=["self","price","thing"]) r;obtain⟨NV,rfl⟩:=mf (ps:=["self"]) s;obtain⟨NN,rfl⟩:=mf (ps:=["self"]) u;have NS:=PU S j;obtain⟨NP,rfl⟩:=mf (ps:=["self","house"]) j;obtain⟨zl,rfl⟩:=mf (ps:=["self","arrow","price","number","mid"]) v;obtain⟨NK,rfl⟩:=mf (ps:=["self","arrow","price"]) w;obtain⟨N0,rfl⟩:=mf (ps:=["self","number","rule","mid","price"]) x;obtain⟨NM,rfl⟩:=mf (ps:=["self"]) y;exact⟨⟨Cu,J0,Kj,JY,Kg,J5,J8,JW,J7,Ki,JZ,J1,Ke,J2,J_,F4,F6,Kb,Jb,JX,J4,F7,Vt X G m,Vt X G k,Vt X G d,Vt X G c,Vt X G n,Vt X G a,Vt X G o,Vt X G l,Vt X G p,Vt X G f,Vt X G q,Vt X G e,Vt X G g,CQ,⟨R.cl,z,A⟩,PySem.W.mg_of X G R.b,CP,⟨S.cl,B,C,D,E,F⟩,PySem.W.mg_of X G S.b,NY,NL,I_,NV,NN,NP,NS,zl,NK,N0,NM⟩,tI_⟩
def Nq{l:PySem.W.OpenLaw}{w:World}{K:Yy}{mg:Str->Option YA}{fa:Addr}(a:mg "law"=some (.ref fa)) (T:∃t:Tx K mg,True) :
 ∃fd:FuncData,(∀(s:Yx)(v:YA),BindsTo s fd ⟨[v],[]⟩ [("_law_script",v)])/\∀base:Heap,bO l.prog w K mg base jw 8 fa fd ["_law_script"] (R3 xo):=by
 obtain⟨t,_⟩:=T;have e:=a.symm.trans t.F7.h.gl;cases e;obtain⟨oc,od,kV,doc,pm,an,cdv,ct,osl,b,lk,c⟩:=t.F7.h.fu.ex;exact⟨t.F7.fd,λs v=>by rw[b];exact .of_eq rfl,λbase=>bO.top (Np t)⟩
end W
namespace W
open PySem L2 L3 L4
def rO(h:0<y)(a:y<1073741824):eF [.val (.int x) f al,.val (.int y) g bl]=.ok (.val (.tup [.int (x/y),.int (x%y)]) true []):=UP ⟨h,a⟩
def Fp(f:En->Res R)(env:En):Lh f env=(f env).bind λra=>.ok (.val (.bl ra.d.fJ) true []):=(rfl)
def Fq:uN [.new ds f]=.ok (jy (.tup ds) f []):=(rfl)
def Nr:He [.val (.bl b) f al]=.ok (.val (.int (if b then 1 else 0)) true []):=(rfl)
def iT(c:i<env.length)(d:j<env.length):Fc (gT 2 (aL (gN i) (aL (gN j) cr))) env (.val (.tup [a,b]) f [])=.ok (.nx ((env.set i (some (.val a f))).set j (some (.val b f)))):=by refine Fd ?_;show(aL (gN i) (aL (gN j) cr)) [a,b] f env=_;rw[nE,E3 c];show(aL (gN j) cr) [b] f _=_;rw[nE,E3 (by grind)];rfl
theorem AE(k:List Int):∀l,(sv k l).length<=l.length+1
 |[]=>by simp[sv]
 |h::t=>by
  have:=AE k t;unfold sv;split
  .simp
  .split<;>simp<;>lia
theorem xx:∀ks,(fO ks).length<=ks.length
 |[]=>UN _
 |k::r=>by have h1:=AE k (fO r);have a:=xx r;unfold fO;simp only[U1];lia
def Rg(a:r.d=.lst (ks.map jf))(h:ks.length<=63)(b:ks.all (λk=>!k.isEmpty)=true)(nd:ks.Nodup):Hv [r]=.ok (.new ((fO ks).map jf) true):=by
 simp_all [R,jf,Hv,fO,Hu,lD]
abbrev vv(d:D)(f:Bool):Option Sl:=some (.val d f)
abbrev ow(d:List D)(f:Bool):Option Sl:=some (.own d f)
def sd(ns:List Int)(k:Int):Int:=((if k<ns.length then(dk ns k).getD 0 else 0)%2147483647+11)*48271*69621%2147483629
def xy(ns:List Int)(k:Int):0<=sd ns k:=by unfold sd;lia
def nO(ns:List Int)(k:Int)(c:0<=k):bD [.lst (ns.map .int),.int k]=.ok (.val (.int (sd ns k)) true []):=by
 by_cases h:k<ns.length
 .have hd:decide (k<(ns.length:Int))=true:=U6 h;obtain⟨a,b,_⟩:=rF c h;have ha:dk (ns.map D.int) k=some (.int a):=by rw[nF,b];rfl
  simp_arith[bD,ie,UO,hd,ha];unfold sd;rw[UP h,b];rfl
 .have hd:decide (k<(ns.length:Int))=false:=U_ h;simp_arith[bD,ie,UO,hd];unfold sd;rw[UV h]
def dc(t:Pz.bc):(bI t).flat=true:=(rfl)
def Ft(t:Pz.bc):(bI t).dep<=1:=UN _
def cz(r:Pz.aV):(bx r).flat=true:=by unfold bx;simp only[xk,jH,rD,bJ,t9,XZ]
def t_(r:Pz.aV):(bx r).dep<=2:=by have:=gO r.2.2.2;unfold bx;simp only[p_,gM,p9,jl];lia
structure RR(ro sg:Int) (r:Pz.aV):Prop where
 a:0<=r.1/\r.1<ro
 s:0<=r.2.1/\r.2.1<sg
 t:0<=r.2.2.1/\r.2.2.1<ro
 p:r.2.2.2.length<=2
 q:∀x∈r.2.2.2,0<=x/\x<sg
def Mc(n:Int)(ts:List Pz.bc)(es:List Int):D:=.tup [.int n,.lst (ts.map bI),.lst (es.map .int)]
def de(n:Int)(ts:List Pz.bc)(es:List Int):(Mc n ts es).flat=false:=by constructor<;>grind
structure PM(ro sg n:Int) (ts:List Pz.bc) (es:List Int):Prop where
 rn:ro<=n
 T8:n<=ro+22
 arr:∀t∈ts,0<=t.1/\t.1<n/\0<=t.2.1/\t.2.1<sg/\ro<=t.2.2/\t.2.2<n
 lt:ts.length<=29
 nd:ts.Nodup
 ends:∀e∈es,0<=e/\e<n
 le:es.length<=6
def Hs(ro sg:Int)(RL:List Pz.aV):D:=.tup [.int ro,.int sg,.lst (RL.map bx)]
def rP(h:f env=.ok (.val (.lst ds) fr al)):d_ n caps (kG f) asg ft fe env=kZ n caps asg ft fe env ⟨ds,fr,al⟩:=by rw[jG,EZ,h];rfl
def dH(ro sg:Int)(RL:List Pz.aV):(Hs ro sg RL).flat=false:=by constructor<;>grind
def Nt(ro sg:Int)(RL:List Pz.aV):(Hs ro sg RL).dep<=4:=by have:=nC (g:=bx) (xs:=RL) t_;unfold Hs;simp only[p_,gM,p9,jl,iJ];lia
def Nu(n:Int)(ts:List Pz.bc)(es:List Int):(Mc n ts es).dep<=3:=by have:=nC (g:=bI) (xs:=ts) Ft;have:=gO es;unfold Mc;simp only[p_,gM,p9,jl,iJ];lia
def Fu(P:PM ro sg n ts es):b9 [Hs ro sg RL,Mc n ts es]=.ok (.val .bv true []):=by
 have a:jR [Hs ro sg RL,Mc n ts es]=.ok (.val (.bl true) true []):=by
  have f:=P.lt;have h:=gL (mk:=λd=>gN 0 d false (g8 [vv (Hs ro sg RL) false,vv (Mc n ts es) false] 1 [0])) (test:=λ_=>.ok true) (elt:=fy) bI (λ_=>.val (.bl true) true []) ts λt b=>⟨_,rfl,rfl,by show fy [vv (bI t) false,vv (Hs ro sg RL) false]=_;have:=P.arr t b;have hd:decide (ro<=t.2.2)=true:=U6 (by lia);unfold bI Hs;simp_arith[fy,hd]⟩;have e:d_ 1 [0] (kG (bz 1 (vC (.int 1)))) (gN 0) (λ_=>.ok true) fy [vv (Hs ro sg RL) false,vv (Mc n ts es) false]=.ok (.new (ts.map λ_=>D.bl true) true):=by have g:D.be (ts.map bI)=true:=bj _ _ dc;rw[rP (ds:=ts.map bI) (fr:=false) (al:=[]) (by unfold Mc;simp_arith)];rw[f_ (by grind) h,lY,dz,h_ (bj _ _ λc=>rfl)]
  simp_arith[-jG,jR,rK,e,B_]
 simp_arith[b9,fQ,dH,de,a]
noncomputable def oW(ro sg n:Int):List Pz.bc:=(List.range ro.toNat).flatMap λa=>(List.range sg.toNat).flatMap λs=>(List.range n.toNat).map λt=>(((a:Nat):Int),((s:Nat):Int),((t:Nat):Int))
def univ_mem:((a,s,t):Pz.bc)∈oW ro sg n↔(0<=a/\a<ro)/\(0<=s/\s<sg)/\0<=t/\t<n:=by
 unfold oW;simp only[Yr,UY,Vp,Prod.mk.injEq];constructor
 .rintro⟨x,b,y,c,z,hz,rfl,rfl,rfl⟩;lia
 .rintro⟨h1,d,e⟩;exact⟨a.toNat,by lia,s.toNat,by lia,t.toNat,by lia,by lia,by lia,by lia⟩
def Cd{α:Type}(c:Nat):∀l:List α,(l.map λ_=>c).sum=l.length*c:=by intro l;induction l<;>grind
def Fv(ro sg n:Int):(oW ro sg n).length=ro.toNat*(sg.toNat*n.toNat):=by
 simp_all [oW,Cd]
def mL(t:Pz.TD):(gs t).flat=false:=k7 _ _
def JO(c ro sg:Int):Pz.aV:=
 let n:=c*48271%2147483647
 (n/3%6%ro,n/3/6%60%sg,n/3/6/60%6%ro,dn [n/3/6/60/6%60%sg,n/3/6/60/6/60%sg] none (some (n%3)))
def IH(c ro sg:Int)(h1:0<ro)(d:0<sg):eV [.int c,.int ro,.int sg]=.ok (.val (bx (JO c ro sg)) true []):=by have e:∀a b:Int,∀k:Option Int,dn [D.int a,D.int b] none k=(dn [a,b] none k).map D.int:=λa b k=>rE D.int [a,b] none k;simp_arith[eV,k9,h1,d,rO,iT,e,bJ,Fq];rfl
def Nv(c ro sg:Int)(h1:0<ro)(d:0<sg):RR ro sg (JO c ro sg):=
 have e:∀a b:Int,0<b->0<=a%b/\a%b<b:=λa b h=>⟨Wf _ (by lia),VY _ h⟩
 ⟨e _ _ h1,e _ _ d,e _ _ h1,Fh _ _ _,λx f=>by
   have:=Fi _ _ _ x f;rcases US.mp this with h|h
   .rw[h];exact e _ _ d
   .rw[U5.mp h];exact e _ _ d⟩
noncomputable def Ce(c ro own sg:Int):Pz.bc:=
 let n:=c*69621%2147483629
 (n%60%(ro+own),n/60%60%sg,ro+n/60/60%own)
def Fw(c ro own sg:Int)(h1:0<ro)(a:0<own)(b:0<sg):dE [.int c,.int ro,.int own,.int sg]=.ok (.val (bI (Ce c ro own sg)) true []):=by
 have d:0<ro+own:=by lia
 simp_arith[dE,j7,d,a,b,rO,iT];rfl
def Nw(c ro own sg:Int)(h1:0<ro)(d:0<own)(e:0<sg):0<=(Ce c ro own sg).1/\(Ce c ro own sg).1<ro+own/\0<=(Ce c ro own sg).2.1/\(Ce c ro own sg).2.1<sg/\ro<=(Ce c ro own sg).2.2/\(Ce c ro own sg).2.2<ro+own:=by unfold Ce;have a:=Wf (c*69621%2147483629/60/60) (show own≠0 by lia);have b:=VY (c*69621%2147483629/60/60) d;refine⟨Wf _ (by lia),VY _ (by lia),Wf _ (by lia),VY _ e,?_,?_⟩<;>(simp only[];lia)
def Rh(a:r.d=.lst (ks.map jf))(h:ks.length<=63)(b:ks.all (λk=>!k.isEmpty)=true):Jt r=.ok (.new ((fO ks).map jf) true):=by grind [Jt,Ho,lD,jf]
noncomputable def JP:List Int->Pz.bc
 |[a,b,c]=>(a,b,c)
 |_=>(0,0,0)
def xA(t:Pz.bc):List Int:=[t.1,t.2.1,t.2.2]
def dQ(ts:List Pz.bc):List Pz.bc:=(fO (ts.map xA)).map JP
def rQ(ts:List Pz.bc):(dQ ts).length<=ts.length:=by grind [xx,xA,dQ]
def AF(ts:List Pz.bc):(fO (ts.map xA)).map jf=(dQ ts).map bI:=by unfold dQ;rw[Vb];refine V1 λk a=>?_;obtain⟨t,_,rfl⟩:=UY.mp ((jg k _).mp a);rfl
theorem jV(t:Pz.bc):JP (xA t)=t:=(rfl)
def rR(ts:List Pz.bc)(t:Pz.bc):t∈dQ ts↔t∈ts:=by induction ts<;>grind [dQ,xA,jg,jV]
theorem lH{α c:Type}(f:α->c):∀{l:List α},l.Nodup->(∀a∈l,∀b∈l,f a=f b->a=b)->(l.map f).Nodup
 |[],_,_=>by simp
 |a::r,h,d=>by
  have h':=Vu.mp h;rw[UR,Vu];refine⟨λi=>?_,lH f h'.2 λx e y g=>d x (by simp[e]) y (by simp[g])⟩
  grind
def mM(ts:List Pz.bc):(dQ ts).Nodup:=by
 unfold dQ;refine lH _ ((pX _).imp λ{a b} h e=>?_) λa ha b c e=>?_
 .subst e;rw[mV]at h;cases h
 .grind [jg,jV]
def zi(ts:List Pz.bc)(h:ts.length<=63)(a:r.d=.lst (ts.map bI)):Jt r=.ok (.new ((dQ ts).map bI) true):=by
 have e:r.d=.lst ((ts.map xA).map jf):=by rw[a,Vb];rfl
 rw[Rh e (by grind) (by rw[Yu,VJ];intro t _;rfl),AF]
def Fx(ts:List Pz.bc)(h:ts.length<=63)(nd:ts.Nodup)(c:r.d=.lst (ts.map bI)):Hv [r]=.ok (.new ((dQ ts).map bI) true):=by
 have e:r.d=.lst ((ts.map xA).map jf):=by rw[c,Vb];rfl
 rw[Rg e (by grind) (by rw[Yu,VJ];intro t _;rfl) (lH xA nd λa _ b _ e=>by rw[<- jV a,e,jV]),AF]
def rl(ro:Int)(k:Nat):Pz.bc:=(ro,(k:Int),ro)
noncomputable def JQ(bits:Int)(k:Nat):Bool:=Builtin.bitAnd (bits/2^((k:Int)).toNat) 1==1
def jW(bits:Int)(n:Nat):List Int:=((List.range n).filter (JQ bits)).map λk=>((k:Nat):Int)
def Fy(bits:Int)(n:Nat):(jW bits n).length<=n:=by grind [jW]
def II(bits:Int)(n:Nat):∀e∈jW bits n,0<=e/\e<n:=λe a=>by grind [jW]
section
variable{e0 e1 e2 e3 e4 e5 e6 e7 e8:Option Sl}{g1 g2 g3 fr:Bool}
def Tu(n:Nat)(a:n<=1000000):kZ 1 [2] (gN 0) (λ_=>.ok true) bU [e0,e1,vv (.int ro) g1,e3,e4,e5,e6,e7,e8] ⟨dg 0 n,fr,[]⟩=.ok (.new (((List.range n).map (rl ro)).map bI) true):=by have h:=gL (mk:=λd=>gN 0 d fr (g8 [e0,e1,vv (.int ro) g1,e3,e4,e5,e6,e7,e8] 1 [2])) (test:=λ_=>.ok true) (elt:=bU) (λk:Nat=>D.int k) (λk:Nat=>.val (bI (rl ro k)) true []) (List.range n) λk b=>⟨_,rfl,rfl,by show bU [vv (.int (k:Nat)) fr,vv (.int ro) g1]=_;simp_arith[bU];rfl⟩;rw[lE,f_ (by grind) h,lY,dz,h_ (bj _ _ λc=>rfl),Vb];rfl
def Tv(h1:0<ro)(a:0<own)(b:0<sg)(xs:List Int)(e:xs.length<=1000000):kZ 1 [2,3,4] (gN 0) (λ_=>.ok true) bF [e0,e1,vv (.int ro) g1,vv (.int own) g2,vv (.int sg) g3,e5,e6,e7,e8] ⟨xs.map .int,fr,[]⟩=.ok (.new ((xs.map λc=>Ce c ro own sg).map bI) true):=by have h:=gL (mk:=λd=>gN 0 d fr (g8 [e0,e1,vv (.int ro) g1,vv (.int own) g2,vv (.int sg) g3,e5,e6,e7,e8] 1 [2,3,4])) (test:=λ_=>.ok true) (elt:=bF) D.int (λc=>.val (bI (Ce c ro own sg)) true []) xs λc f=>⟨_,rfl,rfl,by show bF [vv (.int c) fr,vv (.int ro) g1,vv (.int own) g2,vv (.int sg) g3]=_;simp_arith[bF,Fw c ro own sg h1 a b,dc]⟩;rw[f_ (by grind) h,lY,dz,h_ (bj _ _ λc=>rfl),Vb];rfl
def Rj(n:Nat)(b:n<=1000000):kZ 1 [0] (gN 0) bV bW [vv (.int c) g1,e1,e2,e3,e4,e5,e6,e7,e8] ⟨dg 0 n,fr,[]⟩=.ok (.new ((jW (c/10%32) n).map .int) true):=by
 have h:=db (mk:=λd=>gN 0 d fr (g8 [vv (.int c) g1,e1,e2,e3,e4,e5,e6,e7,e8] 1 [0])) (test:=bV) (elt:=bW) (λk:Nat=>D.int k) (JQ (c/10%32)) (λk=>.val (.int k) true []) (List.range n) λk e=>⟨_,rfl,by
  show bV [vv (.int (k:Nat)) fr,vv (.int c) g1]=_;have a:(0:Int)<=((k:Nat):Int):=by lia
  simp_arith[bV,a,nz];rfl,λ_=>by
  show bW [vv (.int (k:Nat)) fr,vv (.int c) g1]=_;simp_arith[bW]⟩
 rw[lE,f_ (by grind) h,lY,dz,h_ (bj _ _ λc=>rfl)];unfold jW;rw[Vb];rfl
end
def AG{ro sg a b:Int}(j:0<ro)(s1:0<sg)(s2:sg<=5)(ha:0<=a/\a<ro)(l:0<=b/\b<sg):PM ro sg (ro+1) (dQ ((a,b,ro)::(List.range sg.toNat).map (rl ro))) [ro]/\∀f,Hv [.new (D.tup [.int a,.int b,.int ro]::((List.range sg.toNat).map (rl ro)).map bI) f]=.ok (.new ((dQ ((a,b,ro)::(List.range sg.toNat).map (rl ro))).map bI) true):=by
 have nd:((a,b,ro)::(List.range sg.toNat).map (rl ro)).Nodup:=by
  rw[Vu];refine⟨λh=>?_,lH _ W0 λx _ y _ e=>?_⟩
  .obtain⟨k,_,e⟩:=UY.mp h;have:ro=a:=Wo (λt:Pz.bc=>t.1) e;lia
  .have:(x:Int)=(y:Int):=Wo (λt:Pz.bc=>t.2.1) e;lia
 have c:((a,b,ro)::(List.range sg.toNat).map (rl ro)).length<=6:=by simp;lia
 have al:=rQ ((a,b,ro)::(List.range sg.toNat).map (rl ro));refine⟨⟨by lia,by lia,λt d=>?_,by lia,mM _,λe g=>?_,by simp⟩,λf=>Fx ((a,b,ro)::(List.range sg.toNat).map (rl ro)) (by lia) nd (iL _ f)⟩
 .clear al c nd;rcases US.mp ((rR _ t).mp d)with rfl|h
  .simp only[];lia
  .obtain⟨k,i,rfl⟩:=UY.mp h;have:=Vp.mp i;simp only[rl];lia
 .rw[U5]at g;lia
def Rk(c:Int)(N:0<=c)(xs:List Int)(O:xs.length<=9)(ro own sg:Int)(h1:0<ro)(H:ro<=3)(P:0<=own)(I:own<=2)(q:own=0->xs=[])(i:0<sg)(r:sg<=5) :
 ∃n ts es al,PM ro sg n ts es/\(c/320%4<2->ts.length<=9/\es.length<=5/\n<=ro+2)/\bE [.int c,.lst (xs.map .int),.int ro,.int own,.int sg]=.ok (.val (Mc n ts es) true al):=by
 have s:D.be (List.map D.int xs)=true:=bJ _;generalize o:c/320%4=g;have em:∀a b:Int,0<b->0<=a%b/\a%b<b:=λa b h=>⟨Wf _ (by lia),VY _ h⟩;have s1:-4611686018427387904<=sg:=by lia
 have s2:sg<4611686018427387904:=by lia
 have y:-4611686018427387904<=ro+own:=by lia
 have z:ro+own<4611686018427387904:=by lia
 by_cases A:g=2
 .have j:(g==2)=true:=W2.mpr A;generalize B:c/1280%ro=a;generalize C:c/7680%sg=b;have ha:0<=a/\a<ro:=by rw[<- B];exact em _ _ h1
  have J:0<=b/\b<sg:=by rw[<- C];exact em _ _ i
  obtain⟨pm,d⟩:=AG h1 i r ha J;refine⟨ro+1,_,[ro],?_,pm,λh=>by lia,?_⟩
  rotate_left
  .have fl:D.be (((List.range sg.toNat).map (rl ro)).map bI)=true:=bj _ _ dc;have u:[D.tup [.int a,.int b,.int ro]].length+(((List.range sg.toNat).map (rl ro)).map bI).length<=1000000:=by simp;lia
   simp_arith[bE,cf,o,nz,j,h1,i,B,C,t8,s1,s2,Tu sg.toNat (show sg.toNat<=1000000 by lia),zf u,fl,d];rfl
 .have j:(g==2)=false:=WV.mpr A;by_cases E:g=3
  .have p:(g==3)=true:=W2.mpr E;refine⟨ro,[],(List.range ro.toNat).map λk=>((k:Nat):Int),?_,⟨by lia,by lia,λt l=>(nomatch l),by simp,Ve,λe F=>?_,by simp;lia⟩,λh=>by lia,?_⟩
   rotate_left
   .grind
   .have q:0<=ro:=by lia
    have K:ro<=1000:=by lia
    simp_arith[bE,cf,o,nz,j,p,Fe q K,lE];unfold Mc;rw[Vb];rfl
  .have p:(g==3)=false:=WV.mpr E;have L:=Fy (c/10%32) (ro+own).toNat;have ends:∀e∈jW (c/10%32) (ro+own).toNat,0<=e/\e<ro+own:=λe F=>by have:=II _ _ e F;lia
   have G:(ro+own).toNat<=1000000:=by lia
   by_cases M:own=0
   .have v:∀f al,Jt (.val (.lst []) f al)=.ok (.new [] true):=λf al=>zi [] (by simp) (ga _ f al);have d:∀f,Jt (.new [] f)=.ok (.new [] true):=λf=>zi [] (by simp) (iL _ f);refine⟨ro+own,[],jW (c/10%32) (ro+own).toNat,?_,⟨by lia,by lia,λt l=>(nomatch l),by simp,Ve,ends,by lia⟩,λ_=>⟨by simp,by lia,by lia⟩,?_⟩
    rotate_left
    .have w:∀(env:En)(fr:Bool),kZ 1 [2,3,4] (gN 0) (λ_=>.ok true) bF env ⟨[],fr,[]⟩=.ok (.new [] true):=λ_ _=>rfl;rw[q M];simp_arith[bE,cf,o,nz,j,p,w,v,d,Rj (c:=c) (ro+own).toNat G,t8,y,z,bJ];rfl
   .have m:0<own:=by lia
    have al:=rQ (xs.map λc=>Ce c ro own sg);rw[UO]at al;refine⟨ro+own,dQ (xs.map λc=>Ce c ro own sg),jW (c/10%32) (ro+own).toNat,?_,⟨by lia,by lia,λt l=>?_,by lia,mM _,ends,by lia⟩,λ_=>⟨by lia,by lia,by lia⟩,?_⟩
    rotate_left
    .obtain⟨x,_,rfl⟩:=UY.mp ((rR _ t).mp l);exact Nw x ro own sg h1 m i
    .have v:∀f al,Jt (.val (.lst ((xs.map λc=>Ce c ro own sg).map bI)) f al)=_:=λf al=>zi _ (by grind) (ga _ f al);simp_arith[bE,cf,o,nz,j,p,s,Tv h1 m i xs (show xs.length<=1000000 by lia),v,Rj (c:=c) (ro+own).toNat G,t8,y,z,bJ];rfl
def IJ:iS [Hs ro sg RL,Mc n ts es]=.ok (.new [Hs ro sg RL,Mc n ts es] true):=by have a:D.be (RL.map bx)=true:=bj _ _ cz;have b:D.be (ts.map bI)=true:=bj _ _ dc;have c:D.be (es.map D.int)=true:=bJ _;unfold Hs Mc;simp_arith[iS,pC,a,b,c,Nd]
def xB(d:ro<=3)(s2:sg<=5)(e:n<=25):(oW ro sg n).length<=375:=by
 rw[Fv];have a:ro.toNat<=3:=by lia
 have b:sg.toNat<=5:=by lia
 have c:n.toNat<=25:=by lia
 exact Vf (Xi a (Xi b c)) (by decide)
def Nx(j:0<ro)(f:ro<=3)(s1:0<sg)(s2:sg<=5)(b:∀r∈RL,RR ro sg r)(e:RL.length<=60)(P:PM ro sg n ts es):Pz.Set RL ts (ts++oW ro sg n):=by
 have l:=P.T8;have g:=P.rn;have i:=P.lt;have u:=xB (n:=n) f s2 (by lia);have c:(ts++oW ro sg n).length<=404:=by rw[Vc];lia
 have d:∀s x t:Int,((s,x,t):Pz.bc)∈ts++oW ro sg n->0<=t/\t<n:=λs x t h=>by
  rcases U4.mp h with h|h
  .have:=P.arr _ h;simp only[]at this;lia
  .exact(univ_mem.mp h).2.2
 refine⟨λr h=>(b r h).p,λa h=>U4.mpr (.inl h),λr h=>U4.mpr (.inr (univ_mem.mpr ⟨(b r h).a,(b r h).s,?_⟩)),λr h s x t k=>U4.mpr (.inr (univ_mem.mpr ⟨(b r h).a,(b r h).s,d s x t k⟩)),?_,?_,?_⟩
 .have:=(b r h).t;lia
 .have:RL.length*((ts++oW ro sg n).length*(ts++oW ro sg n).length)<=60*(404*404):=Xi e (Xi c c);unfold Pz.L;lia
 .have:RL.length*(ts++oW ro sg n).length<=60*404:=Xi e c;unfold Pz.L;lia
 .unfold Pz.L;lia
def Cf(c:0<ro)(b:ro<=3)(s1:0<sg)(s2:sg<=5)(d:∀r∈RL,RR ro sg r)(e:RL.length<=60)(P:PM ro sg n ts es) :
 ∃t,nJ [Hs ro sg RL,Mc n ts es]=.ok (.jm (gs t))/\Pz.Good RL ts (ts++oW ro sg n) t/\t.length<=404:=by
 obtain⟨t,h,G⟩:=L0 (Nx c b s1 s2 d e P) (Fu P);refine⟨t,h,G,?_⟩;have i:=P.T8;have f:=P.lt;have u:=xB (n:=n) b s2 (by lia);have:=Pz.nv _ (ts++oW ro sg n) G.nd λa ha=>by obtain⟨x,g,rfl⟩:=UY.mp ha;exact G.u x.1 x.2 (Pz.rh G.nd (by obtain⟨a,v⟩:=x;exact g))
 rw[UO,Vc]at this;lia
theorem AH{a:Type}(el:Pz.bc×Pz.nX->a)(k:Int×Int):∀(t:Pz.TD)(d:Pz.MD (Int×Int) a),(t.foldl (λd x=>d.app (x.1.1,x.1.2.1) (el x)) d).get k=d.get k++(t.filter λx=>decide ((x.1.1,x.1.2.1)=k)).map el
 |[],d=>by simp
 |x::t,d=>by
  rw[Wu,AH el k t,Pz.pZ,WZ]
  grind
def rS{a:Type}(el:Pz.bc×Pz.nX->a)(k:Int×Int)(t:Pz.TD):(p8 el t).get k=(t.filter λx=>decide ((x.1.1,x.1.2.1)=k)).map el:=by unfold p8;rw[AH];rfl
theorem Fz{a:Type}(eD:a->D)(k:Int×Int):∀d:Pz.MD (Int×Int) a,getD (d.map λe=>(.inr (k2 e.1):DK)) (d.map λe=>.lst (e.2.map eD)) (.inr (k2 k))=if d.has k then some (.lst ((d.get k).map eD))else none
 |[]=>rfl
 |x::d=>by
  have b:=Fz eD k d;rw[UR,UR];unfold getD;rw[b,Pz.cV];unfold Pz.MD.has
  grind [rq]
def IK{b:Type}(k:Int×Int)(d:Pz.MD (Int×Int) b)(h:d.has k=false):d.get k=[]:=by
 induction d with
 |nil=>rfl
 |cons x d a=>unfold Pz.MD.has at h a;rw[WK,Bool.or_eq_false_iff]at h;rw[Pz.cV,UV (of_decide_eq_false h.1)];exact a h.2
def Ny{a:Type}(k:Int×Int)(d:Pz.MD (Int×Int) a):(d.map λe=>(.inr (k2 e.1):DK)).all (mD (.inr (k2 k)))=true:=by rw[Yu,VJ];intro x _;rfl
def IL{c:Type}{eD:c->D}{d:Pz.MD (Int×Int) c}{fa fk fx:En->Res R}{env:En}{f:Bool}{a b:Int}{r:R}(h1:fa env=.ok (.val (EL eD d) f []))(g:fk env=.ok r)(i:r.d=.tup [.int a,.int b])(j:fx env=.ok (.new [] true)) :
 ∃f',wI fa fk fx env=.ok (.val (.lst ((d.get (a,b)).map eD)) f' []):=by
 have k:hI r.d=some (.inr (k2 (a,b))):=by rw[i];rfl
 have e:wI fa fk fx env=O5 (.val (EL eD d) f []) (d.map λe=>(.inr (k2 e.1):DK)) (d.map λe=>.lst (e.2.map eD)) r (.new [] true):=by rw[zh,h1,zg,QX (ks:=d.map λe=>(.inr (k2 e.1):DK)) (ds:=d.map λe=>.lst (e.2.map eD)) rfl,g,zg,JK,j,zg]
 rw[e];unfold O5;rw[k];dsimp only;rw[UP (Ny (a,b) d),Fz];cases h:d.has (a,b)with
 |true=>exact⟨f,by rw[UP rfl];dsimp only;rw[i9 (nB _)];rfl⟩
 |false=>exact⟨true,by rw[UV (by simp),IK _ _ h];dsimp only;rw[iL,i9 (nB _)];rfl⟩
def nP{a:Type}(eD:a->D)(d:Pz.MD (Int×Int) a):(EL eD d).flat=false:=k7 _ _
def mN(t:Pz.TD):Int->List Int->Int->Int->Prop
 |a,[],b,v=>b=a/\v=0
 |a,x::w,b,v=>∃m p u,Pz.At t (a,x,m) p/\mN t m w b u/\v=p+u
def pth_app{a:Int}:mN t a (w++z) b v↔∃m u p,mN t a w m u/\mN t m z b p/\v=u+p:=by
 induction w generalizing a v with
 |nil=>simp only[List.nil_append,mN];grind
 |cons x w f=>
  simp only[List.cons_append,mN,f];constructor
  .rintro⟨m,p,_,h1,⟨c,u2,p2,d,e,rfl⟩,rfl⟩;exact⟨c,p+u2,p2,⟨m,p,u2,h1,d,rfl⟩,e,by lia⟩
  .rintro⟨c,_,p2,⟨m,p,u2,h1,d,rfl⟩,e,rfl⟩;exact⟨m,p,u2+p2,h1,⟨c,u2,p2,d,e,rfl⟩,by lia⟩
def pth_one:mN t a [x] b v↔Pz.At t (a,x,b) v:=by simp only[mN];grind
section
variable{β:Type}
abbrev AL(β:Type):=List (Int×β)
noncomputable def cF:AL β->Int->Option β
 |[],_=>none
 |x::l,k=>if x.1=k then some x.2 else cF l k
noncomputable def lc:AL β->Int->β->AL β
 |[],k,v=>[(k,v)]
 |x::l,k,v=>if x.1=k then(k,v)::l else x::lc l k v
def aD(w:β->D)(l:AL β):D:=.dZ (l.map λx=>ik x.1) (l.map λx=>w x.2)
def Nz(h:ik a=ik b):a=b:=by unfold ik at h;injection h with h;injection h
theorem vn{a b:Int}:ik a=ik b↔a=b:=⟨Nz,λh=>by rw[h]⟩
def JR(w:β->D)(k:Int)(l:AL β):getD (l.map λx=>ik x.1) (l.map λx=>w x.2) (ik k)=(cF l k).map w:=by
 induction l with
 |nil=>rfl
 |cons x l a=>simp only[UR,getD,vn,a,cF];split<;>rfl
def AI(k:Int)(l:AL β):(l.map λx=>ik x.1).all (mD (ik k))=true:=by rw[Yu,VJ];intro x _;rfl
def JS(k:Int)(l:AL β):oE (l.map λx=>ik x.1) (ik k)=(cF l k).isSome:=by
 induction l with
 |nil=>rfl
 |cons x l a=>unfold oE at *;grind [vn,cF]
def Rm(k:Int)(v:β)(l:AL β):cF l k=none->lc l k v=l++[(k,v)]:=by induction l<;>grind [cF,lc]
def Rn(w:β->D)(k:Int)(v:β)(l:AL β)(h:¬k∈l.map (·.1)):tT (l.map λx=>ik x.1) (l.map λx=>w x.2) (ik k) (w v)=l.map λx=>w x.2:=by
 induction l with
 |nil=>rfl
 |cons x l a=>simp only[UR,tT,vn];grind
def Ro(w:β->D)(k:Int)(v:β)(l:AL β):(l.map (·.1)).Nodup->(cF l k).isSome=true->((lc l k v).map λx=>ik x.1)=(l.map λx=>ik x.1)/\((lc l k v).map λx=>w x.2)=tT (l.map λx=>ik x.1) (l.map λx=>w x.2) (ik k) (w v):=by
 induction l with
 |nil=>grind [cF]
 |cons x l a=>have:=Rn w k v l;simp only[UR,tT,vn];grind [cF,lc]
def Rp(w:β->D)(k:Int)(v:β)(l:AL β)(nd:(l.map (·.1)).Nodup):kN (l.map λx=>ik x.1) (l.map λx=>w x.2) (ik k) (w v)=aD w (lc l k v):=by have:=Ro w k v l nd;have:=Rm k v l;unfold kN aD;rw[JS];cases e:cF l k<;>simp_all
theorem xC(k:Int)(v:β)(j:Int)(l:AL β):cF (lc l k v) j=if k=j then some v else cF l j:=by induction l<;>grind [cF,lc]
def Cg(k:Int)(v:β)(l:AL β):(∀j,j∈(lc l k v).map (·.1)->j=k\/j∈l.map (·.1))/\((l.map (·.1)).Nodup->((lc l k v).map (·.1)).Nodup):=by
 induction l with
 |nil=>simp[lc]
 |cons x l b=>
  obtain⟨a,c⟩:=b;unfold lc;split
  .rename_i e;subst e;exact⟨λj h=>.inr h,id⟩
  .rename_i e;simp only[UR,US,Vu];exact⟨λj h=>h.elim (λh=>.inr (.inl h)) λh=>(a j h).imp id .inr,λh=>⟨λz=>(a _ z).elim e h.1,c h.2⟩⟩
def Ci{l:AL β}:cF l k=some b->(k,b)∈l:=by induction l<;>grind [cF]
def xD{l:AL β}:(l.map (·.1)).Nodup->(k,b)∈l->cF l k=some b:=by induction l<;>grind [cF]
structure Lw(pr:β->Int) (l:AL β) (C:List (Int×Int)):Prop where
 nd:(l.map (·.1)).Nodup
 on:∀k b,cF l k=some b->(k,pr b)∈C/\∀s,(k,s)∈C->pr b<=s
 no:∀k,cF l k=none->∀s,¬(k,s)∈C
def Lw.nil(pr:β->Int):Lw pr [] []:=⟨Ve,λ_ _ h=>(nomatch h),λ_ _ _=>U0⟩
def Lw.put(h:Lw pr l C)(k:Int)(v:β)(a:∀b,cF l k=some b->pr v<=pr b):Lw pr (lc l k v) (C++[(k,pr v)]):=by
 refine⟨(Cg k v l).2 h.nd,λj b e=>?_,λj e s hs=>?_⟩
 .have:=h.no j;have:=h.on j;rw[xC]at e;cases z:cF l j<;>grind
 .have:=h.no j
  grind [xC]
def Lw.keep(h:Lw pr l C)(e:cF l k=some b)(hs:pr b<=s):Lw pr l (C++[(k,s)]):=by cases h;constructor<;>grind
structure FX(t:Pz.TD) (a:Int) (w:List Int) (pr:β->Int) (l:AL β):Prop where
 nd:(l.map (·.1)).Nodup
 on:∀k b,cF l k=some b->mN t a w k (pr b)/\∀s,mN t a w k s->pr b<=s
 no:∀k,cF l k=none->∀s,¬mN t a w k s
def AJ(t:Pz.TD)(pr:β->Int)(x:Int)(l:AL β):List (Int×Int):=l.flatMap λy=>((p8 Ob t).get (y.1,x)).map λz=>(z.1,pr y.2+z.2)
def IM(nd:(t.map (·.1)).Nodup):(d,p)∈(p8 Ob t).get (c,x)↔Pz.At t (c,x,d) p:=by
 rw[rS,UY];constructor
 .rintro⟨⟨⟨f,g,h⟩,v⟩,a,e⟩;have:=Pz.rh nd (Vd.mp a).1
  grind [Ob,Pz.At]
 .rintro⟨v,b,rfl⟩;exact⟨((c,x,d),v),Vd.mpr ⟨Pz.nu b,U6 rfl⟩,rfl⟩
def vp(nt:(t.map (·.1)).Nodup):(k,s)∈AJ t pr x l↔∃q b p,(q,b)∈l/\Pz.At t (q,x,k) p/\s=pr b+p:=by
 simp only[AJ,Yr,UY,Prod.mk.injEq,Prod.exists,IM nt]
 grind
def FX.next{i:Type}{t:Pz.TD}{a x:Int}{w:List Int}{pr:β->Int}{l:AL β}{pr2:i->Int}{j:AL i}(nt:(t.map (·.1)).Nodup)(h:FX t a w pr l)(f:Lw pr2 j (AJ t pr x l)):FX t a (w++[x]) pr2 j:=by
 have le:∀k s,mN t a (w++[x]) k s->∃u,(k,u)∈AJ t pr x l/\u<=s:=λk s n=>by
  obtain⟨m,u,p,d,g,rfl⟩:=pth_app.mp n;cases e:cF l m with
  |none=>exact absurd d (h.no m e u)
  |some b=>exact⟨pr b+p,(vp nt).mpr ⟨m,b,p,Ci e,pth_one.mp g,rfl⟩,by have:=(h.on m b e).2 u d;lia⟩
 have:=f.on;have:=f.no;refine⟨f.nd,λk b e=>⟨?_,by grind⟩,by grind⟩;obtain⟨q,c,p,o,r,e5⟩:=(vp nt).mp (f.on k b e).1;exact pth_app.mpr ⟨q,pr c,p,(h.on q c (xD h.nd o)).1,pth_one.mpr r,e5⟩
def FX.one(h:pr b=0):FX t a [] pr [(a,b)]:=by constructor<;>grind [cF,mN]
def Lw.nY{e:Type}{t:Pz.TD}{x:Int}{pr:β->Int}{l:AL β}{pr2:e->Int}{a:AL e}{C:List (Int×Int)}(nt:(t.map (·.1)).Nodup)(d:Lw pr2 a C)(f:∀y∈C,y∈AJ t pr x l):a.length<=t.length:=by
 have:=Pz.nv (a.map (·.1)) (t.map λy=>y.1.2.2) d.nd λk g=>by obtain⟨⟨k,b⟩,h,rfl⟩:=UY.mp g;obtain⟨q,c,p,_,⟨v,i,_⟩,_⟩:=(vp nt).mp (f _ (d.on k b (xD d.nd h)).1);exact UY.mpr ⟨_,Pz.nu i,rfl⟩
 simpa using this
end
structure RO(t:Pz.TD) (es:List Int) (a:Int) (w:List Int) (o:Option Int):Prop where
 on:∀v,o=some v->(∃e∈es,mN t a w e v)/\∀e∈es,∀s,mN t a w e s->v<=s
 no:o=none->∀e∈es,∀s,¬mN t a w e s
def Rr(h:ra.d=.dZ ks ds):PY gk env ra=(gk env).bind (R9 ra ks ds):=by unfold PY;rw[h]
def NA(fa a:En->Res R)(env:En):Au fa a env=(fa env).bind (PY a env):=(rfl)
def JT(a:En->Res Bool)(fa c:En->Res R)(env:En):SJ a fa c env=(a env).bind λb=>if b then fa env else c env:=(rfl)
theorem JU{a:Type}(w:a->D):∀l:AL a,pG (l.map λx=>ik x.1) (l.map λx=>w x.2)=some (l.map λx=>.tup [.int x.1,w x.2])
 |[]=>rfl
 |x::l=>by rw[UR,UR];show Option.map _ (pG _ _)=_;rw[JU w l];rfl
def Rt{b:Type}{w:b->D}{asg:D->Bool->En->Option En}{a:En->Res Fl}{env:En}{fr:Bool}{l:AL b}:Ae asg a env (.val (aD w l) fr [])=kT (gy asg fr a (l.map λx=>.tup [.int x.1,w x.2]) env):=by show(match pG _ _ with|some xs=>kT (gy asg fr a xs env)|none=>.stuck)=_;rw[JU]
def cA{a:Type}(w:a->D)(l:AL a):(aD w l).flat=false:=k7 _ _
abbrev PV:=Int×Option Pz.bc
def oA:Option Pz.bc->D
 |none=>.bv
 |some a=>bI a
def du(b:PV):D:=.tup [.int b.1,oA b.2]
def fG(b:PV):(du b).flat=true:=by obtain⟨s,_|a⟩:=b<;>rfl
abbrev PL:=AL PV
def pF(b:PV):Int:=b.1
def IN(l:PL)(s:Int)(x:Pz.bc×Int):PL:=match cF l x.1.2.2 with
 |none=>lc l x.1.2.2 (s+x.2,some x.1)
 |some b=>if s+x.2<b.1 then lc l x.1.2.2 (s+x.2,some x.1)else l
def FA(h:Lw pF l C):Lw pF (IN l s x) (C++[(x.1.2.2,s+x.2)]):=by
 unfold IN;cases e:cF l x.1.2.2 with
 |none=>exact h.put _ _ λb d=>by grind
 |some b=>
  dsimp only;by_cases z:s+x.2<b.1
  .rw[UP z];exact h.put _ _ λc a=>by rw[e]at a;injection a with a;subst a;exact Xp z
  .rw[UV z];exact h.keep e (by unfold pF;lia)
abbrev eR(A:PL)(b:PV)(x:Pz.bc×Int)(e0 e1 e2 e4 e8:Option Sl)(g f:Bool):En:=[e0,e1,e2,some (.l7 (aD du A)),e4,vv (du b) g,vv (bI x.1) f,vv (.int x.2) f,e8]
def NB(nd:(A.map (·.1)).Nodup)(q:A.length<1000000) :
 ∃j,cp (eR A b x e0 e1 e2 e4 e8 g5 f')=.ok (.nx (eR (IN A b.1 x) b x e0 e1 e2 e4 j g5 f')):=by
 have a:Au (ao 3) (bz 6 (vC (.int 2))) (eR A b x e0 e1 e2 e4 e8 g5 f')=.ok (match cF A x.1.2.2 with|some c=>.val (du c) true []|none=>.val .bv true []):=by
  have h1:ao 3 (eR A b x e0 e1 e2 e4 e8 g5 f')=.ok (.val (aD du A) true [3]):=by simp_arith[cA]
  have g:bz 6 (vC (.int 2)) (eR A b x e0 e1 e2 e4 e8 g5 f')=.ok (.val (.int x.1.2.2) true []):=by unfold eR bI;simp_arith
  rw[NA,h1,zg,Rr (ra:=.val (aD du A) true [3]) rfl,g,zg];unfold R9;have p:hI (R.val (.int x.1.2.2) true []).d=some (ik x.1.2.2):=rfl;rw[p];dsimp only;rw[UP (AI _ A),JR];cases cF A x.1.2.2 with
  |none=>rfl
  |some c=>show Res.ok (jy (du c) true [3])=_;rw[ze (fG c)]
 have g:nA (bI x.1) (.int 2) true []=.ok (.val (.int x.1.2.2) true []):=by unfold bI;simp_arith
 have k:∀c:PV,∀f,nA (du c) (.int 0) f []=.ok (.val (.int c.1) true []):=λc f=>by have:=fG c;unfold du at *;simp_arith
 have h:∀i l m env,putAt i l m env (some (some (.l7 (aD du A))))=(m env).bind (Ac i l env (A.map λx=>ik x.1) (A.map λx=>du x.2)):=λ_ _ _ _=>rfl;have n:∀env,wG 3 env (A.map λx=>ik x.1) (A.map λx=>du x.2) (.tup [.int (b.1+x.2),bI x.1]) (.val (.int x.1.2.2) true [])=.ok (.nx (env.set 3 (some (.l7 (aD du (lc A x.1.2.2 (b.1+x.2,some x.1))))))):=λenv=>by rw[IC (x:=ik x.1.2.2) rfl (AI _ A) (by grind),<- Rp du _ _ A nd];rfl
 have fl:=fG b;unfold IN;cases e:cF A x.1.2.2 with
 |none=>rw[e]at a;refine⟨vv .bv true,?_⟩;simp_arith[cp,fG,a,g,k,h,n,Aw,dc]
 |some c=>
  rw[e]at a;refine⟨vv (du c) true,?_⟩;have o:(du c).fJ=false:=rfl;have r:=fG c;by_cases z:b.1+x.2<c.1
  .have hd:decide (b.1+x.2<c.1)=true:=U6 z;simp_arith[cp,fG,a,g,k,o,hd,h,n,Aw,dc];rw[UP z]
  .have hd:decide (b.1+x.2<c.1)=false:=U_ z;simp_arith[cp,fG,a,g,k,o,hd,dc];rw[UV z]
def R_(t:Pz.TD)(a p1:Int):List (Pz.bc×Int):=(p8 HR t).get (a,p1)
def JV(t:Pz.TD)(q x s:Int):(R_ t q x).map (λy=>(y.1.2.2,s+y.2))=((p8 Ob t).get (q,x)).map λz=>(z.1,s+z.2):=by unfold R_;rw[rS,rS,Vb,Vb];rfl
def AK{a:Type}(t:Pz.TD)(pr:a->Int)(x:Int)(l:AL a)(y:Int×a):AJ t pr x (l++[y])=AJ t pr x l++((p8 Ob t).get (y.1,x)).map λz=>(z.1,pr y.2+z.2):=by unfold AJ;rw[Xm];simp
def IQ{b:Type}{t:Pz.TD}{pr:b->Int}{x:Int}{pre a:AL b}{z:Int×Int}(h:z∈AJ t pr x pre):z∈AJ t pr x (pre++a):=by unfold AJ at *;rw[Xm];exact U4.mpr (.inl h)
abbrev eA(t:Pz.TD)(S:PL)(x:Int)(A:PL)(e4 e5 a b e8:Option Sl):En:=[vv (EL HQ (p8 HR t)) false,vv (aD du S) false,vv (.int x) false,some (.l7 (aD du A)),e4,e5,a,b,e8]
def FC(nd:(t.map (·.1)).Nodup)(D:t.length<=1000):∃A,Lw pF A (AJ t pF x S)/\gE [EL HQ (p8 HR t),aD du S,.int x]=.ok (.val (aD du A) true [3]):=by
 obtain⟨u,h1,A,e4,e5,c,e,e8,rfl,n⟩:=jI (λy:Int×PV=>.tup [.int y.1,du y.2]) (asg:=gT 2 (aL (gN 4) (aL (gN 5) cr))) (fr:=false) (body:=ip) S (λpre env=>∃A e4 e5 c e e8,env=(eA t S x A e4 e5 c e e8)/\Lw pF A (AJ t pF x pre)) S [] (eA t S x [] none none none none none) rfl ⟨[],none,none,none,none,none,rfl,Lw.nil pF⟩ (by
  rintro pre g ⟨q,b⟩ env j ⟨A,e4,e5,c,e,e8,rfl,n⟩;obtain⟨f',v⟩:=IL (d:=p8 HR t) (eD:=HQ) (fa:=ao 0) (fk:=d6 (ah (ao 4) (ah (ao 2) aN))) (fx:=g6 aN) (env:=(eA t S x A (vv (.int q) false) (vv (du b) false) c e e8)) (f:=false) (a:=q) (b:=x) (r:=.val (.tup [.int q,.int x]) true []) (by simp_arith[nP]) (by simp_arith) rfl (by simp_arith);obtain⟨u,h1,B,o,p,m,rfl,k⟩:=jI HQ (asg:=gT 2 (aL (gN 6) (aL (gN 7) cr))) (fr:=f') (body:=cp) (R_ t q x) (λs env=>∃A c e e8,env=(eA t S x A (vv (.int q) false) (vv (du b) false) c e e8)/\Lw pF A (AJ t pF x pre++s.map λy=>(y.1.2.2,b.1+y.2))) (R_ t q x) [] _ rfl ⟨A,c,e,e8,rfl,by grind⟩ (by
   rintro s po y env i ⟨B,o,p,m,rfl,k⟩;have E:=k.nY (pr:=pF) (x:=x) (l:=S) nd λz hz=>by
    rw[j];have:pre++(q,b)::g=(pre++[(q,b)])++g:=by simp
    rw[this];refine IQ ?_;rw[AK];rcases U4.mp hz with h|h
    .exact U4.mpr (.inl h)
    .refine U4.mpr (.inr ?_);show z∈((p8 Ob t).get (q,x)).map λz=>(z.1,b.1+z.2);rw[<- JV,i,VO];exact U4.mpr (.inl h)
   obtain⟨F,w⟩:=NB (A:=B) (x:=y) (b:=b) (e0:=vv (EL HQ (p8 HR t)) false) (e1:=vv (aD du S) false) (e2:=vv (.int x) false) (e4:=vv (.int q) false) (e8:=m) (g5:=false) (f':=f') k.nd (by lia);refine⟨_,_,rfl,w,_,_,_,_,rfl,?_⟩;rw[VO,<- Xa];exact FA k)
  refine⟨(eA t S x A (vv (.int q) false) (vv (du b) false) c e e8),_,rfl,?_,B,vv (.int q) false,vv (du b) false,o,p,m,rfl,?_⟩
  .simp_arith[-zh,ip,v];exact h1
  .rw[AK,<- JV];exact k)
 refine⟨A,n,?_⟩;have C:aD du []=.dZ [] []:=rfl;unfold eA at h1;rw[C]at h1;simp_arith[gE,nG,nP,cA,Ff,Rt,h1,Fg]
abbrev eS(t:Pz.TD)(a:Int)(w:List Int)(l:List D)(e:Option Sl):En:=[vv (gs t) false,vv (.tup [.int a,.lst (w.map .int)]) false,vv (EL HQ (p8 HR t)) true,ow l true,e]
def FD(nd:(t.map (·.1)).Nodup)(h:t.length<=1000)(p:w.length<=1000):∃(Ss:List PL)(S:PL),FX t a w pF S/\gG [gs t,.tup [.int a,.lst (w.map .int)]]=.ok (.val (.lst (Ss.map (aD du)++[aD du S])) true [3]):=by
 have i:ja [gs t]=.ok (.jm (EL HQ (p8 HR t))):=L5 (by lia);have fl:∀(Ss:List PL)(S:PL),D.be (Ss.map (aD du)++[aD du S])=false:=λSs S=>by
  cases Ss with
  |nil=>exact fV (cA _ _)
  |cons s Ss=>exact fV (cA _ _)
 obtain⟨q,h1,Ss,S,e4,rfl,b,_⟩:=jI D.int (asg:=gN 4) (fr:=false) (body:=iq) w (λpre env=>∃(Ss:List PL)(S:PL)(e4:Option Sl),env=(eS t a w (Ss.map (aD du)++[aD du S]) e4)/\FX t a pre pF S/\Ss.length=pre.length) w [] (eS t a w [aD du [(a,(0,none))]] none) rfl ⟨[],[(a,(0,none))],none,rfl,FX.one rfl,rfl⟩ (by
  rintro pre d x env e ⟨Ss,S,e4,rfl,b,j⟩;have k:pre.length<=1000:=by grind
  obtain⟨A,l,ha⟩:=FC (t:=t) (x:=x) (S:=S) nd h;refine⟨(eS t a w (Ss.map (aD du)++[aD du S]) (vv (.int x) false)),(eS t a w ((Ss++[S]).map (aD du)++[aD du A]) (vv (.int x) false)),rfl,?_,Ss++[S],A,_,rfl,b.next nd l,by simp[j]⟩;have m:Ct true [] (dk (Ss.map (aD du)++[aD du S]) (-1))=.ok (.val (aD du S) true []):=by have:dk (Ss.map (aD du)++[aD du S]) (-1)=some (aD du S):=vc _ _;rw[this];show Res.ok (jy (aD du S) true [])=_;rw[i9 (cA _ _)]
  have n:∀rs,je rs (.val (aD du A) true [3])=.jm (aD du A):=λrs=>xj rs (cA _ _);have c:(Ss.map (aD du)++[aD du S]).length<1000000:=by simp;lia
  simp_arith[iq,nP,cA,fl,m,ha,n,u_ c];rw[VO,UR,WB])
 refine⟨Ss,S,b,?_⟩;have hd:∀f g al bl,q5 (.val (.int a) f al) (.val (.tup [.int 0,.bv]) g bl)=.ok (.jm (aD du [(a,(0,none))])):=λ_ _ _ _=>rfl;have o:D.be [aD du [(a,((0:Int),(none:Option Pz.bc)))]]=false:=fl [] _;simp_arith[gG,nH,i,mL,nP,hd,cA,o,h1,fl]
def FE(f:En->Res R)(env:En):EO f env=(f env).bind xh:=(rfl)
def NC(h:r.d=.lst ((k::ks).map jf)):xh r=.ok (.val (jf (u7 (k::ks))) true []):=by grind [lD,xh]
def IR(h1:k≠[])(c:y≠[]):(rC k y=k\/rC k y=y)/\(rC k y).headD 0<=k.headD 0/\(rC k y).headD 0<=y.headD 0:=by
 cases k with
 |nil=>exact absurd rfl h1
 |cons a k=>
  cases y with
  |nil=>exact absurd rfl c
  |cons b y=>
   unfold rC HT.lexLt
   grind
theorem AM:∀(r:List (List Int))(k:List Int),(∀x∈k::r,x≠[])->r.foldl rC k∈k::r/\∀x∈k::r,(r.foldl rC k).headD 0<=x.headD 0
 |[],k,_=>by grind
 |y::r,k,h=>by
  obtain⟨h1,a,b⟩:=IR (h k UW) (h y (UT _ UW));have c:=AM r (rC k y) λx d=>by grind
  grind
section
variable{β:Type}{pr:β->Int}{S:AL β}{t:Pz.TD}{a:Int}{w es:List Int}
def u9(pr:β->Int)(S:AL β)(e:Int):Int:=((cF S e).map pr).getD 0
def Cj(S:AL β)(e:Int):Bool:=(cF S e).isSome
def FX.lst(h:FX t a w pr S)(f:Int->List Int)(n:∀e,(f e).headD 0=u9 pr S e)(o:∀e,f e≠[]):match es.filter (Cj S)with
 |[]=>RO t es a w none
 |e::r=>RO t es a w (some ((u7 ((e::r).map f)).headD 0))/\∃g,u7 ((e::r).map f)=f g:=by
 have on:∀e,Cj S e=true->mN t a w e (u9 pr S e)/\∀s,mN t a w e s->u9 pr S e<=s:=λe c=>by
  unfold Cj at c;unfold u9;cases z:cF S e with
  |none=>rw[z]at c;cases c
  |some b=>exact h.on e b z
 have no:∀e s,mN t a w e s->Cj S e=true:=λe s i=>by
  unfold Cj;cases z:cF S e with
  |none=>exact absurd i (h.no e z s)
  |some b=>rfl
 cases k:es.filter (Cj S)with
 |nil=>exact⟨λv d=>(nomatch d),λ_ e c s i=>by have:e∈es.filter (Cj S):=Vd.mpr ⟨c,no e s i⟩;rw[k]at this;cases this⟩
 |cons e r=>
  have l:=AM (r.map f) (f e) λx p=>by grind
  have j:u7 ((e::r).map f)∈(e::r).map f:=l.1;obtain⟨g,h1,m⟩:=UY.mp j;rw[<- k]at h1;obtain⟨q,u⟩:=Vd.mp h1;refine⟨⟨λv d=>?_,λd=>(nomatch d)⟩,g,m.symm⟩
  grind [u7]
end
def Ru{a:Type}(w:a->D)(e:Int)(S:AL a):Ca false (.int e) (aD w S)=.ok (.val (.bl (Cj S e)) true []):=by unfold Cj;rw[<- JS];exact UP (AI e S)
def Rv{a:Type}{w:a->D}{e:Int}{S:AL a}{b:a}{f g:Bool}{al:List Nat}(h:cF S e=some b)(c:(w b).flat=true):tU (.val (aD w S) f []) (.val (.int e) g al)=.ok (.val (w b) true []):=by rw[Nf (ra:=.val (aD w S) f []) (rk:=.val (.int e) g al) (x:=ik e) rfl rfl (AI e S) (by rw[JR,h];rfl),ze c]
def ND(h:FX t a w pF S)(C:es.length<=1000):∃o l,RO t es a w o/\fq [Mc n ts es,aD du S]=.ok (.val (match o with|none=>.bv|some v=>.tup [.int v,.int l]) true []):=by
 have x:bz 0 (vC (.int 2)) [vv (Mc n ts es) false,vv (aD du S) false]=.ok (.val (.lst (es.map .int)) false []):=by unfold Mc;simp_arith
 have y:=db (mk:=λd=>gN 0 d false (g8 [vv (Mc n ts es) false,vv (aD du S) false] 1 [1])) (test:=cX) (elt:=cY) D.int (Cj S) (λe=>.val (.tup [.int (u9 pF S e),.int e]) true []) es λe _=>⟨_,rfl,by
  show cX [vv (.int e) false,vv (aD du S) false]=_;have m:=Ru du e S;simp_arith[cX,cA,m],λp=>by
  show cY [vv (.int e) false,vv (aD du S) false]=_;unfold Cj at p;unfold u9;cases z:cF S e with
  |none=>rw[z]at p;cases p
  |some b=>
   have A:=Rv (f:=false) (g:=true) (al:=[]) z (fG b);have B:∀f,nA (du b) (.int 0) f []=.ok (.val (.int b.1) true []):=λf=>by have:=fG b;unfold du at *;simp_arith
   simp_arith[cY,cA,A,B];rfl⟩
 have j:d_ 1 [1] (kG (bz 0 (vC (.int 2)))) (gN 0) cX cY [vv (Mc n ts es) false,vv (aD du S) false]=.ok (.new ((es.filter (Cj S)).map λe=>.tup [.int (u9 pF S e),.int e]) true):=by rw[rP x,f_ (by grind) y,lY,dz,h_ (bj _ _ λc=>rfl)]
 have i:=h.lst (es:=es) (λe=>[u9 pF S e,e]) (λ_=>rfl) (λ_=>by simp);cases q:es.filter (Cj S)with
 |nil=>rw[q]at i j;refine⟨none,0,i,?_⟩;simp_arith[-jG,fq,jM,FE,de,cA,j];rfl
 |cons e r=>rw[q]at i j;obtain⟨i,l,s⟩:=i;rw[s]at i;refine⟨_,l,i,?_⟩;have u:=NC (r:=.new ((e::r).map λe=>.tup [.int (u9 pF S e),.int e]) true) (k:=[u9 pF S e,e]) (ks:=r.map λe=>[u9 pF S e,e]) (by rw[<- UR (f:=λe=>[u9 pF S e,e]),Vb];rfl);rw[<- UR (f:=λe=>[u9 pF S e,e]),s,UR]at u;simp_arith[-jG,fq,jM,FE,de,cA,j,u];rfl
def xE(d:nJ [Hs ro sg RL,Mc n ts es]=.ok (.jm (gs t)))(nd:(t.map (·.1)).Nodup)(g:t.length<=1000)(h:w.length<=1000)(i:es.length<=1000) :
 ∃o,RO t es a w o/\lF [Hs ro sg RL,Mc n ts es,.tup [.int a,.lst (w.map .int)]]=.ok (.val (oD o) true []):=by
 obtain⟨Ss,S,j,ha⟩:=FD (a:=a) nd g h;obtain⟨o,l,k,c⟩:=ND (n:=n) (ts:=ts) j i;refine⟨o,k,?_⟩;have hs:(D.tup [D.int a,D.lst (w.map .int)]).flat=false:=rfl;have e:∀f al,Ct f al (dk (Ss.map (aD du)++[aD du S]) (-1))=.ok (.val (aD du S) f al):=λf al=>by rw[vc];show Res.ok (jy (aD du S) f al)=_;rw[i9 (cA _ _)]
 have b:(D.lst (Ss.map (aD du)++[aD du S])).flat=false:=nB _;cases o with
 |none=>dsimp only at c;simp_arith[lF,vh,dH,de,hs,d,ha,b,e,c,mL,cA,JT];rfl
 |some v=>dsimp only at c;simp_arith[lF,vh,dH,de,hs,d,ha,b,e,c,mL,cA,JT,oD];rfl
theorem FF(ps:∀a v,Pz.bL t a=some v->0<=v.1):∀{w:List Int}{a v:Int},mN t a w b v->0<=v
 |[],_,_,h=>by have:=h.2;lia
 |x::w,a,v,⟨m,p,u,⟨z,h1,d⟩,c,e⟩=>by have a:=ps _ _ h1;have b:=FF ps c;lia
def cN(G:Pz.Good RL M U t)(a:Pz.bc):Pz.At t a 0↔a∈M:=by
 constructor
 .rintro⟨⟨p,n,m⟩,h,e⟩;have j:=G.ju a _ h;have e:p=0:=e;subst e;cases n with
  |none=>exact j.2.2
  |some i=>
   obtain⟨j,r,_,_,_,_,k⟩:=j;have q:=λa q (h:Pz.At t a q)=>(h.elim λw h=>h.2▸G.ps a w h.1:0<=q);obtain⟨f,g,o,put⟩:=r;rcases put with _|⟨x,_|⟨y,_|⟨z,l⟩⟩⟩
   .have:=k.2.1;simp at this
   .obtain⟨_,q1,h1,b⟩:=k;have:=q _ _ h1;simp only[]at b;lia
   .obtain⟨d,q1,q2,_,h1,b,c⟩:=k;have:=q _ _ h1;have:=q _ _ b;simp only[]at c;lia
   .exact k.elim
 .intro h;exact⟨_,G.m0 a h,rfl⟩
def Rw:dk [a,b] 0=some a:=(rfl)
def NE:dk [a,b] 1=some b:=(rfl)
def IS(es:List Int)(x:Int):((es.map D.int).any λe=>gw e (.int x))=decide (x∈es):=by induction es<;>grind [gw]
def AN(es:List Int)(x:Int):Ca false (.int x) (.lst (es.map .int))=.ok (.val (.bl (decide (x∈es))) true []):=by rw[QW (by have:=gO es;lia) (by simp[D.dep]),IS];rfl
theorem xF(k:Int):∀l,(rf k l).length<=l.length+1
 |[]=>by simp[rf]
 |h::t=>by
  have:=xF k t;unfold rf;split
  .simp
  .split<;>simp<;>lia
theorem ua:∀ks,(jh ks).length<=ks.length
 |[]=>UN _
 |k::r=>by have h1:=xF k (jh r);have a:=ua r;unfold jh;simp only[U1];lia
abbrev eQ(n:Int)(ts:List Pz.bc)(es:List Int)(a:Int)(w:List Int)(l:List D)(e:Option Sl):En:=[vv (Mc n ts es) false,vv (.tup [.int a,.lst (w.map .int)]) false,ow l true,e]
def FG(G:Pz.Good RL ts U t)(M:ts.length<=63) :
 ∃b,fF [Mc n ts es,.tup [.int a,.lst (w.map .int)]]=.ok (.val (.bl b) true [])/\(b=true↔∃e∈es,mN t a w e 0):=by
 have step:∀pre x q,mN t a (pre++[x]) q 0↔∃m,mN t a pre m 0/\(m,x,q)∈ts:=λpre x q=>by
  rw[pth_app];constructor
  .rintro⟨m,u,p,h1,j,e⟩;have j:=pth_one.mp j;have:=FF G.ps h1;have z:0<=p:=j.elim λw h=>h.2▸G.ps _ w h.1;obtain⟨rfl,rfl⟩ : u=0/\p=0:=by lia
   exact⟨m,h1,(cN G _).mp j⟩
  .rintro⟨m,h1,j⟩;exact⟨m,0,0,h1,pth_one.mpr ((cN G _).mpr j),rfl⟩
 obtain⟨N,h1,Q,e3,rfl,o,H⟩:=jI D.int (asg:=gN 3) (fr:=false) (body:=iu) w (λpre env=>∃(Q:List Int)(e3:Option Sl),env=(eQ n ts es a w (Q.map .int) e3)/\(∀q,q∈Q↔mN t a pre q 0)/\Q.length<=64) w [] (eQ n ts es a w [.int a] none) rfl ⟨[a],none,rfl,λq=>⟨λh=>⟨U5.mp h,rfl⟩,λh=>U5.mpr h.1⟩,by simp⟩ (by
  rintro pre C x env _ ⟨Q,e3,rfl,o,H⟩;have I:bz 0 (vC (.int 1)) (eQ n ts es a w (Q.map .int) (vv (.int x) false))=.ok (.val (.lst (ts.map bI)) false []):=by unfold eQ Mc;simp_arith
  have s:=db (mk:=λd=>gT 3 (aL (gN 0) (aL (gN 1) (aL (gN 2) cr))) d false (g8 (eQ n ts es a w (Q.map .int) (vv (.int x) false)) 3 [2,3])) (test:=cZ) (elt:=fC) bI (λy=>(y.2.1==x)&&decide (y.1∈Q)) (λy=>.val (.int y.2.2) true []) ts λy _=>⟨[vv (.int y.1) false,vv (.int y.2.1) false,vv (.int y.2.2) false,vv (.lst (Q.map .int)) true,vv (.int x) false],rfl,by
   have k:=AN Q y.1;cases E:(y.2.1==x)
   .simp_arith[cZ,nz,E]
   .simp_arith[cZ,nz,E,k],λ_=>by simp_arith[fC]⟩
  have l:=rP (n:=3) (caps:=[2,3]) (asg:=gT 3 (aL (gN 0) (aL (gN 1) (aL (gN 2) cr)))) (ft:=cZ) (fe:=fC) I;rw[f_ (by grind) s,lY,dz,h_ (bj _ _ λc=>rfl)]at l;generalize v:(ts.filter λy=>(y.2.1==x)&&decide (y.1∈Q))=i at l;have rl:i.length<=ts.length:=by grind
  have hs:=M_ (r:=.new (i.map λy=>.int y.2.2) true) (is:=i.map λy=>y.2.2) (by rw[Vb];rfl) (by grind);refine⟨(eQ n ts es a w (Q.map .int) (vv (.int x) false)),(eQ n ts es a w ((jh (i.map λy=>y.2.2)).map .int) (vv (.int x) false)),rfl,?_,jh (i.map λy=>y.2.2),_,rfl,λq=>?_,?_⟩
  .simp_arith[-jG,iu,l,hs]
  .rw[oF,step,UY,<- v];constructor
   .rintro⟨⟨J,O,P⟩,h1,rfl⟩;obtain⟨j,F⟩:=Vd.mp h1;rw[Vi,W2,V8]at F;obtain⟨rfl,K⟩:=F;exact⟨J,(o _).mp K,j⟩
   .rintro⟨m,h1,j⟩;exact⟨(m,x,q),Vd.mpr ⟨j,by grind⟩,rfl⟩
  .have:=ua (i.map λy=>y.2.2);rw[UO]at this;lia)
 have A:ao 2 (eQ n ts es a w (Q.map .int) e3)=.ok (.val (.lst (Q.map .int)) true [2]):=by simp_arith
 have s:=db (mk:=λd=>gN 0 d true (g8 (eQ n ts es a w (Q.map .int) e3) 1 [0])) (test:=fD) (elt:=fE) D.int (λq=>decide (q∈es)) (λq=>.val (.int q) true []) Q λq _=>⟨[vv (.int q) true,vv (Mc n ts es) false],rfl,by have k:=AN es q;unfold Mc;simp_arith[fD,k],λ_=>by simp_arith[fE]⟩;have l:=rP (n:=1) (caps:=[0]) (asg:=gN 0) (ft:=fD) (fe:=fE) A;rw[f_ (by grind) s,lY,dz,h_ (bj _ _ λc=>rfl)]at l;generalize v:(Q.filter λq=>decide (q∈es))=i at l;have L:(D.lst (i.map .int)).dep<=50:=by have:=gO i;rw[iJ];lia
 have B:∀f g,Cs (.new (i.map .int) f) (.new [] g)=.ok (.val (.bl (!gw (.lst (i.map .int)) (.lst []))) true []):=λf g=>Mg (a:=.new (i.map .int) f) (b:=.new [] g) L (by show(D.lst []).dep<=50;decide);refine⟨!gw (.lst (i.map .int)) (.lst []),?_,?_⟩
 .simp_arith[-jG,fF,nM,de,Rw,NE,h1,l,B]
 .have:(∃e∈es,mN t a w e 0)↔∃e,e∈i:=by rw[<- v];exact⟨λ⟨e,h1,j⟩=>⟨e,Vd.mpr ⟨(o e).mpr j,U6 h1⟩⟩,λ⟨e,h⟩=>⟨e,VN (Vd.mp h).2,(o e).mp (Vd.mp h).1⟩⟩
  rw[this];cases i with
  |nil=>exact⟨λh=>(nomatch h),λ⟨e,h⟩=>(nomatch h)⟩
  |cons e r=>exact⟨λ_=>⟨e,UW⟩,λ_=>rfl⟩
def FH(h1:0<ro)(a:0<sg)(xs:List Int)(b:xs.length<=1000000):kZ 1 [3,4] (gN 0) (λ_=>.ok true) bZ [e0,e1,e2,vv (.int ro) g4,vv (.int sg) g5,e5,e6,e7,e8,e9] ⟨xs.map .int,fr,[]⟩=.ok (.new ((xs.map λc=>JO c ro sg).map bx) true):=by have h:=gL (mk:=λd=>gN 0 d fr (g8 [e0,e1,e2,vv (.int ro) g4,vv (.int sg) g5,e5,e6,e7,e8,e9] 1 [3,4])) (test:=λ_=>.ok true) (elt:=bZ) D.int (λc=>.val (bx (JO c ro sg)) true []) xs λc e=>⟨_,rfl,rfl,by show bZ [vv (.int c) fr,vv (.int ro) g4,vv (.int sg) g5]=_;simp_arith[bZ,IH c ro sg h1 a,cz]⟩;rw[f_ (by rw[UO];exact b) h,lY,dz,h_ (bj _ _ λc=>cz _),Vb];rfl
def IT(x y n:Nat):min x n-min y n<=x-y:=by lia
def vq{α:Type}(xs:List α)(a b:Int)(ha:0<=a)(c:a<=b):(dn xs (some a) (some b)).length<=(b-a).toNat:=by unfold dn;rw[Wv,Xj];have e1:=HT.sIx_nat xs.length 0 a.toNat;have e2:=HT.sIx_nat xs.length xs.length b.toNat;rw[Int.toNat_of_nonneg ha]at e1;rw[Int.toNat_of_nonneg (WM ha c)]at e2;rw[e1,e2,show(b-a).toNat=b.toNat-a.toNat by lia];exact Vf (Nat.min_le_left _ _) (IT _ _ _)
def IU(ns:List Int)(M:ns.length<=63) :
 ∃(ro sg:Int)(RL:List Pz.aV)(n:Int)(ts:List Pz.bc)(es cs:List Int)(al:List Nat),0<ro/\ro<=3/\0<sg/\sg<=5/\(∀r∈RL,RR ro sg r)/\RL.length<=30/\PM ro sg n ts es/\cs.length<=40/\e_ [.lst (ns.map .int)]=.ok (.val (.tup [Hs ro sg RL,Mc n ts es,.lst (cs.map .int)]) true al):=by
 have w:=xy ns 0;have q1:=xy ns 1;have x:=xy ns 3;have k0:=nO ns 0 (by decide);have k1:=nO ns 1 (by decide);have k3:=nO ns 3 (by decide);generalize sd ns 0=shape at w k0;generalize sd ns 1=e at q1 k1;generalize sd ns 3=l at x k3;generalize m:1+shape%3=ro;generalize o:1+shape/3%5=sg;generalize p:shape/15%3=own;generalize d:e%10*(if decide (0<own)then 1 else 0)=a;generalize q:4+a+l%31=st;have k:0<ro:=by lia
 have s1:0<sg:=by lia
 have o1:0<=own:=by lia
 have y:own<=2:=by lia
 have z:0<=a/\a<=9/\(own=0->a=0):=by
  by_cases h:0<own
  .rw[U6 h]at d;simp only[Wl]at d;lia
  .rw[U_ h]at d;simp only[U2,VH]at d;lia
 obtain⟨m0,N,A⟩:=z;have v:=vq ns 4 (4+a) (by decide) (by lia);have O:=vq ns (4+a) st (by lia) (by lia);have P:=vq ns st (st+40) (by lia) (by lia);have B:own=0->dn ns (some 4) (some (4+a))=[]:=λh=>by rw[A h]at v ⊢;exact VC.mp (by simpa using v)
 obtain⟨n,ts,es,al,pm,_,s⟩:=Rk e q1 (dn ns (some 4) (some (4+a))) (by lia) ro own sg k (by lia) o1 y B s1 (by lia);have t:D.be (ns.map D.int)=true:=bJ _;have f:∀{e0 e1 e2 e5 C E e8 F:Option Sl}{G g5 fr:Bool},kZ 1 [3,4] (gN 0) (λ_=>.ok true) bZ [e0,e1,e2,vv (.int ro) G,vv (.int sg) g5,e5,C,E,e8,F] ⟨(dn ns (some (4+a)) (some st)).map .int,fr,[]⟩=_:=λ{_ _ _ _ _ _ _ _ _ _ _}=>FH k s1 _ (by lia);have H:∀b:Bool,(-18446744073709551616:Int)<(if b then 1 else 0):=λb=>by cases b<;>decide
 have I:∀b:Bool,(if b then 1 else 0:Int)<18446744073709551616:=λb=>by cases b<;>decide
 have g:∀r∈(dn ns (some (4+a)) (some st)).map (λc=>JO c ro sg),RR ro sg r:=λr J=>by obtain⟨c,_,rfl⟩:=UY.mp J;exact Nv c ro sg k s1
 have i:((dn ns (some (4+a)) (some st)).map (λc=>JO c ro sg)).length<=30:=by rw[UO];lia
 have j:D.be (((dn ns (some (4+a)) (some st)).map (λc=>JO c ro sg)).map bx)=true:=bj _ _ cz;have u:∀lo K,D.be ((dn ns lo K).map D.int)=true:=λ_ _=>bJ _;generalize L:(dn ns (some (4+a)) (some st)).map (λc=>JO c ro sg)=RL at f g i j;refine⟨ro,sg,RL,n,ts,es,dn ns (some st) (some (st+40)),?_,k,by lia,s1,by lia,g,i,pm,by lia,?_⟩
 rotate_left
 .simp_arith[e_,k_,k0,k1,k3,m,o,p,Nr,d,q,H,I,rE,u,s,de,f,t,j];rfl
def Rx:Ek (.val (.int 10) f al) (.val (.int 20) g bl)=.ok (.val (.int 100000000000000000000) true []):=(rfl)
def Ry:Ek (.val (.int 1000003) f al) (.val (.int 4) g bl)=.ok (.val (.int 1000012000054000108000081) true []):=(rfl)
def oX(c:0<=x)(h1:x<18446744073709551616):qT (.val (.int x) f al) (.val (.int y) g bl)=.ok (.val (.int (x*y)) true []):=by
 have a:(-(2^64)<x):=by lia
 have b:x<2^64:=by lia
 refine UP ?_;unfold Bl;rw[U6 a,U6 b];rfl
def xG(q:0<=c)(r:c<10000000)(s:0<=sz)(t:sz<=100)(h1:0<sg)(u:sg<=5):∃w:List Int,w.length<=100/\(∀x∈w,0<=x/\x<sg)/\dG [.int c,.int sz,.int sg]=.ok (.val (.lst (w.map .int)) true [3]):=by
 obtain⟨v,l,w,n,e5,d,rfl,e,a⟩:=jI (λk:Nat=>D.int (k:Nat)) (asg:=gN 5) (fr:=true) (body:=fj) (List.range sz.toNat) (λpre env=>∃(w:List Int)(n:Int)(e5 d:Option Sl),env=[vv (.int c) false,vv (.int sz) false,vv (.int sg) false,ow (w.map .int) true,vv (.int n) true,e5,d]/\w.length=pre.length/\∀x∈w,0<=x/\x<sg) (List.range sz.toNat) [] [vv (.int c) false,vv (.int sz) false,vv (.int sg) false,ow [] true,vv (.int (c%100000000000000000000*1000012000054000108000081)) true,none,none] rfl ⟨[],_,none,none,rfl,rfl,λx a=>(nomatch a)⟩ (by
  rintro pre j k env b ⟨w,n,e5,d,rfl,e,a⟩;have y:k<100:=by
   have:k∈List.range sz.toNat:=by grind
   have:=Vp.mp this;lia
  have z:w.length<100:=by have:=Wo List.length b;rw[XF,Vc,U1]at this;lia
  have f:(w.map D.int).length<1000000:=by grind
  have k0:(0:Int)<=(k:Nat):=by lia
  have k1:((k:Nat):Int)<18446744073709551616:=by lia
  have g:(0:Int)<=((k:Nat):Int)*((k:Nat):Int):=Int.mul_nonneg k0 k0;have i:((k:Nat):Int)*((k:Nat):Int)<18446744073709551616:=by have:((k:Nat):Int)*((k:Nat):Int)<=100*100:=Int.mul_le_mul (by lia) (by lia) (by lia) (by lia);lia
  have s1:sg<1073741824:=by lia
  refine⟨[vv (.int c) false,vv (.int sz) false,vv (.int sg) false,ow (w.map .int) true,vv (.int n) true,vv (.int (k:Nat)) true,d],[vv (.int c) false,vv (.int sz) false,vv (.int sg) false,ow ((w++[(n%sg+((k:Nat):Int)*((k:Nat):Int)*(sz/30))%sg]).map .int) true,vv (.int (n/sg)) true,vv (.int (k:Nat)) true,vv (.int (n%sg)) true],rfl,?_,_,_,_,_,rfl,by simp[e],λx h=>?_⟩
  rotate_left
  .rcases U4.mp h with h|h
   .exact a x h
   .rw[U5.mp h];exact⟨Wf _ (by lia),VY _ h1⟩
  rw[VO,UR,WB];simp_arith[fj,rO,h1,s1,iT,oX k0 k1,oX g i,u_ f])
 rw[XF]at e;refine⟨w,by lia,a,?_⟩;have m0:0<=c%100000000000000000000:=by lia
 have m:c%100000000000000000000<18446744073709551616:=by lia
 have o:-4611686018427387904<=sz:=by lia
 have p:sz<4611686018427387904:=by lia
 simp_arith[dG,j8,Rx,Ry,oX m0 m,t8,o,p,lE,l]
def xH(h:0<=c)(i:c<2147483648)(b:0<ro)(s1:0<sg)(s2:sg<=5):∃(a:Int)(w:List Int),0<=a/\a<ro/\w.length<=100/\(∀x∈w,0<=x/\x<sg)/\b7 [.int c,.int ro,.int sg]=.ok (.val (.tup [.int a,.lst (w.map .int)]) true []):=by
 have f:=Wf (c%6) (show ro≠0 by lia);have an:=VY (c%6) b;cases g:(c/36%8==5)
 .obtain⟨w,d,e,hs⟩:=xG (c:=c/288) (sz:=c/6%6) (by lia) (by lia) (by lia) (by lia) s1 s2;refine⟨c%6%ro,w,f,an,d,e,?_⟩;simp_arith[b7,dP,nz,g,b,hs]
 .obtain⟨w,d,e,hs⟩:=xG (c:=c/288) (sz:=30+c/288%26) (by lia) (by lia) (by lia) (by lia) s1 s2;refine⟨c%6%ro,w,f,an,d,e,?_⟩;simp_arith[b7,dP,nz,g,b,hs]
section
variable{RL:List Pz.aV}{ts U:List Pz.bc}{t:Pz.TD}
def FI(G:Pz.Good RL ts U t)(b:r∈RL)(c:r.2.2.2.length<=2)(h:mN t r.2.2.1 r.2.2.2 m q):Pz.R5 t (r.1,r.2.1,m) (q+1):=by
 obtain⟨j,e⟩:=List.getElem?_of_mem b;have a:=G.Kf j r e;obtain⟨g,i,k,put⟩:=r;rcases put with _|⟨x,_|⟨y,_|⟨z,l⟩⟩⟩
 .obtain⟨rfl,rfl⟩:=h;exact a
 .exact a m q (pth_one.mp h)
 .obtain⟨d,p,u,h1,f,rfl⟩:=h;have:=a d m p u h1 (pth_one.mp f);exact this
 .simp at c
def IV(G:Pz.Good RL ts U t)(a:r∈RL)(b:r.2.2.2.length<=2)(h:mN t r.2.2.1 (r.2.2.2++w) e v):∃u,mN t r.1 (r.2.1::w) e u/\u<=v+1:=by obtain⟨m,q,u,h1,c,rfl⟩:=pth_app.mp h;obtain⟨z,d,f⟩:=FI G a b h1;exact⟨z.1+u,⟨m,z.1,u,⟨z,d,rfl⟩,c,rfl⟩,by lia⟩
end
theorem xI{α:Type}(g:α->D){asg:D->Bool->En->Option En}{fr:Bool}{body:En->Res Fl}(P:Nat->En->Prop)(N:Nat)(st:∀(k:Nat)(a:α)(env:En),k<N->P k env->∃env1 b,asg (g a) fr env=some env1/\((body env1=.ok (.nx b)/\P (k+1) b)\/(body env1=.ok (.bk b)/\P k b))):∀(xs:List α)(k:Nat)(env:En),k+xs.length<=N->P k env->∃f i,gy asg fr body (xs.map g) env=.ok (.nx i)/\P f i/\f<=N
 |[],k,env,d,h=>⟨k,env,rfl,h,d⟩
 |a::r,k,env,d,h=>by
  rw[U1]at d;obtain⟨env1,b,h1,c⟩:=st k a env (by lia) h;rw[UR];unfold gy;rw[h1];dsimp only;rcases c with⟨c,e⟩|⟨c,e⟩
  .rw[c];exact xI g P N st r (k+1) b (by lia) e
  .rw[c];exact⟨k,b,rfl,e,by lia⟩
abbrev vw:=Int×List Int
def fR(s:vw):D:=.tup [.int s.1,.lst (s.2.map .int)]
def fH(s:vw):(fR s).flat=false:=rfl
noncomputable def fits(s:vw)(r:Pz.aV):Bool:=match s.2 with
 |[]=>false
 |x::_=>(r.1==s.1)&&(r.2.1==x)
noncomputable def FJ(s:vw)(r:Pz.aV):vw:=(r.2.2.1,r.2.2.2++s.2.tail)
def UI(a b c d:Int):gw (.tup [.int a,.int b]) (.tup [.int c,.int d])=((a==c)&&(b==d)):=by simp[gw,eqDs]
def FL:dk (a::l) 0=some a:=by unfold dk zD;rw[UP (by decide),UP (by simp only[U1];lia)];rfl
def FM(w:List Int)(f g:Bool)(al:List Nat):Cs (.val (.lst (w.map .int)) f al) (.new [] g)=.ok (.val (.bl (!w.isEmpty)) true []):=by
 have c:(D.lst (w.map .int)).dep<=50:=by have:=gO w;rw[iJ];lia
 rw[Mg (a:=.val (.lst (w.map .int)) f al) (b:=.new [] g) c (by show(D.lst []).dep<=50;decide),ga,iL];cases w<;>rfl
def Rz{r:Pz.aV}{i g1 g2:Bool}:cv [vv (bx r) i,vv (.int s.1) g1,vv (.lst (s.2.map .int)) g2]=.ok (fits s r):=by
 obtain⟨a,w⟩:=s;obtain⟨c,d,h,put⟩:=r;cases w with
 |nil=>have e:∀f g al,Cs (.val (.lst []) f al) (.new [] g)=.ok (.val (.bl false) true []):=λf g al=>FM [] f g al;simp_arith[cv,e];rfl
 |cons x w=>
  have j:∀f g al bl,tM (.val (.tup [.int c,.int d]) f al) (.val (.tup [.int a,.int x]) g bl)=.ok (.val (.bl ((c==a)&&(d==x))) true []):=λf g al bl=>by rw[nz (a:=.val (.tup [.int c,.int d]) f al) (b:=.val (.tup [.int a,.int x]) g bl) (by show(D.tup [.int c,.int d]).dep<=50;simp[D.dep,D.gJ]) (by show(D.tup [.int a,.int x]).dep<=50;simp[D.dep,D.gJ]),ga,ga,UI]
  have k:(D.tup [D.int c,D.int d,D.int h,D.tup (put.map .int)]).flat=true:=cz (c,d,h,put);have e:∀f g al,Cs (.val (.lst (.int x::w.map .int)) f al) (.new [] g)=.ok (.val (.bl true) true []):=λf g al=>FM (x::w) f g al;unfold bx;simp only[UR];simp_arith[cv,e,j,k,bJ,FL];rfl
def Sa(ro sg:Int)(s:vw):Prop:=(0<=s.1/\s.1<ro)/\∀x∈s.2,0<=x/\x<sg
def Od(RL:List Pz.aV)(Ss:List vw):Prop:=∀(i:Nat)(s z:vw),Ss[i]?=some s->Ss[i+1]?=some z->∃r∈RL,fits s r=true/\z=FJ s r
def FN(h:Od RL (Ss++[s]))(b:r∈RL)(c:fits s r=true):Od RL (Ss++[s]++[FJ s r]):=λi u z h1 a=>by
 rcases Nat.lt_or_ge i Ss.length with hi|hi
 .rw[V4 (by simp;lia)]at h1 a;exact h i u z h1 a
 .have e:i=Ss.length:=by have:=(UQ.mp a).1;simp at this;lia
  subst e;simp at h1 a;exact⟨r,b,h1▸c,by rw[<- h1,<- a]⟩
def NF{RL:List Pz.aV}{w cs:List Int}(hr:∀r∈RL,RR ro sg r)(hl:RL.length<=100)(hw:w.length<=100)(hc:cs.length<=100)(M:Sa ro sg (a,w)):∃Ss:List vw,Ss≠[]/\Ss.length<=200/\(∀s∈Ss,s.2.length<=300/\Sa ro sg s)/\Od RL Ss/\io [Hs ro sg RL,fR (a,w),.lst (cs.map .int)]=.ok (.val (.lst (Ss.map fR)) false [3]):=by
 have fl:∀Ss:List vw,Ss≠[]->D.be (Ss.map fR)=false:=λSs h=>by
  cases Ss with
  |nil=>exact absurd rfl h
  |cons s r=>exact fV (fH s)
 obtain⟨k,bf,h1,⟨Ss,s,e4,e5,B,m,e8,rfl,N,C,K⟩,v⟩:=xI D.int (asg:=gN 4) (fr:=false) (body:=gA) (λk env=>∃(Ss:List vw)(s:vw)(e4 e5 B m e8:Option Sl),env=[vv (Hs ro sg RL) false,vv (fR (a,w)) false,vv (.lst (cs.map .int)) false,ow ((Ss++[s]).map fR) false,e4,e5,B,m,e8]/\Ss.length=k/\(∀z∈Ss++[s],z.2.length<=100+k/\Sa ro sg z)/\Od RL (Ss++[s])) 100 (by
  rintro k c env hkN ⟨Ss,s,e4,e5,B,m,e8,rfl,N,C,K⟩;obtain⟨b,x⟩:=s;have O:Ct false [] (dk ((Ss++[(b,x)]).map fR) (-1))=.ok (.val (fR (b,x)) false []):=by rw[VO,UR,WB,vc];show Res.ok (jy (fR (b,x)) false [])=_;rw[i9 (fH _)]
  have hH:∀e1 e2 e3 e4 e5 B m e8:Option Sl,bz 0 (vC (.int 2)) [vv (Hs ro sg RL) false,e1,e2,e3,e4,e5,B,m,e8]=.ok (.val (.lst (RL.map bx)) false []):=λ_ _ _ _ _ _ _ _=>by unfold Hs;simp_arith
  have P:=λe1 e2 e3 e4 m e8=>db (mk:=λd=>gN 0 d false (g8 [vv (Hs ro sg RL) false,e1,e2,e3,e4,vv (.int b) false,vv (.lst (x.map .int)) false,m,e8] 1 [5,6])) (test:=cv) (elt:=fg) bx (fits (b,x)) (λr=>.val (bx r) true []) RL λr _=>⟨[vv (bx r) false,vv (.int b) false,vv (.lst (x.map .int)) false],rfl,Rz (s:=(b,x)),λ_=>by simp_arith[fg,cz]⟩;have v:=λe1 e2 e3 e4 m e8=>rP (n:=1) (caps:=[5,6]) (asg:=gN 0) (ft:=cv) (fe:=fg) (hH e1 e2 e3 e4 (vv (.int b) false) (vv (.lst (x.map .int)) false) m e8);have v:∀e1 e2 e3 e4 m e8,d_ 1 [5,6] (kG (bz 0 (vC (.int 2)))) (gN 0) cv fg [vv (Hs ro sg RL) false,e1,e2,e3,e4,vv (.int b) false,vv (.lst (x.map .int)) false,m,e8]=.ok (.new ((RL.filter (fits (b,x))).map bx) true):=λe1 e2 e3 e4 m e8=>by rw[v,f_ (by rw[UO];lia) (P e1 e2 e3 e4 m e8),lY,dz,h_ (bj _ _ cz)]
  have fs:(fR (b,x)).flat=false:=fH _;refine⟨[vv (Hs ro sg RL) false,vv (fR (a,w)) false,vv (.lst (cs.map .int)) false,ow ((Ss++[(b,x)]).map fR) false,vv (.int c) false,e5,B,m,e8],?_⟩;have f2:=fl (Ss++[(b,x)]) (by simp);cases L:RL.filter (fits (b,x))with
  |nil=>rw[L]at v;refine⟨_,rfl,.inr ⟨?_,Ss,(b,x),vv (.int c) false,vv (.int b) false,vv (.lst (x.map .int)) false,ow [] true,e8,rfl,N,C,K⟩⟩;have Q:∀f al g,tM (.val (.lst []) f al) (.new [] g)=.ok (.val (.bl true) true []):=λ_ _ _=>rfl;unfold fR at O ⊢;simp_arith[-jG,gA,O,iT,v,Q];rfl
  |cons r rs=>
   rw[L]at v;generalize R:r::rs=j at v;have h0:0<j.length:=by rw[<- R];simp
   have i0:=Wf c (show((j.length:Nat):Int)≠0 by lia);have i1:=VY c (show(0:Int)<(j.length:Nat) by lia);obtain⟨q,S,T⟩:=rF i0 i1;obtain⟨E,U⟩ : q∈RL/\fits (b,x) q=true:=by
    have:q∈RL.filter (fits (b,x)):=by rw[L,R];exact Vm T
    exact Vd.mp this
   have V:dk (j.map bx) (c%(j.length:Nat))=some (bx q):=by rw[nF,S];rfl
   have W:=hr q E;have F:=W.p;have hxl:x.length<=100+k:=(C (b,x) (by simp)).1;have X:=(C (b,x) (by simp)).2.2;have n4:=FN K E U;obtain⟨G,q1,q2,put⟩:=q;refine⟨[vv (Hs ro sg RL) false,vv (fR (a,w)) false,vv (.lst (cs.map .int)) false,ow ((Ss++[(b,x)]++[(q2,put++x.tail)]).map fR) false,vv (.int c) false,vv (.int b) false,vv (.lst (x.map .int)) false,ow (j.map bx) true,vv (bx (G,q1,q2,put)) true],rfl,.inl ⟨?_,Ss++[(b,x)],(q2,put++x.tail),_,_,_,_,_,rfl,by simp[N],λz hz=>?_,n4⟩⟩
   .have H:dn (x.map D.int) (some 1) none=x.tail.map D.int:=by rw[rE,Fj]
    have Q:∀f al g,tM (.val (.lst (j.map bx)) f al) (.new [] g)=.ok (.val (.bl false) true []):=λf al g=>by rw[nz (a:=.val (.lst (j.map bx)) f al) (b:=.new [] g) (by have:=nC (g:=bx) (xs:=j) t_;show(D.lst (j.map bx)).dep<=50;rw[iJ];lia) (by show(D.lst []).dep<=50;decide),ga,iL,<- R];rfl
    have Y:D.be (j.map bx)=true:=bj _ _ cz;have I:(0:Int)<((j.map bx).length:Nat):=by rw[UO];lia
    have o:dk (j.map bx) (c%((j.map bx).length:Nat))=some (bx (G,q1,q2,put)):=by rw[UO];exact V
    have J:(put.map D.int).length+(x.tail.map D.int).length<=1000000:=by have:put.length<=2:=F;simp;lia
    have Z:((Ss++[(b,x)]).map fR).length<1000000:=by simp;lia
    have A:=cz (G,q1,q2,put);have eS:(Ss++[(b,x)]++[(q2,put++x.tail)]).map fR=(Ss++[(b,x)]).map fR++[.tup [.int q2,.lst (put.map .int++x.tail.map .int)]]:=by simp[fR]
    rw[eS];have o:dk (j.map bx) (c%((j.map bx).length:Nat))=some (.tup [.int G,.int q1,.int q2,.tup (put.map .int)]):=o;have A:(D.tup [.int G,.int q1,.int q2,.tup (put.map .int)]).flat=true:=A;have hx':Ct false [] (dk ((Ss++[(b,x)]).map fR) (-1))=.ok (.val (.tup [.int b,.lst (x.map .int)]) false []):=O;simp_arith[-jG,gA,hx',iT,v,Q,Y,I,o,A,bJ,H,zf J,u_ Z];rfl
   .rcases U4.mp hz with hz|hz
    .have:=C z hz;exact⟨by lia,this.2⟩
    .rw[U5]at hz;subst hz;refine⟨?_,W.t,λy hy=>?_⟩
     rotate_left
     .rcases U4.mp hy with hy|hy
      .exact W.q y hy
      .exact X y (List.mem_of_mem_tail hy)
     have:put.length<=2:=F;have h1:x≠[]:=λe=>by
      have hh:r∈RL.filter (fits (b,x)):=by rw[L];simp
      have:=(Vd.mp hh).2;rw[e]at this;cases this
     have:x.tail.length+1=x.length:=by cases x with|nil=>exact absurd rfl h1|cons y l=>rfl
     simp only[Vc];lia) cs 0 [vv (Hs ro sg RL) false,vv (fR (a,w)) false,vv (.lst (cs.map .int)) false,ow [fR (a,w)] false,none,none,none,none,none] (by lia) ⟨[],(a,w),none,none,none,none,none,rfl,rfl,(λz hz=>by rw[List.nil_append,U5]at hz;subst hz;exact⟨hw,M⟩),λi u z _ h2=>by simp at h2⟩
 refine⟨Ss++[s],by simp,by simp;lia,(λz hz=>by have:=C z hz;exact⟨by lia,this.2⟩),K,?_⟩;have f1:D.be [fR (a,w)]=false:=fV (fH _);have f2:=fl (Ss++[s]) (by simp);have T:=i9 (f:=false) (al:=[]) (fH (a,w));have S:m6 [fR (a,w)] false []=.new [fR (a,w)] false:=by unfold m6;rw[f1];rfl
 simp_arith[io,rH,dH,fH,T,S,f1,h1,f2]
def zj(w:List Int)(f g:Bool)(al:List Nat):tM (.val (.lst (w.map .int)) f al) (.new [] g)=.ok (.val (.bl w.isEmpty) true []):=by
 have c:(D.lst (w.map .int)).dep<=50:=by have:=gO w;rw[iJ];lia
 rw[nz (a:=.val (.lst (w.map .int)) f al) (b:=.new [] g) c (by show(D.lst []).dep<=50;decide),ga,iL];cases w<;>rfl
def NG:dk [a,b,c] 0=some a:=(rfl)
def Tw{e0 e1 e3 e4 e5 a:Option Sl}{g1 fr:Bool}(n:Nat)(b:n<=1000000):kZ 1 [2] (gN 0) (λ_=>.ok true) dC [e0,e1,vv (.int ro) g1,e3,e4,e5,a] ⟨dg 0 n,fr,[]⟩=.ok (.new (((List.range n).map (rl ro)).map bI) true):=by have h:=gL (mk:=λd=>gN 0 d fr (g8 [e0,e1,vv (.int ro) g1,e3,e4,e5,a] 1 [2])) (test:=λ_=>.ok true) (elt:=dC) (λk:Nat=>D.int k) (λk:Nat=>.val (bI (rl ro k)) true []) (List.range n) λk e=>⟨_,rfl,rfl,by show dC [vv (.int (k:Nat)) fr,vv (.int ro) g1]=_;simp_arith[dC];rfl⟩;rw[lE,f_ (by grind) h,lY,dz,h_ (bj _ _ λc=>rfl),Vb];rfl
def Tz(a:dk X k=some (.int v))(b:A.length<1000000)(c:D.be X=true):cG [e0,e1,vv (.int ro) true,e3,vv (.lst X) g4,ow A true,vv (.int k) true]=.ok (.nx [e0,e1,vv (.int ro) true,e3,vv (.lst X) g4,ow (A++[bI (ro+k-1,v,ro+k)]) true,vv (.int k) true]):=by simp_arith[cG,a,c,u_ b];rfl
def FO{ro sg b y:Int}{RL:List Pz.aV}{r:List Int}(A:List Pz.bc){e:Option Sl}(l:0<ro)(m:r.length<=2)(o:A.length<=3)(nd:A.Nodup)(a:∀t∈A,0<=t.1/\t.1<ro+(r.length+1:Nat)/\0<=t.2.1/\t.2.1<sg/\ro<=t.2.2/\t.2.2<ro+(r.length+1:Nat))
 (h:gy (gN 6) true cG (dg 1 r.length) [vv (Hs ro sg RL) false,vv (fR (b,y::r)) false,vv (.int ro) true,vv (.int b) false,vv (.lst (.int y::r.map .int)) false,ow [bI (b,y,ro)] true,none]=.ok (.nx [vv (Hs ro sg RL) false,vv (fR (b,y::r)) false,vv (.int ro) true,vv (.int b) false,vv (.lst (.int y::r.map .int)) false,ow (A.map bI) true,e])) :
 ∃n ts es al,PM ro sg n ts es/\cW [Hs ro sg RL,fR (b,y::r)]=.ok (.val (Mc n ts es) true al):=by
 have al:=rQ A;refine⟨ro+(r.length+1:Nat),dQ A,[ro+(r.length+1:Nat)-1],?_,⟨by lia,by lia,λt i=>a t ((rR _ t).mp i),by lia,mM _,λe c=>by rw[U5.mp c];lia,by simp⟩,?_⟩
 rotate_left
 .have hd:decide ((3:Int)<((r.length+1:Nat):Int))=false:=U_ (by lia);have d:∀f:Bool,nA (Hs ro sg RL) (.int 0) f []=.ok (.val (.int ro) true []):=λf=>by unfold Hs;simp_arith[NG]
  have c:∀f al g,tM (.val (.lst (.int y::r.map .int)) f al) (.new [] g)=.ok (.val (.bl false) true []):=λf al g=>zj (y::r) f g al;have j:∀f g al bl,Tp [.val (.int 1) f al,.val (.int (r.length+1:Nat)) g bl]=.ok ⟨dg 1 r.length,true,[]⟩:=λf g al bl=>by rw[QM (by decide) (by decide) (by lia) (by lia),show(((r.length+1:Nat):Int)-1).toNat=r.length by lia]
  have k:∀f al,Hv [.val (.lst (A.map bI)) f al]=.ok (.new ((dQ A).map bI) true):=λf al=>Fx A (by lia) nd (ga _ f al);have fl:D.be (A.map bI)=true:=bj _ _ dc;have hs:fR (b,y::r)=.tup [.int b,.lst (.int y::r.map .int)]:=rfl;have ha:bI (b,y,ro)=.tup [.int b,.int y,.int ro]:=rfl;rw[hs,ha]at h;rw[hs];simp_arith[cW,iP,dH,d,iT,c,FL,U1,UO,hd,j,h,k,fl];rfl
def IW{RL:List Pz.aV}{s:vw}(o:0<ro)(K:ro<=3)(s1:0<sg)(s2:sg<=5)(h:Sa ro sg s)(L:s.2.length<=1000):∃n ts es al,PM ro sg n ts es/\cW [Hs ro sg RL,fR s]=.ok (.val (Mc n ts es) true al):=by
 obtain⟨b,x⟩:=s;obtain⟨⟨p,q⟩,d⟩:=h;have p:0<=b:=p;have q:b<ro:=q;have i:∀f:Bool,nA (Hs ro sg RL) (.int 0) f []=.ok (.val (.int ro) true []):=λf=>by unfold Hs;simp_arith[NG]
 have u:∀f:Bool,nA (Hs ro sg RL) (.int 1) f []=.ok (.val (.int sg) true []):=λf=>by unfold Hs;simp_arith
 rcases x with _|⟨y,r⟩
 .refine⟨ro,[],[b],?_,⟨by lia,by lia,λt C=>(nomatch C),by simp,Ve,λe j=>?_,by simp⟩,?_⟩
  rotate_left
  .rw[U5.mp j];lia
  .have j:∀f g al,tM (.val (.lst []) f al) (.new [] g)=.ok (.val (.bl true) true []):=zj [];have hs:fR (b,[])=.tup [.int b,.lst []]:=rfl;rw[hs];simp_arith[cW,iP,dH,i,iT,j];rfl
 .have E:0<=y/\y<sg:=d y (by simp);have j:∀f al g,tM (.val (.lst (.int y::r.map .int)) f al) (.new [] g)=.ok (.val (.bl false) true []):=λf al g=>zj (y::r) f g al;by_cases F:3<r.length+1
  .obtain⟨pm,w⟩:=AG o s1 s2 (a:=b) ⟨p,q⟩ E;refine⟨ro+1,_,[ro],?_,pm,?_⟩
   rotate_left
   .have fl:D.be (((List.range sg.toNat).map (rl ro)).map bI)=true:=bj _ _ dc;have z:[D.tup [.int b,.int y,.int ro]].length+(((List.range sg.toNat).map (rl ro)).map bI).length<=1000000:=by simp;lia
    have G:-4611686018427387904<=sg:=by lia
    have H:sg<4611686018427387904:=by lia
    have hd:decide ((3:Int)<((r.length+1:Nat):Int))=true:=U6 (by lia);have hs:fR (b,y::r)=.tup [.int b,.lst (.int y::r.map .int)]:=rfl;rw[hs];simp_arith[cW,iP,dH,i,u,iT,j,FL,U1,UO,hd,t8,G,H,Tw sg.toNat (show sg.toNat<=1000000 by lia),zf z,fl,w];rfl
  .have B:=λ(k v:Int)(X A:List D)(e:Option Sl)(xs:List D)(d:dk X k=some (.int v))(I:A.length<1000000)(l:D.be X=true)=>show gy (gN 6) true cG (.int k::xs) [vv (Hs ro sg RL) false,vv (fR (b,y::r)) false,vv (.int ro) true,vv (.int b) false,vv (.lst X) false,ow A true,e]=gy (gN 6) true cG xs [vv (Hs ro sg RL) false,vv (fR (b,y::r)) false,vv (.int ro) true,vv (.int b) false,vv (.lst X) false,ow (A++[bI (ro+k-1,v,ro+k)]) true,vv (.int k) true] by rw[MX (env1:=[vv (Hs ro sg RL) false,vv (fR (b,y::r)) false,vv (.int ro) true,vv (.int b) false,vv (.lst X) false,ow A true,vv (.int k) true]) rfl,Tz d I l];rfl
   have l:=bJ (y::r);have M:0<=b/\b<ro:=⟨p,q⟩;rcases r with _|⟨c,_|⟨m,_|⟨N,r⟩⟩⟩
   .exact FO [(b,y,ro)] o (by simp) (by simp) (by simp) (by simp;lia) (e:=none) rfl
   .have J:0<=c/\c<sg:=d c (by simp);exact FO [(b,y,ro),(ro+1-1,c,ro+1)] o (by simp) (by simp) (by simp;lia) (by simp;lia) (B 1 c _ _ _ [] rfl (by simp) l)
   .have J:0<=c/\c<sg:=d c (by simp);have O:0<=m/\m<sg:=d m (by simp);exact FO [(b,y,ro),(ro+1-1,c,ro+1),(ro+2-1,m,ro+2)] o (by simp) (by simp) (by simp;lia) (by simp;lia) ((B 1 c _ _ _ [.int 2] rfl (by simp) l).trans (B 2 m _ _ _ [] rfl (by simp) l))
   .simp at F
def RA(ns:List Int)(k:Int):sd ns k<2147483648:=by unfold sd;lia
def IX(f:En->Res R)(env:En):DH f env=(f env).bind λra=>.ok (.val (.bl (!ra.d.fJ)) true []):=(rfl)
def FP(v:Int):fA [.int v]=.ok (.val (.bl true) true []):=by simp_arith[fA,nL]
theorem back(G:Pz.Good RL ts U t)(f:∀r∈RL,r.2.2.2.length<=2)(R:Od RL Ss):∀(d i:Nat)(s z:vw),Ss[i]?=some s->Ss[i+d]?=some z->mN t z.1 z.2 e v->∃u,mN t s.1 s.2 e u/\u<=v+d
 |0,i,s,z,h1,c,h=>by rw[Nat.add_zero,h1]at c;cases c;exact⟨v,h,by lia⟩
 |d+1,i,s,z,h1,c,h=>by
  have m:=(UQ.mp c).1;obtain⟨y,g⟩ : ∃y,Ss[i+1]?=some y:=⟨Ss[i+1],by simp⟩;obtain⟨u,l,n⟩:=back G f R d (i+1) y z g (by rw[<- c];congr 1;lia) h;obtain⟨r,j,b,rfl⟩:=R i s y h1 g;obtain⟨a,w⟩:=s;cases w with
  |nil=>cases b
  |cons x w=>have b:((r.1==a)&&(r.2.1==x))=true:=b;rw[Vi,W2,W2]at b;obtain⟨u2,k,o⟩:=IV G j (f r j) l;rw[b.1,b.2]at k;exact⟨u2,k,by lia⟩
def IY{n at_ k:Int}{ts:List Pz.bc}{es:List Int}{Ss:List vw}(hz:dk (Ss.map fR) k=some (fR z))(a:fF [Mc n ts es,fR z]=.ok (.val (.bl b) true []))(h1:b=true->∃f,o1=some f/\f<=k)(h:b=true->at_<=k->∃f,o2=some f/\f<=k-at_) :
 lG [e0,e1,vv (Mc n ts es) true,e3,vv (.lst (Ss.map fR)) true,e5,vv (.int at_) true,e7,vv (oD o1) true,vv (oD o2) true,vv (.int k) true]=.ok (.nx [e0,e1,vv (Mc n ts es) true,e3,vv (.lst (Ss.map fR)) true,e5,vv (.int at_) true,e7,vv (oD o1) true,vv (oD o2) true,vv (.int k) true]):=by
 have c:=i9 (f:=true) (al:=[]) (fH z);cases b with
 |false=>simp_arith[lG,de,hz,c,a]
 |true=>
  obtain⟨f,rfl,j⟩:=h1 rfl;have e:decide (k<f)=false:=U_ (by lia);by_cases ha:at_<=k
  .obtain⟨g,rfl,l⟩:=h rfl ha;have d:decide (at_<=k)=true:=U6 ha;have i:decide (k-at_<g)=false:=U_ (by lia);simp_arith[lG,de,hz,c,a,oD,e,d,i]
  .have d:decide (at_<=k)=false:=U_ ha;simp_arith[lG,de,hz,c,a,oD,e,d]
abbrev eL(ro sg n at_:Int)(RL:List Pz.aV)(ts:List Pz.bc)(es:List Int)(Ss:List vw)(o1 a:Option Int)(e0 e3 e5 e:Option Sl):En:=[e0,vv (Hs ro sg RL) true,vv (Mc n ts es) true,e3,vv (.lst (Ss.map fR)) true,e5,vv (.int at_) true,vv (.lst [Hs ro sg RL,Mc n ts es]) true,vv (oD o1) true,vv (oD a) true,e]
def IZ{ro sg n at_:Int}{RL:List Pz.aV}{ts:List Pz.bc}(r1:0<ro)(r2:ro<=3)(s1:0<sg)(s2:sg<=5)(hr:∀r∈RL,RR ro sg r)(H:RL.length<=60)(P:PM ro sg n ts es)(hsl:Ss.length<=200)(B:∀s∈Ss,s.2.length<=300)(hR:Od RL Ss)(i0:0<=at_)(i1:at_<(Ss.length:Nat)) :
 wD (vi [e0,vv (Hs ro sg RL) true,vv (Mc n ts es) true,e3,vv (.lst (Ss.map fR)) true,e5,vv (.int at_) true,none,none,none,none])=.ok (.val (.bl true) true []):=by
 obtain⟨t,hp,G,ht⟩:=Cf r1 r2 s1 s2 hr H P;have le:=P.le;have lt:=P.lt;obtain⟨d,c⟩ : ∃z,Ss[0]?=some z:=⟨Ss[0]'(by lia),by simp⟩;obtain⟨q,hq,j⟩:=rF i0 i1;have b0:=B d (Vm c);have bq:=B q (Vm j);obtain⟨o1,L1,I⟩:=xE (a:=d.1) (w:=d.2) hp G.nd (by lia) (by lia) (by lia);obtain⟨A,L2,J⟩:=xE (a:=q.1) (w:=q.2) hp G.nd (by lia) (by lia) (by lia);have bk:=λ{e v:Int}=>back (e:=e) (v:=v) G (λr h=>(hr r h).p) hR;have low:∀{s:vw}{o:Option Int},RO t es s.1 s.2 o->∀e∈es,∀u,mN t s.1 s.2 e u->∃f,o=some f/\f<=u:=λ{s o} L e i u hu=>by
  cases o with
  |none=>exact absurd hu (L.no rfl e i u)
  |some f=>exact⟨f,rfl,(L.on f rfl).2 e i u hu⟩
 have K:=IJ (ro:=ro) (sg:=sg) (n:=n) (RL:=RL) (ts:=ts) (es:=es);have ff:D.be [Hs ro sg RL,Mc n ts es]=false:=fV (dH _ _ _);have dh:(D.lst [Hs ro sg RL,Mc n ts es]).dep<=50:=by have a:=Nt ro sg RL;have b:=Nu n ts es;simp only[iJ,gM,jl];lia
 have M:∀f al g,Cs (.val (.lst [Hs ro sg RL,Mc n ts es]) f al) (.new [Hs ro sg RL,Mc n ts es] g)=.ok (.val (.bl false) true []):=λf al g=>by rw[Mg (a:=.val (.lst [Hs ro sg RL,Mc n ts es]) f al) (b:=.new [Hs ro sg RL,Mc n ts es] g) dh dh,ga,iL,m5];rfl
 have N:∀(s:vw)(g:Bool),nA (fR s) (.int 0) g []=.ok (.val (.int s.1) true []):=λs g=>by unfold fR;simp_arith[FL]
 have O:∀(s:vw)(g:Bool),nA (fR s) (.int 1) g []=.ok (.val (.lst (s.2.map .int)) g []):=λs g=>by unfold fR;simp_arith[NE]
 have Q:=λy=>i9 (f:=true) (al:=[]) (fH y);have R:dk (Ss.map fR) 0=some (fR d):=by
  cases Ss with
  |nil=>cases c
  |cons y l=>cases c;exact FL
 have S:dk (Ss.map fR) at_=some (fR q):=by rw[nF,hq];rfl
 have f1:(oD o1).flat=true:=by cases o1<;>rfl
 have f2:(oD A).flat=true:=by cases A<;>rfl
 obtain⟨bf,hf,m,rfl⟩:=jI (λk:Nat=>D.int (k:Nat)) (asg:=gN 10) (fr:=true) (body:=lG) (List.range Ss.length) (λ_ env=>∃m,env=eL ro sg n at_ RL ts es Ss o1 A e0 e3 e5 m) (List.range Ss.length) [] (eL ro sg n at_ RL ts es Ss o1 A e0 e3 e5 none) rfl ⟨none,rfl⟩ (by
  rintro pre post k env C ⟨m,rfl⟩;have hk:k<Ss.length:=Vp.mp (by rw[C];simp);obtain⟨z,T,hz⟩:=rF (xs:=Ss) (k:=((k:Nat):Int)) (by lia) (by lia);rw[WQ]at hz;obtain⟨b,U,hb⟩:=FG G (n:=n) (a:=z.1) (w:=z.2) (es:=es) (by lia);have V:dk (Ss.map fR) ((k:Nat):Int)=some (fR z):=by rw[nF,T];rfl
  refine⟨_,_,rfl,IY V U (λh=>?_) (λh ha=>?_),_,rfl⟩
  .obtain⟨e,i,x⟩:=hb.mp h;obtain⟨u,E,h6⟩:=bk k 0 d z c (by rw[Nat.zero_add];exact hz) x;obtain⟨f,W,h8⟩:=low L1 e i u E;exact⟨f,W,by lia⟩
  .obtain⟨e,i,x⟩:=hb.mp h;obtain⟨u,E,h6⟩:=bk (k-at_.toNat) at_.toNat q z j (by rw[<- hz];congr 1;lia) x;obtain⟨f,W,h8⟩:=low L2 e i u E;exact⟨f,W,by lia⟩)
 have c1:(-4611686018427387904:Int)<=(Ss.length:Nat):=by lia
 have c2:((Ss.length:Nat):Int)<4611686018427387904:=by lia
 have X:(D.tup [D.int d.1,D.lst (d.2.map .int)]).flat=false:=rfl;have Y:(D.tup [D.int q.1,D.lst (q.2.map .int)]).flat=false:=rfl;have F:wD (rM (eL ro sg n at_ RL ts es Ss o1 A e0 e3 e5 none))=.ok (.val (.bl true) true []):=by
  simp_arith[rM,UO,t8,c1,c2,WQ,lE,hf,xn];cases A with
  |none=>simp_arith[oD,Fp]
  |some v=>obtain⟨⟨e,i,Z⟩,_⟩:=L2.on v rfl;obtain⟨u,E,h6⟩:=bk at_.toNat 0 d q c (by rw[Nat.zero_add];exact j) Z;obtain⟨f,rfl,h8⟩:=low L1 e i u E;have d1:decide (f<=at_+v)=true:=U6 (by lia);simp_arith[oD,Fp,IX,d1]
 simp_arith[vi,dH,de,K,ff,t7,AA,Rw,NE,R,Q,Qy,N,O,bJ,X,I,f1,Az,S,Y,J,f2,Ay,M];cases o1 with
 |none=>have hn:(oD none).fJ=true:=rfl;simp_arith[hn,F]
 |some v=>have hn:(oD (some v)).fJ=false:=rfl;have hv:fA [oD (some v)]=.ok (.val (.bl true) true []):=FP v;simp_arith[hn,f1,hv,F]
def NH(ns:List Int)(I:ns.length<=63):xo [.lst (ns.map .int)]=.ok (.val (.bl true) true []):=by
 obtain⟨ro,sg,RL,n,ts,es,cs,al,l,F,s1,s2,G,J,P,K,L⟩:=IU ns I;obtain⟨a,w,M,N,O,m,o⟩:=xH (xy ns 2) (RA ns 2) l s1 s2;obtain⟨Ss,p,q,g,Q,i⟩:=NF (ro:=ro) (sg:=sg) (a:=a) (RL:=RL) (w:=w) (cs:=cs) G (by lia) O (by lia) ⟨⟨M,N⟩,m⟩;have k2:=nO ns 2 (by decide);have k3:=nO ns 3 (by decide);have R:=xy ns 3;generalize sd ns 3=b at k3 R;have Y:0<Ss.length:=Xn.mpr p;have r:=λy=>i9 (f:=true) (al:=[]) (fH y);have t:D.be (ns.map D.int)=true:=bJ _;have hs:(D.tup [D.int a,D.lst (w.map .int)]).flat=false:=rfl;have u:∀f:Bool,nA (Hs ro sg RL) (.int 0) f []=.ok (.val (.int ro) true []):=λf=>by unfold Hs;simp_arith[NG]
 have v:∀f:Bool,nA (Hs ro sg RL) (.int 1) f []=.ok (.val (.int sg) true []):=λf=>by unfold Hs;simp_arith
 have fp:(D.tup [Hs ro sg RL,Mc n ts es,.lst (cs.map .int)]).flat=false:=fV (dH _ _ _);have d:io [Hs ro sg RL,.tup [.int a,.lst (w.map .int)],.lst (cs.map .int)]=.ok (.val (.lst (Ss.map fR)) false [3]):=i;have j:(0:Int)<((Ss.map fR).length:Nat):=by rw[UO];lia
 simp_arith[xo,JM,L,t,fp,IF,AD,dH,de,k2,u,v,o,hs,d,AC,k3,j,AB];have S:=Wf (b/31/128) (show((Ss.length:Nat):Int)≠0 by lia);have T:=VY (b/31/128) (show(0:Int)<(Ss.length:Nat) by lia);have c:=λ{n:Int}{ts:List Pz.bc}{es:List Int}(P:PM ro sg n ts es)=>IZ (Ss:=Ss) (e0:=vv (.lst (ns.map .int)) false) (e3:=vv (.lst (cs.map .int)) true) (e5:=vv (.int (b/31)) true) l F s1 s2 G (by lia) P q (λs h=>(g s h).1) Q S T;by_cases H:b/31%2=1
 .have x:(b/31%2==1)=true:=W2.mpr H;obtain⟨z,hz,A⟩:=rF (xs:=Ss) (k:=b/31/2%64%((Ss.length:Nat):Int)) (Wf _ (by lia)) (VY _ (by lia));have B:=g z (Vm A);obtain⟨Z,U,V,W,X,C⟩:=IW (RL:=RL) l F s1 s2 B.2 (by lia);have E:dk (Ss.map fR) (b/31/2%64%((Ss.length:Nat):Int))=some (fR z):=by rw[nF,hz];rfl
  have c:=c X;have e:(0:Int)<((Ss.length:Nat):Int):=by lia
  simp_arith[vj,UO,nz,x,e,E,r,dH,C,de,c]
 .have x:(b/31%2==1)=false:=WV.mpr H;have c:=c P;simp_arith[vj,UO,nz,x,c]
end W
open PySem PySem.W PyProof.Rows PySem.Challenge
def vQ_:Program:={pw_callwalk_k26_no_run_is_shorter with main:={pw_callwalk_k26_no_run_is_shorter.main with body:=pw_callwalk_k26_no_run_is_shorter.main.body.filter fun s=>match s with|.FunctionDef ..=>true|.ClassDef ..=>true|_=>false}}
local macro_rules |`(tactic|o_head $H)=>`(tactic|refine holds_open (q:=vQ_) (loose:=[]) (Xt:=fun s=>xlAt vQ_ [] s && recOk (RowW.records rw_callwalk_k26_no_run_is_shorter.row.toRowW) s) (XP:=XL vQ_ []) (Yf:=Hook.obs $H) (Ya:=Hook.val $H) (YP:=Hook.says $H) (N:=3800) (fun w=>by kernel_rfl) (Hook.of $H) (Hook.keeps $H) (fun s e=>xl_of s (Bool.and_eq_true_iff.mp e).1) XL.keeps (by rfl) (by rfl) (by rfl) (fun s e=>recFacts_of (Bool.and_eq_true_iff.mp e).2) (by rfl) (by first|assumption|decide +kernel) (by decide +kernel) ⟨rfl,rfl,rfl,rfl,rfl,by decide +kernel⟩ ?_ ?_)
theorem PySem.Challenge.cw_callwalk_k26_no_run_is_shorter_holds : PySem.Challenge.rw_callwalk_k26_no_run_is_shorter.Holds := by
 w_on;o_law;k_head;(· w_witness2)
 k_fill
 refine L2.Dz (l:=rw_callwalk_k26_no_run_is_shorter) (n:=63) (k:=8) (x:="_law_script") (CX:=fun w=>L2.jw) (sp:=fun _=>L3.R3 W.xo) rfl (by decide) rfl ⟨rfl,by decide,by decide⟩ (fun w h Y=>PySem.W.kIn_of Y) ?kL ?F ?S ?C
 case kL=>exact fun w=>⟨by rfl,by rfl⟩
 case F=>
  intro w mg fa h KX G hmg
  refine' Exists.imp (fun _ z=>⟨z.1,fun base _ _=>z.2 base⟩) (W.Nq hmg ?_)
  refine' W.Rf KX G L2.Bi (L4.fk _ _ _) (L4.fk _ _ _) (L4.fk _ _ _) (L4.fk _ _ _) (L4.fk _ _ _) (L4.fk _ _ _) (L4.fk _ _ _) (L4.fk _ _ _) (L4.fk _ _ _) (L4.fk _ _ _) (L4.fk _ _ _) (L4.fk _ _ _) (L4.fk _ _ _) (L4.fk _ _ _) (L4.fk _ _ _) (L4.fk _ _ _) (L4.fk _ _ _) (L4.fk _ _ _) (L4.fk _ _ _) (L4.fk _ _ _) (L4.fk _ _ _) (L4.fk _ _ _) _ _ _ _ _ _ _ _ _ _ _ _ _ ⟨_,_,_,_,_,_,_⟩ _ _ ⟨_,_,_,_,_,_,_⟩ _ _ _ _ _ (L4.mk _ _ _ _ _) (L4.mk _ _ _ _ _) (L4.mk _ _ _ _ _) (L4.mk _ _ _ _ _) (L4.mk _ _ _ _ _) (L4.mk _ _ _ _ _) (L4.mk _ _ _ _ _) (L4.mk _ _ _ _ _) (L4.mk _ _ _ _ _)
  all_goals try k_is
 case S=>exact fun w H a ns hl hS=>L3.Lr (fun ns hn=>⟨_,_,W.NH ns hn⟩) H a ns hl hS
 case C=>exact fun _ _ _ _ _ z=>z
