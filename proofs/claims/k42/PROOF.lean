import PyProof.Rows.All
import Wide.All
import OpenK.AllK
import PySem.Challenge.RW_callwalk_k42_head_steps
section
open PySem PySem.W PyProof.Rows
def PySem.W.Vw:Program:={PySem.Challenge.pw_callwalk_k42_head_steps with main:={PySem.Challenge.pw_callwalk_k42_head_steps.main with body:=PySem.Challenge.pw_callwalk_k42_head_steps.main.body.filter fun s=>match s with|.FunctionDef ..=>true|.ClassDef ..=>true|_=>false}}
local macro_rules | `(tactic| o_head $H) => `(tactic| refine holds_open (q := PySem.W.Vw) (loose := []) (Xt := fun s => xlAt PySem.W.Vw [] s && recOk (RowW.records PySem.Challenge.rw_callwalk_k42_head_steps.row.toRowW) s) (XP := XL PySem.W.Vw []) (Yf := Hook.obs $H) (Ya := Hook.val $H) (YP := Hook.says $H) (N := 3900) (fun w => by kernel_rfl) (Hook.of $H) (Hook.keeps $H) (fun s e => xl_of s (Bool.and_eq_true_iff.mp e).1) XL.keeps (by rfl) (by rfl) (by rfl) (fun s e => recFacts_of (Bool.and_eq_true_iff.mp e).2) (by rfl) (by first | assumption | decide +kernel) (by decide +kernel) ⟨rfl, rfl, rfl, rfl, rfl, by decide +kernel⟩ ?_ ?_)
set_option Elab.async false
set_option maxRecDepth 100000
set_option maxHeartbeats 0
def PySem.W.Ea:=fun hc=>(by
 w_on;o_law;k_head;(· w_witness2)
 exact hc:PySem.Challenge.rw_callwalk_k42_head_steps.Holds)
end
set_option autoImplicit true
set_option Elab.async false
set_option linter.all false
set_option genSizeOf false
set_option genSizeOfSpec false
set_option compiler.extract_closed false
set_option maxRecDepth 100000
set_option maxHeartbeats 4000000
set_option bootstrap.genMatcherCode false
noncomputable section
open PySem.W(instObj lookIn plainGet hasDictIn findIn isFn emptyDict keepIn kitOne fnOf codeIn nsIn)
abbrev KE:=@PySem.wpAny_bind
abbrev Tl:=@PySem.wpAny_pure
abbrev Tn:=@PySem.Heap.get?_push_of_some
abbrev To:=@Nat.le_refl
abbrev Tp:=@List.length_map
abbrev Tq:=@List.getElem?_eq_some_iff
abbrev Ts:=@List.getElem?_eq_getElem
abbrev Tt:=@if_pos
abbrev Tu:=@List.mem_cons_of_mem
abbrev Tv:=@PySem.Heap.get?_push_size
abbrev Tw:=@List.mem_cons_self
abbrev Tz:=@List.mem_cons
abbrev TB:=@List.size_toArray
abbrev TC:=@if_neg
abbrev TF:=@PySem.Heap.lt_size
abbrev TH:=@List.mem_map
abbrev TJ:=@List.map_cons
abbrev TL:=@List.getElem?_map
abbrev TN:=@List.mem_iff_getElem?
abbrev TR:=@List.not_mem_nil
abbrev TU:=@List.length_append
abbrev TV:=@List.mem_singleton
abbrev TY:=@Bool.false_eq_true
abbrev TZ:=@decide_eq_true
abbrev T1:=@Nat.ne_of_lt
abbrev T2:=@Nat.zero_le
abbrev T3:=@List.length_cons
abbrev T4:=@List.mem_append
abbrev T5:=@List.mem_of_getElem?
abbrev T6:=@Nat.le_trans
abbrev T7:=@List.map_map
abbrev T8:=@List.pairwise_iff_getElem
abbrev T9:=@Bool.false_ne_true
abbrev T_:=@of_decide_eq_true
abbrev Ua:=@List.map_append
abbrev Ub:=@List.mem_append_right
abbrev Uc:=@Array.getElem?_toList
abbrev Ud:=@PySem.sizeLine_eq
abbrev Ue:=@Nat.lt_of_lt_of_le
abbrev Ug:=@PySem.F.plainAttrs_dict
abbrev Uh:=@PySem.PassesOwn.never
abbrev Ui:=@List.take_add_one
abbrev Uj:=@List.mem_range
abbrev Uk:=@PySem.Heap.SameBut.update
abbrev Ul:=@List.mem_append_left
abbrev Um:=@Option.some.inj
abbrev Uo:=@PySem.wpAny_newObj_type
abbrev Up:=@List.getElem?_set_self
abbrev Uq:=@List.nodup_nil
abbrev Ur:=@PySem.wpAny_call_entry
abbrev Us:=@List.mem_filter
abbrev Ut:=@PySem.F.slot_dict_setdefault
abbrev Uu:=@Bool.and_eq_true
abbrev Uv:=@PySem.W.mg_none_of
abbrev Uw:=@decide_eq_false
abbrev Ux:=@Option.map_eq_some_iff
abbrev Uy:=@List.getElem?_set_ne
abbrev Uz:=@List.length_take
abbrev UA:=@PySem.F.plainAttrs_list
abbrev UB:=@Array.length_toList
abbrev UC:=@PySem.wpAny_holding
abbrev UD:=@Ne.symm
abbrev UE:=@List.append_nil
abbrev UF:=@List.nodup_cons
abbrev UG:=@PyProof.Rows.slot_tuple_getitem
abbrev UH:=@PySem.F.slot_list_append
abbrev UI:=@PySem.F.type_list_append
abbrev UJ:=@Nat.lt_of_le_of_lt
abbrev UK:=@PySem.Heap.get?_update_self
abbrev UL:=@List.getElem?_append_right
abbrev UM:=@if_false
abbrev UN:=@PySem.wpAny_callSpecial?_slot
abbrev UO:=@List.length_eq_zero_iff
abbrev UP:=@List.map_congr_left
abbrev UQ:=@PySem.F.slot_dict_itemiterator_next
abbrev UR:=@List.getElem?_append_left
abbrev US:=@Nat.le_of_lt
abbrev UT:=@List.take_of_length_le
abbrev UU:=@PySem.F.type_dict_setdefault
abbrev UV:=@Nat.exists_eq_add_of_le'
abbrev UW:=@PySem.W.kia_one
abbrev UX:=@List.getElem?_eq_none
abbrev UY:=@PySem.boot_len
abbrev UZ:=@List.nodup_append
abbrev U0:=@PySem.wpAny_setState_of
abbrev U1:=@congrArg
abbrev U2:=@PyProof.Rows.F.plain_set_update_loop
abbrev U3:=@Nat.shiftRight_eq_div_pow
abbrev U4:=@List.take_length
abbrev U5:=@List.Pairwise.imp_of_mem
abbrev U6:=@List.append_assoc
abbrev U7:=@PySem.Paired.length
abbrev U8:=@PySem.codeAny_builtin
abbrev U9:=@Int.eq_ofNat_of_zero_le
abbrev U_:=@List.mem_of_mem_take
abbrev Vb:=@Array.getElem?_eq_some_iff
abbrev Vc:=@PySem.Calls.callWith_builtin
abbrev Vd:=@PySem.wpAny_mono
abbrev Ve:=@PySem.wpAny_truthy_bool
abbrev Vf:=@PySem.mem_of_lookup
abbrev Vg:=@beq_eq_false_iff_ne
abbrev Vh:=@List.pairwise_map
abbrev Vi:=@PySem.wpAny_dictEntries
abbrev Vj:=@Classical.byContradiction
abbrev Vk:=@List.length_singleton
abbrev Vl:=@PySem.F.slot_dict_get
abbrev Vm:=@PySem.wpAny_notOrdered_dict
abbrev Vn:=@List.take_append_drop
abbrev Vo:=@PySem.wpAny_typeNameOfWhole_itemiter
abbrev Vp:=@Nat.le_of_ble_eq_true
abbrev Vq:=@PySem.Around.under_plainId
abbrev Vs:=@PySem.Obj.data_mapDictKeys
abbrev Vt:=@Bool.not_true
abbrev Vu:=@Nat.add_sub_cancel_left
abbrev Vv:=@List.Perm.refl
abbrev Vw:=@List.foldl_append
abbrev Vx:=@PyProof.Rows.callWith_type1
abbrev Vy:=@List.find?_cons
abbrev Vz:=@List.foldl_cons
abbrev VA:=@PySem.Heap.get?_update_other
abbrev VB:=@List.length_eq_one_iff
abbrev VC:=@List.filter_cons
abbrev VD:=@Nat.ne_of_gt
abbrev VE:=@PySem.tupleKind_room_in1
abbrev VF:=@Int.le_trans
abbrev VG:=@List.filter_append
abbrev VH:=@PySem.wpAny_typeNameOf_itemiter
abbrev VI:=@Array.getElem?_eq_getElem
abbrev VJ:=@List.length_take_le'
abbrev VL:=@PySem.wpAny_passesOwn
abbrev VM:=@List.ext_getElem?
abbrev VN:=@List.flatMap_cons
abbrev VO:=@List.length_range
abbrev VP:=@PySem.call_meetsIn
abbrev VQ:=@List.any_cons
abbrev VR:=@Nat.lt_succ_self
abbrev VS:=@List.all_eq_true
abbrev VT:=@List.lookup_cons
abbrev VU:=@PySem.wpAny_typeNameOfWhole_keyiter
abbrev VV:=@PySem.Heap.size_push
abbrev VW:=@if_true
abbrev VX:=@PySem.F.entry_dict_get
abbrev VY:=@PySem.Calls.spliced_cons
abbrev VZ:=@PySem.wpAny_Call_Name_kw
abbrev V0:=@PySem.wpAny_setField_rec
abbrev V1:=@Bool.eq_iff_iff
abbrev V2:=@List.length_replicate
abbrev V3:=@PySem.wpAny_typeOf
abbrev V4:=@List.length_nil
abbrev V5:=@Nat.lt_irrefl
abbrev V6:=@PySem.wpAny_pyIter_list
abbrev V7:=@Int.toNat_natCast
abbrev V8:=@Nat.lt_succ_of_lt
abbrev V9:=@PySem.wpAny_pyIter_slot
abbrev V_:=@decide_eq_true_eq
abbrev Wa:=@List.getElem?_inj
abbrev Wb:=@PySem.Calls.evalArgs_plain
abbrev Wc:=@List.mem_iff_getElem
abbrev Wd:=@List.drop_eq_getElem_cons
abbrev We:=@List.getElem?_zip_eq_some
abbrev Wf:=@PyProof.Rows.F.entry_set_update_loop
abbrev Wg:=@PySem.wpAny_setField
abbrev Wh:=@PySem.Calls.call_function_entry
abbrev Wi:=@Nat.mul_le_mul
abbrev Wj:=@List.length_drop
abbrev Wl:=@List.nodup_range
abbrev Wm:=@List.filterMap_cons
abbrev Wn:=@PySem.Heap.SameBut.extBut
abbrev Wo:=@List.flatMap_append
abbrev Wp:=@List.map_nil
abbrev Wq:=@PySem.wpAny_typeNameOf_keyiter
abbrev Wr:=@List.mem_filterMap
abbrev Ws:=@PySem.plainId_quiet
abbrev Wt:=@List.pairwise_cons
abbrev Wu:=@PySem.W.KasT.kasWp_bind
abbrev Wv:=@PySem.Obj.data_mapFields
abbrev Ww:=@PySem.size_of_entries
abbrev Wx:=@PySem.wpAny_dictEpoch
abbrev Wy:=@List.length_set
abbrev Wz:=@List.getElem?_replicate
abbrev WA:=@Nat.eq_or_lt_of_le
abbrev WB:=@Array.getElem?_eq_none
abbrev WC:=@PySem.wpAny_isOneOf_itemiter
abbrev WD:=@PySem.Calls.spliced_nil
abbrev WE:=@PySem.wpAny_field
abbrev WF:=@Nat.lt_trichotomy
abbrev WG:=@bne_self_eq_false
abbrev WH:=@PySem.codeAny_mono
abbrev WI:=@List.length_filter_le
abbrev WJ:=@PySem.F.args_dict_setdefault_3
abbrev WK:=@PySem.Obj.isFreed_of_fields
abbrev WL:=@List.set_getElem_self
abbrev WM:=@Int.le_of_lt
abbrev WN:=@Nat.le_add_right
abbrev WO:=@PySem.F.entry_dict_setdefault
abbrev WP:=@PySem.wpAny_isInstance
abbrev WQ:=@List.eq_nil_of_length_eq_zero
abbrev WR:=@List.mem_flatMap
abbrev WS:=@PySem.wpAny_updateDictKeys
abbrev WT:=@List.mem_of_mem_drop
abbrev WU:=@List.pairwise_append
abbrev WV:=@List.getElem?_of_mem
abbrev WW:=@Bool.and_self
abbrev WX:=@PySem.wpAny_attempt
abbrev WY:=@PySem.wpAny_newList
abbrev WZ:=@beq_iff_eq
abbrev W0:=@PySem.wpAny_execs_nil
abbrev W1:=@PySem.W.plainGet_of
abbrev W2:=@Nat.add_le_add_left
abbrev W3:=@PySem.Obj.isFreed_of_dict
abbrev W4:=@List.getElem?_range
abbrev W5:=@List.length_pos_iff
abbrev W6:=@Nat.mul_le_mul_left
abbrev W7:=@PySem.W.callWith_K
abbrev W8:=@or_false
abbrev W9:=@Nat.lt_or_gt_of_ne
abbrev W_:=@Bool.false_and
abbrev Xa:=@Bool.and_false
abbrev Xb:=@PySem.wpAny_fieldsOf
abbrev Xc:=@PySem.W.kitx_dict
abbrev Xd:=@Option.isSome_map
abbrev Xe:=@PySem.wpAny_rule
abbrev Xf:=@Nat.le_of_lt_succ
abbrev Xg:=@Prod.ext
abbrev Xh:=@List.sum_cons
abbrev Xi:=@Nat.mul_add
abbrev Xj:=@List.any_eq_true
abbrev Xk:=@List.perm_middle
abbrev Xl:=@Nat.le_of_eq
abbrev Xm:=@Nat.add_comm
abbrev Xn:=@Nat.mod_lt
abbrev Xo:=PySem.Shared
abbrev Xp:=PySem.W.Frag
abbrev Xq:=PySem.Program
abbrev Xr:=PySem.Value
abbrev Xs:=PySem.Around
def Xy(h : True := by rfl) : True := h
def aM:Lean.Syntax:=Xy._auto_1
def Xt(h : True := by decide) : True := h
def ab:Lean.Syntax:=Xt._auto_1
def Xw(h : ∀u : Unit, u = u := by intro _; rfl) : True := True.intro
def az:Lean.Syntax:=Xw._auto_1
def Xu(h : True := by first|exact .inl rfl|exact .inr rfl|assumption) : True := h
def ae:Lean.Syntax:=Xu._auto_1
def Xv(h : True := by first|exact Or.inl rfl|exact Or.inr (Or.inl rfl)|exact Or.inr (Or.inr rfl)) : True := h
def Xx(h : True := by intro _ _; rfl) : True := h

namespace L2
open PySem PySem.Spec PyProof.Rows
abbrev bv:=Sum Int Str
def kr:bv->Xr->Bool
 |.inl k,v=>Value.isInt k v
 |.inr x,v=>Value.isStrOf x v
def Ql(w:World):bv->Int
 |.inl k=>hashInt k
 |.inr x=>hashStr w x
def bq:∀{k:bv}{v:Xr},kr k v=true->(∃i t,k=Sum.inl i/\v=Value.int i t)\/(∃x t,k=Sum.inr x/\v=Value.str x t)
 |.inl i,v,h=>by obtain⟨t,e⟩:=Value.isInt_shape (k:=i) (v:=v) h;exact .inl ⟨i,t,rfl,e⟩
 |.inr x,v,h=>by obtain⟨t,e⟩:=Value.isStrOf_shape (x:=x) (v:=v) h;exact .inr ⟨x,t,rfl,e⟩
def zG(i:Int)(t:Tok):kr (.inl i) (.int i t)=true:=by simp[kr,Value.isInt]
def zH(x:Str)(t:Tok):kr (.inr x) (.str x t)=true:=by simp[kr,Value.isStrOf]
def Je(a b:Int):decide ((Sum.inl a:bv)=Sum.inl b)=(a==b):=by grind
def Jf(a b:Str):decide ((Sum.inr a:bv)=Sum.inr b)=decide (a=b):=by grind
def Jg(a:Int)(b:Str):decide ((Sum.inl a:bv)=Sum.inr b)=false:=Uw (λq=>nomatch q)
def Jh(a:Str)(b:Int):decide ((Sum.inr a:bv)=Sum.inl b)=false:=Uw (λq=>nomatch q)
def aK(prog:Xq)(w:World):PySem.KeyKind prog w bv where
 is:=kr
 hash:=Ql w
 inj:=λv a b ha hb=>by
  rcases bq ha with⟨i,t,rfl,rfl⟩|⟨x,t,rfl,rfl⟩
  .rcases bq hb with⟨j,u,rfl,e⟩|⟨y,u,rfl,e⟩
   .injection e with e1 _;rw[e1]
   .exact nomatch e
  .rcases bq hb with⟨j,u,rfl,e⟩|⟨y,u,rfl,e⟩
   .exact nomatch e
   .injection e with e1 _;rw[e1]
 byValue:=λk v h=>by rcases bq h with⟨i,t,rfl,rfl⟩|⟨x,t,rfl,rfl⟩<;>rfl
 pyHash:=λhv h=>by
  rcases bq hv with⟨i,t,rfl,rfl⟩|⟨x,t,rfl,rfl⟩
  .exact wpAny_pyHash_int h
  .exact wpAny_pyHash_str h
 eqBool:=λhu hv h=>by
  rcases bq hu with⟨i,t,rfl,rfl⟩|⟨x,t,rfl,rfl⟩
  .rcases bq hv with⟨j,u,rfl,rfl⟩|⟨y,u,rfl,rfl⟩
   .rw[Je]at h;exact wpAny_eqBool_int h
   .rw[Jg]at h;exact SeqAt.EqAt.int_str i t y u _ _ _ _ h
  .rcases bq hv with⟨j,u,rfl,rfl⟩|⟨y,u,rfl,rfl⟩
   .rw[Jh]at h;exact SeqAt.EqAt.str_int x t j u _ _ _ _ h
   .rw[Jf]at h;exact wpAny_eqBool_str h
 «strs»:=λk x t v h=>by
  rcases bq h with⟨i,u,rfl,e⟩|⟨y,u,rfl,e⟩
  .exact nomatch e
  .injection e with e1 _;subst e1;cases v<;>rfl
def uw(prog:Xq)(w:World)(i:Int)(t:Tok):(aK prog w).is (.inl i) (.int i t)=true:=zG i t
def ux(prog:Xq)(w:World)(x:Str)(t:Tok):(aK prog w).is (.inr x) (.str x t)=true:=zH x t
inductive V where
 |bp|bl (b:Bool)|int (i:Int)|str (x:Str)|yf (b:Array UInt8)|IZ (b:UInt64)|ref (a:Addr)|ty (n:String)
 deriving DecidableEq
def RelV:V->Xr->Prop
 |.bp,u=>u=Value.none
 |.bl b,u=>u=Value.bool b
 |.int i,u=>∃t,u=Value.int i t
 |.str x,u=>∃t,u=Value.str x t
 |.yf b,u=>∃t,u=Value.bytes b t
 |.IZ b,u=>∃t,u=Value.float b t
 |.ref a,u=>u=Value.ref a
 |.ty n,u=>u=Value.type n
abbrev Vals:List V->List Xr->Prop:=Paired RelV
theorem Vals.length(r:Vals xs us):xs.length=us.length:=U7 r
theorem Vals.get:∀{xs:List V}{us:List Xr}{i:Nat}{x:V},Vals xs us->xs[i]?=some x->∃u,us[i]?=some u/\RelV x u
 |_,_,_,_,.nil,e=>by simp at e
 |_,_,0,_,.cons r _,e=>by simp at e;subst e;exact⟨_,rfl,r⟩
 |_,_,i+1,x,.cons _ t,e=>by obtain⟨u,h1,h2⟩:=Vals.get (i:=i) (x:=x) t (by simpa using e);exact⟨u,by simpa using h1,h2⟩
theorem Vals.append:∀{xs a:List V}{us ws:List Xr},Vals xs us->Vals a ws->Vals (xs++a) (us++ws)
 |_,_,_,_,.nil,s=>s
 |_,_,_,_,.cons r t,s=>.cons r (Vals.append t s)
theorem Vals.take:∀{xs:List V}{us:List Xr}(n:Nat),Vals xs us->Vals (xs.take n) (us.take n)
 |_,_,0,_=>.nil
 |_,_,_+1,.nil=>.nil
 |_,_,n+1,.cons r t=>.cons r (Vals.take n t)
theorem Vals.drop:∀{xs:List V}{us:List Xr}(n:Nat),Vals xs us->Vals (xs.drop n) (us.drop n)
 |_,_,0,r=>r
 |_,_,_+1,.nil=>.nil
 |_,_,n+1,.cons _ t=>Vals.drop n t
def RelO:Option V->Option Xr->Prop
 |some v,some u=>RelV v u
 |none,none=>True
 |_,_=>False
def KV{κ:Type}:List (κ×V)->List (κ×Xr)->Prop:=Paired λ(p:κ×V)(q:κ×Xr)=>p.1=q.1/\RelV p.2 q.2
def kV:bv->V
 |.inl i=>.int i
 |.inr x=>.str x
inductive HO where
  
 |lst (xs:List V)
  
 |tup (xs:List V)
  
 |dK (kvs:List (bv×V))|dT (kvs:List (List bv×V))
  
 |set (S:Int->Bool) (n:Nat)
  
 |ins (C dx:Addr) (fs:List (Str×V))
  
 |own (x:Addr)
  
 |xd (fs:List (Str×V))
  
 |met (f x:Addr)
  
 |R7 (lo hi:Int)
  
 |bj (o:Obj) (u:HO)
  
 |Bb (ps:Array Xr)
  
 |ext (φ:Heap->Prop)
abbrev Hp:=Addr->Option HO
def upd(H:Hp)(a:Addr)(o:HO):Hp:=λb=>if b=a then some o else H b
def af:upd H a o a=some o:=by unfold upd;rw[Tt rfl]
theorem ag(h:b≠a):upd H a o b=H b:=by unfold upd;rw[TC h]
def Bo{H:Hp}(h:H a=some o)(h':H b=some u)(d:o≠u):a≠b:=by intro e;subst e;rw[h]at h';exact d (Um h')
def aj{H:Hp}(h:H a=some o)(h':H b=none):a≠b:=by intro e;subst e;rw[h]at h';cases h'
section
variable(P:Xq)(w:World)
def ObjOk(H:Hp)(h:Heap)(a:Addr):HO->Prop
 |.lst xs=>xs.length<=sizeLine/\∃(its:List Xr)(n:Nat),Vals xs its/\h.get? a=some { cls:=.type "list",data:=.seq its.toArray n }
 |.tup xs=>xs.length<=sizeLine/\∃its:List Xr,Vals xs its/\IsTup h a its.toArray
 |.dK kvs=>kvs.length<=sizeLine/\(a==sysModules)=false/\∃vs,KV kvs vs/\h.DictOf (aK P w) a vs
 |.dT kvs=>kvs.length<=sizeLine/\(a==sysModules)=false/\∃xs:List (List bv×Addr×Xr),
  Paired (λ(p:List bv×V)(q:List bv×Addr×Xr)=>p.1=q.1/\H q.2.1=some (.tup (p.1.map kV))/\RelV p.2 q.2.2) kvs xs/\
  ∃o es ep,h.get? a=some o/\o.ExactDict/\o.data=.dict es ep/\es.toList=xs.map (entryOfKey (tupleKind (aK P w)))/\(xs.map (·.1)).Nodup
 |.set S n=>h.SetOf (intKind P w) a S n
 |.ins C dx fs=>H dx=some (.own a)/\fs.length<=1000/\dx≠a/\h.get? a=some (instObj C dx)/\
  ∃b,h.Ns1 dx b/\(∀f,RelO (fs.lookup f) (b f))/\PySem.Within b (fs.map (·.1))
 |.own _=>∃o,h.get? a=some o
 |.xd fs=>∃b,h.Ns1 a b/\∀f,RelO (fs.lookup f) (b f)
 |.R7 lo d=>∃t u v,h.get? a=some { cls:=.type "range",data:=.fields #[.int lo t,.int d u,.int 1 v] }
 |.bj o u=>h.get? a=some o/\ObjOk H h a u
 |.Bb ps=>h.get? a=some {cls:=.none,data:=.fields ps}
 |.met f x=>h.get? a=some (PySem.W.methodObj (.ref f) (.ref x))
 |.ext c=>c h/\(∃o,h.get? a=some o)/\∀h1 h2:Heap,c h1->(∀o,h1.get? a=some o->h2.get? a=some o)->c h2
def HOk(H:Hp)(h:Heap):Prop:=∀a o,H a=some o->ObjOk P w H h a o
end
section
theorem ObjOk.lt(x:ObjOk P w H h a o):a<h.objs.size:=by
 cases o with
 |lst xs=>obtain⟨_,_,_,_,e⟩:=x;exact TF e
 |tup xs=>obtain⟨_,_,_,p⟩:=x;exact p.lt
 |dK kvs=>obtain⟨_,_,_,_,o,_,_,e,_⟩:=x;exact TF e
 |dT kvs=>obtain⟨_,_,_,_,o,_,_,e,_⟩:=x;exact TF e
 |set S n=>obtain⟨o,_,_,_,e,_⟩:=x;exact TF e
 |ins C dx fs=>obtain⟨_,_,_,e,_⟩:=x;exact TF e
 |own y=>obtain⟨_,e⟩:=x;exact TF e
 |xd fs=>obtain⟨_,⟨_,_,_,e,_⟩,_⟩:=x;exact TF e
 |R7 lo b=>obtain⟨_,_,_,e⟩:=x;exact TF e
 |bj ob u=>obtain⟨e,_⟩:=x;exact TF e
 |Bb ps=>exact TF (show h.get? a=some _ from x)
 |met f y=>exact TF (show h.get? a=some _ from x)
 |ext c=>obtain⟨_,⟨_,e⟩,_⟩:=x;exact TF e
def Paired.L_{α e:Type}{F G:α->e->Prop}{c:List α}{d:List e}(h:Paired F c d)(f:∀a b,F a b->G a b):Paired G c d:=by
 induction h with
 |nil=>exact .nil
 |cons r _ g=>exact .cons (f _ _ r) g
def ObjOk.stay(x:ObjOk P w H h a o)(k:∀b u,(b=a\/H b=some (.own a))->h.get? b=some u->h'.get? b=some u)
 (i:∀b,H b=some (.own a)->H' b=some (.own a)) (j:∀b xs,H b=some (.tup xs)->H' b=some (.tup xs)):ObjOk P w H' h' a o:=by
 induction o with
 |lst xs=>obtain⟨z,its,n,r,e⟩:=x;exact⟨z,its,n,r,k _ _ (.inl rfl) e⟩
 |tup xs=>obtain⟨z,its,r,ob,e,c⟩:=x;exact⟨z,its,r,ob,k _ _ (.inl rfl) e,c⟩
 |dK kvs=>obtain⟨z,y,vs,r,ob,es,ep,e,c⟩:=x;exact⟨z,y,vs,r,ob,es,ep,k _ _ (.inl rfl) e,c⟩
 |dT kvs=>obtain⟨z,y,xs,r,ob,es,ep,e,c⟩:=x;exact⟨z,y,xs,Paired.L_ r λp q z=>⟨z.1,j _ _ z.2.1,z.2.2⟩,ob,es,ep,k _ _ (.inl rfl) e,c⟩
 |set S n=>obtain⟨ob,es,ep,t,e,c⟩:=x;exact⟨ob,es,ep,t,k _ _ (.inl rfl) e,c⟩
 |ins C dx fs=>obtain⟨d,z,ne,e,g,⟨od,es,ep,e2,c⟩,r⟩:=x;exact⟨i _ d,z,ne,k _ _ (.inl rfl) e,g,⟨od,es,ep,k _ _ (.inr d) e2,c⟩,r⟩
 |own y=>obtain⟨ob,e⟩:=x;exact⟨ob,k _ _ (.inl rfl) e⟩
 |xd fs=>obtain⟨g,⟨od,es,ep,e,c⟩,r⟩:=x;exact⟨g,⟨od,es,ep,k _ _ (.inl rfl) e,c⟩,r⟩
 |R7 lo m=>obtain⟨t,u,v,e⟩:=x;exact⟨t,u,v,k _ _ (.inl rfl) e⟩
 |bj ob u l=>obtain⟨e,q⟩:=x;exact⟨k _ _ (.inl rfl) e,l q⟩
 |Bb ps=>have e:h.get? a=some {cls:=.none,data:=.fields ps}:=x;show h'.get? a=some {cls:=.none,data:=.fields ps};exact k a _ (.inl rfl) e
 |met f y=>have e:h.get? a=some (PySem.W.methodObj (.ref f) (.ref y)):=x;show h'.get? a=some (PySem.W.methodObj (.ref f) (.ref y));exact k a _ (.inl rfl) e
 |ext s=>obtain⟨p,⟨o,e⟩,st⟩:=x;exact⟨st _ _ p λo q=>k _ _ (.inl rfl) q,⟨o,k _ _ (.inl rfl) e⟩,st⟩
theorem HOk.lt(x:HOk P w H h)(e:H a=some o):a<h.objs.size:=(x a o e).lt
def HOk.fresh(x:HOk P w H h)(e:h.objs.size<=a):H a=none:=by
 cases q:H a with
 |none=>rfl
 |some u=>exact absurd (Ue (x.lt q) e) (V5 _)
def HOk.kept(x:HOk P w H h)(k:∀b u,h.get? b=some u->h'.get? b=some u):HOk P w H h':=λa o e=>(x a o e).stay (λb u _ q=>k b u q) (λ_ q=>q) λ_ _ q=>q
def HOk.laid(x:HOk P w H h)(k:∀b u,h.get? b=some u->h'.get? b=some u)(f:h.objs.size<=a)(new:ObjOk P w (upd H a o) h' a o):HOk P w (upd H a o) h':=λb u e=>by
 have d:=x.fresh f;by_cases hb:b=a
 .subst hb;rw[af]at e;cases e;exact new
 .rw[ag hb]at e;exact(x b u e).stay (λc v _ q=>k c v q) (λc q=>by rw[ag (aj q d)];exact q) λc xs q=>by rw[ag (aj q d)];exact q
end
def Rd(H:Hp)(a:Addr)(u:HO):Prop:=H a=some u\/∃o,H a=some (.bj o u)
def Rd.ok(r:Rd H a u)(x:HOk P w H h):ObjOk P w H h a u:=by
 rcases r with r|⟨o,r⟩
 .exact x a u r
 .obtain⟨_,q⟩:=x a _ r;exact q
def Ms:Option HO->Prop
 |some (.lst _)=>True
 |some (.dK _)=>True
 |some (.dT _)=>True
 |some (.set _ _)=>True
 |some (.ins _ _ _)=>True
 |some (.ext _)=>True
 |_=>False
section
def HOk.write(ok:HOk P w H h)(f:Ms (H x))(m:e=x\/H e=some (.own x))(k:∀b u,b≠e->h.get? b=some u->h'.get? b=some u)(g:∃u,h'.get? e=some u)
 (new:ObjOk P w (upd H x o') h' x o'):HOk P w (upd H x o') h':=λb u q=>by
 have a:∀c y,H c=some (.own y)->c≠x:=λc y r z=>by subst z;rw[r]at f;exact f
 have d:∀c xs,H c=some (.tup xs)->c≠x:=λc xs r z=>by subst z;rw[r]at f;exact f
 by_cases hb:b=x
 .subst hb;rw[af]at q;cases q;exact new
 .rw[ag hb]at q;by_cases i:b=e
  .have j:H b=some (.own x):=by
    grind
   rw[q]at j;cases j;obtain⟨v,l⟩:=g;exact⟨v,by rw[i];exact l⟩
  .refine(ok b u q).stay (λc v hc r=>k c v ?_ r) (λc r=>by rw[ag (a c b r)];exact r) λc xs r=>by rw[ag (d c xs r)];exact r
   grind
end
def Qt(H:Hp)(b:Addr):Prop:=H b=none\/∃xs,H b=some (.tup xs)
structure Un(fs ex:List Addr) (H H':Hp) (h h':Heap):Prop where
 keep:∀b o,h.get? b=some o->Qt H b->b∉fs->b∉ex->h'.get? b=some o
 slot:∀b o,h.get? b=some o->H b=none->b∈fs->b∉ex->∃sl,h'.get? b=some {o with slots:=sl}
 free:∀b o,h.get? b=some o->H b=none->b∉ex->H' b=none
 there:∀b o,h.get? b=some o->b∉ex->∃o',h'.get? b=some o'
 qp:∀b xs,H b=some (.tup xs)->H' b=some (.tup xs)
 nQ:∀b o u,H b=some (.bj o u)->H' b=some (.bj o u)
 v9:∀b ps,H b=some (.Bb ps)->∃more,H' b=some (.Bb (ps++more))
section
def Un.any(u:Un fs ex H H1 h h1)(q:h.get? b=some ob)(n:H b=none)(a:b∉ex):∃sl,h1.get? b=some {ob with slots:=sl}:=by
 by_cases hb:b∈fs
 .exact u.slot b ob q n hb a
 .exact⟨ob.slots,u.keep b ob q (.inl n) hb a⟩
def Un.kept(k:∀b u,h.get? b=some u->h'.get? b=some u):Un fs ex H H h h':=⟨λb ob q _ _ _=>k b ob q,λb ob q _ _ _=>⟨ob.slots,k b ob q⟩,λ_ _ _ n _=>n,λb ob q _=>⟨ob,k b ob q⟩,λ_ _ q=>q,λ_ _ _ q=>q,λ_ ps q=>⟨#[],by rw[q];simp⟩⟩
def Un.refl:Un fs ex H H h h:=Un.kept λ_ _ q=>q
def Un.laid(k:∀b u,h.get? b=some u->h'.get? b=some u)(hp:h.objs.size<=a)(hn:H a=none):Un fs ex H (upd H a o) h h' where
 keep:=λb u q _ _ _=>k b u q
 slot:=λb u q _ _ _=>⟨u.slots,k b u q⟩
 free:=λb u q n _=>by rw[ag (T1 (Ue (TF q) hp))];exact n
 there:=λb u q _=>⟨u,k b u q⟩
 qp:=λb xs q=>by rw[ag (aj q hn)];exact q
 nQ:=λb u xs q=>by rw[ag (aj q hn)];exact q
 v9:=λb ps q=>⟨#[],by rw[ag (aj q hn),q];simp⟩
def Un.write(a:Ms (H x))(i:e=x\/H e=some (.own x))(k:∀b u,b≠e->h.get? b=some u->h'.get? b=some u)(d:∃u,h'.get? e=some u):Un fs ex H (upd H x o) h h':=by
 have j:∀b,H b=none->b≠x:=λb n z=>by subst z;rw[n]at a;exact a
 have hb:∀b,H b=none->b≠e:=λb n z=>by grind
 have f:∀b u,H b=some u->¬Ms (some u)->b≠x:=λb u q l z=>by subst z;rw[q]at a;exact l a
 refine⟨λb u q n _ _=>k b u (n.elim (hb b) λ⟨xs,g⟩ z=>by rcases i with r|r;(·rw[<- r,<- z,g]at a;exact a);(·rw[<- z,g]at r;cases r)) q,λb u q n _ _=>⟨u.slots,k b u (hb b n) q⟩,λb u q n _=>by rw[ag (j b n)];exact n,λb u q _=>?_,
  λb xs q=>by rw[ag (f b _ q λz=>z)];exact q,λb u xs q=>by rw[ag (f b _ q λz=>z)];exact q,λb ps q=>⟨#[],by rw[ag (f b _ q λz=>z),q];simp⟩⟩
 by_cases c:b=e
 .subst c;exact d
 .exact⟨u,k b u c q⟩
end
def PR(h:Heap)(H:Hp):List Addr:=(List.range h.objs.size).filter λa=>(H a).isSome
def uy(h:Heap)(H:Hp):Heap:=PySem.W.hideAll h (PR h H)
def zI(h:Heap)(H:Hp):(uy h H).objs.size=h.objs.size:=PySem.W.hideAll_size _ _
def uz(e:h.get? b=some o)(n:H b=none):(uy h H).get? b=some o:=PySem.W.hideAll_get _ e λa=>by have q:(H b).isSome=true:=(Us.mp a).2;rw[n]at q;simp at q
def Fo(e:(uy h H).get? b=some o):h.get? b=some o/\H b=none:=by
 have a:h.get? b=some o:=PySem.W.of_hideAll (PR h H) e;refine⟨a,?_⟩;cases q:H b with
 |none=>rfl
 |some x=>have c:b∈PR h H:=Us.mpr ⟨Uj.mpr (TF a),by simp[q]⟩;have z:(uy h H).get? b=none:=PySem.W.hideAll_none (PR h H) c;rw[z]at e;cases e
def Fq(g h:Heap)(L:Addr):List (Addr×Obj):=(List.range h.objs.size).filterMap λa=>if a=L\/(g.get? a).isSome=true then none else(h.get? a).map λo=>(a,o)
def rest(g h:Heap)(L d:Addr):List (Addr×Obj):=(Fq g h L).filter λp=>decide (p.1≠d)
def SI:Xr->V
 |.str x _=>.str x
 |.ref a=>.ref a
 |_=>.bp
def Ji(o:Obj):Option (Addr×List V):=match o.cls with
 |.type n=>if n=="kt" then(match o.data with
  |.seq its _=>(match its.toList with
   |.ref a::r=>some (a,r.map SI)
   |_=>none)
  |_=>none)else none
 |_=>none
def Qm(K:Xp)(H:Hp):Prop:=∀p∈K,∀a xs,Ji p.2=some (a,xs)->H a=some (.tup xs)
structure Mod(K:Xp) (mg:Str->Option Xr) (base:Heap):Prop where
 PQ:K.In base
 glob:base.Ns mainGlobals mg
 blt:∃mb,base.Ns builtinsNs mb/\∀x:Str,x≠"__name__"->mb x=bootBuiltins x
 nolimit:base.NoLimit
structure Cx where
 prog:Xq
 w:World
 K:Xp
 mg:Str->Option Xr
 base:Heap
 A:Xs
 N:List Str
 s₀:Xo
 H₀:Hp
 env:Env
 outer:List Env
 stack:List Env
 ex:List Addr
 fn:Str->Bool
 calm:Bool
 pn:List (Addr×Obj)
 xe:Xr->Xo->Prop
abbrev wX(X:Cx){α:Type}(m:Sem α):(α->Xo->Prop)->(Xr->Xo->Prop)->Xo->Prop:=wpAny (model X.prog X.w) X.A m
abbrev sE(X:Cx)(e:Expr)(es:List Expr):Prop:=starEach (e::es) X.env=(false,eval e X.env)::starEach es X.env
abbrev bT(X:Cx)(p:Pos)(es:List Expr):Prop:=(backTo p (starEach es X.env)).any (·.1)=false
abbrev dB(x:Str):Prop:=(x==("__debug__" : Str))=false
def Bp(l:List Env):List Addr:=l.filterMap (·.frame)
abbrev Cx.fs(X:Cx):List Addr:=Bp X.outer
def PU(a:Scope)(x:Str):Prop:=a.names.lookup x=some .local\/a.names.lookup x=some .cell\/a.names.lookup x=some .free
def Jj(a:Scope)(x:Str):Prop:=a.names.lookup x=some .local\/a.names.lookup x=some .cell
def Qn(env:Env)(h:Heap)(m:Str->Option Xr)(x:Str)(u:Xr):Prop:=(env.kindOf x=some .local/\m x=some u)\/((env.kindOf x=some .cell\/env.kindOf x=some .free)/\∃c,env.cells.lookup x=some c/\h.IsCell c (some u))
structure Cx.Ok(X:Cx):Prop where
 mod:Mod X.K X.mg X.base
 kind:X.env.scope.kind=.function
 glob:X.env.globals=mainGlobals
 blt:X.env.builtins=builtinsNs
 above:X.s₀.heap.objs.size<=X.env.locals
 inj:∀x y c,X.env.cells.lookup x=some c->X.env.cells.lookup y=some c->x=y
 has:∀x,(X.env.kindOf x=some .cell\/X.env.kindOf x=some .free)->∃c,X.env.cells.lookup x=some c
 MH:∀x c,X.fn x=true->X.env.cells.lookup x=some c->X.s₀.heap.objs.size<=c
 hd:X.calm=true->X.A.handled=none
 frames:X.A.frames=some X.stack
 stk:X.stack=X.outer\/(X.stack=X.env::X.outer/\X.env.frame=some X.env.locals)
 RX:∀b∈X.ex,b≠X.env.locals/\∀x c,X.env.cells.lookup x=some c->c≠b
 bs:∀b o,X.base.get? b=some o->X.s₀.heap.get? b=some o/\X.H₀ b=none
 Fa:X.base.objs.size<=X.s₀.heap.objs.size
 Bc:∀b o,X.base.get? b=some o->b∉X.ex
 EA:∀b∈X.ex,b∉X.fs
 mV:X.s₀.heap.FunFrames X.base X.outer
 Jd:∀b∈X.fs,X.H₀ b=none
 kt:Qm X.K X.H₀
structure Inv(X:Cx) (ac:List (Addr×Obj)) (σ:List (Option V)) (H:Hp) (s:Xo):Prop where
 ok:X.Ok
 os:s.os=X.s₀.os
 bare:AllBare s.gens
 base:Un X.fs X.ex X.H₀ H X.s₀.heap s.heap
 loc:∃m,s.heap.Ns X.env.locals m/\∀(i:Nat)(x:Str)(v:V),X.N[i]?=some x->σ[i]?=some (some v)->PU X.env.scope x->∃u,RelV v u/\Qn X.env s.heap m x u
 cell:∀x c,X.env.cells.lookup x=some c->∃v,s.heap.IsCell c v
 free:H X.env.locals=none
 ig:∀x c,X.env.cells.lookup x=some c->H c=none
 pin:∀p∈X.pn++ac,s.heap.get? p.1=some p.2/\H p.1=none/\p.1≠X.env.locals/\p.1∉X.fs/\∀v,p.2.data≠.cell v
 aW:HOk X.prog X.w H s.heap
 len:σ.length=X.N.length
section
variable{X:Cx}{ac:List (Addr×Obj)}{σ:List (Option V)}{H H':Hp}{s:Xo}
def Cx.Ok.R0(ok:X.Ok)(e:X.base.get? b=some o):b∉X.fs:=λhb=>by have:=(ok.mV.mem hb).1;rw[e]at this;cases this
theorem Inv.bs(I:Inv X ac σ H s):∀b o,X.base.get? b=some o->s.heap.get? b=some o/\H b=none:=λb o e=>⟨I.base.keep b o (I.ok.bs b o e).1 (.inl (I.ok.bs b o e).2) (I.ok.R0 e) (I.ok.Bc b o e),I.base.free b o (I.ok.bs b o e).1 (I.ok.bs b o e).2 (I.ok.Bc b o e)⟩
theorem Inv.kt(I:Inv X ac σ H s):Qm X.K H:=λp b a xs e=>I.base.qp a xs (I.ok.kt p b a xs e)
def Inv.bk(I:Inv X ac σ H s):∀b o,X.base.get? b=some o->s.heap.get? b=some o:=λb o e=>(I.bs b o e).1
theorem Inv.mod(I:Inv X ac σ H s):Mod X.K X.mg X.base:=I.ok.mod
def Inv.mZ(I:Inv X ac σ H s):X.K.In s.heap:=I.ok.mod.PQ.keeps I.bk
theorem Inv.lt(I:Inv X ac σ H s):X.env.locals<s.heap.objs.size:=let ⟨_,a,_⟩:=I.loc;a.lt
def Inv.sz(I:Inv X ac σ H s):X.s₀.heap.objs.size<=s.heap.objs.size:=T6 I.ok.above (US I.lt)
def Inv.RP(I:Inv X ac σ H s)(h:s.heap.objs.size<=a):a∉X.fs:=λhb=>by obtain⟨_,o,b,_⟩:=I.ok.mV.mem hb;exact absurd (Ue (TF b) (T6 I.sz h)) (V5 _)
def Inv.Mb(I:Inv X ac σ H s):∀x c,X.env.cells.lookup x=some c->c≠X.env.locals:=λx c e z=>by obtain⟨v,o,d,hd⟩:=I.cell x c e;obtain⟨m,⟨f,es,ep,a,b,_⟩,_⟩:=I.loc;rw[z,a]at d;cases d;rw[b]at hd;cases hd
theorem Inv.mV(I:Inv X ac σ H s):s.heap.FunFrames X.base X.outer:=by
 have all:∀(l:List Env),(∀b∈Bp l,b∈X.fs)->X.s₀.heap.FunFrames X.base l->s.heap.FunFrames X.base l:=by
  intro l;induction l with
  |nil=>intro _ _;trivial
  |cons env r f=>intro d g;obtain⟨h,⟨L,o,a,i,j,hd⟩,k⟩:=g;have c:L∈X.fs:=d L (by unfold Bp;rw[Wm,a];exact Tw);obtain⟨sl,e⟩:=I.base.slot L o j (I.ok.Jd L c) c λz=>I.ok.EA L z c;exact⟨h,⟨L,_,a,i,e,hd⟩,f (λb hb=>d b (by unfold Bp;rw[Wm,a];exact Tu _ hb)) k⟩
 exact all X.outer (λ_ hb=>hb) I.ok.mV
theorem Inv.stack(I:Inv X ac σ H s):s.heap.FunFrames X.base X.stack:=by
 rcases I.ok.stk with e|⟨e,a⟩
 .rw[e];exact I.mV
 .rw[e];obtain⟨m,b,_⟩:=I.loc;refine .cons (by rw[I.ok.kind];decide) a b ?_ I.mV;exact Heap.get?_none_of_le (T6 I.ok.Fa I.ok.above)
def Inv.uf(I:Inv X ac σ H s):∀b∈Bp X.stack,b∈X.env.locals::X.fs:=λb hb=>by
 rcases I.ok.stk with e|⟨e,a⟩
 .rw[e]at hb;exact Tu _ hb
 .rw[e]at hb;unfold Bp at hb;rw[Wm,a]at hb;exact hb
def Inv.zE(I:Inv X ac σ H s):∀b∈Bp X.stack,H b=none:=λb hb=>by
 rcases Tz.mp (I.uf b hb)with e|hb
 .rw[e];exact I.free
 .obtain⟨_,o,a,_⟩:=I.ok.mV.mem hb;exact I.base.free b o a (I.ok.Jd b hb) λz=>I.ok.EA b z hb
theorem Inv.step{d':Drawn}{ch:List Addr}(I:Inv X ac σ H s)
 (f:∀b∈ch,(b∈X.ex\/X.s₀.heap.objs.size<=b)/\b≠X.env.locals/\(∀x c,X.env.cells.lookup x=some c->c≠b)/\∀p∈X.pn++ac,p.1≠b)
 (keep:∀b o,b≠X.env.locals->b∉X.fs->b∉ch->s.heap.get? b=some o->Qt H b->h'.get? b=some o)
 (slot:∀b o,b≠X.env.locals->b∈X.fs->b∉ch->s.heap.get? b=some o->H b=none->∃sl,h'.get? b=some {o with slots:=sl}) (free:∀b o,b∉ch->s.heap.get? b=some o->H b=none->H' b=none)
 (there:∀b o,b∉ch->s.heap.get? b=some o->∃y,h'.get? b=some y)
 (qp:∀b xs,H b=some (.tup xs)->H' b=some (.tup xs)) (nQ:∀b o u,H b=some (.bj o u)->H' b=some (.bj o u)) (v9:∀b ps,H b=some (.Bb ps)->∃more,H' b=some (.Bb (ps++more)))
 (ns:∀m,s.heap.Ns X.env.locals m->h'.Ns X.env.locals m) (aW:HOk X.prog X.w H' h') (E:AllBare g') :
 Inv X ac σ H' {s with heap:=h',gens:=g',drawn:=d',toks:=t'}:=by
 have A:∀b o,X.s₀.heap.get? b=some o->b≠X.env.locals:=λb o e=>T1 (Ue (TF e) I.ok.above);have j:∀b o,X.s₀.heap.get? b=some o->b∉X.ex->b∉ch:=λb o e a hb=>by
  rcases(f b hb).1 with z|z
  .exact a z
  .exact absurd (Ue (TF e) z) (V5 _)
 have g:∀x c,X.env.cells.lookup x=some c->∀v,s.heap.IsCell c v->h'.IsCell c v:=λx c e v ⟨o,t,hd⟩=>by
  have h:c∉ch:=λz=>(f c z).2.2.1 x c e rfl;by_cases hc:c∈X.fs
  .obtain⟨sl,q⟩:=slot c o (I.Mb x c e) hc h t (I.ig x c e);exact⟨_,q,hd⟩
  .exact⟨o,keep c o (I.Mb x c e) hc h t (.inl (I.ig x c e)),hd⟩
 refine⟨I.ok,I.os,E,⟨λb o e n hb a=>?_,λb o e n hb a=>?_,λb o e n a=>?_,λb o e a=>?_,λb xs e=>qp b xs (I.base.qp b xs e),λb o xs e=>nQ b o xs (I.base.nQ b o xs e),λb ps e=>?_⟩,?_,λx c e=>?_,?_,λx c e=>?_,λp C=>?_,aW,I.len⟩
 .exact keep b o (A b o e) hb (j b o e a) (I.base.keep b o e n hb a) (n.imp (λn=>I.base.free b o e n a) λ⟨xs,q⟩=>⟨xs,I.base.qp b xs q⟩)
 .obtain⟨sl,e1⟩:=I.base.slot b o e n hb a;obtain⟨B,e2⟩:=slot b _ (A b o e) hb (j b o e a) e1 (I.base.free b o e n a);exact⟨B,e2⟩
 .obtain⟨y,e1⟩:=I.base.there b o e a;exact free b y (j b o e a) e1 (I.base.free b o e n a)
 .obtain⟨y,e1⟩:=I.base.there b o e a;exact there b y (j b o e a) e1
 .obtain⟨J,e1⟩:=I.base.v9 b ps e
  grind
 .obtain⟨m,F,G⟩:=I.loc;refine⟨m,ns m F,λi x v e1 e2 e3=>?_⟩;obtain⟨u,r,l⟩:=G i x v e1 e2 e3;refine⟨u,r,?_⟩;rcases l with l|⟨k,c,e,z⟩
  .exact .inl l
  .exact .inr ⟨k,c,e,g x c e _ z⟩
 .obtain⟨v,z⟩:=I.cell x c e;exact⟨v,g x c e v z⟩
 .obtain⟨m,⟨o,_,_,t,_⟩,_⟩:=I.loc;exact free _ o (λz=>(f _ z).2.1 rfl) t I.free
 .obtain⟨v,o,t,hd⟩:=I.cell x c e;exact free c o (λz=>(f c z).2.2.1 x c e rfl) t (I.ig x c e)
 .obtain⟨e,n,ne,D,d⟩:=I.pin p C;have h:p.1∉ch:=λz=>(f p.1 z).2.2.2 p C rfl;exact⟨keep p.1 p.2 ne D h e (.inl n),free p.1 p.2 h e n,ne,D,d⟩
theorem Inv.un{t':Nat}(I:Inv X ac σ H s)(u:Un X.fs [] H H' s.heap h')(aW:HOk X.prog X.w H' h'):Inv X ac σ H' {s with heap:=h',toks:=t'}:=by obtain⟨m,⟨o,es,ep,f,r⟩,_⟩:=id I.loc;obtain⟨sl,g⟩:=u.any f I.free (by simp);exact I.step (g':=s.gens) (d':=s.drawn) (ch:=[]) (λ_ z=>nomatch z) (λb o _ hb _ e n=>u.keep b o e n hb (by simp)) (λb o _ hb _ e n=>u.slot b o e n hb (by simp)) (λb o _ e n=>u.free b o e n (by simp)) (λb o _ e=>u.there b o e (by simp)) u.qp u.nQ u.v9 (λm' h=>by obtain⟨j,c,d,a,i⟩:=h;rw[f]at a;cases a;exact⟨_,c,d,g,i⟩) aW I.bare
theorem Inv.call{d':Drawn}{ch:List Addr}(I:Inv X ac σ H s)(u:Un (Bp X.stack) ch H H' s.heap h')(aW:HOk X.prog X.w H' h')(j:AllBare g')
 (a:∀b∈ch,(b∈X.ex\/X.s₀.heap.objs.size<=b)/\b≠X.env.locals/\(∀x c,X.env.cells.lookup x=some c->c≠b)/\∀p∈X.pn++ac,p.1≠b) :
 Inv X ac σ H' {s with heap:=h',gens:=g',drawn:=d',toks:=t'}:=by
 obtain⟨m,⟨o,es,ep,i,r⟩,_⟩:=id I.loc;obtain⟨sl,f⟩:=u.any i I.free λz=>(a _ z).2.1 rfl;exact I.step (ch:=ch) a (λb o f hb hc e n=>u.keep b o e n (λz=>(Tz.mp (I.uf b z)).elim f hb) hc) (λb o _ _ hc e n=>u.any e n hc) (λb o hc e n=>u.free b o e n hc) (λb o hc e=>u.there b o e hc) u.qp u.nQ u.v9 (λm' k=>by obtain⟨q,g,h,d,l⟩:=k;rw[i]at d;cases d;exact⟨_,g,h,f,l⟩) aW j
theorem Inv.turned{it:Addr}(I:Inv X ac σ H s)(k:∀b o,b≠it->s.heap.get? b=some o->h'.get? b=some o)(f:H it=none)(d:it≠X.env.locals)
 (h1:it∈X.ex\/X.s₀.heap.objs.size<=it) (h2:∀x c,X.env.cells.lookup x=some c->c≠it) (g:∀p∈X.pn++ac,p.1≠it):Inv X ac σ H {s with heap:=h',toks:=t'}:=by
 have a:∀b u,H b=some u->b≠it:=λb u e z=>by rw[z,f]at e;cases e
 refine I.step (g':=s.gens) (d':=s.drawn) (ch:=[it]) (λb hb=>?_) (λb o _ _ hc e _=>k b o (λz=>hc (by simp[z])) e) (λb o _ _ hc e _=>⟨o.slots,k b o (λz=>hc (by simp[z])) e⟩) (λ_ _ _ _ n=>n)
  (λb o hc e=>⟨o,k b o (λz=>hc (by simp[z])) e⟩) (λ_ _ e=>e) (λ_ _ _ e=>e) (λb ps e=>⟨#[],by rw[e];simp⟩) (λm h=>?_) (λb u e=>?_) I.bare
 .have e:b=it:=by simpa using hb
  subst e;exact⟨h1,d,h2,g⟩
 .obtain⟨o,es,ep,i,r⟩:=h;exact⟨o,es,ep,k _ o (UD d) i,r⟩
 .refine(I.aW b u e).stay (λc v hc q=>k c v ?_ q) (λ_ q=>q) λ_ _ q=>q;rcases hc with z|z
  .rw[z];exact a b u e
  .exact a c _ z
def Inv.tok(I:Inv X ac σ H s)(t:Nat):Inv X ac σ H {s with toks:=t}:=I.un (h':=s.heap) (t':=t) Un.refl I.aW
theorem Inv.kept(I:Inv X ac σ H s)(k:∀b u,s.heap.get? b=some u->h'.get? b=some u):Inv X ac σ H {s with heap:=h',toks:=t'}:=I.un (Un.kept k) (I.aW.kept k)
theorem Inv.laid(I:Inv X ac σ H s)(k:∀b u,s.heap.get? b=some u->h'.get? b=some u)(c:s.heap.objs.size<=a)(new:ObjOk X.prog X.w (upd H a o) h' a o) :
 Inv X ac σ (upd H a o) {s with heap:=h',toks:=t'}:=I.un (Un.laid k c (I.aW.fresh c)) (I.aW.laid k c new)
theorem Inv.write(I:Inv X ac σ H s)(c:Ms (H x))(d:e=x\/H e=some (.own x))(k:∀b u,b≠e->s.heap.get? b=some u->h'.get? b=some u)(a:∃u,h'.get? e=some u)
 (new:ObjOk X.prog X.w (upd H x o) h' x o):Inv X ac σ (upd H x o) {s with heap:=h',toks:=t'}:=I.un (Un.write c d k a) (I.aW.write c d k a new)
def Inv.zF(I:Inv X ac σ H s)(h:∀p∈pins',s.heap.get? p.1=some p.2/\H p.1=none/\p.1≠X.env.locals/\p.1∉X.fs/\∀v,p.2.data≠.cell v):Inv X pins' σ H s:=⟨I.ok,I.os,I.bare,I.base,I.loc,I.cell,I.free,I.ig,λp a=>(T4.mp a).elim (λz=>I.pin p (Ul _ z)) (h p),I.aW,I.len⟩
def uA{N:List Str}(c:N.Nodup){i j:Nat}{x:Str}(a:N[i]?=some x)(b:N[j]?=some x):i=j:=by obtain⟨h1,e1⟩:=Tq.mp a;obtain⟨h2,e2⟩:=Tq.mp b;exact(List.getElem_inj c).mp (e1.trans e2.symm)
def qL{E:Xr->Xo->Prop}{x:Str}{v:V}{u:Xr}{Q:Unit->Xo->Prop}(I:Inv X ac σ H s)(hN:X.N.Nodup)(D:X.N[i]?=some x)(l:Jj X.env.scope x)(r:RelV v u)
 (h:∀L,Inv X ac (σ.set i (some v)) H L->(∃a,Heap.SameBut a s.heap L.heap/\(a=X.env.locals\/X.env.cells.lookup x=some a))->Q () L) (hf:autoParam (X.fn x=true\/X.env.scope.names.lookup x=some .local) ae):wpAny M A (storeName X.env x u) Q E s:=by
 obtain⟨m,O,hl⟩:=id I.loc;have F:(X.env.scope.kind==.class ||(X.env.scope.kind==.module&&X.env.locals != X.env.globals))=false:=by rw[I.ok.kind];rfl
 have t:i<σ.length:=by rw[I.len];exact(Tq.mp D).1
 have Mb:=I.Mb;have g:∀{a:Addr}{h':Heap},(∃o,s.heap.get? a=some o/\H a=none)->Heap.SameBut a s.heap h'->HOk X.prog X.w H h':=λ{a h'} ha f b ob e=>by
  obtain⟨_,_,P⟩:=ha;refine(I.aW b ob e).stay (λc R hc q=>(f.2 c ?_).trans q) (λ_ q=>q) λ_ _ q=>q
  grind
 rcases l with hk|hk
 .refine wpAny_storeName_local hk O (λh' S f=>?_) F;obtain⟨oL,_,_,T,_⟩:=id O;refine h _ ⟨I.ok,I.os,I.bare,⟨λb o e n hb l=>?_,λb o e n hb l=>?_,I.base.free,λb o e l=>?_,I.base.qp,I.base.nQ,I.base.v9⟩,⟨_,S,λj y U e1 e2 e3=>?_⟩,λy c e=>?_,I.free,I.ig,λp W=>?_,g ⟨oL,T,I.free⟩ f,by simpa using I.len⟩ ⟨_,f,.inl rfl⟩
  .exact(f.2 b (T1 (Ue (TF e) I.ok.above))).trans (I.base.keep b o e n hb l)
  .obtain⟨sl,e1⟩:=I.base.slot b o e n hb l;exact⟨sl,(f.2 b (T1 (Ue (TF e) I.ok.above))).trans e1⟩
  .obtain⟨Y,e1⟩:=I.base.there b o e l;exact⟨Y,(f.2 b (T1 (Ue (TF e) I.ok.above))).trans e1⟩
  .by_cases B:j=i
   .subst B;rw[D]at e1;cases e1;rw[Up t]at e2;cases e2;exact⟨u,r,.inl ⟨hk,by simp⟩⟩
   .rw[Uy (UD B)]at e2;obtain⟨u',Z,q⟩:=hl j y U e1 e2 e3;refine⟨u',Z,?_⟩;rcases q with⟨k,e⟩|⟨k,c,e,z⟩
    .refine .inl ⟨k,?_⟩;have:y≠x:=λe=>B (uA hN e1 (e▸D));simp[this,e]
    .exact .inr ⟨k,c,e,z.sameBut f (Mb y c e)⟩
  .obtain⟨R,z⟩:=I.cell y c e;exact⟨R,z.sameBut f (Mb y c e)⟩
  .obtain⟨e,n,ne,nf,d⟩:=I.pin p W;exact⟨(f.2 p.1 ne).trans e,n,ne,nf,d⟩
 .have C:X.fn x=true:=by
   rcases hf with z|z
   .exact z
   .rw[z]at hk;cases hk
  obtain⟨c,hc⟩:=I.ok.has x (.inl hk);obtain⟨R,z⟩:=I.cell x c hc;refine wpAny_storeName_cell I.ok.kind hk hc z (λh' G f=>?_);obtain⟨oc,hoc,hocd⟩:=id z;refine h {s with heap:=h'} ⟨I.ok,I.os,I.bare,⟨λb o e n hb l=>?_,λb o e n hb l=>?_,I.base.free,λb o e l=>?_,I.base.qp,I.base.nQ,I.base.v9⟩,⟨m,O.sameBut f (UD (Mb x c hc)),λj y U e1 e2 e3=>?_⟩,λy K e=>?_,I.free,I.ig,λp W=>?_,g ⟨oc,hoc,I.ig x c hc⟩ f,by simpa using I.len⟩ ⟨c,f,.inr hc⟩
  .exact(f.2 b (T1 (Ue (TF e) (I.ok.MH x c C hc)))).trans (I.base.keep b o e n hb l)
  .obtain⟨sl,e1⟩:=I.base.slot b o e n hb l;exact⟨sl,(f.2 b (T1 (Ue (TF e) (I.ok.MH x c C hc)))).trans e1⟩
  .obtain⟨Y,e1⟩:=I.base.there b o e l;exact⟨Y,(f.2 b (T1 (Ue (TF e) (I.ok.MH x c C hc)))).trans e1⟩
  .by_cases B:j=i
   .subst B;rw[D]at e1;cases e1;rw[Up t]at e2;cases e2;exact⟨u,r,.inr ⟨.inl hk,c,hc,G⟩⟩
   .rw[Uy (UD B)]at e2;obtain⟨u',Z,q⟩:=hl j y U e1 e2 e3;refine⟨u',Z,?_⟩;rcases q with q|⟨k,K,e,z'⟩
    .exact .inl q
    .refine .inr ⟨k,K,e,z'.sameBut f ?_⟩;rintro rfl;exact B (uA hN e1 (I.ok.inj _ _ _ e hc▸D))
  .by_cases J:K=c
   .subst J;exact⟨_,G⟩
   .obtain⟨w2,z2⟩:=I.cell y K e;exact⟨w2,z2.sameBut f J⟩
  .obtain⟨e,n,ne,nf,d⟩:=I.pin p W;refine⟨(f.2 p.1 ?_).trans e,n,ne,nf,d⟩
   grind
def uB(I:Inv X ac σ H s)(b:X.N.Nodup)(c:X.N[i]?=some x)(d:Jj X.env.scope x)(r:RelV v u)
 (h:∀a,Inv X ac (σ.set i (some v)) H a->Q () a) (e:autoParam (X.fn x=true\/X.env.scope.names.lookup x=some .local) ae):wpAny M A (storeName X.env x u) Q E s:=
 qL I b c d r (λa f _=>h a f) e
def Inv.PN(I:Inv X ac σ H s)(d:s'.os=s.os)(u:Un (Bp X.stack) ch H H' s.heap s'.heap)(aW:HOk X.prog X.w H' s'.heap)(f:AllBare s'.gens)
 (a:∀b∈ch,(b∈X.ex\/X.s₀.heap.objs.size<=b)/\b≠X.env.locals/\(∀x c,X.env.cells.lookup x=some c->c≠b)/\∀p∈X.pn++ac,p.1≠b):Inv X ac σ H' s':=by
 obtain⟨h',g',d',t',g⟩:=s';have e:g=s.os:=d;subst e;exact I.call (g':=g') (t':=t') (d':=d') u aW f a
end
abbrev XK:=Xr->Option Addr->Hp->Prop
abbrev St:=List (Option V)
abbrev VK:=V->Hp->Prop
abbrev TE:=St->Hp->VK->Prop
abbrev TT:=St->Hp->(Bool->Hp->Prop)->Prop
abbrev TA:=St->Hp->(List V->Hp->Prop)->Prop
structure Ends where
 nx:St->Hp->Prop
 rt:VK
 bk:St->Hp->Prop:=λ_ _=>False
 ct:St->Hp->Prop:=λ_ _=>False
abbrev TS:=Ends->St->Hp->Prop
def EP(X:Cx)(ac:List (Addr×Obj))(σ:St)(Q:VK)(u:Xr)(a:Xo):Prop:=∃v H',Inv X ac σ H' a/\RelV v u/\Q v H'
def TP(X:Cx)(ac:List (Addr×Obj))(σ:St)(Q:Bool->Hp->Prop)(b:Bool)(a:Xo):Prop:=∃H',Inv X ac σ H' a/\Q b H'
def AP(X:Cx)(ac:List (Addr×Obj))(σ:St)(Q:List V->Hp->Prop)(us:List Xr)(a:Xo):Prop:=∃vs H',Inv X ac σ H' a/\Vals vs us/\Q vs H'
def SP(X:Cx)(ac:List (Addr×Obj))(D:Ends)(f:Flow)(a:Xo):Prop:=
 match f with
 |.next=>∃σ' H',Inv X ac σ' H' a/\D.nx σ' H'
 |.brk=>∃σ' H',Inv X ac σ' H' a/\D.bk σ' H'
 |.cont=>∃σ' H',Inv X ac σ' H' a/\D.ct σ' H'
 |.ret u=>∃v σ' H',Inv X ac σ' H' a/\RelV v u/\D.rt v H'
def PE(X:Cx)(e:Expr)(t:TE):Prop:=∀(ac:List (Addr×Obj))(s:Xo)(σ:St)(H:Hp)(Q:VK),Inv X ac σ H s->t σ H Q->wpAny (model X.prog X.w) X.A (eval e X.env) (EP X ac σ Q) X.xe s
def PT(X:Cx)(e:Expr)(t:TT):Prop:=∀(ac:List (Addr×Obj))(s:Xo)(σ:St)(H:Hp)(Q:Bool->Hp->Prop),Inv X ac σ H s->t σ H Q->wpAny (model X.prog X.w) X.A (isTrue e X.env (eval e X.env)) (TP X ac σ Q) X.xe s
def PW(X:Cx)(e:Expr)(t:TT):Prop:=∀(a:Sem Xr)(ac:List (Addr×Obj))(s:Xo)(σ:St)(H:Hp)(Q:Bool->Hp->Prop),Inv X ac σ H s->t σ H Q->wpAny (model X.prog X.w) X.A (isTrue e X.env a) (TP X ac σ Q) X.xe s
def PW.pt(h:PW X e t):PT X e t:=h _
def PA(X:Cx)(es:List Expr)(t:TA):Prop:=∀(pos:Pos)(ac:List (Addr×Obj))(s:Xo)(σ:St)(H:Hp)(Q:List V->Hp->Prop),Inv X ac σ H s->t σ H Q->wpAny (model X.prog X.w) X.A (spliced (backTo pos (starEach es X.env))) (AP X ac σ Q) X.xe s
def PS(X:Cx)(st:Stmt)(t:TS):Prop:=∀(ac:List (Addr×Obj))(s:Xo)(σ:St)(H:Hp)(D:Ends),Inv X ac σ H s->t D σ H->wpAny (model X.prog X.w) X.A (exec st X.env) (SP X ac D) X.xe s
def PSs(X:Cx)(st:List Stmt)(t:TS):Prop:=∀(ac:List (Addr×Obj))(s:Xo)(σ:St)(H:Hp)(D:Ends),Inv X ac σ H s->t D σ H->wpAny (model X.prog X.w) X.A (execs st X.env) (SP X ac D) X.xe s
def cj{α:Type}{t:Sem α}{Q b:α->Xo->Prop}{M:Model}{A:Xs}{E:Xr->Xo->Prop}{s:Xo}(h:wpAny M A t Q E s)(c:∀a s,Q a s->b a s):wpAny M A t b E s:=Vd h c λ_ _ x=>x
section
variable{X:Cx}
def am(i:Nat):TE:=λσ H Q=>∃v,σ[i]?=some (some v)/\Q v H
def tC(v:V):TE:=λ_ H Q=>Q v H
def Jk(f:X.N[i]?=some x)(g:PU X.env.scope x)(hd:autoParam (dB x) ab) (d:autoParam ((x==("__classdict__" : Str))=false) ab):PE X (.Name x pos) (am i):=by
 intro ac s σ H Q I h;obtain⟨v,e,h⟩:=h;obtain⟨m,j,k⟩:=I.loc;obtain⟨u,r,l⟩:=k i x v f e g;have b:EP X ac σ Q u s:=⟨v,H,I,r,h⟩;rcases l with⟨hk,n⟩|⟨hk,c,hc,a⟩
 .exact wpAny_Name (wpAny_loadName_local I.ok.kind hk j n b) hd
 .rcases hk with hk|hk
  .exact wpAny_Name (wpAny_loadName_cell I.ok.kind hk hc a b) hd
  .exact wpAny_Name (wpAny_loadName_free I.ok.kind hk hc a b d) hd
def aA{i j pos}:PE X (.Constant (.int i) j pos) (tC (.int i)):=λ_ _ _ H _ I h=>wpAny_Constant_int ⟨.int i,H,I.tok _,⟨_,rfl⟩,h⟩
def g_{b j pos}:PE X (.Constant (.bool b) j pos) (tC (.bl b)):=λ_ _ _ H _ I h=>Constant_bool ⟨.bl b,H,I,rfl,h⟩
def mn{j pos}:PE X (.Constant .none j pos) (tC .bp):=λ_ _ _ H _ I h=>Constant_none ⟨.bp,H,I,rfl,h⟩
def Gl(X:Cx)(x:Str):Prop:=X.env.kindOf x=some .globalImplicit
def sk(I:Inv X ac σ H s)(a:Gl X x)(b:X.mg x=some u)(h:Q u s)
 (hd:autoParam (dB x) ab):wX X (eval (.Name x pos) X.env) Q E s:=
 Calls.Name_function_global I.ok.kind a (Calls.loadGlobal_global (by rw[I.ok.glob];exact I.mod.glob.keeps I.bk) b h) hd
def mq(I:Inv X ac σ H s)(a:Gl X x)(b:X.mg x=none)(c:bootBuiltins x=some u)(h:Q u s)
 (d:autoParam (x≠"__name__") ab) (hd:autoParam (dB x) ab):wX X (eval (.Name x pos) X.env) Q E s:=by
 obtain⟨e,h1,h2⟩:=I.mod.blt;exact Calls.Name_function_global I.ok.kind a (Calls.loadGlobal_builtin (by rw[I.ok.glob];exact I.mod.glob.keeps I.bk) b (by rw[I.ok.blt];exact h1.keeps I.bk) ((h2 x d).trans c) h) hd
def sn(a:Gl X x)(b:X.mg x=none)(c:bootBuiltins x=some u)(r:RelV v u)(d:autoParam (x≠"__name__") ab) (hd:autoParam (dB x) ab):PE X (.Name x pos) (tC v):=λ_ _ _ H _ I h=>mq I a b c ⟨v,H,I,r,h⟩ d hd
variable{a b:Expr}{ta tb:TE}{pos:Pos}
def PC(X:Cx)(op:CmpOp)(a b:Expr)(t:TE):Prop:=
 ∀(ac:List (Addr×Obj))(s:Xo)(σ:St)(H:Hp)(Q:VK),Inv X ac σ H s->t σ H Q->
  wpAny (model X.prog X.w) X.A (eval a X.env) (λv c=>wpAny (model X.prog X.w) X.A (eval b X.env) (λu d=>wpAny (model X.prog X.w) X.A (compareOp op v u) (EP X ac σ Q) X.xe d) X.xe c) X.xe s
theorem Bq(b:Expr)(h:op≠.In)(h2:op≠.NotIn):behindInMarks op b=false:=by
 have e1:(op==CmpOp.In)=false:=by cases op<;>first|rfl|exact absurd rfl h
 have e2:(op==CmpOp.NotIn)=false:=by cases op<;>first|rfl|exact absurd rfl h2
 cases b<;>simp[behindInMarks,e1,e2]
def HV(ta:TE):TE:=λσ H Q=>ta σ H λx c=>Q (.bl (!decide (x=.bp))) c
def RelV.EI(r:RelV x v):(v==Value.none)=decide (x=.bp):=by
 cases x with
 |bp=>cases r;rfl
 |bl _=>cases r;rfl
 |int _=>obtain⟨t,rfl⟩:=r;rfl
 |str _=>obtain⟨t,rfl⟩:=r;rfl
 |yf _=>obtain⟨t,rfl⟩:=r;rfl
 |IZ _=>obtain⟨t,rfl⟩:=r;rfl
 |ref _=>cases r;rfl
 |ty _=>cases r;rfl
def Fs{j pos'}(ha:PE X a ta):PC X .IsNot a (.Constant .none j pos') (HV ta):=by intro ac s σ H Q I h;refine cj (ha ac s σ H _ I h) λv s1 ⟨x,c,d,e,q1⟩=>?_;exact Constant_none (isnot_none_gen ⟨.bl _,c,d,by rw[e.EI];rfl,q1⟩)
def tB(t:TE):TT:=λσ H Q=>t σ H λx d=>∃c,x=.bl c/\Q c d
theorem Jl(h:PC X op a b t)(h1:behindInMarks op b=false:=by first|exact Bq _ (by decide) (by decide)|rfl):PT X (.Compare a [op] [b] pos) (tB t):=by intro ac s σ H Q I e;refine wpAny_isTrue_Compare1 (cj (h ac s σ H _ I e) λv s1 h1=>cj h1 λu s2 h2=>cj h2 λc j ⟨x,f,g,i,q1⟩=>?_) h1;obtain⟨d,rfl,q⟩:=q1;cases i;exact Ve ⟨f,g,q⟩
def kM(h:PE X e t)(f:autoParam (∀c,isTrue e X.env c=(do let v <- c;standAt e.pos;holding [v] (truthy v))) az):PT X e (tB t):=by intro ac s σ H Q I g;refine isTrue_plain (cj (h ac s σ H _ I g) λv s1 ⟨x,i,j,k,q1⟩=>?_) (f _);obtain⟨d,rfl,q⟩:=q1;cases k;exact Ve ⟨i,j,q⟩
variable{tA tB':TT}{rest:List Expr}
def Ft(t u:TT):TT:=λσ H Q=>t σ H λc d=>if c=true then u σ d Q else Q false d
def MI(t u:TT):TT:=λσ H Q=>t σ H λc d=>if c=true then Q true d else u σ d Q
def uC(t:TT):TT:=λσ H Q=>t σ H λc d=>Q (!c) d
def nR(ha:PT X a tA):PW X (.BoolOp .And [a] pos) tA:=by
 intro d ac s σ H Q I h;refine isTrue_and (cj (ha ac s σ H Q I h) λc s1 e=>?_);cases c with
 |true=>exact isTrue_and_nil e
 |false=>exact e
def wn(ha:PT X a tA):PW X (.BoolOp .Or [a] pos) tA:=by
 intro d ac s σ H Q I h;refine isTrue_or (cj (ha ac s σ H Q I h) λc s1 e=>?_);cases c with
 |false=>exact isTrue_or_nil e
 |true=>exact e
theorem sq(ha:PT X a tA)(hb:PW X (.BoolOp .And (b::rest) pos) tB'):PW X (.BoolOp .And (a::b::rest) pos) (Ft tA tB'):=by
 intro f ac s σ H Q I h;refine isTrue_and (cj (ha ac s σ H _ I h) λc s1 ⟨d,e,q1⟩=>?_);cases c with
 |true=>exact hb f ac s1 σ d Q e q1
 |false=>exact⟨d,e,q1⟩
theorem yn(ha:PT X a tA)(hb:PW X (.BoolOp .Or (b::rest) pos) tB'):PW X (.BoolOp .Or (a::b::rest) pos) (MI tA tB'):=by
 intro f ac s σ H Q I h;refine isTrue_or (cj (ha ac s σ H _ I h) λc s1 ⟨d,e,q1⟩=>?_);cases c with
 |true=>exact⟨d,e,q1⟩
 |false=>exact hb f ac s1 σ d Q e q1
def jm(ha:PT X a tA):PT X (.UnaryOp .Not a pos) (uC tA):=by intro ac s σ H Q I h;exact isTrue_not (ha ac s σ H (λc d=>Q (!c) d) I h)
def MJ(ta tb:TE):TE:=λσ H Q=>ta σ H λx d=>∃c,x=.bl c/\if c=true then tb σ d Q else Q (.bl false) d
def Qo(ta tb:TE):TE:=λσ H Q=>ta σ H λx d=>∃c,x=.bl c/\if c=true then Q (.bl true) d else tb σ d Q
def ML(ta:TE):TE:=λσ H Q=>ta σ H λx d=>∃c,x=.bl c/\Q (.bl (!c)) d
def Jm{op}(h:PE X a t):PE X (.BoolOp op [a] pos) t:=λac s σ H Q I c=>BoolOp_one (h ac s σ H Q I c)
theorem Jn(ha:PE X a ta)(hb:PE X (.BoolOp .And (b::rest) pos) tb):PE X (.BoolOp .And (a::b::rest) pos) (MJ ta tb):=by
 intro ac s σ H Q I h;refine BoolOp_and (cj (ha ac s σ H _ I h) λv s1 ⟨x,d,e,f,q1⟩=>?_);obtain⟨c,rfl,q1⟩:=q1;cases f;refine Ve ?_;cases c with
 |true=>exact hb ac s1 σ d Q e q1
 |false=>exact⟨.bl false,d,e,rfl,q1⟩
theorem MM(ha:PE X a ta)(hb:PE X (.BoolOp .Or (b::rest) pos) tb):PE X (.BoolOp .Or (a::b::rest) pos) (Qo ta tb):=by
 intro ac s σ H Q I h;refine BoolOp_or (cj (ha ac s σ H _ I h) λv s1 ⟨x,d,e,f,q1⟩=>?_);obtain⟨c,rfl,q1⟩:=q1;cases f;refine Ve ?_;cases c with
 |false=>exact hb ac s1 σ d Q e q1
 |true=>exact⟨.bl true,d,e,rfl,q1⟩
def Jo(ha:PE X a ta):PE X (.UnaryOp .Not a pos) (ML ta):=by intro ac s σ H Q I h;refine UnaryOp_ (cj (ha ac s σ H _ I h) λv s1 ⟨x,d,e,f,q1⟩=>?_);obtain⟨c,rfl,q1⟩:=q1;cases f;exact not_of (Ve ⟨.bl (!c),d,e,rfl,q1⟩)
end
def SqL(K:Xp)(H:Hp)(a:Addr)(xs:List V):Prop:=
 Rd H a (.lst xs)\/
  ∃(o:Obj)(its:Array Xr)(n:Nat),K.lookup a=some o/\o.cls=.type "list"/\o.dict=none/\o.data=.seq its n/\its.size<=sizeLine/\Vals xs its.toList
def SqT(K:Xp)(H:Hp)(a:Addr)(xs:List V):Prop:=
 Rd H a (.tup xs)\/
  ∃(o:Obj)(its:Array Xr)(n:Nat),K.lookup a=some o/\o.cls=.type "tuple"/\o.data=.seq its n/\its.size<=sizeLine/\Vals xs its.toList
def Qp:Xr->Option V
 |.none=>some .bp
 |.bool b=>some (.bl b)
 |.int i _=>some (.int i)
 |.str x _=>some (.str x)
 |.bytes b _=>some (.yf b)
 |.float b _=>some (.IZ b)
 |.ref a=>some (.ref a)
 |.type n=>some (.ty n)
 |_=>none
def RelV.abs(r:RelV x u):Qp u=some x:=by
 cases x with
 |bp=>cases r;rfl
 |bl _=>cases r;rfl
 |int _=>obtain⟨t,rfl⟩:=r;rfl
 |str _=>obtain⟨t,rfl⟩:=r;rfl
 |yf _=>obtain⟨t,rfl⟩:=r;rfl
 |IZ _=>obtain⟨t,rfl⟩:=r;rfl
 |ref _=>cases r;rfl
 |ty _=>cases r;rfl
def RelV.inj(r:RelV x u)(q:RelV y u):x=y:=Um (r.abs.symm.trans q.abs)
theorem Vals.inj{xs a:List V}{us:List Xr}(h:Vals xs us)(k:Vals a us):xs=a:=by
 induction h generalizing a with
 |nil=>cases k;rfl
 |cons r _ b=>
  cases k with
  |cons c t'=>rw[r.inj c,b t']
section
def SqL.of{K:Xp}(h:H a=some (.lst xs)):SqL K H a xs:=.inl (.inl h)
def SqT.of{K:Xp}(h:H a=some (.tup xs)):SqT K H a xs:=.inl (.inl h)
def Inv.list(I:Inv X ac σ H s)(h:SqL X.K H a xs):∃its:List Xr,Vals xs its/\PlainL s.heap a its.toArray/\xs.length<=sizeLine:=by
 rcases h with h|⟨o,its,n,b,hc,hd,c,hz,r⟩
 .obtain⟨z,its,n,r,e⟩:=h.ok I.aW;exact⟨its,r,⟨_,n,e,rfl,rfl,rfl⟩,z⟩
 .refine⟨its.toList,r,⟨o,n,I.mZ a o b,hc,hd,by simpa using c⟩,?_⟩;have e:=r.length;simp only[UB]at e;lia
def Inv.tuple(I:Inv X ac σ H s)(h:SqT X.K H a xs):∃its:List Xr,Vals xs its/\IsTup s.heap a its.toArray/\xs.length<=sizeLine:=by
 rcases h with h|⟨o,its,n,b,hc,c,hz,r⟩
 .obtain⟨z,its,r,p⟩:=h.ok I.aW;exact⟨its,r,p,z⟩
 .refine⟨its.toList,r,⟨o,I.mZ a o b,hc,n,by simpa using c⟩,?_⟩;have e:=r.length;simp only[UB]at e;lia
def Inv.wd(I:Inv X ac σ H s)(h:SqL X.K H a xs)(h':SqL X.K H a ys):xs=ys:=by
 obtain⟨its,r,⟨o,n,e,_,_,d⟩,_⟩:=I.list h;obtain⟨its',c,⟨f,g,b,_,_,d'⟩,_⟩:=I.list h';rw[e]at b;cases b;rw[d]at d';injection d' with d1 _;have:its=its':=by simpa using U1 Array.toList d1
 subst this;exact r.inj c
def Inv.Bf(I:Inv X ac σ H s)(h:SqT X.K H a xs)(h':SqT X.K H a ys):xs=ys:=by
 obtain⟨its,r,⟨o,e,_,n,d⟩,_⟩:=I.tuple h;obtain⟨its',c,⟨f,b,_,g,d'⟩,_⟩:=I.tuple h';rw[e]at b;cases b;rw[d]at d';injection d' with d1 _;have:its=its':=by simpa using U1 Array.toList d1
 subst this;exact r.inj c
end
abbrev Cx.qK(X:Cx)(E:Xr->Xo->Prop):Cx:={X with xe:=E}
abbrev Cx.PH(X:Cx):Cx:=X.qK λ_ _=>False
theorem Cx.Ok.qK{X:Cx}(ok:X.Ok)(E:Xr->Xo->Prop):(X.qK E).Ok:=⟨ok.mod,ok.kind,ok.glob,ok.blt,ok.above,ok.inj,ok.has,ok.MH,ok.hd,ok.frames,ok.stk,ok.RX,ok.bs,ok.Fa,ok.Bc,ok.EA,ok.mV,ok.Jd,ok.kt⟩
def Cx.Ok.jW{X:Cx}{E:Xr->Xo->Prop}(ok:(X.qK E).Ok):X.Ok:=⟨ok.mod,ok.kind,ok.glob,ok.blt,ok.above,ok.inj,ok.has,ok.MH,ok.hd,ok.frames,ok.stk,ok.RX,ok.bs,ok.Fa,ok.Bc,ok.EA,ok.mV,ok.Jd,ok.kt⟩
section
theorem Inv.qK(I:Inv X ac σ H s)(E:Xr->Xo->Prop):Inv (X.qK E) ac σ H s:=⟨I.ok.qK E,I.os,I.bare,I.base,I.loc,I.cell,I.free,I.ig,I.pin,I.aW,I.len⟩
theorem Inv.jW(I:Inv (X.qK E) ac σ H s):Inv X ac σ H s:=⟨I.ok.jW,I.os,I.bare,I.base,I.loc,I.cell,I.free,I.ig,I.pin,I.aW,I.len⟩
theorem SP.jW(h:SP (X.qK E) ac D f s'):SP X ac D f s':=by
 cases f with
 |next=>obtain⟨σ',H',I,q⟩:=h;exact⟨σ',H',I.jW,q⟩
 |brk=>obtain⟨σ',H',I,q⟩:=h;exact⟨σ',H',I.jW,q⟩
 |cont=>obtain⟨σ',H',I,q⟩:=h;exact⟨σ',H',I.jW,q⟩
 |ret u=>obtain⟨v,σ',H',I,r,q⟩:=h;exact⟨v,σ',H',I.jW,r,q⟩
theorem PSs.PH{st:List Stmt}(h:PSs X.PH st t):PSs X st t:=λac s σ H D I a=>Vd (h ac s σ H D (I.qK _) a) (λ_ _ q=>q.jW) λ_ _ z=>False.elim z
end
section
variable{X:Cx}{st:Stmt}{rest:List Stmt}{t u:TS}
def cW:TS:=λD σ H=>D.nx σ H
def bm(t u:TS):TS:=λD σ H=>t {D with nx:=u D} σ H
def bH:PSs X [] cW:=λ_ _ σ H _ I h=>W0 ⟨σ,H,I,h⟩
theorem ax(h1:PS X st t)(h2:PSs X rest u):PSs X (st::rest) (bm t u):=by
 intro ac s σ H D I h;refine wpAny_execs_cons (cj (h1 ac s σ H {D with nx:=u D} I h) λf s1 q=>?_);cases f with
 |next=>obtain⟨σ',H',a,q⟩:=q;exact h2 ac s1 σ' H' D a q
 |ret v=>exact q
 |brk=>exact q
 |cont=>exact q
def aC(h1:PS X st t):PSs X [st] t:=by
 intro ac s σ H D I h;refine wpAny_execs_cons (cj (h1 ac s σ H D I h) λf s1 q=>?_);cases f with
 |next=>exact W0 q
 |ret v=>exact q
 |brk=>exact q
 |cont=>exact q
def Inv.quiet(I:Inv X ac σ H s):interactive X.env=false:=by simp[interactive,I.ok.kind]
def cO(te:TE):TS:=λD σ H=>te σ H λ_ a=>D.nx σ a
def bE(a:PE X e te)(b:autoParam (swapsWith e none pos.line X.env=pure false) aM):PS X (.Expr e pos) (cO te):=by intro ac s σ H D I h;exact wpAny_Expr_any (cj (a ac s σ H _ I h) λv s1 ⟨x,c,d,f,q1⟩=>⟨σ,c,d,q1⟩) I.quiet b
def jc(te:TE):TS:=λD σ H=>te σ H D.rt
def bF(a:PE X e te):PS X (.Return (some e) pos) (jc te):=by intro ac s σ H D I h;exact wpAny_Return_some (cj (a ac s σ H _ I h) λv s1 ⟨x,b,c,d,q1⟩=>⟨x,σ,b,c,d,q1⟩)
def gh(c:TT)(t u:TS):TS:=λD σ H=>c σ H λb a=>if b=true then t D σ a else u D σ a
def cX(hc:PT X c tc)(ha:PSs X a t)(hb:PSs X b u):PS X (.If c a b pos) (gh tc t u):=by
 intro ac s σ H D I h;refine wpAny_If (cj (hc ac s σ H _ I h) λd s1 ⟨e,f,q1⟩=>?_);cases d with
 |true=>exact ha ac s1 σ e D f q1
 |false=>exact hb ac s1 σ e D f q1
end
abbrev TG:=V->St->Hp->(St->Hp->Prop)->Prop
abbrev Mv:=List V->St->Hp->(St->Hp->Prop)->Prop
def PG(X:Cx)(a:Expr)(t:TG):Prop:=
 ∀(ac:List (Addr×Obj))(s:Xo)(σ:St)(H:Hp)(v:V)(u:Xr)(Q:St->Hp->Prop),Inv X ac σ H s->RelV v u->t v σ H Q->
  wpAny (model X.prog X.w) X.A (assign a X.env u) (λ_ b=>∃σ' H',Inv X ac σ' H' b/\Q σ' H') X.xe s
def Jp(X:Cx)(a:List Expr)(t:Mv):Prop:=
 ∀(ac:List (Addr×Obj))(s:Xo)(σ:St)(H:Hp)(vs:List V)(us:List Xr)(Q:St->Hp->Prop),Inv X ac σ H s->Vals vs us->t vs σ H Q->
  wpAny (model X.prog X.w) X.A (assignInOrder ((assignEach a X.env).map (·.2)) us) (λ_ b=>∃σ' H',Inv X ac σ' H' b/\Q σ' H') X.xe s
section
def ay(i:Nat):TG:=λv σ H Q=>Q (σ.set i (some v)) H
def aL(a:X.N.Nodup)(b:X.N[i]?=some x)(c:Jj X.env.scope x)(d:autoParam (X.fn x=true\/X.env.scope.names.lookup x=some .local) ae):PG X (.Name x pos) (ay i):=by intro ac s σ H v u Q I r h;exact wpAny_assign_Name (uB I a b c r (λf e=>⟨_,H,e,h⟩) d)
def dS:Mv:=λvs σ H Q=>vs=[]/\Q σ H
def aQ(t:TG)(u:Mv):Mv:=λvs σ H Q=>∃v r,vs=v::r/\t v σ H λσ' H'=>u r σ' H' Q
def cc:Jp X [] dS:=by intro ac s σ H vs us Q I r h;obtain⟨e,h⟩:=h;subst e;cases r;exact assignInOrder_nil ⟨σ,H,I,h⟩
def aN(h1:PG X e t)(h2:Jp X es u)
 (b:autoParam ((assignEach (e::es) X.env).map (·.2)=assign e X.env::(assignEach es X.env).map (·.2)) aM):Jp X (e::es) (aQ t u):=by
 intro ac s σ H vs us Q I r h;obtain⟨v,g,e1,h⟩:=h;subst e1;cases r with
 |cons r c=>rw[b];refine assignInOrder_cons (cj (h1 ac s σ H _ _ _ I r h) λ_ s1 ⟨a,d,f,q1⟩=>?_);exact h2 ac s1 a d _ _ Q f c q1
def dU(K:Xp)(n:Nat)(t:Mv):TG:=λv σ H Q=>∃a xs,v=.ref a/\SqT K H a xs/\xs.length=n/\t xs σ H Q
def de(hc:X.calm=true)(h:Jp X es t)
 (g:autoParam ((assignEach es X.env).length=n) aM) (c:autoParam ((assignEach es X.env).findIdx? (·.1)=none) aM):PG X (.Tuple es k pos) (dU X.K n t):=by
 intro ac s σ H v u Q I r d;obtain⟨a,xs,e1,i,j,d⟩:=d;subst e1;cases r;obtain⟨its,f,l,hz⟩:=I.tuple i;refine assign_Tuple_tuple (I.ok.hd hc) l (by simp[g,<- j,f.length]) c λh' m=>?_;have p:Inv X ac σ H {s with heap:=h'}:=I.kept (t':=s.toks) λb o e=>m b o (T1 (TF e)) e;exact h ac _ σ H xs _ Q p (by simpa using f) d
def dg(te:TE)(g:TG):TS:=λD σ H=>te σ H λx a=>g x σ a D.nx
def bL(a:X.N.Nodup)(b:X.N[i]?=some x)(c:Jj X.env.scope x)(d:PE X e te)(f:autoParam (swapsWith e (some (.Name x pos')) pos.line X.env=pure false) aM)(g:autoParam (X.fn x=true\/X.env.scope.names.lookup x=some .local) ae) :
 PS X (.Assign [.Name x pos'] e pos) (dg te (ay i)):=by
 intro ac s σ H D I h;refine wpAny_Assign_Name (cj (d ac s σ H _ I h) λv s1 ⟨y,j,k,l,q1⟩=>?_) f;exact uB k a b c l (λs2 m=>⟨_,j,m,q1⟩) g
end
section
def Br(c:TT)(tb:TS):TS:=λD σ H=>∃W:Nat->St->Hp->Prop,(∃m,W m σ H)/\∀m σ H,W m σ H->
 c σ H λb a=>if b=true then ∃N:St->Hp->Prop,(∀σ' H',N σ' H'->∃m',m'<m/\W m' σ' H')/\tb {D with nx:=N,ct:=N,bk:=D.nx} σ a else D.nx σ a
def Bs(m:PassesOwn (model X.prog X.w) X.A X.env X.xe)(hc:PT X c tc)(hb:PSs X body tb):PS X (.While c body [] pos) (Br tc tb):=by
 intro ac s σ H D I h;obtain⟨W,⟨m0,t⟩,turn⟩:=h;refine wpAny_While (codeAny_whileLoop (λn u=>∃σ' H',Inv X ac σ' H' u/\W n σ' H') ?_ m0 ⟨σ,H,I,t⟩);rintro n s1 ⟨d,o,x,y⟩;refine VL m (cj (hc ac s1 d o _ x (turn n d o y)) λb s2 ⟨p,q,q2⟩=>?_);cases b with
 |true=>
  obtain⟨N,r,q2⟩:=q2;rw[Tt rfl];refine VL m (cj (hb ac s2 d p _ q q2) λf z g=>?_);cases f with
  |next=>obtain⟨a,e,i,j⟩:=g;obtain⟨m',k,l⟩:=r a e j;exact⟨m',k,a,e,i,l⟩
  |cont=>obtain⟨a,e,i,j⟩:=g;obtain⟨m',k,l⟩:=r a e j;exact⟨m',k,a,e,i,l⟩
  |brk=>exact g
  |ret v=>exact g
 |false=>rw[TC T9];exact W0 ⟨d,p,q,q2⟩
end
structure It where
 go:Nat->Hp->Prop
 A_:Nat->Hp->V->Hp->Prop
 stop:Nat->Hp->Prop
def kg(X:Cx)(ac:List (Addr×Obj))(H:Hp)(b:Addr):Prop:=H b=none/\b≠X.env.locals/\b∉X.fs/\(b∈X.ex\/X.s₀.heap.objs.size<=b)/\(∀x c,X.env.cells.lookup x=some c->c≠b)/\∀p∈X.pn++ac,p.1≠b
def Inv.qI(I:Inv X ac σ H s)(hb:s.heap.objs.size<=b)(a:H' b=none):kg X ac H' b:=by
 refine⟨a,VD (Ue I.lt hb),I.RP hb,.inr (T6 I.sz hb),λx c e z=>?_,λp d z=>?_⟩
 .obtain⟨v,q⟩:=I.cell x c e;exact absurd (Ue q.lt (by rw[z];exact hb)) (V5 _)
 .exact absurd (Ue (TF (I.pin p d).1) (by rw[z];exact hb)) (V5 _)
structure Turn(P:Xq) (w:World) (K:Xp) (tg:Expr) (J:It) (fp:List Addr) (it:Addr) (tn:Nat->Heap->Prop):Prop where
 mem:it∈fp
 obj:∀i h,tn i h->∀b∈fp,∃o,h.get? b=some o/\∀v,o.data≠.cell v
 keep:∀i h h',tn i h->(∀b∈fp,∀o,h.get? b=some o->h'.get? b=some o)->tn i h'
 item:∀(X:Cx),X.prog=P->X.w=w->X.K=K->X.calm=true->∀(i:Nat)(ac:List (Addr×Obj))(s:Xo)(σ:St)(H:Hp)(E:Xr->Xo->Prop),Inv X ac σ H s->(∀b∈fp,kg X ac H b)->tn i s.heap->J.go i H->
  wpAny (model P w) X.A (pyNext (.ref it)) (λr s1=>∃u,r=some u/\
   wpAny (model P w) X.A (letOwnedTupleGo tg (.ref it) u) (λ_ s2=>∃x H',Inv X ac σ H' s2/\RelV x u/\J.A_ i H x H'/\tn (i+1) s2.heap/\∀b∈fp,H' b=none) E s1) E s
 done:∀(X:Cx),X.prog=P->X.w=w->X.K=K->X.calm=true->∀(i:Nat)(ac:List (Addr×Obj))(s:Xo)(σ:St)(H:Hp)(E:Xr->Xo->Prop),Inv X ac σ H s->(∀b∈fp,kg X ac H b)->tn i s.heap->J.stop i H->
  wpAny (model P w) X.A (pyNext (.ref it)) (λr s1=>r=none/\Inv X ac σ H s1) E s
 self:∀(A:Xs)(i:Nat)(s:Xo)(Q:Xr->Xo->Prop)(E:Xr->Xo->Prop),tn i s.heap->Q (.ref it) s->wpAny (model P w) A (pyIter (.ref it)) Q E s
abbrev TI:=St->Hp->(It->Hp->Prop)->Prop
def PV(X:Cx)(ac:List (Addr×Obj))(σ:St)(tg:Expr)(R:It->Hp->Prop)(a:Xr)(s2:Xo):Prop:=∃(it:Addr)(fp:List Addr)(tn:Nat->Heap->Prop)(J:It)(H':Hp),a=.ref it/\Inv X ac σ H' s2/\Turn X.prog X.w X.K tg J fp it tn/\tn 0 s2.heap/\(∀b∈fp,kg X ac H' b)/\R J H'
def PI(X:Cx)(tg iter:Expr)(a:TI):Prop:=
 ∀(ac:List (Addr×Obj))(s:Xo)(σ:St)(H:Hp)(R:It->Hp->Prop),Inv X ac σ H s->a σ H R->
  wpAny (model X.prog X.w) X.A (eval iter X.env) (λv s1=>wpAny (model X.prog X.w) X.A (pyIter v) (PV X ac σ tg R) X.xe s1) X.xe s
def yo(b:s.heap.get? it=some o)(hc:o.cls=.type n)(hd:o.data=.fields vs)
 (c:["enumerate","zip","dict_itemiterator","dict_reverseitemiterator","odict_iterator","itertools.zip_longest","itertools.pairwise"].contains n=false) (a:Q () s):wpAny M A (letOwnedTupleGo tg (.ref it) u) Q E s:=by
 unfold letOwnedTupleGo;cases tg<;>first
  |exact Tl a
  |(cases u<;>first
     |exact Tl a
     |(refine KE (wpAny_load b ?_)
       rw[hc,hd];show wpAny M A (if(["enumerate","zip","dict_itemiterator","dict_reverseitemiterator","odict_iterator","itertools.zip_longest","itertools.pairwise"].contains n&&vs[0]?==some (rawInt _))=true then _ else _) Q E s;rw[TC (by intro h;rw[c,W_]at h;cases h)];exact Tl a))
def yp(K:Xp)(a:Addr):It:=⟨λi H=>∃xs x,SqL K H a xs/\xs[i]?=some x,λi H x H'=>H'=H/\∀xs,SqL K H a xs->xs[i]?=some x,λi H=>∃xs,SqL K H a xs/\xs.length<=i⟩
def Qq(K:Xp)(a:Addr):It:=⟨λi H=>∃xs x,SqT K H a xs/\xs[i]?=some x,λi H x H'=>H'=H/\∀xs,SqT K H a xs->xs[i]?=some x,λi H=>∃xs,SqT K H a xs/\xs.length<=i⟩
def MN(lo:Int)(n:Nat):It:=⟨λi _=>i<n,λi H x H'=>H'=H/\x=.int (lo+i),λi _=>n<=i⟩
def qM{K:Xp}{tg:Expr}(a it:Addr):Turn P w K tg (yp K a) [it] it (λi h=>h.IsListIter it a i) where
 mem:=by simp
 obj:=λi h st b hb=>by
  have e:b=it:=by simpa using hb
  subst e;obtain⟨o,e,c,d⟩:=st;exact⟨o,e,λv z=>by rw[d]at z;cases z⟩
 keep:=λi h h' st k=>st.at λo e=>k it (by simp) o e
 item:=by intro X hP hw hK hc i ac s σ H E I hf st hg;subst hP hw hK;obtain⟨xs,x,hq,hx⟩:=hg;obtain⟨its,rv,p,hz⟩:=I.list hq;obtain⟨u,hu,ru⟩:=rv.get hx;obtain⟨f0,f1,f2,f3,f4,f5⟩:=hf it (by simp);refine wpAny_pyNext_list_item st p.isList (x:=u) (by simpa using hu) λh' st' sb=>?_;have I1:Inv X ac σ H {s with heap:=h'}:=I.turned (t':=s.toks) (λb o hb e=>(sb.2 b hb).trans e) f0 f1 f3 f4 f5;obtain⟨o,e,c,d⟩:=id st';exact⟨u,rfl,yo (s:={s with heap:=h'}) e c d (by decide) ⟨x,H,I1,ru,⟨rfl,λys hy=>by rw[I.wd hy hq];exact hx⟩,st',λb hb=>(hf b hb).1⟩⟩
 done:=by intro X hP hw hK hc i ac s σ H E I hf st hg;subst hP hw hK;obtain⟨xs,hq,hx⟩:=hg;obtain⟨its,rv,p,hz⟩:=I.list hq;obtain⟨f0,f1,f2,f3,f4,f5⟩:=hf it (by simp);have hl:=rv.length;exact wpAny_pyNext_list_end (I.ok.hd hc) st p.isList (by simp;lia) λh' eb=>⟨rfl,I.turned (t':=s.toks) (λb o hb e=>eb b o hb e) f0 f1 f3 f4 f5⟩
 self:=λ_ _ _ _ _ st h=>wpAny_pyIter_listiter st h
def wo{K:Xp}{tg:Expr}(a it:Addr):Turn P w K tg (Qq K a) [it] it (λi h=>h.IsTupleIter it a i) where
 mem:=by simp
 obj:=λi h st b hb=>by
  have e:b=it:=by simpa using hb
  subst e;obtain⟨o,e,c,d⟩:=st;exact⟨o,e,λv z=>by rw[d]at z;cases z⟩
 keep:=λi h h' st k=>st.at λo e=>k it (by simp) o e
 item:=by intro X hP hw hK hc i ac s σ H E I hf st hg;subst hP hw hK;obtain⟨xs,x,hq,hx⟩:=hg;obtain⟨its,rv,p,hz⟩:=I.tuple hq;obtain⟨u,hu,ru⟩:=rv.get hx;obtain⟨f0,f1,f2,f3,f4,f5⟩:=hf it (by simp);refine wpAny_pyNext_tuple_item st (show s.heap.IsTuple a its.toArray from p) (x:=u) (by simpa using hu) λh' st' sb=>?_;have I1:Inv X ac σ H {s with heap:=h'}:=I.turned (t':=s.toks) (λb o hb e=>(sb.2 b hb).trans e) f0 f1 f3 f4 f5;obtain⟨o,e,c,d⟩:=id st';exact⟨u,rfl,yo (s:={s with heap:=h'}) e c d (by decide) ⟨x,H,I1,ru,⟨rfl,λys hy=>by rw[I.Bf hy hq];exact hx⟩,st',λb hb=>(hf b hb).1⟩⟩
 done:=by intro X hP hw hK hc i ac s σ H E I hf st hg;subst hP hw hK;obtain⟨xs,hq,hx⟩:=hg;obtain⟨its,rv,p,hz⟩:=I.tuple hq;obtain⟨f0,f1,f2,f3,f4,f5⟩:=hf it (by simp);have hl:=rv.length;exact wpAny_pyNext_tuple_end (I.ok.hd hc) st (show s.heap.IsTuple a its.toArray from p) (by simp;lia) λh' eb=>⟨rfl,I.turned (t':=s.toks) (λb o hb e=>eb b o hb e) f0 f1 f3 f4 f5⟩
 self:=λ_ _ _ _ _ st h=>wpAny_pyIter_tupleiter st h
def wt{K:Xp}{tg:Expr}(it:Addr)(lo:Int)(n:Nat):Turn P w K tg (MN lo n) [it] it (λi h=>IsRangeIter h it (lo+(i:Nat)*1) ((n:Int)-(i:Nat)) 1) where
 mem:=by simp
 obj:=λi h st b hb=>by grind
 keep:=λi h h' st k=>k it (by simp) _ st
 item:=by intro X hP hw hK hc i ac s σ H E I hf st hg;subst hP hw hK;obtain⟨f0,f1,f2,f3,f4,f5⟩:=hf it (by simp);have W:=Walks.range (prog:=X.prog) (w:=X.w) (I.ok.hd hc) it lo 1 n;refine W.item i s _ _ hg st λv h' tk hv st' kk=>?_;obtain⟨t,rfl⟩:=hv;have I1:Inv X ac σ H {s with heap:=h',toks:=tk}:=I.turned (λb o hb e=>kk b o (by simpa using hb) e) f0 f1 f3 f4 f5;refine⟨_,rfl,yo (s:={s with heap:=h',toks:=tk}) (n:="range_iterator") st' rfl rfl (by decide) ⟨.int (lo+i),H,I1,⟨t,?_⟩,⟨rfl,rfl⟩,st',λb hb=>(hf b hb).1⟩⟩;rw[Int.mul_one]
 done:=by intro X hP hw hK hc i ac s σ H E I hf st hg;subst hP hw hK;obtain⟨f0,f1,f2,f3,f4,f5⟩:=hf it (by simp);exact wpAny_pyNext_range_end (I.ok.hd hc) st (by have:n<=i:=hg;lia) λh' eb=>⟨rfl,I.turned (t':=s.toks) (λb o hb e=>eb b o hb e) f0 f1 f3 f4 f5⟩
 self:=λ_ _ _ _ _ st h=>wpAny_pyIter_rangeiter st h
section
def dk(K:Xp)(c:TE):TI:=λσ H R=>c σ H λx b=>∃a,x=.ref a/\(∃xs,SqL K b a xs)/\R (yp K a) b
def b8{d:TE}(f:PE X l d):PI X tg l (dk X.K d):=by
 intro ac s σ H R I h;refine cj (f ac s σ H _ I h) λv s1 ⟨x,g,c,i,q1⟩=>?_;obtain⟨a,e,⟨xs,j⟩,q⟩:=q1;subst e;cases i;obtain⟨its,k,p,hz⟩:=c.list j;refine V6 p.isList ?_;refine⟨s1.heap.objs.size,[s1.heap.objs.size],_,_,g,rfl,c.kept (t':=s1.toks) λb o e=>Tn _ e,qM a _,⟨_,Tv _ rfl,rfl,rfl⟩,λb hb=>?_,q⟩;have e:b=s1.heap.objs.size:=by simpa using hb
 subst e;exact c.qI (To _) (c.aW.fresh (To _))
def uD{s:Xo}{R:It->Hp->Prop}{E:Xr->Xo->Prop}{lo a:Int}{t u v:Tok}{tk:Nat}(I:Inv X ac σ H s)(h1:-(2^62)<=lo)(h2:lo<2^62)(d:-(2^62)<=a)(f:a<2^62)
 (q:R (MN lo (a-lo).toNat) H):wX X (pyIter (.ref s.heap.objs.size)) (PV X ac σ tg R) E { s with heap:=s.heap.push { cls:=.type "range",data:=.fields #[.int lo t,.int a u,.int 1 v] },toks:=tk }:=by
 refine wpAny_pyIter_range (IsRange.new ..) (small_one h1 h2 d f) ?_;have c:Inv X ac σ H { s with heap:=s.heap.push { cls:=.type "range",data:=.fields #[.int lo t,.int a u,.int 1 v] },toks:=tk }:=I.kept λb o e=>Tn _ e;refine⟨(s.heap.push { cls:=.type "range",data:=.fields #[.int lo t,.int a u,.int 1 v] }).objs.size,[(s.heap.push { cls:=.type "range",data:=.fields #[.int lo t,.int a u,.int 1 v] }).objs.size],_,_,H,rfl,
  c.kept (t':=tk) λb o e=>Tn _ e,wt _ lo (a-lo).toNat,?_,λb hb=>?_,q⟩
 .have e1:lo+((0:Nat):Int)*1=lo:=by simp
  have e2:(((a-lo).toNat:Nat):Int)-((0:Nat):Int)=Builtin.Range.rangeSize lo a 1:=by rw[rangeSize_one];split<;>lia
  show IsRangeIter _ _ (lo+((0:Nat):Int)*1) ((((a-lo).toNat:Nat):Int)-((0:Nat):Int)) 1;rw[e1,e2];exact Tv _ rfl
 .have e:b=(s.heap.push { cls:=.type "range",data:=.fields #[.int lo t,.int a u,.int 1 v] }).objs.size:=by simpa using hb
  subst e;exact c.qI (To _) (c.aW.fresh (To _))
def HW(ta:TA):TI:=λσ H R=>ta σ H λvs a=>∃j:Int,vs=[.int j]/\-(2^62)<=j/\j<2^62/\R (MN 0 j.toNat) a
def MO(ta:TA):TI:=λσ H R=>ta σ H λvs a=>∃i j:Int,vs=[.int i,.int j]/\(-(2^62)<=i/\i<2^62/\-(2^62)<=j/\j<2^62)/\R (MN i (j-i).toNat) a
def qN{a:Expr}{ta:TA}{p pos:Pos}(b:Gl X "range") (c:X.mg "range"=none) (ha:PA X [a] ta) (d:autoParam (starEach [a] X.env=[(false,eval a X.env)]) aM):PI X tg (.Call (.Name "range" p) [a] [] pos) (HW ta):=by
 intro ac s σ H R I h;refine Call_ (mq I b c boot_range (Vx (cj (ha pos ac s σ H _ I h) λus s1 ⟨vs,k,f,g,q1⟩=>?_) d rfl));obtain⟨j,e,q1,q2,q⟩:=q1;subst e;cases g with
 |cons r i=>cases i;obtain⟨t,rfl⟩:=r;exact call_range_1 (uD f (by lia) (by lia) q1 q2 (by simpa using q))
def zJ(f:Gl X "range") (g:X.mg "range"=none) (ha:PA X [a,b] ta) (k:autoParam (starEach [a,b] X.env=[(false,eval a X.env),(false,eval b X.env)]) aM) (c:autoParam (starEach [b] X.env=[(false,eval b X.env)]) aM) :
 PI X tg (.Call (.Name "range" p) [a,b] [] pos) (MO ta):=by
 intro ac s σ H R I h;refine Call_ (mq I f g boot_range (Vx (cj (ha pos ac s σ H _ I h) λus s1 ⟨vs,v,l,m,q1⟩=>?_) (by rw[k,c]) (by rw[c];rfl)));obtain⟨i,j,e,⟨q1,q2,n,o⟩,q⟩:=q1;subst e;cases m with
 |cons r d=>
  cases d with
  |cons u d=>cases d;obtain⟨t,rfl⟩:=r;obtain⟨t',rfl⟩:=u;exact call_range_2 (uD l q1 q2 n o q)
def jd(b:TI)(g:TG)(tb:TS):TS:=λD σ H=>b σ H λJ c=>∃W:Nat->Nat->St->Hp->Prop,(∃m,W 0 m σ c)/\∀i m σ H,W i m σ H->
 (J.stop i H/\D.nx σ H)\/(J.go i H/\∃N:St->Hp->Prop,(∀σ' H',N σ' H'->∃m',m'<m/\W (i+1) m' σ' H')/\∀x H',J.A_ i H x H'->g x σ H' λa d=>tb {D with nx:=N,ct:=N,bk:=D.nx} a d)
def om(fp:List Addr)(h:Heap):List (Addr×Obj):=fp.filterMap λb=>(h.get? b).map λo=>(b,o)
def ii(hb:b∈fp)(e:h.get? b=some o):(b,o)∈om fp h:=Wr.mpr ⟨b,hb,by rw[e];rfl⟩
def zK(a:p∈om fp h):p.1∈fp/\h.get? p.1=some p.2:=by
 obtain⟨b,hb,e⟩:=Wr.mp a;cases q:h.get? b with
 |none=>rw[q]at e;cases e
 |some o=>rw[q]at e;have c:(b,o)=p:=Um e;subst c;exact⟨hb,q⟩
def Inv.pinned(I:Inv X ac σ H s)(a:∀b∈fp,kg X ac H b)(d:∀b∈fp,∃o,s.heap.get? b=some o/\∀v,o.data≠.cell v):Inv X (ac++om fp s.heap) σ H s:=
 I.zF λp c=>(T4.mp c).elim (λz=>I.pin p (Ub _ z)) λz=>by
  obtain⟨hb,e⟩:=zK z;obtain⟨f,g,h,_⟩:=a p.1 hb
  grind
def Inv.lY(I:Inv X (ac++pl) σ H s):Inv X ac σ H s:=I.zF λp a=>I.pin p (Ub _ (Ul _ a))
def dh(t:PassesOwn (model X.prog X.w) X.A X.env X.xe)(hc:X.calm=true)(V:PI X tg iter wi)(Y:PG X tg g)(hb:PSs X body tb)
 (Z:autoParam (∀x,foldedSetIterable iter X.env x=pure x) az):PS X (.For tg iter body [] pos) (jd wi g tb):=by
 intro ac s σ H D I h;refine wpAny_For (cj (V ac s σ H _ I h) λv s1 h1=>cj h1 λitv s2 h2=>?_) Z;obtain⟨it,fp,tn,J,H2,e,I2,T,E,O,W,⟨m0,w0⟩,turn⟩:=h2;subst e;have c:∀{H':Hp},(∀b∈fp,H' b=none)->∀b∈fp,kg X ac H' b:=λhn b hb=>⟨hn b hb,(O b hb).2⟩;refine codeAny_forLoop_any (λn P=>∃i σ' H',Inv X ac σ' H' P/\tn i P.heap/\(∀b∈fp,H' b=none)/\W i n σ' H') ?_ m0 ⟨0,σ,H2,I2,E,λb hb=>(O b hb).1,w0⟩;rintro n Q ⟨i,j,C,R,y,z,w3⟩;rcases turn i n j C w3 with⟨stop,qn⟩|⟨go,N,hN,step⟩
 .refine VL t (cj (T.done X rfl rfl rfl hc i ac Q j C X.xe R (c z) y stop) λr s4 ⟨F,I4⟩=>?_);subst F;exact W0 ⟨j,C,I4,qn⟩
 .refine VL t (cj (T.item X rfl rfl rfl hc i ac Q j C X.xe R (c z) y go) λr s4 ⟨u,F,h4⟩=>?_);subst F;refine VL t (cj h4 λ_ S ⟨x,U,I5,r5,y5,q,G⟩=>?_);have K:=I5.pinned (c G) (T.obj _ _ q);refine VL t (cj (Y _ S j U x u _ K r5 (step x U y5)) λ_ s6 ⟨L,H6,I6,q6⟩=>?_);refine VL t (cj (hb _ s6 L H6 _ I6 q6) λf M p=>?_);have again:∀{a:St}{k:Hp},Inv X (ac++om fp S.heap) a k M->N a k->∃m,m<n/\∃i σ' H',Inv X ac σ' H' M/\tn i M.heap/\(∀b∈fp,H' b=none)/\W i m σ' H':=λ{a k} l B=>by obtain⟨m',hm,w7⟩:=hN a k B;refine⟨m',hm,i+1,a,k,l.lY,T.keep _ _ _ q λb hb o e=>(l.pin (b,o) (Ub _ (Ub _ (ii hb e)))).1,λb hb=>?_,w7⟩;obtain⟨o,e,d⟩:=T.obj _ _ q b hb;exact(l.pin (b,o) (Ub _ (Ub _ (ii hb e)))).2.1
  cases f with
  |next=>obtain⟨a,k,l,B⟩:=p;exact again l B
  |cont=>obtain⟨a,k,l,B⟩:=p;exact again l B
  |brk=>obtain⟨a,k,l,p⟩:=p;exact⟨a,k,l.lY,p⟩
  |ret v=>obtain⟨x7,a,k,l,r7,p⟩:=p;exact⟨x7,a,k,l.lY,r7,p⟩
end
def jn{K:Xp}{a:Addr}{xs:List V}{g:TG}{tb:TS}{D:Ends}{σ:St}{H:Hp}(b:Nat->St->Hp->Prop)(h0:b 0 σ H)(h:∀i σ H,i<=xs.length->b i σ H->SqL K H a xs)
 (j:∀i x σ H,xs[i]?=some x->b i σ H->g x σ H λc f=>tb {D with nx:=b (i+1),ct:=b (i+1),bk:=D.nx} c f) (hd:∀σ H,b xs.length σ H->D.nx σ H) :
 ∃W:Nat->Nat->St->Hp->Prop,(∃m,W 0 m σ H)/\∀i m σ H,W i m σ H->
  ((yp K a).stop i H/\D.nx σ H)\/((yp K a).go i H/\∃N:St->Hp->Prop,(∀σ' H',N σ' H'->∃m',m'<m/\W (i+1) m' σ' H')/\∀x H',(yp K a).A_ i H x H'->g x σ H' λc f=>tb {D with nx:=N,ct:=N,bk:=D.nx} c f):=by
 refine⟨λi m σ H=>m=xs.length-i/\i<=xs.length/\b i σ H,⟨xs.length,by simp,T2 _,h0⟩,?_⟩;rintro i m σ H ⟨rfl,k,p⟩;have q:=h i σ H k p;by_cases d:i<xs.length
 .refine .inr ⟨⟨xs,xs[i],q,by simp[d]⟩,b (i+1),λσ' H' l=>⟨xs.length-(i+1),by lia,rfl,d,l⟩,λx H' y=>?_⟩;obtain⟨e,y⟩:=y;subst e;exact j i x σ _ (y xs q) p
 .have e:i=xs.length:=by lia
  subst e;exact .inl ⟨⟨xs,q,To _⟩,hd σ H p⟩
abbrev R2:=V->V->Hp->VK->Prop
def OpR(X:Cx)(f:Xr->Xr->Sem Xr)(r:R2):Prop:=
 ∀(ac:List (Addr×Obj))(s:Xo)(σ:St)(H:Hp)(x y:V)(v u:Xr)(Q:VK),Inv X ac σ H s->RelV x v->RelV y u->r x y H Q->
  wpAny (model X.prog X.w) X.A (f v u) (EP X ac σ Q) X.xe s
def CallR(X:Cx)(f:Xr)(r:List V->Hp->VK->Prop):Prop:=
 ∀(ac:List (Addr×Obj))(s:Xo)(σ:St)(H:Hp)(xs:List V)(us:List Xr)(Q:VK),Inv X ac σ H s->Vals xs us->r xs H Q->
  wpAny (model X.prog X.w) X.A (call f us) (EP X ac σ Q) X.xe s
def Qr(X:Cx)(r:V->Hp->(Bool->Hp->Prop)->Prop):Prop:=
 ∀(ac:List (Addr×Obj))(s:Xo)(σ:St)(H:Hp)(x:V)(v:Xr)(Q:Bool->Hp->Prop),Inv X ac σ H s->RelV x v->r x H Q->
  wpAny (model X.prog X.w) X.A (truthy v) (TP X ac σ Q) X.xe s
def cY(r:R2)(ta tb:TE):TE:=λσ H Q=>ta σ H λx a=>tb σ a λy b=>r x y b Q
def rI(C:Int->Int->Prop)(g:Int->Int->V):R2:=λx y H Q=>∃i j,x=.int i/\y=.int j/\C i j/\Q (g i j) H
def wu(g:Int->Int->V):R2:=λx y H Q=>∃i j,x=.int i/\y=.int j/\Q (g i j) H
section
def Jq(ha:PE X a ta)(hb:PE X b tb){R:V->V->Hp->Prop}(I:Inv X ac σ H s)
 (h:ta σ H λx g=>tb σ g λy c=>R x y c) {Q:Xr->Xo->Prop} {f:Xr->Xr->Sem Xr}
 (i:∀v u s2 x y c,Inv X ac σ c s2->RelV x v->RelV y u->R x y c->wX X (f v u) Q X.xe s2) :
 wX X (eval a X.env) (λv d=>wX X (eval b X.env) (λu e=>wX X (f v u) Q X.xe e) X.xe d) X.xe s:=by
 refine cj (ha ac s σ H _ I h) λv s1 ⟨x,g,j,k,q1⟩=>?_;refine cj (hb ac s1 σ g _ j q1) λu s2 ⟨y,c,l,m,q2⟩=>?_;exact i v u s2 x y c l k m q2
def cZ{op:Operator}(c:OpR X (binaryOp op) r)(ha:PE X a ta)(hb:PE X b tb):PE X (.BinOp a op b pos) (cY r ta tb):=by intro ac s σ H Q I h;exact wpAny_BinOp (Jq ha hb I h λv u s2 x y d e f g q=>c ac s2 σ d x y v u Q e f g q)
def Qs{f:Xr->Xr->Sem Xr}{C:Int->Int->Prop}{g:Int->Int->Int}
 (rule:∀(i j:Int)(t u:Tok)(s:Xo)(Q:Xr->Xo->Prop)(E:Xr->Xo->Prop),C i j->Q (.int (g i j) s.toks) {s with toks:=s.toks+1}->wX X (f (.int i t) (.int j u)) Q E s) :
 OpR X f (rI C λi j=>.int (g i j)):=by
 intro ac s σ H x y v u Q I a b h;obtain⟨i,j,rfl,rfl,hc,q⟩:=h;obtain⟨t,rfl⟩:=a;obtain⟨t',rfl⟩:=b;exact rule i j t t' s _ _ hc ⟨.int (g i j),H,I.tok _,⟨_,rfl⟩,q⟩
def Jr{f:Xr->Xr->Sem Xr}{g:Int->Int->Int}
 (rule:∀(i j:Int)(t u:Tok)(s:Xo)(Q:Xr->Xo->Prop)(E:Xr->Xo->Prop),Q (.int (g i j) s.toks) {s with toks:=s.toks+1}->wX X (f (.int i t) (.int j u)) Q E s) :
 OpR X f (wu λi j=>.int (g i j)):=by
 intro ac s σ H x y v u Q I a b h;obtain⟨i,j,rfl,rfl,q⟩:=h;obtain⟨t,rfl⟩:=a;obtain⟨t',rfl⟩:=b;exact rule i j t t' s _ _ ⟨.int (g i j),H,I.tok _,⟨_,rfl⟩,q⟩
def Js{f:Xr->Xr->Sem Xr}{g:Int->Int->Bool}
 (rule:∀(i j:Int)(t u:Tok)(s:Xo)(Q:Xr->Xo->Prop)(E:Xr->Xo->Prop),Q (.bool (g i j)) s->wX X (f (.int i t) (.int j u)) Q E s) :
 OpR X f (wu λi j=>.bl (g i j)):=by
 intro ac s σ H x y v u Q I a b h;obtain⟨i,j,rfl,rfl,q⟩:=h;obtain⟨t,rfl⟩:=a;obtain⟨t',rfl⟩:=b;exact rule i j t t' s _ _ ⟨.bl (g i j),H,I,rfl,q⟩
def MP(i j:Int):Prop:=0<j/\j<1073741824
def CMul(i j:Int):Prop:=(-(2^64)<i/\i<2^64)\/(-(2^64)<j/\j<2^64)
def CMul.ok(h:CMul i j):IntMulOk i j:=by
 rcases h with⟨h1,h2⟩|⟨h1,h2⟩
 .exact .of_left (intBits_le_64 h1 h2)
 .exact .of_right (intBits_le_64 h1 h2)
def op_add:OpR X (binaryOp .Add) (wu λi j=>.int (i+j)):=Jr λ_ _ _ _ _ _ _ q=>add_int q
def Bt:OpR X (binaryOp .Sub) (wu λi j=>.int (i-j)):=Jr λ_ _ _ _ _ _ _ q=>sub_int q
def Jt:OpR X (binaryOp .Mult) (rI CMul λi j=>.int (i*j)):=Qs λ_ _ _ _ _ _ _ hc q=>mul_int q hc.ok
def yq:OpR X (binaryOp .FloorDiv) (rI MP λi j=>.int (i/j)):=Qs λi j _ _ _ _ _ hc q=>by have h1:(0:Int)<j:=hc.1;have h2:j<1073741824:=hc.2;exact floordiv_int (by lia) (by rw[Int.fdiv_eq_ediv_of_nonneg i (by lia)];exact q) (.inl (PyProof.noPylong_small (by lia)))
def Bu:OpR X (binaryOp .Mod) (rI (λ_ j=>0<j) λi j=>.int (i%j)):=Qs λi j _ _ _ _ _ hc q=>by have h1:(0:Int)<j:=hc;exact mod_int' (by lia) (by rw[Int.fmod_eq_emod_of_nonneg i (by lia)];exact q)
def Ju:OpR X (binaryOp .BitXor) (wu λi j=>.int (Builtin.bitXor i j)):=Jr λ_ _ _ _ _ _ _ q=>xor_int q
end
def MQ:V->V->Bool
 |.bp,.bp=>true|.bp,.int _=>true|.int _,.bp=>true|.bp,.bl _=>true|.bl _,.bp=>true|.bp,.str _=>true|.str _,.bp=>true
 |.int _,.int _=>true|.bl _,.bl _=>true|.str _,.str _=>true|.yf _,.yf _=>true
 |.int _,.str _=>true|.str _,.int _=>true|.bl _,.str _=>true|.str _,.bl _=>true
 |_,_=>false
def zL:R2:=λx y H Q=>MQ x y=true/\Q (.bl (decide (x=y))) H
def R8:R2:=λx y H Q=>MQ x y=true/\Q (.bl (!decide (x=y))) H
def yr:decide (V.int i=V.int j)=(i==j):=by rw[V1];simp
def Bv:decide (V.bl i=V.bl j)=(i==j):=by rw[V1];simp
def yt:decide (V.str i=V.str j)=(i==j):=by rw[V1];simp
def yu:decide (V.yf i=V.yf j)=(i.toList==j.toList):=by rw[V1];cases i;cases j;simp
section
def bo(I:Inv X ac σ H s)(q:Q (.bl k) H)(e:k=k'):EP X ac σ Q (.bool k') s:=by subst e;exact⟨.bl k,H,I,rfl,q⟩
def lb:OpR X (compareOp .Eq) zL:=by
 intro ac s σ H x y v u Q I c a h;obtain⟨b,q⟩:=h;cases x with
 |bp=>
  cases c;cases y with
  |bp=>cases a;exact PySem.EqNone.eq_none_none (bo I q (by simp))
  |bl j=>cases a;exact PySem.EqNone.eq_none_bool (bo I q (by simp))
  |int j=>obtain⟨t',rfl⟩:=a;exact PySem.EqNone.eq_none_int (bo I q (by simp))
  |str j=>obtain⟨t',rfl⟩:=a;exact PySem.EqNone.eq_none_str (bo I q (by simp))
  |_=>exact absurd (show false=true from b) T9
 |bl i=>
  cases c;cases y with
  |bp=>cases a;exact PySem.EqNone.eq_bool_none (bo I q (by simp))
  |bl j=>cases a;exact eq_bool (bo I q Bv)
  |str j=>obtain⟨t',rfl⟩:=a;exact PySem.EqMixed.eq_bool_str (bo I q (by simp))
  |_=>exact absurd (show false=true from b) T9
 |int i=>
  obtain⟨t,rfl⟩:=c;cases y with
  |bp=>cases a;exact PySem.EqNone.eq_int_none (bo I q (by simp))
  |int j=>obtain⟨t',rfl⟩:=a;exact eq_int (bo I q yr)
  |str j=>obtain⟨t',rfl⟩:=a;exact PySem.EqMixed.eq_int_str (bo I q (by simp))
  |_=>exact absurd (show false=true from b) T9
 |str i=>
  obtain⟨t,rfl⟩:=c;cases y with
  |bp=>cases a;exact PySem.EqNone.eq_str_none (bo I q (by simp))
  |bl j=>cases a;exact PySem.EqMixed.eq_str_bool (bo I q (by simp))
  |int j=>obtain⟨t',rfl⟩:=a;exact PySem.EqMixed.eq_str_int (bo I q (by simp))
  |str j=>obtain⟨t',rfl⟩:=a;exact eq_str (bo I q yt)
  |_=>exact absurd (show false=true from b) T9
 |yf i=>
  obtain⟨t,rfl⟩:=c;cases y with
  |yf j=>obtain⟨t',rfl⟩:=a;exact PySem.W.eq_bytes (bo I q yu)
  |_=>exact absurd (show false=true from b) T9
 |_=>cases y<;>exact absurd (show false=true from b) T9
def MR:OpR X (compareOp .NotEq) R8:=by
 intro ac s σ H x y v u Q I c a h;obtain⟨b,q⟩:=h;cases x with
 |bp=>
  cases c;cases y with
  |bp=>cases a;exact PySem.EqNone.ne_none_none (bo I q (by simp))
  |bl j=>cases a;exact PySem.EqNone.ne_none_bool (bo I q (by simp))
  |int j=>obtain⟨t',rfl⟩:=a;exact PySem.EqNone.ne_none_int (bo I q (by simp))
  |str j=>obtain⟨t',rfl⟩:=a;exact PySem.EqNone.ne_none_str (bo I q (by simp))
  |_=>exact absurd (show false=true from b) T9
 |bl i=>
  cases c;cases y with
  |bp=>cases a;exact PySem.EqNone.ne_bool_none (bo I q (by simp))
  |bl j=>cases a;exact ne_bool (bo I q (U1 not Bv))
  |str j=>obtain⟨t',rfl⟩:=a;exact PySem.EqMixed.ne_bool_str (bo I q (by simp))
  |_=>exact absurd (show false=true from b) T9
 |int i=>
  obtain⟨t,rfl⟩:=c;cases y with
  |bp=>cases a;exact PySem.EqNone.ne_int_none (bo I q (by simp))
  |int j=>obtain⟨t',rfl⟩:=a;exact ne_int (bo I q (U1 not yr))
  |str j=>obtain⟨t',rfl⟩:=a;exact PySem.EqMixed.ne_int_str (bo I q (by simp))
  |_=>exact absurd (show false=true from b) T9
 |str i=>
  obtain⟨t,rfl⟩:=c;cases y with
  |bp=>cases a;exact PySem.EqNone.ne_str_none (bo I q (by simp))
  |bl j=>cases a;exact PySem.EqMixed.ne_str_bool (bo I q (by simp))
  |int j=>obtain⟨t',rfl⟩:=a;exact PySem.EqMixed.ne_str_int (bo I q (by simp))
  |str j=>obtain⟨t',rfl⟩:=a;exact ne_str (bo I q (U1 not yt))
  |_=>exact absurd (show false=true from b) T9
 |yf i=>
  obtain⟨t,rfl⟩:=c;cases y with
  |yf j=>obtain⟨t',rfl⟩:=a;exact PySem.W.ne_bytes (bo I q (U1 not yu))
  |_=>exact absurd (show false=true from b) T9
 |_=>cases y<;>exact absurd (show false=true from b) T9
def HX:OpR X (compareOp .Lt) (wu λi j=>.bl (decide (i<j))):=Js λ_ _ _ _ _ _ _ q=>lt_int q
def yw:OpR X (compareOp .Gt) (wu λi j=>.bl (decide (j<i))):=Js λ_ _ _ _ _ _ _ q=>gt_int q
def HY:OpR X (compareOp .GtE) (wu λi j=>.bl (decide (j<=i))):=Js λ_ _ _ _ _ _ _ q=>ge_int q
def Jv:OpR X (compareOp .Is) (λx y H Q=>y=.bp/\Q (.bl (decide (x=.bp))) H):=by
 intro ac s σ H x y v u Q I a b h;obtain⟨rfl,q⟩:=h;cases b;refine is_none_gen (bo I q ?_);cases x<;>first
  |(cases a;rfl)
  |(obtain⟨t,rfl⟩:=a;rfl)
def OpR.or(h:OpR X f r)(h':OpR X f r'):OpR X f (λx y H Q=>r x y H Q\/r' x y H Q):=by
 intro ac s σ H x y v u Q I a b q;rcases q with q|q
 .exact h ac s σ H x y v u Q I a b q
 .exact h' ac s σ H x y v u Q I a b q
def bb(b:Expr)(h:autoParam (op≠.In) ab)(h2:autoParam (op≠.NotIn) ab):behindInMarks op b=false:=by
 have e1:(op==CmpOp.In)=false:=by cases op<;>first|rfl|exact absurd rfl h
 have e2:(op==CmpOp.NotIn)=false:=by cases op<;>first|rfl|exact absurd rfl h2
 cases b<;>simp[behindInMarks,e1,e2]
def yx(c:OpR X (compareOp op) r)(ha:PE X a ta)(hb:PE X b tb)(d:behindInMarks op b=false):PE X (.Compare a [op] [b] pos) (cY r ta tb):=by intro ac s σ H Q I h;exact wpAny_Compare1 (Jq ha hb I h λv u s2 x y e f g i q=>c ac s2 σ e x y v u Q f g i q) d
def cS(t:TE):TT:=λσ H Q=>t σ H λx H'=>∃k,x=.bl k/\Q k H'
def bw(d:OpR X (compareOp op) r)(ha:PE X a ta)(hb:PE X b tb)(f:behindInMarks op b=false):PT X (.Compare a [op] [b] pos) (cS (cY r ta tb)):=by intro ac s σ H Q I h;refine wpAny_isTrue_Compare1 (cj (ha ac s σ H _ I h) λv s1 ⟨x,g,i,j,q1⟩=>cj (hb ac s1 σ g _ i q1) λu s2 ⟨y,l,m,n,q2⟩=>cj (d ac s2 σ l x y v u _ m j n q2) λc w ⟨z,o,p,q,k,e,t⟩=>?_) f;subst e;cases q;exact Ve ⟨o,p,t⟩
def Jw(K:Xp)(x:V)(H:Hp)(k:Bool):Prop:=
 match x with
 |.bp=>k=false
 |.bl b=>k=b
 |.int i=>k=(i != 0)
 |.str y=>y.length<=sizeLine/\k=((y.length:Int) != 0)
 |.yf y=>y.size<=sizeLine/\k=((y.size:Int) != 0)
 |.ref p=>(∃xs,SqL K H p xs/\k=!xs.isEmpty)\/(∃xs,SqT K H p xs/\k=!xs.isEmpty)\/∃kvs,H p=some (.dK kvs)/\k=!kvs.isEmpty
 |_=>False
def wv{κ:Type}{kvs:List (κ×V)}{vs:List (κ×Xr)}(r:KV kvs vs):(!vs.isEmpty)=!kvs.isEmpty:=by cases r<;>rfl
def oo(r:Vals xs its):(!its.toArray.isEmpty)=!xs.isEmpty:=by cases r<;>simp
def mr:(sizeLine:Nat)<2^63:=by rw[Ud];decide
def Jx:Qr X (λx H Q=>∃k,Jw X.K x H k/\Q k H):=by
 intro ac s σ H x v Q I c h;obtain⟨k,e,q⟩:=h;have l:=mr;have n:sizeLine=16777216:=Ud;cases x with
 |bp=>cases c;have a:k=false:=e;subst a;exact truthy_none ⟨H,I,q⟩
 |bl b=>cases c;have a:k=b:=e;subst a;exact Ve ⟨H,I,q⟩
 |int i=>obtain⟨t,rfl⟩:=c;have a:k=(i != 0):=e;subst a;exact PySem.P.truthy_int ⟨H,I,q⟩
 |str y=>obtain⟨t,rfl⟩:=c;obtain⟨g,a⟩ : y.length<=sizeLine/\k=((y.length:Int) != 0):=e;subst a;exact PySem.P.truthy_str (by lia) ⟨H,I.tok _,q⟩
 |yf y=>obtain⟨t,rfl⟩:=c;obtain⟨g,a⟩ : y.size<=sizeLine/\k=((y.size:Int) != 0):=e;subst a;exact PySem.W.truthy_bytes (by lia) ⟨H,I.tok _,q⟩
 |ref p=>
  cases c;have a:(∃xs,SqL X.K H p xs/\k=!xs.isEmpty)\/(∃xs,SqT X.K H p xs/\k=!xs.isEmpty)\/∃kvs,H p=some (.dK kvs)/\k=!kvs.isEmpty:=e;rcases a with⟨xs,d,a⟩|⟨xs,d,a⟩|⟨kvs,d,a⟩
  .subst a;obtain⟨its,r,pl,hz⟩:=I.list d;have f:=r.length;exact wpAny_truthy_list pl.isList (by simp only[TB];lia) ⟨H,I.tok _,by rw[oo r];exact q⟩
  .subst a;obtain⟨its,r,pl,hz⟩:=I.tuple d;have f:=r.length;exact truthy_tuple pl (by simp only[TB];lia) ⟨H,I.tok _,by rw[oo r];exact q⟩
  .subst a;obtain⟨hz,j,vs,r,m⟩ : kvs.length<=sizeLine/\(p==sysModules)=false/\∃vs,KV kvs vs/\s.heap.DictOf (aK X.prog X.w) p vs:=I.aW p _ d;have f:kvs.length=vs.length:=U7 r;exact wpAny_truthy_dict j m (by lia) ⟨H,I.tok _,by rw[wv r];exact q⟩
 |_=>exact(show False from e).elim
def Bw(ha:PE X a ta)(c:∀b,isTrue a X.env b=(do let v <- b;standAt a.pos;holding [v] (truthy v))) :
 PT X a (λσ H Q=>ta σ H λx H'=>∃k,Jw X.K x H' k/\Q k H'):=by
 intro ac s σ H Q I h;exact isTrue_plain (cj (ha ac s σ H _ I h) λv s1 ⟨x,d,e,f,q1⟩=>Jx ac s1 σ d x v Q e f q1) (c _)
def ww:OpR X (binaryOp .Add) (λx y H Q=>∃i j,x=.str i/\y=.str j/\i.length+j.length<=sizeLine/\Q (.str (i++j)) H):=by intro ac s σ H x y v u Q I a b h;obtain⟨i,j,rfl,rfl,hz,q⟩:=h;obtain⟨t,rfl⟩:=a;obtain⟨t',rfl⟩:=b;exact add_str (λt' tk=>⟨.str (i++j),H,I.tok _,⟨_,rfl⟩,q⟩) hz
def fK(r:Vals [x] us):∃u,us=[u]/\RelV x u:=by
 cases r with
 |cons a b=>cases b;exact⟨_,rfl,a⟩
def yz(r:Vals [x,y] us):∃u a,us=[u,a]/\RelV x u/\RelV y a:=by
 cases r with
 |cons b c=>
  cases c with
  |cons d e=>cases e;exact⟨_,_,rfl,b,d⟩
end
structure yh(h:Heap) (x dx C:Addr) (mA:Str->Option Xr):Prop where
 obj:h.get? x=some (instObj C dx)
 ns:h.Ns1 dx mA
 ne:dx≠x
def zM{h:Heap}{b:Str->Option Xr}(n:h.Ns1 dx b):∃od,h.get? dx=some od/\∀name,lookIn name od=some (b name):=by
 obtain⟨o,es,ep,c,hd,d,_,f⟩:=n;refine⟨o,c,λname=>?_⟩;have e:=f name;unfold nsFind findBy at e;rw[<- Array.find?_toList]at e;unfold lookIn;rw[hd];dsimp only;split
 .rename_i y q;rw[q]at e;exact U1 some e
 .rename_i q;rw[q]at e;have a:es.toList.any (·.refKey)=false:=by rw[List.any_eq_false];intro y g;obtain⟨z,t,i⟩:=d y (Array.mem_toList_iff.mp g);simp[DictEntry.refKey,i]
  have j:¬es.toList.any (·.refKey)=true:=by rw[a];exact T9
  rw[TC j];exact U1 some e
def yh.look(I:yh h x dx C mA):∃od,PySem.W.InstAt h x (instObj C dx) C (some od)/\∀name,lookIn name od=some (mA name):=
 let ⟨od,a,b⟩:=zM I.ns
 ⟨od,⟨I.obj,rfl,rfl,a⟩,b⟩
section
variable{prog:Xq}{w:World}{A:Xs}{E:Xr->Xo->Prop}{s:Xo}{K:Xp}{x dx C f:Addr}{mA:Str->Option Xr}{name:Str}{v:Xr}
theorem Fu(X:K.In s.heap)(I:yh s.heap x dx C mA)(b:plainGet K C name=true)(c:hasDictIn K C=true)
 (ha:findIn K (.ref C) name=some none) (d:mA name=some v) (a:PySem.W.handedIn v=true) (h:Q v {s with toks:=s.toks+1}) :
 wpAny (model prog w) A (getAttr (.ref x) name expr) Q E s:=by
 obtain⟨od,J,e⟩:=I.look;exact PySem.W.get_value X J (W1 b).1 (PySem.W.findObj_own c ha rfl (by rw[e,d])) a h
def By(X:K.In s.heap)(I:yh s.heap x dx C mA)(a:plainGet K C name=true)
 (b:findIn K (.ref C) name=some (some (.ref f))) (c:isFn K (.ref f)=true) (d:mA name=none) (h:Q (.ref f,[.ref x]) s) :
 wpAny (model prog w) A (getMethod (.ref x) name pl) Q E s:=by
 obtain⟨od,J,e⟩:=I.look;exact PySem.W.method_fn X J (W1 a).1 (W1 a).2 b (WZ.mp c) (by show(lookIn name od).map (·.isSome)=some false;rw[e,d];rfl) h
theorem Fv(X:K.In s.heap)(I:yh s.heap x dx C mA)
 (k:findIn K (.ref C) "__setattr__"=some (some (.builtin "object.__setattr__"))) (l:PySem.W.plainOver K C=true) (m:PySem.W.takerIn K C name=some none) (n:hasDictIn K C=true)
 (o:PySem.Within mA ns) (hsz:ns.length<=sizeLine)
 (h:∀h',yh h' x dx C (λy=>if y=name then some v else mA y)->Heap.SameBut dx s.heap h'->Q () {s with heap:=h',toks:=s.toks+2}) :
 wpAny (model prog w) A (setAttr (.ref x) name v) Q E s:=by
 obtain⟨od,J,u⟩:=I.look;refine PySem.W.set_plain X J k (PySem.W.osa_open (s:={s with toks:=s.toks+1}) (r:=none) X J l m λb=>?_);obtain⟨z,hc,e⟩:=PySem.W.any_some n;have p:s.heap.get? x=some ⟨.ref C,some dx,.plain,#[]⟩:=I.obj;refine KE (Tl (KE (KE (wpAny_loadPart p (KE (PySem.W.Looks.here (s:={s with toks:=s.toks+1}) (PySem.W.looks_clsIn X hc) ?_))))));rw[e];refine Tl (a:=some dx) (KE (Tl (KE ?_)));refine wpAny_nsSet1 (s:={s with toks:=s.toks+1}) I.ns λh' c d=>?_;obtain⟨oD,q,t,g,i,j⟩:=c.count (PySem.Within.cons name v o);refine KE (wpAny_lookBehind g (by rw[i];exact pastItsLine_dict (T6 j (by rw[T3];lia))) ?_);exact Tl (h _ ⟨(d.2 _ (UD I.ne)).trans I.obj,c,I.ne⟩ d)
theorem Bz(X:K.In s.heap)(a:PySem.W.makesIn K C=true)
 (b:findIn K (.ref C) "__init__"=some (some (.ref f))) (c:PySem.W.typeIn K (.ref f)=some (.type "function"))
 (h:codeAny (model prog w) (A.under (.builtin "type.__call__" ⟨.ref C::vs,kw⟩)) (.call (.ref f) ⟨.ref (s.heap.objs.size+1)::vs,kw⟩) (PySem.W.InitBack (s.heap.objs.size+1) R)
   {s with heap:=(s.heap.push emptyDict).push (instObj C s.heap.objs.size)}) :
 codeAny (model prog w) A (.call (.ref C) ⟨vs,kw⟩) R s:=by
 obtain⟨e,g,d,t,os⟩:=s;exact PySem.W.make_core (PySem.W.makes_of X a) (PySem.W.looks_findIn X b) (λself=>PySem.W.bind_fn X self c) (.inl rfl) h
end
def hG(f:Str)(v:V):List (Str×V)->List (Str×V)
 |[]=>[(f,v)]
 |(g,x)::r=>if g=f then(g,v)::r else(g,x)::hG f v r
theorem m6(f g:Str)(v:V):∀fs:List (Str×V),(hG f v fs).lookup g=if g=f then some v else fs.lookup g
 |[]=>by
  show List.lookup g [(f,v)]=_
  grind
 |(k,x)::r=>by
  have a:=m6 f g v r
  grind [hG]
theorem mw(f:Str)(v:V):∀fs:List (Str×V),f∈(hG f v fs).map (·.1)/\∀g,g∈fs.map (·.1)->g∈(hG f v fs).map (·.1)
 |[]=>⟨by simp[hG],λg h=>by simp at h⟩
 |(k,x)::r=>by
  obtain⟨a,b⟩:=mw f v r
  grind [hG]
theorem m7(f:Str)(v:V):∀fs:List (Str×V),(hG f v fs).length<=fs.length+1
 |[]=>by simp[hG]
 |(k,x)::r=>by
  have b:=m7 f v r;rw[show hG f v ((k,x)::r)=(if k=f then(k,v)::r else(k,x)::hG f v r)from rfl];by_cases a:k=f
  .rw[Tt a,T3,T3];lia
  .rw[TC a,T3,T3];lia
def RelO.some_of(r:RelO (some v) o):∃u,o=some u/\RelV v u:=by
 cases o with
 |none=>exact(show False from r).elim
 |some u=>exact⟨u,rfl,r⟩
def RelO.none_of(r:RelO none o):o=none:=by
 cases o with
 |none=>rfl
 |some u=>exact(show False from r).elim
def zN(r:RelV v u):PySem.W.handedIn u=true:=by
 cases v with
 |bp=>cases(show u=Value.none from r);rfl
 |bl b=>cases(show u=Value.bool b from r);rfl
 |int i=>obtain⟨t,e⟩:=(show ∃t,u=Value.int i t from r);cases e;rfl
 |str x=>obtain⟨t,e⟩:=(show ∃t,u=Value.str x t from r);cases e;rfl
 |yf b=>obtain⟨t,e⟩:=(show ∃t,u=Value.bytes b t from r);cases e;rfl
 |IZ b=>obtain⟨t,e⟩:=(show ∃t,u=Value.float b t from r);cases e;rfl
 |ref a=>cases(show u=Value.ref a from r);rfl
 |ty n=>cases(show u=Value.type n from r);rfl
section
def nT(aW:HOk P w H h)(e:H a=some (.ins C dx fs)):∃b,yh h a dx C b/\(∀f,RelO (fs.lookup f) (b f))/\PySem.Within b (fs.map (·.1))/\fs.length<=1000/\H dx=some (.own a):=by obtain⟨d,z,ne,ob,b,n,r,q⟩:=(show ObjOk P w H h a (.ins C dx fs)from aW a _ e);exact⟨b,⟨ob,n,ne⟩,r,q,z,d⟩
end
structure uu(K:Xp) (C:Addr):Prop where
 pg:plainGet K C Str.empty=true
 hd:hasDictIn K C=true
 po:PySem.W.plainOver K C=true
 sa:findIn K (.ref C) "__setattr__"=some (some (.builtin "object.__setattr__"))
theorem uu.get{K:Xp}(c:uu K C)(f:Str):plainGet K C f=true:=c.pg
def NoAttr(K:Xp)(C:Addr)(f:Str):Prop:=findIn K (.ref C) f=some none
def NoAttr.taker{K:Xp}(n:NoAttr K C f):PySem.W.takerIn K C f=some none:=by unfold PySem.W.takerIn;rw[show findIn K (.ref C) f=some none from n];rfl
structure Meth(K:Xp) (C:Addr) (m:Str) (f:Addr):Prop where
 at_:findIn K (.ref C) m=some (some (.ref f))
 fn:isFn K (.ref f)=true
 kp:keepIn K (.ref f)=true
section
def wx(I:Inv X ac σ H s)(e:H a=some (.ins C dx fs))(c:uu X.K C)(n:NoAttr X.K C f)(l:fs.lookup f=some v)
 (h:∀u d,Inv X ac σ H d->RelV v u->Q u d):wpAny (model X.prog X.w) A (getAttr (.ref a) f b) Q E s:=by
 obtain⟨g,O,r,_,_,_⟩:=nT I.aW e;obtain⟨u,i,ru⟩:=RelO.some_of (v:=v) (o:=g f) (by rw[<- l];exact r f);exact Fu I.mZ O (c.get f) c.hd n i (zN ru) (h u _ (I.tok _) ru)
def oq(I:Inv X ac σ H s)(e:H a=some (.ins C dx fs))(c:uu X.K C)(k:Meth X.K C m g)(l:fs.lookup m=none)
 (h:Q (.ref g,[.ref a]) s):wpAny (model X.prog X.w) A (getMethod (.ref a) m pl) Q E s:=by
 obtain⟨b,O,r,_,_,_⟩:=nT I.aW e;have d:b m=none:=RelO.none_of (by rw[<- l];exact r m);exact By I.mZ O (c.get m) k.at_ k.fn d h
def wy(I:Inv X ac σ H s)(e:H a=some (.ins C dx fs))(c:uu X.K C)(n:NoAttr X.K C f)(v:fs.length<1000)(B:RelV y u)
 (h:∀i,Inv X ac σ (upd H a (.ins C dx (hG f y fs))) i->Q () i):wpAny (model X.prog X.w) A (setAttr (.ref a) f u) Q E s:=by
 obtain⟨l,O,r,j,_,k⟩:=nT I.aW e;have hz:(fs.map (·.1)).length<=sizeLine:=by rw[Tp,Ud];lia
 refine Fv I.mZ O c.sa c.po n.taker c.hd j hz λh' d m=>h _ ?_;have hd:∃o,h'.get? dx=some o:=let ⟨o,_,_,p,_⟩:=d.ns;⟨o,p⟩;refine I.write (x:=a) (e:=dx) (by rw[e];exact True.intro) (.inr k) (λb q hb z=>(m.2 b hb).trans z) hd ?_;refine⟨by rw[ag O.ne];exact k,?_,O.ne,d.obj,_,d.ns,λg=>?_,λg t=>?_⟩
 .have:=m7 f y fs;lia
 .grind [RelO,hG,m6]
 .by_cases q:g=f
  .rw[q];exact(mw f y fs).1
  .refine(mw f y fs).2 g (j g λz=>t ?_);show(if g=f then some u else l g)=none;rw[TC q];exact z
def Inv.made(I:Inv X ac σ H s):Inv X ac σ (upd (upd H s.heap.objs.size (.own (s.heap.objs.size+1))) (s.heap.objs.size+1) (.ins C s.heap.objs.size []))
 {s with heap:=(s.heap.push emptyDict).push (instObj C s.heap.objs.size)}:=by
 have e1:(s.heap.push emptyDict).get? s.heap.objs.size=some emptyDict:=Tv s.heap rfl;have e2:((s.heap.push emptyDict).push (instObj C s.heap.objs.size)).get? (s.heap.objs.size+1)=some (instObj C s.heap.objs.size):=by
  have:=Tv (s.heap.push emptyDict) (o:=instObj C s.heap.objs.size) rfl
  rwa [VV]at this
 have e3:(s.heap.push emptyDict).Ns s.heap.objs.size (λ_=>none):=⟨emptyDict,#[],_,e1,rfl,(λe c=>absurd c (by simp)),λ_=>rfl⟩;have d:=I.laid (a:=s.heap.objs.size) (o:=.own (s.heap.objs.size+1)) (h':=s.heap.push emptyDict) (t':=s.toks) (λb u q=>Tn _ q) (To _) ⟨_,e1⟩;refine d.laid (a:=s.heap.objs.size+1) (o:=.ins C s.heap.objs.size []) (t':=s.toks) (λb u q=>Tn _ q) (Xl (VV _ _)) ?_;have ne:s.heap.objs.size≠s.heap.objs.size+1:=T1 (VR _);refine⟨by rw[ag ne,af],T2 _,ne,e2,λ_=>none,(Heap.Ns1.of_empty e3).at λo q=>Tn _ q,λ_=>True.intro,λy f=>absurd rfl f⟩
def Fw(hb:attributeBase e f env (eval e env)=eval e env)
 (h:wpAny (model prog w) A (eval e env) (λo a=>wpAny (model prog w) A (getAttr o f true) Q E a) E s):wpAny (model prog w) A (eval (.Attribute e f pos) env) Q E s:=
 Attribute_any_ h (by rw[arm_eval_Attribute,hb])
end
def eR(K:Xp)(ta:TE)(f:Str):TE:=λσ H Q=>ta σ H λx b=>∃a C dx fs v,x=.ref a/\b a=some (.ins C dx fs)/\uu K C/\NoAttr K C f/\fs.lookup f=some v/\Q v b
def sr(K:Xp)(ta c:TE)(f:Str):TS:=λD σ H=>c σ H λy d=>ta σ d λx b=>∃a C dx fs,x=.ref a/\b a=some (.ins C dx fs)/\uu K C/\NoAttr K C f/\fs.length<1000/\
 D.nx σ (upd b a (.ins C dx (hG f y fs)))
section
def cr(b:PE X e ta)(hb:attributeBase e f X.env (eval e X.env)=eval e X.env):PE X (.Attribute e f pos) (eR X.K ta f):=by intro ac s σ H Q I h;refine Fw hb (cj (b ac s σ H _ I h) λu s1 z=>?_);obtain⟨x,d,g,i,a,C,dx,fs,v,rfl,j,c,n,l,q⟩:=z;obtain rfl:u=Value.ref a:=i;exact wx g j c n l λu' s2 k ru=>⟨v,d,k,ru,q⟩
def jo(ha:PE X o ta)(b:PE X value tv)(d:swapsWith value (some (.Attribute o f pos')) pos.line X.env=pure false):PS X (.Assign [.Attribute o f pos'] value pos) (sr X.K ta tv f):=by intro ac s σ H D I h;refine plainObj_wpAny_Assign_Attribute (cj (b ac s σ H _ I h) λu s1 ⟨y,e,g,i,q⟩=>cj (ha ac s1 σ e _ g q) λj s2 z=>?_) d;obtain⟨x,t,k,m,a,C,dx,fs,rfl,p,c,n,l,q2⟩:=z;obtain rfl:j=Value.ref a:=m;exact wy k p c n l i λv r=>⟨σ,_,r,q2⟩
end
section
inductive mW(K:Xp) (H:Hp):V->Xr->Prop where
 |bp:mW K H .bp (.type "NoneType")
 |bl (x:Bool):mW K H (.bl x) (.type "bool")
 |int (i:Int):mW K H (.int i) (.type "int")
 |str (x:Str):mW K H (.str x) (.type "str")
 |IZ (x:UInt64):mW K H (.IZ x) (.type "float")
 |lst {a:Addr} {xs:List V} (e:H a=some (.lst xs)):mW K H (.ref a) (.type "list")
 |bj {a:Addr} {o:Obj} {xs:List V} (e:H a=some (.bj o (.lst xs))):mW K H (.ref a) (.type "list")
 |tup {a:Addr} {xs:List V} (e:H a=some (.tup xs)):mW K H (.ref a) (.type "tuple")
 |dK {a:Addr} {kvs:List (bv×V)} (e:H a=some (.dK kvs)):mW K H (.ref a) (.type "dict")
 |dT {a:Addr} {kvs:List (List bv×V)} (e:H a=some (.dT kvs)):mW K H (.ref a) (.type "dict")
 |ins {a C dx:Addr} {fs:List (Str×V)} (e:H a=some (.ins C dx fs)) (cl:uu K C) (ha:findIn K (.ref C) "__class__"=some (some (.builtin "object.__class__")))
  (hn:PySem.W.specialIn K (.builtin "object.__class__") "__get__"=some (some (.builtin "getset_descriptor.__get__"))) (htk:PySem.W.takesIn K (.builtin "object.__class__")=some true)
  (hm:PySem.W.mroIn K C (.type "object")=some true):mW K H (.ref a) (.ref C)
def zO(I:Inv X ac σ H s)(d:RelV x u)(ty:mW X.K H x t)(e:kitOne X.K t c=some b)(h:∀tk,Q (.bool b) {s with toks:=tk}) :
 wpAny (model X.prog X.w) A (call (.builtin "isinstance") [u,c]) Q E s:=by
 cases ty with
 |bp=>cases(show u=Value.none from d);exact UW PySem.W.kitx_none I.mZ True.intro e (λz=>nomatch z) h
 |bl y=>cases(show u=Value.bool y from d);exact UW PySem.W.kitx_bool I.mZ True.intro e (λz=>nomatch z) h
 |int i=>obtain⟨t,q⟩:=(show ∃t,u=Value.int i t from d);cases q;exact UW PySem.W.kitx_int I.mZ True.intro e (λz=>nomatch z) h
 |str y=>obtain⟨t,q⟩:=(show ∃t,u=Value.str y t from d);cases q;exact UW PySem.W.kitx_str I.mZ True.intro e (λz=>nomatch z) h
 |IZ y=>obtain⟨t,q⟩:=(show ∃t,u=Value.float y t from d);cases q;exact UW PySem.W.kitx_float I.mZ True.intro e (λz=>nomatch z) h
 |@lst a xs f=>cases(show u=Value.ref a from d);obtain⟨_,_,n,_,h1⟩:=(show ObjOk X.prog X.w H s.heap a (.lst xs)from I.aW a _ f);exact UW PySem.W.kitx_list I.mZ ⟨_,h1,rfl⟩ e (λz=>nomatch z) h
 |@bj a ob xs f=>cases(show u=Value.ref a from d);obtain⟨_,_,_,n,_,h1⟩:=(show ObjOk X.prog X.w H s.heap a (.bj ob (.lst xs))from I.aW a _ f);exact UW PySem.W.kitx_list I.mZ ⟨_,h1,rfl⟩ e (λz=>nomatch z) h
 |@tup a xs f=>cases(show u=Value.ref a from d);obtain⟨_,_,_,p⟩:=(show ObjOk X.prog X.w H s.heap a (.tup xs)from I.aW a _ f);obtain⟨o,h1,h2,_⟩:=p;exact UW PySem.W.kitx_tuple I.mZ ⟨o,h1,h2⟩ e (λz=>nomatch z) h
 |@dK a kvs f=>cases(show u=Value.ref a from d);obtain⟨_,_,vs,_,p⟩:=(show ObjOk X.prog X.w H s.heap a (.dK kvs)from I.aW a _ f);obtain⟨o,es,ep,h1,h2,_⟩:=p;exact UW Xc I.mZ ⟨o,h1,h2.1⟩ e (λz=>nomatch z) h
 |@dT a kvs f=>cases(show u=Value.ref a from d);obtain⟨_,_,xs,_,o,es,ep,h1,h2,_⟩:=(show ObjOk X.prog X.w H s.heap a (.dT kvs)from I.aW a _ f);exact UW Xc I.mZ ⟨o,h1,h2.1⟩ e (λz=>nomatch z) h
 |@ins a C dx fs f cl ha j g k=>cases(show u=Value.ref a from d);obtain⟨l,O,_⟩:=nT I.aW f;obtain⟨od,J,_⟩:=O.look;exact UW (PySem.W.kitx_own (cl.get _) cl.hd ha j g k) I.mZ J e (λz=>nomatch z) h
end
structure dj(k:Nat) (A:Xs):Prop where
 hd:A.handled=none
 dp:A.depth+3*k+5<recursionLimit
 un:A.units+16*k+200<cLine
def dj.mono(r:dj k A)(h:j<=k):dj j A:=⟨r.hd,by have:=r.dp;lia,by have:=r.un;lia⟩
theorem dj.deeper(r:dj (k+1) A)(env:Env):dj k (A.deeper env):=⟨r.hd,by have:=r.dp;show A.depth+1+3*k+5<_;lia,by have:=r.un;show A.units+3+16*k+200<_;lia⟩
def wB{A:Xs}{C:Addr}:(A.under (.builtin "type.__call__" ⟨.ref C::us,kw⟩)).depth=A.depth+1:=by
 first|rfl|simp[Around.under,Code.weight,Code.isCreation,Code.isGuard,Code.isCaller,Code.frames,Code.isFrame,guardIds]
def wC{A:Xs}{C:Addr}:(A.under (.builtin "type.__call__" ⟨.ref C::us,kw⟩)).units=A.units+1:=by
 first|rfl|simp[Around.under,Code.cUnits,Code.frames,Code.isFrame]
def dj.make(r:dj (k+1) A) (C:Addr) (us:List Xr) (a:List (Str×Xr)):dj k (A.under (.builtin "type.__call__" ⟨.ref C::us,a⟩)):=⟨r.hd,by have:=r.dp;rw[wB];lia,by have:=r.un;rw[wC];lia⟩
theorem dj.depth(r:dj k A):A.depth<recursionLimit:=by have:=r.dp;lia
theorem dj.units(r:dj k A):A.units+64<cLine:=by have:=r.un;lia
def aG:TA:=λ_ H Q=>Q [] H
def ai(ta:TE)(tr:TA):TA:=λσ H Q=>ta σ H λx a=>tr σ a λxs b=>Q (x::xs) b
section
def ah:PA X [] aG:=λ_ _ _ _ H Q I h=>WD ⟨[],H,I,.nil,h⟩
def aa(ha:PE X e te)(a:PA X es t)(b:autoParam (starEach (e::es) X.env=(false,eval e X.env)::starEach es X.env) aM):PA X (e::es) (ai te t):=by intro pos ac s σ H Q I h;rw[b];show wpAny _ _ (spliced ((false,eval e X.env)::backTo pos (starEach es X.env))) _ _ s;refine VY (cj (ha ac s σ H _ I h) λu s1 ⟨x,c,d,f,q1⟩=>?_);exact cj (a pos ac s1 σ c _ d q1) λus s2 ⟨xs,g,i,j,q2⟩=>⟨x::xs,g,i,.cons f j,q2⟩
def eY(t:TA):TE:=λσ H Q=>t σ H λxs a=>xs.length<=sizeLine/\∀p,a p=none->Q (.ref p) (upd a p (.tup xs))
def je(t:TA):TE:=λσ H Q=>t σ H λxs a=>xs.length<=sizeLine/\∀p,a p=none->Q (.ref p) (upd a p (.lst xs))
def bB{x1}(h:PA X es t):PE X (.Tuple es x1 pos) (eY t):=by intro ac s σ H Q I d;refine wpAny_Tuple_spliced (cj (h pos ac s σ H _ I d) λus s1 ⟨xs,a,c,r,z,q⟩=>⟨by rw[<- r.length];exact z,?_⟩);have f:a s1.heap.objs.size=none:=c.aW.fresh (To _);refine⟨.ref s1.heap.objs.size,upd a s1.heap.objs.size (.tup xs),c.laid (t':=s1.toks) (λb u e=>Tn _ e) (To _) ?_,rfl,q _ f⟩;exact⟨z,us,r,⟨_,Tv _ rfl,rfl,_,rfl⟩⟩
def ce(h:PA X es t):PE X (.List es pos) (je t):=by intro ac s σ H Q I d;refine wpAny_List_spliced (cj (h pos ac s σ H _ I d) λus s1 ⟨xs,a,c,r,z,q⟩=>⟨by rw[<- r.length];exact z,?_⟩);have f:a s1.heap.objs.size=none:=c.aW.fresh (To _);refine⟨.ref s1.heap.objs.size,upd a s1.heap.objs.size (.lst xs),c.laid (t':=s1.toks) (λb u e=>Tn _ e) (To _) ?_,rfl,q _ f⟩;exact⟨z,us,0,r,Tv _ rfl⟩
end
abbrev Sp:=List V->Hp->VK->XK->Prop
abbrev ET:=List Env->Hp->Xo->XK->Xr->Xo->Prop
structure yi(P:Xq) (w:World) (K:Xp) (mg:Str->Option Xr) (base:Heap) (A:Xs) (outer:List Env) (s:Xo) (H:Hp):Prop where
 frames:A.frames=some outer
 mod:Mod K mg base
 bs:∀b o,base.get? b=some o->s.heap.get? b=some o/\H b=none
 Fa:base.objs.size<=s.heap.objs.size
 mV:s.heap.FunFrames base outer
 Jd:∀b∈Bp outer,H b=none
 aW:HOk P w H s.heap
 bare:AllBare s.gens
 kt:Qm K H
def CE(outer:List Env)(P:Xq)(w:World)(H:Hp)(s:Xo)(Q:VK)(u:Xr)(a:Xo):Prop:=∃v H',a.os=s.os/\AllBare a.gens/\Un (Bp outer) [] H H' s.heap a.heap/\HOk P w H' a.heap/\RelV v u/\Q v H'
def CR(CX:ET)(outer:List Env)(P:Xq)(w:World)(H:Hp)(s:Xo)(Q:VK)(E:XK)(r:Result)(a:Xo):Prop:=
 match r with
 |.ok (.ret u)=>CE outer P w H s Q u a
 |.ok _=>False
 |.error e=>CX outer H s E e a
structure bD(P:Xq) (w:World) (K:Xp) (mg:Str->Option Xr) (base:Heap) (CX:ET) (k:Nat) (f:Addr) (fd:FuncData) (ps:List Str) (sp:Sp):Prop where
 len:∀vs H Q E,sp vs H Q E->vs.length=ps.length
 run:∀(A:Xs)(outer:List Env)(s:Xo)(H:Hp)(args:Args)(us:List Xr)(vs:List V)(Q:VK)(E:XK),dj k A->yi P w K mg base A outer s H->BindsTo s fd args (ps.zip us)->Vals vs us->sp vs H Q E->
  codeAny (model P w) A (.call (.ref f) args) (CR CX outer P w H s Q E) s
def bD.imp{P:Xq}{w:World}{K:Xp}{mg:Str->Option Xr}{base:Heap}{CX:ET}(F:bD P w K mg base CX k f fd ps sp)
 (h:∀vs H Q E,sp' vs H Q E->sp vs H Q E):bD P w K mg base CX k f fd ps sp':=
 ⟨λvs H Q E q=>F.len vs H Q E (h _ _ _ _ q),λA outer s H args us vs Q E a b hb c d=>F.run A outer s H args us vs Q E a b hb c (h _ _ _ _ d)⟩
def yi.make{P:Xq}{w:World}{K:Xp}{mg:Str->Option Xr}{base:Heap}(e:yi P w K mg base A outer s H)(C:Addr)(us:List Xr)(a:List (Str×Xr)) :
 yi P w K mg base (A.under (.builtin "type.__call__" ⟨.ref C::us,a⟩)) outer s H:=⟨by first|exact e.frames|(simpa[Around.under,Code.envs,Code.isFrame,pushEnvs]using e.frames),e.mod,e.bs,e.Fa,e.mV,e.Jd,e.aW,e.bare,e.kt⟩
section
def Inv.Pu(I:Inv X ac σ H s):yi X.prog X.w X.K X.mg X.base X.A X.stack s H:=⟨I.ok.frames,I.ok.mod,I.bs,T6 I.ok.Fa I.sz,I.stack,I.zE,I.aW,I.bare,I.kt⟩
def Inv.after(I:Inv X ac σ H s)(h:CE X.stack X.prog X.w H s Q u s'):EP X ac σ Q u s':=by obtain⟨v,H',os,bare,un,aW,r,q⟩:=h;obtain⟨c,g,d,t,a⟩:=s';obtain rfl:a=s.os:=os;exact⟨v,H',I.call (h':=c) (g':=g) (d':=d) (t':=t) (ch:=[]) un aW bare (λb z=>absurd z (by simp)),r,q⟩
end
def ck(sp:Sp)(a:List V)(E:XK)(t:TA):TE:=λσ H Q=>t σ H λvs b=>sp (vs++a) b Q E
def eS(C:Addr)(m:Str)(sp:Sp)(b:List V)(E:XK)(ta:TE)(t:TA):TE:=λσ H Q=>ta σ H λx c=>∃a dx fs,x=.ref a/\c a=some (.ins C dx fs)/\fs.lookup m=none/\
 t σ c λvs d=>sp (x::(vs++b)) d Q E
def yA(C:Addr)(sp:Sp)(a:List V)(E:XK)(t:TA):TE:=λσ H Q=>t σ H λvs b=>∀x dx,b x=none->b dx=none->dx≠x->
 sp (.ref x::(vs++a)) (upd (upd b dx (.own x)) x (.ins C dx [])) (λv c=>v=.bp/\Q (.ref x) c) E
def Binds(K:Xp)(fd:FuncData)(ps:List Str)(ds:List Xr):Prop:=∀(s:Xo)(us:List Xr),K.In s.heap->(us++ds).length=ps.length->BindsTo s fd ⟨us,[]⟩ (ps.zip (us++ds))
def Binds.all{K:Xp}(h:∀us:List Xr,us.length=ps.length->bindArgs fd ⟨us,[]⟩=pure (ps.zip us)):Binds K fd ps []:=λs us _ a=>by rw[UE]at a ⊢;exact .of_eq (h us a)
def fL(CX:ET)(X:Cx)(E:XK):Prop:=∀(ac:List (Addr×Obj))(σ:St)(H:Hp)(s:Xo)(e:Xr)(a:Xo),Inv X ac σ H s->CX X.stack H s E e a->X.xe e a
section
def wD(F:bD X.prog X.w X.K X.mg X.base CX k f fd ps sp)(c:dj k X.A)(hb:Binds X.K fd ps ds)(hd:Vals dvs ds)(d:fL CX X E)
 (I:Inv X ac σ H s) (r:Vals vs us) (h:sp (vs++dvs) H Q E):wX X (call (.ref f) us) (EP X ac σ Q) X.xe s:=by
 have b:Vals (vs++dvs) (us++ds):=r.append hd;have g:(us++ds).length=ps.length:=by rw[<- b.length];exact F.len _ _ _ _ h
 refine wpAny_call (WH (F.run X.A X.stack s H ⟨us,[]⟩ (us++ds) (vs++dvs) Q E c I.Pu (hb s us I.mZ g) b h) λr i a=>?_);cases r with
 |error e=>exact d ac σ H s e i I a
 |ok fl=>
  cases fl with
  |ret u=>exact I.after a
  |next=>exact False.elim a
  |brk=>exact False.elim a
  |cont=>exact False.elim a
def aZ(F:bD X.prog X.w X.K X.mg X.base CX k f fd ps sp)(d:dj k X.A)(g:Gl X x)(i:X.mg x=some (.ref f))(j:keepIn X.K (.ref f)=true)(hb:Binds X.K fd ps ds)(hd:Vals dvs ds)(l:fL CX X E)
 (ha:PA X (e::es) t) (a:autoParam (dB x) ab) (m:autoParam (sE X e es) aM) (b:autoParam (bT X pos es) aM) :
 PE X (.Call (.Name x p) (e::es) [] pos) (ck sp dvs E t):=by
 intro ac s σ H Q I h;refine VZ (sk I g i ?_ a);refine W7 (h₀:=X.base) I.ok.mod.PQ j (cj (ha pos ac s σ H _ I h) λus s1 ⟨vs,n,c,r,q⟩=>⟨c.mZ,?_⟩) m b;exact wD F d hb hd l c r q
def eZ(p:PE X o ta)(c:uu X.K C)(g:Meth X.K C m f)(F:bD X.prog X.w X.K X.mg X.base CX k f fd ps sp)(v:dj k X.A)(hb:Binds X.K fd ps ds)(hd:Vals dvs ds)(y:fL CX X E)(ha:PA X (e::es) t)
 (b:autoParam (starEach (e::es) X.env=(false,eval e X.env)::starEach es X.env) aM) (d:autoParam (bT X pos es) aM)
 (B:autoParam (eval (.Call (.Attribute o m apos) (e::es) [] pos) X.env=(do
   let i <- eval o X.env
   standAt apos.atName
   let (f,first) <- holding [i] (getMethod i m pl)
   callWith pos f first (backTo pos (starEach (e::es) X.env)) (backToKw pos (keywordEach [] X.env)))) aM) :
 PE X (.Call (.Attribute o m apos) (e::es) [] pos) (eS C m sp dvs E ta t):=by
 intro ac s σ H Q I h;refine PySem.W.methodCall_KW (pl:=pl) (cj (p ac s σ H _ I h) λu s1 z=>?_) B;obtain⟨x,D,j,G,a,dx,fs,rfl,J,l,q⟩:=z;obtain rfl:u=Value.ref a:=G;refine oq j J c g l ?_;refine W7 (first:=[.ref a]) (h₀:=X.base) I.ok.mod.PQ g.kp (cj (ha pos ac s1 σ D _ j q) λus s2 ⟨vs,L,n,r,q2⟩=>⟨n.mZ,?_⟩) b d;exact wD (us:=.ref a::us) (vs:=.ref a::vs) F v hb hd y n (.cons rfl r) q2
def ou(g:PE X o ta)(c:uu X.K C)(d:Meth X.K C m f)(F:bD X.prog X.w X.K X.mg X.base CX k f fd ps sp)(i:dj k X.A)(hb:Binds X.K fd ps ds)(hd:Vals dvs ds)(j:fL CX X E)
 (n:autoParam (eval (.Call (.Attribute o m apos) [] [] pos) X.env=(do
   let e <- eval o X.env
   standAt apos.atName
   let (f,first) <- holding [e] (getMethod e m pl)
   callWith pos f first (backTo pos (starEach [] X.env)) (backToKw pos (keywordEach [] X.env)))) aM) :
 PE X (.Call (.Attribute o m apos) [] [] pos) (eS C m sp dvs E ta aG):=by
 intro ac s σ H Q I h;refine PySem.W.methodCall_KW (pl:=pl) (cj (g ac s σ H _ I h) λu s1 z=>?_) n;obtain⟨x,t,b,p,a,dx,fs,rfl,r,l,q⟩:=z;obtain rfl:u=Value.ref a:=p;refine oq b r c d l ?_;exact PySem.W.callWith_K0 (first:=[.ref a]) b.mZ d.kp (wD (us:=[.ref a]) (vs:=[.ref a]) F i hb hd j b (.cons rfl .nil) q)
structure Mk(K:Xp) (C f:Addr):Prop where
 makes:PySem.W.makesIn K C=true
 init:findIn K (.ref C) "__init__"=some (some (.ref f))
 fn:isFn K (.ref f)=true
 kp:keepIn K (.ref C)=true
def uE(M:Mk X.K C f)(F:bD X.prog X.w X.K X.mg X.base CX k f fd ps sp)(g:dj (k+1) X.A)(hb:Binds X.K fd ps ds)(hd:Vals dvs ds)
 (i:fL CX X E) (I:Inv X ac σ H s) (r:Vals vs us)
 (h:∀x dx,H x=none->H dx=none->dx≠x->sp (.ref x::(vs++dvs)) (upd (upd H dx (.own x)) x (.ins C dx [])) (λv j=>v=.bp/\Q (.ref x) j) E) :
 wX X (call (.ref C) us) (EP X ac σ Q) X.xe s:=by
 have c:=h (s.heap.objs.size+1) s.heap.objs.size (I.aW.fresh (Nat.le_succ _)) (I.aW.fresh (To _)) (T1 (VR _));have b:=Inv.made (C:=C) I;have d:Vals (V.ref (s.heap.objs.size+1)::(vs++dvs)) (Value.ref (s.heap.objs.size+1)::(us++ds)):=.cons rfl (r.append hd);have l:(Value.ref (s.heap.objs.size+1)::us++ds).length=ps.length:=by have e:=d.length;rw[F.len _ _ _ _ c]at e;exact e.symm
 refine wpAny_call (Bz (f:=f) I.mZ M.makes M.init (WZ.mp M.fn) (WH (F.run _ X.stack _ _ ⟨Value.ref (s.heap.objs.size+1)::us,[]⟩ (Value.ref (s.heap.objs.size+1)::(us++ds)) _ _ E (g.make C us [])
  (b.Pu.make C us []) (hb _ (Value.ref (s.heap.objs.size+1)::us) b.mZ l) d c) λr m a=>?_))
 cases r with
 |error e=>exact i ac σ _ _ e m b a
 |ok fl=>
  cases fl with
  |ret u=>obtain⟨v,H',n,o,p,q⟩:=b.after a;subst p;exact⟨o,⟨V.ref (s.heap.objs.size+1),H',n,rfl,q⟩⟩
  |next=>exact False.elim a
  |brk=>exact False.elim a
  |cont=>exact False.elim a
def Fy(M:Mk X.K C f)(F:bD X.prog X.w X.K X.mg X.base CX k f fd ps sp)(d:dj (k+1) X.A)(g:Gl X x)(i:X.mg x=some (.ref C))(hb:Binds X.K fd ps ds)(hd:Vals dvs ds)(j:fL CX X E)
 (ha:PA X (e::es) t) (a:autoParam (dB x) ab) (l:autoParam (sE X e es) aM) (b:autoParam (bT X pos es) aM) :
 PE X (.Call (.Name x p) (e::es) [] pos) (yA C sp dvs E t):=by
 intro ac s σ H Q I h;refine VZ (sk I g i ?_ a);refine W7 (h₀:=X.base) I.ok.mod.PQ M.kp (cj (ha pos ac s σ H _ I h) λus s1 ⟨vs,m,c,r,q⟩=>⟨c.mZ,?_⟩) l b;exact uE M F d hb hd j c r q
def BA(M:Mk X.K C f)(F:bD X.prog X.w X.K X.mg X.base CX k f fd ps sp)(b:dj (k+1) X.A)(c:Gl X x)(d:X.mg x=some (.ref C))(hb:Binds X.K fd ps ds)(hd:Vals dvs ds)(e:fL CX X E)
 (a:autoParam (dB x) ab):PE X (.Call (.Name x p) [] [] pos) (yA C sp dvs E aG):=by
 intro ac s σ H Q I h;refine VZ (sk I c d ?_ a);exact PySem.W.callWith_K0 I.mZ M.kp (uE (us:=[]) M F b hb hd e I .nil h)
end
structure aR(N P:List Str) (sc:Scope):Prop where
 kind:sc.kind=.function
 co:sc.isCoroutine=false
 gen:sc.isGenerator=false
 nd:N.Nodup
 pre:N.take P.length=P
 par:∀x∈P,sc.names.lookup x=some .local\/sc.names.lookup x=some .cell
 Mi:∀y∈sc.names,y.2≠.free
theorem qO{kindOf:Str->Option NameKind}:∀{binds:List (Str×Xr)}{m:Str->Option Xr},(∀v,(x,v)∉binds)->bindL kindOf binds m x=m x
 |[],_,_=>rfl
 |(n,v)::r,m,h=>by
  unfold bindL;rw[qO λw a=>h w (Tu _ a)];split
  .have:x≠n:=by rintro rfl;exact h v Tw
   simp[this]
  .rfl
theorem qP{kindOf:Str->Option NameKind}:∀{binds:List (Str×Xr)}{m:Str->Option Xr},(∀v,(x,v)∉binds)->bindC kindOf binds m x=m x
 |[],_,_=>rfl
 |(n,v)::r,m,h=>by
  unfold bindC;rw[qP λw a=>h w (Tu _ a)];split
  .rfl
  .have:x≠n:=by rintro rfl;exact h v Tw
   simp[this]
theorem qQ{kindOf:Str->Option NameKind}:∀{P:List Str}{vs:List Xr}{i:Nat}{m:Str->Option Xr},P.Nodup->P[i]?=some x->vs[i]?=some v->kindOf x=some .local->
 bindL kindOf (P.zip vs) m x=some v
 |[],_,_,_,_,h,_,_=>by simp at h
 |_::_,[],_,_,_,_,h,_=>by simp at h
 |p::P,w::vs,0,m,nd,h1,h2,a=>by simp at h1 h2;subst h1;subst h2;show bindL kindOf ((p,w)::P.zip vs) m p=_;unfold bindL;rw[qO λv b=>(UF.mp nd).1 (List.of_mem_zip b).1,Tt a];simp
 |p::P,w::vs,i+1,m,nd,h1,h2,a=>by show bindL kindOf ((p,w)::P.zip vs) m x=_;unfold bindL;exact qQ (i:=i) (UF.mp nd).2 (by simpa using h1) (by simpa using h2) a
theorem qR{kindOf:Str->Option NameKind}:∀{P:List Str}{vs:List Xr}{i:Nat}{m:Str->Option Xr},P.Nodup->P[i]?=some x->vs[i]?=some v->kindOf x≠some .local->
 bindC kindOf (P.zip vs) m x=some v
 |[],_,_,_,_,h,_,_=>by simp at h
 |_::_,[],_,_,_,_,h,_=>by simp at h
 |p::P,w::vs,0,m,nd,h1,h2,a=>by simp at h1 h2;subst h1;subst h2;show bindC kindOf ((p,w)::P.zip vs) m p=_;unfold bindC;rw[qP λv b=>(UF.mp nd).1 (List.of_mem_zip b).1,TC a];simp
 |p::P,w::vs,i+1,m,nd,h1,h2,a=>by show bindC kindOf ((p,w)::P.zip vs) m x=_;unfold bindC;exact qR (i:=i) (UF.mp nd).2 (by simpa using h1) (by simpa using h2) a
def bO(N:List Str)(vs:List V):St:=vs.map some++List.replicate (N.length-vs.length) none
def wF(CX:ET)(P:Xq)(w:World)(K:Xp)(mg:Str->Option Xr)(base:Heap)(N:List Str)(qual:Str)(scope:Scope)(f:Addr)(cd:Xr)(A:Xs)(outer:List Env)(s:Xo)(H:Hp)(E:XK):Cx where
 prog:=P
 w:=w
 K:=K
 mg:=mg
 base:=base
 A:=A.deeper (envOfC qual scope s.heap.objs.size f cd)
 N:=N
 s₀:=s
 H₀:=H
 env:=envOfC qual scope s.heap.objs.size f cd
 outer:=outer
 stack:=envOfC qual scope s.heap.objs.size f cd::outer
 ex:=[]
 calm:=true
 fn:=λ_=>true
 pn:=[]
 xe:=λe s'=>wpAny (model P w) (A.deeper (envOfC qual scope s.heap.objs.size f cd)) (leaving (envOfC qual scope s.heap.objs.size f cd) e) (λ_ s''=>CX outer H s E e s'') (λe' s''=>CX outer H s E e' s'') s'
def uF{a:Scope}(h:a.names.lookup x=some .cell):∃c,(cellsFrom n a.names []).lookup x=some c:=by have q:=PySem.W.cellsFrom_some a.names n [] (.inl h);exact Option.isSome_iff_exists.mp q
def zP{CX:ET}{P:Xq}{w:World}{K:Xp}{mg:Str->Option Xr}{base:Heap}{N ps:List Str}{qual:Str}{scope:Scope}
 (S:aR N ps scope) (hd:A.handled=none) (e0:yi P w K mg base A outer s H) (t:vs.length=ps.length) (r:Vals vs us)
 (x:InCallC s s.heap.objs.size (bindL (envOfC qual scope s.heap.objs.size f cd).kindOf (ps.zip us) λ_=>none) (cellsFrom (s.heap.objs.size+1) scope.names []) (bindC (envOfC qual scope s.heap.objs.size f cd).kindOf (ps.zip us) λ_=>none) s1) :
 Inv (wF CX P w K mg base N qual scope f cd A outer s H E) [] (bO N vs) H s1:=by
 have m:ps.length<=N.length:=by have:=U1 List.length S.pre;rw[Uz]at this;lia
 obtain⟨h1,tk,rfl,j⟩:=x.done;have a:∀b:Addr,b∉(wF CX P w K mg base N qual scope f cd A outer s H E).ex:=λb z=>absurd (show b∈([]:List Addr)from z) (by simp);refine⟨⟨e0.mod,S.kind,rfl,rfl,To _,λy z c h1 h2=>?_,λy hy=>?_,λy c _ h=>?_,λ_=>hd,Around.frames_deeper e0.frames,.inr ⟨rfl,rfl⟩,λb z=>absurd z (a b),e0.bs,e0.Fa,λb _ _=>a b,λb z=>absurd z (a b),e0.mV,e0.Jd,e0.kt⟩,
  rfl,e0.bare,Un.kept j,⟨_,x.toInCall.ns,λi y v h1 h2 B=>?_⟩,λy c h=>⟨_,x.cell y c h⟩,e0.aW.fresh (To _),λy c h=>?_,λp d=>absurd (show p∈([]:List (Addr×Obj))from d) (by simp),e0.aW.kept j,?_⟩
 .exact name_of_addr x.apart (Vf h1) (Vf h2)
 .have hy:scope.names.lookup y=some .cell\/scope.names.lookup y=some .free:=hy;rcases hy with hy|hy
  .exact uF hy
  .exact absurd rfl (S.Mi _ (Vf hy))
 .exact US (x.above y c (Vf h))
 .have C:i<vs.length:=by
   grind [bO]
  have ha:vs[i]?=some v:=by grind [bO]
  obtain⟨u,l,o⟩:=r.get ha;have d:ps[i]?=some y:=by rw[<- S.pre,List.getElem?_take_of_lt (by lia)];exact h1
  have g:ps.Nodup:=by rw[<- S.pre];exact S.nd.sublist (List.take_sublist _ _)
  refine⟨u,o,?_⟩;rcases S.par y (T5 d)with k|k
  .exact .inl ⟨k,qQ g d l k⟩
  .obtain⟨c,e⟩:=uF (n:=s.heap.objs.size+1) k;refine .inr ⟨.inl k,c,e,?_⟩;have q:=x.cell y c e;rw[qR g d l (by show scope.names.lookup y≠_;rw[k];decide)]at q;exact q
 .exact e0.aW.fresh (US (x.above y c (Vf h)))
 .unfold bO;show _=N.length;rw[TU,Tp,V2];lia
def MS{CX:ET}{P:Xq}{w:World}{K:Xp}{mg:Str->Option Xr}{base:Heap}{k:Nat}{f:Addr}{name qual:Str}{a:Arguments}{body:List Stmt}{scope:Scope}{z kV doc pm cdv ct oc:Xr}{an od:Option Addr}
 {osl:Array (Option Xr)} {N ps:List Str} {sp:Sp} (lk:K.lookup f=some ⟨oc,od,.func (fnOf name qual a body scope z kV doc pm an cdv ct),osl⟩) (j:codeIn K cdv qual=true) (S:aR N ps scope)
 (len:∀vs H Q E,sp vs H Q E->vs.length=ps.length)
 (c:∀(A:Xs)(outer:List Env)(s:Xo)(H:Hp)(vs:List V)(Q:VK)(E:XK),dj k (A.deeper (envOfC qual scope s.heap.objs.size f cdv))->sp vs H Q E->
   ∃t,PSs (wF CX P w K mg base N qual scope f cdv A outer s H E) body t/\t {nx:=λ_ H'=>Q .bp H',rt:=Q} (bO N vs) H) :
 bD P w K mg base CX (k+1) f (fnOf name qual a body scope z kV doc pm an cdv ct) ps sp:=by
 refine⟨len,λA outer s H args us vs Q E l e0 hb r h=>?_⟩;have C:=len _ _ _ _ h;have B:K.In s.heap:=e0.mod.PQ.keeps λb o e=>(e0.bs b o e).1;have lim:s.heap.NoLimit:=e0.mod.nolimit.keeps λb o e=>(e0.bs b o e).1;have d:∀y∈ps.zip us,scope.names.lookup y.1=some .local\/(scope.names.lookup y.1=some .cell/\((cellsFrom (s.heap.objs.size+1) scope.names []).lookup y.1).isSome=true):=λ⟨n,v⟩ D=>by
  rcases S.par n (List.of_mem_zip D).1 with q|q
  .exact .inl q
  .exact .inr ⟨q,PySem.W.cellsFrom_some _ _ _ (.inl q)⟩
 refine codeAny_call_function l.depth (B _ _ lk) rfl S.co S.gen rfl (PySem.W.codeRec_of B j) (hb _ _ _ _ ?_);refine wpAny_newFunctionEnv_cells S.kind d λenv F s1 x=>?_;subst F;refine⟨lim.keeps x.toInCall.keep,codeAny_func ?_⟩;obtain⟨t,G,L⟩:=c A outer s H vs Q E (l.deeper _) h;have I:Inv (wF CX P w K mg base N qual scope f cdv A outer s H E) [] (bO N vs) H s1:=zP S l.hd e0 C r x;refine Vd (G [] s1 (bO N vs) H _ I L) (λfl m g=>?_) λe m g=>g;have i:∀{σ':St}{H':Hp}{v:V}{u:Xr},Inv (wF CX P w K mg base N qual scope f cdv A outer s H E) [] σ' H' m->RelV v u->Q v H'->CE outer P w H s Q u m:=λ{σ' H' v u} J p q=>⟨v,H',J.os,J.bare,J.base,J.aW,p,q⟩;cases fl with
 |ret u=>obtain⟨v,σ',H',J,p,q⟩:=g;exact i J p q
 |next=>obtain⟨σ',H',J,q⟩:=g;exact i (v:=V.bp) (u:=Value.none) J rfl q
 |brk=>obtain⟨_,_,_,q⟩:=g;exact False.elim q
 |cont=>obtain⟨_,_,_,q⟩:=g;exact False.elim q
section
variable{X:Cx}{x:Str}{p pos:Pos}{e:Expr}{es:List Expr}{t:TA}{id T:String}{r:List V->Hp->VK->Prop}
def jZ(r:List V->Hp->VK->Prop)(t:TA):TE:=λσ H Q=>t σ H λvs a=>r vs a Q
theorem bc(hc:CallR X (.builtin id) r) (c:Gl X x) (d:X.mg x=none) (f:bootBuiltins x=some (.builtin id)) (ha:PA X (e::es) t) (g:autoParam (x≠"__name__") ab) (a:autoParam (dB x) ab)
 (i:autoParam (starEach (e::es) X.env=(false,eval e X.env)::starEach es X.env) aM) (b:autoParam (bT X pos es) aM):PE X (.Call (.Name x p) (e::es) [] pos) (jZ r t):=by
 intro ac s σ H Q I h;refine VZ (mq I c d f ?_ g a);exact PyProof.Rows.callWith_builtin1 (cj (ha pos ac s σ H _ I h) λus s1 ⟨vs,j,k,l,q1⟩=>hc ac s1 σ j vs us Q k l q1) i b
theorem cK(hc:CallR X (.type T) r) (c:Gl X x) (d:X.mg x=none) (f:bootBuiltins x=some (.type T)) (ha:PA X (e::es) t) (g:autoParam (x≠"__name__") ab) (a:autoParam (dB x) ab)
 (i:autoParam (starEach (e::es) X.env=(false,eval e X.env)::starEach es X.env) aM) (b:autoParam (bT X pos es) aM):PE X (.Call (.Name x p) (e::es) [] pos) (jZ r t):=by
 intro ac s σ H Q I h;refine VZ (mq I c d f ?_ g a);exact Vx (cj (ha pos ac s σ H _ I h) λus s1 ⟨vs,j,k,l,q1⟩=>hc ac s1 σ j vs us Q k l q1) i b
end
end L2
namespace HT
open PySem PyProof.Rows
section
def cat_tup(m:IsTup s.heap t vs.toArray)(hb:IsTup s.heap b ws.toArray)(j:vs≠[])
 (h1:ws=[]->Q (.ref t) s) (h2:ws≠[]->Q (.ref s.heap.objs.size) { s with heap:=s.heap.push { cls:=.type "tuple",data:=.seq (vs++ws).toArray } })
 (hsz:vs.length+ws.length<=sizeLine):wpAny (model prog w) A (binaryOp .Add (.ref t) (.ref b)) Q E s:=by
 obtain⟨⟨cls,dd,data,sl⟩,h,hc,n,hd⟩:=id m;obtain⟨⟨k,c,data2,d⟩,a,f,l,g⟩:=id hb;simp only at hc hd f g;subst hc hd f g;have e:vs.toArray++ws.toArray=(vs++ws).toArray:=by simp
 by_cases i:ws=[]
 .exact concat_meets ⟨_,h,rfl⟩ ⟨_,a,rfl⟩ noFill_tuple_add seq_tuple_add PySem.F.slot_tuple_add PySem.F.entry_tuple_add (PySem.F.args_tuple_add_2 _ _)
   (tuple_addW1 t b vs.toArray ws.toArray n l dd c sl d (by simpa using j) (by simp[i])) ⟨h,a,h1 i⟩
 .refine concat_meets ⟨_,h,rfl⟩ ⟨_,a,rfl⟩ noFill_tuple_add seq_tuple_add PySem.F.slot_tuple_add PySem.F.entry_tuple_add (PySem.F.args_tuple_add_2 _ _)
   (tuple_addW2 t b vs.toArray ws.toArray n l dd c sl d (by simpa using j) (by simpa using i) (by rw[TB,TB];exact hsz)) ⟨h,a,?_⟩
  rw[e];exact h2 i
def sIx(n d:Nat):Option Int->Nat
 |none=>d
 |some v=>if v<0 then(v+(n:Int)).toNat else min v.toNat n
def sIx_nat(n d k:Nat):sIx n d (some (k:Int))=min k n:=by show(if(k:Int)<0 then((k:Int)+(n:Int)).toNat else min (k:Int).toNat n)=min k n;rw[TC (by lia),V7]
def Jy(n d:Nat)(hd:d<=n)(o:Option Int):sIx n d o<=n:=by
 cases o with
 |none=>exact hd
 |some v=>
  show(if v<0 then(v+(n:Int)).toNat else min v.toNat n)<=n
  grind
def yB(v:Int)(n d:Nat):(if v<0 then max (v+(n:Int)) 0 else min v (n:Int))=((sIx n d (some v):Nat):Int):=by
 show(if v<0 then max (v+(n:Int)) 0 else min v (n:Int))=(((if v<0 then(v+(n:Int)).toNat else min v.toNat n):Nat):Int)
 grind
def wG(lo a:Option Int)(n:Nat):Builtin.Slice.sliceAdjust lo a 1 (n:Int)=(((sIx n 0 lo:Nat):Int),((sIx n n a:Nat):Int)):=by
 have h1:¬((1:Int)<0):=by lia
 unfold Builtin.Slice.sliceAdjust;simp only[h1,UM];refine Xg ?_ ?_
 .cases lo with
  |none=>rfl
  |some v=>exact yB v n 0
 .cases a with
  |none=>rfl
  |some v=>exact yB v n n
def wH(i j:Nat):Builtin.Slice.slicePlaces (i:Int) (j:Int) 1=j-i:=by
 unfold Builtin.Slice.slicePlaces
 grind
def oz(p:IsPart v o)(h:Q o s):wpAny (model prog w) A (Builtin.Slice.slicePartIndex v) Q E s:=by
 cases p with
 |none=>exact slicePart_none h
 |int i t=>exact slicePart_int h
def sliceApplied_gen{lo a:Option Int}{n:Nat}{Q:Int×Int×Nat->Xo->Prop}(d:s.heap.IsSliceOf sl vl vu .none)(pl:IsPart vl lo)(e:IsPart vu a)
 (h:Q (((sIx n 0 lo:Nat):Int),1,sIx n n a-sIx n 0 lo) s):wpAny (model prog w) A (Builtin.Slice.sliceApplied (.ref sl) (pure (n:Int))) Q E s:=by
 obtain⟨os,b,f,c⟩:=id d;unfold Builtin.Slice.sliceApplied Builtin.Slice.sliceFields;refine KE (KE (WE b c (x:=vl) rfl (KE (WE b c (x:=vu) rfl (KE (WE b c (x:=.none) rfl (Tl ?_)))))));refine KE (slicePart_none ?_);show wpAny _ _ (if((1:Int)==0)=true then _ else _) _ _ s;rw[TC (by decide)];refine KE (oz pl (KE (oz e (KE (Tl ?_)))));show wpAny _ _ (match Builtin.Slice.sliceAdjust lo a 1 (n:Int)with|(lo,a)=>pure (lo,(1:Int),Builtin.Slice.slicePlaces lo a 1)) _ _ s;rw[wG lo a n];show wpAny _ _ (pure (((sIx n 0 lo:Nat):Int),(1:Int),Builtin.Slice.slicePlaces ((sIx n 0 lo:Nat):Int) ((sIx n n a:Nat):Int) 1)) _ _ s;rw[wH];exact Tl h
def BB(xs:Array Xr)(i k:Nat):((List.range k).filterMap λ(m:Nat)=>xs[((i:Int)+(m:Int)*1).toNat]?).toArray=((xs.toList.drop i).take k).toArray:=by
 have e:(λ(m:Nat)=>xs[((i:Int)+(m:Int)*1).toNat]?)=λm=>xs[i+m]?:=by grind
 rw[e];have:=pick_run xs i k;rw[List.filterMap_map]at this;have e2:((λx=>xs[x]?) ∘ λx=>i+x)=λm=>xs[i+m]?:=rfl;rw[e2]at this;rw[this]
def getItem_tuple_cut{i j:Xr}{lo b:Option Int}{Q:Xr->Xo->Prop}(c:IsTup s.heap t items)(k:s.heap.IsSliceOf sl i j .none)(pl:IsPart i lo)(l:IsPart j b)
 (o:¬(sIx items.size 0 lo=0/\sIx items.size items.size b=items.size))
 (h:Q (.ref s.heap.objs.size) { s with heap:=s.heap.push { cls:=.type "tuple",data:=.seq ((items.toList.drop (sIx items.size 0 lo)).take (sIx items.size items.size b-sIx items.size 0 lo)).toArray } })
 (hsz:items.size<=sizeLine):wpAny (model prog w) A (getItem (.ref t) (.ref sl)) Q E s:=by
 have a:sizeOk (.seq ((items.toList.drop (sIx items.size 0 lo)).take (sIx items.size items.size b-sIx items.size 0 lo)).toArray):=by
  show((items.toList.drop (sIx items.size 0 lo)).take (sIx items.size items.size b-sIx items.size 0 lo)).toArray.size<=sizeLine
  grind
 have p:sIx items.size items.size b<=items.size:=Jy _ _ (To _) b;obtain⟨os,d,e,n⟩:=id k;have f:s.TypeIs (.ref sl) "slice":=⟨os,d,e⟩;unfold getItem
 try with_reducible refine UC ?_
 first|refine KE (Tl ?_)|skip
 refine KE (wpAny_sequenceKey c.typeIs (by decide) ?_);refine KE (UN (name:=Str.ofString "__getitem__") c.typeIs UG
  (Ur UG c.typeIs entry_tuple_getitem ?_ (args_tuple_getitem _ _)))
 show wpAny _ _ (Builtin.Tuple.tupleItemsOf (.ref t) >>= _) _ _ s;refine KE (tupleItemsOf_ c ?_);refine KE (V3 f ?_);rw[Tt (by decide)];refine KE (sliceApplied_gen k pl l ?_);have g:¬((((sIx items.size 0 lo:Nat):Int)==0&&(1:Int)==1&&(sIx items.size items.size b-sIx items.size 0 lo)==items.size)=true):=by grind
 show wpAny _ _ (if(((sIx items.size 0 lo:Nat):Int)==0&&(1:Int)==1&&(sIx items.size items.size b-sIx items.size 0 lo)==items.size)=true then _ else _) _ _ s;rw[TC g,BB]
 first
  |exact KE (m:=Builtin.Tuple.tupleExact _) (Uo (Tl ⟨_,rfl,Tl h⟩) a)
  |exact KE (m:=Builtin.Tuple.tupleExact _) (Uo (KE (Tl (Tl ⟨_,rfl,Tl h⟩))) a)
  |exact KE (KE (m:=Builtin.Tuple.tupleExact _) (Uo (Tl (Tl ⟨_,rfl,Tl h⟩)) a))
  |exact KE (KE (m:=Builtin.Tuple.tupleExact _) (Uo (Tl ⟨_,rfl,Tl h⟩) a))
end
end HT
namespace L2
open PySem PySem.Spec PyProof.Rows
abbrev TO:=St->Hp->(Option Int->Hp->Prop)->Prop
def PO(X:Cx)(e:Option Expr)(t:TO):Prop:=
 ∀(ac:List (Addr×Obj))(s:Xo)(σ:St)(H:Hp)(Q:Option Int->Hp->Prop),Inv X ac σ H s->t σ H Q->
  wpAny (model X.prog X.w) X.A (evalPart e X.env) (λu a=>∃o H',Inv X ac σ H' a/\IsPart u o/\Q o H') X.xe s
def Fz:TO:=λ_ H Q=>Q none H
def BC(t:TE):TO:=λσ H Q=>t σ H λx a=>∃i,x=.int i/\Q (some i) a
section
variable{X:Cx}{e:Expr}{te:TE}{lo hi:Option Expr}{tl th:TO}{pos p2:Pos}
def FA:PO X none Fz:=by intro ac s σ H Q I h;rw[evalPart_none];exact Tl ⟨none,H,I,.none,h⟩
def su(h:PE X e te):PO X (some e) (BC te):=by intro ac s σ H Q I a;rw[evalPart_some];refine cj (h ac s σ H _ I a) λu s1 ⟨x,b,c,d,q1⟩=>?_;obtain⟨i,rfl,q⟩:=q1;obtain⟨t,rfl⟩:=d;exact⟨some i,b,c,.int i t,q⟩
def SlR(X:Cx)(r:V->Option Int->Option Int->Hp->VK->Prop):Prop:=
 ∀(ac:List (Addr×Obj))(s:Xo)(σ:St)(H:Hp)(x:V)(v a b:Xr)(lo hi:Option Int)(sl:Addr)(Q:VK),Inv X ac σ H s->RelV x v->s.heap.IsSliceOf sl a b .none->IsPart a lo->IsPart b hi->r x lo hi H Q->
  ∃T id,typeLookup (.type T) "__getitem__"=pure (some (.builtin id))/\s.TypeIs v T/\wpAny (model X.prog X.w) X.A (getItem v (.ref sl)) (EP X ac σ Q) X.xe s
def SlR.or(h:SlR X r)(h':SlR X r'):SlR X (λx lo hi H Q=>r x lo hi H Q\/r' x lo hi H Q):=by
 intro ac s σ H x v a b lo hi sl Q I c d pl f q;rcases q with q|q
 .exact h ac s σ H x v a b lo hi sl Q I c d pl f q
 .exact h' ac s σ H x v a b lo hi sl Q I c d pl f q
def R9(r:V->Option Int->Option Int->Hp->VK->Prop)(te:TE)(tl th:TO):TE:=λσ H Q=>te σ H λx a=>tl σ a λl b=>th σ b λu c=>r x l u c Q
def uG(f:SlR X r)(g:PE X e te)(i:PO X lo tl)(j:PO X hi th):PE X (.Subscript e (.Slice lo hi none p2) pos) (R9 r te tl th):=by intro ac s σ H Q I h;refine Subscript_ (cj (g ac s σ H _ I h) λv s1 ⟨x,k,m,n,q1⟩=>?_);refine wpAny_Slice (cj (i ac s1 σ k _ m q1) λc s2 ⟨l,o,p,pl,q2⟩=>cj (j ac s2 σ o _ p q2) λvu a ⟨u,d,t,w,y⟩=>?_);rw[evalPart_none];refine Tl ?_;have z:Inv X ac σ d { a with heap:=a.heap.push { cls:=.type "slice",data:=.fields #[c,vu,.none] } }:=t.kept (t':=a.toks) λb ob q=>Tn _ q;obtain⟨T,id,A,B,C⟩:=f ac { a with heap:=a.heap.push { cls:=.type "slice",data:=.fields #[c,vu,.none] } } σ d x v c vu l u a.heap.objs.size Q z n (Heap.IsSliceOf.new ..) pl w y;show wX X (subscriptTail e (.Slice lo hi none p2) v (.ref a.heap.objs.size)) (EP X ac σ Q) X.xe { a with heap:=a.heap.push { cls:=.type "slice",data:=.fields #[c,vu,.none] } };exact tail_any (ops:=[.ref a.heap.objs.size,v]) B A C (by with_unfolding_all rfl)
def sv(xs:List V)(lo hi:Option Int):List V:=(xs.drop (HT.sIx xs.length 0 lo)).take (HT.sIx xs.length xs.length hi-HT.sIx xs.length 0 lo)
theorem m8(xs:List V)(lo hi:Option Int):(sv xs lo hi).length<=xs.length:=by unfold sv;rw[Uz,Wj];lia
def Qu(K:Xp):V->Option Int->Option Int->Hp->VK->Prop:=λx lo hi H Q=>∃a xs,x=.ref a/\SqT K H a xs/\
 ¬(HT.sIx xs.length 0 lo=0/\HT.sIx xs.length xs.length hi=xs.length)/\∀p,H p=none->Q (.ref p) (upd H p (.tup (sv xs lo hi)))
theorem sl_tup:SlR X (Qu X.K):=by
 intro ac s σ H x v l m lo hi sl Q I f g pl i h;obtain⟨a,xs,rfl,j,k,q⟩:=h;cases f;obtain⟨its,r,d,hz⟩:=I.tuple j;have c:its.toArray.size=xs.length:=by rw[TB];exact r.length.symm
 refine⟨"tuple",_,UG.lookup,d.typeIs,?_⟩;refine HT.getItem_tuple_cut d g pl i (by rw[c];exact k) ?_ (by rw[c];exact hz);rw[c];refine⟨.ref s.heap.objs.size,_,I.laid (t':=s.toks) (o:=.tup (sv xs lo hi)) (λb ob q=>Tn _ q) (To _) ?_,rfl,q _ (I.aW.fresh (To _))⟩;exact⟨T6 (m8 xs lo hi) hz,_,(r.drop (HT.sIx xs.length 0 lo)).take (HT.sIx xs.length xs.length hi-HT.sIx xs.length 0 lo),IsTup.new _ _⟩
def MT(K:Xp):R2:=λx y H Q=>∃a b xs c,x=.ref a/\y=.ref b/\SqT K H a xs/\SqT K H b c/\xs≠[]/\xs.length+c.length<=sizeLine/\
 (c=[]->Q (.ref a) H)/\(c≠[]->∀p,H p=none->Q (.ref p) (upd H p (.tup (xs++c))))
def Vals.ut(r:Vals xs us):us=[]↔xs=[]:=by
 cases r with
 |nil=>simp
 |cons _ _=>simp
theorem op_catT:OpR X (binaryOp .Add) (MT X.K):=by intro ac s σ H x y v u Q I g i h;obtain⟨a,b,xs,j,rfl,rfl,ha,hb,k,hz,q1,q2⟩:=h;cases g;cases i;obtain⟨its,d,p1,_⟩:=I.tuple ha;obtain⟨f,c,p2,_⟩:=I.tuple hb;refine HT.cat_tup p1 p2 (λz=>k (d.ut.mp z)) (λz=>⟨.ref a,H,I,rfl,q1 (c.ut.mp z)⟩) (λz=>?_) (by rw[<- d.length,<- c.length];exact hz);refine⟨.ref s.heap.objs.size,_,I.laid (t':=s.toks) (o:=.tup (xs++j)) (λb ob q=>Tn _ q) (To _) ?_,rfl,q2 (λw=>z (c.ut.mpr w)) _ (I.aW.fresh (To _))⟩;exact⟨by rw[TU];exact hz,_,d.append c,IsTup.new _ _⟩
end
def zQ(n:Nat)(i:Int):Option Nat:=if 0<=i then(if i<n then some i.toNat else none)else if -(n:Int)<=i then some (i+n).toNat else none
def eU{α:Type}(xs:List α)(i:Int):Option α:=(zQ xs.length i).bind λj=>xs[j]?
def FC(h:zQ n i=some j):seqIndex? i n=some j/\j<n/\-(n:Int)<=i/\i<n:=by
 unfold zQ at h;by_cases h0:0<=i
 .rw[Tt h0]at h;by_cases h1:i<n
  .rw[Tt h1]at h;have e:i.toNat=j:=Um h;exact⟨by rw[seqIndex_of h0 h1,e],by lia,by lia,h1⟩
  .rw[TC h1]at h;cases h
 .rw[TC h0]at h;by_cases h1:-(n:Int)<=i
  .rw[Tt h1]at h;have e:(i+n).toNat=j:=Um h;exact⟨by rw[seqIndex_neg (by lia) h1,e],by lia,h1,by lia⟩
  .rw[TC h1]at h;cases h
def sw{α:Type}{xs:List α}{i:Int}{v:α}(h:eU xs i=some v):∃j,seqIndex? i xs.length=some j/\xs[j]?=some v/\j<xs.length/\-(xs.length:Int)<=i/\i<xs.length:=by
 unfold eU at h;cases e:zQ xs.length i with
 |none=>rw[e]at h;cases h
 |some j=>rw[e]at h;obtain⟨h1,h2,a,b⟩:=FC e;exact⟨j,h1,h,h2,a,b⟩
def gp{α:Type}{xs:List α}{j:Nat}{v:α}(h:xs[j]?=some v):eU xs (j:Int)=some v:=by grind [zQ,eU]
def sA(b:Expr):Prop:=∀o i,subscripted b false o i=operate [o,i] (getItem o i)
def IxR(X:Cx)(r:R2):Prop:=
 ∀(b a:Expr)(ac:List (Addr×Obj))(s:Xo)(σ:St)(H:Hp)(x y:V)(v u:Xr)(Q:VK),Inv X ac σ H s->RelV x v->RelV y u->r x y H Q->
  subscripted a false v u=operate [v,u] (getItem v u)->wpAny (model X.prog X.w) X.A (subscriptTail b a v u) (EP X ac σ Q) X.xe s
def HZ(X:Cx)(id:String)(r:V->List V->Hp->VK->Prop):Prop:=
 ∀(ac:List (Addr×Obj))(s:Xo)(σ:St)(H:Hp)(x:V)(xs:List V)(v:Xr)(us:List Xr)(Q:VK),Inv X ac σ H s->RelV x v->Vals xs us->r x xs H Q->
  wpAny (model X.prog X.w) X.A (call (.builtin id) (v::us)) (EP X ac σ Q) X.xe s
section
variable{X:Cx}
def IxR.or(h:IxR X r)(h':IxR X r'):IxR X (λx y H Q=>r x y H Q\/r' x y H Q):=by
 intro a b ac s σ H x y v u Q I c d q e;rcases q with q|q
 .exact h a b ac s σ H x y v u Q I c d q e
 .exact h' a b ac s σ H x y v u Q I c d q e
def aY(c:IxR X r)(ha:PE X a ta)(hb:PE X b tb)(d:sA b):PE X (.Subscript a b pos) (cY r ta tb):=by intro ac s σ H Q I h;exact Subscript_ (Jq ha hb I h λv u s2 x y e f g i q=>c a b ac s2 σ e x y v u Q f g i q (d _ _))
def BD(K:Xp):R2:=λx y H Q=>∃p xs i v,x=.ref p/\y=.int i/\SqL K H p xs/\eU xs i=some v/\Q v H
def nE(K:Xp):R2:=λx y H Q=>∃p xs i v,x=.ref p/\y=.int i/\SqT K H p xs/\eU xs i=some v/\Q v H
def MU:R2:=λx y H Q=>∃z i c,x=.str z/\y=.int i/\z.length<=sizeLine/\eU z.cps.toList i=some c/\Q (.str ⟨#[c]⟩) H
def ix_list:IxR X (BD X.K):=by
 intro b c ac s σ H x y v u Q I k l h f;obtain⟨p,xs,i,z,rfl,rfl,m,n,q⟩:=h;cases k;obtain⟨t,rfl⟩:=l;obtain⟨its,r,pl,hz⟩:=I.list m;obtain⟨j,h1,h2,D,o,A⟩:=sw n;obtain⟨w,g,d⟩:=r.get h2;have B:=r.length;have E:=mr;have a:EP X ac σ Q w s:=⟨z,H,I,d,q⟩;by_cases h0:0<=i
 .have e:i.toNat=j:=by rw[seqIndex_of h0 A]at h1;exact Um h1
  exact item_listR pl.isList h0 (by lia) (by rw[e];simpa using g) a f
 .have e:(i+(its.toArray.size:Int)).toNat=j:=by rw[seqIndex_neg (by lia) o]at h1;rw[TB,<- B];exact Um h1
  exact subscriptTail_builtinR (x:=w) pl.isList.typeIs slot_list_getitem.lookup
   (wpAny_getItem_list_neg (Q:=λr C=>r=w/\EP X ac σ Q r C) pl.isList (by lia) (by rw[TB]<;>lia) (by lia) (by rw[e];simpa using g) ⟨rfl,a⟩) f
def ix_tup:IxR X (nE X.K):=by
 intro a b ac s σ H x y v u Q I e f h g;obtain⟨p,xs,i,z,rfl,rfl,k,l,q⟩:=h;cases e;obtain⟨t,rfl⟩:=f;obtain⟨its,r,pl,hz⟩:=I.tuple k;obtain⟨j,h1,h2,A,B,C⟩:=sw l;obtain⟨w,m,c⟩:=r.get h2;have n:=r.length;have D:=mr;have d:EP X ac σ Q w s:=⟨z,H,I,c,q⟩;exact subscriptTail_builtinR (x:=w) pl.typeIs slot_tuple_getitem.lookup
  (getItem_tuple (j:=j) (Q:=λr o=>r=w/\EP X ac σ Q r o) pl (by lia) (by lia) (by rw[TB,<- n];exact h1) (by simpa using m) ⟨rfl,d⟩) g
def Jz:IxR X MU:=by
 intro a b ac s σ H x y v u Q I d e h f;obtain⟨z,i,c,rfl,rfl,hz,g,q⟩:=h;obtain⟨t,rfl⟩:=d;obtain⟨t',rfl⟩:=e;obtain⟨j,h1,h2,n,k,l⟩:=sw g;have m:z.cps.toList.length=z.length:=by simp[Str.length]
 rw[m]at h1 k l;have o:=mr;exact tail_any (typeIs_str s z t) slot_str_getitem.lookup (getItem_str (c:=c) (by have e1:decide (i < -(2^63:Int))=false:=Uw (by lia);have e2:decide (i>=2^63)=false:=Uw (by lia);rw[e1,e2,Bool.or_false]) (by rw[h1];simpa using h2) ⟨.str ⟨#[c]⟩,H,I.tok _,⟨_,rfl⟩,q⟩) f
def SJ(K:Xp):R2:=λx y H Q=>BD K x y H Q\/nE K x y H Q\/MU x y H Q
def JA:IxR X (SJ X.K):=ix_list.or (ix_tup.or Jz)
def sC(lo a:Option Int)(n:Nat):(sliceBounds lo a none n).1=((HT.sIx n 0 lo:Nat):Int)/\(sliceBounds lo a none n).2.1=((HT.sIx n n a:Nat):Int)/\(sliceBounds lo a none n).2.2=1:=by
 refine⟨?_,?_,rfl⟩
 .cases lo with
  |none=>simp[sliceBounds,HT.sIx]
  |some i=>
   simp only[sliceBounds,HT.sIx,Option.getD_none,show(1:Int)>0 by decide,VW]
   grind
 .cases a with
  |none=>simp[sliceBounds,HT.sIx]
  |some i=>
   simp only[sliceBounds,HT.sIx,Option.getD_none,show(1:Int)>0 by decide,VW]
   grind
def qw(its:List Xr)(lo a:Option Int):slicePick its.toArray lo a none=((its.drop (HT.sIx its.length 0 lo)).take (HT.sIx its.length its.length a-HT.sIx its.length 0 lo)).toArray:=by obtain⟨h1,h2,b⟩:=sC lo a its.toArray.size;unfold slicePick;rw[h1,h2,b];simp only[sliceRange_one,pick_run,TB]<;>rfl
def MV(K:Xp):V->Option Int->Option Int->Hp->VK->Prop:=λx lo b H Q=>∃a xs,x=.ref a/\SqL K H a xs/\∀p,H p=none->Q (.ref p) (upd H p (.lst (sv xs lo b)))
def sl_list:SlR X (MV X.K):=by intro ac s σ H x v k l lo c sl Q I e f pl g h;obtain⟨a,xs,rfl,i,q⟩:=h;cases e;obtain⟨its,r,d,hz⟩:=I.list i;have j:=r.length;refine⟨"list",_,slot_list_getitem.lookup,d.isList.typeIs,?_⟩;refine wpAny_getItem_list_slice d.isList f pl g .none (by simp) ?_ (by rw[TB]<;>lia);rw[qw,<- j];refine⟨.ref s.heap.objs.size,_,I.laid (t':=s.toks) (o:=.lst (sv xs lo c)) (λb ob q=>Tn _ q) (To _) ?_,rfl,q _ (I.aW.fresh (To _))⟩;exact⟨T6 (m8 xs lo c) hz,_,0,(r.drop (HT.sIx xs.length 0 lo)).take (HT.sIx xs.length xs.length c-HT.sIx xs.length 0 lo),Tv _ rfl⟩
def call_len_seq:CallR X (.builtin "len") (λxs H Q=>∃p a,xs=[.ref p]/\(SqL X.K H p a\/SqT X.K H p a)/\Q (.int a.length) H):=by
 intro ac s σ H xs us Q I r h;obtain⟨p,a,rfl,hq,q⟩:=h;obtain⟨u,rfl,d⟩:=fK r;cases d;have e:=mr;rcases hq with hq|hq
 .obtain⟨its,b,pl,hz⟩:=I.list hq;have c:=b.length;exact Calls.call_len_list pl.isList (by simp only[TB]<;>lia) ⟨.int a.length,H,I.tok _,⟨s.toks+1,by rw[TB,c]⟩,q⟩
 .obtain⟨its,b,pl,hz⟩:=I.tuple hq;have c:=b.length;exact len_tuple pl (by simp only[TB]<;>lia) ⟨.int a.length,H,I.tok _,⟨s.toks+1,by rw[TB,c]⟩,q⟩
def sD:CallR X (.builtin "len") (λxs H Q=>∃z,xs=[.str z]/\z.length<=sizeLine/\Q (.int z.length) H):=by intro ac s σ H xs us Q I r h;obtain⟨z,rfl,hz,q⟩:=h;obtain⟨u,rfl,t,rfl⟩:=fK r;have a:=mr;exact len_str (by lia) ⟨.int z.length,H,I.tok _,⟨_,rfl⟩,q⟩
def CallR.or(h:CallR X f r)(h':CallR X f r'):CallR X f (λxs H Q=>r xs H Q\/r' xs H Q):=by
 intro ac s σ H xs us Q I rs q;rcases q with q|q
 .exact h ac s σ H xs us Q I rs q
 .exact h' ac s σ H xs us Q I rs q
def lh:CallR X (.type "list") (λxs H Q=>∃p a,xs=[.ref p]/\(SqL X.K H p a\/SqT X.K H p a)/\∀l,H l=none->Q (.ref l) (upd H l (.lst a))):=by
 intro ac s σ H xs us Q I r h;obtain⟨p,a,rfl,hq,q⟩:=h;obtain⟨u,rfl,j⟩:=fK r;cases j;have f:∀(its:List Xr),Vals a its->a.length<=sizeLine->∀(h':Heap)(c:Nat),(∀b i,s.heap.get? b=some i->h'.get? b=some i)->
  h'.get? s.heap.objs.size=some { cls:=.type "list",dict:=none,data:=.seq its.toArray c,slots:=#[] }->EP X ac σ Q (.ref s.heap.objs.size) {s with heap:=h'}:=λits d hz h' c kp e=>
  ⟨.ref s.heap.objs.size,_,I.laid (t':=s.toks) kp (To _) (show ObjOk X.prog X.w _ h' _ (.lst a)from⟨hz,its,c,d,e⟩),rfl,q _ (I.aW.fresh (To _))⟩
 rcases hq with hq|hq
 .obtain⟨its,d,pl,hz⟩:=I.list hq;have k:=d.length;obtain⟨o,g,hc,n,hd⟩:=pl.isList;exact call_list_seq p (.inl rfl) g hc hd (λh' c kp e=>f its d hz h' c kp e) (by simp only[TB]<;>lia)
 .obtain⟨its,d,pl,hz⟩:=I.tuple hq;have k:=d.length;obtain⟨o,g,hc,n,hd⟩:=pl;exact call_list_seq p (.inr rfl) g hc hd (λh' c kp e=>f its d hz h' c kp e) (by simp only[TB]<;>lia)
def MW(K:Xp)(T:String)(x:V)(H:Hp):Prop:=match x with
 |.str _=>T="str"
 |.int _=>T="int"
 |.ref p=>(T="list"/\∃xs,SqL K H p xs)\/(T="tuple"/\∃o,K.lookup p=some o/\o.cls=.type "tuple"/\o.dict=none)\/
  (T="dict"/\((∃kvs,H p=some (.dK kvs))\/∃kvs,H p=some (.dT kvs)))\/(T="set"/\∃S n,H p=some (.set S n))
 |_=>False
def BE(I:Inv X ac σ H s)(r:RelV x v)(ty:MW X.K T x H) :
 s.TypeIs v T/\∀a,v=.ref a->∃ob,s.heap.get? a=some ob/\ob.dict=none:=by
 cases x with
 |str z=>obtain⟨t,rfl⟩:=r;cases(show T="str" from ty);exact⟨typeIs_str s z t,λ_ e=>nomatch e⟩
 |int i=>obtain⟨t,rfl⟩:=r;cases(show T="int" from ty);exact⟨typeIs_int s i t,λ_ e=>nomatch e⟩
 |ref p=>
  cases r;rcases ty with⟨rfl,xs,d⟩|⟨rfl,o,b,hc,hd⟩|⟨rfl,b⟩|⟨rfl,S,n,b⟩
  .obtain⟨its,_,pl,_⟩:=I.list d;refine⟨pl.isList.typeIs,λa e=>?_⟩;cases e;obtain⟨o,n,e,c,hd,_⟩:=pl;exact⟨o,e,hd⟩
  .refine⟨⟨o,I.mZ p o b,hc⟩,λa e=>?_⟩;cases e;exact⟨o,I.mZ _ o b,hd⟩
  .have z:∃o,s.heap.get? p=some o/\o.ExactDict:=by
    rcases b with⟨kvs,b⟩|⟨kvs,b⟩
    .obtain⟨_,_,_,_,o,_,_,e,ex,_⟩:=I.aW p _ b;exact⟨o,e,ex⟩
    .obtain⟨_,_,_,_,o,_,_,e,ex,_⟩:=I.aW p _ b;exact⟨o,e,ex⟩
   obtain⟨o,e,ex⟩:=z;refine⟨⟨o,e,ex.1⟩,λa e2=>?_⟩;cases e2;exact⟨o,e,ex.2.1⟩
  .obtain⟨o,_,_,_,e,ex,_⟩:=I.aW p _ b;refine⟨⟨o,e,ex.1⟩,λa e2=>?_⟩;cases e2;exact⟨o,e,ex.2.1⟩
 |_=>exact False.elim ty
def FD(K:Xp)(T:String)(r:V->List V->Hp->VK->Prop)(to:TE):TE:=λσ H Q=>to σ H λx a=>MW K T x a/\r x [] a Q
def EU(K:Xp)(T:String)(r:V->List V->Hp->VK->Prop)(to:TE)(t:TA):TE:=λσ H Q=>to σ H λx a=>MW K T x a/\t σ a λxs b=>r x xs b Q
variable{o e:Expr}{es:List Expr}{to:TE}{t:TA}{name:Str}{apos cpos:Pos}{T id:String}{r:V->List V->Hp->VK->Prop}
def wI(g:PlainAttrs T)(slot:Slot T name id)(c:typeOf (.builtin id)=pure (.type "method_descriptor")) (i:HZ X id r) (j:PE X o to)
 (a:autoParam (attributeBase o name X.env (eval o X.env)=eval o X.env) aM) (b:autoParam ((apos.endLine==cpos.line)=true) aM):PE X (.Call (.Attribute o name apos) [] [] cpos) (FD X.K T r to):=by
 intro ac s σ H Q I h;refine wpAny_Call_method0_late a b (cj (j ac s σ H _ I h) λv s1 ⟨x,k,d,f,ty,q1⟩=>?_);obtain⟨h1,h2⟩:=BE d f ty;exact⟨T,id,g,slot,c,h1,h2,Vc rfl (PySem.evalArgs_none (i ac s1 σ k x [] v [] Q d f .nil q1))⟩
theorem fM(k:PlainAttrs T)(slot:Slot T name id)(f:typeOf (.builtin id)=pure (.type "method_descriptor")) (l:HZ X id r) (m:PE X o to) (ha:PA X (e::es) t)
 (b:autoParam (attributeBase o name X.env (eval o X.env)=eval o X.env) aM)
 (d:autoParam (((backTo cpos (starEach (e::es) X.env)).all (λx=>!x.1)&&(backToKw cpos (keywordEach [] X.env)).all (λx=>x.1.isSome)
   && decide ((e::es).length+([]:List Keyword).length+(if([]:List Keyword).isEmpty then 0 else 1)<30))=true) aM)
 (c:autoParam ((apos.endLine==cpos.line)=true) aM) (n:autoParam (starEach (e::es) X.env=(false,eval e X.env)::starEach es X.env) aM) (a:autoParam (bT X cpos es) aM) :
 PE X (.Call (.Attribute o name apos) (e::es) [] cpos) (EU X.K T r to t):=by
 intro ac s σ H Q I h;refine wpAny_Call_method_late b d c rfl (cj (m ac s σ H _ I h) λv s1 ⟨x,p,g,i,ty,q1⟩=>?_);obtain⟨h1,h2⟩:=BE g i ty;refine⟨T,id,k,slot,f,h1,h2,?_⟩;have j:=ha cpos ac s1 σ p _ g q1;rw[n]at j ⊢;refine Vc (by show(false ||(backTo cpos (starEach es X.env)).any (·.1))=false;rw[a]<;>rfl) (Wb ?_);exact cj j λus s2 ⟨vs,q,u,w,q2⟩=>l ac s2 σ q x vs v us Q u i w q2
end
def R_(X:Cx)(id:String)(r:V->List V->Hp->VK->Prop):Prop:=
 ∀(ac:List (Addr×Obj))(s:Xo)(σ:St)(H:Hp)(x:V)(xs:List V)(v:Xr)(us:List Xr)(Q:VK),Inv X ac σ H s->RelV x v->Vals xs us->r x xs H Q->
  wpAny (model X.prog X.w) X.A (call (.builtin id) (v::us)) (EP X ac σ Q) X.xe s
def Vals.one{x:V}{us:List Xr}(h:Vals [x] us):∃u,us=[u]/\RelV x u:=fK h
def Vals.zero:∀{us:List Xr},Vals [] us->us=[]
 |_,.nil=>rfl
section
def Inv.Py{its its':List Xr}{f:Array Xr->Array Xr}(I:Inv X ac σ H s)(a:H l=some (.lst xs))
 (e:s.heap.get? l=some { cls:=.type "list",data:=.seq its.toArray n }) (b:f its.toArray=its'.toArray) (c:Vals ys its') (hz:ys.length<=sizeLine) :
 Inv X ac σ (upd H l (.lst ys)) {s with heap:=s.heap.update l (Obj.mapSeq f),toks:=t'}:=by
 have q:=PySem.IsL.update e f;rw[b]at q;refine I.write (x:=l) (e:=l) (by rw[a];exact trivial) (.inl rfl) (λg u hb d=>(VA s.heap (Obj.mapSeq f) (UD hb)).trans d) ⟨_,q⟩ ?_;exact⟨hz,its',_,c,q⟩
def Inv.Ps(I:Inv X ac σ H s)(a:Vals ys its)(hz:ys.length<=sizeLine) :
 Inv X ac σ (upd H s.heap.objs.size (.lst ys)) { s with heap:=s.heap.push { cls:=.type "list",data:=.seq its.toArray },toks:=t' }:=
 I.laid (λ_ _ q=>Tn _ q) (To _) ⟨hz,its,0,a,Tv _ rfl⟩
theorem Inv.fresh(I:Inv X ac σ H s):H s.heap.objs.size=none:=I.aW.fresh (To _)
def Inv.EF(I:Inv X ac σ H s)(a:H l=some (.lst xs)):xs.length<=sizeLine/\∃(its:List Xr)(n:Nat),Vals xs its/\xs.length=its.length/\s.heap.get? l=some { cls:=.type "list",data:=.seq its.toArray n }:=by obtain⟨z,its,n,r,e⟩:=I.aW l _ a;exact⟨z,its,n,r,r.length,e⟩
def BF(h:n<=sizeLine):Builtin.List.listTooLong n=false:=by unfold Builtin.List.listTooLong;exact Uw (by lia)
end
section
def gq:V->List V->Hp->VK->Prop:=λx vs H Q=>∃l xs y,x=.ref l/\vs=[y]/\H l=some (.lst xs)/\xs.length<sizeLine/\Q .bp (upd H l (.lst (xs++[y])))
def cL:R_ X "list.append" gq:=by intro ac s σ H x vs v us Q I b c h;obtain⟨l,xs,y,rfl,rfl,a,hz,q⟩:=h;cases b;obtain⟨u,rfl,ru⟩:=c.one;obtain⟨z,its,n,r,d,e⟩:=I.EF a;refine call_meets F.slot_list_append ⟨_,e,rfl⟩ F.entry_list_append (F.args_list_append_2 _ _) (PySem.list_append l its.toArray n u (by rw[TB];lia)) ⟨e,?_⟩;refine⟨.bp,_,I.Py (its':=its++[u]) a e (by simp) (r.append (.cons ru .nil)) ?_,rfl,q⟩;rw[TU,Vk];lia
def yC:V->List V->Hp->VK->Prop:=λx vs H Q=>∃l b xs zs,x=.ref l/\vs=[.ref b]/\H l=some (.lst xs)/\H b=some (.lst zs)/\xs.length+zs.length<=sizeLine/\Q .bp (upd H l (.lst (xs++zs)))
def zR:R_ X "list.extend" yC:=by
 intro ac s σ H x vs v us Q I f g h;obtain⟨l,b,xs,zs,rfl,rfl,d,i,hz,q⟩:=h;cases f;obtain⟨u,rfl,ru⟩:=g.one;cases ru;obtain⟨z,its,n,r,o,e⟩:=I.EF d;obtain⟨p,a,j,k,m,e2⟩:=I.EF i;have hsz:its.toArray.size+a.toArray.size<=sizeLine:=by rw[TB,TB];lia
 have c:¬(!its.toArray.isEmpty&&Builtin.List.listTooLong (its.toArray.size+a.toArray.size))=true:=by rw[BF hsz,Xa];exact T9
 refine call_meets F.slot_list_extend ⟨_,e,rfl⟩ F.entry_list_extend (F.args_list_extend_2 _ _)
  (AutoSeq1.list_extend_list_list_0 l its.toArray n b a.toArray j c (by rw[TB];lia) (by lia)) ⟨e,e2,?_⟩
 refine⟨.bp,_,I.Py (its':=its++a) d e (by simp) (r.append k) ?_,rfl,q⟩;rw[TU];lia
def BH:R2:=λx y H Q=>∃l b xs zs,x=.ref l/\y=.ref b/\H l=some (.lst xs)/\H b=some (.lst zs)/\xs.length+zs.length<=sizeLine/\∀p,H p=none->Q (.ref p) (upd H p (.lst (xs++zs)))
def wJ:OpR X (binaryOp .Add) BH:=by
 intro ac s σ H x y v u Q I c d h;obtain⟨l,b,xs,zs,rfl,rfl,f,g,hz,q⟩:=h;cases c;cases d;obtain⟨z,its,n,r,m,e⟩:=I.EF f;obtain⟨o,a,p,i,j,e2⟩:=I.EF g;refine PySem.P.add_list e e2 ?_ (by rw[TB,TB];lia);have k:its.toArray++a.toArray=(its++a).toArray:=by simp
 rw[k];exact⟨.ref _,_,I.Ps (t':=s.toks) (r.append i) (by rw[TU];lia),rfl,q _ I.fresh⟩
end
section
variable{κ:Type}[DecidableEq κ]
def c9(kvs:List (κ×V))(k:κ):Option V:=(kvs.find? λkv=>decide (kv.1=k)).map (·.2)
def bW(kvs:List (κ×V))(k:κ)(v:V):List (κ×V):=if(kvs.any λkv=>decide (kv.1=k))=true then kvs.map (λkv=>if kv.1=k then(kv.1,v)else kv)else kvs++[(k,v)]
def ku(kvs:List (κ×V))(k:κ):List (κ×V):=kvs.filter λkv=>decide (kv.1≠k)
def hI{p:κ×V}(e:p.1=k):c9 (p::r) k=some p.2:=by simp[c9,Vy,e]
def hJ{p:κ×V}(e:¬p.1=k):c9 (p::r) k=c9 r k:=by simp[c9,Vy,e]
theorem jp(k:κ):∀kvs:List (κ×V),(kvs.any λkv=>decide (kv.1=k))=(c9 kvs k).isSome
 |[]=>rfl
 |p::r=>by
  rw[VQ];by_cases e:p.1=k
  .simp only[hI e,TZ e,Bool.true_or,Option.isSome_some]
  .rw[hJ e,Uw e,Bool.false_or];exact jp k r
def eM(kvs:List (κ×V))(k:κ)(v:V):(bW kvs k v).length<=kvs.length+1:=by grind [bW]
def jq{kvs:List (κ×V)}(v:V)(h:c9 kvs k=none):bW kvs k v=kvs++[(k,v)]:=by unfold bW;rw[jp,h];exact TC (by decide)
def RelO.fJ(r:RelO o u):o.isSome=u.isSome:=by
 cases o with
 |none=>cases u with
  |none=>rfl
  |some _=>exact(show False from r).elim
 |some _=>cases u with
  |none=>exact(show False from r).elim
  |some _=>rfl
theorem RelO.getD(r:RelO o u)(rd:RelV d d'):RelV (o.getD d) (u.getD d'):=by
 cases o with
 |none=>cases u with
  |none=>exact rd
  |some _=>exact(show False from r).elim
 |some _=>cases u with
  |none=>exact(show False from r).elim
  |some _=>exact r
def KV.val{kvs:List (κ×V)}(r:KV kvs vs)(k:κ):RelO (c9 kvs k) (valueAt vs k):=by
 unfold KV at r;induction r with
 |nil=>exact True.intro
 |@cons p q ps a h t d=>
  obtain⟨h1,h2⟩:=h;by_cases e:p.1=k
  .have c:q.1=k:=h1.symm.trans e;have b:valueAt (q::a) k=some q.2:=by simp[valueAt,Vy,c]
   rw[hI e,b];exact h2
  .have c:¬q.1=k:=λz=>e (h1.trans z);have b:valueAt (q::a) k=valueAt a k:=by simp[valueAt,Vy,c]
   rw[hJ e,b];exact d
theorem KV.any(r:KV kvs vs)(k:κ):(kvs.any λkv=>decide (kv.1=k))=vs.any λkv=>decide (kv.1=k):=by
 unfold KV at r;induction r with
 |nil=>rfl
 |cons h t a=>rw[VQ,VQ,a,h.1]
def KV.EJ(r:KV kvs vs)(k:κ)(b:RelV y u) :
 KV (kvs.map λkv=>if kv.1=k then(kv.1,y)else kv) (vs.map λkv=>if kv.1=k then(kv.1,u)else kv):=by
 unfold KV at r ⊢;induction r with
 |nil=>exact .nil
 |@cons p q ps c h t a=>
  rw[TJ,TJ];refine .cons ?_ a
  grind
def KV.put(r:KV kvs vs)(k:κ)(a:RelV y u):KV (bW kvs k y) (stored vs k u):=by
 unfold bW stored;rw[r.any k];by_cases e:(vs.any λkv=>decide (kv.1=k))=true
 .rw[Tt e,Tt e];exact r.EJ k a
 .rw[TC e,TC e];exact Paired.snoc r ⟨rfl,a⟩
theorem KV.drop(r:KV kvs vs)(k:κ):KV (ku kvs k) (without vs k):=by
 unfold KV at r ⊢;unfold ku without;induction r with
 |nil=>exact .nil
 |@cons p q ps f h t c=>
  obtain⟨h1,h2⟩:=h;rw[VC,VC];by_cases e:p.1=k
  .grind
  .have d:¬q.1=k:=λz=>e (h1.trans z);have a:decide (p.1≠k)=true:=by simp[e]
   have b:decide (q.1≠k)=true:=by simp[d]
   rw[Tt a,Tt b];exact .cons ⟨h1,h2⟩ c
theorem KV.length(r:KV kvs vs):kvs.length=vs.length:=U7 r
def BI(kvs:List (κ×V))(k:κ):(ku kvs k).length<=kvs.length:=WI _ _
end
def li(r:RelV (kV k) u):(aK P w).is k u=true:=by
 cases k with
 |inl i=>obtain⟨t,e⟩:=(show ∃t,u=Value.int i t from r);subst e;exact uw P w i t
 |inr x=>obtain⟨t,e⟩:=(show ∃t,u=Value.str x t from r);subst e;exact ux P w x t
theorem qS:∀{ks:List bv}{us:List Xr},Vals (ks.map kV) us->ItemsAre (aK P w) ks us
 |[],_,r=>by rw[Wp]at r;cases r;exact .nil
 |k::ks,_,r=>by
  rw[TJ]at r;cases r with
  |cons h t=>exact .cons (li h) (qS t)
abbrev KT(H:Hp):List (List bv×V)->List (List bv×Addr×Xr)->Prop:=Paired λp q=>p.1=q.1/\H q.2.1=some (.tup (p.1.map kV))/\RelV p.2 q.2.2
def KT.val{H:Hp}(r:KT H kvs xs)(k:List bv):RelO (c9 kvs k) ((atKey xs k).map (·.2)):=by
 induction r with
 |nil=>exact True.intro
 |@cons p q ps a h t d=>
  obtain⟨h1,_,h2⟩:=h;by_cases e:p.1=k
  .have c:q.1=k:=h1.symm.trans e;have b:atKey (q::a) k=some q.2:=by simp[atKey,Vy,c]
   rw[hI e,b];exact h2
  .have c:¬q.1=k:=λz=>e (h1.trans z);have b:atKey (q::a) k=atKey a k:=by simp[atKey,Vy,c]
   rw[hJ e,b];exact d
def KT.EJ(r:KT H kvs xs)(k:List bv)(b:RelV y u) :
 KT H (kvs.map λkv=>if kv.1=k then(kv.1,y)else kv) (xs.map (putAt k u)):=by
 induction r with
 |nil=>exact .nil
 |@cons p q ps c h t a=>
  rw[TJ,TJ];refine .cons ?_ a;obtain⟨h1,h2,d⟩:=h;unfold putAt
  grind
def KT.put(r:KT H kvs xs)(k:List bv)(hb:H b=some (.tup (k.map kV)))(a:RelV y u) :
 KT H (bW kvs k y) (storedH xs k b u):=by
 have e:(kvs.any λkv=>decide (kv.1=k))=(atKey xs k).isSome:=by rw[jp,(r.val k).fJ,Xd]
 unfold bW storedH;rw[e];by_cases q:(atKey xs k).isSome=true
 .rw[Tt q,Tt q];exact r.EJ k a
 .rw[TC q,TC q];exact Paired.snoc r ⟨rfl,hb,a⟩
def KT.keeps(r:KT H kvs xs)(c:∀b a,H b=some (.tup a)->H' b=some (.tup a)):KT H' kvs xs:=Paired.L_ r λ_ _ z=>⟨z.1,c _ _ z.2.1,z.2.2⟩
section
def H_(ok:HOk P w H h)(e:Rd H a u):ObjOk P w H h a u:=e.ok ok
def jr(ok:HOk P w H h)(e:Rd H a (.dK kvs)):kvs.length<=sizeLine/\(a==sysModules)=false/\∃vs,KV kvs vs/\h.DictOf (aK P w) a vs:=show ObjOk P w H h a (.dK kvs)from H_ ok e
def yD(ok:HOk P w H h)(e:H a=some (.dK kvs)):kvs.length<=sizeLine/\(a==sysModules)=false/\∃vs,KV kvs vs/\h.DictOf (aK P w) a vs:=jr ok (.inl e)
theorem d4(ok:HOk P w H h)(e:H a=some (.tup (ks.map kV))):(tupleKind (aK P w)).is h ks a:=by obtain⟨_,its,r,o,h1,h2,n,b⟩:=(show ObjOk P w H h a (.tup (ks.map kV))from ok a _ e);exact⟨o,its.toArray,n,h1,h2,b,by simpa using qS r⟩
def js(ok:HOk P w H h)(e:Rd H a (.dT kvs)):kvs.length<=sizeLine/\(a==sysModules)=false/\
 ∃xs,KT H kvs xs/\h.DictOfH (tupleKind (aK P w)) a xs:=by
 obtain⟨z,y,xs,r,o,es,ep,h1,h2,c,d,f⟩:=(show ObjOk P w H h a (.dT kvs)from H_ ok e);refine⟨z,y,xs,r,o,es,ep,h1,h2,c,d,λx b=>?_,f⟩;have all:∀{l:List (List bv×V)}{m:List (List bv×Addr×Xr)},KT H l m->∀x∈m,(tupleKind (aK P w)).is h x.1 x.2.1:=by
  intro l m q;induction q with
  |nil=>intro x b;exact nomatch b
  |@cons p q ps g i t j=>grind [d4]
 exact all r x b
def Ia(ok:HOk P w H h)(e:H a=some (.dT kvs)):kvs.length<=sizeLine/\(a==sysModules)=false/\
 ∃xs,KT H kvs xs/\h.DictOfH (tupleKind (aK P w)) a xs:=js ok (.inl e)
end
def DGet(H:Hp)(a:Addr)(y:V)(r:Option V):Prop:=(∃kvs k,Rd H a (.dK kvs)/\y=kV k/\r=c9 kvs k)\/∃kvs k b,Rd H a (.dT kvs)/\y=.ref b/\H b=some (.tup (k.map kV))/\r=c9 kvs k
def DPut(H:Hp)(a:Addr)(y v:V)(H':Hp):Prop:=
 (∃kvs k,H a=some (.dK kvs)/\y=kV k/\kvs.length<sizeLine/\H'=upd H a (.dK (bW kvs k v)))\/
 ∃kvs k b,H a=some (.dT kvs)/\y=.ref b/\H b=some (.tup (k.map kV))/\kvs.length<sizeLine/\H'=upd H a (.dT (bW kvs k v))
def DGet.t{kvs:List (List bv×V)}{k:List bv}(e:H a=some (.dT kvs))(c:H b=some (.tup (k.map kV))):DGet H a (.ref b) (c9 kvs k):=.inr ⟨kvs,k,b,.inl e,rfl,c,rfl⟩
def DPut.t{kvs:List (List bv×V)}{k:List bv}{v:V}(e:H a=some (.dT kvs))(c:H b=some (.tup (k.map kV)))(d:kvs.length<sizeLine) :
 DPut H a (.ref b) v (upd H a (.dT (bW kvs k v))):=.inr ⟨kvs,k,b,e,rfl,c,d,rfl⟩
section
def Inv.big(I:Inv X ac σ H s):sysModules<s.heap.objs.size:=by have h:mainGlobals<s.heap.objs.size:=(I.mod.glob.keeps I.bk).lt;exact Nat.lt_trans (by decide) h
def zS(r:A.units+1<cLine)(I:Inv X ac σ H s)(g:DGet H a y (some v))(n:RelV y u)(h:∀f q,Inv X ac σ H q->RelV v f->Q f q) :
 wpAny (model X.prog X.w) A (getItem (.ref a) u) Q E s:=by
 rcases g with⟨kvs,k,e,i,l⟩|⟨kvs,k,b,e,i,t,l⟩
 .subst i;obtain⟨z,hd,vs,c,dd⟩:=jr I.aW e;obtain⟨f,j,d⟩:=RelO.some_of (v:=v) (o:=valueAt vs k) (by rw[l];exact c.val k);exact wpAny_getItem_of (li n) dd.mapOf j (h f _ (I.tok _) d)
 .subst i;cases(show u=Value.ref b from n);obtain⟨z,hd,xs,c,dd⟩:=js I.aW e;obtain⟨f,j,d⟩:=RelO.some_of (v:=v) (o:=(atKey xs k).map (·.2)) (by rw[l];exact c.val k);obtain⟨p,x,m⟩:=Ux.mp j;refine wpAny_getItem_heap (VE r) (d4 I.aW t) dd x ?_;rw[m];exact h f _ (I.tok _) d
def FE(j:A.units+1<cLine)(I:Inv X ac σ H s)(g:DGet H a y o)(f:RelV y u)(h:∀i,Inv X ac σ H i->Q (.bool (!o.isSome)) i) :
 wpAny (model X.prog X.w) A (compareOp .NotIn u (.ref a)) Q E s:=by
 rcases g with⟨kvs,k,e,d,l⟩|⟨kvs,k,b,e,d,m,l⟩
 .subst d;obtain⟨z,hd,vs,c,dd⟩:=jr I.aW e;refine wpAny_notIn_of (li f) hd dd.mapOf ?_;rw[<- (c.val k).fJ,<- l];exact h _ (I.tok _)
 .subst d;cases(show u=Value.ref b from f);obtain⟨z,hd,xs,c,dd⟩:=js I.aW e;refine wpAny_notIn_heap (VE j) (d4 I.aW m) hd dd ?_;have q:=(c.val k).fJ;rw[Xd]at q;rw[<- q,<- l];exact h _ (I.tok _)
def j3(I:Inv X ac σ H s)(c:Ms (H a))(d:Heap.SameBut a s.heap h')(f:∃q,h'.get? a=some q)(new:ObjOk X.prog X.w (upd H a ob) h' a ob) :
 Inv X ac σ (upd H a ob) {s with heap:=h',toks:=t'}:=
 I.write (x:=a) (e:=a) c (.inl rfl) (λb q hb z=>(d.2 b hb).trans z) f new
def wK(z:kvs.length<=sizeLine)(hd:(a==sysModules)=false)(b:KV kvs vs)(dd:h'.DictOf (aK P w) a vs) :
 ObjOk P w H' h' a (.dK kvs):=⟨z,hd,vs,b,dd⟩
def zT(D:A.units+1<cLine)(I:Inv X ac σ H s)(g:DPut H a y v H')(p:RelV y u)(t:RelV v r)(h:∀x,Inv X ac σ H' x->Q () x) :
 wpAny (model X.prog X.w) A (setItem (.ref a) u r) Q E s:=by
 rcases g with⟨kvs,k,e,j,l,m⟩|⟨kvs,k,b,e,j,B,l,m⟩
 .subst j m;obtain⟨z,hd,vs,d,dd⟩:=yD I.aW e;have hz:vs.length<=sizeLine:=by rw[<- d.length];exact z
  have n:(bW kvs k v).length<=sizeLine:=by have:=eM kvs k v;lia
  refine wpAny_setItem_pairs (hsz:=hz) (li p) dd λh' f o=>h _ ?_;have F:∃q,h'.get? a=some q:=let ⟨q,_,_,i,_⟩:=f;⟨q,i⟩;exact j3 I (by rw[e];exact True.intro) o F (wK n hd (d.put k t) f)
 .subst j m;cases(show u=Value.ref b from p);obtain⟨z,hd,xs,d,dd⟩:=Ia I.aW e;have hz:xs.length<=sizeLine:=by rw[<- U7 d];exact z
  have n:(bW kvs k v).length<=sizeLine:=by have:=eM kvs k v;lia
  refine wpAny_setItem_heap (hsz:=hz) (VE D) (d4 I.aW B) dd λh' f o=>h _ ?_;obtain⟨q,es,ep,i,h2,G,J,_,K⟩:=f;refine j3 I (by rw[e];exact True.intro) o ⟨q,i⟩ ⟨n,hd,_,(d.put k B t).keeps λc L C=>?_,q,es,ep,i,h2,G,J,K⟩;rw[ag (Bo C e (λz=>nomatch z))];exact C
end
section
def MX(I:Inv X ac σ H s)(e:H a=some (.dK kvs))(f:RelV (kV k) u)(l:c9 kvs k=some v)(j:more=[]\/∃x,more=[x])
 (h:∀c m,Inv X ac σ (upd H a (.dK (ku kvs k))) m->RelV v c->Q c m):wpAny (model X.prog X.w) A (call (.builtin "dict.pop") (.ref a::u::more)) Q E s:=by
 obtain⟨z,hd,vs,b,dd⟩:=yD I.aW e;obtain⟨c,n,g⟩:=RelO.some_of (v:=v) (o:=valueAt vs k) (by rw[<- l];exact b.val k);have p:(keyPart u).isSome=true:=by
  cases k with
  |inl i=>obtain⟨t,q⟩:=(show ∃t,u=Value.int i t from f);subst q;rfl
  |inr x=>obtain⟨t,q⟩:=(show ∃t,u=Value.str x t from f);subst q;rfl
 have ha:argsOk "dict.pop" ⟨.ref a::u::more,[]⟩:=by
  rcases j with q|⟨x,q⟩
  .subst q;exact PySem.F.args_dict_pop_2 _ _
  .subst q;exact PySem.F.args_dict_pop_3 _ _ _
 refine VP PySem.F.slot_dict_pop dd.typeIs PySem.F.entry_dict_pop ha (meets_dict_pop_there (aK X.prog X.w) a (li f) more j p)
  ⟨vs,c,dd,by rw[<- b.length];exact z,n,λh' d r=>h c _ ?_ g⟩
 have y:∃q,h'.get? a=some q:=let ⟨q,_,_,B,_⟩:=d;⟨q,B⟩;exact j3 I (by rw[e];exact True.intro) r y (wK (T6 (BI kvs k) z) hd (b.drop k) d)
end
def MY(i:Expr):Prop:=∀a b,subscripted i false a b=operate [a,b] (getItem a b)
def FF{E:Xr->Xo->Prop}{env:Env}{b a:Expr}{pos:Pos}{T id:String}{Q:Xr->Xo->Prop}
 (m:typeLookup (.type T) "__getitem__"=pure (some (.builtin id))) (n:MY a)
 (h:wpAny (model prog w) A (eval b env) (λo e=>wpAny (model prog w) A (eval a env) (λi c=>c.TypeIs o T/\wpAny (model prog w) A (getItem o i) Q E c) E e) E s) :
 wpAny (model prog w) A (eval (.Subscript b a pos) env) Q E s:=by
 refine Subscript_ (Vd h (λo e j=>Vd j (λi c d=>?_) λ_ _ x=>x) λ_ _ x=>x);obtain⟨l,d⟩:=d;unfold subscriptTail;refine KE ?_;rw[getitemInPython_of_ne l.not_modules];refine KE (wpAny_specialOf l m ?_);have g:wpAny (model prog w) A (subscripted a false o i) (λr f=>wpAny (model prog w) A (letTemporaryGo b o r >>= λ_=>pure r) Q E f) E c:=by rw[n o i];exact wpAny_operating (Vd d (λr f k=>KE (wpAny_letTemporaryGo (Tl k))) λ_ _ x=>x)
 first
  |exact Tl (KE g)
  |exact KE (Tl (KE g))
  |exact KE g
def uH(I:Inv X ac σ H s)(g:DGet H a y o):s.TypeIs (.ref a) "dict":=by
 rcases g with⟨kvs,k,e,_,_⟩|⟨kvs,k,b,e,_,_,_⟩
 .obtain⟨_,_,vs,_,dd⟩:=jr I.aW e;exact dd.typeIs
 .obtain⟨_,_,xs,_,dd⟩:=js I.aW e;exact dd.typeIs
def jt(td ty:TE):TE:=λσ H Q=>td σ H λx c=>ty σ c λy b=>∃a v,x=.ref a/\DGet b a y (some v)/\Q v b
def uI(td ty c:TE):TS:=λD σ H=>c σ H λv d=>td σ d λx e=>ty σ e λy f=>∃a b,x=.ref a/\DPut f a y v b/\D.nx σ b
section
def d_(d:X.A.units+1<cLine)(e:PE X o td)(f:PE X i ty)(j:MY i):PE X (.Subscript o i pos) (jt td ty):=by intro ac s σ H Q I h;refine FF PySem.F.slot_dict_getitem.lookup j (cj (e ac s σ H _ I h) λu s1 ⟨x,k,l,m,q1⟩=>cj (f ac s1 σ k _ l q1) λr s2 ⟨y,n,c,p,a,v,ex,g,q2⟩=>?_);subst ex;obtain rfl:u=Value.ref a:=m;exact⟨uH c g,zS d c g p λt w q b=>⟨v,n,q,b,q2⟩⟩
def yE(b:X.A.units+1<cLine)(c:PE X o td)(d:PE X i ty)(e:PE X value tv)(f:swapsWith value (some (.Subscript o i pos')) pos.line X.env=pure false) :
 PS X (.Assign [.Subscript o i pos'] value pos) (uI td ty tv):=by
 intro ac s σ H D I h;refine wpAny_Assign_Subscript (cj (e ac s σ H _ I h) λr s1 ⟨v,j,k,l,q1⟩=>cj (c ac s1 σ j _ k q1) λu s2 ⟨x,m,n,p,q2⟩=>cj (d ac s2 σ m _ n q2) λC E ⟨y,F,q,t,a,w,ex,g,z⟩=>?_) f;subst ex;obtain rfl:u=Value.ref a:=p;exact zT b q g t l λG B=>⟨σ,w,B,z⟩
end
def BJ(h:Heap)(hb:sysModules<h.objs.size):ObjOk P w H (h.push { cls:=.type "dict",data:=.dict #[] }) h.objs.size (.dK []):=⟨T2 _,Vg.mpr (UD (T1 hb)),[],.nil,Heap.DictOf.new h⟩
def BK(h:Heap)(hb:sysModules<h.objs.size):ObjOk P w H (h.push { cls:=.type "dict",data:=.dict #[] }) h.objs.size (.dT []):=⟨T2 _,Vg.mpr (UD (T1 hb)),[],.nil,_,#[],0,Tv _ rfl,⟨rfl,rfl,rfl⟩,rfl,rfl,Uq⟩
def BL:TE:=λ_ H Q=>∀p,H p=none->Q (.ref p) (upd H p (.dK []))
def jv:TE:=λ_ H Q=>∀p,H p=none->Q (.ref p) (upd H p (.dT []))
section
def BM:PE X (.Dict [] [] pos) BL:=λac s σ H Q I h=>wpAny_Dict_empty ⟨.ref s.heap.objs.size,_,I.laid (a:=s.heap.objs.size) (o:=.dK []) (t':=s.toks) (λ_ _ q=>Tn _ q) (To _) (BJ s.heap I.big),rfl,h _ (I.aW.fresh (To _))⟩
def fO:PE X (.Dict [] [] pos) jv:=λac s σ H Q I h=>wpAny_Dict_empty ⟨.ref s.heap.objs.size,_,I.laid (a:=s.heap.objs.size) (o:=.dT []) (t':=s.toks) (λ_ _ q=>Tn _ q) (To _) (BK s.heap I.big),rfl,h _ (I.aW.fresh (To _))⟩
end
structure M1(X:Cx) (o:Expr) (m:Str) (apos:Pos) (e:Expr) (cpos:Pos):Prop where
 base:attributeBase o m X.env (eval o X.env)=eval o X.env
 gg:((backTo cpos (starEach [e] X.env)).all (λx=>!x.1)&&(backToKw cpos (keywordEach [] X.env)).all (λx=>x.1.isSome)
  && decide (([e]:List Expr).length+([]:List Keyword).length+(if([]:List Keyword).isEmpty then 0 else 1)<30))=true
 line:(apos.endLine==cpos.line)=true
 trees:backTo cpos (starEach [e] X.env)=[(false,eval e X.env)]
structure M2(X:Cx) (o:Expr) (m:Str) (apos:Pos) (e f:Expr) (cpos:Pos):Prop where
 base:attributeBase o m X.env (eval o X.env)=eval o X.env
 gg:((backTo cpos (starEach [e,f] X.env)).all (λx=>!x.1)&&(backToKw cpos (keywordEach [] X.env)).all (λx=>x.1.isSome)
  && decide (([e,f]:List Expr).length+([]:List Keyword).length+(if([]:List Keyword).isEmpty then 0 else 1)<30))=true
 line:(apos.endLine==cpos.line)=true
 trees:backTo cpos (starEach [e,f] X.env)=[(false,eval e X.env),(false,eval f X.env)]
def MZ(H:Hp)(a:Addr):Prop:=(∃kvs,Rd H a (.dK kvs))\/∃kvs,Rd H a (.dT kvs)
def sF(I:Inv X ac σ H s)(d:MZ H a) :
 s.TypeIs (.ref a) "dict"/\(∀b,Value.ref a=.ref b->∃ob,s.heap.get? b=some ob/\ob.dict=none)/\(a==sysModules)=false:=by
 rcases d with⟨kvs,e⟩|⟨kvs,e⟩
 .obtain⟨_,hd,vs,_,dd⟩:=jr I.aW e;refine⟨dd.typeIs,λb q=>?_,hd⟩;cases q;obtain⟨ob,_,_,h1,h2,_⟩:=dd;exact⟨ob,h1,h2.2.1⟩
 .obtain⟨_,hd,xs,_,dd⟩:=js I.aW e;refine⟨dd.typeIs,λb q=>?_,hd⟩;cases q;obtain⟨ob,_,_,h1,h2,_⟩:=dd;exact⟨ob,h1,h2.2.1⟩
section
def JB(m:A.units+1<cLine)(I:Inv X ac σ H s)(g:DGet H a y o)(f:RelV y u)(h:∀i j,Inv X ac σ H j->RelV (o.getD .bp) i->Q i j) :
 wpAny (model X.prog X.w) A (call (.builtin "dict.get") [.ref a,u]) Q E s:=by
 rcases g with⟨kvs,k,e,d,l⟩|⟨kvs,k,b,e,d,n,l⟩
 .subst d;obtain⟨z,hd,vs,c,dd⟩:=jr I.aW e;refine VP Vl dd.typeIs VX (PySem.F.args_dict_get_2 _ _) (meets_dict_get (aK X.prog X.w) a (li f) hd) ⟨_,dd.mapOf,h _ _ (I.tok _) ?_⟩;rw[l];exact(c.val k).getD rfl
 .subst d;cases(show u=Value.ref b from f);obtain⟨z,hd,xs,c,dd⟩:=js I.aW e;refine VP Vl dd.typeIs VX (PySem.F.args_dict_get_2 _ _) (meetsH_dict_get (tupleKind (aK X.prog X.w)) a b hd) ⟨VE m,k,xs,d4 I.aW n,dd,h _ _ (I.tok _) ?_⟩;rw[l];exact(c.val k).getD rfl
def JC(n:A.units+1<cLine)(I:Inv X ac σ H s)(g:DGet H a y o)(i:RelV y u)(rd:RelV d r)(h:∀j m,Inv X ac σ H m->RelV (o.getD d) j->Q j m) :
 wpAny (model X.prog X.w) A (call (.builtin "dict.get") [.ref a,u,r]) Q E s:=by
 rcases g with⟨kvs,k,e,f,l⟩|⟨kvs,k,b,e,f,p,l⟩
 .subst f;obtain⟨z,hd,vs,c,dd⟩:=jr I.aW e;refine VP Vl dd.typeIs VX (PySem.F.args_dict_get_3 _ _ _) (meets_dict_get_default (aK X.prog X.w) a (li i) hd r) ⟨_,dd.mapOf,h _ _ (I.tok _) ?_⟩;rw[l];exact(c.val k).getD rd
 .subst f;cases(show u=Value.ref b from i);obtain⟨z,hd,xs,c,dd⟩:=js I.aW e;refine VP Vl dd.typeIs VX (PySem.F.args_dict_get_3 _ _ _) (meetsH_dict_get_default (tupleKind (aK X.prog X.w)) a b hd r) ⟨VE n,k,xs,d4 I.aW p,dd,h _ _ (I.tok _) ?_⟩;rw[l];exact(c.val k).getD rd
end
def wL(td ty:TE):TE:=λσ H Q=>td σ H λx b=>∃a,x=.ref a/\MZ b a/\ty σ b λy c=>∃o,DGet c a y o/\Q (o.getD .bp) c
def gG(td ty d:TE):TE:=λσ H Q=>td σ H λx b=>∃a,x=.ref a/\MZ b a/\ty σ b λy e=>d σ e λz c=>∃o,DGet c a y o/\Q (o.getD z) c
def oA(td ty:TE):TE:=λσ H Q=>td σ H λx b=>∃a,x=.ref a/\MZ b a/\ty σ b λy c=>∃kvs k v,c a=some (.dK kvs)/\y=kV k/\c9 kvs k=some v/\Q v (upd c a (.dK (ku kvs k)))
section
def BN(f:X.A.units+1<cLine)(i:PE X o td)(j:PE X e ty)(m:M1 X o "get" apos e cpos):PE X (.Call (.Attribute o "get" apos) [e] [] cpos) (wL td ty):=by intro ac s σ H Q I h;refine wpAny_Call_method m.base m.gg m.line Ug Vl PySem.F.type_dict_get (cj (i ac s σ H _ I h) λu s1 ⟨x,k,c,l,a,ex,d,q1⟩=>?_);subst ex;obtain rfl:u=Value.ref a:=l;obtain⟨n,p,_⟩:=sF c d;refine⟨n,p,?_⟩;rw[m.trees];refine Vc rfl (Wb (VY (cj (j ac s1 σ k _ c q1) λw s2 ⟨y,q,r,t,z,g,q2⟩=>WD ?_)));exact JB f r g t λB C v b=>⟨_,q,v,b,q2⟩
def jw(i:X.A.units+1<cLine)(j:PE X o td)(k:PE X e ty)(l:PE X f tx)(m:M2 X o "get" apos e f cpos):PE X (.Call (.Attribute o "get" apos) [e,f] [] cpos) (gG td ty tx):=by intro ac s σ H Q I h;refine wpAny_Call_method m.base m.gg m.line Ug Vl PySem.F.type_dict_get (cj (j ac s σ H _ I h) λu s1 ⟨x,n,c,p,a,ex,d,q1⟩=>?_);subst ex;obtain rfl:u=Value.ref a:=p;obtain⟨q,r,_⟩:=sF c d;refine⟨q,r,?_⟩;rw[m.trees];refine Vc rfl (Wb (VY (cj (k ac s1 σ n _ c q1) λJ s2 ⟨y,t,v,w,q2⟩=>VY (cj (l ac s2 σ t _ v q2) λK L ⟨z,B,C,D,M,g,E⟩=>WD ?_))));exact JC i C g w D λN O G b=>⟨_,B,G,b,E⟩
def uJ(f:PE X o td)(g:PE X e ty)(m:M1 X o "pop" apos e cpos):PE X (.Call (.Attribute o "pop" apos) [e] [] cpos) (oA td ty):=by intro ac s σ H Q I h;refine wpAny_Call_method m.base m.gg m.line Ug PySem.F.slot_dict_pop PySem.F.type_dict_pop (cj (f ac s σ H _ I h) λu s1 ⟨x,i,c,j,a,ex,d,q1⟩=>?_);subst ex;obtain rfl:u=Value.ref a:=j;obtain⟨n,p,_⟩:=sF c d;refine⟨n,p,?_⟩;rw[m.trees];refine Vc rfl (Wb (VY (cj (g ac s1 σ i _ c q1) λA s2 z=>WD ?_)));obtain⟨y,B,q,r,kvs,k,v,t,rfl,l,q2⟩:=z;exact MX q t r l (.inl rfl) λC D w b=>⟨v,_,w,b,q2⟩
end
end L2
namespace Att
open PySem PySem.W PySem.Calls PyProof.Rows
def nF:∀(ns:List Int)(vs:List Xr),WellAll P h vs (ns.map WData.int)->IntsAre vs ns:=by
 intro ns;induction ns with
 |nil=>intro vs w;rw[Wp]at w;cases w;exact .nil
 |cons n ns c=>
  intro vs w;rw[TJ]at w;cases w with
  |cons a b=>cases a;exact .cons _ _ (c _ b)
def zU{l:OpenLaw}{n:Nat}(g:l.most=some n){P:Params}
 (b:l.row.toRowW.claim.pre args=true) (e:WellAll P h vals args) :
 ∃a vs ns,vals=[Value.ref a]/\args=[WData.list (ns.map WData.int)]/\h.get? a=some { cls:=.type "list",data:=.seq vs.toArray }/\IntsAre vs ns/\ns.length<=n:=by
 have f:WShape.hasAll [] args [.list .int]=true:=(pre_splitW b).1;have hc:l.pre.holds [] {args:=args}=true:=(pre_splitW b).2;obtain⟨d,r,rfl,h1,h2⟩:=hasAllW_cons f;obtain rfl:=hasAllW_nil h2;obtain⟨xs,rfl,i⟩:=hasW_list h1;obtain⟨ns,rfl⟩:=items_int i;have j:ns.length<=n:=by
  unfold OpenLaw.pre at hc;have c:(WTm.not (.lt (.lit (.int (n:Int))) (.len (.arg 0)))).holds [] {args:=[.list (ns.map .int)]}=true:=by have c:=(holds_andW hc).1;rw[g]at c;exact c
  have q:=condW_of c (w_not (w_lt w_lit (w_len_list (w_arg rfl))))
  grind
 cases e with
 |cons k m=>
  cases m;cases k with
  |list o p=>exact⟨_,_,ns,rfl,rfl,o,nF ns _ p,j⟩
def zV(l:OpenLaw)(args:List WData):l.row.toRowW.claim.post args (.bool true) args=true:=
 postW_of (r:=l.row.toRowW) (X:=(true==true))
  (show WShape.has [] (.bool true) .bool=true by first|rfl|decide|simp[WShape.has,WShape.arms,WShape.armsAll])
  (show(WTm.eq .res (.lit (.bool true))).value [] {args:=args,res:=some (.bool true),after:=args}=some (.bool (true==true))from w_eq_bool (w_res rfl) w_lit) rfl
def attach_call{l:OpenLaw}{n:Nat}{u:(Str->Option Xr)->Heap->Prop}{v:World->Heap->Prop}
 (z:l.most=some n) (k:d.params.defaults=[])
 (call:∀(w:World)(s₀ b:Xo)(mg m:Str->Option Xr)(e:Addr)(o:Obj)(pm i doc:Xr)(a:Addr)(vs:List Xr)(ns:List Int),
   Ground q loose [] u w s₀ mg m b.heap->v w b.heap->
   b.heap.get? e=some o->o.data=.func (docDef d.name d.params d.body d.scope pm i doc)->b.heap.CodeRec i d.name->mg d.name=some (.ref e)->
   b.heap.get? a=some { cls:=.type "list",data:=.seq vs.toArray }->IntsAre vs ns->ns.length<=n->b.gens=#[]->
   codeAny (model l.prog w) callerA (.call (.ref e) ⟨[.ref a],[]⟩) (λr j=>r=.ok (.ret (.bool true))/\OldK b.heap j.heap/\j.os=b.os/\AllBare j.gens) b) :
 WalkO q loose u v l.row.toRowW d [] (λf vs=>PySem.call f vs):=by
 intro w s₀ b mg m G Y e o pm i doc A kV B hd p hD s C args x L g y D t E;obtain rfl:A=.none:=Dflts.none hD k;obtain rfl:kV=.none:=Dflts.noKw hD;obtain⟨a,vs,ns,rfl,rfl,h,c,F⟩:=zU z g t;refine enter_call (WH (call w s₀ b mg m e o pm i doc a vs ns G Y B (fd_plain hd) p s h c F C) λr j H=>?_);obtain⟨rfl,h2,I,J⟩:=H;exact⟨.inl ⟨.bool true,.bool true,[],rfl,λ_=>rfl,.bool true,zV l _,λ_=>⟨List.Pairwise.nil,λ_ K=>(nomatch K)⟩⟩,h2,I,J⟩
end Att
namespace L2
open PySem PySem.Spec PyProof.Rows
def e_(s:Stmt)(j:Nat):Stmt:=match s with
 |.ClassDef _ _ _ body _ _ _ _ _ _ _=>body.getD j (.Pass ⟨0,0,0,0⟩)
 |_=>.Pass ⟨0,0,0,0⟩
def dC(s:Stmt):Arguments:=match s with
 |.FunctionDef _ a _ _ _ _ _ _ _ _=>a
 |_=>{posonlyargs:=[],args:=[],vararg:=none,kwonlyargs:=[],kw_defaults:=[],kwarg:=none,defaults:=[]}
def cM(s:Stmt):List Stmt:=match s with
 |.FunctionDef _ _ b _ _ _ _ _ _ _=>b
 |_=>[]
def aw(s:Stmt):Scope:=match s with
 |.FunctionDef _ _ _ _ _ _ a _ _ _=>a
 |_=>{kind:=.function,names:=[],isGenerator:=false,isCoroutine:=false}
abbrev hV:ET:=λ_ _ _ _ _ _=>False
abbrev E0:XK:=λ_ _ _=>False
def bn:fL hV X E0:=λ_ _ _ _ _ _ _ h=>h.elim
structure E8(K:Xp) (x qual:Str) (st:Stmt) (f:Addr) (fd:FuncData):Prop where
 ex:∃(oc:Xr)(od:Option Addr)(kV doc pm:Xr)(an:Option Addr)(cdv ct:Xr)(osl:Array (Option Xr)),
  fd=fnOf x qual (dC st) (cM st) (aw st) .none kV doc pm an cdv ct/\K.lookup f=some ⟨oc,od,.func fd,osl⟩/\codeIn K cdv qual=true
 kp:keepIn K (.ref f)=true
section
variable{P:Xq}{w:World}{K:Xp}{mg:Str->Option Xr}{base:Heap}
def E8.ok{x qual:Str}{st:Stmt}{f:Addr}{fd:FuncData}{N ps:List Str}{k:Nat}{sp:Sp}(F:E8 K x qual st f fd)(S:aR N ps (aw st))(len:∀vs H Q E,sp vs H Q E->vs.length=ps.length)
 (a:∀(cdv:Xr)(A:Xs)(outer:List Env)(s:Xo)(H:Hp)(vs:List V)(Q:VK)(E:XK),dj k (A.deeper (envOfC qual (aw st) s.heap.objs.size f cdv))->sp vs H Q E->
   ∃t,PSs (wF hV P w K mg base N qual (aw st) f cdv A outer s H E).PH (cM st) t/\t {nx:=λ_ H'=>Q .bp H',rt:=Q} (bO N vs) H):bD P w K mg base hV (k+1) f fd ps sp:=by
 obtain⟨oc,od,kV,doc,pm,an,cdv,ct,osl,rfl,lk,b⟩:=F.ex;refine MS lk b S len λA outer s H vs Q E d c=>?_;obtain⟨t,h,q⟩:=a cdv A outer s H vs Q E d c;exact⟨t,h.PH,q⟩
def E8.binds{x qual:Str}{st:Stmt}(F:E8 K x qual st f fd)
 (h:∀(kV doc pm:Xr)(an:Option Addr)(cdv ct:Xr)(us:List Xr),us.length=ps.length->bindArgs (fnOf x qual (dC st) (cM st) (aw st) .none kV doc pm an cdv ct) ⟨us,[]⟩=pure (ps.zip us)):Binds K fd ps []:=by
 obtain⟨oc,od,kV,doc,pm,an,cdv,ct,osl,rfl,lk,a⟩:=F.ex;exact .all (h kV doc pm an cdv ct)
def BO{x qual:Str}{st:Stmt}{f:Addr}{oc:Xr}{od an:Option Addr}{osl:Array (Option Xr)}{kV doc pm cdv ct:Xr}(l:K.lookup f=some ⟨oc,od,.func (fnOf x qual (dC st) (cM st) (aw st) .none kV doc pm an cdv ct),osl⟩)
 (c:codeIn K cdv qual=true) (k:keepIn K (.ref f)=true):E8 K x qual st f (fnOf x qual (dC st) (cM st) (aw st) .none kV doc pm an cdv ct):=⟨⟨oc,od,kV,doc,pm,an,cdv,ct,osl,rfl,l,c⟩,k⟩
end
def dW(a:dj k A):A.units+1<cLine:=UJ (W2 (by decide:1<=64) _) a.units
section
def pv(i:Nat)(b:autoParam (X.N[i]?=some x) aM)(c:autoParam (PU X.env.scope x) Xv._auto_1)(hd:autoParam (dB x) ab)
 (a:autoParam ((x==("__classdict__" : Str))=false) ab):PE X (.Name x pos) (am i):=Jk b c hd a
end
def gk{A B:Prop}(h:B):if false=true then A else B:=by rw[TC T9];exact h
def mB{A B:Prop}(h:A):if true=true then A else B:=by rw[Tt rfl];exact h
def FG{c A B:Prop}[Decidable c](h1:c->A)(h2:¬c->B):if c then A else B:=by
 by_cases h:c
 .rw[Tt h];exact h1 h
 .rw[TC h];exact h2 h
def Same(H H':Hp):Prop:=∀b o,H b=some o->H' b=some o
def Same.refl(H:Hp):Same H H:=λ_ _ h=>h
def Same.trans(a:Same H H1)(b:Same H1 H2):Same H H2:=λc o h=>b c o (a c o h)
def Same.free(e:Same H H')(h:H' l=Option.none):H l=Option.none:=by
 cases q:H l with
 |none=>rfl
 |some o=>rw[e l o q]at h;cases h
abbrev TX:=St->Hp->VK->XK->Prop
end L2
namespace L2
open PySem PySem.Spec PySem.Calls PyProof.Rows
def nG
 (m:s.heap.get? a=some o) (hc:o.cls=.type "list") (b:o.data=.seq xs k) (hd:o.dict=none) (f:typeLookup (.type "list") name=pure none) (i:(["__module__","__name__","__qualname__","__doc__","__annotations__"]:List Str).contains name=false) (p:A.handled=none)
 (h:∀h' tk e,Heap.NewExcOf s.heap h' e "AttributeError"->Q none {s with heap:=h',toks:=tk}) (hsz:name.length+100<=sizeLine:=by size_fits) :
 wpAny (model prog w) A (getAttr? (.ref a) name) Q E s:=by
 obtain⟨c,q,r,sl⟩:=o;simp only at hc b hd;subst hc b hd;obtain⟨t,g,d,tk,os⟩:=s;have n:∀j,(⟨t,g,d,j,os⟩ : Xo).TypeIs (.ref a) "list":=λ_=>⟨_,m,rfl⟩;have u:=sub_AttributeError;have v:=PySem.F.slot_list_getattribute.lookup;have f4:=PySem.F.slot_list_getattribute.bind (.ref a);have f5:=am_list_getattr_none;unfold getAttr? getAttrBy? getAttrBy
 repeat (any_goals (first|assumption|exact n _|((with_reducible show wpAny _ _ (call (Value.builtin "list.__getattribute__") _ _) _ _ _);refine call_meets PySem.F.slot_list_getattribute (n _) am_entry_list_getattribute (PySem.F.args_list_getattribute_2 _ _) (meets_getattribute_miss_list a xs k sl name _ f i hsz) ⟨m,p,λh' j e l=>?_⟩)|wp_step))
 obtain⟨t',u',x⟩:=l.there;show wpAny _ _ (getattributeRaised _ _ _ _ _ _ _) _ _ _;unfold getattributeRaised
 repeat (any_goals (first|assumption|wp_step))
 exact h _ _ _ l.of
abbrev kz:=List bv×Addr×Xr
def yF(xs:List kz)(its:List kz):List kz:=its.foldl (λxs x=>storedH xs x.1 x.2.1 x.2.2) xs
def lj:entryFor table "dict.update.loop"=some Builtin.«dict.update.loop»:=entryFor_of_tree (by kernel_rfl)
def ff:plainId "dict.update.loop"=true:=by decide +kernel
section
variable{prog:Xq}{w:World}
abbrev tK(prog:Xq)(w:World):=tupleKind (aK prog w)
def DRaw(prog:Xq)(w:World)(h:Heap)(S:Addr)(xs:List kz):Prop:=∃o es ep,h.get? S=some o/\o.ExactDict/\o.data=.dict es ep/\es.toList=xs.map (entryOfKey (tK prog w))/\(xs.map (·.1)).Nodup
def j5(x:(tK prog w).is h k a)(e:∀b o,h.get? b=some o->h'.get? b=some o):(tK prog w).is h' k a:=by obtain⟨o,c,n,h1,r⟩:=x;exact⟨o,c,n,e _ _ h1,r⟩
def DRaw.of(d:DRaw prog w h S xs)(ks:∀x∈xs,(tK prog w).is hb x.1 x.2.1)(e:∀b o,hb.get? b=some o->h.get? b=some o):h.DictOfH (tK prog w) S xs:=by obtain⟨o,es,ep,h1,h2,a,c,f⟩:=d;exact⟨o,es,ep,h1,h2,a,c,λx g=>j5 (ks x g) e,f⟩
def wM(ks:∀x∈xs,(tK prog w).is hb x.1 x.2.1)(b:(tK prog w).is hb k a):∀x∈storedH xs k a v,(tK prog w).is hb x.1 x.2.1:=by
 unfold storedH;split
 .intro x hx;obtain⟨y,c,rfl⟩:=TH.mp hx;have:=ks y c;unfold putAt;split<;>exact this
 .intro x hx;rcases T4.mp hx with hx|hx
  .exact ks x hx
  .simp at hx;subst hx;exact b
def uK{xs:List kz}{k:List bv}:(storedH xs k a v).length<=xs.length+1:=by
 unfold storedH;split
 .rw[Tp];lia
 .rw[TU];simp
variable{A:Xs}{R:Result->Xo->Prop}{I:Addr}{fp wr:List Addr}{G:Array GenState->Array GenState->Prop}{n:Nat}{P:Nat->Xr->Prop}{St:Nat->Xo->Prop}
def lq(W:WalksS prog w A.in1 I fp wr G n P St)(S:Addr)(q:S∉fp)(hu:A.in1.units<cLine)(hb:Heap)(hbS:hb.get? S=none)(hbw:∀b∈wr,hb.get? b=none)(its:List kz)(hn:its.length=n)
 (r:∀i v,P i v->∃p x,v=.ref p/\its[i]?=some x/\hb.IsTuple p #[.ref x.2.1,x.2.2]/\(tK prog w).is hb x.1 x.2.1) (hsz:n<=sizeLine) :
 ∀(k i:Nat)(s:Xo)(xs:List kz)(j:Int),n-i=k->i<=n->St i s->(∀b o,hb.get? b=some o->s.heap.get? b=some o)->(∀x∈xs,(tK prog w).is hb x.1 x.2.1)->xs.length<=i->
  DRaw prog w s.heap S xs->
  (∀c,Moved (S::wr) G s c->c.heap.DictOfH (tK prog w) S (yF xs (its.drop i))->R (.ok (.ret .none)) c)->
  codeAny (model prog w) A (.builtin "dict.update.loop" ⟨[.ref S,.ref I,rawInt j,.none],[]⟩) R s:=by
 have t:S∉wr:=λh=>q (W.sub _ h);have d:∀b∈wr,b∈S::wr:=λb hb=>Tu _ hb;intro k;induction k with
 |zero=>
  intro i s xs j hk hi f K ks H J L;have M:i=n:=by lia
  subst M;refine U8 lj ?_;rw[Vq ff _];show wpAny _ A.in1 (pyNext (.ref I) >>= _) _ _ s;refine KE (W.done s _ _ f λc g=>?_);have N:=L c (g.mono d) (by rw[List.drop_of_length_le (by lia)];obtain⟨o,es,ep,O,rest⟩:=J;exact DRaw.of (hb:=hb) ⟨o,es,ep,g.heap S _ t O,rest⟩ ks λb o e=>g.heap b o (λz=>by grind) (K b o e));show wpAny _ A.in1 (Builtin.Dict.addKeywords S [] >>= λ_=>ret Value.none) _ _ c;exact KE (Tl (Tl N))
 |succ k ih=>
  intro i s xs j hk hi f K ks H J L;have u:i<n:=by lia
  refine U8 lj ?_;rw[Vq ff _];show wpAny _ A.in1 (pyNext (.ref I) >>= _) _ _ s;refine KE (W.item i s _ _ u f λv c hP y g=>?_);obtain⟨p,x,rfl,Y,ht,Z⟩:=r i v hP;have B:∀b o,hb.get? b=some o->c.heap.get? b=some o:=λb o e=>g.heap b o (λz=>by grind) (K b o e);obtain⟨ot,C,Q,nt,T⟩:=ht;have hT:c.TypeIs (.ref p) "tuple":=⟨ot,B _ _ C,Q⟩;have U:DRaw prog w c.heap S xs:=by obtain⟨o,es,ep,O,rest⟩:=J;exact⟨o,es,ep,g.heap S _ t O,rest⟩
  refine KE (UC ?_);refine KE ?_;refine wpAny_tryCatch ?_;unfold Builtin.Dict.pairItems;refine KE (V3 hT ?_);rw[Tt (by decide)];refine KE (wpAny_seqItems (B _ _ C) T ?_);refine Tl ?_;show wpAny _ A.in1 (holding [Value.ref x.2.1,x.2.2] (dictSet S (.ref x.2.1) x.2.2)) _ _ c;refine UC ?_;refine wpAny_dictSet_heap (knd:=tK prog w) (hsz:=by lia) hu (j5 Z B) (DRaw.of U ks B) λh' V l=>?_;have K2:∀b o,hb.get? b=some o->h'.get? b=some o:=λb o e=>(l.2 b (λz=>by grind)).trans (B b o e);have m:its.drop i=x::its.drop (i+1):=by
   have D:i<its.length:=by lia
   rw[Wd D];rw[Ts D]at Y;rw[Um Y]
  refine Tl ⟨Ws ff _,ih (i+1) _ (storedH xs x.1 x.2.1 x.2.2) (j+1) (by lia) u (W.frame _ c _ _ y (WN _ _) λb hb o e=>?_) K2 (wM ks Z) (by have:=uK (xs:=xs) (k:=x.1) (a:=x.2.1) (v:=x.2.2);lia) ?_ λX E F=>?_⟩
  .rw[l.2 b (λh:b=S=>q (by grind))];exact e
  .obtain⟨o,es,ep,h1,h2,h3,h4,_,h5⟩:=V;exact⟨o,es,ep,h1,h2,h3,h4,h5⟩
  .refine L X (Moved.trans W.gtrans ((g.mono d).then_heap (WN _ _) λb o hb e=>?_) E) (by rw[m];exact F);rw[l.2 b (λh:b=S=>hb (by grind))];exact e
end
section
variable{prog:Xq}{w:World}{A:Xs}{E:Xr->Xo->Prop}{s:Xo}
theorem nH(D:A.handled=none)(H:A.in1.in1.units<cLine)(u:s.heap.get? l=some { cls:=.type "list",data:=.seq items nl }) (I:its.length=items.size) (hsz:items.size<=sizeLine)
 (d:∀(i:Nat)(v:Xr),items[i]?=some v->∃(p:Addr)(x:kz),v=.ref p/\its[i]?=some x/\s.heap.IsTuple p #[.ref x.2.1,x.2.2]/\(tK prog w).is s.heap x.1 x.2.1)
 (h:∀(h':Heap)(tk:Nat),h'.DictOfH (tK prog w) s.heap.objs.size (yF [] its)->(∀b o,b<s.heap.objs.size->s.heap.get? b=some o->h'.get? b=some o)->Q (.ref s.heap.objs.size) {s with heap:=h',toks:=tk}) :
 wpAny (model prog w) A (call (.type "dict") [.ref l]) Q E s:=by
 refine callType_codes (Q₁:=λobj c=>obj=.ref s.heap.objs.size/\c={ s with heap:=s.heap.push { cls:=.type "dict",data:=.dict #[] } }) PySem.F.kt_called_dict (PySem.F.kt_typeCall_dict_1 _) PySem.F.entry_dict_init (kt_code_dict_new _ ⟨rfl,rfl⟩) ?_;rintro obj c ⟨rfl,rfl⟩;have hD:(s.heap.push { cls:=.type "dict",data:=.dict #[] }).get? s.heap.objs.size=some { cls:=.type "dict",data:=.dict #[] }:=Tv _ rfl;have G:Shared.TypeIs { s with heap:=s.heap.push { cls:=.type "dict",data:=.dict #[] } } (.ref s.heap.objs.size) "dict":=⟨_,hD,rfl⟩;refine⟨G,PySem.F.args_dict_init_2 _ _,?_⟩;unfold Builtin.«dict.__init__»;refine KE ?_;unfold Builtin.Dict.selfAndRest;refine KE (Vm G ?_);show wpAny _ _ (pure (s.heap.objs.size,[Value.ref l])) _ _ _;refine Tl ?_;show wpAny _ _ (Builtin.Dict.updateFrom "dict.__init__" s.heap.objs.size (.ref l) [] .none) _ _ _;unfold Builtin.Dict.updateFrom;have f:(s.heap.push { cls:=.type "dict",data:=.dict #[] }).get? l=some { cls:=.type "list",data:=.seq items nl }:=Tn _ u;refine KE (V3 ⟨_,f,rfl⟩ ?_);rw[Tt (by decide)];refine KE (nG (s:={ s with heap:=s.heap.push { cls:=.type "dict",data:=.dict #[] } }) f rfl rfl rfl (am_miss_of_fast (by decide +kernel)) (by decide +kernel) (by simp[D]) λh1 tk1 e1 g=>?_);rw[Tt (by decide)];refine KE (Xe ?_);have k1:∀b o,s.heap.get? b=some o->h1.get? b=some o:=λb o e=>g.keeps b o (Tn _ e);have j:h1.get? l=some { cls:=.type "list",data:=.seq items nl }:=k1 _ _ u;have k:h1.get? s.heap.objs.size=some { cls:=.type "dict",data:=.dict #[] }:=g.keeps _ _ hD;have a:s.heap.objs.size<h1.objs.size:=TF k;have m:l<s.heap.objs.size:=TF u;refine KE (V6 (s:=⟨h1,s.gens,s.drawn,tk1,s.os⟩) ⟨_,j,rfl,nl,rfl⟩ ?_);have y:A.in1.in1.handled=none:=by simp[D]
 have n:∀b,s.heap.objs.size<=b->s.heap.get? b=none:=λb hb=>by
  cases q:s.heap.get? b with
  |none=>rfl
  |some o=>exact absurd (TF q) (Nat.not_lt.mpr hb)
 have r:l≠h1.objs.size:=T1 (Nat.lt_trans m a);have k2:∀b o,h1.get? b=some o->(h1.push { cls:=.type "list_iterator",data:=.fields #[.ref l,.int 0 0] }).get? b=some o:=λb o e=>Tn _ e;refine Tl ⟨Ws ff _,lq (A:=A.in1) ((Walks.list y h1.objs.size l r items).toS) s.heap.objs.size ?_ H s.heap (n _ (To _)) ?_ its I d hsz (items.size-0) 0 _ [] 0 rfl (T2 _) ⟨⟨_,Tv _ rfl,rfl,rfl⟩,⟨_,k2 _ _ j,rfl,nl,rfl⟩⟩ (λb o e=>k2 _ _ (k1 b o e)) (λx J=>nomatch J) (To _) ⟨_,#[],0,k2 _ _ k,?_,rfl,rfl,Uq⟩ ?_⟩
 .simp only[Tz,TR,W8,not_or];exact⟨T1 a,VD m⟩
 .intro b hb;simp only[Tz,TR,W8]at hb;subst hb;exact n _ (US a)
 .exact⟨rfl,rfl,rfl⟩
 .intro K t z;obtain⟨h',g',d',B,C⟩:=K;have L:g'=s.gens:=t.gens;have M:d'=s.drawn:=t.drawn;have N:C=s.os:=t.os;subst L;subst M;subst N;refine⟨rfl,h h' B z λb o hb e=>t.heap b o ?_ (k2 _ _ (k1 _ _ e))⟩;simp only[Tz,TR,W8,not_or];exact⟨T1 hb,T1 (Nat.lt_trans hb a)⟩
end
def fP(t kvs:List (List bv×V)):List (List bv×V):=kvs.foldl (λt x=>bW t x.1 x.2) t
def lu(H:Hp):List V->List (List bv×V)->Prop:=Paired λv kv=>∃p a,v=.ref p/\H p=some (.tup [.ref a,kv.2])/\H a=some (.tup (kv.1.map kV))
section
variable{P:Xq}{w:World}{H:Hp}{h:Heap}
theorem qT(ok:HOk P w H h):∀{vs:List V}{us:List Xr}{kvs:List (List bv×V)},lu H vs kvs->Vals vs us->
 ∃its:List kz,its.length=us.length/\(∀(i:Nat)(v:Xr),us[i]?=some v->∃(p:Addr)(x:kz),v=.ref p/\its[i]?=some x/\h.IsTuple p #[.ref x.2.1,x.2.2]/\(tK P w).is h x.1 x.2.1)/\
  ∀t xs,KT H t xs->KT H (fP t kvs) (yF xs its)
 |_,_,_,.nil,.nil=>⟨[],rfl,λi v e=>by simp at e,λt xs r=>r⟩
 |_,_,_,.cons (a:=v) (b:=kv) q t,.cons (b:=u) r s=>by
  obtain⟨its,j,k,l⟩:=qT ok t s;obtain⟨p,d,rfl,m,c⟩:=q;cases r;obtain⟨_,is,o,y,z,hc,n,hd⟩:=(show ObjOk P w H h p (.tup [.ref d,kv.2])from ok p _ m);obtain⟨u1,u2,rfl,f,g⟩:=yz o;cases f;refine⟨(kv.1,d,u2)::its,by simp[j],λi v e=>?_,λt xs rt=>?_⟩
  .cases i with
   |zero=>simp at e;subst e;exact⟨p,(kv.1,d,u2),rfl,rfl,⟨y,z,hc,n,hd⟩,d4 ok c⟩
   |succ i=>exact k i v (by simpa using e)
  .exact l _ _ (rt.put kv.1 c g)
theorem oB:∀(kvs t:List (List bv×V)),(fP t kvs).length<=t.length+kvs.length
 |[],t=>To _
 |x::r,t=>by have:=oB r (bW t x.1 x.2);have h2:=eM t x.1 x.2;show(fP (bW t x.1 x.2) r).length<=_;simp only[T3];lia
end
section
variable{X:Cx}
def oC(hc:X.calm=true)(B:X.A.units+64<cLine):CallR X (.type "dict") (λxs H Q=>∃l vs kvs,xs=[.ref l]/\Rd H l (.lst vs)/\lu H vs kvs/\∀p,H p=none->Q (.ref p) (upd H p (.dT (fP [] kvs)))):=by
 intro ac s σ H xs us Q I r h;obtain⟨l,vs,kvs,rfl,j,c,q⟩:=h;obtain⟨u,rfl,ru⟩:=fK r;obtain rfl:u=Value.ref l:=ru;obtain⟨hz,its,n,d,k⟩:=(show ObjOk X.prog X.w H s.heap l (.lst vs)from j.ok I.aW);obtain⟨f,pl,pv,m⟩:=qT I.aW c d;have hsz:its.toArray.size<=sizeLine:=by rw[TB,<- d.length];exact hz
 refine nH (I.ok.hd hc) (by show X.A.units+1+1<cLine;lia) k (its:=f) (by rw[pl,TB]) hsz (λi v e=>pv i v (by simpa using e)) λh' tk hD t=>?_;have g:H s.heap.objs.size=none:=I.aW.fresh (To _);refine⟨.ref s.heap.objs.size,_,I.laid (a:=s.heap.objs.size) (o:=.dT (fP [] kvs)) (t':=tk) (λb o e=>t b o (TF e) e) (To _) ?_,rfl,q _ g⟩;obtain⟨o,es,ep,h1,h2,x,y,_,z⟩:=hD;refine⟨?_,Vg.mpr (UD (T1 I.big)),yF [] f,(m [] [] .nil).keeps λb C e=>?_,o,es,ep,h1,h2,x,y,z⟩
 .have:=oB kvs [];have h2:=U7 c;simp only[V4]at this;lia
 .rw[ag (aj e g)];exact e
end
section
def Inv.RZ(I:Inv X ac σ H s)(e:H a=some (.dK [])):Inv X ac σ (upd H a (.dT [])) s:=by
 obtain⟨z,y,vs,r,o,es,ep,h1,h2,d,f,c⟩:=(show ObjOk X.prog X.w H s.heap a (.dK [])from I.aW a _ e);cases r;exact I.write (x:=a) (e:=a) (t':=s.toks) (h':=s.heap) (by rw[e];exact True.intro) (.inl rfl) (λb u _ q=>q) ⟨o,h1⟩ ⟨z,y,[],.nil,o,es,ep,h1,h2,d,(by
  generalize es.toList=l at c;obtain⟨c,_⟩:=c;cases l with
  |nil=>rfl
  |cons x r=>cases c),Uq⟩
end
def Ib(H:Hp)(a:Addr)(y:V)(r:Option V):Prop:=DGet H a y r\/(Rd H a (.dT [])/\(∃k,y=kV k)/\r=none)\/(Rd H a (.dK [])/\(∃(b:Addr)(k:List bv),y=.ref b/\H b=some (.tup (k.map kV)))/\r=none)
section
def sG(x:ObjOk P w H h a (.dT [])):(a==sysModules)=false/\h.DictOf (aK P w) a []:=by
 obtain⟨z,y,xs,r,o,es,ep,h1,h2,b,d,f⟩:=x;cases r;have e:es=#[]:=by grind
 subst e;exact⟨y,o,#[],ep,h1,h2,b,λx c=>by simp at c,by constructor,Uq⟩
def JD(x:ObjOk P w H h a (.dK [])):(a==sysModules)=false/\h.DictOfH (tupleKind (aK P w)) a []:=by
 obtain⟨z,y,vs,r,o,es,ep,h1,h2,c,e,b⟩:=x;cases r;refine⟨y,o,es,ep,h1,h2,c,?_,λx d=>(nomatch d),Uq⟩;generalize es.toList=l at b;obtain⟨b,_⟩:=b;cases l with
 |nil=>rfl
 |cons x r=>cases b
def BP(d:A.units+1<cLine)(I:Inv X ac σ H s)(g:Ib H a y o)(c:RelV y u)(h:∀f,Inv X ac σ H f->Q (.bool (!o.isSome)) f) :
 wpAny (model X.prog X.w) A (compareOp .NotIn u (.ref a)) Q E s:=by
 rcases g with g|⟨e,⟨k,rfl⟩,rfl⟩|⟨e,⟨b,k,rfl,i⟩,rfl⟩
 .exact FE d I g c h
 .obtain⟨y,dd⟩:=sG (e.ok I.aW);exact wpAny_notIn_of (li c) y dd.mapOf (h _ (I.tok _))
 .obtain rfl:u=Value.ref b:=c;obtain⟨y,dd⟩:=JD (e.ok I.aW);exact wpAny_notIn_heap (VE d) (d4 I.aW i) y dd (h _ (I.tok _))
end
def h8:HO->Prop
 |.dK _=>True
 |.dT _=>True
 |_=>False
section
def Inv.view(I:Inv X ac σ H s)(hn:∀b,H b=none->H' b=none)(ht:∀b xs,H b=some (.tup xs)->H' b=some (.tup xs))(hf:∀b o u,X.H₀ b=some (.bj o u)->H' b=some (.bj o u))
 (hb:∀b ps,H b=some (.Bb ps)->H' b=some (.Bb ps)) (aW:HOk X.prog X.w H' s.heap):Inv X ac σ H' s where
 ok:=I.ok
 os:=I.os
 bare:=I.bare
 base:=⟨I.base.keep,I.base.slot,λb o e n hx=>hn b (I.base.free b o e n hx),I.base.there,λb xs e=>ht b xs (I.base.qp b xs e),hf,λb ps e=>let ⟨m,q⟩:=I.base.v9 b ps e;⟨m,hb b _ q⟩⟩
 loc:=I.loc
 cell:=I.cell
 free:=hn _ I.free
 ig:=λx c e=>hn c (I.ig x c e)
 pin:=λp hp=>let ⟨a,b,c⟩:=I.pin p hp;⟨a,hn _ b,c⟩
 aW:=aW
 len:=I.len
def yG(ok:HOk P w H h)(hd:∃u,H d=some u/\(∀y,u≠.own y)/\∀xs,u≠.tup xs)(new:ObjOk P w (upd H d u') h d u'):HOk P w (upd H d u') h:=λb v e=>by
 obtain⟨u,a,h1,h2⟩:=hd;by_cases hb:b=d
 .subst hb;rw[af]at e;cases e;exact new
 .rw[ag hb]at e;refine(ok b v e).stay (λ_ _ _ q=>q) (λc q=>?_) λc xs q=>?_
  .rw[ag]
   .exact q
   .rintro rfl;rw[a]at q;cases q;exact h1 _ rfl
  .rw[ag]
   .exact q
   .rintro rfl;rw[a]at q;cases q;exact h2 _ rfl
def yH(h:h8 u):(∀y,u≠.own y)/\(∀xs,u≠.tup xs)/\(∀ps,u≠.Bb ps)/\∀o v,u≠.bj o v:=by cases u<;>first|exact h.elim|exact⟨λ_ z=>(nomatch z),λ_ z=>(nomatch z),λ_ z=>(nomatch z),λ_ _ z=>(nomatch z)⟩
def qU(a:h8 u)(x:ObjOk P w H h d u)(c:∀b xs,H b=some (.tup xs)->H' b=some (.tup xs)):ObjOk P w H' h d u:=by
 cases u with
 |dK kvs=>exact x
 |dT kvs=>obtain⟨z,y,xs,r,q⟩:=x;exact⟨z,y,xs,Paired.L_ r λp q z=>⟨z.1,c _ _ z.2.1,z.2.2⟩,q⟩
 |_=>exact a.elim
theorem Inv.bj(I:Inv X ac σ H s)(e:H d=some u)(a:h8 u)(g:s.heap.get? d=some o):Inv X ac σ (upd H d (.bj o u)) s:=by
 obtain⟨h,c,i,j⟩:=yH a;have f:∀b xs,H b=some (.tup xs)->upd H d (.bj o u) b=some (.tup xs):=λb xs q=>by
  rw[ag]
  .exact q
  .rintro rfl;rw[e]at q;cases q;exact c _ rfl
 refine I.view (λb hb=>?_) f (λb k u' q=>?_) (λb ps q=>?_) (yG I.aW ⟨u,e,h,c⟩ ⟨g,qU a (I.aW d u e) f⟩)
 .rw[ag]
  .exact hb
  .rintro rfl;rw[e]at hb;cases hb
 .have q:=I.base.nQ b k u' q;rw[ag]
  .exact q
  .rintro rfl;rw[e]at q;cases q;exact j _ _ rfl
 .rw[ag]
  .exact q
  .rintro rfl;rw[e]at q;cases q;exact i _ rfl
def Inv.Jb(I:Inv X ac σ H s)(e:H d=some u)(a:h8 u):∀o v,X.H₀ d≠some (.bj o v):=λo v q=>by have:=I.base.nQ d o v q;rw[e]at this;cases this;exact(yH a).2.2.2 _ _ rfl
def Inv.IW(I:Inv X ac σ H s)(e:H d=some (.bj o u))(c:h8 u)(f:∀o v,X.H₀ d≠some (.bj o v)):Inv X ac σ (upd H d u) s:=by
 have a:∀b xs,H b=some (.tup xs)->upd H d u b=some (.tup xs):=λb xs q=>by
  rw[ag]
  .exact q
  .rintro rfl;rw[e]at q;cases q
 have x:ObjOk X.prog X.w H s.heap d u:=(show ObjOk X.prog X.w H s.heap d (.bj o u)from I.aW d _ e).2;refine I.view (λb hb=>?_) a (λb g u' q=>?_) (λb ps q=>?_) (yG I.aW ⟨_,e,λ_ z=>(nomatch z),λ_ z=>(nomatch z)⟩ (qU c x a))
 .rw[ag]
  .exact hb
  .rintro rfl;rw[e]at hb;cases hb
 .have q2:=I.base.nQ b g u' q;rw[ag]
  .exact q2
  .rintro rfl;exact f _ _ q
 .rw[ag]
  .exact q
  .rintro rfl;rw[e]at q;cases q
end
def FH(h:(aK P w).is k u=true):RelV (kV k) u:=by
 rcases bq (show kr k u=true from h)with⟨i,t,rfl,rfl⟩|⟨x,t,rfl,rfl⟩
 .exact⟨t,rfl⟩
 .exact⟨t,rfl⟩
section
def Qw(X:Cx)(D:Ends):Ends where
 nx:=λσ H=>D.nx σ H\/∃d o u,H d=some (.bj o u)/\h8 u/\(∀o v,X.H₀ d≠some (.bj o v))/\D.nx σ (upd H d u)
 rt:=D.rt
 bk:=D.bk
 ct:=D.ct
def BQ{st:Stmt}(h:PS X st t):PS X st (λD σ H=>t (Qw X D) σ H):=by
 intro ac s σ H D I q;refine cj (h ac s σ H _ I q) λf g r=>?_;cases f with
 |next=>
  obtain⟨σ',H',a,r⟩:=r;rcases r with r|⟨d,o,u,e,b,c,r⟩
  .exact⟨σ',H',a,r⟩
  .exact⟨σ',_,a.IW e b c,r⟩
 |_=>exact r
end
section
def JE(I:Inv X ac σ H s)(e:Rd H a (.dK kvs)\/(Rd H a (.dT [])/\kvs=[])) :
 kvs.length<=sizeLine/\(a==sysModules)=false/\∃vs,KV kvs vs/\s.heap.DictOf (aK X.prog X.w) a vs:=by
 rcases e with e|⟨e,rfl⟩
 .exact jr I.aW e
 .obtain⟨y,dd⟩:=sG (e.ok I.aW);exact⟨T2 _,y,[],.nil,dd⟩
end
section
def JF{k:bv}{key dflt:Xr}{Q:Xr->Xo->Prop}(j:(aK prog w).is k key=true)(u:s.heap.DictOf (aK prog w) d vs)(m:valueAt vs k=none)
 (h:∀h',h'.DictOf (aK prog w) d (stored vs k dflt)->Heap.SameBut d s.heap h'->Q dflt {s with heap:=h',toks:=s.toks+1}) (hsz:vs.length<=sizeLine):wpAny (model prog w) A (dictSetDefault d key dflt) Q E s:=by
 obtain⟨o,es,ep,n,hc,hd,t,p,v⟩:=u;have q:es.size<=sizeLine:=by
  have e1:=p.length;have e2:es.toList.length=es.size:=by simp
  lia
 have c:vs.findIdx? (λkv=>decide (kv.1=k))=none:=by
  rw[List.findIdx?_eq_none_iff];intro x y;refine Uw λe=>?_;have:(valueAt vs k).isSome=true:=by unfold valueAt;rw[Xd,List.find?_isSome];exact⟨x,y,TZ e⟩
  rw[m]at this;cases this
 have i:(es.findIdx? λe=>(aK prog w).is k e.key)=none:=by
  have:(es.findIdx? λe=>(aK prog w).is k e.key)=vs.findIdx? λkv=>decide (kv.1=k):=by rw[<- p.findIdx k];obtain⟨l⟩:=es;simp
  rw[this];exact c
 have f:k∉vs.map (·.1):=not_mem_of_findIdx_none c;have g:¬(vs.any λkv=>decide (kv.1=k))=true:=by rw[Xj];rintro⟨kv,r,z⟩;exact f (TH.mpr ⟨kv,r,T_ z⟩)
 unfold dictSetDefault
 try with_reducible refine UC ?_
 refine KE ((aK prog w).pyHash j ?_);refine KE (wpAny_dictFind_of (s:={s with toks:=s.toks+1}) j n hd t ?_);rw[i];refine KE (Xe (KE (WS (hz:=q) (s:={s with toks:=s.toks+1}) n hd (Tl (h _ ⟨_,_,ep+1,UK _ n (W3 (Vs hd _)),hc.mapDictKeys _,Vs hd _,t.push j _,?_,?_⟩ (Uk ..))))))
 .rw[stored,TC g];have:=p.append j ((aK prog w).hash k) dflt;obtain⟨l⟩:=es;simpa using this
 .rw[stored,TC g,Ua,UZ];refine⟨v,by simp,?_⟩;intro a ha b hb;simp only[TJ,Wp,TV]at hb;subst hb;exact λe=>f (e▸ha)
end
section
def Ic:V->List V->Hp->VK->Prop:=λx xs H Q=>∃a k y kvs,x=.ref a/\xs=[kV k,y]/\(H a=some (.dK kvs)\/(H a=some (.dT [])/\kvs=[]))/\kvs.length<sizeLine/\
 ((∃v,c9 kvs k=some v/\Q v H)\/(c9 kvs k=none/\Q y (upd H a (.dK (bW kvs k y)))))
def FI:HZ X "dict.setdefault" Ic:=by
 intro ac s σ H x xs v us Q I t rs q;obtain⟨a,k,y,kvs,rfl,rfl,ha,hz,q⟩:=q;obtain rfl:v=Value.ref a:=t;obtain⟨u1,u2,rfl,h,b⟩:=yz rs;obtain⟨N,u,vs,i,c⟩:=JE I (ha.imp .inl λ⟨e,w⟩=>⟨.inl e,w⟩);have n:=li (P:=X.prog) (w:=X.w) h;refine Ur Ut c.typeIs WO ?_ (WJ _ _ _);unfold Builtin.«dict.setdefault»;refine KE ?_;unfold Builtin.Dict.keyAndDefault;refine KE (Vm c.typeIs (show wpAny _ _ (pure (a,u1,some u2)) _ _ s from Tl ?_));show wpAny _ _ (if(a==sysModules)=true then _ else(dictSetDefault a u1 u2 >>= _)) _ _ s;rw[TC (by grind)];have A:vs.length<=sizeLine:=by rw[<- i.length];lia
 have j:s.heap.DictLe a sizeLine:=λo es ep B hd=>by
  obtain⟨O,C,D,d,_,f,_,E,_⟩:=id c;rw[B]at d;cases d;rw[hd]at f;cases f;have e1:=E.length;have e2:es.toList.length=es.size:=by simp
  lia
 have F:=i.val k;rcases q with⟨v,p,q⟩|⟨p,q⟩
 .obtain⟨R,r,l⟩:=RelO.some_of (v:=v) (o:=valueAt vs k) (by grind);refine KE (wpAny_dictSetDefault_of (hz:=j) n c.mapOf (λS e=>?_) λe=>?_)
  .rw[r]at e;cases e;exact Tl ⟨_,rfl,v,H,I.tok _,l,q⟩
  .rw[r]at e;cases e
 .have m:valueAt vs k=none:=by
   have:=F.fJ;rw[p]at this;cases z:valueAt vs k with
   |none=>rfl
   |some _=>rw[z]at this;cases this
  refine KE (JF n c m (λh' g G=>Tl ⟨_,rfl,?_⟩) A);have J:∃q,h'.get? a=some q:=let ⟨q,_,_,K,_⟩:=g;⟨q,K⟩;have L:Ms (H a):=by rcases ha with e|⟨e,_⟩<;>(rw[e];exact True.intro)
  have M:(bW kvs k y).length<=sizeLine:=by have:=eM kvs k y;lia
  exact⟨y,_,j3 (t':=s.toks+1) I L G J (wK M u (i.put k b) g),b,q⟩
end
end L2
namespace ST
open PySem PySem.SetTable
def st(m:Nat)(h:Int):Probe:={j:=bits h%(m+1),more:=runEnd m (bits h%(m+1))-bits h%(m+1),i:=bits h%(m+1),perturb:=bits h,dummy:=none}
def rs(m:Nat)(p:Nat×Nat):Probe:={j:=p.1,more:=runEnd m p.1-p.1,i:=p.1,perturb:=p.2,dummy:=none}
def wN(m:Nat)(p:Probe):Probe:=if p.more>0 then {p with j:=p.j+1,more:=p.more-1}else {p with j:=(leap m p.i p.perturb).1,more:=runEnd m (leap m p.i p.perturb).1-(leap m p.i p.perturb).1,i:=(leap m p.i p.perturb).1,perturb:=(leap m p.i p.perturb).2}
def wO(t:SetTable)(p:Probe):t.advance p=wN t.mask p:=rfl
def it(m:Nat):Nat->Probe->Probe
 |0,p=>p
 |n+1,p=>it m n (wN m p)
def fQ(m:Nat):∀(a b:Nat)(p:Probe),it m (a+b) p=it m b (it m a p):=by intro a b;induction a<;>grind [it,wN]
def FJ(m n:Nat)(p:Probe):it m (n+1) p=wN m (it m n p):=fQ m n 1 p
structure Va(m:Nat) (p:Probe):Prop where
 i:p.i<=m
 more:p.more<=9
 j:p.j+p.more<=m
 q:p.perturb<2^64
 d:p.dummy=none
def sH(h:Int):bits h<2^64:=by
 unfold bits
 grind
def kN(m i:Nat)(h:i<=m):runEnd m i-i<=9/\i+(runEnd m i-i)<=m:=by unfold runEnd;split<;>lia
theorem Va.rs(h1:p.1<=m)(h2:p.2<2^64):Va m (rs m p):=⟨h1,(kN m _ h1).1,(kN m _ h1).2,h2,rfl⟩
theorem Va.st(m:Nat)(h:Int):Va m (st m h):=by have:bits h%(m+1)<=m:=Xf (Xn _ (Nat.succ_pos m));exact⟨this,(kN m _ this).1,(kN m _ this).2,sH h,rfl⟩
def sI(m i q:Nat):(leap m i q).1<=m:=by exact Xf (Xn _ (Nat.succ_pos m))
def wQ(m i q:Nat):(leap m i q).2=q/32:=rfl
theorem Va.wN(v:Va m p):Va m (wN m p):=by
 unfold ST.wN;split
 .exact⟨v.i,by dsimp only;have:=v.more;lia,by dsimp only;have:=v.j;lia,v.q,v.d⟩
 .have l:=sI m p.i p.perturb;exact⟨l,(kN m _ l).1,(kN m _ l).2,by dsimp only;rw[wQ];have:=v.q;have:=Nat.div_le_self p.perturb 32;lia,v.d⟩
theorem Va.it:∀{n:Nat}{p:Probe},Va m p->Va m (it m n p)
 |0,_,v=>v
 |n+1,_,v=>Va.it (n:=n) v.wN
def Va.Th(v:Va m p):p.j<=m:=by have:=v.j;lia
def nU:∀(k:Nat)(p:Probe),p.more=k->Va m p->it m (k+1) p=rs m (leap m p.i p.perturb):=by intro k;induction k<;>grind [Va,it,rs,wN]
def lp(m:Nat):Nat->Nat×Nat->Nat×Nat
 |0,p=>p
 |n+1,p=>lp m n (leap m p.1 p.2)
def JG(m:Nat):∀(a b:Nat)(p:Nat×Nat),lp m (a+b) p=lp m b (lp m a p):=by intro a b;induction a<;>grind [lp]
theorem M7(m:Nat):∀(n:Nat)(p:Nat×Nat),(lp m n p).2=p.2/32^n
 |0,p=>by simp[lp]
 |n+1,p=>by show(lp m n (leap m p.1 p.2)).2=_;rw[M7 m n,wQ,Nat.div_div_eq_div_mul,Nat.pow_succ,Nat.mul_comm]
theorem Ie(m:Nat):∀(n:Nat)(p:Nat×Nat),p.1<=m->(lp m n p).1<=m
 |0,p,h=>h
 |n+1,p,_=>Ie m n _ (sI m _ _)
theorem uL:∀(L:Nat)(p:Probe),Va m p->∃n,n<=10*(L+1)/\it m n p=rs m (lp m (L+1) (p.i,p.perturb))
 |0,p,v=>⟨p.more+1,by have:=v.more;lia,nU _ p rfl v⟩
 |L+1,p,v=>by
  have h1:=nU _ p rfl v;have a:Va m (rs m (leap m p.i p.perturb)):=by rw[<- h1];exact v.it
  obtain⟨n,b,e⟩:=uL L _ a;refine⟨p.more+1+n,by have:=v.more;lia,?_⟩;rw[fQ,h1,e];rfl
def f5(m i:Nat):Nat:=(i*5+1)%(m+1)
def fN(m:Nat):Nat->Nat->Nat
 |0,i=>i
 |n+1,i=>fN m n (f5 m i)
def BR(m:Nat):Nat->Nat->List Nat
 |0,_=>[]
 |n+1,i=>i::BR m n (f5 m i)
theorem uM(m:Nat):∀(n i k:Nat),k<n->(BR m n i)[k]?=some (fN m k i)
 |n+1,i,0,_=>rfl
 |n+1,i,k+1,h=>uM m n _ k (by lia)
theorem uN(m:Nat):∀(n i:Nat),(BR m n i).length=n
 |0,_=>rfl
 |n+1,i=>by show(BR m n _).length+1=_;rw[uN]
theorem sJ(m:Nat):∀(a b i:Nat),fN m (a+b) i=fN m b (fN m a i)
 |0,b,i=>by rw[Nat.zero_add];rfl
 |a+1,b,i=>by rw[Nat.succ_add];exact sJ m a b _
def Qx(m:Nat):Bool:=((List.range (m+1)).all λj=>(BR m (m+1) 0).contains j)&&(fN m (m+1) 0==0)
def wR(m:Nat):Prop:=m=7\/m=31\/m=127\/m=511
def yI(h:wR m):Qx m=true:=by rcases h with rfl|rfl|rfl|rfl<;>decide +kernel
def BS(h:wR m)(c:j<=m):∃n,n<=m/\fN m n 0=j:=by have:=yI h;unfold Qx at this;simp only[Uu,VS]at this;have h1:=this.1 j (Uj.mpr (by lia));rw[List.contains_iff_mem,TN]at h1;obtain⟨n,a⟩:=h1;have b:=(Tq.mp a).1;rw[uN]at b;rw[uM m _ _ _ b]at a;exact⟨n,by lia,Um a⟩
def JH(h:wR m)(e:i<=m)(f:j<=m):∃n,n<=m/\fN m n i=j:=by
 obtain⟨a,ha,c⟩:=BS h e;obtain⟨b,hb,d⟩:=BS h f;by_cases g:a<=b
 .refine⟨b-a,by lia,?_⟩;rw[<- c,<- sJ,show a+(b-a)=b by lia,d]
 .refine⟨m+1+b-a,by lia,?_⟩;have z:=yI h;unfold Qx at z;simp only[Uu,WZ]at z;rw[<- c,<- sJ,show a+(m+1+b-a)=m+1+b by lia,sJ,z.2,d]
theorem yJ(m:Nat):∀(n i:Nat),lp m n (i,0)=(fN m n i,0)
 |0,_=>rfl
 |n+1,i=>by show lp m n (leap m i 0)=_;have:leap m i 0=(f5 m i,0):=rfl;rw[this];exact yJ m n _
def uO(h:wR m)(b:j<=m)(p:Nat×Nat)(h1:p.1<=m)(h2:p.2<2^64):∃n,13<=n/\n<=m+13/\(lp m n p).1=j:=by
 have a:(2:Nat)^64<32^13:=by decide
 have c:(lp m 13 p).2=0:=by rw[M7];exact Nat.div_eq_of_lt (by lia)
 obtain⟨n,d,e⟩:=JH h (Ie m 13 p h1) b;refine⟨13+n,by lia,by lia,?_⟩;rw[JG]
 grind [lp,yJ]
def Ig(h:wR m)(a:j<=m)(v:Va m p):∃n,n<10*turns m/\(it m n p).j=j:=by obtain⟨L,h1,h2,e⟩:=uO h a (p.i,p.perturb) v.i v.q;obtain⟨n,b,en⟩:=uL (L-1) p v;rw[show L-1+1=L by lia]at en b;refine⟨n,by unfold turns;lia,?_⟩;rw[en];exact e
def FL(xs:List Nat):Prop:=xs.Pairwise (·< ·)
theorem oE(l:FL xs.toList):∀(d lo c:Nat),lo<=c->c<=xs.size->c-lo<=d->
 (∀i (h:i<xs.size),i<lo->xs[i]<j)->(∀i (h:i<xs.size),c<=i->j<=xs[i])->
 below.go xs j d lo c<=xs.size/\(∀i (h:i<xs.size),i<below.go xs j d lo c->xs[i]<j)/\∀i (h:i<xs.size),below.go xs j d lo c<=i->j<=xs[i]
 |0,lo,c,h1,h2,p,g,k=>by
  have:lo=c:=by lia
  subst this;exact⟨h2,g,k⟩
 |f+1,lo,c,h1,h2,p,g,k=>by
  have mono:∀a b (ha:a<xs.size) (hb:b<xs.size),a<=b->xs[a]<=xs[b]:=by
   intro a b ha hb m;rcases Nat.lt_or_eq_of_le m with h|h
   .have:=T8.mp l a b (by simpa using ha) (by simpa using hb) h;simpa using US this
   .subst h;exact To _
  unfold below.go;by_cases hc:lo<c
  .rw[Tt hc];have n:(lo+c)/2<xs.size:=by lia
   have q:xs.getD ((lo+c)/2) j=xs[(lo+c)/2]:=by simp[Array.getD,n]
   dsimp only;rw[q];by_cases o:xs[(lo+c)/2]<j
   .rw[Tt o];refine oE l f _ _ (by lia) h2 (by lia) (λi h e=>?_) k;exact UJ (mono i _ h n (by lia)) o
   .rw[TC o];refine oE l f _ _ (by lia) (by lia) (by lia) g λi h e=>?_;exact T6 (by lia) (mono _ i n h e)
  .rw[TC hc];have:lo=c:=by lia
   subst this;exact⟨h2,g,k⟩
def fR(j:Nat)(a:FL xs.toList):below xs j<=xs.size/\(∀i (h:i<xs.size),i<below xs j->xs[i]<j)/\∀i (h:i<xs.size),below xs j<=i->j<=xs[i]:=by unfold below;exact oE a xs.size 0 xs.size (T2 _) (To _) (by lia) (λi h z=>by lia) λi h z=>by lia
def BU(d:FL xs.toList)(h:i<xs.size):below xs xs[i]=i:=by
 obtain⟨a,b,c⟩:=fR xs[i] d;rcases WF (below xs xs[i]) i with q|q|q
 .have hb:below xs xs[i]<xs.size:=by lia
  have h1:=c (below xs xs[i]) hb (To _);have h2:=T8.mp d _ i (by grind) (by grind) q;simp at h2;lia
 .exact q
 .have:=b i h q;lia
theorem qV(j:Nat):has #[] j=false:=rfl
structure Tb(t:SetTable):Prop where
 fj:wR t.mask
 Px:t.dummies=#[]
 yg:FL t.place.toList
 le:∀j∈t.place.toList,j<=t.mask
def qW(h:Tb t)(a:i<t.place.size):t.slot t.place[i]=.live i:=by unfold slot;dsimp only;rw[BU h.yg a];rw[Tt];simp[a]
def wU(h:Tb t)(a:j∉t.place.toList):t.slot j=.empty:=by
 unfold slot;dsimp only;rw[TC,h.Px,qV]
 .rfl
 .grind
def wV(h:Tb t)(j:Nat):(j∉t.place.toList/\t.slot j=.empty)\/∃i,∃c:i<t.place.size,t.place[i]=j/\t.slot j=.live i:=by
 by_cases b:j∈t.place.toList
 .right;obtain⟨i,c,e⟩:=Wc.mp b;have a:i<t.place.size:=by simpa using c
  have d:t.place[i]=j:=by simpa using e
  exact⟨i,a,d,by rw[<- d];exact qW h a⟩
 .exact .inl ⟨b,wU h b⟩
def Lv(t:SetTable)(j:Nat):Prop:=j∈t.place.toList
inductive jX(t:SetTable) (ha:Nat->Int) (h:Int) (p:Probe):Option Met->Prop
 |em (n:Nat) (e:¬Lv t (it t.mask n p).j) (b:∀k,k<n->∃i,∃hi:i<t.place.size,t.place[i]=(it t.mask k p).j/\ha i≠h):jX t ha h p (some (.empty (it t.mask n p).j none))
 |ca (n i:Nat) (hi:i<t.place.size) (e:t.place[i]=(it t.mask n p).j) (q:ha i=h) (b:∀k,k<n->∃i,∃hi:i<t.place.size,t.place[i]=(it t.mask k p).j/\ha i≠h) :
  jX t ha h p (some (.candidate (it t.mask n p).j i (it t.mask (n+1) p)))
theorem uP(h:Tb t)(ha:Nat->Int)(x:Int):∀(c:Nat)(p:Probe),Va t.mask p->(∃n,n<c/\¬Lv t (it t.mask n p).j)->jX t ha x p (probe.go t ha x c p)
 |0,p,v,⟨n,w,_⟩=>by lia
 |f+1,p,v,⟨n,w,r⟩=>by
  unfold probe.go;rcases wV h p.j with⟨h1,e⟩|⟨i,g,h1,e⟩
  .rw[e];dsimp only;have:=jX.em (t:=t) (ha:=ha) (h:=x) (p:=p) 0 h1 λk s=>by lia
   rw[v.d];exact this
  .rw[e];dsimp only;by_cases l:ha i=x
   .rw[Tt (by simpa using l)];exact jX.ca (t:=t) (ha:=ha) (h:=x) (p:=p) 0 i g h1 l λk s=>by lia
   .rw[TC (by simpa using l),wO];have y:n≠0:=by rintro rfl;exact r (by show p.j∈t.place.toList;rw[<- h1];simp)
    have u:=uP h ha x f (wN t.mask p) v.wN ⟨n-1,by lia,by
     have:it t.mask (n-1) (wN t.mask p)=it t.mask n p:=by show _=it t.mask n p;rw[show n=(n-1)+1 by lia];rfl
     rw[this];exact r⟩
    have a:∀{nn:Nat},(∀k,k<nn->∃i,∃g:i<t.place.size,t.place[i]=(it t.mask k (wN t.mask p)).j/\ha i≠x)->∀k,k<nn+1->∃i,∃g:i<t.place.size,t.place[i]=(it t.mask k p).j/\ha i≠x:=by
     intro nn b k s;cases k with
     |zero=>exact⟨i,g,h1,l⟩
     |succ k=>exact b k (by lia)
    generalize probe.go t ha x f (wN t.mask p)=B at u;cases u with
    |em m o b=>exact jX.em (t:=t) (ha:=ha) (h:=x) (p:=p) (m+1) o (a b)
    |ca m z q o A b=>exact jX.ca (t:=t) (ha:=ha) (h:=x) (p:=p) (m+1) z q o A (a b)
theorem oF:∀(b c:List Nat),b.Nodup->(∀x∈b,x∈c)->b.length<=c.length
 |[],_,_,_=>T2 _
 |a::b,c,nd,d=>by
  have ha:a∈c:=d a (Tw ..);have e:=oF b (c.erase a) (UF.mp nd).2 λx f=>by grind
  grind
def oG(h:Tb t)(d:t.place.size<=t.mask):∃j,j<=t.mask/\¬Lv t j:=by refine Vj λb=>?_;have c:∀j,j<=t.mask->j∈t.place.toList:=λj a=>Vj λz=>b ⟨j,a,z⟩;have:=oF (List.range (t.mask+1)) t.place.toList Wl λj a=>c j (by grind);simp at this;lia
def wW(h:Tb t)(a:t.place.size<=t.mask)(ha:Nat->Int)(x:Int)(v:Va t.mask p):jX t ha x p (t.probe ha x p):=by obtain⟨j,b,c⟩:=oG h a;obtain⟨n,h1,h2⟩:=Ig h.fj b v;unfold probe;exact uP h ha x _ p v ⟨n,h1,by grind⟩
def Rea(m:Nat)(a:Nat->Prop)(h:Int)(j:Nat):Prop:=∃n,(it m n (st m h)).j=j/\∀k,k<n->a (it m k (st m h)).j
def Rea.mono(r:Rea m lv h j)(s:∀j,lv j->lv' j):Rea m lv' h j:=let ⟨n,e,b⟩:=r;⟨n,e,λk a=>s _ (b k a)⟩
structure ud{V:Type} (t:SetTable) (es:Array (Int×V)):Prop where
 tb:Tb t
 len:t.place.size=es.size
 MG:∀q∈t.place.toList.zip es.toList,Rea t.mask (·∈ t.place.toList) q.2.1 q.1
def qX(t:SetTable):Prop:=t.place.size*5<t.mask*3
def insertAt_toList{α:Type}(xs:Array α)(p:Nat)(x:α)(h:p<=xs.size):(insertAt xs p x).toList=xs.toList.take p++x::xs.toList.drop p:=by unfold insertAt;simp[Array.toList_extract,List.extract_eq_drop_take,UT]
def insertAt_size{α:Type}(xs:Array α)(p:Nat)(x:α)(h:p<=xs.size):(insertAt xs p x).size=xs.size+1:=by rw[<- UB,insertAt_toList xs p x h];simp;lia
def sK(h:Tb t)(j:Nat):(t.put j).1={t with place:=insertAt t.place (below t.place j) j}:=by
 unfold put;dsimp only;rw[h.Px]
 grind [qV]
def yK(t:SetTable)(j:Nat):(t.put j).2=below t.place j:=rfl
def wY{α b:Type}(xs:List α)(a:List b)(p:Nat)(x:α)(y:b)(h:xs.length=a.length):(xs.take p++x::xs.drop p).zip (a.take p++y::a.drop p)=(xs.zip a).take p++(x,y)::(xs.zip a).drop p:=by rw[List.zip_append (by simp[h]),List.zip_cons_cons];simp[List.zip,List.take_zipWith,List.drop_zipWith]
def JI{V:Type}{t:SetTable}{es:Array (Int×V)}(h:ud t es){j:Nat}(y:j∉t.place.toList)(p:j<=t.mask){o:Int}{v:V}(r:Rea t.mask (·∈ t.place.toList) o j) :
 ud (t.put j).1 (insertAt es (t.put j).2 (o,v))/\(t.put j).1.mask=t.mask/\(t.put j).1.place.size=t.place.size+1:=by
 obtain⟨a,b,c⟩:=fR j h.tb.yg;rw[sK h.tb,yK];have u:below t.place j<=es.size:=by rw[<- h.len];exact a
 have el:=insertAt_toList t.place _ j a;have A:=insertAt_toList es (below t.place j) (o,v) u;have mem:∀k,k∈(insertAt t.place (below t.place j) j).toList↔k=j\/k∈t.place.toList:=by
  intro k;rw[el,T4,Tz];constructor
  .rintro (z|rfl|z)
   .exact .inr (U_ z)
   .exact .inl rfl
   .exact .inr (WT z)
  .rintro (rfl|z)
   .exact .inr (.inl rfl)
   .rw[<- Vn (below t.place j) t.place.toList,T4]at z;exact z.elim .inl λz=>.inr (.inr z)
 refine⟨⟨⟨h.tb.fj,h.tb.Px,?_,λk d=>?_⟩,?_,λq g=>?_⟩,rfl,insertAt_size _ _ _ a⟩
 .show FL (insertAt t.place (below t.place j) j).toList;rw[el];unfold FL;rw[WU];refine⟨h.tb.yg.sublist (List.take_sublist _ _),?_,?_⟩
  .rw[Wt];refine⟨λk d=>?_,h.tb.yg.sublist (List.drop_sublist _ _)⟩;obtain⟨i,m,e⟩:=Wc.mp d;rw[Wj]at m;have f:below t.place j+i<t.place.size:=by simp at m;lia
   have e2:t.place[below t.place j+i]=k:=by rw[<- e];simp
   have:=c _ f (by lia);rw[e2]at this;have:k≠j:=λz=>y (by rw[<- z,<- e2];simp);lia
  .intro k d l hl;obtain⟨i,m,e⟩:=Wc.mp d;rw[Uz]at m;have f:i<t.place.size:=by simp at m;lia
   have e2:t.place[i]=k:=by rw[<- e];simp
   have w:=b i f (by lia);rw[e2]at w;rw[Tz]at hl;rcases hl with rfl|hl
   .exact w
   .obtain⟨x,n,B⟩:=Wc.mp hl;rw[Wj]at n;have s:below t.place j+x<t.place.size:=by simp at n;lia
    have e3:t.place[below t.place j+x]=l:=by rw[<- B];simp
    have:=c _ s (by lia);rw[e3]at this;lia
 .rcases (mem k).mp d with rfl|z
  .exact p
  .exact h.tb.le k z
 .show(insertAt t.place (below t.place j) j).size=_;rw[insertAt_size _ _ _ a,insertAt_size _ _ _ u,h.len]
 .have g:q∈(insertAt t.place (below t.place j) j).toList.zip (insertAt es (below t.place j) (o,v)).toList:=g;rw[el,A,wY _ _ _ _ _ (by simpa using h.len)]at g;have sub:∀k,k∈t.place.toList->k∈(insertAt t.place (below t.place j) j).toList:=λk d=>(mem k).mpr (.inr d);rw[T4,Tz]at g;rcases g with z|rfl|z
  .exact(h.MG q (U_ z)).mono sub
  .exact r.mono sub
  .exact(h.MG q (WT z)).mono sub
def ow(owner:Array (Option Nat))(j:Nat):Prop:=∃k,owner[j]?=some (some k)
theorem sL(i q:Nat):∀k,k<=runEnd m i-i->it m k (rs m (i,q))={j:=i+k,more:=runEnd m i-i-k,i:=i,perturb:=q,dummy:=none}
 |0,_=>rfl
 |k+1,h=>by
  rw[FJ,sL i q k (by lia)]
  grind [wN]
theorem qY(t:owner.size=m+1):∀(a i q:Nat),i<=m->q<2^64->(∃L,L<a/\¬ow owner (lp m L (i,q)).1)->
 ∃j,layClean.free m owner a i q=some j/\j<=m/\¬ow owner j/\∃n,(it m n (rs m (i,q))).j=j/\∀k,k<n->ow owner (it m k (rs m (i,q))).j
 |0,i,q,_,_,⟨L,h,_⟩=>by lia
 |f+1,i,q,g,s,⟨L,z,l⟩=>by
  obtain⟨A,B⟩:=kN m i g;have u:runEnd m i+1-i=(runEnd m i-i)+1:=by
   have:i<=runEnd m i:=by unfold runEnd;split<;>lia
   lia
  have o:∀k,k<=runEnd m i-i->((owner.getD (i+k) (some 0)).isNone=true↔¬ow owner (i+k)):=by
   intro k d;have hb:i+k<owner.size:=by lia
   have e:owner[i+k]?=some owner[i+k]:=by simp[hb]
   have e2:owner.getD (i+k) (some 0)=owner[i+k]:=by simp[Array.getD,hb]
   unfold ow;rw[e2,e];cases owner[i+k]<;>simp
  unfold layClean.free;cases p:(List.range (runEnd m i+1-i)).find? λk=>(owner.getD (i+k) (some 0)).isNone with
  |some k=>
   dsimp only;rw[List.find?_range_eq_some]at p;obtain⟨h1,h2,C⟩:=p;have h2:=Uj.mp h2;have d:k<=runEnd m i-i:=by lia
   refine⟨i+k,rfl,by lia,(o k d).mp h1,k,by rw[sL i q k d],λD v=>?_⟩
   grind [sL]
  |none=>
   dsimp only;rw[List.find?_range_eq_none]at p;have b:∀k,k<=runEnd m i-i->ow owner (i+k):=by grind
   have w:L≠0:=by rintro rfl;exact l (b 0 (T2 _))
   have x:=qY t f (leap m i q).1 (leap m i q).2 (sI m i q) (by rw[wQ];have:=Nat.div_le_self q 32;lia) ⟨L-1,by lia,by
    have:lp m L (i,q)=lp m (L-1) (leap m i q):=by rw[show L=(L-1)+1 by lia];rfl
    rw[this]at l;exact l⟩
   obtain⟨j,e,y,r,n,en,hb⟩:=x;refine⟨j,e,y,r,runEnd m i-i+1+n,?_,λk d=>?_⟩
   .rw[fQ,nU (runEnd m i-i) (rs m (i,q)) rfl (Va.rs g s)];exact en
   .by_cases c:k<=runEnd m i-i
    .rw[sL i q k c];exact b k c
    .have:it m k (rs m (i,q))=it m (k-(runEnd m i-i+1)) (rs m (leap m i q)):=by rw[show k=(runEnd m i-i+1)+(k-(runEnd m i-i+1)) by lia,fQ,nU (runEnd m i-i) (rs m (i,q)) rfl (Va.rs g s)];congr 1;lia
     rw[this];exact hb _ (by lia)
structure Own(m:Nat) (hs:List Int) (owner:Array (Option Nat)):Prop where
 size:owner.size=m+1
 all:∀k:Nat,k<hs.length->∃j:Nat,owner[j]?=some (some k)
 lt:∀j k:Nat,owner[j]?=some (some k)->k<hs.length
 MG:∀(j k:Nat)(h:Int),owner[j]?=some (some k)->hs[k]?=some h->Rea m (ow owner) h j
 inj:∀j j' k:Nat,owner[j]?=some (some k)->owner[j']?=some (some k)->j=j'
def Own.Pt(o:Own m hs owner)(q:hs.length<=m):∃j,j<=m/\¬ow owner j:=by
 refine Vj λh=>?_;have i:∀j,j<=m->ow owner j:=λj c=>Vj λz=>h ⟨j,c,z⟩
 let g:Nat->Nat:=λj=>((owner[j]?).getD none).getD 0
 have d:∀j,j<=m->owner[j]?=some (some (g j)):=λj c=>by obtain⟨k,l⟩:=i j c;show owner[j]?=some (some (((owner[j]?).getD none).getD 0));rw[l];rfl
 have nd:((List.range (m+1)).map g).Nodup:=by unfold List.Nodup;rw[Vh];have:=Wl (n:=m+1);refine U5 (λ{a b} ha hb f e=>f ?_) this;have ha:=Uj.mp ha;have hb:=Uj.mp hb;exact o.inj a b (g a) (d a (by lia)) (by rw[e];exact d b (by lia))
 have:=oF _ (List.range hs.length) nd λx p=>by obtain⟨j,c,rfl⟩:=TH.mp p;have c:=Uj.mp c;exact Uj.mpr (o.lt j _ (d j (by lia)))
 simp at this;lia
def BV(v:wR m)(o:Own m hs owner)(w:hs.length<=m)(h:Int) :
 ∃j,layClean.free m owner (turns m) (bits h%(m+1)) (bits h)=some j/\Own m (hs++[h]) (owner.setIfInBounds j (some hs.length)):=by
 obtain⟨x,l,p⟩:=o.Pt w;have f:bits h%(m+1)<=m:=Xf (Xn _ (Nat.succ_pos m));obtain⟨L,y,A,el⟩:=uO v l (bits h%(m+1),bits h) f (sH h);obtain⟨j,e,B,q,n,en,hb⟩:=qY o.size (turns m) _ _ f (sH h) ⟨L,by unfold turns;lia,by rw[el];exact p⟩;refine⟨j,e,?_⟩;have r:j<owner.size:=by rw[o.size];lia
 have get:∀i,(owner.setIfInBounds j (some hs.length))[i]?=if i=j then some (some hs.length)else owner[i]?:=by
  intro i;rw[Array.getElem?_setIfInBounds];by_cases a:j=i
  .subst a;rw[Tt rfl,Tt r,Tt rfl]
  .rw[TC a,TC (λz=>a z.symm)]
 have sub:∀i,ow owner i->ow (owner.setIfInBounds j (some hs.length)) i:=by
  rintro i ⟨k,b⟩;by_cases a:i=j
  .exact⟨_,by rw[get,Tt a]⟩
  .exact⟨k,by rw[get,TC a];exact b⟩
 have c:∀i k,(owner.setIfInBounds j (some hs.length))[i]?=some (some k)->(i=j/\k=hs.length)\/(i≠j/\owner[i]?=some (some k)):=by
  intro i k b;rw[get]at b;by_cases a:i=j
  .rw[Tt a]at b;exact .inl ⟨a,by simpa using b.symm⟩
  .rw[TC a]at b;exact .inr ⟨a,b⟩
 refine⟨by rw[Array.size_setIfInBounds,o.size],λk b=>?_,λi k b=>?_,λi k h' b g=>?_,λi s k h1 h2=>?_⟩
 .rw[TU,Vk]at b;by_cases d:k=hs.length
  .exact⟨j,by rw[get,Tt rfl,d]⟩
  .obtain⟨i,f⟩:=o.all k (by lia);refine⟨i,?_⟩;rw[get,TC]
   .exact f
   .rintro rfl;exact q ⟨k,f⟩
 .rw[TU,Vk];rcases c i k b with⟨_,rfl⟩|⟨_,z⟩
  .lia
  .have:=o.lt i k z;lia
 .rcases c i k b with⟨rfl,rfl⟩|⟨a,z⟩
  .rw[UL (To _),Nat.sub_self]at g;cases g;exact⟨n,en,λk b=>sub _ (hb k b)⟩
  .have d:=o.lt i k z;rw[UR d]at g;exact(o.MG i k h' z g).mono sub
 .rcases c i k h1 with⟨rfl,rfl⟩|⟨a,z⟩<;>rcases c s _ h2 with⟨rfl,C⟩|⟨t,u⟩
  .rfl
  .have:=o.lt _ _ u;lia
  .have:=o.lt _ _ z;lia
  .exact o.inj i s k z u
theorem BW(d:wR m):∀(b pre:List Int)(owner:Array (Option Nat)),Own m pre owner->pre.length+b.length<=m->
 ∃a,b.foldl (λc h=>do
  let (owner,k) <- c
  let j <- layClean.free m owner (turns m) (bits h%(m+1)) (bits h)
  pure (owner.setIfInBounds j (some k),k+1)) (some (owner,pre.length))=some (a,pre.length+b.length)/\Own m (pre++b) a
 |[],pre,owner,o,_=>⟨owner,rfl,by grind⟩
 |h::b,pre,owner,o,f=>by
  simp only[T3]at f;obtain⟨j,e,g⟩:=BV d o (by lia) h;obtain⟨a,e2,i⟩:=BW d b (pre++[h]) _ g (by simp;lia)
  grind
def JJ(b:wR m)(a:Array Int)(f:a.size<=m):∃owner,layClean m a=some owner/\Own m a.toList owner:=by
 have c:Own m [] (Array.replicate (m+1) none):=by
  have no:∀j k:Nat,(Array.replicate (m+1) (none:Option Nat))[j]?=some (some k)->False:=by grind
  exact⟨by simp,λk d=>by simp at d,λj k h=>(no j k h).elim,λj k _ h=>(no j k h).elim,λj _ k h=>(no j k h).elim⟩
 obtain⟨owner,e,o⟩:=BW b a.toList [] _ c (by grind);refine⟨owner,?_,by grind⟩;unfold layClean
 grind
theorem BX{α:Type}(es:Array α):∀(l:List Nat),(∀k∈l,k<es.size)->(l.filterMap (es[·]?)).length=l.length/\∀i:Nat,(l.filterMap (es[·]?))[i]?=(l[i]?).bind (es[·]?)
 |[],_=>⟨rfl,λi=>by simp⟩
 |k::l,h=>by
  have c:k<es.size:=h k (Tw ..);have e:es[k]?=some es[k]:=by simp[c]
  obtain⟨a,b⟩:=BX es l λk c=>h k (Tu _ c);rw[List.filterMap_cons_some e];refine⟨by simp[a],λi=>?_⟩;cases i with
  |zero=>simp[e]
  |succ i=>simpa using b i
theorem oH(o:Nat->Option Nat):∀l:List Nat,(l.filterMap λj=>(o j).map (j,·)).map Prod.fst=l.filter λj=>(o j).isSome
 |[]=>rfl
 |j::l=>by
  rw[Wm,VC];cases e:o j with
  |none=>simpa using oH o l
  |some k=>simpa using oH o l
def BY(owner:Array (Option Nat))(m:Nat)(b:owner.size=m+1)(j k:Nat):(j,k)∈((List.range (m+1)).filterMap λj=>(owner.getD j none).map (j,·))↔owner[j]?=some (some k):=by
 rw[Wr];constructor
 .rintro⟨a,h1,h2⟩;have h1:=Uj.mp h1;have hb:a<owner.size:=by lia
  have e:owner.getD a none=owner[a]:=by simp[Array.getD,hb]
  rw[e]at h2;obtain⟨c,e1,e2⟩:=Ux.mp h2;cases e2;rw[show owner[j]?=some owner[j] by simp[hb],e1]
 .intro h;obtain⟨hb,e⟩:=Vb.mp h;refine⟨j,Uj.mpr (by lia),?_⟩;have e2:owner.getD j none=owner[j]:=by simp[Array.getD,hb]
  rw[e2,e];rfl
structure Laid{V:Type} (m:Nat) (es es':Array (Int×V)) (t':SetTable):Prop where
 Bb:ud t' es'
 mask:t'.mask=m
 size:es'.size=es.size
 mem:∀x,x∈es'.toList↔x∈es.toList
 pw:∀R:Int×V->Int×V->Prop,(∀x y,R x y->R y x)->es.toList.Pairwise R->es'.toList.Pairwise R
def BZ{V:Type}{m:Nat}(B:wR m)(es:Array (Int×V))(H:es.size<=m)(finger moves:Nat)(led plain:Bool) :
 ∃t' c,laid m finger moves led plain (es.map (·.1))=some (t',c)/\Laid m es (c.filterMap (es[·]?)) t'/\t'.led=led/\t'.plain=plain/\c.toList.Perm (List.range es.size):=by
 obtain⟨owner,I,o⟩:=JJ B (es.map (·.1)) (by simpa using H);have len:(es.map (·.1)).toList.length=es.size:=by simp
 let live:=(List.range (m+1)).filterMap λj=>(owner.getD j none).map (j,·)
 have f:∀j k,(j,k)∈live↔owner[j]?=some (some k):=BY owner m o.size;have yg:FL (live.map Prod.fst):=by show FL (((List.range (m+1)).filterMap λj=>(owner.getD j none).map (j,·)).map Prod.fst);rw[oH];exact List.pairwise_lt_range.sublist (List.filter_sublist)
 have g:(live.map Prod.snd).Nodup:=by unfold List.Nodup;unfold FL at yg;rw[Vh]at yg ⊢;refine U5 (λ{a b} ha hb n e=>?_) yg;have h1:=(f a.1 a.2).mp ha;have h2:=(f b.1 b.2).mp hb;rw[<- e]at h2;have:=o.inj _ _ _ h1 h2;lia
 have lt:∀k∈live.map Prod.snd,k<es.size:=by
  intro k d;obtain⟨p,l,rfl⟩:=TH.mp d;have:=o.lt p.1 p.2 ((f p.1 p.2).mp l)
  rwa [len]at this
 have all:∀k,k<es.size->k∈live.map Prod.snd:=by intro k d;obtain⟨j,r⟩:=o.all k (by rw[len];exact d);exact TH.mpr ⟨(j,k),(f j k).mpr r,rfl⟩
 have C:live.length=es.size:=by have a:=oF _ (List.range es.size) g λk d=>Uj.mpr (lt k d);have b:=oF (List.range es.size) (live.map Prod.snd) Wl λk d=>all k (Uj.mp d);simp at a b;lia
 obtain⟨D,w⟩:=BX es (live.map Prod.snd) lt;refine⟨{mask:=m,place:=(live.map (·.1)).toArray,dummies:=#[],finger,led,moves,plain},(live.map (·.2)).toArray,?_,?_,rfl,rfl,(List.perm_ext_iff_of_nodup g Wl).mpr λk=>⟨λh=>Uj.mpr (lt k h),λh=>all k (Uj.mp h)⟩⟩
 .unfold laid;rw[I];rfl
 .have el:((live.map (·.2)).toArray.filterMap (es[·]?)).toList=(live.map Prod.snd).filterMap (es[·]?):=by simp
  have s:((live.map (·.2)).toArray.filterMap (es[·]?)).size=es.size:=by rw[<- UB,el,D,Tp,C]
  refine⟨⟨⟨B,rfl,by simpa using yg,λj r=>?_⟩,?_,λq v=>?_⟩,rfl,s,λx=>?_,λR J pw=>?_⟩
  .have r:j∈live.map Prod.fst:=by simpa using r
   obtain⟨p,l,rfl⟩:=TH.mp r;obtain⟨hb,_⟩:=Vb.mp ((f p.1 p.2).mp l);show p.1<=m;have:=o.size;lia
  .rw[s];simpa using C
  .have v:q∈(live.map Prod.fst).zip ((live.map Prod.snd).filterMap (es[·]?)):=by rw[el]at v;simpa using v
   obtain⟨i,E⟩:=TN.mp v;rw[We,w]at E;obtain⟨h1,h2⟩:=E;rw[TL]at h1 h2;obtain⟨p,l,e1⟩:=Ux.mp h1;rw[l]at h2;have h2:es[p.2]?=some q.2:=h2;have K:=(f p.1 p.2).mp (TN.mpr ⟨i,l⟩);have L:(es.map (·.1)).toList[p.2]?=some q.2.1:=by rw[Uc,Array.getElem?_map,h2];rfl
   rw[<- e1];refine(o.MG p.1 p.2 q.2.1 K L).mono λj ⟨k,d⟩=>?_;show j∈(live.map (·.1)).toArray.toList;simpa using⟨k,(f j k).mpr d⟩
  .rw[el];constructor
   .intro y;obtain⟨k,_,h2⟩:=Wr.mp y;exact TN.mpr ⟨k,by rw[Uc];exact h2⟩
   .intro y;obtain⟨k,d⟩:=TN.mp y;have hb:k<es.size:=by have:=(Tq.mp d).1;simpa using this
    exact Wr.mpr ⟨k,all k hb,by rw[Uc]at d;exact d⟩
  .rw[el];rw[T8];intro a b ha hb n;have t:=w a;have u:=w b;rw[Ts ha]at t;rw[Ts hb]at u;rw[D]at ha hb;rw[Ts ha]at t;rw[Ts hb]at u;have A:(live.map Prod.snd)[a]≠(live.map Prod.snd)[b]:=T8.mp g a b ha hb n;have t:es[(live.map Prod.snd)[a]]?=some _:=t.symm;have u:es[(live.map Prod.snd)[b]]?=some _:=u.symm;obtain⟨F,va⟩:=Vb.mp t;obtain⟨G,M⟩:=Vb.mp u;have P:=T8.mp pw;rw[<- va,<- M];rcases W9 A with z|z
   .simpa using P _ _ (by simpa using F) (by simpa using G) z
   .refine J _ _ ?_;simpa using P _ _ (by simpa using G) (by simpa using F) z
def FM{V:Type}{m:Nat}(f:wR m)(es:Array (Int×V))(g:es.size<=m)(finger moves:Nat)(led plain:Bool) :
 ∃t' e,laid m finger moves led plain (es.map (·.1))=some (t',e)/\Laid m es (e.filterMap (es[·]?)) t'/\t'.led=led/\t'.plain=plain:=by
 obtain⟨t',e,a,b,c,d,_⟩:=BZ f es g finger moves led plain;exact⟨t',e,a,b,c,d⟩
end ST
namespace ST
open PySem PySem.W PyProof.Rows
structure Lt(N:Nat) (lt:Nat->Nat->Bool):Prop where
 Tj:∀i,lt i i=false
 tr:∀i j k,lt i j=true->lt j k=true->lt i k=true
 Ti:∀i j,i<N->j<N->i≠j->lt i j=true\/lt j i=true
abbrev SK:=Nat->Nat->(Bool->Xo->Prop)->Xo->Prop
def FN(N:Nat)(lt:Nat->Nat->Bool)(a:SK)(s:Xo):Prop:=∀i j C,i<N->j<N->C (lt i j) s->a i j C s
def Pm(N:Nat)(p:Array Nat):Prop:=p.toList.Perm (List.range N)
def cJ(p:Array Nat)(i:Nat):Nat:=p.getD i 0
section
theorem Pm.size(h:Pm N p):p.size=N:=by have:=h.length_eq;simpa using this
def Pm.perm(h:Pm N p)(q:p'.Perm p):Pm N p':=(Array.perm_iff_toList_perm.mp q).trans h
def JK(a:i<p.size):p[i]?=some (cJ p i):=by unfold cJ;simp[Array.getD,a]
theorem B3(h:p'[i]?=p[k]?):cJ p' i=cJ p k:=by
 simp_all [cJ,cJ]
def Pm.bd(h:Pm N p)(b:i<N):cJ p i<N:=by
 have a:i<p.size:=by rw[h.size];exact b
 have:cJ p i∈p.toList:=TN.mpr ⟨i,by rw[Uc];exact JK a⟩;exact Uj.mp (h.mem_iff.mp this)
def Pm.ne(h:Pm N p)(f:i<N)(g:j<N)(e:i≠j):cJ p i≠cJ p j:=by
 have nd:p.toList.Nodup:=h.nodup_iff.mpr Wl;have a:i<p.size:=by rw[h.size];exact f
 have b:j<p.size:=by rw[h.size];exact g
 have c:p.toList[i]'(by simpa using a)=cJ p i:=by simp[cJ,Array.getD,a]
 have d:p.toList[j]'(by simpa using b)=cJ p j:=by simp[cJ,Array.getD,b]
 intro z;rcases W9 e with q|q
 .exact T8.mp nd i j (by simpa using a) (by simpa using b) q (by rw[c,d];exact z)
 .exact T8.mp nd j i (by simpa using b) (by simpa using a) q (by rw[c,d];exact z.symm)
def So(lt:Nat->Nat->Bool)(p:Array Nat)(k:Nat):Prop:=∀a b,a<b->b<k->lt (cJ p a) (cJ p b)=true
def De(lt:Nat->Nat->Bool)(p:Array Nat)(k:Nat):Prop:=∀a b,a<b->b<k->lt (cJ p b) (cJ p a)=true
def Lt.ye(o:Lt N lt)(a:i<N)(b:j<N)(e:i≠j)(h:lt i j=false):lt j i=true:=by
 grind [Lt]
def So.snoc(o:Lt N lt)(h:So lt p k)(a:1<=k)(l:lt (cJ p (k-1)) (cJ p k)=true):So lt p (k+1):=by
 grind [Lt,So]
def De.snoc(o:Lt N lt)(h:De lt p k)(a:1<=k)(l:lt (cJ p k) (cJ p (k-1))=true):De lt p (k+1):=by
 grind [Lt,De]
theorem wZ(o:Lt N lt)(an:FN N lt cmp s)(pm:Pm N p):∀(f n:Nat){Q:Nat->Xo->Prop},1<=n->n+f=N->So lt p n->
 (∀m,n<=m->m<=N->So lt p m->(m<N->lt (cJ p m) (cJ p (m-1))=true)->Q m s)->(kas_asc p f n).kasWp cmp Q s
 |0,n,Q,h1,h2,e,k=>k n (To _) (by lia) e λz=>by lia
 |f+1,n,Q,h1,h2,e,k=>by
  refine an _ _ _ (pm.bd (by lia)) (pm.bd (by lia)) ?_;show KasT.kasWp cmp (if lt (cJ p n) (cJ p (n-1))=true then .ret n else kas_asc p f (n+1)) Q s;by_cases c:lt (cJ p n) (cJ p (n-1))=true
  .rw[Tt c];exact k n (To _) (by lia) e λ_=>c
  .rw[TC c];have c:lt (cJ p n) (cJ p (n-1))=false:=by grind
   exact wZ o an pm f (n+1) (by lia) (by lia) (e.snoc o h1 (o.ye (pm.bd (by lia)) (pm.bd (by lia)) (pm.ne (by lia) (by lia) (by lia)) c)) λm a b c d=>k m (by lia) b c d
theorem yL(o:Lt N lt)(an:FN N lt cmp s)(pm:Pm N p):∀(f n:Nat){Q:Array Nat×Nat×Nat->Xo->Prop},1<=n->n+f=N->De lt p n->
 (∀m,n<=m->m<=N->De lt p m->Q (p,m,0) s)->(kas_desc f p n 0).kasWp cmp Q s
 |0,n,Q,h1,h2,e,k=>k n (To _) (by lia) e
 |f+1,n,Q,h1,h2,e,k=>by
  refine an _ _ _ (pm.bd (by lia)) (pm.bd (by lia)) ?_;show KasT.kasWp cmp (if lt (cJ p n) (cJ p (n-1))=true then(if 0>0 then kas_desc f (kas_rev p (n-(0+1)) n) (n+1) 0 else kas_desc f p (n+1) 0)
   else .ask (cJ p (n-1)) (cJ p n) λd=>if d=true then .ret (p,n,0)else kas_desc f p (n+1) (0+1)) Q s
  by_cases c:lt (cJ p n) (cJ p (n-1))=true
  .rw[Tt c,TC (by lia)];exact yL o an pm f (n+1) (by lia) (by lia) (e.snoc o h1 c) λm a b c=>k m (by lia) b c
  .rw[TC c];have c:lt (cJ p n) (cJ p (n-1))=false:=by grind
   refine an _ _ _ (pm.bd (by lia)) (pm.bd (by lia)) ?_;rw[o.ye (pm.bd (by lia)) (pm.bd (by lia)) (pm.ne (by lia) (by lia) (by lia)) c];show KasT.kasWp cmp (if true=true then _ else _) Q s;rw[Tt rfl];exact k n (To _) (by lia) e
def B4(n:Nat)(a:n<=p.size)(k:Nat):cJ (kas_rev p 0 n) k=if k<n then cJ p (n-1-k)else cJ p k:=by
 have e:=getElem?_mirror_all (xs:=p) (i:=0) a k;unfold kas_rev
 grind [B3]
def B5(o:Lt N lt)(an:FN N lt cmp s)(pm:Pm N p)(h1:1<=n)(f:n<=N)(hd:De lt p n)
 (k:∀m e,1<=m->m<=N->Pm N e->So lt e m->Q (m,e) s):(kas_tail3 n N p).kasWp cmp Q s:=by
 unfold kas_tail3;rw[Wu];have d:Pm N (kas_rev p 0 n):=pm.perm (mirror_perm _ _ _ _);refine wZ o an d (N-n) n h1 (by lia) ?_ λm a b c _=>k m _ (by lia) b d c;intro a b g hb;rw[B4 n (by rw[pm.size];exact f),B4 n (by rw[pm.size];exact f),Tt (by lia),Tt hb];exact hd _ _ (by lia) (by lia)
def B6(o:Lt N lt)(an:FN N lt cmp s)(pm:Pm N p)(h2:2<=N)
 (k:∀m f,1<=m->m<=N->Pm N f->So lt f m->Q (m,f) s):(kas_count N p).kasWp cmp Q s:=by
 unfold kas_count;rw[Wu];refine wZ o an pm (N-1) 1 (To _) (by lia) (λa b g hb=>by lia) λm a b c d=>?_;by_cases e:m=N
 .rw[Tt (by simpa using e)];exact k m p a b pm c
 .rw[TC (by simpa using e)];by_cases i:m>1
  .rw[Tt i];refine an _ _ _ (pm.bd (by lia)) (pm.bd (by lia)) ?_;have:lt (cJ p 0) (cJ p (m-1))=true:=c 0 (m-1) (by lia) (by lia);show KasT.kasWp cmp (if lt (cJ p 0) (cJ p (m-1))=true then _ else _) Q s;rw[Tt this];exact k m p a b pm c
  .rw[TC i];have h:m=1:=by lia
   subst h;unfold kas_descPart;rw[Wu];have l:=d (by lia);refine yL o an pm (N-(1+1)) (1+1) (by lia) (by lia) (λa b g hb=>?_) λm' q j n=>?_
   .have:a=0:=by lia
    have:b=1:=by lia
    subst_vars
    exact l
   .show KasT.kasWp cmp (if 0>0 then _ else kas_tail3 m' N p) Q s;rw[TC (by lia)];exact B5 o an pm (by lia) j n k
theorem oJ(o:Lt N lt)(an:FN N lt cmp s)(pm:Pm N p)(b:i<N)(so:So lt p i):∀(f l r:Nat){Q:Nat->Xo->Prop},l<=r->r<=i->r-l<=f->
 (∀a,a<l->lt (cJ p a) (cJ p i)=true)->(∀a,r<=a->a<i->lt (cJ p i) (cJ p a)=true)->
 (∀m,m<=i->(∀a,a<m->lt (cJ p a) (cJ p i)=true)->(∀a,m<=a->a<i->lt (cJ p i) (cJ p a)=true)->Q m s)->(kas_place p i f l r).kasWp cmp Q s
 |0,l,r,Q,h1,h2,h,d,g,k=>k l (by lia) d λa x y=>g a (by lia) y
 |f+1,l,r,Q,h1,h2,h,d,g,k=>by
  unfold kas_place;by_cases c:l>=r
  .rw[Tt c];exact k l (by lia) d λa x y=>g a (by lia) y
  .rw[TC c];refine an _ _ _ (pm.bd b) (pm.bd (by lia)) ?_;show KasT.kasWp cmp (if lt (cJ p i) (cJ p ((l+r)/2))=true then _ else _) Q s;by_cases q:lt (cJ p i) (cJ p ((l+r)/2))=true
   .rw[Tt q];refine oJ o an pm b so f l ((l+r)/2) (by lia) (by lia) (by lia) d (λa x y=>?_) k;by_cases e:a=(l+r)/2
    .rw[e];exact q
    .exact o.tr _ _ _ q (so _ _ (by lia) y)
   .rw[TC q];have q:lt (cJ p i) (cJ p ((l+r)/2))=false:=by grind
    have q:=o.ye (pm.bd b) (pm.bd (by lia)) (pm.ne b (by lia) (by lia)) q;refine oJ o an pm b so f _ r (by lia) h2 (by lia) (λa x=>?_) g k;by_cases e:a=(l+r)/2
    .rw[e];exact q
    .exact o.tr _ _ _ (so _ _ (by lia) (by lia)) q
def B7(a:i<p.size)(b:l<=i)(k:Nat):cJ (bubble p i (i-l)) k=if k=l then cJ p i else if l<k/\k<=i then cJ p (k-1)else cJ p k:=by
 have e:=getElem?_bubble a (i-l) (by lia) k;rw[show i-(i-l)=l by lia]at e;by_cases h1:k=l
 .rw[Tt h1]at e ⊢;exact B3 e
 .rw[TC h1]at e ⊢
  grind [B3]
theorem B8(o:Lt N lt)(an:FN N lt cmp s):∀(f i:Nat)(p:Array Nat){Q:Array Nat->Xo->Prop},Pm N p->i+f=N->So lt p i->
 (∀c,Pm N c->So lt c N->Q c s)->(kas_bin f p i).kasWp cmp Q s
 |0,i,p,Q,pm,h,so,k=>k p pm (by grind)
 |f+1,i,p,Q,pm,h,so,k=>by
  unfold kas_bin;rw[Wu];refine oJ o an pm (by lia) so i 0 i (by lia) (To _) (by lia) (λa x=>by lia) (λa x y=>by lia) λm d lo g=>?_;refine B8 o an f (i+1) _ (pm.perm (bubble_perm _ _ _)) (by lia) (λa b j hb=>?_) k;have e:i<p.size:=by rw[pm.size];lia
  rw[B7 e d,B7 e d]
  repeat' split
  all_goals first|lia|(exact g _ (by lia) (by lia))|(exact lo _ (by lia))|(exact so _ _ (by lia) (by lia))
def FO(o:Lt N lt)(an:FN N lt cmp s)(h2:2<=N)(k:∀p,Pm N p->So lt p N->Q p s):(kas_sort N).kasWp cmp Q s:=by
 unfold kas_sort;rw[Wu];have pm:Pm N (List.toArray (List.range N)):=by unfold Pm;simp
 refine B6 o an pm h2 λm f a b c d=>?_;show KasT.kasWp cmp (if m<N then kas_bin (N-max m 1) f (max m 1)else .ret f) Q s;by_cases e:m<N
 .rw[Tt e];have:max m 1=m:=by lia
  rw[this];exact B8 o an (N-m) m f c (by lia) d k
 .rw[TC e];have:m=N:=by lia
  subst this;exact k f c d
end
end ST
namespace L2
open PySem PySem.Spec PySem.Calls PyProof.Rows ST
abbrev iK(ns:List Int):List bv:=ns.map Sum.inl
section
def nV(h:(aK prog w).is (.inl i) v=true):∃t,v=.int i t:=by
 rcases bq (show kr (.inl i) v=true from h)with⟨j,t,e,rfl⟩|⟨x,t,e,_⟩
 .cases e;exact⟨t,rfl⟩
 .cases e
theorem items_int:∀{ns:List Int}{vs:List Xr},ItemsAre (aK prog w) (iK ns) vs->∀v∈vs,∃i t,v=.int i t
 |[],_,h,v,hv=>by cases h;simp at hv
 |n::ns,_,h,v,hv=>by
  cases h with
  |cons h1 h2=>
   rcases Tz.mp hv with rfl|hv
   .obtain⟨t,rfl⟩:=nV h1;exact⟨n,t,rfl⟩
   .exact items_int h2 v hv
def JL(f:(tK prog w).is s.heap (iK ns) b)(h:Q true s):wpAny (model prog w) A (hashByValue 8 (.ref b)) Q E s:=by
 have j:=IsTupleKey.typeIs f;obtain⟨o,a,n,k,_,hd,l⟩:=f;unfold hashByValue;refine KE (wpAny_specialOf j PySem.F.slot_tuple_hash.lookup ?_);dsimp only;refine KE (wpAny_seqItems k hd ?_);refine KE ?_;show wpAny _ _ (forIn a _ _) _ _ s;rw[<- Array.forIn_toList];refine wpAny_forIn_list _ (λrest r c=>r.1=none/\c=s/\∀v∈rest,∃i t,v=Value.int i t) _ ?_ ?_ _ _ ⟨rfl,rfl,items_int l⟩
 .rintro v rest r c ⟨d,rfl,g⟩;obtain⟨i,t,rfl⟩:=g v Tw;refine KE (Tl ?_);simp only[Vt,TY,UM];exact Tl ⟨rfl,rfl,λu e=>g u (Tu _ e)⟩
 .rintro⟨m,p⟩ c ⟨d,rfl,_⟩;simp only at d;subst d;exact Tl h
def uQ(f:(tK prog w).is s.heap (iK ns) b)(h:Q false s):wpAny (model prog w) A (ofAClassStatement 8 (.ref b)) Q E s:=by
 have j:=IsTupleKey.typeIs f;obtain⟨o,a,n,k,_,hd,l⟩:=f;unfold ofAClassStatement;refine KE (V3 j ?_);dsimp only;rw[Tt (by decide)];refine KE (Tl ?_);simp only[Vt,TY,UM];refine KE (wpAny_seqItems k hd ?_);refine KE ?_;show wpAny _ _ (forIn a _ _) _ _ s;rw[<- Array.forIn_toList];refine wpAny_forIn_list _ (λrest r c=>r.1=none/\c=s/\∀v∈rest,∃i t,v=Value.int i t) _ ?_ ?_ _ _ ⟨rfl,rfl,items_int l⟩
 .rintro v rest r c ⟨d,rfl,g⟩;obtain⟨i,t,rfl⟩:=g v Tw;refine KE (Tl ?_);simp only[TY,UM];exact Tl ⟨rfl,rfl,λu e=>g u (Tu _ e)⟩
 .rintro⟨m,p⟩ c ⟨d,rfl,_⟩;simp only at d;subst d;exact Tl h
def JM(g:(tK prog w).is s.heap (iK ns) b)(j:∀y∈ys,∃ms c,y=.ref c/\(tK prog w).is s.heap (iK ms) c)(h:Q false s):wpAny (model prog w) A (searchCouldBeSeen (.ref b) ys) Q E s:=by
 unfold searchCouldBeSeen;refine KE ?_;refine wpAny_forIn_list _ (λrest r d=>r.1=none/\d=s/\∀y∈rest,∃ms c,y=.ref c/\(tK prog w).is s.heap (iK ms) c) _ ?_ ?_ _ _ ⟨rfl,rfl,j⟩
 .rintro v rest r d ⟨e,rfl,i⟩;obtain⟨ms,c,rfl,hc⟩:=i v Tw;have a:∀u∈rest,∃ms c,u=Value.ref c/\(tK prog w).is d.heap (iK ms) c:=λu f=>i u (Tu _ f);dsimp only;split
  .exact Tl ⟨rfl,rfl,a⟩
  .refine KE ((tK prog w).quiet g ?_);simp only[Vt,TY,UM];refine KE ((tK prog w).quiet hc ?_);simp only[Vt,TY,UM];refine KE (uQ g ?_);simp only[TY,UM];refine KE (uQ hc ?_);simp only[TY,UM];exact Tl ⟨rfl,rfl,a⟩
 .rintro⟨k,l⟩ d ⟨e,rfl,_⟩;simp only at e;subst e;exact Tl h
end
section
def Sa(prog:Xq)(w:World)(h:Heap)(es:Array (Int×Xr)):Prop:=∀e∈es.toList,∃ms c,e=((tK prog w).hash (iK ms),Value.ref c)/\(tK prog w).is h (iK ms) c
def FP(h:wR m):(m%2==0)=false:=by rcases h with rfl|rfl|rfl|rfl<;>rfl
theorem ud.fits(T:ud t es)(a:t.place.size<=t.mask):t.fits es.size=true:=by unfold SetTable.fits SetTable.fill;rw[T.tb.Px];simp[T.len]at a ⊢;exact a
def kR{α:Type}{es:Array α}{i:Nat}{e:α}(h:es[i]?=some e):e∈es.toList:=TN.mpr ⟨i,by rw[Uc];exact h⟩
theorem qZ{ep:Nat}{t:SetTable}{ns:List Int}{Q:SetFound->Xo->Prop}(L:s.heap.get? a=some o)(hd:o.data=.set es ep t)(T:ud t es)(J:t.place.size<=t.mask)
 (Y:A.units<cLine) (M:(tK prog w).is s.heap (iK ns) b) (el:Sa prog w s.heap es)
 (h1:(∃e∈es.toList,∃c,e.2=.ref c/\(tK prog w).is s.heap (iK ns) c)->Q (.there none) s)
 (h2:(∀e∈es.toList,∀c,e.2=.ref c->¬(tK prog w).is s.heap (iK ns) c)->∀j,j∉t.place.toList->j<=t.mask->Rea t.mask (·∈ t.place.toList) ((tK prog w).hash (iK ns)) j->Q (.free j false) s) :
 ∀(fuel n:Nat)(d:Option SetTable.Probe),d.getD (t.probeStart ((tK prog w).hash (iK ns)))=it t.mask n (st t.mask ((tK prog w).hash (iK ns)))->
  (∀k,k<n->∃i e,∃f:i<t.place.size,t.place[i]=(it t.mask k (st t.mask ((tK prog w).hash (iK ns)))).j/\es[i]?=some e/\∀c,e.2=.ref c->¬(tK prog w).is s.heap (iK ns) c)->
  (∃N,n<=N/\N<n+fuel/\(it t.mask N (st t.mask ((tK prog w).hash (iK ns)))).j∉t.place.toList)->
  wpAny (model prog w) A (setSearchFrom a (.ref b) ((tK prog w).hash (iK ns)) true fuel d) Q E s
 |0,n,d,_,_,⟨N,x1,x2,_⟩=>by lia
 |fuel+1,n,d,e1,e2,⟨N,x1,x2,O⟩=>by
  have v0:Va t.mask (it t.mask n (st t.mask ((tK prog w).hash (iK ns)))):=(Va.st _ _).it;have sp:=wW T.tb J (λi=>(es[i]?.map (·.1)).getD 0) ((tK prog w).hash (iK ns)) v0;have at_:∀i,i<t.place.size->∃e,es[i]?=some e:=λi f=>⟨es[i]'(by rw[<- T.len];exact f),by simp[T.len▸f]⟩;unfold setSearchFrom;refine KE (U0 L hd (ud.fits T J) ?_);dsimp only;have hg:t.gaveWay=false:=FP T.tb.fj;rw[hg];simp only[TY,UM];rw[e1];have pre:∀{nn:Nat},(∀k,k<nn->∃i,∃f:i<t.place.size,t.place[i]=(it t.mask k (it t.mask n (st t.mask ((tK prog w).hash (iK ns))))).j/\(es[i]?.map (·.1)).getD 0≠(tK prog w).hash (iK ns))->
   ∀k,k<n+nn->∃i e,∃f:i<t.place.size,t.place[i]=(it t.mask k (st t.mask ((tK prog w).hash (iK ns)))).j/\es[i]?=some e/\∀c,e.2=.ref c->¬(tK prog w).is s.heap (iK ns) c:=by
   intro nn hb k z;by_cases B:k<n
   .exact e2 k B
   .obtain⟨i,f,q1,q2⟩:=hb (k-n) (by lia);obtain⟨e,l⟩:=at_ i f;refine⟨i,e,f,?_,l,λc hc g=>q2 ?_⟩
    .rw[q1,<- fQ,show n+(k-n)=k by lia]
    .obtain⟨ms,v,rfl,h⟩:=el e (kR l);have p:v=c:=by injection hc
     subst p;rw[l];show(tK prog w).hash (iK ms)=_;rw[(tK prog w).inj h g]
  generalize H:t.probe _ _ (it t.mask n (st t.mask ((tK prog w).hash (iK ns))))=pr;have I:t.probe (λi=>(es[i]?.map (·.1)).getD 0) ((tK prog w).hash (iK ns)) (it t.mask n (st t.mask ((tK prog w).hash (iK ns))))=pr:=H;rw[I]at sp;clear I H;cases sp with
  |em nn C hb=>
   dsimp only;refine Tl (h2 ?_ _ C (v0.it).Th ?_)
   .intro e l c hc g;obtain⟨i,f⟩:=TN.mp l;rw[Uc]at f;have D:i<t.place.size:=by rw[T.len];exact(Vb.mp f).1
    obtain⟨ms,v,rfl,h⟩:=el e l;have p:v=c:=by injection hc
    subst p;have ek:=(tK prog w).inj h g;have hz:(t.place[i],((tK prog w).hash (iK ms),Value.ref v))∈t.place.toList.zip es.toList:=TN.mpr ⟨i,by rw[We];exact⟨by simp[D],by rw[Uc];exact f⟩⟩;obtain⟨m,em,Z⟩:=T.MG _ hz;have em:(it t.mask m (st t.mask ((tK prog w).hash (iK ms)))).j=t.place[i]:=em;rw[ek]at em Z;have hm:m<n+nn:=by
     rcases WF m (n+nn)with q|q|q
     .exact q
     .exfalso;refine C ?_;show(it t.mask nn (it t.mask n _)).j∈t.place.toList;rw[<- fQ,<- q,em];simp
     .exfalso;refine C ?_;show(it t.mask nn (it t.mask n _)).j∈t.place.toList;rw[<- fQ];exact Z _ q
    obtain⟨r,K,F,q1,q2,q3⟩:=pre hb m hm;have P:r=i:=by
     have:t.place[r]=t.place[i]:=q1.trans em;rcases WF r i with q|q|q
     .have:=T8.mp T.tb.yg r i (by simpa using F) (by simpa using D) q;simp at this;lia
     .exact q
     .have:=T8.mp T.tb.yg i r (by simpa using D) (by simpa using F) q;simp at this;lia
    subst P;rw[f]at q2;cases q2;exact q3 v rfl g
   .refine⟨n+nn,by rw[fQ],λk z=>?_⟩;obtain⟨i,e,f,q1,_⟩:=pre hb k z;show _∈t.place.toList;rw[<- q1];simp
  |ca nn i f G hq hb=>
   dsimp only;obtain⟨e,l⟩:=at_ i f;obtain⟨ms,c,rfl,g⟩:=el e (kR l);have rest:wpAny (model prog w) A (do
    let some (_,y):=es[i]?|unsupported "internal:set-entry"
    let u <- holding [y] (eqBool y (.ref b))
    let (R,_,t') <- setState a
    if true&&u then return SetFound.there none
    let some same:=t'.sameMemory t.moves t.mask|unsupported "set.changed-during-lookup:is-the-new-block-at-the-old-address"
    let v_ <- match(if same then t'.slot (it t.mask nn (it t.mask n (st t.mask ((tK prog w).hash (iK ns))))).j else .empty)with
     |.live r=>match R[r]? with
      |some (_,y')=>do pure (if <- isSame y' y then some r else none)
      |none=>pure none
     |_=>pure none
    match v_ with
    |none=>rule "set.search.anew";setSearchFrom a (.ref b) ((tK prog w).hash (iK ns)) true fuel none
    |some r=>if u then return .there (some r)else setSearchFrom a (.ref b) ((tK prog w).hash (iK ns)) true fuel (some (it t.mask (nn+1) (it t.mask n (st t.mask ((tK prog w).hash (iK ns))))))) Q E s:=by
    rw[l];dsimp only;refine KE (UC ((tK prog w).eqBool Y g M ?_));refine KE (U0 L hd (ud.fits T J) ?_);dsimp only;by_cases x:iK ms=iK ns
    .rw[TZ x];simp only[WW,VW];exact Tl (h1 ⟨_,kR l,c,rfl,by rw[<- x];exact g⟩)
    .rw[Uw x];simp only[Xa,TY,UM];have S:t.sameMemory t.moves t.mask=some true:=by unfold SetTable.sameMemory;simp
     rw[S];dsimp only;rw[Tt rfl,<- G,qW T.tb f];dsimp only;rw[l];dsimp only;refine KE (wpAny_isSame_ref_self ?_);refine KE (Tl ?_);rw[Tt rfl]
     try dsimp only
     refine qZ L hd T J Y M el h1 h2 fuel (n+(nn+1)) _ ?_ ?_ ⟨N,?_,?_,O⟩
     .exact(fQ t.mask n (nn+1) _).symm
     .intro k z;by_cases B:k<n+nn
      .exact pre hb k B
      .have:k=n+nn:=by lia
       subst this;refine⟨i,_,f,by rw[G,fQ],l,λv p hh=>x ?_⟩;have:c=v:=by injection p
       subst this;exact(tK prog w).inj g hh
     .refine Vj λhc=>?_;have hN:N<n+(nn+1):=by lia
      by_cases U:N<n+nn
      .obtain⟨r,K,F,q1,_⟩:=pre hb N U;exact O (by rw[<- q1];simp)
      .have:N=n+nn:=by lia
       subst this;exact O (by rw[fQ,<- G];simp)
     .lia
   split
   .refine KE (JM M ?_ ?_)
    .intro y hy;obtain⟨K,V,rfl⟩:=TH.mp hy;have W:K∈es.toList:=by have:=(Array.mem_toList_iff).mp V;rw[Array.mem_filter]at this;exact Array.mem_toList_iff.mpr this.1
     obtain⟨X,v,rfl,h⟩:=el K W;exact⟨X,v,rfl,h⟩
    .simp only[TY,UM];exact rest
   .exact rest
end
def byT(w:World):Bool:=w.params.followText "set-order"
def SetAt(w:World)(h:Heap)(a:Addr)(es:Array (Int×Xr)):Prop:=∃o ep t,h.get? a=some o/\o.ExactSet/\o.data=.set es ep t/\ud t es/\qX t/\t.plain=true/\t.led=!byT w
def SetAt.keep(x:SetAt w h a es)(k:∀o,h.get? a=some o->h'.get? a=some o):SetAt w h' a es:=let ⟨o,ep,t,e,r⟩:=x;⟨o,ep,t,k o e,r⟩
def lw(h:qX t):t.place.size<=t.mask:=by unfold qX at h;lia
section
structure qq(es es':Array (Int×Xr)) (x:Int×Xr):Prop where
 mem:∀y,y∈es'.toList↔y=x\/y∈es.toList
 pw:∀R:Int×Xr->Int×Xr->Prop,(∀x y,R x y->R y x)->es.toList.Pairwise R->(∀e∈es.toList,R e x)->es'.toList.Pairwise R
 size:es'.size=es.size+1
def zW(es:Array (Int×Xr))(p:Nat)(x:Int×Xr)(a:p<=es.size):qq es (SetTable.insertAt es p x) x:=by
 have e:=ST.insertAt_toList es p x a;refine⟨λy=>?_,λR b pw c=>?_,ST.insertAt_size es p x a⟩
 .rw[e,T4,Tz];constructor
  .grind
  .rintro (rfl|z)
   .exact .inr (.inl rfl)
   .rw[<- Vn p es.toList,T4]at z;exact z.elim .inl λz=>.inr (.inr z)
 .rw[e,WU];rw[<- Vn p es.toList,WU]at pw;obtain⟨p1,p2,p3⟩:=pw;refine⟨p1,?_,?_⟩
  .rw[Wt]
   grind
  .grind
def qq.laid(g:qq es es1 x)(l:Laid m es1 es2 t):qq es es2 x:=⟨λy=>(l.mem y).trans (g.mem y),λR a pw b=>l.pw R a (g.pw R a pw b),by rw[l.size,g.size]⟩
def q_{ep:Nat}{t:SetTable}(b:Array (Int×Xr))(t':SetTable){h:Heap}(d:h.get? a=some o)(hex:o.ExactSet)(hd:o.data=.set es ep t) :
 ∃c,(h.update a (Obj.putSet b t')).get? a=some c/\c.ExactSet/\c.data=.set b (ep+1) t':=by
 have:=UK (Obj.putSet b t') d (by rw[putSet_of b t' hd];rfl);rw[putSet_of b t' hd]at this;exact⟨_,this,hex,rfl⟩
def w6{t:SetTable}(h:wR t.mask)(h1:n*5<t.mask*3)(h2:(n+1)*5>=t.mask*3)(a:n+1<=300):∃m,SetTable.sizeAbove (SetTable.grown (n+1))=m+1/\wR m/\(n+1)*5<m*3:=by
 rcases h with e|e|e|e<;>rw[e]at h1 h2
 .have:n=4:=by lia
  subst this;exact⟨31,by decide,.inr (.inl rfl),by lia⟩
 .have:n=18:=by lia
  subst this;exact⟨127,by decide,.inr (.inr (.inl rfl)),by lia⟩
 .have:n=76:=by lia
  subst this;exact⟨511,by decide,.inr (.inr (.inr rfl)),by lia⟩
 .lia
def B9{a:Addr}{o:Obj}{es:Array (Int×Xr)}{Q:Unit->Xo->Prop}(d:s.heap.get? a=some o)(hex:o.ExactSet)(hd:o.data=.set es ep t)(l:t.fits es.size=true)(j:wR m)(k:SetTable.sizeAbove n=m+1)(p:es.size*5<m*3)(f:t.plain=true)(g:t.led=!byT w)
 (h:∀c t',Laid m es c t'->SetAt w (s.heap.update a (Obj.putSet c t')) a c->Q () {s with heap:=s.heap.update a (Obj.putSet c t')}):wpAny (model prog w) A (setRelay a n) Q E s:=by
 have q:m<=511:=by rcases j with rfl|rfl|rfl|rfl<;>lia
 unfold setRelay;refine KE (U0 d hd l ?_);dsimp only;rw[TC (by rw[k,Ud];lia)];obtain⟨t',b,e,L,i,u⟩:=FM j es (by lia) t.finger (t.movedTo m) t.led t.plain;have er:t.relaid (es.map (·.1)) n=some (t',b):=by unfold SetTable.relaid;rw[k];exact e
 rw[er];show wpAny _ _ (do
  let r <- (do
   if(b.filterMap (es[·]?)).size != es.size then unsupported "internal:set-table-lost-an-element"
   pure (b.filterMap (es[·]?),t'):Sem (Array (Int×Xr)×SetTable))
  storeSet a r.1 r.2) _ _ _
 refine KE ?_;rw[TC (by rw[L.size];simp)];refine Tl ?_;refine wpAny_storeSet_of d hd ?_ (by show(b.filterMap (es[·]?)).size<=_;rw[L.size,Ud];lia);obtain⟨v,g1,g2,g3⟩:=q_ (b.filterMap (es[·]?)) t' d hex hd;refine h _ t' L ⟨v,_,t',g1,g2,g3,L.Bb,?_,by rw[u];exact f,by rw[i];exact g⟩;unfold qX;rw[L.Bb.len,L.size,L.mask];exact p
end
section
def B_(T:ud t es)(a:t.place.size<=t.mask)(h:Int):∃N,N<100000/\(it t.mask N (st t.mask h)).j∉t.place.toList:=by
 obtain⟨j,b,c⟩:=oG T.tb a;obtain⟨N,h1,h2⟩:=Ig T.tb.fj b (Va.st t.mask h);refine⟨N,?_,by rw[h2];exact c⟩;have:t.mask<=511:=by rcases T.tb.fj with e|e|e|e<;>rw[e]<;>lia
 unfold SetTable.turns at h1;lia
def JN(G:A.units<cLine)(q:(tK prog w).is s.heap (iK ns) b)(K:SetAt w s.heap a es)(el:Sa prog w s.heap es)(hz:es.size+1<=300)
 (h1:∀tk,s.toks<=tk->(∃e∈es.toList,∃c,e.2=.ref c/\(tK prog w).is s.heap (iK ns) c)->Q false {s with toks:=tk})
 (h2:∀tk h' h,s.toks<=tk->(∀e∈es.toList,∀c,e.2=.ref c->¬(tK prog w).is s.heap (iK ns) c)->Heap.SameBut a s.heap h'->SetAt w h' a h->qq es h ((tK prog w).hash (iK ns),.ref b)->Q true {s with heap:=h',toks:=tk}) :
 wpAny (model prog w) A (setAdd a (.ref b)) Q E s:=by
 obtain⟨o,ep,t,p,hex,hd,T,sp,r,u⟩:=K;have H:=ud.fits T (lw sp);unfold setAdd;refine UC ?_;refine KE ((tK prog w).pyHash G q ?_);have i:s.toks<=s.toks+(tK prog w).draws (iK ns):=WN _ _;generalize s.toks+(tK prog w).draws (iK ns)=tk at i;unfold setAddHashed setAddHashedIn;refine UC ?_;refine KE (U0 (s:={s with toks:=tk}) p hd H ?_);dsimp only;have x:byScan (.ref b) es=false:=by simp[byScan,Value.scannable]
 rw[x];simp only[TY,UM];unfold setSearch;obtain⟨N,V,M⟩:=B_ T (lw sp) ((tK prog w).hash (iK ns));refine KE (qZ (s:={s with toks:=tk}) p hd T (lw sp) G q el (λy=>?_) (λl j O z P=>?_) 100000 0 none rfl (λk R=>by lia) ⟨N,T2 _,by lia,M⟩)
 .exact Tl (h1 tk i y)
 .dsimp only;refine KE (U0 (s:={s with toks:=tk}) p hd H ?_);dsimp only;obtain⟨B,em,C⟩:=JI T O z (v:=Value.ref b) P;have f:(t.put j).1.plain=true:=by rw[sK T.tb];exact r
  have n:(t.put j).1.led=!byT w:=by rw[sK T.tb];exact u
  rw[f];simp only[VW];refine KE (JL (s:={s with toks:=tk}) q ?_);simp only[VW];have S:(t.put j).2<=es.size:=by rw[yK,<- T.len];exact(fR j T.tb.yg).1
  have g:=zW es (t.put j).2 ((tK prog w).hash (iK ns),Value.ref b) S;refine KE (wpAny_storeSet_of (s:={s with toks:=tk}) p hd ?_ (by rw[g.size,Ud];lia));obtain⟨o1,q1,q2,I⟩:=q_ (SetTable.insertAt es (t.put j).2 ((tK prog w).hash (iK ns),Value.ref b)) (t.put j).1 p hex hd;have J:=Uk s.heap a (Obj.putSet (SetTable.insertAt es (t.put j).2 ((tK prog w).hash (iK ns),Value.ref b)) (t.put j).1);have fill:(t.put j).1.fill=es.size+1:=by unfold SetTable.fill;rw[B.tb.Px,C,T.len];rfl
  by_cases d:(t.put j).1.tooFull=true
  .rw[d];simp only[Bool.not_false,WW,VW];unfold SetTable.tooFull at d;rw[fill,em]at d;have d:(es.size+1)*5>=t.mask*3:=by simpa using d
   have D:es.size*5<t.mask*3:=by rw[<- T.len];exact sp
   obtain⟨m,U,m2,m3⟩:=w6 T.tb.fj D d hz;have F:(t.put j).1.place.size<=(t.put j).1.mask:=by
    rw[C,em];unfold qX at sp;have:t.mask>=7:=by rcases T.tb.fj with e|e|e|e<;>rw[e]<;>lia
    lia
   refine KE (B9 (s:={s with heap:=s.heap.update a (Obj.putSet (SetTable.insertAt es (t.put j).2 ((tK prog w).hash (iK ns),Value.ref b)) (t.put j).1),toks:=tk}) q1 q2 I (ud.fits B F) m2 U (by rw[g.size];exact m3) f n λh t' L sa=>?_);exact Tl (h2 tk _ h i l (J.trans (Uk _ a _)) sa (g.laid L))
  .have d:(t.put j).1.tooFull=false:=by simpa using d
   rw[d];simp only[Xa,TY,UM];refine Tl (h2 tk _ _ i l J ⟨o1,_,_,q1,q2,I,B,?_,f,n⟩ g);unfold SetTable.tooFull at d;unfold qX;rw[fill]at d;rw[C,T.len];simpa using d
end
abbrev kA:=List Int×Addr
def Ca(h:iK a=iK b):a=b:=by
 induction a generalizing b with
 |nil=>cases b with
  |nil=>rfl
  |cons _ _=>cases h
 |cons x a c=>cases b with
  |nil=>cases h
  |cons y b=>grind
section
variable{κ μ:Type}{x:κ×μ}
structure g9(ent:κ×μ->Int×Xr) (es:Array (Int×Xr)) (xs:List (κ×μ)):Prop where
 el:∀e∈es.toList,∃x∈xs,e=ent x
 sz:es.size<=xs.length
 pw:es.toList.Pairwise λe e'=>∀x x',e=ent x->e'=ent x'->x∈xs->x'∈xs->x.1≠x'.1
 all:∀x∈xs,∃y∈xs,y.1=x.1/\ent y∈es.toList
def FQ(ent:κ×μ->Int×Xr)(xs:List (κ×μ)):Prop:=∀x∈xs,∀y∈xs,ent x=ent y->x.1=y.1
def g9.wide(v:g9 ent es xs)(un:FQ ent (xs++[x])):es.toList.Pairwise λe h=>∀y c,e=ent y->h=ent c->y∈xs++[x]->c∈xs++[x]->y.1≠c.1:=by refine U5 (λ{a b} ha hb f z i e1 e2 j m2=>?_) v.pw;obtain⟨y,g,rfl⟩:=v.el a ha;obtain⟨c,d,rfl⟩:=v.el b hb;rw[un z j y (Ul _ g) e1.symm,un i m2 c (Ul _ d) e2.symm];exact f y c rfl rfl g d
def g9.seen(v:g9 ent es xs)(a:∃y∈xs,y.1=x.1)(un:FQ ent (xs++[x])):g9 ent es (xs++[x]):=by
 refine⟨λe b=>?_,?_,v.wide un,λy hy=>?_⟩
 .obtain⟨z,h1,h2⟩:=v.el e b;exact⟨z,Ul _ h1,h2⟩
 .have:=v.sz;simp;lia
 .obtain⟨c,h1,h2⟩ : ∃z∈xs,z.1=y.1:=by
   rcases T4.mp hy with hy|hy
   .exact⟨y,hy,rfl⟩
   .rw[TV]at hy;subst hy;exact a
  obtain⟨z,g1,g2,g3⟩:=v.all c h1;exact⟨z,Ul _ g1,g2.trans h2,g3⟩
def g9.new(v:g9 ent es xs)(c:¬∃y∈xs,y.1=x.1)(un:FQ ent (xs++[x]))(g:qq es es' (ent x)):g9 ent es' (xs++[x]):=by
 have d:x∈xs++[x]:=Ub _ (TV.mpr rfl);refine⟨λe he=>?_,?_,?_,λy hy=>?_⟩
 .rcases (g.mem e).mp he with rfl|he
  .exact⟨x,d,rfl⟩
  .obtain⟨z,h1,h2⟩:=v.el e he;exact⟨z,Ul _ h1,h2⟩
 .have:=v.sz;rw[g.size];simp;lia
 .refine g.pw _ (λa b f z i e1 e2 j m2 h=>f i z e2 e1 m2 j h.symm) (v.wide un) λe he z i e1 e2 j m2 h=>?_;obtain⟨y,k,rfl⟩:=v.el e he;exact c ⟨y,k,(un z j y (Ul _ k) e1.symm).symm.trans (h.trans (un i m2 x d e2.symm))⟩
 .rcases T4.mp hy with hy|hy
  .obtain⟨z,h1,h2,l⟩:=v.all y hy;exact⟨z,Ul _ h1,h2,(g.mem _).mpr (.inr l)⟩
  .rw[TV]at hy;subst hy;exact⟨y,d,rfl,(g.mem _).mpr (.inl rfl)⟩
end
section
variable{κ μ:Type}
def Cb(prog:Xq)(w:World)(A:Xs)(hb:Heap)(S:Addr)(ent:κ×μ->Int×Xr)(its:List (κ×μ)):Prop:=∀(x:κ×μ)(xs:List (κ×μ))(s:Xo)(es:Array (Int×Xr))(Q:Bool->Xo->Prop)(E:Xr->Xo->Prop),x∈its->(∀y∈xs,y∈its)->(∀b o,hb.get? b=some o->s.heap.get? b=some o)->SetAt w s.heap S es->g9 ent es xs->es.size+1<=300->
 (∀tk,s.toks<=tk->(∃y∈xs,y.1=x.1)->Q false {s with toks:=tk})->(∀tk h' a,s.toks<=tk->(¬∃y∈xs,y.1=x.1)->Heap.SameBut S s.heap h'->SetAt w h' S a->qq es a (ent x)->Q true {s with heap:=h',toks:=tk})->wpAny (model prog w) A (setAdd S (ent x).2) Q E s
variable{St:Nat->Xo->Prop}
def mC(W:WalksS prog w A.in1 I fp wr G n P St)(S:Addr)(H:S∉fp)(hb:Heap)(T:hb.get? S=none)(U:∀b∈wr,hb.get? b=none)(its:List (κ×μ))(hn:its.length=n)
 (J:∀i v,P i v->∃x,its[i]?=some x/\v=(ent x).2) (un:FQ ent its) (add:Cb prog w A.in1 hb S ent its) (hz:n<=300) :
 ∀(k i:Nat)(s:Xo)(es:Array (Int×Xr)),n-i=k->i<=n->St i s->(∀b o,hb.get? b=some o->s.heap.get? b=some o)->SetAt w s.heap S es->g9 ent es (its.take i)->
  (∀c m,Moved (S::wr) G s c->SetAt w c.heap S m->g9 ent m its->R (.ok (.ret .none)) c)->
  codeAny (model prog w) A (.builtin "set.update.loop" ⟨[.ref S,.ref I],[]⟩) R s:=by
 have L:S∉wr:=λh=>H (W.sub _ h);have d:∀b∈wr,b∈S::wr:=λb hb=>Tu _ hb;intro k;induction k with
 |zero=>
  intro i s es hk hi q K V v Q;have r:i=n:=by lia
  subst r;refine U8 Wf ?_;rw[Vq U2 _];show wpAny _ A.in1 (pyNext (.ref I) >>= _) _ _ s;refine KE (W.done s _ _ q λc t=>?_);rw[UT (by lia)]at v;have X:=Q c es (t.mono d) (V.keep λo e=>t.heap S o L e) v;show wpAny _ A.in1 (ret Value.none) _ _ c;exact Tl X
 |succ k ih=>
  intro i s es hk hi q K V v Q;have B:i<n:=by lia
  refine U8 Wf ?_;rw[Vq U2 _];show wpAny _ A.in1 (pyNext (.ref I) >>= _) _ _ s;refine KE (W.item i s _ _ B q λu c hP p t=>?_);obtain⟨x,hx,rfl⟩:=J i u hP;have C:its.take (i+1)=its.take i++[x]:=by rw[Ui,hx];rfl
  have M:FQ ent (its.take i++[x]):=by rw[<- C];exact λy Y z hz=>un y (U_ Y) z (U_ hz)
  have Z:∀b o,hb.get? b=some o->c.heap.get? b=some o:=λb o e=>t.heap b o (λz=>by rw[U b z]at e;cases e) (K b o e);have N:=V.keep λo e=>t.heap S o L e;have hes:es.size+1<=300:=by have:=v.sz;rw[Uz]at this;lia
  show wpAny _ A.in1 (holding [(ent x).2] (setAdd S (ent x).2) >>= _) _ _ c;refine KE (UC (add x (its.take i) c es _ _ (T5 hx) (λy Y=>U_ Y) Z N v hes (λtk a r=>?_) λtk h' m a O D hSn g=>?_))
  .refine Tl ⟨Ws U2 _,ih (i+1) _ es (by lia) B (W.frame _ c _ _ p a λb hb o e=>e) Z N (by rw[C];exact v.seen r M) λE f j l F=>?_⟩;exact Q E f (Moved.trans W.gtrans ((t.mono d).then_heap a λb o hb e=>e) j) l F
  .have K2:∀b o,hb.get? b=some o->h'.get? b=some o:=λb o e=>(D.2 b (λz=>by rw[z,T]at e;cases e)).trans (Z b o e);refine Tl ⟨Ws U2 _,ih (i+1) _ m (by lia) B (W.frame _ c _ _ p a λb hb o e=>?_) K2 hSn (by rw[C];exact v.new O M g) λE f j l F=>?_⟩
   .rw[D.2 b (λh:b=S=>H (h▸hb))];exact e
   .refine Q E f (Moved.trans W.gtrans ((t.mono d).then_heap a λb o hb e=>?_) j) l F;rw[D.2 b (λh:b=S=>hb (h▸Tw))];exact e
abbrev eT(prog:Xq)(w:World)(x:kA):Int×Xr:=((tK prog w).hash (iK x.1),Value.ref x.2)
def JO(a:∀x∈its,(tK prog w).is hb (iK x.1) x.2):FQ (eT prog w) its:=λx b y c e=>Ca ((tK prog w).inj (a x b) (by
 have e:x.2=y.2:=by injection e with _ e;injection e
 rw[e];exact a y c))
def FR(l:A.units<cLine)(d:∀x∈its,(tK prog w).is hb (iK x.1) x.2):Cb prog w A hb S (eT prog w) its:=λx xs s es Q E m n K o v hz h1 h2=>by
 have a:∀y∈xs,(tK prog w).is s.heap (iK y.1) y.2:=λy i=>j5 (d y (n y i)) K;refine JN l (j5 (d x m) K) o (λe j=>?_) hz (λtk t b=>h1 tk t ?_) λtk h' k t f p sa g=>h2 tk h' k t (λb=>?_) p sa g
 .obtain⟨y,i,rfl⟩:=v.el e j;exact⟨_,_,rfl,a y i⟩
 .obtain⟨e,j,c,hc,q⟩:=b;obtain⟨y,h,rfl⟩:=v.el e j;injection hc with hc;subst hc;exact⟨y,h,Ca ((tK prog w).inj (a y h) q)⟩
 .obtain⟨y,h,r⟩:=b;obtain⟨z,u,B,C⟩:=v.all y h;exact f _ C z.2 rfl (by rw[<- r,<- B];exact a z u)
end
abbrev setNew(led:Bool):Obj:={ cls:=.type "set",dict:=none,data:=.set #[] 0 (.fresh 0 0 led) }
def zX(e:h.get? a=some (setNew (!byT w))):SetAt w h a #[]:=by refine⟨_,0,_,e,⟨rfl,rfl,rfl⟩,rfl,⟨⟨.inl rfl,rfl,List.Pairwise.nil,λj b=>nomatch b⟩,rfl,λq c=>nomatch c⟩,?_,rfl,rfl⟩;show 0*5<7*3;decide
section
def qx(a:Xr)(h:Q₁ (.ref s.heap.objs.size) {s with heap:=s.heap.push (setNew (!byT w))}) :
 codeAny (model prog w) A (.call (.builtin "set.__new__") ⟨[.type "set",a],[]⟩) (wants Q₁ E) s:=by
 refine codeAny_of_tree (show wpAny _ A.in1 (do checkBuiltinCall "set.__new__" ⟨[.type "set",a],[]⟩;again (.builtin "set.__new__" ⟨[.type "set",a],[]⟩)) _ _ s from ?_);refine KE (wpAny_of_eq (PySem.F.newCall_set_1 a) (Tl ⟨Ws PySem.F.plain_set_new _,U8 PySem.F.entry_set_new ?_⟩));rw[Vq PySem.F.plain_set_new _];unfold Builtin.«set.__new__» Builtin.Frozenset.newClass;have b:=sub_set_self;obtain⟨c,g,d,tk,os⟩:=s;dsimp only;wp_walk;refine wpAny_askSetting (Tl ?_);dsimp only;simp only[newObj];refine KE (wpAny_alloc (Tl ?_));exact Tl h
def zY{κ K:Type}{ent:κ×K->Int×Xr}{l:Addr}{a:Array Xr}{nl:Nat}{its:List (κ×K)} {Q:Xr->Xo->Prop} (T:A.handled=none) (L:s.heap.get? l=some { cls:=.type "list",data:=.seq a nl }) (U:its.length=a.size) (hz:a.size<=300)
 (k:∀(i:Nat)(v:Xr),a[i]?=some v->∃x,its[i]?=some x/\v=(ent x).2) (un:FQ ent its) (add:Cb prog w A.in1.in1.in1 s.heap s.heap.objs.size ent its)
 (h:∀(h':Heap)(tk:Nat)(es:Array (Int×Xr)),SetAt w h' s.heap.objs.size es->g9 ent es its->(∀b o,b<s.heap.objs.size->s.heap.get? b=some o->h'.get? b=some o)->Q (.ref s.heap.objs.size) {s with heap:=h',toks:=tk}) :
 wpAny (model prog w) A (call (.type "set") [.ref l]) Q E s:=by
 obtain⟨c,tl,M⟩:=PySem.F.called_set.mro;have B:=PySem.F.called_set.made;have N:=PySem.F.called_set.sub;refine wpAny_call (codeAny_of_tree ?_);show wpAny _ _ (callAny (.type "set") _) _ _ _;refine Tl ⟨Code.quiet_builtin _ (by decide +kernel),U8 PySem.F.entry_type_call ?_⟩;rw[Around.under_plain (weight_type_call_type "set" [.ref l] []) rfl];have h1:=PySem.F.called_set.notType;have h2:=PySem.F.called_set.canCreate;have V:=PySem.F.typeCall_set_1 (.ref l)
 repeat (any_goals (first|assumption|wp_step))
 refine WH (qx (.ref l) (E:=E) (Q₁:=λobj f=>obj=.ref s.heap.objs.size/\f={s with heap:=s.heap.push (setNew (!byT w))}) ⟨rfl,rfl⟩) λr f C=>?_;rcases r with e|fl
 .exact C
 cases fl with
 |ret obj=>
  obtain⟨rfl,rfl⟩:=C;have O:(s.heap.push (setNew (!byT w))).get? s.heap.objs.size=some (setNew (!byT w)):=Tv _ rfl;have W:Shared.TypeIs {s with heap:=s.heap.push (setNew (!byT w))} (.ref s.heap.objs.size) "set":=⟨_,O,rfl⟩;have X:=PySem.F.called_set.init.lookup;have Y:=PySem.F.called_set.init.bind (.ref s.heap.objs.size)
  repeat (any_goals (first|assumption|wp_step))
  refine WH (codeAny_call_builtin (R:=wants (λr g=>r=.none/\∃h' tk es,g={s with heap:=h',toks:=tk}/\SetAt w h' s.heap.objs.size es/\g9 ent es its/\
   (∀b o,b<s.heap.objs.size->s.heap.get? b=some o->h'.get? b=some o)) E) PySem.F.called_set.init.plain PySem.F.entry_set_init (check_set_init_1 W ?_)) λm g d=>?_
  .have n:(s.heap.push (setNew (!byT w))).get? l=some { cls:=.type "list",data:=.seq a nl }:=Tn _ L;have P:=PySem.F.sub_list_set;have S:=PySem.F.sub_list_frozenset;have Z:(Value.type "list"==Value.type "dict")=false:=by decide
   have p:(s.heap.push (setNew (!byT w))).IsList l a:=⟨_,n,rfl,nl,rfl⟩;unfold Builtin.«set.__init__» noKeywords Builtin.Frozenset.updateFrom;generalize D:pyIter=PI
   wp_walk
   subst D;refine V6 p (KE (wpAny_runValue ?_));have t:l<s.heap.objs.size:=TF L;have G:A.in1.in1.in1.handled=none:=by simp[T]
   have u:l≠(s.heap.push (setNew (!byT w))).objs.size:=by rw[VV];exact T1 (V8 t)
   have y:∀b,s.heap.objs.size<=b->s.heap.get? b=none:=λb hb=>by
    cases q:s.heap.get? b with
    |none=>rfl
    |some o=>exact absurd (TF q) (Nat.not_lt.mpr hb)
   refine mC ((Walks.list G _ l u a).toS) s.heap.objs.size ?hSf s.heap (y _ (To _)) ?hbw its U k un add hz (a.size-0) 0 _ #[] rfl (T2 _) ⟨⟨_,Tv _ rfl,rfl,rfl⟩,(p.push _)⟩
    (λb o e=>Tn _ (Tn _ e)) (zX (Tn _ O)) ⟨λe he=>(nomatch he),T2 _,List.Pairwise.nil,λx hx=>(nomatch hx)⟩ ?hR
   case hSf=>rw[VV];simp only[Tz,TR,W8,not_or];exact⟨T1 (VR _),VD t⟩
   case hbw=>intro b hb;simp only[Tz,TR,W8]at hb;subst hb;exact y _ (by rw[VV];lia)
   case hR=>intro s' es z j v;obtain⟨h',g',d',H,I⟩:=s';have eg:g'=s.gens:=z.gens;have ed:d'=s.drawn:=z.drawn;have eo:I=s.os:=z.os;subst eg ed eo;refine Tl (Tl ⟨rfl,h',H,es,rfl,j,v,λb o hb e=>z.heap b o ?_ (Tn _ (Tn _ e))⟩);simp only[Tz,TR,W8,not_or];exact⟨T1 hb,by rw[VV];exact T1 (V8 hb)⟩
  .rcases m with e|fl₂
   .exact d
   cases fl₂ with
   |ret r=>
    obtain⟨rfl,h',tk,es,rfl,j,v,J⟩:=d
    repeat (any_goals (first|assumption|wp_step))
    exact h _ _ _ j v J
   |_=>exact d.elim
 |_=>exact C.elim
end
theorem oK{α:Type}:∀(l:List α)(i:Nat)(h:i<l.length),(l[i]::l.eraseIdx i).Perm l
 |[],i,h=>by simp at h
 |x::l,0,h=>Vv _
 |x::l,i+1,h=>by have a:=oK l i (by simpa using h);have e:(x::l).eraseIdx (i+1)=x::l.eraseIdx i:=rfl;rw[e,List.getElem_cons_succ];exact(List.Perm.swap _ _ _).trans (List.Perm.cons x a)
theorem yM{α:Type}(next:Nat->Nat):∀(a k:Nat)(left:List α)(out:Array α),left.length=a->(pickOrder.go next a k left out).toList.Perm (out.toList++left)
 |0,k,left,out,h=>by have:left=[]:=UO.mp h;subst this;unfold pickOrder.go;simp
 |f+1,k,left,out,h=>by have b:next k%left.length<left.length:=Xn _ (by lia);unfold pickOrder.go;rw[Ts b];dsimp only;have c:=yM next f (k+1) (left.eraseIdx (next k%left.length)) (out.push left[next k%left.length]) (by rw[List.length_eraseIdx,Tt b];lia);refine c.trans ?_;rw[Array.toList_push,U6];exact List.Perm.append_left _ (oK left _ b)
def zZ{α:Type}(next:Nat->Nat)(xs:Array α):(pickOrder next xs).toList.Perm xs.toList:=by have:=yM next xs.size 0 xs.toList #[] (by simp);unfold pickOrder;simpa using this
def jy(w:World)(S:Addr)(ep:Nat)(es:Array (Int×Xr)):Array (Int×Xr):=if byT w then pickOrder (w.params.setOrder S ep) es else es
def uR(w:World)(S:Addr)(ep:Nat)(es:Array (Int×Xr)):(jy w S ep es).toList.Perm es.toList:=by
 unfold jy;split
 .exact zZ _ _
 .exact Vv _
def lz(w:World)(S:Addr)(ep:Nat)(es:Array (Int×Xr)):(jy w S ep es).size=es.size:=by have:=(uR w S ep es).length_eq;simpa using this
def di(w:World)(t:SetTable):Nat->Nat
 |0=>0
 |i+1=>if byT w then 0 else t.place.getD i 0+1
def w8(T:Tb t):∀(i:Nat),i<=t.place.size->SetTable.below t.place (match i with|0=>0|i+1=>t.place.getD i 0+1)=i
 |0,_=>by
  obtain⟨a,b,c⟩:=fR 0 T.yg;dsimp only;rcases Nat.eq_zero_or_pos (SetTable.below t.place 0)with h|h
  .exact h
  .have:=b 0 (by lia) h;lia
 |i+1,d=>by
  dsimp only;have e:t.place.getD i 0=t.place[i]:=by simp[Array.getD,show i<t.place.size by lia]
  rw[e];obtain⟨a,b,c⟩:=fR (t.place[i]+1) T.yg;rcases WF (SetTable.below t.place (t.place[i]+1)) (i+1)with q|q|q
  .have h1:=c i (by lia) (by lia);lia
  .exact q
  .have h1:=b (i+1) (by lia) q;have h2:=T8.mp T.yg i (i+1) (by simp;lia) (by simp;lia) (by lia);simp at h2;lia
def slot_setiter_next:Slot "set_iterator" "__next__" "set_iterator.__next__":=.of (owner:="set_iterator") (n:="__next__") (by rw[typeLookup_type,builtinLookup_eq_fast];kernel_rfl) (by decide +kernel) (by decide +kernel) (by decide +kernel) (by first|exact .inl (by decide +kernel)|exact .inr (by decide +kernel)) (by rw[isSubtype_type];kernel_rfl)
def fS:entryFor table "set_iterator.__next__"=some Builtin.«set_iterator.__next__»:=entryFor_of_fast (by kernel_rfl)
def gr(a:Xr):argsOk "set_iterator.__next__" ⟨[a],[]⟩:=by(unfold argsOk;kernel_rfl)
def qy:entryFor table "set.__iter__"=some Builtin.«frozenset.__iter__»:=entryFor_alias (id':="frozenset.__iter__") (by kernel_rfl) rfl (by decide +kernel) (by kernel_rfl)
def SetIt(h:Heap)(it S:Addr)(slot i n ep:Nat):Prop:=∃o,h.get? it=some o/\o.cls=.type "set_iterator"/\o.data=.fields #[.int slot 0,.int i 0,.ref S,.int n 0,.int ep 0]
def SetIt.typeIs{s:Xo}{it S:Addr}{slot i n ep:Nat}(x:SetIt s.heap it S slot i n ep):s.TypeIs (.ref it) "set_iterator":=let ⟨o,a,hc,_⟩:=x;⟨o,a,hc⟩
def mD(h:Heap)(S:Addr)(es:Array (Int×Xr))(ep:Nat)(t:SetTable):Prop:=∃o,h.get? S=some o/\o.ExactSet/\o.data=.set es ep t
section
def w_(h:Q (byT w) s):wpAny (model prog w) A setsByText Q E s:=by unfold setsByText;exact KE (wpAny_askSetting (Tl h))
def oM(r:mD s.heap S es ep t)(T:ud t es)(j:t.place.size<=t.mask)(c:t.plain=true)(a:t.led=!byT w)(k:i<=es.size)
 (h:Q (((jy w S ep es)[i]?).map λe=>(e.2,di w t (i+1))) s):wpAny (model prog w) A (setNext S (di w t i) i ep) Q E s:=by
 obtain⟨o,d,hex,hd⟩:=r;have f:=ud.fits T j;unfold setNext;refine KE (U0 d hd f ?_);dsimp only;refine KE (w_ ?_);cases hb:byT w with
 |true=>
  simp only[VW];rw[TC (by simp)];refine KE ?_;unfold setWalk;refine KE (U0 d hd f ?_);dsimp only;refine KE (w_ ?_);rw[hb];simp only[VW];refine KE (wpAny_askSetting (Tl ?_));have e1:di w t (i+1)=0:=by unfold di;rw[hb];rfl
  have e2:di w t i=0:=by cases i with|zero=>rfl|succ i=>(unfold di;rw[hb];rfl)
  rw[e2];rw[e1]at h;unfold jy at h;rw[hb]at h;exact Tl h
 |false=>
  simp only[TY,UM];rw[hb]at a;have a:t.led=true:=a;show wpAny _ _ (if(!t.plain&&decide (es.size>1))=true then _ else _) _ _ _;rw[c];simp only[Vt,W_,TY,UM];show wpAny _ _ ((if(!t.led&&!es.isEmpty)=true then unsupported "set:maker-not-led" else pure ()) >>= λ_=>_) _ _ _;rw[a];simp only[Vt,W_,TY,UM];refine KE (Tl ?_);have e1:SetTable.below t.place (di w t i)=i:=by
   have:=w8 T.tb i (by rw[T.len];exact k);cases i with
   |zero=>exact this
   |succ i=>unfold di;rw[hb];exact this
  have l:jy w S ep es=es:=by unfold jy;rw[hb];rfl
  rw[l]at h;rw[e1];by_cases b:i<es.size
  .have g1:es[i]?=some es[i]:=by simp[b]
   have g:i<t.place.size:=by rw[T.len];exact b
   have g2:t.place[i]?=some t.place[i]:=by simp[g]
   rw[g1]at h;rw[g1,g2];have e2:di w t (i+1)=t.place[i]+1:=by unfold di;rw[hb];simp[Array.getD,g]
   rw[e2]at h;exact Tl h
  .have g1:es[i]?=none:=by simp;lia
   rw[g1]at h;rw[g1];exact Tl h
end
def gs:Slot "set_iterator" "__iter__" "set_iterator.__iter__":=.of (owner:="set_iterator") (n:="__iter__") (by rw[typeLookup_type,builtinLookup_eq_fast];kernel_rfl) (by decide +kernel) (by decide +kernel) (by decide +kernel) (by first|exact .inl (by decide +kernel)|exact .inr (by decide +kernel)) (by rw[isSubtype_type];kernel_rfl)
def kT:entryFor table "set_iterator.__iter__"=some Builtin.«dict_keyiterator.__iter__»:=entryFor_alias (id':="dict_keyiterator.__iter__") (by kernel_rfl) rfl (by decide +kernel) (by kernel_rfl)
def lA(a:Xr):argsOk "set_iterator.__iter__" ⟨[a],[]⟩:=by(unfold argsOk;kernel_rfl)
section
def re{it S:Addr}{slot i n ep:Nat}{P:PySem.Fin->Xo->Prop}{F:Xr->Xo->Prop}(f:s.heap.get? it=some o)(hd:o.data=.fields #[.int slot 0,.int i 0,.ref S,.int n 0,.int ep 0])
 (r:mD s.heap S es ep t) (g:t.fits es.size=true) (j:n=es.size)
 (h:wpAny (model prog w) A (setNext S slot i ep) (λm a=>match m with
   |some (x,next)=>wpAny (model prog w) A (do setField (.ref it) 0 (rawInt next);setField (.ref it) 1 (rawInt (i+1));ret x) P F a
   |none=>wpAny (model prog w) A (do setField (.ref it) 2 .none;raiseNew (<- newExc (.type "StopIteration") [])) P F a) F s) :
 wpAny (model prog w) A (Builtin.«set_iterator.__next__» ⟨[.ref it],[]⟩) P F s:=by
 obtain⟨os,b,hex,c⟩:=r;unfold Builtin.«set_iterator.__next__» slotArgs;simp only[List.isEmpty_nil,Vt,TY,UM,V4,WG];refine KE (Tl ?_);refine KE (Xb f hd ?_);dsimp only;refine KE ?_;unfold setEntries;refine KE (U0 b c g (Tl ?_));dsimp only;rw[TC (by rw[j];simp)];simp only[V7];refine KE (Vd h (λm a d=>?_) λ_ _ e=>e);cases m with
 |none=>exact d
 |some p=>obtain⟨x,next⟩:=p;exact d
def qz{it S:Addr}(hne:S≠it)(hh:A.handled=none){es:Array (Int×Xr)}{ep:Nat}{t:SetTable}(T:ud t es)(hs:t.place.size<=t.mask)(hpl:t.plain=true)(hle:t.led=!byT w) :
 Walks prog w A it [it,S] [it] es.size (λi v=>((jy w S ep es)[i]?).map (·.2)=some v) (λi h=>SetIt h it S (di w t i) i es.size ep/\mD h S es ep t) where
 sub:=λb hb=>by simp at hb;simp[hb]
 frame:=λi h h' st hk=>by obtain⟨⟨o,h1,r1⟩,⟨o2,h2,r2⟩⟩:=st;exact⟨⟨o,hk it (by simp) o h1,r1⟩,⟨o2,hk S (by simp) o2 h2,r2⟩⟩
 item:=λi s Q E hi st hQ=>by
  obtain⟨x1,x2⟩:=st;have hT:=x1.typeIs;obtain⟨o,ho,hc,hd⟩:=x1;have x2':=x2;obtain⟨o2,ho2,hex2,hd2⟩:=x2;unfold pyNext;refine KE (WX (UN (name:=Str.ofString "__next__") hT slot_setiter_next (Ur slot_setiter_next hT fS ?_ (gr _))));refine re ho hd x2' (ud.fits T hs) rfl (oM x2' T hs hpl hle (by lia) ?_);have hio:i<(jy w S ep es).size:=by rw[lz];exact hi
  have e1:(jy w S ep es)[i]?=some (jy w S ep es)[i]:=by simp[hio]
  rw[e1];show wpAny _ _ _ _ _ _;refine KE (Wg ho hd (by simp) ?_);have d1:=Wv hd (·.setIfInBounds 0 (rawInt ((di w t (i+1):Nat):Int)));have ho1:=UK (Obj.mapFields (·.setIfInBounds 0 (rawInt ((di w t (i+1):Nat):Int)))) ho (WK d1);refine KE (Wg (s:={s with heap:=_}) ho1 d1 (by simp) ?_);have d2:=Wv d1 (·.setIfInBounds 1 (rawInt ((i:Int)+1)));have ho3:=UK (Obj.mapFields (·.setIfInBounds 1 (rawInt ((i:Int)+1)))) ho1 (WK d2);have sb:=(Uk s.heap it (Obj.mapFields (·.setIfInBounds 0 (rawInt ((di w t (i+1):Nat):Int))))).trans (Uk _ it (Obj.mapFields (·.setIfInBounds 1 (rawInt ((i:Int)+1)))));refine Tl ⟨_,rfl,Tl ?_⟩;refine hQ _ _ s.toks (by rw[e1];rfl) ⟨⟨_,ho3,?_,?_⟩,o2,(sb.2 S hne).trans ho2,hex2,hd2⟩ (λb o hb e=>(sb.2 b (λz=>hb (by simp[z]))).trans e)
  .exact(Obj.cls_mapFields ..).trans ((Obj.cls_mapFields ..).trans hc)
  .rw[d2];simp[rawInt]
 done:=λs Q E st hQ=>by
  obtain⟨x1,x2⟩:=st;have hT:=x1.typeIs;obtain⟨o,ho,hc,hd⟩:=x1;unfold pyNext;refine KE (WX (UN (name:=Str.ofString "__next__") hT slot_setiter_next (Ur slot_setiter_next hT fS ?_ (gr _))));refine re ho hd x2 (ud.fits T hs) rfl (oM x2 T hs hpl hle (To _) ?_);have e1:(jy w S ep es)[es.size]?=none:=by simp[lz]
  rw[e1];show wpAny _ _ _ _ _ _;refine KE (Wg ho hd (by simp) ?_);refine KE ?_;simp only[newExc,newTuple];refine KE (Uo ?_ (by size_fits));refine KE (m:=firstArgMember _ _) (wpAny_of_eq (a:=Value.none) (by first|rfl|(simp only[firstArgMember];rfl)) ?_);refine Uo ?_ (by size_fits);simp only[raiseNew];refine KE (wpAny_handled ?_);rw[show A.in1.handled=none from hh];refine KE (Tl (wpAny_throw ?_));refine KE (WP (T:="StopIteration") (b:=true) ⟨_,Tv _ rfl,rfl⟩ isSubtype_stop ?_);refine Tl (hQ _ s.toks λb o hb e=>?_);exact Tn _ (Tn _ (((Uk ..).2 b (λz=>hb (by simp[z]))).trans e))
 self:=λ_ _ _ _ st hQ=>by refine V9 st.1.typeIs gs (Ur gs st.1.typeIs kT ?_ (lA _));exact Tl ⟨_,rfl,"set_iterator",_,st.1.typeIs,slot_setiter_next.lookup,hQ⟩
end
section
def xa(r:mD s.heap S es ep t)(b:t.fits es.size=true)(c:t.plain=true)
 (h:Q (.ref s.heap.objs.size) { s with heap:=s.heap.push { cls:=.type "set_iterator",data:=.fields #[.int 0 0,.int 0 0,.ref S,.int es.size 0,.int ep 0] } }):wpAny (model prog w) A (pyIter (.ref S)) Q E s:=by
 obtain⟨o,a,hex,hd⟩:=r;have d:s.TypeIs (.ref S) "set":=⟨o,a,hex.1⟩;refine V9 d PySem.F.slot_set_iter (Ur PySem.F.slot_set_iter d qy ?_ (PySem.F.args_set_iter_1 _));unfold Builtin.«frozenset.__iter__» Builtin.Frozenset.slot0 slotArgs;simp only[List.isEmpty_nil,Vt,TY,↓reduceIte,bind_assoc,V4,WG];unfold Builtin.Frozenset.addrOf Builtin.Frozenset.sizeOf setEntries;refine KE (Tl (KE (Tl ?_)));simp only[bind_assoc];refine KE (U0 a hd b (KE (Tl (KE (Tl ?_)))));refine KE ?_;unfold setDrawn;refine KE (U0 a hd b ?_);dsimp only;refine KE (w_ (Tl ?_));show wpAny _ _ (if(!byT w&&(!t.plain&&decide (es.size>1)))=true then _ else _) _ _ _;rw[c];simp only[Vt,W_,Xa,TY,UM];refine KE (Tl ?_);refine KE (wpAny_setEpoch_of a hd b ?_);exact KE (Uo (Tl ⟨_,rfl,"set_iterator",_,⟨_,Tv _ rfl,rfl⟩,slot_setiter_next.lookup,h⟩))
def Cc(a:s.TypeIs (.ref S) "set") (h:Q false s):wpAny (model prog w) A (Builtin.List.listLengthHint (.ref S)) Q E s:=by
 unfold Builtin.List.listLengthHint;refine KE (wpAny_specialOf a PySem.F.slot_set_len.lookup ?_);dsimp only;have b:splitId "set.__len__"=some ("set","__len__"):=by decide +kernel
 rw[b];dsimp only;refine KE (WP a sub_set_self ?_);simp only[Vt,TY,UM];rw[Tt (by decide +kernel)];refine KE (V3 a ?_);exact Tl h
def uS(r:mD s.heap S es ep t)(T:ud t es)(J:t.place.size<=t.mask)(k:t.plain=true)(x:t.led=!byT w)(K:A.handled=none)(hz:es.size<=300)
 (h:∀h' tk,s.heap.objs.size<h'.objs.size->(∀b o,s.heap.get? b=some o->h'.get? b=some o)->Q ((jy w S ep es).toList.map (·.2)) {s with heap:=h',toks:=tk}):wpAny (model prog w) A (collect (.ref S)) Q E s:=by
 have L:=ud.fits T J;obtain⟨o,y,hex,hd⟩:=r;have g:S<s.heap.objs.size:=TF y;unfold collect;refine KE (wpAny_runValue (U8 entry_proto_collect' (show wpAny _ _ (do again (.builtin "list.__iadd__" ⟨[<- newList [],.ref S],[]⟩)) _ _ s from ?_)));refine KE (WY (Tl ⟨Code.quiet_builtin _ (by decide +kernel),U8 entry_list_iadd' ?_⟩));show wpAny _ _ (Builtin.List.listExtendWith (.ref s.heap.objs.size) (.ref S) (.ref s.heap.objs.size)) _ _ { s with heap:=s.heap.push (seqObj "list" #[] 0) };have j:(s.heap.push (seqObj "list" #[] 0)).get? S=some o:=Tn _ y;have z:Shared.TypeIs { s with heap:=s.heap.push (seqObj "list" #[] 0) } (.ref S) "set":=⟨o,j,hex.1⟩;unfold Builtin.List.listExtendWith;refine KE (V3 z ?_);have q1:Builtin.List.listSameRef (.ref s.heap.objs.size) (.ref S)=false:=by simp[Builtin.List.listSameRef,VD g]
 have q2:(Value.type "set"==Value.type "list")=false:=by decide
 have M:(Value.type "set"==Value.type "tuple")=false:=by decide
 simp only[q1,q2,M,Bool.or_false,TY,UM];refine KE (xa ⟨o,j,hex,hd⟩ L k ?_);have B:Shared.TypeIs { s with heap:=(s.heap.push (seqObj "list" #[] 0)).push { cls:=.type "set_iterator",data:=.fields #[.int 0 0,.int 0 0,.ref S,.int es.size 0,.int ep 0] } } (.ref S) "set":=⟨o,Tn _ j,hex.1⟩;refine KE (UC (Cc B ?_));rw[Tt (by decide +kernel)];refine KE (Xe ?_);have l:((s.heap.push (seqObj "list" #[] 0)).push { cls:=.type "set_iterator",data:=.fields #[.int 0 0,.int 0 0,.ref S,.int es.size 0,.int ep 0] }).get? s.heap.objs.size=some (seqObj "list" #[] 0):=Tn _ (Tv _ rfl);refine KE (show wpAny _ _ (updateSeq s.heap.objs.size (·.push .none) >>= λ_=>updateSeq s.heap.objs.size (·.pop)) _ _ _ from ?_);refine KE (wpAny_updateSeq l rfl ?_);have m:=UK (Obj.mapSeq (·.push Value.none)) l rfl;refine wpAny_updateSeq (hz:=by seq_fits) m rfl ?_;have C:=UK (Obj.mapSeq (·.pop)) m rfl;generalize N:(((s.heap.push (seqObj "list" #[] 0)).push { cls:=.type "set_iterator",data:=.fields #[.int 0 0,.int 0 0,.ref S,.int es.size 0,.int ep 0] }).update s.heap.objs.size (Obj.mapSeq (·.push Value.none))).update s.heap.objs.size (Obj.mapSeq (·.pop))=D at *;have n:∀b o,b≠s.heap.objs.size->((s.heap.push (seqObj "list" #[] 0)).push { cls:=.type "set_iterator",data:=.fields #[.int 0 0,.int 0 0,.ref S,.int es.size 0,.int ep 0] }).get? b=some o->D.get? b=some o:=λb o hb e=>by rw[<- N];exact(VA _ _ (UD hb)).trans ((VA _ _ (UD hb)).trans e)
 have old:∀b o,s.heap.get? b=some o->D.get? b=some o:=λb o e=>n b o (T1 (TF e)) (Tn _ (Tn _ e));have d:(s.heap.push (seqObj "list" #[] 0)).objs.size=s.heap.objs.size+1:=size_push' _ _;have G:D.get? (s.heap.objs.size+1)=some { cls:=.type "set_iterator",data:=.fields #[.int 0 0,.int 0 0,.ref S,.int es.size 0,.int ep 0] }:=n _ _ (by lia) (by rw[<- d];exact Tv _ rfl);refine Tl ⟨Ws PySem.F.plain_extend_loop _,?_⟩;show codeAny _ _ (.builtin "list.extend.loop" ⟨[.ref s.heap.objs.size,.ref (s.heap.push (seqObj "list" #[] 0)).objs.size,.ref s.heap.objs.size],[]⟩) _ _;rw[d];have W:Walks prog w A.in1 (s.heap.objs.size+1) [s.heap.objs.size+1,S] [s.heap.objs.size+1] es.size (λi v=>((jy w S ep es)[i]?).map (·.2)=some v) (λi h=>SetIt h (s.heap.objs.size+1) S (di w t i) i es.size ep/\mD h S es ep t):=qz (T1 (V8 g)) (by simp[K]) T J k x;refine codeAny_extend_loopS W.toS (by rw[Ud];lia) s.heap.objs.size (by simp only[Tz,TR,W8,not_or];exact⟨T1 (VR _),VD g⟩) _ es.size 0 _ #[] _ rfl (T2 _) ⟨⟨_,G,rfl,rfl⟩,o,old S o y,hex,hd⟩ (by rw[C];rfl) (ItemsOf.nil _) λO a c q p f=>?_;obtain⟨h',g',d',H,I⟩:=O;have P:g'=s.gens:=q.gens;have R:d'=s.drawn:=q.drawn;have U:I=s.os:=q.os;subst P R U;refine KE (wpAny_load p ?_);have V:a.toList=(jy w S ep es).toList.map (·.2):=by
  apply VM
  intro i;by_cases u:i<a.size
  .have e1:a.toList[i]?=some a[i]:=by rw[Uc];simp[u]
   have e2:=f.2 i a[i] (by simp[u]);rw[e1,TL,Uc];exact e2.symm
  .rw[UX (by simpa using Nat.le_of_not_lt u),UX];rw[Tp,UB,lz,<- f.1];exact Nat.le_of_not_lt u
 show wpAny _ _ (pure a.toList) _ _ _;rw[V];refine Tl (h h' H (TF p) λb o e=>q.heap b o ?_ (old b o e));have:=TF e;simp only[Tz,TR,W8,not_or];exact⟨T1 this,T1 (V8 this)⟩
end
def d6:List Int->List Int->Bool
 |[],[]=>false
 |[],_::_=>true
 |_::_,[]=>false
 |a::x,b::y=>if a=b then d6 x y else decide (a<b)
theorem sM:∀a:List Int,d6 a a=false
 |[]=>rfl
 |a::x=>by unfold d6;rw[Tt rfl];exact sM x
theorem Cd:∀a b c:List Int,d6 a b=true->d6 b c=true->d6 a c=true
 |[],[],_,h,_=>by cases h
 |[],_::_,[],_,h=>by cases h
 |[],_::_,_::_,_,_=>rfl
 |_::_,[],_,h,_=>by cases h
 |_::_,_::_,[],_,h=>by cases h
 |a::x,b::y,c::z,h1,h2=>by
  unfold d6 at h1 h2 ⊢;by_cases e1:a=b
  .subst e1;rw[Tt rfl]at h1;by_cases e2:a=c
   .subst e2;rw[Tt rfl]at h2 ⊢;exact Cd x y z h1 h2
   .rw[TC e2]at h2 ⊢;exact h2
  .grind
theorem yN:∀a b:List Int,a≠b->d6 a b=true\/d6 b a=true
 |[],[],h=>(h rfl).elim
 |[],_::_,_=>.inl rfl
 |_::_,[],_=>.inr rfl
 |a::x,b::y,h=>by
  unfold d6;by_cases e:a=b
  .subst e;rw[Tt rfl,Tt rfl];exact yN x y λz=>h (by rw[z])
  .grind
section
variable{prog:Xq}{w:World}{A:Xs}{s:Xo}
theorem yO:∀{a b:List Int}{xs f:List Xr}(i:Nat),ItemsAre (aK prog w) (iK a) xs->ItemsAre (aK prog w) (iK b) f->Q (d6 a b) s->PySem.W.KatLex prog w A true (decide (xs.length<f.length)) Q (xs.zip f) i s
 |[],[],_,_,i,c,d,h=>by cases c;cases d;exact h
 |[],_::_,_,_,i,c,d,h=>by
  cases c;cases d with
  |cons h1 h2=>exact PySem.W.kat_nil h
 |_::_,[],_,_,i,c,d,h=>by
  cases d;cases c with
  |cons h1 h2=>exact PySem.W.kat_nil h
 |a::x,b::y,_,_,i,c,d,h=>by
  cases c with
  |@cons _ n _ k h1 g=>
   cases d with
   |@cons _ v2 _ l h2 j=>
    obtain⟨o,rfl⟩:=nV h1;obtain⟨p,rfl⟩:=nV h2;rw[List.zip_cons_cons];refine PySem.W.kat_cons (wpAny_eqBool_int ?_);unfold d6 at h;by_cases e:a=b
    .subst e;rw[Tt rfl]at h;rw[beq_self_eq_true];refine PySem.W.kat_yes ?_;have:=yO (i+1) g j h;simpa using this
    .rw[TC e]at h;have m:(a==b)=false:=by grind
     rw[m];refine PySem.W.kat_no ?_;cases i with
     |zero=>exact oneLt_int h
     |succ i=>exact PySem.W.kat_one _ _ (lt_int h)
structure um(prog:Xq) (w:World) (h:Heap) (xs:List kA):Prop where
 is:∀x∈xs,(tK prog w).is h (iK x.1) x.2
 ne:∀x∈xs,x.1≠[]
 nd:(xs.map (·.1)).Nodup
def valsT(xs:List kA):List Xr:=xs.map λx=>Value.ref x.2
def gu(xs:List kA)(i:Nat):List Int:=((xs[i]?).getD ([],0)).1
def FS(t:um prog w s.heap xs):Lt xs.length λi j=>d6 (gu xs i) (gu xs j) where
 Tj:=λi=>sM _
 tr:=λi j k=>Cd _ _ _
 Ti:=λi j hi hj e=>yN _ _ λz=>by
  have gi:gu xs i=(xs.map (·.1))[i]'(by simpa using hi):=by simp[gu,hi]
  have gj:gu xs j=(xs.map (·.1))[j]'(by simpa using hj):=by simp[gu,hj]
  rw[gi,gj]at z;rcases W9 e with q|q
  .exact T8.mp t.nd i j (by simpa using hi) (by simpa using hj) q z
  .exact T8.mp t.nd j i (by simpa using hj) (by simpa using hi) q z.symm
def Ce(t:um prog w s.heap xs):FN xs.length (λi j=>d6 (gu xs i) (gu xs j)) (PySem.W.kas_ask prog w A (tuples' true) (valsT xs)) s:=by intro i j C b c h;have one:∀k,k<xs.length->∃x,(valsT xs).getD k Value.none=.ref x.2/\gu xs k=x.1/\x∈xs:=λk a=>⟨xs[k],by simp[valsT,a],by simp[gu,a],List.getElem_mem a⟩;obtain⟨x,ex,d,e⟩:=one i b;obtain⟨y,f,g,l⟩:=one j c;unfold PySem.W.kas_ask;rw[ex,f];obtain⟨r,ix,nx,m,u,dx,n⟩:=t.is x e;obtain⟨v,z,B,o,D,p,q⟩:=t.is y l;refine PySem.W.kat_lt m dx o p ?_;have h:C (d6 (gu xs i) (gu xs j)) s:=h;rw[d,g]at h;have:=yO (A:=A) 0 n q h;simpa using this
theorem uT:∀{xs:List kA},(∀x∈xs,(tK prog w).is h (iK x.1) x.2)->(∀x∈xs,x.1≠[])->∃fs:List Xr,PySem.W.KatTups h (valsT xs) fs/\fs.length=xs.length/\∀v∈fs,∃i t,v=Value.int i t
 |[],_,_=>⟨[],trivial,rfl,λv g=>nomatch g⟩
 |x::xs,h1,h2=>by
  obtain⟨fs,a,b,c⟩:=uT (λy e=>h1 y (Tu _ e)) λy e=>h2 y (Tu _ e);obtain⟨m,ix,nx,j,o,dx,f⟩:=h1 x Tw;have d:=h2 x Tw;obtain⟨k,p⟩:=x;dsimp only at d f j;cases k with
  |nil=>exact(d rfl).elim
  |cons n ns=>
   generalize q:ix.toList=l at f;cases f with
   |@cons _ v _ vs q1 q2=>
    obtain⟨t,rfl⟩:=nV q1;refine⟨.int n t::fs,⟨⟨p,m,ix,nx,rfl,j,o,dx,?_⟩,a⟩,by simp[b],λv g=>?_⟩
    .rw[<- Uc,q];rfl
    .grind
def z4(t:um prog w s.heap xs)(d:0<xs.length)(h:Q (tuples' true) s):wpAny (model prog w) A (keyKind' (valsT xs).toArray) Q E s:=by
 obtain⟨fs,a,b,c⟩:=uT t.is t.ne;refine PySem.W.kat_kind (T:=.type "int") a (by lia) (λv e=>?_) (by decide) ?_
 .obtain⟨i,t,rfl⟩:=c v e;exact λA Q E s k q=>Tl q
 .have:(Value.type "int" != Value.type "tuple")=true:=by decide
  rw[this];exact h
end
def nI{α:Type}(d:α)(xs:List α)(i:Nat):α:=(xs[i]?).getD d
section
variable{α β:Type}
def oN(d:α)(xs:List α):(List.range xs.length).map (nI d xs)=xs:=by
 apply VM
 intro i;rw[TL];by_cases h:i<xs.length
 .rw[W4 h,Ts h];simp[nI,h]
 .rw[UX (by grind),UX (by grind)];rfl
def z5(d:α)(pm:Pm xs.length p):(p.toList.map (nI d xs)).Perm xs:=by have:=List.Perm.map (nI d xs) pm;rw[oN]at this;exact this
def FT{r:α->α->Bool}(pm:Pm xs.length p)(so:So (λi j=>r (nI d xs i) (nI d xs j)) p xs.length):(p.toList.map (nI d xs)).Pairwise λx y=>r x y=true:=by
 rw[Vh,T8];intro i j g h b;have c:i<p.size:=by grind
 have a:j<p.size:=by grind
 have:=so i j b (by rw[<- pm.size];exact a);dsimp only at this;have e:cJ p i=p.toList[i]:=by simp[cJ,Array.getD,c]
 have f:cJ p j=p.toList[j]:=by simp[cJ,Array.getD,a]
 rw[e,f]at this;exact this
def Cf{f:α->β}{e:β}(d:α)(pm:Pm xs.length p):(p.toList.map λi=>(xs.map f).getD i e)=(p.toList.map (nI d xs)).map f:=by rw[T7];refine UP λi a=>?_;have a:i<xs.length:=Uj.mp (pm.mem_iff.mp a);simp[nI,a]
end
section
def um.off(t:um prog w h xs)(f:h.get? a=some o)(hc:o.cls=.type "list") (k:∀b o,b≠a->h.get? b=some o->h'.get? b=some o):um prog w h' xs:=by refine⟨λx g=>?_,t.ne,t.nd⟩;obtain⟨d,ix,nx,h1,c,r⟩:=t.is x g;refine⟨d,ix,nx,k x.2 d (λe=>?_) h1,c,r⟩;rw[e,f]at h1;cases h1;rw[hc]at c;exact absurd c (by decide)
def Cg{a:Addr}{n:Nat}{vs:List Xr}{κ:SortKind}{lt:Nat->Nat->Bool}{P:PySem.Fin->Xo->Prop}(m:s.heap.get? a=some (seqObj "list" vs.toArray n)) (y:vs.length<64)
 (z:∀H,(∀b o,b≠a->s.heap.get? b=some o->H.get? b=some o)->2<=vs.length->(∀Q,Q κ {s with heap:=H}->wpAny (model prog w) A (keyKind' vs.toArray) Q E {s with heap:=H})/\Lt vs.length lt/\FN vs.length lt (PySem.W.kas_ask prog w A κ vs) {s with heap:=H})
 (h:∀p h' c,Pm vs.length p->So lt p vs.length->h'.get? a=some (seqObj "list" (p.toList.map λi=>vs.getD i Value.none).toArray c)->(∀b o,b≠a->s.heap.get? b=some o->h'.get? b=some o)->P (.done (.ret .none)) {s with heap:=h'}) :
 wpAny (model prog w) A (Builtin.«list.sort» ⟨[.ref a],[]⟩) P E s:=by
 rw[list_sort_plain];refine KE (listItems_at m rfl (KE (listUpdate_at m rfl ?_ (by rw[TB,Ud];lia) (T2 _))));obtain⟨e1,q⟩ : ∃e1,(s.heap.update a (Obj.mapSeq λ_=>#[])).get? a=some (seqObj "list" #[] e1):=⟨_,get?_update_seq m (λ_=>#[])⟩;refine KE (seqEpoch_at q rfl (KE (wpAny_newTuple (KE (WY (UC ?_) (T2 _))) (by show vs.length<=_;rw[Ud];lia))));have k:∀b o,b≠a->s.heap.get? b=some o->(((s.heap.update a (Obj.mapSeq λ_=>(#[]:Array Xr))).push (seqObj "tuple" vs.toArray 0)).push (seqObj "list" #[] 0)).get? b=some o:=λb o hb e=>Tn _ (Tn _ ((VA _ _ (UD hb)).trans e));have d:(((s.heap.update a (Obj.mapSeq λ_=>(#[]:Array Xr))).push (seqObj "tuple" vs.toArray 0)).push (seqObj "list" #[] 0)).get? a=some (seqObj "list" #[] e1):=Tn _ (Tn _ q);show wpAny (model prog w) A _ P E { s with heap:=((s.heap.update a (Obj.mapSeq λ_=>(#[]:Array Xr))).push (seqObj "tuple" vs.toArray 0)).push (seqObj "list" #[] 0) };generalize(((s.heap.update a (Obj.mapSeq λ_=>(#[]:Array Xr))).push (seqObj "tuple" vs.toArray 0)).push (seqObj "list" #[] 0))=r at d k;dsimp only;have t:∀(p:Array Nat)(out:Array Xr),Pm vs.length p->So lt p vs.length->out=(p.toList.map λi=>vs.getD i Value.none).toArray->P (.done (.ret .none)) {s with heap:=r.update a (Obj.mapSeq λ_=>out)}:=λp out B C m=>by subst m;exact h p _ _ B C (get?_update_seq d λ_=>(p.toList.map λi=>vs.getD i Value.none).toArray) λb o hb e=>(VA _ _ (UD hb)).trans (k b o hb e)
 by_cases h2:vs.toArray.size<2
 .rw[Tt h2,Tt h2];refine KE (Tl ?_);rw[StateT.run_pure];have l:vs.length<2:=by grind
  have j:Array.map (λx:Keyed=>x.2) (vs.toArray.zip vs.toArray)=vs.toArray:=by apply Array.ext';simp[List.map_snd_zip]
  refine KE (Tl ?_);dsimp only;refine KE (seqEpoch_at d rfl (KE (listUpdate_at d rfl ?_ (T2 _) ?_)))
  .simp only[WG,TY,UM];refine Tl (t (List.range vs.length).toArray _ (Vv _) (λa b h1 h2=>by lia) (j.trans ?_));rw[show(λi=>vs.getD i Value.none)=nI Value.none vs from funext λi=>by simp[nI]];show _=(List.map _ (List.range vs.length)).toArray;rw[oN]
  .show(Array.map (λx:Keyed=>x.2) (vs.toArray.zip vs.toArray)).size<=_;rw[j,TB,Ud];lia
 .rw[TC h2,TC h2];have l:2<=vs.length:=by grind
  obtain⟨k1,k2,k3⟩:=z r k l;refine KE (k1 _ ?_);refine KE (Vd (PySem.W.kat_run (s:={s with heap:=r}) (Q:=λf u=>u={s with heap:=r}/\∃p:Array Nat,Pm vs.length p/\So lt p vs.length/\arrOf f=p.map (PySem.W.kas_item (vs.toArray.zip vs.toArray))/\failedOf f=none)
   (G:=λp u=>u={s with heap:=r}/\Pm vs.length p/\So lt p vs.length) rfl (by lia) (by lia) (λp f u _ D F g=>⟨g.1,p,g.2.1,g.2.2,D,F⟩) ?_) ?_ λ_ _ e=>e)
  .exact FO k2 k3 l λp pm so=>⟨rfl,pm,so⟩
  .rintro⟨⟨⟩,f⟩ u ⟨rfl,p,pm,so,v,I⟩;dsimp only;rw[PySem.W.kat_snds rfl v];refine KE (seqEpoch_at d rfl (KE (listUpdate_at d rfl ?_ (T2 _) ?_)))
   .rw[I];simp only[WG,TY,UM];exact Tl (t _ _ pm so rfl)
   .have:=pm.size;simp[this];rw[Ud];lia
def rg(m:s.heap.get? a=some (seqObj "list" (valsT xs).toArray n)) (t:um prog w s.heap xs) (u:xs.length<64)
 (h:∀f h' c,f.Perm xs->f.Pairwise (λx y=>d6 x.1 y.1=true)->h'.get? a=some (seqObj "list" (valsT f).toArray c)->(∀b o,b≠a->s.heap.get? b=some o->h'.get? b=some o)->P (.done (.ret .none)) {s with heap:=h'}) :
 wpAny (model prog w) A (Builtin.«list.sort» ⟨[.ref a],[]⟩) P E s:=by
 have d:(valsT xs).length=xs.length:=by simp[valsT]
 refine Cg (κ:=tuples' true) (lt:=λi j=>d6 (gu xs i) (gu xs j)) m (by lia) (λH g h2=>?_) λp h' c pm so e k=>?_
 .have l:um prog w H xs:=t.off m rfl g;rw[d];exact⟨λQ q=>z4 (s:={s with heap:=H}) l (by lia) q,FS (s:={s with heap:=H}) l,Ce (s:={s with heap:=H}) l⟩
 .rw[d]at pm so;exact h (p.toList.map (nI ([],0) xs)) h' c (z5 _ pm) (FT (r:=λx y=>d6 x.1 y.1) pm so) (by rw[e];unfold valsT;rw[Cf ([],0) pm]) k
def yP(prog:Xq)(w:World)(N:Nat):Prop:=∀(A:Xs)(E:Xr->Xo->Prop)(s:Xo)(a:Addr)(n:Nat)(xs:List kA)(P:PySem.Fin->Xo->Prop),s.heap.get? a=some (seqObj "list" (valsT xs).toArray n)->um prog w s.heap xs->xs.length<=N->
 (∀d h' c,d.Perm xs->d.Pairwise (λx y=>d6 x.1 y.1=true)->h'.get? a=some (seqObj "list" (valsT d).toArray c)->(∀b o,b≠a->s.heap.get? b=some o->h'.get? b=some o)->P (.done (.ret .none)) {s with heap:=h'})->wpAny (model prog w) A (Builtin.«list.sort» ⟨[.ref a],[]⟩) P E s
def FU:yP prog w 63:=λ_ _ _ _ _ _ _ a t hz h=>rg a t (by lia) h
end
section
variable{κ μ:Type}{its:List (κ×μ)}
theorem oO:∀(l:List (Int×Xr)),(∀e∈l,∃x∈its,e=ent x)->∃zs:List (κ×μ),l=zs.map ent/\∀z∈zs,z∈its
 |[],_=>⟨[],rfl,λz hz=>nomatch hz⟩
 |e::l,h=>by
  obtain⟨x,a,rfl⟩:=h e Tw;obtain⟨zs,h1,h2⟩:=oO l λe b=>h e (Tu _ b);exact⟨x::zs,by rw[h1];rfl,λz hz=>by
   rcases Tz.mp hz with rfl|hz
   .exact a
   .exact h2 z hz⟩
structure qo(lt:κ->κ->Prop) (its ys:List (κ×μ)):Prop where
 sub:∀y∈ys,y∈its
 all:∀x∈its,∃y∈ys,y.1=x.1
 pw:ys.Pairwise λx y=>lt x.1 y.1
def JP(prog:Xq)(w:World)(hb:Heap)(ent:κ×μ->Int×Xr)(lt:κ->κ->Prop)(its:List (κ×μ)) (N:Nat):Prop:=∀(A:Xs)(E:Xr->Xo->Prop)(s:Xo)(a:Addr)(n:Nat)(zs:List (κ×μ))(P:PySem.Fin->Xo->Prop),(∀b o,hb.get? b=some o->s.heap.get? b=some o)->s.heap.get? a=some (seqObj "list" (zs.map λz=>(ent z).2).toArray n)->(∀z∈zs,z∈its)->(zs.map (·.1)).Nodup->zs.length<=N->
 (∀(d:List (κ×μ)) h' c,d.Perm zs->d.Pairwise (λx y=>lt x.1 y.1)->h'.get? a=some (seqObj "list" (d.map λz=>(ent z).2).toArray c)->(∀b o,b≠a->s.heap.get? b=some o->h'.get? b=some o)->P (.done (.ret .none)) {s with heap:=h'})->wpAny (model prog w) A (Builtin.«list.sort» ⟨[.ref a],[]⟩) P E s
def sN(sa:SetAt w s.heap S es)(v:g9 ent es its)(un:FQ ent its)(G:A.handled=none)(Y:N<=300)(H:JP prog w s.heap ent lt its N)(hz:its.length<=N)
 (h:∀(d:List (κ×μ)) h' tk l c,qo lt its d->d.length<=N->s.heap.objs.size<=l->h'.get? l=some (seqObj "list" (d.map λz=>(ent z).2).toArray c)->(∀b o,s.heap.get? b=some o->h'.get? b=some o)->Q (.ref l) {s with heap:=h',toks:=tk}) :
 wpAny (model prog w) A (call (.builtin "sorted") [.ref S]) Q E s:=by
 obtain⟨o,ep,t,I,hex,hd,T,sp,j,k⟩:=sa;have n:=uR w S ep es;have J:=v.sz;obtain⟨zs,i,f⟩:=oO (ent:=ent) (its:=its) (jy w S ep es).toList λe K=>v.el e (n.mem_iff.mp K);have L:(jy w S ep es).toList.map (·.2)=zs.map λz=>(ent z).2:=by rw[i,T7];rfl
 have p:zs.length=es.size:=by have:=U1 List.length i;rw[Tp,UB,lz]at this;exact this.symm
 have nd:(zs.map (·.1)).Nodup:=by have pw:=(n.pairwise_iff (λ{x y} q a b e1 e2 M m2 z=>q b a e2 e1 m2 M z.symm)).mpr v.pw;rw[i,Vh]at pw;unfold List.Nodup;rw[Vh];exact U5 (λ{a b} ha hb r=>r a b rfl rfl (f a ha) (f b hb)) pw
 refine Wh kind_sorted plain_sorted entry_sorted (args_sorted1 _) ?_;unfold Builtin.«sorted»;refine KE (m:=checkCount "sorted" 1 1 _) (Tl (KE (uS ⟨o,I,hex,hd⟩ T (lw sp) j k (by simp[G]) (by lia) λh1 tk1 g1 k1=>?_)));rw[L];refine KE (WY ?_ (by rw[Tp,p,Ud];lia));have g:(h1.push (seqObj "list" (zs.map λz=>(ent z).2).toArray 0)).get? h1.objs.size=some (seqObj "list" (zs.map λz=>(ent z).2).toArray 0):=Tv _ rfl;have C:∀b o,s.heap.get? b=some o->(h1.push (seqObj "list" (zs.map λz=>(ent z).2).toArray 0)).get? b=some o:=λb o e=>Tn _ (k1 b o e);have ge:s.heap.objs.size<=h1.objs.size:=US g1;refine KE (UC (Ur slot_list_sort ⟨_,g,rfl⟩ entry_list_sort (H _ _ { s with heap:=h1.push (seqObj "list" (zs.map λz=>(ent z).2).toArray 0),toks:=tk1 } _ _ zs _ C g f nd (by lia) λd h2 c2 u O B k2=>⟨_,rfl,?_⟩) (args_list_sort _)));refine Tl ⟨_,rfl,h d h2 tk1 _ c2 ⟨λy P=>f y (u.mem_iff.mp P),λx R=>?_,O⟩ (by rw[u.length_eq];lia) ge B λb o e=>k2 b o (λz=>?_) (C b o e)⟩
 .obtain⟨y,U,V,W⟩:=v.all x R;have D:=n.mem_iff.mpr W;rw[i]at D;obtain⟨z,F,X⟩:=TH.mp D;exact⟨z,u.mem_iff.mpr F,(un z (f z F) y U X).trans V⟩
 .subst z;exact absurd (TF e) (Nat.not_lt.mpr ge)
end
def TupsIn(H:Hp):List V->List kA->Prop:=Paired λv x=>v=.ref x.2/\H x.2=some (.tup ((iK x.1).map kV))
theorem TupsIn.get(t:TupsIn H vs its)(d:Vals vs us):its.length=us.length/\(∀(i:Nat)(v:Xr),us[i]?=some v->∃x:kA,its[i]?=some x/\v=.ref x.2)/\∀x∈its,H x.2=some (.tup ((iK x.1).map kV)):=by
 unfold TupsIn at t;induction t generalizing us with
 |nil=>cases d;exact⟨rfl,λi v e=>by simp at e,λx hx=>nomatch hx⟩
 |@cons v y vs its q t f=>
  cases d with
  |@cons _ u _ us r s=>
   obtain⟨a,b,c⟩:=f s;obtain⟨rfl,q⟩:=q;obtain rfl:u=Value.ref y.2:=r;refine⟨by simp[a],λi v e=>?_,λx hx=>?_⟩
   .cases i with
    |zero=>simp at e;exact⟨y,rfl,e.symm⟩
    |succ i=>exact b i v e
   .rcases Tz.mp hx with rfl|hx
    .exact q
    .exact c x hx
section
def z6(hc:X.calm=true)(C:X.A.units+64<cLine):CallR X (.type "set") (λxs H Q=>∃l vs its,xs=[.ref l]/\Rd H l (.lst vs)/\TupsIn H vs its/\vs.length<=300/\
 ∀p es,H p=none->g9 (eT X.prog X.w) es its->Q (.ref p) (upd H p (.ext λh=>SetAt X.w h p es))):=by
 intro ac s σ H xs us Q I r h;obtain⟨l,vs,its,rfl,g,j,hz,q⟩:=h;obtain⟨u,rfl,ru⟩:=fK r;obtain rfl:u=Value.ref l:=ru;obtain⟨_,us,n,d,m⟩:=(show ObjOk X.prog X.w H s.heap l (.lst vs)from g.ok I.aW);obtain⟨g1,g2,g3⟩:=j.get d;have c:=λx t=>d4 I.aW (g3 x t);refine zY (ent:=eT X.prog X.w) (I.ok.hd hc) m (its:=its) (by grind) (by rw[TB,<- d.length];exact hz) (λi v e=>g2 i v (by grind)) (JO c) (FR (by show X.A.units+1+1+1<cLine;lia) c) λh' tk es f v y=>?_;have z:H s.heap.objs.size=none:=I.aW.fresh (To _);refine⟨.ref s.heap.objs.size,_,I.laid (a:=s.heap.objs.size) (o:=.ext λh=>SetAt X.w h s.heap.objs.size es) (t':=tk) (λb o e=>y b o (TF e) e) (To _) ?_,rfl,q _ es z v⟩;exact⟨f,(let ⟨o,_,_,e,_⟩:=f;⟨o,e⟩),λh1 h2 B k=>SetAt.keep B k⟩
def sO(hc:X.calm=true)(m:N<=300)(t:yP X.prog X.w N):CallR X (.builtin "sorted") (λxs H Q=>∃p es its,xs=[.ref p]/\H p=some (.ext λh=>SetAt X.w h p es)/\g9 (eT X.prog X.w) es its/\(∀x∈its,H x.2=some (.tup ((iK x.1).map kV)))/\(∀x∈its,x.1≠[])/\its.length<=N/\
 ∀l b,H l=none->qo (λx y=>d6 x y=true) its b->Q (.ref l) (upd H l (.lst (b.map λy=>.ref y.2)))):=by
 intro ac s σ H xs us Q I r h;obtain⟨p,es,its,rfl,z,v,B,g,hz,q⟩:=h;obtain⟨u,rfl,ru⟩:=fK r;obtain rfl:u=Value.ref p:=ru;obtain⟨C,_,_⟩:=(show ObjOk X.prog X.w H s.heap p (.ext λh=>SetAt X.w h p es)from I.aW p _ z);have d:=λx e=>d4 I.aW (B x e);refine sN C v (JO d) (I.ok.hd hc) m (lt:=λx y=>d6 x y=true) (λA E s a n zs P D F j nd hz h=>t A E s a n zs P F ⟨λx e=>j5 (d x (j x e)) D,λx e=>g x (j x e),nd⟩ hz h) hz λb h' tk l c so i f k G=>?_;refine⟨.ref l,_,I.laid (a:=l) (o:=.lst (b.map λy=>.ref y.2)) (t':=tk) G f ⟨by rw[Tp,Ud];lia,_,c,?_,k⟩,rfl,q l b (I.aW.fresh f) so⟩;clear so k i;induction b with
 |nil=>exact .nil
 |cons y b J=>exact .cons rfl J
end
end L2
namespace L2
open PySem PySem.Spec PySem.Calls PyProof.Rows ST
section
def Sb:(intKind prog w).is k (.int j t)=true↔k=j:=by
 constructor
 .intro h;by_cases e:k=j
  .exact e
  .have h2:=intKind_is prog w j t;exact absurd ((intKind prog w).inj _ _ _ h h2) e
 .rintro rfl;exact intKind_is prog w k t
end
end L2
namespace L2
open PySem PySem.Spec PySem.Calls PyProof.Rows
section
def JQ{k:List bv}{dflt:Xr}{Q:Xr->Xo->Prop}(n:A.units<cLine)(l:(tK prog w).is s.heap k a)(t:s.heap.DictOfH (tK prog w) d xs)(hsz:xs.length<=sizeLine)
 (h1:∀p,atKey xs k=some p->Q p.2 {s with toks:=s.toks+(tK prog w).draws k})
 (h2:atKey xs k=none->∀h',h'.DictOfH (tK prog w) d (storedH xs k a dflt)->Heap.SameBut d s.heap h'->Q dflt {s with heap:=h',toks:=s.toks+(tK prog w).draws k}):wpAny (model prog w) A (dictSetDefault d (.ref a) dflt) Q E s:=by
 obtain⟨o,es,ep,c,hc,hd,i,f,m⟩:=t;unfold dictSetDefault
 try with_reducible refine UC ?_
 refine KE ((tK prog w).pyHash n l (KE (wpAny_dictFind_heap (knd:=tK prog w) (s:={s with toks:=s.toks+(tK prog w).draws k}) n l c hd i f m (λg=>?_) λj p q=>?_)))
 .have b:=atKey_none_of_get g;have h:k∉xs.map (·.1):=not_mem_keys_of_get g;refine KE (Xe (KE (WS (hz:=by have e:=Ww i;lia) (s:={s with toks:=s.toks+(tK prog w).draws k}) c hd (Tl (h2 b _ ⟨_,_,ep+1,UK _ c (W3 (Vs hd _)),hc.mapDictKeys _,Vs hd _,?_,?_,?_⟩ (Uk ..))))))
  .rw[storedH_new b];simp[i,entryOfKey]
  .rw[storedH_new b];intro x hx;rcases T4.mp hx with hx|hx
   .exact(tK prog w).keeps (f x hx) c hd (Uk ..)
   .obtain rfl:=TV.mp hx;exact(tK prog w).keeps l c hd (Uk ..)
  .rw[storedH_new b,Ua,UZ];exact⟨m,by simp,λx hx y r e=>by simp only[TJ,Wp,TV]at r;subst r;exact h (e▸hx)⟩
 .refine KE (Vi (s:={s with toks:=s.toks+(tK prog w).draws k}) c hd ?_);rw[entry_at i j,q];exact KE (Xe (Tl (h1 p (atKey_of_get m q))))
end
section
def FV:V->List V->Hp->VK->Prop:=λx xs H Q=>∃a b k y kvs,x=.ref a/\xs=[.ref b,y]/\H b=some (.tup (k.map kV))/\H a=some (.dT kvs)/\kvs.length<sizeLine/\
 ((∃v,c9 kvs k=some v/\Q v H)\/(c9 kvs k=none/\Q y (upd H a (.dT (bW kvs k y)))))
def rh(O:X.A.units+64<cLine):HZ X "dict.setdefault" FV:=by
 intro ac s σ H x xs v us Q I B rs q;obtain⟨a,b,k,y,kvs,rfl,rfl,hb,ha,hz,q⟩:=q;obtain rfl:v=Value.ref a:=B;obtain⟨u1,u2,rfl,g,e⟩:=yz rs;obtain rfl:u1=Value.ref b:=g;obtain⟨C,D,vs,h,l⟩:=Ia I.aW ha;have E:=d4 I.aW hb;have m:Shared.TypeIs s (.ref a) "dict":=by obtain⟨o,es,ep,F,hc,_⟩:=l;exact⟨o,F,hc.1⟩
 refine Ur Ut m WO ?_ (WJ _ _ _);unfold Builtin.«dict.setdefault»;refine KE ?_;unfold Builtin.Dict.keyAndDefault;refine KE (Vm m (show wpAny _ _ (pure (a,Value.ref b,some u2)) _ _ s from Tl ?_));show wpAny _ _ (if(a==sysModules)=true then _ else(dictSetDefault a (Value.ref b) u2 >>= _)) _ _ s;rw[TC (by grind)];have G:vs.length<=sizeLine:=by rw[<- U7 h];exact C
 have f:=h.val k;refine KE (JQ (by grind) E l G (λp n=>?_) λi h' j J=>?_)
 .rcases q with⟨v,d,q⟩|⟨d,q⟩
  .have:RelO (some v) (some p.2):=by rw[<- d];rw[n]at f;exact f
   exact Tl ⟨_,rfl,v,H,I.tok _,this,q⟩
  .have:=f.fJ;rw[d,n]at this;cases this
 .rcases q with⟨v,d,q⟩|⟨d,q⟩
  .have:=f.fJ;rw[d,i]at this;cases this
  .obtain⟨r,es,ep,t,h2,K,L,_,M⟩:=j;have N:(bW kvs k y).length<=sizeLine:=by have:=eM kvs k y;lia
   have aW:ObjOk X.prog X.w (upd H a (.dT (bW kvs k y))) h' a (.dT (bW kvs k y)):=by refine⟨N,D,_,(h.put k hb e).keeps λc P u=>?_,r,es,ep,t,h2,K,L,M⟩;rw[ag (Bo u ha (λz=>nomatch z))];exact u
   exact Tl ⟨_,rfl,y,_,j3 (t':=s.toks+(tK X.prog X.w).draws k) I (by rw[ha];exact True.intro) J ⟨r,t⟩ aW,e,q⟩
def xb:V->List V->Hp->VK->Prop:=λx xs H Q=>∃a b k y kvs,x=.ref a/\xs=[.ref b,y]/\H b=some (.tup (k.map kV))/\(H a=some (.dT kvs)\/(H a=some (.dK [])/\kvs=[]))/\kvs.length<sizeLine/\
 ((∃v,c9 kvs k=some v/\Q v H)\/(c9 kvs k=none/\Q y (upd H a (.dT (bW kvs k y)))))
def jz(f:X.A.units+64<cLine):HZ X "dict.setdefault" xb:=by
 intro ac s σ H x xs v us Q I g rs q;obtain⟨a,b,k,y,kvs,e1,e2,hb,ha,hz,q⟩:=q;rcases ha with ha|⟨ha,rfl⟩
 .exact rh f ac s σ H x xs v us Q I g rs ⟨a,b,k,y,kvs,e1,e2,hb,ha,hz,q⟩
 .have d:b≠a:=Bo hb ha (λz=>nomatch z);refine rh f ac s σ (upd H a (.dT [])) x xs v us Q (I.RZ ha) g rs ⟨a,b,k,y,[],e1,e2,by rw[ag d];exact hb,af,hz,.inr ?_⟩;rcases q with⟨v,e,q⟩|⟨e,q⟩
  .cases e
  .have:upd (upd H a (.dT [])) a (.dT (bW [] k y))=upd H a (.dT (bW [] k y)):=by
    funext c;by_cases h:c=a
    .subst h;rw[af,af]
    .rw[ag h,ag h,ag h]
   exact⟨e,by grind⟩
end
def RawD(h:Heap)(d:Addr)(es:Array DictEntry)(ep:Nat):Prop:=∃o,h.get? d=some o/\o.ExactDict/\o.data=.dict es ep
section
variable{prog:Xq}{w:World}{A:Xs}{s:Xo}{d v it:Addr}{es:Array DictEntry}{ep i:Nat}{ok ov:Xr}
def RawD.ty(m:RawD s.heap d es ep):s.TypeIs (.ref d) "dict":=let ⟨o,h,c,_⟩:=m;⟨o,h,c.1⟩
theorem sP(d:Addr)(hd:(d==sysModules)=false) :
 MeetsIn prog w (Builtin.«dict.items» ⟨[.ref d],[]⟩) (λ_ R s=>(∃es ep,RawD s.heap d es ep)/\R (.ok (.ret (.ref s.heap.objs.size))) { s with heap:=s.heap.push { cls:=.type "dict_items",data:=.fields #[.ref d] } }):=
 .of_wp λA R s ⟨⟨es,ep,m⟩,h⟩=>by unfold Builtin.«dict.items» Builtin.Dict.noArgs;refine KE (KE (Vm m.ty (Tl ?_)));show wpAny _ _ (Builtin.Dict.showsAll d >>= _) _ _ s;unfold Builtin.Dict.showsAll;rw[TC (by rw[hd];simp)];exact KE (Tl (KE (Uo (Tl ⟨_,rfl,h⟩))))
theorem uU(a:s.heap.IsItemsView v d)(m:RawD s.heap d es ep)
 (c:Q (.ref s.heap.objs.size) { s with heap:=s.heap.push { cls:=.type "dict_itemiterator",data:=.fields #[.none,.bool false,.ref d,.int 0 0,.int es.size 0,.int ep 0,.none,.none] } }) :
 wpAny (model prog w) A (pyIter (.ref v)) Q E s:=by
 obtain⟨e,e1,_,e2⟩:=id a;obtain⟨o,b,_,hd⟩:=id m;refine V9 a.typeIs F.slot_dict_items_iter (Ur F.slot_dict_items_iter a.typeIs F.entry_dict_items_iter ?_ (F.args_dict_items_iter_1 _));unfold Builtin.«dict_items.__iter__» Builtin.Dict_items.dictOf Builtin.Dict_items.newIterator;refine KE (Tl (KE (KE (WE e1 e2 (x:=.ref d) rfl (Tl (KE (KE (Vi b hd (KE (Wx b hd ?_))))))))));simp only[show Builtin.Dict_items.ownsTuple "dict_itemiterator"=true by decide,VW];refine Uo (Tl ⟨_,rfl,"dict_itemiterator",_,⟨_,Tv _ rfl,rfl⟩,UQ.lookup,?_⟩)
  (by simp only[sizeOk,Builtin.Dict_items.ownedTupleFields,TB,TU,T3,V4,Ud];lia)
 simpa[rawInt,Builtin.Dict_items.ownedTupleFields]using c
theorem uV(f:A.handled=none)(y:IsItemIter s.heap it d i es.size ep ok ov)(m:RawD s.heap d es ep)(g:es.size<=i)(h:∀h',Heap.ExtBut it s.heap h'->Q none {s with heap:=h'}):wpAny (model prog w) A (pyNext (.ref it)) Q E s:=by
 obtain⟨o,e,_,hd⟩:=id m;have c:s.TypeIs (.ref it) "dict_itemiterator":=⟨_,y,rfl⟩;unfold pyNext;refine KE (WX (UN (name:=Str.ofString "__next__") c UQ (Ur UQ c F.entry_dict_itemiterator_next ?_ (F.args_dict_itemiterator_next_1 _))));refine KE (Tl (KE (KE ?_)))
 first|refine KE (Vo c (Tl ?_))|refine KE (VH c (Tl ?_))
 refine KE (Xb y rfl ?_);simp only[show Builtin.Dict_items.ownsTuple "dict_itemiterator"=true by decide,VW];show wpAny _ _ (if(Value.ref d==Value.none)=true then _ else _) _ _ s;rw[TC (show ¬((Value.ref d==Value.none)=true)from T9)];refine KE (Tl (KE (Vi e hd ?_)));rw[TC (by simp)];refine KE (Tl (KE (Wx e hd ?_)));rw[TC (by simp)];refine Tl ?_;simp only[show ¬((i:Int)<0)from by lia,UM,V7,WB g];refine KE ?_
 first|refine KE (Vo c (Tl ?_))|refine KE (VH c (Tl ?_))
 show wpAny _ _ (setField (.ref it) 2 .none >>= _) _ _ s;refine KE (Wg y rfl (by simp) ?_);show wpAny _ _ (newExc (.type "StopIteration") [] >>= _) _ _ _;refine KE ?_;simp only[newExc,newTuple];refine KE (Uo ?_ (by size_fits));refine KE (m:=firstArgMember _ _) (wpAny_of_eq (a:=Value.none) (by first|rfl|(simp only[firstArgMember];rfl)) ?_);refine Uo ?_ (by size_fits);simp only[raiseNew];refine KE (wpAny_handled ?_);rw[show A.in1.handled=none from f];refine KE (Tl (wpAny_throw ?_));refine KE (WP (T:="StopIteration") (b:=true) ⟨_,Tv _ rfl,rfl⟩ isSubtype_stop ?_);exact Tl (h _ (((Uk ..).extBut.push _).push _))
theorem xc(y:IsItemIter s.heap it d i es.size ep ok ov)(m:RawD s.heap d es ep)(K:es[i]?=some e)
 (L:∀h',IsItemIterOut h' it d (i+1) es.size ep e.key e.val s.heap.objs.size->h'.get? s.heap.objs.size=some { cls:=.type "tuple",data:=.seq #[e.key,e.val] }->
   (∀b o,b≠it->s.heap.get? b=some o->h'.get? b=some o)->Q (some (.ref s.heap.objs.size)) {s with heap:=h'}):wpAny (model prog w) A (pyNext (.ref it)) Q E s:=by
 obtain⟨a,g,h,tk,os⟩:=s;obtain⟨o,G,_,hd⟩:=id m;have c:Shared.TypeIs ⟨a,g,h,tk,os⟩ (.ref it) "dict_itemiterator":=⟨_,y,rfl⟩;have p:a.objs.size≠it:=VD (TF y);unfold pyNext;refine KE (WX (UN (name:=Str.ofString "__next__") c UQ (Ur UQ c F.entry_dict_itemiterator_next ?_ (F.args_dict_itemiterator_next_1 _))));refine KE (Tl (KE (KE ?_)))
 first|refine KE (Vo c (Tl ?_))|refine KE (VH c (Tl ?_))
 refine KE (Xb y rfl ?_);simp only[show Builtin.Dict_items.ownsTuple "dict_itemiterator"=true by decide,VW];show wpAny _ _ (if(Value.ref d==Value.none)=true then _ else _) _ _ _;rw[TC (show ¬((Value.ref d==Value.none)=true)from T9)];refine KE (Tl (KE (Vi G hd ?_)));rw[TC (by simp)];refine KE (Tl (KE (Wx G hd ?_)));rw[TC (by simp)];refine Tl ?_;simp only[show ¬((i:Int)<0)from by lia,UM,V7,K];refine KE ?_
 first|refine KE (Vo c (Tl ?_))|refine KE (VH c (Tl ?_))
 refine KE (WC c ?_);show wpAny _ _ (setField (.ref it) 3 (rawInt ((i:Int)+1)) >>= _) _ _ ⟨a,g,h,tk,os⟩;refine KE (V0 y (by simp) λh1 j s1=>?_);replace s1:Heap.SameBut it a h1:=s1;replace j:IsItemIter h1 it d (i+1) es.size ep ok ov:=by
  have q:((i+1:Nat):Int)=(i:Int)+1:=by lia
  unfold IsItemIter;rw[q];simpa[rawInt]using j
 have f:Shared.TypeIs ⟨h1,g,h,tk,os⟩ (.ref it) "dict_itemiterator":=⟨_,j,rfl⟩;refine KE (UC (KE (WC f (KE (WC f ?_)))));show wpAny _ _ (Builtin.Dict_items.pairFromOwner (.ref it) 6 e.key e.val) _ _ ⟨h1,g,h,tk,os⟩;unfold Builtin.Dict_items.pairFromOwner;refine KE (wpAny_newTuple ?_);have k:IsItemIter (h1.push { cls:=.type "tuple",data:=.seq #[e.key,e.val] }) it d (i+1) es.size ep ok ov:=Tn _ j;have H:(h1.push { cls:=.type "tuple",data:=.seq #[e.key,e.val] }).get? a.objs.size=some { cls:=.type "tuple",data:=.seq #[e.key,e.val] }:=by rw[<- s1.1];exact Tv _ rfl
 have k2:∀b o,b≠it->a.get? b=some o->(h1.push { cls:=.type "tuple",data:=.seq #[e.key,e.val] }).get? b=some o:=λb o n q=>Tn _ (s1.extBut b o n q);have I:h1.objs.size=a.objs.size:=s1.1;generalize h1.push { cls:=.type "tuple",data:=.seq #[e.key,e.val] }=h2 at k H k2;show wpAny _ _ (Builtin.Dict_items.ownedTupleIsFree (.ref it) >>= _) _ _ ⟨h2,g,h,tk,os⟩;rw[I];clear j s1 f I h1;refine KE ?_;unfold Builtin.Dict_items.ownedTupleIsFree;refine KE (WE k rfl (x:=.none) rfl (Tl ?_));simp only[VW];refine KE (WE k rfl (x:=ok) rfl (KE (WE k rfl (x:=ov) rfl ?_)));refine KE (V0 k (by simp) λr t M=>?_);replace t:IsItemIter r it d (i+1) es.size ep e.key ov:=t;refine KE (V0 t (by simp) λu z N=>?_);replace z:IsItemIter u it d (i+1) es.size ep e.key e.val:=z;refine KE (V0 z (by simp) λB C O=>?_);replace C:IsItemIterOut B it d (i+1) es.size ep e.key e.val a.objs.size:=C;refine KE (V0 C (by simp) λl D P=>?_);replace D:IsItemIterOut l it d (i+1) es.size ep e.key e.val a.objs.size:=D;have J:∀b o,b≠it->h2.get? b=some o->l.get? b=some o:=λb o n q=>Wn (show Heap.SameBut it B l from P) b o n (Wn (show Heap.SameBut it u B from O) b o n (Wn (show Heap.SameBut it r u from N) b o n (Wn (show Heap.SameBut it h2 r from M) b o n q)));exact KE (wpAny_letGo (Tl (Tl ⟨_,rfl,Tl (L l D (J _ _ p H) λb o n q=>J b o n (k2 b o n q))⟩)))
end
def xf{P:Xq}{w:World}{K:Xp}{es:List Expr}{k0:Nat}{pos:Pos}{J:It}{d it:Addr}{o:Obj}{u:HO}{en:Array DictEntry}{ep:Nat}(hex:o.ExactDict)(hdat:o.data=.dict en ep)(hgo:∀i H,J.go i H->H d=some (.bj o u))(hst:∀i H,J.stop i H->H d=some (.bj o u)/\en.size<=i)
 (hent:∀H h,HOk P w H h->∀i,J.go i H->∃e y v,en[i]?=some e/\RelV y e.key/\RelV v e.val/\∀p,H p=none->J.A_ i H (.ref p) (upd H p (.tup [y,v]))) :
 Turn P w K (.Tuple es k0 pos) J [it] it (λi h=>∃ok ov,IsItemIter h it d i en.size ep ok ov) where
 mem:=by simp
 obj:=λi h st b hb=>by
  have e:b=it:=by simpa using hb
  subst e;obtain⟨ok,ov,e⟩:=st;exact⟨_,e,λv z=>by cases z⟩
 keep:=λi h h' st k=>by obtain⟨ok,ov,e⟩:=st;exact⟨ok,ov,k it (by simp) _ e⟩
 item:=by
  intro X hP hw hK hc i ac s σ H E I hf st hg;subst hP hw hK;have hd:=hgo i H hg;obtain⟨ok,ov,st⟩:=st;obtain⟨eo,_⟩:=(show ObjOk X.prog X.w H s.heap d (.bj o u)from I.aW d _ hd);obtain⟨e,y,v,he,ry,rv,hy⟩:=hent H s.heap I.aW i hg;have fi:=hf it (by simp);refine xc st ⟨o,eo,hex,hdat⟩ he λh' hout hT kp=>?_;refine⟨_,rfl,wpAny_letOwnedTupleGo_items hout λh'' hit'' hs''=>?_⟩;have keep2:∀b o,b≠it->s.heap.get? b=some o->h''.get? b=some o:=λb o n1 q=>(hs''.2 b n1).trans (kp b o n1 q);have hTe:s.heap.objs.size≠it:=VD (TF st);have hT'':h''.get? s.heap.objs.size=some { cls:=.type "tuple",data:=.seq #[e.key,e.val] }:=(hs''.2 _ hTe).trans hT;have fr:=I.aW.fresh (To _);have I1:Inv X ac σ (upd H s.heap.objs.size (.tup [y,v])) {s with heap:=h''}:=by
   refine I.step (g':=s.gens) (d':=s.drawn) (ch:=[it]) (λb hb=>?_) (λb o _ _ hn q _=>keep2 b o (λz=>hn (by simp[z])) q)
    (λb o _ _ hn q _=>⟨o.slots,keep2 b o (λz=>hn (by simp[z])) q⟩) (λb o _ q hH=>by rw[ag (T1 (TF q))];exact hH)
    (λb o hn q=>⟨o,keep2 b o (λz=>hn (by simp[z])) q⟩) (λb ys q=>by rw[ag (aj q fr)];exact q)
    (λb o' u' q=>by rw[ag (aj q fr)];exact q) (λb ps q=>⟨#[],by rw[ag (aj q fr)];simp[q]⟩) (λm hm=>?_) (λb u' q=>?_) I.bare
   .have:b=it:=by simpa using hb
    subst this;exact⟨fi.2.2.2.1,fi.2.1,fi.2.2.2.2.1,fi.2.2.2.2.2⟩
   .obtain⟨o,es',ep,ho',r⟩:=hm;exact⟨o,es',ep,keep2 _ o (UD fi.2.1) ho',r⟩
   .by_cases hb:b=s.heap.objs.size
    .subst hb;rw[af]at q;cases q;exact⟨by show 2<=sizeLine;decide,[e.key,e.val],.cons ry (.cons rv .nil),⟨_,hT'',rfl,0,rfl⟩⟩
    .rw[ag hb]at q;refine(I.aW b u' q).stay (λc v hc' q'=>keep2 c v ?_ q') (λc r=>by rw[ag (aj r fr)];exact r) λc ys r=>by rw[ag (aj r fr)];exact r
     rcases hc' with z|z
     .rw[z];exact aj q fi.1
     .exact aj z fi.1
  refine⟨.ref s.heap.objs.size,_,I1,rfl,hy _ fr,⟨_,_,hit''⟩,λb hb=>?_⟩;have:b=it:=by simpa using hb
  subst this;rw[ag (T1 (TF st))];exact fi.1
 done:=by intro X hP hw hK hc i ac s σ H E I hf st hg;subst hP hw hK;obtain⟨hd,hi⟩:=hst i H hg;obtain⟨ok,ov,st⟩:=st;obtain⟨eo,_⟩:=(show ObjOk X.prog X.w H s.heap d (.bj o u)from I.aW d _ hd);obtain⟨f0,f1,f2,f3,f4,f5⟩:=hf it (by simp);exact uV (I.ok.hd hc) st ⟨o,eo,hex,hdat⟩ (by lia) λh' eb=>⟨rfl,I.turned (t':=s.toks) (λb o hb e=>eb b o hb e) f0 f1 f3 f4 f5⟩
 self:=λA i s Q E st h=>by obtain⟨ok,ov,st⟩:=st;have hT:s.TypeIs (.ref it) "dict_itemiterator":=⟨_,st,rfl⟩;refine V9 hT F.slot_dict_itemiterator_iter (Ur F.slot_dict_itemiterator_iter hT (entryFor_alias (id':="dict_keyiterator.__iter__") (by kernel_rfl) rfl (by decide +kernel) (by kernel_rfl):entryFor table "dict_itemiterator.__iter__"=some Builtin.«dict_keyiterator.__iter__») ?_ (F.args_dict_itemiterator_iter_1 _));show wpAny _ _ (ret (.ref it)) _ _ s;exact Tl ⟨_,rfl,"dict_itemiterator",_,hT,UQ.lookup,h⟩
section
def z7{R:It->Hp->Prop}(s:Inv X ac σ H2 s1)(e2:H2 d=some (.bj o u))(hd:(d==sysModules)=false)(hex:o.ExactDict)(c:o.data=.dict en ep)(n:∀i H,J.go i H->H d=some (.bj o u))(q:∀i H,J.stop i H->H d=some (.bj o u)/\en.size<=i)
 (f:∀H h,HOk X.prog X.w H h->∀i,J.go i H->∃e y v,en[i]?=some e/\RelV y e.key/\RelV v e.val/\∀p,H p=none->J.A_ i H (.ref p) (upd H p (.tup [y,v]))) (q2:R J H2) :
 MethodOn X.prog X.w X.A "items" cpos (.ref d) [] (λv s1=>wX X (pyIter v) (PV X ac σ (.Tuple es k0 uc) R) X.xe s1) X.xe s1:=by
 obtain⟨l,_⟩:=(show ObjOk X.prog X.w H2 s1.heap d (.bj o u)from s.aW d _ e2);have g:s1.TypeIs (.ref d) "dict":=⟨o,l,hex.1⟩;have j:∀a,Value.ref d=.ref a->∃ob,s1.heap.get? a=some ob/\ob.dict=none:=λa e=>by cases e;exact⟨o,l,hex.2.1⟩
 refine⟨"dict","dict.items",Ug,PySem.F.slot_dict_items,PySem.F.type_dict_items,g,j,Vc rfl (PySem.evalArgs_none ?_)⟩;refine VP PySem.F.slot_dict_items g PySem.F.entry_dict_items (PySem.F.args_dict_items_1 _) (sP d hd) ⟨⟨en,ep,o,l,hex,c⟩,?_⟩;have m:Inv X ac σ H2 { s1 with heap:=s1.heap.push { cls:=.type "dict_items",data:=.fields #[.ref d] } }:=s.kept (t':=s1.toks) λb o e=>Tn _ e;have e3:({ s1 with heap:=s1.heap.push { cls:=.type "dict_items",data:=.fields #[.ref d] } }:Xo).heap.get? d=some o:=Tn _ l;generalize r:({ s1 with heap:=s1.heap.push { cls:=.type "dict_items",data:=.fields #[.ref d] } }:Xo)=k at m e3;have t:k.heap.IsItemsView s1.heap.objs.size d:=by rw[<- r];exact⟨_,Tv _ rfl,rfl,rfl⟩
 show wpAny _ _ (pyIter (.ref s1.heap.objs.size)) _ _ _;refine uU t ⟨o,e3,hex,c⟩ ?_;refine⟨k.heap.objs.size,[k.heap.objs.size],_,_,H2,rfl,m.kept (t':=k.toks) λb o e=>Tn _ e,xf hex c n q f,⟨_,_,Tv _ rfl⟩,λb hb=>?_,q2⟩;have e:b=k.heap.objs.size:=by simpa using hb
 subst e;exact m.qI (To _) (m.aW.fresh (To _))
end
theorem KV.at(r:KV a b):∀(i:Nat) p q,a[i]?=some p->b[i]?=some q->p.1=q.1/\RelV p.2 q.2:=by
 induction r with
 |nil=>intro i p q e;simp at e
 |cons c t d=>
  intro i p q e1 e2;cases i with
  |zero=>simp at e1 e2;subst e1 e2;exact c
  |succ i=>exact d i p q (by simpa using e1) (by simpa using e2)
def Mw(d:Addr)(o:Obj)(u:HO)(kvs:List (List bv×V)):It:=⟨λi H=>H d=some (.bj o u)/\i<kvs.length,λi H x H'=>∃p b k v,H p=none/\x=.ref p/\H b=some (.tup (k.map kV))/\H'=upd H p (.tup [.ref b,v])/\kvs[i]?=some (k,v),λi H=>H d=some (.bj o u)/\kvs.length<=i⟩
theorem KT.at{H:Hp}{a:List (List bv×V)}{b:List (List bv×Addr×Xr)}(r:KT H a b):∀(i:Nat) p q,a[i]?=some p->b[i]?=some q->p.1=q.1/\H q.2.1=some (.tup (p.1.map kV))/\RelV p.2 q.2.2:=by
 induction r with
 |nil=>intro i p q e;simp at e
 |cons c t d=>
  intro i p q e1 e2;cases i with
  |zero=>simp at e1 e2;subst e1 e2;exact c
  |succ i=>exact d i p q (by simpa using e1) (by simpa using e2)
section
def FW(X:Cx)(b:TE):TI:=λσ H R=>b σ H λx a=>∃d kvs u,x=.ref d/\(u=.dT kvs\/(u=.dK []/\kvs=[]))/\((∃o,a d=some (.bj o u)/\R (Mw d o u kvs) a)\/(a d=some u/\∀o,(∀c v,X.H₀ d≠some (.bj c v))->R (Mw d o u kvs) (upd a d (.bj o u))))
def ri(E:PE X l tl)(m:autoParam (attributeBase l "items" X.env (eval l X.env)=eval l X.env) aM) (n:autoParam ((apos.endLine==cpos.line)=true) aM):PI X (.Tuple es k0 uc) (.Call (.Attribute l "items" apos) [] [] cpos) (FW X tl):=by
 intro ac s σ H R I h;refine wpAny_Call_method0_late m n (cj (E ac s σ H _ I h) λv s1 ⟨x,F,r,S,q1⟩=>?_);obtain⟨d,kvs,u,e,G,q⟩:=q1;subst e;cases S;have O:h8 u:=by rcases G with rfl|⟨rfl,_⟩<;>exact True.intro
 have t:∀(o:Obj)(y:Hp),Inv X ac σ y s1->y d=some (.bj o u)->R (Mw d o u kvs) y->MethodOn X.prog X.w X.A "items" cpos (.ref d) [] (λv s1=>wX X (pyIter v) (PV X ac σ (.Tuple es k0 uc) R) X.xe s1) X.xe s1:=λo y K e2 q2=>by
  obtain⟨L,_⟩:=(show ObjOk X.prog X.w y s1.heap d (.bj o u)from K.aW d _ e2);have key:∀{H h},HOk X.prog X.w H h->H d=some (.bj o u)->(d==sysModules)=false/\∃(en:Array DictEntry)(ep:Nat),o.ExactDict/\o.data=.dict en ep/\en.size=kvs.length/\∀(i:Nat) p,kvs[i]?=some p->∃e b,en[i]?=some e/\e.key=.ref b/\H b=some (.tup (p.1.map kV))/\RelV p.2 e.val:=λ{H h} ok e=>by
   obtain⟨L,M⟩:=(show ObjOk X.prog X.w H h d (.bj o u)from ok d _ e);rcases G with rfl|⟨rfl,rfl⟩
   .obtain⟨_,hd,xs,c,T,en,ep,j,hex,a,z,_,_⟩:=js ok (.inr ⟨o,e⟩);rw[L]at j;cases j;refine⟨hd,en,ep,hex,a,by rw[Ww z,U7 c],λi p D=>?_⟩;have E:i<xs.length:=by rw[<- U7 c];exact(Tq.mp D).1
    have M:xs[i]?=some xs[i]:=by simp[E]
    obtain⟨_,hb,U⟩:=c.at i _ _ D M;exact⟨_,_,by rw[entry_at z,M];rfl,rfl,hb,U⟩
   .obtain⟨_,hd,vs,c,T,en,ep,j,hex,a,_,B,_⟩:=jr ok (.inr ⟨o,e⟩);rw[L]at j;cases j;cases c;cases P:en.toList with
    |nil=>exact⟨hd,en,ep,hex,a,by rw[<- UB,P];rfl,λi p e=>by simp at e⟩
    |cons _ _=>rw[P]at B;cases B
  obtain⟨hd,en,ep,hex,a,V,_⟩:=key K.aW e2;refine z7 (J:=Mw d o u kvs) K e2 hd hex a (λi H h=>h.1) (λi H h=>⟨h.1,by rw[V];exact h.2⟩) (λH h ok i g=>?_) q2;obtain⟨_,W,Y,_,k,_,f⟩:=key ok g.1;rw[a]at k;cases k;obtain⟨_,g⟩ : _/\i<kvs.length:=g;have Q:kvs[i]?=some kvs[i]:=by simp[g]
  obtain⟨e,b,h1,h2,Z,h4⟩:=f i _ Q;exact⟨e,.ref b,kvs[i].2,h1,h2,h4,λp D=>⟨p,b,_,_,D,rfl,Z,rfl,Q⟩⟩
 rcases q with⟨o,e1,q⟩|⟨e1,q⟩
 .exact t o F r e1 q
 .have N:∃o,s1.heap.get? d=some o:=by
   rcases G with rfl|⟨rfl,_⟩
   .obtain⟨_,_,_,_,o,_,_,C,_⟩:=(show ObjOk X.prog X.w F s1.heap d (.dT kvs)from r.aW d _ e1);exact⟨o,C⟩
   .obtain⟨_,_,_,_,o,_,_,C,_⟩:=(show ObjOk X.prog X.w F s1.heap d (.dK [])from r.aW d _ e1);exact⟨o,C⟩
  obtain⟨o,C⟩:=N;exact t o _ (r.bj e1 O C) af (q o (r.Jb e1 O))
end
section
def JR:List V->Hp->VK->Prop:=λxs H Q=>∃d kvs u,xs=[.ref d]/\(u=.dK kvs\/(u=.dT []/\kvs=[]))/\Rd H d u/\kvs.length<=sizeLine/\∀l,H l=none->Q (.ref l) (upd H l (.lst (kvs.map λp=>kV p.1)))
theorem yQ:∀{vs:List V}{its:List Xr},vs.length=its.length->(∀(i:Nat) v u,vs[i]?=some v->its[i]?=some u->RelV v u)->Vals vs its
 |[],[],_,_=>.nil
 |[],_::_,e,_=>by cases e
 |_::_,[],e,_=>by cases e
 |v::vs,u::its,e,f=>.cons (f 0 v u rfl rfl) (yQ (by simpa using e) λi w z a b=>f (i+1) w z (by simpa using a) (by simpa using b))
def xg(hc:X.calm=true):CallR X (.type "list") JR:=by
 intro ac s σ H xs us Q I r h;obtain⟨d,kvs,u,rfl,o,f,hz,q⟩:=h;obtain⟨w,rfl,t⟩:=fK r;cases t;have l:=f.ok I.aW;have key:(d==sysModules)=false/\∃vs,KV kvs vs/\s.heap.DictOf (aK X.prog X.w) d vs:=by
  rcases o with rfl|⟨rfl,rfl⟩
  .obtain⟨z,hd,vs,a,dd⟩:=l;exact⟨hd,vs,a,dd⟩
  .obtain⟨hd,dd⟩:=sG l;exact⟨hd,[],.nil,dd⟩
 obtain⟨hd,vs,a,dd⟩:=key;obtain⟨ep,y⟩:=dd.dictAt;have m:=a.length;refine PySem.W.kdl_call (PySem.W.kdl_dict (knd:=aK X.prog X.w) (kvs:=vs) (ep:=ep) hd) (I.ok.hd hc) y (by rw[<- m];exact hz) λh' tk b n kp e it=>?_;obtain⟨A,B⟩:=it;have la:b.toList.length=kvs.length:=by rw[UB,A,m]
 have C:Vals (kvs.map λp=>kV p.1) b.toList:=by
  refine yQ (by rw[Tp,la]) λi v w c D=>?_;rw[TL]at c;cases g:kvs[i]? with
  |none=>rw[g]at c;cases c
  |some p=>rw[g]at c;cases c;obtain⟨k,x,e1,e2⟩:=B i w (by rw[<- Uc];exact D);obtain⟨j,_⟩:=a.at i _ _ g e1;show RelV (kV p.1) w;rw[show p.1=k from j];exact FH e2
 have e:h'.get? s.heap.objs.size=some { cls:=.type "list",dict:=none,data:=.seq b.toList.toArray n,slots:=#[] }:=by rw[Array.toArray_toList];exact e
 exact⟨.ref s.heap.objs.size,_,I.laid (t':=tk) kp (To _) (show ObjOk X.prog X.w _ h' _ (.lst (kvs.map λp=>kV p.1))from⟨by rw[Tp];exact hz,b.toList,n,C,e⟩),rfl,q _ (I.aW.fresh (To _))⟩
end
def sQ:List Int->Int
 |[]=>0
 |x::r=>r.foldl (λa b=>if b<a then b else a) x
def z8(h:l≠[])(z:Int):sQ (l++[z])=if z<sQ l then z else sQ l:=by
 cases l with
 |nil=>exact(h rfl).elim
 |cons x r=>show(r++[z]).foldl _ x=_;rw[Vw];rfl
theorem oP(xs:Array (Int×Tok)):∀k,k<xs.size->numAt xs (argBest (λi j=>decide (numAt xs i<numAt xs j)) k)=sQ ((xs.toList.map (·.1)).take (k+1))
 |0,h=>by
  have e:xs.toList.map (·.1)≠[]:=λz=>by have:=U1 List.length z;simp at this;rw[this]at h;simp at h
  cases q:xs.toList.map (·.1)with
  |nil=>exact(e q).elim
  |cons y r=>
   have:(xs[0]?.map (·.1))=some y:=by rw[<- Uc,<- TL,q];rfl
   show numAt xs 0=y;unfold numAt;rw[this];rfl
 |k+1,h=>by
  have b:=oP xs k (by lia);have c:(xs.toList.map (·.1))[k+1]?=some (numAt xs (k+1)):=by rw[TL,Uc];unfold numAt;rw[VI h];rfl
  have d:(xs.toList.map (·.1)).take (k+1+1)=(xs.toList.map (·.1)).take (k+1)++[numAt xs (k+1)]:=by rw[List.take_succ,c];rfl
  have ne:(xs.toList.map (·.1)).take (k+1)≠[]:=λz=>by have f:=U1 List.length z;rw[Uz,Tp,UB,V4]at f;lia
  rw[d,z8 ne,<- b];show numAt xs (if(decide (numAt xs (k+1)<numAt xs (argBest _ k)))=true then k+1 else argBest _ k)=_;by_cases a:numAt xs (k+1)<numAt xs (argBest (λi j=>decide (numAt xs i<numAt xs j)) k)
  .rw[Tt (TZ a),Tt a]
  .rw[TC (by simpa using a),TC a]
theorem oQ:∀{ns:List Int}{its:List Xr},Vals (ns.map V.int) its->∃ps:List (Int×Tok),its=ps.map (λp=>.int p.1 p.2)/\ps.map (·.1)=ns
 |[],_,h=>by cases h;exact⟨[],rfl,rfl⟩
 |n::ns,_,h=>by
  cases h with
  |cons r a=>obtain⟨t,rfl⟩:=r;obtain⟨ps,rfl,e⟩:=oQ a;exact⟨(n,t)::ps,rfl,by rw[TJ,e]⟩
def z9(hc:X.calm=true):CallR X (.builtin "min") (λxs H Q=>∃p ns,xs=[.ref p]/\SqL X.K H p (ns.map V.int)/\ns≠[]/\Q (.int (sQ ns)) H):=by
 intro ac s σ H xs us Q I r h;obtain⟨p,ns,rfl,c,b,q⟩:=h;obtain⟨u,rfl,d⟩:=fK r;cases d;obtain⟨its,f,pl,hz⟩:=I.list c;obtain⟨ps,rfl,e⟩:=oQ f;have g:s.heap.IsList p (intItems ps.toArray):=by
  have:intItems ps.toArray=(ps.map (λp=>Value.int p.1 p.2)).toArray:=by simp[intItems]
  rw[this];exact pl.isList
 have a:0<ps.toArray.size:=by
  cases ps with
  |nil=>exact(b e.symm).elim
  |cons _ _=>simp
 refine min_intList (I.ok.hd hc) g a λv h' tk i kp=>?_;obtain⟨t,rfl⟩:=intItems_at i;rw[oP ps.toArray _ (by lia)];have ef:(ps.toArray.toList.map (·.1)).take (ps.toArray.size-1+1)=ns:=by rw[UT (by simp;lia)];simpa using e
 rw[ef];exact⟨.int (sQ ns),H,I.kept (t':=tk) kp,⟨t,rfl⟩,q⟩
end L2
namespace L2
open PySem PySem.Spec PySem.Calls PyProof.Rows ST
section
variable{prog:Xq}{w:World}{A:Xs}{E:Xr->Xo->Prop}{s:Xo}
theorem uW(K:PySem.W.KdlSrc prog w T r d n P OK)(j:A.handled=none)(aW:OK s.heap)(k:n<=sizeLine)
 (h:∀h' tk (a:Array Xr),s.heap.objs.size<h'.objs.size->(∀b o,s.heap.get? b=some o->h'.get? b=some o)->ItemsOf P a n->Q a.toList {s with heap:=h',toks:=tk}):wpAny (model prog w) A (collect (.ref r)) Q E s:=by
 have f:=K.there _ aW;have l:(s.heap.push (seqObj "list" #[] 0)).get? s.heap.objs.size=some (seqObj "list" #[] 0):=Tv _ rfl;have key:∀R:Result->Xo->Prop,(∀h' tk (a:Array Xr) c,(∀b o,b≠s.heap.objs.size->(s.heap.push (seqObj "list" #[] 0)).get? b=some o->h'.get? b=some o)->h'.get? s.heap.objs.size=some { cls:=.type "list",dict:=none,data:=.seq a c,slots:=#[] }->ItemsOf P a n->R (.ok (.ret (.ref s.heap.objs.size))) {s with heap:=h',toks:=tk})->
  codeAny (model prog w) A (.builtin "list.__iadd__" ⟨[.ref s.heap.objs.size,.ref r],[]⟩) R { s with heap:=s.heap.push (seqObj "list" #[] 0) }:=λR m=>U8 entry_list_iadd' (by
  rw[Vq (show plainId "list.__iadd__"=true by decide +kernel) _];exact PySem.W.kdl_extend (s:={ s with heap:=s.heap.push (seqObj "list" #[] 0) }) K j (K.keep _ _ aW λb _ o e=>Tn _ e) s.heap.objs.size (VD f.1) (VD f.2) (.ref s.heap.objs.size) 0 l m k)
 unfold collect;refine KE (wpAny_runValue (U8 entry_proto_collect' (show wpAny _ _ (do again (.builtin "list.__iadd__" ⟨[<- newList [],.ref r],[]⟩)) _ _ s from ?_)));refine KE (WY (Tl ⟨Code.quiet_builtin _ (by decide +kernel),key _ λh' tk a c kp g i=>?_⟩));refine KE (wpAny_load g ?_);show wpAny _ _ (pure a.toList) _ _ _;exact Tl (h h' tk a (TF g) (λb o e=>kp b o (T1 (TF e)) (Tn _ e)) i)
end
end L2
namespace L2
open PySem PySem.Spec PyProof.Rows
open Sem (wp)
open Builtin
open Sem (wp)
open Builtin
def oR(kts:List (Addr×List V))(a:Addr)(o:Obj)(ns:List Int):Hp:=λb=>match kts.lookup b with
 |some xs=>some (.tup xs)
 |none=>if b=a then some (.bj o (.lst (ns.map V.int)))else none
section
def FX(e:kts.lookup b=some xs):oR kts a o ns b=some (.tup xs):=by unfold oR;rw[e]
def FY(e:kts.lookup a=none):oR kts a o ns a=some (.bj o (.lst (ns.map V.int))):=by unfold oR;rw[e];exact Tt rfl
def FZ(e:kts.lookup b=none)(n:b≠a):oR kts a o ns b=none:=by unfold oR;rw[e];exact TC n
end
theorem lB:∀{vs:List Xr}{ns:List Int},IntsAre vs ns->Vals (ns.map V.int) vs
 |_,_,.nil=>.nil
 |_,_,.cons n t h=>.cons ⟨t,rfl⟩ (lB h)
def z_{P:Xq}{w:World}{K:Xp}{mg J:Str->Option Xr}{CX:ET}{k:Nat}{W a:Addr}{fd:FuncData}{x:Str}{sp:Sp}{f:Xo}{vs:List Xr}{ns:List Int}{kts:List (Addr×List V)}
 (X:K.In f.heap) (B:f.heap.Ns mainGlobals mg) (hb:f.heap.Ns builtinsNs J) (L:∀x:Str,x≠"__name__"->J x=bootBuiltins x) (C:f.heap.NoLimit) (Z:f.gens=#[])
 (ha:f.heap.get? a=some { cls:=.type "list",data:=.seq vs.toArray }) (hi:IntsAre vs ns) (hl:ns.length<=sizeLine) (hr:dj k callerA)
 (hK:∀o,K.lookup a=some o->o.cls=.type "list"->False)
 (G:∀b xs,kts.lookup b=some xs->K.lookup b=none/\∃(o:Obj)(its:Array Xr)(n:Nat),f.heap.get? b=some o/\o.cls=.type "tuple"/\o.data=.seq its n/\its.size<=sizeLine/\Vals xs its.toList)
 (hM:∀p∈K,∀b xs,Ji p.2=some (b,xs)->kts.lookup b=some xs)
 (F:∀base:Heap,K.In base->base.Ns mainGlobals mg->bD P w K mg base CX k W fd [x] sp) (j:∀(s:Xo)(u:Xr),BindsTo s fd ⟨[u],[]⟩ [(x,u)])
 (M:∀H:Hp,(∃o,H a=some (.bj o (.lst (ns.map V.int))))->sp [.ref a] H (λv _=>v=.bl true) λ_ _ _=>False)
 (N:∀H e l,CX [] H f (λ_ _ _=>False) e l->False) :
 codeAny (model P w) callerA (.call (.ref W) ⟨[.ref a],[]⟩) (λr l=>r=.ok (.ret (.bool true))/\OldK f.heap l.heap/\l.os=f.os/\AllBare l.gens) f:=by
 have rv:=lB hi;have O:K.lookup a=none:=by
  cases q:K.lookup a with
  |none=>rfl
  |some o=>have e:=X a o q;rw[ha]at e;cases e;exact(hK _ q rfl).elim
 have Q:kts.lookup a=none:=by
  cases q:kts.lookup a with
  |none=>rfl
  |some xs=>obtain⟨_,o,its,n,e,c,_⟩:=G a xs q;rw[ha]at e;cases e;exact absurd c (by simp)
 obtain⟨ob,t⟩ : ∃ob:Obj,ob={ cls:=.type "list",data:=.seq vs.toArray }:=⟨_,rfl⟩;rw[<- t]at ha;generalize R:oR kts a ob ns=H;have S:H a=some (.bj ob (.lst (ns.map V.int))):=by rw[<- R];exact FY Q
 have T:∀b xs,kts.lookup b=some xs->H b=some (.tup xs):=λb xs e=>by rw[<- R];exact FX e
 have I:∀b,kts.lookup b=none->b≠a->H b=none:=λb e n=>by rw[<- R];exact FZ e n
 have y:∀b o,K.lookup b=some o->H b=none:=λb o e=>by
  refine I b ?_ λz=>by rw[z,O]at e;cases e
  cases q:kts.lookup b with
  |none=>rfl
  |some xs=>rw[(G b xs q).1]at e;cases e
 have A:∀(b:Addr)(o:Obj)(es:Array DictEntry)(ep:Nat),f.heap.get? b=some o->o.data=.dict es ep->H b=none:=λb o es ep e d=>by
  refine I b ?_ λz=>?_
  .cases q:kts.lookup b with
   |none=>rfl
   |some xs=>obtain⟨_,o',its,n,Y,_,d',_⟩:=G b xs q;rw[e]at Y;cases Y;rw[d]at d';cases d'
  .rw[z,ha]at e;cases e;rw[t]at d;cases d
 have i:∀{b:Addr}{m:Str->Option Xr},f.heap.Ns b m->(uy f.heap H).Ns b m:=λ{b m} ⟨o,es,ep,e,d,r⟩=>⟨o,es,ep,uz e (A b o es ep e d),d,r⟩;have D:K.In (uy f.heap H):=λb o e=>uz (X b o e) (y b o e);have U:Mod K mg (uy f.heap H):=⟨D,i B,⟨J,i hb,L⟩,let ⟨mc,h1,h2⟩:=C;⟨mc,i h1,h2⟩⟩;have aW:HOk P w H f.heap:=λb u e=>by
  cases q:kts.lookup b with
  |some xs=>rw[T b xs q]at e;cases e;obtain⟨_,o,its,n,e1,c,d,z,r⟩:=G b xs q;refine⟨by rw[r.length];simpa using z,its.toList,r,o,e1,c,n,by simpa using d⟩
  |none=>
   by_cases g:b=a
   .rw[g,S]at e;cases e;rw[g];exact⟨ha,by rw[Tp];exact hl,vs,_,rv,by rw[ha,t]⟩
   .rw[I b q g]at e;cases e
 have e0:yi P w K mg (uy f.heap H) callerA [] f H:=⟨rfl,U,λb o e=>Fo e,Xl (zI _ _),trivial,λb hb=>absurd (show b∈([]:List Addr)from hb) (by simp),aW,.of_eq Z,λp hp b xs e=>T b xs (hM p hp b xs e)⟩;refine WH ((F _ D (i B)).run callerA [] f H ⟨[.ref a],[]⟩ [.ref a] [.ref a] _ _ hr e0 (j f (.ref a)) (.cons rfl .nil) (M H ⟨ob,S⟩)) λr l h=>?_;cases r with
 |error e=>exact(N H e l h).elim
 |ok fl=>
  cases fl with
  |next=>exact False.elim h
  |brk=>exact False.elim h
  |cont=>exact False.elim h
  |ret u=>
   obtain⟨v,H',os,bare,un,E,r',q⟩:=h;have q':v=.bl true:=q;subst q';obtain rfl:u=Value.bool true:=r';refine⟨rfl,OldK.of_keep λb o e=>?_,os,bare⟩;by_cases g:b=a
   .rw[g]at e ⊢;have z2:=un.nQ a ob _ S;obtain⟨e2,_⟩:=E a _ z2;rw[ha]at e;cases e;exact e2
   .refine un.keep b o e ?_ (by intro z;exact absurd (show b∈([]:List Addr)from z) (by simp)) (by simp);cases q:kts.lookup b with
    |none=>exact .inl (I b q g)
    |some xs=>exact .inr ⟨xs,T b xs q⟩
section
variable{K K':Xp}
def Qy(K:Xp):Bool:=K.all λp=>(Ji p.2).isNone
structure v8(K K':Xp):Prop where
 look:∀b o,K.lookup b=some o->(∀its n,o.data≠.seq its n)->K'.lookup b=some o
def Aa:v8 K K:=⟨λ_ _ e _=>e⟩
def v8.code(S:v8 K K')(h:codeIn K cd q=true):codeIn K' cd q=true:=by
 unfold codeIn at h ⊢;cases cd with
 |ref c=>
  dsimp only at h ⊢;cases e:K.lookup c with
  |none=>rw[e]at h;cases h
  |some o=>
   obtain⟨o1,b,a,d⟩:=o;cases a with
   |fields vs=>rw[S.look c _ e (λ_ _ z=>nomatch z)];rw[e]at h;exact h
   |_=>rw[e]at h;cases h
 |_=>cases h
def v8.keep(S:v8 K K')(e:K.lookup f=some ⟨o1,o2,.func fd,o4⟩):keepIn K' (.ref f)=true:=by unfold keepIn;dsimp only;rw[S.look f _ e (λ_ _ z=>nomatch z)]
end
def yR:Xr->Bool
 |.type n=>n=="list"
 |_=>false
def Qz(K:Xp):Bool:=K.all λp=>!yR p.2.cls
theorem Ci:∀{K:Xp},Qz K=true->K.lookup a=some o->o.cls=.type "list"->False
 |[],_,e,_=>by cases e
 |(b,x)::r,h,e,c=>by
  unfold Qz at h;rw[List.all_cons,Uu]at h;rw[VT]at e;split at e
  .cases e;rw[c]at h;have h1:=h.1;simp[yR]at h1
  .exact Ci (K:=r) h.2 e c
section
variable{l:PySem.W.OpenLaw}{K:Params->Xp}{CX:World->ET}{sp:World->Sp}
def Cj(J:l.most=some n)(t:n<=sizeLine)(y:d.params.defaults=[])(L:dj k callerA)(M:∀(w:World)(h:Heap),YP w h->(K w.params).In h)
 (D:∀w:World,Qz (K w.params)=true/\Qy (K w.params)=true)
 (F:∀(w:World)(mg:Str->Option Xr)(r:Addr)(h:Heap),(K w.params).In h->h.Ns mainGlobals mg->mg d.name=some (.ref r)->
   ∃fd:FuncData,(∀(s:Xo)(u:Xr),BindsTo s fd ⟨[u],[]⟩ [(x,u)])/\∀base:Heap,(K w.params).In base->base.Ns mainGlobals mg->bD l.prog w (K w.params) mg base (CX w) k r fd [x] (sp w))
 (z:∀(w:World)(H:Hp)(a:Addr)(ns:List Int),ns.length<=n->(∃o,H a=some (.bj o (.lst (ns.map V.int))))->sp w [.ref a] H (λv _=>v=.bl true) λ_ _ _=>False)
 (A:∀(w:World)(H:Hp)(s:Xo)(e:Xr)(B:Xo),CX w [] H s (λ_ _ _=>False) e B->False) :
 PySem.W.WalkO q loose XP YP l.row.toRowW d [] (λf vs=>PySem.call f vs):=by
 refine Att.attach_call J y λw s₀ j mg S r o pm U doc a vs ns G Y X hd N C m i E O=>?_;have I:=M w _ Y;obtain⟨fd,hb,P⟩:=F w mg r _ I G.T.g C;exact z_ (kts:=[]) I G.T.g G.T.b G.T.builtins G.T.nolimit O m i (T6 E t) L (λo e c=>Ci (D w).1 e c) (λb xs e=>by cases e)
  (λp Q b xs e=>by have:=VS.mp (D w).2 p Q;rw[e]at this;cases this) P hb (λH R=>z w H a ns E R) λH e B=>A w H j e B
end
end L2
namespace L2
open PySem PySem.Spec PySem.Calls PyProof.Rows
abbrev K0:=Sum Int (List Int)
abbrev NX:=List (List K0×Addr×Xr)
def NVs(H:Hp):List K0->List V->Prop
 |[],vs=>vs=[]
 |.inl i::ks,vs=>∃r,vs=.int i::r/\NVs H ks r
 |.inr l::ks,vs=>∃c r,vs=.ref c::r/\H c=some (.tup (l.map V.int))/\NVs H ks r
def KeyN(H:Hp)(k:List K0)(b:Addr):Prop:=∃vs,H b=some (.tup vs)/\NVs H k vs
section
variable{H H':Hp}
theorem NVs.mono(kt:∀b vs,H b=some (.tup vs)->H' b=some (.tup vs)):∀{k:List K0}{vs:List V},NVs H k vs->NVs H' k vs
 |[],_,h=>h
 |.inl i::ks,_,⟨r,e,h⟩=>⟨r,e,NVs.mono kt h⟩
 |.inr l::ks,_,⟨c,r,e,e2,h⟩=>⟨c,r,e,kt _ _ e2,NVs.mono kt h⟩
theorem KeyN.mono(kt:∀b vs,H b=some (.tup vs)->H' b=some (.tup vs))(h:KeyN H k b):KeyN H' k b:=let ⟨vs,e,q⟩:=h;⟨vs,kt _ _ e,q.mono kt⟩
end
end L2
namespace L3
open PySem PySem.Spec PyProof.Rows L2
abbrev DK:=Sum bv (List bv)
inductive D where
 |bp|bl (b:Bool)|int (i:Int)|str (x:Str)|tup (ds:List D)|lst (ds:List D)|i9 (ks:List DK) (ds:List D)
mutual
noncomputable def D.flat:D->Bool
 |.lst _=>false
 |.i9 _ _=>false
 |.tup ds=>D.bP ds
 |_=>true
noncomputable def D.bP:List D->Bool
 |[]=>true
 |d::ds=>d.flat&&D.bP ds
end
mutual
noncomputable def D.dep:D->Nat
 |.lst ds=>D.gf ds+1
 |.tup ds=>D.gf ds+1
 |.i9 _ ds=>D.gf ds+1000
 |_=>0
noncomputable def D.gf:List D->Nat
 |[]=>0
 |d::ds=>max d.dep (D.gf ds)
end
mutual
noncomputable def jl:D->D->Bool
 |.bp,e=>match e with|.bp=>true|_=>false
 |.bl a,e=>match e with|.bl b=>a==b|.int b=>(if a then 1 else 0)==b|_=>false
 |.int a,e=>match e with|.int b=>a==b|.bl b=>a==(if b then 1 else 0)|_=>false
 |.str a,e=>match e with|.str b=>a==b|_=>false
 |.tup c,e=>match e with|.tup bs=>eqDs c bs|_=>false
 |.lst c,e=>match e with|.lst bs=>eqDs c bs|_=>false
 |.i9 ks c,e=>match e with|.i9 d bs=>decide (ks=d)&&eqDs c bs|_=>false
noncomputable def eqDs:List D->List D->Bool
 |[],bs=>match bs with|[]=>true|_=>false
 |a::c,bs=>match bs with|b::r=>jl a b&&eqDs c r|[]=>false
end
mutual
theorem fT:∀d:D,jl d d=true
 |.bp=>rfl
 |.bl a=>by simp[jl]
 |.int a=>by simp[jl]
 |.str a=>by simp[jl]
 |.tup b=>by simp only[jl];exact eqDs_refl b
 |.lst b=>by simp only[jl];exact eqDs_refl b
 |.i9 ks b=>by simp only[jl,decide_true,Bool.true_and];exact eqDs_refl b
theorem eqDs_refl:∀ds:List D,eqDs ds ds=true
 |[]=>rfl
 |d::ds=>by simp only[eqDs,fT d,eqDs_refl ds,WW]
end
def DAt(H:Hp)(a:Addr)(ks:List DK)(vs:List V):Prop:=(∃kvs:List (bv×V),Rd H a (.dK kvs)/\ks=kvs.map (λp=>.inl p.1)/\vs=kvs.map Prod.snd)\/∃kvs:List (List bv×V),Rd H a (.dT kvs)/\ks=kvs.map (λp=>.inr p.1)/\vs=kvs.map Prod.snd
def M8:HO->Prop
 |.lst _=>True
 |.dK _=>True
 |.dT _=>True
 |.ext _=>True
 |_=>False
def Mu(H:Hp)(a:Addr):Prop:=∃o,H a=some o/\M8 o
theorem Mu.lst(h:H a=some (.lst vs)):Mu H a:=⟨_,h,True.intro⟩
def Mu.same(h:Mu H a)(s:∀o,H a=some o->H' a=some o):Mu H' a:=let ⟨o,e,m⟩:=h;⟨o,s o e,m⟩
def Mu.some(h:Mu H a):H a≠none:=by obtain⟨o,e,_⟩:=h;rw[e];simp
def Ih(h:Rd H a u):∃o,H a=some o:=h.elim (λe=>⟨_,e⟩) λ⟨_,e⟩=>⟨_,e⟩
def mE(h:Rd H a u)(s:∀o,H a=some o->H' a=some o):Rd H' a u:=h.imp (s _) λ⟨o,e⟩=>⟨o,s _ e⟩
def DAt.obj(h:DAt H a ks vs):∃o,H a=some o:=h.elim (λ⟨_,e,_⟩=>Ih e) λ⟨_,e,_⟩=>Ih e
def DAt.keep(h:DAt H a ks vs)(s:∀o,H a=some o->H' a=some o):DAt H' a ks vs:=h.imp (λ⟨kvs,e,r⟩=>⟨kvs,mE e s,r⟩) λ⟨kvs,e,r⟩=>⟨kvs,mE e s,r⟩
def DAt.inj(h:DAt H a ks vs)(g:DAt H a ls ws):ks=ls/\vs=ws:=by rcases h with⟨k1,e1|⟨o1,e1⟩,b,c⟩|⟨k1,e1|⟨o1,e1⟩,b,c⟩<;>rcases g with⟨k2,e2|⟨d,e2⟩,q1,q2⟩|⟨k2,e2|⟨d,e2⟩,q1,q2⟩<;>(rw[e1]at e2;cases e2;try exact⟨b.trans q1.symm,c.trans q2.symm⟩)
def QA:HO->Prop
 |.dK _=>False
 |.dT _=>False
 |.bj _ (.dK _)=>False
 |.bj _ (.dT _)=>False
 |_=>True
def DAt.no(h:DAt H a ks vs)(e:H a=some o)(n:QA o):False:=by rcases h with⟨k,z|⟨b,z⟩,_⟩|⟨k,z|⟨b,z⟩,_⟩<;>(rw[e]at z;cases z;exact n)
mutual
noncomputable def Is(H:Hp)(m:Addr->Prop):D->V->Prop
 |.bp,v=>v=.bp
 |.bl b,v=>v=.bl b
 |.int i,v=>v=.int i
 |.str x,v=>v=.str x
 |.tup ds,v=>∃a vs,v=.ref a/\H a=some (.tup vs)/\IsAll H m ds vs
 |.lst ds,v=>∃a vs,v=.ref a/\((H a=some (.lst vs)/\m a)\/∃o,H a=some (.bj o (.lst vs))/\m a)/\IsAll H m ds vs
 |.i9 ks ds,v=>∃a vs,v=.ref a/\(DAt H a ks vs/\m a)/\IsAll H m ds vs
noncomputable def IsAll(H:Hp)(m:Addr->Prop):List D->List V->Prop
 |[],vs=>vs=[]
 |d::ds,vs=>∃v r,vs=v::r/\Is H m d v/\IsAll H m ds r
end
def jA:HO->Prop
 |.tup _=>True
 |.bj _ _=>True
 |_=>False
section
mutual
theorem Is.mono(kp:∀a o,H a=some o->(m a\/jA o)->H' a=some o)(b:∀a o,H a=some o->m a->m' a):∀{d:D}{v:V},Is H m d v->Is H' m' d v
 |.bp,_,h=>h
 |.bl _,_,h=>h
 |.int _,_,h=>h
 |.str _,_,h=>h
 |.tup ds,_,h=>by obtain⟨a,vs,e,h1,h2⟩:=h;exact⟨a,vs,e,kp a _ h1 (.inr True.intro),IsAll.mono kp b h2⟩
 |.lst ds,_,h=>by
  obtain⟨a,vs,e,h1,h2⟩:=h;refine⟨a,vs,e,?_,IsAll.mono kp b h2⟩;rcases h1 with⟨h1,c⟩|⟨o,h1,c⟩
  .exact .inl ⟨kp a _ h1 (.inl c),b a _ h1 c⟩
  .exact .inr ⟨o,kp a _ h1 (.inr True.intro),b a _ h1 c⟩
 |.i9 ks ds,_,h=>by obtain⟨a,vs,e,h1,h2⟩:=h;obtain⟨o,f⟩:=h1.1.obj;exact⟨a,vs,e,⟨h1.1.keep λo e=>kp a o e (.inl h1.2),b a o f h1.2⟩,IsAll.mono kp b h2⟩
theorem IsAll.mono(kp:∀a o,H a=some o->(m a\/jA o)->H' a=some o)(b:∀a o,H a=some o->m a->m' a):∀{ds:List D}{vs:List V},IsAll H m ds vs->IsAll H' m' ds vs
 |[],_,h=>h
 |d::ds,_,h=>by obtain⟨v,r,e,h1,h2⟩:=h;exact⟨v,r,e,Is.mono kp b h1,IsAll.mono kp b h2⟩
end
def Is.weak(b:∀a,m a->m' a)(h:Is H m d v):Is H m' d v:=h.mono (λ_ _ e _=>e) λa _ _=>b a
def IsAll.weak(b:∀a,m a->m' a)(h:IsAll H m ds vs):IsAll H m' ds vs:=h.mono (λ_ _ e _=>e) λa _ _=>b a
def Is.same(s:Same H H')(h:Is H m d v):Is H' m d v:=h.mono (λa o e _=>s a o e) λ_ _ _ z=>z
def IsAll.same(s:Same H H')(h:IsAll H m ds vs):IsAll H' m ds vs:=h.mono (λa o e _=>s a o e) λ_ _ _ z=>z
mutual
theorem Is.flat:∀{d:D}{v:V},d.flat=true->Is H m d v->Is H m' d v
 |.bp,_,_,h=>h
 |.bl _,_,_,h=>h
 |.int _,_,_,h=>h
 |.str _,_,_,h=>h
 |.tup ds,_,f,h=>by obtain⟨a,vs,e,h1,h2⟩:=h;exact⟨a,vs,e,h1,IsAll.flat (by simpa only[D.flat]using f) h2⟩
 |.lst ds,_,f,_=>by simp[D.flat]at f
 |.i9 ks ds,_,f,_=>by simp[D.flat]at f
theorem IsAll.flat:∀{ds:List D}{vs:List V},D.bP ds=true->IsAll H m ds vs->IsAll H m' ds vs
 |[],_,_,h=>h
 |d::ds,_,f,h=>by obtain⟨v,r,e,h1,h2⟩:=h;simp only[D.bP,Uu]at f;exact⟨v,r,e,Is.flat f.1 h1,IsAll.flat f.2 h2⟩
end
mutual
theorem Is.inj:∀{d e:D}{v:V},Is H m d v->Is H m' e v->d=e
 |.bp,e,_,h,g=>by cases e<;>first|rfl|(cases h;first|(obtain⟨_,_,z,_⟩:=g;cases z;done)|cases g)
 |.bl _,e,_,h,g=>by cases e<;>(cases h;first|(obtain⟨_,_,z,_⟩:=g;cases z;done)|(cases g;rfl)|cases g)
 |.int _,e,_,h,g=>by cases e<;>(cases h;first|(obtain⟨_,_,z,_⟩:=g;cases z;done)|(cases g;rfl)|cases g)
 |.str _,e,_,h,g=>by cases e<;>(cases h;first|(obtain⟨_,_,z,_⟩:=g;cases z;done)|(cases g;rfl)|cases g)
 |.tup ds,e,_,h,g=>by
  obtain⟨a,vs,rfl,h1,h2⟩:=h;cases e with
  |tup es=>obtain⟨b,ws,z,g1,g2⟩:=g;cases z;rw[h1]at g1;cases g1;rw[IsAll.inj h2 g2]
  |lst es=>obtain⟨b,ws,z,g1,g2⟩:=g;cases z;rcases g1 with⟨g1,_⟩|⟨o,g1,_⟩<;>(rw[h1]at g1;cases g1)
  |i9 c es=>obtain⟨b,ws,z,g1,g2⟩:=g;cases z;exact(g1.1.no h1 True.intro).elim
  |_=>cases g
 |.lst ds,e,_,h,g=>by
  obtain⟨a,vs,rfl,h1,h2⟩:=h;cases e with
  |tup es=>obtain⟨b,ws,z,g1,g2⟩:=g;cases z;rcases h1 with⟨h1,_⟩|⟨o,h1,_⟩<;>(rw[h1]at g1;cases g1)
  |lst es=>
   obtain⟨b,ws,z,g1,g2⟩:=g;cases z;have e:vs=ws:=by rcases h1 with⟨h1,_⟩|⟨o,h1,_⟩<;>rcases g1 with⟨g1,_⟩|⟨f,g1,_⟩<;>(rw[h1]at g1;cases g1;try rfl)
   subst e;rw[IsAll.inj h2 g2]
  |i9 c es=>obtain⟨b,ws,z,g1,g2⟩:=g;cases z;rcases h1 with⟨h1,_⟩|⟨o,h1,_⟩<;>exact(g1.1.no h1 True.intro).elim
  |_=>cases g
 |.i9 ks ds,e,_,h,g=>by
  obtain⟨a,vs,rfl,h1,h2⟩:=h;cases e with
  |tup es=>obtain⟨b,ws,z,g1,g2⟩:=g;cases z;exact(h1.1.no g1 True.intro).elim
  |lst es=>obtain⟨b,ws,z,g1,g2⟩:=g;cases z;rcases g1 with⟨g1,_⟩|⟨o,g1,_⟩<;>exact(h1.1.no g1 True.intro).elim
  |i9 c es=>obtain⟨b,ws,z,g1,g2⟩:=g;cases z;obtain⟨e1,e2⟩:=h1.1.inj g1.1;subst e1 e2;rw[IsAll.inj h2 g2]
  |_=>cases g
theorem IsAll.inj:∀{ds es:List D}{vs:List V},IsAll H m ds vs->IsAll H m' es vs->ds=es
 |[],es,_,h,g=>by
  cases h;cases es with
  |nil=>rfl
  |cons e es=>obtain⟨_,_,z,_⟩:=g;cases z
 |d::ds,es,_,h,g=>by
  obtain⟨v,r,rfl,h1,h2⟩:=h;cases es with
  |nil=>cases g
  |cons e es=>obtain⟨w,q,z,g1,g2⟩:=g;cases z;rw[Is.inj h1 g1,IsAll.inj h2 g2]
end
theorem IsAll.length:∀{ds:List D}{vs:List V},IsAll H m ds vs->vs.length=ds.length
 |[],_,h=>by cases h;rfl
 |d::ds,_,h=>by obtain⟨v,r,rfl,_,h2⟩:=h;simp[IsAll.length h2]
theorem IsAll.append:∀{ds es:List D}{vs ws:List V},IsAll H m ds vs->IsAll H m es ws->IsAll H m (ds++es) (vs++ws)
 |[],_,_,_,h,g=>by cases h;exact g
 |d::ds,_,_,_,h,g=>by obtain⟨v,r,rfl,h1,h2⟩:=h;exact⟨v,r++_,rfl,h1,IsAll.append h2 g⟩
def IsAll.snoc(h:IsAll H m ds vs)(g:Is H m d v):IsAll H m (ds++[d]) (vs++[v]):=h.append ⟨v,[],rfl,g,rfl⟩
theorem IsAll.get:∀{ds:List D}{vs:List V}{i:Nat}{d:D},IsAll H m ds vs->ds[i]?=some d->∃v,vs[i]?=some v/\Is H m d v
 |[],_,_,_,_,e=>by simp at e
 |d::ds,_,0,_,h,e=>by obtain⟨v,r,rfl,h1,h2⟩:=h;simp at e;subst e;exact⟨v,rfl,h1⟩
 |d::ds,_,i+1,_,h,e=>by obtain⟨v,r,rfl,h1,h2⟩:=h;obtain⟨w,a,b⟩:=IsAll.get (i:=i) h2 (by simpa using e);exact⟨w,by simpa using a,b⟩
theorem IsAll.take:∀{ds:List D}{vs:List V}(n:Nat),IsAll H m ds vs->IsAll H m (ds.take n) (vs.take n)
 |_,_,0,_=>rfl
 |[],_,n+1,h=>by cases h;exact rfl
 |d::ds,_,n+1,h=>by obtain⟨v,r,rfl,h1,h2⟩:=h;exact⟨v,r.take n,rfl,h1,IsAll.take n h2⟩
theorem IsAll.drop:∀{ds:List D}{vs:List V}(n:Nat),IsAll H m ds vs->IsAll H m (ds.drop n) (vs.drop n)
 |_,_,0,h=>h
 |[],_,n+1,h=>by cases h;exact rfl
 |d::ds,_,n+1,h=>by obtain⟨v,r,rfl,h1,h2⟩:=h;exact IsAll.drop n h2
end
section
variable{s:Xo}{m m':Addr->Prop}
def JS(ok:HOk P w H s.heap)(h:(H a=some (.lst vs)/\m a)\/∃o,H a=some (.bj o (.lst vs))/\m a) :
 ∃its:List Xr,Vals vs its/\s.heap.IsList a its.toArray:=by
 have key:ObjOk P w H s.heap a (.lst vs)->∃its:List Xr,Vals vs its/\s.heap.IsList a its.toArray:=λ⟨_,its,n,r,e⟩=>⟨its,r,⟨_,e,rfl,n,rfl⟩⟩;rcases h with⟨h,_⟩|⟨o,h,_⟩
 .exact key (ok a _ h)
 .exact key (ok a _ h).2
def JT(ok:HOk P w H s.heap)(h:H a=some (.tup vs)):∃its:List Xr,Vals vs its/\s.heap.IsTuple a its.toArray:=by obtain⟨_,its,r,e⟩:=ok a _ h;exact⟨its,r,e⟩
def Ab(n:Nat)(e:Nat->Bool):(List.range n).all e=true↔∀j,j<n->e j=true:=by simp[VS,Uj]
theorem oS:∀(ds es:List D),eqDs ds es=true↔ds.length=es.length/\∀(j:Nat)(d e:D),ds[j]?=some d->es[j]?=some e->jl d e=true
 |[],[]=>by simp[eqDs]
 |[],e::es=>by simp[eqDs]
 |d::ds,[]=>by simp[eqDs]
 |d::ds,e::es=>by
  simp only[eqDs,Uu,oS ds es,T3,Nat.add_right_cancel_iff];constructor
  .rintro⟨h1,h2,b⟩;refine⟨h2,λj x y ex a=>?_⟩;cases j with
   |zero=>simp at ex a;subst ex;subst a;exact h1
   |succ j=>exact b j x y (by simpa using ex) (by simpa using a)
  .rintro⟨h2,b⟩;exact⟨b 0 d e rfl rfl,h2,λj x y ex a=>b (j+1) x y (by simpa using ex) (by simpa using a)⟩
theorem fg:∀{ds:List D}{j:Nat}{d:D},ds[j]?=some d->d.dep<=D.gf ds
 |[],_,_,e=>by simp at e
 |d::ds,0,_,e=>by simp at e;subst e;simp only[D.gf];lia
 |d::ds,j+1,x,e=>by have:=fg (ds:=ds) (j:=j) (d:=x) (by simpa using e);simp only[D.gf];lia
def sR(ok:HOk P w H s.heap){A:Xs}{ds es:List D}(h1:IsAll H m ds vs)(h2:IsAll H m' es ws)(b:Vals vs its)(c:Vals ws its2)
 (rec:∀d∈ds,∀e∈es,∀(v w:V)(u u':Xr),Is H m d v->Is H m' e w->RelV v u->RelV w u'->SeqAt.EqAt A.in1 s u u' (jl d e)) :
 ∀j (f:j<its.toArray.size) (g:j<its2.toArray.size),SeqAt.EqAt A.in1 s its.toArray[j] its2.toArray[j] (match ds[j]?,es[j]? with|some d,some e=>jl d e|_,_=>true):=by
 intro j f g;have o:=b.length;have p:=c.length;have q:=h1.length;have r:=h2.length;have t:j<its.length:=by simpa using f
 have x:j<its2.length:=by simpa using g
 have k1:j<ds.length:=by lia
 have k2:j<es.length:=by lia
 obtain⟨v,h,y⟩:=h1.get (i:=j) (d:=ds[j]) (by simp[k1]);obtain⟨z,a,k⟩:=h2.get (i:=j) (d:=es[j]) (by simp[k2]);obtain⟨u,B,ru⟩:=b.get h;obtain⟨u',l,n⟩:=c.get a
 grind
theorem xh(c:ds.length=es.length) :
 ((List.range ds.length).all λj=>match ds[j]?,es[j]? with|some d,some e=>jl d e|_,_=>true)=eqDs ds es:=by
 rw[V1,Ab,oS];constructor
 .intro h;refine⟨c,λj d e b f=>?_⟩;have:=h j (Tq.mp b).1;rw[b,f]at this;exact this
 .rintro⟨_,h⟩ j g;have e1:ds[j]?=some ds[j]:=by simp[g]
  have a:j<es.length:=by lia
  have e2:es[j]?=some es[j]:=by simp[a]
  rw[e1,e2];exact h j _ _ e1 e2
theorem sS(a:ds.length≠es.length):eqDs ds es=false:=by grind [eqDs,oS]
end
section
variable{s:Xo}
abbrev m9(H:Hp)(s:Xo)(m m':Addr->Prop)(A:Xs)(n:Nat):Prop:=∀(d e:D)(v w:V)(u u':Xr),d.dep<n->e.dep<1000->Is H m d v->Is H m' e w->RelV v u->RelV w u'->SeqAt.EqAt A.in1 s u u' (jl d e)
section
def oT(ok:HOk P w H s.heap)(i:(D.lst l1).dep<=n)(k:(D.lst l2).dep<1000)(f:A.units<cLine)(q1:IsAll H m l1 vs1)(q2:IsAll H m' l2 vs2)(g:Vals vs1 its1)(h:Vals vs2 its2)(p1:s.heap.IsList a1 its1.toArray)(p2:s.heap.IsList a2 its2.toArray)
 (rec:m9 H s m m' A n):SeqAt.RcAt A s (.ref a1) (.ref a2) (jl (.lst l1) (.lst l2)):=by
 have e1:its1.toArray.size=l1.length:=by rw[TB,<- g.length,q1.length]
 have e2:its2.toArray.size=l2.length:=by rw[TB,<- h.length,q2.length]
 have hd:∀d∈l1,d.dep<n:=λd hd=>by obtain⟨j,b⟩:=TN.mp hd;have:=fg b;simp only[D.dep]at i;lia
 have l:∀e∈l2,e.dep<1000:=λd hd=>by obtain⟨j,b⟩:=TN.mp hd;have:=fg b;simp only[D.dep]at k;lia
 by_cases a:l1.length=l2.length
 .have z:=SeqAt.RcAt.lists p1 p2 (by rw[e1,e2,a]) f (sR ok q1 q2 g h λd o e c v w u u' p q r t=>rec d e v w u u' (hd d o) (l e c) p q r t);rw[e1,xh a]at z;exact z
 .have z:=SeqAt.RcAt.lists_lengths p1 p2 (by rw[e1,e2];simpa using a) f;rw[show jl (.lst l1) (.lst l2)=eqDs l1 l2 from rfl,sS a];exact z
def sU(ok:HOk P w H s.heap)(i:(D.lst l1).dep<=n)(k:(D.lst l2).dep<1000)(f:A.units<cLine)(q1:IsAll H m l1 vs1)(q2:IsAll H m' l2 vs2)(g:Vals vs1 its1)(h:Vals vs2 its2)(p1:s.heap.IsList a1 its1.toArray)(p2:s.heap.IsList a2 its2.toArray)
 (rec:m9 H s m m' A n):SeqAt.RcNeAt A s (.ref a1) (.ref a2) (!jl (.lst l1) (.lst l2)):=by
 have e1:its1.toArray.size=l1.length:=by rw[TB,<- g.length,q1.length]
 have e2:its2.toArray.size=l2.length:=by rw[TB,<- h.length,q2.length]
 have hd:∀d∈l1,d.dep<n:=λd hd=>by obtain⟨j,b⟩:=TN.mp hd;have:=fg b;simp only[D.dep]at i;lia
 have l:∀e∈l2,e.dep<1000:=λd hd=>by obtain⟨j,b⟩:=TN.mp hd;have:=fg b;simp only[D.dep]at k;lia
 by_cases a:l1.length=l2.length
 .have z:=SeqAt.RcNeAt.lists p1 p2 (by rw[e1,e2,a]) f (sR ok q1 q2 g h λd o e c v w u u' p q r t=>rec d e v w u u' (hd d o) (l e c) p q r t);rw[e1,xh a]at z;exact z
 .have z:=SeqAt.RcNeAt.lists_lengths p1 p2 (by rw[e1,e2];simpa using a) f;rw[show jl (.lst l1) (.lst l2)=eqDs l1 l2 from rfl,sS a];exact z
def yS:((List.range (min l1.length l2.length)).all (λj=>match l1[j]?,l2[j]? with|some d,some e=>jl d e|_,_=>true)&&l1.length==l2.length)=eqDs l1 l2:=by grind [xh,sS]
def rj(ok:HOk P w H s.heap)(g:(D.tup l1).dep<=n)(h:(D.tup l2).dep<1000)(i:A.units<cLine)(q1:IsAll H m l1 vs1)(q2:IsAll H m' l2 vs2)(c:Vals vs1 its1)(f:Vals vs2 its2)(p1:s.heap.IsTuple a1 its1.toArray)(p2:s.heap.IsTuple a2 its2.toArray)
 (rec:m9 H s m m' A n):SeqAt.RcAt A s (.ref a1) (.ref a2) (jl (.tup l1) (.tup l2)):=by
 have e1:its1.toArray.size=l1.length:=by rw[TB,<- c.length,q1.length]
 have e2:its2.toArray.size=l2.length:=by rw[TB,<- f.length,q2.length]
 have hd:∀d∈l1,d.dep<n:=λd hd=>by obtain⟨j,a⟩:=TN.mp hd;have:=fg a;simp only[D.dep]at g;lia
 have k:∀e∈l2,e.dep<1000:=λd hd=>by obtain⟨j,a⟩:=TN.mp hd;have:=fg a;simp only[D.dep]at h;lia
 have z:=SeqAt.RcAt.tuples p1 p2 i (sR ok q1 q2 c f λd l e b v w u u' o p q r=>rec d e v w u u' (hd d l) (k e b) o p q r);rw[e1,e2,yS]at z;exact z
def uX(ok:HOk P w H s.heap)(g:(D.tup l1).dep<=n)(h:(D.tup l2).dep<1000)(i:A.units<cLine)(q1:IsAll H m l1 vs1)(q2:IsAll H m' l2 vs2)(c:Vals vs1 its1)(f:Vals vs2 its2)(p1:s.heap.IsTuple a1 its1.toArray)(p2:s.heap.IsTuple a2 its2.toArray)
 (rec:m9 H s m m' A n):SeqAt.RcNeAt A s (.ref a1) (.ref a2) (!jl (.tup l1) (.tup l2)):=by
 have e1:its1.toArray.size=l1.length:=by rw[TB,<- c.length,q1.length]
 have e2:its2.toArray.size=l2.length:=by rw[TB,<- f.length,q2.length]
 have hd:∀d∈l1,d.dep<n:=λd hd=>by obtain⟨j,a⟩:=TN.mp hd;have:=fg a;simp only[D.dep]at g;lia
 have k:∀e∈l2,e.dep<1000:=λd hd=>by obtain⟨j,a⟩:=TN.mp hd;have:=fg a;simp only[D.dep]at h;lia
 have z:=SeqAt.RcNeAt.tuples p1 p2 i (sR ok q1 q2 c f λd l e b v w u u' o p q r=>rec d e v w u u' (hd d l) (k e b) o p q r);rw[e1,e2,yS]at z;exact z
def uY(h:SeqAt.RcAt A s (.ref a1) (.ref a2) k)(a:a1=a2->k=true):SeqAt.EqAt A s (.ref a1) (.ref a2) k:=by
 by_cases e:a1=a2
 .subst e;rw[a rfl];exact SeqAt.EqAt.same _
 .exact SeqAt.EqAt.of_refs e h
end
def Is.shape(ok:HOk P w H s.heap)(c:d.dep<1000)(h:Is H m d v)(r:RelV v u):(d=.bp/\u=.none)\/(∃b,d=.bl b/\u=.bool b)\/(∃i t,d=.int i/\u=.int i t)\/(∃x t,d=.str x/\u=.str x t)\/
 (∃l a vs its,d=.lst l/\v=.ref a/\u=.ref a/\IsAll H m l vs/\Vals vs its/\s.heap.IsList a its.toArray)\/∃l a vs its,d=.tup l/\v=.ref a/\u=.ref a/\IsAll H m l vs/\Vals vs its/\s.heap.IsTuple a its.toArray:=by
 cases d with
 |bp=>cases h;cases r;exact .inl ⟨rfl,rfl⟩
 |bl b=>cases h;cases r;exact .inr (.inl ⟨b,rfl,rfl⟩)
 |int i=>cases h;obtain⟨t,rfl⟩:=r;exact .inr (.inr (.inl ⟨i,t,rfl,rfl⟩))
 |str x=>cases h;obtain⟨t,rfl⟩:=r;exact .inr (.inr (.inr (.inl ⟨x,t,rfl,rfl⟩)))
 |lst l=>obtain⟨a,vs,rfl,g,q⟩:=h;cases r;obtain⟨its,y,p⟩:=JS ok g;exact .inr (.inr (.inr (.inr (.inl ⟨l,a,vs,its,rfl,rfl,rfl,q,y,p⟩))))
 |tup l=>obtain⟨a,vs,rfl,g,q⟩:=h;cases r;obtain⟨its,y,p⟩:=JT ok g;exact .inr (.inr (.inr (.inr (.inr ⟨l,a,vs,its,rfl,rfl,rfl,q,y,p⟩))))
 |i9 k l=>exact absurd c (by simp only[D.dep];lia)
def F0(ok:HOk P w H s.heap)(a:A.units<cLine)(rec:m9 H s m m' A n)(x:d.dep<=n)(F:n<1000)(o:e.dep<1000)(h1:Is H m d v)(h2:Is H m' e w')(y:RelV v u)(z:RelV w' u') :
 SeqAt.RcAt A s u u' (jl d e):=by
 rcases h1.shape ok (by lia) y with⟨rfl,rfl⟩|⟨f,rfl,rfl⟩|⟨g,b,rfl,rfl⟩|⟨x1,b,rfl,rfl⟩|⟨B,C,p,k,rfl,rfl,rfl,q1,q,p1⟩|⟨B,C,p,k,rfl,rfl,rfl,q1,q,p1⟩<;>rcases h2.shape ok o z with⟨rfl,rfl⟩|⟨h,rfl,rfl⟩|⟨i,c,rfl,rfl⟩|⟨j,c,rfl,rfl⟩|⟨D,E,r,l,rfl,rfl,rfl,q2,t,p2⟩|⟨D,E,r,l,rfl,rfl,rfl,q2,t,p2⟩;exact .none_none;exact .none_bool h;exact .none_int i c;exact .none_str j c;exact .none_list p2 a;exact .none_tuple p2 a;exact .bool_none f;exact .bool_bool f h;exact .bool_int f i c;exact .bool_str f j c;exact .bool_list f p2 a;exact .bool_tuple f p2 a;exact .int_none g b;exact .int_bool g b h;exact .int_int g b i c;exact .int_str g b j c;exact .int_list g b p2 a;exact .int_tuple g b p2 a;exact .str_none x1 b;exact .str_bool x1 b h;exact .str_int x1 b i c;exact .str_str x1 b j c;exact .str_list x1 b p2 a;exact .str_tuple x1 b p2 a;exact .list_none p1 a;exact .list_bool h p1 a;exact .list_int i c p1 a;exact .list_str j c p1 a;exact oT ok x o a q1 q2 q t p1 p2 rec;exact .list_tuple p1 p2 a;exact .tuple_none p1 a;exact .tuple_bool h p1 a;exact .tuple_int i c p1 a;exact .tuple_str j c p1 a;exact .tuple_list p1 p2 a;exact rj ok x o a q1 q2 q t p1 p2 rec
def F1(ok:HOk P w H s.heap)(a:A.units<cLine)(rec:m9 H s m m' A n)(x:d.dep<=n)(F:n<1000)(o:e.dep<1000)(h1:Is H m d v)(h2:Is H m' e w')(y:RelV v u)(z:RelV w' u') :
 SeqAt.RcNeAt A s u u' (!jl d e):=by
 rcases h1.shape ok (by lia) y with⟨rfl,rfl⟩|⟨f,rfl,rfl⟩|⟨g,b,rfl,rfl⟩|⟨x1,b,rfl,rfl⟩|⟨B,C,p,k,rfl,rfl,rfl,q1,q,p1⟩|⟨B,C,p,k,rfl,rfl,rfl,q1,q,p1⟩<;>rcases h2.shape ok o z with⟨rfl,rfl⟩|⟨h,rfl,rfl⟩|⟨i,c,rfl,rfl⟩|⟨j,c,rfl,rfl⟩|⟨D,E,r,l,rfl,rfl,rfl,q2,t,p2⟩|⟨D,E,r,l,rfl,rfl,rfl,q2,t,p2⟩;exact .none_none;exact .none_bool h;exact .none_int i c;exact .none_str j c;exact .none_list p2 a;exact .none_tuple p2 a;exact .bool_none f;exact .bool_bool f h;exact .bool_int f i c;exact .bool_str f j c;exact .bool_list f p2 a;exact .bool_tuple f p2 a;exact .int_none g b;exact .int_bool g b h;exact .int_int g b i c;exact .int_str g b j c;exact .int_list g b p2 a;exact .int_tuple g b p2 a;exact .str_none x1 b;exact .str_bool x1 b h;exact .str_int x1 b i c;exact .str_str x1 b j c;exact .str_list x1 b p2 a;exact .str_tuple x1 b p2 a;exact .list_none p1 a;exact .list_bool h p1 a;exact .list_int i c p1 a;exact .list_str j c p1 a;exact sU ok x o a q1 q2 q t p1 p2 rec;exact .list_tuple p1 p2 a;exact .tuple_none p1 a;exact .tuple_bool h p1 a;exact .tuple_int i c p1 a;exact .tuple_str j c p1 a;exact .tuple_list p1 p2 a;exact uX ok x o a q1 q2 q t p1 p2 rec
def yT(ok:HOk P w H s.heap)(a:A.units<cLine)(rec:m9 H s m m' A n)(x:d.dep<=n)(G:n<1000)(o:e.dep<1000)(h1:Is H m d v)(h2:Is H m' e w')(y:RelV v u)(B:RelV w' u') :
 SeqAt.EqAt A s u u' (jl d e):=by
 rcases h1.shape ok (by lia) y with⟨rfl,rfl⟩|⟨f,rfl,rfl⟩|⟨g,b,rfl,rfl⟩|⟨x1,b,rfl,rfl⟩|⟨C,D,p,k,rfl,rfl,rfl,q1,q,p1⟩|⟨C,D,p,k,rfl,rfl,rfl,q1,q,p1⟩<;>rcases h2.shape ok o B with⟨rfl,rfl⟩|⟨h,rfl,rfl⟩|⟨i,c,rfl,rfl⟩|⟨j,c,rfl,rfl⟩|⟨E,F,r,l,rfl,rfl,rfl,q2,t,p2⟩|⟨E,F,r,l,rfl,rfl,rfl,q2,t,p2⟩;exact .same _;exact .none_bool h;exact .none_int i c;exact .none_str j c;exact .none_list p2 a;exact .none_tuple p2 a;exact .bool_none f;exact .bool_bool f h;exact .bool_int f i c;exact .bool_str f j c;exact .bool_list f p2 a;exact .bool_tuple f p2 a;exact .int_none g b;exact .int_bool g b h;exact .int_int g b i c;exact .int_str g b j c;exact .int_list g b p2 a;exact .int_tuple g b p2 a;exact .str_none x1 b;exact .str_bool x1 b h;exact .str_int x1 b i c;exact .str_str x1 b j c;exact .str_list x1 b p2 a;exact .str_tuple x1 b p2 a;exact .list_none p1 a;exact .list_bool h p1 a;exact .list_int i c p1 a;exact .list_str j c p1 a;exact uY (oT ok x o a q1 q2 q t p1 p2 rec) (λz=>by subst z;rw[Is.inj h1 h2];exact fT _);exact .list_tuple p1 p2 a;exact .tuple_none p1 a;exact .tuple_bool h p1 a;exact .tuple_int i c p1 a;exact .tuple_str j c p1 a;exact .tuple_list p1 p2 a;exact uY (rj ok x o a q1 q2 q t p1 p2 rec) (λz=>by subst z;rw[Is.inj h1 h2];exact fT _)
theorem Ck(ok:HOk P w H s.heap):∀(n:Nat)(A:Xs){d e:D}{v c:V}{u u':Xr},A.units+n<cLine->n<1000->d.dep<=n->e.dep<1000->Is H m d v->Is H m' e c->RelV v u->RelV c u'->SeqAt.EqAt A s u u' (jl d e)
 |0,A,d,e,v,c,u,u',i,f,g,h,h1,h2,a,b=>yT ok (by lia) (λd e v w u u' hd=>absurd hd (by lia)) g f h h1 h2 a b
 |n+1,A,d,e,v,c,u,u',i,f,g,h,h1,h2,a,b=>yT ok (by lia) (λd e v w u u' hd j k l a b=>Ck ok n A.in1 (by show A.units+1+n<cLine;lia) (by lia) (by lia) j k l a b) g f h h1 h2 a b
def Cm(ok:HOk P w H s.heap)(h:A.units+n<cLine)(i:n<1000):m9 H s m m' A n:=λd e v w u u' hd a b c f g=>Ck ok (n-1) A.in1 (by show A.units+1+(n-1)<cLine;lia) (by lia) (by lia) a b c f g
end
abbrev St:=L2.St
inductive Res(α:Type) where
 |stuck|ok (a:α)|exc (c:Str)
def Res.bind{α b:Type}:Res α->(α->Res b)->Res b
 |.stuck,_=>.stuck
 |.exc c,_=>.exc c
 |.ok a,k=>k a
@[simp] theorem Res.kf {α b:Type}(a:α)(k:α->Res b):(Res.ok a).bind k=k a:=rfl
inductive Kd where
 |no|tr (d:D)|ds (d:D)
inductive Sl where
 |val (d:D) (fr:Bool)|own (ds:List D) (fr:Bool)|sj (d:D)|Bl (d:D)
abbrev En:=List (Option Sl)
inductive R where
 |val (d:D) (fr:Bool) (al:List Nat)|new (ds:List D) (fr:Bool)|jj (d:D)
def R.d:R->D
 |.val d _ _=>d
 |.new ds _=>.lst ds
 |.jj d=>d
def R.fr:R->Bool
 |.val _ f _=>f
 |.new _ f=>f
 |.jj _=>true
def R.al:R->List Nat
 |.val _ _ al=>al
 |.new _ _=>[]
 |.jj _=>[]
def mF(d:D)(fr:Bool)(al:List Nat):R:=if d.flat then .val d true []else .val d fr al
structure Gd where
 H₀:Hp
 Ma:Addr->Prop
 Z:Addr->Prop
 root:Option V
 Pw:Option V
abbrev M9(H:Hp)(Ma:Addr->Prop):Gd:=⟨H,Ma,λ_=>False,none,none⟩
def MuZ(g:Gd)(H:Hp)(a:Addr):Prop:=Mu H a\/(g.Z a/\∃o u,H a=some (.bj o u))
theorem MuZ.same(h:MuZ g H a)(s:∀o,H a=some o->H' a=some o):MuZ g H' a:=h.imp (λz=>z.same s) λ⟨z,o,u,e⟩=>⟨z,o,u,s _ e⟩
def fj(g:Gd)(M:Addr->Prop)(fr:Bool)(a:Addr):Prop:=M a/\(fr=true->g.H₀ a=none)
abbrev Pr:=Nat->Addr->Prop
def vmsk(g:Gd)(M:Addr->Prop)(fr:Bool)(b:Pr)(al:List Nat)(a:Addr):Prop:=fj g M fr a\/∃i,i∈al/\b i a
mutual
noncomputable def IsSh(H:Hp)(m:Addr->Prop):D->V->Prop
 |.tup ds,v=>∃a vs,v=.ref a/\H a=some (.tup vs)/\IsShs H m ds vs
 |.lst _,v=>∃a vs,v=.ref a/\H a=some (.lst vs)/\m a
 |_,_=>True
noncomputable def IsShs(H:Hp)(m:Addr->Prop):List D->List V->Prop
 |[],_=>True
 |d::ds,vs=>∃v r,vs=v::r/\IsSh H m d v/\IsShs H m ds r
end
def Dst(H:Hp)(T:Addr->Prop)(v:V):Prop:=∃(a:Addr)(vs:List V),v=.ref a/\T a/\(H a=some (.lst vs)\/(∃kvs,H a=some (.dK kvs)/\vs=kvs.map Prod.snd)\/(H a=some (.dT [])/\vs=[]))/\V.ref a∉vs/\∀(i j:Nat)(b:Addr),vs[i]?=some (V.ref b)->vs[j]?=some (V.ref b)->i=j
def Dst.mono(kp:∀a o,T a->H a=some o->H' a=some o)(b:∀a,T a->T' a)(h:Dst H T v):Dst H' T' v:=by obtain⟨a,vs,e,ta,h1,h2⟩:=h;exact⟨a,vs,e,b a ta,h1.imp (kp a _ ta) (.imp (λ⟨kvs,q,z⟩=>⟨kvs,kp a _ ta q,z⟩) λ⟨q,z⟩=>⟨kp a _ ta q,z⟩),h2⟩
def KdOk(H:Hp)(T:Addr->Prop)(v:V):Kd->Prop
 |.no=>True
 |.tr d=>Is H T d v
 |.ds d=>Is H T d v/\Dst H T v
theorem KdOk.mono(kp:∀a o,H a=some o->(T a\/jA o)->H' a=some o)(h:KdOk H T v k):KdOk H' T v k:=by
 cases k with
 |no=>exact h
 |tr d=>exact Is.mono kp (λ_ _ _ z=>z) h
 |ds d=>exact⟨Is.mono kp (λ_ _ _ z=>z) h.1,h.2.mono (λa o z e=>kp a o e (.inl z)) λ_ z=>z⟩
def Gd.rt(g:Gd)(n:Nat):Option V:=if n=0 then g.root else g.Pw
def SlOk(g:Gd)(M T:Addr->Prop)(H:Hp)(v:V):Sl->Prop
 |.val d fr=>Is H (fj g M fr) d v
 |.own ds fr=>∃a vs,v=.ref a/\H a=some (.lst vs)/\(∀b,T b↔b=a)/\IsAll H (fj g M fr) ds vs
 |.sj d=>Is H T d v
 |.Bl d=>IsSh H T d v
def Sl.Qk:Sl->Bool
 |.val _ _=>false
 |_=>true
def fU(env:En)(j:Nat):Bool:=match env[j]? with
 |some (some sl)=>sl.Qk
 |_=>false
structure Rep(g:Gd) (M:Addr->Prop) (ρ:Pr) (env:En) (σ:St) (H:Hp):Prop where
 same:Same g.H₀ H
 jk:∀a,M a->H a≠none
 uv:∀a,M a->g.H₀ a=none\/g.Ma a
 fl:∀a,M a->g.H₀ a=none->MuZ g H a
 slot:∀(i:Nat)(sl:Sl),env[i]?=some (some sl)->∃v,σ[i]?=some (some v)/\SlOk g M (ρ i) H v sl
 cb:∀(i:Nat)(a:Addr),ρ i a->¬M a/\g.H₀ a=none/\Mu H a
 apart:∀(i j:Nat)(a:Addr),ρ i a->ρ j a->i=j
 ow:∀(i:Nat)(a:Addr),ρ i a->fU env i=true
 len:env.length=σ.length
 zz:∀a,g.Z a->H a≠none
def ROk(g:Gd)(M:Addr->Prop)(b:Pr)(c H:Hp)(v:V):R->Prop
 |.val d fr al=>Is H (vmsk g M fr b al) d v
 |.new ds fr=>∃a vs,v=.ref a/\H a=some (.lst vs)/\¬M a/\c a=none/\(∀i,¬b i a)/\IsAll H (fj g M fr) ds vs
 |.jj d=>∃T:Addr->Prop,(∀a,T a->¬M a/\c a=none/\Mu H a/\∀i,¬b i a)/\Is H T d v
structure Ext(M:Addr->Prop) (H:Hp) (M':Addr->Prop) (H':Hp):Prop where
 m:∀a,M a->M' a
 h:Same H H'
 n:∀a,M' a->M a\/H a=none
theorem Ext.refl(M:Addr->Prop)(H:Hp):Ext M H M H:=⟨λ_ z=>z,Same.refl H,λ_ z=>.inl z⟩
theorem Ext.trans{M M1 M2:Addr->Prop}(a:Ext M H M1 H1)(b:Ext M1 H1 M2 H2):Ext M H M2 H2:=⟨λx z=>b.m x (a.m x z),a.h.trans b.h,λx z=>(b.n x z).elim (a.n x) λw=>.inr (a.h.free w)⟩
section
mutual
theorem IsSh.mono(kp:∀a o,H a=some o->jA o->H' a=some o)(b:∀a vs,m a->H a=some (.lst vs)->∃vs',H' a=some (.lst vs'))(c:∀a,m a->m' a):∀{d:D}{v:V},IsSh H m d v->IsSh H' m' d v
 |.bp,_,h=>h
 |.bl _,_,h=>h
 |.int _,_,h=>h
 |.str _,_,h=>h
 |.tup ds,_,h=>by obtain⟨a,vs,e,h1,h2⟩:=h;exact⟨a,vs,e,kp a _ h1 True.intro,IsShs.mono kp b c h2⟩
 |.lst ds,_,h=>by obtain⟨a,vs,e,h1,h2⟩:=h;obtain⟨vs',f⟩:=b a vs h2 h1;exact⟨a,vs',e,f,c a h2⟩
 |.i9 _ _,_,h=>h
theorem IsShs.mono(kp:∀a o,H a=some o->jA o->H' a=some o)(b:∀a vs,m a->H a=some (.lst vs)->∃vs',H' a=some (.lst vs'))(c:∀a,m a->m' a):∀{ds:List D}{vs:List V},IsShs H m ds vs->IsShs H' m' ds vs
 |[],_,h=>h
 |d::ds,_,h=>by obtain⟨v,r,e,h1,h2⟩:=h;exact⟨v,r,e,IsSh.mono kp b c h1,IsShs.mono kp b c h2⟩
end
def fj.mono(b:∀a,M a->M' a)(h:fj g M fr a):fj g M' fr a:=⟨b a h.1,h.2⟩
theorem vmsk.mono(b:∀a,M a->M' a)(h:vmsk g M fr ρ al a):vmsk g M' fr ρ al a:=h.imp (fj.mono b) id
def Is.ext(e:Ext M H M' H')(h:Is H (vmsk g M fr ρ al) d v):Is H' (vmsk g M' fr ρ al) d v:=h.mono (λa o q _=>e.h a o q) λ_ _ _ z=>z.mono e.m
def IsAll.ext(e:Ext M H M' H')(h:IsAll H (vmsk g M fr ρ al) ds vs):IsAll H' (vmsk g M' fr ρ al) ds vs:=h.mono (λa o q _=>e.h a o q) λ_ _ _ z=>z.mono e.m
theorem SlOk.weak(c:∀a,M a->M' a)(h:SlOk g M T H v sl):SlOk g M' T H v sl:=by
 cases sl with
 |val d fr=>exact Is.weak (λb z=>fj.mono c z) h
 |own ds fr=>obtain⟨b,vs,rfl,h1,h2,e⟩:=h;exact⟨b,vs,rfl,h1,h2,IsAll.weak (λb z=>fj.mono c z) e⟩
 |sj d=>exact h
 |Bl d=>exact h
theorem SlOk.same(s:Same H H')(h:SlOk g M T H v sl):SlOk g M T H' v sl:=by
 cases sl with
 |val d fr=>exact Is.same s h
 |own ds fr=>obtain⟨b,vs,rfl,h1,h2,c⟩:=h;exact⟨b,vs,rfl,s _ _ h1,h2,IsAll.same s c⟩
 |sj d=>exact Is.same s h
 |Bl d=>exact IsSh.mono (λa o e _=>s a o e) (λa vs _ e=>⟨vs,s _ _ e⟩) (λ_ z=>z) h
def Rep.EO{T:Addr->Prop}(r:Rep g M ρ env σ H)(ht:∀a,T a->Mu H a/\g.H₀ a=none/\∀i,¬ρ i a):Rep g (λb=>M b\/T b) ρ env σ H where
 same:=r.same
 jk:=λb hb=>hb.elim (r.jk b) λe=>(ht b e).1.some
 uv:=λb hb=>hb.elim (r.uv b) λe=>.inl (ht b e).2.1
 fl:=λb hb h0=>hb.elim (λz=>r.fl b z h0) λe=>.inl (ht b e).1
 slot:=λi sl e=>by obtain⟨v,ev,s⟩:=r.slot i sl e;exact⟨v,ev,SlOk.weak (λ_=>.inl) s⟩
 cb:=λi a h=>⟨λz=>z.elim (r.cb i a h).1 λz=>(ht a z).2.2 i h,(r.cb i a h).2⟩
 apart:=r.apart
 ow:=r.ow
 len:=r.len
 zz:=r.zz
def Rep.more{a:Addr}(r:Rep g M ρ env σ H)(ha:H a=some (.lst ws))(h0:g.H₀ a=none)(no:∀i,¬ρ i a):Rep g (λb=>M b\/b=a) ρ env σ H:=r.EO λb e=>by subst e;exact⟨Mu.lst ha,h0,no⟩
def Rep.grow(r:Rep g M ρ env σ H)(s:Same H H'):Rep g M ρ env σ H' where
 same:=r.same.trans s
 jk:=λa ha e=>by
  cases q:H a with
  |none=>exact r.jk a ha q
  |some o=>rw[s a o q]at e;cases e
 uv:=r.uv
 fl:=λa ha h0=>(r.fl a ha h0).same λo e=>s a o e
 slot:=λi sl e=>by obtain⟨v,ev,k⟩:=r.slot i sl e;exact⟨v,ev,SlOk.same s k⟩
 cb:=λi a h=>let ⟨a1,a2,a3⟩:=r.cb i a h;⟨a1,a2,a3.same λo e=>s a o e⟩
 apart:=r.apart
 ow:=r.ow
 len:=r.len
 zz:=λa z e=>by
  cases q:H a with
  |none=>exact r.zz a z q
  |some o=>rw[s a o q]at e;cases e
theorem Rep.free(r:Rep g M ρ env σ H)(h:H a=none):g.H₀ a=none/\¬M a/\∀i,¬ρ i a:=by refine⟨r.same.free h,λz=>r.jk a z h,λi o=>?_⟩;exact(r.cb i a o).2.2.some h
def ao(h:H a=none):Same H (upd H a o):=λb u e=>by rw[ag (aj e h)];exact e
theorem ROk.is(c:Rep g M ρ env σ H)(x:Ext M0 H0 M H)(h0:Same g.H₀ H0)(h:ROk g M ρ H0 H v r):∃f,Ext M0 H0 f H/\(∀a,M a->f a)/\Rep g f ρ env σ H/\Is H (vmsk g f r.fr ρ r.al) r.d v:=by
 cases r with
 |val d fr al=>exact⟨M,x,λ_ z=>z,c,h⟩
 |new ds fr=>obtain⟨a,vs,rfl,h1,h2,j,l,o⟩:=h;have k:g.H₀ a=none:=h0.free j;exact⟨λb=>M b\/b=a,⟨λb z=>.inl (x.m b z),x.h,λb z=>z.elim (x.n b) λe=>.inr (e▸j)⟩,λ_=>.inl,c.more h1 k l,a,vs,rfl,.inl ⟨h1,.inl ⟨.inr rfl,λ_=>k⟩⟩,IsAll.weak (λb z=>.inl (fj.mono (λ_=>.inl) z)) o⟩
 |jj d=>obtain⟨T,i,is⟩:=h;exact⟨λb=>M b\/T b,⟨λb z=>.inl (x.m b z),x.h,λb z=>z.elim (x.n b) λe=>.inr (i b e).2.1⟩,λ_=>.inl,c.EO λa z=>let ⟨t,p,q,s⟩:=i a z;⟨q,h0.free p,s⟩,Is.weak (λb z=>.inl ⟨.inr z,λ_=>h0.free (i b z).2.1⟩) is⟩
theorem ROk.mF(h:Is H (vmsk g M fr ρ al) d v):ROk g M ρ H0 H v (mF d fr al):=by
 unfold L3.mF;split
 .exact Is.flat (by assumption) h
 .exact h
def ROk.back(s:Same H1 H0)(h:ROk g M ρ H0 H v r):ROk g M ρ H1 H v r:=by
 cases r with
 |val d fr al=>exact h
 |new ds fr=>obtain⟨a,vs,rfl,h1,h2,b,c,e⟩:=h;exact⟨a,vs,rfl,h1,h2,s.free b,c,e⟩
 |jj d=>obtain⟨T,f,is⟩:=h;exact⟨T,λa z=>let ⟨i,j,k⟩:=f a z;⟨i,s.free j,k⟩,is⟩
end
def F2(mg:Str->Option Xr)(E:XK)(g:Gd)(c:Str):Prop:=∀cls dx H',mg c=some cls->Same g.H₀ H'->E cls dx H'
section
variable(mg:Str->Option Xr)(E:XK)(g:Gd)(M:Addr->Prop)(ρ:Pr)(env:En)(σ:St)(H:Hp)
def PostE(Q:VK):Res R->Prop
 |.stuck=>False
 |.exc c=>F2 mg E g c
 |.ok r=>∀v a H',Ext M H a H'->Rep g a ρ env σ H'->ROk g a ρ H H' v r->Q v H'
def bS(rs:List R):Bool:=rs.all R.fr
def cU(rs:List R):List Nat:=rs.flatMap R.al
def PostA(Q:List V->Hp->Prop):Res (List R)->Prop
 |.stuck=>False
 |.exc c=>F2 mg E g c
 |.ok rs=>∀vs a H',Ext M H a H'->Rep g a ρ env σ H'->IsAll H' (vmsk g a (bS rs) ρ (cU rs)) (rs.map R.d) vs->Q vs H'
def PostT(Q:Bool->Hp->Prop):Res Bool->Prop
 |.stuck=>False
 |.exc c=>F2 mg E g c
 |.ok b=>∀a H',Ext M H a H'->Rep g a ρ env σ H'->Q b H'
end
def Snd(mg:Str->Option Xr)(E:XK)(t:TE)(f:En->Res R):Prop:=∀g M a env σ H Q,Rep g M a env σ H->PostE mg E g M a env σ H Q (f env)->t σ H Q
def SndA(mg:Str->Option Xr)(E:XK)(t:TA)(f:En->Res (List R)):Prop:=∀g M a env σ H Q,Rep g M a env σ H->PostA mg E g M a env σ H Q (f env)->t σ H Q
def SndT(mg:Str->Option Xr)(E:XK)(t:TT)(f:En->Res Bool):Prop:=∀g M a env σ H Q,Rep g M a env σ H->PostT mg E g M a env σ H Q (f env)->t σ H Q
def PD(X:Cx)(E:XK)(e:Expr)(f:En->Res R):Prop:=∃t,PE X e t/\Snd X.mg E t f
def Co(X:Cx)(E:XK)(es:List Expr)(f:En->Res (List R)):Prop:=∃t,PA X es t/\SndA X.mg E t f
def F3(X:Cx)(E:XK)(e:Expr)(f:En->Res Bool):Prop:=∃t,PT X e t/\SndT X.mg E t f
def PWD(X:Cx)(E:XK)(e:Expr)(f:En->Res Bool):Prop:=∃t,PW X e t/\SndT X.mg E t f
theorem PWD.pt(h:PWD X E e f):F3 X E e f:=let ⟨t,a,b⟩:=h;⟨t,a.pt,b⟩
section
def PostE.ext(e:Ext M H M' H')(p:PostE mg E g M ρ env σ H Q r):PostE mg E g M' ρ env σ H' Q r:=by
 cases r with
 |stuck=>exact p
 |exc c=>exact p
 |ok r=>exact λv M2 b e2 a ro=>p v M2 b (e.trans e2) a (ro.back e.h)
def PostA.ext(e:Ext M H M' H')(p:PostA mg E g M ρ env σ H Q r):PostA mg E g M' ρ env σ H' Q r:=by
 cases r with
 |stuck=>exact p
 |exc c=>exact p
 |ok r=>exact λv M2 a e2=>p v M2 a (e.trans e2)
def PostT.ext(e:Ext M H M' H')(p:PostT mg E g M ρ env σ H Q r):PostT mg E g M' ρ env σ H' Q r:=by
 cases r with
 |stuck=>exact p
 |exc c=>exact p
 |ok r=>exact λM2 a e2=>p M2 a (e.trans e2)
def PostE.val(p:PostE mg E g M ρ env σ H Q (.ok (mF d fr al)))(a:Rep g M ρ env σ H)(h:Is H (vmsk g M fr ρ al) d v):Q v H:=p v M H (Ext.refl M H) a (ROk.mF h)
theorem PostE.new(p:PostE mg E g M ρ env σ H Q (.ok (.new ds fr)))(b:Rep g M ρ env σ H)(ha:H a=none)(h:IsAll H (fj g M fr) ds vs):Q (.ref a) (upd H a (.lst vs)):=by have s:Same H (upd H a (.lst vs)):=ao ha;obtain⟨h0,c,d⟩:=b.free ha;exact p _ M _ ⟨λ_ z=>z,s,λ_ z=>.inl z⟩ (b.grow s) ⟨a,vs,rfl,af,c,ha,d,IsAll.same s h⟩
theorem PostE.tup(p:PostE mg E g M ρ env σ H Q (.ok (mF (.tup ds) fr al)))(b:Rep g M ρ env σ H)(ha:H a=none)(h:IsAll H (vmsk g M fr ρ al) ds vs):Q (.ref a) (upd H a (.tup vs)):=by have s:Same H (upd H a (.tup vs)):=ao ha;exact p _ M _ ⟨λ_ z=>z,s,λ_ z=>.inl z⟩ (b.grow s) (ROk.mF ⟨a,vs,rfl,af,IsAll.same s h⟩)
def Snd.one{t:TE}{f:En->Res R}(h:Snd mg E t f)(i:Rep g M ρ env σ H){α:Type}{K:R->Res α}{P:(M:Addr->Prop)->(H:Hp)->Res α->Prop}{Q:VK}
 (b:P M H ((f env).bind K)) (m:∀M H,P M H .stuck->False) (n:∀M H c,P M H (.exc c)->F2 mg E g c) (o:∀M H a H' r,Ext M H a H'->P M H r->P a H' r)
 (k:∀r v a H',Ext M H a H'->Rep g a ρ env σ H'->Is H' (vmsk g a r.fr ρ r.al) r.d v->P a H' (K r)->Q v H'):t σ H Q:=by
 refine h g M ρ env σ H Q i ?_;cases e:f env with
 |stuck=>rw[e]at b;exact m _ _ b
 |exc c=>rw[e]at b;exact n _ _ c b
 |ok r=>rw[e]at b;intro v M1 p e1 j ro;obtain⟨M2,e2,_,l,is⟩:=ro.is j e1 i.same;exact k r v M2 p e2 l is (o _ _ _ _ _ e2 b)
def Snd.ml{f:En->Res R}(h:Snd mg E t f)(b:Rep g M ρ env σ H){K:R->Res R}(c:PostE mg E g M ρ env σ H Q' ((f env).bind K))
 (k:∀r v a H',Ext M H a H'->Rep g a ρ env σ H'->Is H' (vmsk g a r.fr ρ r.al) r.d v->PostE mg E g a ρ env σ H' Q' (K r)->Q v H'):t σ H Q:=
 h.one b (P:=λM H r=>PostE mg E g M ρ env σ H Q' r) c (λ_ _ z=>z) (λ_ _ _ z=>z) (λ_ _ _ _ _ e p=>p.ext e) k
def Snd.Ml{f:En->Res R}(h:Snd mg E t f)(b:Rep g M ρ env σ H){K:R->Res (List R)}{c:List V->Hp->Prop}(i:PostA mg E g M ρ env σ H c ((f env).bind K))
 (k:∀r v a H',Ext M H a H'->Rep g a ρ env σ H'->Is H' (vmsk g a r.fr ρ r.al) r.d v->PostA mg E g a ρ env σ H' c (K r)->Q v H'):t σ H Q:=
 h.one b (P:=λM H r=>PostA mg E g M ρ env σ H c r) i (λ_ _ z=>z) (λ_ _ _ z=>z) (λ_ _ _ _ _ e p=>p.ext e) k
def Snd.EE{f:En->Res R}(h:Snd mg E t f)(b:Rep g M ρ env σ H){K:R->Res Bool}{c:Bool->Hp->Prop}(i:PostT mg E g M ρ env σ H c ((f env).bind K))
 (k:∀r v a H',Ext M H a H'->Rep g a ρ env σ H'->Is H' (vmsk g a r.fr ρ r.al) r.d v->PostT mg E g a ρ env σ H' c (K r)->Q v H'):t σ H Q:=
 h.one b (P:=λM H r=>PostT mg E g M ρ env σ H c r) i (λ_ _ z=>z) (λ_ _ _ z=>z) (λ_ _ _ _ _ e p=>p.ext e) k
def Snd.EK{j l:En->Res R}(ha:Snd mg E ta j)(hb:Snd mg E tb l)(h:Rep g M ρ env σ H){K:R->R->Res R}{S:V->V->Hp->Prop}
 (n:PostE mg E g M ρ env σ H Q' ((j env).bind λa=>(l env).bind λb=>K a b))
 (k:∀a b x y f H',Rep g f ρ env σ H'->Is H' (vmsk g f a.fr ρ a.al) a.d x->Is H' (vmsk g f b.fr ρ b.al) b.d y->PostE mg E g f ρ env σ H' Q' (K a b)->S x y H') :
 ta σ H λx m=>tb σ m λy i=>S x y i:=
 ha.ml h n λa x M1 m e1 c o p1=>hb.ml c p1 λb y M2 i e2 e p p2=>k a b x y M2 i e (o.ext e2) p p2
end
def lim:Nat:=1000000
def jB(h:n<=lim):n<=sizeLine:=by rw[Ud];unfold lim at h;lia
def Cp(h:n<lim):n<sizeLine:=by rw[Ud];unfold lim at h;lia
def mG(ds:List D)(fr:Bool)(al:List Nat):R:=if D.bP ds then .new ds true else if al.isEmpty then .new ds fr else .val (.lst ds) fr al
section
def vmsk.nil(h:vmsk g M fr ρ [] a):fj g M fr a:=h.elim id λ⟨_,z,_⟩=>absurd z (by simp)
theorem PostE.lst(p:PostE mg E g M ρ env σ H Q (.ok (mG ds fr al)))(c:Rep g M ρ env σ H)(ha:H a=none)(h:IsAll H (vmsk g M fr ρ al) ds vs):Q (.ref a) (upd H a (.lst vs)):=by
 unfold mG at p;by_cases d:D.bP ds=true
 .rw[Tt d]at p;exact p.new c ha (IsAll.flat d h)
 .rw[TC d]at p;cases al with
  |nil=>exact PostE.new (p:=p) c ha (IsAll.weak (λ_ z=>z.nil) h)
  |cons i al=>have p:PostE mg E g M ρ env σ H Q (.ok (.val (.lst ds) fr (i::al))):=p;have s:Same H (upd H a (.lst vs)):=ao ha;obtain⟨h0,j,f⟩:=c.free ha;refine p _ (λb=>M b\/b=a) _ ⟨λ_=>.inl,s,λb z=>z.imp id λ(e:b=a)=>by grind⟩ ((c.grow s).more af h0 f) ⟨a,vs,rfl,.inl ⟨af,.inl ⟨.inr rfl,λ_=>h0⟩⟩,?_⟩;exact(IsAll.same s h).weak λb z=>z.mono λ_=>.inl
def Is.rd(h:Is H m (.lst ds) v):∃a vs,v=.ref a/\Rd H a (.lst vs)/\IsAll H m ds vs:=by obtain⟨a,vs,e,h1,h2⟩:=h;exact⟨a,vs,e,h1.imp (·.1) λ⟨o,z,_⟩=>⟨o,z⟩,h2⟩
end
section
def aF(i:Nat):En->Res R:=λenv=>match env[i]? with
 |some (some (.val d fr))=>.ok (mF d fr [])
 |some (some (.own ds fr))=>.ok (.val (.lst ds) fr [i])
 |some (some (.sj d))=>.ok (.val d true [i])
 |_=>.stuck
def yU:Snd mg E (am i) (aF i):=by
 intro g M f env σ H Q b p;unfold aF at p;cases e1:env[i]? with
 |none=>rw[e1]at p;exact p.elim
 |some o=>
  cases o with
  |none=>rw[e1]at p;exact p.elim
  |some sl=>
   obtain⟨v,c,k⟩:=b.slot i sl e1;rw[e1]at p;refine⟨v,c,?_⟩;cases sl with
   |val d fr=>exact PostE.val p b (Is.weak (λ_ z=>.inl z) k)
   |own ds fr=>obtain⟨a,vs,rfl,h1,h2,e⟩:=k;exact p _ M H (Ext.refl M H) b ⟨a,vs,rfl,.inl ⟨h1,.inr ⟨i,by simp,(h2 a).mpr rfl⟩⟩,IsAll.weak (λ_ z=>.inl z) e⟩
   |sj d=>exact p _ M H (Ext.refl M H) b (Is.weak (λa z=>.inr ⟨i,by simp,z⟩) k)
   |Bl d=>exact p.elim
def JU(h:PE X e (am i)):PD X E e (aF i):=⟨_,h,yU⟩
def vC(d:D):En->Res R:=λ_=>.ok (.val d true [])
def Ii(h:∀H m,Is H m d v):Snd mg E (tC v) (vC d):=λg M b env σ H Q a p=>p v M H (Ext.refl M H) a (h H _)
def aB{i j pos}:PD X E (.Constant (.int i) j pos) (vC (.int i)):=⟨_,aA,Ii λ_ _=>rfl⟩
def JV{j pos}:PD X E (.Constant .none j pos) (vC .bp):=⟨_,mn,Ii λ_ _=>rfl⟩
def v2(op:R->R->Res R)(a b:En->Res R):En->Res R:=λenv=>(a env).bind λc=>(b env).bind λd=>op c d
def Ac(X:Cx)(E:XK)(f:Xr->Xr->Sem Xr)(op:R->R->Res R):Prop:=∃r:R2,OpR X f r/\
 ∀g M a env σ H Q b c x y,Rep g M a env σ H->Is H (vmsk g M b.fr a b.al) b.d x->Is H (vmsk g M c.fr a c.al) c.d y->PostE X.mg E g M a env σ H Q (op b c)->r x y H Q
def aJ(e:Ac X E (binaryOp op) k)(ha:PD X E a fa)(hb:PD X E b fb):PD X E (.BinOp a op b pos) (v2 k fa fb):=by obtain⟨r,h1,h2⟩:=e;obtain⟨ta,f,sa⟩:=ha;obtain⟨tb,h,i⟩:=hb;exact⟨_,cZ h1 f h,λg M j env σ H Q d p=>sa.EK i d p λl m x y n H' c o q s=>h2 g n j env σ H' Q l m x y c o q s⟩
def mH(e:Ac X E (compareOp op) k)(ha:PD X E a fa)(hb:PD X E b fb)(f:behindInMarks op b=false):PD X E (.Compare a [op] [b] pos) (v2 k fa fb):=by obtain⟨r,h1,h2⟩:=e;obtain⟨ta,h,sa⟩:=ha;obtain⟨tb,i,j⟩:=hb;exact⟨_,yx h1 h i f,λg M l env σ H Q d p=>sa.EK j d p λm n x y o H' c q s t=>h2 g o l env σ H' Q m n x y c q s t⟩
def oI(C:Int->Int->Bool)(k:Int->Int->D)(a b:R):Res R:=match a.d,b.d with
 |.int i,.int j=>if C i j then .ok (.val (k i j) true [])else .stuck
 |_,_=>.stuck
def yV{f:Xr->Xr->Sem Xr}{C:Int->Int->Prop}{kV:Int->Int->V}(c:Int->Int->Bool)(k:Int->Int->D)(l:OpR X f (rI C kV))(hc:∀i j,c i j=true->C i j)(n:∀H m i j,Is H m (k i j) (kV i j)):Ac X E f (oI c k):=by
 refine⟨_,l,λg M r env σ H Q o q x y a b e p=>?_⟩;unfold oI at p;cases e1:o.d with
 |int i=>
  rw[e1]at p b;cases e2:q.d with
  |int j=>
   rw[e2]at p e;cases b;cases e;by_cases h:c i j=true
   .simp only[h,VW]at p;exact⟨i,j,rfl,rfl,hc i j h,p _ M H (Ext.refl M H) a (n H _ i j)⟩
   .simp only[h]at p;exact p.elim
  |_=>rw[e2]at p;exact p.elim
 |_=>rw[e1]at p;exact p.elim
def xj{f:Xr->Xr->Sem Xr}{kV:Int->Int->V}(k:Int->Int->D)(c:OpR X f (wu kV))(d:∀H m i j,Is H m (k i j) (kV i j)):Ac X E f (oI (λ_ _=>true) k):=by refine yV (C:=λ_ _=>True) (kV:=kV) _ k (λac s σ H x y v u Q I e g h=>?_) (λ_ _ _=>True.intro) d;obtain⟨i,j,a,b,_,q⟩:=h;exact c ac s σ H x y v u Q I e g ⟨i,j,a,b,q⟩
def Cq(i j:Int):Bool:=(decide (-(2^64)<i)&&decide (i<2^64)) ||(decide (-(2^64)<j)&&decide (j<2^64))
def oU:R->R->Res R:=oI Cq λi j=>.int (i*j)
def ij:R->R->Res R:=oI (λ_ j=>decide (0<j)&&decide (j<1073741824)) λi j=>.int (i/j)
def c_:R->R->Res R:=oI (λ_ j=>decide (0<j)) λi j=>.int (i%j)
def ik:Ac X E (binaryOp .Mult) oU:=yV _ _ Jt (λi j h=>by simp only[Cq,Bool.or_eq_true,Uu,V_]at h;exact h) λ_ _ _ _=>rfl
def cA:Ac X E (binaryOp .FloorDiv) ij:=yV _ _ yq (λi j h=>by simp only[Uu,V_]at h;exact h) λ_ _ _ _=>rfl
def bt:Ac X E (binaryOp .Mod) c_:=yV _ _ Bu (λi j h=>by simpa using h) λ_ _ _ _=>rfl
def Mx:R->R->Res R:=oI (λ_ _=>true) λi j=>.bl (decide (i<j))
def M_:R->R->Res R:=oI (λ_ _=>true) λi j=>.bl (decide (j<i))
def Se:R->R->Res R:=oI (λ_ _=>true) λi j=>.bl (decide (j<=i))
def Cr:Ac X E (compareOp .Lt) Mx:=xj _ HX λ_ _ _ _=>rfl
def Cs:Ac X E (compareOp .Gt) M_:=xj _ yw λ_ _ _ _=>rfl
def Na:Ac X E (compareOp .GtE) Se:=xj _ HY λ_ _ _ _=>rfl
def Inv.SH(I:L2.Inv X ac σ H s)(h:Rd H l (.lst xs)) :
 xs.length<=sizeLine/\∃(its:List Xr)(n:Nat),Vals xs its/\xs.length=its.length/\s.heap.get? l=some { cls:=.type "list",data:=.seq its.toArray n }:=by
 obtain⟨z,its,n,r,e⟩:=(h.ok I.aW:ObjOk X.prog X.w H s.heap l (.lst xs));exact⟨z,its,n,r,r.length,e⟩
def Ct:R2:=λx y H Q=>∃l b xs zs,x=.ref l/\y=.ref b/\Rd H l (.lst xs)/\Rd H b (.lst zs)/\xs.length+zs.length<=sizeLine/\∀p,H p=none->Q (.ref p) (upd H p (.lst (xs++zs)))
def op_catS:OpR X (binaryOp .Add) Ct:=by
 intro ac s σ H x y v u Q I c d h;obtain⟨l,b,xs,zs,rfl,rfl,f,g,hz,q⟩:=h;cases c;cases d;obtain⟨z,its,n,r,m,e⟩:=Inv.SH I f;obtain⟨o,a,p,i,j,e2⟩:=Inv.SH I g;refine PySem.P.add_list e e2 ?_ (by grind);have k:its.toArray++a.toArray=(its++a).toArray:=by simp
 rw[k];exact⟨.ref _,_,I.Ps (t':=s.toks) (r.append i) (by grind),rfl,q _ I.fresh⟩
def gH(a b:R):Res R:=match a.d,b.d with
 |.int i,.int j=>.ok (.val (.int (i+j)) true [])
 |.lst xs,.lst c=>if xs.length+c.length<=lim then .ok (mG (xs++c) (a.fr&&b.fr) (a.al++b.al))else .stuck
 |.tup xs,.tup c=>if xs.length+c.length<=lim/\xs≠[]then .ok (mF (.tup (xs++c)) (a.fr&&b.fr) (a.al++b.al))else .stuck
 |.str x,.str y=>if x.length+y.length<=lim then .ok (.val (.str (x++y)) true [])else .stuck
 |_,_=>.stuck
section
def vmsk.l(h:vmsk g M f1 ρ l1 a):vmsk g M (f1&&f2) ρ (l1++l2) a:=h.imp (λz=>⟨z.1,λe=>z.2 (by grind)⟩) λ⟨i,b,o⟩=>⟨i,by simp[b],o⟩
def vmsk.r(h:vmsk g M f2 ρ l2 a):vmsk g M (f1&&f2) ρ (l1++l2) a:=h.imp (λz=>⟨z.1,λe=>z.2 (by grind)⟩) λ⟨i,b,o⟩=>⟨i,by simp[b],o⟩
end
def cB:Ac X E (binaryOp .Add) gH:=by
 refine⟨_,op_add.or (op_catS.or (op_catT.or ww)),λg M v env σ H Q s m x y c e f p=>?_⟩;unfold gH at p;cases e1:s.d with
 |int i=>
  rw[e1]at p e;cases e2:m.d with
  |int j=>rw[e2]at p f;cases e;cases f;exact .inl ⟨i,j,rfl,rfl,p _ M H (Ext.refl M H) c rfl⟩
  |_=>rw[e2]at p;exact p.elim
 |lst xs=>
  rw[e1]at p e;cases e2:m.d with
  |lst h=>
   rw[e2]at p f;obtain⟨a,vs,rfl,h1,h2⟩:=e.rd;obtain⟨b,ws,rfl,n,k⟩:=f.rd;by_cases hz:xs.length+h.length<=lim
   .simp only[hz,VW]at p;refine .inr (.inl ⟨a,b,vs,ws,rfl,rfl,h1,n,by rw[h2.length,k.length];exact jB hz,λq o=>?_⟩);exact p.lst c o ((h2.weak λ_ z=>z.l).append (k.weak λ_ z=>z.r))
   .simp only[hz,UM]at p;exact p.elim
  |_=>rw[e2]at p;exact p.elim
 |tup xs=>
  rw[e1]at p e;cases e2:m.d with
  |tup h=>
   rw[e2]at p f;obtain⟨a,vs,rfl,h1,h2⟩:=e;obtain⟨b,ws,rfl,n,k⟩:=f;dsimp only at p;by_cases hz:xs.length+h.length<=lim/\xs≠[]
   .rw[Tt hz]at p;have t:vs≠[]:=λz=>hz.2 (by have:=h2.length;rw[z]at this;exact WQ this.symm);refine .inr (.inr (.inl ⟨a,b,vs,ws,rfl,rfl,SqT.of h1,SqT.of n,t,by rw[h2.length,k.length];exact jB hz.1,λz=>?_,λ_ q o=>?_⟩))
    .have u:h=[]:=by have:=k.length;rw[z]at this;exact WQ this.symm
     rw[u,UE]at p;exact p.val c (Is.weak (d:=.tup xs) (λ_ z=>z.l) ⟨a,vs,rfl,h1,h2⟩)
    .exact p.tup c o ((h2.weak λ_ z=>z.l).append (k.weak λ_ z=>z.r))
   .rw[TC hz]at p;exact p.elim
  |_=>rw[e2]at p;exact p.elim
 |str xs=>
  rw[e1]at p e;cases e2:m.d with
  |str h=>
   rw[e2]at p f;cases e;cases f;by_cases hz:xs.length+h.length<=lim
   .simp only[hz,VW]at p;exact .inr (.inr (.inr ⟨xs,h,rfl,rfl,jB hz,p _ M H (Ext.refl M H) c rfl⟩))
   .simp only[hz,UM]at p;exact p.elim
  |_=>rw[e2]at p;exact p.elim
 |_=>rw[e1]at p;exact p.elim
def xk(a b:R):Res R:=if a.d.dep<=50/\b.d.dep<=50 then .ok (.val (.bl (jl a.d b.d)) true [])else .stuck
def QB:R2:=λx y H Q=>∃d e m m',Is H m d x/\Is H m' e y/\(d.dep<=50/\e.dep<=50)/\Q (.bl (jl d e)) H
def F4:R2:=λx y H Q=>∃d e m m',Is H m d x/\Is H m' e y/\(d.dep<=50/\e.dep<=50)/\Q (.bl (!jl d e)) H
def JW(c:X.A.units+64<cLine):OpR X (compareOp .Eq) QB:=by intro ac s σ H x y v u Q I a b h;obtain⟨d,e,m,m',h1,h2,hd,q⟩:=h;exact F0 I.aW (by lia) (Cm I.aW (A:=X.A) (n:=50) (by lia) (by lia)) hd.1 (by lia) (by lia) h1 h2 a b X.prog X.w X.xe _ ⟨.bl _,H,I,rfl,q⟩
def xm(c:X.A.units+64<cLine):OpR X (compareOp .NotEq) F4:=by intro ac s σ H x y v u Q I a b h;obtain⟨d,e,m,m',h1,h2,hd,q⟩:=h;exact F1 I.aW (by lia) (Cm I.aW (A:=X.A) (n:=50) (by lia) (by lia)) hd.1 (by lia) (by lia) h1 h2 a b X.prog X.w X.xe _ ⟨.bl _,H,I,rfl,q⟩
def lC(b:X.A.units+64<cLine):Ac X E (compareOp .Eq) xk:=by
 refine⟨_,JW b,λg M j env σ H Q c e x y a f i p=>?_⟩;unfold xk at p;by_cases h:c.d.dep<=50/\e.d.dep<=50
 .rw[Tt h]at p;exact⟨_,_,_,_,f,i,h,p _ M H (Ext.refl M H) a rfl⟩
 .rw[TC h]at p;exact p.elim
end
section
variable{X:Cx}
def F5(a:En->Res R):En->Res R:=λenv=>(a env).bind λc=>match c.d with
 |.bl b=>.ok (.val (.bl (!b)) true [])
 |_=>.stuck
def uZ(a b:En->Res R):En->Res R:=λenv=>(a env).bind λc=>match c.d with
 |.bl true=>b env
 |.bl false=>.ok (.val (.bl false) true [])
 |_=>.stuck
def PX(a b:En->Res R):En->Res R:=λenv=>(a env).bind λc=>match c.d with
 |.bl true=>.ok (.val (.bl true) true [])
 |.bl false=>b env
 |_=>.stuck
def Cu(ha:PD X E a fa):PD X E (.UnaryOp .Not a pos) (F5 fa):=by
 obtain⟨ta,j,sa⟩:=ha;refine⟨_,Jo j,λg M l env σ H Q h p=>sa.ml h p λr v k H' e c i f=>?_⟩;cases q:r.d with
 |bl b=>rw[q]at i;simp only[q]at f;cases i;exact⟨b,rfl,f _ k H' (Ext.refl _ _) c rfl⟩
 |_=>simp only[q]at f;exact f.elim
def sV(ha:PD X E a fa):PD X E (.BoolOp op [a] pos) fa:=let ⟨t,b,sa⟩:=ha;⟨t,Jm b,sa⟩
def oV{rest:List Expr}{j k:En->Res R}{pos:Pos}(ha:PD X E a j)(hb:PD X E (.BoolOp .And (b::rest) pos) k):PD X E (.BoolOp .And (a::b::rest) pos) (uZ j k):=by
 obtain⟨ta,m,sa⟩:=ha;obtain⟨tb,n,o⟩:=hb;refine⟨_,Jn m n,λg M s env σ H Q h p=>sa.ml h p λr v l H' e c i f=>?_⟩;cases q:r.d with
 |bl b=>
  rw[q]at i;simp only[q]at f;cases i;refine⟨b,rfl,?_⟩;cases b with
  |true=>exact mB (o g l s env σ H' Q c f)
  |false=>exact gk (f _ l H' (Ext.refl _ _) c rfl)
 |_=>simp only[q]at f;exact f.elim
def Nb{rest:List Expr}{j k:En->Res R}{pos:Pos}(ha:PD X E a j)(hb:PD X E (.BoolOp .Or (b::rest) pos) k):PD X E (.BoolOp .Or (a::b::rest) pos) (PX j k):=by
 obtain⟨ta,m,sa⟩:=ha;obtain⟨tb,n,o⟩:=hb;refine⟨_,MM m n,λg M s env σ H Q h p=>sa.ml h p λr v l H' e c i f=>?_⟩;cases q:r.d with
 |bl b=>
  rw[q]at i;simp only[q]at f;cases i;refine⟨b,rfl,?_⟩;cases b with
  |true=>exact mB (f _ l H' (Ext.refl _ _) c rfl)
  |false=>exact gk (o g l s env σ H' Q c f)
 |_=>simp only[q]at f;exact f.elim
def Ij:D->Res Bool
 |.bp=>.ok false
 |.bl b=>.ok b
 |.int i=>.ok (i != 0)
 |.str y=>if y.length<=lim then .ok ((y.length:Int) != 0)else .stuck
 |.tup ds=>.ok (!ds.isEmpty)
 |.lst ds=>.ok (!ds.isEmpty)
 |.i9 _ _=>.stuck
theorem Is.Ij(h:Is H m d v)(e:Ij d=.ok k):Jw X.K v H k:=by
 cases d with
 |bp=>cases h;cases e;rfl
 |bl b=>cases h;cases e;rfl
 |int b=>cases h;cases e;rfl
 |str b=>
  cases h;unfold L3.Ij at e;dsimp only at e;by_cases c:b.length<=lim
  .rw[Tt c]at e;cases e;exact⟨jB c,rfl⟩
  .rw[TC c]at e;cases e
 |tup ds=>obtain⟨a,vs,rfl,h1,h2⟩:=h;cases e;refine .inr (.inl ⟨vs,SqT.of h1,?_⟩);have:=h2.length;cases ds<;>cases vs<;>simp_all
 |lst ds=>obtain⟨a,vs,rfl,h1,h2⟩:=h.rd;cases e;refine .inl ⟨vs,.inl h1,?_⟩;have:=h2.length;cases ds<;>cases vs<;>simp_all
 |i9 ks ds=>cases e
def F6(a:En->Res R):En->Res Bool:=λenv=>(a env).bind λb=>Ij b.d
def Cv(ha:PD X E a fa)(l:autoParam (∀b,isTrue a X.env b=(do let v <- b;standAt a.pos;holding [v] (truthy v))) az):F3 X E a (F6 fa):=by
 obtain⟨ta,m,sa⟩:=ha;refine⟨_,Bw m l,λg M o env σ H Q j p=>sa.EE j p λr v n H' e f i h=>?_⟩;cases q:Ij r.d with
 |stuck=>rw[q]at h;exact h.elim
 |exc c=>
  exfalso;unfold Ij at q
  grind
 |ok k=>rw[q]at h;exact⟨k,i.Ij q,h n H' (Ext.refl _ _) f⟩
def vB(a:En->Res R):En->Res Bool:=λenv=>(a env).bind λc=>match c.d with
 |.bl b=>.ok b
 |_=>.stuck
def eh(m:Ac X E (compareOp op) k)(ha:PD X E a fa)(hb:PD X E b fb)(n:behindInMarks op b=false):F3 X E (.Compare a [op] [b] pos) (vB (v2 k fa fb)):=by
 obtain⟨r,h1,h2⟩:=m;obtain⟨ta,o,sa⟩:=ha;obtain⟨tb,s,t⟩:=hb;have S:Snd X.mg E (cY r ta tb) (v2 k fa fb):=λg M l env σ H Q f p=>sa.EK t f p λu w x y j H' c z A h=>h2 g j l env σ H' Q u w x y c z A h;refine⟨_,bw h1 o s n,λg M l env σ H Q f p=>S.EE f p λr v j H' e c i h=>?_⟩;cases q:r.d with
 |bl b=>rw[q]at i;simp only[q]at h;cases i;exact⟨b,rfl,h j H' (Ext.refl _ _) c⟩
 |_=>simp only[q]at h;exact h.elim
def Nc(a:En->Res Bool):En->Res Bool:=λenv=>(a env).bind λb=>.ok (!b)
def JX(a c:En->Res Bool):En->Res Bool:=λenv=>(a env).bind λb=>if b then c env else .ok false
section
def SndT.EE{f:En->Res Bool}(h:SndT mg E t f)(i:Rep g M ρ env σ H){K:Bool->Res Bool}{l:Bool->Hp->Prop}{Q:Bool->Hp->Prop}(a:PostT mg E g M ρ env σ H l ((f env).bind K))
 (k:∀b j H',Ext M H j H'->Rep g j ρ env σ H'->PostT mg E g j ρ env σ H' l (K b)->Q b H'):t σ H Q:=by
 refine h g M ρ env σ H Q i ?_;cases e:f env with
 |stuck=>rw[e]at a;exact a
 |exc c=>rw[e]at a;exact a
 |ok b=>rw[e]at a;exact λM1 m e1 d=>k b M1 m e1 d (PostT.ext e1 a)
end
def F7(ha:F3 X E a fa):F3 X E (.UnaryOp .Not a pos) (Nc fa):=by obtain⟨ta,f,sa⟩:=ha;exact⟨_,jm f,λg M j env σ H Q d p=>sa.EE d p λb h H' e c i=>i h H' (Ext.refl _ _) c⟩
def Cw(ha:F3 X E a fa):PWD X E (.BoolOp .And [a] pos) fa:=let ⟨t,b,sa⟩:=ha;⟨t,nR b,sa⟩
def F8{rest:List Expr}{f h:En->Res Bool}{pos:Pos}(ha:F3 X E a f)(hb:PWD X E (.BoolOp .And (b::rest) pos) h):PWD X E (.BoolOp .And (a::b::rest) pos) (JX f h):=by
 obtain⟨ta,k,sa⟩:=ha;obtain⟨tb,l,m⟩:=hb;refine⟨_,sq k l,λg M n env σ H Q d p=>sa.EE d p λb i H' e c j=>?_⟩;cases b with
 |true=>exact mB (m g i n env σ H' Q c j)
 |false=>exact gk (j i H' (Ext.refl _ _) c)
def Bi(a b:R):Res R:=match a.d,b.d with
 |.lst xs,.int i=>match eU xs i with
  |some d=>.ok (mF d a.fr a.al)
  |none=>.stuck
 |.tup xs,.int i=>match eU xs i with
  |some d=>.ok (mF d a.fr a.al)
  |none=>.stuck
 |.str z,.int i=>if z.length<=lim then(match eU z.cps.toList i with
  |some c=>.ok (.val (.str ⟨#[c]⟩) true [])
  |none=>.stuck)else .stuck
 |_,_=>.stuck
theorem IsAll.eU(h:IsAll H m ds vs)(e:L2.eU ds i=some d):∃v,L2.eU vs i=some v/\Is H m d v:=by
 unfold L2.eU at e ⊢;rw[h.length];cases q:zQ ds.length i with
 |none=>rw[q]at e;cases e
 |some j=>rw[q]at e;exact h.get e
def Ik:∃r:R2,IxR X r/\∀g M k env σ H Q f b x y,Rep g M k env σ H->Is H (vmsk g M f.fr k f.al) f.d x->Is H (vmsk g M b.fr k b.al) b.d y->PostE X.mg E g M k env σ H Q (Bi f b)->r x y H Q:=by
 refine⟨_,JA,λg M k env σ H Q f b x y e h j p=>?_⟩;unfold Bi at p;cases e1:f.d with
 |lst xs=>
  rw[e1]at p h;cases e2:b.d with
  |int i=>
   rw[e2]at p j;cases j;obtain⟨a,vs,rfl,h1,h2⟩:=h.rd;cases q:eU xs i with
   |none=>simp only[q]at p;exact p.elim
   |some d=>simp only[q]at p;obtain⟨v,l,m⟩:=h2.eU q;exact .inl ⟨a,vs,i,v,rfl,rfl,.inl h1,l,p.val e m⟩
  |_=>rw[e2]at p;exact p.elim
 |tup xs=>
  rw[e1]at p h;cases e2:b.d with
  |int i=>
   rw[e2]at p j;cases j;obtain⟨a,vs,rfl,h1,h2⟩:=h;cases q:eU xs i with
   |none=>simp only[q]at p;exact p.elim
   |some d=>simp only[q]at p;obtain⟨v,l,m⟩:=h2.eU q;exact .inr (.inl ⟨a,vs,i,v,rfl,rfl,SqT.of h1,l,p.val e m⟩)
  |_=>rw[e2]at p;exact p.elim
 |str z=>
  rw[e1]at p h;cases e2:b.d with
  |int i=>
   rw[e2]at p j;cases h;cases j;by_cases hz:z.length<=lim
   .simp only[hz,VW]at p;cases q:eU z.cps.toList i with
    |none=>simp only[q]at p;exact p.elim
    |some c=>simp only[q]at p;exact .inr (.inr ⟨z,i,c,rfl,rfl,jB hz,q,p _ M H (Ext.refl _ _) e rfl⟩)
   .simp only[hz,UM]at p;exact p.elim
  |_=>rw[e2]at p;exact p.elim
 |_=>rw[e1]at p;exact p.elim
def Cy(ha:PD X E a fa)(hb:PD X E b fb)(e:sA b):PD X E (.Subscript a b pos) (v2 Bi fa fb):=by obtain⟨r,h1,h2⟩:=Ik (X:=X) (E:=E);obtain⟨ta,f,sa⟩:=ha;obtain⟨tb,h,i⟩:=hb;exact⟨_,aY h1 f h e,λg M j env σ H Q d p=>sa.EK i d p λk l x y m H' c n o q=>h2 g m j env σ H' Q k l x y c n o q⟩
def fV(i:Nat)(a:En->Res R):En->Res R:=λenv=>match env[i]? with
 |some (some (.own ds fr))=>(a env).bind λb=>match b.d with
  |.int k=>match eU ds k with
   |some d=>.ok (mF d fr [])
   |none=>.stuck
  |_=>.stuck
 |_=>v2 Bi (aF i) a env
def oW(ha:PE X a (am i))(hb:PD X E b fb)(u:sA b):PD X E (.Subscript a b pos) (fV i fb):=by
 obtain⟨r,h1,h2⟩:=Ik (X:=X) (E:=E);obtain⟨tb,A,t⟩:=hb;refine⟨_,aY (ix_list.or h1) ha A u,λg M l env σ H Q j p=>?_⟩;have gen:PostE X.mg E g M l env σ H Q (v2 Bi (aF i) fb env)->cY (λx y H Q=>BD X.K x y H Q\/r x y H Q) (am i) tb σ H Q:=λp=>Snd.EK yU t j p λB n x y s H' c C m f=>.inr (h2 g s l env σ H' Q B n x y c C m f);unfold fV at p;cases e1:env[i]? with
 |none=>rw[e1]at p;exact gen p
 |some o=>
  cases o with
  |none=>rw[e1]at p;exact gen p
  |some sl=>
   cases sl with
   |val d fr=>rw[e1]at p;exact gen p
   |sj d=>rw[e1]at p;exact gen p
   |Bl d=>rw[e1]at p;exact gen p
   |own ds fr=>
    rw[e1]at p;obtain⟨v,D,a,vs,rfl,k1,k2,F⟩:=j.slot i _ e1;refine⟨_,D,t.ml j p λn y s H' e c m f=>?_⟩;cases q:n.d with
    |int k=>
     rw[q]at m;simp only[q]at f;cases m;cases q2:eU ds k with
     |none=>simp only[q2]at f;exact f.elim
     |some d=>simp only[q2]at f;have G:IsAll H' (vmsk g s fr l []) ds vs:=(IsAll.weak (λ_ z=>.inl z) F:IsAll H (vmsk g M fr l []) ds vs).ext e;obtain⟨w,I,J⟩:=G.eU q2;exact .inl ⟨a,vs,k,w,rfl,rfl,.inl (.inl (e.h _ _ k1)),I,f.val c J⟩
    |_=>simp only[q]at f;exact f.elim
end
section
def SndA.one{t:TA}{f:En->Res (List R)}(h:SndA mg E t f)(j:Rep g M ρ env σ H){α:Type}{K:List R->Res α}{P:(M:Addr->Prop)->(H:Hp)->Res α->Prop}{Q:List V->Hp->Prop}
 (b:P M H ((f env).bind K)) (l:∀M H,P M H .stuck->False) (m:∀M H c,P M H (.exc c)->F2 mg E g c) (n:∀M H a H' r,Ext M H a H'->P M H r->P a H' r)
 (k:∀rs vs a H',Ext M H a H'->Rep g a ρ env σ H'->IsAll H' (vmsk g a (bS rs) ρ (cU rs)) (rs.map R.d) vs->P a H' (K rs)->Q vs H'):t σ H Q:=by
 refine h g M ρ env σ H Q j ?_;cases e:f env with
 |stuck=>rw[e]at b;exact l _ _ b
 |exc c=>rw[e]at b;exact m _ _ c b
 |ok r=>rw[e]at b;exact λvs M1 o e1 i is=>k r vs M1 o e1 i is (n _ _ _ _ _ e1 b)
def SndA.ml{f:En->Res (List R)}(h:SndA mg E t f)(b:Rep g M ρ env σ H){K:List R->Res R}{Q:List V->Hp->Prop}(c:PostE mg E g M ρ env σ H Q' ((f env).bind K))
 (k:∀rs vs a H',Ext M H a H'->Rep g a ρ env σ H'->IsAll H' (vmsk g a (bS rs) ρ (cU rs)) (rs.map R.d) vs->PostE mg E g a ρ env σ H' Q' (K rs)->Q vs H'):t σ H Q:=
 h.one b (P:=λM H r=>PostE mg E g M ρ env σ H Q' r) c (λ_ _ z=>z) (λ_ _ _ z=>z) (λ_ _ _ _ _ e p=>p.ext e) k
def SndA.Ml{f:En->Res (List R)}(h:SndA mg E t f)(b:Rep g M ρ env σ H){K:List R->Res (List R)}{c:List V->Hp->Prop}{Q:List V->Hp->Prop}(i:PostA mg E g M ρ env σ H c ((f env).bind K))
 (k:∀rs vs a H',Ext M H a H'->Rep g a ρ env σ H'->IsAll H' (vmsk g a (bS rs) ρ (cU rs)) (rs.map R.d) vs->PostA mg E g a ρ env σ H' c (K rs)->Q vs H'):t σ H Q:=
 h.one b (P:=λM H r=>PostA mg E g M ρ env σ H c r) i (λ_ _ z=>z) (λ_ _ _ z=>z) (λ_ _ _ _ _ e p=>p.ext e) k
def IsAll.args(h1:Is H (vmsk g M r.fr ρ r.al) r.d v)(h2:IsAll H (vmsk g M (bS rs) ρ (cU rs)) (rs.map R.d) vs) :
 IsAll H (vmsk g M (bS (r::rs)) ρ (cU (r::rs))) ((r::rs).map R.d) (v::vs):=by
 refine⟨v,vs,rfl,h1.weak λa z=>?_,h2.weak λa z=>?_⟩
 .exact(z.l:vmsk g M (r.fr&&bS rs) ρ (r.al++cU rs) a)
 .exact(z.r:vmsk g M (r.fr&&bS rs) ρ (r.al++cU rs) a)
end
section
def bU:En->Res (List R):=λ_=>.ok []
def aP(f:En->Res R)(fs:En->Res (List R)):En->Res (List R):=λenv=>(f env).bind λr=>(fs env).bind λrs=>.ok (r::rs)
def aO:Co X E [] bU:=⟨_,ah,λg M b env σ H Q a p=>p [] M H (Ext.refl _ _) a rfl⟩
def av(d:PD X E e f)(h:Co X E es fs)(i:autoParam (starEach (e::es) X.env=(false,eval e X.env)::starEach es X.env) aM):Co X E (e::es) (aP f fs):=by obtain⟨t,p1,s1⟩:=d;obtain⟨u,p2,s2⟩:=h;refine⟨_,aa p1 p2 i,λg M m env σ H Q c p=>s1.Ml c p λr v M1 n e1 a j q1=>s2.Ml a q1 λrs vs M2 k e2 b l q2=>?_⟩;exact q2 (v::vs) M2 k (Ext.refl _ _) b (IsAll.args (j.ext e2) l)
def oX(fs:En->Res (List R)):En->Res R:=λenv=>(fs env).bind λrs=>if rs.length<=lim then .ok (mF (.tup (rs.map R.d)) (bS rs) (cU rs))else .stuck
def io(h:Co X E es fs):PD X E (.Tuple es k pos) (oX fs):=by
 obtain⟨t,p1,s1⟩:=h;refine⟨_,bB p1,λg M f env σ H Q c p=>s1.ml c p λrs vs M1 i e1 b e q1=>?_⟩;by_cases d:rs.length<=lim
 .rw[Tt d]at q1;exact⟨by rw[e.length,Tp];exact jB d,λa ha=>q1.tup b ha e⟩
 .rw[TC d]at q1;exact q1.elim
def u4(fs:En->Res (List R)):En->Res R:=λenv=>(fs env).bind λrs=>if rs.length<=lim then .ok (mG (rs.map R.d) (bS rs) (cU rs))else .stuck
def mI(h:Co X E es fs):PD X E (.List es pos) (u4 fs):=by
 obtain⟨t,p1,s1⟩:=h;refine⟨_,ce p1,λg M f env σ H Q c p=>s1.ml c p λrs vs M1 i e1 b e q1=>?_⟩;by_cases d:rs.length<=lim
 .rw[Tt d]at q1;exact⟨by rw[e.length,Tp];exact jB d,λa ha=>q1.lst b ha e⟩
 .rw[TC d]at q1;exact q1.elim
end
def nl(b H':Hp)(a:Addr):Prop:=b a=none/\Mu H' a
def RetOk(g:Gd)(H':Hp)(v:V):R->Prop
 |.val d fr _=>Is H' (λa=>nl g.H₀ H' a\/(fr=false/\g.Ma a)) d v
 |.new ds fr=>∃a vs,v=.ref a/\H' a=some (.lst vs)/\g.H₀ a=none/\IsAll H' (λb=>b≠a/\(nl g.H₀ H' b\/(fr=false/\g.Ma b))) ds vs
 |.jj d=>Is H' (nl g.H₀ H') d v
def Nd(mg:Str->Option Xr)(E:XK)(g:Gd)(Q:VK):Res R->Prop
 |.stuck=>False
 |.exc c=>F2 mg E g c
 |.ok r=>∀v H',Same g.H₀ H'->RetOk g H' v r->Q v H'
def jC(mg:Str->Option Xr)(n:Nat)(F:List D->Res R):Sp:=λvs H Q E=>vs.length=n/\∃ds Ma,IsAll H Ma ds vs/\Nd mg E (M9 H Ma) Q (F ds)
def Il(d:D)(fr:Bool)(rs:List R):R:=if d.flat then .val d true []else if fr then .jj d else .val d (bS rs) (cU rs)
def kC(rs:List R):R->R
 |.val d fr _=>Il d fr rs
 |.new ds fr=>if D.bP ds then .new ds true else if fr then .jj (.lst ds)else if(cU rs).isEmpty then .new ds (bS rs)else .val (.lst ds) (bS rs) (cU rs)
 |.jj d=>Il d true rs
section
def Rep.came(b:Rep g M ρ env σ H)(s:Same H H')(p:Addr->Prop):Rep g (λa=>M a\/(nl H H' a/\p a)) ρ env σ H':=(b.grow s).EO λa z=>⟨z.1.2,b.same.free z.1.1,(b.free z.1.1).2.2⟩
def Cz(rs:List R)(b:Rep g M ρ env σ H)(s:Same H H')(h:Is H' (λa=>nl H H' a\/(fr=false/\vmsk g M (bS rs) ρ (cU rs) a)) d v) :
 ∃c,Ext M H c H'/\Rep g c ρ env σ H'/\ROk g c ρ H H' v (Il d fr rs):=by
 unfold Il;by_cases e:d.flat=true
 .rw[Tt e];exact⟨M,⟨λ_ z=>z,s,λ_ z=>.inl z⟩,b.grow s,Is.flat e h⟩
 .rw[TC e];cases fr with
  |true=>
   refine⟨M,⟨λ_ z=>z,s,λ_ z=>.inl z⟩,b.grow s,nl H H',λa z=>?_,?_⟩
   .exact⟨λw=>b.jk a w z.1,z.1,z.2,(b.free z.1).2.2⟩
   .exact Is.weak (λa z=>z.elim id λw=>by cases w.1) h
  |false=>
   refine⟨_,⟨λ_=>.inl,s,λ_ z=>z.imp id (·.1.1)⟩,b.came s λ_=>True,?_⟩;refine Is.weak (λa z=>?_) h;rcases z with z|⟨_,z⟩
   .exact .inl ⟨.inr ⟨z,True.intro⟩,λ_=>b.same.free z.1⟩
   .exact z.mono λ_=>.inl
def RetOk.caller(rs:List R)(c:Rep g M ρ env σ H)(s:Same H H')(h:RetOk (M9 H (vmsk g M (bS rs) ρ (cU rs))) H' v r) :
 ∃j,Ext M H j H'/\Rep g j ρ env σ H'/\ROk g j ρ H H' v (kC rs r):=by
 cases r with
 |val d fr al=>exact Cz rs c s h
 |jj d=>exact Cz rs c s (Is.weak (λa z=>.inl z) h)
 |new ds fr=>
  obtain⟨a,vs,rfl,h1,h2,i⟩:=h;have h2:H a=none:=h2;obtain⟨p,t,k⟩:=c.free h2;have l:Rep g (λb=>M b\/(nl H H' b/\b≠a)) ρ env σ H':=c.came s λb=>b≠a;have q:¬(M a\/(nl H H' a/\a≠a)):=λz=>z.elim t λz=>z.2 rfl;have m:Ext M H (λb=>M b\/(nl H H' b/\b≠a)) H':=⟨λ_=>.inl,s,λ_ z=>z.imp id (·.1.1)⟩;unfold kC;dsimp only;by_cases f:D.bP ds=true
  .rw[Tt f];exact⟨_,m,l,a,vs,rfl,h1,q,h2,k,IsAll.flat f i⟩
  .rw[TC f];cases fr with
   |true=>
    refine⟨M,⟨λ_ z=>z,s,λ_ z=>.inl z⟩,c.grow s,nl H H',λa z=>?_,?_⟩
    .exact⟨λw=>c.jk a w z.1,z.1,z.2,(c.free z.1).2.2⟩
    .exact⟨a,vs,rfl,.inl ⟨h1,h2,Mu.lst h1⟩,IsAll.weak (λb z=>z.2.elim id λw=>by cases w.1) i⟩
   |false=>
    simp only[TY,UM];by_cases hc:(cU rs).isEmpty=true
    .rw[Tt hc];refine⟨_,m,l,a,vs,rfl,h1,q,h2,k,?_⟩;refine IsAll.weak (λb z=>?_) i;rcases z with⟨o,z|⟨u,z⟩⟩
     .exact⟨.inr ⟨z,o⟩,λ_=>c.same.free z.1⟩
     .have x:cU rs=[]:=by simpa using hc
      have z:vmsk g M (bS rs) ρ (cU rs) b:=z;rw[x]at z;exact⟨.inl z.nil.1,z.nil.2⟩
    .rw[TC hc];refine⟨λb=>(M b\/(nl H H' b/\b≠a))\/b=a,⟨λ_ z=>.inl (.inl z),s,λb z=>z.elim (m.n b) λe=>.inr (e▸h2)⟩,l.more h1 p k,a,vs,rfl,.inl ⟨h1,.inl ⟨.inr rfl,λ_=>p⟩⟩,?_⟩;refine IsAll.weak (λb z=>?_) i;rcases z with⟨o,z|⟨u,z⟩⟩
     .exact .inl ⟨.inl (.inr ⟨z,o⟩),λ_=>c.same.free z.1⟩
     .exact vmsk.mono (λ_ w=>.inl (.inl w)) z
end
section
variable{X:Cx}{ps:List Str}
def eQ(F:List D->Res R)(fs:En->Res (List R)):En->Res R:=λenv=>(fs env).bind λrs=>(F (rs.map R.d)).bind λr=>.ok (kC rs r)
def CA(j:∀env rs,fs env=.ok rs->rs.length=ps.length)(s:SndA X.mg E t fs):Snd X.mg E (ck (jC X.mg ps.length F) [] E t) (eQ F fs):=by
 intro g M i env σ H Q f p;refine s g M i env σ H _ f ?_;unfold eQ at p;cases e:fs env with
 |stuck=>rw[e]at p;exact p
 |exc c=>rw[e]at p;exact p
 |ok rs=>
  rw[e]at p;intro vs M1 k e1 a is;have p1:PostE X.mg E g M1 i env σ k Q ((F (rs.map R.d)).bind λr=>.ok (kC rs r)):=PostE.ext e1 p;rw[UE];refine⟨by rw[is.length,Tp];exact j env rs e,rs.map R.d,_,is,?_⟩;cases q:F (rs.map R.d)with
  |stuck=>rw[q]at p1;exact p1
  |exc c=>rw[q]at p1;exact λcls dx H' h1 h2=>p1 cls dx H' h1 (a.same.trans h2)
  |ok r=>rw[q]at p1;intro v l s2 ro;obtain⟨m,e3,b,h⟩:=RetOk.caller rs a s2 ro;exact p1 v m l e3 b h
def F9(G:bD X.prog X.w X.K X.mg X.base CX k f fd ps (jC X.mg ps.length F))(c:dj k X.A)(d:Gl X x)(g:X.mg x=some (.ref f))(h:keepIn X.K (.ref f)=true)(hb:Binds X.K fd ps [])(i:fL CX X E)
 (ha:Co X E (e::es) fs) (j:∀env rs,fs env=.ok rs->rs.length=ps.length) (a:autoParam (dB x) ab) (l:autoParam (sE X e es) aM) (b:autoParam (bT X pos es) aM) :
 PD X E (.Call (.Name x p) (e::es) [] pos) (eQ F fs):=by
 obtain⟨t,p1,s1⟩:=ha;exact⟨_,aZ G c d g h hb .nil i p1 a l b,CA j s1⟩
def cm:∀env rs,bU env=.ok rs->rs.length=0:=λ_ _ e=>by cases e;rfl
def aT{f:En->Res R}{fs:En->Res (List R)}(h:∀env rs,fs env=.ok rs->rs.length=n):∀env rs,aP f fs env=.ok rs->rs.length=n+1:=λenv rs e=>by
 unfold aP at e;cases q:f env with
 |stuck=>rw[q]at e;cases e
 |exc c=>rw[q]at e;cases e
 |ok r=>
  rw[q]at e;cases q2:fs env with
  |stuck=>simp only[Res.kf,q2]at e;cases e
  |exc c=>simp only[Res.kf,q2]at e;cases e
  |ok a=>simp only[Res.kf,q2]at e;cases e;simp[h env a q2]
def rp(X:Cx)(E:XK)(f:Xr)(k:List R->Res R):Prop:=∃r,CallR X f r/\
 ∀g M a env σ H Q rs vs,Rep g M a env σ H->IsAll H (vmsk g M (bS rs) a (cU rs)) (rs.map R.d) vs->PostE X.mg E g M a env σ H Q (k rs)->r vs H Q
def yW(k:List R->Res R)(fs:En->Res (List R)):En->Res R:=λenv=>(fs env).bind k
def dD{id:String}{k:List R->Res R}(hc:rp X E (.builtin id) k) (f:Gl X x) (h:X.mg x=none) (i:bootBuiltins x=some (.builtin id)) (ha:Co X E (e::es) fs) (j:autoParam (x≠"__name__") ab) (b:autoParam (dB x) ab)
 (l:autoParam (starEach (e::es) X.env=(false,eval e X.env)::starEach es X.env) aM) (c:autoParam (bT X pos es) aM):PD X E (.Call (.Name x p) (e::es) [] pos) (yW k fs):=by
 obtain⟨r,h1,h2⟩:=hc;obtain⟨t,p1,s1⟩:=ha;exact⟨_,bc h1 f h i p1 j b l c,λg M m env σ H Q d p=>s1.ml d p λrs vs M1 n e1 a o q1=>h2 g M1 m env σ n Q rs vs a o q1⟩
def rq{k:List R->Res R}(hc:rp X E (.type T) k) (f:Gl X x) (h:X.mg x=none) (i:bootBuiltins x=some (.type T)) (ha:Co X E (e::es) fs) (j:autoParam (x≠"__name__") ab) (b:autoParam (dB x) ab)
 (l:autoParam (starEach (e::es) X.env=(false,eval e X.env)::starEach es X.env) aM) (c:autoParam (bT X pos es) aM):PD X E (.Call (.Name x p) (e::es) [] pos) (yW k fs):=by
 obtain⟨r,h1,h2⟩:=hc;obtain⟨t,p1,s1⟩:=ha;exact⟨_,cK h1 f h i p1 j b l c,λg M m env σ H Q d p=>s1.ml d p λrs vs M1 n e1 a o q1=>h2 g M1 m env σ n Q rs vs a o q1⟩
def nJ:List R->Res R
 |[r]=>match r.d with
  |.lst ds=>.ok (.val (.int ds.length) true [])
  |.tup ds=>.ok (.val (.int ds.length) true [])
  |.str z=>if z.length<=lim then .ok (.val (.int z.length) true [])else .stuck
  |_=>.stuck
 |_=>.stuck
def jD:rp X E (.builtin "len") nJ:=by
 refine⟨_,call_len_seq.or sD,λg M e env σ H Q rs vs c i p=>?_⟩;rcases rs with _|⟨r,_|_⟩
 .exact p.elim
 rotate_left
 .exact p.elim
 obtain⟨v,w,rfl,b,f⟩:=i;cases f;have b:Is H (vmsk g M (bS [r]) e (cU [r])) r.d v:=b;unfold nJ at p;dsimp only at p;cases q:r.d with
 |lst ds=>rw[q]at p b;obtain⟨a,ws,rfl,h1,h2⟩:=b.rd;exact .inl ⟨a,ws,rfl,.inl (.inl h1),by rw[h2.length];exact p _ M H (Ext.refl _ _) c rfl⟩
 |tup ds=>rw[q]at p b;obtain⟨a,ws,rfl,h1,h2⟩:=b;exact .inl ⟨a,ws,rfl,.inr (SqT.of h1),by rw[h2.length];exact p _ M H (Ext.refl _ _) c rfl⟩
 |str z=>
  rw[q]at p b;cases b;by_cases hz:z.length<=lim
  .simp only[hz,VW]at p;exact .inr ⟨z,rfl,jB hz,p _ M H (Ext.refl _ _) c rfl⟩
  .simp only[hz,UM]at p;exact p.elim
 |_=>rw[q]at p;exact p.elim
def u5:List R->Res R
 |[r]=>match r.d with
  |.lst ds=>.ok (mG ds r.fr r.al)
  |.tup ds=>.ok (mG ds r.fr r.al)
  |_=>.stuck
 |_=>.stuck
def yX(h:vmsk g M (bS [r]) ρ (cU [r]) a):vmsk g M r.fr ρ r.al a:=by
 have e1:bS [r]=r.fr:=by simp[bS]
 have e2:cU [r]=r.al:=by simp[cU]
 rw[e1,e2]at h;exact h
def F_:rp X E (.type "list") u5:=by
 refine⟨_,lh,λg M f env σ H Q rs vs c i p=>?_⟩;rcases rs with _|⟨r,_|_⟩
 .exact p.elim
 rotate_left
 .exact p.elim
 obtain⟨v,w,rfl,b,h⟩:=i;cases h;have b:Is H (vmsk g M (bS [r]) f (cU [r])) r.d v:=b;replace b:=b.weak λ_ z=>yX z;unfold u5 at p;dsimp only at p;cases q:r.d with
 |lst ds=>rw[q]at p b;obtain⟨a,ws,rfl,h1,h2⟩:=b.rd;exact⟨a,ws,rfl,.inl (.inl h1),λl e=>p.lst c e h2⟩
 |tup ds=>rw[q]at p b;obtain⟨a,ws,rfl,h1,h2⟩:=b;exact⟨a,ws,rfl,.inr (SqT.of h1),λl e=>p.lst c e h2⟩
 |_=>rw[q]at p;exact p.elim
end
inductive Fl where
 |nx (env:En)|rt (r:R)|bk (env:En)|ct (env:En)|rm (r:R) (env:En)
structure mY(M:Addr->Prop) (H:Hp) (M':Addr->Prop) (H':Hp):Prop where
 m:∀a,M a->M' a
 h:∀a o,H a=some o->(M a\/jA o)->H' a=some o
def mY.refl(M:Addr->Prop)(H:Hp):mY M H M H:=⟨λ_ z=>z,λ_ _ e _=>e⟩
def mY.trans{M M1 M2:Addr->Prop}(a:mY M H M1 H1)(b:mY M1 H1 M2 H2):mY M H M2 H2:=⟨λx z=>b.m x (a.m x z),λx o e z=>b.h x o (a.h x o e z) (z.imp (a.m x) id)⟩
def Ext.bj(e:Ext M H M' H'):mY M H M' H':=⟨e.m,λa o q _=>e.h a o q⟩
section
variable(mg:Str->Option Xr)(E:XK)(g:Gd)(M:Addr->Prop)(H:Hp)(D:Ends)
def PostS:Res Fl->Prop
 |.stuck=>False
 |.exc c=>F2 mg E g c
 |.ok (.nx env)=>∀σ b e H',mY M H b H'->Rep g b e env σ H'->D.nx σ H'
 |.ok (.bk env)=>∀σ b e H',mY M H b H'->Rep g b e env σ H'->D.bk σ H'
 |.ok (.ct env)=>∀σ b e H',mY M H b H'->Rep g b e env σ H'->D.ct σ H'
 |.ok (.rt r)=>∀v b H',mY M H b H'->Same g.H₀ H'->((∀a,¬g.Z a)->RetOk g H' v r)->(r.d.flat=true->Is H' (λ_=>False) r.d v)->D.rt v H'
 |.ok (.rm r env)=>∀v σ b e f H',mY M H b H'->Rep g b e env σ H'->Same g.H₀ f->ROk g b e f H' v r->D.rt v H'
end
def Ga(mg:Str->Option Xr)(E:XK)(t:TS)(f:En->Res Fl):Prop:=∀g M a env σ H D,Rep g M a env σ H->PostS mg E g M H D (f env)->t D σ H
def EV(X:Cx)(E:XK)(st:Stmt)(f:En->Res Fl):Prop:=∃t,PS X st t/\Ga X.mg E t f
def sW(X:Cx)(E:XK)(st:List Stmt)(f:En->Res Fl):Prop:=∃t,PSs X st t/\Ga X.mg E t f
section
variable{D:Ends}
def PostS.bj(e:mY M H M' H')(p:PostS mg E g M H D r):PostS mg E g M' H' D r:=by
 cases r with
 |stuck=>exact p
 |exc c=>exact p
 |ok r=>cases r with
  |nx env=>exact λσ M2 a b e2=>p σ M2 a b (e.trans e2)
  |bk env=>exact λσ M2 a b e2=>p σ M2 a b (e.trans e2)
  |ct env=>exact λσ M2 a b e2=>p σ M2 a b (e.trans e2)
  |rt r=>exact λv M2 b e2=>p v M2 b (e.trans e2)
  |rm r env=>exact λv σ M2 a d b e2=>p v σ M2 a d b (e.trans e2)
def Snd.Be{f:En->Res R}(h:Snd mg E t f)(i:Rep g M ρ env σ H){K:R->Res Fl}(a:PostS mg E g M H D ((f env).bind K))
 (k:∀r v d H',Ext M H d H'->Rep g d ρ env σ H'->ROk g d ρ H H' v r->PostS mg E g d H' D (K r)->Q v H'):t σ H Q:=by
 refine h g M ρ env σ H Q i ?_;cases e:f env with
 |stuck=>rw[e]at a;exact a
 |exc c=>rw[e]at a;exact a
 |ok r=>rw[e]at a;exact λv M1 j e1 b ro=>k r v M1 j e1 b ro (PostS.bj e1.bj a)
def SndT.Be{f:En->Res Bool}(h:SndT mg E t f)(i:Rep g M ρ env σ H){K:Bool->Res Fl}{Q:Bool->Hp->Prop}(a:PostS mg E g M H D ((f env).bind K))
 (k:∀b j H',mY M H j H'->Rep g j ρ env σ H'->PostS mg E g j H' D (K b)->Q b H'):t σ H Q:=by
 refine h g M ρ env σ H Q i ?_;cases e:f env with
 |stuck=>rw[e]at a;exact a
 |exc c=>rw[e]at a;exact a
 |ok r=>rw[e]at a;exact λM1 l e1 d=>k r M1 l e1.bj d (PostS.bj e1.bj a)
def Nf(b:Pr)(i:Nat):Pr:=λj a=>if j=i then False else b j a
def xn(h:j≠i):Nf ρ i j=ρ j:=by funext a;unfold Nf;rw[TC h]
def oY(h:Nf ρ i j a):j≠i/\ρ j a:=by grind [Nf]
def sX(b:Pr)(i:Nat)(T:Addr->Prop):Pr:=λj a=>if j=i then T a else b j a
def eB(h:j≠i):sX ρ i T j=ρ j:=by funext a;unfold sX;rw[TC h]
def gv:sX ρ i T i=T:=by funext a;unfold sX;rw[Tt rfl]
def gm(env:En)(i:Nat):En:=match env[i]? with
 |some (some (.own ds fr))=>env.set i (some (.val (.lst ds) fr))
 |some (some (.sj d))=>env.set i (some (.val d true))
 |some (some (.Bl _))=>env.set i none
 |_=>env
def bj(env:En)(al:List Nat):En:=al.foldl gm env
def sY(h:j≠i):(gm env i)[j]?=env[j]?:=by unfold gm;split<;>first|rfl|exact Uy (UD h)
def u6(i:Nat):(gm env i).length=env.length:=by unfold gm;split<;>simp
theorem CB:∀(al:List Nat){env:En}{j:Nat},¬j∈al->(bj env al)[j]?=env[j]?
 |[],_,_,_=>rfl
 |i::al,env,j,h=>by show(bj (gm env i) al)[j]?=_;rw[CB al λz=>h (by simp[z]),sY λz=>h (by simp[z])]
theorem sZ:∀(al:List Nat)(env:En),(bj env al).length=env.length
 |[],_=>rfl
 |i::al,env=>by show(bj (gm env i) al).length=_;rw[sZ al,u6]
theorem Rep.gm(rep:Rep g M ρ env σ H)(i:Nat):Rep g (λa=>M a\/ρ i a) (Nf ρ i) (gm env i) σ H where
 same:=rep.same
 jk:=λb hb=>hb.elim (rep.jk b) λz=>(rep.cb i b z).2.2.some
 uv:=λb hb=>hb.elim (rep.uv b) λz=>.inl (rep.cb i b z).2.1
 fl:=λb hb h0=>hb.elim (λz=>rep.fl b z h0) λz=>.inl (rep.cb i b z).2.2
 slot:=λj sl ej=>by
  by_cases hj:j=i
  .subst hj;cases e:env[j]? with
   |none=>
    have:L3.gm env j=env:=by unfold L3.gm;rw[e]
    rw[this,e]at ej;cases ej
   |some o=>
    have hi:j<env.length:=(Tq.mp e).1;cases o with
    |none=>
     have:L3.gm env j=env:=by unfold L3.gm;rw[e]
     rw[this,e]at ej;cases ej
    |some s0=>
     obtain⟨v,ev,k⟩:=rep.slot j s0 e;cases s0 with
     |val d fr=>
      have:L3.gm env j=env:=by unfold L3.gm;rw[e]
      rw[this,e]at ej;cases ej;exact⟨v,ev,Is.weak (λb z=>fj.mono (λ_=>.inl) z) k⟩
     |own ds fr=>
      have:L3.gm env j=env.set j (some (.val (.lst ds) fr)):=by unfold L3.gm;rw[e]
      rw[this,Up hi]at ej;cases ej;obtain⟨a,vs,rfl,h1,h2,h4⟩:=k;have ha:=(h2 a).mpr rfl;exact⟨_,ev,a,vs,rfl,.inl ⟨h1,.inr ha,λ_=>(rep.cb j a ha).2.1⟩,IsAll.weak (λb z=>fj.mono (λ_=>.inl) z) h4⟩
     |sj d=>
      have:L3.gm env j=env.set j (some (.val d true)):=by unfold L3.gm;rw[e]
      rw[this,Up hi]at ej;cases ej;exact⟨v,ev,Is.weak (λb z=>⟨.inr z,λ_=>(rep.cb j b z).2.1⟩) k⟩
     |Bl d=>
      have:L3.gm env j=env.set j none:=by unfold L3.gm;rw[e]
      rw[this,Up hi]at ej;cases ej
  .rw[sY hj]at ej;obtain⟨v,ev,k⟩:=rep.slot j sl ej;exact⟨v,ev,by rw[xn hj];exact SlOk.weak (λ_=>.inl) k⟩
 cb:=λj a h=>by obtain⟨hj,h⟩:=oY h;exact⟨λz=>z.elim (rep.cb j a h).1 λz=>hj (rep.apart j i a h z),(rep.cb j a h).2⟩
 apart:=λj k a h1 h2=>rep.apart j k a (oY h1).2 (oY h2).2
 ow:=λj a h=>by obtain⟨hj,h⟩:=oY h;have:=rep.ow j a h;unfold fU at this ⊢;rw[sY hj];exact this
 len:=by rw[u6];exact rep.len
 zz:=rep.zz
theorem Rep.bj:∀(al:List Nat){env:En}{M:Addr->Prop}{b:Pr},Rep g M b env σ H->∃(k:Addr->Prop)(c:Pr),(∀a,M a->k a)/\Rep g k c (L3.bj env al) σ H/\(∀i,i∈al->∀a,b i a->k a)/\(∀j a,c j a->b j a)/\(∀j,¬j∈al->c j=b j)
 |[],env,M,b,d=>⟨M,b,λ_ z=>z,d,λ_ z=>absurd z (by simp),λ_ _ o=>o,λ_ _=>rfl⟩
 |i::al,env,M,b,d=>by
  obtain⟨M2,l,e2,f,m,k2,n⟩:=Rep.bj al (d.gm i);refine⟨M2,l,λa z=>e2 a (.inl z),f,λj h a o=>?_,λj a o=>(oY (k2 j a o)).2,λj h=>?_⟩
  .by_cases e:j=i
   .exact e2 a (.inr (e▸o))
   .exact m j ((Tz.mp h).resolve_left e) a (by rw[xn e];exact o)
  .rw[n j λz=>h (by simp[z]),xn λz=>h (by simp[z])]
def Is.frozen(b:Rep g M ρ env σ H)(e:∀a,M a->M' a)(c:∀i,i∈al->∀a,ρ i a->M' a)(h:Is H (vmsk g M fr ρ al) d v):Is H (fj g M' fr) d v:=h.weak λa z=>z.elim (fj.mono e) λ⟨i,f,o⟩=>⟨c i f a o,λ_=>(b.cb i a o).2.1⟩
def Rep.put(b:Rep g M ρ env σ H)(l:i<env.length)(ok:SlOk g M T H v sl)(e:∀a,T a->¬M a/\g.H₀ a=none/\Mu H a/\∀j,j≠i->¬ρ j a)(n:autoParam (∀a,T a->sl.Qk=true) Xx._auto_1) :
 Rep g M (sX ρ i T) (env.set i (some sl)) (σ.set i (some v)) H:=by
 have m:i<σ.length:=by rw[<- b.len];exact l
 refine⟨b.same,b.jk,b.uv,b.fl,λj s f=>?_,λj a h=>?_,λj k a h1 h2=>?_,λj a h=>?_,by rw[Wy,Wy];exact b.len,b.zz⟩
 .by_cases c:j=i
  .subst c;rw[Up l]at f;cases f;exact⟨v,Up m,by rw[gv];exact ok⟩
  .rw[Uy (UD c)]at f;obtain⟨w,o,k⟩:=b.slot j s f;exact⟨w,by rw[Uy (UD c)];exact o,by rw[eB c];exact k⟩
 .by_cases c:j=i
  .subst c;rw[gv]at h;exact⟨(e a h).1,(e a h).2.1,(e a h).2.2.1⟩
  .rw[eB c]at h;exact b.cb j a h
 .by_cases c:j=i
  .by_cases d:k=i
   .rw[c,d]
   .subst c;rw[gv]at h1;rw[eB d]at h2;exact absurd h2 ((e a h1).2.2.2 k d)
  .by_cases d:k=i
   .subst d;rw[gv]at h2;rw[eB c]at h1;exact absurd h1 ((e a h2).2.2.2 j c)
   .rw[eB c]at h1;rw[eB d]at h2;exact b.apart j k a h1 h2
 .unfold fU;by_cases c:j=i
  .subst c;rw[gv]at h;rw[Up l];exact n a h
  .rw[eB c]at h;rw[Uy (UD c)];exact b.ow j a h
def put(env:En)(i:Nat):R->En
 |.new ds fr=>env.set i (some (.own ds fr))
 |.val d fr al=>(bj env al).set i (some (.val d fr))
 |.jj d=>env.set i (some (.sj d))
def Rep.store(c:Rep g M ρ env σ H)(h0:Same g.H₀ H0)(k:i<env.length)(h:ROk g M ρ H0 H v r):∃m l,mY M H m H/\Rep g m l (L3.put env i r) (σ.set i (some v)) H:=by
 cases r with
 |new ds fr=>obtain⟨a,vs,rfl,h1,h2,n,o,p⟩:=h;exact⟨M,_,mY.refl _ _,c.put (sl:=.own ds fr) (T:=λb=>b=a) k ⟨a,vs,rfl,h1,λ_=>Iff.rfl,p⟩ λb e=>by subst e;exact⟨h2,h0.free n,Mu.lst h1,λj _=>o j⟩⟩
 |val d fr al=>obtain⟨M1,q,e1,f,o1,k1,_⟩:=Rep.bj al c;exact⟨M1,_,⟨e1,λ_ _ e _=>e⟩,f.put (sl:=.val d fr) (T:=λ_=>False) (by rw[sZ];exact k) (Is.frozen c e1 o1 h) (λ_ z=>z.elim) λ_ z=>z.elim⟩
 |jj d=>obtain⟨T,s,is⟩:=h;exact⟨M,_,mY.refl _ _,c.put (sl:=.sj d) (T:=T) k is λb z=>let ⟨t,u,w,x⟩:=s b z;⟨t,h0.free u,w,λj _=>x j⟩⟩
def Rep.Md(A:M8 u')(f:Rep g M ρ env σ H)(o:ρ i a)(B:i<env.length)(P:σ[i]?=some (some v))(ok:SlOk g M (ρ i) (upd H a u') v sl)(C:autoParam (sl.Qk=true) aM) :
 mY M H M (upd H a u')/\Rep g M ρ (env.set i (some sl)) σ (upd H a u'):=by
 obtain⟨r,E,F,ha,m⟩:=f.cb i a o;have G:∀u,H a=some u->¬jA u:=λu e z=>by rw[ha]at e;cases e;cases F<;>first|exact z|exact m
 have kp:∀b u,H b=some u->(M b\/jA u)->upd H a u' b=some u:=λb u q z=>by grind [ag]
 have t:∀(fr:Bool) b u,H b=some u->(fj g M fr b\/jA u)->upd H a u' b=some u:=λfr b u q z=>kp b u q (z.imp (·.1) id);refine⟨⟨λ_ z=>z,kp⟩,λb u q=>?_,λb hb=>?_,f.uv,λb hb h0=>?_,λj s x=>?_,λj b h=>?_,f.apart,λj b h=>?_,by rw[Wy];exact f.len,λc z e=>by
  by_cases hc:c=a
  .subst hc;rw[af]at e;cases e
  .rw[ag hc]at e;exact f.zz c z e⟩
 .rw[ag (λz=>by rw[z,E]at q;cases q)];exact f.same b u q
 .have n:b≠a:=λz=>r (by rw[<- z];exact hb);rw[ag n];exact f.jk b hb
 .have n:b≠a:=λz=>r (by rw[<- z];exact hb);exact(f.fl b hb h0).same λo e=>by rw[ag n];exact e
 .by_cases l:j=i
  .grind
  .rw[Uy (UD l)]at x;obtain⟨w,I,k⟩:=f.slot j s x;refine⟨w,I,?_⟩;have y:∀b,ρ j b->b≠a:=λb hb e=>l (f.apart j i a (e▸hb) o);cases s with
   |val d fr=>exact Is.mono (t fr) (λ_ _ _ z=>z) k
   |own J p=>obtain⟨b,ws,rfl,h1,h2,K⟩:=k;exact⟨b,ws,rfl,by rw[ag (y b ((h2 b).mpr rfl))];exact h1,h2,IsAll.mono (t p) (λ_ _ _ z=>z) K⟩
   |sj d=>
    refine Is.mono (λb u q z=>?_) (λ_ _ _ z=>z) k
    grind [ag]
   |Bl d=>refine IsSh.mono (λb u q z=>kp b u q (.inr z)) (λb ws z q=>⟨ws,by rw[ag (y b z)];exact q⟩) (λ_ z=>z) k
 .obtain⟨L,N,O⟩:=f.cb j b h;refine⟨L,N,?_⟩;by_cases e:b=a
  .exact⟨u',by rw[e,af],A⟩
  .exact O.same λo z=>by rw[ag e];exact z
 .unfold fU;by_cases l:j=i
  .subst l;rw[Up B];exact C
  .rw[Uy (UD l)];exact f.ow j b h
def Rep.write(b:Rep g M ρ env σ H)(o:ρ i a)(c:i<env.length)(d:σ[i]?=some (some v))(ok:SlOk g M (ρ i) (upd H a (.lst vs')) v sl)(e:autoParam (sl.Qk=true) aM) :
 mY M H M (upd H a (.lst vs'))/\Rep g M ρ (env.set i (some sl)) σ (upd H a (.lst vs')):=b.Md (u':=.lst vs') True.intro o c d ok e
end
section
def oZ:En->Res Fl:=λenv=>.ok (.nx env)
def bX(f k:En->Res Fl):En->Res Fl:=λenv=>(f env).bind λr=>match r with
 |.nx a=>k a
 |r=>.ok r
def dE:sW X E [] oZ:=⟨_,bH,λg M b env σ H D a p=>p σ M b H (mY.refl _ _) a⟩
def aU{st:Stmt}{f:En->Res Fl}(h:EV X E st f):sW X E [st] f:=let ⟨t,a,b⟩:=h;⟨t,aC a,b⟩
def aD{st:Stmt}{rest:List Stmt}{f k:En->Res Fl}(h1:EV X E st f)(h2:sW X E rest k):sW X E (st::rest) (bX f k):=by
 obtain⟨t,a,b⟩:=h1;obtain⟨u,c,d⟩:=h2;refine⟨_,ax a c,λg M m env σ H D j p=>b g M m env σ H _ j ?_⟩;unfold bX at p;cases q:f env with
 |stuck=>rw[q]at p;exact p
 |exc c=>rw[q]at p;exact p
 |ok r=>
  rw[q]at p;cases r with
  |nx i=>exact λσ' n l H' e h=>d g n l i σ' H' D h (PostS.bj e p)
  |bk i=>exact p
  |ct i=>exact p
  |rt r=>exact p
  |rm r i=>exact p
def Bj(c:En->Res Bool)(a b:En->Res Fl):En->Res Fl:=λenv=>(c env).bind λk=>if k then a env else b env
def gI(hc:F3 X E c fc)(ha:sW X E a fa)(hb:sW X E b fb):EV X E (.If c a b pos) (Bj fc fa fb):=by
 obtain⟨l,p1,s1⟩:=hc;obtain⟨ta,p2,s2⟩:=ha;obtain⟨tb,p3,k⟩:=hb;refine⟨_,cX p1 p2 p3,λg M h env σ H D f p=>s1.Be f p λb i H' e d j=>?_⟩;cases b with
 |true=>exact mB (s2 g i h env σ H' D d j)
 |false=>exact gk (k g i h env σ H' D d j)
def jE(f:En->Res R):En->Res Fl:=λenv=>(f env).bind λr=>.ok (.rt r)
def ROk.ret(c:Rep g M ρ env σ H)(h0:Same g.H₀ H0)(h:ROk g M ρ H0 H v r)(hz:∀a,¬g.Z a):RetOk g H v r:=by
 have f:∀a,M a->g.H₀ a=none->Mu H a:=λa h1 h2=>(c.fl a h1 h2).elim id λz=>(hz a z.1).elim;have key:∀{fr:Bool}{a:Addr},fj g M fr a->nl g.H₀ H a\/(fr=false/\g.Ma a):=λ{fr a} z=>by
  cases fr with
  |true=>exact .inl ⟨z.2 rfl,f a z.1 (z.2 rfl)⟩
  |false=>exact(c.uv a z.1).imp (λw=>⟨w,f a z.1 w⟩) λw=>⟨rfl,w⟩
 cases r with
 |val d fr al=>exact Is.weak (λa z=>z.elim key λ⟨i,_,o⟩=>.inl (c.cb i a o).2) h
 |new ds fr=>obtain⟨a,vs,rfl,h1,h2,j,p,k⟩:=h;exact⟨a,vs,rfl,h1,h0.free j,IsAll.weak (λb z=>⟨λe=>h2 (e▸z.1),key z⟩) k⟩
 |jj d=>obtain⟨T,l,is⟩:=h;exact Is.weak (λa z=>let ⟨_,m,n,_⟩:=l a z;⟨h0.free m,n⟩) is
def ROk.flatIs(h:ROk g M ρ H0 H v r)(a:r.d.flat=true):Is H (λ_=>False) r.d v:=by
 cases r with
 |val d fr al=>exact Is.flat a h
 |new ds fr=>simp[D.flat,R.d]at a
 |jj d=>obtain⟨T,_,is⟩:=h;exact Is.flat a is
def cf(h:PD X E e f):EV X E (.Return (some e) pos) (jE f):=by obtain⟨t,p1,s1⟩:=h;exact⟨_,bF p1,λg M j env σ H D b p=>s1.Be b p λr v c H' e a ro d=>d v c H' (mY.refl _ _) a.same (λhz=>ro.ret a b.same hz) λi=>ro.flatIs i⟩
def cC(i:Nat)(f:En->Res R):En->Res Fl:=λenv=>(f env).bind λr=>if i<env.length then .ok (.nx (put env i r))else .stuck
def yY(s:Snd mg E t f):Ga mg E (dg t (ay i)) (cC i f):=by
 intro g M k env σ H D a p;refine s.Be a p λr v l H' e b ro d=>?_;by_cases h:i<env.length
 .rw[Tt h]at d;obtain⟨M2,j,e2,c⟩:=b.store a.same h ro;exact d _ M2 j H' e2 c
 .rw[TC h]at d;exact d.elim
def a_(a:X.N.Nodup)(b:X.N[i]?=some x)(c:Jj X.env.scope x)(h:PD X E e f)(d:autoParam (swapsWith e (some (.Name x pos')) pos.line X.env=pure false) aM)
 (g:autoParam (X.fn x=true\/X.env.scope.names.lookup x=some .local) ae):EV X E (.Assign [.Name x pos'] e pos) (cC i f):=by
 obtain⟨t,p1,s1⟩:=h;exact⟨_,bL a b c p1 d g,yY s1⟩
def o5(env:En)(i:Nat):Option (List D×Bool):=match env[i]? with
 |some (some (.own ds fr))=>some (ds,fr)
 |some (some (.sj (.lst ds)))=>some (ds,true)
 |_=>none
mutual
noncomputable def D.sz:D->Nat
 |.tup ds=>D.MF ds+1
 |.lst ds=>D.MF ds+1
 |.i9 _ ds=>D.MF ds+1
 |_=>0
noncomputable def D.MF:List D->Nat
 |[]=>0
 |d::ds=>d.sz+D.MF ds+1
end
section
mutual
theorem Is.avoid(ha:Is H m' e (.ref a)):∀{d:D}{v:V},d.sz<e.sz->Is H m d v->Is H (λb=>m b/\b≠a) d v
 |.bp,_,_,h=>h
 |.bl _,_,_,h=>h
 |.int _,_,_,h=>h
 |.str _,_,_,h=>h
 |.tup ds,_,c,h=>by obtain⟨b,vs,rfl,h1,h2⟩:=h;simp only[D.sz]at c;exact⟨b,vs,rfl,h1,IsAll.avoid ha (by lia) h2⟩
 |.lst ds,_,c,h=>by
  have h':=h;obtain⟨b,vs,rfl,h1,h2⟩:=h;have f:b≠a:=λz=>by subst z;have q:=Is.inj h' ha;rw[q]at c;lia
  simp only[D.sz]at c;refine⟨b,vs,rfl,?_,IsAll.avoid ha (by lia) h2⟩;rcases h1 with⟨h1,g⟩|⟨o,h1,g⟩
  .exact .inl ⟨h1,g,f⟩
  .exact .inr ⟨o,h1,g,f⟩
 |.i9 ks ds,_,c,h=>by
  have h':=h;obtain⟨b,kvs,rfl,h1,h2⟩:=h;have f:b≠a:=λz=>by subst z;have q:=Is.inj h' ha;rw[q]at c;lia
  simp only[D.sz]at c;exact⟨b,kvs,rfl,⟨h1.1,h1.2,f⟩,IsAll.avoid ha (by lia) h2⟩
theorem IsAll.avoid(ha:Is H m' e (.ref a)):∀{ds:List D}{vs:List V},D.MF ds<e.sz->IsAll H m ds vs->IsAll H (λb=>m b/\b≠a) ds vs
 |[],_,_,h=>h
 |d::ds,_,c,h=>by obtain⟨v,r,rfl,h1,h2⟩:=h;simp only[D.MF]at c;exact⟨v,r,rfl,Is.avoid ha (by lia) h1,IsAll.avoid ha (by lia) h2⟩
end
end
def Rep.IX(c:Rep g M ρ env σ H)(e:o5 env i=some (ds,fr)) :
 ∃(p:Addr->Prop)(m:Pr)(a:Addr)(vs:List V),(∀b,M b->p b)/\Rep g p m (env.set i (some (.own ds fr))) σ H/\σ[i]?=some (some (.ref a))/\H a=some (.lst vs)/\(∀b,m i b↔b=a)/\IsAll H (fj g p fr) ds vs/\i<env.length/\(∀j b,m j b->ρ j b)/\(∀j,j≠i->m j=ρ j):=by
 unfold o5 at e;cases q:env[i]? with
 |none=>rw[q]at e;cases e
 |some o=>
  have r:i<env.length:=(Tq.mp q).1;have t:env.set i (env[i])=env:=WL r;cases o with
  |none=>rw[q]at e;cases e
  |some sl=>
   obtain⟨v,A,k⟩:=c.slot i sl q;rw[q]at e;cases sl with
   |val d f=>cases e
   |Bl d=>cases e
   |own E Q=>
    cases e;obtain⟨a,vs,rfl,h1,h2,L⟩:=k;have eq:env.set i (some (.own ds fr))=env:=by
     have:env[i]=some (.own ds fr):=by have:=(Tq.mp q).2;exact this
     rw[<- this];exact t
    rw[eq];exact⟨M,ρ,a,vs,λ_ z=>z,c,A,h1,h2,L,r,λ_ _ z=>z,λ_ _=>rfl⟩
   |sj d=>
    cases d with
    |lst E=>
     cases e;have N:=k;obtain⟨a,vs,rfl,h1,h2⟩:=k;have B:ρ i a:=by rcases h1 with⟨_,z⟩|⟨_,_,z⟩<;>exact z
     obtain⟨pm,O,R,pl,F⟩:=c.cb i a B;have G:H a=some (.lst vs):=by
      rcases h1 with⟨h1,_⟩|⟨o,h1,_⟩
      .exact h1
      .rw[h1]at pl;cases pl;exact F.elim
     have n:IsAll H (λb=>ρ i b/\b≠a) ds vs:=IsAll.avoid N (by simp only[D.sz];lia) h2
     let p:Addr->Prop:=λb=>M b\/(ρ i b/\b≠a)
     let m:Pr:=sX ρ i λb=>b=a
     have J:Rep g p m (env.set i (some (.own ds true))) (σ.set i (some (.ref a))) H:=by
      have P:Rep g p (λj b=>if j=i then b=a else ρ j b) (env.set i (some (.own ds true))) σ H:=by
       refine⟨c.same,λb hb=>hb.elim (c.jk b) λz=>?_,λb hb=>hb.elim (c.uv b) λz=>.inl (c.cb i b z.1).2.1,λb hb h0=>hb.elim (λz=>c.fl b z h0) λz=>.inl (c.cb i b z.1).2.2,λj s C=>?_,λj b h=>?_,λj k b w x=>?_,λj b h=>?_,by rw[Wy];exact c.len,c.zz⟩
       .exact(c.cb i b z.1).2.2.some
       .by_cases l:j=i
        .subst l;rw[Up r]at C;cases C;exact⟨_,A,a,vs,rfl,G,λb=>by simp,IsAll.weak (λb z=>⟨.inr z,λ_=>(c.cb j b z.1).2.1⟩) n⟩
        .rw[Uy (UD l)]at C;obtain⟨K,I,k2⟩:=c.slot j s C;have eT:(λb=>if j=i then b=a else ρ j b)=ρ j:=by funext b;rw[TC l]
         exact⟨K,I,by show SlOk g p (λb=>if j=i then b=a else ρ j b) H K s;rw[eT];exact SlOk.weak (λ_=>.inl) k2⟩
       .by_cases l:j=i
        .rw[Tt l]at h;subst h;exact⟨λz=>z.elim pm λz=>z.2 rfl,O,Mu.lst G⟩
        .rw[TC l]at h;exact⟨λz=>z.elim (c.cb j b h).1 λz=>l (c.apart j i b h z.1),(c.cb j b h).2⟩
       .by_cases l:j=i
        .by_cases y:k=i
         .rw[l,y]
         .rw[Tt l]at w;rw[TC y]at x;subst w;exact absurd (c.apart k i b x B) y
        .by_cases y:k=i
         .rw[Tt y]at x;rw[TC l]at w;subst x;exact absurd (c.apart j i b w B) l
         .rw[TC l]at w;rw[TC y]at x;exact c.apart j k b w x
       .unfold fU;by_cases l:j=i
        .subst l;rw[Up r];rfl
        .rw[TC l]at h;rw[Uy (UD l)];exact c.ow j b h
      have u:i<σ.length:=by rw[<- c.len];exact r
      have es:σ.set i (some (.ref a))=σ:=by have:σ[i]=some (.ref a):=(Tq.mp A).2;rw[<- this];exact WL u
      rw[es];exact P
     have u:i<σ.length:=by rw[<- c.len];exact r
     have es:σ.set i (some (.ref a))=σ:=by have:σ[i]=some (.ref a):=(Tq.mp A).2;rw[<- this];exact WL u
     rw[es]at J;refine⟨p,m,a,vs,λ_=>.inl,J,A,G,λb=>by show sX ρ i (λb=>b=a) i b↔b=a;rw[gv],IsAll.weak (λb z=>⟨.inr z,λ_=>(c.cb i b z.1).2.1⟩) n,r,λj b z=>?_,λj l=>eB l⟩;by_cases l:j=i
     .subst l;have z:sX ρ j (λb=>b=a) j b:=z;rw[gv]at z;rw[z];exact B
     .have z:sX ρ i (λb=>b=a) j b:=z;rw[eB l]at z;exact z
    |_=>cases e
def u7(i:Nat)(f:En->Res R):En->Res Fl:=λenv=>match o5 env i with
 |some (ds,fr)=>(f env).bind λr=>if ds.length<lim/\¬i∈r.al then .ok (.nx ((bj env r.al).set i (some (.own (ds++[r.d]) (fr&&r.fr)))))else .stuck
 |none=>.stuck
def nW(ha:PE X a (am i))(h:PD X E e f)
 (n:autoParam (attributeBase a "append" X.env (eval a X.env)=eval a X.env) aM)
 (w:autoParam (((backTo cpos (starEach [e] X.env)).all (λx=>!x.1)&&(backToKw cpos (keywordEach [] X.env)).all (λx=>x.1.isSome)
   && decide (([e]:List Expr).length+([]:List Keyword).length+(if([]:List Keyword).isEmpty then 0 else 1)<30))=true) aM)
 (s:autoParam ((apos.endLine==cpos.line)=true) aM) (T:autoParam (starEach [e] X.env=(false,eval e X.env)::starEach [] X.env) aM) (c:autoParam (bT X cpos []) aM)
 (I:autoParam (swapsWith (.Call (.Attribute a "append" apos) [e] [] cpos) none pos.line X.env=pure false) aM) :
 EV X E (.Expr (.Call (.Attribute a "append" apos) [e] [] cpos) pos) (u7 i f):=by
 obtain⟨t,p1,s1⟩:=h;refine⟨_,bE (fM UA UH UI cL ha (aa p1 ah T) n w s T c) I,λg M ρ env σ H D v p=>?_⟩;unfold u7 at p;cases e1:o5 env i with
 |none=>rw[e1]at p;exact p.elim
 |some o=>
  obtain⟨ds,fr⟩:=o;rw[e1]at p;dsimp only at p;obtain⟨M0,Z,l,vs,m0,U,J,k1,k2,k4,hi,_⟩:=v.IX e1;refine⟨_,J,.inl ⟨rfl,vs,SqL.of k1⟩,s1.Be v p λr y M' H' e A ro G=>?_⟩;by_cases hc:ds.length<lim/\¬i∈r.al
  .rw[Tt hc]at G;obtain⟨M1,x1,K,j,L⟩:=ro.is A e v.same;obtain⟨M2,ρ2,V,B,o2,k5,k6⟩:=Rep.bj r.al j;have N:Is H' (fj g M2 r.fr) r.d y:=Is.frozen j V o2 L;have e2:o5 (bj env r.al) i=some (ds,fr):=by unfold o5;rw[CB _ hc.2];exact e1
   obtain⟨O,C,l3,vs3,m3,k,F,W,Y,j4,P,_⟩:=B.IX e2;rw[J]at F;cases F;have Q:H' l=some (.lst vs):=e.h _ _ k1;rw[Q]at W;cases W;have pl:C i l:=(Y l).mpr rfl;obtain⟨R,_⟩:=k.cb i l pl;have S:IsAll H' (fj g O (fr&&r.fr)) (ds++[r.d]) (vs++[y]):=by refine IsAll.snoc (IsAll.weak (λb z=>⟨z.1,λq=>z.2 (by cases fr<;>simp_all)⟩) j4) (Is.weak (λb z=>⟨m3 b z.1,λq=>z.2 (by cases fr<;>simp_all)⟩) N)
   have kp:∀b u,H' b=some u->(fj g O (fr&&r.fr) b\/jA u)->upd H' l (.lst (vs++[y])) b=some u:=λb u q z=>by
    rw[ag]
    .exact q
    .rintro rfl;rcases z with z|z
     .exact R z.1
     .rw[Q]at q;cases q;exact z
   obtain⟨f1,m⟩:=k.write (sl:=.own (ds++[r.d]) (fr&&r.fr)) (vs':=vs++[y]) pl (by rw[Wy];exact P) J ⟨l,vs++[y],rfl,af,Y,IsAll.mono kp (λ_ _ _ z=>z) S⟩;rw[List.set_set]at m;refine⟨l,vs,y,rfl,rfl,Q,by rw[k4.length];exact Cp hc.1,?_⟩;exact G σ O C _ (mY.trans ⟨λa z=>m3 a (V a (K a z)),λ_ _ q _=>q⟩ f1) m
  .rw[TC hc]at G;exact G.elim
end
def JY(ix:List Nat)(t:TG)(asg:D->Bool->En->Option En):Prop:=∀(g:Gd)(M:Addr->Prop)(c:Pr)(env e:En)(σ:St)(H:Hp)(d:D)(fr:Bool)(v:V)(Q:St->Hp->Prop),
 Rep g M c env σ H->Is H (fj g M fr) d v->asg d fr env=some e->(∀(σ':St)(b:Pr),Rep g M b e σ' H->(∀j,¬j∈ix->σ'[j]?=σ[j]?)->(∀j a,b j a->c j a)->Q σ' H)->t v σ H Q
def Ng(ix:List Nat)(t:Mv)(asg:List D->Bool->En->Option En):Prop:=∀(g:Gd)(M:Addr->Prop)(c:Pr)(env d:En)(σ:St)(H:Hp)(ds:List D)(fr:Bool)(vs:List V)(Q:St->Hp->Prop),
 Rep g M c env σ H->IsAll H (fj g M fr) ds vs->asg ds fr env=some d->(∀(σ':St)(b:Pr),Rep g M b d σ' H->(∀j,¬j∈ix->σ'[j]?=σ[j]?)->(∀j a,b j a->c j a)->Q σ' H)->t vs σ H Q
def EW(X:Cx)(ix:List Nat)(tg:Expr)(asg:D->Bool->En->Option En):Prop:=∃t,PG X tg t/\JY ix t asg
def Gb(X:Cx)(ix:List Nat)(a:List Expr)(asg:List D->Bool->En->Option En):Prop:=∃t,Jp X a t/\Ng ix t asg
section
def gN(i:Nat):D->Bool->En->Option En:=λd fr env=>if i<env.length then some (env.set i (some (.val d fr)))else none
def Ad:JY [i] (ay i) (gN i):=by
 intro g M h env l σ H d fr v Q c is e k;unfold gN at e;by_cases f:i<env.length
 .rw[Tt f]at e;cases e;exact k _ _ (c.put (sl:=.val d fr) (T:=λ_=>False) f is (λ_ z=>z.elim) λ_ z=>z.elim) (λj b=>Uy λe=>b (by simp[e])) λj a z=>by
   by_cases b:j=i
   .subst b;rw[gv]at z;exact z.elim
   .rw[eB b]at z;exact z
 .rw[TC f]at e;cases e
def dF(a:X.N.Nodup)(b:X.N[i]?=some x)(c:Jj X.env.scope x)(d:autoParam (X.fn x=true\/X.env.scope.names.lookup x=some .local) ae):EW X [i] (.Name x pos) (gN i):=⟨_,aL a b c d,Ad⟩
def yZ:List D->Bool->En->Option En:=λds _ env=>match ds with
 |[]=>some env
 |_=>none
def jF(f:D->Bool->En->Option En)(fs:List D->Bool->En->Option En):List D->Bool->En->Option En:=λds fr env=>match ds with
 |d::r=>(f d fr env).bind λa=>fs r fr a
 |[]=>none
def CC:Gb X [] [] yZ:=⟨_,cc,λg M b env c σ H ds fr vs Q a is e k=>by
 cases ds with
 |nil=>cases e;cases is;exact⟨rfl,k σ b a (λ_ _=>rfl) λ_ _ z=>z⟩
 |cons d ds=>cases e⟩
def rA(h1:EW X ix e f)(h2:Gb X jx es fs)
 (s:∀t,PG X e t->∀u,Jp X es u->Jp X (e::es) (aQ t u)):Gb X (ix++jx) (e::es) (jF f fs):=by
 obtain⟨t,p1,s1⟩:=h1;obtain⟨u,p2,s2⟩:=h2;refine⟨_,s t p1 u p2,λg M w env x σ H ds fr vs Q h is e k=>?_⟩;cases ds with
 |nil=>cases e
 |cons d ds=>
  obtain⟨v,r,rfl,y,A⟩:=is;unfold jF at e;dsimp only at e;cases q:f d fr env with
  |none=>rw[q]at e;cases e
  |some o=>rw[q]at e;refine⟨v,r,rfl,s1 g M w env o σ H d fr v _ h y q λi l b B C=>?_⟩;exact s2 g M l o x i H ds fr r Q b A e λm n c c2 D=>k m n c (λj p=>(c2 j λz=>p (by simp[z])).trans (B j λz=>p (by simp[z]))) λj a z=>C j a (D j a z)
def gT(n:Nat)(fs:List D->Bool->En->Option En):D->Bool->En->Option En:=λd fr env=>match d with
 |.tup ds=>if ds.length=n then fs ds fr env else none
 |_=>none
def Gc(hc:X.calm=true)(h:Gb X ix es fs)(i:autoParam ((assignEach es X.env).length=n) aM)(b:autoParam ((assignEach es X.env).findIdx? (·.1)=none) aM):EW X ix (.Tuple es k pos) (gT n fs):=by
 obtain⟨t,p1,s1⟩:=h;refine⟨_,de hc p1 i b,λg M j env l σ H d fr v Q c is e m=>?_⟩;unfold gT at e;cases d with
 |tup ds=>
  obtain⟨a,vs,rfl,h1,h2⟩:=is;dsimp only at e;by_cases f:ds.length=n
  .rw[Tt f]at e;exact⟨a,vs,rfl,SqT.of h1,h2.length.trans f,s1 g M j env l σ H ds fr vs Q c h2 e m⟩
  .rw[TC f]at e;cases e
 |_=>cases e
end
structure Src where
 xs:List D
 fr:Bool
 al:List Nat
structure Walk(J:It) (m:Addr->Prop) (H:Hp) (xs:List D):Prop where
 go:∀H' i d,(∀a o,H a=some o->(m a\/jA o)->H' a=some o)->xs[i]?=some d->J.go i H'/\∀x H'',J.A_ i H' x H''->Same H' H''/\Is H'' m d x
 stop:∀H',(∀a o,H a=some o->(m a\/jA o)->H' a=some o)->J.stop xs.length H'
theorem Walk.weak(w:Walk J m H xs)(h:∀a,m a->m' a):Walk J m' H xs:=⟨λH' i d k e=>let ⟨a,b⟩:=w.go H' i d (λa o q z=>k a o q (z.imp (h a) id)) e;⟨a,λx f y=>let ⟨c,d⟩:=b x f y;⟨c,d.weak h⟩⟩,λH' k=>w.stop H' λa o q z=>k a o q (z.imp (h a) id)⟩
def PostI(mg:Str->Option Xr)(E:XK)(g:Gd)(M:Addr->Prop)(b:Pr)(env:En)(σ:St)(H:Hp)(R:It->Hp->Prop):Res Src->Prop
 |.stuck=>False
 |.exc c=>F2 mg E g c
 |.ok s=>∀J a H',Ext M H a H'->Rep g a b env σ H'->Walk J (vmsk g a s.fr b s.al) H' s.xs->R J H'
def Nh(mg:Str->Option Xr)(E:XK)(b:TI)(f:En->Res Src):Prop:=∀g M a env σ H R,Rep g M a env σ H->PostI mg E g M a env σ H R (f env)->b σ H R
def My(X:Cx)(E:XK)(tg iter:Expr)(f:En->Res Src):Prop:=∃a,PI X tg iter a/\Nh X.mg E a f
section
variable{X:Cx}{E:XK}
def QC(K:Xp)(c:TE):TI:=λσ H R=>c σ H λx b=>∃a,x=.ref a/\(((∃xs,SqL K b a xs)/\R (yp K a) b)\/((∃xs,SqT K b a xs)/\R (Qq K a) b))
def JZ(g:PE X l tl):PI X tg l (QC X.K tl):=by
 intro ac s σ H R I h;refine cj (g ac s σ H _ I h) λv s1 ⟨x,f,c,i,q1⟩=>?_;obtain⟨a,e,q⟩:=q1;subst e;cases i;rcases q with⟨⟨xs,d⟩,q⟩|⟨⟨xs,d⟩,q⟩
 .obtain⟨its,j,p,hz⟩:=c.list d;refine V6 p.isList ?_;refine⟨s1.heap.objs.size,[s1.heap.objs.size],_,_,f,rfl,c.kept (t':=s1.toks) λb o e=>Tn _ e,qM a _,⟨_,Tv _ rfl,rfl,rfl⟩,λb hb=>?_,q⟩;have e:b=s1.heap.objs.size:=by simpa using hb
  subst e;exact c.qI (To _) (c.aW.fresh (To _))
 .obtain⟨its,j,p,hz⟩:=c.tuple d;refine wpAny_pyIter_tuple (show s1.heap.IsTuple a its.toArray from p) ?_;refine⟨s1.heap.objs.size,[s1.heap.objs.size],_,_,f,rfl,c.kept (t':=s1.toks) λb o e=>Tn _ e,wo a _,⟨_,Tv _ rfl,rfl,rfl⟩,λb hb=>?_,q⟩;have e:b=s1.heap.objs.size:=by simpa using hb
  subst e;exact c.qI (To _) (c.aW.fresh (To _))
def Ae{K:Xp}{a:Addr}{m:Addr->Prop}(h:(H a=some (.lst vs)/\m a)\/∃o,H a=some (.bj o (.lst vs))/\m a)(is:IsAll H m ds vs):Walk (yp K a) m H ds:=by
 have st:∀H',(∀a o,H a=some o->(m a\/jA o)->H' a=some o)->SqL K H' a vs:=λH' k=>by
  rcases h with⟨h,c⟩|⟨o,h,_⟩
  .exact .inl (.inl (k a _ h (.inl c)))
  .exact .inl (.inr ⟨o,k a _ h (.inr True.intro)⟩)
 refine⟨λH' i d k e=>?_,λH' k=>⟨vs,st H' k,by rw[is.length];exact To _⟩⟩;obtain⟨v,b,f⟩:=(is.mono k λ_ _ _ z=>z:IsAll H' m ds vs).get e;refine⟨⟨vs,v,st H' k,b⟩,λx g y=>?_⟩;obtain⟨rfl,y⟩:=y;have:=y vs (st _ k);rw[b]at this;cases this;exact⟨Same.refl _,f⟩
def CD{K:Xp}{a:Addr}{m:Addr->Prop}(h:H a=some (.tup vs))(is:IsAll H m ds vs):Walk (Qq K a) m H ds:=by have st:∀H',(∀a o,H a=some o->(m a\/jA o)->H' a=some o)->SqT K H' a vs:=λH' k=>SqT.of (k a _ h (.inr True.intro));refine⟨λH' i d k e=>?_,λH' k=>⟨vs,st H' k,by rw[is.length];exact To _⟩⟩;obtain⟨v,b,c⟩:=(is.mono k λ_ _ _ z=>z:IsAll H' m ds vs).get e;refine⟨⟨vs,v,st H' k,b⟩,λx f y=>?_⟩;obtain⟨rfl,y⟩:=y;have:=y vs (st _ k);rw[b]at this;cases this;exact⟨Same.refl _,c⟩
def dX(lo:Int)(n:Nat):List D:=(List.range n).map λk=>.int (lo+(k:Nat))
def o6(lo:Int)(n:Nat):Walk (MN lo n) m H (dX lo n):=by
 refine⟨λH' i d k e=>?_,λH' k=>by show n<=(dX lo n).length;simp[dX]⟩;have a:i<n:=by have:=(Tq.mp e).1;simpa[dX]using this
 refine⟨a,λx b y=>?_⟩;obtain⟨rfl,rfl⟩:=y;refine⟨Same.refl _,?_⟩;have:(dX lo n)[i]?=some (.int (lo+(i:Nat))):=by simp[dX,a]
 rw[this]at e;cases e;rfl
def Af(f:En->Res R):En->Res Src:=λenv=>(f env).bind λr=>match r.d with
 |.lst ds=>.ok ⟨ds,r.fr,r.al⟩
 |.tup ds=>.ok ⟨ds,r.fr,r.al⟩
 |_=>.stuck
def nX(h:PD X E l f):My X E tg l (Af f):=by
 obtain⟨t,p1,s1⟩:=h;refine⟨_,JZ p1,λg M k env σ H R i p=>?_⟩;refine s1.one i (P:=λM H r=>PostI X.mg E g M k env σ H R r) p (λ_ _ z=>z) (λ_ _ _ z=>z) (λM H n H' r e p=>?_) λr v M1 j e1 b is q=>?_
 .cases r with
  |stuck=>exact p
  |exc c=>exact p
  |ok s=>exact λJ M2 m e2=>p J M2 m (e.trans e2)
 .cases z:r.d with
  |lst ds=>rw[z]at is;simp only[z]at q;obtain⟨a,vs,rfl,h1,h2⟩:=is;exact⟨a,rfl,.inl ⟨⟨vs,.inl (h1.imp (·.1) λ⟨o,z,_⟩=>⟨o,z⟩)⟩,q _ M1 j (Ext.refl _ _) b (Ae h1 h2)⟩⟩
  |tup ds=>rw[z]at is;simp only[z]at q;obtain⟨a,vs,rfl,h1,h2⟩:=is;exact⟨a,rfl,.inr ⟨⟨vs,SqT.of h1⟩,q _ M1 j (Ext.refl _ _) b (CD h1 h2)⟩⟩
  |_=>simp only[z]at q;exact q.elim
def cR(i:Int):Bool:=decide (-(2^62)<=i)&&decide (i<2^62)
def PY(fs:En->Res (List R)):En->Res Src:=λenv=>(fs env).bind λrs=>match rs.map R.d with
 |[.int j]=>if cR j then .ok ⟨dX 0 j.toNat,true,[]⟩else .stuck
 |_=>.stuck
def QD(fs:En->Res (List R)):En->Res Src:=λenv=>(fs env).bind λrs=>match rs.map R.d with
 |[.int i,.int j]=>if cR i&&cR j then .ok ⟨dX i (j-i).toNat,true,[]⟩else .stuck
 |_=>.stuck
def PostI.ext{mg:Str->Option Xr}{M a:Addr->Prop}{R:It->Hp->Prop}(e:Ext M H a H')(p:PostI mg E g M ρ env σ H R r):PostI mg E g a ρ env σ H' R r:=by
 cases r with
 |stuck=>exact p
 |exc c=>exact p
 |ok s=>exact λJ M2 b e2=>p J M2 b (e.trans e2)
def o7(f:Gl X "range") (h:X.mg "range"=none) (ha:Co X E [a] fs) (i:autoParam (starEach [a] X.env=[(false,eval a X.env)]) aM):My X E tg (.Call (.Name "range" p) [a] [] pos) (PY fs):=by
 obtain⟨t,p1,s1⟩:=ha;refine⟨_,qN f h p1 i,λg M k env σ H l c p=>s1.one c (P:=λM H r=>PostI X.mg E g M k env σ H l r) p (λ_ _ z=>z) (λ_ _ _ z=>z) (λ_ _ _ _ _ e p=>p.ext e) λrs vs M1 m e1 b is q=>?_⟩;generalize hd:rs.map R.d=ds at is q
 match ds,is,q with
 |[.int j],is,q=>
  obtain⟨v,w,rfl,n,o⟩:=is;cases n;cases o;dsimp only at q;by_cases hc:cR j=true
  .rw[Tt hc]at q;simp only[cR,Uu,V_]at hc;exact⟨j,rfl,hc.1,hc.2,q _ M1 m (Ext.refl _ _) b (o6 0 j.toNat)⟩
  .rw[TC hc]at q;exact q.elim
 |[],_,q=>exact q.elim
 |[.bp],_,q=>exact q.elim
 |[.bl _],_,q=>exact q.elim
 |[.str _],_,q=>exact q.elim
 |[.tup _],_,q=>exact q.elim
 |[.lst _],_,q=>exact q.elim
 |[.i9 _ _],_,q=>exact q.elim
 |.int _::_::_,_,q=>exact q.elim
 |.bp::_::_,_,q=>exact q.elim
 |.bl _::_::_,_,q=>exact q.elim
 |.str _::_::_,_,q=>exact q.elim
 |.tup _::_::_,_,q=>exact q.elim
 |.lst _::_::_,_,q=>exact q.elim
 |.i9 _ _::_::_,_,q=>exact q.elim
def ip(asg:D->Bool->En->Option En)(fr:Bool)(body:En->Res Fl):List D->En->Res Fl
 |[],env=>.ok (.nx env)
 |x::xs,env=>match asg x fr env with
  |none=>.stuck
  |some b=>(body b).bind λr=>match r with
   |.nx a=>ip asg fr body xs a
   |.ct a=>ip asg fr body xs a
   |.bk a=>.ok (.nx a)
   |.rt r=>.ok (.rt r)
   |.rm r e=>.ok (.rm r e)
def u9(a:En->Res Src)(asg:D->Bool->En->Option En)(body:En->Res Fl):En->Res Fl:=λenv=>(a env).bind λs=>ip asg s.fr body s.xs (bj env s.al)
def Ni(J:It)(u:TG)(tb:TS)(D:Ends)(σ:St)(b:Hp):Prop:=∃W:Nat->Nat->St->Hp->Prop,(∃m,W 0 m σ b)/\∀i m σ H,W i m σ H->(J.stop i H/\D.nx σ H)\/(J.go i H/\∃N:St->Hp->Prop,(∀σ' H',N σ' H'->∃m',m'<m/\W (i+1) m' σ' H')/\∀x H',J.A_ i H x H'->u x σ H' λa c=>tb {D with nx:=N,ct:=N,bk:=D.nx} a c)
def CF{asg:D->Bool->En->Option En}{F:En->Res Fl}{g:Gd}{M2:Addr->Prop}{G:Pr}{n:En}{σ:St}{t:Hp}{D:Ends}(s2:JY ix u asg)(Z:Ga X.mg E tb F)(H:Rep g M2 G n σ t)(I:Walk J (fj g M2 fr) t xs)(O:PostS X.mg E g M2 t D (ip asg fr F xs n)):Ni J u tb D σ t:=by
 refine⟨λi m σ' H'=>m=xs.length-i/\i<=xs.length/\∃k l K,Rep g k l K σ' H'/\mY M2 t k H'/\PostS X.mg E g k H' D (ip asg fr F (xs.drop i) K),⟨_,rfl,T2 _,M2,G,_,H,mY.refl _ _,O⟩,?_⟩;rintro i m σ' H' ⟨rfl,hle,k,l,K,p,N,q⟩;have kp:∀a o,t a=some o->(fj g M2 fr a\/jA o)->H' a=some o:=λa o e z=>N.h a o e (z.imp (·.1) id);by_cases v:i<xs.length
 .have ed:xs[i]?=some xs[i]:=by simp[v]
  obtain⟨go,yl⟩:=I.go H' i _ kp ed;have w:xs.drop i=xs[i]::xs.drop (i+1):=Wd v;rw[w]at q;unfold ip at q;refine .inr ⟨go,λs b=>∃M'' L f,Rep g M'' L f s b/\mY M2 t M'' b/\PostS X.mg E g M'' b D (ip asg fr F (xs.drop (i+1)) f),λs b z=>⟨xs.length-(i+1),by lia,rfl,v,z⟩,λx b y=>?_⟩;obtain⟨sm,is⟩:=yl x b y;have A:=p.grow sm;have P:mY k H' k b:=⟨λ_ z=>z,λa o e _=>sm a o e⟩;have Q:Is b (fj g k fr) xs[i] x:=is.weak λa z=>fj.mono N.m z;cases R:asg xs[i] fr K with
  |none=>simp only[R]at q;exact q.elim
  |some S=>
   simp only[R]at q;refine s2 g k l K S σ' b _ fr x _ A Q R λT U B _ _=>?_;refine Z g k U S T b _ B ?_;have d:=PostS.bj P q;cases V:F S with
   |stuck=>rw[V]at d;exact d
   |exc c=>rw[V]at d;exact d
   |ok r=>
    rw[V]at d;cases r with
    |nx e3=>exact λW Y C H3 M j=>⟨Y,C,e3,j,(N.trans P).trans M,PostS.bj M d⟩
    |ct e3=>exact λW Y C H3 M j=>⟨Y,C,e3,j,(N.trans P).trans M,PostS.bj M d⟩
    |bk e3=>exact d
    |rt r=>exact d
    |rm r e3=>exact d
 .have e:i=xs.length:=by lia
  subst e;rw[List.drop_length]at q;exact .inl ⟨I.stop H' kp,q σ' k l H' (mY.refl _ _) p⟩
def lE(m:PassesOwn (model X.prog X.w) X.A X.env X.xe)(hc:X.calm=true)
 (e:My X E tg iter src) (n:EW X ix tg asg) (hb:sW X E body fb) (r:autoParam (∀x,foldedSetIterable iter X.env x=pure x) az):EV X E (.For tg iter body [] pos) (u9 src asg fb):=by
 obtain⟨F,p1,s1⟩:=e;obtain⟨u,p2,s2⟩:=n;obtain⟨tb,p3,t⟩:=hb;refine⟨_,dh m hc p1 p2 p3 r,λg M v env σ H D f p=>?_⟩;refine s1 g M v env σ H _ f ?_;unfold u9 at p;cases q:src env with
 |stuck=>rw[q]at p;exact p
 |exc c=>rw[q]at p;exact p
 |ok s=>rw[q]at p;intro J M1 k e1 b y;obtain⟨M2,B,l,d,C,_,_⟩:=Rep.bj s.al b;have h:Walk J (fj g M2 s.fr) k s.xs:=y.weak λa z=>z.elim (fj.mono l) λ⟨i,e,o⟩=>⟨C i e a o,λ_=>(b.cb i a o).2.1⟩;have j:PostS X.mg E g M2 k D (ip asg s.fr fb s.xs (bj env s.al)):=PostS.bj (e1.bj.trans ⟨l,λ_ _ q _=>q⟩) p;exact CF s2 t d h j
end
theorem iq:∀(names:List (Str×NameKind))(cs:List (Str×Addr)),(∀x∈names,x.2=.free->∃c,env.cells.lookup x.1=some c)->(∀y c,cs.lookup y=some c->env.cells.lookup y=some c)->
 ∃cl,(forIn names cs λ(x:Str×NameKind)(r:List (Str×Addr))=>(do
  if(x.2==.free)=true then
   let c <- cellOf env x.1
   pure (ForInStep.yield ((x.1,c)::r))
  else pure (ForInStep.yield r):Sem (ForInStep (List (Str×Addr)))))=pure cl/\(∀y c,cl.lookup y=some c->env.cells.lookup y=some c)/\(∀x∈names,x.2=.free->∃c,cl.lookup x.1=some c)/\(∀y c,cs.lookup y=some c->∃a,cl.lookup y=some a)
 |[],cs,_,h=>⟨cs,by simp,h,λ_ z=>absurd z (by simp),λy c e=>⟨c,e⟩⟩
 |(n,k)::r,cs,f,h=>by
  by_cases g:k=.free
  .subst g;obtain⟨c,hc⟩:=f (n,.free) (by simp) rfl;have i:cellOf env n=pure c:=by simp[cellOf,hc]
   have h':∀y a,((n,c)::cs).lookup y=some a->env.cells.lookup y=some a:=λy a e=>by
    rw[VT]at e;cases d:y==n with
    |true=>rw[d]at e;cases e;rw[eq_of_beq d];exact hc
    |false=>rw[d]at e;exact h y a e
   obtain⟨cl,e1,e2,e3,e4⟩:=iq r ((n,c)::cs) (λx hx=>f x (by simp[hx])) h';have self:∃a,cl.lookup n=some a:=e4 n c (by simp[VT]);refine⟨cl,?_,e2,λx hx b=>?_,λy a e=>?_⟩
   .rw[List.forIn_cons];simp only[beq_self_eq_true,VW,i,pure_bind];exact e1
   .rcases Tz.mp hx with rfl|hx
    .exact self
    .exact e3 x hx b
   .by_cases d:y=n
    .rw[d];exact self
    .refine e4 y a ?_;have hb:(y==n)=false:=by simpa using d
     rw[VT,hb];exact e
  .obtain⟨cl,e1,e2,e3,e4⟩:=iq r cs (λx hx=>f x (by simp[hx])) h;refine⟨cl,?_,e2,λx hx b=>?_,e4⟩
   .rw[List.forIn_cons];have j:(k==NameKind.free)=false:=by simpa using g
    simp only[j,TY,UM,pure_bind];exact e1
   .rcases Tz.mp hx with rfl|hx
    .exact absurd b g
    .exact e3 x hx b
def qA(h:∀x∈scope.names,x.2=.free->∃c,env.cells.lookup x.1=some c) :
 ∃cl,closureFor scope env=pure cl/\(∀y c,cl.lookup y=some c->env.cells.lookup y=some c)/\(∀x∈scope.names,x.2=.free->∃c,cl.lookup x.1=some c):=by
 obtain⟨cl,e1,e2,e3,_⟩:=iq scope.names [] h (λ_ _ e=>by simp at e);refine⟨cl,?_,e2,e3⟩;unfold closureFor;refine Eq.trans ?_ (show((pure cl:Sem (List (Str×Addr))) >>= λcs=>pure cs)=pure cl by simp);rw[<- e1]
 all_goals first
  |rfl
  |(congr 1;congr 1;funext x r;obtain⟨n,k⟩:=x;first|rfl|(dsimp only;split<;>simp_all))
theorem m_{f:Str->NameKind->NameKind}:∀(names:List (Str×NameKind))(y:Str),(names.map λx=>(x.1,f x.1 x.2)).lookup y=(names.lookup y).map (f y)
 |[],y=>rfl
 |(n,k)::r,y=>by
  rw[TJ,VT,VT];cases h:y==n with
  |true=>rw[eq_of_beq h];rfl
  |false=>exact m_ r y
def jG(scope:Scope)(env:Env)(y:Str):(relabel scope env).names.lookup y=(scope.names.lookup y).map λk=>if(k==.free&&env.scope.kind==.function&&env.kindOf y==some .cell)=true then .cell else k:=by
 have e:(relabel scope env).names=scope.names.map λx=>(x.1,(λn k=>if(k==NameKind.free&&env.scope.kind==.function&&env.kindOf n==some .cell)=true then NameKind.cell else k) x.1 x.2):=by unfold relabel;refine UP λx _=>?_;obtain⟨n,k⟩:=x;dsimp only;split<;>rfl
 rw[e];exact m_ (f:=λn k=>if(k==NameKind.free&&env.scope.kind==.function&&env.kindOf n==some .cell)=true then NameKind.cell else k) scope.names y
def s_(h:scope.names.lookup y=some .free):(relabel scope env).names.lookup y=some .cell\/(relabel scope env).names.lookup y=some .free:=by
 rw[jG,h];simp only[Option.map_some];split
 .exact .inl rfl
 .exact .inr rfl
def aS(X:Cx)(scope:Scope)(N:List Str)(cl:List (Str×Addr))(C:Addr)(s:Xo)(H:Hp)(ex:List Addr):Cx:={X with N:=N,s₀:=s,H₀:=H,env:=compEnvC scope cl C X.env,outer:=X.stack,ex:=ex,fn:=λ_=>false,pn:=[],xe:=λ_ _=>False}
section
def Ge(I:L2.Inv X ac σ H s)(hkind:scope.kind=.function)(hcell:∀y∈scope.names,y.2≠.cell)(hcl:∀y c,cl.lookup y=some c->X.env.cells.lookup y=some c)(hhas:∀x∈scope.names,x.2=.free->∃c,cl.lookup x.1=some c)
 (hC:s.heap.objs.size<=C) (hex:∀b∈ex,kg X ac H b/\b<s.heap.objs.size):(aS X scope N cl C s H ex).Ok where
 mod:=I.ok.mod
 kind:=hkind
 glob:=I.ok.glob
 blt:=I.ok.blt
 above:=hC
 inj:=λx y c h1 h2=>I.ok.inj x y c (hcl x c h1) (hcl y c h2)
 has:=λy hy=>by
  have key:∀k,(relabel scope X.env).names.lookup y=some k->(k=.cell\/k=.free)->∃c,cl.lookup y=some c:=λk e hk=>by
   rw[jG]at e;cases q:scope.names.lookup y with
   |none=>rw[q]at e;cases e
   |some k0=>
    have hm:=Vf q;have h0:=hcell _ hm;have hf:k0=.free:=by
     rw[q]at e;simp only[Option.map_some,Option.some.injEq]at e;split at e
     .rename_i z;simp only[Uu,WZ]at z;exact z.1.1
     .rcases hk with hk|hk
      .exact absurd (e.trans hk) h0
      .exact e.trans hk
    exact hhas _ hm hf
  rcases hy with hy|hy
  .exact key _ hy (.inl rfl)
  .exact key _ hy (.inr rfl)
 MH:=λ_ _ h=>by cases h
 hd:=I.ok.hd
 frames:=I.ok.frames
 stk:=.inl rfl
 RX:=λb hb=>⟨T1 (Ue (hex b hb).2 hC),λx c e=>(hex b hb).1.2.2.2.2.1 x c (hcl x c e)⟩
 bs:=λb o e=>I.bs b o e
 Fa:=T6 I.ok.Fa I.sz
 Bc:=λb o e hb=>by
  rcases(hex b hb).1.2.2.2.1 with z|z
  .exact I.ok.Bc b o e z
  .exact absurd (Ue (TF e) (T6 I.ok.Fa z)) (V5 _)
 EA:=λb hb hfs=>by
  rcases Tz.mp (I.uf b hfs)with z|z
  .exact(hex b hb).1.2.1 z
  .exact(hex b hb).1.2.2.1 z
 mV:=I.stack
 Jd:=I.zE
 kt:=I.kt
structure PF(X:Cx) (scope:Scope) (capN:List Str) (caps:List Nat):Prop where
 at':∀(k:Nat)(y:Str),capN[k]?=some y->∃j:Nat,caps[k]?=some j/\X.N[j]?=some y
 out:∀y∈capN,X.env.kindOf y=some .cell\/X.env.kindOf y=some .free
 uv:∀y∈capN,scope.names.lookup y=some .free
 len:caps.length=capN.length
def iu(σ:St)(caps:List Nat):St:=caps.map λj=>(σ[j]?).join
def CG(I:L2.Inv X ac σ H s)(hkind:scope.kind=.function)(hcell:∀y∈scope.names,y.2≠.cell)(hcl:∀y c,cl.lookup y=some c->X.env.cells.lookup y=some c)(hhas:∀x∈scope.names,x.2=.free->∃c,cl.lookup x.1=some c)
 (hC:s.heap.objs.size<=C) (hex:∀b∈ex,kg X ac H b/\b<s.heap.objs.size) (hc:PF X scope capN caps) (kp:∀b o,s.heap.get? b=some o->h4.get? b=some o) (ns:h4.Ns C m4) :
 L2.Inv (aS X scope (tN++capN) cl C s H ex) [] (List.replicate tN.length none++iu σ caps) H {s with heap:=h4,toks:=tk} where
 ok:=Ge I hkind hcell hcl hhas hC hex
 os:=rfl
 bare:=I.bare
 base:=Un.kept kp
 loc:=by
  refine⟨m4,ns,λi y v e1 e2 e3=>?_⟩;by_cases hlt:i<tN.length
  .rw[UR (by simpa using hlt),Wz]at e2;rw[Tt hlt]at e2;cases e2
  .obtain⟨k,rfl⟩ : ∃k,i=tN.length+k:=⟨i-tN.length,by lia⟩;have e1:capN[k]?=some y:=by
    have e1:(tN++capN)[tN.length+k]?=some y:=e1
    rwa [UL (by lia),Vu]at e1
   have e2:(iu σ caps)[k]?=some (some v):=by
    rwa [UL (by simp),V2,Vu]at e2
   obtain⟨j,ej,eN⟩:=hc.at' k y e1;have e4:σ[j]?=some (some v):=by
    unfold iu at e2;rw[TL,ej]at e2;have e2:(σ[j]?).join=some v:=by simpa using e2
    cases q:σ[j]? with
    |none=>rw[q]at e2;cases e2
    |some o=>rw[q]at e2;cases o with
     |none=>cases e2
     |some w=>cases e2;rfl
   have hm:=T5 e1;obtain⟨m,hn,hl⟩:=I.loc;have hout:=hc.out y hm;obtain⟨u,r,l⟩:=hl j y v eN e4 (.inr hout);refine⟨u,r,.inr ⟨s_ (hc.uv y hm),?_⟩⟩;obtain⟨c,hcl2⟩:=hhas (y,.free) (Vf (hc.uv y hm)) rfl;refine⟨c,hcl2,?_⟩;rcases l with⟨l,_⟩|⟨_,c',e5,z⟩
   .rcases hout with h|h<;>(rw[h]at l;cases l)
   .have:=hcl y c hcl2;rw[e5]at this;cases this;obtain⟨o,ho,hd⟩:=z;exact⟨o,kp _ o ho,hd⟩
 cell:=λy c e=>by obtain⟨v,o,ho,hd⟩:=I.cell y c (hcl y c e);exact⟨v,o,kp _ o ho,hd⟩
 free:=I.aW.fresh hC
 ig:=λy c e=>I.ig y c (hcl y c e)
 pin:=λp hp=>absurd (show p∈([]:List (Addr×Obj))from hp) (by simp)
 aW:=I.aW.kept kp
 len:=by simp[aS,iu,hc.len]
def Ag(I:L2.Inv X ac σ H s)(c:X'=aS X scope N cl C s H ex)(d:s.heap.objs.size<=C)(hex:∀b∈ex,kg X ac H b/\b<s.heap.objs.size)
 (a:L2.Inv X' pl σ' H' s'):L2.Inv X ac σ H' s'/\kg X ac H' C:=by
 subst c;refine⟨I.PN (ch:=ex) a.os a.base a.aW a.bare λb hb=>?_,I.qI d a.free⟩;obtain⟨_,h2,h,e,f,g⟩:=(hex b hb).1;exact⟨e,h2,f,g⟩
def y8(I:L2.Inv X ac σ H s)(a:kg X ac H C)(c:Heap.SameBut C s.heap h'):L2.Inv X ac σ H {s with heap:=h'}:=I.turned (t':=s.toks) (it:=C) (λb o hb e=>(c.2 b hb).trans e) a.1 a.2.1 a.2.2.2.1 a.2.2.2.2.1 a.2.2.2.2.2
end
section
def Im(X:Cx)(a:List Expr)(b:TT):Prop:=∀(ac:List (Addr×Obj))(s:Xo)(σ:St)(H:Hp)(Q:Bool->Hp->Prop),L2.Inv X ac σ H s->b σ H Q->
 wpAny (model X.prog X.w) X.A (forIn a true λc r=>if r=true then do let ok <- isTrue c X.env (eval c X.env);pure (ForInStep.yield ok)else pure (ForInStep.yield r)) (TP X ac σ Q) X.xe s
def iz:Im X [] (λ_ H Q=>Q true H):=λ_ _ σ H Q I q=>wpAny_tests_nil ⟨H,I,q⟩
def y9(h:PT X c tt):Im X [c] tt:=λac s σ H Q I q=>wpAny_tests_one (h ac s σ H Q I q)
def Ah(l:X'=aS X scope (tN++capN) cl C s3 H3 fp)(T:Turn X.prog X.w X.K tg J fp it tn)(p:X.calm=true)
 (I4:L2.Inv X' [] (List.replicate tN.length none++c) H3 s4) (bC:X'.N.length=tN.length+c.length) (st4:tn 0 s4.heap) (hf:∀b∈fp,kg X' [] H3 b)
 (hg:PG X' tg gt) (ht:Im X' ifs tt) (he:PE X' elt te)
   (W:Nat->Nat->List V->Hp->Prop) (Fin:List V->Hp->Prop) (w0:∃m,W 0 m [] H3)
   (turn:∀i m a H,W i m a H->H Dl=some (.lst a)/\((J.stop i H/\Fin a H)\/(J.go i H/\∀G H' o,J.A_ i H G H'->o.length=tN.length->gt G (o++c) H' λq H1=>(∀j:Nat,tN.length<=j->q[j]?=(o++c)[j]?)/\tt q H1 λb H2=>if b=true then
     te q H2 λy g=>g Dl=some (.lst a)/\a.length<sizeLine/\∃m',m'<m/\W (i+1) m' (a++[y]) (upd g Dl (.lst (a++[y])))else ∃m',m'<m/\W (i+1) m' a H2)))
   (R:Result->Xo->Prop) (hR:∀σ' H' a t,L2.Inv X' [] σ' H' t->H' Dl=some (.lst a)->Fin a H'->R (.ok .next) t) :
   codeAny (model X.prog X.w) X.A (.compLoop (.ListComp elt [⟨tg,iter,ifs,0⟩] scope pos) 0 (.ref it) (.ref Dl) (compEnvC scope cl C X.env)) R s4:=by
  obtain⟨m0,w0⟩:=w0;have D:X'.A=X.A:=by rw[l];rfl
  have E:X'.prog=X.prog:=by rw[l];rfl
  have F:X'.w=X.w:=by rw[l];rfl
  have eK:X'.K=X.K:=by rw[l];rfl
  have eE:X'.env=compEnvC scope cl C X.env:=by rw[l];rfl
  have Y:X'.xe=λ_ _=>False:=by rw[l];rfl
  have eC:X'.calm=true:=by rw[l];exact p
  have f:∀{H':Hp},(∀b∈fp,H' b=none)->∀b∈fp,kg X' [] H' b:=λhn b hb=>⟨hn b hb,(hf b hb).2⟩;refine codeAny_loop rfl (λn s=>∃i o a H,L2.Inv X' [] (o++c) H s/\o.length=tN.length/\tn i s.heap/\(∀b∈fp,H b=none)/\W i n a H) ?_ m0 ⟨0,List.replicate tN.length none,[],H3,I4,by simp,st4,λb hb=>(hf b hb).1,w0⟩;rintro n s5 ⟨i,o,a,g,I5,lo,I,L,w5⟩;show wpAny _ X.A ((compTurn (.ListComp elt [⟨tg,iter,ifs,0⟩] scope pos) 0 (.ref it) (.ref Dl) (compEnvC scope cl C X.env)).onRaise (λx=>do noteFrame x (compEnvC scope cl C X.env);theTreesLotGoes x)) _ _ s5;refine wpAny_noted ?_;rw[compTurn_list];obtain⟨hD,alt⟩:=turn i n a g w5;rcases alt with⟨stop,fin⟩|⟨go,step⟩
  .refine KE (wpAny_standAt (KE (Vd (D▸T.done X' E F eK eC i [] s5 _ g _ I5 (f L) I stop) (λr s6 ⟨hr,I6⟩=>?_) λ_ _ z=>z)));subst hr;exact Tl (hR _ g a s6 I6 hD fin)
  .refine KE (wpAny_standAt (KE (Vd (D▸T.item X' E F eK eC i [] s5 _ g _ I5 (f L) I go) (λr s6 ⟨u,hr,h6⟩=>?_) λ_ _ z=>z)));subst hr;refine KE (Vd h6 (λ_ s7 ⟨G,H7,I7,r7,y7,B,fr7⟩=>?_) λ_ _ z=>z);have I7':=I7.pinned (f fr7) (T.obj _ _ B);have M:=hg _ s7 _ H7 G u _ I7' r7 (step G H7 o y7 lo);rw[E,F,D,eE,Y]at M;refine KE (Vd M (λ_ s8 ⟨h,H8,I8,shp,q8⟩=>?_) λ_ _ z=>z.elim);obtain⟨k,O,eσ⟩ : ∃k:St,k.length=tN.length/\h=k++c:=by
    have l8:h.length=tN.length+c.length:=I8.len.trans bC;refine⟨h.take tN.length,by rw[Uz];lia,?_⟩;have ed:h.drop tN.length=c:=by
     apply VM
     intro j;rw[List.getElem?_drop,shp (tN.length+j) (by lia),UL (by lia),lo,Vu]
    rw[<- ed,Vn]
   subst eσ;have P:=ht _ s8 _ H8 _ I8 q8;rw[E,F,D,eE,Y]at P;refine KE (Vd P (λok s9 ⟨Z,I9,q9⟩=>?_) λ_ _ z=>z.elim);have again:∀{t:Xo}{H':Hp},L2.Inv X' ([]++om fp s7.heap) (k++c) H' t->L2.Inv X' [] (k++c) H' t/\tn (i+1) t.heap/\∀b∈fp,H' b=none:=λ{t H'} J'=>by refine⟨J'.lY,T.keep _ _ _ B λb hb ob e=>(J'.pin (b,ob) (Ub _ (Ub _ (ii hb e)))).1,λb hb=>?_⟩;obtain⟨ob,e,d⟩:=T.obj _ _ B b hb;exact(J'.pin (b,ob) (Ub _ (Ub _ (ii hb e)))).2.1
   cases ok with
   |false=>obtain⟨m',hm,w9⟩:=(show ∃m',m'<n/\W (i+1) m' a Z from by simpa using q9);obtain⟨a1,a2,a3⟩:=again I9;exact Tl ⟨rfl,m',hm,i+1,k,a,Z,a1,O,a2,a3,w9⟩
   |true=>
    have q9:te (k++c) Z λy g=>g Dl=some (.lst a)/\a.length<sizeLine/\∃m',m'<n/\W (i+1) m' (a++[y]) (upd g Dl (.lst (a++[y]))):=by simpa using q9
    have Q:=he _ s9 _ Z _ I9 q9;rw[E,F,D,eE,Y]at Q;refine KE (KE (Vd Q (λv s10 ⟨y,S,I10,ry,eD,hl,m',hm,w10⟩=>?_) λ_ _ z=>z.elim));have U:=cL (X:=X') _ s10 _ S (.ref Dl) [y] (.ref Dl) [v] (λw H'=>w=.bp/\H'=upd S Dl (.lst (a++[y]))) I10 rfl (.cons ry .nil) ⟨Dl,a,y,rfl,rfl,eD,hl,rfl,rfl⟩;rw[E,F,D,Y]at U;refine KE (Vd U (λ_ s11 ⟨w,H11,I11,_,_,eH⟩=>?_) λ_ _ z=>z.elim);subst eH;obtain⟨a1,a2,a3⟩:=again I11;exact Tl (Tl ⟨rfl,m',hm,i+1,k,a++[y],_,a1,O,a2,a3,w10⟩)
end
structure b5(X:Cx) (scope:Scope) (tN:List Str) (capN:List Str) (caps:List Nat):Prop where
 kind:scope.kind=.function
 I0:∀y∈scope.names,y.2≠.cell
 names:∀y∈scope.names,y.2=.local->scope.names.lookup y.1=some .local
 own:∀x∈tN,scope.names.lookup x=some .local
 free:∀y∈scope.names,y.2=.free->X.env.kindOf y.1=some .cell\/X.env.kindOf y.1=some .free
 cap:PF X scope capN caps
 nd:(tN++capN).Nodup
section
def b9(X:Cx)(scope:Scope)(tg:Expr)(tN:List Str)(capN:List Str)(caps:List Nat)(elt:Expr)(f:List Expr)(σ:St)(Fin:Addr->List V->Hp->Prop)(J:It)(d:Hp):Prop:=
 ∀(c:Addr),d c=none->∀(cl:List (Str×Addr))(C:Addr)(g:Xo)(fp:List Addr),∃(gt:TG)(h:TT)(te:TE)(W:Nat->Nat->List V->Hp->Prop),
  PG (aS X scope (tN++capN) cl C g (upd d c (.lst [])) fp) tg gt/\Im (aS X scope (tN++capN) cl C g (upd d c (.lst [])) fp) f h/\PE (aS X scope (tN++capN) cl C g (upd d c (.lst [])) fp) elt te/\(∃m,W 0 m [] (upd d c (.lst [])))/\
  ∀i m a H,W i m a H->H c=some (.lst a)/\((J.stop i H/\Fin c a H)\/(J.go i H/\∀k H' (o:St),J.A_ i H k H'->o.length=tN.length->gt k (o++iu σ caps) H' λe n=>(∀j:Nat,tN.length<=j->e[j]?=(o++iu σ caps)[j]?)/\h e n λb d=>if b=true then
   te e d λy l=>l c=some (.lst a)/\a.length<sizeLine/\∃m',m'<m/\W (i+1) m' (a++[y]) (upd l c (.lst (a++[y])))else ∃m',m'<m/\W (i+1) m' a d))
def rB{use:Option (Xr->Sem Unit)}{Qv:Xr->Xo->Prop}{Fin:Addr->List V->Hp->Prop}(hc:X.calm=true)(S:b5 X scope tN capN caps)(I:L2.Inv X ac σ H s)(hi:PI X tg iter wi)
 (h:wi σ H (b9 X scope tg tN capN caps elt ifs σ Fin))
 (hu:∀(K C:Addr)(j:List V)(H':Hp)(n:Xo),L2.Inv X ac σ H' n->kg X ac H' C->H' K=some (.lst j)->Fin K j H'->(∃m,n.heap.Ns C m)->compPost (model X.prog X.w) X.A X.xe use Qv (.ref K) C (.ok .next) n)
 (hs:autoParam (∀x,foldedSetIterable iter X.env x=pure x) az) :
 wX X (comprehension (.ListComp elt [⟨tg,iter,ifs,0⟩] scope pos) scope X.env (firstIterPos [⟨tg,iter,ifs,0⟩] pos) (newList []) false (eval iter X.env) use) Qv X.xe s:=by
 obtain⟨cl,L,q,r⟩:=qA (scope:=scope) (env:=X.env) λy M hf=>I.ok.has y.1 (S.free y M hf);refine wpAny_comprehension_free rfl hs L S.kind S.names (cj (hi ac s σ H _ I h) λv s1 h1=>cj h1 λitv s2 h2=>?_);obtain⟨it,fp,tn,J,k,rfl,R,T,t,U,B⟩:=h2;refine Uo (wpAny_newFunctionEnv S.I0 (by intro y M;simp at M) (λa d g=>?_) S.kind);dsimp only at d g ⊢;have hD:k s2.heap.objs.size=none:=R.aW.fresh (To _);have G:L2.Inv X ac σ (upd k s2.heap.objs.size (.lst [])) { s2 with heap:=s2.heap.push { cls:=.type "list",dict:=none,data:=.seq ([]:List Xr).toArray } }:=R.laid (t':=s2.toks) (λb u e=>Tn _ e) (To _) ⟨T2 _,[],0,.nil,Tv _ rfl⟩;generalize D:({ s2 with heap:=s2.heap.push { cls:=.type "list",dict:=none,data:=.seq ([]:List Xr).toArray } }:Xo)=i at G;have e3:s2.heap.push { cls:=.type "list",dict:=none,data:=.seq ([]:List Xr).toArray }=i.heap:=by rw[<- D]
 rw[e3]at d g ⊢;have kp:∀b o,i.heap.get? b=some o->a.get? b=some o:=λb o e=>g.extBut b o (T1 (TF e)) (Tn _ e);have E:∀b o,s2.heap.get? b=some o->i.heap.get? b=some o:=λb o e=>by rw[<- e3];exact Tn _ e
 have hex:∀b∈fp,kg X ac (upd k s2.heap.objs.size (.lst [])) b/\b<i.heap.objs.size:=λb hb=>by obtain⟨o,Y,_⟩:=T.obj 0 _ t b hb;have l:b<s2.heap.objs.size:=TF Y;refine⟨⟨?_,(U b hb).2⟩,TF (E b o Y)⟩;rw[ag (T1 l)];exact(U b hb).1
 have es:({s2 with heap:=a,toks:=s2.toks+([]:List (Str×Xr)).length}:Xo)={i with heap:=a,toks:=s2.toks+([]:List (Str×Xr)).length}:=by rw[<- D]
 have I4:L2.Inv (aS X scope (tN++capN) cl i.heap.objs.size i (upd k s2.heap.objs.size (.lst [])) fp) [] (List.replicate tN.length none++iu σ caps) (upd k s2.heap.objs.size (.lst [])) {i with heap:=a,toks:=s2.toks+([]:List (Str×Xr)).length}:=CG G S.kind S.I0 q r (To _) hex S.cap kp d;obtain⟨gt,tt,te,W,hg,ht,he,w0,turn⟩:=B s2.heap.objs.size hD cl i.heap.objs.size i fp;have F:tn 0 a:=T.keep 0 _ _ t λb hb o e=>kp b o (E b o e);have f4:∀b∈fp,kg (aS X scope (tN++capN) cl i.heap.objs.size i (upd k s2.heap.objs.size (.lst [])) fp) [] (upd k s2.heap.objs.size (.lst [])) b:=λb hb=>by
  obtain⟨f,l⟩:=hex b hb;refine⟨f.1,T1 l,λN=>?_,.inl hb,λy c e=>f.2.2.2.2.1 y c (q y c e),λp hp=>absurd (show p∈([]:List (Addr×Obj))from hp) (by simp)⟩;rcases Tz.mp (G.uf b N)with z|z
  .exact f.2.1 z
  .exact f.2.2.1 z
 have loop:codeAny (model X.prog X.w) X.A (.compLoop (.ListComp elt [⟨tg,iter,ifs,0⟩] scope pos) 0 (.ref it) (.ref s2.heap.objs.size) (compEnvC scope cl i.heap.objs.size X.env)) (compPost (model X.prog X.w) X.A X.xe use Qv (.ref s2.heap.objs.size) i.heap.objs.size)
  {i with heap:=a,toks:=s2.toks+([]:List (Str×Xr)).length}:=by
  refine Ah rfl T hc I4 (by show(tN++capN).length=_;simp[iu,S.cap.len]) F f4 hg ht he W (Fin s2.heap.objs.size) w0 turn _ λσ' H' j n Z O P=>?_;obtain⟨Io,fo⟩:=Ag G rfl (To _) hex Z;obtain⟨m',Q,_⟩:=Z.loc;exact hu _ _ j H' n Io fo O P ⟨m',Q⟩
 rw[es];exact codeAny_compStart_list loop (T.self _ 0 _ _ _ F loop)
def o8(hc:X.calm=true)(S:b5 X scope tN capN caps)(I:L2.Inv X ac σ H s)(d:PI X tg iter wi)(h:wi σ H (b9 X scope tg tN capN caps elt ifs σ λa _ H'=>Q (.ref a) H'))
 (e:autoParam (∀x,foldedSetIterable iter X.env x=pure x) az):wX X (eval (.ListComp elt [⟨tg,iter,ifs,0⟩] scope pos) X.env) (EP X ac σ Q) X.xe s:=by
 rw[eval_ListComp];refine rB (use:=none) hc S I d h (λa C f H' j g fo hD b c=>?_) e;obtain⟨m,c⟩:=c;exact⟨m,c,λh' i=>⟨.ref a,H',y8 g fo i,rfl,b⟩⟩
def u_{D:Ends}{i:Nat}(hc:X.calm=true)(S:b5 X scope tN capN caps)(p:X.N.Nodup)(c:X.N[i]?=some y)(o:X.env.scope.names.lookup y=some .local)
 (d:swapsWith (.ListComp elt [⟨tg,iter,ifs,0⟩] scope pos) (some (.Name y py)) spos.line X.env=pure true) (I:L2.Inv X ac σ H s) (q:PI X tg iter wi)
 (h:wi σ H (b9 X scope tg tN capN caps elt ifs σ λb _ H'=>D.nx (σ.set i (some (.ref b))) H')) (r:autoParam (∀x,foldedSetIterable iter X.env x=pure x) az) :
 wX X (exec (.Assign [.Name y py] (.ListComp elt [⟨tg,iter,ifs,0⟩] scope pos) spos) X.env) (SP X ac D) X.xe s:=by
 rw[exec_Assign_Name_used _ _ _ _ d];refine KE (wpAny_standAt (KE ?_));show wpAny _ X.A (do let _ <- comprehension (.ListComp elt [⟨tg,iter,ifs,0⟩] scope pos) scope X.env _ (newList []) false (eval iter X.env) (some (assign (.Name y py) X.env))) _ _ s;refine KE (Vd (rB (use:=some (assign (.Name y py) X.env)) (Qv:=λ_ f=>SP X ac D .next f) hc S I q h (λb C t H' f u fo hD g j=>?_) r) (λ_ f w=>Tl (Tl w)) λ_ _ e=>e);obtain⟨m,j⟩:=j;show wpAny _ X.A (assign (.Name y py) X.env (.ref b)) _ _ _;refine wpAny_assign_Name (qL (v:=.ref b) u p c (.inl o) rfl (λB k ⟨a,E,ha⟩=>?_) (.inr o));have l:C≠a:=by
  rcases ha with z|z
  .rw[z];exact fo.2.1
  .exact UD (fo.2.2.2.2.1 y a z)
 refine⟨m,j.sameBut E l,λh' n=>?_⟩;exact⟨_,H',y8 k fo n,g⟩
end
def Res.SF{α:Type}:Res α->Res α
 |.exc _=>.stuck
 |r=>r
def Gf(env:En)(j:Nat):Option Sl:=match env[j]? with
 |some (some (.val d fr))=>some (.val d fr)
 |some (some (.own ds fr))=>some (.val (.lst ds) fr)
 |some (some (.sj d))=>some (.val d true)
 |_=>none
def jf(env:En)(n:Nat)(caps:List Nat):En:=List.replicate n none++caps.map (Gf env)
def dY(mk:D->Option En)(test:En->Res Bool)(elt:En->Res R):List D->Res (List R)
 |[]=>.ok []
 |x::xs=>match mk x with
  |none=>.stuck
  |some e=>(test e).bind λb=>if b then(elt e).bind λr=>(dY mk test elt xs).bind λrs=>.ok (r::rs)else dY mk test elt xs
def o9(n:Nat)(caps:List Nat)(a:En->Res Src)(asg:D->Bool->En->Option En)(test:En->Res Bool)(elt:En->Res R):En->Res R:=λenv=>(a env).bind λs=>if s.xs.length<=lim then
 (dY (λd=>asg d s.fr (jf env n caps)) test elt s.xs).SF.bind λrs=>.ok (mG (rs.map R.d) (bS rs) (s.al++caps.filter (fU env)))else .stuck
def vc(X:Cx)(E:XK)(a:List Expr)(f:En->Res Bool):Prop:=∃t,Im X a t/\SndT X.mg E t f
section
def ve:vc X E [] (λ_=>.ok true):=⟨_,iz,λg M b env σ H Q a p=>p M H (Ext.refl _ _) a⟩
def CH(h:F3 X E c f):vc X E [c] f:=let ⟨t,a,b⟩:=h;⟨t,y9 a,b⟩
end
section
variable{M1:Addr->Prop}
def Nj(rep:Rep g M1 ρ env σ H1)(s:Same H1 H)(ho:o.length=n)(hM:∀a,(M1 a\/∃i,i∈caps/\ρ i a)->M' a)(hf:∀a,M' a->H a≠none)(hi:∀a,M' a->g.H₀ a=none\/g.Ma a)(hfl:∀a,M' a->g.H₀ a=none->MuZ g H a) :
 Rep g M' (λ_ _=>False) (jf env n caps) (o++iu σ caps) H where
 same:=rep.same.trans s
 jk:=hf
 uv:=hi
 fl:=hfl
 slot:=λi sl e=>by
  by_cases hlt:i<n
  .unfold jf at e;rw[UR (by simpa using hlt),Wz,Tt hlt]at e;cases e
  .obtain⟨k,rfl⟩ : ∃k,i=n+k:=⟨i-n,by lia⟩;have e:(caps.map (Gf env))[k]?=some (some sl):=by
    unfold jf at e
    rwa [UL (by simp),V2,Vu]at e
   rw[TL]at e;cases q:caps[k]? with
   |none=>rw[q]at e;cases e
   |some j=>
    rw[q]at e;have e:Gf env j=some sl:=by simpa using e
    have hj:j∈caps:=T5 q;unfold Gf at e;cases q2:env[j]? with
    |none=>rw[q2]at e;cases e
    |some o=>
     cases o with
     |none=>rw[q2]at e;cases e
     |some sl0=>
      obtain⟨v,ev,k2⟩:=rep.slot j sl0 q2;have el:(o++iu σ caps)[n+k]?=some (some v):=by rw[UL (by lia),ho,Vu];unfold iu;rw[TL,q];simp[ev]
      rw[q2]at e;cases sl0 with
      |val d' fr'=>cases e;exact⟨v,el,Is.mono (λa o q _=>s a o q) (λa _ _ z=>⟨hM a (.inl z.1),z.2⟩) k2⟩
      |own ds' fr'=>cases e;obtain⟨a,vs,rfl,h1,h2,h4⟩:=k2;have ha:=(h2 a).mpr rfl;exact⟨_,el,a,vs,rfl,.inl ⟨s _ _ h1,hM a (.inr ⟨j,hj,ha⟩),λ_=>(rep.cb j a ha).2.1⟩,IsAll.mono (λa o q _=>s a o q) (λa _ _ z=>⟨hM a (.inl z.1),z.2⟩) h4⟩
      |sj d'=>cases e;exact⟨v,el,Is.mono (λa o q _=>s a o q) (λa _ _ z=>⟨hM a (.inr ⟨j,hj,z⟩),λ_=>(rep.cb j a z).2.1⟩) k2⟩
      |Bl d'=>cases e
 cb:=λ_ _ z=>z.elim
 apart:=λ_ _ _ z=>z.elim
 ow:=λ_ _ z=>z.elim
 len:=by simp[jf,iu,ho]
 zz:=λa z e=>rep.zz a z (s.free e)
end
def gw(X:Cx)(scope:Scope)(tg:Expr)(tN:List Str)(capN:List Str)(caps:List Nat)(elt:Expr)(a:List Expr)(b:TI):TE:=λσ H Q=>b σ H (b9 X scope tg tN capN caps elt a σ λc _ H'=>Q (.ref c) H')
structure CI(g:Gd) (M:Addr->Prop) (H1:Hp) (Dl:Addr) (C:Nat->List R->Prop) (full:List R) (i:Nat) (acc:List V) (H:Hp) (M':Addr->Prop) (rs rest:List R):Prop where
 sm:Same H1 H
 hD:H Dl=some (.lst acc)
 mi:∀a,M a->M' a
 mo:∀a,M' a->M a\/H1 a=none
 nD:¬M' Dl
 fz:∀a,M' a->H a≠none
 fl:∀a,M' a->g.H₀ a=none->MuZ g H a
 rl:rs.length<=i
 is:IsAll H (fj g M' (bS rs)) (rs.map R.d) acc
 qr:C i rest
 ef:full=rs++rest
section
def mJ{M1:Addr->Prop}{A:Hp}{Q:VK}{J:It}{s:Src}{v:List R}(hix:∀j∈ix,j<tN.length)(hg:∀cl C P I fp,EW (aS X scope (tN++capN) cl C P I fp) ix tg asg)(ht:∀cl C P I fp,vc (aS X scope (tN++capN) cl C P I fp) E0 ifs ft)(he:∀cl C P I fp,PD (aS X scope (tN++capN) cl C P I fp) E0 elt fe)(f:Rep g M1 ρ env σ A)(wk:Walk J (vmsk g M1 s.fr ρ s.al) A s.xs)(hlim:s.xs.length<=lim)(qc:dY (λd=>asg d s.fr (jf env tN.length caps)) ft fe s.xs=.ok v)
 (p:PostE X.mg E g M1 ρ env σ A Q (.ok (mG (v.map R.d) (bS v) (s.al++caps.filter (fU env))))):b9 X scope tg tN capN caps elt ifs σ (λl _ H'=>Q (.ref l) H') J A:=by
 intro l u cl C P fp;obtain⟨gt,pg,sg⟩:=hg cl C P (upd A l (.lst [])) fp;obtain⟨tt,pt,st⟩:=ht cl C P (upd A l (.lst [])) fp;obtain⟨te,pe,se⟩:=he cl C P (upd A l (.lst [])) fp;obtain⟨d0,dm,S⟩:=f.free u;refine⟨gt,tt,te,λi m t H=>m=s.xs.length-i/\i<=s.xs.length/\∃(F:Addr->Prop)(rs rest:List R),CI g (λa=>M1 a\/∃j,j∈s.al++caps/\ρ j a) A l (λi rest=>dY (λd=>asg d s.fr (jf env tN.length caps)) ft fe (s.xs.drop i)=.ok rest) v i t H F rs rest,
  pg,pt,pe,⟨_,rfl,T2 _,(λa=>M1 a\/∃j,j∈s.al++caps/\ρ j a),[],v,ao u,af,λ_ z=>z,λ_ z=>.inl z,?_,?_,?_,To _,rfl,qc,rfl⟩,?_⟩
 .rintro (z|⟨j,_,z⟩)
  .exact dm z
  .exact S j z
 .rintro a (z|⟨j,_,z⟩) hn
  .exact f.jk a z ((ao u).free hn)
  .obtain⟨_,_,uo,hz,_⟩:=f.cb j a z;rw[(ao u) a _ hz]at hn;cases hn
 .rintro a (z|⟨j,_,z⟩) h0
  .exact(f.fl a z h0).same λo e=>ao u _ _ e
  .exact .inl ((f.cb j a z).2.2.same λo e=>ao u _ _ e)
 .rintro i m t K ⟨rfl,hle,F,rs,rest,sm,B,L,M,nD,W,T,hrs,G,qr,x⟩;refine⟨B,?_⟩;have kp:∀a o,A a=some o->(vmsk g M1 s.fr ρ s.al a\/jA o)->K a=some o:=λa o e _=>sm a o e;have inn2:∀{M'':Addr->Prop}{a:Addr},(M1 a\/∃j,j∈s.al++caps/\ρ j a)\/A a=none->g.H₀ a=none\/g.Ma a:=λ{M'' a} z=>by
   rcases z with(z|⟨j,_,z⟩)|z
   .exact f.uv a z
   .exact .inl (f.cb j _ z).2.1
   .exact .inl (f.same.free z)
  by_cases U:i<s.xs.length
  .have ed:s.xs[i]?=some s.xs[i]:=by simp[U]
   obtain⟨go,yl⟩:=wk.go K i _ kp ed;refine .inr ⟨go,λxv I o y lo=>?_⟩;obtain⟨k,isx⟩:=yl xv I y;have edrop:s.xs.drop i=s.xs[i]::s.xs.drop (i+1):=Wd U;rw[edrop]at qr;unfold dY at qr;have isx':Is I (fj g F s.fr) s.xs[i] xv:=isx.weak λa z=>by
    rcases z with z|⟨j,hj,z⟩
    .exact⟨L a (.inl z.1),z.2⟩
    .exact⟨L a (.inr ⟨j,by simp[hj],z⟩),λ_=>(f.cb j _ z).2.1⟩
   have repI:Rep g F (λ_ _=>False) (jf env tN.length caps) (o++iu σ caps) I:=Nj f (sm.trans k) lo (λa z=>L a (z.imp id λ⟨j,hj,w⟩=>⟨j,by simp[hj],w⟩)) (λa z hn=>W a z (k.free hn)) (λa z=>inn2 (M'':=F) (M a z)) (λa z h0=>(T a z h0).same λo e=>k _ _ e);cases qa:asg s.xs[i] s.fr (jf env tN.length caps)with
   |none=>simp only[qa]at qr;cases qr
   |some N=>
   simp only[qa]at qr;refine sg g F _ _ N _ I _ s.fr xv _ repI isx' qa λσ2 ρ2 repT shp nρ=>⟨λj hj=>shp j λz=>absurd (hix j z) (by lia),?_⟩;refine st g F ρ2 _ _ I _ repT ?_;cases qt:ft N with
   |stuck=>rw[qt]at qr;cases qr
   |exc c=>rw[qt]at qr;cases qr
   |ok b=>
    rw[qt]at qr;intro M4 H4 e4 Y;cases b with
    |false=>refine gk ⟨s.xs.length-(i+1),by lia,rfl,U,F,rs,rest,(sm.trans k).trans e4.h,e4.h _ _ (k _ _ B),L,M,nD,λa z hn=>W a z (k.free (e4.h.free hn)),λa z h0=>(T a z h0).same λo e=>e4.h _ _ (k _ _ e),by lia,?_,by simpa using qr,x⟩;exact IsAll.same e4.h (IsAll.same k G)
    |true=>
     refine mB ?_;simp only[Res.kf,VW]at qr;refine se g M4 ρ2 _ _ H4 _ Y ?_;cases qe:fe N with
     |stuck=>rw[qe]at qr;cases qr
     |exc c=>rw[qe]at qr;cases qr
     |ok r=>
      rw[qe]at qr;simp only[Res.kf]at qr;cases qd:dY (λd=>asg d s.fr (jf env tN.length caps)) ft fe (s.xs.drop (i+1))with
      |stuck=>rw[qd]at qr;cases qr
      |exc c=>rw[qd]at qr;cases qr
      |ok O=>
       rw[qd]at qr;have qr:r::O=rest:=by simpa using qr
       intro yv M5 H5 e5 rep5 ro;obtain⟨M6,e6,m56,Z,is6⟩:=ro.is rep5 e5 Y.same;have D3:I l=some (.lst t):=k _ _ B;have D4:H4 l=some (.lst t):=e4.h _ _ D3;have D5:H5 l=some (.lst t):=e5.h _ _ D4;have nD4:¬M4 l:=λz=>(e4.n l z).elim nD λw=>by rw[D3]at w;cases w
       have nD6:¬M6 l:=λz=>(e6.n l z).elim nD4 λw=>by rw[D4]at w;cases w
       have M46:∀a,M4 a->M6 a:=e6.m;have up:∀a o,H5 a=some o->a≠l->upd H5 l (.lst (t++[yv])) a=some o:=λa o e n=>by rw[ag n];exact e
       have kp5:∀(fr:Bool) a o,H5 a=some o->(fj g M6 fr a\/jA o)->upd H5 l (.lst (t++[yv])) a=some o:=λfr a o e z=>up a o e λw=>by
        subst w;rcases z with z|z
        .exact nD6 z.1
        .rw[D5]at e;cases e;exact z
       refine⟨D5,?_,s.xs.length-(i+1),by lia,rfl,U,M6,rs++[r],O,?_,af,λa z=>M46 a (e4.m a (L a z)),λa z=>?_,nD6,λa z=>?_,λa z h0=>?_,by simp;lia,?_,qd,by rw[x,<- qr];simp⟩
       .have:t.length=rs.length:=by rw[G.length,Tp]
        exact Cp (by lia)
       .intro b o e;exact up b o (e5.h _ _ (e4.h _ _ (k _ _ (sm _ _ e)))) (aj e u)
       .rcases e6.n a z with z|z
        .rcases e4.n a z with z|z
         .exact M a z
         .exact .inr (sm.free (k.free z))
        .exact .inr (sm.free (k.free (e4.h.free z)))
       .by_cases hw:a=l
        .rw[hw,af];simp
        .rw[ag hw];exact Z.jk a z
       .have hw:a≠l:=λe=>nD6 (e▸z);exact(Z.fl a z h0).same λo e=>by rw[ag hw];exact e
       .rw[Ua];refine IsAll.append ?_ ⟨yv,[],rfl,?_,rfl⟩
        .have i5:IsAll H5 (fj g F (bS rs)) (rs.map R.d) t:=((G.same k).same e4.h).same e5.h;refine(i5.weak λa z=>(⟨M46 a (e4.m a z.1),λe=>z.2 (by simp[bS]at e ⊢;exact e.1)⟩ : fj g M6 (bS (rs++[r])) a)).mono (kp5 _) λ_ _ _ z=>z
        .refine(is6.weak λa z=>?_:Is H5 (fj g M6 (bS (rs++[r]))) r.d yv).mono (kp5 _) λ_ _ _ z=>z;rcases z with z|⟨j,_,z⟩
         .exact⟨z.1,λe=>z.2 (by simp[bS]at e;exact e.2)⟩
         .exact(nρ _ _ z).elim
  .have ei:i=s.xs.length:=by lia
   subst ei;refine .inl ⟨wk.stop K kp,?_⟩;rw[List.drop_length]at qr;unfold dY at qr;cases qr;rw[UE]at x;subst x;have RM:Rep g (λa=>M1 a\/(nl A K a/\F a)) ρ env σ K:=f.came sm F;have XM:Ext M1 A (λa=>M1 a\/(nl A K a/\F a)) K:=⟨λ_=>.inl,sm,λ_ z=>z.imp id (·.1.1)⟩;have nDl:¬(M1 l\/(nl A K l/\F l)):=λz=>z.elim dm λz=>nD z.2;have nwD:∀b,V.ref l=.ref b->A b=none:=λb e=>by cases e;exact u
   unfold mG at p;by_cases hfl:D.bP (v.map R.d)=true
   .rw[Tt hfl]at p;exact p _ _ K XM RM ⟨l,t,rfl,B,nDl,u,S,IsAll.flat hfl G⟩
   .rw[TC hfl]at p;by_cases hal:(s.al++caps.filter (fU env)).isEmpty=true
    .rw[Tt hal]at p;refine p _ _ K XM RM ⟨l,t,rfl,B,nDl,u,S,G.weak λa z=>⟨?_,z.2⟩⟩;rcases M a z.1 with(w|⟨j,hj,w⟩)|w
     .exact .inl w
     .exfalso;have he:s.al++caps.filter (fU env)=[]:=by simpa using hal
      rcases T4.mp hj with hj|hj
      .have:j∈s.al++caps.filter (fU env):=Ul _ hj;rw[he]at this;simp at this
      .have:j∈s.al++caps.filter (fU env):=Ub _ (Us.mpr ⟨hj,f.ow j a w⟩);rw[he]at this;simp at this
     .exact .inr ⟨⟨w,(T a z.1 (f.same.free w)).elim id λq=>(f.zz a q.1 w).elim⟩,z.1⟩
    .rw[TC hal]at p;refine p _ (λa=>(M1 a\/(nl A K a/\F a))\/a=l) K ⟨λ_ z=>.inl (.inl z),sm,λa z=>z.elim (XM.n a) λe=>.inr (e▸u)⟩ (RM.more B d0 S) ⟨l,t,rfl,.inl ⟨B,.inl ⟨.inr rfl,λ_=>d0⟩⟩,G.weak λa z=>?_⟩;rcases M a z.1 with(w|⟨j,hj,w⟩)|w
     .exact .inl ⟨.inl (.inl w),z.2⟩
     .refine .inr ⟨j,?_,w⟩;rcases T4.mp hj with hj|hj
      .exact Ul _ hj
      .exact Ub _ (Us.mpr ⟨hj,f.ow j a w⟩)
     .exact .inl ⟨.inl (.inr ⟨⟨w,(T a z.1 (f.same.free w)).elim id λq=>(f.zz a q.1 w).elim⟩,z.1⟩),z.2⟩
def vg(o:Nh X.mg E wi src)(k:∀j∈ix,j<tN.length)(r:∀cl C e f fp,EW (aS X scope (tN++capN) cl C e f fp) ix tg asg)(t:∀cl C e f fp,vc (aS X scope (tN++capN) cl C e f fp) E0 ifs ft)(u:∀cl C e f fp,PD (aS X scope (tN++capN) cl C e f fp) E0 elt fe) :
 Snd X.mg E (gw X scope tg tN capN caps elt ifs wi) (o9 tN.length caps src asg ft fe):=by
 intro g M n env σ H Q l p;refine o g M n env σ H _ l ?_;unfold o9 at p;cases q:src env with
 |stuck=>rw[q]at p;exact p
 |exc c=>rw[q]at p;exact p
 |ok s=>
  rw[q]at p;simp only[Res.kf]at p;intro J M1 v e1 h w x m cl C e fp;by_cases a:s.xs.length<=lim
  .rw[Tt a]at p;cases i:dY (λd=>asg d s.fr (jf env tN.length caps)) ft fe s.xs with
   |stuck=>rw[i]at p;exact p.elim
   |exc c=>rw[i]at p;exact p.elim
   |ok b=>rw[i]at p;have p:PostE X.mg E g M1 n env σ v Q (.ok (mG (b.map R.d) (bS b) (s.al++caps.filter (fU env)))):=PostE.ext e1 p;exact mJ k r t u h w a i p x m cl C e fp
  .rw[TC a]at p;exact p.elim
def Gg(hc:X.calm=true)(S:b5 X scope tN capN caps)(d:My X E tg iter src)(c:∀j∈ix,j<tN.length)(e:∀cl C a b fp,EW (aS X scope (tN++capN) cl C a b fp) ix tg asg)(f:∀cl C a b fp,vc (aS X scope (tN++capN) cl C a b fp) E0 ifs ft)(g:∀cl C a b fp,PD (aS X scope (tN++capN) cl C a b fp) E0 elt fe)
 (i:autoParam (∀x,foldedSetIterable iter X.env x=pure x) az):PD X E (.ListComp elt [⟨tg,iter,ifs,0⟩] scope pos) (o9 tN.length caps src asg ft fe):=by
 obtain⟨k,p1,s1⟩:=d;exact⟨gw X scope tg tN capN caps elt ifs k,λac s σ H Q I h=>o8 hc S I p1 h i,vg s1 c e f g⟩
def CJ(hc:X.calm=true)(S:b5 X scope tN capN caps)(f:X.N.Nodup)(c:X.N[i]?=some y)(g:X.env.scope.names.lookup y=some .local)
 (k:My X E tg iter src) (d:∀j∈ix,j<tN.length) (l:∀cl C a b fp,EW (aS X scope (tN++capN) cl C a b fp) ix tg asg) (m:∀cl C a b fp,vc (aS X scope (tN++capN) cl C a b fp) E0 ifs ft) (n:∀cl C a b fp,PD (aS X scope (tN++capN) cl C a b fp) E0 elt fe)
 (e:autoParam (swapsWith (.ListComp elt [⟨tg,iter,ifs,0⟩] scope pos) (some (.Name y py)) spos.line X.env=pure true) aM) (o:autoParam (∀x,foldedSetIterable iter X.env x=pure x) az) :
 EV X E (.Assign [.Name y py] (.ListComp elt [⟨tg,iter,ifs,0⟩] scope pos) spos) (cC i (o9 tN.length caps src asg ft fe)):=by
 obtain⟨p,p1,s1⟩:=k;exact⟨dg (gw X scope tg tN capN caps elt ifs p) (ay i),λac s σ H D I h=>u_ hc S f c g e I p1 h o,yY (vg s1 d l m n)⟩
end
def kU(N:List Str)(ds:List D):En:=ds.map (λd=>some (.val d false))++List.replicate (N.length-ds.length) none
def Ip:Res Fl->Res R
 |.ok (.nx _)=>.ok (.val .bp true [])
 |.ok (.rt r)=>.ok r
 |.ok _=>.stuck
 |.exc c=>.exc c
 |.stuck=>.stuck
def jH(N:List Str)(a:En->Res Fl)(ds:List D):Res R:=Ip (a (kU N ds))
def h_:fL hV X E:=λ_ _ _ _ _ _ _ h=>h.elim
def Ai(is:IsAll H Ma ds vs):Rep (M9 H Ma) (λa=>Ma a/\H a≠none) (λ_ _=>False) (kU N ds) (L2.bO N vs) H where
 same:=Same.refl H
 jk:=λa z=>z.2
 uv:=λa z=>.inr z.1
 fl:=λa z h=>absurd h z.2
 slot:=λi sl e=>by
  have hl:=is.length;unfold kU at e;by_cases hi:i<ds.length
  .rw[UR (by simpa using hi),TL]at e;obtain⟨v,ev,iv⟩:=is.get (i:=i) (d:=ds[i]) (by simp[hi]);have e1:ds[i]?=some ds[i]:=by simp[hi]
   rw[e1]at e;cases e;refine⟨v,?_,Is.mono (λ_ _ q _=>q) (λa o q z=>⟨⟨z,by rw[q];simp⟩,λz=>by cases z⟩) iv⟩;unfold L2.bO;rw[UR (by simp;lia),TL,ev];rfl
  .rw[UL (by simpa using hi),Wz]at e;split at e<;>cases e
 cb:=λ_ _ z=>z.elim
 apart:=λ_ _ _ z=>z.elim
 ow:=λ_ _ z=>z.elim
 len:=by have hl:=is.length;unfold kU L2.bO;simp[hl]
 zz:=λ_ z=>z.elim
section
variable{P:Xq}{w:World}{K:Xp}{mg:Str->Option Xr}{base:Heap}
def gx{x qual:Str}{st:Stmt}{f:Addr}{b:En->Res Fl}(F:E8 K x qual st f fd)(S:aR N ps (aw st))
 (body:∀(cdv:Xr)(A:Xs)(outer:List Env)(s:Xo)(H:Hp)(E:XK),dj k (A.deeper (envOfC qual (aw st) s.heap.objs.size f cdv))->sW (wF hV P w K mg base N qual (aw st) f cdv A outer s H E).PH E (cM st) b) :
 bD P w K mg base hV (k+1) f fd ps (jC mg ps.length (jH N b)):=by
 refine F.ok S (λvs H Q E h=>h.1) (λcdv A outer s H vs Q E e h=>?_);obtain⟨j,ds,Ma,is,a⟩:=h;obtain⟨t,p1,s1⟩:=body cdv A outer s H E e;refine⟨t,p1,s1 (M9 H Ma) _ _ (kU N ds) (L2.bO N vs) H _ (Ai is) ?_⟩;unfold jH at a;cases q:b (kU N ds)with
 |stuck=>rw[q]at a;exact a
 |exc c=>rw[q]at a;exact a
 |ok r=>
  rw[q]at a;cases r with
  |nx env=>exact λσ g i H' _ d=>a .bp H' d.same rfl
  |rt r=>exact λv g H' _ s ro _=>a v H' s (ro λ_ z=>z)
  |rm r env=>exact a.elim
  |bk env=>exact a.elim
  |ct env=>exact a.elim
end
section
def Gh:SlR X (λx lo d H Q=>∃a xs,x=.ref a/\SqT X.K H a xs/\(HT.sIx xs.length 0 lo=0/\HT.sIx xs.length xs.length d=xs.length)/\Q x H):=by
 intro ac s σ H x v u w lo d sl Q I l j pl n h;obtain⟨a,xs,rfl,o,k,q⟩:=h;cases l;obtain⟨its,r,b,hz⟩:=I.tuple o;have p:its.toArray.size=xs.length:=by rw[TB];exact r.length.symm
 refine⟨"tuple",_,UG.lookup,b.typeIs,?_⟩;obtain⟨os,e,f,t⟩:=id j;have g:s.TypeIs (.ref sl) "slice":=⟨os,e,f⟩;unfold getItem
 try with_reducible refine UC ?_
 first|refine KE (Tl ?_)|skip
 refine KE (wpAny_sequenceKey b.typeIs (by decide) ?_);refine KE (UN (name:=Str.ofString "__getitem__") b.typeIs UG
  (Ur UG b.typeIs entry_tuple_getitem ?_ (args_tuple_getitem _ _)))
 show wpAny _ _ (Builtin.Tuple.tupleItemsOf (.ref a) >>= _) _ _ s;refine KE (tupleItemsOf_ b ?_);refine KE (V3 g ?_);rw[Tt (by decide)];refine KE (HT.sliceApplied_gen j pl n ?_);have c:((((HT.sIx its.toArray.size 0 lo:Nat):Int)==0&&(1:Int)==1&&(HT.sIx its.toArray.size its.toArray.size d-HT.sIx its.toArray.size 0 lo)==its.toArray.size)=true):=by rw[p,k.1,k.2];simp
 show wpAny _ _ (if(((HT.sIx its.toArray.size 0 lo:Nat):Int)==0&&(1:Int)==1&&(HT.sIx its.toArray.size its.toArray.size d-HT.sIx its.toArray.size 0 lo)==its.toArray.size)=true then _ else _) _ _ s;rw[Tt c];have i:EP X ac σ Q (.ref a) s:=⟨.ref a,H,I,rfl,q⟩;refine KE (m:=Builtin.Tuple.tupleIsExact (.ref a)) ?_;unfold Builtin.Tuple.tupleIsExact;refine KE (V3 b.typeIs ?_);refine Tl ?_;rw[Tt (by decide)];exact KE (Xe (Tl ⟨_,rfl,Tl i⟩))
end
section
def dz{α:Type}(xs:List α)(lo a:Option Int):List α:=(xs.drop (HT.sIx xs.length 0 lo)).take (HT.sIx xs.length xs.length a-HT.sIx xs.length 0 lo)
def IsAll.cut(h:IsAll H m ds vs)(lo a:Option Int):IsAll H m (dz ds lo a) (sv vs lo a):=by unfold dz sv;rw[h.length];exact(h.drop _).take _
def Iq(mg:Str->Option Xr)(E:XK)(g:Gd)(M:Addr->Prop)(b:Pr)(env:En)(σ:St)(H:Hp)(Q:Option Int->Hp->Prop):Res (Option Int)->Prop
 |.stuck=>False
 |.exc c=>F2 mg E g c
 |.ok o=>∀a H',Ext M H a H'->Rep g a b env σ H'->Q o H'
def PZ(X:Cx)(E:XK)(e:Option Expr)(f:En->Res (Option Int)):Prop:=∃t,PO X e t/\∀g M a env σ H Q,Rep g M a env σ H->Iq X.mg E g M a env σ H Q (f env)->t σ H Q
def y_:En->Res (Option Int):=λ_=>.ok none
def rC(f:En->Res R):En->Res (Option Int):=λenv=>(f env).bind λr=>match r.d with
 |.int i=>.ok (some i)
 |_=>.stuck
def vh:PZ X E none y_:=⟨_,FA,λg M b env σ H Q a p=>p M H (Ext.refl _ _) a⟩
def lF(h:PD X E e f):PZ X E (some e) (rC f):=by
 obtain⟨t,p1,s1⟩:=h;refine⟨_,su p1,λg M j env σ H Q b p=>s1.one b (P:=λM H r=>Iq X.mg E g M j env σ H Q r) p (λ_ _ z=>z) (λ_ _ _ z=>z) (λM H m H' r e p=>?_) λr v M1 k e1 a is q=>?_⟩
 .cases r with
  |stuck=>exact p
  |exc c=>exact p
  |ok o=>exact λM2 l e2=>p M2 l (e.trans e2)
 .cases z:r.d with
  |int i=>rw[z]at is;simp only[z]at q;cases is;exact⟨i,rfl,q M1 k (Ext.refl _ _) a⟩
  |_=>simp only[z]at q;exact q.elim
def tf(r:R)(lo a:Option Int):Res R:=match r.d with
 |.lst xs=>.ok (mG (dz xs lo a) r.fr r.al)
 |.tup xs=>.ok (mF (.tup (dz xs lo a)) r.fr r.al)
 |_=>.stuck
def o_(a:En->Res R)(fl b:En->Res (Option Int)):En->Res R:=λenv=>(a env).bind λr=>(fl env).bind λlo=>(b env).bind λc=>tf r lo c
def pc{lo m:Option Expr}{A:En->Res R}{fl n:En->Res (Option Int)}{p2 pos:Pos}(ha:PD X E e A)(C:PZ X E lo fl)(D:PZ X E m n):PD X E (.Subscript e (.Slice lo m none p2) pos) (o_ A fl n):=by
 obtain⟨ta,p1,s1⟩:=ha;obtain⟨L,p2,s2⟩:=C;obtain⟨N,p3,F⟩:=D;refine⟨_,uG (sl_list.or (sl_tup.or Gh)) p1 p2 p3,λg M o env σ H Q t p=>s1.ml t p λr v M1 G e1 k is q=>?_⟩;refine s2 g M1 o env σ G _ k ?_;cases u:fl env with
 |stuck=>rw[u]at q;exact q
 |exc c=>rw[u]at q;exact q
 |ok b=>
  rw[u]at q;intro M2 B e2 l;have q2:PostE X.mg E g M2 o env σ B Q ((n env).bind λm=>tf r b m):=PostE.ext e2 q;refine F g M2 o env σ B _ l ?_;cases w:n env with
  |stuck=>rw[w]at q2;exact q2
  |exc c=>rw[w]at q2;exact q2
  |ok f=>
   rw[w]at q2;intro I J e3 h;have j:PostE X.mg E g I o env σ J Q (tf r b f):=PostE.ext e3 q2;have i:=(is.ext e2).ext e3;unfold tf at j;cases z:r.d with
   |lst xs=>rw[z]at j i;obtain⟨a,vs,rfl,h1,h2⟩:=i.rd;exact .inl ⟨a,vs,rfl,.inl h1,λp x=>j.lst h x (h2.cut b f)⟩
   |tup xs=>
    rw[z]at j i;have y:=i;obtain⟨a,vs,rfl,h1,h2⟩:=i;by_cases s:HT.sIx vs.length 0 b=0/\HT.sIx vs.length vs.length f=vs.length
    .have K:dz xs b f=xs:=by unfold dz;rw[<- h2.length,s.1,s.2,h2.length];simp
     dsimp only at j;rw[K]at j;exact .inr (.inr ⟨a,vs,rfl,SqT.of h1,s,j.val h y⟩)
    .exact .inr (.inl ⟨a,vs,rfl,SqT.of h1,s,λp x=>j.tup h x (h2.cut b f)⟩)
   |_=>rw[z]at j;exact j.elim
def D.ty:D->String
 |.bp=>"NoneType" |.bl _=>"bool" |.int _=>"int" |.str _=>"str" |.tup _=>"tuple" |.lst _=>"list" |.i9 _ _=>"dict"
def P0(K:Xp)(H:Hp)(x:V)(t:Xr):Prop:=mW K H x t\/(t=.type "dict"/\∃a,x=.ref a/\MZ H a)
theorem Is.ty{m:Addr->Prop}{v:V}{K:Xp}(h:Is H m d v):P0 K H v (.type d.ty):=by
 cases d with
 |bp=>cases h;exact .inl .bp
 |bl b=>cases h;exact .inl (.bl b)
 |int b=>cases h;exact .inl (.int b)
 |str b=>cases h;exact .inl (.str b)
 |tup ds=>obtain⟨a,vs,rfl,h1,_⟩:=h;exact .inl (.tup h1)
 |lst ds=>
  obtain⟨a,vs,rfl,h1,_⟩:=h;rcases h1 with⟨h1,_⟩|⟨o,h1,_⟩
  .exact .inl (.lst h1)
  .exact .inl (.bj h1)
 |i9 ks ds=>obtain⟨a,kvs,rfl,h1,_⟩:=h;exact .inr ⟨rfl,a,rfl,h1.1.imp (λ⟨kvs,e,_⟩=>⟨kvs,e⟩) λ⟨kvs,e,_⟩=>⟨kvs,e⟩⟩
def QE(T:String)(d:D):Bool:=match d with
 |.bp=>T=="NoneType"
 |.bl _=>T=="bool" || T=="int"
 |.int _=>T=="int"
 |.str _=>T=="str"
 |.tup _=>T=="tuple"
 |.lst _=>T=="list"
 |.i9 _ _=>T=="dict"
def xo(T:String):Prop:=∀(K:Xp)(d:D),kitOne K (.type d.ty) (.type T)=some (QE T d)
def CL:xo "int":=λK d=>by cases d<;>kernel_rfl
def Aj:xo "bool":=λK d=>by cases d<;>kernel_rfl
def Ak:xo "list":=λK d=>by cases d<;>kernel_rfl
def xq:xo "tuple":=λK d=>by cases d<;>kernel_rfl
def Al:xo "dict":=λK d=>by cases d<;>kernel_rfl
def Gi(T:String)(a:En->Res R):En->Res R:=λenv=>(a env).bind λr=>.ok (.val (.bl (QE T r.d)) true [])
def vi:CallR X (.builtin "isinstance") (λxs H Q=>∃x T t b,xs=[x,.ty T]/\P0 X.K H x t/\kitOne X.K t (.type T)=some b/\Q (.bl b) H):=by
 intro ac s σ H xs us Q I r h;obtain⟨x,T,t,b,rfl,ty,e,q⟩:=h;obtain⟨u,c,rfl,ru,d⟩:=yz r;obtain rfl:c=Value.type T:=d;rcases ty with ty|⟨rfl,a,rfl,hd⟩
 .exact zO I ru ty e λtk=>⟨.bl b,H,I.tok tk,rfl,q⟩
 .obtain rfl:u=Value.ref a:=ru;obtain⟨f,_⟩:=sF I hd;exact UW Xc I.mZ f e (λz=>nomatch z) λtk=>⟨.bl b,H,I.tok tk,rfl,q⟩
def xt(n:xo T')(o:Gl X "isinstance") (s:X.mg "isinstance"=none) (b:Gl X T) (c:X.mg T=none) (f:bootBuiltins T=some (.type T')) (ha:PD X E e fa)
 (h:autoParam (T≠"__name__") ab) (i:autoParam (dB T) ab)
 (m:autoParam (starEach [e,.Name T q] X.env=(false,eval e X.env)::starEach [.Name T q] X.env) aM) (j:autoParam (starEach [.Name T q] X.env=(false,eval (.Name T q) X.env)::starEach [] X.env) aM) (k:autoParam ((backTo pos (starEach [.Name T q] X.env)).any (·.1)=false) aM) :
 PD X E (.Call (.Name "isinstance" p) [e,.Name T q] [] pos) (Gi T' fa):=by
 obtain⟨ta,p1,s1⟩:=ha;refine⟨_,bc vi o s (by decide +kernel) (aa p1 (aa (sn b c f (v:=.ty T') rfl h i) ah j) m) (by decide) (by decide) m k,λg M u env σ H Q l p=>s1.ml l p λr v M1 t e1 a is q=>?_⟩;exact⟨v,T',_,_,rfl,is.ty,n X.K r.d,q _ M1 t (Ext.refl _ _) a rfl⟩
end
section
def jI:List D->Option (List Bool)
 |[]=>some []
 |.bl b::r=>(jI r).map λbs=>b::bs
 |_::_=>none
def J0:List R->Res R
 |[r]=>match r.d with
  |.lst ds=>match jI ds with
   |some bs=>.ok (.val (.bl (bs.all id)) true [])
   |none=>.stuck
  |_=>.stuck
 |_=>.stuck
theorem rD:∀{ds:List D}{bs:List Bool}{i:Nat}{d:D},jI ds=some bs->ds[i]?=some d->∃b,d=.bl b/\bs[i]?=some b
 |[],_,_,_,_,e=>by simp at e
 |.bl b::r,bs,0,d,h,e=>by
  simp at e;subst e;unfold jI at h;cases q:jI r with
  |none=>rw[q]at h;cases h
  |some a=>rw[q]at h;cases h;exact⟨b,rfl,rfl⟩
 |.bl b::r,bs,i+1,d,h,e=>by
  unfold jI at h;cases q:jI r with
  |none=>rw[q]at h;cases h
  |some a=>rw[q]at h;cases h;obtain⟨c,e1,e2⟩:=rD (i:=i) q (by simpa using e);exact⟨c,e1,by simpa using e2⟩
 |.bp::_,_,_,_,h,_=>by cases h
 |.int _::_,_,_,_,h,_=>by cases h
 |.str _::_,_,_,_,h,_=>by cases h
 |.tup _::_,_,_,_,h,_=>by cases h
 |.lst _::_,_,_,_,h,_=>by cases h
theorem rE:∀{ds:List D}{bs:List Bool},jI ds=some bs->bs.length=ds.length
 |[],_,h=>by cases h;rfl
 |.bl b::r,bs,h=>by
  unfold jI at h;cases q:jI r with
  |none=>rw[q]at h;cases h
  |some a=>rw[q]at h;cases h;simp[rE q]
 |.bp::_,_,h=>by cases h
 |.int _::_,_,h=>by cases h
 |.str _::_,_,h=>by cases h
 |.tup _::_,_,h=>by cases h
 |.lst _::_,_,h=>by cases h
def rF(hc:X.calm=true):CallR X (.builtin "all") (λxs H Q=>∃(p:Addr)(vs:List V)(bs:List Bool),xs=[.ref p]/\SqL X.K H p vs/\vs=bs.map V.bl/\Q (.bl (bs.all id)) H):=by
 intro ac s σ H xs us Q I r h;obtain⟨p,vs,bs,rfl,m,rfl,q⟩:=h;obtain⟨u,rfl,n⟩:=fK r;cases n;obtain⟨its,g,pl,hz⟩:=I.list m;have t:X.A.in1.handled=none:=I.ok.hd hc;obtain⟨o,w,_⟩:=pl.isList;have j:p<s.heap.objs.size:=TF w;refine call_all_walk (V6 pl.isList ?_);refine⟨s.heap.objs.size,_,_,_,_,_,λi=>(bs[i]?).getD true,rfl,Walks.list t s.heap.objs.size p (T1 j) its.toArray,⟨⟨_,Tv _ rfl,rfl,rfl⟩,?_⟩,?_,λh' tk y=>?_⟩
 .exact pl.isList.at λo e=>Tn _ e
 .intro i v B C D d c;have d:its[i]?=some v:=by simpa using d
  have a:i<its.length:=(Tq.mp d).1;have f:=g.length;have hb:i<bs.length:=by simpa using(by rw[Tp]at f;lia:i<bs.length)
  obtain⟨u',l,ru⟩:=g.get (i:=i) (x:=.bl bs[i]) (by simp[hb]);rw[d]at l;cases l;cases ru;have k:bs[i]?=some bs[i]:=by simp[hb]
  dsimp only at c;rw[k]at c;exact Ve c
 .have f:=g.length;rw[Tp]at f;have e:((List.range its.toArray.size).all λi=>(bs[i]?).getD true)=bs.all id:=by
   rw[TB,<- f];rw[V1,VS,VS];constructor
   .intro h b hb;obtain⟨i,a⟩:=TN.mp hb;have:=h i (by simp;exact(Tq.mp a).1);rw[a]at this;exact this
   .intro h i a;have a:i<bs.length:=by simpa using a
    have k:bs[i]?=some bs[i]:=by simp[a]
    rw[k];exact h _ (List.getElem_mem a)
  rw[e];refine⟨.bl _,H,?_,rfl,q⟩;have z:L2.Inv X ac σ H { s with heap:=s.heap.push { cls:=.type "list_iterator",data:=.fields #[.ref p,.int 0 0] } }:=I.kept (t':=s.toks) λb o e=>Tn _ e;have fo:=I.qI (H':=H) (To s.heap.objs.size) (I.aW.fresh (To _));exact z.turned (t':=tk) (it:=s.heap.objs.size) (λb o hb e=>y b o (by simpa using hb) e) fo.1 fo.2.1 fo.2.2.2.1 fo.2.2.2.2.1 fo.2.2.2.2.2
def J1(hc:X.calm=true):rp X E (.builtin "all") J0:=by
 refine⟨_,rF hc,λg M l env σ H Q rs vs f i p=>?_⟩;rcases rs with _|⟨r,_|_⟩
 .exact p.elim
 rotate_left
 .exact p.elim
 obtain⟨v,w,rfl,c,m⟩:=i;cases m;have c:Is H (vmsk g M (bS [r]) l (cU [r])) r.d v:=c;unfold J0 at p;dsimp only at p;cases q:r.d with
 |lst ds=>
  rw[q]at p c;obtain⟨a,ws,rfl,h1,h2⟩:=c.rd;dsimp only at p;cases e:jI ds with
  |none=>rw[e]at p;exact p.elim
  |some bs=>
   rw[e]at p;refine⟨a,ws,bs,rfl,.inl h1,?_,p _ M H (Ext.refl _ _) f rfl⟩;apply VM
   intro j;by_cases h:j<ds.length
   .obtain⟨b,e1,e2⟩:=rD (i:=j) (d:=ds[j]) e (by simp[h]);obtain⟨o,n,k⟩:=h2.get (i:=j) (d:=ds[j]) (by simp[h]);rw[e1]at k;cases k;rw[n,TL,e2];rfl
   .have s:=h2.length;have t:=rE e;rw[UX (by lia),UX (by simp;lia)]
 |_=>rw[q]at p;exact p.elim
end
def P3(K:Xp)(a:Addr):It:=⟨λi H=>∃xs x,SqL K H a xs/\xs[i]?=some x,λi H y H'=>∃p x,H p=none/\y=.ref p/\H'=upd H p (.tup [.int (i:Nat),x])/\∀xs,SqL K H a xs->xs[i]?=some x,λi H=>∃xs,SqL K H a xs/\xs.length<=i⟩
def Am{P:Xq}{w:World}{K:Xp}(a it e:Addr)(hei:e≠it):Turn P w K (.Tuple es k pos) (P3 K a) [e,it] e (λi h=>(∃old,IsEnum h e it i old)/\h.IsListIter it a i) where
 mem:=by simp
 obj:=λi h st b hb=>by
  obtain⟨⟨old,he⟩,o,ho,c,d⟩:=st;rcases Tz.mp hb with rfl|hb
  .exact⟨_,he,λv z=>by cases z⟩
  .have:b=it:=by simpa using hb
   subst this;exact⟨o,ho,λv z=>by rw[d]at z;cases z⟩
 keep:=λi h h' st kk=>by obtain⟨⟨old,he⟩,hl⟩:=st;exact⟨⟨old,kk e (by simp) _ he⟩,hl.at λo q=>kk it (by simp) o q⟩
 item:=by
  intro X hP hw hK hc i ac s σ H E I hf st hg;subst hP hw hK;obtain⟨xs,x,hq,hx⟩:=hg;obtain⟨⟨old,he⟩,hl⟩:=st;obtain⟨its,rv,p,hz⟩:=I.list hq;obtain⟨u,hu,ru⟩:=rv.get hx;have fe:=hf e (by simp);have fi:=hf it (by simp);have hai:a≠it:=by intro z;obtain⟨o1,e1,c1,_⟩:=p.isList;obtain⟨o2,e2,c2,_⟩:=hl;rw[z,e2]at e1;cases e1;rw[c2]at c1;injection c1 with z;exact absurd z (by decide)
  have hae:a≠e:=by intro z;obtain⟨o1,e1,c1,_⟩:=p.isList;rw[z,he]at e1;cases e1;injection c1 with z;exact absurd z (by decide)
  have hh:X.A.in1.handled=none:=I.ok.hd hc;have hil:i<its.length:=(Tq.mp hu).1;refine wpAny_pyNext_enum_itemD (Draws.list hh it a hai its.toArray) he ⟨hl,p.isList⟩ (by simpa using hil) hei (by simp;exact⟨hei,UD hae⟩) λx' h' tk hx' ho hs' hT hsz hk=>?_;have ex:x'=u:=by
   have:its[i]?=some x':=by simpa using hx'
   rw[hu]at this;exact(Um this).symm
  subst ex;refine⟨_,rfl,wpAny_letOwnedTupleGo_enum ho λh'' he'' hs''=>?_⟩;have keep2:∀b o,b≠e->b≠it->s.heap.get? b=some o->h''.get? b=some o:=λb o n1 n2 q=>(hs''.2 b n1).trans (hk b o n1 n2 q);have hTe:s.heap.objs.size≠e:=VD (TF he);have hT'':h''.get? s.heap.objs.size=some { cls:=.type "tuple",data:=.seq #[.int i tk,x'] }:=(hs''.2 _ hTe).trans hT;have I1:L2.Inv X ac σ (upd H s.heap.objs.size (.tup [.int (i:Nat),x])) {s with heap:=h'',toks:=tk+1}:=by
   refine I.step (g':=s.gens) (d':=s.drawn) (ch:=[e,it]) (λb hb=>?_) (λb o _ _ hn q _=>keep2 b o (λz=>hn (by simp[z])) (λz=>hn (by simp[z])) q)
    (λb o _ _ hn q _=>⟨o.slots,keep2 b o (λz=>hn (by simp[z])) (λz=>hn (by simp[z])) q⟩) (λb o _ q hH=>by rw[ag (T1 (TF q))];exact hH)
    (λb o hn q=>⟨o,keep2 b o (λz=>hn (by simp[z])) (λz=>hn (by simp[z])) q⟩) (λb ys q=>by rw[ag (aj q (I.aW.fresh (To _)))];exact q)
    (λb o' u' q=>by rw[ag (aj q (I.aW.fresh (To _)))];exact q) (λb ps q=>⟨#[],by rw[ag (aj q (I.aW.fresh (To _)))];simp[q]⟩) (λm hm=>?_) (λb u' q=>?_) I.bare
   .rcases Tz.mp hb with rfl|hb
    .exact⟨fe.2.2.2.1,fe.2.1,fe.2.2.2.2.1,fe.2.2.2.2.2⟩
    .have:b=it:=by simpa using hb
     subst this;exact⟨fi.2.2.2.1,fi.2.1,fi.2.2.2.2.1,fi.2.2.2.2.2⟩
   .obtain⟨o,es',ep,ho',r⟩:=hm;exact⟨o,es',ep,keep2 _ o (UD fe.2.1) (UD fi.2.1) ho',r⟩
   .by_cases hb:b=s.heap.objs.size
    .subst hb;rw[af]at q;cases q;refine⟨by show 2<=sizeLine;decide,[.int i tk,x'],.cons ⟨tk,rfl⟩ (.cons ru .nil),⟨_,hT'',rfl,0,rfl⟩⟩
    .rw[ag hb]at q;refine(I.aW b u' q).stay (λc v hc' q'=>keep2 c v ?_ ?_ q') (λc r=>by rw[ag (aj r (I.aW.fresh (To _)))];exact r) λc ys r=>by rw[ag (aj r (I.aW.fresh (To _)))];exact r
     .rcases hc' with z|z
      .rw[z];exact aj q fe.1
      .exact aj z fe.1
     .rcases hc' with z|z
      .rw[z];exact aj q fi.1
      .exact aj z fi.1
  refine⟨.ref s.heap.objs.size,_,I1,rfl,⟨_,x,I.aW.fresh (To _),rfl,rfl,λys hy=>by rw[I.wd hy hq];exact hx⟩,⟨⟨_,by simpa using he''⟩,?_⟩,λb hb=>?_⟩
  .obtain⟨o,q,r⟩:=hs'.1;exact⟨o,(hs''.2 it (UD hei)).trans q,r⟩
  .rcases Tz.mp hb with rfl|hb
   .rw[ag (T1 (TF he))];exact fe.1
   .have:b=it:=by simpa using hb
    subst this;obtain⟨o,q,_⟩:=hl;rw[ag (T1 (TF q))];exact fi.1
 done:=by
  intro X hP hw hK hc i ac s σ H E I hf st hg;subst hP hw hK;obtain⟨xs,hq,hx⟩:=hg;obtain⟨⟨old,he⟩,hl⟩:=st;obtain⟨its,rv,p,hz⟩:=I.list hq;have fi:=hf it (by simp);have hai:a≠it:=by intro z;obtain⟨o1,e1,c1,_⟩:=p.isList;obtain⟨o2,e2,c2,_⟩:=hl;rw[z,e2]at e1;cases e1;rw[c2]at c1;injection c1 with z;exact absurd z (by decide)
  have hh:X.A.in1.handled=none:=I.ok.hd hc;have hln:=rv.length;have Dr:Draws X.prog X.w X.A.in1 it [it,a] 0 (λ_ _=>True) (λ_ h=>h.IsListIter it a i/\h.IsList a its.toArray):=
   { live:=λ_ _ st=>let ⟨o,ho,_⟩:=st.1;⟨o,ho⟩
     frame:=λ_ _ _ st hk=>⟨st.1.at λo e=>hk it (by simp) o e,st.2.at λo e=>hk a (by simp) o e⟩
     item:=λi s Q E hi=>absurd hi (by lia)
     done:=λs Q E st hE=>wpAny_nextOf_list_end hh st.1 st.2 (by simp;lia) hE }
  exact wpAny_pyNext_enum_endD Dr he ⟨hl,p.isList⟩ λh' eb=>⟨rfl,I.turned (t':=s.toks) (λb o hb e=>eb b o hb e) fi.1 fi.2.1 fi.2.2.2.1 fi.2.2.2.2.1 fi.2.2.2.2.2⟩
 self:=λA i s Q E st h=>by obtain⟨⟨old,he⟩,_⟩:=st;exact wpAny_pyIter_enum he h
section
def za(K:Xp)(ta:TA):TI:=λσ H R=>ta σ H λvs b=>∃a xs,vs=[.ref a]/\SqL K b a xs/\R (P3 K a) b
def zb{l:Expr}(g:Gl X "enumerate") (i:X.mg "enumerate"=none) (ha:PA X [l] ta) (j:autoParam (starEach [l] X.env=[(false,eval l X.env)]) aM):PI X (.Tuple es k uc) (.Call (.Name "enumerate" p) [l] [] pos) (za X.K ta):=by
 intro ac s σ H R I h;refine Call_ (mq I g i (by decide +kernel:bootBuiltins "enumerate"=some (.type "enumerate")) (Vx (cj (ha pos ac s σ H _ I h) λus s1 ⟨vs,d,c,m,q1⟩=>?_) j rfl));obtain⟨a,xs,e,n,q⟩:=q1;subst e;cases m with
 |cons r o=>
  cases o;cases r;obtain⟨its,v,pl,hz⟩:=c.list n;refine call_enumerate_list pl.isList λh' f t hsz kp=>?_;have u:L2.Inv X ac σ d {s1 with heap:=h'}:=c.kept (t':=s1.toks) kp;refine wpAny_pyIter_enum f ?_;refine⟨s1.heap.objs.size+1,[s1.heap.objs.size+1,s1.heap.objs.size],_,_,d,rfl,u,Am a s1.heap.objs.size (s1.heap.objs.size+1) (Nat.succ_ne_self _),⟨⟨_,by simpa using f⟩,t⟩,λb hb=>?_,q⟩;rcases Tz.mp hb with rfl|hb
  .exact c.qI (Nat.le_succ _) (c.aW.fresh (Nat.le_succ _))
  .have e:b=s1.heap.objs.size:=by simpa using hb
   subst e;exact c.qI (To _) (c.aW.fresh (To _))
end
def Sf(osc:Scope)(N:List Str)(scope:Scope)(tN capN:List Str)(caps:List Nat):Bool:=
 (scope.kind==.function)&&scope.names.all (λy=>y.2 != .cell)&&scope.names.all (λy=>y.2 != .local || scope.names.lookup y.1==some .local)&&tN.all (λx=>scope.names.lookup x==some .local) &&
 scope.names.all (λy=>y.2 != .free ||(osc.names.lookup y.1==some .cell || osc.names.lookup y.1==some .free))&&(capN.zip caps).all (λp=>N[p.2]?==some p.1)&&(caps.length==capN.length) &&
 capN.all (λy=>osc.names.lookup y==some .cell || osc.names.lookup y==some .free)&&capN.all (λy=>scope.names.lookup y==some .free)&&decide (tN++capN).Nodup
def b5.of(h1:X.env.scope=osc)(h2:X.N=N)(b:Sf osc N scope tN capN caps=true):b5 X scope tN capN caps:=by
 unfold Sf at b;simp only[Uu,VS,Bool.or_eq_true,WZ,bne_iff_ne,V_,ne_eq]at b;obtain⟨⟨⟨⟨⟨⟨⟨⟨⟨f,g⟩,h⟩,i⟩,j⟩,l⟩,m⟩,n⟩,o⟩,c⟩:=b;subst h1 h2;refine⟨f,g,λy d p=>(h y d).resolve_left λz=>z p,i,λy d q=>(j y d).resolve_left λz=>z q,⟨λk y e=>?_,n,o,m⟩,c⟩;have s:k<capN.length:=(Tq.mp e).1;have a:k<caps.length:=by lia
 refine⟨caps[k],by simp[a],?_⟩;have r:(y,caps[k])∈capN.zip caps:=by
  have:(capN.zip caps)[k]?=some (y,caps[k]):=by rw[We];exact⟨e,by simp[a]⟩
  exact T5 this
 exact l _ r
structure Fn(K:Xp) (mg:Str->Option Xr) (x:Str) (st:Stmt) (ps:List Str) (f:Addr) (fd:FuncData):Prop where
 fu:E8 K x x st f fd
 bi:Binds K fd ps []
 gl:mg x=some (.ref f)
def P7(F:List D->Res R):Sp:=λvs H Q _=>vs.length=1/\∃ds Ma r,IsAll H Ma ds vs/\F ds=.ok r/\∀v H',Same H H'->RetOk (M9 H Ma) H' v r->Q v H'
theorem pd:∀ns:List Int,IsAll H m (ns.map D.int) (ns.map V.int)
 |[]=>rfl
 |n::r=>⟨.int n,r.map V.int,rfl,rfl,pd r⟩
def J2(d:∀ns:List Int,ns.length<=63->∃f al,F [.lst (ns.map .int)]=.ok (.val (.bl true) f al))(H:Hp)(a:Addr)(ns:List Int)(g:ns.length<=63)(c:∃o,H a=some (.bj o (.lst (ns.map V.int)))) :
 P7 F [.ref a] H (λv _=>v=.bl true) λ_ _ _=>False:=by
 obtain⟨f,al,e⟩:=d ns g;obtain⟨o,c⟩:=c;exact⟨rfl,[.lst (ns.map .int)],λb=>b=a,_,⟨_,[],rfl,⟨a,ns.map V.int,rfl,.inr ⟨o,c,rfl⟩,pd ns⟩,rfl⟩,e,λv H' _ h=>h⟩
section
variable{P:Xq}{w:World}{K:Xp}{mg:Str->Option Xr}{base:Heap}
def bD.top(h:bD P w K mg base CX k f fd ps (jC mg 1 F)):bD P w K mg base CX k f fd ps (P7 F):=h.imp λvs H Q E ⟨a,ds,Ma,r,is,e,q⟩=>⟨a,ds,Ma,is,by rw[e];exact q⟩
end
section
def xu(k:Gl X "range") (l:X.mg "range"=none) (ha:Co X E [a,b] fs) (m:autoParam (starEach [a,b] X.env=[(false,eval a X.env),(false,eval b X.env)]) aM) (f:autoParam (starEach [b] X.env=[(false,eval b X.env)]) aM) :
 My X E tg (.Call (.Name "range" p) [a,b] [] pos) (QD fs):=by
 obtain⟨t,p1,s1⟩:=ha;refine⟨_,zJ k l p1 m f,λg M n env σ H o h p=>s1.one h (P:=λM H r=>PostI X.mg E g M n env σ H o r) p (λ_ _ z=>z) (λ_ _ _ z=>z) (λ_ _ _ _ _ e p=>p.ext e) λrs vs M1 s e1 c is q=>?_⟩;generalize hd:rs.map R.d=ds at is q;cases ds with
 |nil=>exact q.elim
 |cons d ds=>
  cases d with
  |int i=>
   cases ds with
   |nil=>exact q.elim
   |cons u ds=>
    cases u with
    |int j=>
     cases ds with
     |cons B ds=>exact q.elim
     |nil=>
      obtain⟨v,w,rfl,x,v2,C,rfl,y,A⟩:=is;cases x;cases y;cases A;dsimp only at q;by_cases hc:(cR i&&cR j)=true
      .rw[Tt hc]at q;simp only[cR,Uu,V_]at hc;exact⟨i,j,rfl,⟨hc.1.1,hc.1.2,hc.2.1,hc.2.2⟩,q _ M1 s (Ext.refl _ _) c (o6 i (j-i).toNat)⟩
      .rw[TC hc]at q;exact q.elim
    |_=>exact q.elim
  |_=>exact q.elim
open Classical in
def gJ(H:Hp)(m:Addr->Prop)(x:D)(u:Xr):Bool:=decide (∃d v,RelV v u/\Is H m d v/\jl d x=true)
def rG(r:RelV v u)(h:Is H m d v):gJ H m x u=jl d x:=by
 unfold gJ;cases q:jl d x with
 |true=>exact @TZ _ (Classical.propDecidable _) ⟨d,v,r,h,q⟩
 |false=>refine @Uw _ (Classical.propDecidable _) λ⟨d',c,b,h',a⟩=>?_;have e:=L2.RelV.inj r b;subst e;have e:=Is.inj h h';subst e;rw[q]at a;cases a
theorem mK:∀{ds:List D}{vs:List V}{us:List Xr},IsAll H m ds vs->Vals vs us->us.any (gJ H m x)=ds.any λd=>jl d x
 |[],_,_,h,r=>by cases h;cases r;rfl
 |d::ds,_,_,h,r=>by
  obtain⟨v,w,rfl,h1,h2⟩:=h;cases r with
  |cons a b=>rw[VQ,VQ,rG a h1,mK h2 b]
def Nk(neg:Bool)(K:Xp):R2:=λx y H Q=>∃p ds vs d m m',y=.ref p/\(SqL K H p vs\/SqT K H p vs)/\IsAll H m ds vs/\Is H m' d x/\(D.gf ds<=50/\d.dep<=50)/\Q (.bl (if neg then !(ds.any λe=>jl e d)else ds.any λe=>jl e d)) H
theorem mL(I:L2.Inv X ac σ H s)(a:A.units+50<cLine)(b:Is H m' d x)(g:d.dep<=50)(c:RelV x v) :
 ∀{ds:List D}{vs:List V}{us:List Xr},IsAll H m ds vs->Vals vs us->D.gf ds<=50->∀u∈us,SeqAt.EqAt A s u v (gJ H m d u)
 |[],_,_,h,r,_=>λu a=>by cases h;cases r;cases a
 |e::ds,_,_,h,r,hd=>λu hm=>by
  obtain⟨y,w,rfl,h1,h2⟩:=h;have i:max e.dep (D.gf ds)<=50:=hd;cases r with
  |cons f j=>
   rcases Tz.mp hm with rfl|hm
   .rw[rG f h1];exact Ck I.aW 50 A a (by lia) (by lia) (by lia) h1 b f c
   .exact mL I a b g c h2 j (by lia) u hm
def rH(g:X.A.units+64<cLine):OpR X (compareOp .NotIn) (Nk true X.K):=by
 intro ac s σ H x y v u Q I b e h;obtain⟨p,ds,vs,d,m,m',rfl,hq,a,c,hd,q⟩:=h;cases e;rcases hq with hq|hq
 .obtain⟨its,r,pl,hz⟩:=I.list hq;refine SeqAt.notIn_listAt (gJ H m d) pl.isList (λw f=>mL I (by grind) c hd.2 b a r hd.1 w (by grind)) ⟨.bl _,H,I,rfl,?_⟩;rw[show its.toArray.any (gJ H m d)=its.any (gJ H m d) by simp,mK a r];exact q
 .obtain⟨its,r,pl,hz⟩:=I.tuple hq;refine SeqAt.notIn_tupleAt (gJ H m d) pl (λw f=>mL I (by grind) c hd.2 b a r hd.1 w (by grind)) ⟨.bl _,H,I,rfl,?_⟩;rw[show its.toArray.any (gJ H m d)=its.any (gJ H m d) by simp,mK a r];exact q
end
end L3
namespace L3
open PySem PySem.Spec PyProof.Rows L2
def J3:D->Option bv
 |.int i=>some (.inl i)
 |.str x=>some (.inr x)
 |_=>none
def rJ:List D->Option (List bv)
 |[]=>some []
 |d::ds=>match J3 d,rJ ds with
  |some k,some ks=>some (k::ks)
  |_,_=>none
def CM:D->Option (List bv)
 |.tup ds=>rJ ds
 |_=>none
def CN:D->Option (List bv×D)
 |.tup [k,v]=>(CM k).map λks=>(ks,v)
 |_=>none
def fW:List D->Option (List (List bv×D))
 |[]=>some []
 |d::ds=>match CN d,fW ds with
  |some p,some ps=>some (p::ps)
  |_,_=>none
def rK(t:List (List bv×D))(k:List bv)(d:D):List (List bv×D):=if(t.any λx=>decide (x.1=k))=true then t.map (λx=>if x.1=k then(x.1,d)else x)else t++[(k,d)]
def kE(t ps:List (List bv×D)):List (List bv×D):=ps.foldl (λt x=>rK t x.1 x.2) t
def vj(ps:List (List bv×D)):D:=.i9 ((kE [] ps).map λp=>.inr p.1) ((kE [] ps).map Prod.snd)
def rL:List R->Res R
 |[r]=>match r.d with
  |.lst ds=>match fW ds with
   |some ps=>if D.bP ((kE [] ps).map Prod.snd)then .ok (.jj (vj ps))else .stuck
   |none=>.stuck
  |_=>.stuck
 |_=>.stuck
section
def Is.key(h:Is H m d v)(e:J3 d=some k):v=kV k:=by
 cases d with
 |int i=>cases e;exact h
 |str x=>cases e;exact h
 |_=>cases e
theorem IsAll.keys:∀{ds:List D}{vs:List V}{ks:List bv},IsAll H m ds vs->rJ ds=some ks->vs=ks.map kV
 |[],_,_,h,e=>by cases h;cases e;rfl
 |d::ds,_,ks,h,e=>by
  obtain⟨v,r,rfl,h1,h2⟩:=h;unfold rJ at e;cases q:J3 d with
  |none=>rw[q]at e;cases e
  |some k=>
   cases q2:rJ ds with
   |none=>rw[q,q2]at e;cases e
   |some a=>rw[q,q2]at e;cases e;rw[h1.key q,IsAll.keys h2 q2];rfl
theorem Is.CM(h:Is H m d v)(e:L3.CM d=some k):∃b,v=.ref b/\H b=some (.tup (k.map kV)):=by
 cases d with
 |tup ds=>obtain⟨a,vs,rfl,h1,h2⟩:=h;have e:rJ ds=some k:=e;rw[IsAll.keys h2 e]at h1;exact⟨a,rfl,h1⟩
 |_=>cases e
def RKV(H:Hp)(m:Addr->Prop):List (List bv×V)->List (List bv×D)->Prop:=Paired λa b=>a.1=b.1/\Is H m b.2 a.2
theorem RKV.fst(r:RKV H m a b):a.map Prod.fst=b.map Prod.fst:=by
 induction r with
 |nil=>rfl
 |cons h _ c=>rw[TJ,TJ,c,h.1]
theorem RKV.snd(r:RKV H m a b):IsAll H m (b.map Prod.snd) (a.map Prod.snd):=by
 induction r with
 |nil=>rfl
 |cons h _ c=>exact⟨_,_,rfl,h.2,c⟩
def RKV.append(r:RKV H m a b)(s:RKV H m c d):RKV H m (a++c) (b++d):=by
 induction r with
 |nil=>exact s
 |cons h _ e=>exact .cons h e
theorem RKV.any(r:RKV H m a b)(k:List bv):(a.any λx=>decide (x.1=k))=(b.any λx=>decide (x.1=k)):=by
 induction r with
 |nil=>rfl
 |cons h _ c=>rw[VQ,VQ,c,h.1]
def RKV.EJ(r:RKV H m a b)(h:Is H m d v):RKV H m (a.map λx=>if x.1=k then(x.1,v)else x) (b.map λx=>if x.1=k then(x.1,d)else x):=by
 induction r with
 |nil=>exact .nil
 |@cons p q ps e f t c=>
  refine .cons ?_ c
  grind
def RKV.put(r:RKV H m a b)(h:Is H m d v):RKV H m (bW a k v) (rK b k d):=by
 unfold bW rK;rw[r.any k];split
 .exact r.EJ h
 .exact r.append (.cons ⟨rfl,h⟩ .nil)
theorem vk:∀{ds:List D}{vs:List V}{ps:List (List bv×D)},IsAll H m ds vs->fW ds=some ps->∃kvs,lu H vs kvs/\∀a b,RKV H m a b->RKV H m (fP a kvs) (kE b ps)
 |[],_,_,h,e=>by cases h;cases e;exact⟨[],.nil,λa b r=>r⟩
 |d::ds,_,ps,h,e=>by
  obtain⟨v,r,rfl,h1,h2⟩:=h;unfold fW at e;cases q:CN d with
  |none=>rw[q]at e;cases e
  |some p=>
   cases q2:fW ds with
   |none=>rw[q,q2]at e;cases e
   |some g=>
    rw[q,q2]at e;cases e;obtain⟨kvs,k1,k2⟩:=vk h2 q2;unfold CN at q;split at q
    .rename_i i u;obtain⟨a,j,rfl,g1,g2⟩:=h1;obtain⟨w,x,rfl,k,l,y,rfl,n,o⟩:=g2;cases o;cases c:CM i with
     |none=>rw[c]at q;cases q
     |some s=>rw[c]at q;cases q;obtain⟨t,rfl,f⟩:=k.CM c;exact⟨(s,l)::kvs,.cons ⟨a,t,rfl,g1,f⟩ k1,λa b r=>k2 _ _ (r.put n)⟩
    .cases q
end
section
variable{X:Cx}{E:XK}
def Gj(c:Rep g M ρ env σ H)(hb:H b=none)(is:Is H' (λa=>a=b) d (.ref b))(f:Mu H' b):ROk g M ρ H H' (.ref b) (.jj d):=by obtain⟨h0,h,i⟩:=c.free hb;exact⟨λa=>a=b,λa e=>by subst e;exact⟨h,hb,f,i⟩,is⟩
def Gk(hc:X.calm=true)(j:X.A.units+64<cLine):rp X E (.type "dict") rL:=by
 refine⟨_,oC hc j,λg M l env σ H Q rs vs e i p=>?_⟩;rcases rs with _|⟨r,_|_⟩
 .exact p.elim
 rotate_left
 .exact p.elim
 obtain⟨v,w,rfl,c,m⟩:=i;cases m;have c:Is H (vmsk g M (bS [r]) l (cU [r])) r.d v:=c;replace c:=c.weak λ_ z=>yX z;unfold rL at p;dsimp only at p;cases q:r.d with
 |lst ds=>
  rw[q]at p c;dsimp only at p;cases q2:fW ds with
  |none=>rw[q2]at p;exact p.elim
  |some ps=>
   rw[q2]at p;obtain⟨a,ws,rfl,h1,h2⟩:=c.rd;obtain⟨kvs,k1,k2⟩:=vk h2 q2;refine⟨a,ws,kvs,rfl,h1,k1,λb hb=>?_⟩;have h:=k2 [] [] .nil;have s:Same H (upd H b (.dT (fP [] kvs))):=ao hb;dsimp only at p;by_cases f:D.bP ((kE [] ps).map Prod.snd)=true
   .rw[Tt f]at p;refine p _ M _ ⟨λ_ z=>z,s,λ_ z=>.inl z⟩ (e.grow s) (Gj e hb ⟨b,_,rfl,⟨.inr ⟨fP [] kvs,.inl af,?_,rfl⟩,rfl⟩,IsAll.flat f (IsAll.same s h.snd)⟩ ⟨_,af,True.intro⟩);have:=U1 (List.map λk:List bv=>(Sum.inr k:DK)) h.fst;rw[T7,T7]at this;exact this.symm
   .rw[TC f]at p;exact p.elim
 |_=>rw[q]at p;exact p.elim
def Nl(neg:Bool):R2:=λx y H Q=>∃a o,y=.ref a/\Ib H a x o/\Q (.bl (if neg then !o.isSome else o.isSome)) H
def An(e:X.A.units+64<cLine):OpR X (compareOp .NotIn) (Nl true):=by intro ac s σ H x y v u Q I b c h;obtain⟨a,o,rfl,g,q⟩:=h;cases c;exact BP (by lia) I g b λf d=>⟨.bl _,H,d,rfl,q⟩
end
def getD:List DK->List D->DK->Option D
 |k'::ks,d::ds,k=>if k'=k then some d else getD ks ds k
 |_,_,_=>none
def Ao(t:TupsIn H vs its):∀x∈its,H x.2=some (.tup ((iK x.1).map kV)):=by
 unfold TupsIn at t;induction t with
 |nil=>exact λx hx=>nomatch hx
 |cons q _ a=>
  intro x hx;rcases Tz.mp hx with rfl|hx
  .exact q.2
  .exact a x hx
section
mutual
theorem Is.view(c:∀a vs,H a=some (.lst vs)->H' a=some (.lst vs))(f:∀a o vs,H a=some (.bj o (.lst vs))->H' a=some (.bj o (.lst vs)))(g:∀a vs,H a=some (.tup vs)->H' a=some (.tup vs))(hd:∀a u,h8 u->Rd H a u->Rd H' a u)(b:∀a,m a->m' a):∀{d:D}{v:V},Is H m d v->Is H' m' d v
 |.bp,_,h=>h
 |.bl _,_,h=>h
 |.int _,_,h=>h
 |.str _,_,h=>h
 |.tup ds,_,h=>by obtain⟨a,vs,e,h1,h2⟩:=h;exact⟨a,vs,e,g a _ h1,IsAll.view c f g hd b h2⟩
 |.lst ds,_,h=>by
  obtain⟨a,vs,e,h1,h2⟩:=h;refine⟨a,vs,e,?_,IsAll.view c f g hd b h2⟩;rcases h1 with⟨h1,i⟩|⟨o,h1,i⟩
  .exact .inl ⟨c a _ h1,b a i⟩
  .exact .inr ⟨o,f a o _ h1,b a i⟩
 |.i9 ks ds,_,h=>by obtain⟨a,vs,e,h1,h2⟩:=h;refine⟨a,vs,e,⟨?_,b a h1.2⟩,IsAll.view c f g hd b h2⟩;exact h1.1.imp (λ⟨kvs,e,r⟩=>⟨kvs,hd a _ True.intro e,r⟩) λ⟨kvs,e,r⟩=>⟨kvs,hd a _ True.intro e,r⟩
theorem IsAll.view(b:∀a vs,H a=some (.lst vs)->H' a=some (.lst vs))(c:∀a o vs,H a=some (.bj o (.lst vs))->H' a=some (.bj o (.lst vs)))(f:∀a vs,H a=some (.tup vs)->H' a=some (.tup vs))(hd:∀a u,h8 u->Rd H a u->Rd H' a u)(g:∀a,m a->m' a):∀{ds:List D}{vs:List V},IsAll H m ds vs->IsAll H' m' ds vs
 |[],_,h=>h
 |d::ds,_,h=>by obtain⟨v,r,e,h1,h2⟩:=h;exact⟨v,r,e,Is.view b c f hd g h1,IsAll.view b c f hd g h2⟩
end
mutual
theorem IsSh.view(b:∀a vs,H a=some (.lst vs)->H' a=some (.lst vs))(c:∀a vs,H a=some (.tup vs)->H' a=some (.tup vs)):∀{d:D}{v:V},IsSh H m d v->IsSh H' m d v
 |.bp,_,h=>h
 |.bl _,_,h=>h
 |.int _,_,h=>h
 |.str _,_,h=>h
 |.tup ds,_,h=>by obtain⟨a,vs,e,h1,h2⟩:=h;exact⟨a,vs,e,c a _ h1,IsShs.view b c h2⟩
 |.lst ds,_,h=>by obtain⟨a,vs,e,h1,h2⟩:=h;exact⟨a,vs,e,b a _ h1,h2⟩
 |.i9 _ _,_,h=>h
theorem IsShs.view(b:∀a vs,H a=some (.lst vs)->H' a=some (.lst vs))(c:∀a vs,H a=some (.tup vs)->H' a=some (.tup vs)):∀{ds:List D}{vs:List V},IsShs H m ds vs->IsShs H' m ds vs
 |[],_,h=>h
 |d::ds,_,h=>by obtain⟨v,r,e,h1,h2⟩:=h;exact⟨v,r,e,IsSh.view b c h1,IsShs.view b c h2⟩
end
end
section
variable{g:Gd}{M:Addr->Prop}{ρ:Pr}{env:En}{σ:St}{H:Hp}{d:Addr}{o:Obj}{u:HO}
open Classical in
def gK(g:Gd)(d:Addr)(o:Obj)(u:HO):Gd:=⟨if g.H₀ d=none then g.H₀ else upd g.H₀ d (.bj o u),g.Ma,λa=>g.Z a\/a=d,g.root,g.Pw⟩
def ph(hb:b≠d):(gK g d o u).H₀ b=g.H₀ b:=by
 unfold gK;dsimp only;split
 .rfl
 .exact ag hb
def cD(b:Addr):(gK g d o u).H₀ b=none↔g.H₀ b=none:=by
 by_cases hb:b=d
 .subst hb;unfold gK;dsimp only;split
  .exact Iff.rfl
  .rename_i h;rw[af];exact⟨λz=>(by cases z),λz=>(h z).elim⟩
 .rw[ph hb]
def Gm(h:g.H₀ d≠none):(gK g d o u).H₀ d=some (.bj o u):=by unfold gK;dsimp only;rw[TC h,af]
def rM(b:h8 u)(hd:H d=some u):(∀a vs,H a=some (.lst vs)->a≠d)/\(∀a o vs,H a=some (.bj o (.lst vs))->a≠d)/\∀a vs,H a=some (.tup vs)->a≠d:=by refine⟨λa vs e z=>?_,λa o vs e z=>?_,λa vs e z=>?_⟩<;>(subst z;rw[hd]at e;cases e;exact b)
def msk_still:fj (gK g d o u) M fr a↔fj g M fr a:=by unfold fj;rw[cD]
def Rep.v_(c:Rep g M ρ env σ H)(hd:H d=some u)(p:h8 u)(r:M d):Rep (gK g d o u) M ρ env σ (upd H d (.bj o u)):=by
 obtain⟨k1,k2,k3⟩:=rM p hd;have j:∀a vs,H a=some (.lst vs)->upd H d (.bj o u) a=some (.lst vs):=λa vs e=>by rw[ag (k1 a vs e)];exact e
 have m:∀a f vs,H a=some (.bj f (.lst vs))->upd H d (.bj o u) a=some (.bj f (.lst vs)):=λa f vs e=>by rw[ag (k2 a f vs e)];exact e
 have l:∀a vs,H a=some (.tup vs)->upd H d (.bj o u) a=some (.tup vs):=λa vs e=>by rw[ag (k3 a vs e)];exact e
 have n:∀a u',h8 u'->Rd H a u'->Rd (upd H d (.bj o u)) a u':=λa u' s e=>by
  by_cases ha:a=d
  .subst ha;rcases e with e|⟨f,e⟩
   .rw[hd]at e;cases e;exact .inr ⟨o,af⟩
   .rw[hd]at e;cases e;exact p.elim
  .exact mE e λf q=>by rw[ag ha];exact q
 have pn:∀i a,ρ i a->a≠d:=λi a h z=>(c.cb i a h).1 (z▸r);refine⟨λb x e=>?_,λa ha=>?_,λa ha=>(c.uv a ha).imp (cD a).mpr id,λa ha h0=>?_,λi sl e=>?_,λi a h=>?_,c.apart,c.ow,c.len,λa z=>?_⟩
 .by_cases hb:b=d
  .subst hb;have t:g.H₀ b≠none:=λz=>by rw[(cD b).mpr z]at e;cases e
   rw[Gm t]at e;cases e;exact af
  .rw[ph hb]at e;rw[ag hb];exact c.same b x e
 .by_cases hb:a=d
  .rw[hb,af];simp
  .rw[ag hb];exact c.jk a ha
 .by_cases hb:a=d
  .rw[hb];exact .inr ⟨.inr rfl,o,u,af⟩
  .rcases c.fl a ha ((cD a).mp h0)with q|⟨q,f,u',e⟩
   .exact .inl (q.same λf e=>by rw[ag hb];exact e)
   .exact .inr ⟨.inl q,f,u',by rw[ag hb];exact e⟩
 .obtain⟨v,w,k⟩:=c.slot i sl e;refine⟨v,w,?_⟩;cases sl with
  |val d' fr=>exact Is.view j m l n (λa z=>msk_still.mpr z) k
  |own ds fr=>obtain⟨a,vs,rfl,h1,h2,y⟩:=k;exact⟨a,vs,rfl,j _ _ h1,h2,IsAll.view j m l n (λa z=>msk_still.mpr z) y⟩
  |sj d'=>exact Is.view j m l n (λa z=>z) k
  |Bl d'=>exact IsSh.view j l k
 .obtain⟨q1,q2,A⟩:=c.cb i a h;exact⟨q1,(cD a).mpr q2,A.same λf e=>by rw[ag (pn i a h)];exact e⟩
 .by_cases hb:a=d
  .rw[hb,af];simp
  .rw[ag hb];exact c.zz a (z.resolve_right hb)
def Rep.HN(c:Rep (gK g d o u) M ρ env σ H)(hd:H d=some (.bj o u))(s:h8 u)(t:M d)(w:∀x,g.H₀ d=some x->x=u):Rep g M ρ env σ (upd H d u):=by
 have y:∀a vs,H a=some (.lst vs)->a≠d:=λa vs e z=>by subst z;rw[hd]at e;cases e
 have A:∀a f vs,H a=some (.bj f (.lst vs))->a≠d:=λa f vs e z=>by subst z;rw[hd]at e;cases e;exact s
 have B:∀a vs,H a=some (.tup vs)->a≠d:=λa vs e z=>by subst z;rw[hd]at e;cases e
 have l:∀a vs,H a=some (.lst vs)->upd H d u a=some (.lst vs):=λa vs e=>by rw[ag (y a vs e)];exact e
 have n:∀a f vs,H a=some (.bj f (.lst vs))->upd H d u a=some (.bj f (.lst vs)):=λa f vs e=>by rw[ag (A a f vs e)];exact e
 have m:∀a vs,H a=some (.tup vs)->upd H d u a=some (.tup vs):=λa vs e=>by rw[ag (B a vs e)];exact e
 have p:∀a u',h8 u'->Rd H a u'->Rd (upd H d u) a u':=λa u' r e=>by
  by_cases ha:a=d
  .subst ha;rcases e with e|⟨f,e⟩
   .rw[hd]at e;cases e;exact r.elim
   .rw[hd]at e;cases e;exact .inl af
  .exact mE e λf q=>by rw[ag ha];exact q
 have j:Mu (upd H d u) d:=⟨u,af,by cases u<;>first|exact True.intro|exact s.elim⟩;have pn:∀i a,ρ i a->a≠d:=λi a h z=>(c.cb i a h).1 (z▸t);refine⟨λb x e=>?_,λa ha=>?_,λa ha=>(c.uv a ha).imp (cD a).mp id,λa ha h0=>?_,λi sl e=>?_,λi a h=>?_,c.apart,c.ow,c.len,λa z=>?_⟩
 .by_cases hb:b=d
  .subst hb;rw[w x e,af]
  .rw[ag hb];exact c.same b x (by rw[ph hb];exact e)
 .by_cases hb:a=d
  .rw[hb];exact j.some
  .rw[ag hb];exact c.jk a ha
 .by_cases hb:a=d
  .rw[hb];exact .inl j
  .rcases c.fl a ha ((cD a).mpr h0)with q|⟨q,f,u',e⟩
   .exact .inl (q.same λf e=>by rw[ag hb];exact e)
   .exact .inr ⟨q.resolve_right hb,f,u',by rw[ag hb];exact e⟩
 .obtain⟨v,C,k⟩:=c.slot i sl e;refine⟨v,C,?_⟩;cases sl with
  |val d' fr=>exact Is.view l n m p (λa z=>msk_still.mp z) k
  |own ds fr=>obtain⟨a,vs,rfl,h1,h2,D⟩:=k;exact⟨a,vs,rfl,l _ _ h1,h2,IsAll.view l n m p (λa z=>msk_still.mp z) D⟩
  |sj d'=>exact Is.view l n m p (λa z=>z) k
  |Bl d'=>exact IsSh.view l m k
 .obtain⟨q1,q2,E⟩:=c.cb i a h;exact⟨q1,(cD a).mp q2,E.same λf e=>by rw[ag (pn i a h)];exact e⟩
 .by_cases hb:a=d
  .rw[hb];exact j.some
  .rw[ag hb];exact c.zz a (.inl z)
end
def kD:bv->D
 |.inl i=>.int i
 |.inr x=>.str x
def Nm(k:bv):Is H m (kD k) (kV k):=by cases k<;>exact rfl
abbrev P8:=Int×Int×Int
def dd(l:List Int)(x:Int):List Int:=if x∈l then l else l++[x]
def Nn(xs:List Int):List Int:=xs.foldl dd []
def g1(a:List P8):List Int:=Nn (a.map (·.1))
def g2(a:List P8)(x:Int):List Int:=Nn ((a.filter λt=>decide (t.1=x)).map (·.2.1))
def g3(a:List P8)(x y:Int):List Int:=(a.filter λt=>decide (t.1=x)&&decide (t.2.1=y)).map (·.2.2)
theorem pj:∀(k:List Int),IsAll H m (k.map .int) (k.map .int)
 |[]=>rfl
 |i::k=>⟨.int i,_,rfl,rfl,pj k⟩
section
def Sg(X:Cx)(Q:VK):VK:=λv H=>Q v H\/∃d o u,H d=some (.bj o u)/\h8 u/\(∀o v,X.H₀ d≠some (.bj o v))/\Q v (upd H d u)
def J4(h:PE X e t):PE X e (λσ H Q=>t σ H (Sg X Q)):=by
 intro ac s σ H Q I q;refine cj (h ac s σ H _ I q) λv g r=>?_;obtain⟨x,H',a,b,r⟩:=r;rcases r with r|⟨d,o,u,e,c,f,r⟩
 .exact⟨x,H',a,b,r⟩
 .exact⟨x,_,a.IW e c f,b,r⟩
end
section
def Is.RT(hd:H d=some (.bj o u))(f:h8 u)(g:∀a,m a->m' a)(h:Is H m x v):Is (upd H d u) m' x v:=by
 refine Is.view (λa vs e=>?_) (λa c vs e=>?_) (λa vs e=>?_) (λa u' b e=>?_) g h
 .rw[ag (λz=>by subst z;rw[hd]at e;cases e)];exact e
 .rw[ag (λz=>by subst z;rw[hd]at e;cases e;exact f)];exact e
 .rw[ag (λz=>by subst z;rw[hd]at e;cases e)];exact e
 .by_cases ha:a=d
  .subst ha;rcases e with e|⟨c,e⟩
   .rw[hd]at e;cases e;exact b.elim
   .rw[hd]at e;cases e;exact .inl af
  .exact mE e λc q=>by rw[ag ha];exact q
def Is.v_(hd:H d=some u)(c:h8 u)(f:∀a,m a->m' a)(h:Is H m x v):Is (upd H d (.bj o u)) m' x v:=by
 obtain⟨k1,k2,k3⟩:=rM c hd;refine Is.view (λa vs e=>?_) (λa b vs e=>?_) (λa vs e=>?_) (λa u' g e=>?_) f h
 .rw[ag (k1 a vs e)];exact e
 .rw[ag (k2 a b vs e)];exact e
 .rw[ag (k3 a vs e)];exact e
 .by_cases ha:a=d
  .subst ha;rcases e with e|⟨b,e⟩
   .rw[hd]at e;cases e;exact .inr ⟨o,af⟩
   .rw[hd]at e;cases e;exact c.elim
  .exact mE e λb q=>by rw[ag ha];exact q
theorem IsAll.ur:∀{ds:List D}{vs:List V}{P:D->V->Prop},(∀x v,Is H m x v->Is H' m' x v)->IsAll H m ds vs->IsAll H' m' ds vs
 |[],_,_,_,h=>h
 |d::ds,_,P,f,h=>by obtain⟨v,r,e,h1,h2⟩:=h;exact⟨v,r,e,f _ _ h1,IsAll.ur (P:=P) f h2⟩
def Ap(s:Same (upd H1 d (.bj o u)) H')(b:H1 d=some u):Same H1 (upd H' d u):=λa x e=>by
 by_cases ha:a=d
 .subst ha;rw[b]at e;cases e;exact af
 .rw[ag ha];exact s a x (by rw[ag ha];exact e)
def CO(a:Rep g M ρ env σ H1)(b:H1 d=some u):∀x,g.H₀ d=some x->x=u:=λx e=>by have:=a.same d x e;rw[b]at this;cases this;rfl
end
open Classical in
section
def vn(i:Nat)(f:En->Res R):En->Res Fl:=λenv=>(f env).bind λr=>if i<env.length then .ok (.nx ((bj env r.al).set i (some (.val r.d r.fr))))else .stuck
def pq(w:X.N.Nodup)(c:X.N[i]?=some x)(y:Jj X.env.scope x)(h:PD X E e f)(A:autoParam (swapsWith e (some (.Name x pos')) pos.line X.env=pure false) aM)
 (B:autoParam (X.fn x=true\/X.env.scope.names.lookup x=some .local) ae):EV X E (.Assign [.Name x pos'] e pos) (vn i f):=by
 obtain⟨t,p1,s1⟩:=h;refine⟨_,bL w c y p1 A B,λg M I env σ H D j p=>?_⟩;refine s1.Be j p λr v J H' e k ro n=>?_;by_cases c:i<env.length
 .rw[Tt c]at n;obtain⟨M2,K,o,b,s⟩:=ro.is k e j.same;obtain⟨C,F,u,l,G,_,_⟩:=Rep.bj r.al b;have m:=l.put (i:=i) (sl:=.val r.d r.fr) (T:=λ_=>False) (by rw[sZ];exact c) (Is.frozen b u G s) (λ_ z=>z.elim) λ_ z=>z.elim;exact n _ C _ H' ⟨λa z=>u a (o a z),λ_ _ q _=>q⟩ m
 .rw[TC c]at n;exact n.elim
def qv(i:Nat)(a:autoParam (X.N[i]?=some x) aM)(b:autoParam (PU X.env.scope x) Xv._auto_1)(hd:autoParam (dB x) ab)
 (hc:autoParam ((x==("__classdict__" : Str))=false) ab):PD X E (.Name x pos) (aF i):=JU (pv i a b hd hc)
end
end L3
namespace L3
open PySem PySem.Spec PyProof.Rows L2
section
def zc(a b:Str):Prop:=0<b.length/\a.length<=100000/\(Txt.split a b).length<=100000/\(Builtin.Str.partsBetween a (Builtin.Str.occurrences a b 0 a.length (a.length+1)) b.length).length<=100000
instance (a b:Str):Decidable (zc a b):=by unfold zc;infer_instance
end
open Classical in
section
def jq{kvs:List (bv×V)}(h:c9 kvs k=none):bW kvs k y=kvs++[(k,y)]:=by unfold bW;rw[jp,h,TC (by simp)]
end
section
open Classical in
end
abbrev IP:=Int×Int
def dp(l:List IP)(x:IP):List IP:=if x∈l then l else l++[x]
def h1(a:List P8):List IP:=(a.map λt=>(t.1,t.2.1)).foldl dp []
end L3
namespace L2
open PySem PySem.Spec PySem.Calls PyProof.Rows
section
def Aq:CallR X (.builtin "len") (λxs H Q=>∃(d:Addr)(kvs:List (bv×V))(u:HO),xs=[.ref d]/\(u=.dK kvs\/(u=.dT []/\kvs=[]))/\Rd H d u/\kvs.length<=sizeLine/\Q (.int kvs.length) H):=by
 intro ac s σ H xs us Q I r h;obtain⟨d,kvs,u,rfl,e,b,hz,q⟩:=h;obtain⟨w,rfl,f⟩:=fK r;cases f;have c:=b.ok I.aW;have key:(d==sysModules)=false/\∃vs,KV kvs vs/\s.heap.DictOf (aK X.prog X.w) d vs:=by
  rcases e with rfl|⟨rfl,rfl⟩
  .obtain⟨z,hd,vs,a,dd⟩:=c;exact⟨hd,vs,a,dd⟩
  .obtain⟨hd,dd⟩:=sG c;exact⟨hd,[],.nil,dd⟩
 obtain⟨hd,vs,a,dd⟩:=key;refine call_len_dict hd dd (by rw[<- a.length];rw[Ud]at hz;lia) ?_;exact⟨.int kvs.length,H,I.tok _,⟨_,by rw[a.length]⟩,q⟩
end
end L2
namespace L3
open PySem PySem.Spec PyProof.Rows L2
section
def dG(h:PE X o (am i)):PD X E (.Subscript o (.Constant (.int k) j pos') pos) (fV i (vC (.int k))):=oW h aB (λ_ _=>rfl)
end
def J5{K KK:Xp}{mg:Str->Option Xr}{x:Str}{st:Stmt}{ps:List Str}{f:Addr}{oc:Xr}{od an:Option Addr}{osl:Array (Option Xr)}{kV doc pm cdv ct:Xr}(U:v8 K KK)
 (l:K.lookup f=some ⟨oc,od,.func (fnOf x x (dC st) (cM st) (aw st) .none kV doc pm an cdv ct),osl⟩) (c:codeIn K cdv x=true) (g:mg x=some (.ref f))
 (h:∀(kV doc pm:Xr)(an:Option Addr)(cdv ct:Xr)(us:List Xr),us.length=ps.length->bindArgs (fnOf x x (dC st) (cM st) (aw st) .none kV doc pm an cdv ct) ⟨us,[]⟩=pure (ps.zip us)) :
 Fn KK mg x st ps f (fnOf x x (dC st) (cM st) (aw st) .none kV doc pm an cdv ct):=
 have F:E8 KK x x st f _:=BO (U.look _ _ l (λ_ _ z=>nomatch z)) (U.code c) (U.keep l)
 ⟨F,F.binds h,g⟩
section
def cn{st:Stmt}(G:bD X.prog X.w X.K X.mg X.base CX k f fd ps (jC X.mg ps.length F))(c:dj k X.A)(d:Gl X x)(h:Fn X.K X.mg x st ps f fd)(g:fL CX X E)
 (ha:Co X E (e::es) fs) (i:∀env rs,fs env=.ok rs->rs.length=ps.length) (a:autoParam (dB x) ab) (j:autoParam (sE X e es) aM) (b:autoParam (bT X pos es) aM) :
 PD X E (.Call (.Name x p) (e::es) [] pos) (eQ F fs):=F9 G c d h.gl h.fu.kp h.bi g ha i a j b
end
def nK:List DK->List D->Option (List D)
 |[],[]=>some []
 |.inr k::r,x::ds=>(nK r ds).map (.tup [.tup (k.map kD),x]::·)
 |_,_=>none
theorem vp:∀{kvs:List (List bv×V)}{ds xs:List D},nK (kvs.map λp=>.inr p.1) ds=some xs->xs.length=kvs.length/\∀(i:Nat)(x:D),xs[i]?=some x->∃p y,kvs[i]?=some p/\ds[i]?=some y/\x=.tup [.tup (p.1.map kD),y]
 |[],[],_,e=>by cases e;exact⟨rfl,λi x e=>by simp at e⟩
 |[],_::_,_,e=>by cases e
 |_::_,[],_,e=>by cases e
 |p::r,y::ds,xs,e=>by
  rw[TJ]at e;unfold nK at e;obtain⟨h,e1,rfl⟩:=Ux.mp e;obtain⟨l,f⟩:=vp e1;refine⟨by simp[l],λi x ex=>?_⟩;cases i with
  |zero=>simp at ex;subst ex;exact⟨p,y,rfl,rfl,rfl⟩
  |succ i=>obtain⟨d,g,a,b,c⟩:=f i x (by simpa using ex);exact⟨d,g,by simpa using a,by simpa using b,c⟩
theorem CS:∀(k:List bv),IsAll H m (k.map kD) (k.map kV)
 |[]=>rfl
 |x::k=>⟨_,_,rfl,Nm x,CS k⟩
def nc(hd:H d=some (.bj o u))(is:IsAll H m ds (kvs.map Prod.snd))(e0:nK (kvs.map λp=>.inr p.1) ds=some xs):Walk (Mw d o u kvs) m H xs:=by
 obtain⟨l,f⟩:=vp e0;refine⟨λH' i x k e=>?_,λH' k=>⟨k d _ hd (.inr True.intro),by rw[l];exact To _⟩⟩;have g:i<kvs.length:=by rw[<- l];exact(Tq.mp e).1
 refine⟨⟨k d _ hd (.inr True.intro),g⟩,λy h z=>?_⟩;obtain⟨p,b,j,v,n,rfl,hb,rfl,a⟩:=z;obtain⟨q,w,e1,e2,rfl⟩:=f i x e;rw[a]at e1;cases e1;have s:Same H' (upd H' p (.tup [.ref b,v])):=ao n;obtain⟨t,c,r⟩:=(is.mono k λ_ _ _ z=>z:IsAll H' m ds (kvs.map Prod.snd)).get e2;rw[TL,a]at c;cases c;exact⟨s,p,_,rfl,af,_,_,rfl,⟨b,_,rfl,s _ _ hb,CS j⟩,_,_,rfl,r.same s,rfl⟩
def xw(h:Is H m (.i9 ks ds) v)(g:∀k∈ks,∃a,k=.inr a):∃d kvs u,v=.ref d/\m d/\(u=.dT kvs\/(u=.dK []/\kvs=[]))/\Rd H d u/\ks=kvs.map (λp=>.inr p.1)/\IsAll H m ds (kvs.map Prod.snd):=by
 obtain⟨d,vs,rfl,⟨b,c⟩,f⟩:=h;rcases b with⟨kvs,e,rfl,rfl⟩|⟨kvs,e,rfl,rfl⟩
 .cases kvs with
  |nil=>exact⟨d,[],_,rfl,c,.inr ⟨rfl,rfl⟩,e,rfl,f⟩
  |cons p r=>obtain⟨a,i⟩:=g (.inl p.1) (by simp);cases i
 .exact⟨d,kvs,_,rfl,c,.inl rfl,e,rfl,f⟩
theorem vq:∀{ks:List DK}{ds xs:List D},nK ks ds=some xs->∀k∈ks,∃a,k=.inr a
 |[],_,_,_,k,h=>by cases h
 |.inr a::r,x::ds,_,e,k,h=>by
  unfold nK at e;obtain⟨y,e1,_⟩:=Ux.mp e;rcases Tz.mp h with h|h
  .exact⟨a,h⟩
  .exact vq e1 k h
 |.inr _::_,[],_,e,_,_=>by cases e
 |.inl _::_,_,_,e,_,_=>by simp[nK]at e
def Ar{X:Cx}{E:XK}{st:Stmt}:EV X E st (λ_=>.stuck):=⟨λ_ _ _=>False,λ_ _ _ _ _ _ h=>h.elim,λ_ _ _ _ _ _ _ _ p=>p⟩
end L3
namespace Pz
section
variable{κ α:Type}[DecidableEq κ]
abbrev MD(κ α:Type):=List (κ×List α)
def MD.get(d:MD κ α)(k:κ):List α:=((d.find? λx=>decide (x.1=k)).map (·.2)).getD []
def MD.has(d:MD κ α)(k:κ):Bool:=d.any λx=>decide (x.1=k)
def MD.app(d:MD κ α)(k:κ)(v:α):MD κ α:=if d.has k then d.map (λx=>if x.1=k then(x.1,x.2++[v])else x)else d++[(k,[v])]
def MD.drop(d:MD κ α)(k:κ):MD κ α:=d.filter λx=>decide (x.1≠k)
def MD.flat(d:MD κ α):List α:=d.flatMap (·.2)
abbrev MD.keys(d:MD κ α):List κ:=d.map (·.1)
structure MD.Ok(d:MD κ α):Prop where
 nk:d.keys.Nodup
 ne:∀x∈d,x.2≠[]
theorem dH(x:κ×List α)(d:MD κ α)(k:κ):MD.get (x::d) k=if x.1=k then x.2 else MD.get d k:=by grind [MD.get]
def has_iff{d:MD κ α}{k:κ}:d.has k=true↔k∈d.keys:=by
 unfold MD.has
 grind
def CT{d:MD κ α}{k:κ}(h:k∉d.keys):d.get k=[]:=by
 induction d with
 |nil=>rfl
 |cons x r a=>grind [dH]
def Gn{d:MD κ α}(nd:d.keys.Nodup){k:κ}{l:List α}(h:(k,l)∈d):d.get k=l:=by
 induction d with
 |nil=>cases h
 |cons x r a=>grind [dH]
def ti{d:MD κ α}{k:κ}{v:α}(h:v∈d.get k):(k,d.get k)∈d:=by
 induction d with
 |nil=>cases h
 |cons x r a=>grind [dH]
def tj{d:MD κ α}{k:κ}{v:α}(h:k∉d.keys):d.map (λx=>if x.1=k then(x.1,x.2++[v])else x)=d:=by induction d<;>grind
def CU(d:MD κ α)(k:κ)(v:α):(d.app k v).keys=if k∈d.keys then d.keys else d.keys++[k]:=by
 unfold MD.app;by_cases h:k∈d.keys
 .rw[Tt (has_iff.mpr h),Tt h];unfold MD.keys;rw[T7];exact UP λx _=>by grind
 .rw[TC (λq=>h (has_iff.mp q)),TC h];unfold MD.keys;rw[Ua];rfl
def px{d:MD κ α}(O:d.Ok)(k:κ)(v:α):(d.app k v).Ok:=by
 constructor
 .rw[CU];split
  .exact O.nk
  .rename_i h;exact UZ.mpr ⟨O.nk,by simp,λa ha b hb e=>by grind⟩
 .intro x c;unfold MD.app at c;split at c
  .obtain⟨y,f,rfl⟩:=TH.mp c;split
   .simp
   .exact O.ne y f
  .rcases T4.mp c with h|h
   .exact O.ne x h
   .rw[TV]at h;subst h;simp
def nL{d:MD κ α}{k:κ}{l:List α}(h:k∉d.keys):MD.get (d++[(k,l)]) k=l:=by
 grind [MD.get]
def qB{d:MD κ α}{k a:κ}{l:List α}(h:k≠a):MD.get (d++[(k,l)]) a=d.get a:=by
 grind [MD.get]
def tp{d:MD κ α}{k:κ}{v:α}(h:k∈d.keys):MD.get (d.map (λx=>if x.1=k then(x.1,x.2++[v])else x)) k=d.get k++[v]:=by
 induction d with
 |nil=>cases h
 |cons x r a=>
  rw[TJ,dH,dH];by_cases e:x.1=k
  .rw[Tt e,Tt (show x.1=k from e),Tt e]
  .rw[TC e,TC e,TC e];rcases Tz.mp h with q|q
   .exact(e q.symm).elim
   .exact a q
def xx{d:MD κ α}{k a:κ}{v:α}(h:k≠a):MD.get (d.map (λx=>if x.1=k then(x.1,x.2++[v])else x)) a=d.get a:=by
 induction d with
 |nil=>rfl
 |cons x r b=>grind [dH]
theorem tq(d:MD κ α)(k:κ)(v:α)(a:κ):(d.app k v).get a=if k=a then d.get k++[v]else d.get a:=by
 unfold MD.app;by_cases h:k∈d.keys
 .rw[Tt (has_iff.mpr h)];by_cases e:k=a
  .subst e;rw[Tt rfl,tp h]
  .rw[TC e,xx e]
 .rw[TC (λq=>h (has_iff.mp q))];by_cases e:k=a
  .subst e;rw[Tt rfl,nL h,CT h];rfl
  .rw[TC e,qB e]
def fX{d:MD κ α}(nd:d.keys.Nodup)(k:κ)(v:α):(d.app k v).flat.Perm (v::d.flat):=by
 unfold MD.app;by_cases h:k∈d.keys
 .rw[Tt (has_iff.mpr h)];induction d with
  |nil=>cases h
  |cons x r b=>
   have a:=UF.mp nd;unfold MD.flat at b ⊢;rw[TJ,VN,VN];by_cases e:x.1=k
   .subst e;rw[Tt rfl,tj a.1];show((x.2++[v])++_).Perm _;rw[U6];exact Xk
   .rw[TC e];rcases Tz.mp h with q|q
    .exact(e q.symm).elim
    .exact((Vv _).append (b a.2 q)).trans Xk
 .rw[TC (λq=>h (has_iff.mp q))];unfold MD.flat;rw[Wo];show(_++([v]++[])).Perm _;rw[UE];exact List.perm_append_singleton _ _
def Au(d:MD κ α)(k:κ):(d.drop k).keys=d.keys.filter λx=>decide (x≠k):=by unfold MD.drop MD.keys;rw[List.filter_map];rfl
def zd{d:MD κ α}(O:d.Ok)(k:κ):(d.drop k).Ok:=⟨by rw[Au];exact List.Pairwise.filter _ O.nk,λx a=>O.ne x (Us.mp a).1⟩
theorem Av{d:MD κ α}{k:κ}(h:k∉d.keys):d.drop k=d:=by induction d<;>grind [MD.drop]
def mM{d:MD κ α}(nd:d.keys.Nodup)(k:κ):d.flat.Perm (d.get k++(d.drop k).flat):=by
 induction d with
 |nil=>exact Vv _
 |cons x r b=>
  have a:=UF.mp nd;rw[dH];by_cases e:x.1=k
  .subst e;rw[Tt rfl];have:MD.drop (x::r) x.1=r:=by grind [MD.drop,Av]
   rw[this];exact Vv _
  .rw[TC e];have:MD.drop (x::r) k=x::MD.drop r k:=by grind [MD.drop]
   rw[this];unfold MD.flat at b ⊢;rw[VN,VN];refine((Vv _).append (b a.2)).trans ?_;rw[<- U6,<- U6];exact List.perm_append_comm.append_right _
def mem_flat{d:MD κ α}{v:α}:v∈d.flat↔∃x∈d,v∈x.2:=WR
def lG(d:MD κ α){k:κ}{v:α}(h:v∈d.get k):v∈d.flat:=mem_flat.mpr ⟨_,ti h,h⟩
def nY(d:MD κ α)(k:κ):(d.get k).length<=d.flat.length:=by
 induction d with
 |nil=>exact To _
 |cons x r a=>grind [dH,MD.flat]
def iA{d:MD κ α}(O:d.Ok):d.length<=d.flat.length:=by
 have:∀d:MD κ α,(∀x∈d,x.2≠[])->d.length<=d.flat.length:=by
  intro d;induction d with
  |nil=>intro _;exact To _
  |cons x r a=>
   intro h;have h1:=a λy b=>h y (Tu _ b);have h2:0<x.2.length:=W5.mpr (h x Tw);unfold MD.flat at h1 ⊢
   grind
 exact this d O.ne
end
end Pz
namespace Pz
def lo:List Int->Int
 |[]=>0
 |x::r=>r.foldl (λa b=>if b<a then b else a) x
theorem xy:∀(r:List Int)(x:Int),r.foldl (λa b=>if b<a then b else a) x∈x::r/\∀y∈x::r,r.foldl (λa b=>if b<a then b else a) x<=y
 |[],x=>by grind
 |z::r,x=>by
  obtain⟨h1,h2⟩:=xy r (if z<x then z else x);rw[Vz];constructor
  .grind
  .intro y c;have d:=h2 _ Tw
   grind
def CV(h:l≠[]):lo l∈l:=by
 cases l with
 |nil=>exact(h rfl).elim
 |cons x r=>exact(xy r x).1
def CW(h:y∈l):lo l<=y:=by
 cases l with
 |nil=>cases h
 |cons x r=>exact(xy r x).2 y h
structure ug(pile:Int->Int->Int):Prop where
 nn:∀{p l:Int},0<=p->0<=l->0<=pile p l
 ch:∀{p l:Int},0<=p->0<=l->∀k:Nat,pile p l<=k↔p/2^k=l/2^k
section
variable(P:ug pile)
include P
theorem ug.zero(a:0<=p)(b:0<=l):pile p l=0↔p=l:=by
 have h1:=P.nn a b;have h2:=P.ch a b 0
 grind
theorem ug.lt(a:0<=l)(d:l<=p)(b:l<=r)(h:pile p l<pile r l):p<r:=by
 have c:0<=p:=VF a d;have f:0<=r:=VF a b;obtain⟨k,g⟩:=U9 (P.nn c a);have e1:=(P.ch c a k).mp (by lia);have e2:¬r/2^k=l/2^k:=λe=>by have:=(P.ch f a k).mpr e;lia
 have pos:(0:Int)<2^k:=Int.pow_pos (by decide);have e3:=Int.ediv_le_ediv pos b;refine Int.not_le.mp λhc=>?_;have e4:=Int.ediv_le_ediv pos hc;lia
theorem ug.same(c:0<=l)(f:l<=m)(g:l<=r)(h:pile m l<pile r l):pile r m=pile r l:=by
 have m0:0<=m:=VF c f;have d:0<=r:=VF c g;have key:∀j:Nat,pile r m<=j↔pile r l<=j:=by
  intro j;rw[P.ch d m0,P.ch d c];by_cases n:pile m l<=j
  .rw[(P.ch m0 c j).mp n]
  .have hd:∀{a b:Int}{i:Nat},a/2^j=b/2^j->a/2^(j+i)=b/2^(j+i):=by intro a b i e;rw[Int.pow_add,<- Int.ediv_ediv_of_nonneg (WM (Int.pow_pos (by decide))),<- Int.ediv_ediv_of_nonneg (WM (Int.pow_pos (by decide))),e]
   obtain⟨k,o⟩:=U9 (P.nn m0 c);obtain⟨i,rfl⟩ : ∃i,k=j+i:=⟨k-j,by lia⟩;constructor<;>intro e<;>exfalso
   .have e1:=hd (i:=i) e;rw[(P.ch m0 c (j+i)).mp (by lia)]at e1;have:=(P.ch d c (j+i)).mpr e1;lia
   .have:=(P.ch d c j).mpr e;lia
 obtain⟨a,ha⟩:=U9 (P.nn d m0);obtain⟨b,hb⟩:=U9 (P.nn d c);have h1:=key a;have h2:=key b;lia
end
section
variable{α:Type}
abbrev Q(α:Type):=MD Int (Int×α)
structure wl(pile:Int->Int->Int) (last:Int) (d:Q α):Prop where
 ok:d.Ok
 l0:0<=last
 at_:∀x∈d,∀y∈x.2,x.1=pile y.1 last/\last<=y.1
def wl.add(h:wl pile last d)(a:α)(b:last<=p):wl pile last (d.app (pile p last) (p,a)):=by
 refine⟨px h.ok _ _,h.l0,λx hx y hy=>?_⟩;unfold MD.app at hx;split at hx
 .obtain⟨z,hz,rfl⟩:=TH.mp hx;by_cases e:z.1=pile p last
  .rw[Tt e]at hy ⊢;rcases T4.mp hy with hy|hy
   .exact h.at_ z hz y hy
   .rw[TV]at hy;subst hy;exact⟨e,b⟩
  .rw[TC e]at hy ⊢;exact h.at_ z hz y hy
 .rcases T4.mp hx with hx|hx
  .exact h.at_ x hx y hy
  .grind
def cV(pile:Int->Int->Int)(last:Int)(d:Q α)(l:List (Int×α)):Q α:=l.foldl (λd x=>d.app (pile x.1 last) x) d
theorem wl.cV:∀{l:List (Int×α)}{d:Q α},wl pile last d->(∀x∈l,last<=x.1)->wl pile last (cV pile last d l)
 |[],d,h,_=>h
 |x::l,d,h,a=>wl.cV (l:=l) (h.add x.2 (a x Tw)) λy b=>a y (Tu _ b)
theorem jJ:∀{l:List (Int×α)}{d:Q α},d.Ok->(cV pile last d l).flat.Perm (l++d.flat)
 |[],d,h=>Vv _
 |x::l,d,h=>(jJ (l:=l) (px h _ _)).trans (((Vv _).append (fX h.nk _ _)).trans Xk)
def b7(d:Q α):Int:=lo d.keys
def lowP(d:Q α):Int:=lo ((d.get (b7 d)).map (·.1))
def mid(pile:Int->Int->Int)(d:Q α):Q α:=cV pile (lowP d) (d.drop (b7 d)) (d.get (b7 d))
def dI(pile:Int->Int->Int)(d:Q α):List (Int×α):=(mid pile d).get 0
def left(pile:Int->Int->Int)(d:Q α):Q α:=(mid pile d).drop 0
structure Mm(pile:Int->Int->Int) (last:Int) (d:Q α):Prop where
 ge:last<=lowP d
 ok:wl pile (lowP d) (left pile d)
 eq:∀x∈dI pile d,x.1=lowP d
 lt:∀x∈(left pile d).flat,lowP d<x.1
 pm:d.flat.Perm (dI pile d++(left pile d).flat)
 ne:dI pile d≠[]
 k1:b7 d∈d.keys
 k2:d.get (b7 d)≠[]
 k3:0∈(mid pile d).keys
 o1:wl pile (lowP d) (d.drop (b7 d))
def Aw(P:ug pile)(h:wl pile last d)(m:d≠[]):Mm pile last d:=by
 have k1:b7 d∈d.keys:=CV (by simpa[MD.keys]using m);obtain⟨x0,f,n⟩:=TH.mp k1;have g0:d.get (b7 d)=x0.2:=Gn h.ok.nk (by grind);have k2:d.get (b7 d)≠[]:=by rw[g0];exact h.ok.ne x0 f
 have t:lowP d∈(d.get (b7 d)).map (·.1):=CV (by simpa using k2);obtain⟨s,o,u⟩:=TH.mp t;have cJ:∀y∈d.get (b7 d),b7 d=pile y.1 last/\last<=y.1:=λy b=>by rw[g0]at b;have:=h.at_ x0 f y b;rw[n]at this;exact this
 have l:last<=lowP d:=by grind
 have l0:0<=lowP d:=VF h.l0 l;have kP:pile (lowP d) last=b7 d:=by grind
 have g:∀y∈d.get (b7 d),lowP d<=y.1:=λy b=>CW (TH.mpr ⟨y,b,rfl⟩);have i:∀x∈d.drop (b7 d),∀y∈x.2,x.1=pile y.1 (lowP d)/\lowP d<y.1:=λx a y b=>by
  obtain⟨a,c⟩:=Us.mp a;have c:x.1≠b7 d:=T_ c;have v:b7 d<=x.1:=CW (TH.mpr ⟨x,a,rfl⟩);obtain⟨e1,e2⟩:=h.at_ x a y b;have j:pile (lowP d) last<pile y.1 last:=by grind
  exact⟨e1.trans (P.same h.l0 l e2 j).symm,P.lt h.l0 l e2 j⟩
 have o1:wl pile (lowP d) (d.drop (b7 d)):=⟨zd h.ok _,l0,λx a y b=>⟨(i x a y b).1,WM (i x a y b).2⟩⟩;have k:wl pile (lowP d) (mid pile d):=o1.cV g;have p:d.flat.Perm (mid pile d).flat:=(mM h.ok.nk _).trans (jJ o1.ok).symm;have q:(mid pile d).flat.Perm (dI pile d++(left pile d).flat):=mM k.ok.nk 0;have eq:∀x∈dI pile d,x.1=lowP d:=λx a=>by have:=k.at_ _ (ti a) x a;exact(P.zero (VF l0 this.2) l0).mp this.1.symm
 have lt:∀x∈(left pile d).flat,lowP d<x.1:=λx a=>by obtain⟨y,b,a⟩:=mem_flat.mp a;obtain⟨b,c⟩:=Us.mp b;have c:y.1≠0:=T_ c;obtain⟨e1,e2⟩:=k.at_ y b x a;have:¬x.1=lowP d:=λe=>c (e1.trans ((P.zero (VF l0 e2) l0).mpr e));lia
 have r:s∈dI pile d:=by
  have h1:s∈d.flat:=lG d o
  grind
 exact⟨l,⟨zd k.ok _,l0,λx a=>k.at_ x (Us.mp a).1⟩,eq,lt,p.trans q,(λe=>by grind),k1,k2,TH.mpr ⟨_,ti r,rfl⟩,o1⟩
end
end Pz
namespace Pz
abbrev Arr:=Int×Int×Int
abbrev Rule:=Int×Int×Int×List Int
abbrev xA:=Int×Option Int×Option Int
abbrev TD:=List (Arr×xA)
def bA(t:TD)(a:Arr):Option xA:=(t.find? λx=>decide (x.1=a)).map (·.2)
def tput(t:TD)(a:Arr)(v:xA):TD:=if(bA t a).isSome then t.map (λx=>if x.1=a then(x.1,v)else x)else t++[(a,v)]
structure PS where
 told:TD
 last:Int
 aE:Q Arr
 settled:MD (Int×Int) (Int×Int)
 aH:MD (Int×Int) (Int×Rule×Int)
abbrev RS:=MD (Int×Int) (Int×Rule)
section
variable(pile:Int->Int->Int)(rs:RS)
def ib(S:PS)(a:Arr)(p:Int):Bool:=match bA S.told a with
 |none=>true
 |some v=>decide (p<v.1)
def jK(S:PS)(a:Arr)(p:Int)(n m:Option Int):PS:={S with told:=tput S.told a (p,n,m),aE:=S.aE.app (pile p S.last) (p,a)}
def be(S:PS)(a:Arr)(p:Int)(n m:Option Int):PS:=if ib S a p then jK pile S a p n m else S
def nth1(l:List Int):Int:=l[1]?.getD 0
def tz(S:PS)(b:Int)(r:Rule)(mid a:Int):PS:={S with aH:=S.aH.app (mid,nth1 r.2.2.2) (b,r,a)}
def first(S:PS)(b:Int)(r:Rule)(mid a:Int):PS:=(S.settled.get (mid,nth1 r.2.2.2)).foldl (λS x=>be pile S (r.1,r.2.1,x.1) (a+x.2+1) (some b) (some mid)) (tz S b r mid a)
def note(S:PS)(a:Arr)(b:Int):PS:={S with settled:=S.settled.app (a.1,a.2.1) (a.2.2,b)}
def ng(a:Arr)(b:Int)(S:PS)(x:Int×Rule×Int):PS:=be pile S (x.2.1.1,x.2.1.2.1,a.2.2) (x.2.2+b+1) (some x.1) (some a.1)
def cv(a:Arr)(b:Int)(S:PS)(x:Int×Rule):PS:=if x.2.2.2.2.length=1 then be pile S (x.2.1,x.2.2.1,a.2.2) (b+1) (some x.1) none else first pile S x.1 x.2 a.2.2 b
def settle(S:PS)(a:Arr)(b:Int):PS:=(rs.get (a.1,a.2.1)).foldl (cv pile a b) ((S.aH.get (a.1,a.2.1)).foldl (ng pile a b) (note S a b))
def Mz(S:PS)(x:Int×Arr):Bool:=match bA S.told x.2 with
 |none=>false
 |some v=>decide (v.1=x.1)
def turn(S:PS)(x:Int×Arr):PS:=if Mz S x then settle pile rs S x.2 x.1 else S
def batch(S:PS)(l:List (Int×Arr)):PS:=l.foldl (turn pile rs) S
def take(S:PS):PS:={S with last:=lowP S.aE,aE:=left pile S.aE}
end
def L:Nat:=16000000
structure kK(S:PS):Prop where
 t:S.told.length<L
 p:S.aE.length<L
 pf:S.aE.flat.length<L
 s:S.settled.length<L
 sf:S.settled.flat.length<L
 l:S.aH.length<L
 lf:S.aH.flat.length<L
inductive Loop(pile:Int->Int->Int) (rs:RS):Nat->PS->PS->Prop where
 |done {S:PS}:S.aE=[]->Loop pile rs 0 S S
 |step {n:Nat} {S T:PS}:S.aE≠[]->wl pile S.last S.aE->(∀x∈dI pile S.aE,bA S.told x.2≠none)->kK S->kK (batch pile rs (take pile S) (dI pile S.aE))->
  Loop pile rs n (batch pile rs (take pile S) (dI pile S.aE)) T->Loop pile rs (n+1) S T
theorem dt(x:Arr×xA)(t:TD)(a:Arr):bA (x::t) a=if x.1=a then some x.2 else bA t a:=by grind [bA]
def tget_none:bA t a=none↔a∉t.map (·.1):=by
 induction t with
 |nil=>simp[bA]
 |cons x r b=>grind [dt]
def pz(h:bA t a=some v):(a,v)∈t:=by
 induction t with
 |nil=>cases h
 |cons x r b=>grind [dt]
def vw(nd:(t.map (·.1)).Nodup)(h:(a,v)∈t):bA t a=some v:=by
 induction t with
 |nil=>cases h
 |cons x r b=>grind [dt]
def Ax(t:TD)(a:Arr)(v:xA):(tput t a v).map (·.1)=if a∈t.map (·.1)then t.map (·.1)else t.map (·.1)++[a]:=by
 unfold tput;cases h:bA t a with
 |none=>rw[TC (by simp),TC (tget_none.mp h),Ua];rfl
 |some w=>have:a∈t.map (·.1):=TH.mpr ⟨_,pz h,rfl⟩;rw[Tt (by simp),Tt this,T7];exact UP λx _=>by grind
def Gp(h:(t.map (·.1)).Nodup)(a:Arr)(v:xA):((tput t a v).map (·.1)).Nodup:=by
 rw[Ax];split
 .exact h
 .rename_i q;exact UZ.mpr ⟨h,by simp,λx c b hb e=>by rw[TV]at hb;subst hb;subst e;exact q c⟩
def vx(t:TD)(a:Arr)(v:xA):t.length<=(tput t a v).length/\(tput t a v).length<=t.length+1:=by
 unfold tput;split
 .rw[Tp];lia
 .rw[TU];simp
def ic(t:TD)(a:Arr)(v:xA)(b:Arr):bA (tput t a v) b=if a=b then some v else bA t b:=by
 unfold tput;cases h:bA t a with
 |none=>
  rw[TC (by simp)];have f:=tget_none.mp h;clear h;induction t with
  |nil=>rw[List.nil_append,dt]
  |cons x r c=>grind [dt]
 |some w=>
  rw[Tt (by simp)];have d:a∈t.map (·.1):=TH.mpr ⟨_,pz h,rfl⟩;clear h;by_cases e:a=b
  .subst e;rw[Tt rfl];induction t with
   |nil=>cases d
   |cons x r c=>grind [dt]
  .rw[TC e];clear d;induction t with
   |nil=>rfl
   |cons x r c=>grind [dt]
structure fH(S T:PS):Prop where
 t:S.told.length<=T.told.length
 p:S.aE.length<=T.aE.length
 pf:S.aE.flat.length<=T.aE.flat.length
 s:S.settled.length<=T.settled.length
 sf:S.settled.flat.length<=T.settled.flat.length
 l:S.aH.length<=T.aH.length
 lf:S.aH.flat.length<=T.aH.flat.length
def fH.refl(S:PS):fH S S:=by
 grind [PS,fH]
def fH.trans(a:fH S T)(b:fH T U):fH S U:=⟨T6 a.t b.t,T6 a.p b.p,T6 a.pf b.pf,T6 a.s b.s,T6 a.sf b.sf,T6 a.l b.l,T6 a.lf b.lf⟩
def fH.fit(a:fH S T)(h:kK T):kK S:=⟨UJ a.t h.t,UJ a.p h.p,UJ a.pf h.pf,UJ a.s h.s,UJ a.sf h.sf,UJ a.l h.l,UJ a.lf h.lf⟩
def fq{κ α:Type}[DecidableEq κ](d:MD κ α)(k:κ)(v:α):d.length<=(d.app k v).length/\d.flat.length<=(d.app k v).flat.length:=by
 unfold MD.app;split
 .rw[Tp];refine⟨To _,?_⟩;unfold MD.flat;rw[List.length_flatMap,List.length_flatMap,T7];induction d with
  |nil=>exact To _
  |cons x r a=>
   rename_i h;clear h;rw[TJ,TJ,Xh,Xh];refine Nat.add_le_add ?_ ?_
   .simp only[Function.comp];split<;>simp
   .clear a;induction r with
    |nil=>exact To _
    |cons y r a=>rw[TJ,TJ,Xh,Xh];exact Nat.add_le_add (by simp only[Function.comp];split<;>simp) a
 .rw[TU];unfold MD.flat;rw[Wo,TU];lia
theorem cg{a:Type}(f:PS->a->PS)(h:∀S x,fH S (f S x)):∀(l:List a)(S:PS),fH S (l.foldl f S)
 |[],S=>.refl S
 |x::l,S=>(h S x).trans (cg f h l _)
def bY(S:PS)(a:Arr)(p:Int)(n m:Option Int):fH S (be pile S a p n m):=by
 unfold be;split
 .exact⟨(vx _ _ _).1,(fq _ _ _).1,(fq _ _ _).2,To _,To _,To _,To _⟩
 .exact .refl S
def xB(S:PS)(b:Int)(r:Rule)(mid a:Int):fH S (first pile S b r mid a):=fH.trans (T:=tz S b r mid a) ⟨To _,To _,To _,To _,To _,(fq _ _ _).1,(fq _ _ _).2⟩ (cg _ (λS x=>bY S _ _ _ _) _ _)
def kW(a:Arr)(b:Int)(S:PS)(x:Int×Rule):fH S (cv pile a b S x):=by
 unfold cv;split
 .exact bY _ _ _ _ _
 .exact xB _ _ _ _ _
def vy(S:PS)(a:Arr)(b:Int):fH S (settle pile rs S a b):=(fH.trans (S:=S) (T:=note S a b) ⟨To _,To _,To _,(fq _ _ _).1,(fq _ _ _).2,To _,To _⟩ (cg (ng pile a b) (λS x=>bY S _ _ _ _) _ _)).trans (cg _ (kW a b) _ _)
def Ay(S:PS)(x:Int×Arr):fH S (turn pile rs S x):=by
 unfold turn;split
 .exact vy _ _ _
 .exact .refl S
theorem jL{b:Type}(f:PS->b->PS){a:Arr}(h:∀S x,bA S.told a≠none->bA (f S x).told a≠none):∀(l:List b)(S:PS),bA S.told a≠none->bA (l.foldl f S).told a≠none
 |[],S,k=>k
 |x::l,S,k=>jL f h l _ (h S x k)
def pA(h:bA S.told b≠none):bA (be pile S a p n m).told b≠none:=by
 unfold be;split
 .show bA (tput _ _ _) _≠none;rw[ic];split
  .simp
  .exact h
 .exact h
def CY(h:bA S.told b≠none):bA (cv pile a p S x).told b≠none:=by
 unfold cv;split
 .exact pA h
 .exact jL _ (λS x k=>pA k) _ _ (show bA (tz S _ _ _ _).told b≠none from h)
def Gq(h:bA S.told b≠none):bA (turn pile rs S x).told b≠none:=by
 unfold turn;split
 .exact jL _ (λS x k=>CY k) _ _ (jL (ng pile _ _) (λS x k=>pA k) _ _ (show bA (note S _ _).told b≠none from h))
 .exact h
end Pz
namespace Pz
def Sd(S:PS)(a:Arr)(q:Int):Prop:=(a.2.2,q)∈S.settled.get (a.1,a.2.1)
def gL(S:PS)(a:Arr)(p:Int):Prop:=∃v,bA S.told a=some v/\v.1<=p
def JustP(sd:Arr->Int->Prop)(c:Int)(put:List Int)(t p:Int)(m:Option Int):Prop:=match put with
 |[]=>m=none/\p=1/\t=c
 |[x]=>m=none/\∃q,sd (c,x,t) q/\p=q+1
 |[x,y]=>∃d q1 q2,m=some d/\sd (c,x,d) q1/\sd (d,y,t) q2/\p=q1+q2+1
 |_=>False
def JustP.mono(h:∀a q,sd a q->sd' a q)(j:JustP sd c put t p m):JustP sd' c put t p m:=by
 match put,j with
 |[],j=>exact j
 |[x],⟨e,q,s,e2⟩=>exact⟨e,q,h _ _ s,e2⟩
 |[x,y],⟨d,q1,q2,e,s1,s2,e2⟩=>exact⟨d,q1,q2,e,h _ _ s1,h _ _ s2,e2⟩
section
variable(RL:List Rule)(M:List Arr)
def Just(sd:Arr->Int->Prop)(a:Arr)(v:xA):Prop:=match v.2.1 with
 |none=>v.2.2=none/\v.1=0/\a∈M
 |some i=>∃(j:Nat)(r:Rule),i=j/\RL[j]?=some r/\a.1=r.1/\a.2.1=r.2.1/\JustP sd r.2.2.1 r.2.2.2 a.2.2 v.1 v.2.2
theorem Just.mono(h:∀a q,sd a q->sd' a q)(j:Just RL M sd a v):Just RL M sd' a v:=by
 obtain⟨p,n,m⟩:=v;cases n with
 |none=>exact j
 |some i=>obtain⟨k,r,e1,e2,e3,e4,j⟩:=j;exact⟨k,r,e1,e2,e3,e4,j.mono h⟩
structure B(pile:Int->Int->Int) (U:List Arr) (S:PS) (rest:List (Int×Arr)):Prop where
 q:wl pile S.last S.aE
 nd:S.aE.flat.Nodup
 nr:rest.Nodup
 tk:(S.told.map (·.1)).Nodup
 tu:∀a v,bA S.told a=some v->a∈U
 ju:∀a v,bA S.told a=some v->Just RL M (Sd S) a v
 ps:∀a v,bA S.told a=some v->0<=v.1
 sd:∀a p,Sd S a p->p<=S.last/\∃v,bA S.told a=some v/\v.1=p
 sp:∀a v,bA S.told a=some v->Sd S a v.1\/(v.1,a)∈S.aE.flat\/(v.1,a)∈rest
 it:∀p a,(p,a)∈S.aE.flat\/(p,a)∈rest->gL S a p
 ns:∀p a,(p,a)∈S.aE.flat\/(p,a)∈rest->¬Sd S a p
 m0:∀a v,bA S.told a=some v->a∈M->v=(0,none,none)
end
def vz(h:¬ib S a p=true):gL S a p:=by
 grind [ib,gL]
def fY(h:ib S a p=true)(e:bA S.told a=some v):p<v.1:=by unfold ib at h;rw[e]at h;exact T_ h
def j6(a:Arr)(p:Int)(n m:Option Int):gL (be pile S a p n m) a p:=by
 unfold be;by_cases h:ib S a p=true
 .rw[Tt h];exact⟨(p,n,m),by show bA (tput _ _ _) _=_;rw[ic,Tt rfl],Int.le_refl _⟩
 .rw[TC h];exact vz h
def iB(h:gL S b q):gL (be pile S a p n m) b q:=by
 unfold be;by_cases k:ib S a p=true
 .rw[Tt k];obtain⟨v,e,c⟩:=h;by_cases e2:a=b
  .subst e2;exact⟨(p,n,m),by show bA (tput _ _ _) _=_;rw[ic,Tt rfl],WM (Int.lt_of_lt_of_le (fY k e) c)⟩
  .exact⟨v,by show bA (tput _ _ _) _=_;rw[ic,TC e2];exact e,c⟩
 .rw[TC k];exact h
def iC(a:Arr)(p:Int)(n m:Option Int):(be pile S a p n m).settled=S.settled/\(be pile S a p n m).aH=S.aH/\(be pile S a p n m).last=S.last:=by unfold be;split<;>exact⟨rfl,rfl,rfl⟩
def xC(h:S.aE.Ok)(a:Arr)(p:Int)(n m:Option Int)(b:x∈(be pile S a p n m).aE.flat):x∈S.aE.flat\/x=(p,a):=by
 unfold be at b;split at b
 .rcases Tz.mp ((fX h.nk _ _).mem_iff.mp b)with e|e
  .exact .inr e
  .exact .inl e
 .exact .inl b
def rN(h:S.aE.Ok)(a:Arr)(p:Int)(n m:Option Int):(be pile S a p n m).aE.flat.length<=S.aE.flat.length+1:=by
 unfold be;split
 .exact Xl (fX h.nk _ _).length_eq
 .lia
theorem B.be(b:B RL M pile U S rest)(g:Just RL M (Sd S) a (p,n,m))(i:a∈U)(f:S.last<=p)(r:(p,a)∉rest)(j:¬Sd S a p)
 (l:a∈M->gL S a 0\/(p,n,m)=(0,none,none)):B RL M pile U (be pile S a p n m) rest:=by
 unfold Pz.be;by_cases k:ib S a p=true
 .rw[Tt k];have s:∀c q,Sd (jK pile S a p n m) c q↔Sd S c q:=λc q=>Iff.rfl;have tg:∀c,bA (jK pile S a p n m).told c=if a=c then some (p,n,m)else bA S.told c:=λc=>ic _ _ _ _;have pf:=fX b.q.ok.nk (pile p S.last) (p,a);have o:0<=p:=VF b.q.l0 f;have fl:∀x,x∈(jK pile S a p n m).aE.flat↔x=(p,a)\/x∈S.aE.flat:=λx=>by show x∈(S.aE.app (pile p S.last) (p,a)).flat↔_;rw[pf.mem_iff,Tz]
  refine⟨b.q.add a f,?_,b.nr,Gp b.tk _ _,λc v e=>?_,λc v e=>?_,λc v e=>?_,λc q h=>?_,λc v e=>?_,λq c h=>?_,λq c h=>?_,λc v e hc=>?_⟩
  .refine pf.nodup_iff.mpr (UF.mpr ⟨λh=>?_,b.nd⟩);obtain⟨v,e,d⟩:=b.it p a (.inl h);have:=fY k e;lia
  .rw[tg]at e;by_cases z:a=c
   .rw[<- z];exact i
   .rw[TC z]at e;exact b.tu c v e
  .rw[tg]at e;by_cases z:a=c
   .rw[Tt z]at e;cases e;rw[<- z];exact g
   .rw[TC z]at e;exact b.ju c v e
  .rw[tg]at e;by_cases z:a=c
   .rw[Tt z]at e;cases e;exact o
   .rw[TC z]at e;exact b.ps c v e
  .obtain⟨h1,v,e,d⟩:=b.sd c q h;refine⟨h1,v,?_,d⟩;rw[tg,TC (λz=>?_)]
   .exact e
   .subst z;have:=fY k e;lia
  .rw[tg]at e;by_cases z:a=c
   .rw[Tt z]at e;cases e;subst z;exact .inr (.inl ((fl _).mpr (.inl rfl)))
   .rw[TC z]at e;rcases b.sp c v e with h|h|h
    .exact .inl h
    .exact .inr (.inl ((fl _).mpr (.inr h)))
    .exact .inr (.inr h)
  .have:(q,c)=(p,a)\/(q,c)∈S.aE.flat\/(q,c)∈rest:=by
    rcases h with h|h
    .rcases (fl _).mp h with h|h
     .exact .inl h
     .exact .inr (.inl h)
    .exact .inr (.inr h)
   rcases this with h|h
   .cases h;exact⟨(p,n,m),by grind,Int.le_refl _⟩
   .obtain⟨v,e,d⟩:=b.it q c h;by_cases z:a=c
    .subst z;exact⟨(p,n,m),by grind,WM (Int.lt_of_lt_of_le (fY k e) d)⟩
    .exact⟨v,by grind,d⟩
  .rcases h with h|h
   .rcases (fl _).mp h with h|h
    .cases h;exact j
    .exact b.ns q c (.inl h)
   .exact b.ns q c (.inr h)
  .rw[tg]at e;by_cases z:a=c
   .rw[Tt z]at e;cases e;subst z;rcases l hc with⟨v,e,d⟩|h
    .have:=fY k e;lia
    .exact h
   .rw[TC z]at e;exact b.m0 c v e hc
 .rw[TC k];exact b
end Pz
namespace Pz
section
variable(RL:List Rule)(M U:List Arr)(pile:Int->Int->Int)
structure BG(S:PS) (rest:List (Int×Arr)):Prop where
 b:B RL M pile U S rest
 gt:∀x∈S.aE.flat,S.last<x.1
 eq:∀x∈rest,x.1=S.last
 mh:∀a∈M,gL S a 0
structure Ext(S T:PS) (rest:List (Int×Arr)) (k:Nat):Prop where
 bg:BG RL M U pile T rest
 mono:∀a p,gL S a p->gL T a p
 se:T.settled=S.settled
 la:T.last=S.last
 len:T.aE.flat.length<=S.aE.flat.length+k
end
def rO(h:T.settled=S.settled):Sd T=Sd S:=by unfold Sd;rw[h]
theorem Ext.trans(x:Ext RL M U pile S T rest k)(y:Ext RL M U pile T V rest l):Ext RL M U pile S V rest (k+l):=⟨y.bg,λa p h=>y.mono a p (x.mono a p h),y.se.trans x.se,y.la.trans x.la,by have:=x.len;have:=y.len;lia⟩
theorem BG.be(g:BG RL M U pile S rest)(e:Just RL M (Sd S) a (p,n,m))(f:a∈U)(d:S.last<p):Ext RL M U pile S (be pile S a p n m) rest 1:=by
 obtain⟨e1,e2,e3⟩:=iC (pile:=pile) (S:=S) a p n m;have hb:=g.b.be e f (WM d) (λh=>by have:=g.eq _ h;dsimp only at this;lia) (λh=>by have:=(g.b.sd _ _ h).1;lia) λh=>.inl (g.mh a h);refine⟨⟨hb,λx c=>?_,λx c=>by rw[e3];exact g.eq x c,λb hb=>iB (g.mh b hb)⟩,λb q h=>iB h,e1,e3,rN g.b.q.ok _ _ _ _⟩;rw[e3];rcases xC g.b.q.ok _ _ _ _ c with h|rfl
 .exact g.gt x h
 .exact d
theorem kX{c:Type}(a:c->Arr)(fp:c->Int)(fn b:c->Option Int):∀(l:List c){S:PS},BG RL M U pile S rest->
 (∀x∈l,Just RL M (Sd S) (a x) (fp x,fn x,b x)/\a x∈U/\S.last<fp x)->
 Ext RL M U pile S (l.foldl (λS x=>be pile S (a x) (fp x) (fn x) (b x)) S) rest l.length/\(l.foldl (λS x=>be pile S (a x) (fp x) (fn x) (b x)) S).aH=S.aH/\
 ∀x∈l,gL (l.foldl (λS x=>be pile S (a x) (fp x) (fn x) (b x)) S) (a x) (fp x)
 |[],S,g,_=>⟨⟨g,λ_ _ h=>h,rfl,rfl,To _⟩,rfl,λ_ h=>nomatch h⟩
 |x::l,S,g,h=>by
  obtain⟨j,u,lt⟩:=h x Tw;have e:=g.be j u lt;obtain⟨r,d,f⟩:=kX a fp fn b l (S:=be pile S (a x) (fp x) (fn x) (b x)) e.bg λy hy=>by rw[rO e.se,e.la];exact h y (Tu _ hy)
  rw[Vz,T3,Xm];refine⟨e.trans r,d.trans (iC _ _ _ _).2.1,λy hy=>?_⟩;rcases Tz.mp hy with rfl|hy
  .exact r.mono _ _ (j6 _ _ _ _)
  .exact f y hy
structure wb(RL:List Rule) (M U:List Arr) (rs:RS):Prop where
 gg:∀r∈RL,r.2.2.2.length<=2
 to:∀{n r c x},(n,r)∈rs.get (c,x)->∃(j:Nat)(l:List Int),n=j/\RL[j]?=some r/\r.2.2.1=c/\r.2.2.2=x::l
 of:∀{j:Nat}{r:Rule}{x l},RL[j]?=some r->r.2.2.2=x::l->((j:Int),r)∈rs.get (r.2.2.1,x)
 u1:∀a∈M,a∈U
 u2:∀r∈RL,(r.1,r.2.1,r.2.2.1)∈U
 u3:∀r∈RL,∀s x t,(s,x,t)∈U->(r.1,r.2.1,t)∈U
def J6(RL:List Rule)(S:PS):Prop:=∀(j:Nat)(r:Rule),RL[j]?=some r->match r.2.2.2 with
 |[]=>gL S (r.1,r.2.1,r.2.2.1) 1
 |[x]=>∀t q,Sd S (r.2.2.1,x,t) q->gL S (r.1,r.2.1,t) (q+1)
 |[x,y]=>∀d t q1 q2,Sd S (r.2.2.1,x,d) q1->Sd S (d,y,t) q2->gL S (r.1,r.2.1,t) (q1+q2+1)
 |_=>True
structure Lk(RL:List Rule) (S:PS):Prop where
 ok:S.aH.Ok
 to:∀{n r q d y},(n,r,q)∈S.aH.get (d,y)->∃(j:Nat)(x:Int),n=j/\RL[j]?=some r/\r.2.2.2=[x,y]/\Sd S (r.2.2.1,x,d) q
 of:∀{j:Nat}{r:Rule}{x y d q},RL[j]?=some r->r.2.2.2=[x,y]->Sd S (r.2.2.1,x,d) q->((j:Int),r,q)∈S.aH.get (d,y)
theorem Ir(Hs:wb RL M U rs)(d:a∈U)(I:0<=p):∀(l:List (Int×Rule)){S:PS},BG RL M U pile S rest->S.aH.Ok->S.settled.Ok->S.last=p->Sd S a p->(∀x∈l,x∈rs.get (a.1,a.2.1))->
 Ext RL M U pile S (l.foldl (cv pile a p) S) rest (l.length*S.settled.flat.length)/\(l.foldl (cv pile a p) S).aH.Ok/\(l.foldl (cv pile a p) S).aH.flat.length<=S.aH.flat.length+l.length/\
 (∀k z,z∈(l.foldl (cv pile a p) S).aH.get k↔z∈S.aH.get k\/∃x∈l,x.2.2.2.2.length=2/\k=(a.2.2,nth1 x.2.2.2.2)/\z=(x.1,x.2,p))/\
 (∀x∈l,x.2.2.2.2.length=1->gL (l.foldl (cv pile a p) S) (x.2.1,x.2.2.1,a.2.2) (p+1))/\
 ∀x∈l,x.2.2.2.2.length=2->∀t q,Sd S (a.2.2,nth1 x.2.2.2.2,t) q->gL (l.foldl (cv pile a p) S) (x.2.1,x.2.2.1,t) (p+q+1)
 |[],S,g,ok,so,C,ha,_=>⟨⟨g,λ_ _ h=>h,rfl,rfl,WN _ _⟩,ok,by simp,(λk z=>⟨.inl,λh=>h.elim id λ⟨x,h,_⟩=>(TR h).elim⟩),(λ_ h=>(TR h).elim),λ_ h=>(TR h).elim⟩
 |x::l,S,g,ok,so,C,ha,f=>by
  obtain⟨n,r⟩:=x;obtain⟨j,D,rfl,o,hc,s⟩:=Hs.to (f _ Tw);have u:r∈RL:=T5 o;have E:=Hs.gg r u;have J:1<=S.settled.flat.length:=List.length_pos_of_mem (lG _ ha);have one:Ext RL M U pile S (cv pile a p S ((j:Int),r)) rest S.settled.flat.length/\(cv pile a p S ((j:Int),r)).aH.Ok/\(cv pile a p S ((j:Int),r)).aH.flat.length<=S.aH.flat.length+1/\
   (∀k z,z∈(cv pile a p S ((j:Int),r)).aH.get k↔z∈S.aH.get k\/(r.2.2.2.length=2/\k=(a.2.2,nth1 r.2.2.2)/\z=((j:Int),r,p)))/\
   (r.2.2.2.length=1->gL (cv pile a p S ((j:Int),r)) (r.1,r.2.1,a.2.2) (p+1))/\
   (r.2.2.2.length=2->∀t q,Sd S (a.2.2,nth1 r.2.2.2,t) q->gL (cv pile a p S ((j:Int),r)) (r.1,r.2.1,t) (p+q+1)):=by
   unfold cv;by_cases h1:r.2.2.2.length=1
   .rw[Tt (show((j:Int),r).2.2.2.2.length=1 from h1)];have c:r.2.2.2=[a.2.1]:=by
     rw[s]at h1 ⊢;cases D with
     |nil=>rfl
     |cons _ _=>simp at h1
    have e:=g.be (a:=(r.1,r.2.1,a.2.2)) (p:=p+1) (n:=some (j:Int)) (m:=none) ⟨j,r,rfl,o,rfl,rfl,by rw[c];exact⟨rfl,p,by rw[hc];exact ha,rfl⟩⟩ (Hs.u3 r u _ _ _ d) (by lia);obtain⟨_,e2,_⟩:=iC (pile:=pile) (S:=S) (r.1,r.2.1,a.2.2) (p+1) (some (j:Int)) none;refine⟨⟨e.bg,e.mono,e.se,e.la,T6 e.len (W2 J _)⟩,by rw[e2];exact ok,by rw[e2];lia,λk z=>?_,λ_=>j6 _ _ _ _,λh=>by lia⟩;rw[e2];exact⟨.inl,λh=>h.elim id λh=>by lia⟩
   .rw[TC (show ¬((j:Int),r).2.2.2.2.length=1 from h1)];have h2:r.2.2.2.length=2:=by rw[s]at h1 E ⊢;simp only[T3]at h1 E ⊢;lia
    obtain⟨y,c⟩ : ∃y,r.2.2.2=[a.2.1,y]:=by
     rw[s]at h2 ⊢
     match D,h2 with
     |[y],_=>exact⟨y,rfl⟩
    have K:nth1 r.2.2.2=y:=by rw[c];rfl
    have g1:BG RL M U pile (tz S (j:Int) r a.2.2 p) rest:=⟨⟨g.b.q,g.b.nd,g.b.nr,g.b.tk,g.b.tu,g.b.ju,g.b.ps,g.b.sd,g.b.sp,g.b.it,g.b.ns,g.b.m0⟩,g.gt,g.eq,g.mh⟩;obtain⟨e,e2,e3⟩:=kX (λx:Int×Int=>(r.1,r.2.1,x.1)) (λx=>p+x.2+1) (λ_=>some (j:Int)) (λ_=>some a.2.2) (S.settled.get (a.2.2,nth1 r.2.2.2)) g1 λx hx=>by
     have F:Sd S (a.2.2,y,x.1) x.2:=by rw[K]at hx;exact hx
     obtain⟨_,v,G,X⟩:=g.b.sd _ _ F;have:=g.b.ps _ _ G;refine⟨⟨j,r,rfl,o,rfl,rfl,?_⟩,Hs.u3 r u _ _ _ (g.b.tu _ _ G),by show S.last<_;lia⟩;rw[c];exact⟨a.2.2,p,x.2,rfl,by rw[hc];exact ha,F,rfl⟩
    have L:∀k z,z∈(first pile S (j:Int) r a.2.2 p).aH.get k↔z∈S.aH.get k\/(r.2.2.2.length=2/\k=(a.2.2,nth1 r.2.2.2)/\z=((j:Int),r,p)):=λk z=>by
     show z∈(List.foldl _ _ _:PS).aH.get k↔_;rw[e2];show z∈(S.aH.app _ _).get k↔_;rw[tq];by_cases w:(a.2.2,nth1 r.2.2.2)=k
     .subst w;rw[Tt rfl,T4,TV];exact⟨λh=>h.elim .inl λh=>.inr ⟨h2,rfl,h⟩,λh=>h.elim .inl λh=>.inr h.2.2⟩
     .rw[TC w];exact⟨.inl,λh=>h.elim id λh=>(w h.2.1.symm).elim⟩
    have lk:(first pile S (j:Int) r a.2.2 p).aH=S.aH.app (a.2.2,nth1 r.2.2.2) ((j:Int),r,p):=e2;refine⟨⟨e.bg,λb q h=>e.mono b q h,e.se,e.la,T6 e.len (W2 (nY _ _) _)⟩,by rw[lk];exact px ok _ _,by rw[lk,(fX ok.nk _ _).length_eq];exact To _,L,λh=>by lia,λ_ t q h=>e3 (t,q) h⟩
  obtain⟨e,A,N,B,O,P⟩:=one;obtain⟨i,Q,Y,R,T,V⟩:=Ir Hs d I l e.bg A (by rw[e.se];exact so) (by rw[e.la];exact C) (by rw[rO e.se];exact ha) λy W=>f y (Tu _ W);rw[Vz,T3];rw[e.se]at i;refine⟨by rw[Nat.add_mul,Nat.one_mul,Xm];exact e.trans i,Q,by lia,λk z=>?_,λx hx h=>?_,λx hx h t q H=>?_⟩
  .rw[R,B];constructor
   .rintro ((h|h)|⟨x,hx,h⟩)
    .exact .inl h
    .exact .inr ⟨_,Tw,h⟩
    .exact .inr ⟨x,Tu _ hx,h⟩
   .rintro (h|⟨x,hx,h⟩)
    .exact .inl (.inl h)
    .rcases Tz.mp hx with rfl|hx
     .exact .inl (.inr h)
     .exact .inr ⟨x,hx,h⟩
  .rcases Tz.mp hx with rfl|hx
   .exact i.mono _ _ (O h)
   .exact T x hx h
  .rcases Tz.mp hx with rfl|hx
   .exact i.mono _ _ (P h t q H)
   .exact V x hx h t q (by rw[rO e.se];exact H)
end Pz
namespace Pz
section
variable(RL:List Rule)(M U:List Arr)(pile:Int->Int->Int)(C:Nat)
structure SE(S:PS) (k:Nat):Prop where
 so:S.settled.Ok
 G:∃G:List Arr,G.Nodup/\G.length=S.settled.flat.length/\∀a∈G,∃q,Sd S a q
 ln:S.aH.flat.length<=RL.length*S.settled.flat.length
 pn:S.aE.flat.length+k<=C+RL.length*(S.settled.flat.length*S.settled.flat.length)
structure I(S:PS) (rest:List (Int×Arr)):Prop where
 bg:BG RL M U pile S rest
 Fe:J6 RL S
 lk:Lk RL S
 cnt:SE RL C S rest.length
end
def sd_note:Sd (note S a p) c q↔Sd S c q\/(a=c/\p=q):=by
 grind [Sd,note,tq]
theorem I.settle(Hs:wb RL M U rs)(D:∀k,(rs.get k).length<=RL.length)(i:I RL M U pile C S ((p,a)::rest))(R:bA S.told a=some v)(N:v.1=p) :
 I RL M U pile C (settle pile rs S a p) rest/\(settle pile rs S a p).settled.flat.length=S.settled.flat.length+1:=by
 have b:=i.bg.b;have pl:p=S.last:=i.bg.eq _ Tw;have p0:0<=p:=by rw[pl];exact b.q.l0
 have E:a∈U:=b.tu a v R;have nS:∀q,¬Sd S a q:=λq h=>by obtain⟨_,w,e,ew⟩:=b.sd a q h;rw[R]at e;cases e;rw[<- ew,N]at h;exact b.ns p a (.inr Tw) h
 have nr:=UF.mp b.nr;have m:∀c q,Sd S c q->Sd (note S a p) c q:=λc q h=>sd_note.mpr (.inl h);have u:Sd (note S a p) a p:=sd_note.mpr (.inr ⟨rfl,rfl⟩);have g1:BG RL M U pile (note S a p) rest:=by
  refine⟨⟨b.q,b.nd,nr.2,b.tk,b.tu,λc w e=>(b.ju c w e).mono RL M m,b.ps,λc q h=>?_,λc w e=>?_,λq c h=>?_,λq c h k=>?_,b.m0⟩,i.bg.gt,λx A=>i.bg.eq x (Tu _ A),i.bg.mh⟩
  .rcases sd_note.mp h with h|⟨rfl,rfl⟩
   .exact b.sd c q h
   .exact⟨Int.le_of_eq pl,v,R,N⟩
  .rcases b.sp c w e with h|h|h
   .exact .inl (m _ _ h)
   .exact .inr (.inl h)
   .rcases Tz.mp h with h|h
    .cases h;exact .inl u
    .exact .inr (.inr h)
  .exact b.it q c (h.elim .inl λh=>.inr (Tu _ h))
  .rcases sd_note.mp k with k|⟨rfl,rfl⟩
   .exact b.ns q c (h.elim .inl λh=>.inr (Tu _ h)) k
   .rcases h with h|h
    .have:=i.bg.gt _ h;dsimp only at this;lia
    .exact nr.1 h
 have so1:(note S a p).settled.Ok:=px i.cnt.so _ _;have V:(note S a p).settled.flat.length=S.settled.flat.length+1:=(fX i.cnt.so.nk _ _).length_eq;obtain⟨e1,l1,h1⟩:=kX (λx:Int×Rule×Int=>(x.2.1.1,x.2.1.2.1,a.2.2)) (λx=>x.2.2+p+1) (λx=>some x.1) (λ_=>some a.1) (S.aH.get (a.1,a.2.1)) g1 λx A=>by obtain⟨n,r,q⟩:=x;obtain⟨j,y,rfl,o,B,s⟩:=i.lk.to A;obtain⟨_,w,tw,hw⟩:=b.sd _ _ s;have:=b.ps _ _ tw;refine⟨⟨j,r,rfl,o,rfl,rfl,?_⟩,Hs.u3 r (T5 o) _ _ _ E,by show S.last<q+p+1;lia⟩;show JustP _ r.2.2.1 r.2.2.2 _ _ _;rw[B];exact⟨a.1,q,p,rfl,m _ _ s,u,rfl⟩
 generalize W:(S.aH.get (a.1,a.2.1)).foldl (λS x=>be pile S (x.2.1.1,x.2.1.2.1,a.2.2) (x.2.2+p+1) (some x.1) (some a.1)) (note S a p)=F at e1 l1 h1;have s2:F.settled=(note S a p).settled:=e1.se;have H:Sd F=Sd (note S a p):=rO s2;have O:F.aH=S.aH:=l1;obtain⟨e2,k1,k2,k3,X,Y⟩:=Ir (rs:=rs) Hs E p0 (rs.get (a.1,a.2.1)) e1.bg (by rw[O];exact i.lk.ok) (by grind) (by rw[e1.la,pl];rfl) (by rw[H];exact u) λx A=>A;have eT:(rs.get (a.1,a.2.1)).foldl (cv pile a p) F=Pz.settle pile rs S a p:=by rw[<- W];rfl
 rw[eT]at e2 k1 k2 k3 X Y;generalize Pz.settle pile rs S a p=T at e2 k1 k2 k3 X Y;have P:T.settled=(note S a p).settled:=e2.se.trans s2;have g:∀c q,Sd T c q↔Sd S c q\/(a=c/\p=q):=λc q=>by rw[rO P];exact sd_note
 have Z:∀{j:Nat}{r:Rule}{x d l},RL[j]?=some r->r.2.2.2=x::l->a=(r.2.2.1,x,d)->((j:Int),r)∈rs.get (a.1,a.2.1):=λo N h=>by rw[h];exact Hs.of o N
 have mono:∀c q,gL S c q->gL T c q:=λc q h=>e2.mono _ _ (e1.mono _ _ h);refine⟨⟨e2.bg,?_,⟨k1,?_,?_⟩,⟨by grind,?_,?_,?_⟩⟩,by grind⟩
 .intro j r o;have hc:=i.Fe j r o;cases f:r.2.2.2 with
  |nil=>rw[f]at hc;exact mono _ _ hc
  |cons x ys=>
   cases ys with
   |nil=>
    rw[f]at hc;intro t q s;rcases(g _ _).mp s with h|⟨h,rfl⟩
    .exact mono _ _ (hc t q h)
    .obtain rfl:a.2.2=t:=by rw[h]
     exact X ((j:Int),r) (Z o f h) (by rw[f];rfl)
   |cons y zs=>
    cases zs with
    |cons _ _=>trivial
    |nil=>
     rw[f]at hc;intro d t q1 q2 hq1 J;have ny:nth1 r.2.2.2=y:=by rw[f];rfl
     rcases(g _ _).mp hq1 with K|⟨K,rfl⟩
     .rcases (g _ _).mp J with Q|⟨Q,rfl⟩
      .exact mono _ _ (hc d t q1 q2 K Q)
      .obtain rfl:a.2.2=t:=by rw[Q]
       exact e2.mono _ _ (h1 ((j:Int),r,q1) (by rw[Q];exact i.lk.of o f K))
     .obtain rfl:a.2.2=d:=by rw[K]
      refine Y ((j:Int),r) (Z o f K) (by rw[f];rfl) t q2 ?_;rw[ny,H,<- rO P];exact J
 .intro n r q d y h;rcases(k3 _ _).mp h with h|⟨x,A,L,hk,hz⟩
  .rw[O]at h;obtain⟨j,x,e1,e2,e3,e4⟩:=i.lk.to h;exact⟨j,x,e1,e2,e3,(g _ _).mpr (.inl e4)⟩
  .obtain⟨n',r'⟩:=x;obtain⟨rfl,hz⟩:=Prod.mk.inj hz;obtain⟨rfl,s⟩:=Prod.mk.inj hz;obtain⟨j,l,rfl,o,hc,f⟩:=Hs.to A;obtain⟨rfl,B⟩:=Prod.mk.inj hk;have L:r.2.2.2.length=2:=L;have B:y=nth1 r.2.2.2:=B;rw[f]at L B;refine⟨j,a.2.1,rfl,o,?_,(g _ _).mpr (.inr ⟨by rw[hc],s.symm⟩)⟩;rcases l with _|⟨z,_|_⟩
   .cases L
   .rw[f,B];rfl
   .cases L
 .intro j r x y d q o f s;rw[k3];rcases(g _ _).mp s with h|⟨h,rfl⟩
  .rw[O];exact .inl (i.lk.of o f h)
  .exact .inr ⟨((j:Int),r),Z o f h,by rw[f];rfl,by rw[f,h];rfl,rfl⟩
 .obtain⟨G,g1,g2,g3⟩:=i.cnt.G;refine⟨a::G,UF.mpr ⟨λh=>?_,g1⟩,by grind,λc hc=>?_⟩
  .obtain⟨q,s⟩:=g3 a h;exact nS q s
  .rcases Tz.mp hc with rfl|hc
   .exact⟨p,(g _ _).mpr (.inr ⟨rfl,rfl⟩)⟩
   .obtain⟨q,s⟩:=g3 c hc;exact⟨q,(g _ _).mpr (.inl s)⟩
 .have:=i.cnt.ln;have:=D (a.1,a.2.1);rw[P,V,Xi,Nat.mul_one];rw[O]at k2;lia
 .have c1:=i.cnt.pn;have c2:=e1.len;have c3:=e2.len;have c4:=i.cnt.ln;have c5:=nY S.aH (a.1,a.2.1);have c6:(rs.get (a.1,a.2.1)).length*F.settled.flat.length<=RL.length*(S.settled.flat.length+1):=by rw[s2,V];exact Nat.mul_le_mul_right _ (D _)
  rw[T3]at c1;have c7:(note S a p).aE.flat.length=S.aE.flat.length:=rfl;rw[P,V];have c8:RL.length*((S.settled.flat.length+1)*(S.settled.flat.length+1))=RL.length*(S.settled.flat.length*S.settled.flat.length)+RL.length*S.settled.flat.length+RL.length*(S.settled.flat.length+1):=by rw[Nat.add_mul,Nat.one_mul,Xi RL.length,Xi S.settled.flat.length,Nat.mul_one,Xi RL.length (S.settled.flat.length*S.settled.flat.length)]
  rw[c8];lia
def I.skip(i:I RL M U pile C S (x::rest))(h:¬Mz S x=true):I RL M U pile C S rest:=by
 have b:=i.bg.b;refine⟨⟨⟨b.q,b.nd,(UF.mp b.nr).2,b.tk,b.tu,b.ju,b.ps,b.sd,λc w e=>?_,λq c h=>b.it q c (h.elim .inl λh=>.inr (Tu _ h)),λq c h=>b.ns q c (h.elim .inl λh=>.inr (Tu _ h)),b.m0⟩,i.bg.gt,λy a=>i.bg.eq y (Tu _ a),i.bg.mh⟩,i.Fe,i.lk,i.cnt.so,i.cnt.G,i.cnt.ln,by have:=i.cnt.pn;rw[T3]at this;lia⟩;rcases b.sp c w e with k|k|k
 .exact .inl k
 .exact .inr (.inl k)
 .grind [Mz]
theorem I.batch(Hs:wb RL M U rs)(b:∀k,(rs.get k).length<=RL.length):∀(l:List (Int×Arr)){S:PS},I RL M U pile C S l->
 I RL M U pile C (batch pile rs S l) []/\S.settled.flat.length<=(batch pile rs S l).settled.flat.length/\((batch pile rs S l).settled.flat.length=S.settled.flat.length->batch pile rs S l=S)
 |[],S,i=>⟨i,To _,λ_=>rfl⟩
 |x::l,S,i=>by
  show I RL M U pile C (Pz.batch pile rs (turn pile rs S x) l) []/\_<=(Pz.batch pile rs (turn pile rs S x) l).settled.flat.length/\((Pz.batch pile rs (turn pile rs S x) l).settled.flat.length=_->Pz.batch pile rs (turn pile rs S x) l=S);unfold turn;by_cases h:Mz S x=true
  .rw[Tt h];obtain⟨p,a⟩:=x;unfold Mz at h;cases e:bA S.told a with
   |none=>rw[show((p,a):Int×Arr).2=a from rfl,e]at h;cases h
   |some v=>rw[show((p,a):Int×Arr).2=a from rfl,e]at h;obtain⟨j,n⟩:=i.settle Hs b e (T_ h);obtain⟨c,d,f⟩:=I.batch Hs b l j;exact⟨c,by grind,λq=>by grind⟩
  .rw[TC h];exact I.batch Hs b l (i.skip h)
structure Top(RL:List Rule) (M U:List Arr) (pile:Int->Int->Int) (C:Nat) (S:PS):Prop where
 b:B RL M pile U S []
 mh:∀a∈M,gL S a 0
 Fe:J6 RL S
 lk:Lk RL S
 cnt:SE RL C S 0
def I.top(i:I RL M U pile C S []):Top RL M U pile C S:=⟨i.bg.b,i.bg.mh,i.Fe,i.lk,i.cnt⟩
theorem Top.take(P:ug pile)(t:Top RL M U pile C S)(d:S.aE≠[]):I RL M U pile C (take pile S) (dI pile S.aE):=by
 have b:=t.b;have k:=Aw P b.q d;have mem:∀x,x∈S.aE.flat↔x∈(left pile S.aE).flat\/x∈dI pile S.aE:=λx=>by rw[k.pm.mem_iff,T4];exact Or.comm
 obtain⟨f,g,_⟩:=UZ.mp (k.pm.nodup_iff.mp b.nd);have no:∀{q c},(q,c)∉([]:List (Int×Arr)):=λh=>nomatch h;refine⟨⟨⟨k.ok,g,f,b.tk,b.tu,b.ju,b.ps,λa p h=>⟨VF (b.sd a p h).1 k.ge,(b.sd a p h).2⟩,λa v e=>?_,λp a h=>b.it p a (.inl ((mem _).mpr h)),λp a h=>b.ns p a (.inl ((mem _).mpr h)),b.m0⟩,k.lt,k.eq,t.mh⟩,t.Fe,⟨t.lk.ok,t.lk.to,t.lk.of⟩,t.cnt.so,t.cnt.G,t.cnt.ln,?_⟩
 .rcases b.sp a v e with h|h|h
  .exact .inl h
  .exact .inr ((mem _).mp h)
  .exact(no h).elim
 .have h1:=k.pm.length_eq;rw[TU]at h1;have h2:=t.cnt.pn;show(left pile S.aE).flat.length+(dI pile S.aE).length<=_;show _<=C+RL.length*(S.settled.flat.length*S.settled.flat.length);lia
theorem j7{α:Type}[DecidableEq α]:∀(l m:List α),l.Nodup->(∀x∈l,x∈m)->l.length<=m.length
 |[],m,_,_=>T2 _
 |x::l,m,nd,h=>by
  have c:=h x Tw;have a:=UF.mp nd;have:=j7 l (m.erase x) a.2 λy b=>(List.mem_erase_of_ne (λ(e:y=x)=>a.1 (by grind))).mpr (h y (Tu _ b))
  grind
def Top.gg(t:Top RL M U pile C S):S.settled.flat.length<=U.length/\S.told.length<=U.length:=by
 obtain⟨G,g1,g2,g3⟩:=t.cnt.G;constructor
 .rw[<- g2];exact j7 G U g1 λa ha=>by obtain⟨q,c⟩:=g3 a ha;obtain⟨_,v,e,_⟩:=t.b.sd a q c;exact t.b.tu a v e
 .have:=j7 (S.told.map (·.1)) U t.b.tk λa ha=>by obtain⟨x,d,rfl⟩:=TH.mp ha;exact t.b.tu x.1 x.2 (vw t.b.tk d)
  rwa [Tp]at this
def Top.fit(t:Top RL M U pile C S)(c:C+RL.length*(U.length*U.length)<L)(d:RL.length*U.length<L)(e:U.length<L):kK S:=by obtain⟨a,f⟩:=t.gg;have g:=iA t.b.q.ok;have h:=iA t.cnt.so;have i:=iA t.lk.ok;have j:=t.cnt.pn;have k:RL.length*(S.settled.flat.length*S.settled.flat.length)<=RL.length*(U.length*U.length):=W6 _ (Wi a a);have l:=t.cnt.ln;have m:RL.length*S.settled.flat.length<=RL.length*U.length:=W6 _ a;constructor<;>lia
def Top.loop(P:ug pile)(Hs:wb RL M U rs)(g:∀k,(rs.get k).length<=RL.length)(o:C+RL.length*(U.length*U.length)<L)(p:RL.length*U.length<L)(s:U.length<L) :
 ∀(a b:Nat)(S:PS),Top RL M U pile C S->U.length-S.settled.flat.length<=a->S.aE.flat.length<=b->∃n T,Loop pile rs n S T/\Top RL M U pile C T/\T.aE=[]:=by
 have step:∀S,Top RL M U pile C S->S.aE≠[]->let S2:=batch pile rs (Pz.take pile S) (dI pile S.aE);Top RL M U pile C S2/\(∀n T,Loop pile rs n S2 T->Loop pile rs (n+1) S T)/\
  (S.settled.flat.length<S2.settled.flat.length\/S2.settled.flat.length=S.settled.flat.length/\S2.aE.flat.length<S.aE.flat.length):=by
  intro S t c;obtain⟨i,h1,h2⟩:=I.batch Hs g _ (t.take P c);have d:=i.top;refine⟨d,λn T l=>.step c t.b.q (λx u=>?_) (t.fit o p s) (d.fit o p s) l,?_⟩
  .obtain⟨v,e,_⟩:=t.b.it x.1 x.2 (.inl ((Aw P t.b.q c).pm.mem_iff.mpr (T4.mpr (.inl u))));rw[e];simp
  have k:=Aw P t.b.q c;by_cases e:(batch pile rs (Pz.take pile S) (dI pile S.aE)).settled.flat.length=S.settled.flat.length
  .refine .inr ⟨e,?_⟩;rw[h2 e];show(left pile S.aE).flat.length<_;rw[k.pm.length_eq,TU];have:=W5.mpr k.ne;lia
  .have h1:S.settled.flat.length<=(batch pile rs (Pz.take pile S) (dI pile S.aE)).settled.flat.length:=h1;exact .inl (by lia)
 intro a;induction a with
 |zero=>
  intro b;induction b with
  |zero=>intro S t _ hb;have:S.aE=[]:=UO.mp (by have:=iA t.b.q.ok;lia);exact⟨0,S,.done this,t,this⟩
  |succ b j=>
   intro S t ha hb;by_cases c:S.aE=[]
   .exact⟨0,S,.done c,t,c⟩
   obtain⟨d,f,hd⟩:=step S t c;have:=d.gg.1;obtain⟨n,T,l,r⟩:=j _ d (by rcases hd with h|h<;>lia) (by rcases hd with h|h<;>lia);exact⟨_,T,f _ _ l,r⟩
 |succ a m=>
  intro b;induction b with
  |zero=>intro S t _ hb;have:S.aE=[]:=UO.mp (by have:=iA t.b.q.ok;lia);exact⟨0,S,.done this,t,this⟩
  |succ b j=>
   intro S t ha hb;by_cases c:S.aE=[]
   .exact⟨0,S,.done c,t,c⟩
   obtain⟨d,f,hd⟩:=step S t c;have:=d.gg.1;rcases hd with h|h
   .obtain⟨n,T,l,r⟩:=m _ _ d (by lia) (To _);exact⟨_,T,f _ _ l,r⟩
   .obtain⟨n,T,l,r⟩:=j _ d (by lia) (by lia);exact⟨_,T,f _ _ l,r⟩
end Pz
namespace Pz
def en:List Rule->Nat->List (Int×Rule)
 |[],_=>[]
 |r::l,k=>((k:Int),r)::en l (k+1)
theorem en_mem:∀{l:List Rule}{k:Nat}{n:Int}{r:Rule},(n,r)∈en l k↔∃j:Nat,n=((k+j:Nat):Int)/\l[j]?=some r
 |[],k,n,r=>⟨λh=>(TR h).elim,λ⟨j,_,h⟩=>by simp at h⟩
 |x::l,k,n,r=>by
  unfold en;rw[Tz,en_mem];constructor
  .rintro (h|⟨j,rfl,h⟩)
   .obtain⟨rfl,rfl⟩:=Prod.mk.inj h;exact⟨0,rfl,rfl⟩
   .exact⟨j+1,by lia,by simpa using h⟩
  .rintro⟨j,rfl,h⟩;cases j with
   |zero=>left;simp at h;subst h;rfl
   |succ j=>exact .inr ⟨j,by lia,by simpa using h⟩
theorem pB:∀(l:List Rule)(k:Nat),(en l k).length=l.length:=by intro l;induction l<;>grind [en]
def gy(d:RS)(x:Int×Rule):RS:=if x.2.2.2.2.length>0 then d.app (x.2.2.2.1,x.2.2.2.2[0]?.getD 0) x else d
def bM(RL:List Rule):RS:=(en RL 0).foldl gy []
def Az(d:RS)(x:Int×Rule)(k:Int×Int)(z:Int×Rule):z∈(gy d x).get k↔z∈d.get k\/(z=x/\∃y l,x.2.2.2.2=y::l/\k=(x.2.2.2.1,y)):=by
 unfold gy;cases h:x.2.2.2.2 with
 |nil=>grind
 |cons y l=>
  rw[Tt (by simp),tq]
  grind
theorem tD:∀(l:List (Int×Rule))(d:RS)(k:Int×Int)(z:Int×Rule),z∈(l.foldl gy d).get k↔z∈d.get k\/(z∈l/\∃y a,z.2.2.2.2=y::a/\k=(z.2.2.2.1,y))
 |[],d,k,z=>⟨.inl,λq=>q.elim id λq=>(TR q.1).elim⟩
 |x::l,d,k,z=>by
  rw[Vz,tD l,Az,Tz];constructor
  .rintro ((h|⟨rfl,h⟩)|⟨h1,h2⟩)
   .exact .inl h
   .exact .inr ⟨.inl rfl,h⟩
   .exact .inr ⟨.inr h1,h2⟩
  .rintro (h|⟨rfl|h1,h2⟩)
   .exact .inl (.inl h)
   .exact .inl (.inr ⟨rfl,h2⟩)
   .exact .inr ⟨h1,h2⟩
theorem xD:∀(l:List (Int×Rule))(d:RS),d.Ok->(l.foldl gy d).Ok/\(l.foldl gy d).flat.length<=d.flat.length+l.length
 |[],d,h=>⟨h,To _⟩
 |x::l,d,h=>by
  rw[Vz,T3];have:(gy d x).Ok/\(gy d x).flat.length<=d.flat.length+1:=by
   unfold gy;split
   .exact⟨px h _ _,Xl (fX h.nk _ _).length_eq⟩
   .exact⟨h,by lia⟩
  obtain⟨a,b⟩:=xD l _ this.1;exact⟨a,by lia⟩
theorem vA{κ α:Type}:MD.Ok (κ:=κ) (α:=α) []:=⟨Uq,λ_ h=>(TR h).elim⟩
def J7(RL:List Rule):(bM RL).Ok/\(bM RL).flat.length<=RL.length:=by
 grind [bM,en,MD.flat,xD,vA,pB]
def S0:PS:=⟨[],0,[],[],[]⟩
variable(pile:Int->Int->Int)
def ja(S:PS)(a:Arr):PS:=be pile S a 0 none none
def eV(S:PS)(x:Int×Rule):PS:=if x.2.2.2.2.length=0 then be pile S (x.2.1,x.2.2.1,x.2.2.2.1) 1 (some x.1) none else S
def jM(RL:List Rule)(M:List Arr):PS:=(en RL 0).foldl (eV pile) (M.foldl (ja pile) S0)
variable{pile}
structure Bn(RL:List Rule) (M U:List Arr) (pile:Int->Int->Int) (S:PS) (k:Nat):Prop where
 b:B RL M pile U S []
 l0:S.last=0
 s0:S.settled=[]
 k0:S.aH=[]
 len:S.aE.flat.length<=k
def Bn.no(h:Bn RL M U pile S k)(a:Arr)(q:Int):¬Sd S a q:=by unfold Sd;rw[h.s0];exact λh=>(TR h).elim
theorem Bn.be(h:Bn RL M U pile S k)(c:Just RL M (Sd S) a (p,n,m))(d:a∈U)(e:0<=p)(f:a∈M->gL S a 0\/(p,n,m)=(0,none,none)):Bn RL M U pile (be pile S a p n m) (k+1):=by obtain⟨e1,e2,e3⟩:=iC (pile:=pile) (S:=S) a p n m;exact⟨h.b.be c d (by rw[h.l0];exact e) (λh=>(TR h).elim) (h.no _ _) f,by rw[e3];exact h.l0,by rw[e1];exact h.s0,by rw[e2];exact h.k0,T6 (rN h.b.q.ok _ _ _ _) (Nat.add_le_add_right h.len 1)⟩
def QF:Bn RL M U pile S0 0:=by have no:∀{α:Type}{x:α},x∉([]:List α):=λh=>(TR h).elim;exact⟨⟨⟨vA,Int.le_refl _,λ_ h=>(no h).elim⟩,Uq,Uq,Uq,(λ_ _ h=>nomatch h),(λ_ _ h=>nomatch h),(λ_ _ h=>nomatch h),(λ_ _ h=>(no h).elim),(λ_ _ h=>nomatch h),(λ_ _ h=>h.elim (λh=>(no h).elim) λh=>(no h).elim),(λ_ _ h=>h.elim (λh=>(no h).elim) λh=>(no h).elim),(λ_ _ h=>nomatch h)⟩,rfl,rfl,rfl,To _⟩
theorem Np:∀(l:List Arr){S:PS}{k:Nat},Bn RL M U pile S k->(∀a∈l,a∈M/\a∈U)->Bn RL M U pile (l.foldl (ja pile) S) (k+l.length)/\(∀a p,gL S a p->gL (l.foldl (ja pile) S) a p)/\∀a∈l,gL (l.foldl (ja pile) S) a 0
 |[],S,k,h,_=>⟨h,λ_ _ h=>h,λ_ h=>(TR h).elim⟩
 |a::l,S,k,h,c=>by
  obtain⟨h1,h2⟩:=c a Tw;have e:=h.be (a:=a) (p:=0) (n:=none) (m:=none) ⟨rfl,rfl,h1⟩ h2 (Int.le_refl _) λ_=>.inr rfl;obtain⟨f,d,g⟩:=Np l e λb hb=>c b (Tu _ hb);rw[Vz,T3,Xm l.length,<- Nat.add_assoc];refine⟨f,λb p h=>d b p (iB h),λb hb=>?_⟩;rcases Tz.mp hb with rfl|hb
  .exact d _ _ (j6 _ _ _ _)
  .exact g b hb
theorem Nq(u2:∀r∈RL,(r.1,r.2.1,r.2.2.1)∈U):∀(l:List (Int×Rule)){S:PS}{k:Nat},Bn RL M U pile S k->(∀a∈M,gL S a 0)->(∀x∈l,∃j:Nat,x.1=j/\RL[j]?=some x.2)->
 Bn RL M U pile (l.foldl (eV pile) S) (k+l.length)/\(∀a p,gL S a p->gL (l.foldl (eV pile) S) a p)/\∀x∈l,x.2.2.2.2=[]->gL (l.foldl (eV pile) S) (x.2.1,x.2.2.1,x.2.2.2.1) 1
 |[],S,k,h,_,_=>⟨h,λ_ _ h=>h,λ_ h=>(TR h).elim⟩
 |x::l,S,k,h,c,d=>by
  obtain⟨j,e1,e2⟩:=d x Tw;have one:Bn RL M U pile (eV pile S x) (k+1)/\(∀a p,gL S a p->gL (eV pile S x) a p)/\(x.2.2.2.2=[]->gL (eV pile S x) (x.2.1,x.2.2.1,x.2.2.2.1) 1):=by
   unfold eV;by_cases h0:x.2.2.2.2.length=0
   .rw[Tt h0];have e:=h.be (a:=(x.2.1,x.2.2.1,x.2.2.2.1)) (p:=1) (n:=some x.1) (m:=none) ⟨j,x.2,e1,e2,rfl,rfl,by rw[UO.mp h0];exact⟨rfl,rfl,rfl⟩⟩ (u2 _ (T5 e2)) (by decide) λh=>.inl (c _ h);exact⟨e,λb p h=>iB h,λ_=>j6 _ _ _ _⟩
   .rw[TC h0];exact⟨⟨h.b,h.l0,h.s0,h.k0,Nat.le_succ_of_le h.len⟩,λ_ _ h=>h,λe=>(h0 (by rw[e];rfl)).elim⟩
  obtain⟨o1,f,i⟩:=one;obtain⟨o,g,q⟩:=Nq u2 l o1 (λa ha=>f a 0 (c a ha)) λb hb=>d b (Tu _ hb);rw[Vz,T3,Xm l.length,<- Nat.add_assoc];refine⟨o,λb p h=>g b p (f b p h),λb hb e=>?_⟩;rcases Tz.mp hb with rfl|hb
  .exact g _ _ (i e)
  .exact q b hb e
structure Set(RL:List Rule) (M U:List Arr):Prop where
 gg:∀r∈RL,r.2.2.2.length<=2
 u1:∀a∈M,a∈U
 u2:∀r∈RL,(r.1,r.2.1,r.2.2.1)∈U
 u3:∀r∈RL,∀s x t,(s,x,t)∈U->(r.1,r.2.1,t)∈U
 big:M.length+RL.length+RL.length*(U.length*U.length)<L
 PK:RL.length*U.length<L
 PB:U.length<L
def Set.PJ(h:Set RL M U):wb RL M U (bM RL):=by
 refine⟨h.gg,λ{n r c x} q=>?_,λ{j r x l} e1 e2=>?_,h.u1,h.u2,h.u3⟩
 .rcases (tD _ _ _ _).mp q with q|⟨q,y,l,e,k⟩
  .exact(TR q).elim
  .obtain⟨j,e1,e2⟩:=en_mem.mp q
   grind
 .exact(tD _ _ _ _).mpr (.inr ⟨en_mem.mpr ⟨j,by grind,e1⟩,x,l,e2,rfl⟩)
def AA(h:Set RL M U):Top RL M U pile (M.length+RL.length) (jM pile RL M):=by
 obtain⟨f,p,e⟩:=Np (RL:=RL) (M:=M) (U:=U) (pile:=pile) M QF λa ha=>⟨ha,h.u1 a ha⟩;obtain⟨c,g,i⟩:=Nq h.u2 (en RL 0) f e λx k=>by obtain⟨j,e1,e2⟩:=en_mem.mp k;exact⟨j,by grind,e2⟩
 have c:Bn RL M U pile (jM pile RL M) _:=c;refine⟨c.b,λa ha=>g a 0 (e a ha),λj r m=>?_,⟨by rw[c.k0];exact vA,λ{n r q d y} h=>by rw[c.k0]at h;exact(TR h).elim,λ_ _ h=>(c.no _ _ h).elim⟩,⟨by rw[c.s0];exact vA,⟨[],Uq,by rw[c.s0];rfl,λ_ h=>(TR h).elim⟩,by rw[c.k0];exact T2 _,?_⟩⟩
 .cases o:r.2.2.2 with
  |nil=>exact i ((j:Int),r) (en_mem.mpr ⟨j,by grind,m⟩) o
  |cons x l=>
   match l with
   |[]=>exact λt q h=>(c.no _ _ h).elim
   |[y]=>exact λd t q1 q2 h=>(c.no _ _ h).elim
   |_::_::_=>trivial
 .have:=c.len;rw[pB]at this;lia
def At(t:TD)(a:Arr)(q:Int):Prop:=∃w,bA t a=some w/\w.1=q
def QG(t:TD)(a:Arr)(q:Int):Prop:=∃w,bA t a=some w/\w.1<=q
structure Good(RL:List Rule) (M U:List Arr) (t:TD):Prop where
 nd:(t.map (·.1)).Nodup
 u:∀a v,bA t a=some v->a∈U
 ju:∀a v,bA t a=some v->Just RL M (At t) a v
 ps:∀a v,bA t a=some v->0<=v.1
 m0:∀a∈M,bA t a=some (0,none,none)
 Fe:∀(j:Nat)(r:Rule),RL[j]?=some r->match r.2.2.2 with
  |[]=>QG t (r.1,r.2.1,r.2.2.1) 1
  |[x]=>∀d q,At t (r.2.2.1,x,d) q->QG t (r.1,r.2.1,d) (q+1)
  |[x,y]=>∀d e q1 q2,At t (r.2.2.1,x,d) q1->At t (d,y,e) q2->QG t (r.1,r.2.1,e) (q1+q2+1)
  |_=>True
def Top.good(h:Top RL M U pile C S)(e:S.aE=[]):Good RL M U S.told:=by
 have c:∀a q,Sd S a q↔At S.told a q:=λa q=>by
  constructor
  .intro k;exact(h.b.sd a q k).2
  .rintro⟨w,k,rfl⟩;rcases h.b.sp a w k with k|k|k
   .exact k
   .rw[e]at k;exact(TR k).elim
   .exact(TR k).elim
 refine⟨h.b.tk,h.b.tu,λa v k=>(h.b.ju a v k).mono RL M λa q=>(c a q).mp,h.b.ps,λa ha=>?_,λj r g=>?_⟩
 .obtain⟨v,k,_⟩:=h.mh a ha;rw[k,h.b.m0 a v k ha]
 .have hc:=h.Fe j r g;cases f:r.2.2.2 with
  |nil=>rw[f]at hc;exact hc
  |cons x l=>
   rw[f]at hc
   match l with
   |[]=>exact λt q k=>hc t q ((c _ _).mpr k)
   |[y]=>exact λd t q1 q2 k1 k2=>hc d t q1 q2 ((c _ _).mpr k1) ((c _ _).mpr k2)
   |_::_::_=>trivial
def Set.run(P:ug pile)(h:Set RL M U):kK (jM pile RL M)/\∃n T,Loop pile (bM RL) n (jM pile RL M) T/\Good RL M U T.told:=by have t:=AA (pile:=pile) h;obtain⟨n,T,l,a,e⟩:=t.loop P h.PJ (λk=>T6 (nY _ k) (J7 RL).2) h.big h.PK h.PB _ _ _ (To _) (To _);exact⟨t.fit h.big h.PK h.PB,n,T,l,a.good e⟩
end Pz
namespace Pz
def Gs(x y k:Nat):(x ||| y)-(x &&& y)<2^k↔x/2^k=y/2^k:=by
 have c:(x ||| y)/2^k=x/2^k ||| y/2^k:=by rw[<- U3,<- U3,<- U3,Nat.shiftRight_or_distrib]
 have d:(x &&& y)/2^k=x/2^k &&& y/2^k:=by rw[<- U3,<- U3,<- U3,Nat.shiftRight_and_distrib]
 have e:(x ||| y)%2^k=x%2^k ||| y%2^k:=Nat.or_mod_two_pow;have f:(x &&& y)%2^k=x%2^k &&& y%2^k:=Nat.and_mod_two_pow;have pos:0<2^k:=Nat.two_pow_pos k;have g:=Nat.div_add_mod (x ||| y) (2^k);have i:=Nat.div_add_mod (x &&& y) (2^k);have j:=Xn (x ||| y) pos;have l:x/2^k &&& y/2^k<=x/2^k:=Nat.and_le_left;have m:x/2^k &&& y/2^k<=y/2^k:=Nat.and_le_right;have n:x/2^k<=x/2^k ||| y/2^k:=Nat.left_le_or;have o:y/2^k<=x/2^k ||| y/2^k:=Nat.right_le_or;have p:x%2^k &&& y%2^k<=x%2^k:=Nat.and_le_left;have q:x%2^k<=x%2^k ||| y%2^k:=Nat.left_le_or;constructor
 .intro h;refine Nat.le_antisymm ?_ ?_
  all_goals
   refine Nat.not_lt.mp λhc=>?_;have a:(x &&& y)/2^k+1<=(x ||| y)/2^k:=by lia
   have b:=W6 (2^k) a;rw[Xi,Nat.mul_one]at b;lia
 .grind
def Gu(z k:Nat):(if((z:Int)==0)=true then 0 else(z:Int).natAbs.log2+1)<=k↔z<2^k:=by
 rw[Int.natAbs_natCast];by_cases h:z=0
 .subst h;rw[Tt (by decide)];exact⟨λ_=>Nat.two_pow_pos k,λ_=>T2 _⟩
 .have:¬((z:Int)==0)=true:=by simpa using h
  rw[TC this];exact Nat.log2_lt h
end Pz
namespace L4
open PySem PySem.Spec PyProof.Rows L2 L3
section
variable{κ:Type}[DecidableEq κ]
abbrev DX(κ:Type):=List (κ×Addr×List V)
abbrev DX.kv(xs:DX κ):List (κ×V):=xs.map λx=>(x.1,V.ref x.2.1)
structure DL(mk:List (κ×V)->HO) (H:Hp) (a:Addr) (xs:DX κ):Prop where
 root:H a=some (mk xs.kv)
 uk:∀x∈xs,H x.2.1=some (.lst x.2.2)
 nk:(xs.map (·.1)).Nodup
 na:(xs.map (·.2.1)).Nodup
def cT(a:Addr)(xs:DX κ)(b:Addr):Prop:=b=a\/∃x∈xs,b=x.2.1
def gz(xs:DX κ)(k:κ):Option (Addr×List V):=(xs.find? λx=>decide (x.1=k)).map (·.2)
def mN(xs:DX κ)(k:κ)(v:V):DX κ:=xs.map λx=>if x.1=k then(x.1,x.2.1,x.2.2++[v])else x
def kY(xs:DX κ)(k:κ):c9 xs.kv k=(gz xs k).map λp=>.ref p.1:=by
 induction xs with
 |nil=>rfl
 |cons x r a=>
  unfold gz at a ⊢;show c9 ((x.1,V.ref x.2.1)::DX.kv r) k=_;rw[Vy];by_cases h:x.1=k
  .rw[hI h,TZ h];rfl
  .rw[hJ h,Uw h,a]
def AB(xs:DX κ)(k:κ)(v:V):(mN xs k v).kv=xs.kv:=by unfold mN DX.kv;rw[T7];apply UP;intro x _;show((if x.1=k then(x.1,x.2.1,x.2.2++[v])else x).1,V.ref (if x.1=k then(x.1,x.2.1,x.2.2++[v])else x).2.1)=_;split<;>rfl
def pC{e:Type}(f:κ×Addr×List V->e)(g:∀a b c d,f (a,b,c)=f (a,b,d))(xs:DX κ)(k:κ)(v:V):(mN xs k v).map f=xs.map f:=by
 unfold mN;rw[T7];apply UP;intro x _;show f (if x.1=k then(x.1,x.2.1,x.2.2++[v])else x)=_;split
 .exact g _ _ _ _
 .rfl
def dJ{xs:DX κ}(h:gz xs k=some p):(k,p)∈xs:=by unfold gz at h;obtain⟨x,c,rfl⟩:=Ux.mp h;have h1:=List.find?_some c;have h2:=List.mem_of_find?_eq_some c;have e:x.1=k:=T_ h1;obtain⟨a,b⟩:=x;dsimp only at e;subst e;exact h2
def AC{xs:DX κ}(h:gz xs k=none):k∉xs.map (·.1):=λa=>by obtain⟨x,b,rfl⟩:=TH.mp a;unfold gz at h;have:=List.find?_eq_none.mp (Option.map_eq_none_iff.mp h) x b;simp at this
variable{mk:List (κ×V)->HO}
def DL.old(f:∀q ws,mk q≠.lst ws)(G:DL mk H a xs)(m:gz xs k=some p)(n:H' p.1=some (.lst (p.2++[v])))(kp:∀c u,H c=some u->c≠p.1->H' c=some u):DL mk H' a (mN xs k v):=by
 have g:=dJ m;have h:a≠p.1:=λe=>by have:=G.uk _ g;dsimp only at this;rw[<- e,G.root]at this;exact f _ _ (Um this)
 refine⟨by rw[AB];exact kp _ _ G.root h,λx o=>?_,by rw[pC _ (λ_ _ _ _=>rfl)];exact G.nk,by rw[pC _ (λ_ _ _ _=>rfl)];exact G.na⟩;obtain⟨y,l,rfl⟩:=TH.mp o;by_cases e:y.1=k
 .rw[Tt e];have:y=(k,p):=by
   have h1:(xs.map (·.1)).Nodup:=G.nk;obtain⟨i,d⟩:=TN.mp l;obtain⟨j,b⟩:=TN.mp g;have e1:(xs.map (·.1))[i]?=some k:=by rw[TL,d];exact U1 some e
   have e2:(xs.map (·.1))[j]?=some k:=by rw[TL,b];rfl
   have:i=j:=(Wa (Tq.mp e1).1 h1).mp (e1.trans e2.symm);subst this;rw[d]at b;exact Um b
  subst this;exact n
 .rw[TC e];refine kp _ _ (G.uk y l) λq=>e ?_;obtain⟨i,d⟩:=TN.mp l;obtain⟨j,b⟩:=TN.mp g;have e1:(xs.map (·.2.1))[i]?=some p.1:=by rw[TL,d];exact U1 some q
  have e2:(xs.map (·.2.1))[j]?=some p.1:=by rw[TL,b];rfl
  have:i=j:=(Wa (Tq.mp e1).1 G.na).mp (e1.trans e2.symm);subst this;rw[d]at b;rw[Um b]
def DL.new(f:∀q ws,mk q≠.lst ws)(G:DL mk H a xs)(g:gz xs k=none)(i:H l=none)(j:H' l=some (.lst [v]))(ha:H' a=some (mk (xs.kv++[(k,.ref l)])))(kp:∀c u,H c=some u->c≠a->H' c=some u):DL mk H' a (xs++[(k,l,[v])]):=by
 have nl:∀x∈xs,x.2.1≠l:=λx d e=>by have:=G.uk x d;rw[e,i]at this;cases this
 refine⟨by grind,λx d=>?_,?_,?_⟩
 .rcases T4.mp d with h|h
  .refine kp _ _ (G.uk x h) λe=>?_;have:=G.uk x h;rw[e,G.root]at this;exact f _ _ (Um this)
  .rw[TV]at h;subst h;exact j
 .rw[Ua,UZ];exact⟨G.nk,by simp,λb hb c hc e=>by rw[TJ,Wp,TV]at hc;subst hc;subst e;exact AC g hb⟩
 .rw[Ua,UZ];exact⟨G.na,by simp,λb hb c hc e=>by rw[TJ,Wp,TV]at hc;subst hc;subst e;obtain⟨x,d,q⟩:=TH.mp hb;exact nl x d q⟩
end
def Reads(t:TE)(σ:L2.St)(H:Hp)(v:V):Prop:=∀Q:VK,Q v H->t σ H Q
def Makes(t:TE)(σ:L2.St)(H:Hp)(ws:List V):Prop:=∀Q:VK,(∀p,H p=none->Q (.ref p) (upd H p (.tup ws)))->t σ H Q
section
variable{K:Xp}
def Reads.va(h:σ[i]?=some (some v)):Reads (am i) σ H v:=λ_ q=>⟨_,h,q⟩
def Reads.k:Reads (tC v) σ H v:=λ_ q=>q
def Reads.op(ha:Reads ta σ H x)(hb:Reads tb σ H y)(h:∀Q:VK,Q z H->r x y H Q):Reads (cY r ta tb) σ H z:=λQ q=>ha _ (hb _ (h Q q))
def Reads.ix(h:Reads ta σ H (.ref b))(a:H b=some (.tup ws))(e:eU ws n=some v):Reads (cY (nE K) ta (tC (.int n))) σ H v:=h.op .k λ_ q=>⟨b,ws,n,v,rfl,rfl,SqT.of a,e,q⟩
def Reads.fld(h:Reads ta σ H (.ref o))(a:∃dx,H o=some (.ins C dx fs))(cl:uu K C)(n:NoAttr K C f)(b:fs.lookup f=some v):Reads (eR K ta f) σ H v:=λQ q=>by obtain⟨dx,a⟩:=a;exact h _ ⟨o,C,dx,_,_,rfl,a,cl,n,b,q⟩
def J8(h:Reads ta σ H (.ref o))(a:∃dx,H o=some (.ins C dx fs))(cl:uu K C)(n:NoAttr K C f)(b:fs.lookup f=some v)(q:Q v H):eR K ta f σ H Q:=Reads.fld h a cl n b _ q
def ReadsA(t:TA)(σ:L2.St)(H:Hp)(vs:List V):Prop:=∀Q:List V->Hp->Prop,Q vs H->t σ H Q
def ReadsA.ni:ReadsA aG σ H []:=λ_ q=>q
def ReadsA.c(h:Reads ta σ H v)(k:ReadsA tr σ H vs):ReadsA (ai ta tr) σ H (v::vs):=λ_ q=>h _ (k _ q)
def Makes.t(h:ReadsA tr σ H ws)(l:Nat.ble ws.length 9=true):Makes (eY tr) σ H ws:=λ_ q=>h _ ⟨T6 (Vp l) (by decide),q⟩
def xE(h:ReadsA tr σ H ws)(l:Nat.ble ws.length 9=true)(k:∀p,H p=none->Q (.ref p) (upd H p (.tup ws))):eY tr σ H Q:=Makes.t h l _ k
def vD(h:Reads ta σ H (.ref b))(a:∃dx,H b=some (.ins C dx fs))(c:fs.lookup m=none)(ha:ReadsA tr σ H vs)(k:sp (.ref b::(vs++dvs)) H Q E):eS C m sp dvs E ta tr σ H Q:=by obtain⟨dx,a⟩:=a;exact h _ ⟨b,dx,fs,rfl,a,c,ha _ k⟩
def EX{Q:L2.St->Hp->Prop}(a:H b=some (.tup [v,w]))(k:Q ((σ.set i (some v)).set j (some w)) H):dU K 2 (aQ (ay i) (aQ (ay j) dS)) (.ref b) σ H Q:=⟨b,_,rfl,SqT.of a,rfl,_,_,rfl,_,_,rfl,rfl,k⟩
def jN{t u:TS}{D:Ends}(h:Reads te σ H (.bl c))(k1:c=true->t D σ H)(k2:¬c=true->u D σ H):gh (cS te) t u D σ H:=h _ ⟨_,rfl,FG k1 k2⟩
end
def mP{κ:Type}[DecidableEq κ](xs:DX κ)(k:κ)(l:Addr)(v:V):DX κ:=if(gz xs k).isSome then mN xs k v else xs++[(k,l,[v])]
def pE(K:Xp)(to tk te:TE):TE:=EU K "list" gq (EU K "dict" xb to (ai tk (ai (je aG) aG))) (ai te aG)
def ze{κ:Type}[DecidableEq κ]{mk:List (κ×V)->HO}(r:∀q ws,mk q≠.lst ws){K:Xp}{te:TE}{σ:L2.St}{H:Hp}{a l:Addr}{xs:DX κ}{k:κ}{ws:List V}{C:Hp->Prop}(G:DL mk H a xs)(i:H l=none)
 (s:∀H',(∀c u,H c=some u->c≠a->H' c=some u)->Makes te σ H' ws) (F:∀x∈xs,x.2.2.length<16000000)
 (D:∀(l p:Addr)(H':Hp),H l=none->H p=none->H' p=some (.tup ws)->DL mk H' a (mP xs k l (.ref p))->(∀c u,H c=some u->¬cT a xs c->H' c=some u)->C H') :
 (∃v,c9 xs.kv k=some v/\MW K "list" v (upd H l (.lst []))/\ai te aG σ (upd H l (.lst [])) λxs y=>gq v xs y λ_ H'=>C H')\/(c9 xs.kv k=none/\MW K "list" (.ref l) (upd (upd H l (.lst [])) a (mk (bW xs.kv k (.ref l))))/\ai te aG σ (upd (upd H l (.lst [])) a (mk (bW xs.kv k (.ref l)))) λxs y=>gq (.ref l) xs y λ_ H'=>C H'):=by
 have sz:∀n,n<16000000->n<sizeLine:=λn h=>by rw[Ud];lia
 have A:H a≠none:=by rw[G.root];simp
 have f:a≠l:=λe=>A (by rw[e];exact i);have m:∀c u,H c=some u->upd H l (.lst []) c=some u:=λc u e=>by rw[ag (aj e i)];exact e
 cases d:gz xs k with
 |some q=>
  left;have E:=G.uk _ (dJ d);refine⟨.ref q.1,by rw[kY,d];rfl,.inl ⟨rfl,_,SqL.of (m _ _ E)⟩,s _ (λc u e _=>m c u e) _ λp j=>?_⟩;have b:H p=none:=(ao i).free j;have t:q.1≠p:=λe=>by grind
  refine⟨q.1,q.2,.ref p,rfl,rfl,by rw[ag t];exact m _ _ E,sz _ (F _ (dJ d)),?_⟩;have kp:∀c u,H c=some u->c≠q.1->upd (upd (upd H l (.lst [])) p (.tup ws)) q.1 (.lst (q.2++[.ref p])) c=some u:=λc u e g=>by rw[ag g,ag (aj e b)];exact m c u e
  refine D l p _ i b (by rw[ag (UD t),af]) ?_ λc u e g=>kp c u e λz=>g (.inr ⟨_,dJ d,z⟩);unfold mP;rw[d,Tt (by simp)];exact G.old r d af kp
 |none=>
  right;refine⟨by rw[kY,d];rfl,.inl ⟨rfl,[],SqL.of (by rw[ag (UD f),af])⟩,s _ (λc u e g=>by rw[ag g];exact m c u e) _ λp j=>?_⟩;have B:c9 xs.kv k=none:=by rw[kY,d];rfl
  have w:p≠a:=λe=>by rw[e,af]at j;cases j
  have o:p≠l:=λe=>by rw[e,ag (UD f),af]at j;cases j
  have b:H p=none:=by rw[ag w,ag o]at j;exact j
  refine⟨l,[],.ref p,rfl,rfl,by rw[ag (UD o),ag (UD f),af],by decide,?_⟩;refine D l p _ i b (by rw[ag o,af]) ?_ λc u e g=>?_
  .unfold mP;rw[d,TC (by simp)];refine G.new r d i af (by rw[ag f,ag (UD w),af,jq _ B]) λc u e g=>?_;rw[ag (aj e i),ag (aj e b),ag g];exact m c u e
  .rw[ag (aj e i),ag (aj e b),ag (λz=>g (.inl z))];exact m c u e
def tE{K:Xp}{to tk te:TE}{σ:L2.St}{H:Hp}{C:Hp->Prop}(G:DL .dT H a xs)(f:Reads to σ H (.ref a))(g:Reads tk σ H (.ref b))(hb:H b=some (.tup (k.map kV)))
 (h:∀H',(∀c u,H c=some u->c≠a->H' c=some u)->Makes te σ H' ws) (hz:xs.length<16000000) (j:∀x∈xs,x.2.2.length<16000000)
 (m:∀(l p:Addr)(H':Hp),H l=none->H p=none->H' p=some (.tup ws)->DL .dT H' a (mP xs k l (.ref p))->(∀c u,H c=some u->¬cT a xs c->H' c=some u)->C H') :
 pE K to tk te σ H λ_ H'=>C H':=by
 have i:∀l,H l=none->∀c u,H c=some u->upd H l (.lst []) c=some u:=λl d c u e=>by rw[ag (aj e d)];exact e
 exact f _ ⟨.inr (.inr (.inl ⟨rfl,.inr ⟨_,G.root⟩⟩)),g _ ⟨T2 _,λl d=>⟨a,b,k,.ref l,xs.kv,rfl,rfl,i l d _ _ hb,.inl (i l d _ _ G.root),by unfold DX.kv;rw[Tp,Ud];lia,ze (mk:=.dT) (λ_ _ z=>HO.noConfusion z) G d h j m⟩⟩⟩
def Iu(K:Xp)(to tk te:TE):TE:=EU K "list" gq (EU K "dict" Ic to (ai tk (ai (je aG) aG))) (ai te aG)
def Gv{K:Xp}{to tk te:TE}{σ:L2.St}{H:Hp}{C:Hp->Prop}(G:DL .dK H a xs)(d:Reads to σ H (.ref a))(e:Reads tk σ H (.int i))
 (f:∀H',(∀c u,H c=some u->c≠a->H' c=some u)->Makes te σ H' ws) (hz:xs.length<16000000) (g:∀x∈xs,x.2.2.length<16000000)
 (h:∀(l p:Addr)(H':Hp),H l=none->H p=none->H' p=some (.tup ws)->DL .dK H' a (mP xs (.inl i) l (.ref p))->(∀c u,H c=some u->¬cT a xs c->H' c=some u)->C H') :
 Iu K to tk te σ H λ_ H'=>C H':=by
 have j:∀l,H l=none->upd H l (.lst []) a=some (.dK xs.kv):=λl b=>by rw[ag (aj G.root b)];exact G.root
 exact d _ ⟨.inr (.inr (.inl ⟨rfl,.inl ⟨_,G.root⟩⟩)),e _ ⟨T2 _,λl b=>⟨a,.inl i,.ref l,xs.kv,rfl,rfl,.inl (j l b),by unfold DX.kv;rw[Tp,Ud];lia,ze (mk:=.dK) (λ_ _ z=>HO.noConfusion z) G b f g h⟩⟩⟩
section
def Iv:V->List V->Hp->VK->Prop:=λx xs H Q=>∃i,x=.int i/\xs=[]/\Q (.int (Builtin.Int.intBits i)) H
def Gw:HZ X "int.bit_length" Iv:=by intro ac s σ H x xs v us Q I a rs q;obtain⟨i,rfl,rfl,q⟩:=q;obtain⟨t,rfl⟩:=a;cases rs;exact call_int_bit_length ⟨.int _,H,I.tok _,⟨_,rfl⟩,q⟩
end
structure Mj(C:Addr) (H:Hp) (q ap:Addr) (last:Int) (xs:DX bv):Prop where
 ins:∃dx,H q=some (.ins C dx [("last",.int last),("piles",.ref ap)])
 aE:DL .dK H ap xs
 gg:xs.length<16000000
 low:∀x∈xs,x.2.2.length<16000000
structure ul(K:Xp) (C:Addr):Prop where
 cl:uu K C
 nl:NoAttr K C "last"
 np:NoAttr K C "piles"
def au(a last:Int):Int:=Builtin.Int.intBits (Builtin.bitXor a last)
def Nr(K:Xp):TE:=Iu K (eR K (am 0) "piles") (FD K "int" Iv (cY (wu λi j=>.int (Builtin.bitXor i j)) (am 1) (eR K (am 0) "last"))) (eY (ai (am 1) (ai (am 2) aG)))
def J9{K:Xp}{C q ap b:Addr}{H:Hp}{d:Hp->Prop}(T:ul K C)(G:Mj C H q ap last xs)(h0:σ[0]?=some (some (.ref q)))(h1:σ[1]?=some (some (.int price)))(h2:σ[2]?=some (some (.ref b)))
 (e:∀(l p:Addr)(H':Hp),H l=none->H p=none->H' p=some (.tup [.int price,.ref b])->(∃dx,H' q=some (.ins C dx [("last",.int last),("piles",.ref ap)]))->DL .dK H' ap (mP xs (.inl (au price last)) l (.ref p))->(∀c u,H c=some u->¬cT ap xs c->H' c=some u)->d H') :
 Nr K σ H λ_ H'=>d H':=by
 obtain⟨dx,a⟩:=G.ins;have f:¬cT ap xs q:=λz=>by
  rcases z with z|⟨x,g,z⟩
  .have:=G.aE.root;rw[<- z,a]at this;cases this
  .have:=G.aE.uk x g;rw[<- z,a]at this;cases this
 refine Gv (ws:=[.int price,.ref b]) (i:=au price last) G.aE (λQ h=>⟨_,h0,q,C,dx,_,_,rfl,a,T.cl,T.np,rfl,h⟩) (λQ h=>?_) (λH' _ Q h=>⟨_,h1,_,h2,(by show 2<=sizeLine;decide),h⟩) G.gg G.low λl p H' j k m hd kp=>e l p H' j k m ⟨dx,kp _ _ a f⟩ hd kp;exact⟨_,h1,_,h0,q,C,dx,_,_,rfl,a,T.cl,T.nl,rfl,_,_,rfl,rfl,rfl,_,rfl,rfl,h⟩
inductive r_(C:Addr):Sp
 |mk {q ap b:Addr} {last price:Int} {xs:DX bv} {H:Hp} {Q:VK} {E:XK} (G:Mj C H q ap last xs) (k:∀(l p:Addr)(H':Hp),H l=none->H p=none->H' p=some (.tup [.int price,.ref b])->(∃dx,H' q=some (.ins C dx [("last",.int last),("piles",.ref ap)]))->DL .dK H' ap (mP xs (.inl (au price last)) l (.ref p))->(∀c u,H c=some u->¬cT ap xs c->H' c=some u)->Q .bp H'):r_ C [.ref q,.int price,.ref b] H Q E
def AD(h:r_ C vs H Q E):vs.length=3:=by cases h;rfl
def CZ{K:Xp}{C:Addr}{vs:List V}(T:ul K C)(h:r_ C vs H Q E)(a:N.length=3):cO (Nr K) {nx:=λ_ H'=>Q .bp H',rt:=Q} (bO N vs) H:=by obtain⟨G,k⟩:=h;exact J9 T G rfl rfl rfl k
section
variable{κ:Type}[DecidableEq κ]{mk:List (κ×V)->HO}{H H':Hp}{a:Addr}{xs:DX κ}{k:κ}{p:Addr×List V}
def lH(xs:DX κ)(k:κ):DX κ:=xs.filter λx=>decide (x.1≠k)
theorem C0(xs:DX κ)(k:κ):(lH xs k).kv=ku xs.kv k:=by unfold lH ku DX.kv;rw[List.filter_map];rfl
theorem DL.drop(h:∀q ws,mk q≠.lst ws)(G:DL mk H a xs)(m:gz xs k=some p)(ha:H' a=some (mk (ku xs.kv k)))(kp:∀c u,H c=some u->c≠a->H' c=some u) :
 DL mk H' a (lH xs k)/\H' p.1=some (.lst p.2)/\¬cT a (lH xs k) p.1:=by
 have g:=dJ m;have b:∀x∈xs,x.2.1≠a:=λx d e=>by have:=G.uk x d;rw[e,G.root]at this;exact h _ _ (Um this)
 have sub:(lH xs k).Sublist xs:=List.filter_sublist;refine⟨⟨by rw[C0];exact ha,λx d=>?_,(sub.map _).nodup G.nk,(sub.map _).nodup G.na⟩,kp _ _ (G.uk _ g) (b _ g),λz=>?_⟩
 .have f:=(Us.mp d).1;exact kp _ _ (G.uk x f) (b x f)
 .rcases z with z|⟨x,d,z⟩
  .exact b _ g z
  .obtain⟨h1,h2⟩:=Us.mp d;have l:x.1≠k:=T_ h2;obtain⟨i,n⟩:=TN.mp h1;obtain⟨j,o⟩:=TN.mp g;have e1:(xs.map (·.2.1))[i]?=some p.1:=by grind
   have e2:(xs.map (·.2.1))[j]?=some p.1:=by grind
   have:i=j:=(Wa (Tq.mp e1).1 G.na).mp (e1.trans e2.symm);subst this;rw[n]at o;exact l (by grind)
end
end L4
namespace L4
open PySem PySem.Spec PySem.Calls PyProof.Rows L2 L3
section
abbrev vE(v d:Addr):HO:=.ext λh=>PySem.W.KdlKeysView h v d
def Iw:V->List V->Hp->VK->Prop:=λx xs H Q=>∃a kvs,x=.ref a/\xs=[]/\H a=some (.dK kvs)/\∀v,H v=none->Q (.ref v) (upd H v (vE v a))
def Gx:HZ X "dict.keys" Iw:=by intro ac s σ H x xs v us Q I b rs q;obtain⟨a,kvs,rfl,rfl,ha,q⟩:=q;obtain rfl:v=Value.ref a:=b;cases rs;obtain⟨z,hd,vs,c,dd⟩:=yD I.aW ha;refine VP PySem.F.slot_dict_keys dd.typeIs PySem.F.entry_dict_keys (PySem.F.args_dict_keys_1 _) (PySem.W.kdl_meets_keys (aK X.prog X.w) a hd) ?_;have d:PySem.W.KdlKeysView (s.heap.push { cls:=.type "dict_keys",data:=.fields #[.ref a] }) s.heap.objs.size a:=⟨_,Tv _ rfl,rfl,rfl⟩;exact⟨⟨vs,dd⟩,.ref s.heap.objs.size,_,I.laid (a:=s.heap.objs.size) (o:=vE s.heap.objs.size a) (t':=s.toks) (λ_ _ e=>Tn _ e) (To _) ⟨d,⟨_,Tv _ rfl⟩,λh1 h2 ⟨o,f,r⟩ k=>⟨o,k _ f,r⟩⟩,rfl,q _ (I.aW.fresh (To _))⟩
def Iy:List V->Hp->VK->Prop:=λxs H Q=>∃(v a:Addr)(kvs:List (bv×V))(ns:List Int),xs=[.ref v]/\H v=some (vE v a)/\H a=some (.dK kvs)/\kvs.map (·.1)=ns.map Sum.inl/\ns≠[]/\Q (.int (sQ ns)) H
def AE(hc:X.calm=true):CallR X (.builtin "min") Iy:=by
 intro ac s σ H xs us Q I r q;obtain⟨v,a,kvs,ns,rfl,l,ha,C,m,q⟩:=q;obtain⟨u,rfl,ru⟩:=fK r;obtain rfl:u=Value.ref v:=ru;obtain⟨z,hd,vs,d,dd⟩:=yD I.aW ha;obtain⟨p,_,_⟩:=(show ObjOk X.prog X.w H s.heap v (vE v a)from I.aW v _ l);obtain⟨ep,D⟩:=dd.dictAt;have J:=d.length;have K:kvs.length=ns.length:=by have:=U1 List.length C;simpa using this
 have f:∀(i:Nat)(k:bv)(x:Xr),vs[i]?=some (k,x)->∃n,ns[i]?=some n/\k=.inl n:=λi k x e=>by
  have E:i<kvs.length:=by rw[J];exact(Tq.mp e).1
  obtain⟨e1,_⟩:=d.at i _ _ (Ts E) e;have e2:(kvs.map (·.1))[i]?=some k:=by rw[TL,Ts E];exact U1 some e1
  rw[C,TL]at e2;obtain⟨n,h1,h2⟩:=Ux.mp e2;exact⟨n,h1,h2.symm⟩
 generalize c:(ns.map λn=>(n,(0:Tok))).toArray=ps;have hsz:ps.size=ns.length:=by rw[<- c];simp
 have g:∀(i:Nat)(n:Int),ns[i]?=some n->numAt ps i=n:=λi n e=>by unfold numAt;rw[<- c];simp[e]
 have y:ps.toList.map (·.1)=ns:=by rw[<- c];simp[Function.comp_def]
 have F:0<ns.length:=W5.mpr m;have h:a≠s.heap.objs.size:=by obtain⟨o,_,_,B,_⟩:=dd;exact T1 (TF B)
 refine call_min_walk (PySem.W.kdl_pyIter_keys (knd:=aK X.prog X.w) (s:=s) p D ?_);refine⟨_,_,_,_,_,_,_,rfl,Walks.dictKeys (knd:=aK X.prog X.w) (A:=X.A.in1) (I.ok.hd hc) s.heap.objs.size a h vs ep,⟨⟨_,Tv _ rfl,rfl,rfl⟩,D.at' λo e=>Tn _ e⟩,λb hb=>?_,by lia,CmpOf.ints_lt (numAt ps) (λi v l=>?_),λv h' tk L kp=>?_⟩
 .simp only[Tz,TR,W8]at hb;rw[VV];rcases hb with rfl|rfl
  .exact VR _
  .obtain⟨o,_,_,B,_⟩:=dd;exact V8 (TF B)
 .obtain⟨k,x,e1,e2⟩:=l;obtain⟨n,e3,rfl⟩:=f i k x e1;obtain⟨j,t,e4,rfl⟩|⟨j,t,e4,_⟩:=bq (show kr (.inl n) v=true from e2)
  .cases e4;exact⟨t,by rw[g i n e3]⟩
  .cases e4
 .obtain⟨k,x,e1,e2⟩:=L;obtain⟨n,e3,rfl⟩:=f _ k x e1;obtain⟨j,t,e4,rfl⟩|⟨j,t,e4,_⟩:=bq (show kr (.inl n) v=true from e2)
  .cases e4;have hb:=oP ps (vs.length-1) (by lia);rw[g _ n e3,y,UT (by lia)]at hb;exact⟨.int n,H,I.kept (t':=tk) λb o e=>kp b o (λG=>by rw[TV]at G;subst G;exact V5 _ (TF e)) (Tn _ e),⟨t,rfl⟩,by rw[hb];exact q⟩
  .cases e4
end
end L4
namespace L4
open PySem PySem.Spec PyProof.Rows L2 L3
inductive aV{α β:Type} (R:α->β->Prop):List α->List β->Prop where
 |nil:aV R [] []
 |cons {x y xs ys}:R x y->aV R xs ys->aV R (x::xs) (y::ys)
section
variable{α β:Type}{R R':α->β->Prop}
def aV.len(h:aV R xs ys):xs.length=ys.length:=by
 induction h with
 |nil=>rfl
 |cons _ _ a=>rw[T3,T3,a]
def aV.mono(f:∀x y,R x y->R' x y)(h:aV R xs ys):aV R' xs ys:=by
 induction h with
 |nil=>exact .nil
 |cons a _ b=>exact .cons (f _ _ a) b
def aV.snoc(h:aV R xs ys)(r:R x y):aV R (xs++[x]) (ys++[y]):=by
 induction h with
 |nil=>exact .cons r .nil
 |cons a _ b=>exact .cons a b
theorem aV.get(h:aV R xs ys){i:Nat}(e:ys[i]?=some y):∃x,xs[i]?=some x/\R x y:=by
 induction h generalizing i with
 |nil=>simp at e
 |cons a _ b=>
  cases i with
  |zero=>simp at e;subst e;exact⟨_,rfl,a⟩
  |succ i=>simp at e;obtain⟨x,e1,e2⟩:=b e;exact⟨x,by simpa using e1,e2⟩
def aV.Mh{b c:Type}{T:b->c->Prop}(f:α->b)(g:β->c)(k:∀x y,R x y->T (f x) (g y))(h:aV R xs ys):aV T (xs.map f) (ys.map g):=by
 induction h with
 |nil=>exact .nil
 |cons a _ d=>exact .cons (k _ _ a) d
end
def KT(H H':Hp):Prop:=∀a ws,H a=some (.tup ws)->H' a=some (.tup ws)
section
variable{κ κ' α:Type}[DecidableEq κ][DecidableEq κ'](key:κ->κ')(it:Hp->α->V->Prop)
abbrev RepM(H:Hp)(d:Pz.MD κ α)(xs:DX κ'):Prop:=aV (λx y=>y.1=key x.1/\aV (it H) x.2 y.2.2) d xs
variable{key it}
def RepM.keep(b:∀a v,it H a v->it H' a v)(h:RepM key it H d xs):RepM key it H' d xs:=h.mono λ_ _ ⟨e,a⟩=>⟨e,a.mono b⟩
def RepM.find(inj:∀a b,key a=key b->a=b)(h:RepM key it H d xs)(k:κ) :
 (gz xs (key k)=none/\d.has k=false/\d.get k=[])\/∃p,gz xs (key k)=some p/\d.has k=true/\aV (it H) (d.get k) p.2:=by
 induction h with
 |nil=>exact .inl ⟨rfl,rfl,rfl⟩
 |@cons x y d xs r _ c=>
  unfold gz at c ⊢;unfold Pz.MD.has at c ⊢;rw[Vy,Pz.dH,VQ];by_cases e:x.1=k
  .right;have:y.1=key k:=by rw[r.1,e]
   rw[TZ this,TZ e,Tt e];exact⟨y.2,rfl,rfl,r.2⟩
  .have:¬y.1=key k:=λz=>e (inj _ _ (r.1.symm.trans z));rw[Uw this,Uw e,TC e,Bool.false_or];exact c
def RepM.add(inj:∀a b,key a=key b->a=b)(g:∀a v,it H a v->it H' a v)(h:RepM key it H d xs)(c:it H' v (.ref p)):RepM key it H' (d.app k v) (mP xs (key k) l (.ref p)):=by
 have h':=h.keep g;unfold Pz.MD.app mP;rcases h.find inj k with⟨e1,e2,_⟩|⟨q,e1,e2,_⟩
 .rw[e1,e2];exact h'.snoc ⟨rfl,.cons c .nil⟩
 .rw[e1,e2];refine h'.Mh _ _ λx y ⟨f,i⟩=>?_;by_cases e:x.1=k
  .have:y.1=key k:=by rw[f,e]
   rw[Tt e,Tt this];exact⟨f,i.snoc c⟩
  .grind
theorem RepM.drop(inj:∀a b,key a=key b->a=b)(h:RepM key it H d xs)(k:κ):RepM key it H (d.drop k) (lH xs (key k)):=by
 induction h with
 |nil=>exact .nil
 |@cons x y d xs r _ c=>
  unfold Pz.MD.drop lH at c ⊢;by_cases e:x.1=k
  .have:y.1=key k:=by rw[r.1,e]
   rw[List.filter_cons_of_neg (by simpa using e),List.filter_cons_of_neg (by simpa using this)];exact c
  .have:¬y.1=key k:=λz=>e (inj _ _ (r.1.symm.trans z));rw[List.filter_cons_of_pos (by simpa using e),List.filter_cons_of_pos (by simpa using this)];exact .cons r c
theorem RepM.keys(h:RepM key it H d xs):xs.map (·.1)=d.keys.map key:=by
 induction h with
 |nil=>rfl
 |cons r _ a=>grind
def RepM.low(h:RepM key it H d xs)(a:d.flat.length<n):∀x∈xs,x.2.2.length<n:=by
 induction h with
 |nil=>exact λ_ h=>(TR h).elim
 |@cons x y d xs r _ b=>
  unfold Pz.MD.flat at a b;rw[VN,TU]at a;intro z hz;rcases Tz.mp hz with rfl|hz
  .have:=r.2.len;lia
  .exact b (by lia) z hz
end
def vO:Option Int->V
 |none=>.bp
 |some i=>.int i
def pF(a:Pz.Arr):List V:=[.int a.1,.int a.2.1,.int a.2.2]
def IsArr(H:Hp)(a:Pz.Arr)(v:V):Prop:=∃p,v=.ref p/\H p=some (.tup (pF a))
def IsRule(H:Hp)(r:Pz.Rule)(v:V):Prop:=∃p q,v=.ref p/\H p=some (.tup [.int r.1,.int r.2.1,.int r.2.2.1,.ref q])/\H q=some (.tup (r.2.2.2.map .int))
def IsVal(H:Hp)(x:Pz.xA)(v:V):Prop:=∃p,v=.ref p/\H p=some (.tup [.int x.1,vO x.2.1,vO x.2.2])
def IsItem(H:Hp)(x:Int×Pz.Arr)(v:V):Prop:=∃p w,v=.ref p/\H p=some (.tup [.int x.1,w])/\IsArr H x.2 w
def IsSet(H:Hp)(x:Int×Int)(v:V):Prop:=∃p,v=.ref p/\H p=some (.tup [.int x.1,.int x.2])
def IsLack(H:Hp)(x:Int×Pz.Rule×Int)(v:V):Prop:=∃p w,v=.ref p/\H p=some (.tup [.int x.1,w,.int x.2.2])/\IsRule H x.2.1 w
def IsNum(H:Hp)(x:Int×Pz.Rule)(v:V):Prop:=∃p w,v=.ref p/\H p=some (.tup [.int x.1,w])/\IsRule H x.2 w
section
variable(k:KT H H')
include k
theorem IsArr.keep(a:Pz.Arr)(v:V):IsArr H a v->IsArr H' a v:=λ⟨p,e,h⟩=>⟨p,e,k _ _ h⟩
theorem IsRule.keep(a:Pz.Rule)(v:V):IsRule H a v->IsRule H' a v:=λ⟨p,q,e,h,g⟩=>⟨p,q,e,k _ _ h,k _ _ g⟩
theorem IsVal.keep(a:Pz.xA)(v:V):IsVal H a v->IsVal H' a v:=λ⟨p,e,h⟩=>⟨p,e,k _ _ h⟩
theorem IsItem.keep(a:Int×Pz.Arr)(v:V):IsItem H a v->IsItem H' a v:=λ⟨p,w,e,h,g⟩=>⟨p,w,e,k _ _ h,IsArr.keep k _ _ g⟩
theorem IsSet.keep(a:Int×Int)(v:V):IsSet H a v->IsSet H' a v:=λ⟨p,e,h⟩=>⟨p,e,k _ _ h⟩
theorem IsLack.keep(a:Int×Pz.Rule×Int)(v:V):IsLack H a v->IsLack H' a v:=λ⟨p,w,e,h,g⟩=>⟨p,w,e,k _ _ h,IsRule.keep k _ _ g⟩
theorem IsNum.keep(a:Int×Pz.Rule)(v:V):IsNum H a v->IsNum H' a v:=λ⟨p,w,e,h,g⟩=>⟨p,w,e,k _ _ h,IsRule.keep k _ _ g⟩
end
def ak(a:Pz.Arr):List bv:=[.inl a.1,.inl a.2.1,.inl a.2.2]
def xF(a b:Pz.Arr)(h:ak a=ak b):a=b:=by grind [ak]
def Nt(a:Pz.Arr):(ak a).map kV=pF a:=rfl
def k2(k:Int×Int):List bv:=[.inl k.1,.inl k.2]
def mQ(a b:Int×Int)(h:k2 a=k2 b):a=b:=by grind [k2]
def k1(i:Int):bv:=.inl i
def mR(a b:Int)(h:k1 a=k1 b):a=b:=Sum.inl.inj h
abbrev RepT(H:Hp)(t:Pz.TD)(kt:List (List bv×V)):Prop:=aV (λx y=>y.1=ak x.1/\IsVal H x.2 y.2) t kt
theorem RepT.keep(k:KT H H')(h:RepT H t kt):RepT H' t kt:=h.mono λ_ _ ⟨e,a⟩=>⟨e,IsVal.keep k _ _ a⟩
def RepT.find(h:RepT H t kt)(a:Pz.Arr) :
 (c9 kt (ak a)=none/\Pz.bA t a=none)\/∃v x,c9 kt (ak a)=some v/\Pz.bA t a=some x/\IsVal H x v:=by
 induction h with
 |nil=>exact .inl ⟨rfl,rfl⟩
 |@cons x y t kt r _ b=>
  rw[Pz.dt];by_cases e:x.1=a
  .have:y.1=ak a:=by rw[r.1,e]
   rw[Tt e,hI this];exact .inr ⟨_,_,rfl,rfl,r.2⟩
  .have:¬y.1=ak a:=λz=>e (xF _ _ (r.1.symm.trans z));rw[TC e,hJ this];exact b
def RepT.put(h:RepT H t kt)(c:IsVal H x v):RepT H (Pz.tput t a x) (bW kt (ak a) v):=by
 unfold Pz.tput bW;rw[jp];rcases h.find a with⟨e1,e2⟩|⟨w,y,e1,e2,_⟩
 .rw[e1,e2];exact h.snoc ⟨rfl,c⟩
 .rw[e1,e2];refine h.Mh _ _ λz y ⟨b,d⟩=>?_;by_cases e:z.1=a
  .have:y.1=ak a:=by rw[b,e]
   rw[Tt e,Tt this];exact⟨b,c⟩
  .have:¬y.1=ak a:=λq=>e (xF _ _ (b.symm.trans q));rw[TC e,TC this];exact⟨b,d⟩
def j8{κ:Type}[DecidableEq κ]{xs:DX κ}{k:κ}{l a c:Addr}{v:V}(h:cT a (mP xs k l v) c):cT a xs c\/c=l:=by
 rcases h with h|⟨x,hx,h⟩
 .exact .inl (.inl h)
 .unfold mP at hx;split at hx
  .obtain⟨y,b,rfl⟩:=TH.mp hx;refine .inl (.inr ⟨y,b,?_⟩);rw[h];split<;>rfl
  .rcases T4.mp hx with hx|hx
   .exact .inl (.inr ⟨x,hx,h⟩)
   .rw[TV]at hx;subst hx;exact .inr h
section
variable{κ κ' α:Type}[DecidableEq κ][DecidableEq κ'](mk:List (κ'×V)->HO)(key:κ->κ')(it:Hp->α->V->Prop)
structure PM(col:Addr->Nat) (j:Nat) (B H:Hp) (a:Addr) (dd:Pz.MD κ α) (xs:DX κ'):Prop where
 d:DL mk H a xs
 r:RepM key it H dd xs
 c:∀c,cT a xs c->col c=j/\B c=none
variable{mk key it}{d:Pz.MD κ α}
def DL.obj(h:DL mk H a xs)(hc:cT a xs c):H c≠none:=by
 grind [DL,cT]
def DL.keep(h:DL mk H a xs)(kp:∀c u,H c=some u->cT a xs c->H' c=some u):DL mk H' a xs:=⟨kp _ _ h.root (.inl rfl),λx b=>kp _ _ (h.uk x b) (.inr ⟨x,b,rfl⟩),h.nk,h.na⟩
theorem PM.keep(h:PM mk key it col j B H a d xs)(b:∀x v,it H x v->it H' x v)(kp:∀c u,H c=some u->col c=j->H' c=some u)(hc:∀c,H c≠none->col' c=col c):PM mk key it col' j B H' a d xs:=⟨h.d.keep λc u e i=>kp c u e (h.c c i).1,h.r.keep b,λc i=>⟨by rw[hc c (h.d.obj i)];exact(h.c c i).1,(h.c c i).2⟩⟩
def DL.kt(b:∀q ws,mk q≠.tup ws)(h:DL mk H a xs)(kp:∀c u,H c=some u->¬cT a xs c->H' c=some u):KT H H':=by
 grind [DL,cT,KT]
def tF(a:Addr->Nat)(j:Nat)(H:Hp):Addr->Nat:=λc=>open Classical in if H c=none then j else a c
def bu(hc:H a≠none):tF col j H a=col a:=by unfold tF;rw[TC hc]
def C1(hc:H a=none):tF col j H a=j:=by unfold tF;rw[Tt hc]
def PM.new(h:PM mk key it col j B H a d xs)(sm:Same B H)(h1:DL mk H' a xs')(h2:RepM key it H' d' xs')(b:∀c,cT a xs' c->cT a xs c\/H c=none):PM mk key it (tF col j H) j B H' a d' xs':=
 ⟨h1,h2,λc i=>by
   rcases b c i with i|e
   .rw[bu (h.d.obj i)];exact h.c c i
   .exact⟨C1 e,sm.free e⟩⟩
def PM.base(h:PM mk key it col j B H a d xs)(hb:∀c,cT a xs c->B' c=none):PM mk key it col j B' H a d xs:=⟨h.d,h.r,λc i=>⟨(h.c c i).1,hb c i⟩⟩
end
structure PA where
 o:Addr
 ta:Addr
 aq:Addr
 ap:Addr
 sa:Addr
 la:Addr
 ar:Addr
def pf(A:PA):List (Str×V):=[("rules",.ref A.ar),("told",.ref A.ta),("offers",.ref A.aq),("settled",.ref A.sa),("lacking",.ref A.la)]
abbrev qf(A:PA)(last:Int):List (Str×V):=[("last",.int last),("piles",.ref A.ap)]
structure PO(CP CQ:Addr) (col:Addr->Nat) (B H:Hp) (A:PA) (last:Int) (t:Pz.TD) (kt:List (List bv×V)):Prop where
 ins:∃dx,H A.o=some (.ins CP dx (pf A))
 Fk:∃dx,H A.aq=some (.ins CQ dx (qf A last))
 td:H A.ta=some (.dT kt)
 tr:RepT H t kt
 c5:col A.ta=5/\B A.ta=none
 c6:col A.o=6/\B A.o=none
 c7:col A.aq=7/\B A.aq=none
structure br(CP CQ:Addr) (B H:Hp) (A:PA) (rs:Pz.RS) (S:Pz.PS) (xs xl xr:DX (List bv)) (xp:DX bv) (kt:List (List bv×V)) (col:Addr->Nat):Prop where
 same:Same B H
 p1:PM .dK k1 IsItem col 1 B H A.ap S.aE xp
 p2:PM .dT k2 IsSet col 2 B H A.sa S.settled xs
 p3:PM .dT k2 IsLack col 3 B H A.la S.aH xl
 p4:PM .dT k2 IsNum col 4 B H A.ar rs xr
 po:PO CP CQ col B H A S.last S.told kt
def PAt(CP CQ:Addr)(B H:Hp)(A:PA)(rs:Pz.RS)(S:Pz.PS)(xs b c:DX (List bv)):Prop:=∃d kt a,br CP CQ B H A rs S xs b c d kt a
section
theorem PO.keep(h:PO CP CQ col B H A last t kt)(k:KT H H')(kp:∀c u,H c=some u->5<=col c->col c<=7->H' c=some u)(hc:∀c,H c≠none->col' c=col c):PO CP CQ col' B H' A last t kt:=by
 obtain⟨⟨dx,h1⟩,⟨a,h2⟩,b,d,c5,c6,c7⟩:=h;refine⟨⟨dx,kp _ _ h1 (by lia) (by lia)⟩,⟨a,kp _ _ h2 (by lia) (by lia)⟩,kp _ _ b (by lia) (by lia),d.keep k,?_,?_,?_⟩
 .rw[hc _ (by grind)];exact c5
 .rw[hc _ (by grind)];exact c6
 .rw[hc _ (by grind)];exact c7
def br.pile(h:br CP CQ B H A rs S xs xl xr xp kt col)(h1:DL .dK H' A.ap xp')(h2:RepM k1 IsItem H' d' xp')(b:∀c,cT A.ap xp' c->cT A.ap xp c\/H c=none)
 (kp:∀c u,H c=some u->¬cT A.ap xp c->H' c=some u):br CP CQ B H' A rs {S with aE:=d'} xs xl xr xp' kt (tF col 1 H):=by
 have k:KT H H':=h.p1.d.kt (λ_ _ z=>HO.noConfusion z) kp;have a:∀c u,H c=some u->col c≠1->H' c=some u:=λc u e n=>kp c u e λi=>n (h.p1.c c i).1;exact⟨(λc u e=>kp c u (h.same c u e) λi=>by rw[(h.p1.c c i).2]at e;cases e),h.p1.new h.same h1 h2 b,h.p2.keep (IsSet.keep k) (λc u e z=>a c u e (by lia)) λc=>bu,h.p3.keep (IsLack.keep k) (λc u e z=>a c u e (by lia)) λc=>bu,h.p4.keep (IsNum.keep k) (λc u e z=>a c u e (by lia)) λc=>bu,h.po.keep k (λc u e z _=>a c u e (by lia)) λc=>bu⟩
def br.R3(h:br CP CQ B H A rs S xs xl xr xp kt col)(h1:DL .dT H' A.sa xs')(h2:RepM k2 IsSet H' d' xs')(b:∀c,cT A.sa xs' c->cT A.sa xs c\/H c=none)
 (kp:∀c u,H c=some u->¬cT A.sa xs c->H' c=some u):br CP CQ B H' A rs {S with settled:=d'} xs' xl xr xp kt (tF col 2 H):=by
 have k:KT H H':=h.p2.d.kt (λ_ _ z=>HO.noConfusion z) kp;have a:∀c u,H c=some u->col c≠2->H' c=some u:=λc u e n=>kp c u e λi=>n (h.p2.c c i).1;exact⟨(λc u e=>kp c u (h.same c u e) λi=>by rw[(h.p2.c c i).2]at e;cases e),h.p1.keep (IsItem.keep k) (λc u e z=>a c u e (by lia)) λc=>bu,h.p2.new h.same h1 h2 b,h.p3.keep (IsLack.keep k) (λc u e z=>a c u e (by lia)) λc=>bu,h.p4.keep (IsNum.keep k) (λc u e z=>a c u e (by lia)) λc=>bu,h.po.keep k (λc u e z _=>a c u e (by lia)) λc=>bu⟩
def br.tz(h:br CP CQ B H A rs S xs xl xr xp kt col)(h1:DL .dT H' A.la xl')(h2:RepM k2 IsLack H' d' xl')(b:∀c,cT A.la xl' c->cT A.la xl c\/H c=none)
 (kp:∀c u,H c=some u->¬cT A.la xl c->H' c=some u):br CP CQ B H' A rs {S with aH:=d'} xs xl' xr xp kt (tF col 3 H):=by
 have k:KT H H':=h.p3.d.kt (λ_ _ z=>HO.noConfusion z) kp;have a:∀c u,H c=some u->col c≠3->H' c=some u:=λc u e n=>kp c u e λi=>n (h.p3.c c i).1;exact⟨(λc u e=>kp c u (h.same c u e) λi=>by rw[(h.p3.c c i).2]at e;cases e),h.p1.keep (IsItem.keep k) (λc u e z=>a c u e (by lia)) λc=>bu,h.p2.keep (IsSet.keep k) (λc u e z=>a c u e (by lia)) λc=>bu,h.p3.new h.same h1 h2 b,h.p4.keep (IsNum.keep k) (λc u e z=>a c u e (by lia)) λc=>bu,h.po.keep k (λc u e z _=>a c u e (by lia)) λc=>bu⟩
def br.more(h:br CP CQ B H A rs S xs xl xr xp kt col)(s:Same H H'):br CP CQ B H' A rs S xs xl xr xp kt col:=by have k:KT H H':=λa ws e=>s a _ e;exact⟨h.same.trans s,h.p1.keep (IsItem.keep k) (λc u e _=>s c u e) λ_ _=>rfl,h.p2.keep (IsSet.keep k) (λc u e _=>s c u e) λ_ _=>rfl,h.p3.keep (IsLack.keep k) (λc u e _=>s c u e) λ_ _=>rfl,h.p4.keep (IsNum.keep k) (λc u e _=>s c u e) λ_ _=>rfl,h.po.keep k (λc u e _ _=>s c u e) λ_ _=>rfl⟩
theorem PAt.more(h:PAt CP CQ B H A rs S xs xl xr)(s:Same H H'):PAt CP CQ B H' A rs S xs xl xr:=let ⟨b,kt,a,h⟩:=h;⟨b,kt,a,h.more s⟩
def br.tell(h:br CP CQ B H A rs S xs xl xr xp kt col)(b:H p=some (.tup [.int x.1,vO x.2.1,vO x.2.2])) :
 br CP CQ B (upd H A.ta (.dT (bW kt (ak a) (.ref p)))) A rs {S with told:=Pz.tput S.told a x} xs xl xr xp (bW kt (ak a) (.ref p)) col:=by
 have kp:∀c u,H c=some u->col c≠5->upd H A.ta (.dT (bW kt (ak a) (.ref p))) c=some u:=λc u e n=>by rw[ag (λz=>n (by rw[z];exact h.po.c5.1))];exact e
 have k:KT H (upd H A.ta (.dT (bW kt (ak a) (.ref p)))):=λc ws e=>by rw[ag (λz=>by rw[z,h.po.td]at e;cases e)];exact e
 obtain⟨⟨dx,h1⟩,⟨d,h2⟩,g,f,c5,c6,c7⟩:=h.po;refine⟨λc u e=>?_,h.p1.keep (IsItem.keep k) (λc u e z=>kp c u e (by lia)) λ_ _=>rfl,h.p2.keep (IsSet.keep k) (λc u e z=>kp c u e (by lia)) λ_ _=>rfl,h.p3.keep (IsLack.keep k) (λc u e z=>kp c u e (by lia)) λ_ _=>rfl,h.p4.keep (IsNum.keep k) (λc u e z=>kp c u e (by lia)) λ_ _=>rfl,⟨dx,kp _ _ h1 (by lia)⟩,⟨d,kp _ _ h2 (by lia)⟩,af,(f.keep k).put ⟨p,rfl,k _ _ b⟩,c5,c6,c7⟩;rw[ag (λz=>by grind)];exact h.same c u e
def br.wide(h:br CP CQ B H A rs S xs xl xr xp kt col)(Z:Addr->Prop)(hz:∀c,Z c->¬cT A.ap xp c/\¬cT A.sa xs c/\¬cT A.la xl c/\¬cT A.ar xr c/\c≠A.ta/\c≠A.o/\c≠A.aq) :
 ∃b,Same B b/\KT H b/\(∀c u,Z c->H c=some u->b c=some u)/\br CP CQ b H A rs S xs xl xr xp kt col:=by
 classical
 refine⟨λc=>if B c≠none\/Z c\/∃ws,H c=some (.tup ws)then H c else none,λc u e=>?_,λc ws e=>?_,λc u z e=>?_,λc u e=>?_,h.p1.base λc i=>?_,h.p2.base λc i=>?_,h.p3.base λc i=>?_,h.p4.base λc i=>?_,h.po.ins,h.po.Fk,h.po.td,h.po.tr,⟨h.po.c5.1,?_⟩,⟨h.po.c6.1,?_⟩,⟨h.po.c7.1,?_⟩⟩
 .dsimp only;rw[Tt (.inl (by grind))];exact h.same c u e
 .dsimp only;rw[Tt (.inr (.inr ⟨ws,e⟩))];exact e
 .dsimp only;rw[Tt (.inr (.inl z))];exact e
 .split at e
  .exact e
  .cases e
 all_goals
  refine TC λq=>?_
 .rcases q with q|q|⟨ws,q⟩
  .exact q (h.p1.c c i).2
  .exact(hz c q).1 i
  .rcases i with rfl|⟨x,a,rfl⟩
   .rw[h.p1.d.root]at q;cases q
   .rw[h.p1.d.uk x a]at q;cases q
 .rcases q with q|q|⟨ws,q⟩
  .exact q (h.p2.c c i).2
  .exact(hz c q).2.1 i
  .rcases i with rfl|⟨x,a,rfl⟩
   .rw[h.p2.d.root]at q;cases q
   .rw[h.p2.d.uk x a]at q;cases q
 .rcases q with q|q|⟨ws,q⟩
  .exact q (h.p3.c c i).2
  .exact(hz c q).2.2.1 i
  .rcases i with rfl|⟨x,a,rfl⟩
   .rw[h.p3.d.root]at q;cases q
   .rw[h.p3.d.uk x a]at q;cases q
 .rcases q with q|q|⟨ws,q⟩
  .exact q (h.p4.c c i).2
  .exact(hz c q).2.2.2.1 i
  .rcases i with rfl|⟨x,a,rfl⟩
   .rw[h.p4.d.root]at q;cases q
   .rw[h.p4.d.uk x a]at q;cases q
 .rcases q with q|q|⟨ws,q⟩
  .exact q h.po.c5.2
  .exact(hz _ q).2.2.2.2.1 rfl
  .rw[h.po.td]at q;cases q
 .rcases q with q|q|⟨ws,q⟩
  .exact q h.po.c6.2
  .exact(hz _ q).2.2.2.2.2.1 rfl
  .obtain⟨dx,e⟩:=h.po.ins;rw[e]at q;cases q
 .rcases q with q|q|⟨ws,q⟩
  .exact q h.po.c7.2
  .exact(hz _ q).2.2.2.2.2.2 rfl
  .obtain⟨dx,e⟩:=h.po.Fk;rw[e]at q;cases q
def PAt.less(h:PAt CP CQ B' H A rs S xs xl xr)(s:Same B B'):PAt CP CQ B H A rs S xs xl xr:=by obtain⟨b,kt,a,h⟩:=h;refine⟨b,kt,a,s.trans h.same,h.p1.base λc i=>s.free (h.p1.c c i).2,h.p2.base λc i=>s.free (h.p2.c c i).2,h.p3.base λc i=>s.free (h.p3.c c i).2,h.p4.base λc i=>s.free (h.p4.c c i).2,h.po.ins,h.po.Fk,h.po.td,h.po.tr,⟨h.po.c5.1,s.free h.po.c5.2⟩,⟨h.po.c6.1,s.free h.po.c6.2⟩,⟨h.po.c7.1,s.free h.po.c7.2⟩⟩
theorem PAt.same(h:PAt CP CQ B H A rs S xs xl xr):Same B H:=let ⟨_,_,_,h⟩:=h;h.same
end
def Gy(x y:Nat):Builtin.bitXor (x:Int) (y:Int)=(((x ||| y)-(x &&& y):Nat):Int):=by
 have a:∀z:Nat,decide (0<=Builtin.bitNot (z:Int))=false:=λz=>Uw (by unfold Builtin.bitNot;lia);have b:∀z:Nat,(Builtin.bitNot (Builtin.bitNot (z:Int))).toNat=z:=λz=>by unfold Builtin.bitNot;lia
 have p1:∀z:Nat,decide (0<=(z:Int))=true:=λz=>TZ (by lia);have c:Builtin.bitAnd (x:Int) (y:Int)=((x &&& y:Nat):Int):=by unfold Builtin.bitAnd;rw[p1,p1];rfl
 have d:Builtin.bitOr (x:Int) (y:Int)=((x ||| y:Nat):Int):=by unfold Builtin.bitOr Builtin.bitAnd;rw[a,a];show Builtin.bitNot (Builtin.bitNot (((Builtin.bitNot (Builtin.bitNot (x:Int))).toNat |||(Builtin.bitNot (Builtin.bitNot (y:Int))).toNat:Nat):Int))=_;rw[b,b];unfold Builtin.bitNot;lia
 unfold Builtin.bitXor;rw[c,d];have:x &&& y<=x ||| y:=T6 Nat.and_le_left Nat.left_le_or;lia
def zf:Pz.ug au:=by
 have key:∀{p l:Int},0<=p->0<=l->∃z:Nat,au p l=(z:Int)/\∀k:Nat,z<=k↔p/2^k=l/2^k:=by
  intro p l a b;obtain⟨x,rfl⟩:=U9 a;obtain⟨y,rfl⟩:=U9 b;refine⟨_,rfl,λk=>?_⟩;rw[Gy];unfold Builtin.Int.intBits;rw[Pz.Gu,Pz.Gs];have e:∀z:Nat,(z:Int)/2^k=((z/2^k:Nat):Int):=λz=>by rw[Int.natCast_ediv];norm_cast
  rw[e,e];lia
 constructor
 .intro p l a b;obtain⟨z,e,_⟩:=key a b;rw[e];lia
 .intro p l a b k;obtain⟨z,e,h⟩:=key a b;rw[e,<- h k];lia
section
variable{K:Xp}{C q ap:Addr}{H:Hp}{last:Int}
inductive lZ(C:Addr):Sp
 |mk {q dx:Addr} {H:Hp} {Q:VK} {E:XK} (hq:H q=some (.ins C dx [])) (k:∀(d:Addr)(H':Hp),H d=none->H' q=some (.ins C dx [("last",.int 0),("piles",.ref d)])->H' d=some (.dK [])->(∀b o,H b=some o->b≠q->H' b=some o)->Q .bp H'):lZ C [.ref q] H Q E
def J_(K:Xp):TS:=bm (sr K (am 0) (tC (.int 0)) "last") (sr K (am 0) BL "piles")
def vF(h:lZ C vs H Q E):vs.length=1:=by cases h;rfl
theorem xG(T:ul K C)(h:lZ C vs H Q E):J_ K {nx:=λ_ H'=>Q .bp H',rt:=Q} (bO N vs) H:=by
 obtain @⟨q,dx,_,_,_,hq,k⟩:=h;refine⟨_,rfl,q,C,dx,[],rfl,hq,T.cl,T.nl,(by show 0<1000;decide),?_⟩;intro d hd;have a:d≠q:=λe=>by rw[e,af]at hd;cases hd
 have c:H d=none:=by rw[ag a]at hd;exact hd
 refine⟨_,rfl,q,C,dx,_,rfl,(by rw[ag (UD a),af]),T.cl,T.np,(by show 1<1000;decide),?_⟩;refine k d _ c (by rw[af];rfl) (by rw[ag a,af]) λb o e hb=>?_;rw[ag hb,ag (aj e c),ag hb];exact e
inductive l9(C:Addr):Sp
 |mk {q ap dx:Addr} {last:Int} {kvs:List (bv×V)} {H:Hp} {Q:VK} {E:XK} (hq:H q=some (.ins C dx [("last",.int last),("piles",.ref ap)])) (ha:H ap=some (.dK kvs)) (hl:kvs.length<=sizeLine) (k:Q (.bl (decide (kvs.length=0))) H):l9 C [.ref q] H Q E
def Iz:List V->Hp->VK->Prop:=λxs H Q=>∃(d:Addr)(kvs:List (bv×V))(u:HO),xs=[.ref d]/\(u=.dK kvs\/(u=.dT []/\kvs=[]))/\Rd H d u/\kvs.length<=sizeLine/\Q (.int kvs.length) H
def AF:CallR X (.builtin "len") Iz:=Aq
def Ka(K:Xp):TS:=jc (cY zL (jZ Iz (ai (eR K (am 0) "piles") aG)) (tC (.int 0)))
def vG(h:l9 C vs H Q E):vs.length=1:=by cases h;rfl
theorem xH(T:ul K C)(h:l9 C vs H Q E):Ka K {nx:=λ_ H'=>Q .bp H',rt:=Q} (bO N vs) H:=by
 obtain @⟨q,ap,dx,last,kvs,_,_,_,hq,ha,hl,k⟩:=h;refine⟨_,rfl,q,C,dx,_,_,rfl,hq,T.cl,T.np,rfl,ap,kvs,_,rfl,.inl rfl,.inl ha,hl,rfl,?_⟩;have:decide (V.int (kvs.length:Int)=V.int 0)=decide (kvs.length=0):=by apply decide_eq_decide.mpr;exact⟨λe=>by injection e with e;lia,λe=>by rw[e];rfl⟩
 rw[this];exact k
def QH(C q ap:Addr)(d:Pz.Q Pz.Arr)(b:DX bv)(H:Hp)(Q:VK):Prop:=∀(l:Addr)(vs':List V)(a:DX bv)(H':Hp),Mj C H' q ap (Pz.lowP d) a->RepM k1 IsItem H' (Pz.left au d) a->H' l=some (.lst vs')->aV (IsItem H') (Pz.dI au d) vs'->¬cT ap a l->(cT ap b l\/H l=none)->(∀c,cT ap a c->cT ap b c\/H c=none)->
 (∀c u,H c=some u->¬cT ap b c->c≠q->H' c=some u)->Q (.ref l) H'
inductive qu(C:Addr):Sp
 |mk {q ap:Addr} {last:Int} {xp:DX bv} {d:Pz.Q Pz.Arr} {H:Hp} {Q:VK} {E:XK} (G:Mj C H q ap last xp) (R:RepM k1 IsItem H d xp) (ok:Pz.wl au last d) (hne:d≠[]) (hfew:d.flat.length<16000000)
  (k:QH C q ap d xp H Q):qu C [.ref q] H Q E
def xI(h:qu C vs H Q E):vs.length=1:=by cases h;rfl
def Kb(K:Xp):TS:=jc (oA (eR K (am 0) "piles") (tC (.int 0)))
def Nu(C:Addr):TS:=cO (eS C "add" (r_ C) [] E0 (am 0) (ai (am 2) (ai (am 3) aG)))
def QI(K:Xp)(C:Addr):TS:=bm (jd (dk K (am 1)) (dU K 2 (aQ (ay 2) (aQ (ay 3) dS))) (Nu C)) (Kb K)
def Nv(K:Xp)(C:Addr)(a:TE):TS:=bm (sr K (am 0) a "last") (QI K C)
def IA(K:Xp)(C:Addr)(a:TE):TS:=bm (dg (oA (eR K (am 0) "piles") (jZ Iy (ai (FD K "dict" Iw (eR K (am 0) "piles")) aG))) (ay 1)) (Nv K C a)
def Kc(b:TE):Prop:=∀(σ:L2.St)(H:Hp)(a:Addr)(vs:List V)(its:List (Int×Pz.Arr))(Q:VK),σ[1]?=some (some (.ref a))->H a=some (.lst vs)->aV (IsItem H) its vs->its≠[]->its.length<16000000->(∀H',Same H H'->Q (.int (Pz.lo (its.map (·.1)))) H')->b σ H Q
def zg(l:List Int):sQ l=Pz.lo l:=by cases l<;>rfl
def Gz{κ:Type}(xs:DX κ):xs.kv.map (·.1)=xs.map (·.1):=by unfold DX.kv;rw[T7];rfl
def Mj.ne(G:Mj C H q ap last xp)(i:cT ap xp c):c≠q:=λe=>by
 obtain⟨dx,a⟩:=G.ins;rcases i with z|⟨x,b,z⟩
 .have:=G.aE.root;rw[<- z,e,a]at this;cases this
 .have:=G.aE.uk x b;rw[<- z,e,a]at this;cases this
end
section
variable{K:Xp}{C q ap:Addr}{H:Hp}{last:Int}{xp:DX bv}
def nh(m:Int)(d:Pz.Q Pz.Arr)(l:List (Int×Pz.Arr))(x:Int×Pz.Arr):Pz.cV au m d (l++[x])=(Pz.cV au m d l).app (au x.1 m) x:=by unfold Pz.cV;rw[Vw];rfl
def tG(s:Same H H'):KT H H':=λa ws e=>s a _ e
variable{D:Ends}{σ:L2.St}{d:Pz.Q Pz.Arr}{H0:Hp}{p:Addr×List V}{i:Nat}{xi:DX bv}
structure Qi(C q ap:Addr) (d:Pz.Q Pz.Arr) (H0:Hp) (xp:DX bv) (p:Addr×List V) (i:Nat) (H:Hp) (xi:DX bv):Prop where
 G:Mj C H q ap (Pz.lowP d) xi
 R:RepM k1 IsItem H (Pz.cV au (Pz.lowP d) (d.drop (Pz.b7 d)) ((d.get (Pz.b7 d)).take i)) xi
 l:H p.1=some (.lst p.2)
 n:¬cT ap xi p.1
 a:aV (IsItem H) (d.get (Pz.b7 d)) p.2
 sub:∀c,cT ap xi c->cT ap xp c\/H0 c=none
 kp:∀c u,H0 c=some u->¬cT ap xp c->c≠q->H c=some u
def P9(q:Addr)(l:Addr)(σ:L2.St):Prop:=∃u v,σ=[some (.ref q),some (.ref l),u,v]
def SL(I:Qi C q ap d H0 xp p i H xi)(E:(d.get (Pz.b7 d))[i]?=some x)(h:IsItem H x v)(L:P9 q p.1 σ)(ok:(Pz.cV au (Pz.lowP d) (d.drop (Pz.b7 d)) ((d.get (Pz.b7 d)).take (i+1))).Ok)(gg:(Pz.cV au (Pz.lowP d) (d.drop (Pz.b7 d)) ((d.get (Pz.b7 d)).take (i+1))).flat.length<16000000)
 (k:∀σ' H' o,P9 q p.1 σ'->Qi C q ap d H0 xp p (i+1) H' o->D.nx σ' H'):dU K 2 (aQ (ay 2) (aQ (ay 3) dS)) v σ H λr M=>Nu C D r M:=by
 obtain⟨t,_,rfl,N,b,rfl,hb⟩:=h;obtain⟨u,w,rfl⟩:=L;refine EX N (vD (.va rfl) I.G.ins rfl (.c (.va rfl) (.c (.va rfl) .ni)) (.mk I.G λl F s j O P y A f=>?_));have g:KT H s:=I.G.aE.kt (λ_ _ z=>HO.noConfusion z) f;rw[Ui,E,show(some x).toList=[x]from rfl,nh]at ok gg;have B:RepM k1 IsItem s _ (mP xi (.inl (au x.1 (Pz.lowP d))) l (.ref F)):=I.R.add (k:=au x.1 (Pz.lowP d)) mR (IsItem.keep g) ⟨F,_,rfl,P,b,rfl,g _ _ hb⟩;refine k _ s _ ⟨_,_,rfl⟩ ⟨⟨y,A,?_,B.low gg⟩,?_,f _ _ I.l I.n,λz=>?_,I.a.mono (IsItem.keep g),λc z=>?_,λc u e n m=>?_⟩
 .have:=B.len;have:=Pz.iA ok;exact UJ (by lia) gg
 .rw[Ui,E,show(some x).toList=[x]from rfl,nh];exact B
 .rcases j8 z with z|z
  .exact I.n z
  .rw[<- z,I.l]at j;cases j
 .rcases j8 z with z|rfl
  .exact I.sub c z
  .by_cases J:cT ap xp c
   .exact .inl J
   .refine .inr ?_;cases e:H0 c with
    |none=>rfl
    |some u=>
     by_cases z:c=q
     .obtain⟨_,Q⟩:=I.G.ins;rw[z,Q]at j;cases j
     .rw[I.kp c u e J z]at j;cases j
 .exact f _ _ (I.kp c u e n m) λz=>(I.sub c z).elim n λz=>by rw[z]at e;cases e
theorem zh{κ:Type}[DecidableEq κ]{xs:DX κ}{k:κ}{a c:Addr}(i:cT a (lH xs k) c):cT a xs c:=i.imp id λ⟨x,b,e⟩=>⟨x,(Us.mp b).1,e⟩
def SM(T:ul K C)(l:Pz.Mm au last d)(v:d.flat.length<16000000)(I:Qi C q ap d H0 xp p p.2.length H xi)(x:P9 q p.1 σ)
 (k:QH C q ap d xp H0 D.rt):Kb K D σ H:=by
 obtain⟨u,w,rfl⟩:=x;have f:=I.R;rw[UT (by rw[I.a.len];exact To _)]at f;have f:RepM k1 IsItem H (Pz.mid au d) xi:=f;have ha:=I.G.aE.root;obtain⟨y,o⟩:=I.G.ins;rcases f.find mR 0 with⟨_,A,_⟩|⟨p1,r,_,B⟩
 .have:=Pz.has_iff.mpr l.k3;rw[A]at this;cases this
 delta Kb jc oA
 refine J8 (.va rfl) I.G.ins T.cl T.np rfl ⟨ap,rfl,.inl ⟨_,.inl ha⟩,xi.kv,k1 0,.ref p1.1,ha,rfl,(by rw[kY,r];rfl),?_⟩;generalize g:upd H ap (.dK (ku xi.kv (k1 0)))=j;have b:∀c u,H c=some u->c≠ap->j c=some u:=λc u e n=>by rw[<- g,ag n];exact e
 obtain⟨E,F,J⟩:=I.G.aE.drop (λ_ _ z=>HO.noConfusion z) r (by rw[<- g,af]) b;have h:KT H j:=λc ws e=>b c _ e λz=>by rw[z,ha]at e;cases e
 have s:RepM k1 IsItem j (Pz.left au d) (lH xi (k1 0)):=(f.drop mR 0).keep (IsItem.keep h);have t:(Pz.left au d).flat.length<16000000:=by have:=l.pm.length_eq;rw[TU]at this;lia
 have:=s.len;have:=Pz.iA l.ok.ok;exact k p1.1 p1.2 _ j ⟨⟨y,b _ _ o λe=>by rw[e,ha]at o;cases o⟩,E,by lia,s.low t⟩ s F (B.mono (IsItem.keep h)) J (I.sub _ (.inr ⟨_,dJ r,rfl⟩)) (λc z=>I.sub c (zh z)) λc u e n m=>b _ _ (I.kp c u e n m) λz=>n (.inl z)
theorem tk1(T:ul K C)(M:Kc tm)(r:Pz.Mm au last d)(ok:d.Ok)(f:d.flat.length<16000000)(s:∃dx,H q=some (.ins C dx [("last",.int last),("piles",.ref ap)])) (N:DL .dK H ap xi) (R2:RepM k1 IsItem H (d.drop (Pz.b7 d)) xi) (O:∀c,cT ap xp c->c≠q) (v:H p.1=some (.lst p.2)) (G:p.1≠q) (P:¬cT ap xi p.1) (J:aV (IsItem H) (d.get (Pz.b7 d)) p.2) (sub:∀c,cT ap xi c->cT ap xp c) (kp:∀c u,H0 c=some u->¬cT ap xp c->H c=some u)
 (g:σ=[some (.ref q),some (.ref p.1),none,none]) (k:QH C q ap d xp H0 D.rt):Nv K C tm D σ H:=by
 subst g;obtain⟨dx,s⟩:=s;refine M _ H p.1 p.2 (d.get (Pz.b7 d)) _ rfl v J r.k2 (UJ (Pz.nY d _) f) λQ L=>?_;refine⟨_,rfl,q,C,dx,_,rfl,L _ _ s,T.cl,T.nl,(by show 2<1000;decide),?_⟩;generalize h:upd Q q (.ins C dx (hG "last" (.int (Pz.lo ((d.get (Pz.b7 d)).map (·.1)))) [("last",.int last),("piles",.ref ap)]))=w;have b:∀c u,H c=some u->c≠q->w c=some u:=λc u e n=>by rw[<- h,ag n];exact L c u e
 have R:w q=some (.ins C dx [("last",.int (Pz.lowP d)),("piles",.ref ap)]):=by rw[<- h,af];rfl
 have j:KT H w:=λc ws e=>b c _ e λz=>by rw[z,s]at e;cases e
 have ge:∀y∈d.get (Pz.b7 d),Pz.lowP d<=y.1:=λy A=>Pz.CW (TH.mpr ⟨y,A,rfl⟩);have fl:∀i,((Pz.cV au (Pz.lowP d) (d.drop (Pz.b7 d)) ((d.get (Pz.b7 d)).take i))).flat.length<16000000:=λi=>by rw[(Pz.jJ r.o1.ok).length_eq,TU];have:=VJ i (d.get (Pz.b7 d));have:=(Pz.mM ok.nk (Pz.b7 d)).length_eq;rw[TU]at this;lia
 have o:∀i,(Pz.cV au (Pz.lowP d) (d.drop (Pz.b7 d)) ((d.get (Pz.b7 d)).take i)).Ok:=λi=>(r.o1.cV λx B=>ge x (U_ B)).ok;have E:=fl 0;have h2:=Pz.iA (o 0);have V:=R2.len;rw[List.take_zero]at E h2;have S:(Pz.cV au (Pz.lowP d) (d.drop (Pz.b7 d)) [])=d.drop (Pz.b7 d):=rfl;rw[S]at E h2;refine⟨_,rfl,p.1,rfl,⟨_,SqL.of (b _ _ v G)⟩,jn (K:=K) (a:=p.1) (xs:=p.2) (λi σ t=>P9 q p.1 σ/\∃xi,Qi C q ap d H0 xp p i t xi)
  ⟨⟨none,none,rfl⟩,xi,⟨⟨dx,R⟩,N.keep λc u e i=>b c u e (O c (sub c i)),by lia,R2.low E⟩,?_,b _ _ v G,P,J.mono (IsItem.keep j),λc i=>.inl (sub c i),λc u e n m=>b c u (kp c u e n) m⟩
  (λi σ t _ ⟨_,xi,I⟩=>SqL.of I.l) (λi y σ t U ⟨g,xi,I⟩=>?_) λσ t ⟨g,xi,I⟩=>SM T r f I g k⟩
 .rw[List.take_zero];exact R2.keep (IsItem.keep j)
 .obtain⟨x,B,A⟩:=I.a.get U;exact SL I B A g (o _) (fl _) λσ' H' F h1 h2=>⟨h1,F,h2⟩
theorem AG(T:ul K C)(t:∀(last:Int)(ap:Addr),List.lookup ("add" : Str) ([("last",V.int last),("piles",V.ref ap)]:List (Str×V))=none) (w:Kc tm) (h:qu C vs H Q E) :
 IA K C tm {nx:=λ_ H'=>Q .bp H',rt:=Q} (bO ["self","pile","price","thing"] vs) H:=by
 obtain @⟨q,ap,last,xp,d,H,Q,_,G,R,ok,hne,hfew,k⟩:=h;have o:=Pz.Aw zf ok hne;have a:=G.aE.root
 delta IA bm dg oA
 refine J8 (.va rfl) G.ins T.cl T.np rfl ⟨ap,rfl,.inl ⟨_,.inl a⟩,J8 (.va rfl) G.ins T.cl T.np rfl ⟨.inr (.inr (.inl ⟨rfl,.inl ⟨_,a⟩⟩)),ap,_,rfl,rfl,a,λv r=>?_⟩⟩;have f:ap≠v:=aj a r;refine⟨v,ap,xp.kv,d.keys,rfl,af,(by rw[ag f];exact a),(by rw[Gz,R.keys];rfl),(by intro e;exact hne (List.map_eq_nil_iff.mp e)),?_⟩;rcases R.find mR (Pz.b7 d)with⟨_,_,e⟩|⟨x,l,_,y⟩
 .exact(o.k2 e).elim
 refine⟨xp.kv,k1 (Pz.b7 d),.ref x.1,(by rw[ag f];exact a),(by rw[zg];rfl),(by rw[kY,l];rfl),?_⟩;generalize g:upd (upd H v (vE v ap)) ap (.dK (ku xp.kv (k1 (Pz.b7 d))))=s;have b:∀c u,H c=some u->c≠ap->s c=some u:=λc u e n=>by rw[<- g,ag n,ag (aj e r)];exact e
 obtain⟨A,B,F⟩:=G.aE.drop (λ_ _ z=>HO.noConfusion z) l (by rw[<- g,af]) b;have j:KT H s:=λc ws e=>b c _ e λz=>by rw[z,a]at e;cases e
 obtain⟨dx,m⟩:=G.ins;exact tk1 T w o ok.ok hfew ⟨dx,b _ _ m λe=>by rw[e,a]at m;cases m⟩ A ((R.drop mR _).keep (IsItem.keep j)) (λc=>G.ne) B (G.ne (.inr ⟨_,dJ l,rfl⟩)) F (y.mono (IsItem.keep j)) (λc=>zh) (λc u e n=>b c u e λz=>n (.inl z)) rfl k
end
structure kq(K:Xp) (C:Addr):Prop where
 cl:uu K C
 nr:NoAttr K C "rules"
 nt:NoAttr K C "told"
 no:NoAttr K C "offers"
 ns:NoAttr K C "settled"
 nl:NoAttr K C "lacking"
def QJ(A:PA):(pf A).lookup ("rules" : Str)=some (V.ref A.ar):=rfl
def GA(A:PA):(pf A).lookup ("told" : Str)=some (V.ref A.ta):=rfl
def Ke(A:PA):(pf A).lookup ("offers" : Str)=some (V.ref A.aq):=rfl
def Nw(A:PA):(pf A).lookup ("settled" : Str)=some (V.ref A.sa):=rfl
def Nx(A:PA):(pf A).lookup ("lacking" : Str)=some (V.ref A.la):=rfl
def Kf(A:PA)(last:Int):(qf A last).lookup ("add" : Str)=none:=rfl
section
variable{K:Xp}
inductive eL(CP CQ:Addr):Sp
 |mk {B H:Hp} {A:PA} {rs:Pz.RS} {S:Pz.PS} {xs xl xr:DX (List bv)} {b:Addr} {a:Pz.Arr} {p:Int} {n m:Option Int} {Q:VK} {E:XK} (P:PAt CP CQ B H A rs S xs xl xr) (hb:H b=some (.tup (pF a))) (f:Pz.kK (Pz.be au S a p n m)) (k:∀H',PAt CP CQ B H' A rs (Pz.be au S a p n m) xs xl xr->Q .bp H'):eL CP CQ [.ref A.o,.ref b,.int p,vO n,vO m] H Q E
def Ny:R2:=λx y H Q=>y=.bp/\Q (.bl (decide (x=.bp))) H
def Kg:OpR X (compareOp .Is) Ny:=Jv
def SN:R2:=wu λi j=>.bl (decide (i<j))
def Kh(K:Xp)(CQ:Addr):TS:=bm (uI (eR K (am 0) "told") (am 1) (eY (ai (am 2) (ai (am 3) (ai (am 4) aG)))))
 (cO (eS CQ "add" (r_ CQ) [] E0 (eR K (am 0) "offers") (ai (am 2) (ai (am 1) aG))))
def Nz(K:Xp)(CQ:Addr):TS:=gh (MI (cS (cY Ny (am 5) (tC .bp))) (cS (cY SN (am 2) (cY (nE K) (am 5) (tC (.int 0)))))) (Kh K CQ) cW
def C2(K:Xp)(CQ:Addr):TS:=bm (dg (wL (eR K (am 0) "told") (am 1)) (ay 5)) (Nz K CQ)
def vH(h:eL CP CQ vs H Q E):vs.length=5:=by cases h;rfl
variable{D:Ends}
theorem br.fld(P:br CP CQ B H A rs S xs xl xr xp kt col)(cl:uu K CP)(n:NoAttr K CP f)(a:(pf A).lookup f=some v)(h:σ[i]?=some (some (.ref A.o))):Reads (eR K (am i) f) σ H v:=.fld (.va h) P.po.ins cl n a
def br.rd(P:br CP CQ B H A rs S xs xl xr xp kt col)(cl:uu K CP)(n:NoAttr K CP f)(a:(pf A).lookup f=some v)(h:σ[i]?=some (some (.ref A.o)))(q:Q v H):eR K (am i) f σ H Q:=P.fld cl n a h _ q
def vI(TP:kq K CP)(P:br CP CQ B H A rs S xs xl xr xp kt col)(hb:H b=some (.tup (pF a)))(fit:Pz.kK (Pz.jK au S a p n m))
 (k:∀σ H',PAt CP CQ B H' A rs (Pz.jK au S a p n m) xs xl xr->D.nx σ H'):Kh K CQ D [some (.ref A.o),some (.ref b),some (.int p),some (vO n),some (vO m),some w] H:=by
 delta Kh bm uI
 refine xE (.c (.va rfl) (.c (.va rfl) (.c (.va rfl) .ni))) rfl λt i=>?_;have s1:Same H (upd H t (.tup [.int p,vO n,vO m])):=ao i;have s:=P.more s1;have u:=s.po.td;have e:=s1 _ _ hb;have E:kt.length<sizeLine:=by have e1:S.told.length=kt.length:=P.po.tr.len;have e2:=fit.t;have e3:=(Pz.vx S.told a (p,n,m)).1;have e4:(Pz.jK au S a p n m).told=Pz.tput S.told a (p,n,m):=rfl;rw[e4]at e2;rw[Ud];unfold Pz.L at e2;lia
 refine s.rd TP.cl TP.nt (GA A) rfl ⟨_,rfl,A.ta,_,rfl,DPut.t (k:=ak a) u e E,?_⟩;have f:=s.tell (a:=a) (x:=(p,n,m)) (p:=t) af;have j:upd (upd H t (.tup [.int p,vO n,vO m])) A.ta (.dT (bW kt (ak a) (.ref t))) b=some (.tup (pF a)):=by rw[ag (λz=>by rw[z,u]at e;cases e)];exact e
 generalize upd (upd H t (.tup [.int p,vO n,vO m])) A.ta (.dT (bW kt (ak a) (.ref t)))=G at f j;clear s u e s1 E i;have g:=fit.p;have h:=fit.pf;have al:=Pz.fq S.aE (au p S.last) (p,a);have e5:(Pz.jK au S a p n m).aE=S.aE.app (au p S.last) (p,a):=rfl;rw[e5]at g h;unfold Pz.L at g h;have pr2:RepM k1 IsItem G S.aE xp:=f.p1.r;refine vD (f.fld TP.cl TP.no (Ke A) rfl) f.po.Fk (Kf A _) (.c (.va rfl) (.c (.va rfl) .ni)) (.mk ⟨f.po.Fk,f.p1.d,by rw[<- pr2.len];lia,pr2.low (by lia)⟩ ?_);intro l I J v M y N C q;have F:=f.p1.d.kt (λ_ _ z=>HO.noConfusion z) q;exact k _ J ⟨_,_,_,f.pile C (pr2.add mR (IsItem.keep F) ⟨I,_,rfl,y,b,rfl,F _ _ j⟩) (λc z=>(j8 z).imp id λz=>by rw[z];exact v) q⟩
def C3(TP:kq K CP)(P:br CP CQ B H A rs S xs xl xr xp kt col)(hb:H b=some (.tup (pF a)))(fit:Pz.kK (Pz.be au S a p n m))
 (k:∀σ H',PAt CP CQ B H' A rs (Pz.be au S a p n m) xs xl xr->D.nx σ H'):Nz K CQ D [some (.ref A.o),some (.ref b),some (.int p),some (vO n),some (vO m),some ((c9 kt (ak a)).getD .bp)] H:=by
 unfold Pz.be at fit k;rcases P.po.tr.find a with⟨e1,e2⟩|⟨v,x,e1,e2,q,rfl,d⟩
 .rw[Tt (show Pz.ib S a p=true by unfold Pz.ib;rw[e2])]at fit k;rw[e1];exact⟨_,rfl,rfl,_,rfl,vI TP P hb fit k⟩
 .rw[e1];refine⟨_,rfl,rfl,_,rfl,?_⟩;refine jN (c:=decide (p<x.1)) (.op (.va rfl) (.ix (.va rfl) d rfl) (λ_ q=>⟨p,x.1,rfl,rfl,q⟩)) (λh=>?_) (λh=>?_)
  .rw[Tt (show Pz.ib S a p=true by unfold Pz.ib;rw[e2];exact h)]at fit k;exact vI TP P hb fit k
  .rw[TC λz=>by unfold Pz.ib at z;rw[e2]at z;exact h z]at k;exact k _ H ⟨xp,kt,col,P⟩
def xJ(TP:kq K CP)(b:ul K CQ)(h:eL CP CQ vs H Q E):C2 K CQ {nx:=λ_ H'=>Q .bp H',rt:=Q} (bO ["self","arrow","price","number","mid","known"] vs) H:=by
 obtain⟨⟨c,kt,a,P⟩,hb,fit,k⟩:=h
 delta C2 bm dg wL
 exact P.rd TP.cl TP.nt (GA _) rfl ⟨_,rfl,.inr ⟨_,.inl P.po.td⟩,_,rfl,_,DGet.t (k:=ak _) P.po.td hb,C3 TP P hb fit λ_=>k⟩
def tH(P:PAt CP CQ B H A rs S xs xl xr)(f:Pz.kK (Pz.be au S a p n m))(h:Reads ta σ H (.ref A.o))(c:Makes te σ H (pF a))(d:∀H',Same H H'->ReadsA tr σ H' [.int p,vO n,vO m])(k:∀H',PAt CP CQ B H' A rs (Pz.be au S a p n m) xs xl xr->D.nx σ H') :
 cO (eS CP "offer" (eL CP CQ) [] E0 ta (ai te tr)) D σ H:=by
 have e:=P;obtain⟨_,_,_,g⟩:=e;obtain⟨dx,i⟩:=g.po.ins;exact h _ ⟨A.o,dx,_,rfl,i,rfl,c _ λq b=>d _ (ao b) _ (.mk (P.more (ao b)) af f k)⟩
end
section
variable{K:Xp}{CP CQ:Addr}{B H:Hp}{A:PA}{rs:Pz.RS}{S:Pz.PS}{xs xl xr:DX (List bv)}{xp:DX bv}{kt:List (List bv×V)}{col:Addr->Nat}
theorem br.obj(P:br CP CQ B H A rs S xs xl xr xp kt col)(hz:H z=none):¬cT A.ap xp z/\¬cT A.sa xs z/\¬cT A.la xl z/\¬cT A.ar xr z/\z≠A.ta/\z≠A.o/\z≠A.aq:=by
 refine⟨λi=>P.p1.d.obj i hz,λi=>P.p2.d.obj i hz,λi=>P.p3.d.obj i hz,λi=>P.p4.d.obj i hz,λe=>?_,λe=>?_,λe=>?_⟩
 .rw[e,P.po.td]at hz;cases hz
 .obtain⟨_,h⟩:=P.po.ins;rw[e,h]at hz;cases hz
 .obtain⟨_,h⟩:=P.po.Fk;rw[e,h]at hz;cases hz
def GB{α:Type}{it:Hp->α->V->Prop}(E:∀H H',KT H H'->∀x v,it H x v->it H' x v){a:Addr}{f:Str}{q:DX (List bv)}{d:Pz.MD (Int×Int) α}(P:br CP CQ B H A rs S xs xl xr xp kt col)(hD:DL .dT H a q)(F:RepM k2 it H d q)
 (cl:uu K CP) (G:NoAttr K CP f) (I:(pf A).lookup f=some (V.ref a)) {σ:L2.St} {j:Nat} {b:Addr} {k:Int×Int} (h0:σ[0]?=some (some (.ref A.o))) (J:σ[j]?=some (some (.ref b))) (hb:H b=some (.tup [.int k.1,.int k.2])) {Q:VK}
 (y:∀(l:Addr)(vs:List V)(g i:Hp),Same H i->Same B g->KT i g->br CP CQ g i A rs S xs xl xr xp kt col->i l=some (.lst vs)->(∀h,Same g h->DL .dT h a q->h l=some (.lst vs)/\aV (it h) (d.get k) vs)->Q (.ref l) i) :
 gG (eR K (am 0) f) (am j) (je aG) σ H Q:=by
 delta gG
 refine P.rd cl G I h0 ⟨a,rfl,.inr ⟨_,.inl hD.root⟩,_,J,T2 _,λz hz=>?_⟩;have s1:Same H (upd H z (.lst [])):=ao hz;have r:upd H z (.lst []) b=some (.tup ((k2 k).map kV)):=s1 _ _ hb;refine⟨_,DGet.t (s1 _ _ hD.root) r,?_⟩;have C:=P.more s1;rcases F.find mQ k with⟨m,L,s⟩|⟨p,m,L,s⟩
 .rw[kY,m];obtain⟨g,u,n,D,w⟩:=C.wide (λc=>c=z) λc e=>by subst e;exact P.obj hz
  refine y z [] g _ s1 u n w af λh s2 _=>⟨s2 _ _ (D z _ rfl af),?_⟩;rw[s];exact .nil
 .rw[kY,m];obtain⟨g,u,n,D,w⟩:=C.wide (λ_=>False) λ_ e=>e.elim;refine y p.1 p.2 g _ s1 u n w (s1 _ _ (hD.uk _ (dJ m))) λh s2 M=>⟨M.uk _ (dJ m),s.mono (E _ _ λc ws e=>s2 _ _ (n _ _ (s1 _ _ e)))⟩
def Wk(J:L2.It)(g:TG)(tb:TS)(D:Ends)(σ:L2.St)(H:Hp):Prop:=∃W:Nat->Nat->L2.St->Hp->Prop,(∃m,W 0 m σ H)/\∀i m σ H,W i m σ H->
 (J.stop i H/\D.nx σ H)\/(J.go i H/\∃N:L2.St->Hp->Prop,(∀σ' H',N σ' H'->∃m',m'<m/\W (i+1) m' σ' H')/\∀x H',J.A_ i H x H'->g x σ H' λa b=>tb {D with nx:=N,ct:=N,bk:=D.nx} a b)
def j9{tb:TS}{D:Ends}{σ:L2.St}(h:tl σ H λx b=>∃a,x=.ref a/\(∃xs,SqL K b a xs)/\Wk (yp K a) g tb D σ b):jd (dk K tl) g tb D σ H:=h
theorem tJ{α:Type}{it:Hp->α->V->Prop}{l:Addr}{vs:List V}{its:List α}{g:TG}{tb:TS}{D:Ends}{σ:L2.St}{f:Hp}(b:L2.St->Prop)(step:Pz.PS->α->Pz.PS)(S0:Pz.PS)(W:Pz.PS->Hp->Prop)(h0:b σ)(h1:W S0 f)
 (c:∀S H,W S H->Rd H l (.lst vs)/\aV (it H) its vs)
 (hb:∀(i:Nat)(x:α)(v:V)(σ:L2.St)(H:Hp)(h:Ends),its[i]?=some x->it H x v->b σ->W ((its.take i).foldl step S0) H->(∀σ' H',b σ'->W (step ((its.take i).foldl step S0) x) H'->h.nx σ' H')->g v σ H λd k=>tb h d k)
 (hd:∀σ H,b σ->W (its.foldl step S0) H->D.nx σ H):Wk (yp K l) g tb D σ f:=by
 have n:its.length=vs.length:=(c _ _ h1).2.len;refine jn (K:=K) (a:=l) (xs:=vs) (λi σ H=>b σ/\W ((its.take i).foldl step S0) H) ⟨h0,h1⟩ (λi σ H _ ⟨_,w⟩=>Or.inl (c _ _ w).1) (λi v σ H m ⟨s,w⟩=>?_) λσ H ⟨s,w⟩=>?_
 .obtain⟨x,j,ix⟩:=(c _ _ w).2.get m;have e:(its.take (i+1)).foldl step S0=step ((its.take i).foldl step S0) x:=by rw[Ui,j,Vw];rfl
  rw[e];exact hb i x v σ H _ j ix s w λ_ _=>And.intro
 .rw[UT (by lia)]at w;exact hd σ H s w
def tL{α:Type}{it:Hp->α->V->Prop}(C:∀H H',KT H H'->∀x v,it H x v->it H' x v){a:Addr}{f:Str}{u:DX (List bv)}{d:Pz.MD (Int×Int) α}(P:br CP CQ B H A rs S xs xl xr xp kt col)(hD:DL .dT H a u)(E:RepM k2 it H d u)
 (cl:uu K CP) (F:NoAttr K CP f) (G:(pf A).lookup f=some (V.ref a)) {σ:L2.St} {j:Nat} {b:Addr} {k:Int×Int} (h0:σ[0]?=some (some (.ref A.o))) (I:σ[j]?=some (some (.ref b))) (hb:H b=some (.tup [.int k.1,.int k.2])) {g:TG} {tb:TS} {D:Ends} (n:L2.St->Prop) (step:Pz.PS->α->Pz.PS) (W:Hp->Pz.PS->Hp->Prop) (J:n σ)
 (L:∀h m,br CP CQ h m A rs S xs xl xr xp kt col->W h S m) (p:∀h T m,W h T m->Same h m/\DL .dT m a u)
 (M:∀h (i:Nat) x v σ c (t:Ends),KT H c->(d.get k)[i]?=some x->it c x v->n σ->W h (((d.get k).take i).foldl step S) c->(∀σ' H',n σ'->W h (step (((d.get k).take i).foldl step S) x) H'->t.nx σ' H')->g v σ c λy N=>tb t y N)
 (hd:∀h σ c,Same B h->KT H c->n σ->W h ((d.get k).foldl step S) c->D.nx σ c):jd (dk K (gG (eR K (am 0) f) (am j) (je aG))) g tb D σ H:=by
 refine j9 (GB C P hD E cl F G h0 I hb λl vs h m s1 O Q R z q=>?_);have r:∀T c,W h T c->KT H c:=λT c w a ws e=>(p h T c w).1 _ _ (Q _ _ (s1 _ _ e));exact⟨l,rfl,⟨_,SqL.of z⟩,tJ (it:=it) n step S (W h) J (L h m R) (λT c w=>⟨.inl (q c (p h T c w).1 (p h T c w).2).1,(q c (p h T c w).1 (p h T c w).2).2⟩)
  (λi x v σ c t e1 e2 e3 e4=>M h i x v σ c t (r _ _ e4) e1 e2 e3 e4) λσ c s w=>hd h σ c O (r _ _ w) s w⟩
def Si(a:H b=some (.tup [x,y,z]))(k:Q (((σ.set i (some x)).set j (some y)).set l (some z)) H):dU K 3 (aQ (ay i) (aQ (ay j) (aQ (ay l) dS))) (.ref b) σ H Q:=⟨b,_,rfl,SqT.of a,rfl,_,_,rfl,_,_,rfl,_,_,rfl,rfl,k⟩
def ie{α:Type}{step:Pz.PS->α->Pz.PS}(a:∀S x,Pz.fH S (step S x)){its:List α}{S0:Pz.PS}(h:Pz.kK (its.foldl step S0)){i:Nat}{x:α}(b:its[i]?=some x):Pz.kK (step ((its.take i).foldl step S0) x):=by
 have e:(its.take (i+1)).foldl step S0=step ((its.take i).foldl step S0) x:=by rw[Ui,b,Vw];rfl
 rw[<- e];refine Pz.fH.fit (Pz.cg step a (its.drop (i+1)) _) ?_;rw[<- Vw,Vn];exact h
def kF:R2:=wu λi j=>.int (i+j)
def Reads.add(h:Reads ta σ H (.int i))(h':Reads tb σ H (.int j)):Reads (cY kF ta tb) σ H (.int (i+j)):=h.op h' λ_ q=>⟨i,j,rfl,rfl,q⟩
inductive l7(CP CQ:Addr):Sp
 |mk {B H:Hp} {A:PA} {rs:Pz.RS} {S:Pz.PS} {xs xl xr:DX (List bv)} {c:Addr} {r:Pz.Rule} {num mid price:Int} {Q:VK} {E:XK} (P:PAt CP CQ B H A rs S xs xl xr) (hr:IsRule H r (.ref c)) (h2:2<=r.2.2.2.length) (f:Pz.kK (Pz.first au S num r mid price))
  (k:∀H' xl',PAt CP CQ B H' A rs (Pz.first au S num r mid price) xs xl' xr->Q .bp H'):l7 CP CQ [.ref A.o,.int num,.ref c,.int mid,.int price] H Q E
def NA(K:Xp)(CP CQ:Addr):TS:=cO (eS CP "offer" (eL CP CQ) [] E0 (am 0) (ai (eY (ai (cY (nE K) (am 2) (tC (.int 0))) (ai (cY (nE K) (am 2) (tC (.int 1))) (ai (am 6) aG))))
 (ai (cY kF (cY kF (am 4) (am 7)) (tC (.int 1))) (ai (am 1) (ai (am 3) aG)))))
def QK(K:Xp)(CP CQ:Addr):TS:=jd (dk K (gG (eR K (am 0) "settled") (am 5) (je aG))) (dU K 2 (aQ (ay 6) (aQ (ay 7) dS))) (NA K CP CQ)
def NB(K:Xp)(CP CQ:Addr):TS:=bm (cO (pE K (eR K (am 0) "lacking") (am 5) (eY (ai (am 1) (ai (am 2) (ai (am 4) aG)))))) (QK K CP CQ)
def C4(K:Xp)(CP CQ:Addr):TS:=bm (dg (eY (ai (am 3) (ai (cY (nE K) (cY (nE K) (am 2) (tC (.int 3))) (tC (.int 1))) aG))) (ay 5)) (NB K CP CQ)
def vJ(h:l7 CP CQ vs H Q E):vs.length=5:=by cases h;rfl
theorem C5(A:PA):(pf A).lookup ("offer" : Str)=none:=rfl
def GC{l:List Int}(h:2<=l.length):(l.map V.int)[1]?=some (.int (Pz.nth1 l)):=by rcases l with _|⟨_,_|⟨_,_⟩⟩<;>first|rfl|(simp at h)
variable{D:Ends}{σ:L2.St}{b c q:Addr}{r:Pz.Rule}{num mid price:Int}
abbrev P_(r:Pz.Rule)(num mid price:Int)(S:Pz.PS)(x:Int×Int):Pz.PS:=Pz.be au S (r.1,r.2.1,x.1) (price+x.2+1) (some num) (some mid)
def QL(A:PA)(num:Int)(c:Addr)(mid price:Int)(b:Addr)(σ:L2.St):Prop:=∃u v,σ=[some (.ref A.o),some (.int num),some (.ref c),some (.int mid),some (.int price),some (.ref b),u,v]
def Ki(P:PAt CP CQ B H A rs S xs xl xr)(h:IsSet H x v)(e:QL A num c mid price b σ)(d:H c=some (.tup [.int r.1,.int r.2.1,.int r.2.2.1,.ref q]))(f:Pz.kK (P_ r num mid price S x))
 (k:∀σ' H',QL A num c mid price b σ'->PAt CP CQ B H' A rs (P_ r num mid price S x) xs xl xr->D.nx σ' H'):dU K 2 (aQ (ay 6) (aQ (ay 7) dS)) v σ H λa g=>NA K CP CQ D a g:=by
 obtain⟨t,rfl,i⟩:=h;obtain⟨u,w,rfl⟩:=e;exact EX i (tH P f (.va rfl) (.t (.c (.ix (.va rfl) d rfl) (.c (.ix (.va rfl) d rfl) (.c (.va rfl) .ni))) rfl) (λ_ _=>.c (.add (.add (.va rfl) (.va rfl)) .k) (.c (.va rfl) (.c (.va rfl) .ni))) λH'=>k _ H' ⟨_,_,rfl⟩)
def Kj(TP:kq K CP)(P:br CP CQ B H A rs S xs xl xr xp kt col)(hb:H b=some (.tup [.int mid,.int (Pz.nth1 r.2.2.2)]))(y:H c=some (.tup [.int r.1,.int r.2.1,.int r.2.2.1,.ref q]))(G:H q=some (.tup (r.2.2.2.map .int)))(fit:Pz.kK (Pz.first au S num r mid price))(I:σ=[some (.ref A.o),some (.int num),some (.ref c),some (.int mid),some (.int price),some (.ref b),none,none])
 (k:∀σ' H' n,PAt CP CQ B H' A rs (Pz.first au S num r mid price) xs n xr->D.nx σ' H'):NB K CP CQ D σ H:=by
 subst I;have f:Pz.kK (Pz.tz S num r mid price):=Pz.fH.fit (Pz.cg _ (λS x=>Pz.bY S _ _ _ _) _ _) fit;have C:=f.l;have E:=f.lf;have al:=Pz.fq S.aH (mid,Pz.nth1 r.2.2.2) (num,r,price);have e5:(Pz.tz S num r mid price).aH=S.aH.app (mid,Pz.nth1 r.2.2.2) (num,r,price):=rfl;rw[e5]at C E;unfold Pz.L at C E;have g:RepM k2 IsLack H S.aH xl:=P.p3.r;refine tE (a:=A.la) (b:=b) (xs:=xl) (k:=k2 (mid,Pz.nth1 r.2.2.2)) (ws:=[.int num,.ref c,.int price]) P.p3.d (P.fld TP.cl TP.nl (Nx A) rfl) (.va rfl) hb (λH' _=>.t (.c (.va rfl) (.c (.va rfl) (.c (.va rfl) .ni))) rfl) (by rw[<- g.len];lia) (g.low (by lia)) ?_;intro l p J M R N hd kp;have e:=P.p3.d.kt (λ_ _ z=>HO.noConfusion z) kp;have u:br CP CQ B J A rs (Pz.tz S num r mid price) xs _ xr _ _ _:=P.tz hd (g.add (k:=(mid,Pz.nth1 r.2.2.2)) (v:=(num,r,price)) mQ (IsLack.keep e) ⟨p,_,rfl,N,c,q,rfl,e _ _ y,e _ _ G⟩) (λc z=>(j8 z).imp id λz=>by rw[z];exact M) kp;exact tL (λH H' k=>IsSet.keep k) u u.p2.d u.p2.r TP.cl TP.ns (Nw A) (j:=5) (k:=(mid,Pz.nth1 r.2.2.2)) rfl rfl (e _ _ hb) (QL A num c mid price b) (P_ r num mid price) (λh T m=>PAt CP CQ h m A rs T xs _ xr) ⟨none,none,rfl⟩ (λh O P=>⟨_,_,_,P⟩)
  (λh T O ⟨_,_,_,P⟩=>⟨P.same,P.p2.d⟩) (λh i x v σ m U F e1 e2 e3 e4 k=>Ki e4 e2 e3 (F _ _ (e _ _ y)) (ie (step:=P_ r num mid price) (λS x=>Pz.bY S _ _ _ _) fit e1) k) λh σ m Q F s w=>k σ m _ (w.less Q)
theorem xK{vs:List V}(TP:kq K CP)(h:l7 CP CQ vs H Q E):C4 K CP CQ {nx:=λ_ H'=>Q .bp H',rt:=Q} (bO ["self","number","rule","mid","price","start","state","second"] vs) H:=by
 obtain⟨⟨xp,kt,col,P⟩,⟨_,q,e,a,d⟩,h2,fit,k⟩:=h;cases e
 delta C4 bm dg
 exact xE (.c (.va rfl) (.c (.ix (.ix (.va rfl) a rfl) d (gp (j:=1) (GC h2))) .ni)) rfl λb hb=>Kj TP (P.more (ao hb)) af (ao hb _ _ a) (ao hb _ _ d) fit rfl λ_=>k
end
section
variable{K:Xp}{xp:DX bv}{kt:List (List bv×V)}{col:Addr->Nat}
def gA(K:Xp):List V->Hp->VK->Prop:=λxs H Q=>∃p a,xs=[.ref p]/\(SqL K H p a\/SqT K H p a)/\Q (.int a.length) H
def cq:CallR X (.builtin "len") (gA X.K):=call_len_seq
abbrev tI(K:Xp)(i:Nat)(n:Int):TE:=cY (nE K) (am i) (tC (.int n))
def tM(rs:Pz.RS):Prop:=∀k x,x∈rs.get k->1<=x.2.2.2.2.length
inductive jY(CP CQ:Addr):Sp
 |mk {B H:Hp} {A:PA} {rs:Pz.RS} {S:Pz.PS} {xs xl xr:DX (List bv)} {b:Addr} {a:Pz.Arr} {price:Int} {Q:VK} {E:XK} (P:PAt CP CQ B H A rs S xs xl xr) (ha:H b=some (.tup (pF a))) (rok:tM rs) (f:Pz.kK (Pz.settle au rs S a price))
  (k:∀H' xs' xl',PAt CP CQ B H' A rs (Pz.settle au rs S a price) xs' xl' xr->Q .bp H'):jY CP CQ [.ref A.o,.ref b,.int price] H Q E
def NC(K:Xp)(CP CQ:Addr):TS:=gh (cS (cY zL (jZ (gA K) (ai (tI K 5 3) aG)) (tC (.int 1))))
 (cO (eS CP "offer" (eL CP CQ) [] E0 (am 0) (ai (eY (ai (tI K 5 0) (ai (tI K 5 1) (ai (tI K 1 2) aG)))) (ai (cY kF (am 2) (tC (.int 1))) (ai (am 4) (ai (tC .bp) aG))))))
 (cO (eS CP "settle_first" (l7 CP CQ) [] E0 (am 0) (ai (am 4) (ai (am 5) (ai (tI K 1 2) (ai (am 2) aG))))))
def QM(K:Xp)(CP CQ:Addr):TS:=jd (dk K (gG (eR K (am 0) "rules") (am 3) (je aG))) (dU K 2 (aQ (ay 4) (aQ (ay 5) dS))) (NC K CP CQ)
def ND(K:Xp)(CP CQ:Addr):TS:=cO (eS CP "offer" (eL CP CQ) [] E0 (am 0) (ai (eY (ai (tI K 5 0) (ai (tI K 5 1) (ai (tI K 1 2) aG)))) (ai (cY kF (cY kF (am 6) (am 2)) (tC (.int 1))) (ai (am 4) (ai (tI K 1 0) aG)))))
def QN(K:Xp)(CP CQ:Addr):TS:=bm (jd (dk K (gG (eR K (am 0) "lacking") (am 3) (je aG))) (dU K 3 (aQ (ay 4) (aQ (ay 5) (aQ (ay 6) dS)))) (ND K CP CQ)) (QM K CP CQ)
def NE(K:Xp)(CP CQ:Addr):TS:=bm (cO (pE K (eR K (am 0) "settled") (am 3) (eY (ai (tI K 1 2) (ai (am 2) aG))))) (QN K CP CQ)
def zi(K:Xp)(CP CQ:Addr):TS:=bm (dg (eY (ai (tI K 1 0) (ai (tI K 1 1) aG))) (ay 3)) (NE K CP CQ)
def tO(h:jY CP CQ vs H Q E):vs.length=3:=by cases h;rfl
def C6(A:PA):(pf A).lookup ("settle_first" : Str)=none:=rfl
def Reads.len(h:Reads ta σ H (.ref q))(a:H q=some (.tup ws)):Reads (jZ (gA K) (ai ta aG)) σ H (.int ws.length):=λ_ k=>h _ ⟨q,ws,rfl,.inr (SqT.of a),k⟩
def Reads.HQ(h:Reads ta σ H (.int m))(h':Reads tb σ H (.int n)):Reads (cY zL ta tb) σ H (.bl (decide (m=n))):=h.op h' λ_ q=>⟨rfl,by rw[show decide (V.int m=V.int n)=decide (m=n)from decide_eq_decide.mpr ⟨λe=>by injection e,λe=>by rw[e]⟩];exact q⟩
variable{D:Ends}{σ:L2.St}{b b0:Addr}{a:Pz.Arr}{price:Int}
def MA(A:PA)(b0:Addr)(price:Int)(b:Addr)(σ:L2.St):Prop:=∃u v w,σ=[some (.ref A.o),some (.ref b0),some (.int price),some (.ref b),u,v,w]
def QO(P:PAt CP CQ B H A rs S xs xl xr)(h:IsLack H x v)(g:MA A b0 price b σ)(ha:H b0=some (.tup (pF a)))(f:Pz.kK (Pz.ng au a price S x))
 (k:∀σ' H',MA A b0 price b σ'->PAt CP CQ B H' A rs (Pz.ng au a price S x) xs xl xr->D.nx σ' H'):dU K 3 (aQ (ay 4) (aQ (ay 5) (aQ (ay 6) dS))) v σ H λd i=>ND K CP CQ D d i:=by
 obtain⟨t,_,rfl,j,c,q,rfl,e,l⟩:=h;obtain⟨u,w,z,rfl⟩:=g;exact Si j (tH P f (.va rfl) (.t (.c (.ix (.va rfl) e rfl) (.c (.ix (.va rfl) e rfl) (.c (.ix (.va rfl) ha rfl) .ni))) rfl) (λ_ s=>.c (.add (.add (.va rfl) (.va rfl)) .k) (.c (.va rfl) (.c (.ix (.va rfl) (s _ _ ha) rfl) .ni))) λH'=>k _ H' ⟨_,_,_,rfl⟩)
def QP(P:PAt CP CQ B H A rs S xs xl xr)(h:IsNum H x v)(l:MA A b0 price b σ)(ha:H b0=some (.tup (pF a)))(o:1<=x.2.2.2.2.length)(f:Pz.kK (Pz.cv au a price S x))
 (k:∀σ' H',MA A b0 price b σ'->(∃d,PAt CP CQ B H' A rs (Pz.cv au a price S x) xs d xr)->D.nx σ' H'):dU K 2 (aQ (ay 4) (aQ (ay 5) dS)) v σ H λi m=>NC K CP CQ D i m:=by
 obtain⟨t,_,rfl,n,c,q,rfl,g,j⟩:=h;obtain⟨u,w,z,rfl⟩:=l;unfold Pz.cv at f k;have e1:(((x.2.2.2.2.map V.int).length:Nat):Int)=1↔x.2.2.2.2.length=1:=by rw[Tp];lia
 refine EX n (jN (.HQ (.len (.ix (.va rfl) g rfl) j) .k) (λh=>?_) λh=>?_)
 .rw[Tt (e1.mp (T_ h))]at f k;exact tH P f (.va rfl) (.t (.c (.ix (.va rfl) g rfl) (.c (.ix (.va rfl) g rfl) (.c (.ix (.va rfl) ha rfl) .ni))) rfl) (λ_ s=>.c (.add (.va rfl) .k) (.c (.va rfl) (.c .k .ni))) λH' e=>k _ H' ⟨_,_,_,rfl⟩ ⟨_,e⟩
 .have h1:¬x.2.2.2.2.length=1:=λz=>h (TZ (e1.mpr z));have h2:2<=x.2.2.2.2.length:=by lia
  rw[TC h1]at f k;have e:=P;obtain⟨_,_,_,Q⟩:=e;exact vD (.va rfl) Q.po.ins (C6 A) (.c (.va rfl) (.c (.va rfl) (.c (.ix (.va rfl) ha rfl) (.c (.va rfl) .ni)))) (.mk P ⟨c,q,rfl,g,j⟩ h2 f λH' d e=>k _ H' ⟨_,_,_,rfl⟩ ⟨d,e⟩)
def QQ(TP:kq K CP)(P:br CP CQ B H A rs S xs xl xr xp kt col)(ha:H b0=some (.tup (pF a)))(hb:H b=some (.tup [.int a.1,.int a.2.1]))(F:tM rs)(fit:Pz.kK (Pz.settle au rs S a price))(U:σ=[some (.ref A.o),some (.ref b0),some (.int price),some (.ref b),none,none,none])
 (k:∀σ' H' G e,PAt CP CQ B H' A rs (Pz.settle au rs S a price) G e xr->D.nx σ' H'):NE K CP CQ D σ H:=by
 subst U;have g2:Pz.fH ((S.aH.get (a.1,a.2.1)).foldl (Pz.ng au a price) (Pz.note S a price)) (Pz.settle au rs S a price):=Pz.cg _ (Pz.kW a price) _ _;have h:=g2.fit fit;have m:Pz.kK (Pz.note S a price):=Pz.fH.fit (Pz.cg _ (λS x=>Pz.bY S _ _ _ _) _ _) h;have O:=m.s;have Q:=m.sf;have al:=Pz.fq S.settled (a.1,a.2.1) (a.2.2,price);have e5:(Pz.note S a price).settled=S.settled.app (a.1,a.2.1) (a.2.2,price):=rfl;rw[e5]at O Q;unfold Pz.L at O Q;have n:RepM k2 IsSet H S.settled xs:=P.p2.r;refine tE (a:=A.sa) (b:=b) (xs:=xs) (k:=k2 (a.1,a.2.1)) (ws:=[.int a.2.2,.int price]) P.p2.d (P.fld TP.cl TP.ns (Nw A) rfl) (.va rfl) hb (λH' kp=>.t (.c (.ix (.va rfl) (kp _ _ ha (λz=>by rw[z,P.p2.d.root]at ha;cases ha)) rfl) (.c (.va rfl) .ni)) rfl) (by rw[<- n.len];lia) (n.low (by lia)) ?_;intro l p V W hp X hd kp;have f:=P.p2.d.kt (λ_ _ z=>HO.noConfusion z) kp;have y:br CP CQ B V A rs (Pz.note S a price) _ xl xr _ _ _:=P.R3 hd (n.add (k:=(a.1,a.2.1)) (v:=(a.2.2,price)) mQ (IsSet.keep f) ⟨p,rfl,X⟩) (λc z=>(j8 z).imp id λz=>by rw[z];exact W) kp;generalize mP xs (k2 (a.1,a.2.1)) l (.ref p)=q at y;refine tL (λH H' k=>IsLack.keep k) y y.p3.d y.p3.r TP.cl TP.nl (Nx A) (j:=3) (k:=(a.1,a.2.1)) rfl rfl (f _ _ hb) (MA A b0 price b) (Pz.ng au a price) (λg T I=>PAt CP CQ g I A rs T q xl xr) ⟨none,none,none,rfl⟩ (λg J P=>⟨_,_,_,P⟩)
  (λg T J ⟨_,_,_,P⟩=>⟨P.same,P.p3.d⟩) (λg i x v σ I Y C e1 e2 e3 e4 k=>QO e4 e2 e3 (C _ _ (f _ _ ha)) (ie (step:=Pz.ng au a price) (λS x=>Pz.bY S _ _ _ _) h e1) k) λg σ I Z C s w=>?_
 obtain⟨u,v,z,rfl⟩:=s;obtain⟨_,_,_,M⟩:=w;have N:=C _ _ (f _ _ ha);exact tL (λH H' k=>IsNum.keep k) M M.p4.d M.p4.r TP.cl TP.nr (QJ A) (j:=3) (k:=(a.1,a.2.1)) rfl rfl (C _ _ (f _ _ hb)) (MA A b0 price b) (Pz.cv au a price) (λg T E=>∃e,PAt CP CQ g E A rs T q e xr) ⟨_,_,_,rfl⟩ (λg J P=>⟨_,_,_,_,P⟩)
  (λg T J ⟨_,_,_,_,P⟩=>⟨P.same,P.p4.d⟩) (λg i x v σ E Y R e1 e2 e3 ⟨_,e4⟩ k=>QP e4 e2 e3 (R _ _ N) (F _ _ (T5 e1)) (ie (step:=Pz.cv au a price) (Pz.kW a price) fit e1) k) λB2 σ E b2 R s ⟨e,w⟩=>k σ E _ e (w.less (Z.trans b2))
theorem vK(TP:kq K CP)(h:jY CP CQ vs H Q E):zi K CP CQ {nx:=λ_ H'=>Q .bp H',rt:=Q} (bO ["self","arrow","price","start","number","rule","first"] vs) H:=by
 obtain⟨⟨xp,kt,col,P⟩,ha,d,fit,k⟩:=h
 delta zi bm dg
 exact xE (.c (.ix (.va rfl) ha rfl) (.c (.ix (.va rfl) ha rfl) .ni)) rfl λb hb=>QQ TP (P.more (ao hb)) (ao hb _ _ ha) af d fit rfl λ_=>k
end
section
variable{K:Xp}
def br.Aw(h:br CP CQ B H A rs S xs xl xr xp kt col)(h0:∃dx,H' A.aq=some (.ins CQ dx (qf A m)))(h1:DL .dK H' A.ap xp')(h2:RepM k1 IsItem H' d' xp')(j:∀c,cT A.ap xp' c->cT A.ap xp c\/H c=none)
 (kp:∀c u,H c=some u->¬cT A.ap xp c->c≠A.aq->H' c=some u):br CP CQ B H' A rs {S with last:=m,aE:=d'} xs xl xr xp' kt (tF col 1 H):=by
 obtain⟨q,b⟩:=h.po.Fk;have k:KT H H':=λc ws e=>kp c _ e (λi=>by
  rcases i with rfl|⟨x,l,rfl⟩
  .rw[h.p1.d.root]at e;cases e
  .rw[h.p1.d.uk x l]at e;cases e) λz=>by rw[z,b]at e;cases e
 have a:∀c u,H c=some u->col c≠1->col c≠7->H' c=some u:=λc u e n o=>kp c u e (λi=>n (h.p1.c c i).1) λz=>o (by rw[z];exact h.po.c7.1);obtain⟨⟨dx,f⟩,_,g,p,c5,c6,c7⟩:=h.po;refine⟨(λc u e=>kp c u (h.same c u e) (λi=>by rw[(h.p1.c c i).2]at e;cases e) λz=>by rw[z,c7.2]at e;cases e),h.p1.new h.same h1 h2 j,h.p2.keep (IsSet.keep k) (λc u e z=>a c u e (by lia) (by lia)) λc=>bu,h.p3.keep (IsLack.keep k) (λc u e z=>a c u e (by lia) (by lia)) λc=>bu,h.p4.keep (IsNum.keep k) (λc u e z=>a c u e (by lia) (by lia)) λc=>bu,⟨dx,a _ _ f (by lia) (by lia)⟩,h0,a _ _ g (by lia) (by lia),p.keep k,?_,?_,?_⟩
 .rw[bu (by rw[g];simp)];exact c5
 .rw[bu (by rw[f];simp)];exact c6
 .rw[bu (by rw[b];simp)];exact c7
inductive wc(CP CQ:Addr):Sp
 |mk {B H:Hp} {A:PA} {rs:Pz.RS} {S T:Pz.PS} {xs xl xr:DX (List bv)} {n:Nat} {Q:VK} {E:XK} (P:PAt CP CQ B H A rs S xs xl xr) (rok:tM rs) (fit:Pz.kK S) (lp:Pz.Loop au rs n S T) (k:∀H' xs' xl',PAt CP CQ B H' A rs T xs' xl' xr->Q .bp H'):wc CP CQ [.ref A.o] H Q E
def NF(K:Xp)(CP CQ:Addr):TS:=gh (cS (cY zL (cY (nE K) (jt (eR K (am 0) "told") (am 2)) (tC (.int 0))) (am 1))) (cO (eS CP "settle" (jY CP CQ) [] E0 (am 0) (ai (am 2) (ai (am 1) aG)))) cW
def NG(K:Xp)(CP CQ:Addr):TS:=jd (dk K (eS CQ "take_lowest" (qu CQ) [] E0 (eR K (am 0) "offers") aG)) (dU K 2 (aQ (ay 1) (aQ (ay 2) dS))) (NF K CP CQ)
def QR(K:Xp)(CP CQ:Addr):TS:=Br (uC (tB (eS CQ "is_empty" (l9 CQ) [] E0 (eR K (am 0) "offers") aG))) (NG K CP CQ)
def AH(h:wc CP CQ vs H Q E):vs.length=1:=by cases h;rfl
def Kk(A:PA)(last:Int):(qf A last).lookup ("is_empty" : Str)=none:=rfl
def GD(A:PA)(last:Int):(qf A last).lookup ("take_lowest" : Str)=none:=rfl
def AI(A:PA):(pf A).lookup ("settle" : Str)=none:=rfl
variable{D:Ends}{σ:L2.St}{T:Pz.PS}{m:Nat}
def NH(A:PA)(σ:L2.St):Prop:=∃u v,σ=[some (.ref A.o),u,v]
def wA(CP CQ:Addr)(B:Hp)(A:PA)(rs:Pz.RS)(a:DX (List bv))(T:Pz.PS)(m:Nat)(σ:L2.St)(H:Hp):Prop:=NH A σ/\∃S xs b,PAt CP CQ B H A rs S xs b a/\Pz.kK S/\Pz.Loop au rs m S T
def SO(TP:kq K CP)(e:tM rs)(P:PAt CP CQ B H A rs S xs xl xr)(h:IsItem H x v)(j:NH A σ)(l:Pz.bA S.told x.2≠none)(f:Pz.kK (Pz.turn au rs S x))
 (k:∀σ' H',NH A σ'->(∃a d,PAt CP CQ B H' A rs (Pz.turn au rs S x) a d xr)->D.nx σ' H'):dU K 2 (aQ (ay 1) (aQ (ay 2) dS)) v σ H λg n=>NF K CP CQ D g n:=by
 obtain⟨t,_,rfl,o,b,rfl,hb⟩:=h;obtain⟨u,w,rfl⟩:=j;have i:=P;obtain⟨_,_,_,Q⟩:=i;rcases Q.po.tr.find x.2 with⟨_,e2⟩|⟨_,y,e1,e2,q,rfl,p⟩
 .exact(l e2).elim
 unfold Pz.turn Pz.Mz at f k;rw[e2]at f k;refine EX o (jN (.HQ (.ix (λ_ z=>Q.fld TP.cl TP.nt (GA A) rfl _ ⟨_,rfl,A.ta,.ref q,rfl,by rw[<- e1];exact DGet.t Q.po.td hb,z⟩) p rfl) (.va rfl)) (λh=>?_) λh=>?_)
 .rw[Tt h]at f k;exact vD (.va rfl) Q.po.ins (AI A) (.c (.va rfl) (.c (.va rfl) .ni)) (.mk P hb e f λH' a d i=>k _ H' ⟨_,_,rfl⟩ ⟨a,d,i⟩)
 .rw[TC h]at k;exact k _ H ⟨_,_,rfl⟩ ⟨xs,xl,P⟩
def al2(TP:kq K CP)(o:tM rs)(P:br CP CQ B H A rs S xs xl xr xp kt col)(fit:Pz.kK S)(J:NH A σ)(q:S.aE≠[])(aW:Pz.wl au S.last S.aE)(t:∀x∈Pz.dI au S.aE,Pz.bA S.told x.2≠none)(g:Pz.kK (Pz.batch au rs (Pz.take au S) (Pz.dI au S.aE)))
 (lp:Pz.Loop au rs m (Pz.batch au rs (Pz.take au S) (Pz.dI au S.aE)) T) (k:∀σ' H',wA CP CQ B A rs xr T m σ' H'->D.nx σ' H'):NG K CP CQ D σ H:=by
 obtain⟨u,v,rfl⟩:=J;have y:RepM k1 IsItem H S.aE xp:=P.p1.r;have M:=fit.p;have N:=fit.pf;unfold Pz.L at M N;refine j9 (vD (P.fld TP.cl TP.no (Ke A) rfl) P.po.Fk (GD A _) .ni (.mk ⟨P.po.Fk,P.p1.d,by rw[<- y.len];lia,y.low (by lia)⟩ y aW q (by lia) ?_));intro l vs' C O G Q j R nl il n E;have U:br CP CQ B O A rs (Pz.take au S) xs xl xr C kt _:=P.Aw (m:=Pz.lowP S.aE) (d':=Pz.left au S.aE) G.ins G.aE Q n E;obtain⟨F,V,W,X,Y⟩:=U.wide (λc=>c=l) λc e=>by
  subst e;rcases il with il|il
  .have hc:=(P.p1.c c il).1;refine⟨nl,λi=>?_,λi=>?_,λi=>?_,λz=>?_,λz=>?_,λz=>?_⟩
   .have:=(P.p2.c c i).1;lia
   .have:=(P.p3.c c i).1;lia
   .have:=(P.p4.c c i).1;lia
   .have:=P.po.c5.1;rw[z]at hc;lia
   .have:=P.po.c6.1;rw[z]at hc;lia
   .have:=P.po.c7.1;rw[z]at hc;lia
  .exact⟨nl,(P.obj il).2⟩
 have sm:∀h a,(∃b f,PAt CP CQ F a A rs h b f xr)->Same F a:=λh a ⟨_,_,_,_,_,P⟩=>P.same;exact⟨l,rfl,⟨_,SqL.of j⟩,tJ (it:=IsItem) (NH A) (Pz.turn au rs) (Pz.take au S) (λh a=>∃b f,PAt CP CQ F a A rs h b f xr) ⟨_,_,rfl⟩ ⟨xs,xl,_,_,_,Y⟩ (λh a w=>⟨.inl (sm h a w _ _ (X l _ rfl j)),R.mono (IsItem.keep λc ws e=>sm h a w _ _ (W _ _ e))⟩)
  (λi x v σ a Z I ix s ⟨_,_,w⟩ k=>SO TP o w ix s (Pz.jL _ (λS x k=>Pz.Gq k) _ _ (t x (T5 I))) (ie (step:=Pz.turn au rs) Pz.Ay g I) k) λσ a s ⟨b,f,w⟩=>k σ a ⟨s,_,b,f,w.less V,g,lp⟩⟩
theorem C7(TP:kq K CP)(h:wc CP CQ vs H Q E):QR K CP CQ {nx:=λ_ H'=>Q .bp H',rt:=Q} (bO ["self","price","arrow"] vs) H:=by
 obtain @⟨B,H,A,rs,S,T,xs,c,xr,n,Q,E,P,rok,fit,lp,k⟩:=h;refine⟨wA CP CQ B A rs xr T,⟨n,⟨none,none,rfl⟩,S,xs,c,P,fit,lp⟩,?_⟩;clear P lp fit;rintro m σ H ⟨i,S,xs,c,⟨j,kt,f,P⟩,fit,lp⟩;have h0:σ[0]?=some (some (.ref A.o)):=by obtain⟨_,_,rfl⟩:=i;rfl
 have el:j.kv.length=S.aE.length:=by unfold DX.kv;rw[Tp,<- P.p1.r.len]
 obtain⟨q,l⟩:=P.po.Fk;have s:=fit.p;unfold Pz.L at s;refine vD (P.fld TP.cl TP.no (Ke A) h0) ⟨q,l⟩ (Kk A _) .ni (.mk l P.p1.d.root (by rw[el,Ud];lia) ⟨_,rfl,?_⟩);rw[el];cases lp with
 |done e=>rw[e];exact gk (k H xs c ⟨j,kt,f,P⟩)
 |@step m _ _ a aW g _ b lp=>rw[Uw λz=>a (UO.mp z)];exact mB ⟨wA CP CQ B A rs xr T m,λσ' H' h'=>⟨m,VR _,h'⟩,al2 TP rok P fit i a aW g b lp λ_ _=>id⟩
end
section
variable{K:Xp}{H:Hp}
theorem zj{tb:TS}{D:Ends}{σ:L2.St}{d:Hp}(a:L2.St->Prop)(W:Nat->Hp->Prop)(h0:a σ)(h1:W 0 d)(h:∀i H,W i H->SqL K H l vs)
 (hb:∀(i:Nat)(v:V)(p:Addr)(σ:L2.St)(H:Hp)(f:Ends),vs[i]?=some v->H p=none->a σ->W i H->(∀σ' H',a σ'->W (i+1) H'->f.nx σ' H')->g (.ref p) σ (upd H p (.tup [.int (i:Nat),v])) λc j=>tb f c j)
 (hd:∀σ H,a σ->W vs.length H->D.nx σ H):Wk (P3 K l) g tb D σ d:=by
 refine⟨λi m σ H=>m=vs.length-i/\i<=vs.length/\a σ/\W i H,⟨vs.length,by simp,T2 _,h0,h1⟩,?_⟩;rintro i m σ H ⟨rfl,o,s,w⟩;have q:=h i H w;by_cases b:i<vs.length
 .refine .inr ⟨⟨vs,vs[i],q,by simp[b]⟩,λσ' H'=>a σ'/\W (i+1) H',λσ' H' k=>⟨vs.length-(i+1),by lia,rfl,b,k⟩,λx H' y=>?_⟩;obtain⟨p,v,n,rfl,rfl,y⟩:=y;exact hb i v p σ H _ (y vs q) n s w λ_ _=>And.intro
 .have e:i=vs.length:=by lia
  subst e;exact .inl ⟨⟨vs,q,To _⟩,hd σ H s w⟩
def rP{tb:TS}{D:Ends}{σ:L2.St}(h:ta σ H λvs b=>∃a xs,vs=[.ref a]/\SqL K b a xs/\Wk (P3 K a) g tb D σ b):jd (za K ta) g tb D σ H:=h
theorem xL:∀(l:List Pz.Rule)(k i:Nat),(Pz.en l k)[i]?=(l[i]?).map λr=>(((k+i:Nat):Int),r)
 |[],k,i=>by simp[Pz.en]
 |r::l,k,0=>by simp[Pz.en]
 |r::l,k,i+1=>by show(Pz.en l (k+1))[i]?=(l[i]?).map _;rw[xL l];congr 1;funext r;congr 2;lia
def zk{a:Type}(f:a->Int×Pz.Rule->a)(b:a){l:List Pz.Rule}{i:Nat}{r:Pz.Rule}(h:l[i]?=some r):((Pz.en l 0).take (i+1)).foldl f b=f (((Pz.en l 0).take i).foldl f b) ((i:Int),r):=by
 have e:(Pz.en l 0)[i]?=some ((i:Int),r):=by rw[xL,h];simp
 rw[Ui,e,Vw];rfl
structure dR(H:Hp) (RL:List Pz.Rule) (p l:Addr) (vs:List V):Prop where
 tup:∃w0 w1,H p=some (.tup [w0,w1,.ref l])
 lst:Rd H l (.lst vs)
 its:aV (IsRule H) RL vs
def bh(s:Same H H')(h:Rd H a u):Rd H' a u:=h.imp (s a _) λ⟨o,e⟩=>⟨o,s a _ e⟩
def dR.same(h:dR H RL p l vs)(s:Same H H'):dR H' RL p l vs:=⟨let ⟨a,b,e⟩:=h.tup;⟨a,b,s _ _ e⟩,bh s h.lst,h.its.mono (IsRule.keep (tG s))⟩
inductive EM:Sp
 |mk {RL:List Pz.Rule} {p l:Addr} {ws:List V} {H:Hp} {Q:VK} {E:XK} (G:dR H RL p l ws) (bC:RL.length<16000000) (k:∀(ar:Addr)(xr:DX (List bv))(H':Hp),Same H H'->DL .dT H' ar xr->RepM k2 IsNum H' (Pz.bM RL) xr->(∀c,cT ar xr c->H c=none)->Q (.ref ar) H'):EM [.ref p] H Q E
def Qa:R2:=wu λi j=>.bl (decide (j<i))
def NI(K:Xp):TS:=gh (cS (cY Qa (jZ (gA K) (ai (tI K 3 3) aG)) (tC (.int 0)))) (cO (pE K (am 1) (eY (ai (tI K 3 2) (ai (cY (nE K) (tI K 3 3) (tC (.int 0))) aG))) (eY (ai (am 2) (ai (am 3) aG))))) cW
def QS(K:Xp):TS:=bm (jd (za K (ai (tI K 0 2) aG)) (dU K 2 (aQ (ay 2) (aQ (ay 3) dS))) (NI K)) (jc (am 1))
def SQ(K:Xp):TS:=bm (dg jv (ay 1)) (QS K)
def C8(h:EM vs H Q E):vs.length=1:=by cases h;rfl
def AJ(c:Reads to σ H (.ref a))(d:H a=some (.dT kvs))(e:Makes tk σ H ks)(h:∀b,H b=none->pE K (tC (.ref a)) (tC (.ref b)) te σ (upd H b (.tup ks)) Q):pE K to tk te σ H Q:=c _ ⟨.inr (.inr (.inl ⟨rfl,.inr ⟨_,d⟩⟩)),e _ λb hb=>(h b hb).2⟩
theorem Kl{m:Type}{it:Hp->m->V->Prop}(kp:∀{H H':Hp},KT H H'->∀a v,it H a v->it H' a v){to tk te:TE}{σ:L2.St}{ar:Addr}{g:DX (List bv)}{d:Pz.MD (Int×Int) m}{k:Int×Int}{v:m}{ws:List V}{C:Hp->Prop}(j:DL .dT H ar g)(R2:RepM k2 it H d g)(ok:d.Ok)(gg:d.flat.length<16000000)(w:Reads to σ H (.ref ar))(x:Makes tk σ H [.int k.1,.int k.2])(y:∀H',KT H H'->Makes te σ H' ws)(A:∀p H',KT H H'->H' p=some (.tup ws)->it H' v (.ref p))
 (B:∀H' f,DL .dT H' ar f->RepM k2 it H' (d.app k v) f->(∀c,cT ar f c->cT ar g c\/H c=none)->(∀c u,H c=some u->¬cT ar g c->H' c=some u)->C H'):pE K to tk te σ H λ_ H'=>C H':=by
 refine AJ w j.root x λb hb=>?_;have l:=ao (o:=HO.tup [.int k.1,.int k.2]) hb;refine tE (a:=ar) (b:=b) (xs:=g) (k:=k2 k) (ws:=ws) (j.keep λc u e _=>l c u e) .k .k af (λH' kp=>y H' λc vs e=>kp c _ (l _ _ e) λz=>by rw[z,j.root]at e;cases e) (by rw[<- R2.len];have:=Pz.iA ok;lia) (R2.low gg) ?_;intro F D n q E r s t;have h:∀c u,H c=some u->¬cT ar g c->n c=some u:=λc u e=>t c u (l _ _ e);have i:=j.kt (λ_ _ z=>HO.noConfusion z) h;exact B n _ s (R2.add (k:=k) (v:=v) mQ (kp i) (A D n i r)) (λc z=>(j8 z).imp id λz=>by rw[z];exact l.free q) h
variable{D:Ends}{σ:L2.St}{p ar pp c q:Addr}{r:Pz.Rule}{n:Int}{xr:DX (List bv)}{d:Pz.RS}
def QT(p ar:Addr)(σ:L2.St):Prop:=∃u v,σ=[some (.ref p),some (.ref ar),u,v]
def SR(l:DL .dT H ar xr)(R2:RepM k2 IsNum H d xr)(ok:d.Ok)(gg:d.flat.length<16000000)(m:QT p ar σ)(b:H pp=some (.tup [.int n,.ref c]))(hc:H c=some (.tup [.int r.1,.int r.2.1,.int r.2.2.1,.ref q]))(f:H q=some (.tup (r.2.2.2.map .int)))
 (k:∀σ' H' a,QT p ar σ'->DL .dT H' ar a->RepM k2 IsNum H' (Pz.gy d (n,r)) a->(∀c,cT ar a c->cT ar xr c\/H c=none)->(∀c u,H c=some u->¬cT ar xr c->H' c=some u)->D.nx σ' H'):dU K 2 (aQ (ay 2) (aQ (ay 3) dS)) (.ref pp) σ H λg o=>NI K D g o:=by
 obtain⟨u,w,rfl⟩:=m;have e2:(0:Int)<(((r.2.2.2.map V.int).length:Nat):Int)↔r.2.2.2.length>0:=by rw[Tp];lia
 unfold Pz.gy at k;refine EX b (jN (.op (.len (.ix (.va rfl) hc rfl) f) .k λ_ q=>⟨_,_,rfl,rfl,q⟩) (λh=>?_) λh=>?_)
 .have h1:=e2.mp (T_ h);rw[Tt h1]at k;have i:(r.2.2.2.map V.int)[0]?=some (.int (r.2.2.2[0]?.getD 0)):=by
   cases s:r.2.2.2 with
   |nil=>rw[s]at h1;simp at h1
   |cons x y=>rfl
  exact Kl (k:=(r.2.2.1,r.2.2.2[0]?.getD 0)) (v:=(n,r)) (λk=>IsNum.keep k) l R2 ok gg (.va rfl) (.t (.c (.ix (.va rfl) hc rfl) (.c (.ix (.ix (.va rfl) hc rfl) f (gp (j:=0) i)) .ni)) rfl) (λH' _=>.t (.c (.va rfl) (.c (.va rfl) .ni)) rfl) (λp H' kt A=>⟨p,_,rfl,A,c,q,rfl,kt _ _ hc,kt _ _ f⟩) λH' a=>k _ H' a ⟨_,_,rfl⟩
 .rw[TC λz=>h (TZ (e2.mpr z))]at k;exact k _ H _ ⟨_,_,rfl⟩ l R2 (λc=>.inl) λc u e _=>e
theorem GE{Q:VK}{E:XK}(h:EM vs H Q E):SQ K {nx:=λ_ H'=>Q .bp H',rt:=Q} (bO ["house","rules","number","rule"] vs) H:=by
 obtain @⟨RL,p,l,ws,H,Q,E,G,bC,k⟩:=h;intro ar j;have s1:Same H (upd H ar (.dT [])):=ao j;obtain⟨P,R,B⟩:=(G.same s1).tup;have bl:∀i,(((Pz.en RL 0).take i).foldl Pz.gy []).Ok/\(((Pz.en RL 0).take i).foldl Pz.gy []).flat.length<16000000:=λi=>by obtain⟨a,b⟩:=Pz.xD ((Pz.en RL 0).take i) [] Pz.vA;have h1:=VJ i (Pz.en RL 0);rw[Pz.pB]at h1;have h2:(Pz.MD.flat ([]:Pz.RS)).length=0:=rfl;exact⟨a,by lia⟩
 refine rP (ReadsA.c (.ix (.va (i:=0) rfl) B (v:=.ref l) rfl) .ni _ ⟨l,ws,rfl,.inl (bh s1 G.lst),?_⟩);refine zj (QT p ar) (λi g=>∃xr,Same H g/\DL .dT g ar xr/\RepM k2 IsNum g (((Pz.en RL 0).take i).foldl Pz.gy []) xr/\∀c,cT ar xr c->H c=none) ⟨none,none,rfl⟩ ⟨[],s1,⟨af,λ_ h=>(TR h).elim,Uq,Uq⟩,.nil,λc i=>?_⟩ (λi g ⟨xr,s2,_⟩=>.inl (bh s2 G.lst)) (λi v pp σ g S C s F ⟨xr,s2,t,R2,m⟩ k=>?_) λσ g ⟨u,w,e⟩ ⟨xr,s2,t,R2,m⟩=>?_
 .rcases i with rfl|⟨x,I,_⟩
  .exact j
  .exact(TR I).elim
 .obtain⟨r,J,c,q,rfl,hc,L⟩:=G.its.get C;have y:=ao (o:=HO.tup [.int (i:Nat),.ref c]) s;have f:=s2.trans y;rw[zk _ _ J]at k;exact SR (t.keep λc u e _=>y c u e) (R2.keep (IsNum.keep (tG y))) (bl i).1 (bl i).2 F af (f _ _ hc) (f _ _ L) λσ' H' A h1 h2 M N O=>k σ' H' h1 ⟨A,(λc u e=>O c u (f _ _ e) λz=>by rw[m c z]at e;cases e),h2,M,λc z=>(N c z).elim (m c) f.free⟩
 .subst e;rw[UT (by rw[Pz.pB,G.its.len];exact To _)]at R2;exact⟨_,rfl,k ar xr g s2 t R2 m⟩
end
section
variable{K:Xp}{CP CQ:Addr}{H:Hp}
inductive ma(CP CQ:Addr):Sp
 |mk {B H:Hp} {RL:List Pz.Rule} {o dx p l:Addr} {ws:List V} {Q:VK} {E:XK} (ho:H o=some (.ins CP dx [])) (sb:Same B H) (nb:B o=none) (G:dR H RL p l ws) (bC:RL.length<16000000) (k:∀(A:PA)(xr:DX (List bv))(H':Hp),A.o=o->PAt CP CQ B H' A (Pz.bM RL) Pz.S0 [] [] xr->Q .bp H'):ma CP CQ [.ref o,.ref p] H Q E
def Km(K:Xp)(CQ:Addr):TS:=
 bm (sr K (am 0) (ck EM [] E0 (ai (am 1) aG)) "rules")
 (bm (sr K (am 0) jv "told")
 (bm (sr K (am 0) (yA CQ (lZ CQ) [] E0 aG) "offers")
 (bm (sr K (am 0) jv "settled")
 (sr K (am 0) jv "lacking"))))
def vL(h:ma CP CQ vs H Q E):vs.length=2:=by cases h;rfl
def xM(TP:kq K CP)(h:ma CP CQ vs H Q E):Km K CQ {nx:=λ_ H'=>Q .bp H',rt:=Q} (bO N vs) H:=by
 obtain @⟨B,H,RL,o,dx,p,l,ws,Q,E,ho,sb,nb,G,bC,k⟩:=h;refine⟨_,rfl,.mk G bC λar xr t s1 D1 R1 n1=>?_⟩;have ho1:=s1 _ _ ho;have nor:∀c,cT ar xr c->c≠o:=λc i z=>by grind
 refine⟨_,rfl,o,CP,dx,_,rfl,ho1,TP.cl,TP.nr,(by grind),?_⟩;generalize hH2:upd t o (.ins CP dx (hG "rules" (.ref ar) []))=H2;have J:H2 o=some (.ins CP dx [("rules",.ref ar)]):=by rw[<- hH2,af];rfl
 have L:∀c u,t c=some u->c≠o->H2 c=some u:=λc u e n=>by rw[<- hH2,ag n];exact e
 intro ta g;have e3:upd H2 ta (.dT []) o=some (.ins CP dx [("rules",.ref ar)]):=by rw[ag (aj J g)];exact J
 refine⟨_,rfl,o,CP,dx,_,rfl,e3,TP.cl,TP.nt,(by grind),?_⟩;generalize M:upd (upd H2 ta (.dT [])) o (.ins CP dx (hG "told" (.ref ta) [("rules",.ref ar)]))=v;have f:ta≠o:=(aj J g).symm;have ho4:v o=some (.ins CP dx [("rules",.ref ar),("told",.ref ta)]):=by rw[<- M,af];rfl
 have ta4:v ta=some (.dT []):=by rw[<- M,ag f,af]
 have kp4:∀c u,H2 c=some u->c≠o->v c=some u:=λc u e n=>by rw[<- M,ag n,ag (aj e g)];exact e
 intro aq dq O hdq ndq;refine .mk af λap P w hq5 hp5 kp5=>⟨rfl,?_⟩;have j:∀c u,v c=some u->P c=some u:=λc u e=>kp5 c u (by rw[ag (aj e O),ag (aj e hdq)];exact e) (aj e O);have ap4:v ap=none:=by
  have h1:ap≠aq:=λz=>by grind
  have h2:ap≠dq:=λz=>by rw[z,ag ndq,af]at w;cases w
  rw[ag h1,ag h2]at w;exact w
 have apq:ap≠aq:=λz=>by grind
 refine⟨_,rfl,o,CP,dx,_,rfl,j _ _ ho4,TP.cl,TP.no,(by grind),?_⟩;generalize hH6:upd P o (.ins CP dx (hG "offers" (.ref aq) [("rules",.ref ar),("told",.ref ta)]))=I;have noq:aq≠o:=λz=>by grind
 have nop:ap≠o:=λz=>by grind
 have y:I o=some (.ins CP dx [("rules",.ref ar),("told",.ref ta),("offers",.ref aq)]):=by rw[<- hH6,af];rfl
 have kp6:∀c u,P c=some u->c≠o->I c=some u:=λc u e n=>by rw[<- hH6,ag n];exact e
 intro sa A;have C:sa≠o:=(aj y A).symm;refine⟨_,rfl,o,CP,dx,_,rfl,(by rw[ag (aj y A)];exact y),TP.cl,TP.ns,(by grind),?_⟩;generalize R:upd (upd I sa (.dT [])) o (.ins CP dx (hG "settled" (.ref sa) [("rules",.ref ar),("told",.ref ta),("offers",.ref aq)]))=Z;have D:Z o=some (.ins CP dx [("rules",.ref ar),("told",.ref ta),("offers",.ref aq),("settled",.ref sa)]):=by rw[<- R,af];rfl
 have sa8:Z sa=some (.dT []):=by rw[<- R,ag C,af]
 have kp8:∀c u,I c=some u->c≠o->Z c=some u:=λc u e n=>by rw[<- R,ag n,ag (aj e A)];exact e
 intro la F;have S:la≠o:=(aj D F).symm;refine⟨_,rfl,o,CP,dx,_,rfl,(by rw[ag (aj D F)];exact D),TP.cl,TP.nl,(by grind),?_⟩;generalize T:upd (upd Z la (.dT [])) o (.ins CP dx (hG "lacking" (.ref la) [("rules",.ref ar),("told",.ref ta),("offers",.ref aq),("settled",.ref sa)]))=s;have ho9:s o=some (.ins CP dx (pf ⟨o,ta,aq,ap,sa,la,ar⟩)):=by rw[<- T,af];rfl
 have la9:s la=some (.dT []):=by rw[<- T,ag S,af]
 have kp9:∀c u,Z c=some u->c≠o->s c=some u:=λc u e n=>by rw[<- T,ag n,ag (aj e F)];exact e
 have sa9:=kp9 _ _ sa8 C;have k69:∀c u,I c=some u->c≠o->s c=some u:=λc u e n=>kp9 c u (kp8 c u e n) n;have U:∀c u,P c=some u->c≠o->s c=some u:=λc u e n=>k69 c u (kp6 c u e n) n;have k49:∀c u,v c=some u->c≠o->s c=some u:=λc u e n=>U c u (j c u e) n;have V:∀c u,t c=some u->c≠o->s c=some u:=λc u e n=>k49 c u (kp4 c u (L c u e n) n) n;have fr:∀c,s c≠none->H c=none->B c=none:=λc _ e=>sb.free e;have oldR:∀c,cT ar xr c->t c≠none:=λc i=>D1.obj i;have W:t ta=none:=by
  cases e:t ta with
  |none=>rfl
  |some u=>rw[L _ _ e f]at g;cases g
 have b:∀c,v c=none->c≠o->t c=none/\c≠ta:=λc e n=>by
  refine⟨?_,λz=>by grind⟩;cases X:t c with
  |none=>rfl
  |some u=>rw[kp4 _ _ (L _ _ X n) n]at e;cases e
 have m:∀c,P c=none->c≠o->v c=none/\c≠aq/\c≠ap:=λc e n=>by
  refine⟨?_,(λz=>by grind),λz=>by grind⟩;cases X:v c with
  |none=>rfl
  |some u=>rw[j _ _ X]at e;cases e
 have q:∀c,I c=none->P c=none:=λc e=>by
  cases X:P c with
  |none=>rfl
  |some u=>
   by_cases n:c=o
   .rw[n,y]at e;cases e
   .rw[kp6 _ _ X n]at e;cases e
 have Y:∀c,Z c=none->I c=none/\c≠sa:=λc e=>by
  refine⟨?_,λz=>by grind⟩;cases X:I c with
  |none=>rfl
  |some u=>
   by_cases n:c=o
   .rw[n,D]at e;cases e
   .rw[kp8 _ _ X n]at e;cases e
 obtain⟨la6,la_sa⟩:=Y la F;obtain⟨la4,la_aq,la_ap⟩:=m la (q la la6) S;obtain⟨la1,la_ta⟩:=b la la4 S;obtain⟨sa4,sa_aq,sa_ap⟩:=m sa (q sa A) C;obtain⟨sa1,sa_ta⟩:=b sa sa4 C;obtain⟨aq1,aq_ta⟩:=b aq O noq;obtain⟨ap1,ap_ta⟩:=b ap ap4 nop;have d:∀c,t c=none->H c=none:=λc e=>s1.free e;have same:Same B s:=λc u e=>V c u (s1 c u (sb c u e)) λz=>by grind
 have r:∀{a c:Addr},cT a ([]:DX (List bv)) c->c=a:=λi=>i.elim id λ⟨x,hx,_⟩=>(TR hx).elim
 classical
 refine k ⟨o,ta,aq,ap,sa,la,ar⟩ xr s rfl ⟨[],[],λc=>if c=o then 6 else if c=ta then 5 else if c=aq then 7 else if c=ap then 1 else if c=sa then 2 else if c=la then 3 else 4,same,⟨⟨?_,λ_ h=>(TR h).elim,Uq,Uq⟩,.nil,λc i=>?_⟩,⟨⟨sa9,λ_ h=>(TR h).elim,Uq,Uq⟩,.nil,λc i=>?_⟩,⟨⟨la9,λ_ h=>(TR h).elim,Uq,Uq⟩,.nil,λc i=>?_⟩,⟨D1.keep λc u e i=>V c u e (nor c i),R1.keep (IsNum.keep λc ws e=>V c _ e λz=>by grind),λc i=>?_⟩,⟨dx,ho9⟩,⟨dq,U _ _ hq5 noq⟩,k49 _ _ ta4 f,.nil,?_,?_,?_⟩
 .exact U _ _ hp5 nop
 .have:c=ap:=i.elim id λ⟨x,hx,_⟩=>(TR hx).elim;subst this;exact⟨by grind,sb.free (d _ ap1)⟩
 .have:=r i;dsimp only at this;subst this;exact⟨by grind,sb.free (d _ sa1)⟩
 .have:=r i;dsimp only at this;subst this;exact⟨by grind,sb.free (d _ la1)⟩
 .have hc:=oldR c i;refine⟨?_,sb.free (n1 c i)⟩;rw[TC (nor c i),TC (λz=>hc (by grind)),TC (λz=>hc (by grind)),TC (λz=>hc (by grind)),TC (λz=>hc (by grind)),TC (λz=>hc (by grind))]
 .exact⟨by grind,sb.free (d _ W)⟩
 .exact⟨Tt rfl,nb⟩
 .exact⟨by grind,sb.free (d _ aq1)⟩
end
def jg(a:Pz.Arr):D:=.tup [.int a.1,.int a.2.1,.int a.2.2]
def aI(r:Pz.Rule):D:=.tup [.int r.1,.int r.2.1,.int r.2.2.1,.tup (r.2.2.2.map .int)]
def oD:Option Int->D
 |none=>.bp
 |some i=>.int i
def tP(x:Pz.xA):D:=.tup [.int x.1,oD x.2.1,oD x.2.2]
def kG(t:Pz.TD):D:=.i9 (t.map λx=>.inr (ak x.1)) (t.map λx=>tP x.2)
def pG(ds:List D)(t:Pz.TD):Prop:=∃(RL:List Pz.Rule)(M:List Pz.Arr)(h0 h1 m0 m2:D)(n:Nat)(T:Pz.PS),ds=[.tup [h0,h1,.lst (RL.map aI)],.tup [m0,.lst (M.map jg),m2]]/\RL.length<16000000/\Pz.kK (Pz.jM au RL M)/\Pz.Loop au (Pz.bM RL) n (Pz.jM au RL M) T/\t=T.told
open Classical in
def NJ(Fr:List D->Res R)(ds:List D):Res R:=match Fr ds with
 |.ok _=>if h:∃t,pG ds t then .ok (.jj (kG (Classical.choose h)))else .stuck
 |.exc c=>.exc c
 |.stuck=>.stuck
theorem xN:∀{ns:List Int}{vs:List V},IsAll H m (ns.map .int) vs->vs=ns.map .int
 |[],vs,h=>h
 |n::ns,vs,h=>by obtain⟨v,r,rfl,h1,h2⟩:=h;rw[xN h2,show v=.int n from h1];rfl
def jO(h:Is H m (aI r) v):IsRule H r v:=by obtain⟨a,vs,rfl,ha,v0,e,rfl,e0,b,f,rfl,e1,v2,g,rfl,e2,i,j,rfl,⟨q,ws,rfl,c,d⟩,rfl⟩:=h;obtain rfl:v0=.int r.1:=e0;obtain rfl:b=.int r.2.1:=e1;obtain rfl:v2=.int r.2.2.1:=e2;exact⟨a,q,rfl,ha,by rw[c,xN d]⟩
def NK(h:Is H m (jg r) v):IsArr H r v:=by obtain⟨a,vs,rfl,ha,v0,c,rfl,e0,b,d,rfl,e1,v2,e,rfl,e2,rfl⟩:=h;obtain rfl:v0=.int r.1:=e0;obtain rfl:b=.int r.2.1:=e1;obtain rfl:v2=.int r.2.2:=e2;exact⟨a,rfl,ha⟩
theorem kH{α:Type}{H:Hp}{m:Addr->Prop}{f:α->D}{it:α->V->Prop}(a:∀x v,Is H m (f x) v->it x v):∀{xs:List α}{vs:List V},IsAll H m (xs.map f) vs->aV it xs vs
 |[],vs,h=>by cases(show vs=[]from h);exact .nil
 |x::xs,vs,h=>by obtain⟨v,r,rfl,h1,h2⟩:=h;exact .cons (a x v h1) (kH a h2)
def pH(h:Is H m (.lst ds) v):∃a vs,v=.ref a/\Rd H a (.lst vs)/\IsAll H m ds vs:=by obtain⟨a,vs,rfl,h1,h2⟩:=h;exact⟨a,vs,rfl,h1.imp And.left λ⟨o,e,_⟩=>⟨o,e⟩,h2⟩
def QU(RL:List Pz.Rule):tM (Pz.bM RL):=λk x a=>by
 rcases(Pz.tD _ _ _ _).mp a with h|⟨_,y,l,e,_⟩
 .exact(TR h).elim
 .rw[e];simp
section
variable{K:Xp}{CP CQ:Addr}{H:Hp}
def NL(K:Xp)(CP CQ:Addr):TS:=bm (cO (eS CP "settle_all" (wc CP CQ) [] E0 (am 2) aG)) (jc (eR K (am 2) "told"))
def NM(K:Xp)(CP CQ:Addr):TS:=gh (cS (cY zL (jZ (gA K) (ai (tI K 5 3) aG)) (tC (.int 0))))
 (cO (eS CP "offer" (eL CP CQ) [] E0 (am 2) (ai (eY (ai (tI K 5 0) (ai (tI K 5 1) (ai (tI K 5 2) aG)))) (ai (tC (.int 1)) (ai (am 4) (ai (tC .bp) aG)))))) cW
def NN(K:Xp)(CP CQ:Addr):TS:=bm (jd (za K (ai (tI K 0 2) aG)) (dU K 2 (aQ (ay 4) (aQ (ay 5) dS))) (NM K CP CQ)) (NL K CP CQ)
def NO(CP CQ:Addr):TS:=cO (eS CP "offer" (eL CP CQ) [] E0 (am 2) (ai (am 3) (ai (tC (.int 0)) (ai (tC .bp) (ai (tC .bp) aG)))))
def NP(K:Xp)(CP CQ:Addr):TS:=bm (jd (dk K (tI K 1 1)) (ay 3) (NO CP CQ)) (NN K CP CQ)
def GF(K:Xp)(mg:Str->Option Xr)(Fr:List D->Res R)(CP CQ:Addr)(E:XK):TS:=bm (cO (ck (jC mg 2 Fr) [] E (ai (am 0) (ai (am 1) aG)))) (bm (dg (yA CP (ma CP CQ) [] E0 (ai (am 0) aG)) (ay 2)) (NP K CP CQ))
def Kn(A:PA):(pf A).lookup ("settle_all" : Str)=none:=rfl
def Ko(h:RepT H t kt):(t.map λx=>(Sum.inr (ak x.1):DK))=kt.map (λp=>.inr p.1)/\IsAll H m (t.map λx=>tP x.2) (kt.map Prod.snd):=by
 have a:∀o:Option Int,Is H m (oD o) (vO o):=λo=>by cases o<;>rfl
 induction h with
 |nil=>exact⟨rfl,rfl⟩
 |@cons x y _ _ q _ b=>obtain⟨e,p,c,d⟩:=q;exact⟨by rw[TJ,TJ,e,b.1],y.2,_,rfl,⟨p,_,c,d,_,_,rfl,rfl,_,_,rfl,a _,_,_,rfl,a _,rfl⟩,b.2⟩
section
variable{D:Ends}{σ:L2.St}{B:Hp}{A:PA}{rs:Pz.RS}{S T:Pz.PS}{xs xl xr:DX (List bv)}{p0 p1 l lm:Addr}{RL:List Pz.Rule}{M:List Pz.Arr}{ws wm:List V}{n:Nat}
def GG(p0 p1:Addr)(A:PA)(σ:L2.St):Prop:=∃u v w,σ=[some (.ref p0),some (.ref p1),some (.ref A.o),u,v,w]
theorem pr2(P:PAt CP CQ B H A rs S xs xl xr)(h:IsArr H a v)(e:GG p0 p1 A σ)(f:Pz.kK (Pz.ja au S a))(k:∀σ' H',GG p0 p1 A σ'->PAt CP CQ B H' A rs (Pz.ja au S a) xs xl xr->D.nx σ' H'):ay 3 v σ H λd g=>NO CP CQ D d g:=by obtain⟨b,rfl,hb⟩:=h;obtain⟨u,w,z,rfl⟩:=e;have i:=P;obtain⟨_,_,_,Q⟩:=i;exact vD (.va rfl) Q.po.ins (C5 A) (.c (.va rfl) (.c .k (.c .k (.c .k .ni)))) (.mk (n:=none) (m:=none) P hb f λH'=>k _ H' ⟨_,_,_,rfl⟩)
def SS(P:PAt CP CQ B H A rs S xs xl xr)(b:H pp=some (.tup [.int i,.ref c]))(hc:H c=some (.tup [.int r.1,.int r.2.1,.int r.2.2.1,.ref q]))(d:H q=some (.tup (r.2.2.2.map .int)))(e:GG p0 p1 A σ)(f:Pz.kK (Pz.eV au S (i,r)))
 (k:∀σ' H',GG p0 p1 A σ'->PAt CP CQ B H' A rs (Pz.eV au S (i,r)) xs xl xr->D.nx σ' H'):dU K 2 (aQ (ay 4) (aQ (ay 5) dS)) (.ref pp) σ H λa g=>NM K CP CQ D a g:=by
 obtain⟨u,w,z,rfl⟩:=e;have e2:(((r.2.2.2.map V.int).length:Nat):Int)=0↔r.2.2.2.length=0:=by rw[Tp];lia
 unfold Pz.eV at f k;refine EX b (jN (.HQ (.len (.ix (.va rfl) hc rfl) d) .k) (λh=>?_) λh=>?_)
 .rw[Tt (e2.mp (T_ h))]at f k;exact tH P f (.va rfl) (.t (.c (.ix (.va rfl) hc rfl) (.c (.ix (.va rfl) hc rfl) (.c (.ix (.va rfl) hc rfl) .ni))) rfl) (λ_ _=>.c .k (.c (.va rfl) (.c .k .ni))) λH'=>k _ H' ⟨_,_,_,rfl⟩
 .rw[TC λz=>h (TZ (e2.mpr z))]at k;exact k _ H ⟨_,_,_,rfl⟩ P
def SU(TP:kq K CP)(P:PAt CP CQ B H A rs S xs xl xr)(d:tM rs)(fit:Pz.kK S)(lp:Pz.Loop au rs n S T)(e:GG p0 p1 A σ)(k:∀H' a b,PAt CP CQ B H' A rs T a b xr->D.rt (.ref A.ta) H'):NL K CP CQ D σ H:=by obtain⟨u,w,z,rfl⟩:=e;have c:=P;obtain⟨_,_,_,Q⟩:=c;exact vD (.va rfl) Q.po.ins (Kn A) .ni (.mk P d fit lp λH' a b c=>by have f:=c;obtain⟨_,_,_,Q⟩:=f;exact Q.fld TP.cl TP.nt (GA A) rfl _ (k H' a b c))
def SV(TP:kq K CP)(G:dR B RL p0 l ws)(P:PAt CP CQ B H A (Pz.bM RL) (M.foldl (Pz.ja au) Pz.S0) xs xl xr)(fit:Pz.kK (Pz.jM au RL M))(e:tM (Pz.bM RL))(lp:Pz.Loop au (Pz.bM RL) n (Pz.jM au RL M) T)(a:GG p0 p1 A σ)
 (k:∀H' f g,PAt CP CQ B H' A (Pz.bM RL) T f g xr->D.rt (.ref A.ta) H'):NN K CP CQ D σ H:=by
 obtain⟨u,w,h⟩:=(G.same P.same).tup;have h0:σ[0]?=some (some (.ref p0)):=by obtain⟨_,_,_,rfl⟩:=a;rfl
 refine rP (ReadsA.c (.ix (.va h0) h (v:=.ref l) rfl) .ni _ ⟨l,ws,rfl,.inl (bh P.same G.lst),?_⟩);refine zj (GG p0 p1 A) (λi d=>PAt CP CQ B d A (Pz.bM RL) (((Pz.en RL 0).take i).foldl (Pz.eV au) (M.foldl (Pz.ja au) Pz.S0)) xs xl xr) a P (λi d b=>.inl (bh b.same G.lst)) (λi v y σ d z s j a b k=>?_) λσ d a b=>?_
 .obtain⟨r,p,c,q,rfl,hc,t⟩:=G.its.get s;have m:=b.more (ao (o:=.tup [.int (i:Nat),.ref c]) j);rw[zk (Pz.eV au) (M.foldl (Pz.ja au) Pz.S0) p]at k;exact SS m af (m.same _ _ hc) (m.same _ _ t) a (ie (step:=Pz.eV au) (λS x=>by unfold Pz.eV;split;exact Pz.bY _ _ _ _ _;exact .refl _) (its:=Pz.en RL 0) fit (by rw[xL,p];simp)) k
 .rw[UT (by rw[Pz.pB,G.its.len];exact To _)]at b;exact SU TP b e fit lp a k
theorem SW(TP:kq K CP)(G:dR B RL p0 l ws)(f:B p1=some (.tup [y0,.ref lm,y2]))(d:Rd B lm (.lst wm))(m:aV (IsArr B) M wm)(P:PAt CP CQ B H A (Pz.bM RL) Pz.S0 xs xl xr)(fit:Pz.kK (Pz.jM au RL M))(g:tM (Pz.bM RL))(lp:Pz.Loop au (Pz.bM RL) n (Pz.jM au RL M) T)(b:GG p0 p1 A σ)
 (k:∀H' h j,PAt CP CQ B H' A (Pz.bM RL) T h j xr->D.rt (.ref A.ta) H'):NP K CP CQ D σ H:=by
 have g2:Pz.fH (M.foldl (Pz.ja au) Pz.S0) (Pz.jM au RL M):=Pz.cg _ (λS x=>by unfold Pz.eV;split;exact Pz.bY _ _ _ _ _;exact .refl _) _ _;have h1:σ[1]?=some (some (.ref p1)):=by obtain⟨_,_,_,rfl⟩:=b;rfl
 exact j9 (Reads.ix (.va h1) (P.same _ _ f) (v:=.ref lm) rfl _ ⟨lm,rfl,⟨wm,.inl (bh P.same d)⟩,tJ (it:=IsArr) (GG p0 p1 A) (Pz.ja au) Pz.S0 (λT e=>PAt CP CQ B e A (Pz.bM RL) T xs xl xr) b P (λq e c=>⟨bh c.same d,m.mono (IsArr.keep (tG c.same))⟩)
  (λi a v σ e r o p b c k=>pr2 c p b (ie (step:=Pz.ja au) (λS x=>Pz.bY S _ _ _ _) (g2.fit fit) o) k) λσ e b c=>SV TP G c fit g lp b k⟩)
end
def vM{mg:Str->Option Xr}{Fr:List D->Res R}(TP:kq K CP)(h:jC mg 2 (NJ Fr) vs H Q E):GF K mg Fr CP CQ E {nx:=λ_ H'=>Q .bp H',rt:=Q} (bO ["house","machine","pricing","arrow","number","rule"] vs) H:=by
 obtain⟨i,ds,Ma,is,a⟩:=h;obtain⟨v0,j,rfl⟩ : ∃v0 j,vs=[v0,j]:=by rcases vs with _|⟨v0,_|⟨j,_|⟨_,_⟩⟩⟩<;>first|(cases i;done)|exact⟨_,_,rfl⟩
 refine⟨_,rfl,_,rfl,rfl,ds,Ma,is,?_⟩;unfold NJ at a;cases k:Fr ds with
 |stuck=>rw[k]at a;exact a
 |exc c=>rw[k]at a;exact a
 |ok r=>
  rw[k]at a;dsimp only at a;by_cases hex:∃t,pG ds t
  case neg=>rw[dif_neg hex]at a;exact a.elim
  case pos=>
  rw[dif_pos hex]at a;have d:=Classical.choose_spec hex;generalize Classical.choose hex=t at a d;obtain⟨RL,M,d0,d1,m0,m2,n,T,rfl,I,fit,lp,rfl⟩:=d;intro v J s1 _;obtain⟨_,_,L,⟨N,_,rfl,p,w0,_,rfl,_,w1,_,rfl,_,w2,_,rfl,q,rfl⟩,_,_,s,⟨p1,_,rfl,w,y0,_,rfl,_,y1,_,rfl,y,y2,_,rfl,_,rfl⟩,rfl⟩:=is;cases L;cases s;obtain⟨l,ws,rfl,i,O⟩:=pH q;obtain⟨lm,wm,rfl,z,S⟩:=pH y;have G:dR H RL N l ws:=⟨⟨_,_,p⟩,i,kH (λx v=>jO) O⟩;refine⟨_,rfl,λo dx C B U=>?_⟩;have s2:Same H (upd (upd J dx (.own o)) o (.ins CP dx [])):=s1.trans λb u e=>by rw[ag (aj e C),ag (aj e B)];exact e
  refine .mk af s2 (s1.free C) (G.same s2) I λA xr H3 V P=>⟨rfl,?_⟩;subst V;refine SW TP G w z (kH (λx v=>NK) S) P fit (QU RL) lp ⟨none,none,none,rfl⟩ λF W X ⟨_,f,_,g⟩=>?_;obtain⟨Y,Z⟩:=Ko (m:=nl H F) g.po.tr;exact a _ F g.same ⟨A.ta,f.map Prod.snd,rfl,⟨.inr ⟨f,.inl g.po.td,Y,rfl⟩,g.po.c5.2,⟨_,g.po.td,True.intro⟩⟩,Z⟩
end
def C9:∀{n:Nat}{S T:Pz.PS},Pz.Loop pile rs n S T->∀{m:Nat}{b:Pz.PS},Pz.Loop pile rs m S b->T=b:=by
 intro n S T h;induction h with
 |done e=>
  intro m b h';cases h' with
  |done _=>rfl
  |step a=>exact(a e).elim
 |step a _ _ _ _ _ c=>
  intro m b h';cases h' with
  |done e=>exact(a e).elim
  |step _ _ _ _ _ h'=>exact c h'
def AK(h:aI r=aI s):r=s:=by
 have a:∀{l m:List Int},l.map D.int=m.map D.int->l=m:=λ{l m} e=>by
  induction l generalizing m with
  |nil=>cases m with
   |nil=>rfl
   |cons _ _=>cases e
  |cons x l b=>cases m with
   |nil=>cases e
   |cons y m=>rw[TJ,TJ]at e;injection e with e1 e2;injection e1 with e1;rw[e1,b e2]
 unfold aI at h;injection h with h;injection h with h0 h;injection h with h1 h;injection h with h2 h;injection h with h3 h;injection h0 with h0;injection h1 with h1;injection h2 with h2;injection h3 with h3;exact Xg h0 (Xg h1 (Xg h2 (a h3)))
def C_(h:jg r=jg s):r=s:=by unfold jg at h;injection h with h;injection h with h0 h;injection h with h1 h;injection h with h2 h;injection h0 with h0;injection h1 with h1;injection h2 with h2;exact Xg h0 (Xg h1 h2)
theorem tQ{α:Type}{f:α->D}(a:∀{x y},f x=f y->x=y):∀{l m:List α},l.map f=m.map f->l=m
 |[],[],_=>rfl
 |[],_::_,e=>nomatch e
 |_::_,[],e=>nomatch e
 |x::l,y::m,e=>by rw[TJ,TJ]at e;injection e with e1 e2;rw[a e1,tQ a e2]
structure Mt(K:Xp) (C:Addr) (x q:Str) (st:Stmt) (ps:List Str) (f:Addr) (fd:FuncData):Prop where
 fu:E8 K x q st f fd
 bi:Binds K fd ps []
 me:Meth K C x f
def NQ{K:Xp}{C:Addr}{x q:Str}{st:Stmt}{ps:List Str}{f:Addr}{oc:Xr}{od an:Option Addr}{osl:Array (Option Xr)}{kV doc pm cdv ct:Xr}
 (l:K.lookup f=some ⟨oc,od,.func (fnOf x q (dC st) (cM st) (aw st) .none kV doc pm an cdv ct),osl⟩) (c:codeIn K cdv q=true) (k:keepIn K (.ref f)=true) (a:findIn K (.ref C) x=some (some (.ref f))) (i:isFn K (.ref f)=true)
 (h:∀(kV doc pm:Xr)(an:Option Addr)(cdv ct:Xr)(us:List Xr),us.length=ps.length->bindArgs (fnOf x q (dC st) (cM st) (aw st) .none kV doc pm an cdv ct) ⟨us,[]⟩=pure (ps.zip us)) :
 Mt K C x q st ps f (fnOf x q (dC st) (cM st) (aw st) .none kV doc pm an cdv ct):=
 have F:E8 K x q st f _:=BO l c k
 ⟨F,F.binds h,a,i,k⟩
def SX{α:Type}{l:List α}(h:l.length=2):∃a b,l=[a,b]:=by rcases l with _|⟨a,_|⟨b,_|_⟩⟩<;>first|(cases h;done)|exact⟨_,_,rfl⟩
def fZ(hc:X.calm=true)(S:b5 X scope tN capN caps)(a:PI X tg iter wi)(b:autoParam (∀x,foldedSetIterable iter X.env x=pure x) az) :
 PE X (.ListComp elt [⟨tg,iter,ifs,0⟩] scope pos) (gw X scope tg tN capN caps elt ifs wi):=λac s σ H Q I h=>o8 hc S I a h b
def IB(K:Xp):List V->Hp->VK->Prop:=λxs H Q=>∃p ns,xs=[.ref p]/\SqL K H p (ns.map V.int)/\ns≠[]/\Q (.int (sQ ns)) H
def AL(hc:X.calm=true):CallR X (.builtin "min") (IB X.K):=z9 hc
def AM(h2:tN.length=2)(B:∀cl C g h fp,PG (aS X scope (tN++[]) cl C g h fp) tg (dU X.K 2 (aQ (ay 0) (aQ (ay 1) dS))))(D:∀cl C g h fp,PE (aS X scope (tN++[]) cl C g h fp) elt (am 0)) :
 Kc (jZ (IB X.K) (ai (gw X scope tg tN [] [] elt [] (dk X.K (am 1))) aG)):=by
 intro σ H a vs its Q h1 l v n M k;refine⟨_,h1,a,rfl,⟨_,SqL.of l⟩,?_⟩;intro q hD cl C g fp;have E:a≠q:=aj l hD;have F:=v.len;refine⟨_,_,_,λi m d H'=>m=its.length-i/\i<=its.length/\d=((its.take i).map λx=>V.int x.1)/\Same H H'/\H' q=some (.lst d),B cl C g _ fp,iz,D cl C g _ fp,⟨its.length,by simp,T2 _,by simp,ao hD,af⟩,?_⟩;rintro i m d H' ⟨rfl,N,rfl,s,b⟩;have f:=s _ _ l;refine⟨b,?_⟩;by_cases r:i<its.length
 .right;have t:i<vs.length:=by lia
  refine⟨⟨vs,vs[i],SqL.of f,by simp[t]⟩,λO G o y z=>?_⟩;obtain⟨rfl,y⟩:=y;have I:=y vs (SqL.of f);obtain⟨x,ex,p,w,rfl,J,_⟩:=v.get I;rw[h2]at z;obtain⟨P,u1,rfl⟩:=SX z;refine EX (s _ _ J) ⟨λj A=>?_,?_⟩
  .rw[h2]at A;obtain⟨j,rfl⟩:=UV A;rfl
  .refine mB ?_;refine⟨_,rfl,b,?_,its.length-(i+1),by lia,rfl,r,?_,λc u e=>?_,af⟩
   .rw[Tp,Ud];have:=VJ i its;lia
   .rw[Ui,ex,Ua];rfl
   .rw[ag (aj e hD)];exact s _ _ e
 .left;have L:i=its.length:=by lia
  subst L;refine⟨⟨vs,SqL.of f,by lia⟩,q,its.map (·.1),rfl,?_,by simpa using n,?_⟩
  .rw[U4]at b;rw[T7];exact SqL.of b
  .rw[zg];exact k H' s
section
open Classical in
end
def bK{N P:List Str}{h:Scope}(a:autoParam (h.kind=.function) aM)(b:autoParam (h.isCoroutine=false) aM)(c:autoParam (h.isGenerator=false) aM)(d:N.Nodup:=by decide +kernel)(e:autoParam (N.take P.length=P) aM)
 (f:∀x∈P,h.names.lookup x=some .local\/h.names.lookup x=some .cell:=by decide +kernel) (g:∀y∈h.names,y.2≠.free:=by decide +kernel):aR N P h:=⟨a,b,c,d,e,f,g⟩
abbrev MB(x q:Str)(st:Stmt)(kV doc pm:Xr)(an:Option Addr)(cdv ct:Xr):FuncData:=fnOf x q (dC st) (cM st) (aw st) .none kV doc pm an cdv ct
structure Df(K:Xp) (mg:Str->Option Xr) (x:Str) (st:Stmt) (ps:List Str) where
 f:Addr
 fd:FuncData
 h:Fn K mg x st ps f fd
structure Mf(K:Xp) (C:Addr) (x q:Str) (st:Stmt) (ps:List Str) where
 f:Addr
 fd:FuncData
 h:Mt K C x q st ps f fd
section
variable{K KK:Xp}{x q:Str}{st:Stmt}{f C:Addr}{oc:Xr}{od an:Option Addr}{osl:Array (Option Xr)}{kV doc pm cdv ct:Xr}
def Lk(K:Xp)(x q:Str)(st:Stmt)(f:Addr):Prop:=∃oc od an osl kV doc pm cdv ct,K.lookup f=some ⟨oc,od,.func (MB x q st kV doc pm an cdv ct),osl⟩/\codeIn K cdv q=true
def lk(l:K.lookup f=some ⟨oc,od,.func (MB x q st kV doc pm an cdv ct),osl⟩)(c:codeIn K cdv q=true):Lk K x q st f:=⟨_,_,_,_,_,_,_,_,_,l,c⟩
def FK(K:Xp)(x:Str)(st:Stmt):Prop:=∃f,nsIn K mainGlobals x=some (some (.ref f))/\Lk K x x st f
def fk(a:nsIn K mainGlobals x=some (some (.ref f)))(l:K.lookup f=some ⟨oc,od,.func (MB x x st kV doc pm an cdv ct),osl⟩)(c:codeIn K cdv x=true):FK K x st:=⟨_,a,lk l c⟩
structure MK(K:Xp) (C:Addr) (x q:Str) (st:Stmt) (f:Addr):Prop where
 a:findIn K (.ref C) x=some (some (.ref f))
 i:isFn K (.ref f)=true
 l:Lk K x q st f
 k:keepIn K (.ref f)=true
def mk(a:findIn K (.ref C) x=some (some (.ref f)))(i:isFn K (.ref f)=true)(l:K.lookup f=some ⟨oc,od,.func (MB x q st kV doc pm an cdv ct),osl⟩)(c:codeIn K cdv q=true)(k:keepIn K (.ref f)=true):MK K C x q st f:=⟨a,i,lk l c,k⟩
structure CK(K KK:Xp) (x:Str) (C:Addr):Prop where
 b:nsIn K mainGlobals x=some (some (.ref C))
 pg:plainGet KK C Str.empty=true
 hd:hasDictIn KK C=true
 po:PySem.W.plainOver KK C=true
 sa:findIn KK (.ref C) "__setattr__"=some (some (.builtin "object.__setattr__"))
 m:PySem.W.makesIn KK C=true
 k:keepIn KK (.ref C)=true
def CK.cl(c:CK K KK x C):uu KK C:=⟨c.pg,c.hd,c.po,c.sa⟩
variable{mg:Str->Option Xr}{ps:List Str}{h:Heap}
theorem df(X:K.In h)(G:h.Ns mainGlobals mg)(U:v8 K KK)(k:FK K x st)
 (hb:∀(kV doc pm:Xr)(an:Option Addr)(cdv ct:Xr)(us:List Xr),us.length=ps.length->bindArgs (MB x x st kV doc pm an cdv ct) ⟨us,[]⟩=pure (ps.zip us):=by intro _ _ _ _ _ _ us b;rcases us with _|⟨_,_|⟨_,_|⟨_,_|⟨_,_|⟨_,_|⟨_,us⟩⟩⟩⟩⟩⟩<;>first|(cases b;done)|rfl):Nonempty (Df KK mg x st ps):=by
 obtain⟨f,a,oc,od,an,osl,kV,doc,pm,cdv,ct,l,c⟩:=k;exact⟨f,_,J5 U l c (PySem.W.mg_of X G a) hb⟩
theorem mf(k:MK K C x q st f)
 (hb:∀(kV doc pm:Xr)(an:Option Addr)(cdv ct:Xr)(us:List Xr),us.length=ps.length->bindArgs (MB x q st kV doc pm an cdv ct) ⟨us,[]⟩=pure (ps.zip us):=by intro _ _ _ _ _ _ us b;rcases us with _|⟨_,_|⟨_,_|⟨_,_|⟨_,_|⟨_,_|⟨_,us⟩⟩⟩⟩⟩⟩<;>first|(cases b;done)|rfl):∃m:Mf K C x q st ps,m.f=f:=by
 obtain⟨a,i,⟨oc,od,an,osl,kV,doc,pm,cdv,ct,l,c⟩,kp⟩:=k;exact⟨⟨f,_,NQ l c kp a i hb⟩,rfl⟩
def NR(c:CK K KK x C)(k:MK KK C "__init__" q st f):Mk KK C f:=⟨c.m,k.a,k.i,c.k⟩
end
end L4
namespace L3
open PySem PySem.Spec PyProof.Rows L2
def pI(n:Nat)(caps:List Nat)(asg:D->Bool->En->Option En)(ft:En->Res Bool)(b:En->Res R)(env:En)(r:R):Res R:=match r.d with
 |.i9 ks ds=>match nK ks ds with
  |some xs=>if xs.length<=lim/\r.al=[]/\D.bP ds=true then(match dY (λd=>asg d true (jf env n caps)) ft b xs with
   |.ok a=>if D.bP (a.map R.d)then .ok (.new (a.map R.d) true)else .stuck
   |_=>.stuck)else .stuck
  |none=>.stuck
 |_=>.stuck
def pJ(n:Nat)(caps:List Nat)(f:En->Res R)(asg:D->Bool->En->Option En)(ft:En->Res Bool)(a:En->Res R):En->Res R:=λenv=>(f env).bind (pI n caps asg ft a env)
section
variable{X:Cx}{E:XK}{scope:Scope}{es:List Expr}{k0:Nat}{uc apos cpos:Pos}{tN:List Str}{capN:List Str}{caps:List Nat}{ix:List Nat}{asg:D->Bool->En->Option En}{elt l:Expr}{pos:Pos}{ifs:List Expr}{f:En->Res R}{ft:En->Res Bool}{fe:En->Res R}
def AN{Z:TE}(s1:Snd X.mg E Z f)(G:∀j∈ix,j<tN.length)(hg:∀cl C I J fp,EW (aS X scope (tN++capN) cl C I J fp) ix (.Tuple es k0 uc) asg)(ht:∀cl C I J fp,vc (aS X scope (tN++capN) cl C I J fp) E0 ifs ft)(he:∀cl C I J fp,PD (aS X scope (tN++capN) cl C I J fp) E0 elt fe) :
 Snd X.mg E (λσ H Q=>gw X scope (.Tuple es k0 uc) tN capN caps elt ifs (FW X Z) σ H (Sg X Q)) (pJ tN.length caps f asg ft fe):=by
 intro g M ρ env σ H Q V p;refine s1.ml V p λr v M1 H1 e1 k is q=>?_;unfold pI at q;cases qd:r.d with
 |i9 ks ds=>
  rw[qd]at q is;dsimp only at q;cases K:nK ks ds with
  |none=>rw[K]at q;exact q.elim
  |some xs=>
   rw[K]at q;dsimp only at q;by_cases t:xs.length<=lim/\r.al=[]/\D.bP ds=true
   .rw[Tt t]at q;obtain⟨F,W,L⟩:=t;cases N:dY (λd=>asg d true (jf env tN.length caps)) ft fe xs with
    |stuck=>rw[N]at q;exact q.elim
    |exc c=>rw[N]at q;exact q.elim
    |ok i=>
     rw[N]at q;dsimp only at q;by_cases A:D.bP (i.map R.d)=true
     .rw[Tt A]at q;obtain⟨d,kvs,u,rfl,O,hu,b,rfl,dQ⟩:=xw is (vq K);have O:M1 d:=by rw[W]at O;exact O.nil.1
      have S:h8 u:=by rcases hu with rfl|⟨rfl,_⟩<;>exact True.intro
      have mk:mG (i.map R.d) (bS i) ([]++caps.filter (fU env))=.new (i.map R.d) true:=by unfold mG;rw[Tt A]
      refine⟨d,kvs,u,rfl,hu,?_⟩;rcases b with b|⟨o,b⟩
      .right;refine⟨b,λo Y=>mJ (g:=gK g d o u) (E:=E) (s:=⟨xs,true,[]⟩) G hg ht he (k.v_ b S O) (nc af (IsAll.flat (m:=λ_=>True) L (IsAll.ur (P:=λ_ _=>True) (λx w=>Is.v_ (m':=λ_=>True) b S λ_ _=>True.intro) dQ)) K) F N ?_⟩;rw[mk];intro v U H' e y ro;have B:H' d=some (.bj o u):=e.h _ _ af;have T:=y.HN B S (e.m d O) (CO k b);refine .inr ⟨d,o,u,B,S,Y,q v U _ ⟨e.m,Ap e.h b,λa z=>?_⟩ T ?_⟩
       .refine(e.n a z).imp id λw=>?_;by_cases ha:a=d
        .subst ha;rw[af]at w;cases w
        .rw[ag ha]at w;exact w
       .obtain⟨a,vs,rfl,h1,h2,h3,h4,h5⟩:=ro;have na:a≠d:=λz=>by subst z;rw[B]at h1;cases h1
        refine⟨a,vs,rfl,by rw[ag na];exact h1,h2,by rw[ag na]at h3;exact h3,h4,?_⟩;exact IsAll.ur (P:=λ_ _=>True) (λx w=>Is.RT B S λ_ z=>z) (IsAll.flat (m':=fj g U true) A h5)
      .left;refine⟨o,b,mJ (g:=g) (E:=E) (s:=⟨xs,true,[]⟩) G hg ht he k (nc b (IsAll.flat L dQ) K) F N ?_⟩;rw[mk];exact λv U H' e y ro=>.inl (q v U H' e y ro)
     .rw[TC A]at q;exact q.elim
   .rw[TC t]at q;exact q.elim
 |_=>rw[qd]at q;exact q.elim
def Da(hc:X.calm=true)(S:b5 X scope tN capN caps)(g:PD X E l f)(e:∀j∈ix,j<tN.length)(i:∀cl C c d fp,EW (aS X scope (tN++capN) cl C c d fp) ix (.Tuple es k0 uc) asg)(k:∀cl C c d fp,vc (aS X scope (tN++capN) cl C c d fp) E0 ifs ft)(m:∀cl C c d fp,PD (aS X scope (tN++capN) cl C c d fp) E0 elt fe)
 (a:autoParam (attributeBase l "items" X.env (eval l X.env)=eval l X.env) aM) (b:autoParam ((apos.endLine==cpos.line)=true) aM) (n:autoParam (∀x,foldedSetIterable (.Call (.Attribute l "items" apos) [] [] cpos) X.env x=pure x) az) :
 PD X E (.ListComp elt [⟨.Tuple es k0 uc,.Call (.Attribute l "items" apos) [] [] cpos,ifs,0⟩] scope pos) (pJ tN.length caps f asg ft fe):=by
 obtain⟨o,p1,s1⟩:=g;exact⟨_,J4 (t:=gw X scope (.Tuple es k0 uc) tN capN caps elt ifs (FW X o)) λac s σ H Q I h=>o8 hc S I (ri p1 a b) h n,AN s1 e i k m⟩
end
end L3
namespace L2
open PySem PySem.Spec PySem.Calls PyProof.Rows
def xO(prog:Xq)(w:World)(d:Addr)(hd:(d==sysModules)=false):MeetsIn prog w (Builtin.«dict.__len__» ⟨[.ref d],[]⟩) (λ_ R s=>∃(o:Obj)(es:Array DictEntry)(ep n:Nat),s.heap.get? d=some o/\o.data=.dict es ep/\es.size=n/\R (.ok (.ret (.int n s.toks))) {s with toks:=s.toks+1}):=by
 apply MeetsIn.of_wp;rintro A R s ⟨o,es,ep,n,h1,h2,rfl,h⟩;show wpAny _ _ (dictSize d >>= _) _ _ s
 delta dictSize
 apply KE;apply KE;apply Vi h1 h2;apply Tl;show wpAny _ _ (Builtin.Dict.pendingCount d >>= _) _ _ s;apply KE;apply wpAny_pendingCount_other hd;exact wpAny_ret_mkInt h
section
variable{X:Cx}
def AO:CallR X (.builtin "len") (λxs H Q=>∃(d:Addr)(kvs:List (List bv×V)),xs=[.ref d]/\(Rd H d (.dT kvs)\/(Rd H d (.dK [])/\kvs=[]))/\Q (.int kvs.length) H):=by
 intro ac s σ H xs us Q I r h;obtain⟨d,kvs,rfl,hd,q⟩:=h;obtain⟨w,rfl,i⟩:=fK r;cases i;have key:(d==sysModules)=false/\kvs.length<=sizeLine/\Shared.TypeIs s (.ref d) "dict"/\∃(o:Obj)(es:Array DictEntry)(ep:Nat),s.heap.get? d=some o/\o.data=.dict es ep/\es.size=kvs.length:=by
  rcases hd with hd|⟨hd,rfl⟩
  .obtain⟨z,b,xs,a,o,es,ep,h1,h2,c,f,_⟩:=js I.aW hd;exact⟨b,z,⟨o,h1,h2.1⟩,o,es,ep,h1,c,by rw[Ww f];exact(U7 a).symm⟩
  .obtain⟨z,b,vs,a,dd⟩:=jr I.aW hd;have g:=dd.typeIs;obtain⟨o,es,ep,h1,h2,c,f,j,_⟩:=dd;exact⟨b,T2 _,g,o,es,ep,h1,c,by
    have e:es.size=vs.length:=by rw[<- j.length];simp
    rw[e,<- a.length];rfl⟩
 obtain⟨b,z,g,o,es,ep,h1,c,f⟩:=key;rw[Ud]at z;refine Wh PySem.kind_len PySem.plain_len PySem.entry_len (PySem.args_len1 _) ?_
 delta Builtin.«len»
 apply KE (m:=oneArg "len" _);apply Tl;apply KE (m:=callSpecial? (.ref d) (Str.ofString "__len__"));apply UN (name:=Str.ofString "__len__") g PySem.F.slot_dict_len;apply VP PySem.F.slot_dict_len g PySem.F.entry_dict_len (PySem.F.args_dict_len_1 _) (xO X.prog X.w d b);refine⟨o,es,ep,kvs.length,h1,c,f,?_⟩;show wpAny _ _ _ _ _ {s with toks:=s.toks+1};apply KE;apply UC;apply Tl;apply KE;apply wpAny_letGo;show wpAny _ _ (if((kvs.length:Nat):Int)<0 then _ else _) _ _ _;rw[TC (by lia)];show wpAny _ _ (if((kvs.length:Nat):Int)>=2^63 then _ else _) _ _ _;rw[TC (by lia)];apply KE;apply wpAny_mkInt;exact Tl ⟨_,rfl,.int kvs.length,H,I.tok _,⟨_,rfl⟩,q⟩
end
end L2
namespace L4
open PySem PySem.Spec PyProof.Rows L2 L3
def Dc:List V->Hp->VK->Prop:=λxs H Q=>∃(d:Addr)(kvs:List (List bv×V)),xs=[.ref d]/\(Rd H d (.dT kvs)\/(Rd H d (.dK [])/\kvs=[]))/\Q (.int kvs.length) H
def pK{X:Cx}:CallR X (.builtin "len") Dc:=AO
end L4
namespace Sp
abbrev Arr:=Int×Int×Int
abbrev Rule:=Int×Int×Int×List Int
section
variable{κ β:Type}[DecidableEq κ]
def get(d:List (κ×β))(k:κ):Option β:=(d.find? λx=>decide (x.1=k)).map (·.2)
def put(d:List (κ×β))(k:κ)(v:β):List (κ×β):=if(get d k).isSome then d.map (λx=>if x.1=k then(x.1,v)else x)else d++[(k,v)]
end
structure St where
 tb:List (Int×List (Int×List Int))
 en:List Int
 fo:List (Int×List Int)
 mi:List ((Int×Int)×Int)
 du:List Arr
def row(tb:List (Int×List (Int×List Int)))(s:Int):List (Int×List Int):=(get tb s).getD []
def NS(tb:List (Int×List (Int×List Int)))(s g:Int):List Int:=(get (row tb s) g).getD []
def Qb(S:St)(s:Int):List Int:=(get S.fo s).getD []
def gL(S:St)(a:Arr):Prop:=a.2.2∈NS S.tb a.1 a.2.1
abbrev RS:=List ((Int×Int)×List Rule)
end Sp
namespace Sp
def SY(ro:Int)(S:St)(r:Rule)(t:Int):Prop:=match r.2.2.2 with
 |[]=>r.2.2.1∈Qb S t
 |[x]=>gL S (r.2.2.1,x,t)
 |x::y::_=>∃m,ro<=m/\gL S (r.2.2.1,x,m)/\gL S (m,y,t)
def GH(rs:RS)(s g:Int):List Rule:=(get rs (s,g)).getD []
def QV(ro:Int)(rs:RS)(S:St)(a:Arr):Prop:=∀r∈GH rs a.1 a.2.1,SY ro S r a.2.2
structure J(ro:Int) (rs:RS) (S:St) (pf:Int->Arr->Prop) (pr:Arr->Prop):Prop where
 to:∀a,gL S a->ro<=a.2.2
 mi:∀x∈S.mi,ro<=x.2
 fo:∀s r,r∈Qb S s->r<ro/\ro<=s/\(s∈S.en->r∈S.en)/\∀g t,gL S (s,g,t)->gL S (r,g,t)\/(s,g,t)∈S.du\/pf r (s,g,t)
 dn:∀a,gL S a->QV ro rs S a\/a∈S.du\/pr a
end Sp
namespace Sp
section
def QW{κ a:Type}(d:List (κ×a)):Prop:=(d.map (·.1)).Nodup
end
end Sp
namespace Sp
def Bx(sg m:Int)(a:Arr):Prop:=(0<=a.1/\a.1<m)/\(0<=a.2.1/\a.2.1<sg)/\0<=a.2.2/\a.2.2<m
structure B(ro n sg:Int) (ks:List (Int×Int)) (t0 pp:List Arr) (S:St):Prop where
 old:∀a,gL S a->ro<=a.1->a.1<n->a∈t0
 bx:∀a,gL S a->Bx sg (n+ks.length) a
 ne1:∀x∈S.tb,x.2≠[]
 ne2:∀s,∀x∈row S.tb s,x.2≠[]
 lf:∀s g,(NS S.tb s g).Nodup
 nd:(pp++S.du).Nodup
 sub:∀a∈pp++S.du,gL S a
 mc:(S.mi.map (·.1)).Nodup
 ms:∀x∈S.mi,x.1∈ks
 mv:∀x∈S.mi,n<=x.2/\x.2<n+S.mi.length
 en:S.en.Nodup
 er:∀e∈S.en,0<=e/\e<n
 fk:QW S.fo
 fl:∀s,(Qb S s).Nodup
 fr:∀s,∀r∈Qb S s,0<=r/\r<ro
 fs:∀x∈S.fo,0<=x.1/\x.1<n+ks.length
end Sp
namespace L2
open PySem PySem.Spec PySem.Calls PyProof.Rows
section
def pM(hd:(d==sysModules)=false)(m:RawD s.heap d es ep)
 (c:Q (.ref s.heap.objs.size) { s with heap:=s.heap.push { cls:=.type "dict_keyiterator",data:=.fields #[.ref d,.int 0 0,.int es.size 0,.int ep 0] } }):wpAny (model prog w) A (pyIter (.ref d)) Q E s:=by
 obtain⟨o,b,_,a⟩:=id m;refine V9 m.ty F.slot_dict_iter (Ur F.slot_dict_iter m.ty F.entry_dict_iter ?_ (F.args_dict_iter_1 _));unfold Builtin.«dict.__iter__» Builtin.Dict.dictSlotNone;refine KE (KE (Vm m.ty (show wpAny _ _ (pure (Value.ref d)) _ _ s from Tl ?_)));show wpAny _ _ (Builtin.Dict.showsAll d >>= _) _ _ s;unfold Builtin.Dict.showsAll;rw[TC (by grind)];refine KE (Tl (KE (Vi b a (KE (Wx b a (KE (Uo (Tl ⟨_,rfl,"dict_keyiterator",_,⟨_,Tv _ rfl,rfl⟩,F.slot_dict_keyiterator_next.lookup,?_⟩))))))));simpa[rawInt]using c
def iD(y:s.heap.IsKeyIter it d i es.size ep)(m:RawD s.heap d es ep)
 (h1:∀e,es[i]?=some e->∀h',h'.IsKeyIter it d (i+1) es.size ep->Heap.SameBut it s.heap h'->Q (some e.key) {s with heap:=h'})
 (h2:es[i]?=none->A.handled=none/\∀h',Heap.ExtBut it s.heap h'->Q none {s with heap:=h'}):wpAny (model prog w) A (pyNext (.ref it)) Q E s:=by
 obtain⟨o,h,hc,hd⟩:=id y;obtain⟨od,f,_,g⟩:=id m;unfold pyNext;refine KE (WX (UN (name:=Str.ofString "__next__") y.typeIs F.slot_dict_keyiterator_next (Ur F.slot_dict_keyiterator_next y.typeIs F.entry_dict_keyiterator_next ?_ (F.args_dict_keyiterator_next_1 _))));refine KE (Tl (KE (KE ?_)))
 first|refine KE (VU y.typeIs (Tl ?_))|refine KE (Wq y.typeIs (Tl ?_))
 refine KE (Xb h hd ?_);simp only[show Builtin.Dict_items.ownsTuple "dict_keyiterator"=false by decide,TY,UM];show wpAny _ _ (if(Value.ref d==Value.none)=true then _ else _) _ _ s;rw[TC (show ¬((Value.ref d==Value.none)=true)from T9)];refine KE (Tl (KE (Vi f g ?_)));rw[TC (by simp)];refine KE (Tl (KE (Wx f g ?_)));rw[TC (by simp)];refine Tl ?_;simp only[show ¬((i:Int)<0)from by lia,UM,V7];cases j:es[i]? with
 |some e=>
  refine KE ?_
  first|refine KE (VU y.typeIs (Tl ?_))|refine KE (Wq y.typeIs (Tl ?_))
  refine KE (wpAny_isOneOf_keyiter y.typeIs ?_);show wpAny _ _ (setField (.ref it) 1 (rawInt ((i:Int)+1)) >>= _) _ _ s;refine KE (Wg h hd (by simp) ?_);have c:(s.heap.update it (Obj.mapFields (·.setIfInBounds 1 (rawInt ((i:Int)+1))))).IsKeyIter it d (i+1) es.size ep:=⟨_,UK _ h (WK (Wv hd _)),(Obj.cls_mapFields ..).trans hc,by rw[Wv hd];simp[rawInt]⟩;refine KE (UC (KE (wpAny_isOneOf_keyiter (s:={s with heap:=s.heap.update it (Obj.mapFields (·.setIfInBounds 1 (rawInt ((i:Int)+1))))}) c.typeIs ?_)));show wpAny _ _ (pure e.key) _ _ _;exact Tl (Tl ⟨_,rfl,Tl (h1 e j _ c (Uk ..))⟩)
 |none=>
  obtain⟨k,l⟩:=h2 j;refine KE ?_
  first|refine KE (VU y.typeIs (Tl ?_))|refine KE (Wq y.typeIs (Tl ?_))
  show wpAny _ _ (setField (.ref it) 0 .none >>= _) _ _ s;refine KE (Wg h hd (by simp) ?_);show wpAny _ _ (newExc (.type "StopIteration") [] >>= _) _ _ _;refine KE ?_;simp only[newExc,newTuple];refine KE (Uo ?_ (by size_fits));refine KE (m:=firstArgMember _ _) (wpAny_of_eq (a:=Value.none) (by first|rfl|(simp only[firstArgMember];rfl)) ?_);refine Uo ?_ (by size_fits);simp only[raiseNew];refine KE (wpAny_handled ?_);rw[show A.in1.handled=none from k];refine KE (Tl (wpAny_throw ?_));refine KE (WP (T:="StopIteration") (b:=true) ⟨_,Tv _ rfl,rfl⟩ isSubtype_stop ?_);exact Tl (l _ (((Uk ..).extBut.push _).push _))
end
end L2
namespace L4
open PySem PySem.Spec PyProof.Rows L2 L3
def KT.trans(h:KT H H')(h':KT H' H''):KT H H'':=λa ws e=>h' a ws (h a ws e)
def KT.of(s:Same H H'):KT H H':=λa _ e=>s a _ e
theorem KT.upd(h:H a=some u)(n:∀ws,u≠.tup ws):KT H (upd H a v):=λc ws e=>by rw[ag (λz=>by subst z;rw[h]at e;cases e;exact n _ rfl)];exact e
section
variable{τ:Type}
structure Ln(τ:Type) where
 z:τ->Prop
 c:τ->Option (Addr×HO)
end
inductive Tag where
 |o|ta|en|fo|mi|du|ru
 |row (s:Int)
 |lf (s g:Int)
 |fl (s:Int)
 |rl (k:Int×Int)
structure SA where
 o:Addr
 ta:Addr
 en:Addr
 fo:Addr
 mi:Addr
 du:Addr
 ru:Addr
structure Fx where
 A:SA
 C:Addr
 dx:Addr
 n:Int
 rs:Sp.RS
 RA:Int×Int->Addr
 xs:Int×Int->NX
structure Vr where
 R:Int->Addr
 L:Int->Int->Addr
 F:Int->Addr
 dv:List V
 ue:HO
section
section
variable{β:Type}{d:List (Int×β)}{R:Int->Addr}{s:Int}
def sd{κ β:Type}[DecidableEq κ](d:List (κ×β))(k:κ)(x:β):List (κ×β):=if(Sp.get d k).isSome then d else d++[(k,x)]
def Sj(R:Int->Addr)(s:Int)(p:Addr):Int->Addr:=λu=>if u=s then p else R u
end
end
section
def qC(h:n<15000000):n<sizeLine:=by rw[Ud];lia
end
def xP{J:L2.It}{n:Nat}{g:TG}{tb:TS}{D:Ends}{σ:L2.St}{H:Hp}(P:Nat->L2.St->Hp->Prop)(j:P 0 σ H)(b:∀i σ H,P i σ H->i<n->J.go i H)(c:∀σ H,P n σ H->J.stop n H)
 (hb:∀i σ H x H' (f:Ends),i<n->P i σ H->J.A_ i H x H'->(∀σ' H',P (i+1) σ' H'->f.nx σ' H')->g x σ H' λa d=>tb f a d) (k:∀σ H,P n σ H->D.nx σ H):∃W:Nat->Nat->L2.St->Hp->Prop,(∃m,W 0 m σ H)/\∀i m σ H,W i m σ H->
 (J.stop i H/\D.nx σ H)\/(J.go i H/\∃N:L2.St->Hp->Prop,(∀σ' H',N σ' H'->∃m',m'<m/\W (i+1) m' σ' H')/\∀x H',J.A_ i H x H'->g x σ H' λa d=>tb {D with nx:=N,ct:=N,bk:=D.nx} a d):=by
 refine⟨λi m σ H=>m=n-i/\i<=n/\P i σ H,⟨n,by simp,T2 _,j⟩,?_⟩;rintro i m σ H ⟨rfl,l,p⟩;by_cases h:i<n
 .exact .inr ⟨b i σ H p h,P (i+1),λσ' H' q=>⟨n-(i+1),by lia,rfl,h,q⟩,λx H' y=>hb i σ H x H' _ h p y λ_ _=>id⟩
 .have e:i=n:=by lia
  subst e;exact .inl ⟨c σ H p,k σ H p⟩
end L4
namespace L4
open PySem PySem.Spec PyProof.Rows L2 L3
section
variable{H:Hp}{s:Int}{la:Addr}
def Kp(la:Addr)(G H:Hp):Prop:=∀c u,G c=some u->c≠la->H c=some u
theorem Kp.of(s:Same G H):Kp la G H:=λc u e _=>s c u e
end
end L4
namespace L4
open PySem PySem.Spec PyProof.Rows L2 L3
section
variable{K:Xp}{H:Hp}{Q:VK}{E:XK}{k:Int×Int}{c p:Addr}
def nZ{a:Type}(R:Int×Int->a)(k:Int×Int)(p:a):Int×Int->a:=λu=>if u=k then p else R u
inductive ql:Sp
 |mk {c q:Addr} {x y z:V} {H:Hp} {Q:VK} {E:XK} (hc:H c=some (.tup [x,y,z,.ref q])) (k:∀p,H p=none->Q (.ref p) (upd H p (.tup [x,y]))):ql [.ref c] H Q E
def xQ(h:ql vs H Q E):vs.length=1:=by cases h;rfl
def NT(K:Xp):TS:=jc (eY (ai (tI K 0 0) (ai (tI K 0 1) aG)))
theorem AQ(h:ql vs H Q E):NT K {nx:=λ_ H'=>Q .bp H',rt:=Q} (bO ["rule"] vs) H:=by obtain⟨hc,k⟩:=h;exact xE (.c (.ix (.va rfl) hc rfl) (.c (.ix (.va rfl) hc rfl) .ni)) rfl k
end
end L4
namespace L2
open PySem PySem.Spec PySem.Calls PyProof.Rows
def Sk(d:Addr)(o:Obj)(u:HO)(kvs:List (List bv×V)):It:=⟨λi H=>H d=some (.bj o u)/\i<kvs.length,λi H x H'=>H'=H/\∃b k v,kvs[i]?=some (k,v)/\x=.ref b/\H b=some (.tup (k.map kV)),λi H=>H d=some (.bj o u)/\kvs.length<=i⟩
def xR{P:Xq}{w:World}{K:Xp}{tg:Expr}{d it:Addr}(hex:o.ExactDict)(hdat:o.data=.dict en ep)(bC:en.size=kvs.length)
 (hent:∀H h,HOk P w H h->H d=some (.bj o u)->∀(i:Nat) p,kvs[i]?=some p->∃e b,en[i]?=some e/\e.key=.ref b/\H b=some (.tup (p.1.map kV))):Turn P w K tg (Sk d o u kvs) [it] it (λi h=>h.IsKeyIter it d i en.size ep) where
 mem:=by simp
 obj:=λi h st b hb=>by
  have e:b=it:=by simpa using hb
  subst e;obtain⟨o,e,c,q⟩:=st;exact⟨o,e,λv z=>by rw[q]at z;cases z⟩
 keep:=λi h h' st k=>st.at λo e=>k it (by simp) o e
 item:=by
  intro X hP hw hK hc i ac s σ H E I hf st hg;subst hP hw hK;obtain⟨hd,hi⟩:=hg;obtain⟨eo,_⟩:=(show ObjOk X.prog X.w H s.heap d (.bj o u)from I.aW d _ hd);obtain⟨f0,f1,f2,f3,f4,f5⟩:=hf it (by simp);have hk:kvs[i]?=some kvs[i]:=by simp[hi]
  obtain⟨e,b,he,hb,hH⟩:=hent H s.heap I.aW hd i _ hk;refine iD st ⟨o,eo,hex,hdat⟩ (λe' e1 h' st' sb=>?_) λz=>by rw[he]at z;cases z
  rw[he]at e1;cases e1;have I1:Inv X ac σ H {s with heap:=h'}:=I.turned (t':=s.toks) (λb o hb e=>(sb.2 b hb).trans e) f0 f1 f3 f4 f5;obtain⟨oi,e2,c,q⟩:=id st';exact⟨_,rfl,yo (s:={s with heap:=h'}) e2 c q (by decide) ⟨.ref b,H,I1,hb,⟨rfl,b,kvs[i].1,kvs[i].2,hk,rfl,hH⟩,st',λb hb=>(hf b hb).1⟩⟩
 done:=by intro X hP hw hK hc i ac s σ H E I hf st hg;subst hP hw hK;obtain⟨hd,hi⟩:=hg;obtain⟨eo,_⟩:=(show ObjOk X.prog X.w H s.heap d (.bj o u)from I.aW d _ hd);obtain⟨f0,f1,f2,f3,f4,f5⟩:=hf it (by simp);refine iD st ⟨o,eo,hex,hdat⟩ (λe e1=>?_) λ_=>⟨I.ok.hd hc,λh' eb=>⟨rfl,I.turned (t':=s.toks) (λb o hb e=>eb b o hb e) f0 f1 f3 f4 f5⟩⟩;rw[WB (by lia)]at e1;cases e1
 self:=λ_ _ _ _ _ st h=>wpAny_pyIter_keyiter st h
section
def Dd(X:Cx)(b:TE):TI:=λσ H R=>b σ H λx a=>∃d kvs u,x=.ref d/\(u=.dT kvs\/(u=.dK []/\kvs=[]))/\a d=some u/\∀o,(∀c v,X.H₀ d≠some (.bj c v))->R (Sk d o u kvs) (upd a d (.bj o u))
def vN{l:Expr}(y:PE X l tl):PI X tg l (Dd X tl):=by
 intro ac s σ H R I h;refine cj (y ac s σ H _ I h) λv s1 ⟨x,C,r,J,q1⟩=>?_;obtain⟨d,kvs,u,e,z,e1,q⟩:=q1;subst e;cases J;have D:h8 u:=by rcases z with rfl|⟨rfl,_⟩<;>exact True.intro
 have A:∃o,s1.heap.get? d=some o:=by
  rcases z with rfl|⟨rfl,_⟩
  .obtain⟨_,_,_,_,o,_,_,k,_⟩:=(show ObjOk X.prog X.w C s1.heap d (.dT kvs)from r.aW d _ e1);exact⟨o,k⟩
  .obtain⟨_,_,_,_,o,_,_,k,_⟩:=(show ObjOk X.prog X.w C s1.heap d (.dK [])from r.aW d _ e1);exact⟨o,k⟩
 obtain⟨o,k⟩:=A;have t:=r.bj e1 D k;have key:∀{H h},HOk X.prog X.w H h->H d=some (.bj o u)->(d==sysModules)=false/\∃(en:Array DictEntry)(ep:Nat),o.ExactDict/\o.data=.dict en ep/\en.size=kvs.length/\∀(i:Nat) p,kvs[i]?=some p->∃e b,en[i]?=some e/\e.key=.ref b/\H b=some (.tup (p.1.map kV)):=λ{H h} ok e=>by
  obtain⟨E,B⟩:=(show ObjOk X.prog X.w H h d (.bj o u)from ok d _ e);rcases z with rfl|⟨rfl,rfl⟩
  .obtain⟨_,hd,xs,c,K,en,ep,g,hex,a,m,_,_⟩:=js ok (.inr ⟨o,e⟩);rw[E]at g;cases g;refine⟨hd,en,ep,hex,a,by rw[Ww m,U7 c],λi p F=>?_⟩;have y:i<xs.length:=by rw[<- U7 c];exact(Tq.mp F).1
   have B:xs[i]?=some xs[i]:=by simp[y]
   obtain⟨_,hb,O⟩:=c.at i _ _ F B;exact⟨_,_,by rw[entry_at m,B];rfl,rfl,hb⟩
  .obtain⟨_,hd,vs,c,K,en,ep,g,hex,a,_,n,_⟩:=jr ok (.inr ⟨o,e⟩);rw[E]at g;cases g;cases c;cases G:en.toList with
   |nil=>exact⟨hd,en,ep,hex,a,by rw[<- UB,G];rfl,λi p e=>by simp at e⟩
   |cons _ _=>rw[G]at n;cases n
 obtain⟨hd,en,ep,hex,a,L,_⟩:=key t.aW af;refine pM hd ⟨o,k,hex,a⟩ ?_;refine⟨s1.heap.objs.size,[s1.heap.objs.size],_,_,_,rfl,t.kept (t':=s1.toks) λb o e=>Tn _ e,xR hex a L (λH h ok e=>?_),⟨_,Tv _ rfl,rfl,rfl⟩,λb hb=>?_,q o (r.Jb e1 D)⟩
 .obtain⟨_,M,N,_,j,_,f⟩:=key ok e;rw[a]at j;cases j;exact f
 .have e:b=s1.heap.objs.size:=by simpa using hb
  subst e;exact t.qI (To _) (t.aW.fresh (To _))
end
end L2
namespace L2
open PySem PySem.Spec PySem.Calls PyProof.Rows ST
section
variable{κ μ:Type}
def g9.own(v:g9 ent es its)(un:FQ ent its):∃zs:List (κ×μ),(∀z∈zs,z∈its)/\(zs.map (·.1)).Nodup/\zs.length=es.size/\(∀x∈its,∃y∈zs,y.1=x.1)/\g9 ent es zs:=by
 obtain⟨zs,d,c⟩:=oO (ent:=ent) (its:=its) es.toList v.el;have k:zs.length=es.size:=by have:=U1 List.length d;rw[Tp,UB]at this;exact this.symm
 have nd:(zs.map (·.1)).Nodup:=by have pw:=v.pw;rw[d,Vh]at pw;unfold List.Nodup;rw[Vh];exact U5 (λ{a b} ha hb g=>g a b rfl rfl (c a ha) (c b hb)) pw
 have al:∀x∈its,∃y∈zs,y.1=x.1:=λx f=>by obtain⟨y,l,e1,e2⟩:=v.all x f;rw[d]at e2;obtain⟨z,hz,e3⟩:=TH.mp e2;exact⟨z,hz,(un z (c z hz) y l e3).trans e1⟩
 refine⟨zs,c,nd,k,al,⟨λe i=>?_,by lia,v.pw.imp λ{a b} h x j e1 e2 m m2=>h x j e1 e2 (c x m) (c j m2),λx f=>⟨x,f,rfl,?_⟩⟩⟩
 .rw[d]at i;obtain⟨z,hz,e⟩:=TH.mp i;exact⟨z,hz,e.symm⟩
 .rw[d];exact TH.mpr ⟨x,f,rfl⟩
end
section
def zl(X:Cx):List V->Hp->VK->Prop:=λxs H Q=>∃l vs its,xs=[.ref l]/\Rd H l (.lst vs)/\TupsIn H vs its/\vs.length<=300/\∀p es,H p=none->g9 (eT X.prog X.w) es its->Q (.ref p) (upd H p (.ext λh=>SetAt X.w h p es))
def rQ(hc:X.calm=true)(a:X.A.units+64<cLine):CallR X (.type "set") (zl X):=z6 hc a
def zn(X:Cx):List V->Hp->VK->Prop:=λxs H Q=>∃p es its,xs=[.ref p]/\H p=some (.ext λh=>SetAt X.w h p es)/\g9 (eT X.prog X.w) es its/\(∀x∈its,H x.2=some (.tup ((iK x.1).map kV)))/\(∀x∈its,x.1≠[])/\(∀l:List (List Int),l.Nodup->(∀k∈l,∃x∈its,x.1=k)->l.length<=63)/\
 ∀l a,H l=none->qo (λx y=>d6 x y=true) its a->Q (.ref l) (upd H l (.lst (a.map λy=>.ref y.2)))
def rR(hc:X.calm=true):CallR X (.builtin "sorted") (zn X):=by
 intro ac s σ H xs us Q I r h;obtain⟨p,es,its,rfl,j,v,g,c,hz,q⟩:=h;have d:=λx a=>d4 I.aW (g x a);obtain⟨zs,b,nd,i,al,v2⟩:=v.own (JO d);have gg:zs.length<=63:=by
  have:=hz (zs.map (·.1)) nd λk m=>by obtain⟨z,hz,rfl⟩:=TH.mp m;exact⟨z,b z hz,rfl⟩
  rw[Tp]at this;exact this
 exact sO hc (N:=63) (by decide) FU ac s σ H _ us Q I r ⟨p,es,zs,rfl,j,v2,λx a=>g x (b x a),λx a=>c x (b x a),gg,λl n i so=>q l n i ⟨λy f=>b y (so.sub y f),λx a=>by obtain⟨z,hz,e⟩:=al x a;obtain⟨y,f,e2⟩:=so.all z hz;exact⟨y,f,e2.trans e⟩,so.pw⟩⟩
end
end L2
namespace L4
open PySem PySem.Spec PyProof.Rows L2 L3 ST
abbrev bf:=Int×Int
def EY(a b:bf):Prop:=a.1<b.1\/(a.1=b.1/\a.2<b.2)
structure rZ(l z:List bf):Prop where
 m:∀x,x∈z↔x∈l
 p:z.Pairwise EY
section
def pL(x:bf):List Int:=[x.1,x.2]
def Dg(h:pL x=pL y):x=y:=by unfold pL at h;injection h with a b;injection b with b _;exact Xg a b
def QX(h:d6 (pL x) (pL y)=true):EY x y:=by
 unfold pL at h;unfold EY;simp only[d6]at h
 grind
def GI:∀{a:List bf}{vs:List V},aV (IsSet H) a vs->∃its:List kA,TupsIn H vs its/\its.map (·.1)=a.map pL:=by
 intro a vs h;induction h with
 |nil=>exact⟨[],.nil,rfl⟩
 |@cons x v a vs q _ b=>obtain⟨its,c,d⟩:=b;obtain⟨p,rfl,e⟩:=q;exact⟨(pL x,p)::its,.cons ⟨rfl,e⟩ c,by rw[TJ,TJ,d]⟩
def IC(h:Reads ta σ H (.ref l))(B:Rd H l (.lst vs))(a:aV (IsSet H) hs vs)(hz:hs.length<=300)(gg:∀m:List bf,m.Nodup->(∀x∈m,x∈hs)->m.length<=63)
 (k:∀i ms ws H',Same H H'->H i=none->H' i=some (.lst ws)->aV (IsSet H') ms ws->rZ hs ms->Q (.ref i) H'):jZ (zn X) (ai (jZ (zl X) (ai ta aG)) aG) σ H Q:=by
 obtain⟨its,u,A⟩:=GI a;have q:=Ao u;have mem:∀x∈its,∃y∈hs,x.1=pL y:=λx d=>by
  have:x.1∈hs.map pL:=by rw[<- A];exact TH.mpr ⟨x,d,rfl⟩
  obtain⟨y,g,e⟩:=TH.mp this;exact⟨y,g,e.symm⟩
 refine h _ ⟨l,vs,its,rfl,B,u,by rw[<- a.len];exact hz,λb es hb v=>?_⟩;have s1:=ao (o:=.ext λh=>SetAt X.w h b es) hb;refine⟨b,es,its,rfl,af,v,λx d=>s1 _ _ (q x d),λx d z=>?_,λm nd C=>?_,λi f j so=>?_⟩
 .obtain⟨y,_,e⟩:=mem x d;rw[z]at e;cases e
 .have:∀k∈m,∃y:bf,y∈hs/\pL y=k:=λk r=>by obtain⟨x,d,e⟩:=C k r;obtain⟨y,g,e2⟩:=mem x d;exact⟨y,g,e2.symm.trans e⟩
  have key:∀m:List (List Int),(∀k∈m,∃y:bf,y∈hs/\pL y=k)->∃n:List bf,n.map pL=m/\∀y∈n,y∈hs:=λm=>by
   induction m with
   |nil=>exact λ_=>⟨[],rfl,λ_ h=>nomatch h⟩
   |cons c m s=>intro h;obtain⟨y,g,e⟩:=h c Tw;obtain⟨n,e2,t⟩:=s λk r=>h k (Tu _ r);exact⟨y::n,by rw[TJ,e,e2],λz hz=>(Tz.mp hz).elim (λe=>e▸g) (t z)⟩
  obtain⟨n,e,t⟩:=key m this;subst e;rw[Tp];exact gg n (List.Pairwise.of_map pL (λ_ _ h e=>h (by rw[e])) nd) t
 .have s2:=s1.trans (ao (o:=.lst (f.map λy=>.ref y.2)) j);have D:H i=none:=s1.free j;have p:∀y∈f,y∈its:=so.sub;have ex:∃ms:List bf,ms.map pL=f.map (·.1)/\aV (IsSet (upd (upd H b (.ext λh=>SetAt X.w h b es)) i (.lst (f.map λy=>.ref y.2)))) ms (f.map λy=>.ref y.2):=by
   generalize upd (upd H b (.ext λh=>SetAt X.w h b es)) i (.lst (f.map λy=>.ref y.2))=F at s2;clear so j;induction f with
   |nil=>exact⟨[],rfl,.nil⟩
   |cons y f s=>obtain⟨ms,e1,e2⟩:=s λz hz=>p z (Tu _ hz);obtain⟨z,_,e3⟩:=mem y (p y Tw);refine⟨z::ms,by rw[TJ,TJ,e1,e3],.cons ⟨y.2,rfl,?_⟩ e2⟩;have:=s2 _ _ (q y (p y Tw));rw[e3]at this;exact this
  obtain⟨ms,e1,e2⟩:=ex;refine k i ms _ _ s2 D af e2 ⟨λx=>⟨λd=>?_,λd=>?_⟩,?_⟩
  .have:pL x∈f.map (·.1):=by rw[<- e1];exact TH.mpr ⟨x,d,rfl⟩
   obtain⟨y,g,e⟩:=TH.mp this;obtain⟨z,hz,e3⟩:=mem y (so.sub y g);rw[Dg (e.symm.trans e3)];exact hz
  .have:pL x∈its.map (·.1):=by rw[A];exact TH.mpr ⟨x,d,rfl⟩
   obtain⟨z,hz,e⟩:=TH.mp this;obtain⟨y,g,e3⟩:=so.all z hz;have:pL x∈ms.map pL:=by rw[e1];exact TH.mpr ⟨y,g,e3.trans e⟩
   obtain⟨w,E,e4⟩:=TH.mp this;rw[<- Dg e4];exact E
  .have:=so.pw;have pw:(f.map (·.1)).Pairwise λx y=>d6 x y=true:=Vh.mpr this;rw[<- e1]at pw;exact(Vh.mp pw).imp QX
end
end L4
namespace L4
open PySem PySem.Spec PyProof.Rows L2 L3
def db{a:Type}{R:bf->a}{k:bf}{p:a}:nZ R k p k=p:=Tt rfl
def b_{a:Type}{R:bf->a}{k u:bf}{p:a}(h:u≠k):nZ R k p u=R u:=TC h
def gn(ks:List bf)(k:bf):List bf:=if k∈ks then ks else ks++[k]
structure Gr{α:Type} (R:Hp->α->V->Prop) (B H:Hp) (a:Addr) (ks:List bf) (F:bf->List α) (RA:bf->Addr):Prop where
 s:Same B H
 r:H a=some (.dT (ks.map λk=>(k2 k,.ref (RA k))))
 na:B a=none
 v:∀k∈ks,B (RA k)=none/\∃vs,H (RA k)=some (.lst vs)/\aV (R H) (F k) vs
 i:∀k∈ks,∀k'∈ks,RA k=RA k'->k=k'
 z:∀k,k∉ks->F k=[]
def nu{α:Type}(R:Hp->α->V->Prop):Prop:=∀{H H':Hp},KT H H'->∀x v,R H x v->R H' x v
def GJ(_:Hp)(x:Int)(v:V):Prop:=v=.int x
def pN:nu GJ:=λ_ _ _ h=>h
def bI:nu IsSet:=λk _ _ ⟨p,e,h⟩=>⟨p,e,k _ _ h⟩
section
variable{α:Type}{R:Hp->α->V->Prop}{X:Cx}{K:Xp}{B H H':Hp}{a q p:Addr}{ks:List bf}{F:bf->List α}{RA:bf->Addr}{D:Ends}{σ:L2.St}{k:bf}{vs ws:List V}{zs:List α}{Q:VK}{E:XK}
def iE:c9 (ks.map λk=>(k2 k,V.ref (RA k))) (k2 k)=if k∈ks then some (.ref (RA k))else none:=by
 induction ks with
 |nil=>rfl
 |cons x r b=>
  rw[TJ];by_cases h:x=k
  .rw[hI (by rw[h]),Tt (by rw[h];exact Tw),h]
  .rw[hJ λz=>h (mQ _ _ z),b];simp[UD h]
theorem Gr.keep(h:Gr R B H a ks F RA)(d:nu R)(k:Kp c H H')(kt:KT H H')(n:B c=none)(na:a≠c)(nl:∀b,H c≠some (.lst b)):Gr R B H' a ks F RA:=⟨(λb u e=>k _ _ (h.s _ _ e) λz=>by rw[z,n]at e;cases e),k _ _ h.r na,h.na,λf b=>let ⟨h1,vs,h2,g⟩:=h.v f b;⟨h1,vs,k _ _ h2 (λz=>nl _ (z▸h2)),g.mono (d kt)⟩,h.i,h.z⟩
theorem Gr.more(h:Gr R B H a ks F RA)(c:nu R)(s:Same H H'):Gr R B H' a ks F RA:=⟨h.s.trans s,s _ _ h.r,h.na,λd b=>let ⟨h1,vs,h2,e⟩:=h.v d b;⟨h1,vs,s _ _ h2,e.mono (c (.of s))⟩,h.i,h.z⟩
theorem aV.app{b c:Type}{R:b->c->Prop}{xs us:List b}{d zs:List c}(h:aV R xs d)(g:aV R us zs):aV R (xs++us) (d++zs):=by
 induction h with
 |nil=>exact g
 |cons a _ e=>exact .cons a e
def Gr.ext(h:Gr R B H a ks F RA)(m:nu R)(f:k∈ks)(d:H (RA k)=some (.lst vs))(o:aV (R H) zs ws):Gr R B (upd H (RA k) (.lst (vs++ws))) a ks (nZ F k (F k++zs)) RA:=by
 obtain⟨n,vs',e,al⟩:=h.v k f;rw[d]at e;cases e;have kt:KT H (upd H (RA k) (.lst (vs++ws))):=.upd d λ_ z=>(nomatch z);refine⟨λb u e=>?_,?_,h.na,λj c=>?_,h.i,λj c=>?_⟩
 .rw[ag λz=>by rw[z,n]at e;cases e];exact h.s _ _ e
 .rw[ag λz=>by rw[<- z,h.r]at d;cases d];exact h.r
 .obtain⟨t,us,e,g⟩:=h.v j c;refine⟨t,?_⟩;by_cases l:j=k
  .rw[l,db];exact⟨_,af,(al.app o).mono (m kt)⟩
  .rw[b_ l];exact⟨us,by rw[ag λz=>l (h.i j c k f z)];exact e,g.mono (m kt)⟩
 .rw[b_ λz:j=k=>c (z▸f)];exact h.z j c
def Gr.new(h:Gr R B H a ks F RA)(w:nu R)(t:k∉ks)(f:H q=none):Gr R B (upd (upd H q (.lst [])) a (.dT ((ks.map λk=>(k2 k,V.ref (RA k)))++[(k2 k,.ref q)]))) a (ks++[k]) F (nZ RA k q):=by
 have m:a≠q:=aj h.r f;have s1:Same H (upd H q (.lst [])):=ao f;have kt:KT H (upd (upd H q (.lst [])) a (.dT ((ks.map λk=>(k2 k,V.ref (RA k)))++[(k2 k,.ref q)]))):=(KT.of s1).trans (.upd (s1 _ _ h.r) λ_ z=>(nomatch z));have c:∀j∈ks,j≠k:=λj hj z=>t (z▸hj);have d:∀j∈ks,RA j≠q:=λj hj z=>by obtain⟨_,_,e,_⟩:=h.v j hj;rw[z,f]at e;cases e
 refine⟨λb u e=>?_,?_,h.na,λj hj=>?_,λj hj l n e=>?_,λj hj=>h.z j λz=>hj (Ul _ z)⟩
 .rw[ag λz=>by rw[z,h.na]at e;cases e];exact s1 _ _ (h.s _ _ e)
 .rw[af,Ua];congr 3
  .exact UP λj hj=>by rw[b_ (c j hj)]
  .show _=[(k2 k,V.ref (nZ RA k q k))];rw[db]
 .rcases T4.mp hj with hj|hj
  .rw[b_ (c j hj)];obtain⟨x,us,e,o⟩:=h.v j hj;exact⟨x,us,by rw[ag λz=>by rw[z,h.r]at e;cases e];exact s1 _ _ e,o.mono (w kt)⟩
  .rw[TV]at hj;subst hj;rw[db,h.z _ t];exact⟨h.s.free f,[],by rw[ag (UD m),af],.nil⟩
 .rcases T4.mp hj with g|g<;>rcases T4.mp n with g'|g'
  .rw[b_ (c j g),b_ (c l g')]at e;exact h.i j g l g' e
  .rw[TV.mp g',b_ (c j g),db]at e;exact(d j g e).elim
  .rw[TV.mp g,b_ (c l g'),db]at e;exact(d l g' e.symm).elim
  .rw[TV.mp g,TV.mp g']
def QY(K:Xp)(i:Nat)(tk:TE):TE:=EU K "dict" xb (am i) (ai tk (ai (je aG) aG))
theorem ID(h:Gr R B H a ks F RA)(l:nu R)(hz:ks.length<15000000)(s:σ[i]?=some (some (.ref a)))(t:Makes tk σ H [.int k.1,.int k.2])
 (d:∀H' f,Kp a H H'->KT H H'->Gr R B H' a (gn ks k) F f->k∈gn ks k->Q (.ref (f k)) H'):QY K i tk σ H Q:=by
 refine⟨_,s,.inr (.inr (.inl ⟨rfl,.inr ⟨_,h.r⟩⟩)),t _ λb hb=>⟨T2 _,λq m=>?_⟩⟩;have s1:Same H (upd H b (.tup [.int k.1,.int k.2])):=ao hb;have g:=h.more l s1;have j:upd H b (.tup [.int k.1,.int k.2]) b=some (.tup ((k2 k).map kV)):=af;generalize upd H b (.tup [.int k.1,.int k.2])=o at s1 g j m;have s2:Same o (upd o q (.lst [])):=ao m;refine⟨a,b,k2 k,.ref q,_,rfl,rfl,s2 _ _ j,.inl (s2 _ _ g.r),qC (by rw[Tp];exact hz),?_⟩;rw[iE];unfold gn at d;by_cases e:k∈ks
 .rw[Tt e]at d ⊢;exact .inl ⟨_,rfl,d _ _ (.of (s1.trans s2)) (.of (s1.trans s2)) (g.more l s2) e⟩
 .rw[TC e]at d ⊢;refine .inr ⟨rfl,?_⟩;rw[jq _ (by rw[iE,TC e])];have:=d _ _ (λc u e n=>by rw[ag n];exact s2 _ _ (s1 _ _ e)) ((KT.of (s1.trans s2)).trans (.upd (s2 _ _ g.r) λ_ z=>(nomatch z))) (g.new l e m) (Ub _ Tw);rw[db]at this;exact this
def NU(K:Xp)(i m:Nat)(tk:TE):TS:=cO (EU K "list" gq (QY K i tk) (ai (am m) aG))
theorem Kq(h:Gr R B H a ks F RA)(g:nu R)(hz:ks.length<15000000)(l:(F k).length<15000000)(o:σ[i]?=some (some (.ref a)))(r:σ[m]?=some (some v))(s:∀H',KT H H'->R H' z v)(t:Makes tk σ H [.int k.1,.int k.2])
 (w:∀H' d,(∀c u,H c=some u->c≠a->(∀b,u≠.lst b)->H' c=some u)->Gr R B H' a (gn ks k) (nZ F k (F k++[z])) d->D.nx σ H'):NU K i m tk D σ H:=by
 refine ID h g hz o t λx d kp kt j f=>?_;obtain⟨y,vs,e1,al⟩:=j.v k f;exact⟨.inl ⟨rfl,_,SqL.of e1⟩,_,r,_,_,_,rfl,rfl,e1,qC (by rw[<- al.len];exact l),w _ d (λc u e n nl=>by rw[ag (λz=>by rw[<- z,kp _ _ e n]at e1;cases e1;exact nl _ rfl)];exact kp _ _ e n) (j.ext g f e1 (.cons (s _ kt) .nil))⟩
def QZ(K:Xp)(i:Nat)(tk b:TE):TS:=cO (EU K "list" yC (QY K i tk) (ai b aG))
theorem Kr(h:Gr R B H a ks F RA)(b:H q=none)(k:bf):∃p vs,(c9 (ks.map λk=>(k2 k,V.ref (RA k))) (k2 k)).getD (.ref q)=.ref p/\upd H q (.lst []) p=some (.lst vs)/\aV (R H) (F k) vs:=by
 rw[iE];by_cases e:k∈ks
 .rw[Tt e];obtain⟨_,vs,e1,al⟩:=h.v k e;exact⟨_,vs,rfl,ao b _ _ e1,al⟩
 .rw[TC e,h.z k e];exact⟨q,[],rfl,af,.nil⟩
theorem Sb:∀{l:List Int}{vs:List V},aV (GJ H) l vs->vs=l.map .int:=by
 intro l vs h;induction h with
 |nil=>rfl
 |cons e _ b=>rw[TJ,<- b,e]
def aX(F:bf->List Int)(r:Sp.Rule):List bf:=match r.2.2.2 with
 |[]=>[]
 |c::w=>match w with
  |[]=>[(r.2.2.1,c)]
  |d::_=>(r.2.2.1,c)::(F (r.2.2.1,c)).map λo=>(o,d)
theorem NV{cap:L2.St}{s:Hp}{l:Addr}{ks:List Int}{te:TE}{ws:Int->List V}{Fin:Addr->List V->Hp->Prop}(h1:tN.length=1)(w:iu σ caps=cap)(O:∀cl C t G fp,PG (aS X scope (tN++capN) cl C t G fp) tg (ay 0))(P:∀cl C t G fp,PE (aS X scope (tN++capN) cl C t G fp) elt te)
 (I:∀x H',Same s H'->Makes te (some (.int x)::cap) H' (ws x)) (S:Rd s l (.lst (ks.map .int))) (hz:ks.length<15000000) (k:∀n vs H',s n=none->Same s H'->H' n=some (.lst vs)->aV (λx v=>∃p,v=.ref p/\H' p=some (.tup (ws x))) ks vs->Fin n vs H'):b9 X scope tg tN capN caps elt [] σ Fin (yp X.K l) s:=by
 intro n hD cl C t fp;refine⟨_,_,_,λi m b H'=>m=ks.length-i/\i<=ks.length/\aV (λx v=>∃p,v=.ref p/\H' p=some (.tup (ws x))) (ks.take i) b/\Same s H'/\H' n=some (.lst b),O cl C t _ fp,iz,P cl C t _ fp,⟨ks.length,by simp,T2 _,.nil,ao hD,af⟩,?_⟩;rintro i m b H' ⟨rfl,U,A,sm,d⟩;have r:SqL X.K H' l (ks.map .int):=.inl (bh sm S);refine⟨d,?_⟩;by_cases f:i<ks.length
 .right;refine⟨⟨_,.int ks[i],r,by simp[f]⟩,λW g o y J=>?_⟩;obtain⟨rfl,y⟩:=y;have L:=y _ r;rw[TL,Ts f]at L;cases L;rw[h1]at J;obtain⟨Y,rfl⟩:=VB.mp J;rw[w];refine⟨λj M=>?_,mB (I _ _ sm _ λp N=>?_)⟩
  .rw[h1]at M;obtain⟨j,rfl⟩:=UV M;rfl
  .have np:n≠p:=aj d N;have s2:Same g (upd g p (.tup (ws ks[i]))):=ao N;have k3:KT g (upd (upd g p (.tup (ws ks[i]))) n (.lst (b++[.ref p]))):=(KT.of s2).trans (.upd (s2 _ _ d) λ_ z=>(nomatch z));refine⟨s2 _ _ d,qC ?_,ks.length-(i+1),by lia,rfl,f,?_,λc u e=>?_,af⟩
   .rw[<- A.len,Uz];lia
   .rw[Ui,Ts f];exact(A.mono λx v ⟨p,e,h⟩=>⟨p,e,k3 _ _ h⟩).snoc ⟨p,rfl,by rw[ag (UD np),af]⟩
   .rw[ag (aj e hD)];exact s2 _ _ (sm _ _ e)
 .left;have T:i=ks.length:=by lia
  subst T;rw[U4]at A;exact⟨⟨_,r,by simp⟩,k n b H' hD sm d A⟩
inductive ED:Sp
 |mk {B H:Hp} {r:Sp.Rule} {c a:Addr} {ks:List bf} {F:bf->List Int} {RA:bf->Addr} {Q:VK} {E:XK} (hr:IsRule H r (.ref c)) (O:Gr GJ B H a ks F RA) (hz:∀k,(F k).length<1000000) (k:∀l vs H',Same H H'->H l=none->H' l=some (.lst vs)->aV (IsSet H') (aX F r) vs->Q (.ref l) H'):ED [.ref c,.ref a] H Q E
def Dh(h:ED vs H Q E):vs.length=2:=by cases h;rfl
def NW(K:Xp):TE:=eY (ai (am 0) (ai (tI K 1 1) aG))
def NY(X:Cx)(scope:Scope)(tg elt:Expr)(tN capN:List Str)(caps:List Nat):TE:=gw X scope tg tN capN caps elt [] (dk X.K (gG (am 1) (am 3) (je aG)))
def Q0(X:Cx)(b:TE):TS:=jc (cY BH (je (ai (am 3) aG)) b)
def Q1(X:Cx)(b:TE):TS:=bm (gh (cS (cY zL (jZ (gA X.K) (ai (am 2) aG)) (tC (.int 1)))) (jc (je (ai (am 3) aG))) cW) (Q0 X b)
def Q2(X:Cx)(b:TE):TS:=bm (gh (cS (cY zL (jZ (gA X.K) (ai (am 2) aG)) (tC (.int 0)))) (jc (je aG)) cW) (bm (dg (eY (ai (tI X.K 0 2) (ai (tI X.K 2 0) aG))) (ay 3)) (Q1 X b))
def SZ(X:Cx)(scope:Scope)(tg elt:Expr)(tN capN:List Str)(caps:List Nat):TS:=bm (dg (tI X.K 0 3) (ay 2)) (Q2 X (NY X scope tg elt tN capN caps))
theorem GK{scope:Scope}{tg elt:Expr}{tN capN:List Str}{caps:List Nat}{vs:List V}{Q:VK}{E:XK}(h1:tN.length=1)(hc:caps=[2])(U:∀cl C f I fp,PG (aS X scope (tN++capN) cl C f I fp) tg (ay 0))(W:∀cl C f I fp,PE (aS X scope (tN++capN) cl C f I fp) elt (NW X.K))(h:ED vs H Q E) :
 SZ X scope tg elt tN capN caps {nx:=λ_ H'=>Q .bp H',rt:=Q} (bO ["rule","behind","put","first"] vs) H:=by
 obtain @⟨B,H,r,c,a,ks,F,RA,Q,E,⟨_,q,ec,hr,hq⟩,O,hz,k⟩:=h;cases ec;obtain⟨r0,r1,m,w⟩:=r;dsimp only at hr hq;have d:(((w.map V.int).length:Nat):Int)=w.length:=by simp
 refine Reads.ix (.va (i:=0) rfl) hr (v:=.ref q) rfl _ ?_;refine jN (.HQ (.len (.va rfl) hq) .k) (λh=>?_) λh=>?_
 .have e0:w=[]:=by have:=T_ h;rw[d]at this;exact UO.mp (by lia)
  subst e0;exact⟨T2 _,λl d=>k l [] _ (ao d) d af .nil⟩
 .have Y:¬w.length=0:=λz=>h (TZ (by rw[d,z];rfl));obtain⟨x,w,rfl⟩ : ∃x u,w=x::u:=by
   cases w with
   |nil=>exact(Y rfl).elim
   |cons x u=>exact⟨x,u,rfl⟩
  delta cW bm dg
  dsimp only;refine xE (ws:=[.int m,.int x]) (.c (.ix (.va rfl) hr rfl) (.c (.ix (.va rfl) hq (gp (j:=0) rfl)) .ni)) rfl λb hb=>?_;have s1:Same H (upd H b (.tup [.int m,.int x])):=ao hb;have g:upd H b (.tup [.int m,.int x]) b=some (.tup [.int m,.int x]):=af;have N:=O.more pN s1;generalize upd H b (.tup [.int m,.int x])=P at s1 g N;refine jN (.HQ (.len (.va rfl) (s1 _ _ hq)) .k) (λh=>?_) λh=>?_
  .have e1:w=[]:=by have:=T_ h;rw[d]at this;exact UO.mp (by simp at this;lia)
   subst e1;refine⟨_,rfl,US (qC (by show 1<15000000;decide)),λl d=>?_⟩;have s2:=ao (o:=.lst [.ref b]) d;exact k l _ _ (s1.trans s2) (s1.free d) af (.cons ⟨b,rfl,s2 _ _ g⟩ .nil)
  .have Z:¬w.length=0:=λz=>h (TZ (by rw[d,T3,z];rfl));obtain⟨y,w,rfl⟩ : ∃x u,w=x::u:=by
    cases w with
    |nil=>exact(Z rfl).elim
    |cons x u=>exact⟨x,u,rfl⟩
   refine⟨_,rfl,US (qC (by show 1<15000000;decide)),λl0 J=>?_⟩;have s2:=ao (o:=.lst [.ref b]) J;have h0:upd P l0 (.lst [.ref b]) l0=some (.lst [.ref b]):=af;have G:=N.more pN s2;generalize upd P l0 (.lst [.ref b])=H2 at s2 h0 G
   delta NY gw dk gG
   dsimp only;refine⟨_,rfl,a,rfl,.inr ⟨_,.inl G.r⟩,_,rfl,T2 _,λq2 A=>?_⟩;have f:=ao (o:=.lst []) A;refine⟨_,DGet.t (k:=k2 (m,x)) (f _ _ G.r) (f _ _ (s2 _ _ g)),?_⟩;obtain⟨p,ov,e1,e2,e3⟩:=Kr G A (m,x);rw[Sb e3]at e2;have hz:=hz (m,x);rw[e1];have n:=(s1.trans s2).trans f;refine⟨p,rfl,⟨_,SqL.of e2⟩,NV (te:=NW X.K) (ws:=λu=>[.int u,.int y]) (cap:=[some (.ref q)]) (caps:=caps) h1 (by rw[hc];rfl) U W (λu S s=>.t (.c (.va rfl) (.c (.ix (.va rfl) (s _ _ (n _ _ hq)) (gp (j:=1) rfl)) .ni)) rfl) (.inl e2) (by lia) λDl vs S hD s L al=>?_⟩;refine⟨l0,Dl,_,_,rfl,rfl,s _ _ (f _ _ h0),L,US (qC (by rw[<- al.len];simp;lia)),λl d=>?_⟩;have M:=ao (o:=.lst ([.ref b]++vs)) d;have sa:=(n.trans s).trans M;refine k l _ _ sa ((n.trans s).free d) af (.cons ⟨b,rfl,M _ _ (s _ _ (f _ _ (s2 _ _ g)))⟩ ?_);have:=al.Mh (T:=IsSet (upd S l (.lst ([.ref b]++vs)))) (λu=>(u,y)) id λu v ⟨p,e,hp⟩=>⟨p,e,M _ _ hp⟩;rw[List.map_id]at this;exact this
end
section
variable{X:Cx}{mg:Str->Option Xr}{Fp:List D->Res R}{H H':Hp}{a q p d:Addr}{As:List Sp.Arr}{kvs:List (List bv×V)}{Q:VK}{E:XK}
theorem pO(h:Is H' (nl H H') (.i9 (As.map λa=>.inr (ak a)) ds) v):∃d kvs u,v=.ref d/\H d=none/\H' d=some u/\(u=.dT kvs\/(u=.dK []/\kvs=[]))/\kvs.map (·.1)=As.map ak:=by
 obtain⟨d,vs,rfl,⟨f,c,g⟩,all⟩:=h;have b:∀o u,H' d≠some (.bj o u):=λo u z=>by obtain⟨j,q,i⟩:=g;rw[z]at q;cases q;exact i
 rcases f with⟨kvs,e|⟨o,e⟩,h1,h2⟩|⟨kvs,e|⟨o,e⟩,h1,h2⟩
 .have e0:As=[]:=by
   cases As with
   |nil=>rfl
   |cons x l=>cases kvs with
    |nil=>cases h1
    |cons y kvs=>rw[TJ,TJ]at h1;injection h1 with h1;cases h1
  subst e0;have:kvs=[]:=by cases kvs with
   |nil=>rfl
   |cons _ _=>cases h1
  subst this;exact⟨d,[],_,rfl,c,e,.inr ⟨rfl,rfl⟩,rfl⟩
 .exact(b _ _ e).elim
 .refine⟨d,kvs,_,rfl,c,e,.inl rfl,?_⟩;have:=U1 (List.map λk:DK=>match k with|.inr a=>a|.inl _=>[]) h1;rw[T7,T7]at this;exact this.symm
 .exact(b _ _ e).elim
def ba(As:List Sp.Arr)(k:bf):List Int:=(As.filter λt=>decide ((t.1,t.2.1)=k)).map (·.2.2)
theorem vP(As:List Sp.Arr)(t:Sp.Arr):ba (As++[t])=nZ (ba As) (t.1,t.2.1) (ba As (t.1,t.2.1)++[t.2.2]):=by
 funext k;unfold ba nZ;by_cases h:k=(t.1,t.2.1)
 .rw[Tt h,h,VG];simp
 .rw[TC h,VG];simp[UD h]
theorem kZ(As:List Sp.Arr)(k:bf):(ba As k).length<=As.length:=by unfold ba;rw[Tp];exact WI ..
def vQ(ks:List bf)(k:bf):(gn ks k).length<=ks.length+1:=by unfold gn;split<;>simp
inductive EL(mg:Str->Option Xr) (Fp:List D->Res R):Sp
 |mk {H:Hp} {v0:V} {hD:D} {Ma:Addr->Prop} {As:List Sp.Arr} {ds:List D} {Q:VK} {E:XK} (is:Is H Ma hD v0) (hz:As.length<1000000) (hF:Fp [hD]=.ok (.jj (.i9 (As.map λa=>.inr (ak a)) ds))) (k:∀a ks RA H',Gr GJ H H' a ks (ba As) RA->Q (.ref a) H'):EL mg Fp [v0] H Q E
def Di(h:EL mg Fp vs H Q E):vs.length=1:=by cases h;rfl
def Dj(i j:Nat):TE:=eY (ai (am i) (ai (am j) aG))
def S1(X:Cx)(mg:Str->Option Xr)(Fp:List D->Res R):TS:=bm (dg jv (ay 1)) (bm (λD σ H=>jd (Dd X (ck (jC mg 1 Fp) [] E0 (ai (am 0) aG))) (dU X.K 3 (aQ (ay 2) (aQ (ay 3) (aQ (ay 4) dS)))) (NU X.K 1 4 (Dj 2 3)) (Qw X D) σ H) (jc (am 1)))
theorem GL(h:EL mg Fp vs H Q E):S1 X mg Fp {nx:=λ_ H'=>Q .bp H',rt:=Q} (bO ["house","behind","room","sign","other"] vs) H:=by
 obtain @⟨H,v0,hD,Ma,As,ds,Q,E,is,hz,hF,k⟩:=h;intro a ha;have s1:Same H (upd H a (.dT [])):=ao ha;have K:Gr GJ H (upd H a (.dT [])) a [] (ba []) (λ_=>0):=⟨s1,af,ha,λk h=>(nomatch h),λk h=>(nomatch h),λk h=>rfl⟩;have m:Is (upd H a (.dT [])) Ma hD v0:=Is.mono (λc u e _=>s1 c u e) (λ_ _ _ z=>z) is;refine⟨_,rfl,rfl,[hD],Ma,⟨v0,_,rfl,m,rfl⟩,?_⟩;rw[hF];intro v r s2 L;have s2:Same (upd H a (.dT [])) r:=s2;obtain⟨d,kvs,u,rfl,g,e2,C,D⟩:=pO L;have g:upd H a (.dT []) d=none:=g;have f:a≠d:=λz=>by rw[<- z,af]at g;cases g
 have nd:H d=none:=s1.free g;have s:h8 u:=by rcases C with rfl|⟨rfl,_⟩<;>exact True.intro
 have A:∀b,r d≠some (.lst b):=λb z=>by rw[e2]at z;cases z;exact s
 refine⟨d,kvs,u,rfl,C,e2,λo M=>?_⟩;have N:Gr GJ H (upd r d (.bj o u)) a [] (ba []) (λ_=>0):=(K.more pN s2).keep pN (λc w e n=>by rw[ag n];exact e) (.upd e2 λws z=>by subst z;exact s) nd f A;refine xP (n:=kvs.length) (λi σ' H'=>(∃x y z,σ'=[some v0,some (.ref a),x,y,z])/\H' d=some (.bj o u)/\∃ks RA,ks.length<=i/\Gr GJ H H' a ks (ba (As.take i)) RA) ⟨⟨none,none,none,rfl⟩,af,[],_,To _,N⟩ (λi σ' H' p F=>⟨p.2.1,F⟩) (λσ' H' p=>⟨p.2.1,To _⟩) (λi σ' H' x O W F p y P=>?_) λσ' H' p=>?_
 .obtain⟨⟨R,S,T,rfl⟩,j,ks,RA,Y,G⟩:=p;obtain⟨rfl,b,U,vv,e1,rfl,hb⟩:=y;have I:(As.map ak)[i]?=some U:=by rw[<- D,TL,e1];rfl
  rw[TL]at I;obtain⟨ar,l,rfl⟩:=Ux.mp I;have V:=(Tq.mp l).1;rw[Nt]at hb;refine Si hb (Kq (k:=(ar.1,ar.2.1)) (z:=ar.2.2) G pN (by lia) (by have:=kZ (As.take i) (ar.1,ar.2.1);rw[Uz]at this;lia) rfl rfl (λ_ _=>rfl) (.t (.c (.va rfl) (.c (.va rfl) .ni)) rfl) λZ B fr J=>P _ _ ⟨⟨_,_,_,rfl⟩,fr _ _ j (UD f) (λb z=>(nomatch z)),gn ks (ar.1,ar.2.1),B,?_,?_⟩)
  .have:=vQ ks (ar.1,ar.2.1);lia
  .rw[Ui,l];rw[<- vP]at J;exact J
 .obtain⟨⟨R,S,T,rfl⟩,j,ks,RA,_,G⟩:=p;have el:kvs.length=As.length:=by have:=U1 List.length D;simpa using this
  rw[el,U4]at G;exact .inr ⟨d,o,u,j,s,M,_,rfl,k a ks RA _ (G.keep pN (c:=d) (λc w e n=>by rw[ag n];exact e) (.upd j λws z=>(nomatch z)) nd f λb z=>by rw[j]at z;cases z)⟩
end
def hd(r:Sp.Rule):bf:=(r.1,r.2.1)
def cE(f:Sp.Rule->List bf)(RL:List Sp.Rule)(k:bf):List bf:=(RL.filter λr=>decide (hd r=k)).flatMap f
def bz(RL:List Sp.Rule):List bf:=RL.foldl (λks r=>gn ks (hd r)) []
def k7(f:Sp.Rule->List bf)(RL:List Sp.Rule)(r:Sp.Rule):cE f (RL++[r])=nZ (cE f RL) (hd r) (cE f RL (hd r)++f r):=by
 funext k;unfold cE nZ;by_cases h:k=hd r
 .rw[Tt h,h,VG,Wo];simp
 .rw[TC h,VG];simp[UD h]
def GM(h:ks.Nodup):(gn ks k).Nodup:=by
 unfold gn;split
 .exact h
 .rename_i n;rw[UZ];exact⟨h,by simp,λa ha b hb e=>by rw[TV]at hb;exact n (hb▸e▸ha)⟩
def addK_mem:x∈gn ks k↔x∈ks\/x=k:=by
 unfold gn;split
 .exact⟨.inl,λh=>h.elim id λe=>e▸‹_›⟩
 .simp
def iF(RL:List Sp.Rule)(r:Sp.Rule):bz (RL++[r])=gn (bz RL) (hd r):=by unfold bz;rw[Vw];rfl
def f6(RL:List Sp.Rule):(bz RL).Nodup/\(bz RL).length<=RL.length/\∀x,x∈bz RL↔∃r∈RL,hd r=x:=by
 have key:∀(n:Nat)(RL:List Sp.Rule),RL.length=n->(bz RL).Nodup/\(bz RL).length<=RL.length/\∀x,x∈bz RL↔∃r∈RL,hd r=x:=λn=>by
  induction n with
  |zero=>intro RL h;cases UO.mp h;exact⟨.nil,To _,λx=>⟨λh=>(nomatch h),λ⟨_,h,_⟩=>(nomatch h)⟩⟩
  |succ n d=>
   intro RL h;obtain⟨L,r,rfl⟩ : ∃L r,RL=L++[r]:=⟨RL.dropLast,RL.getLast (by intro z;subst z;cases h),(List.dropLast_concat_getLast _).symm⟩;rw[TU,Vk]at h;obtain⟨a,b,c⟩:=d L (by lia);rw[iF];refine⟨GM a,T6 (vQ ..) (by simp;lia),λx=>?_⟩;rw[addK_mem,c];constructor
   .rintro (⟨r,f,e⟩|e)
    .exact⟨r,Ul _ f,e⟩
    .exact⟨r,by simp,e.symm⟩
   .rintro⟨q,hq,e⟩;rcases T4.mp hq with hq|hq
    .exact .inl ⟨q,hq,e⟩
    .rw[TV]at hq;exact .inr (by rw[<- e,hq])
 exact key _ RL rfl
section
variable{X:Cx}{K:Xp}{B B0 H H':Hp}{a a2 q p d c:Addr}{ks ks2:List bf}{F:bf->List Int}{G:bf->List bf}{RA RA2 LA:bf->Addr}{σ:L2.St}{Q:VK}{E:XK}{D:Ends}{r:Sp.Rule}
def NZ(K:Xp):TS:=QZ K 2 (ck ql [] E0 (ai (am 3) aG)) (ck ED [] E0 (ai (am 3) (ai (am 1) aG)))
theorem S3(g:Gr IsSet B H a2 ks2 G RA2)(O:Gr GJ B0 B a ks F RA)(j:IsRule B r (.ref c))(m:∀k,(F k).length<1000)(h1:ks2.length<1000)(h2:(G (hd r)).length<1000000)(n:σ=[x0,some (.ref a),some (.ref a2),some (.ref c)])
 (k:∀H' b,Gr IsSet B H' a2 (gn ks2 (hd r)) (nZ G (hd r) (G (hd r)++aX F r)) b->D.nx σ H'):NZ K D σ H:=by
 subst n;refine ID (k:=hd r) g bI (by lia) rfl (λo q=>?_) λt b kp kt h f=>?_
 .obtain⟨_,u,e,hc,_⟩:=IsRule.keep (.of g.s) _ _ j;cases e;exact⟨_,rfl,.mk hc q⟩
 .obtain⟨w,vs,e1,al⟩:=h.v _ f;refine⟨.inl ⟨rfl,_,SqL.of e1⟩,_,rfl,_,rfl,.mk (IsRule.keep (.of h.s) _ _ j) (O.more pN h.s) (λk=>by have:=m k;lia) λl ws y s2 z i al2=>?_⟩;have hb:(aX F r).length<=1001:=by
   unfold aX;split
   .exact T2 _
   .split
    .exact Vp rfl
    .rename_i x _ _ _ _;have:=m (r.2.2.1,x);rw[T3,Tp];lia
  refine⟨_,l,vs,ws,rfl,rfl,s2 _ _ e1,i,US (qC ?_),k _ b ((h.more bI s2).ext bI f (s2 _ _ e1) al2)⟩;rw[<- al.len,<- al2.len];lia
structure Hw(H1 H':Hp) (Dl:Addr) (G Z:bf->List bf) (LA:bf->Addr) (k:bf) (v:V):Prop where
 t:∃p b,v=.ref p/\H' p=some (.tup [.ref b,.ref (LA k)])/\H' b=some (.tup ((k2 k).map kV))
 n:H1 (LA k)=none
 d:LA k≠Dl
 l:∃ws,H' (LA k)=some (.lst ws)/\aV (IsSet H') (Z k) ws
 s:rZ (G k) (Z k)
theorem aV.imp{α b:Type}{R e:α->b->Prop}{xs:List α}{g:List b}(h:aV R xs g)(f:∀x∈xs,∀y,R x y->e x y):aV e xs g:=by
 induction h with
 |nil=>exact .nil
 |cons a _ i=>exact .cons (f _ Tw _ a) (i λx j=>f x (Tu _ j))
theorem aV.mem{α b:Type}{R:α->b->Prop}{xs:List α}{g:List b}(h:aV R xs g){x:α}(f:x∈xs):∃y,R x y:=by
 induction h with
 |nil=>exact(nomatch f)
 |cons a _ i=>exact(Tz.mp f).elim (λe=>⟨_,e▸a⟩) i
def Ks(X:Cx):TE:=eY (ai (am 0) (ai (jZ (zn X) (ai (jZ (zl X) (ai (am 1) aG)) aG)) aG))
theorem N0{Fin:Addr->List V->Hp->Prop}(h1:tN.length=2)(hg:∀cl C W M fp,PG (aS X scope (tN++[]) cl C W M fp) tg (dU X.K 2 (aQ (ay 0) (aQ (ay 1) dS))))(he:∀cl C W M fp,PE (aS X scope (tN++[]) cl C W M fp) elt (Ks X))
 (nd:ks2.Nodup) (hz:ks2.length<1000) (hf:H1 a2=some (.bj o u)) (hv:∀k∈ks2,∃vs,H1 (RA2 k)=some (.lst vs)/\aV (IsSet H1) (G k) vs) (gg:∀k,(G k).length<=300/\∀m:List bf,m.Nodup->(∀x∈m,x∈G k)->m.length<=63)
 (k:∀f vs H' LA Z,H1 f=none->Same H1 H'->H' f=some (.lst vs)->aV (Hw H1 H' f G Z LA) ks2 vs->(∀k∈ks2,∀N∈ks2,LA k=LA N->k=N)->Fin f vs H'):b9 X scope tg tN [] [] elt [] σ Fin (Mw a2 o u (ks2.map λk=>(k2 k,.ref (RA2 k)))) H1:=by
 intro f hD cl C W fp;refine⟨_,_,_,λi m s H'=>m=ks2.length-i/\i<=ks2.length/\∃LA Z,aV (Hw H1 H' f G Z LA) (ks2.take i) s/\Same H1 H'/\H' f=some (.lst s)/\∀k∈ks2.take i,∀N∈ks2.take i,LA k=LA N->k=N,hg cl C W _ fp,iz,he cl C W _ fp,⟨ks2.length,by simp,T2 _,λ_=>0,λ_=>[],.nil,ao hD,af,λk h=>(nomatch h)⟩,?_⟩;rintro i m s H' ⟨rfl,hi,LA,Z,A,sm,I,inj⟩;refine⟨I,?_⟩;by_cases S:i<ks2.length
 .right;have Y:ks2[i]?=some ks2[i]:=Ts S;refine⟨⟨sm _ _ hf,by rw[Tp];exact S⟩,λxv H'' ol y ho=>?_⟩;obtain⟨p,b,kk,v,hp,rfl,hb,rfl,e⟩:=y;rw[TL,Y]at e;generalize ks2[i]=J at Y e;cases e;rw[h1]at ho;obtain⟨u0,u1,rfl⟩ : ∃x y,ol=[x,y]:=by
   match ol,ho with
   |[x,y],_=>exact⟨x,y,rfl⟩
  have hki:J∈ks2:=T5 Y;have nki:J∉ks2.take i:=λz=>by
   obtain⟨j,P⟩:=TN.mp z;rw[List.getElem?_take]at P;split at P
   .rename_i hji;have:=(Wa (Tq.mp P).1 nd).mp (P.trans Y.symm);lia
   .cases P
  have s2:Same H' (upd H' p (.tup [.ref b,.ref (RA2 J)])):=ao hp;refine EX af ⟨λj P=>?_,mB ⟨_,rfl,?_⟩⟩
  .rw[h1]at P;obtain⟨j,rfl⟩:=UV P;rfl
  obtain⟨vs,hl,al⟩:=hv J hki;have sm2:=sm.trans s2;refine IC (X:=X) (.va rfl) (.inl (sm2 _ _ hl)) (al.mono (bI (.of sm2))) (gg J).1 (gg J).2 λR ms ws M s3' t hl' al' so=>⟨by show 2<=_;rw[Ud];lia,λp2 O=>?_⟩;have s4:Same M (upd M p2 (.tup [.ref b,.ref R])):=ao O;have L:=(s2.trans s3').trans s4;have hD4:=L _ _ I;have nl1:H1 R=none:=sm.free (s2.free t);have npD:p2≠f:=λz=>by rw[z]at O;rw[(s2.trans s3') _ _ I]at O;cases O
  have nlD:R≠f:=λz=>by rw[z]at t;rw[s2 _ _ I]at t;cases t
  refine⟨hD4,qC (by rw[<- A.len,Uz];lia),ks2.length-(i+1),by lia,rfl,S,nZ LA J R,nZ Z J ms,?_,?_,af,?_⟩
  .rw[Ui,Y];have up:∀{c u},H' c=some u->c≠f->upd (upd M p2 (.tup [.ref b,.ref R])) f (.lst (s++[.ref p2])) c=some u:=λe n=>by rw[ag n];exact L _ _ e
   have kt:KT (upd M p2 (.tup [.ref b,.ref R])) (upd (upd M p2 (.tup [.ref b,.ref R])) f (.lst (s++[.ref p2]))):=.upd hD4 λ_ z=>(nomatch z);refine(A.imp λk T v h=>?_).snoc ?_
   .have ne:k≠J:=λz=>nki (z▸T);obtain⟨⟨p,b',e,t1,t2⟩,n,dd,⟨ws',l1,l2⟩,so'⟩:=h;have U:KT H' _:=(KT.of L).trans kt;refine⟨⟨p,b',e,?_,U _ _ t2⟩,?_,?_,⟨ws',?_,?_⟩,?_⟩
    .rw[b_ ne];exact U _ _ t1
    .rw[b_ ne];exact n
    .rw[b_ ne];exact dd
    .rw[b_ ne];exact up l1 dd
    .rw[b_ ne];exact l2.mono (bI U)
    .rw[b_ ne];exact so'
   .refine⟨⟨p2,b,rfl,?_,kt _ _ (L _ _ hb)⟩,?_,?_,⟨ws,?_,?_⟩,?_⟩
    .rw[db,ag npD,af]
    .rw[db];exact nl1
    .rw[db];exact nlD
    .rw[db,ag nlD];exact s4 _ _ hl'
    .rw[db];exact al'.mono (bI ((KT.of s4).trans kt))
    .rw[db];exact so
  .intro c w e;rw[ag (aj e hD)];exact L _ _ (sm _ _ e)
  .have old:∀k∈ks2.take i,LA k≠R:=λk T z=>by obtain⟨v,h⟩:=A.mem T;obtain⟨ws',l1,_⟩:=h.l;rw[z]at l1;rw[s2 _ _ l1]at t;cases t
   have mm:∀k,k∈ks2.take (i+1)->k∈ks2.take i\/k=J:=λk h=>by rw[Ui,Y]at h;exact(T4.mp h).imp id λh=>TV.mp h
   have ne:∀{k},k∈ks2.take i->k≠J:=λh z=>nki (z▸h);intro k h N h' e;rcases mm k h with g|g<;>rcases mm N h' with g'|g'
   .rw[b_ (ne g),b_ (ne g')]at e;exact inj k g N g' e
   .rw[g',b_ (ne g),db]at e;exact(old k g e).elim
   .rw[g,b_ (ne g'),db]at e;exact(old N g' e.symm).elim
   .rw[g,g']
 .left;have ei:i=ks2.length:=by lia
  subst ei;rw[U4]at A inj;exact⟨⟨sm _ _ hf,by rw[Tp];exact To _⟩,k f s H' LA Z hD sm I A inj⟩
theorem Dk:∀(ks b:List bf),(b++ks).Nodup->fP (b.map λk=>(k2 k,V.ref (LA k))) (ks.map λk=>(k2 k,V.ref (LA k)))=(b++ks).map λk=>(k2 k,V.ref (LA k)):=by
 intro ks;induction ks with
 |nil=>intro b _;rw[UE];rfl
 |cons k ks e=>intro b nd;have nk:k∉b:=λz=>(UZ.mp nd).2.2 k z k Tw rfl;have:=e (b++[k]) (by rw[U6];exact nd);rw[U6,Ua]at this;show fP (bW _ (k2 k) (.ref (LA k))) _=_;rw[jq _ (by rw[iE,TC nk])];exact this
def Dm:List V->Hp->VK->Prop:=λxs H Q=>∃l vs kvs,xs=[.ref l]/\Rd H l (.lst vs)/\lu H vs kvs/\∀p,H p=none->Q (.ref p) (upd H p (.dT (fP [] kvs)))
def xS(hc:X.calm=true)(b:X.A.units+64<cLine):CallR X (.type "dict") Dm:=oC hc b
structure ME(H H':Hp) (d:Addr) (RL:List Sp.Rule) (L Z:bf->List bf) (LA:bf->Addr):Prop where
 g:Gr IsSet H H' d (bz RL) Z LA
 s:∀k,rZ (L k) (Z k)
def MC(L:bf->List bf):Prop:=∀k,(L k).length<=300/\∀m:List bf,m.Nodup->(∀x∈m,x∈L k)->m.length<=63
inductive ER:Sp
 |mk {B H:Hp} {RL:List Sp.Rule} {p l a:Addr} {ws:List V} {ks:List bf} {F:bf->List Int} {RA:bf->Addr} {Q:VK} {E:XK} (h:dR H RL p l ws) (O:Gr GJ B H a ks F RA) (hz:∀k,(F k).length<1000) (hl:RL.length<1000) (gg:MC (cE (aX F) RL)) (k:∀d Z LA H',ME H H' d RL (cE (aX F) RL) Z LA->Q (.ref d) H'):ER [.ref p,.ref a] H Q E
def Dn(h:ER vs H Q E):vs.length=2:=by cases h;rfl
def N1(X:Cx)(scope:Scope)(tg elt:Expr)(tN:List Str):TS:=jc (jZ Dm (ai (gw X scope tg tN [] [] elt [] (FW X (am 2))) aG))
def S4(X:Cx)(scope:Scope)(tg elt:Expr)(tN:List Str):TS:=bm (dg jv (ay 2)) (bm (jd (dk X.K (tI X.K 0 2)) (ay 3) (NZ X.K)) (N1 X scope tg elt tN))
def rS:(cE f (RL.take i) k).length<=(cE f RL k).length:=by
 have:cE f RL k=cE f (RL.take i) k++cE f (RL.drop i) k:=by unfold cE;rw[<- Wo,<- VG,Vn]
 rw[this,TU];lia
theorem Do(al:aV (Hw H1 H' Dl G Z LA) ks vs):lu H' vs (ks.map λk=>(k2 k,V.ref (LA k))):=by
 induction al with
 |nil=>exact .nil
 |cons h _ f=>obtain⟨p,b,e,g,i⟩:=h.t;exact .cons ⟨p,b,e,g,i⟩ f
def S5(h1:tN.length=2)(t:∀cl C f i fp,PG (aS X scope (tN++[]) cl C f i fp) tg (dU X.K 2 (aQ (ay 0) (aQ (ay 1) dS))))(w:∀cl C f i fp,PE (aS X scope (tN++[]) cl C f i fp) elt (Ks X))(g:Gr IsSet B H a2 (bz RL) G RA2)(L:RL.length<1000)(gg:MC G)(x:σ[2]?=some (some (.ref a2)))
 (k:∀d Z LA H',ME B H' d RL G Z LA->D.rt (.ref d) H'):N1 X scope tg elt tN D σ H:=by
 obtain⟨nd,ln,_⟩:=f6 RL;refine⟨_,x,a2,_,_,rfl,.inl rfl,.inr ⟨g.r,λo M=>?_⟩⟩;have kt:KT H (upd H a2 (.bj o (.dT ((bz RL).map λk=>(k2 k,V.ref (RA2 k)))))):=.upd g.r λ_ z=>(nomatch z);refine N0 h1 t w nd (by lia) af (λk b=>?_) gg λy vs H' LA Z hD sm j al inj=>?_
 .obtain⟨_,vs,e,al⟩:=g.v k b;exact⟨vs,by rw[ag λz=>by rw[z,g.r]at e;cases e];exact e,al.mono (bI kt)⟩
 .refine⟨y,vs,(bz RL).map λk=>(k2 k,.ref (LA k)),rfl,.inl j,?_,λd hd=>?_⟩
  .exact Do al
  .have s1:Same H' (upd H' d (.dT ((bz RL).map λk=>(k2 k,.ref (LA k))))):=ao hd;have m:Same B H':=λc u e=>sm _ _ (by rw[ag λz=>by rw[z,g.na]at e;cases e];exact g.s _ _ e);have e0:=Dk (LA:=LA) (bz RL) [] nd;rw[Wp,List.nil_append]at e0;rw[e0];refine k d (λk=>if k∈bz RL then Z k else []) LA _ ⟨⟨m.trans s1,af,m.free hd,λk b=>?_,inj,λk b=>TC b⟩,λk=>?_⟩
   .obtain⟨v,h⟩:=al.mem b;obtain⟨ws,A,I⟩:=h.l;rw[Tt b];have J:B (LA k)=none:=by
     cases e:B (LA k)with
     |none=>rfl
     |some u=>have:=h.n;rw[ag λz=>by rw[z,g.na]at e;cases e]at this;rw[g.s _ _ e]at this;cases this
    exact⟨J,ws,s1 _ _ A,I.mono (bI (.of s1))⟩
   .by_cases b:k∈bz RL
    .obtain⟨v,h⟩:=al.mem b;rw[Tt b];exact h.s
    .rw[TC b,g.z k b];exact⟨λ_=>Iff.rfl,.nil⟩
theorem GN(h1:tN.length=2)(m:∀cl C b e fp,PG (aS X scope (tN++[]) cl C b e fp) tg (dU X.K 2 (aQ (ay 0) (aQ (ay 1) dS)))) (n:∀cl C b e fp,PE (aS X scope (tN++[]) cl C b e fp) elt (Ks X)) (h:ER vs H Q E):S4 X scope tg elt tN {nx:=λ_ H'=>Q .bp H',rt:=Q} (bO ["house","behind","leading","rule"] vs) H:=by
 obtain @⟨B,H,RL,p,l,a,ws,ks,F,RA,Q,E,h,O,hz,hl,gg,k⟩:=h;intro a2 ha;have s1:Same H (upd H a2 (.dT [])):=ao ha;obtain⟨A,I,o⟩:=(h.same s1).tup;have t:Gr IsSet H (upd H a2 (.dT [])) a2 [] (cE (aX F) []) (λ_=>0):=⟨s1,af,ha,λk h=>(nomatch h),λk h=>(nomatch h),λk h=>rfl⟩;refine j9 (Reads.ix (.va (i:=0) rfl) o (v:=.ref l) rfl _ ⟨l,rfl,⟨ws,.inl (bh s1 h.lst)⟩,?_⟩);refine jn (K:=X.K) (a:=l) (xs:=ws) (λi σ' H'=>(∃x,σ'=[some (.ref p),some (.ref a),some (.ref a2),x])/\∃RA2,Gr IsSet H H' a2 (bz (RL.take i)) (cE (aX F) (RL.take i)) RA2) ⟨⟨none,rfl⟩,_,t⟩ (λi σ' H' _ q=>?_) (λi v σ' H' u q=>?_) λσ' H' q=>?_
 .obtain⟨_,RA2,g⟩:=q;exact .inl (bh g.s h.lst)
 .obtain⟨⟨x,rfl⟩,RA2,g⟩:=q;obtain⟨r,w,y⟩:=h.its.get u;obtain⟨c,q,rfl,hc,z⟩:=y;have J:=(f6 (RL.take i)).2.1;have L:=VJ i RL;refine S3 (x0:=some (.ref p)) g O ⟨c,q,rfl,hc,z⟩ hz (by lia) (by have:=(gg (hd r)).1;have:=rS (f:=aX F) (RL:=RL) (i:=i) (k:=hd r);lia) rfl λM j g2=>⟨⟨_,rfl⟩,j,?_⟩;rw[<- iF,<- k7]at g2;rw[Ui,w];exact g2
 .obtain⟨⟨x,rfl⟩,RA2,g⟩:=q;rw[<- h.its.len,U4]at g;exact S5 h1 m n g hl gg rfl k
end
section
inductive EN(mg:Str->Option Xr) (Fp:List D->Res R):Sp
 |mk {H:Hp} {RL:List Sp.Rule} {p l:Addr} {ws:List V} {Q:VK} {E:XK} {hD:D} {Ma:Addr->Prop} {As:List Sp.Arr} {ds:List D} (h:dR H RL p l ws) (is:Is H Ma hD (.ref p)) (hF:Fp [hD]=.ok (.jj (.i9 (As.map λa=>.inr (ak a)) ds))) (hz:As.length<1000) (hl:RL.length<1000) (gg:MC (cE (aX (ba As)) RL)) (k:∀d Z LA H',ME H H' d RL (cE (aX (ba As)) RL) Z LA->Q (.ref d) H'):EN mg Fp [.ref p] H Q E
def Dp(h:EN mg Fp vs H Q E):vs.length=1:=by cases h;rfl
def S6(mg:Str->Option Xr)(Fp:List D->Res R):TS:=jc (ck ER [] E0 (ai (am 0) (ai (ck (EL mg Fp) [] E0 (ai (am 0) aG)) aG)))
def ME.base(h:ME H H' d RL L Z LA)(s:Same B H):ME B H' d RL L Z LA:=⟨⟨s.trans h.g.s,h.g.r,s.free h.g.na,λk c=>let ⟨a,b⟩:=h.g.v k c;⟨s.free a,b⟩,h.g.i,h.g.z⟩,h.s⟩
def GO(h:EN mg Fp vs H Q E):S6 mg Fp {nx:=λ_ H'=>Q .bp H',rt:=Q} (bO ["house"] vs) H:=by obtain @⟨H,RL,p,l,ws,Q,E,hD,Ma,As,ds,h,is,hF,hz,hl,gg,k⟩:=h;exact⟨_,rfl,_,rfl,.mk is (by lia) hF λa ks RA b O=>.mk (h.same O.s) O (λk=>by have:=kZ As k;lia) hl gg λd Z LA H' g=>k d Z LA H' (g.base O.s)⟩
end
end L4
namespace L2
open PySem PySem.Spec PySem.Calls PyProof.Rows ST
section
def RawD.at(m:RawD h d es ep)(k:∀o,h.get? d=some o->h'.get? d=some o):RawD h' d es ep:=let ⟨o,e,c⟩:=m;⟨o,k o e,c⟩
def AR(hh:A.handled=none)(hne:d≠I):Walks prog w A I [I,d] [I] es.size (λi v=>∃e,es[i]?=some e/\v=e.key) (λi h=>h.IsKeyIter I d i es.size ep/\RawD h d es ep) where
 sub:=λb hb=>by simp at hb;simp[hb]
 frame:=λ_ _ _ st hk=>⟨st.1.at λo e=>hk I (by simp) o e,st.2.at λo e=>hk d (by simp) o e⟩
 item:=λi s Q E hi st hQ=>iD st.1 st.2 (λe he h' st' sb=>hQ e.key h' s.toks ⟨e,he,rfl⟩ ⟨st',st.2.at λo x=>(sb.2 d hne).trans x⟩ λb o hb x=>(sb.2 b (λh=>hb (by simp[h]))).trans x) λz=>by rw[VI hi]at z;cases z
 done:=λs Q E st hQ=>iD st.1 st.2 (λe he=>by simp at he) λ_=>⟨hh,λh' eb=>hQ h' s.toks λb o hb x=>eb b o (λh=>hb (by simp[h])) x⟩
 self:=λ_ _ _ _ st hQ=>wpAny_pyIter_keyiter st.1 hQ
def zo(lo:(d==sysModules)=false):PySem.W.KdlSrc prog w "dict" d d es.size (λi v=>∃e,es[i]?=some e/\v=e.key) (λh=>RawD h d es ep) where
 type:=λ_ hm=>hm.ty
 there:=λ_ hm=>let ⟨_,e,_⟩:=hm;⟨TF e,TF e⟩
 keep:=λ_ _ hm hk=>hm.at λo e=>hk d (.inl rfl) o e
 notList:=by decide
 notTuple:=by decide
 hint:=λ_ _ _ _ hm hq=>PySem.W.kdl_hint_dict hm.ty hq
 iter:=λ_ _ hh hm=>⟨_,_,(λ_ _ hq=>pM lo hm hq),AR hh (let ⟨_,e,_⟩:=hm;T1 (TF e)),⟨⟨_,Tv _ rfl,rfl,rfl⟩,hm.at λo e=>Tn _ e⟩⟩
def tR:MeetsIn prog w (Builtin.«dict.clear» ⟨[.ref d],[]⟩) (λ_ R s=>RawD s.heap d es ep/\es.size<=sizeLine/\∀h',(∃ep,RawD h' d #[] ep)->Heap.SameBut d s.heap h'->R (.ok (.ret .none)) {s with heap:=h'}):=
 .of_wp λA R s ⟨f,e,h⟩=>by
  obtain⟨o,c,hc,a⟩:=id f;unfold Builtin.«dict.clear»;refine KE ?_;unfold Builtin.Dict.noArgs;refine KE (Vm f.ty ?_);show wpAny _ _ (pure d) _ _ s;refine Tl ?_;refine KE (Vi c a ?_);refine KE ?_;unfold bearsInstanceDictMark;refine KE (wpAny_load c (Tl ?_));refine KE (WS (hz:=e) c a ?_);have b:∃ep,RawD (s.heap.update d (Obj.mapDictKeys λ_=>#[])) d #[] ep:=⟨ep+1,_,UK _ c (W3 (Vs a _)),hc.mapDictKeys _,Vs a _⟩;split
  .exact KE (wpAny_letGo (Tl ⟨.none,rfl,h _ b (Uk ..)⟩))
  .exact KE (Tl (Tl ⟨.none,rfl,h _ b (Uk ..)⟩))
end
section
def xT(ok:HOk P w H h)(e:Rd H d (.dT kvs)):kvs.length<=sizeLine/\(d==sysModules)=false/\(kvs.map (·.1)).Nodup/\∃es ep,RawD h d es ep/\es.size=kvs.length/\∀(i:Nat) p,kvs[i]?=some p->∃x b,es[i]?=some x/\x.key=.ref b/\H b=some (.tup (p.1.map kV)):=by
 obtain⟨z,hd,xs,a,o,en,ep,k,hex,c,f,_,nd⟩:=js ok e;have g:=U7 a;have q:kvs.map (·.1)=xs.map (·.1):=by
  apply VM
  intro i;rw[TL,TL];cases l:kvs[i]? with
  |none=>rw[UX (by rw[<- g];exact List.getElem?_eq_none_iff.mp l)];rfl
  |some p=>
   have m:i<xs.length:=by rw[<- g];exact(Tq.mp l).1
   obtain⟨e1,_⟩:=a.at i _ _ l (Ts m);rw[Ts m];exact U1 some e1
 refine⟨z,hd,by rw[q];exact nd,en,ep,⟨o,k,hex,c⟩,by rw[Ww f,g],λi p n=>?_⟩;have j:i<xs.length:=by rw[<- g];exact(Tq.mp n).1
 have j:xs[i]?=some xs[i]:=by simp[j]
 obtain⟨_,hb,r⟩:=a.at i _ _ n j;exact⟨_,_,by rw[entry_at f,j];rfl,rfl,hb⟩
def Dq:List V->Hp->VK->Prop:=λxs H Q=>∃d kvs,xs=[.ref d]/\(Rd H d (.dT kvs)\/(Rd H d (.dK [])/\kvs=[]))/\∀l (bs:List Addr),H l=none->bs.length=kvs.length->(∀(i:Nat) p b,kvs[i]?=some p->bs[i]?=some b->H b=some (.tup (p.1.map kV)))->Q (.ref l) (upd H l (.lst (bs.map V.ref)))
def Ds:Option Xr->Addr
 |some (Value.ref b)=>b
 |_=>0
def rT{H:Hp}{kvs:List (List bv×V)}{es:Array DictEntry}{a:Array Xr}(o:es.size=kvs.length)(j:∀(i:Nat) p,kvs[i]?=some p->∃x b,es[i]?=some x/\x.key=.ref b/\H b=some (.tup (p.1.map kV)))(it:ItemsOf (λi v=>∃e,es[i]?=some e/\v=e.key) a es.size):∃bs:List Addr,a.toList=bs.map Value.ref/\bs.length=kvs.length/\∀(i:Nat) p b,kvs[i]?=some p->bs[i]?=some b->H b=some (.tup (p.1.map kV)):=by
 obtain⟨q,k⟩:=it;have key:∀i,i<kvs.length->∃b,a[i]?=some (.ref b)/\∀p,kvs[i]?=some p->H b=some (.tup (p.1.map kV)):=λi c=>by
  have ha:i<a.size:=by lia
  obtain⟨e,e1,e2⟩:=k i a[i] (VI ha);obtain⟨x,b,h,l,m⟩:=j i kvs[i] (Ts c);rw[e1]at h;cases h;refine⟨b,by rw[VI ha,e2,l],λp d=>?_⟩;rw[Ts c]at d;cases d;exact m
 refine⟨(List.range kvs.length).map λi=>Ds a[i]?,?_,by simp,λi p b d hb=>?_⟩
 .apply VM
  intro i;rw[T7,TL,Uc];by_cases c:i<kvs.length
  .obtain⟨b,hb,_⟩:=key i c;rw[hb,W4 c];show _=some (Value.ref (Ds a[i]?));rw[hb];rfl
  .rw[WB (by lia),UX (by simp;lia)];rfl
 .have c:=(Tq.mp d).1;rw[TL,W4 c]at hb;obtain⟨n,g,f⟩:=key i c;have:n=b:=by have:Ds a[i]?=b:=Um hb;rw[g]at this;exact this
  subst this;exact f p d
theorem pP:∀bs:List Addr,Vals (bs.map V.ref) (bs.map Value.ref)
 |[]=>.nil
 |_::bs=>.cons rfl (pP bs)
def pQ(hc:X.calm=true):CallR X (.type "list") Dq:=by
 intro ac s σ H xs us Q I r h;obtain⟨d,kvs,rfl,a,q⟩:=h;rcases a with a|⟨a,rfl⟩
 case inr=>exact xg hc ac s σ H _ us Q I r ⟨d,[],_,rfl,.inl rfl,a,T2 _,λl c=>q l [] c rfl λi p b e=>by simp at e⟩
 obtain⟨w,rfl,g⟩:=fK r;cases g;obtain⟨z,hd,_,es,ep,m,c,j⟩:=xT I.aW a;refine PySem.W.kdl_call (zo (es:=es) (ep:=ep) hd) (I.ok.hd hc) m (by rw[c];exact z) λh' tk k f kp e it=>?_;obtain⟨bs,e1,e2,e3⟩:=rT c j it;have e:h'.get? s.heap.objs.size=some { cls:=.type "list",dict:=none,data:=.seq (bs.map Value.ref).toArray f,slots:=#[] }:=by rw[<- e1,Array.toArray_toList];exact e
 exact⟨.ref s.heap.objs.size,_,I.laid (t':=tk) kp (To _) (show ObjOk X.prog X.w _ h' _ (.lst (bs.map V.ref))from⟨by rw[Tp,e2];exact z,_,f,pP bs,e⟩),rfl,q _ bs (I.aW.fresh (To _)) e2 e3⟩
def IE:V->List V->Hp->VK->Prop:=λx vs H Q=>∃l kvs,x=.ref l/\vs=[]/\H l=some (.dT kvs)/\Q .bp (upd H l (.dT []))
def GP:HZ X "dict.clear" IE:=by intro ac s σ H x vs v us Q I d e h;obtain⟨l,kvs,rfl,rfl,c,q⟩:=h;cases d;have a:=e.zero;subst a;obtain⟨z,hd,_,es,ep,m,f,_⟩:=xT I.aW (.inl c);refine VP F.slot_dict_clear m.ty F.entry_dict_clear (F.args_dict_clear_1 _) tR ⟨m,by rw[f];exact z,λh' m' g=>?_⟩;obtain⟨b,o,e1,e2,e3⟩:=m';exact⟨.bp,_,j3 (ob:=.dT []) (t':=s.toks) I (by rw[c];exact True.intro) g ⟨o,e1⟩ ⟨T2 _,hd,[],.nil,o,#[],b,e1,e2,e3,rfl,Uq⟩,rfl,q⟩
def Dt:List V->Hp->VK->Prop:=λxs H Q=>∃d kvs,∃ks:List (List Int),xs=[.ref d]/\Rd H d (.dT kvs)/\kvs.map (·.1)=ks.map iK/\(∀k∈ks,k≠[])/\ks.length<=63/\
 ∀(l:Addr)(a:List kA),H l=none->(∀y∈a,H y.2=some (.tup ((iK y.1).map kV)))->(∀k,k∈a.map (·.1)↔k∈ks)->a.length=ks.length->a.Pairwise (λx y=>d6 x.1 y.1=true)->Q (.ref l) (upd H l (.lst (a.map λy=>.ref y.2)))
def AS(hc:X.calm=true):CallR X (.builtin "sorted") Dt:=by
 intro ac s σ H xs us Q I r h;obtain⟨d,kvs,ks,rfl,u,c,v,hz,q⟩:=h;obtain⟨w,rfl,J⟩:=fK r;cases J;obtain⟨z,hd,nd,es,ep,m,E,K⟩:=xT I.aW u;have A:kvs.length=ks.length:=by have:=U1 List.length c;simpa using this
 refine Wh kind_sorted plain_sorted entry_sorted (args_sorted1 _) ?_;unfold Builtin.«sorted»;refine KE (m:=checkCount "sorted" 1 1 _) (Tl (KE (uW (zo (es:=es) (ep:=ep) hd) (I.ok.hd hc) m (by rw[E];exact z) λh1 tk1 B g1 k1 it=>?_)));obtain⟨bs,e1,e2,e3⟩:=rT E K it;have L:B.toList=valsT (ks.zip bs):=by
  rw[e1];unfold valsT;have:(ks.zip bs).map (·.2)=bs:=List.map_snd_zip (by lia)
  conv=>lhs;rw[<- this]
  rw[T7];rfl
 have n:(ks.zip bs).map (·.1)=ks:=List.map_fst_zip (by lia);have at':∀x∈ks.zip bs,H x.2=some (.tup ((iK x.1).map kV)):=λx f=>by
  obtain⟨i,M⟩:=TN.mp f;obtain⟨F,N⟩:=We.mp M;have g:i<kvs.length:=by rw[A];exact(Tq.mp F).1
  have:=e3 i kvs[i] x.2 (Ts g) N;have h2:(kvs.map (·.1))[i]?=some (iK x.1):=by rw[c,TL,F];rfl
  rw[TL,Ts g]at h2;rw[<- Um h2];exact this
 have C:ks.Nodup:=by rw[c]at nd;exact List.Pairwise.of_map iK (λ_ _ h e=>h (by rw[e])) nd
 rw[L];have j:(ks.zip bs).length=ks.length:=by have:=U1 List.length n;simpa using this
 refine KE (WY ?_ (by show(valsT _).length<=_;simp only[valsT,Tp];rw[j,Ud];lia));have l:(h1.push (seqObj "list" (valsT (ks.zip bs)).toArray 0)).get? h1.objs.size=some (seqObj "list" (valsT (ks.zip bs)).toArray 0):=Tv _ rfl;have G:∀b o,s.heap.get? b=some o->(h1.push (seqObj "list" (valsT (ks.zip bs)).toArray 0)).get? b=some o:=λb o e=>Tn _ (k1 b o e);have ge:s.heap.objs.size<=h1.objs.size:=US g1;refine KE (UC (Ur slot_list_sort ⟨_,l,rfl⟩ entry_list_sort ?body (args_list_sort _)))
 case body=>
  refine rg (s:={ s with heap:=h1.push (seqObj "list" (valsT (ks.zip bs)).toArray 0),toks:=tk1 }) l ⟨λx f=>j5 (d4 I.aW (at' x f)) G,λx f=>v _ (by rw[<- n];exact TH.mpr ⟨x,f,rfl⟩),by rw[n];exact C⟩ (by lia) λp h2 c2 t O D k2=>⟨_,rfl,?_⟩;have P:H h1.objs.size=none:=I.aW.fresh ge;refine Tl ⟨_,rfl,.ref h1.objs.size,_,I.laid (a:=h1.objs.size) (o:=.lst (p.map λy=>.ref y.2)) (t':=tk1) (λb o e=>k2 b o (λz=>?_) (G b o e)) ge ?_,rfl,q h1.objs.size p P (λy R=>at' y (t.mem_iff.mp R)) (λk=>?_) (t.length_eq.trans j) O⟩
  .subst z;exact absurd (TF e) (Nat.not_lt.mpr ge)
  .refine⟨by rw[Tp,Ud,t.length_eq];lia,valsT p,c2,?_,D⟩;have:=pP (p.map (·.2));rw[T7,T7]at this;exact this
  .rw[(t.map (·.1)).mem_iff,n]
end
end L2
namespace L4
open PySem PySem.Spec PyProof.Rows L2 L3
section
variable{X:Cx}{scope:Scope}{tg elt:Expr}{ifs:List Expr}{tN capN:List Str}{caps:List Nat}{σ:L2.St}{H1:Hp}{Fin:Addr->List V->Hp->Prop}{J:L2.It}{n:Nat}{gt:TG}{tt:TT}{te:TE}
def tS(u:∀cl C e f fp,PG (aS X scope (tN++capN) cl C e f fp) tg gt)(v:∀cl C e f fp,Im (aS X scope (tN++capN) cl C e f fp) ifs tt)(w:∀cl C e f fp,PE (aS X scope (tN++capN) cl C e f fp) elt te)(I:Addr->Nat->List V->Hp->Prop)(z:∀d,H1 d=none->I d 0 [] (upd H1 d (.lst [])))(hD:∀{d i c H},I d i c H->H d=some (.lst c))
 (l:∀d i c H,I d i c H->i<n->J.go i H) (q:∀d c H,I d n c H->J.stop n H)
 (hb:∀d i c H x H' o,i<n->I d i c H->J.A_ i H x H'->o.length=tN.length->gt x (o++iu σ caps) H' λg B=>(∀j:Nat,tN.length<=j->g[j]?=(o++iu σ caps)[j]?)/\tt g B λb f=>if b=true then te g f λy t=>t d=some (.lst c)/\c.length<sizeLine/\I d (i+1) (c++[y]) (upd t d (.lst (c++[y])))else I d (i+1) c f)
 (r:∀d c H,H1 d=none->I d n c H->Fin d c H):b9 X scope tg tN capN caps elt ifs σ Fin J H1:=by
 intro d k cl C e fp;refine⟨_,_,_,λi m c H'=>m=n-i/\i<=n/\I d i c H',u cl C e _ fp,v cl C e _ fp,w cl C e _ fp,⟨n,by simp,T2 _,z d k⟩,?_⟩;rintro i m c H' ⟨rfl,G,p⟩;refine⟨hD p,?_⟩;by_cases h:i<n
 .refine .inr ⟨l d i c H' p h,λD s o y E=>?_⟩;have:=hb d i c H' D s o h p y E;have e2:∀{A:Prop},(∃m',m'<n-i/\(m'=n-(i+1)/\i+1<=n/\A))↔A:=⟨λ⟨_,_,_,_,a⟩=>a,λa=>⟨_,by lia,rfl,h,a⟩⟩;simp only[e2];exact this
 .have F:i=n:=by lia
  subst F;exact .inl ⟨q d c H' p,r d c H' k p⟩
end
section
variable{X:Cx}{K:Xp}{B H H':Hp}{a q p c lg:Addr}{ks:List bf}{L:bf->List bf}{RA:bf->Addr}{D:Ends}{σ:L2.St}{k:bf}{vs ws wg:List V}{zs us:List bf}{Q:VK}{E:XK}{r:Sp.Rule}{As:List Sp.Arr}
theorem S7{Q:L2.St->Hp->Prop}(d:H b=some (.tup [x,y,z,u]))(k:Q ((((σ.set i (some x)).set j (some y)).set l (some z)).set m (some u)) H):dU K 4 (aQ (ay i) (aQ (ay j) (aQ (ay l) (aQ (ay m) dS)))) (.ref b) σ H Q:=⟨b,_,rfl,SqT.of d,rfl,_,_,rfl,_,_,rfl,_,_,rfl,_,_,rfl,rfl,k⟩
structure Hv(B H:Hp) (ks:List bf) (RA:bf->Addr) (k:bf) (p:Addr) (zs:List bf):Prop where
 n:B p=none
 e:∀j∈ks,j≠k->RA j≠p
 l:∃vs,H p=some (.lst vs)/\aV (IsSet H) zs vs
theorem GQ(RA:bf->Addr)(ks:List bf)(k:bf)(p:Addr):bW (ks.map λk=>(k2 k,V.ref (RA k))) (k2 k) (.ref p)=(gn ks k).map λj=>(k2 j,V.ref (nZ RA k p j)):=by
 unfold gn;by_cases h:k∈ks
 .rw[Tt h];unfold bW;rw[Tt (by rw[List.any_map,Xj];exact⟨k,h,TZ rfl⟩),T7];refine UP λj _=>?_;show(if k2 j=k2 k then(k2 j,V.ref p)else(k2 j,V.ref (RA j)))=_;by_cases e:j=k
  .rw[e,Tt rfl,db]
  .rw[TC λz=>e (mQ _ _ z),b_ e]
 .rw[TC h,jq _ (by rw[iE,TC h]),Ua];congr 1
  .exact UP λj b=>by rw[b_ λz:j=k=>h (z▸b)]
  .show _=[(k2 k,V.ref (nZ RA k p k))];rw[db]
theorem Gr.put(h:Gr IsSet B H a ks L RA)(v:Hv B H ks RA k p zs):Gr IsSet B (upd H a (.dT (bW (ks.map λk=>(k2 k,V.ref (RA k))) (k2 k) (.ref p)))) a (gn ks k) (nZ L k zs) (nZ RA k p):=by
 rw[GQ];have er:upd H a (.dT ((gn ks k).map λj=>(k2 j,V.ref (nZ RA k p j)))) a=some (.dT ((gn ks k).map λj=>(k2 j,V.ref (nZ RA k p j)))):=af;generalize o:(gn ks k).map (λj=>(k2 j,V.ref (nZ RA k p j)))=kvs at er;have kt:KT H (upd H a (.dT kvs)):=.upd h.r λ_ z=>(nomatch z);have nl:∀{b w},H b=some (.lst w)->b≠a:=λe z=>by rw[z,h.r]at e;cases e
 refine⟨λb u e=>?_,?_,h.na,λj g=>?_,λj g m l e=>?_,λj g=>?_⟩
 .rw[ag λz=>by rw[z,h.na]at e;cases e];exact h.s _ _ e
 .rw[o];exact er
 .obtain⟨t,v2,vs,n,x⟩:=v;by_cases f:j=k
  .rw[f,db,db];exact⟨t,vs,by rw[ag (nl n)];exact n,x.mono (bI kt)⟩
  .rw[b_ f,b_ f];obtain⟨y,ws,e1,al⟩:=h.v j ((addK_mem.mp g).resolve_right f);exact⟨y,ws,by rw[ag (nl e1)];exact e1,al.mono (bI kt)⟩
 .by_cases f:j=k<;>by_cases d:m=k
  .rw[f,d]
  .rw[f,db,b_ d]at e;exact(v.e m ((addK_mem.mp l).resolve_right d) d e.symm).elim
  .rw[d,db,b_ f]at e;exact(v.e j ((addK_mem.mp g).resolve_right f) f e).elim
  .rw[b_ f,b_ d]at e;exact h.i j ((addK_mem.mp g).resolve_right f) m ((addK_mem.mp l).resolve_right d) e
 .have f:j≠k:=λz=>g (addK_mem.mpr (.inr z));rw[b_ f];exact h.z j λz=>g (addK_mem.mpr (.inl z))
theorem Hv.more(v:Hv B H ks RA k p zs)(s:Same H H'):Hv B H' ks RA k p zs:=let ⟨vs,e,al⟩:=v.l;⟨v.n,v.e,vs,s _ _ e,al.mono (bI (.of s))⟩
def Gr.fresh(h:Gr IsSet B H a ks L RA)(b:H q=none):B q=none/\∀j∈ks,j≠k->RA j≠q:=⟨h.s.free b,λj d _ z=>by obtain⟨_,_,e,_⟩:=h.v j d;rw[z,b]at e;cases e⟩
theorem Hv.cat(h:Gr IsSet B H a ks L RA)(v:Hv B H ks RA k p zs)(ha:Reads ta σ H (.ref p))(hz:zs.length+us.length<1000)(hb:∀Q:VK,(∀l ws H',Same H H'->H' l=some (.lst ws)->aV (IsSet H') us ws->Q (.ref l) H')->tb σ H Q)(f:∀b H',Gr IsSet B H' a ks L RA->Hv B H' ks RA k b (zs++us)->Same H H'->Q (.ref b) H'):cY BH ta tb σ H Q:=by obtain⟨n,v2,vs,g,d⟩:=v;refine ha _ (hb _ λl ws s s1 i al=>⟨p,l,vs,ws,rfl,rfl,s1 _ _ g,i,US (qC (by rw[<- d.len,<- al.len];lia)),λb e=>?_⟩);have s2:=ao (o:=.lst (vs++ws)) e;have h1:=h.more bI s1;obtain⟨j,m⟩:=h1.fresh (k:=k) e;exact f b _ (h1.more bI s2) ⟨j,m,_,af,(d.mono (bI (.of (s1.trans s2)))).app (al.mono (bI (.of s2)))⟩ (s1.trans s2)
def N2(K:Xp):TT:=Ft (cS (cY zL (tI K 0 0) (am 1))) (cS (cY zL (tI K 0 1) (tI K 2 0)))
def N3(K:Xp):TE:=eY (ai (tI K 0 2) (ai (tI K 2 1) aG))
def GR(As:List Sp.Arr)(to x y:Int):List bf:=(ba As (to,x)).map λo=>(o,y)
theorem Du(As:List Sp.Arr)(t:Sp.Arr)(to x y:Int):GR (As++[t]) to x y=GR As to x y++if(t.1,t.2.1)=(to,x)then [(t.2.2,y)]else []:=by
 unfold GR ba;rw[VG,Ua,Ua];congr 1;by_cases h:(t.1,t.2.1)=(to,x)
 .rw[Tt h,VC,Tt (TZ h)];rfl
 .rw[TC h,VC,TC (by simpa using h)];rfl
theorem Kt{Fin:Addr->List V->Hp->Prop}(h1:tN.length=1)(m:iu σ caps=[some (.int to),some (.ref q)])(R:∀cl C s w fp,PG (aS X scope (tN++capN) cl C s w fp) tg (ay 0))(S:∀cl C s w fp,Im (aS X scope (tN++capN) cl C s w fp) [e1] (N2 X.K))(T:∀cl C s w fp,PE (aS X scope (tN++capN) cl C s w fp) elt (N3 X.K))
 (G:Rd H1 lg (.lst wg)) (al:aV (IsArr H1) As wg) (F:H1 q=some (.tup ((x::y::wq).map V.int))) (hz:As.length<1000) (k:∀d vs H',Same H1 H'->H' d=some (.lst vs)->aV (IsSet H') (GR As to x y) vs->Fin d vs H'):b9 X scope tg tN capN caps elt [e1] σ Fin (yp X.K lg) H1:=by
 have ln:=al.len;refine tS (n:=As.length) R S T (λd i b H'=>Same H1 H'/\H' d=some (.lst b)/\aV (IsSet H') (GR (As.take i) to x y) b/\H1 d=none) (λd hD=>⟨ao hD,af,.nil,hD⟩) (λh=>h.2.1) (λd i b H' ⟨sm,_⟩ U=>?_) (λd b H' ⟨sm,_⟩=>⟨wg,.inl (bh sm G),by lia⟩) (λd i b H' Y g o U ⟨sm,hD,l,nD⟩ I N=>?_) λd b H' _ ⟨sm,hD,l,_⟩=>?_
 .exact⟨wg,wg[i]'(by lia),.inl (bh sm G),Ts _⟩
 .obtain⟨rfl,I⟩:=I;have W:=I _ (.inl (bh sm G));obtain⟨t,J,pt,rfl,f⟩:=al.get W;rw[h1]at N;obtain⟨Z,rfl⟩:=VB.mp N;rw[m];have f:=sm _ _ f;have F:=sm _ _ F;have bC:(GR (As.take i) to x y).length<1000:=by have:=kZ (As.take i) (to,x);rw[Uz]at this;unfold GR;rw[Tp];lia
  have snoc:=Du (As.take i) t to x y;have M:As.take (i+1)=As.take i++[t]:=by rw[Ui,J];rfl
  refine⟨λj O=>?_,Reads.HQ (.ix (.va rfl) f (v:=.int t.1) rfl) (.va (v:=.int to) rfl) _ ⟨_,rfl,?_⟩⟩
  .rw[h1]at O;obtain⟨j,rfl⟩:=UV O;rfl
  .refine FG (λA=>?_) λA=>?_
   .have A:=T_ A;refine Reads.HQ (.ix (.va rfl) f (v:=.int t.2.1) rfl) (.ix (.va rfl) F (v:=.int x) (gp (j:=0) rfl)) _ ⟨_,rfl,FG (λc2=>?_) λc2=>?_⟩
    .have c2:=T_ c2;rw[Tt (by rw[A,c2])]at snoc;refine xE (ws:=[.int t.2.2,.int y]) (.c (.ix (.va rfl) f rfl) (.c (.ix (.va rfl) F (gp (j:=1) rfl)) .ni)) rfl λp P=>?_;have np:d≠p:=aj hD P;have s2:Same g (upd g p (.tup [.int t.2.2,.int y])):=ao P;have k3:KT g (upd (upd g p (.tup [.int t.2.2,.int y])) d (.lst (b++[.ref p]))):=(KT.of s2).trans (.upd (s2 _ _ hD) λ_ z=>(nomatch z));refine⟨s2 _ _ hD,qC (by rw[<- l.len];lia),λc u e=>?_,af,?_,nD⟩
     .rw[ag (aj e nD)];exact s2 _ _ (sm _ _ e)
     .rw[M,snoc];exact(l.mono (bI k3)).snoc ⟨p,rfl,by rw[ag (UD np),af]⟩
    .rw[TC (λz=>c2 (TZ (Prod.ext_iff.mp z).2)),UE]at snoc;exact⟨sm,hD,by rw[M,snoc];exact l,nD⟩
   .rw[TC (λz=>A (TZ (Prod.ext_iff.mp z).1)),UE]at snoc;exact gk ⟨sm,hD,by rw[M,snoc];exact l,nD⟩
 .rw[U4]at l;exact k d b H' sm hD l
def N4(X:Cx)(scope:Scope)(tg elt e1:Expr)(tN capN:List Str)(caps:List Nat):TE:=cY BH (am 7) (gw X scope tg tN capN caps elt [e1] (dk X.K (am 1)))
def Ku(K:Xp)(b:TE):TS:=bm (gh (cS (cY zL (jZ (gA K) (ai (am 6) aG)) (tC (.int 2)))) (dg b (ay 7)) cW) (uI (am 2) (Dj 3 4) (am 7))
def N5(K:Xp)(b:TE):TS:=bm (gh (cS (cY Qa (jZ (gA K) (ai (am 6) aG)) (tC (.int 0)))) (dg (cY BH (am 7) (je (ai (eY (ai (am 5) (ai (tI K 6 0) aG))) aG))) (ay 7)) cW) (Ku K b)
def N6(K:Xp)(b:TE):TS:=bm (dg (gG (am 2) (Dj 3 4) (je aG)) (ay 7)) (N5 K b)
def Kv(v0:V)(lg a q:Addr)(r:Sp.Rule)(x7:Option V):L2.St:=[some v0,some (.ref lg),some (.ref a),some (.int r.1),some (.int r.2.1),some (.int r.2.2.1),some (.ref q),x7]
theorem N7:Makes (Dj 3 4) (Kv v0 lg a q r x7) H [.int (hd r).1,.int (hd r).2]:=.t (.c (.va rfl) (.c (.va rfl) .ni)) rfl
theorem Q3{v0:V}{σ':L2.St}(h:Gr IsSet B H a ks L RA)(hz:ks.length<1000)(v:Hv B H ks RA (hd r) p zs)(e:σ=Kv v0 lg a q r (some (.ref p)))(k:∀H' d,Gr IsSet B H' a (gn ks (hd r)) (nZ L (hd r) zs) d->D.nx σ H'):uI (am 2) (Dj 3 4) (am 7) D σ H:=by subst e;refine⟨_,rfl,_,rfl,N7 _ λb hb=>?_⟩;have s1:=ao (o:=.tup [.int (hd r).1,.int (hd r).2]) hb;have h1:=h.more bI s1;exact⟨a,_,rfl,DPut.t h1.r (k:=k2 (hd r)) af (qC (by rw[Tp];lia)),k _ _ (h1.put (v.more s1))⟩
structure SG(X:Cx) (scope:Scope) (tg elt e1:Expr) (tN capN:List Str) (caps:List Nat):Prop where
 h1:tN.length=1
 hc:caps=[5,6]
 g:∀cl C s3 H3 fp,PG (aS X scope (tN++capN) cl C s3 H3 fp) tg (ay 0)
 t:∀cl C s3 H3 fp,Im (aS X scope (tN++capN) cl C s3 H3 fp) [e1] (N2 X.K)
 e:∀cl C s3 H3 fp,PE (aS X scope (tN++capN) cl C s3 H3 fp) elt (N3 X.K)
def N8(h:te σ H λv b=>1<=sizeLine/\∀l,b l=none->Q (.ref l) (upd b l (.lst [v]))):je (ai te aG) σ H Q:=h
theorem S8{scope:Scope}{tg elt e1:Expr}{tN capN:List Str}{caps:List Nat}{v0:V}{x7:Option V}(C:SG X scope tg elt e1 tN capN caps)(h:Gr IsSet B H a ks L RA)(hz:ks.length<1000)(S:(L (hd r)).length+(aX (ba As) r).length<1000)(N:B q=some (.tup (r.2.2.2.map V.int)))(h2:r.2.2.2.length<=2)(M:Rd B lg (.lst wg))(al:aV (IsArr B) As wg)(hA:As.length<1000)(hs:σ=Kv v0 lg a q r x7)
 (k:∀x7 H' f,Gr IsSet B H' a (gn ks (hd r)) (nZ L (hd r) (L (hd r)++aX (ba As) r)) f->D.nx (Kv v0 lg a q r x7) H'):N6 X.K (N4 X scope tg elt e1 tN capN caps) D σ H:=by
 subst hs;refine⟨_,rfl,a,rfl,.inr ⟨_,.inl h.r⟩,N7 _ λb hb=>⟨T2 _,λq2 d=>?_⟩⟩;have s1:=ao (o:=.tup [.int (hd r).1,.int (hd r).2]) hb;have G:upd H b (.tup [.int (hd r).1,.int (hd r).2]) b=some (.tup ((k2 (hd r)).map kV)):=af;have h1:=h.more bI s1;generalize upd H b (.tup [.int (hd r).1,.int (hd r).2])=T at s1 G h1 d;have s2:=ao (o:=.lst []) d;have g2:=h1.more bI s2;refine⟨_,DGet.t (k:=k2 (hd r)) g2.r (s2 _ _ G),?_⟩;have hv:∃p,(c9 (ks.map λk=>(k2 k,V.ref (RA k))) (k2 (hd r))).getD (.ref q2)=.ref p/\Hv B (upd T q2 (.lst [])) ks RA (hd r) p (L (hd r)):=by
  rw[iE];by_cases e:hd r∈ks
  .rw[Tt e];obtain⟨n,vs,e1,e2⟩:=g2.v _ e;exact⟨_,rfl,n,λj hj ne z=>ne (h.i j hj _ e z),vs,e1,e2⟩
  .rw[TC e];obtain⟨f1,f2⟩:=h1.fresh (k:=hd r) d;exact⟨q2,rfl,f1,f2,[],af,by rw[h.z _ e];exact .nil⟩
 obtain⟨p,ep,v⟩:=hv;rw[ep];generalize upd T q2 (.lst [])=U at s2 g2 v;have d:=g2.s _ _ N;have I:(((r.2.2.2.map V.int).length:Nat):Int)=r.2.2.2.length:=by simp
 show N5 X.K _ D (Kv v0 lg a q r (some (.ref p))) U;refine jN (c:=decide (0<(((r.2.2.2.map V.int).length:Nat):Int))) (.op (.len (.va rfl) d) .k λ_ q=>⟨_,_,rfl,rfl,q⟩) (λA=>?_) λA=>?_
 .have A:=T_ A;rw[I]at A;obtain⟨x,w,m⟩ : ∃x u,r.2.2.2=x::u:=by
   cases e:r.2.2.2 with
   |nil=>rw[e]at A;simp at A
   |cons x u=>exact⟨x,u,rfl⟩
  refine v.cat (us:=[(r.2.2.1,x)]) g2 (.va rfl) (by have:=(show(aX (ba As) r).length>=1 by unfold aX;rw[m];dsimp only;split<;>simp);simp;lia) (λQ O=>?_) λp' H3 g3 W s3=>?_
  .refine N8 (xE (ws:=[.int r.2.2.1,.int x]) (.c (.va rfl) (.c (.ix (.va rfl) d (gp (j:=0) (by rw[m];rfl))) .ni)) rfl λb hb=>?_);refine⟨US (qC (by show 1<15000000;decide)),λl M=>?_⟩;have t1:=ao (o:=.tup [.int r.2.2.1,.int x]) hb;have Y:=ao (o:=.lst [.ref b]) M;exact O l _ _ (t1.trans Y) af (.cons ⟨b,rfl,Y _ _ af⟩ .nil)
  .show Ku X.K _ D (Kv v0 lg a q r (some (.ref p'))) H3;refine jN (te:=cY zL (jZ (gA X.K) (ai (am 6) aG)) (tC (.int 2))) (.HQ (.len (.va rfl) (g3.s _ _ N)) .k) (λc2=>?_) λc2=>?_
   .have c2:=T_ c2;rw[I]at c2;obtain⟨y,P⟩ : ∃y,w=[y]:=by rw[m]at c2;exact VB.mp (by simp at c2;lia)
    rw[P]at m;have J:aX (ba As) r=(r.2.2.1,x)::GR As r.2.2.1 x y:=by unfold aX;rw[m];rfl
    rw[J]at k S;rw[T3]at S;refine W.cat (us:=GR As r.2.2.1 x y) g3 (.va rfl) (by simp;lia) (λQ O=>?_) λp5 Z g5 v5 s5=>?_
    .refine⟨_,rfl,lg,rfl,⟨_,.inl (bh g3.s M)⟩,Kt (As:=As) (wq:=[]) C.h1 (by rw[C.hc];rfl) C.g C.t C.e (bh g3.s M) (al.mono (IsArr.keep (.of g3.s))) (by rw[g3.s _ _ N,m]) hA λDl vs Z s5 hD R=>O Dl vs Z s5 hD R⟩
    .refine Q3 (σ':=[]) g5 hz v5 rfl λH6 f F=>k _ _ f ?_;rw[U6]at F;exact F
   .have n2:w=[]:=by
     have:¬r.2.2.2.length=2:=λz=>c2 (TZ (by rw[I,z];rfl));rw[m]at this h2;cases w with
     |nil=>rfl
     |cons y u=>rw[T3,T3]at this h2;exact(this (by lia)).elim
    rw[n2]at m;have J:aX (ba As) r=[(r.2.2.1,x)]:=by unfold aX;rw[m]
    rw[J]at k;exact Q3 (σ':=[]) g3 hz W rfl λH6 f F=>k _ _ _ F
 .have n0:r.2.2.2=[]:=by
   have n:¬ 0<((r.2.2.2.length:Nat):Int):=λz=>A (TZ (by rw[I];exact z));cases e:r.2.2.2 with
   |nil=>rfl
   |cons x u=>rw[e,T3]at n;lia
  have J:aX (ba As) r=[]:=by unfold aX;rw[n0]
  rw[J,UE]at k;show Ku X.K _ D (Kv v0 lg a q r (some (.ref p))) U;refine jN (te:=cY zL (jZ (gA X.K) (ai (am 6) aG)) (tC (.int 2))) (.HQ (.len (.va rfl) d) .k) (λc2=>?_) λc2=>?_
  .have c2:=T_ c2;rw[I,n0]at c2;exact absurd c2 (by decide)
  .exact Q3 (σ':=[]) g2 hz v rfl λH6 f F=>k _ _ _ F
inductive EG:Sp
 |mk {H:Hp} {RL:List Sp.Rule} {As:List Sp.Arr} {l lg:Addr} {ws wg:List V} {Q:VK} {E:XK} (hl:Rd H l (.lst ws)) (its:aV (IsRule H) RL ws) (hg:Rd H lg (.lst wg)) (al:aV (IsArr H) As wg) (hz:RL.length<1000) (hA:As.length<1000) (h2:∀r∈RL,r.2.2.2.length<=2) (gg:∀k,(cE (aX (ba As)) RL k).length<=300) (k:∀d RA H',Gr IsSet H H' d (bz RL) (cE (aX (ba As)) RL) RA->Q (.ref d) H'):EG [.ref l,.ref lg] H Q E
def Dv(h:EG vs H Q E):vs.length=2:=by cases h;rfl
def Q5(X:Cx)(scope:Scope)(tg elt e1:Expr)(tN capN:List Str)(caps:List Nat):TS:=bm (dg jv (ay 2)) (bm (jd (dk X.K (am 0)) (dU X.K 4 (aQ (ay 3) (aQ (ay 4) (aQ (ay 5) (aQ (ay 6) dS))))) (N6 X.K (N4 X scope tg elt e1 tN capN caps))) (jc (am 2)))
theorem GS{scope:Scope}{tg elt e1:Expr}(C:SG X scope tg elt e1 tN capN caps)(h:EG vs H Q E):Q5 X scope tg elt e1 tN capN caps {nx:=λ_ H'=>Q .bp H',rt:=Q} (bO ["_law_rules_here","_law_gone","_law_due_here","_law_room","_law_sign","_law_to","_law_put","_law_heads"] vs) H:=by
 obtain @⟨H,RL,As,l,lg,ws,wg,Q,E,hl,its,hg,al,hz,hA,h2,gg,k⟩:=h;intro a ha;have s1:Same H (upd H a (.dT [])):=ao ha;have t:Gr IsSet H (upd H a (.dT [])) a [] (cE (aX (ba As)) []) (λ_=>0):=⟨s1,af,ha,λk h=>(nomatch h),λk h=>(nomatch h),λk h=>rfl⟩;refine⟨_,rfl,l,rfl,⟨ws,.inl (bh s1 hl)⟩,?_⟩;refine jn (K:=X.K) (a:=l) (xs:=ws) (λi σ' H'=>(∃d e f j x7,σ'=[some (.ref l),some (.ref lg),some (.ref a),d,e,f,j,x7])/\∃b,Gr IsSet H H' a (bz (RL.take i)) (cE (aX (ba As)) (RL.take i)) b) ⟨⟨none,none,none,none,none,rfl⟩,_,t⟩ (λi σ' H' _ q=>?_) (λi v σ' H' u q=>?_) λσ' H' q=>?_
 .obtain⟨_,b,g⟩:=q;exact .inl (bh g.s hl)
 .obtain⟨⟨d,e,f,j,x7,rfl⟩,b,g⟩:=q;obtain⟨r,n,w⟩:=its.get u;obtain⟨c,q,rfl,hc,x⟩:=w;have A:=(f6 (RL.take i)).2.1;have F:=VJ i RL;have y:(cE (aX (ba As)) (RL.take (i+1)) (hd r)).length<=300:=T6 rS (gg (hd r));have o:RL.take (i+1)=RL.take i++[r]:=by rw[Ui,n];rfl
  rw[o,k7,db,TU]at y;refine S7 (g.s _ _ hc) (S8 C (v0:=.ref l) (x7:=x7) g (by lia) (by lia) x (h2 r (T5 n)) hg al hA rfl λz G m g2=>⟨⟨_,_,_,_,_,rfl⟩,m,?_⟩);rw[o,iF,k7];exact g2
 .obtain⟨⟨d,e,f,j,x7,rfl⟩,b,g⟩:=q;rw[<- its.len,U4]at g;exact⟨_,rfl,k a b H' g⟩
end
def n8{a:bf}(h:EY a a):False:=by unfold EY at h;lia
def GT{a b:bf}(h:EY a b)(g:EY b a):False:=by unfold EY at h g;lia
theorem rU:∀{z d:List bf},z.Pairwise EY->d.Pairwise EY->(∀x,x∈z↔x∈d)->z=d
 |[],[],_,_,_=>rfl
 |[],b::_,_,_,h=>nomatch (h b).mpr Tw
 |a::_,[],_,_,h=>nomatch (h a).mp Tw
 |a::t,b::t',p,c,h=>by
  rw[Wt]at p c;have e:a=b:=by
   rcases Tz.mp ((h a).mp Tw)with e|m
   .exact e
   .rcases Tz.mp ((h b).mpr Tw)with e|m'
    .exact e.symm
    .exact(GT (p.1 b m') (c.1 a m)).elim
  subst e;rw[rU p.2 c.2 λx=>?_];have f:=h x;rw[Tz,Tz]at f;constructor
  .intro m;rcases f.mp (.inr m)with e|m'
   .subst e;exact(n8 (p.1 x m)).elim
   .exact m'
  .intro m;rcases f.mpr (.inr m)with e|m'
   .subst e;exact(n8 (c.1 x m)).elim
   .exact m'
def pD(x:bf):D:=.tup [.int x.1,.int x.2]
section
variable{X:Cx}{K:Xp}{mg:Str->Option Xr}{Fi:List D->Res R}{B B2 H H':Hp}{a q p c d d2:Addr}{ks:List bf}{L Z:bf->List bf}{RA LA:bf->Addr}{σ:L2.St}{k:bf}{vs ws:List V}{zs:List bf}{Q:VK}{E:XK}{m:Addr->Prop}
theorem Qc{x:bf}{v:V}(h:IsSet H x v):Is H m (pD x) v:=let ⟨p,e,h⟩:=h;⟨p,_,e,h,_,_,rfl,rfl,_,_,rfl,rfl,rfl⟩
theorem GU{l:List bf}{vs:List V}(h:aV (IsSet H) l vs):IsAll H m (l.map pD) vs:=by
 induction h with
 |nil=>exact rfl
 |cons q _ b=>exact⟨_,_,rfl,Qc q,b⟩
theorem j_{n:Nat}:∀{ds:List D},(∀d∈ds,d.dep<=n)->D.gf ds<=n
 |[],_=>T2 _
 |d::ds,h=>by have h1:=h d Tw;have h2:=j_ λe b=>h e (Tu _ b);show max d.dep (D.gf ds)<=n;lia
def Kw(l:List bf):(D.lst (l.map pD)).dep<=50:=by
 have:D.gf (l.map pD)<=2:=j_ λd hd=>by obtain⟨x,_,rfl⟩:=TH.mp hd;exact Vp rfl
 show D.gf (l.map pD)+1<=50;lia
def N9(K:Xp):List V->Hp->VK->Prop:=λxs H Q=>∃x T t b,xs=[x,.ty T]/\P0 K H x t/\kitOne K t (.type T)=some b/\Q (.bl b) H
def rV:CallR X (.builtin "isinstance") (N9 X.K):=vi
def Kx(K:Xp)(T:String)(te:TE):TE:=jZ (N9 K) (ai te (ai (tC (.ty T)) aG))
theorem Reads.Sy{te:TE}{T:String}{x:V}{dd:D}(h:Reads te σ H x)(is:P0 K H x (.type dd.ty))(b:xo T):Reads (Kx K T te) σ H (.bl (QE T dd)):=λQ q=>h _ ⟨x,T,_,_,rfl,is,b K dd,q⟩
theorem Dw{F:List D->Res R}{n:Nat}{ds:List D}{ta:TA}(ha:ReadsA ta σ H vs)(b:vs.length=n)(is:IsAll H (λ_=>True) ds vs)(e:F ds=.ok (.val (.bl true) true []))(k:∀H',Same H H'->Q (.bl true) H'):ck (jC mg n F) [] E0 ta σ H Q:=by refine ha _ ⟨by rw[UE];exact b,ds,λ_=>True,by rw[UE];exact is,?_⟩;rw[e];intro v H' s r;obtain rfl:v=.bl true:=r;exact k H' s
theorem Reads.yk{ta tb:TE}{b:Addr}{v:V}(ha:Reads ta σ H (.ref a))(hb:Reads tb σ H (.ref b))(f:Rd H a (.dT (ks.map λk=>(k2 k,V.ref (RA k)))))(g:k∈ks)(e:H b=some (.tup ((k2 k).map kV))):Reads (jt ta tb) σ H (.ref (RA k)):=λQ q=>ha _ (hb _ ⟨a,_,rfl,.inr ⟨_,k2 k,b,f,rfl,e,by rw[iE,Tt g]⟩,q⟩)
def N_(K:Xp):List V->Hp->VK->Prop:=λxs H Q=>∃(p:Addr)(vs:List V)(bs:List Bool),xs=[.ref p]/\SqL K H p vs/\vs=bs.map V.bl/\Q (.bl (bs.all id)) H
def AT(hc:X.calm=true):CallR X (.builtin "all") (N_ X.K):=rF hc
def Oa(mg:Str->Option Xr)(Fi:List D->Res R):TE:=ck (jC mg 1 Fi) [] E0 (ai (am 0) aG)
def Ky(Fi:List D->Res R):Prop:=∀x:bf,Fi [pD x]=.ok (.val (.bl true) true [])
theorem Kz{scope:Scope}{tg elt:Expr}{tN:List Str}{g:Hp}{Fin:Addr->List V->Hp->Prop}(h1:tN.length=1)(A:∀cl C r s fp,PG (aS X scope (tN++[]) cl C r s fp) tg (ay 0))(D:∀cl C r s fp,PE (aS X scope (tN++[]) cl C r s fp) elt (Oa mg Fi))(F:Ky Fi)
 (v:Rd g p (.lst ws)) (al:aV (IsSet g) zs ws) (hz:zs.length<1000) (k:∀f vs H',Same g H'->H' f=some (.lst ((List.replicate zs.length true).map V.bl))->Fin f vs H'):b9 X scope tg tN [] [] elt [] σ Fin (yp X.K p) g:=by
 have ln:=al.len;refine tS (n:=zs.length) A (λ_ _ _ _ _=>iz) D (λf i b H'=>Same g H'/\H' f=some (.lst b)/\b=(List.replicate i true).map V.bl/\g f=none) (λf hD=>⟨ao hD,af,rfl,hD⟩) (λh=>h.2.1) (λf i b H' ⟨sm,_⟩ G=>⟨ws,ws[i]'(by lia),.inl (bh sm v),Ts _⟩) (λf b H' ⟨sm,_⟩=>⟨ws,.inl (bh sm v),by lia⟩) (λf i b H' N I o G ⟨sm,hD,l,nD⟩ w x=>?_) λf b H' _ ⟨sm,hD,l,_⟩=>k f b H' sm (by rw[hD,l]);obtain⟨rfl,w⟩:=w;have J:=w _ (.inl (bh sm v));obtain⟨t,M,it⟩:=al.get J;rw[h1]at x;obtain⟨O,rfl⟩:=VB.mp x;refine⟨λj y=>?_,mB (Dw (ds:=[pD t]) (.c (.va rfl) .ni) rfl ⟨_,_,rfl,Qc (bI (.of sm) _ _ it),rfl⟩ (F t) λP z=>⟨z _ _ hD,qC (by rw[l,Tp,V2];lia),λc u e=>?_,af,?_,nD⟩)⟩
 .rw[h1]at y;obtain⟨j,rfl⟩:=UV y;rfl
 .rw[ag (aj e nD)];exact z _ _ (sm _ _ e)
 .rw[l,List.replicate_succ',Ua];rfl
inductive Bg:Sp
 |mk {B B2 H:Hp} {d d2:Addr} {ks:List bf} {L Z:bf->List bf} {RA LA:bf->Addr} {Q:VK} {E:XK} (g:Gr IsSet B H d ks Z LA) (g2:Gr IsSet B2 H d2 ks L RA) (ne:d2≠d) (s:∀k,rZ (L k) (Z k)) (gg:MC L) (k:∀H',Same H H'->Q (.bl true) H'):Bg [.ref d,.ref d2] H Q E
def Dx(h:Bg vs H Q E):vs.length=2:=by cases h;rfl
def EZ:TS:=jc (tC (.bl false))
def Q7(X:Cx):TS:=gh (cS (cY F4 (jt (am 0) (am 2)) (jZ (zn X) (ai (jZ (zl X) (ai (jt (am 1) (am 2)) aG)) aG)))) EZ cW
def Q8(X:Cx)(b:TE):TS:=bm (gh (uC (tB (jZ (N_ X.K) (ai b aG)))) EZ cW) (Q7 X)
def Q9(X:Cx)(mg:Str->Option Xr)(Fi:List D->Res R):TT:=MI (uC (tB (ck (jC mg 1 Fi) [] E0 (ai (am 2) aG)))) (MI (cS (cY (Nl true) (am 2) (am 1))) (uC (tB (Kx X.K "list" (jt (am 0) (am 2))))))
def Q_(X:Cx)(mg:Str->Option Xr)(Fi:List D->Res R)(b:TE):TS:=bm (gh (Q9 X mg Fi) EZ cW) (Q8 X b)
def Ra(X:Cx):TT:=MI (uC (tB (Kx X.K "dict" (am 0)))) (cS (cY R8 (jZ Dc (ai (am 0) aG)) (jZ Dc (ai (am 1) aG))))
def Rb(X:Cx)(mg:Str->Option Xr)(Fi:List D->Res R)(b:TE):TS:=bm (gh (Ra X) EZ cW) (bm (λD σ H=>jd (Dd X (am 0)) (ay 2) (Q_ X mg Fi b) (Qw X D) σ H) (jc (tC (.bl true))))
def Rc(X:Cx)(scope:Scope)(tg elt:Expr)(tN:List Str):TE:=gw X scope tg tN [] [] elt [] (dk X.K (jt (am 0) (am 2)))
theorem GV{scope:Scope}{tg elt:Expr}{tN:List Str}(h1:tN.length=1)(hg:∀cl C l D fp,PG (aS X scope (tN++[]) cl C l D fp) tg (ay 0)) (he:∀cl C l D fp,PE (aS X scope (tN++[]) cl C l D fp) elt (Oa mg Fi)) (T:Ky Fi) (h:Bg vs H Q E):Rb X mg Fi (Rc X scope tg elt tN) {nx:=λ_ H'=>Q .bp H',rt:=Q} (bO ["_law_found","_law_due_here","_law_head_here"] vs) H:=by
 obtain @⟨B,B2,H,d,d2,ks,L,Z,RA,LA,Q,E,g,g2,ne,so,gg,k⟩:=h;have len:∀k,(Z k).length<=63:=λk=>(gg k).2 (Z k) ((so k).p.imp λ{a b} h z=>by subst z;exact n8 h) λx hx=>((so k).m x).mp hx;have nl:∀{j b},H j=some (.lst b)->j≠d:=λe z=>by rw[z,g.r]at e;cases e
 refine Reads.Sy (.va rfl) (dd:=.i9 [] []) (.inr ⟨rfl,d,rfl,.inr ⟨_,.inl g.r⟩⟩) Al _ ⟨_,rfl,gk ⟨_,rfl,d,_,rfl,.inl (.inl g.r),_,rfl,d2,_,rfl,.inl (.inl g2.r),⟨rfl,_,rfl,?_⟩⟩⟩;rw[Tp,Tp,TZ rfl];refine gk ⟨_,rfl,d,_,_,rfl,.inl rfl,g.r,λo ho=>?_⟩;refine xP (n:=(ks.map λk=>(k2 k,V.ref (LA k))).length) (λi σ' H'=>(∃x,σ'=[some (.ref d),some (.ref d2),x])/\H' d=some (.bj o (.dT (ks.map λk=>(k2 k,V.ref (LA k)))))/\Kp d H H') ⟨⟨none,rfl⟩,af,λc u e n=>by rw[ag n];exact e⟩ (λi σ' H' p U=>⟨p.2.1,U⟩) (λσ' H' p=>⟨p.2.1,To _⟩) (λi σ' H' x M D' U p y k'=>?_) λσ' H' p=>?_
 .obtain⟨⟨x2,rfl⟩,J,kp⟩:=p;obtain⟨rfl,b,kk,vv,e1,rfl,hb⟩:=y;rw[TL]at e1;obtain⟨f,N,e2⟩:=Ux.mp e1;cases e2;have mk:f∈ks:=T5 N;obtain⟨_,zs,hz,W⟩:=g.v f mk;obtain⟨_,ls,Y,al⟩:=g2.v f mk;have kt:KT H M:=λc w e=>kp _ _ e λz=>by rw[z,g.r]at e;cases e
  refine Dw (ds:=[pD f]) (.c (.va rfl) .ni) rfl ⟨_,_,rfl,Qc ⟨b,rfl,hb⟩,rfl⟩ (T f) λD l=>⟨_,rfl,gk ?_⟩;have O:Rd D d (.dT (ks.map λk=>(k2 k,V.ref (LA k)))):=.inr ⟨o,l _ _ J⟩;have r2:Rd D d2 (.dT (ks.map λk=>(k2 k,V.ref (RA k)))):=.inl (l _ _ (kp _ _ g2.r ne));have s:=l _ _ hb;have t:=l _ _ (kp _ _ hz (nl hz));have P:=l _ _ (kp _ _ Y (nl Y));have F:KT H D:=kt.trans (.of l);refine⟨_,rfl,_,rfl,d2,_,rfl,.inl (.inr ⟨_,k2 f,b,r2,rfl,s,rfl⟩),⟨_,rfl,?_⟩⟩;rw[iE,Tt mk];refine gk (Reads.Sy (dd:=.lst []) (.yk (v:=.bp) (.va rfl) (.va rfl) O mk s) (.inl (.lst t)) Ak _ ⟨_,rfl,gk ?_⟩);refine Reads.yk (v:=.bp) (.va rfl) (.va rfl) O mk s _ ⟨LA f,rfl,⟨zs,SqL.of t⟩,?_⟩;refine Kz (zs:=Z f) h1 hg he T (.inl t) (W.mono (bI F)) (by have:=len f;lia) λDl vs H5 G hD=>⟨Dl,_,_,rfl,SqL.of hD,rfl,_,rfl,?_⟩;rw[show((List.replicate (Z f).length true).all id)=true from by simp];refine gk (Reads.yk (v:=.bp) (.va rfl) (.va rfl) (bh G O) mk (G _ _ s) _ ?_);refine IC (X:=X) (.yk (v:=.bp) (.va rfl) (.va rfl) (bh G r2) mk (G _ _ s)) (.inl (G _ _ P)) (al.mono (bI (F.trans (.of G)))) (gg f).1 (gg f).2 λl' ms ws H6 s6 nl' R S I=>?_;have e:Z f=ms:=rU (so f).p I.p λx=>((so f).m x).trans (I.m x).symm;subst e;have A:=G.trans s6;refine⟨.lst ((Z f).map pD),.lst ((Z f).map pD),λ_=>True,λ_=>True,⟨LA f,zs,rfl,.inl ⟨A _ _ t,True.intro⟩,GU (W.mono (bI (F.trans (.of A))))⟩,⟨l',ws,rfl,.inl ⟨R,True.intro⟩,GU S⟩,⟨Kw _,Kw _⟩,_,rfl,?_⟩;rw[fT];exact gk (k' _ _ ⟨⟨_,rfl⟩,A _ _ (l _ _ J),λc u e n=>A _ _ (l _ _ (kp _ _ e n))⟩)
 .obtain⟨⟨x2,rfl⟩,J,kp⟩:=p;refine .inr ⟨d,o,_,J,True.intro,ho,k _ λc u e=>?_⟩;by_cases n:c=d
  .rw[n,af];rw[n,g.r]at e;exact e
  .rw[ag n];exact kp _ _ e n
end
abbrev Rw:=Int×List Int
def kh(x:Rw):D:=.tup [.int x.1,.lst (x.2.map .int)]
def n9(x:Rw):bf:=(x.1,x.2.head?.getD 0)
structure RO(RW:List Rw) (ks:List bf) (Z:bf->List bf) (Fh Fb:List D->Res R):Prop where
 h:∀x:Rw,x.2≠[]->Fh [kh x]=.ok (.val (pD (n9 x)) true [])
 n:RW.length<1000
 st:∀(k:Nat) x y,RW[k]?=some x->RW[k+1]?=some y->x.2≠[]/\n9 x∈ks/\(x.2.length<=y.2.length->y.2≠[]/\n9 y∈Z (n9 x))/\(x.2.length<y.2.length->∃r,Fb [.lst (RW.map kh),.int (k:Nat)]=.ok (.val r true [])/\(r=.bp\/∃(j:Nat)(z:Rw),r=.int (j:Nat)/\RW[j]?=some z/\z.2≠[]/\n9 z∈Z (n9 x)))
section
variable{K:Xp}{mg:Str->Option Xr}{Fh Fb:List D->Res R}{B H H':Hp}{p c d rl:Addr}{ks:List bf}{Z:bf->List bf}{LA:bf->Addr}{σ:L2.St}{k:bf}{vs ws:List V}{Q:VK}{E:XK}{RW:List Rw}
def Reads.Tg(ha:Reads ta σ H (.ref p))(hb:Reads tb σ H (.int i))(h:Rd H p (.lst xs))(e:xs[j]?=some v)(a:i=(j:Nat)):Reads (cY (BD K) ta tb) σ H v:=ha.op hb λ_ q=>⟨p,xs,i,v,rfl,rfl,.inl h,by rw[a];exact gp e,q⟩
theorem Reads.PP(ha:Reads ta σ H (.ref p))(h:Rd H p (.lst xs)):Reads (jZ (gA K) (ai ta aG)) σ H (.int xs.length):=λ_ k=>ha _ ⟨p,xs,rfl,.inl (.inl h),k⟩
theorem Reads.RY(ha:Reads ta σ H (.int i)):Reads (cY kF ta (tC (.int n))) σ H (.int (i+n)):=ha.op .k λ_ q=>⟨_,_,rfl,rfl,q⟩
def KA(K:Xp)(tk:TE):TE:=cY (BD K) (am 0) tk
def KB(K:Xp)(tk:TE):TE:=jZ (gA K) (ai (cY (nE K) (KA K tk) (tC (.int 1))) aG)
def KC(K:Xp)(mg:Str->Option Xr)(Fh:List D->Res R)(tk:TE):TE:=ck (jC mg 1 Fh) [] E0 (ai (KA K tk) aG)
def KD(K:Xp)(mg:Str->Option Xr)(Fh:List D->Res R)(tk:TE):TT:=cS (cY (Nk true K) (KC K mg Fh tk) (jt (am 1) (KC K mg Fh (am 2))))
def KF:TE:=cY kF (am 2) (tC (.int 1))
def S9:R2:=wu λi j=>.bl (decide (j<=i))
def Dy:R2:=wu λi j=>.int (i-j)
def Re(K:Xp)(mg:Str->Option Xr)(Fh Fb:List D->Res R):TS:=bm (dg (ck (jC mg 2 Fb) [] E0 (ai (am 0) (ai (am 2) aG))) (ay 4)) (gh (Ft (tB (HV (am 4))) (KD K mg Fh (am 4))) EZ cW)
def Ob(K:Xp)(mg:Str->Option Xr)(Fh Fb:List D->Res R):TS:=gh (cS (cY Qa (am 3) (tC (.int 0)))) (Re K mg Fh Fb) cW
def Oc(K:Xp)(mg:Str->Option Xr)(Fh Fb:List D->Res R):TS:=bm (gh (Ft (cS (cY S9 (am 3) (tC (.int 0)))) (KD K mg Fh KF)) EZ cW) (Ob K mg Fh Fb)
def Od(K:Xp)(mg:Str->Option Xr)(Fh Fb:List D->Res R):TS:=bm (dg (cY Dy (KB K KF) (KB K (am 2))) (ay 3)) (Oc K mg Fh Fb)
def Rf(K:Xp)(mg:Str->Option Xr)(Fh Fb:List D->Res R):TS:=bm (jd (HW (ai (cY Dy (jZ (gA K) (ai (am 0) aG)) (tC (.int 1))) aG)) (ay 2) (Od K mg Fh Fb)) (jc (tC (.bl true)))
structure l_(H:Hp) (rl:Addr) (RW:List Rw):Prop where
 is:Is H (λ_=>True) (.lst (RW.map kh)) (.ref rl)
theorem l_.more(h:l_ H rl RW)(s:Same H H'):l_ H' rl RW:=⟨Is.mono (λc u e _=>s c u e) (λ_ _ _ z=>z) h.is⟩
theorem l_.lst(h:l_ H rl RW):∃vs,Rd H rl (.lst vs)/\aV (λx v=>Is H (λ_=>True) (kh x) v) RW vs:=by obtain⟨l,ws,e,a,b⟩:=pH h.is;cases e;exact⟨ws,a,kH (f:=kh) (λx v i=>i) b⟩
theorem l_.get(h:l_ H rl RW)(b:RW[j]?=some x)(f:Reads tk σ H (.int i))(g:i=(j:Nat))(h0:σ[0]?=some (some (.ref rl))):∃v,Is H (λ_=>True) (kh x) v/\Reads (KA K tk) σ H v:=by
 obtain⟨vs,l,al⟩:=h.lst;have a:j<vs.length:=by rw[<- al.len];exact(Tq.mp b).1
 obtain⟨m,e,is⟩:=al.get (Ts a);rw[b]at e;cases e;exact⟨_,is,.Tg (.va h0) f l (Ts a) g⟩
theorem l_.len(h:l_ H rl RW)(b:RW[j]?=some x)(e:Reads tk σ H (.int i))(f:i=(j:Nat))(h0:σ[0]?=some (some (.ref rl))):Reads (KB K tk) σ H (.int x.2.length):=by obtain⟨v,⟨p,_,rfl,g,r,_,rfl,_,s,_,rfl,m,rfl⟩,o⟩:=h.get (K:=K) b e f h0;obtain⟨l,ws,rfl,a,q⟩:=pH m;rw[xN q]at a;have:=Reads.PP (K:=K) (Reads.ix (K:=K) (n:=1) o g (v:=.ref l) rfl) a;rw[Tp]at this;exact this
theorem l_.head(h:l_ H rl RW)(a:∀x:Rw,x.2≠[]->Fh [kh x]=.ok (.val (pD (n9 x)) true []))(e:RW[j]?=some x)(ne:x.2≠[])(f:Reads tk σ H (.int i))(g:i=(j:Nat))(h0:σ[0]?=some (some (.ref rl)))(k:∀b H',Same H H'->H' b=some (.tup [.int (n9 x).1,.int (n9 x).2])->Q (.ref b) H'):KC K mg Fh tk σ H Q:=by obtain⟨v,is,l⟩:=h.get (K:=K) e f g h0;refine l _ ⟨rfl,[kh x],λ_=>True,⟨_,_,rfl,is,rfl⟩,?_⟩;rw[a x ne];intro v H' s r;obtain⟨p,_,rfl,m,n,_,rfl,e0,o,_,rfl,e1,rfl⟩:=r;obtain rfl:n=.int (n9 x).1:=e0;obtain rfl:o=.int (n9 x).2:=e1;exact k p H' s m
def KG{l:List bf}(h:x∈l):((l.map pD).any λe=>jl e (pD x))=true:=by rw[List.any_map,Xj];exact⟨x,h,fT _⟩
theorem l_.IY(h:l_ H rl RW)(g:Gr IsSet B H d ks Z LA)(l:∀x:Rw,x.2≠[]->Fh [kh x]=.ok (.val (pD (n9 x)) true [])){j n:Nat}{x y:Rw}(o:RW[j]?=some y)(q:y.2≠[])(s:RW[n]?=some x)(nx:x.2≠[])(m:n9 x∈ks)(hz:n9 y∈Z (n9 x))(t:∀H',Reads tk σ H' (.int i))(u:i=(j:Nat))(h0:σ[0]?=some (some (.ref rl)))(h1:σ[1]?=some (some (.ref d)))(h2:σ[2]?=some (some (.int (n:Nat)))){Q:Bool->Hp->Prop}(k:∀H',Same H H'->Q false H'):KD K mg Fh tk σ H Q:=by
 refine h.head l o q (t H) u h0 λb A s1 hb=>⟨_,h1,(h.more s1).head l s nx (.va h2) rfl h0 λw z s2 f=>?_⟩;have a:=s1.trans s2;have g2:=g.more bI a;obtain⟨_,vs,e,al⟩:=g2.v _ m;refine⟨d,_,rfl,.inr ⟨_,k2 (n9 x),w,.inl g2.r,rfl,f,by rw[iE,Tt m]⟩,LA (n9 x),(Z (n9 x)).map pD,vs,pD (n9 y),λ_=>True,λ_=>True,rfl,.inl (SqL.of e),GU al,Qc ⟨b,rfl,s2 _ _ hb⟩,⟨?_,Vp rfl⟩,_,rfl,?_⟩
 .have:=Kw (Z (n9 x));have e:(D.lst ((Z (n9 x)).map pD)).dep=D.gf ((Z (n9 x)).map pD)+1:=rfl;lia
 .rw[KG hz];exact k z a
inductive EH(Fh Fb:List D->Res R):Sp
 |mk {B H:Hp} {rl d:Addr} {ks:List bf} {Z:bf->List bf} {LA:bf->Addr} {RW:List Rw} {Q:VK} {E:XK} (r:l_ H rl RW) (g:Gr IsSet B H d ks Z LA) (o:RO RW ks Z Fh Fb) (k:∀H',Same H H'->Q (.bl true) H'):EH Fh Fb [.ref rl,.ref d] H Q E
def Dz(h:EH Fh Fb vs H Q E):vs.length=2:=by cases h;rfl
def Oe(rl d:Addr)(k:Nat)(x y:Option V):L2.St:=[some (.ref rl),some (.ref d),some (.int (k:Nat)),x,y]
theorem GW(h:EH Fh Fb vs H Q E):Rf K mg Fh Fb {nx:=λ_ H'=>Q .bp H',rt:=Q} (bO ["_law_row","_law_told_here","_law_k","_law_grown","_law_later"] vs) H:=by
 obtain @⟨B,H,rl,d,ks,Z,LA,RW,Q,E,r,g,o,k⟩:=h;obtain⟨vs,J,al⟩:=r.lst;have n:=o.n;have ln:=al.len;refine Reads.op (.PP (.va rfl) J) .k (λ_ q=>⟨_,_,rfl,rfl,q⟩) _ ⟨(vs.length:Int)-1,rfl,by lia,by lia,?_⟩;refine xP (n:=((vs.length:Int)-1).toNat) (λi σ' H'=>(∃x y z,σ'=[some (.ref rl),some (.ref d),x,y,z])/\Same H H') ⟨⟨none,none,none,rfl⟩,λ_ _ e=>e⟩ (λi σ' H' p D=>D) (λσ' H' p=>To _) (λi σ' H' x b A D p y L=>?_) λσ' H' p=>k H' p.2;obtain⟨⟨W,u,l,rfl⟩,s⟩:=p;obtain⟨rfl,rfl⟩:=y;rw[Int.zero_add];have h1:i+1<RW.length:=by lia
 have ex:RW[i]?=some RW[i]:=Ts (by lia);have C:RW[i+1]?=some RW[i+1]:=Ts h1;generalize RW[i]=x at ex;generalize RW[i+1]=y at C;obtain⟨nx,F,M,c2⟩:=o.st i x y ex C;have w:=r.more s;have m:∀{u l f},Same b f->A.nx (Oe rl d i u l) f:=λa=>L _ _ ⟨⟨_,_,_,rfl⟩,s.trans a⟩;have G:∀{u l H'},Reads KF (Oe rl d i u l) H' (.int ((i:Nat)+1)):=.RY (.va rfl);show Od K mg Fh Fb A (Oe rl d i u l) b;refine Reads.op (r:=Dy) (w.len (K:=K) C G (by lia) rfl) (w.len (K:=K) ex (.va rfl) rfl rfl) (λ_ q=>⟨_,_,rfl,rfl,q⟩) _ ?_;show Oc K mg Fh Fb A (Oe rl d i (some (.int (y.2.length-x.2.length))) l) b;have rest:∀f,Same b f->Ob K mg Fh Fb A (Oe rl d i (some (.int (y.2.length-x.2.length))) l) f:=λf a=>by
  refine jN (c:=decide (0<((y.2.length:Nat):Int)-x.2.length)) (te:=cY Qa (am 3) (tC (.int 0))) (.op (.va rfl) .k λ_ q=>⟨_,_,rfl,rfl,q⟩) (λc=>?_) λ_=>m a;have c:=T_ c;obtain⟨X,N,O⟩:=c2 (by lia);refine⟨_,rfl,_,rfl,rfl,[.lst (RW.map kh),.int (i:Nat)],λ_=>True,⟨_,_,rfl,(w.more a).is,_,_,rfl,rfl,rfl⟩,?_⟩;rw[N];intro v P t I;have t:Same f P:=t;rcases O with rfl|⟨j,z,rfl,hz,R,S⟩
  .obtain rfl:v=.bp:=I;exact⟨_,rfl,_,rfl,gk (m (a.trans t))⟩
  .obtain rfl:v=.int (j:Nat):=I;refine⟨_,rfl,_,rfl,mB ?_⟩;exact((w.more a).more t).IY (g.more bI ((s.trans a).trans t)) o.h hz R ex nx F S (λ_=>.va rfl) rfl rfl rfl rfl λY T=>gk (m ((a.trans t).trans T))
 refine⟨_,rfl,_,_,rfl,rfl,_,rfl,FG (λc=>?_) λc=>gk (rest _ λ_ _ e=>e)⟩;have c:=T_ c;obtain⟨U,V⟩:=M (by lia);exact w.IY (g.more bI s) o.h C U ex nx F V (λ_=>G) (by lia) rfl rfl rfl λf a=>gk (rest f a)
end
def xU(K:Xp):List V->Hp->VK->Prop:=λxs H Q=>∃p a,xs=[.ref p]/\(SqL K H p a\/SqT K H p a)/\∀l,H l=none->Q (.ref l) (upd H l (.lst a))
def k8:CallR X (.type "list") (xU X.K):=lh
def IF(X:Cx)(scope:Scope)(tg elt:Expr)(tN capN:List Str)(caps:List Nat)(i:Nat)(a:TI):TS:=λD σ H=>a σ H (b9 X scope tg tN capN caps elt [] σ λb _ H'=>D.nx (σ.set i (some (.ref b))) H')
section
variable{X:Cx}{K:Xp}{H H':Hp}{p c d:Addr}{ks ks2:List bf}{Z:bf->List bf}{W:bf->List V}{LA:bf->Addr}{σ:L2.St}{k:bf}{vs tv:List V}{Q:VK}{D:Ends}
def Td(H:Hp)(ks:List bf)(LA:bf->Addr)(W:bf->List V)(k:bf)(v:V):Prop:=∃p b l,v=.ref p/\H p=some (.tup [.ref b,.ref l])/\H b=some (.tup ((k2 k).map kV))/\H l=some (.lst (W k))/\∀j∈ks,LA j≠l
def DA(H:Hp)(k:bf)(v:V):Prop:=∃b,v=.ref b/\H b=some (.tup ((k2 k).map kV))
theorem AU(h:Reads ta σ H (.ref d))(j:Rd H d (.dT (ks.map λk=>(k2 k,V.ref (LA k)))))(hz:ks.length<=63)
 (m:∀l ks2 vs,H l=none->(∀k∈ks2,k∈ks)->ks2.Nodup->aV (DA H) ks2 vs->ks2.length<=63->Q (.ref l) (upd H l (.lst vs))):jZ Dt (ai ta aG) σ H Q:=by
 refine h _ ⟨d,_,ks.map pL,rfl,j,by rw[T7,T7];rfl,λk g=>?_,by rw[Tp];exact hz,λl f n o q i pw=>?_⟩
 .obtain⟨x,_,rfl⟩:=TH.mp g;exact λz=>nomatch z
 .have key:∀f:List (List Int×Addr),(∀y∈f,H y.2=some (.tup ((iK y.1).map kV)))->(∀k∈f.map (·.1),k∈ks.map pL)->f.Pairwise (λx y=>d6 x.1 y.1=true)->∃ks2:List bf,ks2.map pL=f.map (·.1)/\(∀k∈ks2,k∈ks)/\ks2.Nodup/\aV (DA H) ks2 (f.map λy=>.ref y.2):=λf=>by
   induction f with
   |nil=>exact λ_ _ _=>⟨[],rfl,λ_ h=>(nomatch h),.nil,.nil⟩
   |cons y f r=>
    intro a b c;rw[Wt]at c;obtain⟨ks2,e1,e2,e3,e4⟩:=r (λz hz=>a z (Tu _ hz)) (λk g=>b k (by rw[TJ];exact Tu _ g)) c.2;obtain⟨x,s,e⟩:=TH.mp (b y.1 (by rw[TJ];exact Tw));refine⟨x::ks2,by rw[TJ,TJ,e1,e],λk g=>(Tz.mp g).elim (λz=>z▸s) (e2 k),UF.mpr ⟨λz=>?_,e3⟩,.cons ⟨y.2,rfl,by rw[a y Tw,<- e];rfl⟩ e4⟩;have:pL x∈f.map (·.1):=by rw[<- e1];exact TH.mpr ⟨x,z,rfl⟩
    obtain⟨w,t,u⟩:=TH.mp this;have:=c.1 w t;rw[u,<- e,sM]at this;cases this
  obtain⟨ks2,e1,e2,e3,e4⟩:=key f o (λk g=>(q k).mp g) pw;refine m l ks2 _ n e2 e3 e4 ?_;have:=U1 List.length e1;rw[Tp,Tp,i,Tp]at this;lia
def Of(K:Xp):TE:=eY (ai (am 0) (ai (jZ (xU K) (ai (jt (am 1) (am 0)) aG)) aG))
theorem GX{Fin:Addr->List V->Hp->Prop}(h1:tN.length=1)(x:iu σ caps=[some (.ref d)])(hg:∀cl C w G fp,PG (aS X scope (tN++capN) cl C w G fp) tg (ay 0))(he:∀cl C w G fp,PE (aS X scope (tN++capN) cl C w G fp) elt (Of X.K))
 (hr:H1 d=some (.dT (ks.map λk=>(k2 k,V.ref (LA k))))) (O:∀k∈ks,H1 (LA k)=some (.lst (W k))) (sub:∀k∈ks2,k∈ks) (I:H1 l=some (.lst vs)) (al:aV (DA H1) ks2 vs) (hz:ks2.length<1000) (k:∀g tv H',H1 g=none->Same H1 H'->H' g=some (.lst tv)->aV (Td H' ks LA W) ks2 tv->Fin g tv H'):b9 X scope tg tN capN caps elt [] σ Fin (yp X.K l) H1:=by
 have ln:=al.len;refine tS (n:=ks2.length) hg (λ_ _ _ _ _=>iz) he (λg i f H'=>Same H1 H'/\H' g=some (.lst f)/\aV (λk v=>Td H' ks LA W k v/\∃p b l,v=.ref p/\H' p=some (.tup [.ref b,.ref l])/\l≠g) (ks2.take i) f/\H1 g=none) (λg hD=>⟨ao hD,af,.nil,hD⟩) (λh=>h.2.1) (λg i f H' ⟨sm,_⟩ hi=>⟨vs,vs[i]'(by lia),SqL.of (sm _ _ I),Ts _⟩) (λg f H' ⟨sm,_⟩=>⟨vs,SqL.of (sm _ _ I),by lia⟩) (λg i f H' xv q o hi ⟨sm,hD,y,nD⟩ J P=>?_) λg f H' hD ⟨sm,L,y,_⟩=>k g f H' hD sm L (by rw[U4]at y;exact y.mono λ_ _ h=>h.1);obtain⟨rfl,J⟩:=J;have hx:=J _ (SqL.of (sm _ _ I));obtain⟨r,A,b,rfl,hb⟩:=al.get hx;have mk:r∈ks:=sub r (T5 A);rw[h1]at P;obtain⟨u0,rfl⟩:=VB.mp P;rw[x];have hb:=sm _ _ hb;have hk:=sm _ _ (O r mk);refine⟨λj F=>?_,mB ⟨_,rfl,Reads.yk (v:=.bp) (.va rfl) (.va rfl) (.inl (sm _ _ hr)) mk hb _ ⟨LA r,W r,rfl,.inl (SqL.of hk),λm s=>⟨by show 2<=_;rw[Ud];lia,λp M=>?_⟩⟩⟩⟩
 .rw[h1]at F;obtain⟨j,rfl⟩:=UV F;rfl
 .have s2:Same q (upd q m (.lst (W r))):=ao s;have w:Same (upd q m (.lst (W r))) (upd (upd q m (.lst (W r))) p (.tup [.ref b,.ref m])):=ao M;have a:=s2.trans w;have npD:p≠g:=λz=>by rw[z,s2 _ _ hD]at M;cases M
  have B:m≠g:=λz=>by rw[z,hD]at s;cases s
  have E:upd (upd q m (.lst (W r))) p (.tup [.ref b,.ref m]) m=some (.lst (W r)):=w _ _ af;have N:∀j∈ks,LA j≠m:=λj F z=>by rw[<- z,sm _ _ (O j F)]at s;cases s
  have t:upd (upd q m (.lst (W r))) p (.tup [.ref b,.ref m]) p=some (.tup [.ref b,.ref m]):=af;generalize upd (upd q m (.lst (W r))) p (.tup [.ref b,.ref m])=R at a E t;have k3:KT R (upd R g (.lst (f++[.ref p]))):=.upd (a _ _ hD) λ_ z=>(nomatch z);refine⟨a _ _ hD,qC (by rw[<- y.len,Uz];lia),λc u e=>?_,af,?_,nD⟩
  .rw[ag (aj e nD)];exact a _ _ (sm _ _ e)
  .rw[Ui,A];refine(y.mono λk v h=>?_).snoc ⟨⟨p,b,m,rfl,k3 _ _ t,k3 _ _ (a _ _ hb),by rw[ag B];exact E,N⟩,p,b,m,rfl,k3 _ _ t,B⟩;obtain⟨⟨S,T,U,e1,e2,e3,e4,e5⟩,p6,b6,l6,f1,Y,f3⟩:=h;cases e1.symm.trans f1;rw[e2]at Y;cases Y;exact⟨⟨S,T,U,e1,k3 _ _ (a _ _ e2),k3 _ _ (a _ _ e3),by rw[ag f3];exact a _ _ e4,e5⟩,S,T,U,e1,k3 _ _ (a _ _ e2),f3⟩
def Og(K:Xp):TS:=cO (EU K "list" gq (jt (am 7) (am 11)) (ai (tC (.int 0)) aG))
def after(W:bf->List V)(k2:List bf)(k:bf):List V:=if k∈k2 then W k++[.int 0]else W k
structure RV(Ha H:Hp) (ks:List bf) (LA:bf->Addr) (W:bf->List V) (done:List bf):Prop where
 l:∀k∈ks,H (LA k)=some (.lst (after W done k))
 o:∀c u,Ha c=some u->(∀j∈ks,LA j≠c)->H c=some u
theorem S_(inj:∀k∈ks,∀q∈ks,LA k=LA q->k=q)(r:Ha d=some (.dT (ks.map λk=>(k2 k,V.ref (LA k)))))(nd:∀j∈ks,LA j≠d)(s:∀j∈ks,Ha (LA j)=some (.lst (W j)))(sz:∀k,(W k).length<1000)(A:RV Ha H ks LA W ks2)(a:k∈ks)(nk:k∉ks2)(hb:Ha b=some (.tup ((k2 k).map kV)))(t:σ[7]?=some (some (.ref d)))(h:σ[11]?=some (some (.ref b)))(w:∀H',RV Ha H' ks LA W (ks2++[k])->D.nx σ H'):Og K D σ H:=by
 have x:∀j∈ks,LA j≠b:=λj f z=>by rw[<- z,s j f]at hb;cases hb
 have i:=A.o _ _ hb x;have g:=A.l k a;unfold after at g;rw[TC nk]at g;refine Reads.yk (v:=.bp) (.va t) (.va h) (.inl (A.o _ _ r nd)) a i _ ⟨.inl ⟨rfl,_,SqL.of g⟩,LA k,W k,_,rfl,rfl,g,qC (by have:=sz k;lia),w _ ⟨λj f=>?_,λc u e n=>?_⟩⟩
 .unfold after;by_cases e:j=k
  .rw[e,af,Tt (by simp)]
  .rw[ag λz=>e (inj j f k a z),A.l j f];unfold after;by_cases m:j∈ks2
   .rw[Tt m,Tt (by simp[m])]
   .rw[TC m,TC (by simp[m,e])]
 .rw[ag (UD (n k a))];exact A.o c u e n
def lD(Z:bf->List bf)(k:bf):L3.D:=.lst ((Z k).map pD++[.int 0])
def Rg:TE:=jt (am 2) (am 0)
def Rh:TE:=cY Ct (am 1) (je (ai (tC (.int 0)) aG))
theorem Oh(a:H l=some (.lst (W k++[.int 0])))(b:m l)(al:aV (IsSet H) (Z k) (W k)):Is H m (lD Z k) (.ref l):=by
 refine⟨l,_,rfl,.inl ⟨a,b⟩,?_⟩;have:=GU (m:=m) al;generalize(Z k).map pD=ds at this;generalize W k=vs at this;clear a al;induction ds generalizing vs with
 |nil=>cases(show vs=[]from this);exact⟨_,_,rfl,rfl,rfl⟩
 |cons d ds e=>obtain⟨v,r,rfl,f,g⟩:=this;exact⟨v,_,rfl,f,e r g⟩
theorem IG{R:Addr->Hp->bf->V->Prop}(st:∀{f H H' k v},Kp f H H'->R f H k v->R f H' k v){Fin:Addr->List V->Hp->Prop}(h1:tN.length=2)(m:iu σ caps=cap)(L:∀cl C s t fp,PG (aS X scope (tN++capN) cl C s t fp) tg (dU X.K 2 (aQ (ay 0) (aQ (ay 1) dS))))(M:∀cl C s t fp,PE (aS X scope (tN++capN) cl C s t fp) elt te)
 (w:∀{f k b l H'},k∈ks2->Same H1 H'->H' f≠none->H1 b=some (.tup ((k2 k).map kV))->H1 l=some (.lst (W k))->∀Q:VK,(∀v g,Same H' g->R f g k v->Q v g)->te ([some (.ref b),some (.ref l)]++cap) H' Q)
 (A:H1 tl=some (.lst tv)) (al:aV (Td H1 ks LA W) ks2 tv) (hz:ks2.length<1000) (k:∀f a H',Same H1 H'->H' f=some (.lst a)->aV (R f H') ks2 a->Fin f a H'):b9 X scope tg tN capN caps elt [] σ Fin (yp X.K tl) H1:=by
 have ln:=al.len;refine tS (n:=ks2.length) L (λ_ _ _ _ _=>iz) M (λf i a H'=>Same H1 H'/\H' f=some (.lst a)/\aV (R f H') (ks2.take i) a/\H1 f=none) (λf hD=>⟨ao hD,af,.nil,hD⟩) (λh=>h.2.1) (λf i a H' ⟨sm,_⟩ N=>⟨tv,tv[i]'(by lia),SqL.of (sm _ _ A),Ts _⟩) (λf a H' ⟨sm,_⟩=>⟨tv,SqL.of (sm _ _ A),by lia⟩) (λf i a H' U O o N ⟨sm,hD,q,nD⟩ B I=>?_) λf a H' hD ⟨sm,E,q,_⟩=>k f a H' sm E (by rw[U4]at q;exact q);obtain⟨rfl,B⟩:=B;have P:=B _ (SqL.of (sm _ _ A));obtain⟨Y,r,p,b,l,rfl,S,hb,F,_⟩:=al.get P;rw[h1]at I;obtain⟨u0,u1,rfl⟩ : ∃x y,o=[x,y]:=by
  match o,I with
  |[x,y],_=>exact⟨x,y,rfl⟩
 rw[m];refine EX (sm _ _ S) ⟨λj J=>?_,mB (w (T5 r) sm (by rw[hD];exact λz=>nomatch z) hb F _ λv g G T=>⟨G _ _ hD,qC (by rw[<- q.len,Uz];lia),λc u e=>?_,af,?_,nD⟩)⟩
 .rw[h1]at J;obtain⟨j,rfl⟩:=UV J;rfl
 .rw[ag (aj e nD)];exact G _ _ (sm _ _ e)
 .have kp:Kp f g (upd g f (.lst (a++[v]))):=λc u e n=>by rw[ag n];exact e
  rw[Ui,r];exact(q.mono λk v h=>st kp (st (λc u e _=>G c u e) h)).snoc (st kp T)
theorem xV{α:Type}{m:Addr->Prop}{f:α->V->Prop}{g:α->L3.D}{xs:List α}{l:List V}(h:aV f xs l):(∀x∈xs,∀v,f x v->Is H m (g x) v)->IsAll H m (xs.map g) l:=by
 induction h with
 |nil=>exact λ_=>rfl
 |cons a _ b=>exact λg=>⟨_,_,rfl,g _ Tw _ a,b λk e=>g k (Tu _ e)⟩
structure SD(X:Cx) (E4 Fg:Scope) (HU uj HR uh:Expr) (tN:List Str) (capN:List Str) (caps:List Nat):Prop where
 h1:tN.length=2
 hc:caps=[7]
 g1:∀cl C s3 H3 fp,PG (aS X E4 (tN++capN) cl C s3 H3 fp) HU (dU X.K 2 (aQ (ay 0) (aQ (ay 1) dS)))
 e1:∀cl C s3 H3 fp,PE (aS X E4 (tN++capN) cl C s3 H3 fp) uj Rg
 g2:∀cl C s3 H3 fp,PG (aS X Fg (tN++[]) cl C s3 H3 fp) HR (dU X.K 2 (aQ (ay 0) (aQ (ay 1) dS)))
 e2:∀cl C s3 H3 fp,PE (aS X Fg (tN++[]) cl C s3 H3 fp) uh Rh
def Oi(X:Cx)(E4 Fg:Scope)(HU uj HR uh:Expr)(tN:List Str)(capN:List Str)(caps:List Nat):TE:=cY F4 (gw X E4 HU tN capN caps uj [] (dk X.K (am 10))) (gw X Fg HR tN [] [] uh [] (dk X.K (am 10)))
theorem Ta{E4 Fg:Scope}{HU uj HR uh:Expr}{tN:List Str}(C:SD X E4 Fg HU uj HR uh tN capN caps)(F:H d=some (.dT (ks.map λk=>(k2 k,V.ref (LA k)))))(sub:∀k∈ks2,k∈ks)(G:∀k∈ks2,H (LA k)=some (.lst (W k++[.int 0])))(B:∀k∈ks2,aV (IsSet H) (Z k) (W k))(sz:∀k,(W k).length<1000)(g:H tl=some (.lst tv))(al:aV (Td H ks LA W) ks2 tv)(hz:ks2.length<1000)(I:σ[7]?=some (some (.ref d)))(i:σ[10]?=some (some (.ref tl)))
 (k:∀H',Same H H'->Q (.bl false) H'):Oi X E4 Fg HU uj HR uh tN capN caps σ H Q:=by
 refine⟨_,i,tl,rfl,⟨_,SqL.of g⟩,IG (R:=λ_ _ k v=>v=.ref (LA k)) (λ_ h=>h) C.h1 (cap:=[some (.ref d)]) (by rw[C.hc];show[σ[7]?.join]=_;rw[I];rfl) C.g1 C.e1 (λ{j k b l H'} f sm _ hb _ Q q=>Reads.yk (v:=.bp) (.va rfl) (.va rfl) (.inl (sm _ _ F)) (sub k f) (sm _ _ hb) _ (q _ _ (λ_ _ e=>e) rfl)) g al hz λJ P S s1 m r=>?_⟩;have t:∀{H'},Same H H'->aV (Td H' ks LA W) ks2 tv:=λs=>al.mono λk v ⟨p,b,l,e1,e2,e3,e4,e5⟩=>⟨p,b,l,e1,s _ _ e2,s _ _ e3,s _ _ e4,e5⟩;refine⟨_,i,tl,rfl,⟨_,SqL.of (s1 _ _ g)⟩,IG (R:=λj H k v=>∃l,v=.ref l/\l≠j/\H l=some (.lst (W k++[.int 0]))) (λkp ⟨l,e,n,h⟩=>⟨l,e,n,kp _ _ h n⟩) C.h1 (cap:=[]) rfl C.g2 C.e2 (λ{j k b l H'} f sm nD hb g Q q=>?_) (s1 _ _ g) (t s1) hz λL T M s2 u al2=>?_⟩
 .refine⟨_,rfl,US (qC (by show 1<15000000;decide)),λN w=>?_⟩;have A:=ao (o:=.lst [.int 0]) w;refine⟨l,N,W k,[.int 0],rfl,rfl,.inl (A _ _ (sm _ _ g)),.inl af,US (qC (by have:=sz k;show _+1<_;lia)),λp E=>?_⟩;have O:=ao (o:=.lst (W k++[.int 0])) E;exact q _ _ (A.trans O) ⟨p,rfl,λz=>nD (by rw[<- z];exact A.free E),af⟩
 .have a:=s1.trans s2;have dep:(L3.D.lst (ks2.map (lD Z))).dep<=50:=by
   have:D.gf (ks2.map (lD Z))<=5:=j_ λd hd=>by
    obtain⟨x,_,rfl⟩:=TH.mp hd;have:D.gf ((Z x).map pD++[.int 0])<=2:=j_ λd hd=>by
     rcases T4.mp hd with hd|hd
     .obtain⟨y,_,rfl⟩:=TH.mp hd;exact Vp rfl
     .rw[TV.mp hd];exact T2 _
    show D.gf _+1<=5;lia
   show D.gf (ks2.map (lD Z))+1<=50;lia
  refine⟨.lst (ks2.map (lD Z)),.lst (ks2.map (lD Z)),λ_=>True,λ_=>True,⟨J,_,rfl,.inl ⟨s2 _ _ m,True.intro⟩,xV r λk f v e=>?_⟩,⟨L,_,rfl,.inl ⟨u,True.intro⟩,xV al2 λk f v ⟨l,e,_,h⟩=>?_⟩,⟨dep,dep⟩,?_⟩
  .rw[e];exact Oh (a _ _ (G k f)) True.intro ((B k f).mono (bI (.of a)))
  .rw[e];exact Oh h True.intro ((B k f).mono (bI (.of a)))
  .rw[fT];exact k M a
end
abbrev Qd:=List D->Res R
abbrev Tr:Addr->Prop:=λ_=>True
def pR(a signs:Int)(RL:List Sp.Rule):D:=.tup [.int a,.int signs,.lst (RL.map aI)]
def Rj(As:List Sp.Arr)(ds:List D):R:=.jj (.i9 (As.map λa=>.inr (ak a)) ds)
def Ls(As:List Sp.Arr)(RL:List Sp.Rule):bf->List bf:=cE (aX (ba As)) RL
structure Hk(Fp:Qd) (rooms signs:Int) (RL:List Sp.Rule) (As:List Sp.Arr) (ds:List D):Prop where
 p:Fp [pR rooms signs RL]=.ok (Rj As ds)
 a:As.length<1000
 n:RL.length<63
 l:∀r∈RL,r.2.2.2.length<=2
 f:MC (Ls As RL)
structure Mg where
 (Fp Fm Fc Sz Sx SC Fh Fb:Qd)
structure RU(F:Mg) (sc:List Int) (rooms signs many:Int) (RL:List Sp.Rule) (As:List Sp.Arr) (ds:List D) (x2 x3 place y3:Int) (rs rr:R) (stk:List Int) (RW:List Rw) (more:Sp.Rule) (As2:List Sp.Arr) (ds2:List D):Prop where
 h:Hk F.Fp rooms signs RL As ds
 pos:0<rooms
 c2:F.Fc [.lst (sc.map .int),.int 2]=.ok (.val (.int x2) true [])
 m2:F.Fm [.int x2]=.ok (.val (.int place) true [])
 st:F.Sz [.int (place/3),.int signs]=.ok rs
 sd:rs.d=.lst (stk.map .int)
 rn:F.Sx [.lst (RL.map aI),.int (place%rooms),.lst (stk.map .int),.lst ((dz (sc.map D.int) (some (4+many)) (some (64+many))))]=.ok rr
 rd:rr.d=.lst (RW.map kh)
 on:∀Z,(∀k,rZ (Ls As RL k) (Z k))->RO RW (bz RL) Z F.Fh F.Fb
 c3:F.Fc [.lst (sc.map .int),.int 3]=.ok (.val (.int x3) true [])
 m3:F.Fm [.int x3]=.ok (.val (.int y3) true [])
 ru:F.SC [.int y3,.int rooms,.int signs,.bl false]=.ok (.val (aI more) true [])
 h2:Hk F.Fp rooms signs (RL++[more]) As2 ds2
section
variable{K:Xp}{H H':Hp}{p d rl:Addr}{σ:L2.St}{vs ws:List V}{Q:VK}{RL:List Sp.Rule}{rooms signs:Int}
theorem Oj(h:RetOk g H v r):Is H Tr r.d v:=by
 cases r with
 |val d fr al=>exact Is.mono (λ_ _ e _=>e) (λ_ _ _ _=>True.intro) h
 |new ds fr=>obtain⟨a,vs,rfl,e,_,b⟩:=h;exact⟨a,vs,rfl,.inl ⟨e,True.intro⟩,IsAll.mono (λ_ _ e _=>e) (λ_ _ _ _=>True.intro) b⟩
 |jj d=>exact Is.mono (λ_ _ e _=>e) (λ_ _ _ _=>True.intro) h
def vR(a:vs.length=n)(is:IsAll H Tr ds vs)(b:F ds=.ok r)(k:∀v H',Same H H'->Is H' Tr r.d v->Q v H'):jC mg n F (vs++[]) H Q E0:=by refine⟨by rw[UE];exact a,ds,Tr,by rw[UE];exact is,?_⟩;rw[b];exact λv H' s h=>k v H' s (Oj h)
def IH{m:Addr->Prop}{dd:D}(h:Is H m dd v)(s:Same H H'):Is H' Tr dd v:=Is.mono (λc u e _=>s c u e) (λ_ _ _ _=>True.intro) h
def KH(mg:Str->Option Xr)(Fm Fc:Qd)(i:Int):TE:=ck (jC mg 1 Fm) [] E0 (ai (ck (jC mg 2 Fc) [] E0 (ai (am 0) (ai (tC (.int i)) aG))) aG)
def DB{sd:D}{i x y:Int}(h0:σ[0]?=some (some v0))(is:Is H Tr sd v0)(hc:Fc [sd,.int i]=.ok (.val (.int x) true []))(a:Fm [.int x]=.ok (.val (.int y) true []))(k:∀H',Same H H'->Q (.int y) H'):KH mg Fm Fc i σ H Q:=by refine⟨_,h0,vR (ds:=[sd,.int i]) rfl ⟨_,_,rfl,is,_,_,rfl,rfl,rfl⟩ hc λv c s1 e1=>vR (ds:=[.int x]) rfl ⟨_,_,rfl,e1,rfl⟩ a λw b s2 e2=>?_⟩;cases(show w=.int y from e2);exact k b (s1.trans s2)
def II(mg:Str->Option Xr)(Fp:Qd)(ta:TE):TE:=jZ Dq (ai (ck (jC mg 1 Fp) [] E0 (ai ta aG)) aG)
theorem aV.at{α j:Type}{R:α->j->Prop}:∀{xs:List α}{c:List j},xs.length=c.length->(∀(i:Nat) x y,xs[i]?=some x->c[i]?=some y->R x y)->aV R xs c
 |[],[],_,_=>.nil
 |[],_::_,e,_=>by cases e
 |_::_,[],e,_=>by cases e
 |x::xs,y::c,e,f=>.cons (f 0 x y rfl rfl) (aV.at (by simpa using e) λi a b h g=>f (i+1) a b (by simpa using h) (by simpa using g))
theorem zp(s:F [hD]=.ok (Rj As ds))(t:∀Q:VK,(∀v c,Same H c->Is c Tr hD v->Q v c)->ta σ H Q)(k:∀h j H',Same H H'->H' h=some (.lst j)->aV (IsArr H') As j->Q (.ref h) H'):II mg F ta σ H Q:=by
 refine t _ λv c s1 g=>⟨rfl,[hD],Tr,⟨_,_,rfl,g,rfl⟩,?_⟩;rw[s];intro w x s2 y;have s2:Same c x:=s2;obtain⟨d,kvs,u,rfl,D,e2,z,m⟩:=pO y;refine⟨d,kvs,rfl,z.imp (λe=>.inl (by rw[e2,e])) (λe=>⟨.inl (by rw[e2,e.1]),e.2⟩),λl bs A hb B=>?_⟩;have n:=ao (o:=.lst (bs.map V.ref)) A;have ln:kvs.length=As.length:=by have:=U1 List.length m;simpa using this
 refine k l _ _ ((s1.trans s2).trans n) af (aV.at (by rw[Tp];lia) λi a v q r=>?_);rw[TL]at r;obtain⟨b,C,rfl⟩:=Ux.mp r;have f:i<kvs.length:=by rw[ln];exact(Tq.mp q).1
 have:=B i kvs[i] b (Ts f) C;have h2:(kvs.map (·.1))[i]?=some (ak a):=by rw[m,TL,q];rfl
 rw[TL,Ts f]at h2;have h2:kvs[i].1=ak a:=Um h2;rw[h2,Nt]at this;exact⟨b,rfl,n _ _ this⟩
structure qJ(H:Hp) (rooms signs:Int) (RL:List Sp.Rule) (p l:Addr) (ws:List V):Prop where
 t:H p=some (.tup [.int rooms,.int signs,.ref l])
 l:H l=some (.lst ws)
 i:IsAll H Tr (RL.map aI) ws
def qJ.is{l:Addr}(h:qJ H rooms signs RL p l ws):Is H Tr (pR rooms signs RL) (.ref p):=⟨p,_,rfl,h.t,_,_,rfl,rfl,_,_,rfl,rfl,_,_,rfl,⟨l,ws,rfl,.inl ⟨h.l,True.intro⟩,h.i⟩,rfl⟩
def qJ.at{l:Addr}(h:qJ H rooms signs RL p l ws):dR H RL p l ws:=⟨⟨_,_,h.t⟩,.inl h.l,kH (λx v=>jO) h.i⟩
def Bk(h:IsAll H m ds vs)(s:Same H H'):IsAll H' Tr ds vs:=IsAll.mono (λc u e _=>s c u e) (λ_ _ _ _=>True.intro) h
def qJ.more{l:Addr}(h:qJ H rooms signs RL p l ws)(s:Same H H'):qJ H' rooms signs RL p l ws:=⟨s _ _ h.t,s _ _ h.l,Bk h.i s⟩
def GY(a:TE):TE:=eY (ai (am 2) (ai (am 3) (ai a aG)))
def Qe(b:TE)(σ:L2.St)(H:Hp)(RL:List Sp.Rule):Prop:=∀Q:VK,(∀l ws a,Same H a->H l=none->a l=some (.lst ws)->IsAll a Tr (RL.map aI) ws->Q (.ref l) a)->b σ H Q
def xW(h2:σ[2]?=some (some (.int rooms)))(b:σ[3]?=some (some (.int signs)))(c:Qe tx σ H RL)(k:∀p l ws H',Same H H'->H p=none->H l=none->qJ H' rooms signs RL p l ws->Q (.ref p) H'):GY tx σ H Q:=by refine⟨_,h2,_,b,c _ λl ws g s1 nl e f=>⟨by show 3<=_;rw[Ud];lia,λp a=>?_⟩⟩;have s2:=ao (o:=.tup [.int rooms,.int signs,.ref l]) a;exact k p l ws _ (s1.trans s2) (s1.free a) nl ⟨af,s2 _ _ e,Bk f s2⟩
def Rk(K:Xp):TE:=jZ (xU K) (ai (am 5) aG)
def IJ(b:σ[5]?=some (some (.ref rl)))(c:Rd H rl (.lst ws))(e:IsAll H Tr (RL.map aI) ws):Qe (Rk K) σ H RL:=λQ q=>⟨_,b,rl,ws,rfl,.inl (.inl c),λl a=>q l ws _ (ao a) a af (Bk e (ao a))⟩
def Qf:TE:=cY Ct (am 5) (je (ai (am 13) aG))
theorem tT:∀{ds es:List D}{vs ws:List V},IsAll H m ds vs->IsAll H m es ws->IsAll H m (ds++es) (vs++ws)
 |[],_,vs,_,h,g=>by cases(show vs=[]from h);exact g
 |d::ds,_,_,_,h,g=>by obtain⟨v,r,rfl,h1,h2⟩:=h;exact⟨v,_,rfl,h1,tT h2 g⟩
theorem Ol(g:σ[5]?=some (some (.ref rl)))(b:σ[13]?=some (some vm))(h:Rd H rl (.lst ws))(hz:ws.length<1000)(i:IsAll H Tr (RL.map aI) ws)(j:Is H Tr (aI more) vm):Qe Qf σ H (RL++[more]):=λQ q=>by refine⟨_,g,_,b,US (qC (by show 1<15000000;decide)),λk c=>?_⟩;have a:=ao (o:=.lst [vm]) c;refine⟨rl,k,ws,[vm],rfl,rfl,bh a h,.inl af,US (qC (by show ws.length+1<_;lia)),λp f=>?_⟩;have e:=ao (o:=.lst (ws++[vm])) f;refine q p _ _ (a.trans e) (a.free f) af ?_;rw[Ua];exact tT (Bk i (a.trans e)) ⟨_,_,rfl,IH j (a.trans e),rfl⟩
end
def IK(h:IsRule H r v):Is H m (aI r) v:=by obtain⟨p,q,rfl,a,b⟩:=h;exact⟨p,_,rfl,a,_,_,rfl,rfl,_,_,rfl,rfl,_,_,rfl,rfl,_,_,rfl,⟨q,_,rfl,b,pj _⟩,rfl⟩
def KI(h:Is H m (aI r) v)(kt:KT H H'):Is H' m' (aI r) v:=IK (IsRule.keep kt _ _ (jO h))
def GZ{m m':Addr->Prop}{RL:List Sp.Rule}{ws:List V}(h:IsAll H m (RL.map aI) ws)(kt:KT H H'):IsAll H' m' (RL.map aI) ws:=xV (kH (λx v=>jO) h) λx _ v h=>IK (IsRule.keep kt _ _ h)
structure R4 where
 (R5 E4 Fg:Scope)
 (SB PL HU uj HR uh:Expr)
 (Qj tN capN:List Str)
 (caps:List Nat)
structure RQ(X:Cx) (S:R4):Prop where
 c:SD X S.E4 S.Fg S.HU S.uj S.HR S.uh S.tN S.capN S.caps
 h0:S.Qj.length=1
 g0:∀cl C s3 H3 fp,PG (aS X S.R5 (S.Qj++S.capN) cl C s3 H3 fp) S.SB (ay 0)
 e0:∀cl C s3 H3 fp,PE (aS X S.R5 (S.Qj++S.capN) cl C s3 H3 fp) S.PL (Of X.K)
section
variable(X:Cx)(mg:Str->Option Xr)(F:Mg)(S:R4)
def Om:TE:=ck (EN mg F.Fp) [] E0 (ai (am 6) aG)
def On:TS:=jc (ck Bg [] E0 (ai (Om mg F) (ai (am 14) aG)))
def Oo(ta a:TE):TE:=ck EG [] E0 (ai ta (ai (II mg F.Fp (GY a)) aG))
def Oq:TS:=bm (dg (Oo mg F Qf Qf) (ay 14)) (On mg F)
def Os:TS:=bm (cO (EU X.K "list" gq (tI X.K 6 2) (ai (am 13) aG))) (Oq mg F)
def KJ:TS:=bm (dg (ck (jC mg 4 F.SC) [] E0 (ai (KH mg F.Fm F.Fc 3) (ai (am 2) (ai (am 3) (ai (tC (.bl false)) aG))))) (ay 13)) (Os X mg F)
def Ot:TS:=bm (cO (FD X.K "dict" IE (am 7))) (KJ X mg F)
def Rm:TS:=bm (gh (cS (Oi X S.E4 S.Fg S.HU S.uj S.HR S.uh S.tN S.capN S.caps)) EZ cW) (Ot X mg F)
def Ou:TS:=bm (jd (dk X.K (am 10)) (dU X.K 2 (aQ (ay 11) (aQ (ay 12) dS))) (Og X.K)) (Rm X mg F S)
def Ov:TS:=bm (IF X S.R5 S.SB S.PL S.Qj S.capN S.caps 10 (dk X.K (jZ Dt (ai (am 7) aG)))) (Ou X mg F S)
def Ow:TS:=bm (gh (uC (tB (ck (EH F.Fh F.Fb) [] E0 (ai (am 9) (ai (am 7) aG))))) EZ cW) (Ov X mg F S)
def Ox:R2:=rI (λ_ j=>0<j) λi j=>.int (i%j)
def Oy:R2:=rI MP λi j=>.int (i/j)
def Rn:TE:=ck (jC mg 2 F.Sz) [] E0 (ai (cY Oy (am 8) (tC (.int 3))) (ai (am 3) aG))
def Ro(K:Xp):TE:=R9 (MV K) (am 0) (BC (cY kF (tC (.int 4)) (am 4))) (BC (cY kF (tC (.int 64)) (am 4)))
def Oz:TS:=bm (dg (ck (jC mg 4 F.Sx) [] E0 (ai (am 5) (ai (cY Ox (am 8) (am 2)) (ai (Rn mg F) (ai (Ro X.K) aG))))) (ay 9)) (Ow X mg F S)
def OA:TS:=bm (dg (KH mg F.Fm F.Fc 2) (ay 8)) (Oz X mg F S)
def OB:TS:=bm (gh (uC (tB (ck Bg [] E0 (ai (am 7) (ai (Oo mg F (am 5) (Rk X.K)) aG))))) EZ cW) (OA X mg F S)
def Sm:TS:=bm (gh (cS (cY F4 (am 6) (GY (am 5)))) EZ cW) (OB X mg F S)
def Sn:TS:=bm (dg (Om mg F) (ay 7)) (Sm X mg F S)
def Rp:TS:=bm (dg (GY (Rk X.K)) (ay 6)) (Sn X mg F S)
end
section
variable{X:Cx}{mg:Str->Option Xr}{F:Mg}{S:R4}{B H0 H H':Hp}{p d rl:Addr}{σ:L2.St}{vs ws:List V}{Q:VK}{ds ds2:List L3.D}{As As2:List Sp.Arr}{RL:List Sp.Rule}{rooms signs many:Int}{sc:List Int}{x2 x3 place y3:Int}{rs rr:R}{stk:List Int}{RW:List Rw}{more:Sp.Rule}{D:Ends}{ks:List bf}{Z:bf->List bf}{LA:bf->Addr}
structure L0(H0:Hp) (sc:List Int) (RL:List Sp.Rule) (v0:V) (rl:Addr) (ws:List V):Prop where
 s:Is H0 Tr (.lst (sc.map .int)) v0
 l:Rd H0 rl (.lst ws)
 i:IsAll H0 Tr (RL.map aI) ws
def we(v0:V)(s1:Option V)(rooms signs many:Int)(rl p:Addr)(x7 g h a b c e f:Option V):L2.St:=[some v0,s1,some (.int rooms),some (.int signs),some (.int many),some (.ref rl),some (.ref p),x7,g,h,a,b,c,e,f]
theorem Rr{l:Addr}{j:List V}(R:RU F sc rooms signs many RL As ds x2 x3 place y3 rs rr stk RW more As2 ds2)(I:L0 H0 sc RL v0 rl ws)(s0:Same H0 H)(h:qJ H rooms signs RL p l j)(nl:H0 l=none)(hs:σ=we v0 s1 rooms signs many rl p x7 x8 x9 x10 x11 x12 x13 x14)(k:∀H',Same H0 H'->D.rt (.bl true) H'):KJ X mg F D σ H:=by
 subst hs;have wz:ws.length<1000:=by have:=(kH (λx v=>jO) I.i).len;have:=R.h.n;lia
 have wz2:j.length<1000:=by have:=(kH (λx v=>jO) h.i).len;have:=R.h.n;lia
 refine DB (x:=x3) (y:=y3) (sd:=.lst (sc.map .int)) rfl (IH I.s s0) R.c3 R.m3 λH1 W=>?_;refine⟨_,rfl,_,rfl,vR (ds:=[.int y3,.int rooms,.int signs,.bl false]) rfl ⟨_,_,rfl,rfl,_,_,rfl,rfl,_,_,rfl,rfl,_,_,rfl,rfl,rfl⟩ R.ru λb m Y E=>?_⟩;have E:Is m Tr (aI more) b:=E;have h2:=(h.more W).more Y;have s2:=(s0.trans W).trans Y;show Os X mg F D (we v0 s1 rooms signs many rl p x7 x8 x9 x10 x11 x12 (some b) x14) m;refine Reads.ix (K:=X.K) (.va (i:=6) rfl) h2.t (n:=2) (v:=.ref l) rfl _ ⟨.inl ⟨rfl,_,SqL.of h2.l⟩,_,rfl,l,j,b,rfl,rfl,h2.l,qC (by lia),?_⟩;have kp:∀c u,m c=some u->c≠l->upd m l (.lst (j++[b])) c=some u:=λc u e n=>by rw[ag n];exact e
 have A:Same H0 (upd m l (.lst (j++[b]))):=λc u e=>kp _ _ (s2 _ _ e) λz=>by rw[z,nl]at e;cases e
 have kt:KT m (upd m l (.lst (j++[b]))):=.upd h2.l λ_ z=>(nomatch z);have o:=KI (m':=Tr) E kt;have G:qJ (upd m l (.lst (j++[b]))) rooms signs (RL++[more]) p l (j++[b]):=⟨kt _ _ h2.t,af,by rw[Ua];exact tT (GZ h2.i kt) ⟨_,_,rfl,o,rfl⟩⟩;generalize upd m l (.lst (j++[b]))=C at A o G;clear kp kt;have mk:∀H',Same C H'->Qe Qf (we v0 s1 rooms signs many rl p x7 x8 x9 x10 x11 x12 (some b) x14) H' (RL++[more]):=λH' t=>Ol rfl rfl (bh (A.trans t) I.l) wz (Bk I.i (A.trans t)) (IH o t);show Oq mg F D (we v0 s1 rooms signs many rl p x7 x8 x9 x10 x11 x12 (some b) x14) C;refine mk C (λ_ _ e=>e) _ λlr wr H4 t4 _ J M=>zp R.h2.p (λQ q=>xW rfl rfl (mk H4 t4) λp5 l5 w5 H5 t5 _ _ h5=>q _ _ t5 h5.is) λlg wg H6 N O P=>?_;refine .mk (RL:=RL++[more]) (As:=As2) (.inl (N _ _ J)) (kH (λx v=>jO) (Bk M N)) (.inl O) P (by have:=R.h2.n;lia) R.h2.a R.h2.l (λk=>(R.h2.f k).1) λd2 RA H7 T=>?_;have U:Same C H7:=(t4.trans N).trans T.s;show On mg F D (we v0 s1 rooms signs many rl p x7 x8 x9 x10 x11 x12 (some b) (some (.ref d2))) H7;refine⟨_,rfl,.mk (G.more U).at (G.more U).is R.h2.p R.h2.a (by have:=R.h2.n;lia) R.h2.f λd5 Z LA H8 w=>⟨_,rfl,?_⟩⟩;refine .mk (L:=Ls As2 (RL++[more])) w.g (T.more bI w.g.s) (λz=>?_) w.s R.h2.f λH9 t9=>k H9 (((A.trans U).trans w.g.s).trans t9);have:=w.g.na;rw[<- z,T.r]at this;cases this
theorem Rt(K:RQ X S)(g:Gr IsSet B H d ks Z LA)(m:ks.length<=63)(hZ:∀k,(Z k).length<=63)(hs:σ=we v0 s1 rooms signs many rl p (some (.ref d)) x8 x9 L C E x13 x14)(k:∀x7 L C E H',Same B H'->KJ X mg F D (we v0 s1 rooms signs many rl p x7 x8 x9 L C E x13 x14) H'):Ov X mg F S D σ H:=by
 subst hs;obtain⟨W,M⟩:=Classical.axiomOfChoice (r:=λ(k:bf)(w:List V)=>w.length<1000/\(k∈ks->H (LA k)=some (.lst w)/\aV (IsSet H) (Z k) w)) λk=>by
  by_cases h:k∈ks
  .obtain⟨_,vs,e,al⟩:=g.v k h;exact⟨vs,by rw[<- al.len];have:=hZ k;lia,λ_=>⟨e,al⟩⟩
  .exact⟨[],Vp rfl,λz=>(h z).elim⟩
 have N:∀k∈ks,H (LA k)=some (.lst (W k))/\aV (IsSet H) (Z k) (W k):=λk m=>(M k).2 m;have sz:∀k,(W k).length<1000:=λk=>(M k).1;have nd:∀j∈ks,LA j≠d:=λj f z=>by have:=(N j f).1;rw[z,g.r]at this;cases this
 refine AU (.va rfl) (.inl g.r) m λl ks2 vs hl sub R al hz2=>⟨l,rfl,⟨_,SqL.of af⟩,?_⟩;have n:=ao (o:=.lst vs) hl;refine GX (W:=W) (ks:=ks) (LA:=LA) (d:=d) K.h0 (by rw[K.c.hc];rfl) K.g0 K.e0 (n _ _ g.r) (λk m=>n _ _ (N k m).1) sub af (al.mono λk v ⟨b,e,h⟩=>⟨b,e,n _ _ h⟩) (by lia) λJ tv O nD sa hD td=>?_;have t:Same H O:=n.trans sa;have G:=t _ _ g.r;have x:∀j∈ks,O (LA j)=some (.lst (W j)):=λj f=>t _ _ (N j f).1;have P:∀j∈ks,LA j≠J:=λj f z=>by rw[<- z,n _ _ (N j f).1]at nD;cases nD
 show Ou X mg F S D (we v0 s1 rooms signs many rl p (some (.ref d)) x8 x9 (some (.ref J)) C E x13 x14) O;refine⟨_,rfl,J,rfl,⟨_,SqL.of hD⟩,?_⟩;refine jn (K:=X.K) (a:=J) (xs:=tv) (λi σ' H'=>(∃y z,σ'=we v0 s1 rooms signs many rl p (some (.ref d)) x8 x9 (some (.ref J)) y z x13 x14)/\RV O H' ks LA W (ks2.take i)) ⟨⟨_,_,rfl⟩,λk m=>x k m,λc u e _=>e⟩ (λi σ' H' _ q=>SqL.of (q.2.o _ _ hD P)) (λi v σ' H' hi q=>?_) λσ' H' q=>?_
 .obtain⟨⟨y,z,rfl⟩,A⟩:=q;obtain⟨T,I,p',b,l',rfl,h1,h2,h3,h4⟩:=td.get hi;have mk:T∈ks:=sub T (T5 I);have np:∀j∈ks,LA j≠p':=λj f z=>by rw[<- z,x j f]at h1;cases h1
  refine EX (A.o _ _ h1 np) (S_ g.i G nd x sz A mk (λz=>?_) h2 rfl rfl λH2 A2=>⟨⟨_,_,rfl⟩,by rw[Ui,I];exact A2⟩);obtain⟨j,f⟩:=TN.mp z;rw[List.getElem?_take]at f;split at f
  .have:=(Wa (Tq.mp f).1 R).mp (f.trans I.symm);lia
  .cases f
 .obtain⟨⟨y,z,rfl⟩,A⟩:=q;rw[<- td.len,U4]at A;have kt:KT O H':=λc ws e=>A.o c _ e λj f z=>by rw[<- z,x j f]at e;cases e
  have sB:Same B H':=λc u e=>A.o c u (t _ _ (g.s _ _ e)) λj f z=>by rw[<- z,(g.v j f).1]at e;cases e
  refine Ta (ks:=ks) (ks2:=ks2) (LA:=LA) (W:=W) (Z:=Z) (d:=d) K.c (A.o _ _ G nd) sub (λk m=>?_) (λk m=>(N k (sub k m)).2.mono (bI ((KT.of t).trans kt))) sz (A.o _ _ hD P) (td.mono λk v ⟨p,b,l,e1,e2,e3,e4,e5⟩=>⟨p,b,l,e1,kt _ _ e2,kt _ _ e3,A.o _ _ e4 e5,e5⟩) (by lia) rfl rfl λH5 U=>⟨_,rfl,gk ?_⟩
  .have:=A.l k (sub k m);unfold after at this;rw[Tt m]at this;exact this
  .have Y:=U _ _ (A.o _ _ G nd);show Ot X mg F D (we v0 s1 rooms signs many rl p (some (.ref d)) x8 x9 (some (.ref J)) y z x13 x14) H5;refine⟨_,rfl,.inr (.inr (.inl ⟨rfl,.inr ⟨_,Y⟩⟩)),d,_,rfl,rfl,Y,k _ _ _ _ _ λc u e=>?_⟩;rw[ag λz=>by rw[z,g.na]at e;cases e];exact U _ _ (sB _ _ e)
theorem Ru{v0:V}(K:RQ X S)(R:RU F sc rooms signs many RL As ds x2 x3 place y3 rs rr stk RW more As2 ds2)(I:L0 H sc RL v0 rl ws)(hs:σ=[some v0,s1,some (.int rooms),some (.int signs),some (.int many),some (.ref rl),x6,x7,x8,x9,c,j,t,x13,x14])(k:∀H',Same H H'->D.rt (.bl true) H'):Rp X mg F S D σ H:=by
 subst hs;have rz:RL.length<1000:=by have:=R.h.n;lia
 delta Rp bm dg
 dsimp only;refine xW (σ:=[some v0,s1,some (.int rooms),some (.int signs),some (.int many),some (.ref rl),x6,x7,x8,x9,c,j,t,x13,x14]) rfl rfl (IJ (K:=X.K) rfl I.l I.i) λp l wh H1 t1 np nl h1=>?_;show Sn X mg F S D (we v0 s1 rooms signs many rl p x7 x8 x9 c j t x13 x14) H1;refine⟨_,rfl,.mk h1.at h1.is R.h.p R.h.a rz R.h.f λd Z LA H2 g=>?_⟩;have h2:=h1.more g.g.s;have s2:=t1.trans g.g.s;show Sm X mg F S D (we v0 s1 rooms signs many rl p (some (.ref d)) x8 x9 c j t x13 x14) H2;have iR:=Bk I.i s2;refine⟨_,rfl,_,rfl,_,rfl,_,rfl,by show 3<=_;rw[Ud];lia,λq hq=>?_⟩;have T:=ao (o:=.tup [.int rooms,.int signs,.ref rl]) hq;have C:upd H2 q (.tup [.int rooms,.int signs,.ref rl]) q=some (.tup [.int rooms,.int signs,.ref rl]):=af;generalize upd H2 q (.tup [.int rooms,.int signs,.ref rl])=U at T C;have dep:(pR rooms signs RL).dep<=50:=by
  have:L3.D.gf (RL.map aI)<=4:=j_ λd hd=>by
   obtain⟨x,_,rfl⟩:=TH.mp hd;have:L3.D.gf (x.2.2.2.map L3.D.int)<=1:=j_ λd hd=>by obtain⟨y,_,rfl⟩:=TH.mp hd;exact T2 _
   show max 0 (max 0 (max 0 (max (L3.D.gf (x.2.2.2.map L3.D.int)+1) 0)))+1<=4;lia
  show max 0 (max 0 (max (L3.D.gf (RL.map aI)+1) 0))+1<=50;lia
 have A:=s2.trans T;have E:Is U Tr (.lst (RL.map aI)) (.ref rl):=⟨rl,ws,rfl,(bh A I.l).imp (λe=>⟨e,True.intro⟩) (λ⟨o,e⟩=>⟨o,e,True.intro⟩),Bk I.i A⟩;refine⟨pR rooms signs RL,pR rooms signs RL,Tr,Tr,(h2.more T).is,⟨q,_,rfl,C,_,_,rfl,rfl,_,_,rfl,rfl,_,_,rfl,E,rfl⟩,⟨dep,dep⟩,_,rfl,?_⟩;rw[fT];refine gk ?_;show OB X mg F S D (we v0 s1 rooms signs many rl p (some (.ref d)) x8 x9 c j t x13 x14) U;have g3:=g.g.more bI T;refine⟨_,rfl,_,rfl,zp R.h.p (λQ q=>xW rfl rfl (IJ rfl (bh A I.l) (Bk I.i A)) λp5 l5 w5 H5 t5 _ _ h5=>q _ _ t5 h5.is) λlg wg H4 W hlg alg=>?_⟩;have s4:=A.trans W;refine .mk (RL:=RL) (As:=As) (bh s4 I.l) (kH (λx v=>jO) (Bk I.i s4)) (.inl hlg) alg rz R.h.a R.h.l (λk=>(R.h.f k).1) λd2 RA H5 Y=>?_;have g35:=g3.more bI (W.trans Y.s);refine .mk (L:=Ls As RL) g35 Y (λz=>?_) g.s R.h.f λH6 t6=>⟨_,rfl,gk ?_⟩
 .have:=Y.na;rw[z,W _ _ g3.r]at this;cases this
 have u:Same U H6:=(W.trans Y.s).trans t6;have s6:=A.trans u;show OA X mg F S D (we v0 s1 rooms signs many rl p (some (.ref d)) x8 x9 c j t x13 x14) H6;refine DB (sd:=.lst (sc.map .int)) rfl (IH I.s s6) R.c2 R.m2 λH7 t7=>?_;have s7:=s6.trans t7;show Oz X mg F S D (we v0 s1 rooms signs many rl p (some (.ref d)) (some (.int place)) x9 c j t x13 x14) H7;refine⟨_,rfl,_,rfl,_,rfl,_,_,rfl,rfl,R.pos,_,rfl,_,_,rfl,rfl,⟨by decide,by decide⟩,_,rfl,vR (ds:=[.int (place/3),.int signs]) rfl ⟨_,_,rfl,rfl,_,_,rfl,rfl,rfl⟩ R.st λvst H8 t8 G=>?_⟩;rw[R.sd]at G;have s8:=s7.trans t8;obtain⟨la,wa,e0,hla,ia⟩:=pH (IH I.s s8);refine⟨_,rfl,_,rfl,_,_,rfl,rfl,_,rfl,_,rfl,_,_,rfl,rfl,_,rfl,?_⟩;refine⟨la,wa,e0,.inl hla,λlc hlc=>?_⟩;have J:=ao (o:=.lst (sv wa (some (4+many)) (some (64+many)))) hlc;have s9:=s8.trans J;refine vR (ds:=[.lst (RL.map aI),.int (place%rooms),.lst (stk.map .int),.lst (dz (sc.map L3.D.int) (some (4+many)) (some (64+many)))]) rfl ⟨_,_,rfl,IH E ((u.trans t7).trans (t8.trans J)),_,_,rfl,rfl,_,_,rfl,IH G J,_,_,rfl,⟨lc,_,rfl,.inl ⟨af,True.intro⟩,Bk (ia.cut _ _) J⟩,rfl⟩ R.rn λvr M t10 w=>?_;rw[R.rd]at w;obtain⟨la2,wa2,rfl,_,_⟩:=pH w;have N:Same U M:=((u.trans t7).trans (t8.trans J)).trans t10;have O:=g3.more bI N;show Ow X mg F S D (we v0 s1 rooms signs many rl p (some (.ref d)) (some (.int place)) (some (.ref la2)) c j t x13 x14) M;refine⟨_,rfl,_,rfl,.mk ⟨w⟩ O (R.on Z g.s) λH11 t11=>⟨_,rfl,gk ?_⟩⟩;have g11:=O.more bI t11;obtain⟨_,ln,_⟩:=f6 RL;refine Rt K g11 (by have:=R.h.n;lia) (λk=>(R.h.f k).2 (Z k) ((g.s k).p.imp λ{a b} h z=>by subst z;exact n8 h) λx hx=>((g.s k).m x).mp hx) rfl λx7 c j t H12 P=>?_;exact Rr (l:=l) R I (t1.trans P) (h1.more P) nl rfl k
end
def KL{α:Type}{l:List α}(h:l.length=15):∃f g i j k m n o p q a b c d e,l=[f,g,i,j,k,m,n,o,p,q,a,b,c,d,e]:=by
 match l,h with
 |[f,g,i,j,k,m,n,o,p,q,a,b,c,d,e],_=>exact⟨_,_,_,_,_,_,_,_,_,_,_,_,_,_,_,rfl⟩
def G4(hc:X.calm=true)(S:b5 X scope tN capN caps)(c:X.N.Nodup)(a:X.N[i]?=some y)(d:X.env.scope.names.lookup y=some .local)(e:PI X tg iter wi)
 (b:autoParam (swapsWith (.ListComp elt [⟨tg,iter,[],0⟩] scope pos) (some (.Name y py)) spos.line X.env=pure true) aM) (f:autoParam (∀x,foldedSetIterable iter X.env x=pure x) az):PS X (.Assign [.Name y py] (.ListComp elt [⟨tg,iter,[],0⟩] scope pos) spos) (IF X scope tg elt tN capN caps i wi):=λac s σ H D I h=>u_ hc S c a d b I e h f
structure Sw(env:En) (d0:D) (f0:Bool) (rooms:Int) (f2:Bool) (signs:Int) (f3:Bool) (many:Int) (f4:Bool) (d5:D) (f5:Bool):Prop where
 n:env.length=15
 e0:env[0]?=some (some (.val d0 f0))
 e2:env[2]?=some (some (.val (.int rooms) f2))
 e3:env[3]?=some (some (.val (.int signs) f3))
 e4:env[4]?=some (some (.val (.int many) f4))
 e5:env[5]?=some (some (.val d5 f5))
def Rv(F:Mg)(e:List Int)(a signs b:Int)(RL:List Sp.Rule):Prop:=∃As ds f g place h rs i stk RW more c d,RU F e a signs b RL As ds f g place h rs i stk RW more c d
def KM(F:Mg)(env:En):Prop:=∃c a signs b RL d e f f4 f5,Sw env (.lst (c.map .int)) d a e signs f b f4 (.lst (RL.map aI)) f5/\Rv F c a signs b RL
open Classical in
def OC(F:Mg):En->Res Fl:=λenv=>if KM F env then .ok (.rt (.val (.bl true) true []))else .stuck
def KN(h:KM F env):OC F env=.ok (.rt (.val (.bl true) true [])):=Tt h
def G5(h:PSs X ss (Rp X X.mg F S))(i:RQ X S):sW X E ss (OC F):=by
 refine⟨_,h,λg M N env σ H D b p=>?_⟩;unfold OC at p;by_cases f:KM F env
 case neg=>rw[TC f]at p;exact p.elim
 case pos=>
 rw[Tt f]at p;obtain⟨O,c,signs,d,RL,P,Q,T,f4,f5,e,As,ds,U,V,place,W,rs,Y,stk,RW,more,j,k,R⟩:=f;obtain⟨v0,l,m⟩:=b.slot 0 _ e.e0;obtain⟨v2,q2,q⟩:=b.slot 2 _ e.e2;obtain⟨r,t,u⟩:=b.slot 3 _ e.e3;obtain⟨v,w,x⟩:=b.slot 4 _ e.e4;obtain⟨Z,y,A⟩:=b.slot 5 _ e.e5;obtain rfl:v2=.int c:=q;obtain rfl:r=.int signs:=u;obtain rfl:v=.int d:=x;obtain⟨rl,ws,rfl,B,C⟩:=pH A;obtain⟨a0,a1,a2,a3,a4,a5,a6,a7,a8,a9,G,I,J,K,L,rfl⟩:=KL (b.len.symm.trans e.n);cases l;cases q2;cases t;cases w;cases y;exact Ru i R ⟨IH m λ_ _ e=>e,B,Bk C λ_ _ e=>e⟩ rfl λH' s=>p _ M H' ⟨λ_ z=>z,λa o e _=>s a o e⟩ (b.same.trans s) (λ_=>rfl) λ_=>rfl
end L4
namespace L3
open PySem L2
section
variable{env bV:En}{i j:Nat}{d:D}{ds es:List D}{f g:Bool}{al bl:List Nat}{x y:Int}
def kS(k:En->Res Fl):Fl->Res Fl
 |.nx bV=>k bV
 |r=>.ok r
theorem OD(f k:En->Res Fl)(env:En):bX f k env=(f env).bind (kS k):=by rfl
def Rx(k:En->Res Fl)(e:En):kS k (.nx e)=k e:=(rfl)
def Ry(k:En->Res Fl)(r:R):kS k (.rt r)=.ok (.rt r):=(rfl)
def Rz(a b:En->Res Fl)(env:En)(k:Bool):Res Fl:=if k then a env else b env
theorem RB(c:En->Res Bool)(a b:En->Res Fl)(env:En):Bj c a b env=(c env).bind (Rz a b env):=(rfl)
theorem OE(a b:En->Res Fl)(env:En):Rz a b env true=a env:=(rfl)
theorem OF(a b:En->Res Fl)(env:En):Rz a b env false=b env:=(rfl)
theorem OG(env:En):oZ env=.ok (.nx env):=(rfl)
def OH(r:R):Res Fl:=.ok (.rt r)
theorem OI(a:En->Res R)(env:En):jE a env=(a env).bind OH:=(rfl)
def KO(r:R):OH r=.ok (.rt r):=(rfl)
def OJ(i:Nat)(env:En)(r:R):Res Fl:=if i<env.length then .ok (.nx (put env i r))else .stuck
theorem OL(i:Nat)(a:En->Res R)(env:En):cC i a env=(a env).bind (OJ i env):=(rfl)
def KP(r:R)(h:i<env.length):OJ i env r=.ok (.nx (put env i r)):=Tt h
def KQ:put env i (.val d f [])=env.set i (some (.val d f)):=(rfl)
def KR:put env i (.new ds f)=env.set i (some (.own ds f)):=(rfl)
def Qg(i:Nat):Option (Option Sl)->Res R
 |some (some (.val d fr))=>.ok (mF d fr [])
 |some (some (.own ds fr))=>.ok (.val (.lst ds) fr [i])
 |some (some (.sj d))=>.ok (.val d true [i])
 |_=>.stuck
theorem OM(i:Nat)(env:En):aF i env=Qg i env[i]?:=by unfold aF Qg;rfl
def ON:Qg i (some (some (.val d f)))=.ok (mF d f []):=(rfl)
def OO:Qg i (some (some (.own ds f)))=.ok (.val (.lst ds) f [i]):=(rfl)
theorem Tc(d:D)(env:En):vC d env=.ok (.val d true []):=(rfl)
def KS(h:d.flat=true):mF d f al=.val d true []:=by unfold mF;rw[Tt h]
def KU(h:d.flat=false):mF d f al=.val d f al:=by unfold mF;rw[TC (by rw[h];simp)]
def DC(h:D.bP ds=true):mG ds f al=.new ds true:=by unfold mG;rw[Tt h]
def Sq(op:R->R->Res R)(a:En->Res R)(env:En)(b:R):Res R:=(a env).bind (op b)
theorem RC(op:R->R->Res R)(a b:En->Res R)(env:En):v2 op a b env=(a env).bind (Sq op b env):=(rfl)
theorem OP(op:R->R->Res R)(a:En->Res R)(env:En)(b:R):Sq op a env b=(a env).bind (op b):=(rfl)
def OQ:gH (.val (.int x) f al) (.val (.int y) g bl)=.ok (.val (.int (x+y)) true []):=(rfl)
def KW(h1:-18446744073709551616<y)(h2:y<18446744073709551616):oU (.val (.int x) f al) (.val (.int y) g bl)=.ok (.val (.int (x*y)) true []):=by
 have:Cq x y=true:=by unfold Cq;rw[Bool.or_eq_true,Uu,Uu];exact .inr ⟨TZ (by lia),TZ (by lia)⟩
 show(if Cq x y=true then _ else _)=_;rw[Tt this]
def OR(h:0<y):c_ (.val (.int x) f al) (.val (.int y) g bl)=.ok (.val (.int (x%y)) true []):=by show(if decide (0<y)=true then _ else _)=_;rw[Tt (TZ h)]
def OS(h:0<y)(h2:y<1073741824):ij (.val (.int x) f al) (.val (.int y) g bl)=.ok (.val (.int (x/y)) true []):=by show(if(decide (0<y)&&decide (y<1073741824))=true then _ else _)=_;rw[Tt (by rw[TZ h,TZ h2];rfl)]
def RD:Mx (.val (.int x) f al) (.val (.int y) g bl)=.ok (.val (.bl (decide (x<y))) true []):=(rfl)
def RE:M_ (.val (.int x) f al) (.val (.int y) g bl)=.ok (.val (.bl (decide (y<x))) true []):=(rfl)
def nM(h:a.d.dep<=50)(h2:b.d.dep<=50):xk a b=.ok (.val (.bl (jl a.d b.d)) true []):=by unfold xk;rw[Tt ⟨h,h2⟩]
def OT:jl (.int x) (.int y)=(x==y):=(rfl)
def OU(xs a:List D)(f:Bool)(al:List Nat):Res R:=if xs.length+a.length<=lim then .ok (mG (xs++a) f al)else .stuck
def G6:gH (.new ds f) (.new es g)=OU ds es (f&&g) []:=(rfl)
def KY(h:ds.length+es.length<=1000000):OU ds es f al=.ok (mG (ds++es) f al):=Tt h
def IL(fs:En->Res (List R))(env:En)(r:R):Res (List R):=(fs env).bind (λrs=>.ok (r::rs))
def DD(r:R)(rs:List R):Res (List R):=.ok (r::rs)
theorem KZ(env:En):bU env=.ok []:=(rfl)
theorem G7(a:En->Res R)(fs:En->Res (List R))(env:En):aP a fs env=(a env).bind (IL fs env):=(rfl)
theorem G8(fs:En->Res (List R))(env:En)(r:R):IL fs env r=(fs env).bind (DD r):=(rfl)
def DE(r:R)(rs:List R):DD r rs=.ok (r::rs):=(rfl)
def OV(rs:List R):Res R:=if rs.length<=lim then .ok (mF (.tup (rs.map R.d)) (bS rs) (cU rs))else .stuck
theorem OW(fs:En->Res (List R))(env:En):oX fs env=(fs env).bind OV:=(rfl)
def K1(rs:List R)(h:rs.length<=1000000):OV rs=.ok (mF (.tup (rs.map R.d)) (bS rs) (cU rs)):=Tt h
def OX(rs:List R):Res R:=if rs.length<=lim then .ok (mG (rs.map R.d) (bS rs) (cU rs))else .stuck
theorem OY(fs:En->Res (List R))(env:En):u4 fs env=(fs env).bind OX:=(rfl)
def K3(rs:List R)(h:rs.length<=1000000):OX rs=.ok (mG (rs.map R.d) (bS rs) (cU rs)):=Tt h
def DF:bS []=true:=(rfl)
def AV(r:R)(rs:List R):bS (r::rs)=(r.fr&&bS rs):=(rfl)
def DG:cU []=[]:=(rfl)
def AW(r:R)(rs:List R):cU (r::rs)=r.al++cU rs:=(rfl)
def IM(F:List D->Res R)(rs:List R):Res R:=(F (rs.map R.d)).bind (λr=>.ok (kC rs r))
def DH(rs:List R)(r:R):Res R:=.ok (kC rs r)
theorem K4(F:List D->Res R)(fs:En->Res (List R))(env:En):eQ F fs env=(fs env).bind (IM F):=(rfl)
def G9(F:List D->Res R)(rs:List R):IM F rs=(F (rs.map R.d)).bind (DH rs):=(rfl)
def DI(rs:List R)(r:R):DH rs r=.ok (kC rs r):=(rfl)
def DJ(rs:List R)(h:d.flat=true):kC rs (.val d f al)=.val d true []:=Tt h
def vS(rs:List R)(h:d.flat=false):kC rs (.val d true al)=.jj d:=by show Il d true rs=_;unfold Il;rw[TC (by rw[h];simp),Tt rfl]
theorem RF(k:List R->Res R)(fs:En->Res (List R))(env:En):yW k fs env=(fs env).bind k:=(rfl)
def K5:D->Res R
 |.lst ds=>.ok (.val (.int ds.length) true [])
 |.tup ds=>.ok (.val (.int ds.length) true [])
 |.str z=>if z.length<=lim then .ok (.val (.int z.length) true [])else .stuck
 |_=>.stuck
def OZ(r:R):nJ [r]=K5 r.d:=by unfold nJ K5;rfl
def K6:K5 (.lst ds)=.ok (.val (.int ds.length) true []):=(rfl)
def DM(f:Bool)(al:List Nat):D->Res R
 |.lst ds=>.ok (mG ds f al)
 |.tup ds=>.ok (mG ds f al)
 |_=>.stuck
def K7(r:R):u5 [r]=DM r.fr r.al r.d:=by unfold u5 DM;rfl
def G_:DM f al (.tup ds)=.ok (mG ds f al):=(rfl)
def kB(a:R):Res Bool:=match a.d with
 |.bl b=>.ok b
 |_=>.stuck
theorem RG(a:En->Res R)(env:En):vB a env=(a env).bind kB:=(rfl)
def RH(b:Bool):kB (.val (.bl b) f al)=.ok b:=(rfl)
def O0(a:R):Res Bool:=Ij a.d
theorem K8(a:En->Res R)(env:En):F6 a env=(a env).bind O0:=(rfl)
def K9(b:Bool):O0 (.val (.bl b) f al)=.ok b:=(rfl)
def DN(b:En->Res Bool)(env:En)(k:Bool):Res Bool:=if k then b env else .ok false
theorem K_(a b:En->Res Bool)(env:En):JX a b env=(a env).bind (DN b env):=(rfl)
theorem La(b:En->Res Bool)(env:En):DN b env true=b env:=(rfl)
theorem Lb(b:En->Res Bool)(env:En):DN b env false=.ok false:=(rfl)
def DO(b:En->Res R)(env:En)(a:R):Res R:=match a.d with
 |.bl true=>b env
 |.bl false=>.ok (.val (.bl false) true [])
 |_=>.stuck
theorem Lc(a b:En->Res R)(env:En):uZ a b env=(a env).bind (DO b env):=(rfl)
theorem Hb(b:En->Res R)(env:En):DO b env (.val (.bl true) f al)=b env:=(rfl)
theorem Hc(b:En->Res R)(env:En):DO b env (.val (.bl false) f al)=.ok (.val (.bl false) true []):=(rfl)
def Ld(b:En->Res R)(env:En)(a:R):Res R:=match a.d with
 |.bl true=>.ok (.val (.bl true) true [])
 |.bl false=>b env
 |_=>.stuck
theorem IN(a b:En->Res R)(env:En):PX a b env=(a env).bind (Ld b env):=(rfl)
theorem Le(b:En->Res R)(env:En):Ld b env (.val (.bl true) f al)=.ok (.val (.bl true) true []):=(rfl)
theorem Lf(b:En->Res R)(env:En):Ld b env (.val (.bl false) f al)=b env:=(rfl)
def IQ(a:R):Res R:=match a.d with
 |.bl b=>.ok (.val (.bl (!b)) true [])
 |_=>.stuck
theorem Lg(a:En->Res R)(env:En):F5 a env=(a env).bind IQ:=(rfl)
def Lh(b:Bool):IQ (.val (.bl b) f al)=.ok (.val (.bl (!b)) true []):=(rfl)
def IR(f:Bool)(al:List Nat):Option D->Res R
 |some d=>.ok (mF d f al)
 |none=>.stuck
def Hd(a b:D)(f:Bool)(al:List Nat):Res R:=match a,b with
 |.lst xs,.int i=>IR f al (eU xs i)
 |.tup xs,.int i=>IR f al (eU xs i)
 |.str z,.int i=>if z.length<=lim then(match eU z.cps.toList i with
  |some c=>.ok (.val (.str ⟨#[c]⟩) true [])
  |none=>.stuck)else .stuck
 |_,_=>.stuck
def RI(a b:R):Bi a b=Hd a.d b.d a.fr a.al:=by unfold Bi Hd IR;rfl
def O3:Hd (.lst ds) (.int k) f al=IR f al (eU ds k):=(rfl)
def O4:Hd (.tup ds) (.int k) f al=IR f al (eU ds k):=(rfl)
def O5:IR f al (some d)=.ok (mF d f al):=(rfl)
def He(ds:List D)(fr:Bool)(a:R):Res R:=match a.d with
 |.int k=>match eU ds k with
  |some d=>.ok (mF d fr [])
  |none=>.stuck
 |_=>.stuck
def Hf(i:Nat)(a:En->Res R)(env:En):Option (Option Sl)->Res R
 |some (some (.own ds fr))=>(a env).bind (He ds fr)
 |_=>v2 Bi (aF i) a env
theorem O6(i:Nat)(a:En->Res R)(env:En):fV i a env=Hf i a env env[i]?:=by unfold fV Hf;rfl
def Li(a:En->Res R):Hf i a env (some (some (.own ds f)))=(a env).bind (He ds f):=(rfl)
def Lj(a:En->Res R):Hf i a env (some (some (.val d f)))=v2 Bi (aF i) a env:=(rfl)
def Ll:He ds f (.val (.int k) g al)=IR f [] (eU ds k):=by unfold He IR;rfl
def cJ{α:Type}(a:α)(l:List α):eU (a::l) 0=some a:=by unfold eU zQ;rw[Tt (by lia),Tt (by simp)];rfl
def Sj{α:Type}(a b:α)(l:List α):eU (a::b::l) 1=some b:=by unfold eU zQ;rw[Tt (by lia),Tt (by simp;lia)];rfl
def nZ{α:Type}(a b c:α)(l:List α):eU (a::b::c::l) 2=some c:=by unfold eU zQ;rw[Tt (by lia),Tt (by simp;lia)];rfl
theorem Te{α:Type}(a b c d:α)(l:List α):eU (a::b::c::d::l) 3=some d:=by unfold eU zQ;rw[Tt (by lia),Tt (by simp;lia)];rfl
def Sr{α:Type}{l:List α}{n:Nat}{a:α}(h:l[n]?=some a):eU l (n:Int)=some a:=by have b:=(Tq.mp h).1;unfold eU zQ;rw[Tt (by lia),Tt (by lia)];exact h
def O7(fl a:En->Res (Option Int))(env:En)(r:R):Res R:=(fl env).bind λlo=>(a env).bind λb=>tf r lo b
def O8(a:En->Res (Option Int))(env:En)(r:R)(lo:Option Int):Res R:=(a env).bind λb=>tf r lo b
theorem Hg(a:En->Res R)(fl b:En->Res (Option Int))(env:En):o_ a fl b env=(a env).bind (O7 fl b env):=(rfl)
theorem Lm(fl a:En->Res (Option Int))(env:En)(r:R):O7 fl a env r=(fl env).bind (O8 a env r):=(rfl)
theorem Lo(a:En->Res (Option Int))(env:En)(r:R)(lo:Option Int):O8 a env r lo=(a env).bind (tf r lo):=(rfl)
def kO(r:R):Res (Option Int):=match r.d with
 |.int i=>.ok (some i)
 |_=>.stuck
theorem Hh(env:En):y_ env=.ok none:=(rfl)
theorem Hi(a:En->Res R)(env:En):rC a env=(a env).bind kO:=(rfl)
def RJ:kO (.val (.int x) f al)=.ok (some x):=(rfl)
def Hj(f:Bool)(al:List Nat)(lo a:Option Int):D->Res R
 |.lst xs=>.ok (mG (dz xs lo a) f al)
 |.tup xs=>.ok (mF (.tup (dz xs lo a)) f al)
 |_=>.stuck
def O9(r:R)(lo a:Option Int):tf r lo a=Hj r.fr r.al lo a r.d:=by unfold tf Hj;rfl
def Lp(lo a:Option Int):Hj f al lo a (.lst ds)=.ok (mG (dz ds lo a) f al):=(rfl)
def Lq(lo a:Option Int):Hj f al lo a (.tup ds)=.ok (mF (.tup (dz ds lo a)) f al):=(rfl)
def O_(asg:D->Bool->En->Option En)(body:En->Res Fl)(env:En)(s:Src):Res Fl:=ip asg s.fr body s.xs (bj env s.al)
theorem Pa(a:En->Res Src)(asg:D->Bool->En->Option En)(body:En->Res Fl)(env:En):u9 a asg body env=(a env).bind (O_ asg body env):=(rfl)
theorem Lr(asg:D->Bool->En->Option En)(body:En->Res Fl)(env:En)(xs:List D):O_ asg body env ⟨xs,f,al⟩=ip asg f body xs (bj env al):=(rfl)
def Lu(r:R):Res Src:=match r.d with
 |.lst ds=>.ok ⟨ds,r.fr,r.al⟩
 |.tup ds=>.ok ⟨ds,r.fr,r.al⟩
 |_=>.stuck
theorem Lw(a:En->Res R)(env:En):Af a env=(a env).bind Lu:=(rfl)
def DP:Lu (.val (.lst ds) f al)=.ok ⟨ds,f,al⟩:=(rfl)
def Hl:Lu (.new ds f)=.ok ⟨ds,f,[]⟩:=(rfl)
def Ss(rs:List R):Res Src:=match rs.map R.d with
 |[.int j]=>if cR j then .ok ⟨dX 0 j.toNat,true,[]⟩else .stuck
 |_=>.stuck
theorem Pb(fs:En->Res (List R))(env:En):PY fs env=(fs env).bind Ss:=(rfl)
def DQ(h1:-4611686018427387904<=x)(h2:x<4611686018427387904):cR x=true:=by unfold cR;rw[Uu];exact⟨TZ (by lia),TZ (by lia)⟩
def IS(h1:-4611686018427387904<=x)(h2:x<4611686018427387904):Ss [.val (.int x) f al]=.ok ⟨dX 0 x.toNat,true,[]⟩:=Tt (DQ h1 h2)
def Su(rs:List R):Res Src:=match rs.map R.d with
 |[.int i,.int j]=>if cR i&&cR j then .ok ⟨dX i (j-i).toNat,true,[]⟩else .stuck
 |_=>.stuck
theorem Pc(fs:En->Res (List R))(env:En):QD fs env=(fs env).bind Su:=(rfl)
def DR(h1:-4611686018427387904<=x)(h2:x<4611686018427387904)(a:-4611686018427387904<=y)(b:y<4611686018427387904):Su [.val (.int x) f al,.val (.int y) g bl]=.ok ⟨dX x (y-x).toNat,true,[]⟩:=by show(if(cR x&&cR y)=true then _ else _)=_;rw[Tt (by rw[DQ h1 h2,DQ a b];rfl)]
def Lx:bj env []=env:=(rfl)
def AX(h:i<env.length):gN i d f env=some (env.set i (some (.val d f))):=Tt h
def zq(n:Nat)(caps:List Nat)(asg:D->Bool->En->Option En)(test:En->Res Bool)(elt:En->Res R)(env:En)(s:Src):Res R:=if s.xs.length<=lim then
 (dY (λd=>asg d s.fr (jf env n caps)) test elt s.xs).SF.bind λrs=>.ok (mG (rs.map R.d) (bS rs) (s.al++caps.filter (fU env)))else .stuck
theorem Ly(n:Nat)(caps:List Nat)(a:En->Res Src)(asg:D->Bool->En->Option En)(test:En->Res Bool)(elt:En->Res R)(env:En) :
 o9 n caps a asg test elt env=(a env).bind (zq n caps asg test elt env):=(rfl)
def Hm(a:xs.length<=1000000)
 (h:dY (λd=>asg d f (jf env n caps)) test elt xs=.ok rs):zq n caps asg test elt env ⟨xs,f,al⟩=.ok (mG (rs.map R.d) (bS rs) (al++caps.filter (fU env))):=by
 unfold zq;dsimp only;rw[Tt (show xs.length<=lim from a),h];rfl
theorem rW{α:Type}{mk:D->Option En}{test:En->Res Bool}{elt:En->Res R}(g:α->D)(k:α->R):∀(xs:List α),(∀a∈xs,∃e,mk (g a)=some e/\test e=.ok true/\elt e=.ok (k a))->dY mk test elt (xs.map g)=.ok (xs.map k)
 |[],_=>rfl
 |a::r,h=>by obtain⟨e,h1,h2,c⟩:=h a (by simp);rw[TJ,TJ];unfold dY;rw[h1];dsimp only;rw[h2];dsimp only[Res.bind];rw[Tt rfl,c,rW g k r λb hb=>h b (by simp[hb])]
theorem lI{α:Type}{mk:D->Option En}{test:En->Res Bool}{elt:En->Res R}(g:α->D)(p:α->Bool)(k:α->R):∀(xs:List α),(∀a∈xs,∃e,mk (g a)=some e/\test e=.ok (p a)/\(p a=true->elt e=.ok (k a)))->dY mk test elt (xs.map g)=.ok ((xs.filter p).map k)
 |[],_=>rfl
 |a::r,h=>by
  obtain⟨e,h1,h2,m⟩:=h a (by simp);rw[TJ];unfold dY;rw[h1];dsimp only;rw[h2];dsimp only[Res.bind];have l:=lI g p k r λb hb=>h b (by simp[hb]);cases c:p a with
  |true=>rw[Tt rfl,m c,VC,Tt c,l];rfl
  |false=>rw[TC (by simp),VC,TC (by rw[c];simp),l]
def AY(i:Nat)(env:En)(ds:List D)(fr:Bool)(r:R):Res Fl:=if ds.length<lim/\¬i∈r.al then .ok (.nx ((bj env r.al).set i (some (.own (ds++[r.d]) (fr&&r.fr)))))else .stuck
def DS(i:Nat)(a:En->Res R)(env:En):Option (Option Sl)->Res Fl
 |some (some (.own ds fr))=>(a env).bind (AY i env ds fr)
 |some (some (.sj (.lst ds)))=>(a env).bind (AY i env ds true)
 |_=>.stuck
theorem Pd(a:En->Res R)(env:En):u7 i a env=DS i a env env[i]?:=by
 unfold u7 o5 DS;cases env[i]? with
 |none=>rfl
 |some o=>cases o with
  |none=>rfl
  |some s=>cases s with
   |sj d=>cases d<;>rfl
   |_=>rfl
def Lz(a:En->Res R):DS i a env (some (some (.own ds f)))=(a env).bind (AY i env ds f):=(rfl)
def xX(h:ds.length<1000000)(a:r.al=[]):AY i env ds f r=.ok (.nx (env.set i (some (.own (ds++[r.d]) (f&&r.fr))))):=by unfold AY;rw[a];rw[Tt ⟨h,by simp⟩];rfl
end
def lJ(x:Int):(D.int x).flat=true:=(rfl)
def Ho(x:Bool):(D.bl x).flat=true:=(rfl)
def pS(ds:List D):(D.tup ds).flat=D.bP ds:=(rfl)
def DT(ds:List D):(D.lst ds).flat=false:=(rfl)
def mS:D.bP []=true:=(rfl)
def iG(d:D)(ds:List D):D.bP (d::ds)=(d.flat&&D.bP ds):=(rfl)
def Hq(x:Int):(D.int x).dep=0:=(rfl)
def LB(r:R):Ip (.ok (.rt r))=.ok r:=(rfl)
def Hr(d:D)(f:Bool)(al:List Nat):(R.val d f al).d=d:=(rfl)
def Hu(ds:List D)(f:Bool):(R.new ds f).d=.lst ds:=(rfl)
def Hx(d:D):(R.jj d).d=d:=(rfl)
def DU(d:D)(f:Bool)(al:List Nat):(R.val d f al).fr=f:=(rfl)
def DV(ds:List D)(f:Bool):(R.new ds f).fr=f:=(rfl)
def DW(d:D):(R.jj d).fr=true:=(rfl)
def DY(d:D)(f:Bool)(al:List Nat):(R.val d f al).al=al:=(rfl)
def DZ(ds:List D)(f:Bool):(R.new ds f).al=[]:=(rfl)
def D0(d:D):(R.jj d).al=[]:=(rfl)
def LC{α b:Type}(a:α)(k:α->Res b):(Res.ok a).bind k=k a:=(rfl)
def zr(asg:D->Bool->En->Option En)(fr:Bool)(body:En->Res Fl)(xs:List D):Fl->Res Fl
 |.nx e=>ip asg fr body xs e
 |.ct e=>ip asg fr body xs e
 |.bk e=>.ok (.nx e)
 |.rt r=>.ok (.rt r)
 |.rm r e=>.ok (.rm r e)
def LD(h:asg x fr env=some lW):ip asg fr body (x::xs) env=(body lW).bind (zr asg fr body xs):=by unfold ip;rw[h];rfl
def zt(asg:D->Bool->En->Option En)(fr:Bool)(body:En->Res Fl)(xs:List D)(e:En):zr asg fr body xs (.nx e)=ip asg fr body xs e:=(rfl)
def Hy(asg:D->Bool->En->Option En)(fr:Bool)(body:En->Res Fl)(xs:List D)(r:R):zr asg fr body xs (.rt r)=.ok (.rt r):=(rfl)
def Tf:((0:Nat):Int)=0:=(rfl)
def pT(ks:List DK)(ds:List D):(D.i9 ks ds).flat=false:=(rfl)
def xY:D->Res R
 |.lst ds=>match fW ds with
  |some ps=>if D.bP ((kE [] ps).map Prod.snd)then .ok (.jj (vj ps))else .stuck
  |none=>.stuck
 |_=>.stuck
def D7(r:R):rL [r]=xY r.d:=by unfold rL xY;rfl
def Hz(h:fW ds=some ps)(a:D.bP ((kE [] ps).map Prod.snd)=true):xY (.lst ds)=.ok (.jj (vj ps)):=by show(match fW ds with|some ps=>if D.bP ((kE [] ps).map Prod.snd)=true then Res.ok (R.jj (vj ps))else .stuck|none=>.stuck)=_;rw[h];exact Tt a
def AZ(h:d.flat=false):kC rs (.jj d)=.jj d:=by show Il d true rs=_;unfold Il;rw[TC (by rw[h];simp),Tt rfl]
def IT(i:Nat)(env:En)(r:R):Res Fl:=if i<env.length then .ok (.nx ((bj env r.al).set i (some (.val r.d r.fr))))else .stuck
def D8(i:Nat)(a:En->Res R)(env:En):vn i a env=(a env).bind (IT i env):=(rfl)
def zu(h:i<env.length):IT i env r=.ok (.nx ((bj env r.al).set i (some (.val r.d r.fr)))):=Tt h
end L3
local macro_rules|`(tactic| simp_arith[$as,*] $[$l:location]?)=>do
 let ls←("L3.jH L3.kU L3.IN L3.Le L3.Lf L3.D8 L3.zu decide_true decide_false List.map_cons List.map_nil List.length_cons List.length_nil List.replicate List.cons_append List.nil_append List.append_nil Nat.reduceAdd Nat.max_self Nat.zero_max Nat.max_zero Nat.zero_add Nat.reduceSub L3.OD L3.OL L3.RC L3.OP L3.OM L3.ON L3.OO L3.KS L3.KU L3.lJ L3.Ho L3.pS L3.DT L3.mS L3.iG L3.Hq L3.Tc L3.LC List.getElem?_cons_zero List.getElem?_cons_succ L3.OR L3.OS L3.OQ L3.KW Int.reduceLT Int.reduceLE Int.reduceNeg L3.KP L3.KQ L3.KR L3.Rx L3.Ry List.set_cons_zero List.set_cons_succ Nat.reduceLT Nat.reduceLeDiff L3.RB L3.OE L3.OF L3.OG L3.OI L3.KO L3.RD L3.RE L3.OT L3.G6 L3.KZ L3.G7 L3.G8 L3.DE L3.OW L3.K1 L3.OY L3.K3 L3.DF L3.AV L3.DG L3.AW L3.K4 L3.G9 L3.DI L3.DJ L3.vS L3.RF L3.OZ L3.K6 L3.K7 L3.G_ L3.RG L3.RH L3.K8 L3.K9 L3.K_ L3.La L3.Lb L3.Lc L3.Hb L3.Hc L3.Lg L3.Lh L3.RI L3.O3 L3.O4 L3.O5 L3.O6 L3.Li L3.Lj L3.Ll L3.cJ L3.Sj L3.nZ L3.Te L3.Hg L3.Lm L3.Lo L3.Hh L3.Hi L3.RJ L3.O9 L3.Lp L3.Lq L3.Pa L3.Lr L3.Lw L3.DP L3.Hl L3.Pb L3.Pc L3.Lx L3.Tf Int.reduceBEq Bool.not_not Nat.reduceEqDiff L3.Ly L3.Pd L3.Lz L3.Hr L3.Hu L3.Hx L3.DU L3.DV L3.DW L3.DY L3.DZ L3.D0 L3.zt L3.Hy Bool.and_true Bool.true_and Bool.and_false Bool.false_and Bool.and_self Bool.not_true Bool.not_false L3.LB L3.DC L3.D7 L3.pT L3.AZ".splitOn " ").toArray.mapM λs=>`(Lean.Parser.Tactic.simpLemma| $(Lean.mkIdent s.toName):ident)
 `(tactic| simp only[$[$ls:simpLemma],*,$as,*] $[$l]?)
local macro_rules|`(tactic| simp_arith $[$l:location]?)=>`(tactic| simp_arith[L3.LC] $[$l]?)
namespace L3
open PySem L2
def pU{α b:Type}(g:α->b)(xs:List α)(lo a:Option Int):dz (xs.map g) lo a=(dz xs lo a).map g:=by unfold dz;rw[Tp,List.map_take,List.map_drop]
def vT{α:Type}(xs:List α)(lo a:Option Int):(dz xs lo a).length<=xs.length:=by unfold dz;rw[Uz,Wj];lia
def D9{α:Type}(xs:List α)(lo b:Option Int):∀a∈dz xs lo b,a∈xs:=by unfold dz;intro a h;exact WT (U_ h)
def D_{α:Type}(xs:List α):dz xs (some 1) none=xs.tail:=by
 unfold dz;have h1:HT.sIx xs.length 0 (some 1)=min 1 xs.length:=HT.sIx_nat xs.length 0 1;have h2:HT.sIx xs.length xs.length none=xs.length:=rfl;rw[h1,h2];cases xs with
 |nil=>rfl
 |cons a r=>
  have:min 1 (a::r).length=1:=by simp
  rw[this];simp
def Ea:(∀d∈ds,d.flat=true)->D.bP ds=true:=by
 induction ds with
 |nil=>intro _;rfl
 |cons d r a=>intro h;rw[iG,h d (by simp),a λx b=>h x (by simp[b])];rfl
def fI{α:Type}(g:α->D)(xs:List α)(h:∀a,(g a).flat=true):D.bP (xs.map g)=true:=Ea λd hd=>by obtain⟨a,_,rfl⟩:=TH.mp hd;exact h a
def cF(xs:List Int):D.bP (xs.map D.int)=true:=fI _ _ lJ
def Eb{α:Type}(g:α->D)(xs:List α):bS (xs.map λa=>.val (g a) true [])=true:=by unfold bS;rw[VS];intro r h;obtain⟨a,_,rfl⟩:=TH.mp h;rfl
def Ec{α:Type}(g:α->D)(fr:Bool)(al:List Nat)(xs:List α):(xs.map λa=>R.val (g a) fr al).map R.d=xs.map g:=by rw[T7];rfl
def zv(n:Nat):dX 0 n=(List.range n).map λk=>.int (k:Nat):=by unfold dX;congr 1;funext k;simp
theorem lK{α:Type}(g:α->D){asg:D->Bool->En->Option En}{fr:Bool}{body:En->Res Fl}(all:List α)(P:List α->En->Prop):∀(xs pre:List α)(env:En),all=pre++xs->P pre env->
 (∀(pre c:List α)(a:α)(env:En),all=pre++a::c->P pre env->∃f b,asg (g a) fr env=some f/\body f=.ok (.nx b)/\P (pre++[a]) b)->
 ∃d,ip asg fr body (xs.map g) env=.ok (.nx d)/\P all d
 |[],pre,env,e,h,_=>⟨env,rfl,by rw[e,UE];exact h⟩
 |a::r,pre,env,e,h,st=>by obtain⟨f,b,h1,h2,i⟩:=st pre r a env e h;obtain⟨d,e1,e2⟩:=lK g all P r (pre++[a]) b (by rw[e];simp) i st;refine⟨d,?_,e2⟩;rw[TJ];unfold ip;rw[h1];dsimp only;rw[h2];exact e1
def zw{α a:Type}(g:α->a)(xs:List α)(k:Int):eU (xs.map g) k=(eU xs k).map g:=by
 unfold eU;rw[Tp];cases zQ xs.length k with
 |none=>rfl
 |some j=>simp
def Ed{α:Type}{xs:List α}{k:Int}(h0:0<=k)(h:k<xs.length):∃a,eU xs k=some a/\xs[k.toNat]?=some a:=by
 unfold eU zQ;rw[Tt h0,Tt h];have:k.toNat<xs.length:=by lia
 exact⟨xs[k.toNat],by simp[this],by simp[this]⟩
structure Rl where
 room:Int
 sign:Int
 to:Int
 put:List Int
def Rl.d(r:Rl):D:=.tup [.int r.room,.int r.sign,.int r.to,.tup (r.put.map .int)]
end L3
namespace W
open PySem PySem.Spec PyProof.Rows L2 L3 L4
def top(i:Nat):Stmt:=PySem.Challenge.pw_callwalk_k42_head_steps.main.body.getD i (.Pass ⟨0,0,0,0⟩)
abbrev iH:Stmt:=top 6
abbrev N_is_plain:List Str:=["house","machine"]
abbrev iI:List Str:=N_is_plain.take 2
def vU:aR N_is_plain iI (aw iH):=bK
def pV:((["arrow"]:List Str)++(["house"]:List Str)).Nodup:=by decide +kernel
def tU:En->Res R:=λenv=>(v2 Se (fV 0 (vC (.int 2))) (fV 1 (vC (.int 0)))) env
def xZ:En->Res Fl:=(jE (yW J0 (aP (o9 1 [0] (Af (fV 1 (vC (.int 1)))) (gN 0) (λ_=>.ok true) tU) bU)))
def pW:List D->Res R:=jH N_is_plain xZ
abbrev cu:Stmt:=top 7
abbrev dZ:List Str:=["house","machine"]
abbrev bQ:List Str:=["house","machine"]
def iJ:aR dZ bQ (aw cu):=bK
def jh:En->Res Fl:=(Bj (Nc (F6 (eQ pW (aP (aF 0) (aP (aF 1) bU))))) (λ_=>.stuck) oZ)
def bR:List D->Res R:=jH dZ jh
abbrev d7:Stmt:=top 11
abbrev mT:List Str:=["house","rules","number","rule"]
abbrev d8:List Str:=["house"]
def sc_rules_by_start:aR mT d8 (aw d7):=bK
abbrev pX:Stmt:=top 13
abbrev N_prices:List Str:=["house","machine","pricing","arrow","number","rule"]
abbrev lL:List Str:=N_prices.take 2
def sc_prices:aR N_prices lL (aw pX):=bK
abbrev LF:Stmt:=e_ (top 9) 0
def Pe:aR ["self"] ["self"] (aw LF):=bK
abbrev LG:Stmt:=e_ (top 9) 1
def Pf:aR ["self","price","thing"] ["self","price","thing"] (aw LG):=bK
abbrev LH:Stmt:=e_ (top 9) 2
def Pg:aR ["self"] ["self"] (aw LH):=bK
abbrev HA:Stmt:=e_ (top 9) 3
def sc_QT:aR ["self","pile","price","thing"] ["self"] (aw HA):=bK
abbrev LI:Stmt:=e_ (top 12) 0
def Ph:aR ["self","house"] ["self","house"] (aw LI):=bK
abbrev LJ:Stmt:=e_ (top 12) 1
def sc_PO:aR ["self","arrow","price","number","mid","known"] ["self","arrow","price","number","mid"] (aw LJ):=bK
abbrev LK:Stmt:=e_ (top 12) 2
def sc_PS:aR ["self","arrow","price","start","number","rule","first"] ["self","arrow","price"] (aw LK):=bK
abbrev LL:Stmt:=e_ (top 12) 3
def sc_PF:aR ["self","number","rule","mid","price","start","state","second"] ["self","number","rule","mid","price"] (aw LL):=bK
abbrev LM:Stmt:=e_ (top 12) 4
def sc_PA:aR ["self","price","arrow"] ["self"] (aw LM):=bK
def jP:List D->Res R:=L4.NJ bR
abbrev n_:Stmt:=top 15
abbrev tV:List Str:=["house","told"]
abbrev oa:List Str:=["house"]
def sc_pairs:aR tV oa (aw n_):=bK
def nv:((["arrow","price"]:List Str)++([]:List Str)).Nodup:=by decide +kernel
def kc:En->Res R:=λenv=>(oX (aP (aF 0) (aP (fV 1 (vC (.int 0))) bU))) env
def zx:En->Res Fl:=
 (bX (vn 1 (eQ jP (aP (aF 0) (aP (oX (aP (fV 0 (vC (.int 0))) (aP (u4 bU) (aP (u4 bU) bU)))) bU))))
 (jE (yW rL (aP (pJ 2 [] (aF 1) (gT 2 (jF (gN 0) (jF (gN 1) yZ))) (λ_=>.ok true) kc) bU))))
def iL:List D->Res R:=jH tV zx
abbrev jQ:Stmt:=top 32
abbrev nw:List Str:=["_law_standing"]
abbrev gB:List Str:=["_law_standing"]
def tW:aR nw gB (aw jQ):=bK
def nA:En->Res Fl:=(jE (oX (aP (fV 0 (vC (.int 0))) (aP (v2 Bi (fV 0 (vC (.int 1))) (vC (.int 0))) bU))))
def dw:List D->Res R:=jH nw nA
abbrev gM:Stmt:=top 33
abbrev N__law_behind:List Str:=["_law_row","_law_k","_law_later"]
abbrev eF:List Str:=N__law_behind.take 2
def sc__law_behind:aR N__law_behind eF (aw gM):=bK
def bJ:En->Res Fl:=λenv=>(Bj (vB (v2 xk (yW nJ (aP (v2 Bi (fV 0 (aF 2)) (vC (.int 1))) bU)) (yW nJ (aP (v2 Bi (fV 0 (aF 1)) (vC (.int 1))) bU)))) (jE (aF 2)) oZ) env
def eG:En->Res Fl:=
 (bX (u9 (QD (aP (v2 gH (aF 1) (vC (.int 2))) (aP (yW nJ (aP (aF 0) bU)) bU))) (gN 2) bJ)
 (jE (vC .bp)))
def bN:List D->Res R:=jH N__law_behind eG
abbrev iN:Stmt:=top 27
abbrev N__law_stack:List Str:=["_law_cell","_law_signs","_law_number","_law_stack_here","_law_k"]
abbrev fw:List Str:=N__law_stack.take 2
def sc__law_stack:aR N__law_stack fw (aw iN):=bK
def f7:En->Res Fl:=λenv=>
 (bX (cC 2 (v2 c_ (v2 gH (v2 gH (v2 oU (aF 2) (vC (.int 48271))) (v2 oU (aF 4) (aF 4))) (vC (.int 11))) (vC (.int 2147483647))))
 (u7 3 (v2 c_ (v2 ij (aF 2) (vC (.int 7))) (aF 1)))) env
def lM:En->Res Fl:=
 (bX (cC 2 (v2 c_ (v2 ij (aF 0) (vC (.int 6))) (vC (.int 2147483647))))
 (bX (cC 3 (u4 bU))
 (bX (u9 (PY (aP (v2 c_ (aF 0) (vC (.int 6))) bU)) (gN 4) f7)
 (jE (aF 3)))))
def fy:List D->Res R:=jH N__law_stack lM
abbrev iO:Stmt:=top 31
abbrev N__law_run:List Str:=["_law_rules_here","_law_room","_law_stack_here","_law_cells","_law_row","_law_cell","_law_fits","_law_rule_here"]
abbrev iP:List Str:=N__law_run.take 4
def sc__law_run:aR N__law_run iP (aw iO):=bK
def pY:((["_law_rule_here"]:List Str)++(["_law_room","_law_stack_here"]:List Str)).Nodup:=by decide +kernel
def dL:En->Res Bool:=λenv=>(JX (vB (v2 xk (fV 0 (vC (.int 0))) (aF 1))) (vB (v2 xk (fV 0 (vC (.int 1))) (fV 2 (vC (.int 0)))))) env
def fA:En->Res R:=λenv=>(aF 0) env
def ci:En->Res Fl:=λenv=>
 (bX (cC 6 (u4 bU))
 (bX (Bj (vB (v2 M_ (yW nJ (aP (aF 2) bU)) (vC (.int 0)))) (cC 6 (o9 1 [1,2] (Af (aF 0)) (gN 0) dL fA)) oZ)
 (Bj (vB (v2 M_ (yW nJ (aP (aF 6) bU)) (vC (.int 0)))) (bX (cC 7 (fV 6 (v2 c_ (aF 5) (yW nJ (aP (aF 6) bU)))))
 (bX (cC 1 (fV 7 (vC (.int 2))))
 (bX (cC 2 (v2 gH (yW u5 (aP (fV 7 (vC (.int 3))) bU)) (o_ (aF 2) (rC (vC (.int 1))) y_)))
 (u7 4 (oX (aP (aF 1) (aP (aF 2) bU))))))) oZ))) env
def pZ:En->Res Fl:=
 (bX (cC 4 (u4 (aP (oX (aP (aF 1) (aP (aF 2) bU))) bU)))
 (bX (u9 (Af (aF 3)) (gN 5) ci)
 (jE (aF 4))))
def iQ:List D->Res R:=jH N__law_run pZ
abbrev jR:Stmt:=top 25
abbrev N__law_rule:List Str:=["_law_number","_law_rooms","_law_signs","_law_falls","_law_room","_law_sign","_law_to","_law_size","_law_below"]
abbrev gC:List Str:=N__law_rule.take 4
def sc__law_rule:aR N__law_rule gC (aw jR):=bK
def jS:En->Res Fl:=λenv=>(jE (oX (aP (aF 4) (aP (aF 5) (aP (aF 6) (aP (o_ (oX (aP (v2 c_ (aF 0) (aF 8)) (aP (v2 c_ (v2 ij (aF 0) (aF 8)) (aF 8)) bU))) y_ (rC (aF 7))) bU)))))) env
def f9:En->Res Fl:=λenv=>
 (bX (Bj (vB (v2 xk (aF 8) (vC (.int 0)))) (jE (oX (aP (aF 4) (aP (aF 5) (aP (aF 6) (aP (oX bU) bU)))))) oZ)
 jS) env
def f_:En->Res Fl:=λenv=>
 (bX (Bj (F6 (aF 3)) (cC 8 (aF 5)) oZ)
 f9) env
def gO:En->Res Fl:=λenv=>
 (bX (cC 8 (aF 2))
 f_) env
def gR:En->Res Fl:=λenv=>
 (bX (cC 0 (v2 ij (aF 0) (vC (.int 3))))
 gO) env
def gS:En->Res Fl:=λenv=>
 (bX (cC 7 (v2 c_ (aF 0) (vC (.int 3))))
 gR) env
def gU:En->Res Fl:=λenv=>
 (bX (cC 0 (v2 ij (aF 0) (aF 1)))
 gS) env
def gV:En->Res Fl:=λenv=>
 (bX (cC 6 (v2 c_ (aF 0) (aF 1)))
 gU) env
def gW:En->Res Fl:=λenv=>
 (bX (cC 0 (v2 ij (aF 0) (aF 2)))
 gV) env
def gX:En->Res Fl:=λenv=>
 (bX (cC 5 (v2 c_ (aF 0) (aF 2)))
 gW) env
def gY:En->Res Fl:=λenv=>
 (bX (cC 0 (v2 ij (aF 0) (aF 1)))
 gX) env
def jT:En->Res Fl:=
 (bX (cC 4 (v2 c_ (aF 0) (aF 1)))
 gY)
def cG:List D->Res R:=jH N__law_rule jT
abbrev iS:Stmt:=top 24
abbrev lN:List Str:=["_law_cell"]
abbrev fB:List Str:=["_law_cell"]
def qD:aR lN fB (aw iS):=bK
def lP:En->Res Fl:=(jE (v2 c_ (v2 oU (v2 gH (v2 c_ (aF 0) (vC (.int 2147483647))) (vC (.int 11))) (vC (.int 48271))) (vC (.int 2147483647))))
def cN:List D->Res R:=jH lN lP
abbrev ga:Stmt:=top 22
abbrev N__law_cell_at:List Str:=["_law_script","_law_k"]
abbrev dM:List Str:=N__law_cell_at.take 2
def nN:aR N__law_cell_at dM (aw ga):=bK
def gb:En->Res Fl:=
 (bX (Bj (vB (v2 Mx (aF 1) (yW nJ (aP (aF 0) bU)))) (jE (fV 0 (aF 1))) oZ)
 (jE (vC (.int 0))))
def bG:List D->Res R:=jH N__law_cell_at gb
abbrev gc:Stmt:=top 17
abbrev p7:List Str:=["house","behind","room","sign","other"]
abbrev dN:List Str:=["house"]
def sc_rooms_behind:aR p7 dN (aw gc):=bK
abbrev mU:Stmt:=top 1
abbrev A0:List Str:=["rule"]
abbrev ke:List Str:=["rule"]
def x_:aR A0 ke (aw mU):=bK
abbrev iT:Stmt:=top 18
abbrev N_heads_by:List Str:=["rule","behind","put","first"]
abbrev iU:List Str:=N_heads_by.take 2
def sc_heads_by:aR N_heads_by iU (aw iT):=bK
abbrev cw:Stmt:=top 19
abbrev gD:List Str:=["house","behind","leading","rule"]
abbrev cz:List Str:=["house","behind"]
def sc_head_steps_with:aR gD cz (aw cw):=bK
abbrev iV:Stmt:=top 20
abbrev tX:List Str:=["house"]
abbrev fC:List Str:=["house"]
def qE:aR tX fC (aw iV):=bK
abbrev iW:Stmt:=top 28
abbrev N__law_due:List Str:=["_law_rules_here","_law_gone","_law_due_here","_law_room","_law_sign","_law_to","_law_put","_law_heads"]
abbrev iX:List Str:=N__law_due.take 2
def sc__law_due:aR N__law_due iX (aw iW):=bK
abbrev iY:Stmt:=top 23
abbrev lQ:List Str:=["_law_found"]
abbrev fD:List Str:=["_law_found"]
def qF:aR lQ fD (aw iY):=bK
def tY:En->Res Fl:=(jE (uZ (Gi "int" (aF 0)) (F5 (Gi "bool" (aF 0)))))
def iZ:List D->Res R:=jH lQ tY
abbrev gd:Stmt:=top 29
abbrev jU:List Str:=["_law_found"]
abbrev dP:List Str:=["_law_found"]
def nO:aR jU dP (aw gd):=bK
def p8:En->Res Fl:=(jE (uZ (Gi "tuple" (aF 0)) (uZ (v2 xk (yW nJ (aP (aF 0) bU)) (vC (.int 2))) (uZ (eQ iZ (aP (fV 0 (vC (.int 0))) bU)) (eQ iZ (aP (fV 0 (vC (.int 1))) bU))))))
def jV:List D->Res R:=jH jU p8
abbrev gE:Stmt:=top 30
abbrev N__law_told:List Str:=["_law_found","_law_due_here","_law_head_here"]
abbrev gF:List Str:=N__law_told.take 2
def sc__law_told:aR N__law_told gF (aw gE):=bK
abbrev gZ:Stmt:=top 34
abbrev N__law_on_run:List Str:=["_law_row","_law_told_here","_law_k","_law_grown","_law_later"]
abbrev eI:List Str:=N__law_on_run.take 2
def sc__law_on_run:aR N__law_on_run eI (aw gZ):=bK
abbrev i6:Stmt:=top 26
abbrev N__law_rules:List Str:=["_law_script","_law_rooms","_law_signs","_law_many","_law_kind","_law_number","_law_rules_here","_law_k","_law_cell","_law_free"]
abbrev fE:List Str:=N__law_rules.take 4
def sc__law_rules:aR N__law_rules fE (aw i6):=bK
def cH:En->Res Fl:=λenv=>
 (bX (cC 5 (v2 c_ (v2 gH (v2 gH (v2 oU (aF 5) (aF 5)) (v2 oU (vC (.int 48271)) (aF 5))) (aF 7)) (vC (.int 2147483647))))
 (Bj (vB (v2 Mx (v2 c_ (aF 5) (vC (.int 4))) (vC (.int 3)))) (u7 6 (eQ cG (aP (v2 gH (v2 oU (v2 oU (v2 ij (aF 5) (vC (.int 4))) (aF 1)) (aF 2)) (aF 7)) (aP (aF 1) (aP (aF 2) (aP (v2 M_ (aF 4) (vC (.int 0))) bU)))))) oZ)) env
def cI:En->Res Fl:=λenv=>
 (bX (cC 9 (PX (v2 xk (aF 4) (vC (.int 0))) (uZ (v2 xk (aF 4) (vC (.int 3))) (v2 Mx (v2 c_ (aF 8) (vC (.int 5))) (vC (.int 2))))))
 (u7 6 (eQ cG (aP (v2 c_ (v2 oU (v2 gH (v2 c_ (aF 8) (vC (.int 2147483647))) (vC (.int 5))) (vC (.int 69621))) (vC (.int 2147483647))) (aP (aF 1) (aP (aF 2) (aP (F5 (aF 9)) bU))))))) env
def lR:En->Res Fl:=
 (bX (cC 4 (v2 c_ (v2 ij (eQ cN (aP (eQ bG (aP (aF 0) (aP (vC (.int 0)) bU))) bU)) (vC (.int 12))) (vC (.int 4))))
 (bX (cC 5 (v2 gH (v2 c_ (eQ bG (aP (aF 0) (aP (vC (.int 1)) bU))) (vC (.int 2147483647))) (vC (.int 48271))))
 (bX (cC 6 (u4 bU))
 (bX (u9 (PY (aP (v2 oU (aF 1) (aF 2)) bU)) (gN 7) cH)
 (bX (u9 (Af (o_ (aF 0) (rC (vC (.int 4))) (rC (v2 gH (vC (.int 4)) (aF 3))))) (gN 8) cI)
 (jE (aF 6)))))))
def fF:List D->Res R:=jH N__law_rules lR
abbrev rX:Stmt:=top 35
abbrev N_law:List Str:=["_law_script","_law_size","_law_rooms","_law_signs","_law_many","_law_rules_here","_law_house","_law_found","_law_place","_law_row","_law_told_here","_law_head_here","_law_row_told","_law_more","_law_due_here"]
abbrev zy:List Str:=N_law.take 1
def sc_law:aR N_law zy (aw rX):=bK
def HB:((["_law_head_here"]:List Str)++(["_law_found"]:List Str)).Nodup:=by decide +kernel
def zA:((["_law_head_here","_law_row_told"]:List Str)++(["_law_found"]:List Str)).Nodup:=by decide +kernel
def zB:((["_law_head_here","_law_row_told"]:List Str)++([]:List Str)).Nodup:=by decide +kernel
def LN:L4.Mg:=⟨iL,cN,bG,fy,iQ,cG,dw,bN⟩
def tZ:En->Res Fl:=λenv=>
 (bX (vn 5 (eQ fF (aP (aF 0) (aP (aF 2) (aP (aF 3) (aP (aF 4) bU))))))
 (L4.OC LN)) env
def oe:En->Res Fl:=λenv=>
 (bX (Bj (vB (v2 xk (v2 c_ (v2 ij (aF 1) (vC (.int 624))) (vC (.int 4))) (vC (.int 1)))) (bX (cC 2 (v2 gH (vC (.int 1)) (v2 c_ (v2 ij (aF 1) (vC (.int 2496))) (vC (.int 8)))))
 (cC 3 (v2 gH (vC (.int 1)) (v2 c_ (v2 ij (aF 1) (vC (.int 3))) (vC (.int 2)))))) (Bj (vB (v2 xk (v2 c_ (v2 ij (aF 1) (vC (.int 2496))) (vC (.int 8))) (vC (.int 3)))) (bX (cC 2 (v2 gH (vC (.int 1)) (v2 c_ (v2 ij (aF 1) (vC (.int 19968))) (vC (.int 2)))))
 (cC 3 (v2 gH (vC (.int 5)) (v2 c_ (v2 ij (aF 1) (vC (.int 39936))) (vC (.int 10)))))) oZ))
 tZ) env
def og:En->Res Fl:=λenv=>
 (bX (cC 4 (v2 c_ (v2 ij (aF 1) (vC (.int 48))) (vC (.int 13))))
 oe) env
def oh:En->Res Fl:=λenv=>
 (bX (cC 3 (v2 gH (vC (.int 1)) (v2 c_ (v2 ij (aF 1) (vC (.int 3))) (vC (.int 4)))))
 og) env
def oj:En->Res Fl:=λenv=>
 (bX (cC 2 (v2 gH (vC (.int 1)) (v2 c_ (aF 1) (vC (.int 3)))))
 oh) env
def zC:En->Res Fl:=
 (bX (vn 1 (eQ cN (aP (eQ bG (aP (aF 0) (aP (vC (.int 0)) bU))) bU)))
 oj)
def p9:List D->Res R:=jH N_law zC
set_option genInjectivity false in
structure Tx(K:Xp) (mg:Str->Option Xr) where
 Ja:Df K mg "is_plain" iH iI
 E1:Df K mg "refuse_unless_plain" cu bQ
 E7:Df K mg "rules_by_start" d7 d8
 Jc:Df K mg "prices" pX lL
 wf:Df K mg "pairs" n_ oa
 ui:Df K mg "_law_head" jQ gB
 E3:Df K mg "_law_behind" gM eF
 E6:Df K mg "_law_stack" iN fw
 Fj:Df K mg "_law_run" iO iP
 Bm:Df K mg "_law_rule" jR gC
 ym:Df K mg "_law_mixed" iS fB
 wj:Df K mg "_law_cell_at" ga dM
 Ff:Df K mg "rooms_behind" gc dN
 E2:Df K mg "head_of" mU ke
 E_:Df K mg "heads_by" iT iU
 Fd:Df K mg "head_steps_with" cw cz
 Ba:Df K mg "head_steps" iV fC
 A9:Df K mg "_law_due" iW iX
 HS:Df K mg "_law_whole" iY fD
 Bh:Df K mg "_law_is_head" gd dP
 A8:Df K mg "_law_told" gE gF
 E5:Df K mg "_law_on_run" gZ eI
 I_:Df K mg "_law_rules" i6 fE
 E9:Df K mg "law" rX zy
 EC:mg "all"=none
 HP:mg "bool"=none
 uq:mg "dict"=none
 mj:mg "enumerate"=none
 Mr:mg "int"=none
 dc:mg "isinstance"=none
 bZ:mg "len"=none
 i_:mg "list"=none
 ES:mg "min"=none
 lX:mg "range"=none
 EB:mg "set"=none
 mX:mg "sorted"=none
 EQ:mg "tuple"=none
 CQ:Addr
 kQ:ul K CQ
 gQ:mg "Queue"=some (.ref CQ)
 CP:Addr
 kP:kq K CP
 gP:mg "Pricing"=some (.ref CP)
 Mp:Mf K CQ "__init__" "Queue.__init__" LF ["self"]
 Me:Mk K CQ Mp.f
 HL:Mf K CQ "add" "Queue.add" LG ["self","price","thing"]
 L6:Mf K CQ "is_empty" "Queue.is_empty" LH ["self"]
 L8:Mf K CQ "take_lowest" "Queue.take_lowest" HA ["self"]
 Mn:Mf K CP "__init__" "Pricing.__init__" LI ["self","house"]
 L7:Mk K CP Mn.f
 yj:Mf K CP "offer" "Pricing.offer" LJ ["self","arrow","price","number","mid"]
 L9:Mf K CP "settle" "Pricing.settle" LK ["self","arrow","price"]
 Mq:Mf K CP "settle_first" "Pricing.settle_first" LL ["self","number","rule","mid","price"]
 Mo:Mf K CP "settle_all" "Pricing.settle_all" LM ["self"]
section
variable{P:Xq}{w:World}{K:Xp}{mg:Str->Option Xr}{base:Heap}(t:Tx K mg)
def vV:bD P w K mg base hV 1 t.Ja.f t.Ja.fd iI (jC mg 2 pW):=
 gx t.Ja.h.fu vU λcdv A outer s H E c=>
  have d:=c.units
  (aU (cf (dD (J1 (by rfl)) (by rfl) t.EC (by decide +kernel) (av (Gg rfl (b5.of (osc:=aw iH) (N:=N_is_plain) (tN:=["arrow"]) (capN:=["house"]) (caps:=[0]) rfl rfl (by decide +kernel)) (nX (dG (pv 1))) (by decide) (λcl C a b fp=>(dF pV rfl (.inl rfl))) (λcl C a b fp=>ve) (λcl C a b fp=>(mH (Na) (dG (pv 0)) (dG (pv 1)) (bb _)))) aO))))
def i7:bD P w K mg base hV 2 t.E1.f t.E1.fd bQ (jC mg 2 bR):=
 gx t.E1.h.fu iJ λcdv A outer s H E a=>
  have b:=a.units
  (aU (gI (F7 (Cv (cn (vV t) (a.mono (by decide)) (by rfl) t.Ja.h h_ (av (qv 0) (av (qv 1) aO)) (aT (aT cm))))) (aU Ar) dE))
def Pi:bD P w K mg base hV 1 t.Mp.f t.Mp.fd ["self"] (lZ t.CQ):=t.Mp.h.fu.ok Pe (λ_ _ _ _ h=>vF h) λcdv A outer s H vs Q E a h=>⟨_,ax (jo (pv 0) aA rfl) (aC (jo (pv 0) BM rfl)),xG t.kQ h⟩
def IU:bD P w K mg base hV 1 t.HL.f t.HL.fd ["self","price","thing"] (r_ t.CQ):=
 t.HL.h.fu.ok Pf (λ_ _ _ _ h=>AD h) λcdv A outer s H vs Q E a h=>
  ⟨_,aC (bE (fM UA UH UI cL (fM Ug Ut UU FI (cr (pv 0) rfl)
    (aa (wI PySem.F.plainAttrs_int PySem.F.slot_int_bit_length PySem.F.type_int_bit_length Gw (cZ Ju (pv 1) (cr (pv 0) rfl))) (aa (ce ah) ah))) (aa (bB (aa (pv 1) (aa (pv 2) ah))) ah))),CZ t.kQ h rfl⟩
def Pj:bD P w K mg base hV 1 t.L6.f t.L6.fd ["self"] (l9 t.CQ):=t.L6.h.fu.ok Pg (λ_ _ _ _ h=>vG h) λcdv A outer s H vs Q E a h=>⟨_,aC (bF (yx lb (bc AF (by rfl) t.bZ UY (aa (cr (pv 0) rfl) ah)) aA (bb _))),xH t.kQ h⟩
def vW:bD P w K mg base hV 2 t.yj.f t.yj.fd ["self","arrow","price","number","mid"] (eL t.CP t.CQ):=
 t.yj.h.fu.ok sc_PO (λ_ _ _ _ h=>vH h) λcdv A outer s H vs Q E a h=>
  ⟨_,ax (bL (i:=5) sc_PO.nd rfl (Or.inl rfl) (BN (dW a) (cr (pv 0) rfl) (pv 1) ⟨rfl,rfl,rfl,rfl⟩))
    (aC (cX (PW.pt (yn (bw Kg (pv 5) mn (bb _)) (wn (bw HX (pv 2) (aY ix_tup (pv 5) aA (λ_ _=>rfl)) (bb _)))))
      (ax (yE (dW a) (cr (pv 0) rfl) (pv 1) (bB (aa (pv 2) (aa (pv 3) (aa (pv 4) ah)))) rfl)
        (aC (bE (eZ (cr (pv 0) rfl) t.kQ.cl t.HL.h.me (IU t) a t.HL.h.bi .nil bn (aa (pv 2) (aa (pv 1) ah))))))
      bH)),xJ t.kP t.kQ h⟩
def Ee:((["price","thing"]:List Str)++([]:List Str)).Nodup:=by decide +kernel
def Pk:bD P w K mg base hV 2 t.L8.f t.L8.fd ["self"] (qu t.CQ):=
 t.L8.h.fu.ok sc_QT (λ_ _ _ _ h=>xI h) λcdv A outer s H vs Q E a h=>
  ⟨_,ax (bL (i:=1) sc_QT.nd rfl (Or.inl rfl) (uJ (cr (pv 0) rfl) (bc (AE rfl) (by rfl) t.ES (by decide +kernel) (aa (wI Ug PySem.F.slot_dict_keys PySem.F.type_dict_keys Gx (cr (pv 0) rfl)) ah)) ⟨rfl,rfl,rfl,rfl⟩))
    (ax (jo (pv 0) (bc (AL rfl) (by rfl) t.ES (by decide +kernel) (aa (fZ (tN:=["price","thing"]) (capN:=[]) (caps:=[]) rfl (b5.of (osc:=aw HA) (N:=["self","pile","price","thing"]) rfl rfl (by decide +kernel)) (b8 (pv 1))) ah)) rfl)
    (ax (dh Uh rfl (b8 (pv 1)) (de rfl (aN (aL (i:=2) sc_QT.nd rfl (Or.inl rfl)) (aN (aL (i:=3) sc_QT.nd rfl (Or.inl rfl)) cc)))
      (aC (bE (eZ (pv 0) t.kQ.cl t.HL.h.me (IU t) a t.HL.h.bi .nil bn (aa (pv 2) (aa (pv 3) ah))))))
    (aC (bF (uJ (cr (pv 0) rfl) aA ⟨rfl,rfl,rfl,rfl⟩))))),
    AG t.kQ (λ_ _=>rfl) (AM rfl (λ_ _ _ _ _=>de rfl (aN (aL (i:=0) Ee rfl (Or.inl rfl)) (aN (aL (i:=1) Ee rfl (Or.inl rfl)) cc))) λ_ _ _ _ _=>pv 0) h⟩
def Pl:bD P w K mg base hV 3 t.Mq.f t.Mq.fd ["self","number","rule","mid","price"] (l7 t.CP t.CQ):=
 t.Mq.h.fu.ok sc_PF (λ_ _ _ _ h=>vJ h) λcdv A outer s H vs Q E a h=>
  ⟨_,ax (bL (i:=5) sc_PF.nd rfl (Or.inl rfl) (bB (aa (pv 3) (aa (aY ix_tup (aY ix_tup (pv 2) aA (λ_ _=>rfl)) aA (λ_ _=>rfl)) ah))))
    (ax (bE (fM UA UH UI cL (fM Ug Ut UU (jz a.units) (cr (pv 0) rfl) (aa (pv 5) (aa (ce ah) ah))) (aa (bB (aa (pv 1) (aa (pv 2) (aa (pv 4) ah)))) ah)))
    (aC (dh Uh rfl (b8 (jw (dW a) (cr (pv 0) rfl) (pv 5) (ce ah) ⟨rfl,rfl,rfl,rfl⟩)) (de rfl (aN (aL (i:=6) sc_PF.nd rfl (Or.inl rfl)) (aN (aL (i:=7) sc_PF.nd rfl (Or.inl rfl)) cc)))
      (aC (bE (eZ (pv 0) t.kP.cl t.yj.h.me (vW t) a t.yj.h.bi .nil bn (aa (bB (aa (aY ix_tup (pv 2) aA (λ_ _=>rfl)) (aa (aY ix_tup (pv 2) aA (λ_ _=>rfl)) (aa (pv 6) ah))))
        (aa (cZ op_add (cZ op_add (pv 4) (pv 7)) aA) (aa (pv 1) (aa (pv 3) ah)))))))))),xK t.kP h⟩
def Pn:bD P w K mg base hV 4 t.L9.f t.L9.fd ["self","arrow","price"] (jY t.CP t.CQ):=
 t.L9.h.fu.ok sc_PS (λ_ _ _ _ h=>tO h) λcdv A outer s H vs Q E a h=>
  have b:dj 2 _:=a.mono (by decide)
  ⟨_,ax (bL (i:=3) sc_PS.nd rfl (Or.inl rfl) (bB (aa (aY ix_tup (pv 1) aA (λ_ _=>rfl)) (aa (aY ix_tup (pv 1) aA (λ_ _=>rfl)) ah))))
    (ax (bE (fM UA UH UI cL (fM Ug Ut UU (jz a.units) (cr (pv 0) rfl) (aa (pv 3) (aa (ce ah) ah))) (aa (bB (aa (aY ix_tup (pv 1) aA (λ_ _=>rfl)) (aa (pv 2) ah))) ah)))
    (ax (dh Uh rfl (b8 (jw (dW a) (cr (pv 0) rfl) (pv 3) (ce ah) ⟨rfl,rfl,rfl,rfl⟩)) (de rfl (aN (aL (i:=4) sc_PS.nd rfl (Or.inl rfl)) (aN (aL (i:=5) sc_PS.nd rfl (Or.inl rfl)) (aN (aL (i:=6) sc_PS.nd rfl (Or.inl rfl)) cc))))
      (aC (bE (eZ (pv 0) t.kP.cl t.yj.h.me (vW t) b t.yj.h.bi .nil bn (aa (bB (aa (aY ix_tup (pv 5) aA (λ_ _=>rfl)) (aa (aY ix_tup (pv 5) aA (λ_ _=>rfl)) (aa (aY ix_tup (pv 1) aA (λ_ _=>rfl)) ah))))
        (aa (cZ op_add (cZ op_add (pv 6) (pv 2)) aA) (aa (pv 4) (aa (aY ix_tup (pv 1) aA (λ_ _=>rfl)) ah))))))))
    (aC (dh Uh rfl (b8 (jw (dW a) (cr (pv 0) rfl) (pv 3) (ce ah) ⟨rfl,rfl,rfl,rfl⟩)) (de rfl (aN (aL (i:=4) sc_PS.nd rfl (Or.inl rfl)) (aN (aL (i:=5) sc_PS.nd rfl (Or.inl rfl)) cc)))
      (aC (cX (bw lb (bc cq (by rfl) t.bZ UY (aa (aY ix_tup (pv 5) aA (λ_ _=>rfl)) ah)) aA (bb _))
        (aC (bE (eZ (pv 0) t.kP.cl t.yj.h.me (vW t) b t.yj.h.bi .nil bn (aa (bB (aa (aY ix_tup (pv 5) aA (λ_ _=>rfl)) (aa (aY ix_tup (pv 5) aA (λ_ _=>rfl)) (aa (aY ix_tup (pv 1) aA (λ_ _=>rfl)) ah))))
          (aa (cZ op_add (pv 2) aA) (aa (pv 4) (aa mn ah)))))))
        (aC (bE (eZ (pv 0) t.kP.cl t.Mq.h.me (Pl t) a t.Mq.h.bi .nil bn (aa (pv 4) (aa (pv 5) (aa (aY ix_tup (pv 1) aA (λ_ _=>rfl)) (aa (pv 2) ah))))))))))))),vK t.kP h⟩
def Po:bD P w K mg base hV 5 t.Mo.f t.Mo.fd ["self"] (wc t.CP t.CQ):=
 t.Mo.h.fu.ok sc_PA (λ_ _ _ _ h=>AH h) λcdv A outer s H vs Q E a h=>
  ⟨_,aC (Bs Uh (jm (kM (ou (cr (pv 0) rfl) t.kQ.cl t.L6.h.me (Pj t) (a.mono (by decide)) t.L6.h.bi .nil bn)))
    (aC (dh Uh rfl (b8 (ou (cr (pv 0) rfl) t.kQ.cl t.L8.h.me (Pk t) (a.mono (by decide)) t.L8.h.bi .nil bn)) (de rfl (aN (aL (i:=1) sc_PA.nd rfl (Or.inl rfl)) (aN (aL (i:=2) sc_PA.nd rfl (Or.inl rfl)) cc)))
      (aC (cX (bw lb (aY ix_tup (d_ (dW a) (cr (pv 0) rfl) (pv 2) (λ_ _=>rfl)) aA (λ_ _=>rfl)) (pv 1) (bb _))
        (aC (bE (eZ (pv 0) t.kP.cl t.L9.h.me (Pn t) a t.L9.h.bi .nil bn (aa (pv 2) (aa (pv 1) ah))))) bH))))),C7 t.kP h⟩
def lS:bD P w K mg base hV 1 t.E7.f t.E7.fd ["house"] EM:=
 t.E7.h.fu.ok sc_rules_by_start (λ_ _ _ _ h=>C8 h) λcdv A outer s H vs Q E a h=>
  ⟨_,ax (bL (i:=1) sc_rules_by_start.nd rfl (Or.inl rfl) fO)
    (ax (dh Uh rfl (zb rfl t.mj (aa (aY ix_tup (pv 0) aA (λ_ _=>rfl)) ah)) (de rfl (aN (aL (i:=2) sc_rules_by_start.nd rfl (Or.inl rfl)) (aN (aL (i:=3) sc_rules_by_start.nd rfl (Or.inl rfl)) cc)))
      (aC (cX (bw yw (bc cq (by rfl) t.bZ UY (aa (aY ix_tup (pv 3) aA (λ_ _=>rfl)) ah)) aA (bb _))
        (aC (bE (fM UA UH UI cL (fM Ug Ut UU (jz a.units) (pv 1)
          (aa (bB (aa (aY ix_tup (pv 3) aA (λ_ _=>rfl)) (aa (aY ix_tup (aY ix_tup (pv 3) aA (λ_ _=>rfl)) aA (λ_ _=>rfl)) ah))) (aa (ce ah) ah))) (aa (bB (aa (pv 2) (aa (pv 3) ah))) ah)))) bH)))
    (aC (bF (pv 1)))),GE h⟩
def Pp:bD P w K mg base hV 3 t.Mn.f t.Mn.fd ["self","house"] (ma t.CP t.CQ):=
 t.Mn.h.fu.ok Ph (λ_ _ _ _ h=>vL h) λcdv A outer s H vs Q E a h=>
  ⟨_,ax (jo (pv 0) (aZ (lS t) (a.mono (by decide)) rfl t.E7.h.gl t.E7.h.fu.kp t.E7.h.bi .nil bn (aa (pv 1) ah)) rfl)
    (ax (jo (pv 0) fO rfl) (ax (jo (pv 0) (BA t.Me (Pi t) a rfl t.gQ t.Mp.h.bi .nil bn) rfl) (ax (jo (pv 0) fO rfl) (aC (jo (pv 0) fO rfl))))),xM t.kP h⟩
def A1:bD P w K mg base hV 6 t.Jc.f t.Jc.fd lL (jC mg 2 jP):=
 t.Jc.h.fu.ok sc_prices (λ_ _ _ _ h=>h.1) λcdv A outer s H vs Q E b h=>
  have a:dj 2 _:=b.mono (by decide)
  ⟨_,ax (bE (aZ (i7 t) (b.mono (by decide)) rfl t.E1.h.gl t.E1.h.fu.kp t.E1.h.bi .nil h_ (aa (pv 0) (aa (pv 1) ah))))
    (ax (bL (i:=2) sc_prices.nd rfl (Or.inl rfl) (Fy t.L7 (Pp t) (b.mono (by decide)) rfl t.gP t.Mn.h.bi .nil bn (aa (pv 0) ah)))
    (ax (dh Uh rfl (b8 (aY ix_tup (pv 1) aA (λ_ _=>rfl))) (aL (i:=3) sc_prices.nd rfl (Or.inl rfl)) (aC (bE (eZ (pv 2) t.kP.cl t.yj.h.me (vW t) a t.yj.h.bi .nil bn (aa (pv 3) (aa aA (aa mn (aa mn ah))))))))
    (ax (dh Uh rfl (zb rfl t.mj (aa (aY ix_tup (pv 0) aA (λ_ _=>rfl)) ah)) (de rfl (aN (aL (i:=4) sc_prices.nd rfl (Or.inl rfl)) (aN (aL (i:=5) sc_prices.nd rfl (Or.inl rfl)) cc)))
      (aC (cX (bw lb (bc cq (by rfl) t.bZ UY (aa (aY ix_tup (pv 5) aA (λ_ _=>rfl)) ah)) aA (bb _))
        (aC (bE (eZ (pv 2) t.kP.cl t.yj.h.me (vW t) a t.yj.h.bi .nil bn (aa (bB (aa (aY ix_tup (pv 5) aA (λ_ _=>rfl)) (aa (aY ix_tup (pv 5) aA (λ_ _=>rfl)) (aa (aY ix_tup (pv 5) aA (λ_ _=>rfl)) ah))))
          (aa aA (aa (pv 4) (aa mn ah))))))) bH)))
    (ax (bE (ou (pv 2) t.kP.cl t.Mo.h.me (Po t) b t.Mo.h.bi .nil bn))
    (aC (bF (cr (pv 2) rfl))))))),vM t.kP h⟩
def p_:bD P w K mg base hV 7 t.wf.f t.wf.fd oa (jC mg 1 iL):=
 gx t.wf.h.fu sc_pairs λcdv A outer s H E c=>
  have g:=c.units
  (aD (pq sc_pairs.nd rfl (.inl rfl) (cn (A1 t) (c.mono (by decide)) (by rfl) t.Jc.h h_ (av (qv 0) (av (io (av (dG (pv 0)) (av (mI aO) (av (mI aO) aO)))) aO)) (aT (aT cm))))
    (aU (cf (rq (Gk (by rfl) g) (by rfl) t.uq (by decide +kernel) (av (Da rfl (b5.of (osc:=aw n_) (N:=tV) (tN:=["arrow","price"]) (capN:=[]) (caps:=[]) rfl rfl (by decide +kernel)) (qv 1) (by decide) (λcl C d e fp=>(Gc rfl (rA (dF nv rfl (.inl rfl)) (rA (dF nv rfl (.inl rfl)) CC (λ_ a _ b=>aN a b)) (λ_ a _ b=>aN a b)))) (λcl C d e fp=>ve) (λcl C d e fp=>(io (av (qv 0) (av (dG (pv 1)) aO))))) aO)))))
def fG:bD P w K mg base hV 1 t.ui.f t.ui.fd gB (jC mg 1 dw):=
 gx t.ui.h.fu tW λcdv A outer s H E a=>
  have b:=a.units
  (aU (cf (io (av (dG (pv 0)) (av (Cy (dG (pv 0)) aB (λ_ _=>rfl)) aO)))))
def qg:bD P w K mg base hV 1 t.E3.f t.E3.fd eF (jC mg 2 bN):=
 gx t.E3.h.fu sc__law_behind λcdv A outer s H E a=>
  have b:=a.units
  (aD (lE Uh rfl (xu (by rfl) t.lX (av (aJ cB (qv 1) aB) (av (dD jD (by rfl) t.bZ (by decide +kernel) (av (qv 0) aO)) aO))) (dF sc__law_behind.nd rfl (.inl rfl)) (aU (gI (eh (lC b) (dD jD (by rfl) t.bZ (by decide +kernel) (av (Cy (oW (pv 0) (qv 2) (λ_ _=>rfl)) aB (λ_ _=>rfl)) aO)) (dD jD (by rfl) t.bZ (by decide +kernel) (av (Cy (oW (pv 0) (qv 1) (λ_ _=>rfl)) aB (λ_ _=>rfl)) aO)) (bb _)) (aU (cf (qv 2))) dE)))
    (aU (cf JV)))
def qG:bD P w K mg base hV 1 t.E6.f t.E6.fd fw (jC mg 2 fy):=
 gx t.E6.h.fu sc__law_stack λcdv A outer s H E a=>
  have b:=a.units
  (aD (a_ sc__law_stack.nd rfl (.inl rfl) (aJ bt (aJ cA (qv 0) aB) aB))
    (aD (a_ sc__law_stack.nd rfl (.inl rfl) (mI aO))
    (aD (lE Uh rfl (o7 (by rfl) t.lX (av (aJ bt (qv 0) aB) aO)) (dF sc__law_stack.nd rfl (.inl rfl)) (aD (a_ sc__law_stack.nd rfl (.inl rfl) (aJ bt (aJ cB (aJ cB (aJ ik (qv 2) aB) (aJ ik (qv 4) (qv 4))) aB) aB))
    (aU (nW (pv 3) (aJ bt (aJ cA (qv 2) aB) (qv 1))))))
    (aU (cf (qv 3))))))
def vX:bD P w K mg base hV 1 t.Fj.f t.Fj.fd iP (jC mg 4 iQ):=
 gx t.Fj.h.fu sc__law_run λcdv A outer s H E d=>
  have a:=d.units
  (aD (a_ sc__law_run.nd rfl (.inl rfl) (mI (av (io (av (qv 1) (av (qv 2) aO))) aO)))
    (aD (lE Uh rfl (nX (qv 3)) (dF sc__law_run.nd rfl (.inl rfl)) (aD (a_ sc__law_run.nd rfl (.inl rfl) (mI aO))
    (aD (gI (eh (Cs) (dD jD (by rfl) t.bZ (by decide +kernel) (av (qv 2) aO)) aB (bb _)) (aU (CJ rfl (b5.of (osc:=aw iO) (N:=N__law_run) (tN:=["_law_rule_here"]) (capN:=["_law_room","_law_stack_here"]) (caps:=[1,2]) rfl rfl (by decide +kernel)) sc__law_run.nd rfl rfl (nX (qv 0)) (by decide) (λcl C b c fp=>(dF pY rfl (.inl rfl))) (λcl C b c fp=>(CH (PWD.pt (F8 (eh (lC a) (dG (pv 0)) (qv 1) (bb _)) (Cw (eh (lC a) (dG (pv 0)) (dG (pv 2)) (bb _))))))) (λcl C b c fp=>(qv 0)))) dE)
    (aU (gI (eh (Cs) (dD jD (by rfl) t.bZ (by decide +kernel) (av (qv 6) aO)) aB (bb _)) (aD (a_ sc__law_run.nd rfl (.inl rfl) (oW (pv 6) (aJ bt (qv 5) (dD jD (by rfl) t.bZ (by decide +kernel) (av (qv 6) aO))) (λ_ _=>rfl)))
    (aD (a_ sc__law_run.nd rfl (.inr rfl) (dG (pv 7)))
    (aD (a_ sc__law_run.nd rfl (.inr rfl) (aJ cB (rq F_ (by rfl) t.i_ (by decide +kernel) (av (dG (pv 7)) aO)) (pc (qv 2) (lF aB) vh)))
    (aU (nW (pv 4) (io (av (qv 1) (av (qv 2) aO)))))))) dE)))))
    (aU (cf (qv 4)))))
def i8:bD P w K mg base hV 1 t.Bm.f t.Bm.fd gC (jC mg 4 cG):=
 gx t.Bm.h.fu sc__law_rule λcdv A outer s H E a=>
  have b:=a.units
  (aD (a_ sc__law_rule.nd rfl (.inl rfl) (aJ bt (qv 0) (qv 1)))
    (aD (a_ sc__law_rule.nd rfl (.inl rfl) (aJ cA (qv 0) (qv 1)))
    (aD (a_ sc__law_rule.nd rfl (.inl rfl) (aJ bt (qv 0) (qv 2)))
    (aD (a_ sc__law_rule.nd rfl (.inl rfl) (aJ cA (qv 0) (qv 2)))
    (aD (a_ sc__law_rule.nd rfl (.inl rfl) (aJ bt (qv 0) (qv 1)))
    (aD (a_ sc__law_rule.nd rfl (.inl rfl) (aJ cA (qv 0) (qv 1)))
    (aD (a_ sc__law_rule.nd rfl (.inl rfl) (aJ bt (qv 0) aB))
    (aD (a_ sc__law_rule.nd rfl (.inl rfl) (aJ cA (qv 0) aB))
    (aD (a_ sc__law_rule.nd rfl (.inl rfl) (qv 2))
    (aD (gI (Cv (qv 3)) (aU (a_ sc__law_rule.nd rfl (.inl rfl) (qv 5))) dE)
    (aD (gI (eh (lC b) (qv 8) aB (bb _)) (aU (cf (io (av (qv 4) (av (qv 5) (av (qv 6) (av (io aO) aO))))))) dE)
    (aU (cf (io (av (qv 4) (av (qv 5) (av (qv 6) (av (pc (io (av (aJ bt (qv 0) (qv 8)) (av (aJ bt (aJ cA (qv 0) (qv 8)) (qv 8)) aO))) vh (lF (qv 7))) aO))))))))))))))))))
def eJ:bD P w K mg base hV 1 t.ym.f t.ym.fd fB (jC mg 1 cN):=
 gx t.ym.h.fu qD λcdv A outer s H E a=>
  have b:=a.units
  (aU (cf (aJ bt (aJ ik (aJ cB (aJ bt (qv 0) aB) aB) aB) aB)))
def cp:bD P w K mg base hV 1 t.wj.f t.wj.fd dM (jC mg 2 bG):=
 gx t.wj.h.fu nN λcdv A outer s H E a=>
  have b:=a.units
  (aD (gI (eh (Cr) (qv 1) (dD jD (by rfl) t.bZ (by decide +kernel) (av (qv 0) aO)) (bb _)) (aU (cf (oW (pv 0) (qv 1) (λ_ _=>rfl)))) dE)
    (aU (cf aB)))
def ya:bD P w K mg base hV 1 t.E2.f t.E2.fd ke ql:=t.E2.h.fu.ok x_ (λ_ _ _ _ h=>xQ h) λcdv A outer s H vs Q E a h=>⟨_,aC (bF (bB (aa (aY ix_tup (pv 0) aA (λ_ _=>rfl)) (aa (aY ix_tup (pv 0) aA (λ_ _=>rfl)) ah)))),AQ h⟩
def LO:((["room"]:List Str)++(["put"]:List Str)).Nodup:=by decide +kernel
def vY:bD P w K mg base hV 1 t.E_.f t.E_.fd iU ED:=
 t.E_.h.fu.ok sc_heads_by (λ_ _ _ _ h=>Dh h) λcdv A outer s H vs Q E a h=>
  ⟨_,ax (bL (i:=2) sc_heads_by.nd rfl (Or.inr rfl) (aY ix_tup (pv 0) aA (λ_ _=>rfl)))
    (ax (cX (bw lb (bc cq (by rfl) t.bZ UY (aa (pv 2) ah)) aA (bb _)) (aC (bF (ce ah))) bH)
    (ax (bL (i:=3) sc_heads_by.nd rfl (Or.inl rfl) (bB (aa (aY ix_tup (pv 0) aA (λ_ _=>rfl)) (aa (aY ix_tup (pv 2) aA (λ_ _=>rfl)) ah))))
    (ax (cX (bw lb (bc cq (by rfl) t.bZ UY (aa (pv 2) ah)) aA (bb _)) (aC (bF (ce (aa (pv 3) ah)))) bH)
    (aC (bF (cZ wJ (ce (aa (pv 3) ah)) (fZ (tN:=["room"]) (capN:=["put"]) (caps:=[2]) rfl (b5.of (osc:=aw iT) (N:=N_heads_by) rfl rfl (by decide +kernel)) (b8 (jw (dW a) (pv 1) (pv 3) (ce ah) ⟨rfl,rfl,rfl,rfl⟩))))))))),
    GK rfl rfl (λ_ _ _ _ _=>aL (i:=0) LO rfl (Or.inl rfl)) (λ_ _ _ _ _=>bB (aa (pv 0) (aa (aY ix_tup (pv 1) aA (λ_ _=>rfl)) ah))) h⟩
def nP:bD P w K mg base hV 8 t.Ff.f t.Ff.fd dN (EL mg iL):=
 t.Ff.h.fu.ok sc_rooms_behind (λ_ _ _ _ h=>Di h) λcdv A outer s H vs Q E a h=>
  ⟨_,ax (bL (i:=1) sc_rooms_behind.nd rfl (Or.inl rfl) fO)
    (ax (BQ (dh Uh rfl (vN (aZ (p_ t) (a.mono (by decide)) rfl t.wf.h.gl t.wf.h.fu.kp t.wf.h.bi .nil bn (aa (pv 0) ah))) (de rfl (aN (aL (i:=2) sc_rooms_behind.nd rfl (Or.inl rfl)) (aN (aL (i:=3) sc_rooms_behind.nd rfl (Or.inl rfl)) (aN (aL (i:=4) sc_rooms_behind.nd rfl (Or.inl rfl)) cc))))
      (aC (bE (fM UA UH UI cL (fM Ug Ut UU (jz a.units) (pv 1) (aa (bB (aa (pv 2) (aa (pv 3) ah))) (aa (ce ah) ah))) (aa (pv 4) ah))))))
    (aC (bF (pv 1)))),GL h⟩
def Ef:((["head","heads"]:List Str)++([]:List Str)).Nodup:=by decide +kernel
def k9:bD P w K mg base hV 2 t.Fd.f t.Fd.fd cz ER:=
 t.Fd.h.fu.ok sc_head_steps_with (λ_ _ _ _ h=>Dn h) λcdv A outer s H vs Q E a h=>
  have b:=a.units
  ⟨_,ax (bL (i:=2) sc_head_steps_with.nd rfl (Or.inl rfl) fO)
    (ax (dh Uh rfl (b8 (aY ix_tup (pv 0) aA (λ_ _=>rfl))) (aL (i:=3) sc_head_steps_with.nd rfl (Or.inl rfl))
      (aC (bE (fM UA PySem.F.slot_list_extend PySem.F.type_list_extend zR (fM Ug Ut UU (jz b) (pv 2) (aa (aZ (ya t) a rfl t.E2.h.gl t.E2.h.fu.kp t.E2.h.bi .nil bn (aa (pv 3) ah)) (aa (ce ah) ah))) (aa (aZ (vY t) a rfl t.E_.h.gl t.E_.h.fu.kp t.E_.h.bi .nil bn (aa (pv 3) (aa (pv 1) ah))) ah)))))
    (aC (bF (cK (xS rfl b) (by rfl) t.uq (by decide +kernel) (aa (fZ (tN:=["head","heads"]) (capN:=[]) (caps:=[]) rfl (b5.of (osc:=aw cw) (N:=gD) rfl rfl (by decide +kernel)) (ri (pv 2))) ah))))),
    GN rfl (λ_ _ _ _ _=>de rfl (aN (aL (i:=0) Ef rfl (Or.inl rfl)) (aN (aL (i:=1) Ef rfl (Or.inl rfl)) cc))) (λ_ _ _ _ _=>bB (aa (pv 0) (aa (bc (rR rfl) (by rfl) t.mX (by decide +kernel) (aa (cK (rQ rfl b) (by rfl) t.EB (by decide +kernel) (aa (pv 1) ah)) ah)) ah))) h⟩
def kI:bD P w K mg base hV 9 t.Ba.f t.Ba.fd fC (EN mg iL):=t.Ba.h.fu.ok qE (λ_ _ _ _ h=>Dp h) λcdv A outer s H vs Q E a h=>⟨_,aC (bF (aZ (k9 t) (a.mono (by decide)) rfl t.Fd.h.gl t.Fd.h.fu.kp t.Fd.h.bi .nil bn (aa (pv 0) (aa (aZ (nP t) (a.mono (by decide)) rfl t.Ff.h.gl t.Ff.h.fu.kp t.Ff.h.bi .nil bn (aa (pv 0) ah)) ah)))),GO h⟩
def HC:((["_law_key"]:List Str)++(["_law_to","_law_put"]:List Str)).Nodup:=by decide +kernel
def nC:bD P w K mg base hV 1 t.A9.f t.A9.fd iX EG:=
 t.A9.h.fu.ok sc__law_due (λ_ _ _ _ h=>Dv h) λcdv A outer s H vs Q E a h=>
  ⟨_,ax (bL (i:=2) sc__law_due.nd rfl (Or.inl rfl) fO)
    (ax (dh Uh rfl (b8 (pv 0)) (de rfl (aN (aL (i:=3) sc__law_due.nd rfl (Or.inl rfl)) (aN (aL (i:=4) sc__law_due.nd rfl (Or.inl rfl)) (aN (aL (i:=5) sc__law_due.nd rfl (Or.inr rfl)) (aN (aL (i:=6) sc__law_due.nd rfl (Or.inr rfl)) cc)))))
      (ax (bL (i:=7) sc__law_due.nd rfl (Or.inl rfl) (jw (dW a) (pv 2) (bB (aa (pv 3) (aa (pv 4) ah))) (ce ah) ⟨rfl,rfl,rfl,rfl⟩))
      (ax (cX (bw yw (bc cq (by rfl) t.bZ UY (aa (pv 6) ah)) aA (bb _)) (aC (bL (i:=7) sc__law_due.nd rfl (Or.inl rfl) (cZ wJ (pv 7) (ce (aa (bB (aa (pv 5) (aa (aY ix_tup (pv 6) aA (λ_ _=>rfl)) ah))) ah))))) bH)
      (ax (cX (bw lb (bc cq (by rfl) t.bZ UY (aa (pv 6) ah)) aA (bb _)) (aC (bL (i:=7) sc__law_due.nd rfl (Or.inl rfl) (cZ wJ (pv 7) (fZ (tN:=["_law_key"]) (capN:=["_law_to","_law_put"]) (caps:=[5,6]) rfl (b5.of (osc:=aw iW) (N:=N__law_due) rfl rfl (by decide +kernel)) (b8 (pv 1)))))) bH)
      (aC (yE (dW a) (pv 2) (bB (aa (pv 3) (aa (pv 4) ah))) (pv 7) rfl))))))
    (aC (bF (pv 2)))),
    GS ⟨rfl,rfl,(λ_ _ _ _ _=>aL (i:=0) HC rfl (Or.inl rfl)),(λ_ _ _ _ _=>y9 (PW.pt (sq (bw lb (aY ix_tup (pv 0) aA (λ_ _=>rfl)) (pv 1) (bb _)) (nR (bw lb (aY ix_tup (pv 0) aA (λ_ _=>rfl)) (aY ix_tup (pv 2) aA (λ_ _=>rfl)) (bb _)))))),λ_ _ _ _ _=>bB (aa (aY ix_tup (pv 0) aA (λ_ _=>rfl)) (aa (aY ix_tup (pv 2) aA (λ_ _=>rfl)) ah))⟩ h⟩
def kJ:bD P w K mg base hV 1 t.HS.f t.HS.fd fD (jC mg 1 iZ):=
 gx t.HS.h.fu qF λcdv A outer s H E a=>
  have b:=a.units
  (aU (cf (oV (xt CL (by rfl) t.dc (by rfl) t.Mr (by decide +kernel) (qv 0)) (sV (Cu (xt Aj (by rfl) t.dc (by rfl) t.HP (by decide +kernel) (qv 0)))))))
def jb:bD P w K mg base hV 2 t.Bh.f t.Bh.fd dP (jC mg 1 jV):=
 gx t.Bh.h.fu nO λcdv A outer s H E a=>
  have b:=a.units
  (aU (cf (oV (xt xq (by rfl) t.dc (by rfl) t.EQ (by decide +kernel) (qv 0)) (oV (mH (lC b) (dD jD (by rfl) t.bZ (by decide +kernel) (av (qv 0) aO)) aB (bb _)) (oV (cn (kJ t) (a.mono (by decide)) (by rfl) t.HS.h h_ (av (dG (pv 0)) aO) (aT cm)) (sV (cn (kJ t) (a.mono (by decide)) (by rfl) t.HS.h h_ (av (dG (pv 0)) aO) (aT cm))))))))
def Eg:((["_law_other"]:List Str)++([]:List Str)).Nodup:=by decide +kernel
def RK:Ky jV:=λ_=>rfl
def lT:bD P w K mg base hV 3 t.A8.f t.A8.fd gF Bg:=
 t.A8.h.fu.ok sc__law_told (λ_ _ _ _ h=>Dx h) λcdv A outer s H vs Q E a h=>
  have b:=a.units
  ⟨_,ax (cX (PW.pt (yn (jm (kM (bc rV (by rfl) t.dc (by decide +kernel) (aa (pv 0) (aa (sn (v:=.ty "dict") (by rfl) t.uq (by decide +kernel) rfl) ah))))) (wn (bw MR (bc pK (by rfl) t.bZ UY (aa (pv 0) ah)) (bc pK (by rfl) t.bZ UY (aa (pv 1) ah)) (bb _))))) (aC (bF g_)) bH)
    (ax (BQ (dh Uh rfl (vN (pv 0)) (aL (i:=2) sc__law_told.nd rfl (Or.inl rfl))
      (ax (cX (PW.pt (yn (jm (kM (aZ (jb t) (a.mono (by decide)) rfl t.Bh.h.gl t.Bh.h.fu.kp t.Bh.h.bi .nil bn (aa (pv 2) ah)))) (yn (bw (An b) (pv 2) (pv 1) rfl) (wn (jm (kM (bc rV (by rfl) t.dc (by decide +kernel) (aa (d_ (dW a) (pv 0) (pv 2) (λ_ _=>rfl)) (aa (sn (v:=.ty "list") (by rfl) t.i_ (by decide +kernel) rfl) ah))))))))) (aC (bF g_)) bH)
      (ax (cX (jm (kM (bc (AT rfl) (by rfl) t.EC (by decide +kernel) (aa (fZ (tN:=["_law_other"]) (capN:=[]) (caps:=[]) rfl (b5.of (osc:=aw gE) (N:=N__law_told) rfl rfl (by decide +kernel)) (b8 (d_ (dW a) (pv 0) (pv 2) (λ_ _=>rfl)))) ah)))) (aC (bF g_)) bH)
      (aC (cX (bw (xm b) (d_ (dW a) (pv 0) (pv 2) (λ_ _=>rfl)) (bc (rR rfl) (by rfl) t.mX (by decide +kernel) (aa (cK (rQ rfl b) (by rfl) t.EB (by decide +kernel) (aa (d_ (dW a) (pv 1) (pv 2) (λ_ _=>rfl)) ah)) ah)) (bb _)) (aC (bF g_)) bH))))))
    (aC (bF g_))),
    GV rfl (λ_ _ _ _ _=>aL (i:=0) Eg rfl (Or.inl rfl)) (λ_ _ _ _ _=>aZ (jb t) (a.mono (by decide)) rfl t.Bh.h.gl t.Bh.h.fu.kp t.Bh.h.bi .nil bn (aa (pv 0) ah)) RK h⟩
def qh:bD P w K mg base hV 2 t.E5.f t.E5.fd eI (EH dw bN):=
 t.E5.h.fu.ok sc__law_on_run (λ_ _ _ _ h=>Dz h) λcdv A outer s H vs Q E a h=>
  have b:=a.units
  ⟨_,ax (dh Uh rfl (qN (by rfl) t.lX (aa (cZ Bt (bc cq (by rfl) t.bZ UY (aa (pv 0) ah)) aA) ah)) (aL (i:=2) sc__law_on_run.nd rfl (Or.inl rfl))
    (ax (bL (i:=3) sc__law_on_run.nd rfl (Or.inl rfl) (cZ Bt (bc cq (by rfl) t.bZ UY (aa (aY ix_tup (aY ix_list (pv 0) (cZ op_add (pv 2) aA) (λ_ _=>rfl)) aA (λ_ _=>rfl)) ah)) (bc cq (by rfl) t.bZ UY (aa (aY ix_tup (aY ix_list (pv 0) (pv 2) (λ_ _=>rfl)) aA (λ_ _=>rfl)) ah))))
    (ax (cX (PW.pt (sq (bw HY (pv 3) aA (bb _)) (nR (bw (rH b) (aZ (fG t) (a.mono (by decide)) rfl t.ui.h.gl t.ui.h.fu.kp t.ui.h.bi .nil bn (aa (aY ix_list (pv 0) (cZ op_add (pv 2) aA) (λ_ _=>rfl)) ah)) (d_ (dW a) (pv 1) (aZ (fG t) (a.mono (by decide)) rfl t.ui.h.gl t.ui.h.fu.kp t.ui.h.bi .nil bn (aa (aY ix_list (pv 0) (pv 2) (λ_ _=>rfl)) ah)) (λ_ _=>rfl)) rfl)))) (aC (bF g_)) bH)
    (aC (cX (bw yw (pv 3) aA (bb _))
      (ax (bL (i:=4) sc__law_on_run.nd rfl (Or.inl rfl) (aZ (qg t) (a.mono (by decide)) rfl t.E3.h.gl t.E3.h.fu.kp t.E3.h.bi .nil bn (aa (pv 0) (aa (pv 2) ah))))
      (aC (cX (PW.pt (sq (Jl (Fs (pv 4))) (nR (bw (rH b) (aZ (fG t) (a.mono (by decide)) rfl t.ui.h.gl t.ui.h.fu.kp t.ui.h.bi .nil bn (aa (aY ix_list (pv 0) (pv 4) (λ_ _=>rfl)) ah)) (d_ (dW a) (pv 1) (aZ (fG t) (a.mono (by decide)) rfl t.ui.h.gl t.ui.h.fu.kp t.ui.h.bi .nil bn (aa (aY ix_list (pv 0) (pv 2) (λ_ _=>rfl)) ah)) (λ_ _=>rfl)) rfl)))) (aC (bF g_)) bH))) bH)))))
    (aC (bF g_)),GW h⟩
def qH:bD P w K mg base hV 2 t.I_.f t.I_.fd fE (jC mg 4 fF):=
 gx t.I_.h.fu sc__law_rules λcdv A outer s H E a=>
  have b:=a.units
  (aD (a_ sc__law_rules.nd rfl (.inl rfl) (aJ bt (aJ cA (cn (eJ t) (a.mono (by decide)) (by rfl) t.ym.h h_ (av (cn (cp t) (a.mono (by decide)) (by rfl) t.wj.h h_ (av (qv 0) (av aB aO)) (aT (aT cm))) aO) (aT cm)) aB) aB))
    (aD (a_ sc__law_rules.nd rfl (.inl rfl) (aJ cB (aJ bt (cn (cp t) (a.mono (by decide)) (by rfl) t.wj.h h_ (av (qv 0) (av aB aO)) (aT (aT cm))) aB) aB))
    (aD (a_ sc__law_rules.nd rfl (.inl rfl) (mI aO))
    (aD (lE Uh rfl (o7 (by rfl) t.lX (av (aJ ik (qv 1) (qv 2)) aO)) (dF sc__law_rules.nd rfl (.inl rfl)) (aD (a_ sc__law_rules.nd rfl (.inl rfl) (aJ bt (aJ cB (aJ cB (aJ ik (qv 5) (qv 5)) (aJ ik aB (qv 5))) (qv 7)) aB))
    (aU (gI (eh (Cr) (aJ bt (qv 5) aB) aB (bb _)) (aU (nW (pv 6) (cn (i8 t) (a.mono (by decide)) (by rfl) t.Bm.h h_ (av (aJ cB (aJ ik (aJ ik (aJ cA (qv 5) aB) (qv 1)) (qv 2)) (qv 7)) (av (qv 1) (av (qv 2) (av (mH (Cs) (qv 4) aB (bb _)) aO)))) (aT (aT (aT (aT cm))))))) dE))))
    (aD (lE Uh rfl (nX (pc (qv 0) (lF aB) (lF (aJ cB aB (qv 3))))) (dF sc__law_rules.nd rfl (.inl rfl)) (aD (a_ sc__law_rules.nd rfl (.inl rfl) (Nb (mH (lC b) (qv 4) aB (bb _)) (sV (oV (mH (lC b) (qv 4) aB (bb _)) (sV (mH (Cr) (aJ bt (qv 8) aB) aB (bb _)))))))
    (aU (nW (pv 6) (cn (i8 t) (a.mono (by decide)) (by rfl) t.Bm.h h_ (av (aJ bt (aJ ik (aJ cB (aJ bt (qv 8) aB) aB) aB) aB) (av (qv 1) (av (qv 2) (av (Cu (qv 9)) aO)))) (aT (aT (aT (aT cm)))))))))
    (aU (cf (qv 6))))))))
def LP:bD P w K mg base hV 10 t.E9.f t.E9.fd zy (jC mg 1 p9):=
 gx t.E9.h.fu sc_law λcdv A outer s H E a=>
  have b:=a.units
  (aD (pq sc_law.nd rfl (.inl rfl) (cn (eJ t) (a.mono (by decide)) (by rfl) t.ym.h h_ (av (cn (cp t) (a.mono (by decide)) (by rfl) t.wj.h h_ (av (qv 0) (av aB aO)) (aT (aT cm))) aO) (aT cm)))
    (aD (a_ sc_law.nd rfl (.inl rfl) (aJ cB aB (aJ bt (qv 1) aB)))
    (aD (a_ sc_law.nd rfl (.inl rfl) (aJ cB aB (aJ bt (aJ cA (qv 1) aB) aB)))
    (aD (a_ sc_law.nd rfl (.inl rfl) (aJ bt (aJ cA (qv 1) aB) aB))
    (aD (gI (eh (lC b) (aJ bt (aJ cA (qv 1) aB) aB) aB (bb _)) (aD (a_ sc_law.nd rfl (.inl rfl) (aJ cB aB (aJ bt (aJ cA (qv 1) aB) aB)))
    (aU (a_ sc_law.nd rfl (.inl rfl) (aJ cB aB (aJ bt (aJ cA (qv 1) aB) aB))))) (aU (gI (eh (lC b) (aJ bt (aJ cA (qv 1) aB) aB) aB (bb _)) (aD (a_ sc_law.nd rfl (.inl rfl) (aJ cB aB (aJ bt (aJ cA (qv 1) aB) aB)))
    (aU (a_ sc_law.nd rfl (.inl rfl) (aJ cB aB (aJ bt (aJ cA (qv 1) aB) aB))))) dE)))
    (aD (pq sc_law.nd rfl (.inl rfl) (cn (qH t) (a.mono (by decide)) (by rfl) t.I_.h h_ (av (qv 0) (av (qv 2) (av (qv 3) (av (qv 4) aO)))) (aT (aT (aT (aT cm))))))
    (G5 (F:=LN) (S:=⟨_,_,_,_,_,_,_,_,_,["_law_head_here"],["_law_head_here","_law_row_told"],["_law_found"],[7]⟩) (ax (bL (i:=6) sc_law.nd rfl (Or.inl rfl) (bB (aa (pv 2) (aa (pv 3) (aa (cK k8 (by rfl) t.i_ (by decide +kernel) (aa (pv 5) ah)) ah)))))
    (ax (bL (i:=7) sc_law.nd rfl (Or.inr rfl) (aZ (kI t) (a.mono (by decide)) rfl t.Ba.h.gl t.Ba.h.fu.kp t.Ba.h.bi .nil bn (aa (pv 6) ah)))
    (ax (cX (bw (xm b) (pv 6) (bB (aa (pv 2) (aa (pv 3) (aa (pv 5) ah)))) (bb _)) (aC (bF g_)) bH)
    (ax (cX (jm (kM (aZ (lT t) (a.mono (by decide)) rfl t.A8.h.gl t.A8.h.fu.kp t.A8.h.bi .nil bn (aa (pv 7) (aa (aZ (nC t) (a.mono (by decide)) rfl t.A9.h.gl t.A9.h.fu.kp t.A9.h.bi .nil bn (aa (pv 5) (aa (cK (pQ rfl) (by rfl) t.i_ (by decide +kernel) (aa (aZ (p_ t) (a.mono (by decide)) rfl t.wf.h.gl t.wf.h.fu.kp t.wf.h.bi .nil bn (aa (bB (aa (pv 2) (aa (pv 3) (aa (cK k8 (by rfl) t.i_ (by decide +kernel) (aa (pv 5) ah)) ah)))) ah)) ah)) ah))) ah))))) (aC (bF g_)) bH)
    (ax (bL (i:=8) sc_law.nd rfl (Or.inl rfl) (aZ (eJ t) (a.mono (by decide)) rfl t.ym.h.gl t.ym.h.fu.kp t.ym.h.bi .nil bn (aa (aZ (cp t) (a.mono (by decide)) rfl t.wj.h.gl t.wj.h.fu.kp t.wj.h.bi .nil bn (aa (pv 0) (aa aA ah))) ah)))
    (ax (bL (i:=9) sc_law.nd rfl (Or.inl rfl) (aZ (vX t) (a.mono (by decide)) rfl t.Fj.h.gl t.Fj.h.fu.kp t.Fj.h.bi .nil bn (aa (pv 5) (aa (cZ Bu (pv 8) (pv 2)) (aa (aZ (qG t) (a.mono (by decide)) rfl t.E6.h.gl t.E6.h.fu.kp t.E6.h.bi .nil bn (aa (cZ yq (pv 8) aA) (aa (pv 3) ah))) (aa (uG sl_list (pv 0) (su (cZ op_add aA (pv 4))) (su (cZ op_add aA (pv 4)))) ah))))))
    (ax (cX (jm (kM (aZ (qh t) (a.mono (by decide)) rfl t.E5.h.gl t.E5.h.fu.kp t.E5.h.bi .nil bn (aa (pv 9) (aa (pv 7) ah))))) (aC (bF g_)) bH)
    (ax (G4 (i:=10) (tN:=["_law_head_here"]) (capN:=["_law_found"]) (caps:=[7]) rfl (b5.of (osc:=aw rX) (N:=N_law) rfl rfl (by decide +kernel)) sc_law.nd rfl rfl (b8 (bc (AS rfl) (by rfl) t.mX (by decide +kernel) (aa (pv 7) ah))))
    (ax (dh Uh rfl (b8 (pv 10)) (de rfl (aN (aL (i:=11) sc_law.nd rfl (Or.inl rfl)) (aN (aL (i:=12) sc_law.nd rfl (Or.inl rfl)) cc))) (aC (bE (fM UA UH UI cL (d_ (dW a) (pv 7) (pv 11) (λ_ _=>rfl)) (aa aA ah)))))
    (ax (cX (bw (xm b) (fZ (tN:=["_law_head_here","_law_row_told"]) (capN:=["_law_found"]) (caps:=[7]) rfl (b5.of (osc:=aw rX) (N:=N_law) rfl rfl (by decide +kernel)) (b8 (pv 10))) (fZ (tN:=["_law_head_here","_law_row_told"]) (capN:=[]) (caps:=[]) rfl (b5.of (osc:=aw rX) (N:=N_law) rfl rfl (by decide +kernel)) (b8 (pv 10))) (bb _)) (aC (bF g_)) bH)
    (ax (bE (wI Ug PySem.F.slot_dict_clear PySem.F.type_dict_clear GP (pv 7)))
    (ax (bL (i:=13) sc_law.nd rfl (Or.inl rfl) (aZ (i8 t) (a.mono (by decide)) rfl t.Bm.h.gl t.Bm.h.fu.kp t.Bm.h.bi .nil bn (aa (aZ (eJ t) (a.mono (by decide)) rfl t.ym.h.gl t.ym.h.fu.kp t.ym.h.bi .nil bn (aa (aZ (cp t) (a.mono (by decide)) rfl t.wj.h.gl t.wj.h.fu.kp t.wj.h.bi .nil bn (aa (pv 0) (aa aA ah))) ah)) (aa (pv 2) (aa (pv 3) (aa g_ ah))))))
    (ax (bE (fM UA UH UI cL (aY ix_tup (pv 6) aA (λ_ _=>rfl)) (aa (pv 13) ah)))
    (ax (bL (i:=14) sc_law.nd rfl (Or.inl rfl) (aZ (nC t) (a.mono (by decide)) rfl t.A9.h.gl t.A9.h.fu.kp t.A9.h.bi .nil bn (aa (cZ op_catS (pv 5) (ce (aa (pv 13) ah))) (aa (cK (pQ rfl) (by rfl) t.i_ (by decide +kernel) (aa (aZ (p_ t) (a.mono (by decide)) rfl t.wf.h.gl t.wf.h.fu.kp t.wf.h.bi .nil bn (aa (bB (aa (pv 2) (aa (pv 3) (aa (cZ op_catS (pv 5) (ce (aa (pv 13) ah))) ah)))) ah)) ah)) ah))))
    (aC (bF (aZ (lT t) (a.mono (by decide)) rfl t.A8.h.gl t.A8.h.fu.kp t.A8.h.bi .nil bn (aa (aZ (kI t) (a.mono (by decide)) rfl t.Ba.h.gl t.Ba.h.fu.kp t.Ba.h.bi .nil bn (aa (pv 6) ah)) (aa (pv 14) ah)))))))))))))))))))
    ⟨⟨rfl,rfl,λ_ _ _ _ _=>de rfl (aN (aL (i:=0) zA rfl (Or.inl rfl)) (aN (aL (i:=1) zA rfl (Or.inl rfl)) cc)),λ_ _ _ _ _=>d_ (dW a) (pv 2) (pv 0) (λ_ _=>rfl),λ_ _ _ _ _=>de rfl (aN (aL (i:=0) zB rfl (Or.inl rfl)) (aN (aL (i:=1) zB rfl (Or.inl rfl)) cc)),λ_ _ _ _ _=>cZ op_catS (pv 1) (ce (aa aA ah))⟩,rfl,λ_ _ _ _ _=>aL (i:=0) HB rfl (Or.inl rfl),λ_ _ _ _ _=>bB (aa (pv 0) (aa (cK k8 (by rfl) t.i_ (by decide +kernel) (aa (d_ (dW a) (pv 1) (pv 0) (λ_ _=>rfl)) ah)) ah))⟩)))))))
end
def Pq{K KK:Xp}{mg:Str->Option Xr}{h:Heap}(X:K.In h)(G:h.Ns mainGlobals mg)(U:v8 K KK)
 (Ja:FK K "is_plain" iH) (E1:FK K "refuse_unless_plain" cu) (E7:FK K "rules_by_start" d7) (Jc:FK K "prices" pX) (wf:FK K "pairs" n_) (ui:FK K "_law_head" jQ) (E3:FK K "_law_behind" gM) (E6:FK K "_law_stack" iN) (Fj:FK K "_law_run" iO) (Bm:FK K "_law_rule" jR) (ym:FK K "_law_mixed" iS) (wj:FK K "_law_cell_at" ga) (Ff:FK K "rooms_behind" gc) (E2:FK K "head_of" mU) (E_:FK K "heads_by" iT) (Fd:FK K "head_steps_with" cw) (Ba:FK K "head_steps" iV) (A9:FK K "_law_due" iW) (HS:FK K "_law_whole" iY) (Bh:FK K "_law_is_head" gd) (A8:FK K "_law_told" gE) (E5:FK K "_law_on_run" gZ) (I_:FK K "_law_rules" i6) (E9:FK K "law" rX)
 (m:nsIn K mainGlobals "all"=some none)
 (j:nsIn K mainGlobals "bool"=some none)
 (k:nsIn K mainGlobals "dict"=some none)
 (c:nsIn K mainGlobals "enumerate"=some none)
 (n:nsIn K mainGlobals "int"=some none)
 (a:nsIn K mainGlobals "isinstance"=some none)
 (o:nsIn K mainGlobals "len"=some none)
 (l:nsIn K mainGlobals "list"=some none)
 (p:nsIn K mainGlobals "min"=some none)
 (e:nsIn K mainGlobals "range"=some none)
 (q:nsIn K mainGlobals "set"=some none)
 (d:nsIn K mainGlobals "sorted"=some none)
 (f:nsIn K mainGlobals "tuple"=some none)
 {CQ:Addr} (R:CK K KK "Queue" CQ) (z:findIn KK (.ref CQ) "last"=some none) (A:findIn KK (.ref CQ) "piles"=some none)
 {CP:Addr} (S:CK K KK "Pricing" CP) (B:findIn KK (.ref CP) "rules"=some none) (C:findIn KK (.ref CP) "told"=some none) (D:findIn KK (.ref CP) "offers"=some none) (E:findIn KK (.ref CP) "settled"=some none) (F:findIn KK (.ref CP) "lacking"=some none)
 {H:Addr} (g:MK KK CQ "__init__" "Queue.__init__" LF H)
 {I:Addr} (r:MK KK CQ "add" "Queue.add" LG I)
 {J:Addr} (s:MK KK CQ "is_empty" "Queue.is_empty" LH J)
 {L:Addr} (u:MK KK CQ "take_lowest" "Queue.take_lowest" HA L)
 {M:Addr} (i:MK KK CP "__init__" "Pricing.__init__" LI M)
 {N:Addr} (v:MK KK CP "offer" "Pricing.offer" LJ N)
 {O:Addr} (w:MK KK CP "settle" "Pricing.settle" LK O)
 {P:Addr} (x:MK KK CP "settle_first" "Pricing.settle_first" LL P)
 {Q:Addr} (y:MK KK CP "settle_all" "Pricing.settle_all" LM Q)
 : ∃t:Tx KK mg,True:=by
 obtain⟨Ja⟩:=df (ps:=iI) X G U Ja;obtain⟨E1⟩:=df (ps:=bQ) X G U E1;obtain⟨E7⟩:=df (ps:=d8) X G U E7;obtain⟨Jc⟩:=df (ps:=lL) X G U Jc;obtain⟨wf⟩:=df (ps:=oa) X G U wf;obtain⟨ui⟩:=df (ps:=gB) X G U ui;obtain⟨E3⟩:=df (ps:=eF) X G U E3;obtain⟨E6⟩:=df (ps:=fw) X G U E6;obtain⟨Fj⟩:=df (ps:=iP) X G U Fj;obtain⟨Bm⟩:=df (ps:=gC) X G U Bm;obtain⟨ym⟩:=df (ps:=fB) X G U ym;obtain⟨wj⟩:=df (ps:=dM) X G U wj;obtain⟨Ff⟩:=df (ps:=dN) X G U Ff;obtain⟨E2⟩:=df (ps:=ke) X G U E2;obtain⟨E_⟩:=df (ps:=iU) X G U E_;obtain⟨Fd⟩:=df (ps:=cz) X G U Fd;obtain⟨Ba⟩:=df (ps:=fC) X G U Ba;obtain⟨A9⟩:=df (ps:=iX) X G U A9;obtain⟨HS⟩:=df (ps:=fD) X G U HS;obtain⟨Bh⟩:=df (ps:=dP) X G U Bh;obtain⟨A8⟩:=df (ps:=gF) X G U A8;obtain⟨E5⟩:=df (ps:=eI) X G U E5;obtain⟨I_⟩:=df (ps:=fE) X G U I_;obtain⟨E9⟩:=df (ps:=zy) X G U E9;have Me:=NR R g;obtain⟨Mp,rfl⟩:=mf (ps:=["self"]) g;obtain⟨HL,rfl⟩:=mf (ps:=["self","price","thing"]) r;obtain⟨L6,rfl⟩:=mf (ps:=["self"]) s;obtain⟨L8,rfl⟩:=mf (ps:=["self"]) u;have L7:=NR S i;obtain⟨Mn,rfl⟩:=mf (ps:=["self","house"]) i;obtain⟨yj,rfl⟩:=mf (ps:=["self","arrow","price","number","mid"]) v;obtain⟨L9,rfl⟩:=mf (ps:=["self","arrow","price"]) w;obtain⟨Mq,rfl⟩:=mf (ps:=["self","number","rule","mid","price"]) x;obtain⟨Mo,rfl⟩:=mf (ps:=["self"]) y;exact⟨⟨Ja,E1,E7,Jc,wf,ui,E3,E6,Fj,Bm,ym,wj,Ff,E2,E_,Fd,Ba,A9,HS,Bh,A8,E5,I_,E9,Uv X G m,Uv X G j,Uv X G k,Uv X G c,Uv X G n,Uv X G a,Uv X G o,Uv X G l,Uv X G p,Uv X G e,Uv X G q,Uv X G d,Uv X G f,CQ,⟨R.cl,z,A⟩,PySem.W.mg_of X G R.b,CP,⟨S.cl,B,C,D,E,F⟩,PySem.W.mg_of X G S.b,Mp,Me,HL,L6,L8,Mn,L7,yj,L9,Mq,Mo⟩,True.intro⟩
def LQ{l:PySem.W.OpenLaw}{w:World}{K:Xp}{mg:Str->Option Xr}{c:Addr}(a:mg "law"=some (.ref c)) (T:∃t:Tx K mg,True) :
 ∃fd:FuncData,(∀(s:Xo)(v:Xr),BindsTo s fd ⟨[v],[]⟩ [("_law_script",v)])/\∀base:Heap,bD l.prog w K mg base hV 10 c fd ["_law_script"] (P7 p9):=by
 obtain⟨t,_⟩:=T;have e:=a.symm.trans t.E9.h.gl;cases e;obtain⟨oc,od,kV,doc,pm,an,cdv,ct,osl,b,lk,d⟩:=t.E9.h.fu.ex;exact⟨t.E9.fd,λs v=>by rw[b];exact .of_eq rfl,λbase=>bD.top (LP t)⟩
end W
namespace W
open PySem L2 L3 L4
abbrev vv(d:D)(f:Bool):Option Sl:=some (.val d f)
abbrev ow(d:List D)(f:Bool):Option Sl:=some (.own d f)
def A3(t:Pz.Arr):(jg t).flat=true:=(rfl)
def d9(r:Pz.Rule):(aI r).flat=true:=by unfold aI;simp only[pS,iG,lJ,cF,mS,WW]
structure RR(ro sg:Int) (r:Pz.Rule):Prop where
 a:0<=r.1/\r.1<ro
 s:0<=r.2.1/\r.2.1<sg
 t:0<=r.2.2.1/\r.2.2.1<ro
 p:r.2.2.2.length<=2
 q:∀x∈r.2.2.2,0<=x/\x<sg
def Mc(n:Int)(a:List Pz.Arr)(es:List Int):D:=.tup [.int n,.lst (a.map jg),.lst (es.map .int)]
def Hs(ro sg:Int)(RL:List Pz.Rule):D:=.tup [.int ro,.int sg,.lst (RL.map aI)]
def HD(ro sg:Int)(RL:List Pz.Rule):(Hs ro sg RL).flat=false:=by constructor<;>grind
def ko(ro sg n:Int):List Pz.Arr:=(List.range ro.toNat).flatMap λa=>(List.range sg.toNat).flatMap λs=>(List.range n.toNat).map λt=>(((a:Nat):Int),((s:Nat):Int),((t:Nat):Int))
def univ_mem{ro sg n a s t:Int}:((a,s,t):Pz.Arr)∈ko ro sg n↔(0<=a/\a<ro)/\(0<=s/\s<sg)/\0<=t/\t<n:=by
 unfold ko;simp only[WR,TH,Uj,Prod.mk.injEq];constructor
 .rintro⟨x,b,y,c,z,hz,rfl,rfl,rfl⟩;lia
 .rintro⟨h1,h2,d⟩;exact⟨a.toNat,by lia,s.toNat,by lia,t.toNat,by lia,by lia,by lia,by lia⟩
def A4{α:Type}(c:Nat):∀l:List α,(l.map λ_=>c).sum=l.length*c:=by intro l;induction l<;>grind
def Eh(ro sg n:Int):(ko ro sg n).length=ro.toNat*(sg.toNat*n.toNat):=by
 simp_all [ko,A4]
theorem qi:∀t:Pz.TD,nK (t.map λx=>(.inr (ak x.1):DK)) (t.map λx=>tP x.2)=some (t.map λx=>.tup [jg x.1,tP x.2])
 |[]=>rfl
 |x::t=>by rw[TJ,TJ];unfold nK;rw[qi t];rfl
def A5(v:Pz.xA):(tP v).flat=true:=by
 have h:∀o,(oD o).flat=true:=λo=>by cases o<;>rfl
 unfold tP;simp only[pS,iG,lJ,mS,h,WW]
def qj(t:Pz.TD):(kG t).flat=false:=pT _ _
end W
namespace L3
open PySem L2
def HE(n:Nat)(caps:List Nat)(f:En->Res R)(asg:D->Bool->En->Option En)(ft:En->Res Bool)(a:En->Res R)(env:En):pJ n caps f asg ft a env=(f env).bind (pI n caps asg ft a env):=(rfl)
def Ei{n:Nat}{caps:List Nat}{asg:D->Bool->En->Option En}{ft:En->Res Bool}{b:En->Res R}{env:En}{ks:List DK}{ds xs:List D}{fr:Bool}{a:List R}(h1:nK ks ds=some xs)(h2:xs.length<=1000000)(c:D.bP ds=true)
 (hc:dY (λd=>asg d true (jf env n caps)) ft b xs=.ok a) (e:D.bP (a.map R.d)=true):pI n caps asg ft b env (.val (.i9 ks ds) fr [])=.ok (.new (a.map R.d) true):=by
 have f:xs.length<=lim/\(R.val (.i9 ks ds) fr []).al=[]/\D.bP ds=true:=⟨h2,rfl,c⟩;unfold pI;simp only[R.d,h1,hc];rw[Tt f,Tt e]
end L3
namespace W
open PySem L2 L3 L4
def HF{Fr:List D->Res R}{RL:List Pz.Rule}{M U:List Pz.Arr}{h0 h1:D}(b:Pz.Set RL M U):∃t,Pz.Good RL M U t/\∀m0 m2 r,Fr [.tup [h0,h1,.lst (RL.map aI)],.tup [m0,.lst (M.map jg),m2]]=.ok r->
 NJ Fr [.tup [h0,h1,.lst (RL.map aI)],.tup [m0,.lst (M.map jg),m2]]=.ok (.jj (kG t)):=by
 obtain⟨fit,n,T,lp,good⟩:=b.run zf;have c:RL.length<16000000:=by have:=b.big;unfold Pz.L at this;lia
 refine⟨T.told,good,λm0 m2 r d=>?_⟩;have hex:∃t,pG [.tup [h0,h1,.lst (RL.map aI)],.tup [m0,.lst (M.map jg),m2]] t:=⟨T.told,RL,M,h0,h1,m0,m2,n,T,rfl,c,fit,lp,rfl⟩;have e:Classical.choose hex=T.told:=by obtain⟨f,g,i,j,k,l,m,o,e,_,_,a,e2⟩:=Classical.choose_spec hex;rw[e2];injection e with e3 e;injection e3 with e3;injection e3 with _ e3;injection e3 with _ e3;injection e3 with e3 _;injection e3 with e3;injection e with e _;injection e with e;injection e with _ e;injection e with e _;injection e with e;rw[<- tQ (λh=>AK h) e3,<- tQ (λh=>C_ h) e]at a;rw[<- C9 lp a]
 unfold NJ;rw[d];dsimp only;rw[dif_pos hex,e]
def LR(ro sg:Int)(RL:List Pz.Rule):bR [Hs ro sg RL,Mc ro [] []]=.ok (.val .bp true []):=rfl
def Ej{ro sg:Int}{RL:List Pz.Rule}(g:0<ro)(s1:0<sg)(b:∀r∈RL,RR ro sg r)(d:RL.length<=63)(c:(ko ro sg ro).length<=128) :
 ∃t,Pz.Good RL [] (ko ro sg ro) t/\t.length<=128/\jP [Hs ro sg RL,Mc ro [] []]=.ok (.jj (kG t)):=by
 have e:Pz.Set RL [] (ko ro sg ro):=by
  refine⟨λr h=>(b r h).p,λa h=>(nomatch h),λr h=>univ_mem.mpr ⟨(b r h).a,(b r h).s,(b r h).t⟩,λr h s x t k=>univ_mem.mpr ⟨(b r h).a,(b r h).s,(univ_mem.mp k).2.2⟩,?_,?_,?_⟩
  .have:RL.length*((ko ro sg ro).length*(ko ro sg ro).length)<=63*(128*128):=Wi d (Wi c c);rw[V4];unfold Pz.L;lia
  .have:RL.length*(ko ro sg ro).length<=63*128:=Wi d c;unfold Pz.L;lia
  .unfold Pz.L;lia
 obtain⟨t,G,h⟩:=HF (Fr:=bR) (h0:=.int ro) (h1:=.int sg) e;refine⟨t,G,?_,h (.int ro) (.lst []) _ (LR ro sg RL)⟩;have:=Pz.j7 _ (ko ro sg ro) G.nd λa ha=>by obtain⟨x,f,rfl⟩:=TH.mp ha;exact G.u x.1 x.2 (Pz.vw G.nd (by obtain⟨a,v⟩:=x;exact f))
 rw[Tp]at this;lia
def HG(l:List (Pz.Arr×Int)):D:=.i9 (l.map λx=>.inr (ak x.1)) (l.map λx=>.int x.2)
def IV(t:Pz.TD):List (Pz.Arr×Int):=t.map λx=>(x.1,x.2.1)
theorem zD:∀(l a:List (List bv×D)),((a++l).map Prod.fst).Nodup->l.foldl (λt x=>rK t x.1 x.2) a=a++l
 |[],a,_=>by simp
 |x::l,a,nd=>by
  have b:¬(a.any λy=>decide (y.1=x.1))=true:=λh=>by obtain⟨y,c,e⟩:=Xj.mp h;rw[Ua,TJ]at nd;exact(UZ.mp nd).2.2 y.1 (TH.mpr ⟨y,c,rfl⟩) x.1 (by simp) (T_ e)
  rw[Vz];have:rK a x.1 x.2=a++[x]:=by unfold rK;rw[TC b]
  rw[this,zD l (a++[x]) (by rw[U6];exact nd),U6];rfl
theorem rY:∀l:List (Pz.Arr×Int),fW (l.map λx=>.tup [jg x.1,.int x.2])=some (l.map λx=>(ak x.1,.int x.2))
 |[]=>rfl
 |x::l=>by rw[TJ];unfold fW;rw[rY l];rfl
def Ek{l:List Pz.Arr}(h:l.Nodup):(l.map ak).Nodup:=by
 induction l with
 |nil=>simp
 |cons a r c=>have h':=UF.mp h;rw[TJ,UF];refine⟨λd=>?_,c h'.2⟩;obtain⟨b,hb,e⟩:=TH.mp d;exact h'.1 (xF _ _ e▸hb)
def El{r:R}{l:List (Pz.Arr×Int)}(nd:(l.map (·.1)).Nodup)(b:r.d=.lst (l.map λx=>.tup [jg x.1,.int x.2])):rL [r]=.ok (.jj (HG l)):=by
 have a:kE [] (l.map λx=>(ak x.1,D.int x.2))=l.map λx=>(ak x.1,.int x.2):=by
  unfold kE;rw[zD _ [] ?_];rfl;rw[List.nil_append,T7];have:(l.map (Prod.fst ∘ λx:Pz.Arr×Int=>(ak x.1,D.int x.2)))=(l.map (·.1)).map ak:=by rw[T7];rfl
  rw[this];exact Ek nd
 rw[D7,b,Hz (rY l) (by rw[a,T7];exact fI _ _ λ_=>rfl)];unfold vj HG;rw[a,T7,T7];rfl
def LS{t:Pz.TD}(nd:(t.map (·.1)).Nodup):((IV t).map (·.1)).Nodup:=by unfold IV;rw[T7];exact nd
def yb{t:Pz.TD}{e0:Option Sl}(c:t.length<=1000):pJ 2 [] (aF 1) (gT 2 (jF (gN 0) (jF (gN 1) yZ))) (λ_=>.ok true) kc [e0,vv (kG t) true]=.ok (.new ((IV t).map λx=>.tup [jg x.1,.int x.2]) true):=by
 have h:=rW (mk:=λd=>gT 2 (jF (gN 0) (jF (gN 1) yZ)) d true (jf [e0,vv (kG t) true] 2 [])) (test:=λ_=>.ok true) (elt:=kc) (λx:Pz.Arr×Pz.xA=>D.tup [jg x.1,tP x.2]) (λx=>.val (.tup [jg x.1,.int x.2.1]) true []) t λx _=>⟨[vv (jg x.1) true,vv (tP x.2) true],rfl,rfl,by
  have o:∀o,(oD o).flat=true:=λo=>by cases o<;>rfl
  unfold tP;simp_arith[kc,A3,o]⟩
 have b:aF 1 [e0,vv (kG t) true]=.ok (.val (kG t) true []):=by simp_arith[qj]
 rw[HE,b,LC];have a:=Ei (n:=2) (caps:=[]) (fr:=true) (ft:=λ_=>.ok true) (qi t) (by rw[Tp];lia) (fI _ _ λx=>A5 _) h (by rw[Ec];exact fI _ _ λx=>rfl);rw[Ec]at a;refine Eq.trans a ?_;unfold IV;rw[T7];rfl
def Em{ro sg:Int}{RL:List Pz.Rule}{t:Pz.TD}(a:jP [Hs ro sg RL,Mc ro [] []]=.ok (.jj (kG t)))(nd:(t.map (·.1)).Nodup)(b:t.length<=1000):iL [Hs ro sg RL]=.ok (.jj (HG (IV t))):=by have a:jP [.tup [.int ro,.int sg,.lst (RL.map aI)],.tup [.int ro,.lst [],.lst []]]=.ok (.jj (kG t)):=a;have c:=El (r:=.new ((IV t).map λx=>.tup [jg x.1,.int x.2]) true) (LS nd) rfl;have d:=HD ro sg RL;unfold Hs at d ⊢;simp_arith[iL,zx,a,qj,yb b,c]
def lU(ns:List Int)(k:Int)(h0:0<=k):∃x,bG [.lst (ns.map .int),.int k]=.ok (.val (.int x) true []):=by
 by_cases h:k<ns.length
 .have hd:decide (k<(ns.length:Int))=true:=TZ h;obtain⟨a,b,_⟩:=Ed h0 h;have ha:eU (ns.map D.int) k=some (.int a):=by rw[zw,b];rfl
  exact⟨a,by simp_arith[bG,gb,Tp,hd,ha]⟩
 .have hd:decide (k<(ns.length:Int))=false:=Uw h;exact⟨0,by simp_arith[bG,gb,Tp,hd]⟩
def lV(x:Int):∃y,0<=y/\cN [.int x]=.ok (.val (.int y) true []):=⟨(x%2147483647+11)*48271%2147483647,by lia,by simp_arith[cN,lP]⟩
structure Bd(ro sg:Int):Prop where
 r:0<ro/\ro<=8
 s:0<sg/\sg<=14
 m:ro*sg<=28
 f:(ro*sg+13)*(ro+1)<=300
 u:(ko ro sg ro).length<=128
def t_{ro sg:Int}(h:Bd ro sg)(c:Int)(b:Bool):∃r:Sp.Rule,RR ro sg r/\cG [.int c,.int ro,.int sg,.bl b]=.ok (.val (aI r) true []):=by
 obtain⟨⟨h1,h2⟩,⟨g,i⟩,_,_,_⟩:=h;have h2:ro<1073741824:=by lia
 have i:sg<1073741824:=by lia
 have e:∀a b:Int,0<b->0<=a%b/\a%b<b:=λa b h=>⟨Int.emod_nonneg _ (by lia),Int.emod_lt_of_pos _ h⟩;have hc:∀a b:Int,∀k:Option Int,dz [D.int a,D.int b] none k=(dz [a,b] none k).map D.int:=λa b k=>pU D.int [a,b] none k;have q:∀(w:Int)(n:Int)(k:Option Int),0<w->w<=sg->RR ro sg (c%ro,c/ro%sg,c/ro/sg%ro,dz [n%w,n/w%w] none k):=λw n k d f=>
  ⟨e _ _ h1,e _ _ g,e _ _ h1,vT _ _ _,λx j=>by
    have:=D9 _ _ _ x j;rcases Tz.mp this with h|h
    .have:=e n w d;rw[h];lia
    .have:=e (n/w) w d;rw[TV.mp h];lia⟩
 have s:=e (c/ro) sg g;by_cases f:b=true/\c/ro%sg=0
 .obtain⟨rfl,f⟩:=f;have hz:(c/ro%sg==0)=true:=by rw[f];rfl
  exact⟨(c%ro,c/ro%sg,c/ro/sg%ro,[]),⟨e _ _ h1,s,e _ _ h1,by simp,λx j=>nomatch j⟩,by simp_arith[cG,jT,gY,gX,gW,gV,gU,gS,gR,gO,f_,f9,h1,h2,g,i,nM,hz];rfl⟩
 .obtain⟨w,d,l,m,o⟩ : ∃w,w=(if b=true then c/ro%sg else sg)/\0<w/\w<=sg/\w<1073741824:=⟨_,rfl,by cases b<;>simp at f ⊢<;>lia⟩;have hz:(w==0)=false:=by rw[Vg];lia
  refine⟨_,q w (c/ro/sg/ro/3) (some (c/ro/sg/ro%3)) l m,?_⟩;cases b<;>simp at d<;>subst d<;>simp_arith[cG,jT,gY,gX,gW,gV,gU,gS,gR,gO,f_,f9,jS,h1,h2,g,i,l,o,hc,cF,nM,hz]<;>rfl
def HH{α:Type}(xs:List α)(a b:Int)(ha:0<=a)(hb:0<=b):(dz xs (some a) (some (a+b))).length<=b.toNat:=by
 unfold dz;rw[Uz,Wj];have e1:HT.sIx xs.length 0 (some a)=min a.toNat xs.length:=by have:=HT.sIx_nat xs.length 0 a.toNat;rw[Int.toNat_of_nonneg ha]at this;exact this
 have e2:HT.sIx xs.length xs.length (some (a+b))=min (a+b).toNat xs.length:=by have:=HT.sIx_nat xs.length xs.length (a+b).toNat;rw[Int.toNat_of_nonneg (by lia)]at this;exact this
 grind
structure Rs(ro sg:Int) (n:Nat) (RL:List Sp.Rule):Prop where
 a:∀r∈RL,RR ro sg r
 n:RL.length<=n
def Rs.snoc{ro sg:Int}{n:Nat}{RL:List Sp.Rule}{r:Sp.Rule}(h:Rs ro sg n RL)(b:RR ro sg r):Rs ro sg (n+1) (RL++[r]):=⟨λx hx=>by rcases T4.mp hx with hx|hx;exact h.a x hx;rw[TV.mp hx];exact b,by have:=h.n;simp;lia⟩
section
variable{ro sg kind:Int}{e0 e3 e7 e8 e9:Option Sl}{g1 g2:Bool}
def LU(h:Bd ro sg){a k:Int}{RL:List Sp.Rule}(p:RL.length<1000)(q:0<=a/\a<4294967296) :
 ∃b,(0<=b/\b<4294967296)/\∃c,(c=RL\/∃r,RR ro sg r/\c=RL++[r])/\cH [e0,vv (.int ro) g1,vv (.int sg) g2,e3,vv (.int kind) true,vv (.int a) true,ow (RL.map aI) true,vv (.int k) true,e8,e9]=.ok (.nx [e0,vv (.int ro) g1,vv (.int sg) g2,e3,vv (.int kind) true,vv (.int b) true,ow (c.map aI) true,vv (.int k) true,e8,e9]):=by
 have d:-18446744073709551616<a:=by lia
 have e:a<18446744073709551616:=by lia
 have f:-18446744073709551616<ro:=by have:=h.r;lia
 have g:ro<18446744073709551616:=by have:=h.r;lia
 have i:-18446744073709551616<sg:=by have:=h.s;lia
 have j:sg<18446744073709551616:=by have:=h.s;lia
 have n:(RL.map aI).length<1000000:=by rw[Tp];lia
 refine⟨(a*a+48271*a+k)%2147483647,by lia,?_⟩;generalize l:(a*a+48271*a+k)%2147483647=y;by_cases m:y%4<3
 .obtain⟨r,o,er⟩:=t_ h (y/4*ro*sg+k) (decide (0<kind));refine⟨RL++[r],.inr ⟨r,o,rfl⟩,?_⟩;simp_arith[cH,d,e,f,g,i,j,l,TZ m,er,d9,xX,n,Ua]
 .refine⟨RL,.inl rfl,?_⟩;simp_arith[cH,d,e,f,g,i,j,l,Uw m]
def LV(h:Bd ro sg){c:Int}{fr:Bool}{e5:Option Sl}{RL:List Sp.Rule}(g:RL.length<1000) :
 ∃r,RR ro sg r/\∃a,cI [e0,vv (.int ro) g1,vv (.int sg) g2,e3,vv (.int kind) true,e5,ow (RL.map aI) true,e7,vv (.int c) fr,e9]=.ok (.nx [e0,vv (.int ro) g1,vv (.int sg) g2,e3,vv (.int kind) true,e5,ow ((RL++[r]).map aI) true,e7,vv (.int c) fr,a]):=by
 have e:(RL.map aI).length<1000000:=by rw[Tp];lia
 have key:∀b:Bool,PX (v2 xk (aF 4) (vC (.int 0))) (uZ (v2 xk (aF 4) (vC (.int 3))) (v2 Mx (v2 c_ (aF 8) (vC (.int 5))) (vC (.int 2)))) [e0,vv (.int ro) g1,vv (.int sg) g2,e3,vv (.int kind) true,e5,ow (RL.map aI) true,e7,vv (.int c) fr,e9]=.ok (.val (.bl b) true [])->∃r,RR ro sg r/\∃a,cI [e0,vv (.int ro) g1,vv (.int sg) g2,e3,vv (.int kind) true,e5,ow (RL.map aI) true,e7,vv (.int c) fr,e9]=.ok (.nx [e0,vv (.int ro) g1,vv (.int sg) g2,e3,vv (.int kind) true,e5,ow ((RL++[r]).map aI) true,e7,vv (.int c) fr,a]):=λb hb=>by obtain⟨r,f,er⟩:=t_ h ((c%2147483647+5)*69621%2147483647) !b;refine⟨r,f,vv (.bl b) true,?_⟩;simp_arith[-IN,cI,hb,er,d9,xX,e,Ua]
 cases h0:(kind==0)with
 |true=>exact key true (by simp_arith[nM,h0])
 |false=>
  cases d:(kind==3)with
  |true=>exact key (decide (c%5<2)) (by simp_arith[nM,h0,d])
  |false=>exact key false (by simp_arith[nM,h0,d])
end
def Eo{ro sg b:Int}(h:Bd ro sg)(E:0<=b/\b<=12)(ns:List Int):∃RL,Rs ro sg 40 RL/\(RL.length:Int)<=ro*sg+12/\fF [.lst (ns.map .int),.int ro,.int sg,.int b]=.ok (.val (.lst (RL.map aI)) true [6]):=by
 obtain⟨x0,F⟩:=lU ns 0 (by decide);obtain⟨x1,G⟩:=lU ns 1 (by decide);obtain⟨l,_,m0⟩:=lV x0;have o:=h.r;have H:=h.s;have P:0<ro*sg:=Int.mul_pos o.1 H.1;have Q:=h.m;have I:-18446744073709551616<sg:=by lia
 have J:sg<18446744073709551616:=by lia
 have K:-4611686018427387904<=ro*sg:=by lia
 have m2:ro*sg<4611686018427387904:=by lia
 generalize L:ro*sg=N at *;obtain⟨M,lp,d,RL,e7,f,j,rfl⟩:=lK (fr:=true) (asg:=gN 7) (body:=cH) (λk:Nat=>D.int (k:Nat)) (List.range N.toNat)
  (λpre env=>∃(d:Int)(RL:List Sp.Rule)(e7:Option Sl),(0<=d/\d<4294967296)/\Rs ro sg pre.length RL/\env=[vv (.lst (ns.map .int)) false,vv (.int ro) false,vv (.int sg) false,vv (.int b) false,vv (.int (l/12%4)) true,vv (.int d) true,ow (RL.map aI) true,e7,none,none])
  (List.range N.toNat) [] [vv (.lst (ns.map .int)) false,vv (.int ro) false,vv (.int sg) false,vv (.int b) false,vv (.int (l/12%4)) true,vv (.int (x1%2147483647+48271)) true,ow [] true,none,none,none] rfl
  ⟨_,[],none,by lia,⟨(λ_ h=>nomatch h),To _⟩,rfl⟩ (by
    rintro pre p k env u ⟨d,RL,e7,f,j,rfl⟩;have v:pre.length<N.toNat:=by have:=U1 List.length u;rw[VO]at this;simp at this;lia
    have w:=j.n;obtain⟨q,x,y,z,A⟩:=LU h (k:=(k:Nat)) (kind:=l/12%4) (e0:=vv (.lst (ns.map .int)) false) (e3:=vv (.int b) false) (e8:=none) (e9:=none) (g1:=false) (g2:=false) (RL:=RL) (by lia) f;refine⟨_,_,AX (by simp),A,q,y,_,x,?_,rfl⟩;rcases z with rfl|⟨r,o,rfl⟩
    .exact⟨j.a,by simp;lia⟩
    .rw[TU];exact j.snoc o)
 rw[VO]at j;have w:=j.n;generalize hz:dz ns (some 4) (some (4+b))=cs;have O:cs.length<=12:=by have:=HH ns 4 b (by decide) E.1;rw[hz]at this;lia
 have i:dz (ns.map D.int) (some 4) (some (4+b))=cs.map D.int:=by rw[pU,hz]
 obtain⟨M,B,e,e8,e9,g,rfl⟩:=lK (fr:=true) (asg:=gN 8) (body:=cI) D.int cs
  (λpre env=>∃(e:List Sp.Rule)(e8 e9:Option Sl),Rs ro sg (N.toNat+pre.length) e/\env=[vv (.lst (ns.map .int)) false,vv (.int ro) false,vv (.int sg) false,vv (.int b) false,vv (.int (l/12%4)) true,vv (.int d) true,ow (e.map aI) true,e7,e8,e9])
  cs [] _ rfl ⟨RL,none,none,j,rfl⟩ (by
   rintro pre p c env u ⟨e,e8,e9,g,rfl⟩;have v:pre.length<cs.length:=by rw[u];simp
   have t:=g.n;obtain⟨r,o,C,A⟩:=LV h (c:=c) (fr:=true) (kind:=l/12%4) (e0:=vv (.lst (ns.map .int)) false) (e3:=vv (.int b) false) (e5:=vv (.int d) true) (e7:=e7) (e9:=e9) (g1:=false) (g2:=false) (RL:=e) (by lia);refine⟨_,_,AX (by simp),A,e++[r],_,C,?_,rfl⟩;rw[TU,<- Nat.add_assoc];exact g.snoc o)
 have t:=g.n;have f:dX 0 N.toNat=(List.range N.toNat).map λk=>.int (k:Nat):=zv _;refine⟨e,⟨g.a,by lia⟩,by lia,?_⟩;simp_arith[fF,lR,F,m0,G,I,J,L,IS K m2,f,i,cF];simp_arith[lp];simp_arith[i,cF];simp_arith[B]
def Ep{sg:Int}(h:0<sg)(c:Int):∃(stk:List Int)(r:R),stk.length<=5/\fy [.int c,.int sg]=.ok r/\r.d=.lst (stk.map .int):=by
 have hc:0<=c%6/\c%6<6:=by lia
 generalize i:c%6=m at hc;have j:-4611686018427387904<=m:=by lia
 have m2:m<4611686018427387904:=by lia
 obtain⟨o,lp,a,stk,e4,e,rfl⟩:=lK (fr:=true) (asg:=gN 4) (body:=f7) (λk:Nat=>D.int (k:Nat)) (List.range m.toNat)
  (λpre env=>∃(a:Int)(stk:List Int)(e4:Option Sl),stk.length=pre.length/\env=[vv (.int c) false,vv (.int sg) false,vv (.int a) true,ow (stk.map .int) true,e4])
  (List.range m.toNat) [] [vv (.int c) false,vv (.int sg) false,vv (.int (c/6%2147483647)) true,ow [] true,none] rfl ⟨_,[],none,rfl,rfl⟩ (by
    rintro pre f k env g ⟨a,stk,e4,e,rfl⟩;have p:k<m.toNat:=Uj.mp (by rw[g];simp);have l:pre.length<m.toNat:=by have:=U1 List.length g;rw[VO]at this;simp at this;lia
    generalize hz:((k:Nat):Int)=z;have k1:-18446744073709551616<z:=by lia
    have k2:z<18446744073709551616:=by lia
    have n:(stk.map D.int).length<1000000:=by rw[Tp];lia
    refine⟨_,[vv (.int c) false,vv (.int sg) false,vv (.int ((a*48271+z*z+11)%2147483647)) true,ow ((stk++[(a*48271+z*z+11)%2147483647/7%sg]).map .int) true,vv (.int z) true],AX (by simp),?_,_,_,_,by simp[e],rfl⟩;simp_arith[f7,k1,k2,h,xX,n,Ua])
 have b:dX 0 m.toNat=(List.range m.toNat).map λk=>.int (k:Nat):=zv _;refine⟨stk,.val (.lst (stk.map .int)) true [3],by rw[e,VO];lia,?_,rfl⟩;simp_arith[fy,lM,i,IS j m2,b];simp_arith[lp]
def HI{i:Nat}{env:En}{ds:List D}{f:Bool}{r:R}(h:ds.length<1000000)(a:¬i∈r.al):AY i env ds f r=.ok (.nx ((bj env r.al).set i (some (.own (ds++[r.d]) (f&&r.fr))))):=Tt ⟨h,a⟩
def Qh(RL:List Sp.Rule)(x y:Rw):Prop:=∃r∈RL,∃w,x=(r.1,r.2.1::w)/\y=(r.2.2.1,r.2.2.2++w)
def LW(RL:List Sp.Rule)(RW:List Rw):Prop:=∀(k:Nat) x y,RW[k]?=some x->RW[k+1]?=some y->Qh RL x y
def Er{RL:List Sp.Rule}{RW:List Rw}{x y:Rw}(h:LW RL (RW++[x]))(e:Qh RL x y):LW RL (RW++[x]++[y]):=by
 intro k a b ha hb;have d:k+1<(RW++[x]++[y]).length:=(Tq.mp hb).1;simp only[TU,Vk]at d;by_cases c:k+1<(RW++[x]).length
 .rw[UR (by lia)]at ha;rw[UR c]at hb;exact h k a b ha hb
 .grind
section
variable{RL:List Sp.Rule}{room c:Int}{st:List Int}{RW:List Rw}{cs:List D}{g1 g2 f4 fr:Bool}{e6 e7:Option Sl}
def HJ{x:Int}(b:RL.length<=1000){e3 e4 e5:Option Sl} :
 zq 1 [1,2] (gN 0) dL fA [vv (.lst (RL.map aI)) false,vv (.int room) g1,vv (.lst ((x::st).map .int)) g2,e3,e4,e5,e6,e7] ⟨RL.map aI,false,[]⟩=.ok (.new ((RL.filter λr=>r.1==room&&r.2.1==x).map aI) true):=by
 have h:=lI (mk:=λd=>gN 0 d false (jf [vv (.lst (RL.map aI)) false,vv (.int room) g1,vv (.lst ((x::st).map .int)) g2,e3,e4,e5,e6,e7] 1 [1,2])) (test:=dL) (elt:=fA) aI (λr=>r.1==room&&r.2.1==x) (λr=>.val (aI r) true []) RL
  λr _=>⟨[vv (aI r) false,vv (.int room) g1,vv (.lst ((x::st).map .int)) g2],rfl,by
   cases a:(r.1==room)with
   |true=>simp_arith[dL,aI,cF,nM,a]
   |false=>simp_arith[dL,aI,cF,nM,a],λ_=>by simp_arith[fA,d9]⟩
 rw[Hm (by rw[Tp];lia) h,Ec,Eb,DC (fI _ _ λr=>d9 _)]
def Es(s:RL.length<=1000)(t:∀r∈RL,r.2.2.2.length<=2)(u:st.length<=1000)(C:RW.length<=1000) :
 ∃e f,ci [vv (.lst (RL.map aI)) false,vv (.int room) g1,vv (.lst (st.map .int)) g2,vv (.lst cs) false,ow (RW.map kh) f4,vv (.int c) fr,e6,e7]=.ok (.nx [vv (.lst (RL.map aI)) false,vv (.int room) g1,vv (.lst (st.map .int)) g2,vv (.lst cs) false,ow (RW.map kh) f4,vv (.int c) fr,e,f])\/
  ∃y,Qh RL (room,st) y/\ci [vv (.lst (RL.map aI)) false,vv (.int room) g1,vv (.lst (st.map .int)) g2,vv (.lst cs) false,ow (RW.map kh) f4,vv (.int c) fr,e6,e7]=.ok (.nx [vv (.lst (RL.map aI)) false,vv (.int y.1) true,vv (.lst (y.2.map .int)) true,vv (.lst cs) false,ow ((RW++[y]).map kh) f4,vv (.int c) fr,e,f]):=by
 have n:(RW.map kh).length<1000000:=by rw[Tp];lia
 cases st with
 |nil=>
  have d:decide ((0:Int)<(0:Nat))=false:=by decide
  exact⟨ow [] true,e7,.inl (by simp_arith[ci,d])⟩
 |cons x st=>
  have h0:decide ((0:Int)<((List.map D.int st).length+1:Nat))=true:=TZ (by lia);have g:=λe6 e4 e5 e3=>HJ (RL:=RL) (room:=room) (st:=st) (x:=x) (g1:=g1) (g2:=g2) (e3:=e3) (e4:=e4) (e5:=e5) (e6:=e6) (e7:=e7) s;generalize v:(RL.filter λr=>r.1==room&&r.2.1==x)=fs at g;cases fs with
  |nil=>
   have d:decide ((0:Int)<(0:Nat))=false:=by decide
   simp_arith at g;exact⟨ow [] true,e7,.inl (by simp_arith[ci,h0,g,d])⟩
  |cons b fs=>
   obtain⟨r,er,em⟩:=Ed (xs:=b::fs) (k:=c%(((b::fs).length:Nat):Int)) (Int.emod_nonneg _ (by simp<;>lia)) (Int.emod_lt_of_pos _ (by simp<;>lia));have i:r∈RL.filter λr=>r.1==room&&r.2.1==x:=by rw[v];exact T5 em
   obtain⟨o,a⟩:=Us.mp i;rw[Uu,WZ,WZ]at a;have w:=t r o;have p:eU (aI b::fs.map aI) (c%(((fs.map aI).length+1:Nat):Int))=some (aI r):=by
    have:eU ((b::fs).map aI) (c%(((b::fs).length:Nat):Int))=some (aI r):=by rw[zw,er];rfl
    grind
   have h1:decide ((0:Int)<((List.map aI fs).length+1:Nat))=true:=TZ (by lia);have h2:(0:Int)<((List.map aI fs).length+1:Nat):=by lia
   have j:dz (D.int x::st.map D.int) (some 1) none=st.map D.int:=D_ _;have z:(List.map D.int r.2.2.2).length+(List.map D.int st).length<=1000000:=by rw[Tp,Tp];simp at u;lia
   have l:D.bP (List.map D.int r.2.2.2++List.map D.int st)=true:=by rw[<- Ua];exact cF _
   have A:D.bP (aI b::fs.map aI)=true:=fI aI (b::fs) d9;have q:=d9 r;refine⟨ow (aI b::fs.map aI) true,vv (aI r) true,.inr ⟨(r.2.2.1,r.2.2.2++st),⟨r,o,st,by rw[a.1,a.2],rfl⟩,?_⟩⟩;simp_arith at g;have m:aI r=.tup [.int r.1,.int r.2.1,.int r.2.2.1,.tup (r.2.2.2.map .int)]:=rfl;rw[m]at p q ⊢;simp_arith[ci,h0,g,h1,h2,p,q,cF,j,KY,z,l,n,Ua];rw[HI n (λh=>by simp[R.al]at h)];have B:kh (r.2.2.1,r.2.2.2++st)=.tup [.int r.2.2.1,.lst (r.2.2.2.map .int++st.map .int)]:=by unfold kh;rw[Ua]
   rw[B];cases f4<;>rfl
end
def ua{RL:List Sp.Rule}(a:∀r∈RL,r.2.2.2.length<=2){x y:Rw}(h:Qh RL x y):y.2.length<=x.2.length+1/\x.2.length<=y.2.length+1/\x.2≠[]:=by
 obtain⟨r,b,w,rfl,rfl⟩:=h
 grind
def LX{RL:List Sp.Rule}(m:RL.length<=1000)(i:∀r∈RL,r.2.2.2.length<=2)(room:Int){stk cells:List Int}(n:stk.length<=5)(hc:cells.length<=100) :
 ∃j RW,iQ [.lst (RL.map aI),.int room,.lst (stk.map .int),.lst (cells.map .int)]=.ok j/\j.d=.lst (RW.map kh)/\LW RL RW/\RW.length<=101:=by
 obtain⟨v,lp,RW,x,g1,g2,e5,e6,e7,rfl,a,o,p⟩:=lK (fr:=false) (asg:=gN 5) (body:=ci) D.int cells
  (λpre env=>∃(RW:List Rw)(x:Rw)(g1 g2:Bool)(e5 e6 e7:Option Sl),env=[vv (.lst (RL.map aI)) false,vv (.int x.1) g1,vv (.lst (x.2.map .int)) g2,vv (.lst (cells.map .int)) false,ow ((RW++[x]).map kh) false,e5,e6,e7]/\LW RL (RW++[x])/\RW.length<=pre.length/\x.2.length<=5+pre.length)
  cells [] [vv (.lst (RL.map aI)) false,vv (.int room) false,vv (.lst (stk.map .int)) false,vv (.lst (cells.map .int)) false,ow [kh (room,stk)] false,none,none,none] rfl
  ⟨[],(room,stk),false,false,none,none,none,rfl,λk x y _ h=>by simp at h,To _,n⟩ (by
    rintro pre l c env q ⟨RW,x,g1,g2,e5,e6,e7,rfl,a,o,p⟩;have s:pre.length<cells.length:=by rw[q];simp
    obtain⟨b,e,h⟩:=Es (RL:=RL) (room:=x.1) (c:=c) (st:=x.2) (RW:=RW++[x]) (cs:=cells.map .int) (g1:=g1) (g2:=g2) (f4:=false) (fr:=false) (e6:=e6) (e7:=e7) m i (by lia) (by simp;lia);rcases h with g|⟨y,f,g⟩
    .exact⟨_,_,AX (by simp),g,RW,x,g1,g2,_,b,e,rfl,a,by simp;lia,by simp;lia⟩
    .have:=ua i f;exact⟨_,_,AX (by simp),g,RW++[x],y,true,true,_,b,e,rfl,Er a f,by simp;lia,by simp at this ⊢;lia⟩)
 refine⟨.val (.lst ((RW++[x]).map kh)) false [4],RW++[x],?_,rfl,a,by simp;lia⟩;have t:kh (room,stk)=.tup [.int room,.lst (stk.map .int)]:=rfl;rw[t]at lp;have u:mG [D.tup [.int room,.lst (stk.map .int)]] false []=.new [.tup [.int room,.lst (stk.map .int)]] false:=rfl;simp_arith[iQ,pZ,u];simp_arith[lp]
def vZ{RW:List Rw}{k:Nat}{x:Rw}(o:RW[k]?=some x):∀(n a:Nat)(e2:Option Sl),a+n<=RW.length->
 (∃b,ip (gN 2) true bJ ((List.range' a n).map λi=>.int (i:Nat)) [vv (.lst (RW.map kh)) false,vv (.int (k:Nat)) false,e2]=.ok (.nx [vv (.lst (RW.map kh)) false,vv (.int (k:Nat)) false,b]))\/
 ∃j z,a<=j/\RW[j]?=some z/\z.2.length=x.2.length/\(∀i y,a<=i->i<j->RW[i]?=some y->y.2.length≠x.2.length)/\ip (gN 2) true bJ ((List.range' a n).map λi=>.int (i:Nat)) [vv (.lst (RW.map kh)) false,vv (.int (k:Nat)) false,e2]=.ok (.rt (.val (.int (j:Nat)) true [])):=by
 intro n;induction n with
 |zero=>exact λa e2 _=>.inl ⟨e2,rfl⟩
 |succ n f=>
  intro a e2 q;obtain⟨y,g⟩ : ∃y,RW[a]?=some y:=⟨_,Ts (by lia)⟩;have c:eU (RW.map kh) ((a:Nat):Int)=some (.tup [.int y.1,.lst (y.2.map .int)]):=Sr (by rw[TL,g];rfl);have d:eU (RW.map kh) ((k:Nat):Int)=some (.tup [.int x.1,.lst (x.2.map .int)]):=Sr (by rw[TL,o];rfl);rw[List.range'_succ,TJ,LD (AX (by simp))];generalize hz:((a:Nat):Int)=z at c;generalize((k:Nat):Int)=l at d f;by_cases m:y.2.length=x.2.length
  .have hb:(((y.2.length:Nat):Int)==((x.2.length:Nat):Int))=true:=by rw[m];exact BEq.rfl
   refine .inr ⟨a,y,To _,g,m,λi _ h1 h2=>absurd h2 (by lia),?_⟩;rw[hz];simp_arith[bJ,c,d,nM,Tp,hb]
  .have hb:(((y.2.length:Nat):Int)==((x.2.length:Nat):Int))=false:=by rw[Vg];lia
   have p:∀e:Fl->Res Fl,(bJ [vv (.lst (RW.map kh)) false,vv (.int l) false,vv (.int z) true]).bind e=e (.nx [vv (.lst (RW.map kh)) false,vv (.int l) false,vv (.int z) true]):=λe=>by simp_arith[bJ,c,d,nM,Tp,hb]
   have go:=p (zr (gN 2) true bJ ((List.range' (a+1) n).map λi=>.int (i:Nat)));rw[zt]at go;rcases f (a+1) (vv (.int z) true) (by lia)with⟨b,h⟩|⟨j,zz,h1,h2,r,s,h⟩
   .exact .inl ⟨b,Eq.trans go h⟩
   .grind
def A6{RW:List Rw}{k:Nat}{x:Rw}(d:RW[k]?=some x)(m:RW.length<1000) :
 ∃r,bN [.lst (RW.map kh),.int (k:Nat)]=.ok (.val r true [])/\(r=.bp\/∃(j:Nat)(z:Rw),r=.int (j:Nat)/\k+2<=j/\RW[j]?=some z/\z.2.length=x.2.length/\∀i y,k+2<=i->i<j->RW[i]?=some y->y.2.length≠x.2.length):=by
 have e:k<RW.length:=(Tq.mp d).1;have b:-4611686018427387904<=((k:Nat):Int)+2:=by lia
 have m2:((k:Nat):Int)+2<4611686018427387904:=by lia
 have m3:-4611686018427387904<=((RW.length:Nat):Int):=by lia
 have c:((RW.length:Nat):Int)<4611686018427387904:=by lia
 have a:dX (((k:Nat):Int)+2) ((((RW.length:Nat):Int))-(((k:Nat):Int)+2)).toNat=(List.range' (k+2) (RW.length-(k+2))).map λi=>.int (i:Nat):=by
  have:(((RW.length:Nat):Int)-(((k:Nat):Int)+2)).toNat=RW.length-(k+2):=by lia
  rw[this,List.range'_eq_map_range,T7];unfold dX;exact UP λi _=>by show D.int _=D.int _;congr 1
 by_cases hb:k+2<=RW.length
 .rcases vZ d (RW.length-(k+2)) (k+2) none (by lia)with⟨f,h⟩|⟨j,z,h1,h2,g,l,h⟩
  .refine⟨.bp,?_,.inl rfl⟩;simp_arith[bN,eG,Tp,DR b m2 m3 c,a];simp_arith[h]
  .refine⟨.int (j:Nat),?_,.inr ⟨j,z,rfl,h1,h2,g,l⟩⟩;simp_arith[bN,eG,Tp,DR b m2 m3 c,a];simp_arith[h]
 .have h0:RW.length-(k+2)=0:=by lia
  rw[h0]at a;refine⟨.bp,?_,.inl rfl⟩;simp_arith[bN,eG,Tp,DR b m2 m3 c,a];rfl
def HK(x:Rw)(h:x.2≠[]):dw [kh x]=.ok (.val (pD (n9 x)) true []):=by
 obtain⟨a,st⟩:=x;cases st with
 |nil=>exact absurd rfl h
 |cons c st=>unfold kh;simp_arith[dw,nA];rfl
structure J6(RL:List Sp.Rule) (As:List Sp.Arr):Prop where
 n:∀a b c,(a,b,c,[])∈RL->(a,b,c)∈As
 o:∀a b c p d,(a,b,c,[p])∈RL->(c,p,d)∈As->(a,b,d)∈As
 t:∀a b c p q d e,(a,b,c,[p,q])∈RL->(c,p,d)∈As->(d,q,e)∈As->(a,b,e)∈As
section
variable{RL:List Sp.Rule}{As:List Sp.Arr}{RW:List Rw}
def Et(f:∀r∈RL,r.2.2.2.length<=2)(hc:LW RL RW){m:Nat}:∀(n i j:Nat)(x y:Rw),j=i+n->RW[i]?=some x->RW[j]?=some y->m<x.2.length->y.2.length<=m->∃l z,i<l/\l<=j/\RW[l]?=some z/\z.2.length=m/\∀k w,i<=k->k<l->RW[k]?=some w->m<w.2.length:=by
 intro n;induction n with
 |zero=>intro i j x y e b c h1 h2;subst e;rw[b]at c;cases c;lia
 |succ n g=>
  intro i j x y e b c h1 h2;have s:j<RW.length:=(Tq.mp c).1;obtain⟨u,d⟩ : ∃u,RW[i+1]?=some u:=⟨_,Ts (by lia)⟩;have t:=ua f (hc i x u b d);by_cases v:u.2.length<=m
  .refine⟨i+1,u,by lia,by lia,d,by lia,λk w k1 k2 a=>?_⟩;obtain rfl:k=i:=by lia
   rw[b]at a;cases a;exact h1
  .obtain⟨l,z,A,h,o,p,q⟩:=g (i+1) j u y (by lia) d c (by lia) h2;refine⟨l,z,by lia,h,o,p,λk w k1 k2 a=>?_⟩;rcases WA k1 with rfl|k1
   .rw[b]at a;cases a;exact h1
   .exact q k w k1 k2 a
def LY(C:∀r∈RL,r.2.2.2.length<=2)(g:J6 RL As)(hc:LW RL RW):∀(n i j:Nat)(a s:Int)(w:List Int)(y:Rw),j-i<=n->i<j->RW[i]?=some (a,s::w)->RW[j]?=some y->y.2.length=w.length->(∀k z,i<=k->k<j->RW[k]?=some z->w.length<z.2.length)->y.2=w/\(a,s,y.1)∈As:=by
 intro n;induction n with
 |zero=>intro i j a s w y h1 h2;lia
 |succ n v=>
  intro i j a s w y h1 h2 D b f hb;have J:j<RW.length:=(Tq.mp b).1;obtain⟨u,c⟩ : ∃u,RW[i+1]?=some u:=⟨_,Ts (by lia)⟩;obtain⟨r,d,K,e1,e2⟩:=hc i _ u D c;have x:=C r d;obtain⟨L,M,A,put⟩:=r;injection e1 with ea eb;injection eb with eb ec;subst ea;subst eb;subst ec;subst e2;have d:(a,s,A,put)∈RL:=d;rcases put with _|⟨p,_|⟨q,_|⟨o,l⟩⟩⟩
  .have:j=i+1:=by
    rcases WA (show i+1<=j from h2)with h|h
    .exact h.symm
    .have:=hb (i+1) _ (by lia) h c;simp at this
   subst this;rw[c]at b;cases b;exact⟨rfl,g.n _ _ _ d⟩
  .have B:i+1<j:=by
    rcases WA (show i+1<=j from h2)with h|h
    .subst h;rw[c]at b;cases b;simp at f
    .exact h
   obtain⟨g1,g2⟩:=v (i+1) j A p w y (by lia) B c b f λk z k1 k2 e=>hb k z (by lia) k2 e;exact⟨g1,g.o _ _ _ _ _ d g2⟩
  .obtain⟨m,z,E,m2,m3,N,F⟩:=Et C hc (m:=w.length+1) (j-(i+1)) (i+1) j _ y (by lia) c b (by simp) (by lia);obtain⟨g1,g2⟩:=v (i+1) m A p (q::w) z (by lia) E c m3 (by simp;lia) λk z k1 k2 e=>by have:=F k z k1 k2 e;simp;lia
   obtain⟨G,H⟩:=z;have g1:H=q::w:=g1;subst g1;have B:m<j:=by
    rcases WA m2 with h|h
    .subst h;rw[m3]at b;cases b;simp at f
    .exact h
   obtain⟨g3,I⟩:=v m j G q w y (by lia) B m3 b f λk z k1 k2 e=>hb k z (by lia) k2 e;exact⟨g3,g.t _ _ _ _ _ _ _ d g2 I⟩
  .simp at x
def v6{r:Sp.Rule}{F:bf->List Int}{p:Int}{l:List Int}(h:r.2.2.2=p::l):(r.2.2.1,p)∈aX F r:=by unfold aX;rw[h];cases l<;>simp
def Eu{r:Sp.Rule}{x:bf}(a:r∈RL)(h:x∈aX (ba As) r):x∈Ls As RL (hd r):=by unfold Ls cE;exact WR.mpr ⟨r,Us.mpr ⟨a,TZ rfl⟩,h⟩
def yc{a b c:Int}(h:(a,b,c)∈As):c∈ba As (a,b):=by unfold ba;exact TH.mpr ⟨(a,b,c),Us.mpr ⟨h,TZ rfl⟩,rfl⟩
def LZ(s:∀r∈RL,r.2.2.2.length<=2)(I:J6 RL As)(hc:LW RL RW)(E:RW.length<1000){Z:bf->List bf}(F:∀k,rZ (Ls As RL k) (Z k)):RO RW (bz RL) Z dw bN:=by
 refine⟨HK,E,λk x y G t=>?_⟩;obtain⟨r,f,w,rfl,rfl⟩:=hc k x y G t;have A:=s r f;refine⟨(λz=>nomatch z),((f6 RL).2.2 _).mpr ⟨r,f,rfl⟩,λc=>?_,λd=>?_⟩
 .cases a:r.2.2.2 with
  |nil=>rw[a]at c;simp at c;lia
  |cons p l=>refine⟨(λz=>nomatch z),((F _).m _).mpr (Eu f ?_)⟩;exact v6 a
 .obtain⟨v,J,h⟩:=A6 G E;refine⟨v,J,?_⟩;rcases h with h|⟨j,z,rfl,P,hz,B,C⟩
  .exact .inl h
  right;obtain⟨K,L,g,put⟩:=r;rcases put with _|⟨p,_|⟨q,_|⟨o,l⟩⟩⟩
  .simp at d;lia
  .simp at d
  .have hb:∀n i z,i=k+1+n->i<j->RW[i]?=some z->(q::w).length<z.2.length:=by
    intro n;induction n with
    |zero=>intro i z e _ b;subst e;rw[Nat.add_zero,t]at b;cases b;simp
    |succ n M=>intro i z e D b;obtain⟨u,H⟩ : ∃u,RW[k+1+n]?=some u:=⟨_,Ts (by have:=(Tq.mp b).1;lia)⟩;have h1:=M (k+1+n) u rfl (by lia) H;have h2:=ua s (hc (k+1+n) u z H (by rw[<- b,e];rfl));have N:=C i z (by lia) D b;simp at h1 N ⊢;lia
   obtain⟨g1,g2⟩:=LY s I hc (j-(k+1)) (k+1) j g p (q::w) z (To _) (by lia) t hz B λi z Q O b=>hb (i-(k+1)) i z (by lia) O b;refine⟨j,z,rfl,hz,by rw[g1];exact(λz=>nomatch z),((F _).m _).mpr (Eu (r:=(K,L,g,[p,q])) f ?_)⟩;unfold n9;rw[g1];show(z.1,q)∈(g,p)::(ba As (g,p)).map λo=>(o,q);exact Tu _ (TH.mpr ⟨z.1,yc g2,rfl⟩)
  .simp at A
end
section
variable{ro sg:Int}{RL:List Sp.Rule}{t:Pz.TD}{U:List Pz.Arr}
def ub{a:Pz.Arr}(h:a∈t.map (·.1)):∃v,Pz.bA t a=some v:=by
 cases e:Pz.bA t a with
 |none=>exact absurd h (Pz.tget_none.mp e)
 |some v=>exact⟨v,rfl⟩
def kR{a:Pz.Arr}{v:Pz.xA}(h:Pz.bA t a=some v):a∈t.map (·.1):=TH.mpr ⟨_,Pz.pz h,rfl⟩
def Ew(G:Pz.Good RL [] U t):J6 RL (t.map (·.1)):=by
 refine⟨λa b c h=>?_,λa b c p d h h1=>?_,λa b c p q d e h h1 h2=>?_⟩
 .obtain⟨j,f⟩:=WV h;obtain⟨v,g,_⟩:=G.Fe j _ f;exact kR g
 .obtain⟨j,f⟩:=WV h;obtain⟨u,i⟩:=ub h1;obtain⟨v,g,_⟩:=G.Fe j _ f d _ ⟨u,i,rfl⟩;exact kR g
 .obtain⟨j,f⟩:=WV h;obtain⟨u,i⟩:=ub h1;obtain⟨u',k⟩:=ub h2;obtain⟨v,g,_⟩:=G.Fe j _ f d e _ _ ⟨u,i,rfl⟩ ⟨u',k,rfl⟩;exact kR g
def Ex{α a:Type}(f:α->List a)(n:Nat):∀l:List α,(∀x∈l,(f x).length<=n)->(l.flatMap f).length<=l.length*n:=by
 intro l;induction l with
 |nil=>intro _;simp
 |cons x l b=>intro h;have h1:=h x (by simp);have h2:=b λy c=>h y (by simp[c]);rw[VN,TU,T3,Nat.add_mul];lia
def yd{As:List Sp.Arr}(nd:As.Nodup)(d:∀a∈As,a∈ko ro sg ro)(k:bf):(ba As k).length<=ro.toNat:=by
 have h:(ba As k).Nodup:=by
  unfold ba List.Nodup;rw[Vh];refine U5 (R:=(·≠ ·)) (λ{a b} ha hb c e=>c ?_) (nd.filter _)
  grind
 have:=Pz.j7 (ba As k) ((List.range ro.toNat).map λi=>((i:Nat):Int)) h λx f=>by obtain⟨a,ha,rfl⟩:=TH.mp f;have:0<=a.2.2/\a.2.2<ro:=(univ_mem.mp (d a (Us.mp ha).1)).2.2;exact TH.mpr ⟨a.2.2.toNat,Uj.mpr (by lia),by lia⟩
 rw[Tp,VO]at this;exact this
def A7(F:bf->List Int){n:Nat}(h:∀k,(F k).length<=n)(r:Sp.Rule):(aX F r).length<=n+1:=by
 obtain⟨b,c,a,put⟩:=r;rcases put with _|⟨p,_|⟨q,l⟩⟩
 .exact T2 _
 .show 1<=n+1;lia
 .show((a,p)::(F (a,p)).map λo=>(o,q)).length<=n+1;rw[T3,Tp];have:=h (a,p);lia
def Ey{As:List Sp.Arr}(f:∀a∈As,a∈ko ro sg ro){r:Sp.Rule}(d:RR ro sg r){x:bf}(hx:x∈aX (ba As) r):(0<=x.1/\x.1<ro)/\0<=x.2/\x.2<sg:=by
 obtain⟨h,i,b,put⟩:=r;have e:=d.t;have c:=d.q;rcases put with _|⟨p,_|⟨q,l⟩⟩
 .cases hx
 .have hx:x∈[(b,p)]:=hx;rw[TV.mp hx];exact⟨e,c p (by simp)⟩
 .have hx:x∈(b,p)::(ba As (b,p)).map λo=>(o,q):=hx;rcases Tz.mp hx with rfl|hx
  .exact⟨e,c p (by simp)⟩
  .obtain⟨o,g,rfl⟩:=TH.mp hx;obtain⟨a,ha,rfl⟩:=TH.mp g;exact⟨(univ_mem.mp (f a (Us.mp ha).1)).2.2,c q (by simp)⟩
def Sv(ro sg:Int):List bf:=(List.range ro.toNat).flatMap λa=>(List.range sg.toNat).map λs=>(((a:Nat):Int),((s:Nat):Int))
def L1(h:Bd ro sg){As:List Sp.Arr}(nd:As.Nodup)(d:∀a∈As,a∈ko ro sg ro)(i:∀r∈RL,RR ro sg r)(j:(RL.length:Int)<=ro*sg+13):MC (Ls As RL):=by
 intro k;have e:=h.r;have o:=h.s;constructor
 .have h1:=Ex (aX (ba As)) (ro.toNat+1) (RL.filter λr=>decide (hd r=k)) λr _=>A7 _ (yd nd d) r;have h2:(RL.filter λr=>decide (hd r=k)).length<=RL.length:=WI ..;have g:RL.length*(ro.toNat+1)<=300:=by
   have:=h.f;have l:((RL.length*(ro.toNat+1):Nat):Int)<=(ro*sg+13)*(ro+1):=by
    rw[Int.natCast_mul];have:((ro.toNat+1:Nat):Int)=ro+1:=by lia
    rw[this];exact Int.mul_le_mul_of_nonneg_right j (by lia)
   lia
  exact T6 h1 (T6 (Nat.mul_le_mul_right _ h2) g)
 .intro m n b;have h1:=Pz.j7 m (Sv ro sg) n λx c=>by obtain⟨r,e,c⟩:=WR.mp (b x c);have:=Ey d (i r (Us.mp e).1) c;exact WR.mpr ⟨x.1.toNat,Uj.mpr (by lia),TH.mpr ⟨x.2.toNat,Uj.mpr (by lia),Xg (by show((x.1.toNat:Nat):Int)=x.1;lia) (by show((x.2.toNat:Nat):Int)=x.2;lia)⟩⟩
  have h2:=Ex (λa:Nat=>(List.range sg.toNat).map λs=>(((a:Nat):Int),((s:Nat):Int))) sg.toNat (List.range ro.toNat) λx _=>by simp
  rw[VO]at h2;have g:((ro.toNat*sg.toNat:Nat):Int)=ro*sg:=by rw[Int.natCast_mul];congr 1<;>lia
  have l:=h.m;have h2:(Sv ro sg).length<=ro.toNat*sg.toNat:=h2;lia
theorem v7(h:Bd ro sg){n:Nat}(b:Rs ro sg n RL)(k:n<=41)(d:(RL.length:Int)<=ro*sg+13):∃As ds,Hk iL ro sg RL As ds/\J6 RL As:=by
 have e:=b.n;obtain⟨t,G,l,f⟩:=Ej h.r.1 h.s.1 b.a (by lia) h.u;have c:=Em f G.nd (by lia);have g:∀a∈t.map (·.1),a∈ko ro sg ro:=λa ha=>by obtain⟨v,i⟩:=ub ha;exact G.u a v i
 refine⟨t.map (·.1),(IV t).map λx=>.int x.2,⟨Eq.trans c ?_,by rw[Tp];lia,by lia,λr j=>(b.a r j).p,L1 h G.nd g b.a d⟩,Ew G⟩;unfold Rj HG IV;rw[T7,T7,T7];rfl
end
def Ez{ro sg R S:Int}(r:0<ro/\ro<=R)(s:0<sg/\sg<=S)(b:R<=8)(c:S<=14)(h1:R*S<=28)(h2:(R*S+13)*(R+1)<=300)(a:R.toNat*(S.toNat*R.toNat)<=128):Bd ro sg:=by have m:ro*sg<=R*S:=Int.mul_le_mul r.2 s.2 (by lia) (by lia);have p:0<ro*sg:=Int.mul_pos r.1 s.1;refine⟨by lia,by lia,by lia,VF (Int.mul_le_mul (by lia) (by lia) (by lia) (by lia)) h2,?_⟩;rw[Eh];exact T6 (Wi (by lia) (Wi (by lia) (by lia))) a
def RN{ns:List Int}(q:ns.length<=63){ro sg b:Int}(h:Bd ro sg)(t:0<=b/\b<=12){e1:Option Sl}:tZ [vv (.lst (ns.map .int)) false,e1,vv (.int ro) true,vv (.int sg) true,vv (.int b) true,none,none,none,none,none,none,none,none,none,none]=.ok (.rt (.val (.bl true) true [])):=by obtain⟨RL,c,C,d⟩:=Eo h t ns;obtain⟨As,ds,u,v⟩:=v7 h c (by lia) (by lia);obtain⟨k,c2⟩:=lU ns 2 (by decide);obtain⟨place,_,m2⟩:=lV k;obtain⟨l,c3⟩:=lU ns 3 (by decide);obtain⟨m,_,m3⟩:=lV l;obtain⟨stk,rs,w,st,sd⟩:=Ep h.s.1 (place/3);have o:∀r∈RL,r.2.2.2.length<=2:=λr x=>(c.a r x).p;have y:=c.n;obtain⟨z,RW,rn,rd,e,D⟩:=LX (RL:=RL) (by lia) o (place%ro) (stk:=stk) (cells:=dz ns (some (4+b)) (some (64+b))) w (T6 (vT _ _ _) (by lia));obtain⟨more,f,ru⟩:=t_ h m false;obtain⟨g,i,j,_⟩:=v7 h (c.snoc f) (To _) (by rw[TU,Vk];lia);have key:∀env,Sw env (.lst (ns.map .int)) false ro true sg true b true (.lst (RL.map aI)) true->OC LN env=.ok (.rt (.val (.bl true) true [])):=λenv A=>KN ⟨ns,ro,sg,b,RL,false,true,true,true,true,A,As,ds,k,l,place,m,rs,z,stk,RW,more,g,i,u,h.r.1,c2,m2,st,sd,by rw[pU];exact rn,rd,λZ B=>LZ o v e (by lia) B,c3,m3,ru,j⟩;simp_arith[tZ,d,vS,D8,zu];exact key _ ⟨rfl,rfl,rfl,rfl,rfl,rfl⟩
def L5(ns:List Int)(e:ns.length<=63):p9 [.lst (ns.map .int)]=.ok (.val (.bl true) true []):=by
 obtain⟨x0,b⟩:=lU ns 0 (by decide);obtain⟨y,g,m0⟩:=lV x0;have f:0<=y/48%13/\y/48%13<=12:=by lia
 have c:=λro sg h e1=>RN e (ro:=ro) (sg:=sg) h f (e1:=e1);by_cases h1:y/624%4=1
 .have a:(y/624%4==1)=true:=by rw[h1];rfl
  have:=c (1+y/2496%8) (1+y/3%2) (Ez (R:=8) (S:=2) (by lia) (by lia) (by decide) (by decide) (by decide) (by decide) (by decide));simp_arith[p9,zC,oj,oh,og,oe,b,m0,nM,a,this]
 .have a:(y/624%4==1)=false:=by rw[Vg];exact h1
  by_cases h2:y/2496%8=3
  .have d:(y/2496%8==3)=true:=by rw[h2];rfl
   have:=c (1+y/19968%2) (5+y/39936%10) (Ez (R:=2) (S:=14) (by lia) (by lia) (by decide) (by decide) (by decide) (by decide) (by decide));simp_arith[p9,zC,oj,oh,og,oe,b,m0,nM,a,d,this]
  .have d:(y/2496%8==3)=false:=by rw[Vg];exact h2
   have:=c (1+y%3) (1+y/3%4) (Ez (R:=3) (S:=4) (by lia) (by lia) (by decide) (by decide) (by decide) (by decide) (by decide));simp_arith[p9,zC,oj,oh,og,oe,b,m0,nM,a,d,this]
end W
open PySem PySem.W PyProof.Rows
set_option maxRecDepth 100000 in
set_option maxHeartbeats 0 in
theorem PySem.Challenge.cw_callwalk_k42_head_steps_holds : PySem.Challenge.rw_callwalk_k42_head_steps.Holds := by
 w_on;refine PySem.W.Ea ?_
 k_fill
 refine L2.Cj (l:=PySem.Challenge.rw_callwalk_k42_head_steps) (n:=63) (k:=10) (x:="_law_script") (CX:=fun w=>L2.hV) (sp:=fun _=>L3.P7 W.p9) rfl (by decide) rfl ⟨rfl,by decide,by decide⟩ (fun w h Y=>PySem.W.kIn_of Y) ?kL ?F ?S ?C
 case kL=>exact fun w=>⟨by rfl,by rfl⟩
 case F=>
  intro w mg fa h KX G hmg
  refine' Exists.imp (fun _ z=>⟨z.1,fun base _ _=>z.2 base⟩) (W.LQ hmg ?_)
  refine' (W.Pq KX G L2.Aa (L4.fk ?_ ?_ ?_) (L4.fk ?_ ?_ ?_) (L4.fk ?_ ?_ ?_) (L4.fk ?_ ?_ ?_) (L4.fk ?_ ?_ ?_) (L4.fk ?_ ?_ ?_) (L4.fk ?_ ?_ ?_) (L4.fk ?_ ?_ ?_) (L4.fk ?_ ?_ ?_) (L4.fk ?_ ?_ ?_) (L4.fk ?_ ?_ ?_) (L4.fk ?_ ?_ ?_) (L4.fk ?_ ?_ ?_) (L4.fk ?_ ?_ ?_) (L4.fk ?_ ?_ ?_) (L4.fk ?_ ?_ ?_) (L4.fk ?_ ?_ ?_) (L4.fk ?_ ?_ ?_) (L4.fk ?_ ?_ ?_) (L4.fk ?_ ?_ ?_) (L4.fk ?_ ?_ ?_) (L4.fk ?_ ?_ ?_) (L4.fk ?_ ?_ ?_) (L4.fk ?_ ?_ ?_) ?_ ?_ ?_ ?_ ?_ ?_ ?_ ?_ ?_ ?_ ?_ ?_ ?_ ⟨?_,?_,?_,?_,?_,?_,?_⟩ ?_ ?_ ⟨?_,?_,?_,?_,?_,?_,?_⟩ ?_ ?_ ?_ ?_ ?_ (L4.mk ?_ ?_ ?_ ?_ ?_) (L4.mk ?_ ?_ ?_ ?_ ?_) (L4.mk ?_ ?_ ?_ ?_ ?_) (L4.mk ?_ ?_ ?_ ?_ ?_) (L4.mk ?_ ?_ ?_ ?_ ?_) (L4.mk ?_ ?_ ?_ ?_ ?_) (L4.mk ?_ ?_ ?_ ?_ ?_) (L4.mk ?_ ?_ ?_ ?_ ?_) (L4.mk ?_ ?_ ?_ ?_ ?_))
  all_goals try k_is
 case S=>exact fun w H a ns hl hS=>L3.J2 (fun ns hn=>⟨_,_,W.L5 ns hn⟩) H a ns hl hS
 case C=>exact fun _ _ _ _ _ z=>z
