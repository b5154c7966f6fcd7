import PyProof.Rows.All
import Wide.All
import OpenK.AllK
import PySem.Challenge.RW_callwalk_k46_longest
section
open PySem PySem.W PyProof.Rows
def PySem.W.Vw:Program:={PySem.Challenge.pw_callwalk_k46_longest with main:={PySem.Challenge.pw_callwalk_k46_longest.main with body:=PySem.Challenge.pw_callwalk_k46_longest.main.body.filter fun s=>match s with|.FunctionDef ..=>true|.ClassDef ..=>true|_=>false}}
local macro_rules | `(tactic| o_head $H) => `(tactic| refine holds_open (q := PySem.W.Vw) (loose := []) (Xt := fun s => xlAt PySem.W.Vw [] s && recOk (RowW.records PySem.Challenge.rw_callwalk_k46_longest.row.toRowW) s) (XP := XL PySem.W.Vw []) (Yf := Hook.obs $H) (Ya := Hook.val $H) (YP := Hook.says $H) (N := 4800) (fun w => by kernel_rfl) (Hook.of $H) (Hook.keeps $H) (fun s e => xl_of s (Bool.and_eq_true_iff.mp e).1) XL.keeps (by rfl) (by rfl) (by rfl) (fun s e => recFacts_of (Bool.and_eq_true_iff.mp e).2) (by rfl) (by first | assumption | decide +kernel) (by decide +kernel) ⟨rfl, rfl, rfl, rfl, rfl, by decide +kernel⟩ ?_ ?_)
set_option Elab.async false
set_option maxRecDepth 100000
set_option maxHeartbeats 0
theorem PySem.W.Ew:PySem.Challenge.rw_callwalk_k46_longest.wellSaid=true:=by kernel_rfl
def PySem.W.Ea:=fun hc=>(by
 w_on;refine holds_law PySem.W.Ew fun said=>?_;k_head;(· w_witness2)
 exact hc:PySem.Challenge.rw_callwalk_k46_longest.Holds)
end
set_option autoImplicit true
set_option Elab.async false
set_option linter.all false
set_option genSizeOf false
set_option genSizeOfSpec false
set_option compiler.extract_closed false
set_option maxRecDepth 100000
set_option maxHeartbeats 4000000
set_option bootstrap.genMatcherCode false
noncomputable section
abbrev PySem.Heap.y(h:Heap):=h.objs.size
abbrev PySem.Shared.z(s:Shared):=s.heap.objs.size
open PySem.W(instObj hideAll lookIn plainGet hasDictIn findIn isFn emptyDict keepIn kitOne fnOf codeIn excIn kas_ask nsIn)
def KE:=@PySem.wpAny_bind
def R5:=@PySem.wpAny_pure
def R7:=@Nat.le_refl
def R8:=@PySem.Heap.get?_push_of_some
def R9:=@List.length_map
def R_:=@List.getElem?_eq_getElem
def Sa:=@List.mem_cons_self
def Sb:=@List.mem_singleton
def Se:=@List.mem_map
def Sf:=@List.mem_cons_of_mem
def Sg:=@if_pos
def Si:=@List.getElem?_eq_some_iff
def Sj:=@if_neg
def Sk:=@List.mem_append
def Sm:=@List.length_append
def Sn:=@PySem.Heap.get?_push_size
def Sq:=@List.mem_cons
def Sr:=@PySem.Heap.lt_size
def Ss:=@List.size_toArray
def Su:=@List.getElem?_map
def Sv:=@List.take_add_one
def Sw:=@Nat.zero_le
def Sx:=@List.not_mem_nil
def Sy:=@Bool.false_eq_true
def Sz:=@decide_eq_true
def SB:=@List.mem_of_getElem?
def SC:=@List.mem_iff_getElem?
def SD:=@List.map_cons
def SE:=@Nat.le_trans
def SF:=@PySem.F.plainAttrs_list
def SG:=@List.length_cons
def SH:=@List.mem_append_left
def SI:=@Nat.ne_of_lt
def SJ:=@List.mem_filter
def SK:=@List.mem_append_right
def SL:=@PySem.PassesOwn.never
def SM:=@List.pairwise_iff_getElem
def SN:=@List.map_append
def SO:=@of_decide_eq_true
def SQ:=@PySem.sizeLine_eq
def SR:=@List.map_congr_left
def SS:=@Bool.false_ne_true
def SU:=@List.take_length
def SV:=@List.append_assoc
def SW:=@Array.getElem?_toList
def SX:=@List.nodup_append
def SY:=@List.length_singleton
def SZ:=@List.mem_range
def S1:=@List.nodup_nil
def S3:=@Classical.byContradiction
def S5:=@PySem.F.plainAttrs_dict
def S6:=@List.length_eq_zero_iff
def S8:=@Nat.lt_of_lt_of_le
def S_:=@List.length_take_le'
def Tc:=@PySem.F.slot_list_append
def Td:=@PySem.F.type_list_append
def Te:=@PySem.F.slot_dict_setdefault
def Tf:=@Option.map_eq_some_iff
def Tg:=@List.map_map
def Th:=@Option.some.inj
def Ti:=@Nat.exists_eq_add_of_le'
def Tj:=@List.append_nil
def Tl:=@PySem.Heap.SameBut.update
def To:=@List.pairwise_map
def Tp:=@Ne.symm
def Tq:=@PySem.wpAny_newObj_type
def Ts:=@Nat.lt_of_le_of_lt
def Tt:=@List.filter_append
def Tu:=@Array.length_toList
def Tv:=@PySem.wpAny_call_entry
def Tw:=@decide_eq_false
def Tz:=@List.nodup_cons
def TB:=@PySem.F.type_dict_setdefault
def TC:=@List.length_take
def TF:=@PySem.W.mg_none_of
def TH:=@PySem.wpAny_holding
def TJ:=@List.take_of_length_le
def TN:=@List.mem_flatMap
def TR:=@PyProof.Rows.slot_tuple_getitem
def TU:=@Int.le_refl
def TV:=@if_false
def TY:=@Nat.le_of_lt
def TZ:=@List.length_filter_le
def T2:=@List.take_append_drop
def T3:=@List.getElem?_eq_none
def T4:=@List.getElem?_append_right
def T6:=@PySem.wpAny_callSpecial?_slot
def T7:=@List.filter_cons
def T8:=@PySem.F.slot_dict_itemiterator_next
def T9:=@PySem.wpAny_setState_of
def T_:=@congrArg
def Ua:=@Bool.not_true
def Ub:=@PySem.W.kia_one
def Uc:=@PySem.Heap.get?_update_self
def Ud:=@PySem.wpAny_mono
def Ue:=@List.flatMap_cons
def Ug:=@Int.eq_ofNat_of_zero_le
def Uh:=@List.mem_of_mem_take
def Ui:=@List.length_eq_one_iff
def Uj:=@List.getElem?_append_left
def Uk:=@PyProof.Rows.F.plain_set_update_loop
def Ul:=@List.foldl_cons
def Um:=@Nat.shiftRight_eq_div_pow
def Uo:=@Nat.lt_succ_self
def Up:=@Bool.and_eq_true
def Uq:=@List.Pairwise.imp_of_mem
def Ur:=@List.foldl_append
def Us:=@PySem.Paired.length
def Ut:=@Array.getElem?_eq_some_iff
def Uu:=@PySem.Calls.callWith_builtin
def Uv:=@PySem.mem_of_lookup
def Uw:=@decide_eq_true_eq
def Ux:=@PySem.F.slot_dict_get
def Uy:=@PySem.wpAny_typeNameOfWhole_itemiter
def Uz:=@Int.le_trans
def UA:=@PySem.F.slot_tuple_hash
def UB:=@List.dropLast_concat_getLast
def UC:=@List.Perm.refl
def UD:=@PySem.wpAny_truthy_bool
def UE:=@PySem.wpAny_dictEntries
def UF:=@List.find?_cons
def UG:=@beq_eq_false_iff_ne
def UH:=@PySem.codeAny_builtin
def UI:=@List.flatMap_append
def UJ:=@PySem.Heap.get?_update_other
def UK:=@PySem.wpAny_Call_Name_kw
def UL:=@List.map_nil
def UM:=@PySem.tupleKind_room_in1
def UN:=@PySem.wpAny_notOrdered_dict
def UO:=@List.findIdx?_eq_some_iff_getElem
def UP:=@PySem.wpAny_typeNameOf_itemiter
def UQ:=@Array.getElem?_eq_getElem
def UR:=@PySem.Calls.evalArgs_plain
def US:=@PySem.Around.under_plainId
def UT:=@List.mem_iff_getElem
def UU:=@PySem.wpAny_passesOwn
def UV:=@Bool.eq_iff_iff
def UW:=@PySem.wpAny_specialOf
def UX:=@List.length_nil
def UY:=@List.ext_getElem?
def UZ:=@PySem.F.slot_list_extend
def U0:=@PySem.F.type_list_extend
def U1:=@Nat.lt_irrefl
def U2:=@List.filterMap_cons
def U3:=@Nat.add_assoc
def U4:=@Int.toNat_of_nonneg
def U5:=@PySem.wpAny_forIn_list
def U6:=@PySem.wpAny_isInstance
def U7:=@beq_self_eq_true
def U8:=@List.lookup_cons
def U9:=@PySem.wpAny_typeNameOfWhole_keyiter
def U_:=@beq_iff_eq
def Vb:=@PySem.Heap.size_push
def Vc:=@Nat.mul_le_mul
def Vd:=@PySem.F.entry_dict_get
def Ve:=@Array.getElem?_eq_none
def Vf:=@List.mem_filterMap
def Vg:=@PySem.Calls.spliced_cons
def Vh:=@Array.forIn_toList
def Vi:=@PySem.wpAny_setField_rec
def Vj:=@PySem.wpAny_execs_nil
def Vk:=@Nat.ne_of_gt
def Vl:=@PyProof.Rows.callWith_type1
def Vm:=@PySem.wpAny_typeOf
def Vn:=@PySem.call_meetsIn
def Vo:=@List.nil_append
def Vp:=@PySem.wpAny_pyIter_list
def Vq:=@Int.toNat_natCast
def Vs:=@Nat.lt_succ_of_lt
def Vt:=@PySem.wpAny_pyIter_slot
def Vu:=@if_true
def Vv:=@PySem.Obj.data_mapDictKeys
def Vw:=@Bool.and_false
def Vx:=@List.drop_eq_getElem_cons
def Vy:=@List.getElem?_zip_eq_some
def Vz:=@PyProof.Rows.F.entry_set_update_loop
def VA:=@PySem.wpAny_setField
def VB:=@Prod.ext
def VC:=@List.length_drop
def VD:=@List.nodup_range
def VE:=@Nat.add_le_add_left
def VF:=@PySem.Heap.SameBut.extBut
def VG:=@List.length_pos_iff
def VH:=@Nat.mul_le_mul_left
def VI:=@PySem.codeAny_mono
def VJ:=@PySem.wpAny_typeNameOf_keyiter
def VL:=@PySem.W.callWith_K
def VM:=@PySem.wpAny_Call_method0_late
def VN:=@PySem.plainId_quiet
def VO:=@List.pairwise_cons
def VP:=@Nat.lt_or_gt_of_ne
def VQ:=@PySem.W.KasT.kasWp_bind
def VR:=@PySem.Obj.data_mapFields
def VS:=@PySem.size_of_entries
def VT:=@PySem.wpAny_dictEpoch
def VU:=@List.getElem?_cons_zero
def VW:=@Nat.add_sub_cancel_left
def VX:=@PySem.wpAny_isOneOf_itemiter
def VY:=@List.length_pos_of_mem
def VZ:=@PySem.Calls.spliced_nil
def V0:=@PySem.wpAny_field
def V1:=@Option.isSome_map
def V2:=@PySem.wpAny_rule
def V3:=@Nat.lt_trichotomy
def V4:=@PySem.wpAny_storeSet_of
def V5:=@bne_self_eq_false
def V6:=@PySem.SeqAt.RcAt.tuples
def V7:=@List.getElem?_inj
def V8:=@List.length_range
def V9:=@Bool.false_and
def V_:=@PySem.wpAny_seqItems
def Wa:=@PySem.F.args_dict_setdefault_3
def Wb:=@PySem.Obj.isFreed_of_fields
def Wc:=@Int.le_of_lt
def Wd:=@Nat.le_add_right
def We:=@PySem.F.entry_dict_setdefault
def Wf:=@List.getElem_mem
def Wg:=@List.take_append_of_le_length
def Wh:=@List.mem_of_mem_drop
def Wi:=@List.pairwise_append
def Wj:=@PySem.wpAny_pyIter_keyiter
def Wl:=@List.getElem?_of_mem
def Wm:=@List.any_cons
def Wo:=@or_false
def Wp:=@PySem.wpAny_attempt
def Wq:=@PySem.W.plainGet_of
def Wr:=@List.getElem?_range
def Ws:=@PySem.W.of_hideAll
def Wt:=@Nat.le_of_eq
def Wu:=@Nat.add_comm
def Wv:=@PySem.wpAny_fieldsOf
def Ww:=@PySem.W.kitx_dict
def Wx:=@Nat.le_of_lt_succ
def Wy:=@Nat.le_succ
def Wz:=@List.sum_cons
def WB:=@Nat.mul_add
def WD:=@PySem.W.mg_of
def WE:=@List.any_eq_true
def WF:=@List.all_eq_true
def WG:=@List.perm_middle
def WH:=@Int.zero_add
def WI:=@Nat.mod_lt
abbrev WJ:=PySem.Shared
abbrev WK:=PySem.W.Frag
abbrev WL:=PySem.Program
abbrev WM:=PySem.Value
abbrev WN:=PySem.Around
def WU(h : True := by rfl) : True := h
def av:Lean.Syntax:=WU._auto_1
def WO(h : True := by decide) : True := h
def aa:Lean.Syntax:=WO._auto_1
def WS(h : ∀u : Unit, u = u := by intro _; rfl) : True := ⟨⟩
def af:Lean.Syntax:=WS._auto_1
def WQ(h : True := by first|exact .inl rfl|exact .inr rfl|assumption) : True := h
def ae:Lean.Syntax:=WQ._auto_1
def WR(h : True := by first|exact Or.inl rfl|exact Or.inr (Or.inl rfl)|exact Or.inr (Or.inr rfl)) : True := h
def WT(h : True := by intro _ _; rfl) : True := h

open PySem PySem.Spec PyProof.Rows
namespace L2
noncomputable abbrev bc:=Sum Int Str
noncomputable def fL:bc->WM->Bool
 |.inl k,v=>Value.isInt k v
 |.inr x,v=>Value.isStrOf x v
noncomputable def JR(w:World):bc->Int
 |.inl k=>hashInt k
 |.inr x=>hashStr w x
def aY:∀{k:bc}{v:WM},fL k v=true->(∃i t,k=Sum.inl i/\v=Value.int i t)\/(∃x t,k=Sum.inr x/\v=Value.str x t)
 |.inl i,v,h=>by obtain⟨t,e⟩:=Value.isInt_shape (k:=i) (v:=v) h;exact .inl ⟨i,t,rfl,e⟩
 |.inr x,v,h=>by obtain⟨t,e⟩:=Value.isStrOf_shape (x:=x) (v:=v) h;exact .inr ⟨x,t,rfl,e⟩
def oW(i:Int)(t:Tok):fL (.inl i) (.int i t)=true:=by simp[fL,Value.isInt]
def xq(x:Str)(t:Tok):fL (.inr x) (.str x t)=true:=by simp[fL,Value.isStrOf]
def Gx(a b:Int):decide ((Sum.inl a:bc)=Sum.inl b)=(a==b):=by grind
def Gy(a b:Str):decide ((Sum.inr a:bc)=Sum.inr b)=decide (a=b):=by grind
def Gz(a:Int)(b:Str):decide ((Sum.inl a:bc)=Sum.inr b)=false:=Tw (λq=>nomatch q)
def GA(a:Str)(b:Int):decide ((Sum.inr a:bc)=Sum.inl b)=false:=Tw (λq=>nomatch q)
def aH(prog:WL)(w:World):PySem.KeyKind prog w bc where
 is:=fL
 hash:=JR w
 inj:=λv a b ha hb=>by
  rcases aY ha with⟨i,t,rfl,rfl⟩|⟨x,t,rfl,rfl⟩
  .rcases aY hb with⟨j,u,rfl,e⟩|⟨y,u,rfl,e⟩
   .injection e with e1 _;rw[e1]
   .exact nomatch e
  .rcases aY hb with⟨j,u,rfl,e⟩|⟨y,u,rfl,e⟩
   .exact nomatch e
   .injection e with e1 _;rw[e1]
 byValue:=λk v h=>by rcases aY h with⟨i,t,rfl,rfl⟩|⟨x,t,rfl,rfl⟩<;>rfl
 pyHash:=λhv h=>by
  rcases aY hv with⟨i,t,rfl,rfl⟩|⟨x,t,rfl,rfl⟩
  .exact wpAny_pyHash_int h
  .exact wpAny_pyHash_str h
 eqBool:=λhu hv h=>by
  rcases aY hu with⟨i,t,rfl,rfl⟩|⟨x,t,rfl,rfl⟩
  .rcases aY hv with⟨j,u,rfl,rfl⟩|⟨y,u,rfl,rfl⟩
   .rw[Gx]at h;exact wpAny_eqBool_int h
   .rw[Gz]at h;exact SeqAt.EqAt.int_str i t y u _ _ _ _ h
  .rcases aY hv with⟨j,u,rfl,rfl⟩|⟨y,u,rfl,rfl⟩
   .rw[GA]at h;exact SeqAt.EqAt.str_int x t j u _ _ _ _ h
   .rw[Gy]at h;exact wpAny_eqBool_str h
 «strs»:=λk x t v h=>by
  rcases aY h with⟨i,u,rfl,e⟩|⟨y,u,rfl,e⟩
  .exact nomatch e
  .injection e with e1 _;subst e1;cases v<;>rfl
def rH(a:WL)(w:World)(i:Int)(t:Tok):(aH a w).is (.inl i) (.int i t)=true:=oW i t
def rJ(a:WL)(w:World)(x:Str)(t:Tok):(aH a w).is (.inr x) (.str x t)=true:=xq x t
inductive V where
 |cj|bl (b:Bool)|int (i:Int)|str (x:Str)|vL (b:Array UInt8)|Gj (b:UInt64)|ref (a:Addr)|ty (n:String)
 deriving DecidableEq
noncomputable def RelV:V->WM->Prop
 |.cj,u=>u=Value.none
 |.bl b,u=>u=Value.bool b
 |.int i,u=>∃t,u=Value.int i t
 |.str x,u=>∃t,u=Value.str x t
 |.vL b,u=>∃t,u=Value.bytes b t
 |.Gj b,u=>∃t,u=Value.float b t
 |.ref a,u=>u=Value.ref a
 |.ty n,u=>u=Value.type n
abbrev Vals:List V->List WM->Prop:=Paired RelV
theorem Vals.length(r:Vals xs us):xs.length=us.length:=Us r
theorem Vals.get:∀{a:List V}{b:List WM}{i:Nat}{x:V},Vals a b->a[i]?=some x->∃u,b[i]?=some u/\RelV x u
 |_,_,_,_,.nil,e=>by simp at e
 |_,_,0,_,.cons r _,e=>by simp at e;subst e;exact⟨_,rfl,r⟩
 |_,_,i+1,x,.cons _ t,e=>by obtain⟨u,h1,c⟩:=Vals.get (i:=i) (x:=x) t (by simpa using e);exact⟨u,by simpa using h1,c⟩
theorem Vals.append:∀{b a:List V}{c d:List WM},Vals b c->Vals a d->Vals (b++a) (c++d)
 |_,_,_,_,.nil,s=>s
 |_,_,_,_,.cons r t,s=>.cons r (Vals.append t s)
theorem Vals.take:∀{a:List V}{b:List WM}(n:Nat),Vals a b->Vals (a.take n) (b.take n)
 |_,_,0,_=>.nil
 |_,_,_+1,.nil=>.nil
 |_,_,n+1,.cons r t=>.cons r (Vals.take n t)
theorem Vals.drop:∀{a:List V}{b:List WM}(n:Nat),Vals a b->Vals (a.drop n) (b.drop n)
 |_,_,0,r=>r
 |_,_,_+1,.nil=>.nil
 |_,_,n+1,.cons _ t=>Vals.drop n t
def RelO:Option V->Option WM->Prop
 |some v,some u=>RelV v u
 |none,none=>True
 |_,_=>False
def KV{a:Type}:List (a×V)->List (a×WM)->Prop:=Paired λ(p:a×V)(q:a×WM)=>p.1=q.1/\RelV p.2 q.2
noncomputable def kV:bc->V
 |.inl i=>.int i
 |.inr x=>.str x
inductive HO where
  
 |lst (xs:List V)
  
 |tup (xs:List V)
  
 |dK (kvs:List (bc×V))|dT (kvs:List (List bc×V))
  
 |set (S:Int->Bool) (n:Nat)
  
 |ins (C dx:Addr) (fs:List (Str×V))
  
 |own (x:Addr)
  
 |xd (fs:List (Str×V))
  
 |met (f x:Addr)
  
 |Nm (lo hi:Int)
  
 |bv (o:Obj) (u:HO)
  
 |rG (ps:Array WM)
  
 |ext (φ:Heap->Prop)
noncomputable abbrev Hp:=Addr->Option HO
noncomputable def upd(H:Hp)(a:Addr)(o:HO):Hp:=λb=>if b=a then some o else H b
def ac:upd H a o a=some o:=by unfold upd;rw[Sg rfl]
def ai(h:b≠a):upd H a o b=H b:=by unfold upd;rw[Sj h]
def zh{H:Hp}(h:H a=some o)(c:H b=some u)(d:o≠u):a≠b:=by intro e;subst e;rw[h]at c;exact d (Th c)
def ay{H:Hp}(h:H a=some o)(c:H b=none):a≠b:=by intro e;subst e;rw[h]at c;cases c
section
variable(P:WL)(w:World)
def ObjOk(H:Hp)(h:Heap)(a:Addr):HO->Prop
 |.lst i=>i.length<=sizeLine/\∃(e:List WM)(n:Nat),Vals i e/\h.get? a=some { cls:=.type "list",data:=.seq e.toArray n }
 |.tup i=>i.length<=sizeLine/\∃e:List WM,Vals i e/\IsTup h a e.toArray
 |.dK g=>g.length<=sizeLine/\(a==sysModules)=false/\∃l,KV g l/\h.DictOf (aH P w) a l
 |.dT g=>g.length<=sizeLine/\(a==sysModules)=false/\∃i:List (List bc×Addr×WM),
  Paired (λ(p:List bc×V)(q:List bc×Addr×WM)=>p.1=q.1/\H q.2.1=some (.tup (p.1.map kV))/\RelV p.2 q.2.2) g i/\
  ∃o m s,h.get? a=some o/\o.ExactDict/\o.data=.dict m s/\m.toList=i.map (entryOfKey (tupleKind (aH P w)))/\(i.map (·.1)).Nodup
 |.set S n=>h.SetOf (intKind P w) a S n
 |.ins C k j=>H k=some (.own a)/\j.length<=1000/\k≠a/\h.get? a=some (instObj C k)/\
  ∃b,h.Ns1 k b/\(∀f,RelO (j.lookup f) (b f))/\PySem.Within b (j.map (·.1))
 |.own _=>∃o,h.get? a=some o
 |.xd j=>∃b,h.Ns1 a b/\∀f,RelO (j.lookup f) (b f)
 |.Nm lo d=>∃t u v,h.get? a=some { cls:=.type "range",data:=.fields #[.int lo t,.int d u,.int 1 v] }
 |.bv o u=>h.get? a=some o/\ObjOk H h a u
 |.rG y=>h.get? a=some {cls:=.none,data:=.fields y}
 |.met f x=>h.get? a=some (PySem.W.methodObj (.ref f) (.ref x))
 |.ext c=>c h/\(∃o,h.get? a=some o)/\∀h1 r:Heap,c h1->(∀o,h1.get? a=some o->r.get? a=some o)->c r
def HOk(H:Hp)(h:Heap):Prop:=∀a o,H a=some o->ObjOk P w H h a o
end
section
theorem ObjOk.lt(x:ObjOk P w H h a o):a<h.y:=by
 cases o with
 |lst i=>obtain⟨_,_,_,_,e⟩:=x;exact Sr e
 |tup i=>obtain⟨_,_,_,p⟩:=x;exact p.lt
 |dK g=>obtain⟨_,_,_,_,o,_,_,e,_⟩:=x;exact Sr e
 |dT g=>obtain⟨_,_,_,_,o,_,_,e,_⟩:=x;exact Sr e
 |set S n=>obtain⟨o,_,_,_,e,_⟩:=x;exact Sr e
 |ins C k j=>obtain⟨_,_,_,e,_⟩:=x;exact Sr e
 |own y=>obtain⟨_,e⟩:=x;exact Sr e
 |xd j=>obtain⟨_,⟨_,_,_,e,_⟩,_⟩:=x;exact Sr e
 |Nm lo b=>obtain⟨_,_,_,e⟩:=x;exact Sr e
 |bv c u=>obtain⟨e,_⟩:=x;exact Sr e
 |rG l=>exact Sr (show h.get? a=some _ from x)
 |met f y=>exact Sr (show h.get? a=some _ from x)
 |ext d=>obtain⟨_,⟨_,e⟩,_⟩:=x;exact Sr e
def Paired.FH{i e:Type}{F G:i->e->Prop}{c:List i}{d:List e}(h:Paired F c d)(f:∀a b,F a b->G a b):Paired G c d:=by
 induction h with
 |nil=>exact .nil
 |cons r _ g=>exact .cons (f _ _ r) g
def Paired.imp'{g e:Type}{F G:g->e->Prop}(f:∀a b,F a b->G a b){c:List g}{d:List e}(r:Paired F c d):Paired G c d:=Paired.FH r f
def ObjOk.stay(x:ObjOk P w H h a o)(k:∀b u,(b=a\/H b=some (.own a))->h.get? b=some u->h'.get? b=some u)
 (j:∀b,H b=some (.own a)->H' b=some (.own a)) (l:∀b F,H b=some (.tup F)->H' b=some (.tup F)):ObjOk P w H' h' a o:=by
 induction o with
 |lst F=>obtain⟨z,E,n,r,e⟩:=x;exact⟨z,E,n,r,k _ _ (.inl rfl) e⟩
 |tup F=>obtain⟨z,E,r,g,e,c⟩:=x;exact⟨z,E,r,g,k _ _ (.inl rfl) e,c⟩
 |dK G=>obtain⟨z,y,K,r,g,B,D,e,c⟩:=x;exact⟨z,y,K,r,g,B,D,k _ _ (.inl rfl) e,c⟩
 |dT G=>obtain⟨z,y,F,r,g,B,D,e,c⟩:=x;exact⟨z,y,F,Paired.FH r λp q z=>⟨z.1,l _ _ z.2.1,z.2.2⟩,g,B,D,k _ _ (.inl rfl) e,c⟩
 |set S n=>obtain⟨g,B,D,t,e,c⟩:=x;exact⟨g,B,D,t,k _ _ (.inl rfl) e,c⟩
 |ins C O L=>obtain⟨d,z,M,e,i,⟨I,B,D,N,c⟩,r⟩:=x;exact⟨j _ d,z,M,k _ _ (.inl rfl) e,i,⟨I,B,D,k _ _ (.inr d) N,c⟩,r⟩
 |own y=>obtain⟨g,e⟩:=x;exact⟨g,k _ _ (.inl rfl) e⟩
 |xd L=>obtain⟨i,⟨I,B,D,e,c⟩,r⟩:=x;exact⟨i,⟨I,B,D,k _ _ (.inl rfl) e,c⟩,r⟩
 |Nm lo s=>obtain⟨t,u,v,e⟩:=x;exact⟨t,u,v,k _ _ (.inl rfl) e⟩
 |bv g u m=>obtain⟨e,q⟩:=x;exact⟨k _ _ (.inl rfl) e,m q⟩
 |rG J=>have e:h.get? a=some {cls:=.none,data:=.fields J}:=x;show h'.get? a=some {cls:=.none,data:=.fields J};exact k a _ (.inl rfl) e
 |met f y=>have e:h.get? a=some (PySem.W.methodObj (.ref f) (.ref y)):=x;show h'.get? a=some (PySem.W.methodObj (.ref f) (.ref y));exact k a _ (.inl rfl) e
 |ext A=>obtain⟨p,⟨o,e⟩,st⟩:=x;exact⟨st _ _ p λo q=>k _ _ (.inl rfl) q,⟨o,k _ _ (.inl rfl) e⟩,st⟩
theorem HOk.lt(x:HOk P w H h)(e:H a=some o):a<h.y:=(x a o e).lt
def HOk.fresh(x:HOk P w H h)(e:h.y<=a):H a=none:=by
 cases q:H a with
 |none=>rfl
 |some u=>exact absurd (S8 (x.lt q) e) (U1 _)
def HOk.kept(x:HOk P w H h)(k:∀b u,h.get? b=some u->h'.get? b=some u):HOk P w H h':=λa o e=>(x a o e).stay (λb u _ q=>k b u q) (λ_ q=>q) λ_ _ q=>q
def HOk.laid(x:HOk P w H h)(k:∀b u,h.get? b=some u->h'.get? b=some u)(f:h.y<=a)(new:ObjOk P w (upd H a o) h' a o):HOk P w (upd H a o) h':=λb u e=>by
 have d:=x.fresh f;by_cases g:b=a
 .subst g;rw[ac]at e;cases e;exact new
 .rw[ai g]at e;exact(x b u e).stay (λc v _ q=>k c v q) (λc q=>by rwa[ai (ay q d)]) λc i q=>by rwa[ai (ay q d)]
end
def Rd(H:Hp)(a:Addr)(u:HO):Prop:=H a=some u\/∃o,H a=some (.bv o u)
def Rd.ok(r:Rd H a u)(x:HOk P w H h):ObjOk P w H h a u:=by
 rcases r with r|⟨o,r⟩
 .exact x a u r
 .obtain⟨_,q⟩:=x a _ r;exact q
noncomputable def JH:Option HO->Prop
 |some (.lst _)=>True
 |some (.dK _)=>True
 |some (.dT _)=>True
 |some (.set _ _)=>True
 |some (.ins _ _ _)=>True
 |some (.ext _)=>True
 |_=>False
section
def HOk.write(ok:HOk P w H h)(f:JH (H x))(m:e=x\/H e=some (.own x))(k:∀b u,b≠e->h.get? b=some u->h'.get? b=some u)(g:∃u,h'.get? e=some u)
 (new:ObjOk P w (upd H x o') h' x o'):HOk P w (upd H x o') h':=λb u q=>by
 have a:∀c y,H c=some (.own y)->c≠x:=λc y r z=>by subst z;rwa[r]at f
 have d:∀c o,H c=some (.tup o)->c≠x:=λc o r z=>by subst z;rwa[r]at f
 by_cases p:b=x
 .subst p;rw[ac]at q;cases q;exact new
 .rw[ai p]at q;by_cases i:b=e
  .have j:H b=some (.own x):=by
    grind
   rw[q]at j;cases j;obtain⟨v,l⟩:=g;exact⟨v,by rwa[i]⟩
  .refine(ok b u q).stay (λc v n r=>k c v ?_ r) (λc r=>by rwa[ai (a c b r)]) λc o r=>by rwa[ai (d c o r)]
   grind
end
def Qt(H:Hp)(b:Addr):Prop:=H b=none\/∃a,H b=some (.tup a)
structure Un(f c:List Addr) (H d:Hp) (h e:Heap):Prop where
 keep:∀b o,h.get? b=some o->Qt H b->b∉f->b∉c->e.get? b=some o
 slot:∀b o,h.get? b=some o->H b=none->b∈f->b∉c->∃j,e.get? b=some {o with slots:=j}
 free:∀b o,h.get? b=some o->H b=none->b∉c->d b=none
 there:∀b o,h.get? b=some o->b∉c->∃k,e.get? b=some k
 iZ:∀b g,H b=some (.tup g)->d b=some (.tup g)
 iW:∀b o u,H b=some (.bv o u)->d b=some (.bv o u)
 lM:∀b i,H b=some (.rG i)->∃a,d b=some (.rG (i++a))
section
def Un.any(u:Un fs ex H H1 h h1)(q:h.get? b=some ob)(n:H b=none)(a:b∉ex):∃c,h1.get? b=some {ob with slots:=c}:=by
 by_cases d:b∈fs
 .exact u.slot b ob q n d a
 .exact⟨ob.slots,u.keep b ob q (.inl n) d a⟩
def Un.kept(k:∀b u,h.get? b=some u->h'.get? b=some u):Un fs ex H H h h':=⟨λb a q _ _ _=>k b a q,λb a q _ _ _=>⟨a.slots,k b a q⟩,λ_ _ _ n _=>n,λb a q _=>⟨a,k b a q⟩,λ_ _ q=>q,λ_ _ _ q=>q,λ_ c q=>⟨#[],by rw[q];simp⟩⟩
def Un.refl:Un fs ex H H h h:=Un.kept λ_ _ q=>q
def Un.laid(k:∀b u,h.get? b=some u->h'.get? b=some u)(hp:h.y<=a)(hn:H a=none):Un fs ex H (upd H a o) h h' where
 keep:=λb u q _ _ _=>k b u q
 slot:=λb u q _ _ _=>⟨u.slots,k b u q⟩
 free:=λb u q n _=>by rwa[ai (SI (S8 (Sr q) hp))]
 there:=λb u q _=>⟨u,k b u q⟩
 iZ:=λb xs q=>by rwa[ai (ay q hn)]
 iW:=λb u xs q=>by rwa[ai (ay q hn)]
 lM:=λb ps q=>⟨#[],by rw[ai (ay q hn),q];simp⟩
def Un.write(a:JH (H x))(g:e=x\/H e=some (.own x))(k:∀b u,b≠e->h.get? b=some u->h'.get? b=some u)(d:∃u,h'.get? e=some u):Un fs ex H (upd H x o) h h':=by
 have i:∀b,H b=none->b≠x:=λb n z=>by subst z;rwa[n]at a
 have l:∀b,H b=none->b≠e:=λb n z=>by grind
 have j:∀b u,H b=some u->¬JH (some u)->b≠x:=λb u q p z=>by subst z;rw[q]at a;exact p a
 refine⟨λb u q n _ _=>k b u (n.elim (l b) λ⟨m,f⟩ z=>by rcases g with r|r;(·rwa[<- r,<- z,f]at a);(·rw[<- z,f]at r;cases r)) q,λb u q n _ _=>⟨u.slots,k b u (l b n) q⟩,λb u q n _=>by rwa[ai (i b n)],λb u q _=>?_,
  λb m q=>by rwa[ai (j b _ q λz=>z)],λb u m q=>by rwa[ai (j b _ q λz=>z)],λb s q=>⟨#[],by rw[ai (j b _ q λz=>z),q];simp⟩⟩
 by_cases c:b=e
 .subst c;exact d
 .exact⟨u,k b u c q⟩
end
noncomputable def rK(h:Heap)(H:Hp):List Addr:=(List.range h.y).filter λa=>(H a).isSome
def rL(h:Heap)(H:Hp):Heap:=hideAll h (rK h H)
def xt(h:Heap)(H:Hp):(rL h H).y=h.y:=PySem.W.hideAll_size _ _
def rM(e:h.get? b=some o)(n:H b=none):(rL h H).get? b=some o:=PySem.W.hideAll_get _ e λa=>by have q:(H b).isSome=true:=(SJ.mp a).2;rw[n]at q;simp at q
def CO(e:(rL h H).get? b=some o):h.get? b=some o/\H b=none:=by
 have a:h.get? b=some o:=Ws (rK h H) e;refine⟨a,?_⟩;cases q:H b with
 |none=>rfl
 |some x=>have c:b∈rK h H:=SJ.mpr ⟨SZ.mpr (Sr a),by simp[q]⟩;have z:(rL h H).get? b=none:=PySem.W.hideAll_none (rK h H) c;rw[z]at e;cases e
noncomputable def CS(g h:Heap)(L:Addr):List (Addr×Obj):=(List.range h.y).filterMap λa=>if a=L\/(g.get? a).isSome=true then none else(h.get? a).map λo=>(a,o)
def rest(g h:Heap)(L d:Addr):List (Addr×Obj):=(CS g h L).filter λp=>decide (p.1≠d)
noncomputable def Qj:WM->V
 |.str x _=>.str x
 |.ref a=>.ref a
 |_=>.cj
def GB(o:Obj):Option (Addr×List V):=match o.cls with
 |.type n=>if n=="kt" then(match o.data with
  |.seq b _=>(match b.toList with
   |.ref a::r=>some (a,r.map Qj)
   |_=>none)
  |_=>none)else none
 |_=>none
def Nr(K:WK)(H:Hp):Prop:=∀p∈K,∀a b,GB p.2=some (a,b)->H a=some (.tup b)
structure Mod(K:WK) (c:Str->Option WM) (a:Heap):Prop where
 Js:K.In a
 glob:a.Ns mainGlobals c
 blt:∃b,a.Ns builtinsNs b/\∀x:Str,x≠"__name__"->b x=bootBuiltins x
 nolimit:a.NoLimit
structure Cx where
 prog:WL
 w:World
 K:WK
 mg:Str->Option WM
 base:Heap
 A:WN
 N:List Str
 s₀:WJ
 H₀:Hp
 env:Env
 outer:List Env
 stack:List Env
 ex:List Addr
 fn:Str->Bool
 calm:Bool
 pn:List (Addr×Obj)
 xe:WM->WJ->Prop
abbrev wX(X:Cx){a:Type}(m:Sem a):(a->WJ->Prop)->(WM->WJ->Prop)->WJ->Prop:=wpAny (model X.prog X.w) X.A m
abbrev sE(X:Cx)(e:Expr)(a:List Expr):Prop:=starEach (e::a) X.env=(false,eval e X.env)::starEach a X.env
abbrev bT(X:Cx)(p:Pos)(a:List Expr):Prop:=(backTo p (starEach a X.env)).any (·.1)=false
abbrev dB(x:Str):Prop:=(x==("__debug__" : Str))=false
noncomputable def h_(l:List Env):List Addr:=l.filterMap (·.frame)
abbrev Cx.fs(X:Cx):List Addr:=h_ X.outer
def Nt(a:Scope)(x:Str):Prop:=a.names.lookup x=some .local\/a.names.lookup x=some .cell\/a.names.lookup x=some .free
def GC(a:Scope)(x:Str):Prop:=a.names.lookup x=some .local\/a.names.lookup x=some .cell
def Nu(a:Env)(h:Heap)(m:Str->Option WM)(x:Str)(u:WM):Prop:=(a.kindOf x=some .local/\m x=some u)\/((a.kindOf x=some .cell\/a.kindOf x=some .free)/\∃c,a.cells.lookup x=some c/\h.IsCell c (some u))
structure Cx.Ok(X:Cx):Prop where
 mod:Mod X.K X.mg X.base
 kind:X.env.scope.kind=.function
 glob:X.env.globals=mainGlobals
 blt:X.env.builtins=builtinsNs
 above:X.s₀.z<=X.env.locals
 inj:∀x y c,X.env.cells.lookup x=some c->X.env.cells.lookup y=some c->x=y
 has:∀x,(X.env.kindOf x=some .cell\/X.env.kindOf x=some .free)->∃c,X.env.cells.lookup x=some c
 Jt:∀x c,X.fn x=true->X.env.cells.lookup x=some c->X.s₀.z<=c
 hd:X.calm=true->X.A.handled=none
 frames:X.A.frames=some X.stack
 aO:X.stack=X.outer\/(X.stack=X.env::X.outer/\X.env.frame=some X.env.locals)
 Ng:∀b∈X.ex,b≠X.env.locals/\∀x c,X.env.cells.lookup x=some c->c≠b
 bs:∀b o,X.base.get? b=some o->X.s₀.heap.get? b=some o/\X.H₀ b=none
 Cp:X.base.y<=X.s₀.z
 vG:∀b o,X.base.get? b=some o->b∉X.ex
 yQ:∀b∈X.ex,b∉X.fs
 km:X.s₀.heap.FunFrames X.base X.outer
 Fj:∀b∈X.fs,X.H₀ b=none
 kt:Nr X.K X.H₀
structure Inv(X:Cx) (b:List (Addr×Obj)) (a:List (Option V)) (H:Hp) (s:WJ):Prop where
 ok:X.Ok
 os:s.os=X.s₀.os
 bare:AllBare s.gens
 base:Un X.fs X.ex X.H₀ H X.s₀.heap s.heap
 loc:∃m,s.heap.Ns X.env.locals m/\∀(i:Nat)(x:Str)(v:V),X.N[i]?=some x->a[i]?=some (some v)->Nt X.env.scope x->∃u,RelV v u/\Nu X.env s.heap m x u
 cell:∀x c,X.env.cells.lookup x=some c->∃v,s.heap.IsCell c v
 free:H X.env.locals=none
 fJ:∀x c,X.env.cells.lookup x=some c->H c=none
 pin:∀p∈X.pn++b,s.heap.get? p.1=some p.2/\H p.1=none/\p.1≠X.env.locals/\p.1∉X.fs/\∀v,p.2.data≠.cell v
 aS:HOk X.prog X.w H s.heap
 len:a.length=X.N.length
section
variable{X:Cx}{w:List (Addr×Obj)}{σ:List (Option V)}{H H':Hp}{s:WJ}
def Cx.Ok.Ph(ok:X.Ok)(e:X.base.get? b=some o):b∉X.fs:=λa=>by have:=(ok.km.mem a).1;rw[e]at this;cases this
theorem Inv.bs(I:Inv X w σ H s):∀b o,X.base.get? b=some o->s.heap.get? b=some o/\H b=none:=λb o e=>⟨I.base.keep b o (I.ok.bs b o e).1 (.inl (I.ok.bs b o e).2) (I.ok.Ph e) (I.ok.vG b o e),I.base.free b o (I.ok.bs b o e).1 (I.ok.bs b o e).2 (I.ok.vG b o e)⟩
theorem Inv.kt(I:Inv X w σ H s):Nr X.K H:=λp b a c e=>I.base.iZ a c (I.ok.kt p b a c e)
def Inv.bk(I:Inv X w σ H s):∀b o,X.base.get? b=some o->s.heap.get? b=some o:=λb o e=>(I.bs b o e).1
theorem Inv.mod(I:Inv X w σ H s):Mod X.K X.mg X.base:=I.ok.mod
def Inv.jN(I:Inv X w σ H s):X.K.In s.heap:=I.ok.mod.Js.keeps I.bk
theorem Inv.lt(I:Inv X w σ H s):X.env.locals<s.z:=let ⟨_,a,_⟩:=I.loc;a.lt
def Inv.sz(I:Inv X w σ H s):X.s₀.z<=s.z:=SE I.ok.above (TY I.lt)
def Inv.Pf(I:Inv X w σ H s)(h:s.z<=a):a∉X.fs:=λc=>by obtain⟨_,o,b,_⟩:=I.ok.km.mem c;exact absurd (S8 (Sr b) (SE I.sz h)) (U1 _)
def Inv.Jf(I:Inv X w σ H s):∀x c,X.env.cells.lookup x=some c->c≠X.env.locals:=λx c e z=>by obtain⟨v,o,d,hd⟩:=I.cell x c e;obtain⟨m,⟨f,g,h,a,b,_⟩,_⟩:=I.loc;rw[z,a]at d;cases d;rw[b]at hd;cases hd
theorem Inv.km(I:Inv X w σ H s):s.heap.FunFrames X.base X.outer:=by
 have all:∀(l:List Env),(∀b∈h_ l,b∈X.fs)->X.s₀.heap.FunFrames X.base l->s.heap.FunFrames X.base l:=by
  intro l;induction l with
  |nil=>intro _ _;trivial
  |cons p r d=>rintro n⟨g,⟨L,o,a,h,i,hd⟩,j⟩;have c:L∈X.fs:=n L (by unfold h_;rw[U2,a];exact Sa);obtain⟨k,e⟩:=I.base.slot L o i (I.ok.Fj L c) c λz=>I.ok.yQ L z c;exact⟨g,⟨L,_,a,h,e,hd⟩,d (λb m=>n b (by unfold h_;rw[U2,a];exact Sf _ m)) j⟩
 exact all X.outer (λ_ m=>m) I.ok.km
theorem Inv.stack(I:Inv X w σ H s):s.heap.FunFrames X.base X.stack:=by
 rcases I.ok.aO with e|⟨e,a⟩
 .rw[e];exact I.km
 .rw[e];obtain⟨m,b,_⟩:=I.loc;refine .cons (by rw[I.ok.kind];decide) a b ?_ I.km;exact Heap.get?_none_of_le (SE I.ok.Cp I.ok.above)
def Inv.oj(I:Inv X w σ H s):∀b∈h_ X.stack,b∈X.env.locals::X.fs:=λb c=>by
 rcases I.ok.aO with e|⟨e,a⟩
 .rw[e]at c;exact Sf _ c
 .rw[e]at c;unfold h_ at c;rwa[U2,a]at c
def Inv.rp(I:Inv X w σ H s):∀b∈h_ X.stack,H b=none:=λb hb=>by
 rcases Sq.mp (I.oj b hb)with e|hb
 .rw[e];exact I.free
 .obtain⟨_,o,a,_⟩:=I.ok.km.mem hb;exact I.base.free b o a (I.ok.Fj b hb) λz=>I.ok.yQ b z hb
theorem Inv.step{d':Drawn}{ch:List Addr}(I:Inv X w σ H s)
 (f:∀b∈ch,(b∈X.ex\/X.s₀.z<=b)/\b≠X.env.locals/\(∀x c,X.env.cells.lookup x=some c->c≠b)/\∀p∈X.pn++w,p.1≠b)
 (keep:∀b o,b≠X.env.locals->b∉X.fs->b∉ch->s.heap.get? b=some o->Qt H b->h'.get? b=some o)
 (slot:∀b o,b≠X.env.locals->b∈X.fs->b∉ch->s.heap.get? b=some o->H b=none->∃B,h'.get? b=some {o with slots:=B}) (N:∀b o,b∉ch->s.heap.get? b=some o->H b=none->H' b=none)
 (Q:∀b o,b∉ch->s.heap.get? b=some o->∃y,h'.get? b=some y)
 (W:∀b O,H b=some (.tup O)->H' b=some (.tup O)) (Y:∀b o u,H b=some (.bv o u)->H' b=some (.bv o u)) (lM:∀b T,H b=some (.rG T)->∃S,H' b=some (.rG (T++S)))
 (Z:∀m,s.heap.Ns X.env.locals m->h'.Ns X.env.locals m) (aS:HOk X.prog X.w H' h') (G:AllBare g') :
 Inv X w σ H' {s with heap:=h',gens:=g',drawn:=d',toks:=t'}:=by
 have A:∀b o,X.s₀.heap.get? b=some o->b≠X.env.locals:=λb o e=>SI (S8 (Sr e) I.ok.above);have j:∀b o,X.s₀.heap.get? b=some o->b∉X.ex->b∉ch:=λb o e a R=>by
  rcases(f b R).1 with z|z
  .exact a z
  .exact absurd (S8 (Sr e) z) (U1 _)
 have g:∀x c,X.env.cells.lookup x=some c->∀v,s.heap.IsCell c v->h'.IsCell c v:=λx c e v ⟨o,t,hd⟩=>by
  have h:c∉ch:=λz=>(f c z).2.2.1 x c e rfl;by_cases D:c∈X.fs
  .obtain⟨B,q⟩:=slot c o (I.Jf x c e) D h t (I.fJ x c e);exact⟨_,q,hd⟩
  .exact⟨o,keep c o (I.Jf x c e) D h t (.inl (I.fJ x c e)),hd⟩
 refine⟨I.ok,I.os,G,⟨λb o e n R a=>?_,λb o e n R a=>?_,λb o e n a=>?_,λb o e a=>?_,λb O e=>W b O (I.base.iZ b O e),λb o O e=>Y b o O (I.base.iW b o O e),λb T e=>?_⟩,?_,λx c e=>?_,?_,λx c e=>?_,λp E=>?_,aS,I.len⟩
 .exact keep b o (A b o e) R (j b o e a) (I.base.keep b o e n R a) (n.imp (λn=>I.base.free b o e n a) λ⟨O,q⟩=>⟨O,I.base.iZ b O q⟩)
 .obtain⟨B,P⟩:=I.base.slot b o e n R a;obtain⟨C,U⟩:=slot b _ (A b o e) R (j b o e a) P (I.base.free b o e n a);exact⟨C,U⟩
 .obtain⟨y,P⟩:=I.base.there b o e a;exact N b y (j b o e a) P (I.base.free b o e n a)
 .obtain⟨y,P⟩:=I.base.there b o e a;exact Q b y (j b o e a) P
 .obtain⟨M,P⟩:=I.base.lM b T e
  grind
 .obtain⟨m,J,K⟩:=I.loc;refine⟨m,Z m J,λi x v P U L=>?_⟩;obtain⟨u,r,l⟩:=K i x v P U L;refine⟨u,r,?_⟩;rcases l with l|⟨k,c,e,z⟩
  .exact .inl l
  .exact .inr ⟨k,c,e,g x c e _ z⟩
 .obtain⟨v,z⟩:=I.cell x c e;exact⟨v,g x c e v z⟩
 .obtain⟨m,⟨o,_,_,t,_⟩,_⟩:=I.loc;exact N _ o (λz=>(f _ z).2.1 rfl) t I.free
 .obtain⟨v,o,t,hd⟩:=I.cell x c e;exact N c o (λz=>(f c z).2.2.1 x c e rfl) t (I.fJ x c e)
 .obtain⟨e,n,V,F,d⟩:=I.pin p E;have h:p.1∉ch:=λz=>(f p.1 z).2.2.2 p E rfl;exact⟨keep p.1 p.2 V F h e (.inl n),N p.1 p.2 h e n,V,F,d⟩
theorem Inv.un{t':Nat}(I:Inv X w σ H s)(u:Un X.fs [] H H' s.heap h')(p:HOk X.prog X.w H' h'):Inv X w σ H' {s with heap:=h',toks:=t'}:=by obtain⟨m,⟨o,t,v,f,r⟩,_⟩:=id I.loc;obtain⟨i,g⟩:=u.any f I.free (by simp);exact I.step (g':=s.gens) (d':=s.drawn) (ch:=[]) (λ_ z=>nomatch z) (λb o _ l _ e n=>u.keep b o e n l (by simp)) (λb o _ l _ e n=>u.slot b o e n l (by simp)) (λb o _ e n=>u.free b o e n (by simp)) (λb o _ e=>u.there b o e (by simp)) u.iZ u.iW u.lM (λj q=>by obtain⟨k,c,d,a,h⟩:=q;rw[f]at a;cases a;exact⟨_,c,d,g,h⟩) p I.bare
theorem Inv.call{d':Drawn}{ch:List Addr}(I:Inv X w σ H s)(u:Un (h_ X.stack) ch H H' s.heap h')(y:HOk X.prog X.w H' h')(k:AllBare g')
 (d:∀b∈ch,(b∈X.ex\/X.s₀.z<=b)/\b≠X.env.locals/\(∀x c,X.env.cells.lookup x=some c->c≠b)/\∀p∈X.pn++w,p.1≠b) :
 Inv X w σ H' {s with heap:=h',gens:=g',drawn:=d',toks:=t'}:=by
 obtain⟨m,⟨o,C,D,j,r⟩,_⟩:=id I.loc;obtain⟨q,g⟩:=u.any j I.free λz=>(d _ z).2.1 rfl;exact I.step (ch:=ch) d (λb o g A a e n=>u.keep b o e n (λz=>(Sq.mp (I.oj b z)).elim g A) a) (λb o _ _ a e n=>u.any e n a) (λb o a e n=>u.free b o e n a) (λb o a e=>u.there b o e a) u.iZ u.iW u.lM (λt B=>by obtain⟨v,h,i,f,l⟩:=B;rw[j]at f;cases f;exact⟨_,h,i,g,l⟩) y k
theorem Inv.turned{it:Addr}(I:Inv X w σ H s)(k:∀b o,b≠it->s.heap.get? b=some o->h'.get? b=some o)(g:H it=none)(f:it≠X.env.locals)
 (h1:it∈X.ex\/X.s₀.z<=it) (i:∀x c,X.env.cells.lookup x=some c->c≠it) (j:∀p∈X.pn++w,p.1≠it):Inv X w σ H {s with heap:=h',toks:=t'}:=by
 have d:∀b u,H b=some u->b≠it:=λb u e z=>by rw[z,g]at e;cases e
 refine I.step (g':=s.gens) (d':=s.drawn) (ch:=[it]) (λb l=>?_) (λb o _ _ a e _=>k b o (λz=>a (by simp[z])) e) (λb o _ _ a e _=>⟨o.slots,k b o (λz=>a (by simp[z])) e⟩) (λ_ _ _ _ n=>n)
  (λb o a e=>⟨o,k b o (λz=>a (by simp[z])) e⟩) (λ_ _ e=>e) (λ_ _ _ e=>e) (λb A e=>⟨#[],by rw[e];simp⟩) (λm t=>?_) (λb u e=>?_) I.bare
 .have e:b=it:=by simpa using l
  subst e;exact⟨h1,f,i,j⟩
 .obtain⟨o,B,y,h,r⟩:=t;exact⟨o,B,y,k _ o (Tp f) h,r⟩
 .refine(I.aS b u e).stay (λc v a q=>k c v ?_ q) (λ_ q=>q) λ_ _ q=>q;rcases a with z|z
  .rw[z];exact d b u e
  .exact d c _ z
def Inv.tok(I:Inv X w σ H s)(t:Nat):Inv X w σ H {s with toks:=t}:=I.un (h':=s.heap) (t':=t) Un.refl I.aS
theorem Inv.kept(I:Inv X w σ H s)(k:∀b u,s.heap.get? b=some u->h'.get? b=some u):Inv X w σ H {s with heap:=h',toks:=t'}:=I.un (Un.kept k) (I.aS.kept k)
theorem Inv.laid(I:Inv X w σ H s)(k:∀b u,s.heap.get? b=some u->h'.get? b=some u)(c:s.z<=a)(new:ObjOk X.prog X.w (upd H a o) h' a o) :
 Inv X w σ (upd H a o) {s with heap:=h',toks:=t'}:=I.un (Un.laid k c (I.aS.fresh c)) (I.aS.laid k c new)
theorem Inv.write(I:Inv X w σ H s)(c:JH (H x))(d:e=x\/H e=some (.own x))(k:∀b u,b≠e->s.heap.get? b=some u->h'.get? b=some u)(a:∃u,h'.get? e=some u)
 (new:ObjOk X.prog X.w (upd H x o) h' x o):Inv X w σ (upd H x o) {s with heap:=h',toks:=t'}:=I.un (Un.write c d k a) (I.aS.write c d k a new)
def Inv.xj(I:Inv X w σ H s)(h:∀p∈pins',s.heap.get? p.1=some p.2/\H p.1=none/\p.1≠X.env.locals/\p.1∉X.fs/\∀v,p.2.data≠.cell v):Inv X pins' σ H s:=⟨I.ok,I.os,I.bare,I.base,I.loc,I.cell,I.free,I.fJ,λp a=>(Sk.mp a).elim (λz=>I.pin p (SH _ z)) (h p),I.aS,I.len⟩
def rN{N:List Str}(c:N.Nodup){i j:Nat}{x:Str}(a:N[i]?=some x)(b:N[j]?=some x):i=j:=by obtain⟨h1,d⟩:=Si.mp a;obtain⟨f,e⟩:=Si.mp b;exact(List.getElem_inj c).mp (d.trans e.symm)
def oX{E:WM->WJ->Prop}{x:Str}{v:V}{u:WM}{Q:Unit->WJ->Prop}(I:Inv X w σ H s)(hN:X.N.Nodup)(D:X.N[i]?=some x)(g:GC X.env.scope x)(r:RelV v u)
 (h:∀L,Inv X w (σ.set i (some v)) H L->(∃a,Heap.SameBut a s.heap L.heap/\(a=X.env.locals\/X.env.cells.lookup x=some a))->Q () L) (hf:autoParam (X.fn x=true\/X.env.scope.names.lookup x=some .local) ae):wpAny M A (storeName X.env x u) Q E s:=by
 obtain⟨m,O,hl⟩:=id I.loc;have F:(X.env.scope.kind==.class ||(X.env.scope.kind==.module&&X.env.locals != X.env.globals))=false:=by rw[I.ok.kind];rfl
 have t:i<σ.length:=by rw[I.len];exact(Si.mp D).1
 have Jf:=I.Jf;have f:∀{a:Addr}{h':Heap},(∃o,s.heap.get? a=some o/\H a=none)->Heap.SameBut a s.heap h'->HOk X.prog X.w H h':=λ{a h'} ha hs b ob e=>by
  obtain⟨_,_,P⟩:=ha;refine(I.aS b ob e).stay (λc R l q=>(hs.2 c ?_).trans q) (λ_ q=>q) λ_ _ q=>q
  grind
 rcases g with hk|hk
 .refine wpAny_storeName_local hk O (λh' S hs=>?_) F;obtain⟨oL,_,_,T,_⟩:=id O;refine h _ ⟨I.ok,I.os,I.bare,⟨λb o e n hb g=>?_,λb o e n hb g=>?_,I.base.free,λb o e g=>?_,I.base.iZ,I.base.iW,I.base.lM⟩,⟨_,S,λj y U e1 e2 W=>?_⟩,λy c e=>?_,I.free,I.fJ,λp Y=>?_,f ⟨oL,T,I.free⟩ hs,by simpa using I.len⟩ ⟨_,hs,.inl rfl⟩
  .exact(hs.2 b (SI (S8 (Sr e) I.ok.above))).trans (I.base.keep b o e n hb g)
  .obtain⟨Z,e1⟩:=I.base.slot b o e n hb g;exact⟨Z,(hs.2 b (SI (S8 (Sr e) I.ok.above))).trans e1⟩
  .obtain⟨o',e1⟩:=I.base.there b o e g;exact⟨o',(hs.2 b (SI (S8 (Sr e) I.ok.above))).trans e1⟩
  .by_cases B:j=i
   .subst B;rw[D]at e1;cases e1;rw[List.getElem?_set_self t]at e2;cases e2;exact⟨u,r,.inl ⟨hk,by simp⟩⟩
   .rw[List.getElem?_set_ne (Tp B)]at e2;obtain⟨u',r',q⟩:=hl j y U e1 e2 W;refine⟨u',r',?_⟩;rcases q with⟨k,e⟩|⟨k,c,e,z⟩
    .refine .inl ⟨k,?_⟩;have:y≠x:=λe=>B (rN hN e1 (e▸D));simp[this,e]
    .exact .inr ⟨k,c,e,z.sameBut hs (Jf y c e)⟩
  .obtain⟨R,z⟩:=I.cell y c e;exact⟨R,z.sameBut hs (Jf y c e)⟩
  .obtain⟨e,n,ne,nf,d⟩:=I.pin p Y;exact⟨(hs.2 p.1 ne).trans e,n,ne,nf,d⟩
 .have C:X.fn x=true:=by
   rcases hf with z|z
   .exact z
   .rw[z]at hk;cases hk
  obtain⟨c,l⟩:=I.ok.has x (.inl hk);obtain⟨R,z⟩:=I.cell x c l;refine wpAny_storeName_cell I.ok.kind hk l z (λh' G hs=>?_);obtain⟨oc,hoc,hocd⟩:=id z;refine h {s with heap:=h'} ⟨I.ok,I.os,I.bare,⟨λb o e n hb g=>?_,λb o e n hb g=>?_,I.base.free,λb o e g=>?_,I.base.iZ,I.base.iW,I.base.lM⟩,⟨m,O.sameBut hs (Tp (Jf x c l)),λj y U e1 e2 W=>?_⟩,λy K e=>?_,I.free,I.fJ,λp Y=>?_,f ⟨oc,hoc,I.fJ x c l⟩ hs,by simpa using I.len⟩ ⟨c,hs,.inr l⟩
  .exact(hs.2 b (SI (S8 (Sr e) (I.ok.Jt x c C l)))).trans (I.base.keep b o e n hb g)
  .obtain⟨Z,e1⟩:=I.base.slot b o e n hb g;exact⟨Z,(hs.2 b (SI (S8 (Sr e) (I.ok.Jt x c C l)))).trans e1⟩
  .obtain⟨o',e1⟩:=I.base.there b o e g;exact⟨o',(hs.2 b (SI (S8 (Sr e) (I.ok.Jt x c C l)))).trans e1⟩
  .by_cases B:j=i
   .subst B;rw[D]at e1;cases e1;rw[List.getElem?_set_self t]at e2;cases e2;exact⟨u,r,.inr ⟨.inl hk,c,l,G⟩⟩
   .rw[List.getElem?_set_ne (Tp B)]at e2;obtain⟨u',r',q⟩:=hl j y U e1 e2 W;refine⟨u',r',?_⟩;rcases q with q|⟨k,K,e,z'⟩
    .exact .inl q
    .refine .inr ⟨k,K,e,z'.sameBut hs ?_⟩;rintro rfl;exact B (rN hN e1 (I.ok.inj _ _ _ e l▸D))
  .by_cases J:K=c
   .subst J;exact⟨_,G⟩
   .obtain⟨w2,z2⟩:=I.cell y K e;exact⟨w2,z2.sameBut hs J⟩
  .obtain⟨e,n,ne,nf,d⟩:=I.pin p Y;refine⟨(hs.2 p.1 ?_).trans e,n,ne,nf,d⟩
   grind
def mn(I:Inv X w σ H s)(b:X.N.Nodup)(c:X.N[i]?=some x)(d:GC X.env.scope x)(r:RelV v u)
 (h:∀a,Inv X w (σ.set i (some v)) H a->Q () a) (e:autoParam (X.fn x=true\/X.env.scope.names.lookup x=some .local) ae):wpAny M A (storeName X.env x u) Q E s:=
 oX I b c d r (λa f _=>h a f) e
def Inv.Gp(I:Inv X w σ H s)(d:s'.os=s.os)(u:Un (h_ X.stack) ch H H' s.heap s'.heap)(h:HOk X.prog X.w H' s'.heap)(f:AllBare s'.gens)
 (a:∀b∈ch,(b∈X.ex\/X.s₀.z<=b)/\b≠X.env.locals/\(∀x c,X.env.cells.lookup x=some c->c≠b)/\∀p∈X.pn++w,p.1≠b):Inv X w σ H' s':=by
 obtain⟨i,g',d',t',g⟩:=s';have e:g=s.os:=d;subst e;exact I.call (g':=g') (t':=t') (d':=d') u h f a
end
abbrev XK:=WM->Option Addr->Hp->Prop
noncomputable abbrev St:=List (Option V)
abbrev VK:=V->Hp->Prop
abbrev TE:=St->Hp->VK->Prop
abbrev TT:=St->Hp->(Bool->Hp->Prop)->Prop
abbrev TA:=St->Hp->(List V->Hp->Prop)->Prop
structure Ends where
 nx:St->Hp->Prop
 rt:VK
 bk:St->Hp->Prop:=λ_ _=>False
 ct:St->Hp->Prop:=λ_ _=>False
abbrev TS:=Ends->St->Hp->Prop
def EP(X:Cx)(c:List (Addr×Obj))(d:St)(Q:VK)(u:WM)(a:WJ):Prop:=∃v b,Inv X c d b a/\RelV v u/\Q v b
def TP(X:Cx)(d:List (Addr×Obj))(e:St)(Q:Bool->Hp->Prop)(b:Bool)(a:WJ):Prop:=∃c,Inv X d e c a/\Q b c
def AP(X:Cx)(d:List (Addr×Obj))(e:St)(Q:List V->Hp->Prop)(f:List WM)(a:WJ):Prop:=∃b c,Inv X d e c a/\Vals b f/\Q b c
def SP(X:Cx)(d:List (Addr×Obj))(D:Ends)(f:Flow)(b:WJ):Prop:=
 match f with
 |.next=>∃a c,Inv X d a c b/\D.nx a c
 |.brk=>∃a c,Inv X d a c b/\D.bk a c
 |.cont=>∃a c,Inv X d a c b/\D.ct a c
 |.ret u=>∃v a c,Inv X d a c b/\RelV v u/\D.rt v c
def PE(X:Cx)(e:Expr)(t:TE):Prop:=∀(b:List (Addr×Obj))(s:WJ)(a:St)(H:Hp)(Q:VK),Inv X b a H s->t a H Q->wpAny (model X.prog X.w) X.A (eval e X.env) (EP X b a Q) X.xe s
def PT(X:Cx)(e:Expr)(t:TT):Prop:=∀(b:List (Addr×Obj))(s:WJ)(a:St)(H:Hp)(Q:Bool->Hp->Prop),Inv X b a H s->t a H Q->wpAny (model X.prog X.w) X.A (isTrue e X.env (eval e X.env)) (TP X b a Q) X.xe s
def PW(X:Cx)(e:Expr)(t:TT):Prop:=∀(a:Sem WM)(c:List (Addr×Obj))(s:WJ)(b:St)(H:Hp)(Q:Bool->Hp->Prop),Inv X c b H s->t b H Q->wpAny (model X.prog X.w) X.A (isTrue e X.env a) (TP X c b Q) X.xe s
def PW.pt(h:PW X e t):PT X e t:=h _
def PA(X:Cx)(d:List Expr)(t:TA):Prop:=∀(a:Pos)(c:List (Addr×Obj))(s:WJ)(b:St)(H:Hp)(Q:List V->Hp->Prop),Inv X c b H s->t b H Q->wpAny (model X.prog X.w) X.A (spliced (backTo a (starEach d X.env))) (AP X c b Q) X.xe s
def PS(X:Cx)(st:Stmt)(t:TS):Prop:=∀(a:List (Addr×Obj))(s:WJ)(b:St)(H:Hp)(D:Ends),Inv X a b H s->t D b H->wpAny (model X.prog X.w) X.A (exec st X.env) (SP X a D) X.xe s
def PSs(X:Cx)(st:List Stmt)(t:TS):Prop:=∀(a:List (Addr×Obj))(s:WJ)(b:St)(H:Hp)(D:Ends),Inv X a b H s->t D b H->wpAny (model X.prog X.w) X.A (execs st X.env) (SP X a D) X.xe s
def bX{d:Type}{t:Sem d}{Q b:d->WJ->Prop}{M:Model}{A:WN}{E:WM->WJ->Prop}{s:WJ}(h:wpAny M A t Q E s)(c:∀a s,Q a s->b a s):wpAny M A t b E s:=Ud h c λ_ _ x=>x
section
variable{X:Cx}
noncomputable def aj(i:Nat):TE:=λa H Q=>∃v,a[i]?=some (some v)/\Q v H
noncomputable def tC(v:V):TE:=λ_ H Q=>Q v H
def GD(g:X.N[i]?=some x)(j:Nt X.env.scope x)(hd:autoParam (dB x) aa) (d:autoParam ((x==("__classdict__" : Str))=false) aa):PE X (.Name x pos) (aj i):=by
 rintro o s p H Q I⟨v,e,h⟩;obtain⟨m,k,n⟩:=I.loc;obtain⟨u,r,l⟩:=n i x v g e j;have b:EP X o p Q u s:=⟨v,H,I,r,h⟩;rcases l with⟨hk,q⟩|⟨hk,c,f,a⟩
 .exact wpAny_Name (wpAny_loadName_local I.ok.kind hk k q b) hd
 .rcases hk with hk|hk
  .exact wpAny_Name (wpAny_loadName_cell I.ok.kind hk f a b) hd
  .exact wpAny_Name (wpAny_loadName_free I.ok.kind hk f a b d) hd
def aG{i j pos}:PE X (.Constant (.int i) j pos) (tC (.int i)):=λ_ _ _ H _ I h=>wpAny_Constant_int ⟨.int i,H,I.tok _,⟨_,rfl⟩,h⟩
def k8{b j pos}:PE X (.Constant (.bool b) j pos) (tC (.bl b)):=λ_ _ _ H _ I h=>Constant_bool ⟨.bl b,H,I,rfl,h⟩
def kB{j pos}:PE X (.Constant .none j pos) (tC .cj):=λ_ _ _ H _ I h=>Constant_none ⟨.cj,H,I,rfl,h⟩
def GE{x j pos}:PE X (.Constant (.str x) j pos) (tC (.str x)):=λ_ _ _ H _ I h=>Calls.Constant_str ⟨.str x,H,I.tok _,⟨_,rfl⟩,h⟩
def Gl(X:Cx)(x:Str):Prop:=X.env.kindOf x=some .globalImplicit
def i5(I:Inv X ag σ H s)(a:Gl X x)(b:X.mg x=some u)(h:Q u s)
 (hd:autoParam (dB x) aa):wX X (eval (.Name x pos) X.env) Q E s:=
 Calls.Name_function_global I.ok.kind a (Calls.loadGlobal_global (by rw[I.ok.glob];exact I.mod.glob.keeps I.bk) b h) hd
def mo(I:Inv X ag σ H s)(a:Gl X x)(e:X.mg x=none)(b:bootBuiltins x=some u)(h:Q u s)
 (c:autoParam (x≠"__name__") aa) (hd:autoParam (dB x) aa):wX X (eval (.Name x pos) X.env) Q E s:=by
 obtain⟨d,h1,f⟩:=I.mod.blt;exact Calls.Name_function_global I.ok.kind a (Calls.loadGlobal_builtin (by rw[I.ok.glob];exact I.mod.glob.keeps I.bk) e (by rw[I.ok.blt];exact h1.keeps I.bk) ((f x c).trans b) h) hd
def vP(a:Gl X x)(d:X.mg x=none)(b:bootBuiltins x=some u)(r:RelV v u)(c:autoParam (x≠"__name__") aa) (hd:autoParam (dB x) aa):PE X (.Name x pos) (tC v):=λ_ _ _ H _ I h=>mo I a d b ⟨v,H,I,r,h⟩ c hd
variable{a b:Expr}{ta z:TE}{y:Pos}
def PC(X:Cx)(g:CmpOp)(a b:Expr)(t:TE):Prop:=
 ∀(f:List (Addr×Obj))(s:WJ)(e:St)(H:Hp)(Q:VK),Inv X f e H s->t e H Q->
  wpAny (model X.prog X.w) X.A (eval a X.env) (λv c=>wpAny (model X.prog X.w) X.A (eval b X.env) (λu d=>wpAny (model X.prog X.w) X.A (compareOp g v u) (EP X f e Q) X.xe d) X.xe c) X.xe s
theorem rO(b:Expr)(h:op≠.In)(c:op≠.NotIn):behindInMarks op b=false:=by
 have d:(op==CmpOp.In)=false:=by cases op<;>first|rfl|exact absurd rfl h
 have e:(op==CmpOp.NotIn)=false:=by cases op<;>first|rfl|exact absurd rfl c
 cases b<;>simp[behindInMarks,d,e]
noncomputable def zi(ta:TE):TE:=λc H Q=>ta c H λx d=>Q (.bl (!decide (x=.cj))) d
def RelV.Ct(r:RelV x v):(v==Value.none)=decide (x=.cj):=by
 cases x with
 |cj=>cases r;rfl
 |bl _=>cases r;rfl
 |int _=>obtain⟨t,rfl⟩:=r;rfl
 |str _=>obtain⟨t,rfl⟩:=r;rfl
 |vL _=>obtain⟨t,rfl⟩:=r;rfl
 |Gj _=>obtain⟨t,rfl⟩:=r;rfl
 |ref _=>cases r;rfl
 |ty _=>cases r;rfl
def vQ{j pos'}(e:PE X a ta):PC X .IsNot a (.Constant .none j pos') (zi ta):=by intro f s g H Q I h;refine bX (e f s g H _ I h) λv l ⟨x,i,c,d,k⟩=>?_;exact Constant_none (isnot_none_gen ⟨.bl _,i,c,by rw[d.Ct];rfl,k⟩)
noncomputable def tB(t:TE):TT:=λd H Q=>t d H λx e=>∃c,x=.bl c/\Q c e
theorem GF(h:PC X op a b t)(h1:behindInMarks op b=false:=by first|exact rO _ (by decide) (by decide)|rfl):PE X (.Compare a [op] [b] y) t:=λd s e H Q I c=>wpAny_Compare1 (h d s e H Q I c) h1
theorem GG(h:PC X op a b t)(h1:behindInMarks op b=false:=by first|exact rO _ (by decide) (by decide)|rfl):PT X (.Compare a [op] [b] y) (tB t):=by intro j s k H Q I e;refine wpAny_isTrue_Compare1 (bX (h j s k H _ I e) λv o h1=>bX h1 λu p l=>bX l λc i ⟨x,m,f,g,n⟩=>?_) h1;obtain⟨d,rfl,q⟩:=n;cases g;exact UD ⟨m,f,q⟩
def kC(h:PE X e t)(f:autoParam (∀c,isTrue e X.env c=(do let v <- c;standAt e.pos;holding [v] (truthy v))) af):PT X e (tB t):=by intro k s l H Q I g;refine isTrue_plain (bX (h k s l H _ I g) λv o ⟨x,m,i,j,n⟩=>?_) (f _);obtain⟨d,rfl,q⟩:=n;cases j;exact UD ⟨m,i,q⟩
variable{n o:TT}{rest:List Expr}
noncomputable def GH(t u:TT):TT:=λd H Q=>t d H λc e=>if c=true then u d e Q else Q false e
noncomputable def JI(t u:TT):TT:=λd H Q=>t d H λc e=>if c=true then Q true e else u d e Q
noncomputable def ul(t:TT):TT:=λd H Q=>t d H λc e=>Q (!c) e
def vR(f:PT X a n):PW X (.BoolOp .And [a] y) n:=by
 intro d g s i H Q I h;refine isTrue_and (bX (f g s i H Q I h) λc j e=>?_);cases c with
 |true=>exact isTrue_and_nil e
 |false=>exact e
def mq(f:PT X a n):PW X (.BoolOp .Or [a] y) n:=by
 intro d g s i H Q I h;refine isTrue_or (bX (f g s i H Q I h) λc j e=>?_);cases c with
 |false=>exact isTrue_or_nil e
 |true=>exact e
theorem zj(k:PT X a n)(l:PW X (.BoolOp .And (b::rest) y) o):PW X (.BoolOp .And (a::b::rest) y) (GH n o):=by
 intro e f s g H Q I h;refine isTrue_and (bX (k f s g H _ I h) λc m ⟨i,d,j⟩=>?_);cases c with
 |true=>exact l e f m g i Q d j
 |false=>exact⟨i,d,j⟩
theorem rP(k:PT X a n)(l:PW X (.BoolOp .Or (b::rest) y) o):PW X (.BoolOp .Or (a::b::rest) y) (JI n o):=by
 intro e f s g H Q I h;refine isTrue_or (bX (k f s g H _ I h) λc m ⟨i,d,j⟩=>?_);cases c with
 |true=>exact⟨i,d,j⟩
 |false=>exact l e f m g i Q d j
def kD(d:PT X a n):PT X (.UnaryOp .Not a y) (ul n):=by intro e s f H Q I h;exact isTrue_not (d e s f H (λc g=>Q (!c) g) I h)
noncomputable def rQ(ta z:TE):TE:=λd H Q=>ta d H λx e=>∃c,x=.bl c/\if c=true then z d e Q else Q (.bl false) e
noncomputable def JS(ta z:TE):TE:=λd H Q=>ta d H λx e=>∃c,x=.bl c/\if c=true then Q (.bl true) e else z d e Q
noncomputable def zk(ta:TE):TE:=λd H Q=>ta d H λx e=>∃c,x=.bl c/\Q (.bl (!c)) e
def mr{op}(h:PE X a t):PE X (.BoolOp op [a] y) t:=λd s e H Q I c=>BoolOp_one (h d s e H Q I c)
theorem pV(k:PE X a ta)(l:PE X (.BoolOp .And (b::rest) y) z):PE X (.BoolOp .And (a::b::rest) y) (rQ ta z):=by
 intro g s i H Q I h;refine BoolOp_and (bX (k g s i H _ I h) λv m ⟨x,j,d,e,f⟩=>?_);obtain⟨c,rfl,f⟩:=f;cases e;refine UD ?_;cases c with
 |true=>exact l g m i j Q d f
 |false=>exact⟨.bl false,j,d,rfl,f⟩
theorem JT(k:PE X a ta)(l:PE X (.BoolOp .Or (b::rest) y) z):PE X (.BoolOp .Or (a::b::rest) y) (JS ta z):=by
 intro g s i H Q I h;refine BoolOp_or (bX (k g s i H _ I h) λv m ⟨x,j,d,e,f⟩=>?_);obtain⟨c,rfl,f⟩:=f;cases e;refine UD ?_;cases c with
 |false=>exact l g m i j Q d f
 |true=>exact⟨.bl true,j,d,rfl,f⟩
def zn(g:PE X a ta):PE X (.UnaryOp .Not a y) (zk ta):=by intro i s j H Q I h;refine UnaryOp_ (bX (g i s j H _ I h) λv l ⟨x,k,d,e,f⟩=>?_);obtain⟨c,rfl,f⟩:=f;cases e;exact not_of (UD ⟨.bl (!c),k,d,rfl,f⟩)
end
def SqL(K:WK)(H:Hp)(a:Addr)(c:List V):Prop:=
 Rd H a (.lst c)\/
  ∃(o:Obj)(b:Array WM)(n:Nat),K.lookup a=some o/\o.cls=.type "list"/\o.dict=none/\o.data=.seq b n/\b.size<=sizeLine/\Vals c b.toList
def SqT(K:WK)(H:Hp)(a:Addr)(c:List V):Prop:=
 Rd H a (.tup c)\/
  ∃(o:Obj)(b:Array WM)(n:Nat),K.lookup a=some o/\o.cls=.type "tuple"/\o.data=.seq b n/\b.size<=sizeLine/\Vals c b.toList
noncomputable def Nv:WM->Option V
 |.none=>some .cj
 |.bool b=>some (.bl b)
 |.int i _=>some (.int i)
 |.str x _=>some (.str x)
 |.bytes b _=>some (.vL b)
 |.float b _=>some (.Gj b)
 |.ref a=>some (.ref a)
 |.type n=>some (.ty n)
 |_=>none
def RelV.abs(r:RelV x u):Nv u=some x:=by
 cases x with
 |cj=>cases r;rfl
 |bl _=>cases r;rfl
 |int _=>obtain⟨t,rfl⟩:=r;rfl
 |str _=>obtain⟨t,rfl⟩:=r;rfl
 |vL _=>obtain⟨t,rfl⟩:=r;rfl
 |Gj _=>obtain⟨t,rfl⟩:=r;rfl
 |ref _=>cases r;rfl
 |ty _=>cases r;rfl
def RelV.inj(r:RelV x u)(q:RelV y u):x=y:=Th (r.abs.symm.trans q.abs)
theorem Vals.inj{d a:List V}{e:List WM}(h:Vals d e)(k:Vals a e):d=a:=by
 induction h generalizing a with
 |nil=>cases k;rfl
 |cons r _ b=>
  cases k with
  |cons c f=>rw[r.inj c,b f]
section
def SqL.of{K:WK}(h:H a=some (.lst xs)):SqL K H a xs:=.inl (.inl h)
def SqT.of{K:WK}(h:H a=some (.tup xs)):SqT K H a xs:=.inl (.inl h)
def Inv.list(I:Inv X ag σ H s)(h:SqL X.K H a xs):∃d:List WM,Vals xs d/\PlainL s.heap a d.toArray/\xs.length<=sizeLine:=by
 rcases h with h|⟨o,d,n,b,c,hd,f,g,r⟩
 .obtain⟨z,d,n,r,e⟩:=h.ok I.aS;exact⟨d,r,⟨_,n,e,rfl,rfl,rfl⟩,z⟩
 .refine⟨d.toList,r,⟨o,n,I.jN a o b,c,hd,by simpa using f⟩,?_⟩;have e:=r.length;simp only[Tu]at e;lia
def Inv.tuple(I:Inv X ag σ H s)(h:SqT X.K H a xs):∃d:List WM,Vals xs d/\IsTup s.heap a d.toArray/\xs.length<=sizeLine:=by
 rcases h with h|⟨o,d,n,b,c,f,g,r⟩
 .obtain⟨z,d,r,p⟩:=h.ok I.aS;exact⟨d,r,p,z⟩
 .refine⟨d.toList,r,⟨o,I.jN a o b,c,n,by simpa using f⟩,?_⟩;have e:=r.length;simp only[Tu]at e;lia
def Inv.uc(I:Inv X ag σ H s)(h:SqL X.K H a xs)(l:SqL X.K H a ys):xs=ys:=by
 obtain⟨j,r,⟨o,n,e,_,_,d⟩,_⟩:=I.list h;obtain⟨i,c,⟨f,g,b,_,_,k⟩,_⟩:=I.list l;rw[e]at b;cases b;rw[d]at k;injection k with d1 _;have:j=i:=by simpa using T_ Array.toList d1
 subst this;exact r.inj c
def Inv.yV(I:Inv X ag σ H s)(h:SqT X.K H a xs)(l:SqT X.K H a ys):xs=ys:=by
 obtain⟨j,r,⟨o,e,_,n,d⟩,_⟩:=I.tuple h;obtain⟨i,c,⟨f,b,_,g,k⟩,_⟩:=I.tuple l;rw[e]at b;cases b;rw[d]at k;injection k with d1 _;have:j=i:=by simpa using T_ Array.toList d1
 subst this;exact r.inj c
end
noncomputable abbrev Cx.og(X:Cx)(E:WM->WJ->Prop):Cx:={X with xe:=E}
abbrev Cx.JQ(X:Cx):Cx:=X.og λ_ _=>False
theorem Cx.Ok.og{X:Cx}(ok:X.Ok)(E:WM->WJ->Prop):(X.og E).Ok:=⟨ok.mod,ok.kind,ok.glob,ok.blt,ok.above,ok.inj,ok.has,ok.Jt,ok.hd,ok.frames,ok.aO,ok.Ng,ok.bs,ok.Cp,ok.vG,ok.yQ,ok.km,ok.Fj,ok.kt⟩
def Cx.Ok.gY{X:Cx}{E:WM->WJ->Prop}(ok:(X.og E).Ok):X.Ok:=⟨ok.mod,ok.kind,ok.glob,ok.blt,ok.above,ok.inj,ok.has,ok.Jt,ok.hd,ok.frames,ok.aO,ok.Ng,ok.bs,ok.Cp,ok.vG,ok.yQ,ok.km,ok.Fj,ok.kt⟩
section
theorem Inv.og(I:Inv X ag σ H s)(E:WM->WJ->Prop):Inv (X.og E) ag σ H s:=⟨I.ok.og E,I.os,I.bare,I.base,I.loc,I.cell,I.free,I.fJ,I.pin,I.aS,I.len⟩
theorem Inv.gY(I:Inv (X.og E) ag σ H s):Inv X ag σ H s:=⟨I.ok.gY,I.os,I.bare,I.base,I.loc,I.cell,I.free,I.fJ,I.pin,I.aS,I.len⟩
theorem SP.gY(h:SP (X.og E) ag D f s'):SP X ag D f s':=by
 cases f with
 |next=>obtain⟨a,b,I,q⟩:=h;exact⟨a,b,I.gY,q⟩
 |brk=>obtain⟨a,b,I,q⟩:=h;exact⟨a,b,I.gY,q⟩
 |cont=>obtain⟨a,b,I,q⟩:=h;exact⟨a,b,I.gY,q⟩
 |ret u=>obtain⟨v,a,b,I,r,q⟩:=h;exact⟨v,a,b,I.gY,r,q⟩
theorem PSs.JQ{st:List Stmt}(h:PSs X.JQ st t):PSs X st t:=λb s c H D I a=>Ud (h b s c H D (I.og _) a) (λ_ _ q=>q.gY) λ_ _ z=>False.elim z
end
section
variable{X:Cx}{st:Stmt}{rest:List Stmt}{t u:TS}
noncomputable def ck:TS:=λD a H=>D.nx a H
noncomputable def aI(t u:TS):TS:=λD a H=>t {D with nx:=u D} a H
def bw:PSs X [] ck:=λ_ _ a H _ I h=>Vj ⟨a,H,I,h⟩
theorem ao(h1:PS X st t)(d:PSs X rest u):PSs X (st::rest) (aI t u):=by
 intro c s e H D I h;refine wpAny_execs_cons (bX (h1 c s e H {D with nx:=u D} I h) λf g q=>?_);cases f with
 |next=>obtain⟨a,i,b,q⟩:=q;exact d c g a i D b q
 |ret v=>exact q
 |brk=>exact q
 |cont=>exact q
def aB(h1:PS X st t):PSs X [st] t:=by
 intro a s b H D I h;refine wpAny_execs_cons (bX (h1 a s b H D I h) λf c q=>?_);cases f with
 |next=>exact Vj q
 |ret v=>exact q
 |brk=>exact q
 |cont=>exact q
def Inv.quiet(I:Inv X ag σ H s):interactive X.env=false:=by simp[interactive,I.ok.kind]
noncomputable def b9(b:TE):TS:=λD a H=>b a H λ_ c=>D.nx a c
def bh(a:PE X e te)(f:autoParam (swapsWith e none pos.line X.env=pure false) av):PS X (.Expr e pos) (b9 te):=by intro g s d H D I h;exact wpAny_Expr_any (bX (a g s d H _ I h) λv k ⟨x,i,b,c,j⟩=>⟨d,i,b,j⟩) I.quiet f
noncomputable def b5(a:TE):TS:=λD b H=>a b H D.rt
def aW(a:PE X e te):PS X (.Return (some e) pos) (b5 te):=by intro f s d H D I h;exact wpAny_Return_some (bX (a f s d H _ I h) λv j ⟨x,g,b,c,i⟩=>⟨x,d,g,b,c,i⟩)
noncomputable def dQ(c:TT)(t u:TS):TS:=λD a H=>c a H λb d=>if b=true then t D a d else u D a d
def cC(f:PT X c tc)(m:PSs X a t)(n:PSs X b u):PS X (.If c a b pos) (dQ tc t u):=by
 intro g s i H D I h;refine wpAny_If (bX (f g s i H _ I h) λd j ⟨k,e,l⟩=>?_);cases d with
 |true=>exact m g j i k D e l
 |false=>exact n g j i k D e l
end
abbrev TG:=V->St->Hp->(St->Hp->Prop)->Prop
abbrev JU:=List V->St->Hp->(St->Hp->Prop)->Prop
def PG(X:Cx)(a:Expr)(t:TG):Prop:=
 ∀(d:List (Addr×Obj))(s:WJ)(e:St)(H:Hp)(v:V)(u:WM)(Q:St->Hp->Prop),Inv X d e H s->RelV v u->t v e H Q->
  wpAny (model X.prog X.w) X.A (assign a X.env u) (λ_ c=>∃b f,Inv X d b f c/\Q b f) X.xe s
def MT(X:Cx)(b:List Expr)(t:JU):Prop:=
 ∀(d:List (Addr×Obj))(s:WJ)(e:St)(H:Hp)(f:List V)(g:List WM)(Q:St->Hp->Prop),Inv X d e H s->Vals f g->t f e H Q->
  wpAny (model X.prog X.w) X.A (assignInOrder ((assignEach b X.env).map (·.2)) g) (λ_ c=>∃a h,Inv X d a h c/\Q a h) X.xe s
section
noncomputable def aA(i:Nat):TG:=λv a H Q=>Q (a.set i (some v)) H
def bQ(a:X.N.Nodup)(b:X.N[i]?=some x)(c:GC X.env.scope x)(d:autoParam (X.fn x=true\/X.env.scope.names.lookup x=some .local) ae):PG X (.Name x pos) (aA i):=by intro g s j H v u Q I r h;exact wpAny_assign_Name (mn I a b c r (λf e=>⟨_,H,e,h⟩) d)
noncomputable def cZ:JU:=λa b H Q=>a=[]/\Q b H
noncomputable def aR(t:TG)(u:JU):JU:=λb c H Q=>∃v r,b=v::r/\t v c H λa d=>u r a d Q
def bY:MT X [] cZ:=by rintro b s a H c d Q I r⟨e,h⟩;subst e;cases r;exact assignInOrder_nil ⟨a,H,I,h⟩
def aQ(h1:PG X e t)(f:MT X es u)
 (g:autoParam ((assignEach (e::es) X.env).map (·.2)=assign e X.env::(assignEach es X.env).map (·.2)) av):MT X (e::es) (aR t u):=by
 rintro d s i H o p Q I r⟨v,c,j,h⟩;subst j;cases r with
 |cons r k=>rw[g];refine assignInOrder_cons (bX (h1 d s i H _ _ _ I r h) λ_ l ⟨a,m,b,n⟩=>?_);exact f d l a m _ _ Q b k n
noncomputable def c9(K:WK)(n:Nat)(t:JU):TG:=λv c H Q=>∃a b,v=.ref a/\SqT K H a b/\b.length=n/\t b c H Q
def cH(f:X.calm=true)(h:MT X es t)
 (g:autoParam ((assignEach es X.env).length=n) av) (c:autoParam ((assignEach es X.env).findIdx? (·.1)=none) av):PG X (.Tuple es k pos) (c9 X.K n t):=by
 rintro q s w H v u Q I r⟨a,y,z,i,j,d⟩;subst z;cases r;obtain⟨A,x,l,C⟩:=I.tuple i;refine assign_Tuple_tuple (I.ok.hd f) l (by simp[g,<- j,x.length]) c λB m=>?_;have p:Inv X q w H {s with heap:=B}:=I.kept (t':=s.toks) λb o e=>m b o (SI (Sr e)) e;exact h q _ w H y _ Q p (by simpa using x) d
noncomputable def aT(b:TE)(g:TG):TS:=λD a H=>b a H λx c=>g x a c D.nx
def GI(a:PE X e te)(b:PG X tg g)(k:autoParam (swapsWithSole [tg] e pos.line X.env=pure false) av)(c:autoParam (swappedStores [tg] e X.env=pure none) av)
 (h1:autoParam ((assignEach [tg] X.env).map (·.2)=[assign tg X.env]) av):PS X (.Assign [tg] e pos) (aT te g):=by
 intro i s j H D I h;refine wpAny_Assign_stores (bX (a i s j H _ I h) λv l ⟨x,m,d,f,n⟩=>?_) k c;rw[h1];exact bX (b i l j m x v _ d f n) λ_ o q=>q
def GJ(a:X.N.Nodup)(b:X.N[i]?=some x)(c:GC X.env.scope x)(d:PE X e te)(l:autoParam (swapsWith e (some (.Name x pos')) pos.line X.env=pure false) av)(f:autoParam (X.fn x=true\/X.env.scope.names.lookup x=some .local) ae) :
 PS X (.Assign [.Name x pos'] e pos) (aT te (aA i)):=by
 intro m s n H D I h;refine wpAny_Assign_Name (bX (d m s n H _ I h) λv q ⟨y,o,g,j,p⟩=>?_) l;exact mn g a b c j (λr k=>⟨_,o,k,p⟩) f
end
section
def mw(c:TT)(h:TS):TS:=λD e H=>∃W:Nat->St->Hp->Prop,(∃m,W m e H)/\∀m e H,W m e H->
 c e H λb f=>if b=true then ∃N:St->Hp->Prop,(∀a g,N a g->∃d,d<m/\W d a g)/\h {D with nx:=N,ct:=N,bk:=D.nx} e f else D.nx e f
def jO(o:PassesOwn (model X.prog X.w) X.A X.env X.xe)(t:PT X c tc)(K:PSs X body tb):PS X (.While c body [] pos) (mw tc tb):=by
 rintro E s L H D I⟨W,⟨M,u⟩,turn⟩;refine wpAny_While (codeAny_whileLoop (λn x=>∃e G,Inv X E e G x/\W n e G) ?_ M ⟨L,H,I,u⟩);rintro n O ⟨d,J,y,z⟩;refine UU o (bX (t E O d J _ y (turn n d J z)) λb P ⟨p,q,C⟩=>?_);cases b with
 |true=>
  obtain⟨N,r,C⟩:=C;rw[Sg rfl];refine UU o (bX (K E P d p _ q C) λf B i=>?_);cases f with
  |next=>obtain⟨a,g,j,k⟩:=i;obtain⟨l,F,m⟩:=r a g k;exact⟨l,F,a,g,j,m⟩
  |cont=>obtain⟨a,g,j,k⟩:=i;obtain⟨l,F,m⟩:=r a g k;exact⟨l,F,a,g,j,m⟩
  |brk=>exact i
  |ret v=>exact i
 |false=>rw[Sj SS];exact Vj ⟨d,p,q,C⟩
end
structure It where
 go:Nat->Hp->Prop
 zd:Nat->Hp->V->Hp->Prop
 stop:Nat->Hp->Prop
def jf(X:Cx)(a:List (Addr×Obj))(H:Hp)(b:Addr):Prop:=H b=none/\b≠X.env.locals/\b∉X.fs/\(b∈X.ex\/X.s₀.z<=b)/\(∀x c,X.env.cells.lookup x=some c->c≠b)/\∀p∈X.pn++a,p.1≠b
def Inv.ou(I:Inv X ag σ H s)(f:s.z<=b)(a:H' b=none):jf X ag H' b:=by
 refine⟨a,Vk (S8 I.lt f),I.Pf f,.inr (SE I.sz f),λx c e z=>?_,λp d z=>?_⟩
 .obtain⟨v,q⟩:=I.cell x c e;exact absurd (S8 q.lt (by rwa[z])) (U1 _)
 .exact absurd (S8 (Sr (I.pin p d).1) (by rwa[z])) (U1 _)
structure Turn(P:WL) (w:World) (K:WK) (tg:Expr) (J:It) (fp:List Addr) (it:Addr) (tn:Nat->Heap->Prop):Prop where
 mem:it∈fp
 obj:∀i h,tn i h->∀b∈fp,∃o,h.get? b=some o/\∀v,o.data≠.cell v
 keep:∀i h h',tn i h->(∀b∈fp,∀o,h.get? b=some o->h'.get? b=some o)->tn i h'
 item:∀(X:Cx),X.prog=P->X.w=w->X.K=K->X.calm=true->∀(i:Nat)(ag:List (Addr×Obj))(s:WJ)(σ:St)(H:Hp)(E:WM->WJ->Prop),Inv X ag σ H s->(∀b∈fp,jf X ag H b)->tn i s.heap->J.go i H->
  wpAny (model P w) X.A (pyNext (.ref it)) (λr s1=>∃u,r=some u/\
   wpAny (model P w) X.A (letOwnedTupleGo tg (.ref it) u) (λ_ s2=>∃x H',Inv X ag σ H' s2/\RelV x u/\J.zd i H x H'/\tn (i+1) s2.heap/\∀b∈fp,H' b=none) E s1) E s
 done:∀(X:Cx),X.prog=P->X.w=w->X.K=K->X.calm=true->∀(i:Nat)(ag:List (Addr×Obj))(s:WJ)(σ:St)(H:Hp)(E:WM->WJ->Prop),Inv X ag σ H s->(∀b∈fp,jf X ag H b)->tn i s.heap->J.stop i H->
  wpAny (model P w) X.A (pyNext (.ref it)) (λr s1=>r=none/\Inv X ag σ H s1) E s
 self:∀(A:WN)(i:Nat)(s:WJ)(Q:WM->WJ->Prop)(E:WM->WJ->Prop),tn i s.heap->Q (.ref it) s->wpAny (model P w) A (pyIter (.ref it)) Q E s
abbrev TI:=St->Hp->(It->Hp->Prop)->Prop
def JV(X:Cx)(d:List (Addr×Obj))(h:St)(i:Expr)(R:It->Hp->Prop)(a:WM)(e:WJ):Prop:=∃(it:Addr)(f:List Addr)(g:Nat->Heap->Prop)(J:It)(c:Hp),a=.ref it/\Inv X d h c e/\Turn X.prog X.w X.K i J f it g/\g 0 e.heap/\(∀b∈f,jf X d c b)/\R J c
def PI(X:Cx)(d iter:Expr)(a:TI):Prop:=
 ∀(c:List (Addr×Obj))(s:WJ)(b:St)(H:Hp)(R:It->Hp->Prop),Inv X c b H s->a b H R->
  wpAny (model X.prog X.w) X.A (eval iter X.env) (λv e=>wpAny (model X.prog X.w) X.A (pyIter v) (JV X c b d R) X.xe e) X.xe s
def rR(b:s.heap.get? it=some o)(c:o.cls=.type n)(hd:o.data=.fields vs)
 (d:["enumerate","zip","dict_itemiterator","dict_reverseitemiterator","odict_iterator","itertools.zip_longest","itertools.pairwise"].contains n=false) (a:Q () s):wpAny M A (letOwnedTupleGo tg (.ref it) u) Q E s:=by
 unfold letOwnedTupleGo;cases tg<;>first
  |exact R5 a
  |(cases u<;>first
     |exact R5 a
     |(refine KE (wpAny_load b ?_)
       rw[c,hd];show wpAny M A (if(["enumerate","zip","dict_itemiterator","dict_reverseitemiterator","odict_iterator","itertools.zip_longest","itertools.pairwise"].contains n&&vs[0]?==some (rawInt _))=true then _ else _) Q E s;rw[Sj (by intro h;rw[d,V9]at h;cases h)];exact R5 a))
noncomputable def yZ(K:WK)(a:Addr):It:=⟨λi H=>∃b x,SqL K H a b/\b[i]?=some x,λi H x c=>c=H/\∀b,SqL K H a b->b[i]?=some x,λi H=>∃b,SqL K H a b/\b.length<=i⟩
noncomputable def Ps(K:WK)(a:Addr):It:=⟨λi H=>∃b x,SqT K H a b/\b[i]?=some x,λi H x c=>c=H/\∀b,SqT K H a b->b[i]?=some x,λi H=>∃b,SqT K H a b/\b.length<=i⟩
noncomputable def Nw(lo:Int)(n:Nat):It:=⟨λi _=>i<n,λi H x a=>a=H/\x=.int (lo+i),λi _=>n<=i⟩
def oY{K:WK}{tg:Expr}(a it:Addr):Turn P w K tg (yZ K a) [it] it (λi h=>h.IsListIter it a i) where
 mem:=by simp
 obj:=λi h st b hb=>by
  have e:b=it:=by simpa using hb
  subst e;obtain⟨o,e,c,d⟩:=st;exact⟨o,e,λv z=>by rw[d]at z;cases z⟩
 keep:=λi h h' st k=>st.at λo e=>k it (by simp) o e
 item:=by intro X hP hw hK hc i ag s σ H E I hf st hg;subst hP hw hK;obtain⟨xs,x,hq,hx⟩:=hg;obtain⟨its,rv,p,hz⟩:=I.list hq;obtain⟨u,hu,ru⟩:=rv.get hx;obtain⟨f0,f1,f2,f3,f4,f5⟩:=hf it (by simp);refine wpAny_pyNext_list_item st p.isList (x:=u) (by simpa using hu) λh' st' sb=>?_;have I1:Inv X ag σ H {s with heap:=h'}:=I.turned (t':=s.toks) (λb o hb e=>(sb.2 b hb).trans e) f0 f1 f3 f4 f5;obtain⟨o,e,c,d⟩:=id st';exact⟨u,rfl,rR (s:={s with heap:=h'}) e c d (by decide) ⟨x,H,I1,ru,⟨rfl,λys hy=>by rwa[I.uc hy hq]⟩,st',λb hb=>(hf b hb).1⟩⟩
 done:=by intro X hP hw hK hc i ag s σ H E I hf st hg;subst hP hw hK;obtain⟨xs,hq,hx⟩:=hg;obtain⟨its,rv,p,hz⟩:=I.list hq;obtain⟨f0,f1,f2,f3,f4,f5⟩:=hf it (by simp);have hl:=rv.length;exact wpAny_pyNext_list_end (I.ok.hd hc) st p.isList (by simp;lia) λh' eb=>⟨rfl,I.turned (t':=s.toks) (λb o hb e=>eb b o hb e) f0 f1 f3 f4 f5⟩
 self:=λ_ _ _ _ _ st h=>wpAny_pyIter_listiter st h
def um{K:WK}{tg:Expr}(a it:Addr):Turn P w K tg (Ps K a) [it] it (λi h=>h.IsTupleIter it a i) where
 mem:=by simp
 obj:=λi h st b hb=>by
  have e:b=it:=by simpa using hb
  subst e;obtain⟨o,e,c,d⟩:=st;exact⟨o,e,λv z=>by rw[d]at z;cases z⟩
 keep:=λi h h' st k=>st.at λo e=>k it (by simp) o e
 item:=by intro X hP hw hK hc i ag s σ H E I hf st hg;subst hP hw hK;obtain⟨xs,x,hq,hx⟩:=hg;obtain⟨its,rv,p,hz⟩:=I.tuple hq;obtain⟨u,hu,ru⟩:=rv.get hx;obtain⟨f0,f1,f2,f3,f4,f5⟩:=hf it (by simp);refine wpAny_pyNext_tuple_item st (show s.heap.IsTuple a its.toArray from p) (x:=u) (by simpa using hu) λh' st' sb=>?_;have I1:Inv X ag σ H {s with heap:=h'}:=I.turned (t':=s.toks) (λb o hb e=>(sb.2 b hb).trans e) f0 f1 f3 f4 f5;obtain⟨o,e,c,d⟩:=id st';exact⟨u,rfl,rR (s:={s with heap:=h'}) e c d (by decide) ⟨x,H,I1,ru,⟨rfl,λys hy=>by rwa[I.yV hy hq]⟩,st',λb hb=>(hf b hb).1⟩⟩
 done:=by intro X hP hw hK hc i ag s σ H E I hf st hg;subst hP hw hK;obtain⟨xs,hq,hx⟩:=hg;obtain⟨its,rv,p,hz⟩:=I.tuple hq;obtain⟨f0,f1,f2,f3,f4,f5⟩:=hf it (by simp);have hl:=rv.length;exact wpAny_pyNext_tuple_end (I.ok.hd hc) st (show s.heap.IsTuple a its.toArray from p) (by simp;lia) λh' eb=>⟨rfl,I.turned (t':=s.toks) (λb o hb e=>eb b o hb e) f0 f1 f3 f4 f5⟩
 self:=λ_ _ _ _ _ st h=>wpAny_pyIter_tupleiter st h
def uq{K:WK}{tg:Expr}(it:Addr)(lo:Int)(n:Nat):Turn P w K tg (Nw lo n) [it] it (λi h=>IsRangeIter h it (lo+(i:Nat)*1) ((n:Int)-(i:Nat)) 1) where
 mem:=by simp
 obj:=λi h st b hb=>by grind
 keep:=λi h h' st k=>k it (by simp) _ st
 item:=by intro X hP hw hK hc i ag s σ H E I hf st hg;subst hP hw hK;obtain⟨f0,f1,f2,f3,f4,f5⟩:=hf it (by simp);have W:=Walks.range (prog:=X.prog) (w:=X.w) (I.ok.hd hc) it lo 1 n;refine W.item i s _ _ hg st λv h' tk hv st' kk=>?_;obtain⟨t,rfl⟩:=hv;have I1:Inv X ag σ H {s with heap:=h',toks:=tk}:=I.turned (λb o hb e=>kk b o (by simpa using hb) e) f0 f1 f3 f4 f5;refine⟨_,rfl,rR (s:={s with heap:=h',toks:=tk}) (n:="range_iterator") st' rfl rfl (by decide) ⟨.int (lo+i),H,I1,⟨t,?_⟩,⟨rfl,rfl⟩,st',λb hb=>(hf b hb).1⟩⟩;rw[Int.mul_one]
 done:=by intro X hP hw hK hc i ag s σ H E I hf st hg;subst hP hw hK;obtain⟨f0,f1,f2,f3,f4,f5⟩:=hf it (by simp);exact wpAny_pyNext_range_end (I.ok.hd hc) st (by have:n<=i:=hg;lia) λh' eb=>⟨rfl,I.turned (t':=s.toks) (λb o hb e=>eb b o hb e) f0 f1 f3 f4 f5⟩
 self:=λ_ _ _ _ _ st h=>wpAny_pyIter_rangeiter st h
section
def bZ(K:WK)(c:TE):TI:=λd H R=>c d H λx b=>∃a,x=.ref a/\(∃e,SqL K b a e)/\R (yZ K a) b
def bp{j:TE}(d:PE X l j):PI X tg l (bZ X.K j):=by
 intro k s m H R I h;refine bX (d k s m H _ I h) λv i ⟨x,n,c,f,r⟩=>?_;obtain⟨a,e,⟨w,g⟩,q⟩:=r;subst e;cases f;obtain⟨t,y,p,z⟩:=c.list g;refine Vp p.isList ?_;refine⟨i.z,[i.z],_,_,n,rfl,c.kept (t':=i.toks) λb o e=>R8 _ e,oY a _,⟨_,Sn _ rfl,rfl,rfl⟩,λb u=>?_,q⟩;have e:b=i.z:=by simpa using u
 subst e;exact c.ou (R7 _) (c.aS.fresh (R7 _))
def zo{s:WJ}{R:It->Hp->Prop}{E:WM->WJ->Prop}{lo a:Int}{t u v:Tok}{f:Nat}(I:Inv X ag σ H s)(h1:-(2^62)<=lo)(g:lo<2^62)(h:-(2^62)<=a)(d:a<2^62)
 (q:R (Nw lo (a-lo).toNat) H):wX X (pyIter (.ref s.z)) (JV X ag σ tg R) E { s with heap:=s.heap.push { cls:=.type "range",data:=.fields #[.int lo t,.int a u,.int 1 v] },toks:=f }:=by
 refine wpAny_pyIter_range (IsRange.new ..) (small_one h1 g h d) ?_;have c:Inv X ag σ H { s with heap:=s.heap.push { cls:=.type "range",data:=.fields #[.int lo t,.int a u,.int 1 v] },toks:=f }:=I.kept λb o e=>R8 _ e;refine⟨(s.heap.push { cls:=.type "range",data:=.fields #[.int lo t,.int a u,.int 1 v] }).y,[(s.heap.push { cls:=.type "range",data:=.fields #[.int lo t,.int a u,.int 1 v] }).y],_,_,H,rfl,
  c.kept (t':=f) λb o e=>R8 _ e,uq _ lo (a-lo).toNat,?_,λb i=>?_,q⟩
 .have j:lo+((0:Nat):Int)*1=lo:=by simp
  have k:(((a-lo).toNat:Nat):Int)-((0:Nat):Int)=Builtin.Range.rangeSize lo a 1:=by rw[rangeSize_one];split<;>lia
  show IsRangeIter _ _ (lo+((0:Nat):Int)*1) ((((a-lo).toNat:Nat):Int)-((0:Nat):Int)) 1;rw[j,k];exact Sn _ rfl
 .have e:b=(s.heap.push { cls:=.type "range",data:=.fields #[.int lo t,.int a u,.int 1 v] }).y:=by simpa using i
  subst e;exact c.ou (R7 _) (c.aS.fresh (R7 _))
def zp(ta:TA):TI:=λa H R=>ta a H λb c=>∃j:Int,b=[.int j]/\-(2^62)<=j/\j<2^62/\R (Nw 0 j.toNat) c
def oZ{a:Expr}{ta:TA}{p b:Pos}(c:Gl X "range") (i:X.mg "range"=none) (k:PA X [a] ta) (l:autoParam (starEach [a] X.env=[(false,eval a X.env)]) av):PI X tg (.Call (.Name "range" p) [a] [] b) (zp ta):=by
 intro m s n H R I h;refine Call_ (mo I c i boot_range (Vl (bX (k b m s n H _ I h) λv w ⟨x,y,d,f,g⟩=>?_) l rfl));obtain⟨j,e,g,o,q⟩:=g;subst e;cases f with
 |cons r u=>cases u;obtain⟨t,rfl⟩:=r;exact call_range_1 (zo d (by lia) (by lia) g o (by simpa using q))
def cU(d:TI)(g:TG)(j:TS):TS:=λD f H=>d f H λJ k=>∃W:Nat->Nat->St->Hp->Prop,(∃m,W 0 m f k)/\∀i m f H,W i m f H->
 (J.stop i H/\D.nx f H)\/(J.go i H/\∃N:St->Hp->Prop,(∀a h,N a h->∃c,c<m/\W (i+1) c a h)/\∀x h,J.zd i H x h->g x f h λb e=>j {D with nx:=N,ct:=N,bk:=D.nx} b e)
noncomputable def mz(a:List Addr)(h:Heap):List (Addr×Obj):=a.filterMap λb=>(h.get? b).map λo=>(b,o)
def gv(a:b∈fp)(e:h.get? b=some o):(b,o)∈mz fp h:=Vf.mpr ⟨b,a,by rw[e];rfl⟩
def xu(a:p∈mz fp h):p.1∈fp/\h.get? p.1=some p.2:=by
 obtain⟨b,d,e⟩:=Vf.mp a;cases q:h.get? b with
 |none=>rw[q]at e;cases e
 |some o=>rw[q]at e;have c:(b,o)=p:=Th e;subst c;exact⟨d,q⟩
def Inv.pinned(I:Inv X ag σ H s)(a:∀b∈fp,jf X ag H b)(d:∀b∈fp,∃o,s.heap.get? b=some o/\∀v,o.data≠.cell v):Inv X (ag++mz fp s.heap) σ H s:=
 I.xj λp c=>(Sk.mp c).elim (λz=>I.pin p (SK _ z)) λz=>by
  obtain⟨i,e⟩:=xu z;obtain⟨f,g,h,_⟩:=a p.1 i
  grind
def Inv.kz(I:Inv X (ag++pl) σ H s):Inv X ag σ H s:=I.xj λp a=>I.pin p (SK _ (SH _ a))
def bC(y:PassesOwn (model X.prog X.w) X.A X.env X.xe)(O:X.calm=true)(Y:PI X tg iter wi)(Z:PG X tg g)(hb:PSs X body tb)
 (hs:autoParam (∀x,foldedSetIterable iter X.env x=pure x) af):PS X (.For tg iter body [] pos) (cU wi g tb):=by
 intro ag s σ H D I h;refine wpAny_For (bX (Y ag s σ H _ I h) λv s1 h1=>bX h1 λitv s2 h2=>?_) hs;obtain⟨it,fp,tn,J,H2,e,I2,T,F,P,W,⟨m0,w0⟩,turn⟩:=h2;subst e;have c:∀{H':Hp},(∀b∈fp,H' b=none)->∀b∈fp,jf X ag H' b:=λhn b hb=>⟨hn b hb,(P b hb).2⟩;refine codeAny_forLoop_any (λn Q=>∃i j H',Inv X ag j H' Q/\tn i Q.heap/\(∀b∈fp,H' b=none)/\W i n j H') ?_ m0 ⟨0,σ,H2,I2,F,λb hb=>(P b hb).1,w0⟩;rintro n R ⟨i,k,E,S,z,B,w3⟩;rcases turn i n k E w3 with⟨stop,qn⟩|⟨go,N,hN,step⟩
 .refine UU y (bX (T.done X rfl rfl rfl O i ag R k E X.xe S (c B) z stop) λr s4 ⟨G,I4⟩=>?_);subst G;exact Vj ⟨k,E,I4,qn⟩
 .refine UU y (bX (T.item X rfl rfl rfl O i ag R k E X.xe S (c B) z go) λr s4 ⟨u,G,h4⟩=>?_);subst G;refine UU y (bX h4 λ_ U ⟨x,V,I5,r5,y5,t,K⟩=>?_);have L:=I5.pinned (c K) (T.obj _ _ t);refine UU y (bX (Z _ U k V x u _ L r5 (step x V y5)) λ_ s6 ⟨M,H6,I6,q6⟩=>?_);refine UU y (bX (hb _ s6 M H6 _ I6 q6) λf s7 q=>?_);have again:∀{a:St}{l:Hp},Inv X (ag++mz fp U.heap) a l s7->N a l->∃m,m<n/\∃i j H',Inv X ag j H' s7/\tn i s7.heap/\(∀b∈fp,H' b=none)/\W i m j H':=λ{a l} p C=>by obtain⟨m',hm,w7⟩:=hN a l C;refine⟨m',hm,i+1,a,l,p.kz,T.keep _ _ _ t λb hb o e=>(p.pin (b,o) (SK _ (SK _ (gv hb e)))).1,λb hb=>?_,w7⟩;obtain⟨o,e,d⟩:=T.obj _ _ t b hb;exact(p.pin (b,o) (SK _ (SK _ (gv hb e)))).2.1
  cases f with
  |next=>obtain⟨a,l,p,C⟩:=q;exact again p C
  |cont=>obtain⟨a,l,p,C⟩:=q;exact again p C
  |brk=>obtain⟨a,l,p,q⟩:=q;exact⟨a,l,p.kz,q⟩
  |ret v=>obtain⟨x7,a,l,p,r7,q⟩:=q;exact⟨x7,a,l,p.kz,r7,q⟩
end
def cc{K:WK}{a:Addr}{xs:List V}{g:TG}{s:TS}{D:Ends}{o:St}{H:Hp}(b:Nat->St->Hp->Prop)(t:b 0 o H)(k:∀i o H,i<=xs.length->b i o H->SqL K H a xs)
 (u:∀i x o H,xs[i]?=some x->b i o H->g x o H λc h=>s {D with nx:=b (i+1),ct:=b (i+1),bk:=D.nx} c h) (hd:∀o H,b xs.length o H->D.nx o H) :
 ∃W:Nat->Nat->St->Hp->Prop,(∃m,W 0 m o H)/\∀i m o H,W i m o H->
  ((yZ K a).stop i H/\D.nx o H)\/((yZ K a).go i H/\∃N:St->Hp->Prop,(∀d r,N d r->∃j,j<m/\W (i+1) j d r)/\∀x r,(yZ K a).zd i H x r->g x o r λc h=>s {D with nx:=N,ct:=N,bk:=D.nx} c h):=by
 refine⟨λi m o H=>m=xs.length-i/\i<=xs.length/\b i o H,⟨xs.length,by simp,Sw _,t⟩,?_⟩;rintro i m o H ⟨rfl,l,p⟩;have q:=k i o H l p;by_cases f:i<xs.length
 .refine .inr ⟨⟨xs,xs[i],q,by simp[f]⟩,b (i+1),λd r n=>⟨xs.length-(i+1),by lia,rfl,f,n⟩,λx r y=>?_⟩;obtain⟨e,y⟩:=y;subst e;exact u i x o _ (y xs q) p
 .have e:i=xs.length:=by lia
  subst e;exact .inl ⟨⟨xs,q,R7 _⟩,hd o H p⟩
abbrev R2:=V->V->Hp->VK->Prop
def lC(X:Cx)(f:WM->WM->Sem WM)(r:R2):Prop:=
 ∀(a:List (Addr×Obj))(s:WJ)(b:St)(H:Hp)(x y:V)(v u:WM)(Q:VK),Inv X a b H s->RelV x v->RelV y u->r x y H Q->
  wpAny (model X.prog X.w) X.A (f v u) (EP X a b Q) X.xe s
def Nx(X:Cx)(f:WM->Sem WM)(r:V->Hp->VK->Prop):Prop:=
 ∀(a:List (Addr×Obj))(s:WJ)(b:St)(H:Hp)(x:V)(v:WM)(Q:VK),Inv X a b H s->RelV x v->r x H Q->
  wpAny (model X.prog X.w) X.A (f v) (EP X a b Q) X.xe s
def bJ(X:Cx)(f:WM)(r:List V->Hp->VK->Prop):Prop:=
 ∀(a:List (Addr×Obj))(s:WJ)(b:St)(H:Hp)(c:List V)(d:List WM)(Q:VK),Inv X a b H s->Vals c d->r c H Q->
  wpAny (model X.prog X.w) X.A (call f d) (EP X a b Q) X.xe s
def Ny(X:Cx)(r:V->Hp->(Bool->Hp->Prop)->Prop):Prop:=
 ∀(a:List (Addr×Obj))(s:WJ)(b:St)(H:Hp)(x:V)(v:WM)(Q:Bool->Hp->Prop),Inv X a b H s->RelV x v->r x H Q->
  wpAny (model X.prog X.w) X.A (truthy v) (TP X a b Q) X.xe s
noncomputable def ba(r:R2)(ta c:TE):TE:=λb H Q=>ta b H λx d=>c b d λy a=>r x y a Q
noncomputable def Pt(r:V->Hp->VK->Prop)(ta:TE):TE:=λa H Q=>ta a H λx b=>r x b Q
noncomputable def rI(C:Int->Int->Prop)(g:Int->Int->V):R2:=λx y H Q=>∃i j,x=.int i/\y=.int j/\C i j/\Q (g i j) H
noncomputable def uh(g:Int->Int->V):R2:=λx y H Q=>∃i j,x=.int i/\y=.int j/\Q (g i j) H
noncomputable def rU(g:Int->V):V->Hp->VK->Prop:=λx H Q=>∃i,x=.int i/\Q (g i) H
section
def GK(o:PE X a ta)(p:PE X b tb){R:V->V->Hp->Prop}(I:Inv X ag σ H s)
 (h:ta σ H λx n=>tb σ n λy c=>R x y c) {Q:WM->WJ->Prop} {f:WM->WM->Sem WM}
 (g:∀v u m x y c,Inv X ag σ c m->RelV x v->RelV y u->R x y c->wX X (f v u) Q X.xe m) :
 wX X (eval a X.env) (λv d=>wX X (eval b X.env) (λu e=>wX X (f v u) Q X.xe e) X.xe d) X.xe s:=by
 refine bX (o ag s σ H _ I h) λv q ⟨x,n,i,j,r⟩=>?_;refine bX (p ag q σ n _ i r) λu m ⟨y,c,k,l,t⟩=>?_;exact g v u m x y c k j l t
def aP{i:Operator}(c:lC X (binaryOp i) r)(j:PE X a ta)(k:PE X b tb):PE X (.BinOp a i b pos) (ba r ta tb):=by intro l s m H Q I h;exact wpAny_BinOp (GK j k I h λv u n x y d e f g q=>c l n m d x y v u Q e f g q)
def vS(b:Nx X (unaryOp op) r)(g:PE X a ta):PE X (.UnaryOp op a pos) (Pt r ta):=by intro e s f H Q I h;exact UnaryOp_ (bX (g e s f H _ I h) λv i ⟨x,j,c,d,k⟩=>b e i f j x v Q c d k)
def Nz{f:WM->WM->Sem WM}{C:Int->Int->Prop}{g:Int->Int->Int}
 (rule:∀(i j:Int)(t u:Tok)(s:WJ)(Q:WM->WJ->Prop)(E:WM->WJ->Prop),C i j->Q (.int (g i j) s.toks) {s with toks:=s.toks+1}->wX X (f (.int i t) (.int j u)) Q E s) :
 lC X f (rI C λi j=>.int (g i j)):=by
 rintro e s k H x y v u Q I a b⟨i,j,rfl,rfl,c,q⟩;obtain⟨t,rfl⟩:=a;obtain⟨d,rfl⟩:=b;exact rule i j t d s _ _ c ⟨.int (g i j),H,I.tok _,⟨_,rfl⟩,q⟩
def GL{f:WM->WM->Sem WM}{g:Int->Int->Int}
 (rule:∀(i j:Int)(t u:Tok)(s:WJ)(Q:WM->WJ->Prop)(E:WM->WJ->Prop),Q (.int (g i j) s.toks) {s with toks:=s.toks+1}->wX X (f (.int i t) (.int j u)) Q E s) :
 lC X f (uh λi j=>.int (g i j)):=by
 rintro d s e H x y v u Q I a b⟨i,j,rfl,rfl,q⟩;obtain⟨t,rfl⟩:=a;obtain⟨c,rfl⟩:=b;exact rule i j t c s _ _ ⟨.int (g i j),H,I.tok _,⟨_,rfl⟩,q⟩
def CT{f:WM->WM->Sem WM}{g:Int->Int->Bool}
 (rule:∀(i j:Int)(t u:Tok)(s:WJ)(Q:WM->WJ->Prop)(E:WM->WJ->Prop),Q (.bool (g i j)) s->wX X (f (.int i t) (.int j u)) Q E s) :
 lC X f (uh λi j=>.bl (g i j)):=by
 rintro d s e H x y v u Q I a b⟨i,j,rfl,rfl,q⟩;obtain⟨t,rfl⟩:=a;obtain⟨c,rfl⟩:=b;exact rule i j t c s _ _ ⟨.bl (g i j),H,I,rfl,q⟩
def JW(i j:Int):Prop:=0<j/\j<1073741824
def CMul(i j:Int):Prop:=(-(2^64)<i/\i<2^64)\/(-(2^64)<j/\j<2^64)
def CMul.ok(h:CMul i j):IntMulOk i j:=by
 rcases h with⟨h1,a⟩|⟨h1,a⟩
 .exact .of_left (intBits_le_64 h1 a)
 .exact .of_right (intBits_le_64 h1 a)
def bV:lC X (binaryOp .Add) (uh λi j=>.int (i+j)):=GL λ_ _ _ _ _ _ _ q=>add_int q
def ur:lC X (binaryOp .Sub) (uh λi j=>.int (i-j)):=GL λ_ _ _ _ _ _ _ q=>sub_int q
def gw:lC X (binaryOp .Mult) (rI CMul λi j=>.int (i*j)):=Nz λ_ _ _ _ _ _ _ a q=>mul_int q a.ok
def cV:lC X (binaryOp .FloorDiv) (rI JW λi j=>.int (i/j)):=Nz λi j _ _ _ _ _ a q=>by have h1:(0:Int)<j:=a.1;have b:j<1073741824:=a.2;exact floordiv_int (by lia) (by rwa[Int.fdiv_eq_ediv_of_nonneg i (by lia)]) (.inl (PyProof.noPylong_small (by lia)))
def bD:lC X (binaryOp .Mod) (rI (λ_ j=>0<j) λi j=>.int (i%j)):=Nz λi j _ _ _ _ _ a q=>by have h1:(0:Int)<j:=a;exact mod_int' (by lia) (by rwa[Int.fmod_eq_emod_of_nonneg i (by lia)])
def GM:lC X (binaryOp .BitXor) (uh λi j=>.int (Builtin.bitXor i j)):=GL λ_ _ _ _ _ _ _ q=>xor_int q
def Qk{f:WM->Sem WM}{g:Int->Int}
 (rule:∀(i:Int)(t:Tok)(s:WJ)(Q:WM->WJ->Prop)(E:WM->WJ->Prop),Q (.int (g i) s.toks) {s with toks:=s.toks+1}->wX X (f (.int i t)) Q E s) :
 Nx X f (rU λi=>.int (g i)):=by
 rintro b s c H x v Q I a⟨i,rfl,q⟩;obtain⟨t,rfl⟩:=a;exact rule i t s _ _ ⟨.int (g i),H,I.tok _,⟨_,rfl⟩,q⟩
def pW:Nx X (unaryOp .USub) (rU λi=>.int (-i)):=Qk λ_ _ _ _ _ q=>neg_int q
end
noncomputable def JX:V->V->Bool
 |.cj,.cj=>true|.cj,.int _=>true|.int _,.cj=>true|.cj,.bl _=>true|.bl _,.cj=>true|.cj,.str _=>true|.str _,.cj=>true
 |.int _,.int _=>true|.bl _,.bl _=>true|.str _,.str _=>true|.vL _,.vL _=>true
 |.int _,.str _=>true|.str _,.int _=>true|.bl _,.str _=>true|.str _,.bl _=>true
 |_,_=>false
def pX:R2:=λx y H Q=>JX x y=true/\Q (.bl (decide (x=y))) H
def Pu:R2:=λx y H Q=>JX x y=true/\Q (.bl (!decide (x=y))) H
def vT:decide (V.int i=V.int j)=(i==j):=by rw[UV];simp
def zq:decide (V.bl i=V.bl j)=(i==j):=by rw[UV];simp
def vU:decide (V.str i=V.str j)=(i==j):=by rw[UV];simp
def vV:decide (V.vL i=V.vL j)=(i.toList==j.toList):=by rw[UV];cases i;cases j;simp
section
def bq(I:Inv X ag σ H s)(q:Q (.bl k) H)(e:k=k'):EP X ag σ Q (.bool k') s:=by subst e;exact⟨.bl k,H,I,rfl,q⟩
def eh:lC X (compareOp .Eq) pX:=by
 rintro e s f H x y v u Q I b a⟨d,q⟩;cases x with
 |cj=>
  cases b;cases y with
  |cj=>cases a;exact PySem.EqNone.eq_none_none (bq I q (by simp))
  |bl j=>cases a;exact PySem.EqNone.eq_none_bool (bq I q (by simp))
  |int j=>obtain⟨c,rfl⟩:=a;exact PySem.EqNone.eq_none_int (bq I q (by simp))
  |str j=>obtain⟨c,rfl⟩:=a;exact PySem.EqNone.eq_none_str (bq I q (by simp))
  |_=>exact absurd (show false=true from d) SS
 |bl i=>
  cases b;cases y with
  |cj=>cases a;exact PySem.EqNone.eq_bool_none (bq I q (by simp))
  |bl j=>cases a;exact eq_bool (bq I q zq)
  |str j=>obtain⟨c,rfl⟩:=a;exact PySem.EqMixed.eq_bool_str (bq I q (by simp))
  |_=>exact absurd (show false=true from d) SS
 |int i=>
  obtain⟨t,rfl⟩:=b;cases y with
  |cj=>cases a;exact PySem.EqNone.eq_int_none (bq I q (by simp))
  |int j=>obtain⟨c,rfl⟩:=a;exact eq_int (bq I q vT)
  |str j=>obtain⟨c,rfl⟩:=a;exact PySem.EqMixed.eq_int_str (bq I q (by simp))
  |_=>exact absurd (show false=true from d) SS
 |str i=>
  obtain⟨t,rfl⟩:=b;cases y with
  |cj=>cases a;exact PySem.EqNone.eq_str_none (bq I q (by simp))
  |bl j=>cases a;exact PySem.EqMixed.eq_str_bool (bq I q (by simp))
  |int j=>obtain⟨c,rfl⟩:=a;exact PySem.EqMixed.eq_str_int (bq I q (by simp))
  |str j=>obtain⟨c,rfl⟩:=a;exact eq_str (bq I q vU)
  |_=>exact absurd (show false=true from d) SS
 |vL i=>
  obtain⟨t,rfl⟩:=b;cases y with
  |vL j=>obtain⟨c,rfl⟩:=a;exact PySem.W.eq_bytes (bq I q vV)
  |_=>exact absurd (show false=true from d) SS
 |_=>cases y<;>exact absurd (show false=true from d) SS
def JY:lC X (compareOp .NotEq) Pu:=by
 rintro e s f H x y v u Q I b a⟨d,q⟩;cases x with
 |cj=>
  cases b;cases y with
  |cj=>cases a;exact PySem.EqNone.ne_none_none (bq I q (by simp))
  |bl j=>cases a;exact PySem.EqNone.ne_none_bool (bq I q (by simp))
  |int j=>obtain⟨c,rfl⟩:=a;exact PySem.EqNone.ne_none_int (bq I q (by simp))
  |str j=>obtain⟨c,rfl⟩:=a;exact PySem.EqNone.ne_none_str (bq I q (by simp))
  |_=>exact absurd (show false=true from d) SS
 |bl i=>
  cases b;cases y with
  |cj=>cases a;exact PySem.EqNone.ne_bool_none (bq I q (by simp))
  |bl j=>cases a;exact ne_bool (bq I q (T_ not zq))
  |str j=>obtain⟨c,rfl⟩:=a;exact PySem.EqMixed.ne_bool_str (bq I q (by simp))
  |_=>exact absurd (show false=true from d) SS
 |int i=>
  obtain⟨t,rfl⟩:=b;cases y with
  |cj=>cases a;exact PySem.EqNone.ne_int_none (bq I q (by simp))
  |int j=>obtain⟨c,rfl⟩:=a;exact ne_int (bq I q (T_ not vT))
  |str j=>obtain⟨c,rfl⟩:=a;exact PySem.EqMixed.ne_int_str (bq I q (by simp))
  |_=>exact absurd (show false=true from d) SS
 |str i=>
  obtain⟨t,rfl⟩:=b;cases y with
  |cj=>cases a;exact PySem.EqNone.ne_str_none (bq I q (by simp))
  |bl j=>cases a;exact PySem.EqMixed.ne_str_bool (bq I q (by simp))
  |int j=>obtain⟨c,rfl⟩:=a;exact PySem.EqMixed.ne_str_int (bq I q (by simp))
  |str j=>obtain⟨c,rfl⟩:=a;exact ne_str (bq I q (T_ not vU))
  |_=>exact absurd (show false=true from d) SS
 |vL i=>
  obtain⟨t,rfl⟩:=b;cases y with
  |vL j=>obtain⟨c,rfl⟩:=a;exact PySem.W.ne_bytes (bq I q (T_ not vV))
  |_=>exact absurd (show false=true from d) SS
 |_=>cases y<;>exact absurd (show false=true from d) SS
def o5:lC X (compareOp .Lt) (uh λi j=>.bl (decide (i<j))):=CT λ_ _ _ _ _ _ _ q=>lt_int q
def JZ:lC X (compareOp .LtE) (uh λi j=>.bl (decide (i<=j))):=CT λ_ _ _ _ _ _ _ q=>le_int q
def vW:lC X (compareOp .Gt) (uh λi j=>.bl (decide (j<i))):=CT λ_ _ _ _ _ _ _ q=>gt_int q
def FJ:lC X (compareOp .GtE) (uh λi j=>.bl (decide (j<=i))):=CT λ_ _ _ _ _ _ _ q=>ge_int q
def GN:lC X (compareOp .Is) (λx y H Q=>y=.cj/\Q (.bl (decide (x=.cj))) H):=by
 rintro c s d H x y v u Q I a b⟨rfl,q⟩;cases b;refine is_none_gen (bq I q ?_);cases x<;>first
  |(cases a;rfl)
  |(obtain⟨t,rfl⟩:=a;rfl)
def zt(b:Expr)(h:autoParam (op≠.In) aa)(a:autoParam (op≠.NotIn) aa):behindInMarks op b=false:=by
 have c:(op==CmpOp.In)=false:=by cases op<;>first|rfl|exact absurd rfl h
 have d:(op==CmpOp.NotIn)=false:=by cases op<;>first|rfl|exact absurd rfl a
 cases b<;>simp[behindInMarks,c,d]
def CU(c:lC X (compareOp op) r)(i:PE X a ta)(j:PE X b tb)(k:behindInMarks op b=false):PE X (.Compare a [op] [b] pos) (ba r ta tb):=by intro l s m H Q I h;exact wpAny_Compare1 (GK i j I h λv u n x y d e f g q=>c l n m d x y v u Q e f g q) k
noncomputable def bO(t:TE):TT:=λa H Q=>t a H λx b=>∃k,x=.bl k/\Q k b
def jP(d:lC X (compareOp op) r)(A:PE X a ta)(B:PE X b tb)(C:behindInMarks op b=false):PT X (.Compare a [op] [b] pos) (bO (ba r ta tb)):=by intro t s w H Q I h;refine wpAny_isTrue_Compare1 (bX (A t s w H _ I h) λv D ⟨x,E,f,g,F⟩=>bX (B t D w E _ f F) λu G ⟨y,i,j,l,J⟩=>bX (d t G w i x y v u _ j g l J) λc q ⟨z,m,n,o,k,e,p⟩=>?_) C;subst e;cases o;exact UD ⟨m,n,p⟩
def GO(K:WK)(x:V)(H:Hp)(k:Bool):Prop:=
 match x with
 |.cj=>k=false
 |.bl b=>k=b
 |.int i=>k=(i != 0)
 |.str y=>y.length<=sizeLine/\k=((y.length:Int) != 0)
 |.vL y=>y.size<=sizeLine/\k=((y.size:Int) != 0)
 |.ref p=>(∃a,SqL K H p a/\k=!a.isEmpty)\/(∃a,SqT K H p a/\k=!a.isEmpty)\/∃c,H p=some (.dK c)/\k=!c.isEmpty
 |_=>False
def ut{b:Type}{a:List (b×V)}{c:List (b×WM)}(r:KV a c):(!c.isEmpty)=!a.isEmpty:=by cases r<;>rfl
def mB(r:Vals xs its):(!its.toArray.isEmpty)=!xs.isEmpty:=by cases r<;>simp
def pY:(sizeLine:Nat)<2^63:=by rw[SQ];decide
def GP:Ny X (λx H Q=>∃k,GO X.K x H k/\Q k H):=by
 rintro C s D H x v Q I c⟨k,e,q⟩;have l:=pY;have E:sizeLine=16777216:=SQ;cases x with
 |cj=>cases c;have a:k=false:=e;subst a;exact truthy_none ⟨H,I,q⟩
 |bl b=>cases c;have a:k=b:=e;subst a;exact UD ⟨H,I,q⟩
 |int i=>obtain⟨t,rfl⟩:=c;have a:k=(i != 0):=e;subst a;exact PySem.P.truthy_int ⟨H,I,q⟩
 |str y=>obtain⟨t,rfl⟩:=c;obtain⟨g,a⟩ : y.length<=sizeLine/\k=((y.length:Int) != 0):=e;subst a;exact PySem.P.truthy_str (by lia) ⟨H,I.tok _,q⟩
 |vL y=>obtain⟨t,rfl⟩:=c;obtain⟨g,a⟩ : y.size<=sizeLine/\k=((y.size:Int) != 0):=e;subst a;exact PySem.W.truthy_bytes (by lia) ⟨H,I.tok _,q⟩
 |ref p=>
  cases c;have a:(∃o,SqL X.K H p o/\k=!o.isEmpty)\/(∃o,SqT X.K H p o/\k=!o.isEmpty)\/∃n,H p=some (.dK n)/\k=!n.isEmpty:=e;rcases a with⟨o,d,a⟩|⟨o,d,a⟩|⟨n,d,a⟩
  .subst a;obtain⟨z,r,A,B⟩:=I.list d;have f:=r.length;exact wpAny_truthy_list A.isList (by simp only[Ss];lia) ⟨H,I.tok _,by rwa[mB r]⟩
  .subst a;obtain⟨z,r,A,B⟩:=I.tuple d;have f:=r.length;exact truthy_tuple A (by simp only[Ss];lia) ⟨H,I.tok _,by rwa[mB r]⟩
  .subst a;obtain⟨B,j,u,r,m⟩ : n.length<=sizeLine/\(p==sysModules)=false/\∃u,KV n u/\s.heap.DictOf (aH X.prog X.w) p u:=I.aS p _ d;have f:n.length=u.length:=Us r;exact wpAny_truthy_dict j m (by lia) ⟨H,I.tok _,by rwa[ut r]⟩
 |_=>exact(show False from e).elim
def jQ(j:PE X a ta)(c:∀b,isTrue a X.env b=(do let v <- b;standAt a.pos;holding [v] (truthy v))) :
 PT X a (λf H Q=>ta f H λx g=>∃k,GO X.K x g k/\Q k g):=by
 intro i s f H Q I h;exact isTrue_plain (bX (j i s f H _ I h) λv l ⟨x,m,d,e,n⟩=>GP i l f m x v Q d e n) (c _)
def eB(r:Vals [x] us):∃u,us=[u]/\RelV x u:=by
 cases r with
 |cons a b=>cases b;exact⟨_,rfl,a⟩
def rS(r:Vals [x,y] us):∃u a,us=[u,a]/\RelV x u/\RelV y a:=by
 cases r with
 |cons b c=>
  cases c with
  |cons d e=>cases e;exact⟨_,_,rfl,b,d⟩
def xw(b:X.calm=true):bJ X (.builtin "max") (λd H Q=>∃i j,d=[.int i,.int j]/\Q (.int (if j>i then j else i)) H):=by
 rintro e s f H d g Q I r⟨i,j,rfl,q⟩;obtain⟨u,c,rfl,⟨t,rfl⟩,⟨l,rfl⟩⟩:=rS r;refine max_two_ints (I.ok.hd b) λm n k=>⟨_,H,I.kept k,?_,q⟩;by_cases a:j>i
 .rw[Sg a,Sg a];exact⟨_,rfl⟩
 .rw[Sj a,Sj a];exact⟨_,rfl⟩
end
structure vM(h:Heap) (x a C:Addr) (b:Str->Option WM):Prop where
 obj:h.get? x=some (instObj C a)
 ns:h.Ns1 a b
 ne:a≠x
def xx{h:Heap}{b:Str->Option WM}(n:h.Ns1 dx b):∃k,h.get? dx=some k/\∀j,lookIn j k=some (b j):=by
 obtain⟨o,l,p,c,hd,d,_,m⟩:=n;refine⟨o,c,λj=>?_⟩;have e:=m j;unfold nsFind findBy at e;rw[<- Array.find?_toList]at e;unfold lookIn;rw[hd];dsimp only;split
 .rename_i y q;rw[q]at e;exact T_ some e
 .rename_i q;rw[q]at e;have a:l.toList.any (·.refKey)=false:=by rw[List.any_eq_false];intro y f;obtain⟨z,t,g⟩:=d y (Array.mem_toList_iff.mp f);simp[DictEntry.refKey,g]
  have i:¬l.toList.any (·.refKey)=true:=by rw[a];exact SS
  rw[Sj i];exact T_ some e
def vM.look(I:vM h x dx C mA):∃d,PySem.W.InstAt h x (instObj C dx) C (some d)/\∀c,lookIn c d=some (mA c):=
 let ⟨d,a,b⟩:=xx I.ns
 ⟨d,⟨I.obj,rfl,rfl,a⟩,b⟩
section
variable{L:WL}{w:World}{A:WN}{E:WM->WJ->Prop}{s:WJ}{K:WK}{x N C f:Addr}{M:Str->Option WM}{H:Str}{v:WM}
theorem CV(X:K.In s.heap)(I:vM s.heap x N C M)(b:plainGet K C H=true)(c:hasDictIn K C=true)
 (g:findIn K (.ref C) H=some none) (d:M H=some v) (a:PySem.W.handedIn v=true) (h:Q v {s with toks:=s.toks+1}) :
 wpAny (model L w) A (getAttr (.ref x) H expr) Q E s:=by
 obtain⟨i,J,e⟩:=I.look;exact PySem.W.get_value X J (Wq b).1 (PySem.W.findObj_own c g rfl (by rw[e,d])) a h
def zu(X:K.In s.heap)(I:vM s.heap x N C M)(a:plainGet K C H=true)
 (b:findIn K (.ref C) H=some (some (.ref f))) (c:isFn K (.ref f)=true) (d:M H=none) (h:Q (.ref f,[.ref x]) s) :
 wpAny (model L w) A (getMethod (.ref x) H pl) Q E s:=by
 obtain⟨g,J,e⟩:=I.look;exact PySem.W.method_fn X J (Wq a).1 (Wq a).2 b (U_.mp c) (by show(lookIn H g).map (·.isSome)=some false;rw[e,d];rfl) h
theorem CW(X:K.In s.heap)(I:vM s.heap x N C M)
 (D:findIn K (.ref C) "__setattr__"=some (some (.builtin "object.__setattr__"))) (k:PySem.W.plainOver K C=true) (l:PySem.W.takerIn K C H=some none) (m:hasDictIn K C=true)
 (n:PySem.Within M ns) (F:ns.length<=sizeLine)
 (h:∀B,vM B x N C (λy=>if y=H then some v else M y)->Heap.SameBut N s.heap B->Q () {s with heap:=B,toks:=s.toks+2}) :
 wpAny (model L w) A (setAttr (.ref x) H v) Q E s:=by
 obtain⟨G,J,u⟩:=I.look;refine PySem.W.set_plain X J D (PySem.W.osa_open (s:={s with toks:=s.toks+1}) (r:=none) X J k l λb=>?_);obtain⟨z,o,e⟩:=PySem.W.any_some m;have p:s.heap.get? x=some ⟨.ref C,some N,.plain,#[]⟩:=I.obj;refine KE (R5 (KE (KE (wpAny_loadPart p (KE (PySem.W.Looks.here (s:={s with toks:=s.toks+1}) (PySem.W.looks_clsIn X o) ?_))))));rw[e];refine R5 (a:=some N) (KE (R5 (KE ?_)));refine wpAny_nsSet1 (s:={s with toks:=s.toks+1}) I.ns λB c d=>?_;obtain⟨oD,q,t,g,i,j⟩:=c.count (PySem.Within.cons H v n);refine KE (wpAny_lookBehind g (by rw[i];exact pastItsLine_dict (SE j (by rw[SG];lia))) ?_);exact R5 (h _ ⟨(d.2 _ (Tp I.ne)).trans I.obj,c,I.ne⟩ d)
theorem zv(X:K.In s.heap)(i:PySem.W.makesIn K C=true)
 (a:findIn K (.ref C) "__init__"=some (some (.ref f))) (b:PySem.W.typeIn K (.ref f)=some (.type "function"))
 (h:codeAny (model L w) (A.under (.builtin "type.__call__" ⟨.ref C::vs,kw⟩)) (.call (.ref f) ⟨.ref (s.z+1)::vs,kw⟩) (PySem.W.InitBack (s.z+1) R)
   {s with heap:=(s.heap.push emptyDict).push (instObj C s.z)}) :
 codeAny (model L w) A (.call (.ref C) ⟨vs,kw⟩) R s:=by
 obtain⟨c,g,d,t,os⟩:=s;exact PySem.W.make_core (PySem.W.makes_of X i) (PySem.W.looks_findIn X a) (λe=>PySem.W.bind_fn X e b) (.inl rfl) h
end
noncomputable def gf(f:Str)(v:V):List (Str×V)->List (Str×V)
 |[]=>[(f,v)]
 |(g,x)::r=>if g=f then(g,v)::r else(g,x)::gf f v r
theorem k9(f g:Str)(v:V):∀b:List (Str×V),(gf f v b).lookup g=if g=f then some v else b.lookup g
 |[]=>by
  show List.lookup g [(f,v)]=_
  grind
 |(k,x)::r=>by
  have a:=k9 f g v r
  grind [gf]
theorem kE(f:Str)(v:V):∀c:List (Str×V),f∈(gf f v c).map (·.1)/\∀g,g∈c.map (·.1)->g∈(gf f v c).map (·.1)
 |[]=>⟨by simp[gf],λg h=>by simp at h⟩
 |(k,x)::r=>by
  obtain⟨a,b⟩:=kE f v r
  grind [gf]
theorem k_(f:Str)(v:V):∀c:List (Str×V),(gf f v c).length<=c.length+1
 |[]=>by simp[gf]
 |(k,x)::r=>by
  have b:=k_ f v r;rw[show gf f v ((k,x)::r)=(if k=f then(k,v)::r else(k,x)::gf f v r)from rfl];by_cases a:k=f
  .rw[Sg a,SG,SG];lia
  .rw[Sj a,SG,SG];lia
def RelO.some_of(r:RelO (some v) o):∃u,o=some u/\RelV v u:=by
 cases o with
 |none=>exact(show False from r).elim
 |some u=>exact⟨u,rfl,r⟩
def RelO.none_of(r:RelO none o):o=none:=by
 cases o with
 |none=>rfl
 |some u=>exact(show False from r).elim
def xy(r:RelV v u):PySem.W.handedIn u=true:=by
 cases v with
 |cj=>cases(show u=Value.none from r);rfl
 |bl b=>cases(show u=Value.bool b from r);rfl
 |int i=>obtain⟨t,e⟩:=(show ∃t,u=Value.int i t from r);cases e;rfl
 |str x=>obtain⟨t,e⟩:=(show ∃t,u=Value.str x t from r);cases e;rfl
 |vL b=>obtain⟨t,e⟩:=(show ∃t,u=Value.bytes b t from r);cases e;rfl
 |Gj b=>obtain⟨t,e⟩:=(show ∃t,u=Value.float b t from r);cases e;rfl
 |ref a=>cases(show u=Value.ref a from r);rfl
 |ty n=>cases(show u=Value.type n from r);rfl
section
def lN(g:HOk P w H h)(e:H a=some (.ins C dx fs)):∃b,vM h a dx C b/\(∀f,RelO (fs.lookup f) (b f))/\PySem.Within b (fs.map (·.1))/\fs.length<=1000/\H dx=some (.own a):=by obtain⟨d,z,i,c,b,n,r,q⟩:=(show ObjOk P w H h a (.ins C dx fs)from g a _ e);exact⟨b,⟨c,n,i⟩,r,q,z,d⟩
end
structure rf(K:WK) (C:Addr):Prop where
 pg:plainGet K C Str.empty=true
 hd:hasDictIn K C=true
 po:PySem.W.plainOver K C=true
 sa:findIn K (.ref C) "__setattr__"=some (some (.builtin "object.__setattr__"))
theorem rf.get{K:WK}(c:rf K C)(f:Str):plainGet K C f=true:=c.pg
def NoAttr(K:WK)(C:Addr)(f:Str):Prop:=findIn K (.ref C) f=some none
def NoAttr.taker{K:WK}(n:NoAttr K C f):PySem.W.takerIn K C f=some none:=by unfold PySem.W.takerIn;rw[show findIn K (.ref C) f=some none from n];rfl
structure Meth(K:WK) (C:Addr) (m:Str) (f:Addr):Prop where
 at_:findIn K (.ref C) m=some (some (.ref f))
 fn:isFn K (.ref f)=true
 kp:keepIn K (.ref f)=true
section
def uu(I:Inv X ag σ H s)(e:H a=some (.ins C dx fs))(c:rf X.K C)(n:NoAttr X.K C f)(l:fs.lookup f=some v)
 (h:∀u d,Inv X ag σ H d->RelV v u->Q u d):wpAny (model X.prog X.w) A (getAttr (.ref a) f b) Q E s:=by
 obtain⟨g,O,r,_,_,_⟩:=lN I.aS e;obtain⟨u,i,ru⟩:=RelO.some_of (v:=v) (o:=g f) (by rw[<- l];exact r f);exact CV I.jN O (c.get f) c.hd n i (xy ru) (h u _ (I.tok _) ru)
def mC(I:Inv X ag σ H s)(e:H a=some (.ins C dx fs))(c:rf X.K C)(k:Meth X.K C m g)(l:fs.lookup m=none)
 (h:Q (.ref g,[.ref a]) s):wpAny (model X.prog X.w) A (getMethod (.ref a) m pl) Q E s:=by
 obtain⟨b,O,r,_,_,_⟩:=lN I.aS e;have d:b m=none:=RelO.none_of (by rw[<- l];exact r m);exact zu I.jN O (c.get m) k.at_ k.fn d h
def uv(I:Inv X ag σ H s)(e:H a=some (.ins C dx fs))(c:rf X.K C)(n:NoAttr X.K C f)(v:fs.length<1000)(B:RelV y u)
 (h:∀i,Inv X ag σ (upd H a (.ins C dx (gf f y fs))) i->Q () i):wpAny (model X.prog X.w) A (setAttr (.ref a) f u) Q E s:=by
 obtain⟨l,O,r,j,_,k⟩:=lN I.aS e;have D:(fs.map (·.1)).length<=sizeLine:=by rw[R9,SQ];lia
 refine CW I.jN O c.sa c.po n.taker c.hd j D λF d m=>h _ ?_;have hd:∃o,F.get? dx=some o:=let ⟨o,_,_,p,_⟩:=d.ns;⟨o,p⟩;refine I.write (x:=a) (e:=dx) (by rw[e];exact ⟨⟩) (.inr k) (λb q G z=>(m.2 b G).trans z) hd ?_;refine⟨by rwa[ai O.ne],?_,O.ne,d.obj,_,d.ns,λg=>?_,λg t=>?_⟩
 .have:=k_ f y fs;lia
 .grind [RelO,gf,k9]
 .by_cases q:g=f
  .rw[q];exact(kE f y fs).1
  .refine(kE f y fs).2 g (j g λz=>t ?_);show(if g=f then some u else l g)=none;rwa[Sj q]
def Inv.made(I:Inv X ag σ H s):Inv X ag σ (upd (upd H s.z (.own (s.z+1))) (s.z+1) (.ins C s.z []))
 {s with heap:=(s.heap.push emptyDict).push (instObj C s.z)}:=by
 have h:(s.heap.push emptyDict).get? s.z=some emptyDict:=Sn s.heap rfl;have j:((s.heap.push emptyDict).push (instObj C s.z)).get? (s.z+1)=some (instObj C s.z):=by
  have:=Sn (s.heap.push emptyDict) (o:=instObj C s.z) rfl
  rwa [Vb]at this
 have c:(s.heap.push emptyDict).Ns s.z (λ_=>none):=⟨emptyDict,#[],_,h,rfl,(λe d=>absurd d (by simp)),λ_=>rfl⟩;have f:=I.laid (a:=s.z) (o:=.own (s.z+1)) (h':=s.heap.push emptyDict) (t':=s.toks) (λb u q=>R8 _ q) (R7 _) ⟨_,h⟩;refine f.laid (a:=s.z+1) (o:=.ins C s.z []) (t':=s.toks) (λb u q=>R8 _ q) (Wt (Vb _ _)) ?_;have i:s.z≠s.z+1:=SI (Uo _);refine⟨by rw[ai i,ac],Sw _,i,j,λ_=>none,(Heap.Ns1.of_empty c).at λo q=>R8 _ q,λ_=>⟨⟩,λy g=>absurd rfl g⟩
def CY(b:attributeBase e f env (eval e env)=eval e env)
 (h:wpAny (model prog w) A (eval e env) (λo a=>wpAny (model prog w) A (getAttr o f true) Q E a) E s):wpAny (model prog w) A (eval (.Attribute e f pos) env) Q E s:=
 Attribute_any_ h (by rw[arm_eval_Attribute,b])
end
def dX(K:WK)(ta:TE)(f:Str):TE:=λd H Q=>ta d H λx b=>∃a C e c v,x=.ref a/\b a=some (.ins C e c)/\rf K C/\NoAttr K C f/\c.lookup f=some v/\Q v b
def pZ(K:WK)(ta c:TE)(f:Str):TS:=λD d H=>c d H λy h=>ta d h λx b=>∃a C g e,x=.ref a/\b a=some (.ins C g e)/\rf K C/\NoAttr K C f/\e.length<1000/\
 D.nx d (upd b a (.ins C g (gf f y e)))
section
def cr(b:PE X e ta)(k:attributeBase e f X.env (eval e X.env)=eval e X.env):PE X (.Attribute e f pos) (dX X.K ta f):=by intro m s o H Q I h;refine CY k (bX (b m s o H _ I h) λu r z=>?_);obtain⟨x,p,d,g,a,C,t,w,v,rfl,i,c,n,l,q⟩:=z;obtain rfl:u=Value.ref a:=g;exact uu d i c n l λy A j ru=>⟨v,p,j,ru,q⟩
def ib(w:PE X o ta)(b:PE X value tv)(A:swapsWith value (some (.Attribute o f pos')) pos.line X.env=pure false):PS X (.Assign [.Attribute o f pos'] value pos) (pZ X.K ta tv f):=by intro v s t H D I h;refine plainObj_wpAny_Assign_Attribute (bX (b v s t H _ I h) λu B ⟨y,E,d,e,q⟩=>bX (w v B t E _ d q) λg G z=>?_) A;obtain⟨x,p,i,j,a,C,J,L,rfl,k,c,n,l,F⟩:=z;obtain rfl:g=Value.ref a:=j;exact uv i k c n l e λr m=>⟨t,_,m,F⟩
end
section
inductive kY(K:WK) (H:Hp):V->WM->Prop where
 |cj:kY K H .cj (.type "NoneType")
 |bl (x:Bool):kY K H (.bl x) (.type "bool")
 |int (i:Int):kY K H (.int i) (.type "int")
 |str (x:Str):kY K H (.str x) (.type "str")
 |Gj (x:UInt64):kY K H (.Gj x) (.type "float")
 |lst {a:Addr} {xs:List V} (e:H a=some (.lst xs)):kY K H (.ref a) (.type "list")
 |bv {a:Addr} {o:Obj} {xs:List V} (e:H a=some (.bv o (.lst xs))):kY K H (.ref a) (.type "list")
 |tup {a:Addr} {xs:List V} (e:H a=some (.tup xs)):kY K H (.ref a) (.type "tuple")
 |dK {a:Addr} {kvs:List (bc×V)} (e:H a=some (.dK kvs)):kY K H (.ref a) (.type "dict")
 |dT {a:Addr} {kvs:List (List bc×V)} (e:H a=some (.dT kvs)):kY K H (.ref a) (.type "dict")
 |ins {a C dx:Addr} {fs:List (Str×V)} (e:H a=some (.ins C dx fs)) (cl:rf K C) (ha:findIn K (.ref C) "__class__"=some (some (.builtin "object.__class__")))
  (hn:PySem.W.specialIn K (.builtin "object.__class__") "__get__"=some (some (.builtin "getset_descriptor.__get__"))) (htk:PySem.W.takesIn K (.builtin "object.__class__")=some true)
  (hm:PySem.W.mroIn K C (.type "object")=some true):kY K H (.ref a) (.ref C)
def xA(I:Inv X ag σ H s)(d:RelV x u)(ty:kY X.K H x t)(e:kitOne X.K t c=some b)(h:∀D,Q (.bool b) {s with toks:=D}) :
 wpAny (model X.prog X.w) A (call (.builtin "isinstance") [u,c]) Q E s:=by
 cases ty with
 |cj=>cases(show u=Value.none from d);exact Ub PySem.W.kitx_none I.jN ⟨⟩ e (λz=>nomatch z) h
 |bl y=>cases(show u=Value.bool y from d);exact Ub PySem.W.kitx_bool I.jN ⟨⟩ e (λz=>nomatch z) h
 |int i=>obtain⟨t,q⟩:=(show ∃t,u=Value.int i t from d);cases q;exact Ub PySem.W.kitx_int I.jN ⟨⟩ e (λz=>nomatch z) h
 |str y=>obtain⟨t,q⟩:=(show ∃t,u=Value.str y t from d);cases q;exact Ub PySem.W.kitx_str I.jN ⟨⟩ e (λz=>nomatch z) h
 |Gj y=>obtain⟨t,q⟩:=(show ∃t,u=Value.float y t from d);cases q;exact Ub PySem.W.kitx_float I.jN ⟨⟩ e (λz=>nomatch z) h
 |@lst a r f=>cases(show u=Value.ref a from d);obtain⟨_,_,n,_,h1⟩:=(show ObjOk X.prog X.w H s.heap a (.lst r)from I.aS a _ f);exact Ub PySem.W.kitx_list I.jN ⟨_,h1,rfl⟩ e (λz=>nomatch z) h
 |@bv a j r f=>cases(show u=Value.ref a from d);obtain⟨_,_,_,n,_,h1⟩:=(show ObjOk X.prog X.w H s.heap a (.bv j (.lst r))from I.aS a _ f);exact Ub PySem.W.kitx_list I.jN ⟨_,h1,rfl⟩ e (λz=>nomatch z) h
 |@tup a r f=>cases(show u=Value.ref a from d);obtain⟨_,_,_,p⟩:=(show ObjOk X.prog X.w H s.heap a (.tup r)from I.aS a _ f);obtain⟨o,h1,v,_⟩:=p;exact Ub PySem.W.kitx_tuple I.jN ⟨o,h1,v⟩ e (λz=>nomatch z) h
 |@dK a m f=>cases(show u=Value.ref a from d);obtain⟨_,_,N,_,p⟩:=(show ObjOk X.prog X.w H s.heap a (.dK m)from I.aS a _ f);obtain⟨o,F,G,h1,v,_⟩:=p;exact Ub Ww I.jN ⟨o,h1,v.1⟩ e (λz=>nomatch z) h
 |@dT a m f=>cases(show u=Value.ref a from d);obtain⟨_,_,r,_,o,F,G,h1,v,_⟩:=(show ObjOk X.prog X.w H s.heap a (.dT m)from I.aS a _ f);exact Ub Ww I.jN ⟨o,h1,v.1⟩ e (λz=>nomatch z) h
 |@ins a C P R f B L k g M=>cases(show u=Value.ref a from d);obtain⟨l,O,_⟩:=lN I.aS f;obtain⟨S,J,_⟩:=O.look;exact Ub (PySem.W.kitx_own (B.get _) B.hd L k g M) I.jN J e (λz=>nomatch z) h
end
structure cR(k:Nat) (A:WN):Prop where
 hd:A.handled=none
 dp:A.depth+3*k+5<recursionLimit
 un:A.units+16*k+200<cLine
def cR.mono(r:cR k A)(h:j<=k):cR j A:=⟨r.hd,by have:=r.dp;lia,by have:=r.un;lia⟩
theorem cR.deeper(r:cR (k+1) A)(a:Env):cR k (A.deeper a):=⟨r.hd,by have:=r.dp;show A.depth+1+3*k+5<_;lia,by have:=r.un;show A.units+3+16*k+200<_;lia⟩
def uw{A:WN}{C:Addr}:(A.under (.builtin "type.__call__" ⟨.ref C::us,kw⟩)).depth=A.depth+1:=by
 first|rfl|simp[Around.under,Code.weight,Code.isCreation,Code.isGuard,Code.isCaller,Code.frames,Code.isFrame,guardIds]
def uy{A:WN}{C:Addr}:(A.under (.builtin "type.__call__" ⟨.ref C::us,kw⟩)).units=A.units+1:=by
 first|rfl|simp[Around.under,Code.cUnits,Code.frames,Code.isFrame]
def cR.make(r:cR (k+1) A) (C:Addr) (b:List WM) (a:List (Str×WM)):cR k (A.under (.builtin "type.__call__" ⟨.ref C::b,a⟩)):=⟨r.hd,by have:=r.dp;rw[uw];lia,by have:=r.un;rw[uy];lia⟩
theorem cR.depth(r:cR k A):A.depth<recursionLimit:=by have:=r.dp;lia
theorem cR.units(r:cR k A):A.units+64<cLine:=by have:=r.un;lia
noncomputable def aF:TA:=λ_ H Q=>Q [] H
noncomputable def ah(ta:TE)(c:TA):TA:=λb H Q=>ta b H λx d=>c b d λe a=>Q (x::e) a
section
def bH:PA X [] aF:=λ_ _ _ _ H Q I h=>VZ ⟨[],H,I,.nil,h⟩
def au(l:PE X e te)(b:PA X es t)(m:autoParam (starEach (e::es) X.env=(false,eval e X.env)::starEach es X.env) av):PA X (e::es) (ah te t):=by intro a j s k H Q I h;rw[m];show wpAny _ _ (spliced ((false,eval e X.env)::backTo a (starEach es X.env))) _ _ s;refine Vg (bX (l j s k H _ I h) λu n ⟨x,o,c,d,p⟩=>?_);exact bX (b a j n k o _ c p) λv w ⟨q,f,g,i,r⟩=>⟨x::q,f,g,.cons d i,r⟩
def cm(t:TA):TE:=λc H Q=>t c H λa b=>a.length<=sizeLine/\∀p,b p=none->Q (.ref p) (upd b p (.tup a))
def dR(t:TA):TE:=λc H Q=>t c H λa b=>a.length<=sizeLine/\∀p,b p=none->Q (.ref p) (upd b p (.lst a))
def bb{x1}(h:PA X es t):PE X (.Tuple es x1 pos) (cm t):=by intro i s j H Q I c;refine wpAny_Tuple_spliced (bX (h pos i s j H _ I c) λk f ⟨l,g,a,r,z,q⟩=>⟨by rwa[<- r.length],?_⟩);have d:g f.z=none:=a.aS.fresh (R7 _);refine⟨.ref f.z,upd g f.z (.tup l),a.laid (t':=f.toks) (λb u e=>R8 _ e) (R7 _) ?_,rfl,q _ d⟩;exact⟨z,k,r,⟨_,Sn _ rfl,rfl,_,rfl⟩⟩
def bE(h:PA X es t):PE X (.List es pos) (dR t):=by intro i s j H Q I c;refine wpAny_List_spliced (bX (h pos i s j H _ I c) λk f ⟨l,g,a,r,z,q⟩=>⟨by rwa[<- r.length],?_⟩);have d:g f.z=none:=a.aS.fresh (R7 _);refine⟨.ref f.z,upd g f.z (.lst l),a.laid (t':=f.toks) (λb u e=>R8 _ e) (R7 _) ?_,rfl,q _ d⟩;exact⟨z,k,0,r,Sn _ rfl⟩
end
abbrev Sp:=List V->Hp->VK->XK->Prop
abbrev zx:=List Env->Hp->WJ->XK->WM->WJ->Prop
structure vI(P:WL) (w:World) (K:WK) (d:Str->Option WM) (c:Heap) (A:WN) (a:List Env) (s:WJ) (H:Hp):Prop where
 frames:A.frames=some a
 mod:Mod K d c
 bs:∀b o,c.get? b=some o->s.heap.get? b=some o/\H b=none
 Cp:c.y<=s.z
 km:s.heap.FunFrames c a
 Fj:∀b∈h_ a,H b=none
 aS:HOk P w H s.heap
 bare:AllBare s.gens
 kt:Nr K H
def CE(b:List Env)(P:WL)(w:World)(H:Hp)(s:WJ)(Q:VK)(u:WM)(a:WJ):Prop:=∃v c,a.os=s.os/\AllBare a.gens/\Un (h_ b) [] H c s.heap a.heap/\HOk P w c a.heap/\RelV v u/\Q v c
def CR(c:zx)(b:List Env)(P:WL)(w:World)(H:Hp)(s:WJ)(Q:VK)(E:XK)(r:Result)(a:WJ):Prop:=
 match r with
 |.ok (.ret u)=>CE b P w H s Q u a
 |.ok _=>False
 |.error e=>c b H s E e a
structure cB(P:WL) (w:World) (K:WK) (mg:Str->Option WM) (base:Heap) (CX:zx) (k:Nat) (f:Addr) (fd:FuncData) (ps:List Str) (sp:Sp):Prop where
 len:∀vs H Q E,sp vs H Q E->vs.length=ps.length
 run:∀(A:WN)(outer:List Env)(s:WJ)(H:Hp)(args:Args)(us:List WM)(vs:List V)(Q:VK)(E:XK),cR k A->vI P w K mg base A outer s H->BindsTo s fd args (ps.zip us)->Vals vs us->sp vs H Q E->
  codeAny (model P w) A (.call (.ref f) args) (CR CX outer P w H s Q E) s
def cB.imp{P:WL}{w:World}{K:WK}{j:Str->Option WM}{d:Heap}{l:zx}(F:cB P w K j d l k f fd ps sp)
 (h:∀g H Q E,sp' g H Q E->sp g H Q E):cB P w K j d l k f fd ps sp':=
 ⟨λg H Q E q=>F.len g H Q E (h _ _ _ _ q),λA e s H i m g Q E a b n c o=>F.run A e s H i m g Q E a b n c (h _ _ _ _ o)⟩
def vI.make{P:WL}{w:World}{K:WK}{c:Str->Option WM}{b:Heap}(e:vI P w K c b A outer s H)(C:Addr)(d:List WM)(a:List (Str×WM)) :
 vI P w K c b (A.under (.builtin "type.__call__" ⟨.ref C::d,a⟩)) outer s H:=⟨by first|exact e.frames|(simpa[Around.under,Code.envs,Code.isFrame,pushEnvs]using e.frames),e.mod,e.bs,e.Cp,e.km,e.Fj,e.aS,e.bare,e.kt⟩
section
def Inv.I_(I:Inv X ag σ H s):vI X.prog X.w X.K X.mg X.base X.A X.stack s H:=⟨I.ok.frames,I.ok.mod,I.bs,SE I.ok.Cp I.sz,I.stack,I.rp,I.aS,I.bare,I.kt⟩
def Inv.after(I:Inv X ag σ H s)(h:CE X.stack X.prog X.w H s Q u s'):EP X ag σ Q u s':=by obtain⟨v,f,os,e,un,i,r,q⟩:=h;obtain⟨c,g,d,t,a⟩:=s';obtain rfl:a=s.os:=os;exact⟨v,f,I.call (h':=c) (g':=g) (d':=d) (t':=t) (ch:=[]) un i e (λb z=>absurd z (by simp)),r,q⟩
end
noncomputable def bj(b:Sp)(a:List V)(E:XK)(t:TA):TE:=λc H Q=>t c H λd e=>b (d++a) e Q E
def eF(C:Addr)(m:Str)(g:Sp)(c:List V)(E:XK)(ta:TE)(t:TA):TE:=λd H Q=>ta d H λx e=>∃a h f,x=.ref a/\e a=some (.ins C h f)/\f.lookup m=none/\
 t d e λi b=>g (x::(i++c)) b Q E
def vX(C:Addr)(e:Sp)(c:List V)(E:XK)(t:TA):TE:=λf H Q=>t f H λg d=>∀x b,d x=none->d b=none->b≠x->
 e (.ref x::(g++c)) (upd (upd d b (.own x)) x (.ins C b [])) (λv a=>v=.cj/\Q (.ref x) a) E
def Binds(K:WK)(d:FuncData)(b:List Str)(c:List WM):Prop:=∀(s:WJ)(a:List WM),K.In s.heap->(a++c).length=b.length->BindsTo s d ⟨a,[]⟩ (b.zip (a++c))
def Binds.all{K:WK}(h:∀b:List WM,b.length=ps.length->bindArgs fd ⟨b,[]⟩=pure (ps.zip b)):Binds K fd ps []:=λs b _ a=>by rw[Tj]at a ⊢;exact .of_eq (h b a)
def fg(b:zx)(X:Cx)(E:XK):Prop:=∀(c:List (Addr×Obj))(d:St)(H:Hp)(s:WJ)(e:WM)(a:WJ),Inv X c d H s->b X.stack H s E e a->X.xe e a
section
def uz(F:cB X.prog X.w X.K X.mg X.base CX k f fd ps sp)(c:cR k X.A)(j:Binds X.K fd ps ds)(hd:Vals dvs ds)(d:fg CX X E)
 (I:Inv X ag σ H s) (r:Vals vs us) (h:sp (vs++dvs) H Q E):wX X (call (.ref f) us) (EP X ag σ Q) X.xe s:=by
 have b:Vals (vs++dvs) (us++ds):=r.append hd;have g:(us++ds).length=ps.length:=by rw[<- b.length];exact F.len _ _ _ _ h
 refine wpAny_call (VI (F.run X.A X.stack s H ⟨us,[]⟩ (us++ds) (vs++dvs) Q E c I.I_ (j s us I.jN g) b h) λr i a=>?_);cases r with
 |error e=>exact d ag σ H s e i I a
 |ok fl=>
  cases fl with
  |ret u=>exact I.after a
  |next=>exact False.elim a
  |brk=>exact False.elim a
  |cont=>exact False.elim a
def lP(F:cB X.prog X.w X.K X.mg X.base CX k f fd ps sp)(d:cR k X.A)(g:Gl X x)(m:X.mg x=some (.ref f))(i:keepIn X.K (.ref f)=true)(n:Binds X.K fd ps ds)(hd:Vals dvs ds)(j:fg CX X E)
 (o:PA X (e::es) t) (a:autoParam (dB x) aa) (l:autoParam (sE X e es) av) (b:autoParam (bT X pos es) av) :
 PE X (.Call (.Name x p) (e::es) [] pos) (bj sp dvs E t):=by
 intro u s v H Q I h;refine UK (i5 I g m ?_ a);refine VL (h₀:=X.base) I.ok.mod.Js i (bX (o pos u s v H _ I h) λy z ⟨B,C,c,r,q⟩=>⟨c.jN,?_⟩) l b;exact uz F d n hd j c r q
def eM(n:PE X o ta)(c:rf X.K C)(J:Meth X.K C m f)(F:cB X.prog X.w X.K X.mg X.base CX k f fd ps sp)(p:cR k X.A)(N:Binds X.K fd ps ds)(hd:Vals dvs ds)(v:fg CX X E)(O:PA X (e::es) t)
 (b:autoParam (starEach (e::es) X.env=(false,eval e X.env)::starEach es X.env) av) (d:autoParam (bT X pos es) av)
 (y:autoParam (eval (.Call (.Attribute o m apos) (e::es) [] pos) X.env=(do
   let g <- eval o X.env
   standAt apos.atName
   let (f,first) <- holding [g] (getMethod g m pl)
   callWith pos f first (backTo pos (starEach (e::es) X.env)) (backToKw pos (keywordEach [] X.env)))) av) :
 PE X (.Call (.Attribute o m apos) (e::es) [] pos) (eF C m sp dvs E ta t):=by
 intro L s M H Q I h;refine PySem.W.methodCall_KW (pl:=pl) (bX (n L s M H _ I h) λu P z=>?_) y;obtain⟨x,R,i,B,a,T,U,rfl,D,l,q⟩:=z;obtain rfl:u=Value.ref a:=B;refine mC i D c J l ?_;refine VL (first:=[.ref a]) (h₀:=X.base) I.ok.mod.Js J.kp (bX (O pos L P M R _ i q) λus V ⟨vs,G,j,r,S⟩=>⟨j.jN,?_⟩) b d;exact uz (us:=.ref a::us) (vs:=.ref a::vs) F p N hd v j (.cons rfl r) S
def mD(e:PE X o ta)(c:rf X.K C)(r:Meth X.K C m f)(F:cB X.prog X.w X.K X.mg X.base CX k f fd ps sp)(g:cR k X.A)(t:Binds X.K fd ps ds)(hd:Vals dvs ds)(i:fg CX X E)
 (j:autoParam (eval (.Call (.Attribute o m apos) [] [] pos) X.env=(do
   let d <- eval o X.env
   standAt apos.atName
   let (f,first) <- holding [d] (getMethod d m pl)
   callWith pos f first (backTo pos (starEach [] X.env)) (backToKw pos (keywordEach [] X.env)))) av) :
 PE X (.Call (.Attribute o m apos) [] [] pos) (eF C m sp dvs E ta aF):=by
 intro v s y H Q I h;refine PySem.W.methodCall_KW (pl:=pl) (bX (e v s y H _ I h) λu B z=>?_) j;obtain⟨x,D,b,n,a,G,J,rfl,p,l,q⟩:=z;obtain rfl:u=Value.ref a:=n;refine mC b p c r l ?_;exact PySem.W.callWith_K0 (first:=[.ref a]) b.jN r.kp (uz (us:=[.ref a]) (vs:=[.ref a]) F g t hd i b (.cons rfl .nil) q)
structure Mk(K:WK) (C f:Addr):Prop where
 makes:PySem.W.makesIn K C=true
 init:findIn K (.ref C) "__init__"=some (some (.ref f))
 fn:isFn K (.ref f)=true
 kp:keepIn K (.ref C)=true
def rT(M:Mk X.K C f)(F:cB X.prog X.w X.K X.mg X.base CX k f fd ps sp)(g:cR (k+1) X.A)(t:Binds X.K fd ps ds)(hd:Vals dvs ds)
 (i:fg CX X E) (I:Inv X ag σ H s) (r:Vals vs us)
 (h:∀x q,H x=none->H q=none->q≠x->sp (.ref x::(vs++dvs)) (upd (upd H q (.own x)) x (.ins C q [])) (λv j=>v=.cj/\Q (.ref x) j) E) :
 wX X (call (.ref C) us) (EP X ag σ Q) X.xe s:=by
 have c:=h (s.z+1) s.z (I.aS.fresh (Wy _)) (I.aS.fresh (R7 _)) (SI (Uo _));have b:=Inv.made (C:=C) I;have d:Vals (V.ref (s.z+1)::(vs++dvs)) (Value.ref (s.z+1)::(us++ds)):=.cons rfl (r.append hd);have l:(Value.ref (s.z+1)::us++ds).length=ps.length:=by have e:=d.length;rw[F.len _ _ _ _ c]at e;exact e.symm
 refine wpAny_call (zv (f:=f) I.jN M.makes M.init (U_.mp M.fn) (VI (F.run _ X.stack _ _ ⟨Value.ref (s.z+1)::us,[]⟩ (Value.ref (s.z+1)::(us++ds)) _ _ E (g.make C us [])
  (b.I_.make C us []) (t _ (Value.ref (s.z+1)::us) b.jN l) d c) λr m a=>?_))
 cases r with
 |error e=>exact i ag σ _ _ e m b a
 |ok fl=>
  cases fl with
  |ret u=>obtain⟨v,y,n,z,o,p⟩:=b.after a;subst o;exact⟨z,⟨V.ref (s.z+1),y,n,rfl,p⟩⟩
  |next=>exact False.elim a
  |brk=>exact False.elim a
  |cont=>exact False.elim a
def CZ(M:Mk X.K C f)(F:cB X.prog X.w X.K X.mg X.base CX k f fd ps sp)(d:cR (k+1) X.A)(g:Gl X x)(l:X.mg x=some (.ref C))(m:Binds X.K fd ps ds)(hd:Vals dvs ds)(i:fg CX X E)
 (n:PA X (e::es) t) (a:autoParam (dB x) aa) (j:autoParam (sE X e es) av) (b:autoParam (bT X pos es) av) :
 PE X (.Call (.Name x p) (e::es) [] pos) (vX C sp dvs E t):=by
 intro o s u H Q I h;refine UK (i5 I g l ?_ a);refine VL (h₀:=X.base) I.ok.mod.Js M.kp (bX (n pos o s u H _ I h) λv y ⟨z,B,c,r,q⟩=>⟨c.jN,?_⟩) j b;exact rT M F d m hd i c r q
def zz(M:Mk X.K C f)(F:cB X.prog X.w X.K X.mg X.base CX k f fd ps sp)(b:cR (k+1) X.A)(c:Gl X x)(e:X.mg x=some (.ref C))(g:Binds X.K fd ps ds)(hd:Vals dvs ds)(d:fg CX X E)
 (a:autoParam (dB x) aa):PE X (.Call (.Name x p) [] [] pos) (vX C sp dvs E aF):=by
 intro i s j H Q I h;refine UK (i5 I c e ?_ a);exact PySem.W.callWith_K0 I.jN M.kp (rT (us:=[]) M F b g hd d I .nil h)
end
structure aK(N P:List Str) (a:Scope):Prop where
 kind:a.kind=.function
 co:a.isCoroutine=false
 gen:a.isGenerator=false
 nd:N.Nodup
 pre:N.take P.length=P
 par:∀x∈P,a.names.lookup x=some .local\/a.names.lookup x=some .cell
 JA:∀y∈a.names,y.2≠.free
theorem o6{kindOf:Str->Option NameKind}:∀{b:List (Str×WM)}{m:Str->Option WM},(∀v,(x,v)∉b)->bindL kindOf b m x=m x
 |[],_,_=>rfl
 |(n,v)::r,m,h=>by
  unfold bindL;rw[o6 λw a=>h w (Sf _ a)];split
  .have:x≠n:=by rintro rfl;exact h v Sa
   simp[this]
  .rfl
theorem o7{kindOf:Str->Option NameKind}:∀{b:List (Str×WM)}{m:Str->Option WM},(∀v,(x,v)∉b)->bindC kindOf b m x=m x
 |[],_,_=>rfl
 |(n,v)::r,m,h=>by
  unfold bindC;rw[o7 λw a=>h w (Sf _ a)];split
  .rfl
  .have:x≠n:=by rintro rfl;exact h v Sa
   simp[this]
theorem o8{kindOf:Str->Option NameKind}:∀{P:List Str}{c:List WM}{i:Nat}{m:Str->Option WM},P.Nodup->P[i]?=some x->c[i]?=some v->kindOf x=some .local->
 bindL kindOf (P.zip c) m x=some v
 |[],_,_,_,_,h,_,_=>by simp at h
 |_::_,[],_,_,_,_,h,_=>by simp at h
 |p::P,w::c,0,m,e,h1,d,a=>by simp at h1 d;subst h1;subst d;show bindL kindOf ((p,w)::P.zip c) m p=_;unfold bindL;rw[o6 λv b=>(Tz.mp e).1 (List.of_mem_zip b).1,Sg a];simp
 |p::P,w::c,i+1,m,e,h1,d,a=>by show bindL kindOf ((p,w)::P.zip c) m x=_;unfold bindL;exact o8 (i:=i) (Tz.mp e).2 (by simpa using h1) (by simpa using d) a
theorem o9{kindOf:Str->Option NameKind}:∀{P:List Str}{c:List WM}{i:Nat}{m:Str->Option WM},P.Nodup->P[i]?=some x->c[i]?=some v->kindOf x≠some .local->
 bindC kindOf (P.zip c) m x=some v
 |[],_,_,_,_,h,_,_=>by simp at h
 |_::_,[],_,_,_,_,h,_=>by simp at h
 |p::P,w::c,0,m,e,h1,d,a=>by simp at h1 d;subst h1;subst d;show bindC kindOf ((p,w)::P.zip c) m p=_;unfold bindC;rw[o7 λv b=>(Tz.mp e).1 (List.of_mem_zip b).1,Sj a];simp
 |p::P,w::c,i+1,m,e,h1,d,a=>by show bindC kindOf ((p,w)::P.zip c) m x=_;unfold bindC;exact o9 (i:=i) (Tz.mp e).2 (by simpa using h1) (by simpa using d) a
abbrev nS(n:Nat):List Str:=List.replicate n ""
noncomputable def aZ(N:List Str)(a:List V):St:=a.map some++List.replicate (N.length-a.length) none
noncomputable def rV(CX:zx)(P:WL)(w:World)(K:WK)(mg:Str->Option WM)(base:Heap)(N:List Str)(qual:Str)(scope:Scope)(f:Addr)(cd:WM)(A:WN)(outer:List Env)(s:WJ)(H:Hp)(E:XK):Cx where
 prog:=P
 w:=w
 K:=K
 mg:=mg
 base:=base
 A:=A.deeper (envOfC qual scope s.z f cd)
 N:=N
 s₀:=s
 H₀:=H
 env:=envOfC qual scope s.z f cd
 outer:=outer
 stack:=envOfC qual scope s.z f cd::outer
 ex:=[]
 calm:=true
 fn:=λ_=>true
 pn:=[]
 xe:=λe s'=>wpAny (model P w) (A.deeper (envOfC qual scope s.z f cd)) (leaving (envOfC qual scope s.z f cd) e) (λ_ s''=>CX outer H s E e s'') (λe' s''=>CX outer H s E e' s'') s'
def rW{a:Scope}(h:a.names.lookup x=some .cell):∃c,(cellsFrom n a.names []).lookup x=some c:=by have q:=PySem.W.cellsFrom_some a.names n [] (.inl h);exact Option.isSome_iff_exists.mp q
def xB{J:zx}{P:WL}{w:World}{K:WK}{I:Str->Option WM}{F:Heap}{N G:List Str}{D:Str}{C:Scope}
 (S:aK N G C) (hd:A.handled=none) (a:vI P w K I F A outer s H) (t:vs.length=G.length) (r:Vals vs us)
 (x:InCallC s s.z (bindL (envOfC D C s.z f cd).kindOf (G.zip us) λ_=>none) (cellsFrom (s.z+1) C.names []) (bindC (envOfC D C s.z f cd).kindOf (G.zip us) λ_=>none) s1) :
 Inv (rV J P w K I F N D C f cd A outer s H E) [] (aZ N vs) H s1:=by
 have o:G.length<=N.length:=by have:=T_ List.length S.pre;rw[TC]at this;lia
 obtain⟨h1,Q,rfl,l⟩:=x.done;have d:∀b:Addr,b∉(rV J P w K I F N D C f cd A outer s H E).ex:=λb z=>absurd (show b∈([]:List Addr)from z) (by simp);refine⟨⟨a.mod,S.kind,rfl,rfl,R7 _,λy z c h1 L=>?_,λy hy=>?_,λy c _ h=>?_,λ_=>hd,Around.frames_deeper a.frames,.inr ⟨rfl,rfl⟩,λb z=>absurd z (d b),a.bs,a.Cp,λb _ _=>d b,λb z=>absurd z (d b),a.km,a.Fj,a.kt⟩,
  rfl,a.bare,Un.kept l,⟨_,x.toInCall.ns,λi y v h1 L R=>?_⟩,λy c h=>⟨_,x.cell y c h⟩,a.aS.fresh (R7 _),λy c h=>?_,λp g=>absurd (show p∈([]:List (Addr×Obj))from g) (by simp),a.aS.kept l,?_⟩
 .exact name_of_addr x.apart (Uv h1) (Uv L)
 .have hy:C.names.lookup y=some .cell\/C.names.lookup y=some .free:=hy;rcases hy with hy|hy
  .exact rW hy
  .exact absurd rfl (S.JA _ (Uv hy))
 .exact TY (x.above y c (Uv h))
 .have B:i<vs.length:=by
   grind [aZ]
  have M:vs[i]?=some v:=by grind [aZ]
  obtain⟨u,m,O⟩:=r.get M;have g:G[i]?=some y:=by rw[<- S.pre,List.getElem?_take_of_lt (by lia)];exact h1
  have j:G.Nodup:=by rw[<- S.pre];exact S.nd.sublist (List.take_sublist _ _)
  refine⟨u,O,?_⟩;rcases S.par y (SB g)with k|k
  .exact .inl ⟨k,o8 j g m k⟩
  .obtain⟨c,e⟩:=rW (n:=s.z+1) k;refine .inr ⟨.inl k,c,e,?_⟩;have q:=x.cell y c e;rwa[o9 j g m (by show C.names.lookup y≠_;rw[k];decide)]at q
 .exact a.aS.fresh (TY (x.above y c (Uv h)))
 .unfold aZ;show _=N.length;rw[Sm,R9,List.length_replicate];lia
abbrev eQ(Q:VK):Ends:={nx:=λ_ a=>Q .cj a,rt:=Q}
def FL{CX:zx}{P:WL}{w:World}{K:WK}{mg:Str->Option WM}{X:Heap}{k:Nat}{f:Addr}{Z T:Str}{a:Arguments}{c:List Stmt}{O:Scope}{B kV doc pm U ct oc:WM}{an od:Option Addr}
 {osl:Array (Option WM)} {N ps:List Str} {sp:Sp} (lk:K.lookup f=some ⟨oc,od,.func (fnOf Z T a c O B kV doc pm an U ct),osl⟩) (m:codeIn K U T=true) (S:aK N ps O)
 (len:∀Y H Q E,sp Y H Q E->Y.length=ps.length)
 (g:∀(A:WN)(R:List Env)(s:WJ)(H:Hp)(Y:List V)(Q:VK)(E:XK),cR k (A.deeper (envOfC T O s.z f U))->sp Y H Q E->
   ∃t,PSs (rV CX P w K mg X N T O f U A R s H E) c t/\t (eQ Q) (aZ N Y) H) :
 cB P w K mg X CX (k+1) f (fnOf Z T a c O B kV doc pm an U ct) ps sp:=by
 refine⟨len,λA R s H args us Y Q E p i hb r j=>?_⟩;have D:=len _ _ _ _ j;have C:K.In s.heap:=i.mod.Js.keeps λb o e=>(i.bs b o e).1;have lim:s.heap.NoLimit:=i.mod.nolimit.keeps λb o e=>(i.bs b o e).1;have h:∀y∈ps.zip us,O.names.lookup y.1=some .local\/(O.names.lookup y.1=some .cell/\((cellsFrom (s.z+1) O.names []).lookup y.1).isSome=true):=λ⟨n,v⟩ F=>by
  rcases S.par n (List.of_mem_zip F).1 with q|q
  .exact .inl q
  .exact .inr ⟨q,PySem.W.cellsFrom_some _ _ _ (.inl q)⟩
 refine codeAny_call_function p.depth (C _ _ lk) rfl S.co S.gen rfl (PySem.W.codeRec_of C m) (hb _ _ _ _ ?_);refine wpAny_newFunctionEnv_cells S.kind h λenv G s1 x=>?_;subst G;refine⟨lim.keeps x.toInCall.keep,codeAny_func ?_⟩;obtain⟨t,L,M⟩:=g A R s H Y Q E (p.deeper _) j;have I:Inv (rV CX P w K mg X N T O f U A R s H E) [] (aZ N Y) H s1:=xB S p.hd i D r x;refine Ud (L [] s1 (aZ N Y) H _ I M) (λfl z hs=>?_) λe z hs=>hs;have l:∀{d:St}{H':Hp}{v:V}{u:WM},Inv (rV CX P w K mg X N T O f U A R s H E) [] d H' z->RelV v u->Q v H'->CE R P w H s Q u z:=λ{d H' v u} J rv q=>⟨v,H',J.os,J.bare,J.base,J.aS,rv,q⟩;cases fl with
 |ret u=>obtain⟨v,d,H',J,rv,q⟩:=hs;exact l J rv q
 |next=>obtain⟨d,H',J,q⟩:=hs;exact l (v:=V.cj) (u:=Value.none) J rfl q
 |brk=>obtain⟨_,_,_,q⟩:=hs;exact False.elim q
 |cont=>obtain⟨_,_,_,q⟩:=hs;exact False.elim q
section
variable{X:Cx}{x:Str}{p z:Pos}{e:Expr}{A:List Expr}{t:TA}{id T:String}{r:List V->Hp->VK->Prop}
noncomputable def eR(r:List V->Hp->VK->Prop)(t:TA):TE:=λa H Q=>t a H λb c=>r b c Q
theorem jR(c:bJ X (.builtin id) r) (d:Gl X x) (n:X.mg x=none) (f:bootBuiltins x=some (.builtin id)) (o:PA X (e::A) t) (g:autoParam (x≠"__name__") aa) (a:autoParam (dB x) aa)
 (i:autoParam (starEach (e::A) X.env=(false,eval e X.env)::starEach A X.env) av) (b:autoParam (bT X z A) av):PE X (.Call (.Name x p) (e::A) [] z) (eR r t):=by
 intro l s m H Q I h;refine UK (mo I d n f ?_ g a);exact PyProof.Rows.callWith_builtin1 (bX (o z l s m H _ I h) λq u ⟨v,w,j,k,y⟩=>c l u m w v q Q j k y) i b
theorem xC(c:bJ X (.type T) r) (d:Gl X x) (n:X.mg x=none) (f:bootBuiltins x=some (.type T)) (o:PA X (e::A) t) (g:autoParam (x≠"__name__") aa) (a:autoParam (dB x) aa)
 (i:autoParam (starEach (e::A) X.env=(false,eval e X.env)::starEach A X.env) av) (b:autoParam (bT X z A) av):PE X (.Call (.Name x p) (e::A) [] z) (eR r t):=by
 intro l s m H Q I h;refine UK (mo I d n f ?_ g a);exact Vl (bX (o z l s m H _ I h) λq u ⟨v,w,j,k,y⟩=>c l u m w v q Q j k y) i b
end
end L2
namespace HT
section
noncomputable def sIx(n d:Nat):Option Int->Nat
 |none=>d
 |some v=>if v<0 then(v+(n:Int)).toNat else min v.toNat n
def sIx_nat(n d k:Nat):sIx n d (some (k:Int))=min k n:=by show(if(k:Int)<0 then((k:Int)+(n:Int)).toNat else min (k:Int).toNat n)=min k n;rw[Sj (by lia),Vq]
def GQ(n d:Nat)(hd:d<=n)(o:Option Int):sIx n d o<=n:=by
 cases o with
 |none=>exact hd
 |some v=>
  show(if v<0 then(v+(n:Int)).toNat else min v.toNat n)<=n
  grind
def vY(v:Int)(n d:Nat):(if v<0 then max (v+(n:Int)) 0 else min v (n:Int))=((sIx n d (some v):Nat):Int):=by
 show(if v<0 then max (v+(n:Int)) 0 else min v (n:Int))=(((if v<0 then(v+(n:Int)).toNat else min v.toNat n):Nat):Int)
 grind
def uA(lo a:Option Int)(n:Nat):Builtin.Slice.sliceAdjust lo a 1 (n:Int)=(((sIx n 0 lo:Nat):Int),((sIx n n a:Nat):Int)):=by
 have h1:¬((1:Int)<0):=by lia
 unfold Builtin.Slice.sliceAdjust;simp only[h1,TV];refine VB ?_ ?_
 .cases lo with
  |none=>rfl
  |some v=>exact vY v n 0
 .cases a with
  |none=>rfl
  |some v=>exact vY v n n
def uB(i j:Nat):Builtin.Slice.slicePlaces (i:Int) (j:Int) 1=j-i:=by
 unfold Builtin.Slice.slicePlaces
 grind
def mE(p:IsPart v o)(h:Q o s):wpAny (model prog w) A (Builtin.Slice.slicePartIndex v) Q E s:=by
 cases p with
 |none=>exact slicePart_none h
 |int i t=>exact slicePart_int h
def sliceApplied_gen{lo a:Option Int}{n:Nat}{Q:Int×Int×Nat->WJ->Prop}(f:s.heap.IsSliceOf sl vl vu .none)(g:IsPart vl lo)(d:IsPart vu a)
 (h:Q (((sIx n 0 lo:Nat):Int),1,sIx n n a-sIx n 0 lo) s):wpAny (model prog w) A (Builtin.Slice.sliceApplied (.ref sl) (pure (n:Int))) Q E s:=by
 obtain⟨os,b,e,c⟩:=id f;unfold Builtin.Slice.sliceApplied Builtin.Slice.sliceFields;refine KE (KE (V0 b c (x:=vl) rfl (KE (V0 b c (x:=vu) rfl (KE (V0 b c (x:=.none) rfl (R5 ?_)))))));refine KE (slicePart_none ?_);show wpAny _ _ (if((1:Int)==0)=true then _ else _) _ _ s;rw[Sj (by decide)];refine KE (mE g (KE (mE d (KE (R5 ?_)))));show wpAny _ _ (match Builtin.Slice.sliceAdjust lo a 1 (n:Int)with|(lo,a)=>pure (lo,(1:Int),Builtin.Slice.slicePlaces lo a 1)) _ _ s;rw[uA lo a n];show wpAny _ _ (pure (((sIx n 0 lo:Nat):Int),(1:Int),Builtin.Slice.slicePlaces ((sIx n 0 lo:Nat):Int) ((sIx n n a:Nat):Int) 1)) _ _ s;rw[uB];exact R5 h
def zA(a:Array WM)(i k:Nat):((List.range k).filterMap λ(m:Nat)=>a[((i:Int)+(m:Int)*1).toNat]?).toArray=((a.toList.drop i).take k).toArray:=by
 have e:(λ(m:Nat)=>a[((i:Int)+(m:Int)*1).toNat]?)=λm=>a[i+m]?:=by grind
 rw[e];have:=pick_run a i k;rw[List.filterMap_map]at this;have b:((λx=>a[x]?) ∘ λx=>i+x)=λm=>a[i+m]?:=rfl;rw[b]at this;rw[this]
def getItem_tuple_cut{i j:WM}{lo b:Option Int}{Q:WM->WJ->Prop}(c:IsTup s.heap t items)(p:s.heap.IsSliceOf sl i j .none)(q:IsPart i lo)(k:IsPart j b)
 (n:¬(sIx items.size 0 lo=0/\sIx items.size items.size b=items.size))
 (h:Q (.ref s.z) { s with heap:=s.heap.push { cls:=.type "tuple",data:=.seq ((items.toList.drop (sIx items.size 0 lo)).take (sIx items.size items.size b-sIx items.size 0 lo)).toArray } })
 (r:items.size<=sizeLine):wpAny (model prog w) A (getItem (.ref t) (.ref sl)) Q E s:=by
 have a:sizeOk (.seq ((items.toList.drop (sIx items.size 0 lo)).take (sIx items.size items.size b-sIx items.size 0 lo)).toArray):=by
  show((items.toList.drop (sIx items.size 0 lo)).take (sIx items.size items.size b-sIx items.size 0 lo)).toArray.size<=sizeLine
  grind
 have o:sIx items.size items.size b<=items.size:=GQ _ _ (R7 _) b;obtain⟨os,d,e,l⟩:=id p;have f:s.TypeIs (.ref sl) "slice":=⟨os,d,e⟩;unfold getItem
 try with_reducible refine TH ?_
 first|refine KE (R5 ?_)|skip
 refine KE (wpAny_sequenceKey c.typeIs (by decide) ?_);refine KE (T6 (name:=Str.ofString "__getitem__") c.typeIs TR
  (Tv TR c.typeIs entry_tuple_getitem ?_ (args_tuple_getitem _ _)))
 show wpAny _ _ (Builtin.Tuple.tupleItemsOf (.ref t) >>= _) _ _ s;refine KE (tupleItemsOf_ c ?_);refine KE (Vm f ?_);rw[Sg (by decide)];refine KE (sliceApplied_gen p q k ?_);have g:¬((((sIx items.size 0 lo:Nat):Int)==0&&(1:Int)==1&&(sIx items.size items.size b-sIx items.size 0 lo)==items.size)=true):=by grind
 show wpAny _ _ (if(((sIx items.size 0 lo:Nat):Int)==0&&(1:Int)==1&&(sIx items.size items.size b-sIx items.size 0 lo)==items.size)=true then _ else _) _ _ s;rw[Sj g,zA]
 first
  |exact KE (m:=Builtin.Tuple.tupleExact _) (Tq (R5 ⟨_,rfl,R5 h⟩) a)
  |exact KE (m:=Builtin.Tuple.tupleExact _) (Tq (KE (R5 (R5 ⟨_,rfl,R5 h⟩))) a)
  |exact KE (KE (m:=Builtin.Tuple.tupleExact _) (Tq (R5 (R5 ⟨_,rfl,R5 h⟩)) a))
  |exact KE (KE (m:=Builtin.Tuple.tupleExact _) (Tq (R5 ⟨_,rfl,R5 h⟩) a))
end
end HT
namespace L2
abbrev TO:=St->Hp->(Option Int->Hp->Prop)->Prop
def PO(X:Cx)(e:Option Expr)(t:TO):Prop:=
 ∀(c:List (Addr×Obj))(s:WJ)(b:St)(H:Hp)(Q:Option Int->Hp->Prop),Inv X c b H s->t b H Q->
  wpAny (model X.prog X.w) X.A (evalPart e X.env) (λu a=>∃o d,Inv X c b d a/\IsPart u o/\Q o d) X.xe s
noncomputable def lQ:TO:=λ_ H Q=>Q none H
noncomputable def lb(t:TE):TO:=λa H Q=>t a H λx b=>∃i,x=.int i/\Q (some i) b
section
variable{X:Cx}{e:Expr}{O:TE}{lo N:Option Expr}{R P:TO}{S U:Pos}
def p8:PO X none lQ:=by intro a s b H Q I h;rw[evalPart_none];exact R5 ⟨none,H,I,.none,h⟩
def gx(h:PE X e O):PO X (some e) (lb O):=by intro d s f H Q I a;rw[evalPart_some];refine bX (h d s f H _ I a) λu k ⟨x,g,b,c,j⟩=>?_;obtain⟨i,rfl,q⟩:=j;obtain⟨t,rfl⟩:=c;exact⟨some i,g,b,.int i t,q⟩
def J0(X:Cx)(r:V->Option Int->Option Int->Hp->VK->Prop):Prop:=
 ∀(d:List (Addr×Obj))(s:WJ)(f:St)(H:Hp)(x:V)(v a b:WM)(lo N:Option Int)(c:Addr)(Q:VK),Inv X d f H s->RelV x v->s.heap.IsSliceOf c a b .none->IsPart a lo->IsPart b N->r x lo N H Q->
  ∃T id,typeLookup (.type T) "__getitem__"=pure (some (.builtin id))/\s.TypeIs v T/\wpAny (model X.prog X.w) X.A (getItem v (.ref c)) (EP X d f Q) X.xe s
noncomputable def GR(r:V->Option Int->Option Int->Hp->VK->Prop)(O:TE)(R P:TO):TE:=λc H Q=>O c H λx d=>R c d λl a=>P c a λu b=>r x l u b Q
def ie(f:J0 X r)(g:PE X e O)(i:PO X lo R)(j:PO X N P):PE X (.Subscript e (.Slice lo N none U) S) (GR r O R P):=by intro D s E H Q I h;refine Subscript_ (bX (g D s E H _ I h) λv F ⟨x,G,k,m,J⟩=>?_);refine wpAny_Slice (bX (i D F E G _ k J) λc K ⟨l,n,o,L,M⟩=>bX (j D K E n _ o M) λvu a ⟨u,d,p,t,w⟩=>?_);rw[evalPart_none];refine R5 ?_;have y:Inv X D E d { a with heap:=a.heap.push { cls:=.type "slice",data:=.fields #[c,vu,.none] } }:=p.kept (t':=a.toks) λb C q=>R8 _ q;obtain⟨T,id,z,A,B⟩:=f D { a with heap:=a.heap.push { cls:=.type "slice",data:=.fields #[c,vu,.none] } } E d x v c vu l u a.z Q y m (Heap.IsSliceOf.new ..) L t w;show wX X (subscriptTail e (.Slice lo N none U) v (.ref a.z)) (EP X D E Q) X.xe { a with heap:=a.heap.push { cls:=.type "slice",data:=.fields #[c,vu,.none] } };exact tail_any (ops:=[.ref a.z,v]) A z B (by with_unfolding_all rfl)
def fh(a:List V)(lo N:Option Int):List V:=(a.drop (HT.sIx a.length 0 lo)).take (HT.sIx a.length a.length N-HT.sIx a.length 0 lo)
theorem ig(a:List V)(lo N:Option Int):(fh a lo N).length<=a.length:=by unfold fh;rw[TC,VC];lia
def NA(K:WK):V->Option Int->Option Int->Hp->VK->Prop:=λx lo N H Q=>∃a b,x=.ref a/\SqT K H a b/\
 ¬(HT.sIx b.length 0 lo=0/\HT.sIx b.length b.length N=b.length)/\∀p,H p=none->Q (.ref p) (upd H p (.tup (fh b lo N)))
theorem GS:J0 X (NA X.K):=by
 rintro z s A H x v k l lo N m Q I f w y g⟨a,p,rfl,i,j,q⟩;cases f;obtain⟨t,r,d,u⟩:=I.tuple i;have c:t.toArray.size=p.length:=by rw[Ss];exact r.length.symm
 refine⟨"tuple",_,TR.lookup,d.typeIs,?_⟩;refine HT.getItem_tuple_cut d w y g (by rwa[c]) ?_ (by rwa[c]);rw[c];refine⟨.ref s.z,_,I.laid (t':=s.toks) (o:=.tup (fh p lo N)) (λb n q=>R8 _ q) (R7 _) ?_,rfl,q _ (I.aS.fresh (R7 _))⟩;exact⟨SE (ig p lo N) u,_,(r.drop (HT.sIx p.length 0 lo)).take (HT.sIx p.length p.length N-HT.sIx p.length 0 lo),IsTup.new _ _⟩
end
noncomputable def FM(n:Nat)(i:Int):Option Nat:=if 0<=i then(if i<n then some i.toNat else none)else if -(n:Int)<=i then some (i+n).toNat else none
def vZ{a:Type}(b:List a)(i:Int):Option a:=(FM b.length i).bind λj=>b[j]?
def C3(h:FM n i=some j):seqIndex? i n=some j/\j<n/\-(n:Int)<=i/\i<n:=by
 unfold FM at h;by_cases a:0<=i
 .rw[Sg a]at h;by_cases h1:i<n
  .rw[Sg h1]at h;have e:i.toNat=j:=Th h;exact⟨by rw[seqIndex_of a h1,e],by lia,by lia,h1⟩
  .rw[Sj h1]at h;cases h
 .rw[Sj a]at h;by_cases h1:-(n:Int)<=i
  .rw[Sg h1]at h;have e:(i+n).toNat=j:=Th h;exact⟨by rw[seqIndex_neg (by lia) h1,e],by lia,h1,by lia⟩
  .rw[Sj h1]at h;cases h
def v4{c:Type}{b:List c}{i:Int}{v:c}(h:vZ b i=some v):∃j,seqIndex? i b.length=some j/\b[j]?=some v/\j<b.length/\-(b.length:Int)<=i/\i<b.length:=by
 unfold vZ at h;cases e:FM b.length i with
 |none=>rw[e]at h;cases h
 |some j=>rw[e]at h;obtain⟨h1,d,f,a⟩:=C3 e;exact⟨j,h1,h,d,f,a⟩
def cD{a:Type}{b:List a}{j:Nat}{v:a}(h:b[j]?=some v):vZ b (j:Int)=some v:=by grind [FM,vZ]
def C4(b:Expr):Prop:=∀o i,subscripted b false o i=operate [o,i] (getItem o i)
def NB(X:Cx)(r:R2):Prop:=
 ∀(b a:Expr)(c:List (Addr×Obj))(s:WJ)(d:St)(H:Hp)(x y:V)(v u:WM)(Q:VK),Inv X c d H s->RelV x v->RelV y u->r x y H Q->
  subscripted a false v u=operate [v,u] (getItem v u)->wpAny (model X.prog X.w) X.A (subscriptTail b a v u) (EP X c d Q) X.xe s
def FN(X:Cx)(id:String)(r:V->List V->Hp->VK->Prop):Prop:=
 ∀(a:List (Addr×Obj))(s:WJ)(b:St)(H:Hp)(x:V)(c:List V)(v:WM)(d:List WM)(Q:VK),Inv X a b H s->RelV x v->Vals c d->r x c H Q->
  wpAny (model X.prog X.w) X.A (call (.builtin id) (v::d)) (EP X a b Q) X.xe s
section
variable{X:Cx}
def jS(c:NB X r)(i:PE X a ta)(j:PE X b tb)(k:C4 b):PE X (.Subscript a b pos) (ba r ta tb):=by intro l s m H Q I h;exact Subscript_ (GK i j I h λv u n x y d e f g q=>c a b l n m d x y v u Q e f g q (k _ _))
def mF(K:WK):R2:=λx y H Q=>∃p a i v,x=.ref p/\y=.int i/\SqL K H p a/\vZ a i=some v/\Q v H
def lD(K:WK):R2:=λx y H Q=>∃p a i v,x=.ref p/\y=.int i/\SqT K H p a/\vZ a i=some v/\Q v H
def fM:NB X (mF X.K):=by
 intro b c F s G H x y v u Q I g k h J;obtain⟨p,N,i,z,rfl,rfl,l,m,q⟩:=h;cases g;obtain⟨t,rfl⟩:=k;obtain⟨D,r,E,O⟩:=I.list l;obtain⟨j,h1,M,P,n,o⟩:=v4 m;obtain⟨w,f,d⟩:=r.get M;have A:=r.length;have C:=pY;have a:EP X F G Q w s:=⟨z,H,I,d,q⟩;by_cases L:0<=i
 .have e:i.toNat=j:=by rw[seqIndex_of L o]at h1;exact Th h1
  exact item_listR E.isList L (by lia) (by rw[e];simpa using f) a J
 .have e:(i+(D.toArray.size:Int)).toNat=j:=by rw[seqIndex_neg (by lia) n]at h1;rw[Ss,<- A];exact Th h1
  exact subscriptTail_builtinR (x:=w) E.isList.typeIs slot_list_getitem.lookup
   (wpAny_getItem_list_neg (Q:=λr B=>r=w/\EP X F G Q r B) E.isList (by lia) (by rw[Ss]<;>lia) (by lia) (by rw[e];simpa using f) ⟨rfl,a⟩) J
def GT:NB X (lD X.K):=by
 intro a b C s D H x y v u Q I e f h F;obtain⟨p,L,i,z,rfl,rfl,g,k,q⟩:=h;cases e;obtain⟨t,rfl⟩:=f;obtain⟨G,r,E,M⟩:=I.tuple g;obtain⟨j,h1,J,N,o,A⟩:=v4 k;obtain⟨w,l,c⟩:=r.get J;have m:=r.length;have B:=pY;have d:EP X C D Q w s:=⟨z,H,I,c,q⟩;exact subscriptTail_builtinR (x:=w) E.typeIs slot_tuple_getitem.lookup
  (getItem_tuple (j:=j) (Q:=λr n=>r=w/\EP X C D Q r n) E (by lia) (by lia) (by rw[Ss,<- m];exact h1) (by simpa using l) ⟨rfl,d⟩) F
def p_(lo a:Option Int)(n:Nat):(sliceBounds lo a none n).1=((HT.sIx n 0 lo:Nat):Int)/\(sliceBounds lo a none n).2.1=((HT.sIx n n a:Nat):Int)/\(sliceBounds lo a none n).2.2=1:=by
 refine⟨?_,?_,rfl⟩
 .cases lo with
  |none=>simp[sliceBounds,HT.sIx]
  |some i=>
   simp only[sliceBounds,HT.sIx,Option.getD_none,show(1:Int)>0 by decide,Vu]
   grind
 .cases a with
  |none=>simp[sliceBounds,HT.sIx]
  |some i=>
   simp only[sliceBounds,HT.sIx,Option.getD_none,show(1:Int)>0 by decide,Vu]
   grind
def oF(b:List WM)(lo a:Option Int):slicePick b.toArray lo a none=((b.drop (HT.sIx b.length 0 lo)).take (HT.sIx b.length b.length a-HT.sIx b.length 0 lo)).toArray:=by obtain⟨h1,c,d⟩:=p_ lo a b.toArray.size;unfold slicePick;rw[h1,c,d];simp only[sliceRange_one,pick_run,Ss]<;>rfl
def zH(K:WK):V->Option Int->Option Int->Hp->VK->Prop:=λx lo b H Q=>∃a c,x=.ref a/\SqL K H a c/\∀p,H p=none->Q (.ref p) (upd H p (.lst (fh c lo b)))
def lR:J0 X (zH X.K):=by rintro y s z H x v j k lo c l Q I e p t f⟨a,n,rfl,g,q⟩;cases e;obtain⟨u,r,d,w⟩:=I.list g;have i:=r.length;refine⟨"list",_,slot_list_getitem.lookup,d.isList.typeIs,?_⟩;refine wpAny_getItem_list_slice d.isList p t f .none (by simp) ?_ (by rw[Ss]<;>lia);rw[oF,<- i];refine⟨.ref s.z,_,I.laid (t':=s.toks) (o:=.lst (fh n lo c)) (λb m q=>R8 _ q) (R7 _) ?_,rfl,q _ (I.aS.fresh (R7 _))⟩;exact⟨SE (ig n lo c) w,_,0,(r.drop (HT.sIx n.length 0 lo)).take (HT.sIx n.length n.length c-HT.sIx n.length 0 lo),Sn _ rfl⟩
def qa:bJ X (.builtin "len") (λi H Q=>∃p a,i=[.ref p]/\(SqL X.K H p a\/SqT X.K H p a)/\Q (.int a.length) H):=by
 rintro k s l H i m Q I r⟨p,a,rfl,hq,q⟩;obtain⟨u,rfl,d⟩:=eB r;cases d;have e:=pY;rcases hq with hq|hq
 .obtain⟨f,b,g,j⟩:=I.list hq;have c:=b.length;exact Calls.call_len_list g.isList (by simp only[Ss]<;>lia) ⟨.int a.length,H,I.tok _,⟨s.toks+1,by rw[Ss,c]⟩,q⟩
 .obtain⟨f,b,g,j⟩:=I.tuple hq;have c:=b.length;exact len_tuple g (by simp only[Ss]<;>lia) ⟨.int a.length,H,I.tok _,⟨s.toks+1,by rw[Ss,c]⟩,q⟩
def qb:bJ X (.type "list") (λA H Q=>∃p a,A=[.ref p]/\(SqL X.K H p a\/SqT X.K H p a)/\∀l,H l=none->Q (.ref l) (upd H l (.lst a))):=by
 rintro B s C H A D Q I r⟨p,a,rfl,hq,q⟩;obtain⟨u,rfl,k⟩:=eB r;cases k;have f:∀(t:List WM),Vals a t->a.length<=sizeLine->∀(v:Heap)(c:Nat),(∀b j,s.heap.get? b=some j->v.get? b=some j)->
  v.get? s.z=some { cls:=.type "list",dict:=none,data:=.seq t.toArray c,slots:=#[] }->EP X B C Q (.ref s.z) {s with heap:=v}:=λt d x v c y e=>
  ⟨.ref s.z,_,I.laid (t':=s.toks) y (R7 _) (show ObjOk X.prog X.w _ v _ (.lst a)from⟨x,t,c,d,e⟩),rfl,q _ (I.aS.fresh (R7 _))⟩
 rcases hq with hq|hq
 .obtain⟨t,d,z,x⟩:=I.list hq;have m:=d.length;obtain⟨o,g,i,n,hd⟩:=z.isList;exact call_list_seq p (.inl rfl) g i hd (λv c y e=>f t d x v c y e) (by simp only[Ss]<;>lia)
 .obtain⟨t,d,z,x⟩:=I.tuple hq;have m:=d.length;obtain⟨o,g,i,n,hd⟩:=z;exact call_list_seq p (.inr rfl) g i hd (λv c y e=>f t d x v c y e) (by simp only[Ss]<;>lia)
def J1(K:WK)(T:String)(x:V)(H:Hp):Prop:=match x with
 |.str _=>T="str"
 |.int _=>T="int"
 |.ref p=>(T="list"/\∃b,SqL K H p b)\/(T="tuple"/\∃o,K.lookup p=some o/\o.cls=.type "tuple"/\o.dict=none)\/
  (T="dict"/\((∃a,H p=some (.dK a))\/∃a,H p=some (.dT a)))\/(T="set"/\∃S n,H p=some (.set S n))
 |_=>False
def zJ(I:Inv X ag σ H s)(r:RelV x v)(ty:J1 X.K T x H) :
 s.TypeIs v T/\∀a,v=.ref a->∃d,s.heap.get? a=some d/\d.dict=none:=by
 cases x with
 |str z=>obtain⟨t,rfl⟩:=r;cases(show T="str" from ty);exact⟨typeIs_str s z t,λ_ e=>nomatch e⟩
 |int i=>obtain⟨t,rfl⟩:=r;cases(show T="int" from ty);exact⟨typeIs_int s i t,λ_ e=>nomatch e⟩
 |ref p=>
  cases r;rcases ty with⟨rfl,q,f⟩|⟨rfl,o,b,g,hd⟩|⟨rfl,b⟩|⟨rfl,S,n,b⟩
  .obtain⟨m,_,l,_⟩:=I.list f;refine⟨l.isList.typeIs,λa e=>?_⟩;cases e;obtain⟨o,n,e,c,hd,_⟩:=l;exact⟨o,e,hd⟩
  .refine⟨⟨o,I.jN p o b,g⟩,λa e=>?_⟩;cases e;exact⟨o,I.jN _ o b,hd⟩
  .have z:∃o,s.heap.get? p=some o/\o.ExactDict:=by
    rcases b with⟨j,b⟩|⟨j,b⟩
    .obtain⟨_,_,_,_,o,_,_,e,h,_⟩:=I.aS p _ b;exact⟨o,e,h⟩
    .obtain⟨_,_,_,_,o,_,_,e,h,_⟩:=I.aS p _ b;exact⟨o,e,h⟩
   obtain⟨o,e,h⟩:=z;refine⟨⟨o,e,h.1⟩,λa k=>?_⟩;cases k;exact⟨o,e,h.2.1⟩
  .obtain⟨o,_,_,_,e,h,_⟩:=I.aS p _ b;refine⟨⟨o,e,h.1⟩,λa k=>?_⟩;cases k;exact⟨o,e,h.2.1⟩
 |_=>exact False.elim ty
noncomputable def zK(K:WK)(T:String)(r:V->List V->Hp->VK->Prop)(b:TE):TE:=λc H Q=>b c H λx a=>J1 K T x a/\r x [] a Q
noncomputable def qc(K:WK)(T:String)(r:V->List V->Hp->VK->Prop)(d:TE)(t:TA):TE:=λb H Q=>d b H λx c=>J1 K T x c/\t b c λe a=>r x e a Q
variable{o e:Expr}{O:List Expr}{P:TE}{t:TA}{M:Str}{N L:Pos}{T id:String}{r:V->List V->Hp->VK->Prop}
def qd(g:PlainAttrs T)(slot:Slot T M id)(c:typeOf (.builtin id)=pure (.type "method_descriptor")) (l:FN X id r) (i:PE X o P)
 (a:autoParam (attributeBase o M X.env (eval o X.env)=eval o X.env) av) (b:autoParam ((N.endLine==L.line)=true) av):PE X (.Call (.Attribute o M N) [] [] L) (zK X.K T r P):=by
 intro j s k H Q I h;refine VM a b (bX (i j s k H _ I h) λv m ⟨x,n,d,f,ty,p⟩=>?_);obtain⟨h1,q⟩:=zJ d f ty;exact⟨T,id,g,slot,c,h1,q,Uu rfl (PySem.evalArgs_none (l j m k n x [] v [] Q d f .nil p))⟩
theorem cn(k:PlainAttrs T)(slot:Slot T M id)(f:typeOf (.builtin id)=pure (.type "method_descriptor")) (w:FN X id r) (l:PE X o P) (y:PA X (e::O) t)
 (b:autoParam (attributeBase o M X.env (eval o X.env)=eval o X.env) av)
 (d:autoParam (((backTo L (starEach (e::O) X.env)).all (λx=>!x.1)&&(backToKw L (keywordEach [] X.env)).all (λx=>x.1.isSome)
   && decide ((e::O).length+([]:List Keyword).length+(if([]:List Keyword).isEmpty then 0 else 1)<30))=true) av)
 (c:autoParam ((N.endLine==L.line)=true) av) (z:autoParam (starEach (e::O) X.env=(false,eval e X.env)::starEach O X.env) av) (a:autoParam (bT X L O) av) :
 PE X (.Call (.Attribute o M N) (e::O) [] L) (qc X.K T r P t):=by
 intro q s u H Q I h;refine wpAny_Call_method_late b d c rfl (bX (l q s u H _ I h) λv A ⟨x,B,g,i,ty,C⟩=>?_);obtain⟨h1,D⟩:=zJ g i ty;refine⟨T,id,k,slot,f,h1,D,?_⟩;have j:=y L q A u B _ g C;rw[z]at j ⊢;refine Uu (by show(false ||(backTo L (starEach O X.env)).any (·.1))=false;rw[a]<;>rfl) (UR ?_);exact bX j λE F ⟨G,m,n,p,J⟩=>w q F u m x G v E Q n i p J
end
def NC(X:Cx)(id:String)(r:V->List V->Hp->VK->Prop):Prop:=
 ∀(a:List (Addr×Obj))(s:WJ)(b:St)(H:Hp)(x:V)(c:List V)(v:WM)(d:List WM)(Q:VK),Inv X a b H s->RelV x v->Vals c d->r x c H Q->
  wpAny (model X.prog X.w) X.A (call (.builtin id) (v::d)) (EP X a b Q) X.xe s
def Vals.one{x:V}{a:List WM}(h:Vals [x] a):∃u,a=[u]/\RelV x u:=eB h
def Vals.two:∀{x y:V}{a:List WM},Vals [x,y] a->∃u v,a=[u,v]/\RelV x u/\RelV y v
 |_,_,_,.cons r (.cons q .nil)=>⟨_,_,rfl,r,q⟩
def Vals.zero:∀{a:List WM},Vals [] a->a=[]
 |_,.nil=>rfl
theorem Vals.dropLast(h:Vals xs us):Vals xs.dropLast us.dropLast:=by
 induction h with
 |nil=>exact .nil
 |cons r t a=>
  cases t with
  |nil=>exact .nil
  |cons q b=>exact .cons r a
def uC{d:Type}(l:List d):l.eraseIdx (l.length-1)=l.dropLast:=by
 induction l with
 |nil=>rfl
 |cons a r c=>
  cases r with
  |nil=>rfl
  |cons b r=>
   have e:(a::b::r).length-1=((b::r).length-1)+1:=by have h1:(a::b::r).length=r.length+2:=rfl;have f:(b::r).length=r.length+1:=rfl;lia
   rw[e,List.eraseIdx_cons_succ,c]
   all_goals rfl
section
def Inv.IZ{h its':List WM}{f:Array WM->Array WM}(I:Inv X ag σ H s)(a:H l=some (.lst xs))
 (e:s.heap.get? l=some { cls:=.type "list",data:=.seq h.toArray n }) (b:f h.toArray=its'.toArray) (c:Vals ys its') (i:ys.length<=sizeLine) :
 Inv X ag σ (upd H l (.lst ys)) {s with heap:=s.heap.update l (Obj.mapSeq f),toks:=t'}:=by
 have q:=PySem.IsL.update e f;rw[b]at q;refine I.write (x:=l) (e:=l) (by rw[a];exact trivial) (.inl rfl) (λg u j d=>(UJ s.heap (Obj.mapSeq f) (Tp j)).trans d) ⟨_,q⟩ ?_;exact⟨i,its',_,c,q⟩
def Inv.Pj(I:Inv X ag σ H s)(a:Vals ys its)(b:ys.length<=sizeLine) :
 Inv X ag σ (upd H s.z (.lst ys)) { s with heap:=s.heap.push { cls:=.type "list",data:=.seq its.toArray },toks:=t' }:=
 I.laid (λ_ _ q=>R8 _ q) (R7 _) ⟨b,its,0,a,Sn _ rfl⟩
theorem Inv.fresh(I:Inv X ag σ H s):H s.z=none:=I.aS.fresh (R7 _)
def Inv.yU(I:Inv X ag σ H s)(a:H l=some (.lst xs)):xs.length<=sizeLine/\∃(b:List WM)(n:Nat),Vals xs b/\xs.length=b.length/\s.heap.get? l=some { cls:=.type "list",data:=.seq b.toArray n }:=by obtain⟨z,b,n,r,e⟩:=I.aS l _ a;exact⟨z,b,n,r,r.length,e⟩
def zM(h:n<=sizeLine):Builtin.List.listTooLong n=false:=by unfold Builtin.List.listTooLong;exact Tw (by lia)
end
section
def cW:V->List V->Hp->VK->Prop:=λx b H Q=>∃l a y,x=.ref l/\b=[y]/\H l=some (.lst a)/\a.length<sizeLine/\Q .cj (upd H l (.lst (a++[y])))
def bN:NC X "list.append" cW:=by rintro g s i H x j v k Q I b f⟨l,m,y,rfl,rfl,a,o,q⟩;cases b;obtain⟨u,rfl,ru⟩:=f.one;obtain⟨z,d,n,r,c,e⟩:=I.yU a;refine call_meets F.slot_list_append ⟨_,e,rfl⟩ F.entry_list_append (F.args_list_append_2 _ _) (PySem.list_append l d.toArray n u (by rw[Ss];lia)) ⟨e,?_⟩;refine⟨.cj,_,I.IZ (its':=d++[u]) a e (by simp) (r.append (.cons ru .nil)) ?_,rfl,q⟩;rw[Sm,SY];lia
def jT:V->List V->Hp->VK->Prop:=λx d H Q=>∃l b a c,x=.ref l/\d=[.ref b]/\H l=some (.lst a)/\H b=some (.lst c)/\a.length+c.length<=sizeLine/\Q .cj (upd H l (.lst (a++c)))
def i6:NC X "list.extend" jT:=by
 rintro A s B H x C v D Q I f t⟨l,b,E,G,rfl,rfl,d,g,J,q⟩;cases f;obtain⟨u,rfl,ru⟩:=t.one;cases ru;obtain⟨z,o,n,r,k,e⟩:=I.yU d;obtain⟨m,a,w,i,j,y⟩:=I.yU g;have p:o.toArray.size+a.toArray.size<=sizeLine:=by rw[Ss,Ss];lia
 have c:¬(!o.toArray.isEmpty&&Builtin.List.listTooLong (o.toArray.size+a.toArray.size))=true:=by rw[zM p,Vw];exact SS
 refine call_meets F.slot_list_extend ⟨_,e,rfl⟩ F.entry_list_extend (F.args_list_extend_2 _ _)
  (AutoSeq1.list_extend_list_list_0 l o.toArray n b a.toArray w c (by rw[Ss];lia) (by lia)) ⟨e,y,?_⟩
 refine⟨.cj,_,I.IZ (its':=o++a) d e (by simp) (r.append i) ?_,rfl,q⟩;rw[Sm];lia
def GU:V->List V->Hp->VK->Prop:=λx b H Q=>∃l a y,x=.ref l/\b=[]/\H l=some (.lst a)/\a[a.length-1]?=some y/\Q y (upd H l (.lst a.dropLast))
def zN:NC X "list.pop" GU:=by
 rintro m s o H x p v t Q I d k⟨l,w,y,rfl,rfl,c,f,q⟩;cases d;have a:=k.zero;subst a;obtain⟨z,j,n,r,g,e⟩:=I.yU c;obtain⟨u,i,ru⟩:=r.get f;have b:j.toArray[j.toArray.size-1]?=some u:=by show j.toArray[j.length-1]?=some u;rwa[<- SW,<- g]
 refine call_meets F.slot_list_pop ⟨_,e,rfl⟩ F.entry_list_pop (F.args_list_pop_1 _) (MeetsSeq.list_pop_last l j.toArray n u b (by rw[Ss];lia)) ⟨e,?_⟩;refine⟨y,_,I.IZ (its':=j.dropLast) c e ?_ r.dropLast ?_,ru,q⟩
 .show j.toArray.eraseIdxIfInBounds (j.toArray.size-1)=j.dropLast.toArray;rw[Ss,List.eraseIdxIfInBounds_toArray,uC]
 .rw[List.length_dropLast];lia
def GV:R2:=λx y H Q=>∃l b a c,x=.ref l/\y=.ref b/\H l=some (.lst a)/\H b=some (.lst c)/\a.length+c.length<=sizeLine/\∀p,H p=none->Q (.ref p) (upd H p (.lst (a++c)))
def zR:lC X (binaryOp .Add) GV:=by
 rintro w s A H x y v u Q I c d⟨l,b,B,C,rfl,rfl,f,g,D,q⟩;cases c;cases d;obtain⟨z,p,n,r,m,e⟩:=I.yU f;obtain⟨o,a,E,i,j,t⟩:=I.yU g;refine PySem.P.add_list e t ?_ (by rw[Ss,Ss];lia);have k:p.toArray++a.toArray=(p++a).toArray:=by simp
 rw[k];exact⟨.ref _,_,I.Pj (t':=s.toks) (r.append i) (by rw[Sm];lia),rfl,q _ I.fresh⟩
end
section
variable{j:Type}[DecidableEq j]
noncomputable def cp(a:List (j×V))(k:j):Option V:=(a.find? λb=>decide (b.1=k)).map (·.2)
noncomputable def bG(a:List (j×V))(k:j)(v:V):List (j×V):=if(a.any λb=>decide (b.1=k))=true then a.map (λb=>if b.1=k then(b.1,v)else b)else a++[(k,v)]
noncomputable def ji(a:List (j×V))(k:j):List (j×V):=a.filter λb=>decide (b.1≠k)
def dk{p:j×V}(e:p.1=k):cp (p::r) k=some p.2:=by simp[cp,UF,e]
def dm{p:j×V}(e:¬p.1=k):cp (p::r) k=cp r k:=by simp[cp,UF,e]
theorem gg(k:j):∀a:List (j×V),(a.any λb=>decide (b.1=k))=(cp a k).isSome
 |[]=>rfl
 |p::r=>by
  rw[Wm];by_cases e:p.1=k
  .simp only[dk e,Sz e,Bool.true_or,Option.isSome_some]
  .rw[dm e,Tw e,Bool.false_or];exact gg k r
theorem de(a:List (j×V))(k:j)(v:V):(bG a k v).length<=a.length+1:=by grind [bG]
def cI{a:List (j×V)}(v:V)(h:cp a k=none):bG a k v=a++[(k,v)]:=by unfold bG;rw[gg,h];exact Sj (by decide)
def RelO.ff(r:RelO o u):o.isSome=u.isSome:=by
 cases o with
 |none=>cases u with
  |none=>rfl
  |some _=>exact(show False from r).elim
 |some _=>cases u with
  |none=>exact(show False from r).elim
  |some _=>rfl
theorem RelO.getD(r:RelO o u)(a:RelV d d'):RelV (o.getD d) (u.getD d'):=by
 cases o with
 |none=>cases u with
  |none=>exact a
  |some _=>exact(show False from r).elim
 |some _=>cases u with
  |none=>exact(show False from r).elim
  |some _=>exact r
def KV.val{f:List (j×V)}(r:KV f vs)(k:j):RelO (cp f k) (valueAt vs k):=by
 unfold KV at r;induction r with
 |nil=>exact ⟨⟩
 |@cons p q i a h t d=>
  obtain⟨h1,g⟩:=h;by_cases e:p.1=k
  .have c:q.1=k:=h1.symm.trans e;have b:valueAt (q::a) k=some q.2:=by simp[valueAt,UF,c]
   rwa[dk e,b]
  .have c:¬q.1=k:=λz=>e (h1.trans z);have b:valueAt (q::a) k=valueAt a k:=by simp[valueAt,UF,c]
   rwa[dm e,b]
theorem KV.any(r:KV kvs vs)(k:j):(kvs.any λb=>decide (b.1=k))=vs.any λb=>decide (b.1=k):=by
 unfold KV at r;induction r with
 |nil=>rfl
 |cons h t a=>rw[Wm,Wm,a,h.1]
def KV.Jj(r:KV kvs vs)(k:j)(b:RelV y u) :
 KV (kvs.map λd=>if d.1=k then(d.1,y)else d) (vs.map λd=>if d.1=k then(d.1,u)else d):=by
 unfold KV at r ⊢;induction r with
 |nil=>exact .nil
 |@cons p q e c h t a=>
  rw[SD,SD];refine .cons ?_ a
  grind
def KV.put(r:KV kvs vs)(k:j)(a:RelV y u):KV (bG kvs k y) (stored vs k u):=by
 unfold bG stored;rw[r.any k];by_cases e:(vs.any λb=>decide (b.1=k))=true
 .rw[Sg e,Sg e];exact r.Jj k a
 .rw[Sj e,Sj e];exact Paired.snoc r ⟨rfl,a⟩
theorem KV.drop(r:KV kvs vs)(k:j):KV (ji kvs k) (without vs k):=by
 unfold KV at r ⊢;unfold ji without;induction r with
 |nil=>exact .nil
 |@cons p q i f h t c=>
  obtain⟨h1,g⟩:=h;rw[T7,T7];by_cases e:p.1=k
  .grind
  .have d:¬q.1=k:=λz=>e (h1.trans z);have a:decide (p.1≠k)=true:=by simp[e]
   have b:decide (q.1≠k)=true:=by simp[d]
   rw[Sg a,Sg b];exact .cons ⟨h1,g⟩ c
theorem KV.length(r:KV kvs vs):kvs.length=vs.length:=Us r
def zU(a:List (j×V))(k:j):(ji a k).length<=a.length:=TZ _ _
end
def jj(r:RelV (kV k) u):(aH P w).is k u=true:=by
 cases k with
 |inl i=>obtain⟨t,e⟩:=(show ∃t,u=Value.int i t from r);subst e;exact rH P w i t
 |inr x=>obtain⟨t,e⟩:=(show ∃t,u=Value.str x t from r);subst e;exact rJ P w x t
theorem o_:∀{a:List bc}{b:List WM},Vals (a.map kV) b->ItemsAre (aH P w) a b
 |[],_,r=>by rw[UL]at r;cases r;exact .nil
 |k::a,_,r=>by
  rw[SD]at r;cases r with
  |cons h t=>exact .cons (jj h) (o_ t)
abbrev KT(H:Hp):List (List bc×V)->List (List bc×Addr×WM)->Prop:=Paired λp q=>p.1=q.1/\H q.2.1=some (.tup (p.1.map kV))/\RelV p.2 q.2.2
def KT.val{H:Hp}(r:KT H kvs xs)(k:List bc):RelO (cp kvs k) ((atKey xs k).map (·.2)):=by
 induction r with
 |nil=>exact ⟨⟩
 |@cons p q g a h t d=>
  obtain⟨h1,_,f⟩:=h;by_cases e:p.1=k
  .have c:q.1=k:=h1.symm.trans e;have b:atKey (q::a) k=some q.2:=by simp[atKey,UF,c]
   rwa[dk e,b]
  .have c:¬q.1=k:=λz=>e (h1.trans z);have b:atKey (q::a) k=atKey a k:=by simp[atKey,UF,c]
   rwa[dm e,b]
def KT.Jj(r:KT H kvs xs)(k:List bc)(b:RelV y u) :
 KT H (kvs.map λd=>if d.1=k then(d.1,y)else d) (xs.map (putAt k u)):=by
 induction r with
 |nil=>exact .nil
 |@cons p q e c h t a=>
  rw[SD,SD];refine .cons ?_ a;obtain⟨h1,f,g⟩:=h;unfold putAt
  grind
def KT.put(r:KT H kvs xs)(k:List bc)(c:H b=some (.tup (k.map kV)))(a:RelV y u) :
 KT H (bG kvs k y) (storedH xs k b u):=by
 have e:(kvs.any λd=>decide (d.1=k))=(atKey xs k).isSome:=by rw[gg,(r.val k).ff,V1]
 unfold bG storedH;rw[e];by_cases q:(atKey xs k).isSome=true
 .rw[Sg q,Sg q];exact r.Jj k a
 .rw[Sj q,Sj q];exact Paired.snoc r ⟨rfl,c,a⟩
def KT.keeps(r:KT H kvs xs)(c:∀b a,H b=some (.tup a)->H' b=some (.tup a)):KT H' kvs xs:=Paired.FH r λ_ _ z=>⟨z.1,c _ _ z.2.1,z.2.2⟩
section
def zV(ok:HOk P w H h)(e:Rd H a u):ObjOk P w H h a u:=e.ok ok
def ij(ok:HOk P w H h)(e:Rd H a (.dK kvs)):kvs.length<=sizeLine/\(a==sysModules)=false/\∃b,KV kvs b/\h.DictOf (aH P w) a b:=show ObjOk P w H h a (.dK kvs)from zV ok e
def rX(ok:HOk P w H h)(e:H a=some (.dK kvs)):kvs.length<=sizeLine/\(a==sysModules)=false/\∃b,KV kvs b/\h.DictOf (aH P w) a b:=ij ok (.inl e)
theorem dI(ok:HOk P w H h)(e:H a=some (.tup (ks.map kV))):(tupleKind (aH P w)).is h ks a:=by obtain⟨_,b,r,o,h1,c,n,d⟩:=(show ObjOk P w H h a (.tup (ks.map kV))from ok a _ e);exact⟨o,b.toArray,n,h1,c,d,by simpa using o_ r⟩
def ik(ok:HOk P w H h)(e:Rd H a (.dT kvs)):kvs.length<=sizeLine/\(a==sysModules)=false/\
 ∃j,KT H kvs j/\h.DictOfH (tupleKind (aH P w)) a j:=by
 obtain⟨z,y,j,r,o,k,n,h1,s,u,c,d⟩:=(show ObjOk P w H h a (.dT kvs)from zV ok e);refine⟨z,y,j,r,o,k,n,h1,s,u,c,λx b=>?_,d⟩;have all:∀{l:List (List bc×V)}{m:List (List bc×Addr×WM)},KT H l m->∀x∈m,(tupleKind (aH P w)).is h x.1 x.2.1:=by
  intro l m q;induction q with
  |nil=>intro x b;exact nomatch b
  |@cons p q v f g t i=>grind [dI]
 exact all r x b
def FO(ok:HOk P w H h)(e:H a=some (.dT kvs)):kvs.length<=sizeLine/\(a==sysModules)=false/\
 ∃b,KT H kvs b/\h.DictOfH (tupleKind (aH P w)) a b:=ik ok (.inl e)
end
def DGet(H:Hp)(a:Addr)(y:V)(r:Option V):Prop:=(∃c k,Rd H a (.dK c)/\y=kV k/\r=cp c k)\/∃c k b,Rd H a (.dT c)/\y=.ref b/\H b=some (.tup (k.map kV))/\r=cp c k
def DPut(H:Hp)(a:Addr)(y v:V)(d:Hp):Prop:=
 (∃c k,H a=some (.dK c)/\y=kV k/\c.length<sizeLine/\d=upd H a (.dK (bG c k v)))\/
 ∃c k b,H a=some (.dT c)/\y=.ref b/\H b=some (.tup (k.map kV))/\c.length<sizeLine/\d=upd H a (.dT (bG c k v))
theorem DGet.k{b:List (bc×V)}{k:bc}(e:H a=some (.dK b)):DGet H a (kV k) (cp b k):=.inl ⟨b,k,.inl e,rfl,rfl⟩
def DGet.t{d:List (List bc×V)}{k:List bc}(e:H a=some (.dT d))(c:H b=some (.tup (k.map kV))):DGet H a (.ref b) (cp d k):=.inr ⟨d,k,b,.inl e,rfl,c,rfl⟩
theorem DPut.k{c:List (bc×V)}{k:bc}{v:V}(e:H a=some (.dK c))(b:c.length<sizeLine):DPut H a (kV k) v (upd H a (.dK (bG c k v))):=.inl ⟨c,k,e,rfl,b,rfl⟩
def DPut.t{f:List (List bc×V)}{k:List bc}{v:V}(e:H a=some (.dT f))(c:H b=some (.tup (k.map kV)))(d:f.length<sizeLine) :
 DPut H a (.ref b) v (upd H a (.dT (bG f k v))):=.inr ⟨f,k,b,e,rfl,c,d,rfl⟩
section
def Inv.big(I:Inv X ag σ H s):sysModules<s.z:=by have h:mainGlobals<s.z:=(I.mod.glob.keeps I.bk).lt;exact Nat.lt_trans (by decide) h
def xD(r:A.units+1<cLine)(I:Inv X ag σ H s)(g:DGet H a y (some v))(n:RelV y u)(h:∀f q,Inv X ag σ H q->RelV v f->Q f q) :
 wpAny (model X.prog X.w) A (getItem (.ref a) u) Q E s:=by
 rcases g with⟨B,k,e,i,l⟩|⟨B,k,b,e,i,t,l⟩
 .subst i;obtain⟨z,hd,C,c,dd⟩:=ij I.aS e;obtain⟨f,j,d⟩:=RelO.some_of (v:=v) (o:=valueAt C k) (by rw[l];exact c.val k);exact wpAny_getItem_of (jj n) dd.mapOf j (h f _ (I.tok _) d)
 .subst i;cases(show u=Value.ref b from n);obtain⟨z,hd,D,c,dd⟩:=ik I.aS e;obtain⟨f,j,d⟩:=RelO.some_of (v:=v) (o:=(atKey D k).map (·.2)) (by rw[l];exact c.val k);obtain⟨p,x,m⟩:=Tf.mp j;refine wpAny_getItem_heap (UM r) (dI I.aS t) dd x ?_;rw[m];exact h f _ (I.tok _) d
def C5(j:A.units+1<cLine)(I:Inv X ag σ H s)(g:DGet H a y o)(f:RelV y u)(h:∀i,Inv X ag σ H i->Q (.bool (!o.isSome)) i) :
 wpAny (model X.prog X.w) A (compareOp .NotIn u (.ref a)) Q E s:=by
 rcases g with⟨n,k,e,d,l⟩|⟨n,k,b,e,d,m,l⟩
 .subst d;obtain⟨z,hd,p,c,dd⟩:=ij I.aS e;refine wpAny_notIn_of (jj f) hd dd.mapOf ?_;rw[<- (c.val k).ff,<- l];exact h _ (I.tok _)
 .subst d;cases(show u=Value.ref b from f);obtain⟨z,hd,r,c,dd⟩:=ik I.aS e;refine wpAny_notIn_heap (UM j) (dI I.aS m) hd dd ?_;have q:=(c.val k).ff;rw[V1]at q;rw[<- q,<- l];exact h _ (I.tok _)
def gz(I:Inv X ag σ H s)(c:JH (H a))(f:Heap.SameBut a s.heap h')(d:∃q,h'.get? a=some q)(new:ObjOk X.prog X.w (upd H a ob) h' a ob) :
 Inv X ag σ (upd H a ob) {s with heap:=h',toks:=t'}:=
 I.write (x:=a) (e:=a) c (.inl rfl) (λb q g z=>(f.2 b g).trans z) d new
def qe(z:kvs.length<=sizeLine)(hd:(a==sysModules)=false)(b:KV kvs vs)(dd:h'.DictOf (aH P w) a vs) :
 ObjOk P w H' h' a (.dK kvs):=⟨z,hd,vs,b,dd⟩
def xE(B:A.units+1<cLine)(I:Inv X ag σ H s)(g:DPut H a y v H')(o:RelV y u)(M:RelV v r)(h:∀p,Inv X ag σ H' p->Q () p) :
 wpAny (model X.prog X.w) A (setItem (.ref a) u r) Q E s:=by
 rcases g with⟨J,k,e,j,l,m⟩|⟨J,k,b,e,j,t,l,m⟩
 .subst j m;obtain⟨z,hd,O,d,dd⟩:=rX I.aS e;have K:O.length<=sizeLine:=by rwa[<- d.length]
  have n:(bG J k v).length<=sizeLine:=by have:=de J k v;lia
  refine wpAny_setItem_pairs (hsz:=K) (jj o) dd λN f L=>h _ ?_;have C:∃q,N.get? a=some q:=let ⟨q,_,_,i,_⟩:=f;⟨q,i⟩;exact gz I (by rw[e];exact ⟨⟩) L C (qe n hd (d.put k M) f)
 .subst j m;cases(show u=Value.ref b from o);obtain⟨z,hd,P,d,dd⟩:=FO I.aS e;have K:P.length<=sizeLine:=by rwa[<- Us d]
  have n:(bG J k v).length<=sizeLine:=by have:=de J k v;lia
  refine wpAny_setItem_heap (hsz:=K) (UM B) (dI I.aS t) dd λN f L=>h _ ?_;obtain⟨q,R,S,i,T,U,D,_,F⟩:=f;refine gz I (by rw[e];exact ⟨⟩) L ⟨q,i⟩ ⟨n,hd,_,(d.put k t M).keeps λc G x=>?_,q,R,S,i,T,U,D,F⟩;rwa[ai (zh x e (λz=>nomatch z))]
end
section
def J2(I:Inv X ag σ H s)(e:H a=some (.dK kvs))(f:RelV (kV k) u)(l:cp kvs k=some v)(y:more=[]\/∃x,more=[x])
 (h:∀c j,Inv X ag σ (upd H a (.dK (ji kvs k))) j->RelV v c->Q c j):wpAny (model X.prog X.w) A (call (.builtin "dict.pop") (.ref a::u::more)) Q E s:=by
 obtain⟨z,hd,B,b,dd⟩:=rX I.aS e;obtain⟨c,m,g⟩:=RelO.some_of (v:=v) (o:=valueAt B k) (by rw[<- l];exact b.val k);have n:(keyPart u).isSome=true:=by
  cases k with
  |inl i=>obtain⟨t,q⟩:=(show ∃t,u=Value.int i t from f);subst q;rfl
  |inr x=>obtain⟨t,q⟩:=(show ∃t,u=Value.str x t from f);subst q;rfl
 have C:argsOk "dict.pop" ⟨.ref a::u::more,[]⟩:=by
  rcases y with q|⟨x,q⟩
  .subst q;exact PySem.F.args_dict_pop_2 _ _
  .subst q;exact PySem.F.args_dict_pop_3 _ _ _
 refine Vn PySem.F.slot_dict_pop dd.typeIs PySem.F.entry_dict_pop C (meets_dict_pop_there (aH X.prog X.w) a (jj f) more y n)
  ⟨B,c,dd,by rwa[<- b.length],m,λD d G=>h c _ ?_ g⟩
 have p:∃q,D.get? a=some q:=let ⟨q,_,_,r,_⟩:=d;⟨q,r⟩;exact gz I (by rw[e];exact ⟨⟩) G p (qe (SE (zU kvs k) z) hd (b.drop k) d)
end
def GW(i:Expr):Prop:=∀a b,subscripted i false a b=operate [a,b] (getItem a b)
def C6{E:WM->WJ->Prop}{p:Env}{b a:Expr}{l:Pos}{T id:String}{Q:WM->WJ->Prop}
 (n:typeLookup (.type T) "__getitem__"=pure (some (.builtin id))) (q:GW a)
 (h:wpAny (model prog w) A (eval b p) (λo e=>wpAny (model prog w) A (eval a p) (λi c=>c.TypeIs o T/\wpAny (model prog w) A (getItem o i) Q E c) E e) E s) :
 wpAny (model prog w) A (eval (.Subscript b a l) p) Q E s:=by
 refine Subscript_ (Ud h (λo e j=>Ud j (λi c d=>?_) λ_ _ x=>x) λ_ _ x=>x);obtain⟨m,d⟩:=d;unfold subscriptTail;refine KE ?_;rw[getitemInPython_of_ne m.not_modules];refine KE (UW m n ?_);have g:wpAny (model prog w) A (subscripted a false o i) (λr f=>wpAny (model prog w) A (letTemporaryGo b o r >>= λ_=>pure r) Q E f) E c:=by rw[q o i];exact wpAny_operating (Ud d (λr f k=>KE (wpAny_letTemporaryGo (R5 k))) λ_ _ x=>x)
 first
  |exact R5 (KE g)
  |exact KE (R5 (KE g))
  |exact KE g
def rY(I:Inv X ag σ H s)(g:DGet H a y o):s.TypeIs (.ref a) "dict":=by
 rcases g with⟨c,k,e,_,_⟩|⟨c,k,b,e,_,_,_⟩
 .obtain⟨_,_,d,_,dd⟩:=ij I.aS e;exact dd.typeIs
 .obtain⟨_,_,f,_,dd⟩:=ik I.aS e;exact dd.typeIs
noncomputable def ip(d ty:TE):TE:=λc H Q=>d c H λx e=>ty c e λy b=>∃a v,x=.ref a/\DGet b a y (some v)/\Q v b
noncomputable def jk(g ty c:TE):TS:=λD f H=>c f H λv h=>g f h λx d=>ty f d λy e=>∃a b,x=.ref a/\DPut e a y v b/\D.nx f b
section
def C7(d:X.A.units+1<cLine)(e:PE X o td)(f:PE X i ty)(z:GW i):PE X (.Subscript o i pos) (ip td ty):=by intro t s w H Q I h;refine C6 PySem.F.slot_dict_getitem.lookup z (bX (e t s w H _ I h) λu B ⟨x,C,j,k,D⟩=>bX (f t B w C _ j D) λp J ⟨y,l,c,m,a,v,E,g,G⟩=>?_);subst E;obtain rfl:u=Value.ref a:=k;exact⟨rY c g,xD d c g m λq r n b=>⟨v,l,n,b,G⟩⟩
def gA(b:X.A.units+1<cLine)(c:PE X o td)(d:PE X i ty)(e:PE X value tv)(G:swapsWith value (some (.Subscript o i pos')) pos.line X.env=pure false) :
 PS X (.Assign [.Subscript o i pos'] value pos) (jk td ty tv):=by
 intro F s E H D I h;refine wpAny_Assign_Subscript (bX (e F s E H _ I h) λr J ⟨v,K,f,L,M⟩=>bX (c F J E K _ f M) λu N ⟨x,j,k,l,O⟩=>bX (d F N E j _ k O) λw z ⟨y,B,m,n,a,p,P,g,q⟩=>?_) G;subst P;obtain rfl:u=Value.ref a:=l;exact xE b m g n L λC t=>⟨E,p,t,q⟩
end
def rZ(h:Heap)(a:sysModules<h.y):ObjOk P w H (h.push { cls:=.type "dict",data:=.dict #[] }) h.y (.dK []):=⟨Sw _,UG.mpr (Tp (SI a)),[],.nil,Heap.DictOf.new h⟩
def zW(h:Heap)(a:sysModules<h.y):ObjOk P w H (h.push { cls:=.type "dict",data:=.dict #[] }) h.y (.dT []):=⟨Sw _,UG.mpr (Tp (SI a)),[],.nil,_,#[],0,Sn _ rfl,⟨rfl,rfl,rfl⟩,rfl,rfl,S1⟩
def qg:TE:=λ_ H Q=>∀p,H p=none->Q (.ref p) (upd H p (.dK []))
def dY:TE:=λ_ H Q=>∀p,H p=none->Q (.ref p) (upd H p (.dT []))
section
def mG:PE X (.Dict [] [] pos) qg:=λb s c H Q I h=>wpAny_Dict_empty ⟨.ref s.z,_,I.laid (a:=s.z) (o:=.dK []) (t':=s.toks) (λ_ _ q=>R8 _ q) (R7 _) (rZ s.heap I.big),rfl,h _ (I.aS.fresh (R7 _))⟩
def cJ:PE X (.Dict [] [] pos) dY:=λb s c H Q I h=>wpAny_Dict_empty ⟨.ref s.z,_,I.laid (a:=s.z) (o:=.dT []) (t':=s.toks) (λ_ _ q=>R8 _ q) (R7 _) (zW s.heap I.big),rfl,h _ (I.aS.fresh (R7 _))⟩
end
noncomputable def uD:List (TE×TE)->St->Hp->(List (V×V)->Hp->Prop)->Prop
 |[],_,H,Q=>Q [] H
 |(e,a)::r,d,H,Q=>e d H λx f=>a d f λy b=>uD r d b λg c=>Q ((x,y)::g) c
abbrev VV:List (V×V)->List (WM×WM)->Prop:=Paired λp q=>RelV p.1 q.1/\RelV p.2 q.2
def MU(X:Cx)(b:Pos)(e:List (Option Expr))(a:List Expr)(c:List (TE×TE)):Prop:=
 ∀(g:List (Addr×Obj))(s:WJ)(f:St)(H:Hp)(Q:List (V×V)->Hp->Prop),Inv X g f H s->uD c f H Q->
  wpAny (model X.prog X.w) X.A (evalPairs (pairTrees e a X.env b)) (λj d=>∃h i,Inv X g f i d/\VV h j/\Q h i) X.xe s
def C8:MU X pos [] [] []:=λa s b H Q I h=>pairTrees_nil_walk ⟨[],H,I,.nil,h⟩
def zX(b:PE X k tk)(c:PE X v tv)(d:MU X pos ks vs trs) :
 MU X pos (some k::ks) (v::vs) ((tk,tv)::trs):=λq s r H Q I h=>
 pairTrees_cons_walk (bX (b q s r H _ I h) λu t ⟨x,w,e,f,z⟩=>bX (c q t r w _ e z) λo A ⟨y,g,i,j,B⟩=>bX (d q A r g _ i B) λD p ⟨C,l,m,a,n⟩=>⟨(x,y)::C,l,m,.cons ⟨f,j⟩ a,n⟩)
def iq(c b:List (bc×V)):List (bc×V):=b.foldl (λa d=>bG a d.1 d.2) c
def KV.merge:∀{d:List (bc×V)}{rs:List (bc×WM)}{f:List (bc×V)}{g:List (bc×WM)},KV d rs->KV f g->KV (iq f d) (merged g rs):=by
 intro d rs f g r;unfold KV at r;induction r generalizing f g with
 |nil=>intro q;exact q
 |@cons p q i c h t a=>
  intro b;have e:KV (bG f p.1 p.2) (stored g q.1 q.2):=by have:=b.put p.1 h.2;rwa[<- h.1]
  exact a e
theorem jm:∀(b a:List (bc×V)),(iq a b).length<=a.length+b.length
 |[],a=>by show a.length<=a.length+0;lia
 |p::r,a=>by
  have h1:=jm r (bG a p.1 p.2)
  grind [de,iq,bG]
theorem mH:∀{g:List (bc×V)}{i:List (WM×WM)},VV (g.map λj=>(kV j.1,j.2)) i->∃rs,Carries (aH P w) i rs/\KV g rs
 |[],_,r=>by rw[UL]at r;cases r;exact⟨[],⟨⟩,.nil⟩
 |p::g,_,r=>by
  rw[SD]at r;cases r with
  |@cons a b e k h t=>obtain⟨rs,c,q⟩:=mH (P:=P) (w:=w) t;obtain⟨f,d⟩:=b;exact⟨(p.1,d)::rs,⟨jj h.1,rfl,c⟩,.cons ⟨rfl,h.2⟩ q⟩
def FP(a:List (TE×TE)):TE:=λe H Q=>∀p,H p=none->uD a e (upd H p (.dK [])) λf b=>b p=some (.dK [])/\∃c:List (bc×V),f=c.map (λd=>(kV d.1,d.2))/\c.length<=15/\Q (.ref p) (upd b p (.dK (iq [] c)))
def C9(h:MU X pos keys values trs)(i:keys.all (·.isSome)=true)(j:keys.length=values.length)(x:keys≠[])
 (d:keys.length<=15):PE X (.Dict keys values pos) (FP trs):=by
 intro y s A H Q I q;have k:=I.aS.fresh (R7 s.z);have l:=I.laid (a:=s.z) (o:=.dK []) (h':=s.heap.push { cls:=.type "dict",data:=.dict #[] }) (t':=s.toks) (λ_ _ q=>R8 _ q) (R7 _) (rZ s.heap I.big);refine wpAny_Dict_walk (knd:=aH X.prog X.w) i j x d (bX (h y _ A _ _ l (q _ k)) λF G ⟨J,u,g,f,e,v,B,lk,C⟩=>?_);subst B;obtain⟨rs,c,m⟩:=mH (P:=X.prog) (w:=X.w) f;obtain⟨z,hd,n,p,dd⟩:=rX g.aS e;cases p;refine⟨rs,c,dd,λh' b D=>⟨.ref s.z,_,?_,rfl,C⟩⟩;have E:(iq [] v).length<=sizeLine:=by have h1:=jm v [];rw[UX]at h1;rw[SQ];lia
 have r:∃q,h'.get? s.z=some q:=let ⟨q,_,_,t,_⟩:=b;⟨q,t⟩;exact gz g (by rw[e];exact ⟨⟩) D r (qe E hd (m.merge .nil) b)
structure M1(X:Cx) (o:Expr) (m:Str) (apos:Pos) (e:Expr) (cpos:Pos):Prop where
 base:attributeBase o m X.env (eval o X.env)=eval o X.env
 eL:((backTo cpos (starEach [e] X.env)).all (λx=>!x.1)&&(backToKw cpos (keywordEach [] X.env)).all (λx=>x.1.isSome)
  && decide (([e]:List Expr).length+([]:List Keyword).length+(if([]:List Keyword).isEmpty then 0 else 1)<30))=true
 line:(apos.endLine==cpos.line)=true
 trees:backTo cpos (starEach [e] X.env)=[(false,eval e X.env)]
structure M2(X:Cx) (o:Expr) (m:Str) (apos:Pos) (e f:Expr) (cpos:Pos):Prop where
 base:attributeBase o m X.env (eval o X.env)=eval o X.env
 eL:((backTo cpos (starEach [e,f] X.env)).all (λx=>!x.1)&&(backToKw cpos (keywordEach [] X.env)).all (λx=>x.1.isSome)
  && decide (([e,f]:List Expr).length+([]:List Keyword).length+(if([]:List Keyword).isEmpty then 0 else 1)<30))=true
 line:(apos.endLine==cpos.line)=true
 trees:backTo cpos (starEach [e,f] X.env)=[(false,eval e X.env),(false,eval f X.env)]
def J3(H:Hp)(a:Addr):Prop:=(∃b,Rd H a (.dK b))\/∃b,Rd H a (.dT b)
def qh(I:Inv X ag σ H s)(d:J3 H a) :
 s.TypeIs (.ref a) "dict"/\(∀b,Value.ref a=.ref b->∃c,s.heap.get? b=some c/\c.dict=none)/\(a==sysModules)=false:=by
 rcases d with⟨f,e⟩|⟨f,e⟩
 .obtain⟨_,hd,h,_,dd⟩:=ij I.aS e;refine⟨dd.typeIs,λb q=>?_,hd⟩;cases q;obtain⟨c,_,_,h1,g,_⟩:=dd;exact⟨c,h1,g.2.1⟩
 .obtain⟨_,hd,i,_,dd⟩:=ik I.aS e;refine⟨dd.typeIs,λb q=>?_,hd⟩;cases q;obtain⟨c,_,_,h1,g,_⟩:=dd;exact⟨c,h1,g.2.1⟩
section
def GX(m:A.units+1<cLine)(I:Inv X ag σ H s)(g:DGet H a y o)(f:RelV y u)(h:∀i j,Inv X ag σ H j->RelV (o.getD .cj) i->Q i j) :
 wpAny (model X.prog X.w) A (call (.builtin "dict.get") [.ref a,u]) Q E s:=by
 rcases g with⟨p,k,e,d,l⟩|⟨p,k,b,e,d,n,l⟩
 .subst d;obtain⟨z,hd,r,c,dd⟩:=ij I.aS e;refine Vn Ux dd.typeIs Vd (PySem.F.args_dict_get_2 _ _) (meets_dict_get (aH X.prog X.w) a (jj f) hd) ⟨_,dd.mapOf,h _ _ (I.tok _) ?_⟩;rw[l];exact(c.val k).getD rfl
 .subst d;cases(show u=Value.ref b from f);obtain⟨z,hd,q,c,dd⟩:=ik I.aS e;refine Vn Ux dd.typeIs Vd (PySem.F.args_dict_get_2 _ _) (meetsH_dict_get (tupleKind (aH X.prog X.w)) a b hd) ⟨UM m,k,q,dI I.aS n,dd,h _ _ (I.tok _) ?_⟩;rw[l];exact(c.val k).getD rfl
def GY(n:A.units+1<cLine)(I:Inv X ag σ H s)(g:DGet H a y o)(i:RelV y u)(t:RelV d r)(h:∀j m,Inv X ag σ H m->RelV (o.getD d) j->Q j m) :
 wpAny (model X.prog X.w) A (call (.builtin "dict.get") [.ref a,u,r]) Q E s:=by
 rcases g with⟨q,k,e,f,l⟩|⟨q,k,b,e,f,p,l⟩
 .subst f;obtain⟨z,hd,x,c,dd⟩:=ij I.aS e;refine Vn Ux dd.typeIs Vd (PySem.F.args_dict_get_3 _ _ _) (meets_dict_get_default (aH X.prog X.w) a (jj i) hd r) ⟨_,dd.mapOf,h _ _ (I.tok _) ?_⟩;rw[l];exact(c.val k).getD t
 .subst f;cases(show u=Value.ref b from i);obtain⟨z,hd,v,c,dd⟩:=ik I.aS e;refine Vn Ux dd.typeIs Vd (PySem.F.args_dict_get_3 _ _ _) (meetsH_dict_get_default (tupleKind (aH X.prog X.w)) a b hd r) ⟨UM n,k,v,dI I.aS p,dd,h _ _ (I.tok _) ?_⟩;rw[l];exact(c.val k).getD t
end
noncomputable def uE(e ty:TE):TE:=λc H Q=>e c H λx d=>∃a,x=.ref a/\J3 d a/\ty c d λy b=>∃o,DGet b a y o/\Q (o.getD .cj) b
noncomputable def cu(g ty c:TE):TE:=λe H Q=>g e H λx f=>∃a,x=.ref a/\J3 f a/\ty e f λy d=>c e d λz b=>∃o,DGet b a y o/\Q (o.getD z) b
def mI(f ty:TE):TE:=λd H Q=>f d H λx e=>∃a,x=.ref a/\J3 e a/\ty d e λy b=>∃c k v,b a=some (.dK c)/\y=kV k/\cp c k=some v/\Q v (upd b a (.dK (ji c k)))
section
def zY(f:X.A.units+1<cLine)(i:PE X o td)(j:PE X e ty)(m:M1 X o "get" apos e cpos):PE X (.Call (.Attribute o "get" apos) [e] [] cpos) (uE td ty):=by intro B s C H Q I h;refine wpAny_Call_method m.base m.eL m.line S5 Ux PySem.F.type_dict_get (bX (i B s C H _ I h) λu D ⟨x,E,c,k,a,G,d,J⟩=>?_);subst G;obtain rfl:u=Value.ref a:=k;obtain⟨l,K,_⟩:=qh c d;refine⟨l,K,?_⟩;rw[m.trees];refine Uu rfl (UR (Vg (bX (j B D C E _ c J) λt M ⟨y,n,p,q,v,g,L⟩=>VZ ?_)));exact GX f p g q λw z r b=>⟨_,n,r,b,L⟩
def zZ(i:X.A.units+1<cLine)(j:PE X o td)(k:PE X e ty)(l:PE X f tx)(m:M2 X o "get" apos e f cpos):PE X (.Call (.Attribute o "get" apos) [e,f] [] cpos) (cu td ty tx):=by intro N s O H Q I h;refine wpAny_Call_method m.base m.eL m.line S5 Ux PySem.F.type_dict_get (bX (j N s O H _ I h) λu P ⟨x,R,c,n,a,S,d,T⟩=>?_);subst S;obtain rfl:u=Value.ref a:=n;obtain⟨p,U,_⟩:=qh c d;refine⟨p,U,?_⟩;rw[m.trees];refine Uu rfl (UR (Vg (bX (k N P O R _ c T) λE V ⟨y,q,r,t,W⟩=>Vg (bX (l N V O q _ r W) λG J ⟨z,v,w,B,K,g,C⟩=>VZ ?_))));exact GY i w g t B λL M D b=>⟨_,v,D,b,C⟩
def r_(f:PE X o td)(g:PE X e ty)(m:M1 X o "pop" apos e cpos):PE X (.Call (.Attribute o "pop" apos) [e] [] cpos) (mI td ty):=by intro C s D H Q I h;refine wpAny_Call_method m.base m.eL m.line S5 PySem.F.slot_dict_pop PySem.F.type_dict_pop (bX (f C s D H _ I h) λu E ⟨x,G,c,i,a,J,d,K⟩=>?_);subst J;obtain rfl:u=Value.ref a:=i;obtain⟨j,L,_⟩:=qh c d;refine⟨j,L,?_⟩;rw[m.trees];refine Uu rfl (UR (Vg (bX (g C E D G _ c K) λt O z=>VZ ?_)));obtain⟨y,w,n,p,M,k,v,q,rfl,l,N⟩:=z;exact J2 n q p l (.inl rfl) λA B r b=>⟨v,_,r,b,N⟩
end
end L2
namespace Att
open PySem.W PySem.Calls
def lE:∀(d:List Int)(e:List WM),WellAll P h e (d.map WData.int)->IntsAre e d:=by
 intro d;induction d with
 |nil=>intro e w;rw[UL]at w;cases w;exact .nil
 |cons n d c=>
  intro e w;rw[SD]at w;cases w with
  |cons a b=>cases a;exact .cons _ _ (c _ b)
def xF{l:OpenLaw}{n:Nat}(i:l.most=some n){P:Params}
 (b:l.row.toRowW.claim.pre args=true) (e:WellAll P h vals args) :
 ∃a t s,vals=[Value.ref a]/\args=[WData.list (s.map WData.int)]/\h.get? a=some { cls:=.type "list",data:=.seq t.toArray }/\IntsAre t s/\s.length<=n:=by
 have f:WShape.hasAll [] args [.list .int]=true:=(pre_splitW b).1;have g:l.pre.holds [] {args:=args}=true:=(pre_splitW b).2;obtain⟨d,r,rfl,h1,u⟩:=hasAllW_cons f;obtain rfl:=hasAllW_nil u;obtain⟨w,rfl,v⟩:=hasW_list h1;obtain⟨s,rfl⟩:=items_int v;have j:s.length<=n:=by
  unfold OpenLaw.pre at g;have c:(WTm.not (.lt (.lit (.int (n:Int))) (.len (.arg 0)))).holds [] {args:=[.list (s.map .int)]}=true:=by have c:=(holds_andW g).1;rwa[i]at c
  have q:=condW_of c (w_not (w_lt w_lit (w_len_list (w_arg rfl))))
  grind
 cases e with
 |cons k m=>
  cases m;cases k with
  |list o p=>exact⟨_,_,s,rfl,rfl,o,lE s _ p,j⟩
def xG(l:OpenLaw)(args:List WData):l.row.toRowW.claim.post args (.bool true) args=true:=
 postW_of (r:=l.row.toRowW) (X:=(true==true))
  (show WShape.has [] (.bool true) .bool=true by first|rfl|decide|simp[WShape.has,WShape.arms,WShape.armsAll])
  (show(WTm.eq .res (.lit (.bool true))).value [] {args:=args,res:=some (.bool true),after:=args}=some (.bool (true==true))from w_eq_bool (w_res rfl) w_lit) rfl
def attach_call{l:OpenLaw}{n:Nat}{u:(Str->Option WM)->Heap->Prop}{v:World->Heap->Prop}
 (A:l.most=some n) (k:d.params.defaults=[])
 (call:∀(w:World)(L b:WJ)(O m:Str->Option WM)(e:Addr)(o:Obj)(Q i M:WM)(a:Addr)(N:List WM)(P:List Int),
   Ground q loose [] u w L O m b.heap->v w b.heap->
   b.heap.get? e=some o->o.data=.func (docDef d.name d.params d.body d.scope Q i M)->b.heap.CodeRec i d.name->O d.name=some (.ref e)->
   b.heap.get? a=some { cls:=.type "list",data:=.seq N.toArray }->IntsAre N P->P.length<=n->b.gens=#[]->
   codeAny (model l.prog w) callerA (.call (.ref e) ⟨[.ref a],[]⟩) (λr j=>r=.ok (.ret (.bool true))/\OldK b.heap j.heap/\j.os=b.os/\AllBare j.gens) b) :
 WalkO q loose u v l.row.toRowW d [] (λf N=>PySem.call f N):=by
 intro w L b O m G Y e o Q i M B kV C hd p x s D R y K g z E t F;obtain rfl:B=.none:=Dflts.none x k;obtain rfl:kV=.none:=Dflts.noKw x;obtain⟨a,N,P,rfl,rfl,h,c,H⟩:=xF A g t;refine enter_call (VI (call w L b O m e o Q i M a N P G Y C (fd_plain hd) p s h c H D) λr j I=>?_);obtain⟨rfl,S,T,J⟩:=I;exact⟨.inl ⟨.bool true,.bool true,[],rfl,λ_=>rfl,.bool true,xG l _,λ_=>⟨List.Pairwise.nil,λ_ U=>(nomatch U)⟩⟩,S,T,J⟩
end Att
namespace L2
noncomputable def eS(s:Stmt)(j:Nat):Stmt:=match s with
 |.ClassDef _ _ _ a _ _ _ _ _ _ _=>a.getD j (.Pass ⟨0,0,0,0⟩)
 |_=>.Pass ⟨0,0,0,0⟩
noncomputable def dt(s:Stmt):Arguments:=match s with
 |.FunctionDef _ a _ _ _ _ _ _ _ _=>a
 |_=>{posonlyargs:=[],args:=[],vararg:=none,kwonlyargs:=[],kw_defaults:=[],kwarg:=none,defaults:=[]}
noncomputable def cE(s:Stmt):List Stmt:=match s with
 |.FunctionDef _ _ b _ _ _ _ _ _ _=>b
 |_=>[]
noncomputable def aC(s:Stmt):Scope:=match s with
 |.FunctionDef _ _ _ _ _ _ a _ _ _=>a
 |_=>{kind:=.function,names:=[],isGenerator:=false,isCoroutine:=false}
noncomputable abbrev rE:zx:=λ_ _ _ _ _ _=>False
noncomputable abbrev E0:XK:=λ_ _ _=>False
def fj:fg rE X E0:=λ_ _ _ _ _ _ _ h=>h.elim
structure CA(K:WK) (x qual:Str) (st:Stmt) (f:Addr) (fd:FuncData):Prop where
 ex:∃(oc:WM)(od:Option Addr)(kV doc pm:WM)(an:Option Addr)(cdv ct:WM)(osl:Array (Option WM)),
  fd=fnOf x qual (dt st) (cE st) (aC st) .none kV doc pm an cdv ct/\K.lookup f=some ⟨oc,od,.func fd,osl⟩/\codeIn K cdv qual=true
 kp:keepIn K (.ref f)=true
section
variable{P:WL}{w:World}{K:WK}{B:Str->Option WM}{z:Heap}
def CA.ok{x g:Str}{st:Stmt}{f:Addr}{n:FuncData}{N l:List Str}{k:Nat}{m:Sp}(F:CA K x g st f n)(S:aK N l (aC st))(len:∀j H Q E,m j H Q E->j.length=l.length)
 (a:∀(i:WM)(A:WN)(e:List Env)(s:WJ)(H:Hp)(j:List V)(Q:VK)(E:XK),cR k (A.deeper (envOfC g (aC st) s.z f i))->m j H Q E->
   ∃t,PSs (rV rE P w K B z N g (aC st) f i A e s H E).JQ (cE st) t/\t (eQ Q) (aZ N j) H):cB P w K B z rE (k+1) f n l m:=by
 obtain⟨r,u,kV,o,v,y,i,ct,p,rfl,lk,b⟩:=F.ex;refine FL lk b S len λA e s H j Q E d c=>?_;obtain⟨t,h,q⟩:=a i A e s H j Q E d c;exact⟨t,h.JQ,q⟩
def CA.binds{x b:Str}{st:Stmt}(F:CA K x b st f fd)
 (h:∀(kV c e:WM)(g:Option Addr)(d ct:WM)(i:List WM),i.length=ps.length->bindArgs (fnOf x b (dt st) (cE st) (aC st) .none kV c e g d ct) ⟨i,[]⟩=pure (ps.zip i)):Binds K fd ps []:=by
 obtain⟨k,l,kV,c,e,g,d,ct,j,rfl,lk,a⟩:=F.ex;exact .all (h kV c e g d ct)
def z4{x a:Str}{st:Stmt}{f:Addr}{i:WM}{j g:Option Addr}{e:Array (Option WM)}{kV d h b ct:WM}(l:K.lookup f=some ⟨i,j,.func (fnOf x a (dt st) (cE st) (aC st) .none kV d h g b ct),e⟩)
 (c:codeIn K b a=true) (k:keepIn K (.ref f)=true):CA K x a st f (fnOf x a (dt st) (cE st) (aC st) .none kV d h g b ct):=⟨⟨i,j,kV,d,h,g,b,ct,e,rfl,l,c⟩,k⟩
end
def jn(a:cR k A):A.units+1<cLine:=Ts (VE (by decide:1<=64) _) a.units
section
def pv(i:Nat){x:Str}{a:Pos}(c:autoParam (X.N[i]?=some x) av)(d:autoParam (Nt X.env.scope x) WR._auto_1)(hd:autoParam (dB x) aa)
 (b:autoParam ((x==("__classdict__" : Str))=false) aa):PE X (.Name x a) (aj i):=GD c d hd b
end
def fq{A B:Prop}(h:B):if false=true then A else B:=by rwa[Sj SS]
def fK{A B:Prop}(h:A):if true=true then A else B:=by rwa[Sg rfl]
def qj{c A B:Prop}[Decidable c](h1:c->A)(a:¬c->B):if c then A else B:=by
 by_cases h:c
 .rw[Sg h];exact h1 h
 .rw[Sj h];exact a h
def Same(H a:Hp):Prop:=∀b o,H b=some o->a b=some o
def Same.trans(a:Same H H1)(b:Same H1 H2):Same H H2:=λc o h=>b c o (a c o h)
def Same.free(e:Same H H')(h:H' l=Option.none):H l=Option.none:=by
 cases q:H l with
 |none=>rfl
 |some o=>rw[e l o q]at h;cases h
def xH(P:WL)(w:World):zx:=λd H s E e a=>
 ∃(x C t:Addr)(B:Heap)(f:Hp),e=.ref x/\a.os=s.os/\AllBare a.gens/\Un (h_ d) [] H f s.heap a.heap/\HOk P w f a.heap/\
  Heap.FlyingW B d x (.ref C) (.ref t) a.heap/\(∀b u,f b=some u->∃o,B.get? b=some o)/\(∀b o,s.heap.get? b=some o->Qt H b->b∉h_ d->B.get? b=some o)/\
  (∀b o,s.heap.get? b=some o->b∉h_ d->∃c,B.get? b=some c)/\f x=none/\E (.ref C) none f
def kF{H:Hp}{B h1 h:Heap}(ok:HOk P w H h1)(rK:∀b u,H b=some u->∃o,B.get? b=some o)(i:B.StaysIn h1)(j:B.StaysIn h):HOk P w H h:=λa o e=>(ok a o e).stay (λb u k q=>by have c:∃v,H b=some v:=k.elim (λz=>⟨o,by rwa[z]⟩) λz=>⟨_,z⟩;obtain⟨v,f⟩:=c;obtain⟨g,d⟩:=rK b v f;have:=i b g d;rw[q]at this;cases this;exact j b _ d) (λ_ q=>q) λ_ _ q=>q
def mJ:∀{o:HO},ObjOk P w H h a o->∃b,h.get? a=some b
 |.lst i,x=>by obtain⟨_,_,_,_,e⟩:=x;exact⟨_,e⟩
 |.tup i,x=>by obtain⟨_,_,_,⟨_,e,_⟩⟩:=x;exact⟨_,e⟩
 |.dK g,x=>by obtain⟨_,_,_,_,o,_,_,e,_⟩:=x;exact⟨_,e⟩
 |.dT g,x=>by obtain⟨_,_,_,_,o,_,_,e,_⟩:=x;exact⟨_,e⟩
 |.set S n,x=>by obtain⟨o,_,_,_,e,_⟩:=x;exact⟨_,e⟩
 |.ins C k j,x=>by obtain⟨_,_,_,e,_⟩:=x;exact⟨_,e⟩
 |.own y,x=>x
 |.xd j,x=>by obtain⟨_,⟨_,_,_,e,_⟩,_⟩:=x;exact⟨_,e⟩
 |.Nm lo c,x=>by obtain⟨_,_,_,e⟩:=x;exact⟨_,e⟩
 |.bv b u,x=>by obtain⟨e,_⟩:=x;exact⟨_,e⟩
 |.rG l,x=>⟨_,(show h.get? a=some _ from x)⟩
 |.met f y,x=>⟨_,(show h.get? a=some _ from x)⟩
 |.ext d,x=>x.2.1
section
variable{P:WL}{w:World}{K:WK}{mg:Str->Option WM}{base:Heap}{N:List Str}{a5:Str}{a4:Scope}{f:Addr}{cd:WM}{A:WN}{a0:List Env}{s₀:WJ}{H₀:Hp}{E:XK}
abbrev qk(P:WL)(w:World)(K:WK)(mg:Str->Option WM)(base:Heap)(N:List Str)(a5:Str)(a4:Scope)(f:Addr)(cd:WM)(A:WN)(a0:List Env)(s:WJ)(H:Hp)(E:XK):Cx:=rV (xH P w) P w K mg base N a5 a4 f cd A a0 s H E
def si(I:Inv (qk P w K mg base N a5 a4 f cd A a0 s₀ H₀ E) ag σ H s)(e:s₀.heap.get? b=some o)(a:b∉h_ a0) :
 b∉h_ (qk P w K mg base N a5 a4 f cd A a0 s₀ H₀ E).stack:=λz=>by
 rcases Sq.mp (I.oj b z)with q|q
 .exact absurd (S8 (Sr e) (SE I.ok.above (Wt q.symm))) (U1 _)
 .exact a q
def uF(a:b∈h_ a0):b∈h_ (qk P w K mg base N a5 a4 f cd A a0 s₀ H₀ E).stack:=by show b∈h_ (envOfC a5 a4 s₀.z f cd::a0);unfold h_;rw[U2];have:(envOfC a5 a4 s₀.z f cd).frame=some s₀.z:=rfl;rw[this];exact Sf _ a
def C_:fg (xH P w) (qk P w K mg base N a5 a4 f cd A a0 s₀ H₀ E) E:=by
 rintro ag σ H s e m I⟨x,C,t,B,V,rfl,os,T,R,W,c,rK,g,i,v,y⟩;show wpAny _ _ (leaving _ _) _ _ m;have nx:∀b:Addr,b∉(qk P w K mg base N a5 a4 f cd A a0 s₀ H₀ E).ex:=λb z=>absurd (show b∈([]:List Addr)from z) (by simp);refine wpAny_leaves_onW I.ok.frames rfl c λh' a U=>?_;have p:∀b,b∈h_ a0->∀o,m.heap.get? b=some o->∀X,o.data≠.fields X:=λb L o e=>by obtain⟨_,k,r,d⟩:=c.2.2.1.mem (uF (P:=P) (w:=w) (K:=K) (mg:=mg) (base:=base) (N:=N) (H₀:=H₀) (E:=E) (A:=A) L);rw[e]at r;cases r;exact d
 refine⟨x,C,t,B,V,rfl,os.trans I.os,T,⟨λb o e n L _=>?_,λb o e n L _=>?_,λb o e n _=>?_,λb o e _=>?_,λb O q=>R.iZ b O (I.base.iZ b O q),λb o u q=>R.iW b o u (I.base.iW b o u q),λb Y q=>?_⟩,kF W rK c.1 a.1,a,rK,λb o e n L=>?_,λb o e L=>?_,v,y⟩
 .exact a.1 b o (g b o (I.base.keep b o e n L (nx b)) (n.imp (λn=>I.base.free b o e n (nx b)) λ⟨O,q⟩=>⟨O,I.base.iZ b O q⟩) (si I e L))
 .obtain⟨D,M⟩:=I.base.slot b o e n L (nx b);obtain⟨F,Q⟩:=R.slot b _ M (I.base.free b o e n (nx b)) (uF L) (by simp);obtain⟨j,l⟩:=U b _ Q (p b L _ Q);exact⟨j,l⟩
 .obtain⟨S,M⟩:=I.base.there b o e (nx b);exact R.free b S M (I.base.free b o e n (nx b)) (by simp)
 .obtain⟨S,M⟩:=I.base.there b o e (nx b);by_cases L:b∈h_ a0
  .obtain⟨J,Q⟩:=R.there b S M (by simp);obtain⟨D,l⟩:=U b _ Q (p b L _ Q);exact⟨_,l⟩
  .obtain⟨k,q⟩:=i b S M (si I e L);exact⟨k,a.1 b k q⟩
 .obtain⟨G,M⟩:=I.base.lM b Y q;obtain⟨Z,Q⟩:=R.lM b _ M;exact⟨G++Z,by rw[Q,Array.append_assoc]⟩
 .exact g b o (I.base.keep b o e n L (nx b)) (n.imp (λn=>I.base.free b o e n (nx b)) λ⟨O,q⟩=>⟨O,I.base.iZ b O q⟩) (si I e L)
 .obtain⟨S,M⟩:=I.base.there b o e (nx b);exact i b S M (si I e L)
def Da{s:WJ}{Q:Heap}{x C:Addr}{M:List WM}(I:Inv (qk P w K mg base N a5 a4 f cd A a0 s₀ H₀ E) ag σ H s)(g:Heap.MadeExcOf s.heap Q x (.ref C) M)(r:E (.ref C) none H) :
 (qk P w K mg base N a5 a4 f cd A a0 s₀ H₀ E).xe (.ref x) {s with heap:=Q}:=by
 show wpAny _ _ (leaving _ _) _ _ _;have nx:∀b:Addr,b∉(qk P w K mg base N a5 a4 f cd A a0 s₀ H₀ E).ex:=λb z=>absurd (show b∈([]:List Addr)from z) (by simp);have i:∀J∈(qk P w K mg base N a5 a4 f cd A a0 s₀ H₀ E).stack,∀b,J.frame=some b->b∈h_ (qk P w K mg base N a5 a4 f cd A a0 s₀ H₀ E).stack:=λJ v b F=>Vf.mpr ⟨J,v,F⟩;have l:=I.stack;refine wpAny_leaves_madeW (base:=hideAll s.heap (h_ (qk P w K mg base N a5 a4 f cd A a0 s₀ H₀ E).stack)) I.ok.frames rfl (λb o q=>Ws _ q) (PySem.W.funFrames_hide l i) g λy t c _ _ R=>?_;have a:∀b o,s.heap.get? b=some o->b∉h_ (qk P w K mg base N a5 a4 f cd A a0 s₀ H₀ E).stack->(hideAll s.heap (h_ (qk P w K mg base N a5 a4 f cd A a0 s₀ H₀ E).stack)).get? b=some o:=λb o e F=>PySem.W.hideAll_get _ e F;have rK:∀b u,H b=some u->∃o,(hideAll s.heap (h_ (qk P w K mg base N a5 a4 f cd A a0 s₀ H₀ E).stack)).get? b=some o:=λb u e=>by obtain⟨o,h⟩:=mJ (I.aS b u e);exact⟨o,a b o h λz=>by rw[I.rp b z]at e;cases e⟩
 have st:(hideAll s.heap (h_ (qk P w K mg base N a5 a4 f cd A a0 s₀ H₀ E).stack)).StaysIn s.heap:=λb o q=>Ws _ q;have m:∀b,b∈h_ a0->∀o,s.heap.get? b=some o->∀S,o.data≠.fields S:=λb F o e=>by obtain⟨_,D,p,d⟩:=l.mem (uF (P:=P) (w:=w) (K:=K) (mg:=mg) (base:=base) (N:=N) (H₀:=H₀) (E:=E) (A:=A) F);rw[e]at p;cases p;exact d
 have j:H x=none:=by
  cases q:H x with
  |none=>rfl
  |some u=>obtain⟨o,h⟩:=mJ (I.aS x u q);rw[g.new]at h;cases h
 refine⟨x,C,t,_,H,rfl,I.os,I.bare,⟨λb o e n F _=>?_,λb o e n F _=>?_,λb o e n _=>I.base.free b o e n (nx b),λb o e _=>?_,I.base.iZ,I.base.iW,I.base.lM⟩,kF I.aS rK st c.1,c,rK,λb o e n F=>?_,λb o e F=>?_,j,r⟩
 .exact c.1 b o (a b o (I.base.keep b o e n F (nx b)) (si I e F))
 .obtain⟨B,G⟩:=I.base.slot b o e n F (nx b);obtain⟨k,O⟩:=R b _ (g.keeps b _ G) (m b F _ G);exact⟨k,O⟩
 .obtain⟨L,G⟩:=I.base.there b o e (nx b);by_cases F:b∈h_ a0
  .obtain⟨B,O⟩:=R b _ (g.keeps b _ G) (m b F _ G);exact⟨_,O⟩
  .exact⟨L,c.1 b L (a b L G (si I e F))⟩
 .exact a b o (I.base.keep b o e n F (nx b)) (si I e F)
 .obtain⟨L,G⟩:=I.base.there b o e (nx b);exact⟨L,a b L G (si I e F)⟩
def J4:PassesOwn (model P w) (qk P w K mg base N a5 a4 f cd A a0 s₀ H₀ E).A (qk P w K mg base N a5 a4 f cd A a0 s₀ H₀ E).env (qk P w K mg base N a5 a4 f cd A a0 s₀ H₀ E).xe:=by
 show PassesOwn _ _ _ (λe a=>wpAny _ _ (leaving _ e) _ _ a)
 passes_own
end
abbrev sj:List WM:=[.type "ValueError",.type "Exception",.type "BaseException",.type "object"]
def z5(h:Heap)(C:Addr)(c:List WM):Prop:=∃N e q f a g sub i b dd j k1 k2 k l d,h.get? C=some (excClassObj e q C N f c a g sub i b dd j k1 k2 k l "ValueError.__new__")/\h.Ns N d/\d "__init__"=none/\OwnTail h sj c
noncomputable def oG(K:WK)(C:Addr):List WM:=match K.lookup C with
 |some ⟨_,_,.cls a,_⟩=>a.mro
 |_=>[]
def mK{K:WK}(X:K.In h)(q:excIn K C sj "ValueError.__new__"=true):∃t,oG K C=.ref C::t/\z5 h C t:=by
 have r:=q;unfold excIn at q;unfold oG;cases c:K.lookup C with
 |none=>rw[c]at q;cases q
 |some s=>
  rw[c]at q;split at q
  .rename_i dd i e d;injection d with d;subst d;dsimp only;split at q
   .rename_i D t x k1 k2 y n z u A;rw[u];simp only[Up,U_,Bool.not_eq_true']at q;obtain⟨⟨⟨⟨⟨f,j⟩,a⟩,k⟩,v⟩,b⟩:=q;refine⟨t,by rw[f],?_⟩;obtain⟨E,F,m,G,o,hd,H,sub,I,w,p⟩:=i;dsimp only at u a v b;have B:e=#[x,k1,k2,y,some (.builtin n),z]:=by
     cases e with
     |mk l=>simp only at A;rw[A]
    rw[j]at B;subst B;have g:=X _ _ c;rw[a,u,f]at g;exact⟨G,E,o,F,hd,H,sub,I,w,dd,x,k1,k2,y,z,_,g,.of_isNs (PySem.W.isNs_of_in X v),PySem.W.nsMap_none_of_in X v b,PySem.W.tail_of_in X k⟩
   .cases q
  .cases q
structure XC(K:WK) (a:Str->Option WM) (c:Str) (C:Addr):Prop where
 gl:a c=some (.ref C)
 ex:excIn K C sj "ValueError.__new__"=true
section
variable{X:Cx}{c:Str}{C:Addr}{R P Q:Pos}{O:Expr}{rest:List Expr}{t:TA}
noncomputable def z6(t:TA)(a:Hp->Prop):TS:=λ_ b H=>t b H λd e=>d.length<=sizeLine/\a e
theorem z8{EW:Hp->Prop}(j:XC X.K X.mg c C)(m:Gl X c)(a:X.calm=true)(E:PA X (O::rest) t)
 (n:∀(w:List (Addr×Obj))(z:St)(H:Hp)(s:WJ)(A:Heap)(x:Addr)(v:List WM),Inv X w z H s->Heap.MadeExcOf s.heap A x (.ref C) v->EW H->X.xe (.ref x) {s with heap:=A})
 (k:autoParam (starEach (O::rest) X.env=(false,eval O X.env)::starEach rest X.env) av) (f:autoParam (bT X P rest) av) (hd:autoParam (dB c) aa) :
 PS X (.Raise (some (.Call (.Name c R) (O::rest) [] P)) none Q) (z6 t EW):=by
 intro w s z H D I h;obtain⟨bm,_,N,nm,q,bs,hdct,sn,sub,ab,col,dd,k0,k1,k2,k3,k5,mN,o,p,g,l⟩:=mK I.ok.mod.Js j.ex;have i:=PySem.F.excBase_ValueError;refine wpAny_Raise_call_subU (C:=C) (nm:=nm) (q:=q) (N:=N) (bs:=bs) (bm:=bm) (hdct:=hdct) (sn:=sn) (sub:=sub) (ab:=ab) (col:=col) (dd:=dd) (k0:=k0) (k1:=k1) (k2:=k2) (k3:=k3) (k5:=k5) (bmB:=sj)
  i (by decide +kernel) i (mN:=mN) (l.hasType i.hasBase) (I.ok.hd a) ?_ g (i5 I m j.gl ⟨rfl,?_⟩ hd)
 .rw[k];show(false ||(backTo P (starEach rest X.env)).any (·.1))=false;rw[f];rfl
 .have b:=E P w s z H _ I h;rw[k]at b ⊢;refine UR (Ud b (λG J ⟨M,u,d,r,B⟩=>?_) λ_ _ y=>y);exact⟨rfl,by rw[<- r.length];exact B.1,d.bk _ _ o,p.keeps d.bk,l.keeps d.bk,λA e L=>n w z u J A e G d L B.2⟩
end
section
variable{M:Model}{A:WN}{E:WM->WJ->Prop}
def oH(c:z5 s.heap C bm)(a:z5 s.heap C' bm')(n:s.heap.get? e=some oe)(b:oe.cls=.ref C)
 (k:Q ((Value.ref C::bm).contains (.ref C')) s):wpAny M A (excMatches (.ref e) (.ref C')) Q E s:=by
 obtain⟨N,L,q,O,hd,P,sub,R,J,dd,S,k1,k2,T,U,V,c,_,_,_⟩:=c;obtain⟨H,o,I,p,r,u,l,v,m,w,x,y,z,B,D,G,a,_,_,i⟩:=a;obtain⟨h,g,d,t,os⟩:=s;have j:(Value.ref C'::bm').contains (.type "BaseException")=true:=by rw[List.contains_cons,i.hasType PySem.F.excBase_ValueError.hasBase,Bool.or_true]
 have f:=tc_notTuple;unfold excMatches
 repeat (first|(with_reducible refine wpAny_loadPart_at n ?_;rw[b])|with_reducible refine wpAny_loadPart_at a ?_|(with_reducible refine wpAny_isSubtype_exc a ?_;rw[j])|with_reducible refine wpAny_isSubtype_exc c ?_|wp_step)
 cases K:(Value.ref C::bm).contains (.ref C')<;>(rw[K]at k;wp_walk;exact k)
end
abbrev TX:=St->Hp->VK->XK->Prop
def Pw(X:Cx)(e:Expr)(t:TX):Prop:=∀(f:List (Addr×Obj))(s:WJ)(d:St)(H:Hp)(Q:VK)(a:XK),Inv X f d H s->t d H Q a->
 wpAny (model X.prog X.w) X.A (eval e X.env) (EP X f d Q) (λb c=>∃g h,Inv X f d g h/\xH X.prog X.w X.stack g h a b c) s
section
variable{X:Cx}{k:Nat}{f:Addr}{T:FuncData}{S:List Str}{U:Sp}{dvs:List V}{ds:List WM}{x:Str}{p P:Pos}{e:Expr}{R:List Expr}{t:TA}
theorem z9(F:cB X.prog X.w X.K X.mg X.base (xH X.prog X.w) k f T S U)(j:cR k X.A)(l:Gl X x)(M:X.mg x=some (.ref f))(m:keepIn X.K (.ref f)=true)(N:Binds X.K T S ds)(hd:Vals dvs ds)(O:PA X.JQ (e::R) t)
 (b:autoParam (dB x) aa) (n:autoParam (sE X e R) av) (c:autoParam (bT X P R) av) :
 Pw X (.Call (.Name x p) (e::R) [] P) (λD H Q d=>t D H λE B=>U (E++dvs) B Q d):=by
 intro L s D H Q d I h;refine UK (i5 I l M ?_ b);refine VL (h₀:=X.base) I.ok.mod.Js m (Ud (O P L s D H _ (I.og _) h) (λC G ⟨E,B,g,r,q⟩=>⟨g.jN,?_⟩) λ_ _ z=>False.elim z) n c;have J:Inv X L D B G:=g.gY;have i:Vals (E++dvs) (C++ds):=r.append hd;have o:(C++ds).length=S.length:=by rw[<- i.length];exact F.len _ _ _ _ q
 refine wpAny_call (VI (F.run X.A X.stack G B ⟨C,[]⟩ (C++ds) (E++dvs) Q d j J.I_ (N G C J.jN o) i q) λr v a=>?_);cases r with
 |error y=>exact⟨B,G,J,a⟩
 |ok fl=>
  cases fl with
  |ret u=>exact J.after a
  |next=>exact False.elim a
  |brk=>exact False.elim a
  |cont=>exact False.elim a
end
noncomputable abbrev Cx.caught(X:Cx)(x:Addr):Cx:={X with A:=X.A.mark (some (.ref x)),calm:=false,xe:=λ_ _=>False}
section
variable{X:Cx}{M:List (Addr×Obj)}{N:St}{H:Hp}{s:WJ}{x:Addr}
theorem Inv.caught(I:Inv X M N H s)(x:Addr):Inv (X.caught x) M N H s:=⟨⟨I.ok.mod,I.ok.kind,I.ok.glob,I.ok.blt,I.ok.above,I.ok.inj,I.ok.has,I.ok.Jt,(λz=>by cases z),I.ok.frames,I.ok.aO,I.ok.Ng,I.ok.bs,I.ok.Cp,I.ok.vG,I.ok.yQ,I.ok.km,I.ok.Fj,I.ok.kt⟩,I.os,I.bare,I.base,I.loc,I.cell,I.free,I.fJ,I.pin,I.aS,I.len⟩
def Inv.uncaught(I:Inv (X.caught x) M N H s)(ok:X.Ok):Inv X M N H s:=⟨ok,I.os,I.bare,I.base,I.loc,I.cell,I.free,I.fJ,I.pin,I.aS,I.len⟩
theorem SP.uncaught{D:Ends}{f:Flow}{b:WJ}(h:SP (X.caught x) M D f b)(ok:X.Ok):SP X M D f b:=by
 cases f with
 |next=>obtain⟨a,c,I,q⟩:=h;exact⟨a,c,I.uncaught ok,q⟩
 |brk=>obtain⟨a,c,I,q⟩:=h;exact⟨a,c,I.uncaught ok,q⟩
 |cont=>obtain⟨a,c,I,q⟩:=h;exact⟨a,c,I.uncaught ok,q⟩
 |ret u=>obtain⟨v,a,c,I,r,q⟩:=h;exact⟨v,a,c,I.uncaught ok,r,q⟩
def Inv.landed{E:Hp}{y a:WJ}{B:Heap}{h:Heap}{C t:Addr}{g6:Array GenState}{l:List Env}(I:Inv X M N E y)(os:a.os=y.os)(A:AllBare a.gens)(un:Un (h_ X.stack) [] E H y.heap a.heap)(J:HOk X.prog X.w H a.heap)(c:Heap.FlyingW B X.stack x (.ref C) (.ref t) a.heap)
 (rK:∀b u,H b=some u->∃o,B.get? b=some o) (i:∀b o,y.heap.get? b=some o->Qt E b->b∉h_ X.stack->B.get? b=some o) (j:∀b o,y.heap.get? b=some o->b∉h_ X.stack->∃f,B.get? b=some f)
 (st:B.StaysIn h) (G:a.heap.UpToSlots h):Inv X M N H {a with heap:=h}:=by
 have k:∀b,b∈h_ X.stack->∀o,a.heap.get? b=some o->∀K,o.data≠.fields K:=λb v o e=>by obtain⟨_,f,m,d⟩:=c.2.2.1.mem v;rw[e]at m;cases m;exact d
 refine I.Gp (ch:=[]) os ⟨λb o e n v _=>st b o (i b o e n v),λb o e n v _=>?_,λb o e n p=>un.free b o e n p,λb o e p=>?_,un.iZ,un.iW,un.lM⟩ (kF J rK c.1 st) A λb z=>absurd z (by simp)
 .obtain⟨r,D⟩:=un.slot b o e n v (by simp);obtain⟨g,F⟩:=G b _ D (k b v _ D);exact⟨g,F⟩
 .by_cases v:b∈h_ X.stack
  .obtain⟨L,D⟩:=un.there b o e (by simp);obtain⟨g,F⟩:=G b _ D (k b v _ D);exact⟨_,F⟩
  .obtain⟨f,q⟩:=j b o e v;exact⟨f,st b f q⟩
end
def pb(X:Cx)(a:Addr)(b:TS)(D:Ends)(d:St):XK:=λc _ e=>∃C,c=.ref C/\excIn X.K C sj "ValueError.__new__"=true/\(oG X.K C).contains (.ref a)=true/\b D d e
section
variable{X:Cx}{hc:Str}{Ch:Addr}{np a0 pos a4:Pos}{A:Stmt}{w:List Stmt}{ts:TS}{te:TX}{e:Expr}
theorem uG{ag:List (Addr×Obj)}{σ:St}{D:Ends}{r:WM}{d:WJ}(g:X.stack=X.env::X.outer)(J:X.env.frame=some X.env.locals)(H:XC X.K X.mg hc Ch)(L:Gl X hc)(hs:∀x,PSs (X.caught x) (A::w) ts)
 (h:∃H1 s1,Inv X ag σ H1 s1/\xH X.prog X.w X.stack H1 s1 (pb X Ch ts D σ) r d) (s:autoParam (dB hc) aa) :
 wX X (noteFrame r X.env) (λ_ s2=>wX X (setFlight r none) (λ_ M=>wX X (handleBy r X.env [.ExceptHandler (some (.Name hc np)) none (A::w) a0]) (SP X ag D) X.xe M) X.xe s2) X.xe d:=by
 obtain⟨H1,s1,u,x,C,t,B,H',rfl,os,bare,un,aS,c,rK,i,j,N,W,O,hex,k,q⟩:=h;cases O;have m:Heap.FlyingW B (X.env::X.outer) x (.ref C) (.ref t) d.heap:=g▸c;have fr:X.A.frames=some (X.env::X.outer):=g▸u.ok.frames;refine wpAny_looks_onW fr J m λY n v=>?_;refine wpAny_landsW n λP a y=>?_;have b:=v.trans y;have E:Inv X ag σ H' {d with heap:=P}:=u.landed (l:=[]) (g6:=#[]) os bare un aS c rK i j a.1 b;obtain⟨bm,em,Q⟩:=mK E.jN hex;obtain⟨R,S,F⟩:=mK E.jN H.ex;obtain⟨Z,T,o⟩:=a.there;refine wpAny_handleBy_cons (codeAny_handlers_test (i5 (X:=X.caught x) (E.caught x) L H.gl ?_ s)) (by intro z;cases z);refine oH Q F T o ?_;rw[em]at k;rw[k];refine codeAny_handlers_suite ?_;refine lands_againW a λU p G=>?_;have I:Inv X ag σ H' {d with heap:=U}:=u.landed (l:=[]) (g6:=#[]) os bare un aS c rK i j p.1 (b.trans G);exact Ud (hs x ag _ σ H' D (I.caught x) q) (λf s7 V=>V.uncaught I.ok) λ_ _ z=>False.elim z
theorem Dc{i:Nat}{y:Str}{f:Pos}(g:X.N.Nodup)(j:X.N[i]?=some y)(k:GC X.env.scope y)(a:X.stack=X.env::X.outer)(l:X.env.frame=some X.env.locals)(m:XC X.K X.mg hc Ch)(n:Gl X hc)(o:Pw X e te)(B:∀x,PSs (X.caught x) (A::w) ts)
 (b:autoParam (swapsWith e (some (.Name y f)) a4.line X.env=pure false) av) (c:autoParam (dB hc) aa) (d:autoParam (X.fn y=true\/X.env.scope.names.lookup y=some .local) ae) :
 PS X (.Try [.Assign [.Name y f] e a4] [.ExceptHandler (some (.Name hc np)) none (A::w) a0] [] [] pos) (λD J H=>te J H (λv L=>D.nx (J.set i (some v)) L) (pb X Ch ts D J)):=by
 intro C s J H D I h;refine wpAny_Try_except ?_;refine wpAny_execs_cons (wpAny_Assign_Name (Ud (o C s J H _ _ I h) (λv F ⟨z,L,p,q,E⟩=>?_) λt u z=>?_) b)
 .exact mn p g j k q (λG r=>Vj (Vj ⟨_,L,r,E⟩)) d
 .exact uG a l m n B z c
end
end L2
namespace L2
open PySem.Calls
def lF
 (m:s.heap.get? a=some o) (n:o.cls=.type "list") (b:o.data=.seq I k) (hd:o.dict=none) (f:typeLookup (.type "list") C=pure none) (i:(["__module__","__name__","__qualname__","__doc__","__annotations__"]:List Str).contains C=false) (q:A.handled=none)
 (h:∀D H e,Heap.NewExcOf s.heap D e "AttributeError"->Q none {s with heap:=D,toks:=H}) (G:C.length+100<=sizeLine:=by size_fits) :
 wpAny (model prog w) A (getAttr? (.ref a) C) Q E s:=by
 obtain⟨c,r,t,u⟩:=o;simp only at n b hd;subst n b hd;obtain⟨v,g,d,H,os⟩:=s;have p:∀j,(⟨v,g,d,j,os⟩ : WJ).TypeIs (.ref a) "list":=λ_=>⟨_,m,rfl⟩;have x:=sub_AttributeError;have y:=PySem.F.slot_list_getattribute.lookup;have z:=PySem.F.slot_list_getattribute.bind (.ref a);have f5:=am_list_getattr_none;unfold getAttr? getAttrBy? getAttrBy
 repeat (any_goals (first|assumption|exact p _|((with_reducible show wpAny _ _ (call (Value.builtin "list.__getattribute__") _ _) _ _ _);refine call_meets PySem.F.slot_list_getattribute (p _) am_entry_list_getattribute (PySem.F.args_list_getattribute_2 _ _) (meets_getattribute_miss_list a I k u C _ f i G) ⟨m,q,λD j e l=>?_⟩)|wp_step))
 obtain⟨J,K,B⟩:=l.there;show wpAny _ _ (getattributeRaised _ _ _ _ _ _ _) _ _ _;unfold getattributeRaised
 repeat (any_goals (first|assumption|wp_step))
 exact h _ _ _ l.of
abbrev jo:=List bc×Addr×WM
noncomputable def v5(a:List jo)(b:List jo):List jo:=b.foldl (λa x=>storedH a x.1 x.2.1 x.2.2) a
def jU:entryFor table "dict.update.loop"=some Builtin.«dict.update.loop»:=entryFor_of_tree (by kernel_rfl)
def eU:plainId "dict.update.loop"=true:=by decide +kernel
section
variable{a0:WL}{w:World}
abbrev tK(a0:WL)(w:World):=tupleKind (aH a0 w)
def DRaw(a0:WL)(w:World)(h:Heap)(S:Addr)(a:List jo):Prop:=∃o b c,h.get? S=some o/\o.ExactDict/\o.data=.dict b c/\b.toList=a.map (entryOfKey (tK a0 w))/\(a.map (·.1)).Nodup
def jV(x:(tK a0 w).is h k a)(e:∀b o,h.get? b=some o->h'.get? b=some o):(tK a0 w).is h' k a:=by obtain⟨o,c,n,h1,r⟩:=x;exact⟨o,c,n,e _ _ h1,r⟩
def DRaw.of(d:DRaw a0 w h S xs)(g:∀x∈xs,(tK a0 w).is hb x.1 x.2.1)(e:∀b o,hb.get? b=some o->h.get? b=some o):h.DictOfH (tK a0 w) S xs:=by obtain⟨o,i,j,h1,k,l,a,c⟩:=d;exact⟨o,i,j,h1,k,l,a,λx f=>jV (g x f) e,c⟩
def uH(d:∀x∈xs,(tK a0 w).is hb x.1 x.2.1)(b:(tK a0 w).is hb k a):∀x∈storedH xs k a v,(tK a0 w).is hb x.1 x.2.1:=by
 unfold storedH;split
 .intro x hx;obtain⟨y,c,rfl⟩:=Se.mp hx;have:=d y c;unfold putAt;split<;>exact this
 .intro x hx;rcases Sk.mp hx with hx|hx
  .exact d x hx
  .simp at hx;subst hx;exact b
def sk{xs:List jo}{k:List bc}:(storedH xs k a v).length<=xs.length+1:=by
 unfold storedH;split
 .rw[R9];lia
 .rw[Sm];simp
variable{A:WN}{R:Result->WJ->Prop}{I:Addr}{fp wr:List Addr}{G:Array GenState->Array GenState->Prop}{n:Nat}{P:Nat->WM->Prop}{St:Nat->WJ->Prop}
def jW(W:WalksS a0 w A.in1 I fp wr G n P St)(S:Addr)(m:S∉fp)(Z:A.in1.units<cLine)(hb:Heap)(hbS:hb.get? S=none)(hbw:∀b∈wr,hb.get? b=none)(its:List jo)(hn:its.length=n)
 (q:∀i v,P i v->∃p x,v=.ref p/\its[i]?=some x/\hb.IsTuple p #[.ref x.2.1,x.2.2]/\(tK a0 w).is hb x.1 x.2.1) (hsz:n<=sizeLine) :
 ∀(k i:Nat)(s:WJ)(xs:List jo)(j:Int),n-i=k->i<=n->St i s->(∀b o,hb.get? b=some o->s.heap.get? b=some o)->(∀x∈xs,(tK a0 w).is hb x.1 x.2.1)->xs.length<=i->
  DRaw a0 w s.heap S xs->
  (∀c,Moved (S::wr) G s c->c.heap.DictOfH (tK a0 w) S (v5 xs (its.drop i))->R (.ok (.ret .none)) c)->
  codeAny (model a0 w) A (.builtin "dict.update.loop" ⟨[.ref S,.ref I,rawInt j,.none],[]⟩) R s:=by
 have r:S∉wr:=λh=>m (W.sub _ h);have d:∀b∈wr,b∈S::wr:=λb hb=>Sf _ hb;intro k;induction k with
 |zero=>
  intro i s xs j hk hi f K ks F H J;have L:i=n:=by lia
  subst L;refine UH jU ?_;rw[US eU _];show wpAny _ A.in1 (pyNext (.ref I) >>= _) _ _ s;refine KE (W.done s _ _ f λc hm=>?_);have M:=J c (hm.mono d) (by rw[List.drop_of_length_le (by lia)];obtain⟨o,es,ep,N,rest⟩:=H;exact DRaw.of (hb:=hb) ⟨o,es,ep,hm.heap S _ r N,rest⟩ ks λb o e=>hm.heap b o (λz=>by grind) (K b o e));show wpAny _ A.in1 (Builtin.Dict.addKeywords S [] >>= λ_=>ret Value.none) _ _ c;exact KE (R5 (R5 M))
 |succ k ih=>
  intro i s xs j hk hi f K ks F H J;have t:i<n:=by lia
  refine UH jU ?_;rw[US eU _];show wpAny _ A.in1 (pyNext (.ref I) >>= _) _ _ s;refine KE (W.item i s _ _ t f λv c hP u hm=>?_);obtain⟨p,x,rfl,X,ht,Y⟩:=q i v hP;have y:∀b o,hb.get? b=some o->c.heap.get? b=some o:=λb o e=>hm.heap b o (λz=>by grind) (K b o e);obtain⟨ot,B,O,nt,Q⟩:=ht;have hT:c.TypeIs (.ref p) "tuple":=⟨ot,y _ _ B,O⟩;have T:DRaw a0 w c.heap S xs:=by obtain⟨o,es,ep,N,rest⟩:=H;exact⟨o,es,ep,hm.heap S _ r N,rest⟩
  refine KE (TH ?_);refine KE ?_;refine wpAny_tryCatch ?_;unfold Builtin.Dict.pairItems;refine KE (Vm hT ?_);rw[Sg (by decide)];refine KE (V_ (y _ _ B) Q ?_);refine R5 ?_;show wpAny _ A.in1 (holding [Value.ref x.2.1,x.2.2] (dictSet S (.ref x.2.1) x.2.2)) _ _ c;refine TH ?_;refine wpAny_dictSet_heap (knd:=tK a0 w) (hsz:=by lia) Z (jV Y y) (DRaw.of T ks y) λh' U g=>?_;have K2:∀b o,hb.get? b=some o->h'.get? b=some o:=λb o e=>(g.2 b (λz=>by grind)).trans (y b o e);have l:its.drop i=x::its.drop (i+1):=by
   have C:i<its.length:=by lia
   rw[Vx C];rw[R_ C]at X;rw[Th X]
  refine R5 ⟨VN eU _,ih (i+1) _ (storedH xs x.1 x.2.1 x.2.2) (j+1) (by lia) t (W.frame _ c _ _ u (Wd _ _) λb hb o e=>?_) K2 (uH ks Y) (by have:=sk (xs:=xs) (k:=x.1) (a:=x.2.1) (v:=x.2.2);lia) ?_ λV D E=>?_⟩
  .rwa[g.2 b (λh:b=S=>m (by grind))]
  .obtain⟨o,es,ep,h1,h2,h3,h4,_,h5⟩:=U;exact⟨o,es,ep,h1,h2,h3,h4,h5⟩
  .refine J V (Moved.trans W.gtrans ((hm.mono d).then_heap (Wd _ _) λb o hb e=>?_) D) (by rwa[l]);rwa[g.2 b (λh:b=S=>hb (by grind))]
end
section
variable{Y:WL}{w:World}{A:WN}{E:WM->WJ->Prop}{s:WJ}
theorem lG(C:A.handled=none)(H:A.in1.in1.units<cLine)(t:s.heap.get? l=some { cls:=.type "list",data:=.seq items nl }) (I:its.length=items.size) (T:items.size<=sizeLine)
 (d:∀(i:Nat)(v:WM),items[i]?=some v->∃(p:Addr)(x:jo),v=.ref p/\its[i]?=some x/\s.heap.IsTuple p #[.ref x.2.1,x.2.2]/\(tK Y w).is s.heap x.1 x.2.1)
 (h:∀(P:Heap)(U:Nat),P.DictOfH (tK Y w) s.z (v5 [] its)->(∀b o,b<s.z->s.heap.get? b=some o->P.get? b=some o)->Q (.ref s.z) {s with heap:=P,toks:=U}) :
 wpAny (model Y w) A (call (.type "dict") [.ref l]) Q E s:=by
 refine callType_codes (Q₁:=λR c=>R=.ref s.z/\c={ s with heap:=s.heap.push { cls:=.type "dict",data:=.dict #[] } }) PySem.F.kt_called_dict (PySem.F.kt_typeCall_dict_1 _) PySem.F.entry_dict_init (kt_code_dict_new _ ⟨rfl,rfl⟩) ?_;rintro R c ⟨rfl,rfl⟩;have D:(s.heap.push { cls:=.type "dict",data:=.dict #[] }).get? s.z=some { cls:=.type "dict",data:=.dict #[] }:=Sn _ rfl;have G:Shared.TypeIs { s with heap:=s.heap.push { cls:=.type "dict",data:=.dict #[] } } (.ref s.z) "dict":=⟨_,D,rfl⟩;refine⟨G,PySem.F.args_dict_init_2 _ _,?_⟩;unfold Builtin.«dict.__init__»;refine KE ?_;unfold Builtin.Dict.selfAndRest;refine KE (UN G ?_);show wpAny _ _ (pure (s.z,[Value.ref l])) _ _ _;refine R5 ?_;show wpAny _ _ (Builtin.Dict.updateFrom "dict.__init__" s.z (.ref l) [] .none) _ _ _;unfold Builtin.Dict.updateFrom;have f:(s.heap.push { cls:=.type "dict",data:=.dict #[] }).get? l=some { cls:=.type "list",data:=.seq items nl }:=R8 _ t;refine KE (Vm ⟨_,f,rfl⟩ ?_);rw[Sg (by decide)];refine KE (lF (s:={ s with heap:=s.heap.push { cls:=.type "dict",data:=.dict #[] } }) f rfl rfl rfl (am_miss_of_fast (by decide +kernel)) (by decide +kernel) (by simp[C]) λh1 tk1 X g=>?_);rw[Sg (by decide)];refine KE (V2 ?_);have k1:∀b o,s.heap.get? b=some o->h1.get? b=some o:=λb o e=>g.keeps b o (R8 _ e);have j:h1.get? l=some { cls:=.type "list",data:=.seq items nl }:=k1 _ _ t;have k:h1.get? s.z=some { cls:=.type "dict",data:=.dict #[] }:=g.keeps _ _ D;have a:s.z<h1.y:=Sr k;have m:l<s.z:=Sr t;refine KE (Vp (s:=⟨h1,s.gens,s.drawn,tk1,s.os⟩) ⟨_,j,rfl,nl,rfl⟩ ?_);have u:A.in1.in1.handled=none:=by simp[C]
 have n:∀b,s.z<=b->s.heap.get? b=none:=λb O=>by
  cases q:s.heap.get? b with
  |none=>rfl
  |some o=>exact absurd (Sr q) (Nat.not_lt.mpr O)
 have r:l≠h1.y:=SI (Nat.lt_trans m a);have k2:∀b o,h1.get? b=some o->(h1.push { cls:=.type "list_iterator",data:=.fields #[.ref l,.int 0 0] }).get? b=some o:=λb o e=>R8 _ e;refine R5 ⟨VN eU _,jW (A:=A.in1) ((Walks.list u h1.y l r items).toS) s.z ?_ H s.heap (n _ (R7 _)) ?_ its I d T (items.size-0) 0 _ [] 0 rfl (Sw _) ⟨⟨_,Sn _ rfl,rfl,rfl⟩,⟨_,k2 _ _ j,rfl,nl,rfl⟩⟩ (λb o e=>k2 _ _ (k1 b o e)) (λx J=>nomatch J) (R7 _) ⟨_,#[],0,k2 _ _ k,?_,rfl,rfl,S1⟩ ?_⟩
 .simp only[Sq,Sx,Wo,not_or];exact⟨SI a,Vk m⟩
 .intro b O;simp only[Sq,Sx,Wo]at O;subst O;exact n _ (TY a)
 .exact⟨rfl,rfl,rfl⟩
 .intro K S y;obtain⟨P,V,W,z,B⟩:=K;have L:V=s.gens:=S.gens;have M:W=s.drawn:=S.drawn;have N:B=s.os:=S.os;subst L;subst M;subst N;refine⟨rfl,h P z y λb o O e=>S.heap b o ?_ (k2 _ _ (k1 _ _ e))⟩;simp only[Sq,Sx,Wo,not_or];exact⟨SI O,SI (Nat.lt_trans O a)⟩
end
def dZ(t a:List (List bc×V)):List (List bc×V):=a.foldl (λt x=>bG t x.1 x.2) t
def i7(H:Hp):List V->List (List bc×V)->Prop:=Paired λv b=>∃p a,v=.ref p/\H p=some (.tup [.ref a,b.2])/\H a=some (.tup (b.1.map kV))
section
variable{P:WL}{w:World}{H:Hp}{h:Heap}
theorem pc(ok:HOk P w H h):∀{F:List V}{E:List WM}{C:List (List bc×V)},i7 H F C->Vals F E->
 ∃B:List jo,B.length=E.length/\(∀(i:Nat)(v:WM),E[i]?=some v->∃(p:Addr)(x:jo),v=.ref p/\B[i]?=some x/\h.IsTuple p #[.ref x.2.1,x.2.2]/\(tK P w).is h x.1 x.2.1)/\
  ∀t D,KT H t D->KT H (dZ t C) (v5 D B)
 |_,_,_,.nil,.nil=>⟨[],rfl,λi v e=>by simp at e,λt D r=>r⟩
 |_,_,_,.cons (a:=v) (b:=kv) q t,.cons (b:=u) r s=>by
  obtain⟨B,j,k,l⟩:=pc ok t s;obtain⟨p,d,rfl,m,c⟩:=q;cases r;obtain⟨_,I,o,y,z,A,n,hd⟩:=(show ObjOk P w H h p (.tup [.ref d,kv.2])from ok p _ m);obtain⟨J,G,rfl,f,g⟩:=rS o;cases f;refine⟨(kv.1,d,G)::B,by simp[j],λi v e=>?_,λt D rt=>?_⟩
  .cases i with
   |zero=>simp at e;subst e;exact⟨p,(kv.1,d,G),rfl,rfl,⟨y,z,A,n,hd⟩,dI ok c⟩
   |succ i=>exact k i v (by simpa using e)
  .exact l _ _ (rt.put kv.1 c g)
theorem mL:∀(a t:List (List bc×V)),(dZ t a).length<=t.length+a.length
 |[],t=>R7 _
 |x::r,t=>by have:=mL r (bG t x.1 x.2);have b:=de t x.1 x.2;show(dZ (bG t x.1 x.2) r).length<=_;simp only[SG];lia
end
section
variable{X:Cx}
def uI(g:X.calm=true)(B:X.A.units+64<cLine):bJ X (.type "dict") (λG H Q=>∃l E D,G=[.ref l]/\Rd H l (.lst E)/\i7 H E D/\∀p,H p=none->Q (.ref p) (upd H p (.dT (dZ [] D)))):=by
 rintro S s T H G U Q I r⟨l,E,D,rfl,j,c,q⟩;obtain⟨u,rfl,ru⟩:=eB r;obtain rfl:u=Value.ref l:=ru;obtain⟨L,its,n,J,k⟩:=(show ObjOk X.prog X.w H s.heap l (.lst E)from j.ok I.aS);obtain⟨d,M,pv,m⟩:=pc I.aS c J;have F:its.toArray.size<=sizeLine:=by rw[Ss,<- J.length];exact L
 refine lG (I.ok.hd g) (by show X.A.units+1+1<cLine;lia) k (its:=d) (by rw[M,Ss]) F (λi v e=>pv i v (by simpa using e)) λV N t x=>?_;have f:H s.z=none:=I.aS.fresh (R7 _);refine⟨.ref s.z,_,I.laid (a:=s.z) (o:=.dT (dZ [] D)) (t':=N) (λb o e=>x b o (Sr e) e) (R7 _) ?_,rfl,q _ f⟩;obtain⟨o,O,P,h1,K,R,y,_,z⟩:=t;refine⟨?_,UG.mpr (Tp (SI I.big)),v5 [] d,(m [] [] .nil).keeps λb C e=>?_,o,O,P,h1,K,R,y,z⟩
 .have:=mL D [];have K:=Us c;simp only[UX]at this;lia
 .rwa[ai (ay e f)]
end
section
def Inv.Po(I:Inv X ag σ H s)(e:H a=some (.dK [])):Inv X ag σ (upd H a (.dT [])) s:=by
 obtain⟨z,y,j,r,o,f,g,h1,h,i,d,c⟩:=(show ObjOk X.prog X.w H s.heap a (.dK [])from I.aS a _ e);cases r;exact I.write (x:=a) (e:=a) (t':=s.toks) (h':=s.heap) (by rw[e];exact ⟨⟩) (.inl rfl) (λb u _ q=>q) ⟨o,h1⟩ ⟨z,y,[],.nil,o,f,g,h1,h,i,(by
  generalize f.toList=l at c;obtain⟨c,_⟩:=c;cases l with
  |nil=>rfl
  |cons x r=>cases c),S1⟩
end
def FQ(H:Hp)(a:Addr)(y:V)(r:Option V):Prop:=DGet H a y r\/(Rd H a (.dT [])/\(∃k,y=kV k)/\r=none)\/(Rd H a (.dK [])/\(∃(b:Addr)(k:List bc),y=.ref b/\H b=some (.tup (k.map kV)))/\r=none)
section
def mM(x:ObjOk P w H h a (.dT [])):(a==sysModules)=false/\h.DictOf (aH P w) a []:=by
 obtain⟨z,y,k,r,o,f,g,h1,i,j,c,d⟩:=x;cases r;have e:f=#[]:=by grind
 subst e;exact⟨y,o,#[],g,h1,i,j,λx b=>by simp at b,by constructor,S1⟩
def GZ(x:ObjOk P w H h a (.dK [])):(a==sysModules)=false/\h.DictOfH (tupleKind (aH P w)) a []:=by
 obtain⟨z,y,j,r,o,e,f,h1,g,i,d,b⟩:=x;cases r;refine⟨y,o,e,f,h1,g,i,?_,λx c=>(nomatch c),S1⟩;generalize e.toList=l at b;obtain⟨b,_⟩:=b;cases l with
 |nil=>rfl
 |cons x r=>cases b
def z_(d:A.units+1<cLine)(I:Inv X ag σ H s)(g:FQ H a y o)(c:RelV y u)(h:∀f,Inv X ag σ H f->Q (.bool (!o.isSome)) f) :
 wpAny (model X.prog X.w) A (compareOp .NotIn u (.ref a)) Q E s:=by
 rcases g with g|⟨e,⟨k,rfl⟩,rfl⟩|⟨e,⟨b,k,rfl,i⟩,rfl⟩
 .exact C5 d I g c h
 .obtain⟨y,dd⟩:=mM (e.ok I.aS);exact wpAny_notIn_of (jj c) y dd.mapOf (h _ (I.tok _))
 .obtain rfl:u=Value.ref b:=c;obtain⟨y,dd⟩:=GZ (e.ok I.aS);exact wpAny_notIn_heap (UM d) (dI I.aS i) y dd (h _ (I.tok _))
end
noncomputable def mP:HO->Prop
 |.dK _=>True
 |.dT _=>True
 |_=>False
section
def Inv.view(I:Inv X ag σ H s)(hn:∀b,H b=none->H' b=none)(ht:∀b xs,H b=some (.tup xs)->H' b=some (.tup xs))(hf:∀b o u,X.H₀ b=some (.bv o u)->H' b=some (.bv o u))
 (hb:∀b ps,H b=some (.rG ps)->H' b=some (.rG ps)) (aS:HOk X.prog X.w H' s.heap):Inv X ag σ H' s where
 ok:=I.ok
 os:=I.os
 bare:=I.bare
 base:=⟨I.base.keep,I.base.slot,λb o e n hx=>hn b (I.base.free b o e n hx),I.base.there,λb xs e=>ht b xs (I.base.iZ b xs e),hf,λb ps e=>let ⟨m,q⟩:=I.base.lM b ps e;⟨m,hb b _ q⟩⟩
 loc:=I.loc
 cell:=I.cell
 free:=hn _ I.free
 fJ:=λx c e=>hn c (I.fJ x c e)
 pin:=λp hp=>let ⟨a,b,c⟩:=I.pin p hp;⟨a,hn _ b,c⟩
 aS:=aS
 len:=I.len
def ql(ok:HOk P w H h)(hd:∃u,H d=some u/\(∀y,u≠.own y)/\∀f,u≠.tup f)(new:ObjOk P w (upd H d u') h d u'):HOk P w (upd H d u') h:=λb v e=>by
 obtain⟨u,a,h1,i⟩:=hd;by_cases g:b=d
 .subst g;rw[ac]at e;cases e;exact new
 .rw[ai g]at e;refine(ok b v e).stay (λ_ _ _ q=>q) (λc q=>?_) λc f q=>?_
  .rw[ai]
   .exact q
   .rintro rfl;rw[a]at q;cases q;exact h1 _ rfl
  .rw[ai]
   .exact q
   .rintro rfl;rw[a]at q;cases q;exact i _ rfl
def v6(h:mP u):(∀y,u≠.own y)/\(∀a,u≠.tup a)/\(∀b,u≠.rG b)/\∀o v,u≠.bv o v:=by cases u<;>first|exact h.elim|exact⟨λ_ z=>(nomatch z),λ_ z=>(nomatch z),λ_ z=>(nomatch z),λ_ _ z=>(nomatch z)⟩
def pj(a:mP u)(x:ObjOk P w H h d u)(c:∀b e,H b=some (.tup e)->H' b=some (.tup e)):ObjOk P w H' h d u:=by
 cases u with
 |dK f=>exact x
 |dT f=>obtain⟨z,y,e,r,q⟩:=x;exact⟨z,y,e,Paired.FH r λp q z=>⟨z.1,c _ _ z.2.1,z.2.2⟩,q⟩
 |_=>exact a.elim
theorem Inv.bv(I:Inv X ag σ H s)(e:H d=some u)(a:mP u)(f:s.heap.get? d=some o):Inv X ag σ (upd H d (.bv o u)) s:=by
 obtain⟨m,l,g,h⟩:=v6 a;have c:∀b j,H b=some (.tup j)->upd H d (.bv o u) b=some (.tup j):=λb j q=>by
  rw[ai]
  .exact q
  .rintro rfl;rw[e]at q;cases q;exact l _ rfl
 refine I.view (λb k=>?_) c (λb i n q=>?_) (λb p q=>?_) (ql I.aS ⟨u,e,m,l⟩ ⟨f,pj a (I.aS d u e) c⟩)
 .rw[ai]
  .exact k
  .rintro rfl;rw[e]at k;cases k
 .have q:=I.base.iW b i n q;rw[ai]
  .exact q
  .rintro rfl;rw[e]at q;cases q;exact h _ _ rfl
 .rw[ai]
  .exact q
  .rintro rfl;rw[e]at q;cases q;exact g _ rfl
def Inv.Cu(I:Inv X ag σ H s)(e:H d=some u)(a:mP u):∀o v,X.H₀ d≠some (.bv o v):=λo v q=>by have:=I.base.iW d o v q;rw[e]at this;cases this;exact(v6 a).2.2.2 _ _ rfl
def Inv.MO(I:Inv X ag σ H s)(e:H d=some (.bv o u))(c:mP u)(f:∀o v,X.H₀ d≠some (.bv o v)):Inv X ag σ (upd H d u) s:=by
 have a:∀b h,H b=some (.tup h)->upd H d u b=some (.tup h):=λb h q=>by
  rw[ai]
  .exact q
  .rintro rfl;rw[e]at q;cases q
 have x:ObjOk X.prog X.w H s.heap d u:=(show ObjOk X.prog X.w H s.heap d (.bv o u)from I.aS d _ e).2;refine I.view (λb i=>?_) a (λb g j q=>?_) (λb l q=>?_) (ql I.aS ⟨_,e,λ_ z=>(nomatch z),λ_ z=>(nomatch z)⟩ (pj c x a))
 .rw[ai]
  .exact i
  .rintro rfl;rw[e]at i;cases i
 .have k:=I.base.iW b g j q;rw[ai]
  .exact k
  .rintro rfl;exact f _ _ q
 .rw[ai]
  .exact q
  .rintro rfl;rw[e]at q;cases q
end
def v7(h:(aH P w).is k u=true):RelV (kV k) u:=by
 rcases aY (show fL k u=true from h)with⟨i,t,rfl,rfl⟩|⟨x,t,rfl,rfl⟩
 .exact⟨t,rfl⟩
 .exact⟨t,rfl⟩
section
def Aa(X:Cx)(D:Ends):Ends where
 nx:=λσ H=>D.nx σ H\/∃d o u,H d=some (.bv o u)/\mP u/\(∀o v,X.H₀ d≠some (.bv o v))/\D.nx σ (upd H d u)
 rt:=D.rt
 bk:=D.bk
 ct:=D.ct
def iu{st:Stmt}(h:PS X st t):PS X st (λD j H=>t (Aa X D) j H):=by
 intro k s j H D I q;refine bX (h k s j H _ I q) λf i r=>?_;cases f with
 |next=>
  obtain⟨a,l,b,r⟩:=r;rcases r with r|⟨d,o,u,e,c,g,r⟩
  .exact⟨a,l,b,r⟩
  .exact⟨a,_,b.MO e c g,r⟩
 |_=>exact r
end
section
def G4(I:Inv X ag σ H s)(e:Rd H a (.dK kvs)\/(Rd H a (.dT [])/\kvs=[])) :
 kvs.length<=sizeLine/\(a==sysModules)=false/\∃b,KV kvs b/\s.heap.DictOf (aH X.prog X.w) a b:=by
 rcases e with e|⟨e,rfl⟩
 .exact ij I.aS e
 .obtain⟨y,dd⟩:=mM (e.ok I.aS);exact⟨Sw _,y,[],.nil,dd⟩
end
section
def G5{k:bc}{i dflt:WM}{Q:WM->WJ->Prop}(m:(aH prog w).is k i=true)(H:s.heap.DictOf (aH prog w) d vs)(n:valueAt vs k=none)
 (h:∀F,F.DictOf (aH prog w) d (stored vs k dflt)->Heap.SameBut d s.heap F->Q dflt {s with heap:=F,toks:=s.toks+1}) (I:vs.length<=sizeLine):wpAny (model prog w) A (dictSetDefault d i dflt) Q E s:=by
 obtain⟨o,C,J,p,v,hd,u,q,y⟩:=H;have r:C.size<=sizeLine:=by
  have L:=q.length;have M:C.toList.length=C.size:=by simp
  lia
 have c:vs.findIdx? (λD=>decide (D.1=k))=none:=by
  rw[List.findIdx?_eq_none_iff];intro x z;refine Tw λe=>?_;have:(valueAt vs k).isSome=true:=by unfold valueAt;rw[V1,List.find?_isSome];exact⟨x,z,Sz e⟩
  rw[n]at this;cases this
 have j:(C.findIdx? λe=>(aH prog w).is k e.key)=none:=by
  have:(C.findIdx? λe=>(aH prog w).is k e.key)=vs.findIdx? λD=>decide (D.1=k):=by rw[<- q.findIdx k];obtain⟨l⟩:=C;simp
  rwa[this]
 have f:k∉vs.map (·.1):=not_mem_of_findIdx_none c;have g:¬(vs.any λD=>decide (D.1=k))=true:=by rw[WE];rintro⟨D,t,B⟩;exact f (Se.mpr ⟨D,t,SO B⟩)
 unfold dictSetDefault
 try with_reducible refine TH ?_
 refine KE ((aH prog w).pyHash m ?_);refine KE (wpAny_dictFind_of (s:={s with toks:=s.toks+1}) m p hd u ?_);rw[j];refine KE (V2 (KE (wpAny_updateDictKeys (hz:=r) (s:={s with toks:=s.toks+1}) p hd (R5 (h _ ⟨_,_,J+1,Uc _ p (Obj.isFreed_of_dict (Vv hd _)),v.mapDictKeys _,Vv hd _,u.push m _,?_,?_⟩ (Tl ..))))))
 .rw[stored,Sj g];have:=q.append m ((aH prog w).hash k) dflt;obtain⟨l⟩:=C;simpa using this
 .rw[stored,Sj g,SN,SX];refine⟨y,by simp,?_⟩;intro a K b G;simp only[SD,UL,Sb]at G;subst G;exact λe=>f (e▸K)
end
section
def FR:V->List V->Hp->VK->Prop:=λx c H Q=>∃a k y b,x=.ref a/\c=[kV k,y]/\(H a=some (.dK b)\/(H a=some (.dT [])/\b=[]))/\b.length<sizeLine/\
 ((∃v,cp b k=some v/\Q v H)\/(cp b k=none/\Q y (upd H a (.dK (bG b k y)))))
def Dd:FN X "dict.setdefault" FR:=by
 rintro ag s σ H x xs v us Q I t rs⟨a,k,y,R,rfl,rfl,T,hz,q⟩;obtain rfl:v=Value.ref a:=t;obtain⟨U,V,rfl,h,b⟩:=rS rs;obtain⟨L,u,S,i,c⟩:=G4 I (T.imp .inl λ⟨e,w⟩=>⟨.inl e,w⟩);have n:=jj (P:=X.prog) (w:=X.w) h;refine Tv Te c.typeIs We ?_ (Wa _ _ _);unfold Builtin.«dict.setdefault»;refine KE ?_;unfold Builtin.Dict.keyAndDefault;refine KE (UN c.typeIs (show wpAny _ _ (pure (a,U,some V)) _ _ s from R5 ?_));show wpAny _ _ (if(a==sysModules)=true then _ else(dictSetDefault a U V >>= _)) _ _ s;rw[Sj (by grind)];have A:S.length<=sizeLine:=by rw[<- i.length];lia
 have j:s.heap.DictLe a sizeLine:=λo W ep B hd=>by
  obtain⟨M,C,D,d,_,f,_,E,_⟩:=id c;rw[B]at d;cases d;rw[hd]at f;cases f;have e1:=E.length;have e2:W.toList.length=W.size:=by simp
  lia
 have Y:=i.val k;rcases q with⟨v,p,q⟩|⟨p,q⟩
 .obtain⟨N,r,l⟩:=RelO.some_of (v:=v) (o:=valueAt S k) (by grind);refine KE (wpAny_dictSetDefault_of (hz:=j) n c.mapOf (λO e=>?_) λe=>?_)
  .rw[r]at e;cases e;exact R5 ⟨_,rfl,v,H,I.tok _,l,q⟩
  .rw[r]at e;cases e
 .have m:valueAt S k=none:=by
   have:=Y.ff;rw[p]at this;cases z:valueAt S k with
   |none=>rfl
   |some _=>rw[z]at this;cases this
  refine KE (G5 n c m (λZ g hs=>R5 ⟨_,rfl,?_⟩) A);have F:∃q,Z.get? a=some q:=let ⟨q,_,_,G,_⟩:=g;⟨q,G⟩;have J:JH (H a):=by rcases T with e|⟨e,_⟩<;>(rw[e];exact ⟨⟩)
  have K:(bG R k y).length<=sizeLine:=by have:=de R k y;lia
  exact⟨y,_,gz (t':=s.toks+1) I J hs F (qe K u (i.put k b) g),b,q⟩
end
end L2
namespace ST
open PySem.SetTable
noncomputable def st(m:Nat)(h:Int):Probe:={j:=bits h%(m+1),more:=runEnd m (bits h%(m+1))-bits h%(m+1),i:=bits h%(m+1),perturb:=bits h,dummy:=none}
noncomputable def rs(m:Nat)(p:Nat×Nat):Probe:={j:=p.1,more:=runEnd m p.1-p.1,i:=p.1,perturb:=p.2,dummy:=none}
noncomputable def uJ(m:Nat)(p:Probe):Probe:=if p.more>0 then {p with j:=p.j+1,more:=p.more-1}else {p with j:=(leap m p.i p.perturb).1,more:=runEnd m (leap m p.i p.perturb).1-(leap m p.i p.perturb).1,i:=(leap m p.i p.perturb).1,perturb:=(leap m p.i p.perturb).2}
def uK(t:SetTable)(p:Probe):t.advance p=uJ t.mask p:=rfl
def it(m:Nat):Nat->Probe->Probe
 |0,p=>p
 |n+1,p=>it m n (uJ m p)
def ft(m:Nat):∀(a b:Nat)(p:Probe),it m (a+b) p=it m b (it m a p):=by intro a b;induction a<;>grind [it,uJ]
def Dg(m n:Nat)(p:Probe):it m (n+1) p=uJ m (it m n p):=ft m n 1 p
structure Va(m:Nat) (p:Probe):Prop where
 i:p.i<=m
 more:p.more<=9
 j:p.j+p.more<=m
 q:p.perturb<2^64
 d:p.dummy=none
def qo(h:Int):bits h<2^64:=by
 unfold bits
 grind
def jt(m i:Nat)(h:i<=m):runEnd m i-i<=9/\i+(runEnd m i-i)<=m:=by unfold runEnd;split<;>lia
theorem Va.rs(h1:p.1<=m)(a:p.2<2^64):Va m (rs m p):=⟨h1,(jt m _ h1).1,(jt m _ h1).2,a,rfl⟩
theorem Va.st(m:Nat)(h:Int):Va m (st m h):=by have:bits h%(m+1)<=m:=Wx (WI _ (Nat.succ_pos m));exact⟨this,(jt m _ this).1,(jt m _ this).2,qo h,rfl⟩
def qp(m i q:Nat):(leap m i q).1<=m:=by exact Wx (WI _ (Nat.succ_pos m))
def uL(m i q:Nat):(leap m i q).2=q/32:=rfl
theorem Va.uJ(v:Va m p):Va m (uJ m p):=by
 unfold ST.uJ;split
 .exact⟨v.i,by dsimp only;have:=v.more;lia,by dsimp only;have:=v.j;lia,v.q,v.d⟩
 .have l:=qp m p.i p.perturb;exact⟨l,(jt m _ l).1,(jt m _ l).2,by dsimp only;rw[uL];have:=v.q;have:=Nat.div_le_self p.perturb 32;lia,v.d⟩
theorem Va.it:∀{n:Nat}{p:Probe},Va m p->Va m (it m n p)
 |0,_,v=>v
 |n+1,_,v=>Va.it (n:=n) v.uJ
def Va.Qd(v:Va m p):p.j<=m:=by have:=v.j;lia
def lS:∀(k:Nat)(p:Probe),p.more=k->Va m p->it m (k+1) p=rs m (leap m p.i p.perturb):=by intro k;induction k<;>grind [Va,it,rs,uJ]
noncomputable def lp(m:Nat):Nat->Nat×Nat->Nat×Nat
 |0,p=>p
 |n+1,p=>lp m n (leap m p.1 p.2)
def G6(m:Nat):∀(a b:Nat)(p:Nat×Nat),lp m (a+b) p=lp m b (lp m a p):=by intro a b;induction a<;>grind [lp]
theorem J5(m:Nat):∀(n:Nat)(p:Nat×Nat),(lp m n p).2=p.2/32^n
 |0,p=>by simp[lp]
 |n+1,p=>by show(lp m n (leap m p.1 p.2)).2=_;rw[J5 m n,uL,Nat.div_div_eq_div_mul,Nat.pow_succ,Nat.mul_comm]
theorem FS(m:Nat):∀(n:Nat)(p:Nat×Nat),p.1<=m->(lp m n p).1<=m
 |0,p,h=>h
 |n+1,p,_=>FS m n _ (qp m _ _)
theorem sq:∀(L:Nat)(p:Probe),Va m p->∃n,n<=10*(L+1)/\it m n p=rs m (lp m (L+1) (p.i,p.perturb))
 |0,p,v=>⟨p.more+1,by have:=v.more;lia,lS _ p rfl v⟩
 |L+1,p,v=>by
  have h1:=lS _ p rfl v;have a:Va m (rs m (leap m p.i p.perturb)):=by rw[<- h1];exact v.it
  obtain⟨n,b,e⟩:=sq L _ a;refine⟨p.more+1+n,by have:=v.more;lia,?_⟩;rw[ft,h1,e];rfl
noncomputable def f5(m i:Nat):Nat:=(i*5+1)%(m+1)
def fN(m:Nat):Nat->Nat->Nat
 |0,i=>i
 |n+1,i=>fN m n (f5 m i)
def Ab(m:Nat):Nat->Nat->List Nat
 |0,_=>[]
 |n+1,i=>i::Ab m n (f5 m i)
theorem su(m:Nat):∀(n i k:Nat),k<n->(Ab m n i)[k]?=some (fN m k i)
 |n+1,i,0,_=>rfl
 |n+1,i,k+1,h=>su m n _ k (by lia)
theorem sv(m:Nat):∀(n i:Nat),(Ab m n i).length=n
 |0,_=>rfl
 |n+1,i=>by show(Ab m n _).length+1=_;rw[sv]
theorem qq(m:Nat):∀(a b i:Nat),fN m (a+b) i=fN m b (fN m a i)
 |0,b,i=>by rw[Nat.zero_add];rfl
 |a+1,b,i=>by rw[Nat.succ_add];exact qq m a b _
def ND(m:Nat):Bool:=((List.range (m+1)).all λj=>(Ab m (m+1) 0).contains j)&&(fN m (m+1) 0==0)
def ui(m:Nat):Prop:=m=7\/m=31\/m=127\/m=511
def v8(h:ui m):ND m=true:=by rcases h with rfl|rfl|rfl|rfl<;>decide +kernel
def Ac(h:ui m)(c:j<=m):∃n,n<=m/\fN m n 0=j:=by have:=v8 h;unfold ND at this;simp only[Up,WF]at this;have h1:=this.1 j (SZ.mpr (by lia));rw[List.contains_iff_mem,SC]at h1;obtain⟨n,a⟩:=h1;have b:=(Si.mp a).1;rw[sv]at b;rw[su m _ _ _ b]at a;exact⟨n,by lia,Th a⟩
def G7(h:ui m)(e:i<=m)(f:j<=m):∃n,n<=m/\fN m n i=j:=by
 obtain⟨a,k,c⟩:=Ac h e;obtain⟨b,l,d⟩:=Ac h f;by_cases g:a<=b
 .refine⟨b-a,by lia,?_⟩;rw[<- c,<- qq,show a+(b-a)=b by lia,d]
 .refine⟨m+1+b-a,by lia,?_⟩;have z:=v8 h;unfold ND at z;simp only[Up,U_]at z;rw[<- c,<- qq,show a+(m+1+b-a)=m+1+b by lia,qq,z.2,d]
theorem v9(m:Nat):∀(n i:Nat),lp m n (i,0)=(fN m n i,0)
 |0,_=>rfl
 |n+1,i=>by show lp m n (leap m i 0)=_;have:leap m i 0=(f5 m i,0):=rfl;rw[this];exact v9 m n _
def sw(h:ui m)(b:j<=m)(p:Nat×Nat)(h1:p.1<=m)(f:p.2<2^64):∃n,13<=n/\n<=m+13/\(lp m n p).1=j:=by
 have a:(2:Nat)^64<32^13:=by decide
 have c:(lp m 13 p).2=0:=by rw[J5];exact Nat.div_eq_of_lt (by lia)
 obtain⟨n,d,e⟩:=G7 h (FS m 13 p h1) b;refine⟨13+n,by lia,by lia,?_⟩;rw[G6]
 grind [lp,v9]
def FT(h:ui m)(a:j<=m)(v:Va m p):∃n,n<10*turns m/\(it m n p).j=j:=by obtain⟨L,h1,c,e⟩:=sw h a (p.i,p.perturb) v.i v.q;obtain⟨n,b,en⟩:=sq (L-1) p v;rw[show L-1+1=L by lia]at en b;refine⟨n,by unfold turns;lia,?_⟩;rwa[en]
def Dh(a:List Nat):Prop:=a.Pairwise (·< ·)
theorem mQ(l:Dh xs.toList):∀(d lo c:Nat),lo<=c->c<=xs.size->c-lo<=d->
 (∀i (h:i<xs.size),i<lo->xs[i]<j)->(∀i (h:i<xs.size),c<=i->j<=xs[i])->
 below.go xs j d lo c<=xs.size/\(∀i (h:i<xs.size),i<below.go xs j d lo c->xs[i]<j)/\∀i (h:i<xs.size),below.go xs j d lo c<=i->j<=xs[i]
 |0,lo,c,h1,r,v,g,k=>by
  have:lo=c:=by lia
  subst this;exact⟨r,g,k⟩
 |f+1,lo,c,h1,r,v,g,k=>by
  have q:∀a b (t:a<xs.size) (u:b<xs.size),a<=b->xs[a]<=xs[b]:=by
   intro a b t u m;rcases Nat.lt_or_eq_of_le m with h|h
   .have:=SM.mp l a b (by simpa using t) (by simpa using u) h;simpa using TY this
   .subst h;exact R7 _
  unfold below.go;by_cases o:lo<c
  .rw[Sg o];have s:(lo+c)/2<xs.size:=by lia
   have p:xs.getD ((lo+c)/2) j=xs[(lo+c)/2]:=by simp[Array.getD,s]
   dsimp only;rw[p];by_cases n:xs[(lo+c)/2]<j
   .rw[Sg n];refine mQ l f _ _ (by lia) r (by lia) (λi h e=>?_) k;exact Ts (q i _ h s (by lia)) n
   .rw[Sj n];refine mQ l f _ _ (by lia) (by lia) (by lia) g λi h e=>?_;exact SE (by lia) (q _ i s h e)
  .rw[Sj o];have:lo=c:=by lia
   subst this;exact⟨r,g,k⟩
def c_(j:Nat)(a:Dh xs.toList):below xs j<=xs.size/\(∀i (h:i<xs.size),i<below xs j->xs[i]<j)/\∀i (h:i<xs.size),below xs j<=i->j<=xs[i]:=by unfold below;exact mQ a xs.size 0 xs.size (Sw _) (R7 _) (by lia) (λi h z=>by lia) λi h z=>by lia
def Ad(d:Dh xs.toList)(h:i<xs.size):below xs xs[i]=i:=by
 obtain⟨a,b,c⟩:=c_ xs[i] d;rcases V3 (below xs xs[i]) i with q|q|q
 .have e:below xs xs[i]<xs.size:=by lia
  have h1:=c (below xs xs[i]) e (R7 _);have f:=SM.mp d _ i (by grind) (by grind) q;simp at f;lia
 .exact q
 .have:=b i h q;lia
theorem pq(j:Nat):has #[] j=false:=rfl
structure Tb(t:SetTable):Prop where
 Gv:ui t.mask
 JO:t.dummies=#[]
 ud:Dh t.place.toList
 le:∀j∈t.place.toList,j<=t.mask
def pz(h:Tb t)(a:i<t.place.size):t.slot t.place[i]=.live i:=by unfold slot;dsimp only;rw[Ad h.ud a];rw[Sg];simp[a]
def uM(h:Tb t)(a:j∉t.place.toList):t.slot j=.empty:=by
 unfold slot;dsimp only;rw[Sj,h.JO,pq]
 .rfl
 .grind
def uN(h:Tb t)(j:Nat):(j∉t.place.toList/\t.slot j=.empty)\/∃i,∃c:i<t.place.size,t.place[i]=j/\t.slot j=.live i:=by
 by_cases b:j∈t.place.toList
 .right;obtain⟨i,c,e⟩:=UT.mp b;have a:i<t.place.size:=by simpa using c
  have d:t.place[i]=j:=by simpa using e
  exact⟨i,a,d,by rw[<- d];exact pz h a⟩
 .exact .inl ⟨b,uM h b⟩
def Lv(t:SetTable)(j:Nat):Prop:=j∈t.place.toList
inductive iX(t:SetTable) (ha:Nat->Int) (h:Int) (p:Probe):Option Met->Prop
 |em (n:Nat) (e:¬Lv t (it t.mask n p).j) (b:∀k,k<n->∃i,∃hi:i<t.place.size,t.place[i]=(it t.mask k p).j/\ha i≠h):iX t ha h p (some (.empty (it t.mask n p).j none))
 |ca (n i:Nat) (hi:i<t.place.size) (e:t.place[i]=(it t.mask n p).j) (q:ha i=h) (b:∀k,k<n->∃i,∃hi:i<t.place.size,t.place[i]=(it t.mask k p).j/\ha i≠h) :
  iX t ha h p (some (.candidate (it t.mask n p).j i (it t.mask (n+1) p)))
theorem sA(h:Tb t)(ha:Nat->Int)(x:Int):∀(c:Nat)(p:Probe),Va t.mask p->(∃n,n<c/\¬Lv t (it t.mask n p).j)->iX t ha x p (probe.go t ha x c p)
 |0,p,v,⟨n,w,_⟩=>by lia
 |f+1,p,v,⟨n,w,r⟩=>by
  unfold probe.go;rcases uN h p.j with⟨h1,e⟩|⟨i,g,h1,e⟩
  .rw[e];dsimp only;have:=iX.em (t:=t) (ha:=ha) (h:=x) (p:=p) 0 h1 λk s=>by lia
   rwa[v.d]
  .rw[e];dsimp only;by_cases l:ha i=x
   .rw[Sg (by simpa using l)];exact iX.ca (t:=t) (ha:=ha) (h:=x) (p:=p) 0 i g h1 l λk s=>by lia
   .rw[Sj (by simpa using l),uK];have y:n≠0:=by rintro rfl;exact r (by show p.j∈t.place.toList;rw[<- h1];simp)
    have u:=sA h ha x f (uJ t.mask p) v.uJ ⟨n-1,by lia,by
     have:it t.mask (n-1) (uJ t.mask p)=it t.mask n p:=by show _=it t.mask n p;rw[show n=(n-1)+1 by lia];rfl
     rwa[this]⟩
    have a:∀{B:Nat},(∀k,k<B->∃i,∃g:i<t.place.size,t.place[i]=(it t.mask k (uJ t.mask p)).j/\ha i≠x)->∀k,k<B+1->∃i,∃g:i<t.place.size,t.place[i]=(it t.mask k p).j/\ha i≠x:=by
     intro B b k s;cases k with
     |zero=>exact⟨i,g,h1,l⟩
     |succ k=>exact b k (by lia)
    generalize probe.go t ha x f (uJ t.mask p)=C at u;cases u with
    |em m o b=>exact iX.em (t:=t) (ha:=ha) (h:=x) (p:=p) (m+1) o (a b)
    |ca m z q o A b=>exact iX.ca (t:=t) (ha:=ha) (h:=x) (p:=p) (m+1) z q o A (a b)
theorem mR:∀(b c:List Nat),b.Nodup->(∀x∈b,x∈c)->b.length<=c.length
 |[],_,_,_=>Sw _
 |a::b,c,f,g=>by
  have h:a∈c:=g a (Sa ..);have d:=mR b (c.erase a) (Tz.mp f).2 λx e=>by grind
  grind
def mS(h:Tb t)(d:t.place.size<=t.mask):∃j,j<=t.mask/\¬Lv t j:=by refine S3 λb=>?_;have c:∀j,j<=t.mask->j∈t.place.toList:=λj a=>S3 λz=>b ⟨j,a,z⟩;have:=mR (List.range (t.mask+1)) t.place.toList VD λj a=>c j (by grind);simp at this;lia
def mT(h:Tb t)(d:t.place.size<=t.mask)(c:Nat->Int)(x:Int)(v:Va t.mask p):iX t c x p (t.probe c x p):=by obtain⟨j,a,b⟩:=mS h d;obtain⟨n,h1,e⟩:=FT h.Gv a v;unfold probe;exact sA h c x _ p v ⟨n,h1,by grind⟩
def Rea(m:Nat)(a:Nat->Prop)(h:Int)(j:Nat):Prop:=∃n,(it m n (st m h)).j=j/\∀k,k<n->a (it m k (st m h)).j
def Rea.mono(r:Rea m lv h j)(s:∀j,lv j->lv' j):Rea m lv' h j:=let ⟨n,e,b⟩:=r;⟨n,e,λk a=>s _ (b k a)⟩
structure oh{V:Type} (t:SetTable) (a:Array (Int×V)):Prop where
 tb:Tb t
 len:t.place.size=a.size
 JN:∀q∈t.place.toList.zip a.toList,Rea t.mask (·∈ t.place.toList) q.2.1 q.1
def jp(t:SetTable):Prop:=t.place.size*5<t.mask*3
def insertAt_toList{b:Type}(a:Array b)(p:Nat)(x:b)(h:p<=a.size):(insertAt a p x).toList=a.toList.take p++x::a.toList.drop p:=by unfold insertAt;simp[Array.toList_extract,List.extract_eq_drop_take,TJ]
def insertAt_size{b:Type}(a:Array b)(p:Nat)(x:b)(h:p<=a.size):(insertAt a p x).size=a.size+1:=by rw[<- Tu,insertAt_toList a p x h];simp;lia
def jX(h:Tb t)(j:Nat):(t.put j).1={t with place:=insertAt t.place (below t.place j) j}:=by
 unfold put;dsimp only;rw[h.JO]
 grind [pq]
def lT(t:SetTable)(j:Nat):(t.put j).2=below t.place j:=rfl
def uO{d b:Type}(c:List d)(a:List b)(p:Nat)(x:d)(y:b)(h:c.length=a.length):(c.take p++x::c.drop p).zip (a.take p++y::a.drop p)=(c.zip a).take p++(x,y)::(c.zip a).drop p:=by rw[List.zip_append (by simp[h]),List.zip_cons_cons];simp[List.zip,List.take_zipWith,List.drop_zipWith]
def uP{V:Type}{t:SetTable}{D:Array (Int×V)}(h:oh t D){j:Nat}(y:j∉t.place.toList)(p:j<=t.mask){o:Int}{v:V}(r:Rea t.mask (·∈ t.place.toList) o j) :
 oh (t.put j).1 (insertAt D (t.put j).2 (o,v))/\(t.put j).1.mask=t.mask/\(t.put j).1.place.size=t.place.size+1:=by
 obtain⟨a,b,c⟩:=c_ j h.tb.ud;rw[jX h.tb,lT];have u:below t.place j<=D.size:=by rwa[<- h.len]
 have G:=insertAt_toList t.place _ j a;have A:=insertAt_toList D (below t.place j) (o,v) u;have E:∀k,k∈(insertAt t.place (below t.place j) j).toList↔k=j\/k∈t.place.toList:=by
  intro k;rw[G,Sk,Sq];constructor
  .rintro (z|rfl|z)
   .exact .inr (Uh z)
   .exact .inl rfl
   .exact .inr (Wh z)
  .rintro (rfl|z)
   .exact .inr (.inl rfl)
   .rw[<- T2 (below t.place j) t.place.toList,Sk]at z;exact z.elim .inl λz=>.inr (.inr z)
 refine⟨⟨⟨h.tb.Gv,h.tb.JO,?_,λk d=>?_⟩,?_,λq g=>?_⟩,rfl,insertAt_size _ _ _ a⟩
 .show Dh (insertAt t.place (below t.place j) j).toList;rw[G];unfold Dh;rw[Wi];refine⟨h.tb.ud.sublist (List.take_sublist _ _),?_,?_⟩
  .rw[VO];refine⟨λk d=>?_,h.tb.ud.sublist (List.drop_sublist _ _)⟩;obtain⟨i,m,e⟩:=UT.mp d;rw[VC]at m;have f:below t.place j+i<t.place.size:=by simp at m;lia
   have F:t.place[below t.place j+i]=k:=by rw[<- e];simp
   have:=c _ f (by lia);rw[F]at this;have:k≠j:=λz=>y (by rw[<- z,<- F];simp);lia
  .intro k d l hl;obtain⟨i,m,e⟩:=UT.mp d;rw[TC]at m;have f:i<t.place.size:=by simp at m;lia
   have F:t.place[i]=k:=by rw[<- e];simp
   have w:=b i f (by lia);rw[F]at w;rw[Sq]at hl;rcases hl with rfl|hl
   .exact w
   .obtain⟨x,n,B⟩:=UT.mp hl;rw[VC]at n;have s:below t.place j+x<t.place.size:=by simp at n;lia
    have C:t.place[below t.place j+x]=l:=by rw[<- B];simp
    have:=c _ s (by lia);rw[C]at this;lia
 .rcases (E k).mp d with rfl|z
  .exact p
  .exact h.tb.le k z
 .show(insertAt t.place (below t.place j) j).size=_;rw[insertAt_size _ _ _ a,insertAt_size _ _ _ u,h.len]
 .have g:q∈(insertAt t.place (below t.place j) j).toList.zip (insertAt D (below t.place j) (o,v)).toList:=g;rw[G,A,uO _ _ _ _ _ (by simpa using h.len)]at g;have sub:∀k,k∈t.place.toList->k∈(insertAt t.place (below t.place j) j).toList:=λk d=>(E k).mpr (.inr d);rw[Sk,Sq]at g;rcases g with z|rfl|z
  .exact(h.JN q (Uh z)).mono sub
  .exact r.mono sub
  .exact(h.JN q (Wh z)).mono sub
def ow(a:Array (Option Nat))(j:Nat):Prop:=∃k,a[j]?=some (some k)
theorem qr(i q:Nat):∀k,k<=runEnd m i-i->it m k (rs m (i,q))={j:=i+k,more:=runEnd m i-i-k,i:=i,perturb:=q,dummy:=none}
 |0,_=>rfl
 |k+1,h=>by
  rw[Dg,qr i q k (by lia)]
  grind [uJ]
theorem pA(E:owner.size=m+1):∀(a i q:Nat),i<=m->q<2^64->(∃L,L<a/\¬ow owner (lp m L (i,q)).1)->
 ∃j,layClean.free m owner a i q=some j/\j<=m/\¬ow owner j/\∃n,(it m n (rs m (i,q))).j=j/\∀k,k<n->ow owner (it m k (rs m (i,q))).j
 |0,i,q,_,_,⟨L,h,_⟩=>by lia
 |f+1,i,q,g,s,⟨L,y,l⟩=>by
  obtain⟨z,A⟩:=jt m i g;have t:runEnd m i+1-i=(runEnd m i-i)+1:=by
   have:i<=runEnd m i:=by unfold runEnd;split<;>lia
   lia
  have o:∀k,k<=runEnd m i-i->((owner.getD (i+k) (some 0)).isNone=true↔¬ow owner (i+k)):=by
   intro k d;have C:i+k<owner.size:=by lia
   have e:owner[i+k]?=some owner[i+k]:=by simp[C]
   have F:owner.getD (i+k) (some 0)=owner[i+k]:=by simp[Array.getD,C]
   unfold ow;rw[F,e];cases owner[i+k]<;>simp
  unfold layClean.free;cases p:(List.range (runEnd m i+1-i)).find? λk=>(owner.getD (i+k) (some 0)).isNone with
  |some k=>
   dsimp only;rw[List.find?_range_eq_some]at p;obtain⟨h1,D,G⟩:=p;have D:=SZ.mp D;have d:k<=runEnd m i-i:=by lia
   refine⟨i+k,rfl,by lia,(o k d).mp h1,k,by rw[qr i q k d],λB u=>?_⟩
   grind [qr]
  |none=>
   dsimp only;rw[List.find?_range_eq_none]at p;have b:∀k,k<=runEnd m i-i->ow owner (i+k):=by grind
   have v:L≠0:=by rintro rfl;exact l (b 0 (Sw _))
   have w:=pA E f (leap m i q).1 (leap m i q).2 (qp m i q) (by rw[uL];have:=Nat.div_le_self q 32;lia) ⟨L-1,by lia,by
    have:lp m L (i,q)=lp m (L-1) (leap m i q):=by rw[show L=(L-1)+1 by lia];rfl
    rwa[this]at l⟩
   obtain⟨j,e,x,r,n,en,C⟩:=w;refine⟨j,e,x,r,runEnd m i-i+1+n,?_,λk d=>?_⟩
   .rw[ft,lS (runEnd m i-i) (rs m (i,q)) rfl (Va.rs g s)];exact en
   .by_cases c:k<=runEnd m i-i
    .rw[qr i q k c];exact b k c
    .have:it m k (rs m (i,q))=it m (k-(runEnd m i-i+1)) (rs m (leap m i q)):=by rw[show k=(runEnd m i-i+1)+(k-(runEnd m i-i+1)) by lia,ft,lS (runEnd m i-i) (rs m (i,q)) rfl (Va.rs g s)];congr 1;lia
     rw[this];exact C _ (by lia)
structure Own(m:Nat) (b:List Int) (a:Array (Option Nat)):Prop where
 size:a.size=m+1
 all:∀k:Nat,k<b.length->∃j:Nat,a[j]?=some (some k)
 lt:∀j k:Nat,a[j]?=some (some k)->k<b.length
 JN:∀(j k:Nat)(h:Int),a[j]?=some (some k)->b[k]?=some h->Rea m (ow a) h j
 inj:∀j c k:Nat,a[j]?=some (some k)->a[c]?=some (some k)->j=c
def Own.MH(o:Own m hs owner)(q:hs.length<=m):∃j,j<=m/\¬ow owner j:=by
 refine S3 λh=>?_;have i:∀j,j<=m->ow owner j:=λj c=>S3 λz=>h ⟨j,c,z⟩
 let g:Nat->Nat:=λj=>((owner[j]?).getD none).getD 0
 have d:∀j,j<=m->owner[j]?=some (some (g j)):=λj c=>by obtain⟨k,l⟩:=i j c;show owner[j]?=some (some (((owner[j]?).getD none).getD 0));rw[l];rfl
 have t:((List.range (m+1)).map g).Nodup:=by unfold List.Nodup;rw[To];have:=VD (n:=m+1);refine Uq (λ{a b} r s f e=>f ?_) this;have r:=SZ.mp r;have s:=SZ.mp s;exact o.inj a b (g a) (d a (by lia)) (by rw[e];exact d b (by lia))
 have:=mR _ (List.range hs.length) t λx p=>by obtain⟨j,c,rfl⟩:=Se.mp p;have c:=SZ.mp c;exact SZ.mpr (o.lt j _ (d j (by lia)))
 simp at this;lia
def Ae(C:ui m)(o:Own m hs owner)(v:hs.length<=m)(h:Int) :
 ∃j,layClean.free m owner (turns m) (bits h%(m+1)) (bits h)=some j/\Own m (hs++[h]) (owner.setIfInBounds j (some hs.length)):=by
 obtain⟨w,l,p⟩:=o.MH v;have f:bits h%(m+1)<=m:=Wx (WI _ (Nat.succ_pos m));obtain⟨L,x,y,D⟩:=sw C l (bits h%(m+1),bits h) f (qo h);obtain⟨j,e,A,q,n,en,E⟩:=pA o.size (turns m) _ _ f (qo h) ⟨L,by unfold turns;lia,by rwa[D]⟩;refine⟨j,e,?_⟩;have r:j<owner.size:=by rw[o.size];lia
 have get:∀i,(owner.setIfInBounds j (some hs.length))[i]?=if i=j then some (some hs.length)else owner[i]?:=by
  intro i;rw[Array.getElem?_setIfInBounds];by_cases a:j=i
  .subst a;rw[Sg rfl,Sg r,Sg rfl]
  .rw[Sj a,Sj (λz=>a z.symm)]
 have sub:∀i,ow owner i->ow (owner.setIfInBounds j (some hs.length)) i:=by
  rintro i ⟨k,b⟩;by_cases a:i=j
  .exact⟨_,by rw[get,Sg a]⟩
  .exact⟨k,by rwa[get,Sj a]⟩
 have c:∀i k,(owner.setIfInBounds j (some hs.length))[i]?=some (some k)->(i=j/\k=hs.length)\/(i≠j/\owner[i]?=some (some k)):=by
  intro i k b;rw[get]at b;by_cases a:i=j
  .rw[Sg a]at b;exact .inl ⟨a,by simpa using b.symm⟩
  .rw[Sj a]at b;exact .inr ⟨a,b⟩
 refine⟨by rw[Array.size_setIfInBounds,o.size],λk b=>?_,λi k b=>?_,λi k F b g=>?_,λi s k h1 G=>?_⟩
 .rw[Sm,SY]at b;by_cases d:k=hs.length
  .exact⟨j,by rw[get,Sg rfl,d]⟩
  .obtain⟨i,f⟩:=o.all k (by lia);refine⟨i,?_⟩;rw[get,Sj]
   .exact f
   .rintro rfl;exact q ⟨k,f⟩
 .rw[Sm,SY];rcases c i k b with⟨_,rfl⟩|⟨_,z⟩
  .lia
  .have:=o.lt i k z;lia
 .rcases c i k b with⟨rfl,rfl⟩|⟨a,z⟩
  .rw[T4 (R7 _),Nat.sub_self]at g;cases g;exact⟨n,en,λk b=>sub _ (E k b)⟩
  .have d:=o.lt i k z;rw[Uj d]at g;exact(o.JN i k F z g).mono sub
 .rcases c i k h1 with⟨rfl,rfl⟩|⟨a,z⟩<;>rcases c s _ G with⟨rfl,B⟩|⟨t,u⟩
  .rfl
  .have:=o.lt _ _ u;lia
  .have:=o.lt _ _ z;lia
  .exact o.inj i s k z u
theorem Af(n:ui m):∀(b l:List Int)(i:Array (Option Nat)),Own m l i->l.length+b.length<=m->
 ∃a,b.foldl (λc h=>do
  let (i,k) <- c
  let j <- layClean.free m i (turns m) (bits h%(m+1)) (bits h)
  pure (i.setIfInBounds j (some k),k+1)) (some (i,l.length))=some (a,l.length+b.length)/\Own m (l++b) a
 |[],l,i,o,_=>⟨i,rfl,by grind⟩
 |h::b,l,i,o,d=>by
  simp only[SG]at d;obtain⟨j,e,f⟩:=Ae n o (by lia) h;obtain⟨a,p,g⟩:=Af n b (l++[h]) _ f (by simp;lia)
  grind
def G8(g:ui m)(f:Array Int)(c:f.size<=m):∃d,layClean m f=some d/\Own m f.toList d:=by
 have a:Own m [] (Array.replicate (m+1) none):=by
  have no:∀j k:Nat,(Array.replicate (m+1) (none:Option Nat))[j]?=some (some k)->False:=by grind
  exact⟨by simp,λk b=>by simp at b,λj k h=>(no j k h).elim,λj k _ h=>(no j k h).elim,λj _ k h=>(no j k h).elim⟩
 obtain⟨d,e,o⟩:=Af g f.toList [] _ a (by grind);refine⟨d,?_,by grind⟩;unfold layClean
 grind
theorem Ag{f:Type}(d:Array f):∀(l:List Nat),(∀k∈l,k<d.size)->(l.filterMap (d[·]?)).length=l.length/\∀i:Nat,(l.filterMap (d[·]?))[i]?=(l[i]?).bind (d[·]?)
 |[],_=>⟨rfl,λi=>by simp⟩
 |k::l,h=>by
  have c:k<d.size:=h k (Sa ..);have e:d[k]?=some d[k]:=by simp[c]
  obtain⟨a,b⟩:=Ag d l λk c=>h k (Sf _ c);rw[List.filterMap_cons_some e];refine⟨by simp[a],λi=>?_⟩;cases i with
  |zero=>simp[e]
  |succ i=>simpa using b i
theorem mU(o:Nat->Option Nat):∀l:List Nat,(l.filterMap λj=>(o j).map (j,·)).map Prod.fst=l.filter λj=>(o j).isSome
 |[]=>rfl
 |j::l=>by
  rw[U2,T7];cases e:o j with
  |none=>simpa using mU o l
  |some k=>simpa using mU o l
def Ah(c:Array (Option Nat))(m:Nat)(l:c.size=m+1)(j k:Nat):(j,k)∈((List.range (m+1)).filterMap λj=>(c.getD j none).map (j,·))↔c[j]?=some (some k):=by
 rw[Vf];constructor
 .rintro⟨a,h1,g⟩;have h1:=SZ.mp h1;have d:a<c.size:=by lia
  have e:c.getD a none=c[a]:=by simp[Array.getD,d]
  rw[e]at g;obtain⟨b,i,f⟩:=Tf.mp g;cases f;rw[show c[j]?=some c[j] by simp[d],i]
 .intro h;obtain⟨d,e⟩:=Ut.mp h;refine⟨j,SZ.mpr (by lia),?_⟩;have f:c.getD j none=c[j]:=by simp[Array.getD,d]
  rw[f,e];rfl
structure Laid{V:Type} (m:Nat) (b a:Array (Int×V)) (c:SetTable):Prop where
 rG:oh c a
 mask:c.mask=m
 size:a.size=b.size
 mem:∀x,x∈a.toList↔x∈b.toList
 pw:∀R:Int×V->Int×V->Prop,(∀x y,R x y->R y x)->b.toList.Pairwise R->a.toList.Pairwise R
def sC{V:Type}{m:Nat}(Y:ui m)(N:Array (Int×V))(G:N.size<=m)(finger moves:Nat)(led plain:Bool) :
 ∃U c,laid m finger moves led plain (N.map (·.1))=some (U,c)/\Laid m N (c.filterMap (N[·]?)) U/\U.led=led/\U.plain=plain/\c.toList.Perm (List.range N.size):=by
 obtain⟨O,H,o⟩:=G8 Y (N.map (·.1)) (by simpa using G);have len:(N.map (·.1)).toList.length=N.size:=by simp
 let M:=(List.range (m+1)).filterMap λj=>(O.getD j none).map (j,·)
 have f:∀j k,(j,k)∈M↔O[j]?=some (some k):=Ah O m o.size;have W:Dh (M.map Prod.fst):=by show Dh (((List.range (m+1)).filterMap λj=>(O.getD j none).map (j,·)).map Prod.fst);rw[mU];exact List.pairwise_lt_range.sublist (List.filter_sublist)
 have g:(M.map Prod.snd).Nodup:=by unfold List.Nodup;unfold Dh at W;rw[To]at W ⊢;refine Uq (λ{a b} T S n e=>?_) W;have h1:=(f a.1 a.2).mp T;have Q:=(f b.1 b.2).mp S;rw[<- e]at Q;have:=o.inj _ _ _ h1 Q;lia
 have lt:∀k∈M.map Prod.snd,k<N.size:=by
  intro k d;obtain⟨p,l,rfl⟩:=Se.mp d;have:=o.lt p.1 p.2 ((f p.1 p.2).mp l)
  rwa [len]at this
 have all:∀k,k<N.size->k∈M.map Prod.snd:=by intro k d;obtain⟨j,r⟩:=o.all k (by rwa[len]);exact Se.mpr ⟨(j,k),(f j k).mpr r,rfl⟩
 have B:M.length=N.size:=by have a:=mR _ (List.range N.size) g λk d=>SZ.mpr (lt k d);have b:=mR (List.range N.size) (M.map Prod.snd) VD λk d=>all k (SZ.mp d);simp at a b;lia
 obtain⟨C,w⟩:=Ag N (M.map Prod.snd) lt;refine⟨{mask:=m,place:=(M.map (·.1)).toArray,dummies:=#[],finger,led,moves,plain},(M.map (·.2)).toArray,?_,?_,rfl,rfl,(List.perm_ext_iff_of_nodup g VD).mpr λk=>⟨λh=>SZ.mpr (lt k h),λh=>all k (SZ.mp h)⟩⟩
 .unfold laid;rw[H];rfl
 .have X:((M.map (·.2)).toArray.filterMap (N[·]?)).toList=(M.map Prod.snd).filterMap (N[·]?):=by simp
  have s:((M.map (·.2)).toArray.filterMap (N[·]?)).size=N.size:=by rw[<- Tu,X,C,R9,B]
  refine⟨⟨⟨Y,rfl,by simpa using W,λj r=>?_⟩,?_,λq v=>?_⟩,rfl,s,λx=>?_,λR I Z=>?_⟩
  .have r:j∈M.map Prod.fst:=by simpa using r
   obtain⟨p,l,rfl⟩:=Se.mp r;obtain⟨S,_⟩:=Ut.mp ((f p.1 p.2).mp l);show p.1<=m;have:=o.size;lia
  .rw[s];simpa using B
  .have v:q∈(M.map Prod.fst).zip ((M.map Prod.snd).filterMap (N[·]?)):=by rw[X]at v;simpa using v
   obtain⟨i,D⟩:=SC.mp v;rw[Vy,w]at D;obtain⟨h1,Q⟩:=D;rw[Su]at h1 Q;obtain⟨p,l,e1⟩:=Tf.mp h1;rw[l]at Q;have Q:N[p.2]?=some q.2:=Q;have J:=(f p.1 p.2).mp (SC.mpr ⟨i,l⟩);have K:(N.map (·.1)).toList[p.2]?=some q.2.1:=by rw[SW,Array.getElem?_map,Q];rfl
   rw[<- e1];refine(o.JN p.1 p.2 q.2.1 J K).mono λj ⟨k,d⟩=>?_;show j∈(M.map (·.1)).toArray.toList;simpa using⟨k,(f j k).mpr d⟩
  .rw[X];constructor
   .intro y;obtain⟨k,_,Q⟩:=Vf.mp y;exact SC.mpr ⟨k,by rw[SW];exact Q⟩
   .intro y;obtain⟨k,d⟩:=SC.mp y;have S:k<N.size:=by have:=(Si.mp d).1;simpa using this
    exact Vf.mpr ⟨k,all k S,by rwa[SW]at d⟩
  .rw[X];rw[SM];intro a b T S n;have t:=w a;have u:=w b;rw[R_ T]at t;rw[R_ S]at u;rw[C]at T S;rw[R_ T]at t;rw[R_ S]at u;have A:(M.map Prod.snd)[a]≠(M.map Prod.snd)[b]:=SM.mp g a b T S n;have t:N[(M.map Prod.snd)[a]]?=some _:=t.symm;have u:N[(M.map Prod.snd)[b]]?=some _:=u.symm;obtain⟨E,va⟩:=Ut.mp t;obtain⟨F,L⟩:=Ut.mp u;have P:=SM.mp Z;rw[<- va,<- L];rcases VP A with z|z
   .simpa using P _ _ (by simpa using E) (by simpa using F) z
   .refine I _ _ ?_;simpa using P _ _ (by simpa using F) (by simpa using E) z
def Di{V:Type}{m:Nat}(i:ui m)(h:Array (Int×V))(f:h.size<=m)(finger moves:Nat)(led plain:Bool) :
 ∃g e,laid m finger moves led plain (h.map (·.1))=some (g,e)/\Laid m h (e.filterMap (h[·]?)) g/\g.led=led/\g.plain=plain:=by
 obtain⟨g,e,a,b,c,d,_⟩:=sC i h f finger moves led plain;exact⟨g,e,a,b,c,d⟩
end ST
namespace ST
open PySem.W
structure Lt(N:Nat) (lt:Nat->Nat->Bool):Prop where
 RP:∀i,lt i i=false
 tr:∀i j k,lt i j=true->lt j k=true->lt i k=true
 RI:∀i j,i<N->j<N->i≠j->lt i j=true\/lt j i=true
noncomputable abbrev Ql:=Nat->Nat->(Bool->WJ->Prop)->WJ->Prop
def Dj(N:Nat)(lt:Nat->Nat->Bool)(a:Ql)(s:WJ):Prop:=∀i j C,i<N->j<N->C (lt i j) s->a i j C s
def Pm(N:Nat)(p:Array Nat):Prop:=p.toList.Perm (List.range N)
noncomputable def cM(p:Array Nat)(i:Nat):Nat:=p.getD i 0
section
theorem Pm.size(h:Pm N p):p.size=N:=by have:=h.length_eq;simpa using this
def Pm.perm(h:Pm N p)(q:p'.Perm p):Pm N p':=(Array.perm_iff_toList_perm.mp q).trans h
def G9(a:i<p.size):p[i]?=some (cM p i):=by unfold cM;simp[Array.getD,a]
theorem Ai(h:p'[i]?=p[k]?):cM p' i=cM p k:=by
 simp_all [cM,cM]
def Pm.bd(h:Pm N p)(b:i<N):cM p i<N:=by
 have a:i<p.size:=by rwa[h.size]
 have:cM p i∈p.toList:=SC.mpr ⟨i,by rw[SW];exact G9 a⟩;exact SZ.mp (h.mem_iff.mp this)
def Pm.ne(h:Pm N p)(f:i<N)(g:j<N)(e:i≠j):cM p i≠cM p j:=by
 have k:p.toList.Nodup:=h.nodup_iff.mpr VD;have a:i<p.size:=by rwa[h.size]
 have b:j<p.size:=by rwa[h.size]
 have c:p.toList[i]'(by simpa using a)=cM p i:=by simp[cM,Array.getD,a]
 have d:p.toList[j]'(by simpa using b)=cM p j:=by simp[cM,Array.getD,b]
 intro z;rcases VP e with q|q
 .exact SM.mp k i j (by simpa using a) (by simpa using b) q (by rwa[c,d])
 .exact SM.mp k j i (by simpa using b) (by simpa using a) q (by rw[c,d];exact z.symm)
def So(lt:Nat->Nat->Bool)(p:Array Nat)(k:Nat):Prop:=∀a b,a<b->b<k->lt (cM p a) (cM p b)=true
def De(lt:Nat->Nat->Bool)(p:Array Nat)(k:Nat):Prop:=∀a b,a<b->b<k->lt (cM p b) (cM p a)=true
def Lt.vK(o:Lt N lt)(a:i<N)(b:j<N)(e:i≠j)(h:lt i j=false):lt j i=true:=by
 grind [Lt]
def So.snoc(o:Lt N lt)(h:So lt p k)(a:1<=k)(l:lt (cM p (k-1)) (cM p k)=true):So lt p (k+1):=by
 grind [Lt,So]
def De.snoc(o:Lt N lt)(h:De lt p k)(a:1<=k)(l:lt (cM p k) (cM p (k-1))=true):De lt p (k+1):=by
 grind [Lt,De]
theorem uQ(o:Lt N lt)(h:Dj N lt cmp s)(e:Pm N p):∀(f n:Nat){Q:Nat->WJ->Prop},1<=n->n+f=N->So lt p n->
 (∀m,n<=m->m<=N->So lt p m->(m<N->lt (cM p m) (cM p (m-1))=true)->Q m s)->(kas_asc p f n).kasWp cmp Q s
 |0,n,Q,h1,i,g,k=>k n (R7 _) (by lia) g λz=>by lia
 |f+1,n,Q,h1,i,g,k=>by
  refine h _ _ _ (e.bd (by lia)) (e.bd (by lia)) ?_;show KasT.kasWp cmp (if lt (cM p n) (cM p (n-1))=true then .ret n else kas_asc p f (n+1)) Q s;by_cases c:lt (cM p n) (cM p (n-1))=true
  .rw[Sg c];exact k n (R7 _) (by lia) g λ_=>c
  .rw[Sj c];have c:lt (cM p n) (cM p (n-1))=false:=by grind
   exact uQ o h e f (n+1) (by lia) (by lia) (g.snoc o h1 (o.vK (e.bd (by lia)) (e.bd (by lia)) (e.ne (by lia) (by lia) (by lia)) c)) λm a b c d=>k m (by lia) b c d
theorem v_(o:Lt N lt)(h:Dj N lt cmp s)(e:Pm N p):∀(f n:Nat){Q:Array Nat×Nat×Nat->WJ->Prop},1<=n->n+f=N->De lt p n->
 (∀m,n<=m->m<=N->De lt p m->Q (p,m,0) s)->(kas_desc f p n 0).kasWp cmp Q s
 |0,n,Q,h1,i,g,k=>k n (R7 _) (by lia) g
 |f+1,n,Q,h1,i,g,k=>by
  refine h _ _ _ (e.bd (by lia)) (e.bd (by lia)) ?_;show KasT.kasWp cmp (if lt (cM p n) (cM p (n-1))=true then(if 0>0 then kas_desc f (kas_rev p (n-(0+1)) n) (n+1) 0 else kas_desc f p (n+1) 0)
   else .ask (cM p (n-1)) (cM p n) λd=>if d=true then .ret (p,n,0)else kas_desc f p (n+1) (0+1)) Q s
  by_cases c:lt (cM p n) (cM p (n-1))=true
  .rw[Sg c,Sj (by lia)];exact v_ o h e f (n+1) (by lia) (by lia) (g.snoc o h1 c) λm a b c=>k m (by lia) b c
  .rw[Sj c];have c:lt (cM p n) (cM p (n-1))=false:=by grind
   refine h _ _ _ (e.bd (by lia)) (e.bd (by lia)) ?_;rw[o.vK (e.bd (by lia)) (e.bd (by lia)) (e.ne (by lia) (by lia) (by lia)) c];show KasT.kasWp cmp (if true=true then _ else _) Q s;rw[Sg rfl];exact k n (R7 _) (by lia) g
def Aj(n:Nat)(a:n<=p.size)(k:Nat):cM (kas_rev p 0 n) k=if k<n then cM p (n-1-k)else cM p k:=by
 have e:=getElem?_mirror_all (xs:=p) (i:=0) a k;unfold kas_rev
 grind [Ai]
def Al(o:Lt N lt)(i:Dj N lt cmp s)(h:Pm N p)(h1:1<=n)(f:n<=N)(hd:De lt p n)
 (k:∀m e,1<=m->m<=N->Pm N e->So lt e m->Q (m,e) s):(kas_tail3 n N p).kasWp cmp Q s:=by
 unfold kas_tail3;rw[VQ];have d:Pm N (kas_rev p 0 n):=h.perm (mirror_perm _ _ _ _);refine uQ o i d (N-n) n h1 (by lia) ?_ λm a b c _=>k m _ (by lia) b d c;intro a b g j;rw[Aj n (by rwa[h.size]),Aj n (by rwa[h.size]),Sg (by lia),Sg j];exact hd _ _ (by lia) (by lia)
def An(o:Lt N lt)(t:Dj N lt cmp s)(r:Pm N p)(w:2<=N)
 (k:∀m f,1<=m->m<=N->Pm N f->So lt f m->Q (m,f) s):(kas_count N p).kasWp cmp Q s:=by
 unfold kas_count;rw[VQ];refine uQ o t r (N-1) 1 (R7 _) (by lia) (λa b g v=>by lia) λm a b c d=>?_;by_cases e:m=N
 .rw[Sg (by simpa using e)];exact k m p a b r c
 .rw[Sj (by simpa using e)];by_cases u:m>1
  .rw[Sg u];refine t _ _ _ (r.bd (by lia)) (r.bd (by lia)) ?_;have:lt (cM p 0) (cM p (m-1))=true:=c 0 (m-1) (by lia) (by lia);show KasT.kasWp cmp (if lt (cM p 0) (cM p (m-1))=true then _ else _) Q s;rw[Sg this];exact k m p a b r c
  .rw[Sj u];have h:m=1:=by lia
   subst h;unfold kas_descPart;rw[VQ];have l:=d (by lia);refine v_ o t r (N-(1+1)) (1+1) (by lia) (by lia) (λa b g v=>?_) λi q j n=>?_
   .have:a=0:=by lia
    have:b=1:=by lia
    subst_vars
    exact l
   .show KasT.kasWp cmp (if 0>0 then _ else kas_tail3 i N p) Q s;rw[Sj (by lia)];exact Al o t r (by lia) j n k
theorem mV(o:Lt N lt)(n:Dj N lt cmp s)(h:Pm N p)(b:i<N)(j:So lt p i):∀(f l r:Nat){Q:Nat->WJ->Prop},l<=r->r<=i->r-l<=f->
 (∀a,a<l->lt (cM p a) (cM p i)=true)->(∀a,r<=a->a<i->lt (cM p i) (cM p a)=true)->
 (∀m,m<=i->(∀a,a<m->lt (cM p a) (cM p i)=true)->(∀a,m<=a->a<i->lt (cM p i) (cM p a)=true)->Q m s)->(kas_place p i f l r).kasWp cmp Q s
 |0,l,r,Q,h1,t,u,d,g,k=>k l (by lia) d λa x y=>g a (by lia) y
 |f+1,l,r,Q,h1,t,u,d,g,k=>by
  unfold kas_place;by_cases c:l>=r
  .rw[Sg c];exact k l (by lia) d λa x y=>g a (by lia) y
  .rw[Sj c];refine n _ _ _ (h.bd b) (h.bd (by lia)) ?_;show KasT.kasWp cmp (if lt (cM p i) (cM p ((l+r)/2))=true then _ else _) Q s;by_cases q:lt (cM p i) (cM p ((l+r)/2))=true
   .rw[Sg q];refine mV o n h b j f l ((l+r)/2) (by lia) (by lia) (by lia) d (λa x y=>?_) k;by_cases e:a=(l+r)/2
    .rwa[e]
    .exact o.tr _ _ _ q (j _ _ (by lia) y)
   .rw[Sj q];have q:lt (cM p i) (cM p ((l+r)/2))=false:=by grind
    have q:=o.vK (h.bd b) (h.bd (by lia)) (h.ne b (by lia) (by lia)) q;refine mV o n h b j f _ r (by lia) t (by lia) (λa x=>?_) g k;by_cases e:a=(l+r)/2
    .rwa[e]
    .exact o.tr _ _ _ (j _ _ (by lia) (by lia)) q
def Ao(a:i<p.size)(b:l<=i)(k:Nat):cM (bubble p i (i-l)) k=if k=l then cM p i else if l<k/\k<=i then cM p (k-1)else cM p k:=by
 have e:=getElem?_bubble a (i-l) (by lia) k;rw[show i-(i-l)=l by lia]at e;by_cases h1:k=l
 .rw[Sg h1]at e ⊢;exact Ai e
 .rw[Sj h1]at e ⊢
  grind [Ai]
theorem Ap(o:Lt N lt)(l:Dj N lt cmp s):∀(f i:Nat)(p:Array Nat){Q:Array Nat->WJ->Prop},Pm N p->i+f=N->So lt p i->
 (∀c,Pm N c->So lt c N->Q c s)->(kas_bin f p i).kasWp cmp Q s
 |0,i,p,Q,g,h,j,k=>k p g (by grind)
 |f+1,i,p,Q,g,h,j,k=>by
  unfold kas_bin;rw[VQ];refine mV o l g (by lia) j i 0 i (by lia) (R7 _) (by lia) (λa x=>by lia) (λa x y=>by lia) λm n lo d=>?_;refine Ap o l f (i+1) _ (g.perm (bubble_perm _ _ _)) (by lia) (λa b e r=>?_) k;have q:i<p.size:=by rw[g.size];lia
  rw[Ao q n,Ao q n]
  repeat' split
  all_goals first|lia|(exact d _ (by lia) (by lia))|(exact lo _ (by lia))|(exact j _ _ (by lia) (by lia))
def Dk(o:Lt N lt)(g:Dj N lt cmp s)(h:2<=N)(k:∀p,Pm N p->So lt p N->Q p s):(kas_sort N).kasWp cmp Q s:=by
 unfold kas_sort;rw[VQ];have i:Pm N (List.toArray (List.range N)):=by unfold Pm;simp
 refine An o g i h λm f a b c d=>?_;show KasT.kasWp cmp (if m<N then kas_bin (N-max m 1) f (max m 1)else .ret f) Q s;by_cases e:m<N
 .rw[Sg e];have:max m 1=m:=by lia
  rw[this];exact Ap o g (N-m) m f c (by lia) d k
 .rw[Sj e];have:m=N:=by lia
  subst this;exact k f c d
end
end ST
namespace L2
open PySem.Calls ST
noncomputable abbrev iK(a:List Int):List bc:=a.map Sum.inl
section
def lU(h:(aH prog w).is (.inl i) v=true):∃t,v=.int i t:=by
 rcases aY (show fL (.inl i) v=true from h)with⟨j,t,e,rfl⟩|⟨x,t,e,_⟩
 .cases e;exact⟨t,rfl⟩
 .cases e
theorem items_int:∀{a:List Int}{b:List WM},ItemsAre (aH prog w) (iK a) b->∀v∈b,∃i t,v=.int i t
 |[],_,h,v,hv=>by cases h;simp at hv
 |n::a,_,h,v,hv=>by
  cases h with
  |cons h1 c=>
   rcases Sq.mp hv with rfl|hv
   .obtain⟨t,rfl⟩:=lU h1;exact⟨n,t,rfl⟩
   .exact items_int c v hv
def G_(f:(tK prog w).is s.heap (iK ns) b)(h:Q true s):wpAny (model prog w) A (hashByValue 8 (.ref b)) Q E s:=by
 have j:=IsTupleKey.typeIs f;obtain⟨o,a,n,k,_,hd,l⟩:=f;unfold hashByValue;refine KE (UW j UA.lookup ?_);dsimp only;refine KE (V_ k hd ?_);refine KE ?_;show wpAny _ _ (forIn a _ _) _ _ s;rw[<- Vh];refine U5 _ (λrest r c=>r.1=none/\c=s/\∀v∈rest,∃i t,v=Value.int i t) _ ?_ ?_ _ _ ⟨rfl,rfl,items_int l⟩
 .rintro v rest r c ⟨d,rfl,g⟩;obtain⟨i,t,rfl⟩:=g v Sa;refine KE (R5 ?_);simp only[Ua,Sy,TV];exact R5 ⟨rfl,rfl,λu e=>g u (Sf _ e)⟩
 .rintro⟨m,p⟩ c ⟨d,rfl,_⟩;simp only at d;subst d;exact R5 h
def sD(f:(tK prog w).is s.heap (iK ns) b)(h:Q false s):wpAny (model prog w) A (ofAClassStatement 8 (.ref b)) Q E s:=by
 have j:=IsTupleKey.typeIs f;obtain⟨o,a,n,k,_,hd,l⟩:=f;unfold ofAClassStatement;refine KE (Vm j ?_);dsimp only;rw[Sg (by decide)];refine KE (R5 ?_);simp only[Ua,Sy,TV];refine KE (V_ k hd ?_);refine KE ?_;show wpAny _ _ (forIn a _ _) _ _ s;rw[<- Vh];refine U5 _ (λrest r c=>r.1=none/\c=s/\∀v∈rest,∃i t,v=Value.int i t) _ ?_ ?_ _ _ ⟨rfl,rfl,items_int l⟩
 .rintro v rest r c ⟨d,rfl,g⟩;obtain⟨i,t,rfl⟩:=g v Sa;refine KE (R5 ?_);simp only[Sy,TV];exact R5 ⟨rfl,rfl,λu e=>g u (Sf _ e)⟩
 .rintro⟨m,p⟩ c ⟨d,rfl,_⟩;simp only at d;subst d;exact R5 h
def Hc(g:(tK prog w).is s.heap (iK ns) b)(k:∀y∈ys,∃n c,y=.ref c/\(tK prog w).is s.heap (iK n) c)(h:Q false s):wpAny (model prog w) A (searchCouldBeSeen (.ref b) ys) Q E s:=by
 unfold searchCouldBeSeen;refine KE ?_;refine U5 _ (λrest r d=>r.1=none/\d=s/\∀y∈rest,∃n c,y=.ref c/\(tK prog w).is s.heap (iK n) c) _ ?_ ?_ _ _ ⟨rfl,rfl,k⟩
 .rintro v rest r d ⟨e,rfl,i⟩;obtain⟨n,c,rfl,j⟩:=i v Sa;have a:∀u∈rest,∃n c,u=Value.ref c/\(tK prog w).is d.heap (iK n) c:=λu f=>i u (Sf _ f);dsimp only;split
  .exact R5 ⟨rfl,rfl,a⟩
  .refine KE ((tK prog w).quiet g ?_);simp only[Ua,Sy,TV];refine KE ((tK prog w).quiet j ?_);simp only[Ua,Sy,TV];refine KE (sD g ?_);simp only[Sy,TV];refine KE (sD j ?_);simp only[Sy,TV];exact R5 ⟨rfl,rfl,a⟩
 .rintro⟨l,m⟩ d ⟨e,rfl,_⟩;simp only at e;subst e;exact R5 h
end
section
def Px(a:WL)(w:World)(h:Heap)(d:Array (Int×WM)):Prop:=∀e∈d.toList,∃b c,e=((tK a w).hash (iK b),Value.ref c)/\(tK a w).is h (iK b) c
def Dm(h:ui m):(m%2==0)=false:=by rcases h with rfl|rfl|rfl|rfl<;>rfl
theorem oh.fits(T:oh t es)(a:t.place.size<=t.mask):t.fits es.size=true:=by unfold SetTable.fits SetTable.fill;rw[T.tb.JO];simp[T.len]at a ⊢;exact a
def jv{a:Type}{b:Array a}{i:Nat}{e:a}(h:b[i]?=some e):e∈b.toList:=SC.mpr ⟨i,by rwa[SW]⟩
theorem pB{ep:Nat}{t:SetTable}{ns:List Int}{Q:SetFound->WJ->Prop}(M:s.heap.get? a=some o)(hd:o.data=.set es ep t)(T:oh t es)(hs:t.place.size<=t.mask)
 (Y:A.units<cLine) (O:(tK prog w).is s.heap (iK ns) b) (el:Px prog w s.heap es)
 (h1:(∃e∈es.toList,∃c,e.2=.ref c/\(tK prog w).is s.heap (iK ns) c)->Q (.there none) s)
 (h2:(∀e∈es.toList,∀c,e.2=.ref c->¬(tK prog w).is s.heap (iK ns) c)->∀j,j∉t.place.toList->j<=t.mask->Rea t.mask (·∈ t.place.toList) ((tK prog w).hash (iK ns)) j->Q (.free j false) s) :
 ∀(fuel n:Nat)(d:Option SetTable.Probe),d.getD (t.probeStart ((tK prog w).hash (iK ns)))=it t.mask n (st t.mask ((tK prog w).hash (iK ns)))->
  (∀k,k<n->∃i e,∃f:i<t.place.size,t.place[i]=(it t.mask k (st t.mask ((tK prog w).hash (iK ns)))).j/\es[i]?=some e/\∀c,e.2=.ref c->¬(tK prog w).is s.heap (iK ns) c)->
  (∃N,n<=N/\N<n+fuel/\(it t.mask N (st t.mask ((tK prog w).hash (iK ns)))).j∉t.place.toList)->
  wpAny (model prog w) A (setSearchFrom a (.ref b) ((tK prog w).hash (iK ns)) true fuel d) Q E s
 |0,n,d,_,_,⟨N,x1,x2,_⟩=>by lia
 |fuel+1,n,d,e1,e2,⟨N,x1,x2,x3⟩=>by
  have v0:Va t.mask (it t.mask n (st t.mask ((tK prog w).hash (iK ns)))):=(Va.st _ _).it;have sp:=mT T.tb hs (λi=>(es[i]?.map (·.1)).getD 0) ((tK prog w).hash (iK ns)) v0;have at_:∀i,i<t.place.size->∃e,es[i]?=some e:=λi f=>⟨es[i]'(by rwa[<- T.len]),by simp[T.len▸f]⟩;unfold setSearchFrom;refine KE (T9 M hd (oh.fits T hs) ?_);dsimp only;have hg:t.gaveWay=false:=Dm T.tb.Gv;rw[hg];simp only[Sy,TV];rw[e1];have pre:∀{nn:Nat},(∀k,k<nn->∃i,∃f:i<t.place.size,t.place[i]=(it t.mask k (it t.mask n (st t.mask ((tK prog w).hash (iK ns))))).j/\(es[i]?.map (·.1)).getD 0≠(tK prog w).hash (iK ns))->
   ∀k,k<n+nn->∃i e,∃f:i<t.place.size,t.place[i]=(it t.mask k (st t.mask ((tK prog w).hash (iK ns)))).j/\es[i]?=some e/\∀c,e.2=.ref c->¬(tK prog w).is s.heap (iK ns) c:=by
   intro nn hb k z;by_cases B:k<n
   .exact e2 k B
   .obtain⟨i,f,q1,q2⟩:=hb (k-n) (by lia);obtain⟨e,l⟩:=at_ i f;refine⟨i,e,f,?_,l,λc K g=>q2 ?_⟩
    .rw[q1,<- ft,show n+(k-n)=k by lia]
    .obtain⟨ms,v,rfl,h⟩:=el e (jv l);have p:v=c:=by injection K
     subst p;rw[l];show(tK prog w).hash (iK ms)=_;rw[(tK prog w).inj h g]
  generalize I:t.probe _ _ (it t.mask n (st t.mask ((tK prog w).hash (iK ns))))=pr;have J:t.probe (λi=>(es[i]?.map (·.1)).getD 0) ((tK prog w).hash (iK ns)) (it t.mask n (st t.mask ((tK prog w).hash (iK ns))))=pr:=I;rw[J]at sp;clear J I;cases sp with
  |em nn C hb=>
   dsimp only;refine R5 (h2 ?_ _ C (v0.it).Qd ?_)
   .intro e l c K g;obtain⟨i,f⟩:=SC.mp l;rw[SW]at f;have D:i<t.place.size:=by rw[T.len];exact(Ut.mp f).1
    obtain⟨ms,v,rfl,h⟩:=el e l;have p:v=c:=by injection K
    subst p;have ek:=(tK prog w).inj h g;have hz:(t.place[i],((tK prog w).hash (iK ms),Value.ref v))∈t.place.toList.zip es.toList:=SC.mpr ⟨i,by rw[Vy];exact⟨by simp[D],by rwa[SW]⟩⟩;obtain⟨m,em,Z⟩:=T.JN _ hz;have em:(it t.mask m (st t.mask ((tK prog w).hash (iK ms)))).j=t.place[i]:=em;rw[ek]at em Z;have hm:m<n+nn:=by
     rcases V3 m (n+nn)with q|q|q
     .exact q
     .exfalso;refine C ?_;show(it t.mask nn (it t.mask n _)).j∈t.place.toList;rw[<- ft,<- q,em];simp
     .exfalso;refine C ?_;show(it t.mask nn (it t.mask n _)).j∈t.place.toList;rw[<- ft];exact Z _ q
    obtain⟨r,L,F,q1,q2,q3⟩:=pre hb m hm;have P:r=i:=by
     have:t.place[r]=t.place[i]:=q1.trans em;rcases V3 r i with q|q|q
     .have:=SM.mp T.tb.ud r i (by simpa using F) (by simpa using D) q;simp at this;lia
     .exact q
     .have:=SM.mp T.tb.ud i r (by simpa using D) (by simpa using F) q;simp at this;lia
    subst P;rw[f]at q2;cases q2;exact q3 v rfl g
   .refine⟨n+nn,by rw[ft],λk z=>?_⟩;obtain⟨i,e,f,q1,_⟩:=pre hb k z;show _∈t.place.toList;rw[<- q1];simp
  |ca nn i f G hq hb=>
   dsimp only;obtain⟨e,l⟩:=at_ i f;obtain⟨ms,c,rfl,g⟩:=el e (jv l);have rest:wpAny (model prog w) A (do
    let some (_,y):=es[i]?|unsupported "internal:set-entry"
    let u <- holding [y] (eqBool y (.ref b))
    let (R,_,t') <- setState a
    if true&&u then return SetFound.there none
    let some same:=t'.sameMemory t.moves t.mask|unsupported "set.changed-during-lookup:is-the-new-block-at-the-old-address"
    let H <- match(if same then t'.slot (it t.mask nn (it t.mask n (st t.mask ((tK prog w).hash (iK ns))))).j else .empty)with
     |.live r=>match R[r]? with
      |some (_,y')=>do pure (if <- isSame y' y then some r else none)
      |none=>pure none
     |_=>pure none
    match H with
    |none=>rule "set.search.anew";setSearchFrom a (.ref b) ((tK prog w).hash (iK ns)) true fuel none
    |some r=>if u then return .there (some r)else setSearchFrom a (.ref b) ((tK prog w).hash (iK ns)) true fuel (some (it t.mask (nn+1) (it t.mask n (st t.mask ((tK prog w).hash (iK ns))))))) Q E s:=by
    rw[l];dsimp only;refine KE (TH ((tK prog w).eqBool Y g O ?_));refine KE (T9 M hd (oh.fits T hs) ?_);dsimp only;by_cases x:iK ms=iK ns
    .rw[Sz x];simp only[Bool.and_self,Vu];exact R5 (h1 ⟨_,jv l,c,rfl,by rwa[<- x]⟩)
    .rw[Tw x];simp only[Vw,Sy,TV];have S:t.sameMemory t.moves t.mask=some true:=by unfold SetTable.sameMemory;simp
     rw[S];dsimp only;rw[Sg rfl,<- G,pz T.tb f];dsimp only;rw[l];dsimp only;refine KE (wpAny_isSame_ref_self ?_);refine KE (R5 ?_);rw[Sg rfl]
     try dsimp only
     refine pB M hd T hs Y O el h1 h2 fuel (n+(nn+1)) _ ?_ ?_ ⟨N,?_,?_,x3⟩
     .exact(ft t.mask n (nn+1) _).symm
     .intro k z;by_cases B:k<n+nn
      .exact pre hb k B
      .have:k=n+nn:=by lia
       subst this;refine⟨i,_,f,by rw[G,ft],l,λv p hh=>x ?_⟩;have:c=v:=by injection p
       subst this;exact(tK prog w).inj g hh
     .refine S3 λK=>?_;have hN:N<n+(nn+1):=by lia
      by_cases U:N<n+nn
      .obtain⟨r,L,F,q1,_⟩:=pre hb N U;exact x3 (by rw[<- q1];simp)
      .have:N=n+nn:=by lia
       subst this;exact x3 (by rw[ft,<- G];simp)
     .lia
   split
   .refine KE (Hc O ?_ ?_)
    .intro y hy;obtain⟨L,V,rfl⟩:=Se.mp hy;have W:L∈es.toList:=by have:=(Array.mem_toList_iff).mp V;rw[Array.mem_filter]at this;exact Array.mem_toList_iff.mpr this.1
     obtain⟨X,v,rfl,h⟩:=el L W;exact⟨X,v,rfl,h⟩
    .simp only[Sy,TV];exact rest
   .exact rest
end
noncomputable def byT(w:World):Bool:=w.params.followText "set-order"
def SetAt(w:World)(h:Heap)(a:Addr)(b:Array (Int×WM)):Prop:=∃o c t,h.get? a=some o/\o.ExactSet/\o.data=.set b c t/\oh t b/\jp t/\t.plain=true/\t.led=!byT w
def SetAt.keep(x:SetAt w h a es)(k:∀o,h.get? a=some o->h'.get? a=some o):SetAt w h' a es:=let ⟨o,b,t,e,r⟩:=x;⟨o,b,t,k o e,r⟩
def gh(h:jp t):t.place.size<=t.mask:=by unfold jp at h;lia
section
structure lB(b a:Array (Int×WM)) (x:Int×WM):Prop where
 mem:∀y,y∈a.toList↔y=x\/y∈b.toList
 pw:∀R:Int×WM->Int×WM->Prop,(∀x y,R x y->R y x)->b.toList.Pairwise R->(∀e∈b.toList,R e x)->a.toList.Pairwise R
 size:a.size=b.size+1
def pC(d:Array (Int×WM))(p:Nat)(x:Int×WM)(a:p<=d.size):lB d (SetTable.insertAt d p x) x:=by
 have e:=ST.insertAt_toList d p x a;refine⟨λy=>?_,λR b f c=>?_,ST.insertAt_size d p x a⟩
 .rw[e,Sk,Sq];constructor
  .grind
  .rintro (rfl|z)
   .exact .inr (.inl rfl)
   .rw[<- T2 p d.toList,Sk]at z;exact z.elim .inl λz=>.inr (.inr z)
 .rw[e,Wi];rw[<- T2 p d.toList,Wi]at f;obtain⟨g,h,i⟩:=f;refine⟨g,?_,?_⟩
  .rw[VO]
   grind
  .grind
def lB.laid(g:lB es es1 x)(l:Laid m es1 es2 t):lB es es2 x:=⟨λy=>(l.mem y).trans (g.mem y),λR a c b=>l.pw R a (g.pw R a c b),by rw[l.size,g.size]⟩
def i8{f:Nat}{t:SetTable}(b:Array (Int×WM))(e:SetTable){h:Heap}(d:h.get? a=some o)(hex:o.ExactSet)(hd:o.data=.set es f t) :
 ∃c,(h.update a (Obj.putSet b e)).get? a=some c/\c.ExactSet/\c.data=.set b (f+1) e:=by
 have:=Uc (Obj.putSet b e) d (by rw[putSet_of b e hd];rfl);rw[putSet_of b e hd]at this;exact⟨_,this,hex,rfl⟩
def mW{t:SetTable}(h:ui t.mask)(h1:n*5<t.mask*3)(a:(n+1)*5>=t.mask*3)(b:n+1<=300):∃m,SetTable.sizeAbove (SetTable.grown (n+1))=m+1/\ui m/\(n+1)*5<m*3:=by
 rcases h with e|e|e|e<;>rw[e]at h1 a
 .have:n=4:=by lia
  subst this;exact⟨31,by decide,.inr (.inl rfl),by lia⟩
 .have:n=18:=by lia
  subst this;exact⟨127,by decide,.inr (.inr (.inl rfl)),by lia⟩
 .have:n=76:=by lia
  subst this;exact⟨511,by decide,.inr (.inr (.inr rfl)),by lia⟩
 .lia
def Aq{a:Addr}{o:Obj}{x:Array (Int×WM)}{Q:Unit->WJ->Prop}(d:s.heap.get? a=some o)(hex:o.ExactSet)(hd:o.data=.set x ep t)(k:t.fits x.size=true)(z:ui m)(j:SetTable.sizeAbove n=m+1)(l:x.size*5<m*3)(f:t.plain=true)(g:t.led=!byT w)
 (h:∀c y,Laid m x c y->SetAt w (s.heap.update a (Obj.putSet c y)) a c->Q () {s with heap:=s.heap.update a (Obj.putSet c y)}):wpAny (model prog w) A (setRelay a n) Q E s:=by
 have p:m<=511:=by rcases z with rfl|rfl|rfl|rfl<;>lia
 unfold setRelay;refine KE (T9 d hd k ?_);dsimp only;rw[Sj (by rw[j,SQ];lia)];obtain⟨y,b,e,L,i,q⟩:=Di z x (by lia) t.finger (t.movedTo m) t.led t.plain;have B:t.relaid (x.map (·.1)) n=some (y,b):=by unfold SetTable.relaid;rwa[j]
 rw[B];show wpAny _ _ (do
  let r <- (do
   if(b.filterMap (x[·]?)).size != x.size then unsupported "internal:set-table-lost-an-element"
   pure (b.filterMap (x[·]?),y):Sem (Array (Int×WM)×SetTable))
  storeSet a r.1 r.2) _ _ _
 refine KE ?_;rw[Sj (by rw[L.size];simp)];refine R5 ?_;refine V4 d hd ?_ (by show(b.filterMap (x[·]?)).size<=_;rw[L.size,SQ];lia);obtain⟨u,g1,g2,v⟩:=i8 (b.filterMap (x[·]?)) y d hex hd;refine h _ y L ⟨u,_,y,g1,g2,v,L.rG,?_,by rwa[q],by rwa[i]⟩;unfold jp;rwa[L.rG.len,L.size,L.mask]
end
section
def Ar(T:oh t es)(c:t.place.size<=t.mask)(h:Int):∃N,N<100000/\(it t.mask N (st t.mask h)).j∉t.place.toList:=by
 obtain⟨j,a,b⟩:=mS T.tb c;obtain⟨N,h1,d⟩:=FT T.tb.Gv a (Va.st t.mask h);refine⟨N,?_,by rwa[d]⟩;have:t.mask<=511:=by rcases T.tb.Gv with e|e|e|e<;>rw[e]<;>lia
 unfold SetTable.turns at h1;lia
def Hd(G:A.units<cLine)(q:(tK prog w).is s.heap (iK ns) b)(K:SetAt w s.heap a es)(el:Px prog w s.heap es)(hz:es.size+1<=300)
 (h1:∀V,s.toks<=V->(∃e∈es.toList,∃c,e.2=.ref c/\(tK prog w).is s.heap (iK ns) c)->Q false {s with toks:=V})
 (Y:∀V X h,s.toks<=V->(∀e∈es.toList,∀c,e.2=.ref c->¬(tK prog w).is s.heap (iK ns) c)->Heap.SameBut a s.heap X->SetAt w X a h->lB es h ((tK prog w).hash (iK ns),.ref b)->Q true {s with heap:=X,toks:=V}) :
 wpAny (model prog w) A (setAdd a (.ref b)) Q E s:=by
 obtain⟨o,ep,t,p,hex,hd,T,W,r,u⟩:=K;have H:=oh.fits T (gh W);unfold setAdd;refine TH ?_;refine KE ((tK prog w).pyHash G q ?_);have i:s.toks<=s.toks+(tK prog w).draws (iK ns):=Wd _ _;generalize s.toks+(tK prog w).draws (iK ns)=V at i;unfold setAddHashed setAddHashedIn;refine TH ?_;refine KE (T9 (s:={s with toks:=V}) p hd H ?_);dsimp only;have x:byScan (.ref b) es=false:=by simp[byScan,Value.scannable]
 rw[x];simp only[Sy,TV];unfold setSearch;obtain⟨N,n1,n2⟩:=Ar T (gh W) ((tK prog w).hash (iK ns));refine KE (pB (s:={s with toks:=V}) p hd T (gh W) G q el (λy=>?_) (λl j M z O=>?_) 100000 0 none rfl (λk P=>by lia) ⟨N,Sw _,by lia,n2⟩)
 .exact R5 (h1 V i y)
 .dsimp only;refine KE (T9 (s:={s with toks:=V}) p hd H ?_);dsimp only;obtain⟨B,em,C⟩:=uP T M z (v:=Value.ref b) O;have f:(t.put j).1.plain=true:=by rwa[jX T.tb]
  have n:(t.put j).1.led=!byT w:=by rwa[jX T.tb]
  rw[f];simp only[Vu];refine KE (G_ (s:={s with toks:=V}) q ?_);simp only[Vu];have R:(t.put j).2<=es.size:=by rw[lT,<- T.len];exact(c_ j T.tb.ud).1
  have g:=pC es (t.put j).2 ((tK prog w).hash (iK ns),Value.ref b) R;refine KE (V4 (s:={s with toks:=V}) p hd ?_ (by rw[g.size,SQ];lia));obtain⟨o1,Z,q2,I⟩:=i8 (SetTable.insertAt es (t.put j).2 ((tK prog w).hash (iK ns),Value.ref b)) (t.put j).1 p hex hd;have J:=Tl s.heap a (Obj.putSet (SetTable.insertAt es (t.put j).2 ((tK prog w).hash (iK ns),Value.ref b)) (t.put j).1);have fill:(t.put j).1.fill=es.size+1:=by unfold SetTable.fill;rw[B.tb.JO,C,T.len];rfl
  by_cases d:(t.put j).1.tooFull=true
  .rw[d];simp only[Bool.not_false,Bool.and_self,Vu];unfold SetTable.tooFull at d;rw[fill,em]at d;have d:(es.size+1)*5>=t.mask*3:=by simpa using d
   have D:es.size*5<t.mask*3:=by rwa[<- T.len]
   obtain⟨m,S,m2,U⟩:=mW T.tb.Gv D d hz;have F:(t.put j).1.place.size<=(t.put j).1.mask:=by
    rw[C,em];unfold jp at W;have:t.mask>=7:=by rcases T.tb.Gv with e|e|e|e<;>rw[e]<;>lia
    lia
   refine KE (Aq (s:={s with heap:=s.heap.update a (Obj.putSet (SetTable.insertAt es (t.put j).2 ((tK prog w).hash (iK ns),Value.ref b)) (t.put j).1),toks:=V}) Z q2 I (oh.fits B F) m2 S (by rwa[g.size]) f n λh t' L sa=>?_);exact R5 (Y V _ h i l (J.trans (Tl _ a _)) sa (g.laid L))
  .have d:(t.put j).1.tooFull=false:=by simpa using d
   rw[d];simp only[Vw,Sy,TV];refine R5 (Y V _ _ i l J ⟨o1,_,_,Z,q2,I,B,?_,f,n⟩ g);unfold SetTable.tooFull at d;unfold jp;rw[fill]at d;rw[C,T.len];simpa using d
end
noncomputable abbrev jY:=List Int×Addr
def Au(h:iK a=iK b):a=b:=by
 induction a generalizing b with
 |nil=>cases b with
  |nil=>rfl
  |cons _ _=>cases h
 |cons x a c=>cases b with
  |nil=>cases h
  |cons y b=>grind
section
variable{s r:Type}{x:s×r}
structure d_(a:s×r->Int×WM) (c:Array (Int×WM)) (b:List (s×r)):Prop where
 el:∀e∈c.toList,∃x∈b,e=a x
 sz:c.size<=b.length
 pw:c.toList.Pairwise λe f=>∀x d,e=a x->f=a d->x∈b->d∈b->x.1≠d.1
 all:∀x∈b,∃y∈b,y.1=x.1/\a y∈c.toList
def CD(a:s×r->Int×WM)(b:List (s×r)):Prop:=∀x∈b,∀y∈b,a x=a y->x.1=y.1
def d_.wide(v:d_ ent es xs)(k:CD ent (xs++[x])):es.toList.Pairwise λe h=>∀y c,e=ent y->h=ent c->y∈xs++[x]->c∈xs++[x]->y.1≠c.1:=by refine Uq (λ{a b} l m f z i n o j p=>?_) v.pw;obtain⟨y,g,rfl⟩:=v.el a l;obtain⟨c,d,rfl⟩:=v.el b m;rw[k z j y (SH _ g) n.symm,k i p c (SH _ d) o.symm];exact f y c rfl rfl g d
def d_.seen(v:d_ ent es f)(a:∃y∈f,y.1=x.1)(h:CD ent (f++[x])):d_ ent es (f++[x]):=by
 refine⟨λe b=>?_,?_,v.wide h,λy hy=>?_⟩
 .obtain⟨z,h1,g⟩:=v.el e b;exact⟨z,SH _ h1,g⟩
 .have:=v.sz;simp;lia
 .obtain⟨c,h1,g⟩ : ∃z∈f,z.1=y.1:=by
   rcases Sk.mp hy with hy|hy
   .exact⟨y,hy,rfl⟩
   .rw[Sb]at hy;subst hy;exact a
  obtain⟨z,g1,g2,d⟩:=v.all c h1;exact⟨z,SH _ g1,g2.trans g,d⟩
def d_.new(v:d_ ent es xs)(c:¬∃y∈xs,y.1=x.1)(l:CD ent (xs++[x]))(g:lB es es' (ent x)):d_ ent es' (xs++[x]):=by
 have d:x∈xs++[x]:=SK _ (Sb.mpr rfl);refine⟨λe he=>?_,?_,?_,λy hy=>?_⟩
 .rcases (g.mem e).mp he with rfl|he
  .exact⟨x,d,rfl⟩
  .obtain⟨z,h1,m⟩:=v.el e he;exact⟨z,SH _ h1,m⟩
 .have:=v.sz;rw[g.size];simp;lia
 .refine g.pw _ (λa b f z i n o j p h=>f i z o n p j h.symm) (v.wide l) λe he z i n o j p h=>?_;obtain⟨y,k,rfl⟩:=v.el e he;exact c ⟨y,k,(l z j y (SH _ k) n.symm).symm.trans (h.trans (l i p x d o.symm))⟩
 .rcases Sk.mp hy with hy|hy
  .obtain⟨z,h1,m,q⟩:=v.all y hy;exact⟨z,SH _ h1,m,(g.mem _).mpr (.inr q)⟩
  .rw[Sb]at hy;subst hy;exact⟨y,d,rfl,(g.mem _).mpr (.inl rfl)⟩
end
section
variable{κ μ:Type}
def wb(d:WL)(w:World)(A:WN)(j:Heap)(S:Addr)(c:κ×μ->Int×WM)(e:List (κ×μ)):Prop:=∀(x:κ×μ)(g:List (κ×μ))(s:WJ)(h:Array (Int×WM))(Q:Bool->WJ->Prop)(E:WM->WJ->Prop),x∈e->(∀y∈g,y∈e)->(∀b o,j.get? b=some o->s.heap.get? b=some o)->SetAt w s.heap S h->d_ c h g->h.size+1<=300->
 (∀f,s.toks<=f->(∃y∈g,y.1=x.1)->Q false {s with toks:=f})->(∀f i a,s.toks<=f->(¬∃y∈g,y.1=x.1)->Heap.SameBut S s.heap i->SetAt w i S a->lB h a (c x)->Q true {s with heap:=i,toks:=f})->wpAny (model d w) A (setAdd S (c x).2) Q E s
variable{St:Nat->WJ->Prop}
def kG(W:WalksS prog w A.in1 I fp wr G n P St)(S:Addr)(F:S∉fp)(hb:Heap)(Q:hb.get? S=none)(T:∀b∈wr,hb.get? b=none)(its:List (κ×μ))(hn:its.length=n)
 (H:∀i v,P i v->∃x,its[i]?=some x/\v=(ent x).2) (un:CD ent its) (add:wb prog w A.in1 hb S ent its) (hz:n<=300) :
 ∀(k i:Nat)(s:WJ)(es:Array (Int×WM)),n-i=k->i<=n->St i s->(∀b o,hb.get? b=some o->s.heap.get? b=some o)->SetAt w s.heap S es->d_ ent es (its.take i)->
  (∀c m,Moved (S::wr) G s c->SetAt w c.heap S m->d_ ent m its->R (.ok (.ret .none)) c)->
  codeAny (model prog w) A (.builtin "set.update.loop" ⟨[.ref S,.ref I],[]⟩) R s:=by
 have J:S∉wr:=λh=>F (W.sub _ h);have d:∀b∈wr,b∈S::wr:=λb hb=>Sf _ hb;intro k;induction k with
 |zero=>
  intro i s es hk hi q K U v O;have r:i=n:=by lia
  subst r;refine UH Vz ?_;rw[US Uk _];show wpAny _ A.in1 (pyNext (.ref I) >>= _) _ _ s;refine KE (W.done s _ _ q λc hm=>?_);rw[TJ (by lia)]at v;have V:=O c es (hm.mono d) (U.keep λo e=>hm.heap S o J e) v;show wpAny _ A.in1 (ret Value.none) _ _ c;exact R5 V
 |succ k ih=>
  intro i s es hk hi q K U v O;have t:i<n:=by lia
  refine UH Vz ?_;rw[US Uk _];show wpAny _ A.in1 (pyNext (.ref I) >>= _) _ _ s;refine KE (W.item i s _ _ t q λu c hP p hm=>?_);obtain⟨x,hx,rfl⟩:=H i u hP;have B:its.take (i+1)=its.take i++[x]:=by rw[Sv,hx];rfl
  have L:CD ent (its.take i++[x]):=by rw[<- B];exact λy X z hz=>un y (Uh X) z (Uh hz)
  have Y:∀b o,hb.get? b=some o->c.heap.get? b=some o:=λb o e=>hm.heap b o (λz=>by rw[T b z]at e;cases e) (K b o e);have M:=U.keep λo e=>hm.heap S o J e;have Z:es.size+1<=300:=by have:=v.sz;rw[TC]at this;lia
  show wpAny _ A.in1 (holding [(ent x).2] (setAdd S (ent x).2) >>= _) _ _ c;refine KE (TH (add x (its.take i) c es _ _ (SB hx) (λy X=>Uh X) Y M v Z (λtk a r=>?_) λtk h' m a N C hSn g=>?_))
  .refine R5 ⟨VN Uk _,ih (i+1) _ es (by lia) t (W.frame _ c _ _ p a λb hb o e=>e) Y M (by rw[B];exact v.seen r L) λD f j l E=>?_⟩;exact O D f (Moved.trans W.gtrans ((hm.mono d).then_heap a λb o hb e=>e) j) l E
  .have K2:∀b o,hb.get? b=some o->h'.get? b=some o:=λb o e=>(C.2 b (λz=>by rw[z,Q]at e;cases e)).trans (Y b o e);refine R5 ⟨VN Uk _,ih (i+1) _ m (by lia) t (W.frame _ c _ _ p a λb hb o e=>?_) K2 hSn (by rw[B];exact v.new N L g) λD f j l E=>?_⟩
   .rwa[C.2 b (λh:b=S=>F (h▸hb))]
   .refine O D f (Moved.trans W.gtrans ((hm.mono d).then_heap a λb o hb e=>?_) j) l E;rwa[C.2 b (λh:b=S=>hb (h▸Sa))]
abbrev eT(a:WL)(w:World)(x:jY):Int×WM:=((tK a w).hash (iK x.1),Value.ref x.2)
def He(a:∀x∈its,(tK prog w).is hb (iK x.1) x.2):CD (eT prog w) its:=λx b y c e=>Au ((tK prog w).inj (a x b) (by
 have e:x.2=y.2:=by injection e with _ e;injection e
 rw[e];exact a y c))
def Dn(m:A.units<cLine)(d:∀x∈its,(tK prog w).is hb (iK x.1) x.2):wb prog w A hb S (eT prog w) its:=λx F s M Q E n G K o v H h1 I=>by
 have a:∀y∈F,(tK prog w).is s.heap (iK y.1) y.2:=λy i=>jV (d y (G y i)) K;refine Hd m (jV (d x n) K) o (λe j=>?_) H (λD t b=>h1 D t ?_) λD J k t f p L g=>I D J k t (λb=>?_) p L g
 .obtain⟨y,i,rfl⟩:=v.el e j;exact⟨_,_,rfl,a y i⟩
 .obtain⟨e,j,c,l,q⟩:=b;obtain⟨y,h,rfl⟩:=v.el e j;injection l with l;subst l;exact⟨y,h,Au ((tK prog w).inj (a y h) q)⟩
 .obtain⟨y,h,r⟩:=b;obtain⟨z,u,B,C⟩:=v.all y h;exact f _ C z.2 rfl (by rw[<- r,<- B];exact a z u)
end
noncomputable abbrev setNew(led:Bool):Obj:={ cls:=.type "set",dict:=none,data:=.set #[] 0 (.fresh 0 0 led) }
def xI(e:h.get? a=some (setNew (!byT w))):SetAt w h a #[]:=by refine⟨_,0,_,e,⟨rfl,rfl,rfl⟩,rfl,⟨⟨.inl rfl,rfl,List.Pairwise.nil,λj b=>nomatch b⟩,rfl,λq c=>nomatch c⟩,?_,rfl,rfl⟩;show 0*5<7*3;decide
section
def oI(a:WM)(h:Q₁ (.ref s.z) {s with heap:=s.heap.push (setNew (!byT w))}) :
 codeAny (model prog w) A (.call (.builtin "set.__new__") ⟨[.type "set",a],[]⟩) (wants Q₁ E) s:=by
 refine codeAny_of_tree (show wpAny _ A.in1 (do checkBuiltinCall "set.__new__" ⟨[.type "set",a],[]⟩;again (.builtin "set.__new__" ⟨[.type "set",a],[]⟩)) _ _ s from ?_);refine KE (wpAny_of_eq (PySem.F.newCall_set_1 a) (R5 ⟨VN PySem.F.plain_set_new _,UH PySem.F.entry_set_new ?_⟩));rw[US PySem.F.plain_set_new _];unfold Builtin.«set.__new__» Builtin.Frozenset.newClass;have b:=sub_set_self;obtain⟨c,g,d,e,os⟩:=s;dsimp only;wp_walk;refine wpAny_askSetting (R5 ?_);dsimp only;simp only[newObj];refine KE (wpAny_alloc (R5 ?_));exact R5 h
def pD{κ J:Type}{ent:κ×J->Int×WM}{l:Addr}{a:Array WM}{nl:Nat}{its:List (κ×J)} {Q:WM->WJ->Prop} (S:A.handled=none) (K:s.heap.get? l=some { cls:=.type "list",data:=.seq a nl }) (T:its.length=a.size) (hz:a.size<=300)
 (k:∀(i:Nat)(v:WM),a[i]?=some v->∃x,its[i]?=some x/\v=(ent x).2) (un:CD ent its) (add:wb prog w A.in1.in1.in1 s.heap s.heap.objs.size ent its)
 (h:∀(h':Heap)(tk:Nat)(es:Array (Int×WM)),SetAt w h' s.heap.objs.size es->d_ ent es its->(∀b o,b<s.heap.objs.size->s.heap.get? b=some o->h'.get? b=some o)->Q (.ref s.heap.objs.size) {s with heap:=h',toks:=tk}) :
 wpAny (model prog w) A (call (.type "set") [.ref l]) Q E s:=by
 obtain⟨c,tl,L⟩:=PySem.F.called_set.mro;have z:=PySem.F.called_set.made;have M:=PySem.F.called_set.sub;refine wpAny_call (codeAny_of_tree ?_);show wpAny _ _ (callAny (.type "set") _) _ _ _;refine R5 ⟨Code.quiet_builtin _ (by decide +kernel),UH PySem.F.entry_type_call ?_⟩;rw[Around.under_plain (weight_type_call_type "set" [.ref l] []) rfl];have h1:=PySem.F.called_set.notType;have h2:=PySem.F.called_set.canCreate;have U:=PySem.F.typeCall_set_1 (.ref l)
 repeat (any_goals (first|assumption|wp_step))
 refine VI (oI (.ref l) (E:=E) (Q₁:=λobj f=>obj=.ref s.heap.objs.size/\f={s with heap:=s.heap.push (setNew (!byT w))}) ⟨rfl,rfl⟩) λr f B=>?_;rcases r with e|fl
 .exact B
 cases fl with
 |ret obj=>
  obtain⟨rfl,rfl⟩:=B;have N:(s.heap.push (setNew (!byT w))).get? s.heap.objs.size=some (setNew (!byT w)):=Sn _ rfl;have V:Shared.TypeIs {s with heap:=s.heap.push (setNew (!byT w))} (.ref s.heap.objs.size) "set":=⟨_,N,rfl⟩;have W:=PySem.F.called_set.init.lookup;have X:=PySem.F.called_set.init.bind (.ref s.heap.objs.size)
  repeat (any_goals (first|assumption|wp_step))
  refine VI (codeAny_call_builtin (R:=wants (λr g=>r=.none/\∃h' tk es,g={s with heap:=h',toks:=tk}/\SetAt w h' s.heap.objs.size es/\d_ ent es its/\
   (∀b o,b<s.heap.objs.size->s.heap.get? b=some o->h'.get? b=some o)) E) PySem.F.called_set.init.plain PySem.F.entry_set_init (check_set_init_1 V ?_)) λm g d=>?_
  .have n:(s.heap.push (setNew (!byT w))).get? l=some { cls:=.type "list",data:=.seq a nl }:=R8 _ K;have O:=PySem.F.sub_list_set;have P:=PySem.F.sub_list_frozenset;have Y:(Value.type "list"==Value.type "dict")=false:=by decide
   have p:(s.heap.push (setNew (!byT w))).IsList l a:=⟨_,n,rfl,nl,rfl⟩;unfold Builtin.«set.__init__» noKeywords Builtin.Frozenset.updateFrom;generalize C:pyIter=PI
   wp_walk
   subst C;refine Vp p (KE (wpAny_runValue ?_));have t:l<s.heap.objs.size:=Sr K;have D:A.in1.in1.in1.handled=none:=by simp[S]
   have u:l≠(s.heap.push (setNew (!byT w))).objs.size:=by rw[Vb];exact SI (Vs t)
   have y:∀b,s.heap.objs.size<=b->s.heap.get? b=none:=λb hb=>by
    cases q:s.heap.get? b with
    |none=>rfl
    |some o=>exact absurd (Sr q) (Nat.not_lt.mpr hb)
   refine kG ((Walks.list D _ l u a).toS) s.heap.objs.size ?hSf s.heap (y _ (R7 _)) ?hbw its T k un add hz (a.size-0) 0 _ #[] rfl (Sw _) ⟨⟨_,Sn _ rfl,rfl,rfl⟩,(p.push _)⟩
    (λb o e=>R8 _ (R8 _ e)) (xI (R8 _ N)) ⟨λe Z=>(nomatch Z),Sw _,List.Pairwise.nil,λx hx=>(nomatch hx)⟩ ?hR
   case hSf=>rw[Vb];simp only[Sq,Sx,Wo,not_or];exact⟨SI (Uo _),Vk t⟩
   case hbw=>intro b hb;simp only[Sq,Sx,Wo]at hb;subst hb;exact y _ (by rw[Vb];lia)
   case hR=>intro s' es hm j v;obtain⟨h',g',d',G,H⟩:=s';have eg:g'=s.gens:=hm.gens;have ed:d'=s.drawn:=hm.drawn;have eo:H=s.os:=hm.os;subst eg ed eo;refine R5 (R5 ⟨rfl,h',G,es,rfl,j,v,λb o hb e=>hm.heap b o ?_ (R8 _ (R8 _ e))⟩);simp only[Sq,Sx,Wo,not_or];exact⟨SI hb,by rw[Vb];exact SI (Vs hb)⟩
  .rcases m with e|fl₂
   .exact d
   cases fl₂ with
   |ret r=>
    obtain⟨rfl,h',tk,es,rfl,j,v,I⟩:=d
    repeat (any_goals (first|assumption|wp_step))
    exact h _ _ _ j v I
   |_=>exact d.elim
 |_=>exact B.elim
end
theorem mX{b:Type}:∀(l:List b)(i:Nat)(h:i<l.length),(l[i]::l.eraseIdx i).Perm l
 |[],i,h=>by simp at h
 |x::l,0,h=>UC _
 |x::l,i+1,h=>by have a:=mX l i (by simpa using h);have e:(x::l).eraseIdx (i+1)=x::l.eraseIdx i:=rfl;rw[e,List.getElem_cons_succ];exact(List.Perm.swap _ _ _).trans (List.Perm.cons x a)
theorem wc{e:Type}(next:Nat->Nat):∀(a k:Nat)(left:List e)(d:Array e),left.length=a->(pickOrder.go next a k left d).toList.Perm (d.toList++left)
 |0,k,left,d,h=>by have:left=[]:=S6.mp h;subst this;unfold pickOrder.go;simp
 |f+1,k,left,d,h=>by have b:next k%left.length<left.length:=WI _ (by lia);unfold pickOrder.go;rw[R_ b];dsimp only;have c:=wc next f (k+1) (left.eraseIdx (next k%left.length)) (d.push left[next k%left.length]) (by rw[List.length_eraseIdx,Sg b];lia);refine c.trans ?_;rw[Array.toList_push,SV];exact List.Perm.append_left _ (mX left _ b)
def xJ{b:Type}(next:Nat->Nat)(a:Array b):(pickOrder next a).toList.Perm a.toList:=by have:=wc next a.size 0 a.toList #[] (by simp);unfold pickOrder;simpa using this
def iz(w:World)(S:Addr)(b:Nat)(a:Array (Int×WM)):Array (Int×WM):=if byT w then pickOrder (w.params.setOrder S b) a else a
def sF(w:World)(S:Addr)(b:Nat)(a:Array (Int×WM)):(iz w S b a).toList.Perm a.toList:=by
 unfold iz;split
 .exact xJ _ _
 .exact UC _
def jZ(w:World)(S:Addr)(b:Nat)(a:Array (Int×WM)):(iz w S b a).size=a.size:=by have:=(sF w S b a).length_eq;simpa using this
def db(w:World)(t:SetTable):Nat->Nat
 |0=>0
 |i+1=>if byT w then 0 else t.place.getD i 0+1
def uR(T:Tb t):∀(i:Nat),i<=t.place.size->SetTable.below t.place (match i with|0=>0|i+1=>t.place.getD i 0+1)=i
 |0,_=>by
  obtain⟨a,b,c⟩:=c_ 0 T.ud;dsimp only;rcases Nat.eq_zero_or_pos (SetTable.below t.place 0)with h|h
  .exact h
  .have:=b 0 (by lia) h;lia
 |i+1,d=>by
  dsimp only;have e:t.place.getD i 0=t.place[i]:=by simp[Array.getD,show i<t.place.size by lia]
  rw[e];obtain⟨a,b,c⟩:=c_ (t.place[i]+1) T.ud;rcases V3 (SetTable.below t.place (t.place[i]+1)) (i+1)with q|q|q
  .have h1:=c i (by lia) (by lia);lia
  .exact q
  .have h1:=b (i+1) (by lia) q;have f:=SM.mp T.ud i (i+1) (by simp;lia) (by simp;lia) (by lia);simp at f;lia
def slot_setiter_next:Slot "set_iterator" "__next__" "set_iterator.__next__":=.of (owner:="set_iterator") (n:="__next__") (by rw[typeLookup_type,builtinLookup_eq_fast];kernel_rfl) (by decide +kernel) (by decide +kernel) (by decide +kernel) (by first|exact .inl (by decide +kernel)|exact .inr (by decide +kernel)) (by rw[isSubtype_type];kernel_rfl)
def fw:entryFor table "set_iterator.__next__"=some Builtin.«set_iterator.__next__»:=entryFor_of_fast (by kernel_rfl)
def fO(a:WM):argsOk "set_iterator.__next__" ⟨[a],[]⟩:=by(unfold argsOk;kernel_rfl)
def oJ:entryFor table "set.__iter__"=some Builtin.«frozenset.__iter__»:=entryFor_alias (id':="frozenset.__iter__") (by kernel_rfl) rfl (by decide +kernel) (by kernel_rfl)
def SetIt(h:Heap)(it S:Addr)(slot i n a:Nat):Prop:=∃o,h.get? it=some o/\o.cls=.type "set_iterator"/\o.data=.fields #[.int slot 0,.int i 0,.ref S,.int n 0,.int a 0]
def SetIt.typeIs{s:WJ}{it S:Addr}{slot i n c:Nat}(x:SetIt s.heap it S slot i n c):s.TypeIs (.ref it) "set_iterator":=let ⟨o,a,b,_⟩:=x;⟨o,a,b⟩
def kH(h:Heap)(S:Addr)(a:Array (Int×WM))(b:Nat)(t:SetTable):Prop:=∃o,h.get? S=some o/\o.ExactSet/\o.data=.set a b t
section
def uS(h:Q (byT w) s):wpAny (model prog w) A setsByText Q E s:=by unfold setsByText;exact KE (wpAny_askSetting (R5 h))
def mY(r:kH s.heap S es ep t)(T:oh t es)(p:t.place.size<=t.mask)(c:t.plain=true)(a:t.led=!byT w)(j:i<=es.size)
 (h:Q (((iz w S ep es)[i]?).map λe=>(e.2,db w t (i+1))) s):wpAny (model prog w) A (setNext S (db w t i) i ep) Q E s:=by
 obtain⟨o,d,hex,hd⟩:=r;have f:=oh.fits T p;unfold setNext;refine KE (T9 d hd f ?_);dsimp only;refine KE (uS ?_);cases l:byT w with
 |true=>
  simp only[Vu];rw[Sj (by simp)];refine KE ?_;unfold setWalk;refine KE (T9 d hd f ?_);dsimp only;refine KE (uS ?_);rw[l];simp only[Vu];refine KE (wpAny_askSetting (R5 ?_));have m:db w t (i+1)=0:=by unfold db;rw[l];rfl
  have n:db w t i=0:=by cases i with|zero=>rfl|succ i=>(unfold db;rw[l];rfl)
  rw[n];rw[m]at h;unfold iz at h;rw[l]at h;exact R5 h
 |false=>
  simp only[Sy,TV];rw[l]at a;have a:t.led=true:=a;show wpAny _ _ (if(!t.plain&&decide (es.size>1))=true then _ else _) _ _ _;rw[c];simp only[Ua,V9,Sy,TV];show wpAny _ _ ((if(!t.led&&!es.isEmpty)=true then unsupported "set:maker-not-led" else pure ()) >>= λ_=>_) _ _ _;rw[a];simp only[Ua,V9,Sy,TV];refine KE (R5 ?_);have m:SetTable.below t.place (db w t i)=i:=by
   have:=uR T.tb i (by rwa[T.len]);cases i with
   |zero=>exact this
   |succ i=>unfold db;rwa[l]
  have k:iz w S ep es=es:=by unfold iz;rw[l];rfl
  rw[k]at h;rw[m];by_cases b:i<es.size
  .have g1:es[i]?=some es[i]:=by simp[b]
   have g:i<t.place.size:=by rwa[T.len]
   have g2:t.place[i]?=some t.place[i]:=by simp[g]
   rw[g1]at h;rw[g1,g2];have n:db w t (i+1)=t.place[i]+1:=by unfold db;rw[l];simp[Array.getD,g]
   rw[n]at h;exact R5 h
  .have g1:es[i]?=none:=by simp;lia
   rw[g1]at h;rw[g1];exact R5 h
end
def fP:Slot "set_iterator" "__iter__" "set_iterator.__iter__":=.of (owner:="set_iterator") (n:="__iter__") (by rw[typeLookup_type,builtinLookup_eq_fast];kernel_rfl) (by decide +kernel) (by decide +kernel) (by decide +kernel) (by first|exact .inl (by decide +kernel)|exact .inr (by decide +kernel)) (by rw[isSubtype_type];kernel_rfl)
def jw:entryFor table "set_iterator.__iter__"=some Builtin.«dict_keyiterator.__iter__»:=entryFor_alias (id':="dict_keyiterator.__iter__") (by kernel_rfl) rfl (by decide +kernel) (by kernel_rfl)
def j1(a:WM):argsOk "set_iterator.__iter__" ⟨[a],[]⟩:=by(unfold argsOk;kernel_rfl)
section
def pE{it S:Addr}{slot i n j:Nat}{P:PySem.Fin->WJ->Prop}{F:WM->WJ->Prop}(d:s.heap.get? it=some o)(hd:o.data=.fields #[.int slot 0,.int i 0,.ref S,.int n 0,.int j 0])
 (r:kH s.heap S es j t) (f:t.fits es.size=true) (g:n=es.size)
 (h:wpAny (model prog w) A (setNext S slot i j) (λm a=>match m with
   |some (x,next)=>wpAny (model prog w) A (do setField (.ref it) 0 (rawInt next);setField (.ref it) 1 (rawInt (i+1));ret x) P F a
   |none=>wpAny (model prog w) A (do setField (.ref it) 2 .none;raiseNew (<- newExc (.type "StopIteration") [])) P F a) F s) :
 wpAny (model prog w) A (Builtin.«set_iterator.__next__» ⟨[.ref it],[]⟩) P F s:=by
 obtain⟨os,b,hex,c⟩:=r;unfold Builtin.«set_iterator.__next__» slotArgs;simp only[List.isEmpty_nil,Ua,Sy,TV,UX,V5];refine KE (R5 ?_);refine KE (Wv d hd ?_);dsimp only;refine KE ?_;unfold setEntries;refine KE (T9 b c f (R5 ?_));dsimp only;rw[Sj (by rw[g];simp)];simp only[Vq];refine KE (Ud h (λm a k=>?_) λ_ _ e=>e);cases m with
 |none=>exact k
 |some p=>obtain⟨x,next⟩:=p;exact k
def oK{it S:Addr}(hne:S≠it)(hh:A.handled=none){es:Array (Int×WM)}{ep:Nat}{t:SetTable}(T:oh t es)(hs:t.place.size<=t.mask)(hpl:t.plain=true)(hle:t.led=!byT w) :
 Walks prog w A it [it,S] [it] es.size (λi v=>((iz w S ep es)[i]?).map (·.2)=some v) (λi h=>SetIt h it S (db w t i) i es.size ep/\kH h S es ep t) where
 sub:=λb hb=>by simp at hb;simp[hb]
 frame:=λi h h' st hk=>by obtain⟨⟨o,h1,r1⟩,⟨o2,h2,r2⟩⟩:=st;exact⟨⟨o,hk it (by simp) o h1,r1⟩,⟨o2,hk S (by simp) o2 h2,r2⟩⟩
 item:=λi s Q E hi st hQ=>by
  obtain⟨x1,x2⟩:=st;have hT:=x1.typeIs;obtain⟨o,ho,hc,hd⟩:=x1;have x2':=x2;obtain⟨o2,ho2,hex2,hd2⟩:=x2;unfold pyNext;refine KE (Wp (T6 (name:=Str.ofString "__next__") hT slot_setiter_next (Tv slot_setiter_next hT fw ?_ (fO _))));refine pE ho hd x2' (oh.fits T hs) rfl (mY x2' T hs hpl hle (by lia) ?_);have hio:i<(iz w S ep es).size:=by rwa[jZ]
  have e1:(iz w S ep es)[i]?=some (iz w S ep es)[i]:=by simp[hio]
  rw[e1];show wpAny _ _ _ _ _ _;refine KE (VA ho hd (by simp) ?_);have d1:=VR hd (·.setIfInBounds 0 (rawInt ((db w t (i+1):Nat):Int)));have ho1:=Uc (Obj.mapFields (·.setIfInBounds 0 (rawInt ((db w t (i+1):Nat):Int)))) ho (Wb d1);refine KE (VA (s:={s with heap:=_}) ho1 d1 (by simp) ?_);have d2:=VR d1 (·.setIfInBounds 1 (rawInt ((i:Int)+1)));have ho3:=Uc (Obj.mapFields (·.setIfInBounds 1 (rawInt ((i:Int)+1)))) ho1 (Wb d2);have sb:=(Tl s.heap it (Obj.mapFields (·.setIfInBounds 0 (rawInt ((db w t (i+1):Nat):Int))))).trans (Tl _ it (Obj.mapFields (·.setIfInBounds 1 (rawInt ((i:Int)+1)))));refine R5 ⟨_,rfl,R5 ?_⟩;refine hQ _ _ s.toks (by rw[e1];rfl) ⟨⟨_,ho3,?_,?_⟩,o2,(sb.2 S hne).trans ho2,hex2,hd2⟩ (λb o hb e=>(sb.2 b (λz=>hb (by simp[z]))).trans e)
  .exact(Obj.cls_mapFields ..).trans ((Obj.cls_mapFields ..).trans hc)
  .rw[d2];simp[rawInt]
 done:=λs Q E st hQ=>by
  obtain⟨x1,x2⟩:=st;have hT:=x1.typeIs;obtain⟨o,ho,hc,hd⟩:=x1;unfold pyNext;refine KE (Wp (T6 (name:=Str.ofString "__next__") hT slot_setiter_next (Tv slot_setiter_next hT fw ?_ (fO _))));refine pE ho hd x2 (oh.fits T hs) rfl (mY x2 T hs hpl hle (R7 _) ?_);have e1:(iz w S ep es)[es.size]?=none:=by simp[jZ]
  rw[e1];show wpAny _ _ _ _ _ _;refine KE (VA ho hd (by simp) ?_);refine KE ?_;simp only[newExc,newTuple];refine KE (Tq ?_ (by size_fits));refine KE (m:=firstArgMember _ _) (wpAny_of_eq (a:=Value.none) (by first|rfl|(simp only[firstArgMember];rfl)) ?_);refine Tq ?_ (by size_fits);simp only[raiseNew];refine KE (wpAny_handled ?_);rw[show A.in1.handled=none from hh];refine KE (R5 (wpAny_throw ?_));refine KE (U6 (T:="StopIteration") (b:=true) ⟨_,Sn _ rfl,rfl⟩ isSubtype_stop ?_);refine R5 (hQ _ s.toks λb o hb e=>?_);exact R8 _ (R8 _ (((Tl ..).2 b (λz=>hb (by simp[z]))).trans e))
 self:=λ_ _ _ _ st hQ=>by refine Vt st.1.typeIs fP (Tv fP st.1.typeIs jw ?_ (j1 _));exact R5 ⟨_,rfl,"set_iterator",_,st.1.typeIs,slot_setiter_next.lookup,hQ⟩
end
section
def uT(r:kH s.heap S es ep t)(b:t.fits es.size=true)(c:t.plain=true)
 (h:Q (.ref s.z) { s with heap:=s.heap.push { cls:=.type "set_iterator",data:=.fields #[.int 0 0,.int 0 0,.ref S,.int es.size 0,.int ep 0] } }):wpAny (model prog w) A (pyIter (.ref S)) Q E s:=by
 obtain⟨o,a,hex,hd⟩:=r;have d:s.TypeIs (.ref S) "set":=⟨o,a,hex.1⟩;refine Vt d PySem.F.slot_set_iter (Tv PySem.F.slot_set_iter d oJ ?_ (PySem.F.args_set_iter_1 _));unfold Builtin.«frozenset.__iter__» Builtin.Frozenset.slot0 slotArgs;simp only[List.isEmpty_nil,Ua,Sy,↓reduceIte,bind_assoc,UX,V5];unfold Builtin.Frozenset.addrOf Builtin.Frozenset.sizeOf setEntries;refine KE (R5 (KE (R5 ?_)));simp only[bind_assoc];refine KE (T9 a hd b (KE (R5 (KE (R5 ?_)))));refine KE ?_;unfold setDrawn;refine KE (T9 a hd b ?_);dsimp only;refine KE (uS (R5 ?_));show wpAny _ _ (if(!byT w&&(!t.plain&&decide (es.size>1)))=true then _ else _) _ _ _;rw[c];simp only[Ua,V9,Vw,Sy,TV];refine KE (R5 ?_);refine KE (wpAny_setEpoch_of a hd b ?_);exact KE (Tq (R5 ⟨_,rfl,"set_iterator",_,⟨_,Sn _ rfl,rfl⟩,slot_setiter_next.lookup,h⟩))
def Av(a:s.TypeIs (.ref S) "set") (h:Q false s):wpAny (model prog w) A (Builtin.List.listLengthHint (.ref S)) Q E s:=by
 unfold Builtin.List.listLengthHint;refine KE (UW a PySem.F.slot_set_len.lookup ?_);dsimp only;have b:splitId "set.__len__"=some ("set","__len__"):=by decide +kernel
 rw[b];dsimp only;refine KE (U6 a sub_set_self ?_);simp only[Ua,Sy,TV];rw[Sg (by decide +kernel)];refine KE (Vm a ?_);exact R5 h
def sG(r:kH s.heap S es ep t)(T:oh t es)(X:t.place.size<=t.mask)(k:t.plain=true)(u:t.led=!byT w)(I:A.handled=none)(hz:es.size<=300)
 (h:∀U Z,s.z<U.y->(∀b o,s.heap.get? b=some o->U.get? b=some o)->Q ((iz w S ep es).toList.map (·.2)) {s with heap:=U,toks:=Z}):wpAny (model prog w) A (collect (.ref S)) Q E s:=by
 have J:=oh.fits T X;obtain⟨o,x,hex,hd⟩:=r;have g:S<s.z:=Sr x;unfold collect;refine KE (wpAny_runValue (UH entry_proto_collect' (show wpAny _ _ (do again (.builtin "list.__iadd__" ⟨[<- newList [],.ref S],[]⟩)) _ _ s from ?_)));refine KE (wpAny_newList (R5 ⟨Code.quiet_builtin _ (by decide +kernel),UH entry_list_iadd' ?_⟩));show wpAny _ _ (Builtin.List.listExtendWith (.ref s.z) (.ref S) (.ref s.z)) _ _ { s with heap:=s.heap.push (seqObj "list" #[] 0) };have j:(s.heap.push (seqObj "list" #[] 0)).get? S=some o:=R8 _ x;have y:Shared.TypeIs { s with heap:=s.heap.push (seqObj "list" #[] 0) } (.ref S) "set":=⟨o,j,hex.1⟩;unfold Builtin.List.listExtendWith;refine KE (Vm y ?_);have q1:Builtin.List.listSameRef (.ref s.z) (.ref S)=false:=by simp[Builtin.List.listSameRef,Vk g]
 have q2:(Value.type "set"==Value.type "list")=false:=by decide
 have K:(Value.type "set"==Value.type "tuple")=false:=by decide
 simp only[q1,q2,K,Bool.or_false,Sy,TV];refine KE (uT ⟨o,j,hex,hd⟩ J k ?_);have z:Shared.TypeIs { s with heap:=(s.heap.push (seqObj "list" #[] 0)).push { cls:=.type "set_iterator",data:=.fields #[.int 0 0,.int 0 0,.ref S,.int es.size 0,.int ep 0] } } (.ref S) "set":=⟨o,R8 _ j,hex.1⟩;refine KE (TH (Av z ?_));rw[Sg (by decide +kernel)];refine KE (V2 ?_);have l:((s.heap.push (seqObj "list" #[] 0)).push { cls:=.type "set_iterator",data:=.fields #[.int 0 0,.int 0 0,.ref S,.int es.size 0,.int ep 0] }).get? s.z=some (seqObj "list" #[] 0):=R8 _ (Sn _ rfl);refine KE (show wpAny _ _ (updateSeq s.z (·.push .none) >>= λ_=>updateSeq s.z (·.pop)) _ _ _ from ?_);refine KE (wpAny_updateSeq l rfl ?_);have m:=Uc (Obj.mapSeq (·.push Value.none)) l rfl;refine wpAny_updateSeq (hz:=by seq_fits) m rfl ?_;have B:=Uc (Obj.mapSeq (·.pop)) m rfl;generalize L:(((s.heap.push (seqObj "list" #[] 0)).push { cls:=.type "set_iterator",data:=.fields #[.int 0 0,.int 0 0,.ref S,.int es.size 0,.int ep 0] }).update s.z (Obj.mapSeq (·.push Value.none))).update s.z (Obj.mapSeq (·.pop))=C at *;have n:∀b o,b≠s.z->((s.heap.push (seqObj "list" #[] 0)).push { cls:=.type "set_iterator",data:=.fields #[.int 0 0,.int 0 0,.ref S,.int es.size 0,.int ep 0] }).get? b=some o->C.get? b=some o:=λb o Y e=>by rw[<- L];exact(UJ _ _ (Tp Y)).trans ((UJ _ _ (Tp Y)).trans e)
 have old:∀b o,s.heap.get? b=some o->C.get? b=some o:=λb o e=>n b o (SI (Sr e)) (R8 _ (R8 _ e));have d:(s.heap.push (seqObj "list" #[] 0)).y=s.z+1:=size_push' _ _;have D:C.get? (s.z+1)=some { cls:=.type "set_iterator",data:=.fields #[.int 0 0,.int 0 0,.ref S,.int es.size 0,.int ep 0] }:=n _ _ (by lia) (by rw[<- d];exact Sn _ rfl);refine R5 ⟨VN PySem.F.plain_extend_loop _,?_⟩;show codeAny _ _ (.builtin "list.extend.loop" ⟨[.ref s.z,.ref (s.heap.push (seqObj "list" #[] 0)).y,.ref s.z],[]⟩) _ _;rw[d];have W:Walks prog w A.in1 (s.z+1) [s.z+1,S] [s.z+1] es.size (λi v=>((iz w S ep es)[i]?).map (·.2)=some v) (λi h=>SetIt h (s.z+1) S (db w t i) i es.size ep/\kH h S es ep t):=oK (SI (Vs g)) (by simp[I]) T X k u;refine codeAny_extend_loopS W.toS (by rw[SQ];lia) s.z (by simp only[Sq,Sx,Wo,not_or];exact⟨SI (Uo _),Vk g⟩) _ es.size 0 _ #[] _ rfl (Sw _) ⟨⟨_,D,rfl,rfl⟩,o,old S o x,hex,hd⟩ (by rw[B];rfl) (ItemsOf.nil _) λM a c V p f=>?_;obtain⟨U,g',d',G,H⟩:=M;have N:g'=s.gens:=V.gens;have O:d'=s.drawn:=V.drawn;have P:H=s.os:=V.os;subst N O P;refine KE (wpAny_load p ?_);have R:a.toList=(iz w S ep es).toList.map (·.2):=by
  apply UY
  intro i;by_cases q:i<a.size
  .have e1:a.toList[i]?=some a[i]:=by rw[SW];simp[q]
   have e2:=f.2 i a[i] (by simp[q]);rw[e1,Su,SW];exact e2.symm
  .rw[T3 (by simpa using Nat.le_of_not_lt q),T3];rw[R9,Tu,jZ,<- f.1];exact Nat.le_of_not_lt q
 show wpAny _ _ (pure a.toList) _ _ _;rw[R];refine R5 (h U G (Sr p) λb o e=>V.heap b o ?_ (old b o e));have:=Sr e;simp only[Sq,Sx,Wo,not_or];exact⟨SI this,SI (Vs this)⟩
end
noncomputable def d4:List Int->List Int->Bool
 |[],[]=>false
 |[],_::_=>true
 |_::_,[]=>false
 |a::x,b::y=>if a=b then d4 x y else decide (a<b)
theorem we:∀a:List Int,d4 a a=false
 |[]=>rfl
 |a::x=>by unfold d4;rw[Sg rfl];exact we x
theorem Aw:∀a b c:List Int,d4 a b=true->d4 b c=true->d4 a c=true
 |[],[],_,h,_=>by cases h
 |[],_::_,[],_,h=>by cases h
 |[],_::_,_::_,_,_=>rfl
 |_::_,[],_,h,_=>by cases h
 |_::_,_::_,[],_,h=>by cases h
 |a::x,b::y,c::z,h1,d=>by
  unfold d4 at h1 d ⊢;by_cases f:a=b
  .subst f;rw[Sg rfl]at h1;by_cases e:a=c
   .subst e;rw[Sg rfl]at d ⊢;exact Aw x y z h1 d
   .rw[Sj e]at d ⊢;exact d
  .grind
theorem wf:∀a b:List Int,a≠b->d4 a b=true\/d4 b a=true
 |[],[],h=>(h rfl).elim
 |[],_::_,_=>.inl rfl
 |_::_,[],_=>.inr rfl
 |a::x,b::y,h=>by
  unfold d4;by_cases e:a=b
  .subst e;rw[Sg rfl,Sg rfl];exact wf x y λz=>h (by rw[z])
  .grind
section
variable{I:WL}{w:World}{A:WN}{s:WJ}
theorem wg:∀{a b:List Int}{q f:List WM}(i:Nat),ItemsAre (aH I w) (iK a) q->ItemsAre (aH I w) (iK b) f->Q (d4 a b) s->PySem.W.KatLex I w A true (decide (q.length<f.length)) Q (q.zip f) i s
 |[],[],_,_,i,c,d,h=>by cases c;cases d;exact h
 |[],_::_,_,_,i,c,d,h=>by
  cases c;cases d with
  |cons h1 r=>exact PySem.W.kat_nil h
 |_::_,[],_,_,i,c,d,h=>by
  cases d;cases c with
  |cons h1 r=>exact PySem.W.kat_nil h
 |a::x,b::y,_,_,i,c,d,h=>by
  cases c with
  |@cons _ n _ k h1 g=>
   cases d with
   |@cons _ o _ l r j=>
    obtain⟨p,rfl⟩:=lU h1;obtain⟨t,rfl⟩:=lU r;rw[List.zip_cons_cons];refine PySem.W.kat_cons (wpAny_eqBool_int ?_);unfold d4 at h;by_cases e:a=b
    .subst e;rw[Sg rfl]at h;rw[U7];refine PySem.W.kat_yes ?_;have:=wg (i+1) g j h;simpa using this
    .rw[Sj e]at h;have m:(a==b)=false:=by grind
     rw[m];refine PySem.W.kat_no ?_;cases i with
     |zero=>exact oneLt_int h
     |succ i=>exact PySem.W.kat_one _ _ (lt_int h)
structure rB(I:WL) (w:World) (h:Heap) (a:List jY):Prop where
 is:∀x∈a,(tK I w).is h (iK x.1) x.2
 ne:∀x∈a,x.1≠[]
 nd:(a.map (·.1)).Nodup
noncomputable def g4(a:List jY):List WM:=a.map λx=>Value.ref x.2
noncomputable def fQ(a:List jY)(i:Nat):List Int:=((a[i]?).getD ([],0)).1
def Do(t:rB I w s.heap xs):Lt xs.length λi j=>d4 (fQ xs i) (fQ xs j) where
 RP:=λi=>we _
 tr:=λi j k=>Aw _ _ _
 RI:=λi j hi hj e=>wf _ _ λz=>by
  have gi:fQ xs i=(xs.map (·.1))[i]'(by simpa using hi):=by simp[fQ,hi]
  have gj:fQ xs j=(xs.map (·.1))[j]'(by simpa using hj):=by simp[fQ,hj]
  rw[gi,gj]at z;rcases VP e with q|q
  .exact SM.mp t.nd i j (by simpa using hi) (by simpa using hj) q z
  .exact SM.mp t.nd j i (by simpa using hj) (by simpa using hi) q z.symm
def Ax(t:rB I w s.heap xs):Dj xs.length (λi j=>d4 (fQ xs i) (fQ xs j)) (kas_ask I w A (tuples' true) (g4 xs)) s:=by intro i j C b c h;have E:∀k,k<xs.length->∃x,(g4 xs).getD k Value.none=.ref x.2/\fQ xs k=x.1/\x∈xs:=λk a=>⟨xs[k],by simp[g4,a],by simp[fQ,a],Wf a⟩;obtain⟨x,F,d,e⟩:=E i b;obtain⟨y,f,g,l⟩:=E j c;unfold kas_ask;rw[F,f];obtain⟨r,H,nx,m,u,G,n⟩:=t.is x e;obtain⟨v,z,B,o,D,p,q⟩:=t.is y l;refine PySem.W.kat_lt m G o p ?_;have h:C (d4 (fQ xs i) (fQ xs j)) s:=h;rw[d,g]at h;have:=wg (A:=A) 0 n q h;simpa using this
theorem sI:∀{r:List jY},(∀x∈r,(tK I w).is h (iK x.1) x.2)->(∀x∈r,x.1≠[])->∃u:List WM,PySem.W.KatTups h (g4 r) u/\u.length=r.length/\∀v∈u,∃i t,v=Value.int i t
 |[],_,_=>⟨[],trivial,rfl,λv g=>nomatch g⟩
 |x::r,h1,z=>by
  obtain⟨u,a,b,c⟩:=sI (λy e=>h1 y (Sf _ e)) λy e=>z y (Sf _ e);obtain⟨m,B,nx,j,o,C,f⟩:=h1 x Sa;have d:=z x Sa;obtain⟨k,p⟩:=x;dsimp only at d f j;cases k with
  |nil=>exact(d rfl).elim
  |cons n E=>
   generalize q:B.toList=l at f;cases f with
   |@cons _ v _ F D G=>
    obtain⟨t,rfl⟩:=lU D;refine⟨.int n t::u,⟨⟨p,m,B,nx,rfl,j,o,C,?_⟩,a⟩,by simp[b],λv g=>?_⟩
    .rw[<- SW,q];rfl
    .grind
def xK(t:rB I w s.heap xs)(d:0<xs.length)(h:Q (tuples' true) s):wpAny (model I w) A (keyKind' (g4 xs).toArray) Q E s:=by
 obtain⟨f,a,b,c⟩:=sI t.is t.ne;refine PySem.W.kat_kind (T:=.type "int") a (by lia) (λv e=>?_) (by decide) ?_
 .obtain⟨i,t,rfl⟩:=c v e;exact λA Q E s k q=>R5 q
 .have:(Value.type "int" != Value.type "tuple")=true:=by decide
  rwa[this]
end
noncomputable def iA{a:Type}(d:a)(b:List a)(i:Nat):a:=(b[i]?).getD d
section
variable{m n:Type}
def mZ(d:m)(a:List m):(List.range a.length).map (iA d a)=a:=by
 apply UY
 intro i;rw[Su];by_cases h:i<a.length
 .rw[Wr h,R_ h];simp[iA,h]
 .rw[T3 (by grind),T3 (by grind)];rfl
def pF(d:m)(a:Pm xs.length p):(p.toList.map (iA d xs)).Perm xs:=by have:=List.Perm.map (iA d xs) a;rwa[mZ]at this
def wj{r:m->m->Bool}(k:Pm xs.length p)(l:So (λi j=>r (iA d xs i) (iA d xs j)) p xs.length):(p.toList.map (iA d xs)).Pairwise λx y=>r x y=true:=by
 rw[To,SM];intro i j g h b;have c:i<p.size:=by grind
 have a:j<p.size:=by grind
 have:=l i j b (by rwa[<- k.size]);dsimp only at this;have e:cM p i=p.toList[i]:=by simp[cM,Array.getD,c]
 have f:cM p j=p.toList[j]:=by simp[cM,Array.getD,a]
 rwa[e,f]at this
def sJ{f:m->n}{e:n}(d:m)(b:Pm xs.length p):(p.toList.map λi=>(xs.map f).getD i e)=(p.toList.map (iA d xs)).map f:=by rw[Tg];refine SR λi a=>?_;have a:i<xs.length:=SZ.mp (b.mem_iff.mp a);simp[iA,a]
end
section
def rB.off(t:rB prog w h xs)(d:h.get? a=some o)(f:o.cls=.type "list") (k:∀b o,b≠a->h.get? b=some o->h'.get? b=some o):rB prog w h' xs:=by refine⟨λx g=>?_,t.ne,t.nd⟩;obtain⟨c,j,nx,h1,i,r⟩:=t.is x g;refine⟨c,j,nx,k x.2 c (λe=>?_) h1,i,r⟩;rw[e,d]at h1;cases h1;rw[f]at i;exact absurd i (by decide)
def sK{a:Addr}{n:Nat}{I:List WM}{κ:SortKind}{lt:Nat->Nat->Bool}{P:PySem.Fin->WJ->Prop}(m:s.heap.get? a=some (seqObj "list" I.toArray n)) (v:I.length<64)
 (y:∀H,(∀b o,b≠a->s.heap.get? b=some o->H.get? b=some o)->2<=I.length->(∀Q,Q κ {s with heap:=H}->wpAny (model prog w) A (keyKind' I.toArray) Q E {s with heap:=H})/\Lt I.length lt/\Dj I.length lt (kas_ask prog w A κ I) {s with heap:=H})
 (h:∀p O c,Pm I.length p->So lt p I.length->O.get? a=some (seqObj "list" (p.toList.map λi=>I.getD i Value.none).toArray c)->(∀b o,b≠a->s.heap.get? b=some o->O.get? b=some o)->P (.done (.ret .none)) {s with heap:=O}) :
 wpAny (model prog w) A (Builtin.«list.sort» ⟨[.ref a],[]⟩) P E s:=by
 rw[list_sort_plain];refine KE (listItems_at m rfl (KE (listUpdate_at m rfl ?_ (by rw[Ss,SQ];lia) (Sw _))));obtain⟨R,q⟩ : ∃R,(s.heap.update a (Obj.mapSeq λ_=>#[])).get? a=some (seqObj "list" #[] R):=⟨_,get?_update_seq m (λ_=>#[])⟩;refine KE (seqEpoch_at q rfl (KE (wpAny_newTuple (KE (wpAny_newList (TH ?_) (Sw _))) (by show I.length<=_;rw[SQ];lia))));have k:∀b o,b≠a->s.heap.get? b=some o->(((s.heap.update a (Obj.mapSeq λ_=>(#[]:Array WM))).push (seqObj "tuple" I.toArray 0)).push (seqObj "list" #[] 0)).get? b=some o:=λb o M e=>R8 _ (R8 _ ((UJ _ _ (Tp M)).trans e));have d:(((s.heap.update a (Obj.mapSeq λ_=>(#[]:Array WM))).push (seqObj "tuple" I.toArray 0)).push (seqObj "list" #[] 0)).get? a=some (seqObj "list" #[] R):=R8 _ (R8 _ q);show wpAny (model prog w) A _ P E { s with heap:=((s.heap.update a (Obj.mapSeq λ_=>(#[]:Array WM))).push (seqObj "tuple" I.toArray 0)).push (seqObj "list" #[] 0) };generalize(((s.heap.update a (Obj.mapSeq λ_=>(#[]:Array WM))).push (seqObj "tuple" I.toArray 0)).push (seqObj "list" #[] 0))=K at d k;dsimp only;have r:∀(p:Array Nat)(J:Array WM),Pm I.length p->So lt p I.length->J=(p.toList.map λi=>I.getD i Value.none).toArray->P (.done (.ret .none)) {s with heap:=K.update a (Obj.mapSeq λ_=>J)}:=λp J z B m=>by subst m;exact h p _ _ z B (get?_update_seq d λ_=>(p.toList.map λi=>I.getD i Value.none).toArray) λb o M e=>(UJ _ _ (Tp M)).trans (k b o M e)
 by_cases L:I.toArray.size<2
 .rw[Sg L,Sg L];refine KE (R5 ?_);rw[StateT.run_pure];have l:I.length<2:=by grind
  have j:Array.map (λx:Keyed=>x.2) (I.toArray.zip I.toArray)=I.toArray:=by apply Array.ext';simp[List.map_snd_zip]
  refine KE (R5 ?_);dsimp only;refine KE (seqEpoch_at d rfl (KE (listUpdate_at d rfl ?_ (Sw _) ?_)))
  .simp only[V5,Sy,TV];refine R5 (r (List.range I.length).toArray _ (UC _) (λa b h1 L=>by lia) (j.trans ?_));rw[show(λi=>I.getD i Value.none)=iA Value.none I from funext λi=>by simp[iA]];show _=(List.map _ (List.range I.length)).toArray;rw[mZ]
  .show(Array.map (λx:Keyed=>x.2) (I.toArray.zip I.toArray)).size<=_;rw[j,Ss,SQ];lia
 .rw[Sj L,Sj L];have l:2<=I.length:=by grind
  obtain⟨k1,k2,T⟩:=y K k l;refine KE (k1 _ ?_);refine KE (Ud (PySem.W.kat_run (s:={s with heap:=K}) (Q:=λf t=>t={s with heap:=K}/\∃p:Array Nat,Pm I.length p/\So lt p I.length/\arrOf f=p.map (PySem.W.kas_item (I.toArray.zip I.toArray))/\failedOf f=none)
   (G:=λp t=>t={s with heap:=K}/\Pm I.length p/\So lt p I.length) rfl (by lia) (by lia) (λp f t _ C D g=>⟨g.1,p,g.2.1,g.2.2,C,D⟩) ?_) ?_ λ_ _ e=>e)
  .exact Dk k2 T l λp N S=>⟨rfl,N,S⟩
  .rintro⟨⟨⟩,f⟩ t ⟨rfl,p,N,S,u,F⟩;dsimp only;rw[PySem.W.kat_snds rfl u];refine KE (seqEpoch_at d rfl (KE (listUpdate_at d rfl ?_ (Sw _) ?_)))
   .rw[F];simp only[V5,Sy,TV];exact R5 (r _ _ N S rfl)
   .have:=N.size;simp[this];rw[SQ];lia
def xL(m:s.heap.get? a=some (seqObj "list" (g4 xs).toArray n)) (t:rB prog w s.heap xs) (u:xs.length<64)
 (h:∀f v c,f.Perm xs->f.Pairwise (λx y=>d4 x.1 y.1=true)->v.get? a=some (seqObj "list" (g4 f).toArray c)->(∀b o,b≠a->s.heap.get? b=some o->v.get? b=some o)->P (.done (.ret .none)) {s with heap:=v}) :
 wpAny (model prog w) A (Builtin.«list.sort» ⟨[.ref a],[]⟩) P E s:=by
 have d:(g4 xs).length=xs.length:=by simp[g4]
 refine sK (κ:=tuples' true) (lt:=λi j=>d4 (fQ xs i) (fQ xs j)) m (by lia) (λH g C=>?_) λp v c z B e k=>?_
 .have l:rB prog w H xs:=t.off m rfl g;rw[d];exact⟨λQ q=>xK (s:={s with heap:=H}) l (by lia) q,Do (s:={s with heap:=H}) l,Ax (s:={s with heap:=H}) l⟩
 .rw[d]at z B;exact h (p.toList.map (iA ([],0) xs)) v c (pF _ z) (wj (r:=λx y=>d4 x.1 y.1) z B) (by rw[e];unfold g4;rw[sJ ([],0) z]) k
def wn(e:WL)(w:World)(N:Nat):Prop:=∀(A:WN)(E:WM->WJ->Prop)(s:WJ)(a:Addr)(n:Nat)(f:List jY)(P:PySem.Fin->WJ->Prop),s.heap.get? a=some (seqObj "list" (g4 f).toArray n)->rB e w s.heap f->f.length<=N->
 (∀d g c,d.Perm f->d.Pairwise (λx y=>d4 x.1 y.1=true)->g.get? a=some (seqObj "list" (g4 d).toArray c)->(∀b o,b≠a->s.heap.get? b=some o->g.get? b=some o)->P (.done (.ret .none)) {s with heap:=g})->wpAny (model e w) A (Builtin.«list.sort» ⟨[.ref a],[]⟩) P E s
def Dp:wn prog w 63:=λ_ _ _ _ _ _ _ a t b h=>xL a t (by lia) h
end
section
variable{κ μ:Type}{its:List (κ×μ)}
theorem m7:∀(l:List (Int×WM)),(∀e∈l,∃x∈its,e=ent x)->∃c:List (κ×μ),l=c.map ent/\∀z∈c,z∈its
 |[],_=>⟨[],rfl,λz hz=>nomatch hz⟩
 |e::l,h=>by
  obtain⟨x,a,rfl⟩:=h e Sa;obtain⟨c,h1,d⟩:=m7 l λe b=>h e (Sf _ b);exact⟨x::c,by rw[h1];rfl,λz hz=>by
   rcases Sq.mp hz with rfl|hz
   .exact a
   .exact d z hz⟩
structure oC(lt:κ->κ->Prop) (its a:List (κ×μ)):Prop where
 sub:∀y∈a,y∈its
 all:∀x∈its,∃y∈a,y.1=x.1
 pw:a.Pairwise λx y=>lt x.1 y.1
def Hf(e:WL)(w:World)(h:Heap)(f:κ×μ->Int×WM)(lt:κ->κ->Prop)(its:List (κ×μ)) (N:Nat):Prop:=∀(A:WN)(E:WM->WJ->Prop)(s:WJ)(a:Addr)(n:Nat)(g:List (κ×μ))(P:PySem.Fin->WJ->Prop),(∀b o,h.get? b=some o->s.heap.get? b=some o)->s.heap.get? a=some (seqObj "list" (g.map λz=>(f z).2).toArray n)->(∀z∈g,z∈its)->(g.map (·.1)).Nodup->g.length<=N->
 (∀(d:List (κ×μ)) h' c,d.Perm g->d.Pairwise (λx y=>lt x.1 y.1)->h'.get? a=some (seqObj "list" (d.map λz=>(f z).2).toArray c)->(∀b o,b≠a->s.heap.get? b=some o->h'.get? b=some o)->P (.done (.ret .none)) {s with heap:=h'})->wpAny (model e w) A (Builtin.«list.sort» ⟨[.ref a],[]⟩) P E s
def j3(sa:SetAt w s.heap S es)(v:d_ ent es its)(un:CD ent its)(G:A.handled=none)(X:N<=300)(hs:Hf prog w s.heap ent lt its N)(hz:its.length<=N)
 (h:∀(d:List (κ×μ)) h' tk l c,oC lt its d->d.length<=N->s.z<=l->h'.get? l=some (seqObj "list" (d.map λz=>(ent z).2).toArray c)->(∀b o,s.heap.get? b=some o->h'.get? b=some o)->Q (.ref l) {s with heap:=h',toks:=tk}) :
 wpAny (model prog w) A (call (.builtin "sorted") [.ref S]) Q E s:=by
 obtain⟨o,Z,t,H,hex,hd,T,sp,j,k⟩:=sa;have n:=sF w S Z es;have I:=v.sz;obtain⟨Y,i,f⟩:=m7 (ent:=ent) (its:=its) (iz w S Z es).toList λe J=>v.el e (n.mem_iff.mp J);have K:(iz w S Z es).toList.map (·.2)=Y.map λz=>(ent z).2:=by rw[i,Tg];rfl
 have p:Y.length=es.size:=by have:=T_ List.length i;rw[R9,Tu,jZ]at this;exact this.symm
 have nd:(Y.map (·.1)).Nodup:=by have pw:=(n.pairwise_iff (λ{x y} q a b e1 e2 L m2 z=>q b a e2 e1 m2 L z.symm)).mpr v.pw;rw[i,To]at pw;unfold List.Nodup;rw[To];exact Uq (λ{a b} ha hb r=>r a b rfl rfl (f a ha) (f b hb)) pw
 refine Calls.call_function_entry kind_sorted plain_sorted entry_sorted (args_sorted1 _) ?_;unfold Builtin.«sorted»;refine KE (m:=checkCount "sorted" 1 1 _) (R5 (KE (sG ⟨o,H,hex,hd⟩ T (gh sp) j k (by simp[G]) (by lia) λh1 tk1 g1 k1=>?_)));rw[K];refine KE (wpAny_newList ?_ (by rw[R9,p,SQ];lia));have g:(h1.push (seqObj "list" (Y.map λz=>(ent z).2).toArray 0)).get? h1.y=some (seqObj "list" (Y.map λz=>(ent z).2).toArray 0):=Sn _ rfl;have C:∀b o,s.heap.get? b=some o->(h1.push (seqObj "list" (Y.map λz=>(ent z).2).toArray 0)).get? b=some o:=λb o e=>R8 _ (k1 b o e);have ge:s.z<=h1.y:=TY g1;refine KE (TH (Tv slot_list_sort ⟨_,g,rfl⟩ entry_list_sort (hs _ _ { s with heap:=h1.push (seqObj "list" (Y.map λz=>(ent z).2).toArray 0),toks:=tk1 } _ _ Y _ C g f nd (by lia) λd h2 c2 u M B k2=>⟨_,rfl,?_⟩) (args_list_sort _)));refine R5 ⟨_,rfl,h d h2 tk1 _ c2 ⟨λy O=>f y (u.mem_iff.mp O),λx P=>?_,M⟩ (by rw[u.length_eq];lia) ge B λb o e=>k2 b o (λz=>?_) (C b o e)⟩
 .obtain⟨y,R,U,V⟩:=v.all x P;have D:=n.mem_iff.mpr V;rw[i]at D;obtain⟨z,F,W⟩:=Se.mp D;exact⟨z,u.mem_iff.mpr F,(un z (f z F) y R W).trans U⟩
 .subst z;exact absurd (Sr e) (Nat.not_lt.mpr ge)
end
def TupsIn(H:Hp):List V->List jY->Prop:=Paired λv x=>v=.ref x.2/\H x.2=some (.tup ((iK x.1).map kV))
theorem TupsIn.get(t:TupsIn H h f)(j:Vals h g):f.length=g.length/\(∀(i:Nat)(v:WM),g[i]?=some v->∃x:jY,f[i]?=some x/\v=.ref x.2)/\∀x∈f,H x.2=some (.tup ((iK x.1).map kV)):=by
 unfold TupsIn at t;induction t generalizing g with
 |nil=>cases j;exact⟨rfl,λi v e=>by simp at e,λx hx=>nomatch hx⟩
 |@cons v y h f q t d=>
  cases j with
  |@cons _ u _ g r s=>
   obtain⟨a,b,c⟩:=d s;obtain⟨rfl,q⟩:=q;obtain rfl:u=Value.ref y.2:=r;refine⟨by simp[a],λi v e=>?_,λx hx=>?_⟩
   .cases i with
    |zero=>simp at e;exact⟨y,rfl,e.symm⟩
    |succ i=>exact b i v e
   .rcases Sq.mp hx with rfl|hx
    .exact q
    .exact c x hx
section
def xM(f:X.calm=true)(C:X.A.units+64<cLine):bJ X (.type "set") (λF H Q=>∃l D its,F=[.ref l]/\Rd H l (.lst D)/\TupsIn H D its/\D.length<=300/\
 ∀p E,H p=none->d_ (eT X.prog X.w) E its->Q (.ref p) (upd H p (.ext λh=>SetAt X.w h p E))):=by
 rintro N s O H F J Q I r⟨l,D,its,rfl,g,j,K,q⟩;obtain⟨u,rfl,ru⟩:=eB r;obtain rfl:u=Value.ref l:=ru;obtain⟨_,J,n,G,m⟩:=(show ObjOk X.prog X.w H s.heap l (.lst D)from g.ok I.aS);obtain⟨g1,g2,t⟩:=j.get G;have c:=λx y=>dI I.aS (t x y);refine pD (ent:=eT X.prog X.w) (I.ok.hd f) m (its:=its) (by grind) (by rwa[Ss,<- G.length]) (λi v e=>g2 i v (by grind)) (He c) (Dn (by show X.A.units+1+1+1<cLine;lia) c) λP L E d v z=>?_;have B:H s.z=none:=I.aS.fresh (R7 _);refine⟨.ref s.z,_,I.laid (a:=s.z) (o:=.ext λh=>SetAt X.w h s.z E) (t':=L) (λb o e=>z b o (Sr e) e) (R7 _) ?_,rfl,q _ E B v⟩;exact⟨d,(let ⟨o,_,_,e,_⟩:=d;⟨o,e⟩),λh1 R M k=>SetAt.keep M k⟩
def qt(m:X.calm=true)(t:N<=300)(S:wn X.prog X.w N):bJ X (.builtin "sorted") (λO H Q=>∃p L K,O=[.ref p]/\H p=some (.ext λh=>SetAt X.w h p L)/\d_ (eT X.prog X.w) L K/\(∀x∈K,H x.2=some (.tup ((iK x.1).map kV)))/\(∀x∈K,x.1≠[])/\K.length<=N/\
 ∀l b,H l=none->oC (λx y=>d4 x y=true) K b->Q (.ref l) (upd H l (.lst (b.map λy=>.ref y.2)))):=by
 rintro W s Y H O Z Q I r⟨p,L,K,rfl,z,v,B,g,M,q⟩;obtain⟨u,rfl,ru⟩:=eB r;obtain rfl:u=Value.ref p:=ru;obtain⟨C,_,_⟩:=(show ObjOk X.prog X.w H s.heap p (.ext λh=>SetAt X.w h p L)from I.aS p _ z);have d:=λx e=>dI I.aS (B x e);refine j3 C v (He d) (I.ok.hd m) t (lt:=λx y=>d4 x y=true) (λA E s a n T P D F j U M h=>S A E s a n T P F ⟨λx e=>jV (d x (j x e)) D,λx e=>g x (j x e),U⟩ M h) M λb h' V l c R i f k G=>?_;refine⟨.ref l,_,I.laid (a:=l) (o:=.lst (b.map λy=>.ref y.2)) (t':=V) G f ⟨by rw[R9,SQ];lia,_,c,?_,k⟩,rfl,q l b (I.aS.fresh f) R⟩;clear R k i;induction b with
 |nil=>exact .nil
 |cons y b J=>exact .cons rfl J
end
end L2
namespace L2
open PySem.Calls ST
section
def Dq(T:oh t es)(y:jp t)(h:Int)(x:WM):∃j,j∉t.place.toList/\j<=t.mask/\Rea t.mask (·∈ t.place.toList) h j/\layNew t es h x=(SetTable.insertAt es (t.put j).2 (h,x),(t.put j).1,false,false):=by
 have z:=gh y;have w:=mT T.tb z (λ_=>h+1) h (Va.st t.mask h);have c:t.probeStart h=st t.mask h:=rfl;generalize l:t.probe (λ_=>h+1) h (st t.mask h)=m at w;cases w with
 |ca n i o e q b=>exact absurd q (by lia)
 |em n e b=>
  have f:Rea t.mask (·∈ t.place.toList) h (it t.mask n (st t.mask h)).j:=⟨n,rfl,λk p=>by obtain⟨i,o,q,_⟩:=b k p;show _∈t.place.toList;rw[<- q];simp⟩;have a:(it t.mask n (st t.mask h)).j<=t.mask:=((Va.st t.mask h).it).Qd;refine⟨_,e,a,f,?_⟩;obtain⟨r,em,u⟩:=uP T e a (v:=x) f;have s:(t.put (it t.mask n (st t.mask h)).j).2<=es.size:=by rw[lT,<- T.len];exact(c_ _ T.tb.ud).1
  have d:(t.put (it t.mask n (st t.mask h)).j).1.place.size<=(t.put (it t.mask n (st t.mask h)).j).1.mask:=by grind [jp]
  have g:=oh.fits r d;unfold layNew SetTable.freeSlot;rw[c,l];dsimp only[Option.getD,Option.isSome];unfold SetTable.orStandIn;rw[Sg g,g];rfl
def xN(j:ui m)(d:SetTable.sizeAbove n=m+1)(c:es.size<=m):∃b i,relayAll t es n=(b,i,false)/\Laid m es b i/\i.led=t.led/\i.plain=t.plain:=by
 obtain⟨i,a,e,L,h1,k,f⟩:=sC j es c t.finger (t.movedTo m) t.led t.plain;refine⟨_,i,?_,L,h1,k⟩;have l:t.relaid (es.map (·.1)) n=some (i,a):=by unfold SetTable.relaid;rwa[d]
 unfold relayAll;rw[l];dsimp only;have g:coversAll a es.size=true:=by unfold coversAll;exact List.isPerm_iff.mpr f
 have h:i.fits (a.filterMap (es[·]?)).size=true:=oh.fits L.rG (by rwa[L.rG.len,L.mask,L.size]);rw[g,h];rfl
end
section
def Ds(M:SetAt w s.heap a es)(el:ElemsOf (intKind prog w) es.toList)(hz:es.size+1<=300)
 (h1:∀tk,s.toks<=tk->(∃e∈es.toList,(intKind prog w).is i e.2=true)->Q false {s with toks:=tk})
 (h2:∀tk h' c,s.toks<=tk->(∀e∈es.toList,(intKind prog w).is i e.2=false)->Heap.SameBut a s.heap h'->SetAt w h' a c->lB es c ((intKind prog w).hash i,.int i t0)->Q true {s with heap:=h',toks:=tk}) :
 wpAny (model prog w) A (setAdd a (.int i t0)) Q E s:=by
 obtain⟨o,ep,t,q,hex,hd,T,sp,r,u⟩:=M;have F:=oh.fits T (gh sp);have G:=intKind_is prog w i t0;have n:(Value.int i t0).scannable=true:=rfl;unfold setAdd;refine TH ?_;refine KE ((intKind prog w).pyHash (k:=i) G ?_);have f:s.toks<=s.toks+1:=Wy _;generalize s.toks+1=tk at f;unfold setAddHashed setAddHashedIn;refine TH (KE (T9 (s:={s with toks:=tk}) q hd F ?_));dsimp only;rw[byScan_of n (by unfold scanBound;lia) el];simp only[Vu];unfold setAddByScan;refine KE ?_;refine KE (V2 ?_);refine KE (wpAny_setScan_of (s:={s with toks:=tk}) G q hd F el ?_);cases H:List.findIdx? (λe=>(intKind prog w).is i e.2) es.toList with
 |some j=>dsimp only;obtain⟨x,y,_⟩:=UO.mp H;exact R5 (R5 (h1 tk f ⟨_,Wf x,y⟩))
 |none=>
  dsimp only;have h:∀e∈es.toList,(intKind prog w).is i e.2=false:=λe N=>by have:=List.findIdx?_eq_none_iff.mp H e N;simpa using this
  obtain⟨j,x,z,O,p⟩:=Dq T sp ((intKind prog w).hash i) (.int i t0);obtain⟨I,em,J⟩:=uP T x z (v:=Value.int i t0) O;have d:(t.put j).1.plain=true:=by rwa[jX T.tb]
  have l:(t.put j).1.led=!byT w:=by rwa[jX T.tb]
  rw[p];dsimp only;refine KE (show wpAny _ _ (pure ()) _ _ _ from R5 ?_);rw[d];simp only[Vu];rw[hashByValue_scannable 8 n];refine KE (R5 ?_);rw[show plainKind (Value.int i t0)=true from rfl];simp only[Vu];have P:(t.put j).2<=es.size:=by rw[lT,<- T.len];exact(c_ j T.tb.ud).1
  have g:=pC es (t.put j).2 ((intKind prog w).hash i,Value.int i t0) P;refine KE (V4 (s:={s with toks:=tk}) q hd ?_ (by rw[g.size,SQ];lia));obtain⟨o1,q1,q2,B⟩:=i8 (SetTable.insertAt es (t.put j).2 ((intKind prog w).hash i,Value.int i t0)) (t.put j).1 q hex hd;have K:=Tl s.heap a (Obj.putSet (SetTable.insertAt es (t.put j).2 ((intKind prog w).hash i,Value.int i t0)) (t.put j).1);have fill:(t.put j).1.fill=es.size+1:=by unfold SetTable.fill;rw[I.tb.JO,J,T.len];rfl
  by_cases b:(t.put j).1.tooFull=true
  .rw[b];simp only[Bool.not_false,Bool.and_self,Vu];unfold SetTable.tooFull at b;rw[fill,em]at b;have b:(es.size+1)*5>=t.mask*3:=by simpa using b
   have C:es.size*5<t.mask*3:=by rwa[<- T.len]
   obtain⟨m,R,m2,S⟩:=mW T.tb.Gv C b hz;rw[g.size];obtain⟨c,t',D,L,U,V⟩:=xN (t:=(t.put j).1) (es:=SetTable.insertAt es (t.put j).2 ((intKind prog w).hash i,Value.int i t0)) m2 R (by rw[g.size];lia);rw[D];dsimp only;refine KE (show wpAny _ _ (pure ()) _ _ _ from R5 ?_);refine KE (V4 q1 B ?_ (by rw[L.size,g.size,SQ];lia));obtain⟨W,X,Y,Z⟩:=i8 c t' q1 q2 B;refine R5 (R5 (h2 tk _ c f h (K.trans (Tl _ a _)) ⟨W,_,_,X,Y,Z,L.rG,?_,by rwa[V],by rwa[U]⟩ (g.laid L)));unfold jp;rwa[L.rG.len,L.mask,L.size,g.size]
  .have b:(t.put j).1.tooFull=false:=by simpa using b
   rw[b];simp only[Vw,Sy,TV];refine R5 (R5 (h2 tk _ _ f h K ⟨o1,_,_,q1,q2,B,I,?_,d,l⟩ g));unfold SetTable.tooFull at b;unfold jp;rw[fill]at b;rw[J,T.len];simpa using b
end
section
noncomputable abbrev sL:=Int×Tok
noncomputable abbrev eI(a:WL)(w:World)(x:sL):Int×WM:=((intKind a w).hash x.1,.int x.1 x.2)
def isI:(intKind prog w).is k (.int j t)=true↔k=j:=by
 constructor
 .intro h;by_cases e:k=j
  .exact e
  .have a:=intKind_is prog w j t;exact absurd ((intKind prog w).inj _ _ _ h a) e
 .rintro rfl;exact intKind_is prog w k t
def J6:CD (eI prog w) its:=λx _ y _ e=>by injection e with _ e;injection e
def Dt:wb prog w A hb S (eI prog w) its:=λx C s D Q E n F K h v q h1 r=>by
 refine Ds h (λe c=>?_) q (λp t a=>h1 p t ?_) λp u d t b i B g=>r p u d t (λa=>?_) i B g
 .obtain⟨y,_,rfl⟩:=v.el e c;exact⟨⟨y.1,intKind_is prog w y.1 y.2,rfl⟩,rfl⟩
 .obtain⟨e,c,j⟩:=a;obtain⟨y,f,rfl⟩:=v.el e c;exact⟨y,f,(isI.mp j).symm⟩
 .obtain⟨y,f,k⟩:=a;obtain⟨z,o,l,m⟩:=v.all y f;have:=b _ m;rw[isI.mpr (l.trans k).symm]at this;cases this
end
section
def J7(r:Vals (c.map V.int) us):∃b:List sL,b.map (·.1)=c/\us=b.map λz=>Value.int z.1 z.2:=by
 induction c generalizing us with
 |nil=>cases r;exact⟨[],rfl,rfl⟩
 |cons x c a=>
  cases r with
  |cons q h=>obtain⟨t,rfl⟩:=q;obtain⟨b,rfl,rfl⟩:=a h;exact⟨(x,t)::b,rfl,rfl⟩
def uU(d:X.calm=true):bJ X (.type "set") (λy H Q=>∃l m,y=[.ref l]/\Rd H l (.lst (m.map V.int))/\m.length<=300/\∀p t its,H p=none->its.map (·.1)=m->d_ (eI X.prog X.w) t its->Q (.ref p) (upd H p (.ext λh=>SetAt X.w h p t))):=by
 rintro F s G H y B Q I r⟨l,m,rfl,f,z,q⟩;obtain⟨u,rfl,ru⟩:=eB r;obtain rfl:u=Value.ref l:=ru;obtain⟨_,B,n,C,g⟩:=(show ObjOk X.prog X.w H s.heap l (.lst (m.map V.int))from f.ok I.aS);obtain⟨its,rfl,rfl⟩:=J7 C;rw[R9]at z;refine pD (ent:=eI X.prog X.w) (I.ok.hd d) g (its:=its) (by simp) (by simpa using z) (λi v e=>?_) J6 Dt λJ D t c v j=>?_
 .simp only[List.getElem?_toArray,Su,Tf]at e;obtain⟨x,h1,A⟩:=e;exact⟨x,h1,A.symm⟩
 .refine⟨.ref s.z,_,I.laid (a:=s.z) (o:=.ext λh=>SetAt X.w h s.z t) (t':=D) (λb o e=>j b o (Sr e) e) (R7 _) ?_,rfl,q _ t its (I.aS.fresh (R7 _)) rfl v⟩;exact⟨c,(let ⟨o,_,_,e,_⟩:=c;⟨o,e⟩),λh1 A E k=>SetAt.keep E k⟩
end
noncomputable def iB(a:List sL):List WM:=a.map λz=>Value.int z.1 z.2
section
theorem sM:∀a:List sL,IntsAre (iB a) (a.map (·.1))
 |[]=>.nil
 |z::a=>.cons _ _ (sM a)
def xO{P:PySem.Fin->WJ->Prop}(u:s.heap.get? a=some (seqObj "list" (iB zs).toArray n)) (I:(zs.map (·.1)).Nodup) (K:zs.length<=63)
 (h:∀t D c,t.Perm zs->t.Pairwise (λx y=>x.1<y.1)->D.get? a=some (seqObj "list" (iB t).toArray c)->(∀b o,b≠a->s.heap.get? b=some o->D.get? b=some o)->P (.done (.ret .none)) {s with heap:=D}) :
 wpAny (model prog w) A (Builtin.«list.sort» ⟨[.ref a],[]⟩) P E s:=by
 have d:(iB zs).length=zs.length:=by simp[iB]
 have B:∀k (m:k<zs.length),iA (0,0) zs k=zs[k]:=λk m=>by simp[iA,m]
 refine sK (κ:=oneType') (lt:=λi j=>decide ((iA (0,0) zs i).1<(iA (0,0) zs j).1)) u (by lia) (λH v L=>⟨λQ q=>?_,⟨λi=>by simp,λi j k=>by grind,λi j g l e=>?_⟩,λi j C g l q=>?_⟩) λp D c G J e k=>?_
 .have f:keyKind' (iB zs).toArray=pure oneType':=by
   match zs,(show 2<=zs.length by lia)with
   |z1::z::r,_=>exact keyKind_ints (sM (z1::z::r))
  rw[f];exact R5 q
 .rw[d]at g l;rw[B i g,B j l];rcases VP e with q|q
  .have:=SM.mp I i j (by grind) (by grind) q;grind
  .have:=SM.mp I j i (by grind) (by grind) q;grind
 .rw[d]at g l;unfold kas_ask;have F:∀k (m:k<zs.length),(iB zs).getD k Value.none=.int zs[k].1 zs[k].2:=λk m=>by simp[iB,m]
  rw[F i g,F j l,keyLt'_oneType];dsimp only at q;rw[B i g,B j l]at q;exact oneLt_int q
 .rw[d]at G J;refine h (p.toList.map (iA (0,0) zs)) D c (pF _ G) ((wj (r:=λx y=>decide (x.1<y.1)) G J).imp λh=>SO h) ?_ k;rw[e];unfold iB;rw[sJ (0,0) G]
end
section
theorem pG:∀a:List sL,Vals (a.map λy=>V.int y.1) (iB a)
 |[]=>.nil
 |y::a=>.cons ⟨y.2,rfl⟩ (pG a)
def oM(f:X.calm=true):bJ X (.builtin "sorted") (λM H Q=>∃p G F,M=[.ref p]/\H p=some (.ext λh=>SetAt X.w h p G)/\d_ (eI X.prog X.w) G F/\F.length<=63/\
 ∀(l:Addr)(J:List Int),H l=none->(∀k,k∈J↔k∈F.map (·.1))->J.Pairwise (·< ·)->Q (.ref l) (upd H l (.lst (J.map V.int)))):=by
 rintro R s S H M T Q I r⟨p,G,F,rfl,g,v,K,q⟩;obtain⟨u,rfl,ru⟩:=eB r;obtain rfl:u=Value.ref p:=ru;obtain⟨i,_,_⟩:=(show ObjOk X.prog X.w H s.heap p (.ext λh=>SetAt X.w h p G)from I.aS p _ g);refine j3 i v J6 (I.ok.hd f) (by decide) (lt:=(·< ·)) (λA E s a n U P _ j _ N K h=>xO j N K h) K λb W O l c L m d t e=>?_;have em:(b.map (·.1)).map V.int=b.map λy=>V.int y.1:=by rw[Tg];rfl
 refine⟨.ref l,_,I.laid (a:=l) (o:=.lst ((b.map (·.1)).map V.int)) (t':=O) e d ?_,rfl,q l (b.map (·.1)) (I.aS.fresh d) (λk=>?_) (To.mpr L.pw)⟩
 .rw[em];exact⟨by rw[R9,SQ];lia,iB b,c,pG b,t⟩
 .constructor
  .intro e;obtain⟨y,z,rfl⟩:=Se.mp e;exact Se.mpr ⟨y,L.sub y z,rfl⟩
  .intro e;obtain⟨x,B,rfl⟩:=Se.mp e;obtain⟨y,C,D⟩:=L.all x B;exact Se.mpr ⟨y,C,D⟩
end
end L2
namespace L2
open PySem.Calls
section
def Hg{k:List bc}{dflt:WM}{Q:WM->WJ->Prop}(n:A.units<cLine)(l:(tK prog w).is s.heap k a)(v:s.heap.DictOfH (tK prog w) d xs)(z:xs.length<=sizeLine)
 (h1:∀p,atKey xs k=some p->Q p.2 {s with toks:=s.toks+(tK prog w).draws k})
 (B:atKey xs k=none->∀u,u.DictOfH (tK prog w) d (storedH xs k a dflt)->Heap.SameBut d s.heap u->Q dflt {s with heap:=u,toks:=s.toks+(tK prog w).draws k}):wpAny (model prog w) A (dictSetDefault d (.ref a) dflt) Q E s:=by
 obtain⟨o,D,C,c,t,hd,i,f,m⟩:=v;unfold dictSetDefault
 try with_reducible refine TH ?_
 refine KE ((tK prog w).pyHash n l (KE (wpAny_dictFind_heap (knd:=tK prog w) (s:={s with toks:=s.toks+(tK prog w).draws k}) n l c hd i f m (λg=>?_) λj p q=>?_)))
 .have b:=atKey_none_of_get g;have h:k∉xs.map (·.1):=not_mem_keys_of_get g;refine KE (V2 (KE (wpAny_updateDictKeys (hz:=by have e:=VS i;lia) (s:={s with toks:=s.toks+(tK prog w).draws k}) c hd (R5 (B b _ ⟨_,_,C+1,Uc _ c (Obj.isFreed_of_dict (Vv hd _)),t.mapDictKeys _,Vv hd _,?_,?_,?_⟩ (Tl ..))))))
  .rw[storedH_new b];simp[i,entryOfKey]
  .rw[storedH_new b];intro x hx;rcases Sk.mp hx with hx|hx
   .exact(tK prog w).keeps (f x hx) c hd (Tl ..)
   .obtain rfl:=Sb.mp hx;exact(tK prog w).keeps l c hd (Tl ..)
  .rw[storedH_new b,SN,SX];exact⟨m,by simp,λx hx y r e=>by simp only[SD,UL,Sb]at r;subst r;exact h (e▸hx)⟩
 .refine KE (UE (s:={s with toks:=s.toks+(tK prog w).draws k}) c hd ?_);rw[entry_at i j,q];exact KE (V2 (R5 (h1 p (atKey_of_get m q))))
end
section
def Du:V->List V->Hp->VK->Prop:=λx d H Q=>∃a b k y c,x=.ref a/\d=[.ref b,y]/\H b=some (.tup (k.map kV))/\H a=some (.dT c)/\c.length<sizeLine/\
 ((∃v,cp c k=some v/\Q v H)\/(cp c k=none/\Q y (upd H a (.dT (bG c k y)))))
def pH(M:X.A.units+64<cLine):FN X "dict.setdefault" Du:=by
 rintro ag s σ H x xs v us Q I u rs⟨a,b,k,y,O,rfl,rfl,S,R,hz,q⟩;obtain rfl:v=Value.ref a:=u;obtain⟨W,T,rfl,f,e⟩:=rS rs;obtain rfl:W=Value.ref b:=f;obtain⟨B,C,Y,g,j⟩:=FO I.aS R;have D:=dI I.aS S;have l:Shared.TypeIs s (.ref a) "dict":=by obtain⟨o,U,V,E,F,_⟩:=j;exact⟨o,E,F.1⟩
 refine Tv Te l We ?_ (Wa _ _ _);unfold Builtin.«dict.setdefault»;refine KE ?_;unfold Builtin.Dict.keyAndDefault;refine KE (UN l (show wpAny _ _ (pure (a,Value.ref b,some T)) _ _ s from R5 ?_));show wpAny _ _ (if(a==sysModules)=true then _ else(dictSetDefault a (Value.ref b) T >>= _)) _ _ s;rw[Sj (by grind)];have G:Y.length<=sizeLine:=by rw[<- Us g];exact B
 have P:=g.val k;refine KE (Hg (by grind) D j G (λp m=>?_) λh Z i hs=>?_)
 .rcases q with⟨v,d,q⟩|⟨d,q⟩
  .have:RelO (some v) (some p.2):=by rw[<- d];rwa[m]at P
   exact R5 ⟨_,rfl,v,H,I.tok _,this,q⟩
  .have:=P.ff;rw[d,m]at this;cases this
 .rcases q with⟨v,d,q⟩|⟨d,q⟩
  .have:=P.ff;rw[d,h]at this;cases this
  .obtain⟨n,U,V,r,h2,h3,J,_,K⟩:=i;have L:(bG O k y).length<=sizeLine:=by have:=de O k y;lia
   have aS:ObjOk X.prog X.w (upd H a (.dT (bG O k y))) Z a (.dT (bG O k y)):=by refine⟨L,C,_,(g.put k S e).keeps λc N t=>?_,n,U,V,r,h2,h3,J,K⟩;rwa[ai (zh t R (λz=>nomatch z))]
   exact R5 ⟨_,rfl,y,_,gz (t':=s.toks+(tK X.prog X.w).draws k) I (by rw[R];exact ⟨⟩) hs ⟨n,r⟩ aS,e,q⟩
def qu:V->List V->Hp->VK->Prop:=λx d H Q=>∃a b k y c,x=.ref a/\d=[.ref b,y]/\H b=some (.tup (k.map kV))/\(H a=some (.dT c)\/(H a=some (.dK [])/\c=[]))/\c.length<sizeLine/\
 ((∃v,cp c k=some v/\Q v H)\/(cp c k=none/\Q y (upd H a (.dT (bG c k y)))))
def fx(f:X.A.units+64<cLine):FN X "dict.setdefault" qu:=by
 rintro m s n H x o v p Q I g rs⟨a,b,k,y,j,r,t,l,i,u,q⟩;rcases i with i|⟨i,rfl⟩
 .exact pH f m s n H x o v p Q I g rs ⟨a,b,k,y,j,r,t,l,i,u,q⟩
 .have d:b≠a:=zh l i (λz=>nomatch z);refine pH f m s n (upd H a (.dT [])) x o v p Q (I.Po i) g rs ⟨a,b,k,y,[],r,t,by rwa[ai d],ac,u,.inr ?_⟩;rcases q with⟨v,e,q⟩|⟨e,q⟩
  .cases e
  .have:upd (upd H a (.dT [])) a (.dT (bG [] k y))=upd H a (.dT (bG [] k y)):=by
    funext c;by_cases h:c=a
    .subst h;rw[ac,ac]
    .rw[ai h,ai h,ai h]
   exact⟨e,by grind⟩
end
def RawD(h:Heap)(d:Addr)(a:Array DictEntry)(b:Nat):Prop:=∃o,h.get? d=some o/\o.ExactDict/\o.data=.dict a b
section
variable{X:WL}{w:World}{A:WN}{s:WJ}{d v it:Addr}{V:Array DictEntry}{W i:Nat}{ok Y:WM}
def RawD.ty(m:RawD s.heap d V W):s.TypeIs (.ref d) "dict":=let ⟨o,h,c,_⟩:=m;⟨o,h,c.1⟩
theorem qv(d:Addr)(hd:(d==sysModules)=false) :
 MeetsIn X w (Builtin.«dict.items» ⟨[.ref d],[]⟩) (λ_ R s=>(∃V W,RawD s.heap d V W)/\R (.ok (.ret (.ref s.z))) { s with heap:=s.heap.push { cls:=.type "dict_items",data:=.fields #[.ref d] } }):=
 .of_wp λA R s ⟨⟨V,W,m⟩,h⟩=>by unfold Builtin.«dict.items» Builtin.Dict.noArgs;refine KE (KE (UN m.ty (R5 ?_)));show wpAny _ _ (Builtin.Dict.showsAll d >>= _) _ _ s;unfold Builtin.Dict.showsAll;rw[Sj (by rw[hd];simp)];exact KE (R5 (KE (Tq (R5 ⟨_,rfl,h⟩))))
theorem sN(a:s.heap.IsItemsView v d)(m:RawD s.heap d V W)
 (c:Q (.ref s.z) { s with heap:=s.heap.push { cls:=.type "dict_itemiterator",data:=.fields #[.none,.bool false,.ref d,.int 0 0,.int V.size 0,.int W 0,.none,.none] } }) :
 wpAny (model X w) A (pyIter (.ref v)) Q E s:=by
 obtain⟨e,f,_,g⟩:=id a;obtain⟨o,b,_,hd⟩:=id m;refine Vt a.typeIs F.slot_dict_items_iter (Tv F.slot_dict_items_iter a.typeIs F.entry_dict_items_iter ?_ (F.args_dict_items_iter_1 _));unfold Builtin.«dict_items.__iter__» Builtin.Dict_items.dictOf Builtin.Dict_items.newIterator;refine KE (R5 (KE (KE (V0 f g (x:=.ref d) rfl (R5 (KE (KE (UE b hd (KE (VT b hd ?_))))))))));simp only[show Builtin.Dict_items.ownsTuple "dict_itemiterator"=true by decide,Vu];refine Tq (R5 ⟨_,rfl,"dict_itemiterator",_,⟨_,Sn _ rfl,rfl⟩,T8.lookup,?_⟩)
  (by simp only[sizeOk,Builtin.Dict_items.ownedTupleFields,Ss,Sm,SG,UX,SQ];lia)
 simpa[rawInt,Builtin.Dict_items.ownedTupleFields]using c
theorem sO(f:A.handled=none)(y:IsItemIter s.heap it d i V.size W ok Y)(m:RawD s.heap d V W)(g:V.size<=i)(h:∀j,Heap.ExtBut it s.heap j->Q none {s with heap:=j}):wpAny (model X w) A (pyNext (.ref it)) Q E s:=by
 obtain⟨o,e,_,hd⟩:=id m;have c:s.TypeIs (.ref it) "dict_itemiterator":=⟨_,y,rfl⟩;unfold pyNext;refine KE (Wp (T6 (name:=Str.ofString "__next__") c T8 (Tv T8 c F.entry_dict_itemiterator_next ?_ (F.args_dict_itemiterator_next_1 _))));refine KE (R5 (KE (KE ?_)))
 first|refine KE (Uy c (R5 ?_))|refine KE (UP c (R5 ?_))
 refine KE (Wv y rfl ?_);simp only[show Builtin.Dict_items.ownsTuple "dict_itemiterator"=true by decide,Vu];show wpAny _ _ (if(Value.ref d==Value.none)=true then _ else _) _ _ s;rw[Sj (show ¬((Value.ref d==Value.none)=true)from SS)];refine KE (R5 (KE (UE e hd ?_)));rw[Sj (by simp)];refine KE (R5 (KE (VT e hd ?_)));rw[Sj (by simp)];refine R5 ?_;simp only[show ¬((i:Int)<0)from by lia,TV,Vq,Ve g];refine KE ?_
 first|refine KE (Uy c (R5 ?_))|refine KE (UP c (R5 ?_))
 show wpAny _ _ (setField (.ref it) 2 .none >>= _) _ _ s;refine KE (VA y rfl (by simp) ?_);show wpAny _ _ (newExc (.type "StopIteration") [] >>= _) _ _ _;refine KE ?_;simp only[newExc,newTuple];refine KE (Tq ?_ (by size_fits));refine KE (m:=firstArgMember _ _) (wpAny_of_eq (a:=Value.none) (by first|rfl|(simp only[firstArgMember];rfl)) ?_);refine Tq ?_ (by size_fits);simp only[raiseNew];refine KE (wpAny_handled ?_);rw[show A.in1.handled=none from f];refine KE (R5 (wpAny_throw ?_));refine KE (U6 (T:="StopIteration") (b:=true) ⟨_,Sn _ rfl,rfl⟩ isSubtype_stop ?_);exact R5 (h _ (((Tl ..).extBut.push _).push _))
theorem uV(y:IsItemIter s.heap it d i V.size W ok Y)(m:RawD s.heap d V W)(H:V[i]?=some e)
 (I:∀P,IsItemIterOut P it d (i+1) V.size W e.key e.val s.heap.objs.size->P.get? s.heap.objs.size=some { cls:=.type "tuple",data:=.seq #[e.key,e.val] }->
   (∀b o,b≠it->s.heap.get? b=some o->P.get? b=some o)->Q (some (.ref s.heap.objs.size)) {s with heap:=P}):wpAny (model X w) A (pyNext (.ref it)) Q E s:=by
 obtain⟨a,g,h,O,os⟩:=s;obtain⟨o,D,_,hd⟩:=id m;have c:Shared.TypeIs ⟨a,g,h,O,os⟩ (.ref it) "dict_itemiterator":=⟨_,y,rfl⟩;have p:a.objs.size≠it:=Vk (Sr y);unfold pyNext;refine KE (Wp (T6 (name:=Str.ofString "__next__") c T8 (Tv T8 c F.entry_dict_itemiterator_next ?_ (F.args_dict_itemiterator_next_1 _))));refine KE (R5 (KE (KE ?_)))
 first|refine KE (Uy c (R5 ?_))|refine KE (UP c (R5 ?_))
 refine KE (Wv y rfl ?_);simp only[show Builtin.Dict_items.ownsTuple "dict_itemiterator"=true by decide,Vu];show wpAny _ _ (if(Value.ref d==Value.none)=true then _ else _) _ _ _;rw[Sj (show ¬((Value.ref d==Value.none)=true)from SS)];refine KE (R5 (KE (UE D hd ?_)));rw[Sj (by simp)];refine KE (R5 (KE (VT D hd ?_)));rw[Sj (by simp)];refine R5 ?_;simp only[show ¬((i:Int)<0)from by lia,TV,Vq,H];refine KE ?_
 first|refine KE (Uy c (R5 ?_))|refine KE (UP c (R5 ?_))
 refine KE (VX c ?_);show wpAny _ _ (setField (.ref it) 3 (rawInt ((i:Int)+1)) >>= _) _ _ ⟨a,g,h,O,os⟩;refine KE (Vi y (by simp) λh1 j N=>?_);replace N:Heap.SameBut it a h1:=N;replace j:IsItemIter h1 it d (i+1) V.size W ok Y:=by
  have q:((i+1:Nat):Int)=(i:Int)+1:=by lia
  unfold IsItemIter;rw[q];simpa[rawInt]using j
 have f:Shared.TypeIs ⟨h1,g,h,O,os⟩ (.ref it) "dict_itemiterator":=⟨_,j,rfl⟩;refine KE (TH (KE (VX f (KE (VX f ?_)))));show wpAny _ _ (Builtin.Dict_items.pairFromOwner (.ref it) 6 e.key e.val) _ _ ⟨h1,g,h,O,os⟩;unfold Builtin.Dict_items.pairFromOwner;refine KE (wpAny_newTuple ?_);have k:IsItemIter (h1.push { cls:=.type "tuple",data:=.seq #[e.key,e.val] }) it d (i+1) V.size W ok Y:=R8 _ j;have T:(h1.push { cls:=.type "tuple",data:=.seq #[e.key,e.val] }).get? a.objs.size=some { cls:=.type "tuple",data:=.seq #[e.key,e.val] }:=by rw[<- N.1];exact Sn _ rfl
 have k2:∀b o,b≠it->a.get? b=some o->(h1.push { cls:=.type "tuple",data:=.seq #[e.key,e.val] }).get? b=some o:=λb o n q=>R8 _ (N.extBut b o n q);have G:h1.objs.size=a.objs.size:=N.1;generalize h1.push { cls:=.type "tuple",data:=.seq #[e.key,e.val] }=R at k T k2;show wpAny _ _ (Builtin.Dict_items.ownedTupleIsFree (.ref it) >>= _) _ _ ⟨R,g,h,O,os⟩;rw[G];clear j N f G h1;refine KE ?_;unfold Builtin.Dict_items.ownedTupleIsFree;refine KE (V0 k rfl (x:=.none) rfl (R5 ?_));simp only[Vu];refine KE (V0 k rfl (x:=ok) rfl (KE (V0 k rfl (x:=Y) rfl ?_)));refine KE (Vi k (by simp) λS r J=>?_);replace r:IsItemIter S it d (i+1) V.size W e.key Y:=r;refine KE (Vi r (by simp) λt u K=>?_);replace u:IsItemIter t it d (i+1) V.size W e.key e.val:=u;refine KE (Vi u (by simp) λz B L=>?_);replace B:IsItemIterOut z it d (i+1) V.size W e.key e.val a.objs.size:=B;refine KE (Vi B (by simp) λl C M=>?_);replace C:IsItemIterOut l it d (i+1) V.size W e.key e.val a.objs.size:=C;have U:∀b o,b≠it->R.get? b=some o->l.get? b=some o:=λb o n q=>VF (show Heap.SameBut it z l from M) b o n (VF (show Heap.SameBut it t z from L) b o n (VF (show Heap.SameBut it S t from K) b o n (VF (show Heap.SameBut it R S from J) b o n q)));exact KE (wpAny_letGo (R5 (R5 ⟨_,rfl,R5 (I l C (U _ _ p T) λb o n q=>U b o n (k2 b o n q))⟩)))
end
def uW{P:WL}{w:World}{K:WK}{es:List Expr}{k0:Nat}{pos:Pos}{J:It}{d it:Addr}{o:Obj}{u:HO}{en:Array DictEntry}{ep:Nat}(hex:o.ExactDict)(hdat:o.data=.dict en ep)(hgo:∀i H,J.go i H->H d=some (.bv o u))(hst:∀i H,J.stop i H->H d=some (.bv o u)/\en.size<=i)
 (hent:∀H h,HOk P w H h->∀i,J.go i H->∃e y v,en[i]?=some e/\RelV y e.key/\RelV v e.val/\∀p,H p=none->J.zd i H (.ref p) (upd H p (.tup [y,v]))) :
 Turn P w K (.Tuple es k0 pos) J [it] it (λi h=>∃ok ov,IsItemIter h it d i en.size ep ok ov) where
 mem:=by simp
 obj:=λi h st b hb=>by
  have e:b=it:=by simpa using hb
  subst e;obtain⟨ok,ov,e⟩:=st;exact⟨_,e,λv z=>by cases z⟩
 keep:=λi h h' st k=>by obtain⟨ok,ov,e⟩:=st;exact⟨ok,ov,k it (by simp) _ e⟩
 item:=by
  intro X hP hw hK hc i ag s σ H E I hf st hg;subst hP hw hK;have hd:=hgo i H hg;obtain⟨ok,ov,st⟩:=st;obtain⟨eo,_⟩:=(show ObjOk X.prog X.w H s.heap d (.bv o u)from I.aS d _ hd);obtain⟨e,y,v,he,ry,rv,hy⟩:=hent H s.heap I.aS i hg;have fi:=hf it (by simp);refine uV st ⟨o,eo,hex,hdat⟩ he λh' hout hT kp=>?_;refine⟨_,rfl,wpAny_letOwnedTupleGo_items hout λh'' hit'' hs''=>?_⟩;have keep2:∀b o,b≠it->s.heap.get? b=some o->h''.get? b=some o:=λb o n1 q=>(hs''.2 b n1).trans (kp b o n1 q);have hTe:s.heap.objs.size≠it:=Vk (Sr st);have hT'':h''.get? s.heap.objs.size=some { cls:=.type "tuple",data:=.seq #[e.key,e.val] }:=(hs''.2 _ hTe).trans hT;have fr:=I.aS.fresh (R7 _);have I1:Inv X ag σ (upd H s.heap.objs.size (.tup [y,v])) {s with heap:=h''}:=by
   refine I.step (g':=s.gens) (d':=s.drawn) (ch:=[it]) (λb hb=>?_) (λb o _ _ hn q _=>keep2 b o (λz=>hn (by simp[z])) q)
    (λb o _ _ hn q _=>⟨o.slots,keep2 b o (λz=>hn (by simp[z])) q⟩) (λb o _ q hH=>by rwa[ai (SI (Sr q))])
    (λb o hn q=>⟨o,keep2 b o (λz=>hn (by simp[z])) q⟩) (λb ys q=>by rwa[ai (ay q fr)])
    (λb o' u' q=>by rwa[ai (ay q fr)]) (λb ps q=>⟨#[],by rw[ai (ay q fr)];simp[q]⟩) (λm hm=>?_) (λb u' q=>?_) I.bare
   .have:b=it:=by simpa using hb
    subst this;exact⟨fi.2.2.2.1,fi.2.1,fi.2.2.2.2.1,fi.2.2.2.2.2⟩
   .obtain⟨o,es',ep,ho',r⟩:=hm;exact⟨o,es',ep,keep2 _ o (Tp fi.2.1) ho',r⟩
   .by_cases hb:b=s.heap.objs.size
    .subst hb;rw[ac]at q;cases q;exact⟨by show 2<=sizeLine;decide,[e.key,e.val],.cons ry (.cons rv .nil),⟨_,hT'',rfl,0,rfl⟩⟩
    .rw[ai hb]at q;refine(I.aS b u' q).stay (λc v hc' q'=>keep2 c v ?_ q') (λc r=>by rwa[ai (ay r fr)]) λc ys r=>by rwa[ai (ay r fr)]
     rcases hc' with z|z
     .rw[z];exact ay q fi.1
     .exact ay z fi.1
  refine⟨.ref s.heap.objs.size,_,I1,rfl,hy _ fr,⟨_,_,hit''⟩,λb hb=>?_⟩;have:b=it:=by simpa using hb
  subst this;rw[ai (SI (Sr st))];exact fi.1
 done:=by intro X hP hw hK hc i ag s σ H E I hf st hg;subst hP hw hK;obtain⟨hd,hi⟩:=hst i H hg;obtain⟨ok,ov,st⟩:=st;obtain⟨eo,_⟩:=(show ObjOk X.prog X.w H s.heap d (.bv o u)from I.aS d _ hd);obtain⟨f0,f1,f2,f3,f4,f5⟩:=hf it (by simp);exact sO (I.ok.hd hc) st ⟨o,eo,hex,hdat⟩ (by lia) λh' eb=>⟨rfl,I.turned (t':=s.toks) (λb o hb e=>eb b o hb e) f0 f1 f3 f4 f5⟩
 self:=λA i s Q E st h=>by obtain⟨ok,ov,st⟩:=st;have hT:s.TypeIs (.ref it) "dict_itemiterator":=⟨_,st,rfl⟩;refine Vt hT F.slot_dict_itemiterator_iter (Tv F.slot_dict_itemiterator_iter hT (entryFor_alias (id':="dict_keyiterator.__iter__") (by kernel_rfl) rfl (by decide +kernel) (by kernel_rfl):entryFor table "dict_itemiterator.__iter__"=some Builtin.«dict_keyiterator.__iter__») ?_ (F.args_dict_itemiterator_iter_1 _));show wpAny _ _ (ret (.ref it)) _ _ s;exact R5 ⟨_,rfl,"dict_itemiterator",_,hT,T8.lookup,h⟩
section
def pI{R:It->Hp->Prop}(s:Inv X ag σ H2 B)(C:H2 d=some (.bv o u))(hd:(d==sysModules)=false)(hex:o.ExactDict)(c:o.data=.dict en ep)(n:∀i H,J.go i H->H d=some (.bv o u))(q:∀i H,J.stop i H->H d=some (.bv o u)/\en.size<=i)
 (f:∀H h,HOk X.prog X.w H h->∀i,J.go i H->∃e y v,en[i]?=some e/\RelV y e.key/\RelV v e.val/\∀p,H p=none->J.zd i H (.ref p) (upd H p (.tup [y,v]))) (D:R J H2) :
 MethodOn X.prog X.w X.A "items" cpos (.ref d) [] (λv B=>wX X (pyIter v) (JV X ag σ (.Tuple es k0 Ci) R) X.xe B) X.xe B:=by
 obtain⟨l,_⟩:=(show ObjOk X.prog X.w H2 B.heap d (.bv o u)from s.aS d _ C);have g:B.TypeIs (.ref d) "dict":=⟨o,l,hex.1⟩;have j:∀a,Value.ref d=.ref a->∃t,B.heap.get? a=some t/\t.dict=none:=λa e=>by cases e;exact⟨o,l,hex.2.1⟩
 refine⟨"dict","dict.items",S5,PySem.F.slot_dict_items,PySem.F.type_dict_items,g,j,Uu rfl (PySem.evalArgs_none ?_)⟩;refine Vn PySem.F.slot_dict_items g PySem.F.entry_dict_items (PySem.F.args_dict_items_1 _) (qv d hd) ⟨⟨en,ep,o,l,hex,c⟩,?_⟩;have m:Inv X ag σ H2 { B with heap:=B.heap.push { cls:=.type "dict_items",data:=.fields #[.ref d] } }:=s.kept (t':=B.toks) λb o e=>R8 _ e;have x:({ B with heap:=B.heap.push { cls:=.type "dict_items",data:=.fields #[.ref d] } }:WJ).heap.get? d=some o:=R8 _ l;generalize r:({ B with heap:=B.heap.push { cls:=.type "dict_items",data:=.fields #[.ref d] } }:WJ)=k at m x;have z:k.heap.IsItemsView B.z d:=by rw[<- r];exact⟨_,Sn _ rfl,rfl,rfl⟩
 show wpAny _ _ (pyIter (.ref B.z)) _ _ _;refine sN z ⟨o,x,hex,c⟩ ?_;refine⟨k.z,[k.z],_,_,H2,rfl,m.kept (t':=k.toks) λb o e=>R8 _ e,uW hex c n q f,⟨_,_,Sn _ rfl⟩,λb E=>?_,D⟩;have e:b=k.z:=by simpa using E
 subst e;exact m.ou (R7 _) (m.aS.fresh (R7 _))
end
def MV(d:Addr)(o:Obj)(u:HO)(a:List (bc×V)):It:=⟨λi H=>H d=some (.bv o u)/\i<a.length,λi H x b=>∃p k v,H p=none/\x=.ref p/\b=upd H p (.tup [kV k,v])/\a[i]?=some (k,v),λi H=>H d=some (.bv o u)/\a.length<=i⟩
theorem KV.at(r:KV a b):∀(i:Nat) p q,a[i]?=some p->b[i]?=some q->p.1=q.1/\RelV p.2 q.2:=by
 induction r with
 |nil=>intro i p q e;simp at e
 |cons c t d=>
  intro i p q f g;cases i with
  |zero=>simp at f g;subst f g;exact c
  |succ i=>exact d i p q (by simpa using f) (by simpa using g)
def Ay{P:WL}{w:World}{a:List (bc×V)}{b:List (bc×WM)}{l:List DictEntry}(r:KV a b)(q:Pairs (aH P w) l b):l.length=a.length/\∀(i:Nat) p,a[i]?=some p->∃e,l[i]?=some e/\RelV (kV p.1) e.key/\RelV p.2 e.val:=by
 unfold KV at r;induction r generalizing l with
 |nil=>cases q;exact⟨rfl,λi p e=>by simp at e⟩
 |cons h _ c=>
  cases q with
  |cons h1 d q=>
   obtain⟨a,b⟩:=c q;refine⟨by simp[a],λi p e=>?_⟩;cases i with
   |zero=>simp only[VU,Option.some.injEq]at e;subst e;exact⟨_,rfl,by rw[h.1];exact v7 h1,by rw[d];exact h.2⟩
   |succ i=>exact b i p e
section
def Az(X:Cx)(e:TE):TI:=λf H R=>e f H λx c=>∃d b u,x=.ref d/\(u=.dK b\/(u=.dT []/\b=[]))/\((∃o,c d=some (.bv o u)/\R (MV d o u b) c)\/(c d=some u/\∀o,(∀a v,X.H₀ d≠some (.bv a v))->R (MV d o u b) (upd c d (.bv o u))))
def m8{tl:TE}{j a:Pos}(M:PE X l tl)(k:autoParam (attributeBase l "items" X.env (eval l X.env)=eval l X.env) av) (m:autoParam ((j.endLine==a.line)=true) av):PI X (.Tuple es k0 Ci) (.Call (.Attribute l "items" j) [] [] a) (Az X tl):=by
 intro W s Y H R I h;refine VM k m (bX (M W s Y H _ I h) λv S ⟨x,Z,r,N,q1⟩=>?_);obtain⟨d,Q,u,e,C,q⟩:=q1;subst e;cases N;have G:mP u:=by rcases C with rfl|⟨rfl,_⟩<;>exact ⟨⟩
 have t:∀(o:Obj)(y:Hp),Inv X W Y y S->y d=some (.bv o u)->R (MV d o u Q) y->MethodOn X.prog X.w X.A "items" a (.ref d) [] (λv S=>wX X (pyIter v) (JV X W Y (.Tuple es k0 Ci) R) X.xe S) X.xe S:=λo y D e2 q2=>by
  obtain⟨K,E⟩:=(show ObjOk X.prog X.w y S.heap d (.bv o u)from D.aS d _ e2);have n:∀{H h},HOk X.prog X.w H h->H d=some (.bv o u)->(d==sysModules)=false/\∃en V T,o.ExactDict/\o.data=.dict en V/\KV Q T/\Pairs (aH X.prog X.w) en.toList T:=λ{H h} ok e=>by
   obtain⟨K,E⟩:=(show ObjOk X.prog X.w H h d (.bv o u)from ok d _ e);have n:(d==sysModules)=false/\∃T,KV Q T/\h.DictOf (aH X.prog X.w) d T:=by
    rcases C with rfl|⟨rfl,rfl⟩
    .exact E.2
    .obtain⟨hd,dd⟩:=mM E;exact⟨hd,[],.nil,dd⟩
   obtain⟨hd,T,c,P,en,V,z,hex,b,_,f,_⟩:=n;rw[K]at z;cases z;exact⟨hd,en,V,T,hex,b,c,f⟩
  obtain⟨hd,en,V,T,hex,b,c,f⟩:=n D.aS e2;refine pI (J:=MV d o u Q) D e2 hd hex b (λi H h=>h.1) (λi H h=>⟨h.1,?_⟩) (λH h ok i g=>?_) q2
  .rw[<- Tu,(Ay c f).1];exact h.2
  .obtain⟨_,g⟩ : _/\i<Q.length:=g;have L:Q[i]?=some Q[i]:=by simp[g]
   obtain⟨e,h1,h2,h3⟩:=(Ay c f).2 i _ L;exact⟨e,kV Q[i].1,Q[i].2,by rw[<- SW];exact h1,h2,h3,λp O=>⟨p,_,_,O,rfl,rfl,L⟩⟩
 rcases q with⟨o,U,q⟩|⟨U,q⟩
 .exact t o Z r U q
 .have F:∃o,S.heap.get? d=some o:=by
   rcases C with rfl|⟨rfl,_⟩
   .obtain⟨_,_,_,_,o,_,_,B,_⟩:=(show ObjOk X.prog X.w Z S.heap d (.dK Q)from r.aS d _ U);exact⟨o,B⟩
   .obtain⟨_,_,_,_,o,_,_,B,_⟩:=(show ObjOk X.prog X.w Z S.heap d (.dT [])from r.aS d _ U);exact⟨o,B⟩
  obtain⟨o,B⟩:=F;exact t o _ (r.bv U G B) ac (q o (r.Cu U G))
end
def J8(d:Addr)(o:Obj)(u:HO)(a:List (List bc×V)):It:=⟨λi H=>H d=some (.bv o u)/\i<a.length,λi H x c=>∃p b k v,H p=none/\x=.ref p/\H b=some (.tup (k.map kV))/\c=upd H p (.tup [.ref b,v])/\a[i]?=some (k,v),λi H=>H d=some (.bv o u)/\a.length<=i⟩
theorem KT.at{H:Hp}{a:List (List bc×V)}{b:List (List bc×Addr×WM)}(r:KT H a b):∀(i:Nat) p q,a[i]?=some p->b[i]?=some q->p.1=q.1/\H q.2.1=some (.tup (p.1.map kV))/\RelV p.2 q.2.2:=by
 induction r with
 |nil=>intro i p q e;simp at e
 |cons c t d=>
  intro i p q f g;cases i with
  |zero=>simp at f g;subst f g;exact c
  |succ i=>exact d i p q (by simpa using f) (by simpa using g)
section
def AB(X:Cx)(e:TE):TI:=λf H R=>e f H λx c=>∃d b u,x=.ref d/\(u=.dT b\/(u=.dK []/\b=[]))/\((∃o,c d=some (.bv o u)/\R (J8 d o u b) c)\/(c d=some u/\∀o,(∀a v,X.H₀ d≠some (.bv a v))->R (J8 d o u b) (upd c d (.bv o u))))
def i9(F:PE X l tl)(m:autoParam (attributeBase l "items" X.env (eval l X.env)=eval l X.env) av) (n:autoParam ((apos.endLine==cpos.line)=true) av):PI X (.Tuple es k0 Ci) (.Call (.Attribute l "items" apos) [] [] cpos) (AB X tl):=by
 intro ag s σ H R I h;refine VM m n (bX (F ag s σ H _ I h) λv s1 ⟨x,H1,r,S,q1⟩=>?_);obtain⟨d,Z,u,e,G,q⟩:=q1;subst e;cases S;have O:mP u:=by rcases G with rfl|⟨rfl,_⟩<;>exact ⟨⟩
 have t:∀(o:Obj)(y:Hp),Inv X ag σ y s1->y d=some (.bv o u)->R (J8 d o u Z) y->MethodOn X.prog X.w X.A "items" cpos (.ref d) [] (λv s1=>wX X (pyIter v) (JV X ag σ (.Tuple es k0 Ci) R) X.xe s1) X.xe s1:=λo y K e2 q2=>by
  obtain⟨L,_⟩:=(show ObjOk X.prog X.w y s1.heap d (.bv o u)from K.aS d _ e2);have z:∀{H h},HOk X.prog X.w H h->H d=some (.bv o u)->(d==sysModules)=false/\∃(en:Array DictEntry)(ep:Nat),o.ExactDict/\o.data=.dict en ep/\en.size=Z.length/\∀(i:Nat) p,Z[i]?=some p->∃e b,en[i]?=some e/\e.key=.ref b/\H b=some (.tup (p.1.map kV))/\RelV p.2 e.val:=λ{H h} ok e=>by
   obtain⟨L,M⟩:=(show ObjOk X.prog X.w H h d (.bv o u)from ok d _ e);rcases G with rfl|⟨rfl,rfl⟩
   .obtain⟨_,hd,xs,c,T,en,ep,j,hex,a,B,_,_⟩:=ik ok (.inr ⟨o,e⟩);rw[L]at j;cases j;refine⟨hd,en,ep,hex,a,by rw[VS B,Us c],λi p E=>?_⟩;have F:i<xs.length:=by rw[<- Us c];exact(Si.mp E).1
    have M:xs[i]?=some xs[i]:=by simp[F]
    obtain⟨_,hb,rv⟩:=c.at i _ _ E M;exact⟨_,_,by rw[entry_at B,M];rfl,rfl,hb,rv⟩
   .obtain⟨_,hd,vs,c,T,en,ep,j,hex,a,_,C,_⟩:=ij ok (.inr ⟨o,e⟩);rw[L]at j;cases j;cases c;cases P:en.toList with
    |nil=>exact⟨hd,en,ep,hex,a,by rw[<- Tu,P];rfl,λi p e=>by simp at e⟩
    |cons _ _=>rw[P]at C;cases C
  obtain⟨hd,en,ep,hex,a,U,_⟩:=z K.aS e2;refine pI (J:=J8 d o u Z) K e2 hd hex a (λi H h=>h.1) (λi H h=>⟨h.1,by rw[U];exact h.2⟩) (λH h ok i g=>?_) q2;obtain⟨_,V,W,_,k,_,f⟩:=z ok g.1;rw[a]at k;cases k;obtain⟨_,g⟩ : _/\i<Z.length:=g;have Q:Z[i]?=some Z[i]:=by simp[g]
  obtain⟨e,b,h1,h2,h3,Y⟩:=f i _ Q;exact⟨e,.ref b,Z[i].2,h1,h2,Y,λp E=>⟨p,b,_,_,E,rfl,h3,rfl,Q⟩⟩
 rcases q with⟨o,e1,q⟩|⟨e1,q⟩
 .exact t o H1 r e1 q
 .have N:∃o,s1.heap.get? d=some o:=by
   rcases G with rfl|⟨rfl,_⟩
   .obtain⟨_,_,_,_,o,_,_,D,_⟩:=(show ObjOk X.prog X.w H1 s1.heap d (.dT Z)from r.aS d _ e1);exact⟨o,D⟩
   .obtain⟨_,_,_,_,o,_,_,D,_⟩:=(show ObjOk X.prog X.w H1 s1.heap d (.dK [])from r.aS d _ e1);exact⟨o,D⟩
  obtain⟨o,D⟩:=N;exact t o _ (r.bv e1 O D) ac (q o (r.Cu e1 O))
end
section
def Hh:List V->Hp->VK->Prop:=λb H Q=>∃d a u,b=[.ref d]/\(u=.dK a\/(u=.dT []/\a=[]))/\Rd H d u/\a.length<=sizeLine/\∀l,H l=none->Q (.ref l) (upd H l (.lst (a.map λp=>kV p.1)))
theorem wo:∀{d:List V}{c:List WM},d.length=c.length->(∀(i:Nat) v u,d[i]?=some v->c[i]?=some u->RelV v u)->Vals d c
 |[],[],_,_=>.nil
 |[],_::_,e,_=>by cases e
 |_::_,[],e,_=>by cases e
 |v::d,u::c,e,f=>.cons (f 0 v u rfl rfl) (wo (by simpa using e) λi w z a b=>f (i+1) w z (by simpa using a) (by simpa using b))
def uX(t:X.calm=true):bJ X (.type "list") Hh:=by
 rintro R s S H T U Q I r⟨d,kvs,u,rfl,y,f,G,q⟩;obtain⟨w,rfl,A⟩:=eB r;cases A;have m:=f.ok I.aS;have g:(d==sysModules)=false/\∃F,KV kvs F/\s.heap.DictOf (aH X.prog X.w) d F:=by
  rcases y with rfl|⟨rfl,rfl⟩
  .obtain⟨z,hd,F,a,dd⟩:=m;exact⟨hd,F,a,dd⟩
  .obtain⟨hd,dd⟩:=mM m;exact⟨hd,[],.nil,dd⟩
 obtain⟨hd,F,a,dd⟩:=g;obtain⟨ep,B⟩:=dd.dictAt;have n:=a.length;refine PySem.W.kdl_call (PySem.W.kdl_dict (knd:=aH X.prog X.w) (kvs:=F) (ep:=ep) hd) (I.ok.hd t) B (by rwa[<- n]) λJ K b o L e it=>?_;obtain⟨C,D⟩:=it;have M:b.toList.length=kvs.length:=by rw[Tu,C,n]
 have N:Vals (kvs.map λp=>kV p.1) b.toList:=by
  refine wo (by rw[R9,M]) λi v w c E=>?_;rw[Su]at c;cases j:kvs[i]? with
  |none=>rw[j]at c;cases c
  |some p=>rw[j]at c;cases c;obtain⟨k,x,O,P⟩:=D i w (by rwa[<- SW]);obtain⟨l,_⟩:=a.at i _ _ j O;show RelV (kV p.1) w;rw[show p.1=k from l];exact v7 P
 have e:J.get? s.z=some { cls:=.type "list",dict:=none,data:=.seq b.toList.toArray o,slots:=#[] }:=by rwa[Array.toArray_toList]
 exact⟨.ref s.z,_,I.laid (t':=K) L (R7 _) (show ObjOk X.prog X.w _ J _ (.lst (kvs.map λp=>kV p.1))from⟨by rwa[R9],b.toList,o,N,e⟩),rfl,q _ (I.aS.fresh (R7 _))⟩
end
noncomputable def m9:List Int->Int
 |[]=>0
 |x::r=>r.foldl (λa b=>if b<a then b else a) x
def xP(h:l≠[])(z:Int):m9 (l++[z])=if z<m9 l then z else m9 l:=by
 cases l with
 |nil=>exact(h rfl).elim
 |cons x r=>show(r++[z]).foldl _ x=_;rw[Ur];rfl
theorem m_(g:Array (Int×Tok)):∀k,k<g.size->numAt g (argBest (λi j=>decide (numAt g i<numAt g j)) k)=m9 ((g.toList.map (·.1)).take (k+1))
 |0,h=>by
  have e:g.toList.map (·.1)≠[]:=λz=>by have:=T_ List.length z;simp at this;rw[this]at h;simp at h
  cases q:g.toList.map (·.1)with
  |nil=>exact(e q).elim
  |cons y r=>
   have:(g[0]?.map (·.1))=some y:=by rw[<- SW,<- Su,q];rfl
   show numAt g 0=y;unfold numAt;rw[this];rfl
 |k+1,h=>by
  have b:=m_ g k (by lia);have c:(g.toList.map (·.1))[k+1]?=some (numAt g (k+1)):=by rw[Su,SW];unfold numAt;rw[UQ h];rfl
  have d:(g.toList.map (·.1)).take (k+1+1)=(g.toList.map (·.1)).take (k+1)++[numAt g (k+1)]:=by rw[List.take_succ,c];rfl
  have l:(g.toList.map (·.1)).take (k+1)≠[]:=λz=>by have f:=T_ List.length z;rw[TC,R9,Tu,UX]at f;lia
  rw[d,xP l,<- b];show numAt g (if(decide (numAt g (k+1)<numAt g (argBest _ k)))=true then k+1 else argBest _ k)=_;by_cases a:numAt g (k+1)<numAt g (argBest (λi j=>decide (numAt g i<numAt g j)) k)
  .rw[Sg (Sz a),Sg a]
  .rw[Sj (by simpa using a),Sj a]
theorem jx:∀{c:List Int}{a:List WM},Vals (c.map V.int) a->∃b:List (Int×Tok),a=b.map (λp=>.int p.1 p.2)/\b.map (·.1)=c
 |[],_,h=>by cases h;exact⟨[],rfl,rfl⟩
 |n::c,_,h=>by
  cases h with
  |cons r d=>obtain⟨t,rfl⟩:=r;obtain⟨b,rfl,e⟩:=jx d;exact⟨(n,t)::b,rfl,by rw[SD,e]⟩
def xQ(c:X.calm=true):bJ X (.builtin "min") (λm H Q=>∃p l,m=[.ref p]/\SqL X.K H p (l.map V.int)/\l≠[]/\Q (.int (m9 l)) H):=by
 rintro z s A H m B Q I r⟨p,l,rfl,d,b,q⟩;obtain⟨u,rfl,f⟩:=eB r;cases f;obtain⟨n,o,w,C⟩:=I.list d;obtain⟨k,rfl,e⟩:=jx o;have g:s.heap.IsList p (intItems k.toArray):=by
  have:intItems k.toArray=(k.map (λp=>Value.int p.1 p.2)).toArray:=by simp[intItems]
  rw[this];exact w.isList
 have a:0<k.toArray.size:=by
  cases k with
  |nil=>exact(b e.symm).elim
  |cons _ _=>simp
 refine min_intList (I.ok.hd c) g a λv D x i y=>?_;obtain⟨t,rfl⟩:=intItems_at i;rw[m_ k.toArray _ (by lia)];have j:(k.toArray.toList.map (·.1)).take (k.toArray.size-1+1)=l:=by rw[TJ (by simp;lia)];simpa using e
 rw[j];exact⟨.int (m9 l),H,I.kept (t':=x) y,⟨t,rfl⟩,q⟩
end L2
namespace L2
open Sem (wp)
open Builtin
open Sem (wp)
open Builtin
noncomputable def nc(c:List (Addr×List V))(a:Addr)(o:Obj)(d:List Int):Hp:=λb=>match c.lookup b with
 |some e=>some (.tup e)
 |none=>if b=a then some (.bv o (.lst (d.map V.int)))else none
section
def Dv(e:kts.lookup b=some xs):nc kts a o ns b=some (.tup xs):=by unfold nc;rw[e]
def Dw(e:kts.lookup a=none):nc kts a o ns a=some (.bv o (.lst (ns.map V.int))):=by unfold nc;rw[e];exact Sg rfl
def Dx(e:kts.lookup b=none)(n:b≠a):nc kts a o ns b=none:=by unfold nc;rw[e];exact Sj n
end
theorem j4:∀{a:List WM}{b:List Int},IntsAre a b->Vals (b.map V.int) a
 |_,_,.nil=>.nil
 |_,_,.cons n t h=>.cons ⟨t,rfl⟩ (j4 h)
def xR{P:WL}{w:World}{K:WK}{mg L:Str->Option WM}{CX:zx}{k:Nat}{X a:Addr}{fd:FuncData}{x:Str}{sp:Sp}{f:WJ}{vs:List WM}{ns:List Int}{kts:List (Addr×List V)}
 (Y:K.In f.heap) (C:f.heap.Ns mainGlobals mg) (hb:f.heap.Ns builtinsNs L) (M:∀x:Str,x≠"__name__"->L x=bootBuiltins x) (D:f.heap.NoLimit) (hg:f.gens=#[])
 (ha:f.heap.get? a=some { cls:=.type "list",data:=.seq vs.toArray }) (hi:IntsAre vs ns) (hl:ns.length<=sizeLine) (hr:cR k callerA)
 (hK:∀o,K.lookup a=some o->o.cls=.type "list"->False)
 (I:∀b xs,kts.lookup b=some xs->K.lookup b=none/\∃(o:Obj)(its:Array WM)(n:Nat),f.heap.get? b=some o/\o.cls=.type "tuple"/\o.data=.seq its n/\its.size<=sizeLine/\Vals xs its.toList)
 (hM:∀p∈K,∀b xs,GB p.2=some (b,xs)->kts.lookup b=some xs)
 (F:∀base:Heap,K.In base->base.Ns mainGlobals mg->cB P w K mg base CX k X fd [x] sp) (j:∀(s:WJ)(u:WM),BindsTo s fd ⟨[u],[]⟩ [(x,u)])
 (N:∀H:Hp,(∃o,H a=some (.bv o (.lst (ns.map V.int))))->sp [.ref a] H (λv _=>v=.bl true) λ_ _ _=>False)
 (O:∀H e l,CX [] H f (λ_ _ _=>False) e l->False) :
 codeAny (model P w) callerA (.call (.ref X) ⟨[.ref a],[]⟩) (λr l=>r=.ok (.ret (.bool true))/\OldK f.heap l.heap/\l.os=f.os/\AllBare l.gens) f:=by
 have rv:=j4 hi;have Q:K.lookup a=none:=by
  cases q:K.lookup a with
  |none=>rfl
  |some o=>have e:=Y a o q;rw[ha]at e;cases e;exact(hK _ q rfl).elim
 have R:kts.lookup a=none:=by
  cases q:kts.lookup a with
  |none=>rfl
  |some xs=>obtain⟨_,o,its,n,e,c,_⟩:=I a xs q;rw[ha]at e;cases e;exact absurd c (by simp)
 obtain⟨B,t⟩ : ∃B:Obj,B={ cls:=.type "list",data:=.seq vs.toArray }:=⟨_,rfl⟩;rw[<- t]at ha;generalize S:nc kts a B ns=H;have T:H a=some (.bv B (.lst (ns.map V.int))):=by rw[<- S];exact Dw R
 have U:∀b xs,kts.lookup b=some xs->H b=some (.tup xs):=λb xs e=>by rw[<- S];exact Dv e
 have J:∀b,kts.lookup b=none->b≠a->H b=none:=λb e n=>by rw[<- S];exact Dx e n
 have y:∀b o,K.lookup b=some o->H b=none:=λb o e=>by
  refine J b ?_ λz=>by rw[z,Q]at e;cases e
  cases q:kts.lookup b with
  |none=>rfl
  |some xs=>rw[(I b xs q).1]at e;cases e
 have A:∀(b:Addr)(o:Obj)(es:Array DictEntry)(ep:Nat),f.heap.get? b=some o->o.data=.dict es ep->H b=none:=λb o es ep e d=>by
  refine J b ?_ λz=>?_
  .cases q:kts.lookup b with
   |none=>rfl
   |some xs=>obtain⟨_,o',its,n,Z,_,d',_⟩:=I b xs q;rw[e]at Z;cases Z;rw[d]at d';cases d'
  .rw[z,ha]at e;cases e;rw[t]at d;cases d
 have i:∀{b:Addr}{m:Str->Option WM},f.heap.Ns b m->(rL f.heap H).Ns b m:=λ{b m} ⟨o,es,ep,e,d,r⟩=>⟨o,es,ep,rM e (A b o es ep e d),d,r⟩;have E:K.In (rL f.heap H):=λb o e=>rM (Y b o e) (y b o e);have W:Mod K mg (rL f.heap H):=⟨E,i C,⟨L,i hb,M⟩,let ⟨mc,h1,h2⟩:=D;⟨mc,i h1,h2⟩⟩;have aS:HOk P w H f.heap:=λb u e=>by
  cases q:kts.lookup b with
  |some xs=>rw[U b xs q]at e;cases e;obtain⟨_,o,its,n,e1,c,d,z,r⟩:=I b xs q;refine⟨by rw[r.length];simpa using z,its.toList,r,o,e1,c,n,by simpa using d⟩
  |none=>
   by_cases g:b=a
   .rw[g,T]at e;cases e;rw[g];exact⟨ha,by rwa[R9],vs,_,rv,by rw[ha,t]⟩
   .rw[J b q g]at e;cases e
 have e0:vI P w K mg (rL f.heap H) callerA [] f H:=⟨rfl,W,λb o e=>CO e,Wt (xt _ _),trivial,λb hb=>absurd (show b∈([]:List Addr)from hb) (by simp),aS,.of_eq hg,λp hp b xs e=>U b xs (hM p hp b xs e)⟩;refine VI ((F _ E (i C)).run callerA [] f H ⟨[.ref a],[]⟩ [.ref a] [.ref a] _ _ hr e0 (j f (.ref a)) (.cons rfl .nil) (N H ⟨B,T⟩)) λr l h=>?_;cases r with
 |error e=>exact(O H e l h).elim
 |ok fl=>
  cases fl with
  |next=>exact False.elim h
  |brk=>exact False.elim h
  |cont=>exact False.elim h
  |ret u=>
   obtain⟨v,H',os,bare,un,G,r',q⟩:=h;have q':v=.bl true:=q;subst q';obtain rfl:u=Value.bool true:=r';refine⟨rfl,OldK.of_keep λb o e=>?_,os,bare⟩;by_cases g:b=a
   .rw[g]at e ⊢;have z2:=un.iW a B _ T;obtain⟨e2,_⟩:=G a _ z2;rw[ha]at e;cases e;exact e2
   .refine un.keep b o e ?_ (by intro z;exact absurd (show b∈([]:List Addr)from z) (by simp)) (by simp);cases q:kts.lookup b with
    |none=>exact .inl (J b q g)
    |some xs=>exact .inr ⟨xs,U b xs q⟩
section
variable{K s:WK}
def NE(K:WK):Bool:=K.all λp=>(GB p.2).isNone
structure jh(K s:WK):Prop where
 look:∀b o,K.lookup b=some o->(∀a n,o.data≠.seq a n)->s.lookup b=some o
def xS:jh K K:=⟨λ_ _ e _=>e⟩
def jh.code(S:jh K s)(h:codeIn K cd q=true):codeIn s cd q=true:=by
 unfold codeIn at h ⊢;cases cd with
 |ref c=>
  dsimp only at h ⊢;cases e:K.lookup c with
  |none=>rw[e]at h;cases h
  |some o=>
   obtain⟨f,b,a,d⟩:=o;cases a with
   |fields g=>rw[S.look c _ e (λ_ _ z=>nomatch z)];rwa[e]at h
   |_=>rw[e]at h;cases h
 |_=>cases h
def jh.keep(S:jh K s)(e:K.lookup f=some ⟨o1,o2,.func fd,o4⟩):keepIn s (.ref f)=true:=by unfold keepIn;dsimp only;rw[S.look f _ e (λ_ _ z=>nomatch z)]
def jh.ns(S:jh K s)(h:nsIn K n x=some r):nsIn s n x=some r:=by
 unfold nsIn at h ⊢;cases e:K.lookup n with
 |none=>rw[e]at h;cases h
 |some o=>
  obtain⟨d,b,a,c⟩:=o;cases a with
  |dict f g=>rw[S.look n _ e (λ_ _ z=>nomatch z)];rwa[e]at h
  |_=>rw[e]at h;cases h
def jh.nsOk(S:jh K s)(h:PySem.W.nsOkIn K n=true):PySem.W.nsOkIn s n=true:=by
 unfold PySem.W.nsOkIn at h ⊢;cases e:K.lookup n with
 |none=>rw[e]at h;cases h
 |some o=>
  obtain⟨d,b,a,c⟩:=o;cases a with
  |dict f g=>rw[S.look n _ e (λ_ _ z=>nomatch z)];rwa[e]at h
  |_=>rw[e]at h;cases h
theorem jh.tail(S:jh K s):∀{l:List WM},PySem.W.tailIn K bm l=true->PySem.W.tailIn s bm l=true
 |[],h=>h
 |v::r,h=>by
  unfold PySem.W.tailIn at h ⊢;rw[Bool.or_eq_true]at h ⊢;refine h.imp id λh=>?_;cases v with
  |ref A=>
   dsimp only at h ⊢;cases e:K.lookup A with
   |none=>rw[e]at h;cases h
   |some o=>
    obtain⟨f,b,a,c⟩:=o;cases a with
    |cls d=>rw[S.look A _ e (λ_ _ z=>nomatch z)];rw[e]at h;dsimp only at h ⊢;simp only[Up,U_]at h ⊢;exact⟨⟨S.nsOk h.1.1,S.ns h.1.2⟩,S.tail h.2⟩
    |_=>rw[e]at h;cases h
  |_=>cases h
def jh.exc(S:jh K s)(h:excIn K C bm i=true):excIn s C bm i=true/\oG s C=oG K C:=by
 unfold excIn at h ⊢;unfold oG;cases e:K.lookup C with
 |none=>rw[e]at h;cases h
 |some o=>
  obtain⟨k,d,b,f⟩:=o;rw[e]at h;cases b with
  |cls g=>
   rw[S.look C _ e (λ_ _ z=>nomatch z)];refine⟨?_,rfl⟩;split at h
   .rename_i dd c j a;injection a with a;injection a with he1 he2 he3 he4;injection he3 with he3;subst he1 he2 he3 he4
    try dsimp only at h
    try dsimp only
    split at h
    .rename_i l m;simp only[Up,U_]at h ⊢;exact⟨⟨⟨h.1.1.1,S.tail h.1.1.2⟩,S.nsOk h.1.2⟩,S.ns h.2⟩
    .cases h
   .cases h
  |_=>split at h<;>first|cases h|(rename_i a;injection a with a;injection a with _ _ a _;cases a)
end
noncomputable def wq:WM->Bool
 |.type n=>n=="list"
 |_=>false
def NF(K:WK):Bool:=K.all λp=>!wq p.2.cls
theorem AC:∀{K:WK},NF K=true->K.lookup a=some o->o.cls=.type "list"->False
 |[],_,e,_=>by cases e
 |(b,x)::r,h,e,c=>by
  unfold NF at h;rw[List.all_cons,Up]at h;rw[U8]at e;split at e
  .cases e;rw[c]at h;have h1:=h.1;simp[wq]at h1
  .exact AC (K:=r) h.2 e c
section
variable{l:PySem.W.OpenLaw}{K:Params->WK}{CX:World->zx}{sp:World->Sp}
def AD(J:l.most=some n)(t:n<=sizeLine)(y:d.params.defaults=[])(L:cR k callerA)(M:∀(w:World)(h:Heap),YP w h->(K w.params).In h)
 (D:∀w:World,NF (K w.params)=true/\NE (K w.params)=true)
 (F:∀(w:World)(mg:Str->Option WM)(r:Addr)(h:Heap),(K w.params).In h->h.Ns mainGlobals mg->mg d.name=some (.ref r)->
   ∃fd:FuncData,(∀(s:WJ)(u:WM),BindsTo s fd ⟨[u],[]⟩ [(x,u)])/\∀Z:Heap,(K w.params).In Z->Z.Ns mainGlobals mg->cB l.prog w (K w.params) mg Z (CX w) k r fd [x] (sp w))
 (z:∀(w:World)(H:Hp)(a:Addr)(ns:List Int),ns.length<=n->(∃o,H a=some (.bv o (.lst (ns.map V.int))))->sp w [.ref a] H (λv _=>v=.bl true) λ_ _ _=>False)
 (A:∀(w:World)(H:Hp)(s:WJ)(e:WM)(B:WJ),CX w [] H s (λ_ _ _=>False) e B->False) :
 PySem.W.WalkO q loose XP YP l.row.toRowW d [] (λf vs=>PySem.call f vs):=by
 refine Att.attach_call J y λw s₀ j mg S r o pm U doc a vs ns G Y X hd N C m i E O=>?_;have I:=M w _ Y;obtain⟨fd,hb,P⟩:=F w mg r _ I G.T.g C;exact xR (kts:=[]) I G.T.g G.T.b G.T.builtins G.T.nolimit O m i (SE E t) L (λo e c=>AC (D w).1 e c) (λb xs e=>by cases e)
  (λp Q b xs e=>by have:=WF.mp (D w).2 p Q;rw[e]at this;cases this) P hb (λH R=>z w H a ns E R) λH e B=>A w H j e B
end
end L2
namespace L2
open PySem.Calls
abbrev NK:=List (Sum bc (List bc))
section
variable(P:WL)(w:World)
inductive gZ(h:Heap):NK->List WM->Prop
 |nil:gZ h [] []
 |val {k:bc} {v:WM} {ks:NK} {vs:List WM}:(aH P w).is k v=true->gZ h ks vs->gZ h (.inl k::ks) (v::vs)
 |tup {k:List bc} {b:Addr} {ks:NK} {vs:List WM}:(tupleKind (aH P w)).is h k b->gZ h ks vs->gZ h (.inr k::ks) (.ref b::vs)
def IsN(h:Heap)(c:NK)(a:Addr):Prop:=∃o b n,h.get? a=some o/\o.cls=.type "tuple"/\o.data=.seq b n/\gZ P w h c b.toList
def y8:Sum bc (List bc)->Int
 |.inl k=>(aH P w).hash k
 |.inr a=>tupleKeyHash (aH P w) a
noncomputable def J9:Sum bc (List bc)->Nat
 |.inl _=>1
 |.inr a=>a.length+1
def nDrs(a:NK):Nat:=(a.map J9).sum
end
section
variable{P:WL}{w:World}{h u:Heap}{A:WN}{E:WM->WJ->Prop}{s:WJ}
theorem gZ.inj(c:gZ P w h x vs)(a:gZ P w h y vs):x=y:=by
 induction c generalizing y with
 |nil=>cases a;rfl
 |val h1 _ b=>
  cases a with
  |val d e=>rw[(aH P w).inj _ _ _ h1 d,b e]
  |tup d e=>exact absurd ((aH P w).byValue _ _ h1) (by simp[carriedByValue])
 |tup h1 _ b=>
  cases a with
  |val d e=>exact absurd ((aH P w).byValue _ _ d) (by simp[carriedByValue])
  |tup d e=>rw[(tupleKind (aH P w)).inj h1 d,b e]
def gZ.len(b:gZ P w h x vs):x.length=vs.length:=by
 induction b with
 |nil=>rfl
 |val _ _ a=>simp[a]
 |tup _ _ a=>simp[a]
def gZ.mono(m:∀k b,(tupleKind (aH P w)).is h k b->(tupleKind (aH P w)).is u k b)(d:gZ P w h x vs):gZ P w u x vs:=by
 induction d with
 |nil=>exact .nil
 |val a _ c=>exact .val a c
 |tup a _ c=>exact .tup (m _ _ a) c
def IsN.ty(x:IsN P w s.heap ks a):s.TypeIs (.ref a) "tuple":=let ⟨o,_,_,b,c,_⟩:=x;⟨o,b,c⟩
theorem IsN.inj(g:IsN P w h x a)(i:IsN P w h y a):x=y:=by obtain⟨o,d,n,j,_,hd,k⟩:=g;obtain⟨l,c,m,e,_,b,f⟩:=i;obtain rfl:o=l:=Th (j.symm.trans e);rw[hd]at b;injection b with h1 _;subst h1;exact k.inj f
theorem IsN.keeps{es ep}(x:IsN P w h ks a)(i:h.get? d=some o)(hd:o.data=.dict es ep)(p:Heap.SameBut d h u):IsN P w u ks a:=by
 obtain⟨j,c,n,f,l,e,m⟩:=x;have g:a≠d:=by rintro rfl;obtain rfl:j=o:=Th (f.symm.trans i);rw[hd]at e;exact nomatch e
 exact⟨j,c,n,(p.2 a g).trans f,l,e,m.mono λk b z=>(tupleKind (aH P w)).keeps z i hd p⟩
theorem AE(p:A.units+1<cLine)(m:IsN P w s.heap ks a)(h:Q (reduceHash (Builtin.Tuple.tupleHashOf (ks.map (y8 P w)))) {s with toks:=s.toks+(nDrs ks+1)}) :
 wpAny (model P w) A (pyHash (.ref a)) Q E s:=by
 have f:=m.ty;obtain⟨o,i,n,q,_,hd,r⟩:=m;unfold pyHash
 first|unfold pyHashByItsType|skip
 first|refine KE (wpAny_cRoomFor_or (.inr (by lia)) ?_)|skip
 refine KE (UW f UA.lookup ?_);show wpAny _ _ (if(some (Value.builtin "tuple.__hash__")==some Value.none)=true then _ else _) Q E s;rw[Sj (by rw[beq_builtin_none];exact SS)];refine KE (UW f UA.lookup ?_);show wpAny _ _ (callSpecialIfBoundUnlessNone? (.ref a) "__hash__" _ >>= _) Q E s;refine KE (wpAny_callSpecialIfBoundUnlessNone?_slot f UA (Tv UA f PySem.F.entry_tuple_hash ?_ (PySem.F.args_tuple_hash_1 _)));show wpAny _ _ (Builtin.Tuple.tupleItemsOf (.ref a) >>= _) _ _ s;refine KE (wpAny_tupleItemsOf q hd ?_);refine KE ?_;rw[<- Vh];refine U5 _
  (λrest (b:Array Int) j=>∃done left,ks=done++left/\gZ P w s.heap left rest/\b.toList=done.map (y8 P w)/\j={s with toks:=s.toks+nDrs done})
  _ ?_ ?_ _ _ ⟨[],ks,rfl,r,rfl,rfl⟩
 .rintro x rest b j ⟨done,left,rfl,l,t,rfl⟩;cases l with
  |@val k _ d _ h1 e=>
   refine KE ((aH P w).pyHash h1 ?_)
   first
    |exact R5 ⟨done++[.inl k],d,by simp,e,by simp[t,y8],by simp[nDrs,J9,U3]⟩
    |exact KE (R5 (R5 ⟨done++[.inl k],d,by simp,e,by simp[t,y8],by simp[nDrs,J9,U3]⟩))
  |@tup k c d _ h1 e=>
   refine KE ((tupleKind (aH P w)).pyHash (show A.units+1<cLine from p) h1 ?_)
   first
    |exact R5 ⟨done++[.inr k],d,by simp,e,by simp[t,y8];rfl,by simp[nDrs,J9,U3];rfl⟩
    |exact KE (R5 (R5 ⟨done++[.inr k],d,by simp,e,by simp[t,y8];rfl,by simp[nDrs,J9,U3];rfl⟩))
 .rintro b j ⟨done,left,rfl,l,t,rfl⟩;cases l;rw[Tj]at h;show wpAny _ _ (retInt (Builtin.Tuple.tupleHashOf b.toList)) _ _ _;rw[t];refine wpAny_ret_mkInt ?_;show wpAny _ _ (if(decide (-(2:Int)^63<=Builtin.Tuple.tupleHashOf (done.map (y8 P w)))&&decide (Builtin.Tuple.tupleHashOf (done.map (y8 P w))<2^63))=true then _ else _) Q E _;unfold reduceHash at h;by_cases g:(decide (-(2:Int)^63<=Builtin.Tuple.tupleHashOf (done.map (y8 P w)))&&decide (Builtin.Tuple.tupleHashOf (done.map (y8 P w))<2^63))=true
  .rw[Sg g];rw[Sg g]at h;exact R5 (by simpa[U3]using h)
  .rw[Sj g];rw[Sj g]at h;exact KE (V2 (R5 (by simpa[U3]using h)))
end
def wt{b:Type}[DecidableEq b]:∀(x y:List b),((List.range (min x.length y.length)).all (λj=>decide (x[j]?=y[j]?))&&x.length==y.length)=decide (x=y):=by
 intro x y;rw[UV];simp only[Up,WF,SZ,Uw,U_];constructor
 .rintro⟨h,l⟩;apply UY
  intro j;by_cases a:j<min x.length y.length
  .exact h j a
  .rw[T3 (by lia),T3 (by lia)]
 .rintro rfl;exact⟨λ_ _=>rfl,rfl⟩
section
def sQ(h1:(aH P w).is x u=true)(d:(aH P w).is y v=true):SeqAt.EqAt A s u v (decide (x=y)):=by
 have a:∀i j:Int,decide ((Sum.inl i:bc)=Sum.inl j)=(i==j):=λi j=>by by_cases e:i=j<;>simp[e]
 have b:∀i j:Str,decide ((Sum.inr i:bc)=Sum.inr j)=(i==j):=λi j=>by by_cases e:i=j<;>simp[e]
 rcases aY (show fL x u=true from h1)with⟨i,t,rfl,rfl⟩|⟨i,t,rfl,rfl⟩<;>rcases aY (show fL y v=true from d)with⟨j,c,rfl,rfl⟩|⟨j,c,rfl,rfl⟩
 .rw[a];exact .int_int i t j c
 .exact .int_str i t j c
 .exact .str_int i t j c
 .rw[b];exact .str_str i t j c
def wu{m:Type}[DecidableEq m]{R:m->WM->Prop}{x y:List m}{n a:Array WM}(h:x.length=n.size)(i:y.length=a.size)(d:∀(j:Nat)(k:m)(z:j<n.size),x[j]?=some k->R k n[j])(f:∀(j:Nat)(k:m)(z:j<a.size),y[j]?=some k->R k a[j])
 (g:∀k l u v,R k u->R l v->SeqAt.EqAt A s u v (decide (k=l))):∀j (b:j<n.size) (c:j<a.size),SeqAt.EqAt A s n[j] a[j] (decide (x[j]?=y[j]?)):=by
 intro j b c;have k1:j<x.length:=by lia
 have k2:j<y.length:=by lia
 have g1:x[j]?=some x[j]:=by simp[k1]
 have g2:y[j]?=some y[j]:=by simp[k2]
 have e:decide (x[j]?=y[j]?)=decide (x[j]=y[j]):=by rw[g1,g2];by_cases q:x[j]=y[j]<;>simp[q]
 rw[e];exact g _ _ _ _ (d j _ b g1) (f j _ c g2)
def pJ(h:ItemsAre (aH P w) k vs):∀(j:Nat)(x:bc)(v:WM),k[j]?=some x->vs[j]?=some v->(aH P w).is x v=true:=by
 induction h with
 |nil=>intro j x v e;simp at e
 |cons a _ c=>
  intro j x v e b;cases j with
  |zero=>simp at e b;subst e;subst b;exact a
  |succ j=>exact c j x v (by simpa using e) (by simpa using b)
def Dy(m:A.units<cLine)(c:(tupleKind (aH P w)).is s.heap x a)(d:(tupleKind (aH P w)).is s.heap y b):SeqAt.EqAt A s (.ref a) (.ref b) (decide (x=y)):=by
 by_cases e:a=b
 .subst e;obtain rfl:=(tupleKind (aH P w)).inj c d;rw[Sz rfl];exact SeqAt.EqAt.same _
 .obtain⟨t,n,B,C,D,o,f⟩:=c;obtain⟨p,q,E,F,G,r,g⟩:=d;have h:x.length=n.size:=by rw[f.length];simp
  have i:y.length=q.size:=by rw[g.length];simp
  have z:=V6 (s:=s) (A:=A) (l:=a) (b:=b) ⟨t,C,D,B,o⟩ ⟨p,F,G,E,r⟩ m (wu (A:=A.in1) h i (λj k z e=>pJ f j k _ e (by simp[z])) (λj k z e=>pJ g j k _ e (by simp[z])) λk l u v=>sQ);rw[<- h,<- i,wt]at z;exact SeqAt.EqAt.of_refs e z
def NG(P:WL)(w:World)(h:Heap):Sum bc (List bc)->WM->Prop
 |.inl k,v=>(aH P w).is k v=true
 |.inr k,v=>∃b,v=.ref b/\(tupleKind (aH P w)).is h k b
def gZ.at'(d:gZ P w h k vs):∀(j:Nat)(x:Sum bc (List bc))(v:WM),k[j]?=some x->vs[j]?=some v->NG P w h x v:=by
 induction d with
 |nil=>intro j x v e;simp at e
 |val a _ c=>
  intro j x v e b;cases j with
  |zero=>simp at e b;subst e;subst b;exact a
  |succ j=>exact c j x v (by simpa using e) (by simpa using b)
 |tup a _ c=>
  intro j x v e b;cases j with
  |zero=>simp at e b;subst e;subst b;exact⟨_,rfl,a⟩
  |succ j=>exact c j x v (by simpa using e) (by simpa using b)
def AF(b:(tupleKind (aH P w)).is h x a):∃e,h.IsTuple a e:=let ⟨f,c,g,i,j,d,_⟩:=b;⟨c,f,i,j,g,d⟩
def AG(c:A.units<cLine)(f:NG P w s.heap x u)(d:NG P w s.heap y v):SeqAt.EqAt A s u v (decide (x=y)):=by
 cases x with
 |inl x=>
  cases y with
  |inl y=>
   have e:decide ((Sum.inl x:Sum bc (List bc))=Sum.inl y)=decide (x=y):=by by_cases q:x=y<;>simp[q]
   rw[e];exact sQ f d
  |inr y=>
   obtain⟨b,rfl,g⟩:=d;obtain⟨h,p⟩:=AF g;rcases aY (show fL x u=true from f)with⟨i,t,rfl,rfl⟩|⟨i,t,rfl,rfl⟩
   .exact .int_tuple i t p c
   .exact .str_tuple i t p c
 |inr x=>
  obtain⟨a,rfl,j⟩:=f;cases y with
  |inl y=>
   obtain⟨h,p⟩:=AF j;rcases aY (show fL y v=true from d)with⟨i,t,rfl,rfl⟩|⟨i,t,rfl,rfl⟩
   .exact .tuple_int i t p c
   .exact .tuple_str i t p c
  |inr y=>
   obtain⟨b,rfl,g⟩:=d;have e:decide ((Sum.inr x:Sum bc (List bc))=Sum.inr y)=decide (x=y):=by by_cases q:x=y<;>simp[q]
   rw[e];exact Dy c j g
def Hi(m:A.units+1<cLine)(c:IsN P w s.heap x a)(d:IsN P w s.heap y b):SeqAt.EqAt A s (.ref a) (.ref b) (decide (x=y)):=by
 by_cases e:a=b
 .subst e;obtain rfl:=c.inj d;rw[Sz rfl];exact SeqAt.EqAt.same _
 .obtain⟨t,n,B,C,D,o,f⟩:=c;obtain⟨p,q,E,F,G,r,g⟩:=d;have h:x.length=n.size:=by rw[f.len];simp
  have i:y.length=q.size:=by rw[g.len];simp
  have z:=V6 (s:=s) (A:=A) (l:=a) (b:=b) ⟨t,C,D,B,o⟩ ⟨p,F,G,E,r⟩ (by lia) (wu (A:=A.in1) h i (λj k z e=>f.at' j k _ e (by simp[z])) (λj k z e=>g.at' j k _ e (by simp[z])) λk l u v=>AG (show A.units+1<cLine from m));rw[<- h,<- i,wt]at z;exact SeqAt.EqAt.of_refs e z
def AH(n:Nat)(f:(tupleKind (aH P w)).is s.heap k a)(h:Q true s):wpAny (model P w) A (eqIsQuiet (n+1) (.ref a)) Q E s:=by
 have g:=IsTupleKey.typeIs f;obtain⟨o,b,n,j,_,hd,l⟩:=f;unfold eqIsQuiet;refine KE (UW g PySem.F.slot_tuple_eq.lookup ?_);show wpAny _ _ (isInstance (.ref a) (.type "tuple") >>= _) _ _ s;refine KE (U6 g isSubtype_tuple_tuple ?_);simp only[Ua,Sy,TV];refine KE (V_ j hd ?_);refine KE ?_;show wpAny _ _ (forIn b _ _) _ _ s;rw[<- Vh];refine U5 _ (λrest r c=>r.1=none/\c=s/\∀v∈rest,carriedByValue v=true) _ ?_ ?_ _ _ ⟨rfl,rfl,l.byValue⟩
 .rintro v rest r c ⟨d,rfl,i⟩;rw[eqIsQuiet_byValue _ (i v Sa)];refine KE (R5 ?_);simp only[Ua,Sy,TV];exact R5 ⟨rfl,rfl,λu e=>i u (Sf _ e)⟩
 .rintro⟨m,p⟩ c ⟨d,rfl,_⟩;simp only at d;subst d;exact R5 h
def Dz(e:IsN P w s.heap k a)(h:Q true s):wpAny (model P w) A (eqIsQuiet 8 (.ref a)) Q E s:=by
 have f:=e.ty;obtain⟨o,b,n,g,_,hd,i⟩:=e;unfold eqIsQuiet;refine KE (UW f PySem.F.slot_tuple_eq.lookup ?_);show wpAny _ _ (isInstance (.ref a) (.type "tuple") >>= _) _ _ s;refine KE (U6 f isSubtype_tuple_tuple ?_);simp only[Ua,Sy,TV];refine KE (V_ g hd ?_);refine KE ?_;show wpAny _ _ (forIn b _ _) _ _ s;rw[<- Vh];refine U5 _ (λrest r c=>r.1=none/\c=s/\∃q,gZ P w s.heap q rest) _ ?_ ?_ _ _ ⟨rfl,rfl,k,i⟩
 .rintro v rest r c ⟨d,rfl,q,j⟩;cases j with
  |val h1 p=>rw[eqIsQuiet_byValue _ ((aH P w).byValue _ _ h1)];refine KE (R5 ?_);simp only[Ua,Sy,TV];exact R5 ⟨rfl,rfl,_,p⟩
  |tup h1 p=>refine KE (AH 6 h1 ?_);simp only[Ua,Sy,TV];exact R5 ⟨rfl,rfl,_,p⟩
 .rintro⟨l,m⟩ c ⟨d,rfl,_⟩;simp only at d;subst d;exact R5 h
end
def nh(P:WL)(w:World):HeapKind P w NK where
 is:=IsN P w
 hash:=λks=>reduceHash (Builtin.Tuple.tupleHashOf (ks.map (y8 P w)))
 draws:=λks=>nDrs ks+1
 room:=λA=>A.units+1<cLine
 inj:=λhx hy=>hx.inj hy
 keeps:=λx ho hd hs=>x.keeps ho hd hs
 pyHash:=λhu hk h=>AE hu hk h
 eqBool:=λhu hx hy h=>Hi hu hx hy _ _ _ _ h
 quiet:=λhk h=>Dz hk h
noncomputable abbrev K0:=Sum Int (List Int)
noncomputable def xT(a:List (List K0))(k:List K0):Bool:=a.any λx=>decide (x=k)
noncomputable def sR:K0->Sum bc (List bc)
 |.inl i=>.inl (.inl i)
 |.inr l=>.inr (l.map Sum.inl)
noncomputable def Qm:K0->Int
 |.inl i=>hashInt i
 |.inr l=>reduceHash (Builtin.Tuple.tupleHashOf (l.map hashInt))
def J_(k:List K0):Int:=reduceHash (Builtin.Tuple.tupleHashOf (k.map Qm))
abbrev NX:=List (List K0×Addr×WM)
def gk(a:Addr)(b:NX)(h:Heap):Prop:=∃o c d,h.get? a=some o/\o.ExactDict/\o.data=.dict c d/\c.toList=b.map (λx=>⟨J_ x.1,.ref x.2.1,x.2.2⟩)/\(b.map (·.1)).Nodup
noncomputable def MW(H:Hp):List K0->List V->Prop
 |[],a=>a=[]
 |.inl i::b,a=>∃r,a=.int i::r/\MW H b r
 |.inr l::b,a=>∃c r,a=.ref c::r/\H c=some (.tup (l.map V.int))/\MW H b r
def qw(H:Hp)(k:List K0)(b:Addr):Prop:=∃a,H b=some (.tup a)/\MW H k a
section
def DB{a b:K0}(h:sR a=sR b):a=b:=by
 have c:∀x y:List Int,x.map (Sum.inl:Int->bc)=y.map Sum.inl->x=y:=λx y e=>(List.map_inj_right λ_ _ z=>Sum.inl.inj z).mp e;cases a<;>cases b<;>simp only[sR,Sum.inl.injEq,Sum.inr.injEq,reduceCtorEq]at h
 .rw[h]
 .rw[c _ _ h]
def nj{a b:List K0}(h:a.map sR=b.map sR):a=b:=(List.map_inj_right λ_ _ z=>DB z).mp h
def AI(k:List K0):(nh P w).hash (k.map sR)=J_ k:=by
 show reduceHash (Builtin.Tuple.tupleHashOf ((k.map sR).map (y8 P w)))=_;rw[Tg];unfold J_;congr 2;apply SR;intro x _;cases x with
 |inl i=>rfl
 |inr l=>show reduceHash (Builtin.Tuple.tupleHashOf ((l.map Sum.inl).map (JR w)))=_;rw[Tg];rfl
theorem qx(ok:HOk P w H h):∀{k:List K0}{g:List V}{f:List WM},MW H k g->Vals g f->gZ P w h (k.map sR) f
 |[],_,_,e,r=>by cases e;cases r;exact .nil
 |.inl i::j,_,_,⟨r,e,q⟩,z=>by
  subst e;cases z with
  |cons a b=>obtain⟨t,rfl⟩:=a;exact .val (oW i t) (qx ok q b)
 |.inr l::j,_,_,⟨c,r,e,d,q⟩,z=>by
  subst e;cases z with
  |cons a b=>cases a;refine .tup (dI ok ?_) (qx ok q b);rw[d,Tg];rfl
def wv(ok:HOk P w H h)(q:qw H k b):(nh P w).is h (k.map sR) b:=by obtain⟨c,e,q⟩:=q;obtain⟨_,a,r,o,h1,d,n,f⟩:=(show ObjOk P w H h b (.tup c)from ok b _ e);exact⟨o,a.toArray,n,h1,d,f,by simpa using qx ok q r⟩
def xU(a:NX):List (NK×Addr×WM):=a.map λx=>(x.1.map sR,x.2)
def DC(ok:HOk P w H h){i:NX}(d:gk a i h)(j:∀x∈i,qw H x.1 x.2.1):h.DictOfH (nh P w) a (xU i):=by
 obtain⟨o,k,l,h1,m,n,b,c⟩:=d;refine⟨o,k,l,h1,m,n,?_,λx f=>?_,?_⟩
 .rw[b];unfold xU;rw[Tg];apply SR;intro x _;show _=entryOfKey (nh P w) (x.1.map sR,x.2);unfold entryOfKey;rw[AI]
 .obtain⟨y,g,rfl⟩:=Se.mp f;exact wv ok (j y g)
 .unfold xU;rw[Tg];exact To.mpr ((To.mp c).imp λz e=>z (nj e))
def DD(d:h.DictOfH (nh P w) a (xU xs)):gk a xs h:=by
 obtain⟨o,f,g,h1,i,j,c,_,b⟩:=d;refine⟨o,f,g,h1,i,j,?_,?_⟩
 .rw[c];unfold xU;rw[Tg];apply SR;intro x _;show entryOfKey (nh P w) (x.1.map sR,x.2)=_;unfold entryOfKey;rw[AI]
 .unfold xU at b;rw[Tg]at b;exact To.mpr ((To.mp b).imp λz e=>z (T_ (List.map sR) e))
def AJ(b:NX)(k:List K0):(atKey (xU b) (k.map sR)).isSome=xT (b.map (·.1)) k:=by
 unfold atKey xU;rw[V1,UV,List.find?_isSome];unfold xT;simp only[WE,Se,Uw];constructor
 .rintro⟨_,⟨x,a,rfl⟩,e⟩;exact⟨_,⟨x,a,rfl⟩,nj e⟩
 .rintro⟨_,⟨x,a,rfl⟩,rfl⟩;exact⟨_,⟨x,a,rfl⟩,rfl⟩
def sS(a:NX)(k:List K0)(b:Addr)(v:WM):NX:=if xT (a.map (·.1)) k then a.map (λx=>if x.1=k then(x.1,x.2.1,v)else x)else a++[(k,b,v)]
def xV(c:NX)(k:List K0)(b:Addr)(v:WM):storedH (xU c) (k.map sR) b v=xU (sS c k b v):=by
 unfold storedH sS;rw[AJ];by_cases a:xT (c.map (·.1)) k=true
 .rw[Sg a,Sg a];unfold xU;rw[Tg,Tg];apply SR;intro x _;show putAt (k.map sR) v (x.1.map sR,x.2)=_;unfold putAt;by_cases e:x.1=k
  .rw[Sg (by rw[e])];simp[e]
  .rw[Sj λz=>e (nj z)];simp[e]
 .rw[Sj a,Sj a];unfold xU;rw[SN];rfl
end
section
def sU(I:Inv X ag σ H s)(e:H a=some (.ext (gk a xs))):gk a xs s.heap:=(show ObjOk X.prog X.w H s.heap a (.ext (gk a xs))from I.aS a _ e).1
def AK(d:gk a xs h):ObjOk P w H h a (.ext (gk a xs)):=⟨d,let ⟨o,_,_,q,_⟩:=d;⟨o,q⟩,λh1 e ⟨o,b,c,q,r⟩ k=>⟨o,b,c,k _ q,r⟩⟩
def Hj(i:A.units+2<cLine)(I:Inv X ag σ H s)(e:H a=some (.ext (gk a xs)))(l:xs.length<=sizeLine)(m:∀x∈xs,qw H x.1 x.2.1)(f:qw H k b)
 (h:∀d,Inv X ag σ (upd H a (.ext (gk a (sS xs k b r)))) d->Q () d):wpAny (model X.prog X.w) A (setItem (.ref a) (.ref b) r) Q E s:=by
 refine wpAny_setItem_heap (knd:=nh X.prog X.w) (hsz:=by unfold xU;rwa[R9]) (show A.units+1+1<cLine by lia) (wv I.aS f) (DC I.aS (sU I e) m) λo c n=>h _ ?_;rw[xV]at c;have j:=DD c;exact gz I (by rw[e];exact ⟨⟩) n (let ⟨q,_,_,g,_⟩:=j;⟨q,g⟩) (AK j)
def qy:TE:=λ_ H Q=>∀p,H p=none->(p==sysModules)=false->Q (.ref p) (upd H p (.ext (gk p [])))
def sV:PE X (.Dict [] [] pos) qy:=λb s c H Q I h=>
 wpAny_Dict_empty ⟨.ref s.z,_,I.laid (a:=s.z) (o:=.ext (gk s.z [])) (t':=s.toks) (λ_ _ q=>R8 _ q) (R7 _)
  (AK ⟨_,#[],0,Sn _ rfl,⟨rfl,rfl,rfl⟩,rfl,rfl,S1⟩),rfl,h _ (I.aS.fresh (R7 _)) (UG.mpr (Tp (SI I.big)))⟩
end
section
def FU(h ty d:TE):TS:=λD f H=>d f H λv i=>h f i λx e=>ty f e λy c=>∃a b g k,x=.ref a/\y=.ref b/\c a=some (.ext (gk a g))/\g.length<=sizeLine/\(∀x∈g,qw c x.1 x.2.1)/\qw c k b/\∀r,D.nx f (upd c a (.ext (gk a (sS g k b r))))
def DE(c:X.A.units+2<cLine)(d:PE X o td)(e:PE X i ty)(f:PE X value tv)(K:swapsWith value (some (.Subscript o i pos')) pos.line X.env=pure false) :
 PS X (.Assign [.Subscript o i pos'] value pos) (FU td ty tv):=by
 intro J s G H D I h;refine wpAny_Assign_Subscript (bX (f J s G H _ I h) λr L ⟨v,M,g,T,N⟩=>bX (d J L G M _ g N) λu O ⟨x,j,l,m,P⟩=>bX (e J O G j _ l P) λn C z=>?_) K;obtain⟨_,E,p,q,a,b,U,k,Q,rfl,R,S,t,w,y⟩:=z;subst Q;obtain rfl:u=Value.ref a:=m;obtain rfl:n=Value.ref b:=q;exact Hj c p R S t w λF B=>⟨G,_,B,y r⟩
end
end L2
namespace L3
open L2
abbrev DK:=Sum bc (List bc)
inductive D where
 |cj|bl (b:Bool)|int (i:Int)|str (x:Str)|tup (ds:List D)|lst (ds:List D)|FD (ks:List DK) (ds:List D)
mutual
noncomputable def D.flat:D->Bool
 |.lst _=>false
 |.FD _ _=>false
 |.tup a=>D.Cw a
 |_=>true
noncomputable def D.Cw:List D->Bool
 |[]=>true
 |d::a=>d.flat&&D.Cw a
end
mutual
noncomputable def D.dep:D->Nat
 |.lst a=>D.iY a+1
 |.tup a=>D.iY a+1
 |.FD _ a=>D.iY a+1000
 |_=>0
noncomputable def D.iY:List D->Nat
 |[]=>0
 |d::a=>max d.dep (D.iY a)
end
def DAt(H:Hp)(a:Addr)(c:List DK)(d:List V):Prop:=(∃b:List (bc×V),Rd H a (.dK b)/\c=b.map (λp=>.inl p.1)/\d=b.map Prod.snd)\/∃b:List (List bc×V),Rd H a (.dT b)/\c=b.map (λp=>.inr p.1)/\d=b.map Prod.snd
noncomputable def NH:HO->Prop
 |.lst _=>True
 |.dK _=>True
 |.dT _=>True
 |.ext _=>True
 |_=>False
def Mu(H:Hp)(a:Addr):Prop:=∃o,H a=some o/\NH o
def FV(h:Rd H a u):∃o,H a=some o:=h.elim (λe=>⟨_,e⟩) λ⟨_,e⟩=>⟨_,e⟩
def AL(h:Rd H a u)(s:∀o,H a=some o->H' a=some o):Rd H' a u:=h.imp (s _) λ⟨o,e⟩=>⟨o,s _ e⟩
def DAt.obj(h:DAt H a ks vs):∃o,H a=some o:=h.elim (λ⟨_,e,_⟩=>FV e) λ⟨_,e,_⟩=>FV e
def DAt.keep(h:DAt H a ks vs)(s:∀o,H a=some o->H' a=some o):DAt H' a ks vs:=h.imp (λ⟨b,e,r⟩=>⟨b,AL e s,r⟩) λ⟨b,e,r⟩=>⟨b,AL e s,r⟩
mutual
noncomputable def Is(H:Hp)(m:Addr->Prop):D->V->Prop
 |.cj,v=>v=.cj
 |.bl b,v=>v=.bl b
 |.int i,v=>v=.int i
 |.str x,v=>v=.str x
 |.tup d,v=>∃a c,v=.ref a/\H a=some (.tup c)/\IsAll H m d c
 |.lst d,v=>∃a c,v=.ref a/\((H a=some (.lst c)/\m a)\/∃o,H a=some (.bv o (.lst c))/\m a)/\IsAll H m d c
 |.FD e d,v=>∃a c,v=.ref a/\(DAt H a e c/\m a)/\IsAll H m d c
noncomputable def IsAll(H:Hp)(m:Addr->Prop):List D->List V->Prop
 |[],a=>a=[]
 |d::b,a=>∃v r,a=v::r/\Is H m d v/\IsAll H m b r
end
noncomputable def Ka:HO->Prop
 |.tup _=>True
 |.bv _ _=>True
 |_=>False
section
mutual
theorem Is.mono(f:∀a o,H a=some o->(m a\/Ka o)->H' a=some o)(b:∀a o,H a=some o->m a->m' a):∀{d:D}{v:V},Is H m d v->Is H' m' d v
 |.cj,_,h=>h
 |.bl _,_,h=>h
 |.int _,_,h=>h
 |.str _,_,h=>h
 |.tup k,_,h=>by obtain⟨a,g,e,h1,i⟩:=h;exact⟨a,g,e,f a _ h1 (.inr ⟨⟩),IsAll.mono f b i⟩
 |.lst k,_,h=>by
  obtain⟨a,g,e,h1,i⟩:=h;refine⟨a,g,e,?_,IsAll.mono f b i⟩;rcases h1 with⟨h1,j⟩|⟨o,h1,j⟩
  .exact .inl ⟨f a _ h1 (.inl j),b a _ h1 j⟩
  .exact .inr ⟨o,f a _ h1 (.inr ⟨⟩),b a _ h1 j⟩
 |.FD l k,_,h=>by obtain⟨a,g,e,h1,i⟩:=h;obtain⟨o,c⟩:=h1.1.obj;exact⟨a,g,e,⟨h1.1.keep λo e=>f a o e (.inl h1.2),b a o c h1.2⟩,IsAll.mono f b i⟩
theorem IsAll.mono(f:∀a o,H a=some o->(m a\/Ka o)->H' a=some o)(b:∀a o,H a=some o->m a->m' a):∀{c:List D}{g:List V},IsAll H m c g->IsAll H' m' c g
 |[],_,h=>h
 |d::c,_,h=>by obtain⟨v,r,e,h1,i⟩:=h;exact⟨v,r,e,Is.mono f b h1,IsAll.mono f b i⟩
end
theorem IsAll.length:∀{a:List D}{b:List V},IsAll H m a b->b.length=a.length
 |[],_,h=>by cases h;rfl
 |d::a,_,h=>by obtain⟨v,r,rfl,_,c⟩:=h;simp[IsAll.length c]
theorem IsAll.get:∀{c:List D}{f:List V}{i:Nat}{d:D},IsAll H m c f->c[i]?=some d->∃v,f[i]?=some v/\Is H m d v
 |[],_,_,_,_,e=>by simp at e
 |d::c,_,0,_,h,e=>by obtain⟨v,r,rfl,h1,g⟩:=h;simp at e;subst e;exact⟨v,rfl,h1⟩
 |d::c,_,i+1,_,h,e=>by obtain⟨v,r,rfl,h1,g⟩:=h;obtain⟨w,a,b⟩:=IsAll.get (i:=i) g (by simpa using e);exact⟨w,by simpa using a,b⟩
theorem IsAll.take:∀{a:List D}{b:List V}(n:Nat),IsAll H m a b->IsAll H m (a.take n) (b.take n)
 |_,_,0,_=>rfl
 |[],_,n+1,h=>by cases h;exact rfl
 |d::a,_,n+1,h=>by obtain⟨v,r,rfl,h1,c⟩:=h;exact⟨v,r.take n,rfl,h1,IsAll.take n c⟩
theorem IsAll.drop:∀{a:List D}{b:List V}(n:Nat),IsAll H m a b->IsAll H m (a.drop n) (b.drop n)
 |_,_,0,h=>h
 |[],_,n+1,h=>by cases h;exact rfl
 |d::a,_,n+1,h=>by obtain⟨v,r,rfl,h1,c⟩:=h;exact IsAll.drop n c
end
section
variable{s:WJ}{m:Addr->Prop}
def AN(ok:HOk P w H s.heap)(h:(H a=some (.lst vs)/\m a)\/∃o,H a=some (.bv o (.lst vs))/\m a) :
 ∃c:List WM,Vals vs c/\s.heap.IsList a c.toArray:=by
 have b:ObjOk P w H s.heap a (.lst vs)->∃c:List WM,Vals vs c/\s.heap.IsList a c.toArray:=λ⟨_,c,n,r,e⟩=>⟨c,r,⟨_,e,rfl,n,rfl⟩⟩;rcases h with⟨h,_⟩|⟨o,h,_⟩
 .exact b (ok a _ h)
 .exact b (ok a _ h).2
def kI(ok:HOk P w H s.heap)(h:H a=some (.tup vs)):∃b:List WM,Vals vs b/\s.heap.IsTuple a b.toArray:=by obtain⟨_,b,r,e⟩:=ok a _ h;exact⟨b,r,e⟩
theorem qz:∀{ds:List D}{j:Nat}{d:D},ds[j]?=some d->d.dep<=D.iY ds
 |[],_,_,e=>by simp at e
 |d::ds,0,_,e=>by simp at e;subst e;simp only[D.iY];lia
 |d::ds,j+1,x,e=>by have:=qz (ds:=ds) (j:=j) (d:=x) (by simpa using e);simp only[D.iY];lia
end
abbrev St:=L2.St
inductive Res(α:Type) where
 |stuck|ok (a:α)|exc (c:Str)
noncomputable def Res.bind{d b:Type}:Res d->(d->Res b)->Res b
 |.stuck,_=>.stuck
 |.exc c,_=>.exc c
 |.ok a,k=>k a
inductive Sl where
 |val (d:D) (fr:Bool)|own (ds:List D) (fr:Bool)|Pn (d:D)|RH (d:D)
noncomputable abbrev En:=List (Option Sl)
inductive R where
 |val (d:D) (fr:Bool) (al:List Nat)|new (ds:List D) (fr:Bool)|ze (d:D)
noncomputable def R.d:R->D
 |.val d _ _=>d
 |.new a _=>.lst a
 |.ze d=>d
noncomputable def R.fr:R->Bool
 |.val _ f _=>f
 |.new _ f=>f
 |.ze _=>true
noncomputable def R.al:R->List Nat
 |.val _ _ al=>al
 |.new _ _=>[]
 |.ze _=>[]
structure Gd where
 H₀:Hp
 Ma:Addr->Prop
 Z:Addr->Prop
 root:Option V
 Pg:Option V
noncomputable abbrev Py(H:Hp)(a:Addr->Prop):Gd:=⟨H,a,λ_=>False,none,none⟩
noncomputable abbrev Pr:=Nat->Addr->Prop
noncomputable def Gd.rt(g:Gd)(n:Nat):Option V:=if n=0 then g.root else g.Pg
noncomputable def Sl.RN:Sl->Bool
 |.val _ _=>false
 |_=>true
def FW(b:En)(j:Nat):Bool:=match b[j]? with
 |some (some a)=>a.RN
 |_=>false
section
def aw(h:H a=none):Same H (upd H a o):=λb u e=>by rwa[ai (ay e h)]
end
def Qn(d:Str->Option WM)(E:XK)(g:Gd)(c:Str):Prop:=∀a e b,d c=some a->Same g.H₀ b->E a e b
section
def Kb(rs:List R):Bool:=rs.all R.fr
end
noncomputable def lim:Nat:=1000000
def PB(a:List D)(b:Bool)(c:List Nat):R:=if D.Cw a then .new a true else if c.isEmpty then .new a b else .val (.lst a) b c
def nl(b c:Hp)(a:Addr):Prop:=b a=none/\Mu c a
def AO(g:Gd)(c:Hp)(v:V):R->Prop
 |.val d e _=>Is c (λa=>nl g.H₀ c a\/(e=false/\g.Ma a)) d v
 |.new h e=>∃a f,v=.ref a/\c a=some (.lst f)/\g.H₀ a=none/\IsAll c (λb=>b≠a/\(nl g.H₀ c b\/(e=false/\g.Ma b))) h f
 |.ze d=>Is c (nl g.H₀ c) d v
def Kc(b:Str->Option WM)(E:XK)(g:Gd)(Q:VK):Res R->Prop
 |.stuck=>False
 |.exc c=>Qn b E g c
 |.ok r=>∀v a,Same g.H₀ a->AO g a v r->Q v a
def nu(d:Str->Option WM)(n:Nat)(F:List D->Res R):Sp:=λa H Q E=>a.length=n/\∃b c,IsAll H c b a/\Kc d E (Py H c) Q (F b)
inductive Fl where
 |nx (env:En)|rt (r:R)|bk (env:En)|ct (env:En)|rm (r:R) (env:En)
section
def NI(a:En)(i:Nat):En:=match a[i]? with
 |some (some (.own b c))=>a.set i (some (.val (.lst b) c))
 |some (some (.Pn d))=>a.set i (some (.val d true))
 |some (some (.RH _))=>a.set i none
 |_=>a
def bv(a:En)(b:List Nat):En:=b.foldl NI a
def put(a:En)(i:Nat):R->En
 |.new c b=>a.set i (some (.own c b))
 |.val d b e=>(bv a e).set i (some (.val d b))
 |.ze d=>a.set i (some (.Pn d))
end
structure Src where
 xs:List D
 fr:Bool
 al:List Nat
section
variable{X:Cx}
def Kd(K:WK)(d:TE):TI:=λe H R=>d e H λx b=>∃a,x=.ref a/\(((∃c,SqL K b a c)/\R (yZ K a) b)\/((∃c,SqT K b a c)/\R (Ps K a) b))
def Hk(f:PE X l tl):PI X tg l (Kd X.K tl):=by
 intro n s r H R I h;refine bX (f n s r H _ I h) λv i ⟨x,m,c,g,t⟩=>?_;obtain⟨a,e,q⟩:=t;subst e;cases g;rcases q with⟨⟨u,d⟩,q⟩|⟨⟨u,d⟩,q⟩
 .obtain⟨j,w,p,y⟩:=c.list d;refine Vp p.isList ?_;refine⟨i.z,[i.z],_,_,m,rfl,c.kept (t':=i.toks) λb o e=>R8 _ e,oY a _,⟨_,Sn _ rfl,rfl,rfl⟩,λb k=>?_,q⟩;have e:b=i.z:=by simpa using k
  subst e;exact c.ou (R7 _) (c.aS.fresh (R7 _))
 .obtain⟨j,w,p,y⟩:=c.tuple d;refine wpAny_pyIter_tuple (show i.heap.IsTuple a j.toArray from p) ?_;refine⟨i.z,[i.z],_,_,m,rfl,c.kept (t':=i.toks) λb o e=>R8 _ e,um a _,⟨_,Sn _ rfl,rfl,rfl⟩,λb k=>?_,q⟩;have e:b=i.z:=by simpa using k
  subst e;exact c.ou (R7 _) (c.aS.fresh (R7 _))
end
theorem gB:∀(p:List (Str×NameKind))(q:List (Str×Addr)),(∀x∈p,x.2=.free->∃c,env.cells.lookup x.1=some c)->(∀y c,q.lookup y=some c->env.cells.lookup y=some c)->
 ∃s,(forIn p q λ(x:Str×NameKind)(r:List (Str×Addr))=>(do
  if(x.2==.free)=true then
   let c <- cellOf env x.1
   pure (ForInStep.yield ((x.1,c)::r))
  else pure (ForInStep.yield r):Sem (ForInStep (List (Str×Addr)))))=pure s/\(∀y c,s.lookup y=some c->env.cells.lookup y=some c)/\(∀x∈p,x.2=.free->∃c,s.lookup x.1=some c)/\(∀y c,q.lookup y=some c->∃a,s.lookup y=some a)
 |[],q,_,h=>⟨q,by simp,h,λ_ z=>absurd z (by simp),λy c e=>⟨c,e⟩⟩
 |(n,k)::r,q,g,h=>by
  by_cases i:k=.free
  .subst i;obtain⟨c,o⟩:=g (n,.free) (by simp) rfl;have j:cellOf env n=pure c:=by simp[cellOf,o]
   have w:∀y a,((n,c)::q).lookup y=some a->env.cells.lookup y=some a:=λy a e=>by
    rw[U8]at e;cases d:y==n with
    |true=>rw[d]at e;cases e;rwa[eq_of_beq d]
    |false=>rw[d]at e;exact h y a e
   obtain⟨s,u,v,l,f⟩:=gB r ((n,c)::q) (λx hx=>g x (by simp[hx])) w;have t:∃a,s.lookup n=some a:=f n c (by simp[U8]);refine⟨s,?_,v,λx hx b=>?_,λy a e=>?_⟩
   .rw[List.forIn_cons];simp only[U7,Vu,j,pure_bind];exact u
   .rcases Sq.mp hx with rfl|hx
    .exact t
    .exact l x hx b
   .by_cases d:y=n
    .rwa[d]
    .refine f y a ?_;have A:(y==n)=false:=by simpa using d
     rwa[U8,A]
  .obtain⟨s,u,v,l,f⟩:=gB r q (λx hx=>g x (by simp[hx])) h;refine⟨s,?_,v,λx hx b=>?_,f⟩
   .rw[List.forIn_cons];have m:(k==NameKind.free)=false:=by simpa using i
    simp only[m,Sy,TV,pure_bind];exact u
   .rcases Sq.mp hx with rfl|hx
    .exact absurd b i
    .exact l x hx b
def oN(h:∀x∈scope.names,x.2=.free->∃c,env.cells.lookup x.1=some c) :
 ∃b,closureFor scope env=pure b/\(∀y c,b.lookup y=some c->env.cells.lookup y=some c)/\(∀x∈scope.names,x.2=.free->∃c,b.lookup x.1=some c):=by
 obtain⟨b,d,f,a,_⟩:=gB scope.names [] h (λ_ _ e=>by simp at e);refine⟨b,?_,f,a⟩;unfold closureFor;refine Eq.trans ?_ (show((pure b:Sem (List (Str×Addr))) >>= λg=>pure g)=pure b by simp);rw[<- d]
 all_goals first
  |rfl
  |(congr 1;congr 1;funext x r;obtain⟨n,k⟩:=x;first|rfl|(dsimp only;split<;>simp_all))
theorem lh{f:Str->NameKind->NameKind}:∀(a:List (Str×NameKind))(y:Str),(a.map λx=>(x.1,f x.1 x.2)).lookup y=(a.lookup y).map (f y)
 |[],y=>rfl
 |(n,k)::r,y=>by
  rw[SD,U8,U8];cases h:y==n with
  |true=>rw[eq_of_beq h];rfl
  |false=>exact lh r y
def iC(a:Scope)(b:Env)(y:Str):(relabel a b).names.lookup y=(a.names.lookup y).map λk=>if(k==.free&&b.scope.kind==.function&&b.kindOf y==some .cell)=true then .cell else k:=by
 have e:(relabel a b).names=a.names.map λx=>(x.1,(λn k=>if(k==NameKind.free&&b.scope.kind==.function&&b.kindOf n==some .cell)=true then NameKind.cell else k) x.1 x.2):=by unfold relabel;refine SR λx _=>?_;obtain⟨n,k⟩:=x;dsimp only;split<;>rfl
 rw[e];exact lh (f:=λn k=>if(k==NameKind.free&&b.scope.kind==.function&&b.kindOf n==some .cell)=true then NameKind.cell else k) a.names y
def qA(h:scope.names.lookup y=some .free):(relabel scope env).names.lookup y=some .cell\/(relabel scope env).names.lookup y=some .free:=by
 rw[iC,h];simp only[Option.map_some];split
 .exact .inl rfl
 .exact .inr rfl
noncomputable def aV(X:Cx)(a:Scope)(N:List Str)(b:List (Str×Addr))(C:Addr)(s:WJ)(H:Hp)(ex:List Addr):Cx:={X with N:=N,s₀:=s,H₀:=H,env:=compEnvC a b C X.env,outer:=X.stack,ex:=ex,fn:=λ_=>false,pn:=[],xe:=λ_ _=>False}
section
def DF(I:L2.Inv X ag σ H s)(hkind:scope.kind=.function)(hcell:∀y∈scope.names,y.2≠.cell)(hcl:∀y c,cl.lookup y=some c->X.env.cells.lookup y=some c)(hhas:∀x∈scope.names,x.2=.free->∃c,cl.lookup x.1=some c)
 (hC:s.z<=C) (hex:∀b∈ex,jf X ag H b/\b<s.z):(aV X scope N cl C s H ex).Ok where
 mod:=I.ok.mod
 kind:=hkind
 glob:=I.ok.glob
 blt:=I.ok.blt
 above:=hC
 inj:=λx y c h1 h2=>I.ok.inj x y c (hcl x c h1) (hcl y c h2)
 has:=λy hy=>by
  have key:∀k,(relabel scope X.env).names.lookup y=some k->(k=.cell\/k=.free)->∃c,cl.lookup y=some c:=λk e hk=>by
   rw[iC]at e;cases q:scope.names.lookup y with
   |none=>rw[q]at e;cases e
   |some k0=>
    have hm:=Uv q;have h0:=hcell _ hm;have hf:k0=.free:=by
     rw[q]at e;simp only[Option.map_some,Option.some.injEq]at e;split at e
     .rename_i z;simp only[Up,U_]at z;exact z.1.1
     .rcases hk with hk|hk
      .exact absurd (e.trans hk) h0
      .exact e.trans hk
    exact hhas _ hm hf
  rcases hy with hy|hy
  .exact key _ hy (.inl rfl)
  .exact key _ hy (.inr rfl)
 Jt:=λ_ _ h=>by cases h
 hd:=I.ok.hd
 frames:=I.ok.frames
 aO:=.inl rfl
 Ng:=λb hb=>⟨SI (S8 (hex b hb).2 hC),λx c e=>(hex b hb).1.2.2.2.2.1 x c (hcl x c e)⟩
 bs:=λb o e=>I.bs b o e
 Cp:=SE I.ok.Cp I.sz
 vG:=λb o e hb=>by
  rcases(hex b hb).1.2.2.2.1 with z|z
  .exact I.ok.vG b o e z
  .exact absurd (S8 (Sr e) (SE I.ok.Cp z)) (U1 _)
 yQ:=λb hb hfs=>by
  rcases Sq.mp (I.oj b hfs)with z|z
  .exact(hex b hb).1.2.1 z
  .exact(hex b hb).1.2.2.1 z
 km:=I.stack
 Fj:=I.rp
 kt:=I.kt
structure MN(X:Cx) (c:Scope) (a:List Str) (b:List Nat):Prop where
 at':∀(k:Nat)(y:Str),a[k]?=some y->∃j:Nat,b[k]?=some j/\X.N[j]?=some y
 out:∀y∈a,X.env.kindOf y=some .cell\/X.env.kindOf y=some .free
 Qf:∀y∈a,c.names.lookup y=some .free
 len:b.length=a.length
noncomputable def jz(b:St)(a:List Nat):St:=a.map λj=>(b[j]?).join
def AQ(I:L2.Inv X ag σ H s)(hkind:scope.kind=.function)(hcell:∀y∈scope.names,y.2≠.cell)(hcl:∀y c,cl.lookup y=some c->X.env.cells.lookup y=some c)(hhas:∀x∈scope.names,x.2=.free->∃c,cl.lookup x.1=some c)
 (hC:s.z<=C) (hex:∀b∈ex,jf X ag H b/\b<s.z) (hc:MN X scope capN caps) (kp:∀b o,s.heap.get? b=some o->h4.get? b=some o) (ns:h4.Ns C m4) :
 L2.Inv (aV X scope (tN++capN) cl C s H ex) [] (List.replicate tN.length none++jz σ caps) H {s with heap:=h4,toks:=tk} where
 ok:=DF I hkind hcell hcl hhas hC hex
 os:=rfl
 bare:=I.bare
 base:=Un.kept kp
 loc:=by
  refine⟨m4,ns,λi y v e1 e2 e3=>?_⟩;by_cases hlt:i<tN.length
  .rw[Uj (by simpa using hlt),List.getElem?_replicate]at e2;rw[Sg hlt]at e2;cases e2
  .obtain⟨k,rfl⟩ : ∃k,i=tN.length+k:=⟨i-tN.length,by lia⟩;have e1:capN[k]?=some y:=by
    have e1:(tN++capN)[tN.length+k]?=some y:=e1
    rwa [T4 (by lia),VW]at e1
   have e2:(jz σ caps)[k]?=some (some v):=by
    rwa [T4 (by simp),List.length_replicate,VW]at e2
   obtain⟨j,ej,eN⟩:=hc.at' k y e1;have e4:σ[j]?=some (some v):=by
    unfold jz at e2;rw[Su,ej]at e2;have e2:(σ[j]?).join=some v:=by simpa using e2
    cases q:σ[j]? with
    |none=>rw[q]at e2;cases e2
    |some o=>rw[q]at e2;cases o with
     |none=>cases e2
     |some w=>cases e2;rfl
   have hm:=SB e1;obtain⟨m,hn,hl⟩:=I.loc;have hout:=hc.out y hm;obtain⟨u,r,l⟩:=hl j y v eN e4 (.inr hout);refine⟨u,r,.inr ⟨qA (hc.Qf y hm),?_⟩⟩;obtain⟨c,hcl2⟩:=hhas (y,.free) (Uv (hc.Qf y hm)) rfl;refine⟨c,hcl2,?_⟩;rcases l with⟨l,_⟩|⟨_,c',e5,z⟩
   .rcases hout with h|h<;>(rw[h]at l;cases l)
   .have:=hcl y c hcl2;rw[e5]at this;cases this;obtain⟨o,ho,hd⟩:=z;exact⟨o,kp _ o ho,hd⟩
 cell:=λy c e=>by obtain⟨v,o,ho,hd⟩:=I.cell y c (hcl y c e);exact⟨v,o,kp _ o ho,hd⟩
 free:=I.aS.fresh hC
 fJ:=λy c e=>I.fJ y c (hcl y c e)
 pin:=λp hp=>absurd (show p∈([]:List (Addr×Obj))from hp) (by simp)
 aS:=I.aS.kept kp
 len:=by simp[aV,jz,hc.len]
def xW(I:L2.Inv X ag σ H s)(c:X'=aV X scope N cl C s H ex)(d:s.z<=C)(hex:∀b∈ex,jf X ag H b/\b<s.z)
 (a:L2.Inv X' pl σ' H' s'):L2.Inv X ag σ H' s'/\jf X ag H' C:=by
 subst c;refine⟨I.Gp (ch:=ex) a.os a.base a.aS a.bare λb h=>?_,I.ou d a.free⟩;obtain⟨_,i,j,e,f,g⟩:=(hex b h).1;exact⟨e,i,f,g⟩
def ww(I:L2.Inv X ag σ H s)(a:jf X ag H C)(c:Heap.SameBut C s.heap h'):L2.Inv X ag σ H {s with heap:=h'}:=I.turned (t':=s.toks) (it:=C) (λb o d e=>(c.2 b d).trans e) a.1 a.2.1 a.2.2.2.1 a.2.2.2.2.1 a.2.2.2.2.2
end
section
def y9(X:Cx)(a:List Expr)(b:TT):Prop:=∀(e:List (Addr×Obj))(s:WJ)(d:St)(H:Hp)(Q:Bool->Hp->Prop),L2.Inv X e d H s->b d H Q->
 wpAny (model X.prog X.w) X.A (forIn a true λc r=>if r=true then do let ok <- isTrue c X.env (eval c X.env);pure (ForInStep.yield ok)else pure (ForInStep.yield r)) (TP X e d Q) X.xe s
def dw:y9 X [] (λ_ H Q=>Q true H):=λ_ _ a H Q I q=>wpAny_tests_nil ⟨H,I,q⟩
def lV(h:PT X c tt):y9 X [c] tt:=λa s b H Q I q=>wpAny_tests_one (h a s b H Q I q)
def xX(p:X'=aV X scope (tN++capN) cl C s3 H3 fp)(T:Turn X.prog X.w X.K tg J fp it tn)(q:X.calm=true)
 (I4:L2.Inv X' [] (List.replicate tN.length none++c) H3 s4) (br:X'.N.length=tN.length+c.length) (st4:tn 0 s4.heap) (hf:∀b∈fp,jf X' [] H3 b)
 (hg:PG X' tg gt) (ht:y9 X' ifs tt) (he:PE X' elt te)
   (W:Nat->Nat->List V->Hp->Prop) (Fin:List V->Hp->Prop) (w0:∃m,W 0 m [] H3)
   (turn:∀i m a H,W i m a H->H Dl=some (.lst a)/\((J.stop i H/\Fin a H)\/(J.go i H/\∀I H' o,J.zd i H I H'->o.length=tN.length->gt I (o++c) H' λt H1=>(∀j:Nat,tN.length<=j->t[j]?=(o++c)[j]?)/\tt t H1 λb H2=>if b=true then
     te t H2 λy h=>h Dl=some (.lst a)/\a.length<sizeLine/\∃f,f<m/\W (i+1) f (a++[y]) (upd h Dl (.lst (a++[y])))else ∃f,f<m/\W (i+1) f a H2)))
   (R:Result->WJ->Prop) (hR:∀σ' H' a B,L2.Inv X' [] σ' H' B->H' Dl=some (.lst a)->Fin a H'->R (.ok .next) B) :
   codeAny (model X.prog X.w) X.A (.compLoop (.ListComp elt [⟨tg,iter,ifs,0⟩] scope pos) 0 (.ref it) (.ref Dl) (compEnvC scope cl C X.env)) R s4:=by
  obtain⟨m0,w0⟩:=w0;have E:X'.A=X.A:=by rw[p];rfl
  have F:X'.prog=X.prog:=by rw[p];rfl
  have G:X'.w=X.w:=by rw[p];rfl
  have eK:X'.K=X.K:=by rw[p];rfl
  have eE:X'.env=compEnvC scope cl C X.env:=by rw[p];rfl
  have Z:X'.xe=λ_ _=>False:=by rw[p];rfl
  have eC:X'.calm=true:=by rwa[p]
  have g:∀{H':Hp},(∀b∈fp,H' b=none)->∀b∈fp,jf X' [] H' b:=λhn b hb=>⟨hn b hb,(hf b hb).2⟩;refine codeAny_loop rfl (λn s=>∃i o a H,L2.Inv X' [] (o++c) H s/\o.length=tN.length/\tn i s.heap/\(∀b∈fp,H b=none)/\W i n a H) ?_ m0 ⟨0,List.replicate tN.length none,[],H3,I4,by simp,st4,λb hb=>(hf b hb).1,w0⟩;rintro n s5 ⟨i,o,a,h,I5,lo,L,M,w5⟩;show wpAny _ X.A ((compTurn (.ListComp elt [⟨tg,iter,ifs,0⟩] scope pos) 0 (.ref it) (.ref Dl) (compEnvC scope cl C X.env)).onRaise (λx=>do noteFrame x (compEnvC scope cl C X.env);theTreesLotGoes x)) _ _ s5;refine wpAny_noted ?_;rw[compTurn_list];obtain⟨hD,alt⟩:=turn i n a h w5;rcases alt with⟨stop,fin⟩|⟨go,step⟩
  .refine KE (wpAny_standAt (KE (Ud (E▸T.done X' F G eK eC i [] s5 _ h _ I5 (g M) L stop) (λr s6 ⟨hr,I6⟩=>?_) λ_ _ z=>z)));subst hr;exact R5 (hR _ h a s6 I6 hD fin)
  .refine KE (wpAny_standAt (KE (Ud (E▸T.item X' F G eK eC i [] s5 _ h _ I5 (g M) L go) (λr s6 ⟨u,hr,h6⟩=>?_) λ_ _ z=>z)));subst hr;refine KE (Ud h6 (λ_ s7 ⟨I,H7,I7,r7,y7,D,fr7⟩=>?_) λ_ _ z=>z);have I7':=I7.pinned (g fr7) (T.obj _ _ D);have O:=hg _ s7 _ H7 I u _ I7' r7 (step I H7 o y7 lo);rw[F,G,E,eE,Z]at O;refine KE (Ud O (λ_ s8 ⟨k,H8,I8,shp,q8⟩=>?_) λ_ _ z=>z.elim);obtain⟨l,P,eσ⟩ : ∃l:St,l.length=tN.length/\k=l++c:=by
    have l8:k.length=tN.length+c.length:=I8.len.trans br;refine⟨k.take tN.length,by rw[TC];lia,?_⟩;have ed:k.drop tN.length=c:=by
     apply UY
     intro j;rw[List.getElem?_drop,shp (tN.length+j) (by lia),T4 (by lia),lo,VW]
    rw[<- ed,T2]
   subst eσ;have Q:=ht _ s8 _ H8 _ I8 q8;rw[F,G,E,eE,Z]at Q;refine KE (Ud Q (λok s9 ⟨H9,I9,q9⟩=>?_) λ_ _ z=>z.elim);have again:∀{B:WJ}{H':Hp},L2.Inv X' ([]++mz fp s7.heap) (l++c) H' B->L2.Inv X' [] (l++c) H' B/\tn (i+1) B.heap/\∀b∈fp,H' b=none:=λ{B H'} J'=>by refine⟨J'.kz,T.keep _ _ _ D λb hb ob e=>(J'.pin (b,ob) (SK _ (SK _ (gv hb e)))).1,λb hb=>?_⟩;obtain⟨ob,e,d⟩:=T.obj _ _ D b hb;exact(J'.pin (b,ob) (SK _ (SK _ (gv hb e)))).2.1
   cases ok with
   |false=>obtain⟨f,hm,w9⟩:=(show ∃f,f<n/\W (i+1) f a H9 from by simpa using q9);obtain⟨a1,a2,a3⟩:=again I9;exact R5 ⟨rfl,f,hm,i+1,l,a,H9,a1,P,a2,a3,w9⟩
   |true=>
    have q9:te (l++c) H9 λy h=>h Dl=some (.lst a)/\a.length<sizeLine/\∃f,f<n/\W (i+1) f (a++[y]) (upd h Dl (.lst (a++[y]))):=by simpa using q9
    have S:=he _ s9 _ H9 _ I9 q9;rw[F,G,E,eE,Z]at S;refine KE (KE (Ud S (λv s10 ⟨y,U,I10,ry,eD,hl,f,hm,w10⟩=>?_) λ_ _ z=>z.elim));have Y:=bN (X:=X') _ s10 _ U (.ref Dl) [y] (.ref Dl) [v] (λw H'=>w=.cj/\H'=upd U Dl (.lst (a++[y]))) I10 rfl (.cons ry .nil) ⟨Dl,a,y,rfl,rfl,eD,hl,rfl,rfl⟩;rw[F,G,E,Z]at Y;refine KE (Ud Y (λ_ s11 ⟨w,H11,I11,_,_,eH⟩=>?_) λ_ _ z=>z.elim);subst eH;obtain⟨a1,a2,a3⟩:=again I11;exact R5 (R5 ⟨rfl,f,hm,i+1,l,a++[y],_,a1,P,a2,a3,w10⟩)
end
structure b8(X:Cx) (a:Scope) (d:List Str) (b:List Str) (c:List Nat):Prop where
 kind:a.kind=.function
 Gu:∀y∈a.names,y.2≠.cell
 names:∀y∈a.names,y.2=.local->a.names.lookup y.1=some .local
 own:∀x∈d,a.names.lookup x=some .local
 free:∀y∈a.names,y.2=.free->X.env.kindOf y.1=some .cell\/X.env.kindOf y.1=some .free
 cap:MN X a b c
 nd:(d++b).Nodup
section
def ce(X:Cx)(q:Scope)(B:Expr)(t:List Str)(r:List Str)(s:List Nat)(g:Expr)(h:List Expr)(w:St)(Fin:Addr->List V->Hp->Prop)(J:It)(d:Hp):Prop:=
 ∀(c:Addr),d c=none->∀(u:List (Str×Addr))(C:Addr)(k:WJ)(v:List Addr),∃(x:TG)(l:TT)(z:TE)(W:Nat->Nat->List V->Hp->Prop),
  PG (aV X q (t++r) u C k (upd d c (.lst [])) v) B x/\y9 (aV X q (t++r) u C k (upd d c (.lst [])) v) h l/\PE (aV X q (t++r) u C k (upd d c (.lst [])) v) g z/\(∃m,W 0 m [] (upd d c (.lst [])))/\
  ∀i m a H,W i m a H->H c=some (.lst a)/\((J.stop i H/\Fin c a H)\/(J.go i H/\∀n A (o:St),J.zd i H n A->o.length=t.length->x n (o++jz w s) A λe D=>(∀j:Nat,t.length<=j->e[j]?=(o++jz w s)[j]?)/\l e D λb d=>if b=true then
   z e d λy p=>p c=some (.lst a)/\a.length<sizeLine/\∃f,f<m/\W (i+1) f (a++[y]) (upd p c (.lst (a++[y])))else ∃f,f<m/\W (i+1) f a d))
def pK{use:Option (WM->Sem Unit)}{Qv:WM->WJ->Prop}{Fin:Addr->List V->Hp->Prop}(hc:X.calm=true)(S:b8 X scope tN capN caps)(I:L2.Inv X ag σ H s)(hi:PI X tg iter wi)
 (h:wi σ H (ce X scope tg tN capN caps elt ifs σ Fin))
 (hu:∀(K C:Addr)(j:List V)(H':Hp)(n:WJ),L2.Inv X ag σ H' n->jf X ag H' C->H' K=some (.lst j)->Fin K j H'->(∃m,n.heap.Ns C m)->compPost (model X.prog X.w) X.A X.xe use Qv (.ref K) C (.ok .next) n)
 (hs:autoParam (∀x,foldedSetIterable iter X.env x=pure x) af) :
 wX X (comprehension (.ListComp elt [⟨tg,iter,ifs,0⟩] scope pos) scope X.env (firstIterPos [⟨tg,iter,ifs,0⟩] pos) (newList []) false (eval iter X.env) use) Qv X.xe s:=by
 obtain⟨cl,L,q,r⟩:=oN (scope:=scope) (env:=X.env) λy M hf=>I.ok.has y.1 (S.free y M hf);refine wpAny_comprehension_free rfl hs L S.kind S.names (bX (hi ag s σ H _ I h) λv s1 h1=>bX h1 λitv s2 h2=>?_);obtain⟨it,fp,tn,J,k,rfl,R,T,t,U,B⟩:=h2;refine Tq (wpAny_newFunctionEnv S.Gu (by intro y M;simp at M) (λa d g=>?_) S.kind);dsimp only at d g ⊢;have hD:k s2.z=none:=R.aS.fresh (R7 _);have G:L2.Inv X ag σ (upd k s2.z (.lst [])) { s2 with heap:=s2.heap.push { cls:=.type "list",dict:=none,data:=.seq ([]:List WM).toArray } }:=R.laid (t':=s2.toks) (λb u e=>R8 _ e) (R7 _) ⟨Sw _,[],0,.nil,Sn _ rfl⟩;generalize D:({ s2 with heap:=s2.heap.push { cls:=.type "list",dict:=none,data:=.seq ([]:List WM).toArray } }:WJ)=i at G;have Y:s2.heap.push { cls:=.type "list",dict:=none,data:=.seq ([]:List WM).toArray }=i.heap:=by rw[<- D]
 rw[Y]at d g ⊢;have kp:∀b o,i.heap.get? b=some o->a.get? b=some o:=λb o e=>g.extBut b o (SI (Sr e)) (R8 _ e);have E:∀b o,s2.heap.get? b=some o->i.heap.get? b=some o:=λb o e=>by rw[<- Y];exact R8 _ e
 have hex:∀b∈fp,jf X ag (upd k s2.z (.lst [])) b/\b<i.z:=λb hb=>by obtain⟨o,Z,_⟩:=T.obj 0 _ t b hb;have l:b<s2.z:=Sr Z;refine⟨⟨?_,(U b hb).2⟩,Sr (E b o Z)⟩;rw[ai (SI l)];exact(U b hb).1
 have es:({s2 with heap:=a,toks:=s2.toks+([]:List (Str×WM)).length}:WJ)={i with heap:=a,toks:=s2.toks+([]:List (Str×WM)).length}:=by rw[<- D]
 have I4:L2.Inv (aV X scope (tN++capN) cl i.z i (upd k s2.z (.lst [])) fp) [] (List.replicate tN.length none++jz σ caps) (upd k s2.z (.lst [])) {i with heap:=a,toks:=s2.toks+([]:List (Str×WM)).length}:=AQ G S.kind S.Gu q r (R7 _) hex S.cap kp d;obtain⟨gt,tt,te,W,hg,ht,he,w0,turn⟩:=B s2.z hD cl i.z i fp;have F:tn 0 a:=T.keep 0 _ _ t λb hb o e=>kp b o (E b o e);have f4:∀b∈fp,jf (aV X scope (tN++capN) cl i.z i (upd k s2.z (.lst [])) fp) [] (upd k s2.z (.lst [])) b:=λb hb=>by
  obtain⟨f,l⟩:=hex b hb;refine⟨f.1,SI l,λN=>?_,.inl hb,λy c e=>f.2.2.2.2.1 y c (q y c e),λp hp=>absurd (show p∈([]:List (Addr×Obj))from hp) (by simp)⟩;rcases Sq.mp (G.oj b N)with z|z
  .exact f.2.1 z
  .exact f.2.2.1 z
 have loop:codeAny (model X.prog X.w) X.A (.compLoop (.ListComp elt [⟨tg,iter,ifs,0⟩] scope pos) 0 (.ref it) (.ref s2.z) (compEnvC scope cl i.z X.env)) (compPost (model X.prog X.w) X.A X.xe use Qv (.ref s2.z) i.z)
  {i with heap:=a,toks:=s2.toks+([]:List (Str×WM)).length}:=by
  refine xX rfl T hc I4 (by show(tN++capN).length=_;simp[jz,S.cap.len]) F f4 hg ht he W (Fin s2.z) w0 turn _ λσ' H' j n I' O P=>?_;obtain⟨Io,fo⟩:=xW G rfl (R7 _) hex I';obtain⟨m',Q,_⟩:=I'.loc;exact hu _ _ j H' n Io fo O P ⟨m',Q⟩
 rw[es];exact codeAny_compStart_list loop (T.self _ 0 _ _ _ F loop)
def AR(d:X.calm=true)(S:b8 X scope tN capN caps)(I:L2.Inv X ag σ H s)(e:PI X tg iter wi)(h:wi σ H (ce X scope tg tN capN caps elt ifs σ λa _ l=>Q (.ref a) l))
 (n:autoParam (∀x,foldedSetIterable iter X.env x=pure x) af):wX X (eval (.ListComp elt [⟨tg,iter,ifs,0⟩] scope pos) X.env) (EP X ag σ Q) X.xe s:=by
 rw[eval_ListComp];refine pK (use:=none) d S I e h (λa C f l j g fo k b c=>?_) n;obtain⟨m,c⟩:=c;exact⟨m,c,λo i=>⟨.ref a,l,ww g fo i,rfl,b⟩⟩
def AS{D:Ends}{i:Nat}(p:X.calm=true)(S:b8 X scope tN capN caps)(q:X.N.Nodup)(c:X.N[i]?=some y)(o:X.env.scope.names.lookup y=some .local)
 (d:swapsWith (.ListComp elt [⟨tg,iter,ifs,0⟩] scope pos) (some (.Name y py)) spos.line X.env=pure true) (I:L2.Inv X ag σ H s) (r:PI X tg iter wi)
 (h:wi σ H (ce X scope tg tN capN caps elt ifs σ λb _ G=>D.nx (σ.set i (some (.ref b))) G)) (J:autoParam (∀x,foldedSetIterable iter X.env x=pure x) af) :
 wX X (exec (.Assign [.Name y py] (.ListComp elt [⟨tg,iter,ifs,0⟩] scope pos) spos) X.env) (SP X ag D) X.xe s:=by
 rw[exec_Assign_Name_used _ _ _ _ d];refine KE (wpAny_standAt (KE ?_));show wpAny _ X.A (do let _ <- comprehension (.ListComp elt [⟨tg,iter,ifs,0⟩] scope pos) scope X.env _ (newList []) false (eval iter X.env) (some (assign (.Name y py) X.env))) _ _ s;refine KE (Ud (pK (use:=some (assign (.Name y py) X.env)) (Qv:=λ_ f=>SP X ag D .next f) p S I r h (λb C t G f u fo F g j=>?_) J) (λ_ f w=>R5 (R5 w)) λ_ _ e=>e);obtain⟨m,j⟩:=j;show wpAny _ X.A (assign (.Name y py) X.env (.ref b)) _ _ _;refine wpAny_assign_Name (oX (v:=.ref b) u q c (.inl o) rfl (λB k ⟨a,E,K⟩=>?_) (.inr o));have l:C≠a:=by
  rcases K with z|z
  .rw[z];exact fo.2.1
  .exact Tp (fo.2.2.2.2.1 y a z)
 refine⟨m,j.sameBut E l,λL n=>?_⟩;exact⟨_,G,ww k fo n,g⟩
end
noncomputable def Res.Qc{a:Type}:Res a->Res a
 |.exc _=>.stuck
 |r=>r
def NJ(a:En)(j:Nat):Option Sl:=match a[j]? with
 |some (some (.val d b))=>some (.val d b)
 |some (some (.own c b))=>some (.val (.lst c) b)
 |some (some (.Pn d))=>some (.val d true)
 |_=>none
def Ke(b:En)(n:Nat)(a:List Nat):En:=List.replicate n none++a.map (NJ b)
def wx(mk:D->Option En)(a:En->Res Bool)(c:En->Res R):List D->Res (List R)
 |[]=>.ok []
 |x::d=>match mk x with
  |none=>.stuck
  |some e=>(a e).bind λb=>if b then(c e).bind λr=>(wx mk a c d).bind λrs=>.ok (r::rs)else wx mk a c d
def Kf(n:Nat)(f:List Nat)(b:En->Res Src)(c:D->Bool->En->Option En)(a:En->Res Bool)(e:En->Res R):En->Res R:=λg=>(b g).bind λs=>if s.xs.length<=lim then
 (wx (λd=>c d s.fr (Ke g n f)) a e s.xs).Qc.bind λrs=>.ok (PB (rs.map R.d) (Kb rs) (s.al++f.filter (FW g)))else .stuck
noncomputable def iD(X:Cx)(e:Scope)(i:Expr)(j:List Str)(f:List Str)(g:List Nat)(a:Expr)(b:List Expr)(c:TI):TE:=λh H Q=>c h H (ce X e i j f g a b h λd _ k=>Q (.ref d) k)
def AT(N:List Str)(a:List D):En:=a.map (λd=>some (.val d false))++List.replicate (N.length-a.length) none
def Kg:Res Fl->Res R
 |.ok (.nx _)=>.ok (.val .cj true [])
 |.ok (.rt r)=>.ok r
 |.ok _=>.stuck
 |.exc c=>.exc c
 |.stuck=>.stuck
def NL(N:List Str)(a:En->Res Fl)(b:List D):Res R:=Kg (a (AT N b))
def Kh:fg rE X E:=λ_ _ _ _ _ _ _ h=>h.elim
section
def DG:J0 X (λx lo d H Q=>∃a z,x=.ref a/\SqT X.K H a z/\(HT.sIx z.length 0 lo=0/\HT.sIx z.length z.length d=z.length)/\Q x H):=by
 rintro B s C H x v u w lo d k Q I l A D n⟨a,z,rfl,o,j,q⟩;cases l;obtain⟨y,r,b,E⟩:=I.tuple o;have p:y.toArray.size=z.length:=by rw[Ss];exact r.length.symm
 refine⟨"tuple",_,TR.lookup,b.typeIs,?_⟩;obtain⟨os,e,f,t⟩:=id A;have g:s.TypeIs (.ref k) "slice":=⟨os,e,f⟩;unfold getItem
 try with_reducible refine TH ?_
 first|refine KE (R5 ?_)|skip
 refine KE (wpAny_sequenceKey b.typeIs (by decide) ?_);refine KE (T6 (name:=Str.ofString "__getitem__") b.typeIs TR
  (Tv TR b.typeIs entry_tuple_getitem ?_ (args_tuple_getitem _ _)))
 show wpAny _ _ (Builtin.Tuple.tupleItemsOf (.ref a) >>= _) _ _ s;refine KE (tupleItemsOf_ b ?_);refine KE (Vm g ?_);rw[Sg (by decide)];refine KE (HT.sliceApplied_gen A D n ?_);have c:((((HT.sIx y.toArray.size 0 lo:Nat):Int)==0&&(1:Int)==1&&(HT.sIx y.toArray.size y.toArray.size d-HT.sIx y.toArray.size 0 lo)==y.toArray.size)=true):=by rw[p,j.1,j.2];simp
 show wpAny _ _ (if(((HT.sIx y.toArray.size 0 lo:Nat):Int)==0&&(1:Int)==1&&(HT.sIx y.toArray.size y.toArray.size d-HT.sIx y.toArray.size 0 lo)==y.toArray.size)=true then _ else _) _ _ s;rw[Sg c];have i:EP X B C Q (.ref a) s:=⟨.ref a,H,I,rfl,q⟩;refine KE (m:=Builtin.Tuple.tupleIsExact (.ref a)) ?_;unfold Builtin.Tuple.tupleIsExact;refine KE (Vm b.typeIs ?_);refine R5 ?_;rw[Sg (by decide)];exact KE (V2 (R5 ⟨_,rfl,R5 i⟩))
end
section
def sW{c:Type}(b:List c)(lo a:Option Int):List c:=(b.drop (HT.sIx b.length 0 lo)).take (HT.sIx b.length b.length a-HT.sIx b.length 0 lo)
def IsAll.cut(h:IsAll H m ds vs)(lo a:Option Int):IsAll H m (sW ds lo a) (fh vs lo a):=by unfold sW fh;rw[h.length];exact(h.drop _).take _
noncomputable def D.ty:D->String
 |.cj=>"NoneType" |.bl _=>"bool" |.int _=>"int" |.str _=>"str" |.tup _=>"tuple" |.lst _=>"list" |.FD _ _=>"dict"
def NM(K:WK)(H:Hp)(x:V)(t:WM):Prop:=kY K H x t\/(t=.type "dict"/\∃a,x=.ref a/\J3 H a)
def PD(T:String)(d:D):Bool:=match d with
 |.cj=>T=="NoneType"
 |.bl _=>T=="bool" || T=="int"
 |.int _=>T=="int"
 |.str _=>T=="str"
 |.tup _=>T=="tuple"
 |.lst _=>T=="list"
 |.FD _ _=>T=="dict"
def Hl(T:String):Prop:=∀(K:WK)(d:D),kitOne K (.type d.ty) (.type T)=some (PD T d)
def AU:Hl "int":=λK d=>by cases d<;>kernel_rfl
def xY:Hl "bool":=λK d=>by cases d<;>kernel_rfl
def AV:bJ X (.builtin "isinstance") (λi H Q=>∃x T t b,i=[x,.ty T]/\NM X.K H x t/\kitOne X.K t (.type T)=some b/\Q (.bl b) H):=by
 rintro j s k H i l Q I r⟨x,T,t,b,rfl,ty,e,q⟩;obtain⟨u,c,rfl,ru,d⟩:=rS r;obtain rfl:c=Value.type T:=d;rcases ty with ty|⟨rfl,a,rfl,hd⟩
 .exact xA I ru ty e λg=>⟨.bl b,H,I.tok g,rfl,q⟩
 .obtain rfl:u=Value.ref a:=ru;obtain⟨f,_⟩:=qh I hd;exact Ub Ww I.jN f e (λz=>nomatch z) λg=>⟨.bl b,H,I.tok g,rfl,q⟩
end
def MX(K:WK)(a:Addr):It:=⟨λi H=>∃b x,SqL K H a b/\b[i]?=some x,λi H y c=>∃p x,H p=none/\y=.ref p/\c=upd H p (.tup [.int (i:Nat),x])/\∀b,SqL K H a b->b[i]?=some x,λi H=>∃b,SqL K H a b/\b.length<=i⟩
def xZ{P:WL}{w:World}{K:WK}(a it e:Addr)(hei:e≠it):Turn P w K (.Tuple es k pos) (MX K a) [e,it] e (λi h=>(∃old,IsEnum h e it i old)/\h.IsListIter it a i) where
 mem:=by simp
 obj:=λi h st b hb=>by
  obtain⟨⟨old,he⟩,o,ho,c,d⟩:=st;rcases Sq.mp hb with rfl|hb
  .exact⟨_,he,λv z=>by cases z⟩
  .have:b=it:=by simpa using hb
   subst this;exact⟨o,ho,λv z=>by rw[d]at z;cases z⟩
 keep:=λi h h' st kk=>by obtain⟨⟨old,he⟩,hl⟩:=st;exact⟨⟨old,kk e (by simp) _ he⟩,hl.at λo q=>kk it (by simp) o q⟩
 item:=by
  intro X hP hw hK hc i ag s σ H E I hf st hg;subst hP hw hK;obtain⟨xs,x,hq,hx⟩:=hg;obtain⟨⟨old,he⟩,hl⟩:=st;obtain⟨its,rv,p,hz⟩:=I.list hq;obtain⟨u,hu,ru⟩:=rv.get hx;have fe:=hf e (by simp);have fi:=hf it (by simp);have hai:a≠it:=by intro z;obtain⟨o1,e1,c1,_⟩:=p.isList;obtain⟨o2,e2,c2,_⟩:=hl;rw[z,e2]at e1;cases e1;rw[c2]at c1;injection c1 with z;exact absurd z (by decide)
  have hae:a≠e:=by intro z;obtain⟨o1,e1,c1,_⟩:=p.isList;rw[z,he]at e1;cases e1;injection c1 with z;exact absurd z (by decide)
  have hh:X.A.in1.handled=none:=I.ok.hd hc;have hil:i<its.length:=(Si.mp hu).1;refine wpAny_pyNext_enum_itemD (Draws.list hh it a hai its.toArray) he ⟨hl,p.isList⟩ (by simpa using hil) hei (by simp;exact⟨hei,Tp hae⟩) λx' h' tk hx' ho hs' hT hsz hk=>?_;have ex:x'=u:=by
   have:its[i]?=some x':=by simpa using hx'
   rw[hu]at this;exact(Th this).symm
  subst ex;refine⟨_,rfl,wpAny_letOwnedTupleGo_enum ho λh'' he'' hs''=>?_⟩;have keep2:∀b o,b≠e->b≠it->s.heap.get? b=some o->h''.get? b=some o:=λb o n1 n2 q=>(hs''.2 b n1).trans (hk b o n1 n2 q);have hTe:s.z≠e:=Vk (Sr he);have hT'':h''.get? s.z=some { cls:=.type "tuple",data:=.seq #[.int i tk,x'] }:=(hs''.2 _ hTe).trans hT;have I1:L2.Inv X ag σ (upd H s.z (.tup [.int (i:Nat),x])) {s with heap:=h'',toks:=tk+1}:=by
   refine I.step (g':=s.gens) (d':=s.drawn) (ch:=[e,it]) (λb hb=>?_) (λb o _ _ hn q _=>keep2 b o (λz=>hn (by simp[z])) (λz=>hn (by simp[z])) q)
    (λb o _ _ hn q _=>⟨o.slots,keep2 b o (λz=>hn (by simp[z])) (λz=>hn (by simp[z])) q⟩) (λb o _ q hH=>by rwa[ai (SI (Sr q))])
    (λb o hn q=>⟨o,keep2 b o (λz=>hn (by simp[z])) (λz=>hn (by simp[z])) q⟩) (λb ys q=>by rwa[ai (ay q (I.aS.fresh (R7 _)))])
    (λb o' u' q=>by rwa[ai (ay q (I.aS.fresh (R7 _)))]) (λb ps q=>⟨#[],by rw[ai (ay q (I.aS.fresh (R7 _)))];simp[q]⟩) (λm hm=>?_) (λb u' q=>?_) I.bare
   .rcases Sq.mp hb with rfl|hb
    .exact⟨fe.2.2.2.1,fe.2.1,fe.2.2.2.2.1,fe.2.2.2.2.2⟩
    .have:b=it:=by simpa using hb
     subst this;exact⟨fi.2.2.2.1,fi.2.1,fi.2.2.2.2.1,fi.2.2.2.2.2⟩
   .obtain⟨o,es',ep,ho',r⟩:=hm;exact⟨o,es',ep,keep2 _ o (Tp fe.2.1) (Tp fi.2.1) ho',r⟩
   .by_cases hb:b=s.z
    .subst hb;rw[ac]at q;cases q;refine⟨by show 2<=sizeLine;decide,[.int i tk,x'],.cons ⟨tk,rfl⟩ (.cons ru .nil),⟨_,hT'',rfl,0,rfl⟩⟩
    .rw[ai hb]at q;refine(I.aS b u' q).stay (λc v hc' q'=>keep2 c v ?_ ?_ q') (λc r=>by rwa[ai (ay r (I.aS.fresh (R7 _)))]) λc ys r=>by rwa[ai (ay r (I.aS.fresh (R7 _)))]
     .rcases hc' with z|z
      .rw[z];exact ay q fe.1
      .exact ay z fe.1
     .rcases hc' with z|z
      .rw[z];exact ay q fi.1
      .exact ay z fi.1
  refine⟨.ref s.z,_,I1,rfl,⟨_,x,I.aS.fresh (R7 _),rfl,rfl,λys hy=>by rwa[I.uc hy hq]⟩,⟨⟨_,by simpa using he''⟩,?_⟩,λb hb=>?_⟩
  .obtain⟨o,q,r⟩:=hs'.1;exact⟨o,(hs''.2 it (Tp hei)).trans q,r⟩
  .rcases Sq.mp hb with rfl|hb
   .rw[ai (SI (Sr he))];exact fe.1
   .have:b=it:=by simpa using hb
    subst this;obtain⟨o,q,_⟩:=hl;rw[ai (SI (Sr q))];exact fi.1
 done:=by
  intro X hP hw hK hc i ag s σ H E I hf st hg;subst hP hw hK;obtain⟨xs,hq,hx⟩:=hg;obtain⟨⟨old,he⟩,hl⟩:=st;obtain⟨its,rv,p,hz⟩:=I.list hq;have fi:=hf it (by simp);have hai:a≠it:=by intro z;obtain⟨o1,e1,c1,_⟩:=p.isList;obtain⟨o2,e2,c2,_⟩:=hl;rw[z,e2]at e1;cases e1;rw[c2]at c1;injection c1 with z;exact absurd z (by decide)
  have hh:X.A.in1.handled=none:=I.ok.hd hc;have hln:=rv.length;have Dr:Draws X.prog X.w X.A.in1 it [it,a] 0 (λ_ _=>True) (λ_ h=>h.IsListIter it a i/\h.IsList a its.toArray):=
   { live:=λ_ _ st=>let ⟨o,ho,_⟩:=st.1;⟨o,ho⟩
     frame:=λ_ _ _ st hk=>⟨st.1.at λo e=>hk it (by simp) o e,st.2.at λo e=>hk a (by simp) o e⟩
     item:=λi s Q E hi=>absurd hi (by lia)
     done:=λs Q E st hE=>wpAny_nextOf_list_end hh st.1 st.2 (by simp;lia) hE }
  exact wpAny_pyNext_enum_endD Dr he ⟨hl,p.isList⟩ λh' eb=>⟨rfl,I.turned (t':=s.toks) (λb o hb e=>eb b o hb e) fi.1 fi.2.1 fi.2.2.2.1 fi.2.2.2.2.1 fi.2.2.2.2.2⟩
 self:=λA i s Q E st h=>by obtain⟨⟨old,he⟩,_⟩:=st;exact wpAny_pyIter_enum he h
section
def wy(K:WK)(ta:TA):TI:=λc H R=>ta c H λd b=>∃a e,d=[.ref a]/\SqL K b a e/\R (MX K a) b
def wz{l:Expr}(f:Gl X "enumerate") (v:X.mg "enumerate"=none) (w:PA X [l] ta) (x:autoParam (starEach [l] X.env=[(false,eval l X.env)]) av):PI X (.Tuple es k Ci) (.Call (.Name "enumerate" p) [l] [] pos) (wy X.K ta):=by
 intro o s t H R I h;refine Call_ (mo I f v (by decide +kernel:bootBuiltins "enumerate"=some (.type "enumerate")) (Vl (bX (w pos o s t H _ I h) λF n ⟨G,u,c,g,y⟩=>?_) x rfl));obtain⟨a,J,e,i,q⟩:=y;subst e;cases g with
 |cons r z=>
  cases z;cases r;obtain⟨A,L,B,M⟩:=c.list i;refine call_enumerate_list B.isList λC d j D E=>?_;have m:L2.Inv X o t u {n with heap:=C}:=c.kept (t':=n.toks) E;refine wpAny_pyIter_enum d ?_;refine⟨n.z+1,[n.z+1,n.z],_,_,u,rfl,m,xZ a n.z (n.z+1) (Nat.succ_ne_self _),⟨⟨_,by simpa using d⟩,j⟩,λb hb=>?_,q⟩;rcases Sq.mp hb with rfl|hb
  .exact c.ou (Wy _) (c.aS.fresh (Wy _))
  .have e:b=n.z:=by simpa using hb
   subst e;exact c.ou (R7 _) (c.aS.fresh (R7 _))
end
noncomputable def PF(osc:Scope)(N:List Str)(scope:Scope)(c a:List Str)(b:List Nat):Bool:=
 (scope.kind==.function)&&scope.names.all (λy=>y.2 != .cell)&&scope.names.all (λy=>y.2 != .local || scope.names.lookup y.1==some .local)&&c.all (λx=>scope.names.lookup x==some .local) &&
 scope.names.all (λy=>y.2 != .free ||(osc.names.lookup y.1==some .cell || osc.names.lookup y.1==some .free))&&(a.zip b).all (λp=>N[p.2]?==some p.1)&&(b.length==a.length) &&
 a.all (λy=>osc.names.lookup y==some .cell || osc.names.lookup y==some .free)&&a.all (λy=>scope.names.lookup y==some .free)&&decide (c++a).Nodup
def b8.of(h1:X.env.scope=osc)(t:X.N=N)(s:PF osc N scope tN r caps=true):b8 X scope tN r caps:=by
 unfold PF at s;simp only[Up,WF,Bool.or_eq_true,U_,bne_iff_ne,Uw,ne_eq]at s;obtain⟨⟨⟨⟨⟨⟨⟨⟨⟨d,f⟩,g⟩,h⟩,i⟩,j⟩,l⟩,m⟩,n⟩,b⟩:=s;subst h1 t;refine⟨d,f,λy c o=>(g y c).resolve_left λz=>z o,h,λy c p=>(i y c).resolve_left λz=>z p,⟨λk y e=>?_,m,n,l⟩,b⟩;have q:k<r.length:=(Si.mp e).1;have a:k<caps.length:=by lia
 refine⟨caps[k],by simp[a],?_⟩;have u:(y,caps[k])∈r.zip caps:=by
  have:(r.zip caps)[k]?=some (y,caps[k]):=by rw[Vy];exact⟨e,by simp[a]⟩
  exact SB this
 exact j _ u
structure Fn(K:WK) (b:Str->Option WM) (x:Str) (st:Stmt) (c:List Str) (f:Addr) (a:FuncData):Prop where
 fu:CA K x x st f a
 bi:Binds K a c []
 gl:b x=some (.ref f)
def MY(F:List D->Res R):Sp:=λb H Q _=>b.length=1/\∃c d r,IsAll H d c b/\F c=.ok r/\∀v a,Same H a->AO (Py H d) a v r->Q v a
theorem nv:∀a:List Int,IsAll H m (a.map D.int) (a.map V.int)
 |[]=>rfl
 |n::r=>⟨.int n,r.map V.int,rfl,rfl,nv r⟩
def Hm(d:∀i:List Int,i.length<=63->∃f j,F [.lst (i.map .int)]=.ok (.val (.bl true) f j))(H:Hp)(a:Addr)(i:List Int)(g:i.length<=63)(c:∃o,H a=some (.bv o (.lst (i.map V.int)))) :
 MY F [.ref a] H (λv _=>v=.bl true) λ_ _ _=>False:=by
 obtain⟨f,j,e⟩:=d i g;obtain⟨o,c⟩:=c;exact⟨rfl,[.lst (i.map .int)],λb=>b=a,_,⟨_,[],rfl,⟨a,i.map V.int,rfl,.inr ⟨o,c,rfl⟩,nv i⟩,rfl⟩,e,λv k _ h=>h⟩
section
variable{P:WL}{w:World}{K:WK}{j:Str->Option WM}{i:Heap}
def cB.top(h:cB P w K j i CX k f fd ps (nu j 1 F)):cB P w K j i CX k f fd ps (MY F):=h.imp λg H Q E ⟨a,b,c,r,d,e,q⟩=>⟨a,b,c,d,by rwa[e]⟩
end
section
variable{P:WL}{w:World}
def Ki:fg (xH P w) X E0:=λ_ _ _ _ _ _ _ h=>by obtain⟨_,_,_,_,_,_,_,_,_,_,_,_,_,_,_,z⟩:=h;exact z.elim
end
def Ho(h:xH P w l H s (λ_ _ _=>False) e s'):False:=by obtain⟨_,_,_,_,_,_,_,_,_,_,_,_,_,_,_,z⟩:=h;exact z
end L3
namespace L3
open L2
section
variable{X:Cx}
noncomputable def AW(neg:Bool):R2:=λx y H Q=>∃a o,y=.ref a/\FQ H a x o/\Q (.bl (if neg then !o.isSome else o.isSome)) H
def i_(e:X.A.units+64<cLine):lC X (compareOp .NotIn) (AW true):=by rintro i s j H x y v u Q I b c⟨a,o,rfl,g,q⟩;cases c;exact z_ (by lia) I g b λf d=>⟨.bl _,H,d,rfl,q⟩
end
def getD:List DK->List D->DK->Option D
 |k'::a,d::b,k=>if k'=k then some d else getD a b k
 |_,_,_=>none
def x_(t:TupsIn H vs its):∀x∈its,H x.2=some (.tup ((iK x.1).map kV)):=by
 unfold TupsIn at t;induction t with
 |nil=>exact λx hx=>nomatch hx
 |cons q _ a=>
  intro x hx;rcases Sq.mp hx with rfl|hx
  .exact q.2
  .exact a x hx
noncomputable abbrev NN:=Int×Int×Int
noncomputable def dd(l:List Int)(x:Int):List Int:=if x∈l then l else l++[x]
def Kj(a:List Int):List Int:=a.foldl dd []
def g1(a:List NN):List Int:=Kj (a.map (·.1))
def g2(a:List NN)(x:Int):List Int:=Kj ((a.filter λt=>decide (t.1=x)).map (·.2.1))
theorem jA:∀(k:List Int),IsAll H m (k.map .int) (k.map .int)
 |[]=>rfl
 |i::k=>⟨.int i,_,rfl,rfl,jA k⟩
end L3
namespace L3
open L2
section
def wB(a b:Str):Prop:=0<b.length/\a.length<=100000/\(Txt.split a b).length<=100000/\(Builtin.Str.partsBetween a (Builtin.Str.occurrences a b 0 a.length (a.length+1)) b.length).length<=100000
instance (a b:Str):Decidable (wB a b):=by unfold wB;infer_instance
end
section
def cI{a:List (bc×V)}(h:cp a k=none):bG a k y=a++[(k,y)]:=by unfold bG;rw[gg,h,Sj (by simp)]
end
noncomputable abbrev IP:=Int×Int
noncomputable def dp(l:List IP)(x:IP):List IP:=if x∈l then l else l++[x]
def h1(a:List NN):List IP:=(a.map λt=>(t.1,t.2.1)).foldl dp []
end L3
namespace L2
open PySem.Calls
section
def yc:bJ X (.builtin "len") (λk H Q=>∃(d:Addr)(i:List (bc×V))(u:HO),k=[.ref d]/\(u=.dK i\/(u=.dT []/\i=[]))/\Rd H d u/\i.length<=sizeLine/\Q (.int i.length) H):=by
 rintro m s n H k o Q I r⟨d,i,u,rfl,f,b,l,q⟩;obtain⟨w,rfl,g⟩:=eB r;cases g;have e:=b.ok I.aS;have c:(d==sysModules)=false/\∃j,KV i j/\s.heap.DictOf (aH X.prog X.w) d j:=by
  rcases f with rfl|⟨rfl,rfl⟩
  .obtain⟨z,hd,j,a,dd⟩:=e;exact⟨hd,j,a,dd⟩
  .obtain⟨hd,dd⟩:=mM e;exact⟨hd,[],.nil,dd⟩
 obtain⟨hd,j,a,dd⟩:=c;refine call_len_dict hd dd (by rw[<- a.length];rw[SQ]at l;lia) ?_;exact⟨.int i.length,H,I.tok _,⟨_,by rw[a.length]⟩,q⟩
end
end L2
namespace L3
open L2
def Hq{K KK:WK}{m:Str->Option WM}{x:Str}{st:Stmt}{i:List Str}{f:Addr}{n:WM}{o d:Option Addr}{j:Array (Option WM)}{kV b e a ct:WM}(U:jh K KK)
 (l:K.lookup f=some ⟨n,o,.func (fnOf x x (dt st) (cE st) (aC st) .none kV b e d a ct),j⟩) (c:codeIn K a x=true) (g:m x=some (.ref f))
 (h:∀(kV b e:WM)(d:Option Addr)(a ct:WM)(k:List WM),k.length=i.length->bindArgs (fnOf x x (dt st) (cE st) (aC st) .none kV b e d a ct) ⟨k,[]⟩=pure (i.zip k)) :
 Fn KK m x st i f (fnOf x x (dt st) (cE st) (aC st) .none kV b e d a ct):=
 have F:CA KK x x st f _:=z4 (U.look _ _ l (λ_ _ z=>nomatch z)) (U.code c) (U.keep l)
 ⟨F,F.binds h,g⟩
end L3
namespace Pz
section
variable{κ α:Type}[DecidableEq κ]
noncomputable abbrev MD(κ α:Type):=List (κ×List α)
def MD.get(d:MD κ α)(k:κ):List α:=((d.find? λx=>decide (x.1=k)).map (·.2)).getD []
def MD.has(d:MD κ α)(k:κ):Bool:=d.any λx=>decide (x.1=k)
def MD.app(d:MD κ α)(k:κ)(v:α):MD κ α:=if d.has k then d.map (λx=>if x.1=k then(x.1,x.2++[v])else x)else d++[(k,[v])]
def MD.drop(d:MD κ α)(k:κ):MD κ α:=d.filter λx=>decide (x.1≠k)
def MD.flat(d:MD κ α):List α:=d.flatMap (·.2)
abbrev MD.keys(d:MD κ α):List κ:=d.map (·.1)
structure MD.Ok(d:MD κ α):Prop where
 nk:d.keys.Nodup
 ne:∀x∈d,x.2≠[]
theorem get_cons(x:κ×List α)(d:MD κ α)(k:κ):MD.get (x::d) k=if x.1=k then x.2 else MD.get d k:=by grind [MD.get]
def has_iff{d:MD κ α}{k:κ}:d.has k=true↔k∈d.keys:=by
 unfold MD.has
 grind
def get_none{d:MD κ α}{k:κ}(h:k∉d.keys):d.get k=[]:=by
 induction d with
 |nil=>rfl
 |cons x r a=>grind [get_cons]
def DH{d:MD κ α}(b:d.keys.Nodup){k:κ}{l:List α}(h:(k,l)∈d):d.get k=l:=by
 induction d with
 |nil=>cases h
 |cons x r a=>grind [get_cons]
def qB{d:MD κ α}{k:κ}{v:α}(h:v∈d.get k):(k,d.get k)∈d:=by
 induction d with
 |nil=>cases h
 |cons x r a=>grind [get_cons]
def qC{d:MD κ α}{k:κ}{v:α}(h:k∉d.keys):d.map (λx=>if x.1=k then(x.1,x.2++[v])else x)=d:=by induction d<;>grind
def AX(d:MD κ α)(k:κ)(v:α):(d.app k v).keys=if k∈d.keys then d.keys else d.keys++[k]:=by
 unfold MD.app;by_cases h:k∈d.keys
 .rw[Sg (has_iff.mpr h),Sg h];unfold MD.keys;rw[Tg];exact SR λx _=>by grind
 .rw[Sj (λq=>h (has_iff.mp q)),Sj h];unfold MD.keys;rw[SN];rfl
def nw{d:MD κ α}(O:d.Ok)(k:κ)(v:α):(d.app k v).Ok:=by
 constructor
 .rw[AX];split
  .exact O.nk
  .rename_i h;exact SX.mpr ⟨O.nk,by simp,λa g b i e=>by grind⟩
 .intro x c;unfold MD.app at c;split at c
  .obtain⟨y,f,rfl⟩:=Se.mp c;split
   .simp
   .exact O.ne y f
  .rcases Sk.mp c with h|h
   .exact O.ne x h
   .rw[Sb]at h;subst h;simp
def lH{d:MD κ α}{k:κ}{l:List α}(h:k∉d.keys):MD.get (d++[(k,l)]) k=l:=by
 grind [MD.get]
def oO{d:MD κ α}{k a:κ}{l:List α}(h:k≠a):MD.get (d++[(k,l)]) a=d.get a:=by
 grind [MD.get]
def qD{d:MD κ α}{k:κ}{v:α}(h:k∈d.keys):MD.get (d.map (λx=>if x.1=k then(x.1,x.2++[v])else x)) k=d.get k++[v]:=by
 induction d with
 |nil=>cases h
 |cons x r a=>
  rw[SD,get_cons,get_cons];by_cases e:x.1=k
  .rw[Sg e,Sg (show x.1=k from e),Sg e]
  .rw[Sj e,Sj e,Sj e];rcases Sq.mp h with q|q
   .exact(e q.symm).elim
   .exact a q
def uY{d:MD κ α}{k a:κ}{v:α}(h:k≠a):MD.get (d.map (λx=>if x.1=k then(x.1,x.2++[v])else x)) a=d.get a:=by
 induction d with
 |nil=>rfl
 |cons x r b=>grind [get_cons]
theorem fR(d:MD κ α)(k:κ)(v:α)(a:κ):(d.app k v).get a=if k=a then d.get k++[v]else d.get a:=by
 unfold MD.app;by_cases h:k∈d.keys
 .rw[Sg (has_iff.mpr h)];by_cases e:k=a
  .subst e;rw[Sg rfl,qD h]
  .rw[Sj e,uY e]
 .rw[Sj (λq=>h (has_iff.mp q))];by_cases e:k=a
  .subst e;rw[Sg rfl,lH h,get_none h];rfl
  .rw[Sj e,oO e]
def fy{d:MD κ α}(c:d.keys.Nodup)(k:κ)(v:α):(d.app k v).flat.Perm (v::d.flat):=by
 unfold MD.app;by_cases h:k∈d.keys
 .rw[Sg (has_iff.mpr h)];induction d with
  |nil=>cases h
  |cons x r b=>
   have a:=Tz.mp c;unfold MD.flat at b ⊢;rw[SD,Ue,Ue];by_cases e:x.1=k
   .subst e;rw[Sg rfl,qC a.1];show((x.2++[v])++_).Perm _;rw[SV];exact WG
   .rw[Sj e];rcases Sq.mp h with q|q
    .exact(e q.symm).elim
    .exact((UC _).append (b a.2 q)).trans WG
 .rw[Sj (λq=>h (has_iff.mp q))];unfold MD.flat;rw[UI];show(_++([v]++[])).Perm _;rw[Tj];exact List.perm_append_singleton _ _
def yd(d:MD κ α)(k:κ):(d.drop k).keys=d.keys.filter λx=>decide (x≠k):=by unfold MD.drop MD.keys;rw[List.filter_map];rfl
def wC{d:MD κ α}(O:d.Ok)(k:κ):(d.drop k).Ok:=⟨by rw[yd];exact List.Pairwise.filter _ O.nk,λx a=>O.ne x (SJ.mp a).1⟩
theorem ye{d:MD κ α}{k:κ}(h:k∉d.keys):d.drop k=d:=by induction d<;>grind [MD.drop]
def kJ{d:MD κ α}(c:d.keys.Nodup)(k:κ):d.flat.Perm (d.get k++(d.drop k).flat):=by
 induction d with
 |nil=>exact UC _
 |cons x r b=>
  have a:=Tz.mp c;rw[get_cons];by_cases e:x.1=k
  .subst e;rw[Sg rfl];have:MD.drop (x::r) x.1=r:=by grind [MD.drop,ye]
   rw[this];exact UC _
  .rw[Sj e];have:MD.drop (x::r) k=x::MD.drop r k:=by grind [MD.drop]
   rw[this];unfold MD.flat at b ⊢;rw[Ue,Ue];refine((UC _).append (b a.2)).trans ?_;rw[<- SV,<- SV];exact List.perm_append_comm.append_right _
def mem_flat{d:MD κ α}{v:α}:v∈d.flat↔∃x∈d,v∈x.2:=TN
def j5(d:MD κ α){k:κ}{v:α}(h:v∈d.get k):v∈d.flat:=mem_flat.mpr ⟨_,qB h,h⟩
def lW(d:MD κ α)(k:κ):(d.get k).length<=d.flat.length:=by
 induction d with
 |nil=>exact R7 _
 |cons x r a=>grind [get_cons,MD.flat]
def gC{d:MD κ α}(O:d.Ok):d.length<=d.flat.length:=by
 have:∀d:MD κ α,(∀x∈d,x.2≠[])->d.length<=d.flat.length:=by
  intro d;induction d with
  |nil=>intro _;exact R7 _
  |cons x r a=>
   intro h;have h1:=a λy b=>h y (Sf _ b);have c:0<x.2.length:=VG.mpr (h x Sa);unfold MD.flat at h1 ⊢
   grind
 exact this d O.ne
end
end Pz
namespace Pz
noncomputable def lo:List Int->Int
 |[]=>0
 |x::r=>r.foldl (λa b=>if b<a then b else a) x
theorem uZ:∀(r:List Int)(x:Int),r.foldl (λa b=>if b<a then b else a) x∈x::r/\∀y∈x::r,r.foldl (λa b=>if b<a then b else a) x<=y
 |[],x=>by grind
 |z::r,x=>by
  obtain⟨h1,d⟩:=uZ r (if z<x then z else x);rw[Ul];constructor
  .grind
  .intro y c;have e:=d _ Sa
   grind
def u4(h:l≠[]):lo l∈l:=by
 cases l with
 |nil=>exact(h rfl).elim
 |cons x r=>exact(uZ r x).1
def AY(h:y∈l):lo l<=y:=by
 cases l with
 |nil=>cases h
 |cons x r=>exact(uZ r x).2 y h
structure q5(a:Int->Int->Int):Prop where
 nn:∀{p l:Int},0<=p->0<=l->0<=a p l
 ch:∀{p l:Int},0<=p->0<=l->∀k:Nat,a p l<=k↔p/2^k=l/2^k
section
variable(P:q5 pile)
include P
theorem q5.zero(a:0<=p)(b:0<=l):pile p l=0↔p=l:=by
 have h1:=P.nn a b;have c:=P.ch a b 0
 grind
theorem q5.lt(a:0<=l)(f:l<=p)(c:l<=r)(h:pile p l<pile r l):p<r:=by
 have d:0<=p:=Uz a f;have g:0<=r:=Uz a c;obtain⟨k,j⟩:=Ug (P.nn d a);have o:=(P.ch d a k).mp (by lia);have q:¬r/2^k=l/2^k:=λe=>by have:=(P.ch g a k).mpr e;lia
 have b:(0:Int)<2^k:=Int.pow_pos (by decide);have m:=Int.ediv_le_ediv b c;refine Int.not_le.mp λi=>?_;have n:=Int.ediv_le_ediv b i;lia
theorem q5.same(c:0<=l)(s:l<=m)(g:l<=r)(h:pile m l<pile r l):pile r m=pile r l:=by
 have p:0<=m:=Uz c s;have d:0<=r:=Uz c g;have f:∀j:Nat,pile r m<=j↔pile r l<=j:=by
  intro j;rw[P.ch d p,P.ch d c];by_cases n:pile m l<=j
  .rw[(P.ch p c j).mp n]
  .have hd:∀{a b:Int}{i:Nat},a/2^j=b/2^j->a/2^(j+i)=b/2^(j+i):=by intro a b i e;rw[Int.pow_add,<- Int.ediv_ediv_of_nonneg (Wc (Int.pow_pos (by decide))),<- Int.ediv_ediv_of_nonneg (Wc (Int.pow_pos (by decide))),e]
   obtain⟨k,o⟩:=Ug (P.nn p c);obtain⟨i,rfl⟩ : ∃i,k=j+i:=⟨k-j,by lia⟩;constructor<;>intro e<;>exfalso
   .have q:=hd (i:=i) e;rw[(P.ch p c (j+i)).mp (by lia)]at q;have:=(P.ch d c (j+i)).mpr q;lia
   .have:=(P.ch d c j).mpr e;lia
 obtain⟨a,t⟩:=Ug (P.nn d p);obtain⟨b,u⟩:=Ug (P.nn d c);have h1:=f a;have v:=f b;lia
end
section
variable{G:Type}
abbrev Q(G:Type):=MD Int (Int×G)
structure uk(b:Int->Int->Int) (a:Int) (d:Q G):Prop where
 ok:d.Ok
 l0:0<=a
 at_:∀x∈d,∀y∈x.2,x.1=b y.1 a/\a<=y.1
def uk.add(h:uk pile last d)(a:G)(b:last<=p):uk pile last (d.app (pile p last) (p,a)):=by
 refine⟨nw h.ok _ _,h.l0,λx hx y hy=>?_⟩;unfold MD.app at hx;split at hx
 .obtain⟨z,c,rfl⟩:=Se.mp hx;by_cases e:z.1=pile p last
  .rw[Sg e]at hy ⊢;rcases Sk.mp hy with hy|hy
   .exact h.at_ z c y hy
   .rw[Sb]at hy;subst hy;exact⟨e,b⟩
  .rw[Sj e]at hy ⊢;exact h.at_ z c y hy
 .rcases Sk.mp hx with hx|hx
  .exact h.at_ x hx y hy
  .grind
def cT(a:Int->Int->Int)(b:Int)(d:Q G)(l:List (Int×G)):Q G:=l.foldl (λd x=>d.app (a x.1 b) x) d
theorem uk.cT:∀{l:List (Int×G)}{d:Q G},uk pile last d->(∀x∈l,last<=x.1)->uk pile last (cT pile last d l)
 |[],d,h,_=>h
 |x::l,d,h,a=>uk.cT (l:=l) (h.add x.2 (a x Sa)) λy b=>a y (Sf _ b)
theorem iE:∀{l:List (Int×G)}{d:Q G},d.Ok->(cT pile last d l).flat.Perm (l++d.flat)
 |[],d,h=>UC _
 |x::l,d,h=>(iE (l:=l) (nw h _ _)).trans (((UC _).append (fy h.nk _ _)).trans WG)
def cb(d:Q G):Int:=lo d.keys
def lowP(d:Q G):Int:=lo ((d.get (cb d)).map (·.1))
def mid(a:Int->Int->Int)(d:Q G):Q G:=cT a (lowP d) (d.drop (cb d)) (d.get (cb d))
def dz(a:Int->Int->Int)(d:Q G):List (Int×G):=(mid a d).get 0
def left(a:Int->Int->Int)(d:Q G):Q G:=(mid a d).drop 0
structure JD(a:Int->Int->Int) (b:Int) (d:Q G):Prop where
 ge:b<=lowP d
 ok:uk a (lowP d) (left a d)
 eq:∀x∈dz a d,x.1=lowP d
 lt:∀x∈(left a d).flat,lowP d<x.1
 pm:d.flat.Perm (dz a d++(left a d).flat)
 ne:dz a d≠[]
 k1:cb d∈d.keys
 k2:d.get (cb d)≠[]
 k3:0∈(mid a d).keys
 o1:uk a (lowP d) (d.drop (cb d))
def yf(P:q5 pile)(h:uk pile last d)(m:d≠[]):JD pile last d:=by
 have k1:cb d∈d.keys:=u4 (by simpa[MD.keys]using m);obtain⟨A,f,n⟩:=Se.mp k1;have s:d.get (cb d)=A.2:=DH h.ok.nk (by grind);have k2:d.get (cb d)≠[]:=by rw[s];exact h.ok.ne A f
 have D:lowP d∈(d.get (cb d)).map (·.1):=u4 (by simpa using k2);obtain⟨t,o,u⟩:=Se.mp D;have cM:∀y∈d.get (cb d),cb d=pile y.1 last/\last<=y.1:=λy b=>by rw[s]at b;have:=h.at_ A f y b;rwa[n]at this
 have l:last<=lowP d:=by grind
 have w:0<=lowP d:=Uz h.l0 l;have F:pile (lowP d) last=cb d:=by grind
 have g:∀y∈d.get (cb d),lowP d<=y.1:=λy b=>AY (Se.mpr ⟨y,b,rfl⟩);have i:∀x∈d.drop (cb d),∀y∈x.2,x.1=pile y.1 (lowP d)/\lowP d<y.1:=λx a y b=>by
  obtain⟨a,c⟩:=SJ.mp a;have c:x.1≠cb d:=SO c;have v:cb d<=x.1:=AY (Se.mpr ⟨x,a,rfl⟩);obtain⟨B,z⟩:=h.at_ x a y b;have j:pile (lowP d) last<pile y.1 last:=by grind
  exact⟨B.trans (P.same h.l0 l z j).symm,P.lt h.l0 l z j⟩
 have C:uk pile (lowP d) (d.drop (cb d)):=⟨wC h.ok _,w,λx a y b=>⟨(i x a y b).1,Wc (i x a y b).2⟩⟩;have k:uk pile (lowP d) (mid pile d):=C.cT g;have p:d.flat.Perm (mid pile d).flat:=(kJ h.ok.nk _).trans (iE C.ok).symm;have q:(mid pile d).flat.Perm (dz pile d++(left pile d).flat):=kJ k.ok.nk 0;have E:∀x∈dz pile d,x.1=lowP d:=λx a=>by have:=k.at_ _ (qB a) x a;exact(P.zero (Uz w this.2) w).mp this.1.symm
 have lt:∀x∈(left pile d).flat,lowP d<x.1:=λx a=>by obtain⟨y,b,a⟩:=mem_flat.mp a;obtain⟨b,c⟩:=SJ.mp b;have c:y.1≠0:=SO c;obtain⟨B,z⟩:=k.at_ y b x a;have:¬x.1=lowP d:=λe=>c (B.trans ((P.zero (Uz w z) w).mpr e));lia
 have r:t∈dz pile d:=by
  have h1:t∈d.flat:=j5 d o
  grind
 exact⟨l,⟨wC k.ok _,w,λx a=>k.at_ x (SJ.mp a).1⟩,E,lt,p.trans q,(λe=>by grind),k1,k2,Se.mpr ⟨_,qB r,rfl⟩,C⟩
end
end Pz
namespace Pz
noncomputable abbrev Arr:=Int×Int×Int
noncomputable abbrev Rule:=Int×Int×Int×List Int
noncomputable abbrev yg:=Int×Option Int×Option Int
abbrev TD:=List (Arr×yg)
noncomputable def bB(t:TD)(a:Arr):Option yg:=(t.find? λx=>decide (x.1=a)).map (·.2)
def tput(t:TD)(a:Arr)(v:yg):TD:=if(bB t a).isSome then t.map (λx=>if x.1=a then(x.1,v)else x)else t++[(a,v)]
structure PS where
 told:TD
 last:Int
 aJ:Q Arr
 settled:MD (Int×Int) (Int×Int)
 aL:MD (Int×Int) (Int×Rule×Int)
abbrev RS:=MD (Int×Int) (Int×Rule)
section
variable(c:Int->Int->Int)(rs:RS)
def gm(S:PS)(a:Arr)(p:Int):Bool:=match bB S.told a with
 |none=>true
 |some v=>decide (p<v.1)
def iF(S:PS)(a:Arr)(p:Int)(n m:Option Int):PS:={S with told:=tput S.told a (p,n,m),aJ:=S.aJ.app (c p S.last) (p,a)}
def be(S:PS)(a:Arr)(p:Int)(n m:Option Int):PS:=if gm S a p then iF c S a p n m else S
def nth1(l:List Int):Int:=l[1]?.getD 0
def qE(S:PS)(b:Int)(r:Rule)(mid a:Int):PS:={S with aL:=S.aL.app (mid,nth1 r.2.2.2) (b,r,a)}
def first(S:PS)(b:Int)(r:Rule)(mid a:Int):PS:=(S.settled.get (mid,nth1 r.2.2.2)).foldl (λS x=>be c S (r.1,r.2.1,x.1) (a+x.2+1) (some b) (some mid)) (qE S b r mid a)
def note(S:PS)(a:Arr)(b:Int):PS:={S with settled:=S.settled.app (a.1,a.2.1) (a.2.2,b)}
def lj(a:Arr)(b:Int)(S:PS)(x:Int×Rule×Int):PS:=be c S (x.2.1.1,x.2.1.2.1,a.2.2) (x.2.2+b+1) (some x.1) (some a.1)
def cF(a:Arr)(b:Int)(S:PS)(x:Int×Rule):PS:=if x.2.2.2.2.length=1 then be c S (x.2.1,x.2.2.1,a.2.2) (b+1) (some x.1) none else first c S x.1 x.2 a.2.2 b
def settle(S:PS)(a:Arr)(b:Int):PS:=(rs.get (a.1,a.2.1)).foldl (cF c a b) ((S.aL.get (a.1,a.2.1)).foldl (lj c a b) (note S a b))
def bU(S:PS)(x:Int×Arr):Bool:=match bB S.told x.2 with
 |none=>false
 |some v=>decide (v.1=x.1)
def turn(S:PS)(x:Int×Arr):PS:=if bU S x then settle c rs S x.2 x.1 else S
def batch(S:PS)(l:List (Int×Arr)):PS:=l.foldl (turn c rs) S
def take(S:PS):PS:={S with last:=lowP S.aJ,aJ:=left c S.aJ}
end
noncomputable def L:Nat:=16000000
structure js(S:PS):Prop where
 t:S.told.length<L
 p:S.aJ.length<L
 pf:S.aJ.flat.length<L
 s:S.settled.length<L
 sf:S.settled.flat.length<L
 l:S.aL.length<L
 lf:S.aL.flat.length<L
inductive Loop(pile:Int->Int->Int) (rs:RS):Nat->PS->PS->Prop where
 |done {S:PS}:S.aJ=[]->Loop pile rs 0 S S
 |step {n:Nat} {S T:PS}:S.aJ≠[]->uk pile S.last S.aJ->(∀x∈dz pile S.aJ,bB S.told x.2≠none)->js S->js (batch pile rs (take pile S) (dz pile S.aJ))->
  Loop pile rs n (batch pile rs (take pile S) (dz pile S.aJ)) T->Loop pile rs (n+1) S T
theorem dg(x:Arr×yg)(t:TD)(a:Arr):bB (x::t) a=if x.1=a then some x.2 else bB t a:=by grind [bB]
def tget_none:bB t a=none↔a∉t.map (·.1):=by
 induction t with
 |nil=>simp[bB]
 |cons x r b=>grind [dg]
def nA(h:bB t a=some v):(a,v)∈t:=by
 induction t with
 |nil=>cases h
 |cons x r b=>grind [dg]
def sX(c:(t.map (·.1)).Nodup)(h:(a,v)∈t):bB t a=some v:=by
 induction t with
 |nil=>cases h
 |cons x r b=>grind [dg]
def yh(t:TD)(a:Arr)(v:yg):(tput t a v).map (·.1)=if a∈t.map (·.1)then t.map (·.1)else t.map (·.1)++[a]:=by
 unfold tput;cases h:bB t a with
 |none=>rw[Sj (by simp),Sj (tget_none.mp h),SN];rfl
 |some w=>have:a∈t.map (·.1):=Se.mpr ⟨_,nA h,rfl⟩;rw[Sg (by simp),Sg this,Tg];exact SR λx _=>by grind
def DI(h:(t.map (·.1)).Nodup)(a:Arr)(v:yg):((tput t a v).map (·.1)).Nodup:=by
 rw[yh];split
 .exact h
 .rename_i q;exact SX.mpr ⟨h,by simp,λx c b d e=>by rw[Sb]at d;subst d;subst e;exact q c⟩
def sY(t:TD)(a:Arr)(v:yg):t.length<=(tput t a v).length/\(tput t a v).length<=t.length+1:=by
 unfold tput;split
 .rw[R9];lia
 .rw[Sm];simp
def gn(t:TD)(a:Arr)(v:yg)(b:Arr):bB (tput t a v) b=if a=b then some v else bB t b:=by
 unfold tput;cases h:bB t a with
 |none=>
  rw[Sj (by simp)];have d:=tget_none.mp h;clear h;induction t with
  |nil=>rw[Vo,dg]
  |cons x r c=>grind [dg]
 |some w=>
  rw[Sg (by simp)];have f:a∈t.map (·.1):=Se.mpr ⟨_,nA h,rfl⟩;clear h;by_cases e:a=b
  .subst e;rw[Sg rfl];induction t with
   |nil=>cases f
   |cons x r c=>grind [dg]
  .rw[Sj e];clear f;induction t with
   |nil=>rfl
   |cons x r c=>grind [dg]
structure e_(S T:PS):Prop where
 t:S.told.length<=T.told.length
 p:S.aJ.length<=T.aJ.length
 pf:S.aJ.flat.length<=T.aJ.flat.length
 s:S.settled.length<=T.settled.length
 sf:S.settled.flat.length<=T.settled.flat.length
 l:S.aL.length<=T.aL.length
 lf:S.aL.flat.length<=T.aL.flat.length
def e_.refl(S:PS):e_ S S:=by
 grind [PS,e_]
def e_.trans(a:e_ S T)(b:e_ T U):e_ S U:=⟨SE a.t b.t,SE a.p b.p,SE a.pf b.pf,SE a.s b.s,SE a.sf b.sf,SE a.l b.l,SE a.lf b.lf⟩
def e_.fit(a:e_ S T)(h:js T):js S:=⟨Ts a.t h.t,Ts a.p h.p,Ts a.pf h.pf,Ts a.s h.s,Ts a.sf h.sf,Ts a.l h.l,Ts a.lf h.lf⟩
def eV{b c:Type}[DecidableEq b](d:MD b c)(k:b)(v:c):d.length<=(d.app k v).length/\d.flat.length<=(d.app k v).flat.length:=by
 unfold MD.app;split
 .rw[R9];refine⟨R7 _,?_⟩;unfold MD.flat;rw[List.length_flatMap,List.length_flatMap,Tg];induction d with
  |nil=>exact R7 _
  |cons x r a=>
   rename_i h;clear h;rw[SD,SD,Wz,Wz];refine Nat.add_le_add ?_ ?_
   .simp only[Function.comp];split<;>simp
   .clear a;induction r with
    |nil=>exact R7 _
    |cons y r a=>rw[SD,SD,Wz,Wz];exact Nat.add_le_add (by simp only[Function.comp];split<;>simp) a
 .rw[Sm];unfold MD.flat;rw[UI,Sm];lia
theorem ci{a:Type}(f:PS->a->PS)(h:∀S x,e_ S (f S x)):∀(l:List a)(S:PS),e_ S (l.foldl f S)
 |[],S=>.refl S
 |x::l,S=>(h S x).trans (ci f h l _)
def b6(S:PS)(a:Arr)(p:Int)(n m:Option Int):e_ S (be pile S a p n m):=by
 unfold be;split
 .exact⟨(sY _ _ _).1,(eV _ _ _).1,(eV _ _ _).2,R7 _,R7 _,R7 _,R7 _⟩
 .exact .refl S
def u5(S:PS)(b:Int)(r:Rule)(mid a:Int):e_ S (first pile S b r mid a):=e_.trans (T:=qE S b r mid a) ⟨R7 _,R7 _,R7 _,R7 _,R7 _,(eV _ _ _).1,(eV _ _ _).2⟩ (ci _ (λS x=>b6 S _ _ _ _) _ _)
def jB(a:Arr)(b:Int)(S:PS)(x:Int×Rule):e_ S (cF pile a b S x):=by
 unfold cF;split
 .exact b6 _ _ _ _ _
 .exact u5 _ _ _ _ _
def sZ(S:PS)(a:Arr)(b:Int):e_ S (settle pile rs S a b):=(e_.trans (S:=S) (T:=note S a b) ⟨R7 _,R7 _,R7 _,(eV _ _ _).1,(eV _ _ _).2,R7 _,R7 _⟩ (ci (lj pile a b) (λS x=>b6 S _ _ _ _) _ _)).trans (ci _ (jB a b) _ _)
def yi(S:PS)(x:Int×Arr):e_ S (turn pile rs S x):=by
 unfold turn;split
 .exact sZ _ _ _
 .exact .refl S
theorem iG{b:Type}(f:PS->b->PS){a:Arr}(h:∀S x,bB S.told a≠none->bB (f S x).told a≠none):∀(l:List b)(S:PS),bB S.told a≠none->bB (l.foldl f S).told a≠none
 |[],S,k=>k
 |x::l,S,k=>iG f h l _ (h S x k)
def nC(h:bB S.told b≠none):bB (be pile S a p n m).told b≠none:=by
 unfold be;split
 .show bB (tput _ _ _) _≠none;rw[gn];split
  .simp
  .exact h
 .exact h
def AZ(h:bB S.told b≠none):bB (cF pile a p S x).told b≠none:=by
 unfold cF;split
 .exact nC h
 .exact iG _ (λS x k=>nC k) _ _ (show bB (qE S _ _ _ _).told b≠none from h)
def DJ(h:bB S.told b≠none):bB (turn pile rs S x).told b≠none:=by
 unfold turn;split
 .exact iG _ (λS x k=>AZ k) _ _ (iG (lj pile _ _) (λS x k=>nC k) _ _ (show bB (note S _ _).told b≠none from h))
 .exact h
end Pz
namespace Pz
def Sd(S:PS)(a:Arr)(q:Int):Prop:=(a.2.2,q)∈S.settled.get (a.1,a.2.1)
def fW(S:PS)(a:Arr)(p:Int):Prop:=∃v,bB S.told a=some v/\v.1<=p
def JustP(a:Arr->Int->Prop)(c:Int)(put:List Int)(t p:Int)(m:Option Int):Prop:=match put with
 |[]=>m=none/\p=1/\t=c
 |[x]=>m=none/\∃q,a (c,x,t) q/\p=q+1
 |[x,y]=>∃d b e,m=some d/\a (c,x,d) b/\a (d,y,t) e/\p=b+e+1
 |_=>False
def JustP.mono(h:∀a q,sd a q->sd' a q)(j:JustP sd c put t p m):JustP sd' c put t p m:=by
 match put,j with
 |[],j=>exact j
 |[x],⟨e,q,s,b⟩=>exact⟨e,q,h _ _ s,b⟩
 |[x,y],⟨d,f,g,e,i,k,b⟩=>exact⟨d,f,g,e,h _ _ i,h _ _ k,b⟩
section
variable(f:List Rule)(M:List Arr)
def Just(b:Arr->Int->Prop)(a:Arr)(v:yg):Prop:=match v.2.1 with
 |none=>v.2.2=none/\v.1=0/\a∈M
 |some i=>∃(j:Nat)(r:Rule),i=j/\f[j]?=some r/\a.1=r.1/\a.2.1=r.2.1/\JustP b r.2.2.1 r.2.2.2 a.2.2 v.1 v.2.2
theorem Just.mono(h:∀a q,sd a q->sd' a q)(j:Just f M sd a v):Just f M sd' a v:=by
 obtain⟨p,n,m⟩:=v;cases n with
 |none=>exact j
 |some i=>obtain⟨k,r,d,e,b,c,j⟩:=j;exact⟨k,r,d,e,b,c,j.mono h⟩
structure B(b:Int->Int->Int) (U:List Arr) (S:PS) (rest:List (Int×Arr)):Prop where
 q:uk b S.last S.aJ
 nd:S.aJ.flat.Nodup
 nr:rest.Nodup
 tk:(S.told.map (·.1)).Nodup
 tu:∀a v,bB S.told a=some v->a∈U
 ju:∀a v,bB S.told a=some v->Just f M (Sd S) a v
 ps:∀a v,bB S.told a=some v->0<=v.1
 sd:∀a p,Sd S a p->p<=S.last/\∃v,bB S.told a=some v/\v.1=p
 sp:∀a v,bB S.told a=some v->Sd S a v.1\/(v.1,a)∈S.aJ.flat\/(v.1,a)∈rest
 it:∀p a,(p,a)∈S.aJ.flat\/(p,a)∈rest->fW S a p
 ns:∀p a,(p,a)∈S.aJ.flat\/(p,a)∈rest->¬Sd S a p
 m0:∀a v,bB S.told a=some v->a∈M->v=(0,none,none)
end
def s_(h:¬gm S a p=true):fW S a p:=by
 grind [gm,fW]
def fA(h:gm S a p=true)(e:bB S.told a=some v):p<v.1:=by unfold gm at h;rw[e]at h;exact SO h
def ja(a:Arr)(p:Int)(n m:Option Int):fW (be pile S a p n m) a p:=by
 unfold be;by_cases h:gm S a p=true
 .rw[Sg h];exact⟨(p,n,m),by show bB (tput _ _ _) _=_;rw[gn,Sg rfl],TU _⟩
 .rw[Sj h];exact s_ h
def gD(h:fW S b q):fW (be pile S a p n m) b q:=by
 unfold be;by_cases k:gm S a p=true
 .rw[Sg k];obtain⟨v,e,c⟩:=h;by_cases d:a=b
  .subst d;exact⟨(p,n,m),by show bB (tput _ _ _) _=_;rw[gn,Sg rfl],Wc (Int.lt_of_lt_of_le (fA k e) c)⟩
  .exact⟨v,by show bB (tput _ _ _) _=_;rwa[gn,Sj d],c⟩
 .rwa[Sj k]
def gE(a:Arr)(p:Int)(n m:Option Int):(be pile S a p n m).settled=S.settled/\(be pile S a p n m).aL=S.aL/\(be pile S a p n m).last=S.last:=by unfold be;split<;>exact⟨rfl,rfl,rfl⟩
def u6(h:S.aJ.Ok)(a:Arr)(p:Int)(n m:Option Int)(b:x∈(be pile S a p n m).aJ.flat):x∈S.aJ.flat\/x=(p,a):=by
 unfold be at b;split at b
 .rcases Sq.mp ((fy h.nk _ _).mem_iff.mp b)with e|e
  .exact .inr e
  .exact .inl e
 .exact .inl b
def pM(h:S.aJ.Ok)(a:Arr)(p:Int)(n m:Option Int):(be pile S a p n m).aJ.flat.length<=S.aJ.flat.length+1:=by
 unfold be;split
 .exact Wt (fy h.nk _ _).length_eq
 .lia
theorem B.be(b:B RL M pile U S rest)(i:Just RL M (Sd S) a (p,n,m))(j:a∈U)(f:S.last<=p)(o:(p,a)∉rest)(t:¬Sd S a p)
 (u:a∈M->fW S a 0\/(p,n,m)=(0,none,none)):B RL M pile U (be pile S a p n m) rest:=by
 unfold Pz.be;by_cases k:gm S a p=true
 .rw[Sg k];have r:∀c q,Sd (iF pile S a p n m) c q↔Sd S c q:=λc q=>Iff.rfl;have s:∀c,bB (iF pile S a p n m).told c=if a=c then some (p,n,m)else bB S.told c:=λc=>gn _ _ _ _;have pf:=fy b.q.ok.nk (pile p S.last) (p,a);have l:0<=p:=Uz b.q.l0 f;have fl:∀x,x∈(iF pile S a p n m).aJ.flat↔x=(p,a)\/x∈S.aJ.flat:=λx=>by show x∈(S.aJ.app (pile p S.last) (p,a)).flat↔_;rw[pf.mem_iff,Sq]
  refine⟨b.q.add a f,?_,b.nr,DI b.tk _ _,λc v e=>?_,λc v e=>?_,λc v e=>?_,λc q h=>?_,λc v e=>?_,λq c h=>?_,λq c h=>?_,λc v e g=>?_⟩
  .refine pf.nodup_iff.mpr (Tz.mpr ⟨λh=>?_,b.nd⟩);obtain⟨v,e,d⟩:=b.it p a (.inl h);have:=fA k e;lia
  .rw[s]at e;by_cases z:a=c
   .rwa[<- z]
   .rw[Sj z]at e;exact b.tu c v e
  .rw[s]at e;by_cases z:a=c
   .rw[Sg z]at e;cases e;rwa[<- z]
   .rw[Sj z]at e;exact b.ju c v e
  .rw[s]at e;by_cases z:a=c
   .rw[Sg z]at e;cases e;exact l
   .rw[Sj z]at e;exact b.ps c v e
  .obtain⟨h1,v,e,d⟩:=b.sd c q h;refine⟨h1,v,?_,d⟩;rw[s,Sj (λz=>?_)]
   .exact e
   .subst z;have:=fA k e;lia
  .rw[s]at e;by_cases z:a=c
   .rw[Sg z]at e;cases e;subst z;exact .inr (.inl ((fl _).mpr (.inl rfl)))
   .rw[Sj z]at e;rcases b.sp c v e with h|h|h
    .exact .inl h
    .exact .inr (.inl ((fl _).mpr (.inr h)))
    .exact .inr (.inr h)
  .have:(q,c)=(p,a)\/(q,c)∈S.aJ.flat\/(q,c)∈rest:=by
    rcases h with h|h
    .rcases (fl _).mp h with h|h
     .exact .inl h
     .exact .inr (.inl h)
    .exact .inr (.inr h)
   rcases this with h|h
   .cases h;exact⟨(p,n,m),by grind,TU _⟩
   .obtain⟨v,e,d⟩:=b.it q c h;by_cases z:a=c
    .subst z;exact⟨(p,n,m),by grind,Wc (Int.lt_of_lt_of_le (fA k e) d)⟩
    .exact⟨v,by grind,d⟩
  .rcases h with h|h
   .rcases (fl _).mp h with h|h
    .cases h;exact t
    .exact b.ns q c (.inl h)
   .exact b.ns q c (.inr h)
  .rw[s]at e;by_cases z:a=c
   .rw[Sg z]at e;cases e;subst z;rcases u g with⟨v,e,d⟩|h
    .have:=fA k e;lia
    .exact h
   .rw[Sj z]at e;exact b.m0 c v e g
 .rwa[Sj k]
end Pz
namespace Pz
section
variable(d:List Rule)(M U:List Arr)(c:Int->Int->Int)
structure BG(S:PS) (rest:List (Int×Arr)):Prop where
 b:B d M c U S rest
 gt:∀x∈S.aJ.flat,S.last<x.1
 eq:∀x∈rest,x.1=S.last
 mh:∀a∈M,fW S a 0
structure Ext(S T:PS) (rest:List (Int×Arr)) (k:Nat):Prop where
 bg:BG d M U c T rest
 mono:∀a p,fW S a p->fW T a p
 se:T.settled=S.settled
 la:T.last=S.last
 len:T.aJ.flat.length<=S.aJ.flat.length+k
end
def pN(h:T.settled=S.settled):Sd T=Sd S:=by unfold Sd;rw[h]
theorem Ext.trans(x:Ext RL M U pile S T rest k)(y:Ext RL M U pile T V rest l):Ext RL M U pile S V rest (k+l):=⟨y.bg,λa p h=>y.mono a p (x.mono a p h),y.se.trans x.se,y.la.trans x.la,by have:=x.len;have:=y.len;lia⟩
theorem BG.be(g:BG RL M U pile S rest)(f:Just RL M (Sd S) a (p,n,m))(i:a∈U)(e:S.last<p):Ext RL M U pile S (be pile S a p n m) rest 1:=by
 obtain⟨k,l,c⟩:=gE (pile:=pile) (S:=S) a p n m;have j:=g.b.be f i (Wc e) (λh=>by have:=g.eq _ h;dsimp only at this;lia) (λh=>by have:=(g.b.sd _ _ h).1;lia) λh=>.inl (g.mh a h);refine⟨⟨j,λx d=>?_,λx d=>by rw[c];exact g.eq x d,λb j=>gD (g.mh b j)⟩,λb q h=>gD h,k,c,pM g.b.q.ok _ _ _ _⟩;rw[c];rcases u6 g.b.q.ok _ _ _ _ d with h|rfl
 .exact g.gt x h
 .exact e
theorem jC{c:Type}(a:c->Arr)(i:c->Int)(k b:c->Option Int):∀(l:List c){S:PS},BG RL M U pile S rest->
 (∀x∈l,Just RL M (Sd S) (a x) (i x,k x,b x)/\a x∈U/\S.last<i x)->
 Ext RL M U pile S (l.foldl (λS x=>be pile S (a x) (i x) (k x) (b x)) S) rest l.length/\(l.foldl (λS x=>be pile S (a x) (i x) (k x) (b x)) S).aL=S.aL/\
 ∀x∈l,fW (l.foldl (λS x=>be pile S (a x) (i x) (k x) (b x)) S) (a x) (i x)
 |[],S,g,_=>⟨⟨g,λ_ _ h=>h,rfl,rfl,R7 _⟩,rfl,λ_ h=>nomatch h⟩
 |x::l,S,g,h=>by
  obtain⟨j,u,lt⟩:=h x Sa;have e:=g.be j u lt;obtain⟨r,d,f⟩:=jC a i k b l (S:=be pile S (a x) (i x) (k x) (b x)) e.bg λy hy=>by rw[pN e.se,e.la];exact h y (Sf _ hy)
  rw[Ul,SG,Wu];refine⟨e.trans r,d.trans (gE _ _ _ _).2.1,λy hy=>?_⟩;rcases Sq.mp hy with rfl|hy
  .exact r.mono _ _ (ja _ _ _ _)
  .exact f y hy
structure ug(b:List Rule) (M U:List Arr) (rs:RS):Prop where
 eL:∀r∈b,r.2.2.2.length<=2
 to:∀{n r c x},(n,r)∈rs.get (c,x)->∃(j:Nat)(l:List Int),n=j/\b[j]?=some r/\r.2.2.1=c/\r.2.2.2=x::l
 of:∀{j:Nat}{r:Rule}{x l},b[j]?=some r->r.2.2.2=x::l->((j:Int),r)∈rs.get (r.2.2.1,x)
 u1:∀a∈M,a∈U
 u2:∀r∈b,(r.1,r.2.1,r.2.2.1)∈U
 u3:∀r∈b,∀s x t,(s,x,t)∈U->(r.1,r.2.1,t)∈U
def FX(c:List Rule)(S:PS):Prop:=∀(j:Nat)(r:Rule),c[j]?=some r->match r.2.2.2 with
 |[]=>fW S (r.1,r.2.1,r.2.2.1) 1
 |[x]=>∀t q,Sd S (r.2.2.1,x,t) q->fW S (r.1,r.2.1,t) (q+1)
 |[x,y]=>∀d t a b,Sd S (r.2.2.1,x,d) a->Sd S (d,y,t) b->fW S (r.1,r.2.1,t) (a+b+1)
 |_=>True
structure Lk(a:List Rule) (S:PS):Prop where
 ok:S.aL.Ok
 to:∀{n r q d y},(n,r,q)∈S.aL.get (d,y)->∃(j:Nat)(x:Int),n=j/\a[j]?=some r/\r.2.2.2=[x,y]/\Sd S (r.2.2.1,x,d) q
 of:∀{j:Nat}{r:Rule}{x y d q},a[j]?=some r->r.2.2.2=[x,y]->Sd S (r.2.2.1,x,d) q->((j:Int),r,q)∈S.aL.get (d,y)
theorem FY(d:ug RL M U rs)(f:a∈U)(J:0<=p):∀(l:List (Int×Rule)){S:PS},BG RL M U pile S rest->S.aL.Ok->S.settled.Ok->S.last=p->Sd S a p->(∀x∈l,x∈rs.get (a.1,a.2.1))->
 Ext RL M U pile S (l.foldl (cF pile a p) S) rest (l.length*S.settled.flat.length)/\(l.foldl (cF pile a p) S).aL.Ok/\(l.foldl (cF pile a p) S).aL.flat.length<=S.aL.flat.length+l.length/\
 (∀k z,z∈(l.foldl (cF pile a p) S).aL.get k↔z∈S.aL.get k\/∃x∈l,x.2.2.2.2.length=2/\k=(a.2.2,nth1 x.2.2.2.2)/\z=(x.1,x.2,p))/\
 (∀x∈l,x.2.2.2.2.length=1->fW (l.foldl (cF pile a p) S) (x.2.1,x.2.2.1,a.2.2) (p+1))/\
 ∀x∈l,x.2.2.2.2.length=2->∀t q,Sd S (a.2.2,nth1 x.2.2.2.2,t) q->fW (l.foldl (cF pile a p) S) (x.2.1,x.2.2.1,t) (p+q+1)
 |[],S,g,ok,so,D,ha,_=>⟨⟨g,λ_ _ h=>h,rfl,rfl,Wd _ _⟩,ok,by simp,(λk z=>⟨.inl,λh=>h.elim id λ⟨x,h,_⟩=>(Sx h).elim⟩),(λ_ h=>(Sx h).elim),λ_ h=>(Sx h).elim⟩
 |x::l,S,g,ok,so,D,ha,i=>by
  obtain⟨n,r⟩:=x;obtain⟨j,E,rfl,s,F,u⟩:=d.to (i _ Sa);have w:r∈RL:=SB s;have G:=d.eL r w;have n1:1<=S.settled.flat.length:=VY (j5 _ ha);have one:Ext RL M U pile S (cF pile a p S ((j:Int),r)) rest S.settled.flat.length/\(cF pile a p S ((j:Int),r)).aL.Ok/\(cF pile a p S ((j:Int),r)).aL.flat.length<=S.aL.flat.length+1/\
   (∀k z,z∈(cF pile a p S ((j:Int),r)).aL.get k↔z∈S.aL.get k\/(r.2.2.2.length=2/\k=(a.2.2,nth1 r.2.2.2)/\z=((j:Int),r,p)))/\
   (r.2.2.2.length=1->fW (cF pile a p S ((j:Int),r)) (r.1,r.2.1,a.2.2) (p+1))/\
   (r.2.2.2.length=2->∀t q,Sd S (a.2.2,nth1 r.2.2.2,t) q->fW (cF pile a p S ((j:Int),r)) (r.1,r.2.1,t) (p+q+1)):=by
   unfold cF;by_cases h1:r.2.2.2.length=1
   .rw[Sg (show((j:Int),r).2.2.2.2.length=1 from h1)];have c:r.2.2.2=[a.2.1]:=by
     rw[u]at h1 ⊢;cases E with
     |nil=>rfl
     |cons _ _=>simp at h1
    have e:=g.be (a:=(r.1,r.2.1,a.2.2)) (p:=p+1) (n:=some (j:Int)) (m:=none) ⟨j,r,rfl,s,rfl,rfl,by rw[c];exact⟨rfl,p,by rwa[F],rfl⟩⟩ (d.u3 r w _ _ _ f) (by lia);obtain⟨_,e2,_⟩:=gE (pile:=pile) (S:=S) (r.1,r.2.1,a.2.2) (p+1) (some (j:Int)) none;refine⟨⟨e.bg,e.mono,e.se,e.la,SE e.len (VE n1 _)⟩,by rwa[e2],by rw[e2];lia,λk z=>?_,λ_=>ja _ _ _ _,λh=>by lia⟩;rw[e2];exact⟨.inl,λh=>h.elim id λh=>by lia⟩
   .rw[Sj (show ¬((j:Int),r).2.2.2.2.length=1 from h1)];have h2:r.2.2.2.length=2:=by rw[u]at h1 G ⊢;simp only[SG]at h1 G ⊢;lia
    obtain⟨y,c⟩ : ∃y,r.2.2.2=[a.2.1,y]:=by
     rw[u]at h2 ⊢
     match E,h2 with
     |[y],_=>exact⟨y,rfl⟩
    have K:nth1 r.2.2.2=y:=by rw[c];rfl
    have g1:BG RL M U pile (qE S (j:Int) r a.2.2 p) rest:=⟨⟨g.b.q,g.b.nd,g.b.nr,g.b.tk,g.b.tu,g.b.ju,g.b.ps,g.b.sd,g.b.sp,g.b.it,g.b.ns,g.b.m0⟩,g.gt,g.eq,g.mh⟩;obtain⟨e,e2,L⟩:=jC (λx:Int×Int=>(r.1,r.2.1,x.1)) (λx=>p+x.2+1) (λ_=>some (j:Int)) (λ_=>some a.2.2) (S.settled.get (a.2.2,nth1 r.2.2.2)) g1 λx hx=>by
     have sx:Sd S (a.2.2,y,x.1) x.2:=by rwa[K]at hx
     obtain⟨_,v,H,Y⟩:=g.b.sd _ _ sx;have:=g.b.ps _ _ H;refine⟨⟨j,r,rfl,s,rfl,rfl,?_⟩,d.u3 r w _ _ _ (g.b.tu _ _ H),by show S.last<_;lia⟩;rw[c];exact⟨a.2.2,p,x.2,rfl,by rwa[F],sx,rfl⟩
    have N:∀k z,z∈(first pile S (j:Int) r a.2.2 p).aL.get k↔z∈S.aL.get k\/(r.2.2.2.length=2/\k=(a.2.2,nth1 r.2.2.2)/\z=((j:Int),r,p)):=λk z=>by
     show z∈(List.foldl _ _ _:PS).aL.get k↔_;rw[e2];show z∈(S.aL.app _ _).get k↔_;rw[fR];by_cases A:(a.2.2,nth1 r.2.2.2)=k
     .subst A;rw[Sg rfl,Sk,Sb];exact⟨λh=>h.elim .inl λh=>.inr ⟨h2,rfl,h⟩,λh=>h.elim .inl λh=>.inr h.2.2⟩
     .rw[Sj A];exact⟨.inl,λh=>h.elim id λh=>(A h.2.1.symm).elim⟩
    have lk:(first pile S (j:Int) r a.2.2 p).aL=S.aL.app (a.2.2,nth1 r.2.2.2) ((j:Int),r,p):=e2;refine⟨⟨e.bg,λb q h=>e.mono b q h,e.se,e.la,SE e.len (VE (lW _ _) _)⟩,by rw[lk];exact nw ok _ _,by rw[lk,(fy ok.nk _ _).length_eq];exact R7 _,N,λh=>by lia,λ_ t q h=>L (t,q) h⟩
  obtain⟨e,B,O,C,P,Q⟩:=one;obtain⟨o,R,Z,T,V,W⟩:=FY d f J l e.bg B (by rwa[e.se]) (by rw[e.la];exact D) (by rwa[pN e.se]) λy X=>i y (Sf _ X);rw[Ul,SG];rw[e.se]at o;refine⟨by rw[Nat.add_mul,Nat.one_mul,Wu];exact e.trans o,R,by lia,λk z=>?_,λx hx h=>?_,λx hx h t q I=>?_⟩
  .rw[T,C];constructor
   .rintro ((h|h)|⟨x,hx,h⟩)
    .exact .inl h
    .exact .inr ⟨_,Sa,h⟩
    .exact .inr ⟨x,Sf _ hx,h⟩
   .rintro (h|⟨x,hx,h⟩)
    .exact .inl (.inl h)
    .rcases Sq.mp hx with rfl|hx
     .exact .inl (.inr h)
     .exact .inr ⟨x,hx,h⟩
  .rcases Sq.mp hx with rfl|hx
   .exact o.mono _ _ (P h)
   .exact V x hx h
  .rcases Sq.mp hx with rfl|hx
   .exact o.mono _ _ (Q h t q I)
   .exact W x hx h t q (by rw[pN e.se];exact I)
end Pz
namespace Pz
section
variable(b:List Rule)(M U:List Arr)(c:Int->Int->Int)(C:Nat)
structure Qe(S:PS) (k:Nat):Prop where
 so:S.settled.Ok
 G:∃G:List Arr,G.Nodup/\G.length=S.settled.flat.length/\∀a∈G,∃q,Sd S a q
 ln:S.aL.flat.length<=b.length*S.settled.flat.length
 pn:S.aJ.flat.length+k<=C+b.length*(S.settled.flat.length*S.settled.flat.length)
structure I(S:PS) (rest:List (Int×Arr)):Prop where
 bg:BG b M U c S rest
 CH:FX b S
 lk:Lk b S
 cnt:Qe b C S rest.length
end
def sd_note:Sd (note S a p) c q↔Sd S c q\/(a=c/\p=q):=by
 grind [Sd,note,fR]
theorem I.settle(N:ug RL M U rs)(D:∀k,(rs.get k).length<=RL.length)(i:I RL M U pile C S ((p,a)::rest))(V:bB S.told a=some v)(O:v.1=p) :
 I RL M U pile C (settle pile rs S a p) rest/\(settle pile rs S a p).settled.flat.length=S.settled.flat.length+1:=by
 have b:=i.bg.b;have pl:p=S.last:=i.bg.eq _ Sa;have p0:0<=p:=by rw[pl];exact b.q.l0
 have E:a∈U:=b.tu a v V;have nS:∀q,¬Sd S a q:=λq h=>by obtain⟨_,w,e,ew⟩:=b.sd a q h;rw[V]at e;cases e;rw[<- ew,O]at h;exact b.ns p a (.inr Sa) h
 have nr:=Tz.mp b.nr;have m:∀c q,Sd S c q->Sd (note S a p) c q:=λc q h=>sd_note.mpr (.inl h);have u:Sd (note S a p) a p:=sd_note.mpr (.inr ⟨rfl,rfl⟩);have g1:BG RL M U pile (note S a p) rest:=by
  refine⟨⟨b.q,b.nd,nr.2,b.tk,b.tu,λc w e=>(b.ju c w e).mono RL M m,b.ps,λc q h=>?_,λc w e=>?_,λq c h=>?_,λq c h k=>?_,b.m0⟩,i.bg.gt,λx A=>i.bg.eq x (Sf _ A),i.bg.mh⟩
  .rcases sd_note.mp h with h|⟨rfl,rfl⟩
   .exact b.sd c q h
   .exact⟨Int.le_of_eq pl,v,V,O⟩
  .rcases b.sp c w e with h|h|h
   .exact .inl (m _ _ h)
   .exact .inr (.inl h)
   .rcases Sq.mp h with h|h
    .cases h;exact .inl u
    .exact .inr (.inr h)
  .exact b.it q c (h.elim .inl λh=>.inr (Sf _ h))
  .rcases sd_note.mp k with k|⟨rfl,rfl⟩
   .exact b.ns q c (h.elim .inl λh=>.inr (Sf _ h)) k
   .rcases h with h|h
    .have:=i.bg.gt _ h;dsimp only at this;lia
    .exact nr.1 h
 have so1:(note S a p).settled.Ok:=nw i.cnt.so _ _;have n1:(note S a p).settled.flat.length=S.settled.flat.length+1:=(fy i.cnt.so.nk _ _).length_eq;obtain⟨e1,Z,h1⟩:=jC (λx:Int×Rule×Int=>(x.2.1.1,x.2.1.2.1,a.2.2)) (λx=>x.2.2+p+1) (λx=>some x.1) (λ_=>some a.1) (S.aL.get (a.1,a.2.1)) g1 λx A=>by obtain⟨n,r,q⟩:=x;obtain⟨j,y,rfl,o,B,s⟩:=i.lk.to A;obtain⟨_,w,tw,hw⟩:=b.sd _ _ s;have:=b.ps _ _ tw;refine⟨⟨j,r,rfl,o,rfl,rfl,?_⟩,N.u3 r (SB o) _ _ _ E,by show S.last<q+p+1;lia⟩;show JustP _ r.2.2.1 r.2.2.2 _ _ _;rw[B];exact⟨a.1,q,p,rfl,m _ _ s,u,rfl⟩
 generalize W:(S.aL.get (a.1,a.2.1)).foldl (λS x=>be pile S (x.2.1.1,x.2.1.2.1,a.2.2) (x.2.2+p+1) (some x.1) (some a.1)) (note S a p)=F at e1 Z h1;have s2:F.settled=(note S a p).settled:=e1.se;have H:Sd F=Sd (note S a p):=pN s2;have P:F.aL=S.aL:=Z;obtain⟨e2,k1,k2,k3,X,k5⟩:=FY (rs:=rs) N E p0 (rs.get (a.1,a.2.1)) e1.bg (by rw[P];exact i.lk.ok) (by grind) (by rw[e1.la,pl];rfl) (by rwa[H]) λx A=>A;have eT:(rs.get (a.1,a.2.1)).foldl (cF pile a p) F=Pz.settle pile rs S a p:=by rw[<- W];rfl
 rw[eT]at e2 k1 k2 k3 X k5;generalize Pz.settle pile rs S a p=T at e2 k1 k2 k3 X k5;have Q:T.settled=(note S a p).settled:=e2.se.trans s2;have g:∀c q,Sd T c q↔Sd S c q\/(a=c/\p=q):=λc q=>by rw[pN Q];exact sd_note
 have hm:∀{j:Nat}{r:Rule}{x d l},RL[j]?=some r->r.2.2.2=x::l->a=(r.2.2.1,x,d)->((j:Int),r)∈rs.get (a.1,a.2.1):=λo O h=>by rw[h];exact N.of o O
 have mono:∀c q,fW S c q->fW T c q:=λc q h=>e2.mono _ _ (e1.mono _ _ h);refine⟨⟨e2.bg,?_,⟨k1,?_,?_⟩,⟨by grind,?_,?_,?_⟩⟩,by grind⟩
 .intro j r o;have hc:=i.CH j r o;cases f:r.2.2.2 with
  |nil=>rw[f]at hc;exact mono _ _ hc
  |cons x ys=>
   cases ys with
   |nil=>
    rw[f]at hc;intro t q s;rcases(g _ _).mp s with h|⟨h,rfl⟩
    .exact mono _ _ (hc t q h)
    .obtain rfl:a.2.2=t:=by rw[h]
     exact X ((j:Int),r) (hm o f h) (by rw[f];rfl)
   |cons y zs=>
    cases zs with
    |cons _ _=>trivial
    |nil=>
     rw[f]at hc;intro d t q1 q2 Y J;have ny:nth1 r.2.2.2=y:=by rw[f];rfl
     rcases(g _ _).mp Y with K|⟨K,rfl⟩
     .rcases (g _ _).mp J with R|⟨R,rfl⟩
      .exact mono _ _ (hc d t q1 q2 K R)
      .obtain rfl:a.2.2=t:=by rw[R]
       exact e2.mono _ _ (h1 ((j:Int),r,q1) (by rw[R];exact i.lk.of o f K))
     .obtain rfl:a.2.2=d:=by rw[K]
      refine k5 ((j:Int),r) (hm o f K) (by rw[f];rfl) t q2 ?_;rw[ny,H,<- pN Q];exact J
 .intro n r q d y h;rcases(k3 _ _).mp h with h|⟨x,A,L,hk,hz⟩
  .rw[P]at h;obtain⟨j,x,e1,e2,e3,e4⟩:=i.lk.to h;exact⟨j,x,e1,e2,e3,(g _ _).mpr (.inl e4)⟩
  .obtain⟨n',r'⟩:=x;obtain⟨rfl,hz⟩:=Prod.mk.inj hz;obtain⟨rfl,s⟩:=Prod.mk.inj hz;obtain⟨j,l,rfl,o,hc,f⟩:=N.to A;obtain⟨rfl,B⟩:=Prod.mk.inj hk;have L:r.2.2.2.length=2:=L;have B:y=nth1 r.2.2.2:=B;rw[f]at L B;refine⟨j,a.2.1,rfl,o,?_,(g _ _).mpr (.inr ⟨by rw[hc],s.symm⟩)⟩;rcases l with _|⟨z,_|_⟩
   .cases L
   .rw[f,B];rfl
   .cases L
 .intro j r x y d q o f s;rw[k3];rcases(g _ _).mp s with h|⟨h,rfl⟩
  .rw[P];exact .inl (i.lk.of o f h)
  .exact .inr ⟨((j:Int),r),hm o f h,by rw[f];rfl,by rw[f,h];rfl,rfl⟩
 .obtain⟨G,g1,g2,g3⟩:=i.cnt.G;refine⟨a::G,Tz.mpr ⟨λh=>?_,g1⟩,by grind,λc hc=>?_⟩
  .obtain⟨q,s⟩:=g3 a h;exact nS q s
  .rcases Sq.mp hc with rfl|hc
   .exact⟨p,(g _ _).mpr (.inr ⟨rfl,rfl⟩)⟩
   .obtain⟨q,s⟩:=g3 c hc;exact⟨q,(g _ _).mpr (.inl s)⟩
 .have:=i.cnt.ln;have:=D (a.1,a.2.1);rw[Q,n1,WB,Nat.mul_one];rw[P]at k2;lia
 .have c1:=i.cnt.pn;have c2:=e1.len;have c3:=e2.len;have c4:=i.cnt.ln;have c5:=lW S.aL (a.1,a.2.1);have c6:(rs.get (a.1,a.2.1)).length*F.settled.flat.length<=RL.length*(S.settled.flat.length+1):=by rw[s2,n1];exact Nat.mul_le_mul_right _ (D _)
  rw[SG]at c1;have c7:(note S a p).aJ.flat.length=S.aJ.flat.length:=rfl;rw[Q,n1];have c8:RL.length*((S.settled.flat.length+1)*(S.settled.flat.length+1))=RL.length*(S.settled.flat.length*S.settled.flat.length)+RL.length*S.settled.flat.length+RL.length*(S.settled.flat.length+1):=by rw[Nat.add_mul,Nat.one_mul,WB RL.length,WB S.settled.flat.length,Nat.mul_one,WB RL.length (S.settled.flat.length*S.settled.flat.length)]
  rw[c8];lia
def I.skip(i:I RL M U pile C S (x::rest))(h:¬bU S x=true):I RL M U pile C S rest:=by
 have b:=i.bg.b;refine⟨⟨⟨b.q,b.nd,(Tz.mp b.nr).2,b.tk,b.tu,b.ju,b.ps,b.sd,λc w e=>?_,λq c h=>b.it q c (h.elim .inl λh=>.inr (Sf _ h)),λq c h=>b.ns q c (h.elim .inl λh=>.inr (Sf _ h)),b.m0⟩,i.bg.gt,λy a=>i.bg.eq y (Sf _ a),i.bg.mh⟩,i.CH,i.lk,i.cnt.so,i.cnt.G,i.cnt.ln,by have:=i.cnt.pn;rw[SG]at this;lia⟩;rcases b.sp c w e with k|k|k
 .exact .inl k
 .exact .inr (.inl k)
 .grind [bU]
theorem I.batch(c:ug RL M U rs)(b:∀k,(rs.get k).length<=RL.length):∀(l:List (Int×Arr)){S:PS},I RL M U pile C S l->
 I RL M U pile C (batch pile rs S l) []/\S.settled.flat.length<=(batch pile rs S l).settled.flat.length/\((batch pile rs S l).settled.flat.length=S.settled.flat.length->batch pile rs S l=S)
 |[],S,i=>⟨i,R7 _,λ_=>rfl⟩
 |x::l,S,i=>by
  show I RL M U pile C (Pz.batch pile rs (turn pile rs S x) l) []/\_<=(Pz.batch pile rs (turn pile rs S x) l).settled.flat.length/\((Pz.batch pile rs (turn pile rs S x) l).settled.flat.length=_->Pz.batch pile rs (turn pile rs S x) l=S);unfold turn;by_cases h:bU S x=true
  .rw[Sg h];obtain⟨p,a⟩:=x;unfold bU at h;cases e:bB S.told a with
   |none=>rw[show((p,a):Int×Arr).2=a from rfl,e]at h;cases h
   |some v=>rw[show((p,a):Int×Arr).2=a from rfl,e]at h;obtain⟨j,n⟩:=i.settle c b e (SO h);obtain⟨d,f,g⟩:=I.batch c b l j;exact⟨d,by grind,λq=>by grind⟩
  .rw[Sj h];exact I.batch c b l (i.skip h)
structure Top(d:List Rule) (M U:List Arr) (c:Int->Int->Int) (C:Nat) (S:PS):Prop where
 b:B d M c U S []
 mh:∀a∈M,fW S a 0
 CH:FX d S
 lk:Lk d S
 cnt:Qe d C S 0
def I.top(i:I RL M U pile C S []):Top RL M U pile C S:=⟨i.bg.b,i.bg.mh,i.CH,i.lk,i.cnt⟩
theorem Top.take(P:q5 pile)(t:Top RL M U pile C S)(d:S.aJ≠[]):I RL M U pile C (take pile S) (dz pile S.aJ):=by
 have b:=t.b;have k:=yf P b.q d;have f:∀x,x∈S.aJ.flat↔x∈(left pile S.aJ).flat\/x∈dz pile S.aJ:=λx=>by rw[k.pm.mem_iff,Sk];exact Or.comm
 obtain⟨g,i,_⟩:=SX.mp (k.pm.nodup_iff.mp b.nd);have no:∀{q c},(q,c)∉([]:List (Int×Arr)):=λh=>nomatch h;refine⟨⟨⟨k.ok,i,g,b.tk,b.tu,b.ju,b.ps,λa p h=>⟨Uz (b.sd a p h).1 k.ge,(b.sd a p h).2⟩,λa v e=>?_,λp a h=>b.it p a (.inl ((f _).mpr h)),λp a h=>b.ns p a (.inl ((f _).mpr h)),b.m0⟩,k.lt,k.eq,t.mh⟩,t.CH,⟨t.lk.ok,t.lk.to,t.lk.of⟩,t.cnt.so,t.cnt.G,t.cnt.ln,?_⟩
 .rcases b.sp a v e with h|h|h
  .exact .inl h
  .exact .inr ((f _).mp h)
  .exact(no h).elim
 .have h1:=k.pm.length_eq;rw[Sm]at h1;have j:=t.cnt.pn;show(left pile S.aJ).flat.length+(dz pile S.aJ).length<=_;show _<=C+RL.length*(S.settled.flat.length*S.settled.flat.length);lia
theorem bL{d:Type}[DecidableEq d]:∀(l m:List d),l.Nodup->(∀x∈l,x∈m)->l.length<=m.length
 |[],m,_,_=>Sw _
 |x::l,m,f,h=>by
  have c:=h x Sa;have a:=Tz.mp f;have:=bL l (m.erase x) a.2 λy b=>(List.mem_erase_of_ne (λ(e:y=x)=>a.1 (by grind))).mpr (h y (Sf _ b))
  grind
def Top.eL(t:Top RL M U pile C S):S.settled.flat.length<=U.length/\S.told.length<=U.length:=by
 obtain⟨G,g1,g2,c⟩:=t.cnt.G;constructor
 .rw[<- g2];exact bL G U g1 λa g=>by obtain⟨q,d⟩:=c a g;obtain⟨_,v,e,_⟩:=t.b.sd a q d;exact t.b.tu a v e
 .have:=bL (S.told.map (·.1)) U t.b.tk λa g=>by obtain⟨x,f,rfl⟩:=Se.mp g;exact t.b.tu x.1 x.2 (sX t.b.tk f)
  rwa [R9]at this
def Top.fit(t:Top RL M U pile C S)(c:C+RL.length*(U.length*U.length)<L)(d:RL.length*U.length<L)(e:U.length<L):js S:=by obtain⟨a,f⟩:=t.eL;have g:=gC t.b.q.ok;have h:=gC t.cnt.so;have i:=gC t.lk.ok;have j:=t.cnt.pn;have k:RL.length*(S.settled.flat.length*S.settled.flat.length)<=RL.length*(U.length*U.length):=VH _ (Vc a a);have l:=t.cnt.ln;have m:RL.length*S.settled.flat.length<=RL.length*U.length:=VH _ a;constructor<;>lia
def Top.loop(P:q5 pile)(s:ug RL M U rs)(f:∀k,(rs.get k).length<=RL.length)(m:C+RL.length*(U.length*U.length)<L)(o:RL.length*U.length<L)(p:U.length<L) :
 ∀(a b:Nat)(S:PS),Top RL M U pile C S->U.length-S.settled.flat.length<=a->S.aJ.flat.length<=b->∃n T,Loop pile rs n S T/\Top RL M U pile C T/\T.aJ=[]:=by
 have step:∀S,Top RL M U pile C S->S.aJ≠[]->let S2:=batch pile rs (Pz.take pile S) (dz pile S.aJ);Top RL M U pile C S2/\(∀n T,Loop pile rs n S2 T->Loop pile rs (n+1) S T)/\
  (S.settled.flat.length<S2.settled.flat.length\/S2.settled.flat.length=S.settled.flat.length/\S2.aJ.flat.length<S.aJ.flat.length):=by
  intro S t c;obtain⟨i,h1,z⟩:=I.batch s f _ (t.take P c);have w:=i.top;refine⟨w,λn T l=>.step c t.b.q (λx u=>?_) (t.fit m o p) (w.fit m o p) l,?_⟩
  .obtain⟨v,e,_⟩:=t.b.it x.1 x.2 (.inl ((yf P t.b.q c).pm.mem_iff.mpr (Sk.mpr (.inl u))));rw[e];simp
  have k:=yf P t.b.q c;by_cases e:(batch pile rs (Pz.take pile S) (dz pile S.aJ)).settled.flat.length=S.settled.flat.length
  .refine .inr ⟨e,?_⟩;rw[z e];show(left pile S.aJ).flat.length<_;rw[k.pm.length_eq,Sm];have:=VG.mpr k.ne;lia
  .have h1:S.settled.flat.length<=(batch pile rs (Pz.take pile S) (dz pile S.aJ)).settled.flat.length:=h1;exact .inl (by lia)
 intro a;induction a with
 |zero=>
  intro b;induction b with
  |zero=>intro S t _ y;have:S.aJ=[]:=S6.mp (by have:=gC t.b.q.ok;lia);exact⟨0,S,.done this,t,this⟩
  |succ b g=>
   intro S t A y;by_cases c:S.aJ=[]
   .exact⟨0,S,.done c,t,c⟩
   obtain⟨w,d,hd⟩:=step S t c;have:=w.eL.1;obtain⟨n,T,l,r⟩:=g _ w (by rcases hd with h|h<;>lia) (by rcases hd with h|h<;>lia);exact⟨_,T,d _ _ l,r⟩
 |succ a j=>
  intro b;induction b with
  |zero=>intro S t _ y;have:S.aJ=[]:=S6.mp (by have:=gC t.b.q.ok;lia);exact⟨0,S,.done this,t,this⟩
  |succ b g=>
   intro S t A y;by_cases c:S.aJ=[]
   .exact⟨0,S,.done c,t,c⟩
   obtain⟨w,d,hd⟩:=step S t c;have:=w.eL.1;rcases hd with h|h
   .obtain⟨n,T,l,r⟩:=j _ _ w (by lia) (R7 _);exact⟨_,T,d _ _ l,r⟩
   .obtain⟨n,T,l,r⟩:=g _ w (by lia) (by lia);exact⟨_,T,d _ _ l,r⟩
end Pz
namespace Pz
noncomputable def en:List Rule->Nat->List (Int×Rule)
 |[],_=>[]
 |r::l,k=>((k:Int),r)::en l (k+1)
theorem en_mem:∀{l:List Rule}{k:Nat}{n:Int}{r:Rule},(n,r)∈en l k↔∃j:Nat,n=((k+j:Nat):Int)/\l[j]?=some r
 |[],k,n,r=>⟨λh=>(Sx h).elim,λ⟨j,_,h⟩=>by simp at h⟩
 |x::l,k,n,r=>by
  unfold en;rw[Sq,en_mem];constructor
  .rintro (h|⟨j,rfl,h⟩)
   .obtain⟨rfl,rfl⟩:=Prod.mk.inj h;exact⟨0,rfl,rfl⟩
   .exact⟨j+1,by lia,by simpa using h⟩
  .rintro⟨j,rfl,h⟩;cases j with
   |zero=>left;simp at h;subst h;rfl
   |succ j=>exact .inr ⟨j,by lia,by simpa using h⟩
theorem nE:∀(l:List Rule)(k:Nat),(en l k).length=l.length:=by intro l;induction l<;>grind [en]
def byOne(d:RS)(x:Int×Rule):RS:=if x.2.2.2.2.length>0 then d.app (x.2.2.2.1,x.2.2.2.2[0]?.getD 0) x else d
def bM(a:List Rule):RS:=(en a 0).foldl byOne []
def yj(d:RS)(x:Int×Rule)(k:Int×Int)(z:Int×Rule):z∈(byOne d x).get k↔z∈d.get k\/(z=x/\∃y l,x.2.2.2.2=y::l/\k=(x.2.2.2.1,y)):=by
 unfold byOne;cases h:x.2.2.2.2 with
 |nil=>grind
 |cons y l=>
  rw[Sg (by simp),fR]
  grind
theorem qF:∀(l:List (Int×Rule))(d:RS)(k:Int×Int)(z:Int×Rule),z∈(l.foldl byOne d).get k↔z∈d.get k\/(z∈l/\∃y a,z.2.2.2.2=y::a/\k=(z.2.2.2.1,y))
 |[],d,k,z=>⟨.inl,λq=>q.elim id λq=>(Sx q.1).elim⟩
 |x::l,d,k,z=>by
  rw[Ul,qF l,yj,Sq];constructor
  .rintro ((h|⟨rfl,h⟩)|⟨h1,b⟩)
   .exact .inl h
   .exact .inr ⟨.inl rfl,h⟩
   .exact .inr ⟨.inr h1,b⟩
  .rintro (h|⟨rfl|h1,b⟩)
   .exact .inl (.inl h)
   .exact .inl (.inr ⟨rfl,b⟩)
   .exact .inr ⟨h1,b⟩
theorem by_len:∀(l:List (Int×Rule))(d:RS),d.Ok->(l.foldl byOne d).Ok/\(l.foldl byOne d).flat.length<=d.flat.length+l.length
 |[],d,h=>⟨h,R7 _⟩
 |x::l,d,h=>by
  rw[Ul,SG];have:(byOne d x).Ok/\(byOne d x).flat.length<=d.flat.length+1:=by
   unfold byOne;split
   .exact⟨nw h _ _,Wt (fy h.nk _ _).length_eq⟩
   .exact⟨h,by lia⟩
  obtain⟨a,b⟩:=by_len l _ this.1;exact⟨a,by lia⟩
theorem tf{κ α:Type}:MD.Ok (κ:=κ) (α:=α) []:=⟨S1,λ_ h=>(Sx h).elim⟩
def Hr(a:List Rule):(bM a).Ok/\(bM a).flat.length<=a.length:=by
 grind [bM,en,MD.flat,by_len,tf,nE]
noncomputable def S0:PS:=⟨[],0,[],[],[]⟩
variable(pile:Int->Int->Int)
def g5(S:PS)(a:Arr):PS:=be pile S a 0 none none
def eG(S:PS)(x:Int×Rule):PS:=if x.2.2.2.2.length=0 then be pile S (x.2.1,x.2.2.1,x.2.2.2.1) 1 (some x.1) none else S
def iH(a:List Rule)(M:List Arr):PS:=(en a 0).foldl (eG pile) (M.foldl (g5 pile) S0)
variable{pile}
structure zg(a:List Rule) (M U:List Arr) (pile:Int->Int->Int) (S:PS) (k:Nat):Prop where
 b:B a M pile U S []
 l0:S.last=0
 s0:S.settled=[]
 k0:S.aL=[]
 len:S.aJ.flat.length<=k
def zg.no(h:zg RL M U pile S k)(a:Arr)(q:Int):¬Sd S a q:=by unfold Sd;rw[h.s0];exact λh=>(Sx h).elim
theorem zg.be(h:zg RL M U pile S k)(c:Just RL M (Sd S) a (p,n,m))(d:a∈U)(e:0<=p)(g:a∈M->fW S a 0\/(p,n,m)=(0,none,none)):zg RL M U pile (be pile S a p n m) (k+1):=by obtain⟨i,j,f⟩:=gE (pile:=pile) (S:=S) a p n m;exact⟨h.b.be c d (by rwa[h.l0]) (λh=>(Sx h).elim) (h.no _ _) g,by rw[f];exact h.l0,by rw[i];exact h.s0,by rw[j];exact h.k0,SE (pM h.b.q.ok _ _ _ _) (Nat.add_le_add_right h.len 1)⟩
def NO:zg RL M U pile S0 0:=by have no:∀{a:Type}{x:a},x∉([]:List a):=λh=>(Sx h).elim;exact⟨⟨⟨tf,TU _,λ_ h=>(no h).elim⟩,S1,S1,S1,(λ_ _ h=>nomatch h),(λ_ _ h=>nomatch h),(λ_ _ h=>nomatch h),(λ_ _ h=>(no h).elim),(λ_ _ h=>nomatch h),(λ_ _ h=>h.elim (λh=>(no h).elim) λh=>(no h).elim),(λ_ _ h=>h.elim (λh=>(no h).elim) λh=>(no h).elim),(λ_ _ h=>nomatch h)⟩,rfl,rfl,rfl,R7 _⟩
theorem Kk:∀(l:List Arr){S:PS}{k:Nat},zg RL M U pile S k->(∀a∈l,a∈M/\a∈U)->zg RL M U pile (l.foldl (g5 pile) S) (k+l.length)/\(∀a p,fW S a p->fW (l.foldl (g5 pile) S) a p)/\∀a∈l,fW (l.foldl (g5 pile) S) a 0
 |[],S,k,h,_=>⟨h,λ_ _ h=>h,λ_ h=>(Sx h).elim⟩
 |a::l,S,k,h,c=>by
  obtain⟨h1,i⟩:=c a Sa;have e:=h.be (a:=a) (p:=0) (n:=none) (m:=none) ⟨rfl,rfl,h1⟩ i (TU _) λ_=>.inr rfl;obtain⟨f,d,g⟩:=Kk l e λb hb=>c b (Sf _ hb);rw[Ul,SG,Wu l.length,<- U3];refine⟨f,λb p h=>d b p (gD h),λb hb=>?_⟩;rcases Sq.mp hb with rfl|hb
  .exact d _ _ (ja _ _ _ _)
  .exact g b hb
theorem Kl(t:∀r∈RL,(r.1,r.2.1,r.2.2.1)∈U):∀(l:List (Int×Rule)){S:PS}{k:Nat},zg RL M U pile S k->(∀a∈M,fW S a 0)->(∀x∈l,∃j:Nat,x.1=j/\RL[j]?=some x.2)->
 zg RL M U pile (l.foldl (eG pile) S) (k+l.length)/\(∀a p,fW S a p->fW (l.foldl (eG pile) S) a p)/\∀x∈l,x.2.2.2.2=[]->fW (l.foldl (eG pile) S) (x.2.1,x.2.2.1,x.2.2.2.1) 1
 |[],S,k,h,_,_=>⟨h,λ_ _ h=>h,λ_ h=>(Sx h).elim⟩
 |x::l,S,k,h,u,c=>by
  obtain⟨j,w,v⟩:=c x Sa;have s:zg RL M U pile (eG pile S x) (k+1)/\(∀a p,fW S a p->fW (eG pile S x) a p)/\(x.2.2.2.2=[]->fW (eG pile S x) (x.2.1,x.2.2.1,x.2.2.2.1) 1):=by
   unfold eG;by_cases q:x.2.2.2.2.length=0
   .rw[Sg q];have e:=h.be (a:=(x.2.1,x.2.2.1,x.2.2.2.1)) (p:=1) (n:=some x.1) (m:=none) ⟨j,x.2,w,v,rfl,rfl,by rw[S6.mp q];exact⟨rfl,rfl,rfl⟩⟩ (t _ (SB v)) (by decide) λh=>.inl (u _ h);exact⟨e,λb p h=>gD h,λ_=>ja _ _ _ _⟩
   .rw[Sj q];exact⟨⟨h.b,h.l0,h.s0,h.k0,Nat.le_succ_of_le h.len⟩,λ_ _ h=>h,λe=>(q (by rw[e];rfl)).elim⟩
  obtain⟨y,d,g⟩:=s;obtain⟨i,f,o⟩:=Kl t l y (λa z=>d a 0 (u a z)) λb hb=>c b (Sf _ hb);rw[Ul,SG,Wu l.length,<- U3];refine⟨i,λb p h=>f b p (d b p h),λb hb e=>?_⟩;rcases Sq.mp hb with rfl|hb
  .exact f _ _ (g e)
  .exact o b hb e
structure Set(b:List Rule) (M U:List Arr):Prop where
 eL:∀r∈b,r.2.2.2.length<=2
 u1:∀a∈M,a∈U
 u2:∀r∈b,(r.1,r.2.1,r.2.2.1)∈U
 u3:∀r∈b,∀s x t,(s,x,t)∈U->(r.1,r.2.1,t)∈U
 big:M.length+b.length+b.length*(U.length*U.length)<L
 MQ:b.length*U.length<L
 MJ:U.length<L
def Set.MI(h:Set RL M U):ug RL M U (bM RL):=by
 refine⟨h.eL,λ{n r c x} q=>?_,λ{j r x l} a b=>?_,h.u1,h.u2,h.u3⟩
 .rcases (qF _ _ _ _).mp q with q|⟨q,y,l,e,k⟩
  .exact(Sx q).elim
  .obtain⟨j,a,b⟩:=en_mem.mp q
   grind
 .exact(qF _ _ _ _).mpr (.inr ⟨en_mem.mpr ⟨j,by grind,a⟩,x,l,b,rfl⟩)
def yk(h:Set RL M U):Top RL M U pile (M.length+RL.length) (iH pile RL M):=by
 obtain⟨f,p,e⟩:=Kk (RL:=RL) (M:=M) (U:=U) (pile:=pile) M NO λa s=>⟨s,h.u1 a s⟩;obtain⟨c,g,i⟩:=Kl h.u2 (en RL 0) f e λx k=>by obtain⟨j,v,u⟩:=en_mem.mp k;exact⟨j,by grind,u⟩
 have c:zg RL M U pile (iH pile RL M) _:=c;refine⟨c.b,λa s=>g a 0 (e a s),λj r m=>?_,⟨by rw[c.k0];exact tf,λ{n r q d y} h=>by rw[c.k0]at h;exact(Sx h).elim,λ_ _ h=>(c.no _ _ h).elim⟩,⟨by rw[c.s0];exact tf,⟨[],S1,by rw[c.s0];rfl,λ_ h=>(Sx h).elim⟩,by rw[c.k0];exact Sw _,?_⟩⟩
 .cases o:r.2.2.2 with
  |nil=>exact i ((j:Int),r) (en_mem.mpr ⟨j,by grind,m⟩) o
  |cons x l=>
   match l with
   |[]=>exact λt q h=>(c.no _ _ h).elim
   |[y]=>exact λd t w z h=>(c.no _ _ h).elim
   |_::_::_=>trivial
 .have:=c.len;rw[nE]at this;lia
def At(t:TD)(a:Arr)(q:Int):Prop:=∃w,bB t a=some w/\w.1=q
def NP(t:TD)(a:Arr)(q:Int):Prop:=∃w,bB t a=some w/\w.1<=q
structure Good(RL:List Rule) (M U:List Arr) (t:TD):Prop where
 nd:(t.map (·.1)).Nodup
 u:∀a v,bB t a=some v->a∈U
 ju:∀a v,bB t a=some v->Just RL M (At t) a v
 ps:∀a v,bB t a=some v->0<=v.1
 m0:∀a∈M,bB t a=some (0,none,none)
 CH:∀(j:Nat)(r:Rule),RL[j]?=some r->match r.2.2.2 with
  |[]=>NP t (r.1,r.2.1,r.2.2.1) 1
  |[x]=>∀d q,At t (r.2.2.1,x,d) q->NP t (r.1,r.2.1,d) (q+1)
  |[x,y]=>∀d e q1 q2,At t (r.2.2.1,x,d) q1->At t (d,y,e) q2->NP t (r.1,r.2.1,e) (q1+q2+1)
  |_=>True
def Top.good(h:Top RL M U pile C S)(e:S.aJ=[]):Good RL M U S.told:=by
 have i:∀a q,Sd S a q↔At S.told a q:=λa q=>by
  constructor
  .intro k;exact(h.b.sd a q k).2
  .rintro⟨w,k,rfl⟩;rcases h.b.sp a w k with k|k|k
   .exact k
   .rw[e]at k;exact(Sx k).elim
   .exact(Sx k).elim
 refine⟨h.b.tk,h.b.tu,λa v k=>(h.b.ju a v k).mono RL M λa q=>(i a q).mp,h.b.ps,λa m=>?_,λj r g=>?_⟩
 .obtain⟨v,k,_⟩:=h.mh a m;rw[k,h.b.m0 a v k m]
 .have c:=h.CH j r g;cases f:r.2.2.2 with
  |nil=>rwa[f]at c
  |cons x l=>
   rw[f]at c
   match l with
   |[]=>exact λt q k=>c t q ((i _ _).mpr k)
   |[y]=>exact λd t n o k1 k2=>c d t n o ((i _ _).mpr k1) ((i _ _).mpr k2)
   |_::_::_=>trivial
def Set.run(P:q5 pile)(h:Set RL M U):js (iH pile RL M)/\∃n T,Loop pile (bM RL) n (iH pile RL M) T/\Good RL M U T.told:=by have t:=yk (pile:=pile) h;obtain⟨n,T,l,a,e⟩:=t.loop P h.MI (λk=>SE (lW _ k) (Hr RL).2) h.big h.MQ h.MJ _ _ _ (R7 _) (R7 _);exact⟨t.fit h.big h.MQ h.MJ,n,T,l,a.good e⟩
end Pz
namespace Pz
def DM(x y k:Nat):(x ||| y)-(x &&& y)<2^k↔x/2^k=y/2^k:=by
 have c:(x ||| y)/2^k=x/2^k ||| y/2^k:=by rw[<- Um,<- Um,<- Um,Nat.shiftRight_or_distrib]
 have d:(x &&& y)/2^k=x/2^k &&& y/2^k:=by rw[<- Um,<- Um,<- Um,Nat.shiftRight_and_distrib]
 have e:(x ||| y)%2^k=x%2^k ||| y%2^k:=Nat.or_mod_two_pow;have f:(x &&& y)%2^k=x%2^k &&& y%2^k:=Nat.and_mod_two_pow;have a:0<2^k:=Nat.two_pow_pos k;have g:=Nat.div_add_mod (x ||| y) (2^k);have i:=Nat.div_add_mod (x &&& y) (2^k);have j:=WI (x ||| y) a;have l:x/2^k &&& y/2^k<=x/2^k:=Nat.and_le_left;have m:x/2^k &&& y/2^k<=y/2^k:=Nat.and_le_right;have n:x/2^k<=x/2^k ||| y/2^k:=Nat.left_le_or;have o:y/2^k<=x/2^k ||| y/2^k:=Nat.right_le_or;have p:x%2^k &&& y%2^k<=x%2^k:=Nat.and_le_left;have q:x%2^k<=x%2^k ||| y%2^k:=Nat.left_le_or;constructor
 .intro h;refine Nat.le_antisymm ?_ ?_
  all_goals
   refine Nat.not_lt.mp λr=>?_;have b:(x &&& y)/2^k+1<=(x ||| y)/2^k:=by lia
   have s:=VH (2^k) b;rw[WB,Nat.mul_one]at s;lia
 .grind
def DN(z k:Nat):(if((z:Int)==0)=true then 0 else(z:Int).natAbs.log2+1)<=k↔z<2^k:=by
 rw[Int.natAbs_natCast];by_cases h:z=0
 .subst h;rw[Sg (by decide)];exact⟨λ_=>Nat.two_pow_pos k,λ_=>Sw _⟩
 .have:¬((z:Int)==0)=true:=by simpa using h
  rw[Sj this];exact Nat.log2_lt h
end Pz
namespace L4
open L2 L3
section
variable{z:Type}[DecidableEq z]
noncomputable abbrev DX(z:Type):=List (z×Addr×List V)
noncomputable abbrev DX.kv(a:DX z):List (z×V):=a.map λx=>(x.1,V.ref x.2.1)
structure DL(mk:List (z×V)->HO) (H:Hp) (a:Addr) (b:DX z):Prop where
 root:H a=some (mk b.kv)
 ri:∀x∈b,H x.2.1=some (.lst x.2.2)
 nk:(b.map (·.1)).Nodup
 na:(b.map (·.2.1)).Nodup
def cS(a:Addr)(c:DX z)(b:Addr):Prop:=b=a\/∃x∈c,b=x.2.1
noncomputable def fS(a:DX z)(k:z):Option (Addr×List V):=(a.find? λx=>decide (x.1=k)).map (·.2)
noncomputable def kK(a:DX z)(k:z)(v:V):DX z:=a.map λx=>if x.1=k then(x.1,x.2.1,x.2.2++[v])else x
def jD(b:DX z)(k:z):cp b.kv k=(fS b k).map λp=>.ref p.1:=by
 induction b with
 |nil=>rfl
 |cons x r a=>
  unfold fS at a ⊢;show cp ((x.1,V.ref x.2.1)::DX.kv r) k=_;rw[UF];by_cases h:x.1=k
  .rw[dk h,Sz h];rfl
  .rw[dm h,Tw h,a]
def yl(a:DX z)(k:z)(v:V):(kK a k v).kv=a.kv:=by unfold kK DX.kv;rw[Tg];apply SR;intro x _;show((if x.1=k then(x.1,x.2.1,x.2.2++[v])else x).1,V.ref (if x.1=k then(x.1,x.2.1,x.2.2++[v])else x).2.1)=_;split<;>rfl
def nF{e:Type}(f:z×Addr×List V->e)(g:∀a b c d,f (a,b,c)=f (a,b,d))(h:DX z)(k:z)(v:V):(kK h k v).map f=h.map f:=by
 unfold kK;rw[Tg];apply SR;intro x _;show f (if x.1=k then(x.1,x.2.1,x.2.2++[v])else x)=_;split
 .exact g _ _ _ _
 .rfl
def dC{d:DX z}(h:fS d k=some p):(k,p)∈d:=by unfold fS at h;obtain⟨x,c,rfl⟩:=Tf.mp h;have h1:=List.find?_some c;have f:=List.mem_of_find?_eq_some c;have e:x.1=k:=SO h1;obtain⟨a,b⟩:=x;dsimp only at e;subst e;exact f
def ym{c:DX z}(h:fS c k=none):k∉c.map (·.1):=λa=>by obtain⟨x,b,rfl⟩:=Se.mp a;unfold fS at h;have:=List.find?_eq_none.mp (Option.map_eq_none_iff.mp h) x b;simp at this
variable{mk:List (z×V)->HO}
def DL.old(f:∀q t,mk q≠.lst t)(G:DL mk H a xs)(m:fS xs k=some p)(w:H' p.1=some (.lst (p.2++[v])))(s:∀c u,H c=some u->c≠p.1->H' c=some u):DL mk H' a (kK xs k v):=by
 have g:=dC m;have h:a≠p.1:=λe=>by have:=G.ri _ g;dsimp only at this;rw[<- e,G.root]at this;exact f _ _ (Th this)
 refine⟨by rw[yl];exact s _ _ G.root h,λx n=>?_,by rw[nF _ (λ_ _ _ _=>rfl)];exact G.nk,by rw[nF _ (λ_ _ _ _=>rfl)];exact G.na⟩;obtain⟨y,l,rfl⟩:=Se.mp n;by_cases e:y.1=k
 .rw[Sg e];have:y=(k,p):=by
   have h1:(xs.map (·.1)).Nodup:=G.nk;obtain⟨i,d⟩:=SC.mp l;obtain⟨j,b⟩:=SC.mp g;have o:(xs.map (·.1))[i]?=some k:=by rw[Su,d];exact T_ some e
   have r:(xs.map (·.1))[j]?=some k:=by rw[Su,b];rfl
   have:i=j:=(V7 (Si.mp o).1 h1).mp (o.trans r.symm);subst this;rw[d]at b;exact Th b
  subst this;exact w
 .rw[Sj e];refine s _ _ (G.ri y l) λq=>e ?_;obtain⟨i,d⟩:=SC.mp l;obtain⟨j,b⟩:=SC.mp g;have o:(xs.map (·.2.1))[i]?=some p.1:=by rw[Su,d];exact T_ some q
  have r:(xs.map (·.2.1))[j]?=some p.1:=by rw[Su,b];rfl
  have:i=j:=(V7 (Si.mp o).1 G.na).mp (o.trans r.symm);subst this;rw[d]at b;rw[Th b]
def DL.new(g:∀q n,mk q≠.lst n)(G:DL mk H a xs)(i:fS xs k=none)(j:H l=none)(o:H' l=some (.lst [v]))(r:H' a=some (mk (xs.kv++[(k,.ref l)])))(p:∀c u,H c=some u->c≠a->H' c=some u):DL mk H' a (xs++[(k,l,[v])]):=by
 have nl:∀x∈xs,x.2.1≠l:=λx d e=>by have:=G.ri x d;rw[e,j]at this;cases this
 refine⟨by grind,λx d=>?_,?_,?_⟩
 .rcases Sk.mp d with h|h
  .refine p _ _ (G.ri x h) λe=>?_;have:=G.ri x h;rw[e,G.root]at this;exact g _ _ (Th this)
  .rw[Sb]at h;subst h;exact o
 .rw[SN,SX];exact⟨G.nk,by simp,λb m c f e=>by rw[SD,UL,Sb]at f;subst f;subst e;exact ym i m⟩
 .rw[SN,SX];exact⟨G.na,by simp,λb m c f e=>by rw[SD,UL,Sb]at f;subst f;subst e;obtain⟨x,d,q⟩:=Se.mp m;exact nl x d q⟩
end
def Reads(t:TE)(a:L2.St)(H:Hp)(v:V):Prop:=∀Q:VK,Q v H->t a H Q
def Makes(t:TE)(a:L2.St)(H:Hp)(b:List V):Prop:=∀Q:VK,(∀p,H p=none->Q (.ref p) (upd H p (.tup b)))->t a H Q
section
variable{K:WK}
def Reads.va(h:σ[i]?=some (some v)):Reads (aj i) σ H v:=λ_ q=>⟨_,h,q⟩
def Reads.k:Reads (tC v) σ H v:=λ_ q=>q
def Reads.op(a:Reads ta σ H x)(b:Reads tb σ H y)(h:∀Q:VK,Q z H->r x y H Q):Reads (ba r ta tb) σ H z:=λQ q=>a _ (b _ (h Q q))
def Reads.ix(h:Reads ta σ H (.ref b))(a:H b=some (.tup ws))(e:vZ ws n=some v):Reads (ba (lD K) ta (tC (.int n))) σ H v:=h.op .k λ_ q=>⟨b,ws,n,v,rfl,rfl,SqT.of a,e,q⟩
def Reads.fld(h:Reads ta σ H (.ref o))(a:∃c,H o=some (.ins C c fs))(d:rf K C)(n:NoAttr K C f)(b:fs.lookup f=some v):Reads (dX K ta f) σ H v:=λQ q=>by obtain⟨c,a⟩:=a;exact h _ ⟨o,C,c,_,_,rfl,a,d,n,b,q⟩
def Hu(h:Reads ta σ H (.ref o))(a:∃c,H o=some (.ins C c fs))(d:rf K C)(n:NoAttr K C f)(b:fs.lookup f=some v)(q:Q v H):dX K ta f σ H Q:=Reads.fld h a d n b _ q
def ReadsA(t:TA)(a:L2.St)(H:Hp)(b:List V):Prop:=∀Q:List V->Hp->Prop,Q b H->t a H Q
def ReadsA.ni:ReadsA aF σ H []:=λ_ q=>q
def ReadsA.c(h:Reads ta σ H v)(k:ReadsA tr σ H vs):ReadsA (ah ta tr) σ H (v::vs):=λ_ q=>h _ (k _ q)
def Makes.t(h:ReadsA tr σ H ws)(l:Nat.ble ws.length 9=true):Makes (cm tr) σ H ws:=λ_ q=>h _ ⟨SE (Nat.le_of_ble_eq_true l) (by decide),q⟩
def lI(h:ReadsA tr σ H ws)(l:Nat.ble ws.length 9=true)(k:∀p,H p=none->Q (.ref p) (upd H p (.tup ws))):cm tr σ H Q:=Makes.t h l _ k
def tj(h:Reads ta σ H (.ref b))(a:∃d,H b=some (.ins C d fs))(c:fs.lookup m=none)(e:ReadsA tr σ H vs)(k:sp (.ref b::(vs++dvs)) H Q E):eF C m sp dvs E ta tr σ H Q:=by obtain⟨d,a⟩:=a;exact h _ ⟨b,d,fs,rfl,a,c,e _ k⟩
def wD{Q:L2.St->Hp->Prop}(a:H b=some (.tup [v,w]))(k:Q ((σ.set i (some v)).set j (some w)) H):c9 K 2 (aR (aA i) (aR (aA j) cZ)) (.ref b) σ H Q:=⟨b,_,rfl,SqT.of a,rfl,_,_,rfl,_,_,rfl,rfl,k⟩
def g7{t u:TS}{D:Ends}(h:Reads te σ H (.bl c))(k1:c=true->t D σ H)(k2:¬c=true->u D σ H):dQ (bO te) t u D σ H:=h _ ⟨_,rfl,qj k1 k2⟩
end
def kM{a:Type}[DecidableEq a](b:DX a)(k:a)(l:Addr)(v:V):DX a:=if(fS b k).isSome then kK b k v else b++[(k,l,[v])]
def nG(K:WK)(a b c:TE):TE:=qc K "list" cW (qc K "dict" qu a (ah b (ah (dR aF) aF))) (ah c aF)
def wF{M:Type}[DecidableEq M]{mk:List (M×V)->HO}(o:∀q L,mk q≠.lst L){K:WK}{N:TE}{O:L2.St}{H:Hp}{a l:Addr}{F:DX M}{k:M}{L:List V}{C:Hp->Prop}(G:DL mk H a F)(i:H l=none)
 (r:∀I,(∀c u,H c=some u->c≠a->I c=some u)->Makes N O I L) (E:∀x∈F,x.2.2.length<16000000)
 (B:∀(l p:Addr)(I:Hp),H l=none->H p=none->I p=some (.tup L)->DL mk I a (kM F k l (.ref p))->(∀c u,H c=some u->¬cS a F c->I c=some u)->C I) :
 (∃v,cp F.kv k=some v/\J1 K "list" v (upd H l (.lst []))/\ah N aF O (upd H l (.lst [])) λF w=>cW v F w λ_ I=>C I)\/(cp F.kv k=none/\J1 K "list" (.ref l) (upd (upd H l (.lst [])) a (mk (bG F.kv k (.ref l))))/\ah N aF O (upd (upd H l (.lst [])) a (mk (bG F.kv k (.ref l)))) λF w=>cW (.ref l) F w λ_ I=>C I):=by
 have Q:∀n,n<16000000->n<sizeLine:=λn h=>by rw[SQ];lia
 have y:H a≠none:=by rw[G.root];simp
 have f:a≠l:=λe=>y (by rwa[e]);have J:∀c u,H c=some u->upd H l (.lst []) c=some u:=λc u e=>by rwa[ai (ay e i)]
 cases d:fS F k with
 |some q=>
  left;have D:=G.ri _ (dC d);refine⟨.ref q.1,by rw[jD,d];rfl,.inl ⟨rfl,_,SqL.of (J _ _ D)⟩,r _ (λc u e _=>J c u e) _ λp j=>?_⟩;have b:H p=none:=(aw i).free j;have s:q.1≠p:=λe=>by grind
  refine⟨q.1,q.2,.ref p,rfl,rfl,by rw[ai s];exact J _ _ D,Q _ (E _ (dC d)),?_⟩;have P:∀c u,H c=some u->c≠q.1->upd (upd (upd H l (.lst [])) p (.tup L)) q.1 (.lst (q.2++[.ref p])) c=some u:=λc u e g=>by rw[ai g,ai (ay e b)];exact J c u e
  refine B l p _ i b (by rw[ai (Tp s),ac]) ?_ λc u e g=>P c u e λz=>g (.inr ⟨_,dC d,z⟩);unfold kM;rw[d,Sg (by simp)];exact G.old o d ac P
 |none=>
  right;refine⟨by rw[jD,d];rfl,.inl ⟨rfl,[],SqL.of (by rw[ai (Tp f),ac])⟩,r _ (λc u e g=>by rw[ai g];exact J c u e) _ λp j=>?_⟩;have A:cp F.kv k=none:=by rw[jD,d];rfl
  have t:p≠a:=λe=>by rw[e,ac]at j;cases j
  have m:p≠l:=λe=>by rw[e,ai (Tp f),ac]at j;cases j
  have b:H p=none:=by rwa[ai t,ai m]at j
  refine⟨l,[],.ref p,rfl,rfl,by rw[ai (Tp m),ai (Tp f),ac],by decide,?_⟩;refine B l p _ i b (by rw[ai m,ac]) ?_ λc u e g=>?_
  .unfold kM;rw[d,Sj (by simp)];refine G.new o d i ac (by rw[ai f,ai (Tp t),ac,cI _ A]) λc u e g=>?_;rw[ai (ay e i),ai (ay e b),ai g];exact J c u e
  .rw[ai (ay e i),ai (ay e b),ai (λz=>g (.inl z))];exact J c u e
def qG{K:WK}{o q r:TE}{n:L2.St}{H:Hp}{C:Hp->Prop}(G:DL .dT H a xs)(f:Reads o n H (.ref a))(g:Reads q n H (.ref b))(t:H b=some (.tup (k.map kV)))
 (h:∀m,(∀c u,H c=some u->c≠a->m c=some u)->Makes r n m ws) (v:xs.length<16000000) (i:∀x∈xs,x.2.2.length<16000000)
 (j:∀(l p:Addr)(m:Hp),H l=none->H p=none->m p=some (.tup ws)->DL .dT m a (kM xs k l (.ref p))->(∀c u,H c=some u->¬cS a xs c->m c=some u)->C m) :
 nG K o q r n H λ_ m=>C m:=by
 have s:∀l,H l=none->∀c u,H c=some u->upd H l (.lst []) c=some u:=λl d c u e=>by rwa[ai (ay e d)]
 exact f _ ⟨.inr (.inr (.inl ⟨rfl,.inr ⟨_,G.root⟩⟩)),g _ ⟨Sw _,λl d=>⟨a,b,k,.ref l,xs.kv,rfl,rfl,s l d _ _ t,.inl (s l d _ _ G.root),by unfold DX.kv;rw[R9,SQ];lia,wF (mk:=.dT) (λ_ _ z=>HO.noConfusion z) G d h i j⟩⟩⟩
def FZ(K:WK)(a b c:TE):TE:=qc K "list" cW (qc K "dict" FR a (ah b (ah (dR aF) aF))) (ah c aF)
def DO{K:WK}{m n o:TE}{k:L2.St}{H:Hp}{C:Hp->Prop}(G:DL .dK H a xs)(d:Reads m k H (.ref a))(e:Reads n k H (.int i))
 (f:∀j,(∀c u,H c=some u->c≠a->j c=some u)->Makes o k j ws) (r:xs.length<16000000) (g:∀x∈xs,x.2.2.length<16000000)
 (h:∀(l p:Addr)(j:Hp),H l=none->H p=none->j p=some (.tup ws)->DL .dK j a (kM xs (.inl i) l (.ref p))->(∀c u,H c=some u->¬cS a xs c->j c=some u)->C j) :
 FZ K m n o k H λ_ j=>C j:=by
 have q:∀l,H l=none->upd H l (.lst []) a=some (.dK xs.kv):=λl b=>by rw[ai (ay G.root b)];exact G.root
 exact d _ ⟨.inr (.inr (.inl ⟨rfl,.inl ⟨_,G.root⟩⟩)),e _ ⟨Sw _,λl b=>⟨a,.inl i,.ref l,xs.kv,rfl,rfl,.inl (q l b),by unfold DX.kv;rw[R9,SQ];lia,wF (mk:=.dK) (λ_ _ z=>HO.noConfusion z) G b f g h⟩⟩⟩
section
def F0:V->List V->Hp->VK->Prop:=λx a H Q=>∃i,x=.int i/\a=[]/\Q (.int (Builtin.Int.intBits i)) H
def DP:FN X "int.bit_length" F0:=by rintro b s c H x d v e Q I a rs⟨i,rfl,rfl,q⟩;obtain⟨t,rfl⟩:=a;cases rs;exact call_int_bit_length ⟨.int _,H,I.tok _,⟨_,rfl⟩,q⟩
end
structure JB(C:Addr) (H:Hp) (q c:Addr) (a:Int) (b:DX bc):Prop where
 ins:∃d,H q=some (.ins C d [("last",.int a),("piles",.ref c)])
 aJ:DL .dK H c b
 eL:b.length<16000000
 low:∀x∈b,x.2.2.length<16000000
structure rC(K:WK) (C:Addr):Prop where
 cl:rf K C
 nl:NoAttr K C "last"
 np:NoAttr K C "piles"
noncomputable def aE(a b:Int):Int:=Builtin.Int.intBits (Builtin.bitXor a b)
def Km(K:WK):TE:=FZ K (dX K (aj 0) "piles") (zK K "int" F0 (ba (uh λi j=>.int (Builtin.bitXor i j)) (aj 1) (dX K (aj 0) "last"))) (cm (ah (aj 1) (ah (aj 2) aF)))
def Hv{K:WK}{C q n b:Addr}{H:Hp}{d:Hp->Prop}(T:rC K C)(G:JB C H q n last xs)(r:σ[0]?=some (some (.ref q)))(h1:σ[1]?=some (some (.int price)))(t:σ[2]?=some (some (.ref b)))
 (e:∀(l p:Addr)(m:Hp),H l=none->H p=none->m p=some (.tup [.int price,.ref b])->(∃o,m q=some (.ins C o [("last",.int last),("piles",.ref n)]))->DL .dK m n (kM xs (.inl (aE price last)) l (.ref p))->(∀c u,H c=some u->¬cS n xs c->m c=some u)->d m) :
 Km K σ H λ_ m=>d m:=by
 obtain⟨o,a⟩:=G.ins;have f:¬cS n xs q:=λz=>by
  rcases z with z|⟨x,g,z⟩
  .have:=G.aJ.root;rw[<- z,a]at this;cases this
  .have:=G.aJ.ri x g;rw[<- z,a]at this;cases this
 refine DO (ws:=[.int price,.ref b]) (i:=aE price last) G.aJ (λQ h=>⟨_,r,q,C,o,_,_,rfl,a,T.cl,T.np,rfl,h⟩) (λQ h=>?_) (λm _ Q h=>⟨_,h1,_,t,(by show 2<=sizeLine;decide),h⟩) G.eL G.low λl p m j k v hd s=>e l p m j k v ⟨o,s _ _ a f⟩ hd s;exact⟨_,h1,_,r,q,C,o,_,_,rfl,a,T.cl,T.nl,rfl,_,_,rfl,rfl,rfl,_,rfl,rfl,h⟩
inductive uf(C:Addr):Sp
 |mk {q ap b:Addr} {last price:Int} {xs:DX bc} {H:Hp} {Q:VK} {E:XK} (G:JB C H q ap last xs) (k:∀(l p:Addr)(H':Hp),H l=none->H p=none->H' p=some (.tup [.int price,.ref b])->(∃dx,H' q=some (.ins C dx [("last",.int last),("piles",.ref ap)]))->DL .dK H' ap (kM xs (.inl (aE price last)) l (.ref p))->(∀c u,H c=some u->¬cS ap xs c->H' c=some u)->Q .cj H'):uf C [.ref q,.int price,.ref b] H Q E
def A4{K:WK}{C:Addr}{b:List V}(T:rC K C)(h:uf C b H Q E)(a:N.length=3):b9 (Km K) (eQ Q) (aZ N b) H:=by obtain⟨G,k⟩:=h;exact Hv T G rfl rfl rfl k
section
variable{B:Type}[DecidableEq B]{mk:List (B×V)->HO}{H C:Hp}{a:Addr}{A:DX B}{k:B}{p:Addr×List V}
noncomputable def j6(A:DX B)(k:B):DX B:=A.filter λx=>decide (x.1≠k)
theorem A6(A:DX B)(k:B):(j6 A k).kv=ji A.kv k:=by unfold j6 ji DX.kv;rw[List.filter_map];rfl
theorem DL.drop(h:∀q t,mk q≠.lst t)(G:DL mk H a A)(m:fS A k=some p)(v:C a=some (mk (ji A.kv k)))(r:∀c u,H c=some u->c≠a->C c=some u) :
 DL mk C a (j6 A k)/\C p.1=some (.lst p.2)/\¬cS a (j6 A k) p.1:=by
 have g:=dC m;have b:∀x∈A,x.2.1≠a:=λx d e=>by have:=G.ri x d;rw[e,G.root]at this;exact h _ _ (Th this)
 have sub:(j6 A k).Sublist A:=List.filter_sublist;refine⟨⟨by rwa[A6],λx d=>?_,(sub.map _).nodup G.nk,(sub.map _).nodup G.na⟩,r _ _ (G.ri _ g) (b _ g),λz=>?_⟩
 .have f:=(SJ.mp d).1;exact r _ _ (G.ri x f) (b x f)
 .rcases z with z|⟨x,d,z⟩
  .exact b _ g z
  .obtain⟨h1,w⟩:=SJ.mp d;have l:x.1≠k:=SO w;obtain⟨i,n⟩:=SC.mp h1;obtain⟨j,o⟩:=SC.mp g;have s:(A.map (·.2.1))[i]?=some p.1:=by grind
   have y:(A.map (·.2.1))[j]?=some p.1:=by grind
   have:i=j:=(V7 (Si.mp s).1 G.na).mp (s.trans y.symm);subst this;rw[n]at o;exact l (by grind)
end
end L4
namespace L4
open PySem.Calls L2 L3
section
abbrev tp(v d:Addr):HO:=.ext λh=>PySem.W.KdlKeysView h v d
def F1:V->List V->Hp->VK->Prop:=λx c H Q=>∃a b,x=.ref a/\c=[]/\H a=some (.dK b)/\∀v,H v=none->Q (.ref v) (upd H v (tp v a))
def DQ:FN X "dict.keys" F1:=by rintro j s l H x m v n Q I b rs⟨a,g,rfl,rfl,h,q⟩;obtain rfl:v=Value.ref a:=b;cases rs;obtain⟨z,hd,i,c,dd⟩:=rX I.aS h;refine Vn PySem.F.slot_dict_keys dd.typeIs PySem.F.entry_dict_keys (PySem.F.args_dict_keys_1 _) (PySem.W.kdl_meets_keys (aH X.prog X.w) a hd) ?_;have d:PySem.W.KdlKeysView (s.heap.push { cls:=.type "dict_keys",data:=.fields #[.ref a] }) s.z a:=⟨_,Sn _ rfl,rfl,rfl⟩;exact⟨⟨i,dd⟩,.ref s.z,_,I.laid (a:=s.z) (o:=tp s.z a) (t':=s.toks) (λ_ _ e=>R8 _ e) (R7 _) ⟨d,⟨_,Sn _ rfl⟩,λh1 p ⟨o,f,r⟩ k=>⟨o,k _ f,r⟩⟩,rfl,q _ (I.aS.fresh (R7 _))⟩
def F2:List V->Hp->VK->Prop:=λd H Q=>∃(v a:Addr)(b:List (bc×V))(c:List Int),d=[.ref v]/\H v=some (tp v a)/\H a=some (.dK b)/\b.map (·.1)=c.map Sum.inl/\c≠[]/\Q (.int (m9 c)) H
def yn(K:X.calm=true):bJ X (.builtin "min") F2:=by
 rintro ag s σ H xs us Q I r⟨v,a,O,P,rfl,m,Z,E,p,q⟩;obtain⟨u,rfl,ru⟩:=eB r;obtain rfl:u=Value.ref v:=ru;obtain⟨z,hd,V,f,dd⟩:=rX I.aS Z;obtain⟨y,_,_⟩:=(show ObjOk X.prog X.w H s.heap v (tp v a)from I.aS v _ m);obtain⟨ep,F⟩:=dd.dictAt;have L:=f.length;have M:O.length=P.length:=by have:=T_ List.length E;simpa using this
 have g:∀(i:Nat)(k:bc)(x:WM),V[i]?=some (k,x)->∃n,P[i]?=some n/\k=.inl n:=λi k x e=>by
  have G:i<O.length:=by rw[L];exact(Si.mp e).1
  obtain⟨S,_⟩:=f.at i _ _ (R_ G) e;have R:(O.map (·.1))[i]?=some k:=by rw[Su,R_ G];exact T_ some S
  rw[E,Su]at R;obtain⟨n,h1,h2⟩:=Tf.mp R;exact⟨n,h1,h2.symm⟩
 generalize c:(P.map λn=>(n,(0:Tok))).toArray=T;have hsz:T.size=P.length:=by rw[<- c];simp
 have h:∀(i:Nat)(n:Int),P[i]?=some n->numAt T i=n:=λi n e=>by unfold numAt;rw[<- c];simp[e]
 have B:T.toList.map (·.1)=P:=by rw[<- c];simp[Function.comp_def]
 have J:0<P.length:=VG.mpr p;have l:a≠s.z:=by obtain⟨o,_,_,C,_⟩:=dd;exact SI (Sr C)
 refine call_min_walk (PySem.W.kdl_pyIter_keys (knd:=aH X.prog X.w) (s:=s) y F ?_);refine⟨_,_,_,_,_,_,_,rfl,Walks.dictKeys (knd:=aH X.prog X.w) (A:=X.A.in1) (I.ok.hd K) s.z a l V ep,⟨⟨_,Sn _ rfl,rfl,rfl⟩,F.at' λo e=>R8 _ e⟩,λb U=>?_,by lia,CmpOf.ints_lt (numAt T) (λi v m=>?_),λv h' tk N kp=>?_⟩
 .simp only[Sq,Sx,Wo]at U;rw[Vb];rcases U with rfl|rfl
  .exact Uo _
  .obtain⟨o,_,_,C,_⟩:=dd;exact Vs (Sr C)
 .obtain⟨k,x,S,R⟩:=m;obtain⟨n,D,rfl⟩:=g i k x S;obtain⟨j,t,d,rfl⟩|⟨j,t,d,_⟩:=aY (show fL (.inl n) v=true from R)
  .cases d;exact⟨t,by rw[h i n D]⟩
  .cases d
 .obtain⟨k,x,S,R⟩:=N;obtain⟨n,D,rfl⟩:=g _ k x S;obtain⟨j,t,d,rfl⟩|⟨j,t,d,_⟩:=aY (show fL (.inl n) v=true from R)
  .cases d;have U:=m_ T (V.length-1) (by lia);rw[h _ n D,B,TJ (by lia)]at U;exact⟨.int n,H,I.kept (t':=tk) λb o e=>kp b o (λY=>by rw[Sb]at Y;subst Y;exact U1 _ (Sr e)) (R8 _ e),⟨t,rfl⟩,by rwa[U]⟩
  .cases d
end
end L4
namespace L4
open L2 L3
inductive aN{α β:Type} (R:α->β->Prop):List α->List β->Prop where
 |nil:aN R [] []
 |cons {x y xs ys}:R x y->aN R xs ys->aN R (x::xs) (y::ys)
section
variable{l j:Type}{R R':l->j->Prop}
def aN.len(h:aN R xs ys):xs.length=ys.length:=by
 induction h with
 |nil=>rfl
 |cons _ _ a=>rw[SG,SG,a]
def aN.mono(f:∀x y,R x y->R' x y)(h:aN R xs ys):aN R' xs ys:=by
 induction h with
 |nil=>exact .nil
 |cons a _ b=>exact .cons (f _ _ a) b
def aN.snoc(h:aN R xs ys)(r:R x y):aN R (xs++[x]) (ys++[y]):=by
 induction h with
 |nil=>exact .cons r .nil
 |cons a _ b=>exact .cons a b
theorem aN.get(h:aN R xs ys){i:Nat}(e:ys[i]?=some y):∃x,xs[i]?=some x/\R x y:=by
 induction h generalizing i with
 |nil=>simp at e
 |cons a _ b=>
  cases i with
  |zero=>simp at e;subst e;exact⟨_,rfl,a⟩
  |succ i=>simp at e;obtain⟨x,c,d⟩:=b e;exact⟨x,by simpa using c,d⟩
def aN.Cz{b c:Type}{T:b->c->Prop}(f:l->b)(g:j->c)(k:∀x y,R x y->T (f x) (g y))(h:aN R xs ys):aN T (xs.map f) (ys.map g):=by
 induction h with
 |nil=>exact .nil
 |cons a _ d=>exact .cons (k _ _ a) d
end
def KT(H c:Hp):Prop:=∀a b,H a=some (.tup b)->c a=some (.tup b)
section
variable{u t w:Type}[DecidableEq u][DecidableEq t](s:u->t)(it:Hp->w->V->Prop)
abbrev RepM(H:Hp)(d:Pz.MD u w)(a:DX t):Prop:=aN (λx y=>y.1=s x.1/\aN (it H) x.2 y.2.2) d a
variable{s it}
def RepM.keep(b:∀a v,it H a v->it H' a v)(h:RepM s it H d xs):RepM s it H' d xs:=h.mono λ_ _ ⟨e,a⟩=>⟨e,a.mono b⟩
def RepM.find(f:∀a b,s a=s b->a=b)(h:RepM s it H d g)(k:u) :
 (fS g (s k)=none/\d.has k=false/\d.get k=[])\/∃p,fS g (s k)=some p/\d.has k=true/\aN (it H) (d.get k) p.2:=by
 induction h with
 |nil=>exact .inl ⟨rfl,rfl,rfl⟩
 |@cons x y d g r _ c=>
  unfold fS at c ⊢;unfold Pz.MD.has at c ⊢;rw[UF,Pz.get_cons,Wm];by_cases e:x.1=k
  .right;have:y.1=s k:=by rw[r.1,e]
   rw[Sz this,Sz e,Sg e];exact⟨y.2,rfl,rfl,r.2⟩
  .have:¬y.1=s k:=λz=>e (f _ _ (r.1.symm.trans z));rwa[Tw this,Tw e,Sj e,Bool.false_or]
def RepM.add(i:∀a b,s a=s b->a=b)(o:∀a v,it H a v->it H' a v)(h:RepM s it H d xs)(c:it H' v (.ref p)):RepM s it H' (d.app k v) (kM xs (s k) l (.ref p)):=by
 have n:=h.keep o;unfold Pz.MD.app kM;rcases h.find i k with⟨j,m,_⟩|⟨q,j,m,_⟩
 .rw[j,m];exact n.snoc ⟨rfl,.cons c .nil⟩
 .rw[j,m];refine n.Cz _ _ λx y ⟨f,g⟩=>?_;by_cases e:x.1=k
  .have:y.1=s k:=by rw[f,e]
   rw[Sg e,Sg this];exact⟨f,g.snoc c⟩
  .grind
theorem RepM.drop(f:∀a b,s a=s b->a=b)(h:RepM s it H d g)(k:u):RepM s it H (d.drop k) (j6 g (s k)):=by
 induction h with
 |nil=>exact .nil
 |@cons x y d g r _ c=>
  unfold Pz.MD.drop j6 at c ⊢;by_cases e:x.1=k
  .have:y.1=s k:=by rw[r.1,e]
   rwa[List.filter_cons_of_neg (by simpa using e),List.filter_cons_of_neg (by simpa using this)]
  .have:¬y.1=s k:=λz=>e (f _ _ (r.1.symm.trans z));rw[List.filter_cons_of_pos (by simpa using e),List.filter_cons_of_pos (by simpa using this)];exact .cons r c
theorem RepM.keys(h:RepM s it H d xs):xs.map (·.1)=d.keys.map s:=by
 induction h with
 |nil=>rfl
 |cons r _ a=>grind
def RepM.low(h:RepM s it H d c)(a:d.flat.length<n):∀x∈c,x.2.2.length<n:=by
 induction h with
 |nil=>exact λ_ h=>(Sx h).elim
 |@cons x y d c r _ b=>
  unfold Pz.MD.flat at a b;rw[Ue,Sm]at a;intro z hz;rcases Sq.mp hz with rfl|hz
  .have:=r.2.len;lia
  .exact b (by lia) z hz
end
noncomputable def vO:Option Int->V
 |none=>.cj
 |some i=>.int i
noncomputable def nI(a:Pz.Arr):List V:=[.int a.1,.int a.2.1,.int a.2.2]
def IsArr(H:Hp)(a:Pz.Arr)(v:V):Prop:=∃p,v=.ref p/\H p=some (.tup (nI a))
def IsRule(H:Hp)(r:Pz.Rule)(v:V):Prop:=∃p q,v=.ref p/\H p=some (.tup [.int r.1,.int r.2.1,.int r.2.2.1,.ref q])/\H q=some (.tup (r.2.2.2.map .int))
def IsVal(H:Hp)(x:Pz.yg)(v:V):Prop:=∃p,v=.ref p/\H p=some (.tup [.int x.1,vO x.2.1,vO x.2.2])
def IsItem(H:Hp)(x:Int×Pz.Arr)(v:V):Prop:=∃p w,v=.ref p/\H p=some (.tup [.int x.1,w])/\IsArr H x.2 w
def IsSet(H:Hp)(x:Int×Int)(v:V):Prop:=∃p,v=.ref p/\H p=some (.tup [.int x.1,.int x.2])
def IsLack(H:Hp)(x:Int×Pz.Rule×Int)(v:V):Prop:=∃p w,v=.ref p/\H p=some (.tup [.int x.1,w,.int x.2.2])/\IsRule H x.2.1 w
def IsNum(H:Hp)(x:Int×Pz.Rule)(v:V):Prop:=∃p w,v=.ref p/\H p=some (.tup [.int x.1,w])/\IsRule H x.2 w
section
variable(k:KT H H')
include k
theorem IsArr.keep(a:Pz.Arr)(v:V):IsArr H a v->IsArr H' a v:=λ⟨p,e,h⟩=>⟨p,e,k _ _ h⟩
theorem IsRule.keep(a:Pz.Rule)(v:V):IsRule H a v->IsRule H' a v:=λ⟨p,q,e,h,g⟩=>⟨p,q,e,k _ _ h,k _ _ g⟩
theorem IsVal.keep(a:Pz.yg)(v:V):IsVal H a v->IsVal H' a v:=λ⟨p,e,h⟩=>⟨p,e,k _ _ h⟩
theorem IsItem.keep(a:Int×Pz.Arr)(v:V):IsItem H a v->IsItem H' a v:=λ⟨p,w,e,h,g⟩=>⟨p,w,e,k _ _ h,IsArr.keep k _ _ g⟩
theorem IsSet.keep(a:Int×Int)(v:V):IsSet H a v->IsSet H' a v:=λ⟨p,e,h⟩=>⟨p,e,k _ _ h⟩
theorem IsLack.keep(a:Int×Pz.Rule×Int)(v:V):IsLack H a v->IsLack H' a v:=λ⟨p,w,e,h,g⟩=>⟨p,w,e,k _ _ h,IsRule.keep k _ _ g⟩
theorem IsNum.keep(a:Int×Pz.Rule)(v:V):IsNum H a v->IsNum H' a v:=λ⟨p,w,e,h,g⟩=>⟨p,w,e,k _ _ h,IsRule.keep k _ _ g⟩
end
noncomputable def ak(a:Pz.Arr):List bc:=[.inl a.1,.inl a.2.1,.inl a.2.2]
def u7(a b:Pz.Arr)(h:ak a=ak b):a=b:=by grind [ak]
def NQ(a:Pz.Arr):(ak a).map kV=nI a:=rfl
noncomputable def k2(k:Int×Int):List bc:=[.inl k.1,.inl k.2]
def iI(a b:Int×Int)(h:k2 a=k2 b):a=b:=by grind [k2]
noncomputable def k1(i:Int):bc:=.inl i
def kN(a b:Int)(h:k1 a=k1 b):a=b:=Sum.inl.inj h
abbrev RepT(H:Hp)(t:Pz.TD)(a:List (List bc×V)):Prop:=aN (λx y=>y.1=ak x.1/\IsVal H x.2 y.2) t a
theorem RepT.keep(k:KT H H')(h:RepT H t kt):RepT H' t kt:=h.mono λ_ _ ⟨e,a⟩=>⟨e,IsVal.keep k _ _ a⟩
def RepT.find(h:RepT H t c)(a:Pz.Arr) :
 (cp c (ak a)=none/\Pz.bB t a=none)\/∃v x,cp c (ak a)=some v/\Pz.bB t a=some x/\IsVal H x v:=by
 induction h with
 |nil=>exact .inl ⟨rfl,rfl⟩
 |@cons x y t c r _ b=>
  rw[Pz.dg];by_cases e:x.1=a
  .have:y.1=ak a:=by rw[r.1,e]
   rw[Sg e,dk this];exact .inr ⟨_,_,rfl,rfl,r.2⟩
  .have:¬y.1=ak a:=λz=>e (u7 _ _ (r.1.symm.trans z));rwa[Sj e,dm this]
def RepT.put(h:RepT H t kt)(c:IsVal H x v):RepT H (Pz.tput t a x) (bG kt (ak a) v):=by
 unfold Pz.tput bG;rw[gg];rcases h.find a with⟨f,g⟩|⟨w,y,f,g,_⟩
 .rw[f,g];exact h.snoc ⟨rfl,c⟩
 .rw[f,g];refine h.Cz _ _ λz y ⟨b,d⟩=>?_;by_cases e:z.1=a
  .have:y.1=ak a:=by rw[b,e]
   rw[Sg e,Sg this];exact⟨b,c⟩
  .have:¬y.1=ak a:=λq=>e (u7 _ _ (b.symm.trans q));rw[Sj e,Sj this];exact⟨b,d⟩
def jb{d:Type}[DecidableEq d]{e:DX d}{k:d}{l a c:Addr}{v:V}(h:cS a (kM e k l v) c):cS a e c\/c=l:=by
 rcases h with h|⟨x,hx,h⟩
 .exact .inl (.inl h)
 .unfold kM at hx;split at hx
  .obtain⟨y,b,rfl⟩:=Se.mp hx;refine .inl (.inr ⟨y,b,?_⟩);rw[h];split<;>rfl
  .rcases Sk.mp hx with hx|hx
   .exact .inl (.inr ⟨x,hx,h⟩)
   .rw[Sb]at hx;subst hx;exact .inr h
section
variable{m l n:Type}[DecidableEq m][DecidableEq l](mk:List (l×V)->HO)(k:m->l)(it:Hp->n->V->Prop)
structure PM(b:Addr->Nat) (j:Nat) (B H:Hp) (a:Addr) (dd:Pz.MD m n) (e:DX l):Prop where
 d:DL mk H a e
 r:RepM k it H dd e
 c:∀c,cS a e c->b c=j/\B c=none
variable{mk k it}{d:Pz.MD m n}
def DL.obj(h:DL mk H a xs)(b:cS a xs c):H c≠none:=by
 grind [DL,cS]
def DL.keep(h:DL mk H a xs)(e:∀c u,H c=some u->cS a xs c->H' c=some u):DL mk H' a xs:=⟨e _ _ h.root (.inl rfl),λx b=>e _ _ (h.ri x b) (.inr ⟨x,b,rfl⟩),h.nk,h.na⟩
theorem PM.keep(h:PM mk k it col j B H a d xs)(b:∀x v,it H x v->it H' x v)(g:∀c u,H c=some u->col c=j->H' c=some u)(f:∀c,H c≠none->col' c=col c):PM mk k it col' j B H' a d xs:=⟨h.d.keep λc u e i=>g c u e (h.c c i).1,h.r.keep b,λc i=>⟨by rw[f c (h.d.obj i)];exact(h.c c i).1,(h.c c i).2⟩⟩
def DL.kt(b:∀q e,mk q≠.tup e)(h:DL mk H a xs)(f:∀c u,H c=some u->¬cS a xs c->H' c=some u):KT H H':=by
 grind [DL,cS,KT]
noncomputable def qH(a:Addr->Nat)(j:Nat)(H:Hp):Addr->Nat:=λc=>open Classical in if H c=none then j else a c
def bz(b:H a≠none):qH col j H a=col a:=by unfold qH;rw[Sj b]
def A7(b:H a=none):qH col j H a=j:=by unfold qH;rw[Sg b]
def PM.new(h:PM mk k it col j B H a d xs)(f:Same B H)(h1:DL mk H' a xs')(g:RepM k it H' d' xs')(b:∀c,cS a xs' c->cS a xs c\/H c=none):PM mk k it (qH col j H) j B H' a d' xs':=
 ⟨h1,g,λc i=>by
   rcases b c i with i|e
   .rw[bz (h.d.obj i)];exact h.c c i
   .exact⟨A7 e,f.free e⟩⟩
def PM.base(h:PM mk k it col j B H a d xs)(b:∀c,cS a xs c->B' c=none):PM mk k it col j B' H a d xs:=⟨h.d,h.r,λc i=>⟨(h.c c i).1,b c i⟩⟩
end
structure PA where
 o:Addr
 ta:Addr
 aq:Addr
 ap:Addr
 sa:Addr
 la:Addr
 ar:Addr
noncomputable def pf(A:PA):List (Str×V):=[("rules",.ref A.ar),("told",.ref A.ta),("offers",.ref A.aq),("settled",.ref A.sa),("lacking",.ref A.la)]
noncomputable abbrev qf(A:PA)(a:Int):List (Str×V):=[("last",.int a),("piles",.ref A.ap)]
structure PO(e f:Addr) (a:Addr->Nat) (B H:Hp) (A:PA) (b:Int) (t:Pz.TD) (d:List (List bc×V)):Prop where
 ins:∃c,H A.o=some (.ins e c (pf A))
 CI:∃c,H A.aq=some (.ins f c (qf A b))
 td:H A.ta=some (.dT d)
 tr:RepT H t d
 c5:a A.ta=5/\B A.ta=none
 c6:a A.o=6/\B A.o=none
 c7:a A.aq=7/\B A.aq=none
structure bu(b c:Addr) (B H:Hp) (A:PA) (rs:Pz.RS) (S:Pz.PS) (d e f:DX (List bc)) (g:DX bc) (h:List (List bc×V)) (a:Addr->Nat):Prop where
 same:Same B H
 p1:PM .dK k1 IsItem a 1 B H A.ap S.aJ g
 p2:PM .dT k2 IsSet a 2 B H A.sa S.settled d
 p3:PM .dT k2 IsLack a 3 B H A.la S.aL e
 p4:PM .dT k2 IsNum a 4 B H A.ar rs f
 po:PO b c a B H A S.last S.told h
def PAt(e f:Addr)(B H:Hp)(A:PA)(rs:Pz.RS)(S:Pz.PS)(g a b:DX (List bc)):Prop:=∃c h d,bu e f B H A rs S g a b c h d
section
theorem PO.keep(h:PO CP CQ col B H A last t kt)(k:KT H H')(e:∀c u,H c=some u->5<=col c->col c<=7->H' c=some u)(a:∀c,H c≠none->col' c=col c):PO CP CQ col' B H' A last t kt:=by
 obtain⟨⟨f,h1⟩,⟨b,g⟩,i,d,j,l,m⟩:=h;refine⟨⟨f,e _ _ h1 (by lia) (by lia)⟩,⟨b,e _ _ g (by lia) (by lia)⟩,e _ _ i (by lia) (by lia),d.keep k,?_,?_,?_⟩
 .rwa[a _ (by grind)]
 .rwa[a _ (by grind)]
 .rwa[a _ (by grind)]
def bu.pile(h:bu CP CQ B H A rs S xs xl xr xp kt col)(h1:DL .dK H' A.ap xp')(g:RepM k1 IsItem H' d' xp')(b:∀c,cS A.ap xp' c->cS A.ap xp c\/H c=none)
 (f:∀c u,H c=some u->¬cS A.ap xp c->H' c=some u):bu CP CQ B H' A rs {S with aJ:=d'} xs xl xr xp' kt (qH col 1 H):=by
 have k:KT H H':=h.p1.d.kt (λ_ _ z=>HO.noConfusion z) f;have a:∀c u,H c=some u->col c≠1->H' c=some u:=λc u e n=>f c u e λi=>n (h.p1.c c i).1;exact⟨(λc u e=>f c u (h.same c u e) λi=>by rw[(h.p1.c c i).2]at e;cases e),h.p1.new h.same h1 g b,h.p2.keep (IsSet.keep k) (λc u e z=>a c u e (by lia)) λc=>bz,h.p3.keep (IsLack.keep k) (λc u e z=>a c u e (by lia)) λc=>bz,h.p4.keep (IsNum.keep k) (λc u e z=>a c u e (by lia)) λc=>bz,h.po.keep k (λc u e z _=>a c u e (by lia)) λc=>bz⟩
def bu.Pq(h:bu CP CQ B H A rs S xs xl xr xp kt col)(h1:DL .dT H' A.sa xs')(g:RepM k2 IsSet H' d' xs')(b:∀c,cS A.sa xs' c->cS A.sa xs c\/H c=none)
 (f:∀c u,H c=some u->¬cS A.sa xs c->H' c=some u):bu CP CQ B H' A rs {S with settled:=d'} xs' xl xr xp kt (qH col 2 H):=by
 have k:KT H H':=h.p2.d.kt (λ_ _ z=>HO.noConfusion z) f;have a:∀c u,H c=some u->col c≠2->H' c=some u:=λc u e n=>f c u e λi=>n (h.p2.c c i).1;exact⟨(λc u e=>f c u (h.same c u e) λi=>by rw[(h.p2.c c i).2]at e;cases e),h.p1.keep (IsItem.keep k) (λc u e z=>a c u e (by lia)) λc=>bz,h.p2.new h.same h1 g b,h.p3.keep (IsLack.keep k) (λc u e z=>a c u e (by lia)) λc=>bz,h.p4.keep (IsNum.keep k) (λc u e z=>a c u e (by lia)) λc=>bz,h.po.keep k (λc u e z _=>a c u e (by lia)) λc=>bz⟩
def bu.qE(h:bu CP CQ B H A rs S xs xl xr xp kt col)(h1:DL .dT H' A.la xl')(g:RepM k2 IsLack H' d' xl')(b:∀c,cS A.la xl' c->cS A.la xl c\/H c=none)
 (f:∀c u,H c=some u->¬cS A.la xl c->H' c=some u):bu CP CQ B H' A rs {S with aL:=d'} xs xl' xr xp kt (qH col 3 H):=by
 have k:KT H H':=h.p3.d.kt (λ_ _ z=>HO.noConfusion z) f;have a:∀c u,H c=some u->col c≠3->H' c=some u:=λc u e n=>f c u e λi=>n (h.p3.c c i).1;exact⟨(λc u e=>f c u (h.same c u e) λi=>by rw[(h.p3.c c i).2]at e;cases e),h.p1.keep (IsItem.keep k) (λc u e z=>a c u e (by lia)) λc=>bz,h.p2.keep (IsSet.keep k) (λc u e z=>a c u e (by lia)) λc=>bz,h.p3.new h.same h1 g b,h.p4.keep (IsNum.keep k) (λc u e z=>a c u e (by lia)) λc=>bz,h.po.keep k (λc u e z _=>a c u e (by lia)) λc=>bz⟩
def bu.more(h:bu CP CQ B H A rs S xs xl xr xp kt col)(s:Same H H'):bu CP CQ B H' A rs S xs xl xr xp kt col:=by have k:KT H H':=λa b e=>s a _ e;exact⟨h.same.trans s,h.p1.keep (IsItem.keep k) (λc u e _=>s c u e) λ_ _=>rfl,h.p2.keep (IsSet.keep k) (λc u e _=>s c u e) λ_ _=>rfl,h.p3.keep (IsLack.keep k) (λc u e _=>s c u e) λ_ _=>rfl,h.p4.keep (IsNum.keep k) (λc u e _=>s c u e) λ_ _=>rfl,h.po.keep k (λc u e _ _=>s c u e) λ_ _=>rfl⟩
theorem PAt.more(h:PAt CP CQ B H A rs S xs xl xr)(s:Same H H'):PAt CP CQ B H' A rs S xs xl xr:=let ⟨a,c,b,h⟩:=h;⟨a,c,b,h.more s⟩
def bu.tell(h:bu CP CQ B H A rs S xs xl xr xp kt col)(b:H p=some (.tup [.int x.1,vO x.2.1,vO x.2.2])) :
 bu CP CQ B (upd H A.ta (.dT (bG kt (ak a) (.ref p)))) A rs {S with told:=Pz.tput S.told a x} xs xl xr xp (bG kt (ak a) (.ref p)) col:=by
 have g:∀c u,H c=some u->col c≠5->upd H A.ta (.dT (bG kt (ak a) (.ref p))) c=some u:=λc u e n=>by rwa[ai (λz=>n (by rw[z];exact h.po.c5.1))]
 have k:KT H (upd H A.ta (.dT (bG kt (ak a) (.ref p)))):=λc q e=>by rwa[ai (λz=>by rw[z,h.po.td]at e;cases e)]
 obtain⟨⟨i,h1⟩,⟨d,j⟩,r,f,l,m,o⟩:=h.po;refine⟨λc u e=>?_,h.p1.keep (IsItem.keep k) (λc u e z=>g c u e (by lia)) λ_ _=>rfl,h.p2.keep (IsSet.keep k) (λc u e z=>g c u e (by lia)) λ_ _=>rfl,h.p3.keep (IsLack.keep k) (λc u e z=>g c u e (by lia)) λ_ _=>rfl,h.p4.keep (IsNum.keep k) (λc u e z=>g c u e (by lia)) λ_ _=>rfl,⟨i,g _ _ h1 (by lia)⟩,⟨d,g _ _ j (by lia)⟩,ac,(f.keep k).put ⟨p,rfl,k _ _ b⟩,l,m,o⟩;rw[ai (λz=>by grind)];exact h.same c u e
def bu.wide(h:bu CP CQ B H A rs S xs xl xr xp kt col)(Z:Addr->Prop)(g:∀c,Z c->¬cS A.ap xp c/\¬cS A.sa xs c/\¬cS A.la xl c/\¬cS A.ar xr c/\c≠A.ta/\c≠A.o/\c≠A.aq) :
 ∃b,Same B b/\KT H b/\(∀c u,Z c->H c=some u->b c=some u)/\bu CP CQ b H A rs S xs xl xr xp kt col:=by
 classical
 refine⟨λc=>if B c≠none\/Z c\/∃f,H c=some (.tup f)then H c else none,λc u e=>?_,λc f e=>?_,λc u z e=>?_,λc u e=>?_,h.p1.base λc i=>?_,h.p2.base λc i=>?_,h.p3.base λc i=>?_,h.p4.base λc i=>?_,h.po.ins,h.po.CI,h.po.td,h.po.tr,⟨h.po.c5.1,?_⟩,⟨h.po.c6.1,?_⟩,⟨h.po.c7.1,?_⟩⟩
 .dsimp only;rw[Sg (.inl (by grind))];exact h.same c u e
 .dsimp only;rwa[Sg (.inr (.inr ⟨f,e⟩))]
 .dsimp only;rwa[Sg (.inr (.inl z))]
 .split at e
  .exact e
  .cases e
 all_goals
  refine Sj λq=>?_
 .rcases q with q|q|⟨f,q⟩
  .exact q (h.p1.c c i).2
  .exact(g c q).1 i
  .rcases i with rfl|⟨x,a,rfl⟩
   .rw[h.p1.d.root]at q;cases q
   .rw[h.p1.d.ri x a]at q;cases q
 .rcases q with q|q|⟨f,q⟩
  .exact q (h.p2.c c i).2
  .exact(g c q).2.1 i
  .rcases i with rfl|⟨x,a,rfl⟩
   .rw[h.p2.d.root]at q;cases q
   .rw[h.p2.d.ri x a]at q;cases q
 .rcases q with q|q|⟨f,q⟩
  .exact q (h.p3.c c i).2
  .exact(g c q).2.2.1 i
  .rcases i with rfl|⟨x,a,rfl⟩
   .rw[h.p3.d.root]at q;cases q
   .rw[h.p3.d.ri x a]at q;cases q
 .rcases q with q|q|⟨f,q⟩
  .exact q (h.p4.c c i).2
  .exact(g c q).2.2.2.1 i
  .rcases i with rfl|⟨x,a,rfl⟩
   .rw[h.p4.d.root]at q;cases q
   .rw[h.p4.d.ri x a]at q;cases q
 .rcases q with q|q|⟨f,q⟩
  .exact q h.po.c5.2
  .exact(g _ q).2.2.2.2.1 rfl
  .rw[h.po.td]at q;cases q
 .rcases q with q|q|⟨f,q⟩
  .exact q h.po.c6.2
  .exact(g _ q).2.2.2.2.2.1 rfl
  .obtain⟨j,e⟩:=h.po.ins;rw[e]at q;cases q
 .rcases q with q|q|⟨f,q⟩
  .exact q h.po.c7.2
  .exact(g _ q).2.2.2.2.2.2 rfl
  .obtain⟨j,e⟩:=h.po.CI;rw[e]at q;cases q
def PAt.less(h:PAt CP CQ B' H A rs S xs xl xr)(s:Same B B'):PAt CP CQ B H A rs S xs xl xr:=by obtain⟨a,d,b,h⟩:=h;refine⟨a,d,b,s.trans h.same,h.p1.base λc i=>s.free (h.p1.c c i).2,h.p2.base λc i=>s.free (h.p2.c c i).2,h.p3.base λc i=>s.free (h.p3.c c i).2,h.p4.base λc i=>s.free (h.p4.c c i).2,h.po.ins,h.po.CI,h.po.td,h.po.tr,⟨h.po.c5.1,s.free h.po.c5.2⟩,⟨h.po.c6.1,s.free h.po.c6.2⟩,⟨h.po.c7.1,s.free h.po.c7.2⟩⟩
theorem PAt.same(h:PAt CP CQ B H A rs S xs xl xr):Same B H:=let ⟨_,_,_,h⟩:=h;h.same
end
def DR(x y:Nat):Builtin.bitXor (x:Int) (y:Int)=(((x ||| y)-(x &&& y):Nat):Int):=by
 have c:∀z:Nat,decide (0<=Builtin.bitNot (z:Int))=false:=λz=>Tw (by unfold Builtin.bitNot;lia);have d:∀z:Nat,(Builtin.bitNot (Builtin.bitNot (z:Int))).toNat=z:=λz=>by unfold Builtin.bitNot;lia
 have e:∀z:Nat,decide (0<=(z:Int))=true:=λz=>Sz (by lia);have a:Builtin.bitAnd (x:Int) (y:Int)=((x &&& y:Nat):Int):=by unfold Builtin.bitAnd;rw[e,e];rfl
 have b:Builtin.bitOr (x:Int) (y:Int)=((x ||| y:Nat):Int):=by unfold Builtin.bitOr Builtin.bitAnd;rw[c,c];show Builtin.bitNot (Builtin.bitNot (((Builtin.bitNot (Builtin.bitNot (x:Int))).toNat |||(Builtin.bitNot (Builtin.bitNot (y:Int))).toNat:Nat):Int))=_;rw[d,d];unfold Builtin.bitNot;lia
 unfold Builtin.bitXor;rw[a,b];have:x &&& y<=x ||| y:=SE Nat.and_le_left Nat.left_le_or;lia
def wG:Pz.q5 aE:=by
 have a:∀{p l:Int},0<=p->0<=l->∃z:Nat,aE p l=(z:Int)/\∀k:Nat,z<=k↔p/2^k=l/2^k:=by
  intro p l b c;obtain⟨x,rfl⟩:=Ug b;obtain⟨y,rfl⟩:=Ug c;refine⟨_,rfl,λk=>?_⟩;rw[DR];unfold Builtin.Int.intBits;rw[Pz.DN,Pz.DM];have e:∀z:Nat,(z:Int)/2^k=((z/2^k:Nat):Int):=λz=>by rw[Int.natCast_ediv];norm_cast
  rw[e,e];lia
 constructor
 .intro p l b c;obtain⟨z,e,_⟩:=a b c;rw[e];lia
 .intro p l b c k;obtain⟨z,e,h⟩:=a b c;rw[e,<- h k];lia
section
variable{K:WK}{C q j:Addr}{H:Hp}{g:Int}
inductive l_(C:Addr):Sp
 |mk {q dx:Addr} {H:Hp} {Q:VK} {E:XK} (hq:H q=some (.ins C dx [])) (k:∀(d:Addr)(H':Hp),H d=none->H' q=some (.ins C dx [("last",.int 0),("piles",.ref d)])->H' d=some (.dK [])->(∀b o,H b=some o->b≠q->H' b=some o)->Q .cj H'):l_ C [.ref q] H Q E
def Hx(K:WK):TS:=aI (pZ K (aj 0) (tC (.int 0)) "last") (pZ K (aj 0) qg "piles")
theorem u9(T:rC K C)(h:l_ C vs H Q E):Hx K (eQ Q) (aZ N vs) H:=by
 obtain @⟨q,dx,_,_,_,hq,k⟩:=h;refine⟨_,rfl,q,C,dx,[],rfl,hq,T.cl,T.nl,(by show 0<1000;decide),?_⟩;intro d hd;have a:d≠q:=λe=>by rw[e,ac]at hd;cases hd
 have c:H d=none:=by rw[ai a]at hd;exact hd
 refine⟨_,rfl,q,C,dx,_,rfl,(by rw[ai (Tp a),ac]),T.cl,T.np,(by show 1<1000;decide),?_⟩;refine k d _ c (by rw[ac];rfl) (by rw[ai a,ac]) λb o e f=>?_;rwa[ai f,ai (ay e c),ai f]
inductive ml(C:Addr):Sp
 |mk {q j dx:Addr} {g:Int} {kvs:List (bc×V)} {H:Hp} {Q:VK} {E:XK} (hq:H q=some (.ins C dx [("last",.int g),("piles",.ref j)])) (ha:H j=some (.dK kvs)) (hl:kvs.length<=sizeLine) (k:Q (.bl (decide (kvs.length=0))) H):ml C [.ref q] H Q E
def F3:List V->Hp->VK->Prop:=λb H Q=>∃(d:Addr)(a:List (bc×V))(u:HO),b=[.ref d]/\(u=.dK a\/(u=.dT []/\a=[]))/\Rd H d u/\a.length<=sizeLine/\Q (.int a.length) H
def yo:bJ X (.builtin "len") F3:=yc
def Hy(K:WK):TS:=b5 (ba pX (eR F3 (ah (dX K (aj 0) "piles") aF)) (tC (.int 0)))
theorem u_(T:rC K C)(h:ml C vs H Q E):Hy K (eQ Q) (aZ N vs) H:=by
 obtain @⟨q,j,dx,g,kvs,_,_,_,hq,ha,hl,k⟩:=h;refine⟨_,rfl,q,C,dx,_,_,rfl,hq,T.cl,T.np,rfl,j,kvs,_,rfl,.inl rfl,.inl ha,hl,rfl,?_⟩;have:decide (V.int (kvs.length:Int)=V.int 0)=decide (kvs.length=0):=by apply decide_eq_decide.mpr;exact⟨λe=>by injection e with e;lia,λe=>by rw[e];rfl⟩
 rwa[this]
def NR(C q j:Addr)(d:Pz.Q Pz.Arr)(e:DX bc)(H:Hp)(Q:VK):Prop:=∀(l:Addr)(b:List V)(a:DX bc)(f:Hp),JB C f q j (Pz.lowP d) a->RepM k1 IsItem f (Pz.left aE d) a->f l=some (.lst b)->aN (IsItem f) (Pz.dz aE d) b->¬cS j a l->(cS j e l\/H l=none)->(∀c,cS j a c->cS j e c\/H c=none)->
 (∀c u,H c=some u->¬cS j e c->c≠q->f c=some u)->Q (.ref l) f
inductive rD(C:Addr):Sp
 |mk {q j:Addr} {g:Int} {xp:DX bc} {d:Pz.Q Pz.Arr} {H:Hp} {Q:VK} {E:XK} (G:JB C H q j g xp) (R:RepM k1 IsItem H d xp) (ok:Pz.uk aE g d) (hne:d≠[]) (hfew:d.flat.length<16000000)
  (k:NR C q j d xp H Q):rD C [.ref q] H Q E
def Hz(K:WK):TS:=b5 (mI (dX K (aj 0) "piles") (tC (.int 0)))
def Kn(C:Addr):TS:=b9 (eF C "add" (uf C) [] E0 (aj 0) (ah (aj 2) (ah (aj 3) aF)))
def NS(K:WK)(C:Addr):TS:=aI (cU (bZ K (aj 1)) (c9 K 2 (aR (aA 2) (aR (aA 3) cZ))) (Kn C)) (Hz K)
def Ko(K:WK)(C:Addr)(a:TE):TS:=aI (pZ K (aj 0) a "last") (NS K C)
def pb(K:WK)(C:Addr)(a:TE):TS:=aI (aT (mI (dX K (aj 0) "piles") (eR F2 (ah (zK K "dict" F1 (dX K (aj 0) "piles")) aF))) (aA 1)) (Ko K C a)
def HA(b:TE):Prop:=∀(d:L2.St)(H:Hp)(a:Addr)(e:List V)(c:List (Int×Pz.Arr))(Q:VK),d[1]?=some (some (.ref a))->H a=some (.lst e)->aN (IsItem H) c e->c≠[]->c.length<16000000->(∀f,Same H f->Q (.int (Pz.lo (c.map (·.1)))) f)->b d H Q
def qI(l:List Int):m9 l=Pz.lo l:=by cases l<;>rfl
def DS{b:Type}(a:DX b):a.kv.map (·.1)=a.map (·.1):=by unfold DX.kv;rw[Tg];rfl
def JB.ne(G:JB C H q j g xp)(i:cS j xp c):c≠q:=λe=>by
 obtain⟨d,a⟩:=G.ins;rcases i with z|⟨x,b,z⟩
 .have:=G.aJ.root;rw[<- z,e,a]at this;cases this
 .have:=G.aJ.ri x b;rw[<- z,e,a]at this;cases this
end
section
variable{K:WK}{C q ap:Addr}{H:Hp}{a0:Int}{xp:DX bc}
def lq(m:Int)(d:Pz.Q Pz.Arr)(l:List (Int×Pz.Arr))(x:Int×Pz.Arr):Pz.cT aE m d (l++[x])=(Pz.cT aE m d l).app (aE x.1 m) x:=by unfold Pz.cT;rw[Ur];rfl
def qJ(s:Same H H'):KT H H':=λa b e=>s a _ e
variable{D:Ends}{σ:L2.St}{d:Pz.Q Pz.Arr}{H0:Hp}{p:Addr×List V}{i:Nat}{xi:DX bc}
structure Nl(C q ap:Addr) (d:Pz.Q Pz.Arr) (H0:Hp) (xp:DX bc) (p:Addr×List V) (i:Nat) (H:Hp) (xi:DX bc):Prop where
 G:JB C H q ap (Pz.lowP d) xi
 R:RepM k1 IsItem H (Pz.cT aE (Pz.lowP d) (d.drop (Pz.cb d)) ((d.get (Pz.cb d)).take i)) xi
 l:H p.1=some (.lst p.2)
 n:¬cS ap xi p.1
 a:aN (IsItem H) (d.get (Pz.cb d)) p.2
 sub:∀c,cS ap xi c->cS ap xp c\/H0 c=none
 kp:∀c u,H0 c=some u->¬cS ap xp c->c≠q->H c=some u
def MZ(q:Addr)(l:Addr)(σ:L2.St):Prop:=∃u v,σ=[some (.ref q),some (.ref l),u,v]
def Qo(I:Nl C q ap d H0 xp p i H xi)(E:(d.get (Pz.cb d))[i]?=some x)(h:IsItem H x v)(T:MZ q p.1 σ)(ok:(Pz.cT aE (Pz.lowP d) (d.drop (Pz.cb d)) ((d.get (Pz.cb d)).take (i+1))).Ok)(P:(Pz.cT aE (Pz.lowP d) (d.drop (Pz.cb d)) ((d.get (Pz.cb d)).take (i+1))).flat.length<16000000)
 (k:∀o S r,MZ q p.1 o->Nl C q ap d H0 xp p (i+1) S r->D.nx o S):c9 K 2 (aR (aA 2) (aR (aA 3) cZ)) v σ H λs L=>Kn C D s L:=by
 obtain⟨t,_,rfl,M,b,rfl,U⟩:=h;obtain⟨u,w,rfl⟩:=T;refine wD M (tj (.va rfl) I.G.ins rfl (.c (.va rfl) (.c (.va rfl) .ni)) (.mk I.G λl F Q j N V y A f=>?_));have g:KT H Q:=I.G.aJ.kt (λ_ _ z=>HO.noConfusion z) f;rw[Sv,E,show(some x).toList=[x]from rfl,lq]at ok P;have B:RepM k1 IsItem Q _ (kM xi (.inl (aE x.1 (Pz.lowP d))) l (.ref F)):=I.R.add (k:=aE x.1 (Pz.lowP d)) kN (IsItem.keep g) ⟨F,_,rfl,V,b,rfl,g _ _ U⟩;refine k _ Q _ ⟨_,_,rfl⟩ ⟨⟨y,A,?_,B.low P⟩,?_,f _ _ I.l I.n,λz=>?_,I.a.mono (IsItem.keep g),λc z=>?_,λc u e n m=>?_⟩
 .have:=B.len;have:=Pz.gC ok;exact Ts (by lia) P
 .rw[Sv,E,show(some x).toList=[x]from rfl,lq];exact B
 .rcases jb z with z|z
  .exact I.n z
  .rw[<- z,I.l]at j;cases j
 .rcases jb z with z|rfl
  .exact I.sub c z
  .by_cases J:cS ap xp c
   .exact .inl J
   .refine .inr ?_;cases e:H0 c with
    |none=>rfl
    |some u=>
     by_cases z:c=q
     .obtain⟨_,O⟩:=I.G.ins;rw[z,O]at j;cases j
     .rw[I.kp c u e J z]at j;cases j
 .exact f _ _ (I.kp c u e n m) λz=>(I.sub c z).elim n λz=>by rw[z]at e;cases e
theorem wH{f:Type}[DecidableEq f]{g:DX f}{k:f}{a c:Addr}(i:cS a (j6 g k) c):cS a g c:=i.imp id λ⟨x,b,e⟩=>⟨x,(SJ.mp b).1,e⟩
def Qp(T:rC K C)(j:Pz.JD aE a0 d)(t:d.flat.length<16000000)(I:Nl C q ap d H0 xp p p.2.length H xi)(M:MZ q p.1 σ)
 (k:NR C q ap d xp H0 D.rt):Hz K D σ H:=by
 obtain⟨u,w,rfl⟩:=M;have f:=I.R;rw[TJ (by rw[I.a.len];exact R7 _)]at f;have f:RepM k1 IsItem H (Pz.mid aE d) xi:=f;have F:=I.G.aJ.root;obtain⟨v,l⟩:=I.G.ins;rcases f.find kN 0 with⟨_,x,_⟩|⟨L,o,_,y⟩
 .have:=Pz.has_iff.mpr j.k3;rw[x]at this;cases this
 delta Hz b5 mI
 refine Hu (.va rfl) I.G.ins T.cl T.np rfl ⟨ap,rfl,.inl ⟨_,.inl F⟩,xi.kv,k1 0,.ref L.1,F,rfl,(by rw[jD,o];rfl),?_⟩;generalize g:upd H ap (.dK (ji xi.kv (k1 0)))=J;have b:∀c u,H c=some u->c≠ap->J c=some u:=λc u e n=>by rwa[<- g,ai n]
 obtain⟨A,B,E⟩:=I.G.aJ.drop (λ_ _ z=>HO.noConfusion z) o (by rw[<- g,ac]) b;have h:KT H J:=λc N e=>b c _ e λz=>by rw[z,F]at e;cases e
 have r:RepM k1 IsItem J (Pz.left aE d) (j6 xi (k1 0)):=(f.drop kN 0).keep (IsItem.keep h);have s:(Pz.left aE d).flat.length<16000000:=by have:=j.pm.length_eq;rw[Sm]at this;lia
 have:=r.len;have:=Pz.gC j.ok.ok;exact k L.1 L.2 _ J ⟨⟨v,b _ _ l λe=>by rw[e,F]at l;cases l⟩,A,by lia,r.low s⟩ r B (y.mono (IsItem.keep h)) E (I.sub _ (.inr ⟨_,dC o,rfl⟩)) (λc z=>I.sub c (wH z)) λc u e n m=>b _ _ (I.kp c u e n m) λz=>n (.inl z)
theorem tk1(T:rC K C)(X:HA tm)(o:Pz.JD aE a0 d)(ok:d.Ok)(f:d.flat.length<16000000)(r:∃S,H q=some (.ins C S [("last",.int a0),("piles",.ref ap)])) (J:DL .dK H ap xi) (R2:RepM k1 IsItem H (d.drop (Pz.cb d)) xi) (L:∀c,cS ap xp c->c≠q) (t:H p.1=some (.lst p.2)) (E:p.1≠q) (Y:¬cS ap xi p.1) (F:aN (IsItem H) (d.get (Pz.cb d)) p.2) (sub:∀c,cS ap xi c->cS ap xp c) (Z:∀c u,H0 c=some u->¬cS ap xp c->H c=some u)
 (U:σ=[some (.ref q),some (.ref p.1),none,none]) (k:NR C q ap d xp H0 D.rt):Ko K C tm D σ H:=by
 subst U;obtain⟨S,r⟩:=r;refine X _ H p.1 p.2 (d.get (Pz.cb d)) _ rfl t F o.k2 (Ts (Pz.lW d _) f) λM G=>?_;refine⟨_,rfl,q,C,S,_,rfl,G _ _ r,T.cl,T.nl,(by show 2<1000;decide),?_⟩;generalize g:upd M q (.ins C S (gf "last" (.int (Pz.lo ((d.get (Pz.cb d)).map (·.1)))) [("last",.int a0),("piles",.ref ap)]))=v;have b:∀c u,H c=some u->c≠q->v c=some u:=λc u e n=>by rw[<- g,ai n];exact G c u e
 have N:v q=some (.ins C S [("last",.int (Pz.lowP d)),("piles",.ref ap)]):=by rw[<- g,ac];rfl
 have h:KT H v:=λc ws e=>b c _ e λz=>by rw[z,r]at e;cases e
 have ge:∀y∈d.get (Pz.cb d),Pz.lowP d<=y.1:=λy w=>Pz.AY (Se.mpr ⟨y,w,rfl⟩);have fl:∀i,((Pz.cT aE (Pz.lowP d) (d.drop (Pz.cb d)) ((d.get (Pz.cb d)).take i))).flat.length<16000000:=λi=>by rw[(Pz.iE o.o1.ok).length_eq,Sm];have:=S_ i (d.get (Pz.cb d));have:=(Pz.kJ ok.nk (Pz.cb d)).length_eq;rw[Sm]at this;lia
 have j:∀i,(Pz.cT aE (Pz.lowP d) (d.drop (Pz.cb d)) ((d.get (Pz.cb d)).take i)).Ok:=λi=>(o.o1.cT λx A=>ge x (Uh A)).ok;have W:=fl 0;have V:=Pz.gC (j 0);have R:=R2.len;rw[List.take_zero]at W V;have O:(Pz.cT aE (Pz.lowP d) (d.drop (Pz.cb d)) [])=d.drop (Pz.cb d):=rfl;rw[O]at W V;refine⟨_,rfl,p.1,rfl,⟨_,SqL.of (b _ _ t E)⟩,cc (K:=K) (a:=p.1) (xs:=p.2) (λi σ s=>MZ q p.1 σ/\∃xi,Nl C q ap d H0 xp p i s xi)
  ⟨⟨none,none,rfl⟩,xi,⟨⟨S,N⟩,J.keep λc u e i=>b c u e (L c (sub c i)),by lia,R2.low W⟩,?_,b _ _ t E,Y,F.mono (IsItem.keep h),λc i=>.inl (sub c i),λc u e n m=>b c u (Z c u e n) m⟩
  (λi σ s _ ⟨_,xi,I⟩=>SqL.of I.l) (λi y σ s P ⟨U,xi,I⟩=>?_) λσ s ⟨U,xi,I⟩=>Qp T o f I U k⟩
 .rw[List.take_zero];exact R2.keep (IsItem.keep h)
 .obtain⟨x,A,w⟩:=I.a.get P;exact Qo I A w U (j _) (fl _) λQ H' B h1 V=>⟨h1,B,V⟩
theorem yp(T:rC K C)(t:∀(a0:Int)(ap:Addr),List.lookup ("add" : Str) ([("last",V.int a0),("piles",V.ref ap)]:List (Str×V))=none) (B:HA tm) (h:rD C vs H Q E) :
 pb K C tm (eQ Q) (aZ (nS 4) vs) H:=by
 obtain @⟨q,ap,a0,xp,d,H,Q,_,G,R,ok,hne,hfew,k⟩:=h;have o:=Pz.yf wG ok hne;have a:=G.aJ.root
 delta pb aI aT mI
 refine Hu (.va rfl) G.ins T.cl T.np rfl ⟨ap,rfl,.inl ⟨_,.inl a⟩,Hu (.va rfl) G.ins T.cl T.np rfl ⟨.inr (.inr (.inl ⟨rfl,.inl ⟨_,a⟩⟩)),ap,_,rfl,rfl,a,λv r=>?_⟩⟩;have f:ap≠v:=ay a r;refine⟨v,ap,xp.kv,d.keys,rfl,ac,(by rwa[ai f]),(by rw[DS,R.keys];rfl),(by intro e;exact hne (List.map_eq_nil_iff.mp e)),?_⟩;rcases R.find kN (Pz.cb d)with⟨_,_,e⟩|⟨w,l,_,x⟩
 .exact(o.k2 e).elim
 refine⟨xp.kv,k1 (Pz.cb d),.ref w.1,(by rwa[ai f]),(by rw[qI];rfl),(by rw[jD,l];rfl),?_⟩;generalize g:upd (upd H v (tp v ap)) ap (.dK (ji xp.kv (k1 (Pz.cb d))))=s;have b:∀c u,H c=some u->c≠ap->s c=some u:=λc u e n=>by rwa[<- g,ai n,ai (ay e r)]
 obtain⟨y,A,F⟩:=G.aJ.drop (λ_ _ z=>HO.noConfusion z) l (by rw[<- g,ac]) b;have j:KT H s:=λc J e=>b c _ e λz=>by rw[z,a]at e;cases e
 obtain⟨I,m⟩:=G.ins;exact tk1 T B o ok.ok hfew ⟨I,b _ _ m λe=>by rw[e,a]at m;cases m⟩ y ((R.drop kN _).keep (IsItem.keep j)) (λc=>G.ne) A (G.ne (.inr ⟨_,dC l,rfl⟩)) F (x.mono (IsItem.keep j)) (λc=>wH) (λc u e n=>b c u e λz=>n (.inl z)) rfl k
end
structure jg(K:WK) (C:Addr):Prop where
 cl:rf K C
 nr:NoAttr K C "rules"
 nt:NoAttr K C "told"
 no:NoAttr K C "offers"
 ns:NoAttr K C "settled"
 nl:NoAttr K C "lacking"
def NT(A:PA):(pf A).lookup ("rules" : Str)=some (V.ref A.ar):=rfl
def DT(A:PA):(pf A).lookup ("told" : Str)=some (V.ref A.ta):=rfl
def HB(A:PA):(pf A).lookup ("offers" : Str)=some (V.ref A.aq):=rfl
def Kq(A:PA):(pf A).lookup ("settled" : Str)=some (V.ref A.sa):=rfl
def Kr(A:PA):(pf A).lookup ("lacking" : Str)=some (V.ref A.la):=rfl
def HC(A:PA)(a:Int):(qf A a).lookup ("add" : Str)=none:=rfl
section
variable{K:WK}
inductive fc(CP CQ:Addr):Sp
 |mk {B H:Hp} {A:PA} {rs:Pz.RS} {S:Pz.PS} {xs xl xr:DX (List bc)} {b:Addr} {a:Pz.Arr} {p:Int} {n m:Option Int} {Q:VK} {E:XK} (P:PAt CP CQ B H A rs S xs xl xr) (hb:H b=some (.tup (nI a))) (f:Pz.js (Pz.be aE S a p n m)) (k:∀H',PAt CP CQ B H' A rs (Pz.be aE S a p n m) xs xl xr->Q .cj H'):fc CP CQ [.ref A.o,.ref b,.int p,vO n,vO m] H Q E
def Ks:R2:=λx y H Q=>y=.cj/\Q (.bl (decide (x=.cj))) H
def HD:lC X (compareOp .Is) Ks:=GN
def HE:R2:=uh λi j=>.bl (decide (i<j))
def HF(K:WK)(a:Addr):TS:=aI (jk (dX K (aj 0) "told") (aj 1) (cm (ah (aj 2) (ah (aj 3) (ah (aj 4) aF)))))
 (b9 (eF a "add" (uf a) [] E0 (dX K (aj 0) "offers") (ah (aj 2) (ah (aj 1) aF))))
def Kt(K:WK)(a:Addr):TS:=dQ (JI (bO (ba Ks (aj 5) (tC .cj))) (bO (ba HE (aj 2) (ba (lD K) (aj 5) (tC (.int 0)))))) (HF K a) ck
def A8(K:WK)(a:Addr):TS:=aI (aT (uE (dX K (aj 0) "told") (aj 1)) (aA 5)) (Kt K a)
variable{D:Ends}
theorem bu.fld(P:bu CP CQ B H A rs S xs xl xr xp kt col)(b:rf K CP)(n:NoAttr K CP f)(a:(pf A).lookup f=some v)(h:σ[i]?=some (some (.ref A.o))):Reads (dX K (aj i) f) σ H v:=.fld (.va h) P.po.ins b n a
def bu.rd(P:bu CP CQ B H A rs S xs xl xr xp kt col)(b:rf K CP)(n:NoAttr K CP f)(a:(pf A).lookup f=some v)(h:σ[i]?=some (some (.ref A.o)))(q:Q v H):dX K (aj i) f σ H Q:=P.fld b n a h _ q
def tq(TP:jg K CP)(P:bu CP CQ B H A rs S xs xl xr xp kt col)(X:H b=some (.tup (nI a)))(T:Pz.js (Pz.iF aE S a p n m))
 (k:∀Y V,PAt CP CQ B V A rs (Pz.iF aE S a p n m) xs xl xr->D.nx Y V):HF K CQ D [some (.ref A.o),some (.ref b),some (.int p),some (vO n),some (vO m),some w] H:=by
 delta HF aI jk
 refine lI (.c (.va rfl) (.c (.va rfl) (.c (.va rfl) .ni))) rfl λt i=>?_;have U:Same H (upd H t (.tup [.int p,vO n,vO m])):=aw i;have s:=P.more U;have u:=s.po.td;have e:=U _ _ X;have E:kt.length<sizeLine:=by have Z:S.told.length=kt.length:=P.po.tr.len;have W:=T.t;have R:=(Pz.sY S.told a (p,n,m)).1;have G:(Pz.iF aE S a p n m).told=Pz.tput S.told a (p,n,m):=rfl;rw[G]at W;rw[SQ];unfold Pz.L at W;lia
 refine s.rd TP.cl TP.nt (DT A) rfl ⟨_,rfl,A.ta,_,rfl,DPut.t (k:=ak a) u e E,?_⟩;have f:=s.tell (a:=a) (x:=(p,n,m)) (p:=t) ac;have j:upd (upd H t (.tup [.int p,vO n,vO m])) A.ta (.dT (bG kt (ak a) (.ref t))) b=some (.tup (nI a)):=by rwa[ai (λz=>by rw[z,u]at e;cases e)]
 generalize upd (upd H t (.tup [.int p,vO n,vO m])) A.ta (.dT (bG kt (ak a) (.ref t)))=I at f j;clear s u e U E i;have g:=T.p;have h:=T.pf;have al:=Pz.eV S.aJ (aE p S.last) (p,a);have J:(Pz.iF aE S a p n m).aJ=S.aJ.app (aE p S.last) (p,a):=rfl;rw[J]at g h;unfold Pz.L at g h;have pr2:RepM k1 IsItem I S.aJ xp:=f.p1.r;refine tj (f.fld TP.cl TP.no (HB A) rfl) f.po.CI (HC A _) (.c (.va rfl) (.c (.va rfl) .ni)) (.mk ⟨f.po.CI,f.p1.d,by rw[<- pr2.len];lia,pr2.low (by lia)⟩ ?_);intro l M N v O y Q C q;have F:=f.p1.d.kt (λ_ _ z=>HO.noConfusion z) q;exact k _ N ⟨_,_,_,f.pile C (pr2.add kN (IsItem.keep F) ⟨M,_,rfl,y,b,rfl,F _ _ j⟩) (λc z=>(jb z).imp id λz=>by rwa[z]) q⟩
def A_(TP:jg K CP)(P:bu CP CQ B H A rs S xs xl xr xp kt col)(i:H b=some (.tup (nI a)))(e:Pz.js (Pz.be aE S a p n m))
 (k:∀l j,PAt CP CQ B j A rs (Pz.be aE S a p n m) xs xl xr->D.nx l j):Kt K CQ D [some (.ref A.o),some (.ref b),some (.int p),some (vO n),some (vO m),some ((cp kt (ak a)).getD .cj)] H:=by
 unfold Pz.be at e k;rcases P.po.tr.find a with⟨g,f⟩|⟨v,x,g,f,q,rfl,d⟩
 .rw[Sg (show Pz.gm S a p=true by unfold Pz.gm;rw[f])]at e k;rw[g];exact⟨_,rfl,rfl,_,rfl,tq TP P i e k⟩
 .rw[g];refine⟨_,rfl,rfl,_,rfl,?_⟩;refine g7 (c:=decide (p<x.1)) (.op (.va rfl) (.ix (.va rfl) d rfl) (λ_ q=>⟨p,x.1,rfl,rfl,q⟩)) (λh=>?_) (λh=>?_)
  .rw[Sg (show Pz.gm S a p=true by unfold Pz.gm;rwa[f])]at e k;exact tq TP P i e k
  .rw[Sj λz=>by unfold Pz.gm at z;rw[f]at z;exact h z]at k;exact k _ H ⟨xp,kt,col,P⟩
def vc(TP:jg K CP)(a:rC K CQ)(h:fc CP CQ vs H Q E):A8 K CQ (eQ Q) (aZ (nS 6) vs) H:=by
 obtain⟨⟨b,f,e,P⟩,d,c,k⟩:=h
 delta A8 aI aT uE
 exact P.rd TP.cl TP.nt (DT _) rfl ⟨_,rfl,.inr ⟨_,.inl P.po.td⟩,_,rfl,_,DGet.t (k:=ak _) P.po.td d,A_ TP P d c λ_=>k⟩
def qK(P:PAt CP CQ B H A rs S xs xl xr)(f:Pz.js (Pz.be aE S a p n m))(h:Reads ta σ H (.ref A.o))(c:Makes te σ H (nI a))(d:∀j,Same H j->ReadsA tr σ j [.int p,vO n,vO m])(k:∀j,PAt CP CQ B j A rs (Pz.be aE S a p n m) xs xl xr->D.nx σ j) :
 b9 (eF CP "offer" (fc CP CQ) [] E0 ta (ah te tr)) D σ H:=by
 have e:=P;obtain⟨_,_,_,g⟩:=e;obtain⟨l,i⟩:=g.po.ins;exact h _ ⟨A.o,l,_,rfl,i,rfl,c _ λq b=>d _ (aw b) _ (.mk (P.more (aw b)) ac f k)⟩
end
section
variable{K:WK}{CP CQ:Addr}{B H:Hp}{A:PA}{rs:Pz.RS}{S:Pz.PS}{xs xl xr:DX (List bc)}{xp:DX bc}{kt:List (List bc×V)}{a0:Addr->Nat}
theorem bu.obj(P:bu CP CQ B H A rs S xs xl xr xp kt a0)(a:H z=none):¬cS A.ap xp z/\¬cS A.sa xs z/\¬cS A.la xl z/\¬cS A.ar xr z/\z≠A.ta/\z≠A.o/\z≠A.aq:=by
 refine⟨λi=>P.p1.d.obj i a,λi=>P.p2.d.obj i a,λi=>P.p3.d.obj i a,λi=>P.p4.d.obj i a,λe=>?_,λe=>?_,λe=>?_⟩
 .rw[e,P.po.td]at a;cases a
 .obtain⟨_,h⟩:=P.po.ins;rw[e,h]at a;cases a
 .obtain⟨_,h⟩:=P.po.CI;rw[e,h]at a;cases a
def DU{W:Type}{it:Hp->W->V->Prop}(E:∀H X,KT H X->∀x v,it H x v->it X x v){a:Addr}{f:Str}{n:DX (List bc)}{d:Pz.MD (Int×Int) W}(P:bu CP CQ B H A rs S xs xl xr xp kt a0)(q:DL .dT H a n)(F:RepM k2 it H d n)
 (Z:rf K CP) (G:NoAttr K CP f) (I:(pf A).lookup f=some (V.ref a)) {R:L2.St} {j:Nat} {b:Addr} {k:Int×Int} (h0:R[0]?=some (some (.ref A.o))) (J:R[j]?=some (some (.ref b))) (hb:H b=some (.tup [.int k.1,.int k.2])) {Q:VK}
 (y:∀(l:Addr)(T:List V)(g O:Hp),Same H O->Same B g->KT O g->bu CP CQ g O A rs S xs xl xr xp kt a0->O l=some (.lst T)->(∀h,Same g h->DL .dT h a n->h l=some (.lst T)/\aN (it h) (d.get k) T)->Q (.ref l) O) :
 cu (dX K (aj 0) f) (aj j) (dR aF) R H Q:=by
 delta cu
 refine P.rd Z G I h0 ⟨a,rfl,.inr ⟨_,.inl q.root⟩,_,J,Sw _,λz Y=>?_⟩;have N:Same H (upd H z (.lst [])):=aw Y;have r:upd H z (.lst []) b=some (.tup ((k2 k).map kV)):=N _ _ hb;refine⟨_,DGet.t (N _ _ q.root) r,?_⟩;have C:=P.more N;rcases F.find iI k with⟨i,L,s⟩|⟨p,i,L,s⟩
 .rw[jD,i];obtain⟨g,u,m,D,w⟩:=C.wide (λc=>c=z) λc e=>by subst e;exact P.obj Y
  refine y z [] g _ N u m w ac λh U _=>⟨U _ _ (D z _ rfl ac),?_⟩;rw[s];exact .nil
 .rw[jD,i];obtain⟨g,u,m,D,w⟩:=C.wide (λ_=>False) λ_ e=>e.elim;refine y p.1 p.2 g _ N u m w (N _ _ (q.ri _ (dC i))) λh U M=>⟨M.ri _ (dC i),s.mono (E _ _ λc ws e=>U _ _ (m _ _ (N _ _ e)))⟩
def Wk(J:L2.It)(g:TG)(h:TS)(D:Ends)(e:L2.St)(H:Hp):Prop:=∃W:Nat->Nat->L2.St->Hp->Prop,(∃m,W 0 m e H)/\∀i m e H,W i m e H->
 (J.stop i H/\D.nx e H)\/(J.go i H/\∃N:L2.St->Hp->Prop,(∀a f,N a f->∃c,c<m/\W (i+1) c a f)/\∀x f,J.zd i H x f->g x e f λb d=>h {D with nx:=N,ct:=N,bk:=D.nx} b d)
def cO{c:TS}{D:Ends}{b:L2.St}(h:tl b H λx d=>∃a,x=.ref a/\(∃xs,SqL K d a xs)/\Wk (yZ K a) g c D b d):cU (bZ K tl) g c D b H:=h
theorem qL{q:Type}{it:Hp->q->V->Prop}{l:Addr}{r:List V}{o:List q}{g:TG}{t:TS}{D:Ends}{p:L2.St}{u:Hp}(b:L2.St->Prop)(step:Pz.PS->q->Pz.PS)(S0:Pz.PS)(W:Pz.PS->Hp->Prop)(z:b p)(h1:W S0 u)
 (d:∀S H,W S H->Rd H l (.lst r)/\aN (it H) o r)
 (C:∀(i:Nat)(x:q)(v:V)(p:L2.St)(H:Hp)(h:Ends),o[i]?=some x->it H x v->b p->W ((o.take i).foldl step S0) H->(∀c y,b c->W (step ((o.take i).foldl step S0) x) y->h.nx c y)->g v p H λf k=>t h f k)
 (hd:∀p H,b p->W (o.foldl step S0) H->D.nx p H):Wk (yZ K l) g t D p u:=by
 have n:o.length=r.length:=(d _ _ h1).2.len;refine cc (K:=K) (a:=l) (xs:=r) (λi p H=>b p/\W ((o.take i).foldl step S0) H) ⟨z,h1⟩ (λi p H _ ⟨_,w⟩=>Or.inl (d _ _ w).1) (λi v p H m ⟨s,w⟩=>?_) λp H ⟨s,w⟩=>?_
 .obtain⟨x,j,E⟩:=(d _ _ w).2.get m;have e:(o.take (i+1)).foldl step S0=step ((o.take i).foldl step S0) x:=by rw[Sv,j,Ur];rfl
  rw[e];exact C i x v p H _ j E s w λ_ _=>And.intro
 .rw[TJ (by lia)]at w;exact hd p H s w
def qM{α:Type}{it:Hp->α->V->Prop}(E:∀H H',KT H H'->∀x v,it H x v->it H' x v){a:Addr}{f:Str}{u:DX (List bc)}{d:Pz.MD (Int×Int) α}(P:bu CP CQ B H A rs S xs xl xr xp kt a0)(F:DL .dT H a u)(G:RepM k2 it H d u)
 (cl:rf K CP) (I:NoAttr K CP f) (J:(pf A).lookup f=some (V.ref a)) {Y:L2.St} {j:Nat} {b:Addr} {k:Int×Int} (h0:Y[0]?=some (some (.ref A.o))) (L:Y[j]?=some (some (.ref b))) (hb:H b=some (.tup [.int k.1,.int k.2])) {g:TG} {tb:TS} {D:Ends} (m:L2.St->Prop) (step:Pz.PS->α->Pz.PS) (W:Hp->Pz.PS->Hp->Prop) (hs:m Y)
 (M:∀h Z,bu CP CQ h Z A rs S xs xl xr xp kt a0->W h S Z) (n:∀h T Z,W h T Z->Same h Z/\DL .dT Z a u)
 (N:∀h (i:Nat) x v Y c (t:Ends),KT H c->(d.get k)[i]?=some x->it c x v->m Y->W h (((d.get k).take i).foldl step S) c->(∀p H',m p->W h (step (((d.get k).take i).foldl step S) x) H'->t.nx p H')->g v Y c λy O=>tb t y O)
 (hd:∀h Y c,Same B h->KT H c->m Y->W h ((d.get k).foldl step S) c->D.nx Y c):cU (bZ K (cu (dX K (aj 0) f) (aj j) (dR aF))) g tb D Y H:=by
 refine cO (DU E P F G cl I J h0 L hb λl vs h Z s1 Q R U z q=>?_);have r:∀T c,W h T c->KT H c:=λT c w a ws e=>(n h T c w).1 _ _ (R _ _ (s1 _ _ e));exact⟨l,rfl,⟨_,SqL.of z⟩,qL (it:=it) m step S (W h) hs (M h Z U) (λT c w=>⟨.inl (q c (n h T c w).1 (n h T c w).2).1,(q c (n h T c w).1 (n h T c w).2).2⟩)
  (λi x v Y c t e1 e2 X C=>N h i x v Y c t (r _ _ C) e1 e2 X C) λY c s w=>hd h Y c Q (r _ _ w) s w⟩
def PH(a:H b=some (.tup [x,y,z]))(k:Q (((σ.set i (some x)).set j (some y)).set l (some z)) H):c9 K 3 (aR (aA i) (aR (aA j) (aR (aA l) cZ))) (.ref b) σ H Q:=⟨b,_,rfl,SqT.of a,rfl,_,_,rfl,_,_,rfl,_,_,rfl,rfl,k⟩
def gp{c:Type}{step:Pz.PS->c->Pz.PS}(a:∀S x,Pz.e_ S (step S x)){its:List c}{S0:Pz.PS}(h:Pz.js (its.foldl step S0)){i:Nat}{x:c}(b:its[i]?=some x):Pz.js (step ((its.take i).foldl step S0) x):=by
 have e:(its.take (i+1)).foldl step S0=step ((its.take i).foldl step S0) x:=by rw[Sv,b,Ur];rfl
 rw[<- e];refine Pz.e_.fit (Pz.ci step a (its.drop (i+1)) _) ?_;rwa[<- Ur,T2]
def cf:R2:=uh λi j=>.int (i+j)
def Reads.add(h:Reads ta σ H (.int i))(a:Reads tb σ H (.int j)):Reads (ba cf ta tb) σ H (.int (i+j)):=h.op a λ_ q=>⟨i,j,rfl,rfl,q⟩
inductive ma(CP CQ:Addr):Sp
 |mk {B H:Hp} {A:PA} {rs:Pz.RS} {S:Pz.PS} {xs xl xr:DX (List bc)} {c:Addr} {r:Pz.Rule} {num mid price:Int} {Q:VK} {E:XK} (P:PAt CP CQ B H A rs S xs xl xr) (hr:IsRule H r (.ref c)) (h2:2<=r.2.2.2.length) (f:Pz.js (Pz.first aE S num r mid price))
  (k:∀H' xl',PAt CP CQ B H' A rs (Pz.first aE S num r mid price) xs xl' xr->Q .cj H'):ma CP CQ [.ref A.o,.int num,.ref c,.int mid,.int price] H Q E
def Ku(K:WK)(CP CQ:Addr):TS:=b9 (eF CP "offer" (fc CP CQ) [] E0 (aj 0) (ah (cm (ah (ba (lD K) (aj 2) (tC (.int 0))) (ah (ba (lD K) (aj 2) (tC (.int 1))) (ah (aj 6) aF))))
 (ah (ba cf (ba cf (aj 4) (aj 7)) (tC (.int 1))) (ah (aj 1) (ah (aj 3) aF)))))
def NU(K:WK)(CP CQ:Addr):TS:=cU (bZ K (cu (dX K (aj 0) "settled") (aj 5) (dR aF))) (c9 K 2 (aR (aA 6) (aR (aA 7) cZ))) (Ku K CP CQ)
def Kv(K:WK)(CP CQ:Addr):TS:=aI (b9 (nG K (dX K (aj 0) "lacking") (aj 5) (cm (ah (aj 1) (ah (aj 2) (ah (aj 4) aF)))))) (NU K CP CQ)
def Ba(K:WK)(CP CQ:Addr):TS:=aI (aT (cm (ah (aj 3) (ah (ba (lD K) (ba (lD K) (aj 2) (tC (.int 3))) (tC (.int 1))) aF))) (aA 5)) (Kv K CP CQ)
theorem Bb(A:PA):(pf A).lookup ("offer" : Str)=none:=rfl
def DV{l:List Int}(h:2<=l.length):(l.map V.int)[1]?=some (.int (Pz.nth1 l)):=by rcases l with _|⟨_,_|⟨_,_⟩⟩<;>first|rfl|(simp at h)
variable{D:Ends}{σ:L2.St}{b c q:Addr}{r:Pz.Rule}{d mid t:Int}
abbrev M0(r:Pz.Rule)(d mid t:Int)(S:Pz.PS)(x:Int×Int):Pz.PS:=Pz.be aE S (r.1,r.2.1,x.1) (t+x.2+1) (some d) (some mid)
def NV(A:PA)(d:Int)(c:Addr)(mid t:Int)(b:Addr)(σ:L2.St):Prop:=∃u v,σ=[some (.ref A.o),some (.int d),some (.ref c),some (.int mid),some (.int t),some (.ref b),u,v]
def HG(P:PAt CP CQ B H A rs S xs xl xr)(h:IsSet H x v)(l:NV A d c mid t b σ)(e:H c=some (.tup [.int r.1,.int r.2.1,.int r.2.2.1,.ref q]))(f:Pz.js (M0 r d mid t S x))
 (k:∀a j,NV A d c mid t b a->PAt CP CQ B j A rs (M0 r d mid t S x) xs xl xr->D.nx a j):c9 K 2 (aR (aA 6) (aR (aA 7) cZ)) v σ H λn g=>Ku K CP CQ D n g:=by
 obtain⟨m,rfl,i⟩:=h;obtain⟨u,w,rfl⟩:=l;exact wD i (qK P f (.va rfl) (.t (.c (.ix (.va rfl) e rfl) (.c (.ix (.va rfl) e rfl) (.c (.va rfl) .ni))) rfl) (λ_ _=>.c (.add (.add (.va rfl) (.va rfl)) .k) (.c (.va rfl) (.c (.va rfl) .ni))) λj=>k _ j ⟨_,_,rfl⟩)
def HH(TP:jg K CP)(P:bu CP CQ B H A rs S xs xl xr xp kt a0)(Y:H b=some (.tup [.int mid,.int (Pz.nth1 r.2.2.2)]))(C:H c=some (.tup [.int r.1,.int r.2.1,.int r.2.2.1,.ref q]))(I:H q=some (.tup (r.2.2.2.map .int)))(W:Pz.js (Pz.first aE S d r mid t))(hs:σ=[some (.ref A.o),some (.int d),some (.ref c),some (.int mid),some (.int t),some (.ref b),none,none])
 (k:∀n X u,PAt CP CQ B X A rs (Pz.first aE S d r mid t) xs u xr->D.nx n X):Kv K CP CQ D σ H:=by
 subst hs;have f:Pz.js (Pz.qE S d r mid t):=Pz.e_.fit (Pz.ci _ (λS x=>Pz.b6 S _ _ _ _) _ _) W;have E:=f.l;have F:=f.lf;have al:=Pz.eV S.aL (mid,Pz.nth1 r.2.2.2) (d,r,t);have J:(Pz.qE S d r mid t).aL=S.aL.app (mid,Pz.nth1 r.2.2.2) (d,r,t):=rfl;rw[J]at E F;unfold Pz.L at E F;have g:RepM k2 IsLack H S.aL xl:=P.p3.r;refine qG (a:=A.la) (b:=b) (xs:=xl) (k:=k2 (mid,Pz.nth1 r.2.2.2)) (ws:=[.int d,.ref c,.int t]) P.p3.d (P.fld TP.cl TP.nl (Kr A) rfl) (.va rfl) Y (λX _=>.t (.c (.va rfl) (.c (.va rfl) (.c (.va rfl) .ni))) rfl) (by rw[<- g.len];lia) (g.low (by lia)) ?_;intro l p M N U hm hd Z;have e:=P.p3.d.kt (λ_ _ z=>HO.noConfusion z) Z;have y:bu CP CQ B M A rs (Pz.qE S d r mid t) xs _ xr _ _ _:=P.qE hd (g.add (k:=(mid,Pz.nth1 r.2.2.2)) (v:=(d,r,t)) iI (IsLack.keep e) ⟨p,_,rfl,hm,c,q,rfl,e _ _ C,e _ _ I⟩) (λc z=>(jb z).imp id λz=>by rwa[z]) Z;exact qM (λH X k=>IsSet.keep k) y y.p2.d y.p2.r TP.cl TP.ns (Kq A) (j:=5) (k:=(mid,Pz.nth1 r.2.2.2)) rfl rfl (e _ _ Y) (NV A d c mid t b) (M0 r d mid t) (λh T m=>PAt CP CQ h m A rs T xs _ xr) ⟨none,none,rfl⟩ (λh H1 P=>⟨_,_,_,P⟩)
  (λh T H1 ⟨_,_,_,P⟩=>⟨P.same,P.p2.d⟩) (λh i x v σ m V G e1 e2 O Q k=>HG Q e2 O (G _ _ (e _ _ C)) (gp (step:=M0 r d mid t) (λS x=>Pz.b6 S _ _ _ _) W e1) k) λh σ m R G s w=>k σ m _ (w.less R)
theorem vd{i:List V}(TP:jg K CP)(h:ma CP CQ i H Q E):Ba K CP CQ (eQ Q) (aZ (nS 8) i) H:=by
 obtain⟨⟨xp,kt,a0,P⟩,⟨_,q,e,a,m⟩,l,f,k⟩:=h;cases e
 delta Ba aI aT
 exact lI (.c (.va rfl) (.c (.ix (.ix (.va rfl) a rfl) m (cD (j:=1) (DV l))) .ni)) rfl λb g=>HH TP (P.more (aw g)) ac (aw g _ _ a) (aw g _ _ m) f rfl λ_=>k
end
section
variable{K:WK}{xp:DX bc}{kt:List (List bc×V)}{r:Addr->Nat}
def gq(K:WK):List V->Hp->VK->Prop:=λb H Q=>∃p a,b=[.ref p]/\(SqL K H p a\/SqT K H p a)/\Q (.int a.length) H
def yq:bJ X (.builtin "len") (gq X.K):=qa
abbrev tI(K:WK)(i:Nat)(n:Int):TE:=ba (lD K) (aj i) (tC (.int n))
def qN(rs:Pz.RS):Prop:=∀k x,x∈rs.get k->1<=x.2.2.2.2.length
inductive ku(CP CQ:Addr):Sp
 |mk {B H:Hp} {A:PA} {rs:Pz.RS} {S:Pz.PS} {xs xl xr:DX (List bc)} {b:Addr} {a:Pz.Arr} {price:Int} {Q:VK} {E:XK} (P:PAt CP CQ B H A rs S xs xl xr) (ha:H b=some (.tup (nI a))) (rok:qN rs) (f:Pz.js (Pz.settle aE rs S a price))
  (k:∀H' xs' xl',PAt CP CQ B H' A rs (Pz.settle aE rs S a price) xs' xl' xr->Q .cj H'):ku CP CQ [.ref A.o,.ref b,.int price] H Q E
def Kw(K:WK)(a b:Addr):TS:=dQ (bO (ba pX (eR (gq K) (ah (tI K 5 3) aF)) (tC (.int 1))))
 (b9 (eF a "offer" (fc a b) [] E0 (aj 0) (ah (cm (ah (tI K 5 0) (ah (tI K 5 1) (ah (tI K 1 2) aF)))) (ah (ba cf (aj 2) (tC (.int 1))) (ah (aj 4) (ah (tC .cj) aF))))))
 (b9 (eF a "settle_first" (ma a b) [] E0 (aj 0) (ah (aj 4) (ah (aj 5) (ah (tI K 1 2) (ah (aj 2) aF))))))
def NW(K:WK)(a b:Addr):TS:=cU (bZ K (cu (dX K (aj 0) "rules") (aj 3) (dR aF))) (c9 K 2 (aR (aA 4) (aR (aA 5) cZ))) (Kw K a b)
def Kx(K:WK)(a b:Addr):TS:=b9 (eF a "offer" (fc a b) [] E0 (aj 0) (ah (cm (ah (tI K 5 0) (ah (tI K 5 1) (ah (tI K 1 2) aF)))) (ah (ba cf (ba cf (aj 6) (aj 2)) (tC (.int 1))) (ah (aj 4) (ah (tI K 1 0) aF)))))
def NY(K:WK)(a b:Addr):TS:=aI (cU (bZ K (cu (dX K (aj 0) "lacking") (aj 3) (dR aF))) (c9 K 3 (aR (aA 4) (aR (aA 5) (aR (aA 6) cZ)))) (Kx K a b)) (NW K a b)
def Ky(K:WK)(a b:Addr):TS:=aI (b9 (nG K (dX K (aj 0) "settled") (aj 3) (cm (ah (tI K 1 2) (ah (aj 2) aF))))) (NY K a b)
def wI(K:WK)(a b:Addr):TS:=aI (aT (cm (ah (tI K 1 0) (ah (tI K 1 1) aF))) (aA 3)) (Ky K a b)
def Bc(A:PA):(pf A).lookup ("settle_first" : Str)=none:=rfl
def Reads.len(h:Reads ta σ H (.ref q))(a:H q=some (.tup ws)):Reads (eR (gq K) (ah ta aF)) σ H (.int ws.length):=λ_ k=>h _ ⟨q,ws,rfl,.inr (SqT.of a),k⟩
def Reads.xn(h:Reads ta σ H (.int m))(a:Reads tb σ H (.int n)):Reads (ba pX ta tb) σ H (.bl (decide (m=n))):=h.op a λ_ q=>⟨rfl,by rwa[show decide (V.int m=V.int n)=decide (m=n)from decide_eq_decide.mpr ⟨λe=>by injection e,λe=>by rw[e]⟩]⟩
variable{D:Ends}{d:L2.St}{b b0:Addr}{a:Pz.Arr}{t:Int}
def JJ(A:PA)(b0:Addr)(t:Int)(b:Addr)(d:L2.St):Prop:=∃u v w,d=[some (.ref A.o),some (.ref b0),some (.int t),some (.ref b),u,v,w]
def NZ(P:PAt CP CQ B H A rs S xs xl xr)(h:IsLack H x v)(o:JJ A b0 t b d)(n:H b0=some (.tup (nI a)))(f:Pz.js (Pz.lj aE a t S x))
 (k:∀y m,JJ A b0 t b y->PAt CP CQ B m A rs (Pz.lj aE a t S x) xs xl xr->D.nx y m):c9 K 3 (aR (aA 4) (aR (aA 5) (aR (aA 6) cZ))) v d H λe i=>Kx K CP CQ D e i:=by
 obtain⟨p,_,rfl,j,c,q,rfl,g,l⟩:=h;obtain⟨u,w,z,rfl⟩:=o;exact PH j (qK P f (.va rfl) (.t (.c (.ix (.va rfl) g rfl) (.c (.ix (.va rfl) g rfl) (.c (.ix (.va rfl) n rfl) .ni))) rfl) (λ_ s=>.c (.add (.add (.va rfl) (.va rfl)) .k) (.c (.va rfl) (.c (.ix (.va rfl) (s _ _ n) rfl) .ni))) λm=>k _ m ⟨_,_,_,rfl⟩)
def N0(P:PAt CP CQ B H A rs S xs xl xr)(h:IsNum H x v)(C:JJ A b0 t b d)(F:H b0=some (.tup (nI a)))(o:1<=x.2.2.2.2.length)(f:Pz.js (Pz.cF aE a t S x))
 (k:∀e p,JJ A b0 t b e->(∃I,PAt CP CQ B p A rs (Pz.cF aE a t S x) xs I xr)->D.nx e p):c9 K 2 (aR (aA 4) (aR (aA 5) cZ)) v d H λj m=>Kw K CP CQ D j m:=by
 obtain⟨G,_,rfl,n,c,q,rfl,i,l⟩:=h;obtain⟨u,w,z,rfl⟩:=C;unfold Pz.cF at f k;have y:(((x.2.2.2.2.map V.int).length:Nat):Int)=1↔x.2.2.2.2.length=1:=by rw[R9];lia
 refine wD n (g7 (.xn (.len (.ix (.va rfl) i rfl) l) .k) (λh=>?_) λh=>?_)
 .rw[Sg (y.mp (SO h))]at f k;exact qK P f (.va rfl) (.t (.c (.ix (.va rfl) i rfl) (.c (.ix (.va rfl) i rfl) (.c (.ix (.va rfl) F rfl) .ni))) rfl) (λ_ s=>.c (.add (.va rfl) .k) (.c (.va rfl) (.c .k .ni))) λp g=>k _ p ⟨_,_,_,rfl⟩ ⟨_,g⟩
 .have h1:¬x.2.2.2.2.length=1:=λz=>h (Sz (y.mpr z));have E:2<=x.2.2.2.2.length:=by lia
  rw[Sj h1]at f k;have g:=P;obtain⟨_,_,_,Q⟩:=g;exact tj (.va rfl) Q.po.ins (Bc A) (.c (.va rfl) (.c (.va rfl) (.c (.ix (.va rfl) F rfl) (.c (.va rfl) .ni)))) (.mk P ⟨c,q,rfl,i,l⟩ E f λp I g=>k _ p ⟨_,_,_,rfl⟩ ⟨I,g⟩)
def N1(TP:jg K CP)(P:bu CP CQ B H A rs S xs xl xr xp kt r)(ha:H b0=some (.tup (nI a)))(hb:H b=some (.tup [.int a.1,.int a.2.1]))(E:qN rs)(fit:Pz.js (Pz.settle aE rs S a t))(hs:d=[some (.ref A.o),some (.ref b0),some (.int t),some (.ref b),none,none,none])
 (k:∀F H' G e,PAt CP CQ B H' A rs (Pz.settle aE rs S a t) G e xr->D.nx F H'):Ky K CP CQ D d H:=by
 subst hs;have g2:Pz.e_ ((S.aL.get (a.1,a.2.1)).foldl (Pz.lj aE a t) (Pz.note S a t)) (Pz.settle aE rs S a t):=Pz.ci _ (Pz.jB a t) _ _;have h:=g2.fit fit;have m:Pz.js (Pz.note S a t):=Pz.e_.fit (Pz.ci _ (λS x=>Pz.b6 S _ _ _ _) _ _) h;have Q:=m.s;have R:=m.sf;have al:=Pz.eV S.settled (a.1,a.2.1) (a.2.2,t);have V:(Pz.note S a t).settled=S.settled.app (a.1,a.2.1) (a.2.2,t):=rfl;rw[V]at Q R;unfold Pz.L at Q R;have n:RepM k2 IsSet H S.settled xs:=P.p2.r;refine qG (a:=A.sa) (b:=b) (xs:=xs) (k:=k2 (a.1,a.2.1)) (ws:=[.int a.2.2,.int t]) P.p2.d (P.fld TP.cl TP.ns (Kq A) rfl) (.va rfl) hb (λH' kp=>.t (.c (.ix (.va rfl) (kp _ _ ha (λz=>by rw[z,P.p2.d.root]at ha;cases ha)) rfl) (.c (.va rfl) .ni)) rfl) (by rw[<- n.len];lia) (n.low (by lia)) ?_;intro l p W X hp hm hd kp;have f:=P.p2.d.kt (λ_ _ z=>HO.noConfusion z) kp;have y:bu CP CQ B W A rs (Pz.note S a t) _ xl xr _ _ _:=P.Pq hd (n.add (k:=(a.1,a.2.1)) (v:=(a.2.2,t)) iI (IsSet.keep f) ⟨p,rfl,hm⟩) (λc z=>(jb z).imp id λz=>by rwa[z]) kp;generalize kM xs (k2 (a.1,a.2.1)) l (.ref p)=q at y;refine qM (λH H' k=>IsLack.keep k) y y.p3.d y.p3.r TP.cl TP.nl (Kr A) (j:=3) (k:=(a.1,a.2.1)) rfl rfl (f _ _ hb) (JJ A b0 t b) (Pz.lj aE a t) (λg T I=>PAt CP CQ g I A rs T q xl xr) ⟨none,none,none,rfl⟩ (λg H1 P=>⟨_,_,_,P⟩)
  (λg T H1 ⟨_,_,_,P⟩=>⟨P.same,P.p3.d⟩) (λg i x v d I Y C e1 e2 J M k=>NZ M e2 J (C _ _ (f _ _ ha)) (gp (step:=Pz.lj aE a t) (λS x=>Pz.b6 S _ _ _ _) h e1) k) λg d I Z C s w=>?_
 obtain⟨u,v,z,rfl⟩:=s;obtain⟨_,_,_,N⟩:=w;have O:=C _ _ (f _ _ ha);exact qM (λH H' k=>IsNum.keep k) N N.p4.d N.p4.r TP.cl TP.nr (NT A) (j:=3) (k:=(a.1,a.2.1)) rfl rfl (C _ _ (f _ _ hb)) (JJ A b0 t b) (Pz.cF aE a t) (λg T H6=>∃e,PAt CP CQ g H6 A rs T q e xr) ⟨_,_,_,rfl⟩ (λg H1 P=>⟨_,_,_,_,P⟩)
  (λg T H1 ⟨_,_,_,_,P⟩=>⟨P.same,P.p4.d⟩) (λg i x v d H6 Y U e1 e2 J ⟨_,M⟩ k=>N0 M e2 J (U _ _ O) (E _ _ (SB e1)) (gp (step:=Pz.cF aE a t) (Pz.jB a t) fit e1) k) λB2 d H6 b2 U s ⟨e,w⟩=>k d H6 _ e (w.less (Z.trans b2))
theorem tz(TP:jg K CP)(h:ku CP CQ vs H Q E):wI K CP CQ (eQ Q) (aZ (nS 7) vs) H:=by
 obtain⟨⟨xp,kt,r,P⟩,e,i,f,k⟩:=h
 delta wI aI aT
 exact lI (.c (.ix (.va rfl) e rfl) (.c (.ix (.va rfl) e rfl) .ni)) rfl λb g=>N1 TP (P.more (aw g)) (aw g _ _ e) ac i f rfl λ_=>k
end
section
variable{K:WK}
def bu.yf(h:bu CP CQ B H A rs S xs xl xr xp kt col)(v:∃r,H' A.aq=some (.ins CQ r (qf A m)))(h1:DL .dK H' A.ap xp')(w:RepM k1 IsItem H' d' xp')(j:∀c,cS A.ap xp' c->cS A.ap xp c\/H c=none)
 (s:∀c u,H c=some u->¬cS A.ap xp c->c≠A.aq->H' c=some u):bu CP CQ B H' A rs {S with last:=m,aJ:=d'} xs xl xr xp' kt (qH col 1 H):=by
 obtain⟨q,b⟩:=h.po.CI;have k:KT H H':=λc D e=>s c _ e (λi=>by
  rcases i with rfl|⟨x,l,rfl⟩
  .rw[h.p1.d.root]at e;cases e
  .rw[h.p1.d.ri x l]at e;cases e) λz=>by rw[z,b]at e;cases e
 have a:∀c u,H c=some u->col c≠1->col c≠7->H' c=some u:=λc u e n o=>s c u e (λi=>n (h.p1.c c i).1) λz=>o (by rw[z];exact h.po.c7.1);obtain⟨⟨r,f⟩,_,g,p,y,C,t⟩:=h.po;refine⟨(λc u e=>s c u (h.same c u e) (λi=>by rw[(h.p1.c c i).2]at e;cases e) λz=>by rw[z,t.2]at e;cases e),h.p1.new h.same h1 w j,h.p2.keep (IsSet.keep k) (λc u e z=>a c u e (by lia) (by lia)) λc=>bz,h.p3.keep (IsLack.keep k) (λc u e z=>a c u e (by lia) (by lia)) λc=>bz,h.p4.keep (IsNum.keep k) (λc u e z=>a c u e (by lia) (by lia)) λc=>bz,⟨r,a _ _ f (by lia) (by lia)⟩,v,a _ _ g (by lia) (by lia),p.keep k,?_,?_,?_⟩
 .rwa[bz (by rw[g];simp)]
 .rwa[bz (by rw[f];simp)]
 .rwa[bz (by rw[b];simp)]
inductive xg(CP CQ:Addr):Sp
 |mk {B H:Hp} {A:PA} {rs:Pz.RS} {S T:Pz.PS} {xs xl xr:DX (List bc)} {n:Nat} {Q:VK} {E:XK} (P:PAt CP CQ B H A rs S xs xl xr) (rok:qN rs) (fit:Pz.js S) (lp:Pz.Loop aE rs n S T) (k:∀H' xs' xl',PAt CP CQ B H' A rs T xs' xl' xr->Q .cj H'):xg CP CQ [.ref A.o] H Q E
def Kz(K:WK)(a b:Addr):TS:=dQ (bO (ba pX (ba (lD K) (ip (dX K (aj 0) "told") (aj 2)) (tC (.int 0))) (aj 1))) (b9 (eF a "settle" (ku a b) [] E0 (aj 0) (ah (aj 2) (ah (aj 1) aF)))) ck
def KA(K:WK)(b a:Addr):TS:=cU (bZ K (eF a "take_lowest" (rD a) [] E0 (dX K (aj 0) "offers") aF)) (c9 K 2 (aR (aA 1) (aR (aA 2) cZ))) (Kz K b a)
def N2(K:WK)(b a:Addr):TS:=mw (ul (tB (eF a "is_empty" (ml a) [] E0 (dX K (aj 0) "offers") aF))) (KA K b a)
def HI(A:PA)(a:Int):(qf A a).lookup ("is_empty" : Str)=none:=rfl
def DW(A:PA)(a:Int):(qf A a).lookup ("take_lowest" : Str)=none:=rfl
def yr(A:PA):(pf A).lookup ("settle" : Str)=none:=rfl
variable{D:Ends}{p:L2.St}{T:Pz.PS}{m:Nat}
def KB(A:PA)(p:L2.St):Prop:=∃u v,p=[some (.ref A.o),u,v]
def wA(c d:Addr)(B:Hp)(A:PA)(rs:Pz.RS)(a:DX (List bc))(T:Pz.PS)(m:Nat)(p:L2.St)(H:Hp):Prop:=KB A p/\∃S e b,PAt c d B H A rs S e b a/\Pz.js S/\Pz.Loop aE rs m S T
def al3(TP:jg K CP)(g:qN rs)(P:PAt CP CQ B H A rs S xs xl xr)(h:IsItem H x v)(E:KB A p)(l:Pz.bB S.told x.2≠none)(f:Pz.js (Pz.turn aE rs S x))
 (k:∀e r,KB A e->(∃a d,PAt CP CQ B r A rs (Pz.turn aE rs S x) a d xr)->D.nx e r):c9 K 2 (aR (aA 1) (aR (aA 2) cZ)) v p H λi n=>Kz K CP CQ D i n:=by
 obtain⟨t,_,rfl,o,b,rfl,C⟩:=h;obtain⟨u,w,rfl⟩:=E;have j:=P;obtain⟨_,_,_,Q⟩:=j;rcases Q.po.tr.find x.2 with⟨_,s⟩|⟨_,y,F,s,q,rfl,G⟩
 .exact(l s).elim
 unfold Pz.turn Pz.bU at f k;rw[s]at f k;refine wD o (g7 (.xn (.ix (λ_ z=>Q.fld TP.cl TP.nt (DT A) rfl _ ⟨_,rfl,A.ta,.ref q,rfl,by rw[<- F];exact DGet.t Q.po.td C,z⟩) G rfl) (.va rfl)) (λh=>?_) λh=>?_)
 .rw[Sg h]at f k;exact tj (.va rfl) Q.po.ins (yr A) (.c (.va rfl) (.c (.va rfl) .ni)) (.mk P C g f λr a d j=>k _ r ⟨_,_,rfl⟩ ⟨a,d,j⟩)
 .rw[Sj h]at k;exact k _ H ⟨_,_,rfl⟩ ⟨xs,xl,P⟩
def al2(TP:jg K CP)(q:qN rs)(P:bu CP CQ B H A rs S xs xl xr xp kt col)(fit:Pz.js S)(hs:KB A p)(t:S.aJ≠[])(aS:Pz.uk aE S.last S.aJ)(y:∀x∈Pz.dz aE S.aJ,Pz.bB S.told x.2≠none)(g:Pz.js (Pz.batch aE rs (Pz.take aE S) (Pz.dz aE S.aJ)))
 (lp:Pz.Loop aE rs m (Pz.batch aE rs (Pz.take aE S) (Pz.dz aE S.aJ)) T) (k:∀j H',wA CP CQ B A rs xr T m j H'->D.nx j H'):KA K CP CQ D p H:=by
 obtain⟨u,v,rfl⟩:=hs;have pr:RepM k1 IsItem H S.aJ xp:=P.p1.r;have M:=fit.p;have N:=fit.pf;unfold Pz.L at M N;refine cO (tj (P.fld TP.cl TP.no (HB A) rfl) P.po.CI (DW A _) .ni (.mk ⟨P.po.CI,P.p1.d,by rw[<- pr.len];lia,pr.low (by lia)⟩ pr aS t (by lia) ?_));intro l O C H1 I Q n R nl il o E;have U:bu CP CQ B H1 A rs (Pz.take aE S) xs xl xr C kt _:=P.yf (m:=Pz.lowP S.aJ) (d':=Pz.left aE S.aJ) I.ins I.aJ Q o E;obtain⟨F,V,W,X,Y⟩:=U.wide (λc=>c=l) λc e=>by
  subst e;rcases il with il|il
  .have G:=(P.p1.c c il).1;refine⟨nl,λi=>?_,λi=>?_,λi=>?_,λz=>?_,λz=>?_,λz=>?_⟩
   .have:=(P.p2.c c i).1;lia
   .have:=(P.p3.c c i).1;lia
   .have:=(P.p4.c c i).1;lia
   .have:=P.po.c5.1;rw[z]at G;lia
   .have:=P.po.c6.1;rw[z]at G;lia
   .have:=P.po.c7.1;rw[z]at G;lia
  .exact⟨nl,(P.obj il).2⟩
 have sm:∀h a,(∃b f,PAt CP CQ F a A rs h b f xr)->Same F a:=λh a ⟨_,_,_,_,_,P⟩=>P.same;exact⟨l,rfl,⟨_,SqL.of n⟩,qL (it:=IsItem) (KB A) (Pz.turn aE rs) (Pz.take aE S) (λh a=>∃b f,PAt CP CQ F a A rs h b f xr) ⟨_,_,rfl⟩ ⟨xs,xl,_,_,_,Y⟩ (λh a w=>⟨.inl (sm h a w _ _ (X l _ rfl n)),R.mono (IsItem.keep λc ws e=>sm h a w _ _ (W _ _ e))⟩)
  (λi x v p a Z J ix s ⟨_,_,w⟩ k=>al3 TP q w ix s (Pz.iG _ (λS x k=>Pz.DJ k) _ _ (y x (SB J))) (gp (step:=Pz.turn aE rs) Pz.yi g J) k) λp a s ⟨b,f,w⟩=>k p a ⟨s,_,b,f,w.less V,g,lp⟩⟩
theorem Be(TP:jg K CP)(h:xg CP CQ vs H Q E):N2 K CP CQ (eQ Q) (aZ (nS 3) vs) H:=by
 obtain @⟨B,H,A,rs,S,T,t,c,xr,n,Q,E,P,rok,s,lp,k⟩:=h;refine⟨wA CP CQ B A rs xr T,⟨n,⟨none,none,rfl⟩,S,t,c,P,s,lp⟩,?_⟩;clear P lp s;rintro m p H ⟨v,S,t,c,⟨g,x,u,P⟩,s,lp⟩;have y:p[0]?=some (some (.ref A.o)):=by obtain⟨_,_,rfl⟩:=v;rfl
 have w:g.kv.length=S.aJ.length:=by unfold DX.kv;rw[R9,<- P.p1.r.len]
 obtain⟨j,i⟩:=P.po.CI;have l:=s.p;unfold Pz.L at l;refine tj (P.fld TP.cl TP.no (HB A) y) ⟨j,i⟩ (HI A _) .ni (.mk i P.p1.d.root (by rw[w,SQ];lia) ⟨_,rfl,?_⟩);rw[w];cases lp with
 |done e=>rw[e];exact fq (k H t c ⟨g,x,u,P⟩)
 |@step m _ _ a C f _ b lp=>rw[Tw λz=>a (S6.mp z)];exact fK ⟨wA CP CQ B A rs xr T m,λq G F=>⟨m,Uo _,F⟩,al2 TP rok P s v a C f b lp λ_ _=>id⟩
end
section
variable{K:WK}{H:Hp}
theorem wJ{u:TS}{D:Ends}{r:L2.St}{z:Hp}(b:L2.St->Prop)(W:Nat->Hp->Prop)(A:b r)(h1:W 0 z)(h:∀i H,W i H->SqL K H l vs)
 (B:∀(i:Nat)(v:V)(p:Addr)(r:L2.St)(H:Hp)(f:Ends),vs[i]?=some v->H p=none->b r->W i H->(∀a t,b a->W (i+1) t->f.nx a t)->g (.ref p) r (upd H p (.tup [.int (i:Nat),v])) λd j=>u f d j)
 (hd:∀r H,b r->W vs.length H->D.nx r H):Wk (MX K l) g u D r z:=by
 refine⟨λi m r H=>m=vs.length-i/\i<=vs.length/\b r/\W i H,⟨vs.length,by simp,Sw _,A,h1⟩,?_⟩;rintro i m r H ⟨rfl,o,s,w⟩;have q:=h i H w;by_cases c:i<vs.length
 .refine .inr ⟨⟨vs,vs[i],q,by simp[c]⟩,λa t=>b a/\W (i+1) t,λa t k=>⟨vs.length-(i+1),by lia,rfl,c,k⟩,λx t y=>?_⟩;obtain⟨p,v,n,rfl,rfl,y⟩:=y;exact B i v p r H _ (y vs q) n s w λ_ _=>And.intro
 .have e:i=vs.length:=by lia
  subst e;exact .inl ⟨⟨vs,q,R7 _⟩,hd r H s w⟩
def pO{c:TS}{D:Ends}{b:L2.St}(h:ta b H λe d=>∃a f,e=[.ref a]/\SqL K d a f/\Wk (MX K a) g c D b d):cU (wy K ta) g c D b H:=h
theorem ve:∀(l:List Pz.Rule)(k i:Nat),(Pz.en l k)[i]?=(l[i]?).map λr=>(((k+i:Nat):Int),r)
 |[],k,i=>by simp[Pz.en]
 |r::l,k,0=>by simp[Pz.en]
 |r::l,k,i+1=>by show(Pz.en l (k+1))[i]?=(l[i]?).map _;rw[ve l];congr 1;funext r;congr 2;lia
def wK{a:Type}(f:a->Int×Pz.Rule->a)(b:a){l:List Pz.Rule}{i:Nat}{r:Pz.Rule}(h:l[i]?=some r):((Pz.en l 0).take (i+1)).foldl f b=f (((Pz.en l 0).take i).foldl f b) ((i:Int),r):=by
 have e:(Pz.en l 0)[i]?=some ((i:Int),r):=by rw[ve,h];simp
 rw[Sv,e,Ur];rfl
structure cY(H:Hp) (b:List Pz.Rule) (p l:Addr) (a:List V):Prop where
 tup:∃c d,H p=some (.tup [c,d,.ref l])
 lst:Rd H l (.lst a)
 its:aN (IsRule H) b a
def aU(s:Same H H')(h:Rd H a u):Rd H' a u:=h.imp (s a _) λ⟨o,e⟩=>⟨o,s a _ e⟩
def cY.same(h:cY H RL p l vs)(s:Same H H'):cY H' RL p l vs:=⟨let ⟨a,b,e⟩:=h.tup;⟨a,b,s _ _ e⟩,aU s h.lst,h.its.mono (IsRule.keep (qJ s))⟩
inductive Fy:Sp
 |mk {RL:List Pz.Rule} {p l:Addr} {ws:List V} {H:Hp} {Q:VK} {E:XK} (G:cY H RL p l ws) (br:RL.length<16000000) (k:∀(ar:Addr)(xr:DX (List bc))(H':Hp),Same H H'->DL .dT H' ar xr->RepM k2 IsNum H' (Pz.bM RL) xr->(∀c,cS ar xr c->H c=none)->Q (.ref ar) H'):Fy [.ref p] H Q E
def HJ:R2:=uh λi j=>.bl (decide (j<i))
def KC(K:WK):TS:=dQ (bO (ba HJ (eR (gq K) (ah (tI K 3 3) aF)) (tC (.int 0)))) (b9 (nG K (aj 1) (cm (ah (tI K 3 2) (ah (ba (lD K) (tI K 3 3) (tC (.int 0))) aF))) (cm (ah (aj 2) (ah (aj 3) aF))))) ck
def N3(K:WK):TS:=aI (cU (wy K (ah (tI K 0 2) aF)) (c9 K 2 (aR (aA 2) (aR (aA 3) cZ))) (KC K)) (b5 (aj 1))
def Qq(K:WK):TS:=aI (aT dY (aA 1)) (N3 K)
def yt(c:Reads to σ H (.ref a))(d:H a=some (.dT kvs))(e:Makes tk σ H ks)(h:∀b,H b=none->nG K (tC (.ref a)) (tC (.ref b)) te σ (upd H b (.tup ks)) Q):nG K to tk te σ H Q:=c _ ⟨.inr (.inr (.inl ⟨rfl,.inr ⟨_,d⟩⟩)),e _ λb f=>(h b f).2⟩
theorem HK{m:Type}{it:Hp->m->V->Prop}(J:∀{H F:Hp},KT H F->∀a v,it H a v->it F a v){L M N:TE}{I:L2.St}{G:Addr}{g:DX (List bc)}{d:Pz.MD (Int×Int) m}{k:Int×Int}{v:m}{ws:List V}{C:Hp->Prop}(j:DL .dT H G g)(R2:RepM k2 it H d g)(ok:d.Ok)(O:d.flat.length<16000000)(w:Reads L I H (.ref G))(x:Makes M I H [.int k.1,.int k.2])(P:∀F,KT H F->Makes N I F ws)(y:∀p F,KT H F->F p=some (.tup ws)->it F v (.ref p))
 (A:∀F f,DL .dT F G f->RepM k2 it F (d.app k v) f->(∀c,cS G f c->cS G g c\/H c=none)->(∀c u,H c=some u->¬cS G g c->F c=some u)->C F):nG K L M N I H λ_ F=>C F:=by
 refine yt w j.root x λb Q=>?_;have l:=aw (o:=HO.tup [.int k.1,.int k.2]) Q;refine qG (a:=G) (b:=b) (xs:=g) (k:=k2 k) (ws:=ws) (j.keep λc u e _=>l c u e) .k .k ac (λF J=>P F λc R e=>J c _ (l _ _ e) λz=>by rw[z,j.root]at e;cases e) (by rw[<- R2.len];have:=Pz.gC ok;lia) (R2.low O) ?_;intro E B n q D r s t;have h:∀c u,H c=some u->¬cS G g c->n c=some u:=λc u e=>t c u (l _ _ e);have i:=j.kt (λ_ _ z=>HO.noConfusion z) h;exact A n _ s (R2.add (k:=k) (v:=v) iI (J i) (y B n i r)) (λc z=>(jb z).imp id λz=>by rw[z];exact l.free q) h
variable{D:Ends}{σ:L2.St}{p ar pp c q:Addr}{r:Pz.Rule}{n:Int}{xr:DX (List bc)}{d:Pz.RS}
def N4(p ar:Addr)(σ:L2.St):Prop:=∃u v,σ=[some (.ref p),some (.ref ar),u,v]
def Qr(o:DL .dT H ar xr)(R2:RepM k2 IsNum H d xr)(ok:d.Ok)(F:d.flat.length<16000000)(G:N4 p ar σ)(g:H pp=some (.tup [.int n,.ref c]))(f:H c=some (.tup [.int r.1,.int r.2.1,.int r.2.2.1,.ref q]))(i:H q=some (.tup (r.2.2.2.map .int)))
 (k:∀b B a,N4 p ar b->DL .dT B ar a->RepM k2 IsNum B (Pz.byOne d (n,r)) a->(∀c,cS ar a c->cS ar xr c\/H c=none)->(∀c u,H c=some u->¬cS ar xr c->B c=some u)->D.nx b B):c9 K 2 (aR (aA 2) (aR (aA 3) cZ)) (.ref pp) σ H λl s=>KC K D l s:=by
 obtain⟨u,w,rfl⟩:=G;have C:(0:Int)<(((r.2.2.2.map V.int).length:Nat):Int)↔r.2.2.2.length>0:=by rw[R9];lia
 unfold Pz.byOne at k;refine wD g (g7 (.op (.len (.ix (.va rfl) f rfl) i) .k λ_ q=>⟨_,_,rfl,rfl,q⟩) (λh=>?_) λh=>?_)
 .have h1:=C.mp (SO h);rw[Sg h1]at k;have m:(r.2.2.2.map V.int)[0]?=some (.int (r.2.2.2[0]?.getD 0)):=by
   cases A:r.2.2.2 with
   |nil=>rw[A]at h1;simp at h1
   |cons x y=>rfl
  exact HK (k:=(r.2.2.1,r.2.2.2[0]?.getD 0)) (v:=(n,r)) (λk=>IsNum.keep k) o R2 ok F (.va rfl) (.t (.c (.ix (.va rfl) f rfl) (.c (.ix (.ix (.va rfl) f rfl) i (cD (j:=0) m)) .ni)) rfl) (λB _=>.t (.c (.va rfl) (.c (.va rfl) .ni)) rfl) (λp B E I=>⟨p,_,rfl,I,c,q,rfl,E _ _ f,E _ _ i⟩) λB a=>k _ B a ⟨_,_,rfl⟩
 .rw[Sj λz=>h (Sz (C.mpr z))]at k;exact k _ H _ ⟨_,_,rfl⟩ o R2 (λc=>.inl) λc u e _=>e
theorem DY{Q:VK}{E:XK}(h:Fy vs H Q E):Qq K (eQ Q) (aZ (nS 4) vs) H:=by
 obtain @⟨S,p,l,ws,H,Q,E,G,br,k⟩:=h;intro ar j;have V:Same H (upd H ar (.dT [])):=aw j;obtain⟨O,P,B⟩:=(G.same V).tup;have bl:∀i,(((Pz.en S 0).take i).foldl Pz.byOne []).Ok/\(((Pz.en S 0).take i).foldl Pz.byOne []).flat.length<16000000:=λi=>by obtain⟨a,b⟩:=Pz.by_len ((Pz.en S 0).take i) [] Pz.tf;have h1:=S_ i (Pz.en S 0);rw[Pz.nE]at h1;have W:(Pz.MD.flat ([]:Pz.RS)).length=0:=rfl;exact⟨a,by lia⟩
 refine pO (ReadsA.c (.ix (.va (i:=0) rfl) B (v:=.ref l) rfl) .ni _ ⟨l,ws,rfl,.inl (aU V G.lst),?_⟩);refine wJ (N4 p ar) (λi g=>∃xr,Same H g/\DL .dT g ar xr/\RepM k2 IsNum g (((Pz.en S 0).take i).foldl Pz.byOne []) xr/\∀c,cS ar xr c->H c=none) ⟨none,none,rfl⟩ ⟨[],V,⟨ac,λ_ h=>(Sx h).elim,S1,S1⟩,.nil,λc i=>?_⟩ (λi g ⟨xr,T,_⟩=>.inl (aU T G.lst)) (λi v pp σ g R C m X ⟨xr,T,s,R2,U⟩ k=>?_) λσ g ⟨u,w,e⟩ ⟨xr,T,s,R2,U⟩=>?_
 .rcases i with rfl|⟨x,F,_⟩
  .exact j
  .exact(Sx F).elim
 .obtain⟨r,I,c,q,rfl,J,L⟩:=G.its.get C;have t:=aw (o:=HO.tup [.int (i:Nat),.ref c]) m;have f:=T.trans t;rw[wK _ _ I]at k;exact Qr (s.keep λc u e _=>t c u e) (R2.keep (IsNum.keep (qJ t))) (bl i).1 (bl i).2 X ac (f _ _ J) (f _ _ L) λy Y A h1 W Z M N=>k y Y h1 ⟨A,(λc u e=>N c u (f _ _ e) λz=>by rw[U c z]at e;cases e),W,Z,λc z=>(M c z).elim (U c) f.free⟩
 .subst e;rw[TJ (by rw[Pz.nE,G.its.len];exact R7 _)]at R2;exact⟨_,rfl,k ar xr g T s R2 U⟩
end
section
variable{K:WK}{CP CQ:Addr}{H:Hp}
inductive mj(CP CQ:Addr):Sp
 |mk {B H:Hp} {RL:List Pz.Rule} {o dx p l:Addr} {ws:List V} {Q:VK} {E:XK} (ho:H o=some (.ins CP dx [])) (sb:Same B H) (nb:B o=none) (G:cY H RL p l ws) (br:RL.length<16000000) (k:∀(A:PA)(xr:DX (List bc))(H':Hp),A.o=o->PAt CP CQ B H' A (Pz.bM RL) Pz.S0 [] [] xr->Q .cj H'):mj CP CQ [.ref o,.ref p] H Q E
def HL(K:WK)(CQ:Addr):TS:=
 aI (pZ K (aj 0) (bj Fy [] E0 (ah (aj 1) aF)) "rules")
 (aI (pZ K (aj 0) dY "told")
 (aI (pZ K (aj 0) (vX CQ (l_ CQ) [] E0 aF) "offers")
 (aI (pZ K (aj 0) dY "settled")
 (pZ K (aj 0) dY "lacking"))))
def vf(TP:jg K CP)(h:mj CP CQ vs H Q E):HL K CQ (eQ Q) (aZ N vs) H:=by
 obtain @⟨B,H,RL,o,dx,p,l,ws,Q,E,ho,sb,nb,G,br,k⟩:=h;refine⟨_,rfl,.mk G br λar xr H1 s1 D1 R1 n1=>?_⟩;have ho1:=s1 _ _ ho;have Y:∀c,cS ar xr c->c≠o:=λc i z=>by grind
 refine⟨_,rfl,o,CP,dx,_,rfl,ho1,TP.cl,TP.nr,(by grind),?_⟩;generalize Z:upd H1 o (.ins CP dx (gf "rules" (.ref ar) []))=H2;have F:H2 o=some (.ins CP dx [("rules",.ref ar)]):=by rw[<- Z,ac];rfl
 have I:∀c u,H1 c=some u->c≠o->H2 c=some u:=λc u e n=>by rwa[<- Z,ai n]
 intro ta g;have e3:upd H2 ta (.dT []) o=some (.ins CP dx [("rules",.ref ar)]):=by rwa[ai (ay F g)]
 refine⟨_,rfl,o,CP,dx,_,rfl,e3,TP.cl,TP.nt,(by grind),?_⟩;generalize J:upd (upd H2 ta (.dT [])) o (.ins CP dx (gf "told" (.ref ta) [("rules",.ref ar)]))=t;have f:ta≠o:=(ay F g).symm;have ho4:t o=some (.ins CP dx [("rules",.ref ar),("told",.ref ta)]):=by rw[<- J,ac];rfl
 have ta4:t ta=some (.dT []):=by rw[<- J,ai f,ac]
 have kp4:∀c u,H2 c=some u->c≠o->t c=some u:=λc u e n=>by rwa[<- J,ai n,ai (ay e g)]
 intro aq dq L hdq ndq;refine .mk ac λap M v hq5 hp5 kp5=>⟨rfl,?_⟩;have j:∀c u,t c=some u->M c=some u:=λc u e=>kp5 c u (by rwa[ai (ay e L),ai (ay e hdq)]) (ay e L);have ap4:t ap=none:=by
  have h1:ap≠aq:=λz=>by grind
  have h2:ap≠dq:=λz=>by rw[z,ai ndq,ac]at v;cases v
  rwa[ai h1,ai h2]at v
 have apq:ap≠aq:=λz=>by grind
 refine⟨_,rfl,o,CP,dx,_,rfl,j _ _ ho4,TP.cl,TP.no,(by grind),?_⟩;generalize hH6:upd M o (.ins CP dx (gf "offers" (.ref aq) [("rules",.ref ar),("told",.ref ta)]))=H6;have noq:aq≠o:=λz=>by grind
 have nop:ap≠o:=λz=>by grind
 have w:H6 o=some (.ins CP dx [("rules",.ref ar),("told",.ref ta),("offers",.ref aq)]):=by rw[<- hH6,ac];rfl
 have kp6:∀c u,M c=some u->c≠o->H6 c=some u:=λc u e n=>by rwa[<- hH6,ai n]
 intro sa y;have A:sa≠o:=(ay w y).symm;refine⟨_,rfl,o,CP,dx,_,rfl,(by rwa[ai (ay w y)]),TP.cl,TP.ns,(by grind),?_⟩;generalize O:upd (upd H6 sa (.dT [])) o (.ins CP dx (gf "settled" (.ref sa) [("rules",.ref ar),("told",.ref ta),("offers",.ref aq)]))=X;have C:X o=some (.ins CP dx [("rules",.ref ar),("told",.ref ta),("offers",.ref aq),("settled",.ref sa)]):=by rw[<- O,ac];rfl
 have sa8:X sa=some (.dT []):=by rw[<- O,ai A,ac]
 have kp8:∀c u,H6 c=some u->c≠o->X c=some u:=λc u e n=>by rwa[<- O,ai n,ai (ay e y)]
 intro la D;have P:la≠o:=(ay C D).symm;refine⟨_,rfl,o,CP,dx,_,rfl,(by rwa[ai (ay C D)]),TP.cl,TP.nl,(by grind),?_⟩;generalize R:upd (upd X la (.dT [])) o (.ins CP dx (gf "lacking" (.ref la) [("rules",.ref ar),("told",.ref ta),("offers",.ref aq),("settled",.ref sa)]))=s;have ho9:s o=some (.ins CP dx (pf ⟨o,ta,aq,ap,sa,la,ar⟩)):=by rw[<- R,ac];rfl
 have la9:s la=some (.dT []):=by rw[<- R,ai P,ac]
 have kp9:∀c u,X c=some u->c≠o->s c=some u:=λc u e n=>by rwa[<- R,ai n,ai (ay e D)]
 have sa9:=kp9 _ _ sa8 A;have k69:∀c u,H6 c=some u->c≠o->s c=some u:=λc u e n=>kp9 c u (kp8 c u e n) n;have S:∀c u,M c=some u->c≠o->s c=some u:=λc u e n=>k69 c u (kp6 c u e n) n;have k49:∀c u,t c=some u->c≠o->s c=some u:=λc u e n=>S c u (j c u e) n;have T:∀c u,H1 c=some u->c≠o->s c=some u:=λc u e n=>k49 c u (kp4 c u (I c u e n) n) n;have fr:∀c,s c≠none->H c=none->B c=none:=λc _ e=>sb.free e;have oldR:∀c,cS ar xr c->H1 c≠none:=λc i=>D1.obj i;have U:H1 ta=none:=by
  cases e:H1 ta with
  |none=>rfl
  |some u=>rw[I _ _ e f]at g;cases g
 have b:∀c,t c=none->c≠o->H1 c=none/\c≠ta:=λc e n=>by
  refine⟨?_,λz=>by grind⟩;cases V:H1 c with
  |none=>rfl
  |some u=>rw[kp4 _ _ (I _ _ V n) n]at e;cases e
 have m:∀c,M c=none->c≠o->t c=none/\c≠aq/\c≠ap:=λc e n=>by
  refine⟨?_,(λz=>by grind),λz=>by grind⟩;cases V:t c with
  |none=>rfl
  |some u=>rw[j _ _ V]at e;cases e
 have q:∀c,H6 c=none->M c=none:=λc e=>by
  cases V:M c with
  |none=>rfl
  |some u=>
   by_cases n:c=o
   .rw[n,w]at e;cases e
   .rw[kp6 _ _ V n]at e;cases e
 have W:∀c,X c=none->H6 c=none/\c≠sa:=λc e=>by
  refine⟨?_,λz=>by grind⟩;cases V:H6 c with
  |none=>rfl
  |some u=>
   by_cases n:c=o
   .rw[n,C]at e;cases e
   .rw[kp8 _ _ V n]at e;cases e
 obtain⟨la6,la_sa⟩:=W la D;obtain⟨la4,la_aq,la_ap⟩:=m la (q la la6) P;obtain⟨la1,la_ta⟩:=b la la4 P;obtain⟨sa4,sa_aq,sa_ap⟩:=m sa (q sa y) A;obtain⟨sa1,sa_ta⟩:=b sa sa4 A;obtain⟨aq1,aq_ta⟩:=b aq L noq;obtain⟨ap1,ap_ta⟩:=b ap ap4 nop;have d:∀c,H1 c=none->H c=none:=λc e=>s1.free e;have same:Same B s:=λc u e=>T c u (s1 c u (sb c u e)) λz=>by grind
 have r:∀{a c:Addr},cS a ([]:DX (List bc)) c->c=a:=λi=>i.elim id λ⟨x,hx,_⟩=>(Sx hx).elim
 classical
 refine k ⟨o,ta,aq,ap,sa,la,ar⟩ xr s rfl ⟨[],[],λc=>if c=o then 6 else if c=ta then 5 else if c=aq then 7 else if c=ap then 1 else if c=sa then 2 else if c=la then 3 else 4,same,⟨⟨?_,λ_ h=>(Sx h).elim,S1,S1⟩,.nil,λc i=>?_⟩,⟨⟨sa9,λ_ h=>(Sx h).elim,S1,S1⟩,.nil,λc i=>?_⟩,⟨⟨la9,λ_ h=>(Sx h).elim,S1,S1⟩,.nil,λc i=>?_⟩,⟨D1.keep λc u e i=>T c u e (Y c i),R1.keep (IsNum.keep λc ws e=>T c _ e λz=>by grind),λc i=>?_⟩,⟨dx,ho9⟩,⟨dq,S _ _ hq5 noq⟩,k49 _ _ ta4 f,.nil,?_,?_,?_⟩
 .exact S _ _ hp5 nop
 .have:c=ap:=i.elim id λ⟨x,hx,_⟩=>(Sx hx).elim;subst this;exact⟨by grind,sb.free (d _ ap1)⟩
 .have:=r i;dsimp only at this;subst this;exact⟨by grind,sb.free (d _ sa1)⟩
 .have:=r i;dsimp only at this;subst this;exact⟨by grind,sb.free (d _ la1)⟩
 .have hc:=oldR c i;refine⟨?_,sb.free (n1 c i)⟩;rw[Sj (Y c i),Sj (λz=>hc (by grind)),Sj (λz=>hc (by grind)),Sj (λz=>hc (by grind)),Sj (λz=>hc (by grind)),Sj (λz=>hc (by grind))]
 .exact⟨by grind,sb.free (d _ U)⟩
 .exact⟨Sg rfl,nb⟩
 .exact⟨by grind,sb.free (d _ aq1)⟩
end
noncomputable def tD(a:Pz.Arr):D:=.tup [.int a.1,.int a.2.1,.int a.2.2]
noncomputable def dS(r:Pz.Rule):D:=.tup [.int r.1,.int r.2.1,.int r.2.2.1,.tup (r.2.2.2.map .int)]
noncomputable def oD:Option Int->D
 |none=>.cj
 |some i=>.int i
def HN(x:Pz.yg):D:=.tup [.int x.1,oD x.2.1,oD x.2.2]
def lr(t:Pz.TD):D:=.FD (t.map λx=>.inr (ak x.1)) (t.map λx=>HN x.2)
def nJ(b:List D)(t:Pz.TD):Prop:=∃(a:List Pz.Rule)(M:List Pz.Arr)(c h1 d e:D)(n:Nat)(T:Pz.PS),b=[.tup [c,h1,.lst (a.map dS)],.tup [d,.lst (M.map tD),e]]/\a.length<16000000/\Pz.js (Pz.iH aE a M)/\Pz.Loop aE (Pz.bM a) n (Pz.iH aE a M) T/\t=T.told
open Classical in
def KD(Fr:List D->Res R)(a:List D):Res R:=match Fr a with
 |.ok _=>if h:∃t,nJ a t then .ok (.ze (lr (Classical.choose h)))else .stuck
 |.exc c=>.exc c
 |.stuck=>.stuck
theorem nK:∀{b:List Int}{a:List V},IsAll H m (b.map .int) a->a=b.map .int
 |[],a,h=>h
 |n::b,a,h=>by obtain⟨v,r,rfl,h1,c⟩:=h;rw[nK c,show v=.int n from h1];rfl
def Bf(h:Is H m (dS r) v):IsRule H r v:=by obtain⟨a,t,rfl,n,o,g,rfl,b,c,i,rfl,p,d,j,rfl,s,k,l,rfl,⟨q,u,rfl,e,f⟩,rfl⟩:=h;obtain rfl:o=.int r.1:=b;obtain rfl:c=.int r.2.1:=p;obtain rfl:d=.int r.2.2.1:=s;exact⟨a,q,rfl,n,by rw[e,nK f]⟩
def KF(h:Is H m (tD r) v):IsArr H r v:=by obtain⟨a,n,rfl,i,j,e,rfl,b,c,f,rfl,k,d,g,rfl,l,rfl⟩:=h;obtain rfl:j=.int r.1:=b;obtain rfl:c=.int r.2.1:=k;obtain rfl:d=.int r.2.2:=l;exact⟨a,rfl,i⟩
theorem wL{c:Type}{H:Hp}{m:Addr->Prop}{f:c->D}{it:c->V->Prop}(a:∀x v,Is H m (f x) v->it x v):∀{d:List c}{b:List V},IsAll H m (d.map f) b->aN it d b
 |[],b,h=>by cases(show b=[]from h);exact .nil
 |x::d,b,h=>by obtain⟨v,r,rfl,h1,e⟩:=h;exact .cons (a x v h1) (wL a e)
def wM(h:Is H m (.lst ds) v):∃a b,v=.ref a/\Rd H a (.lst b)/\IsAll H m ds b:=by obtain⟨a,b,rfl,h1,c⟩:=h;exact⟨a,b,rfl,h1.imp And.left λ⟨o,e,_⟩=>⟨o,e⟩,c⟩
def N5(b:List Pz.Rule):qN (Pz.bM b):=λk x a=>by
 rcases(Pz.qF _ _ _ _).mp a with h|⟨_,y,l,e,_⟩
 .exact(Sx h).elim
 .rw[e];simp
section
variable{K:WK}{CP CQ:Addr}{H:Hp}
def KG(K:WK)(CP CQ:Addr):TS:=aI (b9 (eF CP "settle_all" (xg CP CQ) [] E0 (aj 2) aF)) (b5 (dX K (aj 2) "told"))
def KH(K:WK)(CP CQ:Addr):TS:=dQ (bO (ba pX (eR (gq K) (ah (tI K 5 3) aF)) (tC (.int 0))))
 (b9 (eF CP "offer" (fc CP CQ) [] E0 (aj 2) (ah (cm (ah (tI K 5 0) (ah (tI K 5 1) (ah (tI K 5 2) aF)))) (ah (tC (.int 1)) (ah (aj 4) (ah (tC .cj) aF)))))) ck
def KI(K:WK)(CP CQ:Addr):TS:=aI (cU (wy K (ah (tI K 0 2) aF)) (c9 K 2 (aR (aA 4) (aR (aA 5) cZ))) (KH K CP CQ)) (KG K CP CQ)
def KJ(CP CQ:Addr):TS:=b9 (eF CP "offer" (fc CP CQ) [] E0 (aj 2) (ah (aj 3) (ah (tC (.int 0)) (ah (tC .cj) (ah (tC .cj) aF)))))
def KM(K:WK)(CP CQ:Addr):TS:=aI (cU (bZ K (tI K 1 1)) (aA 3) (KJ CP CQ)) (KI K CP CQ)
def DZ(K:WK)(a:Str->Option WM)(Fr:List D->Res R)(CP CQ:Addr)(E:XK):TS:=aI (b9 (bj (nu a 2 Fr) [] E (ah (aj 0) (ah (aj 1) aF)))) (aI (aT (vX CP (mj CP CQ) [] E0 (ah (aj 0) aF)) (aA 2)) (KM K CP CQ))
def HP(A:PA):(pf A).lookup ("settle_all" : Str)=none:=rfl
def HQ(h:RepT H t kt):(t.map λx=>(Sum.inr (ak x.1):DK))=kt.map (λp=>.inr p.1)/\IsAll H m (t.map λx=>HN x.2) (kt.map Prod.snd):=by
 have a:∀o:Option Int,Is H m (oD o) (vO o):=λo=>by cases o<;>rfl
 induction h with
 |nil=>exact⟨rfl,rfl⟩
 |@cons x y _ _ q _ b=>obtain⟨e,p,c,d⟩:=q;exact⟨by rw[SD,SD,e,b.1],y.2,_,rfl,⟨p,_,c,d,_,_,rfl,rfl,_,_,rfl,a _,_,_,rfl,a _,rfl⟩,b.2⟩
section
variable{D:Ends}{L:L2.St}{B:Hp}{A:PA}{rs:Pz.RS}{S T:Pz.PS}{W U R:DX (List bc)}{N O l X:Addr}{J:List Pz.Rule}{M:List Pz.Arr}{Z Y:List V}{n:Nat}
def D0(N O:Addr)(A:PA)(L:L2.St):Prop:=∃u v w,L=[some (.ref N),some (.ref O),some (.ref A.o),u,v,w]
theorem pr2(P:PAt CP CQ B H A rs S W U R)(h:IsArr H a v)(o:D0 N O A L)(f:Pz.js (Pz.g5 aE S a))(k:∀d j,D0 N O A d->PAt CP CQ B j A rs (Pz.g5 aE S a) W U R->D.nx d j):aA 3 v L H λe g=>KJ CP CQ D e g:=by obtain⟨b,rfl,p⟩:=h;obtain⟨u,w,z,rfl⟩:=o;have i:=P;obtain⟨_,_,_,Q⟩:=i;exact tj (.va rfl) Q.po.ins (Bb A) (.c (.va rfl) (.c .k (.c .k (.c .k .ni)))) (.mk (n:=none) (m:=none) P p f λj=>k _ j ⟨_,_,_,rfl⟩)
def Qs(P:PAt CP CQ B H A rs S W U R)(e:H pp=some (.tup [.int i,.ref c]))(b:H c=some (.tup [.int r.1,.int r.2.1,.int r.2.2.1,.ref q]))(g:H q=some (.tup (r.2.2.2.map .int)))(p:D0 N O A L)(f:Pz.js (Pz.eG aE S (i,r)))
 (k:∀a m,D0 N O A a->PAt CP CQ B m A rs (Pz.eG aE S (i,r)) W U R->D.nx a m):c9 K 2 (aR (aA 4) (aR (aA 5) cZ)) (.ref pp) L H λd j=>KH K CP CQ D d j:=by
 obtain⟨u,w,z,rfl⟩:=p;have o:(((r.2.2.2.map V.int).length:Nat):Int)=0↔r.2.2.2.length=0:=by rw[R9];lia
 unfold Pz.eG at f k;refine wD e (g7 (.xn (.len (.ix (.va rfl) b rfl) g) .k) (λh=>?_) λh=>?_)
 .rw[Sg (o.mp (SO h))]at f k;exact qK P f (.va rfl) (.t (.c (.ix (.va rfl) b rfl) (.c (.ix (.va rfl) b rfl) (.c (.ix (.va rfl) b rfl) .ni))) rfl) (λ_ _=>.c .k (.c (.va rfl) (.c .k .ni))) λm=>k _ m ⟨_,_,_,rfl⟩
 .rw[Sj λz=>h (Sz (o.mpr z))]at k;exact k _ H ⟨_,_,_,rfl⟩ P
def Qu(TP:jg K CP)(P:PAt CP CQ B H A rs S W U R)(d:qN rs)(g:Pz.js S)(lp:Pz.Loop aE rs n S T)(h:D0 N O A L)(k:∀f a b,PAt CP CQ B f A rs T a b R->D.rt (.ref A.ta) f):KG K CP CQ D L H:=by obtain⟨u,w,z,rfl⟩:=h;have c:=P;obtain⟨_,_,_,Q⟩:=c;exact tj (.va rfl) Q.po.ins (HP A) .ni (.mk P d g lp λf a b c=>by have e:=c;obtain⟨_,_,_,Q⟩:=e;exact Q.fld TP.cl TP.nt (DT A) rfl _ (k f a b c))
def Qw(TP:jg K CP)(G:cY B J N l Z)(P:PAt CP CQ B H A (Pz.bM J) (M.foldl (Pz.g5 aE) Pz.S0) W U R)(C:Pz.js (Pz.iH aE J M))(d:qN (Pz.bM J))(lp:Pz.Loop aE (Pz.bM J) n (Pz.iH aE J M) T)(z:D0 N O A L)
 (k:∀E e f,PAt CP CQ B E A (Pz.bM J) T e f R->D.rt (.ref A.ta) E):KI K CP CQ D L H:=by
 obtain⟨u,w,g⟩:=(G.same P.same).tup;have F:L[0]?=some (some (.ref N)):=by obtain⟨_,_,_,rfl⟩:=z;rfl
 refine pO (ReadsA.c (.ix (.va F) g (v:=.ref l) rfl) .ni _ ⟨l,Z,rfl,.inl (aU P.same G.lst),?_⟩);refine wJ (D0 N O A) (λi b=>PAt CP CQ B b A (Pz.bM J) (((Pz.en J 0).take i).foldl (Pz.eG aE) (M.foldl (Pz.g5 aE) Pz.S0)) W U R) z P (λi b a=>.inl (aU a.same G.lst)) (λi v I L b y p h z a k=>?_) λL b z a=>?_
 .obtain⟨r,m,c,q,rfl,s,t⟩:=G.its.get p;have j:=a.more (aw (o:=.tup [.int (i:Nat),.ref c]) h);rw[wK (Pz.eG aE) (M.foldl (Pz.g5 aE) Pz.S0) m]at k;exact Qs j ac (j.same _ _ s) (j.same _ _ t) z (gp (step:=Pz.eG aE) (λS x=>by unfold Pz.eG;split;exact Pz.b6 _ _ _ _ _;exact .refl _) (its:=Pz.en J 0) C (by rw[ve,m];simp)) k
 .rw[TJ (by rw[Pz.nE,G.its.len];exact R7 _)]at a;exact Qu TP a d C lp z k
theorem Qx(TP:jg K CP)(G:cY B J N l Z)(e:B O=some (.tup [y0,.ref X,y2]))(c:Rd B X (.lst Y))(j:aN (IsArr B) M Y)(P:PAt CP CQ B H A (Pz.bM J) Pz.S0 W U R)(s:Pz.js (Pz.iH aE J M))(f:qN (Pz.bM J))(lp:Pz.Loop aE (Pz.bM J) n (Pz.iH aE J M) T)(r:D0 N O A L)
 (k:∀t g h,PAt CP CQ B t A (Pz.bM J) T g h R->D.rt (.ref A.ta) t):KM K CP CQ D L H:=by
 have g2:Pz.e_ (M.foldl (Pz.g5 aE) Pz.S0) (Pz.iH aE J M):=Pz.ci _ (λS x=>by unfold Pz.eG;split;exact Pz.b6 _ _ _ _ _;exact .refl _) _ _;have h1:L[1]?=some (some (.ref O)):=by obtain⟨_,_,_,rfl⟩:=r;rfl
 exact cO (Reads.ix (.va h1) (P.same _ _ e) (v:=.ref X) rfl _ ⟨X,rfl,⟨Y,.inl (aU P.same c)⟩,qL (it:=IsArr) (D0 N O A) (Pz.g5 aE) Pz.S0 (λT d=>PAt CP CQ B d A (Pz.bM J) T W U R) r P (λp d b=>⟨aU b.same c,j.mono (IsArr.keep (qJ b.same))⟩)
  (λi a v L d q m o r b k=>pr2 b o r (gp (step:=Pz.g5 aE) (λS x=>Pz.b6 S _ _ _ _) (g2.fit s) m) k) λL d r b=>Qw TP G b s f lp r k⟩)
end
def tE{mg:Str->Option WM}{Fr:List D->Res R}(TP:jg K CP)(h:nu mg 2 (KD Fr) vs H Q E):DZ K mg Fr CP CQ E (eQ Q) (aZ (nS 6) vs) H:=by
 obtain⟨i,ds,Ma,is,a⟩:=h;obtain⟨v0,j,rfl⟩ : ∃v0 j,vs=[v0,j]:=by rcases vs with _|⟨v0,_|⟨j,_|⟨_,_⟩⟩⟩<;>first|(cases i;done)|exact⟨_,_,rfl⟩
 refine⟨_,rfl,_,rfl,rfl,ds,Ma,is,?_⟩;unfold KD at a;cases k:Fr ds with
 |stuck=>rwa[k]at a
 |exc c=>rwa[k]at a
 |ok r=>
  rw[k]at a;dsimp only at a;by_cases hex:∃t,nJ ds t
  case neg=>rw[dif_neg hex]at a;exact a.elim
  case pos=>
  rw[dif_pos hex]at a;have d:=Classical.choose_spec hex;generalize Classical.choose hex=t at a d;obtain⟨RL,M,X,Y,m0,m2,n,T,rfl,F,fit,lp,rfl⟩:=d;intro v H1 s1 _;obtain⟨_,_,I,⟨J,_,rfl,p,Z,_,rfl,_,w1,_,rfl,_,w2,_,rfl,q,rfl⟩,_,_,s,⟨p1,_,rfl,w,y0,_,rfl,_,y1,_,rfl,y,y2,_,rfl,_,rfl⟩,rfl⟩:=is;cases I;cases s;obtain⟨l,ws,rfl,i,L⟩:=wM q;obtain⟨lm,wm,rfl,z,N⟩:=wM y;have G:cY H RL J l ws:=⟨⟨_,_,p⟩,i,wL (λx v=>Bf) L⟩;refine⟨_,rfl,λo dx C B O=>?_⟩;have s2:Same H (upd (upd H1 dx (.own o)) o (.ins CP dx [])):=s1.trans λb u e=>by rwa[ai (ay e C),ai (ay e B)]
  refine .mk ac s2 (s1.free C) (G.same s2) F λA xr H3 S P=>⟨rfl,?_⟩;subst S;refine Qx TP G w z (wL (λx v=>KF) N) P fit (N5 RL) lp ⟨none,none,none,rfl⟩ λH6 U V ⟨_,f,_,g⟩=>?_;obtain⟨W,t2⟩:=HQ (m:=nl H H6) g.po.tr;exact a _ H6 g.same ⟨A.ta,f.map Prod.snd,rfl,⟨.inr ⟨f,.inl g.po.td,W,rfl⟩,g.po.c5.2,⟨_,g.po.td,⟨⟩⟩⟩,t2⟩
end
def Bg:∀{n:Nat}{S T:Pz.PS},Pz.Loop pile rs n S T->∀{m:Nat}{b:Pz.PS},Pz.Loop pile rs m S b->T=b:=by
 intro n S T h;induction h with
 |done e=>
  intro m b d;cases d with
  |done _=>rfl
  |step a=>exact(a e).elim
 |step a _ _ _ _ _ c=>
  intro m b d;cases d with
  |done e=>exact(a e).elim
  |step _ _ _ _ _ d=>exact c d
def yu(h:dS r=dS s):r=s:=by
 have a:∀{l m:List Int},l.map D.int=m.map D.int->l=m:=λ{l m} e=>by
  induction l generalizing m with
  |nil=>cases m with
   |nil=>rfl
   |cons _ _=>cases e
  |cons x l b=>cases m with
   |nil=>cases e
   |cons y m=>rw[SD,SD]at e;injection e with e1 e2;injection e1 with e1;rw[e1,b e2]
 unfold dS at h;injection h with h;injection h with h0 h;injection h with h1 h;injection h with h2 h;injection h with h3 h;injection h0 with h0;injection h1 with h1;injection h2 with h2;injection h3 with h3;exact VB h0 (VB h1 (VB h2 (a h3)))
def Bh(h:tD r=tD s):r=s:=by unfold tD at h;injection h with h;injection h with h0 h;injection h with h1 h;injection h with h2 h;injection h0 with h0;injection h1 with h1;injection h2 with h2;exact VB h0 (VB h1 h2)
theorem qO{b:Type}{f:b->D}(a:∀{x y},f x=f y->x=y):∀{l m:List b},l.map f=m.map f->l=m
 |[],[],_=>rfl
 |[],_::_,e=>nomatch e
 |_::_,[],e=>nomatch e
 |x::l,y::m,e=>by rw[SD,SD]at e;injection e with e1 e2;rw[a e1,qO a e2]
structure Mt(K:WK) (C:Addr) (x q:Str) (st:Stmt) (b:List Str) (f:Addr) (a:FuncData):Prop where
 fu:CA K x q st f a
 bi:Binds K a b []
 me:Meth K C x f
def KN{K:WK}{C:Addr}{x q:Str}{st:Stmt}{j:List Str}{f:Addr}{o:WM}{p e:Option Addr}{m:Array (Option WM)}{kV d g b ct:WM}
 (l:K.lookup f=some ⟨o,p,.func (fnOf x q (dt st) (cE st) (aC st) .none kV d g e b ct),m⟩) (c:codeIn K b q=true) (k:keepIn K (.ref f)=true) (a:findIn K (.ref C) x=some (some (.ref f))) (i:isFn K (.ref f)=true)
 (h:∀(kV d g:WM)(e:Option Addr)(b ct:WM)(n:List WM),n.length=j.length->bindArgs (fnOf x q (dt st) (cE st) (aC st) .none kV d g e b ct) ⟨n,[]⟩=pure (j.zip n)) :
 Mt K C x q st j f (fnOf x q (dt st) (cE st) (aC st) .none kV d g e b ct):=
 have F:CA K x q st f _:=z4 l c k
 ⟨F,F.binds h,a,i,k⟩
section
variable{P:WL}{w:World}{K:WK}{r:Str->Option WM}{q:Heap}
def Bi{x g:Str}{st:Stmt}{f:Addr}(F:CA K x g st f fd)(S:aK N ps (aC st))(len:∀i H Q E,sp i H Q E->i.length=ps.length)
 (a:∀(h:WM)(A:WN)(e:List Env)(s:WJ)(H:Hp)(i:List V)(Q:VK)(E:XK),cR k (A.deeper (envOfC g (aC st) s.z f h))->sp i H Q E->
   ∃t,PSs (qk P w K r q N g (aC st) f h A e s H E) (cE st) t/\t (eQ Q) (aZ N i) H):cB P w K r q (xH P w) (k+1) f fd ps sp:=by
 obtain⟨m,n,kV,j,o,p,h,ct,l,rfl,lk,b⟩:=F.ex;exact FL lk b S len λA e s H i Q E d c=>a h A e s H i Q E d c
end
def two{c:Type}{l:List c}(h:l.length=2):∃a b,l=[a,b]:=by rcases l with _|⟨a,_|⟨b,_|_⟩⟩<;>first|(cases h;done)|exact⟨_,_,rfl⟩
def dD(a:X.calm=true)(S:b8 X scope tN capN caps)(b:PI X tg iter wi)(c:autoParam (∀x,foldedSetIterable iter X.env x=pure x) af) :
 PE X (.ListComp elt [⟨tg,iter,ifs,0⟩] scope pos) (iD X scope tg tN capN caps elt ifs wi):=λd s e H Q I h=>AR a S I b h c
def Bj(K:WK):List V->Hp->VK->Prop:=λb H Q=>∃p a,b=[.ref p]/\SqL K H p (a.map V.int)/\a≠[]/\Q (.int (m9 a)) H
def pP(a:X.calm=true):bJ X (.builtin "min") (Bj X.K):=xQ a
def yv(Z:tN.length=2)(D:∀T C g h U,PG (aV X scope (tN++[]) T C g h U) tg (c9 X.K 2 (aR (aA 0) (aR (aA 1) cZ))))(E:∀T C g h U,PE (aV X scope (tN++[]) T C g h U) elt (aj 0)) :
 HA (eR (Bj X.K) (ah (iD X scope tg tN [] [] elt [] (bZ X.K (aj 1))) aF)):=by
 intro σ H a W S Q h1 l z n N k;refine⟨_,h1,a,rfl,⟨_,SqL.of l⟩,?_⟩;intro q r T C g U;have F:a≠q:=ay l r;have G:=z.len;refine⟨_,_,_,λi m d Y=>m=S.length-i/\i<=S.length/\d=((S.take i).map λx=>V.int x.1)/\Same H Y/\Y q=some (.lst d),D T C g _ U,dw,E T C g _ U,⟨S.length,by simp,Sw _,by simp,aw r,ac⟩,?_⟩;rintro i m d Y ⟨rfl,O,rfl,s,b⟩;have f:=s _ _ l;refine⟨b,?_⟩;by_cases t:i<S.length
 .right;have v:i<W.length:=by lia
  refine⟨⟨W,W[i],SqL.of f,by simp[v]⟩,λP I o y A=>?_⟩;obtain⟨rfl,y⟩:=y;have J:=y W (SqL.of f);obtain⟨x,ex,p,w,rfl,L,_⟩:=z.get J;rw[Z]at A;obtain⟨R,u1,rfl⟩:=two A;refine wD (s _ _ L) ⟨λj B=>?_,?_⟩
  .rw[Z]at B;obtain⟨j,rfl⟩:=Ti B;rfl
  .refine fK ?_;refine⟨_,rfl,b,?_,S.length-(i+1),by lia,rfl,t,?_,λc u e=>?_,ac⟩
   .rw[R9,SQ];have:=S_ i S;lia
   .rw[Sv,ex,SN];rfl
   .rw[ai (ay e r)];exact s _ _ e
 .left;have M:i=S.length:=by lia
  subst M;refine⟨⟨W,SqL.of f,by lia⟩,q,S.map (·.1),rfl,?_,by simpa using n,?_⟩
  .rw[SU]at b;rw[Tg];exact SqL.of b
  .rw[qI];exact k Y s
def bA{N P:List Str}{h:Scope}(a:autoParam (h.kind=.function) av)(b:autoParam (h.isCoroutine=false) av)(c:autoParam (h.isGenerator=false) av)(d:N.Nodup:=by decide +kernel)(e:autoParam (N.take P.length=P) av)
 (f:∀x∈P,h.names.lookup x=some .local\/h.names.lookup x=some .cell:=by decide +kernel) (g:∀y∈h.names,y.2≠.free:=by decide +kernel):aK N P h:=⟨a,b,c,d,e,f,g⟩
abbrev JK(x q:Str)(st:Stmt)(kV a c:WM)(d:Option Addr)(b ct:WM):FuncData:=fnOf x q (dt st) (cE st) (aC st) .none kV a c d b ct
structure Df(K:WK) (a:Str->Option WM) (x:Str) (st:Stmt) (b:List Str) where
 f:Addr
 fd:FuncData
 h:Fn K a x st b f fd
structure Mf(K:WK) (C:Addr) (x q:Str) (st:Stmt) (a:List Str) where
 f:Addr
 fd:FuncData
 h:Mt K C x q st a f fd
section
variable{K KK:WK}{x q:Str}{st:Stmt}{f C:Addr}{u:WM}{t o:Option Addr}{p:Array (Option WM)}{kV j s g ct:WM}
def Lk(K:WK)(x q:Str)(st:Stmt)(f:Addr):Prop:=∃u t o p kV j s g ct,K.lookup f=some ⟨u,t,.func (JK x q st kV j s o g ct),p⟩/\codeIn K g q=true
def lk(l:K.lookup f=some ⟨u,t,.func (JK x q st kV j s o g ct),p⟩)(c:codeIn K g q=true):Lk K x q st f:=⟨_,_,_,_,_,_,_,_,_,l,c⟩
def FK(K:WK)(x:Str)(st:Stmt):Prop:=∃f,nsIn K mainGlobals x=some (some (.ref f))/\Lk K x x st f
def fk(a:nsIn K mainGlobals x=some (some (.ref f)))(l:K.lookup f=some ⟨u,t,.func (JK x x st kV j s o g ct),p⟩)(c:codeIn K g x=true):FK K x st:=⟨_,a,lk l c⟩
structure MK(K:WK) (C:Addr) (x q:Str) (st:Stmt) (f:Addr):Prop where
 a:findIn K (.ref C) x=some (some (.ref f))
 i:isFn K (.ref f)=true
 l:Lk K x q st f
 k:keepIn K (.ref f)=true
def mk(a:findIn K (.ref C) x=some (some (.ref f)))(i:isFn K (.ref f)=true)(l:K.lookup f=some ⟨u,t,.func (JK x q st kV j s o g ct),p⟩)(c:codeIn K g q=true)(k:keepIn K (.ref f)=true):MK K C x q st f:=⟨a,i,lk l c,k⟩
structure CK(K KK:WK) (x:Str) (C:Addr):Prop where
 b:nsIn K mainGlobals x=some (some (.ref C))
 pg:plainGet KK C Str.empty=true
 hd:hasDictIn KK C=true
 po:PySem.W.plainOver KK C=true
 sa:findIn KK (.ref C) "__setattr__"=some (some (.builtin "object.__setattr__"))
 m:PySem.W.makesIn KK C=true
 k:keepIn KK (.ref C)=true
def CK.cl(c:CK K KK x C):rf KK C:=⟨c.pg,c.hd,c.po,c.sa⟩
variable{v:Str->Option WM}{ps:List Str}{h:Heap}
noncomputable def AllN:Nat->(List WM->Prop)->Prop
 |0,P=>P []
 |n+1,P=>∀a,AllN n λb=>P (a::b)
theorem AllN.of{n:Nat}{P:List WM->Prop}(h:AllN n P):∀c:List WM,c.length=n->P c:=by
 induction n generalizing P with
 |zero=>intro c e;cases c with|nil=>exact h|cons _ _=>cases e
 |succ n b=>intro c e;cases c with|nil=>cases e|cons a r=>exact b (h a) r (Nat.succ.inj e)
theorem df(X:K.In h)(G:h.Ns mainGlobals v)(U:jh K KK)(k:FK K x st)
 (d:∀(kV j s:WM)(o:Option Addr)(g ct:WM),AllN ps.length λb=>bindArgs (JK x x st kV j s o g ct) ⟨b,[]⟩=pure (ps.zip b):=by(repeat intro _);exact rfl):Nonempty (Df KK v x st ps):=by
 obtain⟨f,a,u,t,o,p,kV,j,s,g,ct,l,c⟩:=k;exact⟨f,_,Hq U l c (WD X G a) λkV j s o g ct=>(d kV j s o g ct).of⟩
theorem mf(k:MK K C x q st f)
 (d:∀(kV j s:WM)(o:Option Addr)(g ct:WM),AllN ps.length λb=>bindArgs (JK x q st kV j s o g ct) ⟨b,[]⟩=pure (ps.zip b):=by(repeat intro _);exact rfl):∃m:Mf K C x q st ps,m.f=f:=by
 obtain⟨a,i,⟨u,t,o,p,kV,j,s,g,ct,l,c⟩,e⟩:=k;exact⟨⟨f,_,KN l c e a i λkV j s o g ct=>(d kV j s o g ct).of⟩,rfl⟩
def KO(c:CK K KK x C)(k:MK KK C "__init__" q st f):Mk KK C f:=⟨c.m,k.a,k.i,c.k⟩
end
end L4
namespace L2
open PySem.Calls
abbrev RT:=List (List bc×Addr×WM)
end L2
namespace L2
open PySem.Calls
def vg(a:WL)(w:World)(d:Addr)(hd:(d==sysModules)=false):MeetsIn a w (Builtin.«dict.__len__» ⟨[.ref d],[]⟩) (λ_ R s=>∃(o:Obj)(b:Array DictEntry)(c n:Nat),s.heap.get? d=some o/\o.data=.dict b c/\b.size=n/\R (.ok (.ret (.int n s.toks))) {s with toks:=s.toks+1}):=by
 apply MeetsIn.of_wp;rintro A R s ⟨o,b,c,n,h1,e,rfl,h⟩;show wpAny _ _ (dictSize d >>= _) _ _ s
 delta dictSize
 apply KE;apply KE;apply UE h1 e;apply R5;show wpAny _ _ (Builtin.Dict.pendingCount d >>= _) _ _ s;apply KE;apply wpAny_pendingCount_other hd;exact wpAny_ret_mkInt h
section
variable{X:Cx}
def yw:bJ X (.builtin "len") (λt H Q=>∃(d:Addr)(j:List (List bc×V)),t=[.ref d]/\(Rd H d (.dT j)\/(Rd H d (.dK [])/\j=[]))/\Q (.int j.length) H):=by
 rintro x s y H t A Q I r⟨d,j,rfl,hd,q⟩;obtain⟨w,rfl,g⟩:=eB r;cases g;have f:(d==sysModules)=false/\j.length<=sizeLine/\Shared.TypeIs s (.ref d) "dict"/\∃(o:Obj)(k:Array DictEntry)(l:Nat),s.heap.get? d=some o/\o.data=.dict k l/\k.size=j.length:=by
  rcases hd with hd|⟨hd,rfl⟩
  .obtain⟨z,n,t,a,o,k,l,h1,u,p,b,_⟩:=ik I.aS hd;exact⟨n,z,⟨o,h1,u.1⟩,o,k,l,h1,p,by rw[VS b];exact(Us a).symm⟩
  .obtain⟨z,n,v,a,dd⟩:=ij I.aS hd;have c:=dd.typeIs;obtain⟨o,k,l,h1,u,p,b,i,_⟩:=dd;exact⟨n,Sw _,c,o,k,l,h1,p,by
    have e:k.size=v.length:=by rw[<- i.length];simp
    rw[e,<- a.length];rfl⟩
 obtain⟨n,z,c,o,k,l,h1,p,b⟩:=f;rw[SQ]at z;refine Calls.call_function_entry PySem.kind_len PySem.plain_len PySem.entry_len (PySem.args_len1 _) ?_
 delta Builtin.«len»
 apply KE (m:=oneArg "len" _);apply R5;apply KE (m:=callSpecial? (.ref d) (Str.ofString "__len__"));apply T6 (name:=Str.ofString "__len__") c PySem.F.slot_dict_len;apply Vn PySem.F.slot_dict_len c PySem.F.entry_dict_len (PySem.F.args_dict_len_1 _) (vg X.prog X.w d n);refine⟨o,k,l,j.length,h1,p,b,?_⟩;show wpAny _ _ _ _ _ {s with toks:=s.toks+1};apply KE;apply TH;apply R5;apply KE;apply wpAny_letGo;show wpAny _ _ (if((j.length:Nat):Int)<0 then _ else _) _ _ _;rw[Sj (by lia)];show wpAny _ _ (if((j.length:Nat):Int)>=2^63 then _ else _) _ _ _;rw[Sj (by lia)];apply KE;apply wpAny_mkInt;exact R5 ⟨_,rfl,.int j.length,H,I.tok _,⟨_,rfl⟩,q⟩
end
end L2
namespace L4
open L2 L3
def F4:List V->Hp->VK->Prop:=λb H Q=>∃(d:Addr)(a:List (List bc×V)),b=[.ref d]/\(Rd H d (.dT a)\/(Rd H d (.dK [])/\a=[]))/\Q (.int a.length) H
def vh:bJ X (.builtin "len") F4:=yw
end L4
namespace Sp
noncomputable abbrev Arr:=Int×Int×Int
noncomputable abbrev Rule:=Int×Int×Int×List Int
section
variable{f g:Type}[DecidableEq f]
def get(d:List (f×g))(k:f):Option g:=(d.find? λx=>decide (x.1=k)).map (·.2)
def put(d:List (f×g))(k:f)(v:g):List (f×g):=if(get d k).isSome then d.map (λx=>if x.1=k then(x.1,v)else x)else d++[(k,v)]
def get_nil(k:f):get ([]:List (f×g)) k=none:=rfl
theorem get_cons(x:f×g)(d:List (f×g))(k:f):get (x::d) k=if x.1=k then some x.2 else get d k:=by grind [get]
def get_append(d e:List (f×g))(k:f):get (d++e) k=(get d k).or (get e k):=by
 induction d with
 |nil=>rfl
 |cons x r a=>rw[List.cons_append,get_cons,get_cons,a];split<;>simp
def Bk(d:List (f×g))(k:f)(v:g)(j:f):get (d.map λx=>if x.1=k then(x.1,v)else x) j=if j=k then(get d j).map λ_=>v else get d j:=by
 induction d with
 |nil=>simp[get_nil]
 |cons x r a=>rw[SD,get_cons,get_cons,a];grind
def get_put(d:List (f×g))(k:f)(v:g)(j:f):get (put d k v) j=if j=k then some v else get d j:=by
 unfold put;split
 .rename_i h;rw[Bk];split
  .rename_i e;subst e;obtain⟨b,c⟩:=Option.isSome_iff_exists.mp h;rw[c];rfl
  .rfl
 .rename_i h;have a:get d k=none:=by simpa using h
  rw[get_append,get_cons,get_nil];by_cases e:j=k
  .subst e;simp[a]
  .rw[Sj (λz=>e z.symm),Sj e];simp
end
structure St where
 tb:List (Int×List (Int×List Int))
 en:List Int
 fo:List (Int×List Int)
 mi:List ((Int×Int)×Int)
 du:List Arr
noncomputable def add(l:List Int)(x:Int):List Int:=if x∈l then l else l++[x]
def row(a:List (Int×List (Int×List Int)))(s:Int):List (Int×List Int):=(get a s).getD []
def KP(a:List (Int×List (Int×List Int)))(s g:Int):List Int:=(get (row a s) g).getD []
def M3(S:St)(s:Int):List Int:=(get S.fo s).getD []
def fW(S:St)(a:Arr):Prop:=a.2.2∈KP S.tb a.1 a.2.1
abbrev RS:=List ((Int×Int)×List Rule)
end Sp
namespace Sp
def Qy(a:Int)(S:St)(r:Rule)(t:Int):Prop:=match r.2.2.2 with
 |[]=>r.2.2.1∈M3 S t
 |[x]=>fW S (r.2.2.1,x,t)
 |x::y::_=>∃m,a<=m/\fW S (r.2.2.1,x,m)/\fW S (m,y,t)
def fT(rs:RS)(s g:Int):List Rule:=(get rs (s,g)).getD []
def N6(b:Int)(rs:RS)(S:St)(a:Arr):Prop:=∀r∈fT rs a.1 a.2.1,Qy b S r a.2.2
structure J(b:Int) (rs:RS) (S:St) (pf:Int->Arr->Prop) (c:Arr->Prop):Prop where
 to:∀a,fW S a->b<=a.2.2
 mi:∀x∈S.mi,b<=x.2
 fo:∀s r,r∈M3 S s->r<b/\b<=s/\(s∈S.en->r∈S.en)/\∀g t,fW S (s,g,t)->fW S (r,g,t)\/(s,g,t)∈S.du\/pf r (s,g,t)
 dn:∀a,fW S a->N6 b rs S a\/a∈S.du\/c a
end Sp
namespace Sp
section
def N7{b a:Type}(d:List (b×a)):Prop:=(d.map (·.1)).Nodup
end
end Sp
namespace Sp
theorem nodup_sub{d:Type}[DecidableEq d]:∀{l U:List d},l.Nodup->(∀x∈l,x∈U)->l.length<=U.length
 |[],U,_,_=>Sw _
 |x::l,U,c,h=>by rw[Tz]at c;have a:=h x (by simp);have:=nodup_sub (l:=l) (U:=U.erase x) c.2 λy b=>(List.mem_erase_of_ne λe=>c.1 (by rwa[<- e])).mpr (h y (by simp[b]));rw[List.length_erase_of_mem a]at this;have:=VY a;rw[SG];lia
def Bx(b m:Int)(a:Arr):Prop:=(0<=a.1/\a.1<m)/\(0<=a.2.1/\a.2.1<b)/\0<=a.2.2/\a.2.2<m
structure B(c n f:Int) (b:List (Int×Int)) (h d:List Arr) (S:St):Prop where
 old:∀a,fW S a->c<=a.1->a.1<n->a∈h
 bx:∀a,fW S a->Bx f (n+b.length) a
 ne1:∀x∈S.tb,x.2≠[]
 ne2:∀s,∀x∈row S.tb s,x.2≠[]
 lf:∀s g,(KP S.tb s g).Nodup
 nd:(d++S.du).Nodup
 sub:∀a∈d++S.du,fW S a
 mc:(S.mi.map (·.1)).Nodup
 ms:∀x∈S.mi,x.1∈b
 mv:∀x∈S.mi,n<=x.2/\x.2<n+S.mi.length
 en:S.en.Nodup
 er:∀e∈S.en,0<=e/\e<n
 fk:N7 S.fo
 fl:∀s,(M3 S s).Nodup
 fr:∀s,∀r∈M3 S s,0<=r/\r<c
 fs:∀x∈S.fo,0<=x.1/\x.1<n+b.length
section
def get_none{c a:Type}[DecidableEq c]{d:List (c×a)}{k:c}(h:get d k=none):k∉d.map (·.1):=by
 induction d with
 |nil=>simp
 |cons x r b=>rw[get_cons]at h;grind
end
end Sp
namespace Sp
noncomputable def addR(l:List Rule)(r:Rule):List Rule:=if r∈l then l else l++[r]
def byHead(a:List Rule):RS:=a.foldl (λd r=>put d (r.1,r.2.1) (addR ((get d (r.1,r.2.1)).getD []) r)) []
def Bl:x∈addR l r↔x∈l\/x=r:=by grind [addR]
def byHead_mem:r∈fT (byHead c) s g↔r∈c/\(r.1,r.2.1)=(s,g):=by
 have a:∀(c:List Rule)(d:RS),r∈fT (c.foldl (λd r=>put d (r.1,r.2.1) (addR ((get d (r.1,r.2.1)).getD []) r)) d) s g↔r∈fT d s g\/(r∈c/\(r.1,r.2.1)=(s,g)):=λc=>by
  induction c with
  |nil=>intro d;simp
  |cons x q b=>
   intro d;rw[Ul,b];have:r∈fT (put d (x.1,x.2.1) (addR ((get d (x.1,x.2.1)).getD []) x)) s g↔r∈fT d s g\/(r=x/\(x.1,x.2.1)=(s,g)):=by
    unfold fT;rw[get_put];split
    .rename_i e;rw[Option.getD_some,Bl,<- e];simp
    .rename_i e;constructor
     .exact .inl
     .rintro (h|⟨_,h⟩)
      .exact h
      .exact absurd h.symm e
   rw[this,Sq];constructor
   .rintro ((h|⟨rfl,h⟩)|⟨h,f⟩)
    .exact .inl h
    .exact .inr ⟨.inl rfl,h⟩
    .exact .inr ⟨.inr h,f⟩
   .rintro (h|⟨rfl|h,f⟩)
    .exact .inl (.inl h)
    .exact .inl (.inr ⟨rfl,f⟩)
    .exact .inr ⟨h,f⟩
 rw[byHead,a];simp[fT,get]
def HR(l:List Int):List Int:=l.foldl add []
def aZ(a:List Int):St:=⟨[],HR a,[],[],[]⟩
end Sp
namespace Sp
section
variable{j n k:Int}
noncomputable def HS(a:List Arr)(b:List Int):Int->List Int->Prop
 |s,[]=>s∈b
 |s,g::w=>∃t,(s,g,t)∈a/\HS a b t w
structure Fw(j k n:Int) (f:List Rule) (g:List Arr) (h:List Int) (i:Int) (b:List Arr) (d:List Int):Prop where
 t:∀a∈g,a∈b
 e:∀x∈h,x∈d
 c:∀r∈f,r.2.2.2.length<=2->∀w,HS b d r.1 (r.2.1::w)->HS b d r.2.2.1 (r.2.2.2++w)
end
end Sp
namespace L2
open PySem.Calls
section
def jE(hd:(d==sysModules)=false)(m:RawD s.heap d es ep)
 (c:Q (.ref s.z) { s with heap:=s.heap.push { cls:=.type "dict_keyiterator",data:=.fields #[.ref d,.int 0 0,.int es.size 0,.int ep 0] } }):wpAny (model prog w) A (pyIter (.ref d)) Q E s:=by
 obtain⟨o,b,_,a⟩:=id m;refine Vt m.ty F.slot_dict_iter (Tv F.slot_dict_iter m.ty F.entry_dict_iter ?_ (F.args_dict_iter_1 _));unfold Builtin.«dict.__iter__» Builtin.Dict.dictSlotNone;refine KE (KE (UN m.ty (show wpAny _ _ (pure (Value.ref d)) _ _ s from R5 ?_)));show wpAny _ _ (Builtin.Dict.showsAll d >>= _) _ _ s;unfold Builtin.Dict.showsAll;rw[Sj (by grind)];refine KE (R5 (KE (UE b a (KE (VT b a (KE (Tq (R5 ⟨_,rfl,"dict_keyiterator",_,⟨_,Sn _ rfl,rfl⟩,F.slot_dict_keyiterator_next.lookup,?_⟩))))))));simpa[rawInt]using c
def dJ(y:s.heap.IsKeyIter it d i es.size ep)(m:RawD s.heap d es ep)
 (h1:∀e,es[i]?=some e->∀p,p.IsKeyIter it d (i+1) es.size ep->Heap.SameBut it s.heap p->Q (some e.key) {s with heap:=p})
 (q:es[i]?=none->A.handled=none/\∀p,Heap.ExtBut it s.heap p->Q none {s with heap:=p}):wpAny (model prog w) A (pyNext (.ref it)) Q E s:=by
 obtain⟨o,h,k,hd⟩:=id y;obtain⟨r,f,_,g⟩:=id m;unfold pyNext;refine KE (Wp (T6 (name:=Str.ofString "__next__") y.typeIs F.slot_dict_keyiterator_next (Tv F.slot_dict_keyiterator_next y.typeIs F.entry_dict_keyiterator_next ?_ (F.args_dict_keyiterator_next_1 _))));refine KE (R5 (KE (KE ?_)))
 first|refine KE (U9 y.typeIs (R5 ?_))|refine KE (VJ y.typeIs (R5 ?_))
 refine KE (Wv h hd ?_);simp only[show Builtin.Dict_items.ownsTuple "dict_keyiterator"=false by decide,Sy,TV];show wpAny _ _ (if(Value.ref d==Value.none)=true then _ else _) _ _ s;rw[Sj (show ¬((Value.ref d==Value.none)=true)from SS)];refine KE (R5 (KE (UE f g ?_)));rw[Sj (by simp)];refine KE (R5 (KE (VT f g ?_)));rw[Sj (by simp)];refine R5 ?_;simp only[show ¬((i:Int)<0)from by lia,TV,Vq];cases j:es[i]? with
 |some e=>
  refine KE ?_
  first|refine KE (U9 y.typeIs (R5 ?_))|refine KE (VJ y.typeIs (R5 ?_))
  refine KE (wpAny_isOneOf_keyiter y.typeIs ?_);show wpAny _ _ (setField (.ref it) 1 (rawInt ((i:Int)+1)) >>= _) _ _ s;refine KE (VA h hd (by simp) ?_);have c:(s.heap.update it (Obj.mapFields (·.setIfInBounds 1 (rawInt ((i:Int)+1))))).IsKeyIter it d (i+1) es.size ep:=⟨_,Uc _ h (Wb (VR hd _)),(Obj.cls_mapFields ..).trans k,by rw[VR hd];simp[rawInt]⟩;refine KE (TH (KE (wpAny_isOneOf_keyiter (s:={s with heap:=s.heap.update it (Obj.mapFields (·.setIfInBounds 1 (rawInt ((i:Int)+1))))}) c.typeIs ?_)));show wpAny _ _ (pure e.key) _ _ _;exact R5 (R5 ⟨_,rfl,R5 (h1 e j _ c (Tl ..))⟩)
 |none=>
  obtain⟨l,n⟩:=q j;refine KE ?_
  first|refine KE (U9 y.typeIs (R5 ?_))|refine KE (VJ y.typeIs (R5 ?_))
  show wpAny _ _ (setField (.ref it) 0 .none >>= _) _ _ s;refine KE (VA h hd (by simp) ?_);show wpAny _ _ (newExc (.type "StopIteration") [] >>= _) _ _ _;refine KE ?_;simp only[newExc,newTuple];refine KE (Tq ?_ (by size_fits));refine KE (m:=firstArgMember _ _) (wpAny_of_eq (a:=Value.none) (by first|rfl|(simp only[firstArgMember];rfl)) ?_);refine Tq ?_ (by size_fits);simp only[raiseNew];refine KE (wpAny_handled ?_);rw[show A.in1.handled=none from l];refine KE (R5 (wpAny_throw ?_));refine KE (U6 (T:="StopIteration") (b:=true) ⟨_,Sn _ rfl,rfl⟩ isSubtype_stop ?_);exact R5 (n _ (((Tl ..).extBut.push _).push _))
end
def wN(d:Addr)(o:Obj)(a:NX)(h:Heap):Prop:=gk d a h/\h.get? d=some o
def HU(x:wN d o xs h):ObjOk P w H h d (.ext (wN d o xs)):=⟨x,⟨o,x.2⟩,λh1 f ⟨⟨a,b,c,q,r⟩,e⟩ k=>⟨⟨a,b,c,k _ q,r⟩,k _ e⟩⟩
def PJ(d:Addr)(o:Obj)(a:NX):It:=⟨λi H=>H d=some (.ext (wN d o a))/\i<a.length,λi H x c=>c=H/\∃k b v,a[i]?=some (k,b,v)/\x=.ref b,λi H=>H d=some (.ext (wN d o a))/\a.length<=i⟩
def yx{P:WL}{w:World}{K:WK}{tg:Expr}(hex:o.ExactDict)(hdat:o.data=.dict es ep)(hes:es.toList=xs.map λx=>⟨J_ x.1,.ref x.2.1,x.2.2⟩) :
 Turn P w K tg (PJ d o xs) [it] it (λi h=>h.IsKeyIter it d i es.size ep) where
 mem:=by simp
 obj:=λi h st b hb=>by
  have e:b=it:=by simpa using hb
  subst e;obtain⟨o,e,c,q⟩:=st;exact⟨o,e,λv z=>by rw[q]at z;cases z⟩
 keep:=λi h h' st k=>st.at λo e=>k it (by simp) o e
 item:=by
  intro X hP hw hK hc i ag s σ H E I hf st hg;subst hP hw hK;obtain⟨hd,hi⟩:=hg;obtain⟨⟨_,eo⟩,_⟩:=(show ObjOk X.prog X.w H s.heap d (.ext (wN d o xs))from I.aS d _ hd);obtain⟨f0,f1,f2,f3,f4,f5⟩:=hf it (by simp);have he:es[i]?=some ⟨J_ xs[i].1,.ref xs[i].2.1,xs[i].2.2⟩:=by rw[<- SW,hes,Su,R_ hi];rfl
  refine dJ st ⟨o,eo,hex,hdat⟩ (λe e1 h' st' sb=>?_) λz=>by rw[he]at z;cases z
  rw[he]at e1;cases e1;have I1:Inv X ag σ H {s with heap:=h'}:=I.turned (t':=s.toks) (λb o hb e=>(sb.2 b hb).trans e) f0 f1 f3 f4 f5;obtain⟨oi,e,c,q⟩:=id st';exact⟨_,rfl,rR (s:={s with heap:=h'}) e c q (by decide) ⟨.ref xs[i].2.1,H,I1,rfl,⟨rfl,xs[i].1,xs[i].2.1,xs[i].2.2,R_ hi,rfl⟩,st',λb hb=>(hf b hb).1⟩⟩
 done:=by
  intro X hP hw hK hc i ag s σ H E I hf st hg;subst hP hw hK;obtain⟨hd,hi⟩:=hg;obtain⟨⟨_,eo⟩,_⟩:=(show ObjOk X.prog X.w H s.heap d (.ext (wN d o xs))from I.aS d _ hd);obtain⟨f0,f1,f2,f3,f4,f5⟩:=hf it (by simp);have hs:es.size=xs.length:=by rw[<- Tu,hes,R9]
  refine dJ st ⟨o,eo,hex,hdat⟩ (λe e1=>?_) λ_=>⟨I.ok.hd hc,λh' eb=>⟨rfl,I.turned (t':=s.toks) (λb o hb e=>eb b o hb e) f0 f1 f3 f4 f5⟩⟩;rw[Ve (by lia)]at e1;cases e1
 self:=λ_ _ _ _ _ st h=>Wj st h
section
def Inv.seen(I:Inv X ag σ H s)(e:H d=some (.ext P'))(new:ObjOk X.prog X.w (upd H d (.ext P'')) s.heap d (.ext P'')):Inv X ag σ (upd H d (.ext P'')) s:=by
 have a:∀b u,H b=some u->(∀q,u≠.ext q)->upd H d (.ext P'') b=some u:=λb u q n=>by
  rw[ai]
  .exact q
  .rintro rfl;rw[e]at q;cases q;exact n _ rfl
 refine I.view (λb c=>?_) (λb f q=>a b _ q λ_ z=>nomatch z) (λb o u q=>a b _ (I.base.iW b o u q) λ_ z=>nomatch z) (λb g q=>a b _ q λ_ z=>nomatch z) (ql I.aS ⟨_,e,λ_ z=>(nomatch z),λ_ z=>(nomatch z)⟩ new);rw[ai]
 .exact c
 .rintro rfl;rw[e]at c;cases c
def KQ(c:TE):TI:=λe H R=>c e H λx b=>∃d a,x=.ref d/\(d==sysModules)=false/\b d=some (.ext (gk d a))/\∀o,R (PJ d o a) (upd b d (.ext (wN d o a)))
def D3{l:Expr}(j:PE X l tl):PI X tg l (KQ tl):=by
 intro t s u H R I h;refine bX (j t s u H _ I h) λv n ⟨x,A,g,k,w⟩=>?_;obtain⟨d,y,e,hd,p,q⟩:=w;subst e;cases k;have r:=sU g p;obtain⟨o,B,C,i,hex,a,c,m⟩:=id r;have f:=g.seen p (P'':=wN d o y) (HU ⟨r,i⟩);refine jE hd ⟨o,i,hex,a⟩ ?_;refine⟨n.z,[n.z],_,_,_,rfl,f.kept (t':=n.toks) λb o e=>R8 _ e,yx hex a c,⟨_,Sn _ rfl,rfl,rfl⟩,λb z=>?_,q o⟩;have e:b=n.z:=by simpa using z
 subst e;exact f.ou (R7 _) (f.aS.fresh (R7 _))
def PK(D:Ends):Ends where
 nx:=λσ H=>∃d o xs,H d=some (.ext (wN d o xs))/\D.nx σ (upd H d (.ext (gk d xs)))
 rt:=D.rt
 bk:=D.bk
 ct:=D.ct
def HV{st:Stmt}(h:PS X st t):PS X st (λD g H=>t (PK D) g H):=by
 intro i s g H D I q;refine bX (h i s g H _ I q) λf c r=>?_;cases f with
 |next=>obtain⟨a,j,b,d,o,k,e,r⟩:=r;obtain⟨⟨l,_⟩,_⟩:=(show ObjOk X.prog X.w j c.heap d (.ext (wN d o k))from b.aS d _ e);exact⟨a,_,b.seen e (AK l),r⟩
 |_=>exact r
end
end L2
namespace L4
open L2 L3
def KT.trans(h:KT H H')(c:KT H' H''):KT H H'':=λa b e=>c a b (h a b e)
def KT.of(s:Same H H'):KT H H':=λa _ e=>s a _ e
theorem KT.upd(h:H a=some u)(n:∀b,u≠.tup b):KT H (upd H a v):=λc b e=>by rwa[ai (λz=>by subst z;rw[h]at e;cases e;exact n _ rfl)]
section
variable{j:Type}
structure Ln(j:Type) where
 z:j->Prop
 c:j->Option (Addr×HO)
structure Core(B H:Hp) (Z:Ln j) (b:Addr->Option j) (d:j->Option (Addr×HO)):Prop where
 same:Same B H
 c:∀t a u,d t=some (a,u)->b a=some t/\(¬Z.z t->H a=some u/\B a=none)/\(Z.z t->B a≠none)
 l:∀t,Z.z t->d t=Z.c t
variable{B H m:Hp}{Z:Ln j}{col:Addr->Option j}{cs cs':j->Option (Addr×HO)}{t:j}{a:Addr}{u u':HO}
def Core.at(h:Core B H Z col cs)(e:cs t=some (a,u))(z:¬Z.z t):H a=some u:=((h.c t a u e).2.1 z).1
def Core.fr(h:Core B H Z col cs)(e:cs t=some (a,u))(z:¬Z.z t):B a=none:=((h.c t a u e).2.1 z).2
def Core.ne(h:Core B H Z col cs)(e:cs t=some (a,u))(f:cs s=some (b,v))(n:s≠t):b≠a:=λz=>by subst z;have h1:=(h.c _ _ _ e).1;rw[(h.c _ _ _ f).1]at h1;exact n (Th h1)
def Core.there(h:Core B H Z col cs)(e:cs t=some (a,u)):H a≠none:=λz=>by
 by_cases q:Z.z t
 .exact(h.c t a u e).2.2 q (h.same.free z)
 .rw[h.at e q]at z;cases z
theorem Core.more(h:Core B H Z col cs)(s:Same H m):Core B m Z col cs:=⟨h.same.trans s,λt a u e=>let ⟨x,y,z⟩:=h.c t a u e;⟨x,λq=>⟨s _ _ (y q).1,(y q).2⟩,z⟩,h.l⟩
def Core.put(h:Core B H Z col cs)(e:cs t=some (a,u))(z:¬Z.z t)(f:cs' t=some (a,u'))(d:∀s,s≠t->cs' s=cs s):Core B (upd H a u') Z col cs':=by
 refine⟨λc v q=>?_,λs b v q=>?_,λs q=>by rw[d s λy=>z (y▸q)];exact h.l s q⟩
 .rw[ai (λy=>by subst y;rw[h.fr e z]at q;cases q)];exact h.same c v q
 .by_cases st:s=t
  .subst st;rw[f]at q;cases q;exact⟨(h.c _ _ _ e).1,λ_=>⟨ac,h.fr e z⟩,λy=>(z y).elim⟩
  .rw[d s st]at q;obtain⟨x,y,w⟩:=h.c s b v q;exact⟨x,λk=>⟨by rw[ai (h.ne e q st)];exact(y k).1,(y k).2⟩,w⟩
def Core.new(h:Core B H Z col cs)(n:H a=none)(z:¬Z.z t)(i:cs' t=some (a,u'))(g:∀s,s≠t->cs' s=cs s):∃d,Core B (upd H a u') Z d cs':=by
 classical
 refine⟨λc=>if c=a then some t else col c,λc v q=>by rw[ai (ay (h.same c v q) n)];exact h.same c v q,λs b v q=>?_,λs q=>by rw[g s λy=>z (y▸q)];exact h.l s q⟩;by_cases st:s=t
 .subst st;rw[i]at q;cases q;exact⟨Sg rfl,λ_=>⟨ac,h.same.free n⟩,λy=>(z y).elim⟩
 .rw[g s st]at q;obtain⟨x,y,w⟩:=h.c s b v q;have f:b≠a:=λe=>by subst e;exact h.there q n
  exact⟨by rwa[Sj f],λk=>⟨by rw[ai f];exact(y k).1,(y k).2⟩,w⟩
end
inductive Tag where
 |o|ta|en|fo|mi|du|ru
 |row (s:Int)
 |lf (s g:Int)
 |fl (s:Int)
 |rl (k:Int×Int)
structure SA where
 o:Addr
 ta:Addr
 en:Addr
 fo:Addr
 mi:Addr
 du:Addr
 ru:Addr
structure Fx where
 A:SA
 C:Addr
 dx:Addr
 n:Int
 rs:Sp.RS
 RA:Int×Int->Addr
 xs:Int×Int->NX
structure Vr where
 R:Int->Addr
 L:Int->Int->Addr
 F:Int->Addr
 dv:List V
 ue:HO
def tF(rs:Sp.RS)(a:Int×Int->Addr):List (List bc×V):=rs.map λx=>(k2 x.1,.ref (a x.1))
section
section
variable{f:Type}{d:List (Int×f)}
theorem fR{a f:Type}[DecidableEq a]{d:List (a×f)}{k:a}(h:Sp.get d k=none)(x:f)(j:a):Sp.get (d++[(k,x)]) j=if j=k then some x else Sp.get d j:=by
 rw[Sp.get_append,Sp.get_cons,Sp.get_nil];by_cases e:j=k
 .subst e;simp[h]
 .rw[Sj (λz=>e z.symm),Sj e];simp
theorem D4{b f:Type}[DecidableEq b]{d:List (b×f)}{k:b}(h:Sp.get d k=none)(x y:f):Sp.put (d++[(k,x)]) k y=Sp.put d k y:=by
 have a:∀z∈d,¬z.1=k:=λz c e=>Sp.get_none h (Se.mpr ⟨z,c,e⟩);unfold Sp.put;rw[fR h,Sg rfl,h,Sg (by rfl),Sj (by simp),SN];congr 1
 .exact(SR λz c=>Sj (a z c)).trans (List.map_id d)
 .simp
end
end
section
def hG(h:n<15000000):n<sizeLine:=by rw[SQ];lia
end
def iJ{J:L2.It}{n:Nat}{g:TG}{u:TS}{D:Ends}{s:L2.St}{H:Hp}(P:Nat->L2.St->Hp->Prop)(l:P 0 s H)(c:∀i s H,P i s H->i<n->J.go i H)(d:∀s H,P n s H->J.stop n H)
 (v:∀i s H x t (j:Ends),i<n->P i s H->J.zd i H x t->(∀a t,P (i+1) a t->j.nx a t)->g x s t λb f=>u j b f) (o:∀s H,P n s H->D.nx s H):∃W:Nat->Nat->L2.St->Hp->Prop,(∃m,W 0 m s H)/\∀i m s H,W i m s H->
 (J.stop i H/\D.nx s H)\/(J.go i H/\∃N:L2.St->Hp->Prop,(∀a t,N a t->∃k,k<m/\W (i+1) k a t)/\∀x t,J.zd i H x t->g x s t λb f=>u {D with nx:=N,ct:=N,bk:=D.nx} b f):=by
 refine⟨λi m s H=>m=n-i/\i<=n/\P i s H,⟨n,by simp,Sw _,l⟩,?_⟩;rintro i m s H ⟨rfl,r,p⟩;by_cases h:i<n
 .exact .inr ⟨c i s H p h,P (i+1),λa t q=>⟨n-(i+1),by lia,rfl,h,q⟩,λx t y=>v i s H x t _ h p y λ_ _=>id⟩
 .have e:i=n:=by lia
  subst e;exact .inl ⟨d s H p,o s H p⟩
end L4
namespace L4
open L2 L3
def aN.rq{j d:Type}{R:j->d->Prop}{g:List j}{x:j}{c:List d}(h:aN R (g++[x]) c):∃i y,c=i++[y]/\aN R g i/\R x y:=by
 induction g generalizing c with
 |nil=>
  cases h with
  |cons a b=>cases b;exact⟨[],_,rfl,.nil,a⟩
 |cons w g f=>
  cases h with
  |cons a b=>obtain⟨i,y,e,h1,k⟩:=f b;exact⟨_::i,y,by rw[e];rfl,.cons a h1,k⟩
section
def qP(rs:Sp.RS)(b:Int×Int->Addr)(k:Int×Int):cp (tF rs b) (k2 k)=(Sp.get rs k).map λ_=>.ref (b k):=by
 induction rs with
 |nil=>rfl
 |cons x m a=>
  show cp ((k2 x.1,.ref (b x.1))::tF m b) (k2 k)=_;rw[Sp.get_cons];by_cases e:x.1=k
  .rw[dk (by rw[e]),Sg e,e];rfl
  .rw[dm (λz=>e (iI _ _ z)),Sj e,a]
end
section
variable{H:Hp}{s:Int}{a:Addr}
def Kp(a:Addr)(G H:Hp):Prop:=∀c u,G c=some u->c≠a->H c=some u
theorem Kp.of(s:Same G H):Kp a G H:=λc u e _=>s c u e
end
end L4
namespace Sp
def byOne(d:RS)(r:Rule):RS:=put d (r.1,r.2.1) (addR ((get d (r.1,r.2.1)).getD []) r)
def Bm{b a:Type}[DecidableEq b](d:List (b×a))(k:b)(v:a):(put d k v).length<=d.length+1:=by unfold put;split<;>simp
theorem by_len:∀(a:List Rule)(d:RS)(m:Nat),d.length<=m->(∀k,((get d k).getD []).length<=m)->(a.foldl byOne d).length<=m+a.length/\∀k,((get (a.foldl byOne d) k).getD []).length<=m+a.length
 |[],d,m,h1,b=>⟨h1,b⟩
 |r::a,d,m,h1,b=>by
  have c:=by_len a (byOne d r) (m+1) (SE (Bm ..) (by lia)) λk=>by
   show((get (put d _ _) k).getD []).length<=_;rw[get_put];split
   .rename_i e;have:=b (r.1,r.2.1);show(addR _ r).length<=_;unfold addR;split
    .lia
    .rw[Sm,SY];lia
   .have:=b k;lia
  rw[Ul,SG];exact⟨by lia,λk=>by have:=c.2 k;lia⟩
end Sp
namespace L4
open L2 L3
noncomputable def Z0:Ln Tag:=⟨λ_=>False,λ_=>none⟩
def z0:∀t,¬Z0.z t:=λ_ h=>h
def KR(b:Addr)(rs:Sp.RS)(a:Int×Int->Addr)(c:Int×Int->NX):Tag->Option (Addr×HO)
 |.ru=>some (b,.dT (tF rs a))
 |.rl k=>(Sp.get rs k).map λ_=>(a k,.ext (gk (a k) (c k)))
 |_=>none
noncomputable def g8(r:Sp.Rule):List K0:=[.inl r.1,.inl r.2.1,.inl r.2.2.1,.inr r.2.2.2]
def yz(h:g8 r=g8 r'):r=r':=by
 obtain⟨a,b,c,d⟩:=r;obtain⟨e,f,g,i⟩:=r';unfold g8 at h
 grind
def tG(h:IsRule H r (.ref b)):qw H (g8 r) b:=by obtain⟨p,q,e,h1,a⟩:=h;cases e;exact⟨_,h1,_,rfl,_,rfl,_,rfl,q,_,rfl,a,rfl⟩
def N8(B:Hp)(rs:Sp.RS)(a:Int×Int->Addr)(b:Int×Int->NX):Prop:=∀k rl,Sp.get rs k=some rl->(a k==sysModules)=false/\aN (λr x=>x.1=g8 r/\IsRule B r (.ref x.2.1)) rl (b k)
structure xk(b B H:Hp) (e:Addr) (rs:Sp.RS) (c:Int×Int->Addr) (d:Int×Int->NX) (a:Addr->Option Tag):Prop where
 k:Core B H Z0 a (KR e rs c d)
 ok:N8 b rs c d
 s0:Same b B
section
variable{K:WK}{B0 B H:Hp}{ar:Addr}{rs:Sp.RS}{RA:Int×Int->Addr}{xs:Int×Int->NX}{col:Addr->Option Tag}{D:Ends}{σ:L2.St}{Q:VK}{E:XK}{k:Int×Int}{r:Sp.Rule}{rl:List Sp.Rule}{c p:Addr}
noncomputable def di{a:Type}(R:Int×Int->a)(k:Int×Int)(p:a):Int×Int->a:=λu=>if u=k then p else R u
def D5(e:Sp.get rs k=none):tF (rs++[(k,[])]) (di RA k p)=tF rs RA++[(k2 k,.ref p)]:=by
 have a:∀z∈rs,¬z.1=k:=λz d b=>Sp.get_none e (Se.mpr ⟨z,d,b⟩);unfold tF di;rw[SN];congr 1
 .exact SR λz d=>by rw[Sj (a z d)]
 .simp
def D7(h:(Sp.get rs k).isSome):tF (Sp.put rs k x) RA=tF rs RA:=by unfold Sp.put;rw[Sg h];unfold tF;rw[Tg];refine SR λz _=>?_;show((k2 (if z.1=k then(z.1,x)else z).1,.ref (RA (if z.1=k then(z.1,x)else z).1)):List bc×V)=_;split<;>rfl
theorem xk.new(h:xk B0 B H ar rs RA xs col)(e:Sp.get rs k=none)(g:H p=none)(i:(p==sysModules)=false):∃b,xk B0 B (upd (upd H p (.ext (gk p []))) ar (.dT (tF rs RA++[(k2 k,.ref p)]))) ar (rs++[(k,[])]) (di RA k p) (di xs k []) b:=by
 obtain⟨b,l⟩:=h.k.new (t:=.rl k) (u':=.ext (gk p [])) (a:=p) g (z0 _) (cs':=λq=>match q with
  |.rl u=>if u=k then some (p,.ext (gk p []))else KR ar rs RA xs (.rl u)
  |q=>KR ar rs RA xs q) (Sg rfl) (λq f=>by
   cases q with
   |rl u=>exact Sj λz=>f (by rw[z])
   |_=>rfl)
 refine⟨b,l.put (t:=.ru) (a:=ar) (u:=.dT (tF rs RA)) rfl (z0 _) (by show some (ar,HO.dT (tF (rs++[(k,[])]) (di RA k p)))=_;rw[D5 e]) (λq f=>?_),λj rl d=>?_,?_⟩
 .cases q with
  |ru=>exact(f rfl).elim
  |rl u=>
   show(Sp.get (rs++[(k,[])]) u).map _=if u=k then some (p,.ext (gk p []))else(Sp.get rs u).map λ_=>(RA u,HO.ext (gk (RA u) (xs u)));rw[fR e];by_cases z:u=k
   .rw[Sg z,Sg z];show some (di RA k p u,HO.ext (gk (di RA k p u) (di xs k [] u)))=_;unfold di;rw[Sg z,Sg z]
   .rw[Sj z,Sj z];show(Sp.get rs u).map (λ_=>(di RA k p u,HO.ext (gk (di RA k p u) (di xs k [] u))))=_;unfold di;rw[Sj z,Sj z]
  |_=>rfl
 .rw[fR e]at d;unfold di;by_cases z:j=k
  .rw[Sg z]at d;cases d;rw[Sg z,Sg z];exact⟨i,.nil⟩
  .rw[Sj z]at d;rw[Sj z,Sj z];exact h.ok j rl d
 .exact h.s0
theorem Bn:∀{rl:List Sp.Rule}{xs:NX},aN (λr x=>x.1=g8 r/\IsRule B r (.ref x.2.1)) rl xs->xT (xs.map (·.1)) (g8 r)=decide (r∈rl):=by
 intro rl xs h;induction h with
 |nil=>rfl
 |@cons y x rl xs h _ a=>
  unfold xT at a ⊢;rw[SD,Wm,a,h.1];by_cases e:y=r
  .subst e;simp
  .rw[Tw λz=>e (yz z)];simp[Tp e]
def xk.add(h:xk B0 B H ar rs RA xs col)(e:Sp.get rs k=some rl)(d:IsRule B0 r (.ref c))(w:WM):xk B0 B (upd H (RA k) (.ext (gk (RA k) (sS (xs k) (g8 r) c w)))) ar (Sp.put rs k (Sp.addR rl r)) RA (di xs k (sS (xs k) (g8 r) c w)) col:=by
 obtain⟨h1,l⟩:=h.ok k rl e;have f:KR ar rs RA xs (.rl k)=some (RA k,.ext (gk (RA k) (xs k))):=by show(Sp.get rs k).map _=_;rw[e];rfl
 refine⟨h.k.put f (z0 _) (by show(Sp.get (Sp.put rs k _) k).map (λ_=>(RA k,HO.ext (gk (RA k) (di xs k _ k))))=_;rw[Sp.get_put,Sg rfl];unfold di;rw[Sg rfl];rfl) (λq g=>?_),λj b a=>?_,h.s0⟩
 .cases q with
  |ru=>show some (ar,HO.dT (tF (Sp.put rs k _) RA))=some (ar,HO.dT (tF rs RA));rw[D7 (by rw[e];rfl)]
  |rl u=>have z:u≠k:=λz=>g (by rw[z]);show(Sp.get (Sp.put rs k _) u).map (λ_=>(RA u,HO.ext (gk (RA u) (di xs k _ u))))=(Sp.get rs u).map λ_=>(RA u,HO.ext (gk (RA u) (xs u)));rw[Sp.get_put,Sj z];unfold di;rw[Sj z]
  |_=>rfl
 .rw[Sp.get_put]at a;unfold di;by_cases z:j=k
  .rw[Sg z]at a;cases a;rw[Sg z,z];refine⟨h1,?_⟩;unfold sS Sp.addR;rw[Bn l];by_cases y:r∈rl
   .rw[Sz y,Sg rfl,Sg y];have:=aN.Cz (T:=λr x=>x.1=g8 r/\IsRule B0 r (.ref x.2.1)) id (λx:List K0×Addr×WM=>if x.1=g8 r then(x.1,x.2.1,w)else x) (λi x q=>by dsimp only[id];split<;>exact q) l;rwa[List.map_id]at this
   .rw[Tw y,Sj y,Sj SS];exact l.snoc ⟨rfl,d⟩
  .rw[Sj z]at a;rw[Sj z];exact h.ok j b a
inductive oq:Sp
 |mk {c q:Addr} {x y z:V} {H:Hp} {Q:VK} {E:XK} (hc:H c=some (.tup [x,y,z,.ref q])) (k:∀p,H p=none->Q (.ref p) (upd H p (.tup [x,y]))):oq [.ref c] H Q E
def KU(K:WK):TS:=b5 (cm (ah (tI K 0 0) (ah (tI K 0 1) aF)))
theorem yA(h:oq vs H Q E):KU K (eQ Q) (aZ (nS 1) vs) H:=by obtain⟨a,k⟩:=h;exact lI (.c (.ix (.va rfl) a rfl) (.c (.ix (.va rfl) a rfl) .ni)) rfl k
inductive Fd:Sp
 |mk {RL:List Sp.Rule} {p l:Addr} {ws:List V} {H:Hp} {Q:VK} {E:XK} {B0:Hp} (s0:Same B0 H) (G:cY B0 RL p l ws) (br:RL.length<15000000) (k:∀ar RA xs col H',xk B0 H H' ar (Sp.byHead RL) RA xs col->Q (.ref ar) H'):Fd [.ref p] H Q E
def KW(K:WK):TS:=FU (qc K "dict" qu (aj 1) (ah (bj oq [] E0 (ah (aj 2) aF)) (ah qy aF))) (aj 2) (tC (.bl true))
def N9(K:WK):TS:=aI (cU (bZ K (tI K 0 2)) (aA 2) (KW K)) (b5 (aj 1))
def Qz(K:WK):TS:=aI (aT dY (aA 1)) (N9 K)
theorem QA(P:xk B0 B H ar rs RA xs col)(v:IsRule B0 r (.ref c))(I:rs.length<15000000)(J:∀k,((Sp.get rs k).getD []).length<15000000)(Z:σ=[some (.ref p0),some (.ref ar),some (.ref c)])(k:∀z A d U,xk B0 B U ar (Sp.byOne rs r) z A d->D.nx σ U):KW K D σ H:=by
 subst Z;obtain⟨_,q,e,L,S⟩:=IsRule.keep (.of (P.s0.trans P.k.same)) _ _ v;cases e;have h:=P.k.at (t:=.ru) rfl (z0 _);refine⟨_,rfl,.inr (.inr (.inl ⟨rfl,.inr ⟨_,h⟩⟩)),_,rfl,.mk L λb hb p C F=>?_⟩;have W:Same H (upd H b (.tup [.int r.1,.int r.2.1])):=aw hb;have X:=W.trans (aw (o:=.ext (gk p [])) C);refine⟨ar,b,k2 (r.1,r.2.1),.ref p,tF rs RA,rfl,rfl,aw C _ _ ac,.inl (X _ _ h),hG (by unfold tF;rw[R9];exact I),?_⟩;rw[qP];have j:∀{rs RA xs col f},xk B0 B f ar rs RA xs col->∀{rl},Sp.get rs (r.1,r.2.1)=some rl->rl.length<15000000->(∀n g,xk B0 B n ar (Sp.put rs (r.1,r.2.1) (Sp.addR rl r)) RA g col->D.nx [some (.ref p0),some (.ref ar),some (.ref c)] n)->
  ∃y,([some (.ref p0),some (.ref ar),some (.ref c)]:L2.St)[2]?=some (some y)/\∃a b xs k,V.ref (RA (r.1,r.2.1))=.ref a/\y=.ref b/\f a=some (.ext (gk a xs))/\xs.length<=sizeLine/\(∀x∈xs,qw f x.1 x.2.1)/\qw f k b/\∀w,D.nx [some (.ref p0),some (.ref ar),some (.ref c)] (upd f a (.ext (gk a (sS xs k b w)))):=λ{rs RA xs col f} l {rl} e s M=>by
  obtain⟨h1,Y⟩:=l.ok _ _ e;have G:KT B0 f:=.of (l.s0.trans l.k.same);refine⟨_,rfl,RA (r.1,r.2.1),c,xs (r.1,r.2.1),g8 r,rfl,rfl,l.k.at (t:=.rl (r.1,r.2.1)) (by show(Sp.get rs _).map _=_;rw[e];rfl) (z0 _),TY (hG (by rwa[<- Y.len])),λx N=>?_,tG (IsRule.keep G _ _ v),λw=>M _ _ (l.add e v w)⟩;obtain⟨i,O⟩:=SC.mp N;obtain⟨T,_,m⟩:=Y.get O;rw[m.1];exact tG (IsRule.keep G _ _ m.2)
 unfold Sp.byOne at k;cases e:Sp.get rs (r.1,r.2.1)with
 |some rl=>rw[e]at k;refine .inl ⟨_,rfl,?_⟩;have s:=J (r.1,r.2.1);rw[e]at s;exact j ⟨P.k.more X,P.ok,P.s0⟩ e s λn g u=>k _ _ _ _ u
 |none=>rw[e]at k;refine .inr ⟨rfl,?_⟩;rw[cI _ (by rw[qP,e];rfl)];obtain⟨d,R⟩:=xk.new (k:=(r.1,r.2.1)) ⟨P.k.more W,P.ok,P.s0⟩ e C F;have:=j R (rl:=[]) ((fR e _ _).trans (Sg rfl)) (by decide) λn g u=>k _ _ _ _ (by rwa[D4 e]at u);unfold di at this;rwa[Sg rfl]at this
theorem D8(h:Fd vs H Q E):Qz K (eQ Q) (aZ (nS 3) vs) H:=by
 obtain @⟨L,p,l,ws,H,Q,E,B0,s0,G,br,k⟩:=h;intro ar g;have N:Same H (upd H ar (.dT [])):=aw g;obtain⟨F,I,u⟩:=(G.same (s0.trans N)).tup;have f:∀i,((L.take i).foldl Sp.byOne []).length<15000000/\∀k,((Sp.get ((L.take i).foldl Sp.byOne []) k).getD []).length<15000000:=λi=>by obtain⟨a,b⟩:=Sp.by_len (L.take i) [] 0 (R7 _) (λk=>R7 _);have h1:=S_ i L;exact⟨by lia,λk=>by have:=b k;lia⟩
 obtain⟨j,O⟩:=Core.new (B:=H) (H:=H) (Z:=Z0) (col:=λ_=>(none:Option Tag)) (cs:=λ_=>none) (a:=ar) (t:=.ru) (u':=.dT []) ⟨λ_ _ e=>e,λ_ _ _ e=>(nomatch e),λ_ h=>h.elim⟩ g (z0 _) (cs':=KR ar [] (λ_=>0) λ_=>[]) rfl (λq n=>by cases q<;>first|rfl|exact(n rfl).elim);refine cO (Reads.ix (.va (i:=0) rfl) u (v:=.ref l) rfl _ ⟨l,rfl,⟨ws,.inl (aU (s0.trans N) G.lst)⟩,?_⟩);refine cc (K:=K) (a:=l) (xs:=ws) (λi d M=>(∃x,d=[some (.ref p),some (.ref ar),x])/\∃RA xs col,xk B0 H M ar ((L.take i).foldl Sp.byOne []) RA xs col) ⟨⟨none,rfl⟩,_,_,j,O,(λk rl e=>(nomatch e)),s0⟩ (λi d M _ q=>?_) (λi v d M w q=>?_) λd M q=>?_
 .obtain⟨_,RA,xs,col,P⟩:=q;exact .inl (aU (s0.trans P.k.same) G.lst)
 .obtain⟨⟨x,rfl⟩,RA,xs,col,P⟩:=q;obtain⟨r,y,z⟩:=G.its.get w;obtain⟨c,q,rfl,A,n⟩:=z;refine QA P ⟨c,q,rfl,A,n⟩ (f i).1 (f i).2 rfl λo s m J C=>⟨⟨_,rfl⟩,o,s,m,?_⟩;rwa[Sv,y,Ur]
 .obtain⟨⟨x,rfl⟩,RA,xs,col,P⟩:=q;rw[<- G.its.len,SU]at P;exact⟨_,rfl,k ar RA xs col M P⟩
end
end L4
namespace L2
open PySem.Calls
def N_(d:Addr)(o:Obj)(u:HO)(a:List (List bc×V)):It:=⟨λi H=>H d=some (.bv o u)/\i<a.length,λi H x c=>c=H/\∃b k v,a[i]?=some (k,v)/\x=.ref b/\H b=some (.tup (k.map kV)),λi H=>H d=some (.bv o u)/\a.length<=i⟩
def vi{P:WL}{w:World}{K:WK}{tg:Expr}{d it:Addr}(hex:o.ExactDict)(hdat:o.data=.dict en ep)(br:en.size=kvs.length)
 (hent:∀H h,HOk P w H h->H d=some (.bv o u)->∀(i:Nat) p,kvs[i]?=some p->∃e b,en[i]?=some e/\e.key=.ref b/\H b=some (.tup (p.1.map kV))):Turn P w K tg (N_ d o u kvs) [it] it (λi h=>h.IsKeyIter it d i en.size ep) where
 mem:=by simp
 obj:=λi h st b hb=>by
  have e:b=it:=by simpa using hb
  subst e;obtain⟨o,e,c,q⟩:=st;exact⟨o,e,λv z=>by rw[q]at z;cases z⟩
 keep:=λi h h' st k=>st.at λo e=>k it (by simp) o e
 item:=by
  intro X hP hw hK hc i ag s σ H E I hf st hg;subst hP hw hK;obtain⟨hd,hi⟩:=hg;obtain⟨eo,_⟩:=(show ObjOk X.prog X.w H s.heap d (.bv o u)from I.aS d _ hd);obtain⟨f0,f1,f2,f3,f4,f5⟩:=hf it (by simp);have hk:kvs[i]?=some kvs[i]:=by simp[hi]
  obtain⟨e,b,he,hb,hH⟩:=hent H s.heap I.aS hd i _ hk;refine dJ st ⟨o,eo,hex,hdat⟩ (λe' e1 h' st' sb=>?_) λz=>by rw[he]at z;cases z
  rw[he]at e1;cases e1;have I1:Inv X ag σ H {s with heap:=h'}:=I.turned (t':=s.toks) (λb o hb e=>(sb.2 b hb).trans e) f0 f1 f3 f4 f5;obtain⟨oi,e2,c,q⟩:=id st';exact⟨_,rfl,rR (s:={s with heap:=h'}) e2 c q (by decide) ⟨.ref b,H,I1,hb,⟨rfl,b,kvs[i].1,kvs[i].2,hk,rfl,hH⟩,st',λb hb=>(hf b hb).1⟩⟩
 done:=by intro X hP hw hK hc i ag s σ H E I hf st hg;subst hP hw hK;obtain⟨hd,hi⟩:=hg;obtain⟨eo,_⟩:=(show ObjOk X.prog X.w H s.heap d (.bv o u)from I.aS d _ hd);obtain⟨f0,f1,f2,f3,f4,f5⟩:=hf it (by simp);refine dJ st ⟨o,eo,hex,hdat⟩ (λe e1=>?_) λ_=>⟨I.ok.hd hc,λh' eb=>⟨rfl,I.turned (t':=s.toks) (λb o hb e=>eb b o hb e) f0 f1 f3 f4 f5⟩⟩;rw[Ve (by lia)]at e1;cases e1
 self:=λ_ _ _ _ _ st h=>Wj st h
section
def wO(X:Cx)(e:TE):TI:=λf H R=>e f H λx c=>∃d b u,x=.ref d/\(u=.dT b\/(u=.dK []/\b=[]))/\c d=some u/\∀o,(∀a v,X.H₀ d≠some (.bv a v))->R (N_ d o u b) (upd c d (.bv o u))
def nL{l:Expr}(z:PE X l tl):PI X tg l (wO X tl):=by
 intro W s Y H R I h;refine bX (z W s Y H _ I h) λv O ⟨x,V,t,J,Z⟩=>?_;obtain⟨d,P,u,e,A,S,q⟩:=Z;subst e;cases J;have D:mP u:=by rcases A with rfl|⟨rfl,_⟩<;>exact ⟨⟩
 have B:∃o,O.heap.get? d=some o:=by
  rcases A with rfl|⟨rfl,_⟩
  .obtain⟨_,_,_,_,o,_,_,k,_⟩:=(show ObjOk X.prog X.w V O.heap d (.dT P)from t.aS d _ S);exact⟨o,k⟩
  .obtain⟨_,_,_,_,o,_,_,k,_⟩:=(show ObjOk X.prog X.w V O.heap d (.dK [])from t.aS d _ S);exact⟨o,k⟩
 obtain⟨o,k⟩:=B;have y:=t.bv S D k;have m:∀{H h},HOk X.prog X.w H h->H d=some (.bv o u)->(d==sysModules)=false/\∃(en:Array DictEntry)(Q:Nat),o.ExactDict/\o.data=.dict en Q/\en.size=P.length/\∀(i:Nat) p,P[i]?=some p->∃e b,en[i]?=some e/\e.key=.ref b/\H b=some (.tup (p.1.map kV)):=λ{H h} ok e=>by
  obtain⟨E,C⟩:=(show ObjOk X.prog X.w H h d (.bv o u)from ok d _ e);rcases A with rfl|⟨rfl,rfl⟩
  .obtain⟨_,hd,T,c,K,en,Q,g,hex,a,n,_,_⟩:=ik ok (.inr ⟨o,e⟩);rw[E]at g;cases g;refine⟨hd,en,Q,hex,a,by rw[VS n,Us c],λi p F=>?_⟩;have z:i<T.length:=by rw[<- Us c];exact(Si.mp F).1
   have C:T[i]?=some T[i]:=by simp[z]
   obtain⟨_,U,rv⟩:=c.at i _ _ F C;exact⟨_,_,by rw[entry_at n,C];rfl,rfl,U⟩
  .obtain⟨_,hd,vs,c,K,en,Q,g,hex,a,_,r,_⟩:=ij ok (.inr ⟨o,e⟩);rw[E]at g;cases g;cases c;cases G:en.toList with
   |nil=>exact⟨hd,en,Q,hex,a,by rw[<- Tu,G];rfl,λi p e=>by simp at e⟩
   |cons _ _=>rw[G]at r;cases r
 obtain⟨hd,en,Q,hex,a,L,_⟩:=m y.aS ac;refine jE hd ⟨o,k,hex,a⟩ ?_;refine⟨O.z,[O.z],_,_,_,rfl,y.kept (t':=O.toks) λb o e=>R8 _ e,vi hex a L (λH h ok e=>?_),⟨_,Sn _ rfl,rfl,rfl⟩,λb U=>?_,q o (t.Cu S D)⟩
 .obtain⟨_,M,N,_,j,_,f⟩:=m ok e;rw[a]at j;cases j;exact f
 .have e:b=O.z:=by simpa using U
  subst e;exact y.ou (R7 _) (y.aS.fresh (R7 _))
end
end L2
namespace L2
open PySem.Calls ST
section
variable{E D:Type}
def d_.own(v:d_ ent es its)(t:CD ent its):∃o:List (E×D),(∀z∈o,z∈its)/\(o.map (·.1)).Nodup/\o.length=es.size/\(∀x∈its,∃y∈o,y.1=x.1)/\d_ ent es o:=by
 obtain⟨o,d,c⟩:=m7 (ent:=ent) (its:=its) es.toList v.el;have k:o.length=es.size:=by have:=T_ List.length d;rw[R9,Tu]at this;exact this.symm
 have u:(o.map (·.1)).Nodup:=by have s:=v.pw;rw[d,To]at s;unfold List.Nodup;rw[To];exact Uq (λ{a b} w A g=>g a b rfl rfl (c a w) (c b A)) s
 have B:∀x∈its,∃y∈o,y.1=x.1:=λx f=>by obtain⟨y,l,r,p⟩:=v.all x f;rw[d]at p;obtain⟨z,q,m⟩:=Se.mp p;exact⟨z,q,(t z (c z q) y l m).trans r⟩
 refine⟨o,c,u,k,B,⟨λe i=>?_,by lia,v.pw.imp λ{a b} h x j r p n C=>h x j r p (c x n) (c j C),λx f=>⟨x,f,rfl,?_⟩⟩⟩
 .rw[d]at i;obtain⟨z,q,e⟩:=Se.mp i;exact⟨z,q,e.symm⟩
 .rw[d];exact Se.mpr ⟨x,f,rfl⟩
end
section
def Bo(X:Cx):List V->Hp->VK->Prop:=λd H Q=>∃l b a,d=[.ref l]/\Rd H l (.lst b)/\TupsIn H b a/\b.length<=300/\∀p c,H p=none->d_ (eT X.prog X.w) c a->Q (.ref p) (upd H p (.ext λh=>SetAt X.w h p c))
def yB(a:X.calm=true)(b:X.A.units+64<cLine):bJ X (.type "set") (Bo X):=xM a b
def Bp(X:Cx):List V->Hp->VK->Prop:=λd H Q=>∃p c b,d=[.ref p]/\H p=some (.ext λh=>SetAt X.w h p c)/\d_ (eT X.prog X.w) c b/\(∀x∈b,H x.2=some (.tup ((iK x.1).map kV)))/\(∀x∈b,x.1≠[])/\(∀l:List (List Int),l.Nodup->(∀k∈l,∃x∈b,x.1=k)->l.length<=63)/\
 ∀l a,H l=none->oC (λx y=>d4 x y=true) b a->Q (.ref l) (upd H l (.lst (a.map λy=>.ref y.2)))
def yC(j:X.calm=true):bJ X (.builtin "sorted") (Bp X):=by
 rintro B s C H M D Q I r⟨p,E,F,rfl,m,v,g,c,u,q⟩;have d:=λx a=>dI I.aS (g x a);obtain⟨w,b,G,i,J,n⟩:=v.own (He d);have K:w.length<=63:=by
  have:=u (w.map (·.1)) G λk o=>by obtain⟨z,u,rfl⟩:=Se.mp o;exact⟨z,b z u,rfl⟩
  rwa[R9]at this
 exact qt j (N:=63) (by decide) Dp B s C H _ D Q I r ⟨p,E,w,rfl,m,n,λx a=>g x (b x a),λx a=>c x (b x a),K,λl t i A=>q l t i ⟨λy f=>b y (A.sub y f),λx a=>by obtain⟨z,u,e⟩:=J x a;obtain⟨y,f,L⟩:=A.all z u;exact⟨y,f,L.trans e⟩,A.pw⟩⟩
end
end L2
namespace L4
open L2 L3 ST
noncomputable abbrev aD:=Int×Int
def CF(a b:aD):Prop:=a.1<b.1\/(a.1=b.1/\a.2<b.2)
structure oo(l z:List aD):Prop where
 m:∀x,x∈z↔x∈l
 p:z.Pairwise CF
section
noncomputable def pL(x:aD):List Int:=[x.1,x.2]
def Bq(h:pL x=pL y):x=y:=by unfold pL at h;injection h with a b;injection b with b _;exact VB a b
def Oa(h:d4 (pL x) (pL y)=true):CF x y:=by
 unfold pL at h;unfold CF;simp only[d4]at h
 grind
def D9:∀{e:List aD}{f:List V},aN (IsSet H) e f->∃d:List jY,TupsIn H f d/\d.map (·.1)=e.map pL:=by
 intro e f h;induction h with
 |nil=>exact⟨[],.nil,rfl⟩
 |@cons x v e f q _ a=>obtain⟨d,b,g⟩:=a;obtain⟨p,rfl,c⟩:=q;exact⟨(pL x,p)::d,.cons ⟨rfl,c⟩ b,by rw[SD,SD,g]⟩
def KY(h:Reads ta σ H (.ref l))(C:Rd H l (.lst vs))(a:aN (IsSet H) hs vs)(K:hs.length<=300)(Y:∀m:List aD,m.Nodup->(∀x∈m,x∈hs)->m.length<=63)
 (k:∀i J U P,Same H P->H i=none->P i=some (.lst U)->aN (IsSet P) J U->oo hs J->Q (.ref i) P):eR (Bp X) (ah (eR (Bo X) (ah ta aF)) aF) σ H Q:=by
 obtain⟨I,B,V⟩:=D9 a;have r:=x_ B;have L:∀x∈I,∃y∈hs,x.1=pL y:=λx d=>by
  have:x.1∈hs.map pL:=by rw[<- V];exact Se.mpr ⟨x,d,rfl⟩
  obtain⟨y,g,e⟩:=Se.mp this;exact⟨y,g,e.symm⟩
 refine h _ ⟨l,vs,I,rfl,C,B,by rwa[<- a.len],λb R Z v=>?_⟩;have S:=aw (o:=.ext λh=>SetAt X.w h b R) Z;refine⟨b,R,I,rfl,ac,v,λx d=>S _ _ (r x d),λx d z=>?_,λm nd hm=>?_,λi f j N=>?_⟩
 .obtain⟨y,_,e⟩:=L x d;rw[z]at e;cases e
 .have:∀k∈m,∃y:aD,y∈hs/\pL y=k:=λk s=>by obtain⟨x,d,e⟩:=hm k s;obtain⟨y,g,M⟩:=L x d;exact⟨y,g,M.symm.trans e⟩
  have t:∀m:List (List Int),(∀k∈m,∃y:aD,y∈hs/\pL y=k)->∃n:List aD,n.map pL=m/\∀y∈n,y∈hs:=λm=>by
   induction m with
   |nil=>exact λ_=>⟨[],rfl,λ_ h=>nomatch h⟩
   |cons c m u=>intro h;obtain⟨y,g,e⟩:=h c Sa;obtain⟨n,M,A⟩:=u λk s=>h k (Sf _ s);exact⟨y::n,by rw[SD,e,M],λz K=>(Sq.mp K).elim (λe=>e▸g) (A z)⟩
  obtain⟨n,e,A⟩:=t m this;subst e;rw[R9];exact Y n (List.Pairwise.of_map pL (λ_ _ h e=>h (by rw[e])) nd) A
 .have T:=S.trans (aw (o:=.lst (f.map λy=>.ref y.2)) j);have D:H i=none:=S.free j;have p:∀y∈f,y∈I:=N.sub;have ex:∃J:List aD,J.map pL=f.map (·.1)/\aN (IsSet (upd (upd H b (.ext λh=>SetAt X.w h b R)) i (.lst (f.map λy=>.ref y.2)))) J (f.map λy=>.ref y.2):=by
   generalize upd (upd H b (.ext λh=>SetAt X.w h b R)) i (.lst (f.map λy=>.ref y.2))=G at T;clear N j;induction f with
   |nil=>exact⟨[],rfl,.nil⟩
   |cons y f u=>obtain⟨J,O,M⟩:=u λz K=>p z (Sf _ K);obtain⟨z,_,q⟩:=L y (p y Sa);refine⟨z::J,by rw[SD,SD,O,q],.cons ⟨y.2,rfl,?_⟩ M⟩;have:=T _ _ (r y (p y Sa));rwa[q]at this
  obtain⟨J,O,M⟩:=ex;refine k i J _ _ T D ac M ⟨λx=>⟨λd=>?_,λd=>?_⟩,?_⟩
  .have:pL x∈f.map (·.1):=by rw[<- O];exact Se.mpr ⟨x,d,rfl⟩
   obtain⟨y,g,e⟩:=Se.mp this;obtain⟨z,K,q⟩:=L y (N.sub y g);rwa[Bq (e.symm.trans q)]
  .have:pL x∈I.map (·.1):=by rw[V];exact Se.mpr ⟨x,d,rfl⟩
   obtain⟨z,K,e⟩:=Se.mp this;obtain⟨y,g,q⟩:=N.all z K;have:pL x∈J.map pL:=by rw[O];exact Se.mpr ⟨y,g,q.trans e⟩
   obtain⟨w,E,F⟩:=Se.mp this;rwa[<- Bq F]
  .have:=N.pw;have W:(f.map (·.1)).Pairwise λx y=>d4 x y=true:=To.mpr this;rw[<- O]at W;exact(To.mp W).imp Oa
end
end L4
namespace L4
open L2 L3
def bK{a:Type}{R:aD->a}{k:aD}{p:a}:di R k p k=p:=Sg rfl
def cg{a:Type}{R:aD->a}{k u:aD}{p:a}(h:u≠k):di R k p u=R u:=Sj h
noncomputable def hI(a:List aD)(k:aD):List aD:=if k∈a then a else a++[k]
structure Gr{d:Type} (R:Hp->d->V->Prop) (B H:Hp) (a:Addr) (b:List aD) (F:aD->List d) (c:aD->Addr):Prop where
 s:Same B H
 r:H a=some (.dT (b.map λk=>(k2 k,.ref (c k))))
 na:B a=none
 v:∀k∈b,B (c k)=none/\∃e,H (c k)=some (.lst e)/\aN (R H) (F k) e
 i:∀k∈b,∀f∈b,c k=c f->k=f
 z:∀k,k∉b->F k=[]
def lu{b:Type}(R:Hp->b->V->Prop):Prop:=∀{H a:Hp},KT H a->∀x v,R H x v->R a x v
def Br(_:Hp)(x:Int)(v:V):Prop:=v=.int x
def j7:lu Br:=λ_ _ _ h=>h
def bo:lu IsSet:=λk _ _ ⟨p,e,h⟩=>⟨p,e,k _ _ h⟩
section
variable{α:Type}{R:Hp->α->V->Prop}{X:Cx}{K:WK}{B H H':Hp}{a q p:Addr}{ks:List aD}{F:aD->List α}{RA:aD->Addr}{D:Ends}{σ:L2.St}{k:aD}{vs ws:List V}{zs:List α}{Q:VK}{E:XK}
def d5:cp (ks.map λk=>(k2 k,V.ref (RA k))) (k2 k)=if k∈ks then some (.ref (RA k))else none:=by
 induction ks with
 |nil=>rfl
 |cons x r b=>
  rw[SD];by_cases h:x=k
  .rw[dk (by rw[h]),Sg (by rw[h];exact Sa),h]
  .rw[dm λz=>h (iI _ _ z),b];simp[Tp h]
theorem Gr.keep(h:Gr R B H a ks F RA)(d:lu R)(k:Kp c H H')(j:KT H H')(n:B c=none)(l:a≠c)(nl:∀b,H c≠some (.lst b)):Gr R B H' a ks F RA:=⟨(λb u e=>k _ _ (h.s _ _ e) λz=>by rw[z,n]at e;cases e),k _ _ h.r l,h.na,λf b=>let ⟨h1,vs,g,m⟩:=h.v f b;⟨h1,vs,k _ _ g (λz=>nl _ (z▸g)),m.mono (d j)⟩,h.i,h.z⟩
theorem Gr.more(h:Gr R B H a ks F RA)(c:lu R)(s:Same H H'):Gr R B H' a ks F RA:=⟨h.s.trans s,s _ _ h.r,h.na,λd b=>let ⟨h1,vs,e,f⟩:=h.v d b;⟨h1,vs,s _ _ e,f.mono (c (.of s))⟩,h.i,h.z⟩
theorem aN.app{b c:Type}{R:b->c->Prop}{f i:List b}{d zs:List c}(h:aN R f d)(g:aN R i zs):aN R (f++i) (d++zs):=by
 induction h with
 |nil=>exact g
 |cons a _ e=>exact .cons a e
def Gr.ext(h:Gr R B H a ks F RA)(m:lu R)(f:k∈ks)(d:H (RA k)=some (.lst vs))(o:aN (R H) zs ws):Gr R B (upd H (RA k) (.lst (vs++ws))) a ks (di F k (F k++zs)) RA:=by
 obtain⟨n,t,e,y⟩:=h.v k f;rw[d]at e;cases e;have x:KT H (upd H (RA k) (.lst (vs++ws))):=.upd d λ_ z=>(nomatch z);refine⟨λb u e=>?_,?_,h.na,λj c=>?_,h.i,λj c=>?_⟩
 .rw[ai λz=>by rw[z,n]at e;cases e];exact h.s _ _ e
 .rw[ai λz=>by rw[<- z,h.r]at d;cases d];exact h.r
 .obtain⟨w,A,e,g⟩:=h.v j c;refine⟨w,?_⟩;by_cases l:j=k
  .rw[l,bK];exact⟨_,ac,(y.app o).mono (m x)⟩
  .rw[cg l];exact⟨A,by rwa[ai λz=>l (h.i j c k f z)],g.mono (m x)⟩
 .rw[cg λz:j=k=>c (z▸f)];exact h.z j c
def Gr.new(h:Gr R B H a ks F RA)(w:lu R)(t:k∉ks)(f:H q=none):Gr R B (upd (upd H q (.lst [])) a (.dT ((ks.map λk=>(k2 k,V.ref (RA k)))++[(k2 k,.ref q)]))) a (ks++[k]) F (di RA k q):=by
 have m:a≠q:=ay h.r f;have y:Same H (upd H q (.lst [])):=aw f;have A:KT H (upd (upd H q (.lst [])) a (.dT ((ks.map λk=>(k2 k,V.ref (RA k)))++[(k2 k,.ref q)]))):=(KT.of y).trans (.upd (y _ _ h.r) λ_ z=>(nomatch z));have c:∀j∈ks,j≠k:=λj hj z=>t (z▸hj);have d:∀j∈ks,RA j≠q:=λj hj z=>by obtain⟨_,_,e,_⟩:=h.v j hj;rw[z,f]at e;cases e
 refine⟨λb u e=>?_,?_,h.na,λj hj=>?_,λj hj l n e=>?_,λj hj=>h.z j λz=>hj (SH _ z)⟩
 .rw[ai λz=>by rw[z,h.na]at e;cases e];exact y _ _ (h.s _ _ e)
 .rw[ac,SN];congr 3
  .exact SR λj hj=>by rw[cg (c j hj)]
  .show _=[(k2 k,V.ref (di RA k q k))];rw[bK]
 .rcases Sk.mp hj with hj|hj
  .rw[cg (c j hj)];obtain⟨x,C,e,o⟩:=h.v j hj;exact⟨x,C,by rw[ai λz=>by rw[z,h.r]at e;cases e];exact y _ _ e,o.mono (w A)⟩
  .rw[Sb]at hj;subst hj;rw[bK,h.z _ t];exact⟨h.s.free f,[],by rw[ai (Tp m),ac],.nil⟩
 .rcases Sk.mp hj with g|g<;>rcases Sk.mp n with g'|g'
  .rw[cg (c j g),cg (c l g')]at e;exact h.i j g l g' e
  .rw[Sb.mp g',cg (c j g),bK]at e;exact(d j g e).elim
  .rw[Sb.mp g,cg (c l g'),bK]at e;exact(d l g' e.symm).elim
  .rw[Sb.mp g,Sb.mp g']
def KZ(K:WK)(i:Nat)(b:TE):TE:=qc K "dict" qu (aj i) (ah b (ah (dR aF) aF))
theorem F5(h:Gr R B H a ks F RA)(l:lu R)(x:ks.length<15000000)(o:σ[i]?=some (some (.ref a)))(s:Makes tk σ H [.int k.1,.int k.2])
 (d:∀H' f,Kp a H H'->KT H H'->Gr R B H' a (hI ks k) F f->k∈hI ks k->Q (.ref (f k)) H'):KZ K i tk σ H Q:=by
 refine⟨_,o,.inr (.inr (.inl ⟨rfl,.inr ⟨_,h.r⟩⟩)),s _ λb y=>⟨Sw _,λq m=>?_⟩⟩;have v:Same H (upd H b (.tup [.int k.1,.int k.2])):=aw y;have g:=h.more l v;have j:upd H b (.tup [.int k.1,.int k.2]) b=some (.tup ((k2 k).map kV)):=ac;generalize upd H b (.tup [.int k.1,.int k.2])=w at v g j m;have t:Same w (upd w q (.lst [])):=aw m;refine⟨a,b,k2 k,.ref q,_,rfl,rfl,t _ _ j,.inl (t _ _ g.r),hG (by rwa[R9]),?_⟩;rw[d5];unfold hI at d;by_cases e:k∈ks
 .rw[Sg e]at d ⊢;exact .inl ⟨_,rfl,d _ _ (.of (v.trans t)) (.of (v.trans t)) (g.more l t) e⟩
 .rw[Sj e]at d ⊢;refine .inr ⟨rfl,?_⟩;rw[cI _ (by rw[d5,Sj e])];have:=d _ _ (λc u e n=>by rw[ai n];exact t _ _ (v _ _ e)) ((KT.of (v.trans t)).trans (.upd (t _ _ g.r) λ_ z=>(nomatch z))) (g.new l e m) (SK _ Sa);rwa[bK]at this
def K3(K:WK)(i m:Nat)(b:TE):TS:=b9 (qc K "list" cW (KZ K i b) (ah (aj m) aF))
theorem HW(h:Gr R B H a ks F RA)(g:lu R)(y:ks.length<15000000)(l:(F k).length<15000000)(o:σ[i]?=some (some (.ref a)))(A:σ[m]?=some (some v))(r:∀H',KT H H'->R H' z v)(s:Makes tk σ H [.int k.1,.int k.2])
 (t:∀H' d,(∀c u,H c=some u->c≠a->(∀b,u≠.lst b)->H' c=some u)->Gr R B H' a (hI ks k) (di F k (F k++[z])) d->D.nx σ H'):K3 K i m tk D σ H:=by
 refine F5 h g y o s λI d x C j f=>?_;obtain⟨J,vs,w,G⟩:=j.v k f;exact⟨.inl ⟨rfl,_,SqL.of w⟩,_,A,_,_,_,rfl,rfl,w,hG (by rwa[<- G.len]),t _ d (λc u e n nl=>by rw[ai (λz=>by rw[<- z,x _ _ e n]at w;cases w;exact nl _ rfl)];exact x _ _ e n) (j.ext g f w (.cons (r _ C) .nil))⟩
def Ob(K:WK)(i:Nat)(c b:TE):TS:=b9 (qc K "list" jT (KZ K i c) (ah b aF))
theorem vj(h:Gr R B H a ks F RA)(b:H q=none)(k:aD):∃p vs,(cp (ks.map λk=>(k2 k,V.ref (RA k))) (k2 k)).getD (.ref q)=.ref p/\upd H q (.lst []) p=some (.lst vs)/\aN (R H) (F k) vs:=by
 rw[d5];by_cases e:k∈ks
 .rw[Sg e];obtain⟨_,vs,c,d⟩:=h.v k e;exact⟨_,vs,rfl,aw b _ _ c,d⟩
 .rw[Sj e,h.z k e];exact⟨q,[],rfl,ac,.nil⟩
theorem isI:∀{l:List Int}{vs:List V},aN (Br H) l vs->vs=l.map .int:=by
 intro l vs h;induction h with
 |nil=>rfl
 |cons e _ b=>rw[SD,<- b,e]
def bF(F:aD->List Int)(r:Sp.Rule):List aD:=match r.2.2.2 with
 |[]=>[]
 |c::w=>match w with
  |[]=>[(r.2.2.1,c)]
  |d::_=>(r.2.2.1,c)::(F (r.2.2.1,c)).map λo=>(o,d)
theorem F6{cap:L2.St}{Z:Hp}{l:Addr}{ks:List Int}{te:TE}{ws:Int->List V}{Fin:Addr->List V->Hp->Prop}(h1:tN.length=1)(t:jz σ caps=cap)(O:∀cl C s A fp,PG (aV X scope (tN++capN) cl C s A fp) tg (aA 0))(P:∀cl C s A fp,PE (aV X scope (tN++capN) cl C s A fp) elt te)
 (G:∀x H',Same Z H'->Makes te (some (.int x)::cap) H' (ws x)) (S:Rd Z l (.lst (ks.map .int))) (hz:ks.length<15000000) (k:∀n vs H',Z n=none->Same Z H'->H' n=some (.lst vs)->aN (λx v=>∃p,v=.ref p/\H' p=some (.tup (ws x))) ks vs->Fin n vs H'):ce X scope tg tN capN caps elt [] σ Fin (yZ X.K l) Z:=by
 intro n I cl C s fp;refine⟨_,_,_,λi m b H'=>m=ks.length-i/\i<=ks.length/\aN (λx v=>∃p,v=.ref p/\H' p=some (.tup (ws x))) (ks.take i) b/\Same Z H'/\H' n=some (.lst b),O cl C s _ fp,dw,P cl C s _ fp,⟨ks.length,by simp,Sw _,.nil,aw I,ac⟩,?_⟩;rintro i m b H' ⟨rfl,U,w,sm,d⟩;have r:SqL X.K H' l (ks.map .int):=.inl (aU sm S);refine⟨d,?_⟩;by_cases f:i<ks.length
 .right;refine⟨⟨_,.int ks[i],r,by simp[f]⟩,λW g o y J=>?_⟩;obtain⟨rfl,y⟩:=y;have L:=y _ r;rw[Su,R_ f]at L;cases L;rw[h1]at J;obtain⟨Y,rfl⟩:=Ui.mp J;rw[t];refine⟨λj M=>?_,fK (G _ _ sm _ λp N=>?_)⟩
  .rw[h1]at M;obtain⟨j,rfl⟩:=Ti M;rfl
  .have np:n≠p:=ay d N;have s2:Same g (upd g p (.tup (ws ks[i]))):=aw N;have k3:KT g (upd (upd g p (.tup (ws ks[i]))) n (.lst (b++[.ref p]))):=(KT.of s2).trans (.upd (s2 _ _ d) λ_ z=>(nomatch z));refine⟨s2 _ _ d,hG ?_,ks.length-(i+1),by lia,rfl,f,?_,λc u e=>?_,ac⟩
   .rw[<- w.len,TC];lia
   .rw[Sv,R_ f];exact(w.mono λx v ⟨p,e,h⟩=>⟨p,e,k3 _ _ h⟩).snoc ⟨p,rfl,by rw[ai (Tp np),ac]⟩
   .rw[ai (ay e I)];exact s2 _ _ (sm _ _ e)
 .left;have T:i=ks.length:=by lia
  subst T;rw[SU]at w;exact⟨⟨_,r,by simp⟩,k n b H' I sm d w⟩
inductive Fu:Sp
 |mk {B H:Hp} {r:Sp.Rule} {c a:Addr} {ks:List aD} {F:aD->List Int} {RA:aD->Addr} {Q:VK} {E:XK} (hr:IsRule H r (.ref c)) (O:Gr Br B H a ks F RA) (hz:∀k,(F k).length<1000000) (k:∀l vs H',Same H H'->H l=none->H' l=some (.lst vs)->aN (IsSet H') (bF F r) vs->Q (.ref l) H'):Fu [.ref c,.ref a] H Q E
def K4(K:WK):TE:=cm (ah (aj 0) (ah (tI K 1 1) aF))
def K5(X:Cx)(c:Scope)(f b:Expr)(g d:List Str)(e:List Nat):TE:=iD X c f g d e b [] (bZ X.K (cu (aj 1) (aj 3) (dR aF)))
def Oc(X:Cx)(b:TE):TS:=b5 (ba GV (dR (ah (aj 3) aF)) b)
def Od(X:Cx)(b:TE):TS:=aI (dQ (bO (ba pX (eR (gq X.K) (ah (aj 2) aF)) (tC (.int 1)))) (b5 (dR (ah (aj 3) aF))) ck) (Oc X b)
def Oe(X:Cx)(b:TE):TS:=aI (dQ (bO (ba pX (eR (gq X.K) (ah (aj 2) aF)) (tC (.int 0)))) (b5 (dR aF)) ck) (aI (aT (cm (ah (tI X.K 0 2) (ah (tI X.K 2 0) aF))) (aA 3)) (Od X b))
def QB(X:Cx)(c:Scope)(f b:Expr)(g d:List Str)(e:List Nat):TS:=aI (aT (tI X.K 0 3) (aA 2)) (Oe X (K5 X c f b g d e))
theorem D_{scope:Scope}{tg A:Expr}{tN capN:List Str}{caps:List Nat}{vs:List V}{Q:VK}{E:XK}(h1:tN.length=1)(U:caps=[2])(W:∀cl C f J fp,PG (aV X scope (tN++capN) cl C f J fp) tg (aA 0))(Y:∀cl C f J fp,PE (aV X scope (tN++capN) cl C f J fp) A (K4 X.K))(h:Fu vs H Q E) :
 QB X scope tg A tN capN caps (eQ Q) (aZ (nS 4) vs) H:=by
 obtain @⟨B,H,r,c,a,ks,F,RA,Q,E,⟨_,q,ec,hr,hq⟩,O,hz,k⟩:=h;cases ec;obtain⟨r0,r1,m,w⟩:=r;dsimp only at hr hq;have d:(((w.map V.int).length:Nat):Int)=w.length:=by simp
 refine Reads.ix (.va (i:=0) rfl) hr (v:=.ref q) rfl _ ?_;refine g7 (.xn (.len (.va rfl) hq) .k) (λh=>?_) λh=>?_
 .have Z:w=[]:=by have:=SO h;rw[d]at this;exact S6.mp (by lia)
  subst Z;exact⟨Sw _,λl d=>k l [] _ (aw d) d ac .nil⟩
 .have n0:¬w.length=0:=λz=>h (Sz (by rw[d,z];rfl));obtain⟨x,w,rfl⟩ : ∃x u,w=x::u:=by
   cases w with
   |nil=>exact(n0 rfl).elim
   |cons x u=>exact⟨x,u,rfl⟩
  delta ck aI aT
  dsimp only;refine lI (ws:=[.int m,.int x]) (.c (.ix (.va rfl) hr rfl) (.c (.ix (.va rfl) hq (cD (j:=0) rfl)) .ni)) rfl λb hb=>?_;have s1:Same H (upd H b (.tup [.int m,.int x])):=aw hb;have g:upd H b (.tup [.int m,.int x]) b=some (.tup [.int m,.int x]):=ac;have P:=O.more j7 s1;generalize upd H b (.tup [.int m,.int x])=H1 at s1 g P;refine g7 (.xn (.len (.va rfl) (s1 _ _ hq)) .k) (λh=>?_) λh=>?_
  .have e1:w=[]:=by have:=SO h;rw[d]at this;exact S6.mp (by simp at this;lia)
   subst e1;refine⟨_,rfl,TY (hG (by show 1<15000000;decide)),λl d=>?_⟩;have s2:=aw (o:=.lst [.ref b]) d;exact k l _ _ (s1.trans s2) (s1.free d) ac (.cons ⟨b,rfl,s2 _ _ g⟩ .nil)
  .have n1:¬w.length=0:=λz=>h (Sz (by rw[d,SG,z];rfl));obtain⟨y,w,rfl⟩ : ∃x u,w=x::u:=by
    cases w with
    |nil=>exact(n1 rfl).elim
    |cons x u=>exact⟨x,u,rfl⟩
   refine⟨_,rfl,TY (hG (by show 1<15000000;decide)),λl0 L=>?_⟩;have s2:=aw (o:=.lst [.ref b]) L;have h0:upd H1 l0 (.lst [.ref b]) l0=some (.lst [.ref b]):=ac;have I:=P.more j7 s2;generalize upd H1 l0 (.lst [.ref b])=H2 at s2 h0 I
   delta K5 iD bZ cu
   dsimp only;refine⟨_,rfl,a,rfl,.inr ⟨_,.inl I.r⟩,_,rfl,Sw _,λq2 G=>?_⟩;have f:=aw (o:=.lst []) G;refine⟨_,DGet.t (k:=k2 (m,x)) (f _ _ I.r) (f _ _ (s2 _ _ g)),?_⟩;obtain⟨p,ov,e1,e2,e3⟩:=vj I G (m,x);rw[isI e3]at e2;have hz:=hz (m,x);rw[e1];have n:=(s1.trans s2).trans f;refine⟨p,rfl,⟨_,SqL.of e2⟩,F6 (te:=K4 X.K) (ws:=λu=>[.int u,.int y]) (cap:=[some (.ref q)]) (caps:=caps) h1 (by rw[U];rfl) W Y (λu S s=>.t (.c (.va rfl) (.c (.ix (.va rfl) (s _ _ (n _ _ hq)) (cD (j:=1) rfl)) .ni)) rfl) (.inl e2) (by lia) λDl vs S hD s M al=>?_⟩;refine⟨l0,Dl,_,_,rfl,rfl,s _ _ (f _ _ h0),M,TY (hG (by rw[<- al.len];simp;lia)),λl d=>?_⟩;have N:=aw (o:=.lst ([.ref b]++vs)) d;have sa:=(n.trans s).trans N;refine k l _ _ sa ((n.trans s).free d) ac (.cons ⟨b,rfl,N _ _ (s _ _ (f _ _ (s2 _ _ g)))⟩ ?_);have:=al.Cz (T:=IsSet (upd S l (.lst ([.ref b]++vs)))) (λu=>(u,y)) id λu v ⟨p,e,hp⟩=>⟨p,e,N _ _ hp⟩;rwa[List.map_id]at this
end
section
variable{H H':Hp}{a q p d:Addr}{As:List Sp.Arr}{t:List (List bc×V)}{Q:VK}
theorem vk(h:Is H' (nl H H') (.FD (As.map λa=>.inr (ak a)) ds) v):∃d t u,v=.ref d/\H d=none/\H' d=some u/\(u=.dT t\/(u=.dK []/\t=[]))/\t.map (·.1)=As.map ak:=by
 obtain⟨d,r,rfl,⟨m,c,f⟩,all⟩:=h;have b:∀o u,H' d≠some (.bv o u):=λo u z=>by obtain⟨j,q,g⟩:=f;rw[z]at q;cases q;exact g
 rcases m with⟨t,e|⟨o,e⟩,h1,n⟩|⟨t,e|⟨o,e⟩,h1,n⟩
 .have i:As=[]:=by
   cases As with
   |nil=>rfl
   |cons x l=>cases t with
    |nil=>cases h1
    |cons y t=>rw[SD,SD]at h1;injection h1 with h1;cases h1
  subst i;have:t=[]:=by cases t with
   |nil=>rfl
   |cons _ _=>cases h1
  subst this;exact⟨d,[],_,rfl,c,e,.inr ⟨rfl,rfl⟩,rfl⟩
 .exact(b _ _ e).elim
 .refine⟨d,t,_,rfl,c,e,.inl rfl,?_⟩;have:=T_ (List.map λk:DK=>match k with|.inr a=>a|.inl _=>[]) h1;rw[Tg,Tg]at this;exact this.symm
 .exact(b _ _ e).elim
noncomputable def aX(As:List Sp.Arr)(k:aD):List Int:=(As.filter λb=>decide ((b.1,b.2.1)=k)).map (·.2.2)
theorem tH(As:List Sp.Arr)(b:Sp.Arr):aX (As++[b])=di (aX As) (b.1,b.2.1) (aX As (b.1,b.2.1)++[b.2.2]):=by
 funext k;unfold aX di;by_cases h:k=(b.1,b.2.1)
 .rw[Sg h,h,Tt];simp
 .rw[Sj h,Tt];simp[Tp h]
theorem nM(As:List Sp.Arr)(k:aD):(aX As k).length<=As.length:=by unfold aX;rw[R9];exact TZ ..
def nN(b:List aD)(k:aD):(hI b k).length<=b.length+1:=by unfold hI;split<;>simp
def M4(c:Sp)(H:Hp)(f:V)(As:List Sp.Arr):Prop:=∀e,Same H e->∀Q:VK,(∀d t u b,Same e b->e d=none->b d=some u->(u=.dT t\/(u=.dK []/\t=[]))->t.map (·.1)=As.map ak->Q (.ref d) b)->c [f] e Q E0
inductive Ft(sP:Sp):Sp
 |mk {H:Hp} {v0:V} {As:List Sp.Arr} {Q:VK} {E:XK} (hP:M4 sP H v0 As) (hz:As.length<1000000) (k:∀a ks RA H',Gr Br H H' a ks (aX As) RA->Q (.ref a) H'):Ft sP [v0] H Q E
def Of(i j:Nat):TE:=cm (ah (aj i) (ah (aj j) aF))
def QC(X:Cx)(b:Sp):TS:=aI (aT dY (aA 1)) (aI (λD c H=>cU (wO X (bj b [] E0 (ah (aj 0) aF))) (c9 X.K 3 (aR (aA 2) (aR (aA 3) (aR (aA 4) cZ)))) (K3 X.K 1 4 (Of 2 3)) (Aa X D) c H) (b5 (aj 1)))
theorem Ea(h:Ft sP vs H Q E):QC X sP (eQ Q) (aZ (nS 5) vs) H:=by
 obtain @⟨H,v0,As,Q,E,hP,hz,k⟩:=h;intro a ha;have Z:Same H (upd H a (.dT [])):=aw ha;have I:Gr Br H (upd H a (.dT [])) a [] (aX []) (λ_=>0):=⟨Z,ac,ha,λk h=>(nomatch h),λk h=>(nomatch h),λk h=>rfl⟩;refine⟨_,rfl,hP _ Z _ λd t u v s2 n2 e2 A B=>?_⟩;have g:a≠d:=λz=>by rw[<- z,ac]at n2;cases n2
 have nd:H d=none:=Z.free n2;have m:mP u:=by rcases A with rfl|⟨rfl,_⟩<;>exact ⟨⟩
 have r:∀b,v d≠some (.lst b):=λb z=>by rw[e2]at z;cases z;exact m
 refine⟨d,t,u,rfl,A,e2,λo J=>?_⟩;have K:Gr Br H (upd v d (.bv o u)) a [] (aX []) (λ_=>0):=(I.more j7 s2).keep j7 (λc w e n=>by rwa[ai n]) (.upd e2 λws z=>by subst z;exact m) nd g r;refine iJ (n:=t.length) (λi f H'=>(∃x y z,f=[some v0,some (.ref a),x,y,z])/\H' d=some (.bv o u)/\∃W Y,W.length<=i/\Gr Br H H' a W (aX (As.take i)) Y) ⟨⟨none,none,none,rfl⟩,ac,[],_,R7 _,K⟩ (λi f H' p C=>⟨p.2.1,C⟩) (λf H' p=>⟨p.2.1,R7 _⟩) (λi f H' x L R C p y M=>?_) λf H' p=>?_
 .obtain⟨⟨N,x3,x4,rfl⟩,j,W,Y,S,G⟩:=p;obtain⟨rfl,b,O,T,e1,rfl,hb⟩:=y;have D:(As.map ak)[i]?=some O:=by rw[<- B,Su,e1];rfl
  rw[Su]at D;obtain⟨V,l,rfl⟩:=Tf.mp D;have P:=(Si.mp l).1;rw[NQ]at hb;refine PH hb (HW (k:=(V.1,V.2.1)) (z:=V.2.2) G j7 (by lia) (by have:=nM (As.take i) (V.1,V.2.1);rw[TC]at this;lia) rfl rfl (λ_ _=>rfl) (.t (.c (.va rfl) (.c (.va rfl) .ni)) rfl) λU s fr F=>M _ _ ⟨⟨_,_,_,rfl⟩,fr _ _ j (Tp g) (λb z=>(nomatch z)),hI W (V.1,V.2.1),s,?_,?_⟩)
  .have:=nN W (V.1,V.2.1);lia
  .rw[Sv,l];rwa[<- tH]at F
 .obtain⟨⟨N,x3,x4,rfl⟩,j,W,Y,_,G⟩:=p;have el:t.length=As.length:=by have:=T_ List.length B;simpa using this
  rw[el,SU]at G;exact .inr ⟨d,o,u,j,m,J,_,rfl,k a W Y _ (G.keep j7 (c:=d) (λc w e n=>by rwa[ai n]) (.upd j λws z=>(nomatch z)) nd g λb z=>by rw[j]at z;cases z)⟩
end
noncomputable def hd(r:Sp.Rule):aD:=(r.1,r.2.1)
def dE(f:Sp.Rule->List aD)(a:List Sp.Rule)(k:aD):List aD:=(a.filter λr=>decide (hd r=k)).flatMap f
def bR(a:List Sp.Rule):List aD:=a.foldl (λb r=>hI b (hd r)) []
def vm(f:Sp.Rule->List aD)(a:List Sp.Rule)(r:Sp.Rule):dE f (a++[r])=di (dE f a) (hd r) (dE f a (hd r)++f r):=by
 funext k;unfold dE di;by_cases h:k=hd r
 .rw[Sg h,h,Tt,UI];simp
 .rw[Sj h,Tt];simp[Tp h]
def Eb(h:ks.Nodup):(hI ks k).Nodup:=by
 unfold hI;split
 .exact h
 .rename_i n;rw[SX];exact⟨h,by simp,λa d b c e=>by rw[Sb]at c;exact n (c▸e▸d)⟩
def Bs:x∈hI ks k↔x∈ks\/x=k:=by
 unfold hI;split
 .exact⟨.inl,λh=>h.elim id λe=>e▸‹_›⟩
 .simp
def j8(a:List Sp.Rule)(r:Sp.Rule):bR (a++[r])=hI (bR a) (hd r):=by unfold bR;rw[Ur];rfl
def nO(i:List Sp.Rule):(bR i).Nodup/\(bR i).length<=i.length/\∀x,x∈bR i↔∃r∈i,hd r=x:=by
 have d:∀(n:Nat)(i:List Sp.Rule),i.length=n->(bR i).Nodup/\(bR i).length<=i.length/\∀x,x∈bR i↔∃r∈i,hd r=x:=λn=>by
  induction n with
  |zero=>intro i h;cases S6.mp h;exact⟨.nil,R7 _,λx=>⟨λh=>(nomatch h),λ⟨_,h,_⟩=>(nomatch h)⟩⟩
  |succ n f=>
   intro i h;obtain⟨L,r,rfl⟩ : ∃L r,i=L++[r]:=⟨i.dropLast,i.getLast (by intro z;subst z;cases h),(UB _).symm⟩;rw[Sm,SY]at h;obtain⟨a,b,c⟩:=f L (by lia);rw[j8];refine⟨Eb a,SE (nN ..) (by simp;lia),λx=>?_⟩;rw[Bs,c];constructor
   .rintro (⟨r,g,e⟩|e)
    .exact⟨r,SH _ g,e⟩
    .exact⟨r,by simp,e.symm⟩
   .rintro⟨q,hq,e⟩;rcases Sk.mp hq with hq|hq
    .exact .inl ⟨q,hq,e⟩
    .rw[Sb]at hq;exact .inr (by rw[<- e,hq])
 exact d _ i rfl
section
variable{X:Cx}{K:WK}{B B0 H H':Hp}{a a2 q p d c:Addr}{ks a0:List aD}{F:aD->List Int}{G:aD->List aD}{RA a4 LA:aD->Addr}{σ:L2.St}{Q:VK}{E:XK}{D:Ends}{r:Sp.Rule}
def K6(K:WK):TS:=Ob K 2 (bj oq [] E0 (ah (aj 3) aF)) (bj Fu [] E0 (ah (aj 3) (ah (aj 1) aF)))
theorem QD(g:Gr IsSet B H a2 a0 G a4)(O:Gr Br B0 B a ks F RA)(j:IsRule B r (.ref c))(m:∀k,(F k).length<1000)(h1:a0.length<1000)(L:(G (hd r)).length<1000000)(A:σ=[x0,some (.ref a),some (.ref a2),some (.ref c)])
 (k:∀H' b,Gr IsSet B H' a2 (hI a0 (hd r)) (di G (hd r) (G (hd r)++bF F r)) b->D.nx σ H'):K6 K D σ H:=by
 subst A;refine F5 (k:=hd r) g bo (by lia) rfl (λo q=>?_) λM b N P h f=>?_
 .obtain⟨_,u,e,n,_⟩:=IsRule.keep (.of g.s) _ _ j;cases e;exact⟨_,rfl,.mk n q⟩
 .obtain⟨R,C,y,I⟩:=h.v _ f;refine⟨.inl ⟨rfl,_,SqL.of y⟩,_,rfl,_,rfl,.mk (IsRule.keep (.of h.s) _ _ j) (O.more j7 h.s) (λk=>by have:=m k;lia) λl J t z w i al2=>?_⟩;have S:(bF F r).length<=1001:=by
   unfold bF;split
   .exact Sw _
   .split
    .exact Nat.le_of_ble_eq_true rfl
    .rename_i x _ _ _ _;have:=m (r.2.2.1,x);rw[SG,R9];lia
  refine⟨_,l,C,J,rfl,rfl,z _ _ y,i,TY (hG ?_),k _ b ((h.more bo z).ext bo f (z _ _ y) al2)⟩;rw[<- I.len,<- al2.len];lia
structure Hw(f H':Hp) (g:Addr) (G Z:aD->List aD) (LA:aD->Addr) (k:aD) (v:V):Prop where
 t:∃p b,v=.ref p/\H' p=some (.tup [.ref b,.ref (LA k)])/\H' b=some (.tup ((k2 k).map kV))
 n:f (LA k)=none
 d:LA k≠g
 l:∃e,H' (LA k)=some (.lst e)/\aN (IsSet H') (Z k) e
 s:oo (G k) (Z k)
theorem aN.imp{k b:Type}{R l:k->b->Prop}{j:List k}{e:List b}(h:aN R j e)(f:∀x∈j,∀y,R x y->l x y):aN l j e:=by
 induction h with
 |nil=>exact .nil
 |cons a _ g=>exact .cons (f _ Sa _ a) (g λx i=>f x (Sf _ i))
theorem aN.mem{j b:Type}{R:j->b->Prop}{k:List j}{g:List b}(h:aN R k g){x:j}(f:x∈k):∃y,R x y:=by
 induction h with
 |nil=>exact(nomatch f)
 |cons a _ i=>exact(Sq.mp f).elim (λe=>⟨_,e▸a⟩) i
def HX(X:Cx):TE:=cm (ah (aj 0) (ah (eR (Bp X) (ah (eR (Bo X) (ah (aj 1) aF)) aF)) aF))
theorem K7{Fin:Addr->List V->Hp->Prop}(h1:tN.length=2)(hg:∀cl C U L fp,PG (aV X scope (tN++[]) cl C U L fp) tg (c9 X.K 2 (aR (aA 0) (aR (aA 1) cZ))))(he:∀cl C U L fp,PE (aV X scope (tN++[]) cl C U L fp) elt (HX X))
 (nd:a0.Nodup) (hz:a0.length<1000) (hf:H1 a2=some (.bv o u)) (hv:∀k∈a0,∃vs,H1 (a4 k)=some (.lst vs)/\aN (IsSet H1) (G k) vs) (eL:∀k,(G k).length<=300/\∀m:List aD,m.Nodup->(∀x∈m,x∈G k)->m.length<=63)
 (k:∀f vs H' LA Z,H1 f=none->Same H1 H'->H' f=some (.lst vs)->aN (Hw H1 H' f G Z LA) a0 vs->(∀k∈a0,∀M∈a0,LA k=LA M->k=M)->Fin f vs H'):ce X scope tg tN [] [] elt [] σ Fin (J8 a2 o u (a0.map λk=>(k2 k,.ref (a4 k)))) H1:=by
 intro f hD cl C U fp;refine⟨_,_,_,λi m s H'=>m=a0.length-i/\i<=a0.length/\∃LA Z,aN (Hw H1 H' f G Z LA) (a0.take i) s/\Same H1 H'/\H' f=some (.lst s)/\∀k∈a0.take i,∀M∈a0.take i,LA k=LA M->k=M,hg cl C U _ fp,dw,he cl C U _ fp,⟨a0.length,by simp,Sw _,λ_=>0,λ_=>[],.nil,aw hD,ac,λk h=>(nomatch h)⟩,?_⟩;rintro i m s H' ⟨rfl,hi,LA,Z,A,sm,I,inj⟩;refine⟨I,?_⟩;by_cases R:i<a0.length
 .right;have W:a0[i]?=some a0[i]:=R_ R;refine⟨⟨sm _ _ hf,by rw[R9];exact R⟩,λxv H'' ol y ho=>?_⟩;obtain⟨p,b,kk,v,hp,rfl,hb,rfl,e⟩:=y;rw[Su,W]at e;generalize a0[i]=ki at W e;cases e;rw[h1]at ho;obtain⟨u0,u1,rfl⟩ : ∃x y,ol=[x,y]:=by
   match ol,ho with
   |[x,y],_=>exact⟨x,y,rfl⟩
  have hki:ki∈a0:=SB W;have Y:ki∉a0.take i:=λz=>by
   obtain⟨j,O⟩:=SC.mp z;rw[List.getElem?_take]at O;split at O
   .rename_i hji;have:=(V7 (Si.mp O).1 nd).mp (O.trans W.symm);lia
   .cases O
  have s2:Same H' (upd H' p (.tup [.ref b,.ref (a4 ki)])):=aw hp;refine wD ac ⟨λj O=>?_,fK ⟨_,rfl,?_⟩⟩
  .rw[h1]at O;obtain⟨j,rfl⟩:=Ti O;rfl
  obtain⟨vs,hl,al⟩:=hv ki hki;have sm2:=sm.trans s2;refine KY (X:=X) (.va rfl) (.inl (sm2 _ _ hl)) (al.mono (bo (.of sm2))) (eL ki).1 (eL ki).2 λP ms ws L s3' t hl' al' so=>⟨by show 2<=_;rw[SQ];lia,λp2 N=>?_⟩;have s4:Same L (upd L p2 (.tup [.ref b,.ref P])):=aw N;have J:=(s2.trans s3').trans s4;have hD4:=J _ _ I;have nl1:H1 P=none:=sm.free (s2.free t);have npD:p2≠f:=λz=>by rw[z]at N;rw[(s2.trans s3') _ _ I]at N;cases N
  have nlD:P≠f:=λz=>by rw[z]at t;rw[s2 _ _ I]at t;cases t
  refine⟨hD4,hG (by rw[<- A.len,TC];lia),a0.length-(i+1),by lia,rfl,R,di LA ki P,di Z ki ms,?_,?_,ac,?_⟩
  .rw[Sv,W];have up:∀{c u},H' c=some u->c≠f->upd (upd L p2 (.tup [.ref b,.ref P])) f (.lst (s++[.ref p2])) c=some u:=λe n=>by rw[ai n];exact J _ _ e
   have kt:KT (upd L p2 (.tup [.ref b,.ref P])) (upd (upd L p2 (.tup [.ref b,.ref P])) f (.lst (s++[.ref p2]))):=.upd hD4 λ_ z=>(nomatch z);refine(A.imp λk S v h=>?_).snoc ?_
   .have ne:k≠ki:=λz=>Y (z▸S);obtain⟨⟨p,b',e,t1,t2⟩,n,dd,⟨ws',l1,l2⟩,so'⟩:=h;have T:KT H' _:=(KT.of J).trans kt;refine⟨⟨p,b',e,?_,T _ _ t2⟩,?_,?_,⟨ws',?_,?_⟩,?_⟩
    .rw[cg ne];exact T _ _ t1
    .rwa[cg ne]
    .rw[cg ne];exact dd
    .rw[cg ne];exact up l1 dd
    .rw[cg ne];exact l2.mono (bo T)
    .rwa[cg ne]
   .refine⟨⟨p2,b,rfl,?_,kt _ _ (J _ _ hb)⟩,?_,?_,⟨ws,?_,?_⟩,?_⟩
    .rw[bK,ai npD,ac]
    .rwa[bK]
    .rwa[bK]
    .rw[bK,ai nlD];exact s4 _ _ hl'
    .rw[bK];exact al'.mono (bo ((KT.of s4).trans kt))
    .rwa[bK]
  .intro c w e;rw[ai (ay e hD)];exact J _ _ (sm _ _ e)
  .have old:∀k∈a0.take i,LA k≠P:=λk S z=>by obtain⟨v,h⟩:=A.mem S;obtain⟨ws',l1,_⟩:=h.l;rw[z]at l1;rw[s2 _ _ l1]at t;cases t
   have mm:∀k,k∈a0.take (i+1)->k∈a0.take i\/k=ki:=λk h=>by rw[Sv,W]at h;exact(Sk.mp h).imp id λh=>Sb.mp h
   have ne:∀{k},k∈a0.take i->k≠ki:=λh z=>Y (z▸h);intro k h M h' e;rcases mm k h with g|g<;>rcases mm M h' with g'|g'
   .rw[cg (ne g),cg (ne g')]at e;exact inj k g M g' e
   .rw[g',cg (ne g),bK]at e;exact(old k g e).elim
   .rw[g,cg (ne g'),bK]at e;exact(old M g' e.symm).elim
   .rw[g,g']
 .left;have ei:i=a0.length:=by lia
  subst ei;rw[SU]at A inj;exact⟨⟨sm _ _ hf,by rw[R9];exact R7 _⟩,k f s H' LA Z hD sm I A inj⟩
theorem Bt:∀(ks b:List aD),(b++ks).Nodup->dZ (b.map λk=>(k2 k,V.ref (LA k))) (ks.map λk=>(k2 k,V.ref (LA k)))=(b++ks).map λk=>(k2 k,V.ref (LA k)):=by
 intro ks;induction ks with
 |nil=>intro b _;rw[Tj];rfl
 |cons k ks e=>intro b f;have g:k∉b:=λz=>(SX.mp f).2.2 k z k Sa rfl;have:=e (b++[k]) (by rwa[SV]);rw[SV,SN]at this;show dZ (bG _ (k2 k) (.ref (LA k))) _=_;rwa[cI _ (by rw[d5,Sj g])]
def jF:List V->Hp->VK->Prop:=λf H Q=>∃l e b,f=[.ref l]/\Rd H l (.lst e)/\i7 H e b/\∀p,H p=none->Q (.ref p) (upd H p (.dT (dZ [] b)))
def gF(b:X.calm=true)(e:X.A.units+64<cLine):bJ X (.type "dict") jF:=uI b e
structure Qh(H H':Hp) (d:Addr) (b:List Sp.Rule) (L Z:aD->List aD) (LA:aD->Addr):Prop where
 g:Gr IsSet H H' d (bR b) Z LA
 s:∀k,oo (L k) (Z k)
def K8(L:aD->List aD):Prop:=∀k,(L k).length<=300/\∀m:List aD,m.Nodup->(∀x∈m,x∈L k)->m.length<=63
inductive Fi:Sp
 |mk {B H:Hp} {RL:List Sp.Rule} {p l a:Addr} {ws:List V} {ks:List aD} {F:aD->List Int} {RA:aD->Addr} {Q:VK} {E:XK} (h:cY H RL p l ws) (O:Gr Br B H a ks F RA) (hz:∀k,(F k).length<1000) (hl:RL.length<1000) (eL:K8 (dE (bF F) RL)) (k:∀d Z LA H',Qh H H' d RL (dE (bF F) RL) Z LA->Q (.ref d) H'):Fi [.ref p,.ref a] H Q E
def K9(X:Cx)(e:Scope)(f b:Expr)(g:List Str):TS:=b5 (eR jF (ah (iD X e f g [] [] b [] (AB X (aj 2))) aF))
def QE(X:Cx)(e:Scope)(f b:Expr)(g:List Str):TS:=aI (aT dY (aA 2)) (aI (cU (bZ X.K (tI X.K 0 2)) (aA 3) (K6 X.K)) (K9 X e f b g))
def yD:(dE f (RL.take i) k).length<=(dE f RL k).length:=by
 have:dE f RL k=dE f (RL.take i) k++dE f (RL.drop i) k:=by unfold dE;rw[<- UI,<- Tt,T2]
 rw[this,Sm];lia
theorem Bu(i:aN (Hw H1 H' Dl G Z LA) ks vs):i7 H' vs (ks.map λk=>(k2 k,V.ref (LA k))):=by
 induction i with
 |nil=>exact .nil
 |cons h _ f=>obtain⟨p,b,e,g,j⟩:=h.t;exact .cons ⟨p,b,e,g,j⟩ f
def K_(h1:tN.length=2)(w:∀P C f i R,PG (aV X scope (tN++[]) P C f i R) tg (c9 X.K 2 (aR (aA 0) (aR (aA 1) cZ))))(x:∀P C f i R,PE (aV X scope (tN++[]) P C f i R) elt (HX X))(g:Gr IsSet B H a2 (bR RL) G a4)(L:RL.length<1000)(Y:K8 G)(hs:σ[2]?=some (some (.ref a2)))
 (k:∀d Z LA H',Qh B H' d RL G Z LA->D.rt (.ref d) H'):K9 X scope tg elt tN D σ H:=by
 obtain⟨W,ln,_⟩:=nO RL;refine⟨_,hs,a2,_,_,rfl,.inl rfl,.inr ⟨g.r,λo M=>?_⟩⟩;have kt:KT H (upd H a2 (.bv o (.dT ((bR RL).map λk=>(k2 k,V.ref (a4 k)))))):=.upd g.r λ_ z=>(nomatch z);refine K7 h1 w x W (by lia) ac (λk b=>?_) Y λy S H' LA Z N sm j O T=>?_
 .obtain⟨_,S,e,O⟩:=g.v k b;exact⟨S,by rwa[ai λz=>by rw[z,g.r]at e;cases e],O.mono (bo kt)⟩
 .refine⟨y,S,(bR RL).map λk=>(k2 k,.ref (LA k)),rfl,.inl j,?_,λd hd=>?_⟩
  .exact Bu O
  .have U:Same H' (upd H' d (.dT ((bR RL).map λk=>(k2 k,.ref (LA k))))):=aw hd;have m:Same B H':=λc u e=>sm _ _ (by rw[ai λz=>by rw[z,g.na]at e;cases e];exact g.s _ _ e);have t:=Bt (LA:=LA) (bR RL) [] W;rw[UL,Vo]at t;rw[t];refine k d (λk=>if k∈bR RL then Z k else []) LA _ ⟨⟨m.trans U,ac,m.free hd,λk b=>?_,T,λk b=>Sj b⟩,λk=>?_⟩
   .obtain⟨v,h⟩:=O.mem b;obtain⟨ws,A,I⟩:=h.l;rw[Sg b];have J:B (LA k)=none:=by
     cases e:B (LA k)with
     |none=>rfl
     |some u=>have:=h.n;rw[ai λz=>by rw[z,g.na]at e;cases e]at this;rw[g.s _ _ e]at this;cases this
    exact⟨J,ws,U _ _ A,I.mono (bo (.of U))⟩
   .by_cases b:k∈bR RL
    .obtain⟨v,h⟩:=O.mem b;rw[Sg b];exact h.s
    .rw[Sj b,g.z k b];exact⟨λ_=>Iff.rfl,.nil⟩
theorem Ec(h1:tN.length=2)(n:∀R C e j S,PG (aV X scope (tN++[]) R C e j S) tg (c9 X.K 2 (aR (aA 0) (aR (aA 1) cZ))))(o:∀R C e j S,PE (aV X scope (tN++[]) R C e j S) elt (HX X))(h:Fi vs H Q E):QE X scope tg elt tN (eQ Q) (aZ (nS 4) vs) H:=by
 obtain @⟨B,H,RL,p,l,a,ws,ks,F,RA,Q,E,h,O,hz,hl,eL,k⟩:=h;intro a2 U;have T:Same H (upd H a2 (.dT [])):=aw U;obtain⟨J,L,t⟩:=(h.same T).tup;have u:Gr IsSet H (upd H a2 (.dT [])) a2 [] (dE (bF F) []) (λ_=>0):=⟨T,ac,U,λk h=>(nomatch h),λk h=>(nomatch h),λk h=>rfl⟩;refine cO (Reads.ix (.va (i:=0) rfl) t (v:=.ref l) rfl _ ⟨l,rfl,⟨ws,.inl (aU T h.lst)⟩,?_⟩);refine cc (K:=X.K) (a:=l) (xs:=ws) (λi b H'=>(∃x,b=[some (.ref p),some (.ref a),some (.ref a2),x])/\∃a4,Gr IsSet H H' a2 (bR (RL.take i)) (dE (bF F) (RL.take i)) a4) ⟨⟨none,rfl⟩,_,u⟩ (λi b H' _ q=>?_) (λi v b H' w q=>?_) λb H' q=>?_
 .obtain⟨_,a4,g⟩:=q;exact .inl (aU g.s h.lst)
 .obtain⟨⟨x,rfl⟩,a4,g⟩:=q;obtain⟨r,y,z⟩:=h.its.get w;obtain⟨c,q,rfl,A,I⟩:=z;have M:=(nO (RL.take i)).2.1;have N:=S_ i RL;refine QD (x0:=some (.ref p)) g O ⟨c,q,rfl,A,I⟩ hz (by lia) (by have:=(eL (hd r)).1;have:=yD (f:=bF F) (RL:=RL) (i:=i) (k:=hd r);lia) rfl λP m g2=>⟨⟨_,rfl⟩,m,?_⟩;rw[<- j8,<- vm]at g2;rw[Sv,y];exact g2
 .obtain⟨⟨x,rfl⟩,a4,g⟩:=q;rw[<- h.its.len,SU]at g;exact K_ h1 n o g hl eL rfl k
end
end L4
namespace L2
open PySem.Calls ST
section
def RawD.at(m:RawD h d es ep)(k:∀o,h.get? d=some o->h'.get? d=some o):RawD h' d es ep:=let ⟨o,e,c⟩:=m;⟨o,k o e,c⟩
def yE(hh:A.handled=none)(hne:d≠I):Walks prog w A I [I,d] [I] es.size (λi v=>∃e,es[i]?=some e/\v=e.key) (λi h=>h.IsKeyIter I d i es.size ep/\RawD h d es ep) where
 sub:=λb hb=>by simp at hb;simp[hb]
 frame:=λ_ _ _ st hk=>⟨st.1.at λo e=>hk I (by simp) o e,st.2.at λo e=>hk d (by simp) o e⟩
 item:=λi s Q E hi st hQ=>dJ st.1 st.2 (λe he h' st' sb=>hQ e.key h' s.toks ⟨e,he,rfl⟩ ⟨st',st.2.at λo x=>(sb.2 d hne).trans x⟩ λb o hb x=>(sb.2 b (λh=>hb (by simp[h]))).trans x) λz=>by rw[UQ hi]at z;cases z
 done:=λs Q E st hQ=>dJ st.1 st.2 (λe he=>by simp at he) λ_=>⟨hh,λh' eb=>hQ h' s.toks λb o hb x=>eb b o (λh=>hb (by simp[h])) x⟩
 self:=λ_ _ _ _ st hQ=>Wj st.1 hQ
def Ed(lo:(d==sysModules)=false):PySem.W.KdlSrc prog w "dict" d d es.size (λi v=>∃e,es[i]?=some e/\v=e.key) (λh=>RawD h d es ep) where
 type:=λ_ hm=>hm.ty
 there:=λ_ hm=>let ⟨_,e,_⟩:=hm;⟨Sr e,Sr e⟩
 keep:=λ_ _ hm hk=>hm.at λo e=>hk d (.inl rfl) o e
 notList:=by decide
 notTuple:=by decide
 hint:=λ_ _ _ _ hm hq=>PySem.W.kdl_hint_dict hm.ty hq
 iter:=λ_ _ hh hm=>⟨_,_,(λ_ _ hq=>jE lo hm hq),yE hh (let ⟨_,e,_⟩:=hm;SI (Sr e)),⟨⟨_,Sn _ rfl,rfl,rfl⟩,hm.at λo e=>R8 _ e⟩⟩
end
section
def HY(ok:HOk P w H h)(e:Rd H d (.dT kvs)):kvs.length<=sizeLine/\(d==sysModules)=false/\(kvs.map (·.1)).Nodup/\∃s t,RawD h d s t/\s.size=kvs.length/\∀(i:Nat) p,kvs[i]?=some p->∃x b,s[i]?=some x/\x.key=.ref b/\H b=some (.tup (p.1.map kV)):=by
 obtain⟨z,hd,r,a,o,en,t,k,hex,c,f,_,u⟩:=ik ok e;have g:=Us a;have q:kvs.map (·.1)=r.map (·.1):=by
  apply UY
  intro i;rw[Su,Su];cases l:kvs[i]? with
  |none=>rw[T3 (by rw[<- g];exact List.getElem?_eq_none_iff.mp l)];rfl
  |some p=>
   have m:i<r.length:=by rw[<- g];exact(Si.mp l).1
   obtain⟨v,_⟩:=a.at i _ _ l (R_ m);rw[R_ m];exact T_ some v
 refine⟨z,hd,by rwa[q],en,t,⟨o,k,hex,c⟩,by rw[VS f,g],λi p n=>?_⟩;have j:i<r.length:=by rw[<- g];exact(Si.mp n).1
 have j:r[i]?=some r[i]:=by simp[j]
 obtain⟨_,y,A⟩:=a.at i _ _ n j;exact⟨_,_,by rw[entry_at f,j];rfl,rfl,y⟩
def vn:List V->Hp->VK->Prop:=λe H Q=>∃d a,e=[.ref d]/\(Rd H d (.dT a)\/(Rd H d (.dK [])/\a=[]))/\∀l (c:List Addr),H l=none->c.length=a.length->(∀(i:Nat) p b,a[i]?=some p->c[i]?=some b->H b=some (.tup (p.1.map kV)))->Q (.ref l) (upd H l (.lst (c.map V.ref)))
noncomputable def Bv:Option WM->Addr
 |some (Value.ref b)=>b
 |_=>0
def yF{H:Hp}{s:List (List bc×V)}{u:Array DictEntry}{a:Array WM}(q:u.size=s.length)(k:∀(i:Nat) p,s[i]?=some p->∃x b,u[i]?=some x/\x.key=.ref b/\H b=some (.tup (p.1.map kV)))(it:ItemsOf (λi v=>∃e,u[i]?=some e/\v=e.key) a u.size):∃w:List Addr,a.toList=w.map Value.ref/\w.length=s.length/\∀(i:Nat) p b,s[i]?=some p->w[i]?=some b->H b=some (.tup (p.1.map kV)):=by
 obtain⟨r,l⟩:=it;have d:∀i,i<s.length->∃b,a[i]?=some (.ref b)/\∀p,s[i]?=some p->H b=some (.tup (p.1.map kV)):=λi c=>by
  have y:i<a.size:=by lia
  obtain⟨e,z,A⟩:=l i a[i] (UQ y);obtain⟨x,b,j,m,n⟩:=k i s[i] (R_ c);rw[z]at j;cases j;refine⟨b,by rw[UQ y,A,m],λp g=>?_⟩;rw[R_ c]at g;cases g;exact n
 refine⟨(List.range s.length).map λi=>Bv a[i]?,?_,by simp,λi p b g t=>?_⟩
 .apply UY
  intro i;rw[Tg,Su,SW];by_cases c:i<s.length
  .obtain⟨b,t,_⟩:=d i c;rw[t,Wr c];show _=some (Value.ref (Bv a[i]?));rw[t];rfl
  .rw[Ve (by lia),T3 (by simp;lia)];rfl
 .have c:=(Si.mp g).1;rw[Su,Wr c]at t;obtain⟨o,h,f⟩:=d i c;have:o=b:=by have:Bv a[i]?=b:=Th t;rwa[h]at this
  subst this;exact f p g
theorem tJ:∀a:List Addr,Vals (a.map V.ref) (a.map Value.ref)
 |[]=>.nil
 |_::a=>.cons rfl (tJ a)
def nP(f:X.calm=true):bJ X (.type "list") vn:=by
 rintro x s y H F A Q I r⟨d,B,rfl,a,q⟩;rcases a with a|⟨a,rfl⟩
 case inr=>exact uX f x s y H _ A Q I r ⟨d,[],_,rfl,.inl rfl,a,Sw _,λl c=>q l [] c rfl λi p b e=>by simp at e⟩
 obtain⟨w,rfl,j⟩:=eB r;cases j;obtain⟨z,hd,_,es,ep,m,c,k⟩:=HY I.aS a;refine PySem.W.kdl_call (Ed (es:=es) (ep:=ep) hd) (I.ok.hd f) m (by rwa[c]) λu C n g D e it=>?_;obtain⟨t,E,v,o⟩:=yF c k it;have e:u.get? s.z=some { cls:=.type "list",dict:=none,data:=.seq (t.map Value.ref).toArray g,slots:=#[] }:=by rwa[<- E,Array.toArray_toList]
 exact⟨.ref s.z,_,I.laid (t':=C) D (R7 _) (show ObjOk X.prog X.w _ u _ (.lst (t.map V.ref))from⟨by rwa[R9,v],_,g,tJ t,e⟩),rfl,q _ t (I.aS.fresh (R7 _)) v o⟩
end
end L2
namespace L4
open L2 L3
section
variable{X:Cx}{R:Scope}{tg W:Expr}{Y:List Expr}{U S:List Str}{T:List Nat}{σ:L2.St}{Z:Hp}{Fin:Addr->List V->Hp->Prop}{J:L2.It}{n:Nat}{gt:TG}{tt:TT}{te:TE}
def iL(v:∀M C e f N,PG (aV X R (U++S) M C e f N) tg gt)(w:∀M C e f N,y9 (aV X R (U++S) M C e f N) Y tt)(z:∀M C e f N,PE (aV X R (U++S) M C e f N) W te)(I:Addr->Nat->List V->Hp->Prop)(B:∀d,Z d=none->I d 0 [] (upd Z d (.lst [])))(D:∀{d i c H},I d i c H->H d=some (.lst c))
 (l:∀d i c H,I d i c H->i<n->J.go i H) (q:∀d c H,I d n c H->J.stop n H)
 (P:∀d i c H x O o,i<n->I d i c H->J.zd i H x O->o.length=U.length->gt x (o++jz σ T) O λg E=>(∀j:Nat,U.length<=j->g[j]?=(o++jz σ T)[j]?)/\tt g E λb f=>if b=true then te g f λy t=>t d=some (.lst c)/\c.length<sizeLine/\I d (i+1) (c++[y]) (upd t d (.lst (c++[y])))else I d (i+1) c f)
 (r:∀d c H,Z d=none->I d n c H->Fin d c H):ce X R tg U S T W Y σ Fin J Z:=by
 intro d k M C e N;refine⟨_,_,_,λi m c O=>m=n-i/\i<=n/\I d i c O,v M C e _ N,w M C e _ N,z M C e _ N,⟨n,by simp,Sw _,B d k⟩,?_⟩;rintro i m c O ⟨rfl,L,p⟩;refine⟨D p,?_⟩;by_cases h:i<n
 .refine .inr ⟨l d i c O p h,λF s o y G=>?_⟩;have:=P d i c O F s o h p y G;have Q:∀{A:Prop},(∃u,u<n-i/\(u=n-(i+1)/\i+1<=n/\A))↔A:=⟨λ⟨_,_,_,_,a⟩=>a,λa=>⟨_,by lia,rfl,h,a⟩⟩;simp only[Q];exact this
 .have K:i=n:=by lia
  subst K;exact .inl ⟨q d c O p,r d c O k p⟩
end
def qQ{a:aD}(h:CF a a):False:=by unfold CF at h;lia
def Ee{a b:aD}(h:CF a b)(g:CF b a):False:=by unfold CF at h g;lia
theorem kO:∀{z d:List aD},z.Pairwise CF->d.Pairwise CF->(∀x,x∈z↔x∈d)->z=d
 |[],[],_,_,_=>rfl
 |[],b::_,_,_,h=>nomatch (h b).mpr Sa
 |a::_,[],_,_,h=>nomatch (h a).mp Sa
 |a::t,b::g,p,c,h=>by
  rw[VO]at p c;have e:a=b:=by
   rcases Sq.mp ((h a).mp Sa)with e|m
   .exact e
   .rcases Sq.mp ((h b).mpr Sa)with e|m'
    .exact e.symm
    .exact(Ee (p.1 b m') (c.1 a m)).elim
  subst e;rw[kO p.2 c.2 λx=>?_];have f:=h x;rw[Sq,Sq]at f;constructor
  .intro m;rcases f.mp (.inr m)with e|m'
   .subst e;exact(qQ (p.1 x m)).elim
   .exact m'
  .intro m;rcases f.mpr (.inr m)with e|m'
   .subst e;exact(qQ (c.1 x m)).elim
   .exact m'
section
variable{X:Cx}{K:WK}{u:Str->Option WM}{H l:Hp}{a q d:Addr}{p:List aD}{o:aD->Addr}{j:L2.St}{k:aD}{m:List V}{Q:VK}
theorem lX{n:Nat}:∀{c:List D},(∀d∈c,d.dep<=n)->D.iY c<=n
 |[],_=>Sw _
 |d::c,h=>by have h1:=h d Sa;have f:=lX λe b=>h e (Sf _ b);show max d.dep (D.iY c)<=n;lia
def La(K:WK):List V->Hp->VK->Prop:=λc H Q=>∃x T t b,c=[x,.ty T]/\NM K H x t/\kitOne K t (.type T)=some b/\Q (.bl b) H
def pQ:bJ X (.builtin "isinstance") (La X.K):=AV
def HZ(K:WK)(T:String)(b:TE):TE:=eR (La K) (ah b (ah (tC (.ty T)) aF))
theorem Reads.Qi{c:TE}{T:String}{x:V}{dd:D}(h:Reads c j H x)(e:NM K H x (.type dd.ty))(b:Hl T):Reads (HZ K T c) j H (.bl (PD T dd)):=λQ q=>h _ ⟨x,T,_,_,rfl,e,b K dd,q⟩
theorem Bw{F:List D->Res R}{n:Nat}{ds:List D}{ta:TA}(e:ReadsA ta j H m)(b:m.length=n)(f:IsAll H (λ_=>True) ds m)(c:F ds=.ok (.val (.bl true) true []))(k:∀l,Same H l->Q (.bl true) l):bj (nu u n F) [] E0 ta j H Q:=by refine e _ ⟨by rwa[Tj],ds,λ_=>True,by rwa[Tj],?_⟩;rw[c];intro v l s r;obtain rfl:v=.bl true:=r;exact k l s
theorem Reads.MM{ta g:TE}{b:Addr}{v:V}(h:Reads ta j H (.ref a))(i:Reads g j H (.ref b))(c:Rd H a (.dT (p.map λk=>(k2 k,V.ref (o k)))))(f:k∈p)(e:H b=some (.tup ((k2 k).map kV))):Reads (ip ta g) j H (.ref (o k)):=λQ q=>h _ (i _ ⟨a,_,rfl,.inr ⟨_,k2 k,b,c,rfl,e,by rw[d5,Sg f]⟩,q⟩)
def Og:TS:=b5 (tC (.bl false))
end
noncomputable abbrev Rw:=Int×List Int
section
variable{K:WK}{H:Hp}{p:Addr}{d:L2.St}{k:aD}
def Reads.RG(b:Reads ta d H (.ref p))(c:Reads tb d H (.int i))(h:Rd H p (.lst xs))(e:xs[j]?=some v)(a:i=(j:Nat)):Reads (ba (mF K) ta tb) d H v:=b.op c λ_ q=>⟨p,xs,i,v,rfl,rfl,.inl h,by rw[a];exact cD e,q⟩
theorem Reads.rA(a:Reads ta d H (.ref p))(h:Rd H p (.lst xs)):Reads (eR (gq K) (ah ta aF)) d H (.int xs.length):=λ_ k=>a _ ⟨p,xs,rfl,.inl (.inl h),k⟩
def PL:R2:=uh λi j=>.bl (decide (j<=i))
end
def jG(K:WK):List V->Hp->VK->Prop:=λb H Q=>∃p a,b=[.ref p]/\(SqL K H p a\/SqT K H p a)/\∀l,H l=none->Q (.ref l) (upd H l (.lst a))
def dL:bJ X (.type "list") (jG X.K):=qb
noncomputable def Lb(X:Cx)(d:Scope)(h a:Expr)(j e:List Str)(f:List Nat)(i:Nat)(b:TI):TS:=λD g H=>b g H (ce X d h j e f a [] g λc _ k=>D.nx (g.set i (some (.ref c))) k)
section
variable{H:Hp}{k:aD}{D:Ends}
theorem vp{d:Type}{m:Addr->Prop}{f:d->V->Prop}{g:d->L3.D}{e:List d}{l:List V}(h:aN f e l):(∀x∈e,∀v,f x v->Is H m (g x) v)->IsAll H m (e.map g) l:=by
 induction h with
 |nil=>exact λ_=>rfl
 |cons a _ b=>exact λg=>⟨_,_,rfl,g _ Sa _ a,b λk c=>g k (Sf _ c)⟩
end
noncomputable abbrev qR:=List D->Res R
noncomputable abbrev Tr:Addr->Prop:=λ_=>True
def qS(a signs:Int)(b:List Sp.Rule):D:=.tup [.int a,.int signs,.lst (b.map dS)]
def Ls(a:List Sp.Arr)(b:List Sp.Rule):aD->List aD:=dE (bF (aX a)) b
structure RX where
 (Fp Fm Fc R4 RU RV Fh Fb:qR)
section
variable{K:WK}{H B:Hp}{p d rl:Addr}{σ:L2.St}{E A:List V}{Q:VK}{C:List Sp.Rule}{z signs:Int}
theorem Lc(h:AO g H v r):Is H Tr r.d v:=by
 cases r with
 |val d c f=>exact Is.mono (λ_ _ e _=>e) (λ_ _ _ _=>⟨⟩) h
 |new i c=>obtain⟨a,E,rfl,e,_,b⟩:=h;exact⟨a,E,rfl,.inl ⟨e,⟨⟩⟩,IsAll.mono (λ_ _ e _=>e) (λ_ _ _ _=>⟨⟩) b⟩
 |ze d=>exact Is.mono (λ_ _ e _=>e) (λ_ _ _ _=>⟨⟩) h
def wQ(a:E.length=n)(c:IsAll H Tr ds E)(b:F ds=.ok r)(k:∀v B,Same H B->Is B Tr r.d v->Q v B):nu mg n F (E++[]) H Q E0:=by refine⟨by rwa[Tj],ds,Tr,by rwa[Tj],?_⟩;rw[b];exact λv B s h=>k v B s (Lc h)
def Ef{m:Addr->Prop}{dd:D}(h:Is H m dd v)(s:Same H B):Is B Tr dd v:=Is.mono (λc u e _=>s c u e) (λ_ _ _ _=>⟨⟩) h
def Eg(a:Str->Option WM)(b c:qR)(i:Int):TE:=bj (nu a 1 b) [] E0 (ah (bj (nu a 2 c) [] E0 (ah (aj 0) (ah (tC (.int i)) aF))) aF)
def vq{sd:D}{i x y:Int}(c:σ[0]?=some (some v0))(e:Is H Tr sd v0)(a:Fc [sd,.int i]=.ok (.val (.int x) true []))(f:Fm [.int x]=.ok (.val (.int y) true []))(k:∀B,Same H B->Q (.int y) B):Eg mg Fm Fc i σ H Q:=by refine⟨_,c,wQ (ds:=[sd,.int i]) rfl ⟨_,_,rfl,e,_,_,rfl,rfl,rfl⟩ a λv m g h=>wQ (ds:=[.int x]) rfl ⟨_,_,rfl,h,rfl⟩ f λw b j l=>?_⟩;cases(show w=.int y from l);exact k b (g.trans j)
structure oV(H:Hp) (z signs:Int) (C:List Sp.Rule) (p l:Addr) (A:List V):Prop where
 t:H p=some (.tup [.int z,.int signs,.ref l])
 l:H l=some (.lst A)
 i:IsAll H Tr (C.map dS) A
def oV.is{l:Addr}(h:oV H z signs C p l A):Is H Tr (qS z signs C) (.ref p):=⟨p,_,rfl,h.t,_,_,rfl,rfl,_,_,rfl,rfl,_,_,rfl,⟨l,A,rfl,.inl ⟨h.l,⟨⟩⟩,h.i⟩,rfl⟩
def oV.at{l:Addr}(h:oV H z signs C p l A):cY H C p l A:=⟨⟨_,_,h.t⟩,.inl h.l,wL (λx v=>Bf) h.i⟩
def Ld(h:IsAll H m ds E)(s:Same H B):IsAll B Tr ds E:=IsAll.mono (λc u e _=>s c u e) (λ_ _ _ _=>⟨⟩) h
def oV.more{l:Addr}(h:oV H z signs C p l A)(s:Same H B):oV B z signs C p l A:=⟨s _ _ h.t,s _ _ h.l,Ld h.i s⟩
def H_(a:TE):TE:=cm (ah (aj 2) (ah (aj 3) (ah a aF)))
def PN(a:TE)(σ:L2.St)(H:Hp)(C:List Sp.Rule):Prop:=∀Q:VK,(∀l A b,Same H b->H l=none->b l=some (.lst A)->IsAll b Tr (C.map dS) A->Q (.ref l) b)->a σ H Q
def Ia(h:σ[2]?=some (some (.int z)))(i:σ[3]?=some (some (.int signs)))(b:PN tx σ H C)(k:∀p l A B,Same H B->H p=none->H l=none->oV B z signs C p l A->Q (.ref p) B):H_ tx σ H Q:=by refine⟨_,h,_,i,b _ λl A j g nl c e=>⟨by show 3<=_;rw[SQ];lia,λp a=>?_⟩⟩;have f:=aw (o:=.tup [.int z,.int signs,.ref l]) a;exact k p l A _ (g.trans f) (g.free a) nl ⟨ac,f _ _ c,Ld e f⟩
def PP(K:WK):TE:=eR (jG K) (ah (aj 5) aF)
def Le(b:σ[5]?=some (some (.ref rl)))(c:Rd H rl (.lst A))(e:IsAll H Tr (C.map dS) A):PN (PP K) σ H C:=λQ q=>⟨_,b,rl,A,rfl,.inl (.inl c),λl a=>q l A _ (aw a) a ac (Ld e (aw a))⟩
end
def By(h:IsRule H r v):Is H m (dS r) v:=by obtain⟨p,q,rfl,a,b⟩:=h;exact⟨p,_,rfl,a,_,_,rfl,rfl,_,_,rfl,rfl,_,_,rfl,rfl,_,_,rfl,⟨q,_,rfl,b,jA _⟩,rfl⟩
structure R3 where
 (RZ zf yY:Scope)
 (RY RM Cr oz Cv oA:Expr)
 (R0 tN capN:List Str)
 (caps:List Nat)
section
def b_:R2:=rI (λ_ j=>0<j) λi j=>.int (i%j)
def g9:R2:=rI JW λi j=>.int (i/j)
end
structure xo(l z:List Int):Prop where
 m:∀x,x∈z↔x∈l
 p:z.Pairwise (·< ·)
inductive kr(F:aD->List Int) (room:Int):List Int->List Int->List aD->Prop
 |nil:kr F room [] [room] []
 |snoc {st rooms:List Int} {hs:List aD} {s:Int} {rooms':List Int} (h:kr F room st rooms hs) (so:xo (rooms.flatMap λr=>F (r,s)) rooms'):kr F room (st++[s]) rooms' (hs++rooms.map λr=>(r,s))
structure yT(F:aD->List Int) (U:List Int):Prop where
 n:∀k,(F k).length<=7
 u:∀k,∀x∈F k,x∈U
 l:U.length<=7
def kr.eL{F:aD->List Int}(f:yT F U)(d:room∈U){st a:List Int}{g:List aD}(h:kr F room st a g):a.length<=7/\g.length<=7*st.length:=by
 induction h with
 |nil=>exact⟨by show 1<=7;decide,R7 _⟩
 |@snoc st a g s b h i e=>refine⟨SE (Sp.nodup_sub (i.p.imp λh=>Int.ne_of_lt h) λx c=>?_) f.l,by simp;lia⟩;obtain⟨r,_,c⟩:=TN.mp ((i.m x).mp c);exact f.u _ x c
def PQ{F:aD->List Int}(h:∀k,(F k).length<=7):∀l:List aD,(l.flatMap F).length<=7*l.length:=by
 intro l;induction l with
 |nil=>exact R7 _
 |cons x l a=>have:=h x;rw[Ue,Sm,SG];lia
section
variable{K:WK}{B0 B H H':Hp}{a q p:Addr}{ks:List aD}{F:aD->List Int}{RA:aD->Addr}{D:Ends}{σ:L2.St}{vs tv:List V}{ts:List aD}
def Bz(X:Cx):List V->Hp->VK->Prop:=λvs H Q=>∃l c,vs=[.ref l]/\Rd H l (.lst (c.map V.int))/\c.length<=300/\∀p d b,H p=none->b.map (·.1)=c->d_ (eI X.prog X.w) d b->Q (.ref p) (upd H p (.ext λh=>SetAt X.w h p d))
def vt(b:X.calm=true):bJ X (.type "set") (Bz X):=uU b
def BB(X:Cx):List V->Hp->VK->Prop:=λvs H Q=>∃p c b,vs=[.ref p]/\H p=some (.ext λh=>SetAt X.w h p c)/\d_ (eI X.prog X.w) c b/\b.length<=63/\
 ∀(l:Addr)(ks:List Int),H l=none->(∀k,k∈ks↔k∈b.map (·.1))->ks.Pairwise (·< ·)->Q (.ref l) (upd H l (.lst (ks.map V.int)))
def vw(b:X.calm=true):bJ X (.builtin "sorted") (BB X):=oM b
theorem Ib(h:Reads ta σ H (.ref l))(f:Rd H l (.lst (xs.map .int)))(n:xs.length<=63)(k:∀b z H',Same H H'->H b=none->H' b=some (.lst (z.map .int))->xo xs z->Q (.ref b) H'):eR (BB X) (ah (eR (Bz X) (ah ta aF)) aF) σ H Q:=by refine h _ ⟨l,xs,rfl,f,by lia,λp i g d e v=>⟨p,i,g,rfl,ac,v,?_,λb ks c j m=>k b ks _ ((aw d).trans (aw c)) ((aw d).free c) ac ⟨λx=>by rw[j,e],m⟩⟩⟩;have:=T_ List.length e;rw[R9]at this;lia
def Lf(K:WK):TS:=cU (bZ K (aj 5)) (aA 7) (b9 (qc K "list" jT (aj 6) (ah (cu (aj 0) (aj 7) (dR aF)) aF)))
def QF{l rl Q P:Addr}(O:Gr Br B0 B a ks F RA)(C:Same B H)(x:H Q=some (.lst tv))(U:aN (IsSet H) ts tv)(E:Q≠P)(G:B P=none)(y:H P=some (.lst []))(Z:ts.length<=7)(A:∀k,(F k).length<=7)(W:σ=[some (.ref a),some v1,some (.ref l),some (.ref rl),x4,some (.ref Q),some (.ref P),g])
 (k:∀g H',Kp P H H'->Same B H'->H' P=some (.lst ((ts.flatMap F).map .int))->D.nx [some (.ref a),some v1,some (.ref l),some (.ref rl),x4,some (.ref Q),some (.ref P),g] H'):Lf K D σ H:=by
 subst W;refine⟨_,rfl,Q,rfl,⟨tv,SqL.of x⟩,cc (K:=K) (a:=Q) (xs:=tv) (λi f H'=>(∃g,f=[some (.ref a),some v1,some (.ref l),some (.ref rl),x4,some (.ref Q),some (.ref P),g])/\Kp P H H'/\Same B H'/\H' P=some (.lst (((ts.take i).flatMap F).map .int))) ⟨⟨g,rfl⟩,λc u e _=>e,C,y⟩ (λi f H' _ ⟨_,R,_⟩=>SqL.of (R _ _ x E)) (λi v f H' I ⟨⟨g,m⟩,R,T,d⟩=>?_) λf H' ⟨⟨g,m⟩,R,T,d⟩=>?_⟩
 .subst m;obtain⟨t,s,b,rfl,S⟩:=U.get I;have J:b≠P:=λz=>by rw[z,y]at S;cases S
  have S:=R _ _ S J;have w:=O.more j7 T;refine⟨_,rfl,.inl ⟨rfl,_,SqL.of d⟩,_,rfl,a,rfl,.inr ⟨_,.inl w.r⟩,_,rfl,Sw _,λq2 h=>?_⟩;have j:=aw (o:=.lst []) h;refine⟨_,DGet.t (k:=k2 t) (j _ _ w.r) (j _ _ S),?_⟩;obtain⟨X,N,Y,V,L⟩:=vj w h t;rw[isI L]at V;rw[Y];have h1:=PQ A (ts.take i);have h2:=A t;have h3:=S_ i ts;have M:ts.take (i+1)=ts.take i++[t]:=by rw[Sv,s];rfl
  refine⟨P,X,_,_,rfl,rfl,j _ _ d,V,TY (hG (by simp;simp at h1;lia)),⟨_,rfl⟩,λc u e n=>?_,λc u e=>?_,?_⟩
  .rw[ai n];exact j _ _ (R _ _ e n)
  .rw[ai λz=>by rw[z,G]at e;cases e];exact j _ _ (T _ _ e)
  .rw[ac,M,UI,SN,Ue,List.flatMap_nil,Tj]
 .subst m;rw[<- U.len,SU]at d;exact k g H' R T d
inductive xh:Sp
 |mk {B0 H:Hp} {a p sl:Addr} {ks:List aD} {F:aD->List Int} {RA:aD->Addr} {room:Int} {aO U:List Int} {Q:VK} {E:XK} (O:Gr Br B0 H a ks F RA) (hp:H p=some (.tup [.int room,.ref sl])) (hs:Rd H sl (.lst (aO.map .int))) (f:yT F U) (hr:room∈U) (hz:aO.length<1000) (k:∀l vs hs rooms H',Same H H'->H l=none->H' l=some (.lst vs)->aN (IsSet H') hs vs->kr F room aO rooms hs->Q (.ref l) H'):xh [.ref a,.ref p] H Q E
def Oh(X:Cx):TS:=aT (eR (BB X) (ah (eR (Bz X) (ah (aj 6) aF)) aF)) (aA 3)
def Oi(X:Cx):TS:=aI (aT (dR aF) (aA 6)) (aI (Lf X.K) (Oh X))
def Oj(X:Cx):TS:=aI (b9 (qc X.K "list" jT (aj 2) (ah (aj 5) aF))) (Oi X)
def Ol(X:Cx)(c:Scope)(f b:Expr)(g d:List Str)(e:List Nat):TS:=aI (Lb X c f b g d e 5 (bZ X.K (aj 3))) (Oj X)
def Lg:TE:=cm (ah (aj 0) (ah (aj 1) aF))
def Om(X:Cx)(c:Scope)(f b:Expr)(g d:List Str)(e:List Nat):TS:=aI (aT (dR aF) (aA 2)) (aI (aT (dR (ah (tI X.K 1 0) aF)) (aA 3)) (aI (cU (bZ X.K (tI X.K 1 1)) (aA 4) (Ol X c f b g d e)) (b5 (aj 2))))
theorem BC{scope:Scope}{tg elt:Expr}{tN capN:List Str}{caps:List Nat}(h1:tN.length=1)(hc:caps=[4])(hg:∀cl C J j fp,PG (aV X scope (tN++capN) cl C J j fp) tg (aA 0))(he:∀cl C J j fp,PE (aV X scope (tN++capN) cl C J j fp) elt Lg)(h:xh vs H Q E):Om X scope tg elt tN capN caps (eQ Q) (aZ (nS 8) vs) H:=by
 obtain @⟨B0,H,a,p,sl,ks,F,RA,room,aO,U,Q,E,O,hp,hs,f,hr,hz,k⟩:=h;refine⟨Sw _,λd hh=>?_⟩;have s1:=aw (o:=.lst []) hh;have L:upd H d (.lst []) d=some (.lst []):=ac;generalize upd H d (.lst [])=H1 at s1 L;refine Reads.ix (n:=0) (.va (i:=1) rfl) (s1 _ _ hp) (v:=.int room) rfl _ ⟨TY (hG (by show 1<15000000;decide)),λrl g=>?_⟩;have s2:=aw (o:=.lst [.int room]) g;have hr2:upd H1 rl (.lst [.int room]) rl=some (.lst ([room].map .int)):=ac;have nrl:H rl=none:=s1.free g;have M:d≠rl:=ay L g;generalize upd H1 rl (.lst [.int room])=H2 at s2 hr2;have N:=s1.trans s2;refine cO (Reads.ix (.va (i:=1) rfl) (N _ _ hp) (v:=.ref sl) rfl _ ⟨sl,rfl,⟨_,.inl (aU N hs)⟩,?_⟩);refine cc (K:=X.K) (a:=sl) (xs:=aO.map .int) (λi G H'=>∃rl b hs x,(∃x4 x5 x6 x7,G=[some (.ref a),some (.ref p),some (.ref d),some (.ref rl),x4,x5,x6,x7])/\Same H H'/\d≠rl/\H' d=some (.lst x)/\H' rl=some (.lst (b.map .int))/\aN (IsSet H') hs x/\kr F room (aO.take i) b hs) ⟨rl,[room],[],[],⟨none,none,none,none,rfl⟩,N,M,s2 _ _ L,hr2,.nil,.nil⟩ (λi G H' _ ⟨_,_,_,_,_,sm,_⟩=>.inl (aU sm hs)) (λi v G H' hi q=>?_) λG H' q=>?_
 .obtain⟨rl,b,P,x,⟨x4,x5,x6,x7,rfl⟩,sm,M,I,g,al,ow⟩:=q;rw[Su]at hi;obtain⟨s,es,rfl⟩:=Tf.mp hi;obtain⟨f1,f2⟩:=ow.eL f hr;have et:aO.take (i+1)=aO.take i++[s]:=by rw[Sv,es];rfl
  have lt:=S_ i aO;refine⟨_,rfl,rl,rfl,⟨_,SqL.of g⟩,F6 (te:=Lg) (ws:=λu=>[.int u,.int s]) (cap:=[some (.int s)]) h1 (by rw[hc];rfl) hg he (λu H5 R=>.t (.c (.va rfl) (.c (.va rfl) .ni)) rfl) (.inl g) (by lia) λtl tv j nD J S al3=>?_⟩;have ntl:H tl=none:=sm.free nD;have A:=J _ _ I;have nth:tl≠d:=λz=>by rw[z,I]at nD;cases nD
  have V:aN (IsSet j) (b.map λr=>(r,s)) tv:=by have:=al3.Cz (T:=IsSet j) (λu=>(u,s)) id λu v ⟨p,e,hp⟩=>⟨p,e,hp⟩;rwa[List.map_id]at this
  refine⟨_,rfl,.inl ⟨rfl,_,SqL.of A⟩,_,rfl,d,tl,_,_,rfl,rfl,A,S,TY (hG (by rw[<- al.len,<- V.len];simp;lia)),Sw _,λgl m=>?_⟩;have k4:Kp d j (upd j d (.lst (x++tv))):=λc u e n=>by rwa[ai n]
  have kt4:KT j (upd j d (.lst (x++tv))):=.upd A λ_ z=>(nomatch z);have l:upd j d (.lst (x++tv)) d=some (.lst (x++tv)):=ac;have W:Same H (upd j d (.lst (x++tv))):=λc u e=>by rw[ai λz=>by rw[z,hh]at e;cases e];exact J _ _ (sm _ _ e)
  generalize upd j d (.lst (x++tv))=H4 at k4 kt4 l W m;have R:=aw (o:=.lst []) m;have Y:upd H4 gl (.lst []) gl=some (.lst []):=ac;have ngl:H gl=none:=W.free m;have ngt:tl≠gl:=λz=>by rw[<- z,k4 _ _ S nth]at m;cases m
  have ngh:d≠gl:=ay l m;generalize upd H4 gl (.lst [])=H5 at R Y;have Z:KT j H5:=kt4.trans (.of R);refine QF (B:=H) O (W.trans R) (R _ _ (k4 _ _ S nth)) (V.mono (bo Z)) ngt ngl Y (by simp;lia) f.n rfl λx7 H6 kp6 sm6 hg6=>?_;have kt6:KT H5 H6:=λc w e=>kp6 _ _ e λz=>by rw[z,Y]at e;cases e
  have f3:=PQ f.n (b.map λr=>(r,s));rw[R9]at f3;refine Ib (X:=X) (.va (i:=6) rfl) (.inl hg6) (by lia) λrl' z H7 s7 nl7 hl7 so=>?_;have hh7:=s7 _ _ (kp6 _ _ (R _ _ l) ngh);refine⟨rl',z,P++b.map (λr=>(r,s)),x++tv,⟨_,_,_,_,rfl⟩,sm6.trans s7,(λy=>by rw[<- y,kp6 _ _ (R _ _ l) ngh]at nl7;cases nl7),hh7,hl7,((al.mono (bo ((KT.of J).trans (Z.trans (kt6.trans (.of s7)))))).app (V.mono (bo (Z.trans (kt6.trans (.of s7)))))),?_⟩;rw[et];exact .snoc ow (by rwa[List.flatMap_map]at so)
 .obtain⟨rl,b,P,x,⟨x4,x5,x6,x7,rfl⟩,sm,M,I,g,al,ow⟩:=q;rw[R9,SU]at ow;exact⟨_,rfl,k d x P b H' sm hh I al ow⟩
end
inductive xm(Z:aD->List aD):Nat->List aD->List aD->List aD->Prop
 |done {n:Nat} {ks:List aD}:xm Z n ks [] ks
 |old {n:Nat} {ks bU ks':List aD} {h:aD} (hk:h∈ks) (r:xm Z n ks bU ks'):xm Z (n+1) ks (bU++[h]) ks'
 |new {n:Nat} {ks bU ks':List aD} {h:aD} (hk:h∉ks) (f1:bU.length+(Z h).length<100000) (f2:ks.length<1000) (r:xm Z n (ks++[h]) (bU++Z h) ks'):xm Z (n+1) ks (bU++[h]) ks'
structure Am(H:Hp) (d:Addr) (a:List aD) (Z:aD->List aD) (b:aD->Addr):Prop where
 r:H d=some (.dT (a.map λk=>(k2 k,.ref (b k))))
 v:∀k∈a,∃c,H (b k)=some (.lst c)/\aN (IsSet H) (Z k) c
section
variable{K:WK}{sP:Sp}{B0 B H r:Hp}{a a3 q p d dl:Addr}{ks a0 t bU:List aD}{Z:aD->List aD}{RA LA AA:aD->Addr}{D:Ends}{σ:L2.St}{vs dv:List V}{Q:VK}{E:XK}
theorem Am.kp(h:Am H d ks Z AA)(k:Kp c H r)(f:KT H r)(n:d≠c)(m:∀j∈ks,AA j≠c):Am r d ks Z AA:=⟨k _ _ h.r n,λj b=>let ⟨vs,e,g⟩:=h.v j b;⟨vs,k _ _ e (m j b),g.mono (bo f)⟩⟩
theorem Am.more(h:Am H d ks Z AA)(s:Same H r):Am r d ks Z AA:=⟨s _ _ h.r,λj b=>let ⟨vs,e,c⟩:=h.v j b;⟨vs,s _ _ e,c.mono (bo (.of s))⟩⟩
theorem Am.put(h:Am H d ks Z AA)(g:k∉ks)(f:H q=some (.lst ws))(i:aN (IsSet H) (Z k) ws):Am (upd H d (.dT ((ks.map λk=>(k2 k,V.ref (AA k)))++[(k2 k,.ref q)]))) d (ks++[k]) Z (di AA k q):=by
 have l:KT H (upd H d (.dT ((ks.map λk=>(k2 k,V.ref (AA k)))++[(k2 k,.ref q)]))):=.upd h.r λ_ z=>(nomatch z);have m:∀j∈ks,j≠k:=λj hj z=>g (z▸hj);have nl:∀{c b},H c=some (.lst b)->c≠d:=λe z=>by rw[z,h.r]at e;cases e
 refine⟨?_,λj hj=>?_⟩
 .rw[ac,SN];congr 3
  .exact SR λj hj=>by rw[cg (m j hj)]
  .show _=[(k2 k,V.ref (di AA k q k))];rw[bK]
 .rcases Sk.mp hj with hj|hj
  .obtain⟨vs,e,i⟩:=h.v j hj;rw[cg (m j hj)];exact⟨vs,by rwa[ai (nl e)],i.mono (bo l)⟩
  .rw[Sb.mp hj,bK];exact⟨ws,by rwa[ai (nl f)],i.mono (bo l)⟩
def On(K:WK):TS:=b9 (qc K "list" jT (aj 5) (ah (ip (aj 4) (aj 6)) aF))
def Lh(K:WK):TS:=dQ (bO (ba (AW true) (aj 6) (aj 4))) (aI (jk (aj 4) (aj 6) (cu (aj 3) (aj 6) (dR aF))) (On K)) ck
def Li(K:WK):TS:=aI (aT (zK K "list" GU (aj 5)) (aA 6)) (Lh K)
def Eh(K:WK)(b:TE):TT:=λσ H Q=>b σ H λx r=>∃k,GO K x r k/\Q k r
def Lj(K:WK):TS:=mw (Eh K (aj 5)) (Li K)
structure MP(B H:Hp) (d dl:Addr) (ks bU:List aD) (Z:aD->List aD) (AA:aD->Addr):Prop where
 a:Am H d ks Z AA
 s:Same B H
 n:∀j∈ks,AA j≠dl
 l:∃dv,H dl=some (.lst dv)/\aN (IsSet H) bU dv
def tL(e b c:V)(a3 d dl:Addr)(f:Option V):L2.St:=[some e,some b,some c,some (.ref a3),some (.ref d),some (.ref dl),f]
def vx:cp (ks.map λk=>(k2 k,V.ref (AA k))) (k2 k)=if k∈ks then some (.ref (AA k))else none:=d5
inductive Nh(v0 v1 v2:V) (a3 d dl:Addr) (B:Hp) (Z:aD->List aD) (t:List aD) (m:Nat):L2.St->Hp->Prop
 |mk {H:Hp} {x6:Option V} {ks bU:List aD} {AA:aD->Addr}:MP B H d dl ks bU Z AA->xm Z m ks bU t->Nh v0 v1 v2 a3 d dl B Z t m (tL v0 v1 v2 a3 d dl x6) H
theorem QG{v0 i l:V}{x6:Option V}(O:Gr IsSet B0 B a3 a0 Z LA)(nd:B d=none)(nl:B dl=none)(S:MP B H d dl ks bU Z AA)(lp:xm Z n ks bU t)(hs:σ=tL v0 i l a3 d dl x6)(k:∀x6 AA r,MP B r d dl t [] Z AA->D.nx (tL v0 i l a3 d dl x6) r):Lj K D σ H:=by
 subst hs;refine⟨Nh v0 i l a3 d dl B Z t,⟨n,.mk S lp⟩,?_⟩;clear S lp;rintro m σ H @⟨H,x6,ks,bU,AA,⟨A,sm,nn,dv,g,al⟩,lp⟩;refine⟨_,rfl,_,.inl ⟨_,SqL.of g,rfl⟩,?_⟩;have step:∀{bU h},aN (IsSet H) (bU++[h]) dv->(∃N:L2.St->Hp->Prop,(∀b H1,IsSet H1 h (.ref b)->∀zs,H1 dl=some (.lst zs)->aN (IsSet H1) bU zs->Am H1 d ks Z AA->Same B H1->Lh K {D with nx:=N,ct:=N,bk:=D.nx} (tL v0 i l a3 d dl (some (.ref b))) H1)/\∀f r,N f r->∃L,L<m/\Nh v0 i l a3 d dl B Z t L f r)->if(!dv.isEmpty)=true then ∃N:L2.St->Hp->Prop,(∀f r,N f r->∃L,L<m/\Nh v0 i l a3 d dl B Z t L f r)/\Li K {D with nx:=N,ct:=N,bk:=D.nx} (tL v0 i l a3 d dl x6) H else D.nx (tL v0 i l a3 d dl x6) H:=λ{bU h} al ⟨N,h1,h2⟩=>by
  obtain⟨zs,_,rfl,al',b,rfl,hb⟩:=al.rq;rw[Sg (by simp)];refine⟨N,h2,_,rfl,.inl ⟨rfl,_,SqL.of g⟩,dl,zs++[.ref b],.ref b,rfl,rfl,g,by simp,?_⟩;rw[List.dropLast_concat];have kt:KT H (upd H dl (.lst zs)):=.upd g λ_ z=>(nomatch z);have kp:Kp dl H (upd H dl (.lst zs)):=λc u e n=>by rwa[ai n]
  exact h1 b _ ⟨b,rfl,kt _ _ hb⟩ zs ac (al'.mono (bo kt)) (A.kp kp kt (λz=>by rw[<- z,A.r]at g;cases g) nn) λc u e=>by rw[ai λz=>by rw[z,nl]at e;cases e];exact sm _ _ e
 cases lp with
 |done=>cases al;exact fq (k x6 AA H ⟨A,sm,nn,[],g,.nil⟩)
 |@old m _ bU _ h J lp=>refine step al ⟨λf r=>∃x6,f=tL v0 i l a3 d dl x6/\MP B r d dl ks bU Z AA,λb H1 ⟨b',e,hb⟩ zs hz F M s1=>?_,λf r ⟨x6,e,s⟩=>⟨m,Uo _,e▸.mk s lp⟩⟩;cases e;refine⟨_,rfl,_,rfl,d,_,rfl,.inl (DGet.t (k:=k2 h) M.r hb),⟨_,rfl,?_⟩⟩;rw[vx,Sg J];exact fq ⟨_,rfl,M,s1,nn,zs,hz,F⟩
 |@new m _ bU _ h J f1 f2 lp=>
  refine step al ⟨λf r=>∃x6 AA,f=tL v0 i l a3 d dl x6/\MP B r d dl (ks++[h]) (bU++Z h) Z AA,λb H1 ⟨b',e,hb⟩ zs hz F M s1=>?_,λf r ⟨x6,AA,e,s⟩=>⟨m,Uo _,e▸.mk s lp⟩⟩;cases e;refine⟨_,rfl,_,rfl,d,_,rfl,.inl (DGet.t (k:=k2 h) M.r hb),⟨_,rfl,?_⟩⟩;rw[vx,Sj J];have O1:=O.more bo s1;refine fK ⟨_,rfl,a3,rfl,.inr ⟨_,.inl O1.r⟩,_,rfl,Sw _,λq2 w=>?_⟩;have C:=aw (o:=.lst []) w;refine⟨_,DGet.t (k:=k2 h) (C _ _ O1.r) (C _ _ hb),?_⟩;obtain⟨pp,ov,e1,e2,e3⟩:=vj O1 w h;have np:pp≠dl:=λz=>by
   rw[d5]at e1;by_cases m:h∈a0
   .rw[Sg m]at e1;cases e1;obtain⟨_,vs,e,_⟩:=O.v h m;rw[z,nl]at e;cases e
   .rw[Sj m]at e1;cases e1;rw[z,hz]at w;cases w
  rw[e1];have P:=M.more C;have e3:=e3.mono (bo (.of C));have G:=C _ _ hb;have x:=C _ _ hz;have al2:=F.mono (bo (.of C));have s2:=s1.trans C;generalize upd H1 q2 (.lst [])=R at e2 P e3 G x al2 s2;have A3:=P.put J e2 e3;have T:dl≠d:=λz=>by rw[z,P.r]at x;cases x
  have kt:KT R (upd R d (.dT ((ks.map λk=>(k2 k,V.ref (AA k)))++[(k2 h,.ref pp)]))):=.upd P.r λ_ z=>(nomatch z);refine⟨_,rfl,_,rfl,d,_,rfl,DPut.t P.r (k:=k2 h) G (hG (by rw[R9];lia)),?_⟩;rw[cI _ (by rw[vx,Sj J])];have U:Same B (upd R d (.dT ((ks.map λk=>(k2 k,V.ref (AA k)))++[(k2 h,.ref pp)]))):=λc u e=>by rw[ai λz=>by rw[z,nd]at e;cases e];exact s2 _ _ e
  have y:upd R d (.dT ((ks.map λk=>(k2 k,V.ref (AA k)))++[(k2 h,.ref pp)])) dl=some (.lst zs):=by rwa[ai T]
  have W:=kt _ _ G;have al3:=al2.mono (bo kt);generalize upd R d (.dT ((ks.map λk=>(k2 k,V.ref (AA k)))++[(k2 h,.ref pp)]))=H3 at A3 kt U y W al3;have mh:h∈ks++[h]:=SK _ Sa;obtain⟨ws,e5,X⟩:=A3.v h mh;refine⟨_,rfl,.inl ⟨rfl,_,SqL.of y⟩,Reads.MM (v:=.cj) (.va rfl) (.va rfl) (.inl A3.r) mh W _ ⟨dl,_,_,_,rfl,rfl,y,e5,TY (hG (by rw[<- al3.len,<- X.len];lia)),_,di AA h pp,rfl,?_⟩⟩;have I:KT H3 (upd H3 dl (.lst (zs++ws))):=.upd y λ_ z=>(nomatch z);have Y:∀j∈ks++[h],di AA h pp j≠dl:=λj hj=>by
   rcases Sk.mp hj with hj|hj
   .rw[cg λz:j=h=>J (z▸hj)];exact nn j hj
   .rwa[Sb.mp hj,bK]
  exact⟨A3.kp (c:=dl) (λc u e n=>by rwa[ai n]) I (Tp T) Y,λc u e=>by rw[ai λz=>by rw[z,nl]at e;cases e];exact U _ _ e,Y,_,ac,(al3.mono (bo I)).app (X.mono (bo I))⟩
structure t_(sP:Sp) (H:Hp) (e:List Sp.Rule) (c:List Sp.Arr) (p j q:Addr) (b:Int) (g:List Int):Prop where
 h:∃l k,cY H e p l k
 i:M4 sP H (.ref p) c
 a:c.length<1000
 n:e.length<1000
 f:K8 (dE (bF (aX c)) e)
 u:∃U,yT (aX c) U/\b∈U
 p:H j=some (.tup [.int b,.ref q])/\Rd H q (.lst (g.map .int))
 z:g.length<1000
structure ua(g:List Sp.Rule) (e:List Sp.Arr) (c:Int) (h:List Int) (Z:aD->List aD) (ks:List aD):Prop where
 s:∀k,oo (dE (bF (aX e)) g k) (Z k)
 l:∃f b n,kr (aX e) c h b f/\xm Z n [] f ks
def BD(g:List Sp.Rule)(e:List Sp.Arr)(c:Int)(h:List Int):Prop:=∀Z f b,(∀k,oo (dE (bF (aX e)) g k) (Z k))->kr (aX e) c h b f->∃n ks,xm Z n [] f ks
inductive yW(sP:Sp):Sp
 |mk {H:Hp} {RL:List Sp.Rule} {As:List Sp.Arr} {p sp q:Addr} {room:Int} {aO:List Int} {Q:VK} {E:XK} (i:t_ sP H RL As p sp q room aO) (ok:BD RL As room aO) (k:∀d Z AA ks r,Same H r->H d=none->Am r d ks Z AA->ua RL As room aO Z ks->Q (.ref d) r):yW sP [.ref p,.ref sp] H Q E
def Oo(K:WK):TS:=aI (aT (bj xh [] E0 (ah (aj 2) (ah (aj 1) aF))) (aA 5)) (aI (Lj K) (b5 (aj 4)))
def QH(K:WK)(sP:Sp):TS:=aI (aT (bj (Ft sP) [] E0 (ah (aj 0) aF)) (aA 2)) (aI (aT (bj Fi [] E0 (ah (aj 0) (ah (aj 2) aF))) (aA 3)) (aI (aT dY (aA 4)) (Oo K)))
theorem Ei(h:yW sP vs H Q E):QH K sP (eQ Q) (aZ (nS 7) vs) H:=by obtain @⟨H,RL,As,p,sp,q,room,aO,Q,E,⟨⟨l,ws,h⟩,hP,ha,hl,eL,⟨U,fu,hr⟩,⟨hp,hq⟩,hz⟩,ok,k⟩:=h;refine⟨_,rfl,.mk hP (by lia) λa ks RA F O=>⟨_,rfl,_,rfl,.mk (h.same O.s) O (λk=>by have:=nM As k;lia) hl eL λa3 Z LA I g d hd=>?_⟩⟩;have i:=aw (o:=.dT []) hd;have c:upd I d (.dT []) d=some (.dT []):=ac;generalize upd I d (.dT [])=y at i c;have e:=g.g.s.trans i;have f:=O.s.trans e;refine⟨_,rfl,_,rfl,.mk (O.more j7 e) (f _ _ hp) (aU f hq) fu hr hz λdl dv A b z u m G C ow=>?_⟩;obtain⟨n,t,lp⟩:=ok Z A b g.s ow;exact QG (x6:=none) (ks:=[]) (AA:=λ_=>0) g.g hd (i.free m) ⟨⟨u _ _ c,λk v=>(nomatch v)⟩,i.trans u,λj w=>(nomatch w),dv,G,C⟩ lp rfl λx6 AA x S=>⟨_,rfl,k d Z AA t x (O.s.trans (g.g.s.trans S.s)) (O.s.free (g.g.s.free hd)) S.a ⟨g.s,A,b,n,ow,lp⟩⟩
end
section
variable{H H':Hp}{a q p d tl:Addr}{Z es:List aD}{f:aD->V}{σ:L2.St}{vs tv:List V}{v:V}{k:aD}{Q:VK}
def tM:cp (Z.map λk=>(k2 k,f k)) (k2 k)=if k∈Z then some (f k)else none:=by
 induction Z with
 |nil=>rfl
 |cons x r b=>
  rw[SD];by_cases h:x=k
  .rw[dk (by rw[h]),Sg (by rw[h];exact Sa),h]
  .rw[dm λz=>h (iI _ _ z),b];simp[Tp h]
def Ll(b:k∈Z):bG (Z.map λk=>(k2 k,f k)) (k2 k) v=Z.map λj=>(k2 j,di f k v j):=by
 unfold bG;rw[Sg,Tg]
 .refine SR λj _=>?_;show(if k2 j=k2 k then(k2 j,v)else(k2 j,f j))=_;by_cases e:j=k
  .rw[Sg (by rw[e]),e,bK]
  .rw[Sj λz=>e (iI _ _ z),cg e]
 .rw[List.any_map,WE];exact⟨k,b,Sz rfl⟩
theorem BE:∀(Z b:List aD),(b++Z).Nodup->dZ (b.map λk=>(k2 k,f k)) (Z.map λk=>(k2 k,f k))=(b++Z).map λk=>(k2 k,f k):=by
 intro Z;induction Z with
 |nil=>intro b _;rw[Tj];rfl
 |cons k Z c=>intro b e;have g:k∉b:=λz=>(SX.mp e).2.2 k z k Sa rfl;have:=c (b++[k]) (by rwa[SV]);rw[SV,SN]at this;show dZ (bG _ (k2 k) (f k)) _=_;rwa[cI _ (by rw[tM,Sj g])]
theorem Reads.Cj(h:Reads ta σ H (.ref a))(i:Reads tb σ H (.ref b))(c:Rd H a (.dT (Z.map λk=>(k2 k,f k))))(g:k∈Z)(e:H b=some (.tup ((k2 k).map kV))):Reads (ip ta tb) σ H (f k):=λQ q=>h _ (i _ ⟨a,_,rfl,.inr ⟨_,k2 k,b,c,rfl,e,by rw[tM,Sg g]⟩,q⟩)
def Pk(H:Hp)(w:V)(k:aD)(v:V):Prop:=∃p b,v=.ref p/\H p=some (.tup [.ref b,w])/\H b=some (.tup ((k2 k).map kV))
theorem Pk.keep(c:KT H H')(h:Pk H w k v):Pk H' w k v:=let ⟨p,b,e,g,i⟩:=h;⟨p,b,e,c _ _ g,c _ _ i⟩
theorem BF(h:aN (λk v=>Pk H (f k) k v) Z vs):i7 H vs (Z.map λk=>(k2 k,f k)):=by
 induction h with
 |nil=>exact .nil
 |cons h _ c=>obtain⟨p,b,e,g,i⟩:=h;exact .cons ⟨p,b,e,g,i⟩ c
def tO(b:H Dl=some (.lst vs))(g:aN (λk v=>Pk H (f k) k v) Z vs)(h:Z.Nodup)(c:∀p,H p=none->Q (.ref p) (upd H p (.dT (Z.map λk=>(k2 k,f k))))):jF [.ref Dl] H Q:=by have e:=BE (f:=f) Z [] h;rw[UL,Vo]at e;refine⟨Dl,vs,_,rfl,.inl b,BF g,?_⟩;rwa[e]
inductive Ff:Sp
 |mk {H:Hp} {tl:Addr} {tv:List V} {es:List aD} {Q:VK} {E:XK} (hl:Rd H tl (.lst tv)) (al:aN (IsSet H) es tv) (nd:es.Nodup) (hz:es.length<1000) (k:∀d H',Same H H'->H d=none->H' d=some (.dT (es.map λk=>(k2 k,V.bl true)))->Q (.ref d) H'):Ff [.ref tl] H Q E
def Oq:TE:=cm (ah (aj 0) (ah (tC (.bl true)) aF))
def QI(X:Cx)(c:Scope)(e b:Expr)(g:List Str):TS:=b5 (eR jF (ah (iD X c e g [] [] b [] (bZ X.K (aj 0))) aF))
theorem Ej(h1:tN.length=1)(J:∀S C w x T,PG (aV X scope (tN++[]) S C w x T) tg (aA 0))(K:∀S C w x T,PE (aV X scope (tN++[]) S C w x T) elt Oq)(h:Ff vs H Q E):QI X scope tg elt tN (eQ Q) (aZ (nS 1) vs) H:=by
 obtain @⟨H,tl,tv,es,Q,E,hl,al,nd,hz,k⟩:=h;have Y:=al.len;refine⟨_,rfl,tl,rfl,⟨_,.inl hl⟩,?_⟩;refine iL (n:=es.length) J (λ_ _ _ _ _=>dw) K (λl i g H'=>Same H H'/\H' l=some (.lst g)/\aN (λk v=>Pk H' (.bl true) k v) (es.take i) g/\H l=none) (λl r=>⟨aw r,ac,.nil,r⟩) (λh=>h.2.1) (λl i g H' ⟨P,_⟩ L=>⟨tv,tv[i]'(by lia),.inl (aU P hl),R_ _⟩) (λl g H' ⟨P,_⟩=>⟨tv,.inl (aU P hl),by lia⟩) (λl i g H' N m o L ⟨P,r,s,D⟩ y F=>?_) λl g H' r ⟨P,A,s,_⟩=>?_
 .obtain⟨rfl,y⟩:=y;have M:=y _ (.inl (aU P hl));obtain⟨t,B,b,rfl,V⟩:=al.get M;rw[h1]at F;obtain⟨O,rfl⟩:=Ui.mp F;refine⟨λj G=>?_,fK (lI (ws:=[.ref b,.bl true]) (.c (.va rfl) (.c .k .ni)) rfl λp I=>?_)⟩
  .rw[h1]at G;obtain⟨j,rfl⟩:=Ti G;rfl
  .have W:l≠p:=ay r I;have R:Same m (upd m p (.tup [.ref b,.bl true])):=aw I;have U:KT m (upd (upd m p (.tup [.ref b,.bl true])) l (.lst (g++[.ref p]))):=(KT.of R).trans (.upd (R _ _ r) λ_ z=>(nomatch z));refine⟨R _ _ r,hG (by rw[<- s.len,TC];lia),λc u e=>?_,ac,?_,D⟩
   .rw[ai (ay e D)];exact R _ _ (P _ _ e)
   .rw[Sv,B];exact(s.mono λk v h=>h.keep U).snoc ⟨p,b,rfl,by rw[ai (Tp W),ac],U _ _ (P _ _ V)⟩
 .rw[SU]at s;exact tO A s nd λd hd=>k d _ (P.trans (aw hd)) (P.free hd) ac
end
noncomputable def lJ(Z:aD->List aD)(k:aD):Int:=((Z k).length:Nat)
noncomputable def g_(Z:aD->List aD)(a:List aD):List (aD×aD):=a.flatMap λh=>(Z h).map λo=>(h,o)
noncomputable def gc(a:List (aD×aD))(k:aD):List aD:=(a.filter λe=>decide (e.2=k)).map (·.1)
def BH(a:List (aD×aD))(e:aD×aD):gc (a++[e])=di (gc a) e.2 (gc a e.2++[e.1]):=by
 funext k;unfold gc di;by_cases h:k=e.2
 .rw[Sg h,h,Tt];simp
 .rw[Sj h,Tt];simp[Tp h]
def wR(a:List (aD×aD))(k:aD):(gc a k).length<=a.length:=by unfold gc;rw[R9];exact TZ ..
def tP(Z:aD->List aD)(a:List aD)(k:aD):g_ Z (a++[k])=g_ Z a++(Z k).map λo=>(k,o):=by unfold g_;rw[UI];simp
def wU(h:∀k,(Z k).length<=63)(b:List aD):(g_ Z b).length<=63*b.length:=by
 unfold g_;induction b with
 |nil=>exact R7 _
 |cons x l a=>have:=h x;rw[Ue,Sm,SG,R9];lia
section
variable{X:Cx}{K:WK}{B H H':Hp}{a am q p l bd:Addr}{r a0:List aD}{Z F:aD->List aD}{AA BA:aD->Addr}{f:aD->V}{D:Ends}{σ:L2.St}{vs tv:List V}{k:aD}{Q:VK}
def jc(e:H am=some u)(s:Same (upd H am (.bv o u)) H1):Same H (upd H1 am u):=λc w h=>by
 by_cases z:c=am
 .rwa[z,ac,<- e,<- z]
 .rw[ai z];exact s _ _ (by rwa[ai z])
def F7(K:WK):TE:=cm (ah (aj 0) (ah (eR (gq K) (ah (aj 1) aF)) aF))
def Lm(X:Cx)(c:Scope)(d b:Expr)(e:List Str):TS:=λD σ H=>aT (eR jF (ah (iD X c d e [] [] b [] (AB X (aj 0))) aF)) (aA 1) (Aa X D) σ H
theorem QJ(h1:tN.length=2)(W:∀cl C t O fp,PG (aV X scope (tN++[]) cl C t O fp) tg (c9 X.K 2 (aR (aA 0) (aR (aA 1) cZ))))(Y:∀cl C t O fp,PE (aV X scope (tN++[]) cl C t O fp) elt (F7 X.K))
 (A:Am H am r Z AA) (nd:r.Nodup) (hz:r.length<1000) (h0:σ[0]?=some (some (.ref am))) (k:∀l H',Same H H'->H l=none->H' l=some (.dT (r.map λk=>(k2 k,V.int (lJ Z k))))->D.nx (σ.set 1 (some (.ref l))) H'):Lm X scope tg elt tN D σ H:=by
 refine⟨_,h0,am,_,_,rfl,.inl rfl,.inr ⟨A.r,λo ho=>?_⟩⟩;have kt:KT H (upd H am (.bv o (.dT (r.map λk=>(k2 k,V.ref (AA k)))))):=.upd A.r λ_ z=>(nomatch z);have G:upd H am (.bv o (.dT (r.map λk=>(k2 k,V.ref (AA k))))) am=some (.bv o (.dT (r.map λk=>(k2 k,V.ref (AA k))))):=ac;have kp:Kp am H (upd H am (.bv o (.dT (r.map λk=>(k2 k,V.ref (AA k)))))):=λc u e n=>by rwa[ai n]
 have back:∀{H1},Same (upd H am (.bv o (.dT (r.map λk=>(k2 k,V.ref (AA k)))))) H1->Same H (upd H1 am (.dT (r.map λk=>(k2 k,V.ref (AA k))))):=λs=>jc A.r s;generalize upd H am (.bv o (.dT (r.map λk=>(k2 k,V.ref (AA k)))))=H1 at kt G kp back;refine iL (n:=r.length) W (λ_ _ _ _ _=>dw) Y (λg i d H'=>Same H1 H'/\H' g=some (.lst d)/\aN (λk v=>Pk H' (.int (lJ Z k)) k v) (r.take i) d/\H1 g=none) (λg I=>⟨aw I,ac,.nil,I⟩) (λh=>h.2.1) (λg i d H' ⟨sm,_⟩ P=>⟨sm _ _ G,by rwa[R9]⟩) (λg d H' ⟨sm,_⟩=>⟨sm _ _ G,by rw[R9];exact R7 _⟩) (λg i d H' xv H'' S P ⟨sm,I,J,T⟩ y L=>?_) λg d H' I ⟨sm,R,J,_⟩=>?_
 .obtain⟨p,b,kk,v,hp,rfl,hb,rfl,e⟩:=y;have M:r[i]?=some r[i]:=R_ P;rw[Su,M]at e;generalize r[i]=ki at M e;cases e;rw[h1]at L;obtain⟨u0,u1,rfl⟩ : ∃x y,S=[x,y]:=by
   match S,L with
   |[x,y],_=>exact⟨x,y,rfl⟩
  obtain⟨ws,e1,al⟩:=A.v ki (SB M);have s2:Same H' (upd H' p (.tup [.ref b,.ref (AA ki)])):=aw hp;have ea:=s2 _ _ (sm _ _ (kp _ _ e1 λz=>by rw[z,A.r]at e1;cases e1));refine wD ac ⟨λj U=>?_,fK (lI (ws:=[.ref b,.int ws.length]) (.c (.va rfl) (.c (.rA (.va rfl) (.inl ea)) .ni)) rfl λp2 w=>?_)⟩
  .rw[h1]at U;obtain⟨j,rfl⟩:=Ti U;rfl
  .have m:=s2 _ _ I;generalize upd H' p (.tup [.ref b,.ref (AA ki)])=N at s2 w m;have np:g≠p2:=ay m w;have t:Same N (upd N p2 (.tup [.ref b,.int ws.length])):=aw w;have k3:KT N (upd (upd N p2 (.tup [.ref b,.int ws.length])) g (.lst (d++[.ref p2]))):=(KT.of t).trans (.upd (t _ _ m) λ_ z=>(nomatch z));refine⟨t _ _ m,hG (by rw[<- J.len,TC];lia),λc u e=>?_,ac,?_,T⟩
   .rw[ai (ay e T)];exact t _ _ (s2 _ _ (sm _ _ e))
   .rw[Sv,M];refine(J.mono λk v h=>h.keep ((KT.of s2).trans k3)).snoc ⟨p2,b,rfl,?_,k3 _ _ (s2 _ _ hb)⟩;rw[ai (Tp np),ac];unfold lJ;rw[al.len]
 .rw[SU]at J;refine(tO (Q:=λx H1=>aA 1 x σ H1 (Aa X D).nx) (f:=λk=>.int (lJ Z k)) R J nd λl E=>.inr ⟨am,o,_,aw E _ _ (sm _ _ G),⟨⟩,ho,?_⟩ : jF [V.ref g] H' _);have s4:=sm.trans (aw (o:=.dT (r.map λk=>(k2 k,V.int (lJ Z k)))) E);have nl:l≠am:=λz=>by rw[z,sm _ _ G]at E;cases E
  have sB:=back s4;refine k l _ sB ?_ (by rw[ai nl,ac]);cases e:H l with
  |none=>rfl
  |some u=>rw[sm _ _ (kp _ _ e nl)]at E;cases E
theorem Ic(h:Gr IsSet B H bd a0 F BA)(t:a0.length<15000000)(m:σ[i]?=some (some (.ref bd)))(o:Reads tk σ H (.ref b))(v:H b=some (.tup ((k2 k).map kV)))
 (d:∀H' g,Kp bd H H'->KT H H'->Gr IsSet B H' bd (hI a0 k) F g->k∈hI a0 k->Q (.ref (g k)) H'):KZ K i tk σ H Q:=by
 refine⟨_,m,.inr (.inr (.inl ⟨rfl,.inr ⟨_,h.r⟩⟩)),o _ ⟨Sw _,λq j=>?_⟩⟩;have s:Same H (upd H q (.lst [])):=aw j;refine⟨bd,b,k2 k,.ref q,_,rfl,rfl,s _ _ v,.inl (s _ _ h.r),hG (by rwa[R9]),?_⟩;rw[d5];unfold hI at d;by_cases e:k∈a0
 .rw[Sg e]at d ⊢;exact .inl ⟨_,rfl,d _ _ (.of s) (.of s) (h.more bo s) e⟩
 .rw[Sj e]at d ⊢;refine .inr ⟨rfl,?_⟩;rw[cI _ (by rw[d5,Sj e])];have:=d _ _ (λc u e n=>by rw[ai n];exact s _ _ e) ((KT.of s).trans (.upd (s _ _ h.r) λ_ z=>(nomatch z))) (h.new bo e j) (SK _ Sa);rwa[bK]at this
def Lo(K:WK):TS:=cU (bZ K (aj 4)) (aA 5) (b9 (qc K "list" cW (KZ K 2 (aj 5)) (ah (aj 3) aF)))
noncomputable def yG(am l bd:Addr)(b c d:Option V):L2.St:=[some (.ref am),some (.ref l),some (.ref bd),b,c,d,none,none,none]
theorem QK(G:Gr IsSet B H bd a0 (gc es) BA)(g:a0.length<=es.length)(N:es.length+zs.length<1000000)(y:B al=some (.lst tv))(n:aN (IsSet B) zs tv)(h:H hb=some (.tup ((k2 ki).map kV)))(L:σ=yG am l bd (some (.ref hb)) (some (.ref al)) x5)
 (k:∀x5 H' c d,Gr IsSet B H' bd c (gc (es++zs.map λo=>(ki,o))) d->c.length<=es.length+zs.length->D.nx (yG am l bd (some (.ref hb)) (some (.ref al)) x5) H'):Lo K D σ H:=by
 subst L;refine⟨_,rfl,al,rfl,⟨tv,SqL.of (G.s _ _ y)⟩,cc (K:=K) (a:=al) (xs:=tv) (λi e H'=>∃x5 c d,e=yG am l bd (some (.ref hb)) (some (.ref al)) x5/\Gr IsSet B H' bd c (gc (es++(zs.take i).map λo=>(ki,o))) d/\c.length<=es.length+i/\H' hb=some (.tup ((k2 ki).map kV))) ⟨x5,a0,BA,rfl,(by rwa[List.take_zero,UL,Tj]),g,h⟩ (λi e H' _ ⟨_,_,_,_,G,_⟩=>SqL.of (G.s _ _ y)) (λi v e H' C ⟨x5,c,d,S,G,g,h⟩=>?_) λe H' ⟨x5,c,d,S,G,g,h⟩=>?_⟩
 .subst S;obtain⟨t,j,b,rfl,u⟩:=n.get C;have E:=(Si.mp j).1;have bl:=wR (es++(zs.take i).map λo=>(ki,o)) t;rw[Sm,R9,TC]at bl;refine Ic (i:=2) (k:=t) (b:=b) G (by lia) rfl (.va rfl) (G.s _ _ u) λO w P J A m=>?_;obtain⟨R,ws,I,x⟩:=A.v t m;refine⟨.inl ⟨rfl,_,SqL.of I⟩,_,rfl,_,_,_,rfl,rfl,I,hG (by rw[<- x.len];lia),_,hI c t,w,rfl,?_,(by have:=nN c t;lia),KT.upd I (λ_ z=>(nomatch z)) _ _ (J _ _ h)⟩;have:=A.ext bo m I (zs:=[ki]) (ws:=[.ref hb]) (.cons ⟨hb,rfl,J _ _ h⟩ .nil);have M:es++(zs.take (i+1)).map (λo=>(ki,o))=(es++(zs.take i).map λo=>(ki,o))++[(ki,t)]:=by rw[Sv,j,SN,SV];rfl
  rwa[M,BH]
 .subst S;rw[<- n.len,SU]at G;exact k x5 H' c d G (by rwa[<- n.len]at g)
def Lp(X:Cx):TS:=λD σ H=>cU (AB X (aj 0)) (c9 X.K 2 (aR (aA 3) (aR (aA 4) cZ))) (Lo X.K) (Aa X D) σ H
theorem QL(A:Am B am r Z AA)(hz:r.length<1000)(R:∀k,(Z k).length<=63)(hb:B bd=none)(G:Gr IsSet B H bd [] (gc []) BA)(hs:σ=yG am l bd none none none)
 (k:∀x3 x4 x5 H' d g,Gr IsSet B H' bd d (gc (g_ Z r)) g->D.nx (yG am l bd x3 x4 x5) H'):Lp X D σ H:=by
 subst hs;have er:=G.s _ _ A.r;refine⟨_,rfl,am,_,_,rfl,.inl rfl,.inr ⟨er,λo W=>?_⟩⟩;have w:bd≠am:=λz=>by rw[z,A.r]at hb;cases hb
 have E:KT B (upd B am (.bv o (.dT (r.map λk=>(k2 k,V.ref (AA k)))))):=.upd A.r λ_ z=>(nomatch z);have t:upd B am (.bv o (.dT (r.map λk=>(k2 k,V.ref (AA k))))) am=some (.bv o (.dT (r.map λk=>(k2 k,V.ref (AA k))))):=ac;have C:Kp am B (upd B am (.bv o (.dT (r.map λk=>(k2 k,V.ref (AA k)))))):=λc u e n=>by rwa[ai n]
 have back:∀{H1},Same (upd B am (.bv o (.dT (r.map λk=>(k2 k,V.ref (AA k)))))) H1->Same B (upd H1 am (.dT (r.map λk=>(k2 k,V.ref (AA k))))):=λs=>jc A.r s;have S:upd B am (.bv o (.dT (r.map λk=>(k2 k,V.ref (AA k))))) bd=none:=by rwa[ai w]
 have M:Gr IsSet (upd B am (.bv o (.dT (r.map λk=>(k2 k,V.ref (AA k)))))) (upd H am (.bv o (.dT (r.map λk=>(k2 k,V.ref (AA k)))))) bd [] (gc (g_ Z (r.take 0))) BA:=⟨λc u e=>by
  by_cases z:c=am
  .rw[z,ac]at e ⊢;exact e
  .rw[ai z]at e ⊢;exact G.s _ _ e,by rw[ai w];exact G.r,S,λk h=>(nomatch h),λk h=>(nomatch h),λk _=>rfl⟩
 generalize upd B am (.bv o (.dT (r.map λk=>(k2 k,V.ref (AA k)))))=Y at E t C back S M;generalize upd H am (.bv o (.dT (r.map λk=>(k2 k,V.ref (AA k)))))=H1 at M;refine iJ (n:=(r.map λk=>(k2 k,V.ref (AA k))).length) (λi m H'=>∃x3 x4 x5 d g,m=yG am l bd x3 x4 x5/\Gr IsSet Y H' bd d (gc (g_ Z (r.take i))) g/\d.length<=(g_ Z (r.take i)).length) ⟨none,none,none,[],BA,rfl,M,R7 _⟩ (λi m H' ⟨_,_,_,_,_,_,G,_⟩ J=>⟨G.s _ _ t,J⟩) (λm H' ⟨_,_,_,_,_,_,G,_⟩=>⟨G.s _ _ t,R7 _⟩) (λi m H' x H'' D' J q y k'=>?_) λm H' q=>?_
 .obtain⟨x3,x4,x5,d,g,rfl,G,T⟩:=q;obtain⟨p,b,kk,v,hp,rfl,N,rfl,e⟩:=y;rw[R9]at J;have L:r[i]?=some r[i]:=R_ J;rw[Su,L]at e;generalize r[i]=ki at L e;cases e;obtain⟨ws,e1,al⟩:=A.v ki (SB L);have e1:=C _ _ e1 λz=>by rw[z,A.r]at e1;cases e1
  have al:=al.mono (bo E);have s2:=aw (o:=.tup [.ref b,.ref (AA ki)]) hp;have el:=wU R (r.take i);have lt:=S_ i r;have z:=R ki;have U:r.take (i+1)=r.take i++[ki]:=by rw[Sv,L];rfl
  refine wD ac (QK (l:=l) (am:=am) (x5:=x5) (ki:=ki) (es:=g_ Z (r.take i)) (zs:=Z ki) (G.more bo s2) T (by lia) e1 al (s2 _ _ N) rfl λx5 H3 I O G3 h3=>k' _ _ ⟨_,_,_,I,O,rfl,(by rwa[U,tP]),by rwa[U,tP,Sm,R9]⟩)
 .obtain⟨x3,x4,x5,d,g,rfl,G,T⟩:=q;rw[R9,SU]at G;have P:=G.s _ _ t;have nl:∀{c b},H' c=some (.lst b)->c≠am:=λe z=>by rw[z,P]at e;cases e
  refine .inr ⟨am,o,_,P,⟨⟩,W,k _ _ _ _ d g ⟨back G.s,by rw[ai w];exact G.r,hb,λj hj=>?_,G.i,G.z⟩⟩;obtain⟨n1,vs,e1,al⟩:=G.v j hj;refine⟨?_,vs,by rwa[ai (nl e1)],al.mono (bo (.upd P λ_ z=>(nomatch z)))⟩;cases e:B (g j)with
  |none=>rfl
  |some u=>rw[C _ _ e (nl e1)]at n1;cases n1
end
structure KS where
 N:aD->Int
 ended:List aD
 bU:List aD
def fB(S:KS)(h:aD):KS:=⟨di S.N h (S.N h-1),if S.N h-1=0 then S.ended++[h]else S.ended,if S.N h-1=0 then S.bU++[h]else S.bU⟩
inductive KL(bf:aD->List aD):Nat->KS->KS->Prop
 |done {n:Nat} {S:KS} (h:S.bU=[]):KL bf n S S
 |step {n:Nat} {N:aD->Int} {ended bU:List aD} {last:aD} {S':KS} (f1:ended.length+(bf last).length<100000) (f2:bU.length+(bf last).length<100000) (r:KL bf n ((bf last).foldl fB ⟨N,ended,bU⟩) S'):KL bf (n+1) ⟨N,ended,bU++[last]⟩ S'
def BI(S:KS)(h:aD):(fB S h).ended.length<=S.ended.length+1/\(fB S h).bU.length<=S.bU.length+1:=by unfold fB;dsimp only;split<;>simp
def BJ:∀(l:List aD)(S:KS),(l.foldl fB S).ended.length<=S.ended.length+l.length/\(l.foldl fB S).bU.length<=S.bU.length+l.length:=by
 intro l;induction l with
 |nil=>exact λS=>⟨R7 _,R7 _⟩
 |cons x l a=>intro S;have h1:=BI S x;have b:=a (fB S x);rw[Ul,SG];lia
section
variable{X:Cx}{K:WK}{H H':Hp}{am q d l bd el dl:Addr}{ks a0:List aD}{Z bf:aD->List aD}{AA BA:aD->Addr}{N:aD->Int}{f:aD->V}{D:Ends}{σ:L2.St}{k:aD}{Q:VK}{S:KS}
noncomputable def nQ(X:Cx)(g:Scope)(m a:Expr)(n h:List Str)(j:List Nat)(b:List Expr)(i:Nat)(c:TI):TS:=λD σ H=>c σ H (ce X g m n h j a b σ λe _ H'=>D.nx (σ.set i (some (.ref e))) H')
def F8:TT:=bO (ba pX (ip (aj 1) (aj 0)) (tC (.int 0)))
def Lq(X:Cx)(c:Scope)(h a:Expr)(i e:List Str)(g:List Nat)(b:List Expr):TS:=λD σ H=>nQ X c h a i e g b 6 (wO X (aj 0)) (Aa X D) σ H
theorem wV{P:aD->Bool}{Fin:Addr->List V->Hp->Prop}(h1:tN.length=1)(s:jz σ caps=cap)(J:∀cl C t v fp,PG (aV X scope (tN++capN) cl C t v fp) tg (aA 0))(L:∀cl C t v fp,y9 (aV X scope (tN++capN) cl C t v fp) ifs tt)(M:∀cl C t v fp,PE (aV X scope (tN++capN) cl C t v fp) elt (aj 0))
 (F:H1 am=some (.bv o u)) (hz:ks.length<1000) (O:∀k∈ks,∀b H',Same H1 H'->H' b=some (.tup ((k2 k).map kV))->∀Q:Bool->Hp->Prop,Q (P k) H'->tt (some (.ref b)::cap) H' Q)
 (k:∀g a H',H1 g=none->Same H1 H'->H' g=some (.lst a)->aN (IsSet H') (ks.filter P) a->Fin g a H'):ce X scope tg tN capN caps elt ifs σ Fin (N_ am o u (ks.map λk=>(k2 k,f k))) H1:=by
 refine iL (n:=ks.length) J L M (λg i a H'=>Same H1 H'/\H' g=some (.lst a)/\aN (IsSet H') ((ks.take i).filter P) a/\H1 g=none) (λg m=>⟨aw m,ac,.nil,m⟩) (λh=>h.2.1) (λg i a H' ⟨sm,_⟩ A=>⟨sm _ _ F,by rwa[R9]⟩) (λg a H' ⟨sm,_⟩=>⟨sm _ _ F,by rw[R9];exact R7 _⟩) (λg i a H' R p T A ⟨sm,m,r,B⟩ y w=>?_) λg a H' m ⟨sm,E,r,_⟩=>k g a H' m sm E (by rwa[SU]at r);obtain⟨rfl,b,U,W,e,rfl,hb⟩:=y;have x:ks[i]?=some ks[i]:=R_ A;rw[Su,x]at e;generalize ks[i]=ki at x e;cases e;rw[h1]at w;obtain⟨Y,rfl⟩:=Ui.mp w;rw[s];have G:ks.take (i+1)=ks.take i++[ki]:=by rw[Sv,x];rfl
 have fl:=TZ P (ks.take i);have lt:=S_ i ks;refine⟨λj I=>?_,O ki (SB x) b p sm hb _ (qj (λc=>⟨_,rfl,m,hG (by rw[<- r.len];lia),λc u e=>?_,ac,?_,B⟩) λc=>⟨sm,m,?_,B⟩)⟩
 .rw[h1]at I;obtain⟨j,rfl⟩:=Ti I;rfl
 .rw[ai (ay e B)];exact sm _ _ e
 .have kt:KT p (upd p g (.lst (a++[.ref b]))):=.upd m λ_ z=>(nomatch z);rw[G,Tt,T7,Sg c];exact(r.mono (bo kt)).snoc ⟨b,rfl,kt _ _ hb⟩
 .rwa[G,Tt,T7,Sj c,List.filter_nil,Tj]
theorem QM{L:Scope}{U a:Expr}(h1:tN.length=1)(x:caps=[1])(y:∀M C g h O,PG (aV X L (tN++capN) M C g h O) U (aA 0))(B:∀M C g h O,y9 (aV X L (tN++capN) M C g h O) ifs F8)(E:∀M C g h O,PE (aV X L (tN++capN) M C g h O) a (aj 0))
 (A:Am H am ks Z AA) (W:ks.length<1000) (F:H l=some (.dT (ks.map λk=>(k2 k,V.int (N k))))) (nl:l≠am) (Y:σ[0]?=some (some (.ref am))) (p:σ[1]?=some (some (.ref l))) (k:∀e w H',Same H H'->H e=none->H' e=some (.lst w)->aN (IsSet H') (ks.filter λk=>decide (N k=0)) w->D.nx (σ.set 6 (some (.ref e))) H'):Lq X L U a tN capN caps ifs D σ H:=by
 refine⟨_,Y,am,_,_,rfl,.inl rfl,A.r,λo G=>?_⟩;have i:upd H am (.bv o (.dT (ks.map λk=>(k2 k,V.ref (AA k))))) am=some (.bv o (.dT (ks.map λk=>(k2 k,V.ref (AA k))))):=ac;have T:Kp am H (upd H am (.bv o (.dT (ks.map λk=>(k2 k,V.ref (AA k)))))):=λc u e n=>by rwa[ai n]
 have back:∀{H1},Same (upd H am (.bv o (.dT (ks.map λk=>(k2 k,V.ref (AA k)))))) H1->Same H (upd H1 am (.dT (ks.map λk=>(k2 k,V.ref (AA k))))):=λs=>jc A.r s;generalize upd H am (.bv o (.dT (ks.map λk=>(k2 k,V.ref (AA k)))))=H1 at i T back;refine wV (cap:=[some (.ref l)]) h1 (by rw[x];show[σ[1]?.join]=_;rw[p];rfl) y B E i W (P:=λk=>decide (N k=0)) (λk I b H' R hb Q q=>Reads.xn (.Cj (f:=λk=>.int (N k)) (.va rfl) (.va rfl) (.inl (R _ _ (T _ _ F nl))) I hb) .k _ ⟨_,rfl,q⟩) λt v H' m R J al=>.inr ⟨am,o,_,R _ _ i,⟨⟩,G,?_⟩;have j:t≠am:=λz=>by rw[z,i]at m;cases m
 refine k t v _ (back R) ?_ (by rw[ai j];exact J) (al.mono (bo (.upd (R _ _ i) λ_ z=>(nomatch z))));cases e:H t with
 |none=>rfl
 |some u=>rw[T _ _ e j]at m;cases m
structure uj(g H:Hp) (l el dl:Addr) (ks:List aD) (S:KS):Prop where
 f:∀c u,g c=some u->c≠l->c≠el->c≠dl->H c=some u
 l:H l=some (.dT (ks.map λk=>(k2 k,V.int (S.N k))))
 e:∃a,H el=some (.lst a)/\aN (IsSet H) S.ended a
 d:∃b,H dl=some (.lst b)/\aN (IsSet H) S.bU b
structure MR(a:Hp) (am l bd el dl:Addr) (ks a0:List aD) (bf:aD->List aD) (BA:aD->Addr):Prop where
 b:a bd=some (.dT (a0.map λk=>(k2 k,.ref (BA k))))
 v:∀k∈a0,∃g,a (BA k)=some (.lst g)/\aN (IsSet a) (bf k) g/\BA k≠el/\BA k≠dl
 z:∀k,k∉a0->bf k=[]
 i:∀k,∀h∈bf k,h∈ks
 n1:bd≠l
 n2:el≠dl
 kt:∀c w,a c=some (.tup w)->c≠l/\c≠el/\c≠dl
 d:∃x,a l=some (.dT x)
 e:∃x,a el=some (.lst x)
 q:∃x,a dl=some (.lst x)
noncomputable def oP(am l bd el dl:Addr)(a b c e:Option V):L2.St:=[some (.ref am),some (.ref l),some (.ref bd),a,b,c,some (.ref el),some (.ref dl),e]
def F9:R2:=uh λi j=>.int (i-j)
def Os(K:WK):TS:=dQ (bO (ba pX (ip (aj 1) (aj 3)) (tC (.int 0)))) (aI (b9 (qc K "list" cW (aj 6) (ah (aj 3) aF))) (b9 (qc K "list" cW (aj 7) (ah (aj 3) aF)))) ck
def Lr(K:WK):TS:=aI (jk (aj 1) (aj 3) (ba F9 (ip (aj 1) (aj 3)) (tC (.int 1)))) (Os K)
theorem QN(M:MR HM am l bd el dl ks a0 bf BA)(C:uj HM H l el dl ks S)(E:h∈ks)(hb:HM b=some (.tup ((k2 h).map kV)))(hz:ks.length<1000)(J:S.ended.length<200000)(L:S.bU.length<200000)(hs:σ=oP am l bd el dl (some (.ref b)) x4 x5 x8)(k:∀H',uj HM H' l el dl ks (fB S h)->D.nx (oP am l bd el dl (some (.ref b)) x4 x5 x8) H'):Lr K D σ H:=by
 subst hs;obtain⟨O,s,⟨w,i,r⟩,⟨P,hd,ad⟩⟩:=C;obtain⟨F,t2,G⟩:=M.kt _ _ hb;have a:=O _ _ hb F t2 G;have x:el≠l:=λz=>by rw[z,s]at i;cases i
 have y:dl≠l:=λz=>by rw[z,s]at hd;cases hd
 refine Reads.op (z:=.int (S.N h-1)) (.Cj (f:=λk=>.int (S.N k)) (.va rfl) (.va rfl) (.inl s) E a) .k (λ_ q=>⟨_,_,rfl,rfl,q⟩) _ ⟨_,rfl,_,rfl,l,_,rfl,DPut.t s (k:=k2 h) a (hG (by rw[R9];lia)),?_⟩;rw[Ll E];have I:(ks.map λj=>(k2 j,di (λk=>V.int (S.N k)) h (.int (S.N h-1)) j))=ks.map λj=>(k2 j,V.int (di S.N h (S.N h-1) j)):=SR λj _=>by
  by_cases e:j=h
  .rw[e,bK,bK]
  .rw[cg e,cg e]
 rw[I];have U:KT H (upd H l (.dT (ks.map λj=>(k2 j,V.int (di S.N h (S.N h-1) j))))):=.upd s λ_ z=>(nomatch z);have o:upd H l (.dT (ks.map λj=>(k2 j,V.int (di S.N h (S.N h-1) j)))) l=some (.dT (ks.map λj=>(k2 j,V.int (di S.N h (S.N h-1) j)))):=ac;have W:Kp l H (upd H l (.dT (ks.map λj=>(k2 j,V.int (di S.N h (S.N h-1) j))))):=λc u e n=>by rwa[ai n]
 have i:=W _ _ i x;have hd:=W _ _ hd y;have r:=r.mono (bo U);have ad:=ad.mono (bo U);have a:=U _ _ a;have O:∀c u,HM c=some u->c≠l->c≠el->c≠dl->upd H l (.dT (ks.map λj=>(k2 j,V.int (di S.N h (S.N h-1) j)))) c=some u:=λc u e R T B=>W _ _ (O c u e R T B) R;generalize upd H l (.dT (ks.map λj=>(k2 j,V.int (di S.N h (S.N h-1) j))))=Y at o i hd r ad a O;refine g7 (.xn (m:=S.N h-1) (n:=0) (λQ q=>Reads.Cj (f:=λk=>.int (di S.N h (S.N h-1) k)) (.va rfl) (.va rfl) (.inl o) E a Q (by rwa[bK])) .k) (λc=>?_) λc=>?_
 .have c:=SO c;refine⟨_,rfl,.inl ⟨rfl,_,SqL.of i⟩,_,rfl,el,w,_,rfl,rfl,i,hG (by rw[<- r.len];lia),?_⟩;have A:KT Y (upd Y el (.lst (w++[.ref b]))):=.upd i λ_ z=>(nomatch z);have p:upd Y el (.lst (w++[.ref b])) dl=some (.lst P):=by rw[ai (Tp M.n2)];exact hd
  refine⟨_,rfl,.inl ⟨rfl,_,SqL.of p⟩,_,rfl,dl,P,_,rfl,rfl,p,hG (by rw[<- ad.len];lia),k _ ⟨λc u e R T B=>?_,?_,⟨w++[.ref b],?_,?_⟩,⟨P++[.ref b],ac,?_⟩⟩⟩
  .rw[ai B,ai T];exact O c u e R T B
  .rwa[ai (Tp y),ai (Tp x)]
  .rw[ai M.n2,ac]
  .have g:=A.trans (KT.upd (v:=.lst (P++[.ref b])) p λ_ z=>(nomatch z));unfold fB;dsimp only;rw[Sg c];exact(r.mono (bo g)).snoc ⟨b,rfl,g _ _ a⟩
  .have g:=A.trans (KT.upd (v:=.lst (P++[.ref b])) p λ_ z=>(nomatch z));unfold fB;dsimp only;rw[Sg c];exact(ad.mono (bo g)).snoc ⟨b,rfl,g _ _ a⟩
 .have c:¬S.N h-1=0:=λz=>c (Sz z);refine k _ ⟨O,o,⟨w,i,?_⟩,⟨P,hd,?_⟩⟩
  .unfold fB;dsimp only;rwa[Sj c]
  .unfold fB;dsimp only;rwa[Sj c]
end
def BK(m:h∈gc (g_ Z ks) k):h∈ks:=by obtain⟨e,a,rfl⟩:=Se.mp m;obtain⟨x,b,a⟩:=TN.mp (SJ.mp a).1;obtain⟨o,_,rfl⟩:=Se.mp a;exact b
section
variable{K:WK}{H v HM:Hp}{a am q d l bd el dl:Addr}{ks a0:List aD}{Z bf:aD->List aD}{AA BA:aD->Addr}{N:aD->Int}{f:aD->V}{D:Ends}{σ:L2.St}{S S':KS}
def Lu(K:WK):TS:=cU (bZ K (cu (aj 2) (aj 8) (dR aF))) (aA 3) (Lr K)
theorem uj.RJ(M:MR HM am l bd el dl ks a0 bf BA)(C:uj HM H l el dl ks S):H bd=some (.dT (a0.map λk=>(k2 k,.ref (BA k)))):=by obtain⟨_,e⟩:=M.e;obtain⟨_,q⟩:=M.q;exact C.f _ _ M.b M.n1 (λz=>by rw[<- z,M.b]at e;cases e) λz=>by rw[<- z,M.b]at q;cases q
def uj.more(C:uj HM H l el dl ks S)(s:Same H v):uj HM v l el dl ks S:=⟨λc u e h i b=>s _ _ (C.f c u e h i b),s _ _ C.l,let ⟨j,e,g⟩:=C.e;⟨j,s _ _ e,g.mono (bo (.of s))⟩,let ⟨j,e,g⟩:=C.d;⟨j,s _ _ e,g.mono (bo (.of s))⟩⟩
theorem QO(M:MR HM am l bd el dl ks a0 bf BA)(C:uj HM H l el dl ks S)(Q:H b=some (.tup ((k2 last).map kV)))(R:ks.length<1000)(B:S.ended.length+(bf last).length<100000)(E:S.bU.length+(bf last).length<100000)(T:σ=oP am l bd el dl I x4 x5 (some (.ref b)))
 (k:∀I v,uj HM v l el dl ks ((bf last).foldl fB S)->D.nx (oP am l bd el dl I x4 x5 (some (.ref b))) v):Lu K D σ H:=by
 subst T;have s:=C.RJ M;refine cO ?_;refine⟨_,rfl,bd,rfl,.inr ⟨_,.inl s⟩,_,rfl,Sw _,λq x=>?_⟩;have J:=aw (o:=.lst []) x;refine⟨_,DGet.t (k:=k2 last) (J _ _ s) (J _ _ Q),?_⟩;rw[d5];have j:=C.more J;have g:upd H q (.lst []) q=some (.lst []):=ac;generalize upd H q (.lst [])=U at j g;by_cases m:last∈a0
 .rw[Sg m];obtain⟨L,O,P,V,W⟩:=M.v last m;have nl:BA last≠l:=λz=>by obtain⟨_,e⟩:=M.d;rw[z,e]at O;cases O
  have u:∀{v S},uj HM v l el dl ks S->v (BA last)=some (.lst L):=λC=>C.f _ _ O nl V W;refine⟨BA last,rfl,⟨L,SqL.of (u j)⟩,cc (K:=K) (a:=BA last) (xs:=L) (λi c v=>∃I,c=oP am l bd el dl I x4 x5 (some (.ref b))/\uj HM v l el dl ks (((bf last).take i).foldl fB S)) ⟨I,rfl,j⟩ (λi c v _ ⟨_,_,C⟩=>SqL.of (u C)) (λi X c v n ⟨I,p,C⟩=>?_) λc v ⟨I,p,C⟩=>?_⟩
  .subst p;obtain⟨t,w,F,rfl,r⟩:=P.get n;have dl:=BJ ((bf last).take i) S;have lt:=S_ i (bf last);refine QN (h:=t) M C (M.i last t (SB w)) r R (by lia) (by lia) rfl λG y=>⟨_,rfl,?_⟩;rwa[Sv,w,Ur]
  .subst p;rw[<- P.len,SU]at C;exact k I v C
 .rw[Sj m];refine⟨q,rfl,⟨_,SqL.of g⟩,cc (K:=K) (a:=q) (xs:=[]) (λi c v=>c=oP am l bd el dl I x4 x5 (some (.ref b))/\v=U) ⟨rfl,rfl⟩ (λi c v _ ⟨_,e⟩=>by subst e;exact SqL.of g) (λi X c v n=>by simp at n) λc v ⟨e,A⟩=>?_⟩;subst e;subst A;rw[M.z last m]at k;exact k I v j
def Lw(K:WK):TS:=mw (Eh K (aj 7)) (aI (aT (zK K "list" GU (aj 7)) (aA 8)) (Lu K))
theorem QP(M:MR HM am l bd el dl ks a0 bf BA)(C:uj HM H l el dl ks S)(F:ks.length<1000)(lp:KL bf n S S')(G:σ=oP am l bd el dl x3 x4 x5 x8)(k:∀x3 x8 v,uj HM v l el dl ks S'->D.nx (oP am l bd el dl x3 x4 x5 x8) v):Lw K D σ H:=by
 subst G;refine⟨λm σ H=>∃x3 x8 S,σ=oP am l bd el dl x3 x4 x5 x8/\uj HM H l el dl ks S/\KL bf m S S',⟨n,x3,x8,S,rfl,C,lp⟩,?_⟩;clear C lp;rintro m σ H ⟨x3,x8,S,rfl,C,lp⟩;obtain⟨I,g,A⟩:=id C.d;refine⟨_,rfl,_,.inl ⟨_,SqL.of g,rfl⟩,?_⟩;cases lp with
 |done e=>rw[e]at A;cases A;exact fq (k x3 x8 H C)
 |@step m N x bU y _ p r lp=>
  obtain⟨B,_,rfl,i,b,rfl,J⟩:=(show aN (IsSet H) (bU++[y]) I from A).rq;rw[Sg (by simp)];refine⟨λh v=>∃x3 x8,h=oP am l bd el dl x3 x4 x5 x8/\uj HM v l el dl ks ((bf y).foldl fB ⟨N,x,bU⟩),λh v ⟨x3,x8,e,C⟩=>⟨m,Uo _,x3,x8,_,e,C,lp⟩,_,rfl,.inl ⟨rfl,_,SqL.of g⟩,dl,B++[.ref b],.ref b,rfl,rfl,g,by simp,?_⟩;rw[List.dropLast_concat];have E:KT H (upd H dl (.lst B)):=.upd g λ_ z=>(nomatch z);have j:l≠dl:=λz=>by rw[<- z,C.l]at g;cases g
  have s:uj HM (upd H dl (.lst B)) l el dl ks ⟨N,x,bU⟩:=⟨λc u e L O o=>by rw[ai o];exact C.f c u e L O o,by rw[ai j];exact C.l,let ⟨t,e,A⟩:=C.e;⟨t,by rwa[ai M.n2],A.mono (bo E)⟩,⟨B,ac,i.mono (bo E)⟩⟩;exact QO M s (E _ _ J) F p r rfl λx3 w P=>⟨x3,_,rfl,P⟩
def rF(Z:aD->List aD)(ks:List aD):KS:=⟨lJ Z,ks.filter λk=>decide (lJ Z k=0),ks.filter λk=>decide (lJ Z k=0)⟩
inductive CC:Sp
 |mk {H:Hp} {am:Addr} {ks:List aD} {Z:aD->List aD} {AA:aD->Addr} {n:Nat} {S':KS} {Q:VK} {E:XK} (A:Am H am ks Z AA) (nd:ks.Nodup) (hz:ks.length<1000) (hZ:∀k,(Z k).length<=63) (lp:KL (gc (g_ Z ks)) n (rF Z ks) S') (ne:S'.ended.Nodup) (le:S'.ended.length<1000) (k:∀d v,Same H v->H d=none->v d=some (.dT (S'.ended.map λk=>(k2 k,V.bl true)))->Q (.ref d) v):CC [.ref am] H Q E
structure RQ(X:Cx) (o m:Scope) (p r s t:Expr) (j c b:List Str) (k:List Nat) (n:List Expr):Prop where
 h1:j.length=2
 g1:∀e C g h i,PG (aV X o (j++[]) e C g h i) p (c9 X.K 2 (aR (aA 0) (aR (aA 1) cZ)))
 e1:∀e C g h i,PE (aV X o (j++[]) e C g h i) r (F7 X.K)
 h2:c.length=1
 c2:k=[1]
 g2:∀e C g h i,PG (aV X m (c++b) e C g h i) s (aA 0)
 t2:∀e C g h i,y9 (aV X m (c++b) e C g h i) n F8
 e2:∀e C g h i,PE (aV X m (c++b) e C g h i) t (aj 0)
def Ot(K:WK):TS:=aI (aT (eR (jG K) (ah (aj 6) aF)) (aA 7)) (aI (Lw K) (b5 (bj Ff [] E0 (ah (aj 6) aF))))
def QQ(X:Cx)(i j:Scope)(k m n o:Expr)(b c g:List Str)(h:List Nat)(e:List Expr):TS:=aI (Lm X i k m b) (aI (aT dY (aA 2)) (aI (Lp X) (aI (Lq X j n o c g h e) (Ot X.K))))
theorem Ek(c:RQ X zf yY Cr oz Cv oA tN1 tN2 capN caps ifs)(h:CC vs H Q E):QQ X zf yY Cr oz Cv oA tN1 tN2 capN caps ifs (eQ Q) (aZ (nS 9) vs) H:=by
 obtain @⟨H,am,ks,Z,AA,n,S',Q,E,A,nd,hz,hZ,lp,ne,le,k⟩:=h;refine QJ c.h1 c.g1 c.e1 A nd hz rfl λl H1 s1 nl J bd i=>?_;have G0:Gr IsSet H1 (upd H1 bd (.dT [])) bd [] (gc []) (λ_=>0):=⟨aw i,ac,i,λk h=>(nomatch h),λk h=>(nomatch h),λk _=>rfl⟩;refine QL (l:=l) (A.more s1) hz hZ i G0 rfl λx3 x4 x5 H3 a0 BA G=>?_;have L:l≠am:=λz=>by rw[z,A.r]at nl;cases nl
 refine QM c.h2 c.c2 c.g2 c.t2 c.e2 ((A.more s1).more G.s) hz (G.s _ _ J) L rfl rfl λel p Y O y t P=>⟨_,rfl,el,p,rfl,.inl (SqL.of t),λdl j=>?_⟩;have I:=aw (o:=.lst p) j;have b:upd Y dl (.lst p) dl=some (.lst p):=ac;have g:=I _ _ t;have R:el≠dl:=ay t j;generalize upd Y dl (.lst p)=H5 at I b g;have m:=O.trans I;have T:=s1.trans (G.s.trans m);have x:=m _ _ (G.s _ _ J);have nH:∀{c},H3 c=none->H c=none:=λh=>s1.free (G.s.free h);have U:H dl=none:=nH (O.free j);have M:MR H5 am l bd el dl ks a0 (gc (g_ Z ks)) BA:=⟨m _ _ G.r,λk hk=>let ⟨_,vs,e,al⟩:=G.v k hk;⟨vs,m _ _ e,al.mono (bo (.of m)),λz=>(by rw[z,y]at e;cases e),λz=>by rw[<- z,O _ _ e]at j;cases j⟩,G.z,λ_ _ h=>BK h,λz=>(by rw[z,J]at i;cases i),R,λc w e=>⟨λz=>(by rw[z,x]at e;cases e),λz=>(by rw[z,g]at e;cases e),λz=>(by rw[z,b]at e;cases e)⟩,⟨_,x⟩,⟨_,g⟩,⟨_,b⟩⟩;have B:=P.mono (bo (.of I));refine QP (x3:=x3) (x4:=x4) (x5:=x5) (x8:=none) (S:=rF Z ks) M ⟨λc u e _ _ _=>e,x,⟨p,g,B⟩,⟨p,b,B⟩⟩ hz lp rfl λx3 x8 H6 C=>?_;obtain⟨ev',V,W⟩:=C.e;have F:Same H H6:=λc u e=>C.f _ _ (T _ _ e) (λz=>by rw[z,nl]at e;cases e) (λz=>by rw[z,nH y]at e;cases e) λz=>by rw[z,U]at e;cases e
 exact⟨_,rfl,.mk (.inl V) W ne le λd H7 s7 nd hd=>k d H7 (F.trans s7) (F.free nd) hd⟩
end
section
variable{X:Cx}{P:WL}{w:World}{H:Hp}{s:WJ}{m m':Addr->Prop}
def nR{A:WN}{l:List D}{F G:List V}{B a:List WM}(f:∀d∈l,∀v h u C,Is H m d v->Is H m' d h->RelV v u->RelV h C->SeqAt.EqAt A s u C true)(i:IsAll H m l F)(n:IsAll H m' l G)(o:Vals F B)(p:Vals G a) :
 B.length=a.length/\∀j (h1:j<B.toArray.size) (E:j<a.toArray.size),SeqAt.EqAt A s B.toArray[j] a.toArray[j] true:=by
 have I:=o.length;have J:=p.length;have y:=i.length;have z:=n.length;refine⟨by lia,λj h1 E=>?_⟩;rw[Ss]at h1 E;have k:l[j]?=some (l[j]'(by lia)):=R_ _;obtain⟨v,r,t⟩:=i.get k;obtain⟨x,c,e⟩:=n.get k;obtain⟨u,q,ru⟩:=o.get r;obtain⟨C,b,g⟩:=p.get c;rw[R_ h1]at q;rw[R_ E]at b;cases q;cases b;exact f _ (Wf _) v x _ _ t e ru g
def BL(n:Nat):(List.range n).all (λ_=>true)=true:=WF.mpr λ_ _=>rfl
def tQ{A:WN}{a b:Addr}(h:SeqAt.RcAt A s (.ref a) (.ref b) true):SeqAt.EqAt A s (.ref a) (.ref b) true:=by
 by_cases e:a=b
 .rw[e];exact SeqAt.EqAt.same _
 .exact SeqAt.EqAt.of_refs e h
def El(ok:HOk P w H s.heap)(n:Nat):∀(A:WN){d:D}{v o:V}{u Q:WM},A.units+n<cLine->d.dep<=n->n<1000->Is H m d v->Is H m' d o->RelV v u->RelV o Q->SeqAt.EqAt A s u Q true:=by
 induction n with
 |zero=>
  intro A d v o u Q I hd J h1 R c h;cases d with
  |int i=>cases h1;cases R;obtain⟨t,rfl⟩:=c;obtain⟨S,rfl⟩:=h;have:=SeqAt.EqAt.int_int (A:=A) (s:=s) i t i S;rwa [U7]at this
  |str x=>cases h1;cases R;obtain⟨t,rfl⟩:=c;obtain⟨S,rfl⟩:=h;have:=SeqAt.EqAt.str_str (A:=A) (s:=s) x t x S;rwa [U7]at this
  |cj=>cases h1;cases R;cases c;cases h;exact .same _
  |bl b=>cases h1;cases R;cases c;cases h;exact .same _
  |_=>simp only[D.dep]at hd;lia
 |succ n G=>
  intro A d v o u Q I hd J h1 R c h;have f:∀l:List D,D.iY l<=n->∀d∈l,∀v o u Q,Is H m d v->Is H m' d o->RelV v u->RelV o Q->SeqAt.EqAt A.in1 s u Q true:=λl K d U v o u Q L M c h=>by obtain⟨j,N⟩:=SC.mp U;exact G A.in1 (by show A.units+1+n<cLine;lia) (SE (qz N) K) (by lia) L M c h
  cases d with
  |tup l=>obtain⟨a,W,rfl,g,q⟩:=h1;obtain⟨O,r,rfl,T,B⟩:=R;cases c;cases h;obtain⟨Y,y,p⟩:=kI ok g;obtain⟨C,E,F⟩:=kI ok T;obtain⟨e,z⟩:=nR (f l (by simp only[D.dep]at hd;lia)) q B y E;have z:=V6 p F (by lia) z;rw[Ss,Ss,e,U7,BL]at z;exact tQ z
  |lst l=>obtain⟨a,W,rfl,g,q⟩:=h1;obtain⟨O,r,rfl,T,B⟩:=R;cases c;cases h;obtain⟨Y,y,p⟩:=AN ok g;obtain⟨C,E,F⟩:=AN ok T;obtain⟨e,z⟩:=nR (f l (by simp only[D.dep]at hd;lia)) q B y E;have z:=SeqAt.RcAt.lists p F (by rw[Ss,Ss,e]) (by lia) z;rw[BL]at z;exact tQ z
  |FD k l=>simp only[D.dep]at hd;lia
  |_=>exact G A (by lia) (Sw _) (by lia) h1 R c h
def Ie:R2:=λx y H Q=>∃l m m',Is H m (.tup l) x/\Is H m' (.tup l) y/\D.iY l<=49/\Q (.bl false) H
theorem BM(F:X.A.units+64<cLine):lC X (compareOp .NotEq) Ie:=by rintro M s N H x y v u Q I b c⟨l,m,m',⟨a,O,rfl,g,q⟩,⟨G,f,rfl,K,i⟩,hd,k⟩;cases b;cases c;obtain⟨R,y,p⟩:=kI I.aS g;obtain⟨n,o,r⟩:=kI I.aS K;obtain⟨e,z⟩:=nR (λd L v J u S t B C D=>by obtain⟨j,E⟩:=SC.mp L;exact El I.aS 49 X.A.in1 (by show X.A.units+1+49<cLine;lia) (SE (qz E) hd) (by lia) t B C D) q i y o;have z:=SeqAt.RcNeAt.tuples p r (by lia) z;rw[Ss,Ss,e,U7,BL]at z;exact z X.prog X.w X.xe _ ⟨.bl _,H,I,rfl,k⟩
open Classical in
noncomputable def Ou(H:Hp)(x:aD)(u:WM):Bool:=decide (∃p,u=.ref p/\H p=some (.tup [.int x.1,.int x.2]))
def Lx:V->List V->Hp->VK->Prop:=λx b H Q=>∃l a w k y j,x=.ref l/\b=[y]/\Rd H l (.lst a)/\aN (IsSet H) w a/\IsSet H k y/\w.findIdx? (λe=>decide (e=k))=some j/\Q (.int ((j:Nat):Int)) H
def vz{k e:aD}{p:Addr}(h:H p=some (.tup [.int e.1,.int e.2])):Ou H k (.ref p)=decide (e=k):=by
 unfold Ou;by_cases q:e=k
 .rw[Sz q];exact @Sz _ (Classical.propDecidable _) ⟨p,rfl,q▸h⟩
 .rw[Tw q];refine @Tw _ (Classical.propDecidable _) λ⟨d,g,f⟩=>q ?_;cases g;rw[h]at f;injection f with f;injection f with f;injection f with a b;injection b with b c;injection a with a;injection b with b;exact VB a b
def Ig(ok:HOk P w H s.heap){A:WN}(r:A.units+50<cLine){k e:aD}{p q:Addr}(h:H p=some (.tup [.int e.1,.int e.2]))(g:H q=some (.tup [.int k.1,.int k.2])):SeqAt.EqAt A s (.ref p) (.ref q) (decide (e=k)):=by
 by_cases z:p=q
 .subst z;rw[h]at g;injection g with e2;injection e2 with e2;injection e2 with a b;injection b with b c;injection a with a;injection b with b;rw[Sz (VB a b)];exact .same _
 .obtain⟨x,y,t⟩:=kI ok h;obtain⟨d,f,u⟩:=kI ok g;obtain⟨_,_,rfl,⟨i,rfl⟩,v,rfl⟩:=y.two;obtain⟨_,_,rfl,⟨l,rfl⟩,o,rfl⟩:=f.two;have:=V6 (A:=A) (e:=λj=>if j=0 then e.1==k.1 else e.2==k.2) t u (by lia) λj h1 B=>by
   match j with
   |0=>exact SeqAt.EqAt.int_int e.1 i k.1 l
   |1=>exact SeqAt.EqAt.int_int e.2 v k.2 o
   |n+2=>exact absurd h1 (by simp)
  refine .of_refs z ?_;rw[show decide (e=k)=((e.1==k.1)&&(e.2==k.2)) by rw[UV];simp[Prod.ext_iff]];simpa[List.range,List.range.loop]using this
theorem Ih(L:X.A.units+64<cLine):FN X "list.index" Lx:=by
 rintro ag s σ H x vs v us Q I E Y⟨l,U,w,k,y,j,rfl,rfl,G,V,⟨b,rfl,Z⟩,J,q⟩;cases E;obtain⟨u,rfl,ru⟩:=Y.one;cases ru;obtain⟨z,O,n,r,e⟩:=(show ObjOk X.prog X.w H s.heap l (.lst U)from zV I.aS G);have M:=r.length;obtain⟨d,f,g⟩:=UO.mp J;have N:=V.len;have R:∀(i:Nat)(a:i<O.length)(B:i<w.length),∃p,O[i]=.ref p/\H p=some (.tup [.int w[i].1,.int w[i].2]):=λi a B=>by have C:=R_ (l:=U) (i:=i) (by lia);obtain⟨x,W,p,ep,K⟩:=V.get C;rw[R_ B]at W;cases W;obtain⟨u,D,ru⟩:=r.get C;rw[ep]at ru;cases ru;rw[R_ a]at D;exact⟨p,Th D,K⟩
 have c:j<O.length:=by lia
 refine call_meets F.slot_list_index ⟨_,e,rfl⟩ F.entry_list_index (F.args_list_index_2 _ _) (SeqAt.list_indexAt l O.toArray n none #[] (.ref b) (Ou H k) j (by simpa using c) ?_ ?_ ?_) ⟨e,?_,?_⟩
 .have:sizeLine<2^62:=by decide
  lia
 .obtain⟨p,T,S⟩:=R j c d;rwa[List.getElem_toArray,T,vz S]
 .intro i a o;rw[Ss]at a;obtain⟨p,T,S⟩:=R i a (by lia);rw[List.getElem_toArray,T,vz S];exact Bool.eq_false_iff.mpr (g i o)
 .intro u t;obtain⟨i,a,rfl⟩:=UT.mp (by simpa using t);obtain⟨p,T,S⟩:=R i a (by lia);rw[T,vz S];exact Ig I.aS (by show X.A.units+1+50<cLine;lia) S Z
 .exact⟨.int j,H,I.tok _,⟨_,rfl⟩,q⟩
end
noncomputable def iN(a:List aD)(k:aD):Bool:=!decide (k∈a)
inductive CG(Z:aD->List aD) (es ks:List aD):Nat->List aD->aD->List aD->aD->Prop
 |done {n:Nat} {w:List aD} {h:aD} (hm:h∈w):CG Z es ks n w h w h
 |step {n:Nat} {w w':List aD} {h h' hF:aD} (hm:h∉w) (hk:h∈ks) (f:w.length<1000) (hx:((Z h).filter (iN es)).head?=some h') (r:CG Z es ks n (w++[h]) h' w' hF):CG Z es ks (n+1) w h w' hF
def CG.last(r:CG Z es ks n w h w' hF)(a:w.length<=1000):hF∈w'/\w'.length<=1000:=by
 induction r with
 |done c=>exact⟨c,a⟩
 |step _ _ f _ _ b=>exact b (by simp;lia)
section
variable{X:Cx}{H H' HM:Hp}{a am q p l ed wd ll b:Addr}{ks es w w':List aD}{Z:aD->List aD}{AA:aD->Addr}{D:Ends}{σ:L2.St}{vs tv:List V}{k h hF:aD}{Q:VK}{E:XK}{sP:Sp}
theorem BN{Q:Bool->Hp->Prop}(c:H ed=some (.dT (es.map λk=>(k2 k,V.bl true))))(d:H b=some (.tup ((k2 k).map kV)))(q:Q (iN es k) H):bO (ba (AW true) (aj 0) (aj 1)) (some (.ref b)::some (.ref ed)::cap) H Q:=by
 refine⟨_,rfl,_,rfl,ed,_,rfl,.inl (DGet.t (k:=k2 k) c d),⟨_,rfl,?_⟩⟩;rw[tM];unfold iN at q;by_cases m:k∈es
 .rw[Sg m];rwa[Sz m]at q
 .rw[Sj m];rwa[Tw m]at q
theorem Em{P:aD->Bool}{Fin:Addr->List V->Hp->Prop}(h1:tN.length=1)(r:jz σ caps=cap)(I:∀W C s t Y,PG (aV X scope (tN++capN) W C s t Y) tg (aA 0))(J:∀W C s t Y,y9 (aV X scope (tN++capN) W C s t Y) ifs tt)(L:∀W C s t Y,PE (aV X scope (tN++capN) W C s t Y) elt (aj 0))
 (x:H1 l=some (.lst tv)) (al:aN (IsSet H1) zs tv) (hz:zs.length<1000) (M:∀k b H',Same H1 H'->H' b=some (.tup ((k2 k).map kV))->∀Q:Bool->Hp->Prop,Q (P k) H'->tt (some (.ref b)::cap) H' Q)
 (k:∀f d H',H1 f=none->Same H1 H'->H' f=some (.lst d)->aN (IsSet H') (zs.filter P) d->Fin f d H'):ce X scope tg tN capN caps elt ifs σ Fin (yZ X.K l) H1:=by
 have ln:=al.len;refine iL (n:=zs.length) I J L (λf i d H'=>Same H1 H'/\H' f=some (.lst d)/\aN (IsSet H') ((zs.take i).filter P) d/\H1 f=none) (λf g=>⟨aw g,ac,.nil,g⟩) (λh=>h.2.1) (λf i d H' ⟨U,_⟩ N=>⟨tv,tv[i]'(by lia),SqL.of (U _ _ x),R_ _⟩) (λf d H' ⟨U,_⟩=>⟨tv,SqL.of (U _ _ x),by lia⟩) (λf i d H' R m S N ⟨U,g,o,A⟩ y v=>?_) λf d H' g ⟨U,B,o,_⟩=>k f d H' g U B (by rwa[SU]at o);obtain⟨rfl,y⟩:=y;obtain⟨ki,O,b,rfl,hb⟩:=al.get (y _ (SqL.of (U _ _ x)));have hb:=U _ _ hb;rw[h1]at v;obtain⟨T,rfl⟩:=Ui.mp v;rw[r];have F:zs.take (i+1)=zs.take i++[ki]:=by rw[Sv,O];rfl
 have fl:=TZ P (zs.take i);have lt:=S_ i zs;refine⟨λj G=>?_,M ki b m U hb _ (qj (λc=>⟨_,rfl,g,hG (by rw[<- o.len];lia),λc u e=>?_,ac,?_,A⟩) λc=>⟨U,g,?_,A⟩)⟩
 .rw[h1]at G;obtain⟨j,rfl⟩:=Ti G;rfl
 .rw[ai (ay e A)];exact U _ _ e
 .have kt:KT m (upd m f (.lst (d++[.ref b]))):=.upd g λ_ z=>(nomatch z);rw[F,Tt,T7,Sg c];exact(o.mono (bo kt)).snoc ⟨b,rfl,kt _ _ hb⟩
 .rwa[F,Tt,T7,Sj c,List.filter_nil,Tj]
def Ov:TT:=bO (ba (AW true) (aj 0) (aj 1))
noncomputable def Eo(d c:V)(am ed ll wd:Addr)(b:Addr):L2.St:=[some d,some c,some (.ref am),some (.ref ed),some (.ref ll),some (.ref wd),some (.ref b),none]
def Ly(X:Cx)(e:Scope)(i c:Expr)(j f:List Str)(g:List Nat)(d:List Expr):TS:=aT (ba (mF X.K) (iD X e i j f g c d (bZ X.K (ip (aj 2) (aj 6)))) (tC (.int 0))) (aA 6)
def Lz(t:TS):TS:=mw (bO (ba (AW true) (aj 6) (aj 5))) (aI (jk (aj 5) (aj 6) (tC (.bl true))) t)
structure Nc(X:Cx) (d:Scope) (v s:Expr) (r f:List Str) (i:List Nat) (u:List Expr):Prop where
 h:r.length=1
 c:i=[3]
 g:∀j C m n o,PG (aV X d (r++f) j C m n o) v (aA 0)
 t:∀j C m n o,y9 (aV X d (r++f) j C m n o) u Ov
 e:∀j C m n o,PE (aV X d (r++f) j C m n o) s (aj 0)
theorem QR{scope:Scope}{tg o:Expr}{tN capN:List Str}(c:Nc X scope tg o tN capN caps ifs)(A:Am HM am ks Z AA)(M:∀k,(Z k).length<=63)(N:HM ed=some (.dT (es.map λk=>(k2 k,V.bl true))))(F:am≠wd)(G:ed≠wd)(I:∀k∈ks,AA k≠wd)(O:∃x,HM wd=some (.dT x))(kp:Kp wd HM H)(f:H wd=some (.dT (w.map λk=>(k2 k,V.bl true))))(hb:H b=some (.tup ((k2 h).map kV)))(lp:CG Z es ks n w h w' hF)(hs:σ=Eo v0 v1 am ed ll wd b)
 (k:∀b H',Kp wd HM H'->H' wd=some (.dT (w'.map λk=>(k2 k,V.bl true)))->H' b=some (.tup ((k2 hF).map kV))->D.nx (Eo v0 v1 am ed ll wd b) H'):Lz (Ly X scope tg o tN capN caps ifs) D σ H:=by
 subst hs;refine⟨λm σ H=>∃b w h,σ=Eo v0 v1 am ed ll wd b/\Kp wd HM H/\H wd=some (.dT (w.map λk=>(k2 k,V.bl true)))/\H b=some (.tup ((k2 h).map kV))/\CG Z es ks m w h w' hF,⟨n,b,w,h,rfl,kp,f,hb,lp⟩,?_⟩;clear kp f hb lp;rintro m σ H ⟨b,w,h,rfl,kp,f,hb,lp⟩;refine⟨_,rfl,_,rfl,wd,_,rfl,.inl (DGet.t (k:=k2 h) f hb),⟨_,rfl,?_⟩⟩;rw[tM];cases lp with
 |done hm=>rw[Sg hm];exact fq (k b H kp f hb)
 |@step m _ _ _ h' _ hm J Y i lp=>
  rw[Sj hm];refine fK ⟨λs H'=>∃b,s=Eo v0 v1 am ed ll wd b/\Kp wd HM H'/\H' wd=some (.dT ((w++[h]).map λk=>(k2 k,V.bl true)))/\H' b=some (.tup ((k2 h').map kV)),λs H' ⟨b,e,kp,f,hb⟩=>⟨m,Uo _,b,_,_,e,kp,f,hb,lp⟩,_,rfl,_,rfl,wd,_,rfl,DPut.t f (k:=k2 h) hb (hG (by rw[R9];lia)),?_⟩;rw[cI _ (by rw[tM,Sj hm])];have R:(w.map λk=>(k2 k,V.bl true))++[(k2 h,V.bl true)]=(w++[h]).map λk=>(k2 k,V.bl true):=by rw[SN];rfl
  rw[R];have kt:KT H (upd H wd (.dT ((w++[h]).map λk=>(k2 k,V.bl true)))):=.upd f λ_ z=>(nomatch z);have d:Kp wd HM (upd H wd (.dT ((w++[h]).map λk=>(k2 k,V.bl true)))):=λc u e n=>by rw[ai n];exact kp _ _ e n
  have y:upd H wd (.dT ((w++[h]).map λk=>(k2 k,V.bl true))) wd=some (.dT ((w++[h]).map λk=>(k2 k,V.bl true))):=ac;have B:=kt _ _ hb;generalize upd H wd (.dT ((w++[h]).map λk=>(k2 k,V.bl true)))=H1 at d y B;obtain⟨ws,e1,al⟩:=A.v h J;have K:KT HM H1:=λc x e=>d _ _ e λz=>by obtain⟨_,h⟩:=O;rw[z,h]at e;cases e
  have e1:=d _ _ e1 (I h J);refine Reads.MM (v:=.cj) (.va rfl) (.va rfl) (.inl (d _ _ A.r F)) J B _ ⟨AA h,rfl,⟨ws,SqL.of e1⟩,Em (cap:=[some (.ref ed)]) (P:=iN es) (zs:=Z h) c.h (by rw[c.c];rfl) c.g c.t c.e e1 (al.mono (bo K)) (by have:=M h;lia) (λk b H' sm hb Q q=>BN (sm _ _ (d _ _ N G)) hb q) λS T H2 nD s2 U al2=>?_⟩;cases C:(Z h).filter (iN es)with
  |nil=>rw[C]at i;cases i
  |cons x r=>
   rw[C]at i al2;cases i;cases al2 with
   |cons i _=>obtain⟨W,rfl,L⟩:=i;exact⟨S,_,0,_,rfl,rfl,SqL.of U,cD (j:=0) rfl,W,rfl,λc u e n=>s2 _ _ (d _ _ e n),s2 _ _ y,L⟩
def Ep(f:List Sp.Rule)(g:List Sp.Arr)(d:Int)(i:List Int):Prop:=∀Z ks,ua f g d i Z ks->ks.Nodup/\ks.length<1000/\(∀k,(Z k).length<=63)/\∃n c,KL (gc (g_ Z ks)) n (rF Z ks) c/\c.ended.Nodup/\c.ended.length<1000/\∀e r,ks.filter (iN c.ended)=e::r->∃n w hF,CG Z c.ended ks n [] e w hF
inductive vN(RL:List Sp.Rule) (As:List Sp.Arr) (room:Int) (aO:List Int):Option (List aD)->Prop
 |no {Z:aD->List aD} {ks:List aD} {n:Nat} {S':KS} (g:ua RL As room aO Z ks) (l:KL (gc (g_ Z ks)) n (rF Z ks) S') (e:ks.filter (iN S'.ended)=[]):vN RL As room aO none
 |yes {Z:aD->List aD} {ks r w:List aD} {n m j:Nat} {S':KS} {h0 hF:aD} (g:ua RL As room aO Z ks) (l:KL (gc (g_ Z ks)) n (rF Z ks) S') (e:ks.filter (iN S'.ended)=h0::r) (q:CG Z S'.ended ks m [] h0 w hF) (x:w[j]?=some hF):vN RL As room aO (some (w.drop j))
noncomputable def QS(H H':Hp):Option (List aD)->V->Prop
 |none,v=>v=.cj
 |some c,v=>∃l vs,v=.ref l/\H l=none/\H' l=some (.lst vs)/\aN (IsSet H') c vs
inductive Fe(sP:Sp):Sp
 |mk {H:Hp} {RL:List Sp.Rule} {As:List Sp.Arr} {p sp q:Addr} {room:Int} {aO:List Int} {Q:VK} {E:XK} (i:t_ sP H RL As p sp q room aO) (ok:BD RL As room aO) (rg:Ep RL As room aO) (k:∀o v H',Same H H'->QS H H' o v->vN RL As room aO o->Q v H'):Fe sP [.ref p,.ref sp] H Q E
def Ow(K:WK):TS:=b5 (GR (zH K) (aj 7) (lb (qc K "list" Lx (aj 7) (ah (aj 6) aF))) lQ)
def Ox(K:WK)(t:TS):TS:=aI (Lz t) (aI (aT (eR vn (ah (aj 5) aF)) (aA 7)) (Ow K))
def Oy(K:WK)(t:TS):TS:=aI (dQ (ul (Eh K (aj 4))) (b5 (tC .cj)) ck) (aI (aT dY (aA 5)) (aI (aT (ba (mF K) (aj 4) (tC (.int 0))) (aA 6)) (Ox K t)))
def LB(X:Cx)(e:Scope)(i c:Expr)(j f:List Str)(g:List Nat)(d:List Expr):TS:=λD σ H=>nQ X e i c j f g d 4 (wO X (aj 2)) (Aa X D) σ H
def QT(X:Cx)(sP:Sp)(c d:TS):TS:=aI (aT (bj (yW sP) [] E0 (ah (aj 0) (ah (aj 1) aF))) (aA 2)) (aI (aT (bj CC [] E0 (ah (aj 2) aF)) (aA 3)) (aI c (Oy X.K d)))
theorem QU(c:Nc X scope tg elt tN capN caps ifs)(A:Am H am ks Z AA)(I:ks.length<1000)(x:H ed=some (.dT (es.map λk=>(k2 k,V.bl true))))(J:ed≠am)(K:σ[2]?=some (some (.ref am)))(L:σ[3]?=some (some (.ref ed)))(k:∀e v H',Same H H'->H e=none->H' e=some (.lst v)->aN (IsSet H') (ks.filter (iN es)) v->D.nx (σ.set 4 (some (.ref e))) H'):LB X scope tg elt tN capN caps ifs D σ H:=by
 refine⟨_,K,am,_,_,rfl,.inl rfl,A.r,λo y=>?_⟩;have d:upd H am (.bv o (.dT (ks.map λk=>(k2 k,V.ref (AA k))))) am=some (.bv o (.dT (ks.map λk=>(k2 k,V.ref (AA k))))):=ac;have G:Kp am H (upd H am (.bv o (.dT (ks.map λk=>(k2 k,V.ref (AA k)))))):=λc u e n=>by rwa[ai n]
 have back:∀{H1},Same (upd H am (.bv o (.dT (ks.map λk=>(k2 k,V.ref (AA k)))))) H1->Same H (upd H1 am (.dT (ks.map λk=>(k2 k,V.ref (AA k))))):=λs=>jc A.r s;generalize upd H am (.bv o (.dT (ks.map λk=>(k2 k,V.ref (AA k)))))=H1 at d G back;refine wV (cap:=[some (.ref ed)]) c.h (by rw[c.c];show[σ[3]?.join]=_;rw[L];rfl) c.g c.t c.e d I (P:=iN es) (λk C b H' F M Q q=>BN (F _ _ (G _ _ x J)) M q) λj m H' i F B N=>.inr ⟨am,o,_,F _ _ d,⟨⟩,y,?_⟩;have f:j≠am:=λz=>by rw[z,d]at i;cases i
 refine k j m _ (back F) ?_ (by rw[ai f];exact B) (N.mono (bo (.upd (F _ _ d) λ_ z=>(nomatch z))));cases e:H j with
 |none=>rfl
 |some u=>rw[G _ _ e f]at i;cases i
theorem kR(c:List V)(j:Nat):fh c (some (j:Nat)) none=c.drop j:=by
 unfold fh;have h1:HT.sIx c.length 0 (some ((j:Nat):Int))=min j c.length:=HT.sIx_nat c.length 0 j;have d:HT.sIx c.length c.length none=c.length:=rfl;rw[h1,d];by_cases h:j<=c.length
 .rw[Nat.min_eq_left h,TJ (by simp)]
 .rw[Nat.min_eq_right (by lia),List.drop_eq_nil_of_le (by lia),List.drop_eq_nil_of_le (by lia),List.take_nil]
theorem aN.drop{f c:Type}{R:f->c->Prop}{g:List f}{d:List c}(h:aN R g d):∀j,aN R (g.drop j) (d.drop j):=by
 induction h with
 |nil=>intro j;rw[List.drop_nil,List.drop_nil];exact .nil
 |cons a t e=>
  intro j;cases j with
  |zero=>exact .cons a t
  |succ j=>exact e j
theorem Er(c1:Nc X zf Cr oz tN1 capN1 caps1 ifs1)(c2:Nc X yY Cv oA tN2 capN2 caps2 ifs2)(h:Fe sP vs H Q E):QT X sP (LB X zf Cr oz tN1 capN1 caps1 ifs1) (Ly X yY Cv oA tN2 capN2 caps2 ifs2) (eQ Q) (aZ (nS 8) vs) H:=by
 obtain @⟨H,RL,As,p,sp,q,room,aO,Q,E,i,ok,rg,k⟩:=h;refine⟨_,rfl,_,rfl,.mk i ok λam Z AA ks H1 s1 nam A g=>?_⟩;obtain⟨nd,hz,hZ,n,S',lp,ne,le,wk⟩:=rg Z ks g;refine⟨_,rfl,.mk A nd hz hZ lp ne le λed H2 s2 J he=>?_⟩;have A2:=A.more s2;have S:ed≠am:=λz=>by rw[z,A.r]at J;cases J
 refine QU c1 A2 hz he S rfl rfl λll ev T U nll K al=>?_;have B:=s1.trans (s2.trans U);refine⟨_,rfl,_,.inl ⟨_,SqL.of K,rfl⟩,?_⟩;cases d:ks.filter (iN S'.ended)with
 |nil=>rw[d]at al;cases al;exact fK (k none .cj T B rfl (.no g lp d))
 |cons h0 r=>
  rw[d]at al;cases al with
  |@cons _ v0 _ ev hv al=>
   obtain⟨b0,rfl,W⟩:=hv;refine fq λwd f=>?_;have G:=aw (o:=.dT []) f;have K_:upd T wd (.dT []) wd=some (.dT (([]:List aD).map λk=>(k2 k,V.bl true))):=ac;obtain⟨m,w,hF,rl⟩:=wk h0 r d;have Y:=A2.more U;have L:=U _ _ he;have n1:am≠wd:=ay Y.r f;have n2:ed≠wd:=ay L f;have n3:∀k∈ks,AA k≠wd:=λk hk=>let ⟨_,e,_⟩:=Y.v k hk;ay e f;generalize upd T wd (.dT [])=H4 at G K_;refine⟨_,rfl,ll,_,0,_,rfl,rfl,SqL.of (G _ _ K),cD (j:=0) rfl,?_⟩;refine QR (HM:=H4) c2 (Y.more G) hZ (G _ _ L) n1 n2 n3 ⟨_,K_⟩ (λc u e _=>e) K_ (G _ _ W) rl rfl λb M kp N hb5=>?_;have O:Same H M:=λc u e=>kp _ _ (G _ _ (B _ _ e)) λz=>by rw[z,B.free f]at e;cases e
   refine⟨_,rfl,wd,_,rfl,.inl (.inl N),λC bs hhl s P=>?_⟩;have I:=aw (o:=.lst (bs.map V.ref)) hhl;have F:aN (IsSet (upd M C (.lst (bs.map V.ref)))) w (bs.map V.ref):=by
    generalize upd M C (.lst (bs.map V.ref))=H6 at I;rw[R9]at s;clear rl N;induction w generalizing bs with
    |nil=>cases bs with
     |nil=>exact .nil
     |cons _ _=>cases s
    |cons x w ih=>cases bs with
     |nil=>cases s
     |cons y bs=>refine .cons ⟨y,rfl,I _ _ (P 0 _ y rfl rfl)⟩ (ih bs (by simpa using s) λi p b e1 e2=>P (i+1) p b (by simpa using e1) (by simpa using e2))
   have t:upd M C (.lst (bs.map V.ref)) C=some (.lst (bs.map V.ref)):=ac;obtain⟨hm,lw⟩:=rl.last (Sw _);obtain⟨j,hj⟩ : ∃j,w.findIdx? (λe=>decide (e=hF))=some j:=by
    cases e:w.findIdx? (λe=>decide (e=hF))with
    |some j=>exact⟨j,rfl⟩
    |none=>have:=List.findIdx?_eq_none_iff.mp e hF hm;rw[Sz rfl]at this;cases this
   have hw:w[j]?=some hF:=by obtain⟨g1,g2,_⟩:=UO.mp hj;rw[R_ g1,SO g2]
   generalize upd M C (.lst (bs.map V.ref))=H6 at I F t;refine⟨_,rfl,_,rfl,.inl ⟨rfl,_,SqL.of t⟩,_,rfl,C,_,w,hF,.ref b,j,rfl,rfl,.inl t,F,⟨b,rfl,I _ _ hb5⟩,hj,_,rfl,C,_,rfl,SqL.of t,λl R=>?_⟩;have s7:=aw (o:=.lst (fh (bs.map V.ref) (some (j:Nat)) none)) R;refine k (some (w.drop j)) _ _ (O.trans (I.trans s7)) ⟨l,_,rfl,(O.trans I).free R,ac,?_⟩ (.yes g lp d rl hw);rw[kR];rw[kR]at s7;exact(F.mono (bo (.of s7))).drop j
end
end L4
namespace L4
open PySem.Calls L2 L3 ST
section
variable{K:WK}{Fw:List L3.D->Res R}{H:Hp}{q p l:Addr}{D:Ends}{c:L2.St}
def Es(Fw:List L3.D->Res R):Prop:=∀x:Int,Fw [.int x]=.ok (.val (.bl true) true [])
theorem Reads.Ni(a:Reads ta c H (.ref p))(b:Reads tb c H (.int i))(h:H p=some (.lst xs))(e:vZ xs i=some v):Reads (ba (mF K) ta tb) c H v:=a.op b λ_ q=>⟨p,xs,i,v,rfl,rfl,SqL.of h,e,q⟩
theorem tR(l:List V)(v:V):vZ (l++[v]) (-1)=some v:=by
 unfold vZ FM;rw[Sj (by lia),Sg (by simp;lia)];have:((-1:Int)+((l++[v]).length:Nat)).toNat=l.length:=by simp;lia
 show(l++[v])[((-1:Int)+((l++[v]).length:Nat)).toNat]?=some v;rw[this];simp
end
end L4
namespace L4
open L2 L3
structure Ju(b c:Int) (r:Sp.Rule):Prop where
 a:0<=r.1/\r.1<b
 s:0<=r.2.1/\r.2.1<c
 t:0<=r.2.2.1/\r.2.2.1<b
 p:r.2.2.2.length<=2
 q:∀x∈r.2.2.2,0<=x/\x<c
def LC(K:WK):V->Option Int->Option Int->Hp->VK->Prop:=λx lo b H Q=>∃a c,x=.ref a/\SqT K H a c/\(HT.sIx c.length 0 lo=0->HT.sIx c.length c.length b=c.length->Q x H)/\∀p,H p=none->Q (.ref p) (upd H p (.tup (fh c lo b)))
section
variable{K:WK}{H T:Hp}{D:Ends}{P:L2.St}{U:List V}{Q:VK}{E:XK}{S R:Int}
theorem Et:J0 X (LC X.K):=by
 rintro l s P H x v c d lo b f Q I g m n i⟨a,k,e,j,h1,o⟩;by_cases w:HT.sIx k.length 0 lo=0/\HT.sIx k.length k.length b=k.length
 .exact DG l s P H x v c d lo b f Q I g m n i ⟨a,k,e,j,w,h1 w.1 w.2⟩
 .exact GS l s P H x v c d lo b f Q I g m n i ⟨a,k,e,j,w,o⟩
def em{a b:Int}(h:0<b):0<=a%b/\a%b<b:=⟨Int.emod_nonneg _ (by lia),Int.emod_lt_of_pos _ h⟩
def Reads.mod(a:Reads ta P H (.int i))(b:Reads tb P H (.int j))(h:0<j):Reads (ba b_ ta tb) P H (.int (i%j)):=a.op b λ_ q=>⟨_,_,rfl,rfl,h,q⟩
def Reads.dv(a:Reads ta P H (.int i))(b:Reads tb P H (.int j))(h:0<j/\j<1073741824):Reads (ba g9 ta tb) P H (.int (i/j)):=a.op b λ_ q=>⟨_,_,rfl,rfl,h,q⟩
def iO:R2:=rI CMul λi j=>.int (i*j)
def Reads.mul(a:Reads ta P H (.int i))(b:Reads tb P H (.int j))(h:-(2^64)<j/\j<2^64):Reads (ba iO ta tb) P H (.int (i*j)):=a.op b λ_ q=>⟨_,_,rfl,rfl,.inr h,q⟩
def Reads.ad(a:Reads ta P H (.int i))(b:Reads tb P H (.int j)):Reads (ba cf ta tb) P H (.int (i+j)):=a.op b λ_ q=>⟨_,_,rfl,rfl,q⟩
def dU(h:Reads t P H v)(k:D.nx (P.set i (some v)) H):aT t (aA i) D P H:=h _ k
def LD(h:te P H λx c=>tl P c λl a=>th P a λu b=>r x l u b Q):GR r te tl th P H Q:=h
theorem Oz{Q:List V->Hp->Prop}(h:te P H λv b=>tr P b λU a=>Q (v::U) a):ah te tr P H Q:=h
inductive FI:Sp
 |mk {H:Hp} {c S R:Int} {b:Bool} {Q:VK} {E:XK} (h1:0<S/\S<1073741824) (h2:0<R/\R<1073741824) (k:∀p r T,Same H T->IsRule T r (.ref p)->Ju S R r->Q (.ref p) T):FI [.int c,.int S,.int R,.bl b] H Q E
def PR(a:TE):TS:=b5 (cm (ah (aj 4) (ah (aj 5) (ah (aj 6) (ah a aF)))))
def OA(K:WK):TS:=PR (GR (LC K) (cm (ah (ba b_ (aj 0) (aj 8)) (ah (ba b_ (ba g9 (aj 0) (aj 8)) (aj 8)) aF))) lQ (lb (aj 7)))
def LF(K:WK):TS:=aI (dQ (bO (ba pX (aj 8) (tC (.int 0)))) (PR (cm aF)) ck) (OA K)
def OB(K:WK):TS:=aI (dQ (Eh K (aj 3)) (aT (aj 5) (aA 8)) ck) (LF K)
def M5(i j:Nat):TE:=ba b_ (aj i) (aj j)
def M6(i j:Nat):TE:=ba g9 (aj i) (aj j)
def OC(K:WK)(a:Int):TS:=aI (aT (ba b_ (aj 0) (tC (.int a))) (aA 7)) (aI (aT (ba g9 (aj 0) (tC (.int a))) (aA 0)) (aI (aT (aj 2) (aA 8)) (OB K)))
def QV(K:WK)(a:Int):TS:=aI (aT (M5 0 1) (aA 4)) (aI (aT (M6 0 1) (aA 0)) (aI (aT (M5 0 2) (aA 5)) (aI (aT (M6 0 2) (aA 0)) (aI (aT (M5 0 1) (aA 6)) (aI (aT (M6 0 1) (aA 0)) (OC K a))))))
def PU{n a s t z w:Int}(G:0<=a/\a<S)(I:0<=s/\s<R)(u:0<=t/\t<S)(y:0<=w/\w<=R)(M:R<1073741824)(k:∀p r T,Same H T->IsRule T r (.ref p)->Ju S R r->Q (.ref p) T):LF K (eQ Q) [some (.int n),some (.int S),some (.int R),some b,some (.int a),some (.int s),some (.int t),some (.int z),some (.int w)] H:=by
 have d:∀{B:Hp}{q:Addr}{put:List Int},Same H B->B q=some (.tup (put.map .int))->put.length<=2->(∀x∈put,0<=x/\x<R)->∀p,B p=none->Q (.ref p) (upd B p (.tup [.int a,.int s,.int t,.ref q])):=λ{B q put} C g J v p m=>k p (a,s,t,put) _ (C.trans (aw m)) ⟨p,q,rfl,ac,aw m _ _ g⟩ ⟨G,I,u,J,v⟩;refine g7 (.xn (.va rfl) .k) (λc=>?_) λc=>?_
 .refine⟨_,rfl,_,rfl,_,rfl,Sw _,λq g=>⟨by show 4<=_;rw[SQ];lia,d (put:=[]) (aw g) ac (Sw _) λ_ h=>nomatch h⟩⟩
 .have i:0<w:=by have:¬w=0:=λz=>c (Sz z);lia
  have A:=em (a:=n) i;have N:=em (a:=n/w) i;have L:ReadsA (ah (M5 0 8) (ah (ba b_ (M6 0 8) (aj 8)) aF)) [some (.int n),some (.int S),some (.int R),some b,some (.int a),some (.int s),some (.int t),some (.int z),some (.int w)] H [.int (n%w),.int (n/w%w)]:=.c (.mod (.va rfl) (.va rfl) i) (.c (.mod (.dv (.va rfl) (.va rfl) ⟨i,by lia⟩) (.va rfl) i) .ni);refine⟨_,rfl,_,rfl,_,rfl,Oz (LD (lI L rfl λq g=>?_))⟩;have C:=aw (o:=.tup [.int (n%w),.int (n/w%w)]) g;have f:upd H q (.tup [.int (n%w),.int (n/w%w)]) q=some (.tup ([n%w,n/w%w].map .int)):=ac;generalize upd H q (.tup [.int (n%w),.int (n/w%w)])=B at C f;have F:∀x∈[n%w,n/w%w],0<=x/\x<R:=λx j=>by
   rcases Sq.mp j with e|e
   .rw[e];lia
   .rw[Sb.mp e];lia
  refine⟨_,rfl,_,rfl,q,_,rfl,SqT.of f,λ_ _=>⟨by show 4<=_;rw[SQ];lia,d C f (R7 _) F⟩,λO l=>⟨by show 4<=_;rw[SQ];lia,d (put:=([n%w,n/w%w].drop (HT.sIx 2 0 none)).take (HT.sIx 2 2 (some z)-HT.sIx 2 0 none)) (C.trans (aw l)) ?_ ?_ λx j=>F x (Wh (Uh j))⟩⟩
  .rw[ac];unfold fh;rw[List.map_take,List.map_drop];rfl
  .rw[TC,VC];simp;lia
theorem Eu{e:Int}(d:0<e/\e<1073741824)(h:FI U H Q E):QV K e (eQ Q) (aZ (nS 9) U) H:=by
 obtain @⟨H,c,S,R,b,Q,E,h1,h2,k⟩:=h;refine dU (.mod (.va rfl) (.va rfl) h1.1) (dU (.dv (.va rfl) (.va rfl) h1) (dU (.mod (.va rfl) (.va rfl) h2.1) (dU (.dv (.va rfl) (.va rfl) h2) (dU (.mod (.va rfl) (.va rfl) h1.1) (dU (.dv (.va rfl) (.va rfl) h1) (dU (.mod (.va rfl) .k d.1) (dU (.dv (.va rfl) .k d) (dU (.va rfl) ?_))))))));refine⟨_,rfl,b,rfl,?_⟩;have f:=em (a:=c/S) h2.1;cases b with
 |true=>exact fK (dU (.va rfl) (PU (em h1.1) f (em h1.1) (by lia) h2.2 k))
 |false=>exact fq (PU (em h1.1) f (em h1.1) (by lia) h2.2 k)
end
section
variable{K:WK}{H J:Hp}{D:Ends}{σ:L2.St}{O N:List V}{Q:VK}{E:XK}{L I:Int}{M:List Sp.Rule}
inductive Fv:Sp
 |mk {H:Hp} {c I:Int} {Q:VK} {E:XK} (hs:0<I) (k:∀l (aO:List Int) J,Same H J->H l=none->J l=some (.lst (aO.map .int))->aO.length<=5->(∀x∈aO,0<=x/\x<I)->Q (.ref l) J):Fv [.int c,.int I] H Q E
def OD(K:WK):TS:=aI (aT (ba b_ (ba cf (ba cf (ba iO (aj 2) (tC (.int 48271))) (ba iO (aj 4) (aj 4))) (tC (.int 11))) (tC (.int 2147483647))) (aA 2)) (b9 (qc K "list" cW (aj 3) (ah (ba b_ (ba g9 (aj 2) (tC (.int 7))) (aj 1)) aF)))
def QW(K:WK):TS:=aI (aT (ba b_ (ba g9 (aj 0) (tC (.int 6))) (tC (.int 2147483647))) (aA 2)) (aI (aT (dR aF) (aA 3)) (aI (cU (zp (ah (ba b_ (aj 0) (tC (.int 6))) aF)) (aA 4) (OD K)) (b5 (aj 3))))
theorem Ew(h:Fv O H Q E):QW K (eQ Q) (aZ (nS 5) O) H:=by
 obtain @⟨H,c,I,Q,E,hs,k⟩:=h;refine dU (.mod (.dv (.va rfl) .k ⟨by decide,by decide⟩) .k (by decide)) ⟨Sw _,λl g=>?_⟩;have q:=em (a:=c) (b:=6) (by decide);refine Reads.mod (.va rfl) .k (by decide) _ ⟨_,rfl,by lia,by lia,?_⟩;refine iJ (n:=(c%6).toNat) (λi d J=>∃(t:Int)(w:List Int)(A:Option V),d=[some (.int c),some (.int I),some (.int t),some (.ref l),A]/\Same H J/\J l=some (.lst (w.map .int))/\w.length=i/\∀x∈w,0<=x/\x<I) ⟨_,[],none,rfl,aw g,ac,rfl,λ_ h=>nomatch h⟩ (λi d J p j=>j) (λd J p=>R7 _) (λi d J x m r j p y o=>?_) λd J p=>?_
 .obtain⟨t,w,A,rfl,s,f,C,B⟩:=p;obtain⟨rfl,rfl⟩:=y;rw[WH];refine dU (.mod (.ad (.ad (.mul (.va rfl) .k ⟨by decide,by decide⟩) (.mul (.va (v:=.int (i:Nat)) rfl) (.va rfl) ⟨by lia,by lia⟩)) .k) .k (by decide)) ⟨_,rfl,.inl ⟨rfl,_,SqL.of f⟩,Reads.mod (.dv (.va rfl) .k ⟨by decide,by decide⟩) (.va rfl) hs _ ⟨l,_,_,rfl,rfl,f,hG (by rw[R9];lia),o _ _ ⟨_,w++[_],_,rfl,λc u e=>?_,by rw[ac,SN];rfl,by rw[Sm,C];rfl,λx hx=>?_⟩⟩⟩
  .rw[ai λz=>by rw[z,g]at e;cases e];exact s _ _ e
  .rcases Sk.mp hx with hx|hx
   .exact B x hx
   .rw[Sb.mp hx];exact em hs
 .obtain⟨t,w,A,rfl,s,f,C,B⟩:=p;exact⟨_,rfl,k l w J s g f (by lia) B⟩
structure Fg(B H:Hp) (l:Addr) (L I:Int) (n:Nat) (M:List Sp.Rule):Prop where
 s:Same B H
 l:∃N,H l=some (.lst N)/\aN (IsRule H) M N
 a:∀r∈M,Ju L I r
 n:M.length<=n
def Fg.up{l:Addr}{n m:Nat}(h:Fg B H l L I n M)(b:n<=m):Fg B H l L I m M:=⟨h.s,h.l,h.a,SE h.n b⟩
def Ex(K:WK)(a b:TE):TS:=b9 (qc K "list" cW (aj 6) (ah (bj FI [] E0 (ah a (ah (aj 1) (ah (aj 2) (ah b aF))))) aF))
theorem PV(A:Fg B H l L I n M)(nl:B l=none)(G:n<1000)(h1:0<L/\L<1073741824)(v:0<I/\I<1073741824)(f:σ[6]?=some (some (.ref l)))(w:σ[1]?=some (some (.int L)))(y:σ[2]?=some (some (.int I)))(g:Reads tn σ H (.int i))(C:Reads tb σ H (.bl b))(k:∀J r,Kp l H J->Fg B J l L I (n+1) (M++[r])->D.nx σ J):Ex K tn tb D σ H:=by
 obtain⟨s,⟨N,d,o⟩,a,h⟩:=A;refine⟨_,f,.inl ⟨rfl,_,SqL.of d⟩,g _ ⟨_,w,_,y,C _ (.mk h1 v λp r q m j F=>?_)⟩⟩;have t:KT q (upd q l (.lst (N++[.ref p]))):=.upd (m _ _ d) λ_ z=>(nomatch z);refine⟨l,N,_,rfl,rfl,m _ _ d,hG (by rw[<- o.len];lia),k _ r (λc u e n=>by rw[ai n];exact m _ _ e) ⟨λc u e=>?_,⟨_,ac,(o.mono (IsRule.keep ((KT.of m).trans t))).snoc (IsRule.keep t _ _ j)⟩,λx hx=>?_,by rw[Sm,SY];lia⟩⟩
 .rw[ai λz=>by rw[z,nl]at e;cases e];exact m _ _ (s _ _ e)
 .rcases Sk.mp hx with hx|hx
  .exact a x hx
  .rwa[Sb.mp hx]
def BO(c:List V)(a b:Int)(d:0<=a)(e:0<=b):(fh c (some a) (some (a+b))).length<=b.toNat:=by
 unfold fh;rw[TC,VC];have f:HT.sIx c.length 0 (some a)=min a.toNat c.length:=by have:=HT.sIx_nat c.length 0 a.toNat;rwa[U4 d]at this
 have g:HT.sIx c.length c.length (some (a+b))=min (a+b).toNat c.length:=by have:=HT.sIx_nat c.length c.length (a+b).toNat;rwa[U4 (by lia)]at this
 rw[f,g];refine SE (Nat.min_le_left _ _) ?_;rw[Int.toNat_add d e];exact Nat.sub_le_of_le_add ((Nat.le_total c.length a.toNat).elim (λh=>SE (Nat.min_le_right _ _) (by rw[Nat.min_eq_right h];exact Nat.le_add_left _ _)) λh=>SE (Nat.min_le_left _ _) (by rw[Nat.min_eq_left h,Wu];exact R7 _))
end
def yH(a:List Sp.Rule)(x y:Rw):Prop:=∃r∈a,∃w,x=(r.1,r.2.1::w)/\y=(r.2.2.1,r.2.2.2++w)
def LG(b:List Sp.Rule)(a:List Rw):Prop:=∀(k:Nat) x y,a[k]?=some x->a[k+1]?=some y->yH b x y
def BP(h:LG RL (RW++[x]))(g:yH RL x y):LG RL (RW++[x]++[y]):=by
 intro k a b f e;have d:k+1<(RW++[x]++[y]).length:=(Si.mp e).1;simp only[Sm,SY]at d;by_cases c:k+1<(RW++[x]).length
 .rw[Uj (by lia)]at f;rw[Uj c]at e;exact h k a b f e
 .simp only[Sm,SY]at c;obtain rfl:k=RW.length:=by lia
  simp at f e;subst f;subst e;exact g
def wW(a:∀r∈RL,r.2.2.2.length<=2)(h:yH RL x y):y.2.length<=x.2.length+1/\x.2.length<=y.2.length+1/\x.2≠[]:=by obtain⟨r,b,w,rfl,rfl⟩:=h;have:=a r b;refine⟨?_,?_,λz=>nomatch z⟩<;>simp<;>lia
section
variable{X:Cx}{K:WK}{H H':Hp}{r:Addr}{σ:L2.St}{ws:List V}{RL:List Sp.Rule}
def LH(K:WK):TT:=GH (bO (ba pX (tI K 0 0) (aj 1))) (bO (ba pX (tI K 0 1) (ba (mF K) (aj 2) (tC (.int 0)))))
def Ey{Fin:Addr->List V->Hp->Prop}(h1:tN.length=1)(o:jz σ caps=[some (.int room),some (.ref sl)])(I:∀T C p t U,PG (aV X scope (tN++capN) T C p t U) tg (aA 0))(J:∀T C p t U,y9 (aV X scope (tN++capN) T C p t U) ifs (LH X.K))(L:∀T C p t U,PE (aV X scope (tN++capN) T C p t U) elt (aj 0))
 (B:Rd H1 l (.lst ws)) (Z:aN (IsRule H1) RL ws) (hs:Rd H1 sl (.lst ((s::w).map .int))) (hz:RL.length<1000) (k:∀d a H',Same H1 H'->H1 d=none->H' d=some (.lst a)->aN (IsRule H') (RL.filter λr=>r.1==room&&r.2.1==s) a->Fin d a H'):ce X scope tg tN capN caps elt ifs σ Fin (yZ X.K l) H1:=by
 have ln:=Z.len;refine iL (n:=RL.length) I J L (λd i a H'=>Same H1 H'/\H' d=some (.lst a)/\aN (IsRule H') ((RL.take i).filter λr=>r.1==room&&r.2.1==s) a/\H1 d=none) (λd g=>⟨aw g,ac,.nil,g⟩) (λh=>h.2.1) (λd i a H' ⟨S,_⟩ M=>⟨ws,ws[i]'(by lia),.inl (aU S B),R_ _⟩) (λd a H' ⟨S,_⟩=>⟨ws,.inl (aU S B),by lia⟩) (λd i a H' O f P M ⟨S,g,m,D⟩ y x=>?_) λd a H' g ⟨S,E,m,_⟩=>k d a H' S g E (by rwa[SU]at m);obtain⟨rfl,y⟩:=y;obtain⟨r,N,A⟩:=Z.get (y _ (.inl (aU S B)));have A:=IsRule.keep (.of S) _ _ A;obtain⟨b,q,rfl,hb,Q⟩:=id A;rw[h1]at x;obtain⟨R,rfl⟩:=Ui.mp x;rw[o];have F:RL.take (i+1)=RL.take i++[r]:=by rw[Sv,N];rfl
 have lt:=S_ i RL;have no:(r.1==room&&r.2.1==s)=false->Same H1 f/\f d=some (.lst a)/\aN (IsRule f) ((RL.take (i+1)).filter λr=>r.1==room&&r.2.1==s) a/\H1 d=none:=λc=>⟨S,g,by rwa[F,Tt,T7,Sj (by rw[c];decide),List.filter_nil,Tj],D⟩;refine⟨λj G=>?_,Reads.xn (.ix (.va rfl) hb (v:=.int r.1) rfl) (.va (v:=.int room) rfl) _ ⟨_,rfl,qj (λW=>?_) λW=>fq (no ?_)⟩⟩
 .rw[h1]at G;obtain⟨j,rfl⟩:=Ti G;rfl
 .have W:=SO W;refine Reads.xn (.ix (.va rfl) hb (v:=.int r.2.1) rfl) (Reads.op (z:=.int s) (.va rfl) .k λ_ q=>⟨sl,_,0,_,rfl,rfl,.inl (aU S hs),cD (j:=0) rfl,q⟩) _ ⟨_,rfl,qj (λY=>?_) λY=>no ?_⟩
  .have Y:=SO Y;have kt:KT f (upd f d (.lst (a++[.ref b]))):=.upd g λ_ z=>(nomatch z);refine⟨_,rfl,g,hG (by rw[<- m.len];exact Ts (TZ _ _) (by lia)),λc u e=>?_,ac,?_,D⟩
   .rw[ai (ay e D)];exact S _ _ e
   .rw[F,Tt,T7,Sg (by rw[W,Y,BEq.rfl,BEq.rfl];rfl)];exact(m.mono (IsRule.keep kt)).snoc (IsRule.keep kt _ _ A)
  .rw[UG.mpr λz=>Y (Sz z),Vw]
 .rw[UG.mpr λz=>W (Sz z),V9]
def vA(K:WK)(i:Nat):TE:=eR (gq K) (ah (aj i) aF)
def Reads.RF(h:σ[i]?=some (some (.ref p)))(a:Rd H p (.lst xs)):Reads (ba HJ (vA K i) (tC (.int 0))) σ H (.bl (decide (0<((xs.length:Nat):Int)))):=Reads.op (.rA (.va h) a) .k λ_ q=>⟨_,_,rfl,rfl,q⟩
end
def iP(c:X.calm=true)(S:b8 X scope tN capN caps)(d:X.N.Nodup)(a:X.N[i]?=some y)(e:X.env.scope.names.lookup y=some .local)(f:PI X tg iter wi)
 (b:autoParam (swapsWith (.ListComp elt [⟨tg,iter,ifs,0⟩] scope pos) (some (.Name y py)) spos.line X.env=pure true) av) (g:autoParam (∀x,foldedSetIterable iter X.env x=pure x) af):PS X (.Assign [.Name y py] (.ListComp elt [⟨tg,iter,ifs,0⟩] scope pos) spos) (nQ X scope tg elt tN capN caps ifs i wi):=λj s k H D I h=>AS c S d a e b I f h g
section
variable{X:Cx}{K:WK}{mg:Str->Option WM}{Fr:qR}{H H':Hp}{vs:List V}{Q:VK}{E:XK}
def yI:∀(l a:List (List bc×V)),((a++l).map (·.1)).Nodup->dZ a l=a++l:=by
 intro l;induction l with
 |nil=>intro a _;rw[Tj];rfl
 |cons x l b=>
  intro a f;have c:¬(a.any λy=>decide (y.1=x.1))=true:=λh=>by obtain⟨y,d,e⟩:=WE.mp h;rw[SN,SD]at f;exact(SX.mp f).2.2 y.1 (Se.mpr ⟨y,d,rfl⟩) x.1 (by simp) (SO e)
  have:bG a x.1 x.2=a++[x]:=by unfold bG;rw[Sj c]
  show dZ (bG a x.1 x.2) l=_;rw[this,b (a++[x]) (by rwa[SV]),SV];rfl
theorem vB(h:Is H' (nl H H') (lr t) v):∃d C u,v=.ref d/\H d=none/\H' d=some u/\(u=.dT C\/(u=.dK []/\C=[]))/\C.map (·.1)=(t.map (·.1)).map ak/\∀(i:Nat) k w,C[i]?=some (k,w)->∃p q D,w=.ref p/\H' p=some (.tup (.int q::D)):=by
 obtain⟨d,C,u,f,m,a,g,j⟩:=vk (As:=t.map (·.1)) (by unfold lr at h;rwa[Tg]);obtain⟨L,vs,G,⟨I,_⟩,all⟩:=h;cases f.symm.trans G;refine⟨d,C,u,f,m,a,g,j,λi k w c=>?_⟩;have n:vs[i]?=some w:=by
  rcases g with rfl|⟨rfl,rfl⟩
  .rcases I with⟨b,e|⟨o,e⟩,h1,F⟩|⟨b,e|⟨o,e⟩,h1,F⟩
   .rw[a]at e;cases e
   .rw[a]at e;cases e
   .rw[a]at e;cases e;rw[F,Su,c];rfl
   .rw[a]at e;cases e
  .simp at c
 obtain⟨x,s⟩ : ∃x,t[i]?=some x:=⟨_,R_ (by have:=T_ List.length j;have:=(Si.mp c).1;simp at *;lia)⟩;obtain⟨B,l,y⟩:=all.get (i:=i) (d:=HN x.2) (by rw[Su,s];rfl);rw[n]at l;cases l;obtain⟨p,D,rfl,z,J,r,rfl,A,_⟩:=y;obtain rfl:J=.int x.2.1:=A;exact⟨p,_,r,rfl,z⟩
noncomputable def JL(a:Int):L3.D:=.tup [.int a,.lst [],.lst []]
inductive kh(Fr:qR):Sp
 |mk {H:Hp} {p:Addr} {hD:L3.D} {ro:Int} {ws:List V} {t:Pz.TD} {Q:VK} {E:XK} (is:Is H Tr hD (.ref p)) (hp:H p=some (.tup (.int ro::ws))) (hF:Fr [hD,JL ro]=.ok (.ze (lr t))) (nd:(t.map (·.1)).Nodup) (hz:t.length<1000) (k:∀d kvs H',Same H H'->H d=none->H' d=some (.dT kvs)->kvs.map (·.1)=(t.map (·.1)).map ak->Q (.ref d) H'):kh Fr [.ref p] H Q E
def OE(K:WK):TE:=cm (ah (aj 0) (ah (tI K 1 0) aF))
def OF(X:Cx)(b:Scope)(c a:Expr)(d:List Str):TS:=b5 (eR jF (ah (iD X b c d [] [] a [] (AB X (aj 1))) aF))
def QX(X:Cx)(mg:Str->Option WM)(Fr:qR)(b:Scope)(c a:Expr)(d:List Str):TS:=aI (aT (bj (nu mg 2 Fr) [] E0 (ah (aj 0) (ah (cm (ah (tI X.K 0 0) (ah (dR aF) (ah (dR aF) aF)))) aF))) (aA 1)) (OF X b c a d)
def LI{a:List Sp.Arr}(h:a.Nodup):(a.map ak).Nodup:=by unfold List.Nodup;rw[To];exact h.imp λh e=>h (u7 _ _ e)
theorem Ez{scope:Scope}(h1:tN.length=2)(hg:∀cl C A I fp,PG (aV X scope (tN++[]) cl C A I fp) tg (c9 X.K 2 (aR (aA 0) (aR (aA 1) cZ))))(he:∀cl C A I fp,PE (aV X scope (tN++[]) cl C A I fp) elt (OE X.K))(h:kh Fr vs H Q E):QX X mg Fr scope tg elt tN (eQ Q) (aZ (nS 2) vs) H:=by
 obtain @⟨H,p,B,ro,ws,t,Q,E,is,hp,hF,nd,hz,k⟩:=h;refine⟨_,rfl,Reads.ix (n:=0) (.va (i:=0) rfl) hp (v:=.int ro) (cD (j:=0) rfl) _ ⟨Sw _,λg S=>⟨Sw _,λm T=>⟨by show 3<=_;rw[SQ];lia,λq hq=>?_⟩⟩⟩⟩;have t1:=aw (o:=.lst []) S;have t2:=aw (o:=.lst []) T;have U:=aw (o:=.tup [.int ro,.ref g,.ref m]) hq;have a1:=U _ _ (t2 _ _ (ac:upd H g (.lst []) g=_));have a2:=U _ _ (ac:upd (upd H g (.lst [])) m (.lst []) m=_);have a3:upd (upd (upd H g (.lst [])) m (.lst [])) q (.tup [.int ro,.ref g,.ref m]) q=some (.tup [.int ro,.ref g,.ref m]):=ac;have r:=(t1.trans t2).trans U;generalize upd (upd (upd H g (.lst [])) m (.lst [])) q (.tup [.int ro,.ref g,.ref m])=I at r a1 a2 a3;refine⟨rfl,[B,JL ro],Tr,⟨_,_,rfl,Ef is r,_,_,rfl,⟨q,_,rfl,a3,_,_,rfl,rfl,_,_,rfl,⟨g,[],rfl,.inl ⟨a1,⟨⟩⟩,rfl⟩,_,_,rfl,⟨m,[],rfl,.inl ⟨a2,⟨⟩⟩,rfl⟩,rfl⟩,rfl⟩,?_⟩;rw[hF];intro v D V r4;have V:Same I D:=V;obtain⟨d,kvs,u,rfl,n4,e4,hu,W,hv⟩:=vB r4;have kg:mP u:=by rcases hu with rfl|⟨rfl,_⟩<;>exact ⟨⟩
 have ln:kvs.length=t.length:=by have:=T_ List.length W;simpa using this
 refine⟨_,rfl,d,kvs,u,rfl,hu,.inr ⟨e4,λo ho=>?_⟩⟩;have Y:upd D d (.bv o u) d=some (.bv o u):=ac;have kp:Kp d D (upd D d (.bv o u)):=λc w e n=>by rwa[ai n]
 have kt:KT D (upd D d (.bv o u)):=.upd e4 λws z=>by subst z;exact kg
 generalize upd D d (.bv o u)=H5 at Y kp kt;have Z:H d=none:=r.free n4;refine iL (n:=kvs.length) hg (λ_ _ _ _ _=>dw) he (λl i f H'=>Same H5 H'/\H' l=some (.lst f)/\(∃ps,i7 H' f ps/\ps.map (·.1)=(kvs.take i).map (·.1))/\f.length=i/\H5 l=none) (λl B=>⟨aw B,ac,⟨[],.nil,rfl⟩,rfl,B⟩) (λh=>h.2.1) (λl i f H' ⟨sm,_⟩ hi=>⟨sm _ _ Y,hi⟩) (λl f H' ⟨sm,_⟩=>⟨sm _ _ Y,R7 _⟩) (λl i f H' xv H'' ol hi ⟨sm,B,⟨ps,pi,J⟩,al,nD⟩ y L=>?_) λl f H' B ⟨sm,hD',⟨ps,pi,J⟩,_⟩=>?_
 .obtain⟨p5,b,kk,w,hp5,rfl,hb,rfl,e⟩:=y;obtain⟨pw,P,wr,rfl,F⟩:=hv i kk w e;rw[h1]at L;obtain⟨u0,u1,rfl⟩ : ∃x y,ol=[x,y]:=by
   match ol,L with
   |[x,y],_=>exact⟨x,y,rfl⟩
  have s2:Same H' (upd H' p5 (.tup [.ref b,.ref pw])):=aw hp5;have F:=s2 _ _ (sm _ _ (kt _ _ F));refine wD ac ⟨λj hj=>?_,fK (lI (ws:=[.ref b,.int P]) (.c (.va rfl) (.c (.ix (.va rfl) F (cD (j:=0) rfl)) .ni)) rfl λM G=>?_)⟩
  .rw[h1]at hj;obtain⟨j,rfl⟩:=Ti hj;rfl
  .have s:=s2 _ _ B;generalize upd H' p5 (.tup [.ref b,.ref pw])=R at s2 G s;have np:l≠M:=ay s G;have A:Same R (upd R M (.tup [.ref b,.int P])):=aw G;have k3:KT R (upd (upd R M (.tup [.ref b,.int P])) l (.lst (f++[.ref M]))):=(KT.of A).trans (.upd (A _ _ s) λ_ z=>(nomatch z));refine⟨A _ _ s,hG (by lia),λc u e=>?_,ac,⟨ps++[(kk,.int P)],?_,?_⟩,by rw[Sm,al];rfl,nD⟩
   .rw[ai (ay e nD)];exact A _ _ (s2 _ _ (sm _ _ e))
   .have N:=(KT.of s2).trans k3;exact Paired.snoc (Paired.imp' (λa b ⟨p,ka,e,e1,e2⟩=>⟨p,ka,e,N _ _ e1,N _ _ e2⟩) pi) ⟨M,b,rfl,by rw[ai (Tp np),ac],k3 _ _ (s2 _ _ hb)⟩
   .rw[Sv,e,SN,SN,J];rfl
 .rw[SU]at J;refine⟨l,f,ps,rfl,.inl hD',pi,λd2 O=>?_⟩;rw[yI ps [] (by rw[Vo,J,W];exact LI nd),Vo];have sH:Same H H':=λc w e=>sm _ _ (kp _ _ (V _ _ (r _ _ e)) λz=>by rw[z,Z]at e;cases e);exact k d2 ps _ (sH.trans (aw O)) (sH.free O) ac (by rw[J,W])
theorem BQ(g:Is H Tr hD (.ref p))(a:H p=some (.tup (.int ro::ws)))(b:Fr [hD,JL ro]=.ok (.ze (lr t)))(i:(t.map (·.1)).Nodup)(j:t.length<1000):M4 (kh Fr) H (.ref p) (t.map (·.1)):=λl f Q k=>.mk (Ef g f) (f _ _ a) b i j λd c H' s n e h=>k d c _ H' s n e (.inl rfl) h
end
structure CB where
 (Fr Fm Fc:qR)
structure Nn(Fr:qR) (a signs:Int) (b:List Sp.Rule) (t:Pz.TD):Prop where
 p:Fr [qS a signs b,JL a]=.ok (.ze (lr t))
 nd:(t.map (·.1)).Nodup
 z:t.length<1000
 n:b.length<1000
 f:K8 (Ls (t.map (·.1)) b)
section
def LJ(K:WK):TE:=GR (zH K) (aj 0) (lb (ba cf (tC (.int 4)) (aj 4))) (lb (ba cf (tC (.int 64)) (aj 4)))
end
section
variable{H c:Hp}{p:Addr}{b:List Int}
structure h8(H:Hp) (a:Int) (b:List Int) (p l:Addr):Prop where
 t:H p=some (.tup [.int a,.ref l])
 l:Rd H l (.lst (b.map .int))
def h8.more{l:Addr}(h:h8 H room b p l)(s:Same H c):h8 c room b p l:=⟨s _ _ h.t,aU s h.l⟩
def h8.is{l:Addr}(h:h8 H room b p l):Is H Tr (.tup [.int room,.lst (b.map .int)]) (.ref p):=⟨p,_,rfl,h.t,_,_,rfl,rfl,_,_,rfl,⟨l,_,rfl,h.l.imp (λe=>⟨e,⟨⟩⟩) (λ⟨o,e⟩=>⟨o,e,⟨⟩⟩),jA _⟩,rfl⟩
end
def F_(K:WK):List V->Hp->VK->Prop:=λa H Q=>∃p,a=[.ref p]/\SqL K H p []/\Q (.bl true) H
noncomputable def OG(d:List L3.D):Res R:=@ite _ (∃a b c,d=[a,.tup [b,.lst [],c]]) (Classical.propDecidable _) (.ok (.val .cj true [])) .stuck
section
variable{X:Cx}{K:WK}{O:Str->Option WM}{H H':Hp}{M:L2.St}{L:List V}{Q:VK}{E N:XK}
theorem yJ(a:X.calm=true):bJ X (.builtin "all") (F_ X.K):=by
 rintro y s M H D F Q I r⟨p,rfl,c,q⟩;obtain⟨u,rfl,d⟩:=eB r;cases d;obtain⟨w,z,x,G⟩:=I.list c;cases w with
 |cons=>exact absurd z.length (by simp)
 |nil=>
 have f:X.A.in1.handled=none:=I.ok.hd a;obtain⟨o,g,_⟩:=x.isList;refine call_all_walk (Vp x.isList ?_);refine⟨s.z,_,_,_,_,_,λ_=>true,rfl,Walks.list f s.z p (SI (Sr g)) [].toArray,⟨⟨_,Sn _ rfl,rfl,rfl⟩,x.isList.at λo e=>R8 _ e⟩,λi v m n t j=>?_,λJ B k=>⟨.bl true,H,?_,?_,q⟩⟩
 .simp at j
 rotate_left
 .rfl
 have l:L2.Inv X y M H { s with heap:=s.heap.push { cls:=.type "list_iterator",data:=.fields #[.ref p,.int 0 0] } }:=I.kept (t':=s.toks) λb o e=>R8 _ e;have fo:=I.ou (H':=H) (R7 s.z) (I.aS.fresh (R7 _));exact l.turned (t':=B) (it:=s.z) (λb o C e=>k b o (by simpa using C) e) fo.1 fo.2.1 fo.2.2.2.1 fo.2.2.2.2.1 fo.2.2.2.2.2
inductive Fs:Sp
 |mk {H:Hp} {v a b:V} {q l:Addr} {Q:VK} {E:XK} (hq:H q=some (.tup [a,.ref l,b])) (hl:Rd H l (.lst [])) (k:∀H',Same H H'->Q (.bl true) H')   : Fs [v,.ref q] H Q E
def QY(X:Cx)(b:Scope)(e a:Expr)(f c:List Str)(d:List Nat):TS:=b5 (eR (F_ X.K) (ah (iD X b e f c d a [] (bZ X.K (tI X.K 1 1))) aF))
theorem EA(h:Fs L H Q E):QY X scope tg elt tN capN caps (eQ Q) (aZ (nS 2) L) H:=by obtain @⟨H,v,a,b,q,l,Q,E,hq,hl,k⟩:=h;refine Reads.ix (n:=1) (.va (i:=1) rfl) hq (v:=.ref l) (cD (j:=1) rfl) _ ⟨l,rfl,⟨_,.inl hl⟩,λe f o C g p=>⟨λ_ _ _ _=>False,_,λ_ _ _=>False,λi m c H'=>c=[]/\Same H H'/\H' e=some (.lst []),λ_ _ _ _ _ _ _ _ _ h=>h.elim,dw,λ_ _ _ _ _ _ h=>h.elim,⟨0,rfl,aw f,ac⟩,?_⟩⟩;rintro i m c H' ⟨rfl,s,d⟩;exact⟨d,.inl ⟨⟨[],.inl (aU s hl),Sw _⟩,e,rfl,SqL.of d,k _ s⟩⟩
noncomputable def LK:TS:=λ_ _ _=>False
def Ii:PSs X b LK:=λ_ _ _ _ _ _ h=>h.elim
def QZ(E:XK):TS:=dQ (ul (tB (bj Fs [] E (ah (aj 0) (ah (aj 1) aF))))) LK ck
def EB(h:nu O 2 OG L H Q E):QZ N (eQ Q) (aZ (nS 2) L) H:=by
 obtain⟨g,x,B,y,d⟩:=h;unfold OG at d;by_cases c:∃a b c,x=[a,.tup [b,.lst [],c]]
 .rw[Sg c]at d;obtain⟨a,b,c,rfl⟩:=c;obtain⟨C,i,rfl,j,k,m,rfl,⟨q,D,rfl,e,n,p,rfl,r,t,u,rfl,⟨l,z,rfl,f,A⟩,v,F,rfl,w,rfl⟩,rfl⟩:=y;obtain rfl:z=[]:=A;exact⟨_,rfl,_,rfl,.mk e (f.imp (·.1) λ⟨o,h⟩=>⟨o,h.1⟩) λH' s=>⟨true,rfl,fq (d _ _ s rfl)⟩⟩
 .rw[Sj c]at d;exact d.elim
end
def LL(a:List L3.D)(x:Int):Prop:=∃l,∃k:Nat,a=[.lst l,.int k]/\(l[k]?).getD (.int 0)=.int x
noncomputable def OH(a:List L3.D):Res R:=@dite _ (∃x,LL a x) (Classical.propDecidable _) (λh=>.ok (.val (.int h.choose) true [])) λ_=>.stuck
noncomputable def OI(a:List L3.D):Res R:=@dite _ (∃c,a=[.int c]) (Classical.propDecidable _) (λh=>.ok (.val (.int ((h.choose%2147483647+11)*48271%2147483647)) true [])) λ_=>.stuck
noncomputable def OJ(a:List L3.D):Res R:=@ite _ (∃c,a=[.int c]) (Classical.propDecidable _) (.ok (.val (.bl true) true [])) .stuck
section
variable{K:WK}{D:Str->Option WM}{H:Hp}{C:List V}{Q:VK}{E:XK}
def Q0(K:WK):TS:=aI (dQ (bO (ba HE (aj 1) (eR (gq K) (ah (aj 0) aF)))) (b5 (ba (mF K) (aj 0) (aj 1))) ck) (b5 (tC (.int 0)))
def EC(h:nu D 2 OH C H Q E):Q0 K (eQ Q) (aZ (nS 2) C) H:=by
 obtain⟨m,t,y,u,b⟩:=h;unfold OH at b;by_cases c:∃x,LL t x
 case neg=>rw[dif_neg c]at b;exact b.elim
 rw[dif_pos c]at b;obtain⟨l,k,e,r⟩:=c.choose_spec;generalize c.choose=x at b r;subst e;obtain⟨A,n,rfl,⟨a,s,rfl,d,f⟩,g,p,rfl,v,rfl⟩:=u;obtain rfl:g=.int k:=v;have d:Rd H a (.lst s):=d.imp (·.1) λ⟨o,h⟩=>⟨o,h.1⟩;have B:=f.length;refine g7 (Reads.op (.va rfl) (.rA (.va rfl) d) λ_ q=>⟨_,_,rfl,rfl,q⟩) (λc=>?_) λc=>?_
 .have c:k<l.length:=by have:=SO c;lia
  have i:l[k]?=some (.int x):=by rw[R_ c]at r ⊢;exact T_ some r
  obtain⟨w,j,f⟩:=f.get i;obtain rfl:w=.int x:=f;exact Reads.RG (.va rfl) (.va rfl) d j rfl _ (b _ _ (λ_ _ e=>e) rfl)
 .have c:l.length<=k:=by have:¬((k:Nat):Int)<s.length:=λz=>c (Sz z);lia
  rw[T3 c]at r;cases r;exact b _ _ (λ_ _ e=>e) rfl
def Q1:TS:=b5 (ba b_ (ba iO (ba cf (ba b_ (aj 0) (tC (.int 2147483647))) (tC (.int 11))) (tC (.int 48271))) (tC (.int 2147483647)))
def ED(h:nu D 1 OI C H Q E):Q1 (eQ Q) (aZ (nS 1) C) H:=by
 obtain⟨d,g,j,i,a⟩:=h;unfold OI at a;by_cases c:∃c,g=[.int c]
 case neg=>rw[dif_neg c]at a;exact a.elim
 rw[dif_pos c]at a;have e:=c.choose_spec;generalize c.choose=x at a e;subst e;obtain⟨l,f,rfl,b,rfl⟩:=i;cases b;exact Reads.mod (.mul (.ad (.mod (.va rfl) .k (by decide)) .k) .k (by decide)) .k (by decide) _ (a _ _ (λ_ _ e=>e) rfl)
def Q2(K:WK):TS:=b5 (rQ (HZ K "int" (aj 0)) (zk (HZ K "bool" (aj 0))))
def EE(h:nu D 1 OJ C H Q E):Q2 K (eQ Q) (aZ (nS 1) C) H:=by
 obtain⟨d,g,j,i,a⟩:=h;unfold OJ at a;by_cases c:∃c,g=[.int c]
 case neg=>rw[Sj c]at a;exact a.elim
 rw[Sg c]at a;obtain⟨x,rfl⟩:=c;obtain⟨k,f,rfl,b,rfl⟩:=i;cases b;exact Reads.Qi (dd:=.int x) (.va rfl) (.inl (.int x)) AU _ ⟨true,rfl,fK (Reads.Qi (dd:=.int x) (.va rfl) (.inl (.int x)) xY _ ⟨false,rfl,a _ _ (λ_ _ e=>e) rfl⟩)⟩
end
section
def OK(a:TE)(n:Int):TE:=ba b_ a (tC (.int n))
def PX(n:Int):TE:=ba g9 (aj 1) (tC (.int n))
end
section
variable{K:WK}{H B:Hp}{C:Addr}{D:List V}{Q:VK}{E:XK}{f:aD->V}
theorem pR:∀{w:List aD}{a:List Addr},a.length=w.length->(∀(i:Nat) p b,(w.map λk=>(k2 k,f k))[i]?=some p->a[i]?=some b->H b=some (.tup (p.1.map kV)))->aN (IsSet H) w (a.map V.ref)
 |[],[],_,_=>.nil
 |[],_::_,h,_=>nomatch h
 |_::_,[],h,_=>nomatch h
 |x::w,y::a,h,e=>.cons ⟨y,rfl,e 0 _ y rfl rfl⟩ (pR (by simpa using h) λi p b c d=>e (i+1) p b (by simpa using c) (by simpa using d))
inductive Co(C:Addr):Sp
 |mk {H:Hp} {am:Addr} {ks:List aD} {Z:aD->List aD} {AA:aD->Addr} {n:Nat} {S':KS} {Q:VK} {E:XK} (A:Am H am ks Z AA) (nd:ks.Nodup) (hz:ks.length<1000) (hZ:∀k,(Z k).length<=63) (lp:KL (gc (g_ Z ks)) n (rF Z ks) S') (ne:S'.ended.Nodup) (le:S'.ended.length<1000)
  (k:¬S'.ended.length<ks.length->∀l ev B,Same H B->H l=none->B l=some (.lst ev)->aN (IsSet B) S'.ended ev->Q (.ref l) B) (x:S'.ended.length<ks.length->∀B,Same H B->E (.ref C) none B):Co C [.ref am] H Q E
def Q3(K:WK)(C:Addr)(E:XK)(m:Str):TS:=aI (aT (eR vn (ah (bj CC [] E0 (ah (aj 0) aF)) aF)) (aA 1)) (aI (dQ (bO (ba HE (eR (gq K) (ah (aj 1) aF)) (eR F4 (ah (aj 0) aF)))) (z6 (ah (tC (.str m)) aF) (λH=>E (.ref C) none H)) ck) (b5 (aj 1)))
def EF(h:Co C D H Q E):Q3 K C E m (eQ Q) (aZ (nS 2) D) H:=by obtain @⟨H,am,ks,Z,AA,n,S',Q,E,A,nd,hz,hZ,lp,ne,le,k,x⟩:=h;refine⟨_,rfl,.mk A nd hz hZ lp ne le λg v s i j=>⟨g,_,rfl,.inl (.inl j),λl p d u b=>?_⟩⟩;have q:=aw (o:=.lst (p.map V.ref)) d;have a:upd v l (.lst (p.map V.ref)) l=some (.lst (p.map V.ref)):=ac;rw[R9]at u;have w:=pR u b;generalize upd v l (.lst (p.map V.ref))=e at q a;refine⟨_,rfl,l,_,rfl,.inl (SqL.of a),_,rfl,am,_,rfl,.inl (.inl (q _ _ (s _ _ A.r))),_,_,rfl,rfl,_,rfl,?_⟩;rw[R9,R9,u];have t:=s.trans q;refine qj (λc=>⟨by show 1<=_;rw[SQ];lia,x (by have:=SO c;lia) e t⟩) λc=>⟨_,rfl,k (λz=>c (Sz (by lia))) l _ e t (s.free d) a (w.mono (bo (.of q)))⟩
end
def OL(a:List Int)(d m:Int):Prop:=(a=[]/\m=d)\/(m∈a/\∀n∈a,n<=m)
theorem tS(f:Nat->Int):∀i,argBest (λa b=>decide (f a>f b)) i<=i/\∀j,j<=i->f j<=f (argBest (λa b=>decide (f a>f b)) i)
 |0=>⟨R7 _,λj d=>by rw[Nat.le_zero.mp d];exact TU _⟩
 |i+1=>by
  obtain⟨h1,g⟩:=tS f i;unfold argBest;by_cases c:f (i+1)>f (argBest (λa b=>decide (f a>f b)) i)
  .rw[Sg (Sz c)];refine⟨R7 _,λj d=>?_⟩;by_cases e:j=i+1
   .rw[e];exact TU _
   .have:=g j (by lia);lia
  .rw[Sj (by simpa using c)];refine⟨by lia,λj d=>?_⟩;by_cases e:j=i+1
   .rw[e];lia
   .exact g j (by lia)
section
variable{e:Expr}
theorem LM{f:List (Int×Tok)}(e:f.toArray.size=i+1)(d:Int):OL (f.map (·.1)) d (numAt f.toArray (argBest (λi j=>decide (numAt f.toArray i>numAt f.toArray j)) i)):=by
 obtain⟨h1,h⟩:=tS (numAt f.toArray) i;have k:f.length=i+1:=by simpa using e
 have g:∀j,j<f.length->(f.map (·.1))[j]?=some (numAt f.toArray j):=λj a=>by unfold numAt;rw[Su,List.getElem?_toArray,R_ a];rfl
 refine .inr ⟨SB (g _ (by lia)),λn b=>?_⟩;obtain⟨j,a⟩:=SC.mp b;have c:j<f.length:=by have:=(Si.mp a).1;simpa using this
 rw[g j c]at a;cases a;exact h j (by lia)
end
def LN(f:List Sp.Rule)(g:List Sp.Arr)(c:Int)(h:List Int):Prop:=∀Z e n b,ua f g c h Z e->KL (gc (g_ Z e)) n (rF Z e) b->(∀d x a,b.ended=d++x::a->∀y∈Z x,y∈d)/\∀x∈b.ended,x∈e
inductive ra(RL:List Sp.Rule) (As:List Sp.Arr) (room:Int) (aO:List Int):Prop
 |mk {Z:aD->List aD} {ks:List aD} {n:Nat} {S':KS} (g:ua RL As room aO Z ks) (l:KL (gc (g_ Z ks)) n (rF Z ks) S') (f:S'.ended.length<ks.length):ra RL As room aO
end L4
namespace L4
open L2 L3
def pS:List V->Hp->VK->Prop:=λa H Q=>∃i j,a=[.int i,.int j]/\Q (.int (if j>i then j else i)) H
section
variable{X:Cx}
def jd(a:X.calm=true):bJ X (.builtin "max") pS:=xw a
end
structure CJ(Fr:qR) (f H:Hp) (g:List Int) (h:V) (a signs b:Int) (c:List Sp.Rule) (t:Pz.TD) (d:List Int) (rl j k p l m n:Addr) (e o:List V):Prop where
 s:Same f H
 i:Is H Tr (.lst (g.map .int)) h
 rl:H rl=some (.lst e)
 it:aN (IsRule H) c e
 rr:∀r∈c,Ju a signs r
 pr:Nn Fr a signs c t
 hs:oV H a signs c p l o
 s7:h8 H b d j k
 s9:h8 H b d m n
 z:d.length<=5
section
variable{X:Cx}{G H C:Hp}{p d rl:Addr}{F:List V}{Q:VK}{r signs w:Int}{B:List Int}{place:Int}{E:List Int}{D:Ends}
def y_(c:V)(e:Option V)(r signs w place:Int)(rl a p b:Addr)(rest:L2.St):L2.St:=some c::e::some (.int r)::some (.int signs)::some (.int w)::some (.ref rl)::some (.int place)::some (.ref a)::some (.ref p)::some (.ref b)::rest
def LO(X:Cx)(a:TS):TS:=aI (aT (cm (ah (tI X.K 7 0) (ah (eR (jG X.K) (ah (tI X.K 7 1) aF)) aF))) (aA 9)) a
def Ij(X:Cx)(a:TS):TS:=aI (aT (H_ (PP X.K)) (aA 8)) (LO X a)
variable{Fr:qR}{I:Int}{L:V}{J:List Sp.Rule}{t:Pz.TD}{N R l M P:Addr}{O:List V}
theorem CJ.more(a:CJ Fr G H B L r signs I J t E rl N R p l M P F O)(s:Same H C):CJ Fr G C B L r signs I J t E rl N R p l M P F O:=⟨a.s.trans s,Ef a.i s,s _ _ a.rl,a.it.mono (IsRule.keep (.of s)),a.rr,a.pr,a.hs.more s,a.s7.more s,a.s9.more s,a.z⟩
def CJ.pp(a:CJ Fr G H B L r signs I J t E rl N R p l M P F O):M4 (kh Fr) H (.ref p) (t.map (·.1)):=BQ a.hs.is a.hs.t a.pr.p a.pr.nd a.pr.z
def CJ.sa(a:CJ Fr G H B L r signs I J t E rl N R p l M P F O)(u:∃U,yT (aX (t.map (·.1))) U/\I∈U):t_ (kh Fr) H J (t.map (·.1)) p M P I E:=⟨⟨l,O,a.hs.at⟩,a.pp,by rw[R9];exact a.pr.z,a.pr.n,a.pr.f,u,⟨a.s9.t,a.s9.l⟩,by have:=a.z;lia⟩
def LP:TT:=JI (bO (ba Ie (aj 8) (H_ (aj 5)))) (bO (ba Ie (aj 9) (aj 7)))
theorem Ga{Q:Bool->Hp->Prop}{rest:L2.St}(a:CJ Fr G H B L r signs I J t E rl N R p l M P F O)(k:∀C,Same H C->Q false C):LP (y_ L s1 r signs w place rl N p M rest) H Q:=by
 refine⟨_,rfl,_,rfl,_,rfl,_,rfl,by show 3<=_;rw[SQ];lia,λq i=>?_⟩;have c:=aw (o:=.tup [.int r,.int signs,.ref rl]) i;have b:upd H q (.tup [.int r,.int signs,.ref rl]) q=some (.tup [.int r,.int signs,.ref rl]):=ac;generalize upd H q (.tup [.int r,.int signs,.ref rl])=f at c b;have A:=a.more c;have e:Is f Tr (.lst (J.map dS)) (.ref rl):=⟨rl,F,rfl,.inl ⟨A.rl,⟨⟩⟩,vp A.it λx _ v h=>By h⟩;have j:L3.D.iY (J.map dS)<=4:=lX λd hd=>by
  obtain⟨x,_,rfl⟩:=Se.mp hd;have:L3.D.iY (x.2.2.2.map L3.D.int)<=1:=lX λd hd=>by obtain⟨y,_,rfl⟩:=Se.mp hd;exact Sw _
  show max 0 (max 0 (max 0 (max (L3.D.iY (x.2.2.2.map L3.D.int)+1) 0)))+1<=4;lia
 refine⟨_,Tr,Tr,A.hs.is,⟨q,_,rfl,b,_,_,rfl,rfl,_,_,rfl,rfl,_,_,rfl,e,rfl⟩,by show max 0 (max 0 (max (L3.D.iY (J.map dS)+1) 0))<=49;lia,_,rfl,?_⟩;have g:L3.D.iY (E.map L3.D.int)<=1:=lX λd hd=>by obtain⟨y,_,rfl⟩:=Se.mp hd;exact Sw _
 refine fq ⟨_,rfl,_,rfl,_,Tr,Tr,A.s9.is,A.s7.is,by show max 0 (max (L3.D.iY (E.map L3.D.int)+1) 0)<=49;lia,_,rfl,?_⟩;exact k f c
def Ik{rest:L2.St}(m:Is H Tr (.lst (B.map .int)) L)(z:B.length<=63)(k:∀a (j:List Int) C,Same H C->C a=some (.lst (j.map .int))->j.length<=63->Q (.ref a) C):LJ X.K (y_ L s1 r signs w place rl N p M rest) H Q:=by
 obtain⟨n,b,h,c,f⟩:=wM m;refine⟨_,rfl,_,rfl,_,_,rfl,rfl,_,rfl,_,rfl,_,_,rfl,rfl,_,rfl,⟨n,b,h,.inl c,λa e=>?_⟩⟩;have o:=ig b (some (4+w)) (some (64+w));have g:fh b (some (4+w)) (some (64+w))=(sW B (some (4+w)) (some (64+w))).map .int:=by rw[nK f];unfold fh sW;rw[R9,List.map_take,List.map_drop]
 have i:b.length=B.length:=by rw[nK f,R9]
 rw[g,R9]at o;exact k a _ _ (aw e) (by rw[ac,g]) (by lia)
end
section
variable(X:Cx)(F:CB)(C:Addr)
def LQ:TE:=bj (Fe (kh F.Fr)) [] E0 (ah (aj 8) (ah (aj 9) aF))
def OM(X:Cx)(C:Addr)(d:Sp)(a:TS):TS:=λD c H=>ah (aj 8) (ah (aj 9) aF) c H λe f=>d (e++[]) f (λv b=>D.nx (c.set 11 (some v)) b) (L2.pb X C a D c)
end
def MaxI(A:Int->Prop)(m:Int):Prop:=A m/\∀n,A n->n<=m
structure rh(P:Int->Int->Prop) (a:List Int) (f:Int->Int):Prop where
 nd:a.Nodup
 k:∀b n,P b n->b∈a/\n<=f b
 v:∀b∈a,P b (f b)
noncomputable def oQ(m x:Int):Int:=if x>m then x else m
def MaxI.put(h:MaxI A m)(x:Int):MaxI (λn=>A n\/n=x) (oQ m x):=by
 obtain⟨h1,c⟩:=h;unfold oQ;split
 .exact⟨.inr rfl,λn b=>b.elim (λa=>by have:=c n a;lia) λe=>by lia⟩
 .exact⟨.inl h1,λn b=>b.elim (c n) λe=>by lia⟩
def MaxI.to(h:MaxI A m)(h1:∀n,A n->A' n)(d:∀n,A' n->∃b,A b/\n<=b):MaxI A' m:=⟨h1 m h.1,λn c=>let ⟨b,a,l⟩:=d n c;Uz l (h.2 b a)⟩
def rh.to(h:rh P ks f)(h1:∀b n,P b n->P' b n)(e:∀b n,P' b n->∃c,P b c/\n<=c):rh P' ks f:=⟨h.nd,λb n d=>let ⟨c,a,l⟩:=e b n d;⟨(h.k b c a).1,Uz l (h.k b c a).2⟩,λb g=>h1 _ _ (h.v b g)⟩
noncomputable def yK(a:List Int)(b:Int):List Int:=if b∈a then a else a++[b]
noncomputable def EG(f:Int->Int)(b m:Int):Int->Int:=λk=>if k=b then m else f k
abbrev gG(a:List Int)(f:Int->Int):List (bc×V):=a.map λk=>((.inl k:bc),V.int (f k))
def BR:cp (gG ks f) (.inl b)=if b∈ks then some (.int (f b))else none:=by
 induction ks with
 |nil=>rfl
 |cons x r a=>
  rw[gG,SD];by_cases h:x=b
  .rw[dk (by rw[h]),Sg (by rw[h];exact Sa),h]
  .rw[dm λz=>h (Sum.inl.inj z)];show cp (gG r f) _=_;rw[a];simp[Tp h]
def LR:bG (gG ks f) (.inl b) (.int m)=gG (yK ks b) (EG f b m):=by
 unfold yK;by_cases h:b∈ks
 .unfold bG;rw[Sg (by rw[gg,BR,Sg h];rfl),Sg h,gG,Tg];refine SR λj _=>?_;show(if(.inl j:bc)=.inl b then((.inl j:bc),V.int m)else(.inl j,.int (f j)))=(.inl j,.int (EG f b m j));unfold EG;by_cases e:j=b
  .rw[Sg (by rw[e]),Sg e]
  .rw[Sj λz=>e (Sum.inl.inj z),Sj e]
 .rw[cI _ (by rw[BR,Sj h]),Sj h,gG,gG,SN];congr 1
  .exact SR λj a=>by rw[EG,Sj λz:j=b=>h (z▸a)]
  .show _=[((.inl b:bc),V.int (EG f b m b))];rw[EG,Sg rfl]
def rh.put(h:rh P ks f)(m:0<=n):rh (λa d=>P a d\/a=b/\d=n) (yK ks b) (EG f b (oQ (if b∈ks then f b else 0) n)):=by
 obtain⟨p,g,i⟩:=h;unfold yK EG oQ;by_cases o:b∈ks
 .rw[Sg o,Sg o];refine⟨p,λa d c=>?_,λa h'=>?_⟩
  .rcases c with c|⟨rfl,rfl⟩
   .refine⟨(g _ _ c).1,?_⟩;have:=(g _ _ c).2;split
    .rename_i e;subst e;split<;>lia
    .exact this
   .refine⟨o,?_⟩;rw[Sg rfl];split<;>lia
  .split
   .rename_i e;subst e;split
    .exact .inr ⟨rfl,rfl⟩
    .exact .inl (i _ h')
   .exact .inl (i _ h')
 .rw[Sj o,Sj o];have j:(if n>0 then n else 0)=n:=by split<;>lia
  rw[j];refine⟨?_,λa d c=>?_,λa h'=>?_⟩
  .rw[SX];exact⟨p,by simp,λx k y l e=>o (by rwa[<- Sb.mp l,<- e])⟩
  .rcases c with c|⟨rfl,rfl⟩
   .have:=g _ _ c;exact⟨SH _ this.1,by rw[Sj λe:a=b=>o (e▸this.1)];exact this.2⟩
   .exact⟨SK _ Sa,by rw[Sg rfl];exact TU _⟩
  .rcases Sk.mp h' with h'|h'
   .rw[Sj λe:a=b=>o (e▸h')];exact .inl (i _ h')
   .have e:=Sb.mp h';rw[Sg e];exact .inr ⟨e,rfl⟩
def WP(PG:aD->Int->Int->Prop):List Int->Int->Int->Int->Int->Prop
 |[],a,c,b,n=>b=a/\n=c
 |s::st,a,c,b,n=>∃d m,PG (a,s) d m/\WP PG st d (c+m) b n
def WA(d:aD->Int->Prop)(PG:aD->Int->Int->Prop):List Int->Int->Int->Int->Prop
 |[],_,_,_=>False
 |s::st,a,c,n=>(∃m,d (a,s) m/\n=c+m)\/∃b m,PG (a,s) b m/\WA d PG st b (c+m) n
def WC(PG:aD->Int->Int->Prop)(e:List aD):List Int->Int->Prop
 |[],_=>True
 |s::st,a=>(a,s)∈e/\∀b m,PG (a,s) b m->WC PG e st b
structure FA(H:Hp) (b:Addr) (e:List aD) (TA a:aD->Addr) (M:aD->Int) (G:aD->List Int) (F:aD->Int->Int):Prop where
 r:H b=some (.dT (e.map λk=>(k2 k,V.ref (TA k))))
 t:∀k∈e,H (TA k)=some (.tup [.int (M k),.ref (a k)])
 d:∀k∈e,H (a k)=some (.dK (gG (G k) (F k)))
def FA.more{TA b:aD->Addr}{M:aD->Int}{G:aD->List Int}{F:aD->Int->Int}(h:FA H kd e TA b M G F)(s:Same H H'):FA H' kd e TA b M G F:=⟨s _ _ h.r,λk a=>s _ _ (h.t k a),λk a=>s _ _ (h.d k a)⟩
structure ub(e:List aD) (M:aD->Int) (G:aD->List Int) (F:aD->Int->Int) (c:aD->Int->Prop) (PG:aD->Int->Int->Prop) (U:List Int):Prop where
 a:∀k∈e,MaxI (c k) (M k)
 p:∀k∈e,rh (PG k) (G k) (F k)
 n:∀k b m,PG k b m->0<=m
 u:∀k b m,PG k b m->b∈U
 z:U.length<=7
section
variable{X:Cx}{K:WK}{B H H':Hp}{kd sg rd bd:Addr}{e:List aD}{U:List Int}{D:Ends}{σ:L2.St}{a0 done a4 c:Int}
def ON:TS:=jk (aj 7) (aj 11) (eR pS (ah (cu (aj 7) (aj 11) (tC (.int 0))) (ah (ba cf (aj 9) (aj 12)) aF)))
def Il(X:Cx):TS:=λD σ H=>cU (Az X (tI X.K 10 1)) (c9 X.K 2 (aR (aA 11) (aR (aA 12) cZ))) ON (Aa X D) σ H
def LS(X:Cx):TS:=aI (aT (ip (aj 0) (cm (ah (aj 8) (ah (aj 6) aF)))) (aA 10)) (aI (aT (eR pS (ah (aj 4) (ah (ba cf (aj 9) (tI X.K 10 0)) aF))) (aA 4)) (Il X))
def Im(X:Cx):TS:=λD σ H=>cU (Az X (aj 5)) (c9 X.K 2 (aR (aA 8) (aR (aA 9) cZ))) (LS X) (Aa X D) σ H
def LU(X:Cx):TS:=aI (aT qg (aA 7)) (aI (Im X) (aT (aj 7) (aA 5)))
def Q5(X:Cx):TS:=aI (aT (aj 3) (aA 4)) (aI (aT (FP [(aj 1,aj 3)]) (aA 5)) (aI (cU (Kd X.K (aj 2)) (aA 6) (LU X)) (b5 (cm (ah (aj 4) (ah (aj 5) aF))))))
noncomputable def nT(kd:Addr)(a0:Int)(sg:Addr)(done a4:Int)(rd:Addr)(h d i f g a b:Option V):L2.St:=[some (.ref kd),some (.int a0),some (.ref sg),some (.int done),some (.int a4),some (.ref rd),h,d,i,f,g,a,b]
theorem LV{sh:Option V->Option V->L2.St}{f h:Int->Int}{P:Int->Int->Prop}(R:Reads tl (sh x y) H (.ref l))(A:∀x y b v,((sh x y).set i (some b)).set j (some v)=sh (some b) (some v))(hd:H l=some (.dK (gG g f)))(hb:H bd=some (.dK (gG ks h)))(m:bd≠l)(S:rh P ks h)(T:∀b∈g,0<=c+f b)(W:∀b∈g,b∈U)(J:∀b∈ks,b∈U)(hz:U.length<=7)
 (C:∀(G:Ends) a h' b H5,H5 bd=some (.dK (gG a h'))->a.length<15000000->G.nx (sh (some (.int b)) (some (.int (f b)))) (upd H5 bd (.dK (bG (gG a h') (.inl b) (.int (oQ (if b∈a then h' b else 0) (c+f b))))))->tb G (sh (some (.int b)) (some (.int (f b)))) H5)
 (k:∀x y a h' H',Kp bd H H'->H' bd=some (.dK (gG a h'))->rh (λb n=>P b n\/b∈g/\n=c+f b) a h'->(∀b∈a,b∈U)->D.nx (sh x y) H'):cU (Az X tl) (c9 X.K 2 (aR (aA i) (aR (aA j) cZ))) tb (Aa X D) (sh x y) H:=by
 refine R _ ⟨l,_,_,rfl,.inl rfl,.inr ⟨hd,λo Y=>?_⟩⟩;have I:upd H l (.bv o (.dK (gG g f))) l=some (.bv o (.dK (gG g f))):=ac;have k0:Kp l H (upd H l (.bv o (.dK (gG g f)))):=λc u e n=>by rwa[ai n]
 generalize upd H l (.bv o (.dK (gG g f)))=H1 at I k0;refine iJ (n:=(gG g f).length) (λi q H'=>∃x y a h',q=sh x y/\Kp bd H1 H'/\H' bd=some (.dK (gG a h'))/\rh (λb n=>P b n\/b∈g.take i/\n=c+f b) a h'/\∀b∈a,b∈U) ⟨x,y,ks,h,rfl,λ_ _ e _=>e,k0 _ _ hb m,S.to (λ_ _=>.inl) (λb n t=>⟨n,t.resolve_right λz=>(nomatch z.1),TU _⟩),J⟩ (λi q H' ⟨_,_,_,_,_,kp,_⟩ N=>⟨kp _ _ I (Tp m),N⟩) (λq H' ⟨_,_,_,_,_,kp,_⟩=>⟨kp _ _ I (Tp m),R7 _⟩) (λi0 q H' v Z G N p y k'=>?_) λq H' p=>?_
 .obtain⟨x,y',a,h',rfl,kp,d,r,s⟩:=p;obtain⟨p5,kk,w,L,rfl,rfl,O⟩:=y;rw[Su]at O;obtain⟨b,M,e2⟩:=Tf.mp O;cases e2;have Q:=aw (o:=.tup [.int b,.int (f b)]) L;refine wD ac ?_;rw[A];have E:=SB M;have lz:=Sp.nodup_sub r.nd s;refine C G a h' b _ (Q _ _ d) (by lia) (k' _ _ ⟨_,_,yK a b,EG h' b (oQ (if b∈a then h' b else 0) (c+f b)),rfl,λc u e n=>by rw[ai n];exact Q _ _ (kp _ _ e n),by rw[ac,LR],?_,λF d=>?_⟩)
  .refine(r.put (b:=b) (n:=c+f b) (T b E)).to (λF n t=>?_) λF n t=>⟨n,?_,TU _⟩
   .rw[Sv,M];rcases t with(t|⟨h1,h2⟩)|⟨rfl,rfl⟩
    .exact .inl t
    .exact .inr ⟨SH _ h1,h2⟩
    .exact .inr ⟨SK _ Sa,rfl⟩
   .rw[Sv,M]at t;rcases t with t|⟨h1,h2⟩
    .exact .inl (.inl t)
    .rcases Sk.mp h1 with h1|h1
     .exact .inl (.inr ⟨h1,h2⟩)
     .have e:F=b:=by simpa using h1
      exact .inr ⟨e,by rw[h2,e]⟩
  .unfold yK at d;split at d
   .exact s F d
   .rcases Sk.mp d with z|z
    .exact s F z
    .rw[Sb.mp z];exact W b E
 .obtain⟨x,y,a,h',rfl,kp,d,r,s⟩:=p;rw[R9,SU]at r;have th:Kp bd H (upd H' l (.dK (gG g f))):=λc u e n=>by
   by_cases z:c=l
   .rw[z,ac];rwa[z,hd]at e
   .rw[ai z];exact kp _ _ (k0 _ _ e z) n
  exact .inr ⟨l,o,_,kp _ _ I (Tp m),⟨⟩,Y,k _ _ a h' _ th (by rwa[ai m]) r s⟩
def Gb(a:σ[i]?=some (some (.ref bd)))(d:σ[j]?=some (some (.int b)))(f:Reads tx σ H (.int n))(hd:H bd=some (.dK (gG ks' h')))(z:ks'.length<15000000)(q:D.nx σ (upd H bd (.dK (bG (gG ks' h') (.inl b) (.int (oQ (if b∈ks' then h' b else 0) n)))))):jk (aj i) (aj j) (eR pS (ah (cu (aj i) (aj j) (tC (.int 0))) (ah tx aF))) D σ H:=by
 refine⟨_,a,bd,rfl,.inl ⟨_,.inl hd⟩,_,d,_,DGet.k (k:=.inl b) hd,?_⟩;rw[BR];have g:((if b∈ks' then some (V.int (h' b))else none).getD (.int 0))=.int (if b∈ks' then h' b else 0):=by split<;>rfl
 rw[g];exact f _ ⟨_,_,rfl,_,a,_,d,bd,_,rfl,DPut.k (k:=.inl b) hd (hG (by rwa[R9])),q⟩
def Q7{f h:Int->Int}{mk:Int}{P:Int->Int->Prop}(o:Same B H)(r:B ta=some (.tup [.int mk,.ref da]))(hd:B da=some (.dK (gG g f)))(F:H bd=some (.dK (gG ks h)))(p:B bd=none)(s:rh P ks h)(t:∀b∈g,0<=c+f b)(u:∀b∈g,b∈U)(m:∀b∈ks,b∈U)(G:U.length<=7)
 (k:∀d l a E H',Kp bd H H'->H' bd=some (.dK (gG a E))->rh (λb n=>P b n\/b∈g/\n=c+f b) a E->(∀b∈a,b∈U)->D.nx (nT kd a0 sg done a4 rd x6 (some (.ref bd)) x8 (some (.int c)) (some (.ref ta)) d l) H'):Il X D (nT kd a0 sg done a4 rd x6 (some (.ref bd)) x8 (some (.int c)) (some (.ref ta)) d l) H:=
 LV (sh:=λx y=>nT kd a0 sg done a4 rd x6 (some (.ref bd)) x8 (some (.int c)) (some (.ref ta)) x y) (i:=11) (j:=12) (.ix (n:=1) (.va rfl) (o _ _ r) (v:=.ref da) rfl) (λ_ _ _ _=>rfl) (o _ _ hd) F (λz=>by rw[z,hd]at p;cases p) s t u m G (λA a E b C w z q=>Gb rfl rfl (.ad (.va (v:=.int c) rfl) (.va rfl)) w z q) k
end
section
variable{X:Cx}{B H H':Hp}{kd sg rd bd:Addr}{e:List aD}{TA DA:aD->Addr}{M:aD->Int}{G:aD->List Int}{F:aD->Int->Int}{AM:aD->Int->Prop}{PG:aD->Int->Int->Prop}{U:List Int}{D:Ends}{vs:List V}{Q:VK}{E:XK}{a0 done a4 s c:Int}{aO ks:List Int}{f:Int->Int}{A:Int->Prop}
inductive Nj(kd sg rd bd:Addr) (a0 done s:Int) (M:aD->Int) (G:aD->List Int) (F:aD->Int->Int) (A:Int->Prop) (U ks:List Int) (f:Int->Int) (H1:Hp) (i:Nat):L2.St->Hp->Prop
 |mk {H':Hp} {m:Int} {l:List Int} {h:Int->Int} {x8 x9 x10 x11 x12:Option V}:Kp bd H1 H'->H' bd=some (.dK (gG l h))->rh (λb n=>∃a,a∈ks.take i/\b∈G (a,s)/\n=f a+F (a,s) b) l h->MaxI (λn=>A n\/∃a,a∈ks.take i/\n=f a+M (a,s)) m->(∀b∈l,b∈U)->Nj kd sg rd bd a0 done s M G F A U ks f H1 i (nT kd a0 sg done m rd (some (.int s)) (some (.ref bd)) x8 x9 x10 x11 x12) H'
def Nj.k{a:Hp}{i:Nat}(h:Nj kd sg rd bd a0 done s M G F A U ks f a i σ H'):Kp bd a H':=by cases h;assumption
theorem Q8(k:FA B kd e TA DA M G F)(ok:ub e M G F AM PG U)(sB:Same B H)(hr:H rd=some (.dK (gG ks f)))(nr:B rd=none)(hb:H bd=some (.dK []))(nb:B bd=none)(I:rd≠bd)(hn:∀b∈ks,0<=f b)(he:∀b∈ks,(b,s)∈e)(mx:MaxI A a4)
 (kk:∀g q h' x8 W x10 j m H',Same B H'->H' bd=some (.dK (gG q h'))->rh (λb n=>∃a,a∈ks/\b∈G (a,s)/\n=f a+F (a,s) b) q h'->MaxI (λn=>A n\/∃a,a∈ks/\n=f a+M (a,s)) g->(∀b∈q,b∈U)->D.nx (nT kd a0 sg done g rd (some (.int s)) (some (.ref bd)) x8 W x10 j m) H'):Im X D (nT kd a0 sg done a4 rd (some (.int s)) (some (.ref bd)) x8 W x10 j m) H:=by
 refine⟨_,rfl,rd,_,_,rfl,.inl rfl,.inr ⟨hr,λo ho=>?_⟩⟩;have Y:upd H rd (.bv o (.dK (gG ks f))) rd=some (.bv o (.dK (gG ks f))):=ac;have k0:Kp rd H (upd H rd (.bv o (.dK (gG ks f)))):=λc u e n=>by rwa[ai n]
 generalize upd H rd (.bv o (.dK (gG ks f)))=H1 at Y k0;have P:Same B H1:=λc u e=>k0 _ _ (sB _ _ e) λz=>by rw[z,nr]at e;cases e
 refine iJ (n:=(gG ks f).length) (Nj kd sg rd bd a0 done s M G F A U ks f H1) (.mk (l:=[]) (h:=λ_=>0) (λ_ _ e _=>e) (k0 _ _ hb (Tp I)) ⟨S1,λb n ⟨a,z,_⟩=>(nomatch z),λ_ z=>(nomatch z)⟩ (mx.to (λ_=>.inl) (λn C=>⟨n,C.resolve_right λ⟨a,z,_⟩=>(nomatch z),TU _⟩)) λ_ z=>(nomatch z)) (λi N H' p hi=>⟨p.k _ _ Y I,hi⟩) (λN H' p=>⟨p.k _ _ Y I,R7 _⟩) (λi N H' x H'' D' hi p y k'=>?_) λN H' p=>?_
 .obtain @⟨H',g,q,h',x8,W,x10,j,m,kp,hb',mx',mm,hu'⟩:=p;obtain⟨p5,kk5,w,hp5,rfl,rfl,ei⟩:=y;rw[Su]at ei;obtain⟨a,ea,e2⟩:=Tf.mp ei;cases e2;have R:=SB ea;have J:=he a R;have s5:=aw (o:=.tup [.int a,.int (f a)]) hp5;refine wD ac ?_;have S:=s5 _ _ hb';have k5:Kp bd H1 (upd H' p5 (.tup [.int a,.int (f a)])):=λc u e n=>s5 _ _ (kp _ _ e n);show LS X D' (nT kd a0 sg done g rd (some (.int s)) (some (.ref bd)) (some (.int a)) (some (.int (f a))) x10 j m) (upd H' p5 (.tup [.int a,.int (f a)]));generalize upd H' p5 (.tup [.int a,.int (f a)])=Z at S k5;have sB5:Same B Z:=λc u e=>k5 _ _ (P _ _ e) λz=>by rw[z,nb]at e;cases e
  refine⟨_,rfl,lI (ws:=[.int a,.int s]) (.c (.va rfl) (.c (.va rfl) .ni)) rfl λT hb4=>?_⟩;have s6:=aw (o:=.tup [.int a,.int s]) hb4;have h4:upd Z T (.tup [.int a,.int s]) T=some (.tup ((k2 (a,s)).map kV)):=ac;have V:=s6 _ _ S;have k6:Kp bd H1 (upd Z T (.tup [.int a,.int s])):=λc u e n=>s6 _ _ (k5 _ _ e n);have K:=sB5.trans s6;generalize upd Z T (.tup [.int a,.int s])=H6 at h4 V k6 K;refine⟨kd,_,rfl,.inr ⟨_,k2 (a,s),T,.inl (K _ _ k.r),rfl,h4,by rw[d5,Sg J]⟩,⟨_,rfl,Reads.ad (.va rfl) (.ix (n:=0) (.va rfl) (K _ _ (k.t _ J)) (v:=.int (M (a,s))) rfl) _ ⟨_,_,rfl,?_⟩⟩⟩;show Il X D' (nT kd a0 sg done (oQ g (f a+M (a,s))) rd (some (.int s)) (some (.ref bd)) (some (.int a)) (some (.int (f a))) (some (.ref (TA (a,s)))) j m) H6;have mp:=ok.p _ J;refine Q7 (U:=U) K (k.t _ J) (k.d _ J) V nb mx' (λb O=>by have:=ok.n _ _ _ (mp.v b O);have:=hn a R;lia) (λb O=>ok.u _ _ _ (mp.v b O)) hu' ok.z λj m ks2 h2 H7 k7 hb7 mx2 hu2=>k' _ _ (.mk (λc u e n=>k7 _ _ (k6 _ _ e n) n) hb7 ?_ ?_ hu2)
  .rw[Sv,ea];refine mx2.to (λb n C=>?_) λb n C=>⟨n,?_,TU _⟩
   .rcases C with⟨L,h1,h2,h3⟩|⟨h1,h2⟩
    .exact⟨L,SH _ h1,h2,h3⟩
    .exact⟨a,SK _ Sa,h1,h2⟩
   .obtain⟨L,h1,h2,h3⟩:=C;rcases Sk.mp h1 with h1|h1
    .exact .inl ⟨L,h1,h2,h3⟩
    .have e:L=a:=by simpa using h1
     subst e;exact .inr ⟨h2,h3⟩
  .rw[Sv,ea];refine(mm.put _).to (λn C=>?_) λn C=>⟨n,?_,TU _⟩
   .rcases C with(C|⟨L,h1,h2⟩)|rfl
    .exact .inl C
    .exact .inr ⟨L,SH _ h1,h2⟩
    .exact .inr ⟨a,SK _ Sa,rfl⟩
   .rcases C with C|⟨L,h1,h2⟩
    .exact .inl (.inl C)
    .rcases Sk.mp h1 with h1|h1
     .exact .inl (.inr ⟨L,h1,h2⟩)
     .have e:L=a:=by simpa using h1
      subst e;exact .inr h2
 .obtain @⟨H',g,q,h',x8,W,x10,j,m,kp,hb',mx',mm,hu'⟩:=p;rw[R9,SU]at mx' mm;refine .inr ⟨rd,o,_,kp _ _ Y I,⟨⟩,ho,kk g q h' _ _ _ _ _ _ (λc u e=>?_) (by rwa[ai (Tp I)]) mx' mm hu'⟩;rw[ai λz=>by rw[z,nr]at e;cases e];exact kp _ _ (P _ _ e) λz=>by rw[z,nb]at e;cases e
inductive Cs:Sp
 |mk {H:Hp} {kd sg:Addr} {e:List aD} {TA DA:aD->Addr} {M:aD->Int} {G:aD->List Int} {F:aD->Int->Int} {AM:aD->Int->Prop} {PG:aD->Int->Int->Prop} {U:List Int} {a0 done:Int} {aO:List Int} {Q:VK} {E:XK} (K:FA H kd e TA DA M G F) (ok:ub e M G F AM PG U) (hs:Rd H sg (.lst (aO.map .int))\/H sg=some (.tup (aO.map .int))) (hd:0<=done) (hr:a0∈U) (cv:WC PG e aO a0)
  (k:∀p d ks f a4 H',Same H H'->H d=none->H' p=some (.tup [.int a4,.ref d])->H' d=some (.dK (gG ks f))->MaxI (λn=>n=done\/WA AM PG aO a0 done n) a4->rh (WP PG aO a0 done) ks f->(∀b∈ks,b∈U)->Q (.ref p) H'):Cs [.ref kd,.int a0,.ref sg,.int done] H Q E
structure Nq(AM:aD->Int->Prop) (PG:aD->Int->Int->Prop) (e:List aD) (U aO:List Int) (a0 done:Int) (st ks:List Int) (f:Int->Int) (a4:Int) (S:Int->Int->Prop) (A:Int->Prop):Prop where
 m:rh S ks f
 a:MaxI A a4
 n:∀b n,S b n->0<=n
 u:∀b∈ks,b∈U
 c:∀b n,S b n->WC PG e st b
 p:∀b n,(∃a c,S a c/\WP PG st a c b n)↔WP PG aO a0 done b n
 w:∀n,(A n\/∃a c,S a c/\WA AM PG st a c n)↔(n=done\/WA AM PG aO a0 done n)
theorem Nq.step{st j:List Int}{I:Int->Int}{S:Int->Int->Prop}{A:Int->Prop}(ok:ub e M G F AM PG U)(i:Nq AM PG e U aO a0 done (s::st) ks f a4 S A)(q:rh (λb n=>∃a,a∈ks/\b∈G (a,s)/\n=f a+F (a,s) b) j I)(r:MaxI (λn=>A n\/∃a,a∈ks/\n=f a+M (a,s)) most')(t:∀b∈j,b∈U) :
 Nq AM PG e U aO a0 done st j I most' (λb n=>∃a c m,S a c/\PG (a,s) b m/\n=c+m) (λn=>A n\/∃a c m,S a c/\AM (a,s) m/\n=c+m):=by
 obtain⟨m,a,x,u,c,p,w⟩:=i;refine⟨q.to (λb n ⟨a,h1,z,C⟩=>⟨a,f a,F (a,s) b,m.v a h1,(ok.p _ (c _ _ (m.v a h1)).1).v b z,C⟩) (λb n ⟨a,g,d,h1,z,C⟩=>?_),r.to (λn h=>h.imp id λ⟨a,h1,z⟩=>⟨a,f a,M (a,s),m.v a h1,(ok.a _ (c _ _ (m.v a h1)).1).1,z⟩) (λn h=>?_),λb n ⟨a,g,d,h1,z,C⟩=>?_,t,λb n ⟨a,g,d,h1,z,C⟩=>(c _ _ h1).2 b d z,λb n=>?_,λn=>?_⟩
 .obtain⟨k1,k2⟩:=m.k _ _ h1;obtain⟨J,y⟩:=(ok.p _ (c _ _ h1).1).k _ _ z;exact⟨f a+F (a,s) b,⟨a,k1,J,rfl⟩,by lia⟩
 .rcases h with h|⟨a,g,d,h1,z,C⟩
  .exact⟨n,.inl h,TU _⟩
  .obtain⟨k1,k2⟩:=m.k _ _ h1;have:=(ok.a _ (c _ _ h1).1).2 _ z;exact⟨f a+M (a,s),.inr ⟨a,k1,rfl⟩,by lia⟩
 .have:=x _ _ h1;have:=ok.n _ _ _ z;lia
 .rw[<- p b n];exact⟨λ⟨_,_,⟨a,g,d,h1,z,C⟩,l⟩=>⟨a,g,h1,_,d,z,by rwa[<- C]⟩,λ⟨a,g,h1,o,d,z,l⟩=>⟨o,g+d,⟨a,g,d,h1,z,rfl⟩,l⟩⟩
 .rw[<- w n];constructor
  .rintro ((h|⟨a,g,d,h1,z,C⟩)|⟨_,_,⟨a,g,d,h1,z,C⟩,l⟩)
   .exact .inl h
   .exact .inr ⟨a,g,h1,.inl ⟨d,z,C⟩⟩
   .exact .inr ⟨a,g,h1,.inr ⟨_,d,z,by rwa[<- C]⟩⟩
  .rintro (h|⟨a,g,h1,⟨d,z,C⟩|⟨o,d,z,l⟩⟩)
   .exact .inl (.inl h)
   .exact .inl (.inr ⟨a,g,d,h1,z,C⟩)
   .exact .inr ⟨o,g+d,⟨a,g,d,h1,z,rfl⟩,l⟩
inductive Nf(kd sg:Addr) (a0 done:Int) (H:Hp) (AM:aD->Int->Prop) (PG:aD->Int->Int->Prop) (e:List aD) (U aO:List Int) (i:Nat):L2.St->Hp->Prop
 |mk {H':Hp} {a4:Int} {rd:Addr} {ks:List Int} {f:Int->Int} {S:Int->Int->Prop} {A:Int->Prop} {x6 x7 x8 x9 x10 x11 x12:Option V}:Same H H'->H rd=none->H' rd=some (.dK (gG ks f))->Nq AM PG e U aO a0 done (aO.drop i) ks f a4 S A->Nf kd sg a0 done H AM PG e U aO i (nT kd a0 sg done a4 rd x6 x7 x8 x9 x10 x11 x12) H'
def Nf.sm{i:Nat}(h:Nf kd sg a0 done H AM PG e U aO i σ H'):Same H H':=by cases h;assumption
theorem EH(h:Cs vs H Q E):Q5 X (eQ Q) (aZ (nS 13) vs) H:=by
 obtain @⟨H,kd,sg,e,TA,DA,M,G,F,AM,PG,U,a0,done,aO,Q,E,k0,ok,hs,hd,hr,cv,k⟩:=h;refine⟨_,rfl,λrd C=>⟨_,rfl,_,rfl,ac,[(.inl a0,.int done)],rfl,by show 1<=15;decide,?_⟩⟩;have s1:Same H (upd (upd H rd (.dK [])) rd (.dK (iq [] [((.inl a0:bc),V.int done)]))):=λc u e=>by
  have n:c≠rd:=λz=>by rw[z,C]at e;cases e
  rwa[ai n,ai n]
 have h1:upd (upd H rd (.dK [])) rd (.dK (iq [] [((.inl a0:bc),V.int done)])) rd=some (.dK (gG [a0] λ_=>done)):=ac;generalize upd (upd H rd (.dK [])) rd (.dK (iq [] [((.inl a0:bc),V.int done)]))=H1 at s1 h1;have loop:∀{J:L2.It},(∀i H',Same H H'->i<aO.length->J.go i H')->(∀H',Same H H'->J.stop aO.length H')->(∀i H' x d,Same H H'->J.zd i H' x d->d=H'/\∃s,aO[i]?=some s/\x=.int s)->Wk J (aA 6) (LU X) {nx:=b5 (cm (ah (aj 4) (ah (aj 5) aF))) (eQ Q),rt:=Q} (nT kd a0 sg done done rd none none none none none none none) H1:=λ{J} L N T=>by
  refine iJ (n:=aO.length) (Nf kd sg a0 done H AM PG e U aO) (.mk (S:=λb n=>b=a0/\n=done) (A:=λn=>n=done) s1 C h1 ?_) (λi l H' p t=>L i H' p.sm t) (λl H' p=>N H' p.sm) (λi l H' x d W t p y Y=>?_) λl H' p=>?_
  .refine⟨⟨by simp,λb n ⟨h1,h2⟩=>⟨by simp[h1],by lia⟩,λb hb=>⟨by simpa using hb,rfl⟩⟩,⟨rfl,λn h=>by lia⟩,λb n h=>by lia,λb hb=>by rwa[Sb.mp hb],λb n h=>by rwa[h.1],λb n=>⟨λ⟨a,c,⟨h1,h2⟩,h⟩=>by rwa[h1,h2]at h,λh=>⟨a0,done,⟨rfl,rfl⟩,h⟩⟩,λn=>⟨λh=>h.imp id λ⟨a,c,⟨h1,h2⟩,h⟩=>by rwa[h1,h2]at h,λh=>h.imp id λh=>⟨a0,done,⟨rfl,rfl⟩,h⟩⟩⟩
  .obtain @⟨H',a4,rd,ks,f,S,A,x6,x7,x8,O,x10,q,r,s,nr,hr,i0⟩:=p;obtain⟨rfl,g,es,rfl⟩:=T _ _ _ _ s y;have Z:aO.drop i=g::aO.drop (i+1):=by obtain⟨hl,hg⟩:=Si.mp es;rw[Vx hl,hg]
   rw[Z]at i0;refine λbd j=>?_;have s2:=aw (o:=.dK []) j;have I:upd d bd (.dK []) bd=some (.dK []):=ac;show aI (Im X) (aT (aj 7) (aA 5)) W (nT kd a0 sg done a4 rd (some (.int g)) (some (.ref bd)) x8 O x10 q r) (upd d bd (.dK []));have K:=s2 _ _ hr;generalize upd d bd (.dK [])=H2 at s2 I K;refine Q8 k0 ok (s.trans s2) K nr I (s.free j) (λz=>by rw[z,j]at hr;cases hr) (λb hb=>i0.n _ _ (i0.m.v b hb)) (λb hb=>(i0.c _ _ (i0.m.v b hb)).1) i0.a λP ks' h' x8 O x10 q r H3 s3 R mx mm hu=>⟨_,rfl,Y _ _ (.mk s3 (s.free j) R (i0.step ok mx mm hu))⟩
  .obtain @⟨H',a4,rd,ks,f,S,A,x6,x7,x8,O,x10,q,r,s,nr,hr,i⟩:=p;rw[List.drop_length]at i;refine lI (ws:=[.int a4,.ref rd]) (.c (.va rfl) (.c (.va rfl) .ni)) rfl λp hp=>?_;have s2:=aw (o:=.tup [.int a4,.ref rd]) hp;exact k p rd ks f a4 _ (s.trans s2) nr ac (s2 _ _ hr) (i.a.to (λn h=>(i.w n).mp (.inl h)) λn h=>⟨n,((i.w n).mpr h).resolve_right λ⟨_,_,_,z⟩=>z,TU _⟩) (i.m.to (λb n h=>(i.p b n).mp ⟨b,n,h,rfl,rfl⟩) λb n h=>⟨n,by obtain⟨a,c,h1,h2,h3⟩:=(i.p b n).mpr h;rw[h2,h3];exact h1,TU _⟩) i.u
 rcases hs with hs|hs
 .refine⟨_,rfl,sg,rfl,.inl ⟨⟨_,.inl (aU s1 hs)⟩,loop (λi H' s t=>⟨aO.map .int,.int aO[i],.inl (aU s hs),by simp[t]⟩) (λH' s=>⟨_,.inl (aU s hs),by simp⟩) λi H' x d s ⟨h1,h2⟩=>⟨h1,?_⟩⟩⟩;have:=h2 _ (.inl (aU s hs));rw[Su]at this;obtain⟨g,e1,e2⟩:=Tf.mp this;exact⟨g,e1,e2.symm⟩
 .refine⟨_,rfl,sg,rfl,.inr ⟨⟨_,SqT.of (s1 _ _ hs)⟩,loop (λi H' s t=>⟨aO.map .int,.int aO[i],SqT.of (s _ _ hs),by simp[t]⟩) (λH' s=>⟨_,SqT.of (s _ _ hs),by simp⟩) λi H' x d s ⟨h1,h2⟩=>⟨h1,?_⟩⟩⟩;have:=h2 _ (SqT.of (s _ _ hs));rw[Su]at this;obtain⟨g,e1,e2⟩:=Tf.mp this;exact⟨g,e1,e2.symm⟩
end
def LW{PG:aD->Int->Int->Prop}(e:∀k b m,PG k b m->0<=m):∀{st:List Int}{a c b n:Int},0<=c->WP PG st a c b n->0<=n:=by
 intro st;induction st with
 |nil=>intro a c b n d h;rwa[h.2]
 |cons s st f=>intro a c b n d ⟨g,m,h1,i⟩;exact f (by have:=e _ _ _ h1;lia) i
section
abbrev PY(a:aD->Int->Prop)(PG:aD->Int->Int->Prop)(b:List Sp.Rule)(n:Int):Prop:=n=0\/∃r∈b,n=1\/WA a PG r.2.2.2 r.2.2.1 1 n
abbrev PZ(PG:aD->Int->Int->Prop)(a:List Sp.Rule)(b n:Int):Prop:=∃r∈a,WP PG r.2.2.2 r.2.2.1 1 b n
inductive Fa:Sp
 |mk {H:Hp} {kd rl:Addr} {e:List aD} {TA DA:aD->Addr} {M:aD->Int} {G:aD->List Int} {F:aD->Int->Int} {AM:aD->Int->Prop} {PG:aD->Int->Int->Prop} {U:List Int} {xs:NX} {fs:List Sp.Rule} {Q:VK} {E:XK} (K:FA H kd e TA DA M G F) (ok:ub e M G F AM PG U) (hr:H rl=some (.ext (gk rl xs))) (hs:(rl==sysModules)=false) (al:aN (λr x=>IsRule H r (.ref x.2.1)) fs xs) (cv:∀r∈fs,r.2.2.1∈U/\WC PG e r.2.2.2 r.2.2.1)
  (k:∀p d ks f most H',Same H H'->H p=none->H d=none->H' p=some (.tup [.int most,.ref d])->H' d=some (.dK (gG ks f))->MaxI (PY AM PG fs) most->rh (PZ PG fs) ks f->Q (.ref p) H'):Fa [.ref kd,.ref rl] H Q E
def LX(X:Cx):TS:=λD a H=>cU (Az X (tI X.K 5 1)) (c9 X.K 2 (aR (aA 6) (aR (aA 7) cZ))) (jk (aj 3) (aj 6) (eR pS (ah (cu (aj 3) (aj 6) (tC (.int 0))) (ah (aj 7) aF)))) (Aa X D) a H
def LY(X:Cx):TS:=aI (aT (bj Cs [] E0 (ah (aj 0) (ah (tI X.K 4 2) (ah (tI X.K 4 3) (ah (tC (.int 1)) aF))))) (aA 5)) (aI (aT (eR pS (ah (aj 2) (ah (tI X.K 5 0) aF))) (aA 2)) (LX X))
def Q9(X:Cx):TS:=aI (aT (tC (.int 0)) (aA 2)) (aI (aT qg (aA 3)) (aI (λD a H=>cU (KQ (aj 1)) (aA 4) (LY X) (PK D) a H) (b5 (cm (ah (aj 2) (ah (aj 3) aF))))))
noncomputable def EI(b rl:Addr)(a:Int)(c:Addr)(e f g d:Option V):L2.St:=[some (.ref b),some (.ref rl),some (.int a),some (.ref c),e,f,g,d]
inductive Nd(kd rl gd:Addr) (H1:Hp) (AM:aD->Int->Prop) (PG:aD->Int->Int->Prop) (U:List Int) (fs:List Sp.Rule) (i:Nat):L2.St->Hp->Prop
 |mk {H':Hp} {most:Int} {ks:List Int} {f:Int->Int} {x4 x5 x6 x7:Option V}:Kp gd H1 H'->H' gd=some (.dK (gG ks f))->MaxI (PY AM PG (fs.take i)) most->rh (PZ PG (fs.take i)) ks f->(∀b∈ks,b∈U)->Nd kd rl gd H1 AM PG U fs i (EI kd rl most gd x4 x5 x6 x7) H'
def Nd.k{d:Hp}{a:aD->Int->Prop}{b:aD->Int->Int->Prop}{c:List Int}{e:List Sp.Rule}{i:Nat}(h:Nd kd rl gd d a b c e i σ H'):Kp gd d H':=by cases h;assumption
def EJ(h:Fa vs H Q E):Q9 X (eQ Q) (aZ (nS 8) vs) H:=by
 obtain @⟨H,kd,rl,e,TA,DA,M,G,F,AM,PG,U,xs,fs,Q,E,k0,ok,hr,hs,al,cv,k⟩:=h;refine λa g=>?_;have s0:=aw (o:=.dK []) g;have Z:upd H a (.dK []) a=some (.dK []):=ac;have l:a≠rl:=λz=>by rw[<- z,g]at hr;cases hr
 generalize upd H a (.dK [])=I at s0 Z;refine⟨_,rfl,rl,xs,rfl,hs,s0 _ _ hr,λo=>?_⟩;have J:upd I rl (.ext (wN rl o xs)) rl=some (.ext (wN rl o xs)):=ac;have k1:Kp rl I (upd I rl (.ext (wN rl o xs))):=λc u e n=>by rwa[ai n]
 generalize upd I rl (.ext (wN rl o xs))=H1 at J k1;have nk:∀{c:Addr}{u:HO},H c=some u->(∀P,u≠.ext P)->H1 c=some u:=λe n=>k1 _ _ (s0 _ _ e) λz=>by rw[z,hr]at e;cases e;exact n _ rfl
 have K:FA H1 kd e TA DA M G F:=⟨nk k0.r λ_ z=>(nomatch z),λj m=>nk (k0.t j m) λ_ z=>(nomatch z),λj m=>nk (k0.d j m) λ_ z=>(nomatch z)⟩;have L:KT H H1:=λc w e=>nk e λ_ z=>(nomatch z);have g1:=k1 _ _ Z l;have up:∀{H'},Kp a H1 H'->FA H' kd e TA DA M G F:=λkp=>
  have n:∀{c:Addr}{u:HO},H c=some u->c≠a:=λe z=>by rw[z,g]at e;cases e
  ⟨kp _ _ K.r (n k0.r),λj m=>kp _ _ (K.t j m) (n (k0.t j m)),λj m=>kp _ _ (K.d j m) (n (k0.d j m))⟩
 have ln:=al.len;refine iJ (n:=xs.length) (Nd kd rl a H1 AM PG U fs) (.mk (ks:=[]) (f:=λ_=>0) (λ_ _ e _=>e) g1 ⟨.inl rfl,λn h=>h.elim (λe=>by lia) λ⟨_,z,_⟩=>(nomatch z)⟩ ⟨S1,λ_ _ ⟨_,z,_⟩=>(nomatch z),λ_ z=>(nomatch z)⟩ λ_ z=>(nomatch z)) (λi s H' p hi=>⟨p.k _ _ J (Tp l),hi⟩) (λs H' p=>⟨p.k _ _ J (Tp l),R7 _⟩) (λi s H' x B D' hi p y k'=>?_) λs H' p=>?_
 .obtain @⟨H',most,ks,f,x4,x5,x6,x7,kp,hg,mm,mx,hu⟩:=p;obtain⟨rfl,kk,b,w,ex,rfl⟩:=y;obtain⟨r,er,ir⟩:=al.get ex;have N:KT H1 B:=λc w e=>kp _ _ e λz=>by rw[z,g1]at e;cases e
  obtain⟨b',u,e1,hb,O⟩:=IsRule.keep (L.trans N) _ _ ir;cases e1;have R:=SB er;obtain⟨hU,hc⟩:=cv r R;show LY X D' (EI kd rl most a (some (.ref b)) x5 x6 x7) B;refine⟨_,rfl,Reads.ix (n:=2) (.va rfl) hb (v:=.int r.2.2.1) rfl _ (Reads.ix (n:=3) (.va rfl) hb (v:=.ref u) rfl _ (.mk (up kp) ok (.inr O) (by decide) hU hc λp d ks2 f2 m2 H2 s2 nd C hd D A S=>?_))⟩;refine⟨_,rfl,Reads.ix (n:=0) (.va rfl) C (v:=.int m2) rfl _ ⟨_,_,rfl,?_⟩⟩;show LX X D' (EI kd rl (oQ most m2) a (some (.ref b)) (some (.ref p)) x6 x7) H2;have T:a≠d:=λz=>by rw[z,nd]at hg;cases hg
  refine LV (U:=U) (c:=0) (sh:=λx y=>EI kd rl (oQ most m2) a (some (.ref b)) (some (.ref p)) x y) (i:=6) (j:=7) (.ix (n:=1) (.va rfl) C (v:=.ref d) rfl) (λ_ _ _ _=>rfl) hd (s2 _ _ hg) T mx (λb hb=>?_) S hu ok.z (λD2 ks' h' b H5 h5 z q=>Gb rfl rfl (.va (v:=.int (f2 b)) rfl) h5 z (by rwa[WH]at q)) λx y ks3 f3 H3 k3 V W Y=>k' _ _ (.mk (λc u e n=>k3 _ _ (s2 _ _ (kp _ _ e n)) n) V ?_ ?_ Y)
  .have:=LW ok.n (by decide) (A.v b hb);lia
  .rw[Sv,er];refine(mm.put m2).to (λn h=>?_) λn h=>?_
   .rcases h with(h|⟨q,h1,h2⟩)|rfl
    .exact .inl h
    .exact .inr ⟨q,SH _ h1,h2⟩
    .exact .inr ⟨r,SK _ Sa,D.1⟩
   .rcases h with h|⟨q,h1,h2⟩
    .exact⟨n,.inl (.inl h),TU _⟩
    .rcases Sk.mp h1 with h1|h1
     .exact⟨n,.inl (.inr ⟨q,h1,h2⟩),TU _⟩
     .have e:q=r:=by simpa using h1
      subst e;exact⟨m2,.inr rfl,D.2 n h2⟩
  .rw[Sv,er];refine W.to (λb n h=>?_) λb n h=>?_
   .rcases h with⟨q,h1,h2⟩|⟨h1,h2⟩
    .exact⟨q,SH _ h1,h2⟩
    .exact⟨r,SK _ Sa,by rw[h2,WH];exact A.v b h1⟩
   .obtain⟨q,h1,h2⟩:=h;rcases Sk.mp h1 with h1|h1
    .exact⟨n,.inl ⟨q,h1,h2⟩,TU _⟩
    .have e:q=r:=by simpa using h1
     subst e;obtain⟨k1,k2⟩:=A.k _ _ h2;exact⟨0+f2 b,.inr ⟨k1,rfl⟩,by lia⟩
 .obtain @⟨H',most,ks,f,x4,x5,x6,x7,kp,hg,mm,mx,hu⟩:=p;rw[<- ln,SU]at mm mx;refine⟨rl,o,xs,kp _ _ J (Tp l),lI (ws:=[.int most,.ref a]) (.c (.va rfl) (.c (.va rfl) .ni)) rfl λp C=>?_⟩;have sH:Same H (upd H' rl (.ext (gk rl xs))):=λc u e=>by
   by_cases z:c=rl
   .rw[z,ac];rwa[z,hr]at e
   .rw[ai z];exact kp _ _ (k1 _ _ (s0 _ _ e) z) λy=>by rw[y,g]at e;cases e
  have s9:=aw (o:=.tup [.int most,.ref a]) C;exact k p a ks f most _ (sH.trans s9) (sH.free C) g ac (s9 _ _ (by rwa[ai l])) mm mx
end
structure Ji(f:List Sp.Rule) (j:List Sp.Arr) (d:Int) (h:List Int) (l:aD->Int->Prop) (PG:aD->Int->Int->Prop) (U:List Int):Prop where
 n:∀k b m,PG k b m->0<=m
 u:∀k b m,PG k b m->b∈U
 z:U.length<=7
 a:∀k n,l k n↔n=0\/∃r∈f,hd r=k/\(n=1\/WA l PG r.2.2.2 r.2.2.1 1 n)
 p:∀k b n,PG k b n↔∃r∈f,hd r=k/\WP PG r.2.2.2 r.2.2.1 1 b n
 t:∀r∈f,r.2.2.1∈U
 r:d∈U
 c:∀Z g,ua f j d h Z g->∀r∈f,∀e,(∀x∈Z (hd r),x∈e)->WC PG e r.2.2.2 r.2.2.1
 s:∀Z g n i,ua f j d h Z g->KL (gc (g_ Z g)) n (rF Z g) i->¬i.ended.length<g.length->WC PG i.ended h d
inductive yR(RL:List Sp.Rule) (As:List Sp.Arr) (room:Int) (aO:List Int):Prop
 |mk {Z:aD->List aD} {ks:List aD} {n:Nat} {S':KS} (g:ua RL As room aO Z ks) (l:KL (gc (g_ Z ks)) n (rF Z ks) S') (f:¬S'.ended.length<ks.length):yR RL As room aO
section
variable{X:Cx}{sP:Sp}{C:Addr}{H H':Hp}{σ:L2.St}{vs:List V}{Q:VK}{E:XK}{RL:List Sp.Rule}{As:List Sp.Arr}{p sp q:Addr}{d:Int}{aO:List Int}{AM:aD->Int->Prop}{PG:aD->Int->Int->Prop}{U:List Int}
def t_.more(i:t_ sP H RL As p sp q d aO)(s:Same H H'):t_ sP H' RL As p sp q d aO:=⟨let ⟨l,b,h⟩:=i.h;⟨l,b,h.same s⟩,λc e=>i.i c (s.trans e),i.a,i.n,i.f,i.u,⟨s _ _ i.p.1,aU s i.p.2⟩,i.z⟩
inductive Cy(sP:Sp) (C:Addr):Sp
 |mk {H:Hp} {RL:List Sp.Rule} {As:List Sp.Arr} {p sp q:Addr} {d:Int} {aO:List Int} {AM:aD->Int->Prop} {PG:aD->Int->Int->Prop} {U:List Int} {Q:VK} {E:XK} (i:t_ sP H RL As p sp q d aO) (ok:BD RL As d aO) (rg:Ep RL As d aO) (ti:LN RL As d aO) (lg:Ji RL As d aO AM PG U)
  (k:∀m H',Same H H'->yR RL As d aO->MaxI (λn=>n=0\/WA AM PG aO d 0 n) m->Q (.int m) H') (x:ra RL As d aO->∀H',Same H H'->E (.ref C) none H'):Cy sP C [.ref p,.ref sp] H Q E
def OO(K:WK):TS:=b5 (ba (lD K) (bj Cs [] E0 (ah (aj 3) (ah (tI K 1 0) (ah (tI K 1 1) (ah (tC (.int 0)) aF))))) (tC (.int 0)))
def OP:TS:=jk (aj 3) (aj 4) (bj Fa [] E0 (ah (aj 3) (ah (cu (aj 2) (aj 4) qy) aF)))
def Q_(K:WK)(sP:Sp)(C:Addr)(E:XK):TS:=aI (aT (bj Fd [] E0 (ah (aj 0) aF)) (aA 2)) (aI (aT dY (aA 3)) (aI (cU (bZ K (bj (Co C) [] E (ah (bj (yW sP) [] E0 (ah (aj 0) (ah (aj 1) aF))) aF))) (aA 4) OP) (OO K)))
theorem BS(P:xk B0 B0 B1 ar (Sp.byHead RL) RA l col)(z:KT B0 H)(u:H ar=some (.dT (tF (Sp.byHead RL) RA)))(f:∀k rl,Sp.get (Sp.byHead RL) k=some rl->H (RA k)=some (.ext (gk (RA k) (l k))))(n:σ[2]?=some (some (.ref ar)))(i:σ[4]?=some (some (.ref b)))(A:H b=some (.tup ((k2 y).map kV)))
 (k:∀rl l v H',Same H H'->H' rl=some (.ext (gk rl l))->(rl==sysModules)=false->aN (λr x=>IsRule H' r (.ref x.2.1)) v l->(∀r,r∈v↔r∈RL/\hd r=y)->Q (.ref rl) H'):cu (aj 2) (aj 4) qy σ H Q:=by
 refine⟨_,n,ar,rfl,.inr ⟨_,.inl u⟩,_,i,λq c B=>⟨_,DGet.t (k:=k2 y) (aw c _ _ u) (aw c _ _ A),?_⟩⟩;have m:=aw (o:=.ext (gk q [])) c;have a:upd H q (.ext (gk q [])) q=some (.ext (gk q [])):=ac;rw[qP];have j:∀r,r∈((Sp.get (Sp.byHead RL) y).getD [])↔r∈RL/\hd r=y:=λr=>Sp.byHead_mem (s:=y.1) (g:=y.2);generalize upd H q (.ext (gk q []))=w at m a;cases e:Sp.get (Sp.byHead RL) y with
 |none=>rw[e]at j;exact k q [] [] w m a B .nil j
 |some rl=>rw[e]at j;obtain⟨h1,n⟩:=P.ok y rl e;exact k (RA y) (l y) rl w m (m _ _ (f y rl e)) h1 (n.mono λr x h=>IsRule.keep (z.trans (.of m)) _ _ h.2) j
inductive Np(p sp ar kd:Addr) (H4:Hp) (AM:aD->Int->Prop) (PG:aD->Int->Int->Prop) (U:List Int) (es:List aD) (j:Nat):L2.St->Hp->Prop
 |mk {H':Hp} {x4:Option V} {TA DA:aD->Addr} {M:aD->Int} {G:aD->List Int} {F:aD->Int->Int}:Kp kd H4 H'->FA H' kd (es.take j) TA DA M G F->ub (es.take j) M G F AM PG U->Np p sp ar kd H4 AM PG U es j [some (.ref p),some (.ref sp),some (.ref ar),some (.ref kd),x4] H'
def Np.k{f a:Addr}{b:Hp}{c:aD->Int->Prop}{i:aD->Int->Int->Prop}{e:List Int}{g:List aD}{j:Nat}(h:Np p sp f a b c i e g j σ H'):Kp a b H':=by cases h;assumption
theorem EK(h:Cy sP C vs H Q E):Q_ X.K sP C E (eQ Q) (aZ (nS 5) vs) H:=by
 obtain @⟨H,RL,As,p,sp,q,d,aO,AM,PG,U,Q,E,i,ok,rg,ti,lg,k,x⟩:=h;obtain⟨l0,ws0,hh⟩:=i.h;refine⟨_,rfl,.mk (λ_ _ e=>e) hh (by have:=i.n;lia) λar RA xs col H1 P B D=>?_⟩;have s1:Same H H1:=P.k.same;have W:=P.k.at (t:=.ru) rfl (z0 _);have hrl:∀k rl,Sp.get (Sp.byHead RL) k=some rl->H1 (RA k)=some (.ext (gk (RA k) (xs k))):=λk rl e=>P.k.at (t:=.rl k) (by show(Sp.get _ _).map _=_;rw[e];rfl) (z0 _);have s2:=aw (o:=.dT []) D;have J:upd H1 B (.dT []) B=some (.dT []):=ac;have nak:ar≠B:=ay W D;generalize upd H1 B (.dT [])=H2 at s2 J;have L:=s1.trans s2;refine cO (tl:=bj (Co C) [] E (ah (bj (yW sP) [] E0 (ah (aj 0) (ah (aj 1) aF))) aF)) ⟨_,rfl,_,rfl,.mk (i.more L) ok λam Z AA ks H3 s3 nam A g=>?_⟩;obtain⟨nd,hz,hZ,n,m,lp,ne,le,_⟩:=rg Z ks g;obtain⟨ord,sub⟩:=ti Z ks n m g lp;refine .mk A nd hz hZ lp ne le (λhf l ev H4 s4 nl hl al=>?_) λhf H4 s4=>x ⟨g,lp,hf⟩ H4 ((L.trans s3).trans s4);have N:=s3.trans s4;have Y:=L.trans N;have hk4:=N _ _ J;have nkl:l≠B:=λz=>by rw[z,s3 _ _ J]at nl;cases nl
 refine⟨l,rfl,⟨ev,SqL.of hl⟩,?_⟩;refine cc (K:=X.K) (a:=l) (xs:=ev) (Np p sp ar B H4 AM PG U m.ended) (.mk (TA:=λ_=>0) (DA:=λ_=>0) (M:=λ_=>0) (G:=λ_=>[]) (F:=λ_ _=>0) (λ_ _ e _=>e) ⟨hk4,(λ_ h=>nomatch h),λ_ h=>nomatch h⟩ ⟨(λ_ h=>nomatch h),(λ_ h=>nomatch h),lg.n,lg.u,lg.z⟩) (λj σ' H' _ z=>SqL.of (z.k _ _ hl nkl)) (λj v σ' H' hj z=>?_) λσ' H' z=>?_
 .obtain @⟨H',x4,TA,DA,M,G,F,kp,kn,ko⟩:=z;obtain⟨y,hy,b,rfl,hb⟩:=al.get hj;have ktk:KT H4 H':=λc w e=>kp _ _ e λz=>by rw[z,hk4]at e;cases e
  have hb:=ktk _ _ hb;have T:m.ended.take (j+1)=m.ended.take j++[y]:=by rw[Sv,hy];rfl
  have es:m.ended=m.ended.take j++y::m.ended.drop (j+1):=by have:=T2 (j+1) m.ended;rw[T,SV]at this;exact this.symm
  have hny:y∉m.ended.take j:=λz=>by rw[es,SX]at ne;exact ne.2.2 y z y Sa rfl
  have hzy:=ord _ y _ es;have up:∀{c u},H1 c=some u->H' c=some u:=λe=>kp _ _ (N _ _ (s2 _ _ e)) (ay e D);refine⟨_,rfl,BS (σ:=[some (.ref p),some (.ref sp),some (.ref ar),some (.ref B),some (.ref b)]) P ((KT.of Y).trans ktk) (up W) (λk rl e=>up (hrl k rl e)) rfl rfl hb λrl xs fs H5 s5 hr5 hs5 al5 mem=>?_⟩;refine .mk (kn.more s5) ko hr5 hs5 al5 (λr hr=>⟨lg.t r ((mem r).mp hr).1,lg.c Z ks g r ((mem r).mp hr).1 _ (by rwa[((mem r).mp hr).2])⟩) λp6 d6 ks6 f6 m6 H6 s6 np nd6 I O mm mx=>?_;have S:=s5.trans s6;have lt:=S_ j m.ended;have f:=kn.more S;refine⟨_,rfl,_,rfl,B,_,rfl,DPut.t f.r (k:=k2 y) (S _ _ hb) (hG (by rw[R9];lia)),?_⟩;rw[cI _ (by rw[d5,Sj hny])];have nk:∀{c:Addr}{u:HO},H6 c=some u->(∀w,u≠.dT w)->c≠B:=λe n z=>by rw[z,f.r]at e;cases e;exact n _ rfl
  have old:∀{β:Type}{R:aD->β}{w:β}{j},j∈m.ended.take _->di R y w j=R j:=λhj=>cg λz=>hny (z▸hj);refine .mk (TA:=di TA y p6) (DA:=di DA y d6) (M:=di M y m6) (G:=di G y ks6) (F:=di F y f6) (λc u e n=>by rw[ai n];exact S _ _ (kp _ _ e n)) ⟨?_,λj hj=>?_,λj hj=>?_⟩ ⟨λj hj=>?_,λj hj=>?_,lg.n,lg.u,lg.z⟩
  .rw[ac,T];congr 2;rw[SN];congr 1
   .exact SR λj hj=>by rw[old hj]
   .show _=[(k2 y,V.ref (di TA y p6 y))];rw[bK]
  .rw[T]at hj;rcases Sk.mp hj with hj|hj
   .rw[old hj,old hj,old hj,ai (nk (f.t j hj) λ_ z=>(nomatch z))];exact f.t j hj
   .rw[Sb.mp hj,bK,bK,bK,ai (nk I λ_ z=>(nomatch z))];exact I
  .rw[T]at hj;rcases Sk.mp hj with hj|hj
   .rw[old hj,old hj,old hj,ai (nk (f.d j hj) λ_ z=>(nomatch z))];exact f.d j hj
   .rwa[Sb.mp hj,bK,bK,bK,ai (nk O λ_ z=>(nomatch z))]
  .rw[T]at hj;rcases Sk.mp hj with hj|hj
   .rw[old hj];exact ko.a j hj
   .rw[Sb.mp hj,bK];refine mm.to (λn h=>(lg.a y n).mpr (h.imp id λ⟨r,h1,h2⟩=>⟨r,((mem r).mp h1).1,((mem r).mp h1).2,h2⟩)) λn h=>⟨n,((lg.a y n).mp h).imp id λ⟨r,h1,h2,h3⟩=>⟨r,(mem r).mpr ⟨h1,h2⟩,h3⟩,TU _⟩
  .rw[T]at hj;rcases Sk.mp hj with hj|hj
   .rw[old hj,old hj];exact ko.p j hj
   .rw[Sb.mp hj,bK,bK];refine mx.to (λb n ⟨r,h1,h2⟩=>(lg.p y b n).mpr ⟨r,((mem r).mp h1).1,((mem r).mp h1).2,h2⟩) λb n h=>⟨n,let ⟨r,h1,h2,h3⟩:=(lg.p y b n).mp h;⟨r,(mem r).mpr ⟨h1,h2⟩,h3⟩,TU _⟩
 .obtain @⟨H',x4,TA,DA,M,G,F,kp,kn,ko⟩:=z;rw[<- al.len,SU]at kn ko;have sH:Same H H':=λc u e=>kp _ _ (Y _ _ e) (ay (s1 _ _ e) D);refine⟨_,rfl,Reads.ix (n:=0) (.va (i:=1) rfl) (sH _ _ i.p.1) (v:=.int d) rfl _ (Reads.ix (n:=1) (.va (i:=1) rfl) (sH _ _ i.p.1) (v:=.ref q) rfl _ (.mk kn ko (.inl (aU sH i.p.2)) (by decide) lg.r (lg.s Z ks n m g lp hf) λp6 d6 ks6 f6 m6 H6 s6 nd6 I O mm mx hu=>?_))⟩;exact⟨p6,_,0,_,rfl,rfl,SqT.of I,cD (j:=0) rfl,k m6 H6 (sH.trans s6) ⟨g,lp,hf⟩ mm⟩
end
section
variable{K:WK}{mg:Str->Option WM}{Fm Fc:qR}{H H':Hp}{D:Ends}{σ:L2.St}{vs ws:List V}{Q:VK}{E:XK}{ro sg many:Int}{RL:List Sp.Rule}
inductive FE(Fm Fc:qR):Sp
 |mk {H:Hp} {v0:V} {sc:List Int} {ro sg many x0 x1 y0:Int} {Q:VK} {E:XK} (is:Is H Tr (.lst (sc.map .int)) v0) (h1:0<ro/\ro<=8) (h2:0<sg/\sg<=14) (h3:ro*sg<=12) (hm:0<=many/\many<=12) (c0:Fc [.lst (sc.map .int),.int 0]=.ok (.val (.int x0) true [])) (m0:Fm [.int x0]=.ok (.val (.int y0) true [])) (c1:Fc [.lst (sc.map .int),.int 1]=.ok (.val (.int x1) true [])) (k:∀l ws RL H',Same H H'->H l=none->H' l=some (.lst ws)->aN (IsRule H') RL ws->(∀r∈RL,Ju ro sg r)->RL.length<=36->Q (.ref l) H'):FE Fm Fc [v0,.int ro,.int sg,.int many] H Q E
def LZ:TE:=JS (ba pX (aj 4) (tC (.int 0))) (rQ (ba HJ (aj 4) (tC (.int 5))) (ba HE (ba b_ (aj 9) (tC (.int 5))) (tC (.int 2))))
def OQ(K:WK):TS:=aI (aT LZ (aA 10)) (Ex K (ba b_ (ba iO (ba cf (ba b_ (aj 9) (tC (.int 2147483647))) (tC (.int 5))) (tC (.int 69621))) (tC (.int 2147483647))) (zk (aj 10)))
def OR:TT:=GH (bO (ba HE (ba b_ (aj 5) (tC (.int 8))) (tC (.int 5)))) (JI (bO (ba HE (aj 8) (aj 7))) (bO (ba PL (ba b_ (aj 8) (aj 7)) (aj 1))))
def OS(K:WK):TS:=aI (aT (ba b_ (ba cf (ba cf (ba iO (aj 5) (aj 5)) (ba iO (tC (.int 48271)) (aj 5))) (aj 8)) (tC (.int 2147483647))) (aA 5)) (dQ OR (Ex K (ba cf (ba iO (ba g9 (aj 5) (tC (.int 8))) (aj 7)) (ba b_ (aj 8) (aj 7))) (ba HJ (aj 4) (tC (.int 0)))) ck)
def L0(K:WK):TS:=aI (cU (zp (ah (ba iO (tC (.int 2)) (aj 7)) aF)) (aA 8) (OS K)) (aI (cU (bZ K (GR (zH K) (aj 0) (lb (tC (.int 4))) (lb (ba cf (tC (.int 4)) (aj 3))))) (aA 9) (OQ K)) (b5 (aj 6)))
def Ra(K:WK)(mg:Str->Option WM)(Fm Fc:qR):TS:=aI (aT (ba b_ (ba g9 (Eg mg Fm Fc 0) (tC (.int 8))) (tC (.int 8))) (aA 4)) (aI (aT (ba cf (ba b_ (bj (nu mg 2 Fc) [] E0 (ah (aj 0) (ah (tC (.int 1)) aF))) (tC (.int 2147483647))) (tC (.int 48271))) (aA 5)) (aI (aT (dR aF) (aA 6)) (aI (aT (ba iO (aj 1) (aj 2)) (aA 7)) (L0 K))))
noncomputable def oR(e:V)(ro sg many b c:Int)(l:Addr)(f:Int)(g a d:Option V):L2.St:=[some e,some (.int ro),some (.int sg),some (.int many),some (.int b),some (.int c),some (.ref l),some (.int f),g,a,d]
def Reads.RO:∃b,Reads LZ (oR v0 ro sg many kind num l hs x8 (some (.int c)) x10) H (.bl b):=by
 have a:Reads (ba pX (aj 4) (tC (.int 0))) (oR v0 ro sg many kind num l hs x8 (some (.int c)) x10) H (.bl (decide (kind=0))):=.xn (.va rfl) .k;have d:Reads (ba HJ (aj 4) (tC (.int 5))) (oR v0 ro sg many kind num l hs x8 (some (.int c)) x10) H (.bl (decide (5<kind))):=Reads.op (.va rfl) .k λ_ q=>⟨_,_,rfl,rfl,q⟩;have g:Reads (ba HE (ba b_ (aj 9) (tC (.int 5))) (tC (.int 2))) (oR v0 ro sg many kind num l hs x8 (some (.int c)) x10) H (.bl (decide (c%5<2))):=Reads.op (.mod (.va rfl) .k (by decide)) .k λ_ q=>⟨_,_,rfl,rfl,q⟩;cases e:decide (kind=0)with
 |true=>rw[e]at a;exact⟨true,λQ q=>a _ ⟨_,rfl,fK q⟩⟩
 |false=>
  rw[e]at a;cases f:decide (5<kind)with
  |true=>rw[f]at d;exact⟨_,λQ q=>a _ ⟨_,rfl,fq (d _ ⟨_,rfl,fK (g _ q)⟩)⟩⟩
  |false=>rw[f]at d;exact⟨false,λQ q=>a _ ⟨_,rfl,fq (d _ ⟨_,rfl,fq q⟩)⟩⟩
theorem OT{i j:Int}{Q:VK}(h:0<j/\j<1073741824)(q:Q (.int (i/j)) H):g9 (.int i) (.int j) H Q:=⟨_,_,rfl,rfl,h,q⟩
theorem L1{i j:Int}{Q:VK}(h:0<j)(q:Q (.int (i%j)) H):b_ (.int i) (.int j) H Q:=⟨_,_,rfl,rfl,h,q⟩
theorem OU{i j:Int}{Q:VK}(q:Q (.int (i+j)) H):cf (.int i) (.int j) H Q:=⟨_,_,rfl,rfl,q⟩
theorem OV{a:Sp}{E:XK}{ta:TA}{ws:List V}(h:ReadsA ta σ H ws)(k:a (ws++[]) H Q E):bj a [] E ta σ H Q:=h _ k
theorem EL(h:FE Fm Fc vs H Q E):Ra K mg Fm Fc (eQ Q) (aZ (nS 11) vs) H:=by
 obtain @⟨H,v0,sc,ro,sg,many,x0,x1,y0,Q,E,is,h1,h2,h3,hm,c0,m0,c1,k⟩:=h;have M:0<ro*sg:=Int.mul_pos h1.1 h2.1;have N:0<ro/\ro<1073741824:=⟨h1.1,by lia⟩;have O:0<sg/\sg<1073741824:=⟨h2.1,by lia⟩;refine vq (sd:=.lst (sc.map .int)) rfl is c0 m0 λH1 P=>OT ⟨by decide,by decide⟩ (L1 (by decide) ?_);refine OV (.c (.va rfl) (.c .k .ni)) (wQ (ds:=[.lst (sc.map .int),.int 1]) rfl ⟨_,_,rfl,Ef is P,_,_,rfl,rfl,rfl⟩ c1 λv R t2 e=>?_);obtain rfl:v=.int x1:=e;refine L1 (by decide) (OU ⟨Sw _,λl S=>?_⟩);have s2:=P.trans t2;have nl:H l=none:=s2.free S;have T:Fg H (upd R l (.lst [])) l ro sg 0 []:=⟨s2.trans (aw S),⟨[],ac,.nil⟩,(λ_ h=>nomatch h),R7 _⟩;generalize upd R l (.lst [])=Y at T;refine dU (.mul (.va rfl) (.va rfl) ⟨by lia,by lia⟩) ?_;show L0 K _ (oR v0 ro sg many (y0/8%8) (x1%2147483647+48271) l (ro*sg) none none none) Y;have b1:=em (a:=x1) (b:=2147483647) (by decide);refine Reads.mul .k (.va rfl) ⟨by lia,by lia⟩ _ ⟨_,rfl,by lia,by lia,?_⟩;refine iJ (n:=(2*(ro*sg)).toNat) (λi d H'=>∃num RL x8,d=oR v0 ro sg many (y0/8%8) num l (ro*sg) x8 none none/\Fg H H' l ro sg i RL/\0<=num/\num<4294967296) ⟨_,[],none,rfl,T,by lia,by lia⟩ (λi d H' p m=>m) (λd H' p=>R7 _) (λi d H' x t U m p y V=>?_) λd H' p=>?_
 .obtain⟨num,RL,x8,rfl,A,Z,n1⟩:=p;obtain⟨rfl,rfl⟩:=y;rw[WH];have b2:=em (a:=num*num+48271*num+(i:Nat)) (b:=2147483647) (by decide);refine dU (.mod (.ad (.ad (.mul (.va rfl) (.va rfl) ⟨by lia,by lia⟩) (.mul .k (.va rfl) ⟨by lia,by lia⟩)) (.va (v:=.int (i:Nat)) rfl)) .k (by decide)) ?_;generalize(num*num+48271*num+(i:Nat))%2147483647=nm at b2;have no:U.nx (oR v0 ro sg many (y0/8%8) nm l (ro*sg) (some (.int (i:Nat))) none none) t:=V _ _ ⟨nm,RL,_,rfl,A.up (Wy _),by lia,by lia⟩;have yes:Ex K (ba cf (ba iO (ba g9 (aj 5) (tC (.int 8))) (aj 7)) (ba b_ (aj 8) (aj 7))) (ba HJ (aj 4) (tC (.int 0))) U (oR v0 ro sg many (y0/8%8) nm l (ro*sg) (some (.int (i:Nat))) none none) t:=PV (i:=nm/8*(ro*sg)+(i:Nat)%(ro*sg)) A nl (by lia) N O rfl rfl rfl (.ad (.mul (.dv (.va rfl) .k ⟨by decide,by decide⟩) (.va rfl) ⟨by lia,by lia⟩) (.mod (.va rfl) (.va rfl) M)) (Reads.op (z:=.bl (decide (0<y0/8%8))) (.va rfl) .k λ_ q=>⟨_,_,rfl,rfl,q⟩) λH5 r _ B=>V _ _ ⟨nm,_,_,rfl,B,by lia,by lia⟩;refine Reads.op (z:=.bl (decide (nm%8<5))) (.mod (.va rfl) .k (by decide)) .k (λ_ q=>⟨_,_,rfl,rfl,q⟩) _ ⟨_,rfl,qj (λ_=>?_) λ_=>fq no⟩;refine Reads.op (z:=.bl (decide (((i:Nat):Int)<ro*sg))) (.va rfl) (.va rfl) (λ_ q=>⟨_,_,rfl,rfl,q⟩) _ ⟨_,rfl,qj (λ_=>fK yes) λ_=>?_⟩;exact Reads.op (z:=.bl (decide (ro<=((i:Nat):Int)%(ro*sg)))) (.mod (.va rfl) (.va rfl) M) (.va rfl) (λ_ q=>⟨_,_,rfl,rfl,q⟩) _ ⟨_,rfl,qj (λ_=>yes) λ_=>no⟩
 .obtain⟨num,RL,x8,rfl,A,Z,n1⟩:=p;obtain⟨la,j,e0,C,ia⟩:=wM (Ef is A.s);refine⟨_,rfl,_,rfl,_,rfl,_,_,rfl,rfl,_,rfl,la,j,e0,.inl C,λg u=>?_⟩;have w:=aw (o:=.lst (fh j (some 4) (some (4+many)))) u;have f:upd H' g (.lst (fh j (some 4) (some (4+many)))) g=some (.lst (fh j (some 4) (some (4+many)))):=ac;have eL:=BO j 4 many (by decide) hm.1;have F:g≠l:=λz=>by obtain⟨ws,e,_⟩:=A.l;rw[<- z,u]at e;cases e
  have W:Fg H (upd H' g (.lst (fh j (some 4) (some (4+many))))) l ro sg (2*(ro*sg)).toNat RL:=⟨A.s.trans w,let ⟨ws,e,al⟩:=A.l;⟨ws,w _ _ e,al.mono (IsRule.keep (.of w))⟩,A.a,A.n⟩;have G:=Ld (ia.cut (some 4) (some (4+many))) w;generalize upd H' g (.lst (fh j (some 4) (some (4+many))))=H9 at f W G;have I:sW (sc.map L3.D.int) (some 4) (some (4+many))=(sW sc (some 4) (some (4+many))).map L3.D.int:=by unfold sW;rw[R9,List.map_take,List.map_drop]
  rw[I]at G;have ei:=nK G;rw[ei]at f eL;generalize sW sc (some 4) (some (4+many))=cs at f eL;have hn:=A.n;refine⟨g,rfl,⟨_,SqL.of f⟩,cc (K:=K) (a:=g) (xs:=cs.map .int) (λi d H'=>∃RL J x10,d=oR v0 ro sg many (y0/8%8) num l (ro*sg) x8 J x10/\Fg H H' l ro sg ((2*(ro*sg)).toNat+i) RL/\H' g=some (.lst (cs.map .int))) ⟨RL,none,none,rfl,W,f⟩ (λi d H' _ ⟨_,_,_,_,_,h⟩=>SqL.of h) (λi v d H' m ⟨RL,J,x10,L,A,X⟩=>?_) λd H' ⟨RL,J,x10,L,A,X⟩=>?_⟩
  .subst L;rw[Su]at m;obtain⟨c,I,rfl⟩:=Tf.mp m;have il:=(Si.mp I).1;rw[R9]at eL;obtain⟨b,rb⟩:=Reads.RO (H:=H') (ro:=ro) (sg:=sg) (many:=many) (kind:=y0/8%8) (c:=c) (v0:=v0) (num:=num) (hs:=ro*sg) (l:=l) (x8:=x8) (x10:=x10);refine rb _ ?_;refine PV (σ:=oR v0 ro sg many (y0/8%8) num l (ro*sg) x8 (some (.int c)) (some (.bl b))) A nl (by lia) N O rfl rfl rfl (.mod (.mul (.ad (.mod (.va rfl) .k (by decide)) .k) .k ⟨by decide,by decide⟩) .k (by decide)) (λQ q=>⟨_,rfl,_,rfl,q⟩) λH5 r kp B=>⟨_,_,_,rfl,B,kp _ _ X F⟩
  .subst L;obtain⟨ws,e,al⟩:=A.l;have h5:=A.n;rw[R9]at eL h5;exact⟨_,rfl,k l ws RL H' A.s nl e al A.a (by lia)⟩
end
def Gc(K:WK):List V->Hp->VK->Prop:=λb H Q=>∃p a,b=[.ref p]/\SqL K H p (a.map V.int)/\a≠[]/\∀m,m∈a->(∀n∈a,n<=m)->Q (.int m) H
def yL(c:X.calm=true):bJ X (.builtin "max") (Gc X.K):=by
 rintro A s B H C D Q I r⟨p,E,rfl,d,a,q⟩;obtain⟨u,rfl,f⟩:=eB r;cases f;obtain⟨n,o,w,F⟩:=I.list d;obtain⟨l,rfl,e⟩:=jx o;have g:s.heap.IsList p (intItems l.toArray):=by
  have:intItems l.toArray=(l.map (λp=>Value.int p.1 p.2)).toArray:=by simp[intItems]
  rw[this];exact w.isList
 obtain⟨i,j⟩ : ∃i,l.toArray.size=i+1:=by
  cases l with
  |nil=>exact(a e.symm).elim
  |cons _ r=>exact⟨r.length,by simp⟩
 refine max_intList (I.ok.hd c) g (by lia) λv G x k y=>?_;obtain⟨t,rfl⟩:=intItems_at k;rw[show l.toArray.size-1=i by lia];rcases LM j 0 with⟨z,_⟩|⟨b,m⟩
 .exact(a (e.symm.trans z)).elim
 .rw[e]at b m;exact⟨.int _,H,I.kept (t':=x) y,⟨t,rfl⟩,q _ b m⟩
def EM(h:∀n∈ns,0<=n):0<=m9 ns:=by
 rw[qI];cases ns with
 |nil=>exact TU _
 |cons x r=>exact h _ (Pz.u4 (by simp))
noncomputable def EN(b:List Sp.Rule)(a:Int):List Int->List Rw
 |[]=>[]
 |s::w=>(b.filter λr=>r.1==a&&r.2.1==s).map λr=>(r.2.2.1,r.2.2.2++w)
def nxt_stp:y∈EN RL x.1 x.2↔yH RL x y:=by
 obtain⟨a,st⟩:=x;cases st with
 |nil=>exact⟨(λh=>nomatch h),λ⟨r,_,w,e,_⟩=>by cases e⟩
 |cons s w=>
  show y∈List.map _ _↔_;rw[Se];constructor
  .rintro⟨r,b,rfl⟩;obtain⟨h1,d⟩:=SJ.mp b;rw[Up,U_,U_]at d;exact⟨r,h1,w,by rw[d.1,d.2],rfl⟩
  .rintro⟨r,b,c,e,rfl⟩;cases e;exact⟨r,SJ.mpr ⟨b,by rw[BEq.rfl,BEq.rfl];rfl⟩,rfl⟩
def IsSt(H:Hp)(x:Rw)(v:V):Prop:=∃p l,v=.ref p/\h8 H x.1 x.2 p l
theorem IsSt.more(h:IsSt H x v)(s:Same H H'):IsSt H' x v:=let ⟨p,l,e,h⟩:=h;⟨p,l,e,h.more s⟩
section
variable{K:WK}{H H':Hp}{vs ws:List V}{Q:VK}{E:XK}{RL fs:List Sp.Rule}{l sp sl:Addr}{a0:Int}{aO w:List Int}
inductive Cq:Sp
 |mk {H:Hp} {l sp sl:Addr} {ws:List V} {RL:List Sp.Rule} {a0:Int} {aO:List Int} {Q:VK} {E:XK} (hl:Rd H l (.lst ws)) (its:aN (IsRule H) RL ws) (st:h8 H a0 aO sp sl) (z1:RL.length<1000) (z2:aO.length<1000) (hp:∀r∈RL,r.2.2.2.length<=2) (k:∀l vs H',Same H H'->H l=none->H' l=some (.lst vs)->aN (IsSt H') (EN RL a0 aO) vs->Q (.ref l) H'):Cq [.ref l,.ref sp] H Q E
def L5(K:WK):TE:=cm (ah (tI K 0 2) (ah (ba GV (eR (jG K) (ah (tI K 0 3) aF)) (GR (zH K) (aj 1) (lb (tC (.int 1))) lQ)) aF))
def Rb(K:WK)(a:TS)(b:TE):TS:=aI (aT (aj 1) (c9 K 2 (aR (aA 2) (aR (aA 3) cZ)))) (aI (dQ (bO (ba pX (vA K 3) (tC (.int 0)))) (b5 (dR aF)) ck) (aI a (b5 b)))
theorem L6{Fin:Addr->List V->Hp->Prop}(h1:tN.length=1)(B:jz σ caps=[some (.ref sl)])(hg:∀cl C S q fp,PG (aV X scope (tN++capN) cl C S q fp) tg (aA 0))(he:∀cl C S q fp,PE (aV X scope (tN++capN) cl C S q fp) elt (L5 X.K))
 (T:H fl=some (.lst fv)) (al:aN (IsRule H) fs fv) (hs:Rd H sl (.lst ((s::w).map .int))) (z1:fs.length<1000) (zw:w.length<1000) (hp:∀r∈fs,r.2.2.2.length<=2) (k:∀d a H',Same H H'->H d=none->H' d=some (.lst a)->aN (IsSt H') (fs.map λr=>(r.2.2.1,r.2.2.2++w)) a->Fin d a H'):ce X scope tg tN capN caps elt [] σ Fin (yZ X.K fl) H:=by
 have ln:=al.len;refine iL (n:=fs.length) hg (λ_ _ _ _ _=>dw) he (λd i a H'=>Same H H'/\H' d=some (.lst a)/\aN (λx v=>∃p l,v=.ref p/\l≠d/\h8 H' x.1 x.2 p l) ((fs.take i).map λr=>((r.2.2.1,r.2.2.2++w):Rw)) a/\H d=none) (λd g=>⟨aw g,ac,.nil,g⟩) (λh=>h.2.1) (λd i a H' ⟨sm,_⟩ hi=>⟨fv,fv[i]'(by lia),SqL.of (sm _ _ T),R_ _⟩) (λd a H' ⟨sm,_⟩=>⟨fv,SqL.of (sm _ _ T),by lia⟩) (λd i a H' xv D ol hi ⟨sm,g,F,nD⟩ y G=>?_) λd a H' g ⟨sm,U,F,_⟩=>k d a H' sm g U (by rw[SU]at F;exact F.mono λx v ⟨p,l,e,_,h⟩=>⟨p,l,e,h⟩);obtain⟨rfl,y⟩:=y;obtain⟨r,hr,ir⟩:=al.get (y _ (SqL.of (sm _ _ T)));obtain⟨b,u,rfl,hb,hu⟩:=IsRule.keep (.of sm) _ _ ir;rw[h1]at G;obtain⟨u0,rfl⟩:=Ui.mp G;rw[B];have hpr:=hp r (SB hr);have lt:=S_ i fs;refine⟨λj hj=>?_,fK (Reads.ix (n:=2) (.va rfl) hb (v:=.int r.2.2.1) rfl _ (Reads.ix (n:=3) (.va rfl) hb (v:=.ref u) rfl _ ⟨u,_,rfl,.inr (SqT.of hu),λN W=>?_⟩))⟩
 .rw[h1]at hj;obtain⟨j,rfl⟩:=Ti hj;rfl
 have O:=aw (o:=.lst (r.2.2.2.map .int)) W;have e1:upd D N (.lst (r.2.2.2.map .int)) N=some (.lst (r.2.2.2.map .int)):=ac;generalize upd D N (.lst (r.2.2.2.map .int))=H1 at O e1;refine⟨_,rfl,_,rfl,sl,_,rfl,.inl (aU (sm.trans O) hs),λP Y=>?_⟩;have ec:fh ((s::w).map V.int) (some 1) none=w.map .int:=kR _ 1;rw[ec];have t2:=aw (o:=.lst (w.map .int)) Y;have e2:upd H1 P (.lst (w.map .int)) P=some (.lst (w.map .int)):=ac;have I:=t2 _ _ e1;generalize upd H1 P (.lst (w.map .int))=H2 at t2 e2 I;refine⟨N,P,_,_,rfl,rfl,I,e2,TY (hG (by simp;lia)),λf m=>⟨by show 2<=_;rw[SQ];lia,λp4 J=>?_⟩⟩;have t3:=aw (o:=.lst (r.2.2.2.map V.int++w.map .int)) m;have e3:upd H2 f (.lst (r.2.2.2.map V.int++w.map .int)) f=some (.lst ((r.2.2.2++w).map .int)):=by rw[ac,SN]
 generalize upd H2 f (.lst (r.2.2.2.map V.int++w.map .int))=q at t3 e3 J;have Z:=aw (o:=.tup [.int r.2.2.1,.ref f]) J;have e4:upd q p4 (.tup [.int r.2.2.1,.ref f]) p4=some (.tup [.int r.2.2.1,.ref f]):=ac;have t:=((O.trans t2).trans t3);have hD3:=t _ _ g;have n3:f≠d:=λz=>by rw[z,(O.trans t2) _ _ g]at m;cases m
 have L:=Z _ _ e3;have R:=t.trans Z;generalize upd q p4 (.tup [.int r.2.2.1,.ref f])=A at Z e4 L R;have M:=R _ _ g;have kt:KT A (upd A d (.lst (a++[.ref p4]))):=.upd M λ_ z=>(nomatch z);have kp:Kp d A (upd A d (.lst (a++[.ref p4]))):=λc u e n=>by rwa[ai n]
 have mv:∀{x:Rw}{v:V}{Ha:Hp},Same Ha A->(∃p l,v=.ref p/\l≠d/\h8 Ha x.1 x.2 p l)->∃p l,v=.ref p/\l≠d/\h8 (upd A d (.lst (a++[.ref p4]))) x.1 x.2 p l:=λs ⟨p,l,e,n,h⟩=>⟨p,l,e,n,kt _ _ (s _ _ h.t),(aU s h.l).imp (λe=>kp _ _ e n) λ⟨o,e⟩=>⟨o,kp _ _ e n⟩⟩;refine⟨M,hG (by rw[<- F.len,R9];lia),λc u e=>?_,ac,?_,nD⟩
 .rw[ai (ay e nD)];exact R _ _ (sm _ _ e)
 .rw[Sv,hr,SN];exact(F.mono λx v h=>mv R h).snoc (mv (λ_ _ e=>e) ⟨p4,f,rfl,n3,e4,.inl L⟩)
structure Pl(X:Cx) (a:Scope) (p n:Expr) (m b:List Str) (d:List Nat) (o:List Expr) (q:List Nat) (r:TT) (s:TE):Prop where
 h:m.length=1
 c:d=q
 g:∀f C i j k,PG (aV X a (m++b) f C i j k) p (aA 0)
 t:∀f C i j k,y9 (aV X a (m++b) f C i j k) o r
 e:∀f C i j k,PE (aV X a (m++b) f C i j k) n s
theorem EO{z A:Scope}{B C D F:Expr}(x:Pl X z B C tN1 capN1 caps1 ifs1 [2,3] (LH X.K) (aj 0))(y:Pl X A D F tN2 capN2 caps2 [] [3] (λ_ H Q=>Q true H) (L5 X.K))(h:Cq vs H Q E):Rb X.K (nQ X z B C tN1 capN1 caps1 ifs1 4 (bZ X.K (aj 0))) (iD X A D tN2 capN2 caps2 F [] (bZ X.K (aj 4))) (eQ Q) (aZ (nS 5) vs) H:=by
 obtain @⟨H,l,sp,sl,ws,RL,a0,aO,Q,E,a,its,st,z1,z2,hp,k⟩:=h;refine⟨_,rfl,wD st.t ?_⟩;refine Reads.xn (.rA (.va rfl) st.l) .k _ ⟨_,rfl,?_⟩;cases aO with
 |nil=>exact fK ⟨Sw _,λl a=>k l [] _ (aw a) a ac .nil⟩
 |cons s w=>rw[Tw (by simp;lia)];refine fq ⟨_,rfl,l,rfl,⟨ws,.inl a⟩,Ey (s:=s) (w:=w) x.h (by rw[x.c];rfl) x.g x.t x.e a its st.l z1 λm d J f v j n=>?_⟩;refine⟨_,rfl,m,rfl,⟨d,SqL.of j⟩,L6 (s:=s) (w:=w) y.h (by rw[y.c];rfl) y.g y.e j n (aU f st.l) (Ts (TZ _ _) z1) (by simp at z2;lia) (λr o=>hp r (SJ.mp o).1) λp b q G I i u=>k p b q (f.trans G) (f.free I) i u⟩
inductive FC:Sp
 |mk {H:Hp} {l sp cl sl:Addr} {ws:List V} {RL:List Sp.Rule} {a0:Int} {aO cells:List Int} {Q:VK} {E:XK} (hl:Rd H l (.lst ws)) (its:aN (IsRule H) RL ws) (st:h8 H a0 aO sp sl) (hc:Rd H cl (.lst (cells.map .int))) (z1:RL.length<1000) (z2:aO.length<=5) (z3:cells.length<=100) (hp:∀r∈RL,r.2.2.2.length<=2) (k:∀r rv RW H',Same H H'->H r=none->H' r=some (.lst rv)->aN (IsSt H') RW rv->LG RL RW->RW[0]?=some (a0,aO)->RW.length<=101->Q (.ref r) H'):FC [.ref l,.ref sp,.ref cl] H Q E
def M7:TE:=Pt (rU λi=>.int (-i)) (tC (.int 1))
def OW(K:WK):TS:=aI (aT (bj Cq [] E0 (ah (aj 0) (ah (ba (mF K) (aj 3) M7) aF))) (aA 5)) (dQ (bO (ba HJ (vA K 5) (tC (.int 0)))) (b9 (qc K "list" cW (aj 3) (ah (ba (mF K) (aj 5) (ba b_ (aj 4) (vA K 5))) aF))) ck)
def Rc(K:WK):TS:=aI (aT (dR (ah (aj 1) aF)) (aA 3)) (aI (cU (bZ K (aj 2)) (aA 4) (OW K)) (b5 (aj 3)))
inductive ML(H:Hp) (r:Addr) (x:Rw):V->Prop
 |mk {p l:Addr}:l≠r->h8 H x.1 x.2 p l->ML H r x (.ref p)
inductive Nk(l sp cl r:Addr) (H:Hp) (RL:List Sp.Rule) (y:Rw) (i:Nat):L2.St->Hp->Prop
 |mk {H':Hp} {RW:List Rw} {x:Rw} {rv:List V} {v:V} {x4 x5:Option V}:Same H H'->H' r=some (.lst (rv++[v]))->aN (ML H' r) (RW++[x]) (rv++[v])->LG RL (RW++[x])->RW.length<=i->x.2.length<=5+i->(RW++[x])[0]?=some y->Nk l sp cl r H RL y i [some (.ref l),some (.ref sp),some (.ref cl),some (.ref r),x4,x5] H'
def Nk.sm{a r:Addr}{y:Rw}{i:Nat}(h:Nk l sp a r H RL y i σ H'):Same H H':=by cases h;assumption
theorem EQ(h:FC vs H Q E):Rc K (eQ Q) (aZ (nS 6) vs) H:=by
 obtain @⟨H,l,sp,cl,sl,ws,RL,a0,aO,cells,Q,E,hl,its,st,hc,z1,z2,z3,hp,k⟩:=h;refine⟨_,rfl,TY (hG (by show 1<15000000;decide)),λr C=>?_⟩;have D:=aw (o:=.lst [.ref sp]) C;have g:upd H r (.lst [.ref sp]) r=some (.lst ([]++[.ref sp])):=ac;generalize upd H r (.lst [.ref sp])=H1 at D g;refine⟨_,rfl,cl,rfl,⟨_,.inl (aU D hc)⟩,?_⟩;refine cc (K:=K) (a:=cl) (xs:=cells.map .int) (Nk l sp cl r H RL (a0,aO)) (.mk (RW:=[]) (x:=(a0,aO)) (rv:=[]) D g (.cons (.mk (λz=>by rcases st.l with e|⟨o,e⟩<;>rw[z,C]at e<;>cases e) (st.more D)) .nil) (λk x y _ h=>by simp at h) (R7 _) z2 rfl) (λi m H' _ q=>.inl (aU q.sm hc)) (λi v m H' M q=>?_) λm H' q=>?_
 .obtain @⟨H',RW,x,rv,vl,x4,x5,sm,hr',ar,ch,n1,n2,h0⟩:=q;rw[Su]at M;obtain⟨c,O,rfl⟩:=Tf.mp M;have X:=(Si.mp O).1;obtain⟨Y,Z,N,_,z⟩:=ar.rq;obtain⟨_,G⟩:=List.append_inj' N rfl;injection G with G;subst G;clear N;obtain @⟨s,lx,nx,sx⟩:=z;refine⟨_,rfl,Reads.Ni (.va rfl) (λQ q=>⟨1,rfl,q⟩) hr' (tR _ _) _ (.mk (aU sm hl) (its.mono (IsRule.keep (.of sm))) sx z1 (by lia) hp λa F f t2 na ha P=>?_)⟩;have A:=ar.mono (R':=ML f r) λx v h=>by cases h with|mk n h=>exact .mk n (h.more t2)
  refine g7 (Reads.RF rfl (.inl ha)) (λc1=>?_) λ_=>.mk (sm.trans t2) (t2 _ _ hr') A ch (by lia) (by lia) h0;have c1:=SO c1;have b:=em (a:=c) c1;obtain⟨j,R⟩ : ∃j:Nat,c%((F.length:Nat):Int)=(j:Nat):=⟨_,(U4 b.1).symm⟩;have S:j<F.length:=by lia
  have I:F[j]?=some F[j]:=R_ S;obtain⟨y,T,p,U,ep,J⟩:=P.get I;rw[ep]at I;have B:yH RL x y:=nxt_stp.mp (SB T);have d:=t2 _ _ hr';have kt:KT f (upd f r (.lst ((rv++[.ref s])++[.ref p]))):=.upd d λ_ z=>(nomatch z);have kp:Kp r f (upd f r (.lst ((rv++[.ref s])++[.ref p]))):=λc u e n=>by rwa[ai n]
  have mv:∀{x:Rw}{v:V},ML f r x v->ML (upd f r (.lst ((rv++[.ref s])++[.ref p]))) r x v:=λh=>by cases h with|mk n h=>exact .mk n ⟨kt _ _ h.t,h.l.imp (λe=>kp _ _ e n) λ⟨o,e⟩=>⟨o,kp _ _ e n⟩⟩
  have L:U≠r:=λz=>by
   rw[z]at J;rcases J.l with e|⟨o,e⟩<;>rw[d]at e
   .injection e with e;injection e with e;obtain⟨_,_,z⟩:=Se.mp (show V.ref s∈y.2.map V.int by rw[<- e];simp);cases z
   .cases e
  have W:=wW hp B;have al:=ar.len;refine⟨_,rfl,.inl ⟨rfl,_,SqL.of d⟩,Reads.Ni (.va rfl) (.mod (.va (v:=.int c) rfl) (.rA (.va rfl) (.inl ha)) c1) ha (by rw[R];exact cD I) _ ⟨r,_,_,rfl,rfl,d,hG (by rw[<- al];simp;lia),.mk (RW:=RW++[x]) (x:=y) (rv:=rv++[.ref s]) (λc u e=>?_) ac ((A.mono λx v h=>mv h).snoc (mv (.mk L J))) (BP ch B) (by simp;lia) (by lia) (by rwa[Uj (by simp)])⟩⟩;rw[ai λz=>by rw[z,C]at e;cases e];exact t2 _ _ (sm _ _ e)
 .obtain @⟨H',RW,x,rv,vl,x4,x5,sm,hr',ar,ch,n1,n2,h0⟩:=q;rw[R9]at n1;exact⟨_,rfl,k r _ (RW++[x]) H' sm C hr' (ar.mono λx v h=>by cases h with|mk _ h=>exact⟨_,_,rfl,h⟩) ch h0 (by simp;lia)⟩
end
abbrev Wn(a:aD->Int->Prop)(PG:aD->Int->Int->Prop)(x:Rw)(n:Int):Prop:=n=0\/WA a PG x.2 x.1 0 n
structure Jy(b:List Sp.Rule) (a:List Sp.Arr) (c:aD->Int->Prop) (PG:aD->Int->Int->Prop) (U:List Int) (x:Rw):Prop where
 u:∃U,yT (aX a) U/\x.1∈U
 z:x.2.length<900
 am:BD b a x.1 x.2
 rg:Ep b a x.1 x.2
 ti:LN b a x.1 x.2
 lg:Ji b a x.1 x.2 c PG U
section
variable{X:Cx}{mg:Str->Option WM}{Fr:qR}{Fw:List L3.D->Res R}{C:Addr}{H H':Hp}{rl sp sl:Addr}{vs ws:List V}{Q:VK}{E:XK}{a0 signs:Int}{RL:List Sp.Rule}{t:Pz.TD}{AM:aD->Int->Prop}{PG:aD->Int->Int->Prop}{U:List Int}{x:Rw}
structure JP(Fr:qR) (H:Hp) (a0 signs:Int) (RL:List Sp.Rule) (t:Pz.TD) (rl:Addr) (ws:List V):Prop where
 l:H rl=some (.lst ws)
 i:aN (IsRule H) RL ws
 p:Nn Fr a0 signs RL t
 z:∀r∈RL,r.2.2.2.length<=2
def JP.more(h:JP Fr H a0 signs RL t rl ws)(s:Same H H'):JP Fr H' a0 signs RL t rl ws:=⟨s _ _ h.l,h.i.mono (IsRule.keep (.of s)),h.p,h.z⟩
inductive yS(Fr:qR):Sp
 |mk {H:Hp} {rl sp sl:Addr} {ws:List V} {a0 signs:Int} {RL:List Sp.Rule} {t:Pz.TD} {AM:aD->Int->Prop} {PG:aD->Int->Int->Prop} {U:List Int} {x:Rw} {Q:VK} {E:XK} (h:JP Fr H a0 signs RL t rl ws) (st:h8 H x.1 x.2 sp sl) (T:Jy RL (t.map (·.1)) AM PG U x) (nn:ra RL (t.map (·.1)) x.1 x.2->False) (k:∀m H',Same H H'->MaxI (Wn AM PG x) m->Q (.int m) H'):yS Fr [.int a0,.int signs,.ref rl,.ref sp] H Q E
def OX(K:WK):TE:=cm (ah (aj 0) (ah (aj 1) (ah (eR (jG K) (ah (aj 2) aF)) aF)))
def OY(K:WK):TE:=cm (ah (tI K 3 0) (ah (eR (jG K) (ah (tI K 3 1) aF)) aF))
def Re(K:WK)(mg:Str->Option WM)(Fw:List L3.D->Res R)(Fr:qR)(C:Addr):TS:=aI (aT (bj (Cy (kh Fr) C) [] E0 (ah (OX K) (ah (OY K) aF))) (aA 4)) (aI (dQ (ul (tB (bj (nu mg 1 Fw) [] E0 (ah (aj 4) aF)))) (b5 M7) ck) (b5 (aj 4)))
theorem ER(J:Es Fw)(h:yS Fr vs H Q E):Re X.K mg Fw Fr C (eQ Q) (aZ (nS 5) vs) H:=by obtain @⟨H,rl,sp,sl,ws,a0,signs,RL,t,AM,PG,U,x,Q,E,h,st,T,nn,k⟩:=h;refine⟨_,rfl,_,rfl,_,rfl,rl,ws,rfl,.inl (.inl (.inl h.l)),λl L=>⟨by show 3<=_;rw[SQ];lia,λp s=>?_⟩⟩;have w:=aw (o:=.lst ws) L;have Y:upd H l (.lst ws) l=some (.lst ws):=ac;generalize upd H l (.lst ws)=V at w Y s;have Z:=aw (o:=.tup [.int a0,.int signs,.ref l]) s;have e2:upd V p (.tup [.int a0,.int signs,.ref l]) p=some (.tup [.int a0,.int signs,.ref l]):=ac;have a:=w.trans Z;have y:oV (upd V p (.tup [.int a0,.int signs,.ref l])) a0 signs RL p l ws:=⟨e2,Z _ _ Y,vp (h.i.mono (IsRule.keep (.of a))) λx _ v h=>By h⟩;generalize upd V p (.tup [.int a0,.int signs,.ref l])=A at a y;have W:=st.more a;refine Reads.ix (n:=0) (.va (i:=3) rfl) W.t (v:=.int x.1) rfl _ (Reads.ix (n:=1) (.va (i:=3) rfl) W.t (v:=.ref sl) rfl _ ⟨sl,x.2.map .int,rfl,.inl (.inl W.l),λb j=>⟨by show 2<=_;rw[SQ];lia,λS e=>?_⟩⟩);have B:=aw (o:=.lst (x.2.map .int)) j;have D:upd A b (.lst (x.2.map .int)) b=some (.lst (x.2.map .int)):=ac;generalize upd A b (.lst (x.2.map .int))=F at B D e;have G:=aw (o:=.tup [.int x.1,.ref b]) e;have I:upd F S (.tup [.int x.1,.ref b]) S=some (.tup [.int x.1,.ref b]):=ac;have g:=G _ _ D;have d:=B.trans G;generalize upd F S (.tup [.int x.1,.ref b])=M at d I g;have q:=y.more d;have r:=a.trans d;have sa:t_ (kh Fr) M RL (t.map (·.1)) p S b x.1 x.2:=⟨⟨l,ws,q.at⟩,BQ q.is q.t h.p.p h.p.nd h.p.z,by rw[R9];exact h.p.z,h.p.n,h.p.f,T.u,⟨I,.inl g⟩,by have:=T.z;lia⟩;refine .mk sa T.am T.rg T.ti T.lg (λm R N _ O=>?_) λno _ _=>(nn no).elim;refine Bw (ds:=[.int m]) (.c (.va rfl) .ni) rfl ⟨_,_,rfl,rfl,rfl⟩ (J _) λH6 P=>⟨_,rfl,fq ⟨_,rfl,k m H6 (r.trans (N.trans P)) O⟩⟩
inductive Fq(Fr:qR):Sp
 |mk {H:Hp} {rl sp sl:Addr} {ws:List V} {a0 signs:Int} {RL:List Sp.Rule} {t:Pz.TD} {AM:aD->Int->Prop} {PG:aD->Int->Int->Prop} {U:List Int} {x:Rw} {Q:VK} {E:XK} (h:JP Fr H a0 signs RL t rl ws) (st:h8 H x.1 x.2 sp sl) (T:Jy RL (t.map (·.1)) AM PG U x) (nn:ra RL (t.map (·.1)) x.1 x.2->False) (Tn:∀y,yH RL x y->Jy RL (t.map (·.1)) AM PG U y/\(ra RL (t.map (·.1)) y.1 y.2->False))
  (om:∀m ms,MaxI (Wn AM PG x) m->aN (λy n=>MaxI (Wn AM PG y) n) (EN RL x.1 x.2) ms->(ms=[]->m=0)/\∀n∈ms,(∀i∈ms,i<=n)->m=1+n) (k:∀H',Same H H'->Q (.bl true) H'):Fq Fr [.int a0,.int signs,.ref rl,.ref sp] H Q E
def OZ(Fr:qR):TE:=bj (yS Fr) [] E0 (ah (aj 1) (ah (aj 2) (ah (aj 3) (ah (aj 0) aF))))
def L7(K:WK):TS:=aI (dQ (bO (ba pX (vA K 5) (tC (.int 0)))) (b5 (ba pX (aj 4) (tC (.int 0)))) ck) (b5 (rQ (ba PL (eR (Bj K) (ah (aj 5) aF)) (tC (.int 0))) (ba pX (aj 4) (ba cf (tC (.int 1)) (eR (Gc K) (ah (aj 5) aF))))))
def Rf(X:Cx)(Fr:qR)(b:Scope)(e a:Expr)(f c:List Str)(d:List Nat):TS:=aI (aT (bj (yS Fr) [] E0 (ah (aj 0) (ah (aj 1) (ah (aj 2) (ah (aj 3) aF))))) (aA 4)) (aI (nQ X b e a f c d [] 5 (bZ X.K (bj Cq [] E0 (ah (aj 2) (ah (aj 3) aF))))) (L7 X.K))
theorem ES(c:Pl X scope tg elt tN capN caps [] [0,1,2] (λ_ H Q=>Q true H) (OZ Fr))(h:Fq Fr vs H Q E):Rf X Fr scope tg elt tN capN caps (eQ Q) (aZ (nS 6) vs) H:=by
 obtain @⟨H,rl,sp,sl,ws,a0,signs,RL,t,AM,PG,U,x,Q,E,h,st,T,nn,Tn,om,k⟩:=h;refine⟨_,rfl,_,rfl,_,rfl,_,rfl,.mk h st T nn λm H1 s1 N=>?_⟩;have h1:=h.more s1;refine⟨_,rfl,_,rfl,.mk (.inl h1.l) h1.i (st.more s1) h.p.n (by have:=T.z;lia) h.z λfl f G s2 Z s I=>⟨fl,rfl,⟨f,SqL.of s⟩,?_⟩⟩;have h2:=h1.more s2;have ln:=I.len;have B:=s1.trans s2;have nl:(EN RL x.1 x.2).length<=RL.length:=by
  unfold EN;split
  .exact Sw _
  .rw[R9];exact TZ _ _
 have zl:=h.p.n;refine iL (n:=f.length) c.g (λ_ _ _ _ _=>dw) c.e (λb i a H'=>Same G H'/\H' b=some (.lst a)/\(∃ms:List Int,a=ms.map .int/\aN (λy n=>MaxI (Wn AM PG y) n) ((EN RL x.1 x.2).take i) ms)/\G b=none) (λb o=>⟨aw o,ac,⟨[],rfl,.nil⟩,o⟩) (λh=>h.2.1) (λb i a H' ⟨sm,_⟩ v=>⟨f,f[i],SqL.of (sm _ _ s),R_ v⟩) (λb a H' ⟨sm,_⟩=>⟨f,SqL.of (sm _ _ s),R7 _⟩) (λb i a H' xv O ol v ⟨sm,o,⟨ms,w,am⟩,J⟩ y q=>?_) λb a H' o ⟨sm,d,⟨ms,w,am⟩,_⟩=>?_
 .obtain⟨rfl,y⟩:=y;obtain⟨z,L,p5,l5,rfl,P⟩:=I.get (y _ (SqL.of (sm _ _ s)));rw[c.h]at q;obtain⟨u0,rfl⟩:=Ui.mp q;rw[c.c];obtain⟨R,S⟩:=Tn z (nxt_stp.mp (SB L));have lt:=S_ i (EN RL x.1 x.2);refine⟨λj M=>?_,fK ⟨_,rfl,_,rfl,_,rfl,_,rfl,.mk (h2.more sm) (P.more sm) R S λV H5 A D=>⟨A _ _ o,hG (by rw[w,R9,<- am.len];lia),λc u e=>?_,ac,⟨ms++[V],by rw[w,SN];rfl,?_⟩,J⟩⟩⟩
  .rw[c.h]at M;obtain⟨j,rfl⟩:=Ti M;rfl
  .rw[ai (ay e J)];exact A _ _ (sm _ _ e)
  .rw[Sv,L];exact am.snoc D
 .rw[<- ln,SU]at am;subst w;obtain⟨o1,W⟩:=om m ms N am;have r:∀{H6},Same H' H6->Q (.bl true) H6:=λA=>k _ ((B.trans sm).trans A);show L7 X.K _ [some (.int a0),some (.int signs),some (.ref rl),some (.ref sp),some (.int m),some (.ref b)] H';refine g7 (Reads.xn (.rA (.va rfl) (.inl d)) .k) (λc1=>?_) λc1=>?_
  .have c1:=SO c1;have e:ms=[]:=by rw[R9]at c1;exact S6.mp (by lia)
   refine Reads.xn (.va rfl) .k _ ?_;rw[Sz (o1 e)];exact r λ_ _ e=>e
  .have ne:ms≠[]:=λz=>c1 (Sz (by rw[z];rfl));refine⟨_,rfl,b,ms,rfl,SqL.of d,ne,_,_,rfl,rfl,_,rfl,?_⟩;have nn:0<=m9 ms:=EM λn F=>by obtain⟨i,v⟩:=SC.mp F;obtain⟨z,_,hz⟩:=am.get v;exact hz.2 0 (.inl rfl)
   rw[Sz nn];refine fK ⟨_,rfl,_,rfl,b,ms,rfl,SqL.of d,ne,λn F Y=>⟨_,_,rfl,rfl,rfl,?_⟩⟩;rw[Sz (by rw[W n F Y])];exact r λ_ _ e=>e
end
inductive kA(RL:List Sp.Rule):Nat->Rw->Rw->Prop
 |z {x:Rw}:kA RL 0 x x
 |s {n:Nat} {x y z:Rw} (h:kA RL n x y) (st:yH RL y z):kA RL (n+1) x z
def Ip(c:LG RL RW)(f:RW[0]?=some x):∀(i:Nat) y,RW[i]?=some y->kA RL i x y:=by
 intro i;induction i with
 |zero=>intro y a;rw[f]at a;cases a;exact .z
 |succ i d=>intro y a;have e:=(Si.mp a).1;have b:RW[i]?=some (RW[i]'(by lia)):=R_ (by lia);exact .s (d _ b) (c i _ y b a)
structure Pi(e:aD->Int->Prop) (PG:aD->Int->Int->Prop) (U:List Int) (b:List Sp.Rule) (d:List Sp.Arr) (a:Int) (c:List Int):Prop where
 t:Jy b d e PG U (a,c)
 no:ra b d a c->vN b d a c none->False
 yes:yR b d a c->∀g,vN b d a c (some g)->False
 go:yR b d a c->∀k y,k<=102->kA b k (a,c) y->Jy b d e PG U y/\(ra b d y.1 y.2->False)
 om:∀x m f,MaxI (Wn e PG x) m->aN (λy n=>MaxI (Wn e PG y) n) (EN b x.1 x.2) f->(f=[]->m=0)/\∀n∈f,(∀i∈f,i<=n)->m=1+n
 up:∀k y n,kA b k (a,c) y->Wn e PG y n->Wn e PG (a,c) (k+n)
structure Qg(F:CB) (c:List Int) (a signs b f h i g place:Int) (S:List Sp.Rule->List Sp.Arr->Int->List Int->Prop):Prop where
 h1:0<a/\a<=8
 h2:0<signs/\signs<=14
 h3:a*signs<=12
 hm:0<=b/\b<=12
 z:c.length<=63
 c0:F.Fc [.lst (c.map .int),.int 0]=.ok (.val (.int f) true [])
 m0:F.Fm [.int f]=.ok (.val (.int i) true [])
 c1:F.Fc [.lst (c.map .int),.int 1]=.ok (.val (.int h) true [])
 c2:F.Fc [.lst (c.map .int),.int 2]=.ok (.val (.int g) true [])
 m2:F.Fm [.int g]=.ok (.val (.int place) true [])
 c3:∃j,F.Fc [.lst (c.map .int),.int 3]=.ok (.val (.int j) true [])
 k:∀d:List Sp.Rule,(∀r∈d,Ju a signs r)->d.length<=36->∃t,Nn F.Fr a signs d t/\∀e:List Int,e.length<=5->(∀x∈e,0<=x/\x<signs)->S d (t.map (·.1)) (place%a) e
section
variable{X:Cx}{mg:Str->Option WM}{F:CB}{H0 H H':Hp}{p rl:Addr}{σ:L2.St}{ws:List V}{a0 signs a4:Int}{sc:List Int}{x0 x1 y0 x2 place:Int}{aO:List Int}{D:Ends}{S:List Sp.Rule->List Sp.Arr->Int->List Int->Prop}
def O0:TE:=bj Fv [] E0 (ah (ba g9 (aj 6) (tC (.int 2))) (ah (aj 3) aF))
def L8(X:Cx)(a:TS):TS:=aI (aT (cm (ah (ba b_ (aj 6) (aj 2)) (ah O0 aF))) (aA 7)) (Ij X a)
def L9(X:Cx)(mg:Str->Option WM)(F:CB)(a:TS):TS:=aI (aT (Eg mg F.Fm F.Fc 2) (aA 6)) (L8 X a)
def L_(X:Cx)(mg:Str->Option WM)(F:CB)(a:TS):TS:=aI (aT (bj (FE F.Fm F.Fc) [] E0 (ah (aj 0) (ah (aj 2) (ah (aj 3) (ah (aj 4) aF))))) (aA 5)) (L9 X mg F a)
theorem O3{s1 x5 x6 s x8 f:Option V}{rest:L2.St}(R:Qg F sc a0 signs a4 x0 x1 y0 x2 place S)(is:Is H Tr (.lst (sc.map .int)) v0)(hs:σ=some v0::s1::some (.int a0)::some (.int signs)::some (.int a4)::x5::x6::s::x8::f::rest)
 (k:∀H' RL t aO rl a c p l d b ws u,CJ F.Fr H H' sc v0 a0 signs (place%a0) RL t aO rl a c p l d b ws u->S RL (t.map (·.1)) (place%a0) aO->tl D (y_ v0 s1 a0 signs a4 place rl a p d rest) H'):L_ X mg F tl D σ H:=by
 subst hs;refine⟨_,rfl,_,rfl,_,rfl,_,rfl,.mk is R.h1 R.h2 R.h3 R.hm R.c0 R.m0 R.c1 λrl ws RL H0 N W g its j w=>?_⟩;obtain⟨t,P,y⟩:=R.k RL j w;have Y:IsAll H0 Tr (RL.map dS) ws:=vp its λx _ v h=>By h;have m:=Ef is N;show L9 X mg F tl D (some v0::s1::some (.int a0)::some (.int signs)::some (.int a4)::some (.ref rl)::x6::s::x8::f::rest) H0;refine vq (sd:=.lst (sc.map .int)) rfl m R.c2 R.m2 λH1 Z=>?_;show L8 X tl D (some v0::s1::some (.int a0)::some (.int signs)::some (.int a4)::some (.ref rl)::some (.int place)::s::x8::f::rest) H1;refine⟨_,rfl,_,rfl,_,_,rfl,rfl,R.h1.1,_,rfl,_,_,rfl,rfl,⟨by decide,by decide⟩,_,rfl,.mk R.h2.1 λc aO z t2 nl7 A O b7=>⟨by show 2<=_;rw[SQ];lia,λa B=>?_⟩⟩;have T:=y aO O b7;have C:=aw (o:=.tup [.int (place%a0),.ref c]) B;have E:h8 (upd z a (.tup [.int (place%a0),.ref c])) (place%a0) aO a c:=⟨ac,.inl (C _ _ A)⟩;show Ij X tl D (some v0::s1::some (.int a0)::some (.int signs)::some (.int a4)::some (.ref rl)::some (.int place)::some (.ref a)::x8::f::rest) (upd z a (.tup [.int (place%a0),.ref c]));generalize upd z a (.tup [.int (place%a0),.ref c])=H3 at C E;have G:=(Z.trans t2).trans C
 delta Ij aI aT
 dsimp only;refine Ia (σ:=some v0::s1::some (.int a0)::some (.int signs)::some (.int a4)::some (.ref rl)::some (.int place)::some (.ref a)::x8::f::rest) rfl rfl (Le (K:=X.K) rfl (.inl (G _ _ g)) (Ld Y G)) λp l u q I np nl h4=>?_;have J:=E.more I;show LO X tl D (some v0::s1::some (.int a0)::some (.int signs)::some (.int a4)::some (.ref rl)::some (.int place)::some (.ref a)::some (.ref p)::f::rest) q;refine Reads.ix (K:=X.K) (n:=0) (.va (i:=7) rfl) J.t (v:=.int (place%a0)) rfl _ (Reads.ix (K:=X.K) (n:=1) (.va (i:=7) rfl) J.t (v:=.ref c) rfl _ ⟨c,aO.map .int,rfl,.inl (.inl J.l),λb L=>⟨by show 2<=_;rw[SQ];lia,λd M=>?_⟩⟩);have t5:=aw (o:=.lst (aO.map .int)) L;have Q:=aw (o:=.tup [.int (place%a0),.ref b]) M;have U:h8 (upd (upd q b (.lst (aO.map .int))) d (.tup [.int (place%a0),.ref b])) (place%a0) aO d b:=⟨ac,.inl (Q _ _ ac)⟩;have e:=t5.trans Q;show tl D (y_ v0 s1 a0 signs a4 place rl a p d rest) (upd (upd q b (.lst (aO.map .int))) d (.tup [.int (place%a0),.ref b]));generalize upd (upd q b (.lst (aO.map .int))) d (.tup [.int (place%a0),.ref b])=H5 at e U;have r:=(G.trans I).trans e;exact k H5 RL t aO rl a c p l d b ws u ⟨N.trans r,Ef m r,r _ _ g,its.mono (IsRule.keep (.of r)),j,P,h4.more e,E.more (I.trans e),U,O⟩ T
end
def Rg:R2:=uh λi j=>.bl (decide (i<=j))
section
variable(X:Cx)(b:Str->Option WM)(F:CB)(Fw:List L3.D->Res R)(C:Addr)
def Mb(a:TE):TE:=bj (yS F.Fr) [] E0 (ah (aj 2) (ah (aj 3) (ah (aj 5) (ah a aF))))
def Mc:TE:=ba F9 (vA X.K 12) (tC (.int 1))
def O4:TS:=b5 (ba Rg (ba cf (Mc X) (Mb F (ba (mF X.K) (aj 12) M7))) (aj 11))
def Md:TS:=aI (dQ (JI (ul (tB (bj (nu b 1 Fw) [] E0 (ah (aj 11) aF)))) (bO (ba Pu (aj 11) (Mb F (aj 7))))) Og ck) (O4 X F)
def O5:TS:=dQ (ul (tB (bj (Fq F.Fr) [] E0 (ah (aj 2) (ah (aj 3) (ah (aj 5) (ah (ba (mF X.K) (aj 12) (aj 14)) aF))))))) Og ck
def Me:TS:=aI (cU (bZ X.K (dR (ah (tC (.int 0)) (ah (aj 13) (ah (Mc X) aF))))) (aA 14) (O5 X F)) (Md X b F Fw)
def Mg:TS:=aI (aT (ba b_ (bj (nu b 2 F.Fc) [] E0 (ah (aj 0) (ah (tC (.int 3)) aF))) (vA X.K 12)) (aA 13)) (Me X b F Fw)
def O6:TS:=aI (aT (bj FC [] E0 (ah (aj 5) (ah (aj 7) (ah (LJ X.K) aF)))) (aA 12)) (Mg X b F Fw)
def O7:TS:=aI (dQ (JI (tB (aj 10)) (tB (zi (LQ F)))) (b5 (rQ (aj 10) (zi (LQ F)))) ck) (O6 X b F Fw)
def Iq:TS:=aI (dQ LP Og ck) (O7 X b F Fw)
def Mh:TS:=aI (OM X C (Cy (kh F.Fr) C) (aT (tC (.bl true)) (aA 10))) (Iq X b F Fw)
def Mi:TS:=aI (aT (tC (.bl false)) (aA 10)) (aI (aT M7 (aA 11)) (Mh X b F Fw C))
end
section
variable{X:Cx}{mg:Str->Option WM}{F:CB}{Fw:List L3.D->Res R}{C:Addr}{H0 H H':Hp}{p rl p7 l7 l p9 l9:Addr}{vs ws wh:List V}{Q:VK}{E:XK}{n signs u place a0 x3:Int}{sc aO:List Int}{v0:V}{s1 x10 x11 a5 a4 c:Option V}{RL:List Sp.Rule}{t:Pz.TD}{D:Ends}{AM:aD->Int->Prop}{PG:aD->Int->Int->Prop}{U:List Int}
def Mj(hF:Es Fw)(hx:excIn X.K C sj "ValueError.__new__"=true) (hm:(oG X.K C).contains (.ref C)=true) (a:CJ F.Fr H0 H sc v0 n signs a0 RL t aO rl p7 l7 p l p9 l9 ws wh) (T:Pi AM PG U RL (t.map (·.1)) a0 aO) (zs:sc.length<=63) (c3:F.Fc [.lst (sc.map .int),.int 3]=.ok (.val (.int x3) true [])) (k:∀H',Same H H'->D.rt (.bl true) H'):Mi X mg F Fw C D (y_ v0 s1 n signs u place rl p7 p p9 [x10,x11,a5,a4,c]) H:=by
 refine⟨1,rfl,?_⟩;show Mh X mg F Fw C D (y_ v0 s1 n signs u place rl p7 p p9 [some (.bl false),some (.int (-1)),a5,a4,c]) H;have d:=T.t;refine⟨_,rfl,_,rfl,.mk (a.sa d.u) d.am d.rg d.ti d.lg (λm H2 s2 B mm=>?_) λno H2 s2=>⟨C,rfl,hx,hm,?_⟩⟩
 .show Iq X mg F Fw D (y_ v0 s1 n signs u place rl p7 p p9 [some (.bl false),some (.int m),a5,a4,c]) H2;refine Ga (a.more s2) λH3 s3=>fq ?_;have G:=s2.trans s3;refine⟨_,rfl,_,rfl,fq ⟨_,rfl,_,rfl,.mk ((a.more G).sa d.u) d.am d.rg λo v H4 s4 io ro=>?_⟩⟩;cases o with
  |some zs=>exact(T.yes B zs ro).elim
  |none=>
   obtain rfl:v=.cj:=io;refine⟨_,rfl,fq ?_⟩;have I:=G.trans s4;refine⟨_,rfl,_,rfl,Ik (a.more I).i zs λlc cs H5 s5 hlc zc=>?_⟩;have J:=I.trans s5;have A:=a.more J;refine .mk (.inl A.rl) A.it A.s7 (.inl hlc) A.pr.n A.z (by lia) (λr L=>(A.rr r L).p) λr rv RW H6 s6 nr L ar ch h0 zr=>?_;show Mg X mg F Fw D (y_ v0 s1 n signs u place rl p7 p p9 [some (.bl false),some (.int m),some (.ref r),a4,c]) H6;have M:=J.trans s6;have rn:=Ip ch h0;have ln:=ar.len;have N:0<RW.length:=(Si.mp h0).1;refine⟨_,rfl,wQ (ds:=[.lst (sc.map .int),.int 3]) rfl ⟨_,_,rfl,(a.more M).i,_,_,rfl,rfl,rfl⟩ c3 λv H7 s7 e=>?_⟩;obtain rfl:v=.int x3:=e;have O:=M.trans s7;have f:=s7 _ _ L;refine Reads.rA (.va rfl) (.inl f) _ ⟨_,_,rfl,rfl,(show(0:Int)<((rv.length:Nat):Int) by lia),?_⟩;show Me X mg F Fw D (y_ v0 s1 n signs u place rl p7 p p9 [some (.bl false),some (.int m),some (.ref r),some (.int (x3%(rv.length:Nat))),c]) H7;have b:=em (a:=x3) (show(0:Int)<((rv.length:Nat):Int) by lia);generalize x3%((rv.length:Nat):Int)=at' at b;refine cO (K:=X.K) ⟨_,rfl,Reads.op (z:=.int ((rv.length:Nat)-1)) (.rA (.va rfl) (.inl f)) .k (λ_ q=>⟨_,_,rfl,rfl,q⟩) _ ⟨TY (hG (by show 3<15000000;decide)),λP hl3=>?_⟩⟩;have s8:=aw (o:=.lst [.int 0,.int at',.int ((rv.length:Nat)-1)]) hl3;have h3:upd H7 P (.lst [.int 0,.int at',.int ((rv.length:Nat)-1)]) P=some (.lst [.int 0,.int at',.int ((rv.length:Nat)-1)]):=ac;generalize upd H7 P (.lst [.int 0,.int at',.int ((rv.length:Nat)-1)])=H8 at s8 h3;have s28:=O.trans s8;have hd:∀{H'},Same H H'->JP F.Fr H' n signs RL t rl ws:=λs=>⟨(a.more s).rl,(a.more s).it,a.pr,λr L=>(a.rr r L).p⟩;have R:=ar.mono λx v h=>h.more s7;refine⟨P,rfl,⟨_,SqL.of h3⟩,?_⟩;refine cc (K:=X.K) (a:=P) (xs:=[.int 0,.int at',.int ((rv.length:Nat)-1)]) (λi g H'=>Same H8 H'/\∃c,g=y_ v0 s1 n signs u place rl p7 p p9 [some (.bl false),some (.int m),some (.ref r),some (.int at'),c]) ⟨λ_ _ e=>e,c,rfl⟩ (λi g H' _ ⟨s,_⟩=>SqL.of (s _ _ h3)) (λi v g H' hi ⟨s,c,es⟩=>?_) λg H' ⟨s,c,es⟩=>?_
   .subst es;obtain⟨j,hj,rfl⟩ : ∃j:Nat,j<rv.length/\v=.int (j:Nat):=by
     have hv:=SB hi;simp only[Sq,Sx,Wo]at hv;rcases hv with rfl|rfl|rfl
     .exact⟨0,by lia,rfl⟩
     .exact⟨at'.toNat,by lia,by rw[U4 b.1]⟩
     .exact⟨rv.length-1,by lia,by rw[show(((rv.length-1:Nat)):Int)=((rv.length:Nat):Int)-1 by lia]⟩
    have ev:rv[j]?=some rv[j]:=R_ hj;obtain⟨y,ey,py,ly,e1,sy⟩:=R.get ev;rw[e1]at ev;have ss:=s8.trans s;have rj:=rn j y ey;obtain⟨T1,n1⟩:=T.go B j y (by lia) rj;refine⟨_,rfl,_,rfl,_,rfl,Reads.Ni (.va rfl) (.va rfl) (ss _ _ f) (cD ev) _ (.mk (hd (O.trans ss)) (sy.more ss) T1 n1 (λz hz=>T.go B (j+1) z (by lia) (.s rj hz)) (T.om y) λH9 s9=>⟨_,rfl,fq ⟨s.trans s9,_,rfl⟩⟩)⟩
   .subst es;have s2':=s28.trans s;show Md X mg F Fw D (y_ v0 s1 n signs u place rl p7 p p9 [some (.bl false),some (.int m),some (.ref r),some (.int at'),c]) H';refine Bw (ds:=[.int m]) (.c (.va rfl) .ni) rfl ⟨_,_,rfl,rfl,rfl⟩ (hF _) λH9 s9=>⟨_,rfl,fq ?_⟩;have w:=s2'.trans s9;obtain⟨Ta,na⟩:=T.go B 0 (a0,aO) (by lia) .z;refine⟨_,rfl,_,rfl,_,rfl,_,rfl,_,rfl,.mk (x:=(a0,aO)) (hd w) (a.more w).s7 Ta na λm2 Ha sa S=>⟨rfl,_,rfl,?_⟩⟩;have e:m=m2:=Int.le_antisymm (S.2 _ mm.1) (mm.2 _ S.1);rw[e,Sz rfl,<- e];refine fq ?_;have Y:=w.trans sa;have sr:=((s8.trans s).trans s9).trans sa;obtain⟨RW',y,rfl⟩ : ∃l y,RW=l++[y]:=⟨RW.dropLast,RW.getLast (λz=>by rw[z]at N;cases N),(UB _).symm⟩;obtain⟨Z,vy,rfl,_,py,ly,rfl,sy⟩:=R.rq;have ry:=rn RW'.length y (by simp);simp only[Sm,SY]at zr ln;obtain⟨Tb,nb⟩:=T.go B _ y (by lia) ry;refine Reads.op (z:=.int (((Z++[V.ref py]).length:Nat)-1)) (.rA (.va rfl) (.inl (sr _ _ f))) .k (λ_ q=>⟨_,_,rfl,rfl,q⟩) _ ⟨_,rfl,_,rfl,_,rfl,Reads.Ni (.va rfl) (λQ q=>⟨1,rfl,q⟩) (sr _ _ f) (tR _ _) _ (.mk (hd Y) (sy.more sr) Tb nb λm3 Hb sb mm3=>⟨_,_,rfl,rfl,_,rfl,_,_,rfl,rfl,?_⟩)⟩;have up:=mm.2 _ (T.up _ y m3 ry mm3.1);have le:((((Z++[V.ref py]).length:Nat):Int)-1+m3)<=m:=by rw[Sm,SY];lia
    show D.rt (.bl (decide _)) Hb;rw[Sz le];exact k Hb (Y.trans sb)
 .show Iq X mg F Fw D (y_ v0 s1 n signs u place rl p7 p p9 [some (.bl true),some (.int (-1)),a5,a4,c]) H2;refine Ga (a.more s2) λH3 s3=>fq ?_;refine⟨_,rfl,_,rfl,fK (fK ⟨_,rfl,_,rfl,fK ⟨_,rfl,_,rfl,.mk ((a.more (s2.trans s3)).sa d.u) d.am d.rg λo v H4 s4 io ro=>?_⟩⟩)⟩;cases o with
  |none=>exact(T.no no ro).elim
  |some zs=>obtain⟨lf,fv,rfl,_⟩:=io;exact k H4 ((s2.trans s3).trans s4)
def BU(F:CB)(g:List L3.D):Prop:=∃sc d e a b place,g=[.lst (sc.map .int)]/\Qg F sc (1+a%2) (2+a/2%4) (a/64%8) d e a b place (λRL f a0 aO=>∃AM PG U,Pi AM PG U RL f a0 aO)
open Classical in
noncomputable def ET(F:CB)(a:List L3.D):Res R:=if BU F a then .ok (.val (.bl true) true [])else .stuck
def EU(h:BU F ds):ET F ds=.ok (.val (.bl true) true []):=Sg h
def O8(X:Cx)(mg:Str->Option WM)(F:CB)(Fw:List L3.D->Res R)(C:Addr):TS:=aI (aT (Eg mg F.Fm F.Fc 0) (aA 1)) (aI (aT (ba cf (tC (.int 1)) (OK (aj 1) 2)) (aA 2)) (aI (aT (ba cf (tC (.int 2)) (OK (PX 2) 4)) (aA 3)) (aI (aT (OK (PX 64) 8) (aA 4)) (L_ X mg F (Mi X mg F Fw C)))))
theorem BV{N:List Str}(g:N.length=15)(i:Es Fw)(j:excIn X.K C sj "ValueError.__new__"=true) (L:(oG X.K C).contains (.ref C)=true) (h:nu mg 1 (ET F) vs H Q E):O8 X mg F Fw C (eQ Q) (aZ N vs) H:=by
 obtain⟨J,v,A,w,b⟩:=h;unfold ET at b;by_cases d:BU F v
 case neg=>rw[Sj d]at b;exact b.elim
 rw[Sg d]at b;obtain⟨sc,B,G,o,q,place,rfl,R⟩:=d;obtain⟨v0,r,rfl,M,rfl⟩:=w;have M:=Ef M λ_ _ e=>e;have x:L2.aZ N [v0]=some v0::List.replicate 14 none:=by unfold L2.aZ;rw[g];rfl
 rw[x];obtain⟨x3,y⟩:=R.c3;refine vq (sd:=.lst (sc.map .int)) rfl M R.c0 R.m0 λI f=>?_;exact dU (.ad .k (.mod (.va rfl) .k (by decide))) (dU (.ad .k (.mod (.dv (.va rfl) .k ⟨by decide,by decide⟩) .k (by decide))) (dU (.mod (.dv (.va rfl) .k ⟨by decide,by decide⟩) .k (by decide)) (O3 R (Ef M f) rfl λH' RL t aO rl p7 l7 p l p9 l9 ws wh a ⟨AM,PG,U,T⟩=>Mj i j L a T R.z y λm s=>b _ _ (f.trans (a.s.trans s)) rfl)))
end
section
variable{X:Cx}{k j:Nat}{x:Str}{st:Stmt}{C:List Str}{B:Sp}{p u:Pos}{a b c e f:Expr}{v:List Expr}{t:TA}{ta y J:TE}{N P:List Str}{I:Scope}{A:WN}{r:R2}{T:String}{id:String}{G:List V->Hp->VK->Prop}{D:CmpOp}{z:Pos}
theorem zC(d:Df X.K X.mg x st C)(F:cB X.prog X.w X.K X.mg X.base rE k d.f d.fd C B)(l:cR j X.A)(q:L2.PA X (e::v) t)(m:autoParam (k<=j) aa)(n:autoParam (Gl X x) av)(g:autoParam (dB x) aa)(o:autoParam (sE X e v) av)(i:autoParam (bT X u v) av):PE X (.Call (.Name x p) (e::v) [] u) (bj B [] E0 t):=lP F (l.mono m) n d.h.gl d.h.fu.kp d.h.bi .nil fj q g o i
theorem zS(i:Nat)(S:aK X.N P I)(d:PE X e ta)(g:autoParam (X.N[i]?=some x) av)(h:GC X.env.scope x:=by first|exact .inl rfl|exact .inr rfl)(m:autoParam (swapsWith e (some (.Name x p)) u.line X.env=pure false) av)(l:autoParam (X.fn x=true\/X.env.scope.names.lookup x=some .local) ae):PS X (.Assign [.Name x p] e u) (aT ta (aA i)):=GJ S.nd g h d m l
theorem zG(i:Nat)(S:aK X.N P I)(d:autoParam (X.N[i]?=some x) av)(g:GC X.env.scope x:=by first|exact .inl rfl|exact .inr rfl)(h:autoParam (X.fn x=true\/X.env.scope.names.lookup x=some .local) ae):PG X (.Name x u) (aA i):=bQ S.nd d g h
def zI{n:Int}{q}(d:PE X a ta):PE X (.Subscript a (.Constant (.int n) q p) u) (ba (lD X.K) ta (tC (.int n))):=jS GT d aG (λ_ _=>rfl)
theorem zT(h:bJ X (.type T) G) (o:X.mg x=none) (q:L2.PA X (e::v) t) (i:autoParam (Gl X x) av) (l:bootBuiltins x=some (.type T):=by decide +kernel) (m:autoParam (x≠"__name__") aa) (d:autoParam (dB x) aa) (n:autoParam (sE X e v) av) (g:autoParam (bT X u v) av):PE X (.Call (.Name x p) (e::v) [] u) (eR G t):=xC h i o l q m d n g
theorem zB(h:bJ X (.builtin id) G) (o:X.mg x=none) (q:L2.PA X (e::v) t) (i:autoParam (Gl X x) av) (l:bootBuiltins x=some (.builtin id):=by decide +kernel) (m:autoParam (x≠"__name__") aa) (d:autoParam (dB x) aa) (n:autoParam (sE X e v) av) (g:autoParam (bT X u v) av):PE X (.Call (.Name x p) (e::v) [] u) (eR G t):=jR h i o l q m d n g
def zL(h:X.mg "len"=none) (i:PE X e ta) (g:autoParam (Gl X "len") av) (d:autoParam (sE X e []) av):PE X (.Call (.Name "len" p) [e] [] u) (eR (gq X.K) (ah ta aF)):=jR yq g h PySem.boot_len (au i bH d) (by decide) (by decide) d rfl
def zD(d:cR j X.A)(g:PE X a ta)(h:PE X b y)(i:autoParam (GW b) WT._auto_1):PE X (.Subscript a b u) (ip ta y):=C7 (jn d) g h i
def zE(d:cR j X.A)(h:PE X a ta)(i:PE X b y)(g:PE X c J)(m:M2 X a "get" z b c u:=by exact⟨rfl,rfl,rfl,rfl⟩):PE X (.Call (.Attribute a "get" z) [b,c] [] u) (cu ta y J):=zZ (jn d) h i g m
theorem zP(d:lC X (compareOp D) r)(g:PE X a ta)(h:PE X b y)(i:behindInMarks D b=false:=by exact zt _):PT X (.Compare a [D] [b] u) (bO (ba r ta y)):=jP d g h i
theorem zQ(d:lC X (compareOp D) r)(g:PE X a ta)(h:PE X b y)(i:behindInMarks D b=false:=by exact zt _):PE X (.Compare a [D] [b] u) (ba r ta y):=CU d g h i
theorem zF{P:WL}{w:World}{K:WK}{o:Str->Option WM}{g:Heap}{d:Str}{f:Addr}{q:FuncData}(F:CA K x d st f q)(S:aK N C (aC st))(h:∀(m:WM)(A:WN)(i:List Env)(s:WJ)(H:Hp)(n:List V)(Q:VK)(E:XK),cR k (A.deeper (envOfC d (aC st) s.z f m))->B n H Q E->∃t,PSs (rV rE P w K o g N d (aC st) f m A i s H E).JQ (cE st) t/\t (eQ Q) (aZ N n) H)(l:∀n H Q E,B n H Q E->n.length=C.length:=by intro _ _ _ _ h;cases h;rfl):cB P w K o g rE (k+1) f q C B:=F.ok S l h
abbrev zO(P:WL)(w:World)(g:Heap){K:WK}{h:Str->Option WM}(k:Nat)(d:Df K h x st C)(B:Sp):Prop:=cB P w K h g rE k d.f d.fd C B
noncomputable def bI{X:Cx}:=@pv X 0
noncomputable def cw{X:Cx}:=@pv X 1
noncomputable def dh{X:Cx}:=@pv X 2
noncomputable def dP{X:Cx}:=@pv X 3
noncomputable def hJ{X:Cx}:=@pv X 4
noncomputable def fC{X:Cx}:=@pv X 5
noncomputable def lK{X:Cx}:=@pv X 6
noncomputable def oE{X:Cx}:=@pv X 7
noncomputable def wY{X:Cx}:=@pv X 8
def a_(d:PE X e ta)(h:autoParam (starEach [e] X.env=(false,eval e X.env)::starEach [] X.env) av):L2.PA X [e] (ah ta aF):=au d bH h
end
end L4
namespace L3
open L2
section
variable{g:En}{d:D}{h:List Nat}
def cM{b:Type}(a:b)(l:List b):vZ (a::l) 0=some a:=by unfold vZ FM;rw[Sg (by lia),Sg (by simp)];rfl
def di{e:Type}(a b c:e)(l:List e):vZ (a::b::c::l) 2=some c:=by unfold vZ FM;rw[Sg (by lia),Sg (by simp;lia)];rfl
def Ml(n:Nat)(e:List Nat)(b:D->Bool->En->Option En)(a:En->Res Bool)(c:En->Res R)(g:En)(s:Src):Res R:=if s.xs.length<=lim then
 (wx (λd=>b d s.fr (Ke g n e)) a c s.xs).Qc.bind λrs=>.ok (PB (rs.map R.d) (Kb rs) (s.al++e.filter (FW g)))else .stuck
theorem Ir(n:Nat)(f:List Nat)(b:En->Res Src)(c:D->Bool->En->Option En)(a:En->Res Bool)(e:En->Res R)(g:En) :
 Kf n f b c a e g=(b g).bind (Ml n f c a e g):=(rfl)
end
def O9{c b:Type}(a:c)(k:c->Res b):(Res.ok a).bind k=k a:=(rfl)
end L3
local macro_rules|`(tactic| simp_arith[$as,*] $[$l:location]?)=>do
 let ls←("L3.NL L3.AT decide_true decide_false List.map_cons List.map_nil List.length_cons List.length_nil List.replicate List.cons_append List.nil_append List.append_nil Nat.reduceAdd Nat.max_self Nat.zero_max Nat.max_zero Nat.zero_add Nat.reduceSub List.getElem?_cons_zero List.getElem?_cons_succ Int.reduceLT Int.reduceLE Int.reduceNeg List.set_cons_zero List.set_cons_succ Nat.reduceLT Nat.reduceLeDiff L3.cM L3.di Int.reduceBEq Bool.not_not Nat.reduceEqDiff L3.Ir Bool.and_true Bool.true_and Bool.and_false Bool.false_and Bool.and_self Bool.not_true Bool.not_false".splitOn " ").toArray.mapM λs=>`(Lean.Parser.Tactic.simpLemma| $(Lean.mkIdent s.toName):ident)
 `(tactic| simp only[$[$ls:simpLemma],*,$as,*] $[$l]?)
local macro_rules|`(tactic| simp_arith $[$l:location]?)=>`(tactic| simp_arith[L3.O9] $[$l]?)
namespace W
open L2 L3 L4
def top(i:Nat):Stmt:=PySem.Challenge.pw_callwalk_k46_longest.main.body.getD i (.Pass ⟨0,0,0,0⟩)
abbrev iQ:Stmt:=top 37
noncomputable abbrev n0a:List Str:=["_law_number_here","_law_rooms","_law_signs","_law_falls","_law_room","_law_sign","_law_to","_law_size","_law_below"]
abbrev iS:List Str:=n0a.take 4
def BW:aK n0a iS (aC iQ):=bA
abbrev gH:Stmt:=top 36
noncomputable abbrev Rh:List Str:=["_law_cell"]
noncomputable abbrev gI:List Str:=["_law_cell"]
def Rj:aK Rh gI (aC gH):=bA
def eY:List D->Res R:=L4.OI
abbrev fD:Stmt:=top 34
noncomputable abbrev n0c:List Str:=["_law_script","_law_k"]
abbrev fE:List Str:=n0c.take 2
def Rk:aK n0c fE (aC fD):=bA
def dF:List D->Res R:=L4.OH
abbrev gJ:Stmt:=top 38
noncomputable abbrev n0d:List Str:=["_law_script","_law_rooms","_law_signs","_law_many","_law_kind","_law_number_here","_law_rules_here","_law_heads","_law_k","_law_cell","_law_free"]
abbrev gK:List Str:=n0d.take 4
def EV:aK n0d gK (aC gJ):=bA
abbrev gL:Stmt:=top 39
noncomputable abbrev n0e:List Str:=["_law_cell","_law_signs","_law_number_here","_law_stack_here","_law_k"]
abbrev gM:List Str:=n0e.take 2
def Mm:aK n0e gM (aC gL):=bA
abbrev gN:Stmt:=top 8
noncomputable abbrev n0f:List Str:=["house","machine"]
abbrev jH:List Str:=n0f.take 2
def Rl:aK n0f jH (aC gN):=bA
abbrev cz:Stmt:=top 9
noncomputable abbrev Rm:List Str:=["house","machine"]
noncomputable abbrev cA:List Str:=["house","machine"]
def Rn:aK Rm cA (aC cz):=bA
def bS:List D->Res R:=L4.OG
abbrev dM:Stmt:=top 15
noncomputable abbrev Ro:List Str:=["house","rules","number","rule"]
noncomputable abbrev dN:List Str:=["house"]
def M8:aK Ro dN (aC dM):=bA
abbrev nU:Stmt:=top 17
noncomputable abbrev n0i:List Str:=["house","machine","pricing","arrow","number","rule"]
abbrev nV:List Str:=n0i.take 2
def Mn:aK n0i nV (aC nU):=bA
abbrev Iu:Stmt:=eS (top 13) 0
def Rp:aK ["self"] ["self"] (aC Iu):=bA
abbrev Iv:Stmt:=eS (top 13) 1
def Rq:aK ["self","price","thing"] ["self","price","thing"] (aC Iv):=bA
abbrev Iw:Stmt:=eS (top 13) 2
def Rr:aK ["self"] ["self"] (aC Iw):=bA
abbrev EY:Stmt:=eS (top 13) 3
def M9:aK ["self","pile","price","thing"] ["self"] (aC EY):=bA
abbrev Iy:Stmt:=eS (top 16) 0
def Rt:aK ["self","house"] ["self","house"] (aC Iy):=bA
abbrev Iz:Stmt:=eS (top 16) 1
def P0:aK ["self","arrow","price","number","mid","known"] ["self","arrow","price","number","mid"] (aC Iz):=bA
abbrev IA:Stmt:=eS (top 16) 2
def IB:aK ["self","arrow","price","start","number","rule","first"] ["self","arrow","price"] (aC IA):=bA
abbrev IC:Stmt:=eS (top 16) 3
def M_:aK ["self","number","rule","mid","price","start","state","second"] ["self","number","rule","mid","price"] (aC IC):=bA
abbrev ID:Stmt:=eS (top 16) 4
def O_:aK ["self","price","arrow"] ["self"] (aC ID):=bA
def cK:List D->Res R:=L4.KD bS
abbrev lY:Stmt:=top 19
noncomputable abbrev P3:List Str:=["house","told"]
noncomputable abbrev qT:List Str:=["house"]
def P7:aK P3 qT (aC lY):=bA
abbrev fF:Stmt:=top 21
noncomputable abbrev Ru:List Str:=["house","behind","room","sign","other"]
noncomputable abbrev fG:List Str:=["house"]
def Mo:aK Ru fG (aC fF):=bA
abbrev kS:Stmt:=top 5
noncomputable abbrev Rv:List Str:=["rule"]
noncomputable abbrev kT:List Str:=["rule"]
def Rx:aK Rv kT (aC kS):=bA
abbrev gO:Stmt:=top 22
noncomputable abbrev n0m:List Str:=["rule","behind","put","first"]
abbrev jI:List Str:=n0m.take 2
def Pa:aK n0m jI (aC gO):=bA
abbrev cG:Stmt:=top 23
noncomputable abbrev P8:List Str:=["house","behind","leading","rule"]
noncomputable abbrev dG:List Str:=["house","behind"]
def Pb:aK P8 dG (aC cG):=bA
abbrev fU:Stmt:=top 24
noncomputable abbrev n0o:List Str:=["behind","standing","heads","rooms","sign","tops","gone","top"]
abbrev iT:List Str:=n0o.take 2
def s0x:aK n0o iT (aC fU):=bA
abbrev fX:Stmt:=top 25
noncomputable abbrev n0p:List Str:=["house","standing","behind","leading","among","due","head"]
abbrev fY:List Str:=n0p.take 2
def JM:aK n0p fY (aC fX):=bA
abbrev j9:Stmt:=top 6
noncomputable abbrev P9:List Str:=["things"]
noncomputable abbrev nW:List Str:=["things"]
def Ry:aK P9 nW (aC j9):=bA
abbrev bP:Stmt:=top 26
noncomputable abbrev Pc:List Str:=["among","left","before","head","ahead","other","ended","due","last"]
noncomputable abbrev dc:List Str:=["among"]
def s0A:aK Pc dc (aC bP):=bA
abbrev nX:Stmt:=top 27
noncomputable abbrev n0s:List Str:=["house","standing","among","ended","left","walk","head","heads"]
abbrev vC:List Str:=n0s.take 2
def s0B:aK n0s vC (aC nX):=bA
abbrev d7:Stmt:=top 11
noncomputable abbrev Rz:List Str:=["house","rules","rule"]
noncomputable abbrev d8:List Str:=["house"]
def Pd:aK Rz d8 (aC d7):=bA
abbrev jJ:Stmt:=top 29
noncomputable abbrev RB:List Str:=["among","ended"]
noncomputable abbrev gR:List Str:=["among"]
def P_:aK RB gR (aC jJ):=bA
abbrev nY:Stmt:=top 30
noncomputable abbrev n0v:List Str:=["known","room","signs","done","most","rooms","sign","behind","here","count","ahead","there","more"]
abbrev nZ:List Str:=n0v.take 4
def za:aK n0v nZ (aC nY):=bA
abbrev gS:Stmt:=top 31
noncomputable abbrev RC:List Str:=["known","rules","most","gone","rule","there","room","count"]
noncomputable abbrev gT:List Str:=["known","rules"]
def Ge:aK RC gT (aC gS):=bA
abbrev kU:Stmt:=top 32
noncomputable abbrev n0x:List Str:=["house","standing","rules","known","head"]
abbrev je:List Str:=n0x.take 2
def Na:aK n0x je (aC kU):=bA
abbrev dW:Stmt:=top 40
noncomputable abbrev n0y:List Str:=["_law_rules_here","_law_standing","_law_room","_law_stack_here","_law_fits"]
abbrev iU:List Str:=n0y.take 2
def s0H:aK n0y iU (aC dW):=bA
abbrev jK:Stmt:=top 41
noncomputable abbrev n0z:List Str:=["_law_rules_here","_law_standing","_law_cells","_law_row","_law_cell","_law_ahead"]
abbrev jL:List Str:=n0z.take 3
def Nb:aK n0z jL (aC jK):=bA
abbrev gU:Stmt:=top 35
noncomputable abbrev RD:List Str:=["_law_found"]
noncomputable abbrev gV:List Str:=["_law_found"]
def RE:aK RD gV (aC gU):=bA
def j_:List D->Res R:=L4.OJ
abbrev fZ:Stmt:=top 42
noncomputable abbrev n0B:List Str:=["_law_rooms","_law_signs","_law_rules_here","_law_standing","_law_found"]
abbrev f7:List Str:=n0B.take 4
def Qa:aK n0B f7 (aC fZ):=bA
abbrev cX:Stmt:=top 43
noncomputable abbrev n0C:List Str:=["_law_rooms","_law_signs","_law_rules_here","_law_standing","_law_found","_law_ahead"]
abbrev d9:List Str:=n0C.take 4
def s0L:aK n0C d9 (aC cX):=bA
abbrev BX:Stmt:=top 44
noncomputable abbrev n0D:List Str:=["_law_script","_law_size","_law_rooms","_law_signs","_law_many","_law_rules_here","_law_place","_law_start","_law_house","_law_given","_law_refused","_law_found","_law_row","_law_at","_law_k"]
abbrev wZ:List Str:=n0D.take 1
def s0M:aK n0D wZ (aC BX):=bA
def Mp:L4.CB:=⟨cK,eY,dF⟩
def w6:List D->Res R:=L4.ET Mp
set_option genInjectivity false in
structure Tx(K:WK) (a:Str->Option WM) where
 Gm:Df K a "_law_rule" iQ iS
 FG:Df K a "_law_mixed" gH gI
 Cm:Df K a "_law_cell_at" fD fE
 Jh:Df K a "_law_rules" gJ gK
 IY:Df K a "_law_stack" gL gM
 Jz:Df K a "is_plain" gN jH
 Fz:Df K a "refuse_unless_plain" cz cA
 Gs:Df K a "rules_by_start" dM dN
 Jv:Df K a "prices" nU nV
 Ja:Df K a "pairs" lY qT
 Jw:Df K a "rooms_behind" fF fG
 Gq:Df K a "head_of" kS kT
 Jm:Df K a "heads_by" gO jI
 Jc:Df K a "head_steps_with" cG dG
 Jq:Df K a "own_heads" fU iT
 Gi:Df K a "steps_among" fX fY
 Jn:Df K a "marked" j9 nW
 Gw:Df K a "coming_to_an_end" bP dc
 Gg:Df K a "ring" nX vC
 Jp:Df K a "rules_by_head" d7 d8
 CN:Df K a "in_order" jJ gR
 Gk:Df K a "walked" nY nZ
 Jk:Df K a "longest_by" gS gT
 yX:Df K a "longest" kU je
 Gn:Df K a "_law_next" dW iU
 Jo:Df K a "_law_run" jK jL
 Gh:Df K a "_law_whole" gU gV
 CL:Df K a "_law_number" fZ f7
 JG:Df K a "_law_one_more" cX d9
 CM:Df K a "law" BX wZ
 Je:a "all"=none
 Fk:a "bool"=none
 l4:a "dict"=none
 kq:a "enumerate"=none
 Jg:a "int"=none
 jr:a "isinstance"=none
 cL:a "len"=none
 fV:a "list"=none
 oB:a "max"=none
 vJ:a "min"=none
 t7:a "range"=none
 Ck:a "set"=none
 pU:a "sorted"=none
 bW:Addr
 kZ:XC K a "Endless" bW
 gs:(oG K bW).contains (.ref bW)=true
 CQ:Addr
 kQ:rC K CQ
 gQ:a "Queue"=some (.ref CQ)
 CP:Addr
 kP:jg K CP
 gP:a "Pricing"=some (.ref CP)
 Jb:Mf K CQ "__init__" "Queue.__init__" Iu ["self"]
 Jr:Mk K CQ Jb.f
 Fo:Mf K CQ "add" "Queue.add" Iv ["self","price","thing"]
 JF:Mf K CQ "is_empty" "Queue.is_empty" Iw ["self"]
 Jd:Mf K CQ "take_lowest" "Queue.take_lowest" EY ["self"]
 JC:Mf K CP "__init__" "Pricing.__init__" Iy ["self","house"]
 JE:Mk K CP JC.f
 vH:Mf K CP "offer" "Pricing.offer" Iz ["self","arrow","price","number","mid"]
 Jx:Mf K CP "settle" "Pricing.settle" IA ["self","arrow","price"]
 Jl:Mf K CP "settle_first" "Pricing.settle_first" IC ["self","number","rule","mid","price"]
 I0:Mf K CP "settle_all" "Pricing.settle_all" ID ["self"]
section
variable{P:WL}{w:World}{K:WK}{k:Str->Option WM}{j:Heap}(t:Tx K k)
def f9:zO P w j 1 t.FG (nu k 1 eY):=t.FG.h.fu.ok Rj (λ_ _ _ _ h=>h.1) λ_ _ _ _ _ _ _ E a h=>⟨_,aB (aW (aP bD (aP gw (aP bV (aP bD bI aG) aG) aG) aG)),ED h⟩
def cq:zO P w j 1 t.Cm (nu k 2 dF):=t.Cm.h.fu.ok Rk (λ_ _ _ _ h=>h.1) λ_ _ _ _ _ _ _ E a h=>⟨_,ao (cC (zP o5 cw (zL t.cL bI)) (aB (aW (jS fM bI cw (λ_ _=>rfl)))) bw) (aB (aW aG)),EC h⟩
def kc:zO P w j 1 t.Gm FI:=
 zF t.Gm.h.fu BW λ_ _ _ _ _ _ _ E a h=>
  ⟨_,(ao (zS 4 BW (aP bD bI cw))
      (ao (zS 0 BW (aP cV bI cw))
      (ao (zS 5 BW (aP bD bI dh))
      (ao (zS 0 BW (aP cV bI dh))
      (ao (zS 6 BW (aP bD bI cw))
      (ao (zS 0 BW (aP cV bI cw))
      (ao (zS 7 BW (aP bD bI aG))
      (ao (zS 0 BW (aP cV bI aG))
      (ao (zS 8 BW dh)
      (ao (cC (jQ dP (λ_=>rfl)) (aB (zS 8 BW fC)) bw)
      (ao (cC (zP eh wY aG) (aB (aW (bb (au hJ (au fC (au lK (a_ (bb bH)))))))) bw)
      (aB (aW (bb (au hJ (au fC (au lK (a_ (ie Et (bb (au (aP bD bI wY) (a_ (aP bD (aP cV bI wY) wY)))) p8 (gx oE)))))))))))))))))))),Eu ⟨by decide,by decide⟩ h⟩
def oS:zO P w j 2 t.Jh (FE eY dF):=
 zF t.Jh.h.fu EV λ_ _ _ _ _ _ _ E a h=>
  ⟨_,(ao (zS 4 EV (aP bD (aP cV (zC t.FG (f9 t) a (a_ (zC t.Cm (cq t) a (au bI (a_ aG))))) aG) aG))
    (ao (zS 5 EV (aP bV (aP bD (zC t.Cm (cq t) a (au bI (a_ aG))) aG) aG))
    (ao (zS 6 EV (bE bH))
    (ao (zS 7 EV (aP gw cw dh))
    (ao (bC SL rfl (oZ (by rfl) t.t7 (a_ (aP gw aG oE))) (zG 8 EV) (ao (zS 5 EV (aP bD (aP bV (aP bV (aP gw fC fC) (aP gw aG fC)) wY) aG))
    (aB (cC (PW.pt (zj (zP o5 (aP bD fC aG) aG) (vR (PW.pt (rP (zP o5 wY oE) (mq (zP FJ (aP bD wY oE) cw))))))) (aB (bh (cn SF Tc Td bN lK (a_ (zC t.Gm (kc t) a (au (aP bV (aP gw (aP cV fC aG) oE) (aP bD wY oE)) (au cw (au dh (a_ (zQ vW hJ aG)))))))))) bw))))
    (ao (bC SL rfl (bp (ie lR bI (gx aG) (gx (aP bV aG dP)))) (zG 9 EV) (ao (zS 10 EV (JT (zQ eh hJ aG) (mr (pV (zQ vW hJ aG) (mr (zQ o5 (aP bD (pv 9) aG) aG))))))
    (aB (bh (cn SF Tc Td bN lK (a_ (zC t.Gm (kc t) a (au (aP bD (aP gw (aP bV (aP bD (pv 9) aG) aG) aG) aG) (au cw (au dh (a_ (zn (pv 10)))))))))))))
    (aB (aW lK)))))))),EL h⟩
def oT:zO P w j 1 t.IY Fv:=
 zF t.IY.h.fu Mm λ_ _ _ _ _ _ _ E a h=>
  ⟨_,(ao (zS 2 Mm (aP bD (aP cV bI aG) aG))
      (ao (zS 3 Mm (bE bH))
      (ao (bC SL rfl (oZ (by rfl) t.t7 (a_ (aP bD bI aG))) (zG 4 Mm) (ao (zS 2 Mm (aP bD (aP bV (aP bV (aP gw dh aG) (aP gw hJ hJ)) aG) aG))
      (aB (bh (cn SF Tc Td bN dP (a_ (aP bD (aP cV dh aG) cw)))))))
      (aB (aW dP))))),Ew h⟩
def tT:zO P w j 1 t.Jz Fs:=zF t.Jz.h.fu Rl λ_ _ _ _ _ _ _ E a h=>⟨_,aB (aW (zB (yJ rfl) t.Je (a_ (dD (tN:=["arrow"]) (capN:=["house"]) (caps:=[0]) rfl (b8.of (osc:=aC gN) (N:=n0f) rfl rfl (by decide +kernel)) (bp (zI cw)))))),EA h⟩
def gW:zO P w j 2 t.Fz (nu k 2 bS):=t.Fz.h.fu.ok Rn (λ_ _ _ _ h=>h.1) λ_ _ _ _ _ _ _ E a h=>⟨_,aB (cC (kD (kC (zC t.Jz (tT t) a (au bI (a_ cw))))) Ii bw),EB h⟩
def Mq:cB P w K k j rE 1 t.Jb.f t.Jb.fd ["self"] (l_ t.CQ):=zF t.Jb.h.fu Rp λ_ _ _ _ _ _ _ E a h=>⟨_,ao (ib bI aG rfl) (aB (ib bI mG rfl)),u9 t.kQ h⟩
def Gf:cB P w K k j rE 1 t.Fo.f t.Fo.fd ["self","price","thing"] (uf t.CQ):=
 zF t.Fo.h.fu Rq λ_ _ _ _ _ _ _ E a h=>
  ⟨_,aB (bh (cn SF Tc Td bN (cn S5 Te TB Dd (cr bI rfl)
    (au (qd PySem.F.plainAttrs_int PySem.F.slot_int_bit_length PySem.F.type_int_bit_length DP (aP GM cw (cr bI rfl))) (a_ (bE bH)))) (a_ (bb (au cw (a_ dh)))))),A4 t.kQ h rfl⟩
def Mr:cB P w K k j rE 1 t.JF.f t.JF.fd ["self"] (ml t.CQ):=zF t.JF.h.fu Rr λ_ _ _ _ _ _ _ E a h=>⟨_,aB (aW (zQ eh (jR yo (by rfl) t.cL PySem.boot_len (a_ (cr bI rfl))) aG)),u_ t.kQ h⟩
def tU:cB P w K k j rE 2 t.vH.f t.vH.fd ["self","arrow","price","number","mid"] (fc t.CP t.CQ):=
 zF t.vH.h.fu P0 λ_ _ _ _ _ _ _ E a h=>
  ⟨_,ao (zS 5 P0 (zY (jn a) (cr bI rfl) cw ⟨rfl,rfl,rfl,rfl⟩))
    (aB (cC (PW.pt (rP (zP HD fC kB) (mq (zP o5 dh (zI fC)))))
      (ao (gA (jn a) (cr bI rfl) cw (bb (au dh (au dP (a_ hJ)))) rfl)
        (aB (bh (eM (cr bI rfl) t.kQ.cl t.Fo.h.me (Gf t) a t.Fo.h.bi .nil fj (au dh (a_ cw))))))
      bw)),vc t.kP t.kQ h⟩
def BY:((["price","thing"]:List Str)++([]:List Str)).Nodup:=by decide +kernel
def Ms:cB P w K k j rE 2 t.Jd.f t.Jd.fd ["self"] (rD t.CQ):=
 zF t.Jd.h.fu M9 λ_ _ _ _ _ _ _ E a h=>
  ⟨_,ao (zS 1 M9 (r_ (cr bI rfl) (zB (yn rfl) t.vJ (a_ (qd S5 PySem.F.slot_dict_keys PySem.F.type_dict_keys DQ (cr bI rfl)))) ⟨rfl,rfl,rfl,rfl⟩))
    (ao (ib bI (zB (pP rfl) t.vJ (a_ (dD (tN:=["price","thing"]) (capN:=[]) (caps:=[]) rfl (b8.of (osc:=aC EY) (N:=["self","pile","price","thing"]) rfl rfl (by decide +kernel)) (bp cw)))) rfl)
    (ao (bC SL rfl (bp cw) (cH rfl (aQ (zG 2 M9) (aQ (zG 3 M9) bY)))
      (aB (bh (eM bI t.kQ.cl t.Fo.h.me (Gf t) a t.Fo.h.bi .nil fj (au dh (a_ dP))))))
    (aB (aW (r_ (cr bI rfl) aG ⟨rfl,rfl,rfl,rfl⟩))))),
    yp t.kQ (λ_ _=>rfl) (yv rfl (λ_ _ _ _ _=>cH rfl (aQ (bQ (i:=0) BY rfl (Or.inl rfl)) (aQ (bQ (i:=1) BY rfl (Or.inl rfl)) bY))) λ_ _ _ _ _=>pv 0) h⟩
def Mv:cB P w K k j rE 3 t.Jl.f t.Jl.fd ["self","number","rule","mid","price"] (ma t.CP t.CQ):=
 zF t.Jl.h.fu M_ λ_ _ _ _ _ _ _ E a h=>
  ⟨_,ao (zS 5 M_ (bb (au dP (a_ (zI (zI dh))))))
    (ao (bh (cn SF Tc Td bN (cn S5 Te TB (fx a.units) (cr bI rfl) (au fC (a_ (bE bH)))) (a_ (bb (au cw (au dh (a_ hJ)))))))
    (aB (bC SL rfl (bp (zE a (cr bI rfl) fC (bE bH))) (cH rfl (aQ (zG 6 M_) (aQ (zG 7 M_) bY)))
      (aB (bh (eM bI t.kP.cl t.vH.h.me (tU t) a t.vH.h.bi .nil fj (au (bb (au (zI dh) (au (zI dh) (a_ lK))))
        (au (aP bV (aP bV hJ oE) aG) (au cw (a_ dP)))))))))),vd t.kP h⟩
def Mw:cB P w K k j rE 4 t.Jx.f t.Jx.fd ["self","arrow","price"] (ku t.CP t.CQ):=
 zF t.Jx.h.fu IB λ_ _ _ _ _ _ _ E a h=>
  have b:cR 2 _:=a.mono (by decide)
  ⟨_,ao (zS 3 IB (bb (au (zI cw) (a_ (zI cw)))))
    (ao (bh (cn SF Tc Td bN (cn S5 Te TB (fx a.units) (cr bI rfl) (au dP (a_ (bE bH)))) (a_ (bb (au (zI cw) (a_ dh))))))
    (ao (bC SL rfl (bp (zE a (cr bI rfl) dP (bE bH))) (cH rfl (aQ (zG 4 IB) (aQ (zG 5 IB) (aQ (zG 6 IB) bY))))
      (aB (bh (eM bI t.kP.cl t.vH.h.me (tU t) b t.vH.h.bi .nil fj (au (bb (au (zI fC) (au (zI fC) (a_ (zI cw)))))
        (au (aP bV (aP bV lK dh) aG) (au hJ (a_ (zI cw)))))))))
    (aB (bC SL rfl (bp (zE a (cr bI rfl) dP (bE bH))) (cH rfl (aQ (zG 4 IB) (aQ (zG 5 IB) bY)))
      (aB (cC (zP eh (zL t.cL (zI fC)) aG)
        (aB (bh (eM bI t.kP.cl t.vH.h.me (tU t) b t.vH.h.bi .nil fj (au (bb (au (zI fC) (au (zI fC) (a_ (zI cw)))))
          (au (aP bV dh aG) (au hJ (a_ kB)))))))
        (aB (bh (eM bI t.kP.cl t.Jl.h.me (Mv t) a t.Jl.h.bi .nil fj (au hJ (au fC (au (zI cw) (a_ dh))))))))))))),tz t.kP h⟩
def Mx:cB P w K k j rE 5 t.I0.f t.I0.fd ["self"] (xg t.CP t.CQ):=
 zF t.I0.h.fu O_ λ_ _ _ _ _ _ _ E a h=>
  ⟨_,aB (jO SL (kD (kC (mD (cr bI rfl) t.kQ.cl t.JF.h.me (Mr t) (a.mono (by decide)) t.JF.h.bi .nil fj)))
    (aB (bC SL rfl (bp (mD (cr bI rfl) t.kQ.cl t.Jd.h.me (Ms t) (a.mono (by decide)) t.Jd.h.bi .nil fj)) (cH rfl (aQ (zG 1 O_) (aQ (zG 2 O_) bY)))
      (aB (cC (zP eh (zI (zD a (cr bI rfl) dh)) cw)
        (aB (bh (eM bI t.kP.cl t.Jx.h.me (Mw t) a t.Jx.h.bi .nil fj (au dh (a_ cw))))) bw))))),Be t.kP h⟩
def ke:cB P w K k j rE 1 t.Gs.f t.Gs.fd ["house"] Fy:=
 zF t.Gs.h.fu M8 λ_ _ _ _ _ _ _ E a h=>
  ⟨_,ao (zS 1 M8 cJ)
    (ao (bC SL rfl (wz rfl t.kq (a_ (zI bI))) (cH rfl (aQ (zG 2 M8) (aQ (zG 3 M8) bY)))
      (aB (cC (zP vW (zL t.cL (zI dP)) aG)
        (aB (bh (cn SF Tc Td bN (cn S5 Te TB (fx a.units) cw
          (au (bb (au (zI dP) (a_ (zI (zI dP))))) (a_ (bE bH)))) (a_ (bb (au dh (a_ dP))))))) bw)))
    (aB (aW cw))),DY h⟩
def My:cB P w K k j rE 3 t.JC.f t.JC.fd ["self","house"] (mj t.CP t.CQ):=
 zF t.JC.h.fu Rt λ_ _ _ _ _ _ _ E a h=>
  ⟨_,ao (ib bI (zC t.Gs (ke t) a (a_ cw)) rfl)
    (ao (ib bI cJ rfl) (ao (ib bI (zz t.Jr (Mq t) a rfl t.gQ t.Jb.h.bi .nil fj) rfl) (ao (ib bI cJ rfl) (aB (ib bI cJ rfl))))),vf t.kP h⟩
def yM:zO P w j 6 t.Jv (nu k 2 cK):=
 t.Jv.h.fu.ok Mn (λ_ _ _ _ h=>h.1) λ_ _ _ _ _ _ _ E b h=>
  have a:cR 2 _:=b.mono (by decide)
  ⟨_,ao (bh (lP (gW t) (b.mono (by decide)) rfl t.Fz.h.gl t.Fz.h.fu.kp t.Fz.h.bi .nil Kh (au bI (a_ cw))))
    (ao (zS 2 Mn (CZ t.JE (My t) (b.mono (by decide)) rfl t.gP t.JC.h.bi .nil fj (a_ bI)))
    (ao (bC SL rfl (bp (zI cw)) (zG 3 Mn) (aB (bh (eM dh t.kP.cl t.vH.h.me (tU t) a t.vH.h.bi .nil fj (au dP (au aG (au kB (a_ kB))))))))
    (ao (bC SL rfl (wz rfl t.kq (a_ (zI bI))) (cH rfl (aQ (zG 4 Mn) (aQ (zG 5 Mn) bY)))
      (aB (cC (zP eh (zL t.cL (zI fC)) aG)
        (aB (bh (eM dh t.kP.cl t.vH.h.me (tU t) a t.vH.h.bi .nil fj (au (bb (au (zI fC) (au (zI fC) (a_ (zI fC)))))
          (au aG (au hJ (a_ kB))))))) bw)))
    (ao (bh (mD dh t.kP.cl t.I0.h.me (Mx t) b t.I0.h.bi .nil fj))
    (aB (aW (cr dh rfl))))))),tE t.kP h⟩
def BZ:((["arrow","price"]:List Str)++([]:List Str)).Nodup:=by decide +kernel
def B3:zO P w j 7 t.Ja (kh cK):=
 zF t.Ja.h.fu P7 λ_ _ _ _ _ _ _ E a h=>
  have b:=a.units
  ⟨_,(ao (zS 1 P7 (zC t.Jv (yM t) a (au bI (a_ (bb (au (zI bI) (au (bE bH) (a_ (bE bH)))))))))
      (aB (aW (zT (gF rfl b) t.l4 (a_ (dD (tN:=["arrow","price"]) (capN:=[]) (caps:=[]) rfl (b8.of (osc:=aC lY) (N:=P3) rfl rfl (by decide +kernel)) (i9 cw))))))),Ez rfl (λ_ _ _ _ _=>cH rfl (aQ (bQ (i:=0) BZ rfl (Or.inl rfl)) (aQ (bQ (i:=1) BZ rfl (Or.inl rfl)) bY))) (λ_ _ _ _ _=>(bb (au bI (a_ (zI cw))))) h⟩
def n8:zO P w j 1 t.Gq oq:=zF t.Gq.h.fu Rx λ_ _ _ _ _ _ _ E a h=>⟨_,aB (aW (bb (au (zI bI) (a_ (zI bI))))),yA h⟩
def IE:((["room"]:List Str)++(["put"]:List Str)).Nodup:=by decide +kernel
def tV:zO P w j 1 t.Jm Fu:=
 zF t.Jm.h.fu Pa λ_ _ _ _ _ _ _ E a h=>
  ⟨_,ao (zS 2 Pa (zI bI))
    (ao (cC (zP eh (zL t.cL dh) aG) (aB (aW (bE bH))) bw)
    (ao (zS 3 Pa (bb (au (zI bI) (a_ (zI dh)))))
    (ao (cC (zP eh (zL t.cL dh) aG) (aB (aW (bE (a_ dP)))) bw)
    (aB (aW (aP zR (bE (a_ dP)) (dD (tN:=["room"]) (capN:=["put"]) (caps:=[2]) rfl (b8.of (osc:=aC gO) (N:=n0m) rfl rfl (by decide +kernel)) (bp (zE a cw dP (bE bH)))))))))),
    D_ rfl rfl (λ_ _ _ _ _=>bQ (i:=0) IE rfl (Or.inl rfl)) (λ_ _ _ _ _=>bb (au bI (a_ (zI cw)))) h⟩
def lL:zO P w j 8 t.Jw (Ft (kh cK)):=
 zF t.Jw.h.fu Mo λ_ _ _ _ _ _ _ E a h=>
  ⟨_,ao (zS 1 Mo cJ)
    (ao (iu (bC SL rfl (nL (zC t.Ja (B3 t) a (a_ bI))) (cH rfl (aQ (zG 2 Mo) (aQ (zG 3 Mo) (aQ (zG 4 Mo) bY))))
      (aB (bh (cn SF Tc Td bN (cn S5 Te TB (fx a.units) cw (au (bb (au dh (a_ dP))) (a_ (bE bH)))) (a_ hJ))))))
    (aB (aW cw))),Ea h⟩
def B4:((["head","heads"]:List Str)++([]:List Str)).Nodup:=by decide +kernel
def jM:zO P w j 2 t.Jc Fi:=
 zF t.Jc.h.fu Pb λ_ _ _ _ _ _ _ E a h=>
  have b:=a.units
  ⟨_,ao (zS 2 Pb cJ)
    (ao (bC SL rfl (bp (zI bI)) (zG 3 Pb)
      (aB (bh (cn SF UZ U0 i6 (cn S5 Te TB (fx b) dh (au (zC t.Gq (n8 t) a (a_ dP)) (a_ (bE bH)))) (a_ (zC t.Jm (tV t) a (au dP (a_ cw))))))))
    (aB (aW (zT (gF rfl b) t.l4 (a_ (dD (tN:=["head","heads"]) (capN:=[]) (caps:=[]) rfl (b8.of (osc:=aC cG) (N:=P8) rfl rfl (by decide +kernel)) (i9 dh))))))),
    Ec rfl (λ_ _ _ _ _=>cH rfl (aQ (bQ (i:=0) B4 rfl (Or.inl rfl)) (aQ (bQ (i:=1) B4 rfl (Or.inl rfl)) bY))) (λ_ _ _ _ _=>bb (au bI (a_ (zB (yC rfl) t.pU (a_ (zT (yB rfl b) t.Ck (a_ cw))))))) h⟩
def IF:((["room"]:List Str)++(["sign"]:List Str)).Nodup:=by decide +kernel
def qU:zO P w j 1 t.Jq xh:=
 zF t.Jq.h.fu s0x λ_ _ _ _ _ _ _ E a h=>
  ⟨_,ao (zS 2 s0x (bE bH))
    (ao (zS 3 s0x (bE (a_ (zI cw))))
    (ao (bC SL rfl (bp (zI cw)) (zG 4 s0x)
      (ao (iP (i:=5) (tN:=["room"]) (capN:=["sign"]) (caps:=[4]) rfl (b8.of (osc:=aC fU) (N:=n0o) rfl rfl (by decide +kernel)) s0x.nd rfl rfl (bp dP))
      (ao (bh (cn SF UZ U0 i6 dh (a_ fC)))
      (ao (zS 6 s0x (bE bH))
      (ao (bC SL rfl (bp fC) (zG 7 s0x) (aB (bh (cn SF UZ U0 i6 lK (a_ (zE a bI oE (bE bH)))))))
      (aB (zS 3 s0x (zB (vw rfl) t.pU (a_ (zT (vt rfl) t.Ck (a_ lK)))))))))))
    (aB (aW dh)))),
    BC rfl rfl (λ_ _ _ _ _=>bQ (i:=0) IF rfl (Or.inl rfl)) (λ_ _ _ _ _=>bb (au bI (a_ cw))) h⟩
def iV:zO P w j 9 t.Gi (yW (kh cK)):=
 zF t.Gi.h.fu JM λ_ _ _ _ _ _ _ E a h=>
  have b:=a.units
  ⟨_,ao (zS 2 JM (zC t.Jw (lL t) a (a_ bI)))
    (ao (zS 3 JM (zC t.Jc (jM t) a (au bI (a_ dh))))
    (ao (zS 4 JM cJ)
    (ao (zS 5 JM (zC t.Jq (qU t) a (au dh (a_ cw))))
    (ao (jO SL (jQ fC (λ_=>rfl))
      (ao (zS 6 JM (qd SF PySem.F.slot_list_pop PySem.F.type_list_pop zN fC))
      (aB (cC (jP (i_ b) lK hJ rfl)
        (ao (gA (jn a) hJ lK (zE a dP lK (bE bH)) rfl)
        (aB (bh (cn SF UZ U0 i6 fC (a_ (zD a hJ lK)))))) bw))))
    (aB (aW hJ)))))),Ei h⟩
def IG:((["thing"]:List Str)++([]:List Str)).Nodup:=by decide +kernel
def yN:zO P w j 1 t.Jn Ff:=zF t.Jn.h.fu Ry λ_ _ _ _ _ _ _ E a h=>⟨_,aB (aW (zT (gF rfl a.units) t.l4 (a_ (dD (tN:=["thing"]) (capN:=[]) (caps:=[]) rfl (b8.of (osc:=aC j9) (N:=P9) rfl rfl (by decide +kernel)) (bp bI))))),Ej rfl (λ_ _ _ _ _=>bQ (i:=0) IG rfl (Or.inl rfl)) (λ_ _ _ _ _=>bb (au bI (a_ k8))) h⟩
def w8:((["head","ahead"]:List Str)++([]:List Str)).Nodup:=by decide +kernel
def EZ:((["head"]:List Str)++(["left"]:List Str)).Nodup:=by decide +kernel
def eJ:zO P w j 2 t.Gw CC:=
 zF t.Gw.h.fu s0A λ_ _ _ _ _ _ _ E a h=>
  have b:=a.units
  ⟨_,ao (iu (zS 1 s0A (zT (gF rfl b) t.l4 (a_ (dD (tN:=["head","ahead"]) (capN:=[]) (caps:=[]) rfl (b8.of (osc:=aC bP) (N:=Pc) rfl rfl (by decide +kernel)) (i9 bI))))))
    (ao (zS 2 s0A cJ)
    (ao (iu (bC SL rfl (i9 bI) (cH rfl (aQ (zG 3 s0A) (aQ (zG 4 s0A) bY)))
      (aB (bC SL rfl (bp hJ) (zG 5 s0A)
        (aB (bh (cn SF Tc Td bN (cn S5 Te TB (fx b) dh (au fC (a_ (bE bH)))) (a_ dP))))))))
    (ao (iu (iP (i:=6) (tN:=["head"]) (capN:=["left"]) (caps:=[1]) rfl (b8.of (osc:=aC bP) (N:=Pc) rfl rfl (by decide +kernel)) s0A.nd rfl rfl (nL bI)))
    (ao (zS 7 s0A (zT dL t.fV (a_ lK)))
    (ao (jO SL (jQ oE (λ_=>rfl))
      (ao (zS 8 s0A (qd SF PySem.F.slot_list_pop PySem.F.type_list_pop zN oE))
      (aB (bC SL rfl (bp (zE a dh wY (bE bH))) (zG 3 s0A)
        (ao (gA (jn a) cw dP (aP ur (zD a cw dP) aG) rfl)
        (aB (cC (zP eh (zD a cw dP) aG)
          (ao (bh (cn SF Tc Td bN lK (a_ dP)))
          (aB (bh (cn SF Tc Td bN oE (a_ dP))))) bw)))))))
    (aB (aW (zC t.Jn (yN t) a (a_ lK))))))))),
    Ek ⟨rfl,λ_ _ _ _ _=>cH rfl (aQ (bQ (i:=0) w8 rfl (Or.inl rfl)) (aQ (bQ (i:=1) w8 rfl (Or.inl rfl)) bY)),λ_ _ _ _ _=>bb (au bI (a_ (zL t.cL cw))),rfl,rfl,λ_ _ _ _ _=>bQ (i:=0) EZ rfl (Or.inl rfl),λ_ _ _ _ _=>lV (zP eh (zD a cw bI) aG),λ_ _ _ _ _=>pv 0⟩ h⟩
def E2:((["head"]:List Str)++(["ended"]:List Str)).Nodup:=by decide +kernel
def E3:((["other"]:List Str)++(["ended"]:List Str)).Nodup:=by decide +kernel
def w_:zO P w j 10 t.Gg (Fe (kh cK)):=
 zF t.Gg.h.fu s0B λ_ _ _ _ _ _ _ E a h=>
  have b:=a.units
  ⟨_,ao (zS 2 s0B (zC t.Gi (iV t) a (au bI (a_ cw))))
    (ao (zS 3 s0B (zC t.Gw (eJ t) a (a_ dh)))
    (ao (iu (iP (i:=4) (tN:=["head"]) (capN:=["ended"]) (caps:=[3]) rfl (b8.of (osc:=aC nX) (N:=n0s) rfl rfl (by decide +kernel)) s0B.nd rfl rfl (nL dh)))
    (ao (cC (kD (jQ hJ (λ_=>rfl))) (aB (aW kB)) bw)
    (ao (zS 5 s0B cJ)
    (ao (zS 6 s0B (jS fM hJ aG (λ_ _=>rfl)))
    (ao (jO SL (jP (i_ b) lK fC rfl)
      (ao (gA (jn a) fC lK k8 rfl)
      (aB (zS 6 s0B (jS fM (dD (tN:=["other"]) (capN:=["ended"]) (caps:=[3]) rfl (b8.of (osc:=aC nX) (N:=n0s) rfl rfl (by decide +kernel)) (bp (zD a dh lK))) aG (λ_ _=>rfl))))))
    (ao (zS 7 s0B (zT (nP rfl) t.fV (a_ fC)))
    (aB (aW (ie lR oE (gx (cn SF PySem.F.slot_list_index PySem.F.type_list_index (Ih b) oE (a_ lK))) p8)))))))))),
    Er ⟨rfl,rfl,λ_ _ _ _ _=>bQ (i:=0) E2 rfl (Or.inl rfl),λ_ _ _ _ _=>lV (jP (i_ b) bI cw rfl),λ_ _ _ _ _=>pv 0⟩ ⟨rfl,rfl,λ_ _ _ _ _=>bQ (i:=0) E3 rfl (Or.inl rfl),λ_ _ _ _ _=>lV (jP (i_ b) bI cw rfl),λ_ _ _ _ _=>pv 0⟩ h⟩
def kW:zO P w j 2 t.Jp Fd:=
 zF t.Jp.h.fu Pd λ_ _ _ _ _ _ _ E a h=>
  ⟨_,ao (zS 1 Pd cJ)
    (ao (bC SL rfl (bp (zI bI)) (zG 2 Pd)
      (aB (DE (Ts (VE (by decide) _) a.units) (cn S5 Te TB (fx a.units) cw
        (au (zC t.Gq (n8 t) a (a_ dh)) (a_ sV))) dh k8 rfl)))
    (aB (aW cw))),D8 h⟩
def tW:cB P w K k j (xH P w) 3 t.CN.f t.CN.fd gR (Co t.bW):=
 Bi t.CN.h.fu P_ (λ_ _ _ _ h=>by cases h;rfl) λ_ _ _ _ _ _ _ E a h=>
  ⟨_,(ao (zS 1 P_ (zT (nP rfl) t.fV (a_ (zC t.Gw (eJ t) a (a_ bI)))))
    (ao (cC (zP o5 (zL t.cL cw) (jR vh (by rfl) t.cL PySem.boot_len (a_ bI))) (aB (z8 (EW:=λH=>E (.ref t.bW) none H) t.kZ (by rfl) rfl (a_ GE) (λe g H s i x c I d b=>Da I d b))) bw)
    (aB (aW cw)))),EF h⟩
def pT:zO P w j 1 t.Gk Cs:=
 zF t.Gk.h.fu za λ_ _ _ _ _ _ _ E a h=>
  ⟨_,(ao (zS 4 za dP)
    (ao (zS 5 za (C9 (zX cw dP C8) rfl rfl (λz=>nomatch z) (by decide)))
    (ao (bC SL rfl (Hk dh) (zG 6 za) (ao (zS 7 za mG)
    (ao (iu (bC SL rfl (m8 fC) (cH rfl (aQ (zG 8 za) (aQ (zG 9 za) bY))) (ao (zS 10 za (zD a bI (bb (au wY (a_ lK)))))
    (ao (zS 4 za (zB (jd rfl) t.oB (au hJ (a_ (aP bV (pv 9) (zI (pv 10)))))))
    (aB (iu (bC SL rfl (m8 (zI (pv 10))) (cH rfl (aQ (zG 11 za) (aQ (zG 12 za) bY))) (aB (gA (jn a) oE (pv 11) (zB (jd rfl) t.oB (au (zE a oE (pv 11) aG) (a_ (aP bV (pv 9) (pv 12))))) rfl)))))))))
    (aB (zS 5 za oE)))))
    (aB (aW (bb (au hJ (a_ fC)))))))),EH h⟩
def oU:zO P w j 2 t.Jk Fa:=
 zF t.Jk.h.fu Ge λ_ _ _ _ _ _ _ E a h=>
  ⟨_,(ao (zS 2 Ge aG)
    (ao (zS 3 Ge mG)
    (ao (HV (bC SL rfl (D3 cw) (zG 4 Ge) (ao (zS 5 Ge (zC t.Gk (pT t) a (au bI (au (zI hJ) (au (zI hJ) (a_ aG))))))
    (ao (zS 2 Ge (zB (jd rfl) t.oB (au dh (a_ (zI fC)))))
    (aB (iu (bC SL rfl (m8 (zI fC)) (cH rfl (aQ (zG 6 Ge) (aQ (zG 7 Ge) bY))) (aB (gA (jn a) dP lK (zB (jd rfl) t.oB (au (zE a dP lK aG) (a_ oE))) rfl)))))))))
    (aB (aW (bb (au dh (a_ dP)))))))),EJ h⟩
def n9:cB P w K k j (xH P w) 10 t.yX.f t.yX.fd je (Cy (kh cK) t.bW):=
 Bi t.yX.h.fu Na (λ_ _ _ _ h=>by cases h;rfl) λ_ _ _ _ _ _ _ E a h=>
  ⟨_,(ao (zS 2 Na (zC t.Jp (kW t) a (a_ bI)))
    (ao (zS 3 Na cJ)
    (ao (bC J4 rfl (bp (lP (tW t) (a.mono (by decide)) rfl t.CN.h.gl t.CN.h.fu.kp t.CN.h.bi .nil C_ (a_ (zC t.Gi (iV t) a (au bI (a_ cw)))))) (zG 4 Na) (aB (gA (jn a) dP hJ (zC t.Jk (oU t) a (au dP (a_ (zE a dh hJ sV)))) rfl)))
    (aB (aW (zI (zC t.Gk (pT t) a (au dP (au (zI cw) (au (zI cw) (a_ aG))))))))))),EK h⟩
def IH:((["_law_rule_here"]:List Str)++(["_law_room","_law_stack_here"]:List Str)).Nodup:=by decide +kernel
def II:((["_law_rule_here"]:List Str)++(["_law_stack_here"]:List Str)).Nodup:=by decide +kernel
def kf:zO P w j 1 t.Gn Cq:=
 zF t.Gn.h.fu s0H λ_ _ _ _ _ _ _ E a h=>
  ⟨_,(ao (GI cw (cH rfl (aQ (zG 2 s0H) (aQ (zG 3 s0H) bY))))
    (ao (cC (zP eh (zL t.cL dP) aG) (aB (aW (bE bH))) bw)
    (ao (iP (i:=4) (tN:=["_law_rule_here"]) (capN:=["_law_room","_law_stack_here"]) (caps:=[2,3]) rfl (b8.of (osc:=aC dW) (N:=n0y) rfl rfl (by decide +kernel)) s0H.nd rfl rfl (bp bI))
    (aB (aW (dD (tN:=["_law_rule_here"]) (capN:=["_law_stack_here"]) (caps:=[3]) rfl (b8.of (osc:=aC dW) (N:=n0y) rfl rfl (by decide +kernel)) (bp hJ))))))),EO ⟨rfl,rfl,λ_ _ _ _ _=>bQ (i:=0) IH rfl (Or.inl rfl),λ_ _ _ _ _=>lV (PW.pt (zj (zP eh (zI bI) cw) (vR (zP eh (zI bI) (jS fM dh aG (λ_ _=>rfl)))))),λ_ _ _ _ _=>pv 0⟩ ⟨rfl,rfl,λ_ _ _ _ _=>bQ (i:=0) II rfl (Or.inl rfl),λ_ _ _ _ _=>dw,λ_ _ _ _ _=>bb (au (zI bI) (a_ (aP zR (zT dL t.fV (a_ (zI bI))) (ie lR cw (gx aG) p8))))⟩ h⟩
def tX:zO P w j 2 t.Jo FC:=
 zF t.Jo.h.fu Nb λ_ _ _ _ _ _ _ E a h=>
  ⟨_,(ao (zS 3 Nb (bE (a_ cw)))
    (ao (bC SL rfl (bp dh) (zG 4 Nb) (ao (zS 5 Nb (zC t.Gn (kf t) a (au bI (a_ (jS fM dP (vS pW aG) (λ_ _=>rfl))))))
    (aB (cC (zP vW (zL t.cL fC) aG) (aB (bh (cn SF Tc Td bN dP (a_ (jS fM fC (aP bD hJ (zL t.cL fC)) (λ_ _=>rfl)))))) bw))))
    (aB (aW dP)))),EQ h⟩
def jq:zO P w j 1 t.Gh (nu k 1 j_):=t.Gh.h.fu.ok RE (λ_ _ _ _ h=>h.1) λ_ _ _ _ _ _ _ E a h=>⟨_,aB (aW (pV (zB pQ t.jr (au bI (a_ (vP (v:=.ty "int") (by rfl) t.Jg (by decide +kernel) rfl)))) (mr (zn (zB pQ t.jr (au bI (a_ (vP (v:=.ty "bool") (by rfl) t.Fk (by decide +kernel) rfl)))))))),EE h⟩
def Mz:Es j_:=λ_=>Sg ⟨_,rfl⟩
def dH:zO P w j 11 t.CL (yS cK):=
 zF t.CL.h.fu Qa λ_ _ _ _ _ _ _ E a h=>
  ⟨_,(ao (zS 4 Qa (lP (n9 t) (a.mono (by decide)) rfl t.yX.h.gl t.yX.h.fu.kp t.yX.h.bi .nil Ki (au (bb (au bI (au cw (a_ (zT dL t.fV (a_ dh)))))) (a_ (bb (au (zI dP) (a_ (zT dL t.fV (a_ (zI dP))))))))))
    (ao (cC (kD (kC (zC t.Gh (jq t) a (a_ hJ)))) (aB (aW (vS pW aG))) bw)
    (aB (aW hJ)))),ER Mz h⟩
def IJ:((["_law_other"]:List Str)++(["_law_rooms","_law_signs","_law_rules_here"]:List Str)).Nodup:=by decide +kernel
def kX:zO P w j 12 t.JG (Fq cK):=
 zF t.JG.h.fu s0L λ_ _ _ _ _ _ _ E a h=>
  ⟨_,(ao (zS 4 s0L (zC t.CL (dH t) a (au bI (au cw (au dh (a_ dP))))))
    (ao (iP (i:=5) (tN:=["_law_other"]) (capN:=["_law_rooms","_law_signs","_law_rules_here"]) (caps:=[0,1,2]) rfl (b8.of (osc:=aC cX) (N:=n0C) rfl rfl (by decide +kernel)) s0L.nd rfl rfl (bp (zC t.Gn (kf t) a (au dh (a_ dP)))))
    (ao (cC (zP eh (zL t.cL fC) aG) (aB (aW (zQ eh hJ aG))) bw)
    (aB (aW (pV (zQ FJ (zB (pP rfl) t.vJ (a_ fC)) aG) (mr (zQ eh hJ (aP bV aG (zB (yL rfl) t.oB (a_ fC))))))))))),ES ⟨rfl,rfl,λ_ _ _ _ _=>bQ (i:=0) IJ rfl (Or.inl rfl),λ_ _ _ _ _=>dw,λ_ _ _ _ _=>zC t.CL (dH t) a (au cw (au dh (au dP (a_ bI))))⟩ h⟩
def IK:cB P w K k j (xH P w) 13 t.CM.f t.CM.fd wZ (nu k 1 w6):=
 Bi t.CM.h.fu s0M (λ_ _ _ _ h=>h.1) λ_ _ _ _ _ _ _ E a h=>
  have b:=a.units
  ⟨_,(ao (zS 1 s0M (zC t.FG (f9 t) a (a_ (zC t.Cm (cq t) a (au bI (a_ aG))))))
    (ao (zS 2 s0M (aP bV aG (aP bD cw aG)))
    (ao (zS 3 s0M (aP bV aG (aP bD (aP cV cw aG) aG)))
    (ao (zS 4 s0M (aP bD (aP cV cw aG) aG))
    (ao (zS 5 s0M (zC t.Jh (oS t) a (au bI (au dh (au dP (a_ hJ))))))
    (ao (zS 6 s0M (zC t.FG (f9 t) a (a_ (zC t.Cm (cq t) a (au bI (a_ aG))))))
    (ao (zS 7 s0M (bb (au (aP bD lK dh) (a_ (zC t.IY (oT t) a (au (aP cV lK aG) (a_ dP)))))))
    (ao (zS 8 s0M (bb (au dh (au dP (a_ (zT dL t.fV (a_ fC)))))))
    (ao (zS 9 s0M (bb (au (zI oE) (a_ (zT dL t.fV (a_ (zI oE)))))))
    (ao (zS 10 s0M k8)
    (ao (zS 11 s0M (vS pW aG))
    (ao (Dc (i:=11) s0M.nd rfl (Or.inl rfl) rfl rfl t.kZ (by rfl) (z9 (dvs:=[]) (ds:=[]) (n9 t) (a.mono (by decide)) (by rfl) t.yX.h.gl t.yX.h.fu.kp t.yX.h.bi .nil (au wY (a_ (pv 9)))) (λx=>aB (zS 10 s0M k8)))
    (ao (cC (PW.pt (rP (zP (BM b) wY (bb (au dh (au dP (a_ fC))))) (mq (zP (BM b) (pv 9) oE)))) (aB (aW k8)) bw)
    (ao (cC (PW.pt (rP (kC (pv 10)) (mq (GG (vQ (zC t.Gg (w_ t) a (au wY (a_ (pv 9))))))))) (aB (aW (pV (pv 10) (mr (GF (vQ (zC t.Gg (w_ t) a (au wY (a_ (pv 9)))))))))) bw)
    (ao (zS 12 s0M (zC t.Jo (tX t) a (au fC (au oE (a_ (ie lR bI (gx (aP bV aG hJ)) (gx (aP bV aG hJ))))))))
    (ao (zS 13 s0M (aP bD (zC t.Cm (cq t) a (au bI (a_ aG))) (zL t.cL (pv 12))))
    (ao (bC J4 rfl (bp (bE (au aG (au (pv 13) (a_ (aP ur (zL t.cL (pv 12)) aG)))))) (zG 14 s0M) (aB (cC (kD (kC (zC t.JG (kX t) a (au dh (au dP (au fC (a_ (jS fM (pv 12) (pv 14) (λ_ _=>rfl))))))))) (aB (aW k8)) bw)))
    (ao (cC (PW.pt (rP (kD (kC (zC t.Gh (jq t) a (a_ (pv 11))))) (mq (zP JY (pv 11) (zC t.CL (dH t) a (au dh (au dP (au fC (a_ oE))))))))) (aB (aW k8)) bw)
    (aB (aW (zQ JZ (aP bV (aP ur (zL t.cL (pv 12)) aG) (zC t.CL (dH t) a (au dh (au dP (au fC (a_ (jS fM (pv 12) (vS pW aG) (λ_ _=>rfl)))))))) (pv 11)))))))))))))))))))))),BV (F:=Mp) rfl Mz t.kZ.ex t.gs h⟩
end
def MA{K KK:WK}{mg:Str->Option WM}{h:Heap}(X:K.In h)(G:h.Ns mainGlobals mg)(U:jh K KK)
 (Gm:FK K "_law_rule" iQ) (FG:FK K "_law_mixed" gH) (Cm:FK K "_law_cell_at" fD) (Jh:FK K "_law_rules" gJ) (IY:FK K "_law_stack" gL) (Jz:FK K "is_plain" gN) (Fz:FK K "refuse_unless_plain" cz) (Gs:FK K "rules_by_start" dM) (Jv:FK K "prices" nU) (Ja:FK K "pairs" lY) (Jw:FK K "rooms_behind" fF) (Gq:FK K "head_of" kS) (Jm:FK K "heads_by" gO) (Jc:FK K "head_steps_with" cG) (Jq:FK K "own_heads" fU) (Gi:FK K "steps_among" fX) (Jn:FK K "marked" j9) (Gw:FK K "coming_to_an_end" bP) (Gg:FK K "ring" nX) (Jp:FK K "rules_by_head" d7) (CN:FK K "in_order" jJ) (Gk:FK K "walked" nY) (Jk:FK K "longest_by" gS) (yX:FK K "longest" kU) (Gn:FK K "_law_next" dW) (Jo:FK K "_law_run" jK) (Gh:FK K "_law_whole" gU) (CL:FK K "_law_number" fZ) (JG:FK K "_law_one_more" cX) (CM:FK K "law" BX)
 (n:nsIn K mainGlobals "all"=some none)
 (k:nsIn K mainGlobals "bool"=some none)
 (l:nsIn K mainGlobals "dict"=some none)
 (d:nsIn K mainGlobals "enumerate"=some none)
 (o:nsIn K mainGlobals "int"=some none)
 (c:nsIn K mainGlobals "isinstance"=some none)
 (p:nsIn K mainGlobals "len"=some none)
 (m:nsIn K mainGlobals "list"=some none)
 (q:nsIn K mainGlobals "max"=some none)
 (r:nsIn K mainGlobals "min"=some none)
 (g:nsIn K mainGlobals "range"=some none)
 (s:nsIn K mainGlobals "set"=some none)
 (f:nsIn K mainGlobals "sorted"=some none)
 {bW:Addr} (e:nsIn K mainGlobals "Endless"=some (some (.ref bW))) (a:excIn K bW sj "ValueError.__new__"=true) (gs:(oG K bW).contains (.ref bW)=true)
 {Z:Addr} (T:CK K KK "Queue" Z) (B:findIn KK (.ref Z) "last"=some none) (C:findIn KK (.ref Z) "piles"=some none)
 {Y:Addr} (V:CK K KK "Pricing" Y) (D:findIn KK (.ref Y) "rules"=some none) (E:findIn KK (.ref Y) "told"=some none) (F:findIn KK (.ref Y) "offers"=some none) (H:findIn KK (.ref Y) "settled"=some none) (I:findIn KK (.ref Y) "lacking"=some none)
 {J:Addr} (i:MK KK Z "__init__" "Queue.__init__" Iu J)
 {L:Addr} (u:MK KK Z "add" "Queue.add" Iv L)
 {M:Addr} (v:MK KK Z "is_empty" "Queue.is_empty" Iw M)
 {N:Addr} (w:MK KK Z "take_lowest" "Queue.take_lowest" EY N)
 {O:Addr} (j:MK KK Y "__init__" "Pricing.__init__" Iy O)
 {P:Addr} (x:MK KK Y "offer" "Pricing.offer" Iz P)
 {Q:Addr} (y:MK KK Y "settle" "Pricing.settle" IA Q)
 {R:Addr} (z:MK KK Y "settle_first" "Pricing.settle_first" IC R)
 {S:Addr} (A:MK KK Y "settle_all" "Pricing.settle_all" ID S)
 : ∃t:Tx KK mg,True:=by
 obtain⟨Gm⟩:=df (ps:=iS) X G U Gm;obtain⟨FG⟩:=df (ps:=gI) X G U FG;obtain⟨Cm⟩:=df (ps:=fE) X G U Cm;obtain⟨Jh⟩:=df (ps:=gK) X G U Jh;obtain⟨IY⟩:=df (ps:=gM) X G U IY;obtain⟨Jz⟩:=df (ps:=jH) X G U Jz;obtain⟨Fz⟩:=df (ps:=cA) X G U Fz;obtain⟨Gs⟩:=df (ps:=dN) X G U Gs;obtain⟨Jv⟩:=df (ps:=nV) X G U Jv;obtain⟨Ja⟩:=df (ps:=qT) X G U Ja;obtain⟨Jw⟩:=df (ps:=fG) X G U Jw;obtain⟨Gq⟩:=df (ps:=kT) X G U Gq;obtain⟨Jm⟩:=df (ps:=jI) X G U Jm;obtain⟨Jc⟩:=df (ps:=dG) X G U Jc;obtain⟨Jq⟩:=df (ps:=iT) X G U Jq;obtain⟨Gi⟩:=df (ps:=fY) X G U Gi;obtain⟨Jn⟩:=df (ps:=nW) X G U Jn;obtain⟨Gw⟩:=df (ps:=dc) X G U Gw;obtain⟨Gg⟩:=df (ps:=vC) X G U Gg;obtain⟨Jp⟩:=df (ps:=d8) X G U Jp;obtain⟨CN⟩:=df (ps:=gR) X G U CN;obtain⟨Gk⟩:=df (ps:=nZ) X G U Gk;obtain⟨Jk⟩:=df (ps:=gT) X G U Jk;obtain⟨yX⟩:=df (ps:=je) X G U yX;obtain⟨Gn⟩:=df (ps:=iU) X G U Gn;obtain⟨Jo⟩:=df (ps:=jL) X G U Jo;obtain⟨Gh⟩:=df (ps:=gV) X G U Gh;obtain⟨CL⟩:=df (ps:=f7) X G U CL;obtain⟨JG⟩:=df (ps:=d9) X G U JG;obtain⟨CM⟩:=df (ps:=wZ) X G U CM;have Jr:=KO T i;obtain⟨Jb,rfl⟩:=mf (ps:=["self"]) i;obtain⟨Fo,rfl⟩:=mf (ps:=["self","price","thing"]) u;obtain⟨JF,rfl⟩:=mf (ps:=["self"]) v;obtain⟨Jd,rfl⟩:=mf (ps:=["self"]) w;have JE:=KO V j;obtain⟨JC,rfl⟩:=mf (ps:=["self","house"]) j;obtain⟨vH,rfl⟩:=mf (ps:=["self","arrow","price","number","mid"]) x;obtain⟨Jx,rfl⟩:=mf (ps:=["self","arrow","price"]) y;obtain⟨Jl,rfl⟩:=mf (ps:=["self","number","rule","mid","price"]) z;obtain⟨I0,rfl⟩:=mf (ps:=["self"]) A;exact⟨⟨Gm,FG,Cm,Jh,IY,Jz,Fz,Gs,Jv,Ja,Jw,Gq,Jm,Jc,Jq,Gi,Jn,Gw,Gg,Jp,CN,Gk,Jk,yX,Gn,Jo,Gh,CL,JG,CM,TF X G n,TF X G k,TF X G l,TF X G d,TF X G o,TF X G c,TF X G p,TF X G m,TF X G q,TF X G r,TF X G g,TF X G s,TF X G f,bW,⟨WD X G e,(U.exc a).1⟩,(by rwa[(U.exc a).2]),Z,⟨T.cl,B,C⟩,WD X G T.b,Y,⟨V.cl,D,E,F,H,I⟩,WD X G V.b,Jb,Jr,Fo,JF,Jd,JC,JE,vH,Jx,Jl,I0⟩,⟨⟩⟩
def IL{l:PySem.W.OpenLaw}{w:World}{K:WK}{g:Str->Option WM}{c:Addr}(a:g "law"=some (.ref c)) (T:∃t:Tx K g,True) :
 ∃i:FuncData,(∀(s:WJ)(v:WM),BindsTo s i ⟨[v],[]⟩ [("_law_script",v)])/\∀f:Heap,cB l.prog w K g f (xH l.prog w) 13 c i ["_law_script"] (MY w6):=by
 obtain⟨t,_⟩:=T;have e:=a.symm.trans t.CM.h.gl;cases e;obtain⟨n,o,kV,j,p,q,k,ct,m,b,lk,d⟩:=t.CM.h.fu.ex;exact⟨t.CM.fd,λs v=>by rw[b];exact .of_eq rfl,λf=>cB.top (IK t)⟩
end W
namespace W
open L2 L3 L4
abbrev RR(a b:Int)(r:Sp.Rule):Prop:=Ju a b r
noncomputable def hV(b c n:Int):List Pz.Arr:=(List.range b.toNat).flatMap λa=>(List.range c.toNat).flatMap λs=>(List.range n.toNat).map λt=>(((a:Nat):Int),((s:Nat):Int),((t:Nat):Int))
def univ_mem{d e n a s t:Int}:((a,s,t):Pz.Arr)∈hV d e n↔(0<=a/\a<d)/\(0<=s/\s<e)/\0<=t/\t<n:=by
 unfold hV;simp only[TN,Se,SZ,Prod.mk.injEq];constructor
 .rintro⟨x,b,y,c,z,f,rfl,rfl,rfl⟩;lia
 .rintro⟨h1,g,h⟩;exact⟨a.toNat,by lia,s.toNat,by lia,t.toNat,by lia,by lia,by lia,by lia⟩
def yO{a:Type}(c:Nat):∀l:List a,(l.map λ_=>c).sum=l.length*c:=by intro l;induction l<;>grind
def B5(a b n:Int):(hV a b n).length=a.toNat*(b.toNat*n.toNat):=by
 simp_all [hV,yO]
def E4{Fr:List D->Res R}{o:List Pz.Rule}{M U:List Pz.Arr}{h0 h1:D}(v:Pz.Set o M U):∃t,Pz.Good o M U t/\∀p q r,Fr [.tup [h0,h1,.lst (o.map dS)],.tup [p,.lst (M.map tD),q]]=.ok r->
 KD Fr [.tup [h0,h1,.lst (o.map dS)],.tup [p,.lst (M.map tD),q]]=.ok (.ze (lr t)):=by
 obtain⟨u,n,T,lp,s⟩:=v.run wG;have b:o.length<16000000:=by have:=v.big;unfold Pz.L at this;lia
 refine⟨T.told,s,λp q r c=>?_⟩;have hex:∃t,nJ [.tup [h0,h1,.lst (o.map dS)],.tup [p,.lst (M.map tD),q]] t:=⟨T.told,o,M,h0,h1,p,q,n,T,rfl,b,u,lp,rfl⟩;have e:Classical.choose hex=T.told:=by obtain⟨d,f,g,i,j,k,l,m,e,_,_,a,w⟩:=Classical.choose_spec hex;rw[w];injection e with e3 e;injection e3 with e3;injection e3 with _ e3;injection e3 with _ e3;injection e3 with e3 _;injection e3 with e3;injection e with e _;injection e with e;injection e with _ e;injection e with e _;injection e with e;rw[<- qO (λh=>yu h) e3,<- qO (λh=>Bh h) e]at a;rw[<- Bg lp a]
 unfold KD;rw[c];dsimp only;rw[dif_pos hex,e]
def IM(a b:Int)(c:List Pz.Rule):bS [qS a b c,JL a]=.ok (.val .cj true []):=Sg ⟨_,_,_,rfl⟩
def B6{g i:Int}{j:List Pz.Rule}(f:0<g)(n:0<i)(b:∀r∈j,RR g i r)(d:j.length<=63)(c:(hV g i g).length<=128) :
 ∃t,Pz.Good j [] (hV g i g) t/\t.length<=128/\cK [qS g i j,JL g]=.ok (.ze (lr t)):=by
 have l:Pz.Set j [] (hV g i g):=by
  refine⟨λr h=>(b r h).p,λa h=>(nomatch h),λr h=>univ_mem.mpr ⟨(b r h).a,(b r h).s,(b r h).t⟩,λr h s x t k=>univ_mem.mpr ⟨(b r h).a,(b r h).s,(univ_mem.mp k).2.2⟩,?_,?_,?_⟩
  .have:j.length*((hV g i g).length*(hV g i g).length)<=63*(128*128):=Vc d (Vc c c);rw[UX];unfold Pz.L;lia
  .have:j.length*(hV g i g).length<=63*128:=Vc d c;unfold Pz.L;lia
  .unfold Pz.L;lia
 obtain⟨t,G,h⟩:=E4 (Fr:=bS) (h0:=.int g) (h1:=.int i) l;refine⟨t,G,?_,h (.int g) (.lst []) _ (IM g i j)⟩;have:=Pz.bL _ (hV g i g) G.nd λa m=>by obtain⟨x,e,rfl⟩:=Se.mp m;exact G.u x.1 x.2 (Pz.sX G.nd (by obtain⟨a,v⟩:=x;exact e))
 rw[R9]at this;lia
def lZ(a:List Int)(k:Int)(b:0<=k):∃x,dF [.lst (a.map .int),.int k]=.ok (.val (.int x) true []):=by obtain⟨k,rfl⟩:=Ug b;refine⟨_,dif_pos ⟨(a[k]?).getD 0,_,k,rfl,?_⟩⟩;rw[Su];cases a[k]?<;>rfl
def tY(x:Int):∃y,0<=y/\eY [.int x]=.ok (.val (.int y) true []):=⟨_,Int.emod_nonneg _ (by decide),dif_pos ⟨x,rfl⟩⟩
structure Bd(a b:Int):Prop where
 r:0<a/\a<=8
 s:0<b/\b<=14
 m:a*b<=28
 f:(a*b+13)*(a+1)<=300
 u:(hV a b a).length<=128
structure FX(g:List Sp.Rule) (f:List Sp.Arr):Prop where
 n:∀a b c,(a,b,c,[])∈g->(a,b,c)∈f
 o:∀a b c p d,(a,b,c,[p])∈g->(c,p,d)∈f->(a,b,d)∈f
 t:∀a b c p q d e,(a,b,c,[p,q])∈g->(c,p,d)∈f->(d,q,e)∈f->(a,b,e)∈f
section
variable{e:List Sp.Rule}{d:List Sp.Arr}
def lA{r:Sp.Rule}{F:aD->List Int}{p:Int}{l:List Int}(h:r.2.2.2=p::l):(r.2.2.1,p)∈bF F r:=by unfold bF;rw[h];cases l<;>simp
def B7{r:Sp.Rule}{x:aD}(a:r∈e)(h:x∈bF (aX d) r):x∈Ls d e (hd r):=by unfold Ls dE;exact TN.mpr ⟨r,SJ.mpr ⟨a,Sz rfl⟩,h⟩
def fH{a b c:Int}(h:(a,b,c)∈d):c∈aX d (a,b):=by unfold aX;exact Se.mpr ⟨(a,b,c),SJ.mpr ⟨h,Sz rfl⟩,rfl⟩
end
section
variable{w z:Int}{A:List Sp.Rule}{t:Pz.TD}{U:List Pz.Arr}
def qV{a:Pz.Arr}(h:a∈t.map (·.1)):∃v,Pz.bB t a=some v:=by
 cases e:Pz.bB t a with
 |none=>exact absurd h (Pz.tget_none.mp e)
 |some v=>exact⟨v,rfl⟩
def jv{a:Pz.Arr}{v:Pz.yg}(h:Pz.bB t a=some v):a∈t.map (·.1):=Se.mpr ⟨_,Pz.nA h,rfl⟩
def B8(G:Pz.Good A [] U t):FX A (t.map (·.1)):=by
 refine⟨λa b c h=>?_,λa b c p d h h1=>?_,λa b c p q d e h h1 l=>?_⟩
 .obtain⟨j,f⟩:=Wl h;obtain⟨v,g,_⟩:=G.CH j _ f;exact jv g
 .obtain⟨j,f⟩:=Wl h;obtain⟨u,i⟩:=qV h1;obtain⟨v,g,_⟩:=G.CH j _ f d _ ⟨u,i,rfl⟩;exact jv g
 .obtain⟨j,f⟩:=Wl h;obtain⟨u,i⟩:=qV h1;obtain⟨m,k⟩:=qV l;obtain⟨v,g,_⟩:=G.CH j _ f d e _ _ ⟨u,i,rfl⟩ ⟨m,k,rfl⟩;exact jv g
def vD{d a:Type}(f:d->List a)(n:Nat):∀l:List d,(∀x∈l,(f x).length<=n)->(l.flatMap f).length<=l.length*n:=by
 intro l;induction l with
 |nil=>intro _;simp
 |cons x l b=>intro h;have h1:=h x (by simp);have e:=b λy c=>h y (by simp[c]);rw[Ue,Sm,SG,Nat.add_mul];lia
def n_{g:List Sp.Arr}(l:g.Nodup)(d:∀a∈g,a∈hV w z w)(k:aD):(aX g k).length<=w.toNat:=by
 have h:(aX g k).Nodup:=by
  unfold aX List.Nodup;rw[To];refine Uq (R:=(·≠ ·)) (λ{a b} j m c e=>c ?_) (l.filter _)
  grind
 have:=Pz.bL (aX g k) ((List.range w.toNat).map λi=>((i:Nat):Int)) h λx f=>by obtain⟨a,j,rfl⟩:=Se.mp f;have:0<=a.2.2/\a.2.2<w:=(univ_mem.mp (d a (SJ.mp j).1)).2.2;exact Se.mpr ⟨a.2.2.toNat,SZ.mpr (by lia),by lia⟩
 rwa[R9,V8]at this
def yP(F:aD->List Int){n:Nat}(h:∀k,(F k).length<=n)(r:Sp.Rule):(bF F r).length<=n+1:=by
 obtain⟨b,c,a,put⟩:=r;rcases put with _|⟨p,_|⟨q,l⟩⟩
 .exact Sw _
 .show 1<=n+1;lia
 .show((a,p)::(F (a,p)).map λo=>(o,q)).length<=n+1;rw[SG,R9];have:=h (a,p);lia
def tZ{j:List Sp.Arr}(f:∀a∈j,a∈hV w z w){r:Sp.Rule}(d:RR w z r){x:aD}(hx:x∈bF (aX j) r):(0<=x.1/\x.1<w)/\0<=x.2/\x.2<z:=by
 obtain⟨h,i,b,put⟩:=r;have e:=d.t;have c:=d.q;rcases put with _|⟨p,_|⟨q,l⟩⟩
 .cases hx
 .have hx:x∈[(b,p)]:=hx;rw[Sb.mp hx];exact⟨e,c p (by simp)⟩
 .have hx:x∈(b,p)::(aX j (b,p)).map λo=>(o,q):=hx;rcases Sq.mp hx with rfl|hx
  .exact⟨e,c p (by simp)⟩
  .obtain⟨o,g,rfl⟩:=Se.mp hx;obtain⟨a,k,rfl⟩:=Se.mp g;exact⟨(univ_mem.mp (f a (SJ.mp k).1)).2.2,c q (by simp)⟩
noncomputable def box(w z:Int):List aD:=(List.range w.toNat).flatMap λa=>(List.range z.toNat).map λs=>(((a:Nat):Int),((s:Nat):Int))
def IN(h:Bd w z){n:List Sp.Arr}(p:n.Nodup)(d:∀a∈n,a∈hV w z w)(f:∀r∈A,RR w z r)(g:A.length<=36)(i:w<=7):K8 (Ls n A):=by
 intro k;have e:=h.r;have u:=h.s;constructor
 .have h1:=vD (bF (aX n)) (w.toNat+1) (A.filter λr=>decide (hd r=k)) λr _=>yP _ (n_ p d) r;have l:(A.filter λr=>decide (hd r=k)).length<=A.length:=TZ ..;have o:A.length*(w.toNat+1)<=36*8:=Vc g (by lia);exact SE h1 (SE (Nat.mul_le_mul_right _ l) (SE o (by decide)))
 .intro m q b;have h1:=Pz.bL m (box w z) q λx c=>by obtain⟨r,e,c⟩:=TN.mp (b x c);have:=tZ d (f r (SJ.mp e).1) c;exact TN.mpr ⟨x.1.toNat,SZ.mpr (by lia),Se.mpr ⟨x.2.toNat,SZ.mpr (by lia),VB (by show((x.1.toNat:Nat):Int)=x.1;lia) (by show((x.2.toNat:Nat):Int)=x.2;lia)⟩⟩
  have l:=vD (λa:Nat=>(List.range z.toNat).map λs=>(((a:Nat):Int),((s:Nat):Int))) z.toNat (List.range w.toNat) λx _=>by simp
  rw[V8]at l;have o:((w.toNat*z.toNat:Nat):Int)=w*z:=by rw[Int.natCast_mul];congr 1<;>lia
  have j:=h.m;have l:(box w z).length<=w.toNat*z.toNat:=l;lia
def B9(h:Bd w z)(b:∀r∈A,RR w z r)(d:A.length<=36)(e:w<=7):∃t,Nn cK w z A t/\FX A (t.map (·.1))/\∀a∈t.map (·.1),a∈hV w z w:=by
 have k:=h.m;obtain⟨t,G,i,f⟩:=B6 h.r.1 h.s.1 b (by lia) h.u;have c:∀a∈t.map (·.1),a∈hV w z w:=λa j=>by obtain⟨v,g⟩:=qV j;exact G.u a v g
 exact⟨t,⟨f,G.nd,by lia,by lia,IN h G.nd c b d e⟩,B8 G,c⟩
end
def MB{c d R S:Int}(r:0<c/\c<=R)(s:0<d/\d<=S)(a:R<=8)(b:S<=14)(h1:R*S<=28)(e:(R*S+13)*(R+1)<=300)(f:R.toNat*(S.toNat*R.toNat)<=128):Bd c d:=by have m:c*d<=R*S:=Int.mul_le_mul r.2 s.2 (by lia) (by lia);have p:0<c*d:=Int.mul_pos r.1 s.1;refine⟨by lia,by lia,by lia,Uz (Int.mul_le_mul (by lia) (by lia) (by lia) (by lia)) e,?_⟩;rw[B5];exact SE (Vc (by lia) (Vc (by lia) (by lia))) f
section
variable{Z:aD->List aD}{w v bU U:List aD}{n:Nat}
def B_(h:xm Z n w bU v)(P:aD->Prop)(b:∀k,P k->∀x∈Z k,P x)(h1:∀x∈w,P x)(g:∀x∈bU,P x):∀x∈v,P x:=by
 induction h with
 |done=>exact h1
 |old c r a=>exact a h1 λx hx=>g x (SH _ hx)
 |@new n w bU v h c e f r a=>
  have d:=g h (by simp);exact a (λx hx=>by grind) λx hx=>by
   rcases Sk.mp hx with hx|hx
   .exact g x (SH _ hx)
   .exact b h d x hx
def MC(h:xm Z n w bU v)(i:w.Nodup):v.Nodup:=by
 induction h with
 |done=>exact i
 |old d r c=>exact c i
 |@new n w bU v h d f g r c=>exact c (by rw[SX];exact⟨i,by simp,λa j b k e=>by rw[Sb.mp k]at e;exact d (e▸j)⟩)
def Ca(h:xm Z n w bU v):(∀x∈w,x∈v)/\∀x∈bU,x∈v:=by
 induction h with
 |done=>exact⟨λ_ h=>h,λ_ h=>nomatch h⟩
 |old c r a=>exact⟨a.1,λx b=>by grind⟩
 |new c d e r a=>exact⟨λx b=>a.1 x (by simp[b]),λx b=>by grind⟩
def Cb(h:xm Z n w bU v)(e:∀k∈w,∀x∈Z k,x∈w\/x∈bU):∀k∈v,∀x∈Z k,x∈v:=by
 induction h with
 |done=>exact λk a x b=>(e k a x b).elim id λh=>nomatch h
 |@old n w bU v h a r c=>exact c λk d x b=>by grind
 |@new n w bU v h a f g r c=>exact c λk d x b=>by grind
theorem ME(o:U.length<=63)(g:∀k,(Z k).length<=63/\∀x∈Z k,x∈U):∀(m:Nat)(w bU:List aD),(U.length-w.length)*64+bU.length<=m->m<=90000->w.Nodup->(∀x∈w,x∈U)->(∀x∈bU,x∈U)->∃n v,xm Z n w bU v:=by
 intro m;induction m with
 |zero=>intro w bU h _ _ _ _;have:bU=[]:=S6.mp (by lia);subst this;exact⟨0,w,.done⟩
 |succ m i=>
  intro w bU h u q j hd;by_cases e:bU=[]
  .subst e;exact⟨0,w,.done⟩
  obtain⟨d,x,rfl⟩ : ∃d x,bU=d++[x]:=⟨bU.dropLast,bU.getLast e,(UB _).symm⟩;rw[Sm,SY]at h;by_cases f:x∈w
  .obtain⟨n,v,r⟩:=i w d (by lia) (by lia) q j λy hy=>hd y (SH _ hy);exact⟨n+1,v,.old f r⟩
  .have c:(w++[x]).Nodup:=by rw[SX];exact⟨q,by simp,λa s b t e=>by rw[Sb.mp t]at e;exact f (e▸s)⟩
   have sub:∀y∈w++[x],y∈U:=λy hy=>by grind
   have l:=Pz.bL _ U c sub;have p:=(g x).1;rw[Sm,SY]at l;obtain⟨n,v,r⟩:=i (w++[x]) (d++Z x) (by rw[Sm,Sm,SY];lia) (by lia) c sub λy hy=>by
    rcases Sk.mp hy with hy|hy
    .exact hd y (SH _ hy)
    .exact(g x).2 y hy
   exact⟨n+1,v,.new f (by lia) (by lia) r⟩
end
section
variable{Z:aD->List aD}{F:List aD}
noncomputable def cN(Z:aD->List aD)(P:List aD)(k:aD):Nat:=((Z k).filter λx=>decide (x∉P)).length
def Cc(Z:aD->List aD)(e:List aD):Prop:=∀b k a,e=b++k::a->∀x∈Z k,x∈b
structure q_(Z:aD->List aD) (F a:List aD) (S:KS):Prop where
 nd:S.ended.Nodup
 sub:∀x∈S.ended,x∈F
 pd:∀x,x∈S.ended↔x∈a\/x∈S.bU
 dj:(a++S.bU).Nodup
 cnt:∀k∈F,S.N k=(cN Z a k:Nat)
 MS:∀k∈F,(k∈S.ended↔cN Z a k=0)
 ord:Cc Z S.ended
def E5{e l:List aD}(h:Cc Z e)(f:∀k∈l,∀x∈Z k,x∈e):Cc Z (e++l):=by
 intro i k c m x d;by_cases b:i.length<e.length
 .have h1:e=i++k::(e.drop (i.length+1)):=by
   have:=T_ (List.take e.length) m;rw[List.take_left]at this;have j:=T_ (λl=>(l:List aD)[i.length]?) m;simp only[T4 (R7 _),Nat.sub_self,VU]at j;rw[Uj b]at j;have n:=T_ (List.take i.length) m;rw[List.take_left,Wg (by lia)]at n;rw[<- n]
   conv=>lhs;rw[<- T2 i.length e]
   congr 1;rw[TC,Nat.min_eq_left (by lia)];exact Vx b▸(by rw[R_ b]at j;cases j;rfl)
  exact h i k _ h1 x d
 .have j:=T_ (λl=>(l:List aD)[i.length]?) m;simp only[T4 (R7 _),Nat.sub_self,VU]at j;rw[T4 (by lia)]at j;have g:=SB j;have a:=f k g x d;have n:=T_ (List.take e.length) m;rw[List.take_left,Wg (by lia)]at n;rw[n]at a;exact Uh a
def Pe:∀(l:List aD)(S:KS),l.Nodup->(l.foldl fB S).ended=S.ended++l.filter (λk=>decide (S.N k-1=0))/\(l.foldl fB S).bU=S.bU++l.filter (λk=>decide (S.N k-1=0))/\∀k,(l.foldl fB S).N k=if k∈l then S.N k-1 else S.N k:=by
 intro l;induction l with
 |nil=>intro S _;simp
 |cons a l d=>
  intro S j;rw[Tz]at j;obtain⟨f,g,h⟩:=d (fB S a) j.2;have c:∀k,k≠a->(fB S a).N k=S.N k:=λk b=>cg b;have m:(fB S a).N a=S.N a-1:=bK;have i:l.filter (λk=>decide ((fB S a).N k-1=0))=l.filter (λk=>decide (S.N k-1=0)):=List.filter_congr λk b=>by rw[c k λe=>j.1 (e▸b)]
  rw[Ul,f,g,i,T7];refine⟨?_,?_,λk=>?_⟩
  .show(if S.N a-1=0 then S.ended++[a]else S.ended)++_=_;by_cases e:S.N a-1=0
   .rw[Sg e,Sg (Sz e),SV];rfl
   .rw[Sj e,Sj (by rwa[Uw])]
  .show(if S.N a-1=0 then S.bU++[a]else S.bU)++_=_;by_cases e:S.N a-1=0
   .rw[Sg e,Sg (Sz e),SV];rfl
   .rw[Sj e,Sj (by rwa[Uw])]
  .rw[h k];by_cases e:k=a
   .subst e;rw[Sj j.1,m,Sg (by simp)]
   .rw[c k e];simp[e]
def IQ(d:∀k,(Z k).Nodup)(j:F.Nodup)(k:aD):(gc (g_ Z F) k).Nodup/\∀h,h∈gc (g_ Z F) k↔h∈F/\k∈Z h:=by
 have m:∀h,h∈gc (g_ Z F) k↔h∈F/\k∈Z h:=λh=>by
  unfold gc g_;simp only[Se,SJ,TN,Uw];constructor
  .rintro⟨⟨a,b⟩,⟨⟨x,f,y,c,e⟩,n⟩,rfl⟩;cases e;cases n;exact⟨f,c⟩
  .rintro⟨h1,p⟩;exact⟨(h,k),⟨⟨h,h1,k,p,rfl⟩,rfl⟩,rfl⟩
 refine⟨?_,m⟩;clear m;induction F with
 |nil=>exact S1
 |cons x l g=>
  rw[Tz]at j;have e:gc (g_ Z (x::l)) k=((Z x).filter λo=>decide (o=k)).map (λ_=>x)++gc (g_ Z l) k:=by unfold gc g_;rw[Ue,Tt,SN,List.filter_map,Tg];rfl
  have i:((Z x).filter λo=>decide (o=k)).length<=1:=by
   have h1:=(d x).filter (λo=>decide (o=k));have:=Pz.bL _ [k] h1 λy c=>by simpa using(SJ.mp c).2
   simpa using this
  rw[e,SX];refine⟨?_,g j.2,λa q b s e=>?_⟩
  .rcases h:(Z x).filter (λo=>decide (o=k))with _|⟨y,_|⟨z,r⟩⟩
   .exact S1
   .simp
   .rw[h]at i;simp at i
  .obtain⟨_,_,rfl⟩:=Se.mp q;exact j.1 (e▸BK s)
def E6{P:List aD}{k x:aD}(b:(Z k).Nodup)(c:x∉P):cN Z (P++[x]) k=if x∈Z k then cN Z P k-1 else cN Z P k:=by
 unfold cN;generalize Z k=l at b;induction l with
 |nil=>simp
 |cons y l a=>
  rw[Tz]at b;have a:=a b.2;rw[T7,T7];by_cases e:y=x
  .subst e;rw[Sj (by simp),Sg (Sz c),Sg (by simp),a,Sj b.1];simp
  .have h1:(decide (y∉P++[x])=true)↔(decide (y∉P)=true):=by simp[e]
   by_cases f:decide (y∉P)=true
   .rw[Sg (h1.mpr f),Sg f,SG,a,SG];by_cases d:x∈l
    .rw[Sg d,Sg (by simp[d])];have:0<(l.filter λz=>decide (z∉P)).length:=VY (SJ.mpr ⟨d,by simpa using c⟩);lia
    .rw[Sj d,Sj (by simp[d,Tp e])]
   .rw[Sj (λh=>f (h1.mp h)),Sj f,a];simp[Tp e]
def cN_zero{P:List aD}{k:aD}:cN Z P k=0↔∀x∈Z k,x∈P:=by unfold cN;rw[S6,List.filter_eq_nil_iff];simp
def q_.turn(m:∀k,(Z k).Nodup)(D:F.Nodup){c:List aD}{N:aD->Int}{q bU:List aD}{p:aD}(h:q_ Z F c ⟨N,q,bU++[p]⟩):q_ Z F (c++[p]) ((gc (g_ Z F) p).foldl fB ⟨N,q,bU⟩):=by
 obtain⟨B,sub,r,s,cnt,v,ord⟩:=h;obtain⟨i,w⟩:=IQ m D p;obtain⟨g,j,n⟩:=Pe (gc (g_ Z F) p) ⟨N,q,bU⟩ i;generalize gc (g_ Z F) p=bl at *;dsimp only at B sub r s cnt v ord g j n;have lp:p∉c:=λz=>by rw[<- SV,SX]at s;exact s.2.2 p (SH _ z) p (by simp) rfl
 have new:∀k,k∈bl.filter (λk=>decide (N k-1=0))↔(k∈F/\p∈Z k)/\cN Z c k=1:=λk=>by
  rw[SJ,w,Uw];constructor
  .rintro⟨h1,y⟩;refine⟨h1,?_⟩;rw[cnt k h1.1]at y;lia
  .rintro⟨h1,y⟩;refine⟨h1,?_⟩;rw[cnt k h1.1];lia
 have l:∀k,cN Z (c++[p]) k=if p∈Z k then cN Z c k-1 else cN Z c k:=λk=>E6 (m k) lp;have d:∀k,k∈bl.filter (λk=>decide (N k-1=0))->k∉q:=λk f z=>by obtain⟨⟨h1,y⟩,t⟩:=(new k).mp f;rw[(v k h1).mp z]at t;cases t
 refine⟨?_,?_,λx=>?_,?_,λk f=>?_,λk f=>?_,?_⟩
 .rw[g,SX];exact⟨B,i.filter _,λa u b A e=>d b A (e▸u)⟩
 .rw[g];intro x hx;rcases Sk.mp hx with hx|hx
  .exact sub x hx
  .exact((new x).mp hx).1.1
 .rw[g,j];have:=r x;simp only[Sk,Sb]at this ⊢
  grind
 .rw[j];have h1:(c++[p]++bU).Nodup:=by
   have:(c++[p]++bU).Perm (c++(bU++[p])):=by rw[SV];exact List.Perm.append_left _ List.perm_append_comm
   exact this.nodup_iff.mpr s
  rw[<- SV,SX];refine⟨h1,i.filter _,λa u b A e=>d b A ((r b).mpr ?_)⟩;rw[e]at u;simp only[Sk,Sb]at u ⊢
  grind
 .rw[n k,l k];have C:=cnt k f;by_cases e:k∈bl
  .have o:=((w k).mp e).2;rw[Sg e,Sg o,C];have:cN Z c k≠0:=λz=>lp (cN_zero.mp z p o);lia
  .rw[Sj e,Sj λz=>e ((w k).mpr ⟨f,z⟩),C]
 .rw[g,Sk,new,v k f,l k];by_cases e:p∈Z k
  .rw[Sg e];have:cN Z c k≠0:=λz=>lp (cN_zero.mp z p e);constructor
   .rintro (h|h)<;>lia
   .intro h;exact .inr ⟨⟨f,e⟩,by lia⟩
  .rw[Sj e];constructor
   .rintro (h|h)
    .exact h
    .exact absurd h.1.2 e
   .exact .inl
 .rw[g];refine E5 ord λk f x hx=>(r x).mpr ?_;have t:=(new k).mp f;have E:cN Z (c++[p]) k=0:=by rw[l,Sg t.1.2];lia
  have:=cN_zero.mp E x hx;simp only[Sk,Sb]at this ⊢
  grind
def q_.first(g:∀k∈F,∀x∈Z k,x∈F)(i:F.Nodup):q_ Z F [] (rF Z F):=by
 have b:∀k,cN Z [] k=(Z k).length:=λk=>by unfold cN;simp
 have c:∀k,k∈F.filter (λk=>decide (lJ Z k=0))↔k∈F/\Z k=[]:=λk=>by rw[SJ,Uw];unfold lJ;rw[show(((Z k).length:Nat):Int)=0↔(Z k).length=0 from by lia,S6]
 refine⟨i.filter _,λx a=>(SJ.mp a).1,λx=>?_,?_,λk d=>?_,λk d=>?_,λj k f e x a=>?_⟩
 .simp[rF]
 .rw[Vo];exact i.filter _
 .rw[b];rfl
 .rw[b];show k∈F.filter (λk=>decide (lJ Z k=0))↔_;rw[c,S6];exact⟨λh=>h.2,λh=>⟨d,h⟩⟩
 .have:k∈F.filter (λk=>decide (lJ Z k=0)):=by show k∈(rF Z F).ended;rw[e];simp
  rw[((c k).mp this).2]at a;cases a
def IR(d:∀k,(Z k).Nodup)(j:F.Nodup){n:Nat}{S c:KS}(h:KL (gc (g_ Z F)) n S c):∀a,q_ Z F a S->∃b,q_ Z F b c/\c.bU=[]:=by
 induction h with
 |done h=>exact λa i=>⟨a,i,h⟩
 |step f g r e=>exact λa i=>e _ (i.turn d j)
def MF(f:∀k,(Z k).Nodup/\(Z k).length<=63)(p:F.Nodup)(g:F.length<=63):∀(m:Nat)(a:List aD)(S:KS),F.length-a.length<=m->q_ Z F a S->∃b,KL (gc (g_ Z F)) m S b:=by
 have h:∀l,(gc (g_ Z F) l).length<=63*63:=λl=>SE (wR _ _) (SE (wU (λk=>(f k).2) F) (VH _ g));intro m;induction m with
 |zero=>
  intro a S q i;by_cases e:S.bU=[]
  .exact⟨S,.done e⟩
  exfalso;have h1:=Pz.bL _ F i.dj λx c=>i.sub x ((i.pd x).mpr (Sk.mp c));have o:0<S.bU.length:=VG.mpr e;rw[Sm]at h1;lia
 |succ m j=>
  intro a S q i;by_cases e:S.bU=[]
  .exact⟨S,.done e⟩
  obtain⟨N,n,bU⟩:=S;dsimp only at e;obtain⟨d,x,rfl⟩ : ∃d x,bU=d++[x]:=⟨bU.dropLast,bU.getLast e,(UB _).symm⟩;have h1:=Pz.bL _ F i.dj λx c=>i.sub x ((i.pd x).mpr (Sk.mp c));have o:=Pz.bL _ F i.nd i.sub;dsimp only at h1 o;simp only[Sm,SY]at h1;obtain⟨b,r⟩:=j (a++[x]) _ (by simp;lia) (i.turn (λk=>(f k).1) p);have:=h x;exact⟨b,.step (by lia) (by lia) r⟩
end
section
variable{Z:aD->List aD}{D C w E:List aD}{h F:aD}
def out_iff{k:aD}:iN D k=true↔k∉D:=by unfold iN;simp
theorem MG(l:∀k∈C,∀x∈Z k,x∈C)(v:∀k∈C,k∉D->∃x∈Z k,x∉D)(o:C.length<=63):∀(m:Nat)(w:List aD)(h:aD),C.length-w.length<=m->w.Nodup->(∀x∈w,x∈C)->h∈C->h∉D->∃E F,CG Z D C (m+1) w h E F:=by
 intro m;induction m with
 |zero=>
  intro w h A p sub h1 u;by_cases e:h∈w
  .exact⟨w,h,.done e⟩
  have:=Pz.bL (w++[h]) C (by rw[SX];exact⟨p,by simp,λa s b t z=>by rw[Sb.mp t]at z;exact e (z▸s)⟩) λx f=>by grind
  rw[Sm,SY]at this;lia
 |succ m n=>
  intro w h A p sub h1 u;by_cases e:h∈w
  .exact⟨w,h,.done e⟩
  have d:(w++[h]).Nodup:=by rw[SX];exact⟨p,by simp,λa s b t z=>by rw[Sb.mp t]at z;exact e (z▸s)⟩
  have c:∀x∈w++[h],x∈C:=λx f=>by grind
  have B:=Pz.bL (w++[h]) C d c;rw[Sm,SY]at B;obtain⟨x,f,g⟩:=v h h1 u;cases i:(Z h).filter (iN D)with
  |nil=>exact absurd (out_iff.mpr g) (List.filter_eq_nil_iff.mp i x f)
  |cons y r=>have j:=SJ.mp (show y∈(Z h).filter (iN D) by rw[i];simp);obtain⟨E,F,q⟩:=n (w++[h]) y (by simp;lia) d c (l h h1 y j.1) (out_iff.mp j.2);exact⟨E,F,.step e h1 (by lia) (by rw[i];rfl) q⟩
end
def vE{l z c:List Int}(h:xo l z)(j:xo l c):z=c:=by
 have g:∀{z c:List Int},z.Pairwise (·< ·)->c.Pairwise (·< ·)->(∀x,x∈z↔x∈c)->z=c:=λ{z c} p f m=>by
  induction z generalizing c with
  |nil=>cases c with
   |nil=>rfl
   |cons b t=>exact absurd ((m b).mpr (by simp)) (by simp)
  |cons a t i=>cases c with
   |nil=>exact absurd ((m a).mp (by simp)) (by simp)
   |cons b k=>
    rw[VO]at p f;have e:a=b:=by
     rcases Sq.mp ((m a).mp (by simp))with e|h1
     .exact e
     .rcases Sq.mp ((m b).mpr (by simp))with e|h2
      .exact e.symm
      .have:=p.1 b h2;have:=f.1 a h1;lia
    subst e;rw[i p.2 f.2 λx=>?_];have:=m x;simp only[Sq]at this;constructor
    .intro d;rcases this.mp (.inr d)with e|h
     .subst e;exact absurd (p.1 x d) (by lia)
     .exact h
    .intro d;rcases this.mpr (.inr d)with e|h
     .subst e;exact absurd (f.1 x d) (by lia)
     .exact h
 exact g h.p j.p λx=>(h.m x).trans (j.m x).symm
def Cd{F:aD->List Int}{i:Int}{st r c:List Int}{k a:List aD}(h:kr F i st r k)(j:kr F i st c a):r=c/\k=a:=by
 induction h generalizing c a with
 |nil=>
  generalize e:([]:List Int)=s at j;cases j with
  |nil=>exact⟨rfl,rfl⟩
  |snoc=>simp at e
 |@snoc st d k s b h l g=>
  generalize e:st++[s]=p at j;cases j with
  |nil=>simp at e
  |snoc m f=>obtain⟨n,o⟩:=List.append_inj' e rfl;subst n;cases o;obtain⟨rfl,rfl⟩:=g m;exact⟨vE l f,rfl⟩
def zb(c:List aD)(F:aD->List Int):Int->List Int->Prop
 |_,[]=>True
 |a,s::st=>(a,s)∈c/\∀b∈F (a,s),zb c F b st
def E7{l:List aD}{F:aD->List Int}{k:Int}{st r:List Int}{n:List aD}(h:kr F k st r n)(e:∀x∈n,x∈l):∀rest,(∀b∈r,zb l F b rest)->zb l F k (st++rest):=by
 induction h with
 |nil=>exact λrest h=>h k (by simp)
 |@snoc st d n s a h p f=>intro rest g;rw[SV];refine f (λx i=>e x (by simp[i])) _ λb o=>⟨e _ (by simp;exact .inr o),λc j=>g c ((p.m c).mpr (TN.mpr ⟨b,o,j⟩))⟩
section
variable{E:List Sp.Rule}{C:List Sp.Arr}{D:List aD}
def behind_iff{a b c:Int}:c∈aX C (a,b)↔(a,b,c)∈C:=by refine⟨λh=>?_,fH⟩;obtain⟨⟨x,y,z⟩,d,e⟩:=Se.mp h;have h1:=SJ.mp d;have f:(x,y)=(a,b):=SO h1.2;cases f;have e:z=c:=e;subst e;exact h1.1
def Ce(i:∀r∈E,r.2.2.2.length<=2)(f:FX E C)(j:∀k∈D,∀x∈Ls C E k,x∈D){x y:Rw}(v:yH E x y)(c:zb D (aX C) x.1 x.2):zb D (aX C) y.1 y.2:=by
 obtain⟨r,e,w,rfl,rfl⟩:=v;have g:=i r e;obtain⟨a,s,t,put⟩:=r;obtain⟨A,u⟩:=c;have h:∀z∈bF (aX C) (a,s,t,put),z∈D:=λz B=>j _ A z (B7 e B);rcases put with _|⟨p,_|⟨q,_|⟨o,l⟩⟩⟩
 .exact u t (fH (f.n _ _ _ e))
 .exact⟨h (t,p) (by show _∈[(t,p)];simp),λb m=>u b (fH (f.o _ _ _ _ _ e (behind_iff.mp m)))⟩
 .refine⟨h (t,p) (Sa),λb m=>⟨h (b,q) (Sf _ (Se.mpr ⟨b,m,rfl⟩)),λd hd=>u d (fH (f.t _ _ _ _ _ _ _ e (behind_iff.mp m) (behind_iff.mp hd)))⟩⟩
 .simp at g
end
section
variable{C E:Int}{F:List Sp.Rule}{D:List Sp.Arr}{B:Int}{G:List Int}
structure gu(C E:Int) (F:List Sp.Rule) (D:List Sp.Arr) (B:Int) (G:List Int):Prop where
 b:Bd C E
 r:C<=7
 a:∀r∈F,RR C E r
 c:FX F D
 nd:D.Nodup
 u:∀a∈D,a∈hV C E C
 m:0<=B/\B<C
 s:∀x∈G,0<=x/\x<E
 l:G.length<=200
def xa{x:aD}(h1:0<=x.1/\x.1<C)(a:0<=x.2/\x.2<E):x∈box C E:=TN.mpr ⟨x.1.toNat,SZ.mpr (by lia),Se.mpr ⟨x.2.toNat,SZ.mpr (by lia),VB (by show((x.1.toNat:Nat):Int)=x.1;lia) (by show((x.2.toNat:Nat):Int)=x.2;lia)⟩⟩
def qW(h:Bd C E):(box C E).length<=28:=by
 have c:=vD (λa:Nat=>(List.range E.toNat).map λs=>(((a:Nat):Int),((s:Nat):Int))) E.toNat (List.range C.toNat) λx _=>by simp
 rw[V8]at c;have d:((C.toNat*E.toNat:Nat):Int)=C*E:=by have:=h.r;have:=h.s;rw[Int.natCast_mul];congr 1<;>lia
 have b:=h.m;have c:(box C E).length<=C.toNat*E.toNat:=c;lia
def gu.ls(g:gu C E F D B G){k x:aD}(h:x∈Ls D F k):x∈box C E:=by obtain⟨r,b,c⟩:=TN.mp h;have:=tZ g.u (g.a r (SJ.mp b).1) c;exact xa this.1 this.2
def sU{l z:List aD}(h:oo l z):z.Nodup:=h.p.imp λ{a b} h e=>by subst e;exact qQ h
def gu.z(g:gu C E F D B G){Z:aD->List aD}(a:∀k,oo (Ls D F k) (Z k))(k:aD):(Z k).Nodup/\(Z k).length<=63/\∀x∈Z k,x∈box C E:=by have sub:∀x∈Z k,x∈box C E:=λx c=>g.ls (((a k).m x).mp c);have:=Pz.bL _ _ (sU (a k)) sub;have:=qW g.b;exact⟨sU (a k),by lia,sub⟩
def gu.eL(g:gu C E F D B G):yT (aX D) ((List.range C.toNat).map λi=>((i:Nat):Int)):=by refine⟨λk=>SE (n_ g.nd g.u k) (by have:=g.r;lia),λk x b=>?_,by have:=g.r;rw[R9,V8];lia⟩;obtain⟨a,c,rfl⟩:=Se.mp b;have:0<=a.2.2/\a.2.2<C:=(univ_mem.mp (g.u a (SJ.mp c).1)).2.2;exact Se.mpr ⟨a.2.2.toNat,SZ.mpr (by lia),by lia⟩
def gu.own(g:gu C E F D B G){st a:List Int}{j:List aD}(h:kr (aX D) B st a j)(b:∀x∈st,0<=x/\x<E):(∀x∈a,0<=x/\x<C)/\∀x∈j,x∈box C E:=by
 induction h with
 |nil=>exact⟨λx hx=>by rw[Sb.mp hx];exact g.m,λ_ h=>nomatch h⟩
 |@snoc st a j s c h k d=>
  obtain⟨e,f⟩:=d λx hx=>b x (by simp[hx]);refine⟨λx hx=>?_,λx hx=>?_⟩
  .obtain⟨r,_,hx⟩:=TN.mp ((k.m x).mp hx);have:=univ_mem.mp (g.u _ (behind_iff.mp hx));exact this.2.2
  .rcases Sk.mp hx with hx|hx
   .exact f x hx
   .obtain⟨r,i,rfl⟩:=Se.mp hx;exact xa (e r i) (b s (by simp))
def gu.am(g:gu C E F D B G):BD F D B G:=by intro Z e a c ow;obtain⟨_,f⟩:=g.own ow g.s;have bl:=qW g.b;have d:=(ow.eL g.eL (Se.mpr ⟨B.toNat,SZ.mpr (by have:=g.m;lia),by have:=g.m;lia⟩)).2;have:=g.l;exact ME (U:=box C E) (by lia) (λk=>(g.z c k).2) _ [] e (R7 _) (by simp;lia) S1 (λ_ h=>nomatch h) f
structure Ak(F:List Sp.Rule) (D:List Sp.Arr) (B:Int) (G:List Int) (Z:aD->List aD) (a:List aD):Prop where
 nd:a.Nodup
 n:a.length<=63
 c:∀k∈a,∀x∈Z k,x∈a
 v:zb a (aX D) B G
theorem gu.box(g:gu C E F D B G){Z:aD->List aD}{d:List aD}(h:ua F D B G Z d):∀x∈d,x∈box C E:=by obtain⟨b,e,a,n,ow,am⟩:=h;exact B_ am (·∈ W.box C E) (λk _ x c=>(g.z b k).2.2 x c) (λ_ h=>nomatch h) (g.own ow g.s).2
theorem gu.ak(g:gu C E F D B G){Z:aD->List aD}{f:List aD}(h:ua F D B G Z f):Ak F D B G Z f:=by have sub:=g.box h;obtain⟨e,j,a,n,ow,am⟩:=h;have i:=MC am S1;have:=Pz.bL _ _ i sub;have:=qW g.b;have c:=E7 ow (Ca am).2 [] λ_ _=>⟨⟩;rw[Tj]at c;exact⟨i,by lia,Cb am (λk d=>nomatch d),c⟩
def qX{Z f:aD->List aD}{s a:List aD}(h:ua F D B G Z s)(t:ua F D B G f a):Z=f/\∀x∈s,x∈a:=by obtain⟨l,v,g,n,ow,u⟩:=h;obtain⟨b,o,d,r,i,c⟩:=t;have e:Z=f:=funext λk=>kO (l k).p (b k).p λx=>((l k).m x).trans ((b k).m x).symm;subst e;obtain⟨_,rfl⟩:=Cd ow i;exact⟨rfl,B_ u (·∈ a) (λk j x q=>Cb c (λk j=>nomatch j) k j x q) (λ_ h=>nomatch h) (Ca c).2⟩
def gu.kl(g:gu C E F D B G){Z:aD->List aD}{o:List aD}{n:Nat}{b:KS}(h:ua F D B G Z o)(l:KL (gc (g_ Z o)) n (rF Z o) b):b.ended.Nodup/\b.ended.length<=63/\(∀k∈o,k∉b.ended->∃x∈Z k,x∉b.ended)/\Cc Z b.ended/\∀x∈b.ended,x∈o:=by
 have A:=g.ak h;obtain⟨a,i,e⟩:=IR (λk=>(g.z h.s k).1) A.nd l [] (.first A.c A.nd);have le:=Pz.bL _ o i.nd i.sub;refine⟨i.nd,by have:=A.n;lia,λk f j=>?_,i.ord,i.sub⟩;have h1:¬cN Z a k=0:=λz=>j ((i.MS k f).mpr z);rw[cN_zero]at h1;have h1:∃x∈Z k,x∉a:=by apply S3;intro z;exact h1 λx d=>S3 λq=>z ⟨x,d,q⟩
 obtain⟨x,d,m⟩:=h1;refine⟨x,d,λz=>?_⟩;rcases(i.pd x).mp z with q|q
 .exact m q
 .rw[e]at q;cases q
def gu.rg(g:gu C E F D B G):Ep F D B G:=by intro Z i h;have A:=g.ak h;have b:q_ Z i [] (rF Z i):=.first A.c A.nd;obtain⟨a,l⟩:=MF (λk=>⟨(g.z h.s k).1,(g.z h.s k).2.1⟩) A.nd A.n _ [] _ (R7 _) b;obtain⟨o,p,d,_⟩:=g.kl h l;refine⟨A.nd,by have:=A.n;lia,λk=>(g.z h.s k).2.1,_,a,l,o,by lia,λj r e=>?_⟩;have m:=SJ.mp (show j∈i.filter (iN a.ended) by rw[e];simp);obtain⟨w,f,q⟩:=MG A.c d A.n _ [] j (R7 _) S1 (λ_ h=>nomatch h) m.1 (out_iff.mp m.2);exact⟨_,w,f,q⟩
def IS{l:List aD}{i:Nat}{y:aD}(h:l[i]?=some y):l=l.take i++y::l.drop (i+1):=by have:=T2 (i+1) l;rw[Sv,h,SV]at this;exact this.symm
def xb{Z:aD->List aD}{m o n:List aD}(f:Cc Z m)(g:∀k∈n,∀x∈Z k,x∈n)(q:∀k∈n,k∉o->∃x∈Z k,x∉o):∀x∈m,x∈n->x∈o:=by
 have a:∀i,∀x∈m.take i,x∈n->x∈o:=λi=>by
  induction i with
  |zero=>exact λ_ h=>nomatch h
  |succ i b=>
   cases c:m[i]? with
   |none=>rw[Sv,c];simpa using b
   |some y=>
    rw[Sv,c];intro x hx d;rcases Sk.mp hx with hx|hx
    .exact b x hx d
    .have e:x=y:=by simpa using hx
     subst e;apply S3;intro j;obtain⟨z,p,l⟩:=q x d j;exact l (b z (f _ x _ (IS c) z p) (g x d z p))
 exact λx hx=>a m.length x (by rwa[SU])
def E8{e c:List aD}(d:e.Nodup)(sub:∀x∈e,x∈c)(h:¬e.length<c.length):∀x∈c,x∈e:=by
 intro x a;apply S3;intro b;have:=Pz.bL (x::e) c (Tz.mpr ⟨b,d⟩) λy hy=>by
  rcases Sq.mp hy with rfl|hy
  .exact a
  .exact sub y hy
 simp at this;lia
def xc{e c:List aD}(d:c.Nodup)(h:e.length<c.length):∃k∈c,k∉e:=by apply S3;intro a;have:=Pz.bL c e d λx b=>S3 λz=>a ⟨x,b,z⟩;lia
def gu.all(g:gu C E F D B G){Z:aD->List aD}{b:List aD}{n:Nat}{a:KS}(h:ua F D B G Z b)(l:KL (gc (g_ Z b)) n (rF Z b) a)(f:¬a.ended.length<b.length):(∀x∈b,x∈a.ended)/\a.ended.length=b.length:=by obtain⟨c,_,_,_,sub⟩:=g.kl h l;have:=Pz.bL _ b c sub;exact⟨E8 c sub f,by lia⟩
theorem gu.sub(g:gu C E F D B G){Z b:aD->List aD}{j a:List aD}{n f:Nat}{S d:KS}(h:ua F D B G Z j)(l:KL (gc (g_ Z j)) n (rF Z j) S)(m:ua F D B G b a)(i:KL (gc (g_ b a)) f (rF b a) d):∀x∈S.ended,x∈d.ended:=by obtain⟨rfl,sub⟩:=qX h m;obtain⟨_,_,_,o,s⟩:=g.kl h l;obtain⟨_,_,k,_,_⟩:=g.kl m i;exact λx e=>xb o (g.ak m).c k x e (sub x (s x e))
def gu.RK(g:gu C E F D B G)(h:ra F D B G)(o:vN F D B G none):False:=by
 obtain⟨a,d,f⟩:=h;cases o with
 |@no Z q n i c j e=>obtain⟨k,l,p⟩:=xc (g.ak a).nd f;have b:=(qX a c).2 k l;have m:k∈i.ended:=S3 λz=>absurd (out_iff.mpr z) (List.filter_eq_nil_iff.mp e _ b);exact p (g.sub c j a d k m)
def gu.Pp(g:gu C E F D B G){p:List aD}(h:yR F D B G)(s:vN F D B G (some p)):False:=by
 obtain⟨a,b,d⟩:=h;cases s with
 |@yes Z t r w n m j f l k c i e q x=>have o:=SJ.mp (show l∈t.filter (iN f.ended) by rw[e];simp);exact out_iff.mp o.2 (g.sub a b c i l ((g.all a b d).1 l ((qX c a).2 l o.1)))
end
section
variable{J:List Sp.Rule}{K:List Sp.Arr}{x y z:Rw}{n m:Nat}
def gr(h:kA J n x y)(b:kA J m y z):kA J (n+m) x z:=by
 induction b with
 |z=>exact h
 |s _ st a=>exact .s (a h) st
def fI(h:kA J n x z):(n=0/\z=x)\/∃y k,n=k+1/\yH J x y/\kA J k y z:=by
 induction h with
 |z=>exact .inl ⟨rfl,rfl⟩
 |@s n x y z h st a=>
  rcases a with⟨rfl,rfl⟩|⟨u,k,rfl,h1,b⟩
  .exact .inr ⟨z,0,rfl,st,.z⟩
  .exact .inr ⟨u,k+1,rfl,h1,.s b st⟩
theorem qY(h:yH J x y):kA J 1 x y:=.s .z h
def E9{a:Int}(h:yH J (a,[]) y):False:=by obtain⟨r,_,w,e,_⟩:=h;cases e
def vF{a:Int}(h:kA J n (a,[]) y):n=0/\y=(a,[]):=by
 rcases fI h with h|⟨_,_,_,h,_⟩
 .exact h
 .exact(E9 h).elim
theorem qZ{a:Int}{u w:List Int}(h:kA J n (a,u) y):kA J n (a,u++w) (y.1,y.2++w):=by
 generalize e:(a,u)=x at h;induction h with
 |z=>subst e;exact .z
 |@s n x y z h st b=>obtain⟨r,c,d,rfl,rfl⟩:=st;exact .s (b e) ⟨r,c,d++w,rfl,by rw[SV]⟩
theorem oa{a:Int}{u w:List Int}(h:kA J n (a,u++w) y):(∃g,y.2=g++w/\kA J n (a,u) (y.1,g))\/∃b k j,n=k+j/\kA J k (a,u) (b,[])/\kA J j (b,w) y:=by
 generalize e:(a,u++w)=x at h;induction h with
 |z=>subst e;exact .inl ⟨u,rfl,.z⟩
 |@s n x y z h st c=>
  rcases c e with⟨g,i,h1⟩|⟨b,k,j,rfl,h1,l⟩
  .cases g with
   |nil=>exact .inr ⟨y.1,n,1,rfl,h1,qY (by rw[show(y.1,w)=y from VB rfl (by rw[i];rfl)];exact st)⟩
   |cons s g=>obtain⟨r,d,f,rfl,rfl⟩:=st;injection i with e2 e3;refine .inl ⟨r.2.2.2++g,by rw[e3,SV];rfl,.s h1 ⟨r,d,g,by rw[<- e2],rfl⟩⟩
  .exact .inr ⟨b,k,j+1,rfl,h1,.s l st⟩
abbrev Cf(J:List Sp.Rule)(k:aD)(n:Int):Prop:=∃(j:Nat)(y:Rw),n=(j:Nat)/\kA J j (k.1,[k.2]) y
abbrev xf(J:List Sp.Rule)(k:aD)(b n:Int):Prop:=∃j:Nat,n=(j:Nat)/\kA J j (k.1,[k.2]) (b,[])
theorem wp_iff:∀{st:List Int}{a c b n:Int},WP (xf J) st a c b n↔∃j:Nat,n=c+(j:Nat)/\kA J j (a,st) (b,[]):=by
 intro st;induction st with
 |nil=>
  intro a c b n;constructor
  .rintro⟨rfl,rfl⟩;exact⟨0,by lia,.z⟩
  .rintro⟨j,e,h⟩;obtain⟨rfl,o⟩:=vF h;cases o;exact⟨rfl,by lia⟩
 |cons s st d=>
  intro a c b n;constructor
  .rintro⟨f,m,⟨j,rfl,h1⟩,l⟩;obtain⟨g,e,l⟩:=d.mp l;exact⟨j+g,by lia,gr (qZ (w:=st) h1) l⟩
  .rintro⟨j,e,h⟩;rcases oa (u:=[s]) (w:=st) h with⟨q,p,h1⟩|⟨f,k,i,rfl,h1,l⟩
   .obtain⟨rfl,rfl⟩:=List.nil_eq_append_iff.mp p;exact⟨b,j,⟨j,rfl,h1⟩,rfl,e⟩
   .exact⟨f,k,⟨k,rfl,h1⟩,d.mpr ⟨i,by lia,l⟩⟩
theorem wa_iff:∀{st:List Int}{a c n:Int},(n=c\/WA (Cf J) (xf J) st a c n)↔∃(j:Nat)(y:Rw),n=c+(j:Nat)/\kA J j (a,st) y:=by
 intro st;induction st with
 |nil=>
  intro a c n;constructor
  .rintro (rfl|h)
   .exact⟨0,_,by lia,.z⟩
   .exact h.elim
  .rintro⟨j,y,e,h⟩;obtain⟨rfl,_⟩:=vF h;exact .inl (by lia)
 |cons s st d=>
  intro a c n;constructor
  .rintro (rfl|⟨m,⟨j,y,rfl,h⟩,rfl⟩|⟨b,m,⟨j,rfl,h1⟩,g⟩)
   .exact⟨0,_,by lia,.z⟩
   .exact⟨j,_,rfl,qZ (w:=st) h⟩
   .obtain⟨i,y,e,g⟩:=d.mp (.inr g);exact⟨j+i,y,by lia,gr (qZ (w:=st) h1) g⟩
  .rintro⟨j,y,e,h⟩;right;rcases oa (u:=[s]) (w:=st) h with⟨l,o,h1⟩|⟨f,k,i,rfl,h1,g⟩
   .exact .inl ⟨j,⟨j,_,rfl,h1⟩,e⟩
   .rcases (d (a:=f) (c:=c+(k:Nat))).mpr ⟨i,y,rfl,g⟩with p|h3
    .exact .inl ⟨k,⟨k,_,rfl,h1⟩,by lia⟩
    .exact .inr ⟨f,k,⟨k,rfl,h1⟩,by rwa[e,Int.natCast_add,<- Int.add_assoc]⟩
theorem wn_iff{x:Rw}{n:Int}:Wn (Cf J) (xf J) x n↔∃(j:Nat)(y:Rw),n=(j:Nat)/\kA J j x y:=by rw[Wn,wa_iff];constructor<;>rintro⟨j,y,e,h⟩<;>exact⟨j,y,by lia,h⟩
def stp_one{k:aD}:yH J (k.1,[k.2]) z↔∃r∈J,hd r=k/\z=(r.2.2.1,r.2.2.2):=by
 constructor
 .rintro⟨r,a,w,e,rfl⟩;injection e with e1 e2;injection e2 with e2 e3;subst e3;exact⟨r,a,VB e1.symm e2.symm,by rw[Tj]⟩
 .rintro⟨r,a,rfl,rfl⟩;exact⟨r,a,[],rfl,by rw[Tj]⟩
theorem IT{k:aD}{n:Int}:Cf J k n↔n=0\/∃r∈J,hd r=k/\(n=1\/WA (Cf J) (xf J) r.2.2.2 r.2.2.1 1 n):=by
 constructor
 .rintro⟨j,y,rfl,h⟩;rcases fI h with⟨rfl,_⟩|⟨z,i,rfl,h1,c⟩
  .exact .inl rfl
  .obtain⟨r,a,b,rfl⟩:=stp_one.mp h1;exact .inr ⟨r,a,b,wa_iff.mpr ⟨i,y,by lia,c⟩⟩
 .rintro (rfl|⟨r,a,b,h⟩)
  .exact⟨0,_,rfl,.z⟩
  .obtain⟨j,y,e,h⟩:=wa_iff.mp h;exact⟨1+j,y,by lia,gr (qY (stp_one.mpr ⟨r,a,b,rfl⟩)) h⟩
theorem IU{k:aD}{b n:Int}:xf J k b n↔∃r∈J,hd r=k/\WP (xf J) r.2.2.2 r.2.2.1 1 b n:=by
 constructor
 .rintro⟨j,rfl,h⟩;rcases fI h with⟨rfl,e⟩|⟨z,i,rfl,h1,d⟩
  .cases e
  .obtain⟨r,a,c,rfl⟩:=stp_one.mp h1;exact⟨r,a,c,wp_iff.mpr ⟨i,by lia,d⟩⟩
 .rintro⟨r,a,c,h⟩;obtain⟨j,e,h⟩:=wp_iff.mp h;exact⟨1+j,by lia,gr (qY (stp_one.mpr ⟨r,a,c,rfl⟩)) h⟩
theorem IV(v:∀r∈J,r.2.2.2.length<=2)(f:FX J K):∀(i n:Nat)(a s b:Int),n<=i->kA J n (a,[s]) (b,[])->(a,s,b)∈K:=by
 intro i;induction i with
 |zero=>
  intro n a s b A h;rcases fI h with⟨_,e⟩|⟨_,k,e,_⟩
  .cases e
  .lia
 |succ i g=>
  intro n a s b A h;rcases fI h with⟨_,e⟩|⟨z,k,rfl,h1,F⟩
  .cases e
  .obtain⟨⟨D,E,t,put⟩,d,B,rfl⟩:=(stp_one (k:=(a,s))).mp h1;injection B with G e2;subst G;subst e2;have j:=v _ d;rcases put with _|⟨p,_|⟨q,_|⟨o,l⟩⟩⟩
   .obtain⟨_,e⟩:=vF F;cases e;exact f.n _ _ _ d
   .exact f.o _ _ _ _ _ d (g k t p b (by lia) F)
   .rcases oa (u:=[p]) (w:=[q]) F with⟨H,G,_⟩|⟨c,k1,k2,e,I,C⟩
    .cases H<;>cases G
    .exact f.t _ _ _ _ _ _ _ d (g k1 t p c (by lia) I) (g k2 c q b (by lia) C)
   .simp at j
theorem Cg{x:Rw}{m:Int}{A:List Int}(C:MaxI (Wn (Cf J) (xf J) x) m)(B:aN (λy n=>MaxI (Wn (Cf J) (xf J) y) n) (EN J x.1 x.2) A):(A=[]->m=0)/\∀n∈A,(∀i∈A,i<=n)->m=1+n:=by
 obtain⟨j,z,l,g⟩:=wn_iff.mp C.1;have back:∀{y},yH J x y->∃n∈A,MaxI (Wn (Cf J) (xf J) y) n:=λa=>by obtain⟨i,b⟩:=SC.mp (nxt_stp.mpr a);have t:=B.len;have o:=(Si.mp b).1;obtain⟨u,h,D⟩:=B.get (R_ (show i<A.length by lia));rw[b]at h;cases h;exact⟨_,Wf _,D⟩
 constructor
 .intro e;rcases fI g with⟨rfl,_⟩|⟨y,k,_,h1,_⟩
  .exact l
  .obtain⟨n,c,_⟩:=back h1;rw[e]at c;cases c
 .intro n c p;obtain⟨i,b⟩:=SC.mp c;obtain⟨y,q,a⟩:=B.get b;have st:=nxt_stp.mp (SB q);obtain⟨r,s,G,h1⟩:=wn_iff.mp a.1;have H:=C.2 (1+n) (wn_iff.mpr ⟨1+r,s,by lia,gr (qY st) h1⟩);have v:=a.2 0 (.inl rfl);rcases fI g with⟨rfl,_⟩|⟨w,k,rfl,h1,E⟩
  .lia
  .obtain⟨F,d,f⟩:=back h1;have:=p F d;have:=f.2 k (wn_iff.mpr ⟨k,z,rfl,E⟩);lia
def IW{i e:List aD}{F:aD->List Int}{PG:aD->Int->Int->Prop}(d:∀k b m,PG k b m->b∈F k)(f:∀x∈i,x∈e):∀{st:List Int}{a:Int},zb i F a st->WC PG e st a:=by
 intro st;induction st with
 |nil=>exact λ_=>⟨⟩
 |cons s st g=>exact λc=>⟨f _ c.1,λb m h=>g (c.2 b (d _ _ _ h))⟩
def E_{l:List aD}{F:aD->List Int}{a:Int}{st r:List Int}{o:List aD}(h:kr F a st r o):∀rest,zb l F a (st++rest)->(∀x∈o,x∈l)/\∀b∈r,zb l F b rest:=by
 induction h with
 |nil=>exact λrest c=>⟨(λ_ h=>nomatch h),λb k=>by rwa[Sb.mp k]⟩
 |@snoc st e o s d h p i=>
  intro rest c;rw[SV]at c;obtain⟨j,g⟩:=i _ c;refine⟨λx hx=>?_,λb k=>?_⟩
  .rcases Sk.mp hx with hx|hx
   .exact j x hx
   .obtain⟨r,f,rfl⟩:=Se.mp hx;exact(g r f).1
  .obtain⟨r,f,k⟩:=TN.mp ((p.m b).mp k);exact(g r f).2 b k
end
section
variable{O P:Int}{L:List Sp.Rule}{M:List Sp.Arr}{K:Int}{N:List Int}
def gu.pg(g:gu O P L M K N){k:aD}{b m:Int}(h:xf L k b m):b∈aX M k:=by obtain⟨j,_,h⟩:=h;exact fH (IV (λr d=>(g.a r d).p) g.c j j _ _ _ (R7 _) h)
def gu.lg(g:gu O P L M K N):Ji L M K N (Cf L) (xf L) ((List.range O.toNat).map λi=>((i:Nat):Int)):=by
 have c:∀{b:Int},0<=b/\b<O->b∈(List.range O.toNat).map λi=>((i:Nat):Int):=λh=>Se.mpr ⟨_,SZ.mpr (by lia),U4 h.1⟩;refine⟨λk b m ⟨j,e,_⟩=>by lia,λk b m h=>g.eL.u _ b (g.pg h),g.eL.l,λk n=>IT,λk b n=>IU,λr d=>c (g.a r d).t,c g.m,λZ C h r d e y=>?_,λZ C n A h l f=>?_⟩
 .have B:∀x∈bF (aX M) r,x∈e:=λx z=>y x (((h.s _).m x).mpr (B7 d z));have w:=(g.a r d).p;obtain⟨a,s,t,put⟩:=r;rcases put with _|⟨p,_|⟨q,_|⟨o,l⟩⟩⟩
  .exact ⟨⟩
  .exact⟨B _ (lA rfl),λ_ _ _=>⟨⟩⟩
  .exact⟨B _ (lA rfl),λb m D=>⟨B (b,q) (Sf _ (Se.mpr ⟨b,g.pg D,rfl⟩)),λ_ _ _=>⟨⟩⟩⟩
  .simp at w
 .exact IW (λk b m h=>g.pg h) (g.all h l f).1 (g.ak h).v
def gu.Qb(g:gu O P L M K N):Jy L M (Cf L) (xf L) ((List.range O.toNat).map λi=>((i:Nat):Int)) (K,N):=⟨⟨_,g.eL,Se.mpr ⟨K.toNat,SZ.mpr (by have:=g.m;lia),by have:=g.m;lia⟩⟩,by have:=g.l;show N.length<900;lia,g.am,g.rg,λZ c n b a l=>(g.kl a l).2.2.2,g.lg⟩
def gu.to(g:gu O P L M K N)(i:N.length<=5){F:List aD}(j:∀k∈F,∀x∈Ls M L k,x∈F)(l:zb F (aX M) K N){n:Nat}{y:Rw}(C:n<=102)(h:kA L n (K,N) y):gu O P L M y.1 y.2/\zb F (aX M) y.1 y.2:=by
 have f:∀{n y},kA L n (K,N) y->(0<=y.1/\y.1<O)/\(∀x∈y.2,0<=x/\x<P)/\y.2.length<=5+n/\zb F (aX M) y.1 y.2:=λ{n y} h=>by
  generalize e:(K,N)=x at h;induction h with
  |z=>subst e;exact⟨g.m,g.s,i,l⟩
  |@s n x y z h st o=>
   obtain⟨D,v,E,A⟩:=o e;have c:=Ce (λr d=>(g.a r d).p) g.c j st A;have G:=(wW (λr d=>(g.a r d).p) st).1;obtain⟨r,d,w,rfl,rfl⟩:=st;refine⟨(g.a r d).t,λx hx=>?_,by lia,c⟩;rcases Sk.mp hx with hx|hx
   .exact(g.a r d).q x hx
   .exact v x (Sf _ hx)
 obtain⟨k1,k2,H,B⟩:=f h;exact⟨⟨g.b,g.r,g.a,g.c,g.nd,g.u,k1,k2,by lia⟩,B⟩
def gu.go(g:gu O P L M K N)(l:N.length<=5)(h:yR L M K N){n:Nat}{y:Rw}(q:n<=102)(r:kA L n (K,N) y):Jy L M (Cf L) (xf L) ((List.range O.toNat).map λi=>((i:Nat):Int)) y/\(ra L M y.1 y.2->False):=by
 obtain @⟨Z,ks,i,S,ga,l1,f1⟩:=h;have A:=g.ak ga;have t:∀k∈ks,∀x∈Ls M L k,x∈ks:=λk a x d=>A.c k a x (((ga.s k).m x).mpr d);obtain⟨e,u⟩:=g.to l t A.v q r;refine⟨e.Qb,λ⟨b,w,z⟩=>?_⟩;rename_i C f E F;have B:=e.ak b;have D:C=Z:=funext λk=>kO (b.s k).p (ga.s k).p λx=>((b.s k).m x).trans ((ga.s k).m x).symm;subst D;have sub:∀x∈f,x∈ks:=by obtain⟨_,I,j,J,ow,am⟩:=b;exact B_ am (·∈ ks) (λk a x d=>A.c k a x d) (λ_ h=>nomatch h) (E_ ow [] (by rwa[Tj])).1
 obtain⟨_,_,_,o,_⟩:=g.kl ga l1;obtain⟨_,_,G,_,_⟩:=e.kl b w;obtain⟨k,a,H⟩:=xc B.nd z;exact H (xb o B.c G k ((g.all ga l1 f1).1 k (sub k a)) a)
def gu.sx(g:gu O P L M K N)(a:N.length<=5):Pi (Cf L) (xf L) ((List.range O.toNat).map λi=>((i:Nat):Int)) L M K N:=⟨g.Qb,g.RK,λh e=>g.Pp h,λh k y b=>g.go a h b,λx m f=>Cg,λk y n h c=>by obtain⟨j,z,rfl,d⟩:=wn_iff.mp c;exact wn_iff.mpr ⟨k+j,z,by lia,gr h d⟩⟩
end
def IX(l:List Int)(f:l.length<=63):w6 [.lst (l.map .int)]=.ok (.val (.bl true) true []):=by
 obtain⟨n,o⟩:=lZ l 0 (by decide);obtain⟨y,k,p⟩:=tY n;obtain⟨q,u⟩:=lZ l 1 (by decide);obtain⟨d,v⟩:=lZ l 2 (by decide);obtain⟨place,_,w⟩:=tY d;have h:Bd (1+y%2) (2+y/2%4):=MB (R:=2) (S:=5) (by lia) (by lia) (by decide) (by decide) (by decide) (by decide) (by decide);have a:(1+y%2)*(2+y/2%4)<=12:=by have:(1+y%2)*(2+y/2%4)<=2*5:=Int.mul_le_mul (by lia) (by lia) (by lia) (by lia);lia
 exact EU ⟨l,n,q,y,d,place,rfl,h.r,h.s,a,by lia,f,o,p,u,v,w,lZ l 3 (by decide),λx e b=>by obtain⟨t,P,i,j⟩:=B9 h e b (by lia);refine⟨t,P,λz A c=>?_⟩;have m:0<=place%(1+y%2)/\place%(1+y%2)<1+y%2:=⟨Int.emod_nonneg _ (by lia),Int.emod_lt_of_pos _ (by lia)⟩;have g:gu (1+y%2) (2+y/2%4) x (t.map (·.1)) (place%(1+y%2)) z:=⟨h,by lia,e,i,P.nd,j,m,c,by lia⟩;exact⟨_,_,_,g.sx A⟩⟩
end W
open PySem PySem.W PyProof.Rows
set_option maxRecDepth 100000 in
set_option maxHeartbeats 0 in
theorem PySem.Challenge.cw_callwalk_k46_longest_holds : PySem.Challenge.rw_callwalk_k46_longest.Holds := by
 w_on;refine PySem.W.Ea ?_
 k_fill
 refine L2.AD (l:=PySem.Challenge.rw_callwalk_k46_longest) (n:=63) (k:=13) (x:="_law_script") (CX:=fun w=>L2.xH PySem.Challenge.pw_callwalk_k46_longest w) (sp:=fun _=>L3.MY W.w6) rfl (by decide) rfl ⟨rfl,by decide,by decide⟩ (fun w h Y=>PySem.W.kIn_of Y) ?kL ?F ?S ?C
 case kL=>exact fun w=>⟨by rfl,by rfl⟩
 case F=>
  intro w mg fa h KX G hmg
  refine' Exists.imp (fun _ z=>⟨z.1,fun base _ _=>z.2 base⟩) (W.IL hmg ?_)
  refine' (W.MA KX G L2.xS (L4.fk ?_ ?_ ?_) (L4.fk ?_ ?_ ?_) (L4.fk ?_ ?_ ?_) (L4.fk ?_ ?_ ?_) (L4.fk ?_ ?_ ?_) (L4.fk ?_ ?_ ?_) (L4.fk ?_ ?_ ?_) (L4.fk ?_ ?_ ?_) (L4.fk ?_ ?_ ?_) (L4.fk ?_ ?_ ?_) (L4.fk ?_ ?_ ?_) (L4.fk ?_ ?_ ?_) (L4.fk ?_ ?_ ?_) (L4.fk ?_ ?_ ?_) (L4.fk ?_ ?_ ?_) (L4.fk ?_ ?_ ?_) (L4.fk ?_ ?_ ?_) (L4.fk ?_ ?_ ?_) (L4.fk ?_ ?_ ?_) (L4.fk ?_ ?_ ?_) (L4.fk ?_ ?_ ?_) (L4.fk ?_ ?_ ?_) (L4.fk ?_ ?_ ?_) (L4.fk ?_ ?_ ?_) (L4.fk ?_ ?_ ?_) (L4.fk ?_ ?_ ?_) (L4.fk ?_ ?_ ?_) (L4.fk ?_ ?_ ?_) (L4.fk ?_ ?_ ?_) (L4.fk ?_ ?_ ?_) ?_ ?_ ?_ ?_ ?_ ?_ ?_ ?_ ?_ ?_ ?_ ?_ ?_ ?b_Endless ?e_Endless ?gs ⟨?_,?_,?_,?_,?_,?_,?_⟩ ?_ ?_ ⟨?_,?_,?_,?_,?_,?_,?_⟩ ?_ ?_ ?_ ?_ ?_ (L4.mk ?_ ?_ ?_ ?_ ?_) (L4.mk ?_ ?_ ?_ ?_ ?_) (L4.mk ?_ ?_ ?_ ?_ ?_) (L4.mk ?_ ?_ ?_ ?_ ?_) (L4.mk ?_ ?_ ?_ ?_ ?_) (L4.mk ?_ ?_ ?_ ?_ ?_) (L4.mk ?_ ?_ ?_ ?_ ?_) (L4.mk ?_ ?_ ?_ ?_ ?_) (L4.mk ?_ ?_ ?_ ?_ ?_))
  (case b_Endless=>k_is)
  (case e_Endless=>k_exc)
  (case gs=>rfl)
  all_goals try k_is
 case S=>exact fun w H a ns hl hS=>L3.Hm (fun ns hn=>⟨_,_,W.IX ns hn⟩) H a ns hl hS
 case C=>exact fun _ _ _ _ _ z=>L3.Ho z
