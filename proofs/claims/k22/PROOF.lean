import PyProof.Rows.All
import Wide.All
import OpenK.AllK
import Wide.FinOn
import Lean
import PyProof.EqAt
import PyProof.EqKinds
import PyProof.TupleCall
import PyProof.ZipIter
import PyProof.AttrMissHeap
import PyProof.Walks
import PyProof.WalksS
import PySem.SetTable
import KE.KSortTup
import KE.KRevIter
import PyProof.Rows.SetFrom
import PyProof.CollectWalk
import PyProof.DictWalks
import PyProof.DictItems
import KE.KDictList
import PyProof.ListRange
import PyProof.EqAt
import PyProof.WalkInts
import PyProof.StrBlockG
import PyProof.SumWalk
import PyProof.Rows.TupIter
import PyProof.StrLawsIdx
import PyProof.CallStr
import PyProof.StrCalls2
import PyProof.StrWalks
import KE.KIntText
import PyProof.SetRoads
import PyProof.StrLawsTight
import PyProof.Rows.FStr
import PyProof.SumAny
import PyProof.Draws
import PyProof.EnumMake
import PyProof.ConsumeWalk
import PySem.Challenge.RW_callwalk_k22_nothing_is_less
set_option autoImplicit true
set_option Elab.async false
set_option linter.all false
set_option genSizeOf false
set_option genSizeOfSpec false
set_option compiler.extract_closed false
set_option maxRecDepth 100000
set_option maxHeartbeats 4000000
set_option bootstrap.genMatcherCode false
noncomputable section
abbrev Ic:=@PySem.wpAny_bind
abbrev Ie:=@PySem.Heap.get?_push_of_some
abbrev Ig:=@PySem.wpAny_pure
abbrev Ih:=@Nat.le_refl
abbrev Ii:=@List.mem_cons_of_mem
abbrev Ij:=@if_neg
abbrev Ik:=@List.length_map
abbrev Il:=@if_pos
abbrev Im:=@List.map_cons
abbrev Ip:=@List.mem_cons
abbrev Iq:=@List.mem_cons_self
abbrev Ir:=@List.mem_map
abbrev Iu:=@List.size_toArray
abbrev Iv:=@PySem.Heap.get?_push_size
abbrev Iw:=@List.length_cons
abbrev Iy:=@PySem.Heap.lt_size
abbrev Iz:=@List.getElem?_eq_some_iff
abbrev IA:=@decide_eq_true
abbrev IB:=@List.not_mem_nil
abbrev IC:=@List.mem_iff_getElem?
abbrev ID:=@List.length_append
abbrev IE:=@List.mem_singleton
abbrev IF:=@Bool.false_eq_true
abbrev IG:=@List.mem_append
abbrev IH:=@List.getElem?_map
abbrev II:=@Nat.ne_of_lt
abbrev IJ:=@decide_eq_false
abbrev IK:=@List.pairwise_iff_getElem
abbrev IL:=@Nat.le_trans
abbrev IM:=@Option.some.inj
abbrev IN:=@List.mem_range
abbrev IQ:=@Nat.lt_of_lt_of_le
abbrev IR:=@Nat.zero_le
abbrev IS:=@List.nodup_cons
abbrev IT:=@List.mem_append_left
abbrev IU:=@List.mem_append_right
abbrev IV:=@Bool.and_eq_true
abbrev IW:=@Array.getElem?_toList
abbrev IX:=@List.nodup_nil
abbrev IY:=@List.getElem?_set_self
abbrev IZ:=@PySem.F.plainAttrs_dict
abbrev I0:=@List.getElem?_append_right
abbrev I_:=@PySem.sizeLine_eq
abbrev Ja:=@Bool.false_ne_true
abbrev Jb:=@Nat.lt_of_le_of_lt
abbrev Jc:=@PySem.W.mg_none_of
abbrev Jd:=@List.getElem?_eq_getElem
abbrev Je:=@List.map_map
abbrev Jf:=@List.getElem?_set_ne
abbrev Jg:=@PySem.wpAny_newObj_type
abbrev Jh:=@PySem.wpAny_call_entry
abbrev Ji:=@of_decide_eq_true
abbrev Jj:=@List.mem_filter
abbrev Jk:=@List.map_append
abbrev Jl:=@PySem.PassesOwn.never
abbrev Jm:=@PySem.F.slot_dict_setdefault
abbrev Jn:=@Ne.symm
abbrev Jo:=@List.take_of_length_le
abbrev Jp:=@List.mem_of_getElem?
abbrev Jq:=@List.all_eq_true
abbrev Jr:=@List.length_nil
abbrev Js:=@List.append_nil
abbrev Jt:=@PyProof.Rows.slot_tuple_getitem
abbrev Ju:=@if_false
abbrev Jv:=@PySem.F.slot_dict_get
abbrev Jw:=@beq_eq_false_iff_ne
abbrev Jx:=@Array.length_toList
abbrev Jy:=@PySem.Heap.SameBut.update
abbrev Jz:=@Bool.not_true
abbrev JA:=@PySem.W.mg_of
abbrev JB:=@PySem.F.slot_dict_itemiterator_next
abbrev JC:=@Classical.byContradiction
abbrev JD:=@PySem.W.kia_one
abbrev JE:=@List.map_congr_left
abbrev JF:=@congrArg
abbrev JG:=@PySem.wpAny_setState_of
abbrev JH:=@List.length_range
abbrev JI:=@List.getElem?_cons_zero
abbrev JJ:=@Array.getElem?_eq_some_iff
abbrev JK:=@List.mem_of_mem_take
abbrev JL:=@Nat.zero_add
abbrev JM:=@Int.emod_lt_of_pos
abbrev JN:=@PySem.Calls.callWith_builtin
abbrev JO:=@Option.map_eq_some_iff
abbrev JP:=@Bool.false_and
abbrev JQ:=@List.getElem?_append_left
abbrev JR:=@PyProof.Rows.F.plain_set_update_loop
abbrev JS:=@Nat.shiftRight_eq_div_pow
abbrev JT:=@PySem.wpAny_holding
abbrev JU:=@PySem.Heap.get?_update_self
abbrev JV:=@PySem.F.slot_list_append
abbrev JW:=@PySem.F.type_list_append
abbrev JX:=@PySem.F.type_dict_setdefault
abbrev JY:=@PyProof.Rows.callWith_type1
abbrev JZ:=@PySem.Calls.spliced_cons
abbrev J0:=@PySem.wpAny_callSpecial?_slot
abbrev J1:=@List.find?_cons
abbrev J2:=@List.foldl_cons
abbrev J3:=@Prod.mk.injEq
abbrev J4:=@List.length_eq_zero_iff
abbrev J5:=@PySem.F.plainAttrs_list
abbrev J6:=@Int.eq_ofNat_of_zero_le
abbrev J7:=@List.getElem?_cons_succ
abbrev J8:=@List.length_take
abbrev J9:=@List.cons_append
abbrev J_:=@PySem.Heap.get?_update_other
abbrev Ka:=@PySem.F.entry_dict_get
abbrev Kb:=@PySem.wpAny_mono
abbrev Kc:=@PySem.mem_of_lookup
abbrev Ke:=@List.pairwise_map
abbrev Kf:=@List.append_assoc
abbrev Kg:=@List.flatMap_cons
abbrev Kh:=@List.any_cons
abbrev Ki:=@Bool.and_self
abbrev Kj:=@List.map_nil
abbrev Kk:=@Int.emod_nonneg
abbrev Kl:=@List.getElem?_eq_none
abbrev Km:=@PySem.wpAny_typeNameOfWhole_itemiter
abbrev Kn:=@List.nil_append
abbrev Ko:=@PySem.tupleKind_room_in1
abbrev Kp:=@List.pairwise_cons
abbrev Kq:=@List.Pairwise.imp_of_mem
abbrev Kr:=@Nat.add_sub_cancel_left
abbrev Ks:=@Bool.and_false
abbrev Kt:=@List.Perm.refl
abbrev Ku:=@List.nodup_append
abbrev Kv:=@List.foldl_append
abbrev Kw:=@decide_eq_true_eq
abbrev Kx:=@List.length_set
abbrev Ky:=@if_true
abbrev Kz:=@List.nodup_range
abbrev KA:=@List.take_append_drop
abbrev KB:=@Bool.true_and
abbrev KC:=@List.set_cons_zero
abbrev KD:=@List.set_cons_succ
abbrev KE:=@PySem.wpAny_typeNameOf_itemiter
abbrev KF:=@PySem.Calls.evalArgs_plain
abbrev KG:=@List.mem_of_mem_drop
abbrev KH:=@PySem.wpAny_passesOwn
abbrev KI:=@PySem.Calls.spliced_nil
abbrev KJ:=@PySem.Value.ref.injEq
abbrev KL:=@List.take_add_one
abbrev KM:=@PySem.call_meetsIn
abbrev KN:=@Int.le_trans
abbrev KO:=@List.getElem?_replicate
abbrev KP:=@PySem.F.args_dict_get_3
abbrev KQ:=@Nat.lt_succ_self
abbrev KR:=@List.length_drop
abbrev KS:=@List.filter_cons
abbrev KU:=@List.lookup_cons
abbrev KW:=@PySem.Heap.size_push
abbrev KY:=@Bool.not_false
abbrev KZ:=@Nat.mul_le_mul
abbrev K1:=@List.length_pos_of_mem
abbrev K3:=@PySem.wpAny_Call_Name_kw
abbrev K4:=@PySem.wpAny_setField_rec
abbrev K5:=@Bool.eq_iff_iff
abbrev K6:=@List.length_singleton
abbrev K7:=@PySem.codeAny_builtin
abbrev K8:=@Classical.choose_spec
abbrev K9:=@Nat.lt_irrefl
abbrev K_:=@beq_iff_eq
abbrev La:=@Prod.ext
abbrev Lb:=@Nat.lt_succ_of_lt
abbrev Lc:=@Int.fdiv_eq_ediv_of_nonneg
abbrev Ld:=@PySem.Obj.data_mapDictKeys
abbrev Le:=@List.mem_iff_getElem
abbrev Lf:=@List.length_take_le'
abbrev Lg:=@List.getElem?_zip_eq_some
abbrev Lh:=@PyProof.Rows.F.entry_set_update_loop
abbrev Li:=@Sum.inr.inj
abbrev Lj:=@List.filterMap_cons
abbrev Ll:=@PySem.Heap.SameBut.extBut
abbrev Lm:=@List.length_flatMap
abbrev Ln:=@Nat.ne_of_gt
abbrev Lo:=@List.length_erase_of_mem
abbrev Lp:=@PySem.Paired.length
abbrev Lq:=@List.mem_filterMap
abbrev Lr:=@PySem.W.KasT.kasWp_bind
abbrev Ls:=@List.filter_cons_of_neg
abbrev Lu:=@List.filter_cons_of_pos
abbrev Lw:=@Bool.and_true
abbrev Lx:=@PySem.wpAny_isOneOf_itemiter
abbrev Ly:=@PySem.wpAny_truthy_bool
abbrev Lz:=@PySem.wpAny_pyIter_list
abbrev LA:=@Int.toNat_natCast
abbrev LB:=@PySem.wpAny_field
abbrev LC:=@PySem.wpAny_Call_method
abbrev LD:=@Nat.lt_trichotomy
abbrev LF:=@bne_self_eq_false
abbrev LG:=@PySem.wpAny_pyIter_slot
abbrev LH:=@List.ext_getElem?
abbrev LI:=@PySem.wpAny_dictEntries
abbrev LJ:=@decide_true
abbrev LK:=@Prod.mk.inj
abbrev LL:=@Nat.le_of_lt
abbrev LM:=@PySem.codeAny_mono
abbrev LN:=@List.length_replicate
abbrev LO:=@PySem.wpAny_typeOf
abbrev LP:=@List.length_filter_le
abbrev LQ:=@PySem.F.type_dict_get
abbrev LR:=@PySem.F.args_dict_setdefault_3
abbrev LS:=@PySem.wpAny_notOrdered_dict
abbrev LU:=@List.set_getElem_self
abbrev LV:=@Int.le_of_lt
abbrev LW:=@decide_false
abbrev LX:=@Nat.max_self
abbrev LY:=@Nat.zero_max
abbrev LZ:=@Nat.max_zero
abbrev L0:=@Bool.not_not
abbrev L1:=@PySem.F.entry_dict_setdefault
abbrev L5:=@List.getElem_mem
abbrev L6:=@List.eq_nil_of_length_eq_zero
abbrev L7:=@List.mem_erase_of_ne
abbrev L8:=@List.pairwise_append
abbrev L9:=@PySem.Around.under_plainId
abbrev L_:=@List.sum_cons
abbrev Mb:=@Sum.inl.inj
abbrev Md:=@PySem.wpAny_execs_nil
abbrev Me:=@PySem.W.plainGet_of
abbrev Mf:=@Nat.add_le_add_left
abbrev Mg:=@List.getElem?_range
abbrev Mh:=@List.flatMap_append
abbrev Mi:=@List.length_pos_iff
abbrev Mj:=@Nat.mul_le_mul_left
abbrev Ml:=@PySem.W.callWith_K
abbrev Mm:=@Nat.lt_or_gt_of_ne
abbrev Mn:=@PySem.wpAny_setField
abbrev Mo:=@PySem.boot_len
abbrev Mp:=@PySem.wpAny_rule
abbrev Mq:=@PySem.W.kitx_dict
abbrev Mr:=@Option.isSome_map
abbrev Ms:=@Nat.le_of_lt_succ
abbrev Mv:=@List.getElem?_inj
abbrev Mw:=@Bool.false_or
abbrev Mx:=@Int.le_refl
abbrev My:=@Nat.mul_add
abbrev Mz:=@Nat.le_of_not_lt
abbrev MA:=@List.perm_middle
abbrev MB:=@Nat.le_of_eq
abbrev MC:=@Nat.add_comm
abbrev ME:=@List.all_map
abbrev MF:=@Nat.mod_lt
abbrev MG:=@or_false
abbrev MH:=PySem.Shared
abbrev MI:=PySem.W.Frag
abbrev MJ:=PySem.Program
abbrev MK:=PySem.Value
abbrev ML:=PySem.Around
theorem MR (h : True := by rfl) : True := h
theorem MM (h : True := by decide) : True := h
theorem MP (h : ∀ u : Unit, u = u := by intro _; rfl) : True := True.intro
theorem MN (h : True := by first|exact .inl rfl|exact .inr rfl|assumption) : True := h
theorem MO (h : True := by first|exact Or.inl rfl|exact Or.inr (Or.inl rfl)|exact Or.inr (Or.inr rfl)) : True := h
theorem MQ (h : True := by intro _ _; rfl) : True := h

namespace L2
open PySem PySem.Spec PyProof.Rows
noncomputable abbrev Key:=Sum Int Str
noncomputable def ko:Key->MK->Bool
 | .inl k,v=>Value.isInt k v
 | .inr x,v=>Value.isStrOf x v
noncomputable def G9 (w:World):Key->Int
 | .inl k=>hashInt k
 | .inr x=>hashStr w x
theorem aW:∀{k:Key}{v:MK},ko k v=true->(∃ i t,k=Sum.inl i/\v=Value.int i t)\/(∃ x t,k=Sum.inr x/\v=Value.str x t)
 | .inl i,v,h=>by obtain⟨t,e⟩:=Value.isInt_shape (k:=i) (v:=v) h;exact .inl ⟨i,t,rfl,e⟩
 | .inr x,v,h=>by obtain⟨t,e⟩:=Value.isStrOf_shape (x:=x) (v:=v) h;exact .inr ⟨x,t,rfl,e⟩
theorem xa (i:Int)(t:Tok):ko (.inl i) (.int i t)=true:=by simp[ko,Value.isInt]
theorem xb (x:Str)(t:Tok):ko (.inr x) (.str x t)=true:=by simp[ko,Value.isStrOf]
theorem DA (a b:Int):decide ((Sum.inl a:Key)=Sum.inl b)=(a==b):=by
 by_cases e:a=b
 .subst e;simp
 .have h:¬ (Sum.inl a:Key)=Sum.inl b:=λq=>e (Mb q);rw[IJ h];exact(Jw.mpr e).symm
theorem DB (a b:Str):decide ((Sum.inr a:Key)=Sum.inr b)=decide (a=b):=by
 by_cases e:a=b
 .subst e;simp
 .have h:¬ (Sum.inr a:Key)=Sum.inr b:=λq=>e (Li q);rw[IJ h,IJ e]
theorem DC (a:Int)(b:Str):decide ((Sum.inl a:Key)=Sum.inr b)=false:=IJ (λq=>nomatch q)
theorem DD (a:Str)(b:Int):decide ((Sum.inr a:Key)=Sum.inl b)=false:=IJ (λq=>nomatch q)
noncomputable def aB (prog:MJ)(w:World):PySem.KeyKind prog w Key where
 is:=ko
 hash:=G9 w
 inj:=λv a b ha hb=>by
  rcases aW ha with⟨i,t,rfl,rfl⟩|⟨x,t,rfl,rfl⟩
  .rcases aW hb with⟨j,u,rfl,e⟩|⟨y,u,rfl,e⟩
   .injection e with e1 _;rw[e1]
   .exact nomatch e
  .rcases aW hb with⟨j,u,rfl,e⟩|⟨y,u,rfl,e⟩
   .exact nomatch e
   .injection e with e1 _;rw[e1]
 byValue:=λk v h=>by rcases aW h with⟨i,t,rfl,rfl⟩|⟨x,t,rfl,rfl⟩<;>rfl
 pyHash:=λhv h=>by
  rcases aW hv with⟨i,t,rfl,rfl⟩|⟨x,t,rfl,rfl⟩
  .exact wpAny_pyHash_int h
  .exact wpAny_pyHash_str h
 eqBool:=λhu hv h=>by
  rcases aW hu with⟨i,t,rfl,rfl⟩|⟨x,t,rfl,rfl⟩
  .rcases aW hv with⟨j,u,rfl,rfl⟩|⟨y,u,rfl,rfl⟩
   .rw[DA]at h;exact wpAny_eqBool_int h
   .rw[DC]at h;exact SeqAt.EqAt.int_str i t y u _ _ _ _ h
  .rcases aW hv with⟨j,u,rfl,rfl⟩|⟨y,u,rfl,rfl⟩
   .rw[DD]at h;exact SeqAt.EqAt.str_int x t j u _ _ _ _ h
   .rw[DB]at h;exact wpAny_eqBool_str h
 «strs»:=λk x t v h=>by
  rcases aW h with⟨i,u,rfl,e⟩|⟨y,u,rfl,e⟩
  .exact nomatch e
  .injection e with e1 _;subst e1;cases v<;>rfl
theorem sj (prog:MJ)(w:World)(i:Int)(t:Tok):(aB prog w).is (.inl i) (.int i t)=true:=xa i t
theorem sk (prog:MJ)(w:World)(x:Str)(t:Tok):(aB prog w).is (.inr x) (.str x t)=true:=xb x t
inductive V where
 |non|bl (b:Bool)|int (i:Int)|str (x:Str)|byt (b:Array UInt8)|flt (b:UInt64)|ref (a:Addr)|ty (n:String)
 deriving DecidableEq
noncomputable def RelV:V->MK->Prop
 | .non,u=>u=Value.none
 | .bl b,u=>u=Value.bool b
 | .int i,u=>∃ t,u=Value.int i t
 | .str x,u=>∃ t,u=Value.str x t
 | .byt b,u=>∃ t,u=Value.bytes b t
 | .flt b,u=>∃ t,u=Value.float b t
 | .ref a,u=>u=Value.ref a
 | .ty n,u=>u=Value.type n
noncomputable abbrev Vals:List V->List MK->Prop:=Paired RelV
theorem Vals.length {xs:List V}{us:List MK}(r:Vals xs us):xs.length=us.length:=Lp r
theorem Vals.get:∀{xs:List V}{us:List MK}{i:Nat}{x:V},Vals xs us->xs[i]?=some x->∃ u,us[i]?=some u/\RelV x u
 |_,_,_,_,.nil,e=>by simp at e
 |_,_,0,_,.cons r _,e=>by simp at e;subst e;exact⟨_,rfl,r⟩
 |_,_,i+1,x,.cons _ t,e=>by obtain⟨u,h1,h2⟩:=Vals.get (i:=i) (x:=x) t (by simpa using e);exact⟨u,by simpa using h1,h2⟩
theorem Vals.append:∀{xs ys:List V}{us ws:List MK},Vals xs us->Vals ys ws->Vals (xs++ys) (us++ws)
 |_,_,_,_,.nil,s=>s
 |_,_,_,_,.cons r t,s=>.cons r (Vals.append t s)
theorem Vals.take:∀{xs:List V}{us:List MK}(n:Nat),Vals xs us->Vals (xs.take n) (us.take n)
 |_,_,0,_=>.nil
 |_,_,_+1,.nil=>.nil
 |_,_,n+1,.cons r t=>.cons r (Vals.take n t)
theorem Vals.drop:∀{xs:List V}{us:List MK}(n:Nat),Vals xs us->Vals (xs.drop n) (us.drop n)
 |_,_,0,r=>r
 |_,_,_+1,.nil=>.nil
 |_,_,n+1,.cons _ t=>Vals.drop n t
noncomputable def RelO:Option V->Option MK->Prop
 |some v,some u=>RelV v u
 |none,none=>True
 |_,_=>False
noncomputable def KV {κ:Type}:List (κ×V)->List (κ×MK)->Prop:=Paired λ(p:κ×V)(q:κ×MK)=>p.1=q.1/\RelV p.2 q.2
noncomputable def kV:Key->V
 | .inl i=>.int i
 | .inr x=>.str x
inductive HO where
  
 |lst (xs:List V)
  
 |tup (xs:List V)
  
 |dK (kvs:List (Key×V))|dT (kvs:List (List Key×V))
  
 |set (S:Int->Bool) (n:Nat)
  
 |ins (C dx:Addr) (fs:List (Str×V))
  
 |own (x:Addr)
  
 |xd (fs:List (Str×V))
  
 |met (f x:Addr)
  
 |rng (lo hi:Int)
  
 |frz (o:Obj) (u:HO)
  
 |tbl (ps:Array MK)
  
 |ext (φ:Heap->Prop)
noncomputable abbrev Hp:=Addr->Option HO
noncomputable def aG (H:Hp)(a:Addr)(o:HO):Hp:=λb=>if b=a then some o else H b
theorem af {H:Hp}{a:Addr}{o:HO}:aG H a o a=some o:=by unfold aG;rw[Il rfl]
theorem ac {H:Hp}{a b:Addr}{o:HO}(h:b≠a):aG H a o b=H b:=by unfold aG;rw[Ij h]
theorem yL {H:Hp}{a b:Addr}{o u:HO}(h:H a=some o)(h':H b=some u)(d:o≠u):a≠b:=by intro e;subst e;rw[h]at h';exact d (IM h')
theorem ah {H:Hp}{a b:Addr}{o:HO}(h:H a=some o)(h':H b=none):a≠b:=by intro e;subst e;rw[h]at h';cases h'
section
variable (P:MJ)(w:World)
noncomputable def ObjOk (H:Hp)(h:Heap)(a:Addr):HO->Prop
 | .lst xs=>xs.length<=sizeLine/\∃(its:List MK)(n:Nat),Vals xs its/\h.get? a=some { cls:=.type "list",data:=.seq its.toArray n }
 | .tup xs=>xs.length<=sizeLine/\∃ its:List MK,Vals xs its/\IsTup h a its.toArray
 | .dK kvs=>kvs.length<=sizeLine/\(a==sysModules)=false/\∃ vs,KV kvs vs/\h.DictOf (aB P w) a vs
 | .dT kvs=>kvs.length<=sizeLine/\(a==sysModules)=false/\∃ xs:List (List Key×Addr×MK),
  Paired (λ(p:List Key×V)(q:List Key×Addr×MK)=>p.1=q.1/\H q.2.1=some (.tup (p.1.map kV))/\RelV p.2 q.2.2) kvs xs/\
  ∃ o es ep,h.get? a=some o/\o.ExactDict/\o.data=.dict es ep/\es.toList=xs.map (entryOfKey (tupleKind (aB P w)))/\(xs.map (·.1)).Nodup
 | .set S n=>h.SetOf (intKind P w) a S n
 | .ins C dx fs=>H dx=some (.own a)/\fs.length<=1000/\dx≠a/\h.get? a=some (PySem.W.instObj C dx)/\
  ∃ mA,h.Ns1 dx mA/\(∀ f,RelO (fs.lookup f) (mA f))/\PySem.Within mA (fs.map (·.1))
 | .own _=>∃ o,h.get? a=some o
 | .xd fs=>∃ mA,h.Ns1 a mA/\∀ f,RelO (fs.lookup f) (mA f)
 | .rng lo hi=>∃ t u v,h.get? a=some { cls:=.type "range",data:=.fields #[.int lo t,.int hi u,.int 1 v] }
 | .frz o u=>h.get? a=some o/\ObjOk H h a u
 | .tbl ps=>h.get? a=some { cls:=.none,data:=.fields ps }
 | .met f x=>h.get? a=some (PySem.W.methodObj (.ref f) (.ref x))
 | .ext φ=>φ h/\(∃ o,h.get? a=some o)/\∀ h1 h2:Heap,φ h1->(∀ o,h1.get? a=some o->h2.get? a=some o)->φ h2
def HOk (H:Hp)(h:Heap):Prop:=∀ a o,H a=some o->ObjOk P w H h a o
end
section
variable {P:MJ}{w:World}{H H':Hp}{h h':Heap}{a:Addr}{o:HO}
theorem ObjOk.lt (x:ObjOk P w H h a o):a<h.objs.size:=by
 cases o with
 |lst xs=>obtain⟨_,_,_,_,e⟩:=x;exact Iy e
 |tup xs=>obtain⟨_,_,_,p⟩:=x;exact p.lt
 |dK kvs=>obtain⟨_,_,_,_,o,_,_,e,_⟩:=x;exact Iy e
 |dT kvs=>obtain⟨_,_,_,_,o,_,_,e,_⟩:=x;exact Iy e
 |set S n=>obtain⟨o,_,_,_,e,_⟩:=x;exact Iy e
 |ins C dx fs=>obtain⟨_,_,_,e,_⟩:=x;exact Iy e
 |own y=>obtain⟨_,e⟩:=x;exact Iy e
 |xd fs=>obtain⟨_,⟨_,_,_,e,_⟩,_⟩:=x;exact Iy e
 |rng lo hi=>obtain⟨_,_,_,e⟩:=x;exact Iy e
 |frz ob u=>obtain⟨e,_⟩:=x;exact Iy e
 |tbl ps=>exact Iy (show h.get? a=some _ from x)
 |met f y=>exact Iy (show h.get? a=some _ from x)
 |ext φ=>obtain⟨_,⟨_,e⟩,_⟩:=x;exact Iy e
theorem Paired.mapP {α β:Type}{F G:α->β->Prop}:∀{l₁:List α}{l₂:List β},Paired F l₁ l₂->(∀ a b,F a b->G a b)->Paired G l₁ l₂
 |_,_,.nil,_=>.nil
 |_,_,.cons r t,f=>.cons (f _ _ r) (Paired.mapP t f)
theorem ObjOk.stay (x:ObjOk P w H h a o)(k:∀ b u,(b=a\/H b=some (.own a))->h.get? b=some u->h'.get? b=some u)
 (ho:∀ b,H b=some (.own a)->H' b=some (.own a)) (ht:∀ b xs,H b=some (.tup xs)->H' b=some (.tup xs)):ObjOk P w H' h' a o:=by
 induction o with
 |lst xs=>obtain⟨z,its,n,r,e⟩:=x;exact⟨z,its,n,r,k _ _ (.inl rfl) e⟩
 |tup xs=>obtain⟨z,its,r,ob,e,c⟩:=x;exact⟨z,its,r,ob,k _ _ (.inl rfl) e,c⟩
 |dK kvs=>obtain⟨z,y,vs,r,ob,es,ep,e,c⟩:=x;exact⟨z,y,vs,r,ob,es,ep,k _ _ (.inl rfl) e,c⟩
 |dT kvs=>obtain⟨z,y,xs,r,ob,es,ep,e,c⟩:=x;exact⟨z,y,xs,Paired.mapP r λp q z=>⟨z.1,ht _ _ z.2.1,z.2.2⟩,ob,es,ep,k _ _ (.inl rfl) e,c⟩
 |set S n=>obtain⟨ob,es,ep,t,e,c⟩:=x;exact⟨ob,es,ep,t,k _ _ (.inl rfl) e,c⟩
 |ins C dx fs=>obtain⟨d,z,ne,e,mA,⟨od,es,ep,e2,c⟩,r⟩:=x;exact⟨ho _ d,z,ne,k _ _ (.inl rfl) e,mA,⟨od,es,ep,k _ _ (.inr d) e2,c⟩,r⟩
 |own y=>obtain⟨ob,e⟩:=x;exact⟨ob,k _ _ (.inl rfl) e⟩
 |xd fs=>obtain⟨mA,⟨od,es,ep,e,c⟩,r⟩:=x;exact⟨mA,⟨od,es,ep,k _ _ (.inl rfl) e,c⟩,r⟩
 |rng lo hi=>obtain⟨t,u,v,e⟩:=x;exact⟨t,u,v,k _ _ (.inl rfl) e⟩
 |frz ob u ih=>obtain⟨e,q⟩:=x;exact⟨k _ _ (.inl rfl) e,ih q⟩
 |tbl ps=>have e:h.get? a=some { cls:=.none,data:=.fields ps }:=x;show h'.get? a=some { cls:=.none,data:=.fields ps };exact k a _ (.inl rfl) e
 |met f y=>have e:h.get? a=some (PySem.W.methodObj (.ref f) (.ref y)):=x;show h'.get? a=some (PySem.W.methodObj (.ref f) (.ref y));exact k a _ (.inl rfl) e
 |ext φ=>obtain⟨p,⟨o,e⟩,st⟩:=x;exact⟨st _ _ p λo q=>k _ _ (.inl rfl) q,⟨o,k _ _ (.inl rfl) e⟩,st⟩
theorem HOk.lt (x:HOk P w H h)(e:H a=some o):a<h.objs.size:=(x a o e).lt
theorem HOk.fresh (x:HOk P w H h)(e:h.objs.size<=a):H a=none:=by
 cases q:H a with
 |none=>rfl
 |some u=>exact absurd (IQ (x.lt q) e) (K9 _)
theorem HOk.kept (x:HOk P w H h)(k:∀ b u,h.get? b=some u->h'.get? b=some u):HOk P w H h':=λa o e=>(x a o e).stay (λb u _ q=>k b u q) (λ_ q=>q) λ_ _ q=>q
theorem HOk.laid (x:HOk P w H h)(k:∀ b u,h.get? b=some u->h'.get? b=some u)(hp:h.objs.size<=a)(new:ObjOk P w (aG H a o) h' a o):HOk P w (aG H a o) h':=λb u e=>by
 have hn:=x.fresh hp;by_cases hb:b=a
 .subst hb;rw[af]at e;cases e;exact new
 .rw[ac hb]at e;exact(x b u e).stay (λc v _ q=>k c v q) (λc q=>by rw[ac (ah q hn)];exact q) λc xs q=>by rw[ac (ah q hn)];exact q
end
def Rd (H:Hp)(a:Addr)(u:HO):Prop:=H a=some u\/∃ o,H a=some (.frz o u)
theorem Rd.ok {P:MJ}{w:World}{H:Hp}{h:Heap}{a:Addr}{u:HO}(r:Rd H a u)(x:HOk P w H h):ObjOk P w H h a u:=by
 rcases r with r|⟨o,r⟩
 .exact x a u r
 .obtain⟨_,q⟩:=x a _ r;exact q
noncomputable def FC:Option HO->Prop
 |some (.lst _)=>True
 |some (.dK _)=>True
 |some (.dT _)=>True
 |some (.set _ _)=>True
 |some (.ins _ _ _)=>True
 |some (.ext _)=>True
 |_=>False
section
variable {P:MJ}{w:World}{H:Hp}{h h':Heap}{x e:Addr}{o':HO}
theorem HOk.write (ok:HOk P w H h)(mu:FC (H x))(he:e=x\/H e=some (.own x))(k:∀ b u,b≠e->h.get? b=some u->h'.get? b=some u)(heo:∃ u,h'.get? e=some u)
 (new:ObjOk P w (aG H x o') h' x o'):HOk P w (aG H x o') h':=λb u q=>by
 have nown:∀ c y,H c=some (.own y)->c≠x:=λc y r z=>by subst z;rw[r]at mu;exact mu
 have ntup:∀ c xs,H c=some (.tup xs)->c≠x:=λc xs r z=>by subst z;rw[r]at mu;exact mu
 by_cases hb:b=x
 .subst hb;rw[af]at q;cases q;exact new
 .rw[ac hb]at q;by_cases hbe:b=e
  .have q':H b=some (.own x):=by
    rcases he with z|z
    .exact absurd (hbe.trans z) hb
    .rw[hbe];exact z
   rw[q]at q';cases q';obtain⟨v,hv⟩:=heo;exact⟨v,by rw[hbe];exact hv⟩
  .refine(ok b u q).stay (λc v hc r=>k c v ?_ r) (λc r=>by rw[ac (nown c b r)];exact r) λc xs r=>by rw[ac (ntup c xs r)];exact r
   rcases hc with rfl|hc
   .exact hbe
   .rintro rfl;rcases he with z|z
    .exact nown c b hc z
    .rw[hc]at z;cases z;exact hb rfl
end
def Qt (H:Hp)(b:Addr):Prop:=H b=none\/∃ xs,H b=some (.tup xs)
structure Un (fs ex:List Addr) (H H':Hp) (h h':Heap):Prop where
 keep:∀ b o,h.get? b=some o->Qt H b->b∉fs->b∉ex->h'.get? b=some o
 slot:∀ b o,h.get? b=some o->H b=none->b∈fs->b∉ex->∃ sl,h'.get? b=some { o with slots:=sl }
 free:∀ b o,h.get? b=some o->H b=none->b∉ex->H' b=none
 there:∀ b o,h.get? b=some o->b∉ex->∃ o',h'.get? b=some o'
 tups:∀ b xs,H b=some (.tup xs)->H' b=some (.tup xs)
 frzs:∀ b o u,H b=some (.frz o u)->H' b=some (.frz o u)
 tbls:∀ b ps,H b=some (.tbl ps)->∃ more,H' b=some (.tbl (ps++more))
section
variable {fs fs' ex ex':List Addr}{H H1 H2:Hp}{h h1 h2 h':Heap}{a x e:Addr}{o:HO}
theorem Un.any (u:Un fs ex H H1 h h1){b:Addr}{ob:Obj}(q:h.get? b=some ob)(n:H b=none)(hx:b∉ex):∃ sl,h1.get? b=some { ob with slots:=sl }:=by
 by_cases hb:b∈fs
 .exact u.slot b ob q n hb hx
 .exact⟨ob.slots,u.keep b ob q (.inl n) hb hx⟩
theorem Un.kept (k:∀ b u,h.get? b=some u->h'.get? b=some u):Un fs ex H H h h':=⟨λb ob q _ _ _=>k b ob q,λb ob q _ _ _=>⟨ob.slots,k b ob q⟩,λ_ _ _ n _=>n,λb ob q _=>⟨ob,k b ob q⟩,λ_ _ q=>q,λ_ _ _ q=>q,λ_ ps q=>⟨#[],by rw[q];simp⟩⟩
theorem Un.refl:Un fs ex H H h h:=Un.kept λ_ _ q=>q
theorem Un.laid (k:∀ b u,h.get? b=some u->h'.get? b=some u)(hp:h.objs.size<=a)(hn:H a=none):Un fs ex H (aG H a o) h h' where
 keep:=λb u q _ _ _=>k b u q
 slot:=λb u q _ _ _=>⟨u.slots,k b u q⟩
 free:=λb u q n _=>by rw[ac (II (IQ (Iy q) hp))];exact n
 there:=λb u q _=>⟨u,k b u q⟩
 tups:=λb xs q=>by rw[ac (ah q hn)];exact q
 frzs:=λb u xs q=>by rw[ac (ah q hn)];exact q
 tbls:=λb ps q=>⟨#[],by rw[ac (ah q hn),q];simp⟩
theorem Un.write (mu:FC (H x))(he:e=x\/H e=some (.own x))(k:∀ b u,b≠e->h.get? b=some u->h'.get? b=some u)(heo:∃ u,h'.get? e=some u):Un fs ex H (aG H x o) h h':=by
 have hx:∀ b,H b=none->b≠x:=λb n z=>by subst z;rw[n]at mu;exact mu
 have hb:∀ b,H b=none->b≠e:=λb n z=>by
  subst z;rcases he with r|r
  .exact hx b n r
  .rw[n]at r;cases r
 have hm:∀ b u,H b=some u->¬ FC (some u)->b≠x:=λb u q nm z=>by subst z;rw[q]at mu;exact nm mu
 refine⟨λb u q n _ _=>k b u (n.elim (hb b) λ⟨xs,ee⟩ z=>by rcases he with r|r;(·rw[<- r,<- z,ee]at mu;exact mu);(·rw[<- z,ee]at r;cases r)) q,λb u q n _ _=>⟨u.slots,k b u (hb b n) q⟩,λb u q n _=>by rw[ac (hx b n)];exact n,λb u q _=>?_,
  λb xs q=>by rw[ac (hm b _ q λz=>z)];exact q,λb u xs q=>by rw[ac (hm b _ q λz=>z)];exact q,λb ps q=>⟨#[],by rw[ac (hm b _ q λz=>z),q];simp⟩⟩
 by_cases hbe:b=e
 .subst hbe;exact heo
 .exact⟨u,k b u hbe q⟩
end
noncomputable def G0 (h:Heap)(H:Hp):List Addr:=(List.range h.objs.size).filter λa=>(H a).isSome
noncomputable def sn (h:Heap)(H:Hp):Heap:=PySem.W.hideAll h (G0 h H)
theorem xc (h:Heap)(H:Hp):(sn h H).objs.size=h.objs.size:=PySem.W.hideAll_size _ _
theorem sq {h:Heap}{H:Hp}{b:Addr}{o:Obj}(e:h.get? b=some o)(n:H b=none):(sn h H).get? b=some o:=PySem.W.hideAll_get _ e λhm=>by have q:(H b).isSome=true:=(Jj.mp hm).2;rw[n]at q;simp at q
theorem Ba {h:Heap}{H:Hp}{b:Addr}{o:Obj}(e:(sn h H).get? b=some o):h.get? b=some o/\H b=none:=by
 have e':h.get? b=some o:=PySem.W.of_hideAll (G0 h H) e;refine⟨e',?_⟩;cases q:H b with
 |none=>rfl
 |some x=>have hm:b∈G0 h H:=Jj.mpr ⟨IN.mpr (Iy e'),by simp[q]⟩;have z:(sn h H).get? b=none:=PySem.W.hideAll_none (G0 h H) hm;rw[z]at e;cases e
noncomputable def Bb (g h:Heap)(L:Addr):List (Addr×Obj):=(List.range h.objs.size).filterMap λa=>if a=L\/(g.get? a).isSome=true then none else (h.get? a).map λo=>(a,o)
noncomputable def rest (g h:Heap)(L d:Addr):List (Addr×Obj):=(Bb g h L).filter λp=>decide (p.1≠d)
noncomputable def HU:MK->V
 | .str x _=>.str x
 | .ref a=>.ref a
 |_=>.non
noncomputable def DE (o:Obj):Option (Addr×List V):=match o.cls with
 | .type n=>if n=="kt" then (match o.data with
  | .seq its _=>(match its.toList with
   | .ref a::r=>some (a,r.map HU)
   |_=>none)
  |_=>none) else none
 |_=>none
def WrT (K:MI)(H:Hp):Prop:=∀ p∈K,∀ a xs,DE p.2=some (a,xs)->H a=some (.tup xs)
structure Mod (K:MI) (mg:Str->Option MK) (base:Heap):Prop where
 kin:K.In base
 glob:base.Ns mainGlobals mg
 blt:∃ mb,base.Ns builtinsNs mb/\∀ x:Str,x≠"__name__"->mb x=bootBuiltins x
 nolimit:base.NoLimit
structure Cx where
 prog:MJ
 w:World
 K:MI
 mg:Str->Option MK
 base:Heap
 A:ML
 N:List Str
 s₀:MH
 H₀:Hp
 env:Env
 outer:List Env
 stack:List Env
 ex:List Addr
 fn:Str->Bool
 calm:Bool
 pn:List (Addr×Obj)
 xe:MK->MH->Prop
noncomputable def frs (l:List Env):List Addr:=l.filterMap (·.frame)
noncomputable abbrev Cx.fs (X:Cx):List Addr:=frs X.outer
def Vis (sc:Scope)(x:Str):Prop:=sc.names.lookup x=some .local\/sc.names.lookup x=some .cell\/sc.names.lookup x=some .free
def DF (sc:Scope)(x:Str):Prop:=sc.names.lookup x=some .local\/sc.names.lookup x=some .cell
def Look (env:Env)(h:Heap)(m:Str->Option MK)(x:Str)(u:MK):Prop:=(env.kindOf x=some .local/\m x=some u)\/((env.kindOf x=some .cell\/env.kindOf x=some .free)/\∃ c,env.cells.lookup x=some c/\h.IsCell c (some u))
structure Cx.Ok (X:Cx):Prop where
 mod:Mod X.K X.mg X.base
 kind:X.env.scope.kind=.function
 glob:X.env.globals=mainGlobals
 blt:X.env.builtins=builtinsNs
 above:X.s₀.heap.objs.size<=X.env.locals
 inj:∀ x y c,X.env.cells.lookup x=some c->X.env.cells.lookup y=some c->x=y
 has:∀ x,(X.env.kindOf x=some .cell\/X.env.kindOf x=some .free)->∃ c,X.env.cells.lookup x=some c
 cab:∀ x c,X.fn x=true->X.env.cells.lookup x=some c->X.s₀.heap.objs.size<=c
 hd:X.calm=true->X.A.handled=none
 frames:X.A.frames=some X.stack
 stk:X.stack=X.outer\/(X.stack=X.env::X.outer/\X.env.frame=some X.env.locals)
 exf:∀ b∈X.ex,b≠X.env.locals/\∀ x c,X.env.cells.lookup x=some c->c≠b
 bs:∀ b o,X.base.get? b=some o->X.s₀.heap.get? b=some o/\X.H₀ b=none
 bsz:X.base.objs.size<=X.s₀.heap.objs.size
 noex:∀ b o,X.base.get? b=some o->b∉X.ex
 exfs:∀ b∈X.ex,b∉X.fs
 funs:X.s₀.heap.FunFrames X.base X.outer
 frf:∀ b∈X.fs,X.H₀ b=none
 kt:WrT X.K X.H₀
structure Inv (X:Cx) (pins:List (Addr×Obj)) (σ:List (Option V)) (H:Hp) (s:MH):Prop where
 ok:X.Ok
 os:s.os=X.s₀.os
 bare:AllBare s.gens
 base:Un X.fs X.ex X.H₀ H X.s₀.heap s.heap
 loc:∃ m,s.heap.Ns X.env.locals m/\∀(i:Nat)(x:Str)(v:V),X.N[i]?=some x->σ[i]?=some (some v)->Vis X.env.scope x->∃ u,RelV v u/\Look X.env s.heap m x u
 cell:∀ x c,X.env.cells.lookup x=some c->∃ v,s.heap.IsCell c v
 free:H X.env.locals=none
 freeC:∀ x c,X.env.cells.lookup x=some c->H c=none
 pin:∀ p∈X.pn++pins,s.heap.get? p.1=some p.2/\H p.1=none/\p.1≠X.env.locals/\p.1∉X.fs/\∀ v,p.2.data≠.cell v
 hok:HOk X.prog X.w H s.heap
 len:σ.length=X.N.length
section
variable {X:Cx}{pins:List (Addr×Obj)}{σ:List (Option V)}{H H':Hp}{s:MH}{h':Heap}
theorem Cx.Ok.nofr (ok:X.Ok){b:Addr}{o:Obj}(e:X.base.get? b=some o):b∉X.fs:=λhb=>by have:=(ok.funs.mem hb).1;rw[e]at this;cases this
theorem Inv.bs (I:Inv X pins σ H s):∀ b o,X.base.get? b=some o->s.heap.get? b=some o/\H b=none:=λb o e=>⟨I.base.keep b o (I.ok.bs b o e).1 (.inl (I.ok.bs b o e).2) (I.ok.nofr e) (I.ok.noex b o e),I.base.free b o (I.ok.bs b o e).1 (I.ok.bs b o e).2 (I.ok.noex b o e)⟩
theorem Inv.kt (I:Inv X pins σ H s):WrT X.K H:=λp hp a xs e=>I.base.tups a xs (I.ok.kt p hp a xs e)
theorem Inv.bk (I:Inv X pins σ H s):∀ b o,X.base.get? b=some o->s.heap.get? b=some o:=λb o e=>(I.bs b o e).1
theorem Inv.mod (I:Inv X pins σ H s):Mod X.K X.mg X.base:=I.ok.mod
theorem Inv.kIn (I:Inv X pins σ H s):X.K.In s.heap:=I.ok.mod.kin.keeps I.bk
theorem Inv.lt (I:Inv X pins σ H s):X.env.locals<s.heap.objs.size:=let ⟨_,hn,_⟩:=I.loc;hn.lt
theorem Inv.sz (I:Inv X pins σ H s):X.s₀.heap.objs.size<=s.heap.objs.size:=IL I.ok.above (LL I.lt)
theorem Inv.nofs (I:Inv X pins σ H s){a:Addr}(h:s.heap.objs.size<=a):a∉X.fs:=λhb=>by obtain⟨_,o,ho,_⟩:=I.ok.funs.mem hb;exact absurd (IQ (Iy ho) (IL I.sz h)) (K9 _)
theorem Inv.cne (I:Inv X pins σ H s):∀ x c,X.env.cells.lookup x=some c->c≠X.env.locals:=λx c e z=>by obtain⟨v,o,ho,hd⟩:=I.cell x c e;obtain⟨m,⟨o',es,ep,ho',hd',_⟩,_⟩:=I.loc;rw[z,ho']at ho;cases ho;rw[hd']at hd;cases hd
theorem Inv.funs (I:Inv X pins σ H s):s.heap.FunFrames X.base X.outer:=by
 have all:∀(l:List Env),(∀ b∈frs l,b∈X.fs)->X.s₀.heap.FunFrames X.base l->s.heap.FunFrames X.base l:=by
  intro l;induction l with
  |nil=>intro _ _;trivial
  |cons env r ih=>intro hs hl;obtain⟨hk,⟨L,o,hf,hn,ho,hd⟩,hr⟩:=hl;have hL:L∈X.fs:=hs L (by unfold frs;rw[Lj,hf];exact Iq);obtain⟨sl,e⟩:=I.base.slot L o ho (I.ok.frf L hL) hL λz=>I.ok.exfs L z hL;exact⟨hk,⟨L,_,hf,hn,e,hd⟩,ih (λb hb=>hs b (by unfold frs;rw[Lj,hf];exact Ii _ hb)) hr⟩
 exact all X.outer (λ_ hb=>hb) I.ok.funs
theorem Inv.stack (I:Inv X pins σ H s):s.heap.FunFrames X.base X.stack:=by
 rcases I.ok.stk with e|⟨e,hf⟩
 .rw[e];exact I.funs
 .rw[e];obtain⟨m,hn,_⟩:=I.loc;refine .cons (by rw[I.ok.kind];decide) hf hn ?_ I.funs;exact Heap.get?_none_of_le (IL I.ok.bsz I.ok.above)
theorem Inv.stkSub (I:Inv X pins σ H s):∀ b∈frs X.stack,b∈X.env.locals::X.fs:=λb hb=>by
 rcases I.ok.stk with e|⟨e,hf⟩
 .rw[e]at hb;exact Ii _ hb
 .rw[e]at hb;unfold frs at hb;rw[Lj,hf]at hb;exact hb
theorem Inv.stkFree (I:Inv X pins σ H s):∀ b∈frs X.stack,H b=none:=λb hb=>by
 rcases Ip.mp (I.stkSub b hb) with e|hb
 .rw[e];exact I.free
 .obtain⟨_,o,ho,_⟩:=I.ok.funs.mem hb;exact I.base.free b o ho (I.ok.frf b hb) λz=>I.ok.exfs b z hb
theorem Inv.step {g':Array GenState}{t':Nat}{d':Drawn}{ch:List Addr}(I:Inv X pins σ H s)
 (hch:∀ b∈ch,(b∈X.ex\/X.s₀.heap.objs.size<=b)/\b≠X.env.locals/\(∀ x c,X.env.cells.lookup x=some c->c≠b)/\∀ p∈X.pn++pins,p.1≠b)
 (keep:∀ b o,b≠X.env.locals->b∉X.fs->b∉ch->s.heap.get? b=some o->Qt H b->h'.get? b=some o)
 (slot:∀ b o,b≠X.env.locals->b∈X.fs->b∉ch->s.heap.get? b=some o->H b=none->∃ sl,h'.get? b=some { o with slots:=sl }) (free:∀ b o,b∉ch->s.heap.get? b=some o->H b=none->H' b=none)
 (there:∀ b o,b∉ch->s.heap.get? b=some o->∃ o',h'.get? b=some o')
 (tups:∀ b xs,H b=some (.tup xs)->H' b=some (.tup xs)) (frzs:∀ b o u,H b=some (.frz o u)->H' b=some (.frz o u)) (tbls:∀ b ps,H b=some (.tbl ps)->∃ more,H' b=some (.tbl (ps++more)))
 (ns:∀ m,s.heap.Ns X.env.locals m->h'.Ns X.env.locals m) (hok:HOk X.prog X.w H' h') (hg:AllBare g') :
 Inv X pins σ H' { s with heap:=h',gens:=g',drawn:=d',toks:=t' }:=by
 have neL:∀ b o,X.s₀.heap.get? b=some o->b≠X.env.locals:=λb o e=>II (IQ (Iy e) I.ok.above);have neC:∀ b o,X.s₀.heap.get? b=some o->b∉X.ex->b∉ch:=λb o e hx hb=>by
  rcases (hch b hb).1 with z|z
  .exact hx z
  .exact absurd (IQ (Iy e) z) (K9 _)
 have cellK:∀ x c,X.env.cells.lookup x=some c->∀ v,s.heap.IsCell c v->h'.IsCell c v:=λx c e v ⟨o,ho,hd⟩=>by
  have nch:c∉ch:=λz=>(hch c z).2.2.1 x c e rfl;by_cases hc:c∈X.fs
  .obtain⟨sl,q⟩:=slot c o (I.cne x c e) hc nch ho (I.freeC x c e);exact⟨_,q,hd⟩
  .exact⟨o,keep c o (I.cne x c e) hc nch ho (.inl (I.freeC x c e)),hd⟩
 refine⟨I.ok,I.os,hg,⟨λb o e n hb hx=>?_,λb o e n hb hx=>?_,λb o e n hx=>?_,λb o e hx=>?_,λb xs e=>tups b xs (I.base.tups b xs e),λb o xs e=>frzs b o xs (I.base.frzs b o xs e),λb ps e=>?_⟩,?_,λx c e=>?_,?_,λx c e=>?_,λp hp=>?_,hok,I.len⟩
 .exact keep b o (neL b o e) hb (neC b o e hx) (I.base.keep b o e n hb hx) (n.imp (λn=>I.base.free b o e n hx) λ⟨xs,q⟩=>⟨xs,I.base.tups b xs q⟩)
 .obtain⟨sl,e1⟩:=I.base.slot b o e n hb hx;obtain⟨sl',e2⟩:=slot b _ (neL b o e) hb (neC b o e hx) e1 (I.base.free b o e n hx);exact⟨sl',e2⟩
 .obtain⟨o',e1⟩:=I.base.there b o e hx;exact free b o' (neC b o e hx) e1 (I.base.free b o e n hx)
 .obtain⟨o',e1⟩:=I.base.there b o e hx;exact there b o' (neC b o e hx) e1
 .obtain⟨m1,e1⟩:=I.base.tbls b ps e;obtain⟨m2,e2⟩:=tbls b _ e1;exact⟨m1++m2,by rw[e2,Array.append_assoc]⟩
 .obtain⟨m,hn,hl⟩:=I.loc;refine⟨m,ns m hn,λi x v e1 e2 e3=>?_⟩;obtain⟨u,r,l⟩:=hl i x v e1 e2 e3;refine⟨u,r,?_⟩;rcases l with l|⟨k,c,e,z⟩
  .exact .inl l
  .exact .inr ⟨k,c,e,cellK x c e _ z⟩
 .obtain⟨v,z⟩:=I.cell x c e;exact⟨v,cellK x c e v z⟩
 .obtain⟨m,⟨o,_,_,ho,_⟩,_⟩:=I.loc;exact free _ o (λz=>(hch _ z).2.1 rfl) ho I.free
 .obtain⟨v,o,ho,hd⟩:=I.cell x c e;exact free c o (λz=>(hch c z).2.2.1 x c e rfl) ho (I.freeC x c e)
 .obtain⟨e,n,ne,nf,d⟩:=I.pin p hp;have nch:p.1∉ch:=λz=>(hch p.1 z).2.2.2 p hp rfl;exact⟨keep p.1 p.2 ne nf nch e (.inl n),free p.1 p.2 nch e n,ne,nf,d⟩
theorem Inv.un {t':Nat}(I:Inv X pins σ H s)(u:Un X.fs [] H H' s.heap h')(hok:HOk X.prog X.w H' h'):Inv X pins σ H' { s with heap:=h',toks:=t' }:=by obtain⟨m,⟨o,es,ep,ho,r⟩,_⟩:=id I.loc;obtain⟨sl,hL⟩:=u.any ho I.free (by simp);exact I.step (g':=s.gens) (d':=s.drawn) (ch:=[]) (λ_ z=>nomatch z) (λb o _ hb _ e n=>u.keep b o e n hb (by simp)) (λb o _ hb _ e n=>u.slot b o e n hb (by simp)) (λb o _ e n=>u.free b o e n (by simp)) (λb o _ e=>u.there b o e (by simp)) u.tups u.frzs u.tbls (λm' hm=>by obtain⟨o',es',ep',ho',r'⟩:=hm;rw[ho]at ho';cases ho';exact⟨_,es',ep',hL,r'⟩) hok I.bare
theorem Inv.call {g':Array GenState}{t':Nat}{d':Drawn}{ch:List Addr}(I:Inv X pins σ H s)(u:Un (frs X.stack) ch H H' s.heap h')(hok:HOk X.prog X.w H' h')(hg:AllBare g')
 (hch:∀ b∈ch,(b∈X.ex\/X.s₀.heap.objs.size<=b)/\b≠X.env.locals/\(∀ x c,X.env.cells.lookup x=some c->c≠b)/\∀ p∈X.pn++pins,p.1≠b) :
 Inv X pins σ H' { s with heap:=h',gens:=g',drawn:=d',toks:=t' }:=by
 obtain⟨m,⟨o,es,ep,ho,r⟩,_⟩:=id I.loc;obtain⟨sl,hL⟩:=u.any ho I.free λz=>(hch _ z).2.1 rfl;exact I.step (ch:=ch) hch (λb o hL hb hc e n=>u.keep b o e n (λz=>(Ip.mp (I.stkSub b z)).elim hL hb) hc) (λb o _ _ hc e n=>u.any e n hc) (λb o hc e n=>u.free b o e n hc) (λb o hc e=>u.there b o e hc) u.tups u.frzs u.tbls (λm' hm=>by obtain⟨o',es',ep',ho',r'⟩:=hm;rw[ho]at ho';cases ho';exact⟨_,es',ep',hL,r'⟩) hok hg
theorem Inv.turned {t':Nat}{it:Addr}(I:Inv X pins σ H s)(k:∀ b o,b≠it->s.heap.get? b=some o->h'.get? b=some o)(hn:H it=none)(hL:it≠X.env.locals)
 (h1:it∈X.ex\/X.s₀.heap.objs.size<=it) (h2:∀ x c,X.env.cells.lookup x=some c->c≠it) (h3:∀ p∈X.pn++pins,p.1≠it):Inv X pins σ H { s with heap:=h',toks:=t' }:=by
 have nit:∀ b u,H b=some u->b≠it:=λb u e z=>by rw[z,hn]at e;cases e
 refine I.step (g':=s.gens) (d':=s.drawn) (ch:=[it]) (λb hb=>?_) (λb o _ _ hc e _=>k b o (λz=>hc (by simp[z])) e) (λb o _ _ hc e _=>⟨o.slots,k b o (λz=>hc (by simp[z])) e⟩) (λ_ _ _ _ n=>n)
  (λb o hc e=>⟨o,k b o (λz=>hc (by simp[z])) e⟩) (λ_ _ e=>e) (λ_ _ _ e=>e) (λb ps e=>⟨#[],by rw[e];simp⟩) (λm hm=>?_) (λb u e=>?_) I.bare
 .have e:b=it:=by simpa using hb
  subst e;exact⟨h1,hL,h2,h3⟩
 .obtain⟨o,es,ep,ho,r⟩:=hm;exact⟨o,es,ep,k _ o (Jn hL) ho,r⟩
 .refine(I.hok b u e).stay (λc v hc q=>k c v ?_ q) (λ_ q=>q) λ_ _ q=>q;rcases hc with z|z
  .rw[z];exact nit b u e
  .exact nit c _ z
theorem Inv.tok (I:Inv X pins σ H s)(t:Nat):Inv X pins σ H { s with toks:=t }:=I.un (h':=s.heap) (t':=t) Un.refl I.hok
theorem Inv.kept {t':Nat}(I:Inv X pins σ H s)(k:∀ b u,s.heap.get? b=some u->h'.get? b=some u):Inv X pins σ H { s with heap:=h',toks:=t' }:=I.un (Un.kept k) (I.hok.kept k)
theorem Inv.laid {a:Addr}{o:HO}{t':Nat}(I:Inv X pins σ H s)(k:∀ b u,s.heap.get? b=some u->h'.get? b=some u)(hp:s.heap.objs.size<=a)(new:ObjOk X.prog X.w (aG H a o) h' a o) :
 Inv X pins σ (aG H a o) { s with heap:=h',toks:=t' }:=I.un (Un.laid k hp (I.hok.fresh hp)) (I.hok.laid k hp new)
theorem Inv.write {x e:Addr}{o:HO}{t':Nat}(I:Inv X pins σ H s)(mu:FC (H x))(he:e=x\/H e=some (.own x))(k:∀ b u,b≠e->s.heap.get? b=some u->h'.get? b=some u)(heo:∃ u,h'.get? e=some u)
 (new:ObjOk X.prog X.w (aG H x o) h' x o):Inv X pins σ (aG H x o) { s with heap:=h',toks:=t' }:=I.un (Un.write mu he k heo) (I.hok.write mu he k heo new)
theorem Inv.pins_of {pins':List (Addr×Obj)}(I:Inv X pins σ H s)(h:∀ p∈pins',s.heap.get? p.1=some p.2/\H p.1=none/\p.1≠X.env.locals/\p.1∉X.fs/\∀ v,p.2.data≠.cell v):Inv X pins' σ H s:=⟨I.ok,I.os,I.bare,I.base,I.loc,I.cell,I.free,I.freeC,λp hp=>(IG.mp hp).elim (λz=>I.pin p (IT _ z)) (h p),I.hok,I.len⟩
theorem sr {N:List Str}(hN:N.Nodup){i j:Nat}{x:Str}(a:N[i]?=some x)(b:N[j]?=some x):i=j:=by obtain⟨h1,e1⟩:=Iz.mp a;obtain⟨h2,e2⟩:=Iz.mp b;exact(List.getElem_inj hN).mp (e1.trans e2.symm)
theorem pJ {M:Model}{A:ML}{E:MK->MH->Prop}{i:Nat}{x:Str}{v:V}{u:MK}{Q:Unit->MH->Prop}(I:Inv X pins σ H s)(hN:X.N.Nodup)(hi:X.N[i]?=some x)(hx:DF X.env.scope x)(r:RelV v u)
 (h:∀ s',Inv X pins (σ.set i (some v)) H s'->(∃ a,Heap.SameBut a s.heap s'.heap/\(a=X.env.locals\/X.env.cells.lookup x=some a))->Q () s') (hf:autoParam (X.fn x=true\/X.env.scope.names.lookup x=some .local) MN._auto_1):wpAny M A (storeName X.env x u) Q E s:=by
 obtain⟨m,hn,hl⟩:=id I.loc;have hcls:(X.env.scope.kind==.class || (X.env.scope.kind==.module&&X.env.locals != X.env.globals))=false:=by rw[I.ok.kind];rfl
 have hiσ:i<σ.length:=by rw[I.len];exact(Iz.mp hi).1
 have cne:=I.cne;have tracked:∀{a:Addr}{h':Heap},(∃ o,s.heap.get? a=some o/\H a=none)->Heap.SameBut a s.heap h'->HOk X.prog X.w H h':=λ{a h'} ha hs b ob e=>by
  obtain⟨_,_,hfree⟩:=ha;refine(I.hok b ob e).stay (λc w' hc q=>(hs.2 c ?_).trans q) (λ_ q=>q) λ_ _ q=>q;rintro rfl;rcases hc with rfl|hc
  .rw[hfree]at e;cases e
  .rw[hfree]at hc;cases hc
 rcases hx with hk|hk
 .refine wpAny_storeName_local hk hn (λh' hn' hs=>?_) hcls;obtain⟨oL,_,_,hoL,_⟩:=id hn;refine h _ ⟨I.ok,I.os,I.bare,⟨λb o e n hb hx=>?_,λb o e n hb hx=>?_,I.base.free,λb o e hx=>?_,I.base.tups,I.base.frzs,I.base.tbls⟩,⟨_,hn',λj y v' e1 e2 e3=>?_⟩,λy c e=>?_,I.free,I.freeC,λp hp=>?_,tracked ⟨oL,hoL,I.free⟩ hs,by simpa using I.len⟩ ⟨_,hs,.inl rfl⟩
  .exact(hs.2 b (II (IQ (Iy e) I.ok.above))).trans (I.base.keep b o e n hb hx)
  .obtain⟨sl,e1⟩:=I.base.slot b o e n hb hx;exact⟨sl,(hs.2 b (II (IQ (Iy e) I.ok.above))).trans e1⟩
  .obtain⟨o',e1⟩:=I.base.there b o e hx;exact⟨o',(hs.2 b (II (IQ (Iy e) I.ok.above))).trans e1⟩
  .by_cases hj:j=i
   .subst hj;rw[hi]at e1;cases e1;rw[IY hiσ]at e2;cases e2;exact⟨u,r,.inl ⟨hk,by simp⟩⟩
   .rw[Jf (Jn hj)]at e2;obtain⟨u',r',q⟩:=hl j y v' e1 e2 e3;refine⟨u',r',?_⟩;rcases q with⟨k,e⟩|⟨k,c,e,z⟩
    .refine .inl ⟨k,?_⟩;have:y≠x:=λe=>hj (sr hN e1 (e▸hi));simp[this,e]
    .exact .inr ⟨k,c,e,z.sameBut hs (cne y c e)⟩
  .obtain⟨w',z⟩:=I.cell y c e;exact⟨w',z.sameBut hs (cne y c e)⟩
  .obtain⟨e,n,ne,nf,d⟩:=I.pin p hp;exact⟨(hs.2 p.1 ne).trans e,n,ne,nf,d⟩
 .have hfn:X.fn x=true:=by
   rcases hf with z|z
   .exact z
   .rw[z]at hk;cases hk
  obtain⟨c,hc⟩:=I.ok.has x (.inl hk);obtain⟨w',z⟩:=I.cell x c hc;refine wpAny_storeName_cell I.ok.kind hk hc z (λh' hc' hs=>?_);obtain⟨oc,hoc,hocd⟩:=id z;refine h { s with heap:=h' } ⟨I.ok,I.os,I.bare,⟨λb o e n hb hx=>?_,λb o e n hb hx=>?_,I.base.free,λb o e hx=>?_,I.base.tups,I.base.frzs,I.base.tbls⟩,⟨m,hn.sameBut hs (Jn (cne x c hc)),λj y v' e1 e2 e3=>?_⟩,λy c' e=>?_,I.free,I.freeC,λp hp=>?_,tracked ⟨oc,hoc,I.freeC x c hc⟩ hs,by simpa using I.len⟩ ⟨c,hs,.inr hc⟩
  .exact(hs.2 b (II (IQ (Iy e) (I.ok.cab x c hfn hc)))).trans (I.base.keep b o e n hb hx)
  .obtain⟨sl,e1⟩:=I.base.slot b o e n hb hx;exact⟨sl,(hs.2 b (II (IQ (Iy e) (I.ok.cab x c hfn hc)))).trans e1⟩
  .obtain⟨o',e1⟩:=I.base.there b o e hx;exact⟨o',(hs.2 b (II (IQ (Iy e) (I.ok.cab x c hfn hc)))).trans e1⟩
  .by_cases hj:j=i
   .subst hj;rw[hi]at e1;cases e1;rw[IY hiσ]at e2;cases e2;exact⟨u,r,.inr ⟨.inl hk,c,hc,hc'⟩⟩
   .rw[Jf (Jn hj)]at e2;obtain⟨u',r',q⟩:=hl j y v' e1 e2 e3;refine⟨u',r',?_⟩;rcases q with q|⟨k,c',e,z'⟩
    .exact .inl q
    .refine .inr ⟨k,c',e,z'.sameBut hs ?_⟩;rintro rfl;exact hj (sr hN e1 (I.ok.inj _ _ _ e hc▸hi))
  .by_cases hcc:c'=c
   .subst hcc;exact⟨_,hc'⟩
   .obtain⟨w2,z2⟩:=I.cell y c' e;exact⟨w2,z2.sameBut hs hcc⟩
  .obtain⟨e,n,ne,nf,d⟩:=I.pin p hp;refine⟨(hs.2 p.1 ?_).trans e,n,ne,nf,d⟩;intro q;rw[q,hoc]at e;have q':oc=p.2:=IM e;exact d w' (by rw[<- q'];exact hocd)
theorem kq {M:Model}{A:ML}{E:MK->MH->Prop}{i:Nat}{x:Str}{v:V}{u:MK}{Q:Unit->MH->Prop}(I:Inv X pins σ H s)(hN:X.N.Nodup)(hi:X.N[i]?=some x)(hx:DF X.env.scope x)(r:RelV v u)
 (h:∀ s',Inv X pins (σ.set i (some v)) H s'->Q () s') (hf:autoParam (X.fn x=true\/X.env.scope.names.lookup x=some .local) MN._auto_1):wpAny M A (storeName X.env x u) Q E s:=
 pJ I hN hi hx r (λs' I' _=>h s' I') hf
theorem Inv.call' {s':MH}{ch:List Addr}(I:Inv X pins σ H s)(ho:s'.os=s.os)(u:Un (frs X.stack) ch H H' s.heap s'.heap)(hok:HOk X.prog X.w H' s'.heap)(hg:AllBare s'.gens)
 (hch:∀ b∈ch,(b∈X.ex\/X.s₀.heap.objs.size<=b)/\b≠X.env.locals/\(∀ x c,X.env.cells.lookup x=some c->c≠b)/\∀ p∈X.pn++pins,p.1≠b):Inv X pins σ H' s':=by
 obtain⟨h',g',d',t',o'⟩:=s';have e:o'=s.os:=ho;subst e;exact I.call (g':=g') (t':=t') (d':=d') u hok hg hch
end
noncomputable abbrev XK:=MK->Option Addr->Hp->Prop
noncomputable abbrev St:=List (Option V)
noncomputable abbrev VK:=V->Hp->Prop
noncomputable abbrev TE:=St->Hp->VK->Prop
noncomputable abbrev TT:=St->Hp->(Bool->Hp->Prop)->Prop
noncomputable abbrev TA:=St->Hp->(List V->Hp->Prop)->Prop
structure Ends where
 nx:St->Hp->Prop
 rt:VK
 bk:St->Hp->Prop:=λ_ _=>False
 ct:St->Hp->Prop:=λ_ _=>False
noncomputable abbrev TS:=Ends->St->Hp->Prop
def EP (X:Cx)(pins:List (Addr×Obj))(σ:St)(Q:VK)(u:MK)(s':MH):Prop:=∃ v H',Inv X pins σ H' s'/\RelV v u/\Q v H'
def TP (X:Cx)(pins:List (Addr×Obj))(σ:St)(Q:Bool->Hp->Prop)(b:Bool)(s':MH):Prop:=∃ H',Inv X pins σ H' s'/\Q b H'
def AP (X:Cx)(pins:List (Addr×Obj))(σ:St)(Q:List V->Hp->Prop)(us:List MK)(s':MH):Prop:=∃ vs H',Inv X pins σ H' s'/\Vals vs us/\Q vs H'
def SP (X:Cx)(pins:List (Addr×Obj))(D:Ends)(f:Flow)(s':MH):Prop:=
 match f with
 | .next=>∃ σ' H',Inv X pins σ' H' s'/\D.nx σ' H'
 | .brk=>∃ σ' H',Inv X pins σ' H' s'/\D.bk σ' H'
 | .cont=>∃ σ' H',Inv X pins σ' H' s'/\D.ct σ' H'
 | .ret u=>∃ v σ' H',Inv X pins σ' H' s'/\RelV v u/\D.rt v H'
def PE (X:Cx)(e:Expr)(t:TE):Prop:=∀(pins:List (Addr×Obj))(s:MH)(σ:St)(H:Hp)(Q:VK),Inv X pins σ H s->t σ H Q->wpAny (model X.prog X.w) X.A (eval e X.env) (EP X pins σ Q) X.xe s
def PT (X:Cx)(e:Expr)(t:TT):Prop:=∀(pins:List (Addr×Obj))(s:MH)(σ:St)(H:Hp)(Q:Bool->Hp->Prop),Inv X pins σ H s->t σ H Q->wpAny (model X.prog X.w) X.A (isTrue e X.env (eval e X.env)) (TP X pins σ Q) X.xe s
def PW (X:Cx)(e:Expr)(t:TT):Prop:=∀(whole:Sem MK)(pins:List (Addr×Obj))(s:MH)(σ:St)(H:Hp)(Q:Bool->Hp->Prop),Inv X pins σ H s->t σ H Q->wpAny (model X.prog X.w) X.A (isTrue e X.env whole) (TP X pins σ Q) X.xe s
theorem PW.pt {X:Cx}{e:Expr}{t:TT}(h:PW X e t):PT X e t:=h _
def PA (X:Cx)(es:List Expr)(t:TA):Prop:=∀(pos:Pos)(pins:List (Addr×Obj))(s:MH)(σ:St)(H:Hp)(Q:List V->Hp->Prop),Inv X pins σ H s->t σ H Q->wpAny (model X.prog X.w) X.A (spliced (backTo pos (starEach es X.env))) (AP X pins σ Q) X.xe s
def PS (X:Cx)(st:Stmt)(t:TS):Prop:=∀(pins:List (Addr×Obj))(s:MH)(σ:St)(H:Hp)(D:Ends),Inv X pins σ H s->t D σ H->wpAny (model X.prog X.w) X.A (exec st X.env) (SP X pins D) X.xe s
def PSs (X:Cx)(st:List Stmt)(t:TS):Prop:=∀(pins:List (Addr×Obj))(s:MH)(σ:St)(H:Hp)(D:Ends),Inv X pins σ H s->t D σ H->wpAny (model X.prog X.w) X.A (execs st X.env) (SP X pins D) X.xe s
theorem bX {α:Type}{t:Sem α}{Q Q':α->MH->Prop}{M:Model}{A:ML}{E:MK->MH->Prop}{s:MH}(h:wpAny M A t Q E s)(hQ:∀ a s,Q a s->Q' a s):wpAny M A t Q' E s:=Kb h hQ λ_ _ x=>x
section
variable {X:Cx}
noncomputable def ay (i:Nat):TE:=λσ H Q=>∃ v,σ[i]?=some (some v)/\Q v H
noncomputable def tC (v:V):TE:=λ_ H Q=>Q v H
theorem DG {i:Nat} {x:Str} {pos:Pos} (hN:X.N[i]?=some x) (hv:Vis X.env.scope x) (hd:autoParam ((x==("__debug__" : Str))=false) MM._auto_1) (hcd:autoParam ((x==("__classdict__" : Str))=false) MM._auto_1):PE X (.Name x pos) (ay i):=by
 intro pins s σ H Q I h;obtain⟨v,e,h⟩:=h;obtain⟨m,hn,hl⟩:=I.loc;obtain⟨u,r,l⟩:=hl i x v hN e hv;have fin:EP X pins σ Q u s:=⟨v,H,I,r,h⟩;rcases l with⟨hk,hm⟩|⟨hk,c,hc,hcell⟩
 .exact wpAny_Name (wpAny_loadName_local I.ok.kind hk hn hm fin) hd
 .rcases hk with hk|hk
  .exact wpAny_Name (wpAny_loadName_cell I.ok.kind hk hc hcell fin) hd
  .exact wpAny_Name (wpAny_loadName_free I.ok.kind hk hc hcell fin hcd) hd
theorem aH {i j pos}:PE X (.Constant (.int i) j pos) (tC (.int i)):=λ_ _ _ H _ I h=>wpAny_Constant_int ⟨.int i,H,I.tok _,⟨_,rfl⟩,h⟩
theorem FE {b j pos}:PE X (.Constant (.bool b) j pos) (tC (.bl b)):=λ_ _ _ H _ I h=>Constant_bool ⟨.bl b,H,I,rfl,h⟩
theorem mT {j pos}:PE X (.Constant .none j pos) (tC .non):=λ_ _ _ H _ I h=>Constant_none ⟨.non,H,I,rfl,h⟩
def Gl (X:Cx)(x:Str):Prop:=X.env.kindOf x=some .globalImplicit
theorem qI {E:MK->MH->Prop}{pins:List (Addr×Obj)}{s:MH}{σ:St}{H:Hp}{x:Str}{u:MK}{pos:Pos}{Q:MK->MH->Prop}(I:Inv X pins σ H s)(hg:Gl X x)(hm:X.mg x=some u)(h:Q u s)
 (hd:autoParam ((x==("__debug__" : Str))=false) MM._auto_1):wpAny (model X.prog X.w) X.A (eval (.Name x pos) X.env) Q E s:=
 Calls.Name_function_global I.ok.kind hg (Calls.loadGlobal_global (by rw[I.ok.glob];exact I.mod.glob.keeps I.bk) hm h) hd
theorem je {E:MK->MH->Prop}{pins:List (Addr×Obj)}{s:MH}{σ:St}{H:Hp}{x:Str}{u:MK}{pos:Pos}{Q:MK->MH->Prop}(I:Inv X pins σ H s)(hg:Gl X x)(hm:X.mg x=none)(hv:bootBuiltins x=some u)(h:Q u s)
 (hn:autoParam (x≠"__name__") MM._auto_1) (hd:autoParam ((x==("__debug__" : Str))=false) MM._auto_1):wpAny (model X.prog X.w) X.A (eval (.Name x pos) X.env) Q E s:=by
 obtain⟨mb,h1,h2⟩:=I.mod.blt;exact Calls.Name_function_global I.ok.kind hg (Calls.loadGlobal_builtin (by rw[I.ok.glob];exact I.mod.glob.keeps I.bk) hm (by rw[I.ok.blt];exact h1.keeps I.bk) ((h2 x hn).trans hv) h) hd
theorem Bc {x:Str} {v:V} {u:MK} {pos:Pos} (hg:Gl X x) (hm:X.mg x=none) (hv:bootBuiltins x=some u) (r:RelV v u) (hn:autoParam (x≠"__name__") MM._auto_1) (hd:autoParam ((x==("__debug__" : Str))=false) MM._auto_1):PE X (.Name x pos) (tC v):=λ_ _ _ H _ I h=>je I hg hm hv ⟨v,H,I,r,h⟩ hn hd
variable {a b:Expr}{ta tb:TE}{pos:Pos}
noncomputable def tB (t:TE):TT:=λσ H Q=>t σ H λx H1=>∃ c,x=.bl c/\Q c H1
theorem DH {e:Expr}{t:TE}(h:PE X e t)(he:autoParam (∀ whole,isTrue e X.env whole=(do let v <- whole;standAt e.pos;holding [v] (truthy v))) MP._auto_1):PT X e (tB t):=by intro pins s σ H Q I hw;refine isTrue_plain (bX (h pins s σ H _ I hw) λv s1 ⟨x,H1,I1,r1,q1⟩=>?_) (he _);obtain⟨d,rfl,q⟩:=q1;cases r1;exact Ly ⟨H1,I1,q⟩
variable {tA tB':TT}{rest:List Expr}
noncomputable def G_ (t u:TT):TT:=λσ H Q=>t σ H λc H1=>if c=true then u σ H1 Q else Q false H1
noncomputable def HL (t u:TT):TT:=λσ H Q=>t σ H λc H1=>if c=true then Q true H1 else u σ H1 Q
noncomputable def FF (t:TT):TT:=λσ H Q=>t σ H λc H1=>Q (!c) H1
theorem Bd (ha:PT X a tA):PW X (.BoolOp .And [a] pos) tA:=by
 intro wh pins s σ H Q I h;refine isTrue_and (bX (ha pins s σ H Q I h) λc s1 e=>?_);cases c with
 |true=>exact isTrue_and_nil e
 |false=>exact e
theorem yM (ha:PT X a tA):PW X (.BoolOp .Or [a] pos) tA:=by
 intro wh pins s σ H Q I h;refine isTrue_or (bX (ha pins s σ H Q I h) λc s1 e=>?_);cases c with
 |false=>exact isTrue_or_nil e
 |true=>exact e
theorem DI (ha:PT X a tA)(hb:PW X (.BoolOp .And (b::rest) pos) tB'):PW X (.BoolOp .And (a::b::rest) pos) (G_ tA tB'):=by
 intro wh pins s σ H Q I h;refine isTrue_and (bX (ha pins s σ H _ I h) λc s1 ⟨H1,I1,q1⟩=>?_);cases c with
 |true=>exact hb wh pins s1 σ H1 Q I1 q1
 |false=>exact⟨H1,I1,q1⟩
theorem CK (ha:PT X a tA)(hb:PW X (.BoolOp .Or (b::rest) pos) tB'):PW X (.BoolOp .Or (a::b::rest) pos) (HL tA tB'):=by
 intro wh pins s σ H Q I h;refine isTrue_or (bX (ha pins s σ H _ I h) λc s1 ⟨H1,I1,q1⟩=>?_);cases c with
 |true=>exact⟨H1,I1,q1⟩
 |false=>exact hb wh pins s1 σ H1 Q I1 q1
theorem yN (ha:PT X a tA):PT X (.UnaryOp .Not a pos) (FF tA):=by intro pins s σ H Q I h;exact isTrue_not (ha pins s σ H (λc H1=>Q (!c) H1) I h)
end
def SqL (K:MI)(H:Hp)(a:Addr)(xs:List V):Prop:=
 Rd H a (.lst xs)\/
  ∃(o:Obj)(its:Array MK)(n:Nat),K.lookup a=some o/\o.cls=.type "list"/\o.dict=none/\o.data=.seq its n/\its.size<=sizeLine/\Vals xs its.toList
def SqT (K:MI)(H:Hp)(a:Addr)(xs:List V):Prop:=
 Rd H a (.tup xs)\/
  ∃(o:Obj)(its:Array MK)(n:Nat),K.lookup a=some o/\o.cls=.type "tuple"/\o.data=.seq its n/\its.size<=sizeLine/\Vals xs its.toList
noncomputable def Hb:MK->Option V
 | .none=>some .non
 | .bool b=>some (.bl b)
 | .int i _=>some (.int i)
 | .str x _=>some (.str x)
 | .bytes b _=>some (.byt b)
 | .float b _=>some (.flt b)
 | .ref a=>some (.ref a)
 | .type n=>some (.ty n)
 |_=>none
theorem RelV.abs {x:V}{u:MK}(r:RelV x u):Hb u=some x:=by
 cases x with
 |non=>cases r;rfl
 |bl _=>cases r;rfl
 |int _=>obtain⟨t,rfl⟩:=r;rfl
 |str _=>obtain⟨t,rfl⟩:=r;rfl
 |byt _=>obtain⟨t,rfl⟩:=r;rfl
 |flt _=>obtain⟨t,rfl⟩:=r;rfl
 |ref _=>cases r;rfl
 |ty _=>cases r;rfl
theorem RelV.inj {x y:V}{u:MK}(r:RelV x u)(q:RelV y u):x=y:=IM (r.abs.symm.trans q.abs)
theorem Vals.inj:∀{xs ys:List V}{us:List MK},Vals xs us->Vals ys us->xs=ys
 |_,_,_,.nil,.nil=>rfl
 |_,_,_,.cons r t,.cons r' t'=>by rw[r.inj r',Vals.inj t t']
section
variable {X:Cx}{pins:List (Addr×Obj)}{σ:St}{H:Hp}{s:MH}{a:Addr}{xs ys:List V}
theorem SqL.of {K:MI}(h:H a=some (.lst xs)):SqL K H a xs:=.inl (.inl h)
theorem SqT.of {K:MI}(h:H a=some (.tup xs)):SqT K H a xs:=.inl (.inl h)
theorem Inv.list (I:Inv X pins σ H s)(h:SqL X.K H a xs):∃ its:List MK,Vals xs its/\PlainL s.heap a its.toArray/\xs.length<=sizeLine:=by
 rcases h with h|⟨o,its,n,hk,hc,hd,hs,hz,r⟩
 .obtain⟨z,its,n,r,e⟩:=h.ok I.hok;exact⟨its,r,⟨_,n,e,rfl,rfl,rfl⟩,z⟩
 .refine⟨its.toList,r,⟨o,n,I.kIn a o hk,hc,hd,by simpa using hs⟩,?_⟩;have e:=r.length;simp only[Jx]at e;lia
theorem Inv.tuple (I:Inv X pins σ H s)(h:SqT X.K H a xs):∃ its:List MK,Vals xs its/\IsTup s.heap a its.toArray/\xs.length<=sizeLine:=by
 rcases h with h|⟨o,its,n,hk,hc,hs,hz,r⟩
 .obtain⟨z,its,r,p⟩:=h.ok I.hok;exact⟨its,r,p,z⟩
 .refine⟨its.toList,r,⟨o,I.kIn a o hk,hc,n,by simpa using hs⟩,?_⟩;have e:=r.length;simp only[Jx]at e;lia
theorem Inv.list_inj (I:Inv X pins σ H s)(h:SqL X.K H a xs)(h':SqL X.K H a ys):xs=ys:=by
 obtain⟨its,r,⟨o,n,e,_,_,d⟩,_⟩:=I.list h;obtain⟨its',r',⟨o',n',e',_,_,d'⟩,_⟩:=I.list h';rw[e]at e';cases e';rw[d]at d';injection d' with d1 _;have:its=its':=by simpa using JF Array.toList d1
 subst this;exact r.inj r'
theorem Inv.tuple_inj (I:Inv X pins σ H s)(h:SqT X.K H a xs)(h':SqT X.K H a ys):xs=ys:=by
 obtain⟨its,r,⟨o,e,_,n,d⟩,_⟩:=I.tuple h;obtain⟨its',r',⟨o',e',_,n',d'⟩,_⟩:=I.tuple h';rw[e]at e';cases e';rw[d]at d';injection d' with d1 _;have:its=its':=by simpa using JF Array.toList d1
 subst this;exact r.inj r'
end
noncomputable abbrev Cx.wish (X:Cx)(E:MK->MH->Prop):Cx:={ X with xe:=E }
noncomputable abbrev Cx.nox (X:Cx):Cx:=X.wish λ_ _=>False
theorem Cx.Ok.wish {X:Cx}(ok:X.Ok)(E:MK->MH->Prop):(X.wish E).Ok:=⟨ok.mod,ok.kind,ok.glob,ok.blt,ok.above,ok.inj,ok.has,ok.cab,ok.hd,ok.frames,ok.stk,ok.exf,ok.bs,ok.bsz,ok.noex,ok.exfs,ok.funs,ok.frf,ok.kt⟩
theorem Cx.Ok.unwish {X:Cx}{E:MK->MH->Prop}(ok:(X.wish E).Ok):X.Ok:=⟨ok.mod,ok.kind,ok.glob,ok.blt,ok.above,ok.inj,ok.has,ok.cab,ok.hd,ok.frames,ok.stk,ok.exf,ok.bs,ok.bsz,ok.noex,ok.exfs,ok.funs,ok.frf,ok.kt⟩
section
variable {X:Cx}{pins:List (Addr×Obj)}{σ:St}{H:Hp}{s:MH}{E:MK->MH->Prop}
theorem Inv.wish (I:Inv X pins σ H s)(E:MK->MH->Prop):Inv (X.wish E) pins σ H s:=⟨I.ok.wish E,I.os,I.bare,I.base,I.loc,I.cell,I.free,I.freeC,I.pin,I.hok,I.len⟩
theorem Inv.unwish (I:Inv (X.wish E) pins σ H s):Inv X pins σ H s:=⟨I.ok.unwish,I.os,I.bare,I.base,I.loc,I.cell,I.free,I.freeC,I.pin,I.hok,I.len⟩
theorem SP.unwish {D:Ends}{f:Flow}{s':MH}(h:SP (X.wish E) pins D f s'):SP X pins D f s':=by
 cases f with
 |next=>obtain⟨σ',H',I,q⟩:=h;exact⟨σ',H',I.unwish,q⟩
 |brk=>obtain⟨σ',H',I,q⟩:=h;exact⟨σ',H',I.unwish,q⟩
 |cont=>obtain⟨σ',H',I,q⟩:=h;exact⟨σ',H',I.unwish,q⟩
 |ret u=>obtain⟨v,σ',H',I,r,q⟩:=h;exact⟨v,σ',H',I.unwish,r,q⟩
theorem PSs.nox {st:List Stmt}{t:TS}(h:PSs X.nox st t):PSs X st t:=λpins s σ H D I hw=>Kb (h pins s σ H D (I.wish _) hw) (λ_ _ q=>q.unwish) λ_ _ z=>False.elim z
end
section
variable {X:Cx}{st:Stmt}{rest:List Stmt}{t u:TS}{e:Expr}{te:TE}{pos:Pos}
noncomputable def ss:TS:=λD σ H=>D.nx σ H
noncomputable def dc (t u:TS):TS:=λD σ H=>t { D with nx:=u D } σ H
theorem kr:PSs X [] ss:=λ_ _ σ H _ I h=>Md ⟨σ,H,I,h⟩
theorem aK (h1:PS X st t)(h2:PSs X rest u):PSs X (st::rest) (dc t u):=by
 intro pins s σ H D I h;refine wpAny_execs_cons (bX (h1 pins s σ H { D with nx:=u D } I h) λf s1 q=>?_);cases f with
 |next=>obtain⟨σ',H',I',q⟩:=q;exact h2 pins s1 σ' H' D I' q
 |ret v=>exact q
 |brk=>exact q
 |cont=>exact q
theorem aO (h1:PS X st t):PSs X [st] t:=by
 intro pins s σ H D I h;refine wpAny_execs_cons (bX (h1 pins s σ H D I h) λf s1 q=>?_);cases f with
 |next=>exact Md q
 |ret v=>exact q
 |brk=>exact q
 |cont=>exact q
theorem Inv.quiet {pins:List (Addr×Obj)}{σ:St}{H:Hp}{s:MH}(I:Inv X pins σ H s):interactive X.env=false:=by simp[interactive,I.ok.kind]
noncomputable def cv (te:TE):TS:=λD σ H=>te σ H λ_ H1=>D.nx σ H1
theorem bA (he:PE X e te)(hs:autoParam (swapsWith e none pos.line X.env=pure false) MR._auto_1):PS X (.Expr e pos) (cv te):=by intro pins s σ H D I h;exact wpAny_Expr_any (bX (he pins s σ H _ I h) λv s1 ⟨x,H1,I1,r1,q1⟩=>⟨σ,H1,I1,q1⟩) I.quiet hs
noncomputable def su (te:TE):TS:=λD σ H=>te σ H D.rt
theorem k8 (he:PE X e te):PS X (.Return (some e) pos) (su te):=by intro pins s σ H D I h;exact wpAny_Return_some (bX (he pins s σ H _ I h) λv s1 ⟨x,H1,I1,r1,q1⟩=>⟨x,σ,H1,I1,r1,q1⟩)
noncomputable def xf (c:TT)(t u:TS):TS:=λD σ H=>c σ H λb H1=>if b=true then t D σ H1 else u D σ H1
theorem pK {c:Expr}{a b:List Stmt}{tc:TT}(hc:PT X c tc)(ha:PSs X a t)(hb:PSs X b u):PS X (.If c a b pos) (xf tc t u):=by
 intro pins s σ H D I h;refine wpAny_If (bX (hc pins s σ H _ I h) λd s1 ⟨H1,I1,q1⟩=>?_);cases d with
 |true=>exact ha pins s1 σ H1 D I1 q1
 |false=>exact hb pins s1 σ H1 D I1 q1
end
noncomputable abbrev TG:=V->St->Hp->(St->Hp->Prop)->Prop
noncomputable abbrev CL:=List V->St->Hp->(St->Hp->Prop)->Prop
def PG (X:Cx)(target:Expr)(t:TG):Prop:=
 ∀(pins:List (Addr×Obj))(s:MH)(σ:St)(H:Hp)(v:V)(u:MK)(Q:St->Hp->Prop),Inv X pins σ H s->RelV v u->t v σ H Q->
  wpAny (model X.prog X.w) X.A (assign target X.env u) (λ_ s'=>∃ σ' H',Inv X pins σ' H' s'/\Q σ' H') X.xe s
def DJ (X:Cx)(ts:List Expr)(t:CL):Prop:=
 ∀(pins:List (Addr×Obj))(s:MH)(σ:St)(H:Hp)(vs:List V)(us:List MK)(Q:St->Hp->Prop),Inv X pins σ H s->Vals vs us->t vs σ H Q->
  wpAny (model X.prog X.w) X.A (assignInOrder ((assignEach ts X.env).map (·.2)) us) (λ_ s'=>∃ σ' H',Inv X pins σ' H' s'/\Q σ' H') X.xe s
section
variable {X:Cx}{pos:Pos}
noncomputable def aZ (i:Nat):TG:=λv σ H Q=>Q (σ.set i (some v)) H
theorem a_ {i:Nat}{x:Str}(hN:X.N.Nodup)(hi:X.N[i]?=some x)(hx:DF X.env.scope x)(hf:autoParam (X.fn x=true\/X.env.scope.names.lookup x=some .local) MN._auto_1):PG X (.Name x pos) (aZ i):=by intro pins s σ H v u Q I r h;exact wpAny_assign_Name (kq I hN hi hx r (λs' I'=>⟨_,H,I',h⟩) hf)
noncomputable def mU:CL:=λvs σ H Q=>vs=[]/\Q σ H
noncomputable def b8 (t:TG)(u:CL):CL:=λvs σ H Q=>∃ v r,vs=v::r/\t v σ H λσ' H'=>u r σ' H' Q
theorem cV:DJ X [] mU:=by intro pins s σ H vs us Q I r h;obtain⟨e,h⟩:=h;subst e;cases r;exact assignInOrder_nil ⟨σ,H,I,h⟩
theorem ax {e:Expr}{es:List Expr}{t:TG}{u:CL}(h1:PG X e t)(h2:DJ X es u)
 (hs:autoParam ((assignEach (e::es) X.env).map (·.2)=assign e X.env::(assignEach es X.env).map (·.2)) MR._auto_1):DJ X (e::es) (b8 t u):=by
 intro pins s σ H vs us Q I r h;obtain⟨v,vr,e1,h⟩:=h;subst e1;cases r with
 |cons r rr=>rw[hs];refine assignInOrder_cons (bX (h1 pins s σ H _ _ _ I r h) λ_ s1 ⟨σ1,H1,I1,q1⟩=>?_);exact h2 pins s1 σ1 H1 _ _ Q I1 rr q1
noncomputable def mV (K:MI)(n:Nat)(t:CL):TG:=λv σ H Q=>∃ a xs,v=.ref a/\SqT K H a xs/\xs.length=n/\t xs σ H Q
theorem fH {es:List Expr}{k:Nat}{t:CL}{n:Nat}(hc:X.calm=true)(h:DJ X es t)
 (hn:autoParam ((assignEach es X.env).length=n) MR._auto_1) (hst:autoParam ((assignEach es X.env).findIdx? (·.1)=none) MR._auto_1):PG X (.Tuple es k pos) (mV X.K n t):=by
 intro pins s σ H v u Q I r hw;obtain⟨a,xs,e1,hq,hl,hw⟩:=hw;subst e1;cases r;obtain⟨its,rv,ht,hz⟩:=I.tuple hq;refine assign_Tuple_tuple (I.ok.hd hc) ht (by simp[hn,<- hl,rv.length]) hst λh' hx=>?_;have I1:Inv X pins σ H { s with heap:=h' }:=I.kept (t':=s.toks) λb o e=>hx b o (II (Iy e)) e;exact h pins _ σ H xs _ Q I1 (by simpa using rv) hw
noncomputable def mW (te:TE)(g:TG):TS:=λD σ H=>te σ H λx H1=>g x σ H1 D.nx
theorem DM {tg e:Expr}{te:TE}{g:TG}(he:PE X e te)(hg:PG X tg g)(hs:autoParam (swapsWithSole [tg] e pos.line X.env=pure false) MR._auto_1)(hw:autoParam (swappedStores [tg] e X.env=pure none) MR._auto_1)
 (h1:autoParam ((assignEach [tg] X.env).map (·.2)=[assign tg X.env]) MR._auto_1):PS X (.Assign [tg] e pos) (mW te g):=by
 intro pins s σ H D I h;refine wpAny_Assign_stores (bX (he pins s σ H _ I h) λv s1 ⟨x,H1,I1,r1,q1⟩=>?_) hs hw;rw[h1];exact bX (hg pins s1 σ H1 x v _ I1 r1 q1) λ_ s2 q=>q
theorem f6 {i:Nat}{x:Str}{e:Expr}{te:TE}{pos':Pos}(hN:X.N.Nodup)(hi:X.N[i]?=some x)(hx:DF X.env.scope x)(he:PE X e te)(hs:autoParam (swapsWith e (some (.Name x pos')) pos.line X.env=pure false) MR._auto_1)(hf:autoParam (X.fn x=true\/X.env.scope.names.lookup x=some .local) MN._auto_1) :
 PS X (.Assign [.Name x pos'] e pos) (mW te (aZ i)):=by
 intro pins s σ H D I h;refine wpAny_Assign_Name (bX (he pins s σ H _ I h) λv s1 ⟨y,H1,I1,r1,q1⟩=>?_) hs;exact kq I1 hN hi hx r1 (λs2 I2=>⟨_,H1,I2,q1⟩) hf
noncomputable def Hd (i j:Nat)(ta:TA):TS:=λD σ H=>ta σ H λvs H1=>∃ v w,vs=[v,w]/\D.nx ((σ.set i (some v)).set j (some w)) H1
theorem DN {i j:Nat}{x y:Str}{a b:Expr}{ta:TA}{px py pt:Pos}{kt k2 pt2}(hc:X.calm=true)(hN:X.N.Nodup)(hi:X.N[i]?=some x)(hj:X.N[j]?=some y)(hij:i≠j)
 (hx:X.env.scope.names.lookup x=some .local) (hy:X.env.scope.names.lookup y=some .local) (ha:PA X [a,b] ta)
 (hw:swappedStores [.Tuple [.Name x px,.Name y py] kt pt] (.Tuple [a,b] k2 pt2) X.env=pure (some [x,y]))
 (hs:autoParam (swapsWithSole [.Tuple [.Name x px,.Name y py] kt pt] (.Tuple [a,b] k2 pt2) pos.line X.env=pure false) MR._auto_1) :
 PS X (.Assign [.Tuple [.Name x px,.Name y py] kt pt] (.Tuple [a,b] k2 pt2) pos) (Hd i j ta):=by
 intro pins s σ H D I h;rw[exec_Assign_arm];refine Ic (wpAny_standAt ?_);rw[hs];refine Ic (Ig ?_);rw[Ij (by decide)];refine Ic (Tuple_ (bX (ha _ pins s σ H _ I h) λus s1 ⟨vs,H1,I1,r1,q1⟩=>?_));obtain⟨v,w,e1,q1⟩:=q1;subst e1;obtain⟨u1,u2,rfl,rv,rw'⟩ : ∃ u1 u2,us=[u1,u2]/\RelV v u1/\RelV w u2:=by
  cases r1 with
  |cons p q=>
   cases q with
   |cons p' q'=>cases q';exact⟨_,_,rfl,p,p'⟩
 refine Jg ?_ (by show 2<=sizeLine;decide);have I2:Inv X pins σ H1 { s1 with heap:=s1.heap.push { cls:=.type "tuple",data:=.seq [u1,u2].toArray } }:=I1.kept (t':=s1.toks) λb o e=>Ie _ e;rw[hw];refine Ic (Ig ?_);show wpAny (model X.prog X.w) X.A (do rule "assign.swapped-stores";let items <- unpackItems (.ref s1.heap.objs.size) 2 none;assignInOrder [λv=>bindName X.env y v,λv=>bindName X.env x v] items.reverse;pure Flow.next) _ _ _;refine Ic (Mp (Ic (unpackItems_tuple (items:=#[u1,u2]) (I.ok.hd hc) (IsTup.new s1.heap _) λh' hx'=>?_)));have I3:=I2.kept (h':=h') (t':=s1.toks) λb o e=>hx' b o (II (Iy e)) e;show wpAny _ _ (assignInOrder [λv=>bindName X.env y v,λv=>bindName X.env x v] [u2,u1] >>= λ_=>pure Flow.next) _ _ _;refine Ic (assignInOrder_cons (wpAny_bindName (kq I3 hN hj (.inl hy) rw' (λs2 I4=>?_) (.inr hy))));refine assignInOrder_cons (wpAny_bindName (kq I4 hN hi (.inl hx) rv (λs3 I5=>assignInOrder_nil (Ig ?_)) (.inr hx)));rw[List.set_comm _ _ (Jn hij)]at I5;exact⟨_,H1,I5,q1⟩
noncomputable def yO (c:TT)(tb:TS):TS:=λD σ H=>∃ W:Nat->St->Hp->Prop,(∃ m,W m σ H)/\∀ m σ H,W m σ H->
 c σ H λb H1=>if b=true then ∃ N:St->Hp->Prop,(∀ σ' H',N σ' H'->∃ m',m'<m/\W m' σ' H')/\tb { D with nx:=N,ct:=N,bk:=D.nx } σ H1 else D.nx σ H1
theorem yP {c:Expr}{body:List Stmt}{tc:TT}{tb:TS}(hp:PassesOwn (model X.prog X.w) X.A X.env X.xe)(hc:PT X c tc)(hb:PSs X body tb):PS X (.While c body [] pos) (yO tc tb):=by
 intro pins s σ H D I h;obtain⟨W,⟨m0,w0⟩,turn⟩:=h;refine wpAny_While (codeAny_whileLoop (λn s'=>∃ σ' H',Inv X pins σ' H' s'/\W n σ' H') ?_ m0 ⟨σ,H,I,w0⟩);rintro n s1 ⟨σ1,H1,I1,w1⟩;refine KH hp (bX (hc pins s1 σ1 H1 _ I1 (turn n σ1 H1 w1)) λb s2 ⟨H2,I2,q2⟩=>?_);cases b with
 |true=>
  obtain⟨N,hN,q2⟩:=q2;rw[Il rfl];refine KH hp (bX (hb pins s2 σ1 H2 _ I2 q2) λf s3 q3=>?_);cases f with
  |next=>obtain⟨σ3,H3,I3,n3⟩:=q3;obtain⟨m',hm,w3⟩:=hN σ3 H3 n3;exact⟨m',hm,σ3,H3,I3,w3⟩
  |cont=>obtain⟨σ3,H3,I3,n3⟩:=q3;obtain⟨m',hm,w3⟩:=hN σ3 H3 n3;exact⟨m',hm,σ3,H3,I3,w3⟩
  |brk=>exact q3
  |ret v=>exact q3
 |false=>rw[Ij Ja];exact Md ⟨σ1,H2,I2,q2⟩
end
structure It where
 go:Nat->Hp->Prop
 yld:Nat->Hp->V->Hp->Prop
 stop:Nat->Hp->Prop
def FpOk (X:Cx)(pins:List (Addr×Obj))(H:Hp)(b:Addr):Prop:=H b=none/\b≠X.env.locals/\b∉X.fs/\(b∈X.ex\/X.s₀.heap.objs.size<=b)/\(∀ x c,X.env.cells.lookup x=some c->c≠b)/\∀ p∈X.pn++pins,p.1≠b
theorem Inv.fpOk {X:Cx}{pins:List (Addr×Obj)}{σ:St}{H H':Hp}{s:MH}{b:Addr}(I:Inv X pins σ H s)(hb:s.heap.objs.size<=b)(hn:H' b=none):FpOk X pins H' b:=by
 refine⟨hn,Ln (IQ I.lt hb),I.nofs hb,.inr (IL I.sz hb),λx c e z=>?_,λp hp z=>?_⟩
 .obtain⟨v,q⟩:=I.cell x c e;exact absurd (IQ q.lt (by rw[z];exact hb)) (K9 _)
 .exact absurd (IQ (Iy (I.pin p hp).1) (by rw[z];exact hb)) (K9 _)
structure Turn (P:MJ) (w:World) (K:MI) (tg:Expr) (J:It) (fp:List Addr) (it:Addr) (tn:Nat->Heap->Prop):Prop where
 mem:it∈fp
 obj:∀ i h,tn i h->∀ b∈fp,∃ o,h.get? b=some o/\∀ v,o.data≠.cell v
 keep:∀ i h h',tn i h->(∀ b∈fp,∀ o,h.get? b=some o->h'.get? b=some o)->tn i h'
 item:∀(X:Cx),X.prog=P->X.w=w->X.K=K->X.calm=true->∀(i:Nat)(pins:List (Addr×Obj))(s:MH)(σ:St)(H:Hp)(E:MK->MH->Prop),Inv X pins σ H s->(∀ b∈fp,FpOk X pins H b)->tn i s.heap->J.go i H->
  wpAny (model P w) X.A (pyNext (.ref it)) (λr s1=>∃ u,r=some u/\
   wpAny (model P w) X.A (letOwnedTupleGo tg (.ref it) u) (λ_ s2=>∃ x H',Inv X pins σ H' s2/\RelV x u/\J.yld i H x H'/\tn (i+1) s2.heap/\∀ b∈fp,H' b=none) E s1) E s
 done:∀(X:Cx),X.prog=P->X.w=w->X.K=K->X.calm=true->∀(i:Nat)(pins:List (Addr×Obj))(s:MH)(σ:St)(H:Hp)(E:MK->MH->Prop),Inv X pins σ H s->(∀ b∈fp,FpOk X pins H b)->tn i s.heap->J.stop i H->
  wpAny (model P w) X.A (pyNext (.ref it)) (λr s1=>r=none/\Inv X pins σ H s1) E s
 self:∀(A:ML)(i:Nat)(s:MH)(Q:MK->MH->Prop)(E:MK->MH->Prop),tn i s.heap->Q (.ref it) s->wpAny (model P w) A (pyIter (.ref it)) Q E s
noncomputable abbrev TI:=St->Hp->(It->Hp->Prop)->Prop
def He (X:Cx)(pins:List (Addr×Obj))(σ:St)(tg:Expr)(R:It->Hp->Prop)(itv:MK)(s2:MH):Prop:=∃(it:Addr)(fp:List Addr)(tn:Nat->Heap->Prop)(J:It)(H':Hp),itv=.ref it/\Inv X pins σ H' s2/\Turn X.prog X.w X.K tg J fp it tn/\tn 0 s2.heap/\(∀ b∈fp,FpOk X pins H' b)/\R J H'
def PI (X:Cx)(tg iter:Expr)(wi:TI):Prop:=
 ∀(pins:List (Addr×Obj))(s:MH)(σ:St)(H:Hp)(R:It->Hp->Prop),Inv X pins σ H s->wi σ H R->
  wpAny (model X.prog X.w) X.A (eval iter X.env) (λv s1=>wpAny (model X.prog X.w) X.A (pyIter v) (He X pins σ tg R) X.xe s1) X.xe s
theorem yQ {M:Model}{A:ML}{E:MK->MH->Prop}{s:MH}{tg:Expr}{it:Addr}{u:MK}{o:Obj}{n:String}{vs:Array MK}{Q:Unit->MH->Prop}(ho:s.heap.get? it=some o)(hc:o.cls=.type n)(hd:o.data=.fields vs)
 (hn:["enumerate", "zip", "dict_itemiterator", "dict_reverseitemiterator", "odict_iterator", "itertools.zip_longest", "itertools.pairwise"].contains n=false) (hQ:Q () s):wpAny M A (letOwnedTupleGo tg (.ref it) u) Q E s:=by
 unfold letOwnedTupleGo;cases tg<;>first
  |exact Ig hQ
  |(cases u<;>first
     |exact Ig hQ
     |(refine Ic (wpAny_load ho ?_)
       rw[hc,hd];show wpAny M A (if (["enumerate", "zip", "dict_itemiterator", "dict_reverseitemiterator", "odict_iterator", "itertools.zip_longest", "itertools.pairwise"].contains n&&vs[0]?==some (rawInt _))=true then _ else _) Q E s;rw[Ij (by intro h;rw[hn,JP]at h;cases h)];exact Ig hQ))
noncomputable def uh (K:MI)(a:Addr):It:=⟨λi H=>∃ xs x,SqL K H a xs/\xs[i]?=some x,λi H x H'=>H'=H/\∀ xs,SqL K H a xs->xs[i]?=some x,λi H=>∃ xs,SqL K H a xs/\xs.length<=i⟩
noncomputable def Hf (K:MI)(a:Addr):It:=⟨λi H=>∃ xs x,SqT K H a xs/\xs[i]?=some x,λi H x H'=>H'=H/\∀ xs,SqT K H a xs->xs[i]?=some x,λi H=>∃ xs,SqT K H a xs/\xs.length<=i⟩
noncomputable def G2 (lo:Int)(n:Nat):It:=⟨λi _=>i<n,λi H x H'=>H'=H/\x=.int (lo+i),λi _=>n<=i⟩
theorem pL {P:MJ}{w:World}{K:MI}{tg:Expr}(a it:Addr):Turn P w K tg (uh K a) [it] it (λi h=>h.IsListIter it a i) where
 mem:=by simp
 obj:=λi h st b hb=>by
  have e:b=it:=by simpa using hb
  subst e;obtain⟨o,e,c,d⟩:=st;exact⟨o,e,λv z=>by rw[d]at z;cases z⟩
 keep:=λi h h' st k=>st.at λo e=>k it (by simp) o e
 item:=by intro X hP hw hK hc i pins s σ H E I hf st hg;subst hP hw hK;obtain⟨xs,x,hq,hx⟩:=hg;obtain⟨its,rv,p,hz⟩:=I.list hq;obtain⟨u,hu,ru⟩:=rv.get hx;obtain⟨f0,f1,f2,f3,f4,f5⟩:=hf it (by simp);refine wpAny_pyNext_list_item st p.isList (x:=u) (by simpa using hu) λh' st' sb=>?_;have I1:Inv X pins σ H { s with heap:=h' }:=I.turned (t':=s.toks) (λb o hb e=>(sb.2 b hb).trans e) f0 f1 f3 f4 f5;obtain⟨o,e,c,d⟩:=id st';exact⟨u,rfl,yQ (s:={ s with heap:=h' }) e c d (by decide) ⟨x,H,I1,ru,⟨rfl,λys hy=>by rw[I.list_inj hy hq];exact hx⟩,st',λb hb=>(hf b hb).1⟩⟩
 done:=by intro X hP hw hK hc i pins s σ H E I hf st hg;subst hP hw hK;obtain⟨xs,hq,hx⟩:=hg;obtain⟨its,rv,p,hz⟩:=I.list hq;obtain⟨f0,f1,f2,f3,f4,f5⟩:=hf it (by simp);have hl:=rv.length;exact wpAny_pyNext_list_end (I.ok.hd hc) st p.isList (by simp;lia) λh' eb=>⟨rfl,I.turned (t':=s.toks) (λb o hb e=>eb b o hb e) f0 f1 f3 f4 f5⟩
 self:=λ_ _ _ _ _ st h=>wpAny_pyIter_listiter st h
theorem uj {P:MJ}{w:World}{K:MI}{tg:Expr}(a it:Addr):Turn P w K tg (Hf K a) [it] it (λi h=>h.IsTupleIter it a i) where
 mem:=by simp
 obj:=λi h st b hb=>by
  have e:b=it:=by simpa using hb
  subst e;obtain⟨o,e,c,d⟩:=st;exact⟨o,e,λv z=>by rw[d]at z;cases z⟩
 keep:=λi h h' st k=>st.at λo e=>k it (by simp) o e
 item:=by intro X hP hw hK hc i pins s σ H E I hf st hg;subst hP hw hK;obtain⟨xs,x,hq,hx⟩:=hg;obtain⟨its,rv,p,hz⟩:=I.tuple hq;obtain⟨u,hu,ru⟩:=rv.get hx;obtain⟨f0,f1,f2,f3,f4,f5⟩:=hf it (by simp);refine wpAny_pyNext_tuple_item st (show s.heap.IsTuple a its.toArray from p) (x:=u) (by simpa using hu) λh' st' sb=>?_;have I1:Inv X pins σ H { s with heap:=h' }:=I.turned (t':=s.toks) (λb o hb e=>(sb.2 b hb).trans e) f0 f1 f3 f4 f5;obtain⟨o,e,c,d⟩:=id st';exact⟨u,rfl,yQ (s:={ s with heap:=h' }) e c d (by decide) ⟨x,H,I1,ru,⟨rfl,λys hy=>by rw[I.tuple_inj hy hq];exact hx⟩,st',λb hb=>(hf b hb).1⟩⟩
 done:=by intro X hP hw hK hc i pins s σ H E I hf st hg;subst hP hw hK;obtain⟨xs,hq,hx⟩:=hg;obtain⟨its,rv,p,hz⟩:=I.tuple hq;obtain⟨f0,f1,f2,f3,f4,f5⟩:=hf it (by simp);have hl:=rv.length;exact wpAny_pyNext_tuple_end (I.ok.hd hc) st (show s.heap.IsTuple a its.toArray from p) (by simp;lia) λh' eb=>⟨rfl,I.turned (t':=s.toks) (λb o hb e=>eb b o hb e) f0 f1 f3 f4 f5⟩
 self:=λ_ _ _ _ _ st h=>wpAny_pyIter_tupleiter st h
theorem uk {P:MJ}{w:World}{K:MI}{tg:Expr}(it:Addr)(lo:Int)(n:Nat):Turn P w K tg (G2 lo n) [it] it (λi h=>IsRangeIter h it (lo+(i:Nat)*1) ((n:Int)-(i:Nat)) 1) where
 mem:=by simp
 obj:=λi h st b hb=>by
  have e:b=it:=by simpa using hb
  subst e;exact⟨_,st,λv z=>by have z':Data.fields _=Data.cell v:=z;cases z'⟩
 keep:=λi h h' st k=>k it (by simp) _ st
 item:=by intro X hP hw hK hc i pins s σ H E I hf st hg;subst hP hw hK;obtain⟨f0,f1,f2,f3,f4,f5⟩:=hf it (by simp);have W:=Walks.range (prog:=X.prog) (w:=X.w) (I.ok.hd hc) it lo 1 n;refine W.item i s _ _ hg st λv h' tk hv st' kk=>?_;obtain⟨t,rfl⟩:=hv;have I1:Inv X pins σ H { s with heap:=h',toks:=tk }:=I.turned (λb o hb e=>kk b o (by simpa using hb) e) f0 f1 f3 f4 f5;refine⟨_,rfl,yQ (s:={ s with heap:=h',toks:=tk }) (n:="range_iterator") st' rfl rfl (by decide) ⟨.int (lo+i),H,I1,⟨t,?_⟩,⟨rfl,rfl⟩,st',λb hb=>(hf b hb).1⟩⟩;rw[Int.mul_one]
 done:=by intro X hP hw hK hc i pins s σ H E I hf st hg;subst hP hw hK;obtain⟨f0,f1,f2,f3,f4,f5⟩:=hf it (by simp);exact wpAny_pyNext_range_end (I.ok.hd hc) st (by have:n<=i:=hg;lia) λh' eb=>⟨rfl,I.turned (t':=s.toks) (λb o hb e=>eb b o hb e) f0 f1 f3 f4 f5⟩
 self:=λ_ _ _ _ _ st h=>wpAny_pyIter_rangeiter st h
section
variable {X:Cx}{tg:Expr}
noncomputable def ku (K:MI)(tl:TE):TI:=λσ H R=>tl σ H λx H1=>∃ a,x=.ref a/\(∃ xs,SqL K H1 a xs)/\R (uh K a) H1
theorem f7 {l:Expr}{tl:TE}(hl:PE X l tl):PI X tg l (ku X.K tl):=by
 intro pins s σ H R I h;refine bX (hl pins s σ H _ I h) λv s1 ⟨x,H1,I1,r1,q1⟩=>?_;obtain⟨a,e,⟨xs,hq⟩,q⟩:=q1;subst e;cases r1;obtain⟨its,rv,p,hz⟩:=I1.list hq;refine Lz p.isList ?_;refine⟨s1.heap.objs.size,[s1.heap.objs.size],_,_,H1,rfl,I1.kept (t':=s1.toks) λb o e=>Ie _ e,pL a _,⟨_,Iv _ rfl,rfl,rfl⟩,λb hb=>?_,q⟩;have e:b=s1.heap.objs.size:=by simpa using hb
 subst e;exact I1.fpOk (Ih _) (I1.hok.fresh (Ih _))
theorem yR {pins:List (Addr×Obj)}{σ:St}{H:Hp}{s:MH}{R:It->Hp->Prop}{E:MK->MH->Prop}{lo hi:Int}{t u v:Tok}{tk:Nat}(I:Inv X pins σ H s)(h1:-(2 ^ 62)<=lo)(h2:lo<2 ^ 62)(h3:-(2 ^ 62)<=hi)(h4:hi<2 ^ 62)
 (q:R (G2 lo (hi-lo).toNat) H):wpAny (model X.prog X.w) X.A (pyIter (.ref s.heap.objs.size)) (He X pins σ tg R) E { s with heap:=s.heap.push { cls:=.type "range",data:=.fields #[.int lo t,.int hi u,.int 1 v] },toks:=tk }:=by
 refine wpAny_pyIter_range (IsRange.new ..) (small_one h1 h2 h3 h4) ?_;have I1:Inv X pins σ H { s with heap:=s.heap.push { cls:=.type "range",data:=.fields #[.int lo t,.int hi u,.int 1 v] },toks:=tk }:=I.kept λb o e=>Ie _ e;refine⟨(s.heap.push { cls:=.type "range",data:=.fields #[.int lo t,.int hi u,.int 1 v] }).objs.size,[(s.heap.push { cls:=.type "range",data:=.fields #[.int lo t,.int hi u,.int 1 v] }).objs.size],_,_,H,rfl,
  I1.kept (t':=tk) λb o e=>Ie _ e,uk _ lo (hi-lo).toNat,?_,λb hb=>?_,q⟩
 .have e1:lo+((0:Nat):Int)*1=lo:=by simp
  have e2:(((hi-lo).toNat:Nat):Int)-((0:Nat):Int)=Builtin.Range.rangeSize lo hi 1:=by rw[rangeSize_one];split<;>lia
  show IsRangeIter _ _ (lo+((0:Nat):Int)*1) ((((hi-lo).toNat:Nat):Int)-((0:Nat):Int)) 1;rw[e1,e2];exact Iv _ rfl
 .have e:b=(s.heap.push { cls:=.type "range",data:=.fields #[.int lo t,.int hi u,.int 1 v] }).objs.size:=by simpa using hb
  subst e;exact I1.fpOk (Ih _) (I1.hok.fresh (Ih _))
noncomputable def FG (ta:TA):TI:=λσ H R=>ta σ H λvs H1=>∃ j:Int,vs=[.int j]/\-(2 ^ 62)<=j/\j<2 ^ 62/\R (G2 0 j.toNat) H1
theorem xg {a:Expr} {ta:TA} {p pos:Pos} (hg:Gl X "range") (hm:X.mg "range"=none) (ha:PA X [a] ta) (hs:autoParam (starEach [a] X.env=[(false,eval a X.env)]) MR._auto_1):PI X tg (.Call (.Name "range" p) [a] [] pos) (FG ta):=by
 intro pins s σ H R I h;refine Call_ (je I hg hm boot_range (JY (bX (ha pos pins s σ H _ I h) λus s1 ⟨vs,H1,I1,r1,q1⟩=>?_) hs rfl));obtain⟨j,e,q1,q2,q⟩:=q1;subst e;cases r1 with
 |cons r rr=>cases rr;obtain⟨t,rfl⟩:=r;exact call_range_1 (yR I1 (by lia) (by lia) q1 q2 (by simpa using q))
noncomputable def l7 (wi:TI)(g:TG)(tb:TS):TS:=λD σ H=>wi σ H λJ H1=>∃ W:Nat->Nat->St->Hp->Prop,(∃ m,W 0 m σ H1)/\∀ i m σ H,W i m σ H->
 (J.stop i H/\D.nx σ H)\/(J.go i H/\∃ N:St->Hp->Prop,(∀ σ' H',N σ' H'->∃ m',m'<m/\W (i+1) m' σ' H')/\∀ x H',J.yld i H x H'->g x σ H' λσ2 H2=>tb { D with nx:=N,ct:=N,bk:=D.nx } σ2 H2)
noncomputable def mX (fp:List Addr)(h:Heap):List (Addr×Obj):=fp.filterMap λb=>(h.get? b).map λo=>(b,o)
theorem f9 {fp:List Addr}{h:Heap}{b:Addr}{o:Obj}(hb:b∈fp)(e:h.get? b=some o):(b,o)∈mX fp h:=Lq.mpr ⟨b,hb,by rw[e];rfl⟩
theorem xh {fp:List Addr}{h:Heap}{p:Addr×Obj}(hp:p∈mX fp h):p.1∈fp/\h.get? p.1=some p.2:=by
 obtain⟨b,hb,e⟩:=Lq.mp hp;cases q:h.get? b with
 |none=>rw[q]at e;cases e
 |some o=>rw[q]at e;have e':(b,o)=p:=IM e;subst e';exact⟨hb,q⟩
theorem Inv.pinned {pins:List (Addr×Obj)}{σ:St}{H:Hp}{s:MH}{fp:List Addr}(I:Inv X pins σ H s)(hf:∀ b∈fp,FpOk X pins H b)(ho:∀ b∈fp,∃ o,s.heap.get? b=some o/\∀ v,o.data≠.cell v):Inv X (pins++mX fp s.heap) σ H s:=I.pins_of λp hp=>(IG.mp hp).elim (λz=>I.pin p (IU _ z)) λz=>by obtain⟨hb,e⟩:=xh z;obtain⟨f0,f1,f2,_⟩:=hf p.1 hb;obtain⟨o,e',d⟩:=ho p.1 hb;rw[e]at e';cases e';exact⟨e,f0,f1,f2,d⟩
theorem Inv.unpinned {pins pl:List (Addr×Obj)}{σ:St}{H:Hp}{s:MH}(I:Inv X (pins++pl) σ H s):Inv X pins σ H s:=I.pins_of λp hp=>I.pin p (IU _ (IT _ hp))
theorem fI {iter:Expr}{body:List Stmt}{wi:TI}{g:TG}{tb:TS}{pos:Pos}(hp:PassesOwn (model X.prog X.w) X.A X.env X.xe)(hc:X.calm=true)(hi:PI X tg iter wi)(hg:PG X tg g)(hb:PSs X body tb)
 (hs:autoParam (∀ x,foldedSetIterable iter X.env x=pure x) MP._auto_1):PS X (.For tg iter body [] pos) (l7 wi g tb):=by
 intro pins s σ H D I h;refine wpAny_For (bX (hi pins s σ H _ I h) λv s1 h1=>bX h1 λitv s2 h2=>?_) hs;obtain⟨it,fp,tn,J,H2,e,I2,T,st2,f2,W,⟨m0,w0⟩,turn⟩:=h2;subst e;have stat:∀{H':Hp},(∀ b∈fp,H' b=none)->∀ b∈fp,FpOk X pins H' b:=λhn b hb=>⟨hn b hb,(f2 b hb).2⟩;refine codeAny_forLoop_any (λn s'=>∃ i σ' H',Inv X pins σ' H' s'/\tn i s'.heap/\(∀ b∈fp,H' b=none)/\W i n σ' H') ?_ m0 ⟨0,σ,H2,I2,st2,λb hb=>(f2 b hb).1,w0⟩;rintro n s3 ⟨i,σ3,H3,I3,st3,fr3,w3⟩;rcases turn i n σ3 H3 w3 with⟨stop,qn⟩|⟨go,N,hN,step⟩
 .refine KH hp (bX (T.done X rfl rfl rfl hc i pins s3 σ3 H3 X.xe I3 (stat fr3) st3 stop) λr s4 ⟨hr,I4⟩=>?_);subst hr;exact Md ⟨σ3,H3,I4,qn⟩
 .refine KH hp (bX (T.item X rfl rfl rfl hc i pins s3 σ3 H3 X.xe I3 (stat fr3) st3 go) λr s4 ⟨u,hr,h4⟩=>?_);subst hr;refine KH hp (bX h4 λ_ s5 ⟨x,H5,I5,r5,y5,st5,fr5⟩=>?_);have I5':=I5.pinned (stat fr5) (T.obj _ _ st5);refine KH hp (bX (hg _ s5 σ3 H5 x u _ I5' r5 (step x H5 y5)) λ_ s6 ⟨σ6,H6,I6,q6⟩=>?_);refine KH hp (bX (hb _ s6 σ6 H6 _ I6 q6) λf s7 q7=>?_);have again:∀{σ7:St}{H7:Hp},Inv X (pins++mX fp s5.heap) σ7 H7 s7->N σ7 H7->∃ m,m<n/\∃ i σ' H',Inv X pins σ' H' s7/\tn i s7.heap/\(∀ b∈fp,H' b=none)/\W i m σ' H':=λ{σ7 H7} I7 n7=>by obtain⟨m',hm,w7⟩:=hN σ7 H7 n7;refine⟨m',hm,i+1,σ7,H7,I7.unpinned,T.keep _ _ _ st5 λb hb o e=>(I7.pin (b,o) (IU _ (IU _ (f9 hb e)))).1,λb hb=>?_,w7⟩;obtain⟨o,e,d⟩:=T.obj _ _ st5 b hb;exact(I7.pin (b,o) (IU _ (IU _ (f9 hb e)))).2.1
  cases f with
  |next=>obtain⟨σ7,H7,I7,n7⟩:=q7;exact again I7 n7
  |cont=>obtain⟨σ7,H7,I7,n7⟩:=q7;exact again I7 n7
  |brk=>obtain⟨σ7,H7,I7,q7⟩:=q7;exact⟨σ7,H7,I7.unpinned,q7⟩
  |ret v=>obtain⟨x7,σ7,H7,I7,r7,q7⟩:=q7;exact⟨x7,σ7,H7,I7.unpinned,r7,q7⟩
end
theorem sv {K:MI}{a:Addr}{xs:List V}{g:TG}{tb:TS}{D:Ends}{σ:St}{H:Hp}(Pv:Nat->St->Hp->Prop)(h0:Pv 0 σ H)(hl:∀ i σ H,i<=xs.length->Pv i σ H->SqL K H a xs)
 (hs:∀ i x σ H,xs[i]?=some x->Pv i σ H->g x σ H λσ2 H2=>tb { D with nx:=Pv (i+1),ct:=Pv (i+1),bk:=D.nx } σ2 H2) (hd:∀ σ H,Pv xs.length σ H->D.nx σ H) :
 ∃ W:Nat->Nat->St->Hp->Prop,(∃ m,W 0 m σ H)/\∀ i m σ H,W i m σ H->
  ((uh K a).stop i H/\D.nx σ H)\/((uh K a).go i H/\∃ N:St->Hp->Prop,(∀ σ' H',N σ' H'->∃ m',m'<m/\W (i+1) m' σ' H')/\∀ x H',(uh K a).yld i H x H'->g x σ H' λσ2 H2=>tb { D with nx:=N,ct:=N,bk:=D.nx } σ2 H2):=by
 refine⟨λi m σ H=>m=xs.length-i/\i<=xs.length/\Pv i σ H,⟨xs.length,by simp,IR _,h0⟩,?_⟩;rintro i m σ H ⟨rfl,hi,p⟩;have q:=hl i σ H hi p;by_cases hlt:i<xs.length
 .refine .inr ⟨⟨xs,xs[i],q,by simp[hlt]⟩,Pv (i+1),λσ' H' p'=>⟨xs.length-(i+1),by lia,rfl,hlt,p'⟩,λx H' y=>?_⟩;obtain⟨e,y⟩:=y;subst e;exact hs i x σ _ (y xs q) p
 .have e:i=xs.length:=by lia
  subst e;exact .inl ⟨⟨xs,q,Ih _⟩,hd σ H p⟩
noncomputable abbrev R2:=V->V->Hp->VK->Prop
def OpR (X:Cx)(f:MK->MK->Sem MK)(r:R2):Prop:=
 ∀(pins:List (Addr×Obj))(s:MH)(σ:St)(H:Hp)(x y:V)(v u:MK)(Q:VK),Inv X pins σ H s->RelV x v->RelV y u->r x y H Q->
  wpAny (model X.prog X.w) X.A (f v u) (EP X pins σ Q) X.xe s
def CallR (X:Cx)(f:MK)(r:List V->Hp->VK->Prop):Prop:=
 ∀(pins:List (Addr×Obj))(s:MH)(σ:St)(H:Hp)(xs:List V)(us:List MK)(Q:VK),Inv X pins σ H s->Vals xs us->r xs H Q->
  wpAny (model X.prog X.w) X.A (call f us) (EP X pins σ Q) X.xe s
def Hg (X:Cx)(r:V->Hp->(Bool->Hp->Prop)->Prop):Prop:=
 ∀(pins:List (Addr×Obj))(s:MH)(σ:St)(H:Hp)(x:V)(v:MK)(Q:Bool->Hp->Prop),Inv X pins σ H s->RelV x v->r x H Q->
  wpAny (model X.prog X.w) X.A (truthy v) (TP X pins σ Q) X.xe s
noncomputable def k9 (r:R2)(ta tb:TE):TE:=λσ H Q=>ta σ H λx H1=>tb σ H1 λy H2=>r x y H2 Q
noncomputable def rI (C:Int->Int->Prop)(g:Int->Int->V):R2:=λx y H Q=>∃ i j,x=.int i/\y=.int j/\C i j/\Q (g i j) H
noncomputable def xj (g:Int->Int->V):R2:=λx y H Q=>∃ i j,x=.int i/\y=.int j/\Q (g i j) H
section
variable {X:Cx}{a b c:Expr}{ta tb tc:TE}{pos:Pos}
theorem DO (ha:PE X a ta)(hb:PE X b tb){pins:List (Addr×Obj)}{s:MH}{σ:St}{H:Hp}{R:V->V->Hp->Prop}(I:Inv X pins σ H s)
 (h:ta σ H λx H1=>tb σ H1 λy H2=>R x y H2) {Q:MK->MH->Prop} {f:MK->MK->Sem MK}
 (hf:∀ v u s2 x y H2,Inv X pins σ H2 s2->RelV x v->RelV y u->R x y H2->wpAny (model X.prog X.w) X.A (f v u) Q X.xe s2) :
 wpAny (model X.prog X.w) X.A (eval a X.env) (λv s₁=>wpAny (model X.prog X.w) X.A (eval b X.env) (λu s₂=>wpAny (model X.prog X.w) X.A (f v u) Q X.xe s₂) X.xe s₁) X.xe s:=by
 refine bX (ha pins s σ H _ I h) λv s1 ⟨x,H1,I1,r1,q1⟩=>?_;refine bX (hb pins s1 σ H1 _ I1 q1) λu s2 ⟨y,H2,I2,r2,q2⟩=>?_;exact hf v u s2 x y H2 I2 r1 r2 q2
theorem mY {op:Operator}{r:R2}(ho:OpR X (binaryOp op) r)(ha:PE X a ta)(hb:PE X b tb):PE X (.BinOp a op b pos) (k9 r ta tb):=by intro pins s σ H Q I h;exact wpAny_BinOp (DO ha hb I h λv u s2 x y H2 I2 rx ry q=>ho pins s2 σ H2 x y v u Q I2 rx ry q)
theorem G3 {f:MK->MK->Sem MK}{C:Int->Int->Prop}{g:Int->Int->Int}
 (rule:∀(i j:Int)(t u:Tok)(s:MH)(Q:MK->MH->Prop)(E:MK->MH->Prop),C i j->Q (.int (g i j) s.toks) { s with toks:=s.toks+1 }->wpAny (model X.prog X.w) X.A (f (.int i t) (.int j u)) Q E s) :
 OpR X f (rI C λi j=>.int (g i j)):=by
 intro pins s σ H x y v u Q I rx ry h;obtain⟨i,j,rfl,rfl,hc,q⟩:=h;obtain⟨t,rfl⟩:=rx;obtain⟨t',rfl⟩:=ry;exact rule i j t t' s _ _ hc ⟨.int (g i j),H,I.tok _,⟨_,rfl⟩,q⟩
theorem DP {f:MK->MK->Sem MK}{g:Int->Int->Int}
 (rule:∀(i j:Int)(t u:Tok)(s:MH)(Q:MK->MH->Prop)(E:MK->MH->Prop),Q (.int (g i j) s.toks) { s with toks:=s.toks+1 }->wpAny (model X.prog X.w) X.A (f (.int i t) (.int j u)) Q E s) :
 OpR X f (xj λi j=>.int (g i j)):=by
 intro pins s σ H x y v u Q I rx ry h;obtain⟨i,j,rfl,rfl,q⟩:=h;obtain⟨t,rfl⟩:=rx;obtain⟨t',rfl⟩:=ry;exact rule i j t t' s _ _ ⟨.int (g i j),H,I.tok _,⟨_,rfl⟩,q⟩
theorem DQ {f:MK->MK->Sem MK}{g:Int->Int->Bool}
 (rule:∀(i j:Int)(t u:Tok)(s:MH)(Q:MK->MH->Prop)(E:MK->MH->Prop),Q (.bool (g i j)) s->wpAny (model X.prog X.w) X.A (f (.int i t) (.int j u)) Q E s) :
 OpR X f (xj λi j=>.bl (g i j)):=by
 intro pins s σ H x y v u Q I rx ry h;obtain⟨i,j,rfl,rfl,q⟩:=h;obtain⟨t,rfl⟩:=rx;obtain⟨t',rfl⟩:=ry;exact rule i j t t' s _ _ ⟨.bl (g i j),H,I,rfl,q⟩
def FH (i j:Int):Prop:=0<j/\j<1073741824
def CMul (i j:Int):Prop:=(-(2 ^ 64)<i/\i<2 ^ 64)\/(-(2 ^ 64)<j/\j<2 ^ 64)
theorem CMul.ok {i j:Int}(h:CMul i j):IntMulOk i j:=by
 rcases h with⟨h1,h2⟩|⟨h1,h2⟩
 .exact .of_left (intBits_le_64 h1 h2)
 .exact .of_right (intBits_le_64 h1 h2)
theorem um (k:Nat):(0:Int)<=2 ^ k:=by rw[two_pow_cast];exact Int.natCast_nonneg _
theorem op_add:OpR X (binaryOp .Add) (xj λi j=>.int (i+j)):=DP λ_ _ _ _ _ _ _ q=>add_int q
theorem DR:OpR X (binaryOp .Mult) (rI CMul λi j=>.int (i*j)):=G3 λ_ _ _ _ _ _ _ hc q=>mul_int q hc.ok
theorem Be:OpR X (binaryOp .FloorDiv) (rI FH λi j=>.int (i / j)):=G3 λi j _ _ _ _ _ hc q=>by have h1:(0:Int)<j:=hc.1;have h2:j<1073741824:=hc.2;exact floordiv_int (by lia) (by rw[Lc i (by lia)];exact q) (.inl (PyProof.noPylong_small (by lia)))
theorem DS:OpR X (binaryOp .Mod) (rI (λ_ j=>0<j) λi j=>.int (i % j)):=G3 λi j _ _ _ _ _ hc q=>by have h1:(0:Int)<j:=hc;exact mod_int' (by lia) (by rw[Int.fmod_eq_emod_of_nonneg i (by lia)];exact q)
theorem DT:OpR X (binaryOp .RShift) (rI (λ_ j=>0<=j) λi j=>.int (i / 2 ^ j.toNat)):=G3 λi j _ _ _ _ _ hc q=>rshift_int hc (by rw[Lc i (um _)];exact q)
theorem DU:OpR X (binaryOp .BitAnd) (xj λi j=>.int (Builtin.bitAnd i j)):=DP λ_ _ _ _ _ _ _ q=>and_int q
theorem DV:OpR X (binaryOp .BitXor) (xj λi j=>.int (Builtin.bitXor i j)):=DP λ_ _ _ _ _ _ _ q=>xor_int q
end
noncomputable def Hh:V->V->Bool
 | .non,.non=>true|.non,.int _=>true|.int _,.non=>true|.non,.bl _=>true|.bl _,.non=>true|.non,.str _=>true|.str _,.non=>true
 | .int _,.int _=>true|.bl _,.bl _=>true|.str _,.str _=>true|.byt _,.byt _=>true
 | .int _,.str _=>true|.str _,.int _=>true|.bl _,.str _=>true|.str _,.bl _=>true
 |_,_=>false
noncomputable def FI:R2:=λx y H Q=>Hh x y=true/\Q (.bl (decide (x=y))) H
theorem Bf {i j:Int}:decide (V.int i=V.int j)=(i==j):=by rw[K5];simp
theorem DW {i j:Bool}:decide (V.bl i=V.bl j)=(i==j):=by rw[K5];simp
theorem Bg {i j:Str}:decide (V.str i=V.str j)=(i==j):=by rw[K5];simp
theorem Bh {i j:Array UInt8}:decide (V.byt i=V.byt j)=(i.toList==j.toList):=by rw[K5];cases i;cases j;simp
section
variable {X:Cx}{a b c:Expr}{ta tb tc:TE}{pos:Pos}
theorem ce {pins:List (Addr×Obj)}{σ:St}{H:Hp}{s:MH}{Q:VK}{k k':Bool}(I:Inv X pins σ H s)(q:Q (.bl k) H)(e:k=k'):EP X pins σ Q (.bool k') s:=by subst e;exact⟨.bl k,H,I,rfl,q⟩
theorem vK:OpR X (compareOp .Eq) FI:=by
 intro pins s σ H x y v u Q I rx ry h;obtain⟨hs,q⟩:=h;cases x with
 |non=>
  cases rx;cases y with
  |non=>cases ry;exact PySem.EqNone.eq_none_none (ce I q (by simp))
  |bl j=>cases ry;exact PySem.EqNone.eq_none_bool (ce I q (by simp))
  |int j=>obtain⟨t',rfl⟩:=ry;exact PySem.EqNone.eq_none_int (ce I q (by simp))
  |str j=>obtain⟨t',rfl⟩:=ry;exact PySem.EqNone.eq_none_str (ce I q (by simp))
  |_=>exact absurd (show false=true from hs) Ja
 |bl i=>
  cases rx;cases y with
  |non=>cases ry;exact PySem.EqNone.eq_bool_none (ce I q (by simp))
  |bl j=>cases ry;exact eq_bool (ce I q DW)
  |str j=>obtain⟨t',rfl⟩:=ry;exact PySem.EqMixed.eq_bool_str (ce I q (by simp))
  |_=>exact absurd (show false=true from hs) Ja
 |int i=>
  obtain⟨t,rfl⟩:=rx;cases y with
  |non=>cases ry;exact PySem.EqNone.eq_int_none (ce I q (by simp))
  |int j=>obtain⟨t',rfl⟩:=ry;exact eq_int (ce I q Bf)
  |str j=>obtain⟨t',rfl⟩:=ry;exact PySem.EqMixed.eq_int_str (ce I q (by simp))
  |_=>exact absurd (show false=true from hs) Ja
 |str i=>
  obtain⟨t,rfl⟩:=rx;cases y with
  |non=>cases ry;exact PySem.EqNone.eq_str_none (ce I q (by simp))
  |bl j=>cases ry;exact PySem.EqMixed.eq_str_bool (ce I q (by simp))
  |int j=>obtain⟨t',rfl⟩:=ry;exact PySem.EqMixed.eq_str_int (ce I q (by simp))
  |str j=>obtain⟨t',rfl⟩:=ry;exact eq_str (ce I q Bg)
  |_=>exact absurd (show false=true from hs) Ja
 |byt i=>
  obtain⟨t,rfl⟩:=rx;cases y with
  |byt j=>obtain⟨t',rfl⟩:=ry;exact PySem.W.eq_bytes (ce I q Bh)
  |_=>exact absurd (show false=true from hs) Ja
 |_=>cases y<;>exact absurd (show false=true from hs) Ja
theorem CM:OpR X (compareOp .Lt) (xj λi j=>.bl (decide (i<j))):=DQ λ_ _ _ _ _ _ _ q=>lt_int q
theorem CN:OpR X (compareOp .Gt) (xj λi j=>.bl (decide (j<i))):=DQ λ_ _ _ _ _ _ _ q=>gt_int q
theorem FJ:OpR X (compareOp .GtE) (xj λi j=>.bl (decide (j<=i))):=DQ λ_ _ _ _ _ _ _ q=>ge_int q
theorem DY:OpR X (compareOp .Is) (λx y H Q=>y=.non/\Q (.bl (decide (x=.non))) H):=by
 intro pins s σ H x y v u Q I rx ry h;obtain⟨rfl,q⟩:=h;cases ry;refine is_none_gen (ce I q ?_);cases x<;>first
  |(cases rx;rfl)
  |(obtain⟨t,rfl⟩:=rx;rfl)
theorem OpR.or {f:MK->MK->Sem MK}{r r':R2}(h:OpR X f r)(h':OpR X f r'):OpR X f (λx y H Q=>r x y H Q\/r' x y H Q):=by
 intro pins s σ H x y v u Q I rx ry q;rcases q with q|q
 .exact h pins s σ H x y v u Q I rx ry q
 .exact h' pins s σ H x y v u Q I rx ry q
theorem bG (b:Expr){op:CmpOp}(h:autoParam (op≠.In) MM._auto_1)(h2:autoParam (op≠.NotIn) MM._auto_1):behindInMarks op b=false:=by
 have e1:(op==CmpOp.In)=false:=by cases op<;>first|rfl|exact absurd rfl h
 have e2:(op==CmpOp.NotIn)=false:=by cases op<;>first|rfl|exact absurd rfl h2
 cases b<;>simp[behindInMarks,e1,e2]
theorem vL {op:CmpOp}{r:R2}(ho:OpR X (compareOp op) r)(ha:PE X a ta)(hb:PE X b tb)(hm:behindInMarks op b=false):PE X (.Compare a [op] [b] pos) (k9 r ta tb):=by intro pins s σ H Q I h;exact wpAny_Compare1 (DO ha hb I h λv u s2 x y H2 I2 rx ry q=>ho pins s2 σ H2 x y v u Q I2 rx ry q) hm
noncomputable def mZ (t:TE):TT:=λσ H Q=>t σ H λx H'=>∃ k,x=.bl k/\Q k H'
theorem f_ {op:CmpOp}{r:R2}(ho:OpR X (compareOp op) r)(ha:PE X a ta)(hb:PE X b tb)(hm:behindInMarks op b=false):PT X (.Compare a [op] [b] pos) (mZ (k9 r ta tb)):=by intro pins s σ H Q I h;refine wpAny_isTrue_Compare1 (bX (ha pins s σ H _ I h) λv s1 ⟨x,H1,I1,r1,q1⟩=>bX (hb pins s1 σ H1 _ I1 q1) λu s2 ⟨y,H2,I2,r2,q2⟩=>bX (ho pins s2 σ H2 x y v u _ I2 r1 r2 q2) λc s3 ⟨z,H3,I3,r3,k,e,q3⟩=>?_) hm;subst e;cases r3;exact Ly ⟨H3,I3,q3⟩
def DZ (K:MI)(x:V)(H:Hp)(k:Bool):Prop:=
 match x with
 | .non=>k=false
 | .bl b=>k=b
 | .int i=>k=(i != 0)
 | .str y=>y.length<=sizeLine/\k=((y.length:Int) != 0)
 | .byt y=>y.size<=sizeLine/\k=((y.size:Int) != 0)
 | .ref p=>(∃ xs,SqL K H p xs/\k=!xs.isEmpty)\/(∃ xs,SqT K H p xs/\k=!xs.isEmpty)\/∃ kvs,H p=some (.dK kvs)/\k=!kvs.isEmpty
 |_=>False
theorem uq {κ:Type}{kvs:List (κ×V)}{vs:List (κ×MK)}(r:KV kvs vs):(!vs.isEmpty)=!kvs.isEmpty:=by cases r<;>rfl
theorem m5 {xs:List V}{its:List MK}(r:Vals xs its):(!its.toArray.isEmpty)=!xs.isEmpty:=by cases r<;>simp
theorem k_:(sizeLine:Nat)<2 ^ 63:=by rw[I_];decide
theorem D0:Hg X (λx H Q=>∃ k,DZ X.K x H k/\Q k H):=by
 intro pins s σ H x v Q I rx h;obtain⟨k,e,q⟩:=h;have hl:=k_;have hs:sizeLine=16777216:=I_;cases x with
 |non=>cases rx;have e':k=false:=e;subst e';exact truthy_none ⟨H,I,q⟩
 |bl b=>cases rx;have e':k=b:=e;subst e';exact Ly ⟨H,I,q⟩
 |int i=>obtain⟨t,rfl⟩:=rx;have e':k=(i != 0):=e;subst e';exact PySem.P.truthy_int ⟨H,I,q⟩
 |str y=>obtain⟨t,rfl⟩:=rx;obtain⟨hy,e'⟩ : y.length<=sizeLine/\k=((y.length:Int) != 0):=e;subst e';exact PySem.P.truthy_str (by lia) ⟨H,I.tok _,q⟩
 |byt y=>obtain⟨t,rfl⟩:=rx;obtain⟨hy,e'⟩ : y.size<=sizeLine/\k=((y.size:Int) != 0):=e;subst e';exact PySem.W.truthy_bytes (by lia) ⟨H,I.tok _,q⟩
 |ref p=>
  cases rx;have e':(∃ xs,SqL X.K H p xs/\k=!xs.isEmpty)\/(∃ xs,SqT X.K H p xs/\k=!xs.isEmpty)\/∃ kvs,H p=some (.dK kvs)/\k=!kvs.isEmpty:=e;rcases e' with⟨xs,hx,e'⟩|⟨xs,hx,e'⟩|⟨kvs,hx,e'⟩
  .subst e';obtain⟨its,r,pl,hz⟩:=I.list hx;have aR:=r.length;exact wpAny_truthy_list pl.isList (by simp only[Iu];lia) ⟨H,I.tok _,by rw[m5 r];exact q⟩
  .subst e';obtain⟨its,r,pl,hz⟩:=I.tuple hx;have aR:=r.length;exact truthy_tuple pl (by simp only[Iu];lia) ⟨H,I.tok _,by rw[m5 r];exact q⟩
  .subst e';obtain⟨hz,hS,vs,r,m⟩ : kvs.length<=sizeLine/\(p==sysModules)=false/\∃ vs,KV kvs vs/\s.heap.DictOf (aB X.prog X.w) p vs:=I.hok p _ hx;have aR:kvs.length=vs.length:=Lp r;exact wpAny_truthy_dict hS m (by lia) ⟨H,I.tok _,by rw[uq r];exact q⟩
 |_=>exact(show False from e).elim
theorem yS (ha:PE X a ta)(he:∀ whole,isTrue a X.env whole=(do let v <- whole;standAt a.pos;holding [v] (truthy v))) :
 PT X a (λσ H Q=>ta σ H λx H'=>∃ k,DZ X.K x H' k/\Q k H'):=by
 intro pins s σ H Q I h;exact isTrue_plain (bX (ha pins s σ H _ I h) λv s1 ⟨x,H1,I1,r1,q1⟩=>D0 pins s1 σ H1 x v Q I1 r1 q1) (he _)
theorem ur:OpR X (binaryOp .Add) (λx y H Q=>∃ i j,x=.str i/\y=.str j/\i.length+j.length<=sizeLine/\Q (.str (i++j)) H):=by intro pins s σ H x y v u Q I rx ry h;obtain⟨i,j,rfl,rfl,hz,q⟩:=h;obtain⟨t,rfl⟩:=rx;obtain⟨t',rfl⟩:=ry;exact add_str (λt' tk=>⟨.str (i++j),H,I.tok _,⟨_,rfl⟩,q⟩) hz
theorem fQ {x:V}{us:List MK}(r:Vals [x] us):∃ u,us=[u]/\RelV x u:=by
 cases r with
 |cons r1 r2=>cases r2;exact⟨_,rfl,r1⟩
theorem vM {x y:V}{us:List MK}(r:Vals [x,y] us):∃ u w',us=[u,w']/\RelV x u/\RelV y w':=by
 cases r with
 |cons r1 r2=>
  cases r2 with
  |cons r3 r4=>cases r4;exact⟨_,_,rfl,r1,r3⟩
theorem xk:CallR X (.type "int") (λxs H Q=>(∃ i,xs=[.int i]/\Q (.int i) H)\/∃ k,xs=[.bl k]/\Q (.int (if k then 1 else 0)) H):=by
 intro pins s σ H xs us Q I r h;rcases h with⟨i,rfl,q⟩|⟨k,rfl,q⟩
 .obtain⟨u,rfl,t,rfl⟩:=fQ r;exact call_int_int ⟨.int i,H,I,⟨_,rfl⟩,q⟩
 .obtain⟨u,rfl,r1⟩:=fQ r;cases r1;exact call_int_bool ⟨.int (if k then 1 else 0),H,I.tok _,⟨_,rfl⟩,q⟩
theorem sw:CallR X (.builtin "divmod") (λxs H Q=>∃ i j,xs=[.int i,.int j]/\FH i j/\∀ p,H p=none->Q (.ref p) (aG H p (.tup [.int (i / j),.int (i % j)]))):=by intro pins s σ H xs us Q I r h;obtain⟨i,j,rfl,⟨h1,h2⟩,q⟩:=h;obtain⟨u,w',rfl,⟨t,rfl⟩,⟨t',rfl⟩⟩:=vM r;refine divmod_int (by lia) ?_ (.inl (PyProof.noPylong_small (by lia)));rw[Lc i (by lia),Int.fmod_eq_emod_of_nonneg i (by lia)];have hn:H s.heap.objs.size=none:=I.hok.fresh (Ih _);refine⟨.ref s.heap.objs.size,_,?_,rfl,q _ hn⟩;refine I.laid (λb o e=>Ie _ e) (Ih _) ⟨by simp only[Iw,Jr];rw[I_];decide,[.int (i / j) s.toks,.int (i % j) (s.toks+1)],.cons ⟨_,rfl⟩ (.cons ⟨_,rfl⟩ .nil),?_⟩;exact⟨_,Iv s.heap rfl,rfl,0,rfl⟩
end
structure ObjM (h:Heap) (x dx C:Addr) (mA:Str->Option MK):Prop where
 obj:h.get? x=some (PySem.W.instObj C dx)
 ns:h.Ns1 dx mA
 ne:dx≠x
theorem xm {h:Heap}{dx:Addr}{mA:Str->Option MK}(n:h.Ns1 dx mA):∃ od,h.get? dx=some od/\∀ name,PySem.W.lookIn name od=some (mA name):=by
 obtain⟨o,es,ep,ho,hd,hk,_,hm⟩:=n;refine⟨o,ho,λname=>?_⟩;have e:=hm name;unfold nsFind findBy at e;rw[<- Array.find?_toList]at e;unfold PySem.W.lookIn;rw[hd];dsimp only;split
 .rename_i y q;rw[q]at e;exact JF some e
 .rename_i q;rw[q]at e;have a:es.toList.any (·.refKey)=false:=by rw[List.any_eq_false];intro y hy;obtain⟨z,t,ki⟩:=hk y (Array.mem_toList_iff.mp hy);simp[DictEntry.refKey,ki]
  have a':¬ es.toList.any (·.refKey)=true:=by rw[a];exact Ja
  rw[Ij a'];exact JF some e
theorem ObjM.look {h:Heap}{x dx C:Addr}{mA:Str->Option MK}(I:ObjM h x dx C mA):∃ od,PySem.W.InstAt h x (PySem.W.instObj C dx) C (some od)/\∀ name,PySem.W.lookIn name od=some (mA name):=
 let ⟨od,ho,hl⟩:=xm I.ns
 ⟨od,⟨I.obj,rfl,rfl,ho⟩,hl⟩
section
variable {prog:MJ}{w:World}{A:ML}{E:MK->MH->Prop}{s:MH}{K:MI}{x dx C f:Addr}{mA:Str->Option MK}{name:Str}{v:MK}
theorem Bi {expr:Bool}{Q:MK->MH->Prop}(X:K.In s.heap)(I:ObjM s.heap x dx C mA)(hg:PySem.W.plainGet K C name=true)(hh:PySem.W.hasDictIn K C=true)
 (ha:PySem.W.findIn K (.ref C) name=some none) (hv:mA name=some v) (hv':PySem.W.handedIn v=true) (h:Q v { s with toks:=s.toks+1 }) :
 wpAny (model prog w) A (getAttr (.ref x) name expr) Q E s:=by
 obtain⟨od,J,hl⟩:=I.look;exact PySem.W.get_value X J (Me hg).1 (PySem.W.findObj_own hh ha rfl (by rw[hl,hv])) hv' h
theorem yT {pl:Sem Bool}{Q:MK×List MK->MH->Prop}(X:K.In s.heap)(I:ObjM s.heap x dx C mA)(hg:PySem.W.plainGet K C name=true)
 (hf:PySem.W.findIn K (.ref C) name=some (some (.ref f))) (ht:PySem.W.isFn K (.ref f)=true) (hv:mA name=none) (h:Q (.ref f,[.ref x]) s) :
 wpAny (model prog w) A (getMethod (.ref x) name pl) Q E s:=by
 obtain⟨od,J,hl⟩:=I.look;exact PySem.W.method_fn X J (Me hg).1 (Me hg).2 hf (K_.mp ht) (by show(PySem.W.lookIn name od).map (·.isSome)=some false;rw[hl,hv];rfl) h
theorem Bj {ns:List Str}{Q:Unit->MH->Prop}(X:K.In s.heap)(I:ObjM s.heap x dx C mA)
 (hs:PySem.W.findIn K (.ref C) "__setattr__"=some (some (.builtin "object.__setattr__"))) (hp:PySem.W.plainOver K C=true) (ht:PySem.W.takerIn K C name=some none) (hh:PySem.W.hasDictIn K C=true)
 (hw:PySem.Within mA ns) (hsz:ns.length<=sizeLine)
 (h:∀ h',ObjM h' x dx C (λy=>if y=name then some v else mA y)->Heap.SameBut dx s.heap h'->Q () { s with heap:=h',toks:=s.toks+2 }) :
 wpAny (model prog w) A (setAttr (.ref x) name v) Q E s:=by
 obtain⟨od,J,hl⟩:=I.look;refine PySem.W.set_plain X J hs (PySem.W.osa_open (s:={ s with toks:=s.toks+1 }) (r:=none) X J hp ht λb=>?_);obtain⟨cd,hc,hd'⟩:=PySem.W.any_some hh;have hx:s.heap.get? x=some ⟨.ref C,some dx,.plain,#[]⟩:=I.obj;refine Ic (Ig (Ic (Ic (wpAny_loadPart hx (Ic (PySem.W.Looks.here (s:={ s with toks:=s.toks+1 }) (PySem.W.looks_clsIn X hc) ?_))))));rw[hd'];refine Ig (a:=some dx) (Ic (Ig (Ic ?_)));refine wpAny_nsSet1 (s:={ s with toks:=s.toks+1 }) I.ns λh' hn2 hs2=>?_;obtain⟨oD,esD,epD,hoD,hdD,hcD⟩:=hn2.count (PySem.Within.cons name v hw);refine Ic (wpAny_lookBehind hoD (by rw[hdD];exact pastItsLine_dict (IL hcD (by rw[Iw];lia))) ?_);exact Ig (h _ ⟨(hs2.2 _ (Jn I.ne)).trans I.obj,hn2,I.ne⟩ hs2)
theorem yU {R:Result->MH->Prop}{vs:List MK}{kw:List (Str×MK)}(X:K.In s.heap)(hm:PySem.W.makesIn K C=true)
 (hi:PySem.W.findIn K (.ref C) "__init__"=some (some (.ref f))) (hf:PySem.W.typeIn K (.ref f)=some (.type "function"))
 (h:codeAny (model prog w) (A.under (.builtin "type.__call__" ⟨.ref C::vs,kw⟩)) (.call (.ref f) ⟨.ref (s.heap.objs.size+1)::vs,kw⟩) (PySem.W.InitBack (s.heap.objs.size+1) R)
   { s with heap:=(s.heap.push PySem.W.emptyDict).push (PySem.W.instObj C s.heap.objs.size) }) :
 codeAny (model prog w) A (.call (.ref C) ⟨vs,kw⟩) R s:=by
 obtain⟨hh,g,d,t,os⟩:=s;exact PySem.W.make_core (PySem.W.makes_of X hm) (PySem.W.looks_findIn X hi) (λself=>PySem.W.bind_fn X self hf) (.inl rfl) h
end
noncomputable def fw (f:Str)(v:V):List (Str×V)->List (Str×V)
 | []=>[(f,v)]
 |(g,x)::r=>if g=f then (g,v)::r else (g,x)::fw f v r
theorem lP (f g:Str)(v:V):∀ fs:List (Str×V),(fw f v fs).lookup g=if g=f then some v else fs.lookup g
 | []=>by
  show List.lookup g [(f,v)]=_;by_cases h:g=f
  .have hb:(g==f)=true:=K_.mpr h;simp only[List.lookup,hb,Il h]
  .have hb:(g==f)=false:=Jw.mpr h;simp only[List.lookup,hb,Ij h]
 |(k,x)::r=>by
  have ih:=lP f g v r;rw[show fw f v ((k,x)::r)=(if k=f then (k,v)::r else (k,x)::fw f v r) from rfl];by_cases hk:k=f
  .rw[Il hk];by_cases h:g=k
   .have hb:(g==k)=true:=K_.mpr h;simp only[List.lookup,hb,Il (h.trans hk)]
   .have hb:(g==k)=false:=Jw.mpr h;simp only[List.lookup,hb,Ij (λe:g=f=>h (e.trans hk.symm))]
  .rw[Ij hk];by_cases h:g=k
   .have hb:(g==k)=true:=K_.mpr h;simp only[List.lookup,hb,Ij (λe:g=f=>hk (h.symm.trans e))]
   .have hb:(g==k)=false:=Jw.mpr h;simp only[List.lookup,hb];exact ih
theorem lb (f:Str)(v:V):∀ fs:List (Str×V),f∈(fw f v fs).map (·.1)/\∀ g,g∈fs.map (·.1)->g∈(fw f v fs).map (·.1)
 | []=>⟨by simp[fw],λg h=>by simp at h⟩
 |(k,x)::r=>by
  obtain⟨i1,i2⟩:=lb f v r;rw[show fw f v ((k,x)::r)=(if k=f then (k,v)::r else (k,x)::fw f v r) from rfl];by_cases hk:k=f
  .rw[Il hk];subst hk;exact⟨by simp,λg h=>by simpa using h⟩
  .rw[Ij hk];refine⟨?_,λg h=>?_⟩
   .rw[Im];exact Ii _ i1
   .rw[Im]at h ⊢;rcases Ip.mp h with e|e
    .exact Ip.mpr (.inl e)
    .exact Ii _ (i2 g e)
theorem lQ (f:Str)(v:V):∀ fs:List (Str×V),(fw f v fs).length<=fs.length+1
 | []=>by simp[fw]
 |(k,x)::r=>by
  have ih:=lQ f v r;rw[show fw f v ((k,x)::r)=(if k=f then (k,v)::r else (k,x)::fw f v r) from rfl];by_cases hk:k=f
  .rw[Il hk,Iw,Iw];lia
  .rw[Ij hk,Iw,Iw];lia
theorem RelO.some_of {v:V}{o:Option MK}(r:RelO (some v) o):∃ u,o=some u/\RelV v u:=by
 cases o with
 |none=>exact(show False from r).elim
 |some u=>exact⟨u,rfl,r⟩
theorem RelO.none_of {o:Option MK}(r:RelO none o):o=none:=by
 cases o with
 |none=>rfl
 |some u=>exact(show False from r).elim
theorem xn {v:V}{u:MK}(r:RelV v u):PySem.W.handedIn u=true:=by
 cases v with
 |non=>cases (show u=Value.none from r);rfl
 |bl b=>cases (show u=Value.bool b from r);rfl
 |int i=>obtain⟨t,e⟩:=(show ∃ t,u=Value.int i t from r);cases e;rfl
 |str x=>obtain⟨t,e⟩:=(show ∃ t,u=Value.str x t from r);cases e;rfl
 |byt b=>obtain⟨t,e⟩:=(show ∃ t,u=Value.bytes b t from r);cases e;rfl
 |flt b=>obtain⟨t,e⟩:=(show ∃ t,u=Value.float b t from r);cases e;rfl
 |ref a=>cases (show u=Value.ref a from r);rfl
 |ty n=>cases (show u=Value.type n from r);rfl
section
variable {P:MJ}{w:World}{H H':Hp}{h h':Heap}{a C dx:Addr}{fs fs':List (Str×V)}
theorem mq (hok:HOk P w H h)(e:H a=some (.ins C dx fs)):∃ mA,ObjM h a dx C mA/\(∀ f,RelO (fs.lookup f) (mA f))/\PySem.Within mA (fs.map (·.1))/\fs.length<=1000/\H dx=some (.own a):=by obtain⟨d,z,ne,ob,mA,n,r,q⟩:=(show ObjOk P w H h a (.ins C dx fs) from hok a _ e);exact⟨mA,⟨ob,n,ne⟩,r,q,z,d⟩
end
structure Cls (K:MI) (C:Addr):Prop where
 pg:PySem.W.plainGet K C Str.empty=true
 hd:PySem.W.hasDictIn K C=true
 po:PySem.W.plainOver K C=true
 sa:PySem.W.findIn K (.ref C) "__setattr__"=some (some (.builtin "object.__setattr__"))
theorem Cls.get {K:MI}{C:Addr}(c:Cls K C)(f:Str):PySem.W.plainGet K C f=true:=c.pg
def NoAttr (K:MI)(C:Addr)(f:Str):Prop:=PySem.W.findIn K (.ref C) f=some none
theorem NoAttr.taker {K:MI}{C:Addr}{f:Str}(n:NoAttr K C f):PySem.W.takerIn K C f=some none:=by unfold PySem.W.takerIn;rw[show PySem.W.findIn K (.ref C) f=some none from n];rfl
structure Meth (K:MI) (C:Addr) (m:Str) (f:Addr):Prop where
 at_:PySem.W.findIn K (.ref C) m=some (some (.ref f))
 fn:PySem.W.isFn K (.ref f)=true
 kp:PySem.W.keepIn K (.ref f)=true
section
variable {X:Cx}{pins:List (Addr×Obj)}{σ:St}{H:Hp}{s:MH}{a C dx:Addr}{fs:List (Str×V)}{f:Str}{v:V}{A:ML}{E:MK->MH->Prop}
theorem ut {b:Bool}{Q:MK->MH->Prop}(I:Inv X pins σ H s)(e:H a=some (.ins C dx fs))(c:Cls X.K C)(n:NoAttr X.K C f)(l:fs.lookup f=some v)
 (h:∀ u s',Inv X pins σ H s'->RelV v u->Q u s'):wpAny (model X.prog X.w) A (getAttr (.ref a) f b) Q E s:=by
 obtain⟨mA,O,r,_,_,_⟩:=mq I.hok e;obtain⟨u,hu,ru⟩:=RelO.some_of (v:=v) (o:=mA f) (by rw[<- l];exact r f);exact Bi I.kIn O (c.get f) c.hd n hu (xn ru) (h u _ (I.tok _) ru)
theorem m6 {m:Str}{g:Addr}{pl:Sem Bool}{Q:MK×List MK->MH->Prop}(I:Inv X pins σ H s)(e:H a=some (.ins C dx fs))(c:Cls X.K C)(k:Meth X.K C m g)(l:fs.lookup m=none)
 (h:Q (.ref g,[.ref a]) s):wpAny (model X.prog X.w) A (getMethod (.ref a) m pl) Q E s:=by
 obtain⟨mA,O,r,_,_,_⟩:=mq I.hok e;have hn:mA m=none:=RelO.none_of (by rw[<- l];exact r m);exact yT I.kIn O (c.get m) k.at_ k.fn hn h
theorem uu {y:V}{u:MK}{Q:Unit->MH->Prop}(I:Inv X pins σ H s)(e:H a=some (.ins C dx fs))(c:Cls X.K C)(n:NoAttr X.K C f)(hl:fs.length<1000)(ry:RelV y u)
 (h:∀ s',Inv X pins σ (aG H a (.ins C dx (fw f y fs))) s'->Q () s'):wpAny (model X.prog X.w) A (setAttr (.ref a) f u) Q E s:=by
 obtain⟨mA,O,r,wi,_,ho⟩:=mq I.hok e;have hz:(fs.map (·.1)).length<=sizeLine:=by rw[Ik,I_];lia
 refine Bj I.kIn O c.sa c.po n.taker c.hd wi hz λh' O' sb=>h _ ?_;have hd:∃ o,h'.get? dx=some o:=let ⟨o,_,_,e',_⟩:=O'.ns;⟨o,e'⟩;refine I.write (x:=a) (e:=dx) (by rw[e];exact True.intro) (.inr ho) (λb q hb z=>(sb.2 b hb).trans z) hd ?_;refine⟨by rw[ac O.ne];exact ho,?_,O.ne,O'.obj,_,O'.ns,λg=>?_,λg hg=>?_⟩
 .have:=lQ f y fs;lia
 .show RelO ((fw f y fs).lookup g) (if g=f then some u else mA g);rw[lP];by_cases q:g=f
  .rw[Il q,Il q];exact ry
  .rw[Ij q,Ij q];exact r g
 .by_cases q:g=f
  .rw[q];exact(lb f y fs).1
  .refine(lb f y fs).2 g (wi g λz=>hg ?_);show(if g=f then some u else mA g)=none;rw[Ij q];exact z
theorem Inv.made (I:Inv X pins σ H s):Inv X pins σ (aG (aG H s.heap.objs.size (.own (s.heap.objs.size+1))) (s.heap.objs.size+1) (.ins C s.heap.objs.size []))
 { s with heap:=(s.heap.push PySem.W.emptyDict).push (PySem.W.instObj C s.heap.objs.size) }:=by
 have e1:(s.heap.push PySem.W.emptyDict).get? s.heap.objs.size=some PySem.W.emptyDict:=Iv s.heap rfl;have e2:((s.heap.push PySem.W.emptyDict).push (PySem.W.instObj C s.heap.objs.size)).get? (s.heap.objs.size+1)=some (PySem.W.instObj C s.heap.objs.size):=by
  have:=Iv (s.heap.push PySem.W.emptyDict) (o:=PySem.W.instObj C s.heap.objs.size) rfl
  rwa [KW]at this
 have e3:(s.heap.push PySem.W.emptyDict).Ns s.heap.objs.size (λ_=>none):=⟨PySem.W.emptyDict,#[],_,e1,rfl,(λe he=>absurd he (by simp)),λ_=>rfl⟩;have I1:=I.laid (a:=s.heap.objs.size) (o:=.own (s.heap.objs.size+1)) (h':=s.heap.push PySem.W.emptyDict) (t':=s.toks) (λb u q=>Ie _ q) (Ih _) ⟨_,e1⟩;refine I1.laid (a:=s.heap.objs.size+1) (o:=.ins C s.heap.objs.size []) (t':=s.toks) (λb u q=>Ie _ q) (MB (KW _ _)) ?_;have ne:s.heap.objs.size≠s.heap.objs.size+1:=II (KQ _);refine⟨by rw[ac ne,af],IR _,ne,e2,λ_=>none,(Heap.Ns1.of_empty e3).at λo q=>Ie _ q,λ_=>True.intro,λy hy=>absurd rfl hy⟩
theorem Bk {prog:MJ}{w:World}{env:Env}{e:Expr}{f:Str}{pos:Pos}{s:MH}{Q:MK->MH->Prop}(hb:attributeBase e f env (eval e env)=eval e env)
 (h:wpAny (model prog w) A (eval e env) (λo s₁=>wpAny (model prog w) A (getAttr o f true) Q E s₁) E s):wpAny (model prog w) A (eval (.Attribute e f pos) env) Q E s:=
 Attribute_any_ h (by rw[arm_eval_Attribute,hb])
end
noncomputable def dJ (K:MI)(ta:TE)(f:Str):TE:=λσ H Q=>ta σ H λx H1=>∃ a C dx fs v,x=.ref a/\H1 a=some (.ins C dx fs)/\Cls K C/\NoAttr K C f/\fs.lookup f=some v/\Q v H1
noncomputable def qJ (K:MI)(ta tv:TE)(f:Str):TS:=λD σ H=>tv σ H λy H1=>ta σ H1 λx H2=>∃ a C dx fs,x=.ref a/\H2 a=some (.ins C dx fs)/\Cls K C/\NoAttr K C f/\fs.length<1000/\
 D.nx σ (aG H2 a (.ins C dx (fw f y fs)))
section
variable {X:Cx}{o e value:Expr}{f:Str}{pos pos' sh:Pos}{ta tv:TE}
theorem bY (he:PE X e ta)(hb:attributeBase e f X.env (eval e X.env)=eval e X.env):PE X (.Attribute e f pos) (dJ X.K ta f):=by intro pins s σ H Q I h;refine Bk hb (bX (he pins s σ H _ I h) λu s1 ⟨x,H1,I1,rx,a,C,dx,fs,v,ex,ea,c,n,l,q⟩=>?_);subst ex;obtain rfl:u=Value.ref a:=rx;exact ut I1 ea c n l λu' s2 I2 ru=>⟨v,H1,I2,ru,q⟩
theorem h_ (ha:PE X o ta)(hv:PE X value tv)(hs:swapsWith value (some (.Attribute o f pos')) pos.line X.env=pure false):PS X (.Assign [.Attribute o f pos'] value pos) (qJ X.K ta tv f):=by intro pins s σ H D I h;refine plainObj_wpAny_Assign_Attribute (bX (hv pins s σ H _ I h) λu s1 ⟨y,H1,I1,ry,q⟩=>bX (ha pins s1 σ H1 _ I1 q) λov s2 ⟨x,H2,I2,rx,a,C,dx,fs,ex,ea,c,n,l,q2⟩=>?_) hs;subst ex;obtain rfl:ov=Value.ref a:=rx;exact uu I2 ea c n l ry λs3 I3=>⟨σ,_,I3,q2⟩
end
section
variable {X:Cx}{pins:List (Addr×Obj)}{σ:St}{H:Hp}{s:MH}{A:ML}{E:MK->MH->Prop}{Q:MK->MH->Prop}{c:MK}{b:Bool}
inductive TyOf (K:MI) (H:Hp):V->MK->Prop where
 |non:TyOf K H .non (.type "NoneType")
 |bl (x:Bool):TyOf K H (.bl x) (.type "bool")
 |int (i:Int):TyOf K H (.int i) (.type "int")
 |str (x:Str):TyOf K H (.str x) (.type "str")
 |flt (x:UInt64):TyOf K H (.flt x) (.type "float")
 |lst {a:Addr} {xs:List V} (e:H a=some (.lst xs)):TyOf K H (.ref a) (.type "list")
 |frz {a:Addr} {o:Obj} {xs:List V} (e:H a=some (.frz o (.lst xs))):TyOf K H (.ref a) (.type "list")
 |tup {a:Addr} {xs:List V} (e:H a=some (.tup xs)):TyOf K H (.ref a) (.type "tuple")
 |dK {a:Addr} {kvs:List (Key×V)} (e:H a=some (.dK kvs)):TyOf K H (.ref a) (.type "dict")
 |dT {a:Addr} {kvs:List (List Key×V)} (e:H a=some (.dT kvs)):TyOf K H (.ref a) (.type "dict")
 |ins {a C dx:Addr} {fs:List (Str×V)} (e:H a=some (.ins C dx fs)) (cl:Cls K C) (ha:PySem.W.findIn K (.ref C) "__class__"=some (some (.builtin "object.__class__")))
  (hn:PySem.W.specialIn K (.builtin "object.__class__") "__get__"=some (some (.builtin "getset_descriptor.__get__"))) (htk:PySem.W.takesIn K (.builtin "object.__class__")=some true)
  (hm:PySem.W.mroIn K C (.type "object")=some true):TyOf K H (.ref a) (.ref C)
theorem xo {x:V}{u t:MK}(I:Inv X pins σ H s)(rx:RelV x u)(ty:TyOf X.K H x t)(e:PySem.W.kitOne X.K t c=some b)(h:∀ tk,Q (.bool b) { s with toks:=tk }) :
 wpAny (model X.prog X.w) A (call (.builtin "isinstance") [u,c]) Q E s:=by
 cases ty with
 |non=>cases (show u=Value.none from rx);exact JD PySem.W.kitx_none I.kIn True.intro e (λz=>nomatch z) h
 |bl y=>cases (show u=Value.bool y from rx);exact JD PySem.W.kitx_bool I.kIn True.intro e (λz=>nomatch z) h
 |int i=>obtain⟨t,q⟩:=(show ∃ t,u=Value.int i t from rx);cases q;exact JD PySem.W.kitx_int I.kIn True.intro e (λz=>nomatch z) h
 |str y=>obtain⟨t,q⟩:=(show ∃ t,u=Value.str y t from rx);cases q;exact JD PySem.W.kitx_str I.kIn True.intro e (λz=>nomatch z) h
 |flt y=>obtain⟨t,q⟩:=(show ∃ t,u=Value.float y t from rx);cases q;exact JD PySem.W.kitx_float I.kIn True.intro e (λz=>nomatch z) h
 | @lst a xs ea=>cases (show u=Value.ref a from rx);obtain⟨_,_,n,_,h1⟩:=(show ObjOk X.prog X.w H s.heap a (.lst xs) from I.hok a _ ea);exact JD PySem.W.kitx_list I.kIn ⟨_,h1,rfl⟩ e (λz=>nomatch z) h
 | @frz a ob xs ea=>cases (show u=Value.ref a from rx);obtain⟨_,_,_,n,_,h1⟩:=(show ObjOk X.prog X.w H s.heap a (.frz ob (.lst xs)) from I.hok a _ ea);exact JD PySem.W.kitx_list I.kIn ⟨_,h1,rfl⟩ e (λz=>nomatch z) h
 | @tup a xs ea=>cases (show u=Value.ref a from rx);obtain⟨_,_,_,p⟩:=(show ObjOk X.prog X.w H s.heap a (.tup xs) from I.hok a _ ea);obtain⟨o,h1,h2,_⟩:=p;exact JD PySem.W.kitx_tuple I.kIn ⟨o,h1,h2⟩ e (λz=>nomatch z) h
 | @dK a kvs ea=>cases (show u=Value.ref a from rx);obtain⟨_,_,vs,_,p⟩:=(show ObjOk X.prog X.w H s.heap a (.dK kvs) from I.hok a _ ea);obtain⟨o,es,ep,h1,h2,_⟩:=p;exact JD Mq I.kIn ⟨o,h1,h2.1⟩ e (λz=>nomatch z) h
 | @dT a kvs ea=>cases (show u=Value.ref a from rx);obtain⟨_,_,xs,_,o,es,ep,h1,h2,_⟩:=(show ObjOk X.prog X.w H s.heap a (.dT kvs) from I.hok a _ ea);exact JD Mq I.kIn ⟨o,h1,h2.1⟩ e (λz=>nomatch z) h
 | @ins a C dx fs ea cl ha hn htk hm=>cases (show u=Value.ref a from rx);obtain⟨mA,O,_⟩:=mq I.hok ea;obtain⟨od,J,_⟩:=O.look;exact JD (PySem.W.kitx_own (cl.get _) cl.hd ha hn htk hm) I.kIn J e (λz=>nomatch z) h
end
structure Room (k:Nat) (A:ML):Prop where
 hd:A.handled=none
 dp:A.depth+3*k+5<recursionLimit
 un:A.units+16*k+200<cLine
theorem Room.mono {j k:Nat}{A:ML}(r:Room k A)(h:j<=k):Room j A:=⟨r.hd,by have:=r.dp;lia,by have:=r.un;lia⟩
theorem Room.deeper {k:Nat}{A:ML}(r:Room (k+1) A)(env:Env):Room k (A.deeper env):=⟨r.hd,by have:=r.dp;show A.depth+1+3*k+5<_;lia,by have:=r.un;show A.units+3+16*k+200<_;lia⟩
theorem uv {A:ML} {C:Addr} {us:List MK} {kw:List (Str×MK)}:(A.under (.builtin "type.__call__" ⟨.ref C::us,kw⟩)).depth=A.depth+1:=by
 first|rfl|simp[Around.under,Code.weight,Code.isCreation,Code.isGuard,Code.isCaller,Code.frames,Code.isFrame,guardIds]
theorem uw {A:ML} {C:Addr} {us:List MK} {kw:List (Str×MK)}:(A.under (.builtin "type.__call__" ⟨.ref C::us,kw⟩)).units=A.units+1:=by
 first|rfl|simp[Around.under,Code.cUnits,Code.frames,Code.isFrame]
theorem Room.make {k:Nat} {A:ML} (r:Room (k+1) A) (C:Addr) (us:List MK) (kw:List (Str×MK)):Room k (A.under (.builtin "type.__call__" ⟨.ref C::us,kw⟩)):=⟨r.hd,by have:=r.dp;rw[uv];lia,by have:=r.un;rw[uw];lia⟩
theorem Room.depth {k:Nat}{A:ML}(r:Room k A):A.depth<recursionLimit:=by have:=r.dp;lia
theorem Room.units {k:Nat}{A:ML}(r:Room k A):A.units+64<cLine:=by have:=r.un;lia
noncomputable def ba:TA:=λ_ H Q=>Q [] H
noncomputable def av (ta:TE)(tr:TA):TA:=λσ H Q=>ta σ H λx H1=>tr σ H1 λxs H2=>Q (x::xs) H2
section
variable {X:Cx}{e:Expr}{es:List Expr}{te:TE}{t:TA}{pos:Pos}
theorem az:PA X [] ba:=λ_ _ _ _ H Q I h=>KI ⟨[],H,I,.nil,h⟩
theorem ag (ha:PE X e te)(hr:PA X es t)(hs:autoParam (starEach (e::es) X.env=(false,eval e X.env)::starEach es X.env) MR._auto_1):PA X (e::es) (av te t):=by intro pos pins s σ H Q I h;rw[hs];show wpAny _ _ (spliced ((false,eval e X.env)::backTo pos (starEach es X.env))) _ _ s;refine JZ (bX (ha pins s σ H _ I h) λu s1 ⟨x,H1,I1,r1,q1⟩=>?_);exact bX (hr pos pins s1 σ H1 _ I1 q1) λus s2 ⟨xs,H2,I2,r2,q2⟩=>⟨x::xs,H2,I2,.cons r1 r2,q2⟩
noncomputable def ia (t:TA):TE:=λσ H Q=>t σ H λxs H1=>xs.length<=sizeLine/\∀ p,H1 p=none->Q (.ref p) (aG H1 p (.tup xs))
noncomputable def ux (t:TA):TE:=λσ H Q=>t σ H λxs H1=>xs.length<=sizeLine/\∀ p,H1 p=none->Q (.ref p) (aG H1 p (.lst xs))
theorem cf {x1}(h:PA X es t):PE X (.Tuple es x1 pos) (ia t):=by intro pins s σ H Q I hq;refine wpAny_Tuple_spliced (bX (h pos pins s σ H _ I hq) λus s1 ⟨xs,H1,I1,r,z,q⟩=>⟨by rw[<- r.length];exact z,?_⟩);have hf:H1 s1.heap.objs.size=none:=I1.hok.fresh (Ih _);refine⟨.ref s1.heap.objs.size,aG H1 s1.heap.objs.size (.tup xs),I1.laid (t':=s1.toks) (λb u e=>Ie _ e) (Ih _) ?_,rfl,q _ hf⟩;exact⟨z,us,r,⟨_,Iv _ rfl,rfl,_,rfl⟩⟩
theorem ga (h:PA X es t):PE X (.List es pos) (ux t):=by intro pins s σ H Q I hq;refine wpAny_List_spliced (bX (h pos pins s σ H _ I hq) λus s1 ⟨xs,H1,I1,r,z,q⟩=>⟨by rw[<- r.length];exact z,?_⟩);have hf:H1 s1.heap.objs.size=none:=I1.hok.fresh (Ih _);refine⟨.ref s1.heap.objs.size,aG H1 s1.heap.objs.size (.lst xs),I1.laid (t':=s1.toks) (λb u e=>Ie _ e) (Ih _) ?_,rfl,q _ hf⟩;exact⟨z,us,0,r,Iv _ rfl⟩
end
noncomputable abbrev Sp:=List V->Hp->VK->XK->Prop
noncomputable abbrev CXT:=List Env->Hp->MH->XK->MK->MH->Prop
structure Env0 (P:MJ) (w:World) (K:MI) (mg:Str->Option MK) (base:Heap) (A:ML) (outer:List Env) (s:MH) (H:Hp):Prop where
 frames:A.frames=some outer
 mod:Mod K mg base
 bs:∀ b o,base.get? b=some o->s.heap.get? b=some o/\H b=none
 bsz:base.objs.size<=s.heap.objs.size
 funs:s.heap.FunFrames base outer
 frf:∀ b∈frs outer,H b=none
 hok:HOk P w H s.heap
 bare:AllBare s.gens
 kt:WrT K H
def CE (outer:List Env)(P:MJ)(w:World)(H:Hp)(s:MH)(Q:VK)(u:MK)(s':MH):Prop:=∃ v H',s'.os=s.os/\AllBare s'.gens/\Un (frs outer) [] H H' s.heap s'.heap/\HOk P w H' s'.heap/\RelV v u/\Q v H'
def CR (CX:CXT)(outer:List Env)(P:MJ)(w:World)(H:Hp)(s:MH)(Q:VK)(E:XK)(r:Result)(s':MH):Prop:=
 match r with
 | .ok (.ret u)=>CE outer P w H s Q u s'
 | .ok _=>False
 | .error e=>CX outer H s E e s'
structure FnOk (P:MJ) (w:World) (K:MI) (mg:Str->Option MK) (base:Heap) (CX:CXT) (k:Nat) (f:Addr) (fd:FuncData) (ps:List Str) (sp:Sp):Prop where
 len:∀ vs H Q E,sp vs H Q E->vs.length=ps.length
 run:∀(A:ML)(outer:List Env)(s:MH)(H:Hp)(args:Args)(us:List MK)(vs:List V)(Q:VK)(E:XK),Room k A->Env0 P w K mg base A outer s H->BindsTo s fd args (ps.zip us)->Vals vs us->sp vs H Q E->
  codeAny (model P w) A (.call (.ref f) args) (CR CX outer P w H s Q E) s
theorem FnOk.imp {P:MJ}{w:World}{K:MI}{mg:Str->Option MK}{base:Heap}{CX:CXT}{k:Nat}{f:Addr}{fd:FuncData}{ps:List Str}{sp sp':Sp}(F:FnOk P w K mg base CX k f fd ps sp)
 (h:∀ vs H Q E,sp' vs H Q E->sp vs H Q E):FnOk P w K mg base CX k f fd ps sp':=
 ⟨λvs H Q E q=>F.len vs H Q E (h _ _ _ _ q),λA outer s H args us vs Q E hr he hb hv hs=>F.run A outer s H args us vs Q E hr he hb hv (h _ _ _ _ hs)⟩
theorem Env0.make {P:MJ}{w:World}{K:MI}{mg:Str->Option MK}{base:Heap}{A:ML}{outer:List Env}{s:MH}{H:Hp}(e:Env0 P w K mg base A outer s H)(C:Addr)(us:List MK)(kw:List (Str×MK)) :
 Env0 P w K mg base (A.under (.builtin "type.__call__" ⟨.ref C::us,kw⟩)) outer s H:=⟨by first|exact e.frames|(simpa[Around.under,Code.envs,Code.isFrame,pushEnvs] using e.frames),e.mod,e.bs,e.bsz,e.funs,e.frf,e.hok,e.bare,e.kt⟩
section
variable {X:Cx}{pins:List (Addr×Obj)}{σ:St}{H:Hp}{s s':MH}
theorem Inv.env0 (I:Inv X pins σ H s):Env0 X.prog X.w X.K X.mg X.base X.A X.stack s H:=⟨I.ok.frames,I.ok.mod,I.bs,IL I.ok.bsz I.sz,I.stack,I.stkFree,I.hok,I.bare,I.kt⟩
theorem Inv.after {Q:VK}{u:MK}(I:Inv X pins σ H s)(h:CE X.stack X.prog X.w H s Q u s'):EP X pins σ Q u s':=by obtain⟨v,H',os,bare,un,hok,r,q⟩:=h;obtain⟨hh,g,d,t,os'⟩:=s';obtain rfl:os'=s.os:=os;exact⟨v,H',I.call (h':=hh) (g':=g) (d':=d) (t':=t) (ch:=[]) un hok bare (λb z=>absurd z (by simp)),r,q⟩
end
noncomputable def vN (sp:Sp)(dvs:List V)(E:XK)(t:TA):TE:=λσ H Q=>t σ H λvs H1=>sp (vs++dvs) H1 Q E
noncomputable def dL (C:Addr)(m:Str)(sp:Sp)(dvs:List V)(E:XK)(ta:TE)(t:TA):TE:=λσ H Q=>ta σ H λx H1=>∃ a dx fs,x=.ref a/\H1 a=some (.ins C dx fs)/\fs.lookup m=none/\
 t σ H1 λvs H2=>sp (x::(vs++dvs)) H2 Q E
noncomputable def vP (C:Addr)(sp:Sp)(dvs:List V)(E:XK)(t:TA):TE:=λσ H Q=>t σ H λvs H1=>∀ x dx,H1 x=none->H1 dx=none->dx≠x->
 sp (.ref x::(vs++dvs)) (aG (aG H1 dx (.own x)) x (.ins C dx [])) (λv H2=>v=.non/\Q (.ref x) H2) E
def Binds (K:MI)(fd:FuncData)(ps:List Str)(ds:List MK):Prop:=∀(s:MH)(us:List MK),K.In s.heap->(us++ds).length=ps.length->BindsTo s fd ⟨us,[]⟩ (ps.zip (us++ds))
theorem Binds.all {K:MI}{fd:FuncData}{ps:List Str}(h:∀ us:List MK,us.length=ps.length->bindArgs fd ⟨us,[]⟩=pure (ps.zip us)):Binds K fd ps []:=λs us _ hl=>by rw[Js]at hl ⊢;exact .of_eq (h us hl)
def dM (CX:CXT)(X:Cx)(E:XK):Prop:=∀(pins:List (Addr×Obj))(σ:St)(H:Hp)(s:MH)(e:MK)(s':MH),Inv X pins σ H s->CX X.stack H s E e s'->X.xe e s'
section
variable {X:Cx}{CX:CXT}{k:Nat}{f C:Addr}{fd:FuncData}{ps:List Str}{sp:Sp}{dvs:List V}{ds:List MK}{E:XK}{x m:Str}{p pos apos:Pos}{e o:Expr}{es:List Expr}{ta:TE}{t:TA}
theorem uy {pins:List (Addr×Obj)}{σ:St}{H:Hp}{s:MH}{Q:VK}{us:List MK}{vs:List V}(F:FnOk X.prog X.w X.K X.mg X.base CX k f fd ps sp)(hr:Room k X.A)(hb:Binds X.K fd ps ds)(hd:Vals dvs ds)(hx:dM CX X E)
 (I:Inv X pins σ H s) (r:Vals vs us) (h:sp (vs++dvs) H Q E):wpAny (model X.prog X.w) X.A (call (.ref f) us) (EP X pins σ Q) X.xe s:=by
 have r2:Vals (vs++dvs) (us++ds):=r.append hd;have hl:(us++ds).length=ps.length:=by rw[<- r2.length];exact F.len _ _ _ _ h
 refine wpAny_call (LM (F.run X.A X.stack s H ⟨us,[]⟩ (us++ds) (vs++dvs) Q E hr I.env0 (hb s us I.kIn hl) r2 h) λr s' hq=>?_);cases r with
 |error e=>exact hx pins σ H s e s' I hq
 |ok fl=>
  cases fl with
  |ret u=>exact I.after hq
  |next=>exact False.elim hq
  |brk=>exact False.elim hq
  |cont=>exact False.elim hq
theorem qK (F:FnOk X.prog X.w X.K X.mg X.base CX k f fd ps sp)(hr:Room k X.A)(hg:Gl X x)(hm:X.mg x=some (.ref f))(hk:PySem.W.keepIn X.K (.ref f)=true)(hb:Binds X.K fd ps ds)(hd:Vals dvs ds)(hx:dM CX X E)
 (ha:PA X (e::es) t) (hdb:autoParam ((x==("__debug__" : Str))=false) MM._auto_1) (he:autoParam (starEach (e::es) X.env=(false,eval e X.env)::starEach es X.env) MR._auto_1) (hpl:autoParam ((backTo pos (starEach es X.env)).any (·.1)=false) MR._auto_1) :
 PE X (.Call (.Name x p) (e::es) [] pos) (vN sp dvs E t):=by
 intro pins s σ H Q I h;refine K3 (qI I hg hm ?_ hdb);refine Ml (h₀:=X.base) I.ok.mod.kin hk (bX (ha pos pins s σ H _ I h) λus s1 ⟨vs,H1,I1,r,q⟩=>⟨I1.kIn,?_⟩) he hpl;exact uy F hr hb hd hx I1 r q
theorem dB {pl:Sem Bool}(he:PE X o ta)(c:Cls X.K C)(hm:Meth X.K C m f)(F:FnOk X.prog X.w X.K X.mg X.base CX k f fd ps sp)(hr:Room k X.A)(hb:Binds X.K fd ps ds)(hd:Vals dvs ds)(hx:dM CX X E)(ha:PA X (e::es) t)
 (hst:autoParam (starEach (e::es) X.env=(false,eval e X.env)::starEach es X.env) MR._auto_1) (hpl:autoParam ((backTo pos (starEach es X.env)).any (·.1)=false) MR._auto_1)
 (ht:autoParam (eval (.Call (.Attribute o m apos) (e::es) [] pos) X.env=(do
   let ov <- eval o X.env
   standAt apos.atName
   let (f,first) <- holding [ov] (getMethod ov m pl)
   callWith pos f first (backTo pos (starEach (e::es) X.env)) (backToKw pos (keywordEach [] X.env)))) MR._auto_1) :
 PE X (.Call (.Attribute o m apos) (e::es) [] pos) (dL C m sp dvs E ta t):=by
 intro pins s σ H Q I h;refine PySem.W.methodCall_KW (pl:=pl) (bX (he pins s σ H _ I h) λu s1 ⟨x,H1,I1,rx,a,dx,fs,ex,ea,l,q⟩=>?_) ht;subst ex;obtain rfl:u=Value.ref a:=rx;refine m6 I1 ea c hm l ?_;refine Ml (first:=[.ref a]) (h₀:=X.base) I.ok.mod.kin hm.kp (bX (ha pos pins s1 σ H1 _ I1 q) λus s2 ⟨vs,H2,I2,r,q2⟩=>⟨I2.kIn,?_⟩) hst hpl;exact uy (us:=.ref a::us) (vs:=.ref a::vs) F hr hb hd hx I2 (.cons rfl r) q2
theorem m7 {pl:Sem Bool}(he:PE X o ta)(c:Cls X.K C)(hm:Meth X.K C m f)(F:FnOk X.prog X.w X.K X.mg X.base CX k f fd ps sp)(hr:Room k X.A)(hb:Binds X.K fd ps ds)(hd:Vals dvs ds)(hx:dM CX X E)
 (ht:autoParam (eval (.Call (.Attribute o m apos) [] [] pos) X.env=(do
   let ov <- eval o X.env
   standAt apos.atName
   let (f,first) <- holding [ov] (getMethod ov m pl)
   callWith pos f first (backTo pos (starEach [] X.env)) (backToKw pos (keywordEach [] X.env)))) MR._auto_1) :
 PE X (.Call (.Attribute o m apos) [] [] pos) (dL C m sp dvs E ta ba):=by
 intro pins s σ H Q I h;refine PySem.W.methodCall_KW (pl:=pl) (bX (he pins s σ H _ I h) λu s1 ⟨x,H1,I1,rx,a,dx,fs,ex,ea,l,q⟩=>?_) ht;subst ex;obtain rfl:u=Value.ref a:=rx;refine m6 I1 ea c hm l ?_;exact PySem.W.callWith_K0 (first:=[.ref a]) I1.kIn hm.kp (uy (us:=[.ref a]) (vs:=[.ref a]) F hr hb hd hx I1 (.cons rfl .nil) q)
structure Mk (K:MI) (C f:Addr):Prop where
 makes:PySem.W.makesIn K C=true
 init:PySem.W.findIn K (.ref C) "__init__"=some (some (.ref f))
 fn:PySem.W.isFn K (.ref f)=true
 kp:PySem.W.keepIn K (.ref C)=true
theorem sA {pins:List (Addr×Obj)}{σ:St}{H:Hp}{s:MH}{Q:VK}{us:List MK}{vs:List V}(M:Mk X.K C f)(F:FnOk X.prog X.w X.K X.mg X.base CX k f fd ps sp)(hr:Room (k+1) X.A)(hb:Binds X.K fd ps ds)(hd:Vals dvs ds)
 (hx:dM CX X E) (I:Inv X pins σ H s) (r:Vals vs us)
 (h:∀ x dx,H x=none->H dx=none->dx≠x->sp (.ref x::(vs++dvs)) (aG (aG H dx (.own x)) x (.ins C dx [])) (λv H2=>v=.non/\Q (.ref x) H2) E) :
 wpAny (model X.prog X.w) X.A (call (.ref C) us) (EP X pins σ Q) X.xe s:=by
 have hq:=h (s.heap.objs.size+1) s.heap.objs.size (I.hok.fresh (Nat.le_succ _)) (I.hok.fresh (Ih _)) (II (KQ _));have I2:=Inv.made (C:=C) I;have r2:Vals (V.ref (s.heap.objs.size+1)::(vs++dvs)) (Value.ref (s.heap.objs.size+1)::(us++ds)):=.cons rfl (r.append hd);have hl:(Value.ref (s.heap.objs.size+1)::us++ds).length=ps.length:=by have e:=r2.length;rw[F.len _ _ _ _ hq]at e;exact e.symm
 refine wpAny_call (yU (f:=f) I.kIn M.makes M.init (K_.mp M.fn) (LM (F.run _ X.stack _ _ ⟨Value.ref (s.heap.objs.size+1)::us,[]⟩ (Value.ref (s.heap.objs.size+1)::(us++ds)) _ _ E (hr.make C us [])
  (I2.env0.make C us []) (hb _ (Value.ref (s.heap.objs.size+1)::us) I2.kIn hl) r2 hq) λr s' hq'=>?_))
 cases r with
 |error e=>exact hx pins σ _ _ e s' I2 hq'
 |ok fl=>
  cases fl with
  |ret u=>obtain⟨v,H',I3,rv,ev,q3⟩:=I2.after hq';subst ev;exact⟨rv,⟨V.ref (s.heap.objs.size+1),H',I3,rfl,q3⟩⟩
  |next=>exact False.elim hq'
  |brk=>exact False.elim hq'
  |cont=>exact False.elim hq'
theorem Bl (M:Mk X.K C f)(F:FnOk X.prog X.w X.K X.mg X.base CX k f fd ps sp)(hr:Room (k+1) X.A)(hg:Gl X x)(hm:X.mg x=some (.ref C))(hb:Binds X.K fd ps ds)(hd:Vals dvs ds)(hx:dM CX X E)
 (ha:PA X (e::es) t) (hdb:autoParam ((x==("__debug__" : Str))=false) MM._auto_1) (he:autoParam (starEach (e::es) X.env=(false,eval e X.env)::starEach es X.env) MR._auto_1) (hpl:autoParam ((backTo pos (starEach es X.env)).any (·.1)=false) MR._auto_1) :
 PE X (.Call (.Name x p) (e::es) [] pos) (vP C sp dvs E t):=by
 intro pins s σ H Q I h;refine K3 (qI I hg hm ?_ hdb);refine Ml (h₀:=X.base) I.ok.mod.kin M.kp (bX (ha pos pins s σ H _ I h) λus s1 ⟨vs,H1,I1,r,q⟩=>⟨I1.kIn,?_⟩) he hpl;exact sA M F hr hb hd hx I1 r q
theorem yV (M:Mk X.K C f)(F:FnOk X.prog X.w X.K X.mg X.base CX k f fd ps sp)(hr:Room (k+1) X.A)(hg:Gl X x)(hm:X.mg x=some (.ref C))(hb:Binds X.K fd ps ds)(hd:Vals dvs ds)(hx:dM CX X E)
 (hdb:autoParam ((x==("__debug__" : Str))=false) MM._auto_1):PE X (.Call (.Name x p) [] [] pos) (vP C sp dvs E ba):=by
 intro pins s σ H Q I h;refine K3 (qI I hg hm ?_ hdb);exact PySem.W.callWith_K0 I.kIn M.kp (sA (us:=[]) M F hr hb hd hx I .nil h)
end
section
variable {X:Cx}{CX:CXT}{k:Nat}{f C:Addr}{fd:FuncData}{ps ks:List Str}{sp:Sp}{E:XK}{x m:Str}{p pos apos kpos:Pos}{e o:Expr}{es:List Expr}{kws:List Keyword}{te ta:TE}{t tk:TA}{nm:Option Str}
variable {g:List MK->List MK->List MK}{gV:List V->List V->List V}
end
structure FnScope (N P:List Str) (sc:Scope):Prop where
 kind:sc.kind=.function
 co:sc.isCoroutine=false
 gen:sc.isGenerator=false
 nd:N.Nodup
 pre:N.take P.length=P
 par:∀ x∈P,sc.names.lookup x=some .local\/sc.names.lookup x=some .cell
 nofree:∀ y∈sc.names,y.2≠.free
theorem pM {kindOf:Str->Option NameKind}{x:Str}:∀{binds:List (Str×MK)}{m:Str->Option MK},(∀ v,(x,v)∉binds)->bindL kindOf binds m x=m x
 | [],_,_=>rfl
 |(n,v)::r,m,h=>by
  unfold bindL;rw[pM λw hw=>h w (Ii _ hw)];split
  .have:x≠n:=by rintro rfl;exact h v Iq
   simp[this]
  .rfl
theorem pN {kindOf:Str->Option NameKind}{x:Str}:∀{binds:List (Str×MK)}{m:Str->Option MK},(∀ v,(x,v)∉binds)->bindC kindOf binds m x=m x
 | [],_,_=>rfl
 |(n,v)::r,m,h=>by
  unfold bindC;rw[pN λw hw=>h w (Ii _ hw)];split
  .rfl
  .have:x≠n:=by rintro rfl;exact h v Iq
   simp[this]
theorem pO {kindOf:Str->Option NameKind}{x:Str}{v:MK}:∀{P:List Str}{vs:List MK}{i:Nat}{m:Str->Option MK},P.Nodup->P[i]?=some x->vs[i]?=some v->kindOf x=some .local->
 bindL kindOf (P.zip vs) m x=some v
 | [],_,_,_,_,h,_,_=>by simp at h
 |_::_,[],_,_,_,_,h,_=>by simp at h
 |p::P,w::vs,0,m,nd,h1,h2,hk=>by simp at h1 h2;subst h1;subst h2;show bindL kindOf ((p,w)::P.zip vs) m p=_;unfold bindL;rw[pM λv hv=>(IS.mp nd).1 (List.of_mem_zip hv).1,Il hk];simp
 |p::P,w::vs,i+1,m,nd,h1,h2,hk=>by show bindL kindOf ((p,w)::P.zip vs) m x=_;unfold bindL;exact pO (i:=i) (IS.mp nd).2 (by simpa using h1) (by simpa using h2) hk
theorem pP {kindOf:Str->Option NameKind}{x:Str}{v:MK}:∀{P:List Str}{vs:List MK}{i:Nat}{m:Str->Option MK},P.Nodup->P[i]?=some x->vs[i]?=some v->kindOf x≠some .local->
 bindC kindOf (P.zip vs) m x=some v
 | [],_,_,_,_,h,_,_=>by simp at h
 |_::_,[],_,_,_,_,h,_=>by simp at h
 |p::P,w::vs,0,m,nd,h1,h2,hk=>by simp at h1 h2;subst h1;subst h2;show bindC kindOf ((p,w)::P.zip vs) m p=_;unfold bindC;rw[pN λv hv=>(IS.mp nd).1 (List.of_mem_zip hv).1,Ij hk];simp
 |p::P,w::vs,i+1,m,nd,h1,h2,hk=>by show bindC kindOf ((p,w)::P.zip vs) m x=_;unfold bindC;exact pP (i:=i) (IS.mp nd).2 (by simpa using h1) (by simpa using h2) hk
noncomputable def bJ (N:List Str)(vs:List V):St:=vs.map some++List.replicate (N.length-vs.length) none
noncomputable def uz (CX:CXT)(P:MJ)(w:World)(K:MI)(mg:Str->Option MK)(base:Heap)(N:List Str)(qual:Str)(scope:Scope)(f:Addr)(cd:MK)(A:ML)(outer:List Env)(s:MH)(H:Hp)(E:XK):Cx where
 prog:=P
 w:=w
 K:=K
 mg:=mg
 base:=base
 A:=A.deeper (envOfC qual scope s.heap.objs.size f cd)
 N:=N
 s₀:=s
 H₀:=H
 env:=envOfC qual scope s.heap.objs.size f cd
 outer:=outer
 stack:=envOfC qual scope s.heap.objs.size f cd::outer
 ex:=[]
 calm:=true
 fn:=λ_=>true
 pn:=[]
 xe:=λe s'=>wpAny (model P w) (A.deeper (envOfC qual scope s.heap.objs.size f cd)) (leaving (envOfC qual scope s.heap.objs.size f cd) e) (λ_ s''=>CX outer H s E e s'') (λe' s''=>CX outer H s E e' s'') s'
theorem sB {sc:Scope}{n:Nat}{x:Str}(h:sc.names.lookup x=some .cell):∃ c,(cellsFrom n sc.names []).lookup x=some c:=by have q:=PySem.W.cellsFrom_some sc.names n [] (.inl h);exact Option.isSome_iff_exists.mp q
theorem xq {CX:CXT}{P:MJ}{w:World}{K:MI}{mg:Str->Option MK}{base:Heap}{N ps:List Str}{qual:Str}{scope:Scope}{f:Addr}{cd:MK}{A:ML}{outer:List Env}{s s1:MH}{H:Hp}{E:XK}{us:List MK}{vs:List V}
 (S:FnScope N ps scope) (hd:A.handled=none) (e0:Env0 P w K mg base A outer s H) (hl:vs.length=ps.length) (r:Vals vs us)
 (x:InCallC s s.heap.objs.size (bindL (envOfC qual scope s.heap.objs.size f cd).kindOf (ps.zip us) λ_=>none) (cellsFrom (s.heap.objs.size+1) scope.names []) (bindC (envOfC qual scope s.heap.objs.size f cd).kindOf (ps.zip us) λ_=>none) s1) :
 Inv (uz CX P w K mg base N qual scope f cd A outer s H E) [] (bJ N vs) H s1:=by
 have hpl:ps.length<=N.length:=by have:=JF List.length S.pre;rw[J8]at this;lia
 obtain⟨h1,tk,rfl,hk⟩:=x.done;have noA:∀ b:Addr,b∉(uz CX P w K mg base N qual scope f cd A outer s H E).ex:=λb z=>absurd (show b∈([]:List Addr) from z) (by simp);refine⟨⟨e0.mod,S.kind,rfl,rfl,Ih _,λy z c h1 h2=>?_,λy hy=>?_,λy c _ h=>?_,λ_=>hd,Around.frames_deeper e0.frames,.inr ⟨rfl,rfl⟩,λb z=>absurd z (noA b),e0.bs,e0.bsz,λb _ _=>noA b,λb z=>absurd z (noA b),e0.funs,e0.frf,e0.kt⟩,
  rfl,e0.bare,Un.kept hk,⟨_,x.toInCall.ns,λi y v h1 h2 h3=>?_⟩,λy c h=>⟨_,x.cell y c h⟩,e0.hok.fresh (Ih _),λy c h=>?_,λp hp=>absurd (show p∈([]:List (Addr×Obj)) from hp) (by simp),e0.hok.kept hk,?_⟩
 .exact name_of_addr x.apart (Kc h1) (Kc h2)
 .have hy:scope.names.lookup y=some .cell\/scope.names.lookup y=some .free:=hy;rcases hy with hy|hy
  .exact sB hy
  .exact absurd rfl (S.nofree _ (Kc hy))
 .exact LL (x.above y c (Kc h))
 .have hi:i<vs.length:=by
   unfold bJ at h2;by_cases hi:i<vs.length
   .exact hi
   .rw[I0 (by simpa using hi)]at h2;rw[KO]at h2;split at h2<;>cases h2
  have ha:vs[i]?=some v:=by
   unfold bJ at h2;rw[JQ (by simpa using hi),IH]at h2;cases e:vs[i]? with
   |none=>rw[e]at h2;cases h2
   |some a=>rw[e]at h2;cases h2;rfl
  obtain⟨u,hu,rv⟩:=r.get ha;have hp:ps[i]?=some y:=by rw[<- S.pre,List.getElem?_take_of_lt (by lia)];exact h1
  have ndP:ps.Nodup:=by rw[<- S.pre];exact S.nd.sublist (List.take_sublist _ _)
  refine⟨u,rv,?_⟩;rcases S.par y (Jp hp) with k|k
  .exact .inl ⟨k,pO ndP hp hu k⟩
  .obtain⟨c,e⟩:=sB (n:=s.heap.objs.size+1) k;refine .inr ⟨.inl k,c,e,?_⟩;have q:=x.cell y c e;rw[pP ndP hp hu (by show scope.names.lookup y≠_;rw[k];decide)]at q;exact q
 .exact e0.hok.fresh (LL (x.above y c (Kc h)))
 .unfold bJ;show _=N.length;rw[ID,Ik,LN];lia
theorem FK {CX:CXT}{P:MJ}{w:World}{K:MI}{mg:Str->Option MK}{base:Heap}{k:Nat}{f:Addr}{name qual:Str}{params:Arguments}{body:List Stmt}{scope:Scope}{dV kV doc pm cdv ct oc:MK}{an od:Option Addr}
 {osl:Array (Option MK)} {N ps:List Str} {sp:Sp} (lk:K.lookup f=some ⟨oc,od,.func (PySem.W.fnOf name qual params body scope dV kV doc pm an cdv ct),osl⟩) (hcd:PySem.W.codeIn K cdv qual=true) (S:FnScope N ps scope)
 (len:∀ vs H Q E,sp vs H Q E->vs.length=ps.length)
 (hbody:∀(A:ML)(outer:List Env)(s:MH)(H:Hp)(vs:List V)(Q:VK)(E:XK),Room k (A.deeper (envOfC qual scope s.heap.objs.size f cdv))->sp vs H Q E->
   ∃ t,PSs (uz CX P w K mg base N qual scope f cdv A outer s H E) body t/\t { nx:=λ_ H'=>Q .non H',rt:=Q } (bJ N vs) H) :
 FnOk P w K mg base CX (k+1) f (PySem.W.fnOf name qual params body scope dV kV doc pm an cdv ct) ps sp:=by
 refine⟨len,λA outer s H args us vs Q E hr e0 hb r hsp=>?_⟩;have hl:=len _ _ _ _ hsp;have KX:K.In s.heap:=e0.mod.kin.keeps λb o e=>(e0.bs b o e).1;have lim:s.heap.NoLimit:=e0.mod.nolimit.keeps λb o e=>(e0.bs b o e).1;have hkind:∀ y∈ps.zip us,scope.names.lookup y.1=some .local\/(scope.names.lookup y.1=some .cell/\((cellsFrom (s.heap.objs.size+1) scope.names []).lookup y.1).isSome=true):=λ⟨n,v⟩ hy=>by
  rcases S.par n (List.of_mem_zip hy).1 with q|q
  .exact .inl q
  .exact .inr ⟨q,PySem.W.cellsFrom_some _ _ _ (.inl q)⟩
 refine codeAny_call_function hr.depth (KX _ _ lk) rfl S.co S.gen rfl (PySem.W.codeRec_of KX hcd) (hb _ _ _ _ ?_);refine wpAny_newFunctionEnv_cells S.kind hkind λenv he s1 x=>?_;subst he;refine⟨lim.keeps x.toInCall.keep,codeAny_func ?_⟩;obtain⟨t,ht,hq⟩:=hbody A outer s H vs Q E (hr.deeper _) hsp;have I:Inv (uz CX P w K mg base N qual scope f cdv A outer s H E) [] (bJ N vs) H s1:=xq S hr.hd e0 hl r x;refine Kb (ht [] s1 (bJ N vs) H _ I hq) (λfl s' hs=>?_) λe s' hs=>hs;have fin:∀{σ':St}{H':Hp}{v:V}{u:MK},Inv (uz CX P w K mg base N qual scope f cdv A outer s H E) [] σ' H' s'->RelV v u->Q v H'->CE outer P w H s Q u s':=λ{σ' H' v u} J rv q=>⟨v,H',J.os,J.bare,J.base,J.hok,rv,q⟩;cases fl with
 |ret u=>obtain⟨v,σ',H',J,rv,q⟩:=hs;exact fin J rv q
 |next=>obtain⟨σ',H',J,q⟩:=hs;exact fin (v:=V.non) (u:=Value.none) J rfl q
 |brk=>obtain⟨_,_,_,q⟩:=hs;exact False.elim q
 |cont=>obtain⟨_,_,_,q⟩:=hs;exact False.elim q
section
variable {X:Cx}{x:Str}{p pos:Pos}{e:Expr}{es:List Expr}{t:TA}{id T:String}{r:List V->Hp->VK->Prop}
noncomputable def CO (r:List V->Hp->VK->Prop)(t:TA):TE:=λσ H Q=>t σ H λvs H1=>r vs H1 Q
theorem cw (hc:CallR X (.builtin id) r) (hg:Gl X x) (hm:X.mg x=none) (hv:bootBuiltins x=some (.builtin id)) (ha:PA X (e::es) t) (hn:autoParam (x≠"__name__") MM._auto_1) (hdb:autoParam ((x==("__debug__" : Str))=false) MM._auto_1)
 (he:autoParam (starEach (e::es) X.env=(false,eval e X.env)::starEach es X.env) MR._auto_1) (hpl:autoParam ((backTo pos (starEach es X.env)).any (·.1)=false) MR._auto_1):PE X (.Call (.Name x p) (e::es) [] pos) (CO r t):=by
 intro pins s σ H Q I h;refine K3 (je I hg hm hv ?_ hn hdb);exact PyProof.Rows.callWith_builtin1 (bX (ha pos pins s σ H _ I h) λus s1 ⟨vs,H1,I1,r1,q1⟩=>hc pins s1 σ H1 vs us Q I1 r1 q1) he hpl
theorem pQ (hc:CallR X (.type T) r) (hg:Gl X x) (hm:X.mg x=none) (hv:bootBuiltins x=some (.type T)) (ha:PA X (e::es) t) (hn:autoParam (x≠"__name__") MM._auto_1) (hdb:autoParam ((x==("__debug__" : Str))=false) MM._auto_1)
 (he:autoParam (starEach (e::es) X.env=(false,eval e X.env)::starEach es X.env) MR._auto_1) (hpl:autoParam ((backTo pos (starEach es X.env)).any (·.1)=false) MR._auto_1):PE X (.Call (.Name x p) (e::es) [] pos) (CO r t):=by
 intro pins s σ H Q I h;refine K3 (je I hg hm hv ?_ hn hdb);exact JY (bX (ha pos pins s σ H _ I h) λus s1 ⟨vs,H1,I1,r1,q1⟩=>hc pins s1 σ H1 vs us Q I1 r1 q1) he hpl
end
end L2
namespace HT
open PySem PyProof.Rows
section
open PySem.SeqAt
open PySem.AutoSeq1 (wpAny_loadPart')
open PySem.MeetsSeq PySem.MeetsSeq2 PySem.MeetsSeq3
end
section
variable {prog:MJ}{w:World}{A:ML}{E:MK->MH->Prop}{s:MH}
theorem cat_tup {t b:Addr}{vs ws:List MK}{Q:MK->MH->Prop}(ht:IsTup s.heap t vs.toArray)(hb:IsTup s.heap b ws.toArray)(hv:vs≠[])
 (h1:ws=[]->Q (.ref t) s) (h2:ws≠[]->Q (.ref s.heap.objs.size) { s with heap:=s.heap.push { cls:=.type "tuple",data:=.seq (vs++ws).toArray } })
 (hsz:vs.length+ws.length<=sizeLine):wpAny (model prog w) A (binaryOp .Add (.ref t) (.ref b)) Q E s:=by
 obtain⟨⟨cls,dd,data,sl⟩,ho,hc,n,hd⟩:=id ht;obtain⟨⟨cls2,dd2,data2,sl2⟩,ho2,hc2,n2,hd2⟩:=id hb;simp only at hc hd hc2 hd2;subst hc hd hc2 hd2;have e:vs.toArray++ws.toArray=(vs++ws).toArray:=by simp
 by_cases hw:ws=[]
 .exact concat_meets ⟨_,ho,rfl⟩ ⟨_,ho2,rfl⟩ noFill_tuple_add seq_tuple_add PySem.F.slot_tuple_add PySem.F.entry_tuple_add (PySem.F.args_tuple_add_2 _ _)
   (tuple_addW1 t b vs.toArray ws.toArray n n2 dd dd2 sl sl2 (by simpa using hv) (by simp[hw])) ⟨ho,ho2,h1 hw⟩
 .refine concat_meets ⟨_,ho,rfl⟩ ⟨_,ho2,rfl⟩ noFill_tuple_add seq_tuple_add PySem.F.slot_tuple_add PySem.F.entry_tuple_add (PySem.F.args_tuple_add_2 _ _)
   (tuple_addW2 t b vs.toArray ws.toArray n n2 dd dd2 sl sl2 (by simpa using hv) (by simpa using hw) (by rw[Iu,Iu];exact hsz)) ⟨ho,ho2,?_⟩
  rw[e];exact h2 hw
noncomputable def sIx (n d:Nat):Option Int->Nat
 |none=>d
 |some v=>if v<0 then (v+(n:Int)).toNat else min v.toNat n
theorem sIx_nat (n d k:Nat):sIx n d (some (k:Int))=min k n:=by show(if (k:Int)<0 then ((k:Int)+(n:Int)).toNat else min (k:Int).toNat n)=min k n;rw[Ij (by lia),LA]
theorem D7 (n d:Nat)(hd:d<=n)(o:Option Int):sIx n d o<=n:=by
 cases o with
 |none=>exact hd
 |some v=>
  show(if v<0 then (v+(n:Int)).toNat else min v.toNat n)<=n;by_cases hv:v<0
  .rw[Il hv];lia
  .rw[Ij hv];exact Nat.min_le_right _ _
theorem vQ (v:Int)(n d:Nat):(if v<0 then max (v+(n:Int)) 0 else min v (n:Int))=((sIx n d (some v):Nat):Int):=by
 show(if v<0 then max (v+(n:Int)) 0 else min v (n:Int))=(((if v<0 then (v+(n:Int)).toNat else min v.toNat n):Nat):Int);by_cases hv:v<0
 .simp only[Il hv];lia
 .simp only[Ij hv];lia
theorem uA (lo hi:Option Int)(n:Nat):Builtin.Slice.sliceAdjust lo hi 1 (n:Int)=(((sIx n 0 lo:Nat):Int),((sIx n n hi:Nat):Int)):=by
 have h1:¬ ((1:Int)<0):=by lia
 unfold Builtin.Slice.sliceAdjust;simp only[h1,Ju];refine La ?_ ?_
 .cases lo with
  |none=>rfl
  |some v=>exact vQ v n 0
 .cases hi with
  |none=>rfl
  |some v=>exact vQ v n n
theorem uB (i j:Nat):Builtin.Slice.slicePlaces (i:Int) (j:Int) 1=j-i:=by
 unfold Builtin.Slice.slicePlaces;have h1:(1:Int)>0:=by lia
 simp only[h1,Ky,Int.ediv_one];split<;>lia
theorem m8 {v:MK}{o:Option Int}{Q:Option Int->MH->Prop}(p:IsPart v o)(h:Q o s):wpAny (model prog w) A (Builtin.Slice.slicePartIndex v) Q E s:=by
 cases p with
 |none=>exact slicePart_none h
 |int i t=>exact slicePart_int h
theorem sliceApplied_gen {sl:Addr}{vl vu:MK}{lo hi:Option Int}{n:Nat}{Q:Int×Int×Nat->MH->Prop}(hs:s.heap.IsSliceOf sl vl vu .none)(pl:IsPart vl lo)(pu:IsPart vu hi)
 (h:Q (((sIx n 0 lo:Nat):Int),1,sIx n n hi-sIx n 0 lo) s):wpAny (model prog w) A (Builtin.Slice.sliceApplied (.ref sl) (pure (n:Int))) Q E s:=by
 obtain⟨os,hos,hcs,hds⟩:=id hs;unfold Builtin.Slice.sliceApplied Builtin.Slice.sliceFields;refine Ic (Ic (LB hos hds (x:=vl) rfl (Ic (LB hos hds (x:=vu) rfl (Ic (LB hos hds (x:=.none) rfl (Ig ?_)))))));refine Ic (slicePart_none ?_);show wpAny _ _ (if ((1:Int)==0)=true then _ else _) _ _ s;rw[Ij (by decide)];refine Ic (m8 pl (Ic (m8 pu (Ic (Ig ?_)))));show wpAny _ _ (match Builtin.Slice.sliceAdjust lo hi 1 (n:Int) with|(lo,hi)=>pure (lo,(1:Int),Builtin.Slice.slicePlaces lo hi 1)) _ _ s;rw[uA lo hi n];show wpAny _ _ (pure (((sIx n 0 lo:Nat):Int),(1:Int),Builtin.Slice.slicePlaces ((sIx n 0 lo:Nat):Int) ((sIx n n hi:Nat):Int) 1)) _ _ s;rw[uB];exact Ig h
theorem yW (xs:Array MK)(i k:Nat):((List.range k).filterMap λ(m:Nat)=>xs[((i:Int)+(m:Int)*1).toNat]?).toArray=((xs.toList.drop i).take k).toArray:=by
 have e:(λ(m:Nat)=>xs[((i:Int)+(m:Int)*1).toNat]?)=λm=>xs[i+m]?:=by
  funext m;have:((i:Int)+(m:Int)*1).toNat=i+m:=by lia
  rw[this]
 rw[e];have:=pick_run xs i k;rw[List.filterMap_map]at this;have e2:((λx=>xs[x]?) ∘ λx=>i+x)=λm=>xs[i+m]?:=rfl;rw[e2]at this;rw[this]
theorem getItem_tuple_cut {t sl:Addr}{items:Array MK}{vl vu:MK}{lo hi:Option Int}{Q:MK->MH->Prop}(ht:IsTup s.heap t items)(hs:s.heap.IsSliceOf sl vl vu .none)(pl:IsPart vl lo)(pu:IsPart vu hi)
 (hw:¬ (sIx items.size 0 lo=0/\sIx items.size items.size hi=items.size))
 (h:Q (.ref s.heap.objs.size) { s with heap:=s.heap.push { cls:=.type "tuple",data:=.seq ((items.toList.drop (sIx items.size 0 lo)).take (sIx items.size items.size hi-sIx items.size 0 lo)).toArray } })
 (hsz:items.size<=sizeLine):wpAny (model prog w) A (getItem (.ref t) (.ref sl)) Q E s:=by
 have htake:sizeOk (.seq ((items.toList.drop (sIx items.size 0 lo)).take (sIx items.size items.size hi-sIx items.size 0 lo)).toArray):=by show((items.toList.drop (sIx items.size 0 lo)).take (sIx items.size items.size hi-sIx items.size 0 lo)).toArray.size<=sizeLine;rw[Iu,J8,KR,Jx];lia
 have hj:sIx items.size items.size hi<=items.size:=D7 _ _ (Ih _) hi;obtain⟨os,hos,hcs,hds⟩:=id hs;have hTs:s.TypeIs (.ref sl) "slice":=⟨os,hos,hcs⟩;unfold getItem
 try with_reducible refine JT ?_
 first|refine Ic (Ig ?_)|skip
 refine Ic (wpAny_sequenceKey ht.typeIs (by decide) ?_);refine Ic (J0 (name:=Str.ofString "__getitem__") ht.typeIs Jt
  (Jh Jt ht.typeIs entry_tuple_getitem ?_ (args_tuple_getitem _ _)))
 show wpAny _ _ (Builtin.Tuple.tupleItemsOf (.ref t) >>= _) _ _ s;refine Ic (tupleItemsOf_ ht ?_);refine Ic (LO hTs ?_);rw[Il (by decide)];refine Ic (sliceApplied_gen hs pl pu ?_);have hno:¬ ((((sIx items.size 0 lo:Nat):Int)==0&&(1:Int)==1&&(sIx items.size items.size hi-sIx items.size 0 lo)==items.size)=true):=by intro q;rw[IV,IV]at q;have q1:((sIx items.size 0 lo:Nat):Int)=0:=eq_of_beq q.1.1;have q2:sIx items.size items.size hi-sIx items.size 0 lo=items.size:=eq_of_beq q.2;exact hw ⟨by lia,by lia⟩
 show wpAny _ _ (if (((sIx items.size 0 lo:Nat):Int)==0&&(1:Int)==1&&(sIx items.size items.size hi-sIx items.size 0 lo)==items.size)=true then _ else _) _ _ s;rw[Ij hno,yW]
 first
  |exact Ic (m:=Builtin.Tuple.tupleExact _) (Jg (Ig ⟨_,rfl,Ig h⟩) htake)
  |exact Ic (m:=Builtin.Tuple.tupleExact _) (Jg (Ic (Ig (Ig ⟨_,rfl,Ig h⟩))) htake)
  |exact Ic (Ic (m:=Builtin.Tuple.tupleExact _) (Jg (Ig (Ig ⟨_,rfl,Ig h⟩)) htake))
  |exact Ic (Ic (m:=Builtin.Tuple.tupleExact _) (Jg (Ig ⟨_,rfl,Ig h⟩) htake))
end
end HT
namespace L2
open PySem PySem.Spec PyProof.Rows
noncomputable abbrev TO:=St->Hp->(Option Int->Hp->Prop)->Prop
def PO (X:Cx)(e:Option Expr)(t:TO):Prop:=
 ∀(pins:List (Addr×Obj))(s:MH)(σ:St)(H:Hp)(Q:Option Int->Hp->Prop),Inv X pins σ H s->t σ H Q->
  wpAny (model X.prog X.w) X.A (evalPart e X.env) (λu s'=>∃ o H',Inv X pins σ H' s'/\IsPart u o/\Q o H') X.xe s
noncomputable def Bm:TO:=λ_ H Q=>Q none H
noncomputable def FL (t:TE):TO:=λσ H Q=>t σ H λx H1=>∃ i,x=.int i/\Q (some i) H1
section
variable {X:Cx}{e:Expr}{te:TE}{lo hi:Option Expr}{tl th:TO}{pos p2:Pos}
theorem Bn:PO X none Bm:=by intro pins s σ H Q I h;rw[evalPart_none];exact Ig ⟨none,H,I,.none,h⟩
theorem Bo (h:PE X e te):PO X (some e) (FL te):=by intro pins s σ H Q I hw;rw[evalPart_some];refine bX (h pins s σ H _ I hw) λu s1 ⟨x,H1,I1,r1,q1⟩=>?_;obtain⟨i,rfl,q⟩:=q1;obtain⟨t,rfl⟩:=r1;exact⟨some i,H1,I1,.int i t,q⟩
def SlR (X:Cx)(r:V->Option Int->Option Int->Hp->VK->Prop):Prop:=
 ∀(pins:List (Addr×Obj))(s:MH)(σ:St)(H:Hp)(x:V)(v vl vu:MK)(lo hi:Option Int)(sl:Addr)(Q:VK),Inv X pins σ H s->RelV x v->s.heap.IsSliceOf sl vl vu .none->IsPart vl lo->IsPart vu hi->r x lo hi H Q->
  ∃ T id,typeLookup (.type T) "__getitem__"=pure (some (.builtin id))/\s.TypeIs v T/\wpAny (model X.prog X.w) X.A (getItem v (.ref sl)) (EP X pins σ Q) X.xe s
theorem SlR.or {r r':V->Option Int->Option Int->Hp->VK->Prop}(h:SlR X r)(h':SlR X r'):SlR X (λx lo hi H Q=>r x lo hi H Q\/r' x lo hi H Q):=by
 intro pins s σ H x v vl vu lo hi sl Q I rx hs pl pu q;rcases q with q|q
 .exact h pins s σ H x v vl vu lo hi sl Q I rx hs pl pu q
 .exact h' pins s σ H x v vl vu lo hi sl Q I rx hs pl pu q
noncomputable def HV (r:V->Option Int->Option Int->Hp->VK->Prop)(te:TE)(tl th:TO):TE:=λσ H Q=>te σ H λx H1=>tl σ H1 λl H2=>th σ H2 λu H3=>r x l u H3 Q
theorem yX {r:V->Option Int->Option Int->Hp->VK->Prop}(hr:SlR X r)(he:PE X e te)(hl:PO X lo tl)(hu:PO X hi th):PE X (.Subscript e (.Slice lo hi none p2) pos) (HV r te tl th):=by intro pins s σ H Q I h;refine Subscript_ (bX (he pins s σ H _ I h) λv s1 ⟨x,H1,I1,r1,q1⟩=>?_);refine wpAny_Slice (bX (hl pins s1 σ H1 _ I1 q1) λvl s2 ⟨l,H2,I2,pl,q2⟩=>bX (hu pins s2 σ H2 _ I2 q2) λvu s3 ⟨u,H3,I3,pu,q3⟩=>?_);rw[evalPart_none];refine Ig ?_;have I4:Inv X pins σ H3 { s3 with heap:=s3.heap.push { cls:=.type "slice",data:=.fields #[vl,vu,.none] } }:=I3.kept (t':=s3.toks) λb ob q=>Ie _ q;obtain⟨T,id,hT,ht,hg⟩:=hr pins { s3 with heap:=s3.heap.push { cls:=.type "slice",data:=.fields #[vl,vu,.none] } } σ H3 x v vl vu l u s3.heap.objs.size Q I4 r1 (Heap.IsSliceOf.new ..) pl pu q3;show wpAny (model X.prog X.w) X.A (subscriptTail e (.Slice lo hi none p2) v (.ref s3.heap.objs.size)) (EP X pins σ Q) X.xe { s3 with heap:=s3.heap.push { cls:=.type "slice",data:=.fields #[vl,vu,.none] } };exact tail_any (ops:=[.ref s3.heap.objs.size,v]) ht hT hg (by with_unfolding_all rfl)
noncomputable def sC (xs:List V)(lo hi:Option Int):List V:=(xs.drop (HT.sIx xs.length 0 lo)).take (HT.sIx xs.length xs.length hi-HT.sIx xs.length 0 lo)
theorem lR (xs:List V)(lo hi:Option Int):(sC xs lo hi).length<=xs.length:=by unfold sC;rw[J8,KR];lia
noncomputable def Hi (K:MI):V->Option Int->Option Int->Hp->VK->Prop:=λx lo hi H Q=>∃ a xs,x=.ref a/\SqT K H a xs/\
 ¬ (HT.sIx xs.length 0 lo=0/\HT.sIx xs.length xs.length hi=xs.length)/\∀ p,H p=none->Q (.ref p) (aG H p (.tup (sC xs lo hi)))
theorem sl_tup:SlR X (Hi X.K):=by
 intro pins s σ H x v vl vu lo hi sl Q I rx hs pl pu h;obtain⟨a,xs,rfl,hx,hw,q⟩:=h;cases rx;obtain⟨its,r,ht,hz⟩:=I.tuple hx;have aR:its.toArray.size=xs.length:=by rw[Iu];exact r.length.symm
 refine⟨"tuple",_,Jt.lookup,ht.typeIs,?_⟩;refine HT.getItem_tuple_cut ht hs pl pu (by rw[aR];exact hw) ?_ (by rw[aR];exact hz);rw[aR];refine⟨.ref s.heap.objs.size,_,I.laid (t':=s.toks) (o:=.tup (sC xs lo hi)) (λb ob q=>Ie _ q) (Ih _) ?_,rfl,q _ (I.hok.fresh (Ih _))⟩;exact⟨IL (lR xs lo hi) hz,_,(r.drop (HT.sIx xs.length 0 lo)).take (HT.sIx xs.length xs.length hi-HT.sIx xs.length 0 lo),IsTup.new _ _⟩
noncomputable def FM (K:MI):R2:=λx y H Q=>∃ a b xs ys,x=.ref a/\y=.ref b/\SqT K H a xs/\SqT K H b ys/\xs≠[]/\xs.length+ys.length<=sizeLine/\
 (ys=[]->Q (.ref a) H)/\(ys≠[]->∀ p,H p=none->Q (.ref p) (aG H p (.tup (xs++ys))))
theorem Vals.nil_iff {xs:List V}{us:List MK}(r:Vals xs us):us=[]↔xs=[]:=by
 cases r with
 |nil=>simp
 |cons _ _=>simp
theorem op_catT:OpR X (binaryOp .Add) (FM X.K):=by intro pins s σ H x y v u Q I rx ry h;obtain⟨a,b,xs,ys,rfl,rfl,ha,hb,hx,hz,q1,q2⟩:=h;cases rx;cases ry;obtain⟨its,r1,p1,_⟩:=I.tuple ha;obtain⟨its2,r2,p2,_⟩:=I.tuple hb;refine HT.cat_tup p1 p2 (λz=>hx (r1.nil_iff.mp z)) (λz=>⟨.ref a,H,I,rfl,q1 (r2.nil_iff.mp z)⟩) (λz=>?_) (by rw[<- r1.length,<- r2.length];exact hz);refine⟨.ref s.heap.objs.size,_,I.laid (t':=s.toks) (o:=.tup (xs++ys)) (λb ob q=>Ie _ q) (Ih _) ?_,rfl,q2 (λw=>z (r2.nil_iff.mpr w)) _ (I.hok.fresh (Ih _))⟩;exact⟨by rw[ID];exact hz,_,r1.append r2,IsTup.new _ _⟩
end
noncomputable def xt (n:Nat)(i:Int):Option Nat:=if 0<=i then (if i<n then some i.toNat else none) else if -(n:Int)<=i then some (i+n).toNat else none
noncomputable def atI {α:Type}(xs:List α)(i:Int):Option α:=(xt xs.length i).bind λj=>xs[j]?
theorem Bp {n:Nat}{i:Int}{j:Nat}(h:xt n i=some j):seqIndex? i n=some j/\j<n/\-(n:Int)<=i/\i<n:=by
 unfold xt at h;by_cases h0:0<=i
 .rw[Il h0]at h;by_cases h1:i<n
  .rw[Il h1]at h;have e:i.toNat=j:=IM h;exact⟨by rw[seqIndex_of h0 h1,e],by lia,by lia,h1⟩
  .rw[Ij h1]at h;cases h
 .rw[Ij h0]at h;by_cases h1:-(n:Int)<=i
  .rw[Il h1]at h;have e:(i+n).toNat=j:=IM h;exact⟨by rw[seqIndex_neg (by lia) h1,e],by lia,h1,by lia⟩
  .rw[Ij h1]at h;cases h
theorem qL {α:Type}{xs:List α}{i:Int}{v:α}(h:atI xs i=some v):∃ j,seqIndex? i xs.length=some j/\xs[j]?=some v/\j<xs.length/\-(xs.length:Int)<=i/\i<xs.length:=by
 unfold atI at h;cases e:xt xs.length i with
 |none=>rw[e]at h;cases h
 |some j=>rw[e]at h;obtain⟨h1,h2,h3,h4⟩:=Bp e;exact⟨j,h1,h,h2,h3,h4⟩
theorem vR {α:Type}{xs:List α}{j:Nat}{v:α}(h:xs[j]?=some v):atI xs (j:Int)=some v:=by
 have hj:j<xs.length:=(Iz.mp h).1;have e:xt xs.length (j:Int)=some j:=by unfold xt;rw[Il (by lia),Il (by lia)];simp
 unfold atI;rw[e];exact h
def qM (b:Expr):Prop:=∀ o i,subscripted b false o i=operate [o,i] (getItem o i)
def IxR (X:Cx)(r:R2):Prop:=
 ∀(value slice:Expr)(pins:List (Addr×Obj))(s:MH)(σ:St)(H:Hp)(x y:V)(v u:MK)(Q:VK),Inv X pins σ H s->RelV x v->RelV y u->r x y H Q->
  subscripted slice false v u=operate [v,u] (getItem v u)->wpAny (model X.prog X.w) X.A (subscriptTail value slice v u) (EP X pins σ Q) X.xe s
def D8 (X:Cx)(id:String)(r:V->List V->Hp->VK->Prop):Prop:=
 ∀(pins:List (Addr×Obj))(s:MH)(σ:St)(H:Hp)(x:V)(xs:List V)(v:MK)(us:List MK)(Q:VK),Inv X pins σ H s->RelV x v->Vals xs us->r x xs H Q->
  wpAny (model X.prog X.w) X.A (call (.builtin id) (v::us)) (EP X pins σ Q) X.xe s
section
variable {X:Cx}{a b:Expr}{ta tb:TE}{pos:Pos}
theorem IxR.or {r r':R2}(h:IxR X r)(h':IxR X r'):IxR X (λx y H Q=>r x y H Q\/r' x y H Q):=by
 intro value slice pins s σ H x y v u Q I rx ry q hs;rcases q with q|q
 .exact h value slice pins s σ H x y v u Q I rx ry q hs
 .exact h' value slice pins s σ H x y v u Q I rx ry q hs
theorem bc {r:R2}(hr:IxR X r)(ha:PE X a ta)(hb:PE X b tb)(hs:qM b):PE X (.Subscript a b pos) (k9 r ta tb):=by intro pins s σ H Q I h;exact Subscript_ (DO ha hb I h λv u s2 x y H2 I2 rx ry q=>hr a b pins s2 σ H2 x y v u Q I2 rx ry q (hs _ _))
noncomputable def D9 (K:MI):R2:=λx y H Q=>∃ p xs i v,x=.ref p/\y=.int i/\SqL K H p xs/\atI xs i=some v/\Q v H
noncomputable def ph (K:MI):R2:=λx y H Q=>∃ p xs i v,x=.ref p/\y=.int i/\SqT K H p xs/\atI xs i=some v/\Q v H
noncomputable def FN:R2:=λx y H Q=>∃ z i c,x=.str z/\y=.int i/\z.length<=sizeLine/\atI z.cps.toList i=some c/\Q (.str ⟨#[c]⟩) H
theorem ix_list:IxR X (D9 X.K):=by
 intro value slice pins s σ H x y v u Q I rx ry h hs;obtain⟨p,xs,i,z,rfl,rfl,hq,he,q⟩:=h;cases rx;obtain⟨t,rfl⟩:=ry;obtain⟨its,r,pl,hz⟩:=I.list hq;obtain⟨j,h1,h2,h3,h4,h5⟩:=qL he;obtain⟨w,ew,rw'⟩:=r.get h2;have hl:=r.length;have hn:=k_;have fin:EP X pins σ Q w s:=⟨z,H,I,rw',q⟩;by_cases h0:0<=i
 .have hj:i.toNat=j:=by rw[seqIndex_of h0 h5]at h1;exact IM h1
  exact item_listR pl.isList h0 (by lia) (by rw[hj];simpa using ew) fin hs
 .have hj:(i+(its.toArray.size:Int)).toNat=j:=by rw[seqIndex_neg (by lia) h4]at h1;rw[Iu,<- hl];exact IM h1
  exact subscriptTail_builtinR (x:=w) pl.isList.typeIs slot_list_getitem.lookup
   (wpAny_getItem_list_neg (Q:=λr s'=>r=w/\EP X pins σ Q r s') pl.isList (by lia) (by rw[Iu]<;>lia) (by lia) (by rw[hj];simpa using ew) ⟨rfl,fin⟩) hs
theorem ix_tup:IxR X (ph X.K):=by
 intro value slice pins s σ H x y v u Q I rx ry h hs;obtain⟨p,xs,i,z,rfl,rfl,hq,he,q⟩:=h;cases rx;obtain⟨t,rfl⟩:=ry;obtain⟨its,r,pl,hz⟩:=I.tuple hq;obtain⟨j,h1,h2,h3,h4,h5⟩:=qL he;obtain⟨w,ew,rw'⟩:=r.get h2;have hl:=r.length;have hn:=k_;have fin:EP X pins σ Q w s:=⟨z,H,I,rw',q⟩;exact subscriptTail_builtinR (x:=w) pl.typeIs slot_tuple_getitem.lookup
  (getItem_tuple (j:=j) (Q:=λr s'=>r=w/\EP X pins σ Q r s') pl (by lia) (by lia) (by rw[Iu,<- hl];exact h1) (by simpa using ew) ⟨rfl,fin⟩) hs
theorem D_:IxR X FN:=by
 intro value slice pins s σ H x y v u Q I rx ry h hs;obtain⟨z,i,c,rfl,rfl,hz,he,q⟩:=h;obtain⟨t,rfl⟩:=rx;obtain⟨t',rfl⟩:=ry;obtain⟨j,h1,h2,h3,h4,h5⟩:=qL he;have hl:z.cps.toList.length=z.length:=by simp[Str.length]
 rw[hl]at h1 h4 h5;have hn:=k_;exact tail_any (typeIs_str s z t) slot_str_getitem.lookup (getItem_str (c:=c) (by have e1:decide (i < -(2 ^ 63:Int))=false:=IJ (by lia);have e2:decide (i>=2 ^ 63)=false:=IJ (by lia);rw[e1,e2,Bool.or_false]) (by rw[h1];simpa using h2) ⟨.str ⟨#[c]⟩,H,I.tok _,⟨_,rfl⟩,q⟩) hs
noncomputable def HW (K:MI):R2:=λx y H Q=>D9 K x y H Q\/ph K x y H Q\/FN x y H Q
theorem Ea:IxR X (HW X.K):=ix_list.or (ix_tup.or D_)
theorem qN (lo hi:Option Int)(n:Nat):(sliceBounds lo hi none n).1=((HT.sIx n 0 lo:Nat):Int)/\(sliceBounds lo hi none n).2.1=((HT.sIx n n hi:Nat):Int)/\(sliceBounds lo hi none n).2.2=1:=by
 refine⟨?_,?_,rfl⟩
 .cases lo with
  |none=>simp[sliceBounds,HT.sIx]
  |some i=>
   simp only[sliceBounds,HT.sIx,Option.getD_none,show(1:Int)>0 by decide,Ky];by_cases h:i<0
   .simp only[h,Ky]<;>lia
   .simp only[h,Ju]<;>lia
 .cases hi with
  |none=>simp[sliceBounds,HT.sIx]
  |some i=>
   simp only[sliceBounds,HT.sIx,Option.getD_none,show(1:Int)>0 by decide,Ky];by_cases h:i<0
   .simp only[h,Ky]<;>lia
   .simp only[h,Ju]<;>lia
theorem pj (its:List MK)(lo hi:Option Int):slicePick its.toArray lo hi none=((its.drop (HT.sIx its.length 0 lo)).take (HT.sIx its.length its.length hi-HT.sIx its.length 0 lo)).toArray:=by obtain⟨h1,h2,h3⟩:=qN lo hi its.toArray.size;unfold slicePick;rw[h1,h2,h3];simp only[sliceRange_one,pick_run,Iu]<;>rfl
noncomputable def Hj (K:MI):V->Option Int->Option Int->Hp->VK->Prop:=λx lo hi H Q=>∃ a xs,x=.ref a/\SqL K H a xs/\∀ p,H p=none->Q (.ref p) (aG H p (.lst (sC xs lo hi)))
theorem sl_list:SlR X (Hj X.K):=by intro pins s σ H x v vl vu lo hi sl Q I rx hs pl pu h;obtain⟨a,xs,rfl,hx,q⟩:=h;cases rx;obtain⟨its,r,ht,hz⟩:=I.list hx;have aR:=r.length;refine⟨"list",_,slot_list_getitem.lookup,ht.isList.typeIs,?_⟩;refine wpAny_getItem_list_slice ht.isList hs pl pu .none (by simp) ?_ (by rw[Iu]<;>lia);rw[pj,<- aR];refine⟨.ref s.heap.objs.size,_,I.laid (t':=s.toks) (o:=.lst (sC xs lo hi)) (λb ob q=>Ie _ q) (Ih _) ?_,rfl,q _ (I.hok.fresh (Ih _))⟩;exact⟨IL (lR xs lo hi) hz,_,0,(r.drop (HT.sIx xs.length 0 lo)).take (HT.sIx xs.length xs.length hi-HT.sIx xs.length 0 lo),Iv _ rfl⟩
theorem call_len_seq:CallR X (.builtin "len") (λxs H Q=>∃ p ys,xs=[.ref p]/\(SqL X.K H p ys\/SqT X.K H p ys)/\Q (.int ys.length) H):=by
 intro pins s σ H xs us Q I r h;obtain⟨p,ys,rfl,hq,q⟩:=h;obtain⟨u,rfl,rx⟩:=fQ r;cases rx;have hn:=k_;rcases hq with hq|hq
 .obtain⟨its,r',pl,hz⟩:=I.list hq;have aR:=r'.length;exact Calls.call_len_list pl.isList (by simp only[Iu]<;>lia) ⟨.int ys.length,H,I.tok _,⟨s.toks+1,by rw[Iu,aR]⟩,q⟩
 .obtain⟨its,r',pl,hz⟩:=I.tuple hq;have aR:=r'.length;exact len_tuple pl (by simp only[Iu]<;>lia) ⟨.int ys.length,H,I.tok _,⟨s.toks+1,by rw[Iu,aR]⟩,q⟩
theorem qO:CallR X (.builtin "len") (λxs H Q=>∃ z,xs=[.str z]/\z.length<=sizeLine/\Q (.int z.length) H):=by intro pins s σ H xs us Q I r h;obtain⟨z,rfl,hz,q⟩:=h;obtain⟨u,rfl,t,rfl⟩:=fQ r;have hn:=k_;exact len_str (by lia) ⟨.int z.length,H,I.tok _,⟨_,rfl⟩,q⟩
theorem CallR.or {f:MK}{r r':List V->Hp->VK->Prop}(h:CallR X f r)(h':CallR X f r'):CallR X f (λxs H Q=>r xs H Q\/r' xs H Q):=by
 intro pins s σ H xs us Q I rs q;rcases q with q|q
 .exact h pins s σ H xs us Q I rs q
 .exact h' pins s σ H xs us Q I rs q
theorem qP:CallR X (.type "list") (λxs H Q=>∃ p ys,xs=[.ref p]/\(SqL X.K H p ys\/SqT X.K H p ys)/\∀ l,H l=none->Q (.ref l) (aG H l (.lst ys))):=by
 intro pins s σ H xs us Q I r h;obtain⟨p,ys,rfl,hq,q⟩:=h;obtain⟨u,rfl,rx⟩:=fQ r;cases rx;have fin:∀(its:List MK),Vals ys its->ys.length<=sizeLine->∀(h':Heap)(c':Nat),(∀ b o',s.heap.get? b=some o'->h'.get? b=some o')->
  h'.get? s.heap.objs.size=some { cls:=.type "list",dict:=none,data:=.seq its.toArray c',slots:=#[] }->EP X pins σ Q (.ref s.heap.objs.size) { s with heap:=h' }:=λits r' hz h' c' kp e=>
  ⟨.ref s.heap.objs.size,_,I.laid (t':=s.toks) kp (Ih _) (show ObjOk X.prog X.w _ h' _ (.lst ys) from⟨hz,its,c',r',e⟩),rfl,q _ (I.hok.fresh (Ih _))⟩
 rcases hq with hq|hq
 .obtain⟨its,r',pl,hz⟩:=I.list hq;have aR:=r'.length;obtain⟨o,ho,hc,n,hd⟩:=pl.isList;exact call_list_seq p (.inl rfl) ho hc hd (λh' c' kp e=>fin its r' hz h' c' kp e) (by simp only[Iu]<;>lia)
 .obtain⟨its,r',pl,hz⟩:=I.tuple hq;have aR:=r'.length;obtain⟨o,ho,hc,n,hd⟩:=pl;exact call_list_seq p (.inr rfl) ho hc hd (λh' c' kp e=>fin its r' hz h' c' kp e) (by simp only[Iu]<;>lia)
theorem pk:CallR X (.type "tuple") (λxs H Q=>∃ p ys,xs=[.ref p]/\((SqL X.K H p ys/\∀ l,H l=none->Q (.ref l) (aG H l (.tup ys)))\/(SqT X.K H p ys/\Q (.ref p) H))):=by
 intro pins s σ H xs us Q I r h;obtain⟨p,ys,rfl,h⟩:=h;obtain⟨u,rfl,rx⟩:=fQ r;cases rx;rcases h with⟨hq,q⟩|⟨hq,q⟩
 .obtain⟨its,r',pl,hz⟩:=I.list hq;have aR:=r'.length;refine call_tuple_list pl.isList (λh' kp=>?_) (by simp only[Iu]<;>lia);have I1:Inv X pins σ H { s with heap:=h' }:=I.kept (t':=s.toks) kp;have I2:Inv X pins σ (aG H h'.objs.size (.tup ys)) { s with heap:=h'.push { cls:=.type "tuple",data:=.seq its.toArray } }:=I1.laid (t':=s.toks) (λb o e=>Ie _ e) (Ih _) (show ObjOk X.prog X.w _ _ _ (.tup ys) from⟨hz,its,r',IsTup.new _ _⟩);exact⟨.ref h'.objs.size,_,I2,rfl,q _ (I1.hok.fresh (Ih _))⟩
 .obtain⟨its,r',pl,hz⟩:=I.tuple hq;exact call_tuple_same pl ⟨.ref p,H,I,rfl,q⟩
def Hk (K:MI)(T:String)(x:V)(H:Hp):Prop:=match x with
 | .str _=>T="str"
 | .int _=>T="int"
 | .ref p=>(T="list"/\∃ xs,SqL K H p xs)\/(T="tuple"/\∃ o,K.lookup p=some o/\o.cls=.type "tuple"/\o.dict=none)\/
  (T="dict"/\((∃ kvs,H p=some (.dK kvs))\/∃ kvs,H p=some (.dT kvs)))\/(T="set"/\∃ S n,H p=some (.set S n))
 |_=>False
theorem yY {pins:List (Addr×Obj)}{σ:St}{H:Hp}{s:MH}{T:String}{x:V}{v:MK}(I:Inv X pins σ H s)(r:RelV x v)(ty:Hk X.K T x H) :
 s.TypeIs v T/\∀ a,v=.ref a->∃ ob,s.heap.get? a=some ob/\ob.dict=none:=by
 cases x with
 |str z=>obtain⟨t,rfl⟩:=r;cases (show T="str" from ty);exact⟨typeIs_str s z t,λ_ e=>nomatch e⟩
 |int i=>obtain⟨t,rfl⟩:=r;cases (show T="int" from ty);exact⟨typeIs_int s i t,λ_ e=>nomatch e⟩
 |ref p=>
  cases r;rcases ty with⟨rfl,xs,hq⟩|⟨rfl,o,hk,hc,hd⟩|⟨rfl,hk⟩|⟨rfl,S,n,hk⟩
  .obtain⟨its,_,pl,_⟩:=I.list hq;refine⟨pl.isList.typeIs,λa e=>?_⟩;cases e;obtain⟨o,n,e,c,hd,_⟩:=pl;exact⟨o,e,hd⟩
  .refine⟨⟨o,I.kIn p o hk,hc⟩,λa e=>?_⟩;cases e;exact⟨o,I.kIn _ o hk,hd⟩
  .have z:∃ o,s.heap.get? p=some o/\o.ExactDict:=by
    rcases hk with⟨kvs,hk⟩|⟨kvs,hk⟩
    .obtain⟨_,_,_,_,o,_,_,e,ex,_⟩:=I.hok p _ hk;exact⟨o,e,ex⟩
    .obtain⟨_,_,_,_,o,_,_,e,ex,_⟩:=I.hok p _ hk;exact⟨o,e,ex⟩
   obtain⟨o,e,ex⟩:=z;refine⟨⟨o,e,ex.1⟩,λa e2=>?_⟩;cases e2;exact⟨o,e,ex.2.1⟩
  .obtain⟨o,_,_,_,e,ex,_⟩:=I.hok p _ hk;refine⟨⟨o,e,ex.1⟩,λa e2=>?_⟩;cases e2;exact⟨o,e,ex.2.1⟩
 |_=>exact False.elim ty
noncomputable def Eb (K:MI)(T:String)(r:V->List V->Hp->VK->Prop)(to:TE):TE:=λσ H Q=>to σ H λx H1=>Hk K T x H1/\r x [] H1 Q
noncomputable def FO (K:MI)(T:String)(r:V->List V->Hp->VK->Prop)(to:TE)(t:TA):TE:=λσ H Q=>to σ H λx H1=>Hk K T x H1/\t σ H1 λxs H2=>r x xs H2 Q
variable {o e:Expr}{es:List Expr}{to:TE}{t:TA}{name:Str}{apos cpos:Pos}{T id:String}{r:V->List V->Hp->VK->Prop}
theorem yZ (pa:PlainAttrs T) (slot:Slot T name id) (hty:typeOf (.builtin id)=pure (.type "method_descriptor")) (hm:D8 X id r) (ho:PE X o to)
 (hbase:autoParam (attributeBase o name X.env (eval o X.env)=eval o X.env) MR._auto_1) (hline:autoParam ((apos.endLine==cpos.line)=true) MR._auto_1):PE X (.Call (.Attribute o name apos) [] [] cpos) (Eb X.K T r to):=by
 intro pins s σ H Q I h;refine wpAny_Call_method0_late hbase hline (bX (ho pins s σ H _ I h) λv s1 ⟨x,H1,I1,r1,ty,q1⟩=>?_);obtain⟨h1,h2⟩:=yY I1 r1 ty;exact⟨T,id,pa,slot,hty,h1,h2,JN rfl (PySem.evalArgs_none (hm pins s1 σ H1 x [] v [] Q I1 r1 .nil q1))⟩
theorem ib (pa:PlainAttrs T) (slot:Slot T name id) (hty:typeOf (.builtin id)=pure (.type "method_descriptor")) (hm:D8 X id r) (ho:PE X o to) (ha:PA X (e::es) t)
 (hbase:autoParam (attributeBase o name X.env (eval o X.env)=eval o X.env) MR._auto_1)
 (hfew:autoParam (((backTo cpos (starEach (e::es) X.env)).all (λx=>!x.1)&&(backToKw cpos (keywordEach [] X.env)).all (λx=>x.1.isSome)
   && decide ((e::es).length+([]:List Keyword).length+(if ([]:List Keyword).isEmpty then 0 else 1)<30))=true) MR._auto_1)
 (hline:autoParam ((apos.endLine==cpos.line)=true) MR._auto_1) (hs:autoParam (starEach (e::es) X.env=(false,eval e X.env)::starEach es X.env) MR._auto_1) (hplain:autoParam ((backTo cpos (starEach es X.env)).any (·.1)=false) MR._auto_1) :
 PE X (.Call (.Attribute o name apos) (e::es) [] cpos) (FO X.K T r to t):=by
 intro pins s σ H Q I h;refine wpAny_Call_method_late hbase hfew hline rfl (bX (ho pins s σ H _ I h) λv s1 ⟨x,H1,I1,r1,ty,q1⟩=>?_);obtain⟨h1,h2⟩:=yY I1 r1 ty;refine⟨T,id,pa,slot,hty,h1,h2,?_⟩;have hA:=ha cpos pins s1 σ H1 _ I1 q1;rw[hs]at hA ⊢;refine JN (by show(false || (backTo cpos (starEach es X.env)).any (·.1))=false;rw[hplain]<;>rfl) (KF ?_);exact bX hA λus s2 ⟨vs,H2,I2,r2,q2⟩=>hm pins s2 σ H2 x vs v us Q I2 r1 r2 q2
end
def HX (X:Cx)(id:String)(r:V->List V->Hp->VK->Prop):Prop:=
 ∀(pins:List (Addr×Obj))(s:MH)(σ:St)(H:Hp)(x:V)(xs:List V)(v:MK)(us:List MK)(Q:VK),Inv X pins σ H s->RelV x v->Vals xs us->r x xs H Q->
  wpAny (model X.prog X.w) X.A (call (.builtin id) (v::us)) (EP X pins σ Q) X.xe s
theorem Vals.one:∀{x:V}{us:List MK},Vals [x] us->∃ u,us=[u]/\RelV x u
 |_,_,.cons r .nil=>⟨_,rfl,r⟩
section
variable {X:Cx}{pins:List (Addr×Obj)}{σ:St}{H:Hp}{s:MH}{l b:Addr}{xs ys zs:List V}
theorem Inv.lset {its its':List MK}{n:Nat}{f:Array MK->Array MK}{t':Nat}(I:Inv X pins σ H s)(hH:H l=some (.lst xs))
 (e:s.heap.get? l=some { cls:=.type "list",data:=.seq its.toArray n }) (hf:f its.toArray=its'.toArray) (hv:Vals ys its') (hz:ys.length<=sizeLine) :
 Inv X pins σ (aG H l (.lst ys)) { s with heap:=s.heap.update l (Obj.mapSeq f),toks:=t' }:=by
 have q:=PySem.IsL.update e f;rw[hf]at q;refine I.write (x:=l) (e:=l) (by rw[hH];exact trivial) (.inl rfl) (λb' u hb hu=>(J_ s.heap (Obj.mapSeq f) (Jn hb)).trans hu) ⟨_,q⟩ ?_;exact⟨hz,its',_,hv,q⟩
theorem Inv.lnew {its:List MK}{t':Nat}(I:Inv X pins σ H s)(hv:Vals ys its)(hz:ys.length<=sizeLine) :
 Inv X pins σ (aG H s.heap.objs.size (.lst ys)) { s with heap:=s.heap.push { cls:=.type "list",data:=.seq its.toArray },toks:=t' }:=
 I.laid (λ_ _ q=>Ie _ q) (Ih _) ⟨hz,its,0,hv,Iv _ rfl⟩
theorem Inv.fresh (I:Inv X pins σ H s):H s.heap.objs.size=none:=I.hok.fresh (Ih _)
theorem Inv.lstM (I:Inv X pins σ H s) (hH:H l=some (.lst xs)):xs.length<=sizeLine/\∃(its:List MK)(n:Nat),Vals xs its/\xs.length=its.length/\s.heap.get? l=some { cls:=.type "list",data:=.seq its.toArray n }:=by obtain⟨z,its,n,r,e⟩:=I.hok l _ hH;exact⟨z,its,n,r,r.length,e⟩
end
section
variable {X:Cx}
noncomputable def qQ:V->List V->Hp->VK->Prop:=λx vs H Q=>∃ l xs y,x=.ref l/\vs=[y]/\H l=some (.lst xs)/\xs.length<sizeLine/\Q .non (aG H l (.lst (xs++[y])))
theorem cM:HX X "list.append" qQ:=by intro pins s σ H x vs v us Q I rx rv h;obtain⟨l,xs,y,rfl,rfl,hH,hz,q⟩:=h;cases rx;obtain⟨u,rfl,ru⟩:=rv.one;obtain⟨z,its,n,r,hl,e⟩:=I.lstM hH;refine call_meets F.slot_list_append ⟨_,e,rfl⟩ F.entry_list_append (F.args_list_append_2 _ _) (PySem.list_append l its.toArray n u (by rw[Iu];lia)) ⟨e,?_⟩;refine⟨.non,_,I.lset (its':=its++[u]) hH e (by simp) (r.append (.cons ru .nil)) ?_,rfl,q⟩;rw[ID,K6];lia
end
section
variable {prog:MJ}{w:World}{A:ML}{E:MK->MH->Prop}{s:MH}
end
section
variable {X:Cx}
end
section
variable {κ:Type}[DecidableEq κ]
noncomputable def cg (kvs:List (κ×V))(k:κ):Option V:=(kvs.find? λkv=>decide (kv.1=k)).map (·.2)
noncomputable def ci (kvs:List (κ×V))(k:κ)(v:V):List (κ×V):=if (kvs.any λkv=>decide (kv.1=k))=true then kvs.map (λkv=>if kv.1=k then (kv.1,v) else kv) else kvs++[(k,v)]
noncomputable def i9 (kvs:List (κ×V))(k:κ):List (κ×V):=kvs.filter λkv=>decide (kv.1≠k)
theorem dN {p:κ×V}{r:List (κ×V)}{k:κ}(e:p.1=k):cg (p::r) k=some p.2:=by simp[cg,J1,e]
theorem dP {p:κ×V}{r:List (κ×V)}{k:κ}(e:¬ p.1=k):cg (p::r) k=cg r k:=by simp[cg,J1,e]
theorem ic (k:κ):∀ kvs:List (κ×V),(kvs.any λkv=>decide (kv.1=k))=(cg kvs k).isSome
 | []=>rfl
 |p::r=>by
  rw[Kh];by_cases e:p.1=k
  .simp only[dN e,IA e,Bool.true_or,Option.isSome_some]
  .rw[dP e,IJ e,Mw];exact ic k r
theorem fy (kvs:List (κ×V))(k:κ)(v:V):(ci kvs k v).length<=kvs.length+1:=by
 unfold ci;split
 .rw[Ik];lia
 .rw[ID,Iw,Jr];lia
theorem m_ {kvs:List (κ×V)}{k:κ}(v:V)(h:cg kvs k=none):ci kvs k v=kvs++[(k,v)]:=by unfold ci;rw[ic,h];exact Ij (by decide)
theorem RelO.isSome_eq {o:Option V}{u:Option MK}(r:RelO o u):o.isSome=u.isSome:=by
 cases o with
 |none=>cases u with
  |none=>rfl
  |some _=>exact(show False from r).elim
 |some _=>cases u with
  |none=>exact(show False from r).elim
  |some _=>rfl
theorem RelO.getD {o:Option V}{u:Option MK}{d:V}{d':MK}(r:RelO o u)(rd:RelV d d'):RelV (o.getD d) (u.getD d'):=by
 cases o with
 |none=>cases u with
  |none=>exact rd
  |some _=>exact(show False from r).elim
 |some _=>cases u with
  |none=>exact(show False from r).elim
  |some _=>exact r
theorem KV.val {kvs:List (κ×V)}{vs:List (κ×MK)}(r:KV kvs vs)(k:κ):RelO (cg kvs k) (valueAt vs k):=by
 unfold KV at r;induction r with
 |nil=>exact True.intro
 | @cons p q ps qs h t ih=>
  obtain⟨h1,h2⟩:=h;by_cases e:p.1=k
  .have e':q.1=k:=h1.symm.trans e;have b:valueAt (q::qs) k=some q.2:=by simp[valueAt,J1,e']
   rw[dN e,b];exact h2
  .have e':¬ q.1=k:=λz=>e (h1.trans z);have b:valueAt (q::qs) k=valueAt qs k:=by simp[valueAt,J1,e']
   rw[dP e,b];exact ih
theorem KV.any {kvs:List (κ×V)}{vs:List (κ×MK)}(r:KV kvs vs)(k:κ):(kvs.any λkv=>decide (kv.1=k))=vs.any λkv=>decide (kv.1=k):=by
 unfold KV at r;induction r with
 |nil=>rfl
 |cons h t ih=>rw[Kh,Kh,ih,h.1]
theorem KV.repl {kvs:List (κ×V)}{vs:List (κ×MK)}(r:KV kvs vs)(k:κ){y:V}{u:MK}(ry:RelV y u) :
 KV (kvs.map λkv=>if kv.1=k then (kv.1,y) else kv) (vs.map λkv=>if kv.1=k then (kv.1,u) else kv):=by
 unfold KV at r ⊢;induction r with
 |nil=>exact .nil
 | @cons p q ps qs h t ih=>
  rw[Im,Im];refine .cons ?_ ih;obtain⟨h1,h2⟩:=h;by_cases e:p.1=k
  .rw[Il e,Il (h1.symm.trans e)];exact⟨h1,ry⟩
  .rw[Ij e,Ij (λz=>e (h1.trans z))];exact⟨h1,h2⟩
theorem KV.put {kvs:List (κ×V)}{vs:List (κ×MK)}(r:KV kvs vs)(k:κ){y:V}{u:MK}(ry:RelV y u):KV (ci kvs k y) (stored vs k u):=by
 unfold ci stored;rw[r.any k];by_cases e:(vs.any λkv=>decide (kv.1=k))=true
 .rw[Il e,Il e];exact r.repl k ry
 .rw[Ij e,Ij e];exact Paired.snoc r ⟨rfl,ry⟩
theorem KV.drop {kvs:List (κ×V)}{vs:List (κ×MK)}(r:KV kvs vs)(k:κ):KV (i9 kvs k) (without vs k):=by
 unfold KV at r ⊢;unfold i9 without;induction r with
 |nil=>exact .nil
 | @cons p q ps qs h t ih=>
  obtain⟨h1,h2⟩:=h;rw[KS,KS];by_cases e:p.1=k
  .have a:¬ decide (p.1≠k)=true:=by simp[e]
   have b:¬ decide (q.1≠k)=true:=by simp[h1.symm.trans e]
   rw[Ij a,Ij b];exact ih
  .have e':¬ q.1=k:=λz=>e (h1.trans z);have a:decide (p.1≠k)=true:=by simp[e]
   have b:decide (q.1≠k)=true:=by simp[e']
   rw[Il a,Il b];exact .cons ⟨h1,h2⟩ ih
theorem KV.length {kvs:List (κ×V)}{vs:List (κ×MK)}(r:KV kvs vs):kvs.length=vs.length:=Lp r
theorem y_ (kvs:List (κ×V))(k:κ):(i9 kvs k).length<=kvs.length:=LP _ _
end
theorem i_ {P:MJ}{w:World}{k:Key}{u:MK}(r:RelV (kV k) u):(aB P w).is k u=true:=by
 cases k with
 |inl i=>obtain⟨t,e⟩:=(show ∃ t,u=Value.int i t from r);subst e;exact sj P w i t
 |inr x=>obtain⟨t,e⟩:=(show ∃ t,u=Value.str x t from r);subst e;exact sk P w x t
theorem pR {P:MJ}{w:World}:∀{ks:List Key}{us:List MK},Vals (ks.map kV) us->ItemsAre (aB P w) ks us
 | [],_,r=>by rw[Kj]at r;cases r;exact .nil
 |k::ks,_,r=>by
  rw[Im]at r;cases r with
  |cons h t=>exact .cons (i_ h) (pR t)
noncomputable abbrev KT (H:Hp):List (List Key×V)->List (List Key×Addr×MK)->Prop:=Paired λp q=>p.1=q.1/\H q.2.1=some (.tup (p.1.map kV))/\RelV p.2 q.2.2
theorem KT.val {H:Hp}{kvs:List (List Key×V)}{xs:List (List Key×Addr×MK)}(r:KT H kvs xs)(k:List Key):RelO (cg kvs k) ((atKey xs k).map (·.2)):=by
 induction r with
 |nil=>exact True.intro
 | @cons p q ps qs h t ih=>
  obtain⟨h1,_,h2⟩:=h;by_cases e:p.1=k
  .have e':q.1=k:=h1.symm.trans e;have b:atKey (q::qs) k=some q.2:=by simp[atKey,J1,e']
   rw[dN e,b];exact h2
  .have e':¬ q.1=k:=λz=>e (h1.trans z);have b:atKey (q::qs) k=atKey qs k:=by simp[atKey,J1,e']
   rw[dP e,b];exact ih
theorem KT.repl {H:Hp}{kvs:List (List Key×V)}{xs:List (List Key×Addr×MK)}(r:KT H kvs xs)(k:List Key){y:V}{u:MK}(ry:RelV y u) :
 KT H (kvs.map λkv=>if kv.1=k then (kv.1,y) else kv) (xs.map (putAt k u)):=by
 induction r with
 |nil=>exact .nil
 | @cons p q ps qs h t ih=>
  rw[Im,Im];refine .cons ?_ ih;obtain⟨h1,h2,h3⟩:=h;unfold putAt;by_cases e:p.1=k
  .rw[Il e,Il (h1.symm.trans e)];exact⟨h1,h2,ry⟩
  .rw[Ij e,Ij (λz=>e (h1.trans z))];exact⟨h1,h2,h3⟩
theorem KT.put {H:Hp}{kvs:List (List Key×V)}{xs:List (List Key×Addr×MK)}(r:KT H kvs xs)(k:List Key){b:Addr}{y:V}{u:MK}(hb:H b=some (.tup (k.map kV)))(ry:RelV y u) :
 KT H (ci kvs k y) (storedH xs k b u):=by
 have e:(kvs.any λkv=>decide (kv.1=k))=(atKey xs k).isSome:=by rw[ic,(r.val k).isSome_eq,Mr]
 unfold ci storedH;rw[e];by_cases q:(atKey xs k).isSome=true
 .rw[Il q,Il q];exact r.repl k ry
 .rw[Ij q,Ij q];exact Paired.snoc r ⟨rfl,hb,ry⟩
theorem KT.keeps {H H':Hp}{kvs:List (List Key×V)}{xs:List (List Key×Addr×MK)}(r:KT H kvs xs)(ht:∀ b ys,H b=some (.tup ys)->H' b=some (.tup ys)):KT H' kvs xs:=Paired.mapP r λ_ _ z=>⟨z.1,ht _ _ z.2.1,z.2.2⟩
section
variable {P:MJ}{w:World}{H:Hp}{h:Heap}{a:Addr}
theorem CS {u:HO}(ok:HOk P w H h)(e:Rd H a u):ObjOk P w H h a u:=e.ok ok
theorem kz {kvs:List (Key×V)}(ok:HOk P w H h)(e:Rd H a (.dK kvs)):kvs.length<=sizeLine/\(a==sysModules)=false/\∃ vs,KV kvs vs/\h.DictOf (aB P w) a vs:=show ObjOk P w H h a (.dK kvs) from CS ok e
theorem vS {kvs:List (Key×V)}(ok:HOk P w H h)(e:H a=some (.dK kvs)):kvs.length<=sizeLine/\(a==sysModules)=false/\∃ vs,KV kvs vs/\h.DictOf (aB P w) a vs:=kz ok (.inl e)
theorem du {ks:List Key}(ok:HOk P w H h)(e:H a=some (.tup (ks.map kV))):(tupleKind (aB P w)).is h ks a:=by obtain⟨_,its,r,o,h1,h2,n,h3⟩:=(show ObjOk P w H h a (.tup (ks.map kV)) from ok a _ e);exact⟨o,its.toArray,n,h1,h2,h3,by simpa using pR r⟩
theorem kA {kvs:List (List Key×V)}(ok:HOk P w H h)(e:Rd H a (.dT kvs)):kvs.length<=sizeLine/\(a==sysModules)=false/\
 ∃ xs,KT H kvs xs/\h.DictOfH (tupleKind (aB P w)) a xs:=by
 obtain⟨z,y,xs,r,o,es,ep,h1,h2,h3,h4,h5⟩:=(show ObjOk P w H h a (.dT kvs) from CS ok e);refine⟨z,y,xs,r,o,es,ep,h1,h2,h3,h4,λx hx=>?_,h5⟩;have all:∀{l:List (List Key×V)}{m:List (List Key×Addr×MK)},KT H l m->∀ x∈m,(tupleKind (aB P w)).is h x.1 x.2.1:=by
  intro l m q;induction q with
  |nil=>intro x hx;exact nomatch hx
  | @cons p q ps qs hq t ih=>
   intro x hx;rcases Ip.mp hx with e|hx
   .subst e;exact du ok (by rw[<- hq.1];exact hq.2.1)
   .exact ih x hx
 exact all r x hx
theorem CT {kvs:List (List Key×V)}(ok:HOk P w H h)(e:H a=some (.dT kvs)):kvs.length<=sizeLine/\(a==sysModules)=false/\
 ∃ xs,KT H kvs xs/\h.DictOfH (tupleKind (aB P w)) a xs:=kA ok (.inl e)
end
def DGet (H:Hp)(a:Addr)(y:V)(r:Option V):Prop:=(∃ kvs k,Rd H a (.dK kvs)/\y=kV k/\r=cg kvs k)\/∃ kvs k b,Rd H a (.dT kvs)/\y=.ref b/\H b=some (.tup (k.map kV))/\r=cg kvs k
def DPut (H:Hp)(a:Addr)(y v:V)(H':Hp):Prop:=
 (∃ kvs k,H a=some (.dK kvs)/\y=kV k/\kvs.length<sizeLine/\H'=aG H a (.dK (ci kvs k v)))\/
 ∃ kvs k b,H a=some (.dT kvs)/\y=.ref b/\H b=some (.tup (k.map kV))/\kvs.length<sizeLine/\H'=aG H a (.dT (ci kvs k v))
theorem DGet.t {H:Hp}{a b:Addr}{kvs:List (List Key×V)}{k:List Key}(e:H a=some (.dT kvs))(eb:H b=some (.tup (k.map kV))):DGet H a (.ref b) (cg kvs k):=.inr ⟨kvs,k,b,.inl e,rfl,eb,rfl⟩
theorem DPut.t {H:Hp}{a b:Addr}{kvs:List (List Key×V)}{k:List Key}{v:V}(e:H a=some (.dT kvs))(eb:H b=some (.tup (k.map kV)))(hl:kvs.length<sizeLine) :
 DPut H a (.ref b) v (aG H a (.dT (ci kvs k v))):=.inr ⟨kvs,k,b,e,rfl,eb,hl,rfl⟩
section
variable {X:Cx}{pins:List (Addr×Obj)}{σ:St}{H:Hp}{s:MH}{a:Addr}{y v:V}{u r:MK}{o:Option V}{A:ML}{E:MK->MH->Prop}
theorem Inv.big (I:Inv X pins σ H s):sysModules<s.heap.objs.size:=by have h:mainGlobals<s.heap.objs.size:=(I.mod.glob.keeps I.bk).lt;exact Nat.lt_trans (by decide) h
theorem xu {Q:MK->MH->Prop}(hu:A.units+1<cLine)(I:Inv X pins σ H s)(g:DGet H a y (some v))(ry:RelV y u)(h:∀ w' s',Inv X pins σ H s'->RelV v w'->Q w' s') :
 wpAny (model X.prog X.w) A (getItem (.ref a) u) Q E s:=by
 rcases g with⟨kvs,k,e,ey,l⟩|⟨kvs,k,b,e,ey,eb,l⟩
 .subst ey;obtain⟨z,hd,vs,rel,dd⟩:=kz I.hok e;obtain⟨w',hw,rw'⟩:=RelO.some_of (v:=v) (o:=valueAt vs k) (by rw[l];exact rel.val k);exact wpAny_getItem_of (i_ ry) dd.mapOf hw (h w' _ (I.tok _) rw')
 .subst ey;cases (show u=Value.ref b from ry);obtain⟨z,hd,xs,rel,dd⟩:=kA I.hok e;obtain⟨w',hw,rw'⟩:=RelO.some_of (v:=v) (o:=(atKey xs k).map (·.2)) (by rw[l];exact rel.val k);obtain⟨p,hp,hp2⟩:=JO.mp hw;refine wpAny_getItem_heap (Ko hu) (du I.hok eb) dd hp ?_;rw[hp2];exact h w' _ (I.tok _) rw'
theorem Bq {Q:MK->MH->Prop}(hu:A.units+1<cLine)(I:Inv X pins σ H s)(g:DGet H a y o)(ry:RelV y u)(h:∀ s',Inv X pins σ H s'->Q (.bool (!o.isSome)) s') :
 wpAny (model X.prog X.w) A (compareOp .NotIn u (.ref a)) Q E s:=by
 rcases g with⟨kvs,k,e,ey,l⟩|⟨kvs,k,b,e,ey,eb,l⟩
 .subst ey;obtain⟨z,hd,vs,rel,dd⟩:=kz I.hok e;refine wpAny_notIn_of (i_ ry) hd dd.mapOf ?_;rw[<- (rel.val k).isSome_eq,<- l];exact h _ (I.tok _)
 .subst ey;cases (show u=Value.ref b from ry);obtain⟨z,hd,xs,rel,dd⟩:=kA I.hok e;refine wpAny_notIn_heap (Ko hu) (du I.hok eb) hd dd ?_;have q:=(rel.val k).isSome_eq;rw[Mr]at q;rw[<- q,<- l];exact h _ (I.tok _)
theorem kC {h':Heap}{t':Nat}{ob:HO}(I:Inv X pins σ H s)(mu:FC (H a))(hs:Heap.SameBut a s.heap h')(he:∃ q,h'.get? a=some q)(new:ObjOk X.prog X.w (aG H a ob) h' a ob) :
 Inv X pins σ (aG H a ob) { s with heap:=h',toks:=t' }:=
 I.write (x:=a) (e:=a) mu (.inl rfl) (λb q hb z=>(hs.2 b hb).trans z) he new
theorem uC {P:MJ}{w:World}{H':Hp}{h':Heap}{kvs:List (Key×V)}{vs:List (Key×MK)}(z:kvs.length<=sizeLine)(hd:(a==sysModules)=false)(rel:KV kvs vs)(dd:h'.DictOf (aB P w) a vs) :
 ObjOk P w H' h' a (.dK kvs):=⟨z,hd,vs,rel,dd⟩
theorem xw {H':Hp}{Q:Unit->MH->Prop}(hu:A.units+1<cLine)(I:Inv X pins σ H s)(g:DPut H a y v H')(ry:RelV y u)(rv:RelV v r)(h:∀ s',Inv X pins σ H' s'->Q () s') :
 wpAny (model X.prog X.w) A (setItem (.ref a) u r) Q E s:=by
 rcases g with⟨kvs,k,e,ey,l,eH⟩|⟨kvs,k,b,e,ey,eb,l,eH⟩
 .subst ey eH;obtain⟨z,hd,vs,rel,dd⟩:=vS I.hok e;have hz:vs.length<=sizeLine:=by rw[<- rel.length];exact z
  have hl:(ci kvs k v).length<=sizeLine:=by have:=fy kvs k v;lia
  refine wpAny_setItem_pairs (hsz:=hz) (i_ ry) dd λh' dd' hs=>h _ ?_;have he:∃ q,h'.get? a=some q:=let ⟨q,_,_,hq,_⟩:=dd';⟨q,hq⟩;exact kC I (by rw[e];exact True.intro) hs he (uC hl hd (rel.put k rv) dd')
 .subst ey eH;cases (show u=Value.ref b from ry);obtain⟨z,hd,xs,rel,dd⟩:=CT I.hok e;have hz:xs.length<=sizeLine:=by rw[<- Lp rel];exact z
  have hl:(ci kvs k v).length<=sizeLine:=by have:=fy kvs k v;lia
  refine wpAny_setItem_heap (hsz:=hz) (Ko hu) (du I.hok eb) dd λh' dd' hs=>h _ ?_;obtain⟨q,es,ep,hq,h2,h3,h4,_,h5⟩:=dd';refine kC I (by rw[e];exact True.intro) hs ⟨q,hq⟩ ⟨hl,hd,_,(rel.put k eb rv).keeps λc ys ec=>?_,q,es,ep,hq,h2,h3,h4,h5⟩;rw[ac (yL ec e (λz=>nomatch z))];exact ec
end
section
variable {X:Cx}{pins:List (Addr×Obj)}{σ:St}{H:Hp}{s:MH}{a:Addr}{kvs:List (Key×V)}{k:Key}{u:MK}{A:ML}{E:MK->MH->Prop}
theorem FP {v:V}{more:List MK}{Q:MK->MH->Prop}(I:Inv X pins σ H s)(e:H a=some (.dK kvs))(ry:RelV (kV k) u)(l:cg kvs k=some v)(hm:more=[]\/∃ x,more=[x])
 (h:∀ w' s',Inv X pins σ (aG H a (.dK (i9 kvs k))) s'->RelV v w'->Q w' s'):wpAny (model X.prog X.w) A (call (.builtin "dict.pop") (.ref a::u::more)) Q E s:=by
 obtain⟨z,hd,vs,rel,dd⟩:=vS I.hok e;obtain⟨w',hw,rw'⟩:=RelO.some_of (v:=v) (o:=valueAt vs k) (by rw[<- l];exact rel.val k);have hp:(keyPart u).isSome=true:=by
  cases k with
  |inl i=>obtain⟨t,q⟩:=(show ∃ t,u=Value.int i t from ry);subst q;rfl
  |inr x=>obtain⟨t,q⟩:=(show ∃ t,u=Value.str x t from ry);subst q;rfl
 have ha:argsOk "dict.pop" ⟨.ref a::u::more,[]⟩:=by
  rcases hm with q|⟨x,q⟩
  .subst q;exact PySem.F.args_dict_pop_2 _ _
  .subst q;exact PySem.F.args_dict_pop_3 _ _ _
 refine KM PySem.F.slot_dict_pop dd.typeIs PySem.F.entry_dict_pop ha (meets_dict_pop_there (aB X.prog X.w) a (i_ ry) more hm hp)
  ⟨vs,w',dd,by rw[<- rel.length];exact z,hw,λh' dd' hs=>h w' _ ?_ rw'⟩
 have he:∃ q,h'.get? a=some q:=let ⟨q,_,_,hq,_⟩:=dd';⟨q,hq⟩;exact kC I (by rw[e];exact True.intro) hs he (uC (IL (y_ kvs k) z) hd (rel.drop k) dd')
end
def Ec (i:Expr):Prop:=∀ ov iv,subscripted i false ov iv=operate [ov,iv] (getItem ov iv)
theorem Br {prog:MJ}{w:World}{A:ML}{E:MK->MH->Prop}{s:MH}{env:Env}{value slice:Expr}{pos:Pos}{T id:String}{Q:MK->MH->Prop}
 (hl:typeLookup (.type T) "__getitem__"=pure (some (.builtin id))) (hs:Ec slice)
 (h:wpAny (model prog w) A (eval value env) (λo s₁=>wpAny (model prog w) A (eval slice env) (λi s₂=>s₂.TypeIs o T/\wpAny (model prog w) A (getItem o i) Q E s₂) E s₁) E s) :
 wpAny (model prog w) A (eval (.Subscript value slice pos) env) Q E s:=by
 refine Subscript_ (Kb h (λo s₁ h₁=>Kb h₁ (λi s₂ h₂=>?_) λ_ _ x=>x) λ_ _ x=>x);obtain⟨hT,h₂⟩:=h₂;unfold subscriptTail;refine Ic ?_;rw[getitemInPython_of_ne hT.not_modules];refine Ic (wpAny_specialOf hT hl ?_);have fin:wpAny (model prog w) A (subscripted slice false o i) (λr s₃=>wpAny (model prog w) A (letTemporaryGo value o r >>= λ_=>pure r) Q E s₃) E s₂:=by rw[hs o i];exact wpAny_operating (Kb h₂ (λr s₃ h₃=>Ic (wpAny_letTemporaryGo (Ig h₃))) λ_ _ x=>x)
 first
  |exact Ig (Ic fin)
  |exact Ic (Ig (Ic fin))
  |exact Ic fin
theorem sD {X:Cx} {pins:List (Addr×Obj)} {σ:St} {H:Hp} {s:MH} {a:Addr} {y:V} {o:Option V} (I:Inv X pins σ H s) (g:DGet H a y o):s.TypeIs (.ref a) "dict":=by
 rcases g with⟨kvs,k,e,_,_⟩|⟨kvs,k,b,e,_,_,_⟩
 .obtain⟨_,_,vs,_,dd⟩:=kz I.hok e;exact dd.typeIs
 .obtain⟨_,_,xs,_,dd⟩:=kA I.hok e;exact dd.typeIs
noncomputable def CU (td ty:TE):TE:=λσ H Q=>td σ H λx H1=>ty σ H1 λy H2=>∃ a v,x=.ref a/\DGet H2 a y (some v)/\Q v H2
noncomputable def za (td ty tv:TE):TS:=λD σ H=>tv σ H λv H1=>td σ H1 λx H2=>ty σ H2 λy H3=>∃ a H4,x=.ref a/\DPut H3 a y v H4/\D.nx σ H4
section
variable {X:Cx}{o i e value:Expr}{pos pos' sh:Pos}{td ty tv:TE}
theorem vT (hu:X.A.units+1<cLine)(ho:PE X o td)(hi:PE X i ty)(hs:Ec i):PE X (.Subscript o i pos) (CU td ty):=by intro pins s σ H Q I h;refine Br PySem.F.slot_dict_getitem.lookup hs (bX (ho pins s σ H _ I h) λu s1 ⟨x,H1,I1,rx,q1⟩=>bX (hi pins s1 σ H1 _ I1 q1) λiv s2 ⟨y,H2,I2,ry,a,v,ex,g,q2⟩=>?_);subst ex;obtain rfl:u=Value.ref a:=rx;exact⟨sD I2 g,xu hu I2 g ry λw' s3 I3 rw'=>⟨v,H2,I3,rw',q2⟩⟩
theorem Bs (hu:X.A.units+1<cLine)(ho:PE X o td)(hi:PE X i ty)(hv:PE X value tv)(hs:swapsWith value (some (.Subscript o i pos')) pos.line X.env=pure false) :
 PS X (.Assign [.Subscript o i pos'] value pos) (za td ty tv):=by
 intro pins s σ H D I h;refine wpAny_Assign_Subscript (bX (hv pins s σ H _ I h) λr s1 ⟨v,H1,I1,rv,q1⟩=>bX (ho pins s1 σ H1 _ I1 q1) λu s2 ⟨x,H2,I2,rx,q2⟩=>bX (hi pins s2 σ H2 _ I2 q2) λiv s3 ⟨y,H3,I3,ry,a,H4,ex,g,q3⟩=>?_) hs;subst ex;obtain rfl:u=Value.ref a:=rx;exact xw hu I3 g ry rv λs4 I4=>⟨σ,H4,I4,q3⟩
end
theorem zb {P:MJ} {w:World} {H:Hp} (h:Heap) (hb:sysModules<h.objs.size):ObjOk P w H (h.push { cls:=.type "dict",data:=.dict #[] }) h.objs.size (.dK []):=⟨IR _,Jw.mpr (Jn (II hb)),[],.nil,Heap.DictOf.new h⟩
theorem zc {P:MJ} {w:World} {H:Hp} (h:Heap) (hb:sysModules<h.objs.size):ObjOk P w H (h.push { cls:=.type "dict",data:=.dict #[] }) h.objs.size (.dT []):=⟨IR _,Jw.mpr (Jn (II hb)),[],.nil,_,#[],0,Iv _ rfl,⟨rfl,rfl,rfl⟩,rfl,rfl,IX⟩
noncomputable def zd:TE:=λ_ H Q=>∀ p,H p=none->Q (.ref p) (aG H p (.dK []))
noncomputable def lc:TE:=λ_ H Q=>∀ p,H p=none->Q (.ref p) (aG H p (.dT []))
section
variable {X:Cx}{pos:Pos}
theorem ze:PE X (.Dict [] [] pos) zd:=λpins s σ H Q I h=>wpAny_Dict_empty ⟨.ref s.heap.objs.size,_,I.laid (a:=s.heap.objs.size) (o:=.dK []) (t':=s.toks) (λ_ _ q=>Ie _ q) (Ih _) (zb s.heap I.big),rfl,h _ (I.hok.fresh (Ih _))⟩
theorem ie:PE X (.Dict [] [] pos) lc:=λpins s σ H Q I h=>wpAny_Dict_empty ⟨.ref s.heap.objs.size,_,I.laid (a:=s.heap.objs.size) (o:=.dT []) (t':=s.toks) (λ_ _ q=>Ie _ q) (Ih _) (zc s.heap I.big),rfl,h _ (I.hok.fresh (Ih _))⟩
end
structure M1 (X:Cx) (o:Expr) (m:Str) (apos:Pos) (e:Expr) (cpos:Pos):Prop where
 base:attributeBase o m X.env (eval o X.env)=eval o X.env
 few:((backTo cpos (starEach [e] X.env)).all (λx=>!x.1)&&(backToKw cpos (keywordEach [] X.env)).all (λx=>x.1.isSome)
  && decide (([e]:List Expr).length+([]:List Keyword).length+(if ([]:List Keyword).isEmpty then 0 else 1)<30))=true
 line:(apos.endLine==cpos.line)=true
 trees:backTo cpos (starEach [e] X.env)=[(false,eval e X.env)]
structure M2 (X:Cx) (o:Expr) (m:Str) (apos:Pos) (e f:Expr) (cpos:Pos):Prop where
 base:attributeBase o m X.env (eval o X.env)=eval o X.env
 few:((backTo cpos (starEach [e,f] X.env)).all (λx=>!x.1)&&(backToKw cpos (keywordEach [] X.env)).all (λx=>x.1.isSome)
  && decide (([e,f]:List Expr).length+([]:List Keyword).length+(if ([]:List Keyword).isEmpty then 0 else 1)<30))=true
 line:(apos.endLine==cpos.line)=true
 trees:backTo cpos (starEach [e,f] X.env)=[(false,eval e X.env),(false,eval f X.env)]
def Ed (H:Hp)(a:Addr):Prop:=(∃ kvs,Rd H a (.dK kvs))\/∃ kvs,Rd H a (.dT kvs)
theorem nc {X:Cx}{pins:List (Addr×Obj)}{σ:St}{H:Hp}{s:MH}{a:Addr}(I:Inv X pins σ H s)(d:Ed H a) :
 s.TypeIs (.ref a) "dict"/\(∀ b,Value.ref a=.ref b->∃ ob,s.heap.get? b=some ob/\ob.dict=none)/\(a==sysModules)=false:=by
 rcases d with⟨kvs,e⟩|⟨kvs,e⟩
 .obtain⟨_,hd,vs,_,dd⟩:=kz I.hok e;refine⟨dd.typeIs,λb q=>?_,hd⟩;cases q;obtain⟨ob,_,_,h1,h2,_⟩:=dd;exact⟨ob,h1,h2.2.1⟩
 .obtain⟨_,hd,xs,_,dd⟩:=kA I.hok e;refine⟨dd.typeIs,λb q=>?_,hd⟩;cases q;obtain⟨ob,_,_,h1,h2,_⟩:=dd;exact⟨ob,h1,h2.2.1⟩
section
variable {X:Cx}{pins:List (Addr×Obj)}{σ:St}{H:Hp}{s:MH}{a:Addr}{y d:V}{u r:MK}{o:Option V}{A:ML}{E:MK->MH->Prop}
theorem Ee {Q:MK->MH->Prop}(hu:A.units+1<cLine)(I:Inv X pins σ H s)(g:DGet H a y o)(ry:RelV y u)(h:∀ w' s',Inv X pins σ H s'->RelV (o.getD .non) w'->Q w' s') :
 wpAny (model X.prog X.w) A (call (.builtin "dict.get") [.ref a,u]) Q E s:=by
 rcases g with⟨kvs,k,e,ey,l⟩|⟨kvs,k,b,e,ey,eb,l⟩
 .subst ey;obtain⟨z,hd,vs,rel,dd⟩:=kz I.hok e;refine KM Jv dd.typeIs Ka (PySem.F.args_dict_get_2 _ _) (meets_dict_get (aB X.prog X.w) a (i_ ry) hd) ⟨_,dd.mapOf,h _ _ (I.tok _) ?_⟩;rw[l];exact(rel.val k).getD rfl
 .subst ey;cases (show u=Value.ref b from ry);obtain⟨z,hd,xs,rel,dd⟩:=kA I.hok e;refine KM Jv dd.typeIs Ka (PySem.F.args_dict_get_2 _ _) (meetsH_dict_get (tupleKind (aB X.prog X.w)) a b hd) ⟨Ko hu,k,xs,du I.hok eb,dd,h _ _ (I.tok _) ?_⟩;rw[l];exact(rel.val k).getD rfl
theorem zf {Q:MK->MH->Prop}(hu:A.units+1<cLine)(I:Inv X pins σ H s)(g:DGet H a y o)(ry:RelV y u)(rd:RelV d r)(h:∀ w' s',Inv X pins σ H s'->RelV (o.getD d) w'->Q w' s') :
 wpAny (model X.prog X.w) A (call (.builtin "dict.get") [.ref a,u,r]) Q E s:=by
 rcases g with⟨kvs,k,e,ey,l⟩|⟨kvs,k,b,e,ey,eb,l⟩
 .subst ey;obtain⟨z,hd,vs,rel,dd⟩:=kz I.hok e;refine KM Jv dd.typeIs Ka (KP _ _ _) (meets_dict_get_default (aB X.prog X.w) a (i_ ry) hd r) ⟨_,dd.mapOf,h _ _ (I.tok _) ?_⟩;rw[l];exact(rel.val k).getD rd
 .subst ey;cases (show u=Value.ref b from ry);obtain⟨z,hd,xs,rel,dd⟩:=kA I.hok e;refine KM Jv dd.typeIs Ka (KP _ _ _) (meetsH_dict_get_default (tupleKind (aB X.prog X.w)) a b hd r) ⟨Ko hu,k,xs,du I.hok eb,dd,h _ _ (I.tok _) ?_⟩;rw[l];exact(rel.val k).getD rd
end
noncomputable def zg (td ty:TE):TE:=λσ H Q=>td σ H λx H1=>∃ a,x=.ref a/\Ed H1 a/\ty σ H1 λy H2=>∃ o,DGet H2 a y o/\Q (o.getD .non) H2
noncomputable def ng (td ty tx:TE):TE:=λσ H Q=>td σ H λx H1=>∃ a,x=.ref a/\Ed H1 a/\ty σ H1 λy H2=>tx σ H2 λz H3=>∃ o,DGet H3 a y o/\Q (o.getD z) H3
noncomputable def uD (td ty:TE):TE:=λσ H Q=>td σ H λx H1=>∃ a,x=.ref a/\Ed H1 a/\ty σ H1 λy H2=>∃ kvs k v,H2 a=some (.dK kvs)/\y=kV k/\cg kvs k=some v/\Q v (aG H2 a (.dK (i9 kvs k)))
section
variable {X:Cx}{o e f:Expr}{apos cpos:Pos}{td ty tx:TE}
theorem zh (hu:X.A.units+1<cLine) (ho:PE X o td) (he:PE X e ty) (m:M1 X o "get" apos e cpos):PE X (.Call (.Attribute o "get" apos) [e] [] cpos) (zg td ty):=by intro pins s σ H Q I h;refine LC m.base m.few m.line IZ Jv LQ (bX (ho pins s σ H _ I h) λu s1 ⟨x,H1,I1,rx,a,ex,d,q1⟩=>?_);subst ex;obtain rfl:u=Value.ref a:=rx;obtain⟨t1,t2,_⟩:=nc I1 d;refine⟨t1,t2,?_⟩;rw[m.trees];refine JN rfl (KF (JZ (bX (he pins s1 σ H1 _ I1 q1) λiv s2 ⟨y,H2,I2,ry,ov,g,q2⟩=>KI ?_)));exact Ee hu I2 g ry λw' s3 I3 rw'=>⟨_,H2,I3,rw',q2⟩
theorem nh (hu:X.A.units+1<cLine) (ho:PE X o td) (he:PE X e ty) (hf:PE X f tx) (m:M2 X o "get" apos e f cpos):PE X (.Call (.Attribute o "get" apos) [e,f] [] cpos) (ng td ty tx):=by intro pins s σ H Q I h;refine LC m.base m.few m.line IZ Jv LQ (bX (ho pins s σ H _ I h) λu s1 ⟨x,H1,I1,rx,a,ex,d,q1⟩=>?_);subst ex;obtain rfl:u=Value.ref a:=rx;obtain⟨t1,t2,_⟩:=nc I1 d;refine⟨t1,t2,?_⟩;rw[m.trees];refine JN rfl (KF (JZ (bX (he pins s1 σ H1 _ I1 q1) λiv s2 ⟨y,H2,I2,ry,q2⟩=>JZ (bX (hf pins s2 σ H2 _ I2 q2) λfv s3 ⟨z,H3,I3,rz,ov,g,q3⟩=>KI ?_))));exact zf hu I3 g ry rz λw' s4 I4 rw'=>⟨_,H3,I4,rw',q3⟩
theorem sE (ho:PE X o td) (he:PE X e ty) (m:M1 X o "pop" apos e cpos):PE X (.Call (.Attribute o "pop" apos) [e] [] cpos) (uD td ty):=by intro pins s σ H Q I h;refine LC m.base m.few m.line IZ PySem.F.slot_dict_pop PySem.F.type_dict_pop (bX (ho pins s σ H _ I h) λu s1 ⟨x,H1,I1,rx,a,ex,d,q1⟩=>?_);subst ex;obtain rfl:u=Value.ref a:=rx;obtain⟨t1,t2,_⟩:=nc I1 d;refine⟨t1,t2,?_⟩;rw[m.trees];refine JN rfl (KF (JZ (bX (he pins s1 σ H1 _ I1 q1) λiv s2 ⟨y,H2,I2,ry,kvs,k,v,ea,ey,l,q2⟩=>KI ?_)));subst ey;exact FP I2 ea ry l (.inl rfl) λw' s3 I3 rw'=>⟨v,_,I3,rw',q2⟩
end
section
variable {X:Cx}{pins:List (Addr×Obj)}{σ:St}{H:Hp}{s:MH}{a:Addr}{kvs:List (Key×V)}{A:ML}{E:MK->MH->Prop}
end
section
variable {X:Cx}{pins:List (Addr×Obj)}{σ:St}{H:Hp}{s:MH}{a:Addr}{y:V}{u:MK}{A:ML}{E:MK->MH->Prop}
end
end L2
namespace Att
open PySem PySem.W PySem.Calls PyProof.Rows
theorem l9 {P:Params}{h:Heap}:∀(ns:List Int)(vs:List MK),WellAll P h vs (ns.map WData.int)->IntsAre vs ns:=by
 intro ns;induction ns with
 |nil=>intro vs w;rw[Kj]at w;cases w;exact .nil
 |cons n ns ih=>
  intro vs w;rw[Im]at w;cases w with
  |cons a b=>cases a;exact .cons _ _ (ih _ b)
theorem xx {l:OpenLaw}{n:Nat}(hn:l.most=some n){P:Params}{h:Heap}{args:List WData}{vals:List MK}
 (hpre:l.row.toRowW.claim.pre args=true) (hwl:WellAll P h vals args) :
 ∃ a vs ns,vals=[Value.ref a]/\args=[WData.list (ns.map WData.int)]/\h.get? a=some { cls:=.type "list",data:=.seq vs.toArray }/\IntsAre vs ns/\ns.length<=n:=by
 have hsh:WShape.hasAll [] args [.list .int]=true:=(pre_splitW hpre).1;have hc:l.pre.holds [] { args:=args }=true:=(pre_splitW hpre).2;obtain⟨d,r,rfl,h1,h2⟩:=hasAllW_cons hsh;obtain rfl:=hasAllW_nil h2;obtain⟨xs,rfl,h3⟩:=hasW_list h1;obtain⟨ns,rfl⟩:=items_int h3;have aR:ns.length<=n:=by
  unfold OpenLaw.pre at hc;have h4:(WTm.not (.lt (.lit (.int (n:Int))) (.len (.arg 0)))).holds [] { args:=[.list (ns.map .int)] }=true:=by have h4:=(holds_andW hc).1;rw[hn]at h4;exact h4
  have h5:=condW_of h4 (w_not (w_lt w_lit (w_len_list (w_arg rfl))));rw[Ik]at h5;refine Mz λq=>?_;have q':(n:Int)<((ns.length:Nat):Int):=by lia
  first
   |(rw[IA q']at h5;exact absurd h5 (by decide))
   |(simp at h5;lia)
 cases hwl with
 |cons w1 w2=>
  cases w2;cases w1 with
  |list ho hall=>exact⟨_,_,ns,rfl,rfl,ho,l9 ns _ hall,aR⟩
theorem xy (l:OpenLaw)(args:List WData):l.row.toRowW.claim.post args (.bool true) args=true:=
 postW_of (r:=l.row.toRowW) (X:=(true==true))
  (show WShape.has [] (.bool true) .bool=true by first|rfl|decide|simp[WShape.has,WShape.arms,WShape.armsAll])
  (show(WTm.eq .res (.lit (.bool true))).value [] { args:=args,res:=some (.bool true),after:=args }=some (.bool (true==true)) from w_eq_bool (w_res rfl) w_lit) rfl
theorem attach_call {l:OpenLaw}{n:Nat}{q:MJ}{loose:List Str}{XP:(Str->Option MK)->Heap->Prop}{YP:World->Heap->Prop}{d:DefRec}
 (hn:l.most=some n) (hdf:d.params.defaults=[])
 (call:∀(w:World)(s₀ s₁:MH)(mg mb:Str->Option MK)(fa:Addr)(o:Obj)(pm cd doc:MK)(a:Addr)(vs:List MK)(ns:List Int),
   Ground q loose [] XP w s₀ mg mb s₁.heap->YP w s₁.heap->
   s₁.heap.get? fa=some o->o.data=.func (docDef d.name d.params d.body d.scope pm cd doc)->s₁.heap.CodeRec cd d.name->mg d.name=some (.ref fa)->
   s₁.heap.get? a=some { cls:=.type "list",data:=.seq vs.toArray }->IntsAre vs ns->ns.length<=n->s₁.gens=#[]->
   codeAny (model l.prog w) callerA (.call (.ref fa) ⟨[.ref a],[]⟩) (λr s'=>r=.ok (.ret (.bool true))/\OldK s₁.heap s'.heap/\s'.os=s₁.os/\AllBare s'.gens) s₁) :
 WalkO q loose XP YP l.row.toRowW d [] (λf vs=>PySem.call f vs):=by
 intro w s₀ s₁ mg mb G Y fa o pm cd doc dV kV ho hd hcd hD hmg hg args vals as hpre hlay hrd hwl hlo;obtain rfl:dV=.none:=Dflts.none hD hdf;obtain rfl:kV=.none:=Dflts.noKw hD;obtain⟨a,vs,ns,rfl,rfl,hobj,hints,aR⟩:=xx hn hpre hwl;refine enter_call (LM (call w s₀ s₁ mg mb fa o pm cd doc a vs ns G Y ho (fd_plain hd) hcd hmg hobj hints aR hg) λr s' hq=>?_);obtain⟨rfl,h2,h3,h4⟩:=hq;exact⟨.inl ⟨.bool true,.bool true,[],rfl,λ_=>rfl,.bool true,xy l _,λ_=>⟨List.Pairwise.nil,λ_ hm=>(nomatch hm)⟩⟩,h2,h3,h4⟩
section
variable {prog:MJ}{w:World}{A:ML}{E:MK->MH->Prop}{s:MH}{K:Frag}
end
end Att
namespace L2
open PySem PySem.Spec PyProof.Rows
noncomputable def dC (s:Stmt)(j:Nat):Stmt:=match s with
 | .ClassDef _ _ _ body _ _ _ _ _ _ _=>body.getD j (.Pass ⟨0,0,0,0⟩)
 |_=>.Pass ⟨0,0,0,0⟩
noncomputable def defArgs (s:Stmt):Arguments:=match s with
 | .FunctionDef _ a _ _ _ _ _ _ _ _=>a
 |_=>{ posonlyargs:=[],args:=[],vararg:=none,kwonlyargs:=[],kw_defaults:=[],kwarg:=none,defaults:=[] }
noncomputable def defBody (s:Stmt):List Stmt:=match s with
 | .FunctionDef _ _ b _ _ _ _ _ _ _=>b
 |_=>[]
noncomputable def defScope (s:Stmt):Scope:=match s with
 | .FunctionDef _ _ _ _ _ _ sc _ _ _=>sc
 |_=>{ kind:=.function,names:=[],isGenerator:=false,isCoroutine:=false }
noncomputable abbrev jf:CXT:=λ_ _ _ _ _ _=>False
noncomputable abbrev E0:XK:=λ_ _ _=>False
theorem dQ {X:Cx}:dM jf X E0:=λ_ _ _ _ _ _ _ h=>h.elim
structure Fun (K:MI) (x qual:Str) (st:Stmt) (f:Addr) (fd:FuncData):Prop where
 ex:∃(oc:MK)(od:Option Addr)(kV doc pm:MK)(an:Option Addr)(cdv ct:MK)(osl:Array (Option MK)),
  fd=PySem.W.fnOf x qual (defArgs st) (defBody st) (defScope st) .none kV doc pm an cdv ct/\K.lookup f=some ⟨oc,od,.func fd,osl⟩/\PySem.W.codeIn K cdv qual=true
 kp:PySem.W.keepIn K (.ref f)=true
section
variable {P:MJ}{w:World}{K:MI}{mg:Str->Option MK}{base:Heap}
theorem Fun.ok {x qual:Str}{st:Stmt}{f:Addr}{fd:FuncData}{N ps:List Str}{k:Nat}{sp:Sp}(F:Fun K x qual st f fd)(S:FnScope N ps (defScope st))(len:∀ vs H Q E,sp vs H Q E->vs.length=ps.length)
 (hbody:∀(cdv:MK)(A:ML)(outer:List Env)(s:MH)(H:Hp)(vs:List V)(Q:VK)(E:XK),Room k (A.deeper (envOfC qual (defScope st) s.heap.objs.size f cdv))->sp vs H Q E->
   ∃ t,PSs (uz jf P w K mg base N qual (defScope st) f cdv A outer s H E).nox (defBody st) t/\t { nx:=λ_ H'=>Q .non H',rt:=Q } (bJ N vs) H):FnOk P w K mg base jf (k+1) f fd ps sp:=by
 obtain⟨oc,od,kV,doc,pm,an,cdv,ct,osl,rfl,lk,hcd⟩:=F.ex;refine FK lk hcd S len λA outer s H vs Q E hr hsp=>?_;obtain⟨t,h,q⟩:=hbody cdv A outer s H vs Q E hr hsp;exact⟨t,h.nox,q⟩
theorem Fun.binds {x qual:Str}{st:Stmt}{f:Addr}{fd:FuncData}{ps:List Str}(F:Fun K x qual st f fd)
 (h:∀(kV doc pm:MK)(an:Option Addr)(cdv ct:MK)(us:List MK),us.length=ps.length->bindArgs (PySem.W.fnOf x qual (defArgs st) (defBody st) (defScope st) .none kV doc pm an cdv ct) ⟨us,[]⟩=pure (ps.zip us)):Binds K fd ps []:=by
 obtain⟨oc,od,kV,doc,pm,an,cdv,ct,osl,rfl,lk,hcd⟩:=F.ex;exact .all (h kV doc pm an cdv ct)
theorem lg {x qual:Str}{st:Stmt}{f:Addr}{oc:MK}{od an:Option Addr}{osl:Array (Option MK)}{kV doc pm cdv ct:MK}(l:K.lookup f=some ⟨oc,od,.func (PySem.W.fnOf x qual (defArgs st) (defBody st) (defScope st) .none kV doc pm an cdv ct),osl⟩)
 (c:PySem.W.codeIn K cdv qual=true) (k:PySem.W.keepIn K (.ref f)=true):Fun K x qual st f (PySem.W.fnOf x qual (defArgs st) (defBody st) (defScope st) .none kV doc pm an cdv ct):=⟨⟨oc,od,kV,doc,pm,an,cdv,ct,osl,rfl,l,c⟩,k⟩
end
theorem pS {A:ML}{k:Nat}(hr:Room k A):A.units+1<cLine:=Jb (Mf (by decide:1<=64) _) hr.units
section
variable {X:Cx}
theorem pv (i:Nat) {x:Str} {pos:Pos} (hN:autoParam (X.N[i]?=some x) MR._auto_1) (hv:autoParam (Vis X.env.scope x) MO._auto_1) (hd:autoParam ((x==("__debug__" : Str))=false) MM._auto_1)
 (hcd:autoParam ((x==("__classdict__" : Str))=false) MM._auto_1):PE X (.Name x pos) (ay i):=DG hN hv hd hcd
end
theorem zi {A B:Prop}(h:B):if false=true then A else B:=by rw[Ij Ja];exact h
theorem xA {A B:Prop}(h:A):if true=true then A else B:=by rw[Il rfl];exact h
theorem zj {c A B:Prop}[Decidable c](h1:c->A)(h2:¬ c->B):if c then A else B:=by
 by_cases h:c
 .rw[Il h];exact h1 h
 .rw[Ij h];exact h2 h
def Same (H H':Hp):Prop:=∀ b o,H b=some o->H' b=some o
theorem Same.refl (H:Hp):Same H H:=λ_ _ h=>h
theorem Same.trans {H H1 H2:Hp}(a:Same H H1)(b:Same H1 H2):Same H H2:=λc o h=>b c o (a c o h)
theorem Same.free {H H':Hp}(e:Same H H'){l:Addr}(h:H' l=Option.none):H l=Option.none:=by
 cases q:H l with
 |none=>rfl
 |some o=>rw[e l o q]at h;cases h
section
variable {κ:Type}[DecidableEq κ]
end
section
variable {P:MJ}{w:World}{K:MI}{mg:Str->Option MK}{base:Heap}{N:List Str}{qual:Str}{scope:Scope}{f:Addr}{cd:MK}{A:ML}{outer:List Env}{s₀:MH}{H₀:Hp}{E:XK}
end
section
variable {X:Cx}{c:Str}{C:Addr}{np cpos pos:Pos}{e₀:Expr}{rest:List Expr}{t:TA}
end
section
variable {M:Model}{A:ML}{E:MK->MH->Prop}
end
noncomputable abbrev TX:=St->Hp->VK->XK->Prop
section
variable {X:Cx}{k:Nat}{f:Addr}{fd:FuncData}{ps:List Str}{sp:Sp}{dvs:List V}{ds:List MK}{x:Str}{p pos:Pos}{e:Expr}{es:List Expr}{t:TA}
end
section
variable {X:Cx}{pins:List (Addr×Obj)}{σ:St}{H:Hp}{s:MH}{x:Addr}
end
section
variable {X:Cx}{hc:Str}{Ch:Addr}{np hpos pos epos:Pos}{b₀:Stmt}{suite:List Stmt}{ts:TS}{te:TX}{e:Expr}
end
end L2
namespace L2
open PySem PySem.Spec PySem.Calls PyProof.Rows
section
variable {prog:MJ}{w:World}
noncomputable abbrev tK (prog:MJ)(w:World):=tupleKind (aB prog w)
theorem iQ (x:(tK prog w).is h k a)(e:∀ b o,h.get? b=some o->h'.get? b=some o):(tK prog w).is h' k a:=by obtain⟨o,items,n,h1,r⟩:=x;exact⟨o,items,n,e _ _ h1,r⟩
variable {A:ML}{R:Result->MH->Prop}{I:Addr}{fp wr:List Addr}{G:Array GenState->Array GenState->Prop}{n:Nat}{P:Nat->MK->Prop}{St:Nat->MH->Prop}
end
section
variable {prog:MJ}{w:World}{A:ML}{E:MK->MH->Prop}{s:MH}
end
section
variable {P:MJ}{w:World}{H:Hp}{h:Heap}
end
section
variable {X:Cx}
end
section
variable {X:Cx}{pins:List (Addr×Obj)}{σ:St}{H:Hp}{s:MH}{a:Addr}
theorem Inv.retT (I:Inv X pins σ H s)(e:H a=some (.dK [])):Inv X pins σ (aG H a (.dT [])) s:=by
 obtain⟨z,y,vs,r,o,es,ep,h1,h2,h3,h4,h5⟩:=(show ObjOk X.prog X.w H s.heap a (.dK []) from I.hok a _ e);cases r;exact I.write (x:=a) (e:=a) (t':=s.toks) (h':=s.heap) (by rw[e];exact True.intro) (.inl rfl) (λb u _ q=>q) ⟨o,h1⟩ ⟨z,y,[],.nil,o,es,ep,h1,h2,h3,(by
  generalize es.toList=l at h5;obtain⟨h5,_⟩:=h5;cases l with
  |nil=>rfl
  |cons x r=>cases h5),IX⟩
end
def pT (H:Hp)(a:Addr)(y:V)(r:Option V):Prop:=DGet H a y r\/(Rd H a (.dT [])/\(∃ k,y=kV k)/\r=none)\/(Rd H a (.dK [])/\(∃(b:Addr)(k:List Key),y=.ref b/\H b=some (.tup (k.map kV)))/\r=none)
section
variable {X:Cx}{pins:List (Addr×Obj)}{σ:St}{H:Hp}{s:MH}{a:Addr}{y v:V}{u r:MK}{o:Option V}{A:ML}{E:MK->MH->Prop}
theorem qR (x:ObjOk P w H h a (.dT [])):(a==sysModules)=false/\h.DictOf (aB P w) a []:=by
 obtain⟨z,y,xs,r,o,es,ep,h1,h2,h3,h4,h5⟩:=x;cases r;have e:es=#[]:=by simpa using h4
 subst e;exact⟨y,o,#[],ep,h1,h2,h3,λx hx=>by simp at hx,by constructor,IX⟩
theorem zk (x:ObjOk P w H h a (.dK [])):(a==sysModules)=false/\h.DictOfH (tupleKind (aB P w)) a []:=by
 obtain⟨z,y,vs,r,o,es,ep,h1,h2,h3,h4,h5⟩:=x;cases r;refine⟨y,o,es,ep,h1,h2,h3,?_,λx hx=>(nomatch hx),IX⟩;generalize es.toList=l at h5;obtain⟨h5,_⟩:=h5;cases l with
 |nil=>rfl
 |cons x r=>cases h5
theorem zl (hu:A.units+1<cLine)(I:Inv X pins σ H s)(g:pT H a y o)(ry:RelV y u)(h:∀ s',Inv X pins σ H s'->Q (.bool (!o.isSome)) s') :
 wpAny (model X.prog X.w) A (compareOp .NotIn u (.ref a)) Q E s:=by
 rcases g with g|⟨e,⟨k,rfl⟩,rfl⟩|⟨e,⟨b,k,rfl,eb⟩,rfl⟩
 .exact Bq hu I g ry h
 .obtain⟨y,dd⟩:=qR (e.ok I.hok);exact wpAny_notIn_of (i_ ry) y dd.mapOf (h _ (I.tok _))
 .obtain rfl:u=Value.ref b:=ry;obtain⟨y,dd⟩:=zk (e.ok I.hok);exact wpAny_notIn_heap (Ko hu) (du I.hok eb) y dd (h _ (I.tok _))
end
section
variable {X:Cx}{value o i:Expr}{td ty tv:TE}{pos pos':Pos}
end
section
variable {X:Cx}{pins:List (Addr×Obj)}{σ:St}{H:Hp}{s:MH}{a:Addr}{y d:V}{u r:MK}{o:Option V}{A:ML}{E:MK->MH->Prop}
theorem Bt (hu:A.units+1<cLine)(I:Inv X pins σ H s)(g:pT H a y o)(ry:RelV y u)(rd:RelV d r)(h:∀ w' s',Inv X pins σ H s'->RelV (o.getD d) w'->Q w' s') :
 wpAny (model X.prog X.w) A (call (.builtin "dict.get") [.ref a,u,r]) Q E s:=by
 rcases g with g|⟨e,⟨k,rfl⟩,rfl⟩|⟨e,⟨b,k,rfl,eb⟩,rfl⟩
 .exact zf hu I g ry rd h
 .obtain⟨y,dd⟩:=qR (e.ok I.hok);exact KM Jv dd.typeIs Ka (KP _ _ _) (meets_dict_get_default (aB X.prog X.w) a (i_ ry) y r) ⟨_,dd.mapOf,h _ _ (I.tok _) rd⟩
 .obtain rfl:u=Value.ref b:=ry;obtain⟨y,dd⟩:=zk (e.ok I.hok);exact KM Jv dd.typeIs Ka (KP _ _ _) (meetsH_dict_get_default (tupleKind (aB X.prog X.w)) a b y r) ⟨Ko hu,k,[],du I.hok eb,dd,h _ _ (I.tok _) rd⟩
end
noncomputable def Bu (td ty tx:TE):TE:=λσ H Q=>td σ H λx H1=>∃ a,x=.ref a/\Ed H1 a/\ty σ H1 λy H2=>tx σ H2 λz H3=>∃ o,pT H3 a y o/\Q (o.getD z) H3
section
variable {X:Cx}{o e f:Expr}{apos cpos:Pos}{td ty tx:TE}
theorem xB (hu:X.A.units+1<cLine) (ho:PE X o td) (he:PE X e ty) (hf:PE X f tx) (m:M2 X o "get" apos e f cpos):PE X (.Call (.Attribute o "get" apos) [e,f] [] cpos) (Bu td ty tx):=by intro pins s σ H Q I h;refine LC m.base m.few m.line IZ Jv LQ (bX (ho pins s σ H _ I h) λu s1 ⟨x,H1,I1,rx,a,ex,d,q1⟩=>?_);subst ex;obtain rfl:u=Value.ref a:=rx;obtain⟨t1,t2,_⟩:=nc I1 d;refine⟨t1,t2,?_⟩;rw[m.trees];refine JN rfl (KF (JZ (bX (he pins s1 σ H1 _ I1 q1) λiv s2 ⟨y,H2,I2,ry,q2⟩=>JZ (bX (hf pins s2 σ H2 _ I2 q2) λfv s3 ⟨z,H3,I3,rz,ov,g,q3⟩=>KI ?_))));exact Bt hu I3 g ry rz λw' s4 I4 rw'=>⟨_,H3,I4,rw',q3⟩
end
noncomputable def qS:HO->Prop
 | .dK _=>True
 | .dT _=>True
 |_=>False
section
variable {X:Cx}{pins:List (Addr×Obj)}{σ:St}{H H':Hp}{s:MH}{d:Addr}{o:Obj}{u:HO}
theorem Inv.view (I:Inv X pins σ H s)(hn:∀ b,H b=none->H' b=none)(ht:∀ b xs,H b=some (.tup xs)->H' b=some (.tup xs))(hf:∀ b o u,X.H₀ b=some (.frz o u)->H' b=some (.frz o u))
 (hb:∀ b ps,H b=some (.tbl ps)->H' b=some (.tbl ps)) (hok:HOk X.prog X.w H' s.heap):Inv X pins σ H' s where
 ok:=I.ok
 os:=I.os
 bare:=I.bare
 base:=⟨I.base.keep,I.base.slot,λb o e n hx=>hn b (I.base.free b o e n hx),I.base.there,λb xs e=>ht b xs (I.base.tups b xs e),hf,λb ps e=>let ⟨m,q⟩:=I.base.tbls b ps e;⟨m,hb b _ q⟩⟩
 loc:=I.loc
 cell:=I.cell
 free:=hn _ I.free
 freeC:=λx c e=>hn c (I.freeC x c e)
 pin:=λp hp=>let ⟨a,b,c⟩:=I.pin p hp;⟨a,hn _ b,c⟩
 hok:=hok
 len:=I.len
theorem vU (ok:HOk P w H h)(hd:∃ u,H d=some u/\(∀ y,u≠.own y)/\∀ xs,u≠.tup xs)(new:ObjOk P w (aG H d u') h d u'):HOk P w (aG H d u') h:=λb v e=>by
 obtain⟨u,hu,h1,h2⟩:=hd;by_cases hb:b=d
 .subst hb;rw[af]at e;cases e;exact new
 .rw[ac hb]at e;refine(ok b v e).stay (λ_ _ _ q=>q) (λc q=>?_) λc xs q=>?_
  .rw[ac]
   .exact q
   .rintro rfl;rw[hu]at q;cases q;exact h1 _ rfl
  .rw[ac]
   .exact q
   .rintro rfl;rw[hu]at q;cases q;exact h2 _ rfl
theorem vV (h:qS u):(∀ y,u≠.own y)/\(∀ xs,u≠.tup xs)/\(∀ ps,u≠.tbl ps)/\∀ o v,u≠.frz o v:=by cases u<;>first|exact h.elim|exact⟨λ_ z=>(nomatch z),λ_ z=>(nomatch z),λ_ z=>(nomatch z),λ_ _ z=>(nomatch z)⟩
theorem pU (hu:qS u)(x:ObjOk P w H h d u)(ht:∀ b xs,H b=some (.tup xs)->H' b=some (.tup xs)):ObjOk P w H' h d u:=by
 cases u with
 |dK kvs=>exact x
 |dT kvs=>obtain⟨z,y,xs,r,q⟩:=x;exact⟨z,y,xs,Paired.mapP r λp q z=>⟨z.1,ht _ _ z.2.1,z.2.2⟩,q⟩
 |_=>exact hu.elim
theorem Inv.frz (I:Inv X pins σ H s)(e:H d=some u)(hu:qS u)(ho:s.heap.get? d=some o):Inv X pins σ (aG H d (.frz o u)) s:=by
 obtain⟨n1,n2,n3,n4⟩:=vV hu;have ht:∀ b xs,H b=some (.tup xs)->aG H d (.frz o u) b=some (.tup xs):=λb xs q=>by
  rw[ac]
  .exact q
  .rintro rfl;rw[e]at q;cases q;exact n2 _ rfl
 refine I.view (λb hb=>?_) ht (λb o' u' q=>?_) (λb ps q=>?_) (vU I.hok ⟨u,e,n1,n2⟩ ⟨ho,pU hu (I.hok d u e) ht⟩)
 .rw[ac]
  .exact hb
  .rintro rfl;rw[e]at hb;cases hb
 .have q:=I.base.frzs b o' u' q;rw[ac]
  .exact q
  .rintro rfl;rw[e]at q;cases q;exact n4 _ _ rfl
 .rw[ac]
  .exact q
  .rintro rfl;rw[e]at q;cases q;exact n3 _ rfl
theorem Inv.nofrz (I:Inv X pins σ H s)(e:H d=some u)(hu:qS u):∀ o v,X.H₀ d≠some (.frz o v):=λo v q=>by have:=I.base.frzs d o v q;rw[e]at this;cases this;exact(vV hu).2.2.2 _ _ rfl
theorem Inv.unfrz (I:Inv X pins σ H s)(e:H d=some (.frz o u))(hu:qS u)(hn:∀ o v,X.H₀ d≠some (.frz o v)):Inv X pins σ (aG H d u) s:=by
 have ht:∀ b xs,H b=some (.tup xs)->aG H d u b=some (.tup xs):=λb xs q=>by
  rw[ac]
  .exact q
  .rintro rfl;rw[e]at q;cases q
 have x:ObjOk X.prog X.w H s.heap d u:=(show ObjOk X.prog X.w H s.heap d (.frz o u) from I.hok d _ e).2;refine I.view (λb hb=>?_) ht (λb o' u' q=>?_) (λb ps q=>?_) (vU I.hok ⟨_,e,λ_ z=>(nomatch z),λ_ z=>(nomatch z)⟩ (pU hu x ht))
 .rw[ac]
  .exact hb
  .rintro rfl;rw[e]at hb;cases hb
 .have q2:=I.base.frzs b o' u' q;rw[ac]
  .exact q2
  .rintro rfl;exact hn _ _ q
 .rw[ac]
  .exact q
  .rintro rfl;rw[e]at q;cases q
end
section
variable {X:Cx}{tg:Expr}
end
section
variable {prog:MJ}{w:World}
variable {A:ML}{R:Result->MH->Prop}{I:Addr}{fp wr:List Addr}{G:Array GenState->Array GenState->Prop}{n:Nat}{P:Nat->MK->Prop}{St:Nat->MH->Prop}
end
section
variable {prog:MJ}{w:World}{A:ML}{E:MK->MH->Prop}{s:MH}
end
section
variable {P:MJ}{w:World}{H:Hp}{h:Heap}
end
section
variable {X:Cx}
theorem Ef (I:Inv X pins σ H s)(e:Rd H a (.dK kvs)\/(Rd H a (.dT [])/\kvs=[])) :
 kvs.length<=sizeLine/\(a==sysModules)=false/\∃ vs,KV kvs vs/\s.heap.DictOf (aB X.prog X.w) a vs:=by
 rcases e with e|⟨e,rfl⟩
 .exact kz I.hok e
 .obtain⟨y,dd⟩:=qR (e.ok I.hok);exact⟨IR _,y,[],.nil,dd⟩
end
section
variable {prog:MJ}{w:World}{A:ML}{E:MK->MH->Prop}{s:MH}
theorem Eg {k:Key}{key dflt:MK}{Q:MK->MH->Prop}(ki:(aB prog w).is k key=true)(hm:s.heap.DictOf (aB prog w) d vs)(hn0:valueAt vs k=none)
 (h:∀ h',h'.DictOf (aB prog w) d (stored vs k dflt)->Heap.SameBut d s.heap h'->Q dflt { s with heap:=h',toks:=s.toks+1 }) (hsz:vs.length<=sizeLine):wpAny (model prog w) A (dictSetDefault d key dflt) Q E s:=by
 obtain⟨o,es,ep,ho,hc,hd,hk,hp,hn⟩:=hm;have hes:es.size<=sizeLine:=by
  have e1:=hp.length;have e2:es.toList.length=es.size:=by simp
  lia
 have hnone:vs.findIdx? (λkv=>decide (kv.1=k))=none:=by
  rw[List.findIdx?_eq_none_iff];intro x hx;refine IJ λe=>?_;have:(valueAt vs k).isSome=true:=by unfold valueAt;rw[Mr,List.find?_isSome];exact⟨x,hx,IA e⟩
  rw[hn0]at this;cases this
 have hidx:(es.findIdx? λe=>(aB prog w).is k e.key)=none:=by
  have:(es.findIdx? λe=>(aB prog w).is k e.key)=vs.findIdx? λkv=>decide (kv.1=k):=by rw[<- hp.findIdx k];obtain⟨l⟩:=es;simp
  rw[this];exact hnone
 have hnot:k∉vs.map (·.1):=not_mem_of_findIdx_none hnone;have hany:¬ (vs.any λkv=>decide (kv.1=k))=true:=by rw[List.any_eq_true];rintro⟨kv,hkv,he⟩;exact hnot (Ir.mpr ⟨kv,hkv,Ji he⟩)
 unfold dictSetDefault
 try with_reducible refine JT ?_
 refine Ic ((aB prog w).pyHash ki ?_);refine Ic (wpAny_dictFind_of (s:={ s with toks:=s.toks+1 }) ki ho hd hk ?_);rw[hidx];refine Ic (Mp (Ic (wpAny_updateDictKeys (hz:=hes) (s:={ s with toks:=s.toks+1 }) ho hd (Ig (h _ ⟨_,_,ep+1,JU _ ho (Obj.isFreed_of_dict (Ld hd _)),hc.mapDictKeys _,Ld hd _,hk.push ki _,?_,?_⟩ (Jy ..))))))
 .rw[stored,Ij hany];have:=hp.append ki ((aB prog w).hash k) dflt;obtain⟨l⟩:=es;simpa using this
 .rw[stored,Ij hany,Jk,Ku];refine⟨hn,by simp,?_⟩;intro a ha b hb;simp only[Im,Kj,IE]at hb;subst hb;exact λe=>hnot (e▸ha)
end
section
variable {X:Cx}
noncomputable def CV:V->List V->Hp->VK->Prop:=λx xs H Q=>∃ a k y kvs,x=.ref a/\xs=[kV k,y]/\(H a=some (.dK kvs)\/(H a=some (.dT [])/\kvs=[]))/\kvs.length<sizeLine/\
 ((∃ v,cg kvs k=some v/\Q v H)\/(cg kvs k=none/\Q y (aG H a (.dK (ci kvs k y)))))
theorem Bv:D8 X "dict.setdefault" CV:=by
 intro pins s σ H x xs v us Q I rx rs q;obtain⟨a,k,y,kvs,rfl,rfl,ha,hz,q⟩:=q;obtain rfl:v=Value.ref a:=rx;obtain⟨u1,u2,rfl,ru1,ru2⟩:=vM rs;obtain⟨z1,y1,vs,r1,d1⟩:=Ef I (ha.imp .inl λ⟨e,w⟩=>⟨.inl e,w⟩);have ki:=i_ (P:=X.prog) (w:=X.w) ru1;refine Jh Jm d1.typeIs L1 ?_ (LR _ _ _);unfold Builtin.«dict.setdefault»;refine Ic ?_;unfold Builtin.Dict.keyAndDefault;refine Ic (LS d1.typeIs (show wpAny _ _ (pure (a,u1,some u2)) _ _ s from Ig ?_));show wpAny _ _ (if (a==sysModules)=true then _ else (dictSetDefault a u1 u2 >>= _)) _ _ s;rw[Ij (by rw[y1];exact Ja)];have aR:vs.length<=sizeLine:=by rw[<- r1.length];lia
 have dle:s.heap.DictLe a sizeLine:=λo es ep ho hd=>by
  obtain⟨o',es',ep',ho',_,hd',_,hp,_⟩:=id d1;rw[ho]at ho';cases ho';rw[hd]at hd';cases hd';have e1:=hp.length;have e2:es.toList.length=es.size:=by simp
  lia
 have rv:=r1.val k;rcases q with⟨v,hv,q⟩|⟨hv,q⟩
 .obtain⟨w',hw,rw'⟩:=RelO.some_of (v:=v) (o:=valueAt vs k) (by rw[<- hv];exact rv);refine Ic (wpAny_dictSetDefault_of (hz:=dle) ki d1.mapOf (λv' e=>?_) λe=>?_)
  .rw[hw]at e;cases e;exact Ig ⟨_,rfl,v,H,I.tok _,rw',q⟩
  .rw[hw]at e;cases e
 .have hn0:valueAt vs k=none:=by
   have:=rv.isSome_eq;rw[hv]at this;cases z:valueAt vs k with
   |none=>rfl
   |some _=>rw[z]at this;cases this
  refine Ic (Eg ki d1 hn0 (λh' dd' hs=>Ig ⟨_,rfl,?_⟩) aR);have he:∃ q,h'.get? a=some q:=let ⟨q,_,_,hq,_⟩:=dd';⟨q,hq⟩;have mu:FC (H a):=by rcases ha with e|⟨e,_⟩<;>(rw[e];exact True.intro)
  have hl:(ci kvs k y).length<=sizeLine:=by have:=fy kvs k y;lia
  exact⟨y,_,kC (t':=s.toks+1) I mu hs he (uC hl y1 (r1.put k ru2) dd'),ru2,q⟩
end
section
variable {X:Cx}{tg:Expr}
end
end L2
namespace ST
open PySem PySem.SetTable
noncomputable def st (m:Nat)(h:Int):Probe:={ j:=bits h % (m+1),more:=runEnd m (bits h % (m+1))-bits h % (m+1),i:=bits h % (m+1),perturb:=bits h,dummy:=none }
noncomputable def rs (m:Nat)(p:Nat×Nat):Probe:={ j:=p.1,more:=runEnd m p.1-p.1,i:=p.1,perturb:=p.2,dummy:=none }
noncomputable def adv (m:Nat)(p:Probe):Probe:=if p.more>0 then { p with j:=p.j+1,more:=p.more-1 } else { p with j:=(leap m p.i p.perturb).1,more:=runEnd m (leap m p.i p.perturb).1-(leap m p.i p.perturb).1,i:=(leap m p.i p.perturb).1,perturb:=(leap m p.i p.perturb).2 }
theorem uE (t:SetTable)(p:Probe):t.advance p=adv t.mask p:=rfl
noncomputable def it (m:Nat):Nat->Probe->Probe
 |0,p=>p
 |n+1,p=>it m n (adv m p)
theorem dv (m:Nat):∀(a b:Nat)(p:Probe),it m (a+b) p=it m b (it m a p)
 |0,b,p=>by rw[JL];rfl
 |a+1,b,p=>by rw[Nat.succ_add];exact dv m a b (adv m p)
theorem Bw (m n:Nat)(p:Probe):it m (n+1) p=adv m (it m n p):=dv m n 1 p
structure Va (m:Nat) (p:Probe):Prop where
 i:p.i<=m
 more:p.more<=9
 j:p.j+p.more<=m
 q:p.perturb<2 ^ 64
 d:p.dummy=none
theorem qT (h:Int):bits h<2 ^ 64:=by unfold bits;have:=JM h (show(0:Int)<2 ^ 64 by decide);have h2:=Kk h (show(2 ^ 64:Int)≠0 by decide);lia
theorem jg (m i:Nat)(h:i<=m):runEnd m i-i<=9/\i+(runEnd m i-i)<=m:=by unfold runEnd;split<;>lia
theorem Va.rs (h1:p.1<=m)(h2:p.2<2 ^ 64):Va m (rs m p):=⟨h1,(jg m _ h1).1,(jg m _ h1).2,h2,rfl⟩
theorem Va.st (m:Nat)(h:Int):Va m (st m h):=by have:bits h % (m+1)<=m:=Ms (MF _ (Nat.succ_pos m));exact⟨this,(jg m _ this).1,(jg m _ this).2,qT h,rfl⟩
theorem qU (m i q:Nat):(leap m i q).1<=m:=by exact Ms (MF _ (Nat.succ_pos m))
theorem uF (m i q:Nat):(leap m i q).2=q / 32:=rfl
theorem Va.adv (v:Va m p):Va m (adv m p):=by
 unfold ST.adv;split
 .exact⟨v.i,by dsimp only;have:=v.more;lia,by dsimp only;have:=v.j;lia,v.q,v.d⟩
 .have l:=qU m p.i p.perturb;exact⟨l,(jg m _ l).1,(jg m _ l).2,by dsimp only;rw[uF];have:=v.q;have:=Nat.div_le_self p.perturb 32;lia,v.d⟩
theorem Va.it:∀{n:Nat}{p:Probe},Va m p->Va m (it m n p)
 |0,_,v=>v
 |n+1,_,v=>Va.it (n:=n) v.adv
theorem Va.jle (v:Va m p):p.j<=m:=by have:=v.j;lia
theorem kD:∀(k:Nat)(p:Probe),p.more=k->Va m p->it m (k+1) p=rs m (leap m p.i p.perturb)
 |0,p,e,v=>by show adv m p=_;unfold adv rs;rw[Ij (by lia)];obtain⟨j,mo,i,q,d⟩:=p;cases v.d;rfl
 |k+1,p,e,v=>by
  have e1:adv m p={ p with j:=p.j+1,more:=p.more-1 }:=by unfold adv;rw[Il (by lia)]
  show it m (k+1) (adv m p)=_;have:=kD k (adv m p) (by rw[e1];show p.more-1=k;lia) v.adv;rw[this,e1]
noncomputable def lp (m:Nat):Nat->Nat×Nat->Nat×Nat
 |0,p=>p
 |n+1,p=>lp m n (leap m p.1 p.2)
theorem zn (m:Nat):∀(a b:Nat)(p:Nat×Nat),lp m (a+b) p=lp m b (lp m a p)
 |0,b,p=>by rw[JL];rfl
 |a+1,b,p=>by rw[Nat.succ_add];exact zn m a b _
theorem FQ (m:Nat):∀(n:Nat)(p:Nat×Nat),(lp m n p).2=p.2 / 32 ^ n
 |0,p=>by simp[lp]
 |n+1,p=>by show(lp m n (leap m p.1 p.2)).2=_;rw[FQ m n,uF,Nat.div_div_eq_div_mul,Nat.pow_succ,Nat.mul_comm]
theorem CW (m:Nat):∀(n:Nat)(p:Nat×Nat),p.1<=m->(lp m n p).1<=m
 |0,p,h=>h
 |n+1,p,_=>CW m n _ (qU m _ _)
theorem sF:∀(L:Nat)(p:Probe),Va m p->∃ n,n<=10*(L+1)/\it m n p=rs m (lp m (L+1) (p.i,p.perturb))
 |0,p,v=>⟨p.more+1,by have:=v.more;lia,kD _ p rfl v⟩
 |L+1,p,v=>by
  have h1:=kD _ p rfl v;have v1:Va m (rs m (leap m p.i p.perturb)):=by rw[<- h1];exact v.it
  obtain⟨n,hn,e⟩:=sF L _ v1;refine⟨p.more+1+n,by have:=v.more;lia,?_⟩;rw[dv,h1,e];rfl
noncomputable def f5 (m i:Nat):Nat:=(i*5+1) % (m+1)
noncomputable def fN (m:Nat):Nat->Nat->Nat
 |0,i=>i
 |n+1,i=>fN m n (f5 m i)
noncomputable def zp (m:Nat):Nat->Nat->List Nat
 |0,_=>[]
 |n+1,i=>i::zp m n (f5 m i)
theorem sG (m:Nat):∀(n i k:Nat),k<n->(zp m n i)[k]?=some (fN m k i)
 |n+1,i,0,_=>rfl
 |n+1,i,k+1,h=>sG m n _ k (by lia)
theorem sH (m:Nat):∀(n i:Nat),(zp m n i).length=n
 |0,_=>rfl
 |n+1,i=>by show(zp m n _).length+1=_;rw[sH]
theorem qV (m:Nat):∀(a b i:Nat),fN m (a+b) i=fN m b (fN m a i)
 |0,b,i=>by rw[JL];rfl
 |a+1,b,i=>by rw[Nat.succ_add];exact qV m a b _
noncomputable def Hl (m:Nat):Bool:=((List.range (m+1)).all λj=>(zp m (m+1) 0).contains j)&&(fN m (m+1) 0==0)
def Msk (m:Nat):Prop:=m=7\/m=31\/m=127\/m=511
theorem vW (h:Msk m):Hl m=true:=by rcases h with rfl|rfl|rfl|rfl<;>decide +kernel
theorem zq (h:Msk m)(hj:j<=m):∃ n,n<=m/\fN m n 0=j:=by have:=vW h;unfold Hl at this;simp only[IV,Jq]at this;have h1:=this.1 j (IN.mpr (by lia));rw[List.contains_iff_mem,IC]at h1;obtain⟨n,hn⟩:=h1;have hl:=(Iz.mp hn).1;rw[sH]at hl;rw[sG m _ _ _ hl]at hn;exact⟨n,by lia,IM hn⟩
theorem Eh (h:Msk m)(hi:i<=m)(hj:j<=m):∃ n,n<=m/\fN m n i=j:=by
 obtain⟨a,ha,ea⟩:=zq h hi;obtain⟨b,hb,eb⟩:=zq h hj;by_cases hab:a<=b
 .refine⟨b-a,by lia,?_⟩;rw[<- ea,<- qV,show a+(b-a)=b by lia,eb]
 .refine⟨m+1+b-a,by lia,?_⟩;have z:=vW h;unfold Hl at z;simp only[IV,K_]at z;rw[<- ea,<- qV,show a+(m+1+b-a)=m+1+b by lia,qV,z.2,eb]
theorem vX (m:Nat):∀(n i:Nat),lp m n (i,0)=(fN m n i,0)
 |0,_=>rfl
 |n+1,i=>by show lp m n (leap m i 0)=_;have:leap m i 0=(f5 m i,0):=rfl;rw[this];exact vX m n _
theorem sI (h:Msk m)(hj:j<=m)(p:Nat×Nat)(h1:p.1<=m)(h2:p.2<2 ^ 64):∃ n,13<=n/\n<=m+13/\(lp m n p).1=j:=by
 have hp13:(2:Nat) ^ 64<32 ^ 13:=by decide
 have hq:(lp m 13 p).2=0:=by rw[FQ];exact Nat.div_eq_of_lt (by lia)
 obtain⟨n,hn,e⟩:=Eh h (CW m 13 p h1) hj;refine⟨13+n,by lia,by lia,?_⟩;rw[zn];have:lp m 13 p=((lp m 13 p).1,0):=by rw[<- hq]
 rw[this,vX];exact e
theorem CY (h:Msk m)(hj:j<=m)(v:Va m p):∃ n,n<10*turns m/\(it m n p).j=j:=by obtain⟨L,h1,h2,e⟩:=sI h hj (p.i,p.perturb) v.i v.q;obtain⟨n,hn,en⟩:=sF (L-1) p v;rw[show L-1+1=L by lia]at en hn;refine⟨n,by unfold turns;lia,?_⟩;rw[en];exact e
def Ris (xs:List Nat):Prop:=xs.Pairwise (·< ·)
theorem ni (hr:Ris xs.toList):∀(fuel lo hi:Nat),lo<=hi->hi<=xs.size->hi-lo<=fuel->
 (∀ i (h:i<xs.size),i<lo->xs[i]<j)->(∀ i (h:i<xs.size),hi<=i->j<=xs[i])->
 below.go xs j fuel lo hi<=xs.size/\(∀ i (h:i<xs.size),i<below.go xs j fuel lo hi->xs[i]<j)/\∀ i (h:i<xs.size),below.go xs j fuel lo hi<=i->j<=xs[i]
 |0,lo,hi,h1,h2,h3,h4,h5=>by
  have:lo=hi:=by lia
  subst this;exact⟨h2,h4,h5⟩
 |f+1,lo,hi,h1,h2,h3,h4,h5=>by
  have mono:∀ a b (ha:a<xs.size) (hb:b<xs.size),a<=b->xs[a]<=xs[b]:=by
   intro a b ha hb hab;rcases Nat.lt_or_eq_of_le hab with h|h
   .have:=IK.mp hr a b (by simpa using ha) (by simpa using hb) h;simpa using LL this
   .subst h;exact Ih _
  unfold below.go;by_cases hc:lo<hi
  .rw[Il hc];have hm:(lo+hi) / 2<xs.size:=by lia
   have eg:xs.getD ((lo+hi) / 2) j=xs[(lo+hi) / 2]:=by simp[Array.getD,hm]
   dsimp only;rw[eg];by_cases hq:xs[(lo+hi) / 2]<j
   .rw[Il hq];refine ni hr f _ _ (by lia) h2 (by lia) (λi h hi'=>?_) h5;exact Jb (mono i _ h hm (by lia)) hq
   .rw[Ij hq];refine ni hr f _ _ (by lia) (by lia) (by lia) h4 λi h hi'=>?_;exact IL (by lia) (mono _ i hm h hi')
  .rw[Ij hc];have:lo=hi:=by lia
   subst this;exact⟨h2,h4,h5⟩
theorem dR (j:Nat)(hr:Ris xs.toList):below xs j<=xs.size/\(∀ i (h:i<xs.size),i<below xs j->xs[i]<j)/\∀ i (h:i<xs.size),below xs j<=i->j<=xs[i]:=by unfold below;exact ni hr xs.size 0 xs.size (IR _) (Ih _) (by lia) (λi h z=>by lia) λi h z=>by lia
theorem zr (hr:Ris xs.toList)(h:i<xs.size):below xs xs[i]=i:=by
 obtain⟨a,b,c⟩:=dR xs[i] hr;rcases LD (below xs xs[i]) i with q|q|q
 .have hb:below xs xs[i]<xs.size:=by lia
  have h1:=c (below xs xs[i]) hb (Ih _);have h2:=IK.mp hr _ i (by simpa using hb) (by simpa using h) q;simp at h2;lia
 .exact q
 .have:=b i h q;lia
theorem pV (j:Nat):has #[] j=false:=rfl
structure Tb (t:SetTable):Prop where
 msk:Msk t.mask
 dum:t.dummies=#[]
 ris:Ris t.place.toList
 le:∀ j∈t.place.toList,j<=t.mask
theorem pW (h:Tb t)(hi:i<t.place.size):t.slot t.place[i]=.live i:=by unfold slot;dsimp only;rw[zr h.ris hi];rw[Il];simp[hi]
theorem uG (h:Tb t)(hj:j∉t.place.toList):t.slot j=.empty:=by
 unfold slot;dsimp only;rw[Ij,h.dum,pV]
 .rfl
 .intro e;have e:t.place[below t.place j]?=some j:=by simpa using e
  obtain⟨h1,h2⟩:=JJ.mp e;exact hj (by rw[<- h2];simp)
theorem uH (h:Tb t)(j:Nat):(j∉t.place.toList/\t.slot j=.empty)\/∃ i,∃ hi:i<t.place.size,t.place[i]=j/\t.slot j=.live i:=by
 by_cases hj:j∈t.place.toList
 .right;obtain⟨i,hi,e⟩:=Le.mp hj;have hi':i<t.place.size:=by simpa using hi
  have e':t.place[i]=j:=by simpa using e
  exact⟨i,hi',e',by rw[<- e'];exact pW h hi'⟩
 .exact .inl ⟨hj,uG h hj⟩
def Lv (t:SetTable)(j:Nat):Prop:=j∈t.place.toList
inductive PrSpec (t:SetTable) (ha:Nat->Int) (h:Int) (p:Probe):Option Met->Prop
 |em (n:Nat) (e:¬ Lv t (it t.mask n p).j) (b:∀ k,k<n->∃ i,∃ hi:i<t.place.size,t.place[i]=(it t.mask k p).j/\ha i≠h):PrSpec t ha h p (some (.empty (it t.mask n p).j none))
 |ca (n i:Nat) (hi:i<t.place.size) (e:t.place[i]=(it t.mask n p).j) (q:ha i=h) (b:∀ k,k<n->∃ i,∃ hi:i<t.place.size,t.place[i]=(it t.mask k p).j/\ha i≠h) :
  PrSpec t ha h p (some (.candidate (it t.mask n p).j i (it t.mask (n+1) p)))
theorem sJ (h:Tb t)(ha:Nat->Int)(x:Int):∀(fuel:Nat)(p:Probe),Va t.mask p->(∃ n,n<fuel/\¬ Lv t (it t.mask n p).j)->PrSpec t ha x p (probe.go t ha x fuel p)
 |0,p,v,⟨n,hn,_⟩=>by lia
 |f+1,p,v,⟨n,hn,he⟩=>by
  unfold probe.go;rcases uH h p.j with⟨h1,e⟩|⟨i,hi,h1,e⟩
  .rw[e];dsimp only;have:=PrSpec.em (t:=t) (ha:=ha) (h:=x) (p:=p) 0 h1 λk hk=>by lia
   rw[v.d];exact this
  .rw[e];dsimp only;by_cases hq:ha i=x
   .rw[Il (by simpa using hq)];exact PrSpec.ca (t:=t) (ha:=ha) (h:=x) (p:=p) 0 i hi h1 hq λk hk=>by lia
   .rw[Ij (by simpa using hq),uE];have hn0:n≠0:=by rintro rfl;exact he (by show p.j∈t.place.toList;rw[<- h1];simp)
    have ih:=sJ h ha x f (adv t.mask p) v.adv ⟨n-1,by lia,by
     have:it t.mask (n-1) (adv t.mask p)=it t.mask n p:=by show _=it t.mask n p;rw[show n=(n-1)+1 by lia];rfl
     rw[this];exact he⟩
    have shift:∀{nn:Nat},(∀ k,k<nn->∃ i,∃ hi:i<t.place.size,t.place[i]=(it t.mask k (adv t.mask p)).j/\ha i≠x)->∀ k,k<nn+1->∃ i,∃ hi:i<t.place.size,t.place[i]=(it t.mask k p).j/\ha i≠x:=by
     intro nn b k hk;cases k with
     |zero=>exact⟨i,hi,h1,hq⟩
     |succ k=>exact b k (by lia)
    generalize probe.go t ha x f (adv t.mask p)=rr at ih;cases ih with
    |em n' e' b=>exact PrSpec.em (t:=t) (ha:=ha) (h:=x) (p:=p) (n'+1) e' (shift b)
    |ca n' i' hi' e' q' b=>exact PrSpec.ca (t:=t) (ha:=ha) (h:=x) (p:=p) (n'+1) i' hi' e' q' (shift b)
theorem nu:∀(l1 l2:List Nat),l1.Nodup->(∀ x∈l1,x∈l2)->l1.length<=l2.length
 | [],_,_,_=>IR _
 |a::l1,l2,nd,hs=>by
  have ha:a∈l2:=hs a (Iq ..);have ih:=nu l1 (l2.erase a) (IS.mp nd).2 λx hx=>by have:x≠a:=λe=>(IS.mp nd).1 (e▸hx);exact(L7 this).mpr (hs x (Ii _ hx))
  rw[Lo ha]at ih;have:0<l2.length:=K1 ha;simp only[Iw];lia
theorem nv (h:Tb t)(hs:t.place.size<=t.mask):∃ j,j<=t.mask/\¬ Lv t j:=by refine JC λhn=>?_;have hall:∀ j,j<=t.mask->j∈t.place.toList:=λj hj=>JC λz=>hn ⟨j,hj,z⟩;have:=nu (List.range (t.mask+1)) t.place.toList Kz λj hj=>hall j (by have:=IN.mp hj;lia);simp at this;lia
theorem uI (h:Tb t)(hs:t.place.size<=t.mask)(ha:Nat->Int)(x:Int)(v:Va t.mask p):PrSpec t ha x p (t.probe ha x p):=by obtain⟨j,hj,hn⟩:=nv h hs;obtain⟨n,h1,h2⟩:=CY h.msk hj v;unfold probe;exact sJ h ha x _ p v ⟨n,h1,by rw[h2];exact hn⟩
def Rea (m:Nat)(lv:Nat->Prop)(h:Int)(j:Nat):Prop:=∃ n,(it m n (st m h)).j=j/\∀ k,k<n->lv (it m k (st m h)).j
theorem Rea.mono (r:Rea m lv h j)(s:∀ j,lv j->lv' j):Rea m lv' h j:=let ⟨n,e,b⟩:=r;⟨n,e,λk hk=>s _ (b k hk)⟩
structure Tbl {V:Type} (t:SetTable) (es:Array (Int×V)):Prop where
 tb:Tb t
 len:t.place.size=es.size
 rea:∀ q∈t.place.toList.zip es.toList,Rea t.mask (·∈ t.place.toList) q.2.1 q.1
def pX (t:SetTable):Prop:=t.place.size*5<t.mask*3
theorem insertAt_toList {α:Type}(xs:Array α)(p:Nat)(x:α)(h:p<=xs.size):(insertAt xs p x).toList=xs.toList.take p++x::xs.toList.drop p:=by unfold insertAt;simp[Array.toList_extract,List.extract_eq_drop_take,Jo]
theorem insertAt_size {α:Type}(xs:Array α)(p:Nat)(x:α)(h:p<=xs.size):(insertAt xs p x).size=xs.size+1:=by rw[<- Jx,insertAt_toList xs p x h];simp;lia
theorem qW (h:Tb t)(j:Nat):(t.put j).1={ t with place:=insertAt t.place (below t.place j) j }:=by unfold put;dsimp only;rw[h.dum];have:has #[] j=false:=pV j;rw[Ij (by rw[this];simp),<- h.dum]
theorem vY (t:SetTable)(j:Nat):(t.put j).2=below t.place j:=rfl
theorem uJ {α β:Type}(xs:List α)(ys:List β)(p:Nat)(x:α)(y:β)(h:xs.length=ys.length):(xs.take p++x::xs.drop p).zip (ys.take p++y::ys.drop p)=(xs.zip ys).take p++(x,y)::(xs.zip ys).drop p:=by rw[List.zip_append (by simp[h]),List.zip_cons_cons];simp[List.zip,List.take_zipWith,List.drop_zipWith]
theorem Ei {V:Type}{t:SetTable}{es:Array (Int×V)}(h:Tbl t es){j:Nat}(hj:j∉t.place.toList)(hjm:j<=t.mask){hh:Int}{v:V}(r:Rea t.mask (·∈ t.place.toList) hh j) :
 Tbl (t.put j).1 (insertAt es (t.put j).2 (hh,v))/\(t.put j).1.mask=t.mask/\(t.put j).1.place.size=t.place.size+1:=by
 obtain⟨a,b,c⟩:=dR j h.tb.ris;rw[qW h.tb,vY];have ae:below t.place j<=es.size:=by rw[<- h.len];exact a
 have el:=insertAt_toList t.place _ j a;have ee:=insertAt_toList es (below t.place j) (hh,v) ae;have mem:∀ k,k∈(insertAt t.place (below t.place j) j).toList↔k=j\/k∈t.place.toList:=by
  intro k;rw[el,IG,Ip];constructor
  .rintro (z|rfl|z)
   .exact .inr (JK z)
   .exact .inl rfl
   .exact .inr (KG z)
  .rintro (rfl|z)
   .exact .inr (.inl rfl)
   .rw[<- KA (below t.place j) t.place.toList,IG]at z;exact z.elim .inl λz=>.inr (.inr z)
 refine⟨⟨⟨h.tb.msk,h.tb.dum,?_,λk hk=>?_⟩,?_,λq hq=>?_⟩,rfl,insertAt_size _ _ _ a⟩
 .show Ris (insertAt t.place (below t.place j) j).toList;rw[el];unfold Ris;rw[L8];refine⟨h.tb.ris.sublist (List.take_sublist _ _),?_,?_⟩
  .rw[Kp];refine⟨λk hk=>?_,h.tb.ris.sublist (List.drop_sublist _ _)⟩;obtain⟨i,hi,e⟩:=Le.mp hk;rw[KR]at hi;have hi2:below t.place j+i<t.place.size:=by simp at hi;lia
   have e2:t.place[below t.place j+i]=k:=by rw[<- e];simp
   have:=c _ hi2 (by lia);rw[e2]at this;have:k≠j:=λz=>hj (by rw[<- z,<- e2];simp);lia
  .intro k hk l hl;obtain⟨i,hi,e⟩:=Le.mp hk;rw[J8]at hi;have hi2:i<t.place.size:=by simp at hi;lia
   have e2:t.place[i]=k:=by rw[<- e];simp
   have l1:=b i hi2 (by lia);rw[e2]at l1;rw[Ip]at hl;rcases hl with rfl|hl
   .exact l1
   .obtain⟨i',hi',e'⟩:=Le.mp hl;rw[KR]at hi';have hi3:below t.place j+i'<t.place.size:=by simp at hi';lia
    have e3:t.place[below t.place j+i']=l:=by rw[<- e'];simp
    have:=c _ hi3 (by lia);rw[e3]at this;lia
 .rcases (mem k).mp hk with rfl|z
  .exact hjm
  .exact h.tb.le k z
 .show(insertAt t.place (below t.place j) j).size=_;rw[insertAt_size _ _ _ a,insertAt_size _ _ _ ae,h.len]
 .have hq:q∈(insertAt t.place (below t.place j) j).toList.zip (insertAt es (below t.place j) (hh,v)).toList:=hq;rw[el,ee,uJ _ _ _ _ _ (by simpa using h.len)]at hq;have sub:∀ k,k∈t.place.toList->k∈(insertAt t.place (below t.place j) j).toList:=λk hk=>(mem k).mpr (.inr hk);rw[IG,Ip]at hq;rcases hq with z|rfl|z
  .exact(h.rea q (JK z)).mono sub
  .exact r.mono sub
  .exact(h.rea q (KG z)).mono sub
def ow (owner:Array (Option Nat))(j:Nat):Prop:=∃ k,owner[j]?=some (some k)
theorem qX (i q:Nat):∀ k,k<=runEnd m i-i->it m k (rs m (i,q))={ j:=i+k,more:=runEnd m i-i-k,i:=i,perturb:=q,dummy:=none }
 |0,_=>rfl
 |k+1,h=>by rw[Bw,qX i q k (by lia)];unfold adv;rw[Il (by dsimp only;lia)];dsimp only;congr 1
theorem pY (hs:owner.size=m+1):∀(fuel i q:Nat),i<=m->q<2 ^ 64->(∃ L,L<fuel/\¬ ow owner (lp m L (i,q)).1)->
 ∃ j,layClean.free m owner fuel i q=some j/\j<=m/\¬ ow owner j/\∃ n,(it m n (rs m (i,q))).j=j/\∀ k,k<n->ow owner (it m k (rs m (i,q))).j
 |0,i,q,_,_,⟨L,h,_⟩=>by lia
 |f+1,i,q,hi,hq,⟨L,hL,hn⟩=>by
  obtain⟨r1,r2⟩:=jg m i hi;have hre:runEnd m i+1-i=(runEnd m i-i)+1:=by
   have:i<=runEnd m i:=by unfold runEnd;split<;>lia
   lia
  have isn:∀ k,k<=runEnd m i-i->((owner.getD (i+k) (some 0)).isNone=true↔¬ ow owner (i+k)):=by
   intro k hk;have hb:i+k<owner.size:=by lia
   have e:owner[i+k]?=some owner[i+k]:=by simp[hb]
   have e2:owner.getD (i+k) (some 0)=owner[i+k]:=by simp[Array.getD,hb]
   unfold ow;rw[e2,e];cases owner[i+k]<;>simp
  unfold layClean.free;cases hf:(List.range (runEnd m i+1-i)).find? λk=>(owner.getD (i+k) (some 0)).isNone with
  |some k=>
   dsimp only;rw[List.find?_range_eq_some]at hf;obtain⟨h1,h2,h3⟩:=hf;have h2:=IN.mp h2;have hk:k<=runEnd m i-i:=by lia
   refine⟨i+k,rfl,by lia,(isn k hk).mp h1,k,by rw[qX i q k hk],λk' hk'=>?_⟩;rw[qX i q k' (by lia)];have:=h3 k' hk';refine JC λz=>?_;rw[(isn k' (by lia)).mpr z]at this;simp at this
  |none=>
   dsimp only;rw[List.find?_range_eq_none]at hf;have hrun:∀ k,k<=runEnd m i-i->ow owner (i+k):=by intro k hk;refine JC λz=>?_;have:=hf k (by lia);rw[(isn k hk).mpr z]at this;simp at this
   have hL0:L≠0:=by rintro rfl;exact hn (hrun 0 (IR _))
   have ih:=pY hs f (leap m i q).1 (leap m i q).2 (qU m i q) (by rw[uF];have:=Nat.div_le_self q 32;lia) ⟨L-1,by lia,by
    have:lp m L (i,q)=lp m (L-1) (leap m i q):=by rw[show L=(L-1)+1 by lia];rfl
    rw[this]at hn;exact hn⟩
   obtain⟨j,e,hj,hnj,n,en,hb⟩:=ih;refine⟨j,e,hj,hnj,runEnd m i-i+1+n,?_,λk hk=>?_⟩
   .rw[dv,kD (runEnd m i-i) (rs m (i,q)) rfl (Va.rs hi hq)];exact en
   .by_cases hk2:k<=runEnd m i-i
    .rw[qX i q k hk2];exact hrun k hk2
    .have:it m k (rs m (i,q))=it m (k-(runEnd m i-i+1)) (rs m (leap m i q)):=by rw[show k=(runEnd m i-i+1)+(k-(runEnd m i-i+1)) by lia,dv,kD (runEnd m i-i) (rs m (i,q)) rfl (Va.rs hi hq)];congr 1;lia
     rw[this];exact hb _ (by lia)
structure Own (m:Nat) (hs:List Int) (owner:Array (Option Nat)):Prop where
 size:owner.size=m+1
 all:∀ k:Nat,k<hs.length->∃ j:Nat,owner[j]?=some (some k)
 lt:∀ j k:Nat,owner[j]?=some (some k)->k<hs.length
 rea:∀(j k:Nat)(h:Int),owner[j]?=some (some k)->hs[k]?=some h->Rea m (ow owner) h j
 inj:∀ j j' k:Nat,owner[j]?=some (some k)->owner[j']?=some (some k)->j=j'
theorem Own.spare (o:Own m hs owner)(hl:hs.length<=m):∃ j,j<=m/\¬ ow owner j:=by
 refine JC λhn=>?_;have hall:∀ j,j<=m->ow owner j:=λj hj=>JC λz=>hn ⟨j,hj,z⟩
 let g:Nat->Nat:=λj=>((owner[j]?).getD none).getD 0
 have hg:∀ j,j<=m->owner[j]?=some (some (g j)):=λj hj=>by obtain⟨k,hk⟩:=hall j hj;show owner[j]?=some (some (((owner[j]?).getD none).getD 0));rw[hk];rfl
 have nd:((List.range (m+1)).map g).Nodup:=by unfold List.Nodup;rw[Ke];have:=Kz (n:=m+1);refine Kq (λ{a b} ha hb hab e=>hab ?_) this;have ha:=IN.mp ha;have hb:=IN.mp hb;exact o.inj a b (g a) (hg a (by lia)) (by rw[e];exact hg b (by lia))
 have:=nu _ (List.range hs.length) nd λx hx=>by obtain⟨j,hj,rfl⟩:=Ir.mp hx;have hj:=IN.mp hj;exact IN.mpr (o.lt j _ (hg j (by lia)))
 simp at this;lia
theorem zt (hm:Msk m)(o:Own m hs owner)(hl:hs.length<=m)(h:Int) :
 ∃ j,layClean.free m owner (turns m) (bits h % (m+1)) (bits h)=some j/\Own m (hs++[h]) (owner.setIfInBounds j (some hs.length)):=by
 obtain⟨j0,hj0,hn0⟩:=o.spare hl;have hi:bits h % (m+1)<=m:=Ms (MF _ (Nat.succ_pos m));obtain⟨L,l1,l2,el⟩:=sI hm hj0 (bits h % (m+1),bits h) hi (qT h);obtain⟨j,e,hj,hnj,n,en,hb⟩:=pY o.size (turns m) _ _ hi (qT h) ⟨L,by unfold turns;lia,by rw[el];exact hn0⟩;refine⟨j,e,?_⟩;have hjb:j<owner.size:=by rw[o.size];lia
 have get:∀ i,(owner.setIfInBounds j (some hs.length))[i]?=if i=j then some (some hs.length) else owner[i]?:=by
  intro i;rw[Array.getElem?_setIfInBounds];by_cases hij:j=i
  .subst hij;rw[Il rfl,Il hjb,Il rfl]
  .rw[Ij hij,Ij (λz=>hij z.symm)]
 have sub:∀ i,ow owner i->ow (owner.setIfInBounds j (some hs.length)) i:=by
  rintro i ⟨k,hk⟩;by_cases hij:i=j
  .exact⟨_,by rw[get,Il hij]⟩
  .exact⟨k,by rw[get,Ij hij];exact hk⟩
 have inv:∀ i k,(owner.setIfInBounds j (some hs.length))[i]?=some (some k)->(i=j/\k=hs.length)\/(i≠j/\owner[i]?=some (some k)):=by
  intro i k hk;rw[get]at hk;by_cases hij:i=j
  .rw[Il hij]at hk;exact .inl ⟨hij,by simpa using hk.symm⟩
  .rw[Ij hij]at hk;exact .inr ⟨hij,hk⟩
 refine⟨by rw[Array.size_setIfInBounds,o.size],λk hk=>?_,λi k hk=>?_,λi k h' hk hh=>?_,λi i' k h1 h2=>?_⟩
 .rw[ID,K6]at hk;by_cases hkl:k=hs.length
  .exact⟨j,by rw[get,Il rfl,hkl]⟩
  .obtain⟨i,hi⟩:=o.all k (by lia);refine⟨i,?_⟩;rw[get,Ij]
   .exact hi
   .rintro rfl;exact hnj ⟨k,hi⟩
 .rw[ID,K6];rcases inv i k hk with⟨_,rfl⟩|⟨_,z⟩
  .lia
  .have:=o.lt i k z;lia
 .rcases inv i k hk with⟨rfl,rfl⟩|⟨hij,z⟩
  .rw[I0 (Ih _),Nat.sub_self]at hh;cases hh;exact⟨n,en,λk hk=>sub _ (hb k hk)⟩
  .have hkl:=o.lt i k z;rw[JQ hkl]at hh;exact(o.rea i k h' z hh).mono sub
 .rcases inv i k h1 with⟨rfl,rfl⟩|⟨hij,z⟩<;>rcases inv i' _ h2 with⟨rfl,e'⟩|⟨hij',z'⟩
  .rfl
  .have:=o.lt _ _ z';lia
  .have:=o.lt _ _ z;lia
  .exact o.inj i i' k z z'
theorem zu (hm:Msk m):∀(suf pre:List Int)(owner:Array (Option Nat)),Own m pre owner->pre.length+suf.length<=m->
 ∃ owner',suf.foldl (λacc h=>do
  let (owner,k) <- acc
  let j <- layClean.free m owner (turns m) (bits h % (m+1)) (bits h)
  pure (owner.setIfInBounds j (some k),k+1)) (some (owner,pre.length))=some (owner',pre.length+suf.length)/\Own m (pre++suf) owner'
 | [],pre,owner,o,_=>⟨owner,rfl,by rw[Js];exact o⟩
 |h::suf,pre,owner,o,hl=>by simp only[Iw]at hl;obtain⟨j,e,o'⟩:=zt hm o (by lia) h;obtain⟨owner',e2,o2⟩:=zu hm suf (pre++[h]) _ o' (by simp;lia);refine⟨owner',?_,by rw[Kf]at o2;exact o2⟩;rw[J2];show List.foldl _ ((layClean.free m owner (turns m) (bits h % (m+1)) (bits h)).bind λj=>some (owner.setIfInBounds j (some pre.length),pre.length+1)) suf=_;rw[e];show List.foldl _ (some (owner.setIfInBounds j (some pre.length),pre.length+1)) suf=_;rw[ID,K6]at e2;rw[e2];simp only[Iw];congr 2;lia
theorem Ej (hm:Msk m)(hs:Array Int)(hl:hs.size<=m):∃ owner,layClean m hs=some owner/\Own m hs.toList owner:=by
 have o0:Own m [] (Array.replicate (m+1) none):=by
  have no:∀ j k:Nat,(Array.replicate (m+1) (none:Option Nat))[j]?=some (some k)->False:=by intro j k h;rw[Array.getElem?_replicate]at h;split at h<;>simp at h
  exact⟨by simp,λk hk=>by simp at hk,λj k h=>(no j k h).elim,λj k _ h=>(no j k h).elim,λj _ k h=>(no j k h).elim⟩
 obtain⟨owner,e,o⟩:=zu hm hs.toList [] _ o0 (by simpa using hl);refine⟨owner,?_,by simpa using o⟩;unfold layClean;rw[<- Array.foldl_toList];rw[Jr]at e;rw[e];rfl
theorem zv {α:Type}(es:Array α):∀(l:List Nat),(∀ k∈l,k<es.size)->(l.filterMap (es[·]?)).length=l.length/\∀ i:Nat,(l.filterMap (es[·]?))[i]?=(l[i]?).bind (es[·]?)
 | [],_=>⟨rfl,λi=>by simp⟩
 |k::l,h=>by
  have hk:k<es.size:=h k (Iq ..);have e:es[k]?=some es[k]:=by simp[hk]
  obtain⟨a,b⟩:=zv es l λk hk=>h k (Ii _ hk);rw[List.filterMap_cons_some e];refine⟨by simp[a],λi=>?_⟩;cases i with
  |zero=>simp[e]
  |succ i=>simpa using b i
theorem nw (o:Nat->Option Nat):∀ l:List Nat,(l.filterMap λj=>(o j).map (j,·)).map Prod.fst=l.filter λj=>(o j).isSome
 | []=>rfl
 |j::l=>by
  rw[Lj,KS];cases e:o j with
  |none=>simpa using nw o l
  |some k=>simpa using nw o l
theorem zw (owner:Array (Option Nat))(m:Nat)(hs:owner.size=m+1)(j k:Nat):(j,k)∈((List.range (m+1)).filterMap λj=>(owner.getD j none).map (j,·))↔owner[j]?=some (some k):=by
 rw[Lq];constructor
 .rintro⟨a,h1,h2⟩;have h1:=IN.mp h1;have hb:a<owner.size:=by lia
  have e:owner.getD a none=owner[a]:=by simp[Array.getD,hb]
  rw[e]at h2;obtain⟨k',e1,e2⟩:=JO.mp h2;cases e2;rw[show owner[j]?=some owner[j] by simp[hb],e1]
 .intro h;obtain⟨hb,e⟩:=JJ.mp h;refine⟨j,IN.mpr (by lia),?_⟩;have e2:owner.getD j none=owner[j]:=by simp[Array.getD,hb]
  rw[e2,e];rfl
structure Laid {V:Type} (m:Nat) (es es':Array (Int×V)) (t':SetTable):Prop where
 tbl:Tbl t' es'
 mask:t'.mask=m
 size:es'.size=es.size
 mem:∀ x,x∈es'.toList↔x∈es.toList
 pw:∀ R:Int×V->Int×V->Prop,(∀ x y,R x y->R y x)->es.toList.Pairwise R->es'.toList.Pairwise R
theorem zx {V:Type}{m:Nat}(hm:Msk m)(es:Array (Int×V))(hl:es.size<=m)(finger moves:Nat)(led plain:Bool) :
 ∃ t' order,laid m finger moves led plain (es.map (·.1))=some (t',order)/\Laid m es (order.filterMap (es[·]?)) t'/\t'.led=led/\t'.plain=plain/\order.toList.Perm (List.range es.size):=by
 obtain⟨owner,eo,o⟩:=Ej hm (es.map (·.1)) (by simpa using hl);have len:(es.map (·.1)).toList.length=es.size:=by simp
 let live:=(List.range (m+1)).filterMap λj=>(owner.getD j none).map (j,·)
 have lm:∀ j k,(j,k)∈live↔owner[j]?=some (some k):=zw owner m o.size;have ris:Ris (live.map Prod.fst):=by show Ris (((List.range (m+1)).filterMap λj=>(owner.getD j none).map (j,·)).map Prod.fst);rw[nw];exact List.pairwise_lt_range.sublist (List.filter_sublist)
 have ndS:(live.map Prod.snd).Nodup:=by unfold List.Nodup;unfold Ris at ris;rw[Ke]at ris ⊢;refine Kq (λ{a b} ha hb hab e=>?_) ris;have h1:=(lm a.1 a.2).mp ha;have h2:=(lm b.1 b.2).mp hb;rw[<- e]at h2;have:=o.inj _ _ _ h1 h2;lia
 have lt:∀ k∈live.map Prod.snd,k<es.size:=by
  intro k hk;obtain⟨p,hp,rfl⟩:=Ir.mp hk;have:=o.lt p.1 p.2 ((lm p.1 p.2).mp hp)
  rwa [len]at this
 have all:∀ k,k<es.size->k∈live.map Prod.snd:=by intro k hk;obtain⟨j,hj⟩:=o.all k (by rw[len];exact hk);exact Ir.mpr ⟨(j,k),(lm j k).mpr hj,rfl⟩
 have ll:live.length=es.size:=by have a:=nu _ (List.range es.size) ndS λk hk=>IN.mpr (lt k hk);have b:=nu (List.range es.size) (live.map Prod.snd) Kz λk hk=>all k (IN.mp hk);simp at a b;lia
 obtain⟨f1,f2⟩:=zv es (live.map Prod.snd) lt;refine⟨{ mask:=m,place:=(live.map (·.1)).toArray,dummies:=#[],finger,led,moves,plain },(live.map (·.2)).toArray,?_,?_,rfl,rfl,(List.perm_ext_iff_of_nodup ndS Kz).mpr λk=>⟨λh=>IN.mpr (lt k h),λh=>all k (IN.mp h)⟩⟩
 .unfold laid;rw[eo];rfl
 .have el:((live.map (·.2)).toArray.filterMap (es[·]?)).toList=(live.map Prod.snd).filterMap (es[·]?):=by simp
  have es':((live.map (·.2)).toArray.filterMap (es[·]?)).size=es.size:=by rw[<- Jx,el,f1,Ik,ll]
  refine⟨⟨⟨hm,rfl,by simpa using ris,λj hj=>?_⟩,?_,λq hq=>?_⟩,rfl,es',λx=>?_,λR sy pw=>?_⟩
  .have hj:j∈live.map Prod.fst:=by simpa using hj
   obtain⟨p,hp,rfl⟩:=Ir.mp hj;obtain⟨hb,_⟩:=JJ.mp ((lm p.1 p.2).mp hp);show p.1<=m;have:=o.size;lia
  .rw[es'];simpa using ll
  .have hq:q∈(live.map Prod.fst).zip ((live.map Prod.snd).filterMap (es[·]?)):=by rw[el]at hq;simpa using hq
   obtain⟨i,hi⟩:=IC.mp hq;rw[Lg,f2]at hi;obtain⟨h1,h2⟩:=hi;rw[IH]at h1 h2;obtain⟨p,hp,e1⟩:=JO.mp h1;rw[hp]at h2;have h2:es[p.2]?=some q.2:=h2;have ho:=(lm p.1 p.2).mp (IC.mpr ⟨i,hp⟩);have hh:(es.map (·.1)).toList[p.2]?=some q.2.1:=by rw[IW,Array.getElem?_map,h2];rfl
   rw[<- e1];refine(o.rea p.1 p.2 q.2.1 ho hh).mono λj ⟨k,hk⟩=>?_;show j∈(live.map (·.1)).toArray.toList;simpa using ⟨k,(lm j k).mpr hk⟩
  .rw[el];constructor
   .intro hx;obtain⟨k,_,h2⟩:=Lq.mp hx;exact IC.mpr ⟨k,by rw[IW];exact h2⟩
   .intro hx;obtain⟨k,hk⟩:=IC.mp hx;have hb:k<es.size:=by have:=(Iz.mp hk).1;simpa using this
    exact Lq.mpr ⟨k,all k hb,by rw[IW]at hk;exact hk⟩
  .rw[el];rw[IK];intro a b ha hb hab;have ea:=f2 a;have eb:=f2 b;rw[Jd ha]at ea;rw[Jd hb]at eb;rw[f1]at ha hb;rw[Jd ha]at ea;rw[Jd hb]at eb;have hne:(live.map Prod.snd)[a]≠(live.map Prod.snd)[b]:=IK.mp ndS a b ha hb hab;have ea:es[(live.map Prod.snd)[a]]?=some _:=ea.symm;have eb:es[(live.map Prod.snd)[b]]?=some _:=eb.symm;obtain⟨ka,va⟩:=JJ.mp ea;obtain⟨kb,vb⟩:=JJ.mp eb;have P:=IK.mp pw;rw[<- va,<- vb];rcases Mm hne with z|z
   .simpa using P _ _ (by simpa using ka) (by simpa using kb) z
   .refine sy _ _ ?_;simpa using P _ _ (by simpa using kb) (by simpa using ka) z
theorem Bx {V:Type}{m:Nat}(hm:Msk m)(es:Array (Int×V))(hl:es.size<=m)(finger moves:Nat)(led plain:Bool) :
 ∃ t' order,laid m finger moves led plain (es.map (·.1))=some (t',order)/\Laid m es (order.filterMap (es[·]?)) t'/\t'.led=led/\t'.plain=plain:=by
 obtain⟨t',order,a,b,c,d,_⟩:=zx hm es hl finger moves led plain;exact⟨t',order,a,b,c,d⟩
end ST
namespace ST
open PySem PySem.W PyProof.Rows
structure Lt (N:Nat) (lt:Nat->Nat->Bool):Prop where
 irr:∀ i,lt i i=false
 tr:∀ i j k,lt i j=true->lt j k=true->lt i k=true
 tot:∀ i j,i<N->j<N->i≠j->lt i j=true\/lt j i=true
noncomputable abbrev HN:=Nat->Nat->(Bool->MH->Prop)->MH->Prop
def CZ (N:Nat)(lt:Nat->Nat->Bool)(cmp:HN)(s:MH):Prop:=∀ i j C,i<N->j<N->C (lt i j) s->cmp i j C s
def Pm (N:Nat)(p:Array Nat):Prop:=p.toList.Perm (List.range N)
noncomputable def bN (p:Array Nat)(i:Nat):Nat:=p.getD i 0
section
variable {N:Nat}{lt:Nat->Nat->Bool}{cmp:HN}{s:MH}{p:Array Nat}
theorem Pm.size (h:Pm N p):p.size=N:=by have:=h.length_eq;simpa using this
theorem Pm.perm (h:Pm N p)(q:p'.Perm p):Pm N p':=(Array.perm_iff_toList_perm.mp q).trans h
theorem Ek (hi:i<p.size):p[i]?=some (bN p i):=by unfold bN;simp[Array.getD,hi]
theorem sK (h:p'[i]?=p[k]?):bN p' i=bN p k:=by unfold bN;rw[Array.getD_eq_getD_getElem?,Array.getD_eq_getD_getElem?,h]
theorem Pm.bd (h:Pm N p)(hi:i<N):bN p i<N:=by
 have hi':i<p.size:=by rw[h.size];exact hi
 have:bN p i∈p.toList:=IC.mpr ⟨i,by rw[IW];exact Ek hi'⟩;exact IN.mp (h.mem_iff.mp this)
theorem Pm.ne (h:Pm N p)(hi:i<N)(hj:j<N)(e:i≠j):bN p i≠bN p j:=by
 have nd:p.toList.Nodup:=h.nodup_iff.mpr Kz;have hi':i<p.size:=by rw[h.size];exact hi
 have hj':j<p.size:=by rw[h.size];exact hj
 have gi:p.toList[i]'(by simpa using hi')=bN p i:=by simp[bN,Array.getD,hi']
 have gj:p.toList[j]'(by simpa using hj')=bN p j:=by simp[bN,Array.getD,hj']
 intro z;rcases Mm e with q|q
 .exact IK.mp nd i j (by simpa using hi') (by simpa using hj') q (by rw[gi,gj];exact z)
 .exact IK.mp nd j i (by simpa using hj') (by simpa using hi') q (by rw[gi,gj];exact z.symm)
def So (lt:Nat->Nat->Bool)(p:Array Nat)(k:Nat):Prop:=∀ a b,a<b->b<k->lt (bN p a) (bN p b)=true
def De (lt:Nat->Nat->Bool)(p:Array Nat)(k:Nat):Prop:=∀ a b,a<b->b<k->lt (bN p b) (bN p a)=true
theorem Lt.of_not (o:Lt N lt)(hi:i<N)(hj:j<N)(e:i≠j)(h:lt i j=false):lt j i=true:=by
 rcases o.tot i j hi hj e with z|z
 .rw[h]at z;cases z
 .exact z
theorem So.snoc (o:Lt N lt)(h:So lt p k)(hk:1<=k)(l:lt (bN p (k-1)) (bN p k)=true):So lt p (k+1):=by
 intro a b hab hb;by_cases e:b=k
 .subst e;by_cases e2:a=b-1
  .rw[e2];exact l
  .exact o.tr _ _ _ (h a (b-1) (by lia) (by lia)) l
 .exact h a b hab (by lia)
theorem De.snoc (o:Lt N lt)(h:De lt p k)(hk:1<=k)(l:lt (bN p k) (bN p (k-1))=true):De lt p (k+1):=by
 intro a b hab hb;by_cases e:b=k
 .subst e;by_cases e2:a=b-1
  .rw[e2];exact l
  .exact o.tr _ _ _ l (h a (b-1) (by lia) (by lia))
 .exact h a b hab (by lia)
theorem uK (o:Lt N lt)(an:CZ N lt cmp s)(pm:Pm N p):∀(f n:Nat){Q:Nat->MH->Prop},1<=n->n+f=N->So lt p n->
 (∀ m,n<=m->m<=N->So lt p m->(m<N->lt (bN p m) (bN p (m-1))=true)->Q m s)->(kas_asc p f n).kasWp cmp Q s
 |0,n,Q,h1,h2,h3,k=>k n (Ih _) (by lia) h3 λz=>by lia
 |f+1,n,Q,h1,h2,h3,k=>by
  refine an _ _ _ (pm.bd (by lia)) (pm.bd (by lia)) ?_;show KasT.kasWp cmp (if lt (bN p n) (bN p (n-1))=true then .ret n else kas_asc p f (n+1)) Q s;by_cases c:lt (bN p n) (bN p (n-1))=true
  .rw[Il c];exact k n (Ih _) (by lia) h3 λ_=>c
  .rw[Ij c];have c:lt (bN p n) (bN p (n-1))=false:=by simpa using c
   exact uK o an pm f (n+1) (by lia) (by lia) (h3.snoc o h1 (o.of_not (pm.bd (by lia)) (pm.bd (by lia)) (pm.ne (by lia) (by lia) (by lia)) c)) λm a b c d=>k m (by lia) b c d
theorem vZ (o:Lt N lt)(an:CZ N lt cmp s)(pm:Pm N p):∀(f n:Nat){Q:Array Nat×Nat×Nat->MH->Prop},1<=n->n+f=N->De lt p n->
 (∀ m,n<=m->m<=N->De lt p m->Q (p,m,0) s)->(kas_desc f p n 0).kasWp cmp Q s
 |0,n,Q,h1,h2,h3,k=>k n (Ih _) (by lia) h3
 |f+1,n,Q,h1,h2,h3,k=>by
  refine an _ _ _ (pm.bd (by lia)) (pm.bd (by lia)) ?_;show KasT.kasWp cmp (if lt (bN p n) (bN p (n-1))=true then (if 0>0 then kas_desc f (kas_rev p (n-(0+1)) n) (n+1) 0 else kas_desc f p (n+1) 0)
   else .ask (bN p (n-1)) (bN p n) λd=>if d=true then .ret (p,n,0) else kas_desc f p (n+1) (0+1)) Q s
  by_cases c:lt (bN p n) (bN p (n-1))=true
  .rw[Il c,Ij (by lia)];exact vZ o an pm f (n+1) (by lia) (by lia) (h3.snoc o h1 c) λm a b c=>k m (by lia) b c
  .rw[Ij c];have c:lt (bN p n) (bN p (n-1))=false:=by simpa using c
   refine an _ _ _ (pm.bd (by lia)) (pm.bd (by lia)) ?_;rw[o.of_not (pm.bd (by lia)) (pm.bd (by lia)) (pm.ne (by lia) (by lia) (by lia)) c];show KasT.kasWp cmp (if true=true then _ else _) Q s;rw[Il rfl];exact k n (Ih _) (by lia) h3
theorem zy (n:Nat)(hn:n<=p.size)(k:Nat):bN (kas_rev p 0 n) k=if k<n then bN p (n-1-k) else bN p k:=by
 have e:=getElem?_mirror_all (xs:=p) (i:=0) hn k;unfold kas_rev;by_cases h:k<n
 .rw[Il h];rw[Il ⟨IR _,h⟩,JL]at e;exact sK e
 .rw[Ij h];rw[Ij (by lia)]at e;exact sK e
theorem zA (o:Lt N lt)(an:CZ N lt cmp s)(pm:Pm N p)(h1:1<=n)(hn:n<=N)(hd:De lt p n)
 (k:∀ m p',1<=m->m<=N->Pm N p'->So lt p' m->Q (m,p') s):(kas_tail3 n N p).kasWp cmp Q s:=by
 unfold kas_tail3;rw[Lr];have pm':Pm N (kas_rev p 0 n):=pm.perm (mirror_perm _ _ _ _);refine uK o an pm' (N-n) n h1 (by lia) ?_ λm a b c _=>k m _ (by lia) b pm' c;intro a b hab hb;rw[zy n (by rw[pm.size];exact hn),zy n (by rw[pm.size];exact hn),Il (by lia),Il hb];exact hd _ _ (by lia) (by lia)
theorem zB (o:Lt N lt)(an:CZ N lt cmp s)(pm:Pm N p)(h2:2<=N)
 (k:∀ m p',1<=m->m<=N->Pm N p'->So lt p' m->Q (m,p') s):(kas_count N p).kasWp cmp Q s:=by
 unfold kas_count;rw[Lr];refine uK o an pm (N-1) 1 (Ih _) (by lia) (λa b hab hb=>by lia) λm a b c d=>?_;by_cases e:m=N
 .rw[Il (by simpa using e)];exact k m p a b pm c
 .rw[Ij (by simpa using e)];by_cases hm:m>1
  .rw[Il hm];refine an _ _ _ (pm.bd (by lia)) (pm.bd (by lia)) ?_;have:lt (bN p 0) (bN p (m-1))=true:=c 0 (m-1) (by lia) (by lia);show KasT.kasWp cmp (if lt (bN p 0) (bN p (m-1))=true then _ else _) Q s;rw[Il this];exact k m p a b pm c
  .rw[Ij hm];have hm1:m=1:=by lia
   subst hm1;unfold kas_descPart;rw[Lr];have l:=d (by lia);refine vZ o an pm (N-(1+1)) (1+1) (by lia) (by lia) (λa b hab hb=>?_) λm' a' b' c'=>?_
   .have:a=0:=by lia
    have:b=1:=by lia
    subst_vars
    exact l
   .show KasT.kasWp cmp (if 0>0 then _ else kas_tail3 m' N p) Q s;rw[Ij (by lia)];exact zA o an pm (by lia) b' c' k
theorem nz (o:Lt N lt)(an:CZ N lt cmp s)(pm:Pm N p)(hi:i<N)(so:So lt p i):∀(f l r:Nat){Q:Nat->MH->Prop},l<=r->r<=i->r-l<=f->
 (∀ a,a<l->lt (bN p a) (bN p i)=true)->(∀ a,r<=a->a<i->lt (bN p i) (bN p a)=true)->
 (∀ m,m<=i->(∀ a,a<m->lt (bN p a) (bN p i)=true)->(∀ a,m<=a->a<i->lt (bN p i) (bN p a)=true)->Q m s)->(kas_place p i f l r).kasWp cmp Q s
 |0,l,r,Q,h1,h2,h3,h4,h5,k=>k l (by lia) h4 λa x y=>h5 a (by lia) y
 |f+1,l,r,Q,h1,h2,h3,h4,h5,k=>by
  unfold kas_place;by_cases c:l>=r
  .rw[Il c];exact k l (by lia) h4 λa x y=>h5 a (by lia) y
  .rw[Ij c];refine an _ _ _ (pm.bd hi) (pm.bd (by lia)) ?_;show KasT.kasWp cmp (if lt (bN p i) (bN p ((l+r) / 2))=true then _ else _) Q s;by_cases q:lt (bN p i) (bN p ((l+r) / 2))=true
   .rw[Il q];refine nz o an pm hi so f l ((l+r) / 2) (by lia) (by lia) (by lia) h4 (λa x y=>?_) k;by_cases e:a=(l+r) / 2
    .rw[e];exact q
    .exact o.tr _ _ _ q (so _ _ (by lia) y)
   .rw[Ij q];have q:lt (bN p i) (bN p ((l+r) / 2))=false:=by simpa using q
    have q:=o.of_not (pm.bd hi) (pm.bd (by lia)) (pm.ne hi (by lia) (by lia)) q;refine nz o an pm hi so f _ r (by lia) h2 (by lia) (λa x=>?_) h5 k;by_cases e:a=(l+r) / 2
    .rw[e];exact q
    .exact o.tr _ _ _ (so _ _ (by lia) (by lia)) q
theorem zC (hi:i<p.size)(hl:l<=i)(k:Nat):bN (bubble p i (i-l)) k=if k=l then bN p i else if l<k/\k<=i then bN p (k-1) else bN p k:=by
 have e:=getElem?_bubble hi (i-l) (by lia) k;rw[show i-(i-l)=l by lia]at e;by_cases h1:k=l
 .rw[Il h1]at e ⊢;exact sK e
 .rw[Ij h1]at e ⊢;by_cases h2:l<k/\k<=i
  .rw[Il h2]at e ⊢;exact sK e
  .rw[Ij h2]at e ⊢;exact sK e
theorem zD (o:Lt N lt)(an:CZ N lt cmp s):∀(f i:Nat)(p:Array Nat){Q:Array Nat->MH->Prop},Pm N p->i+f=N->So lt p i->
 (∀ p',Pm N p'->So lt p' N->Q p' s)->(kas_bin f p i).kasWp cmp Q s
 |0,i,p,Q,pm,h,so,k=>k p pm (by rw[<- h];exact so)
 |f+1,i,p,Q,pm,h,so,k=>by
  unfold kas_bin;rw[Lr];refine nz o an pm (by lia) so i 0 i (by lia) (Ih _) (by lia) (λa x=>by lia) (λa x y=>by lia) λm hm lo hi=>?_;refine zD o an f (i+1) _ (pm.perm (bubble_perm _ _ _)) (by lia) (λa b hab hb=>?_) k;have hs:i<p.size:=by rw[pm.size];lia
  rw[zC hs hm,zC hs hm]
  repeat' split
  all_goals first|lia|(exact hi _ (by lia) (by lia))|(exact lo _ (by lia))|(exact so _ _ (by lia) (by lia))
theorem By (o:Lt N lt)(an:CZ N lt cmp s)(h2:2<=N)(k:∀ p,Pm N p->So lt p N->Q p s):(kas_sort N).kasWp cmp Q s:=by
 unfold kas_sort;rw[Lr];have pm:Pm N (List.toArray (List.range N)):=by unfold Pm;simp
 refine zB o an pm h2 λm p' a b c d=>?_;show KasT.kasWp cmp (if m<N then kas_bin (N-max m 1) p' (max m 1) else .ret p') Q s;by_cases e:m<N
 .rw[Il e];have:max m 1=m:=by lia
  rw[this];exact zD o an (N-m) m p' c (by lia) d k
 .rw[Ij e];have:m=N:=by lia
  subst this;exact k p' c d
end
end ST
namespace L2
open PySem PySem.Spec PySem.Calls PyProof.Rows ST
noncomputable abbrev iK (ns:List Int):List Key:=ns.map Sum.inl
section
variable {prog:MJ}{w:World}{A:ML}{E:MK->MH->Prop}{s:MH}
theorem mr (h:(aB prog w).is (.inl i) v=true):∃ t,v=.int i t:=by
 rcases aW (show ko (.inl i) v=true from h) with⟨j,t,e,rfl⟩|⟨x,t,e,_⟩
 .cases e;exact⟨t,rfl⟩
 .cases e
theorem items_int:∀{ns:List Int}{vs:List MK},ItemsAre (aB prog w) (iK ns) vs->∀ v∈vs,∃ i t,v=.int i t
 | [],_,h,v,hv=>by cases h;simp at hv
 |n::ns,_,h,v,hv=>by
  cases h with
  |cons h1 h2=>
   rcases Ip.mp hv with rfl|hv
   .obtain⟨t,rfl⟩:=mr h1;exact⟨n,t,rfl⟩
   .exact items_int h2 v hv
theorem El (hk:(tK prog w).is s.heap (iK ns) b)(h:Q true s):wpAny (model prog w) A (hashByValue 8 (.ref b)) Q E s:=by
 have hT:=IsTupleKey.typeIs hk;obtain⟨o,items,n,ho,_,hd,hi⟩:=hk;unfold hashByValue;refine Ic (wpAny_specialOf hT PySem.F.slot_tuple_hash.lookup ?_);dsimp only;refine Ic (wpAny_seqItems ho hd ?_);refine Ic ?_;show wpAny _ _ (forIn items _ _) _ _ s;rw[<- Array.forIn_toList];refine wpAny_forIn_list _ (λrest r s'=>r.1=none/\s'=s/\∀ v∈rest,∃ i t,v=Value.int i t) _ ?_ ?_ _ _ ⟨rfl,rfl,items_int hi⟩
 .rintro v rest r s' ⟨hr,rfl,hall⟩;obtain⟨i,t,rfl⟩:=hall v Iq;refine Ic (Ig ?_);simp only[Jz,IF,Ju];exact Ig ⟨rfl,rfl,λu hu'=>hall u (Ii _ hu')⟩
 .rintro⟨r1,r2⟩ s' ⟨hr,rfl,_⟩;simp only at hr;subst hr;exact Ig h
theorem sL (hk:(tK prog w).is s.heap (iK ns) b)(h:Q false s):wpAny (model prog w) A (ofAClassStatement 8 (.ref b)) Q E s:=by
 have hT:=IsTupleKey.typeIs hk;obtain⟨o,items,n,ho,_,hd,hi⟩:=hk;unfold ofAClassStatement;refine Ic (LO hT ?_);dsimp only;rw[Il (by decide)];refine Ic (Ig ?_);simp only[Jz,IF,Ju];refine Ic (wpAny_seqItems ho hd ?_);refine Ic ?_;show wpAny _ _ (forIn items _ _) _ _ s;rw[<- Array.forIn_toList];refine wpAny_forIn_list _ (λrest r s'=>r.1=none/\s'=s/\∀ v∈rest,∃ i t,v=Value.int i t) _ ?_ ?_ _ _ ⟨rfl,rfl,items_int hi⟩
 .rintro v rest r s' ⟨hr,rfl,hall⟩;obtain⟨i,t,rfl⟩:=hall v Iq;refine Ic (Ig ?_);simp only[IF,Ju];exact Ig ⟨rfl,rfl,λu hu'=>hall u (Ii _ hu')⟩
 .rintro⟨r1,r2⟩ s' ⟨hr,rfl,_⟩;simp only at hr;subst hr;exact Ig h
theorem Em (hk:(tK prog w).is s.heap (iK ns) b)(hy:∀ y∈ys,∃ ms c,y=.ref c/\(tK prog w).is s.heap (iK ms) c)(h:Q false s):wpAny (model prog w) A (searchCouldBeSeen (.ref b) ys) Q E s:=by
 unfold searchCouldBeSeen;refine Ic ?_;refine wpAny_forIn_list _ (λrest r s'=>r.1=none/\s'=s/\∀ y∈rest,∃ ms c,y=.ref c/\(tK prog w).is s.heap (iK ms) c) _ ?_ ?_ _ _ ⟨rfl,rfl,hy⟩
 .rintro v rest r s' ⟨hr,rfl,hall⟩;obtain⟨ms,c,rfl,hc⟩:=hall v Iq;have fin:∀ u∈rest,∃ ms c,u=Value.ref c/\(tK prog w).is s'.heap (iK ms) c:=λu hu'=>hall u (Ii _ hu');dsimp only;split
  .exact Ig ⟨rfl,rfl,fin⟩
  .refine Ic ((tK prog w).quiet hk ?_);simp only[Jz,IF,Ju];refine Ic ((tK prog w).quiet hc ?_);simp only[Jz,IF,Ju];refine Ic (sL hk ?_);simp only[IF,Ju];refine Ic (sL hc ?_);simp only[IF,Ju];exact Ig ⟨rfl,rfl,fin⟩
 .rintro⟨r1,r2⟩ s' ⟨hr,rfl,_⟩;simp only at hr;subst hr;exact Ig h
def Hm (prog:MJ)(w:World)(h:Heap)(es:Array (Int×MK)):Prop:=∀ e∈es.toList,∃ ms c,e=((tK prog w).hash (iK ms),Value.ref c)/\(tK prog w).is h (iK ms) c
theorem Bz (h:Msk m):(m % 2==0)=false:=by rcases h with rfl|rfl|rfl|rfl<;>rfl
theorem Tbl.fits (T:Tbl t es)(hs:t.place.size<=t.mask):t.fits es.size=true:=by unfold SetTable.fits SetTable.fill;rw[T.tb.dum];simp[T.len]at hs ⊢;exact hs
theorem uL {α:Type}{es:Array α}{i:Nat}{e:α}(h:es[i]?=some e):e∈es.toList:=IC.mpr ⟨i,by rw[IW];exact h⟩
theorem pZ {ep:Nat}{t:SetTable}{ns:List Int}{Q:SetFound->MH->Prop}(ho:s.heap.get? a=some o)(hd:o.data=.set es ep t)(T:Tbl t es)(hs:t.place.size<=t.mask)
 (hu:A.units<cLine) (hk:(tK prog w).is s.heap (iK ns) b) (el:Hm prog w s.heap es)
 (h1:(∃ e∈es.toList,∃ c,e.2=.ref c/\(tK prog w).is s.heap (iK ns) c)->Q (.there none) s)
 (h2:(∀ e∈es.toList,∀ c,e.2=.ref c->¬ (tK prog w).is s.heap (iK ns) c)->∀ j,j∉t.place.toList->j<=t.mask->Rea t.mask (·∈ t.place.toList) ((tK prog w).hash (iK ns)) j->Q (.free j false) s) :
 ∀(fuel n:Nat)(stand:Option SetTable.Probe),stand.getD (t.probeStart ((tK prog w).hash (iK ns)))=it t.mask n (st t.mask ((tK prog w).hash (iK ns)))->
  (∀ k,k<n->∃ i e,∃ hi:i<t.place.size,t.place[i]=(it t.mask k (st t.mask ((tK prog w).hash (iK ns)))).j/\es[i]?=some e/\∀ c,e.2=.ref c->¬ (tK prog w).is s.heap (iK ns) c)->
  (∃ N,n<=N/\N<n+fuel/\(it t.mask N (st t.mask ((tK prog w).hash (iK ns)))).j∉t.place.toList)->
  wpAny (model prog w) A (setSearchFrom a (.ref b) ((tK prog w).hash (iK ns)) true fuel stand) Q E s
 |0,n,stand,_,_,⟨N,x1,x2,_⟩=>by lia
 |fuel+1,n,stand,e1,e2,⟨N,x1,x2,x3⟩=>by
  have v0:Va t.mask (it t.mask n (st t.mask ((tK prog w).hash (iK ns)))):=(Va.st _ _).it;have sp:=uI T.tb hs (λi=>(es[i]?.map (·.1)).getD 0) ((tK prog w).hash (iK ns)) v0;have at_:∀ i,i<t.place.size->∃ e,es[i]?=some e:=λi hi=>⟨es[i]'(by rw[<- T.len];exact hi),by simp[T.len▸hi]⟩;unfold setSearchFrom;refine Ic (JG ho hd (Tbl.fits T hs) ?_);dsimp only;have hg:t.gaveWay=false:=Bz T.tb.msk;rw[hg];simp only[IF,Ju];rw[e1];have pre:∀{nn:Nat},(∀ k,k<nn->∃ i,∃ hi:i<t.place.size,t.place[i]=(it t.mask k (it t.mask n (st t.mask ((tK prog w).hash (iK ns))))).j/\(es[i]?.map (·.1)).getD 0≠(tK prog w).hash (iK ns))->
   ∀ k,k<n+nn->∃ i e,∃ hi:i<t.place.size,t.place[i]=(it t.mask k (st t.mask ((tK prog w).hash (iK ns)))).j/\es[i]?=some e/\∀ c,e.2=.ref c->¬ (tK prog w).is s.heap (iK ns) c:=by
   intro nn hb k hk';by_cases hkn:k<n
   .exact e2 k hkn
   .obtain⟨i,hi,q1,q2⟩:=hb (k-n) (by lia);obtain⟨e,he⟩:=at_ i hi;refine⟨i,e,hi,?_,he,λc hc his=>q2 ?_⟩
    .rw[q1,<- dv,show n+(k-n)=k by lia]
    .obtain⟨ms,c',rfl,his'⟩:=el e (uL he);have hc':c'=c:=by injection hc
     subst hc';rw[he];show(tK prog w).hash (iK ms)=_;rw[(tK prog w).inj his' his]
  generalize hq0:t.probe _ _ (it t.mask n (st t.mask ((tK prog w).hash (iK ns))))=pr;have hpr:t.probe (λi=>(es[i]?.map (·.1)).getD 0) ((tK prog w).hash (iK ns)) (it t.mask n (st t.mask ((tK prog w).hash (iK ns))))=pr:=hq0;rw[hpr]at sp;clear hpr hq0;cases sp with
  |em nn hem hb=>
   dsimp only;refine Ig (h2 ?_ _ hem (v0.it).jle ?_)
   .intro e he c hc his;obtain⟨i,hi⟩:=IC.mp he;rw[IW]at hi;have hil:i<t.place.size:=by rw[T.len];exact(JJ.mp hi).1
    obtain⟨ms,c',rfl,his'⟩:=el e he;have hc':c'=c:=by injection hc
    subst hc';have ek:=(tK prog w).inj his' his;have hz:(t.place[i],((tK prog w).hash (iK ms),Value.ref c'))∈t.place.toList.zip es.toList:=IC.mpr ⟨i,by rw[Lg];exact⟨by simp[hil],by rw[IW];exact hi⟩⟩;obtain⟨m,em,eb⟩:=T.rea _ hz;have em:(it t.mask m (st t.mask ((tK prog w).hash (iK ms)))).j=t.place[i]:=em;rw[ek]at em eb;have hm:m<n+nn:=by
     rcases LD m (n+nn) with q|q|q
     .exact q
     .exfalso;refine hem ?_;show(it t.mask nn (it t.mask n _)).j∈t.place.toList;rw[<- dv,<- q,em];simp
     .exfalso;refine hem ?_;show(it t.mask nn (it t.mask n _)).j∈t.place.toList;rw[<- dv];exact eb _ q
    obtain⟨i',e',hi',q1,q2,q3⟩:=pre hb m hm;have hii:i'=i:=by
     have:t.place[i']=t.place[i]:=q1.trans em;rcases LD i' i with q|q|q
     .have:=IK.mp T.tb.ris i' i (by simpa using hi') (by simpa using hil) q;simp at this;lia
     .exact q
     .have:=IK.mp T.tb.ris i i' (by simpa using hil) (by simpa using hi') q;simp at this;lia
    subst hii;rw[hi]at q2;cases q2;exact q3 c' rfl his
   .refine⟨n+nn,by rw[dv],λk hk'=>?_⟩;obtain⟨i,e,hi,q1,_⟩:=pre hb k hk';show _∈t.place.toList;rw[<- q1];simp
  |ca nn i hi hij hq hb=>
   dsimp only;obtain⟨e,he⟩:=at_ i hi;obtain⟨ms,c,rfl,his⟩:=el e (uL he);have rest:wpAny (model prog w) A (do
    let some (_,y):=es[i]?|unsupported "internal:set-entry"
    let equal <- holding [y] (eqBool y (.ref b))
    let (es',_,t') <- setState a
    if true&&equal then return SetFound.there none
    let some same:=t'.sameMemory t.moves t.mask|unsupported "set.changed-during-lookup:is-the-new-block-at-the-old-address"
    let still <- match (if same then t'.slot (it t.mask nn (it t.mask n (st t.mask ((tK prog w).hash (iK ns))))).j else .empty) with
     | .live i'=>match es'[i']? with
      |some (_,y')=>do pure (if <- isSame y' y then some i' else none)
      |none=>pure none
     |_=>pure none
    match still with
    |none=>rule "set.search.anew";setSearchFrom a (.ref b) ((tK prog w).hash (iK ns)) true fuel none
    |some i'=>if equal then return .there (some i') else setSearchFrom a (.ref b) ((tK prog w).hash (iK ns)) true fuel (some (it t.mask (nn+1) (it t.mask n (st t.mask ((tK prog w).hash (iK ns))))))) Q E s:=by
    rw[he];dsimp only;refine Ic (JT ((tK prog w).eqBool hu his hk ?_));refine Ic (JG ho hd (Tbl.fits T hs) ?_);dsimp only;by_cases hkk:iK ms=iK ns
    .rw[IA hkk];simp only[Ki,Ky];exact Ig (h1 ⟨_,uL he,c,rfl,by rw[<- hkk];exact his⟩)
    .rw[IJ hkk];simp only[Ks,IF,Ju];have hsm:t.sameMemory t.moves t.mask=some true:=by unfold SetTable.sameMemory;simp
     rw[hsm];dsimp only;rw[Il rfl,<- hij,pW T.tb hi];dsimp only;rw[he];dsimp only;refine Ic (wpAny_isSame_ref_self ?_);refine Ic (Ig ?_);rw[Il rfl]
     try dsimp only
     refine pZ ho hd T hs hu hk el h1 h2 fuel (n+(nn+1)) _ ?_ ?_ ⟨N,?_,?_,x3⟩
     .exact(dv t.mask n (nn+1) _).symm
     .intro k hk';by_cases hkn:k<n+nn
      .exact pre hb k hkn
      .have:k=n+nn:=by lia
       subst this;refine⟨i,_,hi,by rw[hij,dv],he,λc' hc' hh=>hkk ?_⟩;have:c=c':=by injection hc'
       subst this;exact(tK prog w).inj his hh
     .refine JC λhc=>?_;have hN:N<n+(nn+1):=by lia
      by_cases hNn:N<n+nn
      .obtain⟨i',e',hi',q1,_⟩:=pre hb N hNn;exact x3 (by rw[<- q1];simp)
      .have:N=n+nn:=by lia
       subst this;exact x3 (by rw[dv,<- hij];simp)
     .lia
   split
   .refine Ic (Em hk ?_ ?_)
    .intro y hy;obtain⟨e',he',rfl⟩:=Ir.mp hy;have he2:e'∈es.toList:=by have:=(Array.mem_toList_iff).mp he';rw[Array.mem_filter]at this;exact Array.mem_toList_iff.mpr this.1
     obtain⟨ms',c',rfl,his'⟩:=el e' he2;exact⟨ms',c',rfl,his'⟩
    .simp only[IF,Ju];exact rest
   .exact rest
end
noncomputable def byT (w:World):Bool:=w.params.followText "set-order"
def SetAt (w:World)(h:Heap)(a:Addr)(es:Array (Int×MK)):Prop:=∃ o ep t,h.get? a=some o/\o.ExactSet/\o.data=.set es ep t/\Tbl t es/\pX t/\t.plain=true/\t.led=!byT w
theorem SetAt.keep (x:SetAt w h a es)(k:∀ o,h.get? a=some o->h'.get? a=some o):SetAt w h' a es:=let ⟨o,ep,t,e,r⟩:=x;⟨o,ep,t,k o e,r⟩
theorem kE (h:pX t):t.place.size<=t.mask:=by unfold pX at h;lia
section
variable {prog:MJ}{w:World}{A:ML}{E:MK->MH->Prop}{s:MH}
structure Grown (es es':Array (Int×MK)) (x:Int×MK):Prop where
 mem:∀ y,y∈es'.toList↔y=x\/y∈es.toList
 pw:∀ R:Int×MK->Int×MK->Prop,(∀ x y,R x y->R y x)->es.toList.Pairwise R->(∀ e∈es.toList,R e x)->es'.toList.Pairwise R
 size:es'.size=es.size+1
theorem xC (es:Array (Int×MK))(p:Nat)(x:Int×MK)(hp:p<=es.size):Grown es (SetTable.insertAt es p x) x:=by
 have e:=ST.insertAt_toList es p x hp;refine⟨λy=>?_,λR sy pw hx=>?_,ST.insertAt_size es p x hp⟩
 .rw[e,IG,Ip];constructor
  .rintro (z|rfl|z)
   .exact .inr (JK z)
   .exact .inl rfl
   .exact .inr (KG z)
  .rintro (rfl|z)
   .exact .inr (.inl rfl)
   .rw[<- KA p es.toList,IG]at z;exact z.elim .inl λz=>.inr (.inr z)
 .rw[e,L8];rw[<- KA p es.toList,L8]at pw;obtain⟨p1,p2,p3⟩:=pw;refine⟨p1,?_,?_⟩
  .rw[Kp];exact⟨λy hy=>sy _ _ (hx y (KG hy)),p2⟩
  .intro y hy z hz;rcases Ip.mp hz with rfl|hz
   .exact hx y (JK hy)
   .exact p3 y hy z hz
theorem Grown.laid (g:Grown es es1 x)(l:Laid m es1 es2 t):Grown es es2 x:=⟨λy=>(l.mem y).trans (g.mem y),λR sy pw hx=>l.pw R sy (g.pw R sy pw hx),by rw[l.size,g.size]⟩
theorem p_ {ep:Nat}{t:SetTable}(es':Array (Int×MK))(t':SetTable){h:Heap}(ho:h.get? a=some o)(hex:o.ExactSet)(hd:o.data=.set es ep t) :
 ∃ o',(h.update a (Obj.putSet es' t')).get? a=some o'/\o'.ExactSet/\o'.data=.set es' (ep+1) t':=by
 have:=JU (Obj.putSet es' t') ho (by rw[putSet_of es' t' hd];rfl);rw[putSet_of es' t' hd]at this;exact⟨_,this,hex,rfl⟩
theorem uM {t:SetTable}(h:Msk t.mask)(h1:n*5<t.mask*3)(h2:(n+1)*5>=t.mask*3)(h3:n+1<=300):∃ m,SetTable.sizeAbove (SetTable.grown (n+1))=m+1/\Msk m/\(n+1)*5<m*3:=by
 rcases h with e|e|e|e<;>rw[e]at h1 h2
 .have:n=4:=by lia
  subst this;exact⟨31,by decide,.inr (.inl rfl),by lia⟩
 .have:n=18:=by lia
  subst this;exact⟨127,by decide,.inr (.inr (.inl rfl)),by lia⟩
 .have:n=76:=by lia
  subst this;exact⟨511,by decide,.inr (.inr (.inr rfl)),by lia⟩
 .lia
theorem zE {a:Addr}{o:Obj}{es:Array (Int×MK)}{Q:Unit->MH->Prop}(ho:s.heap.get? a=some o)(hex:o.ExactSet)(hd:o.data=.set es ep t)(hf:t.fits es.size=true)(hm:Msk m)(hn:SetTable.sizeAbove n=m+1)(hl:es.size*5<m*3)(hpl:t.plain=true)(hle:t.led=!byT w)
 (h:∀ es' t',Laid m es es' t'->SetAt w (s.heap.update a (Obj.putSet es' t')) a es'->Q () { s with heap:=s.heap.update a (Obj.putSet es' t') }):wpAny (model prog w) A (setRelay a n) Q E s:=by
 have hmb:m<=511:=by rcases hm with rfl|rfl|rfl|rfl<;>lia
 unfold setRelay;refine Ic (JG ho hd hf ?_);dsimp only;rw[Ij (by rw[hn,I_];lia)];obtain⟨t',order,e,L,hlp,hp⟩:=Bx hm es (by lia) t.finger (t.movedTo m) t.led t.plain;have er:t.relaid (es.map (·.1)) n=some (t',order):=by unfold SetTable.relaid;rw[hn];exact e
 rw[er];show wpAny _ _ (do
  let r <- (do
   if (order.filterMap (es[·]?)).size != es.size then unsupported "internal:set-table-lost-an-element"
   pure (order.filterMap (es[·]?),t'):Sem (Array (Int×MK)×SetTable))
  storeSet a r.1 r.2) _ _ _
 refine Ic ?_;rw[Ij (by rw[L.size];simp)];refine Ig ?_;refine wpAny_storeSet_of ho hd ?_ (by show(order.filterMap (es[·]?)).size<=_;rw[L.size,I_];lia);obtain⟨o',g1,g2,g3⟩:=p_ (order.filterMap (es[·]?)) t' ho hex hd;refine h _ t' L ⟨o',_,t',g1,g2,g3,L.tbl,?_,by rw[hp];exact hpl,by rw[hlp];exact hle⟩;unfold pX;rw[L.tbl.len,L.size,L.mask];exact hl
theorem zF (T:Tbl t es)(hs:t.place.size<=t.mask)(h:Int):∃ N,N<100000/\(it t.mask N (st t.mask h)).j∉t.place.toList:=by
 obtain⟨j,hj,hn⟩:=nv T.tb hs;obtain⟨N,h1,h2⟩:=CY T.tb.msk hj (Va.st t.mask h);refine⟨N,?_,by rw[h2];exact hn⟩;have:t.mask<=511:=by rcases T.tb.msk with e|e|e|e<;>rw[e]<;>lia
 unfold SetTable.turns at h1;lia
theorem Eo (hu:A.units<cLine)(hk:(tK prog w).is s.heap (iK ns) b)(hS:SetAt w s.heap a es)(el:Hm prog w s.heap es)(hz:es.size+1<=300)
 (h1:∀ tk,s.toks<=tk->(∃ e∈es.toList,∃ c,e.2=.ref c/\(tK prog w).is s.heap (iK ns) c)->Q false { s with toks:=tk })
 (h2:∀ tk h' es',s.toks<=tk->(∀ e∈es.toList,∀ c,e.2=.ref c->¬ (tK prog w).is s.heap (iK ns) c)->Heap.SameBut a s.heap h'->SetAt w h' a es'->Grown es es' ((tK prog w).hash (iK ns),.ref b)->Q true { s with heap:=h',toks:=tk }) :
 wpAny (model prog w) A (setAdd a (.ref b)) Q E s:=by
 obtain⟨o,ep,t,ho,hex,hd,T,sp,hpl,hle⟩:=hS;have hf:=Tbl.fits T (kE sp);unfold setAdd;refine JT ?_;refine Ic ((tK prog w).pyHash hu hk ?_);have htk:s.toks<=s.toks+(tK prog w).draws (iK ns):=Nat.le_add_right _ _;generalize s.toks+(tK prog w).draws (iK ns)=tk at htk;unfold setAddHashed setAddHashedIn;refine JT ?_;refine Ic (JG (s:={ s with toks:=tk }) ho hd hf ?_);dsimp only;have hbs:byScan (.ref b) es=false:=by simp[byScan,Value.scannable]
 rw[hbs];simp only[IF,Ju];unfold setSearch;obtain⟨N,n1,n2⟩:=zF T (kE sp) ((tK prog w).hash (iK ns));refine Ic (pZ (s:={ s with toks:=tk }) ho hd T (kE sp) hu hk el (λhin=>?_) (λhout j hj hjm hr=>?_) 100000 0 none rfl (λk hk'=>by lia) ⟨N,IR _,by lia,n2⟩)
 .exact Ig (h1 tk htk hin)
 .dsimp only;refine Ic (JG (s:={ s with toks:=tk }) ho hd hf ?_);dsimp only;obtain⟨T',em,ez⟩:=Ei T hj hjm (v:=Value.ref b) hr;have hpl':(t.put j).1.plain=true:=by rw[qW T.tb];exact hpl
  have hle':(t.put j).1.led=!byT w:=by rw[qW T.tb];exact hle
  rw[hpl'];simp only[Ky];refine Ic (El (s:={ s with toks:=tk }) hk ?_);simp only[Ky];have hp:(t.put j).2<=es.size:=by rw[vY,<- T.len];exact(dR j T.tb.ris).1
  have g:=xC es (t.put j).2 ((tK prog w).hash (iK ns),Value.ref b) hp;refine Ic (wpAny_storeSet_of (s:={ s with toks:=tk }) ho hd ?_ (by rw[g.size,I_];lia));obtain⟨o1,q1,q2,q3⟩:=p_ (SetTable.insertAt es (t.put j).2 ((tK prog w).hash (iK ns),Value.ref b)) (t.put j).1 ho hex hd;have sb:=Jy s.heap a (Obj.putSet (SetTable.insertAt es (t.put j).2 ((tK prog w).hash (iK ns),Value.ref b)) (t.put j).1);have fill:(t.put j).1.fill=es.size+1:=by unfold SetTable.fill;rw[T'.tb.dum,ez,T.len];rfl
  by_cases hfull:(t.put j).1.tooFull=true
  .rw[hfull];simp only[KY,Ki,Ky];unfold SetTable.tooFull at hfull;rw[fill,em]at hfull;have hfull:(es.size+1)*5>=t.mask*3:=by simpa using hfull
   have sp':es.size*5<t.mask*3:=by rw[<- T.len];exact sp
   obtain⟨m,m1,m2,m3⟩:=uM T.tb.msk sp' hfull hz;have le':(t.put j).1.place.size<=(t.put j).1.mask:=by
    rw[ez,em];unfold pX at sp;have:t.mask>=7:=by rcases T.tb.msk with e|e|e|e<;>rw[e]<;>lia
    lia
   refine Ic (zE (s:={ s with heap:=s.heap.update a (Obj.putSet (SetTable.insertAt es (t.put j).2 ((tK prog w).hash (iK ns),Value.ref b)) (t.put j).1),toks:=tk }) q1 q2 q3 (Tbl.fits T' le') m2 m1 (by rw[g.size];exact m3) hpl' hle' λes' t' L sa=>?_);exact Ig (h2 tk _ es' htk hout (sb.trans (Jy _ a _)) sa (g.laid L))
  .have hfull:(t.put j).1.tooFull=false:=by simpa using hfull
   rw[hfull];simp only[Ks,IF,Ju];refine Ig (h2 tk _ _ htk hout sb ⟨o1,_,_,q1,q2,q3,T',?_,hpl',hle'⟩ g);unfold SetTable.tooFull at hfull;unfold pX;rw[fill]at hfull;rw[ez,T.len];simpa using hfull
end
noncomputable abbrev TItem:=List Int×Addr
theorem uN (h:iK a=iK b):a=b:=by
 induction a generalizing b with
 |nil=>cases b with
  |nil=>rfl
  |cons _ _=>cases h
 |cons x a ih=>cases b with
  |nil=>cases h
  |cons y b=>simp only[iK,Im,List.cons.injEq]at h;rw[Mb h.1,ih h.2]
section
variable {prog:MJ}{w:World}
structure SInv (prog:MJ) (w:World) (es:Array (Int×MK)) (xs:List TItem):Prop where
 el:∀ e∈es.toList,∃ x∈xs,e=((tK prog w).hash (iK x.1),Value.ref x.2)
 sz:es.size<=xs.length
 pw:es.toList.Pairwise λe e'=>∀ x x':TItem,e=((tK prog w).hash (iK x.1),Value.ref x.2)->e'=((tK prog w).hash (iK x'.1),Value.ref x'.2)->x∈xs->x'∈xs->x.1≠x'.1
 all:∀ x∈xs,∃ y∈xs,y.1=x.1/\((tK prog w).hash (iK y.1),Value.ref y.2)∈es.toList
variable {A:ML}{R:Result->MH->Prop}{I:Addr}{fp wr:List Addr}{G:Array GenState->Array GenState->Prop}{n:Nat}{P:Nat->MK->Prop}{St:Nat->MH->Prop}
theorem SInv.els (v:SInv prog w es xs)(hx:∀ x∈xs,(tK prog w).is hb (iK x.1) x.2)(K:∀ b o,hb.get? b=some o->h.get? b=some o):Hm prog w h es:=λe he=>by obtain⟨x,h1,rfl⟩:=v.el e he;exact⟨x.1,x.2,rfl,iQ (hx x h1) K⟩
def G4 (xs:List TItem):Prop:=∀ x∈xs,∀ y∈xs,x.2=y.2->x.1=y.1
theorem SInv.seen (v:SInv prog w es xs)(hin:∃ y∈xs,y.1=x.1)(un:G4 (xs++[x])):SInv prog w es (xs++[x]):=by
 refine⟨λe he=>?_,?_,?_,λy hy=>?_⟩
 .obtain⟨z,h1,h2⟩:=v.el e he;exact⟨z,IT _ h1,h2⟩
 .have:=v.sz;simp;lia
 .refine Kq (λ{a b} ha hb hab z z' e1 e2 m1 m2=>?_) v.pw;obtain⟨y,y1,y2⟩:=v.el a ha;obtain⟨y',y1',y2'⟩:=v.el b hb;have q1:z.2=y.2:=by rw[e1]at y2;simp only[J3,KJ]at y2;exact y2.2
  have q2:z'.2=y'.2:=by rw[e2]at y2';simp only[J3,KJ]at y2';exact y2'.2
  rw[un z m1 y (IT _ y1) q1,un z' m2 y' (IT _ y1') q2];exact hab y y' y2 y2' y1 y1'
 .rcases IG.mp hy with hy|hy
  .obtain⟨z,h1,h2⟩:=v.all y hy;exact⟨z,IT _ h1,h2⟩
  .rw[IE]at hy;subst hy;obtain⟨y',h1,h2⟩:=hin;obtain⟨z,g1,g2,g3⟩:=v.all y' h1;exact⟨z,IT _ g1,g2.trans h2,g3⟩
theorem SInv.new (v:SInv prog w es xs)(hin:¬ ∃ y∈xs,y.1=x.1)(un:G4 (xs++[x]))(g:Grown es es' ((tK prog w).hash (iK x.1),.ref x.2)):SInv prog w es' (xs++[x]):=by
 have hx:x∈xs++[x]:=IU _ (IE.mpr rfl);refine⟨λe he=>?_,?_,?_,λy hy=>?_⟩
 .rcases (g.mem e).mp he with rfl|he
  .exact⟨x,hx,rfl⟩
  .obtain⟨z,h1,h2⟩:=v.el e he;exact⟨z,IT _ h1,h2⟩
 .have:=v.sz;rw[g.size];simp;lia
 .refine g.pw _ (λa b hab z z' e1 e2 m1 m2 h=>hab z' z e2 e1 m2 m1 h.symm) ?_ ?_
  .refine Kq (λ{a b} ha hb hab z z' e1 e2 m1 m2=>?_) v.pw;obtain⟨y,y1,y2⟩:=v.el a ha;obtain⟨y',y1',y2'⟩:=v.el b hb;have q1:z.2=y.2:=by rw[e1]at y2;simp only[J3,KJ]at y2;exact y2.2
   have q2:z'.2=y'.2:=by rw[e2]at y2';simp only[J3,KJ]at y2';exact y2'.2
   rw[un z m1 y (IT _ y1) q1,un z' m2 y' (IT _ y1') q2];exact hab y y' y2 y2' y1 y1'
  .intro e he z z' e1 e2 m1 m2 h;obtain⟨y,y1,y2⟩:=v.el e he;have q1:z.2=y.2:=by rw[e1]at y2;simp only[J3,KJ]at y2;exact y2.2
   have q2:z'.2=x.2:=by simp only[J3,KJ]at e2;exact e2.2.symm
   have a1:=un z m1 y (IT _ y1) q1;have a2:=un z' m2 x hx q2;exact hin ⟨y,y1,by rw[<- a1,<- a2];exact h⟩
 .rcases IG.mp hy with hy|hy
  .obtain⟨z,h1,h2,h3⟩:=v.all y hy;exact⟨z,IT _ h1,h2,(g.mem _).mpr (.inr h3)⟩
  .rw[IE]at hy;subst hy;exact⟨y,hx,rfl,(g.mem _).mpr (.inl rfl)⟩
theorem kF (W:WalksS prog w A.in1 I fp wr G n P St)(S:Addr)(hSf:S∉fp)(hu:A.in1.units<cLine)(hb:Heap)(hbS:hb.get? S=none)(hbw:∀ b∈wr,hb.get? b=none)(its:List TItem)(hn:its.length=n)
 (hval:∀ i v,P i v->∃ x,its[i]?=some x/\v=.ref x.2) (his:∀ x∈its,(tK prog w).is hb (iK x.1) x.2) (hz:n<=300) :
 ∀(k i:Nat)(s:MH)(es:Array (Int×MK)),n-i=k->i<=n->St i s->(∀ b o,hb.get? b=some o->s.heap.get? b=some o)->SetAt w s.heap S es->SInv prog w es (its.take i)->
  (∀ s' es',Moved (S::wr) G s s'->SetAt w s'.heap S es'->SInv prog w es' its->R (.ok (.ret .none)) s')->
  codeAny (model prog w) A (.builtin "set.update.loop" ⟨[.ref S,.ref I],[]⟩) R s:=by
 have hSw:S∉wr:=λh=>hSf (W.sub _ h);have hsub:∀ b∈wr,b∈S::wr:=λb hb=>Ii _ hb;have uni:G4 its:=λx hx y hy e=>uN ((tK prog w).inj (his x hx) (by rw[e];exact his y hy));intro k;induction k with
 |zero=>
  intro i s es hk hi hst K hS v hR;have hin:i=n:=by lia
  subst hin;refine K7 Lh ?_;rw[L9 JR _];show wpAny _ A.in1 (pyNext (.ref I) >>= _) _ _ s;refine Ic (W.done s _ _ hst λs' hm=>?_);have v':SInv prog w es its:=by rw[Jo (by lia)]at v;exact v
  have hR':=hR s' es (hm.mono hsub) (hS.keep λo e=>hm.heap S o hSw e) v';show wpAny _ A.in1 (ret Value.none) _ _ s';exact Ig hR'
 |succ k ih=>
  intro i s es hk hi hst K hS v hR;have hlt:i<n:=by lia
  have htk:its.take (i+1)=its.take i++[its[i]'(by lia)]:=by rw[List.take_append_getElem]
  refine K7 Lh ?_;rw[L9 JR _];show wpAny _ A.in1 (pyNext (.ref I) >>= _) _ _ s;refine Ic (W.item i s _ _ hlt hst λu s' hP hst' hm=>?_);obtain⟨x,hx,rfl⟩:=hval i u hP;have hxe:its[i]'(by lia)=x:=by rw[Jd (by lia)]at hx;exact IM hx
  have hxm:x∈its:=Jp hx;rw[hxe]at htk;have sub:∀ y∈its.take i++[x],y∈its:=by rw[<- htk];exact λy hy=>JK hy
  have un:G4 (its.take i++[x]):=λy hy z hz=>uni y (sub y hy) z (sub z hz);have K':∀ b o,hb.get? b=some o->s'.heap.get? b=some o:=λb o e=>hm.heap b o (λz=>by rw[hbw b z]at e;cases e) (K b o e);have hS':=hS.keep λo e=>hm.heap S o hSw e;have hx':∀ y∈its.take i,(tK prog w).is hb (iK y.1) y.2:=λy hy=>his y (JK hy);have el:=v.els hx' K';have hes:es.size+1<=300:=by have:=v.sz;rw[J8]at this;lia
  show wpAny _ A.in1 (holding [Value.ref x.2] (setAdd S (.ref x.2)) >>= _) _ _ s';refine Ic (JT ?_);have keyed:∀ e∈es.toList,∀ c,e.2=.ref c->(tK prog w).is s'.heap (iK x.1) c->∃ y∈its.take i,y.1=x.1:=λe he c hc hh=>by
   obtain⟨y,y1,y2⟩:=v.el e he;have:c=y.2:=by rw[y2]at hc;injection hc with hc;exact hc.symm
   subst this;exact⟨y,y1,uN ((tK prog w).inj (iQ (hx' y y1) K') hh)⟩
  refine Eo hu (iQ (his x hxm) K') hS' el hes (λtk htk' hin=>?_) λtk h' es' htk' hout hsb hSn g=>?_
  .obtain⟨e,he,c,hc,hh⟩:=hin;refine Ig ⟨plainId_quiet JR _,ih (i+1) _ es (by lia) hlt (W.frame _ s' _ _ hst' htk' λb hb o e=>e) K' hS' (by rw[htk];exact v.seen (keyed e he c hc hh) un) λs'' es'' hm'' hS'' v''=>?_⟩;exact hR s'' es'' (Moved.trans W.gtrans ((hm.mono hsub).then_heap htk' λb o hb e=>e) hm'') hS'' v''
  .have hnin:¬ ∃ y∈its.take i,y.1=x.1:=by rintro⟨y,y1,y2⟩;obtain⟨z,z1,z2,z3⟩:=v.all y y1;exact hout _ z3 z.2 rfl (by rw[<- y2,<- z2];exact iQ (hx' z z1) K')
   have K2:∀ b o,hb.get? b=some o->h'.get? b=some o:=λb o e=>(hsb.2 b (λz=>by subst z;rw[hbS]at e;cases e)).trans (K' b o e);refine Ig ⟨plainId_quiet JR _,ih (i+1) _ es' (by lia) hlt (W.frame _ s' _ _ hst' htk' λb hb o e=>?_) K2 hSn (by rw[htk];exact v.new hnin un g) λs'' es'' hm'' hS'' v''=>?_⟩
   .rw[hsb.2 b (λh:b=S=>hSf (by rw[<- h];exact hb))];exact e
   .refine hR s'' es'' (Moved.trans W.gtrans ((hm.mono hsub).then_heap htk' λb o hb e=>?_) hm'') hS'' v'';rw[hsb.2 b (λh:b=S=>hb (by rw[h];exact Iq))];exact e
end
noncomputable abbrev setNew (led:Bool):Obj:={ cls:=.type "set",dict:=none,data:=.set #[] 0 (.fresh 0 0 led) }
theorem xD (e:h.get? a=some (setNew (!byT w))):SetAt w h a #[]:=by refine⟨_,0,_,e,⟨rfl,rfl,rfl⟩,rfl,⟨⟨.inl rfl,rfl,List.Pairwise.nil,λj hj=>nomatch hj⟩,rfl,λq hq=>nomatch hq⟩,?_,rfl,rfl⟩;show 0*5<7*3;decide
section
variable {prog:MJ}{w:World}{A:ML}{E:MK->MH->Prop}{s:MH}
theorem pq (a:MK)(h:Q₁ (.ref s.heap.objs.size) { s with heap:=s.heap.push (setNew (!byT w)) }) :
 codeAny (model prog w) A (.call (.builtin "set.__new__") ⟨[.type "set",a],[]⟩) (wants Q₁ E) s:=by
 refine codeAny_of_tree (show wpAny _ A.in1 (do checkBuiltinCall "set.__new__" ⟨[.type "set",a],[]⟩;again (.builtin "set.__new__" ⟨[.type "set",a],[]⟩)) _ _ s from ?_);refine Ic (wpAny_of_eq (PySem.F.newCall_set_1 a) (Ig ⟨plainId_quiet PySem.F.plain_set_new _,K7 PySem.F.entry_set_new ?_⟩));rw[L9 PySem.F.plain_set_new _];unfold Builtin.«set.__new__» Builtin.Frozenset.newClass;have hsub:=sub_set_self;obtain⟨hp,g,d,tk,os⟩:=s;dsimp only;wp_walk;refine wpAny_askSetting (Ig ?_);dsimp only;simp only[newObj];refine Ic (wpAny_alloc (Ig ?_));exact Ig h
theorem xE (hh:A.handled=none) (hu:A.units+64<cLine) (hl:s.heap.get? l=some { cls:=.type "list",data:=.seq items nl }) (hn:its.length=items.size) (hz:items.size<=300)
 (hval:∀(i:Nat)(v:MK),items[i]?=some v->∃ x:TItem,its[i]?=some x/\v=.ref x.2) (his:∀ x∈its,(tK prog w).is s.heap (iK x.1) x.2)
 (h:∀(h':Heap)(tk:Nat)(es:Array (Int×MK)),SetAt w h' s.heap.objs.size es->SInv prog w es its->(∀ b o,b<s.heap.objs.size->s.heap.get? b=some o->h'.get? b=some o)->Q (.ref s.heap.objs.size) { s with heap:=h',toks:=tk }) :
 wpAny (model prog w) A (call (.type "set") [.ref l]) Q E s:=by
 obtain⟨c,tl,hmro⟩:=PySem.F.called_set.mro;have hmade:=PySem.F.called_set.made;have hsub:=PySem.F.called_set.sub;refine wpAny_call (codeAny_of_tree ?_);show wpAny _ _ (callAny (.type "set") _) _ _ _;refine Ig ⟨Code.quiet_builtin _ (by decide +kernel),K7 PySem.F.entry_type_call ?_⟩;rw[Around.under_plain (weight_type_call_type "set" [.ref l] []) rfl];have h1:=PySem.F.called_set.notType;have h2:=PySem.F.called_set.canCreate;have hct:=PySem.F.typeCall_set_1 (.ref l)
 repeat (any_goals (first|assumption|wp_step))
 refine LM (pq (.ref l) (E:=E) (Q₁:=λobj s₁=>obj=.ref s.heap.objs.size/\s₁={ s with heap:=s.heap.push (setNew (!byT w)) }) ⟨rfl,rfl⟩) λr s₁ hr=>?_;rcases r with e|fl
 .exact hr
 cases fl with
 |ret obj=>
  obtain⟨rfl,rfl⟩:=hr;have hS:(s.heap.push (setNew (!byT w))).get? s.heap.objs.size=some (setNew (!byT w)):=Iv _ rfl;have hT:Shared.TypeIs { s with heap:=s.heap.push (setNew (!byT w)) } (.ref s.heap.objs.size) "set":=⟨_,hS,rfl⟩;have hli:=PySem.F.called_set.init.lookup;have hbi:=PySem.F.called_set.init.bind (.ref s.heap.objs.size)
  repeat (any_goals (first|assumption|wp_step))
  refine LM (codeAny_call_builtin (R:=wants (λr s₂=>r=.none/\∃ h' tk es,s₂={ s with heap:=h',toks:=tk }/\SetAt w h' s.heap.objs.size es/\SInv prog w es its/\
   (∀ b o,b<s.heap.objs.size->s.heap.get? b=some o->h'.get? b=some o)) E) PySem.F.called_set.init.plain PySem.F.entry_set_init (check_set_init_1 hT ?_)) λr₂ s₂ hr₂=>?_
  .have hol':(s.heap.push (setNew (!byT w))).get? l=some { cls:=.type "list",data:=.seq items nl }:=Ie _ hl;have hsls:=PySem.F.sub_list_set;have hslf:=PySem.F.sub_list_frozenset;have hne:(Value.type "list"==Value.type "dict")=false:=by decide
   have hl1:(s.heap.push (setNew (!byT w))).IsList l items:=⟨_,hol',rfl,nl,rfl⟩;unfold Builtin.«set.__init__» noKeywords Builtin.Frozenset.updateFrom;generalize hPI:pyIter=PI
   wp_walk
   subst hPI;refine Lz hl1 (Ic (wpAny_runValue ?_));have hlS:l<s.heap.objs.size:=Iy hl;have hh3:A.in1.in1.in1.handled=none:=by simp[hh]
   have hneI:l≠(s.heap.push (setNew (!byT w))).objs.size:=by rw[KW];exact II (Lb hlS)
   have hno:∀ b,s.heap.objs.size<=b->s.heap.get? b=none:=λb hb=>by
    cases q:s.heap.get? b with
    |none=>rfl
    |some o=>exact absurd (Iy q) (Nat.not_lt.mpr hb)
   refine kF ((Walks.list hh3 _ l hneI items).toS) s.heap.objs.size ?hSf (by show A.units+1+1+1<cLine;lia) s.heap (hno _ (Ih _)) ?hbw its hn hval his hz (items.size-0) 0 _ #[] rfl (IR _) ⟨⟨_,Iv _ rfl,rfl,rfl⟩,(hl1.push _)⟩
    (λb o e=>Ie _ (Ie _ e)) (xD (Ie _ hS)) ⟨λe he=>(nomatch he),IR _,List.Pairwise.nil,λx hx=>(nomatch hx)⟩ ?hR
   case hSf=>rw[KW];simp only[Ip,IB,MG,not_or];exact⟨II (KQ _),Ln hlS⟩
   case hbw=>intro b hb;simp only[Ip,IB,MG]at hb;subst hb;exact hno _ (by rw[KW];lia)
   case hR=>intro s' es hm hS' v;obtain⟨h',g',d',tk',os'⟩:=s';have eg:g'=s.gens:=hm.gens;have ed:d'=s.drawn:=hm.drawn;have eo:os'=s.os:=hm.os;subst eg ed eo;refine Ig (Ig ⟨rfl,h',tk',es,rfl,hS',v,λb o hb e=>hm.heap b o ?_ (Ie _ (Ie _ e))⟩);simp only[Ip,IB,MG,not_or];exact⟨II hb,by rw[KW];exact II (Lb hb)⟩
  .rcases r₂ with e|fl₂
   .exact hr₂
   cases fl₂ with
   |ret r=>
    obtain⟨rfl,h',tk,es,rfl,hS',v,hk'⟩:=hr₂
    repeat (any_goals (first|assumption|wp_step))
    exact h _ _ _ hS' v hk'
   |_=>exact hr₂.elim
 |_=>exact hr.elim
end
theorem nA {α:Type}:∀(l:List α)(i:Nat)(h:i<l.length),(l[i]::l.eraseIdx i).Perm l
 | [],i,h=>by simp at h
 |x::l,0,h=>Kt _
 |x::l,i+1,h=>by have ih:=nA l i (by simpa using h);have e:(x::l).eraseIdx (i+1)=x::l.eraseIdx i:=rfl;rw[e,List.getElem_cons_succ];exact(List.Perm.swap _ _ _).trans (List.Perm.cons x ih)
theorem v4 {α:Type}(next:Nat->Nat):∀(fuel k:Nat)(left:List α)(out:Array α),left.length=fuel->(pickOrder.go next fuel k left out).toList.Perm (out.toList++left)
 |0,k,left,out,h=>by have:left=[]:=J4.mp h;subst this;unfold pickOrder.go;simp
 |f+1,k,left,out,h=>by have hi:next k % left.length<left.length:=MF _ (by lia);unfold pickOrder.go;rw[Jd hi];dsimp only;have ih:=v4 next f (k+1) (left.eraseIdx (next k % left.length)) (out.push left[next k % left.length]) (by rw[List.length_eraseIdx,Il hi];lia);refine ih.trans ?_;rw[Array.toList_push,Kf];exact List.Perm.append_left _ (nA left _ hi)
theorem xF {α:Type}(next:Nat->Nat)(xs:Array α):(pickOrder next xs).toList.Perm xs.toList:=by have:=v4 next xs.size 0 xs.toList #[] (by simp);unfold pickOrder;simpa using this
noncomputable def ii (w:World)(S:Addr)(ep:Nat)(es:Array (Int×MK)):Array (Int×MK):=if byT w then pickOrder (w.params.setOrder S ep) es else es
theorem sM (w:World)(S:Addr)(ep:Nat)(es:Array (Int×MK)):(ii w S ep es).toList.Perm es.toList:=by
 unfold ii;split
 .exact xF _ _
 .exact Kt _
theorem kG (w:World)(S:Addr)(ep:Nat)(es:Array (Int×MK)):(ii w S ep es).size=es.size:=by have:=(sM w S ep es).length_eq;simpa using this
noncomputable def ck (w:World)(t:SetTable):Nat->Nat
 |0=>0
 |i+1=>if byT w then 0 else t.place.getD i 0+1
theorem uO (T:Tb t):∀(i:Nat),i<=t.place.size->SetTable.below t.place (match i with|0=>0|i+1=>t.place.getD i 0+1)=i
 |0,_=>by
  obtain⟨a,b,c⟩:=dR 0 T.ris;dsimp only;rcases Nat.eq_zero_or_pos (SetTable.below t.place 0) with h|h
  .exact h
  .have:=b 0 (by lia) h;lia
 |i+1,hi=>by
  dsimp only;have e:t.place.getD i 0=t.place[i]:=by simp[Array.getD,show i<t.place.size by lia]
  rw[e];obtain⟨a,b,c⟩:=dR (t.place[i]+1) T.ris;rcases LD (SetTable.below t.place (t.place[i]+1)) (i+1) with q|q|q
  .have h1:=c i (by lia) (by lia);lia
  .exact q
  .have h1:=b (i+1) (by lia) q;have h2:=IK.mp T.ris i (i+1) (by simp;lia) (by simp;lia) (by lia);simp at h2;lia
theorem slot_setiter_next:Slot "set_iterator" "__next__" "set_iterator.__next__":=.of (owner:="set_iterator") (n:="__next__") (by rw[typeLookup_type,builtinLookup_eq_fast];kernel_rfl) (by decide +kernel) (by decide +kernel) (by decide +kernel) (by first|exact .inl (by decide +kernel)|exact .inr (by decide +kernel)) (by rw[isSubtype_type];kernel_rfl)
theorem dS:entryFor table "set_iterator.__next__"=some Builtin.«set_iterator.__next__»:=entryFor_of_fast (by kernel_rfl)
theorem fz (a:MK):argsOk "set_iterator.__next__" ⟨[a],[]⟩:=by (unfold argsOk;kernel_rfl)
theorem pz:entryFor table "set.__iter__"=some Builtin.«frozenset.__iter__»:=entryFor_alias (id':="frozenset.__iter__") (by kernel_rfl) rfl (by decide +kernel) (by kernel_rfl)
def SetIt (h:Heap) (it S:Addr) (slot i n ep:Nat):Prop:=∃ o,h.get? it=some o/\o.cls=.type "set_iterator"/\o.data=.fields #[.int slot 0,.int i 0,.ref S,.int n 0,.int ep 0]
theorem SetIt.typeIs {s:MH} {it S:Addr} {slot i n ep:Nat} (x:SetIt s.heap it S slot i n ep):s.TypeIs (.ref it) "set_iterator":=let ⟨o,ho,hc,_⟩:=x;⟨o,ho,hc⟩
def lh (h:Heap)(S:Addr)(es:Array (Int×MK))(ep:Nat)(t:SetTable):Prop:=∃ o,h.get? S=some o/\o.ExactSet/\o.data=.set es ep t
section
variable {prog:MJ}{w:World}{A:ML}{E:MK->MH->Prop}{s:MH}
theorem uP (h:Q (byT w) s):wpAny (model prog w) A setsByText Q E s:=by unfold setsByText;exact Ic (wpAny_askSetting (Ig h))
theorem nB (r:lh s.heap S es ep t)(T:Tbl t es)(hs:t.place.size<=t.mask)(hpl:t.plain=true)(hle:t.led=!byT w)(hi:i<=es.size)
 (h:Q (((ii w S ep es)[i]?).map λe=>(e.2,ck w t (i+1))) s):wpAny (model prog w) A (setNext S (ck w t i) i ep) Q E s:=by
 obtain⟨o,ho,hex,hd⟩:=r;have hf:=Tbl.fits T hs;unfold setNext;refine Ic (JG ho hd hf ?_);dsimp only;refine Ic (uP ?_);cases hb:byT w with
 |true=>
  simp only[Ky];rw[Ij (by simp)];refine Ic ?_;unfold setWalk;refine Ic (JG ho hd hf ?_);dsimp only;refine Ic (uP ?_);rw[hb];simp only[Ky];refine Ic (wpAny_askSetting (Ig ?_));have e1:ck w t (i+1)=0:=by unfold ck;rw[hb];rfl
  have e2:ck w t i=0:=by cases i with|zero=>rfl|succ i=>(unfold ck;rw[hb];rfl)
  rw[e2];rw[e1]at h;unfold ii at h;rw[hb]at h;exact Ig h
 |false=>
  simp only[IF,Ju];rw[hb]at hle;have hle:t.led=true:=hle;show wpAny _ _ (if (!t.plain&&decide (es.size>1))=true then _ else _) _ _ _;rw[hpl];simp only[Jz,JP,IF,Ju];show wpAny _ _ ((if (!t.led&&!es.isEmpty)=true then unsupported "set:maker-not-led" else pure ()) >>= λ_=>_) _ _ _;rw[hle];simp only[Jz,JP,IF,Ju];refine Ic (Ig ?_);have e1:SetTable.below t.place (ck w t i)=i:=by
   have:=uO T.tb i (by rw[T.len];exact hi);cases i with
   |zero=>exact this
   |succ i=>unfold ck;rw[hb];exact this
  have eo:ii w S ep es=es:=by unfold ii;rw[hb];rfl
  rw[eo]at h;rw[e1];by_cases hlt:i<es.size
  .have g1:es[i]?=some es[i]:=by simp[hlt]
   have hp:i<t.place.size:=by rw[T.len];exact hlt
   have g2:t.place[i]?=some t.place[i]:=by simp[hp]
   rw[g1]at h;rw[g1,g2];have e2:ck w t (i+1)=t.place[i]+1:=by unfold ck;rw[hb];simp[Array.getD,hp]
   rw[e2]at h;exact Ig h
  .have g1:es[i]?=none:=by simp;lia
   rw[g1]at h;rw[g1];exact Ig h
end
theorem fA:Slot "set_iterator" "__iter__" "set_iterator.__iter__":=.of (owner:="set_iterator") (n:="__iter__") (by rw[typeLookup_type,builtinLookup_eq_fast];kernel_rfl) (by decide +kernel) (by decide +kernel) (by decide +kernel) (by first|exact .inl (by decide +kernel)|exact .inr (by decide +kernel)) (by rw[isSubtype_type];kernel_rfl)
theorem jh:entryFor table "set_iterator.__iter__"=some Builtin.«dict_keyiterator.__iter__»:=entryFor_alias (id':="dict_keyiterator.__iter__") (by kernel_rfl) rfl (by decide +kernel) (by kernel_rfl)
theorem kH (a:MK):argsOk "set_iterator.__iter__" ⟨[a],[]⟩:=by (unfold argsOk;kernel_rfl)
section
variable {prog:MJ}{w:World}{A:ML}{E:MK->MH->Prop}{s:MH}
theorem qg {it S:Addr}{slot i n ep:Nat}{P:PySem.Fin->MH->Prop}{F:MK->MH->Prop}(ho:s.heap.get? it=some o)(hd:o.data=.fields #[.int slot 0,.int i 0,.ref S,.int n 0,.int ep 0])
 (r:lh s.heap S es ep t) (hf:t.fits es.size=true) (hn:n=es.size)
 (h:wpAny (model prog w) A (setNext S slot i ep) (λm s'=>match m with
   |some (x,next)=>wpAny (model prog w) A (do setField (.ref it) 0 (rawInt next);setField (.ref it) 1 (rawInt (i+1));ret x) P F s'
   |none=>wpAny (model prog w) A (do setField (.ref it) 2 .none;raiseNew (<- newExc (.type "StopIteration") [])) P F s') F s) :
 wpAny (model prog w) A (Builtin.«set_iterator.__next__» ⟨[.ref it],[]⟩) P F s:=by
 obtain⟨os,hos,hex,hds⟩:=r;unfold Builtin.«set_iterator.__next__» slotArgs;simp only[List.isEmpty_nil,Jz,IF,Ju,Jr,LF];refine Ic (Ig ?_);refine Ic (wpAny_fieldsOf ho hd ?_);dsimp only;refine Ic ?_;unfold setEntries;refine Ic (JG hos hds hf (Ig ?_));dsimp only;rw[Ij (by rw[hn];simp)];simp only[LA];refine Ic (Kb h (λm s' hm=>?_) λ_ _ e=>e);cases m with
 |none=>exact hm
 |some p=>obtain⟨x,next⟩:=p;exact hm
theorem pA {it S:Addr}(hne:S≠it)(hh:A.handled=none){es:Array (Int×MK)}{ep:Nat}{t:SetTable}(T:Tbl t es)(hs:t.place.size<=t.mask)(hpl:t.plain=true)(hle:t.led=!byT w) :
 Walks prog w A it [it,S] [it] es.size (λi v=>((ii w S ep es)[i]?).map (·.2)=some v) (λi h=>SetIt h it S (ck w t i) i es.size ep/\lh h S es ep t) where
 sub:=λb hb=>by simp at hb;simp[hb]
 frame:=λi h h' st hk=>by obtain⟨⟨o,h1,r1⟩,⟨o2,h2,r2⟩⟩:=st;exact⟨⟨o,hk it (by simp) o h1,r1⟩,⟨o2,hk S (by simp) o2 h2,r2⟩⟩
 item:=λi s Q E hi st hQ=>by
  obtain⟨x1,x2⟩:=st;have hT:=x1.typeIs;obtain⟨o,ho,hc,hd⟩:=x1;have x2':=x2;obtain⟨o2,ho2,hex2,hd2⟩:=x2;unfold pyNext;refine Ic (wpAny_attempt (J0 (name:=Str.ofString "__next__") hT slot_setiter_next (Jh slot_setiter_next hT dS ?_ (fz _))));refine qg ho hd x2' (Tbl.fits T hs) rfl (nB x2' T hs hpl hle (by lia) ?_);have hio:i<(ii w S ep es).size:=by rw[kG];exact hi
  have e1:(ii w S ep es)[i]?=some (ii w S ep es)[i]:=by simp[hio]
  rw[e1];show wpAny _ _ _ _ _ _;refine Ic (Mn ho hd (by simp) ?_);have d1:=Obj.data_mapFields hd (·.setIfInBounds 0 (rawInt ((ck w t (i+1):Nat):Int)));have ho1:=JU (Obj.mapFields (·.setIfInBounds 0 (rawInt ((ck w t (i+1):Nat):Int)))) ho (Obj.isFreed_of_fields d1);refine Ic (Mn (s:={ s with heap:=_ }) ho1 d1 (by simp) ?_);have d2:=Obj.data_mapFields d1 (·.setIfInBounds 1 (rawInt ((i:Int)+1)));have ho3:=JU (Obj.mapFields (·.setIfInBounds 1 (rawInt ((i:Int)+1)))) ho1 (Obj.isFreed_of_fields d2);have sb:=(Jy s.heap it (Obj.mapFields (·.setIfInBounds 0 (rawInt ((ck w t (i+1):Nat):Int))))).trans (Jy _ it (Obj.mapFields (·.setIfInBounds 1 (rawInt ((i:Int)+1)))));refine Ig ⟨_,rfl,Ig ?_⟩;refine hQ _ _ s.toks (by rw[e1];rfl) ⟨⟨_,ho3,?_,?_⟩,o2,(sb.2 S hne).trans ho2,hex2,hd2⟩ (λb o hb e=>(sb.2 b (λz=>hb (by simp[z]))).trans e)
  .exact(Obj.cls_mapFields ..).trans ((Obj.cls_mapFields ..).trans hc)
  .rw[d2];simp[rawInt]
 done:=λs Q E st hQ=>by
  obtain⟨x1,x2⟩:=st;have hT:=x1.typeIs;obtain⟨o,ho,hc,hd⟩:=x1;unfold pyNext;refine Ic (wpAny_attempt (J0 (name:=Str.ofString "__next__") hT slot_setiter_next (Jh slot_setiter_next hT dS ?_ (fz _))));refine qg ho hd x2 (Tbl.fits T hs) rfl (nB x2 T hs hpl hle (Ih _) ?_);have e1:(ii w S ep es)[es.size]?=none:=by simp[kG]
  rw[e1];show wpAny _ _ _ _ _ _;refine Ic (Mn ho hd (by simp) ?_);refine Ic ?_;simp only[newExc,newTuple];refine Ic (Jg ?_ (by size_fits));refine Ic (m:=firstArgMember _ _) (wpAny_of_eq (a:=Value.none) (by first|rfl|(simp only[firstArgMember];rfl)) ?_);refine Jg ?_ (by size_fits);simp only[raiseNew];refine Ic (wpAny_handled ?_);rw[show A.in1.handled=none from hh];refine Ic (Ig (wpAny_throw ?_));refine Ic (wpAny_isInstance (T:="StopIteration") (b:=true) ⟨_,Iv _ rfl,rfl⟩ isSubtype_stop ?_);refine Ig (hQ _ s.toks λb o hb e=>?_);exact Ie _ (Ie _ (((Jy ..).2 b (λz=>hb (by simp[z]))).trans e))
 self:=λ_ _ _ _ st hQ=>by refine LG st.1.typeIs fA (Jh fA st.1.typeIs jh ?_ (kH _));exact Ig ⟨_,rfl, "set_iterator",_,st.1.typeIs,slot_setiter_next.lookup,hQ⟩
theorem uQ (r:lh s.heap S es ep t)(hf:t.fits es.size=true)(hpl:t.plain=true)
 (h:Q (.ref s.heap.objs.size) { s with heap:=s.heap.push { cls:=.type "set_iterator",data:=.fields #[.int 0 0,.int 0 0,.ref S,.int es.size 0,.int ep 0] } }):wpAny (model prog w) A (pyIter (.ref S)) Q E s:=by
 obtain⟨o,ho,hex,hd⟩:=r;have hT:s.TypeIs (.ref S) "set":=⟨o,ho,hex.1⟩;refine LG hT PySem.F.slot_set_iter (Jh PySem.F.slot_set_iter hT pz ?_ (PySem.F.args_set_iter_1 _));unfold Builtin.«frozenset.__iter__» Builtin.Frozenset.slot0 slotArgs;simp only[List.isEmpty_nil,Jz,IF,↓reduceIte,bind_assoc,Jr,LF];unfold Builtin.Frozenset.addrOf Builtin.Frozenset.sizeOf setEntries;refine Ic (Ig (Ic (Ig ?_)));simp only[bind_assoc];refine Ic (JG ho hd hf (Ic (Ig (Ic (Ig ?_)))));refine Ic ?_;unfold setDrawn;refine Ic (JG ho hd hf ?_);dsimp only;refine Ic (uP (Ig ?_));show wpAny _ _ (if (!byT w&&(!t.plain&&decide (es.size>1)))=true then _ else _) _ _ _;rw[hpl];simp only[Jz,JP,Ks,IF,Ju];refine Ic (Ig ?_);refine Ic (wpAny_setEpoch_of ho hd hf ?_);exact Ic (Jg (Ig ⟨_,rfl, "set_iterator",_,⟨_,Iv _ rfl,rfl⟩,slot_setiter_next.lookup,h⟩))
theorem zG (hT:s.TypeIs (.ref S) "set") (h:Q false s):wpAny (model prog w) A (Builtin.List.listLengthHint (.ref S)) Q E s:=by
 unfold Builtin.List.listLengthHint;refine Ic (wpAny_specialOf hT PySem.F.slot_set_len.lookup ?_);dsimp only;have hsp:splitId "set.__len__"=some ("set", "__len__"):=by decide +kernel
 rw[hsp];dsimp only;refine Ic (wpAny_isInstance hT sub_set_self ?_);simp only[Jz,IF,Ju];rw[Il (by decide +kernel)];refine Ic (LO hT ?_);exact Ig h
theorem sN (r:lh s.heap S es ep t)(T:Tbl t es)(hs:t.place.size<=t.mask)(hpl:t.plain=true)(hle:t.led=!byT w)(hh:A.handled=none)(hz:es.size<=300)
 (h:∀ h' tk,s.heap.objs.size<h'.objs.size->(∀ b o,s.heap.get? b=some o->h'.get? b=some o)->Q ((ii w S ep es).toList.map (·.2)) { s with heap:=h',toks:=tk }):wpAny (model prog w) A (collect (.ref S)) Q E s:=by
 have hf:=Tbl.fits T hs;obtain⟨o,ho,hex,hd⟩:=r;have hlt:S<s.heap.objs.size:=Iy ho;unfold collect;refine Ic (wpAny_runValue (K7 entry_proto_collect' (show wpAny _ _ (do again (.builtin "list.__iadd__" ⟨[<- newList [],.ref S],[]⟩)) _ _ s from ?_)));refine Ic (wpAny_newList (Ig ⟨Code.quiet_builtin _ (by decide +kernel),K7 entry_list_iadd' ?_⟩));show wpAny _ _ (Builtin.List.listExtendWith (.ref s.heap.objs.size) (.ref S) (.ref s.heap.objs.size)) _ _ { s with heap:=s.heap.push (seqObj "list" #[] 0) };have ho1:(s.heap.push (seqObj "list" #[] 0)).get? S=some o:=Ie _ ho;have hT1:Shared.TypeIs { s with heap:=s.heap.push (seqObj "list" #[] 0) } (.ref S) "set":=⟨o,ho1,hex.1⟩;unfold Builtin.List.listExtendWith;refine Ic (LO hT1 ?_);have q1:Builtin.List.listSameRef (.ref s.heap.objs.size) (.ref S)=false:=by simp[Builtin.List.listSameRef,Ln hlt]
 have q2:(Value.type "set"==Value.type "list")=false:=by decide
 have q3:(Value.type "set"==Value.type "tuple")=false:=by decide
 simp only[q1,q2,q3,Bool.or_false,IF,Ju];refine Ic (uQ ⟨o,ho1,hex,hd⟩ hf hpl ?_);have hT2:Shared.TypeIs { s with heap:=(s.heap.push (seqObj "list" #[] 0)).push { cls:=.type "set_iterator",data:=.fields #[.int 0 0,.int 0 0,.ref S,.int es.size 0,.int ep 0] } } (.ref S) "set":=⟨o,Ie _ ho1,hex.1⟩;refine Ic (JT (zG hT2 ?_));rw[Il (by decide +kernel)];refine Ic (Mp ?_);have hS0:((s.heap.push (seqObj "list" #[] 0)).push { cls:=.type "set_iterator",data:=.fields #[.int 0 0,.int 0 0,.ref S,.int es.size 0,.int ep 0] }).get? s.heap.objs.size=some (seqObj "list" #[] 0):=Ie _ (Iv _ rfl);refine Ic (show wpAny _ _ (updateSeq s.heap.objs.size (·.push .none) >>= λ_=>updateSeq s.heap.objs.size (·.pop)) _ _ _ from ?_);refine Ic (wpAny_updateSeq hS0 rfl ?_);have hS1:=JU (Obj.mapSeq (·.push Value.none)) hS0 rfl;refine wpAny_updateSeq (hz:=by seq_fits) hS1 rfl ?_;have hS2:=JU (Obj.mapSeq (·.pop)) hS1 rfl;generalize hH:(((s.heap.push (seqObj "list" #[] 0)).push { cls:=.type "set_iterator",data:=.fields #[.int 0 0,.int 0 0,.ref S,.int es.size 0,.int ep 0] }).update s.heap.objs.size (Obj.mapSeq (·.push Value.none))).update s.heap.objs.size (Obj.mapSeq (·.pop))=H2 at *;have oth:∀ b o,b≠s.heap.objs.size->((s.heap.push (seqObj "list" #[] 0)).push { cls:=.type "set_iterator",data:=.fields #[.int 0 0,.int 0 0,.ref S,.int es.size 0,.int ep 0] }).get? b=some o->H2.get? b=some o:=λb o hb e=>by rw[<- hH];exact(J_ _ _ (Jn hb)).trans ((J_ _ _ (Jn hb)).trans e)
 have old:∀ b o,s.heap.get? b=some o->H2.get? b=some o:=λb o e=>oth b o (II (Iy e)) (Ie _ (Ie _ e));have hsz1:(s.heap.push (seqObj "list" #[] 0)).objs.size=s.heap.objs.size+1:=size_push' _ _;have hit:H2.get? (s.heap.objs.size+1)=some { cls:=.type "set_iterator",data:=.fields #[.int 0 0,.int 0 0,.ref S,.int es.size 0,.int ep 0] }:=oth _ _ (by lia) (by rw[<- hsz1];exact Iv _ rfl);refine Ig ⟨plainId_quiet PySem.F.plain_extend_loop _,?_⟩;show codeAny _ _ (.builtin "list.extend.loop" ⟨[.ref s.heap.objs.size,.ref (s.heap.push (seqObj "list" #[] 0)).objs.size,.ref s.heap.objs.size],[]⟩) _ _;rw[hsz1];have W:Walks prog w A.in1 (s.heap.objs.size+1) [s.heap.objs.size+1,S] [s.heap.objs.size+1] es.size (λi v=>((ii w S ep es)[i]?).map (·.2)=some v) (λi h=>SetIt h (s.heap.objs.size+1) S (ck w t i) i es.size ep/\lh h S es ep t):=pA (II (Lb hlt)) (by simp[hh]) T hs hpl hle;refine codeAny_extend_loopS W.toS (by rw[I_];lia) s.heap.objs.size (by simp only[Ip,IB,MG,not_or];exact⟨II (KQ _),Ln hlt⟩) _ es.size 0 _ #[] _ rfl (IR _) ⟨⟨_,hit,rfl,rfl⟩,o,old S o ho,hex,hd⟩ (by rw[hS2];rfl) (ItemsOf.nil _) λs' acc c hm hS' hacc=>?_;obtain⟨h',g',d',tk',os'⟩:=s';have eg:g'=s.gens:=hm.gens;have ed:d'=s.drawn:=hm.drawn;have eo:os'=s.os:=hm.os;subst eg ed eo;refine Ic (wpAny_load hS' ?_);have ea:acc.toList=(ii w S ep es).toList.map (·.2):=by
  apply LH
  intro i;by_cases hi:i<acc.size
  .have e1:acc.toList[i]?=some acc[i]:=by rw[IW];simp[hi]
   have e2:=hacc.2 i acc[i] (by simp[hi]);rw[e1,IH,IW];exact e2.symm
  .rw[Kl (by simpa using Mz hi),Kl];rw[Ik,Jx,kG,<- hacc.1];exact Mz hi
 show wpAny _ _ (pure acc.toList) _ _ _;rw[ea];refine Ig (h h' tk' (Iy hS') λb o e=>hm.heap b o ?_ (old b o e));have:=Iy e;simp only[Ip,IB,MG,not_or];exact⟨II this,II (Lb this)⟩
end
noncomputable def lexB:List Int->List Int->Bool
 | [],[]=>false
 | [],_::_=>true
 |_::_,[]=>false
 |a::x,b::y=>if a=b then lexB x y else decide (a<b)
theorem gb:∀ a:List Int,lexB a a=false
 | []=>rfl
 |a::x=>by unfold lexB;rw[Il rfl];exact gb x
theorem qY:∀ a b c:List Int,lexB a b=true->lexB b c=true->lexB a c=true
 | [],[],_,h,_=>by cases h
 | [],_::_,[],_,h=>by cases h
 | [],_::_,_::_,_,_=>rfl
 |_::_,[],_,h,_=>by cases h
 |_::_,_::_,[],_,h=>by cases h
 |a::x,b::y,c::z,h1,h2=>by
  unfold lexB at h1 h2 ⊢;by_cases e1:a=b
  .subst e1;rw[Il rfl]at h1;by_cases e2:a=c
   .subst e2;rw[Il rfl]at h2 ⊢;exact qY x y z h1 h2
   .rw[Ij e2]at h2 ⊢;exact h2
  .rw[Ij e1]at h1;have h1:a<b:=by simpa using h1
   by_cases e2:b=c
   .subst e2;rw[Ij e1];simpa using h1
   .rw[Ij e2]at h2;have h2:b<c:=by simpa using h2
    rw[Ij (by lia)];simp;lia
theorem qZ:∀ a b:List Int,a≠b->lexB a b=true\/lexB b a=true
 | [],[],h=>(h rfl).elim
 | [],_::_,_=>.inl rfl
 |_::_,[],_=>.inr rfl
 |a::x,b::y,h=>by
  unfold lexB;by_cases e:a=b
  .subst e;rw[Il rfl,Il rfl];exact qZ x y λz=>h (by rw[z])
  .rw[Ij e,Ij (Jn e)];rcases Int.lt_or_gt_of_ne e with z|z
   .exact .inl (by simpa using z)
   .exact .inr (by simpa using z)
section
variable {prog:MJ}{w:World}{A:ML}{E:MK->MH->Prop}{s:MH}
theorem v5:∀{a b:List Int}{xs ys:List MK}(i:Nat),ItemsAre (aB prog w) (iK a) xs->ItemsAre (aB prog w) (iK b) ys->Q (lexB a b) s->PySem.W.KatLex prog w A true (decide (xs.length<ys.length)) Q (xs.zip ys) i s
 | [],[],_,_,i,hx,hy,h=>by cases hx;cases hy;exact h
 | [],_::_,_,_,i,hx,hy,h=>by
  cases hx;cases hy with
  |cons h1 h2=>exact PySem.W.kat_nil h
 |_::_,[],_,_,i,hx,hy,h=>by
  cases hy;cases hx with
  |cons h1 h2=>exact PySem.W.kat_nil h
 |a::x,b::y,_,_,i,hx,hy,h=>by
  cases hx with
  | @cons _ v1 _ vs1 h1 hx'=>
   cases hy with
   | @cons _ v2 _ vs2 h2 hy'=>
    obtain⟨t1,rfl⟩:=mr h1;obtain⟨t2,rfl⟩:=mr h2;rw[List.zip_cons_cons];refine PySem.W.kat_cons (wpAny_eqBool_int ?_);unfold lexB at h;by_cases e:a=b
    .subst e;rw[Il rfl]at h;rw[beq_self_eq_true];refine PySem.W.kat_yes ?_;have:=v5 (i+1) hx' hy' h;simpa using this
    .rw[Ij e]at h;have eb:(a==b)=false:=by simpa using e
     rw[eb];refine PySem.W.kat_no ?_;cases i with
     |zero=>exact oneLt_int h
     |succ i=>exact PySem.W.kat_one _ _ (lt_int h)
structure Tups (prog:MJ) (w:World) (h:Heap) (xs:List TItem):Prop where
 is:∀ x∈xs,(tK prog w).is h (iK x.1) x.2
 ne:∀ x∈xs,x.1≠[]
 nd:(xs.map (·.1)).Nodup
noncomputable def valsT (xs:List TItem):List MK:=xs.map λx=>Value.ref x.2
noncomputable def cp (xs:List TItem)(i:Nat):List Int:=((xs[i]?).map (·.1)).getD []
theorem BA (t:Tups prog w s.heap xs):Lt xs.length λi j=>lexB (cp xs i) (cp xs j) where
 irr:=λi=>gb _
 tr:=λi j k=>qY _ _ _
 tot:=λi j hi hj e=>qZ _ _ λz=>by
  have gi:cp xs i=(xs.map (·.1))[i]'(by simpa using hi):=by simp[cp,hi]
  have gj:cp xs j=(xs.map (·.1))[j]'(by simpa using hj):=by simp[cp,hj]
  rw[gi,gj]at z;rcases Mm e with q|q
  .exact IK.mp t.nd i j (by simpa using hi) (by simpa using hj) q z
  .exact IK.mp t.nd j i (by simpa using hj) (by simpa using hi) q z.symm
theorem zH (t:Tups prog w s.heap xs):CZ xs.length (λi j=>lexB (cp xs i) (cp xs j)) (PySem.W.kas_ask prog w A (tuples' true) (valsT xs)) s:=by intro i j C hi hj h;have one:∀ k,k<xs.length->∃ x,(valsT xs).getD k Value.none=.ref x.2/\cp xs k=x.1/\x∈xs:=λk hk=>⟨xs[k],by simp[valsT,hk],by simp[cp,hk],L5 hk⟩;obtain⟨x,ex,kx,mx⟩:=one i hi;obtain⟨y,ey,ky,my⟩:=one j hj;unfold PySem.W.kas_ask;rw[ex,ey];obtain⟨ox,ix,nx,hx,cx,dx,lx⟩:=t.is x mx;obtain⟨oy,iy,ny,hy,cy,dy,ly⟩:=t.is y my;refine PySem.W.kat_lt hx dx hy dy ?_;have h:C (lexB (cp xs i) (cp xs j)) s:=h;rw[kx,ky]at h;have:=v5 (A:=A) 0 lx ly h;simpa using this
theorem sO:∀{xs:List TItem},(∀ x∈xs,(tK prog w).is h (iK x.1) x.2)->(∀ x∈xs,x.1≠[])->∃ fs:List MK,PySem.W.KatTups h (valsT xs) fs/\fs.length=xs.length/\∀ v∈fs,∃ i t,v=Value.int i t
 | [],_,_=>⟨[],trivial,rfl,λv hv=>nomatch hv⟩
 |x::xs,h1,h2=>by
  obtain⟨fs,a,b,c⟩:=sO (λy hy=>h1 y (Ii _ hy)) λy hy=>h2 y (Ii _ hy);obtain⟨ox,ix,nx,hx,cx,dx,lx⟩:=h1 x Iq;have hne:=h2 x Iq;obtain⟨k,b'⟩:=x;dsimp only at hne lx hx;cases k with
  |nil=>exact(hne rfl).elim
  |cons n ns=>
   generalize hl:ix.toList=l at lx;cases lx with
   | @cons _ v _ vs q1 q2=>
    obtain⟨t,rfl⟩:=mr q1;refine⟨.int n t::fs,⟨⟨b',ox,ix,nx,rfl,hx,cx,dx,?_⟩,a⟩,by simp[b],λv hv=>?_⟩
    .rw[<- IW,hl];rfl
    .rcases Ip.mp hv with rfl|hv
     .exact⟨n,t,rfl⟩
     .exact c v hv
theorem xG (t:Tups prog w s.heap xs)(hne:0<xs.length)(h:Q (tuples' true) s):wpAny (model prog w) A (keyKind' (valsT xs).toArray) Q E s:=by
 obtain⟨fs,a,b,c⟩:=sO t.is t.ne;refine PySem.W.kat_kind (T:=.type "int") a (by lia) (λv hv=>?_) (by decide) ?_
 .obtain⟨i,t,rfl⟩:=c v hv;exact λA Q E s k q=>Ig q
 .have:(Value.type "int" != Value.type "tuple")=true:=by decide
  rw[this];exact h
end
noncomputable def dU (xs:List TItem)(i:Nat):TItem:=(xs[i]?).getD ([],0)
theorem sP:∀(xs:List TItem),(List.range xs.length).map (dU xs)=xs:=by
 intro xs;apply LH
 intro i;rw[IH];by_cases h:i<xs.length
 .rw[Mg h,Jd h];simp[dU,h]
 .rw[Kl (by simpa using h),Kl (by simpa using h)];rfl
theorem sQ (xs:List TItem)(i:Nat):cp xs i=(dU xs i).1:=by unfold cp dU;cases xs[i]?<;>rfl
section
variable {prog:MJ}{w:World}{A:ML}{E:MK->MH->Prop}{s:MH}
theorem Tups.off (t:Tups prog w h xs) (ho:h.get? a=some o) (hc:o.cls=.type "list") (k:∀ b o,b≠a->h.get? b=some o->h'.get? b=some o):Tups prog w h' xs:=by refine⟨λx hx=>?_,t.ne,t.nd⟩;obtain⟨ox,ix,nx,h1,c1,r⟩:=t.is x hx;refine⟨ox,ix,nx,k x.2 ox (λe=>?_) h1,c1,r⟩;rw[e,ho]at h1;cases h1;rw[hc]at c1;exact absurd c1 (by decide)
theorem uR (hN:N=xs.length)(pm:Pm N p):(p.toList.map (dU xs)).Perm xs:=by subst hN;have:=List.Perm.map (dU xs) pm;rw[sP]at this;exact this
theorem zI (pm:Pm xs.length p)(so:So (λi j=>lexB (cp xs i) (cp xs j)) p xs.length):(p.toList.map (dU xs)).Pairwise λx y=>lexB x.1 y.1=true:=by
 rw[Ke,IK];intro i j hi hj hij;have hi':i<p.size:=by simpa using hi
 have hj':j<p.size:=by simpa using hj
 have:=so i j hij (by rw[<- pm.size];exact hj');dsimp only at this;rw[sQ,sQ]at this;have ei:bN p i=p.toList[i]:=by simp[bN,Array.getD,hi']
 have ej:bN p j=p.toList[j]:=by simp[bN,Array.getD,hj']
 rw[ei,ej]at this;exact this
theorem uS (pm:Pm xs.length p):(p.toList.map λi=>(valsT xs).getD i Value.none)=valsT (p.toList.map (dU xs)):=by unfold valsT;rw[Je];refine JE λi hi=>?_;have hi:i<xs.length:=IN.mp (pm.mem_iff.mp hi);simp[dU,hi]
theorem xH (ho:s.heap.get? a=some (seqObj "list" (valsT xs).toArray n)) (t:Tups prog w s.heap xs) (h64:xs.length<64)
 (h:∀ ys h' c,ys.Perm xs->ys.Pairwise (λx y=>lexB x.1 y.1=true)->h'.get? a=some (seqObj "list" (valsT ys).toArray c)->(∀ b o,b≠a->s.heap.get? b=some o->h'.get? b=some o)->P (.done (.ret .none)) { s with heap:=h' }) :
 wpAny (model prog w) A (Builtin.«list.sort» ⟨[.ref a],[]⟩) P E s:=by
 have ha:a<s.heap.objs.size:=Iy ho;have hvl:(valsT xs).length=xs.length:=by simp[valsT]
 rw[list_sort_plain];refine Ic (listItems_at ho rfl (Ic (listUpdate_at ho rfl ?_ (by rw[Iu,hvl,I_];lia) (IR _))));obtain⟨e1,ho1⟩ : ∃ e1,(s.heap.update a (Obj.mapSeq λ_=>#[])).get? a=some (seqObj "list" #[] e1):=⟨_,get?_update_seq ho (λ_=>#[])⟩;refine Ic (seqEpoch_at ho1 rfl (Ic (wpAny_newTuple (Ic (wpAny_newList (JT ?_) (IR _))) (by show(valsT xs).length<=_;rw[hvl,I_];lia))));have lt1:a<(s.heap.update a (Obj.mapSeq λ_=>(#[]:Array MK))).objs.size:=Iy ho1;have oth:∀ b o,b≠a->s.heap.get? b=some o->(((s.heap.update a (Obj.mapSeq λ_=>(#[]:Array MK))).push (seqObj "tuple" (valsT xs).toArray 0)).push (seqObj "list" #[] 0)).get? b=some o:=λb o hb e=>Ie _ (Ie _ ((J_ _ _ (Jn hb)).trans e));have ho6:(((s.heap.update a (Obj.mapSeq λ_=>(#[]:Array MK))).push (seqObj "tuple" (valsT xs).toArray 0)).push (seqObj "list" #[] 0)).get? a=some (seqObj "list" #[] e1):=Ie _ (Ie _ ho1);show wpAny (model prog w) A _ P E { s with heap:=((s.heap.update a (Obj.mapSeq λ_=>(#[]:Array MK))).push (seqObj "tuple" (valsT xs).toArray 0)).push (seqObj "list" #[] 0) };generalize (((s.heap.update a (Obj.mapSeq λ_=>(#[]:Array MK))).push (seqObj "tuple" (valsT xs).toArray 0)).push (seqObj "list" #[] 0))=H6 at ho6 oth;dsimp only;have fin:∀(ys:List TItem)(out:Array MK),ys.Perm xs->ys.Pairwise (λx y=>lexB x.1 y.1=true)->out=(valsT ys).toArray->P (.done (.ret .none)) { s with heap:=H6.update a (Obj.mapSeq λ_=>out) }:=λys out hp hw ho=>by subst ho;exact h ys _ _ hp hw (get?_update_seq ho6 λ_=>(valsT ys).toArray) λb o hb e=>(J_ _ _ (Jn hb)).trans (oth b o hb e)
 by_cases h2:(valsT xs).toArray.size<2
 .rw[Il h2,Il h2];refine Ic (Ig ?_);rw[StateT.run_pure];have hx2:xs.length<2:=by rw[Iu,hvl]at h2;exact h2
  have hout:Array.map (λx:Keyed=>x.2) ((valsT xs).toArray.zip (valsT xs).toArray)=(valsT xs).toArray:=by apply Array.ext';simp[List.map_snd_zip]
  refine Ic (Ig ?_);dsimp only;refine Ic (seqEpoch_at ho6 rfl (Ic (listUpdate_at ho6 rfl ?_ (IR _) ?_)))
  .simp only[LF,IF,Ju];refine Ig (fin xs _ (Kt _) ?_ hout)
   match xs,hx2 with
   | [],_=>exact List.Pairwise.nil
   | [x],_=>exact List.pairwise_singleton _ _
  .show(Array.map (λx:Keyed=>x.2) ((valsT xs).toArray.zip (valsT xs).toArray)).size<=_;rw[hout,Iu,hvl,I_];lia
 .rw[Ij h2,Ij h2];have hx2:2<=xs.length:=by rw[Iu,hvl]at h2;lia
  have t6:Tups prog w H6 xs:=t.off ho rfl oth;refine Ic (xG (s:={ s with heap:=H6 }) t6 (by lia) ?_);refine Ic (Kb (PySem.W.kat_run (s:={ s with heap:=H6 }) (Q:=λst' s'=>s'={ s with heap:=H6 }/\∃ p:Array Nat,Pm xs.length p/\So (λi j=>lexB (cp xs i) (cp xs j)) p xs.length/\arrOf st'=p.map (PySem.W.kas_item ((valsT xs).toArray.zip (valsT xs).toArray))/\failedOf st'=none)
   (G:=λp s'=>s'={ s with heap:=H6 }/\Pm xs.length p/\So (λi j=>lexB (cp xs i) (cp xs j)) p xs.length) rfl (by lia) (by lia) (λp st' s' _ a2 a3 g=>⟨g.1,p,g.2.1,g.2.2,a2,a3⟩) ?_) ?_ λ_ _ e=>e)
  .rw[hvl];exact By (BA (s:={ s with heap:=H6 }) t6) (zH (s:={ s with heap:=H6 }) t6) hx2 λp pm so=>⟨rfl,pm,so⟩
  .rintro⟨⟨⟩,st'⟩ s' ⟨rfl,p,pm,so,har,hf⟩;dsimp only;have hout:(arrOf st').map (·.2)=(valsT (p.toList.map (dU xs))).toArray:=by rw[PySem.W.kat_snds rfl har,uS pm]
   rw[hout];refine Ic (seqEpoch_at ho6 rfl (Ic (listUpdate_at ho6 rfl ?_ (IR _) ?_)))
   .rw[hf];simp only[LF,IF,Ju];exact Ig (fin _ _ (uR rfl pm) (zI pm so) rfl)
   .show(valsT (p.toList.map (dU xs))).toArray.size<=_;have:=pm.size;simp[valsT,this];rw[I_];lia
def iS (prog:MJ) (w:World) (N:Nat):Prop:=∀(A:ML)(E:MK->MH->Prop)(s:MH)(a:Addr)(n:Nat)(xs:List TItem)(P:PySem.Fin->MH->Prop),s.heap.get? a=some (seqObj "list" (valsT xs).toArray n)->Tups prog w s.heap xs->xs.length<=N->
 (∀ ys h' c,ys.Perm xs->ys.Pairwise (λx y=>lexB x.1 y.1=true)->h'.get? a=some (seqObj "list" (valsT ys).toArray c)->(∀ b o,b≠a->s.heap.get? b=some o->h'.get? b=some o)->P (.done (.ret .none)) { s with heap:=h' })->wpAny (model prog w) A (Builtin.«list.sort» ⟨[.ref a],[]⟩) P E s
theorem v6:iS prog w 63:=λ_ _ _ _ _ _ _ ho t hz h=>xH ho t (by lia) h
theorem sR {its:List TItem}:∀(l:List (Int×MK)),(∀ e∈l,∃ x∈its,e=((tK prog w).hash (iK x.1),Value.ref x.2))->∃ zs:List TItem,l=zs.map (λx=>((tK prog w).hash (iK x.1),Value.ref x.2))/\∀ z∈zs,z∈its
 | [],_=>⟨[],rfl,λz hz=>nomatch hz⟩
 |e::l,h=>by
  obtain⟨x,hx,rfl⟩:=h e Iq;obtain⟨zs,h1,h2⟩:=sR l λe he=>h e (Ii _ he);exact⟨x::zs,by rw[h1];rfl,λz hz=>by
   rcases Ip.mp hz with rfl|hz
   .exact hx
   .exact h2 z hz⟩
structure SortedOf (its ys:List TItem):Prop where
 sub:∀ y∈ys,y∈its
 all:∀ x∈its,∃ y∈ys,y.1=x.1
 pw:ys.Pairwise λx y=>lexB x.1 y.1=true
theorem q_ {Q:MK->MH->Prop}(sa:SetAt w s.heap S es)(v:SInv prog w es its)(his:∀ x∈its,(tK prog w).is s.heap (iK x.1) x.2)(hne:∀ x∈its,x.1≠[])(hh:A.handled=none)(hN:N<=300)(hs:iS prog w N)(hz:es.size<=N)
 (h:∀ ys h' tk l c,SortedOf its ys->s.heap.objs.size<=l->h'.get? l=some (seqObj "list" (valsT ys).toArray c)->(∀ b o,s.heap.get? b=some o->h'.get? b=some o)->Q (.ref l) { s with heap:=h',toks:=tk }) :
 wpAny (model prog w) A (call (.builtin "sorted") [.ref S]) Q E s:=by
 obtain⟨o,ep,t,ho,hex,hd,T,sp,hpl,hle⟩:=sa;have pe:=sM w S ep es;obtain⟨zs,ez,zm⟩:=sR (prog:=prog) (w:=w) (its:=its) (ii w S ep es).toList λe he=>v.el e (pe.mem_iff.mp he);have ev:(ii w S ep es).toList.map (·.2)=valsT zs:=by rw[ez,Je];rfl
 have hzl:zs.length=es.size:=by have:=JF List.length ez;rw[Ik,Jx,kG]at this;exact this.symm
 have nd:(zs.map (·.1)).Nodup:=by have pw:=(pe.pairwise_iff (λ{x y} hxy a b e1 e2 m1 m2 z=>hxy b a e2 e1 m2 m1 z.symm)).mpr v.pw;rw[ez,Ke]at pw;unfold List.Nodup;rw[Ke];exact Kq (λ{a b} ha hb hab=>hab a b rfl rfl (zm a ha) (zm b hb)) pw
 refine Calls.call_function_entry kind_sorted plain_sorted entry_sorted (args_sorted1 _) ?_;unfold Builtin.«sorted»;refine Ic (m:=checkCount "sorted" 1 1 _) (Ig (Ic (sN ⟨o,ho,hex,hd⟩ T (kE sp) hpl hle (by simp[hh]) (IL hz hN) λh1 tk1 g1 k1=>?_)));rw[ev];refine Ic (wpAny_newList ?_ (by show(valsT zs).length<=_;simp only[valsT,Ik];rw[hzl,I_];lia));have hoL:(h1.push (seqObj "list" (valsT zs).toArray 0)).get? h1.objs.size=some (seqObj "list" (valsT zs).toArray 0):=Iv _ rfl;have kk:∀ b o,s.heap.get? b=some o->(h1.push (seqObj "list" (valsT zs).toArray 0)).get? b=some o:=λb o e=>Ie _ (k1 b o e);have ge:s.heap.objs.size<=h1.objs.size:=LL g1;have t1:Tups prog w (h1.push (seqObj "list" (valsT zs).toArray 0)) zs:=⟨λx hx=>iQ (his x (zm x hx)) kk,λx hx=>hne x (zm x hx),nd⟩;refine Ic (JT (Jh slot_list_sort ⟨_,hoL,rfl⟩ entry_list_sort ?body (args_list_sort _)))
 case body=>
  refine hs _ _ { s with heap:=h1.push (seqObj "list" (valsT zs).toArray 0),toks:=tk1 } _ _ _ _ hoL t1 (by lia) λys h2 c2 hp hw hl2 k2=>⟨_,rfl,?_⟩;refine Ig ⟨_,rfl,h ys h2 tk1 _ c2 ⟨λy hy=>zm y (hp.mem_iff.mp hy),λx hx=>?_,hw⟩ ge hl2 λb o e=>k2 b o (λz=>?_) (kk b o e)⟩
  .obtain⟨y,y1,y2,y3⟩:=v.all x hx;have y4:((tK prog w).hash (iK y.1),Value.ref y.2)∈zs.map (λx=>((tK prog w).hash (iK x.1),Value.ref x.2)):=by rw[<- ez];exact pe.mem_iff.mpr y3
   obtain⟨z,z1,z2⟩:=Ir.mp y4;have z3:z.2=y.2:=by simp only[J3,KJ]at z2;exact z2.2
   refine⟨z,hp.mem_iff.mpr z1,?_⟩;have:=(tK prog w).inj (his z (zm z z1)) (by rw[z3];exact his y y1);rw[uN this,y2]
  .subst z;exact absurd (Iy e) (Nat.not_lt.mpr ge)
end
noncomputable def TupsIn (H:Hp):List V->List TItem->Prop:=Paired λv x=>v=.ref x.2/\H x.2=some (.tup ((iK x.1).map kV))
theorem TupsIn.get:∀{vs:List V}{us:List MK}{its:List TItem},TupsIn H vs its->Vals vs us->its.length=us.length/\(∀(i:Nat)(v:MK),us[i]?=some v->∃ x:TItem,its[i]?=some x/\v=.ref x.2)/\∀ x∈its,H x.2=some (.tup ((iK x.1).map kV))
 |_,_,_,.nil,.nil=>⟨rfl,λi v e=>by simp at e,λx hx=>nomatch hx⟩
 |_,_,_,.cons (a:=v) (b:=y) q t,.cons (b:=u) r s=>by
  obtain⟨a,b,c⟩:=TupsIn.get t s;obtain⟨rfl,q⟩:=q;obtain rfl:u=Value.ref y.2:=r;refine⟨by simp[a],λi v e=>?_,λx hx=>?_⟩
  .cases i with
   |zero=>simp at e;exact⟨y,rfl,e.symm⟩
   |succ i=>exact b i v (by simpa using e)
  .rcases Ip.mp hx with rfl|hx
   .exact q
   .exact c x hx
section
variable {X:Cx}
theorem xI (hc:X.calm=true) (hu:X.A.units+64<cLine):CallR X (.type "set") (λxs H Q=>∃ l vs its,xs=[.ref l]/\Rd H l (.lst vs)/\TupsIn H vs its/\vs.length<=300/\
 ∀ p es,H p=none->SInv X.prog X.w es its->Q (.ref p) (aG H p (.ext λh=>SetAt X.w h p es))):=by
 intro pins s σ H xs us Q I r h;obtain⟨l,vs,its,rfl,hl,hp,hz,q⟩:=h;obtain⟨u,rfl,ru⟩:=fQ r;obtain rfl:u=Value.ref l:=ru;obtain⟨_,us,n,rv,hg⟩:=(show ObjOk X.prog X.w H s.heap l (.lst vs) from hl.ok I.hok);obtain⟨g1,g2,g3⟩:=hp.get rv;refine xE (I.ok.hd hc) hu hg (its:=its) (by rw[g1,Iu]) (by rw[Iu,<- rv.length];exact hz) (λi v e=>g2 i v (by simpa using e)) (λx hx=>du I.hok (g3 x hx)) λh' tk es hS v hk=>?_;have hf:H s.heap.objs.size=none:=I.hok.fresh (Ih _);refine⟨.ref s.heap.objs.size,_,I.laid (a:=s.heap.objs.size) (o:=.ext λh=>SetAt X.w h s.heap.objs.size es) (t':=tk) (λb o e=>hk b o (Iy e) e) (Ih _) ?_,rfl,q _ es hf v⟩;exact⟨hS,(let ⟨o,_,_,e,_⟩:=hS;⟨o,e⟩),λh1 h2 hs k=>SetAt.keep hs k⟩
theorem re (hc:X.calm=true) (hN:N<=300) (hs:iS X.prog X.w N):CallR X (.builtin "sorted") (λxs H Q=>∃ p es its,xs=[.ref p]/\H p=some (.ext λh=>SetAt X.w h p es)/\SInv X.prog X.w es its/\(∀ x∈its,H x.2=some (.tup ((iK x.1).map kV)))/\(∀ x∈its,x.1≠[])/\its.length<=N/\
 ∀ l ys,H l=none->SortedOf its ys->Q (.ref l) (aG H l (.lst (ys.map λy=>.ref y.2)))):=by
 intro pins s σ H xs us Q I r h;obtain⟨p,es,its,rfl,hp,v,ht,hne,hz,q⟩:=h;obtain⟨u,rfl,ru⟩:=fQ r;obtain rfl:u=Value.ref p:=ru;obtain⟨hS,_,_⟩:=(show ObjOk X.prog X.w H s.heap p (.ext λh=>SetAt X.w h p es) from I.hok p _ hp);have hes:es.size<=N:=IL v.sz hz;refine q_ hS v (λx hx=>du I.hok (ht x hx)) hne (I.ok.hd hc) hN hs hes λys h' tk l c so hle hl hk=>?_;have hf:H l=none:=I.hok.fresh hle;have hyl:ys.length<=N:=by
  have nd:(ys.map (·.1)).Nodup:=by unfold List.Nodup;rw[Ke];exact so.pw.imp λ{a b} hab e=>by rw[e,gb]at hab;cases hab
  refine IL ?_ hz;have:∀(a b:List (List Int)),a.Nodup->(∀ x∈a,x∈b)->a.length<=b.length:=by
   intro a;induction a with
   |nil=>intro b _ _;exact IR _
   |cons x a ih=>intro b nd hs;have hx:x∈b:=hs x Iq;have:=ih (b.erase x) (IS.mp nd).2 λy hy=>(L7 (show y≠x from λe=>(IS.mp nd).1 (by rw[<- e];exact hy))).mpr (hs y (Ii _ hy));rw[Lo hx]at this;have:0<b.length:=K1 hx;simp only[Iw];lia
  have:=this _ (its.map (·.1)) nd λk hk=>by obtain⟨y,hy,rfl⟩:=Ir.mp hk;exact Ir.mpr ⟨y,so.sub y hy,rfl⟩
  simpa using this
 refine⟨.ref l,_,I.laid (a:=l) (o:=.lst (ys.map λy=>.ref y.2)) (t':=tk) hk hle ?_,rfl,q l ys hf so⟩;refine⟨by rw[Ik,I_];lia,valsT ys,c,?_,hl⟩;clear so hl hyl;induction ys with
 |nil=>exact .nil
 |cons y ys ih=>exact .cons rfl ih
end
end L2
namespace L2
open PySem PySem.Spec PyProof.Rows
section
variable {prog:MJ}{w:World}{A:ML}{R:Result->MH->Prop}{I:Addr}{fp wr:List Addr}{G:Array GenState->Array GenState->Prop}{n:Nat}{P:Nat->MK->Prop}{St:Nat->MH->Prop}
end
section
variable {prog:MJ}{w:World}{A:ML}{E:MK->MH->Prop}{s:MH}
end
section
variable {X:Cx}
end
end L2
namespace L2
open PySem PySem.Spec PySem.Calls PyProof.Rows ST
section
variable {prog:MJ}{w:World}{A:ML}{E:MK->MH->Prop}{s:MH}
end
section
variable {prog:MJ}{w:World}
variable {A:ML}{R:Result->MH->Prop}{I:Addr}{fp wr:List Addr}{G:Array GenState->Array GenState->Prop}{n:Nat}{P:Nat->MK->Prop}{St:Nat->MH->Prop}
end
section
variable {prog:MJ}{w:World}{A:ML}{E:MK->MH->Prop}{s:MH}
end
section
variable {X:Cx}
end
section
variable {prog:MJ}{w:World}{A:ML}{E:MK->MH->Prop}{s:MH}
end
section
variable {X:Cx}
end
end L2
namespace L2
open PySem PySem.Spec PySem.Calls PyProof.Rows
section
variable {prog:MJ}{w:World}{A:ML}{E:MK->MH->Prop}{s:MH}
theorem Ep {k:List Key}{dflt:MK}{Q:MK->MH->Prop}(hu:A.units<cLine)(ki:(tK prog w).is s.heap k a)(hm:s.heap.DictOfH (tK prog w) d xs)(hsz:xs.length<=sizeLine)
 (h1:∀ p,atKey xs k=some p->Q p.2 { s with toks:=s.toks+(tK prog w).draws k })
 (h2:atKey xs k=none->∀ h',h'.DictOfH (tK prog w) d (storedH xs k a dflt)->Heap.SameBut d s.heap h'->Q dflt { s with heap:=h',toks:=s.toks+(tK prog w).draws k }):wpAny (model prog w) A (dictSetDefault d (.ref a) dflt) Q E s:=by
 obtain⟨o,es,ep,ho,hc,hd,he,his,hn⟩:=hm;unfold dictSetDefault
 try with_reducible refine JT ?_
 refine Ic ((tK prog w).pyHash hu ki (Ic (wpAny_dictFind_heap (knd:=tK prog w) (s:={ s with toks:=s.toks+(tK prog w).draws k }) hu ki ho hd he his hn (λhno=>?_) λj p hj=>?_)))
 .have hnone:=atKey_none_of_get hno;have hnot:k∉xs.map (·.1):=not_mem_keys_of_get hno;refine Ic (Mp (Ic (wpAny_updateDictKeys (hz:=by have e:=size_of_entries he;lia) (s:={ s with toks:=s.toks+(tK prog w).draws k }) ho hd (Ig (h2 hnone _ ⟨_,_,ep+1,JU _ ho (Obj.isFreed_of_dict (Ld hd _)),hc.mapDictKeys _,Ld hd _,?_,?_,?_⟩ (Jy ..))))))
  .rw[storedH_new hnone];simp[he,entryOfKey]
  .rw[storedH_new hnone];intro x hx;rcases IG.mp hx with hx|hx
   .exact(tK prog w).keeps (his x hx) ho hd (Jy ..)
   .obtain rfl:=IE.mp hx;exact(tK prog w).keeps ki ho hd (Jy ..)
  .rw[storedH_new hnone,Jk,Ku];exact⟨hn,by simp,λx hx y hy e=>by simp only[Im,Kj,IE]at hy;subst hy;exact hnot (e▸hx)⟩
 .refine Ic (LI (s:={ s with toks:=s.toks+(tK prog w).draws k }) ho hd ?_);rw[entry_at he j,hj];exact Ic (Mp (Ig (h1 p (atKey_of_get hn hj))))
end
section
variable {X:Cx}
noncomputable def BB:V->List V->Hp->VK->Prop:=λx xs H Q=>∃ a b k y kvs,x=.ref a/\xs=[.ref b,y]/\H b=some (.tup (k.map kV))/\H a=some (.dT kvs)/\kvs.length<sizeLine/\
 ((∃ v,cg kvs k=some v/\Q v H)\/(cg kvs k=none/\Q y (aG H a (.dT (ci kvs k y)))))
theorem qh (hu:X.A.units+64<cLine):D8 X "dict.setdefault" BB:=by
 intro pins s σ H x xs v us Q I rx rs q;obtain⟨a,b,k,y,kvs,rfl,rfl,hb,ha,hz,q⟩:=q;obtain rfl:v=Value.ref a:=rx;obtain⟨u1,u2,rfl,ru1,ru2⟩:=vM rs;obtain rfl:u1=Value.ref b:=ru1;obtain⟨z1,y1,vs,r1,d1⟩:=CT I.hok ha;have ki:=du I.hok hb;have hT:Shared.TypeIs s (.ref a) "dict":=by obtain⟨o,es,ep,ho,hc,_⟩:=d1;exact⟨o,ho,hc.1⟩
 refine Jh Jm hT L1 ?_ (LR _ _ _);unfold Builtin.«dict.setdefault»;refine Ic ?_;unfold Builtin.Dict.keyAndDefault;refine Ic (LS hT (show wpAny _ _ (pure (a,Value.ref b,some u2)) _ _ s from Ig ?_));show wpAny _ _ (if (a==sysModules)=true then _ else (dictSetDefault a (Value.ref b) u2 >>= _)) _ _ s;rw[Ij (by rw[y1];exact Ja)];have aR:vs.length<=sizeLine:=by rw[<- Lp r1];exact z1
 have rv:=r1.val k;refine Ic (Ep (by show X.A.units+1<cLine;lia) ki d1 aR (λp hp=>?_) λhn0 h' dd' hs=>?_)
 .rcases q with⟨v,hv,q⟩|⟨hv,q⟩
  .have:RelO (some v) (some p.2):=by rw[<- hv];rw[hp]at rv;exact rv
   exact Ig ⟨_,rfl,v,H,I.tok _,this,q⟩
  .have:=rv.isSome_eq;rw[hv,hp]at this;cases this
 .rcases q with⟨v,hv,q⟩|⟨hv,q⟩
  .have:=rv.isSome_eq;rw[hv,hn0]at this;cases this
  .obtain⟨o',es,ep,hq,h2,h3,h4,_,h5⟩:=dd';have hl:(ci kvs k y).length<=sizeLine:=by have:=fy kvs k y;lia
   have hok:ObjOk X.prog X.w (aG H a (.dT (ci kvs k y))) h' a (.dT (ci kvs k y)):=by refine⟨hl,y1,_,(r1.put k hb ru2).keeps λc ys ec=>?_,o',es,ep,hq,h2,h3,h4,h5⟩;rw[ac (yL ec ha (λz=>nomatch z))];exact ec
   exact Ig ⟨_,rfl,y,_,kC (t':=s.toks+(tK X.prog X.w).draws k) I (by rw[ha];exact True.intro) hs ⟨o',hq⟩ hok,ru2,q⟩
noncomputable def zJ:V->List V->Hp->VK->Prop:=λx xs H Q=>∃ a b k y kvs,x=.ref a/\xs=[.ref b,y]/\H b=some (.tup (k.map kV))/\(H a=some (.dT kvs)\/(H a=some (.dK [])/\kvs=[]))/\kvs.length<sizeLine/\
 ((∃ v,cg kvs k=some v/\Q v H)\/(cg kvs k=none/\Q y (aG H a (.dT (ci kvs k y)))))
theorem kI (hu:X.A.units+64<cLine):D8 X "dict.setdefault" zJ:=by
 intro pins s σ H x xs v us Q I rx rs q;obtain⟨a,b,k,y,kvs,e1,e2,hb,ha,hz,q⟩:=q;rcases ha with ha|⟨ha,rfl⟩
 .exact qh hu pins s σ H x xs v us Q I rx rs ⟨a,b,k,y,kvs,e1,e2,hb,ha,hz,q⟩
 .have nba:b≠a:=yL hb ha (λz=>nomatch z);refine qh hu pins s σ (aG H a (.dT [])) x xs v us Q (I.retT ha) rx rs ⟨a,b,k,y,[],e1,e2,by rw[ac nba];exact hb,af,hz,.inr ?_⟩;rcases q with⟨v,hv,q⟩|⟨hv,q⟩
  .cases hv
  .have:aG (aG H a (.dT [])) a (.dT (ci [] k y))=aG H a (.dT (ci [] k y)):=by
    funext c;by_cases h:c=a
    .subst h;rw[af,af]
    .rw[ac h,ac h,ac h]
   exact⟨hv,by rw[this];exact q⟩
end
theorem KV.at (r:KV a b):∀(i:Nat) p q,a[i]?=some p->b[i]?=some q->p.1=q.1/\RelV p.2 q.2:=by
 induction r with
 |nil=>intro i p q e;simp at e
 |cons hq t ih=>
  intro i p q e1 e2;cases i with
  |zero=>simp at e1 e2;subst e1 e2;exact hq
  |succ i=>exact ih i p q (by simpa using e1) (by simpa using e2)
section
variable {X:Cx}{es:List Expr}{k0:Nat}{sh:Pos}
end
def RawD (h:Heap)(d:Addr)(es:Array DictEntry)(ep:Nat):Prop:=∃ o,h.get? d=some o/\o.ExactDict/\o.data=.dict es ep
section
variable {prog:MJ}{w:World}{A:ML}{E:MK->MH->Prop}{s:MH}{d v it:Addr}{es:Array DictEntry}{ep i:Nat}{ok ov:MK}
theorem RawD.ty (m:RawD s.heap d es ep):s.TypeIs (.ref d) "dict":=let ⟨o,h,c,_⟩:=m;⟨o,h,c.1⟩
theorem rf (d:Addr)(hd:(d==sysModules)=false) :
 MeetsIn prog w (Builtin.«dict.items» ⟨[.ref d],[]⟩) (λ_ R s=>(∃ es ep,RawD s.heap d es ep)/\R (.ok (.ret (.ref s.heap.objs.size))) { s with heap:=s.heap.push { cls:=.type "dict_items",data:=.fields #[.ref d] } }):=
 .of_wp λA R s ⟨⟨es,ep,m⟩,h⟩=>by unfold Builtin.«dict.items» Builtin.Dict.noArgs;refine Ic (Ic (LS m.ty (Ig ?_)));show wpAny _ _ (Builtin.Dict.showsAll d >>= _) _ _ s;unfold Builtin.Dict.showsAll;rw[Ij (by rw[hd];simp)];exact Ic (Ig (Ic (Jg (Ig ⟨_,rfl,h⟩))))
theorem sS (hv:s.heap.IsItemsView v d)(m:RawD s.heap d es ep)
 (hQ:Q (.ref s.heap.objs.size) { s with heap:=s.heap.push { cls:=.type "dict_itemiterator",data:=.fields #[.none,.bool false,.ref d,.int 0 0,.int es.size 0,.int ep 0,.none,.none] } }) :
 wpAny (model prog w) A (pyIter (.ref v)) Q E s:=by
 obtain⟨vo,e1,_,e2⟩:=id hv;obtain⟨o,ho,_,hd⟩:=id m;refine LG hv.typeIs F.slot_dict_items_iter (Jh F.slot_dict_items_iter hv.typeIs F.entry_dict_items_iter ?_ (F.args_dict_items_iter_1 _));unfold Builtin.«dict_items.__iter__» Builtin.Dict_items.dictOf Builtin.Dict_items.newIterator;refine Ic (Ig (Ic (Ic (LB e1 e2 (x:=.ref d) rfl (Ig (Ic (Ic (LI ho hd (Ic (wpAny_dictEpoch ho hd ?_))))))))));simp only[show Builtin.Dict_items.ownsTuple "dict_itemiterator"=true by decide,Ky];refine Jg (Ig ⟨_,rfl, "dict_itemiterator",_,⟨_,Iv _ rfl,rfl⟩,JB.lookup,?_⟩)
  (by simp only[sizeOk,Builtin.Dict_items.ownedTupleFields,Iu,ID,Iw,Jr,I_];lia)
 simpa[rawInt,Builtin.Dict_items.ownedTupleFields] using hQ
theorem sU (hh:A.handled=none)(y:IsItemIter s.heap it d i es.size ep ok ov)(m:RawD s.heap d es ep)(hi:es.size<=i)(hQ:∀ h',Heap.ExtBut it s.heap h'->Q none { s with heap:=h' }):wpAny (model prog w) A (pyNext (.ref it)) Q E s:=by
 obtain⟨o,ho,_,hd⟩:=id m;have hT:s.TypeIs (.ref it) "dict_itemiterator":=⟨_,y,rfl⟩;unfold pyNext;refine Ic (wpAny_attempt (J0 (name:=Str.ofString "__next__") hT JB (Jh JB hT F.entry_dict_itemiterator_next ?_ (F.args_dict_itemiterator_next_1 _))));refine Ic (Ig (Ic (Ic ?_)))
 first|refine Ic (Km hT (Ig ?_))|refine Ic (KE hT (Ig ?_))
 refine Ic (wpAny_fieldsOf y rfl ?_);simp only[show Builtin.Dict_items.ownsTuple "dict_itemiterator"=true by decide,Ky];show wpAny _ _ (if (Value.ref d==Value.none)=true then _ else _) _ _ s;rw[Ij (show ¬ ((Value.ref d==Value.none)=true) from Ja)];refine Ic (Ig (Ic (LI ho hd ?_)));rw[Ij (by simp)];refine Ic (Ig (Ic (wpAny_dictEpoch ho hd ?_)));rw[Ij (by simp)];refine Ig ?_;simp only[show ¬ ((i:Int)<0) from by lia,Ju,LA,Array.getElem?_eq_none hi];refine Ic ?_
 first|refine Ic (Km hT (Ig ?_))|refine Ic (KE hT (Ig ?_))
 show wpAny _ _ (setField (.ref it) 2 .none >>= _) _ _ s;refine Ic (Mn y rfl (by simp) ?_);show wpAny _ _ (newExc (.type "StopIteration") [] >>= _) _ _ _;refine Ic ?_;simp only[newExc,newTuple];refine Ic (Jg ?_ (by size_fits));refine Ic (m:=firstArgMember _ _) (wpAny_of_eq (a:=Value.none) (by first|rfl|(simp only[firstArgMember];rfl)) ?_);refine Jg ?_ (by size_fits);simp only[raiseNew];refine Ic (wpAny_handled ?_);rw[show A.in1.handled=none from hh];refine Ic (Ig (wpAny_throw ?_));refine Ic (wpAny_isInstance (T:="StopIteration") (b:=true) ⟨_,Iv _ rfl,rfl⟩ isSubtype_stop ?_);exact Ig (hQ _ (((Jy ..).extBut.push _).push _))
theorem uT (y:IsItemIter s.heap it d i es.size ep ok ov)(m:RawD s.heap d es ep)(he:es[i]?=some e)
 (hQ:∀ h',IsItemIterOut h' it d (i+1) es.size ep e.key e.val s.heap.objs.size->h'.get? s.heap.objs.size=some { cls:=.type "tuple",data:=.seq #[e.key,e.val] }->
   (∀ b o,b≠it->s.heap.get? b=some o->h'.get? b=some o)->Q (some (.ref s.heap.objs.size)) { s with heap:=h' }):wpAny (model prog w) A (pyNext (.ref it)) Q E s:=by
 obtain⟨hp,g,dr,tk,os⟩:=s;obtain⟨o,ho,_,hd⟩:=id m;have hT:Shared.TypeIs ⟨hp,g,dr,tk,os⟩ (.ref it) "dict_itemiterator":=⟨_,y,rfl⟩;have hil:hp.objs.size≠it:=Ln (Iy y);unfold pyNext;refine Ic (wpAny_attempt (J0 (name:=Str.ofString "__next__") hT JB (Jh JB hT F.entry_dict_itemiterator_next ?_ (F.args_dict_itemiterator_next_1 _))));refine Ic (Ig (Ic (Ic ?_)))
 first|refine Ic (Km hT (Ig ?_))|refine Ic (KE hT (Ig ?_))
 refine Ic (wpAny_fieldsOf y rfl ?_);simp only[show Builtin.Dict_items.ownsTuple "dict_itemiterator"=true by decide,Ky];show wpAny _ _ (if (Value.ref d==Value.none)=true then _ else _) _ _ _;rw[Ij (show ¬ ((Value.ref d==Value.none)=true) from Ja)];refine Ic (Ig (Ic (LI ho hd ?_)));rw[Ij (by simp)];refine Ic (Ig (Ic (wpAny_dictEpoch ho hd ?_)));rw[Ij (by simp)];refine Ig ?_;simp only[show ¬ ((i:Int)<0) from by lia,Ju,LA,he];refine Ic ?_
 first|refine Ic (Km hT (Ig ?_))|refine Ic (KE hT (Ig ?_))
 refine Ic (Lx hT ?_);show wpAny _ _ (setField (.ref it) 3 (rawInt ((i:Int)+1)) >>= _) _ _ ⟨hp,g,dr,tk,os⟩;refine Ic (K4 y (by simp) λh1 y1 s1=>?_);replace s1:Heap.SameBut it hp h1:=s1;replace y1:IsItemIter h1 it d (i+1) es.size ep ok ov:=by
  have q:((i+1:Nat):Int)=(i:Int)+1:=by lia
  unfold IsItemIter;rw[q];simpa[rawInt] using y1
 have hT1:Shared.TypeIs ⟨h1,g,dr,tk,os⟩ (.ref it) "dict_itemiterator":=⟨_,y1,rfl⟩;refine Ic (JT (Ic (Lx hT1 (Ic (Lx hT1 ?_)))));show wpAny _ _ (Builtin.Dict_items.pairFromOwner (.ref it) 6 e.key e.val) _ _ ⟨h1,g,dr,tk,os⟩;unfold Builtin.Dict_items.pairFromOwner;refine Ic (wpAny_newTuple ?_);have y2:IsItemIter (h1.push { cls:=.type "tuple",data:=.seq #[e.key,e.val] }) it d (i+1) es.size ep ok ov:=Ie _ y1;have t2:(h1.push { cls:=.type "tuple",data:=.seq #[e.key,e.val] }).get? hp.objs.size=some { cls:=.type "tuple",data:=.seq #[e.key,e.val] }:=by rw[<- s1.1];exact Iv _ rfl
 have k2:∀ b o,b≠it->hp.get? b=some o->(h1.push { cls:=.type "tuple",data:=.seq #[e.key,e.val] }).get? b=some o:=λb o n q=>Ie _ (s1.extBut b o n q);have z1:h1.objs.size=hp.objs.size:=s1.1;generalize h1.push { cls:=.type "tuple",data:=.seq #[e.key,e.val] }=h2 at y2 t2 k2;show wpAny _ _ (Builtin.Dict_items.ownedTupleIsFree (.ref it) >>= _) _ _ ⟨h2,g,dr,tk,os⟩;rw[z1];clear y1 s1 hT1 z1 h1;refine Ic ?_;unfold Builtin.Dict_items.ownedTupleIsFree;refine Ic (LB y2 rfl (x:=.none) rfl (Ig ?_));simp only[Ky];refine Ic (LB y2 rfl (x:=ok) rfl (Ic (LB y2 rfl (x:=ov) rfl ?_)));refine Ic (K4 y2 (by simp) λh3 y3 s3=>?_);replace y3:IsItemIter h3 it d (i+1) es.size ep e.key ov:=y3;refine Ic (K4 y3 (by simp) λh4 y4 s4=>?_);replace y4:IsItemIter h4 it d (i+1) es.size ep e.key e.val:=y4;refine Ic (K4 y4 (by simp) λh5 y5 s5=>?_);replace y5:IsItemIterOut h5 it d (i+1) es.size ep e.key e.val hp.objs.size:=y5;refine Ic (K4 y5 (by simp) λh6 y6 s6=>?_);replace y6:IsItemIterOut h6 it d (i+1) es.size ep e.key e.val hp.objs.size:=y6;have up:∀ b o,b≠it->h2.get? b=some o->h6.get? b=some o:=λb o n q=>Ll (show Heap.SameBut it h5 h6 from s6) b o n (Ll (show Heap.SameBut it h4 h5 from s5) b o n (Ll (show Heap.SameBut it h3 h4 from s4) b o n (Ll (show Heap.SameBut it h2 h3 from s3) b o n q)));exact Ic (wpAny_letGo (Ig (Ig ⟨_,rfl,Ig (hQ h6 y6 (up _ _ hil t2) λb o n q=>up b o n (k2 b o n q))⟩)))
end
noncomputable def Er (d:Addr)(o:Obj)(u:HO)(kvs:List (List Key×V)):It:=⟨λi H=>H d=some (.frz o u)/\i<kvs.length,λi H x H'=>∃ p b k v,H p=none/\x=.ref p/\H b=some (.tup (k.map kV))/\H'=aG H p (.tup [.ref b,v])/\kvs[i]?=some (k,v),λi H=>H d=some (.frz o u)/\kvs.length<=i⟩
theorem KT.at (r:KT H a b):∀(i:Nat) p q,a[i]?=some p->b[i]?=some q->p.1=q.1/\H q.2.1=some (.tup (p.1.map kV))/\RelV p.2 q.2.2:=by
 induction r with
 |nil=>intro i p q e;simp at e
 |cons hq t ih=>
  intro i p q e1 e2;cases i with
  |zero=>simp at e1 e2;subst e1 e2;exact hq
  |succ i=>exact ih i p q (by simpa using e1) (by simpa using e2)
theorem sV {P:MJ}{w:World}{K:MI}{es:List Expr}{k0:Nat}{pos:Pos}(hu:u=.dT kvs\/kvs=[])(hex:o.ExactDict)(hdat:o.data=.dict en ep)(aR:en.size=kvs.length) :
 Turn P w K (.Tuple es k0 pos) (Er d o u kvs) [it] it (λi h=>∃ ok ov,IsItemIter h it d i en.size ep ok ov) where
 mem:=by simp
 obj:=λi h st b hb=>by
  have e:b=it:=by simpa using hb
  subst e;obtain⟨ok,ov,e⟩:=st;exact⟨_,e,λv z=>by cases z⟩
 keep:=λi h h' st k=>by obtain⟨ok,ov,e⟩:=st;exact⟨ok,ov,k it (by simp) _ e⟩
 item:=by
  intro X hP hw hK hc i pins s σ H E I hf st hg;subst hP hw hK;obtain⟨hd,hi⟩:=hg;obtain rfl:u=.dT kvs:=hu.elim id λz=>by rw[z]at hi;exact absurd hi (Nat.not_lt_zero _)
  obtain⟨ok,ov,st⟩:=st;obtain⟨eo,_⟩:=(show ObjOk X.prog X.w H s.heap d (.frz o (.dT kvs)) from I.hok d _ hd);obtain⟨_,_,xs,rel,o',es',ep',eo',_,hd',hes,_,_⟩:=kA I.hok (.inr ⟨o,hd⟩);rw[eo]at eo';cases eo';rw[hdat]at hd';cases hd';have fi:=hf it (by simp);have hk:kvs[i]?=some kvs[i]:=by simp[hi]
  have hxl:xs.length=kvs.length:=by rw[<- aR,size_of_entries hes]
  have hix:i<xs.length:=by lia
  have hx:xs[i]?=some xs[i]:=by simp[hix]
  obtain⟨ek,hb,rv⟩:=rel.at i _ _ hk hx;have he:en[i]?=some (entryOfKey (tupleKind (aB X.prog X.w)) xs[i]):=by rw[entry_at hes,hx];rfl
  refine uT st ⟨o,eo,hex,hdat⟩ he λh' hout hT kp=>?_;refine⟨_,rfl,wpAny_letOwnedTupleGo_items hout λh'' hit'' hs''=>?_⟩;have keep2:∀ b o,b≠it->s.heap.get? b=some o->h''.get? b=some o:=λb o n1 q=>(hs''.2 b n1).trans (kp b o n1 q);have hTe:s.heap.objs.size≠it:=Ln (Iy st);have hT'':h''.get? s.heap.objs.size=some { cls:=.type "tuple",data:=.seq #[.ref xs[i].2.1,xs[i].2.2] }:=(hs''.2 _ hTe).trans hT;have fr:=I.hok.fresh (Ih _);have I1:Inv X pins σ (aG H s.heap.objs.size (.tup [.ref xs[i].2.1,kvs[i].2])) { s with heap:=h'' }:=by
   refine I.step (g':=s.gens) (d':=s.drawn) (ch:=[it]) (λb hb=>?_) (λb o _ _ hn q _=>keep2 b o (λz=>hn (by simp[z])) q)
    (λb o _ _ hn q _=>⟨o.slots,keep2 b o (λz=>hn (by simp[z])) q⟩) (λb o _ q hH=>by rw[ac (II (Iy q))];exact hH)
    (λb o hn q=>⟨o,keep2 b o (λz=>hn (by simp[z])) q⟩) (λb ys q=>by rw[ac (ah q fr)];exact q)
    (λb o' u' q=>by rw[ac (ah q fr)];exact q) (λb ps q=>⟨#[],by rw[ac (ah q fr)];simp[q]⟩) (λm hm=>?_) (λb u' q=>?_) I.bare
   .have:b=it:=by simpa using hb
    subst this;exact⟨fi.2.2.2.1,fi.2.1,fi.2.2.2.2.1,fi.2.2.2.2.2⟩
   .obtain⟨o,es',ep,ho',r⟩:=hm;exact⟨o,es',ep,keep2 _ o (Jn fi.2.1) ho',r⟩
   .by_cases hb:b=s.heap.objs.size
    .subst hb;rw[af]at q;cases q;exact⟨by show 2<=sizeLine;decide,[.ref xs[i].2.1,xs[i].2.2],.cons rfl (.cons rv .nil),⟨_,hT'',rfl,0,rfl⟩⟩
    .rw[ac hb]at q;refine(I.hok b u' q).stay (λc v hc' q'=>keep2 c v ?_ q') (λc r=>by rw[ac (ah r fr)];exact r) λc ys r=>by rw[ac (ah r fr)];exact r
     rcases hc' with z|z
     .rw[z];exact ah q fi.1
     .exact ah z fi.1
  refine⟨.ref s.heap.objs.size,_,I1,rfl,⟨_,xs[i].2.1,kvs[i].1,kvs[i].2,fr,rfl,hb,rfl,hk⟩,⟨_,_,hit''⟩,λb hb=>?_⟩;have:b=it:=by simpa using hb
  subst this;rw[ac (II (Iy st))];exact fi.1
 done:=by intro X hP hw hK hc i pins s σ H E I hf st hg;subst hP hw hK;obtain⟨hd,hi⟩:=hg;obtain⟨ok,ov,st⟩:=st;obtain⟨eo,_⟩:=(show ObjOk X.prog X.w H s.heap d (.frz o u) from I.hok d _ hd);obtain⟨f0,f1,f2,f3,f4,f5⟩:=hf it (by simp);exact sU (I.ok.hd hc) st ⟨o,eo,hex,hdat⟩ (by lia) λh' eb=>⟨rfl,I.turned (t':=s.toks) (λb o hb e=>eb b o hb e) f0 f1 f3 f4 f5⟩
 self:=λA i s Q E st h=>by obtain⟨ok,ov,st⟩:=st;have hT:s.TypeIs (.ref it) "dict_itemiterator":=⟨_,st,rfl⟩;refine LG hT F.slot_dict_itemiterator_iter (Jh F.slot_dict_itemiterator_iter hT (entryFor_alias (id':="dict_keyiterator.__iter__") (by kernel_rfl) rfl (by decide +kernel) (by kernel_rfl):entryFor table "dict_itemiterator.__iter__"=some Builtin.«dict_keyiterator.__iter__») ?_ (F.args_dict_itemiterator_iter_1 _));show wpAny _ _ (ret (.ref it)) _ _ s;exact Ig ⟨_,rfl, "dict_itemiterator",_,hT,JB.lookup,h⟩
section
variable {X:Cx}{es:List Expr}{k0:Nat}{sh:Pos}
noncomputable def FR (X:Cx)(tl:TE):TI:=λσ H R=>tl σ H λx H1=>∃ d kvs u,x=.ref d/\(u=.dT kvs\/(u=.dK []/\kvs=[]))/\((∃ o,H1 d=some (.frz o u)/\R (Er d o u kvs) H1)\/(H1 d=some u/\∀ o,(∀ o' v,X.H₀ d≠some (.frz o' v))->R (Er d o u kvs) (aG H1 d (.frz o u))))
theorem xJ (hl:PE X l tl) (hbase:autoParam (attributeBase l "items" X.env (eval l X.env)=eval l X.env) MR._auto_1) (hline:autoParam ((apos.endLine==cpos.line)=true) MR._auto_1):PI X (.Tuple es k0 sh) (.Call (.Attribute l "items" apos) [] [] cpos) (FR X tl):=by
 intro pins s σ H R I h;refine wpAny_Call_method0_late hbase hline (bX (hl pins s σ H _ I h) λv s1 ⟨x,H1,I1,r1,q1⟩=>?_);obtain⟨d,kvs,u,e,hu,q⟩:=q1;subst e;cases r1;have CJ:qS u:=by rcases hu with rfl|⟨rfl,_⟩<;>exact True.intro
 have fin:∀(o:Obj)(H2:Hp),Inv X pins σ H2 s1->H2 d=some (.frz o u)->R (Er d o u kvs) H2->MethodOn X.prog X.w X.A "items" cpos (.ref d) [] (λv s1=>wpAny (model X.prog X.w) X.A (pyIter v) (He X pins σ (.Tuple es k0 sh) R) X.xe s1) X.xe s1:=λo H2 I2 e2 q2=>by
  obtain⟨eo,_⟩:=(show ObjOk X.prog X.w H2 s1.heap d (.frz o u) from I2.hok d _ e2);have key:(d==sysModules)=false/\∃ en ep,o.ExactDict/\o.data=.dict en ep/\en.size=kvs.length:=by
   rcases hu with rfl|⟨rfl,rfl⟩
   .obtain⟨_,hd,xs,rel,o',en,ep,eo',hex,hdat,hes,_,_⟩:=kA I2.hok (.inr ⟨o,e2⟩);rw[eo]at eo';cases eo';exact⟨hd,en,ep,hex,hdat,by rw[size_of_entries hes,Lp rel]⟩
   .obtain⟨_,hd,vs,rel,o',en,ep,eo',hex,hdat,_,hpr,_⟩:=kz I2.hok (.inr ⟨o,e2⟩);rw[eo]at eo';cases eo';refine⟨hd,en,ep,hex,hdat,?_⟩;have h1:=rel.length;have h2:=hpr.length;simp at h1 h2 ⊢;simpa[<- h1] using h2
  obtain⟨hd,en,ep,hex,hdat,aR⟩:=key;have hty:s1.TypeIs (.ref d) "dict":=⟨o,eo,hex.1⟩;have hnod:∀ a,Value.ref d=.ref a->∃ ob,s1.heap.get? a=some ob/\ob.dict=none:=λa e=>by cases e;exact⟨o,eo,hex.2.1⟩
  refine⟨"dict", "dict.items",IZ,PySem.F.slot_dict_items,PySem.F.type_dict_items,hty,hnod,JN rfl (PySem.evalArgs_none ?_)⟩;refine KM PySem.F.slot_dict_items hty PySem.F.entry_dict_items (PySem.F.args_dict_items_1 _) (rf d hd) ⟨⟨en,ep,o,eo,hex,hdat⟩,?_⟩;have I3:Inv X pins σ H2 { s1 with heap:=s1.heap.push { cls:=.type "dict_items",data:=.fields #[.ref d] } }:=I2.kept (t':=s1.toks) λb o e=>Ie _ e;have e3:({ s1 with heap:=s1.heap.push { cls:=.type "dict_items",data:=.fields #[.ref d] } }:MH).heap.get? d=some o:=Ie _ eo;generalize hs3:({ s1 with heap:=s1.heap.push { cls:=.type "dict_items",data:=.fields #[.ref d] } }:MH)=s3 at I3 e3;have hv:s3.heap.IsItemsView s1.heap.objs.size d:=by rw[<- hs3];exact⟨_,Iv _ rfl,rfl,rfl⟩
  show wpAny _ _ (pyIter (.ref s1.heap.objs.size)) _ _ _;refine sS hv ⟨o,e3,hex,hdat⟩ ?_;refine⟨s3.heap.objs.size,[s3.heap.objs.size],_,_,H2,rfl,I3.kept (t':=s3.toks) λb o e=>Ie _ e,sV (hu.imp id And.right) hex hdat aR,⟨_,_,Iv _ rfl⟩,λb hb=>?_,q2⟩;have e:b=s3.heap.objs.size:=by simpa using hb
  subst e;exact I3.fpOk (Ih _) (I3.hok.fresh (Ih _))
 rcases q with⟨o,e1,q⟩|⟨e1,q⟩
 .exact fin o H1 I1 e1 q
 .have hob:∃ o,s1.heap.get? d=some o:=by
   rcases hu with rfl|⟨rfl,_⟩
   .obtain⟨_,_,_,_,o,_,_,ho,_⟩:=(show ObjOk X.prog X.w H1 s1.heap d (.dT kvs) from I1.hok d _ e1);exact⟨o,ho⟩
   .obtain⟨_,_,_,_,o,_,_,ho,_⟩:=(show ObjOk X.prog X.w H1 s1.heap d (.dK []) from I1.hok d _ e1);exact⟨o,ho⟩
  obtain⟨o,ho⟩:=hob;exact fin o _ (I1.frz e1 CJ ho) af (q o (I1.nofrz e1 CJ))
end
section
variable {X:Cx}
theorem v7:∀{vs:List V}{its:List MK},vs.length=its.length->(∀(i:Nat) v u,vs[i]?=some v->its[i]?=some u->RelV v u)->Vals vs its
 | [],[],_,_=>.nil
 | [],_::_,e,_=>by cases e
 |_::_,[],e,_=>by cases e
 |v::vs,u::its,e,f=>.cons (f 0 v u rfl rfl) (v7 (by simpa using e) λi w z a b=>f (i+1) w z (by simpa using a) (by simpa using b))
noncomputable def BC (ta:TA):TE:=λσ H Q=>ta σ H λvs H1=>∃ j:Int,vs=[.int j]/\0<=j/\j<=1000/\∀ l,H1 l=none->Q (.ref l) (aG H1 l (.lst ((List.range j.toNat).map λk=>.int (k:Nat))))
theorem xK (hc:X.calm=true) (hgl:Gl X "list") (hml:X.mg "list"=none) (hvl:bootBuiltins "list"=some (.type "list")) (hg:Gl X "range") (hm:X.mg "range"=none) (ha:PA X [a] ta) (hs:autoParam (starEach [a] X.env=[(false,eval a X.env)]) MR._auto_1)
 (hs2:autoParam (starEach [.Call (.Name "range" p2) [a] [] pos2] X.env=[(false,eval (.Call (.Name "range" p2) [a] [] pos2) X.env)]) MR._auto_1):PE X (.Call (.Name "list" p) [.Call (.Name "range" p2) [a] [] pos2] [] pos) (BC ta):=by
 intro pins s σ H Q I h;refine Call_ (je I hgl hml hvl (JY ?_ hs2 rfl));rw[hs2];show wpAny _ _ (spliced ((false,eval (.Call (.Name "range" p2) [a] [] pos2) X.env)::[])) _ _ s;refine JZ (Call_ (je I hg hm boot_range (JY (bX (ha pos2 pins s σ H _ I h) λus s1 ⟨vs,H1,I1,r1,q1⟩=>?_) hs rfl)));obtain⟨j,e,j0,j1,q⟩:=q1;subst e;cases r1 with
 |cons r rr=>
  cases rr;obtain⟨t,rfl⟩:=r;refine call_range_1 (KI ?_);have I2:Inv X pins σ H1 { s1 with heap:=s1.heap.push { cls:=.type "range",data:=.fields #[.int 0 s1.toks,.int j t,.int 1 (s1.toks+1)] },toks:=s1.toks+1+1 }:=I1.kept λb o e=>Ie _ e;have hr:IsRange ({ s1 with heap:=s1.heap.push { cls:=.type "range",data:=.fields #[.int 0 s1.toks,.int j t,.int 1 (s1.toks+1)] },toks:=s1.toks+1+1 }:MH).heap s1.heap.objs.size 0 j 1 s1.toks t (s1.toks+1):=Iv _ rfl;generalize ({ s1 with heap:=s1.heap.push { cls:=.type "range",data:=.fields #[.int 0 s1.toks,.int j t,.int 1 (s1.toks+1)] },toks:=s1.toks+1+1 }:MH)=s2 at I2 hr;have hn:Builtin.Range.rangeSize 0 j 1=(j.toNat:Nat):=by rw[rangeSize_one];split<;>lia
  refine call_list_range (I2.ok.hd hc) hr (small_one (by lia) (by lia) (by lia) (by lia)) hn (by lia) λh' tk acc c' kp e it=>?_;obtain⟨i1,i2⟩:=it;have rv:Vals ((List.range j.toNat).map λk=>.int (k:Nat)) acc.toList:=by
   refine v7 (by rw[Ik,JH,Jx,i1]) λi v w ev ew=>?_;obtain⟨t',rfl⟩:=i2 i w (by rw[<- IW];exact ew);rw[IH]at ev;have hi:i<j.toNat:=by have:=(Iz.mp ew).1;rw[Jx,i1]at this;exact this
   rw[Mg hi]at ev;cases ev;exact⟨t',by congr 1;lia⟩
  have e:h'.get? s2.heap.objs.size=some { cls:=.type "list",dict:=none,data:=.seq acc.toList.toArray c',slots:=#[] }:=by rw[Array.toArray_toList];exact e
  exact⟨.ref s2.heap.objs.size,_,I2.laid (t':=tk) kp (Ih _) (show ObjOk X.prog X.w _ h' _ (.lst ((List.range j.toNat).map λk=>.int (k:Nat))) from⟨by rw[Ik,JH,I_];lia,acc.toList,c',rv,e⟩),rfl,q _ (I2.hok.fresh (Ih _))⟩
end
section
open PySem.MeetsSeq PySem.SeqAt
open PySem.AutoSeq1 (wpAny_loadPart')
end
noncomputable def rg:List Int->Int
 | []=>0
 |x::r=>r.foldl (λa b=>if b<a then b else a) x
theorem xL (h:l≠[])(z:Int):rg (l++[z])=if z<rg l then z else rg l:=by
 cases l with
 |nil=>exact(h rfl).elim
 |cons x r=>show(r++[z]).foldl _ x=_;rw[Kv];rfl
theorem nC (xs:Array (Int×Tok)):∀ k,k<xs.size->numAt xs (argBest (λi j=>decide (numAt xs i<numAt xs j)) k)=rg ((xs.toList.map (·.1)).take (k+1))
 |0,h=>by
  have e:xs.toList.map (·.1)≠[]:=λz=>by have:=JF List.length z;simp at this;rw[this]at h;simp at h
  cases q:xs.toList.map (·.1) with
  |nil=>exact(e q).elim
  |cons y r=>
   have:(xs[0]?.map (·.1))=some y:=by rw[<- IW,<- IH,q];rfl
   show numAt xs 0=y;unfold numAt;rw[this];rfl
 |k+1,h=>by
  have ih:=nC xs k (by lia);have ez:(xs.toList.map (·.1))[k+1]?=some (numAt xs (k+1)):=by rw[IH,IW];unfold numAt;rw[Array.getElem?_eq_getElem h];rfl
  have et:(xs.toList.map (·.1)).take (k+1+1)=(xs.toList.map (·.1)).take (k+1)++[numAt xs (k+1)]:=by rw[List.take_succ,ez];rfl
  have ne:(xs.toList.map (·.1)).take (k+1)≠[]:=λz=>by have h9:=JF List.length z;rw[J8,Ik,Jx,Jr]at h9;lia
  rw[et,xL ne,<- ih];show numAt xs (if (decide (numAt xs (k+1)<numAt xs (argBest _ k)))=true then k+1 else argBest _ k)=_;by_cases hl:numAt xs (k+1)<numAt xs (argBest (λi j=>decide (numAt xs i<numAt xs j)) k)
  .rw[Il (IA hl),Il hl]
  .rw[Ij (by simpa using hl),Ij hl]
theorem nE:∀{ns:List Int}{its:List MK},Vals (ns.map V.int) its->∃ ps:List (Int×Tok),its=ps.map (λp=>.int p.1 p.2)/\ps.map (·.1)=ns
 | [],_,h=>by cases h;exact⟨[],rfl,rfl⟩
 |n::ns,_,h=>by
  cases h with
  |cons r rr=>obtain⟨t,rfl⟩:=r;obtain⟨ps,rfl,e⟩:=nE rr;exact⟨(n,t)::ps,rfl,by rw[Im,e]⟩
theorem xM (hc:X.calm=true):CallR X (.builtin "min") (λxs H Q=>∃ p ns,xs=[.ref p]/\SqL X.K H p (ns.map V.int)/\ns≠[]/\Q (.int (rg ns)) H):=by
 intro pins s σ H xs us Q I r h;obtain⟨p,ns,rfl,hq,hne,q⟩:=h;obtain⟨u,rfl,rx⟩:=fQ r;cases rx;obtain⟨its,rv,pl,hz⟩:=I.list hq;obtain⟨ps,rfl,e⟩:=nE rv;have hl:s.heap.IsList p (intItems ps.toArray):=by
  have:intItems ps.toArray=(ps.map (λp=>Value.int p.1 p.2)).toArray:=by simp[intItems]
  rw[this];exact pl.isList
 have hpos:0<ps.toArray.size:=by
  cases ps with
  |nil=>exact(hne e.symm).elim
  |cons _ _=>simp
 refine min_intList (I.ok.hd hc) hl hpos λv h' tk ev kp=>?_;obtain⟨t,rfl⟩:=intItems_at ev;rw[nC ps.toArray _ (by lia)];have ef:(ps.toArray.toList.map (·.1)).take (ps.toArray.size-1+1)=ns:=by rw[Jo (by simp;lia)];simpa using e
 rw[ef];exact⟨.int (rg ns),H,I.kept (t':=tk) kp,⟨t,rfl⟩,q⟩
end L2
namespace L2
open PySem PySem.Spec PySem.Calls PyProof.Rows ST
section
variable {prog:MJ}{w:World}{A:ML}{E:MK->MH->Prop}{s:MH}
end
section
variable {X:Cx}
end
end L2
namespace L2
open PySem PySem.Spec PySem.Calls PyProof.Rows
section
variable {X:Cx}
end
end L2
namespace L2
open PySem PySem.Spec PyProof.Rows
section
variable {X:Cx}{hc hc2:Str}{Ch Ch2:Addr}{np hpos np2 hpos2 pos epos:Pos}{b₀ c₀:Stmt}{suite suite2:List Stmt}{ts ts2:TS}{te:TX}{e:Expr}
end
open Sem (wp)
open Builtin
section
variable {prog:MJ}{w:World}{A:ML}{E:MK->MH->Prop}{s:MH}
end
open Sem (wp)
open Builtin
section
variable {prog:MJ}{w:World}{A:ML}{E:MK->MH->Prop}{s:MH}
end
noncomputable def nF (kts:List (Addr×List V))(a:Addr)(o:Obj)(ns:List Int):Hp:=λb=>match kts.lookup b with
 |some xs=>some (.tup xs)
 |none=>if b=a then some (.frz o (.lst (ns.map V.int))) else none
section
variable {kts:List (Addr×List V)}{a b:Addr}{o:Obj}{ns:List Int}{xs:List V}
theorem BD (e:kts.lookup b=some xs):nF kts a o ns b=some (.tup xs):=by unfold nF;rw[e]
theorem BE (e:kts.lookup a=none):nF kts a o ns a=some (.frz o (.lst (ns.map V.int))):=by unfold nF;rw[e];exact Il rfl
theorem BF (e:kts.lookup b=none)(n:b≠a):nF kts a o ns b=none:=by unfold nF;rw[e];exact Ij n
end
theorem kJ:∀{vs:List MK}{ns:List Int},IntsAre vs ns->Vals (ns.map V.int) vs
 |_,_,.nil=>.nil
 |_,_,.cons n t h=>.cons ⟨t,rfl⟩ (kJ h)
theorem xN {P:MJ}{w:World}{K:MI}{mg mb:Str->Option MK}{CX:CXT}{k:Nat}{fa a:Addr}{fd:FuncData}{x:Str}{sp:Sp}{s₁:MH}{vs:List MK}{ns:List Int}{kts:List (Addr×List V)}
 (KX:K.In s₁.heap) (hns:s₁.heap.Ns mainGlobals mg) (hb:s₁.heap.Ns builtinsNs mb) (hbb:∀ x:Str,x≠"__name__"->mb x=bootBuiltins x) (hlim:s₁.heap.NoLimit) (hg:s₁.gens=#[])
 (ha:s₁.heap.get? a=some { cls:=.type "list",data:=.seq vs.toArray }) (hi:IntsAre vs ns) (hl:ns.length<=sizeLine) (hr:Room k callerA)
 (hK:∀ o,K.lookup a=some o->o.cls=.type "list"->False)
 (hT:∀ b xs,kts.lookup b=some xs->K.lookup b=none/\∃(o:Obj)(its:Array MK)(n:Nat),s₁.heap.get? b=some o/\o.cls=.type "tuple"/\o.data=.seq its n/\its.size<=sizeLine/\Vals xs its.toList)
 (hM:∀ p∈K,∀ b xs,DE p.2=some (b,xs)->kts.lookup b=some xs)
 (F:∀ base:Heap,K.In base->base.Ns mainGlobals mg->FnOk P w K mg base CX k fa fd [x] sp) (hbind:∀(s:MH)(u:MK),BindsTo s fd ⟨[u],[]⟩ [(x,u)])
 (hsp:∀ H:Hp,(∃ o,H a=some (.frz o (.lst (ns.map V.int))))->sp [.ref a] H (λv _=>v=.bl true) λ_ _ _=>False)
 (hCX:∀ H e s',CX [] H s₁ (λ_ _ _=>False) e s'->False) :
 codeAny (model P w) callerA (.call (.ref fa) ⟨[.ref a],[]⟩) (λr s'=>r=.ok (.ret (.bool true))/\OldK s₁.heap s'.heap/\s'.os=s₁.os/\AllBare s'.gens) s₁:=by
 have rv:=kJ hi;have noK:K.lookup a=none:=by
  cases q:K.lookup a with
  |none=>rfl
  |some o=>have e:=KX a o q;rw[ha]at e;cases e;exact(hK _ q rfl).elim
 have noT:kts.lookup a=none:=by
  cases q:kts.lookup a with
  |none=>rfl
  |some xs=>obtain⟨_,o,its,n,e,c,_⟩:=hT a xs q;rw[ha]at e;cases e;exact absurd c (by simp)
 obtain⟨ob,eob⟩ : ∃ ob:Obj,ob={ cls:=.type "list",data:=.seq vs.toArray }:=⟨_,rfl⟩;rw[<- eob]at ha;generalize eH:nF kts a ob ns=H;have Ha:H a=some (.frz ob (.lst (ns.map V.int))):=by rw[<- eH];exact BE noT
 have Ht:∀ b xs,kts.lookup b=some xs->H b=some (.tup xs):=λb xs e=>by rw[<- eH];exact BD e
 have Hn:∀ b,kts.lookup b=none->b≠a->H b=none:=λb e n=>by rw[<- eH];exact BF e n
 have freeK:∀ b o,K.lookup b=some o->H b=none:=λb o e=>by
  refine Hn b ?_ λz=>by rw[z,noK]at e;cases e
  cases q:kts.lookup b with
  |none=>rfl
  |some xs=>rw[(hT b xs q).1]at e;cases e
 have freeD:∀(b:Addr)(o:Obj)(es:Array DictEntry)(ep:Nat),s₁.heap.get? b=some o->o.data=.dict es ep->H b=none:=λb o es ep e d=>by
  refine Hn b ?_ λz=>?_
  .cases q:kts.lookup b with
   |none=>rfl
   |some xs=>obtain⟨_,o',its,n,e',_,d',_⟩:=hT b xs q;rw[e]at e';cases e';rw[d]at d';cases d'
  .rw[z,ha]at e;cases e;rw[eob]at d;cases d
 have nsK:∀{b:Addr}{m:Str->Option MK},s₁.heap.Ns b m->(sn s₁.heap H).Ns b m:=λ{b m} ⟨o,es,ep,e,d,r⟩=>⟨o,es,ep,sq e (freeD b o es ep e d),d,r⟩;have hKb:K.In (sn s₁.heap H):=λb o e=>sq (KX b o e) (freeK b o e);have hMd:Mod K mg (sn s₁.heap H):=⟨hKb,nsK hns,⟨mb,nsK hb,hbb⟩,let ⟨mc,h1,h2⟩:=hlim;⟨mc,nsK h1,h2⟩⟩;have hok:HOk P w H s₁.heap:=λb u e=>by
  cases q:kts.lookup b with
  |some xs=>rw[Ht b xs q]at e;cases e;obtain⟨_,o,its,n,e1,c,d,z,r⟩:=hT b xs q;refine⟨by rw[r.length];simpa using z,its.toList,r,o,e1,c,n,by simpa using d⟩
  |none=>
   by_cases hba:b=a
   .rw[hba,Ha]at e;cases e;rw[hba];exact⟨ha,by rw[Ik];exact hl,vs,_,rv,by rw[ha,eob]⟩
   .rw[Hn b q hba]at e;cases e
 have e0:Env0 P w K mg (sn s₁.heap H) callerA [] s₁ H:=⟨rfl,hMd,λb o e=>Ba e,MB (xc _ _),trivial,λb hb=>absurd (show b∈([]:List Addr) from hb) (by simp),hok,.of_eq hg,λp hp b xs e=>Ht b xs (hM p hp b xs e)⟩;refine LM ((F _ hKb (nsK hns)).run callerA [] s₁ H ⟨[.ref a],[]⟩ [.ref a] [.ref a] _ _ hr e0 (hbind s₁ (.ref a)) (.cons rfl .nil) (hsp H ⟨ob,Ha⟩)) λr s' h=>?_;cases r with
 |error e=>exact(hCX H e s' h).elim
 |ok fl=>
  cases fl with
  |next=>exact False.elim h
  |brk=>exact False.elim h
  |cont=>exact False.elim h
  |ret u=>
   obtain⟨v,H',os,bare,un,hok',r',q⟩:=h;have q':v=.bl true:=q;subst q';obtain rfl:u=Value.bool true:=r';refine⟨rfl,OldK.of_keep λb o e=>?_,os,bare⟩;by_cases hba:b=a
   .rw[hba]at e ⊢;have z2:=un.frzs a ob _ Ha;obtain⟨e2,_⟩:=hok' a _ z2;rw[ha]at e;cases e;exact e2
   .refine un.keep b o e ?_ (by intro z;exact absurd (show b∈([]:List Addr) from z) (by simp)) (by simp);cases q:kts.lookup b with
    |none=>exact .inl (Hn b q hba)
    |some xs=>exact .inr ⟨xs,Ht b xs q⟩
section
variable {K K':MI}{g:Addr}{kts:List (Addr×List V)}
noncomputable def Ho (K:MI):Bool:=K.all λp=>(DE p.2).isNone
structure SubK (K K':MI):Prop where
 look:∀ b o,K.lookup b=some o->(∀ its n,o.data≠.seq its n)->K'.lookup b=some o
theorem xO:SubK K K:=⟨λ_ _ e _=>e⟩
theorem SubK.code (S:SubK K K')(h:PySem.W.codeIn K cd q=true):PySem.W.codeIn K' cd q=true:=by
 unfold PySem.W.codeIn at h ⊢;cases cd with
 |ref c=>
  dsimp only at h ⊢;cases e:K.lookup c with
  |none=>rw[e]at h;cases h
  |some o=>
   obtain⟨o1,o2,o3,o4⟩:=o;cases o3 with
   |fields vs=>rw[S.look c _ e (λ_ _ z=>nomatch z)];rw[e]at h;exact h
   |_=>rw[e]at h;cases h
 |_=>cases h
theorem SubK.keep (S:SubK K K')(e:K.lookup f=some ⟨o1,o2,.func fd,o4⟩):PySem.W.keepIn K' (.ref f)=true:=by unfold PySem.W.keepIn;dsimp only;rw[S.look f _ e (λ_ _ z=>nomatch z)]
end
noncomputable def v8:MK->Bool
 | .type n=>n=="list"
 |_=>false
noncomputable def Hq (K:MI):Bool:=K.all λp=>!v8 p.2.cls
theorem zK:∀{K:MI},Hq K=true->K.lookup a=some o->o.cls=.type "list"->False
 | [],_,e,_=>by cases e
 |(b,x)::r,h,e,c=>by
  unfold Hq at h;rw[List.all_cons,IV]at h;rw[KU]at e;split at e
  .cases e;rw[c]at h;have h1:=h.1;simp[v8]at h1
  .exact zK (K:=r) h.2 e c
section
variable {l:PySem.W.OpenLaw}{n k:Nat}{q:MJ}{loose:List Str}{XP:(Str->Option MK)->Heap->Prop}{YP:World->Heap->Prop}{d:DefRec}{K:Params->MI}{CX:World->CXT}{sp:World->Sp}{x:Str}
theorem zL (hn:l.most=some n)(hn2:n<=sizeLine)(hdf:d.params.defaults=[])(hr:Room k callerA)(hY:∀(w:World)(h:Heap),YP w h->(K w.params).In h)
 (hL:∀ w:World,Hq (K w.params)=true/\Ho (K w.params)=true)
 (F:∀(w:World)(mg:Str->Option MK)(fa:Addr)(h:Heap),(K w.params).In h->h.Ns mainGlobals mg->mg d.name=some (.ref fa)->
   ∃ fd:FuncData,(∀(s:MH)(u:MK),BindsTo s fd ⟨[u],[]⟩ [(x,u)])/\∀ base:Heap,(K w.params).In base->base.Ns mainGlobals mg->FnOk l.prog w (K w.params) mg base (CX w) k fa fd [x] (sp w))
 (hsp:∀(w:World)(H:Hp)(a:Addr)(ns:List Int),ns.length<=n->(∃ o,H a=some (.frz o (.lst (ns.map V.int))))->sp w [.ref a] H (λv _=>v=.bl true) λ_ _ _=>False)
 (hCX:∀(w:World)(H:Hp)(s:MH)(e:MK)(s':MH),CX w [] H s (λ_ _ _=>False) e s'->False) :
 PySem.W.WalkO q loose XP YP l.row.toRowW d [] (λf vs=>PySem.call f vs):=by
 refine Att.attach_call hn hdf λw s₀ s₁ mg mb fa o pm cd doc a vs ns G Y ho hd hcd hmg hobj hints aR hg=>?_;have KX:=hY w _ Y;obtain⟨fd,hb,hF⟩:=F w mg fa _ KX G.T.g hmg;exact xN (kts:=[]) KX G.T.g G.T.b G.T.builtins G.T.nolimit hg hobj hints (IL aR hn2) hr (λo e c=>zK (hL w).1 e c) (λb xs e=>by cases e)
  (λp hp b xs e=>by have:=Jq.mp (hL w).2 p hp;rw[e]at this;cases this) hF hb (λH hS=>hsp w H a ns aR hS) λH e s'=>hCX w H s₁ e s'
end
end L2
namespace L2
open PySem PySem.Spec PySem.Calls PyProof.Rows
section
variable (P:MJ)(w:World)
end
section
variable {P:MJ}{w:World}{h h':Heap}{A:ML}{E:MK->MH->Prop}{s:MH}
end
noncomputable abbrev K0:=Sum Int (List Int)
noncomputable abbrev NX:=List (List K0×Addr×MK)
noncomputable def NVs (H:Hp):List K0->List V->Prop
 | [],vs=>vs=[]
 | .inl i::ks,vs=>∃ r,vs=.int i::r/\NVs H ks r
 | .inr l::ks,vs=>∃ c r,vs=.ref c::r/\H c=some (.tup (l.map V.int))/\NVs H ks r
def KeyN (H:Hp)(k:List K0)(b:Addr):Prop:=∃ vs,H b=some (.tup vs)/\NVs H k vs
section
variable {H H':Hp}
theorem NVs.mono (kt:∀ b vs,H b=some (.tup vs)->H' b=some (.tup vs)):∀{k:List K0}{vs:List V},NVs H k vs->NVs H' k vs
 | [],_,h=>h
 | .inl i::ks,_,⟨r,e,h⟩=>⟨r,e,NVs.mono kt h⟩
 | .inr l::ks,_,⟨c,r,e,e2,h⟩=>⟨c,r,e,kt _ _ e2,NVs.mono kt h⟩
theorem KeyN.mono (kt:∀ b vs,H b=some (.tup vs)->H' b=some (.tup vs))(h:KeyN H k b):KeyN H' k b:=let ⟨vs,e,q⟩:=h;⟨vs,kt _ _ e,q.mono kt⟩
end
section
variable {P:MJ}{w:World}{H:Hp}{h:Heap}{a:Addr}
end
section
variable {X:Cx}{pins:List (Addr×Obj)}{σ:St}{H:Hp}{s:MH}{a b:Addr}{xs:NX}{k:List K0}{A:ML}{E:MK->MH->Prop}
end
section
variable {X:Cx}{value o i:Expr}{td ty tv:TE}{pos pos':Pos}
end
end L2
namespace L2
open PySem PySem.Spec PySem.Calls PyProof.Rows ST
section
variable {X:Cx}
theorem qi:∀{vs:List V}{us:List MK}{its:List TItem},TupsIn H vs its->Vals vs us->us=valsT its
 |_,_,_,.nil,.nil=>rfl
 |_,_,_,.cons q t,.cons r s=>by obtain⟨rfl,q⟩:=q;cases r;rw[qi t s];rfl
theorem pB (hN:N<=300) (hs:iS X.prog X.w N):CallR X (.builtin "sorted") (λxs H Q=>∃(l:Addr)(vs:List V)(its:List TItem),xs=[.ref l]/\Rd H l (.lst vs)/\TupsIn H vs its/\its.length<=N/\(∀ x∈its,x.1≠[])/\(its.map (·.1)).Nodup/\
 ∀(l':Addr)(ys:List TItem),H l'=none->ys.Perm its->ys.Pairwise (λx y=>lexB x.1 y.1=true)->Q (.ref l') (aG H l' (.lst (ys.map λy=>.ref y.2)))):=by
 intro pins s σ H xs us Q I r h;obtain⟨l,vs,its,rfl,hl,hp,hz,hne,nd,q⟩:=h;obtain⟨u,rfl,ru⟩:=fQ r;obtain rfl:u=Value.ref l:=ru;obtain⟨_,us,n,rv,hg⟩:=(show ObjOk X.prog X.w H s.heap l (.lst vs) from hl.ok I.hok);obtain⟨_,_,g3⟩:=hp.get rv;obtain rfl:=qi hp rv;have hvl:(valsT its).length=its.length:=by simp[valsT]
 have sl:=I_;refine Calls.call_function_entry kind_sorted plain_sorted entry_sorted (args_sorted1 _) ?_;unfold Builtin.«sorted»;refine Ic (m:=checkCount "sorted" 1 1 _) (Ig (Ic (collect_list (l:=l) (vs:=valsT its) ⟨_,hg,rfl,n,rfl⟩ ?_ (by rw[hvl];lia))));have k1:∀ b o,s.heap.get? b=some o->((s.heap.push (seqObj "list" #[] 0)).update s.heap.objs.size (Obj.mapSeq (·++ (valsT its).toArray))).get? b=some o:=λb o e=>(J_ _ _ (Jn (II (Iy e)))).trans (Ie _ e);have g1:s.heap.objs.size<=((s.heap.push (seqObj "list" #[] 0)).update s.heap.objs.size (Obj.mapSeq (·++ (valsT its).toArray))).objs.size:=LL (Iy (get?_update_seq (Iv _ rfl) (·++ (valsT its).toArray)));generalize ((s.heap.push (seqObj "list" #[] 0)).update s.heap.objs.size (Obj.mapSeq (·++ (valsT its).toArray)))=h1 at k1 g1;refine Ic (wpAny_newList ?_ (by rw[hvl];lia));have hoL:(h1.push (seqObj "list" (valsT its).toArray 0)).get? h1.objs.size=some (seqObj "list" (valsT its).toArray 0):=Iv _ rfl;have kk:∀ b o,s.heap.get? b=some o->(h1.push (seqObj "list" (valsT its).toArray 0)).get? b=some o:=λb o e=>Ie _ (k1 b o e);have t1:Tups X.prog X.w (h1.push (seqObj "list" (valsT its).toArray 0)) its:=⟨λx hx=>iQ (du I.hok (g3 x hx)) kk,hne,nd⟩;refine Ic (JT (Jh slot_list_sort ⟨_,hoL,rfl⟩ entry_list_sort ?body (args_list_sort _)))
 case body=>
  refine hs _ _ { s with heap:=h1.push (seqObj "list" (valsT its).toArray 0) } _ _ _ _ hoL t1 hz λys h2 c2 hp2 hw hl2 k2=>⟨_,rfl,?_⟩;have hf:H h1.objs.size=none:=I.hok.fresh g1;refine Ig ⟨_,rfl,.ref h1.objs.size,_,I.laid (a:=h1.objs.size) (o:=.lst (ys.map λy=>.ref y.2)) (t':=s.toks) (λb o e=>k2 b o (λz=>?_) (kk b o e)) g1 ?_,rfl,q h1.objs.size ys hf hp2 hw⟩
  .subst z;exact absurd (Iy e) (Nat.not_lt.mpr g1)
  .refine⟨by rw[Ik,hp2.length_eq];lia,valsT ys,c2,?_,hl2⟩;clear hl2 hw hp2;induction ys with
   |nil=>exact .nil
   |cons y ys ih=>exact .cons rfl ih
end
end L2
namespace L3
open PySem PySem.Spec PyProof.Rows L2
noncomputable abbrev DK:=Sum Key (List Key)
inductive D where
 |non|bl (b:Bool)|int (i:Int)|str (x:Str)|tup (ds:List D)|lst (ds:List D)|dic (ks:List DK) (ds:List D)
mutual
noncomputable def D.flat:D->Bool
 | .lst _=>false
 | .dic _ _=>false
 | .tup ds=>D.flats ds
 |_=>true
noncomputable def D.flats:List D->Bool
 | []=>true
 |d::ds=>d.flat&&D.flats ds
end
mutual
noncomputable def D.dep:D->Nat
 | .lst ds=>D.deps ds+1
 | .tup ds=>D.deps ds+1
 | .dic _ ds=>D.deps ds+1000
 |_=>0
noncomputable def D.deps:List D->Nat
 | []=>0
 |d::ds=>max d.dep (D.deps ds)
end
mutual
noncomputable def fP:D->D->Bool
 | .non,e=>match e with|.non=>true|_=>false
 | .bl a,e=>match e with|.bl b=>a==b|.int b=>(if a then 1 else 0)==b|_=>false
 | .int a,e=>match e with|.int b=>a==b|.bl b=>a==(if b then 1 else 0)|_=>false
 | .str a,e=>match e with|.str b=>a==b|_=>false
 | .tup as,e=>match e with|.tup bs=>eqDs as bs|_=>false
 | .lst as,e=>match e with|.lst bs=>eqDs as bs|_=>false
 | .dic ks as,e=>match e with|.dic ls bs=>decide (ks=ls)&&eqDs as bs|_=>false
noncomputable def eqDs:List D->List D->Bool
 | [],bs=>match bs with|[]=>true|_=>false
 |a::as,bs=>match bs with|b::r=>fP a b&&eqDs as r|[]=>false
end
mutual
theorem kK:∀ d:D,fP d d=true
 | .non=>rfl
 | .bl a=>by simp[fP]
 | .int a=>by simp[fP]
 | .str a=>by simp[fP]
 | .tup as=>by simp only[fP];exact eqDs_refl as
 | .lst as=>by simp only[fP];exact eqDs_refl as
 | .dic ks as=>by simp only[fP,LJ,KB];exact eqDs_refl as
theorem eqDs_refl:∀ ds:List D,eqDs ds ds=true
 | []=>rfl
 |d::ds=>by simp only[eqDs,kK d,eqDs_refl ds,Ki]
end
def DAt (H:Hp)(a:Addr)(ks:List DK)(vs:List V):Prop:=(∃ kvs:List (Key×V),Rd H a (.dK kvs)/\ks=kvs.map (λp=>.inl p.1)/\vs=kvs.map Prod.snd)\/∃ kvs:List (List Key×V),Rd H a (.dT kvs)/\ks=kvs.map (λp=>.inr p.1)/\vs=kvs.map Prod.snd
noncomputable def FS:HO->Prop
 | .lst _=>True
 | .dK _=>True
 | .dT _=>True
 | .ext _=>True
 |_=>False
def Mu (H:Hp)(a:Addr):Prop:=∃ o,H a=some o/\FS o
theorem Mu.lst (h:H a=some (.lst vs)):Mu H a:=⟨_,h,True.intro⟩
theorem Mu.same (h:Mu H a)(s:∀ o,H a=some o->H' a=some o):Mu H' a:=let ⟨o,e,m⟩:=h;⟨o,s o e,m⟩
theorem Mu.some (h:Mu H a):H a≠none:=by obtain⟨o,e,_⟩:=h;rw[e];simp
theorem C0 (h:Rd H a u):∃ o,H a=some o:=h.elim (λe=>⟨_,e⟩) λ⟨_,e⟩=>⟨_,e⟩
theorem zM (h:Rd H a u)(s:∀ o,H a=some o->H' a=some o):Rd H' a u:=h.imp (s _) λ⟨o,e⟩=>⟨o,s _ e⟩
theorem DAt.obj (h:DAt H a ks vs):∃ o,H a=some o:=h.elim (λ⟨_,e,_⟩=>C0 e) λ⟨_,e,_⟩=>C0 e
theorem DAt.keep (h:DAt H a ks vs)(s:∀ o,H a=some o->H' a=some o):DAt H' a ks vs:=h.imp (λ⟨kvs,e,r⟩=>⟨kvs,zM e s,r⟩) λ⟨kvs,e,r⟩=>⟨kvs,zM e s,r⟩
theorem DAt.inj (h:DAt H a ks vs)(g:DAt H a ls ws):ks=ls/\vs=ws:=by rcases h with⟨k1,e1|⟨o1,e1⟩,r1,r2⟩|⟨k1,e1|⟨o1,e1⟩,r1,r2⟩<;>rcases g with⟨k2,e2|⟨o2,e2⟩,q1,q2⟩|⟨k2,e2|⟨o2,e2⟩,q1,q2⟩<;>(rw[e1]at e2;cases e2;try exact⟨r1.trans q1.symm,r2.trans q2.symm⟩)
noncomputable def Hr:HO->Prop
 | .dK _=>False
 | .dT _=>False
 | .frz _ (.dK _)=>False
 | .frz _ (.dT _)=>False
 |_=>True
theorem DAt.no (h:DAt H a ks vs)(e:H a=some o)(n:Hr o):False:=by rcases h with⟨k,z|⟨o',z⟩,_⟩|⟨k,z|⟨o',z⟩,_⟩<;>(rw[e]at z;cases z;exact n)
mutual
noncomputable def Is (H:Hp)(m:Addr->Prop):D->V->Prop
 | .non,v=>v=.non
 | .bl b,v=>v=.bl b
 | .int i,v=>v=.int i
 | .str x,v=>v=.str x
 | .tup ds,v=>∃ a vs,v=.ref a/\H a=some (.tup vs)/\IsAll H m ds vs
 | .lst ds,v=>∃ a vs,v=.ref a/\((H a=some (.lst vs)/\m a)\/∃ o,H a=some (.frz o (.lst vs))/\m a)/\IsAll H m ds vs
 | .dic ks ds,v=>∃ a vs,v=.ref a/\(DAt H a ks vs/\m a)/\IsAll H m ds vs
noncomputable def IsAll (H:Hp)(m:Addr->Prop):List D->List V->Prop
 | [],vs=>vs=[]
 |d::ds,vs=>∃ v r,vs=v::r/\Is H m d v/\IsAll H m ds r
end
noncomputable def fixd:HO->Prop
 | .tup _=>True
 | .frz _ _=>True
 |_=>False
section
variable {H H':Hp}{m m':Addr->Prop}
mutual
theorem Is.mono (kp:∀ a o,H a=some o->(m a\/fixd o)->H' a=some o)(mm:∀ a o,H a=some o->m a->m' a):∀{d:D}{v:V},Is H m d v->Is H' m' d v
 | .non,_,h=>h
 | .bl _,_,h=>h
 | .int _,_,h=>h
 | .str _,_,h=>h
 | .tup ds,_,h=>by obtain⟨a,vs,e,h1,h2⟩:=h;exact⟨a,vs,e,kp a _ h1 (.inr True.intro),IsAll.mono kp mm h2⟩
 | .lst ds,_,h=>by
  obtain⟨a,vs,e,h1,h2⟩:=h;refine⟨a,vs,e,?_,IsAll.mono kp mm h2⟩;rcases h1 with⟨h1,h3⟩|⟨o,h1,h3⟩
  .exact .inl ⟨kp a _ h1 (.inl h3),mm a _ h1 h3⟩
  .exact .inr ⟨o,kp a _ h1 (.inr True.intro),mm a _ h1 h3⟩
 | .dic ks ds,_,h=>by obtain⟨a,vs,e,h1,h2⟩:=h;obtain⟨o,eo⟩:=h1.1.obj;exact⟨a,vs,e,⟨h1.1.keep λo e=>kp a o e (.inl h1.2),mm a o eo h1.2⟩,IsAll.mono kp mm h2⟩
theorem IsAll.mono (kp:∀ a o,H a=some o->(m a\/fixd o)->H' a=some o)(mm:∀ a o,H a=some o->m a->m' a):∀{ds:List D}{vs:List V},IsAll H m ds vs->IsAll H' m' ds vs
 | [],_,h=>h
 |d::ds,_,h=>by obtain⟨v,r,e,h1,h2⟩:=h;exact⟨v,r,e,Is.mono kp mm h1,IsAll.mono kp mm h2⟩
end
theorem Is.weak (mm:∀ a,m a->m' a)(h:Is H m d v):Is H m' d v:=h.mono (λ_ _ e _=>e) λa _ _=>mm a
theorem IsAll.weak (mm:∀ a,m a->m' a)(h:IsAll H m ds vs):IsAll H m' ds vs:=h.mono (λ_ _ e _=>e) λa _ _=>mm a
theorem Is.same (s:Same H H')(h:Is H m d v):Is H' m d v:=h.mono (λa o e _=>s a o e) λ_ _ _ z=>z
theorem IsAll.same (s:Same H H')(h:IsAll H m ds vs):IsAll H' m ds vs:=h.mono (λa o e _=>s a o e) λ_ _ _ z=>z
mutual
theorem Is.flat:∀{d:D}{v:V},d.flat=true->Is H m d v->Is H m' d v
 | .non,_,_,h=>h
 | .bl _,_,_,h=>h
 | .int _,_,_,h=>h
 | .str _,_,_,h=>h
 | .tup ds,_,f,h=>by obtain⟨a,vs,e,h1,h2⟩:=h;exact⟨a,vs,e,h1,IsAll.flat (by simpa only[D.flat] using f) h2⟩
 | .lst ds,_,f,_=>by simp[D.flat]at f
 | .dic ks ds,_,f,_=>by simp[D.flat]at f
theorem IsAll.flat:∀{ds:List D}{vs:List V},D.flats ds=true->IsAll H m ds vs->IsAll H m' ds vs
 | [],_,_,h=>h
 |d::ds,_,f,h=>by obtain⟨v,r,e,h1,h2⟩:=h;simp only[D.flats,IV]at f;exact⟨v,r,e,Is.flat f.1 h1,IsAll.flat f.2 h2⟩
end
mutual
theorem Is.inj:∀{d e:D}{v:V},Is H m d v->Is H m' e v->d=e
 | .non,e,_,h,g=>by cases e<;>first|rfl|(cases h;first|(obtain⟨_,_,z,_⟩:=g;cases z;done)|cases g)
 | .bl _,e,_,h,g=>by cases e<;>(cases h;first|(obtain⟨_,_,z,_⟩:=g;cases z;done)|(cases g;rfl)|cases g)
 | .int _,e,_,h,g=>by cases e<;>(cases h;first|(obtain⟨_,_,z,_⟩:=g;cases z;done)|(cases g;rfl)|cases g)
 | .str _,e,_,h,g=>by cases e<;>(cases h;first|(obtain⟨_,_,z,_⟩:=g;cases z;done)|(cases g;rfl)|cases g)
 | .tup ds,e,_,h,g=>by
  obtain⟨a,vs,rfl,h1,h2⟩:=h;cases e with
  |tup es=>obtain⟨b,ws,z,g1,g2⟩:=g;cases z;rw[h1]at g1;cases g1;rw[IsAll.inj h2 g2]
  |lst es=>obtain⟨b,ws,z,g1,g2⟩:=g;cases z;rcases g1 with⟨g1,_⟩|⟨o,g1,_⟩<;>(rw[h1]at g1;cases g1)
  |dic ls es=>obtain⟨b,ws,z,g1,g2⟩:=g;cases z;exact(g1.1.no h1 True.intro).elim
  |_=>cases g
 | .lst ds,e,_,h,g=>by
  obtain⟨a,vs,rfl,h1,h2⟩:=h;cases e with
  |tup es=>obtain⟨b,ws,z,g1,g2⟩:=g;cases z;rcases h1 with⟨h1,_⟩|⟨o,h1,_⟩<;>(rw[h1]at g1;cases g1)
  |lst es=>
   obtain⟨b,ws,z,g1,g2⟩:=g;cases z;have e:vs=ws:=by rcases h1 with⟨h1,_⟩|⟨o,h1,_⟩<;>rcases g1 with⟨g1,_⟩|⟨o',g1,_⟩<;>(rw[h1]at g1;cases g1;try rfl)
   subst e;rw[IsAll.inj h2 g2]
  |dic ls es=>obtain⟨b,ws,z,g1,g2⟩:=g;cases z;rcases h1 with⟨h1,_⟩|⟨o,h1,_⟩<;>exact(g1.1.no h1 True.intro).elim
  |_=>cases g
 | .dic ks ds,e,_,h,g=>by
  obtain⟨a,vs,rfl,h1,h2⟩:=h;cases e with
  |tup es=>obtain⟨b,ws,z,g1,g2⟩:=g;cases z;exact(h1.1.no g1 True.intro).elim
  |lst es=>obtain⟨b,ws,z,g1,g2⟩:=g;cases z;rcases g1 with⟨g1,_⟩|⟨o,g1,_⟩<;>exact(h1.1.no g1 True.intro).elim
  |dic ls es=>obtain⟨b,ws,z,g1,g2⟩:=g;cases z;obtain⟨e1,e2⟩:=h1.1.inj g1.1;subst e1 e2;rw[IsAll.inj h2 g2]
  |_=>cases g
theorem IsAll.inj:∀{ds es:List D}{vs:List V},IsAll H m ds vs->IsAll H m' es vs->ds=es
 | [],es,_,h,g=>by
  cases h;cases es with
  |nil=>rfl
  |cons e es=>obtain⟨_,_,z,_⟩:=g;cases z
 |d::ds,es,_,h,g=>by
  obtain⟨v,r,rfl,h1,h2⟩:=h;cases es with
  |nil=>cases g
  |cons e es=>obtain⟨w,q,z,g1,g2⟩:=g;cases z;rw[Is.inj h1 g1,IsAll.inj h2 g2]
end
theorem IsAll.length:∀{ds:List D}{vs:List V},IsAll H m ds vs->vs.length=ds.length
 | [],_,h=>by cases h;rfl
 |d::ds,_,h=>by obtain⟨v,r,rfl,_,h2⟩:=h;simp[IsAll.length h2]
theorem IsAll.append:∀{ds es:List D}{vs ws:List V},IsAll H m ds vs->IsAll H m es ws->IsAll H m (ds++es) (vs++ws)
 | [],_,_,_,h,g=>by cases h;exact g
 |d::ds,_,_,_,h,g=>by obtain⟨v,r,rfl,h1,h2⟩:=h;exact⟨v,r++_,rfl,h1,IsAll.append h2 g⟩
theorem IsAll.snoc (h:IsAll H m ds vs)(g:Is H m d v):IsAll H m (ds++[d]) (vs++[v]):=h.append ⟨v,[],rfl,g,rfl⟩
theorem IsAll.get:∀{ds:List D}{vs:List V}{i:Nat}{d:D},IsAll H m ds vs->ds[i]?=some d->∃ v,vs[i]?=some v/\Is H m d v
 | [],_,_,_,_,e=>by simp at e
 |d::ds,_,0,_,h,e=>by obtain⟨v,r,rfl,h1,h2⟩:=h;simp at e;subst e;exact⟨v,rfl,h1⟩
 |d::ds,_,i+1,_,h,e=>by obtain⟨v,r,rfl,h1,h2⟩:=h;obtain⟨w,a,b⟩:=IsAll.get (i:=i) h2 (by simpa using e);exact⟨w,by simpa using a,b⟩
theorem IsAll.take:∀{ds:List D}{vs:List V}(n:Nat),IsAll H m ds vs->IsAll H m (ds.take n) (vs.take n)
 |_,_,0,_=>rfl
 | [],_,n+1,h=>by cases h;exact rfl
 |d::ds,_,n+1,h=>by obtain⟨v,r,rfl,h1,h2⟩:=h;exact⟨v,r.take n,rfl,h1,IsAll.take n h2⟩
theorem IsAll.drop:∀{ds:List D}{vs:List V}(n:Nat),IsAll H m ds vs->IsAll H m (ds.drop n) (vs.drop n)
 |_,_,0,h=>h
 | [],_,n+1,h=>by cases h;exact rfl
 |d::ds,_,n+1,h=>by obtain⟨v,r,rfl,h1,h2⟩:=h;exact IsAll.drop n h2
end
section
variable {P:MJ}{w:World}{H:Hp}{s:MH}{m m':Addr->Prop}
theorem Es (ok:HOk P w H s.heap)(h:(H a=some (.lst vs)/\m a)\/∃ o,H a=some (.frz o (.lst vs))/\m a) :
 ∃ its:List MK,Vals vs its/\s.heap.IsList a its.toArray:=by
 have key:ObjOk P w H s.heap a (.lst vs)->∃ its:List MK,Vals vs its/\s.heap.IsList a its.toArray:=λ⟨_,its,n,r,e⟩=>⟨its,r,⟨_,e,rfl,n,rfl⟩⟩;rcases h with⟨h,_⟩|⟨o,h,_⟩
 .exact key (ok a _ h)
 .exact key (ok a _ h).2
theorem Et (ok:HOk P w H s.heap)(h:H a=some (.tup vs)):∃ its:List MK,Vals vs its/\s.heap.IsTuple a its.toArray:=by obtain⟨_,its,r,e⟩:=ok a _ h;exact⟨its,r,e⟩
theorem xP (n:Nat)(e:Nat->Bool):(List.range n).all e=true↔∀ j,j<n->e j=true:=by simp[Jq,IN]
theorem nG:∀(ds es:List D),eqDs ds es=true↔ds.length=es.length/\∀(j:Nat)(d e:D),ds[j]?=some d->es[j]?=some e->fP d e=true
 | [],[]=>by simp[eqDs]
 | [],e::es=>by simp[eqDs]
 |d::ds,[]=>by simp[eqDs]
 |d::ds,e::es=>by
  simp only[eqDs,IV,nG ds es,Iw,Nat.add_right_cancel_iff];constructor
  .rintro⟨h1,h2,h3⟩;refine⟨h2,λj x y ex ey=>?_⟩;cases j with
   |zero=>simp at ex ey;subst ex;subst ey;exact h1
   |succ j=>exact h3 j x y (by simpa using ex) (by simpa using ey)
  .rintro⟨h2,h3⟩;exact⟨h3 0 d e rfl rfl,h2,λj x y ex ey=>h3 (j+1) x y (by simpa using ex) (by simpa using ey)⟩
theorem dD:∀{ds:List D}{j:Nat}{d:D},ds[j]?=some d->d.dep<=D.deps ds
 | [],_,_,e=>by simp at e
 |d::ds,0,_,e=>by simp at e;subst e;simp only[D.deps];lia
 |d::ds,j+1,x,e=>by have:=dD (ds:=ds) (j:=j) (d:=x) (by simpa using e);simp only[D.deps];lia
theorem rh (ok:HOk P w H s.heap){A:ML}{ds es:List D}(h1:IsAll H m ds vs)(h2:IsAll H m' es ws)(r1:Vals vs its)(r2:Vals ws its2)
 (rec:∀ d∈ds,∀ e∈es,∀(v w:V)(u u':MK),Is H m d v->Is H m' e w->RelV v u->RelV w u'->SeqAt.EqAt A.in1 s u u' (fP d e)) :
 ∀ j (z1:j<its.toArray.size) (z2:j<its2.toArray.size),SeqAt.EqAt A.in1 s its.toArray[j] its2.toArray[j] (match ds[j]?,es[j]? with|some d,some e=>fP d e|_,_=>true):=by
 intro j z1 z2;have l1:=r1.length;have l2:=r2.length;have l3:=h1.length;have l4:=h2.length;have y1:j<its.length:=by simpa using z1
 have y2:j<its2.length:=by simpa using z2
 have k1:j<ds.length:=by lia
 have k2:j<es.length:=by lia
 obtain⟨v,ev,iv⟩:=h1.get (i:=j) (d:=ds[j]) (by simp[k1]);obtain⟨v',ev',iv'⟩:=h2.get (i:=j) (d:=es[j]) (by simp[k2]);obtain⟨u,eu,ru⟩:=r1.get ev;obtain⟨u',eu',ru'⟩:=r2.get ev';have q1:its.toArray[j]=u:=by
  have:its[j]?=some its[j]:=by simp[y1]
  rw[this]at eu;simpa using IM eu
 have q2:its2.toArray[j]=u':=by
  have:its2[j]?=some its2[j]:=by simp[y2]
  rw[this]at eu';simpa using IM eu'
 have g1:ds[j]?=some ds[j]:=by simp[k1]
 have g2:es[j]?=some es[j]:=by simp[k2]
 rw[q1,q2,g1,g2];exact rec ds[j] (L5 _) es[j] (L5 _) v v' u u' iv iv' ru ru'
theorem uU (hl:ds.length=es.length) :
 ((List.range ds.length).all λj=>match ds[j]?,es[j]? with|some d,some e=>fP d e|_,_=>true)=eqDs ds es:=by
 rw[K5,xP,nG];constructor
 .intro h;refine⟨hl,λj d e ed ee=>?_⟩;have:=h j (Iz.mp ed).1;rw[ed,ee]at this;exact this
 .rintro⟨_,h⟩ j hj;have e1:ds[j]?=some ds[j]:=by simp[hj]
  have hj':j<es.length:=by lia
  have e2:es[j]?=some es[j]:=by simp[hj']
  rw[e1,e2];exact h j _ _ e1 e2
theorem ri (hl:ds.length≠es.length):eqDs ds es=false:=by
 cases h:eqDs ds es with
 |false=>rfl
 |true=>exact absurd ((nG ds es).mp h).1 hl
abbrev lS (H:Hp)(s:MH)(m m':Addr->Prop)(A:ML)(n:Nat):Prop:=∀(d e:D)(v w:V)(u u':MK),d.dep<n->e.dep<1000->Is H m d v->Is H m' e w->RelV v u->RelV w u'->SeqAt.EqAt A.in1 s u u' (fP d e)
section
variable {A:ML}{n:Nat}{l1 l2:List D}{vs1 vs2:List V}{its1 its2:List MK}{a1 a2:Addr}
theorem nH (ok:HOk P w H s.heap)(hn:(D.lst l1).dep<=n)(hE:(D.lst l2).dep<1000)(hu:A.units<cLine)(q1:IsAll H m l1 vs1)(q2:IsAll H m' l2 vs2)(y1:Vals vs1 its1)(y2:Vals vs2 its2)(p1:s.heap.IsList a1 its1.toArray)(p2:s.heap.IsList a2 its2.toArray)
 (rec:lS H s m m' A n):SeqAt.RcAt A s (.ref a1) (.ref a2) (fP (.lst l1) (.lst l2)):=by
 have e1:its1.toArray.size=l1.length:=by rw[Iu,<- y1.length,q1.length]
 have e2:its2.toArray.size=l2.length:=by rw[Iu,<- y2.length,q2.length]
 have hd:∀ d∈l1,d.dep<n:=λd hd=>by obtain⟨j,hj⟩:=IC.mp hd;have:=dD hj;simp only[D.dep]at hn;lia
 have he:∀ e∈l2,e.dep<1000:=λd hd=>by obtain⟨j,hj⟩:=IC.mp hd;have:=dD hj;simp only[D.dep]at hE;lia
 by_cases hl:l1.length=l2.length
 .have z:=SeqAt.RcAt.lists p1 p2 (by rw[e1,e2,hl]) hu (rh ok q1 q2 y1 y2 λd hm e hm2 v w u u' i1 i2 r1 r2=>rec d e v w u u' (hd d hm) (he e hm2) i1 i2 r1 r2);rw[e1,uU hl]at z;exact z
 .have z:=SeqAt.RcAt.lists_lengths p1 p2 (by rw[e1,e2];simpa using hl) hu;rw[show fP (.lst l1) (.lst l2)=eqDs l1 l2 from rfl,ri hl];exact z
theorem rj (ok:HOk P w H s.heap)(hn:(D.lst l1).dep<=n)(hE:(D.lst l2).dep<1000)(hu:A.units<cLine)(q1:IsAll H m l1 vs1)(q2:IsAll H m' l2 vs2)(y1:Vals vs1 its1)(y2:Vals vs2 its2)(p1:s.heap.IsList a1 its1.toArray)(p2:s.heap.IsList a2 its2.toArray)
 (rec:lS H s m m' A n):SeqAt.RcNeAt A s (.ref a1) (.ref a2) (!fP (.lst l1) (.lst l2)):=by
 have e1:its1.toArray.size=l1.length:=by rw[Iu,<- y1.length,q1.length]
 have e2:its2.toArray.size=l2.length:=by rw[Iu,<- y2.length,q2.length]
 have hd:∀ d∈l1,d.dep<n:=λd hd=>by obtain⟨j,hj⟩:=IC.mp hd;have:=dD hj;simp only[D.dep]at hn;lia
 have he:∀ e∈l2,e.dep<1000:=λd hd=>by obtain⟨j,hj⟩:=IC.mp hd;have:=dD hj;simp only[D.dep]at hE;lia
 by_cases hl:l1.length=l2.length
 .have z:=SeqAt.RcNeAt.lists p1 p2 (by rw[e1,e2,hl]) hu (rh ok q1 q2 y1 y2 λd hm e hm2 v w u u' i1 i2 r1 r2=>rec d e v w u u' (hd d hm) (he e hm2) i1 i2 r1 r2);rw[e1,uU hl]at z;exact z
 .have z:=SeqAt.RcNeAt.lists_lengths p1 p2 (by rw[e1,e2];simpa using hl) hu;rw[show fP (.lst l1) (.lst l2)=eqDs l1 l2 from rfl,ri hl];exact z
theorem v9:((List.range (min l1.length l2.length)).all (λj=>match l1[j]?,l2[j]? with|some d,some e=>fP d e|_,_=>true)&&l1.length==l2.length)=eqDs l1 l2:=by
 by_cases hl:l1.length=l2.length
 .rw[hl,Nat.min_self,<- hl,uU hl];simp[hl]
 .rw[ri hl];simp[hl]
theorem qj (ok:HOk P w H s.heap)(hn:(D.tup l1).dep<=n)(hE:(D.tup l2).dep<1000)(hu:A.units<cLine)(q1:IsAll H m l1 vs1)(q2:IsAll H m' l2 vs2)(y1:Vals vs1 its1)(y2:Vals vs2 its2)(p1:s.heap.IsTuple a1 its1.toArray)(p2:s.heap.IsTuple a2 its2.toArray)
 (rec:lS H s m m' A n):SeqAt.RcAt A s (.ref a1) (.ref a2) (fP (.tup l1) (.tup l2)):=by
 have e1:its1.toArray.size=l1.length:=by rw[Iu,<- y1.length,q1.length]
 have e2:its2.toArray.size=l2.length:=by rw[Iu,<- y2.length,q2.length]
 have hd:∀ d∈l1,d.dep<n:=λd hd=>by obtain⟨j,hj⟩:=IC.mp hd;have:=dD hj;simp only[D.dep]at hn;lia
 have he:∀ e∈l2,e.dep<1000:=λd hd=>by obtain⟨j,hj⟩:=IC.mp hd;have:=dD hj;simp only[D.dep]at hE;lia
 have z:=SeqAt.RcAt.tuples p1 p2 hu (rh ok q1 q2 y1 y2 λd hm e hm2 v w u u' i1 i2 r1 r2=>rec d e v w u u' (hd d hm) (he e hm2) i1 i2 r1 r2);rw[e1,e2,v9]at z;exact z
theorem sW (ok:HOk P w H s.heap)(hn:(D.tup l1).dep<=n)(hE:(D.tup l2).dep<1000)(hu:A.units<cLine)(q1:IsAll H m l1 vs1)(q2:IsAll H m' l2 vs2)(y1:Vals vs1 its1)(y2:Vals vs2 its2)(p1:s.heap.IsTuple a1 its1.toArray)(p2:s.heap.IsTuple a2 its2.toArray)
 (rec:lS H s m m' A n):SeqAt.RcNeAt A s (.ref a1) (.ref a2) (!fP (.tup l1) (.tup l2)):=by
 have e1:its1.toArray.size=l1.length:=by rw[Iu,<- y1.length,q1.length]
 have e2:its2.toArray.size=l2.length:=by rw[Iu,<- y2.length,q2.length]
 have hd:∀ d∈l1,d.dep<n:=λd hd=>by obtain⟨j,hj⟩:=IC.mp hd;have:=dD hj;simp only[D.dep]at hn;lia
 have he:∀ e∈l2,e.dep<1000:=λd hd=>by obtain⟨j,hj⟩:=IC.mp hd;have:=dD hj;simp only[D.dep]at hE;lia
 have z:=SeqAt.RcNeAt.tuples p1 p2 hu (rh ok q1 q2 y1 y2 λd hm e hm2 v w u u' i1 i2 r1 r2=>rec d e v w u u' (hd d hm) (he e hm2) i1 i2 r1 r2);rw[e1,e2,v9]at z;exact z
theorem sX (h:SeqAt.RcAt A s (.ref a1) (.ref a2) k)(hs:a1=a2->k=true):SeqAt.EqAt A s (.ref a1) (.ref a2) k:=by
 by_cases e:a1=a2
 .subst e;rw[hs rfl];exact SeqAt.EqAt.same _
 .exact SeqAt.EqAt.of_refs e h
end
theorem Is.shape (ok:HOk P w H s.heap)(hE:d.dep<1000)(h:Is H m d v)(r:RelV v u):(d=.non/\u=.none)\/(∃ b,d=.bl b/\u=.bool b)\/(∃ i t,d=.int i/\u=.int i t)\/(∃ x t,d=.str x/\u=.str x t)\/
 (∃ l a vs its,d=.lst l/\v=.ref a/\u=.ref a/\IsAll H m l vs/\Vals vs its/\s.heap.IsList a its.toArray)\/∃ l a vs its,d=.tup l/\v=.ref a/\u=.ref a/\IsAll H m l vs/\Vals vs its/\s.heap.IsTuple a its.toArray:=by
 cases d with
 |non=>cases h;cases r;exact .inl ⟨rfl,rfl⟩
 |bl b=>cases h;cases r;exact .inr (.inl ⟨b,rfl,rfl⟩)
 |int i=>cases h;obtain⟨t,rfl⟩:=r;exact .inr (.inr (.inl ⟨i,t,rfl,rfl⟩))
 |str x=>cases h;obtain⟨t,rfl⟩:=r;exact .inr (.inr (.inr (.inl ⟨x,t,rfl,rfl⟩)))
 |lst l=>obtain⟨a,vs,rfl,g,q⟩:=h;cases r;obtain⟨its,y,p⟩:=Es ok g;exact .inr (.inr (.inr (.inr (.inl ⟨l,a,vs,its,rfl,rfl,rfl,q,y,p⟩))))
 |tup l=>obtain⟨a,vs,rfl,g,q⟩:=h;cases r;obtain⟨its,y,p⟩:=Et ok g;exact .inr (.inr (.inr (.inr (.inr ⟨l,a,vs,its,rfl,rfl,rfl,q,y,p⟩))))
 |dic k l=>exact absurd hE (by simp only[D.dep];lia)
theorem BH (ok:HOk P w H s.heap)(hu:A.units<cLine)(rec:lS H s m m' A n)(hn:d.dep<=n)(hN:n<1000)(hE:e.dep<1000)(h1:Is H m d v)(h2:Is H m' e w')(r1:RelV v u)(r2:RelV w' u') :
 SeqAt.RcAt A s u u' (fP d e):=by
 rcases h1.shape ok (by lia) r1 with⟨rfl,rfl⟩|⟨b1,rfl,rfl⟩|⟨i1,t1,rfl,rfl⟩|⟨x1,t1,rfl,rfl⟩|⟨l1,a1,vs1,its1,rfl,rfl,rfl,q1,y1,p1⟩|⟨l1,a1,vs1,its1,rfl,rfl,rfl,q1,y1,p1⟩<;>rcases h2.shape ok hE r2 with⟨rfl,rfl⟩|⟨b2,rfl,rfl⟩|⟨i2,t2,rfl,rfl⟩|⟨x2,t2,rfl,rfl⟩|⟨l2,a2,vs2,its2,rfl,rfl,rfl,q2,y2,p2⟩|⟨l2,a2,vs2,its2,rfl,rfl,rfl,q2,y2,p2⟩;exact .none_none;exact .none_bool b2;exact .none_int i2 t2;exact .none_str x2 t2;exact .none_list p2 hu;exact .none_tuple p2 hu;exact .bool_none b1;exact .bool_bool b1 b2;exact .bool_int b1 i2 t2;exact .bool_str b1 x2 t2;exact .bool_list b1 p2 hu;exact .bool_tuple b1 p2 hu;exact .int_none i1 t1;exact .int_bool i1 t1 b2;exact .int_int i1 t1 i2 t2;exact .int_str i1 t1 x2 t2;exact .int_list i1 t1 p2 hu;exact .int_tuple i1 t1 p2 hu;exact .str_none x1 t1;exact .str_bool x1 t1 b2;exact .str_int x1 t1 i2 t2;exact .str_str x1 t1 x2 t2;exact .str_list x1 t1 p2 hu;exact .str_tuple x1 t1 p2 hu;exact .list_none p1 hu;exact .list_bool b2 p1 hu;exact .list_int i2 t2 p1 hu;exact .list_str x2 t2 p1 hu;exact nH ok hn hE hu q1 q2 y1 y2 p1 p2 rec;exact .list_tuple p1 p2 hu;exact .tuple_none p1 hu;exact .tuple_bool b2 p1 hu;exact .tuple_int i2 t2 p1 hu;exact .tuple_str x2 t2 p1 hu;exact .tuple_list p1 p2 hu;exact qj ok hn hE hu q1 q2 y1 y2 p1 p2 rec
theorem BI (ok:HOk P w H s.heap)(hu:A.units<cLine)(rec:lS H s m m' A n)(hn:d.dep<=n)(hN:n<1000)(hE:e.dep<1000)(h1:Is H m d v)(h2:Is H m' e w')(r1:RelV v u)(r2:RelV w' u') :
 SeqAt.RcNeAt A s u u' (!fP d e):=by
 rcases h1.shape ok (by lia) r1 with⟨rfl,rfl⟩|⟨b1,rfl,rfl⟩|⟨i1,t1,rfl,rfl⟩|⟨x1,t1,rfl,rfl⟩|⟨l1,a1,vs1,its1,rfl,rfl,rfl,q1,y1,p1⟩|⟨l1,a1,vs1,its1,rfl,rfl,rfl,q1,y1,p1⟩<;>rcases h2.shape ok hE r2 with⟨rfl,rfl⟩|⟨b2,rfl,rfl⟩|⟨i2,t2,rfl,rfl⟩|⟨x2,t2,rfl,rfl⟩|⟨l2,a2,vs2,its2,rfl,rfl,rfl,q2,y2,p2⟩|⟨l2,a2,vs2,its2,rfl,rfl,rfl,q2,y2,p2⟩;exact .none_none;exact .none_bool b2;exact .none_int i2 t2;exact .none_str x2 t2;exact .none_list p2 hu;exact .none_tuple p2 hu;exact .bool_none b1;exact .bool_bool b1 b2;exact .bool_int b1 i2 t2;exact .bool_str b1 x2 t2;exact .bool_list b1 p2 hu;exact .bool_tuple b1 p2 hu;exact .int_none i1 t1;exact .int_bool i1 t1 b2;exact .int_int i1 t1 i2 t2;exact .int_str i1 t1 x2 t2;exact .int_list i1 t1 p2 hu;exact .int_tuple i1 t1 p2 hu;exact .str_none x1 t1;exact .str_bool x1 t1 b2;exact .str_int x1 t1 i2 t2;exact .str_str x1 t1 x2 t2;exact .str_list x1 t1 p2 hu;exact .str_tuple x1 t1 p2 hu;exact .list_none p1 hu;exact .list_bool b2 p1 hu;exact .list_int i2 t2 p1 hu;exact .list_str x2 t2 p1 hu;exact rj ok hn hE hu q1 q2 y1 y2 p1 p2 rec;exact .list_tuple p1 p2 hu;exact .tuple_none p1 hu;exact .tuple_bool b2 p1 hu;exact .tuple_int i2 t2 p1 hu;exact .tuple_str x2 t2 p1 hu;exact .tuple_list p1 p2 hu;exact sW ok hn hE hu q1 q2 y1 y2 p1 p2 rec
theorem v_ (ok:HOk P w H s.heap)(hu:A.units<cLine)(rec:lS H s m m' A n)(hn:d.dep<=n)(hN:n<1000)(hE:e.dep<1000)(h1:Is H m d v)(h2:Is H m' e w')(r1:RelV v u)(r2:RelV w' u') :
 SeqAt.EqAt A s u u' (fP d e):=by
 rcases h1.shape ok (by lia) r1 with⟨rfl,rfl⟩|⟨b1,rfl,rfl⟩|⟨i1,t1,rfl,rfl⟩|⟨x1,t1,rfl,rfl⟩|⟨l1,a1,vs1,its1,rfl,rfl,rfl,q1,y1,p1⟩|⟨l1,a1,vs1,its1,rfl,rfl,rfl,q1,y1,p1⟩<;>rcases h2.shape ok hE r2 with⟨rfl,rfl⟩|⟨b2,rfl,rfl⟩|⟨i2,t2,rfl,rfl⟩|⟨x2,t2,rfl,rfl⟩|⟨l2,a2,vs2,its2,rfl,rfl,rfl,q2,y2,p2⟩|⟨l2,a2,vs2,its2,rfl,rfl,rfl,q2,y2,p2⟩;exact .same _;exact .none_bool b2;exact .none_int i2 t2;exact .none_str x2 t2;exact .none_list p2 hu;exact .none_tuple p2 hu;exact .bool_none b1;exact .bool_bool b1 b2;exact .bool_int b1 i2 t2;exact .bool_str b1 x2 t2;exact .bool_list b1 p2 hu;exact .bool_tuple b1 p2 hu;exact .int_none i1 t1;exact .int_bool i1 t1 b2;exact .int_int i1 t1 i2 t2;exact .int_str i1 t1 x2 t2;exact .int_list i1 t1 p2 hu;exact .int_tuple i1 t1 p2 hu;exact .str_none x1 t1;exact .str_bool x1 t1 b2;exact .str_int x1 t1 i2 t2;exact .str_str x1 t1 x2 t2;exact .str_list x1 t1 p2 hu;exact .str_tuple x1 t1 p2 hu;exact .list_none p1 hu;exact .list_bool b2 p1 hu;exact .list_int i2 t2 p1 hu;exact .list_str x2 t2 p1 hu;exact sX (nH ok hn hE hu q1 q2 y1 y2 p1 p2 rec) (λz=>by subst z;rw[Is.inj h1 h2];exact kK _);exact .list_tuple p1 p2 hu;exact .tuple_none p1 hu;exact .tuple_bool b2 p1 hu;exact .tuple_int i2 t2 p1 hu;exact .tuple_str x2 t2 p1 hu;exact .tuple_list p1 p2 hu;exact sX (qj ok hn hE hu q1 q2 y1 y2 p1 p2 rec) (λz=>by subst z;rw[Is.inj h1 h2];exact kK _)
theorem zN (ok:HOk P w H s.heap):∀(n:Nat)(A:ML){d e:D}{v w':V}{u u':MK},A.units+n<cLine->n<1000->d.dep<=n->e.dep<1000->Is H m d v->Is H m' e w'->RelV v u->RelV w' u'->SeqAt.EqAt A s u u' (fP d e)
 |0,A,d,e,v,w',u,u',hu,hN,hn,hE,h1,h2,r1,r2=>v_ ok (by lia) (λd e v w u u' hd=>absurd hd (by lia)) hn hN hE h1 h2 r1 r2
 |n+1,A,d,e,v,w',u,u',hu,hN,hn,hE,h1,h2,r1,r2=>v_ ok (by lia) (λd e v w u u' hd he i1 i2 r1 r2=>zN ok n A.in1 (by show A.units+1+n<cLine;lia) (by lia) (by lia) he i1 i2 r1 r2) hn hN hE h1 h2 r1 r2
theorem zO (ok:HOk P w H s.heap)(hu:A.units+n<cLine)(hN:n<1000):lS H s m m' A n:=λd e v w u u' hd he i1 i2 r1 r2=>zN ok (n-1) A.in1 (by show A.units+1+(n-1)<cLine;lia) (by lia) (by lia) he i1 i2 r1 r2
end
noncomputable abbrev St:=L2.St
inductive Res (α:Type) where
 |stuck|ok (a:α)|exc (c:Str)
noncomputable def Res.bind {α β:Type}:Res α->(α->Res β)->Res β
 | .stuck,_=>.stuck
 | .exc c,_=>.exc c
 | .ok a,k=>k a
@[simp] theorem Res.bind_ok {α β:Type}(a:α)(k:α->Res β):(Res.ok a).bind k=k a:=rfl
inductive Kd where
 |no|tr (d:D)|ds (d:D)
inductive Sl where
 |val (d:D) (fr:Bool)|own (ds:List D) (fr:Bool)|tre (d:D)|mes (d:D)
noncomputable abbrev En:=List (Option Sl)
inductive R where
 |val (d:D) (fr:Bool) (al:List Nat)|new (ds:List D) (fr:Bool)|fre (d:D)
noncomputable def R.d:R->D
 | .val d _ _=>d
 | .new ds _=>.lst ds
 | .fre d=>d
noncomputable def R.fr:R->Bool
 | .val _ f _=>f
 | .new _ f=>f
 | .fre _=>true
noncomputable def R.al:R->List Nat
 | .val _ _ al=>al
 | .new _ _=>[]
 | .fre _=>[]
noncomputable def mkV (d:D)(fr:Bool)(al:List Nat):R:=if d.flat then .val d true [] else .val d fr al
structure Gd where
 H₀:Hp
 Ma:Addr->Prop
 Z:Addr->Prop
 root:Option V
 rooT:Option V
noncomputable abbrev FT (H:Hp)(Ma:Addr->Prop):Gd:=⟨H,Ma,λ_=>False,none,none⟩
def MuZ (g:Gd)(H:Hp)(a:Addr):Prop:=Mu H a\/(g.Z a/\∃ o u,H a=some (.frz o u))
theorem MuZ.same (h:MuZ g H a)(s:∀ o,H a=some o->H' a=some o):MuZ g H' a:=h.imp (λz=>z.same s) λ⟨z,o,u,e⟩=>⟨z,o,u,s _ e⟩
def msk (g:Gd)(M:Addr->Prop)(fr:Bool)(a:Addr):Prop:=M a/\(fr=true->g.H₀ a=none)
noncomputable abbrev Pr:=Nat->Addr->Prop
def vmsk (g:Gd)(M:Addr->Prop)(fr:Bool)(ρ:Pr)(al:List Nat)(a:Addr):Prop:=msk g M fr a\/∃ i,i∈al/\ρ i a
mutual
noncomputable def IsSh (H:Hp)(m:Addr->Prop):D->V->Prop
 | .tup ds,v=>∃ a vs,v=.ref a/\H a=some (.tup vs)/\IsShs H m ds vs
 | .lst _,v=>∃ a vs,v=.ref a/\H a=some (.lst vs)/\m a
 |_,_=>True
noncomputable def IsShs (H:Hp)(m:Addr->Prop):List D->List V->Prop
 | [],_=>True
 |d::ds,vs=>∃ v r,vs=v::r/\IsSh H m d v/\IsShs H m ds r
end
def Dst (H:Hp)(T:Addr->Prop)(v:V):Prop:=∃(a:Addr)(vs:List V),v=.ref a/\T a/\(H a=some (.lst vs)\/(∃ kvs,H a=some (.dK kvs)/\vs=kvs.map Prod.snd)\/(H a=some (.dT [])/\vs=[]))/\V.ref a∉vs/\∀(i j:Nat)(b:Addr),vs[i]?=some (V.ref b)->vs[j]?=some (V.ref b)->i=j
theorem Dst.mono (kp:∀ a o,T a->H a=some o->H' a=some o)(mm:∀ a,T a->T' a)(h:Dst H T v):Dst H' T' v:=by obtain⟨a,vs,e,ta,h1,h2⟩:=h;exact⟨a,vs,e,mm a ta,h1.imp (kp a _ ta) (.imp (λ⟨kvs,q,z⟩=>⟨kvs,kp a _ ta q,z⟩) λ⟨q,z⟩=>⟨kp a _ ta q,z⟩),h2⟩
noncomputable def KdOk (H:Hp)(T:Addr->Prop)(v:V):Kd->Prop
 | .no=>True
 | .tr d=>Is H T d v
 | .ds d=>Is H T d v/\Dst H T v
theorem KdOk.mono (kp:∀ a o,H a=some o->(T a\/fixd o)->H' a=some o)(h:KdOk H T v k):KdOk H' T v k:=by
 cases k with
 |no=>exact h
 |tr d=>exact Is.mono kp (λ_ _ _ z=>z) h
 |ds d=>exact⟨Is.mono kp (λ_ _ _ z=>z) h.1,h.2.mono (λa o z e=>kp a o e (.inl z)) λ_ z=>z⟩
noncomputable def Gd.rt (g:Gd)(n:Nat):Option V:=if n=0 then g.root else g.rooT
noncomputable def SlOk (g:Gd)(M T:Addr->Prop)(H:Hp)(v:V):Sl->Prop
 | .val d fr=>Is H (msk g M fr) d v
 | .own ds fr=>∃ a vs,v=.ref a/\H a=some (.lst vs)/\(∀ b,T b↔b=a)/\IsAll H (msk g M fr) ds vs
 | .tre d=>Is H T d v
 | .mes d=>IsSh H T d v
noncomputable def Sl.isO:Sl->Bool
 | .val _ _=>false
 |_=>true
noncomputable def isOwn (env:En)(j:Nat):Bool:=match env[j]? with
 |some (some sl)=>sl.isO
 |_=>false
structure Rep (g:Gd) (M:Addr->Prop) (ρ:Pr) (env:En) (σ:St) (H:Hp):Prop where
 same:Same g.H₀ H
 froz:∀ a,M a->H a≠none
 inn:∀ a,M a->g.H₀ a=none\/g.Ma a
 fl:∀ a,M a->g.H₀ a=none->MuZ g H a
 slot:∀(i:Nat)(sl:Sl),env[i]?=some (some sl)->∃ v,σ[i]?=some (some v)/\SlOk g M (ρ i) H v sl
 priv:∀(i:Nat)(a:Addr),ρ i a->¬ M a/\g.H₀ a=none/\Mu H a
 apart:∀(i j:Nat)(a:Addr),ρ i a->ρ j a->i=j
 ow:∀(i:Nat)(a:Addr),ρ i a->isOwn env i=true
 len:env.length=σ.length
 zz:∀ a,g.Z a->H a≠none
noncomputable def ROk (g:Gd)(M:Addr->Prop)(ρ:Pr)(H0 H:Hp)(v:V):R->Prop
 | .val d fr al=>Is H (vmsk g M fr ρ al) d v
 | .new ds fr=>∃ a vs,v=.ref a/\H a=some (.lst vs)/\¬ M a/\H0 a=none/\(∀ i,¬ ρ i a)/\IsAll H (msk g M fr) ds vs
 | .fre d=>∃ T:Addr->Prop,(∀ a,T a->¬ M a/\H0 a=none/\Mu H a/\∀ i,¬ ρ i a)/\Is H T d v
structure Ext (M:Addr->Prop) (H:Hp) (M':Addr->Prop) (H':Hp):Prop where
 m:∀ a,M a->M' a
 h:Same H H'
 n:∀ a,M' a->M a\/H a=none
theorem Ext.refl (M:Addr->Prop)(H:Hp):Ext M H M H:=⟨λ_ z=>z,Same.refl H,λ_ z=>.inl z⟩
theorem Ext.trans {M M1 M2:Addr->Prop}(a:Ext M H M1 H1)(b:Ext M1 H1 M2 H2):Ext M H M2 H2:=⟨λx z=>b.m x (a.m x z),a.h.trans b.h,λx z=>(b.n x z).elim (a.n x) λw=>.inr (a.h.free w)⟩
section
variable {g:Gd}{M M':Addr->Prop}{ρ:Pr}{env:En}{σ:St}{H H' H0:Hp}{fr:Bool}{al:List Nat}
mutual
theorem IsSh.mono (kp:∀ a o,H a=some o->fixd o->H' a=some o)(kl:∀ a vs,m a->H a=some (.lst vs)->∃ vs',H' a=some (.lst vs'))(mm:∀ a,m a->m' a):∀{d:D}{v:V},IsSh H m d v->IsSh H' m' d v
 | .non,_,h=>h
 | .bl _,_,h=>h
 | .int _,_,h=>h
 | .str _,_,h=>h
 | .tup ds,_,h=>by obtain⟨a,vs,e,h1,h2⟩:=h;exact⟨a,vs,e,kp a _ h1 True.intro,IsShs.mono kp kl mm h2⟩
 | .lst ds,_,h=>by obtain⟨a,vs,e,h1,h2⟩:=h;obtain⟨vs',h3⟩:=kl a vs h2 h1;exact⟨a,vs',e,h3,mm a h2⟩
 | .dic _ _,_,h=>h
theorem IsShs.mono (kp:∀ a o,H a=some o->fixd o->H' a=some o)(kl:∀ a vs,m a->H a=some (.lst vs)->∃ vs',H' a=some (.lst vs'))(mm:∀ a,m a->m' a):∀{ds:List D}{vs:List V},IsShs H m ds vs->IsShs H' m' ds vs
 | [],_,h=>h
 |d::ds,_,h=>by obtain⟨v,r,e,h1,h2⟩:=h;exact⟨v,r,e,IsSh.mono kp kl mm h1,IsShs.mono kp kl mm h2⟩
end
theorem msk.mono (mm:∀ a,M a->M' a)(h:msk g M fr a):msk g M' fr a:=⟨mm a h.1,h.2⟩
theorem vmsk.mono (mm:∀ a,M a->M' a)(h:vmsk g M fr ρ al a):vmsk g M' fr ρ al a:=h.imp (msk.mono mm) id
theorem Is.ext (e:Ext M H M' H')(h:Is H (vmsk g M fr ρ al) d v):Is H' (vmsk g M' fr ρ al) d v:=h.mono (λa o q _=>e.h a o q) λ_ _ _ z=>z.mono e.m
theorem IsAll.ext (e:Ext M H M' H')(h:IsAll H (vmsk g M fr ρ al) ds vs):IsAll H' (vmsk g M' fr ρ al) ds vs:=h.mono (λa o q _=>e.h a o q) λ_ _ _ z=>z.mono e.m
theorem SlOk.weak (mm:∀ a,M a->M' a)(h:SlOk g M T H v sl):SlOk g M' T H v sl:=by
 cases sl with
 |val d fr=>exact Is.weak (λb z=>msk.mono mm z) h
 |own ds fr=>obtain⟨b,vs,rfl,h1,h2,h4⟩:=h;exact⟨b,vs,rfl,h1,h2,IsAll.weak (λb z=>msk.mono mm z) h4⟩
 |tre d=>exact h
 |mes d=>exact h
theorem SlOk.same (s:Same H H')(h:SlOk g M T H v sl):SlOk g M T H' v sl:=by
 cases sl with
 |val d fr=>exact Is.same s h
 |own ds fr=>obtain⟨b,vs,rfl,h1,h2,h4⟩:=h;exact⟨b,vs,rfl,s _ _ h1,h2,IsAll.same s h4⟩
 |tre d=>exact Is.same s h
 |mes d=>exact IsSh.mono (λa o e _=>s a o e) (λa vs _ e=>⟨vs,s _ _ e⟩) (λ_ z=>z) h
theorem Rep.moreT {T:Addr->Prop}(r:Rep g M ρ env σ H)(ht:∀ a,T a->Mu H a/\g.H₀ a=none/\∀ i,¬ ρ i a):Rep g (λb=>M b\/T b) ρ env σ H where
 same:=r.same
 froz:=λb hb=>hb.elim (r.froz b) λe=>(ht b e).1.some
 inn:=λb hb=>hb.elim (r.inn b) λe=>.inl (ht b e).2.1
 fl:=λb hb h0=>hb.elim (λz=>r.fl b z h0) λe=>.inl (ht b e).1
 slot:=λi sl e=>by obtain⟨v,ev,s⟩:=r.slot i sl e;exact⟨v,ev,SlOk.weak (λ_=>.inl) s⟩
 priv:=λi a h=>⟨λz=>z.elim (r.priv i a h).1 λz=>(ht a z).2.2 i h,(r.priv i a h).2⟩
 apart:=r.apart
 ow:=r.ow
 len:=r.len
 zz:=r.zz
theorem Rep.more {a:Addr}(r:Rep g M ρ env σ H)(ha:H a=some (.lst ws))(h0:g.H₀ a=none)(no:∀ i,¬ ρ i a):Rep g (λb=>M b\/b=a) ρ env σ H:=r.moreT λb e=>by subst e;exact⟨Mu.lst ha,h0,no⟩
theorem Rep.grow (r:Rep g M ρ env σ H)(s:Same H H'):Rep g M ρ env σ H' where
 same:=r.same.trans s
 froz:=λa ha e=>by
  cases q:H a with
  |none=>exact r.froz a ha q
  |some o=>rw[s a o q]at e;cases e
 inn:=r.inn
 fl:=λa ha h0=>(r.fl a ha h0).same λo e=>s a o e
 slot:=λi sl e=>by obtain⟨v,ev,k⟩:=r.slot i sl e;exact⟨v,ev,SlOk.same s k⟩
 priv:=λi a h=>let ⟨a1,a2,a3⟩:=r.priv i a h;⟨a1,a2,a3.same λo e=>s a o e⟩
 apart:=r.apart
 ow:=r.ow
 len:=r.len
 zz:=λa z e=>by
  cases q:H a with
  |none=>exact r.zz a z q
  |some o=>rw[s a o q]at e;cases e
theorem Rep.free (r:Rep g M ρ env σ H)(h:H a=none):g.H₀ a=none/\¬ M a/\∀ i,¬ ρ i a:=by refine⟨r.same.free h,λz=>r.froz a z h,λi o=>?_⟩;exact(r.priv i a o).2.2.some h
theorem aE (h:H a=none):Same H (aG H a o):=λb u e=>by rw[ac (ah e h)];exact e
theorem ROk.is (rep:Rep g M ρ env σ H)(x:Ext M0 H0 M H)(h0:Same g.H₀ H0)(h:ROk g M ρ H0 H v r):∃ M',Ext M0 H0 M' H/\(∀ a,M a->M' a)/\Rep g M' ρ env σ H/\Is H (vmsk g M' r.fr ρ r.al) r.d v:=by
 cases r with
 |val d fr al=>exact⟨M,x,λ_ z=>z,rep,h⟩
 |new ds fr=>obtain⟨a,vs,rfl,h1,h2,h3,h4,h5⟩:=h;have z0:g.H₀ a=none:=h0.free h3;exact⟨λb=>M b\/b=a,⟨λb z=>.inl (x.m b z),x.h,λb z=>z.elim (x.n b) λe=>.inr (e▸h3)⟩,λ_=>.inl,rep.more h1 z0 h4,a,vs,rfl,.inl ⟨h1,.inl ⟨.inr rfl,λ_=>z0⟩⟩,IsAll.weak (λb z=>.inl (msk.mono (λ_=>.inl) z)) h5⟩
 |fre d=>obtain⟨T,ht,is⟩:=h;exact⟨λb=>M b\/T b,⟨λb z=>.inl (x.m b z),x.h,λb z=>z.elim (x.n b) λe=>.inr (ht b e).2.1⟩,λ_=>.inl,rep.moreT λa z=>let ⟨a1,a2,a3,a4⟩:=ht a z;⟨a3,h0.free a2,a4⟩,Is.weak (λb z=>.inl ⟨.inr z,λ_=>h0.free (ht b z).2.1⟩) is⟩
theorem ROk.mkV (h:Is H (vmsk g M fr ρ al) d v):ROk g M ρ H0 H v (mkV d fr al):=by
 unfold L3.mkV;split
 .exact Is.flat (by assumption) h
 .exact h
theorem ROk.back (s:Same H1 H0)(h:ROk g M ρ H0 H v r):ROk g M ρ H1 H v r:=by
 cases r with
 |val d fr al=>exact h
 |new ds fr=>obtain⟨a,vs,rfl,h1,h2,h3,h4,h5⟩:=h;exact⟨a,vs,rfl,h1,h2,s.free h3,h4,h5⟩
 |fre d=>obtain⟨T,ht,is⟩:=h;exact⟨T,λa z=>let ⟨a1,a2,a3⟩:=ht a z;⟨a1,s.free a2,a3⟩,is⟩
end
def BJ (mg:Str->Option MK)(E:XK)(g:Gd)(c:Str):Prop:=∀ cls dx H',mg c=some cls->Same g.H₀ H'->E cls dx H'
section
variable (mg:Str->Option MK)(E:XK)(g:Gd)(M:Addr->Prop)(ρ:Pr)(env:En)(σ:St)(H:Hp)
noncomputable def PostE (Q:VK):Res R->Prop
 | .stuck=>False
 | .exc c=>BJ mg E g c
 | .ok r=>∀ v M' H',Ext M H M' H'->Rep g M' ρ env σ H'->ROk g M' ρ H H' v r->Q v H'
noncomputable def br (rs:List R):Bool:=rs.all R.fr
noncomputable def b7 (rs:List R):List Nat:=rs.flatMap R.al
noncomputable def PostA (Q:List V->Hp->Prop):Res (List R)->Prop
 | .stuck=>False
 | .exc c=>BJ mg E g c
 | .ok rs=>∀ vs M' H',Ext M H M' H'->Rep g M' ρ env σ H'->IsAll H' (vmsk g M' (br rs) ρ (b7 rs)) (rs.map R.d) vs->Q vs H'
noncomputable def PostT (Q:Bool->Hp->Prop):Res Bool->Prop
 | .stuck=>False
 | .exc c=>BJ mg E g c
 | .ok b=>∀ M' H',Ext M H M' H'->Rep g M' ρ env σ H'->Q b H'
end
def Snd (mg:Str->Option MK)(E:XK)(t:TE)(f:En->Res R):Prop:=∀ g M ρ env σ H Q,Rep g M ρ env σ H->PostE mg E g M ρ env σ H Q (f env)->t σ H Q
def SndA (mg:Str->Option MK)(E:XK)(t:TA)(f:En->Res (List R)):Prop:=∀ g M ρ env σ H Q,Rep g M ρ env σ H->PostA mg E g M ρ env σ H Q (f env)->t σ H Q
def SndT (mg:Str->Option MK)(E:XK)(t:TT)(f:En->Res Bool):Prop:=∀ g M ρ env σ H Q,Rep g M ρ env σ H->PostT mg E g M ρ env σ H Q (f env)->t σ H Q
def PD (X:Cx)(E:XK)(e:Expr)(f:En->Res R):Prop:=∃ t,PE X e t/\Snd X.mg E t f
def yI (X:Cx)(E:XK)(es:List Expr)(f:En->Res (List R)):Prop:=∃ t,PA X es t/\SndA X.mg E t f
def zP (X:Cx)(E:XK)(e:Expr)(f:En->Res Bool):Prop:=∃ t,PT X e t/\SndT X.mg E t f
def PWD (X:Cx)(E:XK)(e:Expr)(f:En->Res Bool):Prop:=∃ t,PW X e t/\SndT X.mg E t f
theorem PWD.pt (h:PWD X E e f):zP X E e f:=let ⟨t,a,b⟩:=h;⟨t,a.pt,b⟩
section
variable {mg:Str->Option MK}{E:XK}{g:Gd}{M M':Addr->Prop}{ρ:Pr}{env:En}{σ:St}{H H':Hp}
theorem PostE.ext (e:Ext M H M' H')(p:PostE mg E g M ρ env σ H Q r):PostE mg E g M' ρ env σ H' Q r:=by
 cases r with
 |stuck=>exact p
 |exc c=>exact p
 |ok r=>exact λv M2 H2 e2 rep2 ro=>p v M2 H2 (e.trans e2) rep2 (ro.back e.h)
theorem PostA.ext (e:Ext M H M' H')(p:PostA mg E g M ρ env σ H Q r):PostA mg E g M' ρ env σ H' Q r:=by
 cases r with
 |stuck=>exact p
 |exc c=>exact p
 |ok r=>exact λv M2 H2 e2=>p v M2 H2 (e.trans e2)
theorem PostT.ext (e:Ext M H M' H')(p:PostT mg E g M ρ env σ H Q r):PostT mg E g M' ρ env σ H' Q r:=by
 cases r with
 |stuck=>exact p
 |exc c=>exact p
 |ok r=>exact λM2 H2 e2=>p M2 H2 (e.trans e2)
theorem PostE.val (p:PostE mg E g M ρ env σ H Q (.ok (mkV d fr al)))(rep:Rep g M ρ env σ H)(h:Is H (vmsk g M fr ρ al) d v):Q v H:=p v M H (Ext.refl M H) rep (ROk.mkV h)
theorem PostE.new (p:PostE mg E g M ρ env σ H Q (.ok (.new ds fr)))(rep:Rep g M ρ env σ H)(ha:H a=none)(h:IsAll H (msk g M fr) ds vs):Q (.ref a) (aG H a (.lst vs)):=by have s:Same H (aG H a (.lst vs)):=aE ha;obtain⟨h0,hm,ho⟩:=rep.free ha;exact p _ M _ ⟨λ_ z=>z,s,λ_ z=>.inl z⟩ (rep.grow s) ⟨a,vs,rfl,af,hm,ha,ho,IsAll.same s h⟩
theorem PostE.tup (p:PostE mg E g M ρ env σ H Q (.ok (mkV (.tup ds) fr al)))(rep:Rep g M ρ env σ H)(ha:H a=none)(h:IsAll H (vmsk g M fr ρ al) ds vs):Q (.ref a) (aG H a (.tup vs)):=by have s:Same H (aG H a (.tup vs)):=aE ha;exact p _ M _ ⟨λ_ z=>z,s,λ_ z=>.inl z⟩ (rep.grow s) (ROk.mkV ⟨a,vs,rfl,af,IsAll.same s h⟩)
theorem Snd.one {t:TE}{f:En->Res R}(h:Snd mg E t f)(rep:Rep g M ρ env σ H){α:Type}{K:R->Res α}{P:(M:Addr->Prop)->(H:Hp)->Res α->Prop}{Q:VK}
 (hp:P M H ((f env).bind K)) (hs:∀ M H,P M H .stuck->False) (hx:∀ M H c,P M H (.exc c)->BJ mg E g c) (he:∀ M H M' H' r,Ext M H M' H'->P M H r->P M' H' r)
 (k:∀ r v M' H',Ext M H M' H'->Rep g M' ρ env σ H'->Is H' (vmsk g M' r.fr ρ r.al) r.d v->P M' H' (K r)->Q v H'):t σ H Q:=by
 refine h g M ρ env σ H Q rep ?_;cases e:f env with
 |stuck=>rw[e]at hp;exact hs _ _ hp
 |exc c=>rw[e]at hp;exact hx _ _ c hp
 |ok r=>rw[e]at hp;intro v M1 H1 e1 rep1 ro;obtain⟨M2,e2,_,rep2,is⟩:=ro.is rep1 e1 rep.same;exact k r v M2 H1 e2 rep2 is (he _ _ _ _ _ e2 hp)
theorem Snd.oneE {f:En->Res R}(h:Snd mg E t f)(rep:Rep g M ρ env σ H){K:R->Res R}(hp:PostE mg E g M ρ env σ H Q' ((f env).bind K))
 (k:∀ r v M' H',Ext M H M' H'->Rep g M' ρ env σ H'->Is H' (vmsk g M' r.fr ρ r.al) r.d v->PostE mg E g M' ρ env σ H' Q' (K r)->Q v H'):t σ H Q:=
 h.one rep (P:=λM H r=>PostE mg E g M ρ env σ H Q' r) hp (λ_ _ z=>z) (λ_ _ _ z=>z) (λ_ _ _ _ _ e p=>p.ext e) k
theorem Snd.oneA {f:En->Res R}(h:Snd mg E t f)(rep:Rep g M ρ env σ H){K:R->Res (List R)}{Q':List V->Hp->Prop}(hp:PostA mg E g M ρ env σ H Q' ((f env).bind K))
 (k:∀ r v M' H',Ext M H M' H'->Rep g M' ρ env σ H'->Is H' (vmsk g M' r.fr ρ r.al) r.d v->PostA mg E g M' ρ env σ H' Q' (K r)->Q v H'):t σ H Q:=
 h.one rep (P:=λM H r=>PostA mg E g M ρ env σ H Q' r) hp (λ_ _ z=>z) (λ_ _ _ z=>z) (λ_ _ _ _ _ e p=>p.ext e) k
theorem Snd.oneT {f:En->Res R}(h:Snd mg E t f)(rep:Rep g M ρ env σ H){K:R->Res Bool}{Q':Bool->Hp->Prop}(hp:PostT mg E g M ρ env σ H Q' ((f env).bind K))
 (k:∀ r v M' H',Ext M H M' H'->Rep g M' ρ env σ H'->Is H' (vmsk g M' r.fr ρ r.al) r.d v->PostT mg E g M' ρ env σ H' Q' (K r)->Q v H'):t σ H Q:=
 h.one rep (P:=λM H r=>PostT mg E g M ρ env σ H Q' r) hp (λ_ _ z=>z) (λ_ _ _ z=>z) (λ_ _ _ _ _ e p=>p.ext e) k
theorem Snd.twoE {fa fb:En->Res R}(ha:Snd mg E ta fa)(hb:Snd mg E tb fb)(rep:Rep g M ρ env σ H){K:R->R->Res R}{S:V->V->Hp->Prop}
 (hp:PostE mg E g M ρ env σ H Q' ((fa env).bind λra=>(fb env).bind λrb=>K ra rb))
 (k:∀ ra rb x y M' H',Rep g M' ρ env σ H'->Is H' (vmsk g M' ra.fr ρ ra.al) ra.d x->Is H' (vmsk g M' rb.fr ρ rb.al) rb.d y->PostE mg E g M' ρ env σ H' Q' (K ra rb)->S x y H') :
 ta σ H λx H1=>tb σ H1 λy H2=>S x y H2:=
 ha.oneE rep hp λra x M1 H1 e1 rep1 i1 p1=>hb.oneE rep1 p1 λrb y M2 H2 e2 rep2 i2 p2=>k ra rb x y M2 H2 rep2 (i1.ext e2) i2 p2
end
noncomputable def lim:Nat:=1000000
theorem ij (h:n<=lim):n<=sizeLine:=by rw[I_];unfold lim at h;lia
theorem zQ (h:n<lim):n<sizeLine:=by rw[I_];unfold lim at h;lia
noncomputable def kM (ds:List D)(fr:Bool)(al:List Nat):R:=if D.flats ds then .new ds true else if al.isEmpty then .new ds fr else .val (.lst ds) fr al
section
variable {mg:Str->Option MK}{E:XK}{g:Gd}{M M':Addr->Prop}{ρ:Pr}{env:En}{σ:St}{H H':Hp}
theorem vmsk.nil (h:vmsk g M fr ρ [] a):msk g M fr a:=h.elim id λ⟨_,z,_⟩=>absurd z (by simp)
theorem PostE.lst (p:PostE mg E g M ρ env σ H Q (.ok (kM ds fr al)))(rep:Rep g M ρ env σ H)(ha:H a=none)(h:IsAll H (vmsk g M fr ρ al) ds vs):Q (.ref a) (aG H a (.lst vs)):=by
 unfold kM at p;by_cases hf:D.flats ds=true
 .rw[Il hf]at p;exact p.new rep ha (IsAll.flat hf h)
 .rw[Ij hf]at p;cases al with
  |nil=>exact PostE.new (p:=p) rep ha (IsAll.weak (λ_ z=>z.nil) h)
  |cons i al=>have p:PostE mg E g M ρ env σ H Q (.ok (.val (.lst ds) fr (i::al))):=p;have s:Same H (aG H a (.lst vs)):=aE ha;obtain⟨h0,hm,ho⟩:=rep.free ha;refine p _ (λb=>M b\/b=a) _ ⟨λ_=>.inl,s,λb z=>z.imp id λ(e:b=a)=>by rw[e];exact ha⟩ ((rep.grow s).more af h0 ho) ⟨a,vs,rfl,.inl ⟨af,.inl ⟨.inr rfl,λ_=>h0⟩⟩,?_⟩;exact(IsAll.same s h).weak λb z=>z.mono λ_=>.inl
theorem Is.rd (h:Is H m (.lst ds) v):∃ a vs,v=.ref a/\Rd H a (.lst vs)/\IsAll H m ds vs:=by obtain⟨a,vs,e,h1,h2⟩:=h;exact⟨a,vs,e,h1.imp (·.1) λ⟨o,z,_⟩=>⟨o,z⟩,h2⟩
end
section
variable {X:Cx}{E:XK}
noncomputable def aj (i:Nat):En->Res R:=λenv=>match env[i]? with
 |some (some (.val d fr))=>.ok (mkV d fr [])
 |some (some (.own ds fr))=>.ok (.val (.lst ds) fr [i])
 |some (some (.tre d))=>.ok (.val d true [i])
 |_=>.stuck
theorem wa:Snd mg E (ay i) (aj i):=by
 intro g M ρ env σ H Q rep p;unfold aj at p;cases e1:env[i]? with
 |none=>rw[e1]at p;exact p.elim
 |some o=>
  cases o with
  |none=>rw[e1]at p;exact p.elim
  |some sl=>
   obtain⟨v,ev,k⟩:=rep.slot i sl e1;rw[e1]at p;refine⟨v,ev,?_⟩;cases sl with
   |val d fr=>exact PostE.val p rep (Is.weak (λ_ z=>.inl z) k)
   |own ds fr=>obtain⟨a,vs,rfl,h1,h2,h4⟩:=k;exact p _ M H (Ext.refl M H) rep ⟨a,vs,rfl,.inl ⟨h1,.inr ⟨i,by simp,(h2 a).mpr rfl⟩⟩,IsAll.weak (λ_ z=>.inl z) h4⟩
   |tre d=>exact p _ M H (Ext.refl M H) rep (Is.weak (λa z=>.inr ⟨i,by simp,z⟩) k)
   |mes d=>exact p.elim
theorem Eu (h:PE X e (ay i)):PD X E e (aj i):=⟨_,h,wa⟩
noncomputable def vC (d:D):En->Res R:=λ_=>.ok (.val d true [])
theorem C1 (h:∀ H m,Is H m d v):Snd mg E (tC v) (vC d):=λg M ρ env σ H Q rep p=>p v M H (Ext.refl M H) rep (h H _)
theorem aw {i j pos}:PD X E (.Constant (.int i) j pos) (vC (.int i)):=⟨_,aH,C1 λ_ _=>rfl⟩
theorem wb {b j pos}:PD X E (.Constant (.bool b) j pos) (vC (.bl b)):=⟨_,FE,C1 λ_ _=>rfl⟩
noncomputable def v2 (op:R->R->Res R)(fa fb:En->Res R):En->Res R:=λenv=>(fa env).bind λra=>(fb env).bind λrb=>op ra rb
def pC (X:Cx)(E:XK)(f:MK->MK->Sem MK)(op:R->R->Res R):Prop:=∃ r:R2,OpR X f r/\
 ∀ g M ρ env σ H Q ra rb x y,Rep g M ρ env σ H->Is H (vmsk g M ra.fr ρ ra.al) ra.d x->Is H (vmsk g M rb.fr ρ rb.al) rb.d y->PostE X.mg E g M ρ env σ H Q (op ra rb)->r x y H Q
theorem aD (ho:pC X E (binaryOp op) k)(ha:PD X E a fa)(hb:PD X E b fb):PD X E (.BinOp a op b pos) (v2 k fa fb):=by obtain⟨r,h1,h2⟩:=ho;obtain⟨ta,pa,sa⟩:=ha;obtain⟨tb,pb,sb⟩:=hb;exact⟨_,mY h1 pa pb,λg M ρ env σ H Q rep p=>sa.twoE sb rep p λra rb x y M' H' rep' i1 i2 p'=>h2 g M' ρ env σ H' Q ra rb x y rep' i1 i2 p'⟩
theorem zR (ho:pC X E (compareOp op) k)(ha:PD X E a fa)(hb:PD X E b fb)(hm:behindInMarks op b=false):PD X E (.Compare a [op] [b] pos) (v2 k fa fb):=by obtain⟨r,h1,h2⟩:=ho;obtain⟨ta,pa,sa⟩:=ha;obtain⟨tb,pb,sb⟩:=hb;exact⟨_,vL h1 pa pb hm,λg M ρ env σ H Q rep p=>sa.twoE sb rep p λra rb x y M' H' rep' i1 i2 p'=>h2 g M' ρ env σ H' Q ra rb x y rep' i1 i2 p'⟩
noncomputable def oI (C:Int->Int->Bool)(k:Int->Int->D)(a b:R):Res R:=match a.d,b.d with
 | .int i,.int j=>if C i j then .ok (.val (k i j) true []) else .stuck
 |_,_=>.stuck
theorem sY {f:MK->MK->Sem MK}{C:Int->Int->Prop}{kV:Int->Int->V}(c:Int->Int->Bool)(k:Int->Int->D)(ho:OpR X f (rI C kV))(hc:∀ i j,c i j=true->C i j)(hk:∀ H m i j,Is H m (k i j) (kV i j)):pC X E f (oI c k):=by
 refine⟨_,ho,λg M ρ env σ H Q ra rb x y rep i1 i2 p=>?_⟩;unfold oI at p;cases e1:ra.d with
 |int i=>
  rw[e1]at p i1;cases e2:rb.d with
  |int j=>
   rw[e2]at p i2;cases i1;cases i2;by_cases h:c i j=true
   .simp only[h,Ky]at p;exact⟨i,j,rfl,rfl,hc i j h,p _ M H (Ext.refl M H) rep (hk H _ i j)⟩
   .simp only[h]at p;exact p.elim
  |_=>rw[e2]at p;exact p.elim
 |_=>rw[e1]at p;exact p.elim
theorem rp {f:MK->MK->Sem MK}{kV:Int->Int->V}(k:Int->Int->D)(ho:OpR X f (xj kV))(hk:∀ H m i j,Is H m (k i j) (kV i j)):pC X E f (oI (λ_ _=>true) k):=by refine sY (C:=λ_ _=>True) (kV:=kV) _ k (λpins s σ H x y v u Q I rx ry h=>?_) (λ_ _ _=>True.intro) hk;obtain⟨i,j,a,b,_,q⟩:=h;exact ho pins s σ H x y v u Q I rx ry ⟨i,j,a,b,q⟩
noncomputable def zS (i j:Int):Bool:=(decide (-(2 ^ 64)<i)&&decide (i<2 ^ 64)) || (decide (-(2 ^ 64)<j)&&decide (j<2 ^ 64))
noncomputable def uV:R->R->Res R:=oI zS λi j=>.int (i*j)
noncomputable def l_:R->R->Res R:=oI (λ_ j=>decide (0<j)&&decide (j<1073741824)) λi j=>.int (i / j)
noncomputable def cN:R->R->Res R:=oI (λ_ j=>decide (0<j)) λi j=>.int (i % j)
theorem nI:pC X E (binaryOp .Mult) uV:=sY _ _ DR (λi j h=>by simp only[zS,Bool.or_eq_true,IV,Kw]at h;exact h) λ_ _ _ _=>rfl
theorem fJ:pC X E (binaryOp .FloorDiv) l_:=sY _ _ Be (λi j h=>by simp only[IV,Kw]at h;exact h) λ_ _ _ _=>rfl
theorem bj:pC X E (binaryOp .Mod) cN:=sY _ _ DS (λi j h=>by simpa using h) λ_ _ _ _=>rfl
noncomputable def G5:R->R->Res R:=oI (λ_ _=>true) λi j=>.bl (decide (i<j))
noncomputable def FU:R->R->Res R:=oI (λ_ _=>true) λi j=>.bl (decide (j<i))
noncomputable def Hu:R->R->Res R:=oI (λ_ _=>true) λi j=>.bl (decide (j<=i))
theorem C2:pC X E (compareOp .Lt) G5:=rp _ CM λ_ _ _ _=>rfl
theorem C3:pC X E (compareOp .Gt) FU:=rp _ CN λ_ _ _ _=>rfl
theorem FV:pC X E (compareOp .GtE) Hu:=rp _ FJ λ_ _ _ _=>rfl
theorem Inv.rdL (I:L2.Inv X pins σ H s)(h:Rd H l (.lst xs)) :
 xs.length<=sizeLine/\∃(its:List MK)(n:Nat),Vals xs its/\xs.length=its.length/\s.heap.get? l=some { cls:=.type "list",data:=.seq its.toArray n }:=by
 obtain⟨z,its,n,r,e⟩:=(h.ok I.hok:ObjOk X.prog X.w H s.heap l (.lst xs));exact⟨z,its,n,r,r.length,e⟩
noncomputable def FW:R2:=λx y H Q=>∃ l b xs zs,x=.ref l/\y=.ref b/\Rd H l (.lst xs)/\Rd H b (.lst zs)/\xs.length+zs.length<=sizeLine/\∀ p,H p=none->Q (.ref p) (aG H p (.lst (xs++zs)))
theorem op_catS:OpR X (binaryOp .Add) FW:=by
 intro pins s σ H x y v u Q I rx ry h;obtain⟨l,b,xs,zs,rfl,rfl,hH,hB,hz,q⟩:=h;cases rx;cases ry;obtain⟨z,its,n,r,hl,e⟩:=Inv.rdL I hH;obtain⟨z2,its2,n2,r2,hl2,e2⟩:=Inv.rdL I hB;refine PySem.P.add_list e e2 ?_ (by rw[Iu,Iu];lia);have ea:its.toArray++its2.toArray=(its++its2).toArray:=by simp
 rw[ea];exact⟨.ref _,_,I.lnew (t':=s.toks) (r.append r2) (by rw[ID];lia),rfl,q _ I.fresh⟩
noncomputable def cn (a b:R):Res R:=match a.d,b.d with
 | .int i,.int j=>.ok (.val (.int (i+j)) true [])
 | .lst xs,.lst ys=>if xs.length+ys.length<=lim then .ok (kM (xs++ys) (a.fr&&b.fr) (a.al++b.al)) else .stuck
 | .tup xs,.tup ys=>if xs.length+ys.length<=lim/\xs≠[] then .ok (mkV (.tup (xs++ys)) (a.fr&&b.fr) (a.al++b.al)) else .stuck
 | .str x,.str y=>if x.length+y.length<=lim then .ok (.val (.str (x++y)) true []) else .stuck
 |_,_=>.stuck
section
variable {g:Gd}{M:Addr->Prop}{ρ:Pr}{env:En}{σ:St}
theorem vmsk.l (h:vmsk g M f1 ρ l1 a):vmsk g M (f1&&f2) ρ (l1++l2) a:=h.imp (λz=>⟨z.1,λe=>z.2 (by cases f1<;>simp_all)⟩) λ⟨i,hi,o⟩=>⟨i,by simp[hi],o⟩
theorem vmsk.r (h:vmsk g M f2 ρ l2 a):vmsk g M (f1&&f2) ρ (l1++l2) a:=h.imp (λz=>⟨z.1,λe=>z.2 (by cases f2<;>simp_all)⟩) λ⟨i,hi,o⟩=>⟨i,by simp[hi],o⟩
end
theorem bt:pC X E (binaryOp .Add) cn:=by
 refine⟨_,op_add.or (op_catS.or (op_catT.or ur)),λg M ρ env σ H Q ra rb x y rep i1 i2 p=>?_⟩;unfold cn at p;cases e1:ra.d with
 |int i=>
  rw[e1]at p i1;cases e2:rb.d with
  |int j=>rw[e2]at p i2;cases i1;cases i2;exact .inl ⟨i,j,rfl,rfl,p _ M H (Ext.refl M H) rep rfl⟩
  |_=>rw[e2]at p;exact p.elim
 |lst xs=>
  rw[e1]at p i1;cases e2:rb.d with
  |lst ys=>
   rw[e2]at p i2;obtain⟨a,vs,rfl,h1,h2⟩:=i1.rd;obtain⟨b,ws,rfl,h3,h4⟩:=i2.rd;by_cases hz:xs.length+ys.length<=lim
   .simp only[hz,Ky]at p;refine .inr (.inl ⟨a,b,vs,ws,rfl,rfl,h1,h3,by rw[h2.length,h4.length];exact ij hz,λq hq=>?_⟩);exact p.lst rep hq ((h2.weak λ_ z=>z.l).append (h4.weak λ_ z=>z.r))
   .simp only[hz,Ju]at p;exact p.elim
  |_=>rw[e2]at p;exact p.elim
 |tup xs=>
  rw[e1]at p i1;cases e2:rb.d with
  |tup ys=>
   rw[e2]at p i2;obtain⟨a,vs,rfl,h1,h2⟩:=i1;obtain⟨b,ws,rfl,h3,h4⟩:=i2;dsimp only at p;by_cases hz:xs.length+ys.length<=lim/\xs≠[]
   .rw[Il hz]at p;have n1:vs≠[]:=λz=>hz.2 (by have:=h2.length;rw[z]at this;exact L6 this.symm);refine .inr (.inr (.inl ⟨a,b,vs,ws,rfl,rfl,SqT.of h1,SqT.of h3,n1,by rw[h2.length,h4.length];exact ij hz.1,λz=>?_,λ_ q hq=>?_⟩))
    .have ey:ys=[]:=by have:=h4.length;rw[z]at this;exact L6 this.symm
     rw[ey,Js]at p;exact p.val rep (Is.weak (d:=.tup xs) (λ_ z=>z.l) ⟨a,vs,rfl,h1,h2⟩)
    .exact p.tup rep hq ((h2.weak λ_ z=>z.l).append (h4.weak λ_ z=>z.r))
   .rw[Ij hz]at p;exact p.elim
  |_=>rw[e2]at p;exact p.elim
 |str xs=>
  rw[e1]at p i1;cases e2:rb.d with
  |str ys=>
   rw[e2]at p i2;cases i1;cases i2;by_cases hz:xs.length+ys.length<=lim
   .simp only[hz,Ky]at p;exact .inr (.inr (.inr ⟨xs,ys,rfl,rfl,ij hz,p _ M H (Ext.refl M H) rep rfl⟩))
   .simp only[hz,Ju]at p;exact p.elim
  |_=>rw[e2]at p;exact p.elim
 |_=>rw[e1]at p;exact p.elim
noncomputable def zT (a b:R):Res R:=if a.d.dep<=50/\b.d.dep<=50 then .ok (.val (.bl (fP a.d b.d)) true []) else .stuck
noncomputable def C4 (a b:R):Res R:=if a.d.dep<=50/\b.d.dep<=50 then .ok (.val (.bl (!fP a.d b.d)) true []) else .stuck
noncomputable def Hv:R2:=λx y H Q=>∃ d e m m',Is H m d x/\Is H m' e y/\(d.dep<=50/\e.dep<=50)/\Q (.bl (fP d e)) H
noncomputable def Hw:R2:=λx y H Q=>∃ d e m m',Is H m d x/\Is H m' e y/\(d.dep<=50/\e.dep<=50)/\Q (.bl (!fP d e)) H
theorem Ew (hu:X.A.units+64<cLine):OpR X (compareOp .Eq) Hv:=by intro pins s σ H x y v u Q I rx ry h;obtain⟨d,e,m,m',h1,h2,hd,q⟩:=h;exact BH I.hok (by lia) (zO I.hok (A:=X.A) (n:=50) (by lia) (by lia)) hd.1 (by lia) (by lia) h1 h2 rx ry X.prog X.w X.xe _ ⟨.bl _,H,I,rfl,q⟩
theorem Ex (hu:X.A.units+64<cLine):OpR X (compareOp .NotEq) Hw:=by intro pins s σ H x y v u Q I rx ry h;obtain⟨d,e,m,m',h1,h2,hd,q⟩:=h;exact BI I.hok (by lia) (zO I.hok (A:=X.A) (n:=50) (by lia) (by lia)) hd.1 (by lia) (by lia) h1 h2 rx ry X.prog X.w X.xe _ ⟨.bl _,H,I,rfl,q⟩
theorem ql (hu:X.A.units+64<cLine):pC X E (compareOp .Eq) zT:=by
 refine⟨_,Ew hu,λg M ρ env σ H Q ra rb x y rep i1 i2 p=>?_⟩;unfold zT at p;by_cases h:ra.d.dep<=50/\rb.d.dep<=50
 .rw[Il h]at p;exact⟨_,_,_,_,i1,i2,h,p _ M H (Ext.refl M H) rep rfl⟩
 .rw[Ij h]at p;exact p.elim
theorem C5 (hu:X.A.units+64<cLine):pC X E (compareOp .NotEq) C4:=by
 refine⟨_,Ex hu,λg M ρ env σ H Q ra rb x y rep i1 i2 p=>?_⟩;unfold C4 at p;by_cases h:ra.d.dep<=50/\rb.d.dep<=50
 .rw[Il h]at p;exact⟨_,_,_,_,i1,i2,h,p _ M H (Ext.refl M H) rep rfl⟩
 .rw[Ij h]at p;exact p.elim
end
section
variable {X:Cx}{E:XK}
noncomputable def D.isNon:D->Bool
 | .non=>true
 |_=>false
noncomputable def tru:D->Res Bool
 | .non=>.ok false
 | .bl b=>.ok b
 | .int i=>.ok (i != 0)
 | .str y=>if y.length<=lim then .ok ((y.length:Int) != 0) else .stuck
 | .tup ds=>.ok (!ds.isEmpty)
 | .lst ds=>.ok (!ds.isEmpty)
 | .dic _ _=>.stuck
theorem Is.tru (h:Is H m d v)(e:tru d=.ok k):DZ X.K v H k:=by
 cases d with
 |non=>cases h;cases e;rfl
 |bl b=>cases h;cases e;rfl
 |int b=>cases h;cases e;rfl
 |str b=>
  cases h;unfold L3.tru at e;dsimp only at e;by_cases hl:b.length<=lim
  .rw[Il hl]at e;cases e;exact⟨ij hl,rfl⟩
  .rw[Ij hl]at e;cases e
 |tup ds=>obtain⟨a,vs,rfl,h1,h2⟩:=h;cases e;refine .inr (.inl ⟨vs,SqT.of h1,?_⟩);have:=h2.length;cases ds<;>cases vs<;>simp_all
 |lst ds=>obtain⟨a,vs,rfl,h1,h2⟩:=h.rd;cases e;refine .inl ⟨vs,.inl h1,?_⟩;have:=h2.length;cases ds<;>cases vs<;>simp_all
 |dic ks ds=>cases e
noncomputable def BK (fa:En->Res R):En->Res Bool:=λenv=>(fa env).bind λra=>tru ra.d
theorem zU (ha:PD X E a fa)(he:autoParam (∀ whole,isTrue a X.env whole=(do let v <- whole;standAt a.pos;holding [v] (truthy v))) MP._auto_1):zP X E a (BK fa):=by
 obtain⟨ta,pa,sa⟩:=ha;refine⟨_,yS pa he,λg M ρ env σ H Q rep p=>sa.oneT rep p λr v M' H' e rep' i p'=>?_⟩;cases q:tru r.d with
 |stuck=>rw[q]at p';exact p'.elim
 |exc c=>exfalso;unfold tru at q;cases z:r.d<;>simp only[z]at q<;>first|cases q|(split at q<;>cases q)
 |ok k=>rw[q]at p';exact⟨k,i.tru q,p' M' H' (Ext.refl _ _) rep'⟩
noncomputable def vB (fa:En->Res R):En->Res Bool:=λenv=>(fa env).bind λra=>match ra.d with
 | .bl b=>.ok b
 |_=>.stuck
theorem cb (ho:pC X E (compareOp op) k)(ha:PD X E a fa)(hb:PD X E b fb)(hm:behindInMarks op b=false):zP X E (.Compare a [op] [b] pos) (vB (v2 k fa fb)):=by
 obtain⟨r,h1,h2⟩:=ho;obtain⟨ta,pa,sa⟩:=ha;obtain⟨tb,pb,sb⟩:=hb;have S:Snd X.mg E (k9 r ta tb) (v2 k fa fb):=λg M ρ env σ H Q rep p=>sa.twoE sb rep p λra rb x y M' H' rep' i1 i2 p'=>h2 g M' ρ env σ H' Q ra rb x y rep' i1 i2 p';refine⟨_,f_ h1 pa pb hm,λg M ρ env σ H Q rep p=>S.oneT rep p λr v M' H' e rep' i p'=>?_⟩;cases q:r.d with
 |bl b=>rw[q]at i;simp only[q]at p';cases i;exact⟨b,rfl,p' M' H' (Ext.refl _ _) rep'⟩
 |_=>simp only[q]at p';exact p'.elim
noncomputable def BL (fa:En->Res Bool):En->Res Bool:=λenv=>(fa env).bind λb=>.ok (!b)
noncomputable def Ey (fa fb:En->Res Bool):En->Res Bool:=λenv=>(fa env).bind λb=>if b then fb env else .ok false
noncomputable def FX (fa fb:En->Res Bool):En->Res Bool:=λenv=>(fa env).bind λb=>if b then .ok true else fb env
section
variable {mg:Str->Option MK}{g:Gd}{M M':Addr->Prop}{ρ:Pr}{env:En}{σ:St}{H H':Hp}
theorem SndT.oneT {f:En->Res Bool}(h:SndT mg E t f)(rep:Rep g M ρ env σ H){K:Bool->Res Bool}{Q':Bool->Hp->Prop}{Q:Bool->Hp->Prop}(hp:PostT mg E g M ρ env σ H Q' ((f env).bind K))
 (k:∀ b M' H',Ext M H M' H'->Rep g M' ρ env σ H'->PostT mg E g M' ρ env σ H' Q' (K b)->Q b H'):t σ H Q:=by
 refine h g M ρ env σ H Q rep ?_;cases e:f env with
 |stuck=>rw[e]at hp;exact hp
 |exc c=>rw[e]at hp;exact hp
 |ok b=>rw[e]at hp;exact λM1 H1 e1 rep1=>k b M1 H1 e1 rep1 (PostT.ext e1 hp)
end
theorem wc (ha:zP X E a fa):zP X E (.UnaryOp .Not a pos) (BL fa):=by obtain⟨ta,pa,sa⟩:=ha;exact⟨_,yN pa,λg M ρ env σ H Q rep p=>sa.oneT rep p λb M' H' e rep' p'=>p' M' H' (Ext.refl _ _) rep'⟩
theorem zV (ha:zP X E a fa):PWD X E (.BoolOp .And [a] pos) fa:=let ⟨t,pa,sa⟩:=ha;⟨t,Bd pa,sa⟩
theorem rq (ha:zP X E a fa):PWD X E (.BoolOp .Or [a] pos) fa:=let ⟨t,pa,sa⟩:=ha;⟨t,yM pa,sa⟩
theorem BM {rest:List Expr}{fa fb:En->Res Bool}{pos:Pos}(ha:zP X E a fa)(hb:PWD X E (.BoolOp .And (b::rest) pos) fb):PWD X E (.BoolOp .And (a::b::rest) pos) (Ey fa fb):=by
 obtain⟨ta,pa,sa⟩:=ha;obtain⟨tb,pb,sb⟩:=hb;refine⟨_,DI pa pb,λg M ρ env σ H Q rep p=>sa.oneT rep p λb M' H' e rep' p'=>?_⟩;cases b with
 |true=>exact xA (sb g M' ρ env σ H' Q rep' p')
 |false=>exact zi (p' M' H' (Ext.refl _ _) rep')
theorem uW {rest:List Expr}{fa fb:En->Res Bool}{pos:Pos}(ha:zP X E a fa)(hb:PWD X E (.BoolOp .Or (b::rest) pos) fb):PWD X E (.BoolOp .Or (a::b::rest) pos) (FX fa fb):=by
 obtain⟨ta,pa,sa⟩:=ha;obtain⟨tb,pb,sb⟩:=hb;refine⟨_,CK pa pb,λg M ρ env σ H Q rep p=>sa.oneT rep p λb M' H' e rep' p'=>?_⟩;cases b with
 |true=>exact xA (p' M' H' (Ext.refl _ _) rep')
 |false=>exact zi (sb g M' ρ env σ H' Q rep' p')
noncomputable def ui (a b:R):Res R:=match a.d,b.d with
 | .lst xs,.int i=>match atI xs i with
  |some d=>.ok (mkV d a.fr a.al)
  |none=>.stuck
 | .tup xs,.int i=>match atI xs i with
  |some d=>.ok (mkV d a.fr a.al)
  |none=>.stuck
 | .str z,.int i=>if z.length<=lim then (match atI z.cps.toList i with
  |some c=>.ok (.val (.str ⟨#[c]⟩) true [])
  |none=>.stuck) else .stuck
 |_,_=>.stuck
theorem IsAll.atI (h:IsAll H m ds vs)(e:L2.atI ds i=some d):∃ v,L2.atI vs i=some v/\Is H m d v:=by
 unfold L2.atI at e ⊢;rw[h.length];cases q:xt ds.length i with
 |none=>rw[q]at e;cases e
 |some j=>rw[q]at e;exact h.get e
theorem C6:∃ r:R2,IxR X r/\∀ g M ρ env σ H Q ra rb x y,Rep g M ρ env σ H->Is H (vmsk g M ra.fr ρ ra.al) ra.d x->Is H (vmsk g M rb.fr ρ rb.al) rb.d y->PostE X.mg E g M ρ env σ H Q (ui ra rb)->r x y H Q:=by
 refine⟨_,Ea,λg M ρ env σ H Q ra rb x y rep i1 i2 p=>?_⟩;unfold ui at p;cases e1:ra.d with
 |lst xs=>
  rw[e1]at p i1;cases e2:rb.d with
  |int i=>
   rw[e2]at p i2;cases i2;obtain⟨a,vs,rfl,h1,h2⟩:=i1.rd;cases q:atI xs i with
   |none=>simp only[q]at p;exact p.elim
   |some d=>simp only[q]at p;obtain⟨v,ev,iv⟩:=h2.atI q;exact .inl ⟨a,vs,i,v,rfl,rfl,.inl h1,ev,p.val rep iv⟩
  |_=>rw[e2]at p;exact p.elim
 |tup xs=>
  rw[e1]at p i1;cases e2:rb.d with
  |int i=>
   rw[e2]at p i2;cases i2;obtain⟨a,vs,rfl,h1,h2⟩:=i1;cases q:atI xs i with
   |none=>simp only[q]at p;exact p.elim
   |some d=>simp only[q]at p;obtain⟨v,ev,iv⟩:=h2.atI q;exact .inr (.inl ⟨a,vs,i,v,rfl,rfl,SqT.of h1,ev,p.val rep iv⟩)
  |_=>rw[e2]at p;exact p.elim
 |str z=>
  rw[e1]at p i1;cases e2:rb.d with
  |int i=>
   rw[e2]at p i2;cases i1;cases i2;by_cases hz:z.length<=lim
   .simp only[hz,Ky]at p;cases q:atI z.cps.toList i with
    |none=>simp only[q]at p;exact p.elim
    |some c=>simp only[q]at p;exact .inr (.inr ⟨z,i,c,rfl,rfl,ij hz,q,p _ M H (Ext.refl _ _) rep rfl⟩)
   .simp only[hz,Ju]at p;exact p.elim
  |_=>rw[e2]at p;exact p.elim
 |_=>rw[e1]at p;exact p.elim
theorem C7 (ha:PD X E a fa)(hb:PD X E b fb)(hs:qM b):PD X E (.Subscript a b pos) (v2 ui fa fb):=by obtain⟨r,h1,h2⟩:=C6 (X:=X) (E:=E);obtain⟨ta,pa,sa⟩:=ha;obtain⟨tb,pb,sb⟩:=hb;exact⟨_,bc h1 pa pb hs,λg M ρ env σ H Q rep p=>sa.twoE sb rep p λra rb x y M' H' rep' i1 i2 p'=>h2 g M' ρ env σ H' Q ra rb x y rep' i1 i2 p'⟩
noncomputable def bK (i:Nat)(fb:En->Res R):En->Res R:=λenv=>match env[i]? with
 |some (some (.own ds fr))=>(fb env).bind λrb=>match rb.d with
  | .int k=>match atI ds k with
   |some d=>.ok (mkV d fr [])
   |none=>.stuck
  |_=>.stuck
 |_=>v2 ui (aj i) fb env
theorem zW (ha:PE X a (ay i))(hb:PD X E b fb)(hs:qM b):PD X E (.Subscript a b pos) (bK i fb):=by
 obtain⟨r,h1,h2⟩:=C6 (X:=X) (E:=E);obtain⟨tb,pb,sb⟩:=hb;refine⟨_,bc (ix_list.or h1) ha pb hs,λg M ρ env σ H Q rep p=>?_⟩;have gen:PostE X.mg E g M ρ env σ H Q (v2 ui (aj i) fb env)->k9 (λx y H Q=>D9 X.K x y H Q\/r x y H Q) (ay i) tb σ H Q:=λp=>Snd.twoE wa sb rep p λra rb x y M' H' rep' i1 i2 p'=>.inr (h2 g M' ρ env σ H' Q ra rb x y rep' i1 i2 p');unfold bK at p;cases e1:env[i]? with
 |none=>rw[e1]at p;exact gen p
 |some o=>
  cases o with
  |none=>rw[e1]at p;exact gen p
  |some sl=>
   cases sl with
   |val d fr=>rw[e1]at p;exact gen p
   |tre d=>rw[e1]at p;exact gen p
   |mes d=>rw[e1]at p;exact gen p
   |own ds fr=>
    rw[e1]at p;obtain⟨v,ev,a,vs,rfl,k1,k2,k4⟩:=rep.slot i _ e1;refine⟨_,ev,sb.oneE rep p λrb y M' H' e rep' i2 p'=>?_⟩;cases q:rb.d with
    |int k=>
     rw[q]at i2;simp only[q]at p';cases i2;cases q2:atI ds k with
     |none=>simp only[q2]at p';exact p'.elim
     |some d=>simp only[q2]at p';have k5:IsAll H' (vmsk g M' fr ρ []) ds vs:=(IsAll.weak (λ_ z=>.inl z) k4:IsAll H (vmsk g M fr ρ []) ds vs).ext e;obtain⟨w,ew,iw⟩:=k5.atI q2;exact .inl ⟨a,vs,k,w,rfl,rfl,.inl (.inl (e.h _ _ k1)),ew,p'.val rep' iw⟩
    |_=>simp only[q]at p';exact p'.elim
end
section
variable {mg:Str->Option MK}{E:XK}{g:Gd}{M M':Addr->Prop}{ρ:Pr}{env:En}{σ:St}{H H':Hp}
theorem SndA.one {t:TA}{f:En->Res (List R)}(h:SndA mg E t f)(rep:Rep g M ρ env σ H){α:Type}{K:List R->Res α}{P:(M:Addr->Prop)->(H:Hp)->Res α->Prop}{Q:List V->Hp->Prop}
 (hp:P M H ((f env).bind K)) (hs:∀ M H,P M H .stuck->False) (hx:∀ M H c,P M H (.exc c)->BJ mg E g c) (he:∀ M H M' H' r,Ext M H M' H'->P M H r->P M' H' r)
 (k:∀ rs vs M' H',Ext M H M' H'->Rep g M' ρ env σ H'->IsAll H' (vmsk g M' (br rs) ρ (b7 rs)) (rs.map R.d) vs->P M' H' (K rs)->Q vs H'):t σ H Q:=by
 refine h g M ρ env σ H Q rep ?_;cases e:f env with
 |stuck=>rw[e]at hp;exact hs _ _ hp
 |exc c=>rw[e]at hp;exact hx _ _ c hp
 |ok r=>rw[e]at hp;exact λvs M1 H1 e1 rep1 is=>k r vs M1 H1 e1 rep1 is (he _ _ _ _ _ e1 hp)
theorem SndA.oneE {f:En->Res (List R)}(h:SndA mg E t f)(rep:Rep g M ρ env σ H){K:List R->Res R}{Q:List V->Hp->Prop}(hp:PostE mg E g M ρ env σ H Q' ((f env).bind K))
 (k:∀ rs vs M' H',Ext M H M' H'->Rep g M' ρ env σ H'->IsAll H' (vmsk g M' (br rs) ρ (b7 rs)) (rs.map R.d) vs->PostE mg E g M' ρ env σ H' Q' (K rs)->Q vs H'):t σ H Q:=
 h.one rep (P:=λM H r=>PostE mg E g M ρ env σ H Q' r) hp (λ_ _ z=>z) (λ_ _ _ z=>z) (λ_ _ _ _ _ e p=>p.ext e) k
theorem SndA.oneA {f:En->Res (List R)}(h:SndA mg E t f)(rep:Rep g M ρ env σ H){K:List R->Res (List R)}{Q':List V->Hp->Prop}{Q:List V->Hp->Prop}(hp:PostA mg E g M ρ env σ H Q' ((f env).bind K))
 (k:∀ rs vs M' H',Ext M H M' H'->Rep g M' ρ env σ H'->IsAll H' (vmsk g M' (br rs) ρ (b7 rs)) (rs.map R.d) vs->PostA mg E g M' ρ env σ H' Q' (K rs)->Q vs H'):t σ H Q:=
 h.one rep (P:=λM H r=>PostA mg E g M ρ env σ H Q' r) hp (λ_ _ z=>z) (λ_ _ _ z=>z) (λ_ _ _ _ _ e p=>p.ext e) k
theorem IsAll.args (h1:Is H (vmsk g M r.fr ρ r.al) r.d v)(h2:IsAll H (vmsk g M (br rs) ρ (b7 rs)) (rs.map R.d) vs) :
 IsAll H (vmsk g M (br (r::rs)) ρ (b7 (r::rs))) ((r::rs).map R.d) (v::vs):=by
 refine⟨v,vs,rfl,h1.weak λa z=>?_,h2.weak λa z=>?_⟩
 .exact(z.l:vmsk g M (r.fr&&br rs) ρ (r.al++b7 rs) a)
 .exact(z.r:vmsk g M (r.fr&&br rs) ρ (r.al++b7 rs) a)
end
section
variable {X:Cx}{E:XK}
noncomputable def aN:En->Res (List R):=λ_=>.ok []
noncomputable def ai (f:En->Res R)(fs:En->Res (List R)):En->Res (List R):=λenv=>(f env).bind λr=>(fs env).bind λrs=>.ok (r::rs)
theorem am:yI X E [] aN:=⟨_,az,λg M ρ env σ H Q rep p=>p [] M H (Ext.refl _ _) rep rfl⟩
theorem aa (he:PD X E e f)(hr:yI X E es fs)(hs:autoParam (starEach (e::es) X.env=(false,eval e X.env)::starEach es X.env) MR._auto_1):yI X E (e::es) (ai f fs):=by obtain⟨t,p1,s1⟩:=he;obtain⟨u,p2,s2⟩:=hr;refine⟨_,ag p1 p2 hs,λg M ρ env σ H Q rep p=>s1.oneA rep p λr v M1 H1 e1 rep1 i1 q1=>s2.oneA rep1 q1 λrs vs M2 H2 e2 rep2 i2 q2=>?_⟩;exact q2 (v::vs) M2 H2 (Ext.refl _ _) rep2 (IsAll.args (i1.ext e2) i2)
noncomputable def dw (fs:En->Res (List R)):En->Res R:=λenv=>(fs env).bind λrs=>if rs.length<=lim then .ok (mkV (.tup (rs.map R.d)) (br rs) (b7 rs)) else .stuck
theorem bL (h:yI X E es fs):PD X E (.Tuple es k pos) (dw fs):=by
 obtain⟨t,p1,s1⟩:=h;refine⟨_,cf p1,λg M ρ env σ H Q rep p=>s1.oneE rep p λrs vs M1 H1 e1 rep1 i1 q1=>?_⟩;by_cases hl:rs.length<=lim
 .rw[Il hl]at q1;exact⟨by rw[i1.length,Ik];exact ij hl,λa ha=>q1.tup rep1 ha i1⟩
 .rw[Ij hl]at q1;exact q1.elim
noncomputable def iZ (fs:En->Res (List R)):En->Res R:=λenv=>(fs env).bind λrs=>if rs.length<=lim then .ok (kM (rs.map R.d) (br rs) (b7 rs)) else .stuck
theorem dW (h:yI X E es fs):PD X E (.List es pos) (iZ fs):=by
 obtain⟨t,p1,s1⟩:=h;refine⟨_,ga p1,λg M ρ env σ H Q rep p=>s1.oneE rep p λrs vs M1 H1 e1 rep1 i1 q1=>?_⟩;by_cases hl:rs.length<=lim
 .rw[Il hl]at q1;exact⟨by rw[i1.length,Ik];exact ij hl,λa ha=>q1.lst rep1 ha i1⟩
 .rw[Ij hl]at q1;exact q1.elim
end
def nl (H0 H':Hp)(a:Addr):Prop:=H0 a=none/\Mu H' a
noncomputable def RetOk (g:Gd)(H':Hp)(v:V):R->Prop
 | .val d fr _=>Is H' (λa=>nl g.H₀ H' a\/(fr=false/\g.Ma a)) d v
 | .new ds fr=>∃ a vs,v=.ref a/\H' a=some (.lst vs)/\g.H₀ a=none/\IsAll H' (λb=>b≠a/\(nl g.H₀ H' b\/(fr=false/\g.Ma b))) ds vs
 | .fre d=>Is H' (nl g.H₀ H') d v
noncomputable def FY (mg:Str->Option MK)(E:XK)(g:Gd)(Q:VK):Res R->Prop
 | .stuck=>False
 | .exc c=>BJ mg E g c
 | .ok r=>∀ v H',Same g.H₀ H'->RetOk g H' v r->Q v H'
noncomputable def pD (mg:Str->Option MK)(n:Nat)(F:List D->Res R):Sp:=λvs H Q E=>vs.length=n/\∃ ds Ma,IsAll H Ma ds vs/\FY mg E (FT H Ma) Q (F ds)
noncomputable def A9 (d:D)(fr:Bool)(rs:List R):R:=if d.flat then .val d true [] else if fr then .fre d else .val d (br rs) (b7 rs)
noncomputable def dX (rs:List R):R->R
 | .val d fr _=>A9 d fr rs
 | .new ds fr=>if D.flats ds then .new ds true else if fr then .fre (.lst ds) else if (b7 rs).isEmpty then .new ds (br rs) else .val (.lst ds) (br rs) (b7 rs)
 | .fre d=>A9 d true rs
section
variable {g:Gd}{M:Addr->Prop}{ρ:Pr}{env:En}{σ:St}{H H':Hp}
theorem Rep.came (rep:Rep g M ρ env σ H)(s:Same H H')(p:Addr->Prop):Rep g (λa=>M a\/(nl H H' a/\p a)) ρ env σ H':=(rep.grow s).moreT λa z=>⟨z.1.2,rep.same.free z.1.1,(rep.free z.1.1).2.2⟩
theorem zX (rs:List R)(rep:Rep g M ρ env σ H)(s:Same H H')(h:Is H' (λa=>nl H H' a\/(fr=false/\vmsk g M (br rs) ρ (b7 rs) a)) d v) :
 ∃ M',Ext M H M' H'/\Rep g M' ρ env σ H'/\ROk g M' ρ H H' v (A9 d fr rs):=by
 unfold A9;by_cases hf:d.flat=true
 .rw[Il hf];exact⟨M,⟨λ_ z=>z,s,λ_ z=>.inl z⟩,rep.grow s,Is.flat hf h⟩
 .rw[Ij hf];cases fr with
  |true=>
   refine⟨M,⟨λ_ z=>z,s,λ_ z=>.inl z⟩,rep.grow s,nl H H',λa z=>?_,?_⟩
   .exact⟨λw=>rep.froz a w z.1,z.1,z.2,(rep.free z.1).2.2⟩
   .exact Is.weak (λa z=>z.elim id λw=>by cases w.1) h
  |false=>
   refine⟨_,⟨λ_=>.inl,s,λ_ z=>z.imp id (·.1.1)⟩,rep.came s λ_=>True,?_⟩;refine Is.weak (λa z=>?_) h;rcases z with z|⟨_,z⟩
   .exact .inl ⟨.inr ⟨z,True.intro⟩,λ_=>rep.same.free z.1⟩
   .exact z.mono λ_=>.inl
theorem RetOk.caller (rs:List R)(rep:Rep g M ρ env σ H)(s:Same H H')(h:RetOk (FT H (vmsk g M (br rs) ρ (b7 rs))) H' v r) :
 ∃ M',Ext M H M' H'/\Rep g M' ρ env σ H'/\ROk g M' ρ H H' v (dX rs r):=by
 cases r with
 |val d fr al=>exact zX rs rep s h
 |fre d=>exact zX rs rep s (Is.weak (λa z=>.inl z) h)
 |new ds fr=>
  obtain⟨a,vs,rfl,h1,h2,h3⟩:=h;have h2:H a=none:=h2;obtain⟨f0,f1,f2⟩:=rep.free h2;have R1:Rep g (λb=>M b\/(nl H H' b/\b≠a)) ρ env σ H':=rep.came s λb=>b≠a;have nm:¬ (M a\/(nl H H' a/\a≠a)):=λz=>z.elim f1 λz=>z.2 rfl;have X1:Ext M H (λb=>M b\/(nl H H' b/\b≠a)) H':=⟨λ_=>.inl,s,λ_ z=>z.imp id (·.1.1)⟩;unfold dX;dsimp only;by_cases hfl:D.flats ds=true
  .rw[Il hfl];exact⟨_,X1,R1,a,vs,rfl,h1,nm,h2,f2,IsAll.flat hfl h3⟩
  .rw[Ij hfl];cases fr with
   |true=>
    refine⟨M,⟨λ_ z=>z,s,λ_ z=>.inl z⟩,rep.grow s,nl H H',λa z=>?_,?_⟩
    .exact⟨λw=>rep.froz a w z.1,z.1,z.2,(rep.free z.1).2.2⟩
    .exact⟨a,vs,rfl,.inl ⟨h1,h2,Mu.lst h1⟩,IsAll.weak (λb z=>z.2.elim id λw=>by cases w.1) h3⟩
   |false=>
    simp only[IF,Ju];by_cases hc:(b7 rs).isEmpty=true
    .rw[Il hc];refine⟨_,X1,R1,a,vs,rfl,h1,nm,h2,f2,?_⟩;refine IsAll.weak (λb z=>?_) h3;rcases z with⟨nb,z|⟨hf,z⟩⟩
     .exact⟨.inr ⟨z,nb⟩,λ_=>rep.same.free z.1⟩
     .have hl:b7 rs=[]:=by simpa using hc
      have z:vmsk g M (br rs) ρ (b7 rs) b:=z;rw[hl]at z;exact⟨.inl z.nil.1,z.nil.2⟩
    .rw[Ij hc];refine⟨λb=>(M b\/(nl H H' b/\b≠a))\/b=a,⟨λ_ z=>.inl (.inl z),s,λb z=>z.elim (X1.n b) λe=>.inr (e▸h2)⟩,R1.more h1 f0 f2,a,vs,rfl,.inl ⟨h1,.inl ⟨.inr rfl,λ_=>f0⟩⟩,?_⟩;refine IsAll.weak (λb z=>?_) h3;rcases z with⟨nb,z|⟨hf,z⟩⟩
     .exact .inl ⟨.inl (.inr ⟨z,nb⟩),λ_=>rep.same.free z.1⟩
     .exact vmsk.mono (λ_ w=>.inl (.inl w)) z
end
section
variable {X:Cx}{E:XK}{CX:CXT}{k:Nat}{f:Addr}{fd:FuncData}{ps:List Str}{F:List D->Res R}{x:Str}{p pos:Pos}{e:Expr}{es:List Expr}{fs:En->Res (List R)}
noncomputable def de (F:List D->Res R)(fs:En->Res (List R)):En->Res R:=λenv=>(fs env).bind λrs=>(F (rs.map R.d)).bind λr=>.ok (dX rs r)
theorem zY (hl:∀ env rs,fs env=.ok rs->rs.length=ps.length)(s:SndA X.mg E t fs):Snd X.mg E (vN (pD X.mg ps.length F) [] E t) (de F fs):=by
 intro g M ρ env σ H Q rep p;refine s g M ρ env σ H _ rep ?_;unfold de at p;cases e:fs env with
 |stuck=>rw[e]at p;exact p
 |exc c=>rw[e]at p;exact p
 |ok rs=>
  rw[e]at p;intro vs M1 H1 e1 rep1 is;have p1:PostE X.mg E g M1 ρ env σ H1 Q ((F (rs.map R.d)).bind λr=>.ok (dX rs r)):=PostE.ext e1 p;rw[Js];refine⟨by rw[is.length,Ik];exact hl env rs e,rs.map R.d,_,is,?_⟩;cases q:F (rs.map R.d) with
  |stuck=>rw[q]at p1;exact p1
  |exc c=>rw[q]at p1;exact λcls dx H' h1 h2=>p1 cls dx H' h1 (rep1.same.trans h2)
  |ok r=>rw[q]at p1;intro v H2 s2 ro;obtain⟨M3,e3,rep3,ro3⟩:=RetOk.caller rs rep1 s2 ro;exact p1 v M3 H2 e3 rep3 ro3
theorem BN (G:FnOk X.prog X.w X.K X.mg X.base CX k f fd ps (pD X.mg ps.length F))(hr:Room k X.A)(hg:Gl X x)(hm:X.mg x=some (.ref f))(hk:PySem.W.keepIn X.K (.ref f)=true)(hb:Binds X.K fd ps [])(hx:dM CX X E)
 (ha:yI X E (e::es) fs) (hl:∀ env rs,fs env=.ok rs->rs.length=ps.length) (hdb:autoParam ((x==("__debug__" : Str))=false) MM._auto_1) (he:autoParam (starEach (e::es) X.env=(false,eval e X.env)::starEach es X.env) MR._auto_1) (hpl:autoParam ((backTo pos (starEach es X.env)).any (·.1)=false) MR._auto_1) :
 PD X E (.Call (.Name x p) (e::es) [] pos) (de F fs):=by
 obtain⟨t,p1,s1⟩:=ha;exact⟨_,qK G hr hg hm hk hb .nil hx p1 hdb he hpl,zY hl s1⟩
theorem bO:∀ env rs,aN env=.ok rs->rs.length=0:=λ_ _ e=>by cases e;rfl
theorem aA {f:En->Res R}{fs:En->Res (List R)}(h:∀ env rs,fs env=.ok rs->rs.length=n):∀ env rs,ai f fs env=.ok rs->rs.length=n+1:=λenv rs e=>by
 unfold ai at e;cases q:f env with
 |stuck=>rw[q]at e;cases e
 |exc c=>rw[q]at e;cases e
 |ok r=>
  rw[q]at e;cases q2:fs env with
  |stuck=>simp only[Res.bind_ok,q2]at e;cases e
  |exc c=>simp only[Res.bind_ok,q2]at e;cases e
  |ok rs'=>simp only[Res.bind_ok,q2]at e;cases e;simp[h env rs' q2]
def ja (X:Cx)(E:XK)(f:MK)(k:List R->Res R):Prop:=∃ r,CallR X f r/\
 ∀ g M ρ env σ H Q rs vs,Rep g M ρ env σ H->IsAll H (vmsk g M (br rs) ρ (b7 rs)) (rs.map R.d) vs->PostE X.mg E g M ρ env σ H Q (k rs)->r vs H Q
noncomputable def nJ (k:List R->Res R)(fs:En->Res (List R)):En->Res R:=λenv=>(fs env).bind k
theorem bP {id:String} {k:List R->Res R} (hc:ja X E (.builtin id) k) (hg:Gl X x) (hm:X.mg x=none) (hv:bootBuiltins x=some (.builtin id)) (ha:yI X E (e::es) fs) (hn:autoParam (x≠"__name__") MM._auto_1) (hdb:autoParam ((x==("__debug__" : Str))=false) MM._auto_1)
 (he:autoParam (starEach (e::es) X.env=(false,eval e X.env)::starEach es X.env) MR._auto_1) (hpl:autoParam ((backTo pos (starEach es X.env)).any (·.1)=false) MR._auto_1):PD X E (.Call (.Name x p) (e::es) [] pos) (nJ k fs):=by
 obtain⟨r,h1,h2⟩:=hc;obtain⟨t,p1,s1⟩:=ha;exact⟨_,cw h1 hg hm hv p1 hn hdb he hpl,λg M ρ env σ H Q rep p=>s1.oneE rep p λrs vs M1 H1 e1 rep1 i1 q1=>h2 g M1 ρ env σ H1 Q rs vs rep1 i1 q1⟩
theorem dH {k:List R->Res R} (hc:ja X E (.type T) k) (hg:Gl X x) (hm:X.mg x=none) (hv:bootBuiltins x=some (.type T)) (ha:yI X E (e::es) fs) (hn:autoParam (x≠"__name__") MM._auto_1) (hdb:autoParam ((x==("__debug__" : Str))=false) MM._auto_1)
 (he:autoParam (starEach (e::es) X.env=(false,eval e X.env)::starEach es X.env) MR._auto_1) (hpl:autoParam ((backTo pos (starEach es X.env)).any (·.1)=false) MR._auto_1):PD X E (.Call (.Name x p) (e::es) [] pos) (nJ k fs):=by
 obtain⟨r,h1,h2⟩:=hc;obtain⟨t,p1,s1⟩:=ha;exact⟨_,pQ h1 hg hm hv p1 hn hdb he hpl,λg M ρ env σ H Q rep p=>s1.oneE rep p λrs vs M1 H1 e1 rep1 i1 q1=>h2 g M1 ρ env σ H1 Q rs vs rep1 i1 q1⟩
noncomputable def xQ:List R->Res R
 | [r]=>match r.d with
  | .lst ds=>.ok (.val (.int ds.length) true [])
  | .tup ds=>.ok (.val (.int ds.length) true [])
  | .str z=>if z.length<=lim then .ok (.val (.int z.length) true []) else .stuck
  |_=>.stuck
 |_=>.stuck
theorem zZ:ja X E (.builtin "len") xQ:=by
 refine⟨_,call_len_seq.or qO,λg M ρ env σ H Q rs vs rep i p=>?_⟩
 match rs,i,p with
 | [r],i,p=>
  obtain⟨v,w,rfl,i1,i2⟩:=i;cases i2;have i1:Is H (vmsk g M (br [r]) ρ (b7 [r])) r.d v:=i1;unfold xQ at p;dsimp only at p;cases q:r.d with
  |lst ds=>rw[q]at p i1;obtain⟨a,ws,rfl,h1,h2⟩:=i1.rd;exact .inl ⟨a,ws,rfl,.inl (.inl h1),by rw[h2.length];exact p _ M H (Ext.refl _ _) rep rfl⟩
  |tup ds=>rw[q]at p i1;obtain⟨a,ws,rfl,h1,h2⟩:=i1;exact .inl ⟨a,ws,rfl,.inr (SqT.of h1),by rw[h2.length];exact p _ M H (Ext.refl _ _) rep rfl⟩
  |str z=>
   rw[q]at p i1;cases i1;by_cases hz:z.length<=lim
   .simp only[hz,Ky]at p;exact .inr ⟨z,rfl,ij hz,p _ M H (Ext.refl _ _) rep rfl⟩
   .simp only[hz,Ju]at p;exact p.elim
  |_=>rw[q]at p;exact p.elim
 | [],_,p=>exact p.elim
 |_::_::_,_,p=>exact p.elim
noncomputable def lT:List R->Res R
 | [r]=>match r.d with
  | .lst ds=>.ok (kM ds r.fr r.al)
  | .tup ds=>.ok (kM ds r.fr r.al)
  |_=>.stuck
 |_=>.stuck
theorem wd (h:vmsk g M (br [r]) ρ (b7 [r]) a):vmsk g M r.fr ρ r.al a:=by
 have e1:br [r]=r.fr:=by simp[br]
 have e2:b7 [r]=r.al:=by simp[b7]
 rw[e1,e2]at h;exact h
theorem mv:ja X E (.type "list") lT:=by
 refine⟨_,qP,λg M ρ env σ H Q rs vs rep i p=>?_⟩
 match rs,i,p with
 | [r],i,p=>
  obtain⟨v,w,rfl,i1,i2⟩:=i;cases i2;have i1:Is H (vmsk g M (br [r]) ρ (b7 [r])) r.d v:=i1;replace i1:=i1.weak λ_ z=>wd z;unfold lT at p;dsimp only at p;cases q:r.d with
  |lst ds=>rw[q]at p i1;obtain⟨a,ws,rfl,h1,h2⟩:=i1.rd;exact⟨a,ws,rfl,.inl (.inl h1),λl hl=>p.lst rep hl h2⟩
  |tup ds=>rw[q]at p i1;obtain⟨a,ws,rfl,h1,h2⟩:=i1;exact⟨a,ws,rfl,.inr (SqT.of h1),λl hl=>p.lst rep hl h2⟩
  |_=>rw[q]at p;exact p.elim
 | [],_,p=>exact p.elim
 |_::_::_,_,p=>exact p.elim
end
inductive Fl where
 |nx (env:En)|rt (r:R)|bk (env:En)|ct (env:En)|rm (r:R) (env:En)
structure Frz (M:Addr->Prop) (H:Hp) (M':Addr->Prop) (H':Hp):Prop where
 m:∀ a,M a->M' a
 h:∀ a o,H a=some o->(M a\/fixd o)->H' a=some o
theorem Frz.refl (M:Addr->Prop)(H:Hp):Frz M H M H:=⟨λ_ z=>z,λ_ _ e _=>e⟩
theorem Frz.trans {M M1 M2:Addr->Prop}(a:Frz M H M1 H1)(b:Frz M1 H1 M2 H2):Frz M H M2 H2:=⟨λx z=>b.m x (a.m x z),λx o e z=>b.h x o (a.h x o e z) (z.imp (a.m x) id)⟩
theorem Ext.frz (e:Ext M H M' H'):Frz M H M' H':=⟨e.m,λa o q _=>e.h a o q⟩
section
variable (mg:Str->Option MK)(E:XK)(g:Gd)(M:Addr->Prop)(H:Hp)(D:Ends)
noncomputable def PostS:Res Fl->Prop
 | .stuck=>False
 | .exc c=>BJ mg E g c
 | .ok (.nx env)=>∀ σ M' ρ H',Frz M H M' H'->Rep g M' ρ env σ H'->D.nx σ H'
 | .ok (.bk env)=>∀ σ M' ρ H',Frz M H M' H'->Rep g M' ρ env σ H'->D.bk σ H'
 | .ok (.ct env)=>∀ σ M' ρ H',Frz M H M' H'->Rep g M' ρ env σ H'->D.ct σ H'
 | .ok (.rt r)=>∀ v M' H',Frz M H M' H'->Same g.H₀ H'->((∀ a,¬ g.Z a)->RetOk g H' v r)->(r.d.flat=true->Is H' (λ_=>False) r.d v)->D.rt v H'
 | .ok (.rm r env)=>∀ v σ M' ρ H0 H',Frz M H M' H'->Rep g M' ρ env σ H'->Same g.H₀ H0->ROk g M' ρ H0 H' v r->D.rt v H'
end
def BO (mg:Str->Option MK)(E:XK)(t:TS)(f:En->Res Fl):Prop:=∀ g M ρ env σ H D,Rep g M ρ env σ H->PostS mg E g M H D (f env)->t D σ H
def yJ (X:Cx)(E:XK)(st:Stmt)(f:En->Res Fl):Prop:=∃ t,PS X st t/\BO X.mg E t f
def sZ (X:Cx)(E:XK)(st:List Stmt)(f:En->Res Fl):Prop:=∃ t,PSs X st t/\BO X.mg E t f
section
variable {mg:Str->Option MK}{E:XK}{g:Gd}{M M':Addr->Prop}{ρ:Pr}{env:En}{σ:St}{H H':Hp}{D:Ends}
theorem PostS.frz (e:Frz M H M' H')(p:PostS mg E g M H D r):PostS mg E g M' H' D r:=by
 cases r with
 |stuck=>exact p
 |exc c=>exact p
 |ok r=>cases r with
  |nx env=>exact λσ M2 ρ2 H2 e2=>p σ M2 ρ2 H2 (e.trans e2)
  |bk env=>exact λσ M2 ρ2 H2 e2=>p σ M2 ρ2 H2 (e.trans e2)
  |ct env=>exact λσ M2 ρ2 H2 e2=>p σ M2 ρ2 H2 (e.trans e2)
  |rt r=>exact λv M2 H2 e2=>p v M2 H2 (e.trans e2)
  |rm r env=>exact λv σ M2 ρ2 H0 H2 e2=>p v σ M2 ρ2 H0 H2 (e.trans e2)
theorem Snd.oneS {f:En->Res R}(h:Snd mg E t f)(rep:Rep g M ρ env σ H){K:R->Res Fl}(hp:PostS mg E g M H D ((f env).bind K))
 (k:∀ r v M' H',Ext M H M' H'->Rep g M' ρ env σ H'->ROk g M' ρ H H' v r->PostS mg E g M' H' D (K r)->Q v H'):t σ H Q:=by
 refine h g M ρ env σ H Q rep ?_;cases e:f env with
 |stuck=>rw[e]at hp;exact hp
 |exc c=>rw[e]at hp;exact hp
 |ok r=>rw[e]at hp;exact λv M1 H1 e1 rep1 ro=>k r v M1 H1 e1 rep1 ro (PostS.frz e1.frz hp)
theorem SndT.oneS {f:En->Res Bool}(h:SndT mg E t f)(rep:Rep g M ρ env σ H){K:Bool->Res Fl}{Q:Bool->Hp->Prop}(hp:PostS mg E g M H D ((f env).bind K))
 (k:∀ b M' H',Frz M H M' H'->Rep g M' ρ env σ H'->PostS mg E g M' H' D (K b)->Q b H'):t σ H Q:=by
 refine h g M ρ env σ H Q rep ?_;cases e:f env with
 |stuck=>rw[e]at hp;exact hp
 |exc c=>rw[e]at hp;exact hp
 |ok r=>rw[e]at hp;exact λM1 H1 e1 rep1=>k r M1 H1 e1.frz rep1 (PostS.frz e1.frz hp)
noncomputable def FZ (ρ:Pr)(i:Nat):Pr:=λj a=>if j=i then False else ρ j a
theorem uX (h:j≠i):FZ ρ i j=ρ j:=by funext a;unfold FZ;rw[Ij h]
theorem nK (h:FZ ρ i j a):j≠i/\ρ j a:=by
 unfold FZ at h;by_cases e:j=i
 .rw[Il e]at h;exact h.elim
 .rw[Ij e]at h;exact⟨e,h⟩
noncomputable def rA (ρ:Pr)(i:Nat)(T:Addr->Prop):Pr:=λj a=>if j=i then T a else ρ j a
theorem cW (h:j≠i):rA ρ i T j=ρ j:=by funext a;unfold rA;rw[Ij h]
theorem fB:rA ρ i T i=T:=by funext a;unfold rA;rw[Il rfl]
noncomputable def frz1 (env:En)(i:Nat):En:=match env[i]? with
 |some (some (.own ds fr))=>env.set i (some (.val (.lst ds) fr))
 |some (some (.tre d))=>env.set i (some (.val d true))
 |some (some (.mes _))=>env.set i none
 |_=>env
noncomputable def frz (env:En)(al:List Nat):En:=al.foldl frz1 env
theorem rB (h:j≠i):(frz1 env i)[j]?=env[j]?:=by unfold frz1;split<;>first|rfl|exact Jf (Jn h)
theorem s_ (i:Nat):(frz1 env i).length=env.length:=by unfold frz1;split<;>simp
theorem z4:∀(al:List Nat){env:En}{j:Nat},¬ j∈al->(frz env al)[j]?=env[j]?
 | [],_,_,_=>rfl
 |i::al,env,j,h=>by show(frz (frz1 env i) al)[j]?=_;rw[z4 al λz=>h (by simp[z]),rB λz=>h (by simp[z])]
theorem rC:∀(al:List Nat)(env:En),(frz env al).length=env.length
 | [],_=>rfl
 |i::al,env=>by show(frz (frz1 env i) al).length=_;rw[rC al,s_]
theorem Rep.frz1 (rep:Rep g M ρ env σ H)(i:Nat):Rep g (λa=>M a\/ρ i a) (FZ ρ i) (frz1 env i) σ H where
 same:=rep.same
 froz:=λb hb=>hb.elim (rep.froz b) λz=>(rep.priv i b z).2.2.some
 inn:=λb hb=>hb.elim (rep.inn b) λz=>.inl (rep.priv i b z).2.1
 fl:=λb hb h0=>hb.elim (λz=>rep.fl b z h0) λz=>.inl (rep.priv i b z).2.2
 slot:=λj sl ej=>by
  by_cases hj:j=i
  .subst hj;cases e:env[j]? with
   |none=>
    have:L3.frz1 env j=env:=by unfold L3.frz1;rw[e]
    rw[this,e]at ej;cases ej
   |some o=>
    have hi:j<env.length:=(Iz.mp e).1;cases o with
    |none=>
     have:L3.frz1 env j=env:=by unfold L3.frz1;rw[e]
     rw[this,e]at ej;cases ej
    |some s0=>
     obtain⟨v,ev,k⟩:=rep.slot j s0 e;cases s0 with
     |val d fr=>
      have:L3.frz1 env j=env:=by unfold L3.frz1;rw[e]
      rw[this,e]at ej;cases ej;exact⟨v,ev,Is.weak (λb z=>msk.mono (λ_=>.inl) z) k⟩
     |own ds fr=>
      have:L3.frz1 env j=env.set j (some (.val (.lst ds) fr)):=by unfold L3.frz1;rw[e]
      rw[this,IY hi]at ej;cases ej;obtain⟨a,vs,rfl,h1,h2,h4⟩:=k;have ha:=(h2 a).mpr rfl;exact⟨_,ev,a,vs,rfl,.inl ⟨h1,.inr ha,λ_=>(rep.priv j a ha).2.1⟩,IsAll.weak (λb z=>msk.mono (λ_=>.inl) z) h4⟩
     |tre d=>
      have:L3.frz1 env j=env.set j (some (.val d true)):=by unfold L3.frz1;rw[e]
      rw[this,IY hi]at ej;cases ej;exact⟨v,ev,Is.weak (λb z=>⟨.inr z,λ_=>(rep.priv j b z).2.1⟩) k⟩
     |mes d=>
      have:L3.frz1 env j=env.set j none:=by unfold L3.frz1;rw[e]
      rw[this,IY hi]at ej;cases ej
  .rw[rB hj]at ej;obtain⟨v,ev,k⟩:=rep.slot j sl ej;exact⟨v,ev,by rw[uX hj];exact SlOk.weak (λ_=>.inl) k⟩
 priv:=λj a h=>by obtain⟨hj,h⟩:=nK h;exact⟨λz=>z.elim (rep.priv j a h).1 λz=>hj (rep.apart j i a h z),(rep.priv j a h).2⟩
 apart:=λj k a h1 h2=>rep.apart j k a (nK h1).2 (nK h2).2
 ow:=λj a h=>by obtain⟨hj,h⟩:=nK h;have:=rep.ow j a h;unfold isOwn at this ⊢;rw[rB hj];exact this
 len:=by rw[s_];exact rep.len
 zz:=rep.zz
theorem Rep.frz:∀(al:List Nat){env:En}{M:Addr->Prop}{ρ:Pr},Rep g M ρ env σ H->∃(M':Addr->Prop)(ρ':Pr),(∀ a,M a->M' a)/\Rep g M' ρ' (L3.frz env al) σ H/\(∀ i,i∈al->∀ a,ρ i a->M' a)/\(∀ j a,ρ' j a->ρ j a)/\(∀ j,¬ j∈al->ρ' j=ρ j)
 | [],env,M,ρ,rep=>⟨M,ρ,λ_ z=>z,rep,λ_ z=>absurd z (by simp),λ_ _ o=>o,λ_ _=>rfl⟩
 |i::al,env,M,ρ,rep=>by
  obtain⟨M2,ρ2,e2,rep2,o2,k2,l2⟩:=Rep.frz al (rep.frz1 i);refine⟨M2,ρ2,λa z=>e2 a (.inl z),rep2,λj hj a o=>?_,λj a o=>(nK (k2 j a o)).2,λj hj=>?_⟩
  .by_cases hji:j=i
   .exact e2 a (.inr (hji▸o))
   .exact o2 j ((Ip.mp hj).resolve_left hji) a (by rw[uX hji];exact o)
  .rw[l2 j λz=>hj (by simp[z]),uX λz=>hj (by simp[z])]
theorem Is.frozen (rep:Rep g M ρ env σ H)(e:∀ a,M a->M' a)(hm:∀ i,i∈al->∀ a,ρ i a->M' a)(h:Is H (vmsk g M fr ρ al) d v):Is H (msk g M' fr) d v:=h.weak λa z=>z.elim (msk.mono e) λ⟨i,hi,o⟩=>⟨hm i hi a o,λ_=>(rep.priv i a o).2.1⟩
theorem Rep.put (rep:Rep g M ρ env σ H)(hi:i<env.length)(ok:SlOk g M T H v sl)(ht:∀ a,T a->¬ M a/\g.H₀ a=none/\Mu H a/\∀ j,j≠i->¬ ρ j a)(hO:autoParam (∀ a,T a->sl.isO=true) MQ._auto_1) :
 Rep g M (rA ρ i T) (env.set i (some sl)) (σ.set i (some v)) H:=by
 have hi2:i<σ.length:=by rw[<- rep.len];exact hi
 refine⟨rep.same,rep.froz,rep.inn,rep.fl,λj s ej=>?_,λj a h=>?_,λj k a h1 h2=>?_,λj a h=>?_,by rw[Kx,Kx];exact rep.len,rep.zz⟩
 .by_cases hj:j=i
  .subst hj;rw[IY hi]at ej;cases ej;exact⟨v,IY hi2,by rw[fB];exact ok⟩
  .rw[Jf (Jn hj)]at ej;obtain⟨w,ew,k⟩:=rep.slot j s ej;exact⟨w,by rw[Jf (Jn hj)];exact ew,by rw[cW hj];exact k⟩
 .by_cases hj:j=i
  .subst hj;rw[fB]at h;exact⟨(ht a h).1,(ht a h).2.1,(ht a h).2.2.1⟩
  .rw[cW hj]at h;exact rep.priv j a h
 .by_cases hj:j=i
  .by_cases hk:k=i
   .rw[hj,hk]
   .subst hj;rw[fB]at h1;rw[cW hk]at h2;exact absurd h2 ((ht a h1).2.2.2 k hk)
  .by_cases hk:k=i
   .subst hk;rw[fB]at h2;rw[cW hj]at h1;exact absurd h1 ((ht a h2).2.2.2 j hj)
   .rw[cW hj]at h1;rw[cW hk]at h2;exact rep.apart j k a h1 h2
 .unfold isOwn;by_cases hj:j=i
  .subst hj;rw[fB]at h;rw[IY hi];exact hO a h
  .rw[cW hj]at h;rw[Jf (Jn hj)];exact rep.ow j a h
noncomputable def put (env:En)(i:Nat):R->En
 | .new ds fr=>env.set i (some (.own ds fr))
 | .val d fr al=>(frz env al).set i (some (.val d fr))
 | .fre d=>env.set i (some (.tre d))
theorem Rep.store (rep:Rep g M ρ env σ H)(h0:Same g.H₀ H0)(hi:i<env.length)(h:ROk g M ρ H0 H v r):∃ M' ρ',Frz M H M' H/\Rep g M' ρ' (L3.put env i r) (σ.set i (some v)) H:=by
 cases r with
 |new ds fr=>obtain⟨a,vs,rfl,h1,h2,h3,h4,h5⟩:=h;exact⟨M,_,Frz.refl _ _,rep.put (sl:=.own ds fr) (T:=λb=>b=a) hi ⟨a,vs,rfl,h1,λ_=>Iff.rfl,h5⟩ λb e=>by subst e;exact⟨h2,h0.free h3,Mu.lst h1,λj _=>h4 j⟩⟩
 |val d fr al=>obtain⟨M1,ρ1,e1,rep1,o1,k1,_⟩:=Rep.frz al rep;exact⟨M1,_,⟨e1,λ_ _ e _=>e⟩,rep1.put (sl:=.val d fr) (T:=λ_=>False) (by rw[rC];exact hi) (Is.frozen rep e1 o1 h) (λ_ z=>z.elim) λ_ z=>z.elim⟩
 |fre d=>obtain⟨T,ht,is⟩:=h;exact⟨M,_,Frz.refl _ _,rep.put (sl:=.tre d) (T:=T) hi is λb z=>let ⟨a1,a2,a3,a4⟩:=ht b z;⟨a1,h0.free a2,a3,λj _=>a4 j⟩⟩
theorem Rep.writeO (hu:FS u')(rep:Rep g M ρ env σ H)(o:ρ i a)(hi:i<env.length)(ev:σ[i]?=some (some v))(ok:SlOk g M (ρ i) (aG H a u') v sl)(hO:autoParam (sl.isO=true) MR._auto_1) :
 Frz M H M (aG H a u')/\Rep g M ρ (env.set i (some sl)) σ (aG H a u'):=by
 obtain⟨nm,n0,uo,ha,hmu⟩:=rep.priv i a o;have nfx:∀ u,H a=some u->¬ fixd u:=λu e z=>by rw[ha]at e;cases e;cases uo<;>first|exact z|exact hmu
 have kp:∀ b u,H b=some u->(M b\/fixd u)->aG H a u' b=some u:=λb u q z=>by
  rw[ac]
  .exact q
  .rintro rfl;rcases z with z|z
   .exact nm z
   .exact nfx u q z
 have km:∀(fr:Bool) b u,H b=some u->(msk g M fr b\/fixd u)->aG H a u' b=some u:=λfr b u q z=>kp b u q (z.imp (·.1) id);refine⟨⟨λ_ z=>z,kp⟩,λb u q=>?_,λb hb=>?_,rep.inn,λb hb h0=>?_,λj s ej=>?_,λj b h=>?_,rep.apart,λj b h=>?_,by rw[Kx];exact rep.len,λc z e=>by
  by_cases hc:c=a
  .subst hc;rw[af]at e;cases e
  .rw[ac hc]at e;exact rep.zz c z e⟩
 .rw[ac (λz=>by rw[z,n0]at q;cases q)];exact rep.same b u q
 .have nb:b≠a:=λz=>nm (by rw[<- z];exact hb);rw[ac nb];exact rep.froz b hb
 .have nb:b≠a:=λz=>nm (by rw[<- z];exact hb);exact(rep.fl b hb h0).same λo e=>by rw[ac nb];exact e
 .by_cases hj:j=i
  .subst hj;rw[IY hi]at ej;cases ej;exact⟨v,ev,ok⟩
  .rw[Jf (Jn hj)]at ej;obtain⟨w,ew,k⟩:=rep.slot j s ej;refine⟨w,ew,?_⟩;have nj:∀ b,ρ j b->b≠a:=λb hb e=>hj (rep.apart j i a (e▸hb) o);cases s with
   |val d fr=>exact Is.mono (km fr) (λ_ _ _ z=>z) k
   |own ds' fr'=>obtain⟨b,ws,rfl,h1,h2,h4⟩:=k;exact⟨b,ws,rfl,by rw[ac (nj b ((h2 b).mpr rfl))];exact h1,h2,IsAll.mono (km fr') (λ_ _ _ z=>z) h4⟩
   |tre d=>
    refine Is.mono (λb u q z=>?_) (λ_ _ _ z=>z) k;rw[ac]
    .exact q
    .rcases z with z|z
     .exact nj b z
     .intro e;rw[e]at q;exact nfx u q z
   |mes d=>refine IsSh.mono (λb u q z=>kp b u q (.inr z)) (λb ws z q=>⟨ws,by rw[ac (nj b z)];exact q⟩) (λ_ z=>z) k
 .obtain⟨b1,b2,b3⟩:=rep.priv j b h;refine⟨b1,b2,?_⟩;by_cases e:b=a
  .exact⟨u',by rw[e,af],hu⟩
  .exact b3.same λo z=>by rw[ac e];exact z
 .unfold isOwn;by_cases hj:j=i
  .subst hj;rw[IY hi];exact hO
  .rw[Jf (Jn hj)];exact rep.ow j b h
theorem Rep.write (rep:Rep g M ρ env σ H)(o:ρ i a)(hi:i<env.length)(ev:σ[i]?=some (some v))(ok:SlOk g M (ρ i) (aG H a (.lst vs')) v sl)(hO:autoParam (sl.isO=true) MR._auto_1) :
 Frz M H M (aG H a (.lst vs'))/\Rep g M ρ (env.set i (some sl)) σ (aG H a (.lst vs')):=rep.writeO (u':=.lst vs') True.intro o hi ev ok hO
end
section
variable {X:Cx}{E:XK}
noncomputable def nL:En->Res Fl:=λenv=>.ok (.nx env)
noncomputable def bw (f k:En->Res Fl):En->Res Fl:=λenv=>(f env).bind λr=>match r with
 | .nx bh=>k bh
 |r=>.ok r
theorem cz:sZ X E [] nL:=⟨_,kr,λg M ρ env σ H D rep p=>p σ M ρ H (Frz.refl _ _) rep⟩
theorem aI {st:Stmt}{f:En->Res Fl}(h:yJ X E st f):sZ X E [st] f:=let ⟨t,a,b⟩:=h;⟨t,aO a,b⟩
theorem au {st:Stmt}{rest:List Stmt}{f k:En->Res Fl}(h1:yJ X E st f)(h2:sZ X E rest k):sZ X E (st::rest) (bw f k):=by
 obtain⟨t,a,b⟩:=h1;obtain⟨u,c,d⟩:=h2;refine⟨_,aK a c,λg M ρ env σ H D rep p=>b g M ρ env σ H _ rep ?_⟩;unfold bw at p;cases q:f env with
 |stuck=>rw[q]at p;exact p
 |exc c=>rw[q]at p;exact p
 |ok r=>
  rw[q]at p;cases r with
  |nx bh=>exact λσ' M' ρ' H' e rep'=>d g M' ρ' bh σ' H' D rep' (PostS.frz e p)
  |bk bh=>exact p
  |ct bh=>exact p
  |rt r=>exact p
  |rm r bh=>exact p
noncomputable def yK (c:En->Res Bool)(a b:En->Res Fl):En->Res Fl:=λenv=>(c env).bind λk=>if k then a env else b env
theorem fK (hc:zP X E c fc)(ha:sZ X E a fa)(hb:sZ X E b fb):yJ X E (.If c a b pos) (yK fc fa fb):=by
 obtain⟨tc,p1,s1⟩:=hc;obtain⟨ta,p2,s2⟩:=ha;obtain⟨tb,p3,s3⟩:=hb;refine⟨_,pK p1 p2 p3,λg M ρ env σ H D rep p=>s1.oneS rep p λb M' H' e rep' p'=>?_⟩;cases b with
 |true=>exact xA (s2 g M' ρ env σ H' D rep' p')
 |false=>exact zi (s3 g M' ρ env σ H' D rep' p')
noncomputable def hV (f:En->Res R):En->Res Fl:=λenv=>(f env).bind λr=>.ok (.rt r)
theorem ROk.ret (rep:Rep g M ρ env σ H)(h0:Same g.H₀ H0)(h:ROk g M ρ H0 H v r)(hz:∀ a,¬ g.Z a):RetOk g H v r:=by
 have mu:∀ a,M a->g.H₀ a=none->Mu H a:=λa h1 h2=>(rep.fl a h1 h2).elim id λz=>(hz a z.1).elim;have key:∀{fr:Bool}{a:Addr},msk g M fr a->nl g.H₀ H a\/(fr=false/\g.Ma a):=λ{fr a} z=>by
  cases fr with
  |true=>exact .inl ⟨z.2 rfl,mu a z.1 (z.2 rfl)⟩
  |false=>exact(rep.inn a z.1).imp (λw=>⟨w,mu a z.1 w⟩) λw=>⟨rfl,w⟩
 cases r with
 |val d fr al=>exact Is.weak (λa z=>z.elim key λ⟨i,_,o⟩=>.inl (rep.priv i a o).2) h
 |new ds fr=>obtain⟨a,vs,rfl,h1,h2,h3,h4,h5⟩:=h;exact⟨a,vs,rfl,h1,h0.free h3,IsAll.weak (λb z=>⟨λe=>h2 (e▸z.1),key z⟩) h5⟩
 |fre d=>obtain⟨T,ht,is⟩:=h;exact Is.weak (λa z=>let ⟨_,a2,a3,_⟩:=ht a z;⟨h0.free a2,a3⟩) is
theorem ROk.flatIs (h:ROk g M ρ H0 H v r)(hf:r.d.flat=true):Is H (λ_=>False) r.d v:=by
 cases r with
 |val d fr al=>exact Is.flat hf h
 |new ds fr=>simp[D.flat,R.d]at hf
 |fre d=>obtain⟨T,_,is⟩:=h;exact Is.flat hf is
theorem bF (h:PD X E e f):yJ X E (.Return (some e) pos) (hV f):=by obtain⟨t,p1,s1⟩:=h;exact⟨_,k8 p1,λg M ρ env σ H D rep p=>s1.oneS rep p λr v M' H' e rep' ro p'=>p' v M' H' (Frz.refl _ _) rep'.same (λhz=>ro.ret rep' rep.same hz) λhf=>ro.flatIs hf⟩
noncomputable def dE (i:Nat)(f:En->Res R):En->Res Fl:=λenv=>(f env).bind λr=>if i<env.length then .ok (.nx (put env i r)) else .stuck
theorem we (s:Snd mg E t f):BO mg E (mW t (aZ i)) (dE i f):=by
 intro g M ρ env σ H D rep p;refine s.oneS rep p λr v M' H' e rep' ro p'=>?_;by_cases hi:i<env.length
 .rw[Il hi]at p';obtain⟨M2,ρ2,e2,rep2⟩:=rep'.store rep.same hi ro;exact p' _ M2 ρ2 H' e2 rep2
 .rw[Ij hi]at p';exact p'.elim
theorem bB (hN:X.N.Nodup)(hi:X.N[i]?=some x)(hx:DF X.env.scope x)(h:PD X E e f)(hs:autoParam (swapsWith e (some (.Name x pos')) pos.line X.env=pure false) MR._auto_1)
 (hf:autoParam (X.fn x=true\/X.env.scope.names.lookup x=some .local) MN._auto_1):yJ X E (.Assign [.Name x pos'] e pos) (dE i f):=by
 obtain⟨t,p1,s1⟩:=h;exact⟨_,f6 hN hi hx p1 hs hf,we s1⟩
noncomputable def nM (env:En)(i:Nat):Option (List D×Bool):=match env[i]? with
 |some (some (.own ds fr))=>some (ds,fr)
 |some (some (.tre (.lst ds)))=>some (ds,true)
 |_=>none
mutual
noncomputable def D.sz:D->Nat
 | .tup ds=>D.szs ds+1
 | .lst ds=>D.szs ds+1
 | .dic _ ds=>D.szs ds+1
 |_=>0
noncomputable def D.szs:List D->Nat
 | []=>0
 |d::ds=>d.sz+D.szs ds+1
end
section
variable {H:Hp}{m m':Addr->Prop}
mutual
theorem Is.avoid (ha:Is H m' e (.ref a)):∀{d:D}{v:V},d.sz<e.sz->Is H m d v->Is H (λb=>m b/\b≠a) d v
 | .non,_,_,h=>h
 | .bl _,_,_,h=>h
 | .int _,_,_,h=>h
 | .str _,_,_,h=>h
 | .tup ds,_,hs,h=>by obtain⟨b,vs,rfl,h1,h2⟩:=h;simp only[D.sz]at hs;exact⟨b,vs,rfl,h1,IsAll.avoid ha (by lia) h2⟩
 | .lst ds,_,hs,h=>by
  have h':=h;obtain⟨b,vs,rfl,h1,h2⟩:=h;have nb:b≠a:=λz=>by subst z;have q:=Is.inj h' ha;rw[q]at hs;lia
  simp only[D.sz]at hs;refine⟨b,vs,rfl,?_,IsAll.avoid ha (by lia) h2⟩;rcases h1 with⟨h1,h3⟩|⟨o,h1,h3⟩
  .exact .inl ⟨h1,h3,nb⟩
  .exact .inr ⟨o,h1,h3,nb⟩
 | .dic ks ds,_,hs,h=>by
  have h':=h;obtain⟨b,kvs,rfl,h1,h2⟩:=h;have nb:b≠a:=λz=>by subst z;have q:=Is.inj h' ha;rw[q]at hs;lia
  simp only[D.sz]at hs;exact⟨b,kvs,rfl,⟨h1.1,h1.2,nb⟩,IsAll.avoid ha (by lia) h2⟩
theorem IsAll.avoid (ha:Is H m' e (.ref a)):∀{ds:List D}{vs:List V},D.szs ds<e.sz->IsAll H m ds vs->IsAll H (λb=>m b/\b≠a) ds vs
 | [],_,_,h=>h
 |d::ds,_,hs,h=>by obtain⟨v,r,rfl,h1,h2⟩:=h;simp only[D.szs]at hs;exact⟨v,r,rfl,Is.avoid ha (by lia) h1,IsAll.avoid ha (by lia) h2⟩
end
end
theorem Rep.toOwn (rep:Rep g M ρ env σ H)(e:nM env i=some (ds,fr)) :
 ∃(M':Addr->Prop)(ρ':Pr)(a:Addr)(vs:List V),(∀ b,M b->M' b)/\Rep g M' ρ' (env.set i (some (.own ds fr))) σ H/\σ[i]?=some (some (.ref a))/\H a=some (.lst vs)/\(∀ b,ρ' i b↔b=a)/\IsAll H (msk g M' fr) ds vs/\i<env.length/\(∀ j b,ρ' j b->ρ j b)/\(∀ j,j≠i->ρ' j=ρ j):=by
 unfold nM at e;cases q:env[i]? with
 |none=>rw[q]at e;cases e
 |some o=>
  have hi:i<env.length:=(Iz.mp q).1;have hself:env.set i (env[i])=env:=LU hi;cases o with
  |none=>rw[q]at e;cases e
  |some sl=>
   obtain⟨v,ev,k⟩:=rep.slot i sl q;rw[q]at e;cases sl with
   |val d f=>cases e
   |mes d=>cases e
   |own ds' f'=>
    cases e;obtain⟨a,vs,rfl,h1,h2,h4⟩:=k;have eq:env.set i (some (.own ds fr))=env:=by
     have:env[i]=some (.own ds fr):=by have:=(Iz.mp q).2;exact this
     rw[<- this];exact hself
    rw[eq];exact⟨M,ρ,a,vs,λ_ z=>z,rep,ev,h1,h2,h4,hi,λ_ _ z=>z,λ_ _=>rfl⟩
   |tre d=>
    cases d with
    |lst ds'=>
     cases e;have k':=k;obtain⟨a,vs,rfl,h1,h2⟩:=k;have pa:ρ i a:=by rcases h1 with⟨_,z⟩|⟨_,_,z⟩<;>exact z
     obtain⟨pm,p0,uo,pl,pmu⟩:=rep.priv i a pa;have hl:H a=some (.lst vs):=by
      rcases h1 with⟨h1,_⟩|⟨o,h1,_⟩
      .exact h1
      .rw[h1]at pl;cases pl;exact pmu.elim
     have inner:IsAll H (λb=>ρ i b/\b≠a) ds vs:=IsAll.avoid k' (by simp only[D.sz];lia) h2
     let M':Addr->Prop:=λb=>M b\/(ρ i b/\b≠a)
     let ρ':Pr:=rA ρ i λb=>b=a
     have rr:Rep g M' ρ' (env.set i (some (.own ds true))) (σ.set i (some (.ref a))) H:=by
      have r1:Rep g M' (λj b=>if j=i then b=a else ρ j b) (env.set i (some (.own ds true))) σ H:=by
       refine⟨rep.same,λb hb=>hb.elim (rep.froz b) λz=>?_,λb hb=>hb.elim (rep.inn b) λz=>.inl (rep.priv i b z.1).2.1,λb hb h0=>hb.elim (λz=>rep.fl b z h0) λz=>.inl (rep.priv i b z.1).2.2,λj s ej=>?_,λj b h=>?_,λj k b w1 w2=>?_,λj b h=>?_,by rw[Kx];exact rep.len,rep.zz⟩
       .exact(rep.priv i b z.1).2.2.some
       .by_cases hj:j=i
        .subst hj;rw[IY hi]at ej;cases ej;exact⟨_,ev,a,vs,rfl,hl,λb=>by simp,IsAll.weak (λb z=>⟨.inr z,λ_=>(rep.priv j b z.1).2.1⟩) inner⟩
        .rw[Jf (Jn hj)]at ej;obtain⟨v',ev',k2⟩:=rep.slot j s ej;have eT:(λb=>if j=i then b=a else ρ j b)=ρ j:=by funext b;rw[Ij hj]
         exact⟨v',ev',by show SlOk g M' (λb=>if j=i then b=a else ρ j b) H v' s;rw[eT];exact SlOk.weak (λ_=>.inl) k2⟩
       .by_cases hj:j=i
        .rw[Il hj]at h;subst h;exact⟨λz=>z.elim pm λz=>z.2 rfl,p0,Mu.lst hl⟩
        .rw[Ij hj]at h;exact⟨λz=>z.elim (rep.priv j b h).1 λz=>hj (rep.apart j i b h z.1),(rep.priv j b h).2⟩
       .by_cases hj:j=i
        .by_cases hk:k=i
         .rw[hj,hk]
         .rw[Il hj]at w1;rw[Ij hk]at w2;subst w1;exact absurd (rep.apart k i b w2 pa) hk
        .by_cases hk:k=i
         .rw[Il hk]at w2;rw[Ij hj]at w1;subst w2;exact absurd (rep.apart j i b w1 pa) hj
         .rw[Ij hj]at w1;rw[Ij hk]at w2;exact rep.apart j k b w1 w2
       .unfold isOwn;by_cases hj:j=i
        .subst hj;rw[IY hi];rfl
        .rw[Ij hj]at h;rw[Jf (Jn hj)];exact rep.ow j b h
      have hi2:i<σ.length:=by rw[<- rep.len];exact hi
      have es:σ.set i (some (.ref a))=σ:=by have:σ[i]=some (.ref a):=(Iz.mp ev).2;rw[<- this];exact LU hi2
      rw[es];exact r1
     have hi2:i<σ.length:=by rw[<- rep.len];exact hi
     have es:σ.set i (some (.ref a))=σ:=by have:σ[i]=some (.ref a):=(Iz.mp ev).2;rw[<- this];exact LU hi2
     rw[es]at rr;refine⟨M',ρ',a,vs,λ_=>.inl,rr,ev,hl,λb=>by show rA ρ i (λb=>b=a) i b↔b=a;rw[fB],IsAll.weak (λb z=>⟨.inr z,λ_=>(rep.priv i b z.1).2.1⟩) inner,hi,λj b z=>?_,λj hj=>cW hj⟩;by_cases hj:j=i
     .subst hj;have z:rA ρ j (λb=>b=a) j b:=z;rw[fB]at z;rw[z];exact pa
     .have z:rA ρ i (λb=>b=a) j b:=z;rw[cW hj]at z;exact z
    |_=>cases e
noncomputable def xR (i:Nat)(f:En->Res R):En->Res Fl:=λenv=>match nM env i with
 |some (ds,fr)=>(f env).bind λr=>if ds.length<lim/\¬ i∈r.al then .ok (.nx ((frz env r.al).set i (some (.own (ds++[r.d]) (fr&&r.fr))))) else .stuck
 |none=>.stuck
theorem wf (ha:PE X a (ay i))(h:PD X E e f)
 (hbase:autoParam (attributeBase a "append" X.env (eval a X.env)=eval a X.env) MR._auto_1)
 (hfew:autoParam (((backTo cpos (starEach [e] X.env)).all (λx=>!x.1)&&(backToKw cpos (keywordEach [] X.env)).all (λx=>x.1.isSome)
   && decide (([e]:List Expr).length+([]:List Keyword).length+(if ([]:List Keyword).isEmpty then 0 else 1)<30))=true) MR._auto_1)
 (hline:autoParam ((apos.endLine==cpos.line)=true) MR._auto_1) (hs:autoParam (starEach [e] X.env=(false,eval e X.env)::starEach [] X.env) MR._auto_1) (hplain:autoParam ((backTo cpos (starEach [] X.env)).any (·.1)=false) MR._auto_1)
 (hsw:autoParam (swapsWith (.Call (.Attribute a "append" apos) [e] [] cpos) none pos.line X.env=pure false) MR._auto_1) :
 yJ X E (.Expr (.Call (.Attribute a "append" apos) [e] [] cpos) pos) (xR i f):=by
 obtain⟨t,p1,s1⟩:=h;refine⟨_,bA (ib J5 JV JW cM ha (ag p1 az hs) hbase hfew hline hs hplain) hsw,λg M ρ env σ H D rep p=>?_⟩;unfold xR at p;cases e1:nM env i with
 |none=>rw[e1]at p;exact p.elim
 |some o=>
  obtain⟨ds,fr⟩:=o;rw[e1]at p;dsimp only at p;obtain⟨M0,ρ0,l,vs,m0,rep0,ev,k1,k2,k4,hi,_⟩:=rep.toOwn e1;refine⟨_,ev,.inl ⟨rfl,vs,SqL.of k1⟩,s1.oneS rep p λr y M' H' e rep' ro p'=>?_⟩;by_cases hc:ds.length<lim/\¬ i∈r.al
  .rw[Il hc]at p';obtain⟨M1,x1,x1m,rep1,is1⟩:=ro.is rep' e rep.same;obtain⟨M2,ρ2,x2,rep2,o2,k5,k6⟩:=Rep.frz r.al rep1;have is2:Is H' (msk g M2 r.fr) r.d y:=Is.frozen rep1 x2 o2 is1;have e2:nM (frz env r.al) i=some (ds,fr):=by unfold nM;rw[z4 _ hc.2];exact e1
   obtain⟨M3,ρ3,l3,vs3,m3,rep3,ev3,j1,j2,j4,hi3,_⟩:=rep2.toOwn e2;rw[ev]at ev3;cases ev3;have hl:H' l=some (.lst vs):=e.h _ _ k1;rw[hl]at j1;cases j1;have pl:ρ3 i l:=(j2 l).mpr rfl;obtain⟨nl3,_⟩:=rep3.priv i l pl;have is4:IsAll H' (msk g M3 (fr&&r.fr)) (ds++[r.d]) (vs++[y]):=by refine IsAll.snoc (IsAll.weak (λb z=>⟨z.1,λq=>z.2 (by cases fr<;>simp_all)⟩) j4) (Is.weak (λb z=>⟨m3 b z.1,λq=>z.2 (by cases fr<;>simp_all)⟩) is2)
   have kp:∀ b u,H' b=some u->(msk g M3 (fr&&r.fr) b\/fixd u)->aG H' l (.lst (vs++[y])) b=some u:=λb u q z=>by
    rw[ac]
    .exact q
    .rintro rfl;rcases z with z|z
     .exact nl3 z.1
     .rw[hl]at q;cases q;exact z
   obtain⟨f1,rep4⟩:=rep3.write (sl:=.own (ds++[r.d]) (fr&&r.fr)) (vs':=vs++[y]) pl (by rw[Kx];exact hi3) ev ⟨l,vs++[y],rfl,af,j2,IsAll.mono kp (λ_ _ _ z=>z) is4⟩;rw[List.set_set]at rep4;refine⟨l,vs,y,rfl,rfl,hl,by rw[k4.length];exact zQ hc.1,?_⟩;exact p' σ M3 ρ3 _ (Frz.trans ⟨λa z=>m3 a (x2 a (x1m a z)),λ_ _ q _=>q⟩ f1) rep4
  .rw[Ij hc]at p';exact p'.elim
end
def Ez (ix:List Nat)(t:TG)(asg:D->Bool->En->Option En):Prop:=∀(g:Gd)(M:Addr->Prop)(ρ:Pr)(env bh:En)(σ:St)(H:Hp)(d:D)(fr:Bool)(v:V)(Q:St->Hp->Prop),
 Rep g M ρ env σ H->Is H (msk g M fr) d v->asg d fr env=some bh->(∀(σ':St)(ρ':Pr),Rep g M ρ' bh σ' H->(∀ j,¬ j∈ix->σ'[j]?=σ[j]?)->(∀ j a,ρ' j a->ρ j a)->Q σ' H)->t v σ H Q
def F0 (ix:List Nat)(t:CL)(asg:List D->Bool->En->Option En):Prop:=∀(g:Gd)(M:Addr->Prop)(ρ:Pr)(env bh:En)(σ:St)(H:Hp)(ds:List D)(fr:Bool)(vs:List V)(Q:St->Hp->Prop),
 Rep g M ρ env σ H->IsAll H (msk g M fr) ds vs->asg ds fr env=some bh->(∀(σ':St)(ρ':Pr),Rep g M ρ' bh σ' H->(∀ j,¬ j∈ix->σ'[j]?=σ[j]?)->(∀ j a,ρ' j a->ρ j a)->Q σ' H)->t vs σ H Q
def BP (X:Cx)(ix:List Nat)(tg:Expr)(asg:D->Bool->En->Option En):Prop:=∃ t,PG X tg t/\Ez ix t asg
def BQ (X:Cx)(ix:List Nat)(ts:List Expr)(asg:List D->Bool->En->Option En):Prop:=∃ t,DJ X ts t/\F0 ix t asg
section
variable {X:Cx}{E:XK}
noncomputable def gN (i:Nat):D->Bool->En->Option En:=λd fr env=>if i<env.length then some (env.set i (some (.val d fr))) else none
theorem li:Ez [i] (aZ i) (gN i):=by
 intro g M ρ env bh σ H d fr v Q rep is e k;unfold gN at e;by_cases hi:i<env.length
 .rw[Il hi]at e;cases e;exact k _ _ (rep.put (sl:=.val d fr) (T:=λ_=>False) hi is (λ_ z=>z.elim) λ_ z=>z.elim) (λj hj=>Jf λe=>hj (by simp[e])) λj a z=>by
   by_cases hj:j=i
   .subst hj;rw[fB]at z;exact z.elim
   .rw[cW hj]at z;exact z
 .rw[Ij hi]at e;cases e
theorem aF (hN:X.N.Nodup)(hi:X.N[i]?=some x)(hx:DF X.env.scope x)(hf:autoParam (X.fn x=true\/X.env.scope.names.lookup x=some .local) MN._auto_1):BP X [i] (.Name x pos) (gN i):=⟨_,a_ hN hi hx hf,li⟩
noncomputable def bQ:List D->Bool->En->Option En:=λds _ env=>match ds with
 | []=>some env
 |_=>none
noncomputable def aC (f:D->Bool->En->Option En)(fs:List D->Bool->En->Option En):List D->Bool->En->Option En:=λds fr env=>match ds with
 |d::r=>(f d fr env).bind λbh=>fs r fr bh
 | []=>none
theorem b9:BQ X [] [] bQ:=⟨_,cV,λg M ρ env bh σ H ds fr vs Q rep is e k=>by
 cases ds with
 |nil=>cases e;cases is;exact⟨rfl,k σ ρ rep (λ_ _=>rfl) λ_ _ z=>z⟩
 |cons d ds=>cases e⟩
theorem aJ (h1:BP X ix e f)(h2:BQ X jx es fs)
 (hs:∀ t,PG X e t->∀ u,DJ X es u->DJ X (e::es) (b8 t u)):BQ X (ix++jx) (e::es) (aC f fs):=by
 obtain⟨t,p1,s1⟩:=h1;obtain⟨u,p2,s2⟩:=h2;refine⟨_,hs t p1 u p2,λg M ρ env bh σ H ds fr vs Q rep is e k=>?_⟩;cases ds with
 |nil=>cases e
 |cons d ds=>
  obtain⟨v,r,rfl,i1,i2⟩:=is;unfold aC at e;dsimp only at e;cases q:f d fr env with
  |none=>rw[q]at e;cases e
  |some i8=>rw[q]at e;refine⟨v,r,rfl,s1 g M ρ env i8 σ H d fr v _ rep i1 q λσ1 ρ1 rep1 c1 d1=>?_⟩;exact s2 g M ρ1 i8 bh σ1 H ds fr r Q rep1 i2 e λσ2 ρ2 rep2 c2 d2=>k σ2 ρ2 rep2 (λj hj=>(c2 j λz=>hj (by simp[z])).trans (c1 j λz=>hj (by simp[z]))) λj a z=>d1 j a (d2 j a z)
noncomputable def gT (n:Nat)(fs:List D->Bool->En->Option En):D->Bool->En->Option En:=λd fr env=>match d with
 | .tup ds=>if ds.length=n then fs ds fr env else none
 |_=>none
theorem cA (hc:X.calm=true)(h:BQ X ix es fs)(hn:autoParam ((assignEach es X.env).length=n) MR._auto_1)(hst:autoParam ((assignEach es X.env).findIdx? (·.1)=none) MR._auto_1):BP X ix (.Tuple es k pos) (gT n fs):=by
 obtain⟨t,p1,s1⟩:=h;refine⟨_,fH hc p1 hn hst,λg M ρ env bh σ H d fr v Q rep is e kk=>?_⟩;unfold gT at e;cases d with
 |tup ds=>
  obtain⟨a,vs,rfl,h1,h2⟩:=is;dsimp only at e;by_cases hl:ds.length=n
  .rw[Il hl]at e;exact⟨a,vs,rfl,SqT.of h1,h2.length.trans hl,s1 g M ρ env bh σ H ds fr vs Q rep h2 e kk⟩
  .rw[Ij hl]at e;cases e
 |_=>cases e
noncomputable def pE (f:En->Res R)(asg:D->Bool->En->Option En):En->Res Fl:=λenv=>(f env).bind λr=>match asg r.d r.fr (frz env r.al) with
 |some bh=>.ok (.nx bh)
 |none=>.stuck
theorem fC (he:PD X E e f)(hg:BP X ix tg asg)(hs:autoParam (swapsWithSole [tg] e pos.line X.env=pure false) MR._auto_1)(hw:autoParam (swappedStores [tg] e X.env=pure none) MR._auto_1)
 (h1:autoParam ((assignEach [tg] X.env).map (·.2)=[assign tg X.env]) MR._auto_1):yJ X E (.Assign [tg] e pos) (pE f asg):=by
 obtain⟨t,p1,s1⟩:=he;obtain⟨u,p2,s2⟩:=hg;refine⟨_,DM p1 p2 hs hw h1,λg M ρ env σ H D rep p=>s1.oneS rep p λr v M' H' e rep' ro p'=>?_⟩;obtain⟨M1,x1,x1m,rep1,is1⟩:=ro.is rep' e rep.same;obtain⟨M2,ρ2,x2,rep2,o2,_,_⟩:=Rep.frz r.al rep1;have is2:Is H' (msk g M2 r.fr) r.d v:=Is.frozen rep1 x2 o2 is1;cases q:asg r.d r.fr (frz env r.al) with
 |none=>simp only[q]at p';exact p'.elim
 |some bh=>simp only[q]at p';exact s2 g M2 ρ2 _ bh σ H' r.d r.fr v _ rep2 is2 q λσ' ρ' rep3 _ _=>p' σ' M2 ρ' H' ⟨λa z=>x2 a (x1m a z),λ_ _ q _=>q⟩ rep3
end
structure Src where
 xs:List D
 fr:Bool
 al:List Nat
structure Walk (J:It) (m:Addr->Prop) (H:Hp) (xs:List D):Prop where
 go:∀ H' i d,(∀ a o,H a=some o->(m a\/fixd o)->H' a=some o)->xs[i]?=some d->J.go i H'/\∀ x H'',J.yld i H' x H''->Same H' H''/\Is H'' m d x
 stop:∀ H',(∀ a o,H a=some o->(m a\/fixd o)->H' a=some o)->J.stop xs.length H'
theorem Walk.weak (w:Walk J m H xs)(h:∀ a,m a->m' a):Walk J m' H xs:=⟨λH' i d k e=>let ⟨a,b⟩:=w.go H' i d (λa o q z=>k a o q (z.imp (h a) id)) e;⟨a,λx H'' y=>let ⟨c,d⟩:=b x H'' y;⟨c,d.weak h⟩⟩,λH' k=>w.stop H' λa o q z=>k a o q (z.imp (h a) id)⟩
noncomputable def PostI (mg:Str->Option MK)(E:XK)(g:Gd)(M:Addr->Prop)(ρ:Pr)(env:En)(σ:St)(H:Hp)(R:It->Hp->Prop):Res Src->Prop
 | .stuck=>False
 | .exc c=>BJ mg E g c
 | .ok s=>∀ J M' H',Ext M H M' H'->Rep g M' ρ env σ H'->Walk J (vmsk g M' s.fr ρ s.al) H' s.xs->R J H'
def F1 (mg:Str->Option MK)(E:XK)(wi:TI)(f:En->Res Src):Prop:=∀ g M ρ env σ H R,Rep g M ρ env σ H->PostI mg E g M ρ env σ H R (f env)->wi σ H R
def F2 (X:Cx)(E:XK)(tg iter:Expr)(f:En->Res Src):Prop:=∃ wi,PI X tg iter wi/\F1 X.mg E wi f
section
variable {X:Cx}{E:XK}{tg:Expr}
noncomputable def Hx (K:MI)(tl:TE):TI:=λσ H R=>tl σ H λx H1=>∃ a,x=.ref a/\(((∃ xs,SqL K H1 a xs)/\R (uh K a) H1)\/((∃ xs,SqT K H1 a xs)/\R (Hf K a) H1))
theorem EA (hl:PE X l tl):PI X tg l (Hx X.K tl):=by
 intro pins s σ H R I h;refine bX (hl pins s σ H _ I h) λv s1 ⟨x,H1,I1,r1,q1⟩=>?_;obtain⟨a,e,q⟩:=q1;subst e;cases r1;rcases q with⟨⟨xs,hq⟩,q⟩|⟨⟨xs,hq⟩,q⟩
 .obtain⟨its,rv,p,hz⟩:=I1.list hq;refine Lz p.isList ?_;refine⟨s1.heap.objs.size,[s1.heap.objs.size],_,_,H1,rfl,I1.kept (t':=s1.toks) λb o e=>Ie _ e,pL a _,⟨_,Iv _ rfl,rfl,rfl⟩,λb hb=>?_,q⟩;have e:b=s1.heap.objs.size:=by simpa using hb
  subst e;exact I1.fpOk (Ih _) (I1.hok.fresh (Ih _))
 .obtain⟨its,rv,p,hz⟩:=I1.tuple hq;refine wpAny_pyIter_tuple (show s1.heap.IsTuple a its.toArray from p) ?_;refine⟨s1.heap.objs.size,[s1.heap.objs.size],_,_,H1,rfl,I1.kept (t':=s1.toks) λb o e=>Ie _ e,uj a _,⟨_,Iv _ rfl,rfl,rfl⟩,λb hb=>?_,q⟩;have e:b=s1.heap.objs.size:=by simpa using hb
  subst e;exact I1.fpOk (Ih _) (I1.hok.fresh (Ih _))
theorem xS {K:MI}{a:Addr}{m:Addr->Prop}(h:(H a=some (.lst vs)/\m a)\/∃ o,H a=some (.frz o (.lst vs))/\m a)(is:IsAll H m ds vs):Walk (uh K a) m H ds:=by
 have st:∀ H',(∀ a o,H a=some o->(m a\/fixd o)->H' a=some o)->SqL K H' a vs:=λH' k=>by
  rcases h with⟨h,hm⟩|⟨o,h,_⟩
  .exact .inl (.inl (k a _ h (.inl hm)))
  .exact .inl (.inr ⟨o,k a _ h (.inr True.intro)⟩)
 refine⟨λH' i d k e=>?_,λH' k=>⟨vs,st H' k,by rw[is.length];exact Ih _⟩⟩;obtain⟨v,ev,iv⟩:=(is.mono k λ_ _ _ z=>z:IsAll H' m ds vs).get e;refine⟨⟨vs,v,st H' k,ev⟩,λx H'' y=>?_⟩;obtain⟨rfl,y⟩:=y;have:=y vs (st _ k);rw[ev]at this;cases this;exact⟨Same.refl _,iv⟩
theorem z5 {K:MI}{a:Addr}{m:Addr->Prop}(h:H a=some (.tup vs))(is:IsAll H m ds vs):Walk (Hf K a) m H ds:=by have st:∀ H',(∀ a o,H a=some o->(m a\/fixd o)->H' a=some o)->SqT K H' a vs:=λH' k=>SqT.of (k a _ h (.inr True.intro));refine⟨λH' i d k e=>?_,λH' k=>⟨vs,st H' k,by rw[is.length];exact Ih _⟩⟩;obtain⟨v,ev,iv⟩:=(is.mono k λ_ _ _ z=>z:IsAll H' m ds vs).get e;refine⟨⟨vs,v,st H' k,ev⟩,λx H'' y=>?_⟩;obtain⟨rfl,y⟩:=y;have:=y vs (st _ k);rw[ev]at this;cases this;exact⟨Same.refl _,iv⟩
noncomputable def dz (lo:Int)(n:Nat):List D:=(List.range n).map λk=>.int (lo+(k:Nat))
theorem uY (lo:Int)(n:Nat):Walk (G2 lo n) m H (dz lo n):=by
 refine⟨λH' i d k e=>?_,λH' k=>by show n<=(dz lo n).length;simp[dz]⟩;have hi:i<n:=by have:=(Iz.mp e).1;simpa[dz] using this
 refine⟨hi,λx H'' y=>?_⟩;obtain⟨rfl,rfl⟩:=y;refine⟨Same.refl _,?_⟩;have:(dz lo n)[i]?=some (.int (lo+(i:Nat))):=by simp[dz,hi]
 rw[this]at e;cases e;rfl
noncomputable def lj (f:En->Res R):En->Res Src:=λenv=>(f env).bind λr=>match r.d with
 | .lst ds=>.ok ⟨ds,r.fr,r.al⟩
 | .tup ds=>.ok ⟨ds,r.fr,r.al⟩
 |_=>.stuck
theorem fD (h:PD X E l f):F2 X E tg l (lj f):=by
 obtain⟨t,p1,s1⟩:=h;refine⟨_,EA p1,λg M ρ env σ H R rep p=>?_⟩;refine s1.one rep (P:=λM H r=>PostI X.mg E g M ρ env σ H R r) p (λ_ _ z=>z) (λ_ _ _ z=>z) (λM H M' H' r e p=>?_) λr v M1 H1 e1 rep1 is q=>?_
 .cases r with
  |stuck=>exact p
  |exc c=>exact p
  |ok s=>exact λJ M2 H2 e2=>p J M2 H2 (e.trans e2)
 .cases z:r.d with
  |lst ds=>rw[z]at is;simp only[z]at q;obtain⟨a,vs,rfl,h1,h2⟩:=is;exact⟨a,rfl,.inl ⟨⟨vs,.inl (h1.imp (·.1) λ⟨o,z,_⟩=>⟨o,z⟩)⟩,q _ M1 H1 (Ext.refl _ _) rep1 (xS h1 h2)⟩⟩
  |tup ds=>rw[z]at is;simp only[z]at q;obtain⟨a,vs,rfl,h1,h2⟩:=is;exact⟨a,rfl,.inr ⟨⟨vs,SqT.of h1⟩,q _ M1 H1 (Ext.refl _ _) rep1 (z5 h1 h2)⟩⟩
  |_=>simp only[z]at q;exact q.elim
noncomputable def cR (i:Int):Bool:=decide (-(2 ^ 62)<=i)&&decide (i<2 ^ 62)
noncomputable def F3 (fs:En->Res (List R)):En->Res Src:=λenv=>(fs env).bind λrs=>match rs.map R.d with
 | [.int j]=>if cR j then .ok ⟨dz 0 j.toNat,true,[]⟩ else .stuck
 |_=>.stuck
theorem PostI.ext {mg:Str->Option MK}{M M':Addr->Prop}{R:It->Hp->Prop}(e:Ext M H M' H')(p:PostI mg E g M ρ env σ H R r):PostI mg E g M' ρ env σ H' R r:=by
 cases r with
 |stuck=>exact p
 |exc c=>exact p
 |ok s=>exact λJ M2 H2 e2=>p J M2 H2 (e.trans e2)
theorem ji (hg:Gl X "range") (hm:X.mg "range"=none) (ha:yI X E [a] fs) (hs:autoParam (starEach [a] X.env=[(false,eval a X.env)]) MR._auto_1):F2 X E tg (.Call (.Name "range" p) [a] [] pos) (F3 fs):=by
 obtain⟨t,p1,s1⟩:=ha;refine⟨_,xg hg hm p1 hs,λg M ρ env σ H Rq rep p=>s1.one rep (P:=λM H r=>PostI X.mg E g M ρ env σ H Rq r) p (λ_ _ z=>z) (λ_ _ _ z=>z) (λ_ _ _ _ _ e p=>p.ext e) λrs vs M1 H1 e1 rep1 is q=>?_⟩;generalize hd:rs.map R.d=ds at is q
 match ds,is,q with
 | [.int j],is,q=>
  obtain⟨v,w,rfl,i1,i2⟩:=is;cases i1;cases i2;dsimp only at q;by_cases hc:cR j=true
  .rw[Il hc]at q;simp only[cR,IV,Kw]at hc;exact⟨j,rfl,hc.1,hc.2,q _ M1 H1 (Ext.refl _ _) rep1 (uY 0 j.toNat)⟩
  .rw[Ij hc]at q;exact q.elim
 | [],_,q=>exact q.elim
 | [.non],_,q=>exact q.elim
 | [.bl _],_,q=>exact q.elim
 | [.str _],_,q=>exact q.elim
 | [.tup _],_,q=>exact q.elim
 | [.lst _],_,q=>exact q.elim
 | [.dic _ _],_,q=>exact q.elim
 | .int _::_::_,_,q=>exact q.elim
 | .non::_::_,_,q=>exact q.elim
 | .bl _::_::_,_,q=>exact q.elim
 | .str _::_::_,_,q=>exact q.elim
 | .tup _::_::_,_,q=>exact q.elim
 | .lst _::_::_,_,q=>exact q.elim
 | .dic _ _::_::_,_,q=>exact q.elim
noncomputable def gc (asg:D->Bool->En->Option En)(fr:Bool)(body:En->Res Fl):List D->En->Res Fl
 | [],env=>.ok (.nx env)
 |x::xs,env=>match asg x fr env with
  |none=>.stuck
  |some i8=>(body i8).bind λr=>match r with
   | .nx bh=>gc asg fr body xs bh
   | .ct bh=>gc asg fr body xs bh
   | .bk bh=>.ok (.nx bh)
   | .rt r=>.ok (.rt r)
   | .rm r e=>.ok (.rm r e)
noncomputable def tf (src:En->Res Src)(asg:D->Bool->En->Option En)(body:En->Res Fl):En->Res Fl:=λenv=>(src env).bind λs=>gc asg s.fr body s.xs (frz env s.al)
def F4 (J:It)(u:TG)(tb:TS)(D:Ends)(σ:St)(H1:Hp):Prop:=∃ W:Nat->Nat->St->Hp->Prop,(∃ m,W 0 m σ H1)/\∀ i m σ H,W i m σ H->(J.stop i H/\D.nx σ H)\/(J.go i H/\∃ N:St->Hp->Prop,(∀ σ' H',N σ' H'->∃ m',m'<m/\W (i+1) m' σ' H')/\∀ x H',J.yld i H x H'->u x σ H' λσ2 H2=>tb { D with nx:=N,ct:=N,bk:=D.nx } σ2 H2)
theorem z6 {asg:D->Bool->En->Option En}{fb:En->Res Fl}{g:Gd}{M2:Addr->Prop}{ρ2:Pr}{env2:En}{σ:St}{H1:Hp}{D:Ends}(s2:Ez ix u asg)(s3:BO X.mg E tb fb)(rep2:Rep g M2 ρ2 env2 σ H1)(wk2:Walk J (msk g M2 fr) H1 xs)(p2':PostS X.mg E g M2 H1 D (gc asg fr fb xs env2)):F4 J u tb D σ H1:=by
 refine⟨λi m σ' H'=>m=xs.length-i/\i<=xs.length/\∃ M' ρ' bh,Rep g M' ρ' bh σ' H'/\Frz M2 H1 M' H'/\PostS X.mg E g M' H' D (gc asg fr fb (xs.drop i) bh),⟨_,rfl,IR _,M2,ρ2,_,rep2,Frz.refl _ _,p2'⟩,?_⟩;rintro i m σ' H' ⟨rfl,hle,M',ρ',bh,rep',f',p'⟩;have kp:∀ a o,H1 a=some o->(msk g M2 fr a\/fixd o)->H' a=some o:=λa o e z=>f'.h a o e (z.imp (·.1) id);by_cases hlt:i<xs.length
 .have ed:xs[i]?=some xs[i]:=by simp[hlt]
  obtain⟨go,yl⟩:=wk2.go H' i _ kp ed;have edrop:xs.drop i=xs[i]::xs.drop (i+1):=List.drop_eq_getElem_cons hlt;rw[edrop]at p';unfold gc at p';refine .inr ⟨go,λσ'' H''=>∃ M'' ρ'' env'',Rep g M'' ρ'' env'' σ'' H''/\Frz M2 H1 M'' H''/\PostS X.mg E g M'' H'' D (gc asg fr fb (xs.drop (i+1)) env''),λσ'' H'' z=>⟨xs.length-(i+1),by lia,rfl,hlt,z⟩,λx H'' y=>?_⟩;obtain⟨sm,is⟩:=yl x H'' y;have rep'':=rep'.grow sm;have fx:Frz M' H' M' H'':=⟨λ_ z=>z,λa o e _=>sm a o e⟩;have is':Is H'' (msk g M' fr) xs[i] x:=is.weak λa z=>msk.mono f'.m z;cases qa:asg xs[i] fr bh with
  |none=>simp only[qa]at p';exact p'.elim
  |some i8=>
   simp only[qa]at p';refine s2 g M' ρ' bh i8 σ' H'' _ fr x _ rep'' is' qa λσ1 ρ1 rep1' _ _=>?_;refine s3 g M' ρ1 i8 σ1 H'' _ rep1' ?_;have p'':=PostS.frz fx p';cases qb:fb i8 with
   |stuck=>rw[qb]at p'';exact p''
   |exc c=>rw[qb]at p'';exact p''
   |ok r=>
    rw[qb]at p'';cases r with
    |nx e3=>exact λσ3 M3 ρ3 H3 f3 rep3=>⟨M3,ρ3,e3,rep3,(f'.trans fx).trans f3,PostS.frz f3 p''⟩
    |ct e3=>exact λσ3 M3 ρ3 H3 f3 rep3=>⟨M3,ρ3,e3,rep3,(f'.trans fx).trans f3,PostS.frz f3 p''⟩
    |bk e3=>exact p''
    |rt r=>exact p''
    |rm r e3=>exact p''
 .have e:i=xs.length:=by lia
  subst e;rw[List.drop_length]at p';exact .inl ⟨wk2.stop H' kp,p' σ' M' ρ' H' (Frz.refl _ _) rep'⟩
theorem kN (hp:PassesOwn (model X.prog X.w) X.A X.env X.xe)(hc:X.calm=true)
 (hi:F2 X E tg iter src) (hg:BP X ix tg asg) (hb:sZ X E body fb) (hs:autoParam (∀ x,foldedSetIterable iter X.env x=pure x) MP._auto_1):yJ X E (.For tg iter body [] pos) (tf src asg fb):=by
 obtain⟨wi,p1,s1⟩:=hi;obtain⟨u,p2,s2⟩:=hg;obtain⟨tb,p3,s3⟩:=hb;refine⟨_,fI hp hc p1 p2 p3 hs,λg M ρ env σ H D rep p=>?_⟩;refine s1 g M ρ env σ H _ rep ?_;unfold tf at p;cases q:src env with
 |stuck=>rw[q]at p;exact p
 |exc c=>rw[q]at p;exact p
 |ok s=>rw[q]at p;intro J M1 H1 e1 rep1 wk;obtain⟨M2,ρ2,x2,rep2,o2,_,_⟩:=Rep.frz s.al rep1;have wk2:Walk J (msk g M2 s.fr) H1 s.xs:=wk.weak λa z=>z.elim (msk.mono x2) λ⟨i,hi,o⟩=>⟨o2 i hi a o,λ_=>(rep1.priv i a o).2.1⟩;have p2':PostS X.mg E g M2 H1 D (gc asg s.fr fb s.xs (frz env s.al)):=PostS.frz (e1.frz.trans ⟨x2,λ_ _ q _=>q⟩) p;exact z6 s2 s3 rep2 wk2 p2'
end
theorem gd:∀(names:List (Str×NameKind))(cs:List (Str×Addr)),(∀ x∈names,x.2=.free->∃ c,env.cells.lookup x.1=some c)->(∀ y c,cs.lookup y=some c->env.cells.lookup y=some c)->
 ∃ cl,(forIn names cs λ(x:Str×NameKind)(r:List (Str×Addr))=>(do
  if (x.2==.free)=true then
   let c <- cellOf env x.1
   pure (ForInStep.yield ((x.1,c)::r))
  else pure (ForInStep.yield r):Sem (ForInStep (List (Str×Addr)))))=pure cl/\(∀ y c,cl.lookup y=some c->env.cells.lookup y=some c)/\(∀ x∈names,x.2=.free->∃ c,cl.lookup x.1=some c)/\(∀ y c,cs.lookup y=some c->∃ c',cl.lookup y=some c')
 | [],cs,_,h=>⟨cs,by simp,h,λ_ z=>absurd z (by simp),λy c e=>⟨c,e⟩⟩
 |(n,k)::r,cs,hf,h=>by
  by_cases hk:k=.free
  .subst hk;obtain⟨c,hc⟩:=hf (n,.free) (by simp) rfl;have hco:cellOf env n=pure c:=by simp[cellOf,hc]
   have h':∀ y c',((n,c)::cs).lookup y=some c'->env.cells.lookup y=some c':=λy c' e=>by
    rw[KU]at e;cases hy:y==n with
    |true=>rw[hy]at e;cases e;rw[eq_of_beq hy];exact hc
    |false=>rw[hy]at e;exact h y c' e
   obtain⟨cl,e1,e2,e3,e4⟩:=gd r ((n,c)::cs) (λx hx=>hf x (by simp[hx])) h';have self:∃ c',cl.lookup n=some c':=e4 n c (by simp[KU]);refine⟨cl,?_,e2,λx hx hxf=>?_,λy c' e=>?_⟩
   .rw[List.forIn_cons];simp only[beq_self_eq_true,Ky,hco,pure_bind];exact e1
   .rcases Ip.mp hx with rfl|hx
    .exact self
    .exact e3 x hx hxf
   .by_cases hy:y=n
    .rw[hy];exact self
    .refine e4 y c' ?_;have hb:(y==n)=false:=by simpa using hy
     rw[KU,hb];exact e
  .obtain⟨cl,e1,e2,e3,e4⟩:=gd r cs (λx hx=>hf x (by simp[hx])) h;refine⟨cl,?_,e2,λx hx hxf=>?_,e4⟩
   .rw[List.forIn_cons];have hkb:(k==NameKind.free)=false:=by simpa using hk
    simp only[hkb,IF,Ju,pure_bind];exact e1
   .rcases Ip.mp hx with rfl|hx
    .exact absurd hxf hk
    .exact e3 x hx hxf
theorem pF (h:∀ x∈scope.names,x.2=.free->∃ c,env.cells.lookup x.1=some c) :
 ∃ cl,closureFor scope env=pure cl/\(∀ y c,cl.lookup y=some c->env.cells.lookup y=some c)/\(∀ x∈scope.names,x.2=.free->∃ c,cl.lookup x.1=some c):=by
 obtain⟨cl,e1,e2,e3,_⟩:=gd scope.names [] h (λ_ _ e=>by simp at e);refine⟨cl,?_,e2,e3⟩;unfold closureFor;refine Eq.trans ?_ (show((pure cl:Sem (List (Str×Addr))) >>= λcs=>pure cs)=pure cl by simp);rw[<- e1]
 all_goals first
  |rfl
  |(congr 1;congr 1;funext x r;obtain⟨n,k⟩:=x;first|rfl|(dsimp only;split<;>simp_all))
theorem lU {f:Str->NameKind->NameKind}:∀(names:List (Str×NameKind))(y:Str),(names.map λx=>(x.1,f x.1 x.2)).lookup y=(names.lookup y).map (f y)
 | [],y=>rfl
 |(n,k)::r,y=>by
  rw[Im,KU,KU];cases h:y==n with
  |true=>rw[eq_of_beq h];rfl
  |false=>exact lU r y
theorem ik (scope:Scope)(env:Env)(y:Str):(relabel scope env).names.lookup y=(scope.names.lookup y).map λk=>if (k==.free&&env.scope.kind==.function&&env.kindOf y==some .cell)=true then .cell else k:=by
 have e:(relabel scope env).names=scope.names.map λx=>(x.1,(λn k=>if (k==NameKind.free&&env.scope.kind==.function&&env.kindOf n==some .cell)=true then NameKind.cell else k) x.1 x.2):=by unfold relabel;refine JE λx _=>?_;obtain⟨n,k⟩:=x;dsimp only;split<;>rfl
 rw[e];exact lU (f:=λn k=>if (k==NameKind.free&&env.scope.kind==.function&&env.kindOf n==some .cell)=true then NameKind.cell else k) scope.names y
theorem rD (h:scope.names.lookup y=some .free):(relabel scope env).names.lookup y=some .cell\/(relabel scope env).names.lookup y=some .free:=by
 rw[ik,h];simp only[Option.map_some];split
 .exact .inl rfl
 .exact .inr rfl
noncomputable def bZ (X:Cx)(scope:Scope)(N:List Str)(cl:List (Str×Addr))(C:Addr)(s:MH)(H:Hp)(ex:List Addr):Cx:={ X with N:=N,s₀:=s,H₀:=H,env:=compEnvC scope cl C X.env,outer:=X.stack,ex:=ex,fn:=λ_=>false,pn:=[],xe:=λ_ _=>False }
section
variable {X:Cx}{pins:List (Addr×Obj)}{σ:St}{H:Hp}{s:MH}{scope:Scope}{N:List Str}{cl:List (Str×Addr)}{C:Addr}{ex:List Addr}
theorem BR (I:L2.Inv X pins σ H s)(hkind:scope.kind=.function)(hcell:∀ y∈scope.names,y.2≠.cell)(hcl:∀ y c,cl.lookup y=some c->X.env.cells.lookup y=some c)(hhas:∀ x∈scope.names,x.2=.free->∃ c,cl.lookup x.1=some c)
 (hC:s.heap.objs.size<=C) (hex:∀ b∈ex,FpOk X pins H b/\b<s.heap.objs.size):(bZ X scope N cl C s H ex).Ok where
 mod:=I.ok.mod
 kind:=hkind
 glob:=I.ok.glob
 blt:=I.ok.blt
 above:=hC
 inj:=λx y c h1 h2=>I.ok.inj x y c (hcl x c h1) (hcl y c h2)
 has:=λy hy=>by
  have key:∀ k,(relabel scope X.env).names.lookup y=some k->(k=.cell\/k=.free)->∃ c,cl.lookup y=some c:=λk e hk=>by
   rw[ik]at e;cases q:scope.names.lookup y with
   |none=>rw[q]at e;cases e
   |some k0=>
    have hm:=Kc q;have h0:=hcell _ hm;have hf:k0=.free:=by
     rw[q]at e;simp only[Option.map_some,Option.some.injEq]at e;split at e
     .rename_i z;simp only[IV,K_]at z;exact z.1.1
     .rcases hk with hk|hk
      .exact absurd (e.trans hk) h0
      .exact e.trans hk
    exact hhas _ hm hf
  rcases hy with hy|hy
  .exact key _ hy (.inl rfl)
  .exact key _ hy (.inr rfl)
 cab:=λ_ _ h=>by cases h
 hd:=I.ok.hd
 frames:=I.ok.frames
 stk:=.inl rfl
 exf:=λb hb=>⟨II (IQ (hex b hb).2 hC),λx c e=>(hex b hb).1.2.2.2.2.1 x c (hcl x c e)⟩
 bs:=λb o e=>I.bs b o e
 bsz:=IL I.ok.bsz I.sz
 noex:=λb o e hb=>by
  rcases (hex b hb).1.2.2.2.1 with z|z
  .exact I.ok.noex b o e z
  .exact absurd (IQ (Iy e) (IL I.ok.bsz z)) (K9 _)
 exfs:=λb hb hfs=>by
  rcases Ip.mp (I.stkSub b hfs) with z|z
  .exact(hex b hb).1.2.1 z
  .exact(hex b hb).1.2.2.1 z
 funs:=I.stack
 frf:=I.stkFree
 kt:=I.kt
structure Caps (X:Cx) (scope:Scope) (capN:List Str) (caps:List Nat):Prop where
 at':∀(k:Nat)(y:Str),capN[k]?=some y->∃ j:Nat,caps[k]?=some j/\X.N[j]?=some y
 out:∀ y∈capN,X.env.kindOf y=some .cell\/X.env.kindOf y=some .free
 inn:∀ y∈capN,scope.names.lookup y=some .free
 len:caps.length=capN.length
noncomputable def lq (σ:St)(caps:List Nat):St:=caps.map λj=>(σ[j]?).join
theorem z7 (I:L2.Inv X pins σ H s)(hkind:scope.kind=.function)(hcell:∀ y∈scope.names,y.2≠.cell)(hcl:∀ y c,cl.lookup y=some c->X.env.cells.lookup y=some c)(hhas:∀ x∈scope.names,x.2=.free->∃ c,cl.lookup x.1=some c)
 (hC:s.heap.objs.size<=C) (hex:∀ b∈ex,FpOk X pins H b/\b<s.heap.objs.size) (hc:Caps X scope capN caps) (kp:∀ b o,s.heap.get? b=some o->h4.get? b=some o) (ns:h4.Ns C m4) :
 L2.Inv (bZ X scope (tN++capN) cl C s H ex) [] (List.replicate tN.length none++lq σ caps) H { s with heap:=h4,toks:=tk } where
 ok:=BR I hkind hcell hcl hhas hC hex
 os:=rfl
 bare:=I.bare
 base:=Un.kept kp
 loc:=by
  refine⟨m4,ns,λi y v e1 e2 e3=>?_⟩;by_cases hlt:i<tN.length
  .rw[JQ (by simpa using hlt),KO]at e2;rw[Il hlt]at e2;cases e2
  .obtain⟨k,rfl⟩ : ∃ k,i=tN.length+k:=⟨i-tN.length,by lia⟩;have e1:capN[k]?=some y:=by
    have e1:(tN++capN)[tN.length+k]?=some y:=e1
    rwa [I0 (by lia),Kr]at e1
   have e2:(lq σ caps)[k]?=some (some v):=by
    rwa [I0 (by simp),LN,Kr]at e2
   obtain⟨j,ej,eN⟩:=hc.at' k y e1;have e4:σ[j]?=some (some v):=by
    unfold lq at e2;rw[IH,ej]at e2;have e2:(σ[j]?).join=some v:=by simpa using e2
    cases q:σ[j]? with
    |none=>rw[q]at e2;cases e2
    |some o=>rw[q]at e2;cases o with
     |none=>cases e2
     |some w=>cases e2;rfl
   have hm:=Jp e1;obtain⟨m,hn,hl⟩:=I.loc;have hout:=hc.out y hm;obtain⟨u,r,l⟩:=hl j y v eN e4 (.inr hout);refine⟨u,r,.inr ⟨rD (hc.inn y hm),?_⟩⟩;obtain⟨c,hcl2⟩:=hhas (y,.free) (Kc (hc.inn y hm)) rfl;refine⟨c,hcl2,?_⟩;rcases l with⟨l,_⟩|⟨_,c',e5,z⟩
   .rcases hout with h|h<;>(rw[h]at l;cases l)
   .have:=hcl y c hcl2;rw[e5]at this;cases this;obtain⟨o,ho,hd⟩:=z;exact⟨o,kp _ o ho,hd⟩
 cell:=λy c e=>by obtain⟨v,o,ho,hd⟩:=I.cell y c (hcl y c e);exact⟨v,o,kp _ o ho,hd⟩
 free:=I.hok.fresh hC
 freeC:=λy c e=>I.freeC y c (hcl y c e)
 pin:=λp hp=>absurd (show p∈([]:List (Addr×Obj)) from hp) (by simp)
 hok:=I.hok.kept kp
 len:=by simp[bZ,lq,hc.len]
theorem xT (I:L2.Inv X pins σ H s)(hX:X'=bZ X scope N cl C s H ex)(hC:s.heap.objs.size<=C)(hex:∀ b∈ex,FpOk X pins H b/\b<s.heap.objs.size)
 (I':L2.Inv X' pl σ' H' s'):L2.Inv X pins σ H' s'/\FpOk X pins H' C:=by
 subst hX;refine⟨I.call' (ch:=ex) I'.os I'.base I'.hok I'.bare λb hb=>?_,I.fpOk hC I'.free⟩;obtain⟨_,h2,h3,h4,h5,h6⟩:=(hex b hb).1;exact⟨h4,h2,h5,h6⟩
theorem wg (I:L2.Inv X pins σ H s)(hf:FpOk X pins H C)(sb:Heap.SameBut C s.heap h'):L2.Inv X pins σ H { s with heap:=h' }:=I.turned (t':=s.toks) (it:=C) (λb o hb e=>(sb.2 b hb).trans e) hf.1 hf.2.1 hf.2.2.2.1 hf.2.2.2.2.1 hf.2.2.2.2.2
end
section
variable {X:Cx}{pins:List (Addr×Obj)}{σ:St}{H3:Hp}{s3:MH}{scope:Scope}{tg:Expr}{tN:List Str}{capN:List Str}{cl:List (Str×Addr)}{C:Addr}{fp:List Addr}{elt iter:Expr}{pos:Pos}{ifs:List Expr}
def F5 (X:Cx)(ifs:List Expr)(tt:TT):Prop:=∀(pins:List (Addr×Obj))(s:MH)(σ:St)(H:Hp)(Q:Bool->Hp->Prop),L2.Inv X pins σ H s->tt σ H Q->
 wpAny (model X.prog X.w) X.A (forIn ifs true λc r=>if r=true then do let ok <- isTrue c X.env (eval c X.env);pure (ForInStep.yield ok) else pure (ForInStep.yield r)) (TP X pins σ Q) X.xe s
theorem wj:F5 X [] (λ_ H Q=>Q true H):=λ_ _ σ H Q I q=>wpAny_tests_nil ⟨H,I,q⟩
theorem BS (h:PT X c tt):F5 X [c] tt:=λpins s σ H Q I q=>wpAny_tests_one (h pins s σ H Q I q)
theorem xU (hX:X'=bZ X scope (tN++capN) cl C s3 H3 fp)(T:Turn X.prog X.w X.K tg J fp it tn)(hcalm:X.calm=true)
 (I4:L2.Inv X' [] (List.replicate tN.length none++σc) H3 s4) (aR:X'.N.length=tN.length+σc.length) (st4:tn 0 s4.heap) (hf:∀ b∈fp,FpOk X' [] H3 b)
 (hg:PG X' tg gt) (ht:F5 X' ifs tt) (he:PE X' elt te)
   (W:Nat->Nat->List V->Hp->Prop) (Fin:List V->Hp->Prop) (w0:∃ m,W 0 m [] H3)
   (turn:∀ i m acc H,W i m acc H->H Dl=some (.lst acc)/\((J.stop i H/\Fin acc H)\/(J.go i H/\∀ xv H' o,J.yld i H xv H'->o.length=tN.length->gt xv (o++σc) H' λσ2 H1=>(∀ j:Nat,tN.length<=j->σ2[j]?=(o++σc)[j]?)/\tt σ2 H1 λb H2=>if b=true then
     te σ2 H2 λy H5=>H5 Dl=some (.lst acc)/\acc.length<sizeLine/\∃ m',m'<m/\W (i+1) m' (acc++[y]) (aG H5 Dl (.lst (acc++[y]))) else ∃ m',m'<m/\W (i+1) m' acc H2)))
   (R:Result->MH->Prop) (hR:∀ σ' H' acc s',L2.Inv X' [] σ' H' s'->H' Dl=some (.lst acc)->Fin acc H'->R (.ok .next) s') :
   codeAny (model X.prog X.w) X.A (.compLoop (.ListComp elt [⟨tg,iter,ifs,0⟩] scope pos) 0 (.ref it) (.ref Dl) (compEnvC scope cl C X.env)) R s4:=by
  obtain⟨m0,w0⟩:=w0;have eA:X'.A=X.A:=by rw[hX];rfl
  have eP:X'.prog=X.prog:=by rw[hX];rfl
  have eW:X'.w=X.w:=by rw[hX];rfl
  have eK:X'.K=X.K:=by rw[hX];rfl
  have eE:X'.env=compEnvC scope cl C X.env:=by rw[hX];rfl
  have eX:X'.xe=λ_ _=>False:=by rw[hX];rfl
  have eC:X'.calm=true:=by rw[hX];exact hcalm
  have stat:∀{H':Hp},(∀ b∈fp,H' b=none)->∀ b∈fp,FpOk X' [] H' b:=λhn b hb=>⟨hn b hb,(hf b hb).2⟩;refine codeAny_loop rfl (λn s=>∃ i o acc H,L2.Inv X' [] (o++σc) H s/\o.length=tN.length/\tn i s.heap/\(∀ b∈fp,H b=none)/\W i n acc H) ?_ m0 ⟨0,List.replicate tN.length none,[],H3,I4,by simp,st4,λb hb=>(hf b hb).1,w0⟩;rintro n s5 ⟨i,o,acc,H5,I5,lo,st5,fr5,w5⟩;show wpAny _ X.A ((compTurn (.ListComp elt [⟨tg,iter,ifs,0⟩] scope pos) 0 (.ref it) (.ref Dl) (compEnvC scope cl C X.env)).onRaise (λx=>do noteFrame x (compEnvC scope cl C X.env);theTreesLotGoes x)) _ _ s5;refine wpAny_noted ?_;rw[compTurn_list];obtain⟨hD,alt⟩:=turn i n acc H5 w5;rcases alt with⟨stop,fin⟩|⟨go,step⟩
  .refine Ic (wpAny_standAt (Ic (Kb (eA▸T.done X' eP eW eK eC i [] s5 _ H5 _ I5 (stat fr5) st5 stop) (λr s6 ⟨hr,I6⟩=>?_) λ_ _ z=>z)));subst hr;exact Ig (hR _ H5 acc s6 I6 hD fin)
  .refine Ic (wpAny_standAt (Ic (Kb (eA▸T.item X' eP eW eK eC i [] s5 _ H5 _ I5 (stat fr5) st5 go) (λr s6 ⟨u,hr,h6⟩=>?_) λ_ _ z=>z)));subst hr;refine Ic (Kb h6 (λ_ s7 ⟨xv,H7,I7,r7,y7,st7,fr7⟩=>?_) λ_ _ z=>z);have I7':=I7.pinned (stat fr7) (T.obj _ _ st7);have hg':=hg _ s7 _ H7 xv u _ I7' r7 (step xv H7 o y7 lo);rw[eP,eW,eA,eE,eX]at hg';refine Ic (Kb hg' (λ_ s8 ⟨σ8,H8,I8,shp,q8⟩=>?_) λ_ _ z=>z.elim);obtain⟨o2,lo2,eσ⟩ : ∃ o2:St,o2.length=tN.length/\σ8=o2++σc:=by
    have l8:σ8.length=tN.length+σc.length:=I8.len.trans aR;refine⟨σ8.take tN.length,by rw[J8];lia,?_⟩;have ed:σ8.drop tN.length=σc:=by
     apply LH
     intro j;rw[List.getElem?_drop,shp (tN.length+j) (by lia),I0 (by lia),lo,Kr]
    rw[<- ed,KA]
   subst eσ;have ht':=ht _ s8 _ H8 _ I8 q8;rw[eP,eW,eA,eE,eX]at ht';refine Ic (Kb ht' (λok s9 ⟨H9,I9,q9⟩=>?_) λ_ _ z=>z.elim);have again:∀{s':MH}{H':Hp},L2.Inv X' ([]++mX fp s7.heap) (o2++σc) H' s'->L2.Inv X' [] (o2++σc) H' s'/\tn (i+1) s'.heap/\∀ b∈fp,H' b=none:=λ{s' H'} J'=>by refine⟨J'.unpinned,T.keep _ _ _ st7 λb hb ob e=>(J'.pin (b,ob) (IU _ (IU _ (f9 hb e)))).1,λb hb=>?_⟩;obtain⟨ob,e,d⟩:=T.obj _ _ st7 b hb;exact(J'.pin (b,ob) (IU _ (IU _ (f9 hb e)))).2.1
   cases ok with
   |false=>obtain⟨m',hm,w9⟩:=(show ∃ m',m'<n/\W (i+1) m' acc H9 from by simpa using q9);obtain⟨a1,a2,a3⟩:=again I9;exact Ig ⟨rfl,m',hm,i+1,o2,acc,H9,a1,lo2,a2,a3,w9⟩
   |true=>
    have q9:te (o2++σc) H9 λy H5=>H5 Dl=some (.lst acc)/\acc.length<sizeLine/\∃ m',m'<n/\W (i+1) m' (acc++[y]) (aG H5 Dl (.lst (acc++[y]))):=by simpa using q9
    have he':=he _ s9 _ H9 _ I9 q9;rw[eP,eW,eA,eE,eX]at he';refine Ic (Ic (Kb he' (λv s10 ⟨y,H10,I10,ry,eD,hl,m',hm,w10⟩=>?_) λ_ _ z=>z.elim));have hm':=cM (X:=X') _ s10 _ H10 (.ref Dl) [y] (.ref Dl) [v] (λw H'=>w=.non/\H'=aG H10 Dl (.lst (acc++[y]))) I10 rfl (.cons ry .nil) ⟨Dl,acc,y,rfl,rfl,eD,hl,rfl,rfl⟩;rw[eP,eW,eA,eX]at hm';refine Ic (Kb hm' (λ_ s11 ⟨w,H11,I11,_,_,eH⟩=>?_) λ_ _ z=>z.elim);subst eH;obtain⟨a1,a2,a3⟩:=again I11;exact Ig (Ig ⟨rfl,m',hm,i+1,o2,acc++[y],_,a1,lo2,a2,a3,w10⟩)
end
structure CScope (X:Cx) (scope:Scope) (tN:List Str) (capN:List Str) (caps:List Nat):Prop where
 kind:scope.kind=.function
 ncell:∀ y∈scope.names,y.2≠.cell
 names:∀ y∈scope.names,y.2=.local->scope.names.lookup y.1=some .local
 own:∀ x∈tN,scope.names.lookup x=some .local
 free:∀ y∈scope.names,y.2=.free->X.env.kindOf y.1=some .cell\/X.env.kindOf y.1=some .free
 cap:Caps X scope capN caps
 nd:(tN++capN).Nodup
section
variable {X:Cx}{pins:List (Addr×Obj)}{σ:St}{H:Hp}{s:MH}{scope:Scope}{tg:Expr}{tN:List Str}{capN:List Str}{caps:List Nat}{elt iter:Expr}{pos:Pos}{ifs:List Expr}{wi:TI}
def io (X:Cx)(scope:Scope)(tg:Expr)(tN:List Str)(capN:List Str)(caps:List Nat)(elt:Expr)(ifs:List Expr)(σ:St)(Fin:Addr->List V->Hp->Prop)(J:It)(H2:Hp):Prop:=
 ∀(Dl:Addr),H2 Dl=none->∀(cl:List (Str×Addr))(C:Addr)(s3:MH)(fp:List Addr),∃(gt:TG)(tt:TT)(te:TE)(W:Nat->Nat->List V->Hp->Prop),
  PG (bZ X scope (tN++capN) cl C s3 (aG H2 Dl (.lst [])) fp) tg gt/\F5 (bZ X scope (tN++capN) cl C s3 (aG H2 Dl (.lst [])) fp) ifs tt/\PE (bZ X scope (tN++capN) cl C s3 (aG H2 Dl (.lst [])) fp) elt te/\(∃ m,W 0 m [] (aG H2 Dl (.lst [])))/\
  ∀ i m acc H,W i m acc H->H Dl=some (.lst acc)/\((J.stop i H/\Fin Dl acc H)\/(J.go i H/\∀ xv H' (o:St),J.yld i H xv H'->o.length=tN.length->gt xv (o++lq σ caps) H' λσ2 H1=>(∀ j:Nat,tN.length<=j->σ2[j]?=(o++lq σ caps)[j]?)/\tt σ2 H1 λb H2=>if b=true then
   te σ2 H2 λy H5=>H5 Dl=some (.lst acc)/\acc.length<sizeLine/\∃ m',m'<m/\W (i+1) m' (acc++[y]) (aG H5 Dl (.lst (acc++[y]))) else ∃ m',m'<m/\W (i+1) m' acc H2))
theorem qm {use:Option (MK->Sem Unit)}{Qv:MK->MH->Prop}{Fin:Addr->List V->Hp->Prop}(hc:X.calm=true)(S:CScope X scope tN capN caps)(I:L2.Inv X pins σ H s)(hi:PI X tg iter wi)
 (h:wi σ H (io X scope tg tN capN caps elt ifs σ Fin))
 (hu:∀(Dl C:Addr)(acc:List V)(H':Hp)(s':MH),L2.Inv X pins σ H' s'->FpOk X pins H' C->H' Dl=some (.lst acc)->Fin Dl acc H'->(∃ m,s'.heap.Ns C m)->compPost (model X.prog X.w) X.A X.xe use Qv (.ref Dl) C (.ok .next) s')
 (hs:autoParam (∀ x,foldedSetIterable iter X.env x=pure x) MP._auto_1) :
 wpAny (model X.prog X.w) X.A (comprehension (.ListComp elt [⟨tg,iter,ifs,0⟩] scope pos) scope X.env (firstIterPos [⟨tg,iter,ifs,0⟩] pos) (newList []) false (eval iter X.env) use) Qv X.xe s:=by
 obtain⟨cl,ecl,hcl,hhas⟩:=pF (scope:=scope) (env:=X.env) λy hy hf=>I.ok.has y.1 (S.free y hy hf);refine wpAny_comprehension_free rfl hs ecl S.kind S.names (bX (hi pins s σ H _ I h) λv s1 h1=>bX h1 λitv s2 h2=>?_);obtain⟨it,fp,tn,J,H2,rfl,I2,T,st2,f2,goal⟩:=h2;refine Jg (wpAny_newFunctionEnv S.ncell (by intro y hy;simp at hy) (λh₁ hns₁ hsb₁=>?_) S.kind);dsimp only at hns₁ hsb₁ ⊢;have hD:H2 s2.heap.objs.size=none:=I2.hok.fresh (Ih _);have I3:L2.Inv X pins σ (aG H2 s2.heap.objs.size (.lst [])) { s2 with heap:=s2.heap.push { cls:=.type "list",dict:=none,data:=.seq ([]:List MK).toArray } }:=I2.laid (t':=s2.toks) (λb u e=>Ie _ e) (Ih _) ⟨IR _,[],0,.nil,Iv _ rfl⟩;generalize hs3:({ s2 with heap:=s2.heap.push { cls:=.type "list",dict:=none,data:=.seq ([]:List MK).toArray } }:MH)=s3 at I3;have e3:s2.heap.push { cls:=.type "list",dict:=none,data:=.seq ([]:List MK).toArray }=s3.heap:=by rw[<- hs3]
 rw[e3]at hns₁ hsb₁ ⊢;have kp:∀ b o,s3.heap.get? b=some o->h₁.get? b=some o:=λb o e=>hsb₁.extBut b o (II (Iy e)) (Ie _ e);have k23:∀ b o,s2.heap.get? b=some o->s3.heap.get? b=some o:=λb o e=>by rw[<- e3];exact Ie _ e
 have hex:∀ b∈fp,FpOk X pins (aG H2 s2.heap.objs.size (.lst [])) b/\b<s3.heap.objs.size:=λb hb=>by obtain⟨o,ho,_⟩:=T.obj 0 _ st2 b hb;have hlt:b<s2.heap.objs.size:=Iy ho;refine⟨⟨?_,(f2 b hb).2⟩,Iy (k23 b o ho)⟩;rw[ac (II hlt)];exact(f2 b hb).1
 have es:({ s2 with heap:=h₁,toks:=s2.toks+([]:List (Str×MK)).length }:MH)={ s3 with heap:=h₁,toks:=s2.toks+([]:List (Str×MK)).length }:=by rw[<- hs3]
 have I4:L2.Inv (bZ X scope (tN++capN) cl s3.heap.objs.size s3 (aG H2 s2.heap.objs.size (.lst [])) fp) [] (List.replicate tN.length none++lq σ caps) (aG H2 s2.heap.objs.size (.lst [])) { s3 with heap:=h₁,toks:=s2.toks+([]:List (Str×MK)).length }:=z7 I3 S.kind S.ncell hcl hhas (Ih _) hex S.cap kp hns₁;obtain⟨gt,tt,te,W,hg,ht,he,w0,turn⟩:=goal s2.heap.objs.size hD cl s3.heap.objs.size s3 fp;have st4:tn 0 h₁:=T.keep 0 _ _ st2 λb hb o e=>kp b o (k23 b o e);have f4:∀ b∈fp,FpOk (bZ X scope (tN++capN) cl s3.heap.objs.size s3 (aG H2 s2.heap.objs.size (.lst [])) fp) [] (aG H2 s2.heap.objs.size (.lst [])) b:=λb hb=>by
  obtain⟨f,hlt⟩:=hex b hb;refine⟨f.1,II hlt,λhfs=>?_,.inl hb,λy c e=>f.2.2.2.2.1 y c (hcl y c e),λp hp=>absurd (show p∈([]:List (Addr×Obj)) from hp) (by simp)⟩;rcases Ip.mp (I3.stkSub b hfs) with z|z
  .exact f.2.1 z
  .exact f.2.2.1 z
 have loop:codeAny (model X.prog X.w) X.A (.compLoop (.ListComp elt [⟨tg,iter,ifs,0⟩] scope pos) 0 (.ref it) (.ref s2.heap.objs.size) (compEnvC scope cl s3.heap.objs.size X.env)) (compPost (model X.prog X.w) X.A X.xe use Qv (.ref s2.heap.objs.size) s3.heap.objs.size)
  { s3 with heap:=h₁,toks:=s2.toks+([]:List (Str×MK)).length }:=by
  refine xU rfl T hc I4 (by show(tN++capN).length=_;simp[lq,S.cap.len]) st4 f4 hg ht he W (Fin s2.heap.objs.size) w0 turn _ λσ' H' acc s' I' hD' fin=>?_;obtain⟨Io,fo⟩:=xT I3 rfl (Ih _) hex I';obtain⟨m',hn',_⟩:=I'.loc;exact hu _ _ acc H' s' Io fo hD' fin ⟨m',hn'⟩
 rw[es];exact codeAny_compStart_list loop (T.self _ 0 _ _ _ st4 loop)
theorem ti (hc:X.calm=true)(S:CScope X scope tN capN caps)(I:L2.Inv X pins σ H s)(hi:PI X tg iter wi)(h:wi σ H (io X scope tg tN capN caps elt ifs σ λDl _ H'=>Q (.ref Dl) H'))
 (hs:autoParam (∀ x,foldedSetIterable iter X.env x=pure x) MP._auto_1):wpAny (model X.prog X.w) X.A (eval (.ListComp elt [⟨tg,iter,ifs,0⟩] scope pos) X.env) (EP X pins σ Q) X.xe s:=by
 rw[eval_ListComp];refine qm (use:=none) hc S I hi h (λDl C acc H' s' Io fo hD fin hn=>?_) hs;obtain⟨m,hn⟩:=hn;exact⟨m,hn,λh' sb=>⟨.ref Dl,H',wg Io fo sb,rfl,fin⟩⟩
theorem z8 {D:Ends}{i:Nat}(hc:X.calm=true)(S:CScope X scope tN capN caps)(hN:X.N.Nodup)(hi':X.N[i]?=some y)(hy:X.env.scope.names.lookup y=some .local)
 (hsw:swapsWith (.ListComp elt [⟨tg,iter,ifs,0⟩] scope pos) (some (.Name y py)) spos.line X.env=pure true) (I:L2.Inv X pins σ H s) (hi:PI X tg iter wi)
 (h:wi σ H (io X scope tg tN capN caps elt ifs σ λDl _ H'=>D.nx (σ.set i (some (.ref Dl))) H')) (hs:autoParam (∀ x,foldedSetIterable iter X.env x=pure x) MP._auto_1) :
 wpAny (model X.prog X.w) X.A (exec (.Assign [.Name y py] (.ListComp elt [⟨tg,iter,ifs,0⟩] scope pos) spos) X.env) (SP X pins D) X.xe s:=by
 rw[exec_Assign_Name_used _ _ _ _ hsw];refine Ic (wpAny_standAt (Ic ?_));show wpAny _ X.A (do let _ <- comprehension (.ListComp elt [⟨tg,iter,ifs,0⟩] scope pos) scope X.env _ (newList []) false (eval iter X.env) (some (assign (.Name y py) X.env))) _ _ s;refine Ic (Kb (qm (use:=some (assign (.Name y py) X.env)) (Qv:=λ_ s'=>SP X pins D .next s') hc S I hi h (λDl C acc H' s' Io fo hD fin hn=>?_) hs) (λ_ s' hq=>Ig (Ig hq)) λ_ _ e=>e);obtain⟨m,hn⟩:=hn;show wpAny _ X.A (assign (.Name y py) X.env (.ref Dl)) _ _ _;refine wpAny_assign_Name (pJ (v:=.ref Dl) Io hN hi' (.inl hy) rfl (λs'' I'' ⟨a,sb,ha⟩=>?_) (.inr hy));have nca:C≠a:=by
  rcases ha with z|z
  .rw[z];exact fo.2.1
  .exact Jn (fo.2.2.2.2.1 y a z)
 refine⟨m,hn.sameBut sb nca,λh' sb'=>?_⟩;exact⟨_,H',wg I'' fo sb',fin⟩
end
noncomputable def Res.noX {α:Type}:Res α->Res α
 | .exc _=>.stuck
 |r=>r
noncomputable def BU (env:En)(j:Nat):Option Sl:=match env[j]? with
 |some (some (.val d fr))=>some (.val d fr)
 |some (some (.own ds fr))=>some (.val (.lst ds) fr)
 |some (some (.tre d))=>some (.val d true)
 |_=>none
noncomputable def gf (env:En)(n:Nat)(caps:List Nat):En:=List.replicate n none++caps.map (BU env)
noncomputable def dY (mk:D->Option En)(test:En->Res Bool)(elt:En->Res R):List D->Res (List R)
 | []=>.ok []
 |x::xs=>match mk x with
  |none=>.stuck
  |some e=>(test e).bind λb=>if b then (elt e).bind λr=>(dY mk test elt xs).bind λrs=>.ok (r::rs) else dY mk test elt xs
noncomputable def fE (n:Nat)(caps:List Nat)(src:En->Res Src)(asg:D->Bool->En->Option En)(test:En->Res Bool)(elt:En->Res R):En->Res R:=λenv=>(src env).bind λs=>if s.xs.length<=lim then
 (dY (λd=>asg d s.fr (gf env n caps)) test elt s.xs).noX.bind λrs=>.ok (kM (rs.map R.d) (br rs) (s.al++caps.filter (isOwn env))) else .stuck
def xV (X:Cx)(E:XK)(ifs:List Expr)(f:En->Res Bool):Prop:=∃ t,F5 X ifs t/\SndT X.mg E t f
section
variable {X:Cx}{E:XK}
theorem ip:xV X E [] (λ_=>.ok true):=⟨_,wj,λg M ρ env σ H Q rep p=>p M H (Ext.refl _ _) rep⟩
theorem z9 (h:zP X E c f):xV X E [c] f:=let ⟨t,a,b⟩:=h;⟨t,BS a,b⟩
end
section
variable {g:Gd}{M M1:Addr->Prop}{ρ:Pr}{env:En}{σ:St}{H H1:Hp}
theorem F6 (rep:Rep g M1 ρ env σ H1)(s:Same H1 H)(ho:o.length=n)(hM:∀ a,(M1 a\/∃ i,i∈caps/\ρ i a)->M' a)(hf:∀ a,M' a->H a≠none)(hi:∀ a,M' a->g.H₀ a=none\/g.Ma a)(hfl:∀ a,M' a->g.H₀ a=none->MuZ g H a) :
 Rep g M' (λ_ _=>False) (gf env n caps) (o++lq σ caps) H where
 same:=rep.same.trans s
 froz:=hf
 inn:=hi
 fl:=hfl
 slot:=λi sl e=>by
  by_cases hlt:i<n
  .unfold gf at e;rw[JQ (by simpa using hlt),KO,Il hlt]at e;cases e
  .obtain⟨k,rfl⟩ : ∃ k,i=n+k:=⟨i-n,by lia⟩;have e:(caps.map (BU env))[k]?=some (some sl):=by
    unfold gf at e
    rwa [I0 (by simp),LN,Kr]at e
   rw[IH]at e;cases q:caps[k]? with
   |none=>rw[q]at e;cases e
   |some j=>
    rw[q]at e;have e:BU env j=some sl:=by simpa using e
    have hj:j∈caps:=Jp q;unfold BU at e;cases q2:env[j]? with
    |none=>rw[q2]at e;cases e
    |some o=>
     cases o with
     |none=>rw[q2]at e;cases e
     |some sl0=>
      obtain⟨v,ev,k2⟩:=rep.slot j sl0 q2;have el:(o++lq σ caps)[n+k]?=some (some v):=by rw[I0 (by lia),ho,Kr];unfold lq;rw[IH,q];simp[ev]
      rw[q2]at e;cases sl0 with
      |val d' fr'=>cases e;exact⟨v,el,Is.mono (λa o q _=>s a o q) (λa _ _ z=>⟨hM a (.inl z.1),z.2⟩) k2⟩
      |own ds' fr'=>cases e;obtain⟨a,vs,rfl,h1,h2,h4⟩:=k2;have ha:=(h2 a).mpr rfl;exact⟨_,el,a,vs,rfl,.inl ⟨s _ _ h1,hM a (.inr ⟨j,hj,ha⟩),λ_=>(rep.priv j a ha).2.1⟩,IsAll.mono (λa o q _=>s a o q) (λa _ _ z=>⟨hM a (.inl z.1),z.2⟩) h4⟩
      |tre d'=>cases e;exact⟨v,el,Is.mono (λa o q _=>s a o q) (λa _ _ z=>⟨hM a (.inr ⟨j,hj,z⟩),λ_=>(rep.priv j a z).2.1⟩) k2⟩
      |mes d'=>cases e
 priv:=λ_ _ z=>z.elim
 apart:=λ_ _ _ z=>z.elim
 ow:=λ_ _ z=>z.elim
 len:=by simp[gf,lq,ho]
 zz:=λa z e=>rep.zz a z (s.free e)
end
noncomputable def tj (X:Cx)(scope:Scope)(tg:Expr)(tN:List Str)(capN:List Str)(caps:List Nat)(elt:Expr)(ifs:List Expr)(wi:TI):TE:=λσ H Q=>wi σ H (io X scope tg tN capN caps elt ifs σ λDl _ H'=>Q (.ref Dl) H')
section
variable {X:Cx}{E:XK}{scope:Scope}{tg:Expr}{tN:List Str}{capN:List Str}{caps:List Nat}{ix:List Nat}{asg:D->Bool->En->Option En}{elt iter:Expr}{pos:Pos}{ifs:List Expr}{wi:TI}{src:En->Res Src}{ft:En->Res Bool}{fe:En->Res R}
theorem xW {M1:Addr->Prop}{H1:Hp}{Q:VK}{J:It}{s:Src}{full:List R}(hix:∀ j∈ix,j<tN.length)(hg:∀ cl C s3 H3 fp,BP (bZ X scope (tN++capN) cl C s3 H3 fp) ix tg asg)(ht:∀ cl C s3 H3 fp,xV (bZ X scope (tN++capN) cl C s3 H3 fp) E0 ifs ft)(he:∀ cl C s3 H3 fp,PD (bZ X scope (tN++capN) cl C s3 H3 fp) E0 elt fe)(rep1:Rep g M1 ρ env σ H1)(wk:Walk J (vmsk g M1 s.fr ρ s.al) H1 s.xs)(hlim:s.xs.length<=lim)(qc:dY (λd=>asg d s.fr (gf env tN.length caps)) ft fe s.xs=.ok full)
 (p:PostE X.mg E g M1 ρ env σ H1 Q (.ok (kM (full.map R.d) (br full) (s.al++caps.filter (isOwn env))))):io X scope tg tN capN caps elt ifs σ (λDl _ H'=>Q (.ref Dl) H') J H1:=by
 intro Dl hDl cl C s3 fp;obtain⟨gt,pg,sg⟩:=hg cl C s3 (aG H1 Dl (.lst [])) fp;obtain⟨tt,pt,st⟩:=ht cl C s3 (aG H1 Dl (.lst [])) fp;obtain⟨te,pe,se⟩:=he cl C s3 (aG H1 Dl (.lst [])) fp;obtain⟨d0,dm,dow⟩:=rep1.free hDl;refine⟨gt,tt,te,λi m acc H=>m=s.xs.length-i/\i<=s.xs.length/\∃(M':Addr->Prop)(rs rest:List R),Same H1 H/\H Dl=some (.lst acc)/\(∀ a,(M1 a\/∃ j,j∈s.al++caps/\ρ j a)->M' a)/\
  (∀ a,M' a->(M1 a\/∃ j,j∈s.al++caps/\ρ j a)\/H1 a=none)/\¬ M' Dl/\(∀ a,M' a->H a≠none)/\(∀ a,M' a->g.H₀ a=none->MuZ g H a)/\rs.length<=i/\IsAll H (msk g M' (br rs)) (rs.map R.d) acc/\dY (λd=>asg d s.fr (gf env tN.length caps)) ft fe (s.xs.drop i)=.ok rest/\full=rs++rest,
  pg,pt,pe,⟨_,rfl,IR _,(λa=>M1 a\/∃ j,j∈s.al++caps/\ρ j a),[],full,aE hDl,af,λ_ z=>z,λ_ z=>.inl z,?_,?_,?_,Ih _,rfl,qc,rfl⟩,?_⟩
 .rintro (z|⟨j,_,z⟩)
  .exact dm z
  .exact dow j z
 .rintro a (z|⟨j,_,z⟩) hn
  .exact rep1.froz a z ((aE hDl).free hn)
  .obtain⟨_,_,uo,hz,_⟩:=rep1.priv j a z;rw[(aE hDl) a _ hz]at hn;cases hn
 .rintro a (z|⟨j,_,z⟩) h0
  .exact(rep1.fl a z h0).same λo e=>aE hDl _ _ e
  .exact .inl ((rep1.priv j a z).2.2.same λo e=>aE hDl _ _ e)
 .rintro i m acc H2 ⟨rfl,hle,M',rs,rest,sm,hD2,hMi,hMo,nD,frz2,fl2,hrs,isA,qr,efull⟩;refine⟨hD2,?_⟩;have kp:∀ a o,H1 a=some o->(vmsk g M1 s.fr ρ s.al a\/fixd o)->H2 a=some o:=λa o e _=>sm a o e;have inn2:∀{M'':Addr->Prop}{a:Addr},(M1 a\/∃ j,j∈s.al++caps/\ρ j a)\/H1 a=none->g.H₀ a=none\/g.Ma a:=λ{M'' a} z=>by
   rcases z with(z|⟨j,_,z⟩)|z
   .exact rep1.inn a z
   .exact .inl (rep1.priv j _ z).2.1
   .exact .inl (rep1.same.free z)
  by_cases hlt:i<s.xs.length
  .have ed:s.xs[i]?=some s.xs[i]:=by simp[hlt]
   obtain⟨go,yl⟩:=wk.go H2 i _ kp ed;refine .inr ⟨go,λxv H3 o y lo=>?_⟩;obtain⟨s23,isx⟩:=yl xv H3 y;have edrop:s.xs.drop i=s.xs[i]::s.xs.drop (i+1):=List.drop_eq_getElem_cons hlt;rw[edrop]at qr;unfold dY at qr;have isx':Is H3 (msk g M' s.fr) s.xs[i] xv:=isx.weak λa z=>by
    rcases z with z|⟨j,hj,z⟩
    .exact⟨hMi a (.inl z.1),z.2⟩
    .exact⟨hMi a (.inr ⟨j,by simp[hj],z⟩),λ_=>(rep1.priv j _ z).2.1⟩
   have repI:Rep g M' (λ_ _=>False) (gf env tN.length caps) (o++lq σ caps) H3:=F6 rep1 (sm.trans s23) lo (λa z=>hMi a (z.imp id λ⟨j,hj,w⟩=>⟨j,by simp[hj],w⟩)) (λa z hn=>frz2 a z (s23.free hn)) (λa z=>inn2 (M'':=M') (hMo a z)) (λa z h0=>(fl2 a z h0).same λo e=>s23 _ _ e);cases qa:asg s.xs[i] s.fr (gf env tN.length caps) with
   |none=>simp only[qa]at qr;cases qr
   |some envT=>
   simp only[qa]at qr;refine sg g M' _ _ envT _ H3 _ s.fr xv _ repI isx' qa λσ2 ρ2 repT shp nρ=>⟨λj hj=>shp j λz=>absurd (hix j z) (by lia),?_⟩;refine st g M' ρ2 _ _ H3 _ repT ?_;cases qt:ft envT with
   |stuck=>rw[qt]at qr;cases qr
   |exc c=>rw[qt]at qr;cases qr
   |ok b=>
    rw[qt]at qr;intro M4 H4 e4 rep4;cases b with
    |false=>refine zi ⟨s.xs.length-(i+1),by lia,rfl,hlt,M',rs,rest,(sm.trans s23).trans e4.h,e4.h _ _ (s23 _ _ hD2),hMi,hMo,nD,λa z hn=>frz2 a z (s23.free (e4.h.free hn)),λa z h0=>(fl2 a z h0).same λo e=>e4.h _ _ (s23 _ _ e),by lia,?_,by simpa using qr,efull⟩;exact IsAll.same e4.h (IsAll.same s23 isA)
    |true=>
     refine xA ?_;simp only[Res.bind_ok,Ky]at qr;refine se g M4 ρ2 _ _ H4 _ rep4 ?_;cases qe:fe envT with
     |stuck=>rw[qe]at qr;cases qr
     |exc c=>rw[qe]at qr;cases qr
     |ok r=>
      rw[qe]at qr;simp only[Res.bind_ok]at qr;cases qd:dY (λd=>asg d s.fr (gf env tN.length caps)) ft fe (s.xs.drop (i+1)) with
      |stuck=>rw[qd]at qr;cases qr
      |exc c=>rw[qd]at qr;cases qr
      |ok rest'=>
       rw[qd]at qr;have qr:r::rest'=rest:=by simpa using qr
       intro yv M5 H5 e5 rep5 ro;obtain⟨M6,e6,m56,rep6,is6⟩:=ro.is rep5 e5 rep4.same;have D3:H3 Dl=some (.lst acc):=s23 _ _ hD2;have D4:H4 Dl=some (.lst acc):=e4.h _ _ D3;have D5:H5 Dl=some (.lst acc):=e5.h _ _ D4;have nD4:¬ M4 Dl:=λz=>(e4.n Dl z).elim nD λw=>by rw[D3]at w;cases w
       have nD6:¬ M6 Dl:=λz=>(e6.n Dl z).elim nD4 λw=>by rw[D4]at w;cases w
       have M46:∀ a,M4 a->M6 a:=e6.m;have up:∀ a o,H5 a=some o->a≠Dl->aG H5 Dl (.lst (acc++[yv])) a=some o:=λa o e n=>by rw[ac n];exact e
       have kp5:∀(fr:Bool) a o,H5 a=some o->(msk g M6 fr a\/fixd o)->aG H5 Dl (.lst (acc++[yv])) a=some o:=λfr a o e z=>up a o e λw=>by
        subst w;rcases z with z|z
        .exact nD6 z.1
        .rw[D5]at e;cases e;exact z
       refine⟨D5,?_,s.xs.length-(i+1),by lia,rfl,hlt,M6,rs++[r],rest',?_,af,λa z=>M46 a (e4.m a (hMi a z)),λa z=>?_,nD6,λa z=>?_,λa z h0=>?_,by simp;lia,?_,qd,by rw[efull,<- qr];simp⟩
       .have:acc.length=rs.length:=by rw[isA.length,Ik]
        exact zQ (by lia)
       .intro b o e;exact up b o (e5.h _ _ (e4.h _ _ (s23 _ _ (sm _ _ e)))) (ah e hDl)
       .rcases e6.n a z with z|z
        .rcases e4.n a z with z|z
         .exact hMo a z
         .exact .inr (sm.free (s23.free z))
        .exact .inr (sm.free (s23.free (e4.h.free z)))
       .by_cases hw:a=Dl
        .rw[hw,af];simp
        .rw[ac hw];exact rep6.froz a z
       .have hw:a≠Dl:=λe=>nD6 (e▸z);exact(rep6.fl a z h0).same λo e=>by rw[ac hw];exact e
       .rw[Jk];refine IsAll.append ?_ ⟨yv,[],rfl,?_,rfl⟩
        .have i5:IsAll H5 (msk g M' (br rs)) (rs.map R.d) acc:=((isA.same s23).same e4.h).same e5.h;refine(i5.weak λa z=>(⟨M46 a (e4.m a z.1),λe=>z.2 (by simp[br]at e ⊢;exact e.1)⟩ : msk g M6 (br (rs++[r])) a)).mono (kp5 _) λ_ _ _ z=>z
        .refine(is6.weak λa z=>?_:Is H5 (msk g M6 (br (rs++[r]))) r.d yv).mono (kp5 _) λ_ _ _ z=>z;rcases z with z|⟨j,_,z⟩
         .exact⟨z.1,λe=>z.2 (by simp[br]at e;exact e.2)⟩
         .exact(nρ _ _ z).elim
  .have ei:i=s.xs.length:=by lia
   subst ei;refine .inl ⟨wk.stop H2 kp,?_⟩;rw[List.drop_length]at qr;unfold dY at qr;cases qr;rw[Js]at efull;subst efull;have RM:Rep g (λa=>M1 a\/(nl H1 H2 a/\M' a)) ρ env σ H2:=rep1.came sm M';have XM:Ext M1 H1 (λa=>M1 a\/(nl H1 H2 a/\M' a)) H2:=⟨λ_=>.inl,sm,λ_ z=>z.imp id (·.1.1)⟩;have nDl:¬ (M1 Dl\/(nl H1 H2 Dl/\M' Dl)):=λz=>z.elim dm λz=>nD z.2;have nwD:∀ b,V.ref Dl=.ref b->H1 b=none:=λb e=>by cases e;exact hDl
   unfold kM at p;by_cases hfl:D.flats (full.map R.d)=true
   .rw[Il hfl]at p;exact p _ _ H2 XM RM ⟨Dl,acc,rfl,hD2,nDl,hDl,dow,IsAll.flat hfl isA⟩
   .rw[Ij hfl]at p;by_cases hal:(s.al++caps.filter (isOwn env)).isEmpty=true
    .rw[Il hal]at p;refine p _ _ H2 XM RM ⟨Dl,acc,rfl,hD2,nDl,hDl,dow,isA.weak λa z=>⟨?_,z.2⟩⟩;rcases hMo a z.1 with(w|⟨j,hj,w⟩)|w
     .exact .inl w
     .exfalso;have he:s.al++caps.filter (isOwn env)=[]:=by simpa using hal
      rcases IG.mp hj with hj|hj
      .have:j∈s.al++caps.filter (isOwn env):=IT _ hj;rw[he]at this;simp at this
      .have:j∈s.al++caps.filter (isOwn env):=IU _ (Jj.mpr ⟨hj,rep1.ow j a w⟩);rw[he]at this;simp at this
     .exact .inr ⟨⟨w,(fl2 a z.1 (rep1.same.free w)).elim id λq=>(rep1.zz a q.1 w).elim⟩,z.1⟩
    .rw[Ij hal]at p;refine p _ (λa=>(M1 a\/(nl H1 H2 a/\M' a))\/a=Dl) H2 ⟨λ_ z=>.inl (.inl z),sm,λa z=>z.elim (XM.n a) λe=>.inr (e▸hDl)⟩ (RM.more hD2 d0 dow) ⟨Dl,acc,rfl,.inl ⟨hD2,.inl ⟨.inr rfl,λ_=>d0⟩⟩,isA.weak λa z=>?_⟩;rcases hMo a z.1 with(w|⟨j,hj,w⟩)|w
     .exact .inl ⟨.inl (.inl w),z.2⟩
     .refine .inr ⟨j,?_,w⟩;rcases IG.mp hj with hj|hj
      .exact IT _ hj
      .exact IU _ (Jj.mpr ⟨hj,rep1.ow j a w⟩)
     .exact .inl ⟨.inl (.inr ⟨⟨w,(fl2 a z.1 (rep1.same.free w)).elim id λq=>(rep1.zz a q.1 w).elim⟩,z.1⟩),z.2⟩
theorem tp (si:F1 X.mg E wi src)(hix:∀ j∈ix,j<tN.length)(hg:∀ cl C s3 H3 fp,BP (bZ X scope (tN++capN) cl C s3 H3 fp) ix tg asg)(ht:∀ cl C s3 H3 fp,xV (bZ X scope (tN++capN) cl C s3 H3 fp) E0 ifs ft)(he:∀ cl C s3 H3 fp,PD (bZ X scope (tN++capN) cl C s3 H3 fp) E0 elt fe) :
 Snd X.mg E (tj X scope tg tN capN caps elt ifs wi) (fE tN.length caps src asg ft fe):=by
 intro g M ρ env σ H Q rep p;refine si g M ρ env σ H _ rep ?_;unfold fE at p;cases q:src env with
 |stuck=>rw[q]at p;exact p
 |exc c=>rw[q]at p;exact p
 |ok s=>
  rw[q]at p;simp only[Res.bind_ok]at p;intro J M1 H1 e1 rep1 wk Dl hDl cl C s3 fp;by_cases hlim:s.xs.length<=lim
  .rw[Il hlim]at p;cases qc:dY (λd=>asg d s.fr (gf env tN.length caps)) ft fe s.xs with
   |stuck=>rw[qc]at p;exact p.elim
   |exc c=>rw[qc]at p;exact p.elim
   |ok full=>rw[qc]at p;have p:PostE X.mg E g M1 ρ env σ H1 Q (.ok (kM (full.map R.d) (br full) (s.al++caps.filter (isOwn env)))):=PostE.ext e1 p;exact xW hix hg ht he rep1 wk hlim qc p Dl hDl cl C s3 fp
  .rw[Ij hlim]at p;exact p.elim
theorem rE (hc:X.calm=true)(S:CScope X scope tN capN caps)(hi:F2 X E tg iter src)(hix:∀ j∈ix,j<tN.length)(hg:∀ cl C s3 H3 fp,BP (bZ X scope (tN++capN) cl C s3 H3 fp) ix tg asg)(ht:∀ cl C s3 H3 fp,xV (bZ X scope (tN++capN) cl C s3 H3 fp) E0 ifs ft)(he:∀ cl C s3 H3 fp,PD (bZ X scope (tN++capN) cl C s3 H3 fp) E0 elt fe)
 (hs:autoParam (∀ x,foldedSetIterable iter X.env x=pure x) MP._auto_1):PD X E (.ListComp elt [⟨tg,iter,ifs,0⟩] scope pos) (fE tN.length caps src asg ft fe):=by
 obtain⟨wi,p1,s1⟩:=hi;exact⟨tj X scope tg tN capN caps elt ifs wi,λpins s σ H Q I h=>ti hc S I p1 h hs,tp s1 hix hg ht he⟩
theorem nN (hc:X.calm=true)(S:CScope X scope tN capN caps)(hN:X.N.Nodup)(hi':X.N[i]?=some y)(hy:X.env.scope.names.lookup y=some .local)
 (hi:F2 X E tg iter src) (hix:∀ j∈ix,j<tN.length) (hg:∀ cl C s3 H3 fp,BP (bZ X scope (tN++capN) cl C s3 H3 fp) ix tg asg) (ht:∀ cl C s3 H3 fp,xV (bZ X scope (tN++capN) cl C s3 H3 fp) E0 ifs ft) (he:∀ cl C s3 H3 fp,PD (bZ X scope (tN++capN) cl C s3 H3 fp) E0 elt fe)
 (hsw:autoParam (swapsWith (.ListComp elt [⟨tg,iter,ifs,0⟩] scope pos) (some (.Name y py)) spos.line X.env=pure true) MR._auto_1) (hs:autoParam (∀ x,foldedSetIterable iter X.env x=pure x) MP._auto_1) :
 yJ X E (.Assign [.Name y py] (.ListComp elt [⟨tg,iter,ifs,0⟩] scope pos) spos) (dE i (fE tN.length caps src asg ft fe)):=by
 obtain⟨wi,p1,s1⟩:=hi;exact⟨mW (tj X scope tg tN capN caps elt ifs wi) (aZ i),λpins s σ H D I h=>z8 hc S hN hi' hy hsw I p1 h hs,we (tp s1 hix hg ht he)⟩
end
noncomputable def cO (N:List Str)(ds:List D):En:=ds.map (λd=>some (.val d false))++List.replicate (N.length-ds.length) none
noncomputable def wl:Res Fl->Res R
 | .ok (.nx _)=>.ok (.val .non true [])
 | .ok (.rt r)=>.ok r
 | .ok _=>.stuck
 | .exc c=>.exc c
 | .stuck=>.stuck
noncomputable def fR (N:List Str)(FB:En->Res Fl)(ds:List D):Res R:=wl (FB (cO N ds))
theorem fS:dM jf X E:=λ_ _ _ _ _ _ _ h=>h.elim
theorem xX (is:IsAll H Ma ds vs):Rep (FT H Ma) (λa=>Ma a/\H a≠none) (λ_ _=>False) (cO N ds) (L2.bJ N vs) H where
 same:=Same.refl H
 froz:=λa z=>z.2
 inn:=λa z=>.inr z.1
 fl:=λa z h=>absurd h z.2
 slot:=λi sl e=>by
  have hl:=is.length;unfold cO at e;by_cases hi:i<ds.length
  .rw[JQ (by simpa using hi),IH]at e;obtain⟨v,ev,iv⟩:=is.get (i:=i) (d:=ds[i]) (by simp[hi]);have e1:ds[i]?=some ds[i]:=by simp[hi]
   rw[e1]at e;cases e;refine⟨v,?_,Is.mono (λ_ _ q _=>q) (λa o q z=>⟨⟨z,by rw[q];simp⟩,λz=>by cases z⟩) iv⟩;unfold L2.bJ;rw[JQ (by simp;lia),IH,ev];rfl
  .rw[I0 (by simpa using hi),KO]at e;split at e<;>cases e
 priv:=λ_ _ z=>z.elim
 apart:=λ_ _ _ z=>z.elim
 ow:=λ_ _ z=>z.elim
 len:=by have hl:=is.length;unfold cO L2.bJ;simp[hl]
 zz:=λ_ z=>z.elim
section
variable {P:MJ}{w:World}{K:MI}{mg:Str->Option MK}{base:Heap}
theorem iq {x qual:Str}{st:Stmt}{f:Addr}{FB:En->Res Fl}(F:Fun K x qual st f fd)(S:FnScope N ps (defScope st))
 (body:∀(cdv:MK)(A:ML)(outer:List Env)(s:MH)(H:Hp)(E:XK),Room k (A.deeper (envOfC qual (defScope st) s.heap.objs.size f cdv))->sZ (uz jf P w K mg base N qual (defScope st) f cdv A outer s H E).nox E (defBody st) FB) :
 FnOk P w K mg base jf (k+1) f fd ps (pD mg ps.length (fR N FB)):=by
 refine F.ok S (λvs H Q E h=>h.1) (λcdv A outer s H vs Q E hr h=>?_);obtain⟨hl,ds,Ma,is,post⟩:=h;obtain⟨t,p1,s1⟩:=body cdv A outer s H E hr;refine⟨t,p1,s1 (FT H Ma) _ _ (cO N ds) (L2.bJ N vs) H _ (xX is) ?_⟩;unfold fR at post;cases q:FB (cO N ds) with
 |stuck=>rw[q]at post;exact post
 |exc c=>rw[q]at post;exact post
 |ok r=>
  rw[q]at post;cases r with
  |nx env=>exact λσ M' ρ' H' _ rep=>post .non H' rep.same rfl
  |rt r=>exact λv M' H' _ s ro _=>post v H' s (ro λ_ z=>z)
  |rm r env=>exact post.elim
  |bk env=>exact post.elim
  |ct env=>exact post.elim
end
section
variable {X:Cx}{E:XK}
theorem BV:SlR X (λx lo hi H Q=>∃ a xs,x=.ref a/\SqT X.K H a xs/\(HT.sIx xs.length 0 lo=0/\HT.sIx xs.length xs.length hi=xs.length)/\Q x H):=by
 intro pins s σ H x v vl vu lo hi sl Q I rx hs pl pu h;obtain⟨a,xs,rfl,hx,hw,q⟩:=h;cases rx;obtain⟨its,r,ht,hz⟩:=I.tuple hx;have aR:its.toArray.size=xs.length:=by rw[Iu];exact r.length.symm
 refine⟨"tuple",_,Jt.lookup,ht.typeIs,?_⟩;obtain⟨os,hos,hcs,hds⟩:=id hs;have hTs:s.TypeIs (.ref sl) "slice":=⟨os,hos,hcs⟩;unfold getItem
 try with_reducible refine JT ?_
 first|refine Ic (Ig ?_)|skip
 refine Ic (wpAny_sequenceKey ht.typeIs (by decide) ?_);refine Ic (J0 (name:=Str.ofString "__getitem__") ht.typeIs Jt
  (Jh Jt ht.typeIs entry_tuple_getitem ?_ (args_tuple_getitem _ _)))
 show wpAny _ _ (Builtin.Tuple.tupleItemsOf (.ref a) >>= _) _ _ s;refine Ic (tupleItemsOf_ ht ?_);refine Ic (LO hTs ?_);rw[Il (by decide)];refine Ic (HT.sliceApplied_gen hs pl pu ?_);have hyes:((((HT.sIx its.toArray.size 0 lo:Nat):Int)==0&&(1:Int)==1&&(HT.sIx its.toArray.size its.toArray.size hi-HT.sIx its.toArray.size 0 lo)==its.toArray.size)=true):=by rw[aR,hw.1,hw.2];simp
 show wpAny _ _ (if (((HT.sIx its.toArray.size 0 lo:Nat):Int)==0&&(1:Int)==1&&(HT.sIx its.toArray.size its.toArray.size hi-HT.sIx its.toArray.size 0 lo)==its.toArray.size)=true then _ else _) _ _ s;rw[Il hyes];have fin:EP X pins σ Q (.ref a) s:=⟨.ref a,H,I,rfl,q⟩;refine Ic (m:=Builtin.Tuple.tupleIsExact (.ref a)) ?_;unfold Builtin.Tuple.tupleIsExact;refine Ic (LO ht.typeIs ?_);refine Ig ?_;rw[Il (by decide)];exact Ic (Mp (Ig ⟨_,rfl,Ig fin⟩))
noncomputable def cu {α:Type}(xs:List α)(lo hi:Option Int):List α:=(xs.drop (HT.sIx xs.length 0 lo)).take (HT.sIx xs.length xs.length hi-HT.sIx xs.length 0 lo)
theorem IsAll.cut (h:IsAll H m ds vs)(lo hi:Option Int):IsAll H m (cu ds lo hi) (sC vs lo hi):=by unfold cu sC;rw[h.length];exact(h.drop _).take _
noncomputable def C8 (mg:Str->Option MK)(E:XK)(g:Gd)(M:Addr->Prop)(ρ:Pr)(env:En)(σ:St)(H:Hp)(Q:Option Int->Hp->Prop):Res (Option Int)->Prop
 | .stuck=>False
 | .exc c=>BJ mg E g c
 | .ok o=>∀ M' H',Ext M H M' H'->Rep g M' ρ env σ H'->Q o H'
def G6 (X:Cx)(E:XK)(e:Option Expr)(f:En->Res (Option Int)):Prop:=∃ t,PO X e t/\∀ g M ρ env σ H Q,Rep g M ρ env σ H->C8 X.mg E g M ρ env σ H Q (f env)->t σ H Q
noncomputable def z_:En->Res (Option Int):=λ_=>.ok none
noncomputable def nO (f:En->Res R):En->Res (Option Int):=λenv=>(f env).bind λr=>match r.d with
 | .int i=>.ok (some i)
 |_=>.stuck
theorem Aa:G6 X E none z_:=⟨_,Bn,λg M ρ env σ H Q rep p=>p M H (Ext.refl _ _) rep⟩
theorem ir (h:PD X E e f):G6 X E (some e) (nO f):=by
 obtain⟨t,p1,s1⟩:=h;refine⟨_,Bo p1,λg M ρ env σ H Q rep p=>s1.one rep (P:=λM H r=>C8 X.mg E g M ρ env σ H Q r) p (λ_ _ z=>z) (λ_ _ _ z=>z) (λM H M' H' r e p=>?_) λr v M1 H1 e1 rep1 is q=>?_⟩
 .cases r with
  |stuck=>exact p
  |exc c=>exact p
  |ok o=>exact λM2 H2 e2=>p M2 H2 (e.trans e2)
 .cases z:r.d with
  |int i=>rw[z]at is;simp only[z]at q;cases is;exact⟨i,rfl,q M1 H1 (Ext.refl _ _) rep1⟩
  |_=>simp only[z]at q;exact q.elim
noncomputable def rF (r:R)(lo hi:Option Int):Res R:=match r.d with
 | .lst xs=>.ok (kM (cu xs lo hi) r.fr r.al)
 | .tup xs=>.ok (mkV (.tup (cu xs lo hi)) r.fr r.al)
 |_=>.stuck
noncomputable def nP (fa:En->Res R)(fl fh:En->Res (Option Int)):En->Res R:=λenv=>(fa env).bind λr=>(fl env).bind λlo=>(fh env).bind λhi=>rF r lo hi
theorem nQ {lo hi:Option Expr}{fa:En->Res R}{fl fh:En->Res (Option Int)}{p2 pos:Pos}(ha:PD X E e fa)(hl:G6 X E lo fl)(hh:G6 X E hi fh):PD X E (.Subscript e (.Slice lo hi none p2) pos) (nP fa fl fh):=by
 obtain⟨ta,p1,s1⟩:=ha;obtain⟨tl,p2,s2⟩:=hl;obtain⟨th,p3,s3⟩:=hh;refine⟨_,yX (sl_list.or (sl_tup.or BV)) p1 p2 p3,λg M ρ env σ H Q rep p=>s1.oneE rep p λr v M1 H1 e1 rep1 is q=>?_⟩;refine s2 g M1 ρ env σ H1 _ rep1 ?_;cases z1:fl env with
 |stuck=>rw[z1]at q;exact q
 |exc c=>rw[z1]at q;exact q
 |ok lo'=>
  rw[z1]at q;intro M2 H2 e2 rep2;have q2:PostE X.mg E g M2 ρ env σ H2 Q ((fh env).bind λhi=>rF r lo' hi):=PostE.ext e2 q;refine s3 g M2 ρ env σ H2 _ rep2 ?_;cases z2:fh env with
  |stuck=>rw[z2]at q2;exact q2
  |exc c=>rw[z2]at q2;exact q2
  |ok hi'=>
   rw[z2]at q2;intro M3 H3 e3 rep3;have q3:PostE X.mg E g M3 ρ env σ H3 Q (rF r lo' hi'):=PostE.ext e3 q2;have is3:=(is.ext e2).ext e3;unfold rF at q3;cases z:r.d with
   |lst xs=>rw[z]at q3 is3;obtain⟨a,vs,rfl,h1,h2⟩:=is3.rd;exact .inl ⟨a,vs,rfl,.inl h1,λp hp=>q3.lst rep3 hp (h2.cut lo' hi')⟩
   |tup xs=>
    rw[z]at q3 is3;have is4:=is3;obtain⟨a,vs,rfl,h1,h2⟩:=is3;by_cases hw:HT.sIx vs.length 0 lo'=0/\HT.sIx vs.length vs.length hi'=vs.length
    .have ec:cu xs lo' hi'=xs:=by unfold cu;rw[<- h2.length,hw.1,hw.2,h2.length];simp
     dsimp only at q3;rw[ec]at q3;exact .inr (.inr ⟨a,vs,rfl,SqT.of h1,hw,q3.val rep3 is4⟩)
    .exact .inr (.inl ⟨a,vs,rfl,SqT.of h1,hw,λp hp=>q3.tup rep3 hp (h2.cut lo' hi')⟩)
   |_=>rw[z]at q3;exact q3.elim
noncomputable def D.ty:D->String
 | .non=>"NoneType" | .bl _=>"bool" | .int _=>"int" | .str _=>"str" | .tup _=>"tuple" | .lst _=>"list" | .dic _ _=>"dict"
def HP (K:MI) (H:Hp) (x:V) (t:MK):Prop:=TyOf K H x t\/(t=.type "dict"/\∃ a,x=.ref a/\Ed H a)
theorem Is.ty {m:Addr->Prop}{v:V}{K:MI}(h:Is H m d v):HP K H v (.type d.ty):=by
 cases d with
 |non=>cases h;exact .inl .non
 |bl b=>cases h;exact .inl (.bl b)
 |int b=>cases h;exact .inl (.int b)
 |str b=>cases h;exact .inl (.str b)
 |tup ds=>obtain⟨a,vs,rfl,h1,_⟩:=h;exact .inl (.tup h1)
 |lst ds=>
  obtain⟨a,vs,rfl,h1,_⟩:=h;rcases h1 with⟨h1,_⟩|⟨o,h1,_⟩
  .exact .inl (.lst h1)
  .exact .inl (.frz h1)
 |dic ks ds=>obtain⟨a,kvs,rfl,h1,_⟩:=h;exact .inr ⟨rfl,a,rfl,h1.1.imp (λ⟨kvs,e,_⟩=>⟨kvs,e⟩) λ⟨kvs,e,_⟩=>⟨kvs,e⟩⟩
noncomputable def A_ (T:String)(d:D):Bool:=match d with
 | .non=>T=="NoneType"
 | .bl _=>T=="bool" || T=="int"
 | .int _=>T=="int"
 | .str _=>T=="str"
 | .tup _=>T=="tuple"
 | .lst _=>T=="list"
 | .dic _ _=>T=="dict"
def F7 (T:String):Prop:=∀(K:MI)(d:D),PySem.W.kitOne K (.type d.ty) (.type T)=some (A_ T d)
theorem xY:F7 "dict":=λK d=>by cases d<;>kernel_rfl
noncomputable def EB (T:String)(fa:En->Res R):En->Res R:=λenv=>(fa env).bind λr=>.ok (.val (.bl (A_ T r.d)) true [])
theorem Ab:CallR X (.builtin "isinstance") (λxs H Q=>∃ x T t b,xs=[x,.ty T]/\HP X.K H x t/\PySem.W.kitOne X.K t (.type T)=some b/\Q (.bl b) H):=by
 intro pins s σ H xs us Q I r h;obtain⟨x,T,t,b,rfl,ty,e,q⟩:=h;obtain⟨u,c,rfl,ru,rc⟩:=vM r;obtain rfl:c=Value.type T:=rc;rcases ty with ty|⟨rfl,a,rfl,hd⟩
 .exact xo I ru ty e λtk=>⟨.bl b,H,I.tok tk,rfl,q⟩
 .obtain rfl:u=Value.ref a:=ru;obtain⟨t1,_⟩:=nc I hd;exact JD Mq I.kIn t1 e (λz=>nomatch z) λtk=>⟨.bl b,H,I.tok tk,rfl,q⟩
theorem EC (hK:F7 T') (hg:Gl X "isinstance") (hm:X.mg "isinstance"=none) (hgT:Gl X T) (hmT:X.mg T=none) (hvT:bootBuiltins T=some (.type T')) (ha:PD X E e fa)
 (hnT:autoParam (T≠"__name__") MM._auto_1) (hdT:autoParam ((T==("__debug__" : Str))=false) MM._auto_1)
 (he:autoParam (starEach [e,.Name T q] X.env=(false,eval e X.env)::starEach [.Name T q] X.env) MR._auto_1) (he2:autoParam (starEach [.Name T q] X.env=(false,eval (.Name T q) X.env)::starEach [] X.env) MR._auto_1) (hpl:autoParam ((backTo pos (starEach [.Name T q] X.env)).any (·.1)=false) MR._auto_1) :
 PD X E (.Call (.Name "isinstance" p) [e,.Name T q] [] pos) (EB T' fa):=by
 obtain⟨ta,p1,s1⟩:=ha;refine⟨_,cw Ab hg hm (by decide +kernel) (ag p1 (ag (Bc hgT hmT hvT (v:=.ty T') rfl hnT hdT) az he2) he) (by decide) (by decide) he hpl,λg M ρ env σ H Q rep p=>s1.oneE rep p λr v M1 H1 e1 rep1 is q=>?_⟩;exact⟨v,T',_,_,rfl,is.ty,hK X.K r.d,q _ M1 H1 (Ext.refl _ _) rep1 rfl⟩
noncomputable def dZ:List D->Option (List Bool)
 | []=>some []
 | .bl b::r=>(dZ r).map λbs=>b::bs
 |_::_=>none
noncomputable def BW:List R->Res R
 | [r]=>match r.d with
  | .lst ds=>match dZ ds with
   |some bs=>.ok (.val (.bl (bs.all id)) true [])
   |none=>.stuck
  |_=>.stuck
 |_=>.stuck
theorem qo:∀{ds:List D}{bs:List Bool}{i:Nat}{d:D},dZ ds=some bs->ds[i]?=some d->∃ b,d=.bl b/\bs[i]?=some b
 | [],_,_,_,_,e=>by simp at e
 | .bl b::r,bs,0,d,h,e=>by
  simp at e;subst e;unfold dZ at h;cases q:dZ r with
  |none=>rw[q]at h;cases h
  |some bs'=>rw[q]at h;cases h;exact⟨b,rfl,rfl⟩
 | .bl b::r,bs,i+1,d,h,e=>by
  unfold dZ at h;cases q:dZ r with
  |none=>rw[q]at h;cases h
  |some bs'=>rw[q]at h;cases h;obtain⟨b',e1,e2⟩:=qo (i:=i) q (by simpa using e);exact⟨b',e1,by simpa using e2⟩
 | .non::_,_,_,_,h,_=>by cases h
 | .int _::_,_,_,_,h,_=>by cases h
 | .str _::_,_,_,_,h,_=>by cases h
 | .tup _::_,_,_,_,h,_=>by cases h
 | .lst _::_,_,_,_,h,_=>by cases h
theorem qp:∀{ds:List D}{bs:List Bool},dZ ds=some bs->bs.length=ds.length
 | [],_,h=>by cases h;rfl
 | .bl b::r,bs,h=>by
  unfold dZ at h;cases q:dZ r with
  |none=>rw[q]at h;cases h
  |some bs'=>rw[q]at h;cases h;simp[qp q]
 | .non::_,_,h=>by cases h
 | .int _::_,_,h=>by cases h
 | .str _::_,_,h=>by cases h
 | .tup _::_,_,h=>by cases h
 | .lst _::_,_,h=>by cases h
theorem xZ (hc:X.calm=true):CallR X (.builtin "all") (λxs H Q=>∃(p:Addr)(vs:List V)(bs:List Bool),xs=[.ref p]/\SqL X.K H p vs/\vs=bs.map V.bl/\Q (.bl (bs.all id)) H):=by
 intro pins s σ H xs us Q I r h;obtain⟨p,vs,bs,rfl,hq,rfl,q⟩:=h;obtain⟨u,rfl,rx⟩:=fQ r;cases rx;obtain⟨its,rv,pl,hz⟩:=I.list hq;have hh:X.A.in1.handled=none:=I.ok.hd hc;obtain⟨o,ho,_⟩:=pl.isList;have hlt:p<s.heap.objs.size:=Iy ho;refine call_all_walk (Lz pl.isList ?_);refine⟨s.heap.objs.size,_,_,_,_,_,λi=>(bs[i]?).getD true,rfl,Walks.list hh s.heap.objs.size p (II hlt) its.toArray,⟨⟨_,Iv _ rfl,rfl,rfl⟩,?_⟩,?_,λh' tk hk=>?_⟩
 .exact pl.isList.at λo e=>Ie _ e
 .intro i v s' Q' E' hv hQ';have hv:its[i]?=some v:=by simpa using hv
  have hi:i<its.length:=(Iz.mp hv).1;have hl:=rv.length;have hb:i<bs.length:=by simpa using (by rw[Ik]at hl;lia:i<bs.length)
  obtain⟨u',hu,ru⟩:=rv.get (i:=i) (x:=.bl bs[i]) (by simp[hb]);rw[hv]at hu;cases hu;cases ru;have eb:bs[i]?=some bs[i]:=by simp[hb]
  dsimp only at hQ';rw[eb]at hQ';exact Ly hQ'
 .have hl:=rv.length;rw[Ik]at hl;have e:((List.range its.toArray.size).all λi=>(bs[i]?).getD true)=bs.all id:=by
   rw[Iu,<- hl];rw[K5,Jq,Jq];constructor
   .intro h b hb;obtain⟨i,hi⟩:=IC.mp hb;have:=h i (by simp;exact(Iz.mp hi).1);rw[hi]at this;exact this
   .intro h i hi;have hi:i<bs.length:=by simpa using hi
    have eb:bs[i]?=some bs[i]:=by simp[hi]
    rw[eb];exact h _ (L5 hi)
  rw[e];refine⟨.bl _,H,?_,rfl,q⟩;have I1:L2.Inv X pins σ H { s with heap:=s.heap.push { cls:=.type "list_iterator",data:=.fields #[.ref p,.int 0 0] } }:=I.kept (t':=s.toks) λb o e=>Ie _ e;have fo:=I.fpOk (H':=H) (Ih s.heap.objs.size) (I.hok.fresh (Ih _));exact I1.turned (t':=tk) (it:=s.heap.objs.size) (λb o hb e=>hk b o (by simpa using hb) e) fo.1 fo.2.1 fo.2.2.2.1 fo.2.2.2.2.1 fo.2.2.2.2.2
theorem ED (hc:X.calm=true):ja X E (.builtin "all") BW:=by
 refine⟨_,xZ hc,λg M ρ env σ H Q rs vs rep i p=>?_⟩
 match rs,i,p with
 | [r],i,p=>
  obtain⟨v,w,rfl,i1,i2⟩:=i;cases i2;have i1:Is H (vmsk g M (br [r]) ρ (b7 [r])) r.d v:=i1;unfold BW at p;dsimp only at p;cases q:r.d with
  |lst ds=>
   rw[q]at p i1;obtain⟨a,ws,rfl,h1,h2⟩:=i1.rd;dsimp only at p;cases qb:dZ ds with
   |none=>rw[qb]at p;exact p.elim
   |some bs=>
    rw[qb]at p;refine⟨a,ws,bs,rfl,.inl h1,?_,p _ M H (Ext.refl _ _) rep rfl⟩;apply LH
    intro j;by_cases hj:j<ds.length
    .obtain⟨b,e1,e2⟩:=qo (i:=j) (d:=ds[j]) qb (by simp[hj]);obtain⟨v',ev,iv⟩:=h2.get (i:=j) (d:=ds[j]) (by simp[hj]);rw[e1]at iv;cases iv;rw[ev,IH,e2];rfl
    .have l1:=h2.length;have l2:=qp qb;rw[Kl (by lia),Kl (by simp;lia)]
  |_=>rw[q]at p;exact p.elim
 | [],_,p=>exact p.elim
 |_::_::_,_,p=>exact p.elim
end
noncomputable def C9 (K:MI)(a:Addr):It:=⟨λi H=>∃ xs x,SqL K H a xs/\xs[i]?=some x,λi H y H'=>∃ p x,H p=none/\y=.ref p/\H'=aG H p (.tup [.int (i:Nat),x])/\∀ xs,SqL K H a xs->xs[i]?=some x,λi H=>∃ xs,SqL K H a xs/\xs.length<=i⟩
theorem x4 {P:MJ}{w:World}{K:MI}(a it e:Addr)(hei:e≠it):Turn P w K (.Tuple es k pos) (C9 K a) [e,it] e (λi h=>(∃ old,IsEnum h e it i old)/\h.IsListIter it a i) where
 mem:=by simp
 obj:=λi h st b hb=>by
  obtain⟨⟨old,he⟩,o,ho,c,d⟩:=st;rcases Ip.mp hb with rfl|hb
  .exact⟨_,he,λv z=>by cases z⟩
  .have:b=it:=by simpa using hb
   subst this;exact⟨o,ho,λv z=>by rw[d]at z;cases z⟩
 keep:=λi h h' st kk=>by obtain⟨⟨old,he⟩,hl⟩:=st;exact⟨⟨old,kk e (by simp) _ he⟩,hl.at λo q=>kk it (by simp) o q⟩
 item:=by
  intro X hP hw hK hc i pins s σ H E I hf st hg;subst hP hw hK;obtain⟨xs,x,hq,hx⟩:=hg;obtain⟨⟨old,he⟩,hl⟩:=st;obtain⟨its,rv,p,hz⟩:=I.list hq;obtain⟨u,hu,ru⟩:=rv.get hx;have fe:=hf e (by simp);have fi:=hf it (by simp);have hai:a≠it:=by intro z;obtain⟨o1,e1,c1,_⟩:=p.isList;obtain⟨o2,e2,c2,_⟩:=hl;rw[z,e2]at e1;cases e1;rw[c2]at c1;injection c1 with z;exact absurd z (by decide)
  have hae:a≠e:=by intro z;obtain⟨o1,e1,c1,_⟩:=p.isList;rw[z,he]at e1;cases e1;injection c1 with z;exact absurd z (by decide)
  have hh:X.A.in1.handled=none:=I.ok.hd hc;have hil:i<its.length:=(Iz.mp hu).1;refine wpAny_pyNext_enum_itemD (Draws.list hh it a hai its.toArray) he ⟨hl,p.isList⟩ (by simpa using hil) hei (by simp;exact⟨hei,Jn hae⟩) λx' h' tk hx' ho hs' hT hsz hk=>?_;have ex:x'=u:=by
   have:its[i]?=some x':=by simpa using hx'
   rw[hu]at this;exact(IM this).symm
  subst ex;refine⟨_,rfl,wpAny_letOwnedTupleGo_enum ho λh'' he'' hs''=>?_⟩;have keep2:∀ b o,b≠e->b≠it->s.heap.get? b=some o->h''.get? b=some o:=λb o n1 n2 q=>(hs''.2 b n1).trans (hk b o n1 n2 q);have hTe:s.heap.objs.size≠e:=Ln (Iy he);have hT'':h''.get? s.heap.objs.size=some { cls:=.type "tuple",data:=.seq #[.int i tk,x'] }:=(hs''.2 _ hTe).trans hT;have I1:L2.Inv X pins σ (aG H s.heap.objs.size (.tup [.int (i:Nat),x])) { s with heap:=h'',toks:=tk+1 }:=by
   refine I.step (g':=s.gens) (d':=s.drawn) (ch:=[e,it]) (λb hb=>?_) (λb o _ _ hn q _=>keep2 b o (λz=>hn (by simp[z])) (λz=>hn (by simp[z])) q)
    (λb o _ _ hn q _=>⟨o.slots,keep2 b o (λz=>hn (by simp[z])) (λz=>hn (by simp[z])) q⟩) (λb o _ q hH=>by rw[ac (II (Iy q))];exact hH)
    (λb o hn q=>⟨o,keep2 b o (λz=>hn (by simp[z])) (λz=>hn (by simp[z])) q⟩) (λb ys q=>by rw[ac (ah q (I.hok.fresh (Ih _)))];exact q)
    (λb o' u' q=>by rw[ac (ah q (I.hok.fresh (Ih _)))];exact q) (λb ps q=>⟨#[],by rw[ac (ah q (I.hok.fresh (Ih _)))];simp[q]⟩) (λm hm=>?_) (λb u' q=>?_) I.bare
   .rcases Ip.mp hb with rfl|hb
    .exact⟨fe.2.2.2.1,fe.2.1,fe.2.2.2.2.1,fe.2.2.2.2.2⟩
    .have:b=it:=by simpa using hb
     subst this;exact⟨fi.2.2.2.1,fi.2.1,fi.2.2.2.2.1,fi.2.2.2.2.2⟩
   .obtain⟨o,es',ep,ho',r⟩:=hm;exact⟨o,es',ep,keep2 _ o (Jn fe.2.1) (Jn fi.2.1) ho',r⟩
   .by_cases hb:b=s.heap.objs.size
    .subst hb;rw[af]at q;cases q;refine⟨by show 2<=sizeLine;decide,[.int i tk,x'],.cons ⟨tk,rfl⟩ (.cons ru .nil),⟨_,hT'',rfl,0,rfl⟩⟩
    .rw[ac hb]at q;refine(I.hok b u' q).stay (λc v hc' q'=>keep2 c v ?_ ?_ q') (λc r=>by rw[ac (ah r (I.hok.fresh (Ih _)))];exact r) λc ys r=>by rw[ac (ah r (I.hok.fresh (Ih _)))];exact r
     .rcases hc' with z|z
      .rw[z];exact ah q fe.1
      .exact ah z fe.1
     .rcases hc' with z|z
      .rw[z];exact ah q fi.1
      .exact ah z fi.1
  refine⟨.ref s.heap.objs.size,_,I1,rfl,⟨_,x,I.hok.fresh (Ih _),rfl,rfl,λys hy=>by rw[I.list_inj hy hq];exact hx⟩,⟨⟨_,by simpa using he''⟩,?_⟩,λb hb=>?_⟩
  .obtain⟨o,q,r⟩:=hs'.1;exact⟨o,(hs''.2 it (Jn hei)).trans q,r⟩
  .rcases Ip.mp hb with rfl|hb
   .rw[ac (II (Iy he))];exact fe.1
   .have:b=it:=by simpa using hb
    subst this;obtain⟨o,q,_⟩:=hl;rw[ac (II (Iy q))];exact fi.1
 done:=by
  intro X hP hw hK hc i pins s σ H E I hf st hg;subst hP hw hK;obtain⟨xs,hq,hx⟩:=hg;obtain⟨⟨old,he⟩,hl⟩:=st;obtain⟨its,rv,p,hz⟩:=I.list hq;have fi:=hf it (by simp);have hai:a≠it:=by intro z;obtain⟨o1,e1,c1,_⟩:=p.isList;obtain⟨o2,e2,c2,_⟩:=hl;rw[z,e2]at e1;cases e1;rw[c2]at c1;injection c1 with z;exact absurd z (by decide)
  have hh:X.A.in1.handled=none:=I.ok.hd hc;have hln:=rv.length;have Dr:Draws X.prog X.w X.A.in1 it [it,a] 0 (λ_ _=>True) (λ_ h=>h.IsListIter it a i/\h.IsList a its.toArray):=
   { live:=λ_ _ st=>let ⟨o,ho,_⟩:=st.1;⟨o,ho⟩
     frame:=λ_ _ _ st hk=>⟨st.1.at λo e=>hk it (by simp) o e,st.2.at λo e=>hk a (by simp) o e⟩
     item:=λi s Q E hi=>absurd hi (by lia)
     done:=λs Q E st hE=>wpAny_nextOf_list_end hh st.1 st.2 (by simp;lia) hE }
  exact wpAny_pyNext_enum_endD Dr he ⟨hl,p.isList⟩ λh' eb=>⟨rfl,I.turned (t':=s.toks) (λb o hb e=>eb b o hb e) fi.1 fi.2.1 fi.2.2.2.1 fi.2.2.2.2.1 fi.2.2.2.2.2⟩
 self:=λA i s Q E st h=>by obtain⟨⟨old,he⟩,_⟩:=st;exact wpAny_pyIter_enum he h
section
variable {X:Cx}{E:XK}{es:List Expr}{k:Nat}{sh:Pos}
noncomputable def wn (K:MI)(ta:TA):TI:=λσ H R=>ta σ H λvs H1=>∃ a xs,vs=[.ref a]/\SqL K H1 a xs/\R (C9 K a) H1
theorem wo {l:Expr} (hg:Gl X "enumerate") (hm:X.mg "enumerate"=none) (ha:PA X [l] ta) (hs:autoParam (starEach [l] X.env=[(false,eval l X.env)]) MR._auto_1):PI X (.Tuple es k sh) (.Call (.Name "enumerate" p) [l] [] pos) (wn X.K ta):=by
 intro pins s σ H R I h;refine Call_ (je I hg hm (by decide +kernel:bootBuiltins "enumerate"=some (.type "enumerate")) (JY (bX (ha pos pins s σ H _ I h) λus s1 ⟨vs,H1,I1,r1,q1⟩=>?_) hs rfl));obtain⟨a,xs,e,hq,q⟩:=q1;subst e;cases r1 with
 |cons r rr=>
  cases rr;cases r;obtain⟨its,rv,pl,hz⟩:=I1.list hq;refine call_enumerate_list pl.isList λh' he hl hsz kp=>?_;have I2:L2.Inv X pins σ H1 { s1 with heap:=h' }:=I1.kept (t':=s1.toks) kp;refine wpAny_pyIter_enum he ?_;refine⟨s1.heap.objs.size+1,[s1.heap.objs.size+1,s1.heap.objs.size],_,_,H1,rfl,I2,x4 a s1.heap.objs.size (s1.heap.objs.size+1) (Nat.succ_ne_self _),⟨⟨_,by simpa using he⟩,hl⟩,λb hb=>?_,q⟩;rcases Ip.mp hb with rfl|hb
  .exact I1.fpOk (Nat.le_succ _) (I1.hok.fresh (Nat.le_succ _))
  .have e:b=s1.heap.objs.size:=by simpa using hb
   subst e;exact I1.fpOk (Ih _) (I1.hok.fresh (Ih _))
end
noncomputable def HQ (osc:Scope)(N:List Str)(scope:Scope)(tN capN:List Str)(caps:List Nat):Bool:=
 (scope.kind==.function)&&scope.names.all (λy=>y.2 != .cell)&&scope.names.all (λy=>y.2 != .local || scope.names.lookup y.1==some .local)&&tN.all (λx=>scope.names.lookup x==some .local) &&
 scope.names.all (λy=>y.2 != .free || (osc.names.lookup y.1==some .cell || osc.names.lookup y.1==some .free))&&(capN.zip caps).all (λp=>N[p.2]?==some p.1)&&(caps.length==capN.length) &&
 capN.all (λy=>osc.names.lookup y==some .cell || osc.names.lookup y==some .free)&&capN.all (λy=>scope.names.lookup y==some .free)&&decide (tN++capN).Nodup
theorem CScope.of (h1:X.env.scope=osc)(h2:X.N=N)(h3:HQ osc N scope tN capN caps=true):CScope X scope tN capN caps:=by
 unfold HQ at h3;simp only[IV,Jq,Bool.or_eq_true,K_,bne_iff_ne,Kw,ne_eq]at h3;obtain⟨⟨⟨⟨⟨⟨⟨⟨⟨a1,a2⟩,a3⟩,a4⟩,a5⟩,a6⟩,a7⟩,a8⟩,a9⟩,a10⟩:=h3;subst h1 h2;refine⟨a1,a2,λy hy hl=>(a3 y hy).resolve_left λz=>z hl,a4,λy hy hf=>(a5 y hy).resolve_left λz=>z hf,⟨λk y e=>?_,a8,a9,a7⟩,a10⟩;have hk:k<capN.length:=(Iz.mp e).1;have hk2:k<caps.length:=by lia
 refine⟨caps[k],by simp[hk2],?_⟩;have hm:(y,caps[k])∈capN.zip caps:=by
  have:(capN.zip caps)[k]?=some (y,caps[k]):=by rw[Lg];exact⟨e,by simp[hk2]⟩
  exact Jp this
 exact a6 _ hm
structure Fn (K:MI) (mg:Str->Option MK) (x:Str) (st:Stmt) (ps:List Str) (f:Addr) (fd:FuncData):Prop where
 fu:Fun K x x st f fd
 bi:Binds K fd ps []
 gl:mg x=some (.ref f)
section
variable {X:Cx}{E:XK}
end
noncomputable def G7 (F:List D->Res R):Sp:=λvs H Q _=>vs.length=1/\∃ ds Ma r,IsAll H Ma ds vs/\F ds=.ok r/\∀ v H',Same H H'->RetOk (FT H Ma) H' v r->Q v H'
theorem nR:∀ ns:List Int,IsAll H m (ns.map D.int) (ns.map V.int)
 | []=>rfl
 |n::r=>⟨.int n,r.map V.int,rfl,rfl,nR r⟩
theorem EE (hF:∀ ns:List Int,ns.length<=63->∃ f al,F [.lst (ns.map .int)]=.ok (.val (.bl true) f al))(H:Hp)(a:Addr)(ns:List Int)(hl:ns.length<=63)(hS:∃ o,H a=some (.frz o (.lst (ns.map V.int)))) :
 G7 F [.ref a] H (λv _=>v=.bl true) λ_ _ _=>False:=by
 obtain⟨f,al,e⟩:=hF ns hl;obtain⟨o,hS⟩:=hS;exact⟨rfl,[.lst (ns.map .int)],λb=>b=a,_,⟨_,[],rfl,⟨a,ns.map V.int,rfl,.inr ⟨o,hS,rfl⟩,nR ns⟩,rfl⟩,e,λv H' _ h=>h⟩
section
variable {P:MJ}{w:World}{K:MI}{mg:Str->Option MK}{base:Heap}
theorem FnOk.top (h:FnOk P w K mg base CX k f fd ps (pD mg 1 F)):FnOk P w K mg base CX k f fd ps (G7 F):=h.imp λvs H Q E ⟨hl,ds,Ma,r,is,e,q⟩=>⟨hl,ds,Ma,is,by rw[e];exact q⟩
end
section
variable {P:MJ}{w:World}{K:MI}{mg:Str->Option MK}{base:Heap}{N:List Str}{qual:Str}{scope:Scope}{f:Addr}{cd:MK}{A:ML}{outer:List Env}{s₀:MH}{H₀:Hp}{E:XK}
end
section
variable {X:Cx}{E:XK}{hc:Str}{Ch:Addr}{cs:List Str}{np hpos pos epos p cpos:Pos}{b₀:Stmt}{suite:List Stmt}{fsu:En->Res Fl}{k:Nat}{f:Addr}{fd:FuncData}{ps:List Str}{F:List D->Res R}{x:Str}{e:Expr}{es:List Expr}{fs:En->Res (List R)}
end
section
variable {h:Heap}{z TI TO i1 i2 a b:Addr}{i:Nat}{its its2:Array MK}
end
section
variable {X:Cx}{E:XK}{es:List Expr}{k:Nat}{sh:Pos}
end
section
variable {X:Cx}{E:XK}
noncomputable def BX:List R->Res R
 | [r]=>match r.d with
  | .int i=>.ok (.val (.int i) true [])
  | .bl b=>.ok (.val (.int (if b then 1 else 0)) true [])
  |_=>.stuck
 |_=>.stuck
theorem EF:ja X E (.type "int") BX:=by
 refine⟨_,xk,λg M ρ env σ H Q rs vs rep i p=>?_⟩
 match rs,i,p with
 | [r],i,p=>
  obtain⟨v,w,rfl,i1,i2⟩:=i;cases i2;have i1:Is H (vmsk g M (br [r]) ρ (b7 [r])) r.d v:=i1;unfold BX at p;dsimp only at p;cases z:r.d with
  |int a=>rw[z]at i1 p;cases i1;exact .inl ⟨a,rfl,p _ M H (Ext.refl _ _) rep rfl⟩
  |bl b=>rw[z]at i1 p;cases i1;exact .inr ⟨b,rfl,p _ M H (Ext.refl _ _) rep rfl⟩
  |_=>rw[z]at p;exact p.elim
 | [],_,p=>exact p.elim
 |_::_::_,_,p=>exact p.elim
open Classical in
noncomputable def fL (H:Hp)(m:Addr->Prop)(x:D)(u:MK):Bool:=decide (∃ d v,RelV v u/\Is H m d v/\fP d x=true)
theorem qq (r:RelV v u)(h:Is H m d v):fL H m x u=fP d x:=by
 unfold fL;cases q:fP d x with
 |true=>exact @IA _ (Classical.propDecidable _) ⟨d,v,r,h,q⟩
 |false=>refine @IJ _ (Classical.propDecidable _) λ⟨d',v',r',h',q'⟩=>?_;have e:=L2.RelV.inj r r';subst e;have e:=Is.inj h h';subst e;rw[q]at q';cases q'
theorem lr:∀{ds:List D}{vs:List V}{us:List MK},IsAll H m ds vs->Vals vs us->us.any (fL H m x)=ds.any λd=>fP d x
 | [],_,_,h,r=>by cases h;cases r;rfl
 |d::ds,_,_,h,r=>by
  obtain⟨v,w,rfl,h1,h2⟩:=h;cases r with
  |cons r1 r2=>rw[Kh,Kh,qq r1 h1,lr h2 r2]
noncomputable def F8 (neg:Bool)(K:MI):R2:=λx y H Q=>∃ p ds vs d m m',y=.ref p/\(SqL K H p vs\/SqT K H p vs)/\IsAll H m ds vs/\Is H m' d x/\(D.deps ds<=50/\d.dep<=50)/\Q (.bl (if neg then !(ds.any λe=>fP e d) else ds.any λe=>fP e d)) H
theorem lu (I:L2.Inv X pins σ H s)(hu:A.units+50<cLine)(hx:Is H m' d x)(hE:d.dep<=50)(rx:RelV x v) :
 ∀{ds:List D}{vs:List V}{us:List MK},IsAll H m ds vs->Vals vs us->D.deps ds<=50->∀ u∈us,SeqAt.EqAt A s u v (fL H m d u)
 | [],_,_,h,r,_=>λu hu=>by cases h;cases r;cases hu
 |e::ds,_,_,h,r,hd=>λu hm=>by
  obtain⟨y,w,rfl,h1,h2⟩:=h;have hd':max e.dep (D.deps ds)<=50:=hd;cases r with
  |cons r1 r2=>
   rcases Ip.mp hm with rfl|hm
   .rw[qq r1 h1];exact zN I.hok 50 A hu (by lia) (by lia) (by lia) h1 hx r1 rx
   .exact lu I hu hx hE rx h2 r2 (by lia) u hm
theorem x6 (hu:X.A.units+64<cLine):OpR X (compareOp .NotIn) (F8 true X.K):=by
 intro pins s σ H x y v u Q I rx ry h;obtain⟨p,ds,vs,d,m,m',rfl,hq,hi,hx,hd,q⟩:=h;cases ry;rcases hq with hq|hq
 .obtain⟨its,r,pl,hz⟩:=I.list hq;refine SeqAt.notIn_listAt (fL H m d) pl.isList (λw hw=>lu I (by show X.A.units+1+50<cLine;lia) hx hd.2 rx hi r hd.1 w (by simpa using hw)) ⟨.bl _,H,I,rfl,?_⟩;rw[show its.toArray.any (fL H m d)=its.any (fL H m d) by simp,lr hi r];exact q
 .obtain⟨its,r,pl,hz⟩:=I.tuple hq;refine SeqAt.notIn_tupleAt (fL H m d) pl (λw hw=>lu I (by show X.A.units+1+50<cLine;lia) hx hd.2 rx hi r hd.1 w (by simpa using hw)) ⟨.bl _,H,I,rfl,?_⟩;rw[show its.toArray.any (fL H m d)=its.any (fL H m d) by simp,lr hi r];exact q
noncomputable def FD (neg:Bool)(x:D)(ds:List D):Res R:=if D.deps ds<=50/\x.dep<=50 then .ok (.val (.bl (if neg then !(ds.any λe=>fP e x) else ds.any λe=>fP e x)) true []) else .stuck
noncomputable def x_ (neg:Bool)(a b:R):Res R:=match b.d with
 | .lst ds=>FD neg a.d ds
 | .tup ds=>FD neg a.d ds
 |_=>.stuck
noncomputable def EG:R->R->Res R:=x_ true
theorem EH (h:OpR X f (F8 neg X.K)):pC X E f (x_ neg):=by
 refine⟨_,h,λg M ρ env σ H Q ra rb x y rep i1 i2 p=>?_⟩;unfold x_ at p;have key:∀ ds,PostE X.mg E g M ρ env σ H Q (FD neg ra.d ds)->(D.deps ds<=50/\ra.d.dep<=50)/\Q (.bl (if neg then !(ds.any λe=>fP e ra.d) else ds.any λe=>fP e ra.d)) H:=λds p=>by
  unfold FD at p;by_cases hd:D.deps ds<=50/\ra.d.dep<=50
  .rw[Il hd]at p;exact⟨hd,p _ M H (Ext.refl _ _) rep rfl⟩
  .rw[Ij hd]at p;exact p.elim
 cases e2:rb.d with
 |lst ds=>rw[e2]at p i2;obtain⟨a,vs,rfl,h1,h2⟩:=i2.rd;obtain⟨k1,k2⟩:=key ds p;exact⟨a,ds,vs,ra.d,_,_,rfl,.inl (.inl h1),h2,i1,k1,k2⟩
 |tup ds=>rw[e2]at p i2;obtain⟨a,vs,rfl,h1,h2⟩:=i2;obtain⟨k1,k2⟩:=key ds p;exact⟨a,ds,vs,ra.d,_,_,rfl,.inr (SqT.of h1),h2,i1,k1,k2⟩
 |_=>rw[e2]at p;exact p.elim
theorem Ac (hu:X.A.units+64<cLine):pC X E (compareOp .NotIn) EG:=EH (x6 hu)
end
end L3
namespace L2
open PySem PySem.Spec PySem.Calls PyProof.Rows
section
variable {K:MI}{x C:Addr}{c:MK}
end
section
variable {X:Cx}{pins:List (Addr×Obj)}{σ:St}{H:Hp}{s:MH}{x:Addr}{o:Obj}
end
section
variable {X:Cx}{hc:Str}{Ch:Addr}{np hpos pos epos:Pos}{b₀:Stmt}{suite:List Stmt}{ts:Addr->Addr->TS}{te:TX}{e:Expr}{i:Nat}{n:Str}
end
section
variable {X:Cx}{i iw:Nat}{n y b1 b2:Str}{s1 s2:Str}{py p1 p2 p3 p4 p5 p6 p7 p8 p9 p10 p11 p12 p13 p14 p15 lp:Pos}{j1 j2}{T1:String}{Ch2:Addr}
end
end L2
namespace L3
open PySem PySem.Spec PyProof.Rows L2
section
variable {X:Cx}{E:XK}{i iw:Nat}{n y b1 b2:Str}{s1 s2:Str}{py p1 p2 p3 p4 p5 p6 p7 p8 p9 p10 p11 p12 p13 p14 p15 lp:Pos}{j1 j2}{T1:String}{Ch2:Addr}
variable {hc:Str}{Ch:Addr}{cs:List Str}{np hpos pos epos p cpos:Pos}{k:Nat}{f:Addr}{fd:FuncData}{ps:List Str}{F:List D->Res R}{x:Str}{e:Expr}{es:List Expr}{fs:En->Res (List R)}
end
noncomputable def EI:D->Option Key
 | .int i=>some (.inl i)
 | .str x=>some (.inr x)
 |_=>none
noncomputable def lV:List D->Option (List Key)
 | []=>some []
 |d::ds=>match EI d,lV ds with
  |some k,some ks=>some (k::ks)
  |_,_=>none
noncomputable def keyT:D->Option (List Key)
 | .tup ds=>lV ds
 |_=>none
section
variable {H:Hp}{m:Addr->Prop}
theorem Is.key (h:Is H m d v)(e:EI d=some k):v=kV k:=by
 cases d with
 |int i=>cases e;exact h
 |str x=>cases e;exact h
 |_=>cases e
theorem IsAll.keys:∀{ds:List D}{vs:List V}{ks:List Key},IsAll H m ds vs->lV ds=some ks->vs=ks.map kV
 | [],_,_,h,e=>by cases h;cases e;rfl
 |d::ds,_,ks,h,e=>by
  obtain⟨v,r,rfl,h1,h2⟩:=h;unfold lV at e;cases q:EI d with
  |none=>rw[q]at e;cases e
  |some k=>
   cases q2:lV ds with
   |none=>rw[q,q2]at e;cases e
   |some ks'=>rw[q,q2]at e;cases e;rw[h1.key q,IsAll.keys h2 q2];rfl
theorem Is.keyT (h:Is H m d v)(e:L3.keyT d=some k):∃ b,v=.ref b/\H b=some (.tup (k.map kV)):=by
 cases d with
 |tup ds=>obtain⟨a,vs,rfl,h1,h2⟩:=h;have e:lV ds=some k:=e;rw[IsAll.keys h2 e]at h1;exact⟨a,rfl,h1⟩
 |_=>cases e
end
section
variable {X:Cx}{E:XK}
noncomputable def keyX:D->Option DK
 | .int i=>some (.inl (.inl i))
 | .str x=>some (.inl (.inr x))
 | .tup ds=>(lV ds).map .inr
 |_=>none
noncomputable def kin:DK->DK->Bool
 | .inl _,.inl _=>true
 | .inr _,.inr _=>true
 |_,_=>false
noncomputable def mf (ks:List DK)(k:DK):Bool:=ks.any λx=>decide (x=k)
noncomputable def tq (neg:Bool)(a:D)(ks:List DK):Res R:=match keyX a with
 |some k=>if ks.all (kin k) then .ok (.val (.bl (if neg then !mf ks k else mf ks k)) true []) else .stuck
 |none=>.stuck
noncomputable def Ad (neg:Bool)(a b:R):Res R:=match b.d with
 | .dic ks _=>tq neg a.d ks
 |_=>x_ neg a b
noncomputable def iT:R->R->Res R:=Ad true
noncomputable def F9 (neg:Bool):R2:=λx y H Q=>∃ a o,y=.ref a/\pT H a x o/\Q (.bl (if neg then !o.isSome else o.isSome)) H
theorem ya (hu:X.A.units+64<cLine):OpR X (compareOp .NotIn) (F9 true):=by intro pins s σ H x y v u Q I rx ry h;obtain⟨a,o,rfl,g,q⟩:=h;cases ry;exact zl (by lia) I g rx λs' I'=>⟨.bl _,H,I',rfl,q⟩
theorem nT {κ:Type}[DecidableEq κ]{kvs:List (κ×V)}(inj:κ->DK)(hi:∀ a b,inj a=inj b->a=b)(k:κ):(cg kvs k).isSome=mf (kvs.map λp=>inj p.1) (inj k):=by
 unfold mf;induction kvs with
 |nil=>rfl
 |cons p r ih=>
  rw[Im,Kh];by_cases e:p.1=k
  .rw[dN e,IA (JF inj e)];rfl
  .rw[dP e,ih,IJ (λz=>e (hi _ _ z)),Mw]
theorem Is.keyX (h:Is H m d v)(e:L3.keyX d=some k):(∃ k0,k=.inl k0/\v=kV k0)\/∃ k0 b,k=.inr k0/\v=.ref b/\H b=some (.tup (k0.map kV)):=by
 cases d with
 |int i=>cases e;exact .inl ⟨_,rfl,h⟩
 |str x=>cases e;exact .inl ⟨_,rfl,h⟩
 |tup ds=>have e:(lV ds).map Sum.inr=some k:=e;obtain⟨k0,hk,rfl⟩:=JO.mp e;obtain⟨b,e1,e2⟩:=Is.keyT (d:=.tup ds) h hk;exact .inr ⟨k0,b,rfl,e1,e2⟩
 |_=>cases e
theorem BY (h:DAt H a ks vs)(hx:Is H m d x)(e:L3.keyX d=some k)(hk:ks.all (kin k)=true):∃ o,pT H a x o/\o.isSome=mf ks k:=by
 rcases hx.keyX e with⟨k0,rfl,rfl⟩|⟨k0,b,rfl,rfl,hb⟩
 .rcases h with⟨kvs,e1,rfl,rfl⟩|⟨kvs,e1,rfl,rfl⟩
  .exact⟨_,.inl (.inl ⟨kvs,k0,e1,rfl,rfl⟩),nT Sum.inl (λ_ _ z=>Mb z) k0⟩
  .cases kvs with
   |nil=>exact⟨none,.inr (.inl ⟨e1,⟨k0,rfl⟩,rfl⟩),rfl⟩
   |cons p r=>simp[kin]at hk
 .rcases h with⟨kvs,e1,rfl,rfl⟩|⟨kvs,e1,rfl,rfl⟩
  .cases kvs with
   |nil=>exact⟨none,.inr (.inr ⟨e1,⟨b,k0,rfl,hb⟩,rfl⟩),rfl⟩
   |cons p r=>simp[kin]at hk
  .exact⟨_,.inl (.inr ⟨kvs,k0,b,e1,rfl,hb,rfl⟩),nT Sum.inr (λ_ _ z=>Li z) k0⟩
theorem EJ (h1:pC X E f (x_ neg))(h2:OpR X f (F9 neg)):pC X E f (Ad neg):=by
 obtain⟨r,o1,s1⟩:=h1;refine⟨_,o1.or h2,λg M ρ env σ H Q ra rb x y rep i1 i2 p=>?_⟩;unfold Ad at p;cases q:rb.d with
 |dic ks ds=>
  right;rw[q]at p i2;dsimp only at p;unfold tq at p;cases q2:keyX ra.d with
  |none=>rw[q2]at p;exact p.elim
  |some k=>
   rw[q2]at p;dsimp only at p;by_cases hk:ks.all (kin k)=true
   .rw[Il hk]at p;obtain⟨a,vs,rfl,h1,h2⟩:=i2;obtain⟨o,g1,g2⟩:=BY h1.1 i1 q2 hk;refine⟨a,o,rfl,g1,?_⟩;rw[g2];exact p _ M H (Ext.refl _ _) rep rfl
   .rw[Ij hk]at p;exact p.elim
 |_=>left;refine s1 g M ρ env σ H Q ra rb x y rep i1 i2 ?_;rw[q]at p;exact p
theorem qu (hu:X.A.units+64<cLine):pC X E (compareOp .NotIn) iT:=EJ (Ac hu) (ya hu)
noncomputable def EK:R->R->Res R:=oI (λ_ j=>decide (0<=j)) λi j=>.int (i / 2 ^ j.toNat)
noncomputable def Ae:R->R->Res R:=oI (λ_ _=>true) λi j=>.int (Builtin.bitAnd i j)
theorem EL:pC X E (binaryOp .RShift) EK:=sY _ _ DT (λi j h=>by simpa using h) λ_ _ _ _=>rfl
theorem BZ:pC X E (binaryOp .BitAnd) Ae:=rp _ DU λ_ _ _ _=>rfl
noncomputable def rG:List R->Res R
 | [r]=>match r.d with
  | .lst ds=>.ok (mkV (.tup ds) r.fr r.al)
  | .tup ds=>.ok (mkV (.tup ds) r.fr r.al)
  |_=>.stuck
 |_=>.stuck
theorem Af:ja X E (.type "tuple") rG:=by
 refine⟨_,pk,λg M ρ env σ H Q rs vs rep i p=>?_⟩
 match rs,i,p with
 | [r],i,p=>
  obtain⟨v,w,rfl,i1,i2⟩:=i;cases i2;have i1:Is H (vmsk g M (br [r]) ρ (b7 [r])) r.d v:=i1;replace i1:=i1.weak λ_ z=>wd z;unfold rG at p;dsimp only at p;cases q:r.d with
  |lst ds=>rw[q]at p i1;obtain⟨a,ws,rfl,h1,h2⟩:=i1.rd;exact⟨a,ws,rfl,.inl ⟨.inl h1,λl hl=>p.tup rep hl h2⟩⟩
  |tup ds=>rw[q]at p i1;have i1':=i1;obtain⟨a,ws,rfl,h1,h2⟩:=i1;exact⟨a,ws,rfl,.inr ⟨SqT.of h1,p.val rep i1'⟩⟩
  |_=>rw[q]at p;exact p.elim
 | [],_,p=>exact p.elim
 |_::_::_,_,p=>exact p.elim
end
noncomputable def getD:List DK->List D->DK->Option D
 |k'::ks,d::ds,k=>if k'=k then some d else getD ks ds k
 |_,_,_=>none
noncomputable def g9 (ra rk:R):Res R:=match ra.d with
 | .dic ks ds=>match keyX rk.d with
  |some x=>if ks.all (kin x) then (match getD ks ds x with
   |some d=>.ok (mkV d ra.fr ra.al)
   |none=>.stuck) else .stuck
  |none=>.stuck
 |_=>.stuck
theorem mw {κ:Type}[DecidableEq κ](inj:κ->DK)(hi:∀ a b,inj a=inj b->a=b){H:Hp}{m:Addr->Prop}{k:κ}{d:D}:∀{kvs:List (κ×V)}{ds:List D},IsAll H m ds (kvs.map Prod.snd)->getD (kvs.map λp=>inj p.1) ds (inj k)=some d->∃ v,cg kvs k=some v/\Is H m d v
 | [],ds,_,e=>by cases ds<;>cases e
 |p::r,[],h,e=>by cases h
 |p::r,d0::ds,h,e=>by
  obtain⟨v0,r0,z,i1,i2⟩:=h;cases z;rw[Im]at e;unfold getD at e;by_cases hk:p.1=k
  .rw[Il (JF inj hk)]at e;cases e;exact⟨p.2,dN hk,i1⟩
  .rw[Ij (λz=>hk (hi _ _ z))]at e;obtain⟨v,e1,e2⟩:=mw inj hi i2 e;exact⟨v,by rw[dP hk];exact e1,e2⟩
section
variable {X:Cx}{E:XK}
theorem wq (hu:X.A.units+64<cLine)(ho:PD X E o fa)(hk:PD X E k fk)(hs:Ec k):PD X E (.Subscript o k pos) (v2 g9 fa fk):=by
 obtain⟨ta,p1,s1⟩:=ho;obtain⟨tk,p2,s2⟩:=hk;refine⟨_,vT (by lia) p1 p2 hs,λg M ρ env σ H Q rep p=>s1.twoE s2 rep p λra rk x y M1 H1 rep1 i1 i2 q=>?_⟩;unfold g9 at q;cases qa:ra.d with
 |dic ks ds=>
  rw[qa]at q i1;dsimp only at q;cases qk:keyX rk.d with
  |none=>rw[qk]at q;exact q.elim
  |some kx=>
   rw[qk]at q;dsimp only at q;by_cases hc:ks.all (kin kx)=true
   .rw[Il hc]at q;obtain⟨a,vs,rfl,⟨dat,_⟩,hall⟩:=i1;cases qd:getD ks ds kx with
    |none=>rw[qd]at q;exact q.elim
    |some d=>
     rw[qd]at q;refine⟨a,?_⟩;rcases i2.keyX qk with⟨k0,rfl,rfl⟩|⟨k0,b,rfl,rfl,hb⟩
     .rcases dat with⟨kvs,e1,rfl,rfl⟩|⟨kvs,e1,rfl,rfl⟩
      .obtain⟨v,g1,g2⟩:=mw Sum.inl (λ_ _ z=>Mb z) hall qd;exact⟨v,rfl,by rw[<- g1];exact .inl ⟨kvs,k0,e1,rfl,rfl⟩,q.val rep1 g2⟩
      .cases kvs with
       |nil=>cases ds<;>cases qd
       |cons p r=>simp[kin]at hc
     .rcases dat with⟨kvs,e1,rfl,rfl⟩|⟨kvs,e1,rfl,rfl⟩
      .cases kvs with
       |nil=>cases ds<;>cases qd
       |cons p r=>simp[kin]at hc
      .obtain⟨v,g1,g2⟩:=mw Sum.inr (λ_ _ z=>Li z) hall qd;exact⟨v,rfl,by rw[<- g1];exact .inr ⟨kvs,k0,b,e1,rfl,hb,rfl⟩,q.val rep1 g2⟩
   .rw[Ij hc]at q;exact q.elim
 |_=>rw[qa]at q;exact q.elim
noncomputable def F_ (ra:R)(ks:List DK)(ds:List D)(rk rz:R):Res R:=match keyX rk.d with
 |some x=>if ks.all (kin x) then (match getD ks ds x with
  |some d=>.ok (mkV d ra.fr ra.al)
  |none=>.ok (mkV rz.d rz.fr rz.al)) else .stuck
 |none=>.stuck
noncomputable def Hy (fx:En->Res R)(env:En)(ra:R)(ks:List DK)(ds:List D)(rk:R):Res R:=(fx env).bind (F_ ra ks ds rk)
noncomputable def Ga (fk fx:En->Res R)(env:En)(ra:R):Res R:=match ra.d with
 | .dic ks ds=>(fk env).bind (Hy fx env ra ks ds)
 |_=>.stuck
noncomputable def nU (fa fk fx:En->Res R):En->Res R:=λenv=>(fa env).bind (Ga fk fx env)
theorem DAt.isD (h:DAt H a ks vs):Ed H a:=h.imp (λ⟨kvs,e,_⟩=>⟨kvs,e⟩) λ⟨kvs,e,_⟩=>⟨kvs,e⟩
theorem wt:∀{ks:List DK}{ds:List D}{k:DK},ks.length=ds.length->mf ks k=(getD ks ds k).isSome
 | [],ds,k,_=>by cases ds<;>rfl
 |k'::ks,[],k,h=>by cases h
 |k'::ks,d::ds,k,h=>by
  have ih:=wt (ks:=ks) (ds:=ds) (k:=k) (by simpa using h);unfold mf getD;unfold mf at ih;rw[Kh];by_cases e:k'=k
  .rw[Il e,IA e];rfl
  .rw[Ij e,IJ e,Mw];exact ih
theorem Ag (h:DAt H a ks vs)(hall:IsAll H m ds vs)(hx:Is H m' d x)(e:L3.keyX d=some k)(hk:ks.all (kin k)=true) :
 ∃ o,pT H a x o/\(match getD ks ds k with|some d=>∃ v,o=some v/\Is H m d v|none=>o=none):=by
 have key:∀{κ:Type} [DecidableEq κ] (inj:κ->DK) (hi:∀ a b,inj a=inj b->a=b) (kvs:List (κ×V)) (k0:κ),IsAll H m ds (kvs.map Prod.snd)->(match getD (kvs.map λp=>inj p.1) ds (inj k0) with|some d=>∃ v,cg kvs k0=some v/\Is H m d v|none=>cg kvs k0=none):=by
  intro κ _ inj hi kvs k0 hl;have aR:(kvs.map λp=>inj p.1).length=ds.length:=by have:=hl.length;rw[Ik]at this ⊢;exact this
  have h1:=wt (k:=inj k0) aR;have h2:=nT (kvs:=kvs) inj hi k0;cases q:getD (kvs.map λp=>inj p.1) ds (inj k0) with
  |some d=>exact mw inj hi hl q
  |none=>
   rw[q]at h1;rw[h1]at h2;cases z:cg kvs k0 with
   |none=>rfl
   |some v=>rw[z]at h2;cases h2
 rcases hx.keyX e with⟨k0,rfl,rfl⟩|⟨k0,b,rfl,rfl,hb⟩
 .rcases h with⟨kvs,e1,rfl,rfl⟩|⟨kvs,e1,rfl,rfl⟩
  .exact⟨_,.inl (.inl ⟨kvs,k0,e1,rfl,rfl⟩),key Sum.inl (λ_ _ z=>Mb z) kvs k0 hall⟩
  .cases kvs with
   |nil=>exact⟨none,.inr (.inl ⟨e1,⟨k0,rfl⟩,rfl⟩),by cases ds<;>rfl⟩
   |cons p r=>simp[kin]at hk
 .rcases h with⟨kvs,e1,rfl,rfl⟩|⟨kvs,e1,rfl,rfl⟩
  .cases kvs with
   |nil=>exact⟨none,.inr (.inr ⟨e1,⟨b,k0,rfl,hb⟩,rfl⟩),by cases ds<;>rfl⟩
   |cons p r=>simp[kin]at hk
  .exact⟨_,.inl (.inr ⟨kvs,k0,b,e1,rfl,hb,rfl⟩),key Sum.inr (λ_ _ z=>Li z) kvs k0 hall⟩
theorem wu (hu:X.A.units+64<cLine) (ho:PD X E o fa) (hk:PD X E k fk) (hx:PD X E x fx) (m:M2 X o "get" apos k x cpos):PD X E (.Call (.Attribute o "get" apos) [k,x] [] cpos) (nU fa fk fx):=by
 obtain⟨ta,p1,s1⟩:=ho;obtain⟨tk,p2,s2⟩:=hk;obtain⟨tx,p3,s3⟩:=hx;refine⟨_,xB (by lia) p1 p2 p3 m,λg M ρ env σ H Q rep p=>s1.oneE rep p λra v M1 H1 e1 rep1 i1 q1=>?_⟩;unfold Ga at q1;cases qa:ra.d with
 |dic ks ds=>
  rw[qa]at q1 i1;dsimp only at q1;obtain⟨a,vs,rfl,⟨dat,ma⟩,hall⟩:=i1;refine⟨a,rfl,dat.isD,s2.oneE rep1 q1 λrk y M2 H2 e2 rep2 i2 q2=>?_⟩;refine s3.oneE rep2 q2 λrz z M3 H3 e3 rep3 i3 q3=>?_;unfold F_ at q3;cases qk:keyX rk.d with
  |none=>rw[qk]at q3;exact q3.elim
  |some kx=>
   rw[qk]at q3;dsimp only at q3;by_cases hc:ks.all (kin kx)=true
   .rw[Il hc]at q3;have dat3:DAt H3 a ks vs:=dat.keep λo e=>e3.h _ _ (e2.h _ _ e);have hall3:IsAll H3 (vmsk g M3 ra.fr ρ ra.al) ds vs:=(hall.ext e2).ext e3;obtain⟨ov,g1,g2⟩:=Ag dat3 hall3 (i2.ext e3) qk hc;refine⟨ov,g1,?_⟩;cases qd:getD ks ds kx with
    |some d=>rw[qd]at q3 g2;obtain⟨v,rfl,iv⟩:=g2;exact q3.val rep3 iv
    |none=>rw[qd]at q3 g2;have g2:ov=none:=g2;subst g2;exact q3.val rep3 i3
   .rw[Ij hc]at q3;exact q3.elim
 |_=>rw[qa]at q1;exact q1.elim
end
noncomputable def nV:List D->Option (List Int)
 | []=>some []
 | .int i::r=>(nV r).map (i::·)
 |_::_=>none
noncomputable def EM:D->Option (List Int)
 | .tup ds=>nV ds
 |_=>none
noncomputable def tupsI:List D->Option (List (List Int))
 | []=>some []
 |d::r=>match EM d,tupsI r with
  |some k,some ks=>some (k::ks)
  |_,_=>none
noncomputable def lw (k:List Int):D:=.tup (k.map .int)
noncomputable def pG (k:List Int):List (List Int)->List (List Int)
 | []=>[k]
 |h::t=>if k=h then h::t else if lexB k h then k::h::t else h::pG k t
noncomputable def df:List (List Int)->List (List Int)
 | []=>[]
 |k::ks=>pG k (df ks)
noncomputable def B0 (N:Nat)(r:R):Res R:=match r.d with
 | .lst ds=>match tupsI ds with
  |some ks=>if decide (ds.length<=N)&&ks.all (λk=>!k.isEmpty) then .ok (.new ((df ks).map lw) true) else .stuck
  |none=>.stuck
 |_=>.stuck
noncomputable def C_ (r:R):Res R:=B0 63 r
noncomputable def Hz (f:En->Res R):En->Res R:=λenv=>(f env).bind C_
theorem rH (k x:List Int):∀ l,x∈pG k l↔x=k\/x∈l
 | []=>by simp[pG]
 |h::t=>by
  unfold pG;split
  .rename_i e;subst e;simp
  .split
   .simp
   .rw[Ip,rH k x t,Ip];constructor
    .rintro (z|z|z)
     .exact .inr (.inl z)
     .exact .inl z
     .exact .inr (.inr z)
    .rintro (z|z|z)
     .exact .inr (.inl z)
     .exact .inl z
     .exact .inr (.inr z)
theorem Ah (k:List Int):∀ l,l.Pairwise (λx y=>lexB x y=true)->(pG k l).Pairwise (λx y=>lexB x y=true)
 | [],_=>List.pairwise_singleton _ _
 |h::t,p=>by
  obtain⟨p1,p2⟩:=Kp.mp p;unfold pG;split
  .exact p
  .rename_i hne;split
   .rename_i hlt;refine Kp.mpr ⟨λy hy=>?_,p⟩;rcases Ip.mp hy with rfl|hy
    .exact hlt
    .exact qY _ _ _ hlt (p1 y hy)
   .rename_i hlt;refine Kp.mpr ⟨λy hy=>?_,Ah k t p2⟩;rcases (rH k y t).mp hy with rfl|hy
    .exact(qZ _ _ hne).resolve_left hlt
    .exact p1 y hy
theorem dg (x:List Int):∀ ks,x∈df ks↔x∈ks
 | []=>by simp[df]
 |k::ks=>by unfold df;rw[rH,dg x ks,Ip]
theorem mB:∀ ks,(df ks).Pairwise (λx y=>lexB x y=true)
 | []=>List.Pairwise.nil
 |k::ks=>by unfold df;exact Ah k _ (mB ks)
theorem Ai (h:lexB a b=true):lexB b a=false:=by
 cases q:lexB b a with
 |false=>rfl
 |true=>have:=qY _ _ _ h q;rw[gb]at this;cases this
theorem jj:∀(a b:List (List Int)),a.Pairwise (λx y=>lexB x y=true)->b.Pairwise (λx y=>lexB x y=true)->(∀ x,x∈a↔x∈b)->a=b
 | [],[],_,_,_=>rfl
 | [],y::b,_,_,h=>by have:=(h y).mpr Iq;simp at this
 |x::a,[],_,_,h=>by have:=(h x).mp Iq;simp at this
 |x::a,y::b,pa,pb,h=>by
  obtain⟨a1,a2⟩:=Kp.mp pa;obtain⟨b1,b2⟩:=Kp.mp pb;have hxy:x=y:=by
   rcases Ip.mp ((h x).mp Iq) with e|e
   .exact e
   .rcases Ip.mp ((h y).mpr Iq) with e'|e'
    .exact e'.symm
    .have:=Ai (a1 y e');rw[b1 x e]at this;cases this
  subst hxy;rw[jj a b a2 b2 λz=>?_];constructor
  .intro hz;rcases Ip.mp ((h z).mp (Ii _ hz)) with e|e
   .have:=a1 z hz;rw[e,gb]at this;cases this
   .exact e
  .intro hz;rcases Ip.mp ((h z).mpr (Ii _ hz)) with e|e
   .have:=b1 z hz;rw[e,gb]at this;cases this
   .exact e
section
variable {H:Hp}{m:Addr->Prop}
theorem IsAll.ints:∀{ds:List D}{vs:List V}{k:List Int},IsAll H m ds vs->nV ds=some k->vs=(iK k).map kV
 | [],_,_,h,e=>by cases h;cases e;rfl
 |d::ds,_,k,h,e=>by
  obtain⟨v,r,rfl,h1,h2⟩:=h;cases d with
  |int i=>unfold nV at e;obtain⟨k',e1,rfl⟩:=JO.mp e;rw[IsAll.ints h2 e1,show v=V.int i from h1];rfl
  |_=>cases e
theorem nW:∀(k:List Int),IsAll H m (k.map .int) ((iK k).map kV)
 | []=>rfl
 |i::k=>⟨.int i,_,rfl,rfl,nW k⟩
theorem IsAll.tupsI:∀{ds:List D}{vs:List V}{ks:List (List Int)},IsAll H m ds vs->L3.tupsI ds=some ks->∃ its:List TItem,TupsIn H vs its/\its.map (·.1)=ks
 | [],_,_,h,e=>by cases h;cases e;exact⟨[],.nil,rfl⟩
 |d::ds,_,ks,h,e=>by
  obtain⟨v,r,rfl,h1,h2⟩:=h;unfold L3.tupsI at e;cases q:EM d with
  |none=>rw[q]at e;cases e
  |some k=>
   cases q2:L3.tupsI ds with
   |none=>rw[q,q2]at e;cases e
   |some ks'=>
    rw[q,q2]at e;cases e;obtain⟨its,t1,t2⟩:=IsAll.tupsI h2 q2;cases d with
    |tup es=>obtain⟨a,ws,rfl,g1,g2⟩:=h1;have q:nV es=some k:=q;rw[IsAll.ints g2 q]at g1;exact⟨(k,a)::its,.cons ⟨rfl,g1⟩ t1,by rw[Im,t2]⟩
    |_=>cases q
end
theorem nX:∀{vs:List V}{its:List TItem},TupsIn H vs its->vs.length=its.length
 |_,_,.nil=>rfl
 |_,_,.cons _ t=>by simp[nX t]
theorem lz:∀{vs:List V}{its:List TItem},TupsIn H vs its->∀ x∈its,H x.2=some (.tup ((iK x.1).map kV))
 |_,_,.nil,x,hx=>nomatch hx
 |_,_,.cons q t,x,hx=>by
  rcases Ip.mp hx with rfl|hx
  .exact q.2
  .exact lz t x hx
theorem iu:∀{ys:List TItem},(∀ y∈ys,H y.2=some (.tup ((iK y.1).map kV)))->IsAll H m (ys.map (lw ∘ λy=>y.1)) (ys.map λy=>.ref y.2)
 | [],_=>rfl
 |y::ys,h=>⟨.ref y.2,_,rfl,⟨y.2,_,rfl,h y Iq,nW y.1⟩,iu λz hz=>h z (Ii _ hz)⟩
section
variable {X:Cx}{E:XK}
theorem pH (hN:N<=300)(hso:iS X.prog X.w N)(hc:X.calm=true)(hu:X.A.units+64<cLine)(h:PD X E e f)
 (hg1:Gl X x1) (hm1:X.mg x1=none) (hv1:bootBuiltins x1=some (.builtin "sorted")) (hg2:Gl X x2) (hm2:X.mg x2=none) (hv2:bootBuiltins x2=some (.type "set"))
 (hn1:autoParam (x1≠"__name__") MM._auto_1) (hdb1:autoParam ((x1==("__debug__" : Str))=false) MM._auto_1) (hn2:autoParam (x2≠"__name__") MM._auto_1) (hdb2:autoParam ((x2==("__debug__" : Str))=false) MM._auto_1)
 (he2:autoParam (starEach [e] X.env=(false,eval e X.env)::starEach [] X.env) MR._auto_1) (hpl2:autoParam ((backTo pos2 (starEach [] X.env)).any (·.1)=false) MR._auto_1)
 (he1:autoParam (starEach [.Call (.Name x2 p2) [e] [] pos2] X.env=(false,eval (.Call (.Name x2 p2) [e] [] pos2) X.env)::starEach [] X.env) MR._auto_1) (hpl1:autoParam ((backTo pos1 (starEach [] X.env)).any (·.1)=false) MR._auto_1) :
 PD X E (.Call (.Name x1 p1) [.Call (.Name x2 p2) [e] [] pos2] [] pos1) (λenv=>(f env).bind (B0 N)):=by
 obtain⟨t,p1,s1⟩:=h;refine⟨_,cw (re hc hN hso) hg1 hm1 hv1 (ag (pQ (xI hc hu) hg2 hm2 hv2 (ag p1 az he2) hn2 hdb2 he2 hpl2) az he1) hn1 hdb1 he1 hpl1,λg M ρ env σ H Q rep p=>?_⟩;refine s1.oneE rep p λr v M1 H1 e1 rep1 i1 q1=>?_;unfold B0 at q1;cases qd:r.d with
 |lst ds=>
  rw[qd]at q1 i1;dsimp only at q1;cases qt:tupsI ds with
  |none=>rw[qt]at q1;exact q1.elim
  |some ks=>
   rw[qt]at q1;dsimp only at q1;by_cases hcond:(decide (ds.length<=N)&&ks.all (λk=>!k.isEmpty))=true
   .rw[Il hcond]at q1;simp only[IV,Kw,Jq]at hcond;obtain⟨hl,hne⟩:=hcond;obtain⟨a,vs,rfl,h1,h2⟩:=i1.rd;obtain⟨its,t1,t2⟩:=h2.tupsI qt;have hvl:vs.length<=N:=by rw[h2.length];exact hl
    have tat:=lz t1;refine⟨a,vs,its,rfl,h1,t1,IL hvl hN,λb es hb v=>?_⟩;refine⟨b,es,its,rfl,af,v,λx hx=>?_,λx hx z=>?_,by rw[<- nX t1];exact hvl,λl ys hl so=>?_⟩
    .rw[ac (ah (tat x hx) hb)];exact tat x hx
    .have:x.1∈ks:=by rw[<- t2];exact Ir.mpr ⟨x,hx,rfl⟩
     have:=hne _ this;rw[z]at this;simp at this
    .have hlb:l≠b:=λz=>by rw[z,af]at hl;cases hl
     have hl1:H1 l=none:=by rw[ac hlb]at hl;exact hl
     have sm1:Same H1 (aG H1 b (.ext λh=>SetAt X.w h b es)):=aE hb;have sm2:Same (aG H1 b (.ext λh=>SetAt X.w h b es)) (aG (aG H1 b (.ext λh=>SetAt X.w h b es)) l (.lst (ys.map λy=>.ref y.2))):=aE hl;have sm:=sm1.trans sm2;obtain⟨z0,zm,zo⟩:=rep1.free hl1;refine q1 _ M1 _ ⟨λ_ z=>z,sm,λ_ z=>.inl z⟩ (rep1.grow sm) ⟨l,_,rfl,af,zm,hl1,zo,?_⟩;have ek:ys.map (·.1)=df ks:=by
      refine jj _ _ ?_ (mB ks) λk=>?_
      .rw[Ke];exact so.pw
      .rw[dg,<- t2];constructor
       .intro hk;obtain⟨y,hy,rfl⟩:=Ir.mp hk;exact Ir.mpr ⟨y,so.sub y hy,rfl⟩
       .intro hk;obtain⟨x,hx,rfl⟩:=Ir.mp hk;obtain⟨y,y1,y2⟩:=so.all x hx;exact Ir.mpr ⟨y,y1,y2⟩
     rw[<- ek,Je];exact iu (λx hx=>sm _ _ (tat x (so.sub x hx)))
   .rw[Ij hcond]at q1;exact q1.elim
 |_=>rw[qd]at q1;exact q1.elim
theorem rJ (hc:X.calm=true)(hu:X.A.units+64<cLine)(h:PD X E e f)
 (hg1:Gl X x1) (hm1:X.mg x1=none) (hv1:bootBuiltins x1=some (.builtin "sorted")) (hg2:Gl X x2) (hm2:X.mg x2=none) (hv2:bootBuiltins x2=some (.type "set"))
 (hn1:autoParam (x1≠"__name__") MM._auto_1) (hdb1:autoParam ((x1==("__debug__" : Str))=false) MM._auto_1) (hn2:autoParam (x2≠"__name__") MM._auto_1) (hdb2:autoParam ((x2==("__debug__" : Str))=false) MM._auto_1)
 (he2:autoParam (starEach [e] X.env=(false,eval e X.env)::starEach [] X.env) MR._auto_1) (hpl2:autoParam ((backTo pos2 (starEach [] X.env)).any (·.1)=false) MR._auto_1)
 (he1:autoParam (starEach [.Call (.Name x2 p2) [e] [] pos2] X.env=(false,eval (.Call (.Name x2 p2) [e] [] pos2) X.env)::starEach [] X.env) MR._auto_1) (hpl1:autoParam ((backTo pos1 (starEach [] X.env)).any (·.1)=false) MR._auto_1) :
 PD X E (.Call (.Name x1 p1) [.Call (.Name x2 p2) [e] [] pos2] [] pos1) (Hz f):=pH (Nat.le_of_ble_eq_true rfl) v6 hc hu h hg1 hm1 hv1 hg2 hm2 hv2 hn1 hdb1 hn2 hdb2 he2 hpl2 he1 hpl1
end
section
variable {H H':Hp}{m m':Addr->Prop}
end
section
variable {g:Gd}{M:Addr->Prop}{ρ:Pr}{env:En}{σ:St}{H:Hp}{d:Addr}{o:Obj}{u:HO}
open Classical in
end
section
variable {X:Cx}{E:XK}{tg:Expr}
end
section
variable {H:Hp}{m:Addr->Prop}
end
section
variable {X:Cx}{E:XK}
end
noncomputable abbrev EN:=Int×Int×Int
noncomputable def dd (l:List Int)(x:Int):List Int:=if x∈l then l else l++[x]
noncomputable def Gb (xs:List Int):List Int:=xs.foldl dd []
noncomputable def g1 (ts:List EN):List Int:=Gb (ts.map (·.1))
noncomputable def g2 (ts:List EN)(x:Int):List Int:=Gb ((ts.filter λt=>decide (t.1=x)).map (·.2.1))
noncomputable def g3 (ts:List EN)(x y:Int):List Int:=(ts.filter λt=>decide (t.1=x)&&decide (t.2.1=y)).map (·.2.2)
section
variable {H:Hp}{a:Addr}{ts:List EN}{A:Int->Addr}{B:Int->Int->Addr}{x y z:Int}
end
section
variable {X:Cx}{E:XK}{tg:Expr}
end
section
variable {X:Cx}
noncomputable def HY (X:Cx)(Q:VK):VK:=λv H=>Q v H\/∃ d o u,H d=some (.frz o u)/\qS u/\(∀ o v,X.H₀ d≠some (.frz o v))/\Q v (aG H d u)
noncomputable def G8 (X:Cx)(D:Ends):Ends where
 nx:=λσ H=>D.nx σ H\/∃ d o u,H d=some (.frz o u)/\qS u/\(∀ o v,X.H₀ d≠some (.frz o v))/\D.nx σ (aG H d u)
 rt:=HY X D.rt
 bk:=D.bk
 ct:=D.ct
theorem EO {st:Stmt}(h:PS X st t):PS X st (λD σ H=>t (G8 X D) σ H):=by
 intro pins s σ H D I q;refine bX (h pins s σ H _ I q) λf s' r=>?_;cases f with
 |next=>
  obtain⟨σ',H',I',r⟩:=r;rcases r with r|⟨d,o,u,e,hu,hn,r⟩
  .exact⟨σ',H',I',r⟩
  .exact⟨σ',_,I'.unfrz e hu hn,r⟩
 |ret v=>
  obtain⟨x,σ',H',I',rv,r⟩:=r;rcases r with r|⟨d,o,u,e,hu,hn,r⟩
  .exact⟨x,σ',H',I',rv,r⟩
  .exact⟨x,σ',_,I'.unfrz e hu hn,rv,r⟩
 |brk=>exact r
 |cont=>exact r
end
section
variable {g:Gd}{M M2 M':Addr->Prop}{ρ:Pr}{env:En}{σ:St}{H H1 H':Hp}{d:Addr}{o:Obj}{u:HO}{m m':Addr->Prop}
end
section
variable {X:Cx}{E:XK}{scope:Scope}{tg:Expr}{tN:List Str}{capN:List Str}{caps:List Nat}{ix:List Nat}{asg:D->Bool->En->Option En}{elt iter:Expr}{pos:Pos}{ifs:List Expr}{f:En->Res R}{ft:En->Res Bool}{fe:En->Res R}
end
section
variable {X:Cx}{E:XK}{g:Gd}{M:Addr->Prop}{ρ:Pr}{env:En}{σ:St}{H:Hp}{D:Ends}{d:Addr}{o:Obj}{u:HO}
end
open Classical in
section
variable {P:MJ}{w:World}{K:MI}{mg:Str->Option MK}{base:Heap}
end
section
variable {X:Cx}{E:XK}
end
section
variable {H:Hp}{a:Addr}{ts:List EN}{A:Int->Addr}{B:Int->Int->Addr}{x y z:Int}
end
section
variable {X:Cx}{E:XK}{tg:Expr}
end
section
variable {X:Cx}{E:XK}
noncomputable def mC (rs:List R):Res R:=match rs.map R.d with
 | [.int j]=>if 0<=j/\j<=1000 then .ok (.new (dz 0 j.toNat) true) else .stuck
 |_=>.stuck
theorem yb (hc:X.calm=true) (hgl:Gl X "list") (hml:X.mg "list"=none) (hvl:bootBuiltins "list"=some (.type "list")) (hg:Gl X "range") (hm:X.mg "range"=none) (ha:yI X E [a] fs) (hs:autoParam (starEach [a] X.env=[(false,eval a X.env)]) MR._auto_1)
 (hs2:autoParam (starEach [.Call (.Name "range" p2) [a] [] pos2] X.env=[(false,eval (.Call (.Name "range" p2) [a] [] pos2) X.env)]) MR._auto_1):PD X E (.Call (.Name "list" p) [.Call (.Name "range" p2) [a] [] pos2] [] pos) (nJ mC fs):=by
 obtain⟨t,p1,s1⟩:=ha;refine⟨_,xK hc hgl hml hvl hg hm p1 hs hs2,λg M ρ env σ H Q rep p=>s1.oneE rep p λrs vs M1 H1 e1 rep1 i1 q1=>?_⟩;unfold mC at q1;generalize rs.map R.d=ds at i1 q1;split at q1
 .rename_i j;obtain⟨v,w,rfl,k1,k2⟩:=i1;cases k1;cases k2;by_cases hj:0<=j/\j<=1000
  .rw[Il hj]at q1;refine⟨j,rfl,hj.1,hj.2,λl hl=>?_⟩;have e:((List.range j.toNat).map λk=>(V.int (k:Nat)))=((List.range j.toNat).map λ(k:Nat)=>(V.int (0+(k:Nat)))):=JE λk _=>by rw[Int.zero_add]
   rw[e];refine q1.new rep1 hl ?_;unfold dz;generalize List.range j.toNat=l0;induction l0 with
   |nil=>exact rfl
   |cons k r ih=>exact⟨_,_,rfl,rfl,ih⟩
  .rw[Ij hj]at q1;exact q1.elim
 .exact q1.elim
noncomputable def uZ (r0 r1 r2:R):Res R:=match r1,r2 with
 | .new d1 _,.new d2 _=>if r0.d.flat/\D.flats d1=true/\D.flats d2=true then .ok (.fre (.tup [r0.d,.lst d1,.lst d2])) else .stuck
 |_,_=>.stuck
noncomputable def HA (f0 f1 f2:En->Res R):En->Res R:=λenv=>(f0 env).bind λr0=>(f1 env).bind λr1=>(f2 env).bind λr2=>uZ r0 r1 r2
theorem Gc (h0:PD X E e0 f0)(h1:PD X E e1 f1)(h2:PD X E e2 f2)(hs0:autoParam (starEach [e0,e1,e2] X.env=(false,eval e0 X.env)::starEach [e1,e2] X.env) MR._auto_1)(hs1:autoParam (starEach [e1,e2] X.env=(false,eval e1 X.env)::starEach [e2] X.env) MR._auto_1)(hs2:autoParam (starEach [e2] X.env=(false,eval e2 X.env)::starEach [] X.env) MR._auto_1):PD X E (.Tuple [e0,e1,e2] k pos) (HA f0 f1 f2):=by
 obtain⟨t0,p0,s0⟩:=h0;obtain⟨t1,p1,s1⟩:=h1;obtain⟨t2,p2,s2⟩:=h2;refine⟨_,cf (ag p0 (ag p1 (ag p2 az hs2) hs1) hs0),λg M ρ env σ H Q rep p=>?_⟩;have p:PostE X.mg E g M ρ env σ H Q ((f0 env).bind λr0=>(f1 env).bind λr1=>(f2 env).bind λr2=>uZ r0 r1 r2):=p;refine s0.oneE rep p λr0 v0 M0 H0 x0 rep0 i0 q0=>?_;refine s1 g M0 ρ env σ H0 _ rep0 ?_;cases e1':f1 env with
 |stuck=>rw[e1']at q0;exact q0
 |exc c=>rw[e1']at q0;exact q0
 |ok r1=>
  rw[e1']at q0;intro v1 M1 H1 x1 rep1 ro1;refine s2 g M1 ρ env σ H1 _ rep1 ?_;simp only[Res.bind_ok]at q0;cases e2':f2 env with
  |stuck=>rw[e2']at q0;exact q0
  |exc c=>rw[e2']at q0;exact q0
  |ok r2=>
   rw[e2']at q0;simp only[Res.bind_ok]at q0;intro v2 M2 H2 x2 rep2 ro2;unfold uZ at q0;cases r1 with
   |val d fr al=>exact q0.elim
   |fre d=>exact q0.elim
   |new d1 fr1=>
    cases r2 with
    |val d fr al=>exact q0.elim
    |fre d=>exact q0.elim
    |new d2 fr2=>
     dsimp only at q0;by_cases hc:r0.d.flat=true/\D.flats d1=true/\D.flats d2=true
     .rw[Il hc]at q0;obtain⟨c0,c1,c2⟩:=hc;obtain⟨a1,w1,rfl,g1,g2,g3,g4,g5⟩:=ro1;obtain⟨a2,w2,rfl,k1,k2,k3,k4,k5⟩:=ro2;refine⟨by show 3<=sizeLine;decide,λb hb=>?_⟩;have sb:Same H2 (aG H2 b (.tup [v0,.ref a1,.ref a2])):=aE hb;have g1':H2 a1=some (.lst w1):=x2.h _ _ g1;have nm1:¬ M2 a1:=λz=>(x2.n a1 z).elim g2 λw=>by rw[g1]at w;cases w
      have g3':H0 a1=none:=g3;have k3':H1 a2=none:=k3;have n12:a1≠a2:=λe=>by rw[e,k3']at g1;cases g1
      refine q0 (.ref b) M2 _ ((x1.trans x2).trans ⟨λ_ z=>z,sb,λ_ z=>.inl z⟩) (rep2.grow sb) ⟨λa=>a=a1\/a=a2,λa z=>?_,b,_,rfl,af,v0,_,rfl,Is.flat c0 ((((i0.same x1.h).same x2.h)).same sb),.ref a1,_,rfl,⟨a1,w1,rfl,.inl ⟨sb _ _ g1',.inl rfl⟩,IsAll.flat c1 ((g5.same x2.h).same sb)⟩,.ref a2,_,rfl,⟨a2,w2,rfl,.inl ⟨sb _ _ k1,.inr rfl⟩,IsAll.flat c2 (k5.same sb)⟩,rfl⟩;rcases z with rfl|rfl
      .exact⟨nm1,g3',⟨_,sb _ _ g1',True.intro⟩,g4⟩
      .exact⟨k2,x1.h.free k3',⟨_,sb _ _ k1,True.intro⟩,k4⟩
     .rw[Ij hc]at q0;exact q0.elim
noncomputable def kR (i:Nat)(f:En->Res R):En->Res Fl:=λenv=>(f env).bind λr=>if i<env.length then .ok (.nx ((frz env r.al).set i (some (.val r.d r.fr)))) else .stuck
theorem d4 (hN:X.N.Nodup)(hi:X.N[i]?=some x)(hx:DF X.env.scope x)(h:PD X E e f)(hs:autoParam (swapsWith e (some (.Name x pos')) pos.line X.env=pure false) MR._auto_1)
 (hf:autoParam (X.fn x=true\/X.env.scope.names.lookup x=some .local) MN._auto_1):yJ X E (.Assign [.Name x pos'] e pos) (kR i f):=by
 obtain⟨t,p1,s1⟩:=h;refine⟨_,f6 hN hi hx p1 hs hf,λg M ρ env σ H D rep p=>?_⟩;refine s1.oneS rep p λr v M' H' e rep' ro p'=>?_;by_cases hi:i<env.length
 .rw[Il hi]at p';obtain⟨M2,x2,x2m,rep2,is2⟩:=ro.is rep' e rep.same;obtain⟨M3,ρ3,x3,rep3,o3,_,_⟩:=Rep.frz r.al rep2;have rep4:=rep3.put (i:=i) (sl:=.val r.d r.fr) (T:=λ_=>False) (by rw[rC];exact hi) (Is.frozen rep2 x3 o3 is2) (λ_ z=>z.elim) λ_ z=>z.elim;exact p' _ M3 _ H' ⟨λa z=>x3 a (x2m a z),λ_ _ q _=>q⟩ rep4
 .rw[Ij hi]at p';exact p'.elim
theorem qv (i:Nat) (hN:autoParam (X.N[i]?=some x) MR._auto_1) (hv:autoParam (Vis X.env.scope x) MO._auto_1) (hd:autoParam ((x==("__debug__" : Str))=false) MM._auto_1)
 (hc:autoParam ((x==("__classdict__" : Str))=false) MM._auto_1):PD X E (.Name x pos) (aj i):=Eu (pv i hN hv hd hc)
end
end L3
namespace L2
open PySem PySem.Spec PyProof.Rows
section
variable {X:Cx}
end
end L2
namespace L3
open PySem PySem.Spec PyProof.Rows L2
section
variable {X:Cx}{E:XK}
end
section
variable {X:Cx}{E:XK}{hc hc2:Str}{Ch Ch2:Addr}{cs cs2:List Str}{np hpos np2 hpos2 pos epos p cpos:Pos}{b₀ c₀:Stmt}{suite suite2:List Stmt}{fsu fsu2:En->Res Fl}{k:Nat}{f:Addr}{fd:FuncData}{ps:List Str}{F:List D->Res R}{x:Str}{e:Expr}{es:List Expr}{fs:En->Res (List R)}
end
section
variable {X:Cx}{E:XK}
end
section
variable {X:Cx}{E:XK}{scope:Scope}{tg:Expr}{tN:List Str}{capN:List Str}{caps:List Nat}{iter:Expr}{pos lpos:Pos}{src:En->Res Src}
end
section
variable {X:Cx}{E:XK}
end
section
variable {X:Cx}{E:XK}{es:List Expr}{k:Nat}{sh:Pos}
end
section
variable {X:Cx}{E:XK}
def wv (a b:Str):Prop:=0<b.length/\a.length<=100000/\(Txt.split a b).length<=100000/\(Builtin.Str.partsBetween a (Builtin.Str.occurrences a b 0 a.length (a.length+1)) b.length).length<=100000
instance (a b:Str):Decidable (wv a b):=by unfold wv;infer_instance
end
section
variable {K:MI}{H:Hp}{m:Addr->Prop}
end
section
variable {X:Cx}{E:XK}
end
open Classical in
section
variable {X:Cx}{E:XK}{g:Gd}{M:Addr->Prop}{ρ:Pr}{env:En}{σ:St}{H H2:Hp}{D:Ends}
theorem m_ {kvs:List (Key×V)}(h:cg kvs k=none):ci kvs k y=kvs++[(k,y)]:=by unfold ci;rw[ic,h,Ij (by simp)]
end
section
variable {P:MJ}{w:World}{K:MI}{mg:Str->Option MK}{base:Heap}
end
section
variable {X:Cx}{E:XK}
open Classical in
end
section
variable {X:Cx}{E:XK}{scope:Scope}{tg:Expr}{tN:List Str}{capN:List Str}{caps:List Nat}{iter elt:Expr}{pos:Pos}{src:En->Res Src}
end
section
variable {X:Cx}{E:XK}
end
noncomputable abbrev IP:=Int×Int
noncomputable def dp (l:List IP)(x:IP):List IP:=if x∈l then l else l++[x]
noncomputable def h1 (ts:List EN):List IP:=(ts.map λt=>(t.1,t.2.1)).foldl dp []
section
variable {H:Hp}{a:Addr}{ts:List EN}{A:IP->Addr}{x y z:Int}
end
section
variable {X:Cx}{E:XK}{tg:Expr}
end
end L3
namespace L2
open PySem PySem.Spec PySem.Calls PyProof.Rows
section
variable {X:Cx}
theorem yc:CallR X (.builtin "len") (λxs H Q=>∃(d:Addr)(kvs:List (Key×V))(u:HO),xs=[.ref d]/\(u=.dK kvs\/(u=.dT []/\kvs=[]))/\Rd H d u/\kvs.length<=sizeLine/\Q (.int kvs.length) H):=by
 intro pins s σ H xs us Q I r h;obtain⟨d,kvs,u,rfl,hu,hrd,hz,q⟩:=h;obtain⟨w,rfl,rx⟩:=fQ r;cases rx;have hx:=hrd.ok I.hok;have key:(d==sysModules)=false/\∃ vs,KV kvs vs/\s.heap.DictOf (aB X.prog X.w) d vs:=by
  rcases hu with rfl|⟨rfl,rfl⟩
  .obtain⟨z,hd,vs,rel,dd⟩:=hx;exact⟨hd,vs,rel,dd⟩
  .obtain⟨hd,dd⟩:=qR hx;exact⟨hd,[],.nil,dd⟩
 obtain⟨hd,vs,rel,dd⟩:=key;refine call_len_dict hd dd (by rw[<- rel.length];rw[I_]at hz;lia) ?_;exact⟨.int kvs.length,H,I.tok _,⟨_,by rw[rel.length]⟩,q⟩
end
end L2
namespace L3
open PySem PySem.Spec PyProof.Rows L2
section
variable {X:Cx}{E:XK}
end
section
variable {H:Hp}{m:Addr->Prop}
end
section
variable {X:Cx}{E:XK}
end
noncomputable def B2 (N:Nat):List R->Res R
 | [r]=>match r.d with
  | .lst ds=>match tupsI ds with
   |some ks=>if decide (ks.length<=N)&&ks.all (λk=>!k.isEmpty)&&decide ks.Nodup then .ok (.new ((df ks).map lw) true) else .stuck
   |none=>.stuck
  |_=>.stuck
 |_=>.stuck
noncomputable def Da:List R->Res R:=B2 63
section
variable {X:Cx}{E:XK}
theorem tz (hN:N<=300) (hso:iS X.prog X.w N):ja X E (.builtin "sorted") (B2 N):=by
 refine⟨_,pB hN hso,λg M ρ env σ H Q rs vs rep i p=>?_⟩
 match rs,i,p with
 | [r],i,p=>
  unfold B2 at p;dsimp only at p;split at p
  .rename_i ds q;cases qk:tupsI ds with
   |none=>rw[qk]at p;exact p.elim
   |some ks=>
    rw[qk]at p;dsimp only at p;split at p
    .rename_i hc;simp only[IV,Kw,Jq]at hc;obtain⟨⟨hl,hne⟩,nd⟩:=hc;obtain⟨v,w,rfl,i1,i2⟩:=i;cases i2;have i1:Is H (vmsk g M (br [r]) ρ (b7 [r])) r.d v:=i1;rw[q]at i1;obtain⟨a,vs,rfl,h1,h2⟩:=i1.rd;obtain⟨its,t1,t2⟩:=h2.tupsI qk;have tat:=lz t1;refine⟨a,vs,its,rfl,h1,t1,by have:=JF List.length t2;rw[Ik]at this;lia,λx hx z=>?_,by rw[t2];exact nd,λl ys hl hp hw=>?_⟩
     .have:x.1∈ks:=by rw[<- t2];exact Ir.mpr ⟨x,hx,rfl⟩
      have:=hne _ this;rw[z]at this;simp at this
     .have ek:ys.map (·.1)=df ks:=by refine jj _ _ (by rw[Ke];exact hw) (mB ks) λk=>?_;rw[dg,<- t2,(hp.map (·.1)).mem_iff]
      rw[<- ek,Je]at p;exact p.new rep hl (iu (λx hx=>tat x (hp.mem_iff.mp hx)))
    .exact p.elim
  .exact p.elim
 | [],_,p=>exact p.elim
 |_::_::_,_,p=>exact p.elim
theorem bu (h:PE X o (ay i)):PD X E (.Subscript o (.Constant (.int k) j pos') pos) (bK i (vC (.int k))):=zW h aw (λ_ _=>rfl)
theorem nY:ja X E (.builtin "sorted") Da:=tz (by decide) v6
end
theorem cB {K KK:MI}{mg:Str->Option MK}{x:Str}{st:Stmt}{ps:List Str}{f:Addr}{oc:MK}{od an:Option Addr}{osl:Array (Option MK)}{kV doc pm cdv ct:MK}(U:SubK K KK)
 (l:K.lookup f=some ⟨oc,od,.func (PySem.W.fnOf x x (defArgs st) (defBody st) (defScope st) .none kV doc pm an cdv ct),osl⟩) (c:PySem.W.codeIn K cdv x=true) (g:mg x=some (.ref f))
 (h:∀(kV doc pm:MK)(an:Option Addr)(cdv ct:MK)(us:List MK),us.length=ps.length->bindArgs (PySem.W.fnOf x x (defArgs st) (defBody st) (defScope st) .none kV doc pm an cdv ct) ⟨us,[]⟩=pure (ps.zip us)) :
 Fn KK mg x st ps f (PySem.W.fnOf x x (defArgs st) (defBody st) (defScope st) .none kV doc pm an cdv ct):=
 have F:Fun KK x x st f _:=lg (U.look _ _ l (λ_ _ z=>nomatch z)) (U.code c) (U.keep l)
 ⟨F,F.binds h,g⟩
section
variable {X:Cx}{E:XK}{CX:CXT}{k:Nat}{f:Addr}{fd:FuncData}{ps:List Str}{F:List D->Res R}{x:Str}{e:Expr}{es:List Expr}{fs:En->Res (List R)}{p pos:Pos}
theorem bR {st:Stmt}(G:FnOk X.prog X.w X.K X.mg X.base CX k f fd ps (pD X.mg ps.length F))(hr:Room k X.A)(hg:Gl X x)(h:Fn X.K X.mg x st ps f fd)(hx:dM CX X E)
 (ha:yI X E (e::es) fs) (hl:∀ env rs,fs env=.ok rs->rs.length=ps.length) (hdb:autoParam ((x==("__debug__" : Str))=false) MM._auto_1) (he:autoParam (starEach (e::es) X.env=(false,eval e X.env)::starEach es X.env) MR._auto_1) (hpl:autoParam ((backTo pos (starEach es X.env)).any (·.1)=false) MR._auto_1) :
 PD X E (.Call (.Name x p) (e::es) [] pos) (de F fs):=BN G hr hg h.gl h.fu.kp h.bi hx ha hl hdb he hpl
end
theorem u4 (h:Is H m (.dic ks ds) v)(hk:∀ k∈ks,∃ a,k=.inr a):∃ d kvs u,v=.ref d/\m d/\(u=.dT kvs\/(u=.dK []/\kvs=[]))/\Rd H d u/\ks=kvs.map (λp=>.inr p.1)/\IsAll H m ds (kvs.map Prod.snd):=by
 obtain⟨d,vs,rfl,⟨dat,md⟩,hall⟩:=h;rcases dat with⟨kvs,e,rfl,rfl⟩|⟨kvs,e,rfl,rfl⟩
 .cases kvs with
  |nil=>exact⟨d,[],_,rfl,md,.inr ⟨rfl,rfl⟩,e,rfl,hall⟩
  |cons p r=>obtain⟨a,ea⟩:=hk (.inl p.1) (by simp);cases ea
 .exact⟨d,kvs,_,rfl,md,.inl rfl,e,rfl,hall⟩
section
variable {X:Cx}{E:XK}
end
noncomputable def cX:List R->Res R
 | [r,q]=>match r.d,q.d with
  | .int i,.int j=>if 0<j/\j<1073741824 then .ok (mkV (.tup [.int (i / j),.int (i % j)]) true []) else .stuck
  |_,_=>.stuck
 |_=>.stuck
section
variable {X:Cx}{E:XK}
theorem cP:ja X E (.builtin "divmod") cX:=by
 refine⟨_,sw,λg M ρ env σ H Q rs vs rep i p=>?_⟩
 match rs,i,p with
 | [r,q],i,p=>
  obtain⟨v,_,rfl,i1,w,_,rfl,i2,e⟩:=i;cases e;unfold cX at p;dsimp only at p i1 i2;cases z1:r.d with
  |int a=>
   cases z2:q.d with
   |int b=>
    rw[z1,z2]at p;rw[z1]at i1;rw[z2]at i2;dsimp only at p;cases i1;cases i2;by_cases hc:0<b/\b<1073741824
    .rw[Il hc]at p;exact⟨a,b,rfl,hc,λt ht=>p.tup rep ht ⟨_,_,rfl,rfl,_,_,rfl,rfl,rfl⟩⟩
    .rw[Ij hc]at p;exact p.elim
   |_=>rw[z1,z2]at p;exact p.elim
  |_=>rw[z1]at p;exact p.elim
 | [],_,p=>exact p.elim
 | [_],_,p=>exact p.elim
 |_::_::_::_,_,p=>exact p.elim
noncomputable def Aj (i j:Nat)(env:En):List R->Res Fl
 | [r,q]=>if r.d.flat&&q.d.flat&&decide (i<env.length)&&decide (j<env.length) then .ok (.nx ((env.set i (some (.val r.d true))).set j (some (.val q.d true)))) else .stuck
 |_=>.stuck
noncomputable def B3 (i j:Nat)(fs:En->Res (List R)):En->Res Fl:=λenv=>(fs env).bind (Aj i j env)
theorem B4 {kt k2 pt2}(hc:X.calm=true)(hN:X.N.Nodup)(hi:X.N[i]?=some x)(hj:X.N[j]?=some y)(hij:i≠j)
 (hx:X.env.scope.names.lookup x=some .local) (hy:X.env.scope.names.lookup y=some .local) (ha:yI X E [a,b] fs)
 (hw:autoParam (swappedStores [.Tuple [.Name x px,.Name y py] kt pt] (.Tuple [a,b] k2 pt2) X.env=pure (some [x,y])) MR._auto_1)
 (hs:autoParam (swapsWithSole [.Tuple [.Name x px,.Name y py] kt pt] (.Tuple [a,b] k2 pt2) pos.line X.env=pure false) MR._auto_1) :
 yJ X E (.Assign [.Tuple [.Name x px,.Name y py] kt pt] (.Tuple [a,b] k2 pt2) pos) (B3 i j fs):=by
 obtain⟨t,p1,s1⟩:=ha;refine⟨_,DN hc hN hi hj hij hx hy p1 hw hs,λg M ρ env σ H D rep p=>?_⟩;refine s1 g M ρ env σ H _ rep ?_;unfold B3 at p;cases q:fs env with
 |stuck=>rw[q]at p;exact p
 |exc c'=>rw[q]at p;exact p
 |ok rs=>
  rw[q]at p;simp only[Res.bind_ok]at p;intro vs M1 H1 e1 rep1 is
  match rs,p,is with
  | [r,z],p,is=>
   unfold Aj at p;dsimp only at p;by_cases hl:(r.d.flat&&z.d.flat&&decide (i<env.length)&&decide (j<env.length))=true
   .rw[Il hl]at p;simp only[IV,Kw]at hl;obtain⟨⟨⟨f1,f2⟩,l1⟩,l2⟩:=hl;obtain⟨v,_,rfl,i1,w,_,rfl,i2,rfl⟩:=is;refine⟨v,w,rfl,?_⟩;refine li (i:=i) g M1 ρ env (env.set i (some (.val r.d true))) σ H1 r.d true v (λσ' H'=>D.nx (σ'.set j (some w)) H') rep1 (Is.flat f1 i1) (Il l1) λσ' ρ' rep2 _ _=>?_;have aR:j<(env.set i (some (.val r.d true))).length:=by rw[Kx];exact l2
    exact li (i:=j) g M1 ρ' (env.set i (some (.val r.d true))) _ σ' H1 z.d true w D.nx rep2 (Is.flat f2 i2) (Il aR) λσ'' ρ'' rep3 _ _=>p σ'' M1 ρ'' H1 e1.frz rep3
   .rw[Ij hl]at p;exact p.elim
  | [],p,_=>exact p.elim
  | [_],p,_=>exact p.elim
  |_::_::_::_,p,_=>exact p.elim
end
theorem yd {X:Cx}{E:XK}{st:Stmt}:yJ X E st (λ_=>.stuck):=⟨λ_ _ _=>False,λ_ _ _ _ _ _ h=>h.elim,λ_ _ _ _ _ _ _ _ p=>p⟩
end L3
namespace Pz
section
variable {κ α:Type}[DecidableEq κ]
noncomputable abbrev MD (κ α:Type):=List (κ×List α)
noncomputable def MD.get (d:MD κ α)(k:κ):List α:=((d.find? λx=>decide (x.1=k)).map (·.2)).getD []
noncomputable def MD.has (d:MD κ α)(k:κ):Bool:=d.any λx=>decide (x.1=k)
noncomputable def MD.app (d:MD κ α)(k:κ)(v:α):MD κ α:=if d.has k then d.map (λx=>if x.1=k then (x.1,x.2++[v]) else x) else d++[(k,[v])]
noncomputable def MD.drop (d:MD κ α)(k:κ):MD κ α:=d.filter λx=>decide (x.1≠k)
noncomputable def MD.flat (d:MD κ α):List α:=d.flatMap (·.2)
noncomputable abbrev MD.keys (d:MD κ α):List κ:=d.map (·.1)
structure MD.Ok (d:MD κ α):Prop where
 nk:d.keys.Nodup
 ne:∀ x∈d,x.2≠[]
theorem be (x:κ×List α)(d:MD κ α)(k:κ):MD.get (x::d) k=if x.1=k then x.2 else MD.get d k:=by
 unfold MD.get;rw[J1];by_cases h:x.1=k
 .rw[IA h,Il h];rfl
 .rw[IJ h,Ij h]
theorem has_iff {d:MD κ α}{k:κ}:d.has k=true↔k∈d.keys:=by unfold MD.has;rw[List.any_eq_true,Ir];exact⟨λ⟨x,h1,h2⟩=>⟨x,h1,Ji h2⟩,λ⟨x,h1,h2⟩=>⟨x,h1,IA h2⟩⟩
theorem Ak {d:MD κ α}{k:κ}(h:k∉d.keys):d.get k=[]:=by
 induction d with
 |nil=>rfl
 |cons x r ih=>rw[be,Ij (λe=>h (by simp[MD.keys,<- e]))];exact ih λq=>h (Ii _ q)
theorem B6 {d:MD κ α}(nd:d.keys.Nodup){k:κ}{l:List α}(h:(k,l)∈d):d.get k=l:=by
 induction d with
 |nil=>cases h
 |cons x r ih=>
  rw[be];have nd':=IS.mp nd;rcases Ip.mp h with e|h
  .rw[<- e,Il rfl]
  .rw[Ij (λ(e:x.1=k)=>nd'.1 (by show x.1∈_;rw[e];exact Ir.mpr ⟨_,h,rfl⟩)),ih nd'.2 h]
theorem rK {d:MD κ α}{k:κ}{v:α}(h:v∈d.get k):(k,d.get k)∈d:=by
 induction d with
 |nil=>cases h
 |cons x r ih=>
  rw[be]at h ⊢;by_cases e:x.1=k
  .rw[Il e];subst e;exact Iq
  .rw[Ij e]at h ⊢;exact Ii _ (ih h)
theorem rL {d:MD κ α}{k:κ}{v:α}(h:k∉d.keys):d.map (λx=>if x.1=k then (x.1,x.2++[v]) else x)=d:=by
 conv=>rhs;rw[<- List.map_id d]
 exact JE λx hx=>Ij λe=>h (Ir.mpr ⟨x,hx,e⟩)
theorem Al (d:MD κ α)(k:κ)(v:α):(d.app k v).keys=if k∈d.keys then d.keys else d.keys++[k]:=by
 unfold MD.app;by_cases h:k∈d.keys
 .rw[Il (has_iff.mpr h),Il h];unfold MD.keys;rw[Je];exact JE λx _=>by simp only[Function.comp];split<;>rfl
 .rw[Ij (λq=>h (has_iff.mp q)),Ij h];unfold MD.keys;rw[Jk];rfl
theorem lA {d:MD κ α}(O:d.Ok)(k:κ)(v:α):(d.app k v).Ok:=by
 constructor
 .rw[Al];split
  .exact O.nk
  .rename_i h;exact Ku.mpr ⟨O.nk,by simp,λa ha b hb e=>by rw[IE]at hb;subst hb;subst e;exact h ha⟩
 .intro x hx;unfold MD.app at hx;split at hx
  .obtain⟨y,hy,rfl⟩:=Ir.mp hx;split
   .simp
   .exact O.ne y hy
  .rcases IG.mp hx with h|h
   .exact O.ne x h
   .rw[IE]at h;subst h;simp
theorem mi {d:MD κ α}{k:κ}{l:List α}(h:k∉d.keys):MD.get (d++[(k,l)]) k=l:=by
 induction d with
 |nil=>rw[Kn,be,Il rfl]
 |cons x r ih=>rw[J9,be,Ij (λe=>h (by simp[MD.keys,<- e]))];exact ih λq=>h (Ii _ q)
theorem pI {d:MD κ α}{k k':κ}{l:List α}(h:k≠k'):MD.get (d++[(k,l)]) k'=d.get k':=by
 induction d with
 |nil=>rw[Kn,be,Ij h]
 |cons x r ih=>rw[J9,be,be,ih]
theorem rM {d:MD κ α}{k:κ}{v:α}(h:k∈d.keys):MD.get (d.map (λx=>if x.1=k then (x.1,x.2++[v]) else x)) k=d.get k++[v]:=by
 induction d with
 |nil=>cases h
 |cons x r ih=>
  rw[Im,be,be];by_cases e:x.1=k
  .rw[Il e,Il (show x.1=k from e),Il e]
  .rw[Ij e,Ij e,Ij e];rcases Ip.mp h with q|q
   .exact(e q.symm).elim
   .exact ih q
theorem u5 {d:MD κ α}{k k':κ}{v:α}(h:k≠k'):MD.get (d.map (λx=>if x.1=k then (x.1,x.2++[v]) else x)) k'=d.get k':=by
 induction d with
 |nil=>rfl
 |cons x r ih=>
  rw[Im,be,be,ih];by_cases e:x.1=k
  .have e2:¬ x.1=k':=λz=>h (e.symm.trans z);rw[Il e,Ij e2,Ij (show ¬ (x.1,x.2++[v]).1=k' from e2)]
  .rw[Ij e]
theorem mD (d:MD κ α)(k:κ)(v:α)(k':κ):(d.app k v).get k'=if k=k' then d.get k++[v] else d.get k':=by
 unfold MD.app;by_cases h:k∈d.keys
 .rw[Il (has_iff.mpr h)];by_cases e:k=k'
  .subst e;rw[Il rfl,rM h]
  .rw[Ij e,u5 e]
 .rw[Ij (λq=>h (has_iff.mp q))];by_cases e:k=k'
  .subst e;rw[Il rfl,mi h,Ak h];rfl
  .rw[Ij e,pI e]
theorem di {d:MD κ α}(nd:d.keys.Nodup)(k:κ)(v:α):(d.app k v).flat.Perm (v::d.flat):=by
 unfold MD.app;by_cases h:k∈d.keys
 .rw[Il (has_iff.mpr h)];induction d with
  |nil=>cases h
  |cons x r ih=>
   have nd':=IS.mp nd;unfold MD.flat at ih ⊢;rw[Im,Kg,Kg];by_cases e:x.1=k
   .subst e;rw[Il rfl,rL nd'.1];show((x.2++[v])++_).Perm _;rw[Kf];exact MA
   .rw[Ij e];rcases Ip.mp h with q|q
    .exact(e q.symm).elim
    .exact((Kt _).append (ih nd'.2 q)).trans MA
 .rw[Ij (λq=>h (has_iff.mp q))];unfold MD.flat;rw[Mh];show(_++([v]++[])).Perm _;rw[Js];exact List.perm_append_singleton _ _
theorem ye (d:MD κ α)(k:κ):(d.drop k).keys=d.keys.filter λx=>decide (x≠k):=by unfold MD.drop MD.keys;rw[List.filter_map];rfl
theorem ww {d:MD κ α}(O:d.Ok)(k:κ):(d.drop k).Ok:=⟨by rw[ye];exact List.Pairwise.filter _ O.nk,λx hx=>O.ne x (Jj.mp hx).1⟩
theorem yf {d:MD κ α}{k:κ}(h:k∉d.keys):d.drop k=d:=by unfold MD.drop;exact List.filter_eq_self.mpr λx hx=>IA λe=>h (Ir.mpr ⟨x,hx,e⟩)
theorem lB {d:MD κ α}(nd:d.keys.Nodup)(k:κ):d.flat.Perm (d.get k++(d.drop k).flat):=by
 induction d with
 |nil=>exact Kt _
 |cons x r ih=>
  have nd':=IS.mp nd;rw[be];by_cases e:x.1=k
  .subst e;rw[Il rfl];have:MD.drop (x::r) x.1=r:=by unfold MD.drop;rw[Ls (by simp)];exact yf nd'.1
   rw[this];exact Kt _
  .rw[Ij e];have:MD.drop (x::r) k=x::MD.drop r k:=by unfold MD.drop;rw[Lu (by simpa using e)]
   rw[this];unfold MD.flat at ih ⊢;rw[Kg,Kg];refine((Kt _).append (ih nd'.2)).trans ?_;rw[<- Kf,<- Kf];exact List.perm_append_comm.append_right _
theorem mem_flat {d:MD κ α}{v:α}:v∈d.flat↔∃ x∈d,v∈x.2:=List.mem_flatMap
theorem kT (d:MD κ α){k:κ}{v:α}(h:v∈d.get k):v∈d.flat:=mem_flat.mpr ⟨_,rK h,h⟩
theorem mE (d:MD κ α)(k:κ):(d.get k).length<=d.flat.length:=by
 induction d with
 |nil=>exact Ih _
 |cons x r ih=>rw[be];unfold MD.flat at ih ⊢;rw[Kg,ID];split<;>lia
theorem fM {d:MD κ α}(O:d.Ok):d.length<=d.flat.length:=by
 have:∀ d:MD κ α,(∀ x∈d,x.2≠[])->d.length<=d.flat.length:=by
  intro d;induction d with
  |nil=>intro _;exact Ih _
  |cons x r ih=>intro h;have h1:=ih λy hy=>h y (Ii _ hy);have h2:0<x.2.length:=Mi.mpr (h x Iq);unfold MD.flat at h1 ⊢;rw[Kg,ID,Iw];lia
 exact this d O.ne
end
end Pz
namespace Pz
noncomputable def lo:List Int->Int
 | []=>0
 |x::r=>r.foldl (λa b=>if b<a then b else a) x
theorem u6:∀(r:List Int)(x:Int),r.foldl (λa b=>if b<a then b else a) x∈x::r/\∀ y∈x::r,r.foldl (λa b=>if b<a then b else a) x<=y
 | [],x=>⟨Iq,λy h=>by rw[IE]at h;subst h;exact Mx _⟩
 |z::r,x=>by
  obtain⟨h1,h2⟩:=u6 r (if z<x then z else x);rw[J2];constructor
  .rcases Ip.mp h1 with e|e
   .rw[e];split
    .exact Ii _ Iq
    .exact Iq
   .exact Ii _ (Ii _ e)
  .intro y hy;have h3:=h2 _ Iq;have h4:(if z<x then z else x)<=z/\(if z<x then z else x)<=x:=by split<;>lia
   rcases Ip.mp hy with e|hy
   .subst e;lia
   .rcases Ip.mp hy with e|hy
    .subst e;lia
    .exact h2 y (Ii _ hy)
theorem Am (h:l≠[]):lo l∈l:=by
 cases l with
 |nil=>exact(h rfl).elim
 |cons x r=>exact(u6 r x).1
theorem An (h:y∈l):lo l<=y:=by
 cases l with
 |nil=>cases h
 |cons x r=>exact(u6 r x).2 y h
structure Pile (pile:Int->Int->Int):Prop where
 nn:∀{p l:Int},0<=p->0<=l->0<=pile p l
 ch:∀{p l:Int},0<=p->0<=l->∀ k:Nat,pile p l<=k↔p / 2 ^ k=l / 2 ^ k
section
variable {pile:Int->Int->Int}(P:Pile pile){p l m r:Int}
include P
theorem Pile.zero (hp:0<=p)(hl:0<=l):pile p l=0↔p=l:=by have h1:=P.nn hp hl;have h2:=P.ch hp hl 0;rw[Int.pow_zero,Int.ediv_one,Int.ediv_one]at h2;rw[<- h2];constructor<;>intro h<;>lia
theorem Pile.lt (hl:0<=l)(hp:l<=p)(hr:l<=r)(h:pile p l<pile r l):p<r:=by
 have p0:0<=p:=KN hl hp;have r0:0<=r:=KN hl hr;obtain⟨k,hk⟩:=J6 (P.nn p0 hl);have e1:=(P.ch p0 hl k).mp (by lia);have e2:¬ r / 2 ^ k=l / 2 ^ k:=λe=>by have:=(P.ch r0 hl k).mpr e;lia
 have pos:(0:Int)<2 ^ k:=Int.pow_pos (by decide);have e3:=Int.ediv_le_ediv pos hr;refine Int.not_le.mp λhc=>?_;have e4:=Int.ediv_le_ediv pos hc;lia
theorem Pile.same (hl:0<=l)(hm:l<=m)(hr:l<=r)(h:pile m l<pile r l):pile r m=pile r l:=by
 have m0:0<=m:=KN hl hm;have r0:0<=r:=KN hl hr;have key:∀ j:Nat,pile r m<=j↔pile r l<=j:=by
  intro j;rw[P.ch r0 m0,P.ch r0 hl];by_cases hj:pile m l<=j
  .rw[(P.ch m0 hl j).mp hj]
  .have hd:∀{a b:Int}{i:Nat},a / 2 ^ j=b / 2 ^ j->a / 2 ^ (j+i)=b / 2 ^ (j+i):=by intro a b i e;rw[Int.pow_add,<- Int.ediv_ediv_of_nonneg (LV (Int.pow_pos (by decide))),<- Int.ediv_ediv_of_nonneg (LV (Int.pow_pos (by decide))),e]
   obtain⟨k,hk⟩:=J6 (P.nn m0 hl);obtain⟨i,rfl⟩ : ∃ i,k=j+i:=⟨k-j,by lia⟩;constructor<;>intro e<;>exfalso
   .have e1:=hd (i:=i) e;rw[(P.ch m0 hl (j+i)).mp (by lia)]at e1;have:=(P.ch r0 hl (j+i)).mpr e1;lia
   .have:=(P.ch r0 hl j).mpr e;lia
 obtain⟨a,ha⟩:=J6 (P.nn r0 m0);obtain⟨b,hb⟩:=J6 (P.nn r0 hl);have h1:=key a;have h2:=key b;lia
end
section
variable {α:Type}{pile:Int->Int->Int}
noncomputable abbrev Q (α:Type):=MD Int (Int×α)
structure QOk (pile:Int->Int->Int) (last:Int) (d:Q α):Prop where
 ok:d.Ok
 l0:0<=last
 at_:∀ x∈d,∀ y∈x.2,x.1=pile y.1 last/\last<=y.1
theorem QOk.add (h:QOk pile last d)(a:α)(hp:last<=p):QOk pile last (d.app (pile p last) (p,a)):=by
 refine⟨lA h.ok _ _,h.l0,λx hx y hy=>?_⟩;unfold MD.app at hx;split at hx
 .obtain⟨z,hz,rfl⟩:=Ir.mp hx;by_cases e:z.1=pile p last
  .rw[Il e]at hy ⊢;rcases IG.mp hy with hy|hy
   .exact h.at_ z hz y hy
   .rw[IE]at hy;subst hy;exact⟨e,hp⟩
  .rw[Ij e]at hy ⊢;exact h.at_ z hz y hy
 .rcases IG.mp hx with hx|hx
  .exact h.at_ x hx y hy
  .rw[IE]at hx;subst hx;rw[IE]at hy;subst hy;exact⟨rfl,hp⟩
noncomputable def addAll (pile:Int->Int->Int)(last:Int)(d:Q α)(l:List (Int×α)):Q α:=l.foldl (λd x=>d.app (pile x.1 last) x) d
theorem QOk.addAll:∀{l:List (Int×α)}{d:Q α},QOk pile last d->(∀ x∈l,last<=x.1)->QOk pile last (addAll pile last d l)
 | [],d,h,_=>h
 |x::l,d,h,hl=>QOk.addAll (l:=l) (h.add x.2 (hl x Iq)) λy hy=>hl y (Ii _ hy)
theorem iz:∀{l:List (Int×α)}{d:Q α},d.Ok->(addAll pile last d l).flat.Perm (l++d.flat)
 | [],d,h=>Kt _
 |x::l,d,h=>(iz (l:=l) (lA h _ _)).trans (((Kt _).append (di h.nk _ _)).trans MA)
noncomputable def lowK (d:Q α):Int:=lo d.keys
noncomputable def lowP (d:Q α):Int:=lo ((d.get (lowK d)).map (·.1))
noncomputable def mid (pile:Int->Int->Int)(d:Q α):Q α:=addAll pile (lowP d) (d.drop (lowK d)) (d.get (lowK d))
noncomputable def taken (pile:Int->Int->Int)(d:Q α):List (Int×α):=(mid pile d).get 0
noncomputable def left (pile:Int->Int->Int)(d:Q α):Q α:=(mid pile d).drop 0
structure Took (pile:Int->Int->Int) (last:Int) (d:Q α):Prop where
 ge:last<=lowP d
 ok:QOk pile (lowP d) (left pile d)
 eq:∀ x∈taken pile d,x.1=lowP d
 lt:∀ x∈(left pile d).flat,lowP d<x.1
 pm:d.flat.Perm (taken pile d++(left pile d).flat)
 ne:taken pile d≠[]
 k1:lowK d∈d.keys
 k2:d.get (lowK d)≠[]
 k3:0∈(mid pile d).keys
 o1:QOk pile (lowP d) (d.drop (lowK d))
theorem took (P:Pile pile)(h:QOk pile last d)(hne:d≠[]):Took pile last d:=by
 have k1:lowK d∈d.keys:=Am (by simpa[MD.keys] using hne);obtain⟨x0,hx0,ex0⟩:=Ir.mp k1;have g0:d.get (lowK d)=x0.2:=B6 h.ok.nk (by rw[<- ex0];exact hx0);have k2:d.get (lowK d)≠[]:=by rw[g0];exact h.ok.ne x0 hx0
 have hm:lowP d∈(d.get (lowK d)).map (·.1):=Am (by simpa using k2);obtain⟨y0,hy0,ey0⟩:=Ir.mp hm;have bN:∀ y∈d.get (lowK d),lowK d=pile y.1 last/\last<=y.1:=λy hy=>by rw[g0]at hy;have:=h.at_ x0 hx0 y hy;rw[ex0]at this;exact this
 have hl:last<=lowP d:=by rw[<- ey0];exact(bN y0 hy0).2
 have l0:0<=lowP d:=KN h.l0 hl;have kP:pile (lowP d) last=lowK d:=by rw[<- ey0];exact(bN y0 hy0).1.symm
 have minP:∀ y∈d.get (lowK d),lowP d<=y.1:=λy hy=>An (Ir.mpr ⟨y,hy,rfl⟩);have oth:∀ x∈d.drop (lowK d),∀ y∈x.2,x.1=pile y.1 (lowP d)/\lowP d<y.1:=λx hx y hy=>by
  obtain⟨hx,hn⟩:=Jj.mp hx;have hn:x.1≠lowK d:=Ji hn;have hle:lowK d<=x.1:=An (Ir.mpr ⟨x,hx,rfl⟩);obtain⟨e1,e2⟩:=h.at_ x hx y hy;have hlt:pile (lowP d) last<pile y.1 last:=by rw[kP,<- e1];lia
  exact⟨e1.trans (P.same h.l0 hl e2 hlt).symm,P.lt h.l0 hl e2 hlt⟩
 have o1:QOk pile (lowP d) (d.drop (lowK d)):=⟨ww h.ok _,l0,λx hx y hy=>⟨(oth x hx y hy).1,LV (oth x hx y hy).2⟩⟩;have o2:QOk pile (lowP d) (mid pile d):=o1.addAll minP;have pm1:d.flat.Perm (mid pile d).flat:=(lB h.ok.nk _).trans (iz o1.ok).symm;have pm2:(mid pile d).flat.Perm (taken pile d++(left pile d).flat):=lB o2.ok.nk 0;have eq:∀ x∈taken pile d,x.1=lowP d:=λx hx=>by have:=o2.at_ _ (rK hx) x hx;exact(P.zero (KN l0 this.2) l0).mp this.1.symm
 have lt:∀ x∈(left pile d).flat,lowP d<x.1:=λx hx=>by obtain⟨y,hy,hx⟩:=mem_flat.mp hx;obtain⟨hy,hn⟩:=Jj.mp hy;have hn:y.1≠0:=Ji hn;obtain⟨e1,e2⟩:=o2.at_ y hy x hx;have:¬ x.1=lowP d:=λe=>hn (e1.trans ((P.zero (KN l0 e2) l0).mpr e));lia
 have yin:y0∈taken pile d:=by
  have h1:y0∈d.flat:=kT d hy0;rcases IG.mp ((pm1.trans pm2).mem_iff.mp h1) with h|h
  .exact h
  .have:=lt _ h;lia
 exact⟨hl,⟨ww o2.ok _,l0,λx hx=>o2.at_ x (Jj.mp hx).1⟩,eq,lt,pm1.trans pm2,(λe=>by rw[e]at yin;cases yin),k1,k2,Ir.mpr ⟨_,rK yin,rfl⟩,o1⟩
end
end Pz
namespace Pz
noncomputable abbrev Arr:=Int×Int×Int
noncomputable abbrev Rule:=Int×Int×Int×List Int
noncomputable abbrev Val:=Int×Option Int×Option Int
noncomputable abbrev TD:=List (Arr×Val)
noncomputable def tget (t:TD)(a:Arr):Option Val:=(t.find? λx=>decide (x.1=a)).map (·.2)
noncomputable def tput (t:TD)(a:Arr)(v:Val):TD:=if (tget t a).isSome then t.map (λx=>if x.1=a then (x.1,v) else x) else t++[(a,v)]
structure PS where
 told:TD
 last:Int
 piles:Q Arr
 settled:MD (Int×Int) (Int×Int)
 lacking:MD (Int×Int) (Int×Rule×Int)
noncomputable abbrev RS:=MD (Int×Int) (Int×Rule)
section
variable (pile:Int->Int->Int)(rs:RS)
noncomputable def fT (S:PS)(a:Arr)(p:Int):Bool:=match tget S.told a with
 |none=>true
 |some v=>decide (p<v.1)
noncomputable def jk (S:PS)(a:Arr)(p:Int)(n m:Option Int):PS:={ S with told:=tput S.told a (p,n,m),piles:=S.piles.app (pile p S.last) (p,a) }
noncomputable def offer (S:PS)(a:Arr)(p:Int)(n m:Option Int):PS:=if fT S a p then jk pile S a p n m else S
noncomputable def nth1 (l:List Int):Int:=l[1]?.getD 0
noncomputable def lack (S:PS)(num:Int)(r:Rule)(mid price:Int):PS:={ S with lacking:=S.lacking.app (mid,nth1 r.2.2.2) (num,r,price) }
noncomputable def first (S:PS)(num:Int)(r:Rule)(mid price:Int):PS:=(S.settled.get (mid,nth1 r.2.2.2)).foldl (λS x=>offer pile S (r.1,r.2.1,x.1) (price+x.2+1) (some num) (some mid)) (lack S num r mid price)
noncomputable def note (S:PS)(a:Arr)(price:Int):PS:={ S with settled:=S.settled.app (a.1,a.2.1) (a.2.2,price) }
noncomputable def kU (a:Arr)(price:Int)(S:PS)(x:Int×Rule×Int):PS:=offer pile S (x.2.1.1,x.2.1.2.1,a.2.2) (x.2.2+price+1) (some x.1) (some a.1)
noncomputable def b6 (a:Arr)(price:Int)(S:PS)(x:Int×Rule):PS:=if x.2.2.2.2.length=1 then offer pile S (x.2.1,x.2.2.1,a.2.2) (price+1) (some x.1) none else first pile S x.1 x.2 a.2.2 price
noncomputable def settle (S:PS)(a:Arr)(price:Int):PS:=(rs.get (a.1,a.2.1)).foldl (b6 pile a price) ((S.lacking.get (a.1,a.2.1)).foldl (kU pile a price) (note S a price))
noncomputable def EQ (S:PS)(x:Int×Arr):Bool:=match tget S.told x.2 with
 |none=>false
 |some v=>decide (v.1=x.1)
noncomputable def turn (S:PS)(x:Int×Arr):PS:=if EQ S x then settle pile rs S x.2 x.1 else S
noncomputable def batch (S:PS)(l:List (Int×Arr)):PS:=l.foldl (turn pile rs) S
noncomputable def take (S:PS):PS:={ S with last:=lowP S.piles,piles:=left pile S.piles }
end
noncomputable def L:Nat:=16000000
structure Fit (S:PS):Prop where
 t:S.told.length<L
 p:S.piles.length<L
 pf:S.piles.flat.length<L
 s:S.settled.length<L
 sf:S.settled.flat.length<L
 l:S.lacking.length<L
 lf:S.lacking.flat.length<L
inductive Loop (pile:Int->Int->Int) (rs:RS):Nat->PS->PS->Prop where
 |done {S:PS}:S.piles=[]->Loop pile rs 0 S S
 |step {n:Nat} {S T:PS}:S.piles≠[]->QOk pile S.last S.piles->(∀ x∈taken pile S.piles,tget S.told x.2≠none)->Fit S->Fit (batch pile rs (take pile S) (taken pile S.piles))->
  Loop pile rs n (batch pile rs (take pile S) (taken pile S.piles)) T->Loop pile rs (n+1) S T
theorem bx (x:Arr×Val)(t:TD)(a:Arr):tget (x::t) a=if x.1=a then some x.2 else tget t a:=by
 unfold tget;rw[J1];by_cases h:x.1=a
 .rw[IA h,Il h];rfl
 .rw[IJ h,Ij h]
theorem tget_none:tget t a=none↔a∉t.map (·.1):=by
 induction t with
 |nil=>simp[tget]
 |cons x r ih=>
  rw[bx,Im,Ip];by_cases h:x.1=a
  .rw[Il h];simp[h]
  .rw[Ij h,ih];exact⟨λk=>not_or.mpr ⟨λe=>h e.symm,k⟩,λk=>(not_or.mp k).2⟩
theorem nZ (h:tget t a=some v):(a,v)∈t:=by
 induction t with
 |nil=>cases h
 |cons x r ih=>
  rw[bx]at h;by_cases e:x.1=a
  .rw[Il e]at h;cases h;subst e;exact Iq
  .rw[Ij e]at h;exact Ii _ (ih h)
theorem n8 (nd:(t.map (·.1)).Nodup)(h:(a,v)∈t):tget t a=some v:=by
 induction t with
 |nil=>cases h
 |cons x r ih=>
  rw[bx];have nd':=IS.mp nd;rcases Ip.mp h with e|h
  .rw[<- e,Il rfl]
  .have:¬ x.1=a:=λe=>nd'.1 (by show x.1∈_;rw[e];exact Ir.mpr ⟨_,h,rfl⟩);rw[Ij this,ih nd'.2 h]
theorem yg (t:TD)(a:Arr)(v:Val):(tput t a v).map (·.1)=if a∈t.map (·.1) then t.map (·.1) else t.map (·.1)++[a]:=by
 unfold tput;cases h:tget t a with
 |none=>rw[Ij (by simp),Ij (tget_none.mp h),Jk];rfl
 |some w=>have:a∈t.map (·.1):=Ir.mpr ⟨_,nZ h,rfl⟩;rw[Il (by simp),Il this,Je];exact JE λx _=>by simp only[Function.comp];split<;>rfl
theorem B7 (h:(t.map (·.1)).Nodup)(a:Arr)(v:Val):((tput t a v).map (·.1)).Nodup:=by
 rw[yg];split
 .exact h
 .rename_i q;exact Ku.mpr ⟨h,by simp,λx hx b hb e=>by rw[IE]at hb;subst hb;subst e;exact q hx⟩
theorem tD (t:TD)(a:Arr)(v:Val):t.length<=(tput t a v).length/\(tput t a v).length<=t.length+1:=by
 unfold tput;split
 .rw[Ik];lia
 .rw[ID];simp
theorem fU (t:TD)(a:Arr)(v:Val)(b:Arr):tget (tput t a v) b=if a=b then some v else tget t b:=by
 unfold tput;cases h:tget t a with
 |none=>
  rw[Ij (by simp)];have hn:=tget_none.mp h;clear h;induction t with
  |nil=>rw[Kn,bx]
  |cons x r ih=>
   rw[J9,bx,bx,ih λk=>hn (Ii _ k)];by_cases e:x.1=b
   .have:¬ a=b:=λz=>hn (by rw[z,<- e];exact Iq);rw[Il e,Ij this,Il e]
   .rw[Ij e,Ij e]
 |some w=>
  rw[Il (by simp)];have hm:a∈t.map (·.1):=Ir.mpr ⟨_,nZ h,rfl⟩;clear h;by_cases e:a=b
  .subst e;rw[Il rfl];induction t with
   |nil=>cases hm
   |cons x r ih=>
    rw[Im,bx];by_cases e:x.1=a
    .rw[Il e,Il (show(x.1,v).1=a from e)]
    .rw[Ij e,Ij e];rcases Ip.mp hm with q|q
     .exact(e q.symm).elim
     .exact ih q
  .rw[Ij e];clear hm;induction t with
   |nil=>rfl
   |cons x r ih=>
    rw[Im,bx,bx,ih];by_cases e2:x.1=a
    .have e3:¬ x.1=b:=λz=>e (e2.symm.trans z);rw[Il e2,Ij e3,Ij (show ¬ (x.1,v).1=b from e3)]
    .rw[Ij e2]
structure Grow (S T:PS):Prop where
 t:S.told.length<=T.told.length
 p:S.piles.length<=T.piles.length
 pf:S.piles.flat.length<=T.piles.flat.length
 s:S.settled.length<=T.settled.length
 sf:S.settled.flat.length<=T.settled.flat.length
 l:S.lacking.length<=T.lacking.length
 lf:S.lacking.flat.length<=T.lacking.flat.length
theorem Grow.refl (S:PS):Grow S S:=⟨Ih _,Ih _,Ih _,Ih _,Ih _,Ih _,Ih _⟩
theorem Grow.trans (a:Grow S T)(b:Grow T U):Grow S U:=⟨IL a.t b.t,IL a.p b.p,IL a.pf b.pf,IL a.s b.s,IL a.sf b.sf,IL a.l b.l,IL a.lf b.lf⟩
theorem Grow.fit (a:Grow S T)(h:Fit T):Fit S:=⟨Jb a.t h.t,Jb a.p h.p,Jb a.pf h.pf,Jb a.s h.s,Jb a.sf h.sf,Jb a.l h.l,Jb a.lf h.lf⟩
theorem dF {κ α:Type}[DecidableEq κ](d:MD κ α)(k:κ)(v:α):d.length<=(d.app k v).length/\d.flat.length<=(d.app k v).flat.length:=by
 unfold MD.app;split
 .rw[Ik];refine⟨Ih _,?_⟩;unfold MD.flat;rw[Lm,Lm,Je];induction d with
  |nil=>exact Ih _
  |cons x r ih=>
   rename_i h;clear h;rw[Im,Im,L_,L_];refine Nat.add_le_add ?_ ?_
   .simp only[Function.comp];split<;>simp
   .clear ih;induction r with
    |nil=>exact Ih _
    |cons y r ih=>rw[Im,Im,L_,L_];exact Nat.add_le_add (by simp only[Function.comp];split<;>simp) ih
 .rw[ID];unfold MD.flat;rw[Mh,ID];lia
theorem bM {β:Type}(f:PS->β->PS)(h:∀ S x,Grow S (f S x)):∀(l:List β)(S:PS),Grow S (l.foldl f S)
 | [],S=>.refl S
 |x::l,S=>(h S x).trans (bM f h l _)
variable {pile:Int->Int->Int}{rs:RS}
theorem bE (S:PS)(a:Arr)(p:Int)(n m:Option Int):Grow S (offer pile S a p n m):=by
 unfold offer;split
 .exact⟨(tD _ _ _).1,(dF _ _ _).1,(dF _ _ _).2,Ih _,Ih _,Ih _,Ih _⟩
 .exact .refl S
theorem u7 (S:PS)(num:Int)(r:Rule)(mid price:Int):Grow S (first pile S num r mid price):=Grow.trans (T:=lack S num r mid price) ⟨Ih _,Ih _,Ih _,Ih _,Ih _,(dF _ _ _).1,(dF _ _ _).2⟩ (bM _ (λS x=>bE S _ _ _ _) _ _)
theorem jl (a:Arr)(price:Int)(S:PS)(x:Int×Rule):Grow S (b6 pile a price S x):=by
 unfold b6;split
 .exact bE _ _ _ _ _
 .exact u7 _ _ _ _ _
theorem tE (S:PS)(a:Arr)(price:Int):Grow S (settle pile rs S a price):=(Grow.trans (S:=S) (T:=note S a price) ⟨Ih _,Ih _,Ih _,(dF _ _ _).1,(dF _ _ _).2,Ih _,Ih _⟩ (bM (kU pile a price) (λS x=>bE S _ _ _ _) _ _)).trans (bM _ (jl a price) _ _)
theorem yh (S:PS)(x:Int×Arr):Grow S (turn pile rs S x):=by
 unfold turn;split
 .exact tE _ _ _
 .exact .refl S
theorem iA {β:Type}(f:PS->β->PS){a:Arr}(h:∀ S x,tget S.told a≠none->tget (f S x).told a≠none):∀(l:List β)(S:PS),tget S.told a≠none->tget (l.foldl f S).told a≠none
 | [],S,k=>k
 |x::l,S,k=>iA f h l _ (h S x k)
theorem n9 (h:tget S.told b≠none):tget (offer pile S a p n m).told b≠none:=by
 unfold offer;split
 .show tget (tput _ _ _) _≠none;rw[fU];split
  .simp
  .exact h
 .exact h
theorem Ao (h:tget S.told b≠none):tget (b6 pile a p S x).told b≠none:=by
 unfold b6;split
 .exact n9 h
 .exact iA _ (λS x k=>n9 k) _ _ (show tget (lack S _ _ _ _).told b≠none from h)
theorem B8 (h:tget S.told b≠none):tget (turn pile rs S x).told b≠none:=by
 unfold turn;split
 .exact iA _ (λS x k=>Ao k) _ _ (iA (kU pile _ _) (λS x k=>n9 k) _ _ (show tget (note S _ _).told b≠none from h))
 .exact h
end Pz
namespace Pz
def Sd (S:PS)(a:Arr)(q:Int):Prop:=(a.2.2,q)∈S.settled.get (a.1,a.2.1)
def Has (S:PS)(a:Arr)(p:Int):Prop:=∃ v,tget S.told a=some v/\v.1<=p
def JustP (sd:Arr->Int->Prop)(c:Int)(put:List Int)(t p:Int)(m:Option Int):Prop:=match put with
 | []=>m=none/\p=1/\t=c
 | [x]=>m=none/\∃ q,sd (c,x,t) q/\p=q+1
 | [x,y]=>∃ d q1 q2,m=some d/\sd (c,x,d) q1/\sd (d,y,t) q2/\p=q1+q2+1
 |_=>False
theorem JustP.mono (h:∀ a q,sd a q->sd' a q)(j:JustP sd c put t p m):JustP sd' c put t p m:=by
 match put,j with
 | [],j=>exact j
 | [x],⟨e,q,s,e2⟩=>exact⟨e,q,h _ _ s,e2⟩
 | [x,y],⟨d,q1,q2,e,s1,s2,e2⟩=>exact⟨d,q1,q2,e,h _ _ s1,h _ _ s2,e2⟩
section
variable (RL:List Rule)(M:List Arr)
def Just (sd:Arr->Int->Prop)(a:Arr)(v:Val):Prop:=match v.2.1 with
 |none=>v.2.2=none/\v.1=0/\a∈M
 |some i=>∃(j:Nat)(r:Rule),i=j/\RL[j]?=some r/\a.1=r.1/\a.2.1=r.2.1/\JustP sd r.2.2.1 r.2.2.2 a.2.2 v.1 v.2.2
theorem Just.mono (h:∀ a q,sd a q->sd' a q)(j:Just RL M sd a v):Just RL M sd' a v:=by
 obtain⟨p,n,m⟩:=v;cases n with
 |none=>exact j
 |some i=>obtain⟨k,r,e1,e2,e3,e4,j⟩:=j;exact⟨k,r,e1,e2,e3,e4,j.mono h⟩
structure B (pile:Int->Int->Int) (U:List Arr) (S:PS) (rest:List (Int×Arr)):Prop where
 q:QOk pile S.last S.piles
 nd:S.piles.flat.Nodup
 nr:rest.Nodup
 tk:(S.told.map (·.1)).Nodup
 tu:∀ a v,tget S.told a=some v->a∈U
 ju:∀ a v,tget S.told a=some v->Just RL M (Sd S) a v
 ps:∀ a v,tget S.told a=some v->0<=v.1
 sd:∀ a p,Sd S a p->p<=S.last/\∃ v,tget S.told a=some v/\v.1=p
 sp:∀ a v,tget S.told a=some v->Sd S a v.1\/(v.1,a)∈S.piles.flat\/(v.1,a)∈rest
 it:∀ p a,(p,a)∈S.piles.flat\/(p,a)∈rest->Has S a p
 ns:∀ p a,(p,a)∈S.piles.flat\/(p,a)∈rest->¬ Sd S a p
 m0:∀ a v,tget S.told a=some v->a∈M->v=(0,none,none)
end
variable {RL:List Rule}{M U:List Arr}{pile:Int->Int->Int}{rs:RS}{S:PS}{rest:List (Int×Arr)}
theorem tF (h:¬ fT S a p=true):Has S a p:=by
 unfold fT at h;cases e:tget S.told a with
 |none=>rw[e]at h;exact(h rfl).elim
 |some v=>rw[e]at h;exact⟨v,e,Int.not_lt.mp λz=>h (IA z)⟩
theorem d5 (h:fT S a p=true)(e:tget S.told a=some v):p<v.1:=by unfold fT at h;rw[e]at h;exact Ji h
theorem iU (a:Arr)(p:Int)(n m:Option Int):Has (offer pile S a p n m) a p:=by
 unfold offer;by_cases h:fT S a p=true
 .rw[Il h];exact⟨(p,n,m),by show tget (tput _ _ _) _=_;rw[fU,Il rfl],Mx _⟩
 .rw[Ij h];exact tF h
theorem gg (h:Has S b q):Has (offer pile S a p n m) b q:=by
 unfold offer;by_cases k:fT S a p=true
 .rw[Il k];obtain⟨v,e,hv⟩:=h;by_cases e2:a=b
  .subst e2;exact⟨(p,n,m),by show tget (tput _ _ _) _=_;rw[fU,Il rfl],LV (Int.lt_of_lt_of_le (d5 k e) hv)⟩
  .exact⟨v,by show tget (tput _ _ _) _=_;rw[fU,Ij e2];exact e,hv⟩
 .rw[Ij k];exact h
theorem gh (a:Arr)(p:Int)(n m:Option Int):(offer pile S a p n m).settled=S.settled/\(offer pile S a p n m).lacking=S.lacking/\(offer pile S a p n m).last=S.last:=by unfold offer;split<;>exact⟨rfl,rfl,rfl⟩
theorem u9 (h:S.piles.Ok)(a:Arr)(p:Int)(n m:Option Int)(hx:x∈(offer pile S a p n m).piles.flat):x∈S.piles.flat\/x=(p,a):=by
 unfold offer at hx;split at hx
 .rcases Ip.mp ((di h.nk _ _).mem_iff.mp hx) with e|e
  .exact .inr e
  .exact .inl e
 .exact .inl hx
theorem qw (h:S.piles.Ok)(a:Arr)(p:Int)(n m:Option Int):(offer pile S a p n m).piles.flat.length<=S.piles.flat.length+1:=by
 unfold offer;split
 .exact MB (di h.nk _ _).length_eq
 .lia
theorem B.offer (b:B RL M pile U S rest)(hj:Just RL M (Sd S) a (p,n,m))(hu:a∈U)(hp:S.last<=p)(hr:(p,a)∉rest)(hs:¬ Sd S a p)
 (hm:a∈M->Has S a 0\/(p,n,m)=(0,none,none)):B RL M pile U (offer pile S a p n m) rest:=by
 unfold Pz.offer;by_cases k:fT S a p=true
 .rw[Il k];have hS:∀ c q,Sd (jk pile S a p n m) c q↔Sd S c q:=λc q=>Iff.rfl;have tg:∀ c,tget (jk pile S a p n m).told c=if a=c then some (p,n,m) else tget S.told c:=λc=>fU _ _ _ _;have pf:=di b.q.ok.nk (pile p S.last) (p,a);have p0:0<=p:=KN b.q.l0 hp;have fl:∀ x,x∈(jk pile S a p n m).piles.flat↔x=(p,a)\/x∈S.piles.flat:=λx=>by show x∈(S.piles.app (pile p S.last) (p,a)).flat↔_;rw[pf.mem_iff,Ip]
  refine⟨b.q.add a hp,?_,b.nr,B7 b.tk _ _,λc v e=>?_,λc v e=>?_,λc v e=>?_,λc q h=>?_,λc v e=>?_,λq c h=>?_,λq c h=>?_,λc v e hc=>?_⟩
  .refine pf.nodup_iff.mpr (IS.mpr ⟨λh=>?_,b.nd⟩);obtain⟨v,e,hv⟩:=b.it p a (.inl h);have:=d5 k e;lia
  .rw[tg]at e;by_cases z:a=c
   .rw[<- z];exact hu
   .rw[Ij z]at e;exact b.tu c v e
  .rw[tg]at e;by_cases z:a=c
   .rw[Il z]at e;cases e;rw[<- z];exact hj
   .rw[Ij z]at e;exact b.ju c v e
  .rw[tg]at e;by_cases z:a=c
   .rw[Il z]at e;cases e;exact p0
   .rw[Ij z]at e;exact b.ps c v e
  .obtain⟨h1,v,e,hv⟩:=b.sd c q h;refine⟨h1,v,?_,hv⟩;rw[tg,Ij (λz=>?_)]
   .exact e
   .subst z;have:=d5 k e;lia
  .rw[tg]at e;by_cases z:a=c
   .rw[Il z]at e;cases e;subst z;exact .inr (.inl ((fl _).mpr (.inl rfl)))
   .rw[Ij z]at e;rcases b.sp c v e with h|h|h
    .exact .inl h
    .exact .inr (.inl ((fl _).mpr (.inr h)))
    .exact .inr (.inr h)
  .have:(q,c)=(p,a)\/(q,c)∈S.piles.flat\/(q,c)∈rest:=by
    rcases h with h|h
    .rcases (fl _).mp h with h|h
     .exact .inl h
     .exact .inr (.inl h)
    .exact .inr (.inr h)
   rcases this with h|h
   .cases h;exact⟨(p,n,m),by rw[tg,Il rfl],Mx _⟩
   .obtain⟨v,e,hv⟩:=b.it q c h;by_cases z:a=c
    .subst z;exact⟨(p,n,m),by rw[tg,Il rfl],LV (Int.lt_of_lt_of_le (d5 k e) hv)⟩
    .exact⟨v,by rw[tg,Ij z];exact e,hv⟩
  .rcases h with h|h
   .rcases (fl _).mp h with h|h
    .cases h;exact hs
    .exact b.ns q c (.inl h)
   .exact b.ns q c (.inr h)
  .rw[tg]at e;by_cases z:a=c
   .rw[Il z]at e;cases e;subst z;rcases hm hc with⟨v,e,hv⟩|h
    .have:=d5 k e;lia
    .exact h
   .rw[Ij z]at e;exact b.m0 c v e hc
 .rw[Ij k];exact b
end Pz
namespace Pz
section
variable (RL:List Rule)(M U:List Arr)(pile:Int->Int->Int)
structure BG (S:PS) (rest:List (Int×Arr)):Prop where
 b:B RL M pile U S rest
 gt:∀ x∈S.piles.flat,S.last<x.1
 eq:∀ x∈rest,x.1=S.last
 mh:∀ a∈M,Has S a 0
structure Ext (S T:PS) (rest:List (Int×Arr)) (k:Nat):Prop where
 bg:BG RL M U pile T rest
 mono:∀ a p,Has S a p->Has T a p
 se:T.settled=S.settled
 la:T.last=S.last
 len:T.piles.flat.length<=S.piles.flat.length+k
end
variable {RL:List Rule}{M U:List Arr}{pile:Int->Int->Int}{rs:RS}{S T V:PS}{rest:List (Int×Arr)}{k l:Nat}
theorem qx (h:T.settled=S.settled):Sd T=Sd S:=by unfold Sd;rw[h]
theorem Ext.trans (x:Ext RL M U pile S T rest k)(y:Ext RL M U pile T V rest l):Ext RL M U pile S V rest (k+l):=⟨y.bg,λa p h=>y.mono a p (x.mono a p h),y.se.trans x.se,y.la.trans x.la,by have:=x.len;have:=y.len;lia⟩
theorem BG.offer (g:BG RL M U pile S rest)(hj:Just RL M (Sd S) a (p,n,m))(hu:a∈U)(hp:S.last<p):Ext RL M U pile S (offer pile S a p n m) rest 1:=by
 obtain⟨e1,e2,e3⟩:=gh (pile:=pile) (S:=S) a p n m;have hb:=g.b.offer hj hu (LV hp) (λh=>by have:=g.eq _ h;dsimp only at this;lia) (λh=>by have:=(g.b.sd _ _ h).1;lia) λh=>.inl (g.mh a h);refine⟨⟨hb,λx hx=>?_,λx hx=>by rw[e3];exact g.eq x hx,λb hb=>gg (g.mh b hb)⟩,λb q h=>gg h,e1,e3,qw g.b.q.ok _ _ _ _⟩;rw[e3];rcases u9 g.b.q.ok _ _ _ _ hx with h|rfl
 .exact g.gt x h
 .exact hp
theorem jm {β:Type}(fa:β->Arr)(fp:β->Int)(fn fm:β->Option Int):∀(l:List β){S:PS},BG RL M U pile S rest->
 (∀ x∈l,Just RL M (Sd S) (fa x) (fp x,fn x,fm x)/\fa x∈U/\S.last<fp x)->
 Ext RL M U pile S (l.foldl (λS x=>offer pile S (fa x) (fp x) (fn x) (fm x)) S) rest l.length/\(l.foldl (λS x=>offer pile S (fa x) (fp x) (fn x) (fm x)) S).lacking=S.lacking/\
 ∀ x∈l,Has (l.foldl (λS x=>offer pile S (fa x) (fp x) (fn x) (fm x)) S) (fa x) (fp x)
 | [],S,g,_=>⟨⟨g,λ_ _ h=>h,rfl,rfl,Ih _⟩,rfl,λ_ h=>nomatch h⟩
 |x::l,S,g,h=>by
  obtain⟨j,u,lt⟩:=h x Iq;have e:=g.offer j u lt;obtain⟨r,r1,r2⟩:=jm fa fp fn fm l (S:=offer pile S (fa x) (fp x) (fn x) (fm x)) e.bg λy hy=>by rw[qx e.se,e.la];exact h y (Ii _ hy)
  rw[J2,Iw,MC];refine⟨e.trans r,r1.trans (gh _ _ _ _).2.1,λy hy=>?_⟩;rcases Ip.mp hy with rfl|hy
  .exact r.mono _ _ (iU _ _ _ _)
  .exact r2 y hy
structure House (RL:List Rule) (M U:List Arr) (rs:RS):Prop where
 few:∀ r∈RL,r.2.2.2.length<=2
 to:∀{n r c x},(n,r)∈rs.get (c,x)->∃(j:Nat)(l:List Int),n=j/\RL[j]?=some r/\r.2.2.1=c/\r.2.2.2=x::l
 of:∀{j:Nat}{r:Rule}{x l},RL[j]?=some r->r.2.2.2=x::l->((j:Int),r)∈rs.get (r.2.2.1,x)
 u1:∀ a∈M,a∈U
 u2:∀ r∈RL,(r.1,r.2.1,r.2.2.1)∈U
 u3:∀ r∈RL,∀ s x t,(s,x,t)∈U->(r.1,r.2.1,t)∈U
def Clo (RL:List Rule)(S:PS):Prop:=∀(j:Nat)(r:Rule),RL[j]?=some r->match r.2.2.2 with
 | []=>Has S (r.1,r.2.1,r.2.2.1) 1
 | [x]=>∀ t q,Sd S (r.2.2.1,x,t) q->Has S (r.1,r.2.1,t) (q+1)
 | [x,y]=>∀ d t q1 q2,Sd S (r.2.2.1,x,d) q1->Sd S (d,y,t) q2->Has S (r.1,r.2.1,t) (q1+q2+1)
 |_=>True
structure Lk (RL:List Rule) (S:PS):Prop where
 ok:S.lacking.Ok
 to:∀{n r q d y},(n,r,q)∈S.lacking.get (d,y)->∃(j:Nat)(x:Int),n=j/\RL[j]?=some r/\r.2.2.2=[x,y]/\Sd S (r.2.2.1,x,d) q
 of:∀{j:Nat}{r:Rule}{x y d q},RL[j]?=some r->r.2.2.2=[x,y]->Sd S (r.2.2.1,x,d) q->((j:Int),r,q)∈S.lacking.get (d,y)
theorem Dc (Hs:House RL M U rs)(hau:a∈U)(p0:0<=p):∀(l:List (Int×Rule)){S:PS},BG RL M U pile S rest->S.lacking.Ok->S.settled.Ok->S.last=p->Sd S a p->(∀ x∈l,x∈rs.get (a.1,a.2.1))->
 Ext RL M U pile S (l.foldl (b6 pile a p) S) rest (l.length*S.settled.flat.length)/\(l.foldl (b6 pile a p) S).lacking.Ok/\(l.foldl (b6 pile a p) S).lacking.flat.length<=S.lacking.flat.length+l.length/\
 (∀ k z,z∈(l.foldl (b6 pile a p) S).lacking.get k↔z∈S.lacking.get k\/∃ x∈l,x.2.2.2.2.length=2/\k=(a.2.2,nth1 x.2.2.2.2)/\z=(x.1,x.2,p))/\
 (∀ x∈l,x.2.2.2.2.length=1->Has (l.foldl (b6 pile a p) S) (x.2.1,x.2.2.1,a.2.2) (p+1))/\
 ∀ x∈l,x.2.2.2.2.length=2->∀ t q,Sd S (a.2.2,nth1 x.2.2.2.2,t) q->Has (l.foldl (b6 pile a p) S) (x.2.1,x.2.2.1,t) (p+q+1)
 | [],S,g,ok,so,hl,ha,_=>⟨⟨g,λ_ _ h=>h,rfl,rfl,Nat.le_add_right _ _⟩,ok,by simp,(λk z=>⟨.inl,λh=>h.elim id λ⟨x,h,_⟩=>(IB h).elim⟩),(λ_ h=>(IB h).elim),λ_ h=>(IB h).elim⟩
 |x::l,S,g,ok,so,hl,ha,hin=>by
  obtain⟨n,r⟩:=x;obtain⟨j,ys,rfl,hj,hc,hp⟩:=Hs.to (hin _ Iq);have hr:r∈RL:=Jp hj;have aR:=Hs.few r hr;have n1:1<=S.settled.flat.length:=K1 (kT _ ha);have one:Ext RL M U pile S (b6 pile a p S ((j:Int),r)) rest S.settled.flat.length/\(b6 pile a p S ((j:Int),r)).lacking.Ok/\(b6 pile a p S ((j:Int),r)).lacking.flat.length<=S.lacking.flat.length+1/\
   (∀ k z,z∈(b6 pile a p S ((j:Int),r)).lacking.get k↔z∈S.lacking.get k\/(r.2.2.2.length=2/\k=(a.2.2,nth1 r.2.2.2)/\z=((j:Int),r,p)))/\
   (r.2.2.2.length=1->Has (b6 pile a p S ((j:Int),r)) (r.1,r.2.1,a.2.2) (p+1))/\
   (r.2.2.2.length=2->∀ t q,Sd S (a.2.2,nth1 r.2.2.2,t) q->Has (b6 pile a p S ((j:Int),r)) (r.1,r.2.1,t) (p+q+1)):=by
   unfold b6;by_cases h1:r.2.2.2.length=1
   .rw[Il (show((j:Int),r).2.2.2.2.length=1 from h1)];have hys:r.2.2.2=[a.2.1]:=by
     rw[hp]at h1 ⊢;cases ys with
     |nil=>rfl
     |cons _ _=>simp at h1
    have e:=g.offer (a:=(r.1,r.2.1,a.2.2)) (p:=p+1) (n:=some (j:Int)) (m:=none) ⟨j,r,rfl,hj,rfl,rfl,by rw[hys];exact⟨rfl,p,by rw[hc];exact ha,rfl⟩⟩ (Hs.u3 r hr _ _ _ hau) (by lia);obtain⟨_,e2,_⟩:=gh (pile:=pile) (S:=S) (r.1,r.2.1,a.2.2) (p+1) (some (j:Int)) none;refine⟨⟨e.bg,e.mono,e.se,e.la,IL e.len (Mf n1 _)⟩,by rw[e2];exact ok,by rw[e2];lia,λk z=>?_,λ_=>iU _ _ _ _,λh=>by lia⟩;rw[e2];exact⟨.inl,λh=>h.elim id λh=>by lia⟩
   .rw[Ij (show ¬ ((j:Int),r).2.2.2.2.length=1 from h1)];have h2:r.2.2.2.length=2:=by rw[hp]at h1 aR ⊢;simp only[Iw]at h1 aR ⊢;lia
    obtain⟨y,hys⟩ : ∃ y,r.2.2.2=[a.2.1,y]:=by
     rw[hp]at h2 ⊢
     match ys,h2 with
     | [y],_=>exact⟨y,rfl⟩
    have hn:nth1 r.2.2.2=y:=by rw[hys];rfl
    have g1:BG RL M U pile (lack S (j:Int) r a.2.2 p) rest:=⟨⟨g.b.q,g.b.nd,g.b.nr,g.b.tk,g.b.tu,g.b.ju,g.b.ps,g.b.sd,g.b.sp,g.b.it,g.b.ns,g.b.m0⟩,g.gt,g.eq,g.mh⟩;obtain⟨e,e2,e3⟩:=jm (λx:Int×Int=>(r.1,r.2.1,x.1)) (λx=>p+x.2+1) (λ_=>some (j:Int)) (λ_=>some a.2.2) (S.settled.get (a.2.2,nth1 r.2.2.2)) g1 λx hx=>by
     have sx:Sd S (a.2.2,y,x.1) x.2:=by rw[hn]at hx;exact hx
     obtain⟨_,v,tv,hv⟩:=g.b.sd _ _ sx;have:=g.b.ps _ _ tv;refine⟨⟨j,r,rfl,hj,rfl,rfl,?_⟩,Hs.u3 r hr _ _ _ (g.b.tu _ _ tv),by show S.last<_;lia⟩;rw[hys];exact⟨a.2.2,p,x.2,rfl,by rw[hc];exact ha,sx,rfl⟩
    have lm:∀ k z,z∈(first pile S (j:Int) r a.2.2 p).lacking.get k↔z∈S.lacking.get k\/(r.2.2.2.length=2/\k=(a.2.2,nth1 r.2.2.2)/\z=((j:Int),r,p)):=λk z=>by
     show z∈(List.foldl _ _ _:PS).lacking.get k↔_;rw[e2];show z∈(S.lacking.app _ _).get k↔_;rw[mD];by_cases hk:(a.2.2,nth1 r.2.2.2)=k
     .subst hk;rw[Il rfl,IG,IE];exact⟨λh=>h.elim .inl λh=>.inr ⟨h2,rfl,h⟩,λh=>h.elim .inl λh=>.inr h.2.2⟩
     .rw[Ij hk];exact⟨.inl,λh=>h.elim id λh=>(hk h.2.1.symm).elim⟩
    have lk:(first pile S (j:Int) r a.2.2 p).lacking=S.lacking.app (a.2.2,nth1 r.2.2.2) ((j:Int),r,p):=e2;refine⟨⟨e.bg,λb q h=>e.mono b q h,e.se,e.la,IL e.len (Mf (mE _ _) _)⟩,by rw[lk];exact lA ok _ _,by rw[lk,(di ok.nk _ _).length_eq];exact Ih _,lm,λh=>by lia,λ_ t q h=>e3 (t,q) h⟩
  obtain⟨e,ok1,le1,lm1,hA,hB⟩:=one;obtain⟨r0,r1,r2,r3,r4,r5⟩:=Dc Hs hau p0 l e.bg ok1 (by rw[e.se];exact so) (by rw[e.la];exact hl) (by rw[qx e.se];exact ha) λy hy=>hin y (Ii _ hy);rw[J2,Iw];rw[e.se]at r0;refine⟨by rw[Nat.add_mul,Nat.one_mul,MC];exact e.trans r0,r1,by lia,λk z=>?_,λx hx h=>?_,λx hx h t q hq=>?_⟩
  .rw[r3,lm1];constructor
   .rintro ((h|h)|⟨x,hx,h⟩)
    .exact .inl h
    .exact .inr ⟨_,Iq,h⟩
    .exact .inr ⟨x,Ii _ hx,h⟩
   .rintro (h|⟨x,hx,h⟩)
    .exact .inl (.inl h)
    .rcases Ip.mp hx with rfl|hx
     .exact .inl (.inr h)
     .exact .inr ⟨x,hx,h⟩
  .rcases Ip.mp hx with rfl|hx
   .exact r0.mono _ _ (hA h)
   .exact r4 x hx h
  .rcases Ip.mp hx with rfl|hx
   .exact r0.mono _ _ (hB h t q hq)
   .exact r5 x hx h t q (by rw[qx e.se];exact hq)
end Pz
namespace Pz
section
variable (RL:List Rule)(M U:List Arr)(pile:Int->Int->Int)(C:Nat)
structure Cnt (S:PS) (k:Nat):Prop where
 so:S.settled.Ok
 G:∃ G:List Arr,G.Nodup/\G.length=S.settled.flat.length/\∀ a∈G,∃ q,Sd S a q
 ln:S.lacking.flat.length<=RL.length*S.settled.flat.length
 pn:S.piles.flat.length+k<=C+RL.length*(S.settled.flat.length*S.settled.flat.length)
structure I (S:PS) (rest:List (Int×Arr)):Prop where
 bg:BG RL M U pile S rest
 clo:Clo RL S
 lk:Lk RL S
 cnt:Cnt RL C S rest.length
end
variable {RL:List Rule}{M U:List Arr}{pile:Int->Int->Int}{rs:RS}{S T V:PS}{rest:List (Int×Arr)}{C:Nat}
theorem sd_note:Sd (note S a p) c q↔Sd S c q\/(c=a/\q=p):=by
 unfold Sd note;show _∈(S.settled.app _ _).get _↔_;rw[mD];by_cases h:(a.1,a.2.1)=(c.1,c.2.1)
 .rw[Il h,h,IG,IE];obtain⟨h1,h2⟩:=LK h;constructor
  .rintro (k|k)
   .exact .inl k
   .obtain⟨k1,k2⟩:=LK k;exact .inr ⟨La h1.symm (La h2.symm k1),k2⟩
  .rintro (k|⟨rfl,rfl⟩)
   .exact .inl k
   .exact .inr rfl
 .rw[Ij h];exact⟨.inl,λk=>k.elim id λ⟨e,_⟩=>(h (by rw[e])).elim⟩
theorem I.settle (Hs:House RL M U rs)(hrl:∀ k,(rs.get k).length<=RL.length)(i:I RL M U pile C S ((p,a)::rest))(hv:tget S.told a=some v)(hp:v.1=p) :
 I RL M U pile C (settle pile rs S a p) rest/\(settle pile rs S a p).settled.flat.length=S.settled.flat.length+1:=by
 have b:=i.bg.b;have pl:p=S.last:=i.bg.eq _ Iq;have p0:0<=p:=by rw[pl];exact b.q.l0
 have hau:a∈U:=b.tu a v hv;have nS:∀ q,¬ Sd S a q:=λq h=>by obtain⟨_,w,e,ew⟩:=b.sd a q h;rw[hv]at e;cases e;rw[<- ew,hp]at h;exact b.ns p a (.inr Iq) h
 have nr:=IS.mp b.nr;have smono:∀ c q,Sd S c q->Sd (note S a p) c q:=λc q h=>sd_note.mpr (.inl h);have hS1:Sd (note S a p) a p:=sd_note.mpr (.inr ⟨rfl,rfl⟩);have g1:BG RL M U pile (note S a p) rest:=by
  refine⟨⟨b.q,b.nd,nr.2,b.tk,b.tu,λc w e=>(b.ju c w e).mono RL M smono,b.ps,λc q h=>?_,λc w e=>?_,λq c h=>?_,λq c h k=>?_,b.m0⟩,i.bg.gt,λx hx=>i.bg.eq x (Ii _ hx),i.bg.mh⟩
  .rcases sd_note.mp h with h|⟨rfl,rfl⟩
   .exact b.sd c q h
   .exact⟨Int.le_of_eq pl,v,hv,hp⟩
  .rcases b.sp c w e with h|h|h
   .exact .inl (smono _ _ h)
   .exact .inr (.inl h)
   .rcases Ip.mp h with h|h
    .cases h;exact .inl hS1
    .exact .inr (.inr h)
  .exact b.it q c (h.elim .inl λh=>.inr (Ii _ h))
  .rcases sd_note.mp k with k|⟨rfl,rfl⟩
   .exact b.ns q c (h.elim .inl λh=>.inr (Ii _ h)) k
   .rcases h with h|h
    .have:=i.bg.gt _ h;dsimp only at this;lia
    .exact nr.1 h
 have so1:(note S a p).settled.Ok:=lA i.cnt.so _ _;have n1:(note S a p).settled.flat.length=S.settled.flat.length+1:=(di i.cnt.so.nk _ _).length_eq;obtain⟨e1,l1,h1⟩:=jm (λx:Int×Rule×Int=>(x.2.1.1,x.2.1.2.1,a.2.2)) (λx=>x.2.2+p+1) (λx=>some x.1) (λ_=>some a.1) (S.lacking.get (a.1,a.2.1)) g1 λx hx=>by obtain⟨n,r,q⟩:=x;obtain⟨j,y,rfl,hj,hy,hq⟩:=i.lk.to hx;obtain⟨_,w,tw,hw⟩:=b.sd _ _ hq;have:=b.ps _ _ tw;refine⟨⟨j,r,rfl,hj,rfl,rfl,?_⟩,Hs.u3 r (Jp hj) _ _ _ hau,by show S.last<q+p+1;lia⟩;show JustP _ r.2.2.1 r.2.2.2 _ _ _;rw[hy];exact⟨a.1,q,p,rfl,smono _ _ hq,hS1,rfl⟩
 generalize hS2:(S.lacking.get (a.1,a.2.1)).foldl (λS x=>offer pile S (x.2.1.1,x.2.1.2.1,a.2.2) (x.2.2+p+1) (some x.1) (some a.1)) (note S a p)=S2 at e1 l1 h1;have s2:S2.settled=(note S a p).settled:=e1.se;have hs2:Sd S2=Sd (note S a p):=qx s2;have l2:S2.lacking=S.lacking:=l1;obtain⟨e2,k1,k2,k3,k4,k5⟩:=Dc (rs:=rs) Hs hau p0 (rs.get (a.1,a.2.1)) e1.bg (by rw[l2];exact i.lk.ok) (by rw[s2];exact so1) (by rw[e1.la,pl];rfl) (by rw[hs2];exact hS1) λx hx=>hx;have eT:(rs.get (a.1,a.2.1)).foldl (b6 pile a p) S2=Pz.settle pile rs S a p:=by rw[<- hS2];rfl
 rw[eT]at e2 k1 k2 k3 k4 k5;generalize Pz.settle pile rs S a p=T at e2 k1 k2 k3 k4 k5;have sT:T.settled=(note S a p).settled:=e2.se.trans s2;have hsT:∀ c q,Sd T c q↔Sd S c q\/(c=a/\q=p):=λc q=>by rw[qx sT];exact sd_note
 have mono:∀ c q,Has S c q->Has T c q:=λc q h=>e2.mono _ _ (e1.mono _ _ h);refine⟨⟨e2.bg,?_,⟨k1,?_,?_⟩,⟨by rw[sT];exact so1,?_,?_,?_⟩⟩,by rw[sT];exact n1⟩
 .intro j r hj;have hc:=i.clo j r hj;cases hput:r.2.2.2 with
  |nil=>rw[hput]at hc;exact mono _ _ hc
  |cons x ys=>
   cases ys with
   |nil=>
    rw[hput]at hc;intro t q hq;rcases (hsT _ _).mp hq with h|⟨h,rfl⟩
    .exact mono _ _ (hc t q h)
    .subst h;exact k4 ((j:Int),r) (Hs.of hj hput) (by rw[hput];rfl)
   |cons y zs=>
    cases zs with
    |cons _ _=>trivial
    |nil=>
     rw[hput]at hc;intro d t q1 q2 hq1 hq2;have ny:nth1 r.2.2.2=y:=by rw[hput];rfl
     rcases (hsT _ _).mp hq1 with z1|⟨z1,rfl⟩
     .rcases (hsT _ _).mp hq2 with z2|⟨z2,rfl⟩
      .exact mono _ _ (hc d t q1 q2 z1 z2)
      .subst z2;exact e2.mono _ _ (h1 ((j:Int),r,q1) (i.lk.of hj hput z1))
     .subst z1;refine k5 ((j:Int),r) (Hs.of hj hput) (by rw[hput];rfl) t q2 ?_;rw[ny,hs2,<- qx sT];exact hq2
 .intro n r q d y h;rcases (k3 _ _).mp h with h|⟨x,hx,hl,hk,hz⟩
  .rw[l2]at h;obtain⟨j,x,e1,e2,e3,e4⟩:=i.lk.to h;exact⟨j,x,e1,e2,e3,(hsT _ _).mpr (.inl e4)⟩
  .obtain⟨n',r'⟩:=x;obtain⟨rfl,hz⟩:=LK hz;obtain⟨rfl,rfl⟩:=LK hz;obtain⟨j,l,rfl,hj,hc,hput⟩:=Hs.to hx;obtain⟨rfl,hy⟩:=LK hk;have hl:r.2.2.2.length=2:=hl;have hy:y=nth1 r.2.2.2:=hy;rw[hput]at hl hy
   match l,hl with
   | [z],_=>
    refine⟨j,a.2.1,rfl,hj,?_,(hsT _ _).mpr (.inr ⟨?_,rfl⟩)⟩
    .rw[hput];exact JF (λq=>[a.2.1,q]) hy.symm
    .rw[hc]
 .intro j r x y d q hj hput hq;rw[k3];rcases (hsT _ _).mp hq with h|⟨h,rfl⟩
  .rw[l2];exact .inl (i.lk.of hj hput h)
  .subst h;exact .inr ⟨((j:Int),r),Hs.of hj hput,by rw[hput];rfl,by rw[hput];rfl,rfl⟩
 .obtain⟨G,g1,g2,g3⟩:=i.cnt.G;refine⟨a::G,IS.mpr ⟨λh=>?_,g1⟩,by rw[sT,n1,Iw,g2],λc hc=>?_⟩
  .obtain⟨q,hq⟩:=g3 a h;exact nS q hq
  .rcases Ip.mp hc with rfl|hc
   .exact⟨p,(hsT _ _).mpr (.inr ⟨rfl,rfl⟩)⟩
   .obtain⟨q,hq⟩:=g3 c hc;exact⟨q,(hsT _ _).mpr (.inl hq)⟩
 .have:=i.cnt.ln;have:=hrl (a.1,a.2.1);rw[sT,n1,My,Nat.mul_one];rw[l2]at k2;lia
 .have c1:=i.cnt.pn;have c2:=e1.len;have c3:=e2.len;have c4:=i.cnt.ln;have c5:=mE S.lacking (a.1,a.2.1);have c6:(rs.get (a.1,a.2.1)).length*S2.settled.flat.length<=RL.length*(S.settled.flat.length+1):=by rw[s2,n1];exact Nat.mul_le_mul_right _ (hrl _)
  rw[Iw]at c1;have c7:(note S a p).piles.flat.length=S.piles.flat.length:=rfl;rw[sT,n1];have c8:RL.length*((S.settled.flat.length+1)*(S.settled.flat.length+1))=RL.length*(S.settled.flat.length*S.settled.flat.length)+RL.length*S.settled.flat.length+RL.length*(S.settled.flat.length+1):=by rw[Nat.add_mul,Nat.one_mul,My RL.length,My S.settled.flat.length,Nat.mul_one,My RL.length (S.settled.flat.length*S.settled.flat.length)]
  rw[c8];lia
theorem I.skip (i:I RL M U pile C S (x::rest))(h:¬ EQ S x=true):I RL M U pile C S rest:=by
 have b:=i.bg.b;refine⟨⟨⟨b.q,b.nd,(IS.mp b.nr).2,b.tk,b.tu,b.ju,b.ps,b.sd,λc w e=>?_,λq c h=>b.it q c (h.elim .inl λh=>.inr (Ii _ h)),λq c h=>b.ns q c (h.elim .inl λh=>.inr (Ii _ h)),b.m0⟩,i.bg.gt,λy hy=>i.bg.eq y (Ii _ hy),i.bg.mh⟩,i.clo,i.lk,i.cnt.so,i.cnt.G,i.cnt.ln,by have:=i.cnt.pn;rw[Iw]at this;lia⟩;rcases b.sp c w e with k|k|k
 .exact .inl k
 .exact .inr (.inl k)
 .rcases Ip.mp k with k|k
  .subst k;refine(h ?_).elim;unfold EQ;rw[e];exact IA rfl
  .exact .inr (.inr k)
theorem I.batch (Hs:House RL M U rs)(hrl:∀ k,(rs.get k).length<=RL.length):∀(l:List (Int×Arr)){S:PS},I RL M U pile C S l->
 I RL M U pile C (batch pile rs S l) []/\S.settled.flat.length<=(batch pile rs S l).settled.flat.length/\((batch pile rs S l).settled.flat.length=S.settled.flat.length->batch pile rs S l=S)
 | [],S,i=>⟨i,Ih _,λ_=>rfl⟩
 |x::l,S,i=>by
  show I RL M U pile C (Pz.batch pile rs (turn pile rs S x) l) []/\_<=(Pz.batch pile rs (turn pile rs S x) l).settled.flat.length/\((Pz.batch pile rs (turn pile rs S x) l).settled.flat.length=_->Pz.batch pile rs (turn pile rs S x) l=S);unfold turn;by_cases h:EQ S x=true
  .rw[Il h];obtain⟨p,a⟩:=x;unfold EQ at h;cases e:tget S.told a with
   |none=>rw[show((p,a):Int×Arr).2=a from rfl,e]at h;cases h
   |some v=>rw[show((p,a):Int×Arr).2=a from rfl,e]at h;obtain⟨j,n⟩:=i.settle Hs hrl e (Ji h);obtain⟨r1,r2,r3⟩:=I.batch Hs hrl l j;exact⟨r1,by dsimp only at r2 ⊢;lia,λq=>by dsimp only at r2 q;lia⟩
  .rw[Ij h];exact I.batch Hs hrl l (i.skip h)
structure Top (RL:List Rule) (M U:List Arr) (pile:Int->Int->Int) (C:Nat) (S:PS):Prop where
 b:B RL M pile U S []
 mh:∀ a∈M,Has S a 0
 clo:Clo RL S
 lk:Lk RL S
 cnt:Cnt RL C S 0
theorem I.top (i:I RL M U pile C S []):Top RL M U pile C S:=⟨i.bg.b,i.bg.mh,i.clo,i.lk,i.cnt⟩
theorem Top.take (P:Pile pile)(t:Top RL M U pile C S)(hne:S.piles≠[]):I RL M U pile C (take pile S) (taken pile S.piles):=by
 have b:=t.b;have k:=took P b.q hne;have mem:∀ x,x∈S.piles.flat↔x∈(left pile S.piles).flat\/x∈taken pile S.piles:=λx=>by rw[k.pm.mem_iff,IG];exact Or.comm
 obtain⟨n1,n2,_⟩:=Ku.mp (k.pm.nodup_iff.mp b.nd);have no:∀{q c},(q,c)∉([]:List (Int×Arr)):=λh=>nomatch h;refine⟨⟨⟨k.ok,n2,n1,b.tk,b.tu,b.ju,b.ps,λa p h=>⟨KN (b.sd a p h).1 k.ge,(b.sd a p h).2⟩,λa v e=>?_,λp a h=>b.it p a (.inl ((mem _).mpr h)),λp a h=>b.ns p a (.inl ((mem _).mpr h)),b.m0⟩,k.lt,k.eq,t.mh⟩,t.clo,⟨t.lk.ok,t.lk.to,t.lk.of⟩,t.cnt.so,t.cnt.G,t.cnt.ln,?_⟩
 .rcases b.sp a v e with h|h|h
  .exact .inl h
  .exact .inr ((mem _).mp h)
  .exact(no h).elim
 .have h1:=k.pm.length_eq;rw[ID]at h1;have h2:=t.cnt.pn;show(left pile S.piles).flat.length+(taken pile S.piles).length<=_;show _<=C+RL.length*(S.settled.flat.length*S.settled.flat.length);lia
theorem mF {α:Type}[DecidableEq α]:∀(l m:List α),l.Nodup->(∀ x∈l,x∈m)->l.length<=m.length
 | [],m,_,_=>IR _
 |x::l,m,nd,h=>by have hx:=h x Iq;have nd':=IS.mp nd;have:=mF l (m.erase x) nd'.2 λy hy=>(L7 (λ(e:y=x)=>nd'.1 (by rw[<- e];exact hy))).mpr (h y (Ii _ hy));rw[Lo hx]at this;have:0<m.length:=K1 hx;rw[Iw];lia
theorem Top.few (t:Top RL M U pile C S):S.settled.flat.length<=U.length/\S.told.length<=U.length:=by
 obtain⟨G,g1,g2,g3⟩:=t.cnt.G;constructor
 .rw[<- g2];exact mF G U g1 λa ha=>by obtain⟨q,hq⟩:=g3 a ha;obtain⟨_,v,e,_⟩:=t.b.sd a q hq;exact t.b.tu a v e
 .have:=mF (S.told.map (·.1)) U t.b.tk λa ha=>by obtain⟨x,hx,rfl⟩:=Ir.mp ha;exact t.b.tu x.1 x.2 (n8 t.b.tk hx)
  rwa [Ik]at this
theorem Top.fit (t:Top RL M U pile C S)(hC:C+RL.length*(U.length*U.length)<L)(hR:RL.length*U.length<L)(hU:U.length<L):Fit S:=by obtain⟨f1,f2⟩:=t.few;have a1:=fM t.b.q.ok;have a2:=fM t.cnt.so;have a3:=fM t.lk.ok;have b1:=t.cnt.pn;have b2:RL.length*(S.settled.flat.length*S.settled.flat.length)<=RL.length*(U.length*U.length):=Mj _ (KZ f1 f1);have b3:=t.cnt.ln;have b4:RL.length*S.settled.flat.length<=RL.length*U.length:=Mj _ f1;constructor<;>lia
theorem Top.loop (P:Pile pile)(Hs:House RL M U rs)(hrl:∀ k,(rs.get k).length<=RL.length)(hC:C+RL.length*(U.length*U.length)<L)(hR:RL.length*U.length<L)(hU:U.length<L) :
 ∀(a b:Nat)(S:PS),Top RL M U pile C S->U.length-S.settled.flat.length<=a->S.piles.flat.length<=b->∃ n T,Loop pile rs n S T/\Top RL M U pile C T/\T.piles=[]:=by
 have step:∀ S,Top RL M U pile C S->S.piles≠[]->let S2:=batch pile rs (Pz.take pile S) (taken pile S.piles);Top RL M U pile C S2/\(∀ n T,Loop pile rs n S2 T->Loop pile rs (n+1) S T)/\
  (S.settled.flat.length<S2.settled.flat.length\/S2.settled.flat.length=S.settled.flat.length/\S2.piles.flat.length<S.piles.flat.length):=by
  intro S t hne;obtain⟨i,h1,h2⟩:=I.batch Hs hrl _ (t.take P hne);have t2:=i.top;refine⟨t2,λn T l=>.step hne t.b.q (λx hx=>?_) (t.fit hC hR hU) (t2.fit hC hR hU) l,?_⟩
  .obtain⟨v,e,_⟩:=t.b.it x.1 x.2 (.inl ((took P t.b.q hne).pm.mem_iff.mpr (IG.mpr (.inl hx))));rw[e];simp
  have k:=took P t.b.q hne;by_cases e:(batch pile rs (Pz.take pile S) (taken pile S.piles)).settled.flat.length=S.settled.flat.length
  .refine .inr ⟨e,?_⟩;rw[h2 e];show(left pile S.piles).flat.length<_;rw[k.pm.length_eq,ID];have:=Mi.mpr k.ne;lia
  .have h1:S.settled.flat.length<=(batch pile rs (Pz.take pile S) (taken pile S.piles)).settled.flat.length:=h1;exact .inl (by lia)
 intro a;induction a with
 |zero=>
  intro b;induction b with
  |zero=>intro S t _ hb;have:S.piles=[]:=J4.mp (by have:=fM t.b.q.ok;lia);exact⟨0,S,.done this,t,this⟩
  |succ b ih=>
   intro S t ha hb;by_cases hne:S.piles=[]
   .exact⟨0,S,.done hne,t,hne⟩
   obtain⟨t2,hl,hd⟩:=step S t hne;have:=t2.few.1;obtain⟨n,T,l,r⟩:=ih _ t2 (by rcases hd with h|h<;>lia) (by rcases hd with h|h<;>lia);exact⟨_,T,hl _ _ l,r⟩
 |succ a iha=>
  intro b;induction b with
  |zero=>intro S t _ hb;have:S.piles=[]:=J4.mp (by have:=fM t.b.q.ok;lia);exact⟨0,S,.done this,t,this⟩
  |succ b ih=>
   intro S t ha hb;by_cases hne:S.piles=[]
   .exact⟨0,S,.done hne,t,hne⟩
   obtain⟨t2,hl,hd⟩:=step S t hne;have:=t2.few.1;rcases hd with h|h
   .obtain⟨n,T,l,r⟩:=iha _ _ t2 (by lia) (Ih _);exact⟨_,T,hl _ _ l,r⟩
   .obtain⟨n,T,l,r⟩:=ih _ t2 (by lia) (by lia);exact⟨_,T,hl _ _ l,r⟩
end Pz
namespace Pz
noncomputable def en:List Rule->Nat->List (Int×Rule)
 | [],_=>[]
 |r::l,k=>((k:Int),r)::en l (k+1)
theorem en_mem:∀{l:List Rule}{k:Nat}{n:Int}{r:Rule},(n,r)∈en l k↔∃ j:Nat,n=((k+j:Nat):Int)/\l[j]?=some r
 | [],k,n,r=>⟨λh=>(IB h).elim,λ⟨j,_,h⟩=>by simp at h⟩
 |x::l,k,n,r=>by
  unfold en;rw[Ip,en_mem];constructor
  .rintro (h|⟨j,rfl,h⟩)
   .obtain⟨rfl,rfl⟩:=LK h;exact⟨0,rfl,rfl⟩
   .exact⟨j+1,by lia,by simpa using h⟩
  .rintro⟨j,rfl,h⟩;cases j with
   |zero=>left;simp at h;subst h;rfl
   |succ j=>exact .inr ⟨j,by lia,by simpa using h⟩
theorem lC:∀(l:List Rule)(k:Nat),(en l k).length=l.length
 | [],_=>rfl
 |_::l,k=>by unfold en;rw[Iw,Iw,lC]
noncomputable def dj (d:RS)(x:Int×Rule):RS:=if x.2.2.2.2.length>0 then d.app (x.2.2.2.1,x.2.2.2.2[0]?.getD 0) x else d
noncomputable def cY (RL:List Rule):RS:=(en RL 0).foldl dj []
theorem yi (d:RS)(x:Int×Rule)(k:Int×Int)(z:Int×Rule):z∈(dj d x).get k↔z∈d.get k\/(z=x/\∃ y l,x.2.2.2.2=y::l/\k=(x.2.2.2.1,y)):=by
 unfold dj;cases h:x.2.2.2.2 with
 |nil=>rw[Ij (by simp)];exact⟨.inl,λq=>q.elim id λ⟨_,y,l,e,_⟩=>nomatch e⟩
 |cons y l=>
  rw[Il (by simp),mD];have e0:(y::l)[0]?.getD 0=y:=rfl;rw[e0];by_cases e:(x.2.2.2.1,y)=k
  .rw[Il e,IG,IE,e];exact⟨λq=>q.elim .inl λq=>.inr ⟨q,y,l,rfl,e.symm⟩,λq=>q.elim .inl λq=>.inr q.1⟩
  .rw[Ij e];exact⟨.inl,λq=>q.elim id λ⟨_,y',l',e1,e2⟩=>by cases e1;exact(e e2.symm).elim⟩
theorem rN:∀(l:List (Int×Rule))(d:RS)(k:Int×Int)(z:Int×Rule),z∈(l.foldl dj d).get k↔z∈d.get k\/(z∈l/\∃ y l',z.2.2.2.2=y::l'/\k=(z.2.2.2.1,y))
 | [],d,k,z=>⟨.inl,λq=>q.elim id λq=>(IB q.1).elim⟩
 |x::l,d,k,z=>by
  rw[J2,rN l,yi,Ip];constructor
  .rintro ((h|⟨rfl,h⟩)|⟨h1,h2⟩)
   .exact .inl h
   .exact .inr ⟨.inl rfl,h⟩
   .exact .inr ⟨.inr h1,h2⟩
  .rintro (h|⟨rfl|h1,h2⟩)
   .exact .inl (.inl h)
   .exact .inl (.inr ⟨rfl,h2⟩)
   .exact .inr ⟨h1,h2⟩
theorem u_:∀(l:List (Int×Rule))(d:RS),d.Ok->(l.foldl dj d).Ok/\(l.foldl dj d).flat.length<=d.flat.length+l.length
 | [],d,h=>⟨h,Ih _⟩
 |x::l,d,h=>by
  rw[J2,Iw];have:(dj d x).Ok/\(dj d x).flat.length<=d.flat.length+1:=by
   unfold dj;split
   .exact⟨lA h _ _,MB (di h.nk _ _).length_eq⟩
   .exact⟨h,by lia⟩
  obtain⟨a,b⟩:=u_ l _ this.1;exact⟨a,by lia⟩
theorem qy {κ α:Type}:MD.Ok (κ:=κ) (α:=α) []:=⟨IX,λ_ h=>(IB h).elim⟩
theorem ER (RL:List Rule):(cY RL).Ok/\(cY RL).flat.length<=RL.length:=by obtain⟨a,b⟩:=u_ (en RL 0) [] qy;rw[lC]at b;exact⟨a,by rw[show MD.flat ([]:RS)=[] from rfl,Jr,JL]at b;exact b⟩
noncomputable def S0:PS:=⟨[],0,[],[],[]⟩
variable (pile:Int->Int->Int)
noncomputable def iB (S:PS)(a:Arr):PS:=offer pile S a 0 none none
noncomputable def cJ (S:PS)(x:Int×Rule):PS:=if x.2.2.2.2.length=0 then offer pile S (x.2.1,x.2.2.1,x.2.2.2.1) 1 (some x.1) none else S
noncomputable def n_ (RL:List Rule)(M:List Arr):PS:=(en RL 0).foldl (cJ pile) (M.foldl (iB pile) S0)
variable {RL:List Rule}{M U:List Arr}{pile}{S:PS}
structure Beg (RL:List Rule) (M U:List Arr) (pile:Int->Int->Int) (S:PS) (k:Nat):Prop where
 b:B RL M pile U S []
 l0:S.last=0
 s0:S.settled=[]
 k0:S.lacking=[]
 len:S.piles.flat.length<=k
theorem Beg.no (h:Beg RL M U pile S k)(a:Arr)(q:Int):¬ Sd S a q:=by unfold Sd;rw[h.s0];exact λh=>(IB h).elim
theorem Beg.offer (h:Beg RL M U pile S k)(hj:Just RL M (Sd S) a (p,n,m))(hu:a∈U)(hp:0<=p)(hm:a∈M->Has S a 0\/(p,n,m)=(0,none,none)):Beg RL M U pile (offer pile S a p n m) (k+1):=by obtain⟨e1,e2,e3⟩:=gh (pile:=pile) (S:=S) a p n m;exact⟨h.b.offer hj hu (by rw[h.l0];exact hp) (λh=>(IB h).elim) (h.no _ _) hm,by rw[e3];exact h.l0,by rw[e1];exact h.s0,by rw[e2];exact h.k0,IL (qw h.b.q.ok _ _ _ _) (Nat.add_le_add_right h.len 1)⟩
theorem HB:Beg RL M U pile S0 0:=by have no:∀{α:Type}{x:α},x∉([]:List α):=λh=>(IB h).elim;exact⟨⟨⟨qy,Mx _,λ_ h=>(no h).elim⟩,IX,IX,IX,(λ_ _ h=>nomatch h),(λ_ _ h=>nomatch h),(λ_ _ h=>nomatch h),(λ_ _ h=>(no h).elim),(λ_ _ h=>nomatch h),(λ_ _ h=>h.elim (λh=>(no h).elim) λh=>(no h).elim),(λ_ _ h=>h.elim (λh=>(no h).elim) λh=>(no h).elim),(λ_ _ h=>nomatch h)⟩,rfl,rfl,rfl,Ih _⟩
theorem Ge:∀(l:List Arr){S:PS}{k:Nat},Beg RL M U pile S k->(∀ a∈l,a∈M/\a∈U)->Beg RL M U pile (l.foldl (iB pile) S) (k+l.length)/\(∀ a p,Has S a p->Has (l.foldl (iB pile) S) a p)/\∀ a∈l,Has (l.foldl (iB pile) S) a 0
 | [],S,k,h,_=>⟨h,λ_ _ h=>h,λ_ h=>(IB h).elim⟩
 |a::l,S,k,h,hl=>by
  obtain⟨h1,h2⟩:=hl a Iq;have e:=h.offer (a:=a) (p:=0) (n:=none) (m:=none) ⟨rfl,rfl,h1⟩ h2 (Mx _) λ_=>.inr rfl;obtain⟨r1,r2,r3⟩:=Ge l e λb hb=>hl b (Ii _ hb);rw[J2,Iw,MC l.length,<- Nat.add_assoc];refine⟨r1,λb p h=>r2 b p (gg h),λb hb=>?_⟩;rcases Ip.mp hb with rfl|hb
  .exact r2 _ _ (iU _ _ _ _)
  .exact r3 b hb
theorem Gf (u2:∀ r∈RL,(r.1,r.2.1,r.2.2.1)∈U):∀(l:List (Int×Rule)){S:PS}{k:Nat},Beg RL M U pile S k->(∀ a∈M,Has S a 0)->(∀ x∈l,∃ j:Nat,x.1=j/\RL[j]?=some x.2)->
 Beg RL M U pile (l.foldl (cJ pile) S) (k+l.length)/\(∀ a p,Has S a p->Has (l.foldl (cJ pile) S) a p)/\∀ x∈l,x.2.2.2.2=[]->Has (l.foldl (cJ pile) S) (x.2.1,x.2.2.1,x.2.2.2.1) 1
 | [],S,k,h,_,_=>⟨h,λ_ _ h=>h,λ_ h=>(IB h).elim⟩
 |x::l,S,k,h,hm,hl=>by
  obtain⟨j,e1,e2⟩:=hl x Iq;have one:Beg RL M U pile (cJ pile S x) (k+1)/\(∀ a p,Has S a p->Has (cJ pile S x) a p)/\(x.2.2.2.2=[]->Has (cJ pile S x) (x.2.1,x.2.2.1,x.2.2.2.1) 1):=by
   unfold cJ;by_cases h0:x.2.2.2.2.length=0
   .rw[Il h0];have e:=h.offer (a:=(x.2.1,x.2.2.1,x.2.2.2.1)) (p:=1) (n:=some x.1) (m:=none) ⟨j,x.2,e1,e2,rfl,rfl,by rw[J4.mp h0];exact⟨rfl,rfl,rfl⟩⟩ (u2 _ (Jp e2)) (by decide) λh=>.inl (hm _ h);exact⟨e,λb p h=>gg h,λ_=>iU _ _ _ _⟩
   .rw[Ij h0];exact⟨⟨h.b,h.l0,h.s0,h.k0,Nat.le_succ_of_le h.len⟩,λ_ _ h=>h,λe=>(h0 (by rw[e];rfl)).elim⟩
  obtain⟨o1,o2,o3⟩:=one;obtain⟨r1,r2,r3⟩:=Gf u2 l o1 (λa ha=>o2 a 0 (hm a ha)) λb hb=>hl b (Ii _ hb);rw[J2,Iw,MC l.length,<- Nat.add_assoc];refine⟨r1,λb p h=>r2 b p (o2 b p h),λb hb e=>?_⟩;rcases Ip.mp hb with rfl|hb
  .exact r2 _ _ (o3 e)
  .exact r3 b hb e
structure Set (RL:List Rule) (M U:List Arr):Prop where
 few:∀ r∈RL,r.2.2.2.length<=2
 u1:∀ a∈M,a∈U
 u2:∀ r∈RL,(r.1,r.2.1,r.2.2.1)∈U
 u3:∀ r∈RL,∀ s x t,(s,x,t)∈U->(r.1,r.2.1,t)∈U
 big:M.length+RL.length+RL.length*(U.length*U.length)<L
 big2:RL.length*U.length<L
 big3:U.length<L
theorem Set.house (h:Set RL M U):House RL M U (cY RL):=by
 refine⟨h.few,λ{n r c x} q=>?_,λ{j r x l} e1 e2=>?_,h.u1,h.u2,h.u3⟩
 .rcases (rN _ _ _ _).mp q with q|⟨q,y,l,e,k⟩
  .exact(IB q).elim
  .obtain⟨j,e1,e2⟩:=en_mem.mp q;obtain⟨rfl,rfl⟩:=LK k;exact⟨j,l,by rw[e1,JL],e2,rfl,e⟩
 .exact(rN _ _ _ _).mpr (.inr ⟨en_mem.mpr ⟨j,by rw[JL],e1⟩,x,l,e2,rfl⟩)
theorem yj (h:Set RL M U):Top RL M U pile (M.length+RL.length) (n_ pile RL M):=by
 obtain⟨a1,a2,a3⟩:=Ge (RL:=RL) (M:=M) (U:=U) (pile:=pile) M HB λa ha=>⟨ha,h.u1 a ha⟩;obtain⟨b1,b2,b3⟩:=Gf h.u2 (en RL 0) a1 a3 λx hx=>by obtain⟨j,e1,e2⟩:=en_mem.mp hx;exact⟨j,by rw[e1,JL],e2⟩
 have b1:Beg RL M U pile (n_ pile RL M) _:=b1;refine⟨b1.b,λa ha=>b2 a 0 (a3 a ha),λj r hj=>?_,⟨by rw[b1.k0];exact qy,λ{n r q d y} h=>by rw[b1.k0]at h;exact(IB h).elim,λ_ _ h=>(b1.no _ _ h).elim⟩,⟨by rw[b1.s0];exact qy,⟨[],IX,by rw[b1.s0];rfl,λ_ h=>(IB h).elim⟩,by rw[b1.k0];exact IR _,?_⟩⟩
 .cases hp:r.2.2.2 with
  |nil=>exact b3 ((j:Int),r) (en_mem.mpr ⟨j,by rw[JL],hj⟩) hp
  |cons x l=>
   match l with
   | []=>exact λt q h=>(b1.no _ _ h).elim
   | [y]=>exact λd t q1 q2 h=>(b1.no _ _ h).elim
   |_::_::_=>trivial
 .have:=b1.len;rw[lC]at this;lia
def At (t:TD)(a:Arr)(q:Int):Prop:=∃ w,tget t a=some w/\w.1=q
def Low (t:TD)(a:Arr)(q:Int):Prop:=∃ w,tget t a=some w/\w.1<=q
structure Good (RL:List Rule) (M U:List Arr) (t:TD):Prop where
 nd:(t.map (·.1)).Nodup
 u:∀ a v,tget t a=some v->a∈U
 ju:∀ a v,tget t a=some v->Just RL M (At t) a v
 ps:∀ a v,tget t a=some v->0<=v.1
 m0:∀ a∈M,tget t a=some (0,none,none)
 clo:∀(j:Nat)(r:Rule),RL[j]?=some r->match r.2.2.2 with
  | []=>Low t (r.1,r.2.1,r.2.2.1) 1
  | [x]=>∀ d q,At t (r.2.2.1,x,d) q->Low t (r.1,r.2.1,d) (q+1)
  | [x,y]=>∀ d e q1 q2,At t (r.2.2.1,x,d) q1->At t (d,y,e) q2->Low t (r.1,r.2.1,e) (q1+q2+1)
  |_=>True
theorem Top.good (h:Top RL M U pile C S)(e:S.piles=[]):Good RL M U S.told:=by
 have hs:∀ a q,Sd S a q↔At S.told a q:=λa q=>by
  constructor
  .intro k;exact(h.b.sd a q k).2
  .rintro⟨w,k,rfl⟩;rcases h.b.sp a w k with k|k|k
   .exact k
   .rw[e]at k;exact(IB k).elim
   .exact(IB k).elim
 refine⟨h.b.tk,h.b.tu,λa v k=>(h.b.ju a v k).mono RL M λa q=>(hs a q).mp,h.b.ps,λa ha=>?_,λj r hj=>?_⟩
 .obtain⟨v,k,_⟩:=h.mh a ha;rw[k,h.b.m0 a v k ha]
 .have hc:=h.clo j r hj;cases hp:r.2.2.2 with
  |nil=>rw[hp]at hc;exact hc
  |cons x l=>
   rw[hp]at hc
   match l with
   | []=>exact λt q k=>hc t q ((hs _ _).mpr k)
   | [y]=>exact λd t q1 q2 k1 k2=>hc d t q1 q2 ((hs _ _).mpr k1) ((hs _ _).mpr k2)
   |_::_::_=>trivial
theorem Set.run (P:Pile pile)(h:Set RL M U):Fit (n_ pile RL M)/\∃ n T,Loop pile (cY RL) n (n_ pile RL M) T/\Good RL M U T.told:=by have t:=yj (pile:=pile) h;obtain⟨n,T,l,t2,e⟩:=t.loop P h.house (λk=>IL (mE _ k) (ER RL).2) h.big h.big2 h.big3 _ _ _ (Ih _) (Ih _);exact⟨t.fit h.big h.big2 h.big3,n,T,l,t2.good e⟩
end Pz
namespace Pz
theorem B9 (x y k:Nat):(x ||| y)-(x &&& y)<2 ^ k↔x / 2 ^ k=y / 2 ^ k:=by
 have hO:(x ||| y) / 2 ^ k=x / 2 ^ k ||| y / 2 ^ k:=by rw[<- JS,<- JS,<- JS,Nat.shiftRight_or_distrib]
 have hA:(x &&& y) / 2 ^ k=x / 2 ^ k &&& y / 2 ^ k:=by rw[<- JS,<- JS,<- JS,Nat.shiftRight_and_distrib]
 have mO:(x ||| y) % 2 ^ k=x % 2 ^ k ||| y % 2 ^ k:=Nat.or_mod_two_pow;have mA:(x &&& y) % 2 ^ k=x % 2 ^ k &&& y % 2 ^ k:=Nat.and_mod_two_pow;have pos:0<2 ^ k:=Nat.two_pow_pos k;have dO:=Nat.div_add_mod (x ||| y) (2 ^ k);have dA:=Nat.div_add_mod (x &&& y) (2 ^ k);have lO:=MF (x ||| y) pos;have a1:x / 2 ^ k &&& y / 2 ^ k<=x / 2 ^ k:=Nat.and_le_left;have a2:x / 2 ^ k &&& y / 2 ^ k<=y / 2 ^ k:=Nat.and_le_right;have a3:x / 2 ^ k<=x / 2 ^ k ||| y / 2 ^ k:=Nat.left_le_or;have a4:y / 2 ^ k<=x / 2 ^ k ||| y / 2 ^ k:=Nat.right_le_or;have a5:x % 2 ^ k &&& y % 2 ^ k<=x % 2 ^ k:=Nat.and_le_left;have a6:x % 2 ^ k<=x % 2 ^ k ||| y % 2 ^ k:=Nat.left_le_or;constructor
 .intro h;refine Nat.le_antisymm ?_ ?_
  all_goals
   refine Nat.not_lt.mp λhc=>?_;have hlt:(x &&& y) / 2 ^ k+1<=(x ||| y) / 2 ^ k:=by lia
   have hm:=Mj (2 ^ k) hlt;rw[My,Nat.mul_one]at hm;lia
 .intro e;have e1:(x ||| y) / 2 ^ k=(x &&& y) / 2 ^ k:=by rw[hO,hA,e,Nat.or_self,Nat.and_self]
  rw[e1]at dO;lia
theorem B_ (z k:Nat):(if ((z:Int)==0)=true then 0 else (z:Int).natAbs.log2+1)<=k↔z<2 ^ k:=by
 rw[Int.natAbs_natCast];by_cases h:z=0
 .subst h;rw[Il (by decide)];exact⟨λ_=>Nat.two_pow_pos k,λ_=>IR _⟩
 .have:¬ ((z:Int)==0)=true:=by simpa using h
  rw[Ij this];exact Nat.log2_lt h
end Pz
namespace L4
open PySem PySem.Spec PyProof.Rows L2 L3
section
variable {κ:Type}[DecidableEq κ]
noncomputable abbrev DX (κ:Type):=List (κ×Addr×List V)
noncomputable abbrev DX.kv (xs:DX κ):List (κ×V):=xs.map λx=>(x.1,V.ref x.2.1)
structure DL (mk:List (κ×V)->HO) (H:Hp) (a:Addr) (xs:DX κ):Prop where
 root:H a=some (mk xs.kv)
 kid:∀ x∈xs,H x.2.1=some (.lst x.2.2)
 nk:(xs.map (·.1)).Nodup
 na:(xs.map (·.2.1)).Nodup
def InD (a:Addr)(xs:DX κ)(b:Addr):Prop:=b=a\/∃ x∈xs,b=x.2.1
noncomputable def d6 (xs:DX κ)(k:κ):Option (Addr×List V):=(xs.find? λx=>decide (x.1=k)).map (·.2)
noncomputable def lD (xs:DX κ)(k:κ)(v:V):DX κ:=xs.map λx=>if x.1=k then (x.1,x.2.1,x.2.2++[v]) else x
theorem fO (xs:DX κ)(k:κ):cg xs.kv k=(d6 xs k).map λp=>.ref p.1:=by
 induction xs with
 |nil=>rfl
 |cons x r ih=>
  unfold d6 at ih ⊢;show cg ((x.1,V.ref x.2.1)::DX.kv r) k=_;rw[J1];by_cases h:x.1=k
  .rw[dN h,IA h];rfl
  .rw[dP h,IJ h,ih]
theorem yk (xs:DX κ)(k:κ)(v:V):(lD xs k v).kv=xs.kv:=by unfold lD DX.kv;rw[Je];apply JE;intro x _;show((if x.1=k then (x.1,x.2.1,x.2.2++[v]) else x).1,V.ref (if x.1=k then (x.1,x.2.1,x.2.2++[v]) else x).2.1)=_;split<;>rfl
theorem oa {β:Type}(f:κ×Addr×List V->β)(hf:∀ a b c d,f (a,b,c)=f (a,b,d))(xs:DX κ)(k:κ)(v:V):(lD xs k v).map f=xs.map f:=by
 unfold lD;rw[Je];apply JE;intro x _;show f (if x.1=k then (x.1,x.2.1,x.2.2++[v]) else x)=_;split
 .exact hf _ _ _ _
 .rfl
theorem bS {xs:DX κ}(h:d6 xs k=some p):(k,p)∈xs:=by unfold d6 at h;obtain⟨x,hx,rfl⟩:=JO.mp h;have h1:=List.find?_some hx;have h2:=List.mem_of_find?_eq_some hx;have e:x.1=k:=Ji h1;obtain⟨a,b⟩:=x;dsimp only at e;subst e;exact h2
theorem ym {xs:DX κ}(h:d6 xs k=none):k∉xs.map (·.1):=λhk=>by obtain⟨x,hx,rfl⟩:=Ir.mp hk;unfold d6 at h;have:=List.find?_eq_none.mp (Option.map_eq_none_iff.mp h) x hx;simp at this
variable {mk:List (κ×V)->HO}{H H':Hp}{a l:Addr}{xs:DX κ}{k:κ}{v:V}{p:Addr×List V}
theorem DL.old (hmk:∀ q ws,mk q≠.lst ws)(G:DL mk H a xs)(hk:d6 xs k=some p)(hm:H' p.1=some (.lst (p.2++[v])))(kp:∀ c u,H c=some u->c≠p.1->H' c=some u):DL mk H' a (lD xs k v):=by
 have hp:=bS hk;have nap:a≠p.1:=λe=>by have:=G.kid _ hp;dsimp only at this;rw[<- e,G.root]at this;exact hmk _ _ (IM this)
 refine⟨by rw[yk];exact kp _ _ G.root nap,λx hx=>?_,by rw[oa _ (λ_ _ _ _=>rfl)];exact G.nk,by rw[oa _ (λ_ _ _ _=>rfl)];exact G.na⟩;obtain⟨y,hy,rfl⟩:=Ir.mp hx;by_cases e:y.1=k
 .rw[Il e];have:y=(k,p):=by
   have h1:(xs.map (·.1)).Nodup:=G.nk;obtain⟨i,hi⟩:=IC.mp hy;obtain⟨j,hj⟩:=IC.mp hp;have e1:(xs.map (·.1))[i]?=some k:=by rw[IH,hi];exact JF some e
   have e2:(xs.map (·.1))[j]?=some k:=by rw[IH,hj];rfl
   have:i=j:=(Mv (Iz.mp e1).1 h1).mp (e1.trans e2.symm);subst this;rw[hi]at hj;exact IM hj
  subst this;exact hm
 .rw[Ij e];refine kp _ _ (G.kid y hy) λq=>e ?_;obtain⟨i,hi⟩:=IC.mp hy;obtain⟨j,hj⟩:=IC.mp hp;have e1:(xs.map (·.2.1))[i]?=some p.1:=by rw[IH,hi];exact JF some q
  have e2:(xs.map (·.2.1))[j]?=some p.1:=by rw[IH,hj];rfl
  have:i=j:=(Mv (Iz.mp e1).1 G.na).mp (e1.trans e2.symm);subst this;rw[hi]at hj;rw[IM hj]
theorem DL.new (hmk:∀ q ws,mk q≠.lst ws)(G:DL mk H a xs)(hk:d6 xs k=none)(hl:H l=none)(hm:H' l=some (.lst [v]))(ha:H' a=some (mk (xs.kv++[(k,.ref l)])))(kp:∀ c u,H c=some u->c≠a->H' c=some u):DL mk H' a (xs++[(k,l,[v])]):=by
 have nl:∀ x∈xs,x.2.1≠l:=λx hx e=>by have:=G.kid x hx;rw[e,hl]at this;cases this
 refine⟨by rw[ha];unfold DX.kv;rw[Jk];rfl,λx hx=>?_,?_,?_⟩
 .rcases IG.mp hx with h|h
  .refine kp _ _ (G.kid x h) λe=>?_;have:=G.kid x h;rw[e,G.root]at this;exact hmk _ _ (IM this)
  .rw[IE]at h;subst h;exact hm
 .rw[Jk,Ku];exact⟨G.nk,by simp,λb hb c hc e=>by rw[Im,Kj,IE]at hc;subst hc;subst e;exact ym hk hb⟩
 .rw[Jk,Ku];exact⟨G.na,by simp,λb hb c hc e=>by rw[Im,Kj,IE]at hc;subst hc;subst e;obtain⟨x,hx,q⟩:=Ir.mp hb;exact nl x hx q⟩
end
def qz (t:TE)(σ:L2.St)(H:Hp)(v:V):Prop:=∀ Q:VK,Q v H->t σ H Q
def Makes (t:TE)(σ:L2.St)(H:Hp)(ws:List V):Prop:=∀ Q:VK,(∀ p,H p=none->Q (.ref p) (aG H p (.tup ws)))->t σ H Q
noncomputable def i6 {κ:Type}[DecidableEq κ](xs:DX κ)(k:κ)(l:Addr)(v:V):DX κ:=if (d6 xs k).isSome then lD xs k v else xs++[(k,l,[v])]
noncomputable def lW (K:MI) (to tk te:TE):TE:=FO K "list" qQ (FO K "dict" zJ to (av tk (av (ux ba) ba))) (av te ba)
theorem mG {K:MI}{to tk te:TE}{σ:L2.St}{H:Hp}{C:Hp->Prop}(G:DL .dT H a xs)(hto:qz to σ H (.ref a))(htk:qz tk σ H (.ref b))(hb:H b=some (.tup (k.map kV)))
 (hte:∀ H',(∀ c u,H c=some u->c≠a->H' c=some u)->Makes te σ H' ws) (hz:xs.length<16000000) (hw:∀ x∈xs,x.2.2.length<16000000)
 (kk:∀(l p:Addr)(H':Hp),H l=none->H p=none->H' p=some (.tup ws)->DL .dT H' a (i6 xs k l (.ref p))->(∀ c u,H c=some u->¬ InD a xs c->H' c=some u)->C H') :
 lW K to tk te σ H λ_ H'=>C H':=by
 have sz:∀ n,n<16000000->n<sizeLine:=λn h=>by rw[I_];lia
 have han:H a≠none:=by rw[G.root];simp
 refine hto _ ⟨.inr (.inr (.inl ⟨rfl,.inr ⟨_,G.root⟩⟩)),htk _ ⟨IR _,λl hl=>?_⟩⟩;have nal:a≠l:=λe=>han (by rw[e];exact hl);have kl:∀ c u,H c=some u->aG H l (.lst []) c=some u:=λc u e=>by rw[ac (ah e hl)];exact e
 refine⟨a,b,k,.ref l,xs.kv,rfl,rfl,kl _ _ hb,.inl (kl _ _ G.root),sz _ (by unfold DX.kv;rw[Ik];exact hz),?_⟩;cases hf:d6 xs k with
 |some q=>
  left;have hq:=G.kid _ (bS hf);refine⟨.ref q.1,by rw[fO,hf];rfl,.inl ⟨rfl,_,SqL.of (kl _ _ hq)⟩,hte _ (λc u e _=>kl c u e) _ λp hp=>?_⟩;have hpH:H p=none:=(aE hl).free hp;have nqp:q.1≠p:=λe=>by dsimp only at hq;rw[e,hpH]at hq;cases hq
  refine⟨q.1,q.2,.ref p,rfl,rfl,by rw[ac nqp];exact kl _ _ hq,sz _ (hw _ (bS hf)),?_⟩;have kp:∀ c u,H c=some u->c≠q.1->aG (aG (aG H l (.lst [])) p (.tup ws)) q.1 (.lst (q.2++[.ref p])) c=some u:=λc u e hn=>by rw[ac hn,ac (ah e hpH)];exact kl c u e
  refine kk l p _ hl hpH (by rw[ac (Jn nqp),af]) ?_ λc u e hn=>kp c u e λz=>hn (.inr ⟨_,bS hf,z⟩);unfold i6;rw[hf,Il (by simp)];exact G.old (λ_ _ z=>nomatch z) hf af kp
 |none=>
  right;refine⟨by rw[fO,hf];rfl,.inl ⟨rfl,[],SqL.of (by rw[ac (Jn nal),af])⟩,hte _ (λc u e hn=>by rw[ac hn];exact kl c u e) _ λp hp=>?_⟩;have hvn:cg xs.kv k=none:=by rw[fO,hf];rfl
  have hpa:p≠a:=λe=>by rw[e,af]at hp;cases hp
  have hpl:p≠l:=λe=>by rw[e,ac (Jn nal),af]at hp;cases hp
  have hpH:H p=none:=by rw[ac hpa,ac hpl]at hp;exact hp
  refine⟨l,[],.ref p,rfl,rfl,by rw[ac (Jn hpl),ac (Jn nal),af],by decide,?_⟩;refine kk l p _ hl hpH (by rw[ac hpl,af]) ?_ λc u e hn=>?_
  .unfold i6;rw[hf,Ij (by simp)];refine G.new (λ_ _ z=>nomatch z) hf hl af (by rw[ac nal,ac (Jn hpa),af,m_ _ hvn]) λc u e hn=>?_;rw[ac (ah e hl),ac (ah e hpH),ac hn];exact kl c u e
  .rw[ac (ah e hl),ac (ah e hpH),ac (λz=>hn (.inl z))];exact kl c u e
noncomputable def Dd (K:MI) (to tk te:TE):TE:=FO K "list" qQ (FO K "dict" CV to (av tk (av (ux ba) ba))) (av te ba)
theorem Ca {K:MI}{to tk te:TE}{σ:L2.St}{H:Hp}{C:Hp->Prop}(G:DL .dK H a xs)(hto:qz to σ H (.ref a))(htk:qz tk σ H (.int i))
 (hte:∀ H',(∀ c u,H c=some u->c≠a->H' c=some u)->Makes te σ H' ws) (hz:xs.length<16000000) (hw:∀ x∈xs,x.2.2.length<16000000)
 (kk:∀(l p:Addr)(H':Hp),H l=none->H p=none->H' p=some (.tup ws)->DL .dK H' a (i6 xs (.inl i) l (.ref p))->(∀ c u,H c=some u->¬ InD a xs c->H' c=some u)->C H') :
 Dd K to tk te σ H λ_ H'=>C H':=by
 have sz:∀ n,n<16000000->n<sizeLine:=λn h=>by rw[I_];lia
 have han:H a≠none:=by rw[G.root];simp
 refine hto _ ⟨.inr (.inr (.inl ⟨rfl,.inl ⟨_,G.root⟩⟩)),htk _ ⟨IR _,λl hl=>?_⟩⟩;have nal:a≠l:=λe=>han (by rw[e];exact hl);have kl:∀ c u,H c=some u->aG H l (.lst []) c=some u:=λc u e=>by rw[ac (ah e hl)];exact e
 refine⟨a,.inl i,.ref l,xs.kv,rfl,rfl,.inl (kl _ _ G.root),sz _ (by unfold DX.kv;rw[Ik];exact hz),?_⟩;cases hf:d6 xs (.inl i) with
 |some q=>
  left;have hq:=G.kid _ (bS hf);refine⟨.ref q.1,by rw[fO,hf];rfl,.inl ⟨rfl,_,SqL.of (kl _ _ hq)⟩,hte _ (λc u e _=>kl c u e) _ λp hp=>?_⟩;have hpH:H p=none:=(aE hl).free hp;have nqp:q.1≠p:=λe=>by dsimp only at hq;rw[e,hpH]at hq;cases hq
  refine⟨q.1,q.2,.ref p,rfl,rfl,by rw[ac nqp];exact kl _ _ hq,sz _ (hw _ (bS hf)),?_⟩;have kp:∀ c u,H c=some u->c≠q.1->aG (aG (aG H l (.lst [])) p (.tup ws)) q.1 (.lst (q.2++[.ref p])) c=some u:=λc u e hn=>by rw[ac hn,ac (ah e hpH)];exact kl c u e
  refine kk l p _ hl hpH (by rw[ac (Jn nqp),af]) ?_ λc u e hn=>kp c u e λz=>hn (.inr ⟨_,bS hf,z⟩);unfold i6;rw[hf,Il (by simp)];exact G.old (λ_ _ z=>nomatch z) hf af kp
 |none=>
  right;refine⟨by rw[fO,hf];rfl,.inl ⟨rfl,[],SqL.of (by rw[ac (Jn nal),af])⟩,hte _ (λc u e hn=>by rw[ac hn];exact kl c u e) _ λp hp=>?_⟩;have hvn:cg xs.kv (.inl i)=none:=by rw[fO,hf];rfl
  have hpa:p≠a:=λe=>by rw[e,af]at hp;cases hp
  have hpl:p≠l:=λe=>by rw[e,ac (Jn nal),af]at hp;cases hp
  have hpH:H p=none:=by rw[ac hpa,ac hpl]at hp;exact hp
  refine⟨l,[],.ref p,rfl,rfl,by rw[ac (Jn hpl),ac (Jn nal),af],by decide,?_⟩;refine kk l p _ hl hpH (by rw[ac hpl,af]) ?_ λc u e hn=>?_
  .unfold i6;rw[hf,Ij (by simp)];refine G.new (λ_ _ z=>nomatch z) hf hl af (by rw[ac nal,ac (Jn hpa),af,m_ _ hvn]) λc u e hn=>?_;rw[ac (ah e hl),ac (ah e hpH),ac hn];exact kl c u e
  .rw[ac (ah e hl),ac (ah e hpH),ac (λz=>hn (.inl z))];exact kl c u e
section
variable {X:Cx}
noncomputable def Df:V->List V->Hp->VK->Prop:=λx xs H Q=>∃ i,x=.int i/\xs=[]/\Q (.int (Builtin.Int.intBits i)) H
theorem Cb:D8 X "int.bit_length" Df:=by intro pins s σ H x xs v us Q I rx rs q;obtain⟨i,rfl,rfl,q⟩:=q;obtain⟨t,rfl⟩:=rx;cases rs;exact call_int_bit_length ⟨.int _,H,I.tok _,⟨_,rfl⟩,q⟩
end
structure QAt (C:Addr) (H:Hp) (q ap:Addr) (last:Int) (xs:DX Key):Prop where
 ins:∃ dx,H q=some (.ins C dx [("last",.int last),("piles",.ref ap)])
 piles:DL .dK H ap xs
 few:xs.length<16000000
 low:∀ x∈xs,x.2.2.length<16000000
structure QCls (K:MI) (C:Addr):Prop where
 cl:Cls K C
 nl:NoAttr K C "last"
 np:NoAttr K C "piles"
noncomputable def ao (price last:Int):Int:=Builtin.Int.intBits (Builtin.bitXor price last)
noncomputable def Gg (K:MI):TE:=Dd K (dJ K (ay 0) "piles") (Eb K "int" Df (k9 (xj λi j=>.int (Builtin.bitXor i j)) (ay 1) (dJ K (ay 0) "last"))) (ia (av (ay 1) (av (ay 2) ba)))
theorem ES {K:MI}{C q ap b:Addr}{H:Hp}{Cn:Hp->Prop}(T:QCls K C)(G:QAt C H q ap last xs)(h0:σ[0]?=some (some (.ref q)))(h1:σ[1]?=some (some (.int price)))(h2:σ[2]?=some (some (.ref b)))
 (kk:∀(l p:Addr)(H':Hp),H l=none->H p=none->H' p=some (.tup [.int price,.ref b])->(∃ dx,H' q=some (.ins C dx [("last",.int last),("piles",.ref ap)]))->DL .dK H' ap (i6 xs (.inl (ao price last)) l (.ref p))->(∀ c u,H c=some u->¬ InD ap xs c->H' c=some u)->Cn H') :
 Gg K σ H λ_ H'=>Cn H':=by
 obtain⟨dx,hq⟩:=G.ins;have nq:¬ InD ap xs q:=λz=>by
  rcases z with z|⟨x,hx,z⟩
  .have:=G.piles.root;rw[<- z,hq]at this;cases this
  .have:=G.piles.kid x hx;rw[<- z,hq]at this;cases this
 refine Ca (ws:=[.int price,.ref b]) (i:=ao price last) G.piles (λQ h=>⟨_,h0,q,C,dx,_,_,rfl,hq,T.cl,T.np,rfl,h⟩) (λQ h=>?_) (λH' _ Q h=>⟨_,h1,_,h2,(by show 2<=sizeLine;decide),h⟩) G.few G.low λl p H' hl hp hm hd kp=>kk l p H' hl hp hm ⟨dx,kp _ _ hq nq⟩ hd kp;exact⟨_,h1,_,h0,q,C,dx,_,_,rfl,hq,T.cl,T.nl,rfl,_,_,rfl,rfl,rfl,_,rfl,rfl,h⟩
noncomputable def qA (C:Addr):Sp:=λvs H Q _=>∃(q ap b:Addr)(last price:Int)(xs:DX Key),vs=[.ref q,.int price,.ref b]/\QAt C H q ap last xs/\
 ∀(l p:Addr)(H':Hp),H l=none->H p=none->H' p=some (.tup [.int price,.ref b])->(∃ dx,H' q=some (.ins C dx [("last",.int last),("piles",.ref ap)]))->DL .dK H' ap (i6 xs (.inl (ao price last)) l (.ref p))->(∀ c u,H c=some u->¬ InD ap xs c->H' c=some u)->Q .non H'
theorem yn (h:qA C vs H Q E):vs.length=3:=by obtain⟨q,ap,b,last,price,xs,rfl,_⟩:=h;rfl
theorem Ap {K:MI}{C:Addr}{vs:List V}(T:QCls K C)(h:qA C vs H Q E)(hN:N.length=3):cv (Gg K) { nx:=λ_ H'=>Q .non H',rt:=Q } (bJ N vs) H:=by obtain⟨q,ap,b,last,price,xs,rfl,G,k⟩:=h;exact ES T G rfl rfl rfl k
section
variable {κ:Type}[DecidableEq κ]{mk:List (κ×V)->HO}{H H':Hp}{a:Addr}{xs:DX κ}{k:κ}{p:Addr×List V}
noncomputable def iC (xs:DX κ)(k:κ):DX κ:=xs.filter λx=>decide (x.1≠k)
theorem Aq (xs:DX κ)(k:κ):(iC xs k).kv=i9 xs.kv k:=by unfold iC i9 DX.kv;rw[List.filter_map];rfl
theorem DL.drop (hmk:∀ q ws,mk q≠.lst ws)(G:DL mk H a xs)(hk:d6 xs k=some p)(ha:H' a=some (mk (i9 xs.kv k)))(kp:∀ c u,H c=some u->c≠a->H' c=some u) :
 DL mk H' a (iC xs k)/\H' p.1=some (.lst p.2)/\¬ InD a (iC xs k) p.1:=by
 have hp:=bS hk;have nap:∀ x∈xs,x.2.1≠a:=λx hx e=>by have:=G.kid x hx;rw[e,G.root]at this;exact hmk _ _ (IM this)
 have sub:(iC xs k).Sublist xs:=List.filter_sublist;refine⟨⟨by rw[Aq];exact ha,λx hx=>?_,(sub.map _).nodup G.nk,(sub.map _).nodup G.na⟩,kp _ _ (G.kid _ hp) (nap _ hp),λz=>?_⟩
 .have hx':=(Jj.mp hx).1;exact kp _ _ (G.kid x hx') (nap x hx')
 .rcases z with z|⟨x,hx,z⟩
  .exact nap _ hp z
  .obtain⟨h1,h2⟩:=Jj.mp hx;have hne:x.1≠k:=Ji h2;obtain⟨i,hi⟩:=IC.mp h1;obtain⟨j,hj⟩:=IC.mp hp;have e1:(xs.map (·.2.1))[i]?=some p.1:=by rw[IH,hi];exact JF some z.symm
   have e2:(xs.map (·.2.1))[j]?=some p.1:=by rw[IH,hj];rfl
   have:i=j:=(Mv (Iz.mp e1).1 G.na).mp (e1.trans e2.symm);subst this;rw[hi]at hj;exact hne (by rw[IM hj])
end
end L4
namespace L4
open PySem PySem.Spec PySem.Calls PyProof.Rows L2 L3
section
variable {X:Cx}
noncomputable abbrev tG (v d:Addr):HO:=.ext λh=>PySem.W.KdlKeysView h v d
noncomputable def Dg:V->List V->Hp->VK->Prop:=λx xs H Q=>∃ a kvs,x=.ref a/\xs=[]/\H a=some (.dK kvs)/\∀ v,H v=none->Q (.ref v) (aG H v (tG v a))
theorem Cc:D8 X "dict.keys" Dg:=by intro pins s σ H x xs v us Q I rx rs q;obtain⟨a,kvs,rfl,rfl,ha,q⟩:=q;obtain rfl:v=Value.ref a:=rx;cases rs;obtain⟨z,hd,vs,rel,dd⟩:=vS I.hok ha;refine KM PySem.F.slot_dict_keys dd.typeIs PySem.F.entry_dict_keys (PySem.F.args_dict_keys_1 _) (PySem.W.kdl_meets_keys (aB X.prog X.w) a hd) ?_;have hv:PySem.W.KdlKeysView (s.heap.push { cls:=.type "dict_keys",data:=.fields #[.ref a] }) s.heap.objs.size a:=⟨_,Iv _ rfl,rfl,rfl⟩;exact⟨⟨vs,dd⟩,.ref s.heap.objs.size,_,I.laid (a:=s.heap.objs.size) (o:=tG s.heap.objs.size a) (t':=s.toks) (λ_ _ e=>Ie _ e) (Ih _) ⟨hv,⟨_,Iv _ rfl⟩,λh1 h2 ⟨o,ho,r⟩ k=>⟨o,k _ ho,r⟩⟩,rfl,q _ (I.hok.fresh (Ih _))⟩
noncomputable def Dh:List V->Hp->VK->Prop:=λxs H Q=>∃(v a:Addr)(kvs:List (Key×V))(ns:List Int),xs=[.ref v]/\H v=some (tG v a)/\H a=some (.dK kvs)/\kvs.map (·.1)=ns.map Sum.inl/\ns≠[]/\Q (.int (rg ns)) H
theorem yo (hc:X.calm=true):CallR X (.builtin "min") Dh:=by
 intro pins s σ H xs us Q I r q;obtain⟨v,a,kvs,ns,rfl,hv,ha,hk,hne,q⟩:=q;obtain⟨u,rfl,ru⟩:=fQ r;obtain rfl:u=Value.ref v:=ru;obtain⟨z,hd,vs,rel,dd⟩:=vS I.hok ha;obtain⟨hv',_,_⟩:=(show ObjOk X.prog X.w H s.heap v (tG v a) from I.hok v _ hv);obtain⟨ep,da⟩:=dd.dictAt;have hl:=rel.length;have hkn:kvs.length=ns.length:=by have:=JF List.length hk;simpa using this
 have hvk:∀(i:Nat)(k:Key)(x:MK),vs[i]?=some (k,x)->∃ n,ns[i]?=some n/\k=.inl n:=λi k x e=>by
  have hi:i<kvs.length:=by rw[hl];exact(Iz.mp e).1
  obtain⟨e1,_⟩:=rel.at i _ _ (Jd hi) e;have e2:(kvs.map (·.1))[i]?=some k:=by rw[IH,Jd hi];exact JF some e1
  rw[hk,IH]at e2;obtain⟨n,h1,h2⟩:=JO.mp e2;exact⟨n,h1,h2.symm⟩
 generalize hps:(ns.map λn=>(n,(0:Tok))).toArray=ps;have hsz:ps.size=ns.length:=by rw[<- hps];simp
 have hna:∀(i:Nat)(n:Int),ns[i]?=some n->numAt ps i=n:=λi n e=>by unfold numAt;rw[<- hps];simp[e]
 have hpn:ps.toList.map (·.1)=ns:=by rw[<- hps];simp[Function.comp_def]
 have hpos:0<ns.length:=Mi.mpr hne;have hne2:a≠s.heap.objs.size:=by obtain⟨o,_,_,ho,_⟩:=dd;exact II (Iy ho)
 refine call_min_walk (PySem.W.kdl_pyIter_keys (knd:=aB X.prog X.w) (s:=s) hv' da ?_);refine⟨_,_,_,_,_,_,_,rfl,Walks.dictKeys (knd:=aB X.prog X.w) (A:=X.A.in1) (I.ok.hd hc) s.heap.objs.size a hne2 vs ep,⟨⟨_,Iv _ rfl,rfl,rfl⟩,da.at' λo e=>Ie _ e⟩,λb hb=>?_,by lia,CmpOf.ints_lt (numAt ps) (λi v hv=>?_),λv h' tk hP kp=>?_⟩
 .simp only[Ip,IB,MG]at hb;rw[KW];rcases hb with rfl|rfl
  .exact KQ _
  .obtain⟨o,_,_,ho,_⟩:=dd;exact Lb (Iy ho)
 .obtain⟨k,x,e1,e2⟩:=hv;obtain⟨n,e3,rfl⟩:=hvk i k x e1;obtain⟨j,t,e4,rfl⟩|⟨j,t,e4,_⟩:=aW (show ko (.inl n) v=true from e2)
  .cases e4;exact⟨t,by rw[hna i n e3]⟩
  .cases e4
 .obtain⟨k,x,e1,e2⟩:=hP;obtain⟨n,e3,rfl⟩:=hvk _ k x e1;obtain⟨j,t,e4,rfl⟩|⟨j,t,e4,_⟩:=aW (show ko (.inl n) v=true from e2)
  .cases e4;have hb:=nC ps (vs.length-1) (by lia);rw[hna _ n e3,hpn,Jo (by lia)]at hb;exact⟨.int n,H,I.kept (t':=tk) λb o e=>kp b o (λhm=>by rw[IE]at hm;subst hm;exact K9 _ (Iy e)) (Ie _ e),⟨t,rfl⟩,by rw[hb];exact q⟩
  .cases e4
end
end L4
namespace L4
open PySem PySem.Spec PyProof.Rows L2 L3
inductive All2 {α β:Type} (R:α->β->Prop):List α->List β->Prop where
 |nil:All2 R [] []
 |cons {x y xs ys}:R x y->All2 R xs ys->All2 R (x::xs) (y::ys)
section
variable {α β:Type}{R R':α->β->Prop}{xs:List α}{ys:List β}
theorem All2.len (h:All2 R xs ys):xs.length=ys.length:=by
 induction h with
 |nil=>rfl
 |cons _ _ ih=>rw[Iw,Iw,ih]
theorem All2.mono (f:∀ x y,R x y->R' x y)(h:All2 R xs ys):All2 R' xs ys:=by
 induction h with
 |nil=>exact .nil
 |cons a _ ih=>exact .cons (f _ _ a) ih
theorem All2.snoc (h:All2 R xs ys)(r:R x y):All2 R (xs++[x]) (ys++[y]):=by
 induction h with
 |nil=>exact .cons r .nil
 |cons a _ ih=>exact .cons a ih
theorem All2.get (h:All2 R xs ys){i:Nat}(e:ys[i]?=some y):∃ x,xs[i]?=some x/\R x y:=by
 induction h generalizing i with
 |nil=>simp at e
 |cons a _ ih=>
  cases i with
  |zero=>simp at e;subst e;exact⟨_,rfl,a⟩
  |succ i=>simp at e;obtain⟨x,e1,e2⟩:=ih e;exact⟨x,by simpa using e1,e2⟩
theorem All2.map2 {γ δ:Type}{T:γ->δ->Prop}(f:α->γ)(g:β->δ)(k:∀ x y,R x y->T (f x) (g y))(h:All2 R xs ys):All2 T (xs.map f) (ys.map g):=by
 induction h with
 |nil=>exact .nil
 |cons a _ ih=>exact .cons (k _ _ a) ih
end
def KT (H H':Hp):Prop:=∀ a ws,H a=some (.tup ws)->H' a=some (.tup ws)
section
variable {κ κ' α:Type}[DecidableEq κ][DecidableEq κ'](key:κ->κ')(it:Hp->α->V->Prop)
abbrev RepM (H:Hp)(d:Pz.MD κ α)(xs:DX κ'):Prop:=All2 (λx y=>y.1=key x.1/\All2 (it H) x.2 y.2.2) d xs
variable {key it}{H H':Hp}{d:Pz.MD κ α}{xs:DX κ'}
theorem RepM.keep (hm:∀ a v,it H a v->it H' a v)(h:RepM key it H d xs):RepM key it H' d xs:=h.mono λ_ _ ⟨e,a⟩=>⟨e,a.mono hm⟩
theorem RepM.find (inj:∀ a b,key a=key b->a=b)(h:RepM key it H d xs)(k:κ) :
 (d6 xs (key k)=none/\d.has k=false/\d.get k=[])\/∃ p,d6 xs (key k)=some p/\d.has k=true/\All2 (it H) (d.get k) p.2:=by
 induction h with
 |nil=>exact .inl ⟨rfl,rfl,rfl⟩
 | @cons x y d xs r _ ih=>
  unfold d6 at ih ⊢;unfold Pz.MD.has at ih ⊢;rw[J1,Pz.be,Kh];by_cases e:x.1=k
  .right;have:y.1=key k:=by rw[r.1,e]
   rw[IA this,IA e,Il e];exact⟨y.2,rfl,rfl,r.2⟩
  .have:¬ y.1=key k:=λz=>e (inj _ _ (r.1.symm.trans z));rw[IJ this,IJ e,Ij e,Mw];exact ih
theorem RepM.add (inj:∀ a b,key a=key b->a=b)(hm:∀ a v,it H a v->it H' a v)(h:RepM key it H d xs)(hv:it H' v (.ref p)):RepM key it H' (d.app k v) (i6 xs (key k) l (.ref p)):=by
 have h':=h.keep hm;unfold Pz.MD.app i6;rcases h.find inj k with⟨e1,e2,_⟩|⟨q,e1,e2,_⟩
 .rw[e1,e2];exact h'.snoc ⟨rfl,.cons hv .nil⟩
 .rw[e1,e2];refine h'.map2 _ _ λx y ⟨r1,r2⟩=>?_;by_cases e:x.1=k
  .have:y.1=key k:=by rw[r1,e]
   rw[Il e,Il this];exact⟨r1,r2.snoc hv⟩
  .have:¬ y.1=key k:=λz=>e (inj _ _ (r1.symm.trans z));rw[Ij e,Ij this];exact⟨r1,r2⟩
theorem RepM.drop (inj:∀ a b,key a=key b->a=b)(h:RepM key it H d xs)(k:κ):RepM key it H (d.drop k) (iC xs (key k)):=by
 induction h with
 |nil=>exact .nil
 | @cons x y d xs r _ ih=>
  unfold Pz.MD.drop iC at ih ⊢;by_cases e:x.1=k
  .have:y.1=key k:=by rw[r.1,e]
   rw[Ls (by simpa using e),Ls (by simpa using this)];exact ih
  .have:¬ y.1=key k:=λz=>e (inj _ _ (r.1.symm.trans z));rw[Lu (by simpa using e),Lu (by simpa using this)];exact .cons r ih
theorem RepM.keys (h:RepM key it H d xs):xs.map (·.1)=d.keys.map key:=by
 induction h with
 |nil=>rfl
 |cons r _ ih=>rw[Im,Pz.MD.keys,Im,Im,r.1];exact JF _ ih
theorem RepM.low (h:RepM key it H d xs)(hn:d.flat.length<n):∀ x∈xs,x.2.2.length<n:=by
 induction h with
 |nil=>exact λ_ h=>(IB h).elim
 | @cons x y d xs r _ ih=>
  unfold Pz.MD.flat at hn ih;rw[Kg,ID]at hn;intro z hz;rcases Ip.mp hz with rfl|hz
  .have:=r.2.len;lia
  .exact ih (by lia) z hz
end
noncomputable def vO:Option Int->V
 |none=>.non
 |some i=>.int i
noncomputable def arrV (a:Pz.Arr):List V:=[.int a.1,.int a.2.1,.int a.2.2]
def IsArr (H:Hp)(a:Pz.Arr)(v:V):Prop:=∃ p,v=.ref p/\H p=some (.tup (arrV a))
def IsRule (H:Hp)(r:Pz.Rule)(v:V):Prop:=∃ p q,v=.ref p/\H p=some (.tup [.int r.1,.int r.2.1,.int r.2.2.1,.ref q])/\H q=some (.tup (r.2.2.2.map .int))
def IsVal (H:Hp)(x:Pz.Val)(v:V):Prop:=∃ p,v=.ref p/\H p=some (.tup [.int x.1,vO x.2.1,vO x.2.2])
def IsItem (H:Hp)(x:Int×Pz.Arr)(v:V):Prop:=∃ p w,v=.ref p/\H p=some (.tup [.int x.1,w])/\IsArr H x.2 w
def IsSet (H:Hp)(x:Int×Int)(v:V):Prop:=∃ p,v=.ref p/\H p=some (.tup [.int x.1,.int x.2])
def IsLack (H:Hp)(x:Int×Pz.Rule×Int)(v:V):Prop:=∃ p w,v=.ref p/\H p=some (.tup [.int x.1,w,.int x.2.2])/\IsRule H x.2.1 w
def IsNum (H:Hp)(x:Int×Pz.Rule)(v:V):Prop:=∃ p w,v=.ref p/\H p=some (.tup [.int x.1,w])/\IsRule H x.2 w
section
variable {H H':Hp}(k:KT H H')
include k
theorem IsArr.keep (a:Pz.Arr)(v:V):IsArr H a v->IsArr H' a v:=λ⟨p,e,h⟩=>⟨p,e,k _ _ h⟩
theorem IsRule.keep (a:Pz.Rule)(v:V):IsRule H a v->IsRule H' a v:=λ⟨p,q,e,h,g⟩=>⟨p,q,e,k _ _ h,k _ _ g⟩
theorem IsVal.keep (a:Pz.Val)(v:V):IsVal H a v->IsVal H' a v:=λ⟨p,e,h⟩=>⟨p,e,k _ _ h⟩
theorem IsItem.keep (a:Int×Pz.Arr)(v:V):IsItem H a v->IsItem H' a v:=λ⟨p,w,e,h,g⟩=>⟨p,w,e,k _ _ h,IsArr.keep k _ _ g⟩
theorem IsSet.keep (a:Int×Int)(v:V):IsSet H a v->IsSet H' a v:=λ⟨p,e,h⟩=>⟨p,e,k _ _ h⟩
theorem IsLack.keep (a:Int×Pz.Rule×Int)(v:V):IsLack H a v->IsLack H' a v:=λ⟨p,w,e,h,g⟩=>⟨p,w,e,k _ _ h,IsRule.keep k _ _ g⟩
theorem IsNum.keep (a:Int×Pz.Rule)(v:V):IsNum H a v->IsNum H' a v:=λ⟨p,w,e,h,g⟩=>⟨p,w,e,k _ _ h,IsRule.keep k _ _ g⟩
end
noncomputable def ak (a:Pz.Arr):List Key:=[.inl a.1,.inl a.2.1,.inl a.2.2]
theorem oe (a b:Pz.Arr)(h:ak a=ak b):a=b:=by unfold ak at h;simp only[List.cons.injEq,Sum.inl.injEq,and_true]at h;exact La h.1 (La h.2.1 h.2.2)
noncomputable def k2 (k:Int×Int):List Key:=[.inl k.1,.inl k.2]
theorem lE (a b:Int×Int)(h:k2 a=k2 b):a=b:=by unfold k2 at h;simp only[List.cons.injEq,Sum.inl.injEq,and_true]at h;exact La h.1 h.2
noncomputable def k1 (i:Int):Key:=.inl i
theorem iD (a b:Int)(h:k1 a=k1 b):a=b:=Mb h
abbrev RepT (H:Hp)(t:Pz.TD)(kt:List (List Key×V)):Prop:=All2 (λx y=>y.1=ak x.1/\IsVal H x.2 y.2) t kt
theorem RepT.keep (k:KT H H')(h:RepT H t kt):RepT H' t kt:=h.mono λ_ _ ⟨e,a⟩=>⟨e,IsVal.keep k _ _ a⟩
theorem RepT.find (h:RepT H t kt)(a:Pz.Arr) :
 (cg kt (ak a)=none/\Pz.tget t a=none)\/∃ v x,cg kt (ak a)=some v/\Pz.tget t a=some x/\IsVal H x v:=by
 induction h with
 |nil=>exact .inl ⟨rfl,rfl⟩
 | @cons x y t kt r _ ih=>
  rw[Pz.bx];by_cases e:x.1=a
  .have:y.1=ak a:=by rw[r.1,e]
   rw[Il e,dN this];exact .inr ⟨_,_,rfl,rfl,r.2⟩
  .have:¬ y.1=ak a:=λz=>e (oe _ _ (r.1.symm.trans z));rw[Ij e,dP this];exact ih
theorem RepT.put (h:RepT H t kt)(hv:IsVal H x v):RepT H (Pz.tput t a x) (ci kt (ak a) v):=by
 unfold Pz.tput ci;rw[ic];rcases h.find a with⟨e1,e2⟩|⟨w,y,e1,e2,_⟩
 .rw[e1,e2];exact h.snoc ⟨rfl,hv⟩
 .rw[e1,e2];refine h.map2 _ _ λz y ⟨r1,r2⟩=>?_;by_cases e:z.1=a
  .have:y.1=ak a:=by rw[r1,e]
   rw[Il e,Il this];exact⟨r1,hv⟩
  .have:¬ y.1=ak a:=λq=>e (oe _ _ (r1.symm.trans q));rw[Ij e,Ij this];exact⟨r1,r2⟩
theorem gk {κ:Type}[DecidableEq κ]{xs:DX κ}{k:κ}{l a c:Addr}{v:V}(h:InD a (i6 xs k l v) c):InD a xs c\/c=l:=by
 rcases h with h|⟨x,hx,h⟩
 .exact .inl (.inl h)
 .unfold i6 at hx;split at hx
  .obtain⟨y,hy,rfl⟩:=Ir.mp hx;refine .inl (.inr ⟨y,hy,?_⟩);rw[h];split<;>rfl
  .rcases IG.mp hx with hx|hx
   .exact .inl (.inr ⟨x,hx,h⟩)
   .rw[IE]at hx;subst hx;exact .inr h
section
variable {κ κ' α:Type}[DecidableEq κ][DecidableEq κ'](mk:List (κ'×V)->HO)(key:κ->κ')(it:Hp->α->V->Prop)
structure PM (col:Addr->Nat) (j:Nat) (B H:Hp) (a:Addr) (dd:Pz.MD κ α) (xs:DX κ'):Prop where
 d:DL mk H a xs
 r:RepM key it H dd xs
 c:∀ c,InD a xs c->col c=j/\B c=none
variable {mk key it}{col col':Addr->Nat}{j:Nat}{B B' H H':Hp}{a:Addr}{d:Pz.MD κ α}{xs:DX κ'}
theorem DL.obj (h:DL mk H a xs)(hc:InD a xs c):H c≠none:=by
 rcases hc with rfl|⟨x,hx,rfl⟩
 .rw[h.root];simp
 .rw[h.kid x hx];simp
theorem DL.keep (h:DL mk H a xs)(kp:∀ c u,H c=some u->InD a xs c->H' c=some u):DL mk H' a xs:=⟨kp _ _ h.root (.inl rfl),λx hx=>kp _ _ (h.kid x hx) (.inr ⟨x,hx,rfl⟩),h.nk,h.na⟩
theorem PM.keep (h:PM mk key it col j B H a d xs)(hit:∀ x v,it H x v->it H' x v)(kp:∀ c u,H c=some u->col c=j->H' c=some u)(hc:∀ c,H c≠none->col' c=col c):PM mk key it col' j B H' a d xs:=⟨h.d.keep λc u e i=>kp c u e (h.c c i).1,h.r.keep hit,λc i=>⟨by rw[hc c (h.d.obj i)];exact(h.c c i).1,(h.c c i).2⟩⟩
theorem DL.kt (hmk:∀ q ws,mk q≠.tup ws)(h:DL mk H a xs)(kp:∀ c u,H c=some u->¬ InD a xs c->H' c=some u):KT H H':=λc ws e=>kp c _ e λi=>by
 rcases i with rfl|⟨x,hx,rfl⟩
 .rw[h.root]at e;exact hmk _ _ (IM e)
 .rw[h.kid x hx]at e;cases e
noncomputable def rO (col:Addr->Nat)(j:Nat)(H:Hp):Addr->Nat:=λc=>open Classical in if H c=none then j else col c
theorem aS (hc:H a≠none):rO col j H a=col a:=by unfold rO;rw[Ij hc]
theorem Ar (hc:H a=none):rO col j H a=j:=by unfold rO;rw[Il hc]
theorem PM.new (h:PM mk key it col j B H a d xs)(sm:Same B H)(h1:DL mk H' a xs')(h2:RepM key it H' d' xs')(hn:∀ c,InD a xs' c->InD a xs c\/H c=none):PM mk key it (rO col j H) j B H' a d' xs':=
 ⟨h1,h2,λc i=>by
   rcases hn c i with i|e
   .rw[aS (h.d.obj i)];exact h.c c i
   .exact⟨Ar e,sm.free e⟩⟩
theorem PM.base (h:PM mk key it col j B H a d xs)(hb:∀ c,InD a xs c->B' c=none):PM mk key it col j B' H a d xs:=⟨h.d,h.r,λc i=>⟨(h.c c i).1,hb c i⟩⟩
end
structure PA where
 o:Addr
 ta:Addr
 aq:Addr
 ap:Addr
 sa:Addr
 la:Addr
 ar:Addr
noncomputable def pf (A:PA):List (Str×V):=[("rules",.ref A.ar),("told",.ref A.ta),("offers",.ref A.aq),("settled",.ref A.sa),("lacking",.ref A.la)]
noncomputable abbrev qf (A:PA) (last:Int):List (Str×V):=[("last",.int last),("piles",.ref A.ap)]
structure PO (CP CQ:Addr) (col:Addr->Nat) (B H:Hp) (A:PA) (last:Int) (t:Pz.TD) (kt:List (List Key×V)):Prop where
 ins:∃ dx,H A.o=some (.ins CP dx (pf A))
 que:∃ dx,H A.aq=some (.ins CQ dx (qf A last))
 td:H A.ta=some (.dT kt)
 tr:RepT H t kt
 c5:col A.ta=5/\B A.ta=none
 c6:col A.o=6/\B A.o=none
 c7:col A.aq=7/\B A.aq=none
structure PCore (CP CQ:Addr) (B H:Hp) (A:PA) (rs:Pz.RS) (S:Pz.PS) (xs xl xr:DX (List Key)) (xp:DX Key) (kt:List (List Key×V)) (col:Addr->Nat):Prop where
 same:Same B H
 p1:PM .dK k1 IsItem col 1 B H A.ap S.piles xp
 p2:PM .dT k2 IsSet col 2 B H A.sa S.settled xs
 p3:PM .dT k2 IsLack col 3 B H A.la S.lacking xl
 p4:PM .dT k2 IsNum col 4 B H A.ar rs xr
 po:PO CP CQ col B H A S.last S.told kt
def PAt (CP CQ:Addr)(B H:Hp)(A:PA)(rs:Pz.RS)(S:Pz.PS)(xs xl xr:DX (List Key)):Prop:=∃ xp kt col,PCore CP CQ B H A rs S xs xl xr xp kt col
section
variable {CP CQ:Addr}{B B' H H':Hp}{A:PA}{rs:Pz.RS}{S:Pz.PS}{xs xl xr:DX (List Key)}{xp:DX Key}{kt:List (List Key×V)}{col:Addr->Nat}
theorem PO.keep (h:PO CP CQ col B H A last t kt)(k:KT H H')(kp:∀ c u,H c=some u->5<=col c->col c<=7->H' c=some u)(hc:∀ c,H c≠none->col' c=col c):PO CP CQ col' B H' A last t kt:=by
 obtain⟨⟨dx,h1⟩,⟨dy,h2⟩,h3,h4,c5,c6,c7⟩:=h;refine⟨⟨dx,kp _ _ h1 (by lia) (by lia)⟩,⟨dy,kp _ _ h2 (by lia) (by lia)⟩,kp _ _ h3 (by lia) (by lia),h4.keep k,?_,?_,?_⟩
 .rw[hc _ (by rw[h3];simp)];exact c5
 .rw[hc _ (by rw[h1];simp)];exact c6
 .rw[hc _ (by rw[h2];simp)];exact c7
theorem PCore.pile (h:PCore CP CQ B H A rs S xs xl xr xp kt col)(h1:DL .dK H' A.ap xp')(h2:RepM k1 IsItem H' d' xp')(hn:∀ c,InD A.ap xp' c->InD A.ap xp c\/H c=none)
 (kp:∀ c u,H c=some u->¬ InD A.ap xp c->H' c=some u):PCore CP CQ B H' A rs { S with piles:=d' } xs xl xr xp' kt (rO col 1 H):=by
 have k:KT H H':=h.p1.d.kt (λ_ _ z=>HO.noConfusion z) kp;have kj:∀ c u,H c=some u->col c≠1->H' c=some u:=λc u e n=>kp c u e λi=>n (h.p1.c c i).1;exact⟨(λc u e=>kp c u (h.same c u e) λi=>by rw[(h.p1.c c i).2]at e;cases e),h.p1.new h.same h1 h2 hn,h.p2.keep (IsSet.keep k) (λc u e z=>kj c u e (by lia)) λc=>aS,h.p3.keep (IsLack.keep k) (λc u e z=>kj c u e (by lia)) λc=>aS,h.p4.keep (IsNum.keep k) (λc u e z=>kj c u e (by lia)) λc=>aS,h.po.keep k (λc u e z _=>kj c u e (by lia)) λc=>aS⟩
theorem PCore.sett (h:PCore CP CQ B H A rs S xs xl xr xp kt col)(h1:DL .dT H' A.sa xs')(h2:RepM k2 IsSet H' d' xs')(hn:∀ c,InD A.sa xs' c->InD A.sa xs c\/H c=none)
 (kp:∀ c u,H c=some u->¬ InD A.sa xs c->H' c=some u):PCore CP CQ B H' A rs { S with settled:=d' } xs' xl xr xp kt (rO col 2 H):=by
 have k:KT H H':=h.p2.d.kt (λ_ _ z=>HO.noConfusion z) kp;have kj:∀ c u,H c=some u->col c≠2->H' c=some u:=λc u e n=>kp c u e λi=>n (h.p2.c c i).1;exact⟨(λc u e=>kp c u (h.same c u e) λi=>by rw[(h.p2.c c i).2]at e;cases e),h.p1.keep (IsItem.keep k) (λc u e z=>kj c u e (by lia)) λc=>aS,h.p2.new h.same h1 h2 hn,h.p3.keep (IsLack.keep k) (λc u e z=>kj c u e (by lia)) λc=>aS,h.p4.keep (IsNum.keep k) (λc u e z=>kj c u e (by lia)) λc=>aS,h.po.keep k (λc u e z _=>kj c u e (by lia)) λc=>aS⟩
theorem PCore.lack (h:PCore CP CQ B H A rs S xs xl xr xp kt col)(h1:DL .dT H' A.la xl')(h2:RepM k2 IsLack H' d' xl')(hn:∀ c,InD A.la xl' c->InD A.la xl c\/H c=none)
 (kp:∀ c u,H c=some u->¬ InD A.la xl c->H' c=some u):PCore CP CQ B H' A rs { S with lacking:=d' } xs xl' xr xp kt (rO col 3 H):=by
 have k:KT H H':=h.p3.d.kt (λ_ _ z=>HO.noConfusion z) kp;have kj:∀ c u,H c=some u->col c≠3->H' c=some u:=λc u e n=>kp c u e λi=>n (h.p3.c c i).1;exact⟨(λc u e=>kp c u (h.same c u e) λi=>by rw[(h.p3.c c i).2]at e;cases e),h.p1.keep (IsItem.keep k) (λc u e z=>kj c u e (by lia)) λc=>aS,h.p2.keep (IsSet.keep k) (λc u e z=>kj c u e (by lia)) λc=>aS,h.p3.new h.same h1 h2 hn,h.p4.keep (IsNum.keep k) (λc u e z=>kj c u e (by lia)) λc=>aS,h.po.keep k (λc u e z _=>kj c u e (by lia)) λc=>aS⟩
theorem PCore.more (h:PCore CP CQ B H A rs S xs xl xr xp kt col)(s:Same H H'):PCore CP CQ B H' A rs S xs xl xr xp kt col:=by have k:KT H H':=λa ws e=>s a _ e;exact⟨h.same.trans s,h.p1.keep (IsItem.keep k) (λc u e _=>s c u e) λ_ _=>rfl,h.p2.keep (IsSet.keep k) (λc u e _=>s c u e) λ_ _=>rfl,h.p3.keep (IsLack.keep k) (λc u e _=>s c u e) λ_ _=>rfl,h.p4.keep (IsNum.keep k) (λc u e _=>s c u e) λ_ _=>rfl,h.po.keep k (λc u e _ _=>s c u e) λ_ _=>rfl⟩
theorem PAt.more (h:PAt CP CQ B H A rs S xs xl xr)(s:Same H H'):PAt CP CQ B H' A rs S xs xl xr:=let ⟨xp,kt,col,h⟩:=h;⟨xp,kt,col,h.more s⟩
theorem PCore.tell (h:PCore CP CQ B H A rs S xs xl xr xp kt col)(hp:H p=some (.tup [.int x.1,vO x.2.1,vO x.2.2])) :
 PCore CP CQ B (aG H A.ta (.dT (ci kt (ak a) (.ref p)))) A rs { S with told:=Pz.tput S.told a x } xs xl xr xp (ci kt (ak a) (.ref p)) col:=by
 have kp:∀ c u,H c=some u->col c≠5->aG H A.ta (.dT (ci kt (ak a) (.ref p))) c=some u:=λc u e n=>by rw[ac (λz=>n (by rw[z];exact h.po.c5.1))];exact e
 have k:KT H (aG H A.ta (.dT (ci kt (ak a) (.ref p)))):=λc ws e=>by rw[ac (λz=>by rw[z,h.po.td]at e;cases e)];exact e
 obtain⟨⟨dx,h1⟩,⟨dy,h2⟩,h3,h4,c5,c6,c7⟩:=h.po;refine⟨λc u e=>?_,h.p1.keep (IsItem.keep k) (λc u e z=>kp c u e (by lia)) λ_ _=>rfl,h.p2.keep (IsSet.keep k) (λc u e z=>kp c u e (by lia)) λ_ _=>rfl,h.p3.keep (IsLack.keep k) (λc u e z=>kp c u e (by lia)) λ_ _=>rfl,h.p4.keep (IsNum.keep k) (λc u e z=>kp c u e (by lia)) λ_ _=>rfl,⟨dx,kp _ _ h1 (by lia)⟩,⟨dy,kp _ _ h2 (by lia)⟩,af,(h4.keep k).put ⟨p,rfl,k _ _ hp⟩,c5,c6,c7⟩;rw[ac (λz=>by rw[z,c5.2]at e;cases e)];exact h.same c u e
theorem PCore.wide (h:PCore CP CQ B H A rs S xs xl xr xp kt col)(Z:Addr->Prop)(hz:∀ c,Z c->¬ InD A.ap xp c/\¬ InD A.sa xs c/\¬ InD A.la xl c/\¬ InD A.ar xr c/\c≠A.ta/\c≠A.o/\c≠A.aq) :
 ∃ B',Same B B'/\KT H B'/\(∀ c u,Z c->H c=some u->B' c=some u)/\PCore CP CQ B' H A rs S xs xl xr xp kt col:=by
 classical
 refine⟨λc=>if B c≠none\/Z c\/∃ ws,H c=some (.tup ws) then H c else none,λc u e=>?_,λc ws e=>?_,λc u z e=>?_,λc u e=>?_,h.p1.base λc i=>?_,h.p2.base λc i=>?_,h.p3.base λc i=>?_,h.p4.base λc i=>?_,h.po.ins,h.po.que,h.po.td,h.po.tr,⟨h.po.c5.1,?_⟩,⟨h.po.c6.1,?_⟩,⟨h.po.c7.1,?_⟩⟩
 .dsimp only;rw[Il (.inl (by rw[e];simp))];exact h.same c u e
 .dsimp only;rw[Il (.inr (.inr ⟨ws,e⟩))];exact e
 .dsimp only;rw[Il (.inr (.inl z))];exact e
 .split at e
  .exact e
  .cases e
 all_goals
  refine Ij λq=>?_
 .rcases q with q|q|⟨ws,q⟩
  .exact q (h.p1.c c i).2
  .exact(hz c q).1 i
  .rcases i with rfl|⟨x,hx,rfl⟩
   .rw[h.p1.d.root]at q;cases q
   .rw[h.p1.d.kid x hx]at q;cases q
 .rcases q with q|q|⟨ws,q⟩
  .exact q (h.p2.c c i).2
  .exact(hz c q).2.1 i
  .rcases i with rfl|⟨x,hx,rfl⟩
   .rw[h.p2.d.root]at q;cases q
   .rw[h.p2.d.kid x hx]at q;cases q
 .rcases q with q|q|⟨ws,q⟩
  .exact q (h.p3.c c i).2
  .exact(hz c q).2.2.1 i
  .rcases i with rfl|⟨x,hx,rfl⟩
   .rw[h.p3.d.root]at q;cases q
   .rw[h.p3.d.kid x hx]at q;cases q
 .rcases q with q|q|⟨ws,q⟩
  .exact q (h.p4.c c i).2
  .exact(hz c q).2.2.2.1 i
  .rcases i with rfl|⟨x,hx,rfl⟩
   .rw[h.p4.d.root]at q;cases q
   .rw[h.p4.d.kid x hx]at q;cases q
 .rcases q with q|q|⟨ws,q⟩
  .exact q h.po.c5.2
  .exact(hz _ q).2.2.2.2.1 rfl
  .rw[h.po.td]at q;cases q
 .rcases q with q|q|⟨ws,q⟩
  .exact q h.po.c6.2
  .exact(hz _ q).2.2.2.2.2.1 rfl
  .obtain⟨dx,e⟩:=h.po.ins;rw[e]at q;cases q
 .rcases q with q|q|⟨ws,q⟩
  .exact q h.po.c7.2
  .exact(hz _ q).2.2.2.2.2.2 rfl
  .obtain⟨dx,e⟩:=h.po.que;rw[e]at q;cases q
theorem PAt.less (h:PAt CP CQ B' H A rs S xs xl xr)(s:Same B B'):PAt CP CQ B H A rs S xs xl xr:=by obtain⟨xp,kt,col,h⟩:=h;refine⟨xp,kt,col,s.trans h.same,h.p1.base λc i=>s.free (h.p1.c c i).2,h.p2.base λc i=>s.free (h.p2.c c i).2,h.p3.base λc i=>s.free (h.p3.c c i).2,h.p4.base λc i=>s.free (h.p4.c c i).2,h.po.ins,h.po.que,h.po.td,h.po.tr,⟨h.po.c5.1,s.free h.po.c5.2⟩,⟨h.po.c6.1,s.free h.po.c6.2⟩,⟨h.po.c7.1,s.free h.po.c7.2⟩⟩
theorem PAt.same (h:PAt CP CQ B H A rs S xs xl xr):Same B H:=let ⟨_,_,_,h⟩:=h;h.same
end
theorem Cd (x y:Nat):Builtin.bitXor (x:Int) (y:Int)=(((x ||| y)-(x &&& y):Nat):Int):=by
 have n1:∀ z:Nat,decide (0<=Builtin.bitNot (z:Int))=false:=λz=>IJ (by unfold Builtin.bitNot;lia);have n2:∀ z:Nat,(Builtin.bitNot (Builtin.bitNot (z:Int))).toNat=z:=λz=>by unfold Builtin.bitNot;lia
 have p1:∀ z:Nat,decide (0<=(z:Int))=true:=λz=>IA (by lia);have eA:Builtin.bitAnd (x:Int) (y:Int)=((x &&& y:Nat):Int):=by unfold Builtin.bitAnd;rw[p1,p1];rfl
 have eO:Builtin.bitOr (x:Int) (y:Int)=((x ||| y:Nat):Int):=by unfold Builtin.bitOr Builtin.bitAnd;rw[n1,n1];show Builtin.bitNot (Builtin.bitNot (((Builtin.bitNot (Builtin.bitNot (x:Int))).toNat ||| (Builtin.bitNot (Builtin.bitNot (y:Int))).toNat:Nat):Int))=_;rw[n2,n2];unfold Builtin.bitNot;lia
 unfold Builtin.bitXor;rw[eA,eO];have:x &&& y<=x ||| y:=IL Nat.and_le_left Nat.left_le_or;lia
theorem wx:Pz.Pile ao:=by
 have key:∀{p l:Int},0<=p->0<=l->∃ z:Nat,ao p l=(z:Int)/\∀ k:Nat,z<=k↔p / 2 ^ k=l / 2 ^ k:=by
  intro p l hp hl;obtain⟨x,rfl⟩:=J6 hp;obtain⟨y,rfl⟩:=J6 hl;refine⟨_,rfl,λk=>?_⟩;rw[Cd];unfold Builtin.Int.intBits;rw[Pz.B_,Pz.B9];have e:∀ z:Nat,(z:Int) / 2 ^ k=((z / 2 ^ k:Nat):Int):=λz=>by rw[Int.natCast_ediv];norm_cast
  rw[e,e];lia
 constructor
 .intro p l hp hl;obtain⟨z,e,_⟩:=key hp hl;rw[e];lia
 .intro p l hp hl k;obtain⟨z,e,h⟩:=key hp hl;rw[e,<- h k];lia
section
variable {K:MI}{C q ap:Addr}{H:Hp}{last:Int}{xp:DX Key}{σ:L2.St}
noncomputable def mH (C:Addr):Sp:=λvs H Q _=>∃(q dx:Addr),vs=[.ref q]/\H q=some (.ins C dx [])/\∀(d:Addr)(H':Hp),H d=none->H' q=some (.ins C dx [("last",.int 0),("piles",.ref d)])->H' d=some (.dK [])->(∀ b o,H b=some o->b≠q->H' b=some o)->Q .non H'
noncomputable def ET (K:MI):TS:=dc (qJ K (ay 0) (tC (.int 0)) "last") (qJ K (ay 0) zd "piles")
theorem tH (h:mH C vs H Q E):vs.length=1:=by obtain⟨q,dx,rfl,_⟩:=h;rfl
theorem vc (T:QCls K C)(h:mH C vs H Q E):ET K { nx:=λ_ H'=>Q .non H',rt:=Q } (bJ N vs) H:=by
 obtain⟨q,dx,rfl,hq,k⟩:=h;refine⟨_,rfl,q,C,dx,[],rfl,hq,T.cl,T.nl,(by show 0<1000;decide),?_⟩;intro d hd;have hdq:d≠q:=λe=>by rw[e,af]at hd;cases hd
 have hd0:H d=none:=by rw[ac hdq]at hd;exact hd
 refine⟨_,rfl,q,C,dx,_,rfl,(by rw[ac (Jn hdq),af]),T.cl,T.np,(by show 1<1000;decide),?_⟩;refine k d _ hd0 (by rw[af];rfl) (by rw[ac hdq,af]) λb o e hb=>?_;rw[ac hb,ac (ah e hd0),ac hb];exact e
noncomputable def mI (C:Addr):Sp:=λvs H Q _=>∃(q ap dx:Addr)(last:Int)(kvs:List (Key×V)),vs=[.ref q]/\H q=some (.ins C dx [("last",.int last),("piles",.ref ap)])/\H ap=some (.dK kvs)/\kvs.length<=sizeLine/\Q (.bl (decide (kvs.length=0))) H
noncomputable def Di:List V->Hp->VK->Prop:=λxs H Q=>∃(d:Addr)(kvs:List (Key×V))(u:HO),xs=[.ref d]/\(u=.dK kvs\/(u=.dT []/\kvs=[]))/\Rd H d u/\kvs.length<=sizeLine/\Q (.int kvs.length) H
theorem yp:CallR X (.builtin "len") Di:=yc
noncomputable def EU (K:MI):TS:=su (k9 FI (CO Di (av (dJ K (ay 0) "piles") ba)) (tC (.int 0)))
theorem tJ (h:mI C vs H Q E):vs.length=1:=by obtain⟨q,ap,dx,last,kvs,rfl,_⟩:=h;rfl
theorem vd (T:QCls K C)(h:mI C vs H Q E):EU K { nx:=λ_ H'=>Q .non H',rt:=Q } (bJ N vs) H:=by
 obtain⟨q,ap,dx,last,kvs,rfl,hq,ha,hl,k⟩:=h;refine⟨_,rfl,q,C,dx,_,_,rfl,hq,T.cl,T.np,rfl,ap,kvs,_,rfl,.inl rfl,.inl ha,hl,rfl,?_⟩;have:decide (V.int (kvs.length:Int)=V.int 0)=decide (kvs.length=0):=by apply decide_eq_decide.mpr;exact⟨λe=>by injection e with e;lia,λe=>by rw[e];rfl⟩
 rw[this];exact k
noncomputable def rP (C:Addr):Sp:=λvs H Q _=>∃(q ap:Addr)(last:Int)(xp:DX Key)(d:Pz.Q Pz.Arr),vs=[.ref q]/\QAt C H q ap last xp/\RepM k1 IsItem H d xp/\Pz.QOk ao last d/\d≠[]/\d.flat.length<16000000/\
 ∀(l:Addr)(vs':List V)(xp':DX Key)(H':Hp),QAt C H' q ap (Pz.lowP d) xp'->RepM k1 IsItem H' (Pz.left ao d) xp'->H' l=some (.lst vs')->All2 (IsItem H') (Pz.taken ao d) vs'->¬ InD ap xp' l->(InD ap xp l\/H l=none)->(∀ c,InD ap xp' c->InD ap xp c\/H c=none)->
  (∀ c u,H c=some u->¬ InD ap xp c->c≠q->H' c=some u)->Q (.ref l) H'
theorem ve (h:rP C vs H Q E):vs.length=1:=by obtain⟨q,ap,last,xp,d,rfl,_⟩:=h;rfl
noncomputable def Gh (K:MI)(C:Addr)(tm:TE):TS:=
 dc (mW (uD (dJ K (ay 0) "piles") (CO Dh (av (Eb K "dict" Dg (dJ K (ay 0) "piles")) ba))) (aZ 1))
 (dc (qJ K (ay 0) tm "last")
 (dc (l7 (ku K (ay 1)) (mV K 2 (b8 (aZ 2) (b8 (aZ 3) mU))) (cv (dL C "add" (qA C) [] E0 (ay 0) (av (ay 2) (av (ay 3) ba)))))
 (su (uD (dJ K (ay 0) "piles") (tC (.int 0))))))
def Gj (tm:TE):Prop:=∀(σ:L2.St)(H:Hp)(a:Addr)(vs:List V)(its:List (Int×Pz.Arr))(Q:VK),σ[1]?=some (some (.ref a))->H a=some (.lst vs)->All2 (IsItem H) its vs->its≠[]->its.length<16000000->(∀ H',Same H H'->Q (.int (Pz.lo (its.map (·.1)))) H')->tm σ H Q
theorem wy (l:List Int):rg l=Pz.lo l:=by cases l<;>rfl
theorem Ce {κ:Type}(xs:DX κ):xs.kv.map (·.1)=xs.map (·.1):=by unfold DX.kv;rw[Je];rfl
theorem QAt.ne (G:QAt C H q ap last xp)(i:InD ap xp c):c≠q:=λe=>by
 obtain⟨dx,hq⟩:=G.ins;rcases i with z|⟨x,hx,z⟩
 .have:=G.piles.root;rw[<- z,e,hq]at this;cases this
 .have:=G.piles.kid x hx;rw[<- z,e,hq]at this;cases this
end
section
variable {K:MI}{C q ap:Addr}{H:Hp}{last:Int}{xp:DX Key}
theorem tL (m:Int)(d:Pz.Q Pz.Arr)(l:List (Int×Pz.Arr))(x:Int×Pz.Arr):Pz.addAll ao m d (l++[x])=(Pz.addAll ao m d l).app (ao x.1 m) x:=by unfold Pz.addAll;rw[Kv];rfl
theorem iV (s:Same H H'):KT H H':=λa ws e=>s a _ e
theorem yq (T:QCls K C) (hna:∀(last:Int)(ap:Addr),List.lookup ("add" : Str) ([("last",V.int last),("piles",V.ref ap)]:List (Str×V))=none) (HM:Gj tm) (h:rP C vs H Q E) :
 Gh K C tm { nx:=λ_ H'=>Q .non H',rt:=Q } (bJ ["self", "pile", "price", "thing"] vs) H:=by
 obtain⟨q,ap,last,xp,d,rfl,G,R,ok,hne,hfew,k⟩:=h;have TK:=Pz.took wx ok hne;obtain⟨dx,hq⟩:=G.ins;have hap:=G.piles.root;have nqa:q≠ap:=λe=>by rw[e,hap]at hq;cases hq
 refine⟨_,rfl,q,C,dx,_,_,rfl,hq,T.cl,T.np,rfl,ap,rfl,.inl ⟨_,.inl hap⟩,_,rfl,q,C,dx,_,_,rfl,hq,T.cl,T.np,rfl,.inr (.inr (.inl ⟨rfl,.inl ⟨_,hap⟩⟩)),ap,_,rfl,rfl,hap,λv hv=>?_⟩;have hva:ap≠v:=ah hap hv;refine⟨v,ap,xp.kv,d.keys,rfl,af,(by rw[ac hva];exact hap),(by rw[Ce,R.keys];rfl),(by intro e;exact hne (List.map_eq_nil_iff.mp e)),?_⟩;rcases R.find iD (Pz.lowK d) with⟨_,_,e⟩|⟨p0,f0,_,a0⟩
 .exact(TK.k2 e).elim
 refine⟨xp.kv,k1 (Pz.lowK d),.ref p0.1,(by rw[ac hva];exact hap),(by rw[wy];rfl),(by rw[fO,f0];rfl),?_⟩;generalize hH2:aG (aG H v (tG v ap)) ap (.dK (i9 xp.kv (k1 (Pz.lowK d))))=H2;have kp2:∀ c u,H c=some u->c≠ap->H2 c=some u:=λc u e n=>by rw[<- hH2,ac n,ac (ah e hv)];exact e
 obtain⟨D2,l2,n2⟩:=G.piles.drop (λ_ _ z=>HO.noConfusion z) f0 (by rw[<- hH2,af]) kp2;have kt2:KT H H2:=λc ws e=>kp2 c _ e λz=>by rw[z,hap]at e;cases e
 have q2:=kp2 _ _ hq nqa;have i0:=a0.mono (IsItem.keep kt2);have hsub:∀ c,InD ap (iC xp (k1 (Pz.lowK d))) c->InD ap xp c:=λc i=>i.imp id λ⟨x,hx,e⟩=>⟨x,(Jj.mp hx).1,e⟩;have in0:InD ap xp p0.1:=.inr ⟨_,bS f0,rfl⟩;have hlen0:(d.get (Pz.lowK d)).length<16000000:=Jb (Pz.mE d _) hfew;refine HM _ H2 p0.1 p0.2 (d.get (Pz.lowK d)) _ rfl l2 i0 TK.k2 hlen0 λH3 s3=>?_;refine⟨_,rfl,q,C,dx,_,rfl,s3 _ _ q2,T.cl,T.nl,(by show 2<1000;decide),?_⟩;generalize hH4:aG H3 q (.ins C dx (fw "last" (.int (Pz.lo ((d.get (Pz.lowK d)).map (·.1)))) [("last",.int last),("piles",.ref ap)]))=H4;have kp4:∀ c u,H2 c=some u->c≠q->H4 c=some u:=λc u e n=>by rw[<- hH4,ac n];exact s3 c u e
 have q4:H4 q=some (.ins C dx [("last",.int (Pz.lowP d)),("piles",.ref ap)]):=by rw[<- hH4,af];rfl
 have D4:DL .dK H4 ap (iC xp (k1 (Pz.lowK d))):=D2.keep λc u e i=>kp4 c u e (G.ne (hsub c i));have kt4:KT H2 H4:=λc ws e=>kp4 c _ e λz=>by rw[z,q2]at e;cases e
 have l4:H4 p0.1=some (.lst p0.2):=kp4 _ _ l2 (G.ne in0);have o1:Pz.QOk ao (Pz.lowP d) (d.drop (Pz.lowK d))/\∀ y∈d.get (Pz.lowK d),Pz.lowP d<=y.1:=by refine⟨?_,λy hy=>Pz.An (Ir.mpr ⟨y,hy,rfl⟩)⟩;exact TK.o1
 have fl:∀ i,((Pz.addAll ao (Pz.lowP d) (d.drop (Pz.lowK d)) ((d.get (Pz.lowK d)).take i))).flat.length<=d.flat.length:=λi=>by rw[(Pz.iz o1.1.ok).length_eq,ID,(Pz.lB ok.ok.nk (Pz.lowK d)).length_eq,ID];have:=List.length_take_le i (d.get (Pz.lowK d));have:=Lf i (d.get (Pz.lowK d));lia
 have okI:∀ i,(Pz.addAll ao (Pz.lowP d) (d.drop (Pz.lowK d)) ((d.get (Pz.lowK d)).take i)).Ok:=λi=>(o1.1.addAll λx hx=>o1.2 x (JK hx)).ok;refine⟨_,rfl,p0.1,rfl,⟨_,SqL.of l4⟩,sv (K:=K) (a:=p0.1) (xs:=p0.2) (λi σ H5=>(∃ u v,σ=[some (.ref q),some (.ref p0.1),u,v])/\∃ xi,QAt C H5 q ap (Pz.lowP d) xi/\RepM k1 IsItem H5 (Pz.addAll ao (Pz.lowP d) (d.drop (Pz.lowK d)) ((d.get (Pz.lowK d)).take i)) xi/\
  H5 p0.1=some (.lst p0.2)/\¬ InD ap xi p0.1/\KT H4 H5/\(∀ c,InD ap xi c->InD ap xp c\/H c=none)/\(∀ c u,H c=some u->¬ InD ap xp c->c≠q->H5 c=some u))
  ⟨⟨none,none,rfl⟩,_,⟨⟨dx,q4⟩,D4,?_,?_⟩,?_,l4,n2,λ_ _ e=>e,λc i=>.inl (hsub c i),λc u e n m=>kp4 c u (kp2 c u e λz=>n (.inl z)) m⟩ (λi σ H5 _ ⟨_,xi,_,_,l5,_⟩=>SqL.of l5) ?_ ?_⟩
 .have:=((R.drop iD (Pz.lowK d)).len).symm;have h2:=Pz.fM (okI 0);have h3:=fl 0;rw[List.take_zero]at h2 h3;have h4:(Pz.addAll ao (Pz.lowP d) (d.drop (Pz.lowK d)) [])=d.drop (Pz.lowK d):=rfl;rw[h4]at h2 h3;lia
 .have h3:=fl 0;rw[List.take_zero]at h3;exact(R.drop iD (Pz.lowK d)).low (Jb h3 hfew)
 .rw[List.take_zero];exact(R.drop iD (Pz.lowK d)).keep λx v hx=>IsItem.keep kt4 _ _ (IsItem.keep kt2 _ _ hx)
 .rintro i y σ H5 hi ⟨⟨u,v',rfl⟩,xi,Gi,Ri,l5,n5,kt5,sub5,kp5⟩;obtain⟨x,hx,p,w,rfl,hp,b,rfl,hb⟩:=i0.get hi;have hp5:=kt5 _ _ (kt4 _ _ hp);have hb5:=kt5 _ _ (kt4 _ _ hb);obtain⟨dy,hq5⟩:=Gi.ins;refine⟨p,_,rfl,SqT.of hp5,rfl,_,_,rfl,_,_,rfl,rfl,?_⟩;refine⟨_,rfl,q,dy,_,rfl,hq5,hna _ _,_,rfl,_,rfl,q,ap,b,Pz.lowP d,x.1,xi,rfl,Gi,?_⟩;intro l p' H6 hl hp' hm hq6 hD6 kp6;have nq6:∀ c u,H5 c=some u->¬ InD ap xi c->H6 c=some u:=kp6;have kt6:KT H5 H6:=Gi.piles.kt (λ_ _ z=>HO.noConfusion z) kp6;have R6:RepM k1 IsItem H6 (Pz.addAll ao (Pz.lowP d) (d.drop (Pz.lowK d)) ((d.get (Pz.lowK d)).take (i+1))) (i6 xi (.inl (ao x.1 (Pz.lowP d))) l (.ref p')):=by rw[KL,hx];show RepM k1 IsItem H6 (Pz.addAll ao (Pz.lowP d) _ (_++[x])) _;rw[tL];exact Ri.add iD (IsItem.keep kt6) ⟨p',_,rfl,hm,b,rfl,kt6 _ _ hb5⟩
  refine⟨⟨_,_,rfl⟩,_,⟨hq6,hD6,?_,R6.low (Jb (fl (i+1)) hfew)⟩,R6,kp6 _ _ l5 n5,λz=>?_,λc ws e=>kt6 _ _ (kt5 _ _ e),λc z=>?_,λc u e n m=>?_⟩
  .have:=R6.len;have:=Pz.fM (okI (i+1));have:=fl (i+1);lia
  .rcases gk z with z|z
   .exact n5 z
   .rw[z,hl]at l5;cases l5
  .rcases gk z with z|rfl
   .exact sub5 c z
   .by_cases i':InD ap xp c
    .exact .inl i'
    .refine .inr ?_;cases e:H c with
     |none=>rfl
     |some u=>
      by_cases z:c=q
      .rw[z,hq5]at hl;cases hl
      .rw[kp5 c u e i' z]at hl;cases hl
  .exact kp6 _ _ (kp5 c u e n m) λz=>(sub5 c z).elim n λz=>by rw[z]at e;cases e
 .rintro σ H5 ⟨⟨u,v',rfl⟩,xi,Gi,Ri,l5,n5,kt5,sub5,kp5⟩;have eall:(d.get (Pz.lowK d)).take p0.2.length=d.get (Pz.lowK d):=Jo (by rw[i0.len];exact Ih _);rw[eall]at Ri;have Ri:RepM k1 IsItem H5 (Pz.mid ao d) xi:=Ri;obtain⟨dy,hq5⟩:=Gi.ins;have ha5:=Gi.piles.root;have nq5:q≠ap:=λe=>by rw[e,ha5]at hq5;cases hq5
  rcases Ri.find iD 0 with⟨_,hh,_⟩|⟨p1,f1,_,a1⟩
  .have:=Pz.has_iff.mpr TK.k3;rw[hh]at this;cases this
  refine⟨_,rfl,q,C,dy,_,_,rfl,hq5,T.cl,T.np,rfl,ap,rfl,.inl ⟨_,.inl ha5⟩,xi.kv,k1 0,.ref p1.1,ha5,rfl,(by rw[fO,f1];rfl),?_⟩;generalize hH6:aG H5 ap (.dK (i9 xi.kv (k1 0)))=H6;have kp6:∀ c u,H5 c=some u->c≠ap->H6 c=some u:=λc u e n=>by rw[<- hH6,ac n];exact e
  obtain⟨D6,l6,n6⟩:=Gi.piles.drop (λ_ _ z=>HO.noConfusion z) f1 (by rw[<- hH6,af]) kp6;have kt6:KT H5 H6:=λc ws e=>kp6 c _ e λz=>by rw[z,ha5]at e;cases e
  have R6:RepM k1 IsItem H6 (Pz.left ao d) (iC xi (k1 0)):=(Ri.drop iD 0).keep (IsItem.keep kt6);have sub6:∀ c,InD ap (iC xi (k1 0)) c->InD ap xi c:=λc i=>i.imp id λ⟨x,hx,e⟩=>⟨x,(Jj.mp hx).1,e⟩;have in1:InD ap xi p1.1:=.inr ⟨_,bS f1,rfl⟩;have fl6:(Pz.left ao d).flat.length<=d.flat.length:=by rw[TK.pm.length_eq,ID];lia
  refine k p1.1 p1.2 _ H6 ⟨⟨dy,kp6 _ _ hq5 nq5⟩,D6,?_,R6.low (Jb fl6 hfew)⟩ R6 l6 (a1.mono (IsItem.keep kt6)) n6 (sub5 _ in1) (λc z=>sub5 c (sub6 c z)) λc u e n m=>kp6 _ _ (kp5 c u e n m) λz=>n (.inl z);have:=R6.len;have:=Pz.fM TK.ok.ok;lia
end
structure PCls (K:MI) (C:Addr):Prop where
 cl:Cls K C
 nr:NoAttr K C "rules"
 nt:NoAttr K C "told"
 no:NoAttr K C "offers"
 ns:NoAttr K C "settled"
 nl:NoAttr K C "lacking"
theorem HC (A:PA):(pf A).lookup ("rules" : Str)=some (V.ref A.ar):=rfl
theorem Cf (A:PA):(pf A).lookup ("told" : Str)=some (V.ref A.ta):=rfl
theorem EV (A:PA):(pf A).lookup ("offers" : Str)=some (V.ref A.aq):=rfl
theorem Gk (A:PA):(pf A).lookup ("settled" : Str)=some (V.ref A.sa):=rfl
theorem Gm (A:PA):(pf A).lookup ("lacking" : Str)=some (V.ref A.la):=rfl
theorem EW (A:PA) (last:Int):(qf A last).lookup ("add" : Str)=none:=rfl
section
variable {K:MI}{CP CQ:Addr}{B H:Hp}{A:PA}{rs:Pz.RS}{S:Pz.PS}{xs xl xr:DX (List Key)}
theorem As (cl:Cls K C)(n:NoAttr K C f)(h0:σ[0]?=some (some (.ref o)))(hi:∃ dx,H o=some (.ins C dx fs))(hl:fs.lookup f=some v):qz (dJ K (ay 0) f) σ H v:=λQ q=>by obtain⟨dx,hi⟩:=hi;exact⟨_,h0,o,C,dx,_,_,rfl,hi,cl,n,hl,q⟩
noncomputable def fF (CP CQ:Addr):Sp:=λvs H Q _=>∃(B:Hp)(A:PA)(rs:Pz.RS)(S:Pz.PS)(xs xl xr:DX (List Key))(b:Addr)(a:Pz.Arr)(p:Int)(n m:Option Int),vs=[.ref A.o,.ref b,.int p,vO n,vO m]/\PAt CP CQ B H A rs S xs xl xr/\H b=some (.tup (arrV a))/\Pz.Fit (Pz.offer ao S a p n m)/\
 ∀ H',PAt CP CQ B H' A rs (Pz.offer ao S a p n m) xs xl xr->Q .non H'
noncomputable def Gn:R2:=λx y H Q=>y=.non/\Q (.bl (decide (x=.non))) H
theorem EX:OpR X (compareOp .Is) Gn:=DY
noncomputable def HZ:R2:=xj λi j=>.bl (decide (i<j))
noncomputable def EY (K:MI)(CQ:Addr):TS:=
 dc (mW (zg (dJ K (ay 0) "told") (ay 1)) (aZ 5))
 (xf (HL (mZ (k9 Gn (ay 5) (tC .non))) (mZ (k9 HZ (ay 2) (k9 (ph K) (ay 5) (tC (.int 0))))))
   (dc (za (dJ K (ay 0) "told") (ay 1) (ia (av (ay 2) (av (ay 3) (av (ay 4) ba)))))
     (cv (dL CQ "add" (qA CQ) [] E0 (dJ K (ay 0) "offers") (av (ay 2) (av (ay 1) ba)))))
   ss)
theorem tM (h:fF CP CQ vs H Q E):vs.length=5:=by obtain⟨_,_,_,_,_,_,_,_,_,_,_,_,rfl,_⟩:=h;rfl
theorem vf (TP:PCls K CP) (TQ:QCls K CQ) (h:fF CP CQ vs H Q E):EY K CQ { nx:=λ_ H'=>Q .non H',rt:=Q } (bJ ["self", "arrow", "price", "number", "mid", "known"] vs) H:=by
 obtain⟨B,A,rs,S,xs,xl,xr,b,a,p,n,m,rfl,⟨xp,kt,col,P⟩,hb,fit,k⟩:=h;obtain⟨dx,hi⟩:=P.po.ins;have ht:=P.po.td;have g:DGet H A.ta (.ref b) (cg kt (ak a)):=DGet.t ht hb;refine⟨_,rfl,A.o,CP,dx,_,_,rfl,hi,TP.cl,TP.nt,Cf A,A.ta,rfl,.inr ⟨_,.inl ht⟩,_,rfl,_,g,?_⟩;have take:Pz.fT S a p=true->∀ w,dc (za (dJ K (ay 0) "told") (ay 1) (ia (av (ay 2) (av (ay 3) (av (ay 4) ba)))))
  (cv (dL CQ "add" (qA CQ) [] E0 (dJ K (ay 0) "offers") (av (ay 2) (av (ay 1) ba)))) { nx:=λ_ H'=>Q .non H',rt:=Q } [some (.ref A.o),some (.ref b),some (.int p),some (vO n),some (vO m),some w] H:=by
  intro tk w;have eo:Pz.offer ao S a p n m=Pz.jk ao S a p n m:=by unfold Pz.offer;rw[Il tk]
  rw[eo]at fit k;refine⟨_,rfl,_,rfl,_,rfl,(by show 3<=sizeLine;decide),λt ht'=>?_⟩;have s1:Same H (aG H t (.tup [.int p,vO n,vO m])):=aE ht';have P1:=P.more s1;have hl:kt.length<sizeLine:=by have e1:S.told.length=kt.length:=P.po.tr.len;have e2:=fit.t;have e3:=(Pz.tD S.told a (p,n,m)).1;have e4:(Pz.jk ao S a p n m).told=Pz.tput S.told a (p,n,m):=rfl;rw[e4]at e2;rw[I_];unfold Pz.L at e2;lia
  refine⟨_,rfl,A.o,CP,dx,_,_,rfl,s1 _ _ hi,TP.cl,TP.nt,Cf A,_,rfl,A.ta,_,rfl,DPut.t (k:=ak a) (s1 _ _ ht) (s1 _ _ hb) hl,?_⟩;have P2:=P1.tell (a:=a) (x:=(p,n,m)) (p:=t) af;have hb2:aG (aG H t (.tup [.int p,vO n,vO m])) A.ta (.dT (ci kt (ak a) (.ref t))) b=some (.tup (arrV a)):=by rw[ac (λz=>by rw[z,ht]at hb;cases hb)];exact s1 _ _ hb
  generalize aG (aG H t (.tup [.int p,vO n,vO m])) A.ta (.dT (ci kt (ak a) (.ref t)))=H2 at P2 hb2;obtain⟨dx2,hi2⟩:=P2.po.ins;obtain⟨dy2,hq2⟩:=P2.po.que;have fitp:=fit.p;have fitf:=fit.pf;have al:=Pz.dF S.piles (ao p S.last) (p,a);have e5:(Pz.jk ao S a p n m).piles=S.piles.app (ao p S.last) (p,a):=rfl;rw[e5]at fitp fitf;unfold Pz.L at fitp fitf;have pr2:RepM k1 IsItem H2 S.piles xp:=P2.p1.r;refine⟨_,rfl,A.o,CP,dx2,_,_,rfl,hi2,TP.cl,TP.no,EV A,A.aq,dy2,_,rfl,hq2,EW A _,_,rfl,_,rfl,A.aq,A.ap,b,S.last,p,xp,rfl,⟨⟨dy2,hq2⟩,P2.p1.d,by rw[<- pr2.len];lia,pr2.low (by lia)⟩,?_⟩;intro l p' H3 hl3 hp3 hm3 hq3 hd3 kp3;refine k H3 ⟨_,_,_,P2.pile hd3 (pr2.add iD (IsItem.keep (P2.p1.d.kt (λ_ _ z=>HO.noConfusion z) kp3)) ⟨p',_,rfl,hm3,b,rfl,?_⟩) (λc z=>(gk z).imp id λz=>by rw[z];exact hl3) kp3⟩;exact P2.p1.d.kt (λ_ _ z=>HO.noConfusion z) kp3 _ _ hb2
 have skip:¬ Pz.fT S a p=true->Q .non H:=λtk=>by
  have eo:Pz.offer ao S a p n m=S:=by unfold Pz.offer;rw[Ij tk]
  rw[eo]at k;exact k H ⟨xp,kt,col,P⟩
 rcases P.po.tr.find a with⟨e1,e2⟩|⟨v,x,e1,e2,q,rfl,hq⟩
 .-- not told yet
  rw[e1];refine⟨_,rfl,rfl,_,rfl,?_⟩;exact take (by unfold Pz.fT;rw[e2]) _
 .rw[e1];refine⟨_,rfl,rfl,_,rfl,?_⟩;refine⟨_,rfl,_,rfl,q,_,0,_,rfl,rfl,SqT.of hq,rfl,p,x.1,rfl,rfl,_,rfl,?_⟩;refine zj (λh=>?_) (λh=>?_)
  .exact take (by unfold Pz.fT;rw[e2];exact h) _
  .exact skip λz=>by unfold Pz.fT at z;rw[e2]at z;exact absurd z (by simpa using h)
end
section
variable {K:MI}{CP CQ:Addr}{B H:Hp}{A:PA}{rs:Pz.RS}{S:Pz.PS}{xs xl xr:DX (List Key)}{xp:DX Key}{kt:List (List Key×V)}{col:Addr->Nat}
theorem PCore.obj (P:PCore CP CQ B H A rs S xs xl xr xp kt col)(hz:H z=none):¬ InD A.ap xp z/\¬ InD A.sa xs z/\¬ InD A.la xl z/\¬ InD A.ar xr z/\z≠A.ta/\z≠A.o/\z≠A.aq:=by
 refine⟨λi=>P.p1.d.obj i hz,λi=>P.p2.d.obj i hz,λi=>P.p3.d.obj i hz,λi=>P.p4.d.obj i hz,λe=>?_,λe=>?_,λe=>?_⟩
 .rw[e,P.po.td]at hz;cases hz
 .obtain⟨_,h⟩:=P.po.ins;rw[e,h]at hz;cases hz
 .obtain⟨_,h⟩:=P.po.que;rw[e,h]at hz;cases hz
theorem rQ {α:Type}{it:Hp->α->V->Prop}(hk:∀ H H',KT H H'->∀ x v,it H x v->it H' x v){a:Addr}{f:Str}{ys:DX (List Key)}{d:Pz.MD (Int×Int) α}(P:PCore CP CQ B H A rs S xs xl xr xp kt col)(hD:DL .dT H a ys)(hR:RepM k2 it H d ys)
 (cl:Cls K CP) (nf:NoAttr K CP f) (hf:(pf A).lookup f=some (V.ref a)) {σ:L2.St} {j:Nat} {b:Addr} {k:Int×Int} (h0:σ[0]?=some (some (.ref A.o))) (hj:σ[j]?=some (some (.ref b))) (hb:H b=some (.tup [.int k.1,.int k.2])) {Q:VK}
 (kk:∀(l:Addr)(vs:List V)(B1 H1:Hp),Same H H1->Same B B1->KT H1 B1->PCore CP CQ B1 H1 A rs S xs xl xr xp kt col->H1 l=some (.lst vs)->(∀ H2,Same B1 H2->DL .dT H2 a ys->H2 l=some (.lst vs)/\All2 (it H2) (d.get k) vs)->Q (.ref l) H1) :
 ng (dJ K (ay 0) f) (ay j) (ux ba) σ H Q:=by
 obtain⟨dx,hi⟩:=P.po.ins;refine⟨_,h0,A.o,CP,dx,_,_,rfl,hi,cl,nf,hf,a,rfl,.inr ⟨_,.inl hD.root⟩,_,hj,IR _,λz hz=>?_⟩;have s1:Same H (aG H z (.lst [])):=aE hz;have hb1:aG H z (.lst []) b=some (.tup ((k2 k).map kV)):=s1 _ _ hb;refine⟨_,DGet.t (s1 _ _ hD.root) hb1,?_⟩;have P1:=P.more s1;rcases hR.find lE k with⟨f1,f2,f3⟩|⟨p,f1,f2,f3⟩
 .rw[fO,f1];obtain⟨B1,w1,w2,w3,w4⟩:=P1.wide (λc=>c=z) λc e=>by subst e;exact P.obj hz
  refine kk z [] B1 _ s1 w1 w2 w4 af λH2 s2 _=>⟨s2 _ _ (w3 z _ rfl af),?_⟩;rw[f3];exact .nil
 .rw[fO,f1];obtain⟨B1,w1,w2,w3,w4⟩:=P1.wide (λ_=>False) λ_ e=>e.elim;refine kk p.1 p.2 B1 _ s1 w1 w2 w4 (s1 _ _ (hD.kid _ (bS f1))) λH2 s2 D2=>⟨D2.kid _ (bS f1),f3.mono (hk _ _ λc ws e=>s2 _ _ (w2 _ _ (s1 _ _ e)))⟩
theorem fV {tb:TS}{D:Ends}{σ:L2.St}(h:tl σ H λx H1=>∃ a,x=.ref a/\(∃ xs,SqL K H1 a xs)/\∃ W:Nat->Nat->L2.St->Hp->Prop,(∃ m,W 0 m σ H1)/\∀ i m σ H,W i m σ H->
 ((uh K a).stop i H/\D.nx σ H)\/((uh K a).go i H/\∃ N:L2.St->Hp->Prop,(∀ σ' H',N σ' H'->∃ m',m'<m/\W (i+1) m' σ' H')/\∀ x H',(uh K a).yld i H x H'->g x σ H' λσ2 H2=>tb { D with nx:=N,ct:=N,bk:=D.nx } σ2 H2)):l7 (ku K tl) g tb D σ H:=h
theorem wz {α:Type}{it:Hp->α->V->Prop}{l:Addr}{vs:List V}{its:List α}{g:TG}{tb:TS}{D:Ends}{σ:L2.St}{H1:Hp}(Sh:L2.St->Prop)(step:Pz.PS->α->Pz.PS)(S0:Pz.PS)(W:Pz.PS->Hp->Prop)(h0:Sh σ)(h1:W S0 H1)
 (hW:∀ S H,W S H->Rd H l (.lst vs)/\All2 (it H) its vs)
 (hb:∀(i:Nat)(x:α)(v:V)(σ:L2.St)(H:Hp),its[i]?=some x->it H x v->Sh σ->W ((its.take i).foldl step S0) H->
   g v σ H λσ2 H2=>tb { D with nx:=λσ' H'=>Sh σ'/\W (step ((its.take i).foldl step S0) x) H',ct:=λσ' H'=>Sh σ'/\W (step ((its.take i).foldl step S0) x) H',bk:=D.nx } σ2 H2)
 (hd:∀ σ H,Sh σ->W (its.foldl step S0) H->D.nx σ H) :
 ∃ W:Nat->Nat->L2.St->Hp->Prop,(∃ m,W 0 m σ H1)/\∀ i m σ H,W i m σ H->
  ((uh K l).stop i H/\D.nx σ H)\/((uh K l).go i H/\∃ N:L2.St->Hp->Prop,(∀ σ' H',N σ' H'->∃ m',m'<m/\W (i+1) m' σ' H')/\∀ x H',(uh K l).yld i H x H'->g x σ H' λσ2 H2=>tb { D with nx:=N,ct:=N,bk:=D.nx } σ2 H2):=by
 have aR:its.length=vs.length:=(hW _ _ h1).2.len;refine sv (K:=K) (a:=l) (xs:=vs) (λi σ H=>Sh σ/\W ((its.take i).foldl step S0) H) ⟨h0,h1⟩ (λi σ H _ ⟨_,w⟩=>Or.inl (hW _ _ w).1) (λi v σ H hi ⟨s,w⟩=>?_) λσ H ⟨s,w⟩=>?_
 .obtain⟨x,hx,ix⟩:=(hW _ _ w).2.get hi;have e:(its.take (i+1)).foldl step S0=step ((its.take i).foldl step S0) x:=by rw[KL,hx,Kv];rfl
  rw[e];exact hb i x v σ H hx ix s w
 .rw[Jo (by lia)]at w;exact hd σ H s w
theorem rR {α:Type}{it:Hp->α->V->Prop}{l:Addr}{vs:List V}{its:List α}{g:TG}{tb:TS}{D:Ends}{σ:L2.St}{H1:Hp}(Sh:L2.St->Prop)(step:Pz.PS->α->Pz.PS)(S0:Pz.PS)(W:Pz.PS->Hp->Prop)(h0:Sh σ)(h1:W S0 H1)
 (hW:∀ S H,W S H->H l=some (.lst vs)/\All2 (it H) its vs)
 (hb:∀(i:Nat)(x:α)(v:V)(σ:L2.St)(H:Hp),its[i]?=some x->it H x v->Sh σ->W ((its.take i).foldl step S0) H->
   g v σ H λσ2 H2=>tb { D with nx:=λσ' H'=>Sh σ'/\W (step ((its.take i).foldl step S0) x) H',ct:=λσ' H'=>Sh σ'/\W (step ((its.take i).foldl step S0) x) H',bk:=D.nx } σ2 H2)
 (hd:∀ σ H,Sh σ->W (its.foldl step S0) H->D.nx σ H) :
 ∃ W:Nat->Nat->L2.St->Hp->Prop,(∃ m,W 0 m σ H1)/\∀ i m σ H,W i m σ H->
  ((uh K l).stop i H/\D.nx σ H)\/((uh K l).go i H/\∃ N:L2.St->Hp->Prop,(∀ σ' H',N σ' H'->∃ m',m'<m/\W (i+1) m' σ' H')/\∀ x H',(uh K l).yld i H x H'->g x σ H' λσ2 H2=>tb { D with nx:=N,ct:=N,bk:=D.nx } σ2 H2):=
 wz Sh step S0 W h0 h1 (λS H w=>⟨.inl (hW S H w).1,(hW S H w).2⟩) hb hd
theorem fW {α:Type}{step:Pz.PS->α->Pz.PS}(hg:∀ S x,Pz.Grow S (step S x)){its:List α}{S0:Pz.PS}(h:Pz.Fit (its.foldl step S0)){i:Nat}{x:α}(hx:its[i]?=some x):Pz.Fit (step ((its.take i).foldl step S0) x):=by
 have e:(its.take (i+1)).foldl step S0=step ((its.take i).foldl step S0) x:=by rw[KL,hx,Kv];rfl
 rw[<- e];refine Pz.Grow.fit (Pz.bM step hg (its.drop (i+1)) _) ?_;rw[<- Kv,KA];exact h
noncomputable def tO:R2:=xj λi j=>.int (i+j)
noncomputable def mJ (CP CQ:Addr):Sp:=λvs H Q _=>∃(B:Hp)(A:PA)(rs:Pz.RS)(S:Pz.PS)(xs xl xr:DX (List Key))(c:Addr)(r:Pz.Rule)(num mid price:Int),vs=[.ref A.o,.int num,.ref c,.int mid,.int price]/\PAt CP CQ B H A rs S xs xl xr/\IsRule H r (.ref c)/\2<=r.2.2.2.length/\Pz.Fit (Pz.first ao S num r mid price)/\
 ∀ H' xl',PAt CP CQ B H' A rs (Pz.first ao S num r mid price) xs xl' xr->Q .non H'
noncomputable def EZ (K:MI)(CP CQ:Addr):TS:=
 dc (mW (ia (av (ay 3) (av (k9 (ph K) (k9 (ph K) (ay 2) (tC (.int 3))) (tC (.int 1))) ba))) (aZ 5))
 (dc (cv (lW K (dJ K (ay 0) "lacking") (ay 5) (ia (av (ay 1) (av (ay 2) (av (ay 4) ba))))))
 (l7 (ku K (ng (dJ K (ay 0) "settled") (ay 5) (ux ba))) (mV K 2 (b8 (aZ 6) (b8 (aZ 7) mU)))
   (cv (dL CP "offer" (fF CP CQ) [] E0 (ay 0) (av (ia (av (k9 (ph K) (ay 2) (tC (.int 0))) (av (k9 (ph K) (ay 2) (tC (.int 1))) (av (ay 6) ba))))
     (av (k9 tO (k9 tO (ay 4) (ay 7)) (tC (.int 1))) (av (ay 1) (av (ay 3) ba))))))))
theorem tP (h:mJ CP CQ vs H Q E):vs.length=5:=by obtain⟨_,_,_,_,_,_,_,_,_,_,_,_,rfl,_⟩:=h;rfl
theorem iE (A:PA):(pf A).lookup ("offer" : Str)=none:=rfl
theorem Cg {l:List Int}(h:2<=l.length):(l.map V.int)[1]?=some (.int (Pz.nth1 l)):=by
 match l,h with
 |x::y::_,_=>rfl
theorem vg {vs:List V} (TP:PCls K CP) (h:mJ CP CQ vs H Q E):EZ K CP CQ { nx:=λ_ H'=>Q .non H',rt:=Q } (bJ ["self", "number", "rule", "mid", "price", "start", "state", "second"] vs) H:=by
 obtain⟨B,A,rs,S,xs,xl,xr,c,r,num,mid,price,rfl,⟨xp,kt,col,P⟩,⟨_,q,ec,hr,hq⟩,h2,fit,k⟩:=h;cases ec;refine⟨_,rfl,_,rfl,c,_,3,_,rfl,rfl,SqT.of hr,rfl,q,_,1,_,rfl,rfl,SqT.of hq,vR (j:=1) (Cg h2),(by show 2<=sizeLine;decide),λb hb=>?_⟩;have s1:Same H (aG H b (.tup [.int mid,.int (Pz.nth1 r.2.2.2)])):=aE hb;have P1:=P.more s1;have hbb:aG H b (.tup [.int mid,.int (Pz.nth1 r.2.2.2)]) b=some (.tup [.int mid,.int (Pz.nth1 r.2.2.2)]):=af;have hr1:=s1 _ _ hr;have hq1:=s1 _ _ hq;generalize aG H b (.tup [.int mid,.int (Pz.nth1 r.2.2.2)])=H1 at s1 P1 hbb hr1 hq1;have fitL:Pz.Fit (Pz.lack S num r mid price):=Pz.Grow.fit (Pz.bM _ (λS x=>Pz.bE S _ _ _ _) _ _) fit;have f1:=fitL.l;have f2:=fitL.lf;have al:=Pz.dF S.lacking (mid,Pz.nth1 r.2.2.2) (num,r,price);have e5:(Pz.lack S num r mid price).lacking=S.lacking.app (mid,Pz.nth1 r.2.2.2) (num,r,price):=rfl;rw[e5]at f1 f2;unfold Pz.L at f1 f2;have lr1:RepM k2 IsLack H1 S.lacking xl:=P1.p3.r;refine mG (a:=A.la) (b:=b) (xs:=xl) (k:=k2 (mid,Pz.nth1 r.2.2.2)) (ws:=[.int num,.ref c,.int price]) P1.p3.d (As TP.cl TP.nl rfl P1.po.ins (Gm A)) (λQ q=>⟨_,rfl,q⟩) hbb (λH' _ Q q=>⟨_,rfl,_,rfl,_,rfl,(by show 3<=sizeLine;decide),q⟩) (by rw[<- lr1.len];lia) (lr1.low (by lia)) ?_;intro l p H2 hl hp hm hd kp;have kt2:=P1.p3.d.kt (λ_ _ z=>HO.noConfusion z) kp;have P2:=P1.lack hd (lr1.add (k:=(mid,Pz.nth1 r.2.2.2)) (v:=(num,r,price)) lE (IsLack.keep kt2) ⟨p,_,rfl,hm,c,q,rfl,kt2 _ _ hr1,kt2 _ _ hq1⟩) (λc z=>(gk z).imp id λz=>by rw[z];exact hl) kp;have P2:PCore CP CQ B H2 A rs (Pz.lack S num r mid price) xs _ xr _ _ _:=P2;dsimp only;refine fV ?_;refine rQ (λH H' k=>IsSet.keep k) P2 P2.p2.d P2.p2.r TP.cl TP.ns (Gk A) (j:=5) (k:=(mid,Pz.nth1 r.2.2.2)) (by rfl) (by rfl) (kt2 _ _ hbb) λl' vs' B1 H3 s3 b1 w3 P3 hl3 hkk=>?_;refine⟨l',rfl,⟨_,SqL.of hl3⟩,rR (it:=IsSet) (vs:=vs') (its:=S.settled.get (mid,Pz.nth1 r.2.2.2)) (λσ=>∃ u v,σ=[some (.ref A.o),some (.int num),some (.ref c),some (.int mid),some (.int price),some (.ref b),u,v])
  (λS x=>Pz.offer ao S (r.1,r.2.1,x.1) (price+x.2+1) (some num) (some mid)) (Pz.lack S num r mid price) (λT H4=>∃ xl',PAt CP CQ B1 H4 A rs T xs xl' xr) ⟨none,none,rfl⟩ ⟨_,_,_,_,P3⟩ ?_ ?_ ?_⟩
 .rintro T H4 ⟨xl',xp4,kt4,col4,P4⟩;exact hkk H4 P4.same P4.p2.d
 .rintro i ⟨st,sec⟩ v σ H4 hi ⟨t,rfl,ht⟩ ⟨u,w,rfl⟩ ⟨xl',P4⟩;have k4:KT H3 H4:=λa ws e=>P4.same _ _ (w3 _ _ e);have hr4:=k4 _ _ (s3 _ _ (kt2 _ _ hr1));refine⟨t,_,rfl,SqT.of ht,rfl,_,_,rfl,_,_,rfl,rfl,?_⟩;have P4':=P4;obtain⟨xp4,kt4,col4,Q4⟩:=P4';obtain⟨dx4,hi4⟩:=Q4.po.ins;refine⟨_,rfl,A.o,dx4,_,rfl,hi4,iE A,_,rfl,c,_,0,_,rfl,rfl,SqT.of hr4,rfl,_,rfl,c,_,1,_,rfl,rfl,SqT.of hr4,rfl,_,rfl,(by show 3<=sizeLine;decide),λtt htt=>?_⟩;refine⟨_,rfl,_,rfl,_,_,rfl,rfl,_,_,rfl,rfl,_,rfl,_,rfl,?_⟩;refine⟨B1,A,rs,_,xs,xl',xr,tt,(r.1,r.2.1,st),price+sec+1,some num,some mid,rfl,P4.more (aE htt),af,fW (λS x=>Pz.bE S _ _ _ _) fit hi,λH5 P5=>⟨⟨_,_,rfl⟩,xl',P5⟩⟩
 .rintro σ H4 _ ⟨xl',P4⟩;exact k H4 xl' (P4.less b1)
noncomputable def wA (K:MI):List V->Hp->VK->Prop:=λxs H Q=>∃ p ys,xs=[.ref p]/\(SqL K H p ys\/SqT K H p ys)/\Q (.int ys.length) H
theorem lF:CallR X (.builtin "len") (wA X.K):=call_len_seq
noncomputable abbrev tI (K:MI)(i:Nat)(n:Int):TE:=k9 (ph K) (ay i) (tC (.int n))
def E1 (rs:Pz.RS):Prop:=∀ k x,x∈rs.get k->1<=x.2.2.2.2.length
noncomputable def kW (CP CQ:Addr):Sp:=λvs H Q _=>∃(B:Hp)(A:PA)(rs:Pz.RS)(S:Pz.PS)(xs xl xr:DX (List Key))(b:Addr)(a:Pz.Arr)(price:Int),vs=[.ref A.o,.ref b,.int price]/\PAt CP CQ B H A rs S xs xl xr/\H b=some (.tup (arrV a))/\E1 rs/\Pz.Fit (Pz.settle ao rs S a price)/\
 ∀ H' xs' xl',PAt CP CQ B H' A rs (Pz.settle ao rs S a price) xs' xl' xr->Q .non H'
noncomputable def Ci (K:MI)(CP CQ:Addr):TS:=
 dc (mW (ia (av (tI K 1 0) (av (tI K 1 1) ba))) (aZ 3))
 (dc (cv (lW K (dJ K (ay 0) "settled") (ay 3) (ia (av (tI K 1 2) (av (ay 2) ba)))))
 (dc (l7 (ku K (ng (dJ K (ay 0) "lacking") (ay 3) (ux ba))) (mV K 3 (b8 (aZ 4) (b8 (aZ 5) (b8 (aZ 6) mU))))
   (cv (dL CP "offer" (fF CP CQ) [] E0 (ay 0) (av (ia (av (tI K 5 0) (av (tI K 5 1) (av (tI K 1 2) ba)))) (av (k9 tO (k9 tO (ay 6) (ay 2)) (tC (.int 1))) (av (ay 4) (av (tI K 1 0) ba)))))))
 (l7 (ku K (ng (dJ K (ay 0) "rules") (ay 3) (ux ba))) (mV K 2 (b8 (aZ 4) (b8 (aZ 5) mU)))
   (xf (mZ (k9 FI (CO (wA K) (av (tI K 5 3) ba)) (tC (.int 1))))
     (cv (dL CP "offer" (fF CP CQ) [] E0 (ay 0) (av (ia (av (tI K 5 0) (av (tI K 5 1) (av (tI K 1 2) ba)))) (av (k9 tO (ay 2) (tC (.int 1))) (av (ay 4) (av (tC .non) ba))))))
     (cv (dL CP "settle_first" (mJ CP CQ) [] E0 (ay 0) (av (ay 4) (av (ay 5) (av (tI K 1 2) (av (ay 2) ba))))))))))
theorem rS (h:kW CP CQ vs H Q E):vs.length=3:=by obtain⟨_,_,_,_,_,_,_,_,_,_,rfl,_⟩:=h;rfl
theorem Au (A:PA):(pf A).lookup ("settle_first" : Str)=none:=rfl
theorem tQ (TP:PCls K CP) (h:kW CP CQ vs H Q E):Ci K CP CQ { nx:=λ_ H'=>Q .non H',rt:=Q } (bJ ["self", "arrow", "price", "start", "number", "rule", "first"] vs) H:=by
 obtain⟨B,A,rs,S,xs,xl,xr,b0,a,price,rfl,⟨xp,kt,col,P⟩,ha,rok,fit,k⟩:=h;refine⟨_,rfl,b0,_,0,_,rfl,rfl,SqT.of ha,rfl,_,rfl,b0,_,1,_,rfl,rfl,SqT.of ha,rfl,(by show 2<=sizeLine;decide),λb hb=>?_⟩;have s1:Same H (aG H b (.tup [.int a.1,.int a.2.1])):=aE hb;have P1:=P.more s1;have hbb:aG H b (.tup [.int a.1,.int a.2.1]) b=some (.tup [.int a.1,.int a.2.1]):=af;have ha1:=s1 _ _ ha;generalize aG H b (.tup [.int a.1,.int a.2.1])=H1 at s1 P1 hbb ha1;have g2:Pz.Grow ((S.lacking.get (a.1,a.2.1)).foldl (Pz.kU ao a price) (Pz.note S a price)) (Pz.settle ao rs S a price):=Pz.bM _ (Pz.jl a price) _ _;have fit1:Pz.Fit ((S.lacking.get (a.1,a.2.1)).foldl (Pz.kU ao a price) (Pz.note S a price)):=g2.fit fit;have fitN:Pz.Fit (Pz.note S a price):=Pz.Grow.fit (Pz.bM _ (λS x=>Pz.bE S _ _ _ _) _ _) fit1;have f1:=fitN.s;have f2:=fitN.sf;have al:=Pz.dF S.settled (a.1,a.2.1) (a.2.2,price);have e5:(Pz.note S a price).settled=S.settled.app (a.1,a.2.1) (a.2.2,price):=rfl;rw[e5]at f1 f2;unfold Pz.L at f1 f2;have sr1:RepM k2 IsSet H1 S.settled xs:=P1.p2.r;refine mG (a:=A.sa) (b:=b) (xs:=xs) (k:=k2 (a.1,a.2.1)) (ws:=[.int a.2.2,.int price]) P1.p2.d (As TP.cl TP.ns rfl P1.po.ins (Gk A)) (λQ q=>⟨_,rfl,q⟩) hbb (λH' kp Q q=>⟨_,rfl,b0,_,2,_,rfl,rfl,SqT.of (kp _ _ ha1 (λz=>by rw[z,P1.p2.d.root]at ha1;cases ha1)),rfl,_,rfl,(by show 2<=sizeLine;decide),q⟩) (by rw[<- sr1.len];lia) (sr1.low (by lia)) ?_;intro l p H2 hl hp hm hd kp;have kt2:=P1.p2.d.kt (λ_ _ z=>HO.noConfusion z) kp;have P2:=P1.sett hd (sr1.add (k:=(a.1,a.2.1)) (v:=(a.2.2,price)) lE (IsSet.keep kt2) ⟨p,rfl,hm⟩) (λc z=>(gk z).imp id λz=>by rw[z];exact hl) kp;have P2:PCore CP CQ B H2 A rs (Pz.note S a price) _ xl xr _ _ _:=P2;generalize i6 xs (k2 (a.1,a.2.1)) l (.ref p)=xs2 at P2;have ha2:=kt2 _ _ ha1;dsimp only;refine fV ?_;refine rQ (λH H' k=>IsLack.keep k) P2 P2.p3.d P2.p3.r TP.cl TP.nl (Gm A) (j:=3) (k:=(a.1,a.2.1)) (by rfl) (by rfl) (kt2 _ _ hbb) λl' vs' B1 H3 s3 b1 w3 P3 hl3 hkk=>?_;refine⟨l',rfl,⟨_,SqL.of hl3⟩,rR (it:=IsLack) (vs:=vs') (its:=S.lacking.get (a.1,a.2.1)) (λσ=>∃ u v w,σ=[some (.ref A.o),some (.ref b0),some (.int price),some (.ref b),u,v,w])
  (Pz.kU ao a price) (Pz.note S a price) (λT H4=>PAt CP CQ B1 H4 A rs T xs2 xl xr) ⟨none,none,none,rfl⟩ ⟨_,_,_,P3⟩ ?_ ?_ ?_⟩
 .rintro T H4 ⟨xp4,kt4,col4,P4⟩;exact hkk H4 P4.same P4.p3.d
 .rintro i ⟨num,r,fst⟩ v σ H4 hi ⟨t,_,rfl,ht,c,q,rfl,hr,hq⟩ ⟨u,w,z,rfl⟩ P4;have k4:KT H3 H4:=λa ws e=>P4.same _ _ (w3 _ _ e);have ha4:=k4 _ _ (s3 _ _ ha2);refine⟨t,_,rfl,SqT.of ht,rfl,_,_,rfl,_,_,rfl,_,_,rfl,rfl,?_⟩;have P4':=P4;obtain⟨xp4,kt4,col4,Q4⟩:=P4';obtain⟨dx4,hi4⟩:=Q4.po.ins;refine⟨_,rfl,A.o,dx4,_,rfl,hi4,iE A,_,rfl,c,_,0,_,rfl,rfl,SqT.of hr,rfl,_,rfl,c,_,1,_,rfl,rfl,SqT.of hr,rfl,_,rfl,b0,_,2,_,rfl,rfl,SqT.of ha4,rfl,(by show 3<=sizeLine;decide),λtt htt=>?_⟩;have s5:=aE (o:=HO.tup [.int r.1,.int r.2.1,.int a.2.2]) htt;refine⟨_,rfl,_,rfl,_,_,rfl,rfl,_,_,rfl,rfl,_,rfl,_,rfl,b0,_,0,_,rfl,rfl,SqT.of (s5 _ _ ha4),rfl,?_⟩;refine⟨B1,A,rs,_,xs2,xl,xr,tt,(r.1,r.2.1,a.2.2),fst+price+1,some num,some a.1,rfl,P4.more s5,af,fW (step:=Pz.kU ao a price) (λS x=>Pz.bE S _ _ _ _) fit1 hi,λH5 P5=>⟨⟨_,_,_,rfl⟩,P5⟩⟩
 .rintro σ H4 ⟨u,w,z,rfl⟩ P4;have k4:KT H3 H4:=λa ws e=>P4.same _ _ (w3 _ _ e);have ha4:=k4 _ _ (s3 _ _ ha2);have hb4:=k4 _ _ (s3 _ _ (kt2 _ _ hbb));obtain⟨xp4,kt4,col4,Q4⟩:=P4;have eS:Pz.settle ao rs S a price=(rs.get (a.1,a.2.1)).foldl (Pz.b6 ao a price) ((S.lacking.get (a.1,a.2.1)).foldl (Pz.kU ao a price) (Pz.note S a price)):=rfl;rw[eS]at fit k;generalize (S.lacking.get (a.1,a.2.1)).foldl (Pz.kU ao a price) (Pz.note S a price)=S4 at Q4 fit k;dsimp only;refine fV ?_;refine rQ (λH H' k=>IsNum.keep k) Q4 Q4.p4.d Q4.p4.r TP.cl TP.nr (HC A) (j:=3) (k:=(a.1,a.2.1)) (by rfl) (by rfl) hb4 λl5 vs5 B5 H5 s5 b5 w5 P5 hl5 hk5=>?_;refine⟨l5,rfl,⟨_,SqL.of hl5⟩,rR (it:=IsNum) (vs:=vs5) (its:=rs.get (a.1,a.2.1)) (λσ=>∃ u v w,σ=[some (.ref A.o),some (.ref b0),some (.int price),some (.ref b),u,v,w])
   (Pz.b6 ao a price) S4 (λT H6=>∃ xl',PAt CP CQ B5 H6 A rs T xs2 xl' xr) ⟨_,_,_,rfl⟩ ⟨_,_,_,_,P5⟩ ?_ ?_ ?_⟩
  .rintro T H6 ⟨xl',xp6,kt6,col6,P6⟩;exact hk5 H6 P6.same P6.p4.d
  .rintro i ⟨num,r⟩ v σ H6 hi ⟨t,_,rfl,ht,c,q,rfl,hr,hq⟩ ⟨u',w',z',rfl⟩ ⟨xl',P6⟩;have k6:KT H5 H6:=λa ws e=>P6.same _ _ (w5 _ _ e);have ha6:=k6 _ _ (s5 _ _ ha4);have aR:1<=r.2.2.2.length:=rok _ _ (Jp hi);have fitT:=fW (step:=Pz.b6 ao a price) (Pz.jl a price) fit hi;refine⟨t,_,rfl,SqT.of ht,rfl,_,_,rfl,_,_,rfl,rfl,?_⟩;have P6':=P6;obtain⟨xp6,kt6,col6,Q6⟩:=P6';obtain⟨dx6,hi6⟩:=Q6.po.ins;refine⟨_,rfl,c,_,3,_,rfl,rfl,SqT.of hr,rfl,q,_,rfl,.inr (SqT.of hq),rfl,_,rfl,?_⟩;have e1:(V.int (((r.2.2.2.map V.int).length:Nat):Int)=V.int 1)↔r.2.2.2.length=1:=by rw[Ik];exact⟨λe=>by injection e with e;lia,λe=>by rw[e];rfl⟩
   unfold Pz.b6 at fitT;unfold Pz.b6;refine zj (λh=>?_) (λh=>?_)
   .have h1:r.2.2.2.length=1:=e1.mp (Ji h);rw[Il (show((num,r):Int×Pz.Rule).2.2.2.2.length=1 from h1)]at fitT ⊢;refine⟨_,rfl,A.o,dx6,_,rfl,hi6,iE A,_,rfl,c,_,0,_,rfl,rfl,SqT.of hr,rfl,_,rfl,c,_,1,_,rfl,rfl,SqT.of hr,rfl,_,rfl,b0,_,2,_,rfl,rfl,SqT.of ha6,rfl,(by show 3<=sizeLine;decide),λtt htt=>?_⟩;have s7:=aE (o:=HO.tup [.int r.1,.int r.2.1,.int a.2.2]) htt;refine⟨_,rfl,_,_,rfl,rfl,_,rfl,?_⟩;refine⟨B5,A,rs,_,xs2,xl',xr,tt,(r.1,r.2.1,a.2.2),price+1,some num,none,rfl,P6.more s7,af,fitT,λH7 P7=>⟨⟨_,_,_,rfl⟩,xl',P7⟩⟩
   .have h1:¬ r.2.2.2.length=1:=λz=>h (IA (e1.mpr z));rw[Ij (show ¬ ((num,r):Int×Pz.Rule).2.2.2.2.length=1 from h1)]at fitT ⊢;refine⟨_,rfl,A.o,dx6,_,rfl,hi6,Au A,_,rfl,_,rfl,_,rfl,b0,_,2,_,rfl,rfl,SqT.of ha6,rfl,_,rfl,?_⟩;exact⟨B5,A,rs,_,xs2,xl',xr,c,r,num,a.2.2,price,rfl,P6,⟨c,q,rfl,hr,hq⟩,by lia,fitT,λH7 xl7 P7=>⟨⟨_,_,_,rfl⟩,xl7,P7⟩⟩
  .rintro σ H6 _ ⟨xl',P6⟩;exact k H6 xs2 xl' (P6.less (b1.trans b5))
end
section
variable {K:MI}{CP CQ:Addr}{B H H':Hp}{A:PA}{rs:Pz.RS}{S:Pz.PS}{xs xl xr:DX (List Key)}{xp:DX Key}{kt:List (List Key×V)}{col:Addr->Nat}
theorem PCore.took (h:PCore CP CQ B H A rs S xs xl xr xp kt col)(h0:∃ dx,H' A.aq=some (.ins CQ dx (qf A m)))(h1:DL .dK H' A.ap xp')(h2:RepM k1 IsItem H' d' xp')(hn:∀ c,InD A.ap xp' c->InD A.ap xp c\/H c=none)
 (kp:∀ c u,H c=some u->¬ InD A.ap xp c->c≠A.aq->H' c=some u):PCore CP CQ B H' A rs { S with last:=m,piles:=d' } xs xl xr xp' kt (rO col 1 H):=by
 obtain⟨dy,hq⟩:=h.po.que;have k:KT H H':=λc ws e=>kp c _ e (λi=>by
  rcases i with rfl|⟨x,hx,rfl⟩
  .rw[h.p1.d.root]at e;cases e
  .rw[h.p1.d.kid x hx]at e;cases e) λz=>by rw[z,hq]at e;cases e
 have kj:∀ c u,H c=some u->col c≠1->col c≠7->H' c=some u:=λc u e n n'=>kp c u e (λi=>n (h.p1.c c i).1) λz=>n' (by rw[z];exact h.po.c7.1);obtain⟨⟨dx,i1⟩,_,i3,i4,c5,c6,c7⟩:=h.po;refine⟨(λc u e=>kp c u (h.same c u e) (λi=>by rw[(h.p1.c c i).2]at e;cases e) λz=>by rw[z,c7.2]at e;cases e),h.p1.new h.same h1 h2 hn,h.p2.keep (IsSet.keep k) (λc u e z=>kj c u e (by lia) (by lia)) λc=>aS,h.p3.keep (IsLack.keep k) (λc u e z=>kj c u e (by lia) (by lia)) λc=>aS,h.p4.keep (IsNum.keep k) (λc u e z=>kj c u e (by lia) (by lia)) λc=>aS,⟨dx,kj _ _ i1 (by lia) (by lia)⟩,h0,kj _ _ i3 (by lia) (by lia),i4.keep k,?_,?_,?_⟩
 .rw[aS (by rw[i3];simp)];exact c5
 .rw[aS (by rw[i1];simp)];exact c6
 .rw[aS (by rw[hq];simp)];exact c7
noncomputable def wB (CP CQ:Addr):Sp:=λvs H Q _=>∃(B:Hp)(A:PA)(rs:Pz.RS)(S T:Pz.PS)(xs xl xr:DX (List Key))(n:Nat),vs=[.ref A.o]/\PAt CP CQ B H A rs S xs xl xr/\E1 rs/\Pz.Fit S/\Pz.Loop ao rs n S T/\
 ∀ H' xs' xl',PAt CP CQ B H' A rs T xs' xl' xr->Q .non H'
noncomputable def HD (K:MI)(CP CQ:Addr):TS:=
 yO (FF (tB (dL CQ "is_empty" (mI CQ) [] E0 (dJ K (ay 0) "offers") ba)))
 (l7 (ku K (dL CQ "take_lowest" (rP CQ) [] E0 (dJ K (ay 0) "offers") ba)) (mV K 2 (b8 (aZ 1) (b8 (aZ 2) mU)))
   (xf (mZ (k9 FI (k9 (ph K) (CU (dJ K (ay 0) "told") (ay 2)) (tC (.int 0))) (ay 1)))
     (cv (dL CP "settle" (kW CP CQ) [] E0 (ay 0) (av (ay 2) (av (ay 1) ba)))) ss))
theorem yr (h:wB CP CQ vs H Q E):vs.length=1:=by obtain⟨_,_,_,_,_,_,_,_,_,rfl,_⟩:=h;rfl
theorem E2 (A:PA) (last:Int):(qf A last).lookup ("is_empty" : Str)=none:=rfl
theorem Cj (A:PA) (last:Int):(qf A last).lookup ("take_lowest" : Str)=none:=rfl
theorem yt (A:PA):(pf A).lookup ("settle" : Str)=none:=rfl
theorem Av (TP:PCls K CP) (h:wB CP CQ vs H Q E):HD K CP CQ { nx:=λ_ H'=>Q .non H',rt:=Q } (bJ ["self", "price", "arrow"] vs) H:=by
 obtain⟨B,A,rs,S,T,xs,xl,xr,n,rfl,P,rok,fit,lp,k⟩:=h;refine⟨λm σ H=>(∃ u v,σ=[some (.ref A.o),u,v])/\∃ S xs xl,PAt CP CQ B H A rs S xs xl xr/\Pz.Fit S/\Pz.Loop ao rs m S T,⟨n,⟨none,none,rfl⟩,S,xs,xl,P,fit,lp⟩,?_⟩;clear P lp fit;rintro m σ H ⟨⟨u,v,rfl⟩,S,xs,xl,⟨xp,kt,col,P⟩,fit,lp⟩;obtain⟨dx,hi⟩:=P.po.ins;obtain⟨dy,hq⟩:=P.po.que;have pr:RepM k1 IsItem H S.piles xp:=P.p1.r;have f1:=fit.p;have f2:=fit.pf;unfold Pz.L at f1 f2;refine⟨_,rfl,A.o,CP,dx,_,_,rfl,hi,TP.cl,TP.no,EV A,A.aq,dy,_,rfl,hq,E2 A _,A.aq,A.ap,dy,S.last,xp.kv,rfl,hq,P.p1.d.root,(by unfold DX.kv;rw[Ik,<- pr.len,I_];lia),_,rfl,?_⟩;have el:xp.kv.length=S.piles.length:=by unfold DX.kv;rw[Ik,<- pr.len]
 rw[el];cases lp with
 |done e=>rw[e];exact zi (k H xs xl ⟨xp,kt,col,P⟩)
 | @step m _ _ hne hok hkn _ fit2 lp=>
  have:decide (S.piles.length=0)=false:=IJ λz=>hne (J4.mp z);rw[this];refine xA ?_;refine⟨λσ H=>(∃ u v,σ=[some (.ref A.o),u,v])/\∃ S xs xl,PAt CP CQ B H A rs S xs xl xr/\Pz.Fit S/\Pz.Loop ao rs m S T,λσ' H' h'=>⟨m,KQ _,h'⟩,?_⟩;refine fV ?_;refine⟨_,rfl,A.o,CP,dx,_,_,rfl,hi,TP.cl,TP.no,EV A,A.aq,dy,_,rfl,hq,Cj A _,A.aq,A.ap,S.last,xp,S.piles,rfl,⟨⟨dy,hq⟩,P.p1.d,by rw[<- pr.len];lia,pr.low (by lia)⟩,pr,hok,hne,by lia,?_⟩;intro l vs' xp' H1 G1 R1 hl1 a1 nl il sub1 kp1;have P1:PCore CP CQ B H1 A rs (Pz.take ao S) xs xl xr xp' kt _:=P.took (m:=Pz.lowP S.piles) (d':=Pz.left ao S.piles) G1.ins G1.piles R1 sub1 kp1;obtain⟨B1,w1,w2,w3,P2⟩:=P1.wide (λc=>c=l) λc e=>by
   subst e;rcases il with il|il
   .have hc:=(P.p1.c c il).1;refine⟨nl,λi=>?_,λi=>?_,λi=>?_,λz=>?_,λz=>?_,λz=>?_⟩
    .have:=(P.p2.c c i).1;lia
    .have:=(P.p3.c c i).1;lia
    .have:=(P.p4.c c i).1;lia
    .have:=P.po.c5.1;rw[z]at hc;lia
    .have:=P.po.c6.1;rw[z]at hc;lia
    .have:=P.po.c7.1;rw[z]at hc;lia
   .exact⟨nl,(P.obj il).2⟩
  refine⟨l,rfl,⟨_,SqL.of hl1⟩,rR (it:=IsItem) (vs:=vs') (its:=Pz.taken ao S.piles) (λσ=>∃ u v,σ=[some (.ref A.o),u,v]) (Pz.turn ao rs) (Pz.take ao S) (λT' H2=>∃ xs' xl',PAt CP CQ B1 H2 A rs T' xs' xl' xr) ⟨_,_,rfl⟩ ⟨xs,xl,_,_,_,P2⟩ ?_ ?_ ?_⟩
  .rintro T' H2 ⟨xs',xl',P3⟩;have s2:=P3.same;exact⟨s2 _ _ (w3 l _ rfl hl1),a1.mono (IsItem.keep λc ws e=>s2 _ _ (w2 _ _ e))⟩
  .rintro i ⟨p,a⟩ v' σ H2 hx ⟨t,_,rfl,ht,b,rfl,hb⟩ ⟨u',v'',rfl⟩ ⟨xs',xl',P3⟩;have fitT:=fW (step:=Pz.turn ao rs) Pz.yh fit2 hx;have kn:Pz.tget (((Pz.taken ao S.piles).take i).foldl (Pz.turn ao rs) (Pz.take ao S)).told a≠none:=Pz.iA _ (λS x k=>Pz.B8 k) _ _ (hkn (p,a) (Jp hx));generalize ((Pz.taken ao S.piles).take i).foldl (Pz.turn ao rs) (Pz.take ao S)=S3 at P3 fitT kn;refine⟨t,_,rfl,SqT.of ht,rfl,_,_,rfl,_,_,rfl,rfl,?_⟩;have P3':=P3;obtain⟨xp3,kt3,col3,Q3⟩:=P3';obtain⟨dx3,hi3⟩:=Q3.po.ins;rcases Q3.po.tr.find a with⟨_,e2⟩|⟨w,x,e1,e2,q,rfl,hq3⟩
   .exact(kn e2).elim
   refine⟨_,rfl,A.o,CP,dx3,_,_,rfl,hi3,TP.cl,TP.nt,Cf A,_,rfl,A.ta,.ref q,rfl,(by rw[<- e1];exact DGet.t Q3.po.td hb),q,_,0,_,rfl,rfl,SqT.of hq3,rfl,_,rfl,rfl,_,rfl,?_⟩;have ei:(V.int x.1=V.int p)↔x.1=p:=⟨λe=>by injection e,λe=>by rw[e]⟩;have ed:Pz.EQ S3 (p,a)=decide (x.1=p):=by unfold Pz.EQ;dsimp only;rw[e2]
   unfold Pz.turn at fitT;unfold Pz.turn;rw[ed]at fitT ⊢;refine zj (λh=>?_) (λh=>?_)
   .have h1:x.1=p:=ei.mp (Ji h);rw[Il (IA h1)]at fitT ⊢;refine⟨_,rfl,A.o,dx3,_,rfl,hi3,yt A,_,rfl,_,rfl,?_⟩;exact⟨B1,A,rs,_,xs',xl',xr,b,a,p,rfl,P3,hb,rok,fitT,λH4 xs4 xl4 P4=>⟨⟨_,_,rfl⟩,xs4,xl4,P4⟩⟩
   .have h1:¬ x.1=p:=λz=>h (IA (ei.mpr z));rw[Ij (by simpa using h1)];exact⟨⟨_,_,rfl⟩,xs',xl',P3⟩
  .rintro σ H2 ⟨u',v'',rfl⟩ ⟨xs',xl',P3⟩;exact⟨⟨_,_,rfl⟩,_,xs',xl',P3.less w1,fit2,lp⟩
end
section
variable {K:MI}{H:Hp}
theorem wC {l:Addr}{vs:List V}{g:TG}{tb:TS}{D:Ends}{σ:L2.St}{H1:Hp}(Sh:L2.St->Prop)(W:Nat->Hp->Prop)(h0:Sh σ)(h1:W 0 H1)(hW:∀ i H,W i H->SqL K H l vs)
 (hb:∀(i:Nat)(v:V)(p:Addr)(σ:L2.St)(H:Hp),vs[i]?=some v->H p=none->Sh σ->W i H->
   g (.ref p) σ (aG H p (.tup [.int (i:Nat),v])) λσ2 H2=>tb { D with nx:=λσ' H'=>Sh σ'/\W (i+1) H',ct:=λσ' H'=>Sh σ'/\W (i+1) H',bk:=D.nx } σ2 H2)
 (hd:∀ σ H,Sh σ->W vs.length H->D.nx σ H) :
 ∃ W:Nat->Nat->L2.St->Hp->Prop,(∃ m,W 0 m σ H1)/\∀ i m σ H,W i m σ H->
  ((C9 K l).stop i H/\D.nx σ H)\/((C9 K l).go i H/\∃ N:L2.St->Hp->Prop,(∀ σ' H',N σ' H'->∃ m',m'<m/\W (i+1) m' σ' H')/\∀ x H',(C9 K l).yld i H x H'->g x σ H' λσ2 H2=>tb { D with nx:=N,ct:=N,bk:=D.nx } σ2 H2):=by
 refine⟨λi m σ H=>m=vs.length-i/\i<=vs.length/\Sh σ/\W i H,⟨vs.length,by simp,IR _,h0,h1⟩,?_⟩;rintro i m σ H ⟨rfl,hi,s,w⟩;have q:=hW i H w;by_cases hlt:i<vs.length
 .refine .inr ⟨⟨vs,vs[i],q,by simp[hlt]⟩,λσ' H'=>Sh σ'/\W (i+1) H',λσ' H' p'=>⟨vs.length-(i+1),by lia,rfl,hlt,p'⟩,λx H' y=>?_⟩;obtain⟨p,v,hp,rfl,rfl,y⟩:=y;exact hb i v p σ H (y vs q) hp s w
 .have e:i=vs.length:=by lia
  subst e;exact .inl ⟨⟨vs,q,Ih _⟩,hd σ H s w⟩
theorem qB {tb:TS}{D:Ends}{σ:L2.St}(h:ta σ H λvs H1=>∃ a xs,vs=[.ref a]/\SqL K H1 a xs/\∃ W:Nat->Nat->L2.St->Hp->Prop,(∃ m,W 0 m σ H1)/\∀ i m σ H,W i m σ H->
 ((C9 K a).stop i H/\D.nx σ H)\/((C9 K a).go i H/\∃ N:L2.St->Hp->Prop,(∀ σ' H',N σ' H'->∃ m',m'<m/\W (i+1) m' σ' H')/\∀ x H',(C9 K a).yld i H x H'->g x σ H' λσ2 H2=>tb { D with nx:=N,ct:=N,bk:=D.nx } σ2 H2)):l7 (wn K ta) g tb D σ H:=h
theorem vh:∀(l:List Pz.Rule)(k i:Nat),(Pz.en l k)[i]?=(l[i]?).map λr=>(((k+i:Nat):Int),r)
 | [],k,i=>by simp[Pz.en]
 |r::l,k,0=>by simp[Pz.en]
 |r::l,k,i+1=>by show(Pz.en l (k+1))[i]?=(l[i]?).map _;rw[vh l];congr 1;funext r;congr 2;lia
theorem wD {β:Type}(f:β->Int×Pz.Rule->β)(b:β){l:List Pz.Rule}{i:Nat}{r:Pz.Rule}(h:l[i]?=some r):((Pz.en l 0).take (i+1)).foldl f b=f (((Pz.en l 0).take i).foldl f b) ((i:Int),r):=by
 have e:(Pz.en l 0)[i]?=some ((i:Int),r):=by rw[vh,h];simp
 rw[KL,e,Kv];rfl
structure HouseAt (H:Hp) (RL:List Pz.Rule) (p l:Addr) (vs:List V):Prop where
 tup:∃ w0 w1,H p=some (.tup [w0,w1,.ref l])
 lst:Rd H l (.lst vs)
 its:All2 (IsRule H) RL vs
theorem iW (s:Same H H')(h:Rd H a u):Rd H' a u:=h.imp (s a _) λ⟨o,e⟩=>⟨o,s a _ e⟩
theorem HouseAt.same (h:HouseAt H RL p l vs)(s:Same H H'):HouseAt H' RL p l vs:=⟨let ⟨w0,w1,e⟩:=h.tup;⟨w0,w1,s _ _ e⟩,iW s h.lst,h.its.mono (IsRule.keep (iV s))⟩
noncomputable def Ck:Sp:=λvs H Q _=>∃(RL:List Pz.Rule)(p l:Addr)(ws:List V),vs=[.ref p]/\HouseAt H RL p l ws/\RL.length<16000000/\
 ∀(ar:Addr)(xr:DX (List Key))(H':Hp),Same H H'->DL .dT H' ar xr->RepM k2 IsNum H' (Pz.cY RL) xr->(∀ c,InD ar xr c->H c=none)->Q (.ref ar) H'
noncomputable def H_:R2:=xj λi j=>.bl (decide (j<i))
noncomputable def Ia (K:MI):TS:=
 dc (mW lc (aZ 1))
 (dc (l7 (wn K (av (tI K 0 2) ba)) (mV K 2 (b8 (aZ 2) (b8 (aZ 3) mU)))
   (xf (mZ (k9 H_ (CO (wA K) (av (tI K 3 3) ba)) (tC (.int 0))))
     (cv (lW K (ay 1) (ia (av (tI K 3 2) (av (k9 (ph K) (tI K 3 3) (tC (.int 0))) ba))) (ia (av (ay 2) (av (ay 3) ba))))) ss))
 (su (ay 1)))
theorem Aw (h:Ck vs H Q E):vs.length=1:=by obtain⟨_,_,_,_,rfl,_⟩:=h;rfl
theorem qC (hto:qz to σ H (.ref a))(hr:H a=some (.dT kvs))(hk:Makes tk σ H ks)(h:∀ b,H b=none->lW K (tC (.ref a)) (tC (.ref b)) te σ (aG H b (.tup ks)) Q):lW K to tk te σ H Q:=hto _ ⟨.inr (.inr (.inl ⟨rfl,.inr ⟨_,hr⟩⟩)),hk _ λb hb=>(h b hb).2⟩
theorem Cm (h:Ck vs H Q E):Ia K { nx:=λ_ H'=>Q .non H',rt:=Q } (bJ ["house", "rules", "number", "rule"] vs) H:=by
 obtain⟨RL,p,l,ws,rfl,G,aR,k⟩:=h;intro ar har;have s1:Same H (aG H ar (.dT [])):=aE har;have G1:=G.same s1;dsimp only[aZ];refine qB ?_;obtain⟨w0,w1,hp⟩:=G1.tup;refine⟨_,rfl,p,_,2,_,rfl,rfl,SqT.of hp,rfl,l,ws,rfl,.inl G1.lst,?_⟩;have bl:∀ i,(((Pz.en RL 0).take i).foldl Pz.dj []).Ok/\(((Pz.en RL 0).take i).foldl Pz.dj []).flat.length<16000000:=λi=>by obtain⟨a,b⟩:=Pz.u_ ((Pz.en RL 0).take i) [] Pz.qy;have h1:=Lf i (Pz.en RL 0);rw[Pz.lC]at h1;have h2:(Pz.MD.flat ([]:Pz.RS)).length=0:=rfl;exact⟨a,by lia⟩
 refine wC (K:=K) (vs:=ws) (λσ=>∃ u v,σ=[some (.ref p),some (.ref ar),u,v]) (λi H2=>∃ xr,Same H H2/\DL .dT H2 ar xr/\RepM k2 IsNum H2 (((Pz.en RL 0).take i).foldl Pz.dj []) xr/\∀ c,InD ar xr c->H c=none) ⟨none,none,rfl⟩ ⟨[],s1,⟨af,λ_ h=>(IB h).elim,IX,IX⟩,.nil,λc i=>?_⟩ (λi H2 ⟨xr,s2,_⟩=>.inl (iW s2 G.lst)) ?_ ?_
 .rcases i with rfl|⟨x,hx,_⟩
  .exact har
  .exact(IB hx).elim
 .rintro i v pp σ H2 hv hpp ⟨u,w,rfl⟩ ⟨xr,s2,D2,R2,n2⟩;obtain⟨r,hr,c,q,rfl,hc,hq⟩:=G.its.get hv;have e1:((Pz.en RL 0).take (i+1)).foldl Pz.dj []=Pz.dj (((Pz.en RL 0).take i).foldl Pz.dj []) ((i:Int),r):=wD _ _ hr;have bl1:=bl i;generalize ((Pz.en RL 0).take i).foldl Pz.dj []=d at R2 e1 bl1;generalize ht:[V.int (i:Nat),V.ref c]=tw;have s3:Same H2 (aG H2 pp (.tup tw)):=aE hpp;have hpp3:aG H2 pp (.tup tw) pp=some (.tup [V.int (i:Nat),V.ref c]):=by rw[af,ht]
  have D3:DL .dT (aG H2 pp (.tup tw)) ar xr:=D2.keep λc u e _=>s3 c u e;have R3:RepM k2 IsNum (aG H2 pp (.tup tw)) d xr:=R2.keep (IsNum.keep (iV s3));have s03:=s2.trans s3;have hc3:=s03 _ _ hc;have hq3:=s03 _ _ hq;generalize aG H2 pp (.tup tw)=H3 at s3 hpp3 D3 R3 s03 hc3 hq3;refine⟨pp,_,rfl,SqT.of hpp3,rfl,_,_,rfl,_,_,rfl,rfl,?_⟩;refine⟨_,rfl,c,_,3,_,rfl,rfl,SqT.of hc3,rfl,q,_,rfl,.inr (SqT.of hq3),_,_,rfl,rfl,_,rfl,?_⟩;have e2:(0:Int)<(((r.2.2.2.map V.int).length:Nat):Int)↔r.2.2.2.length>0:=by rw[Ik];lia
  rw[e1];unfold Pz.dj;refine zj (λh=>?_) (λh=>?_)
  .have h1:r.2.2.2.length>0:=e2.mp (Ji h);rw[Il (show((i:Int),r).2.2.2.2.length>0 from h1)];have hat:(r.2.2.2.map V.int)[0]?=some (.int (r.2.2.2[0]?.getD 0)):=by
    cases hl:r.2.2.2 with
    |nil=>rw[hl]at h1;simp at h1
    |cons x y=>rfl
   refine qC (a:=ar) (ks:=[.int r.2.2.1,.int (r.2.2.2[0]?.getD 0)]) (λQ q=>⟨_,rfl,q⟩) D3.root (λQ' hQ=>⟨_,rfl,c,_,2,_,rfl,rfl,SqT.of hc3,rfl,_,rfl,c,_,3,_,rfl,rfl,SqT.of hc3,rfl,q,_,0,_,rfl,rfl,SqT.of hq3,vR (j:=0) hat,(by show 2<=sizeLine;decide),hQ⟩) λb hb=>?_;have s4:Same H3 (aG H3 b (.tup [.int r.2.2.1,.int (r.2.2.2[0]?.getD 0)])):=aE hb;have hb4:aG H3 b (.tup [.int r.2.2.1,.int (r.2.2.2[0]?.getD 0)]) b=some (.tup [.int r.2.2.1,.int (r.2.2.2[0]?.getD 0)]):=af;have D4:DL .dT (aG H3 b (.tup [.int r.2.2.1,.int (r.2.2.2[0]?.getD 0)])) ar xr:=D3.keep λc u e _=>s4 c u e;have R4:=R3.keep (IsNum.keep (iV s4));generalize aG H3 b (.tup [.int r.2.2.1,.int (r.2.2.2[0]?.getD 0)])=H4 at s4 hb4 D4 R4;refine mG (a:=ar) (b:=b) (xs:=xr) (k:=k2 (r.2.2.1,r.2.2.2[0]?.getD 0)) (ws:=[.int (i:Nat),.ref c]) D4 (λQ q=>q) (λQ q=>q) hb4 (λH' _ Q q=>⟨_,rfl,_,rfl,(by show 2<=sizeLine;decide),q⟩) (by rw[<- R4.len];have:=Pz.fM bl1.1;lia) (R4.low bl1.2) ?_;intro l5 p5 H5 hl5 hp5 hm5 hd5 kp5;have kt5:=D4.kt (λ_ _ z=>HO.noConfusion z) kp5;have s05:Same H H5:=λc u e=>kp5 c u (s4 _ _ (s03 _ _ e)) λz=>by rw[n2 c z]at e;cases e
   refine⟨⟨_,_,rfl⟩,_,s05,hd5,R4.add (k:=(r.2.2.1,r.2.2.2[0]?.getD 0)) (v:=((i:Int),r)) lE (IsNum.keep kt5) ⟨p5,_,rfl,hm5,c,q,rfl,s05 _ _ hc,s05 _ _ hq⟩,λc z=>?_⟩;rcases gk z with z|rfl
   .exact n2 c z
   .exact(s03.trans s4).free hl5
  .have h1:¬ r.2.2.2.length>0:=λz=>h (IA (e2.mpr z));rw[Ij (show ¬ ((i:Int),r).2.2.2.2.length>0 from h1)];exact⟨⟨_,_,rfl⟩,xr,s03,D3,R3,n2⟩
 .rintro σ H2 ⟨u,w,rfl⟩ ⟨xr,s2,D2,R2,n2⟩;refine⟨_,rfl,k ar xr H2 s2 D2 ?_ n2⟩;rw[Jo (by rw[Pz.lC,G.its.len];exact Ih _)]at R2;exact R2
end
section
variable {K:MI}{CP CQ:Addr}{H:Hp}
noncomputable def mK (CP CQ:Addr):Sp:=λvs H Q _=>∃(B:Hp)(RL:List Pz.Rule)(o dx p l:Addr)(ws:List V),vs=[.ref o,.ref p]/\H o=some (.ins CP dx [])/\Same B H/\B o=none/\HouseAt H RL p l ws/\RL.length<16000000/\
 ∀(A:PA)(xr:DX (List Key))(H':Hp),A.o=o->PAt CP CQ B H' A (Pz.cY RL) Pz.S0 [] [] xr->Q .non H'
noncomputable def E3 (K:MI)(CQ:Addr):TS:=
 dc (qJ K (ay 0) (vN Ck [] E0 (av (ay 1) ba)) "rules")
 (dc (qJ K (ay 0) lc "told")
 (dc (qJ K (ay 0) (vP CQ (mH CQ) [] E0 ba) "offers")
 (dc (qJ K (ay 0) lc "settled")
 (qJ K (ay 0) lc "lacking"))))
theorem tR (h:mK CP CQ vs H Q E):vs.length=2:=by obtain⟨_,_,_,_,_,_,_,rfl,_⟩:=h;rfl
theorem vi (TP:PCls K CP)(h:mK CP CQ vs H Q E):E3 K CQ { nx:=λ_ H'=>Q .non H',rt:=Q } (bJ N vs) H:=by
 obtain⟨B,RL,o,dx,p,l,ws,rfl,ho,sb,nb,G,aR,k⟩:=h;refine⟨_,rfl,RL,p,l,ws,rfl,G,aR,λar xr H1 s1 D1 R1 n1=>?_⟩;have ho1:=s1 _ _ ho;have nor:∀ c,InD ar xr c->c≠o:=λc i z=>by rw[z]at i;rw[n1 o i]at ho;cases ho
 refine⟨_,rfl,o,CP,dx,_,rfl,ho1,TP.cl,TP.nr,(by show 0<1000;decide),?_⟩;generalize hH2:aG H1 o (.ins CP dx (fw "rules" (.ref ar) []))=H2;have ho2:H2 o=some (.ins CP dx [("rules",.ref ar)]):=by rw[<- hH2,af];rfl
 have kp2:∀ c u,H1 c=some u->c≠o->H2 c=some u:=λc u e n=>by rw[<- hH2,ac n];exact e
 intro ta hta;have e3:aG H2 ta (.dT []) o=some (.ins CP dx [("rules",.ref ar)]):=by rw[ac (ah ho2 hta)];exact ho2
 refine⟨_,rfl,o,CP,dx,_,rfl,e3,TP.cl,TP.nt,(by show 1<1000;decide),?_⟩;generalize hH4:aG (aG H2 ta (.dT [])) o (.ins CP dx (fw "told" (.ref ta) [("rules",.ref ar)]))=H4;have no_ta:ta≠o:=(ah ho2 hta).symm;have ho4:H4 o=some (.ins CP dx [("rules",.ref ar),("told",.ref ta)]):=by rw[<- hH4,af];rfl
 have ta4:H4 ta=some (.dT []):=by rw[<- hH4,ac no_ta,af]
 have kp4:∀ c u,H2 c=some u->c≠o->H4 c=some u:=λc u e n=>by rw[<- hH4,ac n,ac (ah e hta)];exact e
 intro aq dq haq hdq ndq;refine⟨aq,dq,rfl,af,λap H5 hap hq5 hp5 kp5=>⟨rfl,?_⟩⟩;have kp5':∀ c u,H4 c=some u->H5 c=some u:=λc u e=>kp5 c u (by rw[ac (ah e haq),ac (ah e hdq)];exact e) (ah e haq);have ap4:H4 ap=none:=by
  have h1:ap≠aq:=λz=>by rw[z,af]at hap;cases hap
  have h2:ap≠dq:=λz=>by rw[z,ac ndq,af]at hap;cases hap
  rw[ac h1,ac h2]at hap;exact hap
 have apq:ap≠aq:=λz=>by rw[z,af]at hap;cases hap
 refine⟨_,rfl,o,CP,dx,_,rfl,kp5' _ _ ho4,TP.cl,TP.no,(by show 2<1000;decide),?_⟩;generalize hH6:aG H5 o (.ins CP dx (fw "offers" (.ref aq) [("rules",.ref ar),("told",.ref ta)]))=H6;have noq:aq≠o:=λz=>by rw[z,ho4]at haq;cases haq
 have nop:ap≠o:=λz=>by rw[z,ho4]at ap4;cases ap4
 have ho6:H6 o=some (.ins CP dx [("rules",.ref ar),("told",.ref ta),("offers",.ref aq)]):=by rw[<- hH6,af];rfl
 have kp6:∀ c u,H5 c=some u->c≠o->H6 c=some u:=λc u e n=>by rw[<- hH6,ac n];exact e
 intro sa hsa;have nsa:sa≠o:=(ah ho6 hsa).symm;refine⟨_,rfl,o,CP,dx,_,rfl,(by rw[ac (ah ho6 hsa)];exact ho6),TP.cl,TP.ns,(by show 3<1000;decide),?_⟩;generalize hH8:aG (aG H6 sa (.dT [])) o (.ins CP dx (fw "settled" (.ref sa) [("rules",.ref ar),("told",.ref ta),("offers",.ref aq)]))=H8;have ho8:H8 o=some (.ins CP dx [("rules",.ref ar),("told",.ref ta),("offers",.ref aq),("settled",.ref sa)]):=by rw[<- hH8,af];rfl
 have sa8:H8 sa=some (.dT []):=by rw[<- hH8,ac nsa,af]
 have kp8:∀ c u,H6 c=some u->c≠o->H8 c=some u:=λc u e n=>by rw[<- hH8,ac n,ac (ah e hsa)];exact e
 intro la hla;have nla:la≠o:=(ah ho8 hla).symm;refine⟨_,rfl,o,CP,dx,_,rfl,(by rw[ac (ah ho8 hla)];exact ho8),TP.cl,TP.nl,(by show 4<1000;decide),?_⟩;generalize hH9:aG (aG H8 la (.dT [])) o (.ins CP dx (fw "lacking" (.ref la) [("rules",.ref ar),("told",.ref ta),("offers",.ref aq),("settled",.ref sa)]))=H9;have ho9:H9 o=some (.ins CP dx (pf ⟨o,ta,aq,ap,sa,la,ar⟩)):=by rw[<- hH9,af];rfl
 have la9:H9 la=some (.dT []):=by rw[<- hH9,ac nla,af]
 have kp9:∀ c u,H8 c=some u->c≠o->H9 c=some u:=λc u e n=>by rw[<- hH9,ac n,ac (ah e hla)];exact e
 have sa9:=kp9 _ _ sa8 nsa;have k69:∀ c u,H6 c=some u->c≠o->H9 c=some u:=λc u e n=>kp9 c u (kp8 c u e n) n;have k59:∀ c u,H5 c=some u->c≠o->H9 c=some u:=λc u e n=>k69 c u (kp6 c u e n) n;have k49:∀ c u,H4 c=some u->c≠o->H9 c=some u:=λc u e n=>k59 c u (kp5' c u e) n;have k19:∀ c u,H1 c=some u->c≠o->H9 c=some u:=λc u e n=>k49 c u (kp4 c u (kp2 c u e n) n) n;have fr:∀ c,H9 c≠none->H c=none->B c=none:=λc _ e=>sb.free e;have oldR:∀ c,InD ar xr c->H1 c≠none:=λc i=>D1.obj i;have n1_ta:H1 ta=none:=by
  cases e:H1 ta with
  |none=>rfl
  |some u=>rw[kp2 _ _ e no_ta]at hta;cases hta
 have n4_up:∀ c,H4 c=none->c≠o->H1 c=none/\c≠ta:=λc e n=>by
  refine⟨?_,λz=>by rw[z,ta4]at e;cases e⟩;cases e':H1 c with
  |none=>rfl
  |some u=>rw[kp4 _ _ (kp2 _ _ e' n) n]at e;cases e
 have n5_up:∀ c,H5 c=none->c≠o->H4 c=none/\c≠aq/\c≠ap:=λc e n=>by
  refine⟨?_,(λz=>by rw[z,hq5]at e;cases e),λz=>by rw[z,hp5]at e;cases e⟩;cases e':H4 c with
  |none=>rfl
  |some u=>rw[kp5' _ _ e']at e;cases e
 have n6_up:∀ c,H6 c=none->H5 c=none:=λc e=>by
  cases e':H5 c with
  |none=>rfl
  |some u=>
   by_cases n:c=o
   .rw[n,ho6]at e;cases e
   .rw[kp6 _ _ e' n]at e;cases e
 have n8_up:∀ c,H8 c=none->H6 c=none/\c≠sa:=λc e=>by
  refine⟨?_,λz=>by rw[z,sa8]at e;cases e⟩;cases e':H6 c with
  |none=>rfl
  |some u=>
   by_cases n:c=o
   .rw[n,ho8]at e;cases e
   .rw[kp8 _ _ e' n]at e;cases e
 obtain⟨la6,la_sa⟩:=n8_up la hla;obtain⟨la4,la_aq,la_ap⟩:=n5_up la (n6_up la la6) nla;obtain⟨la1,la_ta⟩:=n4_up la la4 nla;obtain⟨sa4,sa_aq,sa_ap⟩:=n5_up sa (n6_up sa hsa) nsa;obtain⟨sa1,sa_ta⟩:=n4_up sa sa4 nsa;obtain⟨aq1,aq_ta⟩:=n4_up aq haq noq;obtain⟨ap1,ap_ta⟩:=n4_up ap ap4 nop;have H0of:∀ c,H1 c=none->H c=none:=λc e=>s1.free e;have same:Same B H9:=λc u e=>k19 c u (s1 c u (sb c u e)) λz=>by rw[z,nb]at e;cases e
 have inNil:∀{a c:Addr},InD a ([]:DX (List Key)) c->c=a:=λi=>i.elim id λ⟨x,hx,_⟩=>(IB hx).elim
 classical
 refine k ⟨o,ta,aq,ap,sa,la,ar⟩ xr H9 rfl ⟨[],[],λc=>if c=o then 6 else if c=ta then 5 else if c=aq then 7 else if c=ap then 1 else if c=sa then 2 else if c=la then 3 else 4,same,⟨⟨?_,λ_ h=>(IB h).elim,IX,IX⟩,.nil,λc i=>?_⟩,⟨⟨sa9,λ_ h=>(IB h).elim,IX,IX⟩,.nil,λc i=>?_⟩,⟨⟨la9,λ_ h=>(IB h).elim,IX,IX⟩,.nil,λc i=>?_⟩,⟨D1.keep λc u e i=>k19 c u e (nor c i),R1.keep (IsNum.keep λc ws e=>k19 c _ e λz=>by rw[z,ho1]at e;cases e),λc i=>?_⟩,⟨dx,ho9⟩,⟨dq,k59 _ _ hq5 noq⟩,k49 _ _ ta4 no_ta,.nil,?_,?_,?_⟩
 .exact k59 _ _ hp5 nop
 .have:c=ap:=i.elim id λ⟨x,hx,_⟩=>(IB hx).elim;subst this;exact⟨by rw[Ij nop,Ij ap_ta,Ij apq,Il rfl],sb.free (H0of _ ap1)⟩
 .have:=inNil i;dsimp only at this;subst this;exact⟨by rw[Ij nsa,Ij sa_ta,Ij sa_aq,Ij sa_ap,Il rfl],sb.free (H0of _ sa1)⟩
 .have:=inNil i;dsimp only at this;subst this;exact⟨by rw[Ij nla,Ij la_ta,Ij la_aq,Ij la_ap,Ij la_sa,Il rfl],sb.free (H0of _ la1)⟩
 .have hc:=oldR c i;refine⟨?_,sb.free (n1 c i)⟩;rw[Ij (nor c i),Ij (λz=>hc (by rw[z];exact n1_ta)),Ij (λz=>hc (by rw[z];exact aq1)),Ij (λz=>hc (by rw[z];exact ap1)),Ij (λz=>hc (by rw[z];exact sa1)),Ij (λz=>hc (by rw[z];exact la1))]
 .exact⟨by rw[Ij no_ta,Il rfl],sb.free (H0of _ n1_ta)⟩
 .exact⟨Il rfl,nb⟩
 .exact⟨by rw[Ij noq,Ij aq_ta,Il rfl],sb.free (H0of _ aq1)⟩
end
noncomputable def aQ (a:Pz.Arr):D:=.tup [.int a.1,.int a.2.1,.int a.2.2]
noncomputable def aL (r:Pz.Rule):D:=.tup [.int r.1,.int r.2.1,.int r.2.2.1,.tup (r.2.2.2.map .int)]
noncomputable def oD:Option Int->D
 |none=>.non
 |some i=>.int i
noncomputable def iF (x:Pz.Val):D:=.tup [.int x.1,oD x.2.1,oD x.2.2]
noncomputable def aP (t:Pz.TD):D:=.dic (t.map λx=>.inr (ak x.1)) (t.map λx=>iF x.2)
def og (ds:List D)(t:Pz.TD):Prop:=∃(RL:List Pz.Rule)(M:List Pz.Arr)(h0 h1 m0 m2:D)(n:Nat)(T:Pz.PS),ds=[.tup [h0,h1,.lst (RL.map aL)],.tup [m0,.lst (M.map aQ),m2]]/\RL.length<16000000/\Pz.Fit (Pz.n_ ao RL M)/\Pz.Loop ao (Pz.cY RL) n (Pz.n_ ao RL M) T/\t=T.told
open Classical in
noncomputable def Gp (Fr:List D->Res R)(ds:List D):Res R:=match Fr ds with
 | .ok _=>if h:∃ t,og ds t then .ok (.fre (aP (Classical.choose h))) else .stuck
 | .exc c=>.exc c
 | .stuck=>.stuck
theorem Ax:∀{ns:List Int}{vs:List V},IsAll H m (ns.map .int) vs->vs=ns.map .int
 | [],vs,h=>h
 |n::ns,vs,h=>by obtain⟨v,r,rfl,h1,h2⟩:=h;rw[Ax h2,show v=.int n from h1];rfl
theorem E4 (h:Is H m (aL r) v):IsRule H r v:=by obtain⟨a,vs,rfl,ha,v0,r0,rfl,e0,v1,r1,rfl,e1,v2,r2,rfl,e2,v3,r3,rfl,⟨q,ws,rfl,hq,hw⟩,rfl⟩:=h;obtain rfl:v0=.int r.1:=e0;obtain rfl:v1=.int r.2.1:=e1;obtain rfl:v2=.int r.2.2.1:=e2;exact⟨a,q,rfl,ha,by rw[hq,Ax hw]⟩
theorem Gq (h:Is H m (aQ r) v):IsArr H r v:=by obtain⟨a,vs,rfl,ha,v0,r0,rfl,e0,v1,r1,rfl,e1,v2,r2,rfl,e2,rfl⟩:=h;obtain rfl:v0=.int r.1:=e0;obtain rfl:v1=.int r.2.1:=e1;obtain rfl:v2=.int r.2.2:=e2;exact⟨a,rfl,ha⟩
theorem Ay {α:Type}{H:Hp}{m:Addr->Prop}{f:α->D}{it:α->V->Prop}(hf:∀ x v,Is H m (f x) v->it x v):∀{xs:List α}{vs:List V},IsAll H m (xs.map f) vs->All2 it xs vs
 | [],vs,h=>by cases (show vs=[] from h);exact .nil
 |x::xs,vs,h=>by obtain⟨v,r,rfl,h1,h2⟩:=h;exact .cons (hf x v h1) (Ay hf h2)
theorem Dj (h:Is H m (.lst ds) v):∃ a vs,v=.ref a/\Rd H a (.lst vs)/\IsAll H m ds vs:=by obtain⟨a,vs,rfl,h1,h2⟩:=h;exact⟨a,vs,rfl,h1.imp And.left λ⟨o,e,_⟩=>⟨o,e⟩,h2⟩
theorem HE (RL:List Pz.Rule):E1 (Pz.cY RL):=λk x hx=>by
 rcases (Pz.rN _ _ _ _).mp hx with h|⟨_,y,l,e,_⟩
 .exact(IB h).elim
 .rw[e];simp
section
variable {K:MI}{CP CQ:Addr}{H:Hp}
noncomputable def Co (K:MI)(mg:Str->Option MK)(Fr:List D->Res R)(CP CQ:Addr)(E:XK):TS:=
 dc (cv (vN (pD mg 2 Fr) [] E (av (ay 0) (av (ay 1) ba))))
 (dc (mW (vP CP (mK CP CQ) [] E0 (av (ay 0) ba)) (aZ 2))
 (dc (l7 (ku K (tI K 1 1)) (aZ 3) (cv (dL CP "offer" (fF CP CQ) [] E0 (ay 2) (av (ay 3) (av (tC (.int 0)) (av (tC .non) (av (tC .non) ba)))))))
 (dc (l7 (wn K (av (tI K 0 2) ba)) (mV K 2 (b8 (aZ 4) (b8 (aZ 5) mU)))
   (xf (mZ (k9 FI (CO (wA K) (av (tI K 5 3) ba)) (tC (.int 0))))
     (cv (dL CP "offer" (fF CP CQ) [] E0 (ay 2) (av (ia (av (tI K 5 0) (av (tI K 5 1) (av (tI K 5 2) ba)))) (av (tC (.int 1)) (av (ay 4) (av (tC .non) ba)))))) ss))
 (dc (cv (dL CP "settle_all" (wB CP CQ) [] E0 (ay 2) ba))
 (su (dJ K (ay 2) "told"))))))
theorem E5 (A:PA):(pf A).lookup ("settle_all" : Str)=none:=rfl
theorem Az:∀{t:Pz.TD}{kt:List (List Key×V)},RepT H t kt->(t.map λx=>(Sum.inr (ak x.1):DK))=kt.map (λp=>.inr p.1)/\IsAll H m (t.map λx=>iF x.2) (kt.map Prod.snd)
 | [],_,.nil=>⟨rfl,rfl⟩
 |x::t,y::kt,.cons ⟨e,p,hp,hv⟩ r=>by
  obtain⟨r1,r2⟩:=Az (m:=m) r;have ho:∀ o:Option Int,Is H m (oD o) (vO o):=λo=>by cases o<;>rfl
  exact⟨by rw[Im,Im,e,r1],y.2,_,rfl,⟨p,_,hp,hv,_,_,rfl,rfl,_,_,rfl,ho _,_,_,rfl,ho _,rfl⟩,r2⟩
theorem tS {mg:Str->Option MK} {Fr:List D->Res R} (TP:PCls K CP) (h:pD mg 2 (Gp Fr) vs H Q E):Co K mg Fr CP CQ E { nx:=λ_ H'=>Q .non H',rt:=Q } (bJ ["house", "machine", "pricing", "arrow", "number", "rule"] vs) H:=by
 obtain⟨hl,ds,Ma,is,post⟩:=h
 match vs,hl with
 | [v0,v1],_=>
 refine⟨_,rfl,_,rfl,rfl,ds,Ma,is,?_⟩;unfold Gp at post;cases hF:Fr ds with
 |stuck=>rw[hF]at post;exact post
 |exc c=>rw[hF]at post;exact post
 |ok r=>
  rw[hF]at post;dsimp only at post;by_cases hex:∃ t,og ds t
  case neg=>rw[dif_neg hex]at post;exact post.elim
  case pos=>
  rw[dif_pos hex]at post;have hch:=K8 hex;generalize Classical.choose hex=t at post hch;obtain⟨RL,M,d0,d1,m0,m2,n,T,rfl,aR,fit,lp,rfl⟩:=hch;intro v H1 s1 _;obtain⟨_,_,ev,⟨p0,_,rfl,hp0,w0,_,rfl,_,w1,_,rfl,_,w2,_,rfl,iw2,rfl⟩,_,_,ev2,⟨p1,_,rfl,hp1,y0,_,rfl,_,y1,_,rfl,iy1,y2,_,rfl,_,rfl⟩,rfl⟩:=is;cases ev;cases ev2;obtain⟨l,ws,rfl,hl,iR⟩:=Dj iw2;obtain⟨lm,wm,rfl,hlm,iM⟩:=Dj iy1;have G:HouseAt H RL p0 l ws:=⟨⟨_,_,hp0⟩,hl,Ay (λx v=>E4) iR⟩;have aM:All2 (IsArr H) M wm:=Ay (λx v=>Gq) iM;refine⟨_,rfl,λo dx ho hdx hne=>?_⟩;have s2:Same H1 (aG (aG H1 dx (.own o)) o (.ins CP dx [])):=λb u e=>by rw[ac (ah e ho),ac (ah e hdx)];exact e
  refine⟨H,RL,o,dx,p0,l,ws,rfl,af,s1.trans s2,s1.free ho,G.same (s1.trans s2),aR,λA xr H3 eA P=>⟨rfl,?_⟩⟩;subst eA;have g2:Pz.Grow (M.foldl (Pz.iB ao) Pz.S0) (Pz.n_ ao RL M):=Pz.bM _ (λS x=>by unfold Pz.cJ;split;exact Pz.bE _ _ _ _ _;exact .refl _) _ _;have fit1:=g2.fit fit;dsimp only[aZ];refine fV ?_;refine⟨_,rfl,p1,_,1,_,rfl,rfl,SqT.of (P.same _ _ hp1),rfl,lm,rfl,⟨wm,.inl (iW P.same hlm)⟩,?_⟩;refine wz (it:=IsArr) (vs:=wm) (its:=M) (λσ=>∃ u v w,σ=[some (.ref p0),some (.ref p1),some (.ref A.o),u,v,w]) (Pz.iB ao) Pz.S0 (λT H4=>PAt CP CQ H H4 A (Pz.cY RL) T [] [] xr) ⟨none,none,none,rfl⟩ P ?_ ?_ ?_
  .intro T' H4 P4;exact⟨iW P4.same hlm,aM.mono (IsArr.keep (iV P4.same))⟩
  .rintro i a v' σ H4 hi ⟨b,rfl,hb⟩ ⟨u,w,z,rfl⟩ P4;have P4':=P4;obtain⟨xp4,kt4,col4,Q4⟩:=P4';obtain⟨dx4,hi4⟩:=Q4.po.ins;refine⟨_,rfl,A.o,dx4,_,rfl,hi4,iE A,_,rfl,?_⟩;exact⟨H,A,_,_,[],[],xr,b,a,0,none,none,rfl,P4,hb,fW (step:=Pz.iB ao) (λS x=>Pz.bE S _ _ _ _) fit1 hi,λH5 P5=>⟨⟨_,_,_,rfl⟩,P5⟩⟩
  .rintro σ H4 ⟨u,w,z,rfl⟩ P4;dsimp only;refine qB ?_;refine⟨_,rfl,p0,_,2,_,rfl,rfl,SqT.of (P4.same _ _ hp0),rfl,l,ws,rfl,.inl (iW P4.same hl),?_⟩;refine wC (K:=K) (vs:=ws) (λσ=>∃ u v w,σ=[some (.ref p0),some (.ref p1),some (.ref A.o),u,v,w]) (λi H5=>PAt CP CQ H H5 A (Pz.cY RL) (((Pz.en RL 0).take i).foldl (Pz.cJ ao) (M.foldl (Pz.iB ao) Pz.S0)) [] [] xr) ⟨_,_,_,rfl⟩ P4 (λi H5 P5=>.inl (iW P5.same hl)) ?_ ?_
   .rintro i v' pp σ H5 hv hpp ⟨u',w',z',rfl⟩ P5;obtain⟨r,hr,c,q,rfl,hc,hq⟩:=G.its.get hv;have e1:=wD (Pz.cJ ao) (M.foldl (Pz.iB ao) Pz.S0) hr;have fitT:Pz.Fit (Pz.cJ ao (((Pz.en RL 0).take i).foldl (Pz.cJ ao) (M.foldl (Pz.iB ao) Pz.S0)) ((i:Int),r)):=fW (step:=Pz.cJ ao) (λS x=>by unfold Pz.cJ;split;exact Pz.bE _ _ _ _ _;exact .refl _) (its:=Pz.en RL 0) fit (by rw[vh,hr];simp);rw[e1];generalize ((Pz.en RL 0).take i).foldl (Pz.cJ ao) (M.foldl (Pz.iB ao) Pz.S0)=S5 at P5 fitT;have s6:Same H5 (aG H5 pp (.tup [.int (i:Nat),.ref c])):=aE hpp;have P6:=P5.more s6;have hpp6:aG H5 pp (.tup [.int (i:Nat),.ref c]) pp=some (.tup [.int (i:Nat),.ref c]):=af;generalize aG H5 pp (.tup [.int (i:Nat),.ref c])=H6 at s6 P6 hpp6;have hc6:=P6.same _ _ hc;have hq6:=P6.same _ _ hq;refine⟨pp,_,rfl,SqT.of hpp6,rfl,_,_,rfl,_,_,rfl,rfl,?_⟩;refine⟨_,rfl,c,_,3,_,rfl,rfl,SqT.of hc6,rfl,q,_,rfl,.inr (SqT.of hq6),rfl,_,rfl,?_⟩;have e2:(V.int (((r.2.2.2.map V.int).length:Nat):Int)=V.int 0)↔r.2.2.2.length=0:=by rw[Ik];exact⟨λe=>by injection e with e;lia,λe=>by rw[e];rfl⟩
    unfold Pz.cJ at fitT;unfold Pz.cJ;have P6':=P6;obtain⟨xp6,kt6,col6,Q6⟩:=P6';obtain⟨dx6,hi6⟩:=Q6.po.ins;refine zj (λh=>?_) (λh=>?_)
    .have h1:r.2.2.2.length=0:=e2.mp (Ji h);rw[Il (show((i:Int),r).2.2.2.2.length=0 from h1)]at fitT ⊢;refine⟨_,rfl,A.o,dx6,_,rfl,hi6,iE A,_,rfl,c,_,0,_,rfl,rfl,SqT.of hc6,rfl,_,rfl,c,_,1,_,rfl,rfl,SqT.of hc6,rfl,_,rfl,c,_,2,_,rfl,rfl,SqT.of hc6,rfl,(by show 3<=sizeLine;decide),λtt htt=>?_⟩;have s7:=aE (o:=HO.tup [.int r.1,.int r.2.1,.int r.2.2.1]) htt;refine⟨_,rfl,?_⟩;exact⟨H,A,_,_,[],[],xr,tt,(r.1,r.2.1,r.2.2.1),1,some (i:Int),none,rfl,P6.more s7,af,fitT,λH7 P7=>⟨⟨_,_,_,rfl⟩,P7⟩⟩
    .have h1:¬ r.2.2.2.length=0:=λz=>h (IA (e2.mpr z));rw[Ij (show ¬ ((i:Int),r).2.2.2.2.length=0 from h1)];exact⟨⟨_,_,_,rfl⟩,P6⟩
   .rintro σ H5 ⟨u',w',z',rfl⟩ P5;rw[Jo (by rw[Pz.lC,G.its.len];exact Ih _)]at P5;have P5':=P5;obtain⟨xp5,kt5,col5,Q5⟩:=P5';obtain⟨dx5,hi5⟩:=Q5.po.ins;refine⟨_,rfl,A.o,dx5,_,rfl,hi5,E5 A,H,A,_,_,T,[],[],xr,n,rfl,P5,HE RL,fit,lp,λH6 xs6 xl6 P6=>?_⟩;obtain⟨xp6,kt6,col6,Q6⟩:=P6;obtain⟨dx6,hi6⟩:=Q6.po.ins;refine⟨_,rfl,A.o,CP,dx6,_,_,rfl,hi6,TP.cl,TP.nt,Cf A,?_⟩;obtain⟨t1,t2⟩:=Az (m:=nl H H6) Q6.po.tr;exact post _ H6 Q6.same ⟨A.ta,kt6.map Prod.snd,rfl,⟨.inr ⟨kt6,.inl Q6.po.td,t1,rfl⟩,Q6.po.c5.2,⟨_,Q6.po.td,True.intro⟩⟩,t2⟩
end
theorem AA:∀{n:Nat}{S T:Pz.PS},Pz.Loop pile rs n S T->∀{m:Nat}{T':Pz.PS},Pz.Loop pile rs m S T'->T=T':=by
 intro n S T h;induction h with
 |done e=>
  intro m T' h';cases h' with
  |done _=>rfl
  |step hne=>exact(hne e).elim
 |step hne _ _ _ _ _ ih=>
  intro m T' h';cases h' with
  |done e=>exact(hne e).elim
  |step _ _ _ _ _ h'=>exact ih h'
theorem yu (h:aL r=aL s):r=s:=by
 have im:∀{l m:List Int},l.map D.int=m.map D.int->l=m:=λ{l m} e=>by
  induction l generalizing m with
  |nil=>cases m with
   |nil=>rfl
   |cons _ _=>cases e
  |cons x l ih=>cases m with
   |nil=>cases e
   |cons y m=>rw[Im,Im]at e;injection e with e1 e2;injection e1 with e1;rw[e1,ih e2]
 unfold aL at h;injection h with h;injection h with h0 h;injection h with h1 h;injection h with h2 h;injection h with h3 h;injection h0 with h0;injection h1 with h1;injection h2 with h2;injection h3 with h3;exact La h0 (La h1 (La h2 (im h3)))
theorem AB (h:aQ r=aQ s):r=s:=by unfold aQ at h;injection h with h;injection h with h0 h;injection h with h1 h;injection h with h2 h;injection h0 with h0;injection h1 with h1;injection h2 with h2;exact La h0 (La h1 h2)
theorem rT {α:Type}{f:α->D}(hf:∀{x y},f x=f y->x=y):∀{l m:List α},l.map f=m.map f->l=m
 | [],[],_=>rfl
 | [],_::_,e=>nomatch e
 |_::_,[],e=>nomatch e
 |x::l,y::m,e=>by rw[Im,Im]at e;injection e with e1 e2;rw[hf e1,rT hf e2]
theorem E6 {Fr:List D->Res R}{h0 h1 m0 m2:D}{r:R}(hs:Pz.Set RL M U)(hr:Fr [.tup [h0,h1,.lst (RL.map aL)],.tup [m0,.lst (M.map aQ),m2]]=.ok r) :
 ∃ t,Gp Fr [.tup [h0,h1,.lst (RL.map aL)],.tup [m0,.lst (M.map aQ),m2]]=.ok (.fre (aP t))/\Pz.Good RL M U t:=by
 obtain⟨fit,n,T,lp,good⟩:=hs.run wx;have hl:RL.length<16000000:=by have:=hs.big;unfold Pz.L at this;lia
 have hex:∃ t,og [.tup [h0,h1,.lst (RL.map aL)],.tup [m0,.lst (M.map aQ),m2]] t:=⟨T.told,RL,M,h0,h1,m0,m2,n,T,rfl,hl,fit,lp,rfl⟩;refine⟨Classical.choose hex,?_,?_⟩
 .unfold Gp;rw[hr];dsimp only;rw[dif_pos hex]
 .obtain⟨RL',M',a0,a1,a2,a3,n',T',e,_,_,lp',e2⟩:=K8 hex;rw[e2];injection e with e3 e;injection e3 with e3;injection e3 with _ e3;injection e3 with _ e3;injection e3 with e3 _;injection e3 with e3;injection e with e _;injection e with e;injection e with _ e;injection e with e _;injection e with e;rw[<- rT (λh=>yu h) e3,<- rT (λh=>AB h) e]at lp';rw[<- AA lp lp'];exact good
structure Mt (K:MI) (C:Addr) (x q:Str) (st:Stmt) (ps:List Str) (f:Addr) (fd:FuncData):Prop where
 fu:Fun K x q st f fd
 bi:Binds K fd ps []
 me:Meth K C x f
theorem oh {K:MI}{C:Addr}{x q:Str}{st:Stmt}{ps:List Str}{f:Addr}{oc:MK}{od an:Option Addr}{osl:Array (Option MK)}{kV doc pm cdv ct:MK}
 (l:K.lookup f=some ⟨oc,od,.func (PySem.W.fnOf x q (defArgs st) (defBody st) (defScope st) .none kV doc pm an cdv ct),osl⟩) (c:PySem.W.codeIn K cdv q=true) (k:PySem.W.keepIn K (.ref f)=true) (a:PySem.W.findIn K (.ref C) x=some (some (.ref f))) (i:PySem.W.isFn K (.ref f)=true)
 (h:∀(kV doc pm:MK)(an:Option Addr)(cdv ct:MK)(us:List MK),us.length=ps.length->bindArgs (PySem.W.fnOf x q (defArgs st) (defBody st) (defScope st) .none kV doc pm an cdv ct) ⟨us,[]⟩=pure (ps.zip us)) :
 Mt K C x q st ps f (PySem.W.fnOf x q (defArgs st) (defBody st) (defScope st) .none kV doc pm an cdv ct):=
 have F:Fun K x q st f _:=lg l c k
 ⟨F,F.binds h,a,i,k⟩
section
variable {P:MJ}{w:World}{K:MI}{mg:Str->Option MK}{base:Heap}
end
theorem AC (hc:X.calm=true)(S:CScope X scope tN capN caps)(hi:PI X tg iter wi)(hs:autoParam (∀ x,foldedSetIterable iter X.env x=pure x) MP._auto_1) :
 PE X (.ListComp elt [⟨tg,iter,ifs,0⟩] scope pos) (tj X scope tg tN capN caps elt ifs wi):=λpins s σ H Q I h=>ti hc S I hi h hs
noncomputable def Dk (K:MI):List V->Hp->VK->Prop:=λxs H Q=>∃ p ns,xs=[.ref p]/\SqL K H p (ns.map V.int)/\ns≠[]/\Q (.int (rg ns)) H
theorem yw (hc:X.calm=true):CallR X (.builtin "min") (Dk X.K):=xM hc
theorem yx (h2:tN.length=2)(hg:∀ cl C s3 H3 fp,PG (bZ X scope (tN++[]) cl C s3 H3 fp) tg (mV X.K 2 (b8 (aZ 0) (b8 (aZ 1) mU))))(he:∀ cl C s3 H3 fp,PE (bZ X scope (tN++[]) cl C s3 H3 fp) elt (ay 0)) :
 Gj (CO (Dk X.K) (av (tj X scope tg tN [] [] elt [] (ku X.K (ay 1))) ba)):=by
 intro σ H a vs its Q h1 hl a2 hne aR k;refine⟨_,h1,a,rfl,⟨_,SqL.of hl⟩,?_⟩;intro Dl hD cl C s3 fp;have hDa:a≠Dl:=ah hl hD;have hlv:=a2.len;refine⟨_,_,_,λi m acc H'=>m=its.length-i/\i<=its.length/\acc=((its.take i).map λx=>V.int x.1)/\Same H H'/\H' Dl=some (.lst acc),hg cl C s3 _ fp,wj,he cl C s3 _ fp,⟨its.length,by simp,IR _,by simp,aE hD,af⟩,?_⟩;rintro i m acc H' ⟨rfl,hi,rfl,s,hDl⟩;have hl':=s _ _ hl;refine⟨hDl,?_⟩;by_cases hlt:i<its.length
 .right;have hiv:i<vs.length:=by lia
  refine⟨⟨vs,vs[i],SqL.of hl',by simp[hiv]⟩,λxv H'' o y ho=>?_⟩;obtain⟨rfl,y⟩:=y;have hx:=y vs (SqL.of hl');obtain⟨x,ex,p,w,rfl,hp,_⟩:=a2.get hx;rw[h2]at ho
  match o,ho with
  | [u0,u1],_=>
  refine⟨p,_,rfl,SqT.of (s _ _ hp),rfl,_,_,rfl,_,_,rfl,rfl,?_⟩;refine⟨λj hj=>?_,?_⟩
  .rw[h2]at hj
   match j,hj with
   |j+2,_=>rfl
  .refine xA ?_;refine⟨_,rfl,hDl,?_,its.length-(i+1),by lia,rfl,hlt,?_,λc u e=>?_,af⟩
   .rw[Ik,I_];have:=Lf i its;lia
   .rw[KL,ex,Jk];rfl
   .rw[ac (ah e hD)];exact s _ _ e
 .left;have ei:i=its.length:=by lia
  subst ei;refine⟨⟨vs,SqL.of hl',by lia⟩,Dl,its.map (·.1),rfl,?_,by simpa using hne,?_⟩
  .rw[List.take_length]at hDl;rw[Je];exact SqL.of hDl
  .rw[wy];exact k H' s
section
variable {β:Type}(eD:β->D)(el:Pz.Arr×Pz.Val->β)
noncomputable def jb (t:Pz.TD):Pz.MD (Int×Int) β:=t.foldl (λd x=>d.app (x.1.1,x.1.2.1) (el x)) []
noncomputable def lG (d:Pz.MD (Int×Int) β):D:=.dic (d.map λe=>.inr (k2 e.1)) (d.map λe=>.lst (e.2.map eD))
open Classical in
noncomputable def Gr (ds:List D):Res R:=match ds with
 | [d]=>if h:∃ t:Pz.TD,d=aP t/\t.length<16000000 then .ok (.fre (lG eD (jb el (Classical.choose h)))) else .stuck
 |_=>.stuck
end
theorem AD (h:iF a=iF b):a=b:=by
 have oi:∀{x y:Option Int},oD x=oD y->x=y:=λ{x y} e=>by
  cases x<;>cases y
  .rfl
  .cases e
  .cases e
  .injection e with e;rw[e]
 unfold iF at h;injection h with h;injection h with h0 h;injection h with h1 h;injection h with h2 h;injection h0 with h0;exact La h0 (La (oi h1) (oi h2))
theorem yy:∀{t s:Pz.TD},aP t=aP s->t=s:=by
 intro t s h;unfold aP at h;injection h with h1 h2;induction t generalizing s with
 |nil=>cases s with
  |nil=>rfl
  |cons _ _=>cases h1
 |cons x t ih=>cases s with
  |nil=>cases h1
  |cons y s=>rw[Im,Im]at h1 h2;injection h1 with a1 b1;injection h2 with a2 b2;rw[ih b1 b2,La (oe _ _ (Li a1)) (AD a2)]
theorem E7 {β:Type}{eD:β->D}{el:Pz.Arr×Pz.Val->β}{t:Pz.TD}(h:t.length<16000000):Gr eD el [aP t]=.ok (.fre (lG eD (jb el t))):=by have hex:∃ s:Pz.TD,aP t=aP s/\s.length<16000000:=⟨t,rfl,h⟩;unfold Gr;dsimp only;rw[dif_pos hex,<- yy (K8 hex).1]
theorem wF {β:Type}(el:Pz.Arr×Pz.Val->β):∀(t:Pz.TD)(d:Pz.MD (Int×Int) β),d.Ok->(t.foldl (λd x=>d.app (x.1.1,x.1.2.1) (el x)) d).Ok/\(t.foldl (λd x=>d.app (x.1.1,x.1.2.1) (el x)) d).flat.length=d.flat.length+t.length
 | [],d,h=>⟨h,rfl⟩
 |x::t,d,h=>by rw[J2,Iw];obtain⟨a,b⟩:=wF el t _ (Pz.lA h (x.1.1,x.1.2.1) (el x));have:=(Pz.di h.nk (x.1.1,x.1.2.1) (el x)).length_eq;rw[Iw]at this;exact⟨a,by lia⟩
section
variable {X:Cx}{K:MI}{H:Hp}{β:Type}{it:Hp->β->V->Prop}{eD:β->D}{el:Pz.Arr×Pz.Val->β}{ws:Pz.Arr×Pz.Val->Addr->List V}{te:TE}
noncomputable def Ib (X:Cx)(K:MI)(te:TE):TS:=
 dc (mW lc (aZ 1))
 (dc (λD σ H=>l7 (FR X (ay 0)) (mV K 2 (b8 (aZ 2) (b8 (aZ 3) mU)))
   (cv (lW K (ay 1) (ia (av (tI K 2 0) (av (tI K 2 1) ba))) te)) (G8 X D) σ H)
 (su (ay 1)))
structure GrOk (it:Hp->β->V->Prop) (eD:β->D) (el:Pz.Arr×Pz.Val->β) (ws:Pz.Arr×Pz.Val->Addr->List V) (te:TE):Prop where
 ma:∀(H:Hp)(x:Pz.Arr×Pz.Val)(b q:Addr)(v0 v1:Option V),H b=some (.tup (arrV x.1))->H q=some (.tup [.int x.2.1,vO x.2.2.1,vO x.2.2.2])->Makes te [v0,v1,some (.ref b),some (.ref q)] H (ws x b)
 is:∀(H:Hp)(x:Pz.Arr×Pz.Val)(b p:Addr),H b=some (.tup (arrV x.1))->H p=some (.tup (ws x b))->it H (el x) (.ref p)
 kp:∀{H H':Hp},KT H H'->∀ a v,it H a v->it H' a v
 d:∀(H:Hp)(m:Addr->Prop) a v,it H a v->Is H m (eD a) v
theorem Gs (h:Is H m (iF x) v):∃ q,v=.ref q/\H q=some (.tup [.int x.1,vO x.2.1,vO x.2.2]):=by
 obtain⟨a,vs,rfl,ha,v0,r0,rfl,e0,v1,r1,rfl,e1,v2,r2,rfl,e2,rfl⟩:=h;have ho:∀(o:Option Int)(v:V),Is H m (oD o) v->v=vO o:=λo v e=>by cases o<;>exact e
 obtain rfl:v0=.int x.1:=e0;rw[ho _ _ e1,ho _ _ e2]at ha;exact⟨a,rfl,ha⟩
theorem wG (O:GrOk it eD el ws te){t:Pz.TD}{B:Hp}{H1:Hp}{D:Ends}(aR:t.length<16000000)(hd:B d=some (.frz o u))(hk:(t.map λx=>(Sum.inr (ak x.1):DK))=kvs.map λp=>.inr p.1)(hall:∀(i:Nat)(x:Pz.Arr×Pz.Val)(p:List Key×V),t[i]?=some x->kvs[i]?=some p->∃ q,p.2=.ref q/\B q=some (.tup [.int x.2.1,vO x.2.2.1,vO x.2.2.2]))
 (har:B ar=none) (s1:Same B H1) (h1:H1 ar=some (.dT [])) {v0:V} (hend:∀ σ H2 xr,(∃ a b,σ=[some v0,some (.ref ar),a,b])->Same B H2->DL .dT H2 ar xr->RepM k2 it H2 (jb el t) xr->(∀ c,InD ar xr c->B c=none)->D.nx σ H2) :
 ∃ W:Nat->Nat->L2.St->Hp->Prop,(∃ m,W 0 m [some v0,some (.ref ar),none,none] H1)/\∀ i m σ H,W i m σ H->
  ((Er d o u kvs).stop i H/\D.nx σ H)\/((Er d o u kvs).go i H/\∃ N:L2.St->Hp->Prop,(∀ σ' H',N σ' H'->∃ m',m'<m/\W (i+1) m' σ' H')/\∀ x H',(Er d o u kvs).yld i H x H'->mV K 2 (b8 (aZ 2) (b8 (aZ 3) mU)) x σ H' λσ2 H2=>cv (lW K (ay 1) (ia (av (tI K 2 0) (av (tI K 2 1) ba))) te) { D with nx:=N,ct:=N,bk:=D.nx } σ2 H2):=by
 have hl:t.length=kvs.length:=by have:=JF List.length hk;simpa using this
 refine⟨λi m σ Hc=>m=t.length-i/\i<=t.length/\(∃ a b,σ=[some v0,some (.ref ar),a,b])/\∃ xr,Same B Hc/\DL .dT Hc ar xr/\RepM k2 it Hc (jb el (t.take i)) xr/\∀ c,InD ar xr c->B c=none,⟨t.length,by simp,IR _,⟨_,_,rfl⟩,[],s1,⟨h1,λ_ h=>(IB h).elim,IX,IX⟩,?_,λc i=>?_⟩,?_⟩
 .exact .nil
 .rcases i with rfl|⟨x,hx,_⟩
  .exact har
  .exact(IB hx).elim
 rintro i m σ H2 ⟨rfl,hi,⟨a2,a3,rfl⟩,xr,s2,D2,R2,n2⟩;by_cases hlt:i<t.length
 .refine .inr ⟨⟨s2 _ _ hd,by lia⟩,λσ' H'=>(∃ a b,σ'=[some v0,some (.ref ar),a,b])/\∃ xr,Same B H'/\DL .dT H' ar xr/\RepM k2 it H' (jb el (t.take (i+1))) xr/\∀ c,InD ar xr c->B c=none,λσ' H' p'=>⟨t.length-(i+1),by lia,rfl,hlt,p'⟩,λy H' z=>?_⟩;obtain⟨p,b,k,v,hp,rfl,hb,rfl,ek⟩:=z;have hx:t[i]?=some t[i]:=by simp[hlt]
  generalize t[i]=x at hx;have ek1:k=ak x.1:=by have:=JF (λl=>l[i]?) hk;simp only[IH,hx,ek,Option.map_some,Option.some.injEq,Sum.inr.injEq]at this;exact this.symm
  subst ek1;obtain⟨q,e,hq⟩:=hall i x _ hx ek;dsimp only at e;subst e;have hb:H2 b=some (.tup (arrV x.1)):=hb;have e1:jb el (t.take (i+1))=(jb el (t.take i)).app (x.1.1,x.1.2.1) (el x):=by unfold jb;rw[KL,hx,Kv];rfl
  have bl:=wF el (t.take i) [] Pz.qy;have hf:(Pz.MD.flat ([]:Pz.MD (Int×Int) β)).length=0:=rfl;have htl:=Lf i t;have bl2:(jb el (t.take i)).flat.length<16000000:=by have:=bl.2;unfold jb;lia
  have bl1:(jb el (t.take i)).Ok:=bl.1;clear bl;rw[e1];generalize jb el (t.take i)=dm at R2 bl1 bl2;have s3:Same H2 (aG H2 p (.tup [.ref b,.ref q])):=aE hp;have hp3:aG H2 p (.tup [.ref b,.ref q]) p=some (.tup [.ref b,.ref q]):=af;have D3:DL .dT (aG H2 p (.tup [.ref b,.ref q])) ar xr:=D2.keep λc u e _=>s3 c u e;have R3:=R2.keep (O.kp (iV s3));have s03:=s2.trans s3;have hb3:=s3 _ _ hb;have hq3:=s03 _ _ hq;generalize aG H2 p (.tup [.ref b,.ref q])=H3 at s3 hp3 D3 R3 s03 hb3 hq3;refine⟨p,_,rfl,SqT.of hp3,rfl,_,_,rfl,_,_,rfl,rfl,?_⟩;refine qC (a:=ar) (ks:=[.int x.1.1,.int x.1.2.1]) (λQ q=>⟨_,rfl,q⟩) D3.root (λQ' hQ=>⟨_,rfl,b,_,0,_,rfl,rfl,SqT.of hb3,rfl,_,rfl,b,_,1,_,rfl,rfl,SqT.of hb3,rfl,(by show 2<=sizeLine;decide),hQ⟩) λbb hbb=>?_;have s4:Same H3 (aG H3 bb (.tup [.int x.1.1,.int x.1.2.1])):=aE hbb;have hb4:aG H3 bb (.tup [.int x.1.1,.int x.1.2.1]) bb=some (.tup [.int x.1.1,.int x.1.2.1]):=af;have D4:DL .dT (aG H3 bb (.tup [.int x.1.1,.int x.1.2.1])) ar xr:=D3.keep λc u e _=>s4 c u e;have R4:=R3.keep (O.kp (iV s4));generalize aG H3 bb (.tup [.int x.1.1,.int x.1.2.1])=H4 at s4 hb4 D4 R4;have nt:∀ c vs,H4 c=some (.tup vs)->c≠ar:=λc vs e z=>by rw[z,D4.root]at e;cases e
  refine mG (a:=ar) (b:=bb) (xs:=xr) (k:=k2 (x.1.1,x.1.2.1)) (ws:=ws x b) D4 (λQ q=>q) (λQ q=>q) hb4 (λH' kp=>O.ma H' x b q _ _ (kp _ _ (s4 _ _ hb3) (nt _ _ (s4 _ _ hb3))) (kp _ _ (s4 _ _ hq3) (nt _ _ (s4 _ _ hq3)))) (by rw[<- R4.len];have:=Pz.fM bl1;lia) (R4.low bl2) ?_;intro l5 p5 H5 hl5 hp5 hm5 hd5 kp5;have kt5:=D4.kt (λ_ _ z=>HO.noConfusion z) kp5;have s05:Same B H5:=λc u e=>kp5 c u (s4 _ _ (s03 _ _ e)) λz=>by rw[n2 c z]at e;cases e
  refine⟨⟨_,_,rfl⟩,_,s05,hd5,R4.add (k:=(x.1.1,x.1.2.1)) (v:=el x) lE (O.kp kt5) (O.is H5 x b p5 (kt5 _ _ (s4 _ _ hb3)) hm5),λc z=>?_⟩;rcases gk z with z|rfl
  .exact n2 c z
  .exact(s03.trans s4).free hl5
 .refine .inl ⟨⟨s2 _ _ hd,by lia⟩,hend _ H2 xr ⟨_,_,rfl⟩ s2 D2 ?_ n2⟩;rw[Jo (by lia)]at R2;exact R2
theorem HF (O:GrOk it eD el ws te)(D2:DL .dT H' ar xr)(R2:RepM k2 it H' dm xr)(n:∀ c,InD ar xr c->H0 c=none):Is H' (nl H0 H') (lG eD dm) (.ref ar):=by
 have e:(dm.map λe=>(Sum.inr (k2 e.1):DK))=(DX.kv xr).map (λp=>.inr p.1):=by
  have h:∀{dm:Pz.MD (Int×Int) β}{xr:DX (List Key)},RepM k2 it H' dm xr->(dm.map λe=>(Sum.inr (k2 e.1):DK))=(DX.kv xr).map (λp=>.inr p.1):=λ{dm xr} R=>by
   induction R with
   |nil=>rfl
   |cons r _ ih=>unfold DX.kv at ih ⊢;rw[Im,Im,Im,ih,r.1]
  exact h R2
 refine⟨ar,(DX.kv xr).map Prod.snd,rfl,⟨.inr ⟨_,.inl D2.root,e,rfl⟩,n ar (.inl rfl),⟨_,D2.root,True.intro⟩⟩,?_⟩;have kid:=D2.kid;have n':∀ x∈xr,H0 x.2.1=none:=λx hx=>n _ (.inr ⟨x,hx,rfl⟩);clear e D2 n;induction R2 with
 |nil=>exact rfl
 | @cons x y dm xr r _ ih=>
  refine⟨.ref y.2.1,_,rfl,?_,ih (λz hz=>kid z (Ii _ hz)) λz hz=>n' z (Ii _ hz)⟩;have hy:=kid y Iq;refine⟨y.2.1,y.2.2,rfl,.inl ⟨hy,n' y Iq,⟨_,hy,True.intro⟩⟩,?_⟩;have a:=r.2;generalize x.2=xl at a;generalize y.2.2=yl at a;clear r hy ih;induction a with
  |nil=>exact rfl
  |cons h _ ih=>exact⟨_,_,rfl,O.d _ _ _ _ h,ih⟩
theorem Cp (O:GrOk it eD el ws te){mg:Str->Option MK}{vs:List V}{Q:VK}(hN:N.length=4)(h:pD mg 1 (Gr eD el) vs H Q E):Ib X K te { nx:=λ_ H'=>Q .non H',rt:=Q } (L2.bJ N vs) H:=by
 obtain⟨hl,ds,Ma,is,post⟩:=h
 match vs,hl with
 | [v0],_=>
 have est:L2.bJ N [v0]=[some v0,none,none,none]:=by unfold L2.bJ;rw[hN];rfl
 rw[est]
 match ds,is with
 | [d0],is=>
 obtain⟨v,r,ev,is0,e0⟩:=is;cases e0;cases ev;unfold Gr at post;dsimp only at post;by_cases hex:∃ t:Pz.TD,d0=aP t/\t.length<16000000
 case neg=>rw[dif_neg hex]at post;exact post.elim
 case pos=>
 rw[dif_pos hex]at post;have hch:=K8 hex;generalize Classical.choose hex=t at post hch;obtain⟨rfl,aR⟩:=hch;obtain⟨d,kvs,u,rfl,md,hu,hrd,hk,hall⟩:=u4 is0 (λk hk=>by obtain⟨x,_,rfl⟩:=Ir.mp hk;exact⟨_,rfl⟩);have CJ:qS u:=by rcases hu with rfl|⟨rfl,_⟩<;>exact True.intro
 have hall':∀(i:Nat)(x:Pz.Arr×Pz.Val)(p:List Key×V),t[i]?=some x->kvs[i]?=some p->∃ q,p.2=.ref q/\H q=some (.tup [.int x.2.1,vO x.2.2.1,vO x.2.2.2]):=λi x p hx hp=>by obtain⟨v',ev,iv⟩:=hall.get (i:=i) (d:=iF x.2) (by rw[IH,hx];rfl);rw[IH,hp]at ev;cases ev;exact Gs iv
 have fin:∀(ar:Addr)(H':Hp)(xr:DX (List Key)),Same H H'->DL .dT H' ar xr->RepM k2 it H' (jb el t) xr->(∀ c,InD ar xr c->H c=none)->Q (.ref ar) H':=λar H' xr s D2 R2 n=>post _ H' s (HF O D2 R2 n);clear post;intro ar har;have s1:Same H (aG H ar (.dT [])):=aE har;refine⟨_,rfl,d,kvs,u,rfl,hu,?_⟩;rcases hrd with hrd|⟨o,hrd⟩
 .right;have nda:d≠ar:=ah hrd har;refine⟨by rw[ac nda];exact hrd,λo hnf=>?_⟩;have cm:aG (aG H ar (.dT [])) d (.frz o u)=aG (aG H d (.frz o u)) ar (.dT []):=by funext c;unfold aG;by_cases a:c=d<;>by_cases b:c=ar<;>simp_all
  have harB:aG H d (.frz o u) ar=none:=by rw[ac (Jn nda)];exact har
  rw[cm];refine wG (K:=K) (D:=G8 X { nx:=λσ' H'=>(su (ay 1)) { nx:=λ_ H'=>Q .non H',rt:=Q } σ' H',rt:=Q }) O aR (B:=aG H d (.frz o u)) af hk (λi x p hx hp=>?_) harB (aE harB) af ?_
  .obtain⟨q,e,hq⟩:=hall' i x p hx hp;refine⟨q,e,?_⟩;rw[ac λz=>by rw[z,hrd]at hq;cases hq;rcases hu with z|⟨z,_⟩<;>cases z];exact hq
  .rintro σ H2 xr ⟨a,b,rfl⟩ s2 D2 R2 n2;refine .inr ⟨d,o,u,s2 _ _ af,CJ,hnf,?_⟩;have ndD:∀ c,InD ar xr c->c≠d:=λc hc z=>by have:=n2 c hc;rw[z,af]at this;cases this
   refine⟨_,rfl,fin ar _ xr (λc w e=>?_) (D2.keep λc w e i=>by rw[ac (ndD c i)];exact e) (R2.keep (O.kp λc ws e=>?_)) λc i=>?_⟩
   .by_cases z:c=d
    .rw[z]at e ⊢;rw[af,<- e,hrd]
    .rw[ac z];exact s2 c w (by rw[ac z];exact e)
   .rw[ac λz=>by rw[z,s2 _ _ af]at e;cases e];exact e
   .have:=n2 c i;rw[ac (ndD c i)]at this;exact this
 .left;refine⟨o,s1 _ _ hrd,?_⟩;refine wG (K:=K) (D:=G8 X { nx:=λσ' H'=>(su (ay 1)) { nx:=λ_ H'=>Q .non H',rt:=Q } σ' H',rt:=Q }) O aR (B:=H) hrd hk hall' har s1 af ?_;rintro σ H2 xr ⟨a,b,rfl⟩ s2 D2 R2 n2;exact .inl ⟨_,rfl,fin ar H2 xr s2 D2 R2 n2⟩
noncomputable def cZ (x:Int×Int):D:=.tup [.int x.1,.int x.2]
noncomputable def qD (x:Pz.Arr×Pz.Val):Int×Int:=(x.1.2.2,x.2.1)
theorem Cq:GrOk IsSet cZ qD (λx _=>[.int x.1.2.2,.int x.2.1]) (ia (av (tI K 2 2) (av (tI K 3 0) ba))) where
 ma:=λH x b q v0 v1 hb hq Q hQ=>⟨_,rfl,b,_,2,_,rfl,rfl,SqT.of hb,rfl,_,rfl,q,_,0,_,rfl,rfl,SqT.of hq,rfl,(by show 2<=sizeLine;decide),hQ⟩
 is:=λH x b p _ hp=>⟨p,rfl,hp⟩
 kp:=λk a v=>IsSet.keep k a v
 d:=λH m a v ⟨p,e,h⟩=>⟨p,_,e,h,_,_,rfl,rfl,_,_,rfl,rfl,rfl⟩
end
end L4
namespace L3
open PySem L2
section
variable {env bh:En}{i j:Nat}{d:D}{ds es:List D}{f g:Bool}{al bl:List Nat}{x y:Int}
noncomputable def kS (k:En->Res Fl):Fl->Res Fl
 | .nx bh=>k bh
 |r=>.ok r
theorem oj (f k:En->Res Fl)(env:En):bw f k env=(f env).bind (kS k):=by rfl
theorem vj (k:En->Res Fl)(e:En):kS k (.nx e)=k e:=(rfl)
theorem vk (k:En->Res Fl)(r:R):kS k (.rt r)=.ok (.rt r):=(rfl)
noncomputable def HG (a b:En->Res Fl)(env:En)(k:Bool):Res Fl:=if k then a env else b env
theorem vm (c:En->Res Bool)(a b:En->Res Fl)(env:En):yK c a b env=(c env).bind (HG a b env):=(rfl)
theorem ol (a b:En->Res Fl)(env:En):HG a b env true=a env:=(rfl)
theorem om (a b:En->Res Fl)(env:En):HG a b env false=b env:=(rfl)
theorem oo (env:En):nL env=.ok (.nx env):=(rfl)
noncomputable def Gu (r:R):Res Fl:=.ok (.rt r)
theorem oq (a:En->Res R)(env:En):hV a env=(a env).bind Gu:=(rfl)
theorem jn (r:R):Gu r=.ok (.rt r):=(rfl)
noncomputable def Gv (i:Nat)(env:En)(r:R):Res Fl:=if i<env.length then .ok (.nx (put env i r)) else .stuck
theorem ot (i:Nat)(a:En->Res R)(env:En):dE i a env=(a env).bind (Gv i env):=(rfl)
theorem jo (r:R)(h:i<env.length):Gv i env r=.ok (.nx (put env i r)):=Il h
theorem jp:put env i (.val d f [])=env.set i (some (.val d f)):=(rfl)
theorem jq:put env i (.new ds f)=env.set i (some (.own ds f)):=(rfl)
theorem jr:put env i (.fre d)=env.set i (some (.tre d)):=(rfl)
noncomputable def Gw (i:Nat):Option (Option Sl)->Res R
 |some (some (.val d fr))=>.ok (mkV d fr [])
 |some (some (.own ds fr))=>.ok (.val (.lst ds) fr [i])
 |some (some (.tre d))=>.ok (.val d true [i])
 |_=>.stuck
theorem ou (i:Nat)(env:En):aj i env=Gw i env[i]?:=by unfold aj Gw;rfl
theorem oz:Gw i (some (some (.val d f)))=.ok (mkV d f []):=(rfl)
theorem oA:Gw i (some (some (.own ds f)))=.ok (.val (.lst ds) f [i]):=(rfl)
theorem oB:Gw i (some (some (.tre d)))=.ok (.val d true [i]):=(rfl)
theorem Cr (d:D)(env:En):vC d env=.ok (.val d true []):=(rfl)
theorem iG (h:d.flat=true):mkV d f al=.val d true []:=by unfold mkV;rw[Il h]
theorem gm (h:d.flat=false):mkV d f al=.val d f al:=by unfold mkV;rw[Ij (by rw[h];simp)]
theorem cQ (h:D.flats ds=true):kM ds f al=.new ds true:=by unfold kM;rw[Il h]
theorem E8 (h:D.flats ds=false):kM ds f []=.new ds f:=by unfold kM;rw[Ij (by rw[h];simp)];rfl
theorem gn:kM ds true []=.new ds true:=by unfold kM;split<;>rfl
noncomputable def HR (op:R->R->Res R)(fb:En->Res R)(env:En)(ra:R):Res R:=(fb env).bind (op ra)
theorem tT (op:R->R->Res R)(fa fb:En->Res R)(env:En):v2 op fa fb env=(fa env).bind (HR op fb env):=(rfl)
theorem jc (op:R->R->Res R)(fb:En->Res R)(env:En)(ra:R):HR op fb env ra=(fb env).bind (op ra):=(rfl)
theorem oC:cn (.val (.int x) f al) (.val (.int y) g bl)=.ok (.val (.int (x+y)) true []):=(rfl)
theorem js (h1:-18446744073709551616<y)(h2:y<18446744073709551616):uV (.val (.int x) f al) (.val (.int y) g bl)=.ok (.val (.int (x*y)) true []):=by
 have:zS x y=true:=by unfold zS;rw[Bool.or_eq_true,IV,IV];exact .inr ⟨IA (by lia),IA (by lia)⟩
 show(if zS x y=true then _ else _)=_;rw[Il this]
theorem oE (h:0<y):cN (.val (.int x) f al) (.val (.int y) g bl)=.ok (.val (.int (x % y)) true []):=by show(if decide (0<y)=true then _ else _)=_;rw[Il (IA h)]
theorem oF (h:0<y)(h2:y<1073741824):l_ (.val (.int x) f al) (.val (.int y) g bl)=.ok (.val (.int (x / y)) true []):=by show(if (decide (0<y)&&decide (y<1073741824))=true then _ else _)=_;rw[Il (by rw[IA h,IA h2];rfl)]
theorem vn:G5 (.val (.int x) f al) (.val (.int y) g bl)=.ok (.val (.bl (decide (x<y))) true []):=(rfl)
theorem vp:FU (.val (.int x) f al) (.val (.int y) g bl)=.ok (.val (.bl (decide (y<x))) true []):=(rfl)
theorem vq:Hu (.val (.int x) f al) (.val (.int y) g bl)=.ok (.val (.bl (decide (y<=x))) true []):=(rfl)
theorem mj (h:a.d.dep<=50)(h2:b.d.dep<=50):zT a b=.ok (.val (.bl (fP a.d b.d)) true []):=by unfold zT;rw[Il ⟨h,h2⟩]
theorem HH (h:a.d.dep<=50)(h2:b.d.dep<=50):C4 a b=.ok (.val (.bl (!fP a.d b.d)) true []):=by unfold C4;rw[Il ⟨h,h2⟩]
theorem oG:fP (.int x) (.int y)=(x==y):=(rfl)
noncomputable def AE (xs ys:List D)(f:Bool)(al:List Nat):Res R:=if xs.length+ys.length<=lim then .ok (kM (xs++ys) f al) else .stuck
theorem gp:cn (.val (.lst ds) f al) (.val (.lst es) g bl)=AE ds es (f&&g) (al++bl):=(rfl)
theorem gq:cn (.val (.lst ds) f al) (.new es g)=AE ds es (f&&g) (al++[]):=(rfl)
theorem gr:cn (.new ds f) (.val (.lst es) g bl)=AE ds es (f&&g) ([]++bl):=(rfl)
theorem gs:cn (.new ds f) (.new es g)=AE ds es (f&&g) []:=(rfl)
theorem vt (h:ds.length+es.length<=1000000):AE ds es f al=.ok (kM (ds++es) f al):=Il h
noncomputable def Dm (fs:En->Res (List R))(env:En)(r:R):Res (List R):=(fs env).bind (λrs=>.ok (r::rs))
noncomputable def AF (r:R)(rs:List R):Res (List R):=.ok (r::rs)
theorem jt (env:En):aN env=.ok []:=(rfl)
theorem gu (a:En->Res R)(fs:En->Res (List R))(env:En):ai a fs env=(a env).bind (Dm fs env):=(rfl)
theorem gv (fs:En->Res (List R))(env:En)(r:R):Dm fs env r=(fs env).bind (AF r):=(rfl)
theorem d7 (r:R)(rs:List R):AF r rs=.ok (r::rs):=(rfl)
noncomputable def Gx (rs:List R):Res R:=if rs.length<=lim then .ok (mkV (.tup (rs.map R.d)) (br rs) (b7 rs)) else .stuck
theorem qE (fs:En->Res (List R))(env:En):dw fs env=(fs env).bind Gx:=(rfl)
theorem jv (rs:List R)(h:rs.length<=1000000):Gx rs=.ok (mkV (.tup (rs.map R.d)) (br rs) (b7 rs)):=Il h
noncomputable def Gy (rs:List R):Res R:=if rs.length<=lim then .ok (kM (rs.map R.d) (br rs) (b7 rs)) else .stuck
theorem oH (fs:En->Res (List R))(env:En):iZ fs env=(fs env).bind Gy:=(rfl)
theorem jw (rs:List R)(h:rs.length<=1000000):Gy rs=.ok (kM (rs.map R.d) (br rs) (b7 rs)):=Il h
theorem d8:br []=true:=(rfl)
theorem cS (r:R)(rs:List R):br (r::rs)=(r.fr&&br rs):=(rfl)
theorem d9:b7 []=[]:=(rfl)
theorem cT (r:R)(rs:List R):b7 (r::rs)=r.al++b7 rs:=(rfl)
noncomputable def Dn (F:List D->Res R)(rs:List R):Res R:=(F (rs.map R.d)).bind (λr=>.ok (dX rs r))
noncomputable def AG (rs:List R)(r:R):Res R:=.ok (dX rs r)
theorem jy (F:List D->Res R)(fs:En->Res (List R))(env:En):de F fs env=(fs env).bind (Dn F):=(rfl)
theorem gw (F:List D->Res R)(rs:List R):Dn F rs=(F (rs.map R.d)).bind (AG rs):=(rfl)
theorem d_ (rs:List R)(r:R):AG rs r=.ok (dX rs r):=(rfl)
theorem eh (rs:List R)(h:d.flat=true):dX rs (.val d f al)=.val d true []:=Il h
theorem dk (rs:List R)(h:d.flat=false):dX rs (.val d true al)=.fre d:=by show A9 d true rs=_;unfold A9;rw[Ij (by rw[h];simp),Il rfl]
theorem eB (rs:List R)(h:d.flat=false):dX rs (.val d false al)=.val d (br rs) (b7 rs):=by show A9 d false rs=_;unfold A9;rw[Ij (by rw[h];simp),Ij (by simp)]
theorem dn (rs:List R)(h:D.flats ds=true):dX rs (.new ds f)=.new ds true:=by show(if D.flats ds=true then _ else _)=_;rw[Il h]
theorem cq (rs:List R)(h:D.flats ds=false):dX rs (.new ds true)=.fre (.lst ds):=by show(if D.flats ds=true then _ else _)=_;rw[Ij (by rw[h];simp),Il rfl]
theorem vw (k:List R->Res R)(fs:En->Res (List R))(env:En):nJ k fs env=(fs env).bind k:=(rfl)
noncomputable def Cs:D->Res R
 | .lst ds=>.ok (.val (.int ds.length) true [])
 | .tup ds=>.ok (.val (.int ds.length) true [])
 | .str z=>if z.length<=lim then .ok (.val (.int z.length) true []) else .stuck
 |_=>.stuck
theorem oJ (r:R):xQ [r]=Cs r.d:=by unfold xQ Cs;rfl
theorem jz:Cs (.lst ds)=.ok (.val (.int ds.length) true []):=(rfl)
theorem jA:Cs (.tup ds)=.ok (.val (.int ds.length) true []):=(rfl)
noncomputable def wH (f:Bool)(al:List Nat):D->Res R
 | .lst ds=>.ok (kM ds f al)
 | .tup ds=>.ok (kM ds f al)
 |_=>.stuck
theorem jB (r:R):lT [r]=wH r.fr r.al r.d:=by unfold lT wH;rfl
theorem gx:wH f al (.lst ds)=.ok (kM ds f al):=(rfl)
theorem gy:wH f al (.tup ds)=.ok (kM ds f al):=(rfl)
noncomputable def kB (ra:R):Res Bool:=match ra.d with
 | .bl b=>.ok b
 |_=>.stuck
theorem vx (a:En->Res R)(env:En):vB a env=(a env).bind kB:=(rfl)
theorem vy (b:Bool):kB (.val (.bl b) f al)=.ok b:=(rfl)
noncomputable def E9 (ra:R):Res Bool:=tru ra.d
theorem jC (a:En->Res R)(env:En):BK a env=(a env).bind E9:=(rfl)
theorem jD (b:Bool):E9 (.val (.bl b) f al)=.ok b:=(rfl)
noncomputable def Do (b:Bool):Res Bool:=.ok (!b)
theorem jE (a:En->Res Bool)(env:En):BL a env=(a env).bind Do:=(rfl)
theorem gz (b:Bool):Do b=.ok (!b):=(rfl)
noncomputable def AH (b:En->Res Bool)(env:En)(k:Bool):Res Bool:=if k then b env else .ok false
noncomputable def E_ (b:En->Res Bool)(env:En)(k:Bool):Res Bool:=if k then .ok true else b env
theorem jF (a b:En->Res Bool)(env:En):Ey a b env=(a env).bind (AH b env):=(rfl)
theorem oK (a b:En->Res Bool)(env:En):FX a b env=(a env).bind (E_ b env):=(rfl)
theorem jG (b:En->Res Bool)(env:En):AH b env true=b env:=(rfl)
theorem jH (b:En->Res Bool)(env:En):AH b env false=.ok false:=(rfl)
theorem oM (b:En->Res Bool)(env:En):E_ b env true=.ok true:=(rfl)
theorem oN (b:En->Res Bool)(env:En):E_ b env false=b env:=(rfl)
noncomputable def Dp (f:Bool)(al:List Nat):Option D->Res R
 |some d=>.ok (mkV d f al)
 |none=>.stuck
noncomputable def Ct (a b:D)(f:Bool)(al:List Nat):Res R:=match a,b with
 | .lst xs,.int i=>Dp f al (atI xs i)
 | .tup xs,.int i=>Dp f al (atI xs i)
 | .str z,.int i=>if z.length<=lim then (match atI z.cps.toList i with
  |some c=>.ok (.val (.str ⟨#[c]⟩) true [])
  |none=>.stuck) else .stuck
 |_,_=>.stuck
theorem vz (a b:R):ui a b=Ct a.d b.d a.fr a.al:=by unfold ui Ct Dp;rfl
theorem oO:Ct (.lst ds) (.int k) f al=Dp f al (atI ds k):=(rfl)
theorem oP:Ct (.tup ds) (.int k) f al=Dp f al (atI ds k):=(rfl)
theorem oQ:Dp f al (some d)=.ok (mkV d f al):=(rfl)
noncomputable def Cu (ds:List D)(fr:Bool)(rb:R):Res R:=match rb.d with
 | .int k=>match atI ds k with
  |some d=>.ok (mkV d fr [])
  |none=>.stuck
 |_=>.stuck
noncomputable def AI (i:Nat)(fb:En->Res R)(env:En):Option (Option Sl)->Res R
 |some (some (.own ds fr))=>(fb env).bind (Cu ds fr)
 |_=>v2 ui (aj i) fb env
theorem qF (i:Nat)(fb:En->Res R)(env:En):bK i fb env=AI i fb env env[i]?:=by unfold bK AI;rfl
theorem jI (fb:En->Res R):AI i fb env (some (some (.own ds f)))=(fb env).bind (Cu ds f):=(rfl)
theorem jJ (fb:En->Res R):AI i fb env (some (some (.val d f)))=v2 ui (aj i) fb env:=(rfl)
theorem jK (fb:En->Res R):AI i fb env (some (some (.tre d)))=v2 ui (aj i) fb env:=(rfl)
theorem jL:Cu ds f (.val (.int k) g al)=Dp f [] (atI ds k):=by unfold Cu Dp;rfl
theorem bN {α:Type}(a:α)(l:List α):atI (a::l) 0=some a:=by unfold atI xt;rw[Il (by lia),Il (by simp)];rfl
theorem Fa {α:Type}(a b:α)(l:List α):atI (a::b::l) 1=some b:=by unfold atI xt;rw[Il (by lia),Il (by simp;lia)];rfl
theorem Fb {α:Type}(a b c:α)(l:List α):atI (a::b::c::l) 2=some c:=by unfold atI xt;rw[Il (by lia),Il (by simp;lia)];rfl
theorem Fc {α:Type}(a b c d:α)(l:List α):atI (a::b::c::d::l) 3=some d:=by unfold atI xt;rw[Il (by lia),Il (by simp;lia)];rfl
noncomputable def Gz (fl fh:En->Res (Option Int))(env:En)(r:R):Res R:=(fl env).bind λlo=>(fh env).bind λhi=>rF r lo hi
noncomputable def GA (fh:En->Res (Option Int))(env:En)(r:R)(lo:Option Int):Res R:=(fh env).bind λhi=>rF r lo hi
theorem gA (fa:En->Res R)(fl fh:En->Res (Option Int))(env:En):nP fa fl fh env=(fa env).bind (Gz fl fh env):=(rfl)
theorem jM (fl fh:En->Res (Option Int))(env:En)(r:R):Gz fl fh env r=(fl env).bind (GA fh env r):=(rfl)
theorem jN (fh:En->Res (Option Int))(env:En)(r:R)(lo:Option Int):GA fh env r lo=(fh env).bind (rF r lo):=(rfl)
noncomputable def kO (r:R):Res (Option Int):=match r.d with
 | .int i=>.ok (some i)
 |_=>.stuck
theorem gB (env:En):z_ env=.ok none:=(rfl)
theorem gC (a:En->Res R)(env:En):nO a env=(a env).bind kO:=(rfl)
theorem vA:kO (.val (.int x) f al)=.ok (some x):=(rfl)
noncomputable def Cv (f:Bool)(al:List Nat)(lo hi:Option Int):D->Res R
 | .lst xs=>.ok (kM (cu xs lo hi) f al)
 | .tup xs=>.ok (mkV (.tup (cu xs lo hi)) f al)
 |_=>.stuck
theorem oR (r:R)(lo hi:Option Int):rF r lo hi=Cv r.fr r.al lo hi r.d:=by unfold rF Cv;rfl
theorem jO (lo hi:Option Int):Cv f al lo hi (.lst ds)=.ok (kM (cu ds lo hi) f al):=(rfl)
theorem jP (lo hi:Option Int):Cv f al lo hi (.tup ds)=.ok (mkV (.tup (cu ds lo hi)) f al):=(rfl)
noncomputable def GB (T:String)(r:R):Res R:=.ok (.val (.bl (A_ T r.d)) true [])
theorem oS (T:String)(a:En->Res R)(env:En):EB T a env=(a env).bind (GB T):=(rfl)
theorem jQ (T:String)(r:R):GB T r=.ok (.val (.bl (A_ T r.d)) true []):=(rfl)
theorem jR:A_ "int" (.int x)=true:=(rfl)
theorem jS:A_ "bool" (.int x)=false:=(rfl)
theorem jT:A_ "list" (.lst ds)=true:=(rfl)
theorem jU:A_ "tuple" (.tup ds)=true:=(rfl)
noncomputable def GC (asg:D->Bool->En->Option En)(body:En->Res Fl)(env:En)(s:Src):Res Fl:=gc asg s.fr body s.xs (frz env s.al)
theorem oT (src:En->Res Src)(asg:D->Bool->En->Option En)(body:En->Res Fl)(env:En):tf src asg body env=(src env).bind (GC asg body env):=(rfl)
theorem jV (asg:D->Bool->En->Option En)(body:En->Res Fl)(env:En)(xs:List D):GC asg body env ⟨xs,f,al⟩=gc asg f body xs (frz env al):=(rfl)
noncomputable def tU (r:R):Res Src:=match r.d with
 | .lst ds=>.ok ⟨ds,r.fr,r.al⟩
 | .tup ds=>.ok ⟨ds,r.fr,r.al⟩
 |_=>.stuck
theorem iH (a:En->Res R)(env:En):lj a env=(a env).bind tU:=(rfl)
theorem eF:tU (.val (.lst ds) f al)=.ok ⟨ds,f,al⟩:=(rfl)
theorem eG:tU (.val (.tup ds) f al)=.ok ⟨ds,f,al⟩:=(rfl)
theorem gD:tU (.new ds f)=.ok ⟨ds,f,[]⟩:=(rfl)
theorem eI:tU (.fre (.lst ds))=.ok ⟨ds,true,[]⟩:=(rfl)
theorem eJ:tU (.fre (.tup ds))=.ok ⟨ds,true,[]⟩:=(rfl)
noncomputable def HS (rs:List R):Res Src:=match rs.map R.d with
 | [.int j]=>if cR j then .ok ⟨dz 0 j.toNat,true,[]⟩ else .stuck
 |_=>.stuck
theorem oU (fs:En->Res (List R))(env:En):F3 fs env=(fs env).bind HS:=(rfl)
theorem GD (h1:-4611686018427387904<=x)(h2:x<4611686018427387904):cR x=true:=by unfold cR;rw[IV];exact⟨IA (by lia),IA (by lia)⟩
theorem wI (h1:-4611686018427387904<=x)(h2:x<4611686018427387904):HS [.val (.int x) f al]=.ok ⟨dz 0 x.toNat,true,[]⟩:=Il (GD h1 h2)
theorem jW:frz env []=env:=(rfl)
theorem Cw (h:i<env.length):gN i d f env=some (env.set i (some (.val d f))):=Il h
noncomputable def jd (n:Nat)(caps:List Nat)(asg:D->Bool->En->Option En)(test:En->Res Bool)(elt:En->Res R)(env:En)(s:Src):Res R:=if s.xs.length<=lim then
 (dY (λd=>asg d s.fr (gf env n caps)) test elt s.xs).noX.bind λrs=>.ok (kM (rs.map R.d) (br rs) (s.al++caps.filter (isOwn env))) else .stuck
theorem lH (n:Nat)(caps:List Nat)(src:En->Res Src)(asg:D->Bool->En->Option En)(test:En->Res Bool)(elt:En->Res R)(env:En) :
 fE n caps src asg test elt env=(src env).bind (jd n caps asg test elt env):=(rfl)
theorem iX (hl:xs.length<=1000000)
 (h:dY (λd=>asg d f (gf env n caps)) test elt xs=.ok rs):jd n caps asg test elt env ⟨xs,f,al⟩=.ok (kM (rs.map R.d) (br rs) (al++caps.filter (isOwn env))):=by
 unfold jd;dsimp only;rw[Il (show xs.length<=lim from hl),h];rfl
theorem dI {α:Type}{mk:D->Option En}{test:En->Res Bool}{elt:En->Res R}(g:α->D)(k:α->R):∀(xs:List α),(∀ a∈xs,∃ e,mk (g a)=some e/\test e=.ok true/\elt e=.ok (k a))->dY mk test elt (xs.map g)=.ok (xs.map k)
 | [],_=>rfl
 |a::r,h=>by obtain⟨e,h1,h2,h3⟩:=h a (by simp);rw[Im,Im];unfold dY;rw[h1];dsimp only;rw[h2];dsimp only[Res.bind];rw[Il rfl,h3,dI g k r λb hb=>h b (by simp[hb])]
theorem kX {α:Type}{mk:D->Option En}{test:En->Res Bool}{elt:En->Res R}(g:α->D)(p:α->Bool)(k:α->R):∀(xs:List α),(∀ a∈xs,∃ e,mk (g a)=some e/\test e=.ok (p a)/\(p a=true->elt e=.ok (k a)))->dY mk test elt (xs.map g)=.ok ((xs.filter p).map k)
 | [],_=>rfl
 |a::r,h=>by
  obtain⟨e,h1,h2,h3⟩:=h a (by simp);rw[Im];unfold dY;rw[h1];dsimp only;rw[h2];dsimp only[Res.bind];have ih:=kX g p k r λb hb=>h b (by simp[hb]);cases hp:p a with
  |true=>rw[Il rfl,h3 hp,KS,Il hp,ih];rfl
  |false=>rw[Ij (by simp),KS,Ij (by rw[hp];simp),ih]
noncomputable def yz (i:Nat)(env:En)(ds:List D)(fr:Bool)(r:R):Res Fl:=if ds.length<lim/\¬ i∈r.al then .ok (.nx ((frz env r.al).set i (some (.own (ds++[r.d]) (fr&&r.fr))))) else .stuck
noncomputable def wJ (i:Nat)(a:En->Res R)(env:En):Option (Option Sl)->Res Fl
 |some (some (.own ds fr))=>(a env).bind (yz i env ds fr)
 |some (some (.tre (.lst ds)))=>(a env).bind (yz i env ds true)
 |_=>.stuck
theorem oV (a:En->Res R)(env:En):xR i a env=wJ i a env env[i]?:=by
 unfold xR nM wJ;cases env[i]? with
 |none=>rfl
 |some o=>cases o with
  |none=>rfl
  |some s=>cases s with
   |tre d=>cases d<;>rfl
   |_=>rfl
theorem jX (a:En->Res R):wJ i a env (some (some (.own ds f)))=(a env).bind (yz i env ds f):=(rfl)
theorem jY (a:En->Res R):wJ i a env (some (some (.tre (.lst ds))))=(a env).bind (yz i env ds true):=(rfl)
theorem AJ (h:ds.length<1000000)(hr:r.al=[]):yz i env ds f r=.ok (.nx (env.set i (some (.own (ds++[r.d]) (f&&r.fr))))):=by unfold yz;rw[hr];rw[Il ⟨h,by simp⟩];rfl
end
theorem bT (x:Int):(D.int x).flat=true:=(rfl)
theorem gE (x:Bool):(D.bl x).flat=true:=(rfl)
theorem eL (x:Str):(D.str x).flat=true:=(rfl)
theorem eM:D.non.flat=true:=(rfl)
theorem b_ (ds:List D):(D.tup ds).flat=D.flats ds:=(rfl)
theorem bU (ds:List D):(D.lst ds).flat=false:=(rfl)
theorem cc:D.flats []=true:=(rfl)
theorem aX (d:D)(ds:List D):D.flats (d::ds)=(d.flat&&D.flats ds):=(rfl)
theorem c9 (x:Int):(D.int x).dep=0:=(rfl)
theorem jZ (x:Bool):(D.bl x).dep=0:=(rfl)
theorem gF (x:Str):(D.str x).dep=0:=(rfl)
theorem gG:D.non.dep=0:=(rfl)
theorem cC (ds:List D):(D.tup ds).dep=D.deps ds+1:=(rfl)
theorem c_ (ds:List D):(D.lst ds).dep=D.deps ds+1:=(rfl)
theorem bV:D.deps []=0:=(rfl)
theorem bz (d:D)(ds:List D):D.deps (d::ds)=max d.dep (D.deps ds):=(rfl)
theorem j3 (r:R):wl (.ok (.rt r))=.ok r:=(rfl)
theorem j5 (e:En):wl (.ok (.nx e))=.ok (.val .non true []):=(rfl)
theorem cD (d:D)(f:Bool)(al:List Nat):(R.val d f al).d=d:=(rfl)
theorem cE (ds:List D)(f:Bool):(R.new ds f).d=.lst ds:=(rfl)
theorem gH (d:D):(R.fre d).d=d:=(rfl)
theorem eQ (d:D)(f:Bool)(al:List Nat):(R.val d f al).fr=f:=(rfl)
theorem eR (ds:List D)(f:Bool):(R.new ds f).fr=f:=(rfl)
theorem eU (d:D):(R.fre d).fr=true:=(rfl)
theorem eV (d:D)(f:Bool)(al:List Nat):(R.val d f al).al=al:=(rfl)
theorem eY (ds:List D)(f:Bool):(R.new ds f).al=[]:=(rfl)
theorem eZ (d:D):(R.fre d).al=[]:=(rfl)
theorem i7 {α β:Type}(a:α)(k:α->Res β):(Res.ok a).bind k=k a:=(rfl)
noncomputable def GE:D->Res R
 | .lst ds=>match dZ ds with
  |some bs=>.ok (.val (.bl (bs.all id)) true [])
  |none=>.stuck
 |_=>.stuck
theorem oW (r:R):BW [r]=GE r.d:=by rcases r with⟨d,f,al⟩|⟨ds,f⟩|⟨d⟩<;>first|rfl|(cases d<;>rfl)
theorem yA {α:Type}(xs:List α):GE (.lst (xs.map λ_=>D.bl true))=.ok (.val (.bl true) true []):=by
 have:∀ xs:List α,dZ (xs.map λ_=>D.bl true)=some (xs.map λ_=>true):=by
  intro xs;induction xs with
  |nil=>rfl
  |cons a r ih=>rw[Im];unfold dZ;rw[ih];rfl
 show(match dZ (xs.map λ_=>D.bl true) with|some bs=>Res.ok (R.val (D.bl (bs.all id)) true [])|none=>Res.stuck)=_;rw[this];dsimp only;congr 3;rw[Jq];intro x hx;obtain⟨_,_,rfl⟩:=Ir.mp hx;rfl
theorem Fd:((0:Nat):Int)=0:=(rfl)
theorem Fe:((1:Nat):Int)=1:=(rfl)
theorem Ff:((2:Nat):Int)=2:=(rfl)
theorem Fg:((3:Nat):Int)=3:=(rfl)
theorem Fh:((4:Nat):Int)=4:=(rfl)
theorem oX {α β:Type}(c:Str)(k:α->Res β):(Res.exc c:Res α).bind k=.exc c:=(rfl)
theorem gI (c:Str):wl (.exc c)=.exc c:=(rfl)
noncomputable def AK (asg:D->Bool->En->Option En)(env:En)(r:R):Res Fl:=match asg r.d r.fr (frz env r.al) with
 |some bh=>.ok (.nx bh)
 |none=>.stuck
theorem oY (f:En->Res R)(asg:D->Bool->En->Option En)(env:En):pE f asg env=(f env).bind (AK asg env):=(rfl)
theorem AL (h:asg r.d r.fr (frz env r.al)=some bh):AK asg env r=.ok (.nx bh):=by unfold AK;rw[h]
theorem gJ:D.non.isNon=true:=(rfl)
theorem gK (x:Int):(D.int x).isNon=false:=(rfl)
theorem gL (x:List D):(D.tup x).isNon=false:=(rfl)
theorem gM (x:List D):(D.lst x).isNon=false:=(rfl)
theorem Res.noX_ok {α:Type}(a:α):(Res.ok a).noX=.ok a:=(rfl)
noncomputable def AM (neg:Bool)(a b:D):Res R:=match b with
 | .dic ks _=>tq neg a ks
 | .lst ds=>FD neg a ds
 | .tup ds=>FD neg a ds
 |_=>.stuck
theorem GF (neg:Bool)(a b:R):Ad neg a b=AM neg a.d b.d:=by unfold Ad x_ AM;cases b.d<;>rfl
theorem gO (a b:R):iT a b=AM true a.d b.d:=GF true a b
theorem GG (h:keyX a=some k)(hk:ks.all (kin k)=true):AM neg a (.dic ks ds)=.ok (.val (.bl (if neg then !mf ks k else mf ks k)) true []):=by show tq neg a ks=_;unfold tq;rw[h];exact Il hk
theorem bm (ks:List DK)(ds:List D):(D.dic ks ds).flat=false:=(rfl)
noncomputable def i6 (xs ys:List D)(f:Bool)(al:List Nat):Res R:=if xs.length+ys.length<=lim/\xs≠[] then .ok (mkV (.tup (xs++ys)) f al) else .stuck
theorem j6:cn (.val (.tup xs) f al) (.val (.tup ys) g bl)=i6 xs ys (f&&g) (al++bl):=(rfl)
theorem cU (h:d.flat=false):dX rs (.fre d)=.fre d:=by show A9 d true rs=_;unfold A9;rw[Ij (by rw[h];simp),Il rfl]
theorem j7 (fa fk fx:En->Res R)(env:En):nU fa fk fx env=(fa env).bind (Ga fk fx env):=(rfl)
theorem GH (h:ra.d=.dic ks ds):Ga fk fx env ra=(fk env).bind (Hy fx env ra ks ds):=by unfold Ga;rw[h]
theorem lX (fx:En->Res R)(env:En)(ra:R)(ks:List DK)(ds:List D)(rk:R):Hy fx env ra ks ds rk=(fx env).bind (F_ ra ks ds rk):=(rfl)
theorem oZ (h:0<=y):EK (.val (.int x) f al) (.val (.int y) g bl)=.ok (.val (.int (x / 2 ^ y.toNat)) true []):=by show(if decide (0<=y)=true then _ else _)=_;rw[Il (IA h)]
theorem j8:Ae (.val (.int x) f al) (.val (.int y) g bl)=.ok (.val (.int (Builtin.bitAnd x y)) true []):=(rfl)
theorem vD (f:En->Res R)(env:En):Hz f env=(f env).bind C_:=(rfl)
theorem qG:∀ k:List Int,nV (k.map .int)=some k
 | []=>rfl
 |a::r=>by rw[Im];unfold nV;rw[qG r];rfl
theorem lI:∀ ks:List (List Int),tupsI (ks.map lw)=some ks
 | []=>rfl
 |k::r=>by rw[Im];unfold tupsI;rw[lI r,show EM (lw k)=some k from qG k]
theorem j9:A_ "bool" (.bl b)=true:=(rfl)
theorem vE (k:En->Res Fl)(r:R)(e:En):kS k (.rm r e)=.ok (.rm r e):=(rfl)
noncomputable def Dq (i:Nat)(env:En)(r:R):Res Fl:=if i<env.length then .ok (.nx ((frz env r.al).set i (some (.val r.d r.fr)))) else .stuck
theorem j_ (i:Nat)(a:En->Res R)(env:En):kR i a env=(a env).bind (Dq i env):=(rfl)
theorem gR (h:i<env.length):Dq i env r=.ok (.nx ((frz env r.al).set i (some (.val r.d r.fr)))):=Il h
theorem AN (h0:0<=j)(h1:j<=1000):mC [.val (.int j) f al]=.ok (.new (dz 0 j.toNat) true):=Il ⟨h0,h1⟩
noncomputable def GI (f1 f2:En->Res R)(env:En)(r0:R):Res R:=(f1 env).bind λr1=>(f2 env).bind λr2=>uZ r0 r1 r2
noncomputable def GJ (f2:En->Res R)(env:En)(r0 r1:R):Res R:=(f2 env).bind (uZ r0 r1)
theorem vF (f0 f1 f2:En->Res R)(env:En):HA f0 f1 f2 env=(f0 env).bind (GI f1 f2 env):=(rfl)
theorem kc (f1 f2:En->Res R)(env:En)(r0:R):GI f1 f2 env r0=(f1 env).bind (GJ f2 env r0):=(rfl)
theorem kd (f2:En->Res R)(env:En)(r0 r1:R):GJ f2 env r0 r1=(f2 env).bind (uZ r0 r1):=(rfl)
theorem Fi {d1 d2:List D}{g1 g2:Bool}(h0:r0.d.flat=true)(h1:D.flats d1=true)(h2:D.flats d2=true):uZ r0 (.new d1 g1) (.new d2 g2)=.ok (.fre (.tup [r0.d,.lst d1,.lst d2])):=Il ⟨h0,h1,h2⟩
theorem Fj (h:ra.d=.dic ks ds)(hk:keyX rk.d=some x)(ha:ks.all (kin x)=true)(hg:getD ks ds x=some d):g9 ra rk=.ok (mkV d ra.fr ra.al):=by unfold g9;rw[h];dsimp only;rw[hk];dsimp only;rw[Il ha,hg]
theorem gS:E9 (.val (.lst ds) f al)=.ok (!ds.isEmpty):=(rfl)
end L3
local macro_rules|`(tactic| simp_arith[$as,*] $[$l:location]?)=>do
 let ls←("L3.fR L3.cO L3.vE L3.j_ L3.gR L3.vF L3.kc L3.kd L3.gS decide_true decide_false List.map_cons List.map_nil List.length_cons List.length_nil List.replicate List.cons_append List.nil_append List.append_nil Nat.reduceAdd Nat.max_self Nat.zero_max Nat.max_zero Nat.zero_add Nat.reduceSub L3.oj L3.ot L3.tT L3.jc L3.ou L3.oz L3.oA L3.oB L3.iG L3.gm L3.bT L3.gE L3.eL L3.eM L3.b_ L3.bU L3.cc L3.aX L3.c9 L3.jZ L3.gF L3.gG L3.cC L3.c_ L3.bV L3.bz L3.Cr L3.i7 List.getElem?_cons_zero List.getElem?_cons_succ L3.oE L3.oF L3.oC L3.js Int.reduceLT Int.reduceLE Int.reduceNeg L3.jo L3.jp L3.jq L3.jr L3.vj L3.vk List.set_cons_zero List.set_cons_succ Nat.reduceLT Nat.reduceLeDiff L3.vm L3.ol L3.om L3.oo L3.oq L3.jn L3.vn L3.vp L3.vq L3.oG L3.gp L3.gq L3.gr L3.gs L3.jt L3.gu L3.gv L3.d7 L3.qE L3.jv L3.oH L3.jw L3.d8 L3.cS L3.d9 L3.cT L3.jy L3.gw L3.d_ L3.eh L3.dk L3.eB L3.dn L3.cq L3.vw L3.oJ L3.jz L3.jA L3.jB L3.gx L3.gy L3.vx L3.vy L3.jC L3.jD L3.jE L3.gz L3.jF L3.oK L3.jG L3.jH L3.oM L3.oN L3.vz L3.oO L3.oP L3.oQ L3.qF L3.jI L3.jJ L3.jK L3.jL L3.bN L3.Fa L3.Fb L3.Fc L3.gA L3.jM L3.jN L3.gB L3.gC L3.vA L3.oR L3.jO L3.jP L3.oS L3.jQ L3.jR L3.jS L3.jT L3.jU L3.oT L3.jV L3.iH L3.eF L3.eG L3.gD L3.eI L3.eJ L3.oU L3.jW L3.gJ L3.gK L3.gL L3.gM L3.oX L3.gI L3.Res.noX_ok L3.oY L3.Fd L3.Fe L3.Ff L3.Fg L3.Fh Int.reduceBEq L3.oW Bool.not_not Nat.reduceEqDiff L3.lH L3.oV L3.jX L3.jY L3.cD L3.cE L3.gH L3.eQ L3.eR L3.eU L3.eV L3.eY L3.eZ Bool.and_true Bool.true_and Bool.and_false Bool.false_and Bool.and_self Bool.not_true Bool.not_false L3.j3 L3.j5 L3.cQ L3.gn L3.gO L3.bm L3.j6 L3.oZ L3.j8 L3.vD L3.j9 L3.j7 L3.lX L3.cU".splitOn " ").toArray.mapM λs=>`(Lean.Parser.Tactic.simpLemma| $(Lean.mkIdent s.toName):ident)
 `(tactic| simp only[$[$ls:simpLemma],*,$as,*] $[$l]?)
local macro_rules|`(tactic| simp_arith $[$l:location]?)=>`(tactic| simp_arith[L3.i7] $[$l]?)
namespace L3
open PySem L2
theorem kY {α β:Type}(g:α->β)(xs:List α)(lo hi:Option Int):cu (xs.map g) lo hi=(cu xs lo hi).map g:=by unfold cu;rw[Ik,List.map_take,List.map_drop]
theorem AO {α:Type}(xs:List α)(lo hi:Option Int):(cu xs lo hi).length<=xs.length:=by unfold cu;rw[J8,KR];lia
theorem AQ {α:Type}(xs:List α)(lo hi:Option Int):∀ a∈cu xs lo hi,a∈xs:=by unfold cu;intro a h;exact KG (JK h)
theorem tV:(∀ d∈ds,d.flat=true)->D.flats ds=true:=by
 induction ds with
 |nil=>intro _;rfl
 |cons d r ih=>intro h;rw[aX,h d (by simp),ih λx hx=>h x (by simp[hx])];rfl
theorem aY {α:Type}(g:α->D)(xs:List α)(h:∀ a,(g a).flat=true):D.flats (xs.map g)=true:=tV λd hd=>by obtain⟨a,_,rfl⟩:=Ir.mp hd;exact h a
theorem aT (xs:List Int):D.flats (xs.map D.int)=true:=aY _ _ bT
theorem vG (h:d.flat=false):D.flats (d::ds)=false:=by rw[aX,h];rfl
theorem Cy:(∀ d∈ds,d.dep<=n)->D.deps ds<=n:=by
 induction ds with
 |nil=>intro _;rw[bV];lia
 |cons d r ih=>intro h;have h1:=h d (by simp);have h2:=ih λx hx=>h x (by simp[hx]);rw[bz];lia
theorem o5 {α:Type}{g:α->D}{xs:List α}{n:Nat}(h:∀ a,(g a).dep<=n):D.deps (xs.map g)<=n:=Cy λd hd=>by obtain⟨a,_,rfl⟩:=Ir.mp hd;exact h a
theorem lJ (xs:List Int):D.deps (xs.map D.int)<=0:=o5 λ_=>Ih 0
theorem fX {α:Type}(g:α->D)(xs:List α):br (xs.map λa=>.val (g a) true [])=true:=by unfold br;rw[Jq];intro r h;obtain⟨a,_,rfl⟩:=Ir.mp h;rfl
theorem qH {α:Type}(g:α->D)(fr:Bool)(al:List Nat)(xs:List α):(xs.map λa=>R.val (g a) fr al).map R.d=xs.map g:=by rw[Je];rfl
theorem mL (n:Nat):dz 0 n=(List.range n).map λk=>.int (k:Nat):=by unfold dz;congr 1;funext k;simp
theorem kZ {α:Type}(g:α->D){asg:D->Bool->En->Option En}{fr:Bool}{body:En->Res Fl}(P:List α->En->Prop):∀(xs pre:List α)(env:En),P pre env->
 (∀(pre post:List α)(a:α)(env:En),(∀ b∈pre,b∈pre)->P pre env->a∈xs->∃ i8 env2,asg (g a) fr env=some i8/\body i8=.ok (.nx env2)/\P (pre++[a]) env2)->
 ∃ bh,gc asg fr body (xs.map g) env=.ok (.nx bh)/\P (pre++xs) bh
 | [],pre,env,h,_=>⟨env,rfl,by rw[Js];exact h⟩
 |a::r,pre,env,h,st=>by obtain⟨i8,env2,h1,h2,h3⟩:=st pre [] a env (λ_ z=>z) h (by simp);obtain⟨bh,e1,e2⟩:=kZ g P r (pre++[a]) env2 h3 λp q b e z hp hb=>st p q b e z hp (by simp[hb]);refine⟨bh,?_,by rw[Kf]at e2;exact e2⟩;rw[Im];unfold gc;rw[h1];dsimp only;rw[h2];exact e1
theorem mM {α:Type}(g:α->D){asg:D->Bool->En->Option En}{fr:Bool}{body:En->Res Fl}(all:List α)(P:List α->En->Prop):∀(xs pre:List α)(env:En),all=pre++xs->P pre env->
 (∀(pre post:List α)(a:α)(env:En),all=pre++a::post->P pre env->∃ i8 env2,asg (g a) fr env=some i8/\body i8=.ok (.nx env2)/\P (pre++[a]) env2)->
 ∃ bh,gc asg fr body (xs.map g) env=.ok (.nx bh)/\P all bh
 | [],pre,env,e,h,_=>⟨env,rfl,by rw[e,Js];exact h⟩
 |a::r,pre,env,e,h,st=>by obtain⟨i8,env2,h1,h2,h3⟩:=st pre r a env e h;obtain⟨bh,e1,e2⟩:=mM g all P r (pre++[a]) env2 (by rw[e];simp) h3 st;refine⟨bh,?_,e2⟩;rw[Im];unfold gc;rw[h1];dsimp only;rw[h2];exact e1
theorem mN (f:D->Bool->En->Option En)(fs:List D->Bool->En->Option En)(d:D)(ds:List D)(fr:Bool)(env:En):aC f fs (d::ds) fr env=(f d fr env).bind λe=>fs ds fr e:=(rfl)
theorem Cz (hi:i<env.length)(hj:j<env.length):AK (gT 2 (aC (gN i) (aC (gN j) bQ))) env (.fre (.tup [a,b]))=.ok (.nx ((env.set i (some (.val a true))).set j (some (.val b true)))):=by refine AL ?_;show(aC (gN i) (aC (gN j) bQ)) [a,b] true env=_;rw[mN,Cw hi];show(aC (gN j) bQ) [b] true _=_;rw[mN,Cw (by rw[Kx];exact hj)];rfl
theorem CA {α β:Type}(g:α->β)(xs:List α)(k:Int):atI (xs.map g) k=(atI xs k).map g:=by
 unfold atI;rw[Ik];cases xt xs.length k with
 |none=>rfl
 |some j=>simp
theorem Fk {α:Type}{xs:List α}{k:Int}(h0:0<=k)(h:k<xs.length):∃ a,atI xs k=some a/\xs[k.toNat]?=some a:=by
 unfold atI xt;rw[Il h0,Il h];have:k.toNat<xs.length:=by lia
 exact⟨xs[k.toNat],by simp[this],by simp[this]⟩
structure Rl where
 room:Int
 sign:Int
 to:Int
 put:List Int
noncomputable def Rl.d (r:Rl):D:=.tup [.int r.room,.int r.sign,.int r.to,.tup (r.put.map .int)]
end L3
namespace W
open PySem PySem.Spec PyProof.Rows L2 L3 L4
noncomputable def top (i:Nat):Stmt:=PySem.Challenge.pw_callwalk_k22_nothing_is_less.main.body.getD i (.Pass ⟨0,0,0,0⟩)
noncomputable abbrev s__law_seed_at:Stmt:=top 13
noncomputable abbrev iI:List Str:=["_law_script", "_law_k", "_law_cell"]
noncomputable abbrev P__law_seed_at:List Str:=["_law_script", "_law_k"]
theorem sc__law_seed_at:FnScope iI P__law_seed_at (defScope s__law_seed_at):=⟨rfl,rfl,rfl,by decide +kernel,rfl,by decide +kernel,by decide +kernel⟩
noncomputable def e_:En->Res Fl:=
 (bw (dE 2 (vC (.int 0)))
 (bw (yK (vB (v2 G5 (aj 1) (nJ xQ (ai (aj 0) aN)))) (dE 2 (bK 0 (aj 1))) nL)
 (hV (v2 cN (v2 uV (v2 uV (v2 cn (v2 cN (aj 2) (vC (.int 2147483647))) (vC (.int 11))) (vC (.int 48271))) (vC (.int 69621))) (vC (.int 2147483629))))))
noncomputable def bH:List D->Res R:=fR iI e_
noncomputable abbrev s__law_arrow_by:Stmt:=top 15
noncomputable abbrev g_:List Str:=["_law_cell", "_law_rooms", "_law_own", "_law_signs", "_law_number", "_law_state", "_law_sign"]
noncomputable abbrev P__law_arrow_by:List Str:=["_law_cell", "_law_rooms", "_law_own", "_law_signs"]
theorem sc__law_arrow_by:FnScope g_ P__law_arrow_by (defScope s__law_arrow_by):=⟨rfl,rfl,rfl,by decide +kernel,rfl,by decide +kernel,by decide +kernel⟩
noncomputable def hG:En->Res Fl:=
 (bw (dE 4 (v2 cN (v2 uV (aj 0) (vC (.int 69621))) (vC (.int 2147483629))))
 (bw (pE (nJ cX (ai (aj 4) (ai (vC (.int 60)) aN))) (gT 2 (aC (gN 4) (aC (gN 5) bQ))))
 (bw (pE (nJ cX (ai (aj 4) (ai (vC (.int 60)) aN))) (gT 2 (aC (gN 4) (aC (gN 6) bQ))))
 (hV (dw (ai (v2 cN (aj 5) (v2 cn (aj 1) (aj 2))) (ai (v2 cN (aj 6) (aj 3)) (ai (v2 cn (aj 1) (v2 cN (aj 4) (aj 2))) aN))))))))
noncomputable def cj:List D->Res R:=fR g_ hG
noncomputable abbrev s__law_machine_by:Stmt:=top 16
noncomputable abbrev bC:List Str:=["_law_cell", "_law_cells", "_law_rooms", "_law_own", "_law_signs", "_law_form", "_law_head", "_law_arrows", "_law_ends"]
noncomputable abbrev P__law_machine_by:List Str:=["_law_cell", "_law_cells", "_law_rooms", "_law_own", "_law_signs"]
theorem sc__law_machine_by:FnScope bC P__law_machine_by (defScope s__law_machine_by):=⟨rfl,rfl,rfl,by decide +kernel,rfl,by decide +kernel,by decide +kernel⟩
theorem hZ:((["_law_sign"]:List Str)++(["_law_rooms"]:List Str)).Nodup:=by decide +kernel
theorem h7:((["_law_one"]:List Str)++(["_law_rooms", "_law_own", "_law_signs"]:List Str)).Nodup:=by decide +kernel
theorem h8:((["_law_state"]:List Str)++(["_law_cell"]:List Str)).Nodup:=by decide +kernel
noncomputable def bn:En->Res R:=λenv=>(dw (ai (aj 1) (ai (aj 0) (ai (aj 1) aN)))) env
noncomputable def aV:En->Res R:=λenv=>(de cj (ai (aj 0) (ai (aj 1) (ai (aj 2) (ai (aj 3) aN))))) env
noncomputable def bo:En->Res Bool:=λenv=>(vB (v2 zT (v2 Ae (v2 EK (v2 cN (v2 l_ (aj 1) (vC (.int 10))) (vC (.int 32))) (aj 0)) (vC (.int 1))) (vC (.int 1)))) env
noncomputable def bp:En->Res R:=λenv=>(aj 0) env
noncomputable def bD:En->Res Fl:=
 (bw (dE 5 (v2 cN (v2 l_ (aj 0) (vC (.int 320))) (vC (.int 4))))
 (bw (yK (vB (v2 zT (aj 5) (vC (.int 2)))) (bw (dE 6 (dw (ai (v2 cN (v2 l_ (aj 0) (vC (.int 1280))) (aj 2)) (ai (v2 cN (v2 l_ (aj 0) (vC (.int 7680))) (aj 4)) (ai (aj 2) aN)))))
 (hV (dw (ai (v2 cn (aj 2) (vC (.int 1))) (ai (nJ Da (ai (v2 cn (iZ (ai (aj 6) aN)) (fE 1 [2] (F3 (ai (aj 4) aN)) (gN 0) (λ_=>.ok true) bn)) aN)) (ai (iZ (ai (aj 2) aN)) aN)))))) nL)
 (bw (yK (vB (v2 zT (aj 5) (vC (.int 3)))) (hV (dw (ai (aj 2) (ai (iZ aN) (ai (nJ mC (ai (aj 2) aN)) aN))))) nL)
 (bw (dE 7 (fE 1 [2,3,4] (lj (aj 1)) (gN 0) (λ_=>.ok true) aV))
 (bw (dE 8 (fE 1 [0] (F3 (ai (v2 cn (aj 2) (aj 3)) aN)) (gN 0) bo bp))
 (hV (dw (ai (v2 cn (aj 2) (aj 3)) (ai (Hz (aj 7)) (ai (aj 8) aN))))))))))
noncomputable def aU:List D->Res R:=fR bC bD
noncomputable abbrev s__law_far:Stmt:=top 17
noncomputable abbrev o6:List Str:=["_law_machine", "_law_start", "_law_number", "_law_signs", "_law_arrows", "_law_state", "_law_k"]
noncomputable abbrev P__law_far:List Str:=["_law_machine", "_law_start", "_law_number", "_law_signs"]
theorem sc__law_far:FnScope o6 P__law_far (defScope s__law_far):=⟨rfl,rfl,rfl,by decide +kernel,rfl,by decide +kernel,by decide +kernel⟩
noncomputable def dG:En->Res Fl:=λenv=>
 (bw (xR 4 (dw (ai (aj 5) (ai (v2 cN (v2 l_ (aj 2) (v2 cn (aj 6) (vC (.int 2)))) (aj 3)) (ai (v2 cn (bK 0 (vC (.int 0))) (aj 6)) aN)))))
 (dE 5 (v2 cn (bK 0 (vC (.int 0))) (aj 6)))) env
noncomputable def o7:En->Res Fl:=
 (bw (dE 4 (nJ lT (ai (bK 0 (vC (.int 1))) aN)))
 (bw (dE 5 (aj 1))
 (bw (tf (F3 (ai (v2 cn (vC (.int 9)) (v2 cN (aj 2) (vC (.int 12)))) aN)) (gN 6) dG)
 (hV (dw (ai (v2 cn (aj 5) (vC (.int 1))) (ai (nJ Da (ai (aj 4) aN)) (ai (v2 cn (bK 0 (vC (.int 2))) (iZ (ai (aj 5) aN))) aN))))))))
noncomputable def gU:List D->Res R:=fR o6 o7
noncomputable abbrev s__law_rule_by:Stmt:=top 14
noncomputable abbrev iJ:List Str:=["_law_cell", "_law_rooms", "_law_signs", "_law_number", "_law_kind", "_law_room", "_law_sign", "_law_to", "_law_one", "_law_put"]
noncomputable abbrev P__law_rule_by:List Str:=["_law_cell", "_law_rooms", "_law_signs"]
theorem sc__law_rule_by:FnScope iJ P__law_rule_by (defScope s__law_rule_by):=⟨rfl,rfl,rfl,by decide +kernel,rfl,by decide +kernel,by decide +kernel⟩
noncomputable def iL:En->Res Fl:=
 (bw (dE 3 (v2 cN (v2 uV (aj 0) (vC (.int 48271))) (vC (.int 2147483647))))
 (bw (pE (nJ cX (ai (aj 3) (ai (vC (.int 3)) aN))) (gT 2 (aC (gN 3) (aC (gN 4) bQ))))
 (bw (pE (nJ cX (ai (aj 3) (ai (vC (.int 6)) aN))) (gT 2 (aC (gN 3) (aC (gN 5) bQ))))
 (bw (pE (nJ cX (ai (aj 3) (ai (vC (.int 60)) aN))) (gT 2 (aC (gN 3) (aC (gN 6) bQ))))
 (bw (pE (nJ cX (ai (aj 3) (ai (vC (.int 6)) aN))) (gT 2 (aC (gN 3) (aC (gN 7) bQ))))
 (bw (pE (nJ cX (ai (aj 3) (ai (vC (.int 60)) aN))) (gT 2 (aC (gN 3) (aC (gN 8) bQ))))
 (bw (dE 9 (iZ (ai (v2 cN (aj 8) (aj 2)) (ai (v2 cN (aj 3) (aj 2)) aN))))
 (hV (dw (ai (v2 cN (aj 5) (aj 1)) (ai (v2 cN (aj 6) (aj 2)) (ai (v2 cN (aj 7) (aj 1)) (ai (nJ rG (ai (nP (aj 9) z_ (nO (aj 4))) aN)) aN)))))))))))))
noncomputable def cF:List D->Res R:=fR iJ iL
noncomputable abbrev s__law_made_by:Stmt:=top 18
noncomputable abbrev fg:List Str:=["_law_script", "_law_most", "_law_shape", "_law_seed", "_law_rooms", "_law_signs", "_law_own", "_law_many", "_law_machine", "_law_rules"]
noncomputable abbrev P__law_made_by:List Str:=["_law_script", "_law_most"]
theorem sc__law_made_by:FnScope fg P__law_made_by (defScope s__law_made_by):=⟨rfl,rfl,rfl,by decide +kernel,rfl,by decide +kernel,by decide +kernel⟩
theorem ke:((["_law_cell"]:List Str)++(["_law_rooms", "_law_signs"]:List Str)).Nodup:=by decide +kernel
noncomputable def bq:En->Res R:=λenv=>(de cF (ai (aj 0) (ai (aj 1) (ai (aj 2) aN)))) env
noncomputable def cG:En->Res Fl:=
 (bw (kR 2 (de bH (ai (aj 0) (ai (vC (.int 0)) aN))))
 (bw (kR 3 (de bH (ai (aj 0) (ai (vC (.int 1)) aN))))
 (bw (dE 4 (v2 cn (vC (.int 1)) (v2 cN (aj 2) (vC (.int 3)))))
 (bw (dE 5 (v2 cn (vC (.int 1)) (v2 cN (v2 l_ (aj 2) (vC (.int 3))) (vC (.int 5)))))
 (bw (dE 6 (v2 cN (v2 l_ (aj 2) (vC (.int 15))) (vC (.int 3))))
 (bw (dE 7 (v2 uV (v2 cN (aj 3) (vC (.int 10))) (nJ BX (ai (v2 FU (aj 6) (vC (.int 0))) aN))))
 (bw (kR 8 (de aU (ai (aj 3) (ai (nP (aj 0) (nO (vC (.int 4))) (nO (v2 cn (vC (.int 4)) (aj 7)))) (ai (aj 4) (ai (aj 6) (ai (aj 5) aN)))))))
 (bw (yK (Ey (vB (v2 zT (v2 cN (v2 l_ (aj 2) (vC (.int 45))) (vC (.int 8))) (vC (.int 3)))) (vB (v2 G5 (v2 cN (v2 l_ (aj 3) (vC (.int 320))) (vC (.int 4))) (vC (.int 2))))) (kR 8 (de gU (ai (aj 8) (ai (v2 cN (aj 3) (aj 4)) (ai (v2 l_ (aj 3) (vC (.int 7))) (ai (aj 5) aN)))))) nL)
 (bw (dE 9 (fE 1 [4,5] (lj (nP (aj 0) (nO (v2 cn (vC (.int 4)) (aj 7))) (nO (v2 cn (v2 cn (vC (.int 4)) (aj 7)) (aj 1))))) (gN 0) (λ_=>.ok true) bq))
 (hV (dw (ai (dw (ai (aj 4) (ai (aj 5) (ai (aj 9) aN)))) (ai (aj 8) aN)))))))))))))
noncomputable def bI:List D->Res R:=fR fg cG
noncomputable abbrev s__law_copy:Stmt:=top 19
noncomputable abbrev lY:List Str:=["_law_house", "_law_machine"]
noncomputable abbrev P__law_copy:List Str:=["_law_house", "_law_machine"]
theorem rU:FnScope lY P__law_copy (defScope s__law_copy):=⟨rfl,rfl,rfl,by decide +kernel,rfl,by decide +kernel,by decide +kernel⟩
noncomputable def lZ:En->Res Fl:=(hV (iZ (ai (dw (ai (bK 0 (vC (.int 0))) (ai (bK 0 (vC (.int 1))) (ai (nJ lT (ai (bK 0 (vC (.int 2))) aN)) aN)))) (ai (HA (bK 1 (vC (.int 0))) (nJ lT (ai (bK 1 (vC (.int 1))) aN)) (nJ lT (ai (bK 1 (vC (.int 2))) aN))) aN))))
noncomputable def fG:List D->Res R:=fR lY lZ
noncomputable abbrev s_is_plain:Stmt:=top 4
noncomputable abbrev kf:List Str:=["house", "machine"]
noncomputable abbrev P_is_plain:List Str:=["house", "machine"]
theorem tW:FnScope kf P_is_plain (defScope s_is_plain):=⟨rfl,rfl,rfl,by decide +kernel,rfl,by decide +kernel,by decide +kernel⟩
theorem o8:((["arrow"]:List Str)++(["house"]:List Str)).Nodup:=by decide +kernel
noncomputable def cH:En->Res R:=λenv=>(v2 Hu (bK 0 (vC (.int 2))) (bK 1 (vC (.int 0)))) env
noncomputable def o9:En->Res Fl:=(hV (nJ BW (ai (fE 1 [0] (lj (bK 1 (vC (.int 1)))) (gN 0) (λ_=>.ok true) cH) aN)))
noncomputable def gW:List D->Res R:=fR kf o9
noncomputable abbrev s_refuse_unless_plain:Stmt:=top 5
noncomputable abbrev cK:List Str:=["house", "machine"]
noncomputable abbrev P_refuse_unless_plain:List Str:=["house", "machine"]
theorem gX:FnScope cK P_refuse_unless_plain (defScope s_refuse_unless_plain):=⟨rfl,rfl,rfl,by decide +kernel,rfl,by decide +kernel,by decide +kernel⟩
noncomputable def cL:En->Res Fl:=(yK (BL (BK (de gW (ai (aj 0) (ai (aj 1) aN))))) (λ_=>.stuck) nL)
noncomputable def bv:List D->Res R:=fR cK cL
noncomputable abbrev s_rules_by_start:Stmt:=top 9
noncomputable abbrev lK:List Str:=["house", "rules", "number", "rule"]
noncomputable abbrev P_rules_by_start:List Str:=["house"]
theorem sc_rules_by_start:FnScope lK P_rules_by_start (defScope s_rules_by_start):=⟨rfl,rfl,rfl,by decide +kernel,rfl,by decide +kernel,by decide +kernel⟩
noncomputable abbrev s_prices:Stmt:=top 11
noncomputable abbrev AR:List Str:=["house", "machine", "pricing", "arrow", "number", "rule"]
noncomputable abbrev P_prices:List Str:=["house", "machine"]
theorem sc_prices:FnScope AR P_prices (defScope s_prices):=⟨rfl,rfl,rfl,by decide +kernel,rfl,by decide +kernel,by decide +kernel⟩
noncomputable abbrev s_QI:Stmt:=dC (top 7) 0
theorem GK:FnScope ["self"] ["self"] (defScope s_QI):=⟨rfl,rfl,rfl,by decide +kernel,rfl,by decide +kernel,by decide +kernel⟩
noncomputable abbrev s_QA:Stmt:=dC (top 7) 1
theorem GL:FnScope ["self", "price", "thing"] ["self", "price", "thing"] (defScope s_QA):=⟨rfl,rfl,rfl,by decide +kernel,rfl,by decide +kernel,by decide +kernel⟩
noncomputable abbrev s_QE:Stmt:=dC (top 7) 2
theorem GM:FnScope ["self"] ["self"] (defScope s_QE):=⟨rfl,rfl,rfl,by decide +kernel,rfl,by decide +kernel,by decide +kernel⟩
noncomputable abbrev s_QT:Stmt:=dC (top 7) 3
theorem sc_QT:FnScope ["self", "pile", "price", "thing"] ["self"] (defScope s_QT):=⟨rfl,rfl,rfl,by decide +kernel,rfl,by decide +kernel,by decide +kernel⟩
noncomputable abbrev s_PI:Stmt:=dC (top 10) 0
theorem GN:FnScope ["self", "house"] ["self", "house"] (defScope s_PI):=⟨rfl,rfl,rfl,by decide +kernel,rfl,by decide +kernel,by decide +kernel⟩
noncomputable abbrev s_PO:Stmt:=dC (top 10) 1
theorem sc_PO:FnScope ["self", "arrow", "price", "number", "mid", "known"] ["self", "arrow", "price", "number", "mid"] (defScope s_PO):=⟨rfl,rfl,rfl,by decide +kernel,rfl,by decide +kernel,by decide +kernel⟩
noncomputable abbrev s_PS:Stmt:=dC (top 10) 2
theorem sc_PS:FnScope ["self", "arrow", "price", "start", "number", "rule", "first"] ["self", "arrow", "price"] (defScope s_PS):=⟨rfl,rfl,rfl,by decide +kernel,rfl,by decide +kernel,by decide +kernel⟩
noncomputable abbrev s_PF:Stmt:=dC (top 10) 3
theorem sc_PF:FnScope ["self", "number", "rule", "mid", "price", "start", "state", "second"] ["self", "number", "rule", "mid", "price"] (defScope s_PF):=⟨rfl,rfl,rfl,by decide +kernel,rfl,by decide +kernel,by decide +kernel⟩
noncomputable abbrev s_PA:Stmt:=dC (top 10) 4
theorem sc_PA:FnScope ["self", "price", "arrow"] ["self"] (defScope s_PA):=⟨rfl,rfl,rfl,by decide +kernel,rfl,by decide +kernel,by decide +kernel⟩
noncomputable def o_:List D->Res R:=L4.Gp bv
noncomputable abbrev s__law_rows:Stmt:=top 20
noncomputable abbrev tX:List Str:=["_law_told", "_law_rows_here", "_law_arrow", "_law_value"]
noncomputable abbrev P__law_rows:List Str:=["_law_told"]
theorem sc__law_rows:FnScope tX P__law_rows (defScope s__law_rows):=⟨rfl,rfl,rfl,by decide +kernel,rfl,by decide +kernel,by decide +kernel⟩
noncomputable def iN:List D->Res R:=L4.Gr L4.cZ L4.qD
noncomputable abbrev s__law_bids:Stmt:=top 21
noncomputable abbrev iO:List Str:=["_law_rows_here", "_law_rule", "_law_to", "_law_put", "_law_found", "_law_middle", "_law_price"]
noncomputable abbrev P__law_bids:List Str:=["_law_rows_here", "_law_rule"]
theorem sc__law_bids:FnScope iO P__law_bids (defScope s__law_bids):=⟨rfl,rfl,rfl,by decide +kernel,rfl,by decide +kernel,by decide +kernel⟩
theorem hI:((["_law_last", "_law_other"]:List Str)++(["_law_price"]:List Str)).Nodup:=by decide +kernel
noncomputable def db:En->Res R:=λenv=>(dw (ai (aj 0) (ai (v2 cn (v2 cn (vC (.int 1)) (aj 2)) (aj 1)) aN))) env
noncomputable def bW:En->Res Fl:=λenv=>(yK (vB (v2 zT (nJ xQ (ai (aj 3) aN)) (vC (.int 1)))) (xR 4 (dw (ai (aj 5) (ai (v2 cn (vC (.int 1)) (aj 6)) aN)))) (dE 4 (v2 cn (aj 4) (fE 2 [6] (lj (nU (aj 0) (dw (ai (aj 5) (ai (bK 3 (vC (.int 1))) aN))) (iZ aN))) (gT 2 (aC (gN 0) (aC (gN 1) bQ))) (λ_=>.ok true) db)))) env
noncomputable def iP:En->Res Fl:=
 (bw (B3 2 3 (ai (bK 1 (vC (.int 2))) (ai (bK 1 (vC (.int 3))) aN)))
 (bw (yK (vB (v2 zT (aj 3) (dw aN))) (hV (iZ (ai (dw (ai (aj 2) (ai (vC (.int 1)) aN))) aN))) nL)
 (bw (dE 4 (iZ aN))
 (bw (tf (lj (nU (aj 0) (dw (ai (aj 2) (ai (bK 3 (vC (.int 0))) aN))) (iZ aN))) (gT 2 (aC (gN 5) (aC (gN 6) bQ))) bW)
 (hV (aj 4))))))
noncomputable def dt:List D->Res R:=fR iO iP
noncomputable abbrev s_law:Stmt:=top 22
noncomputable abbrev Ds:List Str:=["_law_script", "_law_house", "_law_machine", "_law_handed", "_law_told", "_law_arrow", "_law_rows_here", "_law_rule", "_law_last", "_law_price"]
noncomputable abbrev P_law:List Str:=["_law_script"]
theorem sc_law:FnScope Ds P_law (defScope s_law):=⟨rfl,rfl,rfl,by decide +kernel,rfl,by decide +kernel,by decide +kernel⟩
noncomputable def mP:En->Res Fl:=λenv=>(yK (FX (vB (v2 iT (aj 5) (aj 4))) (vB (v2 C4 (v2 ui (v2 g9 (aj 4) (aj 5)) (vC (.int 0))) (vC (.int 0))))) (hV (vC (.bl false))) nL) env
noncomputable def mQ:En->Res Fl:=λenv=>
 (bw (dE 5 (dw (ai (bK 7 (vC (.int 0))) (ai (bK 7 (vC (.int 1))) (ai (aj 8) aN)))))
 (yK (FX (vB (v2 iT (aj 5) (aj 4))) (vB (v2 FU (v2 ui (v2 g9 (aj 4) (aj 5)) (vC (.int 0))) (aj 9)))) (hV (vC (.bl false))) nL)) env
noncomputable def mR:En->Res Fl:=λenv=>(tf (lj (de dt (ai (aj 6) (ai (aj 7) aN)))) (gT 2 (aC (gN 8) (aC (gN 9) bQ))) mQ) env
noncomputable def wK:En->Res Fl:=λenv=>(hV (vC (.bl true))) env
noncomputable def wL:En->Res Fl:=λenv=>
 (bw (tf (lj (bK 1 (vC (.int 2)))) (gN 7) mR)
 wK) env
noncomputable def wM:En->Res Fl:=λenv=>
 (bw (kR 6 (de iN (ai (aj 4) aN)))
 wL) env
noncomputable def wN:En->Res Fl:=λenv=>
 (bw (tf (lj (bK 2 (vC (.int 1)))) (gN 5) mP)
 wM) env
noncomputable def wO:En->Res Fl:=λenv=>
 (bw (yK (FX (BL (BK (EB "dict" (aj 4)))) (vB (v2 C4 (aj 3) (iZ (ai (aj 1) (ai (aj 2) aN)))))) (hV (vC (.bl false))) nL)
 wN) env
noncomputable def wQ:En->Res Fl:=λenv=>
 (bw (kR 4 (de o_ (ai (bK 3 (vC (.int 0))) (ai (bK 3 (vC (.int 1))) aN))))
 wO) env
noncomputable def wR:En->Res Fl:=λenv=>
 (bw (kR 3 (de fG (ai (aj 1) (ai (aj 2) aN))))
 wQ) env
noncomputable def Dt:En->Res Fl:=
 (bw (pE (de bI (ai (aj 0) (ai (vC (.int 60)) aN))) (gT 2 (aC (gN 1) (aC (gN 2) bQ))))
 wR)
noncomputable def tY:List D->Res R:=fR Ds Dt
set_option genInjectivity false in
structure Tx (K:MI) (mg:Str->Option MK) where
 f_a:Addr
 fd_a:FuncData
 h_a:Fn K mg "_law_seed_at" s__law_seed_at P__law_seed_at f_a fd_a
 f_b:Addr
 fd_b:FuncData
 h_b:Fn K mg "_law_arrow_by" s__law_arrow_by P__law_arrow_by f_b fd_b
 f_c:Addr
 fd_c:FuncData
 h_c:Fn K mg "_law_machine_by" s__law_machine_by P__law_machine_by f_c fd_c
 f_d:Addr
 fd_d:FuncData
 h_d:Fn K mg "_law_far" s__law_far P__law_far f_d fd_d
 f_e:Addr
 fd_e:FuncData
 h_e:Fn K mg "_law_rule_by" s__law_rule_by P__law_rule_by f_e fd_e
 f_f:Addr
 fd_f:FuncData
 h_f:Fn K mg "_law_made_by" s__law_made_by P__law_made_by f_f fd_f
 f_g:Addr
 fd_g:FuncData
 h_g:Fn K mg "_law_copy" s__law_copy P__law_copy f_g fd_g
 f_h:Addr
 fd_h:FuncData
 h_h:Fn K mg "is_plain" s_is_plain P_is_plain f_h fd_h
 f_i:Addr
 fd_i:FuncData
 h_i:Fn K mg "refuse_unless_plain" s_refuse_unless_plain P_refuse_unless_plain f_i fd_i
 f_j:Addr
 fd_j:FuncData
 h_j:Fn K mg "rules_by_start" s_rules_by_start P_rules_by_start f_j fd_j
 f_k:Addr
 fd_k:FuncData
 h_k:Fn K mg "prices" s_prices P_prices f_k fd_k
 f_l:Addr
 fd_l:FuncData
 h_l:Fn K mg "_law_rows" s__law_rows P__law_rows f_l fd_l
 f_m:Addr
 fd_m:FuncData
 h_m:Fn K mg "_law_bids" s__law_bids P__law_bids f_m fd_m
 f_n:Addr
 fd_n:FuncData
 h_n:Fn K mg "law" s_law P_law f_n fd_n
 nb_all:mg "all"=none
 nb_dict:mg "dict"=none
 nb_divmod:mg "divmod"=none
 nb_enumerate:mg "enumerate"=none
 nb_int:mg "int"=none
 nb_isinstance:mg "isinstance"=none
 nb_len:mg "len"=none
 nb_list:mg "list"=none
 nb_min:mg "min"=none
 nb_range:mg "range"=none
 nb_set:mg "set"=none
 nb_sorted:mg "sorted"=none
 nb_tuple:mg "tuple"=none
 CQ:Addr
 kQ:QCls K CQ
 gQ:mg "Queue"=some (.ref CQ)
 CP:Addr
 kP:PCls K CP
 gP:mg "Pricing"=some (.ref CP)
 f_o:Addr
 fd_o:FuncData
 h_o:Fun K "__init__" "Queue.__init__" s_QI f_o fd_o
 b_QI:Binds K fd_o ["self"] []
 k_o:Mk K CQ f_o
 f_p:Addr
 fd_p:FuncData
 h_p:Mt K CQ "add" "Queue.add" s_QA ["self", "price", "thing"] f_p fd_p
 f_q:Addr
 fd_q:FuncData
 h_q:Mt K CQ "is_empty" "Queue.is_empty" s_QE ["self"] f_q fd_q
 f_r:Addr
 fd_r:FuncData
 h_r:Mt K CQ "take_lowest" "Queue.take_lowest" s_QT ["self"] f_r fd_r
 f_s:Addr
 fd_s:FuncData
 h_s:Fun K "__init__" "Pricing.__init__" s_PI f_s fd_s
 b_PI:Binds K fd_s ["self", "house"] []
 k_s:Mk K CP f_s
 f_t:Addr
 fd_t:FuncData
 h_t:Mt K CP "offer" "Pricing.offer" s_PO ["self", "arrow", "price", "number", "mid"] f_t fd_t
 f_u:Addr
 fd_u:FuncData
 h_u:Mt K CP "settle" "Pricing.settle" s_PS ["self", "arrow", "price"] f_u fd_u
 f_v:Addr
 fd_v:FuncData
 h_v:Mt K CP "settle_first" "Pricing.settle_first" s_PF ["self", "number", "rule", "mid", "price"] f_v fd_v
 f_w:Addr
 fd_w:FuncData
 h_w:Mt K CP "settle_all" "Pricing.settle_all" s_PA ["self"] f_w fd_w
section
variable {P:MJ}{w:World}{K:MI}{mg:Str->Option MK}{base:Heap}
theorem hJ (t:Tx K mg):FnOk P w K mg base jf 1 t.f_a t.fd_a P__law_seed_at (pD mg 2 bH):=
 iq t.h_a.fu sc__law_seed_at λcdv A outer s H E hr=>
  have hu:=hr.units
  (au (bB sc__law_seed_at.nd rfl (.inl rfl) aw)
    (au (fK (cb (C2) (qv 1) (bP zZ (by rfl) t.nb_len (by decide +kernel) (aa (qv 0) am)) (bG _)) (aI (bB sc__law_seed_at.nd rfl (.inl rfl) (zW (pv 0) (qv 1) (λ_ _=>rfl)))) cz)
    (aI (bF (aD bj (aD nI (aD nI (aD bt (aD bj (qv 2) aw) aw) aw) aw) aw)))))
theorem lL (t:Tx K mg):FnOk P w K mg base jf 1 t.f_b t.fd_b P__law_arrow_by (pD mg 4 cj):=
 iq t.h_b.fu sc__law_arrow_by λcdv A outer s H E hr=>
  have hu:=hr.units
  (au (bB sc__law_arrow_by.nd rfl (.inl rfl) (aD bj (aD nI (qv 0) aw) aw))
    (au (fC (bP cP (by rfl) t.nb_divmod (by decide +kernel) (aa (qv 4) (aa aw am))) (cA rfl (aJ (aF sc__law_arrow_by.nd rfl (.inl rfl)) (aJ (aF sc__law_arrow_by.nd rfl (.inl rfl)) b9 (λ_ a _ b=>ax a b)) (λ_ a _ b=>ax a b))))
    (au (fC (bP cP (by rfl) t.nb_divmod (by decide +kernel) (aa (qv 4) (aa aw am))) (cA rfl (aJ (aF sc__law_arrow_by.nd rfl (.inl rfl)) (aJ (aF sc__law_arrow_by.nd rfl (.inl rfl)) b9 (λ_ a _ b=>ax a b)) (λ_ a _ b=>ax a b))))
    (aI (bF (bL (aa (aD bj (qv 5) (aD bt (qv 1) (qv 2))) (aa (aD bj (qv 6) (qv 3)) (aa (aD bt (qv 1) (aD bj (qv 4) (qv 2))) am)))))))))
theorem kg (t:Tx K mg):FnOk P w K mg base jf 2 t.f_c t.fd_c P__law_machine_by (pD mg 5 aU):=
 iq t.h_c.fu sc__law_machine_by λcdv A outer s H E hr=>
  have hu:=hr.units
  (au (bB sc__law_machine_by.nd rfl (.inl rfl) (aD bj (aD fJ (qv 0) aw) aw))
    (au (fK (cb (ql hu) (qv 5) aw (bG _)) (au (bB sc__law_machine_by.nd rfl (.inl rfl) (bL (aa (aD bj (aD fJ (qv 0) aw) (qv 2)) (aa (aD bj (aD fJ (qv 0) aw) (qv 4)) (aa (qv 2) am)))))
    (aI (bF (bL (aa (aD bt (qv 2) aw) (aa (bP nY (by rfl) t.nb_sorted (by decide +kernel) (aa (aD bt (dW (aa (qv 6) am)) (rE rfl (CScope.of (osc:=defScope s__law_machine_by) (N:=bC) (tN:=["_law_sign"]) (capN:=["_law_rooms"]) (caps:=[2]) rfl rfl (by decide +kernel)) (ji (by rfl) t.nb_range (aa (qv 4) am)) (by decide) (λcl C s3 H3 fp=>(aF hZ rfl (.inl rfl))) (λcl C s3 H3 fp=>ip) (λcl C s3 H3 fp=>(bL (aa (qv 1) (aa (qv 0) (aa (qv 1) am))))))) am)) (aa (dW (aa (qv 2) am)) am))))))) cz)
    (au (fK (cb (ql hu) (qv 5) aw (bG _)) (aI (bF (bL (aa (qv 2) (aa (dW am) (aa (yb (by rfl) (by rfl) t.nb_list (by decide +kernel) (by rfl) t.nb_range (aa (qv 2) am)) am)))))) cz)
    (au (nN rfl (CScope.of (osc:=defScope s__law_machine_by) (N:=bC) (tN:=["_law_one"]) (capN:=["_law_rooms", "_law_own", "_law_signs"]) (caps:=[2,3,4]) rfl rfl (by decide +kernel)) sc__law_machine_by.nd rfl rfl (fD (qv 1)) (by decide) (λcl C s3 H3 fp=>(aF h7 rfl (.inl rfl))) (λcl C s3 H3 fp=>ip) (λcl C s3 H3 fp=>(bR (lL t) (hr.mono (by decide)) (by rfl) t.h_b fS (aa (qv 0) (aa (qv 1) (aa (qv 2) (aa (qv 3) am)))) (aA (aA (aA (aA bO)))))))
    (au (nN rfl (CScope.of (osc:=defScope s__law_machine_by) (N:=bC) (tN:=["_law_state"]) (capN:=["_law_cell"]) (caps:=[0]) rfl rfl (by decide +kernel)) sc__law_machine_by.nd rfl rfl (ji (by rfl) t.nb_range (aa (aD bt (qv 2) (qv 3)) am)) (by decide) (λcl C s3 H3 fp=>(aF h8 rfl (.inl rfl))) (λcl C s3 H3 fp=>(z9 (cb (ql hu) (aD BZ (aD EL (aD bj (aD fJ (qv 1) aw) aw) (qv 0)) aw) aw (bG _)))) (λcl C s3 H3 fp=>(qv 0)))
    (aI (bF (bL (aa (aD bt (qv 2) (qv 3)) (aa (rJ (by rfl) hu (qv 7) (by rfl) t.nb_sorted (by decide +kernel) (by rfl) t.nb_set (by decide +kernel)) (aa (qv 8) am)))))))))))
theorem tZ (t:Tx K mg):FnOk P w K mg base jf 1 t.f_d t.fd_d P__law_far (pD mg 4 gU):=
 iq t.h_d.fu sc__law_far λcdv A outer s H E hr=>
  have hu:=hr.units
  (au (bB sc__law_far.nd rfl (.inl rfl) (dH mv (by rfl) t.nb_list (by decide +kernel) (aa (bu (pv 0)) am)))
    (au (bB sc__law_far.nd rfl (.inl rfl) (qv 1))
    (au (kN Jl rfl (ji (by rfl) t.nb_range (aa (aD bt aw (aD bj (qv 2) aw)) am)) (aF sc__law_far.nd rfl (.inl rfl)) (au (wf (pv 4) (bL (aa (qv 5) (aa (aD bj (aD fJ (qv 2) (aD bt (qv 6) aw)) (qv 3)) (aa (aD bt (bu (pv 0)) (qv 6)) am)))))
    (aI (bB sc__law_far.nd rfl (.inl rfl) (aD bt (bu (pv 0)) (qv 6))))))
    (aI (bF (bL (aa (aD bt (qv 5) aw) (aa (bP nY (by rfl) t.nb_sorted (by decide +kernel) (aa (qv 4) am)) (aa (aD bt (bu (pv 0)) (dW (aa (qv 5) am))) am)))))))))
theorem ml (t:Tx K mg):FnOk P w K mg base jf 1 t.f_e t.fd_e P__law_rule_by (pD mg 3 cF):=
 iq t.h_e.fu sc__law_rule_by λcdv A outer s H E hr=>
  have hu:=hr.units
  (au (bB sc__law_rule_by.nd rfl (.inl rfl) (aD bj (aD nI (qv 0) aw) aw))
    (au (fC (bP cP (by rfl) t.nb_divmod (by decide +kernel) (aa (qv 3) (aa aw am))) (cA rfl (aJ (aF sc__law_rule_by.nd rfl (.inl rfl)) (aJ (aF sc__law_rule_by.nd rfl (.inl rfl)) b9 (λ_ a _ b=>ax a b)) (λ_ a _ b=>ax a b))))
    (au (fC (bP cP (by rfl) t.nb_divmod (by decide +kernel) (aa (qv 3) (aa aw am))) (cA rfl (aJ (aF sc__law_rule_by.nd rfl (.inl rfl)) (aJ (aF sc__law_rule_by.nd rfl (.inl rfl)) b9 (λ_ a _ b=>ax a b)) (λ_ a _ b=>ax a b))))
    (au (fC (bP cP (by rfl) t.nb_divmod (by decide +kernel) (aa (qv 3) (aa aw am))) (cA rfl (aJ (aF sc__law_rule_by.nd rfl (.inl rfl)) (aJ (aF sc__law_rule_by.nd rfl (.inl rfl)) b9 (λ_ a _ b=>ax a b)) (λ_ a _ b=>ax a b))))
    (au (fC (bP cP (by rfl) t.nb_divmod (by decide +kernel) (aa (qv 3) (aa aw am))) (cA rfl (aJ (aF sc__law_rule_by.nd rfl (.inl rfl)) (aJ (aF sc__law_rule_by.nd rfl (.inl rfl)) b9 (λ_ a _ b=>ax a b)) (λ_ a _ b=>ax a b))))
    (au (fC (bP cP (by rfl) t.nb_divmod (by decide +kernel) (aa (qv 3) (aa aw am))) (cA rfl (aJ (aF sc__law_rule_by.nd rfl (.inl rfl)) (aJ (aF sc__law_rule_by.nd rfl (.inl rfl)) b9 (λ_ a _ b=>ax a b)) (λ_ a _ b=>ax a b))))
    (au (bB sc__law_rule_by.nd rfl (.inl rfl) (dW (aa (aD bj (qv 8) (qv 2)) (aa (aD bj (qv 3) (qv 2)) am))))
    (aI (bF (bL (aa (aD bj (qv 5) (qv 1)) (aa (aD bj (qv 6) (qv 2)) (aa (aD bj (qv 7) (qv 1)) (aa (dH Af (by rfl) t.nb_tuple (by decide +kernel) (aa (nQ (qv 9) Aa (ir (qv 4))) am)) am))))))))))))))
theorem mn (t:Tx K mg):FnOk P w K mg base jf 3 t.f_f t.fd_f P__law_made_by (pD mg 2 bI):=
 iq t.h_f.fu sc__law_made_by λcdv A outer s H E hr=>
  have hu:=hr.units
  (au (d4 sc__law_made_by.nd rfl (.inl rfl) (bR (hJ t) (hr.mono (by decide)) (by rfl) t.h_a fS (aa (qv 0) (aa aw am)) (aA (aA bO))))
    (au (d4 sc__law_made_by.nd rfl (.inl rfl) (bR (hJ t) (hr.mono (by decide)) (by rfl) t.h_a fS (aa (qv 0) (aa aw am)) (aA (aA bO))))
    (au (bB sc__law_made_by.nd rfl (.inr rfl) (aD bt aw (aD bj (qv 2) aw)))
    (au (bB sc__law_made_by.nd rfl (.inr rfl) (aD bt aw (aD bj (aD fJ (qv 2) aw) aw)))
    (au (bB sc__law_made_by.nd rfl (.inl rfl) (aD bj (aD fJ (qv 2) aw) aw))
    (au (bB sc__law_made_by.nd rfl (.inl rfl) (aD nI (aD bj (qv 3) aw) (dH EF (by rfl) t.nb_int (by decide +kernel) (aa (zR (C3) (qv 6) aw (bG _)) am))))
    (au (d4 sc__law_made_by.nd rfl (.inl rfl) (bR (kg t) (hr.mono (by decide)) (by rfl) t.h_c fS (aa (qv 3) (aa (nQ (qv 0) (ir aw) (ir (aD bt aw (qv 7)))) (aa (qv 4) (aa (qv 6) (aa (qv 5) am))))) (aA (aA (aA (aA (aA bO)))))))
    (au (fK (PWD.pt (BM (cb (ql hu) (aD bj (aD fJ (qv 2) aw) aw) aw (bG _)) (zV (cb (C2) (aD bj (aD fJ (qv 3) aw) aw) aw (bG _))))) (aI (d4 sc__law_made_by.nd rfl (.inl rfl) (bR (tZ t) (hr.mono (by decide)) (by rfl) t.h_d fS (aa (qv 8) (aa (aD bj (qv 3) (qv 4)) (aa (aD fJ (qv 3) aw) (aa (qv 5) am)))) (aA (aA (aA (aA bO))))))) cz)
    (au (nN rfl (CScope.of (osc:=defScope s__law_made_by) (N:=fg) (tN:=["_law_cell"]) (capN:=["_law_rooms", "_law_signs"]) (caps:=[4,5]) rfl rfl (by decide +kernel)) sc__law_made_by.nd rfl rfl (fD (nQ (qv 0) (ir (aD bt aw (qv 7))) (ir (aD bt (aD bt aw (qv 7)) (qv 1))))) (by decide) (λcl C s3 H3 fp=>(aF ke rfl (.inl rfl))) (λcl C s3 H3 fp=>ip) (λcl C s3 H3 fp=>(bR (ml t) (hr.mono (by decide)) (by rfl) t.h_e fS (aa (qv 0) (aa (qv 1) (aa (qv 2) am))) (aA (aA (aA bO))))))
    (aI (bF (bL (aa (bL (aa (qv 4) (aa (qv 5) (aa (qv 9) am)))) (aa (qv 8) am))))))))))))))
theorem rV (t:Tx K mg):FnOk P w K mg base jf 1 t.f_g t.fd_g P__law_copy (pD mg 2 fG):=
 iq t.h_g.fu rU λcdv A outer s H E hr=>
  have hu:=hr.units
  (aI (bF (dW (aa (bL (aa (bu (pv 0)) (aa (bu (pv 0)) (aa (dH mv (by rfl) t.nb_list (by decide +kernel) (aa (bu (pv 0)) am)) am)))) (aa (Gc (bu (pv 1)) (dH mv (by rfl) t.nb_list (by decide +kernel) (aa (bu (pv 1)) am)) (dH mv (by rfl) t.nb_list (by decide +kernel) (aa (bu (pv 1)) am))) am)))))
theorem t3 (t:Tx K mg):FnOk P w K mg base jf 1 t.f_h t.fd_h P_is_plain (pD mg 2 gW):=
 iq t.h_h.fu tW λcdv A outer s H E hr=>
  have hu:=hr.units
  (aI (bF (bP (ED (by rfl)) (by rfl) t.nb_all (by decide +kernel) (aa (rE rfl (CScope.of (osc:=defScope s_is_plain) (N:=kf) (tN:=["arrow"]) (capN:=["house"]) (caps:=[0]) rfl rfl (by decide +kernel)) (fD (bu (pv 1))) (by decide) (λcl C s3 H3 fp=>(aF o8 rfl (.inl rfl))) (λcl C s3 H3 fp=>ip) (λcl C s3 H3 fp=>(zR (FV) (bu (pv 0)) (bu (pv 1)) (bG _)))) am))))
theorem gY (t:Tx K mg):FnOk P w K mg base jf 2 t.f_i t.fd_i P_refuse_unless_plain (pD mg 2 bv):=
 iq t.h_i.fu gX λcdv A outer s H E hr=>
  have hu:=hr.units
  (aI (fK (wc (zU (bR (t3 t) (hr.mono (by decide)) (by rfl) t.h_h fS (aa (qv 0) (aa (qv 1) am)) (aA (aA bO))))) (aI yd) cz))
theorem GO (t:Tx K mg):FnOk P w K mg base jf 1 t.f_o t.fd_o ["self"] (mH t.CQ):=t.h_o.ok GK (λ_ _ _ _ h=>tH h) λcdv A outer s H vs Q E hr h=>⟨_,aK (h_ (pv 0) aH rfl) (aO (h_ (pv 0) ze rfl)),vc t.kQ h⟩
theorem Du (t:Tx K mg):FnOk P w K mg base jf 1 t.f_p t.fd_p ["self", "price", "thing"] (qA t.CQ):=
 t.h_p.fu.ok GL (λ_ _ _ _ h=>yn h) λcdv A outer s H vs Q E hr h=>
  ⟨_,aO (bA (ib J5 JV JW cM (ib IZ Jm JX Bv (bY (pv 0) rfl)
    (ag (yZ PySem.F.plainAttrs_int PySem.F.slot_int_bit_length PySem.F.type_int_bit_length Cb (mY DV (pv 1) (bY (pv 0) rfl))) (ag (ga az) az))) (ag (cf (ag (pv 1) (ag (pv 2) az))) az))),Ap t.kQ h rfl⟩
theorem GP (t:Tx K mg):FnOk P w K mg base jf 1 t.f_q t.fd_q ["self"] (mI t.CQ):=t.h_q.fu.ok GM (λ_ _ _ _ h=>tJ h) λcdv A outer s H vs Q E hr h=>⟨_,aO (k8 (vL vK (cw yp (by rfl) t.nb_len Mo (ag (bY (pv 0) rfl) az)) aH (bG _))),vd t.kQ h⟩
theorem t4 (t:Tx K mg):FnOk P w K mg base jf 2 t.f_t t.fd_t ["self", "arrow", "price", "number", "mid"] (fF t.CP t.CQ):=
 t.h_t.fu.ok sc_PO (λ_ _ _ _ h=>tM h) λcdv A outer s H vs Q E hr h=>
  ⟨_,aK (f6 (i:=5) sc_PO.nd rfl (Or.inl rfl) (zh (pS hr) (bY (pv 0) rfl) (pv 1) ⟨rfl,rfl,rfl,rfl⟩))
    (aO (pK (PW.pt (CK (f_ EX (pv 5) mT (bG _)) (yM (f_ CM (pv 2) (bc ix_tup (pv 5) aH (λ_ _=>rfl)) (bG _)))))
      (aK (Bs (pS hr) (bY (pv 0) rfl) (pv 1) (cf (ag (pv 2) (ag (pv 3) (ag (pv 4) az)))) rfl)
        (aO (bA (dB (bY (pv 0) rfl) t.kQ.cl t.h_p.me (Du t) hr t.h_p.bi .nil dQ (ag (pv 2) (ag (pv 1) az))))))
      kr)),vf t.kP t.kQ h⟩
theorem AS:((["price", "thing"]:List Str)++([]:List Str)).Nodup:=by decide +kernel
theorem GQ (t:Tx K mg):FnOk P w K mg base jf 2 t.f_r t.fd_r ["self"] (rP t.CQ):=
 t.h_r.fu.ok sc_QT (λ_ _ _ _ h=>ve h) λcdv A outer s H vs Q E hr h=>
  ⟨_,aK (f6 (i:=1) sc_QT.nd rfl (Or.inl rfl) (sE (bY (pv 0) rfl) (cw (yo rfl) (by rfl) t.nb_min (by decide +kernel) (ag (yZ IZ PySem.F.slot_dict_keys PySem.F.type_dict_keys Cc (bY (pv 0) rfl)) az)) ⟨rfl,rfl,rfl,rfl⟩))
    (aK (h_ (pv 0) (cw (yw rfl) (by rfl) t.nb_min (by decide +kernel) (ag (AC (tN:=["price", "thing"]) (capN:=[]) (caps:=[]) rfl (CScope.of (osc:=defScope s_QT) (N:=["self", "pile", "price", "thing"]) rfl rfl (by decide +kernel)) (f7 (pv 1))) az)) rfl)
    (aK (fI Jl rfl (f7 (pv 1)) (fH rfl (ax (a_ (i:=2) sc_QT.nd rfl (Or.inl rfl)) (ax (a_ (i:=3) sc_QT.nd rfl (Or.inl rfl)) cV)))
      (aO (bA (dB (pv 0) t.kQ.cl t.h_p.me (Du t) hr t.h_p.bi .nil dQ (ag (pv 2) (ag (pv 3) az))))))
    (aO (k8 (sE (bY (pv 0) rfl) aH ⟨rfl,rfl,rfl,rfl⟩))))),
    yq t.kQ (λ_ _=>rfl) (yx rfl (λ_ _ _ _ _=>fH rfl (ax (a_ (i:=0) AS rfl (Or.inl rfl)) (ax (a_ (i:=1) AS rfl (Or.inl rfl)) cV))) λ_ _ _ _ _=>pv 0) h⟩
theorem GR (t:Tx K mg):FnOk P w K mg base jf 3 t.f_v t.fd_v ["self", "number", "rule", "mid", "price"] (mJ t.CP t.CQ):=
 t.h_v.fu.ok sc_PF (λ_ _ _ _ h=>tP h) λcdv A outer s H vs Q E hr h=>
  ⟨_,aK (f6 (i:=5) sc_PF.nd rfl (Or.inl rfl) (cf (ag (pv 3) (ag (bc ix_tup (bc ix_tup (pv 2) aH (λ_ _=>rfl)) aH (λ_ _=>rfl)) az))))
    (aK (bA (ib J5 JV JW cM (ib IZ Jm JX (kI hr.units) (bY (pv 0) rfl) (ag (pv 5) (ag (ga az) az))) (ag (cf (ag (pv 1) (ag (pv 2) (ag (pv 4) az)))) az)))
    (aO (fI Jl rfl (f7 (nh (pS hr) (bY (pv 0) rfl) (pv 5) (ga az) ⟨rfl,rfl,rfl,rfl⟩)) (fH rfl (ax (a_ (i:=6) sc_PF.nd rfl (Or.inl rfl)) (ax (a_ (i:=7) sc_PF.nd rfl (Or.inl rfl)) cV)))
      (aO (bA (dB (pv 0) t.kP.cl t.h_t.me (t4 t) hr t.h_t.bi .nil dQ (ag (cf (ag (bc ix_tup (pv 2) aH (λ_ _=>rfl)) (ag (bc ix_tup (pv 2) aH (λ_ _=>rfl)) (ag (pv 6) az))))
        (ag (mY op_add (mY op_add (pv 4) (pv 7)) aH) (ag (pv 1) (ag (pv 3) az)))))))))),vg t.kP h⟩
theorem GS (t:Tx K mg):FnOk P w K mg base jf 4 t.f_u t.fd_u ["self", "arrow", "price"] (kW t.CP t.CQ):=
 t.h_u.fu.ok sc_PS (λ_ _ _ _ h=>rS h) λcdv A outer s H vs Q E hr h=>
  have hr2:Room 2 _:=hr.mono (by decide)
  ⟨_,aK (f6 (i:=3) sc_PS.nd rfl (Or.inl rfl) (cf (ag (bc ix_tup (pv 1) aH (λ_ _=>rfl)) (ag (bc ix_tup (pv 1) aH (λ_ _=>rfl)) az))))
    (aK (bA (ib J5 JV JW cM (ib IZ Jm JX (kI hr.units) (bY (pv 0) rfl) (ag (pv 3) (ag (ga az) az))) (ag (cf (ag (bc ix_tup (pv 1) aH (λ_ _=>rfl)) (ag (pv 2) az))) az)))
    (aK (fI Jl rfl (f7 (nh (pS hr) (bY (pv 0) rfl) (pv 3) (ga az) ⟨rfl,rfl,rfl,rfl⟩)) (fH rfl (ax (a_ (i:=4) sc_PS.nd rfl (Or.inl rfl)) (ax (a_ (i:=5) sc_PS.nd rfl (Or.inl rfl)) (ax (a_ (i:=6) sc_PS.nd rfl (Or.inl rfl)) cV))))
      (aO (bA (dB (pv 0) t.kP.cl t.h_t.me (t4 t) hr2 t.h_t.bi .nil dQ (ag (cf (ag (bc ix_tup (pv 5) aH (λ_ _=>rfl)) (ag (bc ix_tup (pv 5) aH (λ_ _=>rfl)) (ag (bc ix_tup (pv 1) aH (λ_ _=>rfl)) az))))
        (ag (mY op_add (mY op_add (pv 6) (pv 2)) aH) (ag (pv 4) (ag (bc ix_tup (pv 1) aH (λ_ _=>rfl)) az))))))))
    (aO (fI Jl rfl (f7 (nh (pS hr) (bY (pv 0) rfl) (pv 3) (ga az) ⟨rfl,rfl,rfl,rfl⟩)) (fH rfl (ax (a_ (i:=4) sc_PS.nd rfl (Or.inl rfl)) (ax (a_ (i:=5) sc_PS.nd rfl (Or.inl rfl)) cV)))
      (aO (pK (f_ vK (cw lF (by rfl) t.nb_len Mo (ag (bc ix_tup (pv 5) aH (λ_ _=>rfl)) az)) aH (bG _))
        (aO (bA (dB (pv 0) t.kP.cl t.h_t.me (t4 t) hr2 t.h_t.bi .nil dQ (ag (cf (ag (bc ix_tup (pv 5) aH (λ_ _=>rfl)) (ag (bc ix_tup (pv 5) aH (λ_ _=>rfl)) (ag (bc ix_tup (pv 1) aH (λ_ _=>rfl)) az))))
          (ag (mY op_add (pv 2) aH) (ag (pv 4) (ag mT az)))))))
        (aO (bA (dB (pv 0) t.kP.cl t.h_v.me (GR t) hr t.h_v.bi .nil dQ (ag (pv 4) (ag (pv 5) (ag (bc ix_tup (pv 1) aH (λ_ _=>rfl)) (ag (pv 2) az))))))))))))),tQ t.kP h⟩
theorem GT (t:Tx K mg):FnOk P w K mg base jf 5 t.f_w t.fd_w ["self"] (wB t.CP t.CQ):=
 t.h_w.fu.ok sc_PA (λ_ _ _ _ h=>yr h) λcdv A outer s H vs Q E hr h=>
  ⟨_,aO (yP Jl (yN (DH (m7 (bY (pv 0) rfl) t.kQ.cl t.h_q.me (GP t) (hr.mono (by decide)) t.h_q.bi .nil dQ)))
    (aO (fI Jl rfl (f7 (m7 (bY (pv 0) rfl) t.kQ.cl t.h_r.me (GQ t) (hr.mono (by decide)) t.h_r.bi .nil dQ)) (fH rfl (ax (a_ (i:=1) sc_PA.nd rfl (Or.inl rfl)) (ax (a_ (i:=2) sc_PA.nd rfl (Or.inl rfl)) cV)))
      (aO (pK (f_ vK (bc ix_tup (vT (pS hr) (bY (pv 0) rfl) (pv 2) (λ_ _=>rfl)) aH (λ_ _=>rfl)) (pv 1) (bG _))
        (aO (bA (dB (pv 0) t.kP.cl t.h_u.me (GS t) hr t.h_u.bi .nil dQ (ag (pv 2) (ag (pv 1) az))))) kr))))),Av t.kP h⟩
theorem k7 (t:Tx K mg):FnOk P w K mg base jf 1 t.f_j t.fd_j ["house"] Ck:=
 t.h_j.fu.ok sc_rules_by_start (λ_ _ _ _ h=>Aw h) λcdv A outer s H vs Q E hr h=>
  ⟨_,aK (f6 (i:=1) sc_rules_by_start.nd rfl (Or.inl rfl) ie)
    (aK (fI Jl rfl (wo rfl t.nb_enumerate (ag (bc ix_tup (pv 0) aH (λ_ _=>rfl)) az)) (fH rfl (ax (a_ (i:=2) sc_rules_by_start.nd rfl (Or.inl rfl)) (ax (a_ (i:=3) sc_rules_by_start.nd rfl (Or.inl rfl)) cV)))
      (aO (pK (f_ CN (cw lF (by rfl) t.nb_len Mo (ag (bc ix_tup (pv 3) aH (λ_ _=>rfl)) az)) aH (bG _))
        (aO (bA (ib J5 JV JW cM (ib IZ Jm JX (kI hr.units) (pv 1)
          (ag (cf (ag (bc ix_tup (pv 3) aH (λ_ _=>rfl)) (ag (bc ix_tup (bc ix_tup (pv 3) aH (λ_ _=>rfl)) aH (λ_ _=>rfl)) az))) (ag (ga az) az))) (ag (cf (ag (pv 2) (ag (pv 3) az))) az)))) kr)))
    (aO (k8 (pv 1)))),Cm h⟩
theorem GU (t:Tx K mg):FnOk P w K mg base jf 3 t.f_s t.fd_s ["self", "house"] (mK t.CP t.CQ):=
 t.h_s.ok GN (λ_ _ _ _ h=>tR h) λcdv A outer s H vs Q E hr h=>
  ⟨_,aK (h_ (pv 0) (qK (k7 t) (hr.mono (by decide)) rfl t.h_j.gl t.h_j.fu.kp t.h_j.bi .nil dQ (ag (pv 1) az)) rfl)
    (aK (h_ (pv 0) ie rfl) (aK (h_ (pv 0) (yV t.k_o (GO t) hr rfl t.gQ t.b_QI .nil dQ) rfl) (aK (h_ (pv 0) ie rfl) (aO (h_ (pv 0) ie rfl))))),vi t.kP h⟩
theorem yB (t:Tx K mg):FnOk P w K mg base jf 6 t.f_k t.fd_k P_prices (pD mg 2 o_):=
 t.h_k.fu.ok sc_prices (λ_ _ _ _ h=>h.1) λcdv A outer s H vs Q E hr h=>
  have hr2:Room 2 _:=hr.mono (by decide)
  ⟨_,aK (bA (qK (gY t) (hr.mono (by decide)) rfl t.h_i.gl t.h_i.fu.kp t.h_i.bi .nil fS (ag (pv 0) (ag (pv 1) az))))
    (aK (f6 (i:=2) sc_prices.nd rfl (Or.inl rfl) (Bl t.k_s (GU t) (hr.mono (by decide)) rfl t.gP t.b_PI .nil dQ (ag (pv 0) az)))
    (aK (fI Jl rfl (f7 (bc ix_tup (pv 1) aH (λ_ _=>rfl))) (a_ (i:=3) sc_prices.nd rfl (Or.inl rfl)) (aO (bA (dB (pv 2) t.kP.cl t.h_t.me (t4 t) hr2 t.h_t.bi .nil dQ (ag (pv 3) (ag aH (ag mT (ag mT az))))))))
    (aK (fI Jl rfl (wo rfl t.nb_enumerate (ag (bc ix_tup (pv 0) aH (λ_ _=>rfl)) az)) (fH rfl (ax (a_ (i:=4) sc_prices.nd rfl (Or.inl rfl)) (ax (a_ (i:=5) sc_prices.nd rfl (Or.inl rfl)) cV)))
      (aO (pK (f_ vK (cw lF (by rfl) t.nb_len Mo (ag (bc ix_tup (pv 5) aH (λ_ _=>rfl)) az)) aH (bG _))
        (aO (bA (dB (pv 2) t.kP.cl t.h_t.me (t4 t) hr2 t.h_t.bi .nil dQ (ag (cf (ag (bc ix_tup (pv 5) aH (λ_ _=>rfl)) (ag (bc ix_tup (pv 5) aH (λ_ _=>rfl)) (ag (bc ix_tup (pv 5) aH (λ_ _=>rfl)) az))))
          (ag aH (ag (pv 4) (ag mT az))))))) kr)))
    (aK (bA (m7 (pv 2) t.kP.cl t.h_w.me (GT t) hr t.h_w.bi .nil dQ))
    (aO (k8 (bY (pv 2) rfl))))))),tS t.kP h⟩
theorem rW (t:Tx K mg):FnOk P w K mg base jf 1 t.f_l t.fd_l P__law_rows (pD mg 1 iN):=
 t.h_l.fu.ok sc__law_rows (λ_ _ _ _ h=>h.1) λcdv A outer s H vs Q E hr h=>
  ⟨_,aK (f6 (i:=1) sc__law_rows.nd rfl (Or.inl rfl) ie)
    (aK (EO (fI Jl rfl (xJ (pv 0)) (fH rfl (ax (a_ (i:=2) sc__law_rows.nd rfl (Or.inl rfl)) (ax (a_ (i:=3) sc__law_rows.nd rfl (Or.inl rfl)) cV)))
      (aO (bA (ib J5 JV JW cM (ib IZ Jm JX (kI hr.units) (pv 1)
        (ag (cf (ag (bc ix_tup (pv 2) aH (λ_ _=>rfl)) (ag (bc ix_tup (pv 2) aH (λ_ _=>rfl)) az))) (ag (ga az) az))) (ag (cf (ag (bc ix_tup (pv 2) aH (λ_ _=>rfl)) (ag (bc ix_tup (pv 3) aH (λ_ _=>rfl)) az))) az))))))
    (aO (k8 (pv 1)))),Cp Cq rfl h⟩
theorem rX (t:Tx K mg):FnOk P w K mg base jf 1 t.f_m t.fd_m P__law_bids (pD mg 2 dt):=
 iq t.h_m.fu sc__law_bids λcdv A outer s H E hr=>
  have hu:=hr.units
  (au (B4 (i:=2) (j:=3) rfl sc__law_bids.nd rfl rfl (by decide) rfl rfl (aa (bu (pv 1)) (aa (bu (pv 1)) am)))
    (au (fK (cb (ql hu) (qv 3) (bL am) (bG _)) (aI (bF (dW (aa (bL (aa (qv 2) (aa aw am))) am)))) cz)
    (au (bB sc__law_bids.nd rfl (.inl rfl) (dW am))
    (au (kN Jl rfl (fD (wu hu (qv 0) (bL (aa (qv 2) (aa (bu (pv 3)) am))) (dW am) ⟨rfl,rfl,rfl,rfl⟩)) (cA rfl (aJ (aF sc__law_bids.nd rfl (.inl rfl)) (aJ (aF sc__law_bids.nd rfl (.inr rfl)) b9 (λ_ a _ b=>ax a b)) (λ_ a _ b=>ax a b))) (aI (fK (cb (ql hu) (bP zZ (by rfl) t.nb_len (by decide +kernel) (aa (qv 3) am)) aw (bG _)) (aI (wf (pv 4) (bL (aa (qv 5) (aa (aD bt aw (qv 6)) am))))) (aI (bB sc__law_bids.nd rfl (.inl rfl) (aD bt (qv 4) (rE rfl (CScope.of (osc:=defScope s__law_bids) (N:=iO) (tN:=["_law_last", "_law_other"]) (capN:=["_law_price"]) (caps:=[6]) rfl rfl (by decide +kernel)) (fD (wu hu (qv 0) (bL (aa (qv 5) (aa (bu (pv 3)) am))) (dW am) ⟨rfl,rfl,rfl,rfl⟩)) (by decide) (λcl C s3 H3 fp=>(cA rfl (aJ (aF hI rfl (.inl rfl)) (aJ (aF hI rfl (.inl rfl)) b9 (λ_ a _ b=>ax a b)) (λ_ a _ b=>ax a b)))) (λcl C s3 H3 fp=>ip) (λcl C s3 H3 fp=>(bL (aa (qv 0) (aa (aD bt (aD bt aw (qv 2)) (qv 1)) am)))))))))))
    (aI (bF (qv 4)))))))
theorem Fm (t:Tx K mg):FnOk P w K mg base jf 7 t.f_n t.fd_n P_law (pD mg 1 tY):=
 iq t.h_n.fu sc_law λcdv A outer s H E hr=>
  have hu:=hr.units
  (au (fC (bR (mn t) (hr.mono (by decide)) (by rfl) t.h_f fS (aa (qv 0) (aa aw am)) (aA (aA bO))) (cA rfl (aJ (aF sc_law.nd rfl (.inl rfl)) (aJ (aF sc_law.nd rfl (.inl rfl)) b9 (λ_ a _ b=>ax a b)) (λ_ a _ b=>ax a b))))
    (au (d4 sc_law.nd rfl (.inl rfl) (bR (rV t) (hr.mono (by decide)) (by rfl) t.h_g fS (aa (qv 1) (aa (qv 2) am)) (aA (aA bO))))
    (au (d4 sc_law.nd rfl (.inl rfl) (bR (yB t) (hr.mono (by decide)) (by rfl) t.h_k fS (aa (bu (pv 3)) (aa (bu (pv 3)) am)) (aA (aA bO))))
    (au (fK (PWD.pt (uW (wc (zU (EC xY (by rfl) t.nb_isinstance (by rfl) t.nb_dict (by decide +kernel) (qv 4)))) (rq (cb (C5 hu) (qv 3) (dW (aa (qv 1) (aa (qv 2) am))) (bG _))))) (aI (bF wb)) cz)
    (au (kN Jl rfl (fD (bu (pv 2))) (aF sc_law.nd rfl (.inl rfl)) (aI (fK (PWD.pt (uW (cb (qu hu) (qv 5) (qv 4) (by rfl)) (rq (cb (C5 hu) (C7 (wq hu (qv 4) (qv 5) (λ_ _=>rfl)) aw (λ_ _=>rfl)) aw (bG _))))) (aI (bF wb)) cz)))
    (au (d4 sc_law.nd rfl (.inl rfl) (bR (rW t) (hr.mono (by decide)) (by rfl) t.h_l fS (aa (qv 4) am) (aA bO)))
    (au (kN Jl rfl (fD (bu (pv 1))) (aF sc_law.nd rfl (.inl rfl)) (aI (kN Jl rfl (fD (bR (rX t) (hr.mono (by decide)) (by rfl) t.h_m fS (aa (qv 6) (aa (qv 7) am)) (aA (aA bO)))) (cA rfl (aJ (aF sc_law.nd rfl (.inl rfl)) (aJ (aF sc_law.nd rfl (.inl rfl)) b9 (λ_ a _ b=>ax a b)) (λ_ a _ b=>ax a b))) (au (bB sc_law.nd rfl (.inl rfl) (bL (aa (bu (pv 7)) (aa (bu (pv 7)) (aa (qv 8) am)))))
    (aI (fK (PWD.pt (uW (cb (qu hu) (qv 5) (qv 4) (by rfl)) (rq (cb (C3) (C7 (wq hu (qv 4) (qv 5) (λ_ _=>rfl)) aw (λ_ _=>rfl)) (qv 9) (bG _))))) (aI (bF wb)) cz))))))
    (aI (bF wb)))))))))
end
theorem HI {Q:List MK->Prop}{us:List MK}(hl:us.length=0)(h:Q []):Q us:=by
 cases us with
 |nil=>exact h
 |cons a r=>cases hl
theorem AT {Q:List MK->Prop}{us:List MK}{n:Nat}(hl:us.length=n+1)(h:∀(a:MK)(r:List MK),r.length=n->Q (a::r)):Q us:=by
 cases us with
 |nil=>cases hl
 |cons a r=>exact h a r (Nat.succ.inj hl)
theorem t5 {Q:List MK->Prop}{us:List MK}(hl:us.length=1)(h:∀ a0:MK,Q [a0]):Q us:=AT hl λa r q=>HI (Q:=λr=>Q (a::r)) q (h a)
theorem rY {Q:List MK->Prop}{us:List MK}(hl:us.length=2)(h:∀ a0 a1:MK,Q [a0,a1]):Q us:=AT hl λa r q=>t5 (Q:=λr=>Q (a::r)) q (h a)
theorem CB {Q:List MK->Prop}{us:List MK}(hl:us.length=3)(h:∀ a0 a1 a2:MK,Q [a0,a1,a2]):Q us:=AT hl λa r q=>rY (Q:=λr=>Q (a::r)) q (h a)
theorem Fo {Q:List MK->Prop}{us:List MK}(hl:us.length=4)(h:∀ a0 a1 a2 a3:MK,Q [a0,a1,a2,a3]):Q us:=AT hl λa r q=>CB (Q:=λr=>Q (a::r)) q (h a)
theorem Fp {Q:List MK->Prop}{us:List MK}(hl:us.length=5)(h:∀ a0 a1 a2 a3 a4:MK,Q [a0,a1,a2,a3,a4]):Q us:=AT hl λa r q=>Fo (Q:=λr=>Q (a::r)) q (h a)
theorem GV {K KK:MI}{mg:Str->Option MK}{h:Heap}(X:K.In h)(G:h.Ns mainGlobals mg)(U:SubK K KK)
 {f_a:Addr} {od_a an_a:Option Addr} {sl_a:Array (Option MK)} {oc_a kV_a dc_a pm_a cd_a ct_a:MK}
 (a_a:PySem.W.nsIn K mainGlobals "_law_seed_at"=some (some (.ref f_a))) (l_a:K.lookup f_a=some ⟨oc_a,od_a,.func (PySem.W.fnOf "_law_seed_at" "_law_seed_at" (defArgs s__law_seed_at) (defBody s__law_seed_at) (defScope s__law_seed_at) .none kV_a dc_a pm_a an_a cd_a ct_a),sl_a⟩) (c_a:PySem.W.codeIn K cd_a "_law_seed_at"=true)
 {f_b:Addr} {od_b an_b:Option Addr} {sl_b:Array (Option MK)} {oc_b kV_b dc_b pm_b cd_b ct_b:MK}
 (a_b:PySem.W.nsIn K mainGlobals "_law_arrow_by"=some (some (.ref f_b))) (l_b:K.lookup f_b=some ⟨oc_b,od_b,.func (PySem.W.fnOf "_law_arrow_by" "_law_arrow_by" (defArgs s__law_arrow_by) (defBody s__law_arrow_by) (defScope s__law_arrow_by) .none kV_b dc_b pm_b an_b cd_b ct_b),sl_b⟩) (c_b:PySem.W.codeIn K cd_b "_law_arrow_by"=true)
 {f_c:Addr} {od_c an_c:Option Addr} {sl_c:Array (Option MK)} {oc_c kV_c dc_c pm_c cd_c ct_c:MK}
 (a_c:PySem.W.nsIn K mainGlobals "_law_machine_by"=some (some (.ref f_c))) (l_c:K.lookup f_c=some ⟨oc_c,od_c,.func (PySem.W.fnOf "_law_machine_by" "_law_machine_by" (defArgs s__law_machine_by) (defBody s__law_machine_by) (defScope s__law_machine_by) .none kV_c dc_c pm_c an_c cd_c ct_c),sl_c⟩) (c_c:PySem.W.codeIn K cd_c "_law_machine_by"=true)
 {f_d:Addr} {od_d an_d:Option Addr} {sl_d:Array (Option MK)} {oc_d kV_d dc_d pm_d cd_d ct_d:MK}
 (a_d:PySem.W.nsIn K mainGlobals "_law_far"=some (some (.ref f_d))) (l_d:K.lookup f_d=some ⟨oc_d,od_d,.func (PySem.W.fnOf "_law_far" "_law_far" (defArgs s__law_far) (defBody s__law_far) (defScope s__law_far) .none kV_d dc_d pm_d an_d cd_d ct_d),sl_d⟩) (c_d:PySem.W.codeIn K cd_d "_law_far"=true)
 {f_e:Addr} {od_e an_e:Option Addr} {sl_e:Array (Option MK)} {oc_e kV_e dc_e pm_e cd_e ct_e:MK}
 (a_e:PySem.W.nsIn K mainGlobals "_law_rule_by"=some (some (.ref f_e))) (l_e:K.lookup f_e=some ⟨oc_e,od_e,.func (PySem.W.fnOf "_law_rule_by" "_law_rule_by" (defArgs s__law_rule_by) (defBody s__law_rule_by) (defScope s__law_rule_by) .none kV_e dc_e pm_e an_e cd_e ct_e),sl_e⟩) (c_e:PySem.W.codeIn K cd_e "_law_rule_by"=true)
 {f_f:Addr} {od_f an_f:Option Addr} {sl_f:Array (Option MK)} {oc_f kV_f dc_f pm_f cd_f ct_f:MK}
 (a_f:PySem.W.nsIn K mainGlobals "_law_made_by"=some (some (.ref f_f))) (l_f:K.lookup f_f=some ⟨oc_f,od_f,.func (PySem.W.fnOf "_law_made_by" "_law_made_by" (defArgs s__law_made_by) (defBody s__law_made_by) (defScope s__law_made_by) .none kV_f dc_f pm_f an_f cd_f ct_f),sl_f⟩) (c_f:PySem.W.codeIn K cd_f "_law_made_by"=true)
 {f_g:Addr} {od_g an_g:Option Addr} {sl_g:Array (Option MK)} {oc_g kV_g dc_g pm_g cd_g ct_g:MK}
 (a_g:PySem.W.nsIn K mainGlobals "_law_copy"=some (some (.ref f_g))) (l_g:K.lookup f_g=some ⟨oc_g,od_g,.func (PySem.W.fnOf "_law_copy" "_law_copy" (defArgs s__law_copy) (defBody s__law_copy) (defScope s__law_copy) .none kV_g dc_g pm_g an_g cd_g ct_g),sl_g⟩) (c_g:PySem.W.codeIn K cd_g "_law_copy"=true)
 {f_h:Addr} {od_h an_h:Option Addr} {sl_h:Array (Option MK)} {oc_h kV_h dc_h pm_h cd_h ct_h:MK}
 (a_h:PySem.W.nsIn K mainGlobals "is_plain"=some (some (.ref f_h))) (l_h:K.lookup f_h=some ⟨oc_h,od_h,.func (PySem.W.fnOf "is_plain" "is_plain" (defArgs s_is_plain) (defBody s_is_plain) (defScope s_is_plain) .none kV_h dc_h pm_h an_h cd_h ct_h),sl_h⟩) (c_h:PySem.W.codeIn K cd_h "is_plain"=true)
 {f_i:Addr} {od_i an_i:Option Addr} {sl_i:Array (Option MK)} {oc_i kV_i dc_i pm_i cd_i ct_i:MK}
 (a_i:PySem.W.nsIn K mainGlobals "refuse_unless_plain"=some (some (.ref f_i))) (l_i:K.lookup f_i=some ⟨oc_i,od_i,.func (PySem.W.fnOf "refuse_unless_plain" "refuse_unless_plain" (defArgs s_refuse_unless_plain) (defBody s_refuse_unless_plain) (defScope s_refuse_unless_plain) .none kV_i dc_i pm_i an_i cd_i ct_i),sl_i⟩) (c_i:PySem.W.codeIn K cd_i "refuse_unless_plain"=true)
 {f_j:Addr} {od_j an_j:Option Addr} {sl_j:Array (Option MK)} {oc_j kV_j dc_j pm_j cd_j ct_j:MK}
 (a_j:PySem.W.nsIn K mainGlobals "rules_by_start"=some (some (.ref f_j))) (l_j:K.lookup f_j=some ⟨oc_j,od_j,.func (PySem.W.fnOf "rules_by_start" "rules_by_start" (defArgs s_rules_by_start) (defBody s_rules_by_start) (defScope s_rules_by_start) .none kV_j dc_j pm_j an_j cd_j ct_j),sl_j⟩) (c_j:PySem.W.codeIn K cd_j "rules_by_start"=true)
 {f_k:Addr} {od_k an_k:Option Addr} {sl_k:Array (Option MK)} {oc_k kV_k dc_k pm_k cd_k ct_k:MK}
 (a_k:PySem.W.nsIn K mainGlobals "prices"=some (some (.ref f_k))) (l_k:K.lookup f_k=some ⟨oc_k,od_k,.func (PySem.W.fnOf "prices" "prices" (defArgs s_prices) (defBody s_prices) (defScope s_prices) .none kV_k dc_k pm_k an_k cd_k ct_k),sl_k⟩) (c_k:PySem.W.codeIn K cd_k "prices"=true)
 {f_l:Addr} {od_l an_l:Option Addr} {sl_l:Array (Option MK)} {oc_l kV_l dc_l pm_l cd_l ct_l:MK}
 (a_l:PySem.W.nsIn K mainGlobals "_law_rows"=some (some (.ref f_l))) (l_l:K.lookup f_l=some ⟨oc_l,od_l,.func (PySem.W.fnOf "_law_rows" "_law_rows" (defArgs s__law_rows) (defBody s__law_rows) (defScope s__law_rows) .none kV_l dc_l pm_l an_l cd_l ct_l),sl_l⟩) (c_l:PySem.W.codeIn K cd_l "_law_rows"=true)
 {f_m:Addr} {od_m an_m:Option Addr} {sl_m:Array (Option MK)} {oc_m kV_m dc_m pm_m cd_m ct_m:MK}
 (a_m:PySem.W.nsIn K mainGlobals "_law_bids"=some (some (.ref f_m))) (l_m:K.lookup f_m=some ⟨oc_m,od_m,.func (PySem.W.fnOf "_law_bids" "_law_bids" (defArgs s__law_bids) (defBody s__law_bids) (defScope s__law_bids) .none kV_m dc_m pm_m an_m cd_m ct_m),sl_m⟩) (c_m:PySem.W.codeIn K cd_m "_law_bids"=true)
 {f_n:Addr} {od_n an_n:Option Addr} {sl_n:Array (Option MK)} {oc_n kV_n dc_n pm_n cd_n ct_n:MK}
 (a_n:PySem.W.nsIn K mainGlobals "law"=some (some (.ref f_n))) (l_n:K.lookup f_n=some ⟨oc_n,od_n,.func (PySem.W.fnOf "law" "law" (defArgs s_law) (defBody s_law) (defScope s_law) .none kV_n dc_n pm_n an_n cd_n ct_n),sl_n⟩) (c_n:PySem.W.codeIn K cd_n "law"=true)
 (z_all:PySem.W.nsIn K mainGlobals "all"=some none)
 (z_dict:PySem.W.nsIn K mainGlobals "dict"=some none)
 (z_divmod:PySem.W.nsIn K mainGlobals "divmod"=some none)
 (z_enumerate:PySem.W.nsIn K mainGlobals "enumerate"=some none)
 (z_int:PySem.W.nsIn K mainGlobals "int"=some none)
 (z_isinstance:PySem.W.nsIn K mainGlobals "isinstance"=some none)
 (z_len:PySem.W.nsIn K mainGlobals "len"=some none)
 (z_list:PySem.W.nsIn K mainGlobals "list"=some none)
 (z_min:PySem.W.nsIn K mainGlobals "min"=some none)
 (z_range:PySem.W.nsIn K mainGlobals "range"=some none)
 (z_set:PySem.W.nsIn K mainGlobals "set"=some none)
 (z_sorted:PySem.W.nsIn K mainGlobals "sorted"=some none)
 (z_tuple:PySem.W.nsIn K mainGlobals "tuple"=some none)
 {CQ:Addr} (b_Queue:PySem.W.nsIn K mainGlobals "Queue"=some (some (.ref CQ))) (pgQ:PySem.W.plainGet KK CQ Str.empty=true) (hdQ:PySem.W.hasDictIn KK CQ=true) (poQ:PySem.W.plainOver KK CQ=true) (saQ:PySem.W.findIn KK (.ref CQ) "__setattr__"=some (some (.builtin "object.__setattr__"))) (mkQ:PySem.W.makesIn KK CQ=true) (kcQ:PySem.W.keepIn KK (.ref CQ)=true)
 (naQ_last:PySem.W.findIn KK (.ref CQ) "last"=some none)
 (naQ_piles:PySem.W.findIn KK (.ref CQ) "piles"=some none)
 {CP:Addr} (b_Pricing:PySem.W.nsIn K mainGlobals "Pricing"=some (some (.ref CP))) (pgP:PySem.W.plainGet KK CP Str.empty=true) (hdP:PySem.W.hasDictIn KK CP=true) (poP:PySem.W.plainOver KK CP=true) (saP:PySem.W.findIn KK (.ref CP) "__setattr__"=some (some (.builtin "object.__setattr__"))) (mkP:PySem.W.makesIn KK CP=true) (kcP:PySem.W.keepIn KK (.ref CP)=true)
 (naP_rules:PySem.W.findIn KK (.ref CP) "rules"=some none)
 (naP_told:PySem.W.findIn KK (.ref CP) "told"=some none)
 (naP_offers:PySem.W.findIn KK (.ref CP) "offers"=some none)
 (naP_settled:PySem.W.findIn KK (.ref CP) "settled"=some none)
 (naP_lacking:PySem.W.findIn KK (.ref CP) "lacking"=some none)
 {f_o:Addr} {od_o an_o:Option Addr} {sl_o:Array (Option MK)} {oc_o kV_o dc_o pm_o cd_o ct_o:MK}
 (aM_QI:PySem.W.findIn KK (.ref CQ) "__init__"=some (some (.ref f_o))) (iM_QI:PySem.W.isFn KK (.ref f_o)=true) (l_o:KK.lookup f_o=some ⟨oc_o,od_o,.func (PySem.W.fnOf "__init__" "Queue.__init__" (defArgs s_QI) (defBody s_QI) (defScope s_QI) .none kV_o dc_o pm_o an_o cd_o ct_o),sl_o⟩) (c_o:PySem.W.codeIn KK cd_o "Queue.__init__"=true) (kp_QI:PySem.W.keepIn KK (.ref f_o)=true)
 {f_p:Addr} {od_p an_p:Option Addr} {sl_p:Array (Option MK)} {oc_p kV_p dc_p pm_p cd_p ct_p:MK}
 (aM_QA:PySem.W.findIn KK (.ref CQ) "add"=some (some (.ref f_p))) (iM_QA:PySem.W.isFn KK (.ref f_p)=true) (l_p:KK.lookup f_p=some ⟨oc_p,od_p,.func (PySem.W.fnOf "add" "Queue.add" (defArgs s_QA) (defBody s_QA) (defScope s_QA) .none kV_p dc_p pm_p an_p cd_p ct_p),sl_p⟩) (c_p:PySem.W.codeIn KK cd_p "Queue.add"=true) (kp_QA:PySem.W.keepIn KK (.ref f_p)=true)
 {f_q:Addr} {od_q an_q:Option Addr} {sl_q:Array (Option MK)} {oc_q kV_q dc_q pm_q cd_q ct_q:MK}
 (aM_QE:PySem.W.findIn KK (.ref CQ) "is_empty"=some (some (.ref f_q))) (iM_QE:PySem.W.isFn KK (.ref f_q)=true) (l_q:KK.lookup f_q=some ⟨oc_q,od_q,.func (PySem.W.fnOf "is_empty" "Queue.is_empty" (defArgs s_QE) (defBody s_QE) (defScope s_QE) .none kV_q dc_q pm_q an_q cd_q ct_q),sl_q⟩) (c_q:PySem.W.codeIn KK cd_q "Queue.is_empty"=true) (kp_QE:PySem.W.keepIn KK (.ref f_q)=true)
 {f_r:Addr} {od_r an_r:Option Addr} {sl_r:Array (Option MK)} {oc_r kV_r dc_r pm_r cd_r ct_r:MK}
 (aM_QT:PySem.W.findIn KK (.ref CQ) "take_lowest"=some (some (.ref f_r))) (iM_QT:PySem.W.isFn KK (.ref f_r)=true) (l_r:KK.lookup f_r=some ⟨oc_r,od_r,.func (PySem.W.fnOf "take_lowest" "Queue.take_lowest" (defArgs s_QT) (defBody s_QT) (defScope s_QT) .none kV_r dc_r pm_r an_r cd_r ct_r),sl_r⟩) (c_r:PySem.W.codeIn KK cd_r "Queue.take_lowest"=true) (kp_QT:PySem.W.keepIn KK (.ref f_r)=true)
 {f_s:Addr} {od_s an_s:Option Addr} {sl_s:Array (Option MK)} {oc_s kV_s dc_s pm_s cd_s ct_s:MK}
 (aM_PI:PySem.W.findIn KK (.ref CP) "__init__"=some (some (.ref f_s))) (iM_PI:PySem.W.isFn KK (.ref f_s)=true) (l_s:KK.lookup f_s=some ⟨oc_s,od_s,.func (PySem.W.fnOf "__init__" "Pricing.__init__" (defArgs s_PI) (defBody s_PI) (defScope s_PI) .none kV_s dc_s pm_s an_s cd_s ct_s),sl_s⟩) (c_s:PySem.W.codeIn KK cd_s "Pricing.__init__"=true) (kp_PI:PySem.W.keepIn KK (.ref f_s)=true)
 {f_t:Addr} {od_t an_t:Option Addr} {sl_t:Array (Option MK)} {oc_t kV_t dc_t pm_t cd_t ct_t:MK}
 (aM_PO:PySem.W.findIn KK (.ref CP) "offer"=some (some (.ref f_t))) (iM_PO:PySem.W.isFn KK (.ref f_t)=true) (l_t:KK.lookup f_t=some ⟨oc_t,od_t,.func (PySem.W.fnOf "offer" "Pricing.offer" (defArgs s_PO) (defBody s_PO) (defScope s_PO) .none kV_t dc_t pm_t an_t cd_t ct_t),sl_t⟩) (c_t:PySem.W.codeIn KK cd_t "Pricing.offer"=true) (kp_PO:PySem.W.keepIn KK (.ref f_t)=true)
 {f_u:Addr} {od_u an_u:Option Addr} {sl_u:Array (Option MK)} {oc_u kV_u dc_u pm_u cd_u ct_u:MK}
 (aM_PS:PySem.W.findIn KK (.ref CP) "settle"=some (some (.ref f_u))) (iM_PS:PySem.W.isFn KK (.ref f_u)=true) (l_u:KK.lookup f_u=some ⟨oc_u,od_u,.func (PySem.W.fnOf "settle" "Pricing.settle" (defArgs s_PS) (defBody s_PS) (defScope s_PS) .none kV_u dc_u pm_u an_u cd_u ct_u),sl_u⟩) (c_u:PySem.W.codeIn KK cd_u "Pricing.settle"=true) (kp_PS:PySem.W.keepIn KK (.ref f_u)=true)
 {f_v:Addr} {od_v an_v:Option Addr} {sl_v:Array (Option MK)} {oc_v kV_v dc_v pm_v cd_v ct_v:MK}
 (aM_PF:PySem.W.findIn KK (.ref CP) "settle_first"=some (some (.ref f_v))) (iM_PF:PySem.W.isFn KK (.ref f_v)=true) (l_v:KK.lookup f_v=some ⟨oc_v,od_v,.func (PySem.W.fnOf "settle_first" "Pricing.settle_first" (defArgs s_PF) (defBody s_PF) (defScope s_PF) .none kV_v dc_v pm_v an_v cd_v ct_v),sl_v⟩) (c_v:PySem.W.codeIn KK cd_v "Pricing.settle_first"=true) (kp_PF:PySem.W.keepIn KK (.ref f_v)=true)
 {f_w:Addr} {od_w an_w:Option Addr} {sl_w:Array (Option MK)} {oc_w kV_w dc_w pm_w cd_w ct_w:MK}
 (aM_PA:PySem.W.findIn KK (.ref CP) "settle_all"=some (some (.ref f_w))) (iM_PA:PySem.W.isFn KK (.ref f_w)=true) (l_w:KK.lookup f_w=some ⟨oc_w,od_w,.func (PySem.W.fnOf "settle_all" "Pricing.settle_all" (defArgs s_PA) (defBody s_PA) (defScope s_PA) .none kV_w dc_w pm_w an_w cd_w ct_w),sl_w⟩) (c_w:PySem.W.codeIn KK cd_w "Pricing.settle_all"=true) (kp_PA:PySem.W.keepIn KK (.ref f_w)=true)
 : ∃ t:Tx KK mg,t.f_n=f_n:=
 ⟨⟨f_a,_,cB (st:=s__law_seed_at) (ps:=P__law_seed_at) U l_a c_a (JA X G a_a) λ_ _ _ _ _ _ us hl=>rY (Q:=λus=>bindArgs _ ⟨us,[]⟩=pure (List.zip P__law_seed_at us)) hl λ_ _=>rfl,
   f_b,_,cB (st:=s__law_arrow_by) (ps:=P__law_arrow_by) U l_b c_b (JA X G a_b) λ_ _ _ _ _ _ us hl=>Fo (Q:=λus=>bindArgs _ ⟨us,[]⟩=pure (List.zip P__law_arrow_by us)) hl λ_ _ _ _=>rfl,
   f_c,_,cB (st:=s__law_machine_by) (ps:=P__law_machine_by) U l_c c_c (JA X G a_c) λ_ _ _ _ _ _ us hl=>Fp (Q:=λus=>bindArgs _ ⟨us,[]⟩=pure (List.zip P__law_machine_by us)) hl λ_ _ _ _ _=>rfl,
   f_d,_,cB (st:=s__law_far) (ps:=P__law_far) U l_d c_d (JA X G a_d) λ_ _ _ _ _ _ us hl=>Fo (Q:=λus=>bindArgs _ ⟨us,[]⟩=pure (List.zip P__law_far us)) hl λ_ _ _ _=>rfl,
   f_e,_,cB (st:=s__law_rule_by) (ps:=P__law_rule_by) U l_e c_e (JA X G a_e) λ_ _ _ _ _ _ us hl=>CB (Q:=λus=>bindArgs _ ⟨us,[]⟩=pure (List.zip P__law_rule_by us)) hl λ_ _ _=>rfl,
   f_f,_,cB (st:=s__law_made_by) (ps:=P__law_made_by) U l_f c_f (JA X G a_f) λ_ _ _ _ _ _ us hl=>rY (Q:=λus=>bindArgs _ ⟨us,[]⟩=pure (List.zip P__law_made_by us)) hl λ_ _=>rfl,
   f_g,_,cB (st:=s__law_copy) (ps:=P__law_copy) U l_g c_g (JA X G a_g) λ_ _ _ _ _ _ us hl=>rY (Q:=λus=>bindArgs _ ⟨us,[]⟩=pure (List.zip P__law_copy us)) hl λ_ _=>rfl,
   f_h,_,cB (st:=s_is_plain) (ps:=P_is_plain) U l_h c_h (JA X G a_h) λ_ _ _ _ _ _ us hl=>rY (Q:=λus=>bindArgs _ ⟨us,[]⟩=pure (List.zip P_is_plain us)) hl λ_ _=>rfl,
   f_i,_,cB (st:=s_refuse_unless_plain) (ps:=P_refuse_unless_plain) U l_i c_i (JA X G a_i) λ_ _ _ _ _ _ us hl=>rY (Q:=λus=>bindArgs _ ⟨us,[]⟩=pure (List.zip P_refuse_unless_plain us)) hl λ_ _=>rfl,
   f_j,_,cB (st:=s_rules_by_start) (ps:=P_rules_by_start) U l_j c_j (JA X G a_j) λ_ _ _ _ _ _ us hl=>t5 (Q:=λus=>bindArgs _ ⟨us,[]⟩=pure (List.zip P_rules_by_start us)) hl λ_=>rfl,
   f_k,_,cB (st:=s_prices) (ps:=P_prices) U l_k c_k (JA X G a_k) λ_ _ _ _ _ _ us hl=>rY (Q:=λus=>bindArgs _ ⟨us,[]⟩=pure (List.zip P_prices us)) hl λ_ _=>rfl,
   f_l,_,cB (st:=s__law_rows) (ps:=P__law_rows) U l_l c_l (JA X G a_l) λ_ _ _ _ _ _ us hl=>t5 (Q:=λus=>bindArgs _ ⟨us,[]⟩=pure (List.zip P__law_rows us)) hl λ_=>rfl,
   f_m,_,cB (st:=s__law_bids) (ps:=P__law_bids) U l_m c_m (JA X G a_m) λ_ _ _ _ _ _ us hl=>rY (Q:=λus=>bindArgs _ ⟨us,[]⟩=pure (List.zip P__law_bids us)) hl λ_ _=>rfl,
   f_n,_,cB (st:=s_law) (ps:=P_law) U l_n c_n (JA X G a_n) λ_ _ _ _ _ _ us hl=>t5 (Q:=λus=>bindArgs _ ⟨us,[]⟩=pure (List.zip P_law us)) hl λ_=>rfl,
   Jc X G z_all,
   Jc X G z_dict,
   Jc X G z_divmod,
   Jc X G z_enumerate,
   Jc X G z_int,
   Jc X G z_isinstance,
   Jc X G z_len,
   Jc X G z_list,
   Jc X G z_min,
   Jc X G z_range,
   Jc X G z_set,
   Jc X G z_sorted,
   Jc X G z_tuple,
   CQ,⟨⟨pgQ,hdQ,poQ,saQ⟩,naQ_last,naQ_piles⟩,JA X G b_Queue,
   CP,⟨⟨pgP,hdP,poP,saP⟩,naP_rules,naP_told,naP_offers,naP_settled,naP_lacking⟩,JA X G b_Pricing,
   f_o,_,lg (st:=s_QI) l_o c_o kp_QI,(lg (st:=s_QI) l_o c_o kp_QI).binds (ps:=["self"]) (λ_ _ _ _ _ _ us hl=>t5 (Q:=λus=>bindArgs _ ⟨us,[]⟩=pure (List.zip (["self"]:List Str) us)) hl λ_=>rfl),⟨mkQ,aM_QI,iM_QI,kcQ⟩,
   f_p,_,oh (st:=s_QA) (ps:=["self", "price", "thing"]) l_p c_p kp_QA aM_QA iM_QA (λ_ _ _ _ _ _ us hl=>CB (Q:=λus=>bindArgs _ ⟨us,[]⟩=pure (List.zip (["self", "price", "thing"]:List Str) us)) hl λ_ _ _=>rfl),
   f_q,_,oh (st:=s_QE) (ps:=["self"]) l_q c_q kp_QE aM_QE iM_QE (λ_ _ _ _ _ _ us hl=>t5 (Q:=λus=>bindArgs _ ⟨us,[]⟩=pure (List.zip (["self"]:List Str) us)) hl λ_=>rfl),
   f_r,_,oh (st:=s_QT) (ps:=["self"]) l_r c_r kp_QT aM_QT iM_QT (λ_ _ _ _ _ _ us hl=>t5 (Q:=λus=>bindArgs _ ⟨us,[]⟩=pure (List.zip (["self"]:List Str) us)) hl λ_=>rfl),
   f_s,_,lg (st:=s_PI) l_s c_s kp_PI,(lg (st:=s_PI) l_s c_s kp_PI).binds (ps:=["self", "house"]) (λ_ _ _ _ _ _ us hl=>rY (Q:=λus=>bindArgs _ ⟨us,[]⟩=pure (List.zip (["self", "house"]:List Str) us)) hl λ_ _=>rfl),⟨mkP,aM_PI,iM_PI,kcP⟩,
   f_t,_,oh (st:=s_PO) (ps:=["self", "arrow", "price", "number", "mid"]) l_t c_t kp_PO aM_PO iM_PO (λ_ _ _ _ _ _ us hl=>Fp (Q:=λus=>bindArgs _ ⟨us,[]⟩=pure (List.zip (["self", "arrow", "price", "number", "mid"]:List Str) us)) hl λ_ _ _ _ _=>rfl),
   f_u,_,oh (st:=s_PS) (ps:=["self", "arrow", "price"]) l_u c_u kp_PS aM_PS iM_PS (λ_ _ _ _ _ _ us hl=>CB (Q:=λus=>bindArgs _ ⟨us,[]⟩=pure (List.zip (["self", "arrow", "price"]:List Str) us)) hl λ_ _ _=>rfl),
   f_v,_,oh (st:=s_PF) (ps:=["self", "number", "rule", "mid", "price"]) l_v c_v kp_PF aM_PF iM_PF (λ_ _ _ _ _ _ us hl=>Fp (Q:=λus=>bindArgs _ ⟨us,[]⟩=pure (List.zip (["self", "number", "rule", "mid", "price"]:List Str) us)) hl λ_ _ _ _ _=>rfl),
   f_w,_,oh (st:=s_PA) (ps:=["self"]) l_w c_w kp_PA aM_PA iM_PA (λ_ _ _ _ _ _ us hl=>t5 (Q:=λus=>bindArgs _ ⟨us,[]⟩=pure (List.zip (["self"]:List Str) us)) hl λ_=>rfl)⟩,rfl⟩
theorem Fq {l:PySem.W.OpenLaw} {w:World} {K:MI} {mg:Str->Option MK} {fa:Addr} (hfa:mg "law"=some (.ref fa)) (T:∃ t:Tx K mg,True) :
 ∃ fd:FuncData,(∀(s:MH)(v:MK),BindsTo s fd ⟨[v],[]⟩ [("_law_script",v)])/\∀ base:Heap,FnOk l.prog w K mg base jf 7 fa fd ["_law_script"] (G7 tY):=by
 obtain⟨t,_⟩:=T;have e:=hfa.symm.trans t.h_n.gl;cases e;obtain⟨oc,od,kV,doc,pm,an,cdv,ct,osl,efd,lk,hcd⟩:=t.h_n.fu.ex;exact⟨t.fd_n,λs v=>by rw[efd];exact .of_eq rfl,λbase=>FnOk.top (Fm t)⟩
end W
namespace L3
open PySem L2
theorem t7 {x y:Int}{f g:Bool}{al bl:List Nat}(h:0<y)(h2:y<1073741824):cX [.val (.int x) f al,.val (.int y) g bl]=.ok (.val (.tup [.int (x / y),.int (x % y)]) true []):=Il ⟨h,h2⟩
theorem AU {ds:List D}{f:Bool}:rG [.new ds f]=.ok (mkV (.tup ds) f []):=(rfl)
theorem vH {b:Bool}{f:Bool}{al:List Nat}:BX [.val (.bl b) f al]=.ok (.val (.int (if b then 1 else 0)) true []):=(rfl)
theorem wU {i j:Nat}{env:En}{a b:D}{f:Bool}(hi:i<env.length)(hj:j<env.length):AK (gT 2 (aC (gN i) (aC (gN j) bQ))) env (.val (.tup [a,b]) f [])=.ok (.nx ((env.set i (some (.val a f))).set j (some (.val b f)))):=by refine AL ?_;show(aC (gN i) (aC (gN j) bQ)) [a,b] f env=_;rw[mN,Cw hi];show(aC (gN j) bQ) [b] f _=_;rw[mN,Cw (by rw[Kx];exact hj)];rfl
theorem wV (k:List Int):∀ l,(pG k l).length<=l.length+1
 | []=>by simp[pG]
 |h::t=>by
  have:=wV k t;unfold pG;split
  .simp
  .split<;>simp<;>lia
theorem t8:∀ ks,(df ks).length<=ks.length
 | []=>Ih _
 |k::r=>by have h1:=wV k (df r);have h2:=t8 r;unfold df;simp only[Iw];lia
theorem GW {r:R}{ks:List (List Int)}(hr:r.d=.lst (ks.map lw))(h:ks.length<=63)(hn:ks.all (λk=>!k.isEmpty)=true)(nd:ks.Nodup):Da [r]=.ok (.new ((df ks).map lw) true):=by unfold Da B2;dsimp only;rw[hr];dsimp only;rw[lI];dsimp only;rw[Il (by rw[hn,IA h,IA nd];rfl)]
end L3
namespace W
open PySem L2 L3 L4
noncomputable abbrev vv (d:D)(f:Bool):Option Sl:=some (.val d f)
noncomputable abbrev ow (d:List D)(f:Bool):Option Sl:=some (.own d f)
noncomputable def sd (ns:List Int)(k:Int):Int:=((if k<ns.length then (atI ns k).getD 0 else 0) % 2147483647+11)*48271*69621 % 2147483629
theorem Dv (ns:List Int)(k:Int):0<=sd ns k:=by unfold sd;lia
theorem wW (ns:List Int)(k:Int)(h0:0<=k):bH [.lst (ns.map .int),.int k]=.ok (.val (.int (sd ns k)) true []):=by
 by_cases h:k<ns.length
 .have hd:decide (k<(ns.length:Int))=true:=IA h;obtain⟨a,ea,_⟩:=Fk h0 h;have ha:atI (ns.map D.int) k=some (.int a):=by rw[CA,ea];rfl
  simp_arith[bH,e_,Ik,hd,ha];unfold sd;rw[Il h,ea];rfl
 .have hd:decide (k<(ns.length:Int))=false:=IJ h;simp_arith[bH,e_,Ik,hd];unfold sd;rw[Ij h]
theorem cr (t:Pz.Arr):(aQ t).flat=true:=(rfl)
theorem AV (t:Pz.Arr):(aQ t).dep<=1:=Ih _
theorem fj (r:Pz.Rule):(aL r).flat=true:=by unfold aL;simp only[b_,aX,bT,aT,cc,Ki]
theorem yC (r:Pz.Rule):(aL r).dep<=2:=by have:=lJ r.2.2.2;unfold aL;simp only[cC,bz,c9,bV];lia
noncomputable def Dw (c ro sg:Int):Pz.Rule:=
 let n:=c*48271 % 2147483647
 (n / 3 % 6 % ro,n / 3 / 6 % 60 % sg,n / 3 / 6 / 60 % 6 % ro,cu [n / 3 / 6 / 60 / 6 % 60 % sg,n / 3 / 6 / 60 / 6 / 60 % sg] none (some (n % 3)))
theorem CC (c ro sg:Int)(h1:0<ro)(h3:0<sg):cF [.int c,.int ro,.int sg]=.ok (.val (aL (Dw c ro sg)) true []):=by have hc:∀ a b:Int,∀ k:Option Int,cu [D.int a,D.int b] none k=(cu [a,b] none k).map D.int:=λa b k=>kY D.int [a,b] none k;simp_arith[cF,iL,h1,h3,t7,wU,hc,aT,AU];rfl
structure RR (ro sg:Int) (r:Pz.Rule):Prop where
 a:0<=r.1/\r.1<ro
 s:0<=r.2.1/\r.2.1<sg
 t:0<=r.2.2.1/\r.2.2.1<ro
 p:r.2.2.2.length<=2
 q:∀ x∈r.2.2.2,0<=x/\x<sg
theorem Fs (c ro sg:Int)(h1:0<ro)(h3:0<sg):RR ro sg (Dw c ro sg):=
 have e:∀ a b:Int,0<b->0<=a % b/\a % b<b:=λa b h=>⟨Kk _ (by lia),JM _ h⟩
 ⟨e _ _ h1,e _ _ h3,e _ _ h1,AO _ _ _,λx hx=>by
   have:=AQ _ _ _ x hx;rcases Ip.mp this with h|h
   .rw[h];exact e _ _ h3
   .rw[IE.mp h];exact e _ _ h3⟩
noncomputable def yD (c ro own sg:Int):Pz.Arr:=
 let n:=c*69621 % 2147483629
 (n % 60 % (ro+own),n / 60 % 60 % sg,ro+n / 60 / 60 % own)
theorem AW (c ro own sg:Int)(h1:0<ro)(h2:0<own)(h3:0<sg):cj [.int c,.int ro,.int own,.int sg]=.ok (.val (aQ (yD c ro own sg)) true []):=by
 have a1:0<ro+own:=by lia
 simp_arith[cj,hG,a1,h2,h3,t7,wU];rfl
theorem Ft (c ro own sg:Int)(h1:0<ro)(h2:0<own)(h3:0<sg):0<=(yD c ro own sg).1/\(yD c ro own sg).1<ro+own/\0<=(yD c ro own sg).2.1/\(yD c ro own sg).2.1<sg/\ro<=(yD c ro own sg).2.2/\(yD c ro own sg).2.2<ro+own:=by unfold yD;have a:=Kk (c*69621 % 2147483629 / 60 / 60) (show own≠0 by lia);have b:=JM (c*69621 % 2147483629 / 60 / 60) h2;refine⟨Kk _ (by lia),JM _ (by lia),Kk _ (by lia),JM _ h3,?_,?_⟩<;>(simp only[];lia)
noncomputable def Mc (n:Int)(ts:List Pz.Arr)(es:List Int):D:=.tup [.int n,.lst (ts.map aQ),.lst (es.map .int)]
theorem iY (n:Int)(ts:List Pz.Arr)(es:List Int):(Mc n ts es).flat=false:=by unfold Mc;simp only[b_,aX,bT,bU,KB,JP]
end W
namespace L3
open PySem L2
theorem GX {r:R}{ks:List (List Int)}(hr:r.d=.lst (ks.map lw))(h:ks.length<=63)(hn:ks.all (λk=>!k.isEmpty)=true):C_ r=.ok (.new ((df ks).map lw) true):=by unfold C_ B0;rw[hr];dsimp only;rw[lI];dsimp only;rw[Il (by rw[hn,IA (show(List.map lw ks).length<=63 by rw[Ik];exact h)];rfl)]
end L3
namespace W
open PySem L2 L3 L4
noncomputable def Dx:List Int->Pz.Arr
 | [a,b,c]=>(a,b,c)
 |_=>(0,0,0)
noncomputable def t9 (t:Pz.Arr):List Int:=[t.1,t.2.1,t.2.2]
noncomputable def cI (ts:List Pz.Arr):List Pz.Arr:=(df (ts.map t9)).map Dx
theorem pc (ts:List Pz.Arr):(cI ts).length<=ts.length:=by have:=t8 (ts.map t9);unfold cI;rw[Ik];rw[Ik]at this;exact this
theorem wX (ts:List Pz.Arr):(df (ts.map t9)).map lw=(cI ts).map aQ:=by unfold cI;rw[Je];refine JE λk hk=>?_;obtain⟨t,_,rfl⟩:=Ir.mp ((dg k _).mp hk);rfl
theorem fq (t:Pz.Arr):Dx (t9 t)=t:=(rfl)
theorem pd (ts:List Pz.Arr)(t:Pz.Arr):t∈cI ts↔t∈ts:=by
 unfold cI;constructor
 .intro h;obtain⟨l,hl,rfl⟩:=Ir.mp h;obtain⟨u,hu,rfl⟩:=Ir.mp ((dg l _).mp hl);rw[fq];exact hu
 .intro h;exact Ir.mpr ⟨t9 t,(dg _ _).mpr (Ir.mpr ⟨t,h,rfl⟩),rfl⟩
theorem fY {α β:Type}(f:α->β):∀{l:List α},l.Nodup->(∀ a∈l,∀ b∈l,f a=f b->a=b)->(l.map f).Nodup
 | [],_,_=>by simp
 |a::r,h,hi=>by have h':=IS.mp h;rw[Im,IS];refine⟨λhm=>?_,fY f h'.2 λx hx y hy=>hi x (by simp[hx]) y (by simp[hy])⟩;obtain⟨b,hb,e⟩:=Ir.mp hm;exact h'.1 (hi b (by simp[hb]) a (by simp) e▸hb)
theorem kh (ts:List Pz.Arr):(cI ts).Nodup:=by
 unfold cI;refine fY _ ((mB _).imp λ{a b} h e=>?_) λa ha b hb e=>?_
 .subst e;rw[gb]at h;cases h
 .obtain⟨u,_,rfl⟩:=Ir.mp ((dg a _).mp ha);obtain⟨v,_,rfl⟩:=Ir.mp ((dg b _).mp hb);rw[fq,fq]at e;rw[e]
theorem vI (ts:List Pz.Arr)(h:ts.length<=63){r:R}(hr:r.d=.lst (ts.map aQ)):C_ r=.ok (.new ((cI ts).map aQ) true):=by
 have e:r.d=.lst ((ts.map t9).map lw):=by rw[hr,Je];rfl
 rw[GX e (by rw[Ik];exact h) (by rw[ME,Jq];intro t _;rfl),wX]
theorem AX (ts:List Pz.Arr)(h:ts.length<=63)(nd:ts.Nodup){r:R}(hr:r.d=.lst (ts.map aQ)):Da [r]=.ok (.new ((cI ts).map aQ) true):=by
 have e:r.d=.lst ((ts.map t9).map lw):=by rw[hr,Je];rfl
 rw[GW e (by rw[Ik];exact h) (by rw[ME,Jq];intro t _;rfl) (fY t9 nd λa _ b _ e=>by rw[<- fq a,e,fq]),wX]
structure PM (ro sg n:Int) (ts:List Pz.Arr) (es:List Int):Prop where
 rn:ro<=n
 n25:n<=ro+22
 arr:∀ t∈ts,0<=t.1/\t.1<n/\0<=t.2.1/\t.2.1<sg/\ro<=t.2.2/\t.2.2<n
 lt:ts.length<=29
 nd:ts.Nodup
 ends:∀ e∈es,0<=e/\e<n
 le:es.length<=6
noncomputable def rl (ro:Int)(k:Nat):Pz.Arr:=(ro,(k:Int),ro)
noncomputable def Dy (bits:Int)(k:Nat):Bool:=Builtin.bitAnd (bits / 2 ^ ((k:Int)).toNat) 1==1
noncomputable def gZ (bits:Int)(n:Nat):List Int:=((List.range n).filter (Dy bits)).map λk=>((k:Nat):Int)
theorem AY (bits:Int)(n:Nat):(gZ bits n).length<=n:=by unfold gZ;rw[Ik];exact IL (LP _ _) (by rw[JH];exact Ih _)
theorem CD (bits:Int)(n:Nat):∀ e∈gZ bits n,0<=e/\e<n:=λe he=>by unfold gZ at he;obtain⟨k,hk,rfl⟩:=Ir.mp he;have:=IN.mp (Jj.mp hk).1;lia
section
variable {e0 e1 e2 e3 e4 e5 e6 e7 e8:Option Sl}{g1 g2 g3 g4 fr:Bool}
theorem HJ {ro:Int}(n:Nat)(hn:n<=1000000):jd 1 [2] (gN 0) (λ_=>.ok true) bn [e0,e1,vv (.int ro) g1,e3,e4,e5,e6,e7,e8] ⟨dz 0 n,fr,[]⟩=.ok (.new (((List.range n).map (rl ro)).map aQ) true):=by have h:=dI (mk:=λd=>gN 0 d fr (gf [e0,e1,vv (.int ro) g1,e3,e4,e5,e6,e7,e8] 1 [2])) (test:=λ_=>.ok true) (elt:=bn) (λk:Nat=>D.int k) (λk:Nat=>.val (aQ (rl ro k)) true []) (List.range n) λk hk=>⟨_,rfl,rfl,by show bn [vv (.int (k:Nat)) fr,vv (.int ro) g1]=_;simp_arith[bn];rfl⟩;rw[mL,iX (by rw[Ik,JH];exact hn) h,qH,fX,cQ (aY _ _ λc=>rfl),Je];rfl
theorem HK {ro own sg:Int}(h1:0<ro)(h2:0<own)(h3:0<sg)(xs:List Int)(hl:xs.length<=1000000):jd 1 [2,3,4] (gN 0) (λ_=>.ok true) aV [e0,e1,vv (.int ro) g1,vv (.int own) g2,vv (.int sg) g3,e5,e6,e7,e8] ⟨xs.map .int,fr,[]⟩=.ok (.new ((xs.map λc=>yD c ro own sg).map aQ) true):=by have h:=dI (mk:=λd=>gN 0 d fr (gf [e0,e1,vv (.int ro) g1,vv (.int own) g2,vv (.int sg) g3,e5,e6,e7,e8] 1 [2,3,4])) (test:=λ_=>.ok true) (elt:=aV) D.int (λc=>.val (aQ (yD c ro own sg)) true []) xs λc hc=>⟨_,rfl,rfl,by show aV [vv (.int c) fr,vv (.int ro) g1,vv (.int own) g2,vv (.int sg) g3]=_;simp_arith[aV,AW c ro own sg h1 h2 h3,cr]⟩;rw[iX (by rw[Ik];exact hl) h,qH,fX,cQ (aY _ _ λc=>rfl),Je];rfl
theorem GY {c:Int}(n:Nat)(hn:n<=1000000):jd 1 [0] (gN 0) bo bp [vv (.int c) g1,e1,e2,e3,e4,e5,e6,e7,e8] ⟨dz 0 n,fr,[]⟩=.ok (.new ((gZ (c / 10 % 32) n).map .int) true):=by
 have h:=kX (mk:=λd=>gN 0 d fr (gf [vv (.int c) g1,e1,e2,e3,e4,e5,e6,e7,e8] 1 [0])) (test:=bo) (elt:=bp) (λk:Nat=>D.int k) (Dy (c / 10 % 32)) (λk=>.val (.int k) true []) (List.range n) λk hk=>⟨_,rfl,by
  show bo [vv (.int (k:Nat)) fr,vv (.int c) g1]=_;have hp:(0:Int)<=((k:Nat):Int):=by lia
  simp_arith[bo,hp,mj];rfl,λ_=>by
  show bp [vv (.int (k:Nat)) fr,vv (.int c) g1]=_;simp_arith[bp]⟩
 rw[mL,iX (by rw[Ik,JH];exact hn) h,qH,fX,cQ (aY _ _ λc=>rfl)];unfold gZ;rw[Je];rfl
end
theorem GZ (c:Int)(hc:0<=c)(xs:List Int)(hx:xs.length<=9)(ro own sg:Int)(h1:0<ro)(h1b:ro<=3)(h2:0<=own)(h2b:own<=2)(h0:own=0->xs=[])(h3:0<sg)(h3b:sg<=5) :
 ∃ n ts es al,PM ro sg n ts es/\(c / 320 % 4<2->ts.length<=9/\es.length<=5/\n<=ro+2)/\aU [.int c,.lst (xs.map .int),.int ro,.int own,.int sg]=.ok (.val (Mc n ts es) true al):=by
 have hfl:D.flats (List.map D.int xs)=true:=aT _;generalize hf:c / 320 % 4=fo;have em:∀ a b:Int,0<b->0<=a % b/\a % b<b:=λa b h=>⟨Kk _ (by lia),JM _ h⟩;have s1:-4611686018427387904<=sg:=by lia
 have s2:sg<4611686018427387904:=by lia
 have m1:-4611686018427387904<=ro+own:=by lia
 have m2:ro+own<4611686018427387904:=by lia
 by_cases f2:fo=2
 .have d2:(fo==2)=true:=K_.mpr f2;generalize hA:c / 1280 % ro=a;generalize hB:c / 7680 % sg=b;have ha:0<=a/\a<ro:=by rw[<- hA];exact em _ _ h1
  have hb:0<=b/\b<sg:=by rw[<- hB];exact em _ _ h3
  have nd:((a,b,ro)::(List.range sg.toNat).map (rl ro)).Nodup:=by
   rw[IS];refine⟨λh=>?_,fY _ Kz λx _ y _ e=>?_⟩
   .obtain⟨k,_,e⟩:=Ir.mp h;have:ro=a:=JF (λt:Pz.Arr=>t.1) e;lia
   .have:(x:Int)=(y:Int):=JF (λt:Pz.Arr=>t.2.1) e;lia
  have hl:((a,b,ro)::(List.range sg.toNat).map (rl ro)).length<=6:=by simp;lia
  have al:=pc ((a,b,ro)::(List.range sg.toNat).map (rl ro));refine⟨ro+1,cI ((a,b,ro)::(List.range sg.toNat).map (rl ro)),[ro],?_,⟨by lia,by lia,λt ht=>?_,by lia,kh _,λe he=>?_,by simp⟩,λh=>by lia,?_⟩
  rotate_left
  .rcases Ip.mp ((pd _ t).mp ht) with rfl|h
   .simp only[];lia
   .obtain⟨k,hk,rfl⟩:=Ir.mp h;have:=IN.mp hk;unfold rl;simp only[];lia
  .rw[IE]at he;lia
  .have hk2:∀ f,Da [.new (D.tup [.int a,.int b,.int ro]::((List.range sg.toNat).map (rl ro)).map aQ) f]=.ok (.new ((cI ((a,b,ro)::(List.range sg.toNat).map (rl ro))).map aQ) true):=λf=>AX ((a,b,ro)::(List.range sg.toNat).map (rl ro)) (by lia) nd (cE _ f);have fl:D.flats (((List.range sg.toNat).map (rl ro)).map aQ)=true:=aY _ _ cr;have hln:[D.tup [.int a,.int b,.int ro]].length+(((List.range sg.toNat).map (rl ro)).map aQ).length<=1000000:=by simp;lia
   simp_arith[aU,bD,hf,mj,d2,h1,h3,hA,hB,wI,s1,s2,HJ sg.toNat (show sg.toNat<=1000000 by lia),vt hln,fl,hk2];rfl
 .have d2:(fo==2)=false:=Jw.mpr f2;by_cases f3:fo=3
  .have d3:(fo==3)=true:=K_.mpr f3;refine⟨ro,[],(List.range ro.toNat).map λk=>((k:Nat):Int),?_,⟨by lia,by lia,λt ht=>(nomatch ht),by simp,IX,λe he=>?_,by simp;lia⟩,λh=>by lia,?_⟩
   rotate_left
   .obtain⟨k,hk,rfl⟩:=Ir.mp he;have:=IN.mp hk;lia
   .have h0:0<=ro:=by lia
    have hr:ro<=1000:=by lia
    simp_arith[aU,bD,hf,mj,d2,d3,AN h0 hr,mL];unfold Mc;rw[Je];rfl
  .have d3:(fo==3)=false:=Jw.mpr f3;have hel:=AY (c / 10 % 32) (ro+own).toNat;have ends:∀ e∈gZ (c / 10 % 32) (ro+own).toNat,0<=e/\e<ro+own:=λe he=>by have:=CD _ _ e he;lia
   have hn:(ro+own).toNat<=1000000:=by lia
   by_cases ho:own=0
   .have hk:∀ f al,C_ (.val (.lst []) f al)=.ok (.new [] true):=λf al=>vI [] (by simp) (cD _ f al);have hk2:∀ f,C_ (.new [] f)=.ok (.new [] true):=λf=>vI [] (by simp) (cE _ f);refine⟨ro+own,[],gZ (c / 10 % 32) (ro+own).toNat,?_,⟨by lia,by lia,λt ht=>(nomatch ht),by simp,IX,ends,by lia⟩,λ_=>⟨by simp,by lia,by lia⟩,?_⟩
    rotate_left
    .have hcm:∀(env:En)(fr:Bool),jd 1 [2,3,4] (gN 0) (λ_=>.ok true) aV env ⟨[],fr,[]⟩=.ok (.new [] true):=λ_ _=>rfl;rw[h0 ho];simp_arith[aU,bD,hf,mj,d2,d3,hcm,hk,hk2,GY (c:=c) (ro+own).toNat hn,wI,m1,m2,aT];rfl
   .have ho':0<own:=by lia
    have al:=pc (xs.map λc=>yD c ro own sg);rw[Ik]at al;refine⟨ro+own,cI (xs.map λc=>yD c ro own sg),gZ (c / 10 % 32) (ro+own).toNat,?_,⟨by lia,by lia,λt ht=>?_,by lia,kh _,ends,by lia⟩,λ_=>⟨by lia,by lia,by lia⟩,?_⟩
    rotate_left
    .obtain⟨x,_,rfl⟩:=Ir.mp ((pd _ t).mp ht);exact Ft x ro own sg h1 ho' h3
    .have hk:∀ f al,C_ (.val (.lst ((xs.map λc=>yD c ro own sg).map aQ)) f al)=_:=λf al=>vI _ (by rw[Ik];lia) (cD _ f al);simp_arith[aU,bD,hf,mj,d2,d3,hfl,HK h1 ho' h3 xs (show xs.length<=1000000 by lia),hk,GY (c:=c) (ro+own).toNat hn,wI,m1,m2,aT];rfl
noncomputable def rZ (s n:Int)(k:Nat):Int:=if k=0 then s else n+((k:Nat):Int)-1
noncomputable def vJ (s n num g:Int)(k:Nat):Pz.Arr:=(rZ s n k,num / (((k:Nat):Int)+2) % g,n+((k:Nat):Int))
theorem AZ {n s num g:Int}{ts0 ts:List Pz.Arr}{es:List Int}(m:Nat)(hm:m<=20)(hts:ts.length<=30){g0 fr:Bool}{e6:Option Sl}(h3:0<g)(h4:g<=5) :
 ∃ bf,gc (gN 6) fr dG ((List.range m).map λk=>.int (k:Nat)) [vv (Mc n ts0 es) false,vv (.int s) false,vv (.int num) false,vv (.int g) false,ow (ts.map aQ) true,vv (.int s) g0,e6]=.ok (.nx bf)/\
  ∃ g1 e,bf=[vv (Mc n ts0 es) false,vv (.int s) false,vv (.int num) false,vv (.int g) false,ow ((ts++(List.range m).map (vJ s n num g)).map aQ) true,vv (.int (rZ s n m)) g1,e]:=by
 obtain⟨bf,h1,h2⟩:=mM (λk:Nat=>D.int (k:Nat)) (asg:=gN 6) (fr:=fr) (body:=dG) (List.range m) (λpre env=>∃ g1 e,env=[vv (Mc n ts0 es) false,vv (.int s) false,vv (.int num) false,vv (.int g) false,ow ((ts++(List.range pre.length).map (vJ s n num g)).map aQ) true,vv (.int (rZ s n pre.length)) g1,e]) (List.range m) [] [vv (Mc n ts0 es) false,vv (.int s) false,vv (.int num) false,vv (.int g) false,ow (ts.map aQ) true,vv (.int s) g0,e6] rfl ⟨g0,e6,by simp[rZ]⟩ (by
  rintro pre post k env hall ⟨g1,e,rfl⟩;have hpl:pre.length<m:=by have:=JF List.length hall;simp at this;lia
  have hk:k=pre.length:=by have:=JF (λl:List Nat=>l[pre.length]?) hall;rw[I0 (Ih _),Nat.sub_self,JI,Mg hpl]at this;exact(IM this).symm
  have aR:((ts++(List.range pre.length).map (vJ s n num g)).map aQ).length<1000000:=by simp;lia
  refine⟨[vv (Mc n ts0 es) false,vv (.int s) false,vv (.int num) false,vv (.int g) false,ow ((ts++(List.range pre.length).map (vJ s n num g)).map aQ) true,vv (.int (rZ s n pre.length)) g1,vv (.int (k:Nat)) fr],
   [vv (Mc n ts0 es) false,vv (.int s) false,vv (.int num) false,vv (.int g) false,ow ((ts++(List.range (pre++[k]).length).map (vJ s n num g)).map aQ) true,vv (.int (rZ s n (pre++[k]).length)) true,vv (.int (k:Nat)) fr],rfl,?_,true,_,rfl⟩
  have e1:((ts++(List.range (pre++[k]).length).map (vJ s n num g)).map aQ)=((ts++(List.range pre.length).map (vJ s n num g)).map aQ)++[.tup [.int (rZ s n k),.int (num / (((k:Nat):Int)+2) % g),.int (n+((k:Nat):Int))]]:=by rw[ID,show[k].length=1 from rfl,List.range_succ,Jk (f:=vJ s n num g),<- Kf,Jk (l₁:=ts++_),<- hk];rfl
  have e2:rZ s n (pre++[k]).length=n+((k:Nat):Int):=by rw[ID,<- hk,show[k].length=1 from rfl];unfold rZ;rw[Ij (by lia)];lia
  have hkm:k<m:=by lia
  rw[e1,e2,<- hk]at *;have a1:(0:Int)<((k:Nat):Int)+2:=by lia
  have a2:((k:Nat):Int)+2<1073741824:=by lia
  have a3:g<1073741824:=by lia
  simp_arith[dG,Mc,AJ aR,a1,a2,h3,a3])
 refine⟨bf,h1,?_⟩;rw[JH]at h2;exact h2
theorem Fu {ro sg n s num:Int}{ts:List Pz.Arr}{es:List Int}(P:PM ro sg n ts es)(lt:ts.length<=9)(le:es.length<=5)(hn:n<=ro+2)(h0:0<=s)(h1:s<ro)(g0:0<sg)(m:Nat)(m1:1<=m)(m2:m<=20) :
 PM ro sg (n+(m:Int)) (cI (ts++(List.range m).map (vJ s n num sg))) (es++[rZ s n m])/\(ts++(List.range m).map (vJ s n num sg)).Nodup:=by
 have ra:=P.rn;have mem:∀ t,t∈(List.range m).map (vJ s n num sg)->∃ k:Nat,k<m/\t.1=rZ s n k/\t.2.1=num / (((k:Nat):Int)+2) % sg/\t.2.2=n+((k:Nat):Int):=λt ht=>by obtain⟨k,hk,rfl⟩:=Ir.mp ht;exact⟨k,IN.mp hk,rfl,rfl,rfl⟩
 have sl:=pc (ts++(List.range m).map (vJ s n num sg));rw[ID,Ik,JH]at sl;refine⟨⟨by lia,by lia,λt ht=>?_,by lia,kh _,λe he=>?_,by simp;lia⟩,?_⟩
 .rcases IG.mp ((pd _ t).mp ht) with h|h
  .have:=P.arr t h;lia
  .obtain⟨k,hk,e1,e2,e3⟩:=mem t h;have a1:=Kk (num / (((k:Nat):Int)+2)) (show sg≠0 by lia);have a2:=JM (num / (((k:Nat):Int)+2)) g0;unfold rZ at e1;split at e1<;>lia
 .rcases IG.mp he with h|h
  .have:=P.ends e h;lia
  .rw[IE]at h;subst h;unfold rZ;rw[Ij (by lia)];lia
 .rw[Ku];refine⟨P.nd,fY _ Kz λa _ b _ e=>?_,λa ha b hb e=>?_⟩
  .have:n+((a:Nat):Int)=n+((b:Nat):Int):=JF (λt:Pz.Arr=>t.2.2) e;lia
  .subst e;have:=P.arr a ha;obtain⟨k,hk,e1,e2,e3⟩:=mem a hb;lia
theorem Fv {ro sg n s num:Int}{ts:List Pz.Arr}{es:List Int}(P:PM ro sg n ts es)(lt:ts.length<=9)(le:es.length<=5)(hn:n<=ro+2)(h0:0<=s)(h1:s<ro)(g0:0<sg)(g1:sg<=5) :
 ∃ n' ts' es' al,PM ro sg n' ts' es'/\gU [Mc n ts es,.int s,.int num,.int sg]=.ok (.val (Mc n' ts' es') true al):=by
 have c0:=Kk num (show(12:Int)≠0 by lia);have c1:=JM num (show(0:Int)<12 by lia);generalize hm:(9+num % 12).toNat=m;have hm':9+num % 12=(m:Int):=by lia
 obtain⟨pm,nd⟩:=Fu (num:=num) P lt le hn h0 h1 g0 m (by lia) (by lia);obtain⟨bf,hf,g,e,rfl⟩:=AZ (n:=n) (s:=s) (num:=num) (ts0:=ts) (es:=es) (ts:=ts) m (by lia) (by lia) (g0:=true) (fr:=true) (e6:=none) g0 g1;have hk:∀ f al,Da [.val (.lst ((ts++(List.range m).map (vJ s n num sg)).map aQ)) f al]=_:=λf al=>AX (ts++(List.range m).map (vJ s n num sg)) (by simp;lia) nd (cD _ f al);have m1:-4611686018427387904<=(m:Int):=by lia
 have m2:(m:Int)<4611686018427387904:=by lia
 have mt:((m:Nat):Int).toNat=m:=rfl;have fl:D.flats (ts.map aQ)=true:=aY _ _ cr;have en:rZ s n m+1=n+(m:Int):=by unfold rZ;rw[Ij (by lia)];lia
 have hl:(es.map D.int).length+[D.int (rZ s n m)].length<=1000000:=by simp;lia
 have ee:(es++[rZ s n m]).map D.int=es.map D.int++[.int (rZ s n m)]:=by rw[Jk];rfl
 have fe:D.flats (es.map D.int++[.int (rZ s n m)])=true:=tV λd hd=>by
  rcases IG.mp hd with h|h
  .obtain⟨x,_,rfl⟩:=Ir.mp h;rfl
  .rw[IE]at h;subst h;rfl
 generalize ts++(List.range m).map (vJ s n num sg)=T at hf hk pm;refine⟨_,_,_,?_,pm,?_⟩
 rotate_left
 .unfold Mc at hf ⊢;rw[ee];simp_arith[gU,o7,fl,hm',wI,m1,m2,mt,mL,hf,hk,en,vt hl,fe];rfl
noncomputable def Hs (ro sg:Int)(RL:List Pz.Rule):D:=.tup [.int ro,.int sg,.lst (RL.map aL)]
theorem A0 {ro sg:Int}{e0 e1 e2 e3 e6 e7 e8 e9:Option Sl}{g4 g5 fr:Bool}(h1:0<ro)(h3:0<sg)(xs:List Int)(hl:xs.length<=1000000):jd 1 [4,5] (gN 0) (λ_=>.ok true) bq [e0,e1,e2,e3,vv (.int ro) g4,vv (.int sg) g5,e6,e7,e8,e9] ⟨xs.map .int,fr,[]⟩=.ok (.new ((xs.map λc=>Dw c ro sg).map aL) true):=by have h:=dI (mk:=λd=>gN 0 d fr (gf [e0,e1,e2,e3,vv (.int ro) g4,vv (.int sg) g5,e6,e7,e8,e9] 1 [4,5])) (test:=λ_=>.ok true) (elt:=bq) D.int (λc=>.val (aL (Dw c ro sg)) true []) xs λc hc=>⟨_,rfl,rfl,by show bq [vv (.int c) fr,vv (.int ro) g4,vv (.int sg) g5]=_;simp_arith[bq,CC c ro sg h1 h3,fj]⟩;rw[iX (by rw[Ik];exact hl) h,qH,fX,cQ (aY _ _ λc=>fj _),Je];rfl
theorem wY {α:Type}(xs:List α)(a b:Int)(ha:0<=a)(hb:0<=b):(cu xs (some a) (some (a+b))).length<=b.toNat:=by
 unfold cu;rw[J8,KR];have e1:HT.sIx xs.length 0 (some a)=min a.toNat xs.length:=by have:=HT.sIx_nat xs.length 0 a.toNat;rw[Int.toNat_of_nonneg ha]at this;exact this
 have e2:HT.sIx xs.length xs.length (some (a+b))=min (a+b).toNat xs.length:=by have:=HT.sIx_nat xs.length xs.length (a+b).toNat;rw[Int.toNat_of_nonneg (by lia)]at this;exact this
 rw[e1,e2];lia
theorem CF (ns:List Int)(hl:ns.length<=63)(most:Int)(hm:0<=most)(hm2:most<=60) :
 ∃ ro sg RL n ts es al,0<ro/\ro<=3/\0<sg/\sg<=5/\(∀ r∈RL,RR ro sg r)/\RL.length<=most.toNat/\PM ro sg n ts es/\bI [.lst (ns.map .int),.int most]=.ok (.val (.tup [Hs ro sg RL,Mc n ts es]) true al):=by
 have q0:=Dv ns 0;have q1:=Dv ns 1;have k0:=wW ns 0 (by decide);have k1:=wW ns 1 (by decide);generalize sd ns 0=shape at q0 k0;generalize sd ns 1=seed at q1 k1;generalize hro:1+shape % 3=ro;generalize hsg:1+shape / 3 % 5=sg;generalize how:shape / 15 % 3=own;generalize hmn:seed % 10*(if decide (0<own) then 1 else 0)=many;have r1:0<ro:=by lia
 have r2:ro<=3:=by lia
 have s1:0<sg:=by lia
 have s2:sg<=5:=by lia
 have o1:0<=own:=by lia
 have o2:own<=2:=by lia
 have mm:0<=many/\many<=9/\(own=0->many=0):=by
  by_cases h:0<own
  .rw[IA h]at hmn;simp only[Ky]at hmn;lia
  .rw[IJ h]at hmn;simp only[IF,Ju]at hmn;lia
 obtain⟨m0,m9,mz⟩:=mm;have f1:=wY ns 4 many (by decide) m0;have f2:=wY ns (4+many) most (by lia) hm;have f0:own=0->cu ns (some 4) (some (4+many))=[]:=λh=>by rw[mz h]at f1 ⊢;exact J4.mp (by simpa using f1)
 obtain⟨n,ts,es,al,pm,few,hmb⟩:=GZ seed q1 (cu ns (some 4) (some (4+many))) (by lia) ro own sg r1 r2 o1 o2 f0 s1 s2;have hfi:D.flats (ns.map D.int)=true:=aT _;have hrs:∀{e0 e1 e2 e3 e6 e7 e8 e9:Option Sl}{g4 g5 fr:Bool},jd 1 [4,5] (gN 0) (λ_=>.ok true) bq [e0,e1,e2,e3,vv (.int ro) g4,vv (.int sg) g5,e6,e7,e8,e9] ⟨(cu ns (some (4+many)) (some (4+many+most))).map .int,fr,[]⟩=_:=λ{_ _ _ _ _ _ _ _ _ _ _}=>A0 r1 s1 _ (by lia);have ig:∀ b:Bool,(-18446744073709551616:Int)<(if b then 1 else 0):=λb=>by cases b<;>decide
 have ih:∀ b:Bool,(if b then 1 else 0:Int)<18446744073709551616:=λb=>by cases b<;>decide
 have hru:∀ r∈(cu ns (some (4+many)) (some (4+many+most))).map (λc=>Dw c ro sg),RR ro sg r:=λr hr=>by obtain⟨c,_,rfl⟩:=Ir.mp hr;exact Fs c ro sg r1 s1
 have hrl:((cu ns (some (4+many)) (some (4+many+most))).map (λc=>Dw c ro sg)).length<=most.toNat:=by rw[Ik];exact f2
 have frl:D.flats (((cu ns (some (4+many)) (some (4+many+most))).map (λc=>Dw c ro sg)).map aL)=true:=aY _ _ fj;have fci:∀ lo hi,D.flats ((cu ns lo hi).map D.int)=true:=λ_ _=>aT _;generalize hRL:(cu ns (some (4+many)) (some (4+many+most))).map (λc=>Dw c ro sg)=RL at hrs hru hrl frl;by_cases c:(shape / 45 % 8==3)=true/\seed / 320 % 4<2
 .obtain⟨c1,c2⟩:=c;have d2:decide (seed / 320 % 4<2)=true:=IA c2;obtain⟨w1,w2,w3⟩:=few c2;obtain⟨n',ts',es',al',pm',hfar⟩:=Fv (num:=seed / 7) (s:=seed % ro) pm w1 w2 w3 (Kk _ (by lia)) (JM _ r1) s1 s2;refine⟨ro,sg,RL,n',ts',es',?_,r1,r2,s1,s2,hru,hrl,pm',?_⟩
  rotate_left
  .simp_arith[bI,cG,k0,k1,hro,hsg,how,vH,hmn,ig,ih,kY,fci,hmb,iY,mj,c1,d2,hfar,r1,hrs,hfi,frl];rfl
 .have c':(shape / 45 % 8==3)=false\/decide (seed / 320 % 4<2)=false:=by
   cases h:(shape / 45 % 8==3) with
   |false=>exact .inl rfl
   |true=>exact .inr (IJ λz=>c ⟨h,z⟩)
  refine⟨ro,sg,RL,n,ts,es,?_,r1,r2,s1,s2,hru,hrl,pm,?_⟩
  rotate_left
  .rcases c' with c'|c'
   .simp_arith[bI,cG,k0,k1,hro,hsg,how,vH,hmn,ig,ih,kY,fci,hmb,iY,mj,c',hrs,hfi,frl];rfl
   .cases h:(shape / 45 % 8==3)<;>(simp_arith[bI,cG,k0,k1,hro,hsg,how,vH,hmn,ig,ih,kY,fci,hmb,iY,mj,c',h,hrs,hfi,frl];rfl)
end W
namespace L3
open PySem L2
theorem A1 {n:Nat}{caps:List Nat}{f:En->Res R}{asg:D->Bool->En->Option En}{ft:En->Res Bool}{fe:En->Res R}{env:En}{ds:List D}{fr:Bool}{al:List Nat}(h:f env=.ok (.val (.lst ds) fr al)):fE n caps (lj f) asg ft fe env=jd n caps asg ft fe env ⟨ds,fr,al⟩:=by rw[lH,iH,h];rfl
end L3
namespace W
open PySem L2 L3 L4
theorem mS (ro sg:Int)(RL:List Pz.Rule):(Hs ro sg RL).flat=false:=by unfold Hs;simp only[b_,aX,bT,bU,KB,JP]
theorem Fw (ro sg:Int)(RL:List Pz.Rule):(Hs ro sg RL).dep<=4:=by have:=o5 (g:=aL) (xs:=RL) yC;unfold Hs;simp only[cC,bz,c9,bV,c_];lia
theorem Fx (n:Int)(ts:List Pz.Arr)(es:List Int):(Mc n ts es).dep<=3:=by have:=o5 (g:=aQ) (xs:=ts) AV;have:=lJ es;unfold Mc;simp only[cC,bz,c9,bV,c_];lia
theorem CG {ro sg n:Int}{RL:List Pz.Rule}{ts:List Pz.Arr}{es:List Int}:fG [Hs ro sg RL,Mc n ts es]=.ok (.new [Hs ro sg RL,Mc n ts es] true):=by have f1:D.flats (RL.map aL)=true:=aY _ _ fj;have f2:D.flats (ts.map aQ)=true:=aY _ _ cr;have f3:D.flats (es.map D.int)=true:=aT _;unfold Hs Mc;simp_arith[fG,lZ,f1,f2,f3,Fi]
theorem A2 {ro sg n:Int}{RL:List Pz.Rule}{ts:List Pz.Arr}{es:List Int}(P:PM ro sg n ts es):bv [Hs ro sg RL,Mc n ts es]=.ok (.val .non true []):=by
 have hp:gW [Hs ro sg RL,Mc n ts es]=.ok (.val (.bl true) true []):=by
  have aR:=P.lt;have h:=dI (mk:=λd=>gN 0 d false (gf [vv (Hs ro sg RL) false,vv (Mc n ts es) false] 1 [0])) (test:=λ_=>.ok true) (elt:=cH) aQ (λ_=>.val (.bl true) true []) ts λt ht=>⟨_,rfl,rfl,by show cH [vv (aQ t) false,vv (Hs ro sg RL) false]=_;have:=P.arr t ht;have hd:decide (ro<=t.2.2)=true:=IA (by lia);unfold aQ Hs;simp_arith[cH,hd]⟩;have hc:fE 1 [0] (lj (bK 1 (vC (.int 1)))) (gN 0) (λ_=>.ok true) cH [vv (Hs ro sg RL) false,vv (Mc n ts es) false]=.ok (.new (ts.map λ_=>D.bl true) true):=by have f2:D.flats (ts.map aQ)=true:=aY _ _ cr;rw[A1 (ds:=ts.map aQ) (fr:=false) (al:=[]) (by unfold Mc;simp_arith)];rw[iX (by rw[Ik];lia) h,qH,fX,cQ (aY _ _ λc=>rfl)]
  simp only[fR,cO,vE,j_,gR,vF,kc,kd,gS,LJ,LW,Im,Kj,Iw,Jr,List.replicate,J9,Kn,Js,Nat.reduceAdd,LX,LY,LZ,JL,Nat.reduceSub,oj,ot,tT,jc,ou,oz,oA,oB,iG,gm,bT,gE,eL,eM,b_,bU,cc,aX,c9,jZ,gF,gG,cC,c_,bV,bz,Cr,i7,JI,J7,oE,oF,oC,js,Int.reduceLT,Int.reduceLE,Int.reduceNeg,jo,jp,jq,jr,vj,vk,KC,KD,Nat.reduceLT,Nat.reduceLeDiff,vm,ol,om,oo,oq,jn,vn,vp,vq,oG,gp,gq,gr,gs,jt,gu,gv,d7,qE,jv,oH,jw,d8,cS,d9,cT,jy,gw,d_,eh,dk,eB,dn,cq,vw,oJ,jz,jA,jB,gx,gy,vx,vy,jC,jD,jE,gz,jF,oK,jG,jH,oM,oN,vz,oO,oP,oQ,qF,jI,jJ,jK,jL,bN,Fa,Fb,Fc,gA,jM,jN,gB,gC,vA,oR,jO,jP,oS,jQ,jR,jS,jT,jU,oT,jV,iH,eF,eG,gD,eI,eJ,oU,jW,gJ,gK,gL,gM,oX,gI,Res.noX_ok,oY,Fd,Fe,Ff,Fg,Fh,Int.reduceBEq,oW,L0,Nat.reduceEqDiff,oV,jX,jY,cD,cE,gH,eQ,eR,eU,eV,eY,eZ,Lw,KB,Ks,JP,Ki,Jz,KY,j3,j5,cQ,gn,gO,bm,j6,oZ,j8,vD,j9,j7,lX,bm,cU,gW,o9,hc,yA]
 simp_arith[bv,cL,mS,iY,hp]
noncomputable def lM (ro sg n:Int):List Pz.Arr:=(List.range ro.toNat).flatMap λa=>(List.range sg.toNat).flatMap λs=>(List.range n.toNat).map λt=>(((a:Nat):Int),((s:Nat):Int),((t:Nat):Int))
theorem univ_mem {ro sg n a s t:Int}:((a,s,t):Pz.Arr)∈lM ro sg n↔(0<=a/\a<ro)/\(0<=s/\s<sg)/\0<=t/\t<n:=by
 unfold lM;simp only[List.mem_flatMap,Ir,IN,J3];constructor
 .rintro⟨x,hx,y,hy,z,hz,rfl,rfl,rfl⟩;lia
 .rintro⟨h1,h2,h3⟩;exact⟨a.toNat,by lia,s.toNat,by lia,t.toNat,by lia,by lia,by lia,by lia⟩
theorem lN {α:Type}(c:Nat):∀ l:List α,(l.map λ_=>c).sum=l.length*c
 | []=>by simp
 |a::l=>by rw[Im,L_,lN c l,Iw,Nat.succ_mul];lia
theorem A3 (ro sg n:Int):(lM ro sg n).length=ro.toNat*(sg.toNat*n.toNat):=by
 unfold lM;rw[Lm];have h:∀ a:Nat,((List.range sg.toNat).flatMap λs=>(List.range n.toNat).map λt=>(((a:Nat):Int),((s:Nat):Int),((t:Nat):Int))).length=sg.toNat*n.toNat:=λa=>by rw[Lm];simp only[Ik,JH];rw[lN,JH]
 simp only[h];rw[lN,JH]
theorem t_ {ro sg n:Int}(r2:ro<=3)(s2:sg<=5)(hn:n<=25):(lM ro sg n).length<=375:=by
 rw[A3];have a:ro.toNat<=3:=by lia
 have b:sg.toNat<=5:=by lia
 have c:n.toNat<=25:=by lia
 exact IL (KZ a (KZ b c)) (by decide)
theorem Fy {ro sg n:Int}{RL:List Pz.Rule}{ts:List Pz.Arr}{es:List Int}(r1:0<ro)(r2:ro<=3)(s1:0<sg)(s2:sg<=5)(hr:∀ r∈RL,RR ro sg r)(hl:RL.length<=60)(P:PM ro sg n ts es):Pz.Set RL ts (ts++lM ro sg n):=by
 have hn:=P.n25;have hrn:=P.rn;have hlt:=P.lt;have u:=t_ (n:=n) r2 s2 (by lia);have ul:(ts++lM ro sg n).length<=404:=by rw[ID];lia
 have tgt:∀ s x t:Int,((s,x,t):Pz.Arr)∈ts++lM ro sg n->0<=t/\t<n:=λs x t h=>by
  rcases IG.mp h with h|h
  .have:=P.arr _ h;simp only[]at this;lia
  .exact(univ_mem.mp h).2.2
 refine⟨λr h=>(hr r h).p,λa h=>IG.mpr (.inl h),λr h=>IG.mpr (.inr (univ_mem.mpr ⟨(hr r h).a,(hr r h).s,?_⟩)),λr h s x t k=>IG.mpr (.inr (univ_mem.mpr ⟨(hr r h).a,(hr r h).s,tgt s x t k⟩)),?_,?_,?_⟩
 .have:=(hr r h).t;lia
 .have:RL.length*((ts++lM ro sg n).length*(ts++lM ro sg n).length)<=60*(404*404):=KZ hl (KZ ul ul);unfold Pz.L;lia
 .have:RL.length*(ts++lM ro sg n).length<=60*404:=KZ hl ul;unfold Pz.L;lia
 .unfold Pz.L;lia
theorem yE {ro sg n:Int}{RL:List Pz.Rule}{ts:List Pz.Arr}{es:List Int}(r1:0<ro)(r2:ro<=3)(s1:0<sg)(s2:sg<=5)(hr:∀ r∈RL,RR ro sg r)(hl:RL.length<=60)(P:PM ro sg n ts es) :
 ∃ t,o_ [Hs ro sg RL,Mc n ts es]=.ok (.fre (aP t))/\Pz.Good RL ts (ts++lM ro sg n) t/\t.length<=404:=by
 obtain⟨t,h,G⟩:=E6 (Fy r1 r2 s1 s2 hr hl P) (A2 P);refine⟨t,h,G,?_⟩;have hn:=P.n25;have hlt:=P.lt;have u:=t_ (n:=n) r2 s2 (by lia);have:=Pz.mF _ (ts++lM ro sg n) G.nd λa ha=>by obtain⟨x,hx,rfl⟩:=Ir.mp ha;exact G.u x.1 x.2 (Pz.n8 G.nd (by obtain⟨a,v⟩:=x;exact hx))
 rw[Ik,ID]at this;lia
theorem ua (a:Pz.Arr):∀ t:Pz.TD,getD (t.map λx=>(.inr (ak x.1):DK)) (t.map λx=>iF x.2) (.inr (ak a))=(Pz.tget t a).map iF
 | []=>rfl
 |x::t=>by
  rw[Im,Im];unfold getD;rw[ua a t,Pz.bx];by_cases h:x.1=a
  .rw[h,Il rfl,Il rfl];rfl
  .rw[Ij h,Ij λe=>h (oe _ _ (Li e))]
theorem ub (a:Pz.Arr):∀ t:Pz.TD,mf (t.map λx=>(.inr (ak x.1):DK)) (.inr (ak a))=(Pz.tget t a).isSome
 | []=>rfl
 |x::t=>by
  have ih:=ub a t;unfold mf at ih ⊢;rw[Im,Kh,ih,Pz.bx];by_cases h:x.1=a
  .rw[h,Il rfl,IA rfl];rfl
  .rw[Ij h,IJ λe=>h (oe _ _ (Li e))];rfl
theorem uc (a:Pz.Arr)(t:Pz.TD):(t.map λx=>(.inr (ak x.1):DK)).all (kin (.inr (ak a)))=true:=by rw[ME,Jq];intro x _;rfl
theorem wZ (a:Pz.Arr):keyX (aQ a)=some (.inr (ak a)):=(rfl)
theorem w6 {neg:Bool}(a:Pz.Arr)(t:Pz.TD):AM neg (aQ a) (aP t)=.ok (.val (.bl (if neg then !(Pz.tget t a).isSome else (Pz.tget t a).isSome)) true []):=by unfold aP;rw[GG (wZ a) (uc a t),ub]
theorem A4 {r q:R}{a:Pz.Arr}{t:Pz.TD}{v:Pz.Val}(h1:r.d=aP t)(h2:q.d=aQ a)(h:Pz.tget t a=some v):g9 r q=.ok (mkV (iF v) r.fr r.al):=Fj (ks:=t.map λx:Pz.Arr×Pz.Val=>(.inr (ak x.1):DK)) (ds:=t.map λx:Pz.Arr×Pz.Val=>iF x.2) h1 (by rw[h2];exact wZ a) (uc a t) (by rw[ua,h];rfl)
theorem yF (v:Pz.Val):(iF v).flat=true:=by
 have h:∀ o,(oD o).flat=true:=λo=>by cases o<;>rfl
 unfold iF;simp only[b_,aX,bT,cc,h,Ki]
theorem g8 (t:Pz.TD):(aP t).flat=false:=bm _ _
end W
namespace L3
open PySem L2
theorem Dz (i j:Nat)(fs:En->Res (List R))(env:En):B3 i j fs env=(fs env).bind (Aj i j env):=(rfl)
theorem A5 {i j:Nat}{env:En}{r q:R}(h1:r.d.flat=true)(h2:q.d.flat=true)(h3:i<env.length)(h4:j<env.length):Aj i j env [r,q]=.ok (.nx ((env.set i (some (.val r.d true))).set j (some (.val q.d true)))):=by unfold Aj;dsimp only;rw[Il (by rw[h1,h2,IA h3,IA h4];rfl)]
end L3
namespace W
open PySem L2 L3 L4
theorem w8 {β:Type}(el:Pz.Arr×Pz.Val->β)(k:Int×Int):∀(t:Pz.TD)(d:Pz.MD (Int×Int) β),(t.foldl (λd x=>d.app (x.1.1,x.1.2.1) (el x)) d).get k=d.get k++(t.filter λx=>decide ((x.1.1,x.1.2.1)=k)).map el
 | [],d=>by simp
 |x::t,d=>by
  rw[J2,w8 el k t,Pz.mD,KS];by_cases h:(x.1.1,x.1.2.1)=k
  .rw[Il h,Il (IA h),Im,Kf];rw[h];rfl
  .rw[Ij h,Ij (by simpa using h)]
theorem ud {β:Type}(el:Pz.Arr×Pz.Val->β)(k:Int×Int)(t:Pz.TD):(jb el t).get k=(t.filter λx=>decide ((x.1.1,x.1.2.1)=k)).map el:=by unfold jb;rw[w8];rfl
theorem ue {β:Type}(el:Pz.Arr×Pz.Val->β)(k:Int×Int)(t:Pz.TD):((jb el t).get k).length<=t.length:=by rw[ud,Ik];exact LP _ _
theorem A6 {β:Type}(eD:β->D)(k:Int×Int):∀ d:Pz.MD (Int×Int) β,getD (d.map λe=>(.inr (k2 e.1):DK)) (d.map λe=>.lst (e.2.map eD)) (.inr (k2 k))=if d.has k then some (.lst ((d.get k).map eD)) else none
 | []=>rfl
 |x::d=>by
  have ih:=A6 eD k d;rw[Im,Im];unfold getD;rw[ih,Pz.be];unfold Pz.MD.has;rw[Kh];by_cases h:x.1=k
  .rw[Il (by rw[h]),Il h,IA h];rfl
  .rw[Ij (λe=>h (lE _ _ (Li e))),Ij h,IJ h];rfl
theorem CH {β:Type}(k:Int×Int)(d:Pz.MD (Int×Int) β)(h:d.has k=false):d.get k=[]:=by
 induction d with
 |nil=>rfl
 |cons x d ih=>unfold Pz.MD.has at h ih;rw[Kh,Bool.or_eq_false_iff]at h;rw[Pz.be,Ij (of_decide_eq_false h.1)];exact ih h.2
theorem Fz {β:Type}(k:Int×Int)(d:Pz.MD (Int×Int) β):(d.map λe=>(.inr (k2 e.1):DK)).all (kin (.inr (k2 k)))=true:=by rw[ME,Jq];intro x _;rfl
theorem w_ {β:Type}{eD:β->D}{d:Pz.MD (Int×Int) β}{fa fk fx:En->Res R}{env:En}{f:Bool}{a b:Int}{r:R}(h1:fa env=.ok (.val (lG eD d) f []))(h2:fk env=.ok r)(hr:r.d=.tup [.int a,.int b])(h3:fx env=.ok (.new [] true)) :
 ∃ f',nU fa fk fx env=.ok (.val (.lst ((d.get (a,b)).map eD)) f' []):=by
 have hk:keyX r.d=some (.inr (k2 (a,b))):=by rw[hr];rfl
 have e:nU fa fk fx env=F_ (.val (lG eD d) f []) (d.map λe=>(.inr (k2 e.1):DK)) (d.map λe=>.lst (e.2.map eD)) r (.new [] true):=by rw[j7,h1,i7,GH (ks:=d.map λe=>(.inr (k2 e.1):DK)) (ds:=d.map λe=>.lst (e.2.map eD)) rfl,h2,i7,lX,h3,i7]
 rw[e];unfold F_;rw[hk];dsimp only;rw[Il (Fz (a,b) d),A6];cases h:d.has (a,b) with
 |true=>exact⟨f,by rw[Il rfl];dsimp only;rw[gm (bU _)];rfl⟩
 |false=>exact⟨true,by rw[Ij (by simp),CH _ _ h];dsimp only;rw[cE,gm (bU _)];rfl⟩
theorem uf (x:Int×Int):(cZ x).flat=true:=(rfl)
theorem fZ {β:Type}(eD:β->D)(d:Pz.MD (Int×Int) β):(lG eD d).flat=false:=bm _ _
noncomputable abbrev Rows:=Pz.MD (Int×Int) (Int×Int)
noncomputable def ug (rw:Rows)(r:Pz.Rule):List (Int×Int):=match r.2.2.2 with
 | []=>[(r.2.2.1,1)]
 | [x]=>(rw.get (r.2.2.1,x)).map λq=>(q.1,1+q.2)
 |x::y::_=>(rw.get (r.2.2.1,x)).flatMap λq=>(rw.get (q.1,y)).map λz=>(z.1,1+q.2+z.2)
theorem yG {e2 e4:Option Sl}{rw:Rows}{r:Pz.Rule}{p mid:Int}{g1 g2 g3 g5 g6:Bool}{x y:Int}{e:List Int}(hl:(rw.get (mid,y)).length<=1000000):fE 2 [6] (lj (nU (aj 0) (dw (ai (aj 5) (ai (bK 3 (vC (.int 1))) aN))) (iZ aN))) (gT 2 (aC (gN 0) (aC (gN 1) bQ))) (λ_=>.ok true) db
 [vv (lG cZ rw) g1,vv (aL r) g2,e2,vv (.tup ((x::y::e).map .int)) g3,e4,vv (.int mid) g5,vv (.int p) g6]=.ok (.new (((rw.get (mid,y)).map λz=>(z.1,1+p+z.2)).map cZ) true):=by
 obtain⟨f',hg⟩:=w_ (d:=rw) (eD:=cZ) (fa:=aj 0) (fk:=dw (ai (aj 5) (ai (bK 3 (vC (.int 1))) aN))) (fx:=iZ aN) (env:=[vv (lG cZ rw) g1,vv (aL r) g2,e2,vv (.tup ((x::y::e).map .int)) g3,e4,vv (.int mid) g5,vv (.int p) g6]) (f:=g1) (a:=mid) (b:=y) (r:=.val (.tup [.int mid,.int y]) true []) (by simp_arith[fZ]) (by simp_arith[aT]) rfl (by simp_arith);have h:=dI (mk:=λd=>gT 2 (aC (gN 0) (aC (gN 1) bQ)) d f' (gf [vv (lG cZ rw) g1,vv (aL r) g2,e2,vv (.tup ((x::y::e).map .int)) g3,e4,vv (.int mid) g5,vv (.int p) g6] 2 [6])) (test:=λ_=>.ok true) (elt:=db) cZ (λz=>.val (cZ (z.1,1+p+z.2)) true []) (rw.get (mid,y)) λc _=>⟨[vv (.int c.1) f',vv (.int c.2) f',vv (.int p) g6],rfl,rfl,by simp_arith[db];rfl⟩;rw[A1 hg,iX (by rw[Ik];exact hl) h,qH,fX,cQ (aY _ _ λc=>rfl),Je];rfl
theorem CI {t:Pz.TD}{r:Pz.Rule}(ht:t.length<=1000):∃ R',dt [lG cZ (jb qD t),aL r]=.ok R'/\(R'=.new ((ug (jb qD t) r).map cZ) true\/∃ al,R'=.val (.lst ((ug (jb qD t) r).map cZ)) true al):=by
 have hgl:=λk=>ue qD k t;generalize jb qD t=rw at hgl;obtain⟨r0,r1,r2,put⟩:=r;have dp:(D.tup (put.map D.int)).dep<=50:=by have:=lJ put;rw[cC];lia
 have d0:(D.tup ([]:List D)).dep<=50:=by decide
 rcases put with _|⟨x,put⟩
 .refine⟨_,?_,.inl rfl⟩;unfold aL ug;simp_arith[dt,iP,fZ,Dz,A5,mj,fP,eqDs];rfl
 .have he:eqDs (D.int x::put.map D.int) []=false:=rfl;obtain⟨f',hg⟩:=w_ (d:=rw) (eD:=cZ) (fa:=aj 0) (fk:=dw (ai (aj 2) (ai (bK 3 (vC (.int 0))) aN))) (fx:=iZ aN) (env:=[vv (lG cZ rw) false,vv (aL (r0,r1,r2,x::put)) false,vv (.int r2) true,vv (.tup ((x::put).map .int)) true,ow [] true,none,none]) (f:=false) (a:=r2) (b:=x) (r:=.val (.tup [.int r2,.int x]) true []) (by simp_arith[fZ]) (by simp_arith[aT]) rfl (by simp_arith);have lo:∃ e5 e6,gc (gT 2 (aC (gN 5) (aC (gN 6) bQ))) f' bW ((rw.get (r2,x)).map cZ) [vv (lG cZ rw) false,vv (aL (r0,r1,r2,x::put)) false,vv (.int r2) true,vv (.tup ((x::put).map .int)) true,ow [] true,none,none]=.ok (.nx [vv (lG cZ rw) false,vv (aL (r0,r1,r2,x::put)) false,vv (.int r2) true,vv (.tup ((x::put).map .int)) true,ow ((ug rw (r0,r1,r2,x::put)).map cZ) true,e5,e6]):=by
   cases put with
   |nil=>
    obtain⟨bf,h1,e5',e6',rfl⟩:=mM cZ (asg:=gT 2 (aC (gN 5) (aC (gN 6) bQ))) (fr:=f') (body:=bW) (rw.get (r2,x)) (λpre env=>∃ e5' e6',env=[vv (lG cZ rw) false,vv (aL (r0,r1,r2,[x])) false,vv (.int r2) true,vv (.tup ([x].map .int)) true,ow ((pre.map λq=>(q.1,1+q.2)).map cZ) true,e5',e6']) (rw.get (r2,x)) [] _ rfl ⟨none,none,rfl⟩ (by
     rintro pre post q env hall ⟨q5,q6,rfl⟩;have hpl:pre.length<=1000:=by have:=JF List.length hall;simp at this;have:=hgl (r2,x);lia
     have aR:((pre.map λq=>(q.1,1+q.2)).map cZ).length<1000000:=by simp;lia
     have e1:((pre++[q]).map λq:Int×Int=>(q.1,1+q.2)).map cZ=((pre.map λq=>(q.1,1+q.2)).map cZ)++[.tup [.int q.1,.int (1+q.2)]]:=by rw[Jk,Jk];rfl
     refine⟨[vv (lG cZ rw) false,vv (aL (r0,r1,r2,[x])) false,vv (.int r2) true,vv (.tup ([x].map .int)) true,ow ((pre.map λq=>(q.1,1+q.2)).map cZ) true,vv (.int q.1) f',vv (.int q.2) f'],[vv (lG cZ rw) false,vv (aL (r0,r1,r2,[x])) false,vv (.int r2) true,vv (.tup ([x].map .int)) true,ow (((pre++[q]).map λq=>(q.1,1+q.2)).map cZ) true,vv (.int q.1) f',vv (.int q.2) f'],rfl,?_,_,_,rfl⟩;rw[e1];simp_arith[bW,mj,AJ aR,BEq.rfl])
    exact⟨_,_,h1⟩
   |cons y put=>
    obtain⟨bf,h1,e5',e6',rfl⟩:=mM cZ (asg:=gT 2 (aC (gN 5) (aC (gN 6) bQ))) (fr:=f') (body:=bW) (rw.get (r2,x)) (λpre env=>∃ e5' e6',env=[vv (lG cZ rw) false,vv (aL (r0,r1,r2,x::y::put)) false,vv (.int r2) true,vv (.tup ((x::y::put).map .int)) true,ow ((pre.flatMap λq=>(rw.get (q.1,y)).map λz=>(z.1,1+q.2+z.2)).map cZ) true,e5',e6']) (rw.get (r2,x)) [] _ rfl ⟨none,none,rfl⟩ (by
     rintro pre post q env hall ⟨q5,q6,rfl⟩;have hpl:pre.length<=1000:=by have:=JF List.length hall;simp at this;have:=hgl (r2,x);lia
     have hpost:pre.length+1<=t.length:=by have:=JF List.length hall;simp at this;have:=hgl (r2,x);lia
     have fm:∀ l:List (Int×Int),(l.flatMap λq=>(rw.get (q.1,y)).map λz=>(z.1,1+q.2+z.2)).length<=l.length*t.length:=λl=>by
      induction l with
      |nil=>simp
      |cons a l ih=>rw[Kg,ID,Ik,Iw,Nat.succ_mul];have:=hgl (a.1,y);lia
     have aR:((pre.flatMap λq=>(rw.get (q.1,y)).map λz=>(z.1,1+q.2+z.2)).map cZ).length+(((rw.get (q.1,y)).map λz=>(z.1,1+q.2+z.2)).map cZ).length<=1000000:=by
      rw[Ik,Ik,Ik];have a:=fm pre;have b:=hgl (q.1,y);have c:pre.length*t.length+t.length<=t.length*t.length:=by rw[<- Nat.succ_mul];exact Nat.mul_le_mul_right _ hpost
      have d:t.length*t.length<=1000*1000:=KZ ht ht;lia
     have e1:((pre++[q]).flatMap λq:Int×Int=>(rw.get (q.1,y)).map λz=>(z.1,1+q.2+z.2)).map cZ=((pre.flatMap λq=>(rw.get (q.1,y)).map λz=>(z.1,1+q.2+z.2)).map cZ)++(((rw.get (q.1,y)).map λz=>(z.1,1+q.2+z.2)).map cZ):=by rw[Mh,Jk];simp
     have hc:=yG (rw:=rw) (r:=(r0,r1,r2,x::y::put)) (p:=q.2) (mid:=q.1) (g1:=false) (g2:=false) (g3:=true) (g5:=f') (g6:=f') (x:=x) (y:=y) (e:=put) (e2:=vv (.int r2) true) (e4:=ow ((pre.flatMap λq=>(rw.get (q.1,y)).map λz=>(z.1,1+q.2+z.2)).map cZ) true) (by have:=hgl (q.1,y);lia);have ne1:(((put.length:Nat):Int)+1+1==1)=false:=Jw.mpr (by lia);have ne2:((((put.length+1+1:Nat)):Int)==1)=false:=Jw.mpr (by lia);have fl:D.flats (((pre.flatMap λq=>(rw.get (q.1,y)).map λz=>(z.1,1+q.2+z.2)).map cZ)++(((rw.get (q.1,y)).map λz=>(z.1,1+q.2+z.2)).map cZ))=true:=by rw[<- e1];exact aY _ _ uf
     refine⟨[vv (lG cZ rw) false,vv (aL (r0,r1,r2,x::y::put)) false,vv (.int r2) true,vv (.tup ((x::y::put).map .int)) true,ow ((pre.flatMap λq=>(rw.get (q.1,y)).map λz=>(z.1,1+q.2+z.2)).map cZ) true,vv (.int q.1) f',vv (.int q.2) f'],[vv (lG cZ rw) false,vv (aL (r0,r1,r2,x::y::put)) false,vv (.int r2) true,vv (.tup ((x::y::put).map .int)) true,ow (((pre++[q]).flatMap λq=>(rw.get (q.1,y)).map λz=>(z.1,1+q.2+z.2)).map cZ) true,vv (.int q.1) f',vv (.int q.2) f'],rfl,?_,_,_,rfl⟩;rw[e1];simp only[Im]at hc;simp only[fR,cO,vE,j_,gR,vF,kc,kd,gS,LJ,LW,Im,Kj,Iw,Jr,List.replicate,J9,Kn,Js,Nat.reduceAdd,LX,LY,LZ,JL,Nat.reduceSub,oj,ot,tT,jc,ou,oz,oA,oB,iG,gm,bT,gE,eL,eM,b_,bU,cc,aX,c9,jZ,gF,gG,cC,c_,bV,bz,Cr,i7,JI,J7,oE,oF,oC,js,Int.reduceLT,Int.reduceLE,Int.reduceNeg,jo,jp,jq,jr,vj,vk,KC,KD,Nat.reduceLT,Nat.reduceLeDiff,vm,ol,om,oo,oq,jn,vn,vp,vq,oG,gp,gq,gr,gs,jt,gu,gv,d7,qE,jv,oH,jw,d8,cS,d9,cT,jy,gw,d_,eh,dk,eB,dn,cq,vw,oJ,jz,jA,jB,gx,gy,vx,vy,jC,jD,jE,gz,jF,oK,jG,jH,oM,oN,vz,oO,oP,oQ,qF,jI,jJ,jK,jL,bN,Fa,Fb,Fc,gA,jM,jN,gB,gC,vA,oR,jO,jP,oS,jQ,jR,jS,jT,jU,oT,jV,iH,eF,eG,gD,eI,eJ,oU,jW,gJ,gK,gL,gM,oX,gI,Res.noX_ok,oY,Fd,Fe,Ff,Fg,Fh,Int.reduceBEq,oW,L0,Nat.reduceEqDiff,oV,jX,jY,cD,cE,gH,eQ,eR,eU,eV,eY,eZ,Lw,KB,Ks,JP,Ki,Jz,KY,j3,j5,cQ,gn,gO,bm,j6,oZ,j8,vD,j9,j7,lX,bm,cU,bW,mj,Ik,ne1,ne2,aT,hc,vt aR,fl])
    exact⟨_,_,h1⟩
  obtain⟨e5,e6,lo⟩:=lo;refine⟨_,?_,.inr ⟨[4],rfl⟩⟩;have hoe:zT (.val (.tup (D.int x::put.map D.int)) true []) (.val (.tup []) true [])=.ok (.val (.bl false) true []):=mj (a:=.val (.tup (D.int x::put.map D.int)) true []) (b:=.val (.tup []) true []) dp d0;simp only[aL,Im]at lo hg ⊢;simp only[fR,cO,vE,j_,gR,vF,kc,kd,gS,LJ,LW,Im,Kj,Iw,Jr,List.replicate,J9,Kn,Js,Nat.reduceAdd,LX,LY,LZ,JL,Nat.reduceSub,oj,ot,tT,jc,ou,oz,oA,oB,iG,gm,bT,gE,eL,eM,b_,bU,cc,aX,c9,jZ,gF,gG,cC,c_,bV,bz,Cr,i7,JI,J7,oE,oF,oC,js,Int.reduceLT,Int.reduceLE,Int.reduceNeg,jo,jp,jq,jr,vj,vk,KC,KD,Nat.reduceLT,Nat.reduceLeDiff,vm,ol,om,oo,oq,jn,vn,vp,vq,oG,gp,gq,gr,gs,jt,gu,gv,d7,qE,jv,oH,jw,d8,cS,d9,cT,jy,gw,d_,eh,dk,eB,dn,cq,vw,oJ,jz,jA,jB,gx,gy,vx,vy,jC,jD,jE,gz,jF,oK,jG,jH,oM,oN,vz,oO,oP,oQ,qF,jI,jJ,jK,jL,bN,Fa,Fb,Fc,gA,jM,jN,gB,gC,vA,oR,jO,jP,oS,jQ,jR,jS,jT,jU,oT,jV,iH,eF,eG,gD,eI,eJ,oU,jW,gJ,gK,gL,gM,oX,gI,Res.noX_ok,oY,Fd,Fe,Ff,Fg,Fh,Int.reduceBEq,oW,L0,Nat.reduceEqDiff,lH,oV,jX,jY,cD,cE,gH,eQ,eR,eU,eV,eY,eZ,Lw,KB,Ks,JP,Ki,Jz,KY,j3,j5,cQ,gn,gO,bm,j6,oZ,j8,vD,j9,lX,bm,cU,dt,iP,fZ,aT,Dz,A5,hoe,hg,lo]
theorem r_ {t:Pz.TD}(nd:(t.map (·.1)).Nodup){c x d p:Int}:(d,p)∈(jb qD t).get (c,x)↔Pz.At t (c,x,d) p:=by
 rw[ud,Ir];constructor
 .rintro⟨⟨a,v⟩,hm,e⟩;obtain⟨h1,h2⟩:=Jj.mp hm;have h2:=Ji h2;obtain⟨a0,a1,a2⟩:=a;unfold qD at e;simp only[J3]at e h2;obtain⟨rfl,rfl⟩:=h2;obtain⟨rfl,rfl⟩:=e;exact⟨v,Pz.n8 nd h1,rfl⟩
 .rintro⟨v,hv,rfl⟩;exact⟨((c,x,d),v),Jj.mpr ⟨Pz.nZ hv,IA rfl⟩,rfl⟩
theorem A7 {RL:List Pz.Rule}{M U:List Pz.Arr}{t:Pz.TD}(G:Pz.Good RL M U t){r:Pz.Rule}(hr:r∈RL){q:Int×Int}(hq:q∈ug (jb qD t) r)(hp:r.2.2.2.length<=2):Pz.Low t (r.1,r.2.1,q.1) q.2:=by
 obtain⟨j,hj⟩:=List.getElem?_of_mem hr;have hc:=G.clo j r hj;obtain⟨r0,r1,r2,put⟩:=r;obtain⟨q1,q2⟩:=q;unfold ug at hq;rcases put with _|⟨x,_|⟨y,_|⟨z,l⟩⟩⟩
 .simp only[IE,J3]at hq;obtain⟨rfl,rfl⟩:=hq;exact hc
 .obtain⟨⟨d,p⟩,hm,e⟩:=Ir.mp hq;simp only[J3]at e;obtain⟨rfl,rfl⟩:=e;have:=hc d p ((r_ G.nd).mp hm);rw[Int.add_comm]at this;exact this
 .obtain⟨⟨d,p⟩,hm,hq⟩:=List.mem_flatMap.mp hq;obtain⟨⟨e,s⟩,hm2,e⟩:=Ir.mp hq;simp only[J3]at e;obtain⟨rfl,rfl⟩:=e;have:=hc d _ p s ((r_ G.nd).mp hm) ((r_ G.nd).mp hm2);obtain⟨w,h1,h2⟩:=this;exact⟨w,h1,by simp only;lia⟩
 .simp at hp
theorem yH {R':R}{ds:List D}{rs:List R}(hf:D.flats ds=true)(h:R'=.new ds true\/∃ al,R'=.val (.lst ds) true al):tU (dX rs R')=.ok ⟨ds,true,[]⟩:=by
 rcases h with rfl|⟨al,rfl⟩
 .rw[dn rs hf];rfl
 .rw[dk rs (bU _)];rfl
theorem A8 (t:Pz.TD):A_ "dict" (aP t)=true:=(rfl)
theorem FA (ns:List Int)(hl:ns.length<=63):tY [.lst (ns.map .int)]=.ok (.val (.bl true) true []):=by
 obtain⟨ro,sg,RL,n,ts,es,al,r1,r2,s1,s2,hr,hrl,P,hm⟩:=CF ns hl 60 (by decide) (by decide);have hrl:RL.length<=60:=hrl;obtain⟨t,hp,G,ht⟩:=yE r1 r2 s1 s2 hr hrl P;have hcp:=CG (ro:=ro) (sg:=sg) (n:=n) (RL:=RL) (ts:=ts) (es:=es);have hfi:D.flats (ns.map D.int)=true:=aT _;have hrows:iN [aP t]=.ok (.fre (lG cZ (jb qD t))):=E7 (by lia);have tI:∀(a:Pz.Arr)(v:Pz.Val)(f:Bool)(al:List Nat),Pz.tget t a=some v->g9 (.val (aP t) true []) (.val (aQ a) f al)=.ok (.val (iF v) true []):=λa v f al h=>by rw[A4 (r:=.val (aP t) true []) (q:=.val (aQ a) f al) rfl rfl h,iG (yF v)]
 have v0:∀(v:Pz.Val) f al,ui (.val (iF v) f al) (.val (.int 0) true [])=.ok (.val (.int v.1) true []):=λv f al=>by
  have o:∀ o,(oD o).flat=true:=λo=>by cases o<;>rfl
  unfold iF;simp_arith
 have ixT:∀(a:Pz.Arr)(v:Pz.Val)(env:En),Pz.tget t a=some v->env[4]?=some (vv (aP t) true)->env[5]?=some (vv (aQ a) true)->v2 ui (v2 g9 (aj 4) (aj 5)) (vC (.int 0)) env=.ok (.val (.int v.1) true []):=λa v env h h4 h5=>by
  have hi:v2 g9 (aj 4) (aj 5) env=.ok (.val (iF v) true []):=by simp_arith[h4,h5,g8,cr,tI a v true [] h]
  rw[tT,hi,i7,jc,Cr,i7,v0]
 have lo1:∀ e0 e3 e5 e6 e7 e8 e9:Option Sl,∃ e5',gc (gN 5) true mP (ts.map aQ) [e0,vv (Hs ro sg RL) true,vv (Mc n ts es) true,e3,vv (aP t) true,e5,e6,e7,e8,e9]=.ok (.nx [e0,vv (Hs ro sg RL) true,vv (Mc n ts es) true,e3,vv (aP t) true,e5',e6,e7,e8,e9]):=λe0 e3 e5 e6 e7 e8 e9=>by
  obtain⟨bf,h1,e5',rfl⟩:=kZ aQ (asg:=gN 5) (fr:=true) (body:=mP) (λ_ env=>∃ e5',env=[e0,vv (Hs ro sg RL) true,vv (Mc n ts es) true,e3,vv (aP t) true,e5',e6,e7,e8,e9]) ts [] [e0,vv (Hs ro sg RL) true,vv (Mc n ts es) true,e3,vv (aP t) true,e5,e6,e7,e8,e9] ⟨e5,rfl⟩ (by
   rintro pre post a env _ ⟨q5,rfl⟩ ha;have hv:=G.m0 a ha;have hin:=w6 (neg:=true) a t;rw[hv]at hin;refine⟨[e0,vv (Hs ro sg RL) true,vv (Mc n ts es) true,e3,vv (aP t) true,vv (aQ a) true,e6,e7,e8,e9],[e0,vv (Hs ro sg RL) true,vv (Mc n ts es) true,e3,vv (aP t) true,vv (aQ a) true,e6,e7,e8,e9],rfl,?_,_,rfl⟩;have hx:=ixT a _ [e0,vv (Hs ro sg RL) true,vv (Mc n ts es) true,e3,vv (aP t) true,vv (aQ a) true,e6,e7,e8,e9] hv rfl rfl;have hw:v2 C4 (v2 ui (v2 g9 (aj 4) (aj 5)) (vC (.int 0))) (vC (.int 0)) [e0,vv (Hs ro sg RL) true,vv (Mc n ts es) true,e3,vv (aP t) true,vv (aQ a) true,e6,e7,e8,e9]=.ok (.val (.bl false) true []):=by rw[tT,hx,i7,jc,Cr,i7];rfl
   have hn:v2 iT (aj 5) (aj 4) [e0,vv (Hs ro sg RL) true,vv (Mc n ts es) true,e3,vv (aP t) true,vv (aQ a) true,e6,e7,e8,e9]=.ok (.val (.bl false) true []):=by simp_arith[cr,g8,hin];rfl
   simp only[fR,cO,vE,j_,gR,vF,kc,kd,gS,LJ,LW,Im,Kj,Iw,Jr,List.replicate,J9,Kn,Js,Nat.reduceAdd,LX,LY,LZ,JL,Nat.reduceSub,oj,ot,jc,ou,oz,oA,oB,iG,gm,bT,gE,eL,eM,b_,bU,cc,aX,c9,jZ,gF,gG,cC,c_,bV,bz,Cr,i7,JI,J7,oE,oF,oC,js,Int.reduceLT,Int.reduceLE,Int.reduceNeg,jo,jp,jq,jr,vj,vk,KC,KD,Nat.reduceLT,Nat.reduceLeDiff,vm,ol,om,oo,oq,jn,vn,vp,vq,oG,gp,gq,gr,gs,jt,gu,gv,d7,qE,jv,oH,jw,d8,cS,d9,cT,jy,gw,d_,eh,dk,eB,dn,cq,vw,oJ,jz,jA,jB,gx,gy,vx,vy,jC,jD,jE,gz,jF,oK,jG,jH,oM,oN,vz,oO,oP,oQ,qF,jI,jJ,jK,jL,bN,Fa,Fb,Fc,gA,jM,jN,gB,gC,vA,oR,jO,jP,oS,jQ,jR,jS,jT,jU,oT,jV,iH,eF,eG,gD,eI,eJ,oU,jW,gJ,gK,gL,gM,oX,gI,Res.noX_ok,oY,Fd,Fe,Ff,Fg,Fh,Int.reduceBEq,oW,L0,Nat.reduceEqDiff,lH,oV,jX,jY,cD,cE,gH,eQ,eR,eU,eV,eY,eZ,Lw,KB,Ks,JP,Ki,Jz,KY,j3,j5,cQ,gn,gO,bm,j6,oZ,j8,vD,j9,j7,lX,bm,cU,mP,hn,hw])
  exact⟨_,h1⟩
 have lo2:∀(r:Pz.Rule),r∈RL->∀(g7:Bool)(e0 e3 e5 e6 e8 e9:Option Sl),∃ e5' e8' e9',gc (gT 2 (aC (gN 8) (aC (gN 9) bQ))) true mQ ((ug (jb qD t) r).map cZ) [e0,vv (Hs ro sg RL) true,vv (Mc n ts es) true,e3,vv (aP t) true,e5,e6,vv (aL r) g7,e8,e9]=.ok (.nx [e0,vv (Hs ro sg RL) true,vv (Mc n ts es) true,e3,vv (aP t) true,e5',e6,vv (aL r) g7,e8',e9']):=λr hrm g7 e0 e3 e5 e6 e8 e9=>by
  obtain⟨bf,h1,e5',e8',e9',rfl⟩:=kZ cZ (asg:=gT 2 (aC (gN 8) (aC (gN 9) bQ))) (fr:=true) (body:=mQ) (λ_ env=>∃ e5' e8' e9',env=[e0,vv (Hs ro sg RL) true,vv (Mc n ts es) true,e3,vv (aP t) true,e5',e6,vv (aL r) g7,e8',e9']) (ug (jb qD t) r) [] [e0,vv (Hs ro sg RL) true,vv (Mc n ts es) true,e3,vv (aP t) true,e5,e6,vv (aL r) g7,e8,e9] ⟨e5,e8,e9,rfl⟩ (by
   rintro pre post q env _ ⟨q5,q8,q9,rfl⟩ hq;obtain⟨w,hv,hle⟩:=A7 G hrm hq (hr r hrm).p;have hin:=w6 (neg:=true) (r.1,r.2.1,q.1) t;rw[hv]at hin;generalize ha:((r.1,r.2.1,q.1):Pz.Arr)=a at hv hin;have hA:dw (ai (bK 7 (vC (.int 0))) (ai (bK 7 (vC (.int 1))) (ai (aj 8) aN))) [e0,vv (Hs ro sg RL) true,vv (Mc n ts es) true,e3,vv (aP t) true,q5,e6,vv (aL r) g7,vv (.int q.1) true,vv (.int q.2) true]=.ok (.val (aQ a) true []):=by subst ha;unfold aL;simp_arith[aT];rfl
   refine⟨[e0,vv (Hs ro sg RL) true,vv (Mc n ts es) true,e3,vv (aP t) true,q5,e6,vv (aL r) g7,vv (.int q.1) true,vv (.int q.2) true],[e0,vv (Hs ro sg RL) true,vv (Mc n ts es) true,e3,vv (aP t) true,vv (aQ a) true,e6,vv (aL r) g7,vv (.int q.1) true,vv (.int q.2) true],rfl,?_,_,_,_,rfl⟩;have hx:=ixT a _ [e0,vv (Hs ro sg RL) true,vv (Mc n ts es) true,e3,vv (aP t) true,vv (aQ a) true,e6,vv (aL r) g7,vv (.int q.1) true,vv (.int q.2) true] hv rfl rfl;have hw:v2 FU (v2 ui (v2 g9 (aj 4) (aj 5)) (vC (.int 0))) (aj 9) [e0,vv (Hs ro sg RL) true,vv (Mc n ts es) true,e3,vv (aP t) true,vv (aQ a) true,e6,vv (aL r) g7,vv (.int q.1) true,vv (.int q.2) true]=.ok (.val (.bl false) true []):=by rw[tT,hx,i7,jc];simp_arith;rw[IJ (by lia)]
   have hn:v2 iT (aj 5) (aj 4) [e0,vv (Hs ro sg RL) true,vv (Mc n ts es) true,e3,vv (aP t) true,vv (aQ a) true,e6,vv (aL r) g7,vv (.int q.1) true,vv (.int q.2) true]=.ok (.val (.bl false) true []):=by simp_arith[cr,g8,hin];rfl
   simp only[fR,cO,vE,j_,gR,vF,kc,kd,gS,LJ,LW,Im,Kj,Iw,Jr,List.replicate,J9,Kn,Js,Nat.reduceAdd,LX,LY,LZ,JL,Nat.reduceSub,oj,ot,jc,ou,oz,oA,oB,iG,gm,bT,gE,eL,eM,b_,bU,cc,aX,c9,jZ,gF,gG,cC,c_,bV,bz,Cr,i7,JI,J7,oE,oF,oC,js,Int.reduceLT,Int.reduceLE,Int.reduceNeg,jo,jp,jq,jr,vj,vk,KC,KD,Nat.reduceLT,Nat.reduceLeDiff,vm,ol,om,oo,oq,jn,vn,vp,vq,oG,gp,gq,gr,gs,jt,gu,gv,d7,jv,oH,jw,d8,cS,d9,cT,jy,gw,d_,eh,dk,eB,dn,cq,vw,oJ,jz,jA,jB,gx,gy,vx,vy,jC,jD,jE,gz,jF,oK,jG,jH,oM,oN,vz,oO,oP,oQ,qF,jI,jJ,jK,jL,bN,Fa,Fb,Fc,gA,jM,jN,gB,gC,vA,oR,jO,jP,oS,jQ,jR,jS,jT,jU,oT,jV,iH,eF,eG,gD,eI,eJ,oU,jW,gJ,gK,gL,gM,oX,gI,Res.noX_ok,oY,Fd,Fe,Ff,Fg,Fh,Int.reduceBEq,oW,L0,Nat.reduceEqDiff,lH,oV,jX,jY,cD,cE,gH,eQ,eR,eU,eV,eY,eZ,Lw,KB,Ks,JP,Ki,Jz,KY,j3,j5,cQ,gn,gO,bm,j6,oZ,j8,vD,j9,j7,lX,bm,cU,mQ,hA,hn,hw])
  exact⟨_,_,_,h1⟩
 have lo3:∀(e0 e3 e5 e7 e8 e9:Option Sl),∃ e5' e7' e8' e9',gc (gN 7) true mR (RL.map aL) [e0,vv (Hs ro sg RL) true,vv (Mc n ts es) true,e3,vv (aP t) true,e5,vv (lG cZ (jb qD t)) true,e7,e8,e9]=.ok (.nx [e0,vv (Hs ro sg RL) true,vv (Mc n ts es) true,e3,vv (aP t) true,e5',vv (lG cZ (jb qD t)) true,e7',e8',e9']):=λe0 e3 e5 e7 e8 e9=>by obtain⟨bf,h1,e5',e7',e8',e9',rfl⟩:=kZ aL (asg:=gN 7) (fr:=true) (body:=mR) (λ_ env=>∃ e5' e7' e8' e9',env=[e0,vv (Hs ro sg RL) true,vv (Mc n ts es) true,e3,vv (aP t) true,e5',vv (lG cZ (jb qD t)) true,e7',e8',e9']) RL [] [e0,vv (Hs ro sg RL) true,vv (Mc n ts es) true,e3,vv (aP t) true,e5,vv (lG cZ (jb qD t)) true,e7,e8,e9] ⟨e5,e7,e8,e9,rfl⟩ (by rintro pre post r env _ ⟨q5,q7,q8,q9,rfl⟩ hrm;obtain⟨R',hb,hR⟩:=CI (t:=t) (r:=r) (by lia);obtain⟨x5,x8,x9,hlo⟩:=lo2 r hrm true e0 e3 q5 (vv (lG cZ (jb qD t)) true) q8 q9;refine⟨[e0,vv (Hs ro sg RL) true,vv (Mc n ts es) true,e3,vv (aP t) true,q5,vv (lG cZ (jb qD t)) true,vv (aL r) true,q8,q9],[e0,vv (Hs ro sg RL) true,vv (Mc n ts es) true,e3,vv (aP t) true,x5,vv (lG cZ (jb qD t)) true,vv (aL r) true,x8,x9],rfl,?_,x5,_,x8,x9,rfl⟩;have hs:∀ rs,tU (dX rs R')=_:=λrs=>yH (aY _ _ uf) hR;simp_arith[mR,fZ,fj,hb,hs,hlo]);exact⟨_,_,_,_,h1⟩
 have dh:(D.lst [Hs ro sg RL,Mc n ts es]).dep<=50:=by have a:=Fw ro sg RL;have b:=Fx n ts es;simp only[c_,bz,bV];lia
 have hee:=kK (D.lst [Hs ro sg RL,Mc n ts es]);have ff:D.flats [Hs ro sg RL,Mc n ts es]=false:=vG (mS _ _ _);have fp:(D.tup [Hs ro sg RL,Mc n ts es]).flat=false:=ff;have hne:∀ f al g,C4 (.val (.lst [Hs ro sg RL,Mc n ts es]) f al) (.new [Hs ro sg RL,Mc n ts es] g)=.ok (.val (.bl false) true []):=λf al g=>by rw[HH (a:=.val (.lst [Hs ro sg RL,Mc n ts es]) f al) (b:=.new [Hs ro sg RL,Mc n ts es] g) dh dh,cD,cE,hee];rfl
 obtain⟨x5,k1⟩:=lo1 (vv (.lst (ns.map .int)) false) (vv (.lst [Hs ro sg RL,Mc n ts es]) true) none none none none none;obtain⟨y5,y7,y8,y9,k2⟩:=lo3 (vv (.lst (ns.map .int)) false) (vv (.lst [Hs ro sg RL,Mc n ts es]) true) x5 none none none;have hM:∀ e0 e1 e3 e4 e5 e6 e7 e8 e9:Option Sl,bK 2 (vC (.int 1)) [e0,e1,vv (Mc n ts es) true,e3,e4,e5,e6,e7,e8,e9]=.ok (.val (.lst (ts.map aQ)) true []):=λ_ _ _ _ _ _ _ _ _=>by unfold Mc;simp_arith
 have hH:∀ e0 e2 e3 e4 e5 e6 e7 e8 e9:Option Sl,bK 1 (vC (.int 2)) [e0,vv (Hs ro sg RL) true,e2,e3,e4,e5,e6,e7,e8,e9]=.ok (.val (.lst (RL.map aL)) true []):=λ_ _ _ _ _ _ _ _ _=>by unfold Hs;simp_arith
 have h3:∀ e0 e1 e2 e4 e5 e6 e7 e8 e9:Option Sl,bK 3 (vC (.int 0)) [e0,e1,e2,vv (.lst [Hs ro sg RL,Mc n ts es]) true,e4,e5,e6,e7,e8,e9]=.ok (.val (Hs ro sg RL) true []):=λ_ _ _ _ _ _ _ _ _=>by simp_arith[mS]
 have h4:∀ e0 e1 e2 e4 e5 e6 e7 e8 e9:Option Sl,bK 3 (vC (.int 1)) [e0,e1,e2,vv (.lst [Hs ro sg RL,Mc n ts es]) true,e4,e5,e6,e7,e8,e9]=.ok (.val (Mc n ts es) true []):=λ_ _ _ _ _ _ _ _ _=>by simp_arith[iY]
 simp only[fR,cO,vE,j_,gR,vF,kc,kd,gS,LJ,LW,Im,Kj,Iw,Jr,List.replicate,J9,Kn,Js,Nat.reduceAdd,LX,LY,LZ,JL,Nat.reduceSub,oj,ot,tT,jc,ou,oz,oA,oB,iG,gm,bT,gE,eL,eM,b_,bU,cc,aX,c9,jZ,gF,gG,cC,c_,bV,bz,Cr,i7,JI,J7,oE,oF,oC,js,Int.reduceLT,Int.reduceLE,Int.reduceNeg,jo,jp,jq,jr,vj,vk,KC,KD,Nat.reduceLT,Nat.reduceLeDiff,vm,ol,om,oo,oq,jn,vn,vp,vq,oG,gp,gq,gr,gs,jt,gu,gv,d7,qE,jv,oH,jw,d8,cS,d9,cT,jy,gw,d_,eh,dk,eB,dn,cq,vw,oJ,jz,jA,jB,gx,gy,vx,vy,jC,jD,jE,gz,jF,oK,jG,jH,oM,oN,vz,oO,oP,oQ,jI,jJ,jK,jL,bN,Fa,Fb,Fc,gA,jM,jN,gB,gC,vA,oR,jO,jP,oS,jQ,jR,jS,jT,jU,oT,jV,iH,eF,eG,gD,eI,eJ,oU,jW,gJ,gK,gL,gM,oX,gI,Res.noX_ok,oY,Fd,Fe,Ff,Fg,Fh,Int.reduceBEq,oW,L0,Nat.reduceEqDiff,lH,oV,jX,jY,cD,cE,gH,eQ,eR,eU,eV,eY,eZ,Lw,KB,Ks,JP,Ki,Jz,KY,j3,j5,cQ,gn,gO,bm,j6,oZ,j8,vD,j9,j7,lX,bm,cU,tY,Dt,hm,hfi,fp,Cz,wR,mS,iY,hcp,ff,cq,wQ,h3,h4,hp,g8,wO,A8,hne,E8,wN,hM,k1,wM,hrows,fZ,wL,hH,k2,wK]
end W
open PySem PySem.W PyProof.Rows
def PySem.W.Vw:PySem.Program:={PySem.Challenge.pw_callwalk_k22_nothing_is_less with main:={PySem.Challenge.pw_callwalk_k22_nothing_is_less.main with body:=PySem.Challenge.pw_callwalk_k22_nothing_is_less.main.body.filter fun s=>match s with|.FunctionDef ..=>true|.ClassDef ..=>true|_=>false}}
local macro_rules | `(tactic| o_head $H) => `(tactic| refine PySem.W.holds_open (q := PySem.W.Vw) (loose := []) (Xt := fun s => PySem.W.xlAt PySem.W.Vw [] s && PySem.W.recOk (PySem.W.RowW.records PySem.Challenge.rw_callwalk_k22_nothing_is_less.row.toRowW) s) (XP := PySem.W.XL PySem.W.Vw []) (Yf := PySem.W.Hook.obs $H) (Ya := PySem.W.Hook.val $H) (YP := PySem.W.Hook.says $H) (N := 3400) (fun w => by kernel_rfl) (PySem.W.Hook.of $H) (PySem.W.Hook.keeps $H) (fun s e => PySem.W.xl_of s (Bool.and_eq_true_iff.mp e).1) PySem.W.XL.keeps (by rfl) (by rfl) (by rfl) (fun s e => PySem.W.recFacts_of (Bool.and_eq_true_iff.mp e).2) (by rfl) (by first | assumption | decide +kernel) (by decide +kernel) ⟨rfl, rfl, rfl, rfl, rfl, by decide +kernel⟩ ?_ ?_)
set_option maxRecDepth 100000 in
set_option maxHeartbeats 0 in
theorem PySem.Challenge.cw_callwalk_k22_nothing_is_less_holds : PySem.Challenge.rw_callwalk_k22_nothing_is_less.Holds := by
 w_on;o_law;k_head;(· w_witness2)
 k_fill
 refine L2.zL (l:=PySem.Challenge.rw_callwalk_k22_nothing_is_less) (n:=63) (k:=7) (x:="_law_script") (CX:=fun w=>L2.jf) (sp:=fun _=>L3.G7 W.tY) rfl (by decide) rfl ⟨rfl,by decide,by decide⟩ (fun w h Y=>PySem.W.kIn_of Y) ?kL ?F ?S ?C
 case kL=>exact fun w=>⟨by rfl,by rfl⟩
 case F=>
  intro w mg fa h KX G hmg
  refine' Exists.imp (fun _ z=>⟨z.1,fun base _ _=>z.2 base⟩) (W.Fq hmg ?_)
  refine' Exists.imp (fun _ _=>True.intro) (W.GV KX G L2.xO ?a_a ?l_a ?c_a ?a_b ?l_b ?c_b ?a_c ?l_c ?c_c ?a_d ?l_d ?c_d ?a_e ?l_e ?c_e ?a_f ?l_f ?c_f ?a_g ?l_g ?c_g ?a_h ?l_h ?c_h ?a_i ?l_i ?c_i ?a_j ?l_j ?c_j ?a_k ?l_k ?c_k ?a_l ?l_l ?c_l ?a_m ?l_m ?c_m ?a_n ?l_n ?c_n ?z_all ?z_dict ?z_divmod ?z_enumerate ?z_int ?z_isinstance ?z_len ?z_list ?z_min ?z_range ?z_set ?z_sorted ?z_tuple ?b_Queue ?pgQ ?hdQ ?poQ ?saQ ?mkQ ?kcQ ?naQ_last ?naQ_piles ?b_Pricing ?pgP ?hdP ?poP ?saP ?mkP ?kcP ?naP_rules ?naP_told ?naP_offers ?naP_settled ?naP_lacking ?aM_QI ?iM_QI ?l_o ?c_o ?kp_QI ?aM_QA ?iM_QA ?l_p ?c_p ?kp_QA ?aM_QE ?iM_QE ?l_q ?c_q ?kp_QE ?aM_QT ?iM_QT ?l_r ?c_r ?kp_QT ?aM_PI ?iM_PI ?l_s ?c_s ?kp_PI ?aM_PO ?iM_PO ?l_t ?c_t ?kp_PO ?aM_PS ?iM_PS ?l_u ?c_u ?kp_PS ?aM_PF ?iM_PF ?l_v ?c_v ?kp_PF ?aM_PA ?iM_PA ?l_w ?c_w ?kp_PA)
  (case a_a=>k_is)
  (case l_a=>k_is)
  (case c_a=>k_is)
  (case a_b=>k_is)
  (case l_b=>k_is)
  (case c_b=>k_is)
  (case a_c=>k_is)
  (case l_c=>k_is)
  (case c_c=>k_is)
  (case a_d=>k_is)
  (case l_d=>k_is)
  (case c_d=>k_is)
  (case a_e=>k_is)
  (case l_e=>k_is)
  (case c_e=>k_is)
  (case a_f=>k_is)
  (case l_f=>k_is)
  (case c_f=>k_is)
  (case a_g=>k_is)
  (case l_g=>k_is)
  (case c_g=>k_is)
  (case a_h=>k_is)
  (case l_h=>k_is)
  (case c_h=>k_is)
  (case a_i=>k_is)
  (case l_i=>k_is)
  (case c_i=>k_is)
  (case a_j=>k_is)
  (case l_j=>k_is)
  (case c_j=>k_is)
  (case a_k=>k_is)
  (case l_k=>k_is)
  (case c_k=>k_is)
  (case a_l=>k_is)
  (case l_l=>k_is)
  (case c_l=>k_is)
  (case a_m=>k_is)
  (case l_m=>k_is)
  (case c_m=>k_is)
  (case a_n=>k_is)
  (case l_n=>k_is)
  (case c_n=>k_is)
  (case z_all=>k_is)
  (case z_dict=>k_is)
  (case z_divmod=>k_is)
  (case z_enumerate=>k_is)
  (case z_int=>k_is)
  (case z_isinstance=>k_is)
  (case z_len=>k_is)
  (case z_list=>k_is)
  (case z_min=>k_is)
  (case z_range=>k_is)
  (case z_set=>k_is)
  (case z_sorted=>k_is)
  (case z_tuple=>k_is)
  (case b_Queue=>k_is)
  (case pgQ=>k_is)
  (case hdQ=>k_is)
  (case poQ=>k_is)
  (case saQ=>k_is)
  (case mkQ=>k_is)
  (case kcQ=>k_is)
  (case naQ_last=>k_is)
  (case naQ_piles=>k_is)
  (case b_Pricing=>k_is)
  (case pgP=>k_is)
  (case hdP=>k_is)
  (case poP=>k_is)
  (case saP=>k_is)
  (case mkP=>k_is)
  (case kcP=>k_is)
  (case naP_rules=>k_is)
  (case naP_told=>k_is)
  (case naP_offers=>k_is)
  (case naP_settled=>k_is)
  (case naP_lacking=>k_is)
  (case aM_QI=>k_is)
  (case iM_QI=>k_is)
  (case l_o=>k_is)
  (case c_o=>k_is)
  (case kp_QI=>k_is)
  (case aM_QA=>k_is)
  (case iM_QA=>k_is)
  (case l_p=>k_is)
  (case c_p=>k_is)
  (case kp_QA=>k_is)
  (case aM_QE=>k_is)
  (case iM_QE=>k_is)
  (case l_q=>k_is)
  (case c_q=>k_is)
  (case kp_QE=>k_is)
  (case aM_QT=>k_is)
  (case iM_QT=>k_is)
  (case l_r=>k_is)
  (case c_r=>k_is)
  (case kp_QT=>k_is)
  (case aM_PI=>k_is)
  (case iM_PI=>k_is)
  (case l_s=>k_is)
  (case c_s=>k_is)
  (case kp_PI=>k_is)
  (case aM_PO=>k_is)
  (case iM_PO=>k_is)
  (case l_t=>k_is)
  (case c_t=>k_is)
  (case kp_PO=>k_is)
  (case aM_PS=>k_is)
  (case iM_PS=>k_is)
  (case l_u=>k_is)
  (case c_u=>k_is)
  (case kp_PS=>k_is)
  (case aM_PF=>k_is)
  (case iM_PF=>k_is)
  (case l_v=>k_is)
  (case c_v=>k_is)
  (case kp_PF=>k_is)
  (case aM_PA=>k_is)
  (case iM_PA=>k_is)
  (case l_w=>k_is)
  (case c_w=>k_is)
  (case kp_PA=>k_is)
 case S=>exact fun w H a ns hl hS=>L3.EE (fun ns hn=>⟨_,_,W.FA ns hn⟩) H a ns hl hS
 case C=>exact fun _ _ _ _ _ z=>z
