import PyProof.Rows.All
import Wide.All
import OpenK.AllK
import Wide.FinOn
import Lean
import PyProof.EqAt
import PyProof.EqKinds
import PyProof.TupleCall
import PyProof.ZipIter
import PyProof.AttrMissHeap
import PyProof.Walks
import PyProof.WalksS
import PySem.SetTable
import KE.KSortTup
import KE.KRevIter
import PyProof.Rows.SetFrom
import PyProof.CollectWalk
import PyProof.DictWalks
import PyProof.DictItems
import KE.KDictList
import PyProof.ListRange
import PyProof.EqAt
import PyProof.WalkInts
import PyProof.StrBlockG
import PyProof.SumWalk
import PyProof.Rows.TupIter
import PyProof.StrLawsIdx
import PyProof.CallStr
import PyProof.StrCalls2
import PyProof.StrWalks
import KE.KIntText
import PyProof.SetRoads
import PyProof.StrLawsTight
import PyProof.Rows.FStr
import PyProof.SumAny
import PyProof.Draws
import PyProof.EnumMake
import PyProof.ConsumeWalk
import PySem.Challenge.RW_callwalk_k21_prices_have_reasons
set_option autoImplicit true
set_option Elab.async false
set_option linter.all false
set_option genSizeOf false
set_option genSizeOfSpec false
set_option compiler.extract_closed false
set_option maxRecDepth 100000
set_option maxHeartbeats 4000000
set_option bootstrap.genMatcherCode false
noncomputable section
abbrev J4:=@PySem.wpAny_bind
abbrev J5:=@PySem.Heap.get?_push_of_some
abbrev J6:=@Nat.le_refl
abbrev J7:=@PySem.wpAny_pure
abbrev J8:=@List.mem_cons_of_mem
abbrev J9:=@List.length_map
abbrev J_:=@if_neg
abbrev Ka:=@if_pos
abbrev Kb:=@List.mem_cons
abbrev Kc:=@List.map_cons
abbrev Ke:=@List.getElem?_eq_some_iff
abbrev Kf:=@List.size_toArray
abbrev Kg:=@List.mem_map
abbrev Kh:=@PySem.Heap.get?_push_size
abbrev Ki:=@decide_eq_true
abbrev Kj:=@List.mem_cons_self
abbrev Kk:=@PySem.Heap.lt_size
abbrev Kl:=@List.length_cons
abbrev Km:=@List.mem_singleton
abbrev Kn:=@List.mem_iff_getElem?
abbrev Ko:=@List.not_mem_nil
abbrev Kp:=@List.length_append
abbrev Kq:=@Bool.false_eq_true
abbrev Kr:=@List.mem_append
abbrev Ks:=@List.getElem?_map
abbrev Kt:=@Nat.ne_of_lt
abbrev Ku:=@Nat.le_trans
abbrev Kv:=@decide_eq_false
abbrev Kw:=@List.pairwise_iff_getElem
abbrev Kx:=@Option.some.inj
abbrev Ky:=@Bool.and_eq_true
abbrev Kz:=@Nat.lt_of_lt_of_le
abbrev KA:=@List.mem_range
abbrev KB:=@List.nodup_cons
abbrev KC:=@List.mem_append_left
abbrev KD:=@List.mem_append_right
abbrev KE:=@Array.getElem?_toList
abbrev KF:=@Nat.zero_le
abbrev KG:=@List.getElem?_set_self
abbrev KH:=@PySem.W.mg_none_of
abbrev KI:=@List.nodup_nil
abbrev KJ:=@List.getElem?_append_right
abbrev KL:=@PySem.sizeLine_eq
abbrev KM:=@List.map_map
abbrev KN:=@Bool.false_ne_true
abbrev KO:=@Nat.lt_of_le_of_lt
abbrev KP:=@List.length_set
abbrev KQ:=@List.getElem?_eq_getElem
abbrev KR:=@List.getElem?_set_ne
abbrev KS:=@PySem.wpAny_call_entry
abbrev KU:=@List.length_nil
abbrev KW:=@List.append_nil
abbrev KY:=@PySem.F.plainAttrs_dict
abbrev KZ:=@PySem.W.mg_of
abbrev K1:=@Option.map_eq_some_iff
abbrev K3:=@List.mem_of_getElem?
abbrev K4:=@Bool.not_true
abbrev K5:=@PyProof.Rows.slot_tuple_getitem
abbrev K6:=@PySem.wpAny_newObj_type
abbrev K7:=@of_decide_eq_true
abbrev K8:=@if_false
abbrev K9:=@Ne.symm
abbrev K_:=@Array.length_toList
abbrev La:=@PySem.Heap.SameBut.update
abbrev Lb:=@List.getElem?_cons_zero
abbrev Lc:=@List.mem_filter
abbrev Ld:=@List.all_eq_true
abbrev Le:=@PySem.F.slot_dict_itemiterator_next
abbrev Lf:=@Classical.byContradiction
abbrev Lg:=@List.take_of_length_le
abbrev Lh:=@PySem.F.slot_dict_setdefault
abbrev Li:=@beq_eq_false_iff_ne
abbrev Lj:=@PySem.W.kia_one
abbrev Ll:=@List.map_append
abbrev Lm:=@Nat.zero_add
abbrev Ln:=@List.map_congr_left
abbrev Lo:=@Bool.false_and
abbrev Lp:=@PySem.wpAny_truthy_bool
abbrev Lq:=@PySem.wpAny_setState_of
abbrev Lr:=@List.length_range
abbrev Ls:=@List.getElem?_cons_succ
abbrev Lu:=@Array.getElem?_eq_some_iff
abbrev Lw:=@List.mem_of_mem_take
abbrev Lx:=@List.map_nil
abbrev Ly:=@Int.emod_lt_of_pos
abbrev Lz:=@List.getElem?_append_left
abbrev LA:=@PyProof.Rows.F.plain_set_update_loop
abbrev LB:=@Nat.shiftRight_eq_div_pow
abbrev LC:=@PySem.wpAny_holding
abbrev LD:=@List.cons_append
abbrev LF:=@PySem.Heap.get?_update_self
abbrev LG:=@PyProof.Rows.callWith_type1
abbrev LH:=@PySem.wpAny_callSpecial?_slot
abbrev LI:=@List.find?_cons
abbrev LJ:=@PySem.tupleKind_room_in1
abbrev LK:=@Bool.and_self
abbrev LL:=@List.length_eq_zero_iff
abbrev LM:=@List.nil_append
abbrev LN:=@Int.eq_ofNat_of_zero_le
abbrev LO:=@PySem.wpAny_mono
abbrev LP:=@List.length_take
abbrev LQ:=@congrArg
abbrev LR:=@PySem.Calls.callWith_builtin
abbrev LS:=@PySem.Heap.get?_update_other
abbrev LU:=@PySem.mem_of_lookup
abbrev LV:=@List.pairwise_map
abbrev LW:=@Bool.and_false
abbrev LX:=@PySem.F.slot_dict_get
abbrev LY:=@Int.emod_nonneg
abbrev LZ:=@List.getElem?_eq_none
abbrev L0:=@PySem.wpAny_typeNameOfWhole_itemiter
abbrev L1:=@beq_iff_eq
abbrev L5:=@List.pairwise_cons
abbrev L6:=@List.Pairwise.imp_of_mem
abbrev L7:=@PySem.F.slot_list_append
abbrev L8:=@PySem.F.type_list_append
abbrev L9:=@List.set_cons_zero
abbrev L_:=@List.set_cons_succ
abbrev Mb:=@if_true
abbrev Md:=@Bool.true_and
abbrev Me:=@PySem.F.plainAttrs_list
abbrev Mf:=@Nat.add_sub_cancel_left
abbrev Mg:=@PySem.F.type_dict_setdefault
abbrev Mh:=@List.Perm.refl
abbrev Mi:=@List.nodup_append
abbrev Mj:=@List.append_assoc
abbrev Ml:=@List.flatMap_cons
abbrev Mm:=@Bool.eq_iff_iff
abbrev Mn:=@List.foldl_cons
abbrev Mo:=@Nat.lt_succ_self
abbrev Mp:=@List.nodup_range
abbrev Mq:=@PySem.Calls.spliced_cons
abbrev Mr:=@List.take_append_drop
abbrev Ms:=@PySem.Heap.size_push
abbrev Mv:=@Bool.not_false
abbrev Mw:=@PySem.wpAny_typeNameOf_itemiter
abbrev Mx:=@PySem.Calls.evalArgs_plain
abbrev My:=@List.mem_of_mem_drop
abbrev Mz:=@PySem.wpAny_passesOwn
abbrev MA:=@PySem.Value.ref.injEq
abbrev MB:=@Nat.lt_succ_of_lt
abbrev MC:=@List.foldl_append
abbrev ME:=@decide_eq_true_eq
abbrev MF:=@PySem.PassesOwn.never
abbrev MG:=@Int.le_trans
abbrev MH:=@Nat.lt_irrefl
abbrev MI:=@List.filterMap_cons
abbrev MJ:=@List.getElem?_replicate
abbrev MK:=@List.any_cons
abbrev ML:=@Prod.mk.injEq
abbrev MM:=@List.length_drop
abbrev MN:=@List.lookup_cons
abbrev MO:=@PySem.F.entry_dict_get
abbrev MP:=@List.length_pos_of_mem
abbrev MQ:=@List.mem_filterMap
abbrev MR:=@PySem.wpAny_Call_Name_kw
abbrev MS:=@PySem.wpAny_setField_rec
abbrev MT:=@List.length_singleton
abbrev MU:=@PySem.codeAny_builtin
abbrev MV:=@PySem.wpAny_pyIter_list
abbrev MW:=@PySem.Calls.spliced_nil
abbrev MX:=@List.take_add_one
abbrev MY:=@Bool.and_true
abbrev MZ:=@Int.fdiv_eq_ediv_of_nonneg
abbrev M7:=@PySem.Obj.data_mapDictKeys
abbrev M8:=@List.mem_iff_getElem
abbrev M9:=@List.getElem?_zip_eq_some
abbrev M_:=@PyProof.Rows.F.entry_set_update_loop
abbrev Na:=@Nat.mul_le_mul
abbrev Nb:=@List.filter_cons
abbrev Nc:=@PySem.Heap.SameBut.extBut
abbrev Nd:=@decide_true
abbrev Nf:=@List.length_flatMap
abbrev Ng:=@Nat.le_of_lt
abbrev Nh:=@Nat.ne_of_gt
abbrev Ni:=@PySem.call_meetsIn
abbrev Nj:=@List.length_erase_of_mem
abbrev Nk:=@decide_false
abbrev Nl:=@Nat.max_self
abbrev Nm:=@Nat.zero_max
abbrev Nn:=@Nat.max_zero
abbrev Np:=@Bool.not_not
abbrev Nq:=@PySem.Paired.length
abbrev Nr:=@PySem.W.KasT.kasWp_bind
abbrev Nt:=@List.filter_cons_of_neg
abbrev Nu:=@List.filter_cons_of_pos
abbrev Nv:=@PySem.wpAny_isOneOf_itemiter
abbrev Nw:=@Int.toNat_natCast
abbrev Nx:=@PySem.wpAny_field
abbrev Ny:=@Option.isSome_map
abbrev Nz:=@Nat.lt_trichotomy
abbrev NA:=@bne_self_eq_false
abbrev NB:=@PySem.wpAny_pyIter_slot
abbrev NC:=@List.ext_getElem?
abbrev ND:=@PySem.wpAny_dictEntries
abbrev NE:=@Prod.mk.inj
abbrev NF:=@Prod.ext
abbrev NG:=@PySem.codeAny_mono
abbrev NH:=@List.length_replicate
abbrev NI:=@PySem.wpAny_typeOf
abbrev NJ:=@PySem.F.args_dict_setdefault_3
abbrev NK:=@PySem.wpAny_notOrdered_dict
abbrev NL:=@List.set_getElem_self
abbrev NM:=@Int.le_of_lt
abbrev NN:=@PySem.F.entry_dict_setdefault
abbrev NO:=@List.getElem_mem
abbrev NP:=@List.eq_nil_of_length_eq_zero
abbrev NQ:=@List.mem_erase_of_ne
abbrev NR:=@List.pairwise_append
abbrev NS:=@PySem.Around.under_plainId
abbrev NT:=@List.length_take_le'
abbrev NU:=@List.sum_cons
abbrev NV:=@PySem.wpAny_execs_nil
abbrev NW:=@PySem.W.plainGet_of
abbrev NY:=@Nat.add_le_add_left
abbrev NZ:=@List.getElem?_range
abbrev N0:=@Bool.or_eq_true
abbrev N1:=@List.length_pos_iff
abbrev N2:=@Nat.mul_le_mul_left
abbrev N3:=@PySem.W.of_hideAll
abbrev N4:=@Nat.le_of_eq
abbrev N5:=@PySem.W.callWith_K
abbrev N6:=@Nat.lt_or_gt_of_ne
abbrev N7:=@PySem.wpAny_setField
abbrev N8:=@PySem.boot_len
abbrev N9:=@PySem.W.kitx_dict
abbrev N_:=@Nat.le_of_lt_succ
abbrev Oa:=@List.getElem?_inj
abbrev Ob:=@Sum.inl.inj
abbrev Oc:=@Sum.inr.inj
abbrev Od:=@Int.le_refl
abbrev Oe:=@Nat.mul_add
abbrev Of:=@Nat.le_of_not_lt
abbrev Og:=@List.any_eq_true
abbrev Oh:=@List.perm_middle
abbrev Oi:=@Nat.add_comm
abbrev Oj:=@Nat.mod_lt
abbrev Ol:=@or_false
abbrev Om:=PySem.Shared
abbrev On:=PySem.W.Frag
abbrev Oo:=PySem.Program
abbrev Oq:=PySem.Value
abbrev Os:=PySem.Around
theorem Oy (h : True := by rfl) : True := h
theorem Ot (h : True := by decide) : True := h
theorem Ow (h : ∀ u : Unit, u = u := by intro _; rfl) : True := True.intro
theorem Ou (h : True := by first|exact .inl rfl|exact .inr rfl|assumption) : True := h
theorem Ov (h : True := by first|exact Or.inl rfl|exact Or.inr (Or.inl rfl)|exact Or.inr (Or.inr rfl)) : True := h
theorem Ox (h : True := by intro _ _; rfl) : True := h

namespace L2
open PySem PySem.Spec PyProof.Rows
noncomputable abbrev Key:=Sum Int Str
noncomputable def lb:Key->Oq->Bool
 | .inl k,v=>Value.isInt k v
 | .inr x,v=>Value.isStrOf x v
noncomputable def Je (w:World):Key->Int
 | .inl k=>hashInt k
 | .inr x=>hashStr w x
theorem aX:∀{k:Key}{v:Oq},lb k v=true->(∃ i t,k=Sum.inl i/\v=Value.int i t)\/(∃ x t,k=Sum.inr x/\v=Value.str x t)
 | .inl i,v,h=>by obtain⟨t,e⟩:=Value.isInt_shape (k:=i) (v:=v) h;exact .inl ⟨i,t,rfl,e⟩
 | .inr x,v,h=>by obtain⟨t,e⟩:=Value.isStrOf_shape (x:=x) (v:=v) h;exact .inr ⟨x,t,rfl,e⟩
theorem yM (i:Int)(t:Tok):lb (.inl i) (.int i t)=true:=by simp[lb,Value.isInt]
theorem yN (x:Str)(t:Tok):lb (.inr x) (.str x t)=true:=by simp[lb,Value.isStrOf]
theorem Fk (a b:Int):decide ((Sum.inl a:Key)=Sum.inl b)=(a==b):=by
 by_cases e:a=b
 .subst e;simp
 .have h:¬ (Sum.inl a:Key)=Sum.inl b:=λq=>e (Ob q);rw[Kv h];exact(Li.mpr e).symm
theorem Fm (a b:Str):decide ((Sum.inr a:Key)=Sum.inr b)=decide (a=b):=by
 by_cases e:a=b
 .subst e;simp
 .have h:¬ (Sum.inr a:Key)=Sum.inr b:=λq=>e (Oc q);rw[Kv h,Kv e]
theorem Fo (a:Int)(b:Str):decide ((Sum.inl a:Key)=Sum.inr b)=false:=Kv (λq=>nomatch q)
theorem Fp (a:Str)(b:Int):decide ((Sum.inr a:Key)=Sum.inl b)=false:=Kv (λq=>nomatch q)
noncomputable def aE (prog:Oo)(w:World):PySem.KeyKind prog w Key where
 is:=lb
 hash:=Je w
 inj:=λv a b ha hb=>by
  rcases aX ha with⟨i,t,rfl,rfl⟩|⟨x,t,rfl,rfl⟩
  .rcases aX hb with⟨j,u,rfl,e⟩|⟨y,u,rfl,e⟩
   .injection e with e1 _;rw[e1]
   .exact nomatch e
  .rcases aX hb with⟨j,u,rfl,e⟩|⟨y,u,rfl,e⟩
   .exact nomatch e
   .injection e with e1 _;rw[e1]
 byValue:=λk v h=>by rcases aX h with⟨i,t,rfl,rfl⟩|⟨x,t,rfl,rfl⟩<;>rfl
 pyHash:=λhv h=>by
  rcases aX hv with⟨i,t,rfl,rfl⟩|⟨x,t,rfl,rfl⟩
  .exact wpAny_pyHash_int h
  .exact wpAny_pyHash_str h
 eqBool:=λhu hv h=>by
  rcases aX hu with⟨i,t,rfl,rfl⟩|⟨x,t,rfl,rfl⟩
  .rcases aX hv with⟨j,u,rfl,rfl⟩|⟨y,u,rfl,rfl⟩
   .rw[Fk]at h;exact wpAny_eqBool_int h
   .rw[Fo]at h;exact SeqAt.EqAt.int_str i t y u _ _ _ _ h
  .rcases aX hv with⟨j,u,rfl,rfl⟩|⟨y,u,rfl,rfl⟩
   .rw[Fp]at h;exact SeqAt.EqAt.str_int x t j u _ _ _ _ h
   .rw[Fm]at h;exact wpAny_eqBool_str h
 «strs»:=λk x t v h=>by
  rcases aX h with⟨i,u,rfl,e⟩|⟨y,u,rfl,e⟩
  .exact nomatch e
  .injection e with e1 _;subst e1;cases v<;>rfl
theorem tV (prog:Oo)(w:World)(i:Int)(t:Tok):(aE prog w).is (.inl i) (.int i t)=true:=yM i t
theorem tW (prog:Oo)(w:World)(x:Str)(t:Tok):(aE prog w).is (.inr x) (.str x t)=true:=yN x t
inductive V where
 |non|bl (b:Bool)|int (i:Int)|str (x:Str)|byt (b:Array UInt8)|flt (b:UInt64)|ref (a:Addr)|ty (n:String)
 deriving DecidableEq
noncomputable def RelV:V->Oq->Prop
 | .non,u=>u=Value.none
 | .bl b,u=>u=Value.bool b
 | .int i,u=>∃ t,u=Value.int i t
 | .str x,u=>∃ t,u=Value.str x t
 | .byt b,u=>∃ t,u=Value.bytes b t
 | .flt b,u=>∃ t,u=Value.float b t
 | .ref a,u=>u=Value.ref a
 | .ty n,u=>u=Value.type n
noncomputable abbrev Vals:List V->List Oq->Prop:=Paired RelV
theorem Vals.length {xs:List V}{us:List Oq}(r:Vals xs us):xs.length=us.length:=Nq r
theorem Vals.get:∀{xs:List V}{us:List Oq}{i:Nat}{x:V},Vals xs us->xs[i]?=some x->∃ u,us[i]?=some u/\RelV x u
 |_,_,_,_,.nil,e=>by simp at e
 |_,_,0,_,.cons r _,e=>by simp at e;subst e;exact⟨_,rfl,r⟩
 |_,_,i+1,x,.cons _ t,e=>by obtain⟨u,h1,h2⟩:=Vals.get (i:=i) (x:=x) t (by simpa using e);exact⟨u,by simpa using h1,h2⟩
theorem Vals.append:∀{xs ys:List V}{us ws:List Oq},Vals xs us->Vals ys ws->Vals (xs++ys) (us++ws)
 |_,_,_,_,.nil,s=>s
 |_,_,_,_,.cons r t,s=>.cons r (Vals.append t s)
theorem Vals.take:∀{xs:List V}{us:List Oq}(n:Nat),Vals xs us->Vals (xs.take n) (us.take n)
 |_,_,0,_=>.nil
 |_,_,_+1,.nil=>.nil
 |_,_,n+1,.cons r t=>.cons r (Vals.take n t)
theorem Vals.drop:∀{xs:List V}{us:List Oq}(n:Nat),Vals xs us->Vals (xs.drop n) (us.drop n)
 |_,_,0,r=>r
 |_,_,_+1,.nil=>.nil
 |_,_,n+1,.cons _ t=>Vals.drop n t
noncomputable def RelO:Option V->Option Oq->Prop
 |some v,some u=>RelV v u
 |none,none=>True
 |_,_=>False
noncomputable def KV {κ:Type}:List (κ×V)->List (κ×Oq)->Prop:=Paired λ(p:κ×V)(q:κ×Oq)=>p.1=q.1/\RelV p.2 q.2
noncomputable def kV:Key->V
 | .inl i=>.int i
 | .inr x=>.str x
inductive HO where
  
 |lst (xs:List V)
  
 |tup (xs:List V)
  
 |dK (kvs:List (Key×V))|dT (kvs:List (List Key×V))
  
 |set (S:Int->Bool) (n:Nat)
  
 |ins (C dx:Addr) (fs:List (Str×V))
  
 |own (x:Addr)
  
 |xd (fs:List (Str×V))
  
 |met (f x:Addr)
  
 |rng (lo hi:Int)
  
 |frz (o:Obj) (u:HO)
  
 |tbl (ps:Array Oq)
  
 |ext (φ:Heap->Prop)
noncomputable abbrev Hp:=Addr->Option HO
noncomputable def aI (H:Hp)(a:Addr)(o:HO):Hp:=λb=>if b=a then some o else H b
theorem af {H:Hp}{a:Addr}{o:HO}:aI H a o a=some o:=by unfold aI;rw[Ka rfl]
theorem ac {H:Hp}{a b:Addr}{o:HO}(h:b≠a):aI H a o b=H b:=by unfold aI;rw[J_ h]
theorem Ak {H:Hp}{a b:Addr}{o u:HO}(h:H a=some o)(h':H b=some u)(d:o≠u):a≠b:=by intro e;subst e;rw[h]at h';exact d (Kx h')
theorem ah {H:Hp}{a b:Addr}{o:HO}(h:H a=some o)(h':H b=none):a≠b:=by intro e;subst e;rw[h]at h';cases h'
section
variable (P:Oo)(w:World)
noncomputable def ObjOk (H:Hp)(h:Heap)(a:Addr):HO->Prop
 | .lst xs=>xs.length<=sizeLine/\∃(its:List Oq)(n:Nat),Vals xs its/\h.get? a=some { cls:=.type "list",data:=.seq its.toArray n }
 | .tup xs=>xs.length<=sizeLine/\∃ its:List Oq,Vals xs its/\IsTup h a its.toArray
 | .dK kvs=>kvs.length<=sizeLine/\(a==sysModules)=false/\∃ vs,KV kvs vs/\h.DictOf (aE P w) a vs
 | .dT kvs=>kvs.length<=sizeLine/\(a==sysModules)=false/\∃ xs:List (List Key×Addr×Oq),
  Paired (λ(p:List Key×V)(q:List Key×Addr×Oq)=>p.1=q.1/\H q.2.1=some (.tup (p.1.map kV))/\RelV p.2 q.2.2) kvs xs/\
  ∃ o es ep,h.get? a=some o/\o.ExactDict/\o.data=.dict es ep/\es.toList=xs.map (entryOfKey (tupleKind (aE P w)))/\(xs.map (·.1)).Nodup
 | .set S n=>h.SetOf (intKind P w) a S n
 | .ins C dx fs=>H dx=some (.own a)/\fs.length<=1000/\dx≠a/\h.get? a=some (PySem.W.instObj C dx)/\
  ∃ mA,h.Ns1 dx mA/\(∀ f,RelO (fs.lookup f) (mA f))/\PySem.Within mA (fs.map (·.1))
 | .own _=>∃ o,h.get? a=some o
 | .xd fs=>∃ mA,h.Ns1 a mA/\∀ f,RelO (fs.lookup f) (mA f)
 | .rng lo hi=>∃ t u v,h.get? a=some { cls:=.type "range",data:=.fields #[.int lo t,.int hi u,.int 1 v] }
 | .frz o u=>h.get? a=some o/\ObjOk H h a u
 | .tbl ps=>h.get? a=some { cls:=.none,data:=.fields ps }
 | .met f x=>h.get? a=some (PySem.W.methodObj (.ref f) (.ref x))
 | .ext φ=>φ h/\(∃ o,h.get? a=some o)/\∀ h1 h2:Heap,φ h1->(∀ o,h1.get? a=some o->h2.get? a=some o)->φ h2
def HOk (H:Hp)(h:Heap):Prop:=∀ a o,H a=some o->ObjOk P w H h a o
end
section
variable {P:Oo}{w:World}{H H':Hp}{h h':Heap}{a:Addr}{o:HO}
theorem ObjOk.lt (x:ObjOk P w H h a o):a<h.objs.size:=by
 cases o with
 |lst xs=>obtain⟨_,_,_,_,e⟩:=x;exact Kk e
 |tup xs=>obtain⟨_,_,_,p⟩:=x;exact p.lt
 |dK kvs=>obtain⟨_,_,_,_,o,_,_,e,_⟩:=x;exact Kk e
 |dT kvs=>obtain⟨_,_,_,_,o,_,_,e,_⟩:=x;exact Kk e
 |set S n=>obtain⟨o,_,_,_,e,_⟩:=x;exact Kk e
 |ins C dx fs=>obtain⟨_,_,_,e,_⟩:=x;exact Kk e
 |own y=>obtain⟨_,e⟩:=x;exact Kk e
 |xd fs=>obtain⟨_,⟨_,_,_,e,_⟩,_⟩:=x;exact Kk e
 |rng lo hi=>obtain⟨_,_,_,e⟩:=x;exact Kk e
 |frz J u=>obtain⟨e,_⟩:=x;exact Kk e
 |tbl ps=>exact Kk (show h.get? a=some _ from x)
 |met f y=>exact Kk (show h.get? a=some _ from x)
 |ext φ=>obtain⟨_,⟨_,e⟩,_⟩:=x;exact Kk e
theorem Paired.mapP {α β:Type}{F G:α->β->Prop}:∀{l₁:List α}{J:List β},Paired F l₁ J->(∀ a b,F a b->G a b)->Paired G l₁ J
 |_,_,.nil,_=>.nil
 |_,_,.cons r t,f=>.cons (f _ _ r) (Paired.mapP t f)
theorem ObjOk.stay (x:ObjOk P w H h a o)(k:∀ b u,(b=a\/H b=some (.own a))->h.get? b=some u->h'.get? b=some u)
 (L:∀ b,H b=some (.own a)->H' b=some (.own a)) (O:∀ b xs,H b=some (.tup xs)->H' b=some (.tup xs)):ObjOk P w H' h' a o:=by
 induction o with
 |lst xs=>obtain⟨z,its,n,r,e⟩:=x;exact⟨z,its,n,r,k _ _ (.inl rfl) e⟩
 |tup xs=>obtain⟨z,its,r,J,e,c⟩:=x;exact⟨z,its,r,J,k _ _ (.inl rfl) e,c⟩
 |dK kvs=>obtain⟨z,y,vs,r,J,es,ep,e,c⟩:=x;exact⟨z,y,vs,r,J,es,ep,k _ _ (.inl rfl) e,c⟩
 |dT kvs=>obtain⟨z,y,xs,r,J,es,ep,e,c⟩:=x;exact⟨z,y,xs,Paired.mapP r λp q z=>⟨z.1,O _ _ z.2.1,z.2.2⟩,J,es,ep,k _ _ (.inl rfl) e,c⟩
 |set S n=>obtain⟨J,es,ep,t,e,c⟩:=x;exact⟨J,es,ep,t,k _ _ (.inl rfl) e,c⟩
 |ins C dx fs=>obtain⟨d,z,ne,e,mA,⟨od,es,ep,e2,c⟩,r⟩:=x;exact⟨L _ d,z,ne,k _ _ (.inl rfl) e,mA,⟨od,es,ep,k _ _ (.inr d) e2,c⟩,r⟩
 |own y=>obtain⟨J,e⟩:=x;exact⟨J,k _ _ (.inl rfl) e⟩
 |xd fs=>obtain⟨mA,⟨od,es,ep,e,c⟩,r⟩:=x;exact⟨mA,⟨od,es,ep,k _ _ (.inl rfl) e,c⟩,r⟩
 |rng lo hi=>obtain⟨t,u,v,e⟩:=x;exact⟨t,u,v,k _ _ (.inl rfl) e⟩
 |frz J u Y=>obtain⟨e,q⟩:=x;exact⟨k _ _ (.inl rfl) e,Y q⟩
 |tbl ps=>have e:h.get? a=some { cls:=.none,data:=.fields ps }:=x;show h'.get? a=some { cls:=.none,data:=.fields ps };exact k a _ (.inl rfl) e
 |met f y=>have e:h.get? a=some (PySem.W.methodObj (.ref f) (.ref y)):=x;show h'.get? a=some (PySem.W.methodObj (.ref f) (.ref y));exact k a _ (.inl rfl) e
 |ext φ=>obtain⟨p,⟨o,e⟩,st⟩:=x;exact⟨st _ _ p λo q=>k _ _ (.inl rfl) q,⟨o,k _ _ (.inl rfl) e⟩,st⟩
theorem HOk.lt (x:HOk P w H h)(e:H a=some o):a<h.objs.size:=(x a o e).lt
theorem HOk.fresh (x:HOk P w H h)(e:h.objs.size<=a):H a=none:=by
 cases q:H a with
 |none=>rfl
 |some u=>exact absurd (Kz (x.lt q) e) (MH _)
theorem HOk.kept (x:HOk P w H h)(k:∀ b u,h.get? b=some u->h'.get? b=some u):HOk P w H h':=λa o e=>(x a o e).stay (λb u _ q=>k b u q) (λ_ q=>q) λ_ _ q=>q
theorem HOk.laid (x:HOk P w H h)(k:∀ b u,h.get? b=some u->h'.get? b=some u)(L:h.objs.size<=a)(new:ObjOk P w (aI H a o) h' a o):HOk P w (aI H a o) h':=λb u e=>by
 have hn:=x.fresh L;by_cases J:b=a
 .subst J;rw[af]at e;cases e;exact new
 .rw[ac J]at e;exact(x b u e).stay (λc v _ q=>k c v q) (λc q=>by rw[ac (ah q hn)];exact q) λc xs q=>by rw[ac (ah q hn)];exact q
end
def Rd (H:Hp)(a:Addr)(u:HO):Prop:=H a=some u\/∃ o,H a=some (.frz o u)
theorem Rd.ok {P:Oo}{w:World}{H:Hp}{h:Heap}{a:Addr}{u:HO}(r:Rd H a u)(x:HOk P w H h):ObjOk P w H h a u:=by
 rcases r with r|⟨o,r⟩
 .exact x a u r
 .obtain⟨_,q⟩:=x a _ r;exact q
noncomputable def Hf:Option HO->Prop
 |some (.lst _)=>True
 |some (.dK _)=>True
 |some (.dT _)=>True
 |some (.set _ _)=>True
 |some (.ins _ _ _)=>True
 |some (.ext _)=>True
 |_=>False
section
variable {P:Oo}{w:World}{H:Hp}{h h':Heap}{x e:Addr}{o':HO}
theorem HOk.write (ok:HOk P w H h)(W:Hf (H x))(he:e=x\/H e=some (.own x))(k:∀ b u,b≠e->h.get? b=some u->h'.get? b=some u)(Z:∃ u,h'.get? e=some u)
 (new:ObjOk P w (aI H x o') h' x o'):HOk P w (aI H x o') h':=λb u q=>by
 have L:∀ c y,H c=some (.own y)->c≠x:=λc y r z=>by subst z;rw[r]at W;exact W
 have O:∀ c xs,H c=some (.tup xs)->c≠x:=λc xs r z=>by subst z;rw[r]at W;exact W
 by_cases Y:b=x
 .subst Y;rw[af]at q;cases q;exact new
 .rw[ac Y]at q;by_cases J:b=e
  .have q':H b=some (.own x):=by
    rcases he with z|z
    .exact absurd (J.trans z) Y
    .rw[J];exact z
   rw[q]at q';cases q';obtain⟨v,hv⟩:=Z;exact⟨v,by rw[J];exact hv⟩
  .refine(ok b u q).stay (λc v hc r=>k c v ?_ r) (λc r=>by rw[ac (L c b r)];exact r) λc xs r=>by rw[ac (O c xs r)];exact r
   rcases hc with rfl|hc
   .exact J
   .rintro rfl;rcases he with z|z
    .exact L c b hc z
    .rw[hc]at z;cases z;exact Y rfl
end
def Qt (H:Hp)(b:Addr):Prop:=H b=none\/∃ xs,H b=some (.tup xs)
structure Un (fs ex:List Addr) (H H':Hp) (h h':Heap):Prop where
 keep:∀ b o,h.get? b=some o->Qt H b->b∉fs->b∉ex->h'.get? b=some o
 slot:∀ b o,h.get? b=some o->H b=none->b∈fs->b∉ex->∃ sl,h'.get? b=some { o with slots:=sl }
 free:∀ b o,h.get? b=some o->H b=none->b∉ex->H' b=none
 there:∀ b o,h.get? b=some o->b∉ex->∃ o',h'.get? b=some o'
 tups:∀ b xs,H b=some (.tup xs)->H' b=some (.tup xs)
 frzs:∀ b o u,H b=some (.frz o u)->H' b=some (.frz o u)
 tbls:∀ b ps,H b=some (.tbl ps)->∃ more,H' b=some (.tbl (ps++more))
section
variable {fs fs' ex ex':List Addr}{H H1 H2:Hp}{h h1 h2 h':Heap}{a x e:Addr}{o:HO}
theorem Un.any (u:Un fs ex H H1 h h1){b:Addr}{J:Obj}(q:h.get? b=some J)(n:H b=none)(L:b∉ex):∃ sl,h1.get? b=some { J with slots:=sl }:=by
 by_cases O:b∈fs
 .exact u.slot b J q n O L
 .exact⟨J.slots,u.keep b J q (.inl n) O L⟩
theorem Un.kept (k:∀ b u,h.get? b=some u->h'.get? b=some u):Un fs ex H H h h':=⟨λb J q _ _ _=>k b J q,λb J q _ _ _=>⟨J.slots,k b J q⟩,λ_ _ _ n _=>n,λb J q _=>⟨J,k b J q⟩,λ_ _ q=>q,λ_ _ _ q=>q,λ_ ps q=>⟨#[],by rw[q];simp⟩⟩
theorem Un.refl:Un fs ex H H h h:=Un.kept λ_ _ q=>q
theorem Un.laid (k:∀ b u,h.get? b=some u->h'.get? b=some u)(hp:h.objs.size<=a)(hn:H a=none):Un fs ex H (aI H a o) h h' where
 keep:=λb u q _ _ _=>k b u q
 slot:=λb u q _ _ _=>⟨u.slots,k b u q⟩
 free:=λb u q n _=>by rw[ac (Kt (Kz (Kk q) hp))];exact n
 there:=λb u q _=>⟨u,k b u q⟩
 tups:=λb xs q=>by rw[ac (ah q hn)];exact q
 frzs:=λb u xs q=>by rw[ac (ah q hn)];exact q
 tbls:=λb ps q=>⟨#[],by rw[ac (ah q hn),q];simp⟩
theorem Un.write (J:Hf (H x))(W:e=x\/H e=some (.own x))(k:∀ b u,b≠e->h.get? b=some u->h'.get? b=some u)(O:∃ u,h'.get? e=some u):Un fs ex H (aI H x o) h h':=by
 have Y:∀ b,H b=none->b≠x:=λb n z=>by subst z;rw[n]at J;exact J
 have Z:∀ b,H b=none->b≠e:=λb n z=>by
  subst z;rcases W with r|r
  .exact Y b n r
  .rw[n]at r;cases r
 have hm:∀ b u,H b=some u->¬ Hf (some u)->b≠x:=λb u q nm z=>by subst z;rw[q]at J;exact nm J
 refine⟨λb u q n _ _=>k b u (n.elim (Z b) λ⟨xs,ee⟩ z=>by rcases W with r|r;(·rw[<- r,<- z,ee]at J;exact J);(·rw[<- z,ee]at r;cases r)) q,λb u q n _ _=>⟨u.slots,k b u (Z b n) q⟩,λb u q n _=>by rw[ac (Y b n)];exact n,λb u q _=>?_,
  λb xs q=>by rw[ac (hm b _ q λz=>z)];exact q,λb u xs q=>by rw[ac (hm b _ q λz=>z)];exact q,λb ps q=>⟨#[],by rw[ac (hm b _ q λz=>z),q];simp⟩⟩
 by_cases L:b=e
 .subst L;exact O
 .exact⟨u,k b u L q⟩
end
noncomputable def Ag (h:Heap)(H:Hp):List Addr:=(List.range h.objs.size).filter λa=>(H a).isSome
noncomputable def tX (h:Heap)(H:Hp):Heap:=PySem.W.hideAll h (Ag h H)
theorem yO (h:Heap)(H:Hp):(tX h H).objs.size=h.objs.size:=PySem.W.hideAll_size _ _
theorem tY {h:Heap}{H:Hp}{b:Addr}{o:Obj}(e:h.get? b=some o)(n:H b=none):(tX h H).get? b=some o:=PySem.W.hideAll_get _ e λhm=>by have q:(H b).isSome=true:=(Lc.mp hm).2;rw[n]at q;simp at q
theorem CK {h:Heap}{H:Hp}{b:Addr}{o:Obj}(e:(tX h H).get? b=some o):h.get? b=some o/\H b=none:=by
 have e':h.get? b=some o:=N3 (Ag h H) e;refine⟨e',?_⟩;cases q:H b with
 |none=>rfl
 |some x=>have hm:b∈Ag h H:=Lc.mpr ⟨KA.mpr (Kk e'),by simp[q]⟩;have z:(tX h H).get? b=none:=PySem.W.hideAll_none (Ag h H) hm;rw[z]at e;cases e
noncomputable def CL (g h:Heap)(L:Addr):List (Addr×Obj):=(List.range h.objs.size).filterMap λa=>if a=L\/(g.get? a).isSome=true then none else (h.get? a).map λo=>(a,o)
noncomputable def rest (g h:Heap)(L d:Addr):List (Addr×Obj):=(CL g h L).filter λp=>decide (p.1≠d)
noncomputable def JU:Oq->V
 | .str x _=>.str x
 | .ref a=>.ref a
 |_=>.non
noncomputable def Fq (o:Obj):Option (Addr×List V):=match o.cls with
 | .type n=>if n=="kt" then (match o.data with
  | .seq its _=>(match its.toList with
   | .ref a::r=>some (a,r.map JU)
   |_=>none)
  |_=>none) else none
 |_=>none
def WrT (K:On)(H:Hp):Prop:=∀ p∈K,∀ a xs,Fq p.2=some (a,xs)->H a=some (.tup xs)
structure Mod (K:On) (mg:Str->Option Oq) (base:Heap):Prop where
 kin:K.In base
 glob:base.Ns mainGlobals mg
 blt:∃ mb,base.Ns builtinsNs mb/\∀ x:Str,x≠"__name__"->mb x=bootBuiltins x
 nolimit:base.NoLimit
structure Cx where
 prog:Oo
 w:World
 K:On
 mg:Str->Option Oq
 base:Heap
 A:Os
 N:List Str
 s₀:Om
 H₀:Hp
 env:Env
 outer:List Env
 stack:List Env
 ex:List Addr
 fn:Str->Bool
 calm:Bool
 pn:List (Addr×Obj)
 xe:Oq->Om->Prop
noncomputable def frs (l:List Env):List Addr:=l.filterMap (·.frame)
noncomputable abbrev Cx.fs (X:Cx):List Addr:=frs X.outer
def Vis (sc:Scope)(x:Str):Prop:=sc.names.lookup x=some .local\/sc.names.lookup x=some .cell\/sc.names.lookup x=some .free
def Fs (sc:Scope)(x:Str):Prop:=sc.names.lookup x=some .local\/sc.names.lookup x=some .cell
def Look (env:Env)(h:Heap)(m:Str->Option Oq)(x:Str)(u:Oq):Prop:=(env.kindOf x=some .local/\m x=some u)\/((env.kindOf x=some .cell\/env.kindOf x=some .free)/\∃ c,env.cells.lookup x=some c/\h.IsCell c (some u))
structure Cx.Ok (X:Cx):Prop where
 mod:Mod X.K X.mg X.base
 kind:X.env.scope.kind=.function
 glob:X.env.globals=mainGlobals
 blt:X.env.builtins=builtinsNs
 above:X.s₀.heap.objs.size<=X.env.locals
 inj:∀ x y c,X.env.cells.lookup x=some c->X.env.cells.lookup y=some c->x=y
 has:∀ x,(X.env.kindOf x=some .cell\/X.env.kindOf x=some .free)->∃ c,X.env.cells.lookup x=some c
 cab:∀ x c,X.fn x=true->X.env.cells.lookup x=some c->X.s₀.heap.objs.size<=c
 hd:X.calm=true->X.A.handled=none
 frames:X.A.frames=some X.stack
 stk:X.stack=X.outer\/(X.stack=X.env::X.outer/\X.env.frame=some X.env.locals)
 exf:∀ b∈X.ex,b≠X.env.locals/\∀ x c,X.env.cells.lookup x=some c->c≠b
 bs:∀ b o,X.base.get? b=some o->X.s₀.heap.get? b=some o/\X.H₀ b=none
 bsz:X.base.objs.size<=X.s₀.heap.objs.size
 noex:∀ b o,X.base.get? b=some o->b∉X.ex
 exfs:∀ b∈X.ex,b∉X.fs
 funs:X.s₀.heap.FunFrames X.base X.outer
 frf:∀ b∈X.fs,X.H₀ b=none
 kt:WrT X.K X.H₀
structure Inv (X:Cx) (pins:List (Addr×Obj)) (σ:List (Option V)) (H:Hp) (s:Om):Prop where
 ok:X.Ok
 os:s.os=X.s₀.os
 bare:AllBare s.gens
 base:Un X.fs X.ex X.H₀ H X.s₀.heap s.heap
 loc:∃ m,s.heap.Ns X.env.locals m/\∀(i:Nat)(x:Str)(v:V),X.N[i]?=some x->σ[i]?=some (some v)->Vis X.env.scope x->∃ u,RelV v u/\Look X.env s.heap m x u
 cell:∀ x c,X.env.cells.lookup x=some c->∃ v,s.heap.IsCell c v
 free:H X.env.locals=none
 freeC:∀ x c,X.env.cells.lookup x=some c->H c=none
 pin:∀ p∈X.pn++pins,s.heap.get? p.1=some p.2/\H p.1=none/\p.1≠X.env.locals/\p.1∉X.fs/\∀ v,p.2.data≠.cell v
 hok:HOk X.prog X.w H s.heap
 len:σ.length=X.N.length
section
variable {X:Cx}{pins:List (Addr×Obj)}{σ:List (Option V)}{H H':Hp}{s:Om}{h':Heap}
theorem Cx.Ok.nofr (ok:X.Ok){b:Addr}{o:Obj}(e:X.base.get? b=some o):b∉X.fs:=λJ=>by have:=(ok.funs.mem J).1;rw[e]at this;cases this
theorem Inv.bs (I:Inv X pins σ H s):∀ b o,X.base.get? b=some o->s.heap.get? b=some o/\H b=none:=λb o e=>⟨I.base.keep b o (I.ok.bs b o e).1 (.inl (I.ok.bs b o e).2) (I.ok.nofr e) (I.ok.noex b o e),I.base.free b o (I.ok.bs b o e).1 (I.ok.bs b o e).2 (I.ok.noex b o e)⟩
theorem Inv.kt (I:Inv X pins σ H s):WrT X.K H:=λp J a xs e=>I.base.tups a xs (I.ok.kt p J a xs e)
theorem Inv.bk (I:Inv X pins σ H s):∀ b o,X.base.get? b=some o->s.heap.get? b=some o:=λb o e=>(I.bs b o e).1
theorem Inv.mod (I:Inv X pins σ H s):Mod X.K X.mg X.base:=I.ok.mod
theorem Inv.kIn (I:Inv X pins σ H s):X.K.In s.heap:=I.ok.mod.kin.keeps I.bk
theorem Inv.lt (I:Inv X pins σ H s):X.env.locals<s.heap.objs.size:=let ⟨_,hn,_⟩:=I.loc;hn.lt
theorem Inv.sz (I:Inv X pins σ H s):X.s₀.heap.objs.size<=s.heap.objs.size:=Ku I.ok.above (Ng I.lt)
theorem Inv.nofs (I:Inv X pins σ H s){a:Addr}(h:s.heap.objs.size<=a):a∉X.fs:=λJ=>by obtain⟨_,o,L,_⟩:=I.ok.funs.mem J;exact absurd (Kz (Kk L) (Ku I.sz h)) (MH _)
theorem Inv.cne (I:Inv X pins σ H s):∀ x c,X.env.cells.lookup x=some c->c≠X.env.locals:=λx c e z=>by obtain⟨v,o,O,hd⟩:=I.cell x c e;obtain⟨m,⟨o',es,ep,J,L,_⟩,_⟩:=I.loc;rw[z,J]at O;cases O;rw[L]at hd;cases hd
theorem Inv.funs (I:Inv X pins σ H s):s.heap.FunFrames X.base X.outer:=by
 have all:∀(l:List Env),(∀ b∈frs l,b∈X.fs)->X.s₀.heap.FunFrames X.base l->s.heap.FunFrames X.base l:=by
  intro l;induction l with
  |nil=>intro _ _;trivial
  |cons env r W=>intro hs Y;obtain⟨Z,⟨L,o,hf,hn,ho,hd⟩,hr⟩:=Y;have J:L∈X.fs:=hs L (by unfold frs;rw[MI,hf];exact Kj);obtain⟨sl,e⟩:=I.base.slot L o ho (I.ok.frf L J) J λz=>I.ok.exfs L z J;exact⟨Z,⟨L,_,hf,hn,e,hd⟩,W (λb O=>hs b (by unfold frs;rw[MI,hf];exact J8 _ O)) hr⟩
 exact all X.outer (λ_ O=>O) I.ok.funs
theorem Inv.stack (I:Inv X pins σ H s):s.heap.FunFrames X.base X.stack:=by
 rcases I.ok.stk with e|⟨e,hf⟩
 .rw[e];exact I.funs
 .rw[e];obtain⟨m,hn,_⟩:=I.loc;refine .cons (by rw[I.ok.kind];decide) hf hn ?_ I.funs;exact Heap.get?_none_of_le (Ku I.ok.bsz I.ok.above)
theorem Inv.stkSub (I:Inv X pins σ H s):∀ b∈frs X.stack,b∈X.env.locals::X.fs:=λb J=>by
 rcases I.ok.stk with e|⟨e,hf⟩
 .rw[e]at J;exact J8 _ J
 .rw[e]at J;unfold frs at J;rw[MI,hf]at J;exact J
theorem Inv.stkFree (I:Inv X pins σ H s):∀ b∈frs X.stack,H b=none:=λb hb=>by
 rcases Kb.mp (I.stkSub b hb) with e|hb
 .rw[e];exact I.free
 .obtain⟨_,o,J,_⟩:=I.ok.funs.mem hb;exact I.base.free b o J (I.ok.frf b hb) λz=>I.ok.exfs b z hb
theorem Inv.step {g':Array GenState}{t':Nat}{d':Drawn}{ch:List Addr}(I:Inv X pins σ H s)
 (L:∀ b∈ch,(b∈X.ex\/X.s₀.heap.objs.size<=b)/\b≠X.env.locals/\(∀ x c,X.env.cells.lookup x=some c->c≠b)/\∀ p∈X.pn++pins,p.1≠b)
 (keep:∀ b o,b≠X.env.locals->b∉X.fs->b∉ch->s.heap.get? b=some o->Qt H b->h'.get? b=some o)
 (slot:∀ b o,b≠X.env.locals->b∈X.fs->b∉ch->s.heap.get? b=some o->H b=none->∃ sl,h'.get? b=some { o with slots:=sl }) (free:∀ b o,b∉ch->s.heap.get? b=some o->H b=none->H' b=none)
 (there:∀ b o,b∉ch->s.heap.get? b=some o->∃ o',h'.get? b=some o')
 (tups:∀ b xs,H b=some (.tup xs)->H' b=some (.tup xs)) (frzs:∀ b o u,H b=some (.frz o u)->H' b=some (.frz o u)) (tbls:∀ b ps,H b=some (.tbl ps)->∃ more,H' b=some (.tbl (ps++more)))
 (ns:∀ m,s.heap.Ns X.env.locals m->h'.Ns X.env.locals m) (hok:HOk X.prog X.w H' h') (hg:AllBare g') :
 Inv X pins σ H' { s with heap:=h',gens:=g',drawn:=d',toks:=t' }:=by
 have neL:∀ b o,X.s₀.heap.get? b=some o->b≠X.env.locals:=λb o e=>Kt (Kz (Kk e) I.ok.above);have W:∀ b o,X.s₀.heap.get? b=some o->b∉X.ex->b∉ch:=λb o e J Y=>by
  rcases (L b Y).1 with z|z
  .exact J z
  .exact absurd (Kz (Kk e) z) (MH _)
 have cellK:∀ x c,X.env.cells.lookup x=some c->∀ v,s.heap.IsCell c v->h'.IsCell c v:=λx c e v ⟨o,Z,hd⟩=>by
  have O:c∉ch:=λz=>(L c z).2.2.1 x c e rfl;by_cases hc:c∈X.fs
  .obtain⟨sl,q⟩:=slot c o (I.cne x c e) hc O Z (I.freeC x c e);exact⟨_,q,hd⟩
  .exact⟨o,keep c o (I.cne x c e) hc O Z (.inl (I.freeC x c e)),hd⟩
 refine⟨I.ok,I.os,hg,⟨λb o e n Y J=>?_,λb o e n Y J=>?_,λb o e n J=>?_,λb o e J=>?_,λb xs e=>tups b xs (I.base.tups b xs e),λb o xs e=>frzs b o xs (I.base.frzs b o xs e),λb ps e=>?_⟩,?_,λx c e=>?_,?_,λx c e=>?_,λp hp=>?_,hok,I.len⟩
 .exact keep b o (neL b o e) Y (W b o e J) (I.base.keep b o e n Y J) (n.imp (λn=>I.base.free b o e n J) λ⟨xs,q⟩=>⟨xs,I.base.tups b xs q⟩)
 .obtain⟨sl,e1⟩:=I.base.slot b o e n Y J;obtain⟨sl',e2⟩:=slot b _ (neL b o e) Y (W b o e J) e1 (I.base.free b o e n J);exact⟨sl',e2⟩
 .obtain⟨o',e1⟩:=I.base.there b o e J;exact free b o' (W b o e J) e1 (I.base.free b o e n J)
 .obtain⟨o',e1⟩:=I.base.there b o e J;exact there b o' (W b o e J) e1
 .obtain⟨m1,e1⟩:=I.base.tbls b ps e;obtain⟨m2,e2⟩:=tbls b _ e1;exact⟨m1++m2,by rw[e2,Array.append_assoc]⟩
 .obtain⟨m,hn,hl⟩:=I.loc;refine⟨m,ns m hn,λi x v e1 e2 e3=>?_⟩;obtain⟨u,r,l⟩:=hl i x v e1 e2 e3;refine⟨u,r,?_⟩;rcases l with l|⟨k,c,e,z⟩
  .exact .inl l
  .exact .inr ⟨k,c,e,cellK x c e _ z⟩
 .obtain⟨v,z⟩:=I.cell x c e;exact⟨v,cellK x c e v z⟩
 .obtain⟨m,⟨o,_,_,Z,_⟩,_⟩:=I.loc;exact free _ o (λz=>(L _ z).2.1 rfl) Z I.free
 .obtain⟨v,o,Z,hd⟩:=I.cell x c e;exact free c o (λz=>(L c z).2.2.1 x c e rfl) Z (I.freeC x c e)
 .obtain⟨e,n,ne,nf,d⟩:=I.pin p hp;have O:p.1∉ch:=λz=>(L p.1 z).2.2.2 p hp rfl;exact⟨keep p.1 p.2 ne nf O e (.inl n),free p.1 p.2 O e n,ne,nf,d⟩
theorem Inv.un {t':Nat}(I:Inv X pins σ H s)(u:Un X.fs [] H H' s.heap h')(hok:HOk X.prog X.w H' h'):Inv X pins σ H' { s with heap:=h',toks:=t' }:=by obtain⟨m,⟨o,es,ep,W,r⟩,_⟩:=id I.loc;obtain⟨sl,Y⟩:=u.any W I.free (by simp);exact I.step (g':=s.gens) (d':=s.drawn) (ch:=[]) (λ_ z=>nomatch z) (λb o _ L _ e n=>u.keep b o e n L (by simp)) (λb o _ L _ e n=>u.slot b o e n L (by simp)) (λb o _ e n=>u.free b o e n (by simp)) (λb o _ e=>u.there b o e (by simp)) u.tups u.frzs u.tbls (λm' hm=>by obtain⟨o',es',O,J,Z⟩:=hm;rw[W]at J;cases J;exact⟨_,es',O,Y,Z⟩) hok I.bare
theorem Inv.call {g':Array GenState}{t':Nat}{d':Drawn}{ch:List Addr}(I:Inv X pins σ H s)(u:Un (frs X.stack) ch H H' s.heap h')(hok:HOk X.prog X.w H' h')(Z:AllBare g')
 (J:∀ b∈ch,(b∈X.ex\/X.s₀.heap.objs.size<=b)/\b≠X.env.locals/\(∀ x c,X.env.cells.lookup x=some c->c≠b)/\∀ p∈X.pn++pins,p.1≠b) :
 Inv X pins σ H' { s with heap:=h',gens:=g',drawn:=d',toks:=t' }:=by
 obtain⟨m,⟨o,es,ep,Y,r⟩,_⟩:=id I.loc;obtain⟨sl,O⟩:=u.any Y I.free λz=>(J _ z).2.1 rfl;exact I.step (ch:=ch) J (λb o O hb hc e n=>u.keep b o e n (λz=>(Kb.mp (I.stkSub b z)).elim O hb) hc) (λb o _ _ hc e n=>u.any e n hc) (λb o hc e n=>u.free b o e n hc) (λb o hc e=>u.there b o e hc) u.tups u.frzs u.tbls (λm' hm=>by obtain⟨o',es',W,L,r'⟩:=hm;rw[Y]at L;cases L;exact⟨_,es',W,O,r'⟩) hok Z
theorem Inv.turned {t':Nat}{it:Addr}(I:Inv X pins σ H s)(k:∀ b o,b≠it->s.heap.get? b=some o->h'.get? b=some o)(hn:H it=none)(L:it≠X.env.locals)
 (h1:it∈X.ex\/X.s₀.heap.objs.size<=it) (h2:∀ x c,X.env.cells.lookup x=some c->c≠it) (O:∀ p∈X.pn++pins,p.1≠it):Inv X pins σ H { s with heap:=h',toks:=t' }:=by
 have J:∀ b u,H b=some u->b≠it:=λb u e z=>by rw[z,hn]at e;cases e
 refine I.step (g':=s.gens) (d':=s.drawn) (ch:=[it]) (λb W=>?_) (λb o _ _ hc e _=>k b o (λz=>hc (by simp[z])) e) (λb o _ _ hc e _=>⟨o.slots,k b o (λz=>hc (by simp[z])) e⟩) (λ_ _ _ _ n=>n)
  (λb o hc e=>⟨o,k b o (λz=>hc (by simp[z])) e⟩) (λ_ _ e=>e) (λ_ _ _ e=>e) (λb ps e=>⟨#[],by rw[e];simp⟩) (λm hm=>?_) (λb u e=>?_) I.bare
 .have e:b=it:=by simpa using W
  subst e;exact⟨h1,L,h2,O⟩
 .obtain⟨o,es,ep,Y,r⟩:=hm;exact⟨o,es,ep,k _ o (K9 L) Y,r⟩
 .refine(I.hok b u e).stay (λc v hc q=>k c v ?_ q) (λ_ q=>q) λ_ _ q=>q;rcases hc with z|z
  .rw[z];exact J b u e
  .exact J c _ z
theorem Inv.tok (I:Inv X pins σ H s)(t:Nat):Inv X pins σ H { s with toks:=t }:=I.un (h':=s.heap) (t':=t) Un.refl I.hok
theorem Inv.kept {t':Nat}(I:Inv X pins σ H s)(k:∀ b u,s.heap.get? b=some u->h'.get? b=some u):Inv X pins σ H { s with heap:=h',toks:=t' }:=I.un (Un.kept k) (I.hok.kept k)
theorem Inv.laid {a:Addr}{o:HO}{t':Nat}(I:Inv X pins σ H s)(k:∀ b u,s.heap.get? b=some u->h'.get? b=some u)(J:s.heap.objs.size<=a)(new:ObjOk X.prog X.w (aI H a o) h' a o) :
 Inv X pins σ (aI H a o) { s with heap:=h',toks:=t' }:=I.un (Un.laid k J (I.hok.fresh J)) (I.hok.laid k J new)
theorem Inv.write {x e:Addr}{o:HO}{t':Nat}(I:Inv X pins σ H s)(L:Hf (H x))(O:e=x\/H e=some (.own x))(k:∀ b u,b≠e->s.heap.get? b=some u->h'.get? b=some u)(J:∃ u,h'.get? e=some u)
 (new:ObjOk X.prog X.w (aI H x o) h' x o):Inv X pins σ (aI H x o) { s with heap:=h',toks:=t' }:=I.un (Un.write L O k J) (I.hok.write L O k J new)
theorem Inv.pins_of {J:List (Addr×Obj)}(I:Inv X pins σ H s)(h:∀ p∈J,s.heap.get? p.1=some p.2/\H p.1=none/\p.1≠X.env.locals/\p.1∉X.fs/\∀ v,p.2.data≠.cell v):Inv X J σ H s:=⟨I.ok,I.os,I.bare,I.base,I.loc,I.cell,I.free,I.freeC,λp L=>(Kr.mp L).elim (λz=>I.pin p (KC _ z)) (h p),I.hok,I.len⟩
theorem tZ {N:List Str}(J:N.Nodup){i j:Nat}{x:Str}(a:N[i]?=some x)(b:N[j]?=some x):i=j:=by obtain⟨h1,e1⟩:=Ke.mp a;obtain⟨h2,e2⟩:=Ke.mp b;exact(List.getElem_inj J).mp (e1.trans e2.symm)
theorem qS {M:Model}{A:Os}{E:Oq->Om->Prop}{i:Nat}{x:Str}{v:V}{u:Oq}{Q:Unit->Om->Prop}(I:Inv X pins σ H s)(hN:X.N.Nodup)(hi:X.N[i]?=some x)(J:Fs X.env.scope x)(r:RelV v u)
 (h:∀ s',Inv X pins (σ.set i (some v)) H s'->(∃ a,Heap.SameBut a s.heap s'.heap/\(a=X.env.locals\/X.env.cells.lookup x=some a))->Q () s') (hf:autoParam (X.fn x=true\/X.env.scope.names.lookup x=some .local) Ou._auto_1):wpAny M A (storeName X.env x u) Q E s:=by
 obtain⟨m,hn,hl⟩:=id I.loc;have hcls:(X.env.scope.kind==.class || (X.env.scope.kind==.module&&X.env.locals != X.env.globals))=false:=by rw[I.ok.kind];rfl
 have O:i<σ.length:=by rw[I.len];exact(Ke.mp hi).1
 have cne:=I.cne;have tracked:∀{a:Addr}{h':Heap},(∃ o,s.heap.get? a=some o/\H a=none)->Heap.SameBut a s.heap h'->HOk X.prog X.w H h':=λ{a h'} ha hs b ob e=>by
  obtain⟨_,_,L⟩:=ha;refine(I.hok b ob e).stay (λc w' hc q=>(hs.2 c ?_).trans q) (λ_ q=>q) λ_ _ q=>q;rintro rfl;rcases hc with rfl|hc
  .rw[L]at e;cases e
  .rw[L]at hc;cases hc
 rcases J with hk|hk
 .refine wpAny_storeName_local hk hn (λh' hn' hs=>?_) hcls;obtain⟨oL,_,_,hoL,_⟩:=id hn;refine h _ ⟨I.ok,I.os,I.bare,⟨λb o e n W J=>?_,λb o e n W J=>?_,I.base.free,λb o e J=>?_,I.base.tups,I.base.frzs,I.base.tbls⟩,⟨_,hn',λj y v' e1 e2 e3=>?_⟩,λy c e=>?_,I.free,I.freeC,λp hp=>?_,tracked ⟨oL,hoL,I.free⟩ hs,by simpa using I.len⟩ ⟨_,hs,.inl rfl⟩
  .exact(hs.2 b (Kt (Kz (Kk e) I.ok.above))).trans (I.base.keep b o e n W J)
  .obtain⟨sl,e1⟩:=I.base.slot b o e n W J;exact⟨sl,(hs.2 b (Kt (Kz (Kk e) I.ok.above))).trans e1⟩
  .obtain⟨o',e1⟩:=I.base.there b o e J;exact⟨o',(hs.2 b (Kt (Kz (Kk e) I.ok.above))).trans e1⟩
  .by_cases Y:j=i
   .subst Y;rw[hi]at e1;cases e1;rw[KG O]at e2;cases e2;exact⟨u,r,.inl ⟨hk,by simp⟩⟩
   .rw[KR (K9 Y)]at e2;obtain⟨u',r',q⟩:=hl j y v' e1 e2 e3;refine⟨u',r',?_⟩;rcases q with⟨k,e⟩|⟨k,c,e,z⟩
    .refine .inl ⟨k,?_⟩;have:y≠x:=λe=>Y (tZ hN e1 (e▸hi));simp[this,e]
    .exact .inr ⟨k,c,e,z.sameBut hs (cne y c e)⟩
  .obtain⟨w',z⟩:=I.cell y c e;exact⟨w',z.sameBut hs (cne y c e)⟩
  .obtain⟨e,n,ne,nf,d⟩:=I.pin p hp;exact⟨(hs.2 p.1 ne).trans e,n,ne,nf,d⟩
 .have Z:X.fn x=true:=by
   rcases hf with z|z
   .exact z
   .rw[z]at hk;cases hk
  obtain⟨c,hc⟩:=I.ok.has x (.inl hk);obtain⟨w',z⟩:=I.cell x c hc;refine wpAny_storeName_cell I.ok.kind hk hc z (λh' hc' hs=>?_);obtain⟨oc,hoc,hocd⟩:=id z;refine h { s with heap:=h' } ⟨I.ok,I.os,I.bare,⟨λb o e n W J=>?_,λb o e n W J=>?_,I.base.free,λb o e J=>?_,I.base.tups,I.base.frzs,I.base.tbls⟩,⟨m,hn.sameBut hs (K9 (cne x c hc)),λj y v' e1 e2 e3=>?_⟩,λy c' e=>?_,I.free,I.freeC,λp hp=>?_,tracked ⟨oc,hoc,I.freeC x c hc⟩ hs,by simpa using I.len⟩ ⟨c,hs,.inr hc⟩
  .exact(hs.2 b (Kt (Kz (Kk e) (I.ok.cab x c Z hc)))).trans (I.base.keep b o e n W J)
  .obtain⟨sl,e1⟩:=I.base.slot b o e n W J;exact⟨sl,(hs.2 b (Kt (Kz (Kk e) (I.ok.cab x c Z hc)))).trans e1⟩
  .obtain⟨o',e1⟩:=I.base.there b o e J;exact⟨o',(hs.2 b (Kt (Kz (Kk e) (I.ok.cab x c Z hc)))).trans e1⟩
  .by_cases Y:j=i
   .subst Y;rw[hi]at e1;cases e1;rw[KG O]at e2;cases e2;exact⟨u,r,.inr ⟨.inl hk,c,hc,hc'⟩⟩
   .rw[KR (K9 Y)]at e2;obtain⟨u',r',q⟩:=hl j y v' e1 e2 e3;refine⟨u',r',?_⟩;rcases q with q|⟨k,c',e,z'⟩
    .exact .inl q
    .refine .inr ⟨k,c',e,z'.sameBut hs ?_⟩;rintro rfl;exact Y (tZ hN e1 (I.ok.inj _ _ _ e hc▸hi))
  .by_cases hcc:c'=c
   .subst hcc;exact⟨_,hc'⟩
   .obtain⟨w2,z2⟩:=I.cell y c' e;exact⟨w2,z2.sameBut hs hcc⟩
  .obtain⟨e,n,ne,nf,d⟩:=I.pin p hp;refine⟨(hs.2 p.1 ?_).trans e,n,ne,nf,d⟩;intro q;rw[q,hoc]at e;have q':oc=p.2:=Kx e;exact d w' (by rw[<- q'];exact hocd)
theorem t3 {M:Model}{A:Os}{E:Oq->Om->Prop}{i:Nat}{x:Str}{v:V}{u:Oq}{Q:Unit->Om->Prop}(I:Inv X pins σ H s)(J:X.N.Nodup)(hi:X.N[i]?=some x)(L:Fs X.env.scope x)(r:RelV v u)
 (h:∀ s',Inv X pins (σ.set i (some v)) H s'->Q () s') (hf:autoParam (X.fn x=true\/X.env.scope.names.lookup x=some .local) Ou._auto_1):wpAny M A (storeName X.env x u) Q E s:=
 qS I J hi L r (λs' O _=>h s' O) hf
theorem Inv.call' {s':Om}{ch:List Addr}(I:Inv X pins σ H s)(L:s'.os=s.os)(u:Un (frs X.stack) ch H H' s.heap s'.heap)(hok:HOk X.prog X.w H' s'.heap)(O:AllBare s'.gens)
 (J:∀ b∈ch,(b∈X.ex\/X.s₀.heap.objs.size<=b)/\b≠X.env.locals/\(∀ x c,X.env.cells.lookup x=some c->c≠b)/\∀ p∈X.pn++pins,p.1≠b):Inv X pins σ H' s':=by
 obtain⟨h',g',d',t',o'⟩:=s';have e:o'=s.os:=L;subst e;exact I.call (g':=g') (t':=t') (d':=d') u hok O J
end
noncomputable abbrev XK:=Oq->Option Addr->Hp->Prop
noncomputable abbrev St:=List (Option V)
noncomputable abbrev VK:=V->Hp->Prop
noncomputable abbrev TE:=St->Hp->VK->Prop
noncomputable abbrev TT:=St->Hp->(Bool->Hp->Prop)->Prop
noncomputable abbrev TA:=St->Hp->(List V->Hp->Prop)->Prop
structure Ends where
 nx:St->Hp->Prop
 rt:VK
 bk:St->Hp->Prop:=λ_ _=>False
 ct:St->Hp->Prop:=λ_ _=>False
noncomputable abbrev TS:=Ends->St->Hp->Prop
def EP (X:Cx)(pins:List (Addr×Obj))(σ:St)(Q:VK)(u:Oq)(s':Om):Prop:=∃ v H',Inv X pins σ H' s'/\RelV v u/\Q v H'
def TP (X:Cx)(pins:List (Addr×Obj))(σ:St)(Q:Bool->Hp->Prop)(b:Bool)(s':Om):Prop:=∃ H',Inv X pins σ H' s'/\Q b H'
def AP (X:Cx)(pins:List (Addr×Obj))(σ:St)(Q:List V->Hp->Prop)(us:List Oq)(s':Om):Prop:=∃ vs H',Inv X pins σ H' s'/\Vals vs us/\Q vs H'
def SP (X:Cx)(pins:List (Addr×Obj))(D:Ends)(f:Flow)(s':Om):Prop:=
 match f with
 | .next=>∃ J H',Inv X pins J H' s'/\D.nx J H'
 | .brk=>∃ J H',Inv X pins J H' s'/\D.bk J H'
 | .cont=>∃ J H',Inv X pins J H' s'/\D.ct J H'
 | .ret u=>∃ v J H',Inv X pins J H' s'/\RelV v u/\D.rt v H'
def PE (X:Cx)(e:Expr)(t:TE):Prop:=∀(pins:List (Addr×Obj))(s:Om)(σ:St)(H:Hp)(Q:VK),Inv X pins σ H s->t σ H Q->wpAny (model X.prog X.w) X.A (eval e X.env) (EP X pins σ Q) X.xe s
def PT (X:Cx)(e:Expr)(t:TT):Prop:=∀(pins:List (Addr×Obj))(s:Om)(σ:St)(H:Hp)(Q:Bool->Hp->Prop),Inv X pins σ H s->t σ H Q->wpAny (model X.prog X.w) X.A (isTrue e X.env (eval e X.env)) (TP X pins σ Q) X.xe s
def PW (X:Cx)(e:Expr)(t:TT):Prop:=∀(whole:Sem Oq)(pins:List (Addr×Obj))(s:Om)(σ:St)(H:Hp)(Q:Bool->Hp->Prop),Inv X pins σ H s->t σ H Q->wpAny (model X.prog X.w) X.A (isTrue e X.env whole) (TP X pins σ Q) X.xe s
theorem PW.pt {X:Cx}{e:Expr}{t:TT}(h:PW X e t):PT X e t:=h _
def PA (X:Cx)(es:List Expr)(t:TA):Prop:=∀(pos:Pos)(pins:List (Addr×Obj))(s:Om)(σ:St)(H:Hp)(Q:List V->Hp->Prop),Inv X pins σ H s->t σ H Q->wpAny (model X.prog X.w) X.A (spliced (backTo pos (starEach es X.env))) (AP X pins σ Q) X.xe s
def PS (X:Cx)(st:Stmt)(t:TS):Prop:=∀(pins:List (Addr×Obj))(s:Om)(σ:St)(H:Hp)(D:Ends),Inv X pins σ H s->t D σ H->wpAny (model X.prog X.w) X.A (exec st X.env) (SP X pins D) X.xe s
def PSs (X:Cx)(st:List Stmt)(t:TS):Prop:=∀(pins:List (Addr×Obj))(s:Om)(σ:St)(H:Hp)(D:Ends),Inv X pins σ H s->t D σ H->wpAny (model X.prog X.w) X.A (execs st X.env) (SP X pins D) X.xe s
theorem bM {α:Type}{t:Sem α}{Q J:α->Om->Prop}{M:Model}{A:Os}{E:Oq->Om->Prop}{s:Om}(h:wpAny M A t Q E s)(L:∀ a s,Q a s->J a s):wpAny M A t J E s:=LO h L λ_ _ x=>x
section
variable {X:Cx}
noncomputable def aA (i:Nat):TE:=λσ H Q=>∃ v,σ[i]?=some (some v)/\Q v H
noncomputable def tC (v:V):TE:=λ_ H Q=>Q v H
theorem Ft {i:Nat} {x:Str} {pos:Pos} (O:X.N[i]?=some x) (W:Vis X.env.scope x) (hd:autoParam ((x==("__debug__" : Str))=false) Ot._auto_1) (L:autoParam ((x==("__classdict__" : Str))=false) Ot._auto_1):PE X (.Name x pos) (aA i):=by
 intro pins s σ H Q I h;obtain⟨v,e,h⟩:=h;obtain⟨m,hn,Y⟩:=I.loc;obtain⟨u,r,l⟩:=Y i x v O e W;have fin:EP X pins σ Q u s:=⟨v,H,I,r,h⟩;rcases l with⟨hk,hm⟩|⟨hk,c,hc,J⟩
 .exact wpAny_Name (wpAny_loadName_local I.ok.kind hk hn hm fin) hd
 .rcases hk with hk|hk
  .exact wpAny_Name (wpAny_loadName_cell I.ok.kind hk hc J fin) hd
  .exact wpAny_Name (wpAny_loadName_free I.ok.kind hk hc J fin L) hd
theorem aJ {i j pos}:PE X (.Constant (.int i) j pos) (tC (.int i)):=λ_ _ _ H _ I h=>wpAny_Constant_int ⟨.int i,H,I.tok _,⟨_,rfl⟩,h⟩
theorem Hi {b j pos}:PE X (.Constant (.bool b) j pos) (tC (.bl b)):=λ_ _ _ H _ I h=>Constant_bool ⟨.bl b,H,I,rfl,h⟩
theorem lY {j pos}:PE X (.Constant .none j pos) (tC .non):=λ_ _ _ H _ I h=>Constant_none ⟨.non,H,I,rfl,h⟩
theorem Fu {x j pos}:PE X (.Constant (.str x) j pos) (tC (.str x)):=λ_ _ _ H _ I h=>Calls.Constant_str ⟨.str x,H,I.tok _,⟨_,rfl⟩,h⟩
def Gl (X:Cx)(x:Str):Prop:=X.env.kindOf x=some .globalImplicit
theorem oh {E:Oq->Om->Prop}{pins:List (Addr×Obj)}{s:Om}{σ:St}{H:Hp}{x:Str}{u:Oq}{pos:Pos}{Q:Oq->Om->Prop}(I:Inv X pins σ H s)(J:Gl X x)(hm:X.mg x=some u)(h:Q u s)
 (hd:autoParam ((x==("__debug__" : Str))=false) Ot._auto_1):wpAny (model X.prog X.w) X.A (eval (.Name x pos) X.env) Q E s:=
 Calls.Name_function_global I.ok.kind J (Calls.loadGlobal_global (by rw[I.ok.glob];exact I.mod.glob.keeps I.bk) hm h) hd
theorem kG {E:Oq->Om->Prop}{pins:List (Addr×Obj)}{s:Om}{σ:St}{H:Hp}{x:Str}{u:Oq}{pos:Pos}{Q:Oq->Om->Prop}(I:Inv X pins σ H s)(J:Gl X x)(hm:X.mg x=none)(L:bootBuiltins x=some u)(h:Q u s)
 (hn:autoParam (x≠"__name__") Ot._auto_1) (hd:autoParam ((x==("__debug__" : Str))=false) Ot._auto_1):wpAny (model X.prog X.w) X.A (eval (.Name x pos) X.env) Q E s:=by
 obtain⟨mb,h1,h2⟩:=I.mod.blt;exact Calls.Name_function_global I.ok.kind J (Calls.loadGlobal_builtin (by rw[I.ok.glob];exact I.mod.glob.keeps I.bk) hm (by rw[I.ok.blt];exact h1.keeps I.bk) ((h2 x hn).trans L) h) hd
theorem CM {x:Str} {v:V} {u:Oq} {pos:Pos} (J:Gl X x) (hm:X.mg x=none) (L:bootBuiltins x=some u) (r:RelV v u) (hn:autoParam (x≠"__name__") Ot._auto_1) (hd:autoParam ((x==("__debug__" : Str))=false) Ot._auto_1):PE X (.Name x pos) (tC v):=λ_ _ _ H _ I h=>kG I J hm L ⟨v,H,I,r,h⟩ hn hd
variable {a b:Expr}{ta tb:TE}{pos:Pos}
def PC (X:Cx)(op:CmpOp)(a b:Expr)(t:TE):Prop:=
 ∀(pins:List (Addr×Obj))(s:Om)(σ:St)(H:Hp)(Q:VK),Inv X pins σ H s->t σ H Q->
  wpAny (model X.prog X.w) X.A (eval a X.env) (λv J=>wpAny (model X.prog X.w) X.A (eval b X.env) (λu L=>wpAny (model X.prog X.w) X.A (compareOp op v u) (EP X pins σ Q) X.xe L) X.xe J) X.xe s
theorem t4 (b:Expr){op:CmpOp}(h:op≠.In)(h2:op≠.NotIn):behindInMarks op b=false:=by
 have e1:(op==CmpOp.In)=false:=by cases op<;>first|rfl|exact absurd rfl h
 have e2:(op==CmpOp.NotIn)=false:=by cases op<;>first|rfl|exact absurd rfl h2
 cases b<;>simp[behindInMarks,e1,e2]
noncomputable def Jf (ta:TE):TE:=λσ H Q=>ta σ H λx H1=>Q (.bl (decide (x=.non))) H1
theorem RelV.none_iff {x:V}{v:Oq}(r:RelV x v):(v==Value.none)=decide (x=.non):=by
 cases x with
 |non=>cases r;rfl
 |bl _=>cases r;rfl
 |int _=>obtain⟨t,rfl⟩:=r;rfl
 |str _=>obtain⟨t,rfl⟩:=r;rfl
 |byt _=>obtain⟨t,rfl⟩:=r;rfl
 |flt _=>obtain⟨t,rfl⟩:=r;rfl
 |ref _=>cases r;rfl
 |ty _=>cases r;rfl
theorem Al {j pos'}(ha:PE X a ta):PC X .Is a (.Constant .none j pos') (Jf ta):=by intro pins s σ H Q I h;refine bM (ha pins s σ H _ I h) λv s1 ⟨x,H1,J,r1,q1⟩=>?_;exact Constant_none (is_none_gen ⟨.bl _,H1,J,by rw[r1.none_iff];rfl,q1⟩)
noncomputable def tB (t:TE):TT:=λσ H Q=>t σ H λx H1=>∃ c,x=.bl c/\Q c H1
theorem Fv {op:CmpOp}{t:TE}(h:PC X op a b t)(h1:behindInMarks op b=false:=by first|exact t4 _ (by decide) (by decide)|rfl):PE X (.Compare a [op] [b] pos) t:=λpins s σ H Q I J=>wpAny_Compare1 (h pins s σ H Q I J) h1
theorem Fw {op:CmpOp}{t:TE}(h:PC X op a b t)(h1:behindInMarks op b=false:=by first|exact t4 _ (by decide) (by decide)|rfl):PT X (.Compare a [op] [b] pos) (tB t):=by intro pins s σ H Q I J;refine wpAny_isTrue_Compare1 (bM (h pins s σ H _ I J) λv s1 h1=>bM h1 λu s2 h2=>bM h2 λc s3 ⟨x,H1,L,r1,q1⟩=>?_) h1;obtain⟨d,rfl,q⟩:=q1;cases r1;exact Lp ⟨H1,L,q⟩
theorem Fx {e:Expr}{t:TE}(h:PE X e t)(J:autoParam (∀ whole,isTrue e X.env whole=(do let v <- whole;standAt e.pos;holding [v] (truthy v))) Ow._auto_1):PT X e (tB t):=by intro pins s σ H Q I L;refine isTrue_plain (bM (h pins s σ H _ I L) λv s1 ⟨x,H1,O,r1,q1⟩=>?_) (J _);obtain⟨d,rfl,q⟩:=q1;cases r1;exact Lp ⟨H1,O,q⟩
variable {tA tB':TT}{rest:List Expr}
noncomputable def Jg (t u:TT):TT:=λσ H Q=>t σ H λc H1=>if c=true then u σ H1 Q else Q false H1
noncomputable def JO (t u:TT):TT:=λσ H Q=>t σ H λc H1=>if c=true then Q true H1 else u σ H1 Q
noncomputable def Hj (t:TT):TT:=λσ H Q=>t σ H λc H1=>Q (!c) H1
theorem CN (ha:PT X a tA):PW X (.BoolOp .And [a] pos) tA:=by
 intro wh pins s σ H Q I h;refine isTrue_and (bM (ha pins s σ H Q I h) λc s1 e=>?_);cases c with
 |true=>exact isTrue_and_nil e
 |false=>exact e
theorem Am (ha:PT X a tA):PW X (.BoolOp .Or [a] pos) tA:=by
 intro wh pins s σ H Q I h;refine isTrue_or (bM (ha pins s σ H Q I h) λc s1 e=>?_);cases c with
 |false=>exact isTrue_or_nil e
 |true=>exact e
theorem Fy (ha:PT X a tA)(L:PW X (.BoolOp .And (b::rest) pos) tB'):PW X (.BoolOp .And (a::b::rest) pos) (Jg tA tB'):=by
 intro wh pins s σ H Q I h;refine isTrue_and (bM (ha pins s σ H _ I h) λc s1 ⟨H1,J,q1⟩=>?_);cases c with
 |true=>exact L wh pins s1 σ H1 Q J q1
 |false=>exact⟨H1,J,q1⟩
theorem Es (ha:PT X a tA)(L:PW X (.BoolOp .Or (b::rest) pos) tB'):PW X (.BoolOp .Or (a::b::rest) pos) (JO tA tB'):=by
 intro wh pins s σ H Q I h;refine isTrue_or (bM (ha pins s σ H _ I h) λc s1 ⟨H1,J,q1⟩=>?_);cases c with
 |true=>exact⟨H1,J,q1⟩
 |false=>exact L wh pins s1 σ H1 Q J q1
theorem An (ha:PT X a tA):PT X (.UnaryOp .Not a pos) (Hj tA):=by intro pins s σ H Q I h;exact isTrue_not (ha pins s σ H (λc H1=>Q (!c) H1) I h)
noncomputable def Hk (ta tb:TE):TE:=λσ H Q=>ta σ H λx H1=>∃ c,x=.bl c/\if c=true then tb σ H1 Q else Q (.bl false) H1
noncomputable def Jh (ta tb:TE):TE:=λσ H Q=>ta σ H λx H1=>∃ c,x=.bl c/\if c=true then Q (.bl true) H1 else tb σ H1 Q
noncomputable def Hl (ta:TE):TE:=λσ H Q=>ta σ H λx H1=>∃ c,x=.bl c/\Q (.bl (!c)) H1
theorem Fz {op}{t:TE}(h:PE X a t):PE X (.BoolOp op [a] pos) t:=λpins s σ H Q I J=>BoolOp_one (h pins s σ H Q I J)
theorem FA (ha:PE X a ta)(L:PE X (.BoolOp .And (b::rest) pos) tb):PE X (.BoolOp .And (a::b::rest) pos) (Hk ta tb):=by
 intro pins s σ H Q I h;refine BoolOp_and (bM (ha pins s σ H _ I h) λv s1 ⟨x,H1,J,r1,q1⟩=>?_);obtain⟨c,rfl,q1⟩:=q1;cases r1;refine Lp ?_;cases c with
 |true=>exact L pins s1 σ H1 Q J q1
 |false=>exact⟨.bl false,H1,J,rfl,q1⟩
theorem Hm (ha:PE X a ta)(L:PE X (.BoolOp .Or (b::rest) pos) tb):PE X (.BoolOp .Or (a::b::rest) pos) (Jh ta tb):=by
 intro pins s σ H Q I h;refine BoolOp_or (bM (ha pins s σ H _ I h) λv s1 ⟨x,H1,J,r1,q1⟩=>?_);obtain⟨c,rfl,q1⟩:=q1;cases r1;refine Lp ?_;cases c with
 |false=>exact L pins s1 σ H1 Q J q1
 |true=>exact⟨.bl true,H1,J,rfl,q1⟩
theorem FC (ha:PE X a ta):PE X (.UnaryOp .Not a pos) (Hl ta):=by intro pins s σ H Q I h;refine UnaryOp_ (bM (ha pins s σ H _ I h) λv s1 ⟨x,H1,J,r1,q1⟩=>?_);obtain⟨c,rfl,q1⟩:=q1;cases r1;exact not_of (Lp ⟨.bl (!c),H1,J,rfl,q1⟩)
end
def SqL (K:On)(H:Hp)(a:Addr)(xs:List V):Prop:=
 Rd H a (.lst xs)\/
  ∃(o:Obj)(its:Array Oq)(n:Nat),K.lookup a=some o/\o.cls=.type "list"/\o.dict=none/\o.data=.seq its n/\its.size<=sizeLine/\Vals xs its.toList
def SqT (K:On)(H:Hp)(a:Addr)(xs:List V):Prop:=
 Rd H a (.tup xs)\/
  ∃(o:Obj)(its:Array Oq)(n:Nat),K.lookup a=some o/\o.cls=.type "tuple"/\o.data=.seq its n/\its.size<=sizeLine/\Vals xs its.toList
noncomputable def Ji:Oq->Option V
 | .none=>some .non
 | .bool b=>some (.bl b)
 | .int i _=>some (.int i)
 | .str x _=>some (.str x)
 | .bytes b _=>some (.byt b)
 | .float b _=>some (.flt b)
 | .ref a=>some (.ref a)
 | .type n=>some (.ty n)
 |_=>none
theorem RelV.abs {x:V}{u:Oq}(r:RelV x u):Ji u=some x:=by
 cases x with
 |non=>cases r;rfl
 |bl _=>cases r;rfl
 |int _=>obtain⟨t,rfl⟩:=r;rfl
 |str _=>obtain⟨t,rfl⟩:=r;rfl
 |byt _=>obtain⟨t,rfl⟩:=r;rfl
 |flt _=>obtain⟨t,rfl⟩:=r;rfl
 |ref _=>cases r;rfl
 |ty _=>cases r;rfl
theorem RelV.inj {x y:V}{u:Oq}(r:RelV x u)(q:RelV y u):x=y:=Kx (r.abs.symm.trans q.abs)
theorem Vals.inj:∀{xs ys:List V}{us:List Oq},Vals xs us->Vals ys us->xs=ys
 |_,_,_,.nil,.nil=>rfl
 |_,_,_,.cons r t,.cons J t'=>by rw[r.inj J,Vals.inj t t']
section
variable {X:Cx}{pins:List (Addr×Obj)}{σ:St}{H:Hp}{s:Om}{a:Addr}{xs ys:List V}
theorem SqL.of {K:On}(h:H a=some (.lst xs)):SqL K H a xs:=.inl (.inl h)
theorem SqT.of {K:On}(h:H a=some (.tup xs)):SqT K H a xs:=.inl (.inl h)
theorem Inv.list (I:Inv X pins σ H s)(h:SqL X.K H a xs):∃ its:List Oq,Vals xs its/\PlainL s.heap a its.toArray/\xs.length<=sizeLine:=by
 rcases h with h|⟨o,its,n,J,hc,hd,hs,hz,r⟩
 .obtain⟨z,its,n,r,e⟩:=h.ok I.hok;exact⟨its,r,⟨_,n,e,rfl,rfl,rfl⟩,z⟩
 .refine⟨its.toList,r,⟨o,n,I.kIn a o J,hc,hd,by simpa using hs⟩,?_⟩;have e:=r.length;simp only[K_]at e;lia
theorem Inv.tuple (I:Inv X pins σ H s)(h:SqT X.K H a xs):∃ its:List Oq,Vals xs its/\IsTup s.heap a its.toArray/\xs.length<=sizeLine:=by
 rcases h with h|⟨o,its,n,J,hc,hs,hz,r⟩
 .obtain⟨z,its,r,p⟩:=h.ok I.hok;exact⟨its,r,p,z⟩
 .refine⟨its.toList,r,⟨o,I.kIn a o J,hc,n,by simpa using hs⟩,?_⟩;have e:=r.length;simp only[K_]at e;lia
theorem Inv.list_inj (I:Inv X pins σ H s)(h:SqL X.K H a xs)(h':SqL X.K H a ys):xs=ys:=by
 obtain⟨its,r,⟨o,n,e,_,_,d⟩,_⟩:=I.list h;obtain⟨its',J,⟨o',L,e',_,_,d'⟩,_⟩:=I.list h';rw[e]at e';cases e';rw[d]at d';injection d' with d1 _;have:its=its':=by simpa using LQ Array.toList d1
 subst this;exact r.inj J
theorem Inv.tuple_inj (I:Inv X pins σ H s)(h:SqT X.K H a xs)(h':SqT X.K H a ys):xs=ys:=by
 obtain⟨its,r,⟨o,e,_,n,d⟩,_⟩:=I.tuple h;obtain⟨its',J,⟨o',e',_,L,d'⟩,_⟩:=I.tuple h';rw[e]at e';cases e';rw[d]at d';injection d' with d1 _;have:its=its':=by simpa using LQ Array.toList d1
 subst this;exact r.inj J
end
noncomputable abbrev Cx.wish (X:Cx)(E:Oq->Om->Prop):Cx:={ X with xe:=E }
noncomputable abbrev Cx.nox (X:Cx):Cx:=X.wish λ_ _=>False
theorem Cx.Ok.wish {X:Cx}(ok:X.Ok)(E:Oq->Om->Prop):(X.wish E).Ok:=⟨ok.mod,ok.kind,ok.glob,ok.blt,ok.above,ok.inj,ok.has,ok.cab,ok.hd,ok.frames,ok.stk,ok.exf,ok.bs,ok.bsz,ok.noex,ok.exfs,ok.funs,ok.frf,ok.kt⟩
theorem Cx.Ok.unwish {X:Cx}{E:Oq->Om->Prop}(ok:(X.wish E).Ok):X.Ok:=⟨ok.mod,ok.kind,ok.glob,ok.blt,ok.above,ok.inj,ok.has,ok.cab,ok.hd,ok.frames,ok.stk,ok.exf,ok.bs,ok.bsz,ok.noex,ok.exfs,ok.funs,ok.frf,ok.kt⟩
section
variable {X:Cx}{pins:List (Addr×Obj)}{σ:St}{H:Hp}{s:Om}{E:Oq->Om->Prop}
theorem Inv.wish (I:Inv X pins σ H s)(E:Oq->Om->Prop):Inv (X.wish E) pins σ H s:=⟨I.ok.wish E,I.os,I.bare,I.base,I.loc,I.cell,I.free,I.freeC,I.pin,I.hok,I.len⟩
theorem Inv.unwish (I:Inv (X.wish E) pins σ H s):Inv X pins σ H s:=⟨I.ok.unwish,I.os,I.bare,I.base,I.loc,I.cell,I.free,I.freeC,I.pin,I.hok,I.len⟩
theorem SP.unwish {D:Ends}{f:Flow}{s':Om}(h:SP (X.wish E) pins D f s'):SP X pins D f s':=by
 cases f with
 |next=>obtain⟨J,H',I,q⟩:=h;exact⟨J,H',I.unwish,q⟩
 |brk=>obtain⟨J,H',I,q⟩:=h;exact⟨J,H',I.unwish,q⟩
 |cont=>obtain⟨J,H',I,q⟩:=h;exact⟨J,H',I.unwish,q⟩
 |ret u=>obtain⟨v,J,H',I,r,q⟩:=h;exact⟨v,J,H',I.unwish,r,q⟩
theorem PSs.nox {st:List Stmt}{t:TS}(h:PSs X.nox st t):PSs X st t:=λpins s σ H D I J=>LO (h pins s σ H D (I.wish _) J) (λ_ _ q=>q.unwish) λ_ _ z=>False.elim z
end
section
variable {X:Cx}{st:Stmt}{rest:List Stmt}{t u:TS}{e:Expr}{te:TE}{pos:Pos}
noncomputable def t5:TS:=λD σ H=>D.nx σ H
noncomputable def eU (t u:TS):TS:=λD σ H=>t { D with nx:=u D } σ H
theorem lc:PSs X [] t5:=λ_ _ σ H _ I h=>NV ⟨σ,H,I,h⟩
theorem aO (h1:PS X st t)(h2:PSs X rest u):PSs X (st::rest) (eU t u):=by
 intro pins s σ H D I h;refine wpAny_execs_cons (bM (h1 pins s σ H { D with nx:=u D } I h) λf s1 q=>?_);cases f with
 |next=>obtain⟨J,H',L,q⟩:=q;exact h2 pins s1 J H' D L q
 |ret v=>exact q
 |brk=>exact q
 |cont=>exact q
theorem aP (h1:PS X st t):PSs X [st] t:=by
 intro pins s σ H D I h;refine wpAny_execs_cons (bM (h1 pins s σ H D I h) λf s1 q=>?_);cases f with
 |next=>exact NV q
 |ret v=>exact q
 |brk=>exact q
 |cont=>exact q
theorem Inv.quiet {pins:List (Addr×Obj)}{σ:St}{H:Hp}{s:Om}(I:Inv X pins σ H s):interactive X.env=false:=by simp[interactive,I.ok.kind]
noncomputable def dG (te:TE):TS:=λD σ H=>te σ H λ_ H1=>D.nx σ H1
theorem bK (J:PE X e te)(hs:autoParam (swapsWith e none pos.line X.env=pure false) Oy._auto_1):PS X (.Expr e pos) (dG te):=by intro pins s σ H D I h;exact wpAny_Expr_any (bM (J pins s σ H _ I h) λv s1 ⟨x,H1,L,r1,q1⟩=>⟨σ,H1,L,q1⟩) I.quiet hs
noncomputable def Ao (te:TE):TS:=λD σ H=>te σ H D.rt
theorem oH (J:PE X e te):PS X (.Return (some e) pos) (Ao te):=by intro pins s σ H D I h;exact wpAny_Return_some (bM (J pins s σ H _ I h) λv s1 ⟨x,H1,L,r1,q1⟩=>⟨x,σ,H1,L,r1,q1⟩)
noncomputable def yP (c:TT)(t u:TS):TS:=λD σ H=>c σ H λb H1=>if b=true then t D σ H1 else u D σ H1
theorem qT {c:Expr}{a b:List Stmt}{tc:TT}(hc:PT X c tc)(ha:PSs X a t)(L:PSs X b u):PS X (.If c a b pos) (yP tc t u):=by
 intro pins s σ H D I h;refine wpAny_If (bM (hc pins s σ H _ I h) λd s1 ⟨H1,J,q1⟩=>?_);cases d with
 |true=>exact ha pins s1 σ H1 D J q1
 |false=>exact L pins s1 σ H1 D J q1
end
noncomputable abbrev TG:=V->St->Hp->(St->Hp->Prop)->Prop
noncomputable abbrev Et:=List V->St->Hp->(St->Hp->Prop)->Prop
def PG (X:Cx)(target:Expr)(t:TG):Prop:=
 ∀(pins:List (Addr×Obj))(s:Om)(σ:St)(H:Hp)(v:V)(u:Oq)(Q:St->Hp->Prop),Inv X pins σ H s->RelV v u->t v σ H Q->
  wpAny (model X.prog X.w) X.A (assign target X.env u) (λ_ s'=>∃ J H',Inv X pins J H' s'/\Q J H') X.xe s
def FD (X:Cx)(ts:List Expr)(t:Et):Prop:=
 ∀(pins:List (Addr×Obj))(s:Om)(σ:St)(H:Hp)(vs:List V)(us:List Oq)(Q:St->Hp->Prop),Inv X pins σ H s->Vals vs us->t vs σ H Q->
  wpAny (model X.prog X.w) X.A (assignInOrder ((assignEach ts X.env).map (·.2)) us) (λ_ s'=>∃ J H',Inv X pins J H' s'/\Q J H') X.xe s
section
variable {X:Cx}{pos:Pos}
noncomputable def bx (i:Nat):TG:=λv σ H Q=>Q (σ.set i (some v)) H
theorem bt {i:Nat}{x:Str}(J:X.N.Nodup)(hi:X.N[i]?=some x)(L:Fs X.env.scope x)(hf:autoParam (X.fn x=true\/X.env.scope.names.lookup x=some .local) Ou._auto_1):PG X (.Name x pos) (bx i):=by intro pins s σ H v u Q I r h;exact wpAny_assign_Name (t3 I J hi L r (λs' O=>⟨_,H,O,h⟩) hf)
noncomputable def rV:Et:=λvs σ H Q=>vs=[]/\Q σ H
noncomputable def cT (t:TG)(u:Et):Et:=λvs σ H Q=>∃ v r,vs=v::r/\t v σ H λJ H'=>u r J H' Q
theorem eV:FD X [] rV:=by intro pins s σ H vs us Q I r h;obtain⟨e,h⟩:=h;subst e;cases r;exact assignInOrder_nil ⟨σ,H,I,h⟩
theorem ay {e:Expr}{es:List Expr}{t:TG}{u:Et}(h1:PG X e t)(h2:FD X es u)
 (hs:autoParam ((assignEach (e::es) X.env).map (·.2)=assign e X.env::(assignEach es X.env).map (·.2)) Oy._auto_1):FD X (e::es) (cT t u):=by
 intro pins s σ H vs us Q I r h;obtain⟨v,W,e1,h⟩:=h;subst e1;cases r with
 |cons r L=>rw[hs];refine assignInOrder_cons (bM (h1 pins s σ H _ _ _ I r h) λ_ s1 ⟨J,H1,O,q1⟩=>?_);exact h2 pins s1 J H1 _ _ Q O L q1
noncomputable def rW (K:On)(n:Nat)(t:Et):TG:=λv σ H Q=>∃ a xs,v=.ref a/\SqT K H a xs/\xs.length=n/\t xs σ H Q
theorem hZ {es:List Expr}{k:Nat}{t:Et}{n:Nat}(hc:X.calm=true)(h:FD X es t)
 (hn:autoParam ((assignEach es X.env).length=n) Oy._auto_1) (J:autoParam ((assignEach es X.env).findIdx? (·.1)=none) Oy._auto_1):PG X (.Tuple es k pos) (rW X.K n t):=by
 intro pins s σ H v u Q I r L;obtain⟨a,xs,e1,W,Y,L⟩:=L;subst e1;cases r;obtain⟨its,O,Z,hz⟩:=I.tuple W;refine assign_Tuple_tuple (I.ok.hd hc) Z (by simp[hn,<- Y,O.length]) J λh' hx=>?_;have I1:Inv X pins σ H { s with heap:=h' }:=I.kept (t':=s.toks) λb o e=>hx b o (Kt (Kk e)) e;exact h pins _ σ H xs _ Q I1 (by simpa using O) L
noncomputable def qC (te:TE)(g:TG):TS:=λD σ H=>te σ H λx H1=>g x σ H1 D.nx
theorem FE {tg e:Expr}{te:TE}{g:TG}(J:PE X e te)(L:PG X tg g)(hs:autoParam (swapsWithSole [tg] e pos.line X.env=pure false) Oy._auto_1)(O:autoParam (swappedStores [tg] e X.env=pure none) Oy._auto_1)
 (h1:autoParam ((assignEach [tg] X.env).map (·.2)=[assign tg X.env]) Oy._auto_1):PS X (.Assign [tg] e pos) (qC te g):=by
 intro pins s σ H D I h;refine wpAny_Assign_stores (bM (J pins s σ H _ I h) λv s1 ⟨x,H1,W,r1,q1⟩=>?_) hs O;rw[h1];exact bM (L pins s1 σ H1 x v _ W r1 q1) λ_ s2 q=>q
theorem iN {i:Nat}{x:Str}{e:Expr}{te:TE}{pos':Pos}(J:X.N.Nodup)(hi:X.N[i]?=some x)(L:Fs X.env.scope x)(O:PE X e te)(hs:autoParam (swapsWith e (some (.Name x pos')) pos.line X.env=pure false) Oy._auto_1)(hf:autoParam (X.fn x=true\/X.env.scope.names.lookup x=some .local) Ou._auto_1) :
 PS X (.Assign [.Name x pos'] e pos) (qC te (bx i)):=by
 intro pins s σ H D I h;refine wpAny_Assign_Name (bM (O pins s σ H _ I h) λv s1 ⟨y,H1,W,r1,q1⟩=>?_) hs;exact t3 W J hi L r1 (λs2 Y=>⟨_,H1,Y,q1⟩) hf
noncomputable def Ap (c:TT)(tb:TS):TS:=λD σ H=>∃ W:Nat->St->Hp->Prop,(∃ m,W m σ H)/\∀ m σ H,W m σ H->
 c σ H λb H1=>if b=true then ∃ N:St->Hp->Prop,(∀ J H',N J H'->∃ m',m'<m/\W m' J H')/\tb { D with nx:=N,ct:=N,bk:=D.nx } σ H1 else D.nx σ H1
theorem Aq {c:Expr}{body:List Stmt}{tc:TT}{tb:TS}(hp:PassesOwn (model X.prog X.w) X.A X.env X.xe)(hc:PT X c tc)(hb:PSs X body tb):PS X (.While c body [] pos) (Ap tc tb):=by
 intro pins s σ H D I h;obtain⟨W,⟨m0,w0⟩,turn⟩:=h;refine wpAny_While (codeAny_whileLoop (λn s'=>∃ O H',Inv X pins O H' s'/\W n O H') ?_ m0 ⟨σ,H,I,w0⟩);rintro n s1 ⟨L,H1,I1,w1⟩;refine Mz hp (bM (hc pins s1 L H1 _ I1 (turn n L H1 w1)) λb s2 ⟨H2,I2,q2⟩=>?_);cases b with
 |true=>
  obtain⟨N,hN,q2⟩:=q2;rw[Ka rfl];refine Mz hp (bM (hb pins s2 L H2 _ I2 q2) λf s3 Y=>?_);cases f with
  |next=>obtain⟨J,H3,Z,n3⟩:=Y;obtain⟨m',hm,w3⟩:=hN J H3 n3;exact⟨m',hm,J,H3,Z,w3⟩
  |cont=>obtain⟨J,H3,Z,n3⟩:=Y;obtain⟨m',hm,w3⟩:=hN J H3 n3;exact⟨m',hm,J,H3,Z,w3⟩
  |brk=>exact Y
  |ret v=>exact Y
 |false=>rw[J_ KN];exact NV ⟨L,H2,I2,q2⟩
end
structure It where
 go:Nat->Hp->Prop
 yld:Nat->Hp->V->Hp->Prop
 stop:Nat->Hp->Prop
def FpOk (X:Cx)(pins:List (Addr×Obj))(H:Hp)(b:Addr):Prop:=H b=none/\b≠X.env.locals/\b∉X.fs/\(b∈X.ex\/X.s₀.heap.objs.size<=b)/\(∀ x c,X.env.cells.lookup x=some c->c≠b)/\∀ p∈X.pn++pins,p.1≠b
theorem Inv.fpOk {X:Cx}{pins:List (Addr×Obj)}{σ:St}{H H':Hp}{s:Om}{b:Addr}(I:Inv X pins σ H s)(J:s.heap.objs.size<=b)(hn:H' b=none):FpOk X pins H' b:=by
 refine⟨hn,Nh (Kz I.lt J),I.nofs J,.inr (Ku I.sz J),λx c e z=>?_,λp L z=>?_⟩
 .obtain⟨v,q⟩:=I.cell x c e;exact absurd (Kz q.lt (by rw[z];exact J)) (MH _)
 .exact absurd (Kz (Kk (I.pin p L).1) (by rw[z];exact J)) (MH _)
structure Turn (P:Oo) (w:World) (K:On) (tg:Expr) (J:It) (fp:List Addr) (it:Addr) (tn:Nat->Heap->Prop):Prop where
 mem:it∈fp
 obj:∀ i h,tn i h->∀ b∈fp,∃ o,h.get? b=some o/\∀ v,o.data≠.cell v
 keep:∀ i h h',tn i h->(∀ b∈fp,∀ o,h.get? b=some o->h'.get? b=some o)->tn i h'
 item:∀(X:Cx),X.prog=P->X.w=w->X.K=K->X.calm=true->∀(i:Nat)(pins:List (Addr×Obj))(s:Om)(σ:St)(H:Hp)(E:Oq->Om->Prop),Inv X pins σ H s->(∀ b∈fp,FpOk X pins H b)->tn i s.heap->J.go i H->
  wpAny (model P w) X.A (pyNext (.ref it)) (λr s1=>∃ u,r=some u/\
   wpAny (model P w) X.A (letOwnedTupleGo tg (.ref it) u) (λ_ s2=>∃ x H',Inv X pins σ H' s2/\RelV x u/\J.yld i H x H'/\tn (i+1) s2.heap/\∀ b∈fp,H' b=none) E s1) E s
 done:∀(X:Cx),X.prog=P->X.w=w->X.K=K->X.calm=true->∀(i:Nat)(pins:List (Addr×Obj))(s:Om)(σ:St)(H:Hp)(E:Oq->Om->Prop),Inv X pins σ H s->(∀ b∈fp,FpOk X pins H b)->tn i s.heap->J.stop i H->
  wpAny (model P w) X.A (pyNext (.ref it)) (λr s1=>r=none/\Inv X pins σ H s1) E s
 self:∀(A:Os)(i:Nat)(s:Om)(Q:Oq->Om->Prop)(E:Oq->Om->Prop),tn i s.heap->Q (.ref it) s->wpAny (model P w) A (pyIter (.ref it)) Q E s
noncomputable abbrev TI:=St->Hp->(It->Hp->Prop)->Prop
def Jj (X:Cx)(pins:List (Addr×Obj))(σ:St)(tg:Expr)(R:It->Hp->Prop)(L:Oq)(s2:Om):Prop:=∃(it:Addr)(fp:List Addr)(tn:Nat->Heap->Prop)(J:It)(H':Hp),L=.ref it/\Inv X pins σ H' s2/\Turn X.prog X.w X.K tg J fp it tn/\tn 0 s2.heap/\(∀ b∈fp,FpOk X pins H' b)/\R J H'
def PI (X:Cx)(tg iter:Expr)(wi:TI):Prop:=
 ∀(pins:List (Addr×Obj))(s:Om)(σ:St)(H:Hp)(R:It->Hp->Prop),Inv X pins σ H s->wi σ H R->
  wpAny (model X.prog X.w) X.A (eval iter X.env) (λv s1=>wpAny (model X.prog X.w) X.A (pyIter v) (Jj X pins σ tg R) X.xe s1) X.xe s
theorem Ar {M:Model}{A:Os}{E:Oq->Om->Prop}{s:Om}{tg:Expr}{it:Addr}{u:Oq}{o:Obj}{n:String}{vs:Array Oq}{Q:Unit->Om->Prop}(L:s.heap.get? it=some o)(hc:o.cls=.type n)(hd:o.data=.fields vs)
 (hn:["enumerate", "zip", "dict_itemiterator", "dict_reverseitemiterator", "odict_iterator", "itertools.zip_longest", "itertools.pairwise"].contains n=false) (J:Q () s):wpAny M A (letOwnedTupleGo tg (.ref it) u) Q E s:=by
 unfold letOwnedTupleGo;cases tg<;>first
  |exact J7 J
  |(cases u<;>first
     |exact J7 J
     |(refine J4 (wpAny_load L ?_)
       rw[hc,hd];show wpAny M A (if (["enumerate", "zip", "dict_itemiterator", "dict_reverseitemiterator", "odict_iterator", "itertools.zip_longest", "itertools.pairwise"].contains n&&vs[0]?==some (rawInt _))=true then _ else _) Q E s;rw[J_ (by intro h;rw[hn,Lo]at h;cases h)];exact J7 J))
noncomputable def v4 (K:On)(a:Addr):It:=⟨λi H=>∃ xs x,SqL K H a xs/\xs[i]?=some x,λi H x H'=>H'=H/\∀ xs,SqL K H a xs->xs[i]?=some x,λi H=>∃ xs,SqL K H a xs/\xs.length<=i⟩
noncomputable def Jk (K:On)(a:Addr):It:=⟨λi H=>∃ xs x,SqT K H a xs/\xs[i]?=some x,λi H x H'=>H'=H/\∀ xs,SqT K H a xs->xs[i]?=some x,λi H=>∃ xs,SqT K H a xs/\xs.length<=i⟩
noncomputable def I_ (lo:Int)(n:Nat):It:=⟨λi _=>i<n,λi H x H'=>H'=H/\x=.int (lo+i),λi _=>n<=i⟩
theorem qU {P:Oo}{w:World}{K:On}{tg:Expr}(a it:Addr):Turn P w K tg (v4 K a) [it] it (λi h=>h.IsListIter it a i) where
 mem:=by simp
 obj:=λi h st b hb=>by
  have e:b=it:=by simpa using hb
  subst e;obtain⟨o,e,c,d⟩:=st;exact⟨o,e,λv z=>by rw[d]at z;cases z⟩
 keep:=λi h h' st k=>st.at λo e=>k it (by simp) o e
 item:=by intro X hP hw hK hc i pins s σ H E I hf st hg;subst hP hw hK;obtain⟨xs,x,hq,hx⟩:=hg;obtain⟨its,rv,p,hz⟩:=I.list hq;obtain⟨u,hu,ru⟩:=rv.get hx;obtain⟨f0,f1,f2,f3,f4,f5⟩:=hf it (by simp);refine wpAny_pyNext_list_item st p.isList (x:=u) (by simpa using hu) λh' st' sb=>?_;have I1:Inv X pins σ H { s with heap:=h' }:=I.turned (t':=s.toks) (λb o hb e=>(sb.2 b hb).trans e) f0 f1 f3 f4 f5;obtain⟨o,e,c,d⟩:=id st';exact⟨u,rfl,Ar (s:={ s with heap:=h' }) e c d (by decide) ⟨x,H,I1,ru,⟨rfl,λys hy=>by rw[I.list_inj hy hq];exact hx⟩,st',λb hb=>(hf b hb).1⟩⟩
 done:=by intro X hP hw hK hc i pins s σ H E I hf st hg;subst hP hw hK;obtain⟨xs,hq,hx⟩:=hg;obtain⟨its,rv,p,hz⟩:=I.list hq;obtain⟨f0,f1,f2,f3,f4,f5⟩:=hf it (by simp);have hl:=rv.length;exact wpAny_pyNext_list_end (I.ok.hd hc) st p.isList (by simp;lia) λh' eb=>⟨rfl,I.turned (t':=s.toks) (λb o hb e=>eb b o hb e) f0 f1 f3 f4 f5⟩
 self:=λ_ _ _ _ _ st h=>wpAny_pyIter_listiter st h
theorem v5 {P:Oo}{w:World}{K:On}{tg:Expr}(a it:Addr):Turn P w K tg (Jk K a) [it] it (λi h=>h.IsTupleIter it a i) where
 mem:=by simp
 obj:=λi h st b hb=>by
  have e:b=it:=by simpa using hb
  subst e;obtain⟨o,e,c,d⟩:=st;exact⟨o,e,λv z=>by rw[d]at z;cases z⟩
 keep:=λi h h' st k=>st.at λo e=>k it (by simp) o e
 item:=by intro X hP hw hK hc i pins s σ H E I hf st hg;subst hP hw hK;obtain⟨xs,x,hq,hx⟩:=hg;obtain⟨its,rv,p,hz⟩:=I.tuple hq;obtain⟨u,hu,ru⟩:=rv.get hx;obtain⟨f0,f1,f2,f3,f4,f5⟩:=hf it (by simp);refine wpAny_pyNext_tuple_item st (show s.heap.IsTuple a its.toArray from p) (x:=u) (by simpa using hu) λh' st' sb=>?_;have I1:Inv X pins σ H { s with heap:=h' }:=I.turned (t':=s.toks) (λb o hb e=>(sb.2 b hb).trans e) f0 f1 f3 f4 f5;obtain⟨o,e,c,d⟩:=id st';exact⟨u,rfl,Ar (s:={ s with heap:=h' }) e c d (by decide) ⟨x,H,I1,ru,⟨rfl,λys hy=>by rw[I.tuple_inj hy hq];exact hx⟩,st',λb hb=>(hf b hb).1⟩⟩
 done:=by intro X hP hw hK hc i pins s σ H E I hf st hg;subst hP hw hK;obtain⟨xs,hq,hx⟩:=hg;obtain⟨its,rv,p,hz⟩:=I.tuple hq;obtain⟨f0,f1,f2,f3,f4,f5⟩:=hf it (by simp);have hl:=rv.length;exact wpAny_pyNext_tuple_end (I.ok.hd hc) st (show s.heap.IsTuple a its.toArray from p) (by simp;lia) λh' eb=>⟨rfl,I.turned (t':=s.toks) (λb o hb e=>eb b o hb e) f0 f1 f3 f4 f5⟩
 self:=λ_ _ _ _ _ st h=>wpAny_pyIter_tupleiter st h
theorem v6 {P:Oo}{w:World}{K:On}{tg:Expr}(it:Addr)(lo:Int)(n:Nat):Turn P w K tg (I_ lo n) [it] it (λi h=>IsRangeIter h it (lo+(i:Nat)*1) ((n:Int)-(i:Nat)) 1) where
 mem:=by simp
 obj:=λi h st b hb=>by
  have e:b=it:=by simpa using hb
  subst e;exact⟨_,st,λv z=>by have z':Data.fields _=Data.cell v:=z;cases z'⟩
 keep:=λi h h' st k=>k it (by simp) _ st
 item:=by intro X hP hw hK hc i pins s σ H E I hf st hg;subst hP hw hK;obtain⟨f0,f1,f2,f3,f4,f5⟩:=hf it (by simp);have W:=Walks.range (prog:=X.prog) (w:=X.w) (I.ok.hd hc) it lo 1 n;refine W.item i s _ _ hg st λv h' tk hv st' kk=>?_;obtain⟨t,rfl⟩:=hv;have I1:Inv X pins σ H { s with heap:=h',toks:=tk }:=I.turned (λb o hb e=>kk b o (by simpa using hb) e) f0 f1 f3 f4 f5;refine⟨_,rfl,Ar (s:={ s with heap:=h',toks:=tk }) (n:="range_iterator") st' rfl rfl (by decide) ⟨.int (lo+i),H,I1,⟨t,?_⟩,⟨rfl,rfl⟩,st',λb hb=>(hf b hb).1⟩⟩;rw[Int.mul_one]
 done:=by intro X hP hw hK hc i pins s σ H E I hf st hg;subst hP hw hK;obtain⟨f0,f1,f2,f3,f4,f5⟩:=hf it (by simp);exact wpAny_pyNext_range_end (I.ok.hd hc) st (by have:n<=i:=hg;lia) λh' eb=>⟨rfl,I.turned (t':=s.toks) (λb o hb e=>eb b o hb e) f0 f1 f3 f4 f5⟩
 self:=λ_ _ _ _ _ st h=>wpAny_pyIter_rangeiter st h
section
variable {X:Cx}{tg:Expr}
noncomputable def lg (K:On)(tl:TE):TI:=λσ H R=>tl σ H λx H1=>∃ a,x=.ref a/\(∃ xs,SqL K H1 a xs)/\R (v4 K a) H1
theorem h7 {l:Expr}{tl:TE}(L:PE X l tl):PI X tg l (lg X.K tl):=by
 intro pins s σ H R I h;refine bM (L pins s σ H _ I h) λv s1 ⟨x,H1,J,r1,q1⟩=>?_;obtain⟨a,e,⟨xs,O⟩,q⟩:=q1;subst e;cases r1;obtain⟨its,Y,p,hz⟩:=J.list O;refine MV p.isList ?_;refine⟨s1.heap.objs.size,[s1.heap.objs.size],_,_,H1,rfl,J.kept (t':=s1.toks) λb o e=>J5 _ e,qU a _,⟨_,Kh _ rfl,rfl,rfl⟩,λb W=>?_,q⟩;have e:b=s1.heap.objs.size:=by simpa using W
 subst e;exact J.fpOk (J6 _) (J.hok.fresh (J6 _))
theorem As {pins:List (Addr×Obj)}{σ:St}{H:Hp}{s:Om}{R:It->Hp->Prop}{E:Oq->Om->Prop}{lo hi:Int}{t u v:Tok}{tk:Nat}(I:Inv X pins σ H s)(h1:-(2 ^ 62)<=lo)(h2:lo<2 ^ 62)(L:-(2 ^ 62)<=hi)(O:hi<2 ^ 62)
 (q:R (I_ lo (hi-lo).toNat) H):wpAny (model X.prog X.w) X.A (pyIter (.ref s.heap.objs.size)) (Jj X pins σ tg R) E { s with heap:=s.heap.push { cls:=.type "range",data:=.fields #[.int lo t,.int hi u,.int 1 v] },toks:=tk }:=by
 refine wpAny_pyIter_range (IsRange.new ..) (small_one h1 h2 L O) ?_;have J:Inv X pins σ H { s with heap:=s.heap.push { cls:=.type "range",data:=.fields #[.int lo t,.int hi u,.int 1 v] },toks:=tk }:=I.kept λb o e=>J5 _ e;refine⟨(s.heap.push { cls:=.type "range",data:=.fields #[.int lo t,.int hi u,.int 1 v] }).objs.size,[(s.heap.push { cls:=.type "range",data:=.fields #[.int lo t,.int hi u,.int 1 v] }).objs.size],_,_,H,rfl,
  J.kept (t':=tk) λb o e=>J5 _ e,v6 _ lo (hi-lo).toNat,?_,λb W=>?_,q⟩
 .have e1:lo+((0:Nat):Int)*1=lo:=by simp
  have e2:(((hi-lo).toNat:Nat):Int)-((0:Nat):Int)=Builtin.Range.rangeSize lo hi 1:=by rw[rangeSize_one];split<;>lia
  show IsRangeIter _ _ (lo+((0:Nat):Int)*1) ((((hi-lo).toNat:Nat):Int)-((0:Nat):Int)) 1;rw[e1,e2];exact Kh _ rfl
 .have e:b=(s.heap.push { cls:=.type "range",data:=.fields #[.int lo t,.int hi u,.int 1 v] }).objs.size:=by simpa using W
  subst e;exact J.fpOk (J6 _) (J.hok.fresh (J6 _))
noncomputable def Ho (ta:TA):TI:=λσ H R=>ta σ H λvs H1=>∃ j:Int,vs=[.int j]/\-(2 ^ 62)<=j/\j<2 ^ 62/\R (I_ 0 j.toNat) H1
theorem yQ {a:Expr} {ta:TA} {p pos:Pos} (J:Gl X "range") (hm:X.mg "range"=none) (ha:PA X [a] ta) (hs:autoParam (starEach [a] X.env=[(false,eval a X.env)]) Oy._auto_1):PI X tg (.Call (.Name "range" p) [a] [] pos) (Ho ta):=by
 intro pins s σ H R I h;refine Call_ (kG I J hm boot_range (LG (bM (ha pos pins s σ H _ I h) λus s1 ⟨vs,H1,L,r1,q1⟩=>?_) hs rfl));obtain⟨j,e,q1,q2,q⟩:=q1;subst e;cases r1 with
 |cons r O=>cases O;obtain⟨t,rfl⟩:=r;exact call_range_1 (As L (by lia) (by lia) q1 q2 (by simpa using q))
noncomputable def oJ (wi:TI)(g:TG)(tb:TS):TS:=λD σ H=>wi σ H λJ H1=>∃ W:Nat->Nat->St->Hp->Prop,(∃ m,W 0 m σ H1)/\∀ i m σ H,W i m σ H->
 (J.stop i H/\D.nx σ H)\/(J.go i H/\∃ N:St->Hp->Prop,(∀ L H',N L H'->∃ m',m'<m/\W (i+1) m' L H')/\∀ x H',J.yld i H x H'->g x σ H' λO H2=>tb { D with nx:=N,ct:=N,bk:=D.nx } O H2)
noncomputable def oK (fp:List Addr)(h:Heap):List (Addr×Obj):=fp.filterMap λb=>(h.get? b).map λo=>(b,o)
theorem h8 {fp:List Addr}{h:Heap}{b:Addr}{o:Obj}(J:b∈fp)(e:h.get? b=some o):(b,o)∈oK fp h:=MQ.mpr ⟨b,J,by rw[e];rfl⟩
theorem yR {fp:List Addr}{h:Heap}{p:Addr×Obj}(J:p∈oK fp h):p.1∈fp/\h.get? p.1=some p.2:=by
 obtain⟨b,L,e⟩:=MQ.mp J;cases q:h.get? b with
 |none=>rw[q]at e;cases e
 |some o=>rw[q]at e;have e':(b,o)=p:=Kx e;subst e';exact⟨L,q⟩
theorem Inv.pinned {pins:List (Addr×Obj)}{σ:St}{H:Hp}{s:Om}{fp:List Addr}(I:Inv X pins σ H s)(hf:∀ b∈fp,FpOk X pins H b)(L:∀ b∈fp,∃ o,s.heap.get? b=some o/\∀ v,o.data≠.cell v):Inv X (pins++oK fp s.heap) σ H s:=I.pins_of λp O=>(Kr.mp O).elim (λz=>I.pin p (KD _ z)) λz=>by obtain⟨J,e⟩:=yR z;obtain⟨f0,f1,f2,_⟩:=hf p.1 J;obtain⟨o,e',d⟩:=L p.1 J;rw[e]at e';cases e';exact⟨e,f0,f1,f2,d⟩
theorem Inv.unpinned {pins pl:List (Addr×Obj)}{σ:St}{H:Hp}{s:Om}(I:Inv X (pins++pl) σ H s):Inv X pins σ H s:=I.pins_of λp J=>I.pin p (KD _ (KC _ J))
theorem gJ {iter:Expr}{body:List Stmt}{wi:TI}{g:TG}{tb:TS}{pos:Pos}(hp:PassesOwn (model X.prog X.w) X.A X.env X.xe)(hc:X.calm=true)(hi:PI X tg iter wi)(hg:PG X tg g)(O:PSs X body tb)
 (hs:autoParam (∀ x,foldedSetIterable iter X.env x=pure x) Ow._auto_1):PS X (.For tg iter body [] pos) (oJ wi g tb):=by
 intro pins s σ H D I h;refine wpAny_For (bM (hi pins s σ H _ I h) λv s1 h1=>bM h1 λitv s2 h2=>?_) hs;obtain⟨it,fp,tn,J,H2,e,I2,T,st2,f2,W,⟨m0,w0⟩,turn⟩:=h2;subst e;have stat:∀{H':Hp},(∀ b∈fp,H' b=none)->∀ b∈fp,FpOk X pins H' b:=λhn b O=>⟨hn b O,(f2 b O).2⟩;refine codeAny_forLoop_any (λn s'=>∃ i Y H',Inv X pins Y H' s'/\tn i s'.heap/\(∀ b∈fp,H' b=none)/\W i n Y H') ?_ m0 ⟨0,σ,H2,I2,st2,λb O=>(f2 b O).1,w0⟩;rintro n s3 ⟨i,Z,H3,I3,st3,fr3,w3⟩;rcases turn i n Z H3 w3 with⟨stop,qn⟩|⟨go,N,hN,step⟩
 .refine Mz hp (bM (T.done X rfl rfl rfl hc i pins s3 Z H3 X.xe I3 (stat fr3) st3 stop) λr s4 ⟨hr,I4⟩=>?_);subst hr;exact NV ⟨Z,H3,I4,qn⟩
 .refine Mz hp (bM (T.item X rfl rfl rfl hc i pins s3 Z H3 X.xe I3 (stat fr3) st3 go) λr s4 ⟨u,hr,h4⟩=>?_);subst hr;refine Mz hp (bM h4 λ_ s5 ⟨x,H5,I5,r5,y5,st5,fr5⟩=>?_);have I5':=I5.pinned (stat fr5) (T.obj _ _ st5);refine Mz hp (bM (hg _ s5 Z H5 x u _ I5' r5 (step x H5 y5)) λ_ s6 ⟨σ6,H6,I6,q6⟩=>?_);refine Mz hp (bM (O _ s6 σ6 H6 _ I6 q6) λf s7 q7=>?_);have again:∀{L:St}{H7:Hp},Inv X (pins++oK fp s5.heap) L H7 s7->N L H7->∃ m,m<n/\∃ i Y H',Inv X pins Y H' s7/\tn i s7.heap/\(∀ b∈fp,H' b=none)/\W i m Y H':=λ{L H7} I7 n7=>by obtain⟨m',hm,w7⟩:=hN L H7 n7;refine⟨m',hm,i+1,L,H7,I7.unpinned,T.keep _ _ _ st5 λb O o e=>(I7.pin (b,o) (KD _ (KD _ (h8 O e)))).1,λb O=>?_,w7⟩;obtain⟨o,e,d⟩:=T.obj _ _ st5 b O;exact(I7.pin (b,o) (KD _ (KD _ (h8 O e)))).2.1
  cases f with
  |next=>obtain⟨L,H7,I7,n7⟩:=q7;exact again I7 n7
  |cont=>obtain⟨L,H7,I7,n7⟩:=q7;exact again I7 n7
  |brk=>obtain⟨L,H7,I7,q7⟩:=q7;exact⟨L,H7,I7.unpinned,q7⟩
  |ret v=>obtain⟨x7,L,H7,I7,r7,q7⟩:=q7;exact⟨x7,L,H7,I7.unpinned,r7,q7⟩
end
theorem t7 {K:On}{a:Addr}{xs:List V}{g:TG}{tb:TS}{D:Ends}{σ:St}{H:Hp}(J:Nat->St->Hp->Prop)(h0:J 0 σ H)(Z:∀ i σ H,i<=xs.length->J i σ H->SqL K H a xs)
 (hs:∀ i x σ H,xs[i]?=some x->J i σ H->g x σ H λL H2=>tb { D with nx:=J (i+1),ct:=J (i+1),bk:=D.nx } L H2) (hd:∀ σ H,J xs.length σ H->D.nx σ H) :
 ∃ W:Nat->Nat->St->Hp->Prop,(∃ m,W 0 m σ H)/\∀ i m σ H,W i m σ H->
  ((v4 K a).stop i H/\D.nx σ H)\/((v4 K a).go i H/\∃ N:St->Hp->Prop,(∀ O H',N O H'->∃ m',m'<m/\W (i+1) m' O H')/\∀ x H',(v4 K a).yld i H x H'->g x σ H' λL H2=>tb { D with nx:=N,ct:=N,bk:=D.nx } L H2):=by
 refine⟨λi m σ H=>m=xs.length-i/\i<=xs.length/\J i σ H,⟨xs.length,by simp,KF _,h0⟩,?_⟩;rintro i m σ H ⟨rfl,hi,p⟩;have q:=Z i σ H hi p;by_cases Y:i<xs.length
 .refine .inr ⟨⟨xs,xs[i],q,by simp[Y]⟩,J (i+1),λO H' p'=>⟨xs.length-(i+1),by lia,rfl,Y,p'⟩,λx H' y=>?_⟩;obtain⟨e,y⟩:=y;subst e;exact hs i x σ _ (y xs q) p
 .have e:i=xs.length:=by lia
  subst e;exact .inl ⟨⟨xs,q,J6 _⟩,hd σ H p⟩
noncomputable abbrev R2:=V->V->Hp->VK->Prop
def OpR (X:Cx)(f:Oq->Oq->Sem Oq)(r:R2):Prop:=
 ∀(pins:List (Addr×Obj))(s:Om)(σ:St)(H:Hp)(x y:V)(v u:Oq)(Q:VK),Inv X pins σ H s->RelV x v->RelV y u->r x y H Q->
  wpAny (model X.prog X.w) X.A (f v u) (EP X pins σ Q) X.xe s
def CallR (X:Cx)(f:Oq)(r:List V->Hp->VK->Prop):Prop:=
 ∀(pins:List (Addr×Obj))(s:Om)(σ:St)(H:Hp)(xs:List V)(us:List Oq)(Q:VK),Inv X pins σ H s->Vals xs us->r xs H Q->
  wpAny (model X.prog X.w) X.A (call f us) (EP X pins σ Q) X.xe s
def Jl (X:Cx)(r:V->Hp->(Bool->Hp->Prop)->Prop):Prop:=
 ∀(pins:List (Addr×Obj))(s:Om)(σ:St)(H:Hp)(x:V)(v:Oq)(Q:Bool->Hp->Prop),Inv X pins σ H s->RelV x v->r x H Q->
  wpAny (model X.prog X.w) X.A (truthy v) (TP X pins σ Q) X.xe s
noncomputable def lZ (r:R2)(ta tb:TE):TE:=λσ H Q=>ta σ H λx H1=>tb σ H1 λy H2=>r x y H2 Q
noncomputable def rI (C:Int->Int->Prop)(g:Int->Int->V):R2:=λx y H Q=>∃ i j,x=.int i/\y=.int j/\C i j/\Q (g i j) H
noncomputable def xw (g:Int->Int->V):R2:=λx y H Q=>∃ i j,x=.int i/\y=.int j/\Q (g i j) H
section
variable {X:Cx}{a b c:Expr}{ta tb tc:TE}{pos:Pos}
theorem FG (ha:PE X a ta)(O:PE X b tb){pins:List (Addr×Obj)}{s:Om}{σ:St}{H:Hp}{R:V->V->Hp->Prop}(I:Inv X pins σ H s)
 (h:ta σ H λx H1=>tb σ H1 λy H2=>R x y H2) {Q:Oq->Om->Prop} {f:Oq->Oq->Sem Oq}
 (hf:∀ v u s2 x y H2,Inv X pins σ H2 s2->RelV x v->RelV y u->R x y H2->wpAny (model X.prog X.w) X.A (f v u) Q X.xe s2) :
 wpAny (model X.prog X.w) X.A (eval a X.env) (λv J=>wpAny (model X.prog X.w) X.A (eval b X.env) (λu L=>wpAny (model X.prog X.w) X.A (f v u) Q X.xe L) X.xe J) X.xe s:=by
 refine bM (ha pins s σ H _ I h) λv s1 ⟨x,H1,W,r1,q1⟩=>?_;refine bM (O pins s1 σ H1 _ W q1) λu s2 ⟨y,H2,Y,r2,q2⟩=>?_;exact hf v u s2 x y H2 Y r1 r2 q2
theorem oM {op:Operator}{r:R2}(J:OpR X (binaryOp op) r)(ha:PE X a ta)(L:PE X b tb):PE X (.BinOp a op b pos) (lZ r ta tb):=by intro pins s σ H Q I h;exact wpAny_BinOp (FG ha L I h λv u s2 x y H2 O W Y q=>J pins s2 σ H2 x y v u Q O W Y q)
theorem Ja {f:Oq->Oq->Sem Oq}{C:Int->Int->Prop}{g:Int->Int->Int}
 (rule:∀(i j:Int)(t u:Tok)(s:Om)(Q:Oq->Om->Prop)(E:Oq->Om->Prop),C i j->Q (.int (g i j) s.toks) { s with toks:=s.toks+1 }->wpAny (model X.prog X.w) X.A (f (.int i t) (.int j u)) Q E s) :
 OpR X f (rI C λi j=>.int (g i j)):=by
 intro pins s σ H x y v u Q I J L h;obtain⟨i,j,rfl,rfl,hc,q⟩:=h;obtain⟨t,rfl⟩:=J;obtain⟨t',rfl⟩:=L;exact rule i j t t' s _ _ hc ⟨.int (g i j),H,I.tok _,⟨_,rfl⟩,q⟩
theorem FH {f:Oq->Oq->Sem Oq}{g:Int->Int->Int}
 (rule:∀(i j:Int)(t u:Tok)(s:Om)(Q:Oq->Om->Prop)(E:Oq->Om->Prop),Q (.int (g i j) s.toks) { s with toks:=s.toks+1 }->wpAny (model X.prog X.w) X.A (f (.int i t) (.int j u)) Q E s) :
 OpR X f (xw λi j=>.int (g i j)):=by
 intro pins s σ H x y v u Q I J L h;obtain⟨i,j,rfl,rfl,q⟩:=h;obtain⟨t,rfl⟩:=J;obtain⟨t',rfl⟩:=L;exact rule i j t t' s _ _ ⟨.int (g i j),H,I.tok _,⟨_,rfl⟩,q⟩
theorem CO {f:Oq->Oq->Sem Oq}{g:Int->Int->Bool}
 (rule:∀(i j:Int)(t u:Tok)(s:Om)(Q:Oq->Om->Prop)(E:Oq->Om->Prop),Q (.bool (g i j)) s->wpAny (model X.prog X.w) X.A (f (.int i t) (.int j u)) Q E s) :
 OpR X f (xw λi j=>.bl (g i j)):=by
 intro pins s σ H x y v u Q I J L h;obtain⟨i,j,rfl,rfl,q⟩:=h;obtain⟨t,rfl⟩:=J;obtain⟨t',rfl⟩:=L;exact rule i j t t' s _ _ ⟨.bl (g i j),H,I,rfl,q⟩
def Hq (i j:Int):Prop:=0<j/\j<1073741824
def CMul (i j:Int):Prop:=(-(2 ^ 64)<i/\i<2 ^ 64)\/(-(2 ^ 64)<j/\j<2 ^ 64)
theorem CMul.ok {i j:Int}(h:CMul i j):IntMulOk i j:=by
 rcases h with⟨h1,h2⟩|⟨h1,h2⟩
 .exact .of_left (intBits_le_64 h1 h2)
 .exact .of_right (intBits_le_64 h1 h2)
theorem v7 (k:Nat):(0:Int)<=2 ^ k:=by rw[two_pow_cast];exact Int.natCast_nonneg _
theorem op_add:OpR X (binaryOp .Add) (xw λi j=>.int (i+j)):=FH λ_ _ _ _ _ _ _ q=>add_int q
theorem FI:OpR X (binaryOp .Mult) (rI CMul λi j=>.int (i*j)):=Ja λ_ _ _ _ _ _ _ hc q=>mul_int q hc.ok
theorem CS:OpR X (binaryOp .FloorDiv) (rI Hq λi j=>.int (i / j)):=Ja λi j _ _ _ _ _ hc q=>by have h1:(0:Int)<j:=hc.1;have h2:j<1073741824:=hc.2;exact floordiv_int (by lia) (by rw[MZ i (by lia)];exact q) (.inl (PyProof.noPylong_small (by lia)))
theorem FJ:OpR X (binaryOp .Mod) (rI (λ_ j=>0<j) λi j=>.int (i % j)):=Ja λi j _ _ _ _ _ hc q=>by have h1:(0:Int)<j:=hc;exact mod_int' (by lia) (by rw[Int.fmod_eq_emod_of_nonneg i (by lia)];exact q)
theorem FK:OpR X (binaryOp .RShift) (rI (λ_ j=>0<=j) λi j=>.int (i / 2 ^ j.toNat)):=Ja λi j _ _ _ _ _ hc q=>rshift_int hc (by rw[MZ i (v7 _)];exact q)
theorem FL:OpR X (binaryOp .BitAnd) (xw λi j=>.int (Builtin.bitAnd i j)):=FH λ_ _ _ _ _ _ _ q=>and_int q
theorem FM:OpR X (binaryOp .BitXor) (xw λi j=>.int (Builtin.bitXor i j)):=FH λ_ _ _ _ _ _ _ q=>xor_int q
end
noncomputable def Jm:V->V->Bool
 | .non,.non=>true|.non,.int _=>true|.int _,.non=>true|.non,.bl _=>true|.bl _,.non=>true|.non,.str _=>true|.str _,.non=>true
 | .int _,.int _=>true|.bl _,.bl _=>true|.str _,.str _=>true|.byt _,.byt _=>true
 | .int _,.str _=>true|.str _,.int _=>true|.bl _,.str _=>true|.str _,.bl _=>true
 |_,_=>false
noncomputable def Hr:R2:=λx y H Q=>Jm x y=true/\Q (.bl (decide (x=y))) H
theorem CT {i j:Int}:decide (V.int i=V.int j)=(i==j):=by rw[Mm];simp
theorem FN {i j:Bool}:decide (V.bl i=V.bl j)=(i==j):=by rw[Mm];simp
theorem CU {i j:Str}:decide (V.str i=V.str j)=(i==j):=by rw[Mm];simp
theorem CV {i j:Array UInt8}:decide (V.byt i=V.byt j)=(i.toList==j.toList):=by rw[Mm];cases i;cases j;simp
section
variable {X:Cx}{a b c:Expr}{ta tb tc:TE}{pos:Pos}
theorem cu {pins:List (Addr×Obj)}{σ:St}{H:Hp}{s:Om}{Q:VK}{k J:Bool}(I:Inv X pins σ H s)(q:Q (.bl k) H)(e:k=J):EP X pins σ Q (.bool J) s:=by subst e;exact⟨.bl k,H,I,rfl,q⟩
theorem xx:OpR X (compareOp .Eq) Hr:=by
 intro pins s σ H x y v u Q I L J h;obtain⟨hs,q⟩:=h;cases x with
 |non=>
  cases L;cases y with
  |non=>cases J;exact PySem.EqNone.eq_none_none (cu I q (by simp))
  |bl j=>cases J;exact PySem.EqNone.eq_none_bool (cu I q (by simp))
  |int j=>obtain⟨t',rfl⟩:=J;exact PySem.EqNone.eq_none_int (cu I q (by simp))
  |str j=>obtain⟨t',rfl⟩:=J;exact PySem.EqNone.eq_none_str (cu I q (by simp))
  |_=>exact absurd (show false=true from hs) KN
 |bl i=>
  cases L;cases y with
  |non=>cases J;exact PySem.EqNone.eq_bool_none (cu I q (by simp))
  |bl j=>cases J;exact eq_bool (cu I q FN)
  |str j=>obtain⟨t',rfl⟩:=J;exact PySem.EqMixed.eq_bool_str (cu I q (by simp))
  |_=>exact absurd (show false=true from hs) KN
 |int i=>
  obtain⟨t,rfl⟩:=L;cases y with
  |non=>cases J;exact PySem.EqNone.eq_int_none (cu I q (by simp))
  |int j=>obtain⟨t',rfl⟩:=J;exact eq_int (cu I q CT)
  |str j=>obtain⟨t',rfl⟩:=J;exact PySem.EqMixed.eq_int_str (cu I q (by simp))
  |_=>exact absurd (show false=true from hs) KN
 |str i=>
  obtain⟨t,rfl⟩:=L;cases y with
  |non=>cases J;exact PySem.EqNone.eq_str_none (cu I q (by simp))
  |bl j=>cases J;exact PySem.EqMixed.eq_str_bool (cu I q (by simp))
  |int j=>obtain⟨t',rfl⟩:=J;exact PySem.EqMixed.eq_str_int (cu I q (by simp))
  |str j=>obtain⟨t',rfl⟩:=J;exact eq_str (cu I q CU)
  |_=>exact absurd (show false=true from hs) KN
 |byt i=>
  obtain⟨t,rfl⟩:=L;cases y with
  |byt j=>obtain⟨t',rfl⟩:=J;exact PySem.W.eq_bytes (cu I q CV)
  |_=>exact absurd (show false=true from hs) KN
 |_=>cases y<;>exact absurd (show false=true from hs) KN
theorem Eu:OpR X (compareOp .Lt) (xw λi j=>.bl (decide (i<j))):=CO λ_ _ _ _ _ _ _ q=>lt_int q
theorem Hu:OpR X (compareOp .LtE) (xw λi j=>.bl (decide (i<=j))):=CO λ_ _ _ _ _ _ _ q=>le_int q
theorem Ew:OpR X (compareOp .Gt) (xw λi j=>.bl (decide (j<i))):=CO λ_ _ _ _ _ _ _ q=>gt_int q
theorem Hv:OpR X (compareOp .GtE) (xw λi j=>.bl (decide (j<=i))):=CO λ_ _ _ _ _ _ _ q=>ge_int q
theorem FO:OpR X (compareOp .Is) (λx y H Q=>y=.non/\Q (.bl (decide (x=.non))) H):=by
 intro pins s σ H x y v u Q I J L h;obtain⟨rfl,q⟩:=h;cases L;refine is_none_gen (cu I q ?_);cases x<;>first
  |(cases J;rfl)
  |(obtain⟨t,rfl⟩:=J;rfl)
theorem OpR.or {f:Oq->Oq->Sem Oq}{r J:R2}(h:OpR X f r)(h':OpR X f J):OpR X f (λx y H Q=>r x y H Q\/J x y H Q):=by
 intro pins s σ H x y v u Q I L O q;rcases q with q|q
 .exact h pins s σ H x y v u Q I L O q
 .exact h' pins s σ H x y v u Q I L O q
theorem aY (b:Expr){op:CmpOp}(h:autoParam (op≠.In) Ot._auto_1)(h2:autoParam (op≠.NotIn) Ot._auto_1):behindInMarks op b=false:=by
 have e1:(op==CmpOp.In)=false:=by cases op<;>first|rfl|exact absurd rfl h
 have e2:(op==CmpOp.NotIn)=false:=by cases op<;>first|rfl|exact absurd rfl h2
 cases b<;>simp[behindInMarks,e1,e2]
theorem xy {op:CmpOp}{r:R2}(J:OpR X (compareOp op) r)(ha:PE X a ta)(L:PE X b tb)(hm:behindInMarks op b=false):PE X (.Compare a [op] [b] pos) (lZ r ta tb):=by intro pins s σ H Q I h;exact wpAny_Compare1 (FG ha L I h λv u s2 x y H2 O W Y q=>J pins s2 σ H2 x y v u Q O W Y q) hm
noncomputable def mL (t:TE):TT:=λσ H Q=>t σ H λx H'=>∃ k,x=.bl k/\Q k H'
theorem h_ {op:CmpOp}{r:R2}(J:OpR X (compareOp op) r)(ha:PE X a ta)(L:PE X b tb)(hm:behindInMarks op b=false):PT X (.Compare a [op] [b] pos) (mL (lZ r ta tb)):=by intro pins s σ H Q I h;refine wpAny_isTrue_Compare1 (bM (ha pins s σ H _ I h) λv s1 ⟨x,H1,O,r1,q1⟩=>bM (L pins s1 σ H1 _ O q1) λu s2 ⟨y,H2,W,r2,q2⟩=>bM (J pins s2 σ H2 x y v u _ W r1 r2 q2) λc s3 ⟨z,H3,Y,r3,k,e,Z⟩=>?_) hm;subst e;cases r3;exact Lp ⟨H3,Y,Z⟩
noncomputable def Au (r J:R2)(ta tb tc:TE):TE:=λσ H Q=>ta σ H λx H1=>tb σ H1 λy H2=>r x y H2 λz H3=>∃ k,z=.bl k/\
 (if k=true then tc σ H3 λL O=>J y L O Q else Q (.bl false) H3)
theorem Av {op J:CmpOp}{r O:R2}(Z:OpR X (compareOp op) r)(L:OpR X (compareOp J) O)(ha:PE X a ta)(hb:PE X b tb)(hc:PE X c tc)
 (hm:lastMarks [op,J] [b,c]=false:=by with_unfolding_all rfl):PT X (.Compare a [op,J] [b,c] pos) (mL (Au r O ta tb tc)):=by
 intro pins s σ H Q I h;refine isTrue_chain (bM (ha pins s σ H _ I h) λv s1 ⟨x,H1,I1,r1,q1⟩=>test_link (bM (hb pins s1 σ H1 _ I1 q1) λu s2 ⟨y,H2,I2,r2,q2⟩=>bM (Z pins s2 σ H2 x y v u _ I2 r1 r2 q2) λd s3 ⟨z,H3,W,r3,k,e,Y⟩=>?_)) hm;subst e;cases r3;refine Lp ?_;cases k with
 |false=>obtain⟨k',e',q'⟩:=Y;cases e';exact ite_ff ⟨H3,W,q'⟩
 |true=>refine ite_tt (test_last (bM (hc pins s3 σ H3 _ W Y) λw' s4 ⟨z',H4,I4,r4,q4⟩=>bM (L pins s4 σ H4 y z' u w' _ I4 r2 r4 q4) λd' s5 ⟨z2,H5,I5,r5,k2,e2,q5⟩=>?_));subst e2;cases r5;exact Lp ⟨H5,I5,q5⟩
def FP (K:On)(x:V)(H:Hp)(k:Bool):Prop:=
 match x with
 | .non=>k=false
 | .bl b=>k=b
 | .int i=>k=(i != 0)
 | .str y=>y.length<=sizeLine/\k=((y.length:Int) != 0)
 | .byt y=>y.size<=sizeLine/\k=((y.size:Int) != 0)
 | .ref p=>(∃ xs,SqL K H p xs/\k=!xs.isEmpty)\/(∃ xs,SqT K H p xs/\k=!xs.isEmpty)\/∃ kvs,H p=some (.dK kvs)/\k=!kvs.isEmpty
 |_=>False
theorem v8 {κ:Type}{kvs:List (κ×V)}{vs:List (κ×Oq)}(r:KV kvs vs):(!vs.isEmpty)=!kvs.isEmpty:=by cases r<;>rfl
theorem oN {xs:List V}{its:List Oq}(r:Vals xs its):(!its.toArray.isEmpty)=!xs.isEmpty:=by cases r<;>simp
theorem l7:(sizeLine:Nat)<2 ^ 63:=by rw[KL];decide
theorem FQ:Jl X (λx H Q=>∃ k,FP X.K x H k/\Q k H):=by
 intro pins s σ H x v Q I J h;obtain⟨k,e,q⟩:=h;have hl:=l7;have hs:sizeLine=16777216:=KL;cases x with
 |non=>cases J;have e':k=false:=e;subst e';exact truthy_none ⟨H,I,q⟩
 |bl b=>cases J;have e':k=b:=e;subst e';exact Lp ⟨H,I,q⟩
 |int i=>obtain⟨t,rfl⟩:=J;have e':k=(i != 0):=e;subst e';exact PySem.P.truthy_int ⟨H,I,q⟩
 |str y=>obtain⟨t,rfl⟩:=J;obtain⟨Y,e'⟩ : y.length<=sizeLine/\k=((y.length:Int) != 0):=e;subst e';exact PySem.P.truthy_str (by lia) ⟨H,I.tok _,q⟩
 |byt y=>obtain⟨t,rfl⟩:=J;obtain⟨Y,e'⟩ : y.size<=sizeLine/\k=((y.size:Int) != 0):=e;subst e';exact PySem.W.truthy_bytes (by lia) ⟨H,I.tok _,q⟩
 |ref p=>
  cases J;have e':(∃ xs,SqL X.K H p xs/\k=!xs.isEmpty)\/(∃ xs,SqT X.K H p xs/\k=!xs.isEmpty)\/∃ kvs,H p=some (.dK kvs)/\k=!kvs.isEmpty:=e;rcases e' with⟨xs,L,e'⟩|⟨xs,L,e'⟩|⟨kvs,L,e'⟩
  .subst e';obtain⟨its,r,pl,hz⟩:=I.list L;have O:=r.length;exact wpAny_truthy_list pl.isList (by simp only[Kf];lia) ⟨H,I.tok _,by rw[oN r];exact q⟩
  .subst e';obtain⟨its,r,pl,hz⟩:=I.tuple L;have O:=r.length;exact truthy_tuple pl (by simp only[Kf];lia) ⟨H,I.tok _,by rw[oN r];exact q⟩
  .subst e';obtain⟨hz,Z,vs,r,m⟩ : kvs.length<=sizeLine/\(p==sysModules)=false/\∃ vs,KV kvs vs/\s.heap.DictOf (aE X.prog X.w) p vs:=I.hok p _ L;have O:kvs.length=vs.length:=Nq r;exact wpAny_truthy_dict Z m (by lia) ⟨H,I.tok _,by rw[v8 r];exact q⟩
 |_=>exact(show False from e).elim
theorem Aw (ha:PE X a ta)(J:∀ whole,isTrue a X.env whole=(do let v <- whole;standAt a.pos;holding [v] (truthy v))) :
 PT X a (λσ H Q=>ta σ H λx H'=>∃ k,FP X.K x H' k/\Q k H'):=by
 intro pins s σ H Q I h;exact isTrue_plain (bM (ha pins s σ H _ I h) λv s1 ⟨x,H1,L,r1,q1⟩=>FQ pins s1 σ H1 x v Q L r1 q1) (J _)
theorem v9:OpR X (binaryOp .Add) (λx y H Q=>∃ i j,x=.str i/\y=.str j/\i.length+j.length<=sizeLine/\Q (.str (i++j)) H):=by intro pins s σ H x y v u Q I J L h;obtain⟨i,j,rfl,rfl,hz,q⟩:=h;obtain⟨t,rfl⟩:=J;obtain⟨t',rfl⟩:=L;exact add_str (λt' tk=>⟨.str (i++j),H,I.tok _,⟨_,rfl⟩,q⟩) hz
theorem fV {x:V}{us:List Oq}(r:Vals [x] us):∃ u,us=[u]/\RelV x u:=by
 cases r with
 |cons r1 r2=>cases r2;exact⟨_,rfl,r1⟩
theorem xA {x y:V}{us:List Oq}(r:Vals [x,y] us):∃ u J,us=[u,J]/\RelV x u/\RelV y J:=by
 cases r with
 |cons r1 r2=>
  cases r2 with
  |cons r3 r4=>cases r4;exact⟨_,_,rfl,r1,r3⟩
theorem yS:CallR X (.type "int") (λxs H Q=>(∃ i,xs=[.int i]/\Q (.int i) H)\/∃ k,xs=[.bl k]/\Q (.int (if k then 1 else 0)) H):=by
 intro pins s σ H xs us Q I r h;rcases h with⟨i,rfl,q⟩|⟨k,rfl,q⟩
 .obtain⟨u,rfl,t,rfl⟩:=fV r;exact call_int_int ⟨.int i,H,I,⟨_,rfl⟩,q⟩
 .obtain⟨u,rfl,r1⟩:=fV r;cases r1;exact call_int_bool ⟨.int (if k then 1 else 0),H,I.tok _,⟨_,rfl⟩,q⟩
theorem t8:CallR X (.builtin "divmod") (λxs H Q=>∃ i j,xs=[.int i,.int j]/\Hq i j/\∀ p,H p=none->Q (.ref p) (aI H p (.tup [.int (i / j),.int (i % j)]))):=by intro pins s σ H xs us Q I r h;obtain⟨i,j,rfl,⟨h1,h2⟩,q⟩:=h;obtain⟨u,J,rfl,⟨t,rfl⟩,⟨t',rfl⟩⟩:=xA r;refine divmod_int (by lia) ?_ (.inl (PyProof.noPylong_small (by lia)));rw[MZ i (by lia),Int.fmod_eq_emod_of_nonneg i (by lia)];have hn:H s.heap.objs.size=none:=I.hok.fresh (J6 _);refine⟨.ref s.heap.objs.size,_,?_,rfl,q _ hn⟩;refine I.laid (λb o e=>J5 _ e) (J6 _) ⟨by simp only[Kl,KU];rw[KL];decide,[.int (i / j) s.toks,.int (i % j) (s.toks+1)],.cons ⟨_,rfl⟩ (.cons ⟨_,rfl⟩ .nil),?_⟩;exact⟨_,Kh s.heap rfl,rfl,0,rfl⟩
end
structure ObjM (h:Heap) (x dx C:Addr) (mA:Str->Option Oq):Prop where
 obj:h.get? x=some (PySem.W.instObj C dx)
 ns:h.Ns1 dx mA
 ne:dx≠x
theorem yT {h:Heap}{dx:Addr}{mA:Str->Option Oq}(n:h.Ns1 dx mA):∃ od,h.get? dx=some od/\∀ name,PySem.W.lookIn name od=some (mA name):=by
 obtain⟨o,es,ep,J,hd,L,_,hm⟩:=n;refine⟨o,J,λname=>?_⟩;have e:=hm name;unfold nsFind findBy at e;rw[<- Array.find?_toList]at e;unfold PySem.W.lookIn;rw[hd];dsimp only;split
 .rename_i y q;rw[q]at e;exact LQ some e
 .rename_i q;rw[q]at e;have a:es.toList.any (·.refKey)=false:=by rw[List.any_eq_false];intro y O;obtain⟨z,t,Y⟩:=L y (Array.mem_toList_iff.mp O);simp[DictEntry.refKey,Y]
  have Z:¬ es.toList.any (·.refKey)=true:=by rw[a];exact KN
  rw[J_ Z];exact LQ some e
theorem ObjM.look {h:Heap}{x dx C:Addr}{mA:Str->Option Oq}(I:ObjM h x dx C mA):∃ od,PySem.W.InstAt h x (PySem.W.instObj C dx) C (some od)/\∀ name,PySem.W.lookIn name od=some (mA name):=
 let ⟨od,J,L⟩:=yT I.ns
 ⟨od,⟨I.obj,rfl,rfl,J⟩,L⟩
section
variable {prog:Oo}{w:World}{A:Os}{E:Oq->Om->Prop}{s:Om}{K:On}{x dx C f:Addr}{mA:Str->Option Oq}{name:Str}{v:Oq}
theorem CW {expr:Bool}{Q:Oq->Om->Prop}(X:K.In s.heap)(I:ObjM s.heap x dx C mA)(O:PySem.W.plainGet K C name=true)(Y:PySem.W.hasDictIn K C=true)
 (ha:PySem.W.findIn K (.ref C) name=some none) (Z:mA name=some v) (L:PySem.W.handedIn v=true) (h:Q v { s with toks:=s.toks+1 }) :
 wpAny (model prog w) A (getAttr (.ref x) name expr) Q E s:=by
 obtain⟨od,J,hl⟩:=I.look;exact PySem.W.get_value X J (NW O).1 (PySem.W.findObj_own Y ha rfl (by rw[hl,Z])) L h
theorem Ax {pl:Sem Bool}{Q:Oq×List Oq->Om->Prop}(X:K.In s.heap)(I:ObjM s.heap x dx C mA)(L:PySem.W.plainGet K C name=true)
 (hf:PySem.W.findIn K (.ref C) name=some (some (.ref f))) (O:PySem.W.isFn K (.ref f)=true) (Y:mA name=none) (h:Q (.ref f,[.ref x]) s) :
 wpAny (model prog w) A (getMethod (.ref x) name pl) Q E s:=by
 obtain⟨od,J,Z⟩:=I.look;exact PySem.W.method_fn X J (NW L).1 (NW L).2 hf (L1.mp O) (by show(PySem.W.lookIn name od).map (·.isSome)=some false;rw[Z,Y];rfl) h
theorem CY {ns:List Str}{Q:Unit->Om->Prop}(X:K.In s.heap)(I:ObjM s.heap x dx C mA)
 (hs:PySem.W.findIn K (.ref C) "__setattr__"=some (some (.builtin "object.__setattr__"))) (hp:PySem.W.plainOver K C=true) (ht:PySem.W.takerIn K C name=some none) (hh:PySem.W.hasDictIn K C=true)
 (hw:PySem.Within mA ns) (hsz:ns.length<=sizeLine)
 (h:∀ h',ObjM h' x dx C (λy=>if y=name then some v else mA y)->Heap.SameBut dx s.heap h'->Q () { s with heap:=h',toks:=s.toks+2 }) :
 wpAny (model prog w) A (setAttr (.ref x) name v) Q E s:=by
 obtain⟨od,J,hl⟩:=I.look;refine PySem.W.set_plain X J hs (PySem.W.osa_open (s:={ s with toks:=s.toks+1 }) (r:=none) X J hp ht λb=>?_);obtain⟨cd,hc,Y⟩:=PySem.W.any_some hh;have hx:s.heap.get? x=some ⟨.ref C,some dx,.plain,#[]⟩:=I.obj;refine J4 (J7 (J4 (J4 (wpAny_loadPart hx (J4 (PySem.W.Looks.here (s:={ s with toks:=s.toks+1 }) (PySem.W.looks_clsIn X hc) ?_))))));rw[Y];refine J7 (a:=some dx) (J4 (J7 (J4 ?_)));refine wpAny_nsSet1 (s:={ s with toks:=s.toks+1 }) I.ns λh' L O=>?_;obtain⟨oD,esD,epD,Z,hdD,hcD⟩:=L.count (PySem.Within.cons name v hw);refine J4 (wpAny_lookBehind Z (by rw[hdD];exact pastItsLine_dict (Ku hcD (by rw[Kl];lia))) ?_);exact J7 (h _ ⟨(O.2 _ (K9 I.ne)).trans I.obj,L,I.ne⟩ O)
theorem Ay {R:Result->Om->Prop}{vs:List Oq}{kw:List (Str×Oq)}(X:K.In s.heap)(hm:PySem.W.makesIn K C=true)
 (hi:PySem.W.findIn K (.ref C) "__init__"=some (some (.ref f))) (hf:PySem.W.typeIn K (.ref f)=some (.type "function"))
 (h:codeAny (model prog w) (A.under (.builtin "type.__call__" ⟨.ref C::vs,kw⟩)) (.call (.ref f) ⟨.ref (s.heap.objs.size+1)::vs,kw⟩) (PySem.W.InitBack (s.heap.objs.size+1) R)
   { s with heap:=(s.heap.push PySem.W.emptyDict).push (PySem.W.instObj C s.heap.objs.size) }) :
 codeAny (model prog w) A (.call (.ref C) ⟨vs,kw⟩) R s:=by
 obtain⟨J,g,d,t,os⟩:=s;exact PySem.W.make_core (PySem.W.makes_of X hm) (PySem.W.looks_findIn X hi) (λself=>PySem.W.bind_fn X self hf) (.inl rfl) h
end
noncomputable def fU (f:Str)(v:V):List (Str×V)->List (Str×V)
 | []=>[(f,v)]
 |(g,x)::r=>if g=f then (g,v)::r else (g,x)::fU f v r
theorem mM (f g:Str)(v:V):∀ fs:List (Str×V),(fU f v fs).lookup g=if g=f then some v else fs.lookup g
 | []=>by
  show List.lookup g [(f,v)]=_;by_cases h:g=f
  .have J:(g==f)=true:=L1.mpr h;simp only[List.lookup,J,Ka h]
  .have J:(g==f)=false:=Li.mpr h;simp only[List.lookup,J,J_ h]
 |(k,x)::r=>by
  have O:=mM f g v r;rw[show fU f v ((k,x)::r)=(if k=f then (k,v)::r else (k,x)::fU f v r) from rfl];by_cases L:k=f
  .rw[Ka L];by_cases h:g=k
   .have J:(g==k)=true:=L1.mpr h;simp only[List.lookup,J,Ka (h.trans L)]
   .have J:(g==k)=false:=Li.mpr h;simp only[List.lookup,J,J_ (λe:g=f=>h (e.trans L.symm))]
  .rw[J_ L];by_cases h:g=k
   .have J:(g==k)=true:=L1.mpr h;simp only[List.lookup,J,J_ (λe:g=f=>L (h.symm.trans e))]
   .have J:(g==k)=false:=Li.mpr h;simp only[List.lookup,J];exact O
theorem l9 (f:Str)(v:V):∀ fs:List (Str×V),f∈(fU f v fs).map (·.1)/\∀ g,g∈fs.map (·.1)->g∈(fU f v fs).map (·.1)
 | []=>⟨by simp[fU],λg h=>by simp at h⟩
 |(k,x)::r=>by
  obtain⟨i1,i2⟩:=l9 f v r;rw[show fU f v ((k,x)::r)=(if k=f then (k,v)::r else (k,x)::fU f v r) from rfl];by_cases J:k=f
  .rw[Ka J];subst J;exact⟨by simp,λg h=>by simpa using h⟩
  .rw[J_ J];refine⟨?_,λg h=>?_⟩
   .rw[Kc];exact J8 _ i1
   .rw[Kc]at h ⊢;rcases Kb.mp h with e|e
    .exact Kb.mpr (.inl e)
    .exact J8 _ (i2 g e)
theorem mP (f:Str)(v:V):∀ fs:List (Str×V),(fU f v fs).length<=fs.length+1
 | []=>by simp[fU]
 |(k,x)::r=>by
  have L:=mP f v r;rw[show fU f v ((k,x)::r)=(if k=f then (k,v)::r else (k,x)::fU f v r) from rfl];by_cases J:k=f
  .rw[Ka J,Kl,Kl];lia
  .rw[J_ J,Kl,Kl];lia
theorem RelO.some_of {v:V}{o:Option Oq}(r:RelO (some v) o):∃ u,o=some u/\RelV v u:=by
 cases o with
 |none=>exact(show False from r).elim
 |some u=>exact⟨u,rfl,r⟩
theorem RelO.none_of {o:Option Oq}(r:RelO none o):o=none:=by
 cases o with
 |none=>rfl
 |some u=>exact(show False from r).elim
theorem yU {v:V}{u:Oq}(r:RelV v u):PySem.W.handedIn u=true:=by
 cases v with
 |non=>cases (show u=Value.none from r);rfl
 |bl b=>cases (show u=Value.bool b from r);rfl
 |int i=>obtain⟨t,e⟩:=(show ∃ t,u=Value.int i t from r);cases e;rfl
 |str x=>obtain⟨t,e⟩:=(show ∃ t,u=Value.str x t from r);cases e;rfl
 |byt b=>obtain⟨t,e⟩:=(show ∃ t,u=Value.bytes b t from r);cases e;rfl
 |flt b=>obtain⟨t,e⟩:=(show ∃ t,u=Value.float b t from r);cases e;rfl
 |ref a=>cases (show u=Value.ref a from r);rfl
 |ty n=>cases (show u=Value.type n from r);rfl
section
variable {P:Oo}{w:World}{H H':Hp}{h h':Heap}{a C dx:Addr}{fs fs':List (Str×V)}
theorem oi (hok:HOk P w H h)(e:H a=some (.ins C dx fs)):∃ mA,ObjM h a dx C mA/\(∀ f,RelO (fs.lookup f) (mA f))/\PySem.Within mA (fs.map (·.1))/\fs.length<=1000/\H dx=some (.own a):=by obtain⟨d,z,ne,J,mA,n,r,q⟩:=(show ObjOk P w H h a (.ins C dx fs) from hok a _ e);exact⟨mA,⟨J,n,ne⟩,r,q,z,d⟩
end
structure Cls (K:On) (C:Addr):Prop where
 pg:PySem.W.plainGet K C Str.empty=true
 hd:PySem.W.hasDictIn K C=true
 po:PySem.W.plainOver K C=true
 sa:PySem.W.findIn K (.ref C) "__setattr__"=some (some (.builtin "object.__setattr__"))
theorem Cls.get {K:On}{C:Addr}(c:Cls K C)(f:Str):PySem.W.plainGet K C f=true:=c.pg
def NoAttr (K:On)(C:Addr)(f:Str):Prop:=PySem.W.findIn K (.ref C) f=some none
theorem NoAttr.taker {K:On}{C:Addr}{f:Str}(n:NoAttr K C f):PySem.W.takerIn K C f=some none:=by unfold PySem.W.takerIn;rw[show PySem.W.findIn K (.ref C) f=some none from n];rfl
structure Meth (K:On) (C:Addr) (m:Str) (f:Addr):Prop where
 at_:PySem.W.findIn K (.ref C) m=some (some (.ref f))
 fn:PySem.W.isFn K (.ref f)=true
 kp:PySem.W.keepIn K (.ref f)=true
section
variable {X:Cx}{pins:List (Addr×Obj)}{σ:St}{H:Hp}{s:Om}{a C dx:Addr}{fs:List (Str×V)}{f:Str}{v:V}{A:Os}{E:Oq->Om->Prop}
theorem v_ {b:Bool}{Q:Oq->Om->Prop}(I:Inv X pins σ H s)(e:H a=some (.ins C dx fs))(c:Cls X.K C)(n:NoAttr X.K C f)(l:fs.lookup f=some v)
 (h:∀ u s',Inv X pins σ H s'->RelV v u->Q u s'):wpAny (model X.prog X.w) A (getAttr (.ref a) f b) Q E s:=by
 obtain⟨mA,O,r,_,_,_⟩:=oi I.hok e;obtain⟨u,L,J⟩:=RelO.some_of (v:=v) (o:=mA f) (by rw[<- l];exact r f);exact CW I.kIn O (c.get f) c.hd n L (yU J) (h u _ (I.tok _) J)
theorem oO {m:Str}{g:Addr}{pl:Sem Bool}{Q:Oq×List Oq->Om->Prop}(I:Inv X pins σ H s)(e:H a=some (.ins C dx fs))(c:Cls X.K C)(k:Meth X.K C m g)(l:fs.lookup m=none)
 (h:Q (.ref g,[.ref a]) s):wpAny (model X.prog X.w) A (getMethod (.ref a) m pl) Q E s:=by
 obtain⟨mA,O,r,_,_,_⟩:=oi I.hok e;have hn:mA m=none:=RelO.none_of (by rw[<- l];exact r m);exact Ax I.kIn O (c.get m) k.at_ k.fn hn h
theorem wa {y:V}{u:Oq}{Q:Unit->Om->Prop}(I:Inv X pins σ H s)(e:H a=some (.ins C dx fs))(c:Cls X.K C)(n:NoAttr X.K C f)(hl:fs.length<1000)(W:RelV y u)
 (h:∀ s',Inv X pins σ (aI H a (.ins C dx (fU f y fs))) s'->Q () s'):wpAny (model X.prog X.w) A (setAttr (.ref a) f u) Q E s:=by
 obtain⟨mA,O,r,wi,_,L⟩:=oi I.hok e;have hz:(fs.map (·.1)).length<=sizeLine:=by rw[J9,KL];lia
 refine CY I.kIn O c.sa c.po n.taker c.hd wi hz λh' J Y=>h _ ?_;have hd:∃ o,h'.get? dx=some o:=let ⟨o,_,_,e',_⟩:=J.ns;⟨o,e'⟩;refine I.write (x:=a) (e:=dx) (by rw[e];exact True.intro) (.inr L) (λb q Z z=>(Y.2 b Z).trans z) hd ?_;refine⟨by rw[ac O.ne];exact L,?_,O.ne,J.obj,_,J.ns,λg=>?_,λg hg=>?_⟩
 .have:=mP f y fs;lia
 .show RelO ((fU f y fs).lookup g) (if g=f then some u else mA g);rw[mM];by_cases q:g=f
  .rw[Ka q,Ka q];exact W
  .rw[J_ q,J_ q];exact r g
 .by_cases q:g=f
  .rw[q];exact(l9 f y fs).1
  .refine(l9 f y fs).2 g (wi g λz=>hg ?_);show(if g=f then some u else mA g)=none;rw[J_ q];exact z
theorem Inv.made (I:Inv X pins σ H s):Inv X pins σ (aI (aI H s.heap.objs.size (.own (s.heap.objs.size+1))) (s.heap.objs.size+1) (.ins C s.heap.objs.size []))
 { s with heap:=(s.heap.push PySem.W.emptyDict).push (PySem.W.instObj C s.heap.objs.size) }:=by
 have e1:(s.heap.push PySem.W.emptyDict).get? s.heap.objs.size=some PySem.W.emptyDict:=Kh s.heap rfl;have e2:((s.heap.push PySem.W.emptyDict).push (PySem.W.instObj C s.heap.objs.size)).get? (s.heap.objs.size+1)=some (PySem.W.instObj C s.heap.objs.size):=by
  have:=Kh (s.heap.push PySem.W.emptyDict) (o:=PySem.W.instObj C s.heap.objs.size) rfl
  rwa [Ms]at this
 have e3:(s.heap.push PySem.W.emptyDict).Ns s.heap.objs.size (λ_=>none):=⟨PySem.W.emptyDict,#[],_,e1,rfl,(λe J=>absurd J (by simp)),λ_=>rfl⟩;have L:=I.laid (a:=s.heap.objs.size) (o:=.own (s.heap.objs.size+1)) (h':=s.heap.push PySem.W.emptyDict) (t':=s.toks) (λb u q=>J5 _ q) (J6 _) ⟨_,e1⟩;refine L.laid (a:=s.heap.objs.size+1) (o:=.ins C s.heap.objs.size []) (t':=s.toks) (λb u q=>J5 _ q) (N4 (Ms _ _)) ?_;have ne:s.heap.objs.size≠s.heap.objs.size+1:=Kt (Mo _);refine⟨by rw[ac ne,af],KF _,ne,e2,λ_=>none,(Heap.Ns1.of_empty e3).at λo q=>J5 _ q,λ_=>True.intro,λy O=>absurd rfl O⟩
theorem CZ {prog:Oo}{w:World}{env:Env}{e:Expr}{f:Str}{pos:Pos}{s:Om}{Q:Oq->Om->Prop}(L:attributeBase e f env (eval e env)=eval e env)
 (h:wpAny (model prog w) A (eval e env) (λo J=>wpAny (model prog w) A (getAttr o f true) Q E J) E s):wpAny (model prog w) A (eval (.Attribute e f pos) env) Q E s:=
 Attribute_any_ h (by rw[arm_eval_Attribute,L])
end
noncomputable def fy (K:On)(ta:TE)(f:Str):TE:=λσ H Q=>ta σ H λx H1=>∃ a C dx fs v,x=.ref a/\H1 a=some (.ins C dx fs)/\Cls K C/\NoAttr K C f/\fs.lookup f=some v/\Q v H1
noncomputable def rX (K:On)(ta tv:TE)(f:Str):TS:=λD σ H=>tv σ H λy H1=>ta σ H1 λx H2=>∃ a C dx fs,x=.ref a/\H2 a=some (.ins C dx fs)/\Cls K C/\NoAttr K C f/\fs.length<1000/\
 D.nx σ (aI H2 a (.ins C dx (fU f y fs)))
section
variable {X:Cx}{o e value:Expr}{f:Str}{pos pos' qA:Pos}{ta tv:TE}
theorem b_ (J:PE X e ta)(L:attributeBase e f X.env (eval e X.env)=eval e X.env):PE X (.Attribute e f pos) (fy X.K ta f):=by intro pins s σ H Q I h;refine CZ L (bM (J pins s σ H _ I h) λu s1 ⟨x,H1,O,W,a,C,dx,fs,v,ex,Y,c,n,l,q⟩=>?_);subst ex;obtain rfl:u=Value.ref a:=W;exact v_ O Y c n l λu' s2 Z ru=>⟨v,H1,Z,ru,q⟩
theorem iO (ha:PE X o ta)(J:PE X value tv)(hs:swapsWith value (some (.Attribute o f pos')) pos.line X.env=pure false):PS X (.Assign [.Attribute o f pos'] value pos) (rX X.K ta tv f):=by intro pins s σ H D I h;refine plainObj_wpAny_Assign_Attribute (bM (J pins s σ H _ I h) λu s1 ⟨y,H1,L,O,q⟩=>bM (ha pins s1 σ H1 _ L q) λov s2 ⟨x,H2,W,Y,a,C,dx,fs,ex,Z,c,n,l,q2⟩=>?_) hs;subst ex;obtain rfl:ov=Value.ref a:=Y;exact wa W Z c n l O λs3 I3=>⟨σ,_,I3,q2⟩
end
section
variable {X:Cx}{pins:List (Addr×Obj)}{σ:St}{H:Hp}{s:Om}{A:Os}{E:Oq->Om->Prop}{Q:Oq->Om->Prop}{c:Oq}{b:Bool}
inductive TyOf (K:On) (H:Hp):V->Oq->Prop where
 |non:TyOf K H .non (.type "NoneType")
 |bl (x:Bool):TyOf K H (.bl x) (.type "bool")
 |int (i:Int):TyOf K H (.int i) (.type "int")
 |str (x:Str):TyOf K H (.str x) (.type "str")
 |flt (x:UInt64):TyOf K H (.flt x) (.type "float")
 |lst {a:Addr} {xs:List V} (e:H a=some (.lst xs)):TyOf K H (.ref a) (.type "list")
 |frz {a:Addr} {o:Obj} {xs:List V} (e:H a=some (.frz o (.lst xs))):TyOf K H (.ref a) (.type "list")
 |tup {a:Addr} {xs:List V} (e:H a=some (.tup xs)):TyOf K H (.ref a) (.type "tuple")
 |dK {a:Addr} {kvs:List (Key×V)} (e:H a=some (.dK kvs)):TyOf K H (.ref a) (.type "dict")
 |dT {a:Addr} {kvs:List (List Key×V)} (e:H a=some (.dT kvs)):TyOf K H (.ref a) (.type "dict")
 |ins {a C dx:Addr} {fs:List (Str×V)} (e:H a=some (.ins C dx fs)) (cl:Cls K C) (ha:PySem.W.findIn K (.ref C) "__class__"=some (some (.builtin "object.__class__")))
  (hn:PySem.W.specialIn K (.builtin "object.__class__") "__get__"=some (some (.builtin "getset_descriptor.__get__"))) (htk:PySem.W.takesIn K (.builtin "object.__class__")=some true)
  (hm:PySem.W.mroIn K C (.type "object")=some true):TyOf K H (.ref a) (.ref C)
theorem yV {x:V}{u t:Oq}(I:Inv X pins σ H s)(L:RelV x u)(ty:TyOf X.K H x t)(e:PySem.W.kitOne X.K t c=some b)(h:∀ tk,Q (.bool b) { s with toks:=tk }) :
 wpAny (model X.prog X.w) A (call (.builtin "isinstance") [u,c]) Q E s:=by
 cases ty with
 |non=>cases (show u=Value.none from L);exact Lj PySem.W.kitx_none I.kIn True.intro e (λz=>nomatch z) h
 |bl y=>cases (show u=Value.bool y from L);exact Lj PySem.W.kitx_bool I.kIn True.intro e (λz=>nomatch z) h
 |int i=>obtain⟨t,q⟩:=(show ∃ t,u=Value.int i t from L);cases q;exact Lj PySem.W.kitx_int I.kIn True.intro e (λz=>nomatch z) h
 |str y=>obtain⟨t,q⟩:=(show ∃ t,u=Value.str y t from L);cases q;exact Lj PySem.W.kitx_str I.kIn True.intro e (λz=>nomatch z) h
 |flt y=>obtain⟨t,q⟩:=(show ∃ t,u=Value.float y t from L);cases q;exact Lj PySem.W.kitx_float I.kIn True.intro e (λz=>nomatch z) h
 | @lst a xs Y=>cases (show u=Value.ref a from L);obtain⟨_,_,n,_,h1⟩:=(show ObjOk X.prog X.w H s.heap a (.lst xs) from I.hok a _ Y);exact Lj PySem.W.kitx_list I.kIn ⟨_,h1,rfl⟩ e (λz=>nomatch z) h
 | @frz a Z xs Y=>cases (show u=Value.ref a from L);obtain⟨_,_,_,n,_,h1⟩:=(show ObjOk X.prog X.w H s.heap a (.frz Z (.lst xs)) from I.hok a _ Y);exact Lj PySem.W.kitx_list I.kIn ⟨_,h1,rfl⟩ e (λz=>nomatch z) h
 | @tup a xs Y=>cases (show u=Value.ref a from L);obtain⟨_,_,_,p⟩:=(show ObjOk X.prog X.w H s.heap a (.tup xs) from I.hok a _ Y);obtain⟨o,h1,h2,_⟩:=p;exact Lj PySem.W.kitx_tuple I.kIn ⟨o,h1,h2⟩ e (λz=>nomatch z) h
 | @dK a kvs Y=>cases (show u=Value.ref a from L);obtain⟨_,_,vs,_,p⟩:=(show ObjOk X.prog X.w H s.heap a (.dK kvs) from I.hok a _ Y);obtain⟨o,es,ep,h1,h2,_⟩:=p;exact Lj N9 I.kIn ⟨o,h1,h2.1⟩ e (λz=>nomatch z) h
 | @dT a kvs Y=>cases (show u=Value.ref a from L);obtain⟨_,_,xs,_,o,es,ep,h1,h2,_⟩:=(show ObjOk X.prog X.w H s.heap a (.dT kvs) from I.hok a _ Y);exact Lj N9 I.kIn ⟨o,h1,h2.1⟩ e (λz=>nomatch z) h
 | @ins a C dx fs Y cl ha hn htk hm=>cases (show u=Value.ref a from L);obtain⟨mA,O,_⟩:=oi I.hok Y;obtain⟨od,J,_⟩:=O.look;exact Lj (PySem.W.kitx_own (cl.get _) cl.hd ha hn htk hm) I.kIn J e (λz=>nomatch z) h
end
structure Room (k:Nat) (A:Os):Prop where
 hd:A.handled=none
 dp:A.depth+3*k+5<recursionLimit
 un:A.units+16*k+200<cLine
theorem Room.mono {j k:Nat}{A:Os}(r:Room k A)(h:j<=k):Room j A:=⟨r.hd,by have:=r.dp;lia,by have:=r.un;lia⟩
theorem Room.deeper {k:Nat}{A:Os}(r:Room (k+1) A)(env:Env):Room k (A.deeper env):=⟨r.hd,by have:=r.dp;show A.depth+1+3*k+5<_;lia,by have:=r.un;show A.units+3+16*k+200<_;lia⟩
theorem wb {A:Os} {C:Addr} {us:List Oq} {kw:List (Str×Oq)}:(A.under (.builtin "type.__call__" ⟨.ref C::us,kw⟩)).depth=A.depth+1:=by
 first|rfl|simp[Around.under,Code.weight,Code.isCreation,Code.isGuard,Code.isCaller,Code.frames,Code.isFrame,guardIds]
theorem wc {A:Os} {C:Addr} {us:List Oq} {kw:List (Str×Oq)}:(A.under (.builtin "type.__call__" ⟨.ref C::us,kw⟩)).units=A.units+1:=by
 first|rfl|simp[Around.under,Code.cUnits,Code.frames,Code.isFrame]
theorem Room.make {k:Nat} {A:Os} (r:Room (k+1) A) (C:Addr) (us:List Oq) (kw:List (Str×Oq)):Room k (A.under (.builtin "type.__call__" ⟨.ref C::us,kw⟩)):=⟨r.hd,by have:=r.dp;rw[wb];lia,by have:=r.un;rw[wc];lia⟩
theorem Room.depth {k:Nat}{A:Os}(r:Room k A):A.depth<recursionLimit:=by have:=r.dp;lia
theorem Room.units {k:Nat}{A:Os}(r:Room k A):A.units+64<cLine:=by have:=r.un;lia
noncomputable def be:TA:=λ_ H Q=>Q [] H
noncomputable def az (ta:TE)(tr:TA):TA:=λσ H Q=>ta σ H λx H1=>tr σ H1 λxs H2=>Q (x::xs) H2
section
variable {X:Cx}{e:Expr}{es:List Expr}{te:TE}{t:TA}{pos:Pos}
theorem aC:PA X [] be:=λ_ _ _ _ H Q I h=>MW ⟨[],H,I,.nil,h⟩
theorem ag (ha:PE X e te)(J:PA X es t)(hs:autoParam (starEach (e::es) X.env=(false,eval e X.env)::starEach es X.env) Oy._auto_1):PA X (e::es) (az te t):=by intro pos pins s σ H Q I h;rw[hs];show wpAny _ _ (spliced ((false,eval e X.env)::backTo pos (starEach es X.env))) _ _ s;refine Mq (bM (ha pins s σ H _ I h) λu s1 ⟨x,H1,L,r1,q1⟩=>?_);exact bM (J pos pins s1 σ H1 _ L q1) λus s2 ⟨xs,H2,O,r2,q2⟩=>⟨x::xs,H2,O,.cons r1 r2,q2⟩
noncomputable def lh (t:TA):TE:=λσ H Q=>t σ H λxs H1=>xs.length<=sizeLine/\∀ p,H1 p=none->Q (.ref p) (aI H1 p (.tup xs))
noncomputable def wd (t:TA):TE:=λσ H Q=>t σ H λxs H1=>xs.length<=sizeLine/\∀ p,H1 p=none->Q (.ref p) (aI H1 p (.lst xs))
theorem cU {x1}(h:PA X es t):PE X (.Tuple es x1 pos) (lh t):=by intro pins s σ H Q I L;refine wpAny_Tuple_spliced (bM (h pos pins s σ H _ I L) λus s1 ⟨xs,H1,J,r,z,q⟩=>⟨by rw[<- r.length];exact z,?_⟩);have hf:H1 s1.heap.objs.size=none:=J.hok.fresh (J6 _);refine⟨.ref s1.heap.objs.size,aI H1 s1.heap.objs.size (.tup xs),J.laid (t':=s1.toks) (λb u e=>J5 _ e) (J6 _) ?_,rfl,q _ hf⟩;exact⟨z,us,r,⟨_,Kh _ rfl,rfl,_,rfl⟩⟩
theorem iP (h:PA X es t):PE X (.List es pos) (wd t):=by intro pins s σ H Q I L;refine wpAny_List_spliced (bM (h pos pins s σ H _ I L) λus s1 ⟨xs,H1,J,r,z,q⟩=>⟨by rw[<- r.length];exact z,?_⟩);have hf:H1 s1.heap.objs.size=none:=J.hok.fresh (J6 _);refine⟨.ref s1.heap.objs.size,aI H1 s1.heap.objs.size (.lst xs),J.laid (t':=s1.toks) (λb u e=>J5 _ e) (J6 _) ?_,rfl,q _ hf⟩;exact⟨z,us,0,r,Kh _ rfl⟩
end
noncomputable abbrev Sp:=List V->Hp->VK->XK->Prop
noncomputable abbrev CXT:=List Env->Hp->Om->XK->Oq->Om->Prop
structure Env0 (P:Oo) (w:World) (K:On) (mg:Str->Option Oq) (base:Heap) (A:Os) (outer:List Env) (s:Om) (H:Hp):Prop where
 frames:A.frames=some outer
 mod:Mod K mg base
 bs:∀ b o,base.get? b=some o->s.heap.get? b=some o/\H b=none
 bsz:base.objs.size<=s.heap.objs.size
 funs:s.heap.FunFrames base outer
 frf:∀ b∈frs outer,H b=none
 hok:HOk P w H s.heap
 bare:AllBare s.gens
 kt:WrT K H
def CE (outer:List Env)(P:Oo)(w:World)(H:Hp)(s:Om)(Q:VK)(u:Oq)(s':Om):Prop:=∃ v H',s'.os=s.os/\AllBare s'.gens/\Un (frs outer) [] H H' s.heap s'.heap/\HOk P w H' s'.heap/\RelV v u/\Q v H'
def CR (CX:CXT)(outer:List Env)(P:Oo)(w:World)(H:Hp)(s:Om)(Q:VK)(E:XK)(r:Result)(s':Om):Prop:=
 match r with
 | .ok (.ret u)=>CE outer P w H s Q u s'
 | .ok _=>False
 | .error e=>CX outer H s E e s'
structure FnOk (P:Oo) (w:World) (K:On) (mg:Str->Option Oq) (base:Heap) (CX:CXT) (k:Nat) (f:Addr) (fd:FuncData) (ps:List Str) (sp:Sp):Prop where
 len:∀ vs H Q E,sp vs H Q E->vs.length=ps.length
 run:∀(A:Os)(outer:List Env)(s:Om)(H:Hp)(args:Args)(us:List Oq)(vs:List V)(Q:VK)(E:XK),Room k A->Env0 P w K mg base A outer s H->BindsTo s fd args (ps.zip us)->Vals vs us->sp vs H Q E->
  codeAny (model P w) A (.call (.ref f) args) (CR CX outer P w H s Q E) s
theorem FnOk.imp {P:Oo}{w:World}{K:On}{mg:Str->Option Oq}{base:Heap}{CX:CXT}{k:Nat}{f:Addr}{fd:FuncData}{ps:List Str}{sp J:Sp}(F:FnOk P w K mg base CX k f fd ps sp)
 (h:∀ vs H Q E,J vs H Q E->sp vs H Q E):FnOk P w K mg base CX k f fd ps J:=
 ⟨λvs H Q E q=>F.len vs H Q E (h _ _ _ _ q),λA outer s H args us vs Q E L O W Y hs=>F.run A outer s H args us vs Q E L O W Y (h _ _ _ _ hs)⟩
theorem Env0.make {P:Oo}{w:World}{K:On}{mg:Str->Option Oq}{base:Heap}{A:Os}{outer:List Env}{s:Om}{H:Hp}(e:Env0 P w K mg base A outer s H)(C:Addr)(us:List Oq)(kw:List (Str×Oq)) :
 Env0 P w K mg base (A.under (.builtin "type.__call__" ⟨.ref C::us,kw⟩)) outer s H:=⟨by first|exact e.frames|(simpa[Around.under,Code.envs,Code.isFrame,pushEnvs] using e.frames),e.mod,e.bs,e.bsz,e.funs,e.frf,e.hok,e.bare,e.kt⟩
section
variable {X:Cx}{pins:List (Addr×Obj)}{σ:St}{H:Hp}{s s':Om}
theorem Inv.env0 (I:Inv X pins σ H s):Env0 X.prog X.w X.K X.mg X.base X.A X.stack s H:=⟨I.ok.frames,I.ok.mod,I.bs,Ku I.ok.bsz I.sz,I.stack,I.stkFree,I.hok,I.bare,I.kt⟩
theorem Inv.after {Q:VK}{u:Oq}(I:Inv X pins σ H s)(h:CE X.stack X.prog X.w H s Q u s'):EP X pins σ Q u s':=by obtain⟨v,H',os,bare,un,hok,r,q⟩:=h;obtain⟨L,g,d,t,J⟩:=s';obtain rfl:J=s.os:=os;exact⟨v,H',I.call (h':=L) (g':=g) (d':=d) (t':=t) (ch:=[]) un hok bare (λb z=>absurd z (by simp)),r,q⟩
end
noncomputable def xB (sp:Sp)(dvs:List V)(E:XK)(t:TA):TE:=λσ H Q=>t σ H λvs H1=>sp (vs++dvs) H1 Q E
noncomputable def fA (C:Addr)(m:Str)(sp:Sp)(dvs:List V)(E:XK)(ta:TE)(t:TA):TE:=λσ H Q=>ta σ H λx H1=>∃ a dx fs,x=.ref a/\H1 a=some (.ins C dx fs)/\fs.lookup m=none/\
 t σ H1 λvs H2=>sp (x::(vs++dvs)) H2 Q E
noncomputable def xC (C:Addr)(sp:Sp)(dvs:List V)(E:XK)(t:TA):TE:=λσ H Q=>t σ H λvs H1=>∀ x dx,H1 x=none->H1 dx=none->dx≠x->
 sp (.ref x::(vs++dvs)) (aI (aI H1 dx (.own x)) x (.ins C dx [])) (λv H2=>v=.non/\Q (.ref x) H2) E
def Binds (K:On)(fd:FuncData)(ps:List Str)(ds:List Oq):Prop:=∀(s:Om)(us:List Oq),K.In s.heap->(us++ds).length=ps.length->BindsTo s fd ⟨us,[]⟩ (ps.zip (us++ds))
theorem Binds.all {K:On}{fd:FuncData}{ps:List Str}(h:∀ us:List Oq,us.length=ps.length->bindArgs fd ⟨us,[]⟩=pure (ps.zip us)):Binds K fd ps []:=λs us _ J=>by rw[KW]at J ⊢;exact .of_eq (h us J)
def eM (CX:CXT)(X:Cx)(E:XK):Prop:=∀(pins:List (Addr×Obj))(σ:St)(H:Hp)(s:Om)(e:Oq)(s':Om),Inv X pins σ H s->CX X.stack H s E e s'->X.xe e s'
section
variable {X:Cx}{CX:CXT}{k:Nat}{f C:Addr}{fd:FuncData}{ps:List Str}{sp:Sp}{dvs:List V}{ds:List Oq}{E:XK}{x m:Str}{p pos apos:Pos}{e o:Expr}{es:List Expr}{ta:TE}{t:TA}
theorem we {pins:List (Addr×Obj)}{σ:St}{H:Hp}{s:Om}{Q:VK}{us:List Oq}{vs:List V}(F:FnOk X.prog X.w X.K X.mg X.base CX k f fd ps sp)(L:Room k X.A)(O:Binds X.K fd ps ds)(hd:Vals dvs ds)(W:eM CX X E)
 (I:Inv X pins σ H s) (r:Vals vs us) (h:sp (vs++dvs) H Q E):wpAny (model X.prog X.w) X.A (call (.ref f) us) (EP X pins σ Q) X.xe s:=by
 have r2:Vals (vs++dvs) (us++ds):=r.append hd;have Y:(us++ds).length=ps.length:=by rw[<- r2.length];exact F.len _ _ _ _ h
 refine wpAny_call (NG (F.run X.A X.stack s H ⟨us,[]⟩ (us++ds) (vs++dvs) Q E L I.env0 (O s us I.kIn Y) r2 h) λr s' J=>?_);cases r with
 |error e=>exact W pins σ H s e s' I J
 |ok fl=>
  cases fl with
  |ret u=>exact I.after J
  |next=>exact False.elim J
  |brk=>exact False.elim J
  |cont=>exact False.elim J
theorem rY (F:FnOk X.prog X.w X.K X.mg X.base CX k f fd ps sp)(Y:Room k X.A)(Z:Gl X x)(hm:X.mg x=some (.ref f))(hk:PySem.W.keepIn X.K (.ref f)=true)(hb:Binds X.K fd ps ds)(hd:Vals dvs ds)(hx:eM CX X E)
 (ha:PA X (e::es) t) (J:autoParam ((x==("__debug__" : Str))=false) Ot._auto_1) (he:autoParam (starEach (e::es) X.env=(false,eval e X.env)::starEach es X.env) Oy._auto_1) (L:autoParam ((backTo pos (starEach es X.env)).any (·.1)=false) Oy._auto_1) :
 PE X (.Call (.Name x p) (e::es) [] pos) (xB sp dvs E t):=by
 intro pins s σ H Q I h;refine MR (oh I Z hm ?_ J);refine N5 (h₀:=X.base) I.ok.mod.kin hk (bM (ha pos pins s σ H _ I h) λus s1 ⟨vs,H1,O,r,q⟩=>⟨O.kIn,?_⟩) he L;exact we F Y hb hd hx O r q
theorem eY {pl:Sem Bool}(Z:PE X o ta)(c:Cls X.K C)(hm:Meth X.K C m f)(F:FnOk X.prog X.w X.K X.mg X.base CX k f fd ps sp)(hr:Room k X.A)(hb:Binds X.K fd ps ds)(hd:Vals dvs ds)(hx:eM CX X E)(ha:PA X (e::es) t)
 (J:autoParam (starEach (e::es) X.env=(false,eval e X.env)::starEach es X.env) Oy._auto_1) (L:autoParam ((backTo pos (starEach es X.env)).any (·.1)=false) Oy._auto_1)
 (ht:autoParam (eval (.Call (.Attribute o m apos) (e::es) [] pos) X.env=(do
   let ov <- eval o X.env
   standAt apos.atName
   let (f,first) <- holding [ov] (getMethod ov m pl)
   callWith pos f first (backTo pos (starEach (e::es) X.env)) (backToKw pos (keywordEach [] X.env)))) Oy._auto_1) :
 PE X (.Call (.Attribute o m apos) (e::es) [] pos) (fA C m sp dvs E ta t):=by
 intro pins s σ H Q I h;refine PySem.W.methodCall_KW (pl:=pl) (bM (Z pins s σ H _ I h) λu s1 ⟨x,H1,O,rx,a,dx,fs,ex,ea,l,q⟩=>?_) ht;subst ex;obtain rfl:u=Value.ref a:=rx;refine oO O ea c hm l ?_;refine N5 (first:=[.ref a]) (h₀:=X.base) I.ok.mod.kin hm.kp (bM (ha pos pins s1 σ H1 _ O q) λus s2 ⟨vs,H2,Y,r,q2⟩=>⟨Y.kIn,?_⟩) J L;exact we (us:=.ref a::us) (vs:=.ref a::vs) F hr hb hd hx Y (.cons rfl r) q2
theorem oP {pl:Sem Bool}(L:PE X o ta)(c:Cls X.K C)(hm:Meth X.K C m f)(F:FnOk X.prog X.w X.K X.mg X.base CX k f fd ps sp)(O:Room k X.A)(Y:Binds X.K fd ps ds)(hd:Vals dvs ds)(Z:eM CX X E)
 (ht:autoParam (eval (.Call (.Attribute o m apos) [] [] pos) X.env=(do
   let ov <- eval o X.env
   standAt apos.atName
   let (f,first) <- holding [ov] (getMethod ov m pl)
   callWith pos f first (backTo pos (starEach [] X.env)) (backToKw pos (keywordEach [] X.env)))) Oy._auto_1) :
 PE X (.Call (.Attribute o m apos) [] [] pos) (fA C m sp dvs E ta be):=by
 intro pins s σ H Q I h;refine PySem.W.methodCall_KW (pl:=pl) (bM (L pins s σ H _ I h) λu s1 ⟨x,H1,J,rx,a,dx,fs,ex,ea,l,q⟩=>?_) ht;subst ex;obtain rfl:u=Value.ref a:=rx;refine oO J ea c hm l ?_;exact PySem.W.callWith_K0 (first:=[.ref a]) J.kIn hm.kp (we (us:=[.ref a]) (vs:=[.ref a]) F O Y hd Z J (.cons rfl .nil) q)
structure Mk (K:On) (C f:Addr):Prop where
 makes:PySem.W.makesIn K C=true
 init:PySem.W.findIn K (.ref C) "__init__"=some (some (.ref f))
 fn:PySem.W.isFn K (.ref f)=true
 kp:PySem.W.keepIn K (.ref C)=true
theorem t9 {pins:List (Addr×Obj)}{σ:St}{H:Hp}{s:Om}{Q:VK}{us:List Oq}{vs:List V}(M:Mk X.K C f)(F:FnOk X.prog X.w X.K X.mg X.base CX k f fd ps sp)(W:Room (k+1) X.A)(Y:Binds X.K fd ps ds)(hd:Vals dvs ds)
 (Z:eM CX X E) (I:Inv X pins σ H s) (r:Vals vs us)
 (h:∀ x dx,H x=none->H dx=none->dx≠x->sp (.ref x::(vs++dvs)) (aI (aI H dx (.own x)) x (.ins C dx [])) (λv H2=>v=.non/\Q (.ref x) H2) E) :
 wpAny (model X.prog X.w) X.A (call (.ref C) us) (EP X pins σ Q) X.xe s:=by
 have O:=h (s.heap.objs.size+1) s.heap.objs.size (I.hok.fresh (Nat.le_succ _)) (I.hok.fresh (J6 _)) (Kt (Mo _));have L:=Inv.made (C:=C) I;have r2:Vals (V.ref (s.heap.objs.size+1)::(vs++dvs)) (Value.ref (s.heap.objs.size+1)::(us++ds)):=.cons rfl (r.append hd);have hl:(Value.ref (s.heap.objs.size+1)::us++ds).length=ps.length:=by have e:=r2.length;rw[F.len _ _ _ _ O]at e;exact e.symm
 refine wpAny_call (Ay (f:=f) I.kIn M.makes M.init (L1.mp M.fn) (NG (F.run _ X.stack _ _ ⟨Value.ref (s.heap.objs.size+1)::us,[]⟩ (Value.ref (s.heap.objs.size+1)::(us++ds)) _ _ E (W.make C us [])
  (L.env0.make C us []) (Y _ (Value.ref (s.heap.objs.size+1)::us) L.kIn hl) r2 O) λr s' J=>?_))
 cases r with
 |error e=>exact Z pins σ _ _ e s' L J
 |ok fl=>
  cases fl with
  |ret u=>obtain⟨v,H',I3,rv,ev,q3⟩:=L.after J;subst ev;exact⟨rv,⟨V.ref (s.heap.objs.size+1),H',I3,rfl,q3⟩⟩
  |next=>exact False.elim J
  |brk=>exact False.elim J
  |cont=>exact False.elim J
theorem C0 (M:Mk X.K C f)(F:FnOk X.prog X.w X.K X.mg X.base CX k f fd ps sp)(W:Room (k+1) X.A)(Y:Gl X x)(hm:X.mg x=some (.ref C))(Z:Binds X.K fd ps ds)(hd:Vals dvs ds)(hx:eM CX X E)
 (ha:PA X (e::es) t) (J:autoParam ((x==("__debug__" : Str))=false) Ot._auto_1) (he:autoParam (starEach (e::es) X.env=(false,eval e X.env)::starEach es X.env) Oy._auto_1) (L:autoParam ((backTo pos (starEach es X.env)).any (·.1)=false) Oy._auto_1) :
 PE X (.Call (.Name x p) (e::es) [] pos) (xC C sp dvs E t):=by
 intro pins s σ H Q I h;refine MR (oh I Y hm ?_ J);refine N5 (h₀:=X.base) I.ok.mod.kin M.kp (bM (ha pos pins s σ H _ I h) λus s1 ⟨vs,H1,O,r,q⟩=>⟨O.kIn,?_⟩) he L;exact t9 M F W Z hd hx O r q
theorem Az (M:Mk X.K C f)(F:FnOk X.prog X.w X.K X.mg X.base CX k f fd ps sp)(L:Room (k+1) X.A)(O:Gl X x)(hm:X.mg x=some (.ref C))(Y:Binds X.K fd ps ds)(hd:Vals dvs ds)(Z:eM CX X E)
 (J:autoParam ((x==("__debug__" : Str))=false) Ot._auto_1):PE X (.Call (.Name x p) [] [] pos) (xC C sp dvs E be):=by
 intro pins s σ H Q I h;refine MR (oh I O hm ?_ J);exact PySem.W.callWith_K0 I.kIn M.kp (t9 (us:=[]) M F L Y hd Z I .nil h)
end
section
variable {X:Cx}{CX:CXT}{k:Nat}{f C:Addr}{fd:FuncData}{ps ks:List Str}{sp:Sp}{E:XK}{x m:Str}{p pos apos kpos:Pos}{e o:Expr}{es:List Expr}{kws:List Keyword}{te ta:TE}{t tk:TA}{nm:Option Str}
variable {g:List Oq->List Oq->List Oq}{gV:List V->List V->List V}
end
structure FnScope (N P:List Str) (sc:Scope):Prop where
 kind:sc.kind=.function
 co:sc.isCoroutine=false
 gen:sc.isGenerator=false
 nd:N.Nodup
 pre:N.take P.length=P
 par:∀ x∈P,sc.names.lookup x=some .local\/sc.names.lookup x=some .cell
 nofree:∀ y∈sc.names,y.2≠.free
theorem qV {kindOf:Str->Option NameKind}{x:Str}:∀{binds:List (Str×Oq)}{m:Str->Option Oq},(∀ v,(x,v)∉binds)->bindL kindOf binds m x=m x
 | [],_,_=>rfl
 |(n,v)::r,m,h=>by
  unfold bindL;rw[qV λw J=>h w (J8 _ J)];split
  .have:x≠n:=by rintro rfl;exact h v Kj
   simp[this]
  .rfl
theorem qW {kindOf:Str->Option NameKind}{x:Str}:∀{binds:List (Str×Oq)}{m:Str->Option Oq},(∀ v,(x,v)∉binds)->bindC kindOf binds m x=m x
 | [],_,_=>rfl
 |(n,v)::r,m,h=>by
  unfold bindC;rw[qW λw J=>h w (J8 _ J)];split
  .rfl
  .have:x≠n:=by rintro rfl;exact h v Kj
   simp[this]
theorem qX {kindOf:Str->Option NameKind}{x:Str}{v:Oq}:∀{P:List Str}{vs:List Oq}{i:Nat}{m:Str->Option Oq},P.Nodup->P[i]?=some x->vs[i]?=some v->kindOf x=some .local->
 bindL kindOf (P.zip vs) m x=some v
 | [],_,_,_,_,h,_,_=>by simp at h
 |_::_,[],_,_,_,_,h,_=>by simp at h
 |p::P,w::vs,0,m,nd,h1,h2,J=>by simp at h1 h2;subst h1;subst h2;show bindL kindOf ((p,w)::P.zip vs) m p=_;unfold bindL;rw[qV λv L=>(KB.mp nd).1 (List.of_mem_zip L).1,Ka J];simp
 |p::P,w::vs,i+1,m,nd,h1,h2,J=>by show bindL kindOf ((p,w)::P.zip vs) m x=_;unfold bindL;exact qX (i:=i) (KB.mp nd).2 (by simpa using h1) (by simpa using h2) J
theorem qY {kindOf:Str->Option NameKind}{x:Str}{v:Oq}:∀{P:List Str}{vs:List Oq}{i:Nat}{m:Str->Option Oq},P.Nodup->P[i]?=some x->vs[i]?=some v->kindOf x≠some .local->
 bindC kindOf (P.zip vs) m x=some v
 | [],_,_,_,_,h,_,_=>by simp at h
 |_::_,[],_,_,_,_,h,_=>by simp at h
 |p::P,w::vs,0,m,nd,h1,h2,J=>by simp at h1 h2;subst h1;subst h2;show bindC kindOf ((p,w)::P.zip vs) m p=_;unfold bindC;rw[qW λv L=>(KB.mp nd).1 (List.of_mem_zip L).1,J_ J];simp
 |p::P,w::vs,i+1,m,nd,h1,h2,J=>by show bindC kindOf ((p,w)::P.zip vs) m x=_;unfold bindC;exact qY (i:=i) (KB.mp nd).2 (by simpa using h1) (by simpa using h2) J
noncomputable def cf (N:List Str)(vs:List V):St:=vs.map some++List.replicate (N.length-vs.length) none
noncomputable def wf (CX:CXT)(P:Oo)(w:World)(K:On)(mg:Str->Option Oq)(base:Heap)(N:List Str)(qual:Str)(scope:Scope)(f:Addr)(cd:Oq)(A:Os)(outer:List Env)(s:Om)(H:Hp)(E:XK):Cx where
 prog:=P
 w:=w
 K:=K
 mg:=mg
 base:=base
 A:=A.deeper (envOfC qual scope s.heap.objs.size f cd)
 N:=N
 s₀:=s
 H₀:=H
 env:=envOfC qual scope s.heap.objs.size f cd
 outer:=outer
 stack:=envOfC qual scope s.heap.objs.size f cd::outer
 ex:=[]
 calm:=true
 fn:=λ_=>true
 pn:=[]
 xe:=λe s'=>wpAny (model P w) (A.deeper (envOfC qual scope s.heap.objs.size f cd)) (leaving (envOfC qual scope s.heap.objs.size f cd) e) (λ_ s''=>CX outer H s E e s'') (λe' s''=>CX outer H s E e' s'') s'
theorem t_ {sc:Scope}{n:Nat}{x:Str}(h:sc.names.lookup x=some .cell):∃ c,(cellsFrom n sc.names []).lookup x=some c:=by have q:=PySem.W.cellsFrom_some sc.names n [] (.inl h);exact Option.isSome_iff_exists.mp q
theorem yW {CX:CXT}{P:Oo}{w:World}{K:On}{mg:Str->Option Oq}{base:Heap}{N ps:List Str}{qual:Str}{scope:Scope}{f:Addr}{cd:Oq}{A:Os}{outer:List Env}{s s1:Om}{H:Hp}{E:XK}{us:List Oq}{vs:List V}
 (S:FnScope N ps scope) (hd:A.handled=none) (e0:Env0 P w K mg base A outer s H) (hl:vs.length=ps.length) (r:Vals vs us)
 (x:InCallC s s.heap.objs.size (bindL (envOfC qual scope s.heap.objs.size f cd).kindOf (ps.zip us) λ_=>none) (cellsFrom (s.heap.objs.size+1) scope.names []) (bindC (envOfC qual scope s.heap.objs.size f cd).kindOf (ps.zip us) λ_=>none) s1) :
 Inv (wf CX P w K mg base N qual scope f cd A outer s H E) [] (cf N vs) H s1:=by
 have Z:ps.length<=N.length:=by have:=LQ List.length S.pre;rw[LP]at this;lia
 obtain⟨h1,tk,rfl,W⟩:=x.done;have J:∀ b:Addr,b∉(wf CX P w K mg base N qual scope f cd A outer s H E).ex:=λb z=>absurd (show b∈([]:List Addr) from z) (by simp);refine⟨⟨e0.mod,S.kind,rfl,rfl,J6 _,λy z c h1 h2=>?_,λy hy=>?_,λy c _ h=>?_,λ_=>hd,Around.frames_deeper e0.frames,.inr ⟨rfl,rfl⟩,λb z=>absurd z (J b),e0.bs,e0.bsz,λb _ _=>J b,λb z=>absurd z (J b),e0.funs,e0.frf,e0.kt⟩,
  rfl,e0.bare,Un.kept W,⟨_,x.toInCall.ns,λi y v h1 h2 h3=>?_⟩,λy c h=>⟨_,x.cell y c h⟩,e0.hok.fresh (J6 _),λy c h=>?_,λp L=>absurd (show p∈([]:List (Addr×Obj)) from L) (by simp),e0.hok.kept W,?_⟩
 .exact name_of_addr x.apart (LU h1) (LU h2)
 .have hy:scope.names.lookup y=some .cell\/scope.names.lookup y=some .free:=hy;rcases hy with hy|hy
  .exact t_ hy
  .exact absurd rfl (S.nofree _ (LU hy))
 .exact Ng (x.above y c (LU h))
 .have hi:i<vs.length:=by
   unfold cf at h2;by_cases hi:i<vs.length
   .exact hi
   .rw[KJ (by simpa using hi)]at h2;rw[MJ]at h2;split at h2<;>cases h2
  have ha:vs[i]?=some v:=by
   unfold cf at h2;rw[Lz (by simpa using hi),Ks]at h2;cases e:vs[i]? with
   |none=>rw[e]at h2;cases h2
   |some a=>rw[e]at h2;cases h2;rfl
  obtain⟨u,Y,rv⟩:=r.get ha;have L:ps[i]?=some y:=by rw[<- S.pre,List.getElem?_take_of_lt (by lia)];exact h1
  have O:ps.Nodup:=by rw[<- S.pre];exact S.nd.sublist (List.take_sublist _ _)
  refine⟨u,rv,?_⟩;rcases S.par y (K3 L) with k|k
  .exact .inl ⟨k,qX O L Y k⟩
  .obtain⟨c,e⟩:=t_ (n:=s.heap.objs.size+1) k;refine .inr ⟨.inl k,c,e,?_⟩;have q:=x.cell y c e;rw[qY O L Y (by show scope.names.lookup y≠_;rw[k];decide)]at q;exact q
 .exact e0.hok.fresh (Ng (x.above y c (LU h)))
 .unfold cf;show _=N.length;rw[Kp,J9,NH];lia
theorem AA {CX:CXT}{P:Oo}{w:World}{K:On}{mg:Str->Option Oq}{base:Heap}{k:Nat}{f:Addr}{name qual:Str}{params:Arguments}{body:List Stmt}{scope:Scope}{dV kV doc pm cdv ct oc:Oq}{an od:Option Addr}
 {osl:Array (Option Oq)} {N ps:List Str} {sp:Sp} (lk:K.lookup f=some ⟨oc,od,.func (PySem.W.fnOf name qual params body scope dV kV doc pm an cdv ct),osl⟩) (hcd:PySem.W.codeIn K cdv qual=true) (S:FnScope N ps scope)
 (len:∀ vs H Q E,sp vs H Q E->vs.length=ps.length)
 (O:∀(A:Os)(outer:List Env)(s:Om)(H:Hp)(vs:List V)(Q:VK)(E:XK),Room k (A.deeper (envOfC qual scope s.heap.objs.size f cdv))->sp vs H Q E->
   ∃ t,PSs (wf CX P w K mg base N qual scope f cdv A outer s H E) body t/\t { nx:=λ_ H'=>Q .non H',rt:=Q } (cf N vs) H) :
 FnOk P w K mg base CX (k+1) f (PySem.W.fnOf name qual params body scope dV kV doc pm an cdv ct) ps sp:=by
 refine⟨len,λA outer s H args us vs Q E hr e0 hb r Z=>?_⟩;have hl:=len _ _ _ _ Z;have KX:K.In s.heap:=e0.mod.kin.keeps λb o e=>(e0.bs b o e).1;have lim:s.heap.NoLimit:=e0.mod.nolimit.keeps λb o e=>(e0.bs b o e).1;have Y:∀ y∈ps.zip us,scope.names.lookup y.1=some .local\/(scope.names.lookup y.1=some .cell/\((cellsFrom (s.heap.objs.size+1) scope.names []).lookup y.1).isSome=true):=λ⟨n,v⟩ hy=>by
  rcases S.par n (List.of_mem_zip hy).1 with q|q
  .exact .inl q
  .exact .inr ⟨q,PySem.W.cellsFrom_some _ _ _ (.inl q)⟩
 refine codeAny_call_function hr.depth (KX _ _ lk) rfl S.co S.gen rfl (PySem.W.codeRec_of KX hcd) (hb _ _ _ _ ?_);refine wpAny_newFunctionEnv_cells S.kind Y λenv he s1 x=>?_;subst he;refine⟨lim.keeps x.toInCall.keep,codeAny_func ?_⟩;obtain⟨t,ht,hq⟩:=O A outer s H vs Q E (hr.deeper _) Z;have I:Inv (wf CX P w K mg base N qual scope f cdv A outer s H E) [] (cf N vs) H s1:=yW S hr.hd e0 hl r x;refine LO (ht [] s1 (cf N vs) H _ I hq) (λfl s' hs=>?_) λe s' hs=>hs;have fin:∀{L:St}{H':Hp}{v:V}{u:Oq},Inv (wf CX P w K mg base N qual scope f cdv A outer s H E) [] L H' s'->RelV v u->Q v H'->CE outer P w H s Q u s':=λ{L H' v u} J rv q=>⟨v,H',J.os,J.bare,J.base,J.hok,rv,q⟩;cases fl with
 |ret u=>obtain⟨v,L,H',J,rv,q⟩:=hs;exact fin J rv q
 |next=>obtain⟨L,H',J,q⟩:=hs;exact fin (v:=V.non) (u:=Value.none) J rfl q
 |brk=>obtain⟨_,_,_,q⟩:=hs;exact False.elim q
 |cont=>obtain⟨_,_,_,q⟩:=hs;exact False.elim q
section
variable {X:Cx}{x:Str}{p pos:Pos}{e:Expr}{es:List Expr}{t:TA}{id T:String}{r:List V->Hp->VK->Prop}
noncomputable def Ex (r:List V->Hp->VK->Prop)(t:TA):TE:=λσ H Q=>t σ H λvs H1=>r vs H1 Q
theorem cV (hc:CallR X (.builtin id) r) (O:Gl X x) (hm:X.mg x=none) (W:bootBuiltins x=some (.builtin id)) (ha:PA X (e::es) t) (hn:autoParam (x≠"__name__") Ot._auto_1) (J:autoParam ((x==("__debug__" : Str))=false) Ot._auto_1)
 (Y:autoParam (starEach (e::es) X.env=(false,eval e X.env)::starEach es X.env) Oy._auto_1) (L:autoParam ((backTo pos (starEach es X.env)).any (·.1)=false) Oy._auto_1):PE X (.Call (.Name x p) (e::es) [] pos) (Ex r t):=by
 intro pins s σ H Q I h;refine MR (kG I O hm W ?_ hn J);exact PyProof.Rows.callWith_builtin1 (bM (ha pos pins s σ H _ I h) λus s1 ⟨vs,H1,Z,r1,q1⟩=>hc pins s1 σ H1 vs us Q Z r1 q1) Y L
theorem qZ (hc:CallR X (.type T) r) (O:Gl X x) (hm:X.mg x=none) (W:bootBuiltins x=some (.type T)) (ha:PA X (e::es) t) (hn:autoParam (x≠"__name__") Ot._auto_1) (J:autoParam ((x==("__debug__" : Str))=false) Ot._auto_1)
 (Y:autoParam (starEach (e::es) X.env=(false,eval e X.env)::starEach es X.env) Oy._auto_1) (L:autoParam ((backTo pos (starEach es X.env)).any (·.1)=false) Oy._auto_1):PE X (.Call (.Name x p) (e::es) [] pos) (Ex r t):=by
 intro pins s σ H Q I h;refine MR (kG I O hm W ?_ hn J);exact LG (bM (ha pos pins s σ H _ I h) λus s1 ⟨vs,H1,Z,r1,q1⟩=>hc pins s1 σ H1 vs us Q Z r1 q1) Y L
end
end L2
namespace HT
open PySem PyProof.Rows
section
open PySem.SeqAt
open PySem.AutoSeq1 (wpAny_loadPart')
open PySem.MeetsSeq PySem.MeetsSeq2 PySem.MeetsSeq3
end
section
variable {prog:Oo}{w:World}{A:Os}{E:Oq->Om->Prop}{s:Om}
theorem cat_tup {t b:Addr}{vs ws:List Oq}{Q:Oq->Om->Prop}(ht:IsTup s.heap t vs.toArray)(hb:IsTup s.heap b ws.toArray)(Z:vs≠[])
 (h1:ws=[]->Q (.ref t) s) (h2:ws≠[]->Q (.ref s.heap.objs.size) { s with heap:=s.heap.push { cls:=.type "tuple",data:=.seq (vs++ws).toArray } })
 (hsz:vs.length+ws.length<=sizeLine):wpAny (model prog w) A (binaryOp .Add (.ref t) (.ref b)) Q E s:=by
 obtain⟨⟨cls,dd,data,sl⟩,W,hc,n,hd⟩:=id ht;obtain⟨⟨cls2,L,data2,O⟩,J,hc2,n2,hd2⟩:=id hb;simp only at hc hd hc2 hd2;subst hc hd hc2 hd2;have e:vs.toArray++ws.toArray=(vs++ws).toArray:=by simp
 by_cases Y:ws=[]
 .exact concat_meets ⟨_,W,rfl⟩ ⟨_,J,rfl⟩ noFill_tuple_add seq_tuple_add PySem.F.slot_tuple_add PySem.F.entry_tuple_add (PySem.F.args_tuple_add_2 _ _)
   (tuple_addW1 t b vs.toArray ws.toArray n n2 dd L sl O (by simpa using Z) (by simp[Y])) ⟨W,J,h1 Y⟩
 .refine concat_meets ⟨_,W,rfl⟩ ⟨_,J,rfl⟩ noFill_tuple_add seq_tuple_add PySem.F.slot_tuple_add PySem.F.entry_tuple_add (PySem.F.args_tuple_add_2 _ _)
   (tuple_addW2 t b vs.toArray ws.toArray n n2 dd L sl O (by simpa using Z) (by simpa using Y) (by rw[Kf,Kf];exact hsz)) ⟨W,J,?_⟩
  rw[e];exact h2 Y
noncomputable def sIx (n d:Nat):Option Int->Nat
 |none=>d
 |some v=>if v<0 then (v+(n:Int)).toNat else min v.toNat n
theorem sIx_nat (n d k:Nat):sIx n d (some (k:Int))=min k n:=by show(if (k:Int)<0 then ((k:Int)+(n:Int)).toNat else min (k:Int).toNat n)=min k n;rw[J_ (by lia),Nw]
theorem FR (n d:Nat)(hd:d<=n)(o:Option Int):sIx n d o<=n:=by
 cases o with
 |none=>exact hd
 |some v=>
  show(if v<0 then (v+(n:Int)).toNat else min v.toNat n)<=n;by_cases J:v<0
  .rw[Ka J];lia
  .rw[J_ J];exact Nat.min_le_right _ _
theorem xD (v:Int)(n d:Nat):(if v<0 then max (v+(n:Int)) 0 else min v (n:Int))=((sIx n d (some v):Nat):Int):=by
 show(if v<0 then max (v+(n:Int)) 0 else min v (n:Int))=(((if v<0 then (v+(n:Int)).toNat else min v.toNat n):Nat):Int);by_cases J:v<0
 .simp only[Ka J];lia
 .simp only[J_ J];lia
theorem wg (lo hi:Option Int)(n:Nat):Builtin.Slice.sliceAdjust lo hi 1 (n:Int)=(((sIx n 0 lo:Nat):Int),((sIx n n hi:Nat):Int)):=by
 have h1:¬ ((1:Int)<0):=by lia
 unfold Builtin.Slice.sliceAdjust;simp only[h1,K8];refine NF ?_ ?_
 .cases lo with
  |none=>rfl
  |some v=>exact xD v n 0
 .cases hi with
  |none=>rfl
  |some v=>exact xD v n n
theorem wj (i j:Nat):Builtin.Slice.slicePlaces (i:Int) (j:Int) 1=j-i:=by
 unfold Builtin.Slice.slicePlaces;have h1:(1:Int)>0:=by lia
 simp only[h1,Mb,Int.ediv_one];split<;>lia
theorem oQ {v:Oq}{o:Option Int}{Q:Option Int->Om->Prop}(p:IsPart v o)(h:Q o s):wpAny (model prog w) A (Builtin.Slice.slicePartIndex v) Q E s:=by
 cases p with
 |none=>exact slicePart_none h
 |int i t=>exact slicePart_int h
theorem sliceApplied_gen {sl:Addr}{O W:Oq}{lo hi:Option Int}{n:Nat}{Q:Int×Int×Nat->Om->Prop}(hs:s.heap.IsSliceOf sl O W .none)(pl:IsPart O lo)(Y:IsPart W hi)
 (h:Q (((sIx n 0 lo:Nat):Int),1,sIx n n hi-sIx n 0 lo) s):wpAny (model prog w) A (Builtin.Slice.sliceApplied (.ref sl) (pure (n:Int))) Q E s:=by
 obtain⟨os,J,Z,L⟩:=id hs;unfold Builtin.Slice.sliceApplied Builtin.Slice.sliceFields;refine J4 (J4 (Nx J L (x:=O) rfl (J4 (Nx J L (x:=W) rfl (J4 (Nx J L (x:=.none) rfl (J7 ?_)))))));refine J4 (slicePart_none ?_);show wpAny _ _ (if ((1:Int)==0)=true then _ else _) _ _ s;rw[J_ (by decide)];refine J4 (oQ pl (J4 (oQ Y (J4 (J7 ?_)))));show wpAny _ _ (match Builtin.Slice.sliceAdjust lo hi 1 (n:Int) with|(lo,hi)=>pure (lo,(1:Int),Builtin.Slice.slicePlaces lo hi 1)) _ _ s;rw[wg lo hi n];show wpAny _ _ (pure (((sIx n 0 lo:Nat):Int),(1:Int),Builtin.Slice.slicePlaces ((sIx n 0 lo:Nat):Int) ((sIx n n hi:Nat):Int) 1)) _ _ s;rw[wj];exact J7 h
theorem AB (xs:Array Oq)(i k:Nat):((List.range k).filterMap λ(m:Nat)=>xs[((i:Int)+(m:Int)*1).toNat]?).toArray=((xs.toList.drop i).take k).toArray:=by
 have e:(λ(m:Nat)=>xs[((i:Int)+(m:Int)*1).toNat]?)=λm=>xs[i+m]?:=by
  funext m;have:((i:Int)+(m:Int)*1).toNat=i+m:=by lia
  rw[this]
 rw[e];have:=pick_run xs i k;rw[List.filterMap_map]at this;have e2:((λx=>xs[x]?) ∘ λx=>i+x)=λm=>xs[i+m]?:=rfl;rw[e2]at this;rw[this]
theorem getItem_tuple_cut {t sl:Addr}{items:Array Oq}{vl vu:Oq}{lo hi:Option Int}{Q:Oq->Om->Prop}(L:IsTup s.heap t items)(hs:s.heap.IsSliceOf sl vl vu .none)(pl:IsPart vl lo)(pu:IsPart vu hi)
 (hw:¬ (sIx items.size 0 lo=0/\sIx items.size items.size hi=items.size))
 (h:Q (.ref s.heap.objs.size) { s with heap:=s.heap.push { cls:=.type "tuple",data:=.seq ((items.toList.drop (sIx items.size 0 lo)).take (sIx items.size items.size hi-sIx items.size 0 lo)).toArray } })
 (hsz:items.size<=sizeLine):wpAny (model prog w) A (getItem (.ref t) (.ref sl)) Q E s:=by
 have J:sizeOk (.seq ((items.toList.drop (sIx items.size 0 lo)).take (sIx items.size items.size hi-sIx items.size 0 lo)).toArray):=by show((items.toList.drop (sIx items.size 0 lo)).take (sIx items.size items.size hi-sIx items.size 0 lo)).toArray.size<=sizeLine;rw[Kf,LP,MM,K_];lia
 have hj:sIx items.size items.size hi<=items.size:=FR _ _ (J6 _) hi;obtain⟨os,O,W,hds⟩:=id hs;have Y:s.TypeIs (.ref sl) "slice":=⟨os,O,W⟩;unfold getItem
 try with_reducible refine LC ?_
 first|refine J4 (J7 ?_)|skip
 refine J4 (wpAny_sequenceKey L.typeIs (by decide) ?_);refine J4 (LH (name:=Str.ofString "__getitem__") L.typeIs K5
  (KS K5 L.typeIs entry_tuple_getitem ?_ (args_tuple_getitem _ _)))
 show wpAny _ _ (Builtin.Tuple.tupleItemsOf (.ref t) >>= _) _ _ s;refine J4 (tupleItemsOf_ L ?_);refine J4 (NI Y ?_);rw[Ka (by decide)];refine J4 (sliceApplied_gen hs pl pu ?_);have Z:¬ ((((sIx items.size 0 lo:Nat):Int)==0&&(1:Int)==1&&(sIx items.size items.size hi-sIx items.size 0 lo)==items.size)=true):=by intro q;rw[Ky,Ky]at q;have q1:((sIx items.size 0 lo:Nat):Int)=0:=eq_of_beq q.1.1;have q2:sIx items.size items.size hi-sIx items.size 0 lo=items.size:=eq_of_beq q.2;exact hw ⟨by lia,by lia⟩
 show wpAny _ _ (if (((sIx items.size 0 lo:Nat):Int)==0&&(1:Int)==1&&(sIx items.size items.size hi-sIx items.size 0 lo)==items.size)=true then _ else _) _ _ s;rw[J_ Z,AB]
 first
  |exact J4 (m:=Builtin.Tuple.tupleExact _) (K6 (J7 ⟨_,rfl,J7 h⟩) J)
  |exact J4 (m:=Builtin.Tuple.tupleExact _) (K6 (J4 (J7 (J7 ⟨_,rfl,J7 h⟩))) J)
  |exact J4 (J4 (m:=Builtin.Tuple.tupleExact _) (K6 (J7 (J7 ⟨_,rfl,J7 h⟩)) J))
  |exact J4 (J4 (m:=Builtin.Tuple.tupleExact _) (K6 (J7 ⟨_,rfl,J7 h⟩) J))
end
end HT
namespace L2
open PySem PySem.Spec PyProof.Rows
noncomputable abbrev TO:=St->Hp->(Option Int->Hp->Prop)->Prop
def PO (X:Cx)(e:Option Expr)(t:TO):Prop:=
 ∀(pins:List (Addr×Obj))(s:Om)(σ:St)(H:Hp)(Q:Option Int->Hp->Prop),Inv X pins σ H s->t σ H Q->
  wpAny (model X.prog X.w) X.A (evalPart e X.env) (λu s'=>∃ o H',Inv X pins σ H' s'/\IsPart u o/\Q o H') X.xe s
noncomputable def C1:TO:=λ_ H Q=>Q none H
noncomputable def Hw (t:TE):TO:=λσ H Q=>t σ H λx H1=>∃ i,x=.int i/\Q (some i) H1
section
variable {X:Cx}{e:Expr}{te:TE}{lo hi:Option Expr}{tl th:TO}{pos p2:Pos}
theorem C2:PO X none C1:=by intro pins s σ H Q I h;rw[evalPart_none];exact J7 ⟨none,H,I,.none,h⟩
theorem C3 (h:PE X e te):PO X (some e) (Hw te):=by intro pins s σ H Q I J;rw[evalPart_some];refine bM (h pins s σ H _ I J) λu s1 ⟨x,H1,L,r1,q1⟩=>?_;obtain⟨i,rfl,q⟩:=q1;obtain⟨t,rfl⟩:=r1;exact⟨some i,H1,L,.int i t,q⟩
def SlR (X:Cx)(r:V->Option Int->Option Int->Hp->VK->Prop):Prop:=
 ∀(pins:List (Addr×Obj))(s:Om)(σ:St)(H:Hp)(x:V)(v J L:Oq)(lo hi:Option Int)(sl:Addr)(Q:VK),Inv X pins σ H s->RelV x v->s.heap.IsSliceOf sl J L .none->IsPart J lo->IsPart L hi->r x lo hi H Q->
  ∃ T id,typeLookup (.type T) "__getitem__"=pure (some (.builtin id))/\s.TypeIs v T/\wpAny (model X.prog X.w) X.A (getItem v (.ref sl)) (EP X pins σ Q) X.xe s
theorem SlR.or {r J:V->Option Int->Option Int->Hp->VK->Prop}(h:SlR X r)(h':SlR X J):SlR X (λx lo hi H Q=>r x lo hi H Q\/J x lo hi H Q):=by
 intro pins s σ H x v L O lo hi sl Q I W hs pl Y q;rcases q with q|q
 .exact h pins s σ H x v L O lo hi sl Q I W hs pl Y q
 .exact h' pins s σ H x v L O lo hi sl Q I W hs pl Y q
noncomputable def JV (r:V->Option Int->Option Int->Hp->VK->Prop)(te:TE)(tl th:TO):TE:=λσ H Q=>te σ H λx H1=>tl σ H1 λl H2=>th σ H2 λu H3=>r x l u H3 Q
theorem AC {r:V->Option Int->Option Int->Hp->VK->Prop}(O:SlR X r)(W:PE X e te)(Y:PO X lo tl)(Z:PO X hi th):PE X (.Subscript e (.Slice lo hi none p2) pos) (JV r te tl th):=by intro pins s σ H Q I h;refine Subscript_ (bM (W pins s σ H _ I h) λv s1 ⟨x,H1,I1,r1,q1⟩=>?_);refine wpAny_Slice (bM (Y pins s1 σ H1 _ I1 q1) λJ s2 ⟨l,H2,I2,pl,q2⟩=>bM (Z pins s2 σ H2 _ I2 q2) λL s3 ⟨u,H3,I3,pu,q3⟩=>?_);rw[evalPart_none];refine J7 ?_;have I4:Inv X pins σ H3 { s3 with heap:=s3.heap.push { cls:=.type "slice",data:=.fields #[J,L,.none] } }:=I3.kept (t':=s3.toks) λb ob q=>J5 _ q;obtain⟨T,id,hT,ht,hg⟩:=O pins { s3 with heap:=s3.heap.push { cls:=.type "slice",data:=.fields #[J,L,.none] } } σ H3 x v J L l u s3.heap.objs.size Q I4 r1 (Heap.IsSliceOf.new ..) pl pu q3;show wpAny (model X.prog X.w) X.A (subscriptTail e (.Slice lo hi none p2) v (.ref s3.heap.objs.size)) (EP X pins σ Q) X.xe { s3 with heap:=s3.heap.push { cls:=.type "slice",data:=.fields #[J,L,.none] } };exact tail_any (ops:=[.ref s3.heap.objs.size,v]) ht hT hg (by with_unfolding_all rfl)
noncomputable def ua (xs:List V)(lo hi:Option Int):List V:=(xs.drop (HT.sIx xs.length 0 lo)).take (HT.sIx xs.length xs.length hi-HT.sIx xs.length 0 lo)
theorem mQ (xs:List V)(lo hi:Option Int):(ua xs lo hi).length<=xs.length:=by unfold ua;rw[LP,MM];lia
noncomputable def Jn (K:On):V->Option Int->Option Int->Hp->VK->Prop:=λx lo hi H Q=>∃ a xs,x=.ref a/\SqT K H a xs/\
 ¬ (HT.sIx xs.length 0 lo=0/\HT.sIx xs.length xs.length hi=xs.length)/\∀ p,H p=none->Q (.ref p) (aI H p (.tup (ua xs lo hi)))
theorem sl_tup:SlR X (Jn X.K):=by
 intro pins s σ H x v vl vu lo hi sl Q I O hs pl W h;obtain⟨a,xs,rfl,Y,Z,q⟩:=h;cases O;obtain⟨its,r,L,hz⟩:=I.tuple Y;have J:its.toArray.size=xs.length:=by rw[Kf];exact r.length.symm
 refine⟨"tuple",_,K5.lookup,L.typeIs,?_⟩;refine HT.getItem_tuple_cut L hs pl W (by rw[J];exact Z) ?_ (by rw[J];exact hz);rw[J];refine⟨.ref s.heap.objs.size,_,I.laid (t':=s.toks) (o:=.tup (ua xs lo hi)) (λb ob q=>J5 _ q) (J6 _) ?_,rfl,q _ (I.hok.fresh (J6 _))⟩;exact⟨Ku (mQ xs lo hi) hz,_,(r.drop (HT.sIx xs.length 0 lo)).take (HT.sIx xs.length xs.length hi-HT.sIx xs.length 0 lo),IsTup.new _ _⟩
noncomputable def Hx (K:On):R2:=λx y H Q=>∃ a b xs ys,x=.ref a/\y=.ref b/\SqT K H a xs/\SqT K H b ys/\xs≠[]/\xs.length+ys.length<=sizeLine/\
 (ys=[]->Q (.ref a) H)/\(ys≠[]->∀ p,H p=none->Q (.ref p) (aI H p (.tup (xs++ys))))
theorem Vals.nil_iff {xs:List V}{us:List Oq}(r:Vals xs us):us=[]↔xs=[]:=by
 cases r with
 |nil=>simp
 |cons _ _=>simp
theorem op_catT:OpR X (binaryOp .Add) (Hx X.K):=by intro pins s σ H x y v u Q I J L h;obtain⟨a,b,xs,ys,rfl,rfl,ha,O,W,hz,q1,q2⟩:=h;cases J;cases L;obtain⟨its,r1,p1,_⟩:=I.tuple ha;obtain⟨its2,r2,p2,_⟩:=I.tuple O;refine HT.cat_tup p1 p2 (λz=>W (r1.nil_iff.mp z)) (λz=>⟨.ref a,H,I,rfl,q1 (r2.nil_iff.mp z)⟩) (λz=>?_) (by rw[<- r1.length,<- r2.length];exact hz);refine⟨.ref s.heap.objs.size,_,I.laid (t':=s.toks) (o:=.tup (xs++ys)) (λb Y q=>J5 _ q) (J6 _) ?_,rfl,q2 (λw=>z (r2.nil_iff.mpr w)) _ (I.hok.fresh (J6 _))⟩;exact⟨by rw[Kp];exact hz,_,r1.append r2,IsTup.new _ _⟩
end
noncomputable def xE (n:Nat)(i:Int):Option Nat:=if 0<=i then (if i<n then some i.toNat else none) else if -(n:Int)<=i then some (i+n).toNat else none
noncomputable def atI {α:Type}(xs:List α)(i:Int):Option α:=(xE xs.length i).bind λj=>xs[j]?
theorem C4 {n:Nat}{i:Int}{j:Nat}(h:xE n i=some j):seqIndex? i n=some j/\j<n/\-(n:Int)<=i/\i<n:=by
 unfold xE at h;by_cases h0:0<=i
 .rw[Ka h0]at h;by_cases h1:i<n
  .rw[Ka h1]at h;have e:i.toNat=j:=Kx h;exact⟨by rw[seqIndex_of h0 h1,e],by lia,by lia,h1⟩
  .rw[J_ h1]at h;cases h
 .rw[J_ h0]at h;by_cases h1:-(n:Int)<=i
  .rw[Ka h1]at h;have e:(i+n).toNat=j:=Kx h;exact⟨by rw[seqIndex_neg (by lia) h1,e],by lia,h1,by lia⟩
  .rw[J_ h1]at h;cases h
theorem rZ {α:Type}{xs:List α}{i:Int}{v:α}(h:atI xs i=some v):∃ j,seqIndex? i xs.length=some j/\xs[j]?=some v/\j<xs.length/\-(xs.length:Int)<=i/\i<xs.length:=by
 unfold atI at h;cases e:xE xs.length i with
 |none=>rw[e]at h;cases h
 |some j=>rw[e]at h;obtain⟨h1,h2,J,L⟩:=C4 e;exact⟨j,h1,h,h2,J,L⟩
theorem xF {α:Type}{xs:List α}{j:Nat}{v:α}(h:xs[j]?=some v):atI xs (j:Int)=some v:=by
 have J:j<xs.length:=(Ke.mp h).1;have e:xE xs.length (j:Int)=some j:=by unfold xE;rw[Ka (by lia),Ka (by lia)];simp
 unfold atI;rw[e];exact h
def r_ (b:Expr):Prop:=∀ o i,subscripted b false o i=operate [o,i] (getItem o i)
def IxR (X:Cx)(r:R2):Prop:=
 ∀(value slice:Expr)(pins:List (Addr×Obj))(s:Om)(σ:St)(H:Hp)(x y:V)(v u:Oq)(Q:VK),Inv X pins σ H s->RelV x v->RelV y u->r x y H Q->
  subscripted slice false v u=operate [v,u] (getItem v u)->wpAny (model X.prog X.w) X.A (subscriptTail value slice v u) (EP X pins σ Q) X.xe s
def FS (X:Cx)(id:String)(r:V->List V->Hp->VK->Prop):Prop:=
 ∀(pins:List (Addr×Obj))(s:Om)(σ:St)(H:Hp)(x:V)(xs:List V)(v:Oq)(us:List Oq)(Q:VK),Inv X pins σ H s->RelV x v->Vals xs us->r x xs H Q->
  wpAny (model X.prog X.w) X.A (call (.builtin id) (v::us)) (EP X pins σ Q) X.xe s
section
variable {X:Cx}{a b:Expr}{ta tb:TE}{pos:Pos}
theorem IxR.or {r J:R2}(h:IxR X r)(h':IxR X J):IxR X (λx y H Q=>r x y H Q\/J x y H Q):=by
 intro value slice pins s σ H x y v u Q I L O q hs;rcases q with q|q
 .exact h value slice pins s σ H x y v u Q I L O q hs
 .exact h' value slice pins s σ H x y v u Q I L O q hs
theorem bz {r:R2}(J:IxR X r)(ha:PE X a ta)(L:PE X b tb)(hs:r_ b):PE X (.Subscript a b pos) (lZ r ta tb):=by intro pins s σ H Q I h;exact Subscript_ (FG ha L I h λv u s2 x y H2 O W Y q=>J a b pins s2 σ H2 x y v u Q O W Y q (hs _ _))
noncomputable def FT (K:On):R2:=λx y H Q=>∃ p xs i v,x=.ref p/\y=.int i/\SqL K H p xs/\atI xs i=some v/\Q v H
noncomputable def qD (K:On):R2:=λx y H Q=>∃ p xs i v,x=.ref p/\y=.int i/\SqT K H p xs/\atI xs i=some v/\Q v H
noncomputable def Hy:R2:=λx y H Q=>∃ z i c,x=.str z/\y=.int i/\z.length<=sizeLine/\atI z.cps.toList i=some c/\Q (.str ⟨#[c]⟩) H
theorem ix_list:IxR X (FT X.K):=by
 intro value slice pins s σ H x y v u Q I W Y h hs;obtain⟨p,xs,i,z,rfl,rfl,Z,he,q⟩:=h;cases W;obtain⟨t,rfl⟩:=Y;obtain⟨its,r,pl,hz⟩:=I.list Z;obtain⟨j,h1,h2,h3,h4,h5⟩:=rZ he;obtain⟨w,O,J⟩:=r.get h2;have hl:=r.length;have hn:=l7;have fin:EP X pins σ Q w s:=⟨z,H,I,J,q⟩;by_cases h0:0<=i
 .have L:i.toNat=j:=by rw[seqIndex_of h0 h5]at h1;exact Kx h1
  exact item_listR pl.isList h0 (by lia) (by rw[L];simpa using O) fin hs
 .have L:(i+(its.toArray.size:Int)).toNat=j:=by rw[seqIndex_neg (by lia) h4]at h1;rw[Kf,<- hl];exact Kx h1
  exact subscriptTail_builtinR (x:=w) pl.isList.typeIs slot_list_getitem.lookup
   (wpAny_getItem_list_neg (Q:=λr s'=>r=w/\EP X pins σ Q r s') pl.isList (by lia) (by rw[Kf]<;>lia) (by lia) (by rw[L];simpa using O) ⟨rfl,fin⟩) hs
theorem ix_tup:IxR X (qD X.K):=by
 intro value slice pins s σ H x y v u Q I L O h hs;obtain⟨p,xs,i,z,rfl,rfl,W,Y,q⟩:=h;cases L;obtain⟨t,rfl⟩:=O;obtain⟨its,r,pl,hz⟩:=I.tuple W;obtain⟨j,h1,h2,h3,h4,h5⟩:=rZ Y;obtain⟨w,Z,J⟩:=r.get h2;have hl:=r.length;have hn:=l7;have fin:EP X pins σ Q w s:=⟨z,H,I,J,q⟩;exact subscriptTail_builtinR (x:=w) pl.typeIs slot_tuple_getitem.lookup
  (getItem_tuple (j:=j) (Q:=λr s'=>r=w/\EP X pins σ Q r s') pl (by lia) (by lia) (by rw[Kf,<- hl];exact h1) (by simpa using Z) ⟨rfl,fin⟩) hs
theorem FU:IxR X Hy:=by
 intro value slice pins s σ H x y v u Q I J L h hs;obtain⟨z,i,c,rfl,rfl,hz,O,q⟩:=h;obtain⟨t,rfl⟩:=J;obtain⟨t',rfl⟩:=L;obtain⟨j,h1,h2,h3,W,Y⟩:=rZ O;have Z:z.cps.toList.length=z.length:=by simp[Str.length]
 rw[Z]at h1 W Y;have hn:=l7;exact tail_any (typeIs_str s z t) slot_str_getitem.lookup (getItem_str (c:=c) (by have e1:decide (i < -(2 ^ 63:Int))=false:=Kv (by lia);have e2:decide (i>=2 ^ 63)=false:=Kv (by lia);rw[e1,e2,Bool.or_false]) (by rw[h1];simpa using h2) ⟨.str ⟨#[c]⟩,H,I.tok _,⟨_,rfl⟩,q⟩) hs
noncomputable def JW (K:On):R2:=λx y H Q=>FT K x y H Q\/qD K x y H Q\/Hy x y H Q
theorem FV:IxR X (JW X.K):=ix_list.or (ix_tup.or FU)
theorem sh (lo hi:Option Int)(n:Nat):(sliceBounds lo hi none n).1=((HT.sIx n 0 lo:Nat):Int)/\(sliceBounds lo hi none n).2.1=((HT.sIx n n hi:Nat):Int)/\(sliceBounds lo hi none n).2.2=1:=by
 refine⟨?_,?_,rfl⟩
 .cases lo with
  |none=>simp[sliceBounds,HT.sIx]
  |some i=>
   simp only[sliceBounds,HT.sIx,Option.getD_none,show(1:Int)>0 by decide,Mb];by_cases h:i<0
   .simp only[h,Mb]<;>lia
   .simp only[h,K8]<;>lia
 .cases hi with
  |none=>simp[sliceBounds,HT.sIx]
  |some i=>
   simp only[sliceBounds,HT.sIx,Option.getD_none,show(1:Int)>0 by decide,Mb];by_cases h:i<0
   .simp only[h,Mb]<;>lia
   .simp only[h,K8]<;>lia
theorem qE (its:List Oq)(lo hi:Option Int):slicePick its.toArray lo hi none=((its.drop (HT.sIx its.length 0 lo)).take (HT.sIx its.length its.length hi-HT.sIx its.length 0 lo)).toArray:=by obtain⟨h1,h2,J⟩:=sh lo hi its.toArray.size;unfold slicePick;rw[h1,h2,J];simp only[sliceRange_one,pick_run,Kf]<;>rfl
noncomputable def Jo (K:On):V->Option Int->Option Int->Hp->VK->Prop:=λx lo hi H Q=>∃ a xs,x=.ref a/\SqL K H a xs/\∀ p,H p=none->Q (.ref p) (aI H p (.lst (ua xs lo hi)))
theorem sl_list:SlR X (Jo X.K):=by intro pins s σ H x v Z vu lo hi sl Q I L hs pl O h;obtain⟨a,xs,rfl,W,q⟩:=h;cases L;obtain⟨its,r,J,hz⟩:=I.list W;have Y:=r.length;refine⟨"list",_,slot_list_getitem.lookup,J.isList.typeIs,?_⟩;refine wpAny_getItem_list_slice J.isList hs pl O .none (by simp) ?_ (by rw[Kf]<;>lia);rw[qE,<- Y];refine⟨.ref s.heap.objs.size,_,I.laid (t':=s.toks) (o:=.lst (ua xs lo hi)) (λb ob q=>J5 _ q) (J6 _) ?_,rfl,q _ (I.hok.fresh (J6 _))⟩;exact⟨Ku (mQ xs lo hi) hz,_,0,(r.drop (HT.sIx xs.length 0 lo)).take (HT.sIx xs.length xs.length hi-HT.sIx xs.length 0 lo),Kh _ rfl⟩
theorem call_len_seq:CallR X (.builtin "len") (λxs H Q=>∃ p ys,xs=[.ref p]/\(SqL X.K H p ys\/SqT X.K H p ys)/\Q (.int ys.length) H):=by
 intro pins s σ H xs us Q I r h;obtain⟨p,ys,rfl,hq,q⟩:=h;obtain⟨u,rfl,O⟩:=fV r;cases O;have hn:=l7;rcases hq with hq|hq
 .obtain⟨its,J,pl,hz⟩:=I.list hq;have L:=J.length;exact Calls.call_len_list pl.isList (by simp only[Kf]<;>lia) ⟨.int ys.length,H,I.tok _,⟨s.toks+1,by rw[Kf,L]⟩,q⟩
 .obtain⟨its,J,pl,hz⟩:=I.tuple hq;have L:=J.length;exact len_tuple pl (by simp only[Kf]<;>lia) ⟨.int ys.length,H,I.tok _,⟨s.toks+1,by rw[Kf,L]⟩,q⟩
theorem sj:CallR X (.builtin "len") (λxs H Q=>∃ z,xs=[.str z]/\z.length<=sizeLine/\Q (.int z.length) H):=by intro pins s σ H xs us Q I r h;obtain⟨z,rfl,hz,q⟩:=h;obtain⟨u,rfl,t,rfl⟩:=fV r;have hn:=l7;exact len_str (by lia) ⟨.int z.length,H,I.tok _,⟨_,rfl⟩,q⟩
theorem CallR.or {f:Oq}{r J:List V->Hp->VK->Prop}(h:CallR X f r)(h':CallR X f J):CallR X f (λxs H Q=>r xs H Q\/J xs H Q):=by
 intro pins s σ H xs us Q I rs q;rcases q with q|q
 .exact h pins s σ H xs us Q I rs q
 .exact h' pins s σ H xs us Q I rs q
theorem sk:CallR X (.type "list") (λxs H Q=>∃ p ys,xs=[.ref p]/\(SqL X.K H p ys\/SqT X.K H p ys)/\∀ l,H l=none->Q (.ref l) (aI H l (.lst ys))):=by
 intro pins s σ H xs us Q I r h;obtain⟨p,ys,rfl,hq,q⟩:=h;obtain⟨u,rfl,W⟩:=fV r;cases W;have fin:∀(its:List Oq),Vals ys its->ys.length<=sizeLine->∀(h':Heap)(J:Nat),(∀ b o',s.heap.get? b=some o'->h'.get? b=some o')->
  h'.get? s.heap.objs.size=some { cls:=.type "list",dict:=none,data:=.seq its.toArray J,slots:=#[] }->EP X pins σ Q (.ref s.heap.objs.size) { s with heap:=h' }:=λits L hz h' J kp e=>
  ⟨.ref s.heap.objs.size,_,I.laid (t':=s.toks) kp (J6 _) (show ObjOk X.prog X.w _ h' _ (.lst ys) from⟨hz,its,J,L,e⟩),rfl,q _ (I.hok.fresh (J6 _))⟩
 rcases hq with hq|hq
 .obtain⟨its,L,pl,hz⟩:=I.list hq;have Y:=L.length;obtain⟨o,O,hc,n,hd⟩:=pl.isList;exact call_list_seq p (.inl rfl) O hc hd (λh' J kp e=>fin its L hz h' J kp e) (by simp only[Kf]<;>lia)
 .obtain⟨its,L,pl,hz⟩:=I.tuple hq;have Y:=L.length;obtain⟨o,O,hc,n,hd⟩:=pl;exact call_list_seq p (.inr rfl) O hc hd (λh' J kp e=>fin its L hz h' J kp e) (by simp only[Kf]<;>lia)
theorem qF:CallR X (.type "tuple") (λxs H Q=>∃ p ys,xs=[.ref p]/\((SqL X.K H p ys/\∀ l,H l=none->Q (.ref l) (aI H l (.tup ys)))\/(SqT X.K H p ys/\Q (.ref p) H))):=by
 intro pins s σ H xs us Q I r h;obtain⟨p,ys,rfl,h⟩:=h;obtain⟨u,rfl,W⟩:=fV r;cases W;rcases h with⟨J,q⟩|⟨J,q⟩
 .obtain⟨its,L,pl,hz⟩:=I.list J;have Z:=L.length;refine call_tuple_list pl.isList (λh' kp=>?_) (by simp only[Kf]<;>lia);have O:Inv X pins σ H { s with heap:=h' }:=I.kept (t':=s.toks) kp;have Y:Inv X pins σ (aI H h'.objs.size (.tup ys)) { s with heap:=h'.push { cls:=.type "tuple",data:=.seq its.toArray } }:=O.laid (t':=s.toks) (λb o e=>J5 _ e) (J6 _) (show ObjOk X.prog X.w _ _ _ (.tup ys) from⟨hz,its,L,IsTup.new _ _⟩);exact⟨.ref h'.objs.size,_,Y,rfl,q _ (O.hok.fresh (J6 _))⟩
 .obtain⟨its,L,pl,hz⟩:=I.tuple J;exact call_tuple_same pl ⟨.ref p,H,I,rfl,q⟩
def Jp (K:On)(T:String)(x:V)(H:Hp):Prop:=match x with
 | .str _=>T="str"
 | .int _=>T="int"
 | .ref p=>(T="list"/\∃ xs,SqL K H p xs)\/(T="tuple"/\∃ o,K.lookup p=some o/\o.cls=.type "tuple"/\o.dict=none)\/
  (T="dict"/\((∃ kvs,H p=some (.dK kvs))\/∃ kvs,H p=some (.dT kvs)))\/(T="set"/\∃ S n,H p=some (.set S n))
 |_=>False
theorem AD {pins:List (Addr×Obj)}{σ:St}{H:Hp}{s:Om}{T:String}{x:V}{v:Oq}(I:Inv X pins σ H s)(r:RelV x v)(ty:Jp X.K T x H) :
 s.TypeIs v T/\∀ a,v=.ref a->∃ L,s.heap.get? a=some L/\L.dict=none:=by
 cases x with
 |str z=>obtain⟨t,rfl⟩:=r;cases (show T="str" from ty);exact⟨typeIs_str s z t,λ_ e=>nomatch e⟩
 |int i=>obtain⟨t,rfl⟩:=r;cases (show T="int" from ty);exact⟨typeIs_int s i t,λ_ e=>nomatch e⟩
 |ref p=>
  cases r;rcases ty with⟨rfl,xs,O⟩|⟨rfl,o,J,hc,hd⟩|⟨rfl,J⟩|⟨rfl,S,n,J⟩
  .obtain⟨its,_,pl,_⟩:=I.list O;refine⟨pl.isList.typeIs,λa e=>?_⟩;cases e;obtain⟨o,n,e,c,hd,_⟩:=pl;exact⟨o,e,hd⟩
  .refine⟨⟨o,I.kIn p o J,hc⟩,λa e=>?_⟩;cases e;exact⟨o,I.kIn _ o J,hd⟩
  .have z:∃ o,s.heap.get? p=some o/\o.ExactDict:=by
    rcases J with⟨kvs,J⟩|⟨kvs,J⟩
    .obtain⟨_,_,_,_,o,_,_,e,ex,_⟩:=I.hok p _ J;exact⟨o,e,ex⟩
    .obtain⟨_,_,_,_,o,_,_,e,ex,_⟩:=I.hok p _ J;exact⟨o,e,ex⟩
   obtain⟨o,e,ex⟩:=z;refine⟨⟨o,e,ex.1⟩,λa e2=>?_⟩;cases e2;exact⟨o,e,ex.2.1⟩
  .obtain⟨o,_,_,_,e,ex,_⟩:=I.hok p _ J;refine⟨⟨o,e,ex.1⟩,λa e2=>?_⟩;cases e2;exact⟨o,e,ex.2.1⟩
 |_=>exact False.elim ty
noncomputable def FW (K:On)(T:String)(r:V->List V->Hp->VK->Prop)(to:TE):TE:=λσ H Q=>to σ H λx H1=>Jp K T x H1/\r x [] H1 Q
noncomputable def Hz (K:On)(T:String)(r:V->List V->Hp->VK->Prop)(to:TE)(t:TA):TE:=λσ H Q=>to σ H λx H1=>Jp K T x H1/\t σ H1 λxs H2=>r x xs H2 Q
variable {o e:Expr}{es:List Expr}{to:TE}{t:TA}{name:Str}{apos cpos:Pos}{T id:String}{r:V->List V->Hp->VK->Prop}
theorem AE (Y:PlainAttrs T) (slot:Slot T name id) (O:typeOf (.builtin id)=pure (.type "method_descriptor")) (hm:FS X id r) (Z:PE X o to)
 (J:autoParam (attributeBase o name X.env (eval o X.env)=eval o X.env) Oy._auto_1) (L:autoParam ((apos.endLine==cpos.line)=true) Oy._auto_1):PE X (.Call (.Attribute o name apos) [] [] cpos) (FW X.K T r to):=by
 intro pins s σ H Q I h;refine wpAny_Call_method0_late J L (bM (Z pins s σ H _ I h) λv s1 ⟨x,H1,W,r1,ty,q1⟩=>?_);obtain⟨h1,h2⟩:=AD W r1 ty;exact⟨T,id,Y,slot,O,h1,h2,LR rfl (PySem.evalArgs_none (hm pins s1 σ H1 x [] v [] Q W r1 .nil q1))⟩
theorem li (pa:PlainAttrs T) (slot:Slot T name id) (Y:typeOf (.builtin id)=pure (.type "method_descriptor")) (hm:FS X id r) (ho:PE X o to) (ha:PA X (e::es) t)
 (L:autoParam (attributeBase o name X.env (eval o X.env)=eval o X.env) Oy._auto_1)
 (W:autoParam (((backTo cpos (starEach (e::es) X.env)).all (λx=>!x.1)&&(backToKw cpos (keywordEach [] X.env)).all (λx=>x.1.isSome)
   && decide ((e::es).length+([]:List Keyword).length+(if ([]:List Keyword).isEmpty then 0 else 1)<30))=true) Oy._auto_1)
 (O:autoParam ((apos.endLine==cpos.line)=true) Oy._auto_1) (hs:autoParam (starEach (e::es) X.env=(false,eval e X.env)::starEach es X.env) Oy._auto_1) (J:autoParam ((backTo cpos (starEach es X.env)).any (·.1)=false) Oy._auto_1) :
 PE X (.Call (.Attribute o name apos) (e::es) [] cpos) (Hz X.K T r to t):=by
 intro pins s σ H Q I h;refine wpAny_Call_method_late L W O rfl (bM (ho pins s σ H _ I h) λv s1 ⟨x,H1,Z,r1,ty,q1⟩=>?_);obtain⟨h1,h2⟩:=AD Z r1 ty;refine⟨T,id,pa,slot,Y,h1,h2,?_⟩;have hA:=ha cpos pins s1 σ H1 _ Z q1;rw[hs]at hA ⊢;refine LR (by show(false || (backTo cpos (starEach es X.env)).any (·.1))=false;rw[J]<;>rfl) (Mx ?_);exact bM hA λus s2 ⟨vs,H2,I2,r2,q2⟩=>hm pins s2 σ H2 x vs v us Q I2 r1 r2 q2
end
def JX (X:Cx)(id:String)(r:V->List V->Hp->VK->Prop):Prop:=
 ∀(pins:List (Addr×Obj))(s:Om)(σ:St)(H:Hp)(x:V)(xs:List V)(v:Oq)(us:List Oq)(Q:VK),Inv X pins σ H s->RelV x v->Vals xs us->r x xs H Q->
  wpAny (model X.prog X.w) X.A (call (.builtin id) (v::us)) (EP X pins σ Q) X.xe s
theorem Vals.one:∀{x:V}{us:List Oq},Vals [x] us->∃ u,us=[u]/\RelV x u
 |_,_,.cons r .nil=>⟨_,rfl,r⟩
section
variable {X:Cx}{pins:List (Addr×Obj)}{σ:St}{H:Hp}{s:Om}{l b:Addr}{xs ys zs:List V}
theorem Inv.lset {its its':List Oq}{n:Nat}{f:Array Oq->Array Oq}{t':Nat}(I:Inv X pins σ H s)(J:H l=some (.lst xs))
 (e:s.heap.get? l=some { cls:=.type "list",data:=.seq its.toArray n }) (hf:f its.toArray=its'.toArray) (L:Vals ys its') (hz:ys.length<=sizeLine) :
 Inv X pins σ (aI H l (.lst ys)) { s with heap:=s.heap.update l (Obj.mapSeq f),toks:=t' }:=by
 have q:=PySem.IsL.update e f;rw[hf]at q;refine I.write (x:=l) (e:=l) (by rw[J];exact trivial) (.inl rfl) (λY u O W=>(LS s.heap (Obj.mapSeq f) (K9 O)).trans W) ⟨_,q⟩ ?_;exact⟨hz,its',_,L,q⟩
theorem Inv.lnew {its:List Oq}{t':Nat}(I:Inv X pins σ H s)(J:Vals ys its)(hz:ys.length<=sizeLine) :
 Inv X pins σ (aI H s.heap.objs.size (.lst ys)) { s with heap:=s.heap.push { cls:=.type "list",data:=.seq its.toArray },toks:=t' }:=
 I.laid (λ_ _ q=>J5 _ q) (J6 _) ⟨hz,its,0,J,Kh _ rfl⟩
theorem Inv.fresh (I:Inv X pins σ H s):H s.heap.objs.size=none:=I.hok.fresh (J6 _)
theorem Inv.lstM (I:Inv X pins σ H s) (J:H l=some (.lst xs)):xs.length<=sizeLine/\∃(its:List Oq)(n:Nat),Vals xs its/\xs.length=its.length/\s.heap.get? l=some { cls:=.type "list",data:=.seq its.toArray n }:=by obtain⟨z,its,n,r,e⟩:=I.hok l _ J;exact⟨z,its,n,r,r.length,e⟩
end
section
variable {X:Cx}
noncomputable def sq:V->List V->Hp->VK->Prop:=λx vs H Q=>∃ l xs y,x=.ref l/\vs=[y]/\H l=some (.lst xs)/\xs.length<sizeLine/\Q .non (aI H l (.lst (xs++[y])))
theorem fq:JX X "list.append" sq:=by intro pins s σ H x vs v us Q I L O h;obtain⟨l,xs,y,rfl,rfl,J,hz,q⟩:=h;cases L;obtain⟨u,rfl,W⟩:=O.one;obtain⟨z,its,n,r,Y,e⟩:=I.lstM J;refine call_meets F.slot_list_append ⟨_,e,rfl⟩ F.entry_list_append (F.args_list_append_2 _ _) (PySem.list_append l its.toArray n u (by rw[Kf];lia)) ⟨e,?_⟩;refine⟨.non,_,I.lset (its':=its++[u]) J e (by simp) (r.append (.cons W .nil)) ?_,rfl,q⟩;rw[Kp,MT];lia
end
section
variable {prog:Oo}{w:World}{A:Os}{E:Oq->Om->Prop}{s:Om}
end
section
variable {X:Cx}
end
section
variable {κ:Type}[DecidableEq κ]
noncomputable def cS (kvs:List (κ×V))(k:κ):Option V:=(kvs.find? λkv=>decide (kv.1=k)).map (·.2)
noncomputable def cz (kvs:List (κ×V))(k:κ)(v:V):List (κ×V):=if (kvs.any λkv=>decide (kv.1=k))=true then kvs.map (λkv=>if kv.1=k then (kv.1,v) else kv) else kvs++[(k,v)]
noncomputable def kz (kvs:List (κ×V))(k:κ):List (κ×V):=kvs.filter λkv=>decide (kv.1≠k)
theorem fB {p:κ×V}{r:List (κ×V)}{k:κ}(e:p.1=k):cS (p::r) k=some p.2:=by simp[cS,LI,e]
theorem fC {p:κ×V}{r:List (κ×V)}{k:κ}(e:¬ p.1=k):cS (p::r) k=cS r k:=by simp[cS,LI,e]
theorem iQ (k:κ):∀ kvs:List (κ×V),(kvs.any λkv=>decide (kv.1=k))=(cS kvs k).isSome
 | []=>rfl
 |p::r=>by
  rw[MK];by_cases e:p.1=k
  .simp only[fB e,Ki e,Bool.true_or,Option.isSome_some]
  .rw[fC e,Kv e,Bool.false_or];exact iQ k r
theorem fW (kvs:List (κ×V))(k:κ)(v:V):(cz kvs k v).length<=kvs.length+1:=by
 unfold cz;split
 .rw[J9];lia
 .rw[Kp,Kl,KU];lia
theorem oR {kvs:List (κ×V)}{k:κ}(v:V)(h:cS kvs k=none):cz kvs k v=kvs++[(k,v)]:=by unfold cz;rw[iQ,h];exact J_ (by decide)
theorem RelO.isSome_eq {o:Option V}{u:Option Oq}(r:RelO o u):o.isSome=u.isSome:=by
 cases o with
 |none=>cases u with
  |none=>rfl
  |some _=>exact(show False from r).elim
 |some _=>cases u with
  |none=>exact(show False from r).elim
  |some _=>rfl
theorem RelO.getD {o:Option V}{u:Option Oq}{d:V}{d':Oq}(r:RelO o u)(rd:RelV d d'):RelV (o.getD d) (u.getD d'):=by
 cases o with
 |none=>cases u with
  |none=>exact rd
  |some _=>exact(show False from r).elim
 |some _=>cases u with
  |none=>exact(show False from r).elim
  |some _=>exact r
theorem KV.val {kvs:List (κ×V)}{vs:List (κ×Oq)}(r:KV kvs vs)(k:κ):RelO (cS kvs k) (valueAt vs k):=by
 unfold KV at r;induction r with
 |nil=>exact True.intro
 | @cons p q ps qs h t J=>
  obtain⟨h1,h2⟩:=h;by_cases e:p.1=k
  .have e':q.1=k:=h1.symm.trans e;have b:valueAt (q::qs) k=some q.2:=by simp[valueAt,LI,e']
   rw[fB e,b];exact h2
  .have e':¬ q.1=k:=λz=>e (h1.trans z);have b:valueAt (q::qs) k=valueAt qs k:=by simp[valueAt,LI,e']
   rw[fC e,b];exact J
theorem KV.any {kvs:List (κ×V)}{vs:List (κ×Oq)}(r:KV kvs vs)(k:κ):(kvs.any λkv=>decide (kv.1=k))=vs.any λkv=>decide (kv.1=k):=by
 unfold KV at r;induction r with
 |nil=>rfl
 |cons h t J=>rw[MK,MK,J,h.1]
theorem KV.repl {kvs:List (κ×V)}{vs:List (κ×Oq)}(r:KV kvs vs)(k:κ){y:V}{u:Oq}(J:RelV y u) :
 KV (kvs.map λkv=>if kv.1=k then (kv.1,y) else kv) (vs.map λkv=>if kv.1=k then (kv.1,u) else kv):=by
 unfold KV at r ⊢;induction r with
 |nil=>exact .nil
 | @cons p q ps qs h t L=>
  rw[Kc,Kc];refine .cons ?_ L;obtain⟨h1,h2⟩:=h;by_cases e:p.1=k
  .rw[Ka e,Ka (h1.symm.trans e)];exact⟨h1,J⟩
  .rw[J_ e,J_ (λz=>e (h1.trans z))];exact⟨h1,h2⟩
theorem KV.put {kvs:List (κ×V)}{vs:List (κ×Oq)}(r:KV kvs vs)(k:κ){y:V}{u:Oq}(J:RelV y u):KV (cz kvs k y) (stored vs k u):=by
 unfold cz stored;rw[r.any k];by_cases e:(vs.any λkv=>decide (kv.1=k))=true
 .rw[Ka e,Ka e];exact r.repl k J
 .rw[J_ e,J_ e];exact Paired.snoc r ⟨rfl,J⟩
theorem KV.drop {kvs:List (κ×V)}{vs:List (κ×Oq)}(r:KV kvs vs)(k:κ):KV (kz kvs k) (without vs k):=by
 unfold KV at r ⊢;unfold kz without;induction r with
 |nil=>exact .nil
 | @cons p q ps qs h t J=>
  obtain⟨h1,h2⟩:=h;rw[Nb,Nb];by_cases e:p.1=k
  .have a:¬ decide (p.1≠k)=true:=by simp[e]
   have b:¬ decide (q.1≠k)=true:=by simp[h1.symm.trans e]
   rw[J_ a,J_ b];exact J
  .have e':¬ q.1=k:=λz=>e (h1.trans z);have a:decide (p.1≠k)=true:=by simp[e]
   have b:decide (q.1≠k)=true:=by simp[e']
   rw[Ka a,Ka b];exact .cons ⟨h1,h2⟩ J
theorem KV.length {kvs:List (κ×V)}{vs:List (κ×Oq)}(r:KV kvs vs):kvs.length=vs.length:=Nq r
theorem AF (kvs:List (κ×V))(k:κ):(kz kvs k).length<=kvs.length:=List.length_filter_le _ _
end
theorem iS {P:Oo}{w:World}{k:Key}{u:Oq}(r:RelV (kV k) u):(aE P w).is k u=true:=by
 cases k with
 |inl i=>obtain⟨t,e⟩:=(show ∃ t,u=Value.int i t from r);subst e;exact tV P w i t
 |inr x=>obtain⟨t,e⟩:=(show ∃ t,u=Value.str x t from r);subst e;exact tW P w x t
theorem q_ {P:Oo}{w:World}:∀{ks:List Key}{us:List Oq},Vals (ks.map kV) us->ItemsAre (aE P w) ks us
 | [],_,r=>by rw[Lx]at r;cases r;exact .nil
 |k::ks,_,r=>by
  rw[Kc]at r;cases r with
  |cons h t=>exact .cons (iS h) (q_ t)
noncomputable abbrev KT (H:Hp):List (List Key×V)->List (List Key×Addr×Oq)->Prop:=Paired λp q=>p.1=q.1/\H q.2.1=some (.tup (p.1.map kV))/\RelV p.2 q.2.2
theorem KT.val {H:Hp}{kvs:List (List Key×V)}{xs:List (List Key×Addr×Oq)}(r:KT H kvs xs)(k:List Key):RelO (cS kvs k) ((atKey xs k).map (·.2)):=by
 induction r with
 |nil=>exact True.intro
 | @cons p q ps qs h t J=>
  obtain⟨h1,_,h2⟩:=h;by_cases e:p.1=k
  .have e':q.1=k:=h1.symm.trans e;have b:atKey (q::qs) k=some q.2:=by simp[atKey,LI,e']
   rw[fB e,b];exact h2
  .have e':¬ q.1=k:=λz=>e (h1.trans z);have b:atKey (q::qs) k=atKey qs k:=by simp[atKey,LI,e']
   rw[fC e,b];exact J
theorem KT.repl {H:Hp}{kvs:List (List Key×V)}{xs:List (List Key×Addr×Oq)}(r:KT H kvs xs)(k:List Key){y:V}{u:Oq}(J:RelV y u) :
 KT H (kvs.map λkv=>if kv.1=k then (kv.1,y) else kv) (xs.map (putAt k u)):=by
 induction r with
 |nil=>exact .nil
 | @cons p q ps qs h t L=>
  rw[Kc,Kc];refine .cons ?_ L;obtain⟨h1,h2,O⟩:=h;unfold putAt;by_cases e:p.1=k
  .rw[Ka e,Ka (h1.symm.trans e)];exact⟨h1,h2,J⟩
  .rw[J_ e,J_ (λz=>e (h1.trans z))];exact⟨h1,h2,O⟩
theorem KT.put {H:Hp}{kvs:List (List Key×V)}{xs:List (List Key×Addr×Oq)}(r:KT H kvs xs)(k:List Key){b:Addr}{y:V}{u:Oq}(L:H b=some (.tup (k.map kV)))(J:RelV y u) :
 KT H (cz kvs k y) (storedH xs k b u):=by
 have e:(kvs.any λkv=>decide (kv.1=k))=(atKey xs k).isSome:=by rw[iQ,(r.val k).isSome_eq,Ny]
 unfold cz storedH;rw[e];by_cases q:(atKey xs k).isSome=true
 .rw[Ka q,Ka q];exact r.repl k J
 .rw[J_ q,J_ q];exact Paired.snoc r ⟨rfl,L,J⟩
theorem KT.keeps {H H':Hp}{kvs:List (List Key×V)}{xs:List (List Key×Addr×Oq)}(r:KT H kvs xs)(J:∀ b ys,H b=some (.tup ys)->H' b=some (.tup ys)):KT H' kvs xs:=Paired.mapP r λ_ _ z=>⟨z.1,J _ _ z.2.1,z.2.2⟩
section
variable {P:Oo}{w:World}{H:Hp}{h:Heap}{a:Addr}
theorem Ey {u:HO}(ok:HOk P w H h)(e:Rd H a u):ObjOk P w H h a u:=e.ok ok
theorem kA {kvs:List (Key×V)}(ok:HOk P w H h)(e:Rd H a (.dK kvs)):kvs.length<=sizeLine/\(a==sysModules)=false/\∃ vs,KV kvs vs/\h.DictOf (aE P w) a vs:=show ObjOk P w H h a (.dK kvs) from Ey ok e
theorem xG {kvs:List (Key×V)}(ok:HOk P w H h)(e:H a=some (.dK kvs)):kvs.length<=sizeLine/\(a==sysModules)=false/\∃ vs,KV kvs vs/\h.DictOf (aE P w) a vs:=kA ok (.inl e)
theorem dj {ks:List Key}(ok:HOk P w H h)(e:H a=some (.tup (ks.map kV))):(tupleKind (aE P w)).is h ks a:=by obtain⟨_,its,r,o,h1,h2,n,J⟩:=(show ObjOk P w H h a (.tup (ks.map kV)) from ok a _ e);exact⟨o,its.toArray,n,h1,h2,J,by simpa using q_ r⟩
theorem kC {kvs:List (List Key×V)}(ok:HOk P w H h)(e:Rd H a (.dT kvs)):kvs.length<=sizeLine/\(a==sysModules)=false/\
 ∃ xs,KT H kvs xs/\h.DictOfH (tupleKind (aE P w)) a xs:=by
 obtain⟨z,y,xs,r,o,es,ep,h1,h2,L,O,W⟩:=(show ObjOk P w H h a (.dT kvs) from Ey ok e);refine⟨z,y,xs,r,o,es,ep,h1,h2,L,O,λx hx=>?_,W⟩;have all:∀{l:List (List Key×V)}{m:List (List Key×Addr×Oq)},KT H l m->∀ x∈m,(tupleKind (aE P w)).is h x.1 x.2.1:=by
  intro l m q;induction q with
  |nil=>intro x hx;exact nomatch hx
  | @cons p q ps qs J t Y=>
   intro x hx;rcases Kb.mp hx with e|hx
   .subst e;exact dj ok (by rw[<- J.1];exact J.2.1)
   .exact Y x hx
 exact all r x hx
theorem Ez {kvs:List (List Key×V)}(ok:HOk P w H h)(e:H a=some (.dT kvs)):kvs.length<=sizeLine/\(a==sysModules)=false/\
 ∃ xs,KT H kvs xs/\h.DictOfH (tupleKind (aE P w)) a xs:=kC ok (.inl e)
end
def DGet (H:Hp)(a:Addr)(y:V)(r:Option V):Prop:=(∃ kvs k,Rd H a (.dK kvs)/\y=kV k/\r=cS kvs k)\/∃ kvs k b,Rd H a (.dT kvs)/\y=.ref b/\H b=some (.tup (k.map kV))/\r=cS kvs k
def DPut (H:Hp)(a:Addr)(y v:V)(H':Hp):Prop:=
 (∃ kvs k,H a=some (.dK kvs)/\y=kV k/\kvs.length<sizeLine/\H'=aI H a (.dK (cz kvs k v)))\/
 ∃ kvs k b,H a=some (.dT kvs)/\y=.ref b/\H b=some (.tup (k.map kV))/\kvs.length<sizeLine/\H'=aI H a (.dT (cz kvs k v))
theorem DGet.t {H:Hp}{a b:Addr}{kvs:List (List Key×V)}{k:List Key}(e:H a=some (.dT kvs))(J:H b=some (.tup (k.map kV))):DGet H a (.ref b) (cS kvs k):=.inr ⟨kvs,k,b,.inl e,rfl,J,rfl⟩
theorem DPut.t {H:Hp}{a b:Addr}{kvs:List (List Key×V)}{k:List Key}{v:V}(e:H a=some (.dT kvs))(J:H b=some (.tup (k.map kV)))(L:kvs.length<sizeLine) :
 DPut H a (.ref b) v (aI H a (.dT (cz kvs k v))):=.inr ⟨kvs,k,b,e,rfl,J,L,rfl⟩
section
variable {X:Cx}{pins:List (Addr×Obj)}{σ:St}{H:Hp}{s:Om}{a:Addr}{y v:V}{u r:Oq}{o:Option V}{A:Os}{E:Oq->Om->Prop}
theorem Inv.big (I:Inv X pins σ H s):sysModules<s.heap.objs.size:=by have h:mainGlobals<s.heap.objs.size:=(I.mod.glob.keeps I.bk).lt;exact Nat.lt_trans (by decide) h
theorem yX {Q:Oq->Om->Prop}(hu:A.units+1<cLine)(I:Inv X pins σ H s)(g:DGet H a y (some v))(Z:RelV y u)(h:∀ L s',Inv X pins σ H s'->RelV v L->Q L s') :
 wpAny (model X.prog X.w) A (getItem (.ref a) u) Q E s:=by
 rcases g with⟨kvs,k,e,O,l⟩|⟨kvs,k,b,e,O,eb,l⟩
 .subst O;obtain⟨z,hd,vs,rel,dd⟩:=kA I.hok e;obtain⟨L,W,J⟩:=RelO.some_of (v:=v) (o:=valueAt vs k) (by rw[l];exact rel.val k);exact wpAny_getItem_of (iS Z) dd.mapOf W (h L _ (I.tok _) J)
 .subst O;cases (show u=Value.ref b from Z);obtain⟨z,hd,xs,rel,dd⟩:=kC I.hok e;obtain⟨L,W,J⟩:=RelO.some_of (v:=v) (o:=(atKey xs k).map (·.2)) (by rw[l];exact rel.val k);obtain⟨p,hp,Y⟩:=K1.mp W;refine wpAny_getItem_heap (LJ hu) (dj I.hok eb) dd hp ?_;rw[Y];exact h L _ (I.tok _) J
theorem Jq {Q:Oq->Om->Prop}(O:A.units+1<cLine)(I:Inv X pins σ H s)(g:DGet H a y o)(L:RelV y u)(h:∀ s',Inv X pins σ H s'->Q (.bool o.isSome) s') :
 wpAny (model X.prog X.w) A (compareOp .In u (.ref a)) Q E s:=by
 rcases g with⟨kvs,k,e,J,l⟩|⟨kvs,k,b,e,J,W,l⟩
 .subst J;obtain⟨z,hd,vs,rel,dd⟩:=kA I.hok e;refine wpAny_in_of (iS L) hd dd.mapOf ?_;rw[<- (rel.val k).isSome_eq,<- l];exact h _ (I.tok _)
 .subst J;cases (show u=Value.ref b from L);obtain⟨z,hd,xs,rel,dd⟩:=kC I.hok e;refine wpAny_in_heap (LJ O) (dj I.hok W) hd dd ?_;have q:=(rel.val k).isSome_eq;rw[Ny]at q;rw[<- q,<- l];exact h _ (I.tok _)
theorem C5 {Q:Oq->Om->Prop}(O:A.units+1<cLine)(I:Inv X pins σ H s)(g:DGet H a y o)(L:RelV y u)(h:∀ s',Inv X pins σ H s'->Q (.bool (!o.isSome)) s') :
 wpAny (model X.prog X.w) A (compareOp .NotIn u (.ref a)) Q E s:=by
 rcases g with⟨kvs,k,e,J,l⟩|⟨kvs,k,b,e,J,W,l⟩
 .subst J;obtain⟨z,hd,vs,rel,dd⟩:=kA I.hok e;refine wpAny_notIn_of (iS L) hd dd.mapOf ?_;rw[<- (rel.val k).isSome_eq,<- l];exact h _ (I.tok _)
 .subst J;cases (show u=Value.ref b from L);obtain⟨z,hd,xs,rel,dd⟩:=kC I.hok e;refine wpAny_notIn_heap (LJ O) (dj I.hok W) hd dd ?_;have q:=(rel.val k).isSome_eq;rw[Ny]at q;rw[<- q,<- l];exact h _ (I.tok _)
theorem lj {h':Heap}{t':Nat}{J:HO}(I:Inv X pins σ H s)(L:Hf (H a))(hs:Heap.SameBut a s.heap h')(O:∃ q,h'.get? a=some q)(new:ObjOk X.prog X.w (aI H a J) h' a J) :
 Inv X pins σ (aI H a J) { s with heap:=h',toks:=t' }:=
 I.write (x:=a) (e:=a) L (.inl rfl) (λb q W z=>(hs.2 b W).trans z) O new
theorem wl {P:Oo}{w:World}{H':Hp}{h':Heap}{kvs:List (Key×V)}{vs:List (Key×Oq)}(z:kvs.length<=sizeLine)(hd:(a==sysModules)=false)(rel:KV kvs vs)(dd:h'.DictOf (aE P w) a vs) :
 ObjOk P w H' h' a (.dK kvs):=⟨z,hd,vs,rel,dd⟩
theorem yY {H':Hp}{Q:Unit->Om->Prop}(hu:A.units+1<cLine)(I:Inv X pins σ H s)(g:DPut H a y v H')(Z:RelV y u)(rv:RelV v r)(h:∀ s',Inv X pins σ H' s'->Q () s') :
 wpAny (model X.prog X.w) A (setItem (.ref a) u r) Q E s:=by
 rcases g with⟨kvs,k,e,O,l,W⟩|⟨kvs,k,b,e,O,eb,l,W⟩
 .subst O W;obtain⟨z,hd,vs,rel,dd⟩:=xG I.hok e;have hz:vs.length<=sizeLine:=by rw[<- rel.length];exact z
  have Y:(cz kvs k v).length<=sizeLine:=by have:=fW kvs k v;lia
  refine wpAny_setItem_pairs (hsz:=hz) (iS Z) dd λh' J hs=>h _ ?_;have he:∃ q,h'.get? a=some q:=let ⟨q,_,_,L,_⟩:=J;⟨q,L⟩;exact lj I (by rw[e];exact True.intro) hs he (wl Y hd (rel.put k rv) J)
 .subst O W;cases (show u=Value.ref b from Z);obtain⟨z,hd,xs,rel,dd⟩:=Ez I.hok e;have hz:xs.length<=sizeLine:=by rw[<- Nq rel];exact z
  have Y:(cz kvs k v).length<=sizeLine:=by have:=fW kvs k v;lia
  refine wpAny_setItem_heap (hsz:=hz) (LJ hu) (dj I.hok eb) dd λh' J hs=>h _ ?_;obtain⟨q,es,ep,L,h2,h3,h4,_,h5⟩:=J;refine lj I (by rw[e];exact True.intro) hs ⟨q,L⟩ ⟨Y,hd,_,(rel.put k eb rv).keeps λc ys ec=>?_,q,es,ep,L,h2,h3,h4,h5⟩;rw[ac (Ak ec e (λz=>nomatch z))];exact ec
end
section
variable {X:Cx}{pins:List (Addr×Obj)}{σ:St}{H:Hp}{s:Om}{a:Addr}{kvs:List (Key×V)}{k:Key}{u:Oq}{A:Os}{E:Oq->Om->Prop}
theorem HA {v:V}{more:List Oq}{Q:Oq->Om->Prop}(I:Inv X pins σ H s)(e:H a=some (.dK kvs))(O:RelV (kV k) u)(l:cS kvs k=some v)(hm:more=[]\/∃ x,more=[x])
 (h:∀ J s',Inv X pins σ (aI H a (.dK (kz kvs k))) s'->RelV v J->Q J s'):wpAny (model X.prog X.w) A (call (.builtin "dict.pop") (.ref a::u::more)) Q E s:=by
 obtain⟨z,hd,vs,rel,dd⟩:=xG I.hok e;obtain⟨J,Y,W⟩:=RelO.some_of (v:=v) (o:=valueAt vs k) (by rw[<- l];exact rel.val k);have Z:(keyPart u).isSome=true:=by
  cases k with
  |inl i=>obtain⟨t,q⟩:=(show ∃ t,u=Value.int i t from O);subst q;rfl
  |inr x=>obtain⟨t,q⟩:=(show ∃ t,u=Value.str x t from O);subst q;rfl
 have ha:argsOk "dict.pop" ⟨.ref a::u::more,[]⟩:=by
  rcases hm with q|⟨x,q⟩
  .subst q;exact PySem.F.args_dict_pop_2 _ _
  .subst q;exact PySem.F.args_dict_pop_3 _ _ _
 refine Ni PySem.F.slot_dict_pop dd.typeIs PySem.F.entry_dict_pop ha (meets_dict_pop_there (aE X.prog X.w) a (iS O) more hm Z)
  ⟨vs,J,dd,by rw[<- rel.length];exact z,Y,λh' L hs=>h J _ ?_ W⟩
 have he:∃ q,h'.get? a=some q:=let ⟨q,_,_,hq,_⟩:=L;⟨q,hq⟩;exact lj I (by rw[e];exact True.intro) hs he (wl (Ku (AF kvs k) z) hd (rel.drop k) L)
end
def FX (i:Expr):Prop:=∀ ov J,subscripted i false ov J=operate [ov,J] (getItem ov J)
theorem C6 {prog:Oo}{w:World}{A:Os}{E:Oq->Om->Prop}{s:Om}{env:Env}{value slice:Expr}{pos:Pos}{T id:String}{Q:Oq->Om->Prop}
 (hl:typeLookup (.type T) "__getitem__"=pure (some (.builtin id))) (hs:FX slice)
 (h:wpAny (model prog w) A (eval value env) (λo O=>wpAny (model prog w) A (eval slice env) (λi J=>J.TypeIs o T/\wpAny (model prog w) A (getItem o i) Q E J) E O) E s) :
 wpAny (model prog w) A (eval (.Subscript value slice pos) env) Q E s:=by
 refine Subscript_ (LO h (λo O Y=>LO Y (λi J L=>?_) λ_ _ x=>x) λ_ _ x=>x);obtain⟨hT,L⟩:=L;unfold subscriptTail;refine J4 ?_;rw[getitemInPython_of_ne hT.not_modules];refine J4 (wpAny_specialOf hT hl ?_);have fin:wpAny (model prog w) A (subscripted slice false o i) (λr W=>wpAny (model prog w) A (letTemporaryGo value o r >>= λ_=>pure r) Q E W) E J:=by rw[hs o i];exact wpAny_operating (LO L (λr W Z=>J4 (wpAny_letTemporaryGo (J7 Z))) λ_ _ x=>x)
 first
  |exact J7 (J4 fin)
  |exact J4 (J7 (J4 fin))
  |exact J4 fin
theorem ub {X:Cx} {pins:List (Addr×Obj)} {σ:St} {H:Hp} {s:Om} {a:Addr} {y:V} {o:Option V} (I:Inv X pins σ H s) (g:DGet H a y o):s.TypeIs (.ref a) "dict":=by
 rcases g with⟨kvs,k,e,_,_⟩|⟨kvs,k,b,e,_,_,_⟩
 .obtain⟨_,_,vs,_,dd⟩:=kA I.hok e;exact dd.typeIs
 .obtain⟨_,_,xs,_,dd⟩:=kC I.hok e;exact dd.typeIs
noncomputable def EA (td ty:TE):TE:=λσ H Q=>td σ H λx H1=>ty σ H1 λy H2=>∃ a v,x=.ref a/\DGet H2 a y (some v)/\Q v H2
noncomputable def AG (td ty tv:TE):TS:=λD σ H=>tv σ H λv H1=>td σ H1 λx H2=>ty σ H2 λy H3=>∃ a J,x=.ref a/\DPut H3 a y v J/\D.nx σ J
section
variable {X:Cx}{o i e value:Expr}{pos pos' qA:Pos}{td ty tv:TE}
theorem xH (O:X.A.units+1<cLine)(W:PE X o td)(hi:PE X i ty)(hs:FX i):PE X (.Subscript o i pos) (EA td ty):=by intro pins s σ H Q I h;refine C6 PySem.F.slot_dict_getitem.lookup hs (bM (W pins s σ H _ I h) λu s1 ⟨x,H1,Y,Z,q1⟩=>bM (hi pins s1 σ H1 _ Y q1) λiv s2 ⟨y,H2,L,ry,a,v,ex,g,q2⟩=>?_);subst ex;obtain rfl:u=Value.ref a:=Z;exact⟨ub L g,yX O L g ry λw' s3 I3 J=>⟨v,H2,I3,J,q2⟩⟩
theorem C7 (J:X.A.units+1<cLine)(L:PE X o td)(hi:PE X i ty)(O:PE X value tv)(hs:swapsWith value (some (.Subscript o i pos')) pos.line X.env=pure false) :
 PS X (.Assign [.Subscript o i pos'] value pos) (AG td ty tv):=by
 intro pins s σ H D I h;refine wpAny_Assign_Subscript (bM (O pins s σ H _ I h) λr s1 ⟨v,H1,W,Y,q1⟩=>bM (L pins s1 σ H1 _ W q1) λu s2 ⟨x,H2,Z,rx,q2⟩=>bM (hi pins s2 σ H2 _ Z q2) λiv s3 ⟨y,H3,I3,ry,a,H4,ex,g,q3⟩=>?_) hs;subst ex;obtain rfl:u=Value.ref a:=rx;exact yY J I3 g ry Y λs4 I4=>⟨σ,H4,I4,q3⟩
end
theorem AH {P:Oo} {w:World} {H:Hp} (h:Heap) (J:sysModules<h.objs.size):ObjOk P w H (h.push { cls:=.type "dict",data:=.dict #[] }) h.objs.size (.dK []):=⟨KF _,Li.mpr (K9 (Kt J)),[],.nil,Heap.DictOf.new h⟩
theorem AI {P:Oo} {w:World} {H:Hp} (h:Heap) (J:sysModules<h.objs.size):ObjOk P w H (h.push { cls:=.type "dict",data:=.dict #[] }) h.objs.size (.dT []):=⟨KF _,Li.mpr (K9 (Kt J)),[],.nil,_,#[],0,Kh _ rfl,⟨rfl,rfl,rfl⟩,rfl,rfl,KI⟩
noncomputable def AJ:TE:=λ_ H Q=>∀ p,H p=none->Q (.ref p) (aI H p (.dK []))
noncomputable def oS:TE:=λ_ H Q=>∀ p,H p=none->Q (.ref p) (aI H p (.dT []))
section
variable {X:Cx}{pos:Pos}
theorem AK:PE X (.Dict [] [] pos) AJ:=λpins s σ H Q I h=>wpAny_Dict_empty ⟨.ref s.heap.objs.size,_,I.laid (a:=s.heap.objs.size) (o:=.dK []) (t':=s.toks) (λ_ _ q=>J5 _ q) (J6 _) (AH s.heap I.big),rfl,h _ (I.hok.fresh (J6 _))⟩
theorem lq:PE X (.Dict [] [] pos) oS:=λpins s σ H Q I h=>wpAny_Dict_empty ⟨.ref s.heap.objs.size,_,I.laid (a:=s.heap.objs.size) (o:=.dT []) (t':=s.toks) (λ_ _ q=>J5 _ q) (J6 _) (AI s.heap I.big),rfl,h _ (I.hok.fresh (J6 _))⟩
end
structure M1 (X:Cx) (o:Expr) (m:Str) (apos:Pos) (e:Expr) (cpos:Pos):Prop where
 base:attributeBase o m X.env (eval o X.env)=eval o X.env
 few:((backTo cpos (starEach [e] X.env)).all (λx=>!x.1)&&(backToKw cpos (keywordEach [] X.env)).all (λx=>x.1.isSome)
  && decide (([e]:List Expr).length+([]:List Keyword).length+(if ([]:List Keyword).isEmpty then 0 else 1)<30))=true
 line:(apos.endLine==cpos.line)=true
 trees:backTo cpos (starEach [e] X.env)=[(false,eval e X.env)]
structure M2 (X:Cx) (o:Expr) (m:Str) (apos:Pos) (e f:Expr) (cpos:Pos):Prop where
 base:attributeBase o m X.env (eval o X.env)=eval o X.env
 few:((backTo cpos (starEach [e,f] X.env)).all (λx=>!x.1)&&(backToKw cpos (keywordEach [] X.env)).all (λx=>x.1.isSome)
  && decide (([e,f]:List Expr).length+([]:List Keyword).length+(if ([]:List Keyword).isEmpty then 0 else 1)<30))=true
 line:(apos.endLine==cpos.line)=true
 trees:backTo cpos (starEach [e,f] X.env)=[(false,eval e X.env),(false,eval f X.env)]
def HB (H:Hp)(a:Addr):Prop:=(∃ kvs,Rd H a (.dK kvs))\/∃ kvs,Rd H a (.dT kvs)
theorem sr {X:Cx}{pins:List (Addr×Obj)}{σ:St}{H:Hp}{s:Om}{a:Addr}(I:Inv X pins σ H s)(d:HB H a) :
 s.TypeIs (.ref a) "dict"/\(∀ b,Value.ref a=.ref b->∃ J,s.heap.get? b=some J/\J.dict=none)/\(a==sysModules)=false:=by
 rcases d with⟨kvs,e⟩|⟨kvs,e⟩
 .obtain⟨_,hd,vs,_,dd⟩:=kA I.hok e;refine⟨dd.typeIs,λb q=>?_,hd⟩;cases q;obtain⟨J,_,_,h1,h2,_⟩:=dd;exact⟨J,h1,h2.2.1⟩
 .obtain⟨_,hd,xs,_,dd⟩:=kC I.hok e;refine⟨dd.typeIs,λb q=>?_,hd⟩;cases q;obtain⟨J,_,_,h1,h2,_⟩:=dd;exact⟨J,h1,h2.2.1⟩
section
variable {X:Cx}{pins:List (Addr×Obj)}{σ:St}{H:Hp}{s:Om}{a:Addr}{y d:V}{u r:Oq}{o:Option V}{A:Os}{E:Oq->Om->Prop}
theorem FY {Q:Oq->Om->Prop}(W:A.units+1<cLine)(I:Inv X pins σ H s)(g:DGet H a y o)(L:RelV y u)(h:∀ O s',Inv X pins σ H s'->RelV (o.getD .non) O->Q O s') :
 wpAny (model X.prog X.w) A (call (.builtin "dict.get") [.ref a,u]) Q E s:=by
 rcases g with⟨kvs,k,e,J,l⟩|⟨kvs,k,b,e,J,Y,l⟩
 .subst J;obtain⟨z,hd,vs,rel,dd⟩:=kA I.hok e;refine Ni LX dd.typeIs MO (PySem.F.args_dict_get_2 _ _) (meets_dict_get (aE X.prog X.w) a (iS L) hd) ⟨_,dd.mapOf,h _ _ (I.tok _) ?_⟩;rw[l];exact(rel.val k).getD rfl
 .subst J;cases (show u=Value.ref b from L);obtain⟨z,hd,xs,rel,dd⟩:=kC I.hok e;refine Ni LX dd.typeIs MO (PySem.F.args_dict_get_2 _ _) (meetsH_dict_get (tupleKind (aE X.prog X.w)) a b hd) ⟨LJ W,k,xs,dj I.hok Y,dd,h _ _ (I.tok _) ?_⟩;rw[l];exact(rel.val k).getD rfl
theorem FZ {Q:Oq->Om->Prop}(W:A.units+1<cLine)(I:Inv X pins σ H s)(g:DGet H a y o)(L:RelV y u)(rd:RelV d r)(h:∀ O s',Inv X pins σ H s'->RelV (o.getD d) O->Q O s') :
 wpAny (model X.prog X.w) A (call (.builtin "dict.get") [.ref a,u,r]) Q E s:=by
 rcases g with⟨kvs,k,e,J,l⟩|⟨kvs,k,b,e,J,Y,l⟩
 .subst J;obtain⟨z,hd,vs,rel,dd⟩:=kA I.hok e;refine Ni LX dd.typeIs MO (PySem.F.args_dict_get_3 _ _ _) (meets_dict_get_default (aE X.prog X.w) a (iS L) hd r) ⟨_,dd.mapOf,h _ _ (I.tok _) ?_⟩;rw[l];exact(rel.val k).getD rd
 .subst J;cases (show u=Value.ref b from L);obtain⟨z,hd,xs,rel,dd⟩:=kC I.hok e;refine Ni LX dd.typeIs MO (PySem.F.args_dict_get_3 _ _ _) (meetsH_dict_get_default (tupleKind (aE X.prog X.w)) a b hd r) ⟨LJ W,k,xs,dj I.hok Y,dd,h _ _ (I.tok _) ?_⟩;rw[l];exact(rel.val k).getD rd
end
noncomputable def AL (td ty:TE):TE:=λσ H Q=>td σ H λx H1=>∃ a,x=.ref a/\HB H1 a/\ty σ H1 λy H2=>∃ o,DGet H2 a y o/\Q (o.getD .non) H2
noncomputable def oT (td ty tx:TE):TE:=λσ H Q=>td σ H λx H1=>∃ a,x=.ref a/\HB H1 a/\ty σ H1 λy H2=>tx σ H2 λz H3=>∃ o,DGet H3 a y o/\Q (o.getD z) H3
noncomputable def wn (td ty:TE):TE:=λσ H Q=>td σ H λx H1=>∃ a,x=.ref a/\HB H1 a/\ty σ H1 λy H2=>∃ kvs k v,H2 a=some (.dK kvs)/\y=kV k/\cS kvs k=some v/\Q v (aI H2 a (.dK (kz kvs k)))
section
variable {X:Cx}{o e f:Expr}{apos cpos:Pos}{td ty tx:TE}
theorem AM (O:X.A.units+1<cLine) (W:PE X o td) (Y:PE X e ty) (m:M1 X o "get" apos e cpos):PE X (.Call (.Attribute o "get" apos) [e] [] cpos) (AL td ty):=by intro pins s σ H Q I h;refine wpAny_Call_method m.base m.few m.line KY LX PySem.F.type_dict_get (bM (W pins s σ H _ I h) λu s1 ⟨x,H1,L,Z,a,ex,d,q1⟩=>?_);subst ex;obtain rfl:u=Value.ref a:=Z;obtain⟨t1,t2,_⟩:=sr L d;refine⟨t1,t2,?_⟩;rw[m.trees];refine LR rfl (Mx (Mq (bM (Y pins s1 σ H1 _ L q1) λiv s2 ⟨y,H2,I2,ry,ov,g,q2⟩=>MW ?_)));exact FY O I2 g ry λw' s3 I3 J=>⟨_,H2,I3,J,q2⟩
theorem oU (O:X.A.units+1<cLine) (W:PE X o td) (Y:PE X e ty) (hf:PE X f tx) (m:M2 X o "get" apos e f cpos):PE X (.Call (.Attribute o "get" apos) [e,f] [] cpos) (oT td ty tx):=by intro pins s σ H Q I h;refine wpAny_Call_method m.base m.few m.line KY LX PySem.F.type_dict_get (bM (W pins s σ H _ I h) λu s1 ⟨x,H1,L,Z,a,ex,d,q1⟩=>?_);subst ex;obtain rfl:u=Value.ref a:=Z;obtain⟨t1,t2,_⟩:=sr L d;refine⟨t1,t2,?_⟩;rw[m.trees];refine LR rfl (Mx (Mq (bM (Y pins s1 σ H1 _ L q1) λiv s2 ⟨y,H2,I2,ry,q2⟩=>Mq (bM (hf pins s2 σ H2 _ I2 q2) λfv s3 ⟨z,H3,I3,rz,ov,g,q3⟩=>MW ?_))));exact FZ O I3 g ry rz λw' s4 I4 J=>⟨_,H3,I4,J,q3⟩
theorem uc (O:PE X o td) (W:PE X e ty) (m:M1 X o "pop" apos e cpos):PE X (.Call (.Attribute o "pop" apos) [e] [] cpos) (wn td ty):=by intro pins s σ H Q I h;refine wpAny_Call_method m.base m.few m.line KY PySem.F.slot_dict_pop PySem.F.type_dict_pop (bM (O pins s σ H _ I h) λu s1 ⟨x,H1,L,Y,a,ex,d,q1⟩=>?_);subst ex;obtain rfl:u=Value.ref a:=Y;obtain⟨t1,Z,_⟩:=sr L d;refine⟨t1,Z,?_⟩;rw[m.trees];refine LR rfl (Mx (Mq (bM (W pins s1 σ H1 _ L q1) λiv s2 ⟨y,H2,I2,ry,kvs,k,v,ea,ey,l,q2⟩=>MW ?_)));subst ey;exact HA I2 ea ry l (.inl rfl) λw' s3 I3 J=>⟨v,_,I3,J,q2⟩
end
section
variable {X:Cx}{pins:List (Addr×Obj)}{σ:St}{H:Hp}{s:Om}{a:Addr}{kvs:List (Key×V)}{A:Os}{E:Oq->Om->Prop}
end
section
variable {X:Cx}{pins:List (Addr×Obj)}{σ:St}{H:Hp}{s:Om}{a:Addr}{y:V}{u:Oq}{A:Os}{E:Oq->Om->Prop}
end
end L2
namespace Att
open PySem PySem.W PySem.Calls PyProof.Rows
theorem n8 {P:Params}{h:Heap}:∀(ns:List Int)(vs:List Oq),WellAll P h vs (ns.map WData.int)->IntsAre vs ns:=by
 intro ns;induction ns with
 |nil=>intro vs w;rw[Lx]at w;cases w;exact .nil
 |cons n ns J=>
  intro vs w;rw[Kc]at w;cases w with
  |cons a b=>cases a;exact .cons _ _ (J _ b)
theorem yZ {l:OpenLaw}{n:Nat}(hn:l.most=some n){P:Params}{h:Heap}{args:List WData}{vals:List Oq}
 (J:l.row.toRowW.claim.pre args=true) (W:WellAll P h vals args) :
 ∃ a vs ns,vals=[Value.ref a]/\args=[WData.list (ns.map WData.int)]/\h.get? a=some { cls:=.type "list",data:=.seq vs.toArray }/\IntsAre vs ns/\ns.length<=n:=by
 have Y:WShape.hasAll [] args [.list .int]=true:=(pre_splitW J).1;have hc:l.pre.holds [] { args:=args }=true:=(pre_splitW J).2;obtain⟨d,r,rfl,h1,h2⟩:=hasAllW_cons Y;obtain rfl:=hasAllW_nil h2;obtain⟨xs,rfl,Z⟩:=hasW_list h1;obtain⟨ns,rfl⟩:=items_int Z;have bw:ns.length<=n:=by
  unfold OpenLaw.pre at hc;have L:(WTm.not (.lt (.lit (.int (n:Int))) (.len (.arg 0)))).holds [] { args:=[.list (ns.map .int)] }=true:=by have L:=(holds_andW hc).1;rw[hn]at L;exact L
  have O:=condW_of L (w_not (w_lt w_lit (w_len_list (w_arg rfl))));rw[J9]at O;refine Of λq=>?_;have q':(n:Int)<((ns.length:Nat):Int):=by lia
  first
   |(rw[Ki q']at O;exact absurd O (by decide))
   |(simp at O;lia)
 cases W with
 |cons w1 w2=>
  cases w2;cases w1 with
  |list ho eL=>exact⟨_,_,ns,rfl,rfl,ho,n8 ns _ eL,bw⟩
theorem y8 (l:OpenLaw)(args:List WData):l.row.toRowW.claim.post args (.bool true) args=true:=
 postW_of (r:=l.row.toRowW) (X:=(true==true))
  (show WShape.has [] (.bool true) .bool=true by first|rfl|decide|simp[WShape.has,WShape.arms,WShape.armsAll])
  (show(WTm.eq .res (.lit (.bool true))).value [] { args:=args,res:=some (.bool true),after:=args }=some (.bool (true==true)) from w_eq_bool (w_res rfl) w_lit) rfl
theorem attach_call {l:OpenLaw}{n:Nat}{q:Oo}{loose:List Str}{XP:(Str->Option Oq)->Heap->Prop}{YP:World->Heap->Prop}{d:DefRec}
 (hn:l.most=some n) (hdf:d.params.defaults=[])
 (call:∀(w:World)(s₀ J:Om)(mg mb:Str->Option Oq)(O:Addr)(o:Obj)(pm cd doc:Oq)(a:Addr)(vs:List Oq)(ns:List Int),
   Ground q loose [] XP w s₀ mg mb J.heap->YP w J.heap->
   J.heap.get? O=some o->o.data=.func (docDef d.name d.params d.body d.scope pm cd doc)->J.heap.CodeRec cd d.name->mg d.name=some (.ref O)->
   J.heap.get? a=some { cls:=.type "list",data:=.seq vs.toArray }->IntsAre vs ns->ns.length<=n->J.gens=#[]->
   codeAny (model l.prog w) callerA (.call (.ref O) ⟨[.ref a],[]⟩) (λr s'=>r=.ok (.ret (.bool true))/\OldK J.heap s'.heap/\s'.os=J.os/\AllBare s'.gens) J) :
 WalkO q loose XP YP l.row.toRowW d [] (λf vs=>PySem.call f vs):=by
 intro w s₀ J mg mb G Y O o pm cd doc dV kV ho hd hcd hD hmg hg args vals as W hlay hrd hwl hlo;obtain rfl:dV=.none:=Dflts.none hD hdf;obtain rfl:kV=.none:=Dflts.noKw hD;obtain⟨a,vs,ns,rfl,rfl,Z,L,bw⟩:=yZ hn W hwl;refine enter_call (NG (call w s₀ J mg mb O o pm cd doc a vs ns G Y ho (fd_plain hd) hcd hmg Z L bw hg) λr s' hq=>?_);obtain⟨rfl,h2,h3,h4⟩:=hq;exact⟨.inl ⟨.bool true,.bool true,[],rfl,λ_=>rfl,.bool true,y8 l _,λ_=>⟨List.Pairwise.nil,λ_ hm=>(nomatch hm)⟩⟩,h2,h3,h4⟩
section
variable {prog:Oo}{w:World}{A:Os}{E:Oq->Om->Prop}{s:Om}{K:Frag}
end
end Att
namespace L2
open PySem PySem.Spec PyProof.Rows
noncomputable def eZ (s:Stmt)(j:Nat):Stmt:=match s with
 | .ClassDef _ _ _ body _ _ _ _ _ _ _=>body.getD j (.Pass ⟨0,0,0,0⟩)
 |_=>.Pass ⟨0,0,0,0⟩
noncomputable def defArgs (s:Stmt):Arguments:=match s with
 | .FunctionDef _ a _ _ _ _ _ _ _ _=>a
 |_=>{ posonlyargs:=[],args:=[],vararg:=none,kwonlyargs:=[],kw_defaults:=[],kwarg:=none,defaults:=[] }
noncomputable def defBody (s:Stmt):List Stmt:=match s with
 | .FunctionDef _ _ b _ _ _ _ _ _ _=>b
 |_=>[]
noncomputable def defScope (s:Stmt):Scope:=match s with
 | .FunctionDef _ _ _ _ _ _ sc _ _ _=>sc
 |_=>{ kind:=.function,names:=[],isGenerator:=false,isCoroutine:=false }
noncomputable abbrev y9:CXT:=λ_ _ _ _ _ _=>False
noncomputable abbrev E0:XK:=λ_ _ _=>False
theorem fD {X:Cx}:eM y9 X E0:=λ_ _ _ _ _ _ _ h=>h.elim
structure Fun (K:On) (x qual:Str) (st:Stmt) (f:Addr) (fd:FuncData):Prop where
 ex:∃(oc:Oq)(od:Option Addr)(kV doc pm:Oq)(an:Option Addr)(cdv ct:Oq)(osl:Array (Option Oq)),
  fd=PySem.W.fnOf x qual (defArgs st) (defBody st) (defScope st) .none kV doc pm an cdv ct/\K.lookup f=some ⟨oc,od,.func fd,osl⟩/\PySem.W.codeIn K cdv qual=true
 kp:PySem.W.keepIn K (.ref f)=true
section
variable {P:Oo}{w:World}{K:On}{mg:Str->Option Oq}{base:Heap}
theorem Fun.ok {x qual:Str}{st:Stmt}{f:Addr}{fd:FuncData}{N ps:List Str}{k:Nat}{sp:Sp}(F:Fun K x qual st f fd)(S:FnScope N ps (defScope st))(len:∀ vs H Q E,sp vs H Q E->vs.length=ps.length)
 (J:∀(cdv:Oq)(A:Os)(outer:List Env)(s:Om)(H:Hp)(vs:List V)(Q:VK)(E:XK),Room k (A.deeper (envOfC qual (defScope st) s.heap.objs.size f cdv))->sp vs H Q E->
   ∃ t,PSs (wf y9 P w K mg base N qual (defScope st) f cdv A outer s H E).nox (defBody st) t/\t { nx:=λ_ H'=>Q .non H',rt:=Q } (cf N vs) H):FnOk P w K mg base y9 (k+1) f fd ps sp:=by
 obtain⟨oc,od,kV,doc,pm,an,cdv,ct,osl,rfl,lk,L⟩:=F.ex;refine AA lk L S len λA outer s H vs Q E W O=>?_;obtain⟨t,h,q⟩:=J cdv A outer s H vs Q E W O;exact⟨t,h.nox,q⟩
theorem Fun.binds {x qual:Str}{st:Stmt}{f:Addr}{fd:FuncData}{ps:List Str}(F:Fun K x qual st f fd)
 (h:∀(kV doc pm:Oq)(an:Option Addr)(cdv ct:Oq)(us:List Oq),us.length=ps.length->bindArgs (PySem.W.fnOf x qual (defArgs st) (defBody st) (defScope st) .none kV doc pm an cdv ct) ⟨us,[]⟩=pure (ps.zip us)):Binds K fd ps []:=by
 obtain⟨oc,od,kV,doc,pm,an,cdv,ct,osl,rfl,lk,J⟩:=F.ex;exact .all (h kV doc pm an cdv ct)
theorem l_ {x qual:Str}{st:Stmt}{f:Addr}{oc:Oq}{od an:Option Addr}{osl:Array (Option Oq)}{kV doc pm cdv ct:Oq}(l:K.lookup f=some ⟨oc,od,.func (PySem.W.fnOf x qual (defArgs st) (defBody st) (defScope st) .none kV doc pm an cdv ct),osl⟩)
 (c:PySem.W.codeIn K cdv qual=true) (k:PySem.W.keepIn K (.ref f)=true):Fun K x qual st f (PySem.W.fnOf x qual (defArgs st) (defBody st) (defScope st) .none kV doc pm an cdv ct):=⟨⟨oc,od,kV,doc,pm,an,cdv,ct,osl,rfl,l,c⟩,k⟩
end
theorem re {A:Os}{k:Nat}(J:Room k A):A.units+1<cLine:=KO (NY (by decide:1<=64) _) J.units
section
variable {X:Cx}
theorem pv (i:Nat) {x:Str} {pos:Pos} (L:autoParam (X.N[i]?=some x) Oy._auto_1) (O:autoParam (Vis X.env.scope x) Ov._auto_1) (hd:autoParam ((x==("__debug__" : Str))=false) Ot._auto_1)
 (J:autoParam ((x==("__classdict__" : Str))=false) Ot._auto_1):PE X (.Name x pos) (aA i):=Ft L O hd J
end
theorem ud {A B:Prop}(h:B):if false=true then A else B:=by rw[J_ KN];exact h
theorem ss {A B:Prop}(h:A):if true=true then A else B:=by rw[Ka rfl];exact h
theorem AN {c A B:Prop}[Decidable c](h1:c->A)(h2:¬ c->B):if c then A else B:=by
 by_cases h:c
 .rw[Ka h];exact h1 h
 .rw[J_ h];exact h2 h
def Same (H H':Hp):Prop:=∀ b o,H b=some o->H' b=some o
theorem Same.refl (H:Hp):Same H H:=λ_ _ h=>h
theorem Same.trans {H H1 H2:Hp}(a:Same H H1)(b:Same H1 H2):Same H H2:=λc o h=>b c o (a c o h)
theorem Same.free {H H':Hp}(e:Same H H'){l:Addr}(h:H' l=Option.none):H l=Option.none:=by
 cases q:H l with
 |none=>rfl
 |some o=>rw[e l o q]at h;cases h
section
variable {κ:Type}[DecidableEq κ]
end
noncomputable def qB (P:Oo)(w:World):CXT:=λouter H s E e s'=>
 ∃(x C t:Addr)(B:Heap)(H':Hp),e=.ref x/\s'.os=s.os/\AllBare s'.gens/\Un (frs outer) [] H H' s.heap s'.heap/\HOk P w H' s'.heap/\
  Heap.FlyingW B outer x (.ref C) (.ref t) s'.heap/\(∀ b u,H' b=some u->∃ o,B.get? b=some o)/\(∀ b o,s.heap.get? b=some o->Qt H b->b∉frs outer->B.get? b=some o)/\
  (∀ b o,s.heap.get? b=some o->b∉frs outer->∃ o',B.get? b=some o')/\H' x=none/\E (.ref C) none H'
theorem rf {H:Hp}{B h1 h2:Heap}(ok:HOk P w H h1)(Ag:∀ b u,H b=some u->∃ o,B.get? b=some o)(s1:B.StaysIn h1)(s2:B.StaysIn h2):HOk P w H h2:=λa o e=>(ok a o e).stay (λb u O q=>by have J:∃ v,H b=some v:=O.elim (λz=>⟨o,by rw[z];exact e⟩) λz=>⟨_,z⟩;obtain⟨v,W⟩:=J;obtain⟨o',L⟩:=Ag b v W;have:=s1 b o' L;rw[q]at this;cases this;exact s2 b _ L) (λ_ q=>q) λ_ _ q=>q
theorem oV:∀{o:HO},ObjOk P w H h a o->∃ J,h.get? a=some J
 | .lst xs,x=>by obtain⟨_,_,_,_,e⟩:=x;exact⟨_,e⟩
 | .tup xs,x=>by obtain⟨_,_,_,⟨_,e,_⟩⟩:=x;exact⟨_,e⟩
 | .dK kvs,x=>by obtain⟨_,_,_,_,o,_,_,e,_⟩:=x;exact⟨_,e⟩
 | .dT kvs,x=>by obtain⟨_,_,_,_,o,_,_,e,_⟩:=x;exact⟨_,e⟩
 | .set S n,x=>by obtain⟨o,_,_,_,e,_⟩:=x;exact⟨_,e⟩
 | .ins C dx fs,x=>by obtain⟨_,_,_,e,_⟩:=x;exact⟨_,e⟩
 | .own y,x=>x
 | .xd fs,x=>by obtain⟨_,⟨_,_,_,e,_⟩,_⟩:=x;exact⟨_,e⟩
 | .rng lo hi,x=>by obtain⟨_,_,_,e⟩:=x;exact⟨_,e⟩
 | .frz J u,x=>by obtain⟨e,_⟩:=x;exact⟨_,e⟩
 | .tbl ps,x=>⟨_,(show h.get? a=some _ from x)⟩
 | .met f y,x=>⟨_,(show h.get? a=some _ from x)⟩
 | .ext φ,x=>x.2.1
section
variable {P:Oo}{w:World}{K:On}{mg:Str->Option Oq}{base:Heap}{N:List Str}{qual:Str}{scope:Scope}{f:Addr}{cd:Oq}{A:Os}{outer:List Env}{s₀:Om}{H₀:Hp}{E:XK}
noncomputable abbrev ma (P:Oo)(w:World)(K:On)(mg:Str->Option Oq)(base:Heap)(N:List Str)(qual:Str)(scope:Scope)(f:Addr)(cd:Oq)(A:Os)(outer:List Env)(s:Om)(H:Hp)(E:XK):Cx:=wf (qB P w) P w K mg base N qual scope f cd A outer s H E
theorem ue (I:Inv (ma P w K mg base N qual scope f cd A outer s₀ H₀ E) pins σ H s)(e:s₀.heap.get? b=some o)(J:b∉frs outer) :
 b∉frs (ma P w K mg base N qual scope f cd A outer s₀ H₀ E).stack:=λz=>by
 rcases Kb.mp (I.stkSub b z) with q|q
 .exact absurd (Kz (Kk e) (Ku I.ok.above (N4 q.symm))) (MH _)
 .exact J q
theorem wo (J:b∈frs outer):b∈frs (ma P w K mg base N qual scope f cd A outer s₀ H₀ E).stack:=by show b∈frs (envOfC qual scope s₀.heap.objs.size f cd::outer);unfold frs;rw[MI];have:(envOfC qual scope s₀.heap.objs.size f cd).frame=some s₀.heap.objs.size:=rfl;rw[this];exact J8 _ J
theorem cg:eM (qB P w) (ma P w K mg base N qual scope f cd A outer s₀ H₀ E) E:=by
 intro pins σ H s e s' I h;obtain⟨x,C,t,B,H',rfl,os,bare,un,hok,O,Ag,W,Y,hx,hE⟩:=h;show wpAny _ _ (leaving _ _) _ _ s';have nx:∀ b:Addr,b∉(ma P w K mg base N qual scope f cd A outer s₀ H₀ E).ex:=λb z=>absurd (show b∈([]:List Addr) from z) (by simp);refine wpAny_leaves_onW I.ok.frames rfl O λh' L up=>?_;have nf:∀ b,b∈frs outer->∀ o,s'.heap.get? b=some o->∀ vs,o.data≠.fields vs:=λb J o e=>by obtain⟨_,o',e',d⟩:=O.2.2.1.mem (wo (P:=P) (w:=w) (K:=K) (mg:=mg) (base:=base) (N:=N) (H₀:=H₀) (E:=E) (A:=A) J);rw[e]at e';cases e';exact d
 refine⟨x,C,t,B,H',rfl,os.trans I.os,bare,⟨λb o e n J _=>?_,λb o e n J _=>?_,λb o e n _=>?_,λb o e _=>?_,λb xs q=>un.tups b xs (I.base.tups b xs q),λb o u q=>un.frzs b o u (I.base.frzs b o u q),λb ps q=>?_⟩,rf hok Ag O.1 L.1,L,Ag,λb o e n J=>?_,λb o e J=>?_,hx,hE⟩
 .exact L.1 b o (W b o (I.base.keep b o e n J (nx b)) (n.imp (λn=>I.base.free b o e n (nx b)) λ⟨xs,q⟩=>⟨xs,I.base.tups b xs q⟩) (ue I e J))
 .obtain⟨sl,e1⟩:=I.base.slot b o e n J (nx b);obtain⟨sl',e2⟩:=un.slot b _ e1 (I.base.free b o e n (nx b)) (wo J) (by simp);obtain⟨Z,e3⟩:=up b _ e2 (nf b J _ e2);exact⟨Z,e3⟩
 .obtain⟨o1,e1⟩:=I.base.there b o e (nx b);exact un.free b o1 e1 (I.base.free b o e n (nx b)) (by simp)
 .obtain⟨o1,e1⟩:=I.base.there b o e (nx b);by_cases J:b∈frs outer
  .obtain⟨o2,e2⟩:=un.there b o1 e1 (by simp);obtain⟨sl,e3⟩:=up b _ e2 (nf b J _ e2);exact⟨_,e3⟩
  .obtain⟨o',q⟩:=Y b o1 e1 (ue I e J);exact⟨o',L.1 b o' q⟩
 .obtain⟨m1,e1⟩:=I.base.tbls b ps q;obtain⟨m2,e2⟩:=un.tbls b _ e1;exact⟨m1++m2,by rw[e2,Array.append_assoc]⟩
 .exact W b o (I.base.keep b o e n J (nx b)) (n.imp (λn=>I.base.free b o e n (nx b)) λ⟨xs,q⟩=>⟨xs,I.base.tups b xs q⟩) (ue I e J)
 .obtain⟨o1,e1⟩:=I.base.there b o e (nx b);exact Y b o1 e1 (ue I e J)
theorem C8 {s:Om}{h':Heap}{x C:Addr}{args:List Oq}(I:Inv (ma P w K mg base N qual scope f cd A outer s₀ H₀ E) pins σ H s)(Y:Heap.MadeExcOf s.heap h' x (.ref C) args)(hE:E (.ref C) none H) :
 (ma P w K mg base N qual scope f cd A outer s₀ H₀ E).xe (.ref x) { s with heap:=h' }:=by
 show wpAny _ _ (leaving _ _) _ _ _;have nx:∀ b:Addr,b∉(ma P w K mg base N qual scope f cd A outer s₀ H₀ E).ex:=λb z=>absurd (show b∈([]:List Addr) from z) (by simp);have hin:∀ env∈(ma P w K mg base N qual scope f cd A outer s₀ H₀ E).stack,∀ b,env.frame=some b->b∈frs (ma P w K mg base N qual scope f cd A outer s₀ H₀ E).stack:=λenv he b J=>MQ.mpr ⟨env,he,J⟩;have FF:=I.stack;refine wpAny_leaves_madeW (base:=PySem.W.hideAll s.heap (frs (ma P w K mg base N qual scope f cd A outer s₀ H₀ E).stack)) I.ok.frames rfl (λb o q=>N3 _ q) (PySem.W.funFrames_hide FF hin) Y λh'' t O _ _ up=>?_;have L:∀ b o,s.heap.get? b=some o->b∉frs (ma P w K mg base N qual scope f cd A outer s₀ H₀ E).stack->(PySem.W.hideAll s.heap (frs (ma P w K mg base N qual scope f cd A outer s₀ H₀ E).stack)).get? b=some o:=λb o e J=>PySem.W.hideAll_get _ e J;have Ag:∀ b u,H b=some u->∃ o,(PySem.W.hideAll s.heap (frs (ma P w K mg base N qual scope f cd A outer s₀ H₀ E).stack)).get? b=some o:=λb u e=>by obtain⟨o,Z⟩:=oV (I.hok b u e);exact⟨o,L b o Z λz=>by rw[I.stkFree b z]at e;cases e⟩
 have st:(PySem.W.hideAll s.heap (frs (ma P w K mg base N qual scope f cd A outer s₀ H₀ E).stack)).StaysIn s.heap:=λb o q=>N3 _ q;have nf:∀ b,b∈frs outer->∀ o,s.heap.get? b=some o->∀ vs,o.data≠.fields vs:=λb J o e=>by obtain⟨_,o',e',d⟩:=FF.mem (wo (P:=P) (w:=w) (K:=K) (mg:=mg) (base:=base) (N:=N) (H₀:=H₀) (E:=E) (A:=A) J);rw[e]at e';cases e';exact d
 have hxn:H x=none:=by
  cases q:H x with
  |none=>rfl
  |some u=>obtain⟨o,Z⟩:=oV (I.hok x u q);rw[Y.new]at Z;cases Z
 refine⟨x,C,t,_,H,rfl,I.os,I.bare,⟨λb o e n J _=>?_,λb o e n J _=>?_,λb o e n _=>I.base.free b o e n (nx b),λb o e _=>?_,I.base.tups,I.base.frzs,I.base.tbls⟩,rf I.hok Ag st O.1,O,Ag,λb o e n J=>?_,λb o e J=>?_,hxn,hE⟩
 .exact O.1 b o (L b o (I.base.keep b o e n J (nx b)) (ue I e J))
 .obtain⟨sl,e1⟩:=I.base.slot b o e n J (nx b);obtain⟨sl',e2⟩:=up b _ (Y.keeps b _ e1) (nf b J _ e1);exact⟨sl',e2⟩
 .obtain⟨o1,e1⟩:=I.base.there b o e (nx b);by_cases J:b∈frs outer
  .obtain⟨sl,e2⟩:=up b _ (Y.keeps b _ e1) (nf b J _ e1);exact⟨_,e2⟩
  .exact⟨o1,O.1 b o1 (L b o1 e1 (ue I e J))⟩
 .exact L b o (I.base.keep b o e n J (nx b)) (ue I e J)
 .obtain⟨o1,e1⟩:=I.base.there b o e (nx b);exact⟨o1,L b o1 e1 (ue I e J)⟩
theorem AO:PassesOwn (model P w) (ma P w K mg base N qual scope f cd A outer s₀ H₀ E).A (ma P w K mg base N qual scope f cd A outer s₀ H₀ E).env (ma P w K mg base N qual scope f cd A outer s₀ H₀ E).xe:=by
 show PassesOwn _ _ _ (λe s'=>wpAny _ _ (leaving _ e) _ _ s')
 passes_own
end
abbrev vMro:List Oq:=[.type "ValueError",.type "Exception",.type "BaseException",.type "object"]
def HC (h:Heap) (C:Addr) (bm:List Oq):Prop:=∃ N nm q bs hdct sn sub ab col dd k0 k1 k2 k3 k5 mN,h.get? C=some (excClassObj nm q C N bs bm hdct sn sub ab col dd k0 k1 k2 k3 k5 "ValueError.__new__")/\h.Ns N mN/\mN "__init__"=none/\OwnTail h vMro bm
noncomputable def AQ (K:On)(C:Addr):List Oq:=match K.lookup C with
 |some ⟨_,_,.cls cd,_⟩=>cd.mro
 |_=>[]
theorem AR {K:On} (X:K.In h) (q:PySem.W.excIn K C vMro "ValueError.__new__"=true):∃ bm,AQ K C=.ref C::bm/\HC h C bm:=by
 have q0:=q;unfold PySem.W.excIn at q;unfold AQ;cases O:K.lookup C with
 |none=>rw[O]at q;cases q
 |some ob=>
  rw[O]at q;split at q
  .rename_i dd cd sl Y;injection Y with Y;subst Y;dsimp only;split at q
   .rename_i D bm k0 k1 k2 k3 n k5 hm hs;rw[hm];simp only[Ky,L1,Bool.not_eq_true']at q;obtain⟨⟨⟨⟨⟨Z,hn⟩,J⟩,ht⟩,hok⟩,L⟩:=q;refine⟨bm,by rw[Z],?_⟩;obtain⟨nm,bs,mro,ns,qn,hd,sn,sub,ab,col,del⟩:=cd;dsimp only at hm J hok L;have es:sl=#[k0,k1,k2,k3,some (.builtin n),k5]:=by
     cases sl with
     |mk l=>simp only at hs;rw[hs]
    rw[hn]at es;subst es;have hC:=X _ _ O;rw[J,hm,Z]at hC;exact⟨ns,nm,qn,bs,hd,sn,sub,ab,col,dd,k0,k1,k2,k3,k5,_,hC,.of_isNs (PySem.W.isNs_of_in X hok),PySem.W.nsMap_none_of_in X hok L,PySem.W.tail_of_in X ht⟩
   .cases q
  .cases q
structure XC (K:On) (mg:Str->Option Oq) (c:Str) (C:Addr):Prop where
 gl:mg c=some (.ref C)
 ex:PySem.W.excIn K C vMro "ValueError.__new__"=true
section
variable {X:Cx}{c:Str}{C:Addr}{np cpos pos:Pos}{e₀:Expr}{rest:List Expr}{t:TA}
noncomputable def F0 (t:TA)(EW:Hp->Prop):TS:=λ_ σ H=>t σ H λvs H'=>vs.length<=sizeLine/\EW H'
theorem AS {EW:Hp->Prop}(hc:XC X.K X.mg c C)(hg:Gl X c)(J:X.calm=true)(ha:PA X (e₀::rest) t)
 (hl:∀(pins:List (Addr×Obj))(σ:St)(H:Hp)(s:Om)(h':Heap)(x:Addr)(args:List Oq),Inv X pins σ H s->Heap.MadeExcOf s.heap h' x (.ref C) args->EW H->X.xe (.ref x) { s with heap:=h' })
 (he:autoParam (starEach (e₀::rest) X.env=(false,eval e₀ X.env)::starEach rest X.env) Oy._auto_1) (W:autoParam ((backTo cpos (starEach rest X.env)).any (·.1)=false) Oy._auto_1) (hd:autoParam ((c==("__debug__" : Str))=false) Ot._auto_1) :
 PS X (.Raise (some (.Call (.Name c np) (e₀::rest) [] cpos)) none pos) (F0 t EW):=by
 intro pins s σ H D I h;obtain⟨bm,_,N,nm,q,bs,hdct,sn,sub,ab,col,dd,k0,k1,k2,k3,k5,mN,hC,hN,Y,TL⟩:=AR I.ok.mod.kin hc.ex;have Z:=PySem.F.excBase_ValueError;refine wpAny_Raise_call_subU (C:=C) (nm:=nm) (q:=q) (N:=N) (bs:=bs) (bm:=bm) (hdct:=hdct) (sn:=sn) (sub:=sub) (ab:=ab) (col:=col) (dd:=dd) (k0:=k0) (k1:=k1) (k2:=k2) (k3:=k3) (k5:=k5) (bmB:=vMro)
  Z (by decide +kernel) Z (mN:=mN) (TL.hasType Z.hasBase) (I.ok.hd J) ?_ Y (oh I hg hc.gl ⟨rfl,?_⟩ hd)
 .rw[he];show(false || (backTo cpos (starEach rest X.env)).any (·.1))=false;rw[W];rfl
 .have L:=ha cpos pins s σ H _ I h;rw[he]at L ⊢;refine Mx (LO L (λus s2 ⟨vs,H2,O,r,q2⟩=>?_) λ_ _ y=>y);exact⟨rfl,by rw[<- r.length];exact q2.1,O.bk _ _ hC,hN.keeps O.bk,TL.keeps O.bk,λh' e hm=>hl pins σ H2 s2 h' e us O hm q2.2⟩
end
section
variable {M:Model}{A:Os}{E:Oq->Om->Prop}
end
noncomputable abbrev TX:=St->Hp->VK->XK->Prop
section
variable {X:Cx}{k:Nat}{f:Addr}{fd:FuncData}{ps:List Str}{sp:Sp}{dvs:List V}{ds:List Oq}{x:Str}{p pos:Pos}{e:Expr}{es:List Expr}{t:TA}
end
section
variable {X:Cx}{pins:List (Addr×Obj)}{σ:St}{H:Hp}{s:Om}{x:Addr}
end
section
variable {X:Cx}{hc:Str}{Ch:Addr}{np hpos pos epos:Pos}{b₀:Stmt}{suite:List Stmt}{ts:TS}{te:TX}{e:Expr}
end
end L2
namespace L2
open PySem PySem.Spec PySem.Calls PyProof.Rows
section
variable {prog:Oo}{w:World}
noncomputable abbrev tK (prog:Oo)(w:World):=tupleKind (aE prog w)
theorem kd (x:(tK prog w).is h k a)(e:∀ b o,h.get? b=some o->h'.get? b=some o):(tK prog w).is h' k a:=by obtain⟨o,items,n,h1,r⟩:=x;exact⟨o,items,n,e _ _ h1,r⟩
variable {A:Os}{R:Result->Om->Prop}{I:Addr}{fp wr:List Addr}{G:Array GenState->Array GenState->Prop}{n:Nat}{P:Nat->Oq->Prop}{St:Nat->Om->Prop}
end
section
variable {prog:Oo}{w:World}{A:Os}{E:Oq->Om->Prop}{s:Om}
end
section
variable {P:Oo}{w:World}{H:Hp}{h:Heap}
end
section
variable {X:Cx}
end
section
variable {X:Cx}{pins:List (Addr×Obj)}{σ:St}{H:Hp}{s:Om}{a:Addr}
theorem Inv.retT (I:Inv X pins σ H s)(e:H a=some (.dK [])):Inv X pins σ (aI H a (.dT [])) s:=by
 obtain⟨z,y,vs,r,o,es,ep,h1,h2,L,O,J⟩:=(show ObjOk X.prog X.w H s.heap a (.dK []) from I.hok a _ e);cases r;exact I.write (x:=a) (e:=a) (t':=s.toks) (h':=s.heap) (by rw[e];exact True.intro) (.inl rfl) (λb u _ q=>q) ⟨o,h1⟩ ⟨z,y,[],.nil,o,es,ep,h1,h2,L,(by
  generalize es.toList=l at J;obtain⟨J,_⟩:=J;cases l with
  |nil=>rfl
  |cons x r=>cases J),KI⟩
end
def xI (H:Hp)(a:Addr)(y:V)(r:Option V):Prop:=DGet H a y r\/(Rd H a (.dT [])/\(∃ k,y=kV k)/\r=none)\/(Rd H a (.dK [])/\(∃(b:Addr)(k:List Key),y=.ref b/\H b=some (.tup (k.map kV)))/\r=none)
section
variable {X:Cx}{pins:List (Addr×Obj)}{σ:St}{H:Hp}{s:Om}{a:Addr}{y v:V}{u r:Oq}{o:Option V}{A:Os}{E:Oq->Om->Prop}
theorem su (x:ObjOk P w H h a (.dT [])):(a==sysModules)=false/\h.DictOf (aE P w) a []:=by
 obtain⟨z,y,xs,r,o,es,ep,h1,h2,J,L,W⟩:=x;cases r;have e:es=#[]:=by simpa using L
 subst e;exact⟨y,o,#[],ep,h1,h2,J,λx O=>by simp at O,by constructor,KI⟩
theorem AT (x:ObjOk P w H h a (.dK [])):(a==sysModules)=false/\h.DictOfH (tupleKind (aE P w)) a []:=by
 obtain⟨z,y,vs,r,o,es,ep,h1,h2,L,W,J⟩:=x;cases r;refine⟨y,o,es,ep,h1,h2,L,?_,λx O=>(nomatch O),KI⟩;generalize es.toList=l at J;obtain⟨J,_⟩:=J;cases l with
 |nil=>rfl
 |cons x r=>cases J
theorem HD (L:A.units+1<cLine)(I:Inv X pins σ H s)(g:xI H a y o)(J:RelV y u)(h:∀ s',Inv X pins σ H s'->Q (.bool o.isSome) s') :
 wpAny (model X.prog X.w) A (compareOp .In u (.ref a)) Q E s:=by
 rcases g with g|⟨e,⟨k,rfl⟩,rfl⟩|⟨e,⟨b,k,rfl,O⟩,rfl⟩
 .exact Jq L I g J h
 .obtain⟨y,dd⟩:=su (e.ok I.hok);exact wpAny_in_of (iS J) y dd.mapOf (h _ (I.tok _))
 .obtain rfl:u=Value.ref b:=J;obtain⟨y,dd⟩:=AT (e.ok I.hok);exact wpAny_in_heap (LJ L) (dj I.hok O) y dd (h _ (I.tok _))
theorem AU (L:A.units+1<cLine)(I:Inv X pins σ H s)(g:xI H a y o)(J:RelV y u)(h:∀ s',Inv X pins σ H s'->Q (.bool (!o.isSome)) s') :
 wpAny (model X.prog X.w) A (compareOp .NotIn u (.ref a)) Q E s:=by
 rcases g with g|⟨e,⟨k,rfl⟩,rfl⟩|⟨e,⟨b,k,rfl,O⟩,rfl⟩
 .exact C5 L I g J h
 .obtain⟨y,dd⟩:=su (e.ok I.hok);exact wpAny_notIn_of (iS J) y dd.mapOf (h _ (I.tok _))
 .obtain rfl:u=Value.ref b:=J;obtain⟨y,dd⟩:=AT (e.ok I.hok);exact wpAny_notIn_heap (LJ L) (dj I.hok O) y dd (h _ (I.tok _))
end
section
variable {X:Cx}{value o i:Expr}{td ty tv:TE}{pos pos':Pos}
end
section
variable {X:Cx}{pins:List (Addr×Obj)}{σ:St}{H:Hp}{s:Om}{a:Addr}{y d:V}{u r:Oq}{o:Option V}{A:Os}{E:Oq->Om->Prop}
end
section
variable {X:Cx}{o e f:Expr}{apos cpos:Pos}{td ty tx:TE}
end
noncomputable def ia:HO->Prop
 | .dK _=>True
 | .dT _=>True
 |_=>False
section
variable {X:Cx}{pins:List (Addr×Obj)}{σ:St}{H H':Hp}{s:Om}{d:Addr}{o:Obj}{u:HO}
theorem Inv.view (I:Inv X pins σ H s)(hn:∀ b,H b=none->H' b=none)(ht:∀ b xs,H b=some (.tup xs)->H' b=some (.tup xs))(hf:∀ b o u,X.H₀ b=some (.frz o u)->H' b=some (.frz o u))
 (hb:∀ b ps,H b=some (.tbl ps)->H' b=some (.tbl ps)) (hok:HOk X.prog X.w H' s.heap):Inv X pins σ H' s where
 ok:=I.ok
 os:=I.os
 bare:=I.bare
 base:=⟨I.base.keep,I.base.slot,λb o e n hx=>hn b (I.base.free b o e n hx),I.base.there,λb xs e=>ht b xs (I.base.tups b xs e),hf,λb ps e=>let ⟨m,q⟩:=I.base.tbls b ps e;⟨m,hb b _ q⟩⟩
 loc:=I.loc
 cell:=I.cell
 free:=hn _ I.free
 freeC:=λx c e=>hn c (I.freeC x c e)
 pin:=λp hp=>let ⟨a,b,c⟩:=I.pin p hp;⟨a,hn _ b,c⟩
 hok:=hok
 len:=I.len
theorem xJ (ok:HOk P w H h)(hd:∃ u,H d=some u/\(∀ y,u≠.own y)/\∀ xs,u≠.tup xs)(new:ObjOk P w (aI H d u') h d u'):HOk P w (aI H d u') h:=λb v e=>by
 obtain⟨u,J,h1,h2⟩:=hd;by_cases L:b=d
 .subst L;rw[af]at e;cases e;exact new
 .rw[ac L]at e;refine(ok b v e).stay (λ_ _ _ q=>q) (λc q=>?_) λc xs q=>?_
  .rw[ac]
   .exact q
   .rintro rfl;rw[J]at q;cases q;exact h1 _ rfl
  .rw[ac]
   .exact q
   .rintro rfl;rw[J]at q;cases q;exact h2 _ rfl
theorem xK (h:ia u):(∀ y,u≠.own y)/\(∀ xs,u≠.tup xs)/\(∀ ps,u≠.tbl ps)/\∀ o v,u≠.frz o v:=by cases u<;>first|exact h.elim|exact⟨λ_ z=>(nomatch z),λ_ z=>(nomatch z),λ_ z=>(nomatch z),λ_ _ z=>(nomatch z)⟩
theorem rg (J:ia u)(x:ObjOk P w H h d u)(L:∀ b xs,H b=some (.tup xs)->H' b=some (.tup xs)):ObjOk P w H' h d u:=by
 cases u with
 |dK kvs=>exact x
 |dT kvs=>obtain⟨z,y,xs,r,q⟩:=x;exact⟨z,y,xs,Paired.mapP r λp q z=>⟨z.1,L _ _ z.2.1,z.2.2⟩,q⟩
 |_=>exact J.elim
theorem Inv.frz (I:Inv X pins σ H s)(e:H d=some u)(L:ia u)(Y:s.heap.get? d=some o):Inv X pins σ (aI H d (.frz o u)) s:=by
 obtain⟨Z,O,n3,n4⟩:=xK L;have W:∀ b xs,H b=some (.tup xs)->aI H d (.frz o u) b=some (.tup xs):=λb xs q=>by
  rw[ac]
  .exact q
  .rintro rfl;rw[e]at q;cases q;exact O _ rfl
 refine I.view (λb J=>?_) W (λb o' u' q=>?_) (λb ps q=>?_) (xJ I.hok ⟨u,e,Z,O⟩ ⟨Y,rg L (I.hok d u e) W⟩)
 .rw[ac]
  .exact J
  .rintro rfl;rw[e]at J;cases J
 .have q:=I.base.frzs b o' u' q;rw[ac]
  .exact q
  .rintro rfl;rw[e]at q;cases q;exact n4 _ _ rfl
 .rw[ac]
  .exact q
  .rintro rfl;rw[e]at q;cases q;exact n3 _ rfl
theorem Inv.nofrz (I:Inv X pins σ H s)(e:H d=some u)(J:ia u):∀ o v,X.H₀ d≠some (.frz o v):=λo v q=>by have:=I.base.frzs d o v q;rw[e]at this;cases this;exact(xK J).2.2.2 _ _ rfl
theorem Inv.unfrz (I:Inv X pins σ H s)(e:H d=some (.frz o u))(O:ia u)(hn:∀ o v,X.H₀ d≠some (.frz o v)):Inv X pins σ (aI H d u) s:=by
 have L:∀ b xs,H b=some (.tup xs)->aI H d u b=some (.tup xs):=λb xs q=>by
  rw[ac]
  .exact q
  .rintro rfl;rw[e]at q;cases q
 have x:ObjOk X.prog X.w H s.heap d u:=(show ObjOk X.prog X.w H s.heap d (.frz o u) from I.hok d _ e).2;refine I.view (λb J=>?_) L (λb o' u' q=>?_) (λb ps q=>?_) (xJ I.hok ⟨_,e,λ_ z=>(nomatch z),λ_ z=>(nomatch z)⟩ (rg O x L))
 .rw[ac]
  .exact J
  .rintro rfl;rw[e]at J;cases J
 .have q2:=I.base.frzs b o' u' q;rw[ac]
  .exact q2
  .rintro rfl;exact hn _ _ q
 .rw[ac]
  .exact q
  .rintro rfl;rw[e]at q;cases q
end
section
variable {X:Cx}{tg:Expr}
end
section
variable {prog:Oo}{w:World}
variable {A:Os}{R:Result->Om->Prop}{I:Addr}{fp wr:List Addr}{G:Array GenState->Array GenState->Prop}{n:Nat}{P:Nat->Oq->Prop}{St:Nat->Om->Prop}
end
section
variable {prog:Oo}{w:World}{A:Os}{E:Oq->Om->Prop}{s:Om}
end
section
variable {P:Oo}{w:World}{H:Hp}{h:Heap}
end
section
variable {X:Cx}
theorem F1 (I:Inv X pins σ H s)(e:Rd H a (.dK kvs)\/(Rd H a (.dT [])/\kvs=[])) :
 kvs.length<=sizeLine/\(a==sysModules)=false/\∃ vs,KV kvs vs/\s.heap.DictOf (aE X.prog X.w) a vs:=by
 rcases e with e|⟨e,rfl⟩
 .exact kA I.hok e
 .obtain⟨y,dd⟩:=su (e.ok I.hok);exact⟨KF _,y,[],.nil,dd⟩
end
section
variable {prog:Oo}{w:World}{A:Os}{E:Oq->Om->Prop}{s:Om}
theorem F2 {k:Key}{key dflt:Oq}{Q:Oq->Om->Prop}(Y:(aE prog w).is k key=true)(hm:s.heap.DictOf (aE prog w) d vs)(Z:valueAt vs k=none)
 (h:∀ h',h'.DictOf (aE prog w) d (stored vs k dflt)->Heap.SameBut d s.heap h'->Q dflt { s with heap:=h',toks:=s.toks+1 }) (hsz:vs.length<=sizeLine):wpAny (model prog w) A (dictSetDefault d key dflt) Q E s:=by
 obtain⟨o,es,ep,ho,hc,hd,hk,hp,hn⟩:=hm;have hes:es.size<=sizeLine:=by
  have e1:=hp.length;have e2:es.toList.length=es.size:=by simp
  lia
 have J:vs.findIdx? (λkv=>decide (kv.1=k))=none:=by
  rw[List.findIdx?_eq_none_iff];intro x hx;refine Kv λe=>?_;have:(valueAt vs k).isSome=true:=by unfold valueAt;rw[Ny,List.find?_isSome];exact⟨x,hx,Ki e⟩
  rw[Z]at this;cases this
 have W:(es.findIdx? λe=>(aE prog w).is k e.key)=none:=by
  have:(es.findIdx? λe=>(aE prog w).is k e.key)=vs.findIdx? λkv=>decide (kv.1=k):=by rw[<- hp.findIdx k];obtain⟨l⟩:=es;simp
  rw[this];exact J
 have L:k∉vs.map (·.1):=not_mem_of_findIdx_none J;have O:¬ (vs.any λkv=>decide (kv.1=k))=true:=by rw[Og];rintro⟨kv,hkv,he⟩;exact L (Kg.mpr ⟨kv,hkv,K7 he⟩)
 unfold dictSetDefault
 try with_reducible refine LC ?_
 refine J4 ((aE prog w).pyHash Y ?_);refine J4 (wpAny_dictFind_of (s:={ s with toks:=s.toks+1 }) Y ho hd hk ?_);rw[W];refine J4 (wpAny_rule (J4 (wpAny_updateDictKeys (hz:=hes) (s:={ s with toks:=s.toks+1 }) ho hd (J7 (h _ ⟨_,_,ep+1,LF _ ho (Obj.isFreed_of_dict (M7 hd _)),hc.mapDictKeys _,M7 hd _,hk.push Y _,?_,?_⟩ (La ..))))))
 .rw[stored,J_ O];have:=hp.append Y ((aE prog w).hash k) dflt;obtain⟨l⟩:=es;simpa using this
 .rw[stored,J_ O,Ll,Mi];refine⟨hn,by simp,?_⟩;intro a ha b hb;simp only[Kc,Lx,Km]at hb;subst hb;exact λe=>L (e▸ha)
end
section
variable {X:Cx}
noncomputable def EB:V->List V->Hp->VK->Prop:=λx xs H Q=>∃ a k y kvs,x=.ref a/\xs=[kV k,y]/\(H a=some (.dK kvs)\/(H a=some (.dT [])/\kvs=[]))/\kvs.length<sizeLine/\
 ((∃ v,cS kvs k=some v/\Q v H)\/(cS kvs k=none/\Q y (aI H a (.dK (cz kvs k y)))))
theorem C9:FS X "dict.setdefault" EB:=by
 intro pins s σ H x xs v us Q I rx rs q;obtain⟨a,k,y,kvs,rfl,rfl,ha,hz,q⟩:=q;obtain rfl:v=Value.ref a:=rx;obtain⟨u1,u2,rfl,Z,J⟩:=xA rs;obtain⟨z1,y1,vs,r1,L⟩:=F1 I (ha.imp .inl λ⟨e,w⟩=>⟨.inl e,w⟩);have k9:=iS (P:=X.prog) (w:=X.w) Z;refine KS Lh L.typeIs NN ?_ (NJ _ _ _);unfold Builtin.«dict.setdefault»;refine J4 ?_;unfold Builtin.Dict.keyAndDefault;refine J4 (NK L.typeIs (show wpAny _ _ (pure (a,u1,some u2)) _ _ s from J7 ?_));show wpAny _ _ (if (a==sysModules)=true then _ else (dictSetDefault a u1 u2 >>= _)) _ _ s;rw[J_ (by rw[y1];exact KN)];have bw:vs.length<=sizeLine:=by rw[<- r1.length];lia
 have dle:s.heap.DictLe a sizeLine:=λo es ep ho hd=>by
  obtain⟨o',es',ep',O,_,W,_,hp,_⟩:=id L;rw[ho]at O;cases O;rw[hd]at W;cases W;have e1:=hp.length;have e2:es.toList.length=es.size:=by simp
  lia
 have rv:=r1.val k;rcases q with⟨v,hv,q⟩|⟨hv,q⟩
 .obtain⟨w',hw,rw'⟩:=RelO.some_of (v:=v) (o:=valueAt vs k) (by rw[<- hv];exact rv);refine J4 (wpAny_dictSetDefault_of (hz:=dle) k9 L.mapOf (λv' e=>?_) λe=>?_)
  .rw[hw]at e;cases e;exact J7 ⟨_,rfl,v,H,I.tok _,rw',q⟩
  .rw[hw]at e;cases e
 .have hn0:valueAt vs k=none:=by
   have:=rv.isSome_eq;rw[hv]at this;cases z:valueAt vs k with
   |none=>rfl
   |some _=>rw[z]at this;cases this
  refine J4 (F2 k9 L hn0 (λh' Y hs=>J7 ⟨_,rfl,?_⟩) bw);have he:∃ q,h'.get? a=some q:=let ⟨q,_,_,hq,_⟩:=Y;⟨q,hq⟩;have mu:Hf (H a):=by rcases ha with e|⟨e,_⟩<;>(rw[e];exact True.intro)
  have hl:(cz kvs k y).length<=sizeLine:=by have:=fW kvs k y;lia
  exact⟨y,_,lj (t':=s.toks+1) I mu hs he (wl hl y1 (r1.put k J) Y),J,q⟩
end
section
variable {X:Cx}{tg:Expr}
end
end L2
namespace ST
open PySem PySem.SetTable
noncomputable def st (m:Nat)(h:Int):Probe:={ j:=bits h % (m+1),more:=runEnd m (bits h % (m+1))-bits h % (m+1),i:=bits h % (m+1),perturb:=bits h,dummy:=none }
noncomputable def rs (m:Nat)(p:Nat×Nat):Probe:={ j:=p.1,more:=runEnd m p.1-p.1,i:=p.1,perturb:=p.2,dummy:=none }
noncomputable def adv (m:Nat)(p:Probe):Probe:=if p.more>0 then { p with j:=p.j+1,more:=p.more-1 } else { p with j:=(leap m p.i p.perturb).1,more:=runEnd m (leap m p.i p.perturb).1-(leap m p.i p.perturb).1,i:=(leap m p.i p.perturb).1,perturb:=(leap m p.i p.perturb).2 }
theorem wq (t:SetTable)(p:Probe):t.advance p=adv t.mask p:=rfl
noncomputable def it (m:Nat):Nat->Probe->Probe
 |0,p=>p
 |n+1,p=>it m n (adv m p)
theorem eQ (m:Nat):∀(a b:Nat)(p:Probe),it m (a+b) p=it m b (it m a p)
 |0,b,p=>by rw[Lm];rfl
 |a+1,b,p=>by rw[Nat.succ_add];exact eQ m a b (adv m p)
theorem C_ (m n:Nat)(p:Probe):it m (n+1) p=adv m (it m n p):=eQ m n 1 p
structure Va (m:Nat) (p:Probe):Prop where
 i:p.i<=m
 more:p.more<=9
 j:p.j+p.more<=m
 q:p.perturb<2 ^ 64
 d:p.dummy=none
theorem sv (h:Int):bits h<2 ^ 64:=by unfold bits;have:=Ly h (show(0:Int)<2 ^ 64 by decide);have h2:=LY h (show(2 ^ 64:Int)≠0 by decide);lia
theorem kH (m i:Nat)(h:i<=m):runEnd m i-i<=9/\i+(runEnd m i-i)<=m:=by unfold runEnd;split<;>lia
theorem Va.rs (h1:p.1<=m)(h2:p.2<2 ^ 64):Va m (rs m p):=⟨h1,(kH m _ h1).1,(kH m _ h1).2,h2,rfl⟩
theorem Va.st (m:Nat)(h:Int):Va m (st m h):=by have:bits h % (m+1)<=m:=N_ (Oj _ (Nat.succ_pos m));exact⟨this,(kH m _ this).1,(kH m _ this).2,sv h,rfl⟩
theorem sw (m i q:Nat):(leap m i q).1<=m:=by exact N_ (Oj _ (Nat.succ_pos m))
theorem wt (m i q:Nat):(leap m i q).2=q / 32:=rfl
theorem Va.adv (v:Va m p):Va m (adv m p):=by
 unfold ST.adv;split
 .exact⟨v.i,by dsimp only;have:=v.more;lia,by dsimp only;have:=v.j;lia,v.q,v.d⟩
 .have l:=sw m p.i p.perturb;exact⟨l,(kH m _ l).1,(kH m _ l).2,by dsimp only;rw[wt];have:=v.q;have:=Nat.div_le_self p.perturb 32;lia,v.d⟩
theorem Va.it:∀{n:Nat}{p:Probe},Va m p->Va m (it m n p)
 |0,_,v=>v
 |n+1,_,v=>Va.it (n:=n) v.adv
theorem Va.jle (v:Va m p):p.j<=m:=by have:=v.j;lia
theorem lr:∀(k:Nat)(p:Probe),p.more=k->Va m p->it m (k+1) p=rs m (leap m p.i p.perturb)
 |0,p,e,v=>by show adv m p=_;unfold adv rs;rw[J_ (by lia)];obtain⟨j,mo,i,q,d⟩:=p;cases v.d;rfl
 |k+1,p,e,v=>by
  have e1:adv m p={ p with j:=p.j+1,more:=p.more-1 }:=by unfold adv;rw[Ka (by lia)]
  show it m (k+1) (adv m p)=_;have:=lr k (adv m p) (by rw[e1];show p.more-1=k;lia) v.adv;rw[this,e1]
noncomputable def lp (m:Nat):Nat->Nat×Nat->Nat×Nat
 |0,p=>p
 |n+1,p=>lp m n (leap m p.1 p.2)
theorem AV (m:Nat):∀(a b:Nat)(p:Nat×Nat),lp m (a+b) p=lp m b (lp m a p)
 |0,b,p=>by rw[Lm];rfl
 |a+1,b,p=>by rw[Nat.succ_add];exact AV m a b _
theorem HE (m:Nat):∀(n:Nat)(p:Nat×Nat),(lp m n p).2=p.2 / 32 ^ n
 |0,p=>by simp[lp]
 |n+1,p=>by show(lp m n (leap m p.1 p.2)).2=_;rw[HE m n,wt,Nat.div_div_eq_div_mul,Nat.pow_succ,Nat.mul_comm]
theorem EC (m:Nat):∀(n:Nat)(p:Nat×Nat),p.1<=m->(lp m n p).1<=m
 |0,p,h=>h
 |n+1,p,_=>EC m n _ (sw m _ _)
theorem uf:∀(L:Nat)(p:Probe),Va m p->∃ n,n<=10*(L+1)/\it m n p=rs m (lp m (L+1) (p.i,p.perturb))
 |0,p,v=>⟨p.more+1,by have:=v.more;lia,lr _ p rfl v⟩
 |L+1,p,v=>by
  have h1:=lr _ p rfl v;have J:Va m (rs m (leap m p.i p.perturb)):=by rw[<- h1];exact v.it
  obtain⟨n,hn,e⟩:=uf L _ J;refine⟨p.more+1+n,by have:=v.more;lia,?_⟩;rw[eQ,h1,e];rfl
noncomputable def f5 (m i:Nat):Nat:=(i*5+1) % (m+1)
noncomputable def fN (m:Nat):Nat->Nat->Nat
 |0,i=>i
 |n+1,i=>fN m n (f5 m i)
noncomputable def AW (m:Nat):Nat->Nat->List Nat
 |0,_=>[]
 |n+1,i=>i::AW m n (f5 m i)
theorem ug (m:Nat):∀(n i k:Nat),k<n->(AW m n i)[k]?=some (fN m k i)
 |n+1,i,0,_=>rfl
 |n+1,i,k+1,h=>ug m n _ k (by lia)
theorem uh (m:Nat):∀(n i:Nat),(AW m n i).length=n
 |0,_=>rfl
 |n+1,i=>by show(AW m n _).length+1=_;rw[uh]
theorem sA (m:Nat):∀(a b i:Nat),fN m (a+b) i=fN m b (fN m a i)
 |0,b,i=>by rw[Lm];rfl
 |a+1,b,i=>by rw[Nat.succ_add];exact sA m a b _
noncomputable def Jr (m:Nat):Bool:=((List.range (m+1)).all λj=>(AW m (m+1) 0).contains j)&&(fN m (m+1) 0==0)
def Msk (m:Nat):Prop:=m=7\/m=31\/m=127\/m=511
theorem xL (h:Msk m):Jr m=true:=by rcases h with rfl|rfl|rfl|rfl<;>decide +kernel
theorem AX (h:Msk m)(L:j<=m):∃ n,n<=m/\fN m n 0=j:=by have:=xL h;unfold Jr at this;simp only[Ky,Ld]at this;have h1:=this.1 j (KA.mpr (by lia));rw[List.contains_iff_mem,Kn]at h1;obtain⟨n,hn⟩:=h1;have J:=(Ke.mp hn).1;rw[uh]at J;rw[ug m _ _ _ J]at hn;exact⟨n,by lia,Kx hn⟩
theorem F3 (h:Msk m)(hi:i<=m)(O:j<=m):∃ n,n<=m/\fN m n i=j:=by
 obtain⟨a,ha,J⟩:=AX h hi;obtain⟨b,Y,L⟩:=AX h O;by_cases W:a<=b
 .refine⟨b-a,by lia,?_⟩;rw[<- J,<- sA,show a+(b-a)=b by lia,L]
 .refine⟨m+1+b-a,by lia,?_⟩;have z:=xL h;unfold Jr at z;simp only[Ky,L1]at z;rw[<- J,<- sA,show a+(m+1+b-a)=m+1+b by lia,sA,z.2,L]
theorem xM (m:Nat):∀(n i:Nat),lp m n (i,0)=(fN m n i,0)
 |0,_=>rfl
 |n+1,i=>by show lp m n (leap m i 0)=_;have:leap m i 0=(f5 m i,0):=rfl;rw[this];exact xM m n _
theorem ui (h:Msk m)(L:j<=m)(p:Nat×Nat)(h1:p.1<=m)(h2:p.2<2 ^ 64):∃ n,13<=n/\n<=m+13/\(lp m n p).1=j:=by
 have J:(2:Nat) ^ 64<32 ^ 13:=by decide
 have O:(lp m 13 p).2=0:=by rw[HE];exact Nat.div_eq_of_lt (by lia)
 obtain⟨n,hn,e⟩:=F3 h (EC m 13 p h1) L;refine⟨13+n,by lia,by lia,?_⟩;rw[AV];have:lp m 13 p=((lp m 13 p).1,0):=by rw[<- O]
 rw[this,xM];exact e
theorem ED (h:Msk m)(J:j<=m)(v:Va m p):∃ n,n<10*turns m/\(it m n p).j=j:=by obtain⟨L,h1,h2,e⟩:=ui h J (p.i,p.perturb) v.i v.q;obtain⟨n,hn,en⟩:=uf (L-1) p v;rw[show L-1+1=L by lia]at en hn;refine⟨n,by unfold turns;lia,?_⟩;rw[en];exact e
def Ris (xs:List Nat):Prop:=xs.Pairwise (·< ·)
theorem oW (Y:Ris xs.toList):∀(J lo hi:Nat),lo<=hi->hi<=xs.size->hi-lo<=J->
 (∀ i (h:i<xs.size),i<lo->xs[i]<j)->(∀ i (h:i<xs.size),hi<=i->j<=xs[i])->
 below.go xs j J lo hi<=xs.size/\(∀ i (h:i<xs.size),i<below.go xs j J lo hi->xs[i]<j)/\∀ i (h:i<xs.size),below.go xs j J lo hi<=i->j<=xs[i]
 |0,lo,hi,h1,h2,h3,O,W=>by
  have:lo=hi:=by lia
  subst this;exact⟨h2,O,W⟩
 |f+1,lo,hi,h1,h2,h3,O,W=>by
  have mono:∀ a b (ha:a<xs.size) (hb:b<xs.size),a<=b->xs[a]<=xs[b]:=by
   intro a b ha hb Z;rcases Nat.lt_or_eq_of_le Z with h|h
   .have:=Kw.mp Y a b (by simpa using ha) (by simpa using hb) h;simpa using Ng this
   .subst h;exact J6 _
  unfold below.go;by_cases hc:lo<hi
  .rw[Ka hc];have hm:(lo+hi) / 2<xs.size:=by lia
   have eg:xs.getD ((lo+hi) / 2) j=xs[(lo+hi) / 2]:=by simp[Array.getD,hm]
   dsimp only;rw[eg];by_cases hq:xs[(lo+hi) / 2]<j
   .rw[Ka hq];refine oW Y f _ _ (by lia) h2 (by lia) (λi h L=>?_) W;exact KO (mono i _ h hm (by lia)) hq
   .rw[J_ hq];refine oW Y f _ _ (by lia) (by lia) (by lia) O λi h L=>?_;exact Ku (by lia) (mono _ i hm h L)
  .rw[J_ hc];have:lo=hi:=by lia
   subst this;exact⟨h2,O,W⟩
theorem fE (j:Nat)(J:Ris xs.toList):below xs j<=xs.size/\(∀ i (h:i<xs.size),i<below xs j->xs[i]<j)/\∀ i (h:i<xs.size),below xs j<=i->j<=xs[i]:=by unfold below;exact oW J xs.size 0 xs.size (KF _) (J6 _) (by lia) (λi h z=>by lia) λi h z=>by lia
theorem AY (J:Ris xs.toList)(h:i<xs.size):below xs xs[i]=i:=by
 obtain⟨a,b,c⟩:=fE xs[i] J;rcases Nz (below xs xs[i]) i with q|q|q
 .have L:below xs xs[i]<xs.size:=by lia
  have h1:=c (below xs xs[i]) L (J6 _);have h2:=Kw.mp J _ i (by simpa using L) (by simpa using h) q;simp at h2;lia
 .exact q
 .have:=b i h q;lia
theorem rh (j:Nat):has #[] j=false:=rfl
structure Tb (t:SetTable):Prop where
 msk:Msk t.mask
 dum:t.dummies=#[]
 ris:Ris t.place.toList
 le:∀ j∈t.place.toList,j<=t.mask
theorem ri (h:Tb t)(hi:i<t.place.size):t.slot t.place[i]=.live i:=by unfold slot;dsimp only;rw[AY h.ris hi];rw[Ka];simp[hi]
theorem wu (h:Tb t)(J:j∉t.place.toList):t.slot j=.empty:=by
 unfold slot;dsimp only;rw[J_,h.dum,rh]
 .rfl
 .intro e;have e:t.place[below t.place j]?=some j:=by simpa using e
  obtain⟨h1,h2⟩:=Lu.mp e;exact J (by rw[<- h2];simp)
theorem wv (h:Tb t)(j:Nat):(j∉t.place.toList/\t.slot j=.empty)\/∃ i,∃ hi:i<t.place.size,t.place[i]=j/\t.slot j=.live i:=by
 by_cases L:j∈t.place.toList
 .right;obtain⟨i,hi,e⟩:=M8.mp L;have J:i<t.place.size:=by simpa using hi
  have e':t.place[i]=j:=by simpa using e
  exact⟨i,J,e',by rw[<- e'];exact ri h J⟩
 .exact .inl ⟨L,wu h L⟩
def Lv (t:SetTable)(j:Nat):Prop:=j∈t.place.toList
inductive PrSpec (t:SetTable) (ha:Nat->Int) (h:Int) (p:Probe):Option Met->Prop
 |em (n:Nat) (e:¬ Lv t (it t.mask n p).j) (b:∀ k,k<n->∃ i,∃ hi:i<t.place.size,t.place[i]=(it t.mask k p).j/\ha i≠h):PrSpec t ha h p (some (.empty (it t.mask n p).j none))
 |ca (n i:Nat) (hi:i<t.place.size) (e:t.place[i]=(it t.mask n p).j) (q:ha i=h) (b:∀ k,k<n->∃ i,∃ hi:i<t.place.size,t.place[i]=(it t.mask k p).j/\ha i≠h) :
  PrSpec t ha h p (some (.candidate (it t.mask n p).j i (it t.mask (n+1) p)))
theorem uj (h:Tb t)(ha:Nat->Int)(x:Int):∀(J:Nat)(p:Probe),Va t.mask p->(∃ n,n<J/\¬ Lv t (it t.mask n p).j)->PrSpec t ha x p (probe.go t ha x J p)
 |0,p,v,⟨n,hn,_⟩=>by lia
 |f+1,p,v,⟨n,hn,Y⟩=>by
  unfold probe.go;rcases wv h p.j with⟨h1,e⟩|⟨i,hi,h1,e⟩
  .rw[e];dsimp only;have:=PrSpec.em (t:=t) (ha:=ha) (h:=x) (p:=p) 0 h1 λk Z=>by lia
   rw[v.d];exact this
  .rw[e];dsimp only;by_cases L:ha i=x
   .rw[Ka (by simpa using L)];exact PrSpec.ca (t:=t) (ha:=ha) (h:=x) (p:=p) 0 i hi h1 L λk Z=>by lia
   .rw[J_ (by simpa using L),wq];have hn0:n≠0:=by rintro rfl;exact Y (by show p.j∈t.place.toList;rw[<- h1];simp)
    have ih:=uj h ha x f (adv t.mask p) v.adv ⟨n-1,by lia,by
     have:it t.mask (n-1) (adv t.mask p)=it t.mask n p:=by show _=it t.mask n p;rw[show n=(n-1)+1 by lia];rfl
     rw[this];exact Y⟩
    have shift:∀{nn:Nat},(∀ k,k<nn->∃ i,∃ hi:i<t.place.size,t.place[i]=(it t.mask k (adv t.mask p)).j/\ha i≠x)->∀ k,k<nn+1->∃ i,∃ hi:i<t.place.size,t.place[i]=(it t.mask k p).j/\ha i≠x:=by
     intro nn b k Z;cases k with
     |zero=>exact⟨i,hi,h1,L⟩
     |succ k=>exact b k (by lia)
    generalize probe.go t ha x f (adv t.mask p)=rr at ih;cases ih with
    |em O e' b=>exact PrSpec.em (t:=t) (ha:=ha) (h:=x) (p:=p) (O+1) e' (shift b)
    |ca O i' W e' q' b=>exact PrSpec.ca (t:=t) (ha:=ha) (h:=x) (p:=p) (O+1) i' W e' q' (shift b)
theorem oX:∀(l1 l2:List Nat),l1.Nodup->(∀ x∈l1,x∈l2)->l1.length<=l2.length
 | [],_,_,_=>KF _
 |a::l1,l2,nd,hs=>by
  have ha:a∈l2:=hs a (Kj ..);have L:=oX l1 (l2.erase a) (KB.mp nd).2 λx J=>by have:x≠a:=λe=>(KB.mp nd).1 (e▸J);exact(NQ this).mpr (hs x (J8 _ J))
  rw[Nj ha]at L;have:0<l2.length:=MP ha;simp only[Kl];lia
theorem oY (h:Tb t)(hs:t.place.size<=t.mask):∃ j,j<=t.mask/\¬ Lv t j:=by refine Lf λhn=>?_;have L:∀ j,j<=t.mask->j∈t.place.toList:=λj J=>Lf λz=>hn ⟨j,J,z⟩;have:=oX (List.range (t.mask+1)) t.place.toList Mp λj J=>L j (by have:=KA.mp J;lia);simp at this;lia
theorem wx (h:Tb t)(hs:t.place.size<=t.mask)(ha:Nat->Int)(x:Int)(v:Va t.mask p):PrSpec t ha x p (t.probe ha x p):=by obtain⟨j,J,hn⟩:=oY h hs;obtain⟨n,h1,h2⟩:=ED h.msk J v;unfold probe;exact uj h ha x _ p v ⟨n,h1,by rw[h2];exact hn⟩
def Rea (m:Nat)(lv:Nat->Prop)(h:Int)(j:Nat):Prop:=∃ n,(it m n (st m h)).j=j/\∀ k,k<n->lv (it m k (st m h)).j
theorem Rea.mono (r:Rea m lv h j)(s:∀ j,lv j->lv' j):Rea m lv' h j:=let ⟨n,e,b⟩:=r;⟨n,e,λk J=>s _ (b k J)⟩
structure Tbl {V:Type} (t:SetTable) (es:Array (Int×V)):Prop where
 tb:Tb t
 len:t.place.size=es.size
 rea:∀ q∈t.place.toList.zip es.toList,Rea t.mask (·∈ t.place.toList) q.2.1 q.1
def rj (t:SetTable):Prop:=t.place.size*5<t.mask*3
theorem insertAt_toList {α:Type}(xs:Array α)(p:Nat)(x:α)(h:p<=xs.size):(insertAt xs p x).toList=xs.toList.take p++x::xs.toList.drop p:=by unfold insertAt;simp[Array.toList_extract,List.extract_eq_drop_take,Lg]
theorem insertAt_size {α:Type}(xs:Array α)(p:Nat)(x:α)(h:p<=xs.size):(insertAt xs p x).size=xs.size+1:=by rw[<- K_,insertAt_toList xs p x h];simp;lia
theorem sB (h:Tb t)(j:Nat):(t.put j).1={ t with place:=insertAt t.place (below t.place j) j }:=by unfold put;dsimp only;rw[h.dum];have:has #[] j=false:=rh j;rw[J_ (by rw[this];simp),<- h.dum]
theorem xN (t:SetTable)(j:Nat):(t.put j).2=below t.place j:=rfl
theorem wy {α β:Type}(xs:List α)(ys:List β)(p:Nat)(x:α)(y:β)(h:xs.length=ys.length):(xs.take p++x::xs.drop p).zip (ys.take p++y::ys.drop p)=(xs.zip ys).take p++(x,y)::(xs.zip ys).drop p:=by rw[List.zip_append (by simp[h]),List.zip_cons_cons];simp[List.zip,List.take_zipWith,List.drop_zipWith]
theorem F4 {V:Type}{t:SetTable}{es:Array (Int×V)}(h:Tbl t es){j:Nat}(hj:j∉t.place.toList)(Z:j<=t.mask){Y:Int}{v:V}(r:Rea t.mask (·∈ t.place.toList) Y j) :
 Tbl (t.put j).1 (insertAt es (t.put j).2 (Y,v))/\(t.put j).1.mask=t.mask/\(t.put j).1.place.size=t.place.size+1:=by
 obtain⟨a,b,c⟩:=fE j h.tb.ris;rw[sB h.tb,xN];have ae:below t.place j<=es.size:=by rw[<- h.len];exact a
 have el:=insertAt_toList t.place _ j a;have ee:=insertAt_toList es (below t.place j) (Y,v) ae;have mem:∀ k,k∈(insertAt t.place (below t.place j) j).toList↔k=j\/k∈t.place.toList:=by
  intro k;rw[el,Kr,Kb];constructor
  .rintro (z|rfl|z)
   .exact .inr (Lw z)
   .exact .inl rfl
   .exact .inr (My z)
  .rintro (rfl|z)
   .exact .inr (.inl rfl)
   .rw[<- Mr (below t.place j) t.place.toList,Kr]at z;exact z.elim .inl λz=>.inr (.inr z)
 refine⟨⟨⟨h.tb.msk,h.tb.dum,?_,λk J=>?_⟩,?_,λq O=>?_⟩,rfl,insertAt_size _ _ _ a⟩
 .show Ris (insertAt t.place (below t.place j) j).toList;rw[el];unfold Ris;rw[NR];refine⟨h.tb.ris.sublist (List.take_sublist _ _),?_,?_⟩
  .rw[L5];refine⟨λk J=>?_,h.tb.ris.sublist (List.drop_sublist _ _)⟩;obtain⟨i,hi,e⟩:=M8.mp J;rw[MM]at hi;have L:below t.place j+i<t.place.size:=by simp at hi;lia
   have e2:t.place[below t.place j+i]=k:=by rw[<- e];simp
   have:=c _ L (by lia);rw[e2]at this;have:k≠j:=λz=>hj (by rw[<- z,<- e2];simp);lia
  .intro k J l hl;obtain⟨i,hi,e⟩:=M8.mp J;rw[LP]at hi;have L:i<t.place.size:=by simp at hi;lia
   have e2:t.place[i]=k:=by rw[<- e];simp
   have l1:=b i L (by lia);rw[e2]at l1;rw[Kb]at hl;rcases hl with rfl|hl
   .exact l1
   .obtain⟨i',W,e'⟩:=M8.mp hl;rw[MM]at W;have hi3:below t.place j+i'<t.place.size:=by simp at W;lia
    have e3:t.place[below t.place j+i']=l:=by rw[<- e'];simp
    have:=c _ hi3 (by lia);rw[e3]at this;lia
 .rcases (mem k).mp J with rfl|z
  .exact Z
  .exact h.tb.le k z
 .show(insertAt t.place (below t.place j) j).size=_;rw[insertAt_size _ _ _ a,insertAt_size _ _ _ ae,h.len]
 .have O:q∈(insertAt t.place (below t.place j) j).toList.zip (insertAt es (below t.place j) (Y,v)).toList:=O;rw[el,ee,wy _ _ _ _ _ (by simpa using h.len)]at O;have sub:∀ k,k∈t.place.toList->k∈(insertAt t.place (below t.place j) j).toList:=λk J=>(mem k).mpr (.inr J);rw[Kr,Kb]at O;rcases O with z|rfl|z
  .exact(h.rea q (Lw z)).mono sub
  .exact r.mono sub
  .exact(h.rea q (My z)).mono sub
def ow (owner:Array (Option Nat))(j:Nat):Prop:=∃ k,owner[j]?=some (some k)
theorem sC (i q:Nat):∀ k,k<=runEnd m i-i->it m k (rs m (i,q))={ j:=i+k,more:=runEnd m i-i-k,i:=i,perturb:=q,dummy:=none }
 |0,_=>rfl
 |k+1,h=>by rw[C_,sC i q k (by lia)];unfold adv;rw[Ka (by dsimp only;lia)];dsimp only;congr 1
theorem rp (hs:owner.size=m+1):∀(J i q:Nat),i<=m->q<2 ^ 64->(∃ L,L<J/\¬ ow owner (lp m L (i,q)).1)->
 ∃ j,layClean.free m owner J i q=some j/\j<=m/\¬ ow owner j/\∃ n,(it m n (rs m (i,q))).j=j/\∀ k,k<n->ow owner (it m k (rs m (i,q))).j
 |0,i,q,_,_,⟨L,h,_⟩=>by lia
 |f+1,i,q,hi,hq,⟨L,hL,hn⟩=>by
  obtain⟨r1,r2⟩:=kH m i hi;have hre:runEnd m i+1-i=(runEnd m i-i)+1:=by
   have:i<=runEnd m i:=by unfold runEnd;split<;>lia
   lia
  have W:∀ k,k<=runEnd m i-i->((owner.getD (i+k) (some 0)).isNone=true↔¬ ow owner (i+k)):=by
   intro k Y;have hb:i+k<owner.size:=by lia
   have e:owner[i+k]?=some owner[i+k]:=by simp[hb]
   have e2:owner.getD (i+k) (some 0)=owner[i+k]:=by simp[Array.getD,hb]
   unfold ow;rw[e2,e];cases owner[i+k]<;>simp
  unfold layClean.free;cases hf:(List.range (runEnd m i+1-i)).find? λk=>(owner.getD (i+k) (some 0)).isNone with
  |some k=>
   dsimp only;rw[List.find?_range_eq_some]at hf;obtain⟨h1,h2,h3⟩:=hf;have h2:=KA.mp h2;have Y:k<=runEnd m i-i:=by lia
   refine⟨i+k,rfl,by lia,(W k Y).mp h1,k,by rw[sC i q k Y],λk' hk'=>?_⟩;rw[sC i q k' (by lia)];have:=h3 k' hk';refine Lf λz=>?_;rw[(W k' (by lia)).mpr z]at this;simp at this
  |none=>
   dsimp only;rw[List.find?_range_eq_none]at hf;have O:∀ k,k<=runEnd m i-i->ow owner (i+k):=by intro k Y;refine Lf λz=>?_;have:=hf k (by lia);rw[(W k Y).mpr z]at this;simp at this
   have hL0:L≠0:=by rintro rfl;exact hn (O 0 (KF _))
   have ih:=rp hs f (leap m i q).1 (leap m i q).2 (sw m i q) (by rw[wt];have:=Nat.div_le_self q 32;lia) ⟨L-1,by lia,by
    have:lp m L (i,q)=lp m (L-1) (leap m i q):=by rw[show L=(L-1)+1 by lia];rfl
    rw[this]at hn;exact hn⟩
   obtain⟨j,e,hj,hnj,n,en,hb⟩:=ih;refine⟨j,e,hj,hnj,runEnd m i-i+1+n,?_,λk Y=>?_⟩
   .rw[eQ,lr (runEnd m i-i) (rs m (i,q)) rfl (Va.rs hi hq)];exact en
   .by_cases Z:k<=runEnd m i-i
    .rw[sC i q k Z];exact O k Z
    .have:it m k (rs m (i,q))=it m (k-(runEnd m i-i+1)) (rs m (leap m i q)):=by rw[show k=(runEnd m i-i+1)+(k-(runEnd m i-i+1)) by lia,eQ,lr (runEnd m i-i) (rs m (i,q)) rfl (Va.rs hi hq)];congr 1;lia
     rw[this];exact hb _ (by lia)
structure Own (m:Nat) (hs:List Int) (owner:Array (Option Nat)):Prop where
 size:owner.size=m+1
 all:∀ k:Nat,k<hs.length->∃ j:Nat,owner[j]?=some (some k)
 lt:∀ j k:Nat,owner[j]?=some (some k)->k<hs.length
 rea:∀(j k:Nat)(h:Int),owner[j]?=some (some k)->hs[k]?=some h->Rea m (ow owner) h j
 inj:∀ j j' k:Nat,owner[j]?=some (some k)->owner[j']?=some (some k)->j=j'
theorem Own.spare (o:Own m hs owner)(hl:hs.length<=m):∃ j,j<=m/\¬ ow owner j:=by
 refine Lf λhn=>?_;have Y:∀ j,j<=m->ow owner j:=λj J=>Lf λz=>hn ⟨j,J,z⟩
 let g:Nat->Nat:=λj=>((owner[j]?).getD none).getD 0
 have L:∀ j,j<=m->owner[j]?=some (some (g j)):=λj J=>by obtain⟨k,Z⟩:=Y j J;show owner[j]?=some (some (((owner[j]?).getD none).getD 0));rw[Z];rfl
 have nd:((List.range (m+1)).map g).Nodup:=by unfold List.Nodup;rw[LV];have:=Mp (n:=m+1);refine L6 (λ{a b} ha W O e=>O ?_) this;have ha:=KA.mp ha;have W:=KA.mp W;exact o.inj a b (g a) (L a (by lia)) (by rw[e];exact L b (by lia))
 have:=oX _ (List.range hs.length) nd λx hx=>by obtain⟨j,J,rfl⟩:=Kg.mp hx;have J:=KA.mp J;exact KA.mpr (o.lt j _ (L j (by lia)))
 simp at this;lia
theorem AZ (hm:Msk m)(o:Own m hs owner)(hl:hs.length<=m)(h:Int) :
 ∃ j,layClean.free m owner (turns m) (bits h % (m+1)) (bits h)=some j/\Own m (hs++[h]) (owner.setIfInBounds j (some hs.length)):=by
 obtain⟨j0,Z,hn0⟩:=o.spare hl;have hi:bits h % (m+1)<=m:=N_ (Oj _ (Nat.succ_pos m));obtain⟨L,l1,l2,el⟩:=ui hm Z (bits h % (m+1),bits h) hi (sv h);obtain⟨j,e,hj,hnj,n,en,hb⟩:=rp o.size (turns m) _ _ hi (sv h) ⟨L,by unfold turns;lia,by rw[el];exact hn0⟩;refine⟨j,e,?_⟩;have hjb:j<owner.size:=by rw[o.size];lia
 have get:∀ i,(owner.setIfInBounds j (some hs.length))[i]?=if i=j then some (some hs.length) else owner[i]?:=by
  intro i;rw[Array.getElem?_setIfInBounds];by_cases J:j=i
  .subst J;rw[Ka rfl,Ka hjb,Ka rfl]
  .rw[J_ J,J_ (λz=>J z.symm)]
 have sub:∀ i,ow owner i->ow (owner.setIfInBounds j (some hs.length)) i:=by
  rintro i ⟨k,O⟩;by_cases J:i=j
  .exact⟨_,by rw[get,Ka J]⟩
  .exact⟨k,by rw[get,J_ J];exact O⟩
 have inv:∀ i k,(owner.setIfInBounds j (some hs.length))[i]?=some (some k)->(i=j/\k=hs.length)\/(i≠j/\owner[i]?=some (some k)):=by
  intro i k O;rw[get]at O;by_cases J:i=j
  .rw[Ka J]at O;exact .inl ⟨J,by simpa using O.symm⟩
  .rw[J_ J]at O;exact .inr ⟨J,O⟩
 refine⟨by rw[Array.size_setIfInBounds,o.size],λk O=>?_,λi k O=>?_,λi k h' O Y=>?_,λi i' k h1 h2=>?_⟩
 .rw[Kp,MT]at O;by_cases W:k=hs.length
  .exact⟨j,by rw[get,Ka rfl,W]⟩
  .obtain⟨i,hi⟩:=o.all k (by lia);refine⟨i,?_⟩;rw[get,J_]
   .exact hi
   .rintro rfl;exact hnj ⟨k,hi⟩
 .rw[Kp,MT];rcases inv i k O with⟨_,rfl⟩|⟨_,z⟩
  .lia
  .have:=o.lt i k z;lia
 .rcases inv i k O with⟨rfl,rfl⟩|⟨J,z⟩
  .rw[KJ (J6 _),Nat.sub_self]at Y;cases Y;exact⟨n,en,λk O=>sub _ (hb k O)⟩
  .have W:=o.lt i k z;rw[Lz W]at Y;exact(o.rea i k h' z Y).mono sub
 .rcases inv i k h1 with⟨rfl,rfl⟩|⟨J,z⟩<;>rcases inv i' _ h2 with⟨rfl,e'⟩|⟨hij',z'⟩
  .rfl
  .have:=o.lt _ _ z';lia
  .have:=o.lt _ _ z;lia
  .exact o.inj i i' k z z'
theorem A0 (hm:Msk m):∀(L pre:List Int)(owner:Array (Option Nat)),Own m pre owner->pre.length+L.length<=m->
 ∃ J,L.foldl (λO h=>do
  let (owner,k) <- O
  let j <- layClean.free m owner (turns m) (bits h % (m+1)) (bits h)
  pure (owner.setIfInBounds j (some k),k+1)) (some (owner,pre.length))=some (J,pre.length+L.length)/\Own m (pre++L) J
 | [],pre,owner,o,_=>⟨owner,rfl,by rw[KW];exact o⟩
 |h::L,pre,owner,o,Y=>by simp only[Kl]at Y;obtain⟨j,e,o'⟩:=AZ hm o (by lia) h;obtain⟨J,e2,W⟩:=A0 hm L (pre++[h]) _ o' (by simp;lia);refine⟨J,?_,by rw[Mj]at W;exact W⟩;rw[Mn];show List.foldl _ ((layClean.free m owner (turns m) (bits h % (m+1)) (bits h)).bind λj=>some (owner.setIfInBounds j (some pre.length),pre.length+1)) L=_;rw[e];show List.foldl _ (some (owner.setIfInBounds j (some pre.length),pre.length+1)) L=_;rw[Kp,MT]at e2;rw[e2];simp only[Kl];congr 2;lia
theorem F5 (hm:Msk m)(hs:Array Int)(J:hs.size<=m):∃ owner,layClean m hs=some owner/\Own m hs.toList owner:=by
 have L:Own m [] (Array.replicate (m+1) none):=by
  have no:∀ j k:Nat,(Array.replicate (m+1) (none:Option Nat))[j]?=some (some k)->False:=by intro j k h;rw[Array.getElem?_replicate]at h;split at h<;>simp at h
  exact⟨by simp,λk O=>by simp at O,λj k h=>(no j k h).elim,λj k _ h=>(no j k h).elim,λj _ k h=>(no j k h).elim⟩
 obtain⟨owner,e,o⟩:=A0 hm hs.toList [] _ L (by simpa using J);refine⟨owner,?_,by simpa using o⟩;unfold layClean;rw[<- Array.foldl_toList];rw[KU]at e;rw[e];rfl
theorem A1 {α:Type}(es:Array α):∀(l:List Nat),(∀ k∈l,k<es.size)->(l.filterMap (es[·]?)).length=l.length/\∀ i:Nat,(l.filterMap (es[·]?))[i]?=(l[i]?).bind (es[·]?)
 | [],_=>⟨rfl,λi=>by simp⟩
 |k::l,h=>by
  have J:k<es.size:=h k (Kj ..);have e:es[k]?=some es[k]:=by simp[J]
  obtain⟨a,b⟩:=A1 es l λk J=>h k (J8 _ J);rw[List.filterMap_cons_some e];refine⟨by simp[a],λi=>?_⟩;cases i with
  |zero=>simp[e]
  |succ i=>simpa using b i
theorem oZ (o:Nat->Option Nat):∀ l:List Nat,(l.filterMap λj=>(o j).map (j,·)).map Prod.fst=l.filter λj=>(o j).isSome
 | []=>rfl
 |j::l=>by
  rw[MI,Nb];cases e:o j with
  |none=>simpa using oZ o l
  |some k=>simpa using oZ o l
theorem A2 (owner:Array (Option Nat))(m:Nat)(hs:owner.size=m+1)(j k:Nat):(j,k)∈((List.range (m+1)).filterMap λj=>(owner.getD j none).map (j,·))↔owner[j]?=some (some k):=by
 rw[MQ];constructor
 .rintro⟨a,h1,h2⟩;have h1:=KA.mp h1;have J:a<owner.size:=by lia
  have e:owner.getD a none=owner[a]:=by simp[Array.getD,J]
  rw[e]at h2;obtain⟨L,e1,e2⟩:=K1.mp h2;cases e2;rw[show owner[j]?=some owner[j] by simp[J],e1]
 .intro h;obtain⟨J,e⟩:=Lu.mp h;refine⟨j,KA.mpr (by lia),?_⟩;have e2:owner.getD j none=owner[j]:=by simp[Array.getD,J]
  rw[e2,e];rfl
structure Laid {V:Type} (m:Nat) (es es':Array (Int×V)) (t':SetTable):Prop where
 tbl:Tbl t' es'
 mask:t'.mask=m
 size:es'.size=es.size
 mem:∀ x,x∈es'.toList↔x∈es.toList
 pw:∀ R:Int×V->Int×V->Prop,(∀ x y,R x y->R y x)->es.toList.Pairwise R->es'.toList.Pairwise R
theorem A3 {V:Type}{m:Nat}(hm:Msk m)(es:Array (Int×V))(hl:es.size<=m)(finger moves:Nat)(led plain:Bool) :
 ∃ t' order,laid m finger moves led plain (es.map (·.1))=some (t',order)/\Laid m es (order.filterMap (es[·]?)) t'/\t'.led=led/\t'.plain=plain/\order.toList.Perm (List.range es.size):=by
 obtain⟨owner,eo,o⟩:=F5 hm (es.map (·.1)) (by simpa using hl);have len:(es.map (·.1)).toList.length=es.size:=by simp
 let live:=(List.range (m+1)).filterMap λj=>(owner.getD j none).map (j,·)
 have O:∀ j k,(j,k)∈live↔owner[j]?=some (some k):=A2 owner m o.size;have ris:Ris (live.map Prod.fst):=by show Ris (((List.range (m+1)).filterMap λj=>(owner.getD j none).map (j,·)).map Prod.fst);rw[oZ];exact List.pairwise_lt_range.sublist (List.filter_sublist)
 have W:(live.map Prod.snd).Nodup:=by unfold List.Nodup;unfold Ris at ris;rw[LV]at ris ⊢;refine L6 (λ{a b} ha L Z e=>?_) ris;have h1:=(O a.1 a.2).mp ha;have h2:=(O b.1 b.2).mp L;rw[<- e]at h2;have:=o.inj _ _ _ h1 h2;lia
 have lt:∀ k∈live.map Prod.snd,k<es.size:=by
  intro k J;obtain⟨p,Y,rfl⟩:=Kg.mp J;have:=o.lt p.1 p.2 ((O p.1 p.2).mp Y)
  rwa [len]at this
 have all:∀ k,k<es.size->k∈live.map Prod.snd:=by intro k J;obtain⟨j,hj⟩:=o.all k (by rw[len];exact J);exact Kg.mpr ⟨(j,k),(O j k).mpr hj,rfl⟩
 have ll:live.length=es.size:=by have a:=oX _ (List.range es.size) W λk J=>KA.mpr (lt k J);have b:=oX (List.range es.size) (live.map Prod.snd) Mp λk J=>all k (KA.mp J);simp at a b;lia
 obtain⟨f1,f2⟩:=A1 es (live.map Prod.snd) lt;refine⟨{ mask:=m,place:=(live.map (·.1)).toArray,dummies:=#[],finger,led,moves,plain },(live.map (·.2)).toArray,?_,?_,rfl,rfl,(List.perm_ext_iff_of_nodup W Mp).mpr λk=>⟨λh=>KA.mpr (lt k h),λh=>all k (KA.mp h)⟩⟩
 .unfold laid;rw[eo];rfl
 .have el:((live.map (·.2)).toArray.filterMap (es[·]?)).toList=(live.map Prod.snd).filterMap (es[·]?):=by simp
  have es':((live.map (·.2)).toArray.filterMap (es[·]?)).size=es.size:=by rw[<- K_,el,f1,J9,ll]
  refine⟨⟨⟨hm,rfl,by simpa using ris,λj hj=>?_⟩,?_,λq hq=>?_⟩,rfl,es',λx=>?_,λR sy pw=>?_⟩
  .have hj:j∈live.map Prod.fst:=by simpa using hj
   obtain⟨p,Y,rfl⟩:=Kg.mp hj;obtain⟨L,_⟩:=Lu.mp ((O p.1 p.2).mp Y);show p.1<=m;have:=o.size;lia
  .rw[es'];simpa using ll
  .have hq:q∈(live.map Prod.fst).zip ((live.map Prod.snd).filterMap (es[·]?)):=by rw[el]at hq;simpa using hq
   obtain⟨i,hi⟩:=Kn.mp hq;rw[M9,f2]at hi;obtain⟨h1,h2⟩:=hi;rw[Ks]at h1 h2;obtain⟨p,Y,e1⟩:=K1.mp h1;rw[Y]at h2;have h2:es[p.2]?=some q.2:=h2;have ho:=(O p.1 p.2).mp (Kn.mpr ⟨i,Y⟩);have hh:(es.map (·.1)).toList[p.2]?=some q.2.1:=by rw[KE,Array.getElem?_map,h2];rfl
   rw[<- e1];refine(o.rea p.1 p.2 q.2.1 ho hh).mono λj ⟨k,J⟩=>?_;show j∈(live.map (·.1)).toArray.toList;simpa using ⟨k,(O j k).mpr J⟩
  .rw[el];constructor
   .intro hx;obtain⟨k,_,h2⟩:=MQ.mp hx;exact Kn.mpr ⟨k,by rw[KE];exact h2⟩
   .intro hx;obtain⟨k,J⟩:=Kn.mp hx;have L:k<es.size:=by have:=(Ke.mp J).1;simpa using this
    exact MQ.mpr ⟨k,all k L,by rw[KE]at J;exact J⟩
  .rw[el];rw[Kw];intro a b ha L Z;have ea:=f2 a;have eb:=f2 b;rw[KQ ha]at ea;rw[KQ L]at eb;rw[f1]at ha L;rw[KQ ha]at ea;rw[KQ L]at eb;have hne:(live.map Prod.snd)[a]≠(live.map Prod.snd)[b]:=Kw.mp W a b ha L Z;have ea:es[(live.map Prod.snd)[a]]?=some _:=ea.symm;have eb:es[(live.map Prod.snd)[b]]?=some _:=eb.symm;obtain⟨ka,va⟩:=Lu.mp ea;obtain⟨kb,vb⟩:=Lu.mp eb;have P:=Kw.mp pw;rw[<- va,<- vb];rcases N6 hne with z|z
   .simpa using P _ _ (by simpa using ka) (by simpa using kb) z
   .refine sy _ _ ?_;simpa using P _ _ (by simpa using kb) (by simpa using ka) z
theorem Da {V:Type}{m:Nat}(hm:Msk m)(es:Array (Int×V))(J:es.size<=m)(finger moves:Nat)(led plain:Bool) :
 ∃ t' order,laid m finger moves led plain (es.map (·.1))=some (t',order)/\Laid m es (order.filterMap (es[·]?)) t'/\t'.led=led/\t'.plain=plain:=by
 obtain⟨t',order,a,b,c,d,_⟩:=A3 hm es J finger moves led plain;exact⟨t',order,a,b,c,d⟩
end ST
namespace ST
open PySem PySem.W PyProof.Rows
structure Lt (N:Nat) (lt:Nat->Nat->Bool):Prop where
 irr:∀ i,lt i i=false
 tr:∀ i j k,lt i j=true->lt j k=true->lt i k=true
 tot:∀ i j,i<N->j<N->i≠j->lt i j=true\/lt j i=true
noncomputable abbrev JP:=Nat->Nat->(Bool->Om->Prop)->Om->Prop
def EE (N:Nat)(lt:Nat->Nat->Bool)(cmp:JP)(s:Om):Prop:=∀ i j C,i<N->j<N->C (lt i j) s->cmp i j C s
def Pm (N:Nat)(p:Array Nat):Prop:=p.toList.Perm (List.range N)
noncomputable def bX (p:Array Nat)(i:Nat):Nat:=p.getD i 0
section
variable {N:Nat}{lt:Nat->Nat->Bool}{cmp:JP}{s:Om}{p:Array Nat}
theorem Pm.size (h:Pm N p):p.size=N:=by have:=h.length_eq;simpa using this
theorem Pm.perm (h:Pm N p)(q:p'.Perm p):Pm N p':=(Array.perm_iff_toList_perm.mp q).trans h
theorem F6 (hi:i<p.size):p[i]?=some (bX p i):=by unfold bX;simp[Array.getD,hi]
theorem uk (h:p'[i]?=p[k]?):bX p' i=bX p k:=by unfold bX;rw[Array.getD_eq_getD_getElem?,Array.getD_eq_getD_getElem?,h]
theorem Pm.bd (h:Pm N p)(hi:i<N):bX p i<N:=by
 have J:i<p.size:=by rw[h.size];exact hi
 have:bX p i∈p.toList:=Kn.mpr ⟨i,by rw[KE];exact F6 J⟩;exact KA.mp (h.mem_iff.mp this)
theorem Pm.ne (h:Pm N p)(hi:i<N)(Y:j<N)(e:i≠j):bX p i≠bX p j:=by
 have nd:p.toList.Nodup:=h.nodup_iff.mpr Mp;have J:i<p.size:=by rw[h.size];exact hi
 have L:j<p.size:=by rw[h.size];exact Y
 have O:p.toList[i]'(by simpa using J)=bX p i:=by simp[bX,Array.getD,J]
 have W:p.toList[j]'(by simpa using L)=bX p j:=by simp[bX,Array.getD,L]
 intro z;rcases N6 e with q|q
 .exact Kw.mp nd i j (by simpa using J) (by simpa using L) q (by rw[O,W];exact z)
 .exact Kw.mp nd j i (by simpa using L) (by simpa using J) q (by rw[O,W];exact z.symm)
def So (lt:Nat->Nat->Bool)(p:Array Nat)(k:Nat):Prop:=∀ a b,a<b->b<k->lt (bX p a) (bX p b)=true
def De (lt:Nat->Nat->Bool)(p:Array Nat)(k:Nat):Prop:=∀ a b,a<b->b<k->lt (bX p b) (bX p a)=true
theorem Lt.of_not (o:Lt N lt)(hi:i<N)(J:j<N)(e:i≠j)(h:lt i j=false):lt j i=true:=by
 rcases o.tot i j hi J e with z|z
 .rw[h]at z;cases z
 .exact z
theorem So.snoc (o:Lt N lt)(h:So lt p k)(L:1<=k)(l:lt (bX p (k-1)) (bX p k)=true):So lt p (k+1):=by
 intro a b J O;by_cases e:b=k
 .subst e;by_cases e2:a=b-1
  .rw[e2];exact l
  .exact o.tr _ _ _ (h a (b-1) (by lia) (by lia)) l
 .exact h a b J (by lia)
theorem De.snoc (o:Lt N lt)(h:De lt p k)(L:1<=k)(l:lt (bX p k) (bX p (k-1))=true):De lt p (k+1):=by
 intro a b J O;by_cases e:b=k
 .subst e;by_cases e2:a=b-1
  .rw[e2];exact l
  .exact o.tr _ _ _ l (h a (b-1) (by lia) (by lia))
 .exact h a b J (by lia)
theorem wz (o:Lt N lt)(an:EE N lt cmp s)(pm:Pm N p):∀(f n:Nat){Q:Nat->Om->Prop},1<=n->n+f=N->So lt p n->
 (∀ m,n<=m->m<=N->So lt p m->(m<N->lt (bX p m) (bX p (m-1))=true)->Q m s)->(kas_asc p f n).kasWp cmp Q s
 |0,n,Q,h1,h2,J,k=>k n (J6 _) (by lia) J λz=>by lia
 |f+1,n,Q,h1,h2,J,k=>by
  refine an _ _ _ (pm.bd (by lia)) (pm.bd (by lia)) ?_;show KasT.kasWp cmp (if lt (bX p n) (bX p (n-1))=true then .ret n else kas_asc p f (n+1)) Q s;by_cases c:lt (bX p n) (bX p (n-1))=true
  .rw[Ka c];exact k n (J6 _) (by lia) J λ_=>c
  .rw[J_ c];have c:lt (bX p n) (bX p (n-1))=false:=by simpa using c
   exact wz o an pm f (n+1) (by lia) (by lia) (J.snoc o h1 (o.of_not (pm.bd (by lia)) (pm.bd (by lia)) (pm.ne (by lia) (by lia) (by lia)) c)) λm a b c d=>k m (by lia) b c d
theorem xO (o:Lt N lt)(an:EE N lt cmp s)(pm:Pm N p):∀(f n:Nat){Q:Array Nat×Nat×Nat->Om->Prop},1<=n->n+f=N->De lt p n->
 (∀ m,n<=m->m<=N->De lt p m->Q (p,m,0) s)->(kas_desc f p n 0).kasWp cmp Q s
 |0,n,Q,h1,h2,J,k=>k n (J6 _) (by lia) J
 |f+1,n,Q,h1,h2,J,k=>by
  refine an _ _ _ (pm.bd (by lia)) (pm.bd (by lia)) ?_;show KasT.kasWp cmp (if lt (bX p n) (bX p (n-1))=true then (if 0>0 then kas_desc f (kas_rev p (n-(0+1)) n) (n+1) 0 else kas_desc f p (n+1) 0)
   else .ask (bX p (n-1)) (bX p n) λd=>if d=true then .ret (p,n,0) else kas_desc f p (n+1) (0+1)) Q s
  by_cases c:lt (bX p n) (bX p (n-1))=true
  .rw[Ka c,J_ (by lia)];exact xO o an pm f (n+1) (by lia) (by lia) (J.snoc o h1 c) λm a b c=>k m (by lia) b c
  .rw[J_ c];have c:lt (bX p n) (bX p (n-1))=false:=by simpa using c
   refine an _ _ _ (pm.bd (by lia)) (pm.bd (by lia)) ?_;rw[o.of_not (pm.bd (by lia)) (pm.bd (by lia)) (pm.ne (by lia) (by lia) (by lia)) c];show KasT.kasWp cmp (if true=true then _ else _) Q s;rw[Ka rfl];exact k n (J6 _) (by lia) J
theorem A4 (n:Nat)(hn:n<=p.size)(k:Nat):bX (kas_rev p 0 n) k=if k<n then bX p (n-1-k) else bX p k:=by
 have e:=getElem?_mirror_all (xs:=p) (i:=0) hn k;unfold kas_rev;by_cases h:k<n
 .rw[Ka h];rw[Ka ⟨KF _,h⟩,Lm]at e;exact uk e
 .rw[J_ h];rw[J_ (by lia)]at e;exact uk e
theorem A5 (o:Lt N lt)(an:EE N lt cmp s)(pm:Pm N p)(h1:1<=n)(hn:n<=N)(hd:De lt p n)
 (k:∀ m L,1<=m->m<=N->Pm N L->So lt L m->Q (m,L) s):(kas_tail3 n N p).kasWp cmp Q s:=by
 unfold kas_tail3;rw[Nr];have J:Pm N (kas_rev p 0 n):=pm.perm (mirror_perm _ _ _ _);refine wz o an J (N-n) n h1 (by lia) ?_ λm a b c _=>k m _ (by lia) b J c;intro a b O W;rw[A4 n (by rw[pm.size];exact hn),A4 n (by rw[pm.size];exact hn),Ka (by lia),Ka W];exact hd _ _ (by lia) (by lia)
theorem A6 (o:Lt N lt)(an:EE N lt cmp s)(pm:Pm N p)(h2:2<=N)
 (k:∀ m J,1<=m->m<=N->Pm N J->So lt J m->Q (m,J) s):(kas_count N p).kasWp cmp Q s:=by
 unfold kas_count;rw[Nr];refine wz o an pm (N-1) 1 (J6 _) (by lia) (λa b L W=>by lia) λm a b c d=>?_;by_cases e:m=N
 .rw[Ka (by simpa using e)];exact k m p a b pm c
 .rw[J_ (by simpa using e)];by_cases hm:m>1
  .rw[Ka hm];refine an _ _ _ (pm.bd (by lia)) (pm.bd (by lia)) ?_;have:lt (bX p 0) (bX p (m-1))=true:=c 0 (m-1) (by lia) (by lia);show KasT.kasWp cmp (if lt (bX p 0) (bX p (m-1))=true then _ else _) Q s;rw[Ka this];exact k m p a b pm c
  .rw[J_ hm];have O:m=1:=by lia
   subst O;unfold kas_descPart;rw[Nr];have l:=d (by lia);refine xO o an pm (N-(1+1)) (1+1) (by lia) (by lia) (λa b L W=>?_) λm' a' Y Z=>?_
   .have:a=0:=by lia
    have:b=1:=by lia
    subst_vars
    exact l
   .show KasT.kasWp cmp (if 0>0 then _ else kas_tail3 m' N p) Q s;rw[J_ (by lia)];exact A5 o an pm (by lia) Y Z k
theorem o5 (o:Lt N lt)(an:EE N lt cmp s)(pm:Pm N p)(hi:i<N)(so:So lt p i):∀(f l r:Nat){Q:Nat->Om->Prop},l<=r->r<=i->r-l<=f->
 (∀ a,a<l->lt (bX p a) (bX p i)=true)->(∀ a,r<=a->a<i->lt (bX p i) (bX p a)=true)->
 (∀ m,m<=i->(∀ a,a<m->lt (bX p a) (bX p i)=true)->(∀ a,m<=a->a<i->lt (bX p i) (bX p a)=true)->Q m s)->(kas_place p i f l r).kasWp cmp Q s
 |0,l,r,Q,h1,h2,O,J,L,k=>k l (by lia) J λa x y=>L a (by lia) y
 |f+1,l,r,Q,h1,h2,O,J,L,k=>by
  unfold kas_place;by_cases c:l>=r
  .rw[Ka c];exact k l (by lia) J λa x y=>L a (by lia) y
  .rw[J_ c];refine an _ _ _ (pm.bd hi) (pm.bd (by lia)) ?_;show KasT.kasWp cmp (if lt (bX p i) (bX p ((l+r) / 2))=true then _ else _) Q s;by_cases q:lt (bX p i) (bX p ((l+r) / 2))=true
   .rw[Ka q];refine o5 o an pm hi so f l ((l+r) / 2) (by lia) (by lia) (by lia) J (λa x y=>?_) k;by_cases e:a=(l+r) / 2
    .rw[e];exact q
    .exact o.tr _ _ _ q (so _ _ (by lia) y)
   .rw[J_ q];have q:lt (bX p i) (bX p ((l+r) / 2))=false:=by simpa using q
    have q:=o.of_not (pm.bd hi) (pm.bd (by lia)) (pm.ne hi (by lia) (by lia)) q;refine o5 o an pm hi so f _ r (by lia) h2 (by lia) (λa x=>?_) L k;by_cases e:a=(l+r) / 2
    .rw[e];exact q
    .exact o.tr _ _ _ (so _ _ (by lia) (by lia)) q
theorem A7 (hi:i<p.size)(J:l<=i)(k:Nat):bX (bubble p i (i-l)) k=if k=l then bX p i else if l<k/\k<=i then bX p (k-1) else bX p k:=by
 have e:=getElem?_bubble hi (i-l) (by lia) k;rw[show i-(i-l)=l by lia]at e;by_cases h1:k=l
 .rw[Ka h1]at e ⊢;exact uk e
 .rw[J_ h1]at e ⊢;by_cases h2:l<k/\k<=i
  .rw[Ka h2]at e ⊢;exact uk e
  .rw[J_ h2]at e ⊢;exact uk e
theorem A8 (o:Lt N lt)(an:EE N lt cmp s):∀(f i:Nat)(p:Array Nat){Q:Array Nat->Om->Prop},Pm N p->i+f=N->So lt p i->
 (∀ J,Pm N J->So lt J N->Q J s)->(kas_bin f p i).kasWp cmp Q s
 |0,i,p,Q,pm,h,so,k=>k p pm (by rw[<- h];exact so)
 |f+1,i,p,Q,pm,h,so,k=>by
  unfold kas_bin;rw[Nr];refine o5 o an pm (by lia) so i 0 i (by lia) (J6 _) (by lia) (λa x=>by lia) (λa x y=>by lia) λm hm lo hi=>?_;refine A8 o an f (i+1) _ (pm.perm (bubble_perm _ _ _)) (by lia) (λa b L O=>?_) k;have hs:i<p.size:=by rw[pm.size];lia
  rw[A7 hs hm,A7 hs hm]
  repeat' split
  all_goals first|lia|(exact hi _ (by lia) (by lia))|(exact lo _ (by lia))|(exact so _ _ (by lia) (by lia))
theorem Dc (o:Lt N lt)(an:EE N lt cmp s)(h2:2<=N)(k:∀ p,Pm N p->So lt p N->Q p s):(kas_sort N).kasWp cmp Q s:=by
 unfold kas_sort;rw[Nr];have pm:Pm N (List.toArray (List.range N)):=by unfold Pm;simp
 refine A6 o an pm h2 λm J a b c d=>?_;show KasT.kasWp cmp (if m<N then kas_bin (N-max m 1) J (max m 1) else .ret J) Q s;by_cases e:m<N
 .rw[Ka e];have:max m 1=m:=by lia
  rw[this];exact A8 o an (N-m) m J c (by lia) d k
 .rw[J_ e];have:m=N:=by lia
  subst this;exact k J c d
end
end ST
namespace L2
open PySem PySem.Spec PySem.Calls PyProof.Rows ST
noncomputable abbrev iK (ns:List Int):List Key:=ns.map Sum.inl
section
variable {prog:Oo}{w:World}{A:Os}{E:Oq->Om->Prop}{s:Om}
theorem oj (h:(aE prog w).is (.inl i) v=true):∃ t,v=.int i t:=by
 rcases aX (show lb (.inl i) v=true from h) with⟨j,t,e,rfl⟩|⟨x,t,e,_⟩
 .cases e;exact⟨t,rfl⟩
 .cases e
theorem items_int:∀{ns:List Int}{vs:List Oq},ItemsAre (aE prog w) (iK ns) vs->∀ v∈vs,∃ i t,v=.int i t
 | [],_,h,v,hv=>by cases h;simp at hv
 |n::ns,_,h,v,hv=>by
  cases h with
  |cons h1 h2=>
   rcases Kb.mp hv with rfl|hv
   .obtain⟨t,rfl⟩:=oj h1;exact⟨n,t,rfl⟩
   .exact items_int h2 v hv
theorem F7 (O:(tK prog w).is s.heap (iK ns) b)(h:Q true s):wpAny (model prog w) A (hashByValue 8 (.ref b)) Q E s:=by
 have hT:=IsTupleKey.typeIs O;obtain⟨o,items,n,Y,_,hd,hi⟩:=O;unfold hashByValue;refine J4 (wpAny_specialOf hT PySem.F.slot_tuple_hash.lookup ?_);dsimp only;refine J4 (wpAny_seqItems Y hd ?_);refine J4 ?_;show wpAny _ _ (forIn items _ _) _ _ s;rw[<- Array.forIn_toList];refine wpAny_forIn_list _ (λrest r s'=>r.1=none/\s'=s/\∀ v∈rest,∃ i t,v=Value.int i t) _ ?_ ?_ _ _ ⟨rfl,rfl,items_int hi⟩
 .rintro v rest r s' ⟨J,rfl,W⟩;obtain⟨i,t,rfl⟩:=W v Kj;refine J4 (J7 ?_);simp only[K4,Kq,K8];exact J7 ⟨rfl,rfl,λu L=>W u (J8 _ L)⟩
 .rintro⟨r1,r2⟩ s' ⟨J,rfl,_⟩;simp only at J;subst J;exact J7 h
theorem um (O:(tK prog w).is s.heap (iK ns) b)(h:Q false s):wpAny (model prog w) A (ofAClassStatement 8 (.ref b)) Q E s:=by
 have hT:=IsTupleKey.typeIs O;obtain⟨o,items,n,Y,_,hd,hi⟩:=O;unfold ofAClassStatement;refine J4 (NI hT ?_);dsimp only;rw[Ka (by decide)];refine J4 (J7 ?_);simp only[K4,Kq,K8];refine J4 (wpAny_seqItems Y hd ?_);refine J4 ?_;show wpAny _ _ (forIn items _ _) _ _ s;rw[<- Array.forIn_toList];refine wpAny_forIn_list _ (λrest r s'=>r.1=none/\s'=s/\∀ v∈rest,∃ i t,v=Value.int i t) _ ?_ ?_ _ _ ⟨rfl,rfl,items_int hi⟩
 .rintro v rest r s' ⟨J,rfl,W⟩;obtain⟨i,t,rfl⟩:=W v Kj;refine J4 (J7 ?_);simp only[Kq,K8];exact J7 ⟨rfl,rfl,λu L=>W u (J8 _ L)⟩
 .rintro⟨r1,r2⟩ s' ⟨J,rfl,_⟩;simp only at J;subst J;exact J7 h
theorem F8 (W:(tK prog w).is s.heap (iK ns) b)(Z:∀ y∈ys,∃ J c,y=.ref c/\(tK prog w).is s.heap (iK J) c)(h:Q false s):wpAny (model prog w) A (searchCouldBeSeen (.ref b) ys) Q E s:=by
 unfold searchCouldBeSeen;refine J4 ?_;refine wpAny_forIn_list _ (λrest r s'=>r.1=none/\s'=s/\∀ y∈rest,∃ J c,y=.ref c/\(tK prog w).is s.heap (iK J) c) _ ?_ ?_ _ _ ⟨rfl,rfl,Z⟩
 .rintro v rest r s' ⟨L,rfl,Y⟩;obtain⟨J,c,rfl,hc⟩:=Y v Kj;have fin:∀ u∈rest,∃ J c,u=Value.ref c/\(tK prog w).is s'.heap (iK J) c:=λu O=>Y u (J8 _ O);dsimp only;split
  .exact J7 ⟨rfl,rfl,fin⟩
  .refine J4 ((tK prog w).quiet W ?_);simp only[K4,Kq,K8];refine J4 ((tK prog w).quiet hc ?_);simp only[K4,Kq,K8];refine J4 (um W ?_);simp only[Kq,K8];refine J4 (um hc ?_);simp only[Kq,K8];exact J7 ⟨rfl,rfl,fin⟩
 .rintro⟨r1,r2⟩ s' ⟨L,rfl,_⟩;simp only at L;subst L;exact J7 h
def Js (prog:Oo)(w:World)(h:Heap)(es:Array (Int×Oq)):Prop:=∀ e∈es.toList,∃ J c,e=((tK prog w).hash (iK J),Value.ref c)/\(tK prog w).is h (iK J) c
theorem Dd (h:Msk m):(m % 2==0)=false:=by rcases h with rfl|rfl|rfl|rfl<;>rfl
theorem Tbl.fits (T:Tbl t es)(hs:t.place.size<=t.mask):t.fits es.size=true:=by unfold SetTable.fits SetTable.fill;rw[T.tb.dum];simp[T.len]at hs ⊢;exact hs
theorem wA {α:Type}{es:Array α}{i:Nat}{e:α}(h:es[i]?=some e):e∈es.toList:=Kn.mpr ⟨i,by rw[KE];exact h⟩
theorem rq {ep:Nat}{t:SetTable}{ns:List Int}{Q:SetFound->Om->Prop}(ho:s.heap.get? a=some o)(hd:o.data=.set es ep t)(T:Tbl t es)(hs:t.place.size<=t.mask)
 (hu:A.units<cLine) (hk:(tK prog w).is s.heap (iK ns) b) (el:Js prog w s.heap es)
 (h1:(∃ e∈es.toList,∃ c,e.2=.ref c/\(tK prog w).is s.heap (iK ns) c)->Q (.there none) s)
 (h2:(∀ e∈es.toList,∀ c,e.2=.ref c->¬ (tK prog w).is s.heap (iK ns) c)->∀ j,j∉t.place.toList->j<=t.mask->Rea t.mask (·∈ t.place.toList) ((tK prog w).hash (iK ns)) j->Q (.free j false) s) :
 ∀(fuel n:Nat)(J:Option SetTable.Probe),J.getD (t.probeStart ((tK prog w).hash (iK ns)))=it t.mask n (st t.mask ((tK prog w).hash (iK ns)))->
  (∀ k,k<n->∃ i e,∃ hi:i<t.place.size,t.place[i]=(it t.mask k (st t.mask ((tK prog w).hash (iK ns)))).j/\es[i]?=some e/\∀ c,e.2=.ref c->¬ (tK prog w).is s.heap (iK ns) c)->
  (∃ N,n<=N/\N<n+fuel/\(it t.mask N (st t.mask ((tK prog w).hash (iK ns)))).j∉t.place.toList)->
  wpAny (model prog w) A (setSearchFrom a (.ref b) ((tK prog w).hash (iK ns)) true fuel J) Q E s
 |0,n,J,_,_,⟨N,x1,x2,_⟩=>by lia
 |fuel+1,n,J,e1,e2,⟨N,x1,x2,x3⟩=>by
  have v0:Va t.mask (it t.mask n (st t.mask ((tK prog w).hash (iK ns)))):=(Va.st _ _).it;have sp:=wx T.tb hs (λi=>(es[i]?.map (·.1)).getD 0) ((tK prog w).hash (iK ns)) v0;have at_:∀ i,i<t.place.size->∃ e,es[i]?=some e:=λi hi=>⟨es[i]'(by rw[<- T.len];exact hi),by simp[T.len▸hi]⟩;unfold setSearchFrom;refine J4 (Lq ho hd (Tbl.fits T hs) ?_);dsimp only;have hg:t.gaveWay=false:=Dd T.tb.msk;rw[hg];simp only[Kq,K8];rw[e1];have pre:∀{nn:Nat},(∀ k,k<nn->∃ i,∃ hi:i<t.place.size,t.place[i]=(it t.mask k (it t.mask n (st t.mask ((tK prog w).hash (iK ns))))).j/\(es[i]?.map (·.1)).getD 0≠(tK prog w).hash (iK ns))->
   ∀ k,k<n+nn->∃ i e,∃ hi:i<t.place.size,t.place[i]=(it t.mask k (st t.mask ((tK prog w).hash (iK ns)))).j/\es[i]?=some e/\∀ c,e.2=.ref c->¬ (tK prog w).is s.heap (iK ns) c:=by
   intro nn hb k hk';by_cases hkn:k<n
   .exact e2 k hkn
   .obtain⟨i,hi,q1,q2⟩:=hb (k-n) (by lia);obtain⟨e,W⟩:=at_ i hi;refine⟨i,e,hi,?_,W,λc hc L=>q2 ?_⟩
    .rw[q1,<- eQ,show n+(k-n)=k by lia]
    .obtain⟨ms,c',rfl,O⟩:=el e (wA W);have Y:c'=c:=by injection hc
     subst Y;rw[W];show(tK prog w).hash (iK ms)=_;rw[(tK prog w).inj O L]
  generalize hq0:t.probe _ _ (it t.mask n (st t.mask ((tK prog w).hash (iK ns))))=pr;have hpr:t.probe (λi=>(es[i]?.map (·.1)).getD 0) ((tK prog w).hash (iK ns)) (it t.mask n (st t.mask ((tK prog w).hash (iK ns))))=pr:=hq0;rw[hpr]at sp;clear hpr hq0;cases sp with
  |em nn hem hb=>
   dsimp only;refine J7 (h2 ?_ _ hem (v0.it).jle ?_)
   .intro e W c hc L;obtain⟨i,hi⟩:=Kn.mp W;rw[KE]at hi;have hil:i<t.place.size:=by rw[T.len];exact(Lu.mp hi).1
    obtain⟨ms,c',rfl,O⟩:=el e W;have Y:c'=c:=by injection hc
    subst Y;have ek:=(tK prog w).inj O L;have hz:(t.place[i],((tK prog w).hash (iK ms),Value.ref c'))∈t.place.toList.zip es.toList:=Kn.mpr ⟨i,by rw[M9];exact⟨by simp[hil],by rw[KE];exact hi⟩⟩;obtain⟨m,em,eb⟩:=T.rea _ hz;have em:(it t.mask m (st t.mask ((tK prog w).hash (iK ms)))).j=t.place[i]:=em;rw[ek]at em eb;have hm:m<n+nn:=by
     rcases Nz m (n+nn) with q|q|q
     .exact q
     .exfalso;refine hem ?_;show(it t.mask nn (it t.mask n _)).j∈t.place.toList;rw[<- eQ,<- q,em];simp
     .exfalso;refine hem ?_;show(it t.mask nn (it t.mask n _)).j∈t.place.toList;rw[<- eQ];exact eb _ q
    obtain⟨Z,e',hi',q1,q2,q3⟩:=pre hb m hm;have hii:Z=i:=by
     have:t.place[Z]=t.place[i]:=q1.trans em;rcases Nz Z i with q|q|q
     .have:=Kw.mp T.tb.ris Z i (by simpa using hi') (by simpa using hil) q;simp at this;lia
     .exact q
     .have:=Kw.mp T.tb.ris i Z (by simpa using hil) (by simpa using hi') q;simp at this;lia
    subst hii;rw[hi]at q2;cases q2;exact q3 c' rfl L
   .refine⟨n+nn,by rw[eQ],λk hk'=>?_⟩;obtain⟨i,e,hi,q1,_⟩:=pre hb k hk';show _∈t.place.toList;rw[<- q1];simp
  |ca nn i hi hij hq hb=>
   dsimp only;obtain⟨e,W⟩:=at_ i hi;obtain⟨ms,c,rfl,L⟩:=el e (wA W);have rest:wpAny (model prog w) A (do
    let some (_,y):=es[i]?|unsupported "internal:set-entry"
    let equal <- holding [y] (eqBool y (.ref b))
    let (es',_,t') <- setState a
    if true&&equal then return SetFound.there none
    let some same:=t'.sameMemory t.moves t.mask|unsupported "set.changed-during-lookup:is-the-new-block-at-the-old-address"
    let still <- match (if same then t'.slot (it t.mask nn (it t.mask n (st t.mask ((tK prog w).hash (iK ns))))).j else .empty) with
     | .live Z=>match es'[Z]? with
      |some (_,y')=>do pure (if <- isSame y' y then some Z else none)
      |none=>pure none
     |_=>pure none
    match still with
    |none=>rule "set.search.anew";setSearchFrom a (.ref b) ((tK prog w).hash (iK ns)) true fuel none
    |some Z=>if equal then return .there (some Z) else setSearchFrom a (.ref b) ((tK prog w).hash (iK ns)) true fuel (some (it t.mask (nn+1) (it t.mask n (st t.mask ((tK prog w).hash (iK ns))))))) Q E s:=by
    rw[W];dsimp only;refine J4 (LC ((tK prog w).eqBool hu L hk ?_));refine J4 (Lq ho hd (Tbl.fits T hs) ?_);dsimp only;by_cases hkk:iK ms=iK ns
    .rw[Ki hkk];simp only[LK,Mb];exact J7 (h1 ⟨_,wA W,c,rfl,by rw[<- hkk];exact L⟩)
    .rw[Kv hkk];simp only[LW,Kq,K8];have hsm:t.sameMemory t.moves t.mask=some true:=by unfold SetTable.sameMemory;simp
     rw[hsm];dsimp only;rw[Ka rfl,<- hij,ri T.tb hi];dsimp only;rw[W];dsimp only;refine J4 (wpAny_isSame_ref_self ?_);refine J4 (J7 ?_);rw[Ka rfl]
     try dsimp only
     refine rq ho hd T hs hu hk el h1 h2 fuel (n+(nn+1)) _ ?_ ?_ ⟨N,?_,?_,x3⟩
     .exact(eQ t.mask n (nn+1) _).symm
     .intro k hk';by_cases hkn:k<n+nn
      .exact pre hb k hkn
      .have:k=n+nn:=by lia
       subst this;refine⟨i,_,hi,by rw[hij,eQ],W,λc' Y hh=>hkk ?_⟩;have:c=c':=by injection Y
       subst this;exact(tK prog w).inj L hh
     .refine Lf λhc=>?_;have hN:N<n+(nn+1):=by lia
      by_cases hNn:N<n+nn
      .obtain⟨Z,e',hi',q1,_⟩:=pre hb N hNn;exact x3 (by rw[<- q1];simp)
      .have:N=n+nn:=by lia
       subst this;exact x3 (by rw[eQ,<- hij];simp)
     .lia
   split
   .refine J4 (F8 hk ?_ ?_)
    .intro y hy;obtain⟨e',he',rfl⟩:=Kg.mp hy;have he2:e'∈es.toList:=by have:=(Array.mem_toList_iff).mp he';rw[Array.mem_filter]at this;exact Array.mem_toList_iff.mpr this.1
     obtain⟨ms',c',rfl,O⟩:=el e' he2;exact⟨ms',c',rfl,O⟩
    .simp only[Kq,K8];exact rest
   .exact rest
end
noncomputable def byT (w:World):Bool:=w.params.followText "set-order"
def SetAt (w:World)(h:Heap)(a:Addr)(es:Array (Int×Oq)):Prop:=∃ o ep t,h.get? a=some o/\o.ExactSet/\o.data=.set es ep t/\Tbl t es/\rj t/\t.plain=true/\t.led=!byT w
theorem SetAt.keep (x:SetAt w h a es)(k:∀ o,h.get? a=some o->h'.get? a=some o):SetAt w h' a es:=let ⟨o,ep,t,e,r⟩:=x;⟨o,ep,t,k o e,r⟩
theorem lu (h:rj t):t.place.size<=t.mask:=by unfold rj at h;lia
section
variable {prog:Oo}{w:World}{A:Os}{E:Oq->Om->Prop}{s:Om}
structure Grown (es es':Array (Int×Oq)) (x:Int×Oq):Prop where
 mem:∀ y,y∈es'.toList↔y=x\/y∈es.toList
 pw:∀ R:Int×Oq->Int×Oq->Prop,(∀ x y,R x y->R y x)->es.toList.Pairwise R->(∀ e∈es.toList,R e x)->es'.toList.Pairwise R
 size:es'.size=es.size+1
theorem y_ (es:Array (Int×Oq))(p:Nat)(x:Int×Oq)(L:p<=es.size):Grown es (SetTable.insertAt es p x) x:=by
 have e:=ST.insertAt_toList es p x L;refine⟨λy=>?_,λR W pw O=>?_,ST.insertAt_size es p x L⟩
 .rw[e,Kr,Kb];constructor
  .rintro (z|rfl|z)
   .exact .inr (Lw z)
   .exact .inl rfl
   .exact .inr (My z)
  .rintro (rfl|z)
   .exact .inr (.inl rfl)
   .rw[<- Mr p es.toList,Kr]at z;exact z.elim .inl λz=>.inr (.inr z)
 .rw[e,NR];rw[<- Mr p es.toList,NR]at pw;obtain⟨p1,p2,p3⟩:=pw;refine⟨p1,?_,?_⟩
  .rw[L5];exact⟨λy J=>W _ _ (O y (My J)),p2⟩
  .intro y J z hz;rcases Kb.mp hz with rfl|hz
   .exact O y (Lw J)
   .exact p3 y J z hz
theorem Grown.laid (g:Grown es es1 x)(l:Laid m es1 es2 t):Grown es es2 x:=⟨λy=>(l.mem y).trans (g.mem y),λR J pw L=>l.pw R J (g.pw R J pw L),by rw[l.size,g.size]⟩
theorem rA {ep:Nat}{t:SetTable}(es':Array (Int×Oq))(t':SetTable){h:Heap}(J:h.get? a=some o)(hex:o.ExactSet)(hd:o.data=.set es ep t) :
 ∃ o',(h.update a (Obj.putSet es' t')).get? a=some o'/\o'.ExactSet/\o'.data=.set es' (ep+1) t':=by
 have:=LF (Obj.putSet es' t') J (by rw[putSet_of es' t' hd];rfl);rw[putSet_of es' t' hd]at this;exact⟨_,this,hex,rfl⟩
theorem wB {t:SetTable}(h:Msk t.mask)(h1:n*5<t.mask*3)(h2:(n+1)*5>=t.mask*3)(J:n+1<=300):∃ m,SetTable.sizeAbove (SetTable.grown (n+1))=m+1/\Msk m/\(n+1)*5<m*3:=by
 rcases h with e|e|e|e<;>rw[e]at h1 h2
 .have:n=4:=by lia
  subst this;exact⟨31,by decide,.inr (.inl rfl),by lia⟩
 .have:n=18:=by lia
  subst this;exact⟨127,by decide,.inr (.inr (.inl rfl)),by lia⟩
 .have:n=76:=by lia
  subst this;exact⟨511,by decide,.inr (.inr (.inr rfl)),by lia⟩
 .lia
theorem A9 {a:Addr}{o:Obj}{es:Array (Int×Oq)}{Q:Unit->Om->Prop}(J:s.heap.get? a=some o)(hex:o.ExactSet)(hd:o.data=.set es ep t)(hf:t.fits es.size=true)(hm:Msk m)(hn:SetTable.sizeAbove n=m+1)(Z:es.size*5<m*3)(O:t.plain=true)(W:t.led=!byT w)
 (h:∀ es' t',Laid m es es' t'->SetAt w (s.heap.update a (Obj.putSet es' t')) a es'->Q () { s with heap:=s.heap.update a (Obj.putSet es' t') }):wpAny (model prog w) A (setRelay a n) Q E s:=by
 have hmb:m<=511:=by rcases hm with rfl|rfl|rfl|rfl<;>lia
 unfold setRelay;refine J4 (Lq J hd hf ?_);dsimp only;rw[J_ (by rw[hn,KL];lia)];obtain⟨t',order,e,L,Y,hp⟩:=Da hm es (by lia) t.finger (t.movedTo m) t.led t.plain;have er:t.relaid (es.map (·.1)) n=some (t',order):=by unfold SetTable.relaid;rw[hn];exact e
 rw[er];show wpAny _ _ (do
  let r <- (do
   if (order.filterMap (es[·]?)).size != es.size then unsupported "internal:set-table-lost-an-element"
   pure (order.filterMap (es[·]?),t'):Sem (Array (Int×Oq)×SetTable))
  storeSet a r.1 r.2) _ _ _
 refine J4 ?_;rw[J_ (by rw[L.size];simp)];refine J7 ?_;refine wpAny_storeSet_of J hd ?_ (by show(order.filterMap (es[·]?)).size<=_;rw[L.size,KL];lia);obtain⟨o',g1,g2,g3⟩:=rA (order.filterMap (es[·]?)) t' J hex hd;refine h _ t' L ⟨o',_,t',g1,g2,g3,L.tbl,?_,by rw[hp];exact O,by rw[Y];exact W⟩;unfold rj;rw[L.tbl.len,L.size,L.mask];exact Z
theorem A_ (T:Tbl t es)(hs:t.place.size<=t.mask)(h:Int):∃ N,N<100000/\(it t.mask N (st t.mask h)).j∉t.place.toList:=by
 obtain⟨j,J,hn⟩:=oY T.tb hs;obtain⟨N,h1,h2⟩:=ED T.tb.msk J (Va.st t.mask h);refine⟨N,?_,by rw[h2];exact hn⟩;have:t.mask<=511:=by rcases T.tb.msk with e|e|e|e<;>rw[e]<;>lia
 unfold SetTable.turns at h1;lia
theorem F9 (hu:A.units<cLine)(hk:(tK prog w).is s.heap (iK ns) b)(hS:SetAt w s.heap a es)(el:Js prog w s.heap es)(hz:es.size+1<=300)
 (h1:∀ tk,s.toks<=tk->(∃ e∈es.toList,∃ c,e.2=.ref c/\(tK prog w).is s.heap (iK ns) c)->Q false { s with toks:=tk })
 (h2:∀ tk h' es',s.toks<=tk->(∀ e∈es.toList,∀ c,e.2=.ref c->¬ (tK prog w).is s.heap (iK ns) c)->Heap.SameBut a s.heap h'->SetAt w h' a es'->Grown es es' ((tK prog w).hash (iK ns),.ref b)->Q true { s with heap:=h',toks:=tk }) :
 wpAny (model prog w) A (setAdd a (.ref b)) Q E s:=by
 obtain⟨o,ep,t,Z,hex,hd,T,sp,hpl,hle⟩:=hS;have hf:=Tbl.fits T (lu sp);unfold setAdd;refine LC ?_;refine J4 ((tK prog w).pyHash hu hk ?_);have htk:s.toks<=s.toks+(tK prog w).draws (iK ns):=Nat.le_add_right _ _;generalize s.toks+(tK prog w).draws (iK ns)=tk at htk;unfold setAddHashed setAddHashedIn;refine LC ?_;refine J4 (Lq (s:={ s with toks:=tk }) Z hd hf ?_);dsimp only;have hbs:byScan (.ref b) es=false:=by simp[byScan,Value.scannable]
 rw[hbs];simp only[Kq,K8];unfold setSearch;obtain⟨N,n1,n2⟩:=A_ T (lu sp) ((tK prog w).hash (iK ns));refine J4 (rq (s:={ s with toks:=tk }) Z hd T (lu sp) hu hk el (λhin=>?_) (λW j hj hjm hr=>?_) 100000 0 none rfl (λk hk'=>by lia) ⟨N,KF _,by lia,n2⟩)
 .exact J7 (h1 tk htk hin)
 .dsimp only;refine J4 (Lq (s:={ s with toks:=tk }) Z hd hf ?_);dsimp only;obtain⟨T',em,ez⟩:=F4 T hj hjm (v:=Value.ref b) hr;have O:(t.put j).1.plain=true:=by rw[sB T.tb];exact hpl
  have Y:(t.put j).1.led=!byT w:=by rw[sB T.tb];exact hle
  rw[O];simp only[Mb];refine J4 (F7 (s:={ s with toks:=tk }) hk ?_);simp only[Mb];have hp:(t.put j).2<=es.size:=by rw[xN,<- T.len];exact(fE j T.tb.ris).1
  have g:=y_ es (t.put j).2 ((tK prog w).hash (iK ns),Value.ref b) hp;refine J4 (wpAny_storeSet_of (s:={ s with toks:=tk }) Z hd ?_ (by rw[g.size,KL];lia));obtain⟨o1,q1,q2,q3⟩:=rA (SetTable.insertAt es (t.put j).2 ((tK prog w).hash (iK ns),Value.ref b)) (t.put j).1 Z hex hd;have sb:=La s.heap a (Obj.putSet (SetTable.insertAt es (t.put j).2 ((tK prog w).hash (iK ns),Value.ref b)) (t.put j).1);have fill:(t.put j).1.fill=es.size+1:=by unfold SetTable.fill;rw[T'.tb.dum,ez,T.len];rfl
  by_cases J:(t.put j).1.tooFull=true
  .rw[J];simp only[Mv,LK,Mb];unfold SetTable.tooFull at J;rw[fill,em]at J;have J:(es.size+1)*5>=t.mask*3:=by simpa using J
   have sp':es.size*5<t.mask*3:=by rw[<- T.len];exact sp
   obtain⟨m,m1,m2,m3⟩:=wB T.tb.msk sp' J hz;have le':(t.put j).1.place.size<=(t.put j).1.mask:=by
    rw[ez,em];unfold rj at sp;have:t.mask>=7:=by rcases T.tb.msk with e|e|e|e<;>rw[e]<;>lia
    lia
   refine J4 (A9 (s:={ s with heap:=s.heap.update a (Obj.putSet (SetTable.insertAt es (t.put j).2 ((tK prog w).hash (iK ns),Value.ref b)) (t.put j).1),toks:=tk }) q1 q2 q3 (Tbl.fits T' le') m2 m1 (by rw[g.size];exact m3) O Y λes' t' L sa=>?_);exact J7 (h2 tk _ es' htk W (sb.trans (La _ a _)) sa (g.laid L))
  .have J:(t.put j).1.tooFull=false:=by simpa using J
   rw[J];simp only[LW,Kq,K8];refine J7 (h2 tk _ _ htk W sb ⟨o1,_,_,q1,q2,q3,T',?_,O,Y⟩ g);unfold SetTable.tooFull at J;unfold rj;rw[fill]at J;rw[ez,T.len];simpa using J
end
noncomputable abbrev TItem:=List Int×Addr
theorem wC (h:iK a=iK b):a=b:=by
 induction a generalizing b with
 |nil=>cases b with
  |nil=>rfl
  |cons _ _=>cases h
 |cons x a J=>cases b with
  |nil=>cases h
  |cons y b=>simp only[iK,Kc,List.cons.injEq]at h;rw[Ob h.1,J h.2]
section
variable {prog:Oo}{w:World}
structure SInv (prog:Oo) (w:World) (es:Array (Int×Oq)) (xs:List TItem):Prop where
 el:∀ e∈es.toList,∃ x∈xs,e=((tK prog w).hash (iK x.1),Value.ref x.2)
 sz:es.size<=xs.length
 pw:es.toList.Pairwise λe e'=>∀ x x':TItem,e=((tK prog w).hash (iK x.1),Value.ref x.2)->e'=((tK prog w).hash (iK x'.1),Value.ref x'.2)->x∈xs->x'∈xs->x.1≠x'.1
 all:∀ x∈xs,∃ y∈xs,y.1=x.1/\((tK prog w).hash (iK y.1),Value.ref y.2)∈es.toList
variable {A:Os}{R:Result->Om->Prop}{I:Addr}{fp wr:List Addr}{G:Array GenState->Array GenState->Prop}{n:Nat}{P:Nat->Oq->Prop}{St:Nat->Om->Prop}
theorem SInv.els (v:SInv prog w es xs)(J:∀ x∈xs,(tK prog w).is hb (iK x.1) x.2)(K:∀ b o,hb.get? b=some o->h.get? b=some o):Js prog w h es:=λe L=>by obtain⟨x,h1,rfl⟩:=v.el e L;exact⟨x.1,x.2,rfl,kd (J x h1) K⟩
def Jb (xs:List TItem):Prop:=∀ x∈xs,∀ y∈xs,x.2=y.2->x.1=y.1
theorem SInv.seen (v:SInv prog w es xs)(Y:∃ y∈xs,y.1=x.1)(un:Jb (xs++[x])):SInv prog w es (xs++[x]):=by
 refine⟨λe he=>?_,?_,?_,λy hy=>?_⟩
 .obtain⟨z,h1,h2⟩:=v.el e he;exact⟨z,KC _ h1,h2⟩
 .have:=v.sz;simp;lia
 .refine L6 (λ{a b} ha hb Z z z' e1 e2 m1 m2=>?_) v.pw;obtain⟨y,y1,W⟩:=v.el a ha;obtain⟨L,O,J⟩:=v.el b hb;have q1:z.2=y.2:=by rw[e1]at W;simp only[ML,MA]at W;exact W.2
  have q2:z'.2=L.2:=by rw[e2]at J;simp only[ML,MA]at J;exact J.2
  rw[un z m1 y (KC _ y1) q1,un z' m2 L (KC _ O) q2];exact Z y L W J y1 O
 .rcases Kr.mp hy with hy|hy
  .obtain⟨z,h1,h2⟩:=v.all y hy;exact⟨z,KC _ h1,h2⟩
  .rw[Km]at hy;subst hy;obtain⟨L,h1,h2⟩:=Y;obtain⟨z,g1,g2,g3⟩:=v.all L h1;exact⟨z,KC _ g1,g2.trans h2,g3⟩
theorem SInv.new (v:SInv prog w es xs)(hin:¬ ∃ y∈xs,y.1=x.1)(un:Jb (xs++[x]))(g:Grown es es' ((tK prog w).hash (iK x.1),.ref x.2)):SInv prog w es' (xs++[x]):=by
 have hx:x∈xs++[x]:=KD _ (Km.mpr rfl);refine⟨λe he=>?_,?_,?_,λy hy=>?_⟩
 .rcases (g.mem e).mp he with rfl|he
  .exact⟨x,hx,rfl⟩
  .obtain⟨z,h1,h2⟩:=v.el e he;exact⟨z,KC _ h1,h2⟩
 .have:=v.sz;rw[g.size];simp;lia
 .refine g.pw _ (λa b O z W e1 e2 Y Z h=>O W z e2 e1 Z Y h.symm) ?_ ?_
  .refine L6 (λ{a b} ha hb O z W e1 e2 Y Z=>?_) v.pw;obtain⟨y,y1,L⟩:=v.el a ha;obtain⟨y',y1',J⟩:=v.el b hb;have q1:z.2=y.2:=by rw[e1]at L;simp only[ML,MA]at L;exact L.2
   have q2:W.2=y'.2:=by rw[e2]at J;simp only[ML,MA]at J;exact J.2
   rw[un z Y y (KC _ y1) q1,un W Z y' (KC _ y1') q2];exact O y y' L J y1 y1'
  .intro e he z W e1 e2 Y Z h;obtain⟨y,y1,L⟩:=v.el e he;have q1:z.2=y.2:=by rw[e1]at L;simp only[ML,MA]at L;exact L.2
   have q2:W.2=x.2:=by simp only[ML,MA]at e2;exact e2.2.symm
   have a1:=un z Y y (KC _ y1) q1;have a2:=un W Z x hx q2;exact hin ⟨y,y1,by rw[<- a1,<- a2];exact h⟩
 .rcases Kr.mp hy with hy|hy
  .obtain⟨z,h1,h2,h3⟩:=v.all y hy;exact⟨z,KC _ h1,h2,(g.mem _).mpr (.inr h3)⟩
  .rw[Km]at hy;subst hy;exact⟨y,hx,rfl,(g.mem _).mpr (.inl rfl)⟩
theorem lw (W:WalksS prog w A.in1 I fp wr G n P St)(S:Addr)(hSf:S∉fp)(hu:A.in1.units<cLine)(L:Heap)(hbS:L.get? S=none)(hbw:∀ b∈wr,L.get? b=none)(its:List TItem)(hn:its.length=n)
 (hval:∀ i v,P i v->∃ x,its[i]?=some x/\v=.ref x.2) (his:∀ x∈its,(tK prog w).is L (iK x.1) x.2) (hz:n<=300) :
 ∀(k i:Nat)(s:Om)(es:Array (Int×Oq)),n-i=k->i<=n->St i s->(∀ b o,L.get? b=some o->s.heap.get? b=some o)->SetAt w s.heap S es->SInv prog w es (its.take i)->
  (∀ s' es',Moved (S::wr) G s s'->SetAt w s'.heap S es'->SInv prog w es' its->R (.ok (.ret .none)) s')->
  codeAny (model prog w) A (.builtin "set.update.loop" ⟨[.ref S,.ref I],[]⟩) R s:=by
 have hSw:S∉wr:=λh=>hSf (W.sub _ h);have O:∀ b∈wr,b∈S::wr:=λb L=>J8 _ L;have uni:Jb its:=λx hx y hy e=>wC ((tK prog w).inj (his x hx) (by rw[e];exact his y hy));intro k;induction k with
 |zero=>
  intro i s es hk hi hst K hS v hR;have hin:i=n:=by lia
  subst hin;refine MU M_ ?_;rw[NS LA _];show wpAny _ A.in1 (pyNext (.ref I) >>= _) _ _ s;refine J4 (W.done s _ _ hst λs' hm=>?_);have v':SInv prog w es its:=by rw[Lg (by lia)]at v;exact v
  have hR':=hR s' es (hm.mono O) (hS.keep λo e=>hm.heap S o hSw e) v';show wpAny _ A.in1 (ret Value.none) _ _ s';exact J7 hR'
 |succ k ih=>
  intro i s es hk hi hst K hS v hR;have hlt:i<n:=by lia
  have htk:its.take (i+1)=its.take i++[its[i]'(by lia)]:=by rw[List.take_append_getElem]
  refine MU M_ ?_;rw[NS LA _];show wpAny _ A.in1 (pyNext (.ref I) >>= _) _ _ s;refine J4 (W.item i s _ _ hlt hst λu s' hP hst' hm=>?_);obtain⟨x,hx,rfl⟩:=hval i u hP;have hxe:its[i]'(by lia)=x:=by rw[KQ (by lia)]at hx;exact Kx hx
  have hxm:x∈its:=K3 hx;rw[hxe]at htk;have sub:∀ y∈its.take i++[x],y∈its:=by rw[<- htk];exact λy hy=>Lw hy
  have un:Jb (its.take i++[x]):=λy hy z hz=>uni y (sub y hy) z (sub z hz);have K':∀ b o,L.get? b=some o->s'.heap.get? b=some o:=λb o e=>hm.heap b o (λz=>by rw[hbw b z]at e;cases e) (K b o e);have hS':=hS.keep λo e=>hm.heap S o hSw e;have hx':∀ y∈its.take i,(tK prog w).is L (iK y.1) y.2:=λy hy=>his y (Lw hy);have el:=v.els hx' K';have hes:es.size+1<=300:=by have:=v.sz;rw[LP]at this;lia
  show wpAny _ A.in1 (holding [Value.ref x.2] (setAdd S (.ref x.2)) >>= _) _ _ s';refine J4 (LC ?_);have keyed:∀ e∈es.toList,∀ c,e.2=.ref c->(tK prog w).is s'.heap (iK x.1) c->∃ y∈its.take i,y.1=x.1:=λe he c hc hh=>by
   obtain⟨y,y1,y2⟩:=v.el e he;have:c=y.2:=by rw[y2]at hc;injection hc with hc;exact hc.symm
   subst this;exact⟨y,y1,wC ((tK prog w).inj (kd (hx' y y1) K') hh)⟩
  refine F9 hu (kd (his x hxm) K') hS' el hes (λtk J hin=>?_) λtk h' es' J hout hsb hSn g=>?_
  .obtain⟨e,he,c,hc,hh⟩:=hin;refine J7 ⟨plainId_quiet LA _,ih (i+1) _ es (by lia) hlt (W.frame _ s' _ _ hst' J λb L o e=>e) K' hS' (by rw[htk];exact v.seen (keyed e he c hc hh) un) λs'' Y Z hS'' v''=>?_⟩;exact hR s'' Y (Moved.trans W.gtrans ((hm.mono O).then_heap J λb o L e=>e) Z) hS'' v''
  .have hnin:¬ ∃ y∈its.take i,y.1=x.1:=by rintro⟨y,y1,y2⟩;obtain⟨z,z1,z2,z3⟩:=v.all y y1;exact hout _ z3 z.2 rfl (by rw[<- y2,<- z2];exact kd (hx' z z1) K')
   have K2:∀ b o,L.get? b=some o->h'.get? b=some o:=λb o e=>(hsb.2 b (λz=>by subst z;rw[hbS]at e;cases e)).trans (K' b o e);refine J7 ⟨plainId_quiet LA _,ih (i+1) _ es' (by lia) hlt (W.frame _ s' _ _ hst' J λb L o e=>?_) K2 hSn (by rw[htk];exact v.new hnin un g) λs'' Y Z hS'' v''=>?_⟩
   .rw[hsb.2 b (λh:b=S=>hSf (by rw[<- h];exact L))];exact e
   .refine hR s'' Y (Moved.trans W.gtrans ((hm.mono O).then_heap J λb o L e=>?_) Z) hS'' v'';rw[hsb.2 b (λh:b=S=>L (by rw[h];exact Kj))];exact e
end
noncomputable abbrev setNew (led:Bool):Obj:={ cls:=.type "set",dict:=none,data:=.set #[] 0 (.fresh 0 0 led) }
theorem za (e:h.get? a=some (setNew (!byT w))):SetAt w h a #[]:=by refine⟨_,0,_,e,⟨rfl,rfl,rfl⟩,rfl,⟨⟨.inl rfl,rfl,List.Pairwise.nil,λj J=>nomatch J⟩,rfl,λq L=>nomatch L⟩,?_,rfl,rfl⟩;show 0*5<7*3;decide
section
variable {prog:Oo}{w:World}{A:Os}{E:Oq->Om->Prop}{s:Om}
theorem qG (a:Oq)(h:Q₁ (.ref s.heap.objs.size) { s with heap:=s.heap.push (setNew (!byT w)) }) :
 codeAny (model prog w) A (.call (.builtin "set.__new__") ⟨[.type "set",a],[]⟩) (wants Q₁ E) s:=by
 refine codeAny_of_tree (show wpAny _ A.in1 (do checkBuiltinCall "set.__new__" ⟨[.type "set",a],[]⟩;again (.builtin "set.__new__" ⟨[.type "set",a],[]⟩)) _ _ s from ?_);refine J4 (wpAny_of_eq (PySem.F.newCall_set_1 a) (J7 ⟨plainId_quiet PySem.F.plain_set_new _,MU PySem.F.entry_set_new ?_⟩));rw[NS PySem.F.plain_set_new _];unfold Builtin.«set.__new__» Builtin.Frozenset.newClass;have J:=sub_set_self;obtain⟨L,g,d,tk,os⟩:=s;dsimp only;wp_walk;refine wpAny_askSetting (J7 ?_);dsimp only;simp only[newObj];refine J4 (wpAny_alloc (J7 ?_));exact J7 h
theorem zb (hh:A.handled=none) (hu:A.units+64<cLine) (hl:s.heap.get? l=some { cls:=.type "list",data:=.seq items nl }) (hn:its.length=items.size) (hz:items.size<=300)
 (Z:∀(i:Nat)(v:Oq),items[i]?=some v->∃ x:TItem,its[i]?=some x/\v=.ref x.2) (his:∀ x∈its,(tK prog w).is s.heap (iK x.1) x.2)
 (h:∀(h':Heap)(tk:Nat)(es:Array (Int×Oq)),SetAt w h' s.heap.objs.size es->SInv prog w es its->(∀ b o,b<s.heap.objs.size->s.heap.get? b=some o->h'.get? b=some o)->Q (.ref s.heap.objs.size) { s with heap:=h',toks:=tk }) :
 wpAny (model prog w) A (call (.type "set") [.ref l]) Q E s:=by
 obtain⟨c,tl,hmro⟩:=PySem.F.called_set.mro;have hmade:=PySem.F.called_set.made;have hsub:=PySem.F.called_set.sub;refine wpAny_call (codeAny_of_tree ?_);show wpAny _ _ (callAny (.type "set") _) _ _ _;refine J7 ⟨Code.quiet_builtin _ (by decide +kernel),MU PySem.F.entry_type_call ?_⟩;rw[Around.under_plain (weight_type_call_type "set" [.ref l] []) rfl];have h1:=PySem.F.called_set.notType;have h2:=PySem.F.called_set.canCreate;have hct:=PySem.F.typeCall_set_1 (.ref l)
 repeat (any_goals (first|assumption|wp_step))
 refine NG (qG (.ref l) (E:=E) (Q₁:=λobj L=>obj=.ref s.heap.objs.size/\L={ s with heap:=s.heap.push (setNew (!byT w)) }) ⟨rfl,rfl⟩) λr L hr=>?_;rcases r with e|fl
 .exact hr
 cases fl with
 |ret obj=>
  obtain⟨rfl,rfl⟩:=hr;have hS:(s.heap.push (setNew (!byT w))).get? s.heap.objs.size=some (setNew (!byT w)):=Kh _ rfl;have hT:Shared.TypeIs { s with heap:=s.heap.push (setNew (!byT w)) } (.ref s.heap.objs.size) "set":=⟨_,hS,rfl⟩;have hli:=PySem.F.called_set.init.lookup;have hbi:=PySem.F.called_set.init.bind (.ref s.heap.objs.size)
  repeat (any_goals (first|assumption|wp_step))
  refine NG (codeAny_call_builtin (R:=wants (λr O=>r=.none/\∃ h' tk es,O={ s with heap:=h',toks:=tk }/\SetAt w h' s.heap.objs.size es/\SInv prog w es its/\
   (∀ b o,b<s.heap.objs.size->s.heap.get? b=some o->h'.get? b=some o)) E) PySem.F.called_set.init.plain PySem.F.entry_set_init (check_set_init_1 hT ?_)) λr₂ O J=>?_
  .have hol':(s.heap.push (setNew (!byT w))).get? l=some { cls:=.type "list",data:=.seq items nl }:=J5 _ hl;have hsls:=PySem.F.sub_list_set;have hslf:=PySem.F.sub_list_frozenset;have hne:(Value.type "list"==Value.type "dict")=false:=by decide
   have hl1:(s.heap.push (setNew (!byT w))).IsList l items:=⟨_,hol',rfl,nl,rfl⟩;unfold Builtin.«set.__init__» noKeywords Builtin.Frozenset.updateFrom;generalize hPI:pyIter=PI
   wp_walk
   subst hPI;refine MV hl1 (J4 (wpAny_runValue ?_));have hlS:l<s.heap.objs.size:=Kk hl;have hh3:A.in1.in1.in1.handled=none:=by simp[hh]
   have hneI:l≠(s.heap.push (setNew (!byT w))).objs.size:=by rw[Ms];exact Kt (MB hlS)
   have hno:∀ b,s.heap.objs.size<=b->s.heap.get? b=none:=λb W=>by
    cases q:s.heap.get? b with
    |none=>rfl
    |some o=>exact absurd (Kk q) (Nat.not_lt.mpr W)
   refine lw ((Walks.list hh3 _ l hneI items).toS) s.heap.objs.size ?hSf (by show A.units+1+1+1<cLine;lia) s.heap (hno _ (J6 _)) ?hbw its hn Z his hz (items.size-0) 0 _ #[] rfl (KF _) ⟨⟨_,Kh _ rfl,rfl,rfl⟩,(hl1.push _)⟩
    (λb o e=>J5 _ (J5 _ e)) (za (J5 _ hS)) ⟨λe he=>(nomatch he),KF _,List.Pairwise.nil,λx hx=>(nomatch hx)⟩ ?hR
   case hSf=>rw[Ms];simp only[Kb,Ko,Ol,not_or];exact⟨Kt (Mo _),Nh hlS⟩
   case hbw=>intro b W;simp only[Kb,Ko,Ol]at W;subst W;exact hno _ (by rw[Ms];lia)
   case hR=>intro s' es hm Y v;obtain⟨h',g',d',tk',os'⟩:=s';have eg:g'=s.gens:=hm.gens;have ed:d'=s.drawn:=hm.drawn;have eo:os'=s.os:=hm.os;subst eg ed eo;refine J7 (J7 ⟨rfl,h',tk',es,rfl,Y,v,λb o W e=>hm.heap b o ?_ (J5 _ (J5 _ e))⟩);simp only[Kb,Ko,Ol,not_or];exact⟨Kt W,by rw[Ms];exact Kt (MB W)⟩
  .rcases r₂ with e|fl₂
   .exact J
   cases fl₂ with
   |ret r=>
    obtain⟨rfl,h',tk,es,rfl,Y,v,hk'⟩:=J
    repeat (any_goals (first|assumption|wp_step))
    exact h _ _ _ Y v hk'
   |_=>exact J.elim
 |_=>exact hr.elim
end
theorem o6 {α:Type}:∀(l:List α)(i:Nat)(h:i<l.length),(l[i]::l.eraseIdx i).Perm l
 | [],i,h=>by simp at h
 |x::l,0,h=>Mh _
 |x::l,i+1,h=>by have J:=o6 l i (by simpa using h);have e:(x::l).eraseIdx (i+1)=x::l.eraseIdx i:=rfl;rw[e,List.getElem_cons_succ];exact(List.Perm.swap _ _ _).trans (List.Perm.cons x J)
theorem xP {α:Type}(next:Nat->Nat):∀(J k:Nat)(left:List α)(out:Array α),left.length=J->(pickOrder.go next J k left out).toList.Perm (out.toList++left)
 |0,k,left,out,h=>by have:left=[]:=LL.mp h;subst this;unfold pickOrder.go;simp
 |f+1,k,left,out,h=>by have hi:next k % left.length<left.length:=Oj _ (by lia);unfold pickOrder.go;rw[KQ hi];dsimp only;have L:=xP next f (k+1) (left.eraseIdx (next k % left.length)) (out.push left[next k % left.length]) (by rw[List.length_eraseIdx,Ka hi];lia);refine L.trans ?_;rw[Array.toList_push,Mj];exact List.Perm.append_left _ (o6 left _ hi)
theorem zc {α:Type}(next:Nat->Nat)(xs:Array α):(pickOrder next xs).toList.Perm xs.toList:=by have:=xP next xs.size 0 xs.toList #[] (by simp);unfold pickOrder;simpa using this
noncomputable def iT (w:World)(S:Addr)(ep:Nat)(es:Array (Int×Oq)):Array (Int×Oq):=if byT w then pickOrder (w.params.setOrder S ep) es else es
theorem uq (w:World)(S:Addr)(ep:Nat)(es:Array (Int×Oq)):(iT w S ep es).toList.Perm es.toList:=by
 unfold iT;split
 .exact zc _ _
 .exact Mh _
theorem lz (w:World)(S:Addr)(ep:Nat)(es:Array (Int×Oq)):(iT w S ep es).size=es.size:=by have:=(uq w S ep es).length_eq;simpa using this
noncomputable def cI (w:World)(t:SetTable):Nat->Nat
 |0=>0
 |i+1=>if byT w then 0 else t.place.getD i 0+1
theorem wD (T:Tb t):∀(i:Nat),i<=t.place.size->SetTable.below t.place (match i with|0=>0|i+1=>t.place.getD i 0+1)=i
 |0,_=>by
  obtain⟨a,b,c⟩:=fE 0 T.ris;dsimp only;rcases Nat.eq_zero_or_pos (SetTable.below t.place 0) with h|h
  .exact h
  .have:=b 0 (by lia) h;lia
 |i+1,hi=>by
  dsimp only;have e:t.place.getD i 0=t.place[i]:=by simp[Array.getD,show i<t.place.size by lia]
  rw[e];obtain⟨a,b,c⟩:=fE (t.place[i]+1) T.ris;rcases Nz (SetTable.below t.place (t.place[i]+1)) (i+1) with q|q|q
  .have h1:=c i (by lia) (by lia);lia
  .exact q
  .have h1:=b (i+1) (by lia) q;have h2:=Kw.mp T.ris i (i+1) (by simp;lia) (by simp;lia) (by lia);simp at h2;lia
theorem slot_setiter_next:Slot "set_iterator" "__next__" "set_iterator.__next__":=.of (owner:="set_iterator") (n:="__next__") (by rw[typeLookup_type,builtinLookup_eq_fast];kernel_rfl) (by decide +kernel) (by decide +kernel) (by decide +kernel) (by first|exact .inl (by decide +kernel)|exact .inr (by decide +kernel)) (by rw[isSubtype_type];kernel_rfl)
theorem fF:entryFor table "set_iterator.__next__"=some Builtin.«set_iterator.__next__»:=entryFor_of_fast (by kernel_rfl)
theorem fX (a:Oq):argsOk "set_iterator.__next__" ⟨[a],[]⟩:=by (unfold argsOk;kernel_rfl)
theorem qH:entryFor table "set.__iter__"=some Builtin.«frozenset.__iter__»:=entryFor_alias (id':="frozenset.__iter__") (by kernel_rfl) rfl (by decide +kernel) (by kernel_rfl)
def SetIt (h:Heap) (it S:Addr) (slot i n ep:Nat):Prop:=∃ o,h.get? it=some o/\o.cls=.type "set_iterator"/\o.data=.fields #[.int slot 0,.int i 0,.ref S,.int n 0,.int ep 0]
theorem SetIt.typeIs {s:Om} {it S:Addr} {slot i n ep:Nat} (x:SetIt s.heap it S slot i n ep):s.TypeIs (.ref it) "set_iterator":=let ⟨o,J,hc,_⟩:=x;⟨o,J,hc⟩
def mf (h:Heap)(S:Addr)(es:Array (Int×Oq))(ep:Nat)(t:SetTable):Prop:=∃ o,h.get? S=some o/\o.ExactSet/\o.data=.set es ep t
section
variable {prog:Oo}{w:World}{A:Os}{E:Oq->Om->Prop}{s:Om}
theorem wF (h:Q (byT w) s):wpAny (model prog w) A setsByText Q E s:=by unfold setsByText;exact J4 (wpAny_askSetting (J7 h))
theorem o7 (r:mf s.heap S es ep t)(T:Tbl t es)(hs:t.place.size<=t.mask)(W:t.plain=true)(J:t.led=!byT w)(hi:i<=es.size)
 (h:Q (((iT w S ep es)[i]?).map λe=>(e.2,cI w t (i+1))) s):wpAny (model prog w) A (setNext S (cI w t i) i ep) Q E s:=by
 obtain⟨o,Y,hex,hd⟩:=r;have hf:=Tbl.fits T hs;unfold setNext;refine J4 (Lq Y hd hf ?_);dsimp only;refine J4 (wF ?_);cases L:byT w with
 |true=>
  simp only[Mb];rw[J_ (by simp)];refine J4 ?_;unfold setWalk;refine J4 (Lq Y hd hf ?_);dsimp only;refine J4 (wF ?_);rw[L];simp only[Mb];refine J4 (wpAny_askSetting (J7 ?_));have e1:cI w t (i+1)=0:=by unfold cI;rw[L];rfl
  have e2:cI w t i=0:=by cases i with|zero=>rfl|succ i=>(unfold cI;rw[L];rfl)
  rw[e2];rw[e1]at h;unfold iT at h;rw[L]at h;exact J7 h
 |false=>
  simp only[Kq,K8];rw[L]at J;have J:t.led=true:=J;show wpAny _ _ (if (!t.plain&&decide (es.size>1))=true then _ else _) _ _ _;rw[W];simp only[K4,Lo,Kq,K8];show wpAny _ _ ((if (!t.led&&!es.isEmpty)=true then unsupported "set:maker-not-led" else pure ()) >>= λ_=>_) _ _ _;rw[J];simp only[K4,Lo,Kq,K8];refine J4 (J7 ?_);have e1:SetTable.below t.place (cI w t i)=i:=by
   have:=wD T.tb i (by rw[T.len];exact hi);cases i with
   |zero=>exact this
   |succ i=>unfold cI;rw[L];exact this
  have eo:iT w S ep es=es:=by unfold iT;rw[L];rfl
  rw[eo]at h;rw[e1];by_cases O:i<es.size
  .have g1:es[i]?=some es[i]:=by simp[O]
   have Z:i<t.place.size:=by rw[T.len];exact O
   have g2:t.place[i]?=some t.place[i]:=by simp[Z]
   rw[g1]at h;rw[g1,g2];have e2:cI w t (i+1)=t.place[i]+1:=by unfold cI;rw[L];simp[Array.getD,Z]
   rw[e2]at h;exact J7 h
  .have g1:es[i]?=none:=by simp;lia
   rw[g1]at h;rw[g1];exact J7 h
end
theorem fY:Slot "set_iterator" "__iter__" "set_iterator.__iter__":=.of (owner:="set_iterator") (n:="__iter__") (by rw[typeLookup_type,builtinLookup_eq_fast];kernel_rfl) (by decide +kernel) (by decide +kernel) (by decide +kernel) (by first|exact .inl (by decide +kernel)|exact .inr (by decide +kernel)) (by rw[isSubtype_type];kernel_rfl)
theorem kI:entryFor table "set_iterator.__iter__"=some Builtin.«dict_keyiterator.__iter__»:=entryFor_alias (id':="dict_keyiterator.__iter__") (by kernel_rfl) rfl (by decide +kernel) (by kernel_rfl)
theorem lA (a:Oq):argsOk "set_iterator.__iter__" ⟨[a],[]⟩:=by (unfold argsOk;kernel_rfl)
section
variable {prog:Oo}{w:World}{A:Os}{E:Oq->Om->Prop}{s:Om}
theorem rB {it S:Addr}{slot i n ep:Nat}{P:PySem.Fin->Om->Prop}{F:Oq->Om->Prop}(O:s.heap.get? it=some o)(hd:o.data=.fields #[.int slot 0,.int i 0,.ref S,.int n 0,.int ep 0])
 (r:mf s.heap S es ep t) (hf:t.fits es.size=true) (hn:n=es.size)
 (h:wpAny (model prog w) A (setNext S slot i ep) (λm s'=>match m with
   |some (x,next)=>wpAny (model prog w) A (do setField (.ref it) 0 (rawInt next);setField (.ref it) 1 (rawInt (i+1));ret x) P F s'
   |none=>wpAny (model prog w) A (do setField (.ref it) 2 .none;raiseNew (<- newExc (.type "StopIteration") [])) P F s') F s) :
 wpAny (model prog w) A (Builtin.«set_iterator.__next__» ⟨[.ref it],[]⟩) P F s:=by
 obtain⟨os,J,hex,L⟩:=r;unfold Builtin.«set_iterator.__next__» slotArgs;simp only[List.isEmpty_nil,K4,Kq,K8,KU,NA];refine J4 (J7 ?_);refine J4 (wpAny_fieldsOf O hd ?_);dsimp only;refine J4 ?_;unfold setEntries;refine J4 (Lq J L hf (J7 ?_));dsimp only;rw[J_ (by rw[hn];simp)];simp only[Nw];refine J4 (LO h (λm s' hm=>?_) λ_ _ e=>e);cases m with
 |none=>exact hm
 |some p=>obtain⟨x,next⟩:=p;exact hm
theorem qI {it S:Addr}(hne:S≠it)(hh:A.handled=none){es:Array (Int×Oq)}{ep:Nat}{t:SetTable}(T:Tbl t es)(hs:t.place.size<=t.mask)(hpl:t.plain=true)(hle:t.led=!byT w) :
 Walks prog w A it [it,S] [it] es.size (λi v=>((iT w S ep es)[i]?).map (·.2)=some v) (λi h=>SetIt h it S (cI w t i) i es.size ep/\mf h S es ep t) where
 sub:=λb hb=>by simp at hb;simp[hb]
 frame:=λi h h' st hk=>by obtain⟨⟨o,h1,r1⟩,⟨o2,h2,r2⟩⟩:=st;exact⟨⟨o,hk it (by simp) o h1,r1⟩,⟨o2,hk S (by simp) o2 h2,r2⟩⟩
 item:=λi s Q E hi st hQ=>by
  obtain⟨x1,x2⟩:=st;have hT:=x1.typeIs;obtain⟨o,ho,hc,hd⟩:=x1;have x2':=x2;obtain⟨o2,ho2,hex2,hd2⟩:=x2;unfold pyNext;refine J4 (wpAny_attempt (LH (name:=Str.ofString "__next__") hT slot_setiter_next (KS slot_setiter_next hT fF ?_ (fX _))));refine rB ho hd x2' (Tbl.fits T hs) rfl (o7 x2' T hs hpl hle (by lia) ?_);have hio:i<(iT w S ep es).size:=by rw[lz];exact hi
  have e1:(iT w S ep es)[i]?=some (iT w S ep es)[i]:=by simp[hio]
  rw[e1];show wpAny _ _ _ _ _ _;refine J4 (N7 ho hd (by simp) ?_);have d1:=Obj.data_mapFields hd (·.setIfInBounds 0 (rawInt ((cI w t (i+1):Nat):Int)));have ho1:=LF (Obj.mapFields (·.setIfInBounds 0 (rawInt ((cI w t (i+1):Nat):Int)))) ho (Obj.isFreed_of_fields d1);refine J4 (N7 (s:={ s with heap:=_ }) ho1 d1 (by simp) ?_);have d2:=Obj.data_mapFields d1 (·.setIfInBounds 1 (rawInt ((i:Int)+1)));have ho3:=LF (Obj.mapFields (·.setIfInBounds 1 (rawInt ((i:Int)+1)))) ho1 (Obj.isFreed_of_fields d2);have sb:=(La s.heap it (Obj.mapFields (·.setIfInBounds 0 (rawInt ((cI w t (i+1):Nat):Int))))).trans (La _ it (Obj.mapFields (·.setIfInBounds 1 (rawInt ((i:Int)+1)))));refine J7 ⟨_,rfl,J7 ?_⟩;refine hQ _ _ s.toks (by rw[e1];rfl) ⟨⟨_,ho3,?_,?_⟩,o2,(sb.2 S hne).trans ho2,hex2,hd2⟩ (λb o hb e=>(sb.2 b (λz=>hb (by simp[z]))).trans e)
  .exact(Obj.cls_mapFields ..).trans ((Obj.cls_mapFields ..).trans hc)
  .rw[d2];simp[rawInt]
 done:=λs Q E st hQ=>by
  obtain⟨x1,x2⟩:=st;have hT:=x1.typeIs;obtain⟨o,ho,hc,hd⟩:=x1;unfold pyNext;refine J4 (wpAny_attempt (LH (name:=Str.ofString "__next__") hT slot_setiter_next (KS slot_setiter_next hT fF ?_ (fX _))));refine rB ho hd x2 (Tbl.fits T hs) rfl (o7 x2 T hs hpl hle (J6 _) ?_);have e1:(iT w S ep es)[es.size]?=none:=by simp[lz]
  rw[e1];show wpAny _ _ _ _ _ _;refine J4 (N7 ho hd (by simp) ?_);refine J4 ?_;simp only[newExc,newTuple];refine J4 (K6 ?_ (by size_fits));refine J4 (m:=firstArgMember _ _) (wpAny_of_eq (a:=Value.none) (by first|rfl|(simp only[firstArgMember];rfl)) ?_);refine K6 ?_ (by size_fits);simp only[raiseNew];refine J4 (wpAny_handled ?_);rw[show A.in1.handled=none from hh];refine J4 (J7 (wpAny_throw ?_));refine J4 (wpAny_isInstance (T:="StopIteration") (b:=true) ⟨_,Kh _ rfl,rfl⟩ isSubtype_stop ?_);refine J7 (hQ _ s.toks λb o hb e=>?_);exact J5 _ (J5 _ (((La ..).2 b (λz=>hb (by simp[z]))).trans e))
 self:=λ_ _ _ _ st hQ=>by refine NB st.1.typeIs fY (KS fY st.1.typeIs kI ?_ (lA _));exact J7 ⟨_,rfl, "set_iterator",_,st.1.typeIs,slot_setiter_next.lookup,hQ⟩
theorem wG (r:mf s.heap S es ep t)(hf:t.fits es.size=true)(L:t.plain=true)
 (h:Q (.ref s.heap.objs.size) { s with heap:=s.heap.push { cls:=.type "set_iterator",data:=.fields #[.int 0 0,.int 0 0,.ref S,.int es.size 0,.int ep 0] } }):wpAny (model prog w) A (pyIter (.ref S)) Q E s:=by
 obtain⟨o,J,hex,hd⟩:=r;have hT:s.TypeIs (.ref S) "set":=⟨o,J,hex.1⟩;refine NB hT PySem.F.slot_set_iter (KS PySem.F.slot_set_iter hT qH ?_ (PySem.F.args_set_iter_1 _));unfold Builtin.«frozenset.__iter__» Builtin.Frozenset.slot0 slotArgs;simp only[List.isEmpty_nil,K4,Kq,↓reduceIte,bind_assoc,KU,NA];unfold Builtin.Frozenset.addrOf Builtin.Frozenset.sizeOf setEntries;refine J4 (J7 (J4 (J7 ?_)));simp only[bind_assoc];refine J4 (Lq J hd hf (J4 (J7 (J4 (J7 ?_)))));refine J4 ?_;unfold setDrawn;refine J4 (Lq J hd hf ?_);dsimp only;refine J4 (wF (J7 ?_));show wpAny _ _ (if (!byT w&&(!t.plain&&decide (es.size>1)))=true then _ else _) _ _ _;rw[L];simp only[K4,Lo,LW,Kq,K8];refine J4 (J7 ?_);refine J4 (wpAny_setEpoch_of J hd hf ?_);exact J4 (K6 (J7 ⟨_,rfl, "set_iterator",_,⟨_,Kh _ rfl,rfl⟩,slot_setiter_next.lookup,h⟩))
theorem Ba (hT:s.TypeIs (.ref S) "set") (h:Q false s):wpAny (model prog w) A (Builtin.List.listLengthHint (.ref S)) Q E s:=by
 unfold Builtin.List.listLengthHint;refine J4 (wpAny_specialOf hT PySem.F.slot_set_len.lookup ?_);dsimp only;have J:splitId "set.__len__"=some ("set", "__len__"):=by decide +kernel
 rw[J];dsimp only;refine J4 (wpAny_isInstance hT sub_set_self ?_);simp only[K4,Kq,K8];rw[Ka (by decide +kernel)];refine J4 (NI hT ?_);exact J7 h
theorem ur (r:mf s.heap S es ep t)(T:Tbl t es)(hs:t.place.size<=t.mask)(hpl:t.plain=true)(hle:t.led=!byT w)(hh:A.handled=none)(hz:es.size<=300)
 (h:∀ h' tk,s.heap.objs.size<h'.objs.size->(∀ b o,s.heap.get? b=some o->h'.get? b=some o)->Q ((iT w S ep es).toList.map (·.2)) { s with heap:=h',toks:=tk }):wpAny (model prog w) A (collect (.ref S)) Q E s:=by
 have hf:=Tbl.fits T hs;obtain⟨o,ho,hex,hd⟩:=r;have Y:S<s.heap.objs.size:=Kk ho;unfold collect;refine J4 (wpAny_runValue (MU entry_proto_collect' (show wpAny _ _ (do again (.builtin "list.__iadd__" ⟨[<- newList [],.ref S],[]⟩)) _ _ s from ?_)));refine J4 (wpAny_newList (J7 ⟨Code.quiet_builtin _ (by decide +kernel),MU entry_list_iadd' ?_⟩));show wpAny _ _ (Builtin.List.listExtendWith (.ref s.heap.objs.size) (.ref S) (.ref s.heap.objs.size)) _ _ { s with heap:=s.heap.push (seqObj "list" #[] 0) };have Z:(s.heap.push (seqObj "list" #[] 0)).get? S=some o:=J5 _ ho;have hT1:Shared.TypeIs { s with heap:=s.heap.push (seqObj "list" #[] 0) } (.ref S) "set":=⟨o,Z,hex.1⟩;unfold Builtin.List.listExtendWith;refine J4 (NI hT1 ?_);have q1:Builtin.List.listSameRef (.ref s.heap.objs.size) (.ref S)=false:=by simp[Builtin.List.listSameRef,Nh Y]
 have q2:(Value.type "set"==Value.type "list")=false:=by decide
 have q3:(Value.type "set"==Value.type "tuple")=false:=by decide
 simp only[q1,q2,q3,Bool.or_false,Kq,K8];refine J4 (wG ⟨o,Z,hex,hd⟩ hf hpl ?_);have hT2:Shared.TypeIs { s with heap:=(s.heap.push (seqObj "list" #[] 0)).push { cls:=.type "set_iterator",data:=.fields #[.int 0 0,.int 0 0,.ref S,.int es.size 0,.int ep 0] } } (.ref S) "set":=⟨o,J5 _ Z,hex.1⟩;refine J4 (LC (Ba hT2 ?_));rw[Ka (by decide +kernel)];refine J4 (wpAny_rule ?_);have hS0:((s.heap.push (seqObj "list" #[] 0)).push { cls:=.type "set_iterator",data:=.fields #[.int 0 0,.int 0 0,.ref S,.int es.size 0,.int ep 0] }).get? s.heap.objs.size=some (seqObj "list" #[] 0):=J5 _ (Kh _ rfl);refine J4 (show wpAny _ _ (updateSeq s.heap.objs.size (·.push .none) >>= λ_=>updateSeq s.heap.objs.size (·.pop)) _ _ _ from ?_);refine J4 (wpAny_updateSeq hS0 rfl ?_);have hS1:=LF (Obj.mapSeq (·.push Value.none)) hS0 rfl;refine wpAny_updateSeq (hz:=by seq_fits) hS1 rfl ?_;have hS2:=LF (Obj.mapSeq (·.pop)) hS1 rfl;generalize hH:(((s.heap.push (seqObj "list" #[] 0)).push { cls:=.type "set_iterator",data:=.fields #[.int 0 0,.int 0 0,.ref S,.int es.size 0,.int ep 0] }).update s.heap.objs.size (Obj.mapSeq (·.push Value.none))).update s.heap.objs.size (Obj.mapSeq (·.pop))=H2 at *;have oth:∀ b o,b≠s.heap.objs.size->((s.heap.push (seqObj "list" #[] 0)).push { cls:=.type "set_iterator",data:=.fields #[.int 0 0,.int 0 0,.ref S,.int es.size 0,.int ep 0] }).get? b=some o->H2.get? b=some o:=λb o hb e=>by rw[<- hH];exact(LS _ _ (K9 hb)).trans ((LS _ _ (K9 hb)).trans e)
 have old:∀ b o,s.heap.get? b=some o->H2.get? b=some o:=λb o e=>oth b o (Kt (Kk e)) (J5 _ (J5 _ e));have L:(s.heap.push (seqObj "list" #[] 0)).objs.size=s.heap.objs.size+1:=size_push' _ _;have hit:H2.get? (s.heap.objs.size+1)=some { cls:=.type "set_iterator",data:=.fields #[.int 0 0,.int 0 0,.ref S,.int es.size 0,.int ep 0] }:=oth _ _ (by lia) (by rw[<- L];exact Kh _ rfl);refine J7 ⟨plainId_quiet PySem.F.plain_extend_loop _,?_⟩;show codeAny _ _ (.builtin "list.extend.loop" ⟨[.ref s.heap.objs.size,.ref (s.heap.push (seqObj "list" #[] 0)).objs.size,.ref s.heap.objs.size],[]⟩) _ _;rw[L];have W:Walks prog w A.in1 (s.heap.objs.size+1) [s.heap.objs.size+1,S] [s.heap.objs.size+1] es.size (λi v=>((iT w S ep es)[i]?).map (·.2)=some v) (λi h=>SetIt h (s.heap.objs.size+1) S (cI w t i) i es.size ep/\mf h S es ep t):=qI (Kt (MB Y)) (by simp[hh]) T hs hpl hle;refine codeAny_extend_loopS W.toS (by rw[KL];lia) s.heap.objs.size (by simp only[Kb,Ko,Ol,not_or];exact⟨Kt (Mo _),Nh Y⟩) _ es.size 0 _ #[] _ rfl (KF _) ⟨⟨_,hit,rfl,rfl⟩,o,old S o ho,hex,hd⟩ (by rw[hS2];rfl) (ItemsOf.nil _) λs' J c hm hS' O=>?_;obtain⟨h',g',d',tk',os'⟩:=s';have eg:g'=s.gens:=hm.gens;have ed:d'=s.drawn:=hm.drawn;have eo:os'=s.os:=hm.os;subst eg ed eo;refine J4 (wpAny_load hS' ?_);have ea:J.toList=(iT w S ep es).toList.map (·.2):=by
  apply NC
  intro i;by_cases hi:i<J.size
  .have e1:J.toList[i]?=some J[i]:=by rw[KE];simp[hi]
   have e2:=O.2 i J[i] (by simp[hi]);rw[e1,Ks,KE];exact e2.symm
  .rw[LZ (by simpa using Of hi),LZ];rw[J9,K_,lz,<- O.1];exact Of hi
 show wpAny _ _ (pure J.toList) _ _ _;rw[ea];refine J7 (h h' tk' (Kk hS') λb o e=>hm.heap b o ?_ (old b o e));have:=Kk e;simp only[Kb,Ko,Ol,not_or];exact⟨Kt this,Kt (MB this)⟩
end
noncomputable def lexB:List Int->List Int->Bool
 | [],[]=>false
 | [],_::_=>true
 |_::_,[]=>false
 |a::x,b::y=>if a=b then lexB x y else decide (a<b)
theorem ib:∀ a:List Int,lexB a a=false
 | []=>rfl
 |a::x=>by unfold lexB;rw[Ka rfl];exact ib x
theorem sD:∀ a b c:List Int,lexB a b=true->lexB b c=true->lexB a c=true
 | [],[],_,h,_=>by cases h
 | [],_::_,[],_,h=>by cases h
 | [],_::_,_::_,_,_=>rfl
 |_::_,[],_,h,_=>by cases h
 |_::_,_::_,[],_,h=>by cases h
 |a::x,b::y,c::z,h1,h2=>by
  unfold lexB at h1 h2 ⊢;by_cases e1:a=b
  .subst e1;rw[Ka rfl]at h1;by_cases e2:a=c
   .subst e2;rw[Ka rfl]at h2 ⊢;exact sD x y z h1 h2
   .rw[J_ e2]at h2 ⊢;exact h2
  .rw[J_ e1]at h1;have h1:a<b:=by simpa using h1
   by_cases e2:b=c
   .subst e2;rw[J_ e1];simpa using h1
   .rw[J_ e2]at h2;have h2:b<c:=by simpa using h2
    rw[J_ (by lia)];simp;lia
theorem sE:∀ a b:List Int,a≠b->lexB a b=true\/lexB b a=true
 | [],[],h=>(h rfl).elim
 | [],_::_,_=>.inl rfl
 |_::_,[],_=>.inr rfl
 |a::x,b::y,h=>by
  unfold lexB;by_cases e:a=b
  .subst e;rw[Ka rfl,Ka rfl];exact sE x y λz=>h (by rw[z])
  .rw[J_ e,J_ (K9 e)];rcases Int.lt_or_gt_of_ne e with z|z
   .exact .inl (by simpa using z)
   .exact .inr (by simpa using z)
section
variable {prog:Oo}{w:World}{A:Os}{E:Oq->Om->Prop}{s:Om}
theorem xQ:∀{a b:List Int}{xs ys:List Oq}(i:Nat),ItemsAre (aE prog w) (iK a) xs->ItemsAre (aE prog w) (iK b) ys->Q (lexB a b) s->PySem.W.KatLex prog w A true (decide (xs.length<ys.length)) Q (xs.zip ys) i s
 | [],[],_,_,i,J,L,h=>by cases J;cases L;exact h
 | [],_::_,_,_,i,J,L,h=>by
  cases J;cases L with
  |cons h1 h2=>exact PySem.W.kat_nil h
 |_::_,[],_,_,i,J,L,h=>by
  cases L;cases J with
  |cons h1 h2=>exact PySem.W.kat_nil h
 |a::x,b::y,_,_,i,J,L,h=>by
  cases J with
  | @cons _ v1 _ vs1 h1 O=>
   cases L with
   | @cons _ v2 _ vs2 h2 Y=>
    obtain⟨t1,rfl⟩:=oj h1;obtain⟨t2,rfl⟩:=oj h2;rw[List.zip_cons_cons];refine PySem.W.kat_cons (wpAny_eqBool_int ?_);unfold lexB at h;by_cases e:a=b
    .subst e;rw[Ka rfl]at h;rw[beq_self_eq_true];refine PySem.W.kat_yes ?_;have:=xQ (i+1) O Y h;simpa using this
    .rw[J_ e]at h;have Z:(a==b)=false:=by simpa using e
     rw[Z];refine PySem.W.kat_no ?_;cases i with
     |zero=>exact oneLt_int h
     |succ i=>exact PySem.W.kat_one _ _ (lt_int h)
structure Tups (prog:Oo) (w:World) (h:Heap) (xs:List TItem):Prop where
 is:∀ x∈xs,(tK prog w).is h (iK x.1) x.2
 ne:∀ x∈xs,x.1≠[]
 nd:(xs.map (·.1)).Nodup
noncomputable def valsT (xs:List TItem):List Oq:=xs.map λx=>Value.ref x.2
noncomputable def cL (xs:List TItem)(i:Nat):List Int:=((xs[i]?).map (·.1)).getD []
theorem Df (t:Tups prog w s.heap xs):Lt xs.length λi j=>lexB (cL xs i) (cL xs j) where
 irr:=λi=>ib _
 tr:=λi j k=>sD _ _ _
 tot:=λi j hi hj e=>sE _ _ λz=>by
  have gi:cL xs i=(xs.map (·.1))[i]'(by simpa using hi):=by simp[cL,hi]
  have gj:cL xs j=(xs.map (·.1))[j]'(by simpa using hj):=by simp[cL,hj]
  rw[gi,gj]at z;rcases N6 e with q|q
  .exact Kw.mp t.nd i j (by simpa using hi) (by simpa using hj) q z
  .exact Kw.mp t.nd j i (by simpa using hj) (by simpa using hi) q z.symm
theorem Bb (t:Tups prog w s.heap xs):EE xs.length (λi j=>lexB (cL xs i) (cL xs j)) (PySem.W.kas_ask prog w A (tuples' true) (valsT xs)) s:=by intro i j C hi L h;have one:∀ k,k<xs.length->∃ x,(valsT xs).getD k Value.none=.ref x.2/\cL xs k=x.1/\x∈xs:=λk J=>⟨xs[k],by simp[valsT,J],by simp[cL,J],NO J⟩;obtain⟨x,ex,O,Y⟩:=one i hi;obtain⟨y,Z,ky,my⟩:=one j L;unfold PySem.W.kas_ask;rw[ex,Z];obtain⟨ox,ix,nx,hx,cx,dx,lx⟩:=t.is x Y;obtain⟨oy,iy,ny,hy,cy,dy,ly⟩:=t.is y my;refine PySem.W.kat_lt hx dx hy dy ?_;have h:C (lexB (cL xs i) (cL xs j)) s:=h;rw[O,ky]at h;have:=xQ (A:=A) 0 lx ly h;simpa using this
theorem ut:∀{xs:List TItem},(∀ x∈xs,(tK prog w).is h (iK x.1) x.2)->(∀ x∈xs,x.1≠[])->∃ fs:List Oq,PySem.W.KatTups h (valsT xs) fs/\fs.length=xs.length/\∀ v∈fs,∃ i t,v=Value.int i t
 | [],_,_=>⟨[],trivial,rfl,λv hv=>nomatch hv⟩
 |x::xs,h1,h2=>by
  obtain⟨fs,a,b,c⟩:=ut (λy L=>h1 y (J8 _ L)) λy L=>h2 y (J8 _ L);obtain⟨Z,ix,nx,Y,cx,dx,O⟩:=h1 x Kj;have J:=h2 x Kj;obtain⟨k,b'⟩:=x;dsimp only at J O Y;cases k with
  |nil=>exact(J rfl).elim
  |cons n ns=>
   generalize hl:ix.toList=l at O;cases O with
   | @cons _ v _ vs q1 q2=>
    obtain⟨t,rfl⟩:=oj q1;refine⟨.int n t::fs,⟨⟨b',Z,ix,nx,rfl,Y,cx,dx,?_⟩,a⟩,by simp[b],λv hv=>?_⟩
    .rw[<- KE,hl];rfl
    .rcases Kb.mp hv with rfl|hv
     .exact⟨n,t,rfl⟩
     .exact c v hv
theorem zd (t:Tups prog w s.heap xs)(J:0<xs.length)(h:Q (tuples' true) s):wpAny (model prog w) A (keyKind' (valsT xs).toArray) Q E s:=by
 obtain⟨fs,a,b,c⟩:=ut t.is t.ne;refine PySem.W.kat_kind (T:=.type "int") a (by lia) (λv L=>?_) (by decide) ?_
 .obtain⟨i,t,rfl⟩:=c v L;exact λA Q E s k q=>J7 q
 .have:(Value.type "int" != Value.type "tuple")=true:=by decide
  rw[this];exact h
end
noncomputable def fG (xs:List TItem)(i:Nat):TItem:=(xs[i]?).getD ([],0)
theorem uu:∀(xs:List TItem),(List.range xs.length).map (fG xs)=xs:=by
 intro xs;apply NC
 intro i;rw[Ks];by_cases h:i<xs.length
 .rw[NZ h,KQ h];simp[fG,h]
 .rw[LZ (by simpa using h),LZ (by simpa using h)];rfl
theorem uv (xs:List TItem)(i:Nat):cL xs i=(fG xs i).1:=by unfold cL fG;cases xs[i]?<;>rfl
section
variable {prog:Oo}{w:World}{A:Os}{E:Oq->Om->Prop}{s:Om}
theorem Tups.off (t:Tups prog w h xs) (O:h.get? a=some o) (hc:o.cls=.type "list") (k:∀ b o,b≠a->h.get? b=some o->h'.get? b=some o):Tups prog w h' xs:=by refine⟨λx W=>?_,t.ne,t.nd⟩;obtain⟨L,ix,nx,h1,J,r⟩:=t.is x W;refine⟨L,ix,nx,k x.2 L (λe=>?_) h1,J,r⟩;rw[e,O]at h1;cases h1;rw[hc]at J;exact absurd J (by decide)
theorem wH (J:N=xs.length)(pm:Pm N p):(p.toList.map (fG xs)).Perm xs:=by subst J;have:=List.Perm.map (fG xs) pm;rw[uu]at this;exact this
theorem Bc (pm:Pm xs.length p)(so:So (λi j=>lexB (cL xs i) (cL xs j)) p xs.length):(p.toList.map (fG xs)).Pairwise λx y=>lexB x.1 y.1=true:=by
 rw[LV,Kw];intro i j hi W L;have O:i<p.size:=by simpa using hi
 have J:j<p.size:=by simpa using W
 have:=so i j L (by rw[<- pm.size];exact J);dsimp only at this;rw[uv,uv]at this;have Y:bX p i=p.toList[i]:=by simp[bX,Array.getD,O]
 have Z:bX p j=p.toList[j]:=by simp[bX,Array.getD,J]
 rw[Y,Z]at this;exact this
theorem wI (pm:Pm xs.length p):(p.toList.map λi=>(valsT xs).getD i Value.none)=valsT (p.toList.map (fG xs)):=by unfold valsT;rw[KM];refine Ln λi hi=>?_;have hi:i<xs.length:=KA.mp (pm.mem_iff.mp hi);simp[fG,hi]
theorem ze (ho:s.heap.get? a=some (seqObj "list" (valsT xs).toArray n)) (t:Tups prog w s.heap xs) (h64:xs.length<64)
 (h:∀ ys h' c,ys.Perm xs->ys.Pairwise (λx y=>lexB x.1 y.1=true)->h'.get? a=some (seqObj "list" (valsT ys).toArray c)->(∀ b o,b≠a->s.heap.get? b=some o->h'.get? b=some o)->P (.done (.ret .none)) { s with heap:=h' }) :
 wpAny (model prog w) A (Builtin.«list.sort» ⟨[.ref a],[]⟩) P E s:=by
 have ha:a<s.heap.objs.size:=Kk ho;have L:(valsT xs).length=xs.length:=by simp[valsT]
 rw[list_sort_plain];refine J4 (listItems_at ho rfl (J4 (listUpdate_at ho rfl ?_ (by rw[Kf,L,KL];lia) (KF _))));obtain⟨e1,ho1⟩ : ∃ e1,(s.heap.update a (Obj.mapSeq λ_=>#[])).get? a=some (seqObj "list" #[] e1):=⟨_,get?_update_seq ho (λ_=>#[])⟩;refine J4 (seqEpoch_at ho1 rfl (J4 (wpAny_newTuple (J4 (wpAny_newList (LC ?_) (KF _))) (by show(valsT xs).length<=_;rw[L,KL];lia))));have lt1:a<(s.heap.update a (Obj.mapSeq λ_=>(#[]:Array Oq))).objs.size:=Kk ho1;have oth:∀ b o,b≠a->s.heap.get? b=some o->(((s.heap.update a (Obj.mapSeq λ_=>(#[]:Array Oq))).push (seqObj "tuple" (valsT xs).toArray 0)).push (seqObj "list" #[] 0)).get? b=some o:=λb o hb e=>J5 _ (J5 _ ((LS _ _ (K9 hb)).trans e));have O:(((s.heap.update a (Obj.mapSeq λ_=>(#[]:Array Oq))).push (seqObj "tuple" (valsT xs).toArray 0)).push (seqObj "list" #[] 0)).get? a=some (seqObj "list" #[] e1):=J5 _ (J5 _ ho1);show wpAny (model prog w) A _ P E { s with heap:=((s.heap.update a (Obj.mapSeq λ_=>(#[]:Array Oq))).push (seqObj "tuple" (valsT xs).toArray 0)).push (seqObj "list" #[] 0) };generalize (((s.heap.update a (Obj.mapSeq λ_=>(#[]:Array Oq))).push (seqObj "tuple" (valsT xs).toArray 0)).push (seqObj "list" #[] 0))=Z at O oth;dsimp only;have fin:∀(ys:List TItem)(out:Array Oq),ys.Perm xs->ys.Pairwise (λx y=>lexB x.1 y.1=true)->out=(valsT ys).toArray->P (.done (.ret .none)) { s with heap:=Z.update a (Obj.mapSeq λ_=>out) }:=λys out hp hw ho=>by subst ho;exact h ys _ _ hp hw (get?_update_seq O λ_=>(valsT ys).toArray) λb o hb e=>(LS _ _ (K9 hb)).trans (oth b o hb e)
 by_cases h2:(valsT xs).toArray.size<2
 .rw[Ka h2,Ka h2];refine J4 (J7 ?_);rw[StateT.run_pure];have hx2:xs.length<2:=by rw[Kf,L]at h2;exact h2
  have J:Array.map (λx:Keyed=>x.2) ((valsT xs).toArray.zip (valsT xs).toArray)=(valsT xs).toArray:=by apply Array.ext';simp[List.map_snd_zip]
  refine J4 (J7 ?_);dsimp only;refine J4 (seqEpoch_at O rfl (J4 (listUpdate_at O rfl ?_ (KF _) ?_)))
  .simp only[NA,Kq,K8];refine J7 (fin xs _ (Mh _) ?_ J)
   match xs,hx2 with
   | [],_=>exact List.Pairwise.nil
   | [x],_=>exact List.pairwise_singleton _ _
  .show(Array.map (λx:Keyed=>x.2) ((valsT xs).toArray.zip (valsT xs).toArray)).size<=_;rw[J,Kf,L,KL];lia
 .rw[J_ h2,J_ h2];have hx2:2<=xs.length:=by rw[Kf,L]at h2;lia
  have t6:Tups prog w Z xs:=t.off ho rfl oth;refine J4 (zd (s:={ s with heap:=Z }) t6 (by lia) ?_);refine J4 (LO (PySem.W.kat_run (s:={ s with heap:=Z }) (Q:=λY s'=>s'={ s with heap:=Z }/\∃ p:Array Nat,Pm xs.length p/\So (λi j=>lexB (cL xs i) (cL xs j)) p xs.length/\arrOf Y=p.map (PySem.W.kas_item ((valsT xs).toArray.zip (valsT xs).toArray))/\failedOf Y=none)
   (G:=λp s'=>s'={ s with heap:=Z }/\Pm xs.length p/\So (λi j=>lexB (cL xs i) (cL xs j)) p xs.length) rfl (by lia) (by lia) (λp Y s' _ a2 a3 g=>⟨g.1,p,g.2.1,g.2.2,a2,a3⟩) ?_) ?_ λ_ _ e=>e)
  .rw[L];exact Dc (Df (s:={ s with heap:=Z }) t6) (Bb (s:={ s with heap:=Z }) t6) hx2 λp pm so=>⟨rfl,pm,so⟩
  .rintro⟨⟨⟩,Y⟩ s' ⟨rfl,p,pm,so,har,hf⟩;dsimp only;have J:(arrOf Y).map (·.2)=(valsT (p.toList.map (fG xs))).toArray:=by rw[PySem.W.kat_snds rfl har,wI pm]
   rw[J];refine J4 (seqEpoch_at O rfl (J4 (listUpdate_at O rfl ?_ (KF _) ?_)))
   .rw[hf];simp only[NA,Kq,K8];exact J7 (fin _ _ (wH rfl pm) (Bc pm so) rfl)
   .show(valsT (p.toList.map (fG xs))).toArray.size<=_;have:=pm.size;simp[valsT,this];rw[KL];lia
def ke (prog:Oo) (w:World) (N:Nat):Prop:=∀(A:Os)(E:Oq->Om->Prop)(s:Om)(a:Addr)(n:Nat)(xs:List TItem)(P:PySem.Fin->Om->Prop),s.heap.get? a=some (seqObj "list" (valsT xs).toArray n)->Tups prog w s.heap xs->xs.length<=N->
 (∀ ys h' c,ys.Perm xs->ys.Pairwise (λx y=>lexB x.1 y.1=true)->h'.get? a=some (seqObj "list" (valsT ys).toArray c)->(∀ b o,b≠a->s.heap.get? b=some o->h'.get? b=some o)->P (.done (.ret .none)) { s with heap:=h' })->wpAny (model prog w) A (Builtin.«list.sort» ⟨[.ref a],[]⟩) P E s
theorem xR:ke prog w 63:=λ_ _ _ _ _ _ _ J t hz h=>ze J t (by lia) h
theorem uw {its:List TItem}:∀(l:List (Int×Oq)),(∀ e∈l,∃ x∈its,e=((tK prog w).hash (iK x.1),Value.ref x.2))->∃ zs:List TItem,l=zs.map (λx=>((tK prog w).hash (iK x.1),Value.ref x.2))/\∀ z∈zs,z∈its
 | [],_=>⟨[],rfl,λz hz=>nomatch hz⟩
 |e::l,h=>by
  obtain⟨x,J,rfl⟩:=h e Kj;obtain⟨zs,h1,h2⟩:=uw l λe L=>h e (J8 _ L);exact⟨x::zs,by rw[h1];rfl,λz hz=>by
   rcases Kb.mp hz with rfl|hz
   .exact J
   .exact h2 z hz⟩
structure SortedOf (its ys:List TItem):Prop where
 sub:∀ y∈ys,y∈its
 all:∀ x∈its,∃ y∈ys,y.1=x.1
 pw:ys.Pairwise λx y=>lexB x.1 y.1=true
theorem sF {Q:Oq->Om->Prop}(sa:SetAt w s.heap S es)(v:SInv prog w es its)(J:∀ x∈its,(tK prog w).is s.heap (iK x.1) x.2)(hne:∀ x∈its,x.1≠[])(hh:A.handled=none)(hN:N<=300)(hs:ke prog w N)(hz:es.size<=N)
 (h:∀ ys h' tk l c,SortedOf its ys->s.heap.objs.size<=l->h'.get? l=some (seqObj "list" (valsT ys).toArray c)->(∀ b o,s.heap.get? b=some o->h'.get? b=some o)->Q (.ref l) { s with heap:=h',toks:=tk }) :
 wpAny (model prog w) A (call (.builtin "sorted") [.ref S]) Q E s:=by
 obtain⟨o,ep,t,ho,hex,hd,T,sp,hpl,hle⟩:=sa;have pe:=uq w S ep es;obtain⟨zs,Z,L⟩:=uw (prog:=prog) (w:=w) (its:=its) (iT w S ep es).toList λe he=>v.el e (pe.mem_iff.mp he);have ev:(iT w S ep es).toList.map (·.2)=valsT zs:=by rw[Z,KM];rfl
 have hzl:zs.length=es.size:=by have:=LQ List.length Z;rw[J9,K_,lz]at this;exact this.symm
 have nd:(zs.map (·.1)).Nodup:=by have pw:=(pe.pairwise_iff (λ{x y} hxy a b e1 e2 m1 m2 z=>hxy b a e2 e1 m2 m1 z.symm)).mpr v.pw;rw[Z,LV]at pw;unfold List.Nodup;rw[LV];exact L6 (λ{a b} ha hb hab=>hab a b rfl rfl (L a ha) (L b hb)) pw
 refine Calls.call_function_entry kind_sorted plain_sorted entry_sorted (args_sorted1 _) ?_;unfold Builtin.«sorted»;refine J4 (m:=checkCount "sorted" 1 1 _) (J7 (J4 (ur ⟨o,ho,hex,hd⟩ T (lu sp) hpl hle (by simp[hh]) (Ku hz hN) λh1 O g1 k1=>?_)));rw[ev];refine J4 (wpAny_newList ?_ (by show(valsT zs).length<=_;simp only[valsT,J9];rw[hzl,KL];lia));have W:(h1.push (seqObj "list" (valsT zs).toArray 0)).get? h1.objs.size=some (seqObj "list" (valsT zs).toArray 0):=Kh _ rfl;have kk:∀ b o,s.heap.get? b=some o->(h1.push (seqObj "list" (valsT zs).toArray 0)).get? b=some o:=λb o e=>J5 _ (k1 b o e);have ge:s.heap.objs.size<=h1.objs.size:=Ng g1;have t1:Tups prog w (h1.push (seqObj "list" (valsT zs).toArray 0)) zs:=⟨λx Y=>kd (J x (L x Y)) kk,λx Y=>hne x (L x Y),nd⟩;refine J4 (LC (KS slot_list_sort ⟨_,W,rfl⟩ entry_list_sort ?body (args_list_sort _)))
 case body=>
  refine hs _ _ { s with heap:=h1.push (seqObj "list" (valsT zs).toArray 0),toks:=O } _ _ _ _ W t1 (by lia) λys h2 c2 hp hw hl2 k2=>⟨_,rfl,?_⟩;refine J7 ⟨_,rfl,h ys h2 O _ c2 ⟨λy hy=>L y (hp.mem_iff.mp hy),λx Y=>?_,hw⟩ ge hl2 λb o e=>k2 b o (λz=>?_) (kk b o e)⟩
  .obtain⟨y,y1,y2,y3⟩:=v.all x Y;have y4:((tK prog w).hash (iK y.1),Value.ref y.2)∈zs.map (λx=>((tK prog w).hash (iK x.1),Value.ref x.2)):=by rw[<- Z];exact pe.mem_iff.mpr y3
   obtain⟨z,z1,z2⟩:=Kg.mp y4;have z3:z.2=y.2:=by simp only[ML,MA]at z2;exact z2.2
   refine⟨z,hp.mem_iff.mpr z1,?_⟩;have:=(tK prog w).inj (J z (L z z1)) (by rw[z3];exact J y y1);rw[wC this,y2]
  .subst z;exact absurd (Kk e) (Nat.not_lt.mpr ge)
end
noncomputable def TupsIn (H:Hp):List V->List TItem->Prop:=Paired λv x=>v=.ref x.2/\H x.2=some (.tup ((iK x.1).map kV))
theorem TupsIn.get:∀{vs:List V}{us:List Oq}{its:List TItem},TupsIn H vs its->Vals vs us->its.length=us.length/\(∀(i:Nat)(v:Oq),us[i]?=some v->∃ x:TItem,its[i]?=some x/\v=.ref x.2)/\∀ x∈its,H x.2=some (.tup ((iK x.1).map kV))
 |_,_,_,.nil,.nil=>⟨rfl,λi v e=>by simp at e,λx hx=>nomatch hx⟩
 |_,_,_,.cons (a:=v) (b:=y) q t,.cons (b:=u) r s=>by
  obtain⟨a,b,c⟩:=TupsIn.get t s;obtain⟨rfl,q⟩:=q;obtain rfl:u=Value.ref y.2:=r;refine⟨by simp[a],λi v e=>?_,λx hx=>?_⟩
  .cases i with
   |zero=>simp at e;exact⟨y,rfl,e.symm⟩
   |succ i=>exact b i v (by simpa using e)
  .rcases Kb.mp hx with rfl|hx
   .exact q
   .exact c x hx
section
variable {X:Cx}
theorem zf (hc:X.calm=true) (O:X.A.units+64<cLine):CallR X (.type "set") (λxs H Q=>∃ l vs its,xs=[.ref l]/\Rd H l (.lst vs)/\TupsIn H vs its/\vs.length<=300/\
 ∀ p es,H p=none->SInv X.prog X.w es its->Q (.ref p) (aI H p (.ext λh=>SetAt X.w h p es))):=by
 intro pins s σ H xs us Q I r h;obtain⟨l,vs,its,rfl,W,Y,hz,q⟩:=h;obtain⟨u,rfl,Z⟩:=fV r;obtain rfl:u=Value.ref l:=Z;obtain⟨_,us,n,J,hg⟩:=(show ObjOk X.prog X.w H s.heap l (.lst vs) from W.ok I.hok);obtain⟨g1,g2,g3⟩:=Y.get J;refine zb (I.ok.hd hc) O hg (its:=its) (by rw[g1,Kf]) (by rw[Kf,<- J.length];exact hz) (λi v e=>g2 i v (by simpa using e)) (λx hx=>dj I.hok (g3 x hx)) λh' tk es L v hk=>?_;have hf:H s.heap.objs.size=none:=I.hok.fresh (J6 _);refine⟨.ref s.heap.objs.size,_,I.laid (a:=s.heap.objs.size) (o:=.ext λh=>SetAt X.w h s.heap.objs.size es) (t':=tk) (λb o e=>hk b o (Kk e) e) (J6 _) ?_,rfl,q _ es hf v⟩;exact⟨L,(let ⟨o,_,_,e,_⟩:=L;⟨o,e⟩),λh1 h2 hs k=>SetAt.keep hs k⟩
theorem sG (hc:X.calm=true) (hN:N<=300) (hs:ke X.prog X.w N):CallR X (.builtin "sorted") (λxs H Q=>∃ p es its,xs=[.ref p]/\H p=some (.ext λh=>SetAt X.w h p es)/\SInv X.prog X.w es its/\(∀ x∈its,H x.2=some (.tup ((iK x.1).map kV)))/\(∀ x∈its,x.1≠[])/\its.length<=N/\
 ∀ l ys,H l=none->SortedOf its ys->Q (.ref l) (aI H l (.lst (ys.map λy=>.ref y.2)))):=by
 intro pins s σ H xs us Q I r h;obtain⟨p,es,its,rfl,hp,v,ht,Y,hz,q⟩:=h;obtain⟨u,rfl,ru⟩:=fV r;obtain rfl:u=Value.ref p:=ru;obtain⟨hS,_,_⟩:=(show ObjOk X.prog X.w H s.heap p (.ext λh=>SetAt X.w h p es) from I.hok p _ hp);have Z:es.size<=N:=Ku v.sz hz;refine sF hS v (λx O=>dj I.hok (ht x O)) Y (I.ok.hd hc) hN hs Z λys h' tk l c so J hl hk=>?_;have hf:H l=none:=I.hok.fresh J;have hyl:ys.length<=N:=by
  have nd:(ys.map (·.1)).Nodup:=by unfold List.Nodup;rw[LV];exact so.pw.imp λ{a b} L e=>by rw[e,ib]at L;cases L
  refine Ku ?_ hz;have:∀(a b:List (List Int)),a.Nodup->(∀ x∈a,x∈b)->a.length<=b.length:=by
   intro a;induction a with
   |nil=>intro b _ _;exact KF _
   |cons x a ih=>intro b nd hs;have O:x∈b:=hs x Kj;have:=ih (b.erase x) (KB.mp nd).2 λy W=>(NQ (show y≠x from λe=>(KB.mp nd).1 (by rw[<- e];exact W))).mpr (hs y (J8 _ W));rw[Nj O]at this;have:0<b.length:=MP O;simp only[Kl];lia
  have:=this _ (its.map (·.1)) nd λk hk=>by obtain⟨y,W,rfl⟩:=Kg.mp hk;exact Kg.mpr ⟨y,so.sub y W,rfl⟩
  simpa using this
 refine⟨.ref l,_,I.laid (a:=l) (o:=.lst (ys.map λy=>.ref y.2)) (t':=tk) hk J ?_,rfl,q l ys hf so⟩;refine⟨by rw[J9,KL];lia,valsT ys,c,?_,hl⟩;clear so hl hyl;induction ys with
 |nil=>exact .nil
 |cons y ys ih=>exact .cons rfl ih
end
end L2
namespace L2
open PySem PySem.Spec PyProof.Rows
section
variable {prog:Oo}{w:World}{A:Os}{R:Result->Om->Prop}{I:Addr}{fp wr:List Addr}{G:Array GenState->Array GenState->Prop}{n:Nat}{P:Nat->Oq->Prop}{St:Nat->Om->Prop}
end
section
variable {prog:Oo}{w:World}{A:Os}{E:Oq->Om->Prop}{s:Om}
end
section
variable {X:Cx}
end
end L2
namespace L2
open PySem PySem.Spec PySem.Calls PyProof.Rows ST
section
variable {prog:Oo}{w:World}{A:Os}{E:Oq->Om->Prop}{s:Om}
end
section
variable {prog:Oo}{w:World}
variable {A:Os}{R:Result->Om->Prop}{I:Addr}{fp wr:List Addr}{G:Array GenState->Array GenState->Prop}{n:Nat}{P:Nat->Oq->Prop}{St:Nat->Om->Prop}
end
section
variable {prog:Oo}{w:World}{A:Os}{E:Oq->Om->Prop}{s:Om}
end
section
variable {X:Cx}
end
section
variable {prog:Oo}{w:World}{A:Os}{E:Oq->Om->Prop}{s:Om}
end
section
variable {X:Cx}
end
end L2
namespace L2
open PySem PySem.Spec PySem.Calls PyProof.Rows
section
variable {prog:Oo}{w:World}{A:Os}{E:Oq->Om->Prop}{s:Om}
theorem F_ {k:List Key}{dflt:Oq}{Q:Oq->Om->Prop}(hu:A.units<cLine)(k9:(tK prog w).is s.heap k a)(hm:s.heap.DictOfH (tK prog w) d xs)(hsz:xs.length<=sizeLine)
 (h1:∀ p,atKey xs k=some p->Q p.2 { s with toks:=s.toks+(tK prog w).draws k })
 (h2:atKey xs k=none->∀ h',h'.DictOfH (tK prog w) d (storedH xs k a dflt)->Heap.SameBut d s.heap h'->Q dflt { s with heap:=h',toks:=s.toks+(tK prog w).draws k }):wpAny (model prog w) A (dictSetDefault d (.ref a) dflt) Q E s:=by
 obtain⟨o,es,ep,L,hc,hd,Z,O,hn⟩:=hm;unfold dictSetDefault
 try with_reducible refine LC ?_
 refine J4 ((tK prog w).pyHash hu k9 (J4 (wpAny_dictFind_heap (knd:=tK prog w) (s:={ s with toks:=s.toks+(tK prog w).draws k }) hu k9 L hd Z O hn (λW=>?_) λj p hj=>?_)))
 .have J:=atKey_none_of_get W;have Y:k∉xs.map (·.1):=not_mem_keys_of_get W;refine J4 (wpAny_rule (J4 (wpAny_updateDictKeys (hz:=by have e:=size_of_entries Z;lia) (s:={ s with toks:=s.toks+(tK prog w).draws k }) L hd (J7 (h2 J _ ⟨_,_,ep+1,LF _ L (Obj.isFreed_of_dict (M7 hd _)),hc.mapDictKeys _,M7 hd _,?_,?_,?_⟩ (La ..))))))
  .rw[storedH_new J];simp[Z,entryOfKey]
  .rw[storedH_new J];intro x hx;rcases Kr.mp hx with hx|hx
   .exact(tK prog w).keeps (O x hx) L hd (La ..)
   .obtain rfl:=Km.mp hx;exact(tK prog w).keeps k9 L hd (La ..)
  .rw[storedH_new J,Ll,Mi];exact⟨hn,by simp,λx hx y hy e=>by simp only[Kc,Lx,Km]at hy;subst hy;exact Y (e▸hx)⟩
 .refine J4 (ND (s:={ s with toks:=s.toks+(tK prog w).draws k }) L hd ?_);rw[entry_at Z j,hj];exact J4 (wpAny_rule (J7 (h1 p (atKey_of_get hn hj))))
end
section
variable {X:Cx}
noncomputable def Dg:V->List V->Hp->VK->Prop:=λx xs H Q=>∃ a b k y kvs,x=.ref a/\xs=[.ref b,y]/\H b=some (.tup (k.map kV))/\H a=some (.dT kvs)/\kvs.length<sizeLine/\
 ((∃ v,cS kvs k=some v/\Q v H)\/(cS kvs k=none/\Q y (aI H a (.dT (cz kvs k y)))))
theorem rC (hu:X.A.units+64<cLine):FS X "dict.setdefault" Dg:=by
 intro pins s σ H x xs v us Q I rx rs q;obtain⟨a,b,k,y,kvs,rfl,rfl,hb,ha,hz,q⟩:=q;obtain rfl:v=Value.ref a:=rx;obtain⟨u1,u2,rfl,W,L⟩:=xA rs;obtain rfl:u1=Value.ref b:=W;obtain⟨z1,y1,vs,r1,d1⟩:=Ez I.hok ha;have k9:=dj I.hok hb;have hT:Shared.TypeIs s (.ref a) "dict":=by obtain⟨o,es,ep,ho,hc,_⟩:=d1;exact⟨o,ho,hc.1⟩
 refine KS Lh hT NN ?_ (NJ _ _ _);unfold Builtin.«dict.setdefault»;refine J4 ?_;unfold Builtin.Dict.keyAndDefault;refine J4 (NK hT (show wpAny _ _ (pure (a,Value.ref b,some u2)) _ _ s from J7 ?_));show wpAny _ _ (if (a==sysModules)=true then _ else (dictSetDefault a (Value.ref b) u2 >>= _)) _ _ s;rw[J_ (by rw[y1];exact KN)];have bw:vs.length<=sizeLine:=by rw[<- Nq r1];exact z1
 have O:=r1.val k;refine J4 (F_ (by show X.A.units+1<cLine;lia) k9 d1 bw (λp hp=>?_) λY h' Z hs=>?_)
 .rcases q with⟨v,J,q⟩|⟨J,q⟩
  .have:RelO (some v) (some p.2):=by rw[<- J];rw[hp]at O;exact O
   exact J7 ⟨_,rfl,v,H,I.tok _,this,q⟩
  .have:=O.isSome_eq;rw[J,hp]at this;cases this
 .rcases q with⟨v,J,q⟩|⟨J,q⟩
  .have:=O.isSome_eq;rw[J,Y]at this;cases this
  .obtain⟨o',es,ep,hq,h2,h3,h4,_,h5⟩:=Z;have hl:(cz kvs k y).length<=sizeLine:=by have:=fW kvs k y;lia
   have hok:ObjOk X.prog X.w (aI H a (.dT (cz kvs k y))) h' a (.dT (cz kvs k y)):=by refine⟨hl,y1,_,(r1.put k hb L).keeps λc ys ec=>?_,o',es,ep,hq,h2,h3,h4,h5⟩;rw[ac (Ak ec ha (λz=>nomatch z))];exact ec
   exact J7 ⟨_,rfl,y,_,lj (t':=s.toks+(tK X.prog X.w).draws k) I (by rw[ha];exact True.intro) hs ⟨o',hq⟩ hok,L,q⟩
noncomputable def Bd:V->List V->Hp->VK->Prop:=λx xs H Q=>∃ a b k y kvs,x=.ref a/\xs=[.ref b,y]/\H b=some (.tup (k.map kV))/\(H a=some (.dT kvs)\/(H a=some (.dK [])/\kvs=[]))/\kvs.length<sizeLine/\
 ((∃ v,cS kvs k=some v/\Q v H)\/(cS kvs k=none/\Q y (aI H a (.dT (cz kvs k y)))))
theorem o8 (W:X.A.units+64<cLine):FS X "dict.setdefault" Bd:=by
 intro pins s σ H x xs v us Q I Y rs q;obtain⟨a,b,k,y,kvs,e1,e2,J,ha,hz,q⟩:=q;rcases ha with ha|⟨ha,rfl⟩
 .exact rC W pins s σ H x xs v us Q I Y rs ⟨a,b,k,y,kvs,e1,e2,J,ha,hz,q⟩
 .have L:b≠a:=Ak J ha (λz=>nomatch z);refine rC W pins s σ (aI H a (.dT [])) x xs v us Q (I.retT ha) Y rs ⟨a,b,k,y,[],e1,e2,by rw[ac L];exact J,af,hz,.inr ?_⟩;rcases q with⟨v,O,q⟩|⟨O,q⟩
  .cases O
  .have:aI (aI H a (.dT [])) a (.dT (cz [] k y))=aI H a (.dT (cz [] k y)):=by
    funext c;by_cases h:c=a
    .subst h;rw[af,af]
    .rw[ac h,ac h,ac h]
   exact⟨O,by rw[this];exact q⟩
end
theorem KV.at (r:KV a b):∀(i:Nat) p q,a[i]?=some p->b[i]?=some q->p.1=q.1/\RelV p.2 q.2:=by
 induction r with
 |nil=>intro i p q e;simp at e
 |cons J t L=>
  intro i p q e1 e2;cases i with
  |zero=>simp at e1 e2;subst e1 e2;exact J
  |succ i=>exact L i p q (by simpa using e1) (by simpa using e2)
section
variable {X:Cx}{es:List Expr}{k0:Nat}{qA:Pos}
end
def RawD (h:Heap)(d:Addr)(es:Array DictEntry)(ep:Nat):Prop:=∃ o,h.get? d=some o/\o.ExactDict/\o.data=.dict es ep
section
variable {prog:Oo}{w:World}{A:Os}{E:Oq->Om->Prop}{s:Om}{d v it:Addr}{es:Array DictEntry}{ep i:Nat}{ok ov:Oq}
theorem RawD.ty (m:RawD s.heap d es ep):s.TypeIs (.ref d) "dict":=let ⟨o,h,c,_⟩:=m;⟨o,h,c.1⟩
theorem sH (d:Addr)(hd:(d==sysModules)=false) :
 MeetsIn prog w (Builtin.«dict.items» ⟨[.ref d],[]⟩) (λ_ R s=>(∃ es ep,RawD s.heap d es ep)/\R (.ok (.ret (.ref s.heap.objs.size))) { s with heap:=s.heap.push { cls:=.type "dict_items",data:=.fields #[.ref d] } }):=
 .of_wp λA R s ⟨⟨es,ep,m⟩,h⟩=>by unfold Builtin.«dict.items» Builtin.Dict.noArgs;refine J4 (J4 (NK m.ty (J7 ?_)));show wpAny _ _ (Builtin.Dict.showsAll d >>= _) _ _ s;unfold Builtin.Dict.showsAll;rw[J_ (by rw[hd];simp)];exact J4 (J7 (J4 (K6 (J7 ⟨_,rfl,h⟩))))
theorem ux (J:s.heap.IsItemsView v d)(m:RawD s.heap d es ep)
 (O:Q (.ref s.heap.objs.size) { s with heap:=s.heap.push { cls:=.type "dict_itemiterator",data:=.fields #[.none,.bool false,.ref d,.int 0 0,.int es.size 0,.int ep 0,.none,.none] } }) :
 wpAny (model prog w) A (pyIter (.ref v)) Q E s:=by
 obtain⟨W,e1,_,e2⟩:=id J;obtain⟨o,L,_,hd⟩:=id m;refine NB J.typeIs F.slot_dict_items_iter (KS F.slot_dict_items_iter J.typeIs F.entry_dict_items_iter ?_ (F.args_dict_items_iter_1 _));unfold Builtin.«dict_items.__iter__» Builtin.Dict_items.dictOf Builtin.Dict_items.newIterator;refine J4 (J7 (J4 (J4 (Nx e1 e2 (x:=.ref d) rfl (J7 (J4 (J4 (ND L hd (J4 (wpAny_dictEpoch L hd ?_))))))))));simp only[show Builtin.Dict_items.ownsTuple "dict_itemiterator"=true by decide,Mb];refine K6 (J7 ⟨_,rfl, "dict_itemiterator",_,⟨_,Kh _ rfl,rfl⟩,Le.lookup,?_⟩)
  (by simp only[sizeOk,Builtin.Dict_items.ownedTupleFields,Kf,Kp,Kl,KU,KL];lia)
 simpa[rawInt,Builtin.Dict_items.ownedTupleFields] using O
theorem uy (L:A.handled=none)(y:IsItemIter s.heap it d i es.size ep ok ov)(m:RawD s.heap d es ep)(hi:es.size<=i)(O:∀ h',Heap.ExtBut it s.heap h'->Q none { s with heap:=h' }):wpAny (model prog w) A (pyNext (.ref it)) Q E s:=by
 obtain⟨o,J,_,hd⟩:=id m;have hT:s.TypeIs (.ref it) "dict_itemiterator":=⟨_,y,rfl⟩;unfold pyNext;refine J4 (wpAny_attempt (LH (name:=Str.ofString "__next__") hT Le (KS Le hT F.entry_dict_itemiterator_next ?_ (F.args_dict_itemiterator_next_1 _))));refine J4 (J7 (J4 (J4 ?_)))
 first|refine J4 (L0 hT (J7 ?_))|refine J4 (Mw hT (J7 ?_))
 refine J4 (wpAny_fieldsOf y rfl ?_);simp only[show Builtin.Dict_items.ownsTuple "dict_itemiterator"=true by decide,Mb];show wpAny _ _ (if (Value.ref d==Value.none)=true then _ else _) _ _ s;rw[J_ (show ¬ ((Value.ref d==Value.none)=true) from KN)];refine J4 (J7 (J4 (ND J hd ?_)));rw[J_ (by simp)];refine J4 (J7 (J4 (wpAny_dictEpoch J hd ?_)));rw[J_ (by simp)];refine J7 ?_;simp only[show ¬ ((i:Int)<0) from by lia,K8,Nw,Array.getElem?_eq_none hi];refine J4 ?_
 first|refine J4 (L0 hT (J7 ?_))|refine J4 (Mw hT (J7 ?_))
 show wpAny _ _ (setField (.ref it) 2 .none >>= _) _ _ s;refine J4 (N7 y rfl (by simp) ?_);show wpAny _ _ (newExc (.type "StopIteration") [] >>= _) _ _ _;refine J4 ?_;simp only[newExc,newTuple];refine J4 (K6 ?_ (by size_fits));refine J4 (m:=firstArgMember _ _) (wpAny_of_eq (a:=Value.none) (by first|rfl|(simp only[firstArgMember];rfl)) ?_);refine K6 ?_ (by size_fits);simp only[raiseNew];refine J4 (wpAny_handled ?_);rw[show A.in1.handled=none from L];refine J4 (J7 (wpAny_throw ?_));refine J4 (wpAny_isInstance (T:="StopIteration") (b:=true) ⟨_,Kh _ rfl,rfl⟩ isSubtype_stop ?_);exact J7 (O _ (((La ..).extBut.push _).push _))
theorem wJ (y:IsItemIter s.heap it d i es.size ep ok ov)(m:RawD s.heap d es ep)(he:es[i]?=some e)
 (hQ:∀ h',IsItemIterOut h' it d (i+1) es.size ep e.key e.val s.heap.objs.size->h'.get? s.heap.objs.size=some { cls:=.type "tuple",data:=.seq #[e.key,e.val] }->
   (∀ b o,b≠it->s.heap.get? b=some o->h'.get? b=some o)->Q (some (.ref s.heap.objs.size)) { s with heap:=h' }):wpAny (model prog w) A (pyNext (.ref it)) Q E s:=by
 obtain⟨J,g,O,tk,os⟩:=s;obtain⟨o,ho,_,hd⟩:=id m;have hT:Shared.TypeIs ⟨J,g,O,tk,os⟩ (.ref it) "dict_itemiterator":=⟨_,y,rfl⟩;have hil:J.objs.size≠it:=Nh (Kk y);unfold pyNext;refine J4 (wpAny_attempt (LH (name:=Str.ofString "__next__") hT Le (KS Le hT F.entry_dict_itemiterator_next ?_ (F.args_dict_itemiterator_next_1 _))));refine J4 (J7 (J4 (J4 ?_)))
 first|refine J4 (L0 hT (J7 ?_))|refine J4 (Mw hT (J7 ?_))
 refine J4 (wpAny_fieldsOf y rfl ?_);simp only[show Builtin.Dict_items.ownsTuple "dict_itemiterator"=true by decide,Mb];show wpAny _ _ (if (Value.ref d==Value.none)=true then _ else _) _ _ _;rw[J_ (show ¬ ((Value.ref d==Value.none)=true) from KN)];refine J4 (J7 (J4 (ND ho hd ?_)));rw[J_ (by simp)];refine J4 (J7 (J4 (wpAny_dictEpoch ho hd ?_)));rw[J_ (by simp)];refine J7 ?_;simp only[show ¬ ((i:Int)<0) from by lia,K8,Nw,he];refine J4 ?_
 first|refine J4 (L0 hT (J7 ?_))|refine J4 (Mw hT (J7 ?_))
 refine J4 (Nv hT ?_);show wpAny _ _ (setField (.ref it) 3 (rawInt ((i:Int)+1)) >>= _) _ _ ⟨J,g,O,tk,os⟩;refine J4 (MS y (by simp) λh1 W s1=>?_);replace s1:Heap.SameBut it J h1:=s1;replace W:IsItemIter h1 it d (i+1) es.size ep ok ov:=by
  have q:((i+1:Nat):Int)=(i:Int)+1:=by lia
  unfold IsItemIter;rw[q];simpa[rawInt] using W
 have L:Shared.TypeIs ⟨h1,g,O,tk,os⟩ (.ref it) "dict_itemiterator":=⟨_,W,rfl⟩;refine J4 (LC (J4 (Nv L (J4 (Nv L ?_)))));show wpAny _ _ (Builtin.Dict_items.pairFromOwner (.ref it) 6 e.key e.val) _ _ ⟨h1,g,O,tk,os⟩;unfold Builtin.Dict_items.pairFromOwner;refine J4 (wpAny_newTuple ?_);have Y:IsItemIter (h1.push { cls:=.type "tuple",data:=.seq #[e.key,e.val] }) it d (i+1) es.size ep ok ov:=J5 _ W;have t2:(h1.push { cls:=.type "tuple",data:=.seq #[e.key,e.val] }).get? J.objs.size=some { cls:=.type "tuple",data:=.seq #[e.key,e.val] }:=by rw[<- s1.1];exact Kh _ rfl
 have k2:∀ b o,b≠it->J.get? b=some o->(h1.push { cls:=.type "tuple",data:=.seq #[e.key,e.val] }).get? b=some o:=λb o n q=>J5 _ (s1.extBut b o n q);have z1:h1.objs.size=J.objs.size:=s1.1;generalize h1.push { cls:=.type "tuple",data:=.seq #[e.key,e.val] }=h2 at Y t2 k2;show wpAny _ _ (Builtin.Dict_items.ownedTupleIsFree (.ref it) >>= _) _ _ ⟨h2,g,O,tk,os⟩;rw[z1];clear W s1 L z1 h1;refine J4 ?_;unfold Builtin.Dict_items.ownedTupleIsFree;refine J4 (Nx Y rfl (x:=.none) rfl (J7 ?_));simp only[Mb];refine J4 (Nx Y rfl (x:=ok) rfl (J4 (Nx Y rfl (x:=ov) rfl ?_)));refine J4 (MS Y (by simp) λh3 y3 s3=>?_);replace y3:IsItemIter h3 it d (i+1) es.size ep e.key ov:=y3;refine J4 (MS y3 (by simp) λh4 y4 s4=>?_);replace y4:IsItemIter h4 it d (i+1) es.size ep e.key e.val:=y4;refine J4 (MS y4 (by simp) λh5 y5 s5=>?_);replace y5:IsItemIterOut h5 it d (i+1) es.size ep e.key e.val J.objs.size:=y5;refine J4 (MS y5 (by simp) λZ y6 s6=>?_);replace y6:IsItemIterOut Z it d (i+1) es.size ep e.key e.val J.objs.size:=y6;have up:∀ b o,b≠it->h2.get? b=some o->Z.get? b=some o:=λb o n q=>Nc (show Heap.SameBut it h5 Z from s6) b o n (Nc (show Heap.SameBut it h4 h5 from s5) b o n (Nc (show Heap.SameBut it h3 h4 from s4) b o n (Nc (show Heap.SameBut it h2 h3 from s3) b o n q)));exact J4 (wpAny_letGo (J7 (J7 ⟨_,rfl,J7 (hQ Z y6 (up _ _ hil t2) λb o n q=>up b o n (k2 b o n q))⟩)))
end
noncomputable def HF (d:Addr)(o:Obj)(u:HO)(kvs:List (List Key×V)):It:=⟨λi H=>H d=some (.frz o u)/\i<kvs.length,λi H x H'=>∃ p b k v,H p=none/\x=.ref p/\H b=some (.tup (k.map kV))/\H'=aI H p (.tup [.ref b,v])/\kvs[i]?=some (k,v),λi H=>H d=some (.frz o u)/\kvs.length<=i⟩
theorem KT.at (r:KT H a b):∀(i:Nat) p q,a[i]?=some p->b[i]?=some q->p.1=q.1/\H q.2.1=some (.tup (p.1.map kV))/\RelV p.2 q.2.2:=by
 induction r with
 |nil=>intro i p q e;simp at e
 |cons J t L=>
  intro i p q e1 e2;cases i with
  |zero=>simp at e1 e2;subst e1 e2;exact J
  |succ i=>exact L i p q (by simpa using e1) (by simpa using e2)
theorem uz {P:Oo}{w:World}{K:On}{es:List Expr}{k0:Nat}{pos:Pos}(hu:u=.dT kvs\/kvs=[])(hex:o.ExactDict)(hdat:o.data=.dict en ep)(bw:en.size=kvs.length) :
 Turn P w K (.Tuple es k0 pos) (HF d o u kvs) [it] it (λi h=>∃ ok ov,IsItemIter h it d i en.size ep ok ov) where
 mem:=by simp
 obj:=λi h st b hb=>by
  have e:b=it:=by simpa using hb
  subst e;obtain⟨ok,ov,e⟩:=st;exact⟨_,e,λv z=>by cases z⟩
 keep:=λi h h' st k=>by obtain⟨ok,ov,e⟩:=st;exact⟨ok,ov,k it (by simp) _ e⟩
 item:=by
  intro X hP hw hK hc i pins s σ H E I hf st hg;subst hP hw hK;obtain⟨hd,hi⟩:=hg;obtain rfl:u=.dT kvs:=hu.elim id λz=>by rw[z]at hi;exact absurd hi (Nat.not_lt_zero _)
  obtain⟨ok,ov,st⟩:=st;obtain⟨eo,_⟩:=(show ObjOk X.prog X.w H s.heap d (.frz o (.dT kvs)) from I.hok d _ hd);obtain⟨_,_,xs,rel,o',es',ep',eo',_,hd',hes,_,_⟩:=kC I.hok (.inr ⟨o,hd⟩);rw[eo]at eo';cases eo';rw[hdat]at hd';cases hd';have fi:=hf it (by simp);have hk:kvs[i]?=some kvs[i]:=by simp[hi]
  have hxl:xs.length=kvs.length:=by rw[<- bw,size_of_entries hes]
  have hix:i<xs.length:=by lia
  have hx:xs[i]?=some xs[i]:=by simp[hix]
  obtain⟨ek,hb,rv⟩:=rel.at i _ _ hk hx;have he:en[i]?=some (entryOfKey (tupleKind (aE X.prog X.w)) xs[i]):=by rw[entry_at hes,hx];rfl
  refine wJ st ⟨o,eo,hex,hdat⟩ he λh' hout hT kp=>?_;refine⟨_,rfl,wpAny_letOwnedTupleGo_items hout λh'' hit'' hs''=>?_⟩;have keep2:∀ b o,b≠it->s.heap.get? b=some o->h''.get? b=some o:=λb o n1 q=>(hs''.2 b n1).trans (kp b o n1 q);have hTe:s.heap.objs.size≠it:=Nh (Kk st);have hT'':h''.get? s.heap.objs.size=some { cls:=.type "tuple",data:=.seq #[.ref xs[i].2.1,xs[i].2.2] }:=(hs''.2 _ hTe).trans hT;have fr:=I.hok.fresh (J6 _);have I1:Inv X pins σ (aI H s.heap.objs.size (.tup [.ref xs[i].2.1,kvs[i].2])) { s with heap:=h'' }:=by
   refine I.step (g':=s.gens) (d':=s.drawn) (ch:=[it]) (λb hb=>?_) (λb o _ _ hn q _=>keep2 b o (λz=>hn (by simp[z])) q)
    (λb o _ _ hn q _=>⟨o.slots,keep2 b o (λz=>hn (by simp[z])) q⟩) (λb o _ q hH=>by rw[ac (Kt (Kk q))];exact hH)
    (λb o hn q=>⟨o,keep2 b o (λz=>hn (by simp[z])) q⟩) (λb ys q=>by rw[ac (ah q fr)];exact q)
    (λb o' u' q=>by rw[ac (ah q fr)];exact q) (λb ps q=>⟨#[],by rw[ac (ah q fr)];simp[q]⟩) (λm hm=>?_) (λb u' q=>?_) I.bare
   .have:b=it:=by simpa using hb
    subst this;exact⟨fi.2.2.2.1,fi.2.1,fi.2.2.2.2.1,fi.2.2.2.2.2⟩
   .obtain⟨o,es',ep,ho',r⟩:=hm;exact⟨o,es',ep,keep2 _ o (K9 fi.2.1) ho',r⟩
   .by_cases hb:b=s.heap.objs.size
    .subst hb;rw[af]at q;cases q;exact⟨by show 2<=sizeLine;decide,[.ref xs[i].2.1,xs[i].2.2],.cons rfl (.cons rv .nil),⟨_,hT'',rfl,0,rfl⟩⟩
    .rw[ac hb]at q;refine(I.hok b u' q).stay (λc v hc' q'=>keep2 c v ?_ q') (λc r=>by rw[ac (ah r fr)];exact r) λc ys r=>by rw[ac (ah r fr)];exact r
     rcases hc' with z|z
     .rw[z];exact ah q fi.1
     .exact ah z fi.1
  refine⟨.ref s.heap.objs.size,_,I1,rfl,⟨_,xs[i].2.1,kvs[i].1,kvs[i].2,fr,rfl,hb,rfl,hk⟩,⟨_,_,hit''⟩,λb hb=>?_⟩;have:b=it:=by simpa using hb
  subst this;rw[ac (Kt (Kk st))];exact fi.1
 done:=by intro X hP hw hK hc i pins s σ H E I hf st hg;subst hP hw hK;obtain⟨hd,hi⟩:=hg;obtain⟨ok,ov,st⟩:=st;obtain⟨eo,_⟩:=(show ObjOk X.prog X.w H s.heap d (.frz o u) from I.hok d _ hd);obtain⟨f0,f1,f2,f3,f4,f5⟩:=hf it (by simp);exact uy (I.ok.hd hc) st ⟨o,eo,hex,hdat⟩ (by lia) λh' eb=>⟨rfl,I.turned (t':=s.toks) (λb o hb e=>eb b o hb e) f0 f1 f3 f4 f5⟩
 self:=λA i s Q E st h=>by obtain⟨ok,ov,st⟩:=st;have hT:s.TypeIs (.ref it) "dict_itemiterator":=⟨_,st,rfl⟩;refine NB hT F.slot_dict_itemiterator_iter (KS F.slot_dict_itemiterator_iter hT (entryFor_alias (id':="dict_keyiterator.__iter__") (by kernel_rfl) rfl (by decide +kernel) (by kernel_rfl):entryFor table "dict_itemiterator.__iter__"=some Builtin.«dict_keyiterator.__iter__») ?_ (F.args_dict_itemiterator_iter_1 _));show wpAny _ _ (ret (.ref it)) _ _ s;exact J7 ⟨_,rfl, "dict_itemiterator",_,hT,Le.lookup,h⟩
section
variable {X:Cx}{es:List Expr}{k0:Nat}{qA:Pos}
noncomputable def Jt (X:Cx)(tl:TE):TI:=λσ H R=>tl σ H λx H1=>∃ d kvs u,x=.ref d/\(u=.dT kvs\/(u=.dK []/\kvs=[]))/\((∃ o,H1 d=some (.frz o u)/\R (HF d o u kvs) H1)\/(H1 d=some u/\∀ o,(∀ o' v,X.H₀ d≠some (.frz o' v))->R (HF d o u kvs) (aI H1 d (.frz o u))))
theorem zg (hl:PE X l tl) (O:autoParam (attributeBase l "items" X.env (eval l X.env)=eval l X.env) Oy._auto_1) (W:autoParam ((apos.endLine==cpos.line)=true) Oy._auto_1):PI X (.Tuple es k0 qA) (.Call (.Attribute l "items" apos) [] [] cpos) (Jt X tl):=by
 intro pins s σ H R I h;refine wpAny_Call_method0_late O W (bM (hl pins s σ H _ I h) λv s1 ⟨x,H1,Z,r1,q1⟩=>?_);obtain⟨d,kvs,u,e,hu,q⟩:=q1;subst e;cases r1;have qz:ia u:=by rcases hu with rfl|⟨rfl,_⟩<;>exact True.intro
 have fin:∀(o:Obj)(H2:Hp),Inv X pins σ H2 s1->H2 d=some (.frz o u)->R (HF d o u kvs) H2->MethodOn X.prog X.w X.A "items" cpos (.ref d) [] (λv s1=>wpAny (model X.prog X.w) X.A (pyIter v) (Jj X pins σ (.Tuple es k0 qA) R) X.xe s1) X.xe s1:=λo H2 I2 e2 q2=>by
  obtain⟨Y,_⟩:=(show ObjOk X.prog X.w H2 s1.heap d (.frz o u) from I2.hok d _ e2);have key:(d==sysModules)=false/\∃ en ep,o.ExactDict/\o.data=.dict en ep/\en.size=kvs.length:=by
   rcases hu with rfl|⟨rfl,rfl⟩
   .obtain⟨_,hd,xs,rel,o',en,ep,L,hex,J,hes,_,_⟩:=kC I2.hok (.inr ⟨o,e2⟩);rw[Y]at L;cases L;exact⟨hd,en,ep,hex,J,by rw[size_of_entries hes,Nq rel]⟩
   .obtain⟨_,hd,vs,rel,o',en,ep,L,hex,J,_,hpr,_⟩:=kA I2.hok (.inr ⟨o,e2⟩);rw[Y]at L;cases L;refine⟨hd,en,ep,hex,J,?_⟩;have h1:=rel.length;have h2:=hpr.length;simp at h1 h2 ⊢;simpa[<- h1] using h2
  obtain⟨hd,en,ep,hex,J,bw⟩:=key;have hty:s1.TypeIs (.ref d) "dict":=⟨o,Y,hex.1⟩;have hnod:∀ a,Value.ref d=.ref a->∃ ob,s1.heap.get? a=some ob/\ob.dict=none:=λa e=>by cases e;exact⟨o,Y,hex.2.1⟩
  refine⟨"dict", "dict.items",KY,PySem.F.slot_dict_items,PySem.F.type_dict_items,hty,hnod,LR rfl (PySem.evalArgs_none ?_)⟩;refine Ni PySem.F.slot_dict_items hty PySem.F.entry_dict_items (PySem.F.args_dict_items_1 _) (sH d hd) ⟨⟨en,ep,o,Y,hex,J⟩,?_⟩;have I3:Inv X pins σ H2 { s1 with heap:=s1.heap.push { cls:=.type "dict_items",data:=.fields #[.ref d] } }:=I2.kept (t':=s1.toks) λb o e=>J5 _ e;have e3:({ s1 with heap:=s1.heap.push { cls:=.type "dict_items",data:=.fields #[.ref d] } }:Om).heap.get? d=some o:=J5 _ Y;generalize hs3:({ s1 with heap:=s1.heap.push { cls:=.type "dict_items",data:=.fields #[.ref d] } }:Om)=s3 at I3 e3;have hv:s3.heap.IsItemsView s1.heap.objs.size d:=by rw[<- hs3];exact⟨_,Kh _ rfl,rfl,rfl⟩
  show wpAny _ _ (pyIter (.ref s1.heap.objs.size)) _ _ _;refine ux hv ⟨o,e3,hex,J⟩ ?_;refine⟨s3.heap.objs.size,[s3.heap.objs.size],_,_,H2,rfl,I3.kept (t':=s3.toks) λb o e=>J5 _ e,uz (hu.imp id And.right) hex J bw,⟨_,_,Kh _ rfl⟩,λb hb=>?_,q2⟩;have e:b=s3.heap.objs.size:=by simpa using hb
  subst e;exact I3.fpOk (J6 _) (I3.hok.fresh (J6 _))
 rcases q with⟨o,e1,q⟩|⟨e1,q⟩
 .exact fin o H1 Z e1 q
 .have hob:∃ o,s1.heap.get? d=some o:=by
   rcases hu with rfl|⟨rfl,_⟩
   .obtain⟨_,_,_,_,o,_,_,ho,_⟩:=(show ObjOk X.prog X.w H1 s1.heap d (.dT kvs) from Z.hok d _ e1);exact⟨o,ho⟩
   .obtain⟨_,_,_,_,o,_,_,ho,_⟩:=(show ObjOk X.prog X.w H1 s1.heap d (.dK []) from Z.hok d _ e1);exact⟨o,ho⟩
  obtain⟨o,ho⟩:=hob;exact fin o _ (Z.frz e1 qz ho) af (q o (Z.nofrz e1 qz))
end
section
variable {X:Cx}
theorem xS:∀{vs:List V}{its:List Oq},vs.length=its.length->(∀(i:Nat) v u,vs[i]?=some v->its[i]?=some u->RelV v u)->Vals vs its
 | [],[],_,_=>.nil
 | [],_::_,e,_=>by cases e
 |_::_,[],e,_=>by cases e
 |v::vs,u::its,e,f=>.cons (f 0 v u rfl rfl) (xS (by simpa using e) λi w z a b=>f (i+1) w z (by simpa using a) (by simpa using b))
noncomputable def Dh (ta:TA):TE:=λσ H Q=>ta σ H λvs H1=>∃ j:Int,vs=[.int j]/\0<=j/\j<=1000/\∀ l,H1 l=none->Q (.ref l) (aI H1 l (.lst ((List.range j.toNat).map λk=>.int (k:Nat))))
theorem zh (hc:X.calm=true) (W:Gl X "list") (Y:X.mg "list"=none) (Z:bootBuiltins "list"=some (.type "list")) (hg:Gl X "range") (hm:X.mg "range"=none) (ha:PA X [a] ta) (hs:autoParam (starEach [a] X.env=[(false,eval a X.env)]) Oy._auto_1)
 (L:autoParam (starEach [.Call (.Name "range" p2) [a] [] pos2] X.env=[(false,eval (.Call (.Name "range" p2) [a] [] pos2) X.env)]) Oy._auto_1):PE X (.Call (.Name "list" p) [.Call (.Name "range" p2) [a] [] pos2] [] pos) (Dh ta):=by
 intro pins s σ H Q I h;refine Call_ (kG I W Y Z (LG ?_ L rfl));rw[L];show wpAny _ _ (spliced ((false,eval (.Call (.Name "range" p2) [a] [] pos2) X.env)::[])) _ _ s;refine Mq (Call_ (kG I hg hm boot_range (LG (bM (ha pos2 pins s σ H _ I h) λus s1 ⟨vs,H1,I1,r1,q1⟩=>?_) hs rfl)));obtain⟨j,e,j0,j1,q⟩:=q1;subst e;cases r1 with
 |cons r rr=>
  cases rr;obtain⟨t,rfl⟩:=r;refine call_range_1 (MW ?_);have O:Inv X pins σ H1 { s1 with heap:=s1.heap.push { cls:=.type "range",data:=.fields #[.int 0 s1.toks,.int j t,.int 1 (s1.toks+1)] },toks:=s1.toks+1+1 }:=I1.kept λb o e=>J5 _ e;have hr:IsRange ({ s1 with heap:=s1.heap.push { cls:=.type "range",data:=.fields #[.int 0 s1.toks,.int j t,.int 1 (s1.toks+1)] },toks:=s1.toks+1+1 }:Om).heap s1.heap.objs.size 0 j 1 s1.toks t (s1.toks+1):=Kh _ rfl;generalize ({ s1 with heap:=s1.heap.push { cls:=.type "range",data:=.fields #[.int 0 s1.toks,.int j t,.int 1 (s1.toks+1)] },toks:=s1.toks+1+1 }:Om)=s2 at O hr;have hn:Builtin.Range.rangeSize 0 j 1=(j.toNat:Nat):=by rw[rangeSize_one];split<;>lia
  refine call_list_range (O.ok.hd hc) hr (small_one (by lia) (by lia) (by lia) (by lia)) hn (by lia) λh' tk J c' kp e it=>?_;obtain⟨i1,i2⟩:=it;have rv:Vals ((List.range j.toNat).map λk=>.int (k:Nat)) J.toList:=by
   refine xS (by rw[J9,Lr,K_,i1]) λi v w ev ew=>?_;obtain⟨t',rfl⟩:=i2 i w (by rw[<- KE];exact ew);rw[Ks]at ev;have hi:i<j.toNat:=by have:=(Ke.mp ew).1;rw[K_,i1]at this;exact this
   rw[NZ hi]at ev;cases ev;exact⟨t',by congr 1;lia⟩
  have e:h'.get? s2.heap.objs.size=some { cls:=.type "list",dict:=none,data:=.seq J.toList.toArray c',slots:=#[] }:=by rw[Array.toArray_toList];exact e
  exact⟨.ref s2.heap.objs.size,_,O.laid (t':=tk) kp (J6 _) (show ObjOk X.prog X.w _ h' _ (.lst ((List.range j.toNat).map λk=>.int (k:Nat))) from⟨by rw[J9,Lr,KL];lia,J.toList,c',rv,e⟩),rfl,q _ (O.hok.fresh (J6 _))⟩
end
section
open PySem.MeetsSeq PySem.SeqAt
open PySem.AutoSeq1 (wpAny_loadPart')
end
noncomputable def sI:List Int->Int
 | []=>0
 |x::r=>r.foldl (λa b=>if b<a then b else a) x
theorem zi (h:l≠[])(z:Int):sI (l++[z])=if z<sI l then z else sI l:=by
 cases l with
 |nil=>exact(h rfl).elim
 |cons x r=>show(r++[z]).foldl _ x=_;rw[MC];rfl
theorem o9 (xs:Array (Int×Tok)):∀ k,k<xs.size->numAt xs (argBest (λi j=>decide (numAt xs i<numAt xs j)) k)=sI ((xs.toList.map (·.1)).take (k+1))
 |0,h=>by
  have e:xs.toList.map (·.1)≠[]:=λz=>by have:=LQ List.length z;simp at this;rw[this]at h;simp at h
  cases q:xs.toList.map (·.1) with
  |nil=>exact(e q).elim
  |cons y r=>
   have:(xs[0]?.map (·.1))=some y:=by rw[<- KE,<- Ks,q];rfl
   show numAt xs 0=y;unfold numAt;rw[this];rfl
 |k+1,h=>by
  have L:=o9 xs k (by lia);have O:(xs.toList.map (·.1))[k+1]?=some (numAt xs (k+1)):=by rw[Ks,KE];unfold numAt;rw[Array.getElem?_eq_getElem h];rfl
  have W:(xs.toList.map (·.1)).take (k+1+1)=(xs.toList.map (·.1)).take (k+1)++[numAt xs (k+1)]:=by rw[List.take_succ,O];rfl
  have ne:(xs.toList.map (·.1)).take (k+1)≠[]:=λz=>by have Y:=LQ List.length z;rw[LP,J9,K_,KU]at Y;lia
  rw[W,zi ne,<- L];show numAt xs (if (decide (numAt xs (k+1)<numAt xs (argBest _ k)))=true then k+1 else argBest _ k)=_;by_cases J:numAt xs (k+1)<numAt xs (argBest (λi j=>decide (numAt xs i<numAt xs j)) k)
  .rw[Ka (Ki J),Ka J]
  .rw[J_ (by simpa using J),J_ J]
theorem o_:∀{ns:List Int}{its:List Oq},Vals (ns.map V.int) its->∃ ps:List (Int×Tok),its=ps.map (λp=>.int p.1 p.2)/\ps.map (·.1)=ns
 | [],_,h=>by cases h;exact⟨[],rfl,rfl⟩
 |n::ns,_,h=>by
  cases h with
  |cons r J=>obtain⟨t,rfl⟩:=r;obtain⟨ps,rfl,e⟩:=o_ J;exact⟨(n,t)::ps,rfl,by rw[Kc,e]⟩
theorem zj (hc:X.calm=true):CallR X (.builtin "min") (λxs H Q=>∃ p ns,xs=[.ref p]/\SqL X.K H p (ns.map V.int)/\ns≠[]/\Q (.int (sI ns)) H):=by
 intro pins s σ H xs us Q I r h;obtain⟨p,ns,rfl,L,J,q⟩:=h;obtain⟨u,rfl,O⟩:=fV r;cases O;obtain⟨its,W,pl,hz⟩:=I.list L;obtain⟨ps,rfl,e⟩:=o_ W;have Y:s.heap.IsList p (intItems ps.toArray):=by
  have:intItems ps.toArray=(ps.map (λp=>Value.int p.1 p.2)).toArray:=by simp[intItems]
  rw[this];exact pl.isList
 have hpos:0<ps.toArray.size:=by
  cases ps with
  |nil=>exact(J e.symm).elim
  |cons _ _=>simp
 refine min_intList (I.ok.hd hc) Y hpos λv h' tk ev kp=>?_;obtain⟨t,rfl⟩:=intItems_at ev;rw[o9 ps.toArray _ (by lia)];have Z:(ps.toArray.toList.map (·.1)).take (ps.toArray.size-1+1)=ns:=by rw[Lg (by simp;lia)];simpa using e
 rw[Z];exact⟨.int (sI ns),H,I.kept (t':=tk) kp,⟨t,rfl⟩,q⟩
end L2
namespace L2
open PySem PySem.Spec PySem.Calls PyProof.Rows ST
section
variable {prog:Oo}{w:World}{A:Os}{E:Oq->Om->Prop}{s:Om}
end
section
variable {X:Cx}
end
end L2
namespace L2
open PySem PySem.Spec PySem.Calls PyProof.Rows
section
variable {X:Cx}
end
end L2
namespace L2
open PySem PySem.Spec PyProof.Rows
section
variable {X:Cx}{hc hc2:Str}{Ch Ch2:Addr}{np hpos np2 hpos2 pos epos:Pos}{b₀ c₀:Stmt}{suite suite2:List Stmt}{ts ts2:TS}{te:TX}{e:Expr}
end
open Sem (wp)
open Builtin
section
variable {prog:Oo}{w:World}{A:Os}{E:Oq->Om->Prop}{s:Om}
end
open Sem (wp)
open Builtin
section
variable {prog:Oo}{w:World}{A:Os}{E:Oq->Om->Prop}{s:Om}
end
noncomputable def ph (kts:List (Addr×List V))(a:Addr)(o:Obj)(ns:List Int):Hp:=λb=>match kts.lookup b with
 |some xs=>some (.tup xs)
 |none=>if b=a then some (.frz o (.lst (ns.map V.int))) else none
section
variable {kts:List (Addr×List V)}{a b:Addr}{o:Obj}{ns:List Int}{xs:List V}
theorem Di (e:kts.lookup b=some xs):ph kts a o ns b=some (.tup xs):=by unfold ph;rw[e]
theorem Dj (e:kts.lookup a=none):ph kts a o ns a=some (.frz o (.lst (ns.map V.int))):=by unfold ph;rw[e];exact Ka rfl
theorem Dk (e:kts.lookup b=none)(n:b≠a):ph kts a o ns b=none:=by unfold ph;rw[e];exact J_ n
end
theorem lB:∀{vs:List Oq}{ns:List Int},IntsAre vs ns->Vals (ns.map V.int) vs
 |_,_,.nil=>.nil
 |_,_,.cons n t h=>.cons ⟨t,rfl⟩ (lB h)
theorem zk {P:Oo}{w:World}{K:On}{mg mb:Str->Option Oq}{CX:CXT}{k:Nat}{fa a:Addr}{fd:FuncData}{x:Str}{sp:Sp}{J:Om}{vs:List Oq}{ns:List Int}{kts:List (Addr×List V)}
 (KX:K.In J.heap) (hns:J.heap.Ns mainGlobals mg) (hb:J.heap.Ns builtinsNs mb) (hbb:∀ x:Str,x≠"__name__"->mb x=bootBuiltins x) (hlim:J.heap.NoLimit) (hg:J.gens=#[])
 (ha:J.heap.get? a=some { cls:=.type "list",data:=.seq vs.toArray }) (hi:IntsAre vs ns) (hl:ns.length<=sizeLine) (hr:Room k callerA)
 (hK:∀ o,K.lookup a=some o->o.cls=.type "list"->False)
 (hT:∀ b xs,kts.lookup b=some xs->K.lookup b=none/\∃(o:Obj)(its:Array Oq)(n:Nat),J.heap.get? b=some o/\o.cls=.type "tuple"/\o.data=.seq its n/\its.size<=sizeLine/\Vals xs its.toList)
 (hM:∀ p∈K,∀ b xs,Fq p.2=some (b,xs)->kts.lookup b=some xs)
 (F:∀ base:Heap,K.In base->base.Ns mainGlobals mg->FnOk P w K mg base CX k fa fd [x] sp) (W:∀(s:Om)(u:Oq),BindsTo s fd ⟨[u],[]⟩ [(x,u)])
 (hsp:∀ H:Hp,(∃ o,H a=some (.frz o (.lst (ns.map V.int))))->sp [.ref a] H (λv _=>v=.bl true) λ_ _ _=>False)
 (hCX:∀ H e s',CX [] H J (λ_ _ _=>False) e s'->False) :
 codeAny (model P w) callerA (.call (.ref fa) ⟨[.ref a],[]⟩) (λr s'=>r=.ok (.ret (.bool true))/\OldK J.heap s'.heap/\s'.os=J.os/\AllBare s'.gens) J:=by
 have rv:=lB hi;have noK:K.lookup a=none:=by
  cases q:K.lookup a with
  |none=>rfl
  |some o=>have e:=KX a o q;rw[ha]at e;cases e;exact(hK _ q rfl).elim
 have noT:kts.lookup a=none:=by
  cases q:kts.lookup a with
  |none=>rfl
  |some xs=>obtain⟨_,o,its,n,e,c,_⟩:=hT a xs q;rw[ha]at e;cases e;exact absurd c (by simp)
 obtain⟨ob,Y⟩ : ∃ ob:Obj,ob={ cls:=.type "list",data:=.seq vs.toArray }:=⟨_,rfl⟩;rw[<- Y]at ha;generalize eH:ph kts a ob ns=H;have Ha:H a=some (.frz ob (.lst (ns.map V.int))):=by rw[<- eH];exact Dj noT
 have Ht:∀ b xs,kts.lookup b=some xs->H b=some (.tup xs):=λb xs e=>by rw[<- eH];exact Di e
 have Hn:∀ b,kts.lookup b=none->b≠a->H b=none:=λb e n=>by rw[<- eH];exact Dk e n
 have Z:∀ b o,K.lookup b=some o->H b=none:=λb o e=>by
  refine Hn b ?_ λz=>by rw[z,noK]at e;cases e
  cases q:kts.lookup b with
  |none=>rfl
  |some xs=>rw[(hT b xs q).1]at e;cases e
 have freeD:∀(b:Addr)(o:Obj)(es:Array DictEntry)(ep:Nat),J.heap.get? b=some o->o.data=.dict es ep->H b=none:=λb o es ep e d=>by
  refine Hn b ?_ λz=>?_
  .cases q:kts.lookup b with
   |none=>rfl
   |some xs=>obtain⟨_,o',its,n,e',_,d',_⟩:=hT b xs q;rw[e]at e';cases e';rw[d]at d';cases d'
  .rw[z,ha]at e;cases e;rw[Y]at d;cases d
 have O:∀{b:Addr}{m:Str->Option Oq},J.heap.Ns b m->(tX J.heap H).Ns b m:=λ{b m} ⟨o,es,ep,e,d,r⟩=>⟨o,es,ep,tY e (freeD b o es ep e d),d,r⟩;have hKb:K.In (tX J.heap H):=λb o e=>tY (KX b o e) (Z b o e);have hMd:Mod K mg (tX J.heap H):=⟨hKb,O hns,⟨mb,O hb,hbb⟩,let ⟨mc,h1,h2⟩:=hlim;⟨mc,O h1,h2⟩⟩;have hok:HOk P w H J.heap:=λb u e=>by
  cases q:kts.lookup b with
  |some xs=>rw[Ht b xs q]at e;cases e;obtain⟨_,o,its,n,e1,c,d,z,r⟩:=hT b xs q;refine⟨by rw[r.length];simpa using z,its.toList,r,o,e1,c,n,by simpa using d⟩
  |none=>
   by_cases L:b=a
   .rw[L,Ha]at e;cases e;rw[L];exact⟨ha,by rw[J9];exact hl,vs,_,rv,by rw[ha,Y]⟩
   .rw[Hn b q L]at e;cases e
 have e0:Env0 P w K mg (tX J.heap H) callerA [] J H:=⟨rfl,hMd,λb o e=>CK e,N4 (yO _ _),trivial,λb hb=>absurd (show b∈([]:List Addr) from hb) (by simp),hok,.of_eq hg,λp hp b xs e=>Ht b xs (hM p hp b xs e)⟩;refine NG ((F _ hKb (O hns)).run callerA [] J H ⟨[.ref a],[]⟩ [.ref a] [.ref a] _ _ hr e0 (W J (.ref a)) (.cons rfl .nil) (hsp H ⟨ob,Ha⟩)) λr s' h=>?_;cases r with
 |error e=>exact(hCX H e s' h).elim
 |ok fl=>
  cases fl with
  |next=>exact False.elim h
  |brk=>exact False.elim h
  |cont=>exact False.elim h
  |ret u=>
   obtain⟨v,H',os,bare,un,hok',r',q⟩:=h;have q':v=.bl true:=q;subst q';obtain rfl:u=Value.bool true:=r';refine⟨rfl,OldK.of_keep λb o e=>?_,os,bare⟩;by_cases L:b=a
   .rw[L]at e ⊢;have z2:=un.frzs a ob _ Ha;obtain⟨e2,_⟩:=hok' a _ z2;rw[ha]at e;cases e;exact e2
   .refine un.keep b o e ?_ (by intro z;exact absurd (show b∈([]:List Addr) from z) (by simp)) (by simp);cases q:kts.lookup b with
    |none=>exact .inl (Hn b q L)
    |some xs=>exact .inr ⟨xs,Ht b xs q⟩
section
variable {K K':On}{g:Addr}{kts:List (Addr×List V)}
noncomputable def Ju (K:On):Bool:=K.all λp=>(Fq p.2).isNone
structure SubK (K K':On):Prop where
 look:∀ b o,K.lookup b=some o->(∀ its n,o.data≠.seq its n)->K'.lookup b=some o
theorem zl:SubK K K:=⟨λ_ _ e _=>e⟩
theorem SubK.code (S:SubK K K')(h:PySem.W.codeIn K cd q=true):PySem.W.codeIn K' cd q=true:=by
 unfold PySem.W.codeIn at h ⊢;cases cd with
 |ref c=>
  dsimp only at h ⊢;cases e:K.lookup c with
  |none=>rw[e]at h;cases h
  |some o=>
   obtain⟨o1,L,J,O⟩:=o;cases J with
   |fields vs=>rw[S.look c _ e (λ_ _ z=>nomatch z)];rw[e]at h;exact h
   |_=>rw[e]at h;cases h
 |_=>cases h
theorem SubK.keep (S:SubK K K')(e:K.lookup f=some ⟨o1,o2,.func fd,o4⟩):PySem.W.keepIn K' (.ref f)=true:=by unfold PySem.W.keepIn;dsimp only;rw[S.look f _ e (λ_ _ z=>nomatch z)]
theorem SubK.ns (S:SubK K K')(h:PySem.W.nsIn K n x=some r):PySem.W.nsIn K' n x=some r:=by
 unfold PySem.W.nsIn at h ⊢;cases e:K.lookup n with
 |none=>rw[e]at h;cases h
 |some o=>
  obtain⟨o1,L,J,O⟩:=o;cases J with
  |dict es ep=>rw[S.look n _ e (λ_ _ z=>nomatch z)];rw[e]at h;exact h
  |_=>rw[e]at h;cases h
theorem SubK.nsOk (S:SubK K K')(h:PySem.W.nsOkIn K n=true):PySem.W.nsOkIn K' n=true:=by
 unfold PySem.W.nsOkIn at h ⊢;cases e:K.lookup n with
 |none=>rw[e]at h;cases h
 |some o=>
  obtain⟨o1,L,J,O⟩:=o;cases J with
  |dict es ep=>rw[S.look n _ e (λ_ _ z=>nomatch z)];rw[e]at h;exact h
  |_=>rw[e]at h;cases h
theorem SubK.tail (S:SubK K K'):∀{l:List Oq},PySem.W.tailIn K bm l=true->PySem.W.tailIn K' bm l=true
 | [],h=>h
 |v::r,h=>by
  unfold PySem.W.tailIn at h ⊢;rw[N0]at h ⊢;refine h.imp id λh=>?_;cases v with
  |ref A=>
   dsimp only at h ⊢;cases e:K.lookup A with
   |none=>rw[e]at h;cases h
   |some o=>
    obtain⟨o1,L,J,O⟩:=o;cases J with
    |cls cd=>rw[S.look A _ e (λ_ _ z=>nomatch z)];rw[e]at h;dsimp only at h ⊢;simp only[Ky,L1]at h ⊢;exact⟨⟨S.nsOk h.1.1,S.ns h.1.2⟩,S.tail h.2⟩
    |_=>rw[e]at h;cases h
  |_=>cases h
theorem SubK.exc (S:SubK K K')(h:PySem.W.excIn K C bm i=true):PySem.W.excIn K' C bm i=true/\AQ K' C=AQ K C:=by
 unfold PySem.W.excIn at h ⊢;unfold AQ;cases e:K.lookup C with
 |none=>rw[e]at h;cases h
 |some o=>
  obtain⟨o1,Y,L,Z⟩:=o;rw[e]at h;cases L with
  |cls cd=>
   rw[S.look C _ e (λ_ _ z=>nomatch z)];refine⟨?_,rfl⟩;split at h
   .rename_i dd O sl J;injection J with J;injection J with he1 he2 he3 he4;injection he3 with he3;subst he1 he2 he3 he4
    try dsimp only at h
    try dsimp only
    split at h
    .rename_i hm hs;simp only[Ky,L1]at h ⊢;exact⟨⟨⟨h.1.1.1,S.tail h.1.1.2⟩,S.nsOk h.1.2⟩,S.ns h.2⟩
    .cases h
   .cases h
  |_=>split at h<;>first|cases h|(rename_i J;injection J with J;injection J with _ _ J _;cases J)
end
noncomputable def xT:Oq->Bool
 | .type n=>n=="list"
 |_=>false
noncomputable def Jv (K:On):Bool:=K.all λp=>!xT p.2.cls
theorem Be:∀{K:On},Jv K=true->K.lookup a=some o->o.cls=.type "list"->False
 | [],_,e,_=>by cases e
 |(b,x)::r,h,e,c=>by
  unfold Jv at h;rw[List.all_cons,Ky]at h;rw[MN]at e;split at e
  .cases e;rw[c]at h;have h1:=h.1;simp[xT]at h1
  .exact Be (K:=r) h.2 e c
section
variable {l:PySem.W.OpenLaw}{n k:Nat}{q:Oo}{loose:List Str}{XP:(Str->Option Oq)->Heap->Prop}{YP:World->Heap->Prop}{d:DefRec}{K:Params->On}{CX:World->CXT}{sp:World->Sp}{x:Str}
theorem Bf (hn:l.most=some n)(hn2:n<=sizeLine)(hdf:d.params.defaults=[])(hr:Room k callerA)(hY:∀(w:World)(h:Heap),YP w h->(K w.params).In h)
 (hL:∀ w:World,Jv (K w.params)=true/\Ju (K w.params)=true)
 (F:∀(w:World)(mg:Str->Option Oq)(Z:Addr)(h:Heap),(K w.params).In h->h.Ns mainGlobals mg->mg d.name=some (.ref Z)->
   ∃ fd:FuncData,(∀(s:Om)(u:Oq),BindsTo s fd ⟨[u],[]⟩ [(x,u)])/\∀ base:Heap,(K w.params).In base->base.Ns mainGlobals mg->FnOk l.prog w (K w.params) mg base (CX w) k Z fd [x] (sp w))
 (hsp:∀(w:World)(H:Hp)(a:Addr)(ns:List Int),ns.length<=n->(∃ o,H a=some (.frz o (.lst (ns.map V.int))))->sp w [.ref a] H (λv _=>v=.bl true) λ_ _ _=>False)
 (hCX:∀(w:World)(H:Hp)(s:Om)(e:Oq)(s':Om),CX w [] H s (λ_ _ _=>False) e s'->False) :
 PySem.W.WalkO q loose XP YP l.row.toRowW d [] (λf vs=>PySem.call f vs):=by
 refine Att.attach_call hn hdf λw s₀ L mg mb Z o pm cd doc a vs ns G Y ho hd hcd hmg O J bw hg=>?_;have KX:=hY w _ Y;obtain⟨fd,hb,hF⟩:=F w mg Z _ KX G.T.g hmg;exact zk (kts:=[]) KX G.T.g G.T.b G.T.builtins G.T.nolimit hg O J (Ku bw hn2) hr (λo e c=>Be (hL w).1 e c) (λb xs e=>by cases e)
  (λp hp b xs e=>by have:=Ld.mp (hL w).2 p hp;rw[e]at this;cases this) hF hb (λH hS=>hsp w H a ns bw hS) λH e s'=>hCX w H L e s'
end
end L2
namespace L2
open PySem PySem.Spec PySem.Calls PyProof.Rows
section
variable (P:Oo)(w:World)
end
section
variable {P:Oo}{w:World}{h h':Heap}{A:Os}{E:Oq->Om->Prop}{s:Om}
end
noncomputable abbrev K0:=Sum Int (List Int)
noncomputable abbrev NX:=List (List K0×Addr×Oq)
noncomputable def NVs (H:Hp):List K0->List V->Prop
 | [],vs=>vs=[]
 | .inl i::ks,vs=>∃ r,vs=.int i::r/\NVs H ks r
 | .inr l::ks,vs=>∃ c r,vs=.ref c::r/\H c=some (.tup (l.map V.int))/\NVs H ks r
def KeyN (H:Hp)(k:List K0)(b:Addr):Prop:=∃ vs,H b=some (.tup vs)/\NVs H k vs
section
variable {H H':Hp}
theorem NVs.mono (kt:∀ b vs,H b=some (.tup vs)->H' b=some (.tup vs)):∀{k:List K0}{vs:List V},NVs H k vs->NVs H' k vs
 | [],_,h=>h
 | .inl i::ks,_,⟨r,e,h⟩=>⟨r,e,NVs.mono kt h⟩
 | .inr l::ks,_,⟨c,r,e,e2,h⟩=>⟨c,r,e,kt _ _ e2,NVs.mono kt h⟩
theorem KeyN.mono (kt:∀ b vs,H b=some (.tup vs)->H' b=some (.tup vs))(h:KeyN H k b):KeyN H' k b:=let ⟨vs,e,q⟩:=h;⟨vs,kt _ _ e,q.mono kt⟩
end
section
variable {P:Oo}{w:World}{H:Hp}{h:Heap}{a:Addr}
end
section
variable {X:Cx}{pins:List (Addr×Obj)}{σ:St}{H:Hp}{s:Om}{a b:Addr}{xs:NX}{k:List K0}{A:Os}{E:Oq->Om->Prop}
end
section
variable {X:Cx}{value o i:Expr}{td ty tv:TE}{pos pos':Pos}
end
end L2
namespace L2
open PySem PySem.Spec PySem.Calls PyProof.Rows ST
section
variable {X:Cx}
theorem rD:∀{vs:List V}{us:List Oq}{its:List TItem},TupsIn H vs its->Vals vs us->us=valsT its
 |_,_,_,.nil,.nil=>rfl
 |_,_,_,.cons q t,.cons r s=>by obtain⟨rfl,q⟩:=q;cases r;rw[rD t s];rfl
theorem qJ (hN:N<=300) (hs:ke X.prog X.w N):CallR X (.builtin "sorted") (λxs H Q=>∃(l:Addr)(vs:List V)(its:List TItem),xs=[.ref l]/\Rd H l (.lst vs)/\TupsIn H vs its/\its.length<=N/\(∀ x∈its,x.1≠[])/\(its.map (·.1)).Nodup/\
 ∀(Y:Addr)(ys:List TItem),H Y=none->ys.Perm its->ys.Pairwise (λx y=>lexB x.1 y.1=true)->Q (.ref Y) (aI H Y (.lst (ys.map λy=>.ref y.2)))):=by
 intro pins s σ H xs us Q I r h;obtain⟨l,vs,its,rfl,hl,hp,hz,Z,nd,q⟩:=h;obtain⟨u,rfl,ru⟩:=fV r;obtain rfl:u=Value.ref l:=ru;obtain⟨_,us,n,rv,hg⟩:=(show ObjOk X.prog X.w H s.heap l (.lst vs) from hl.ok I.hok);obtain⟨_,_,g3⟩:=hp.get rv;obtain rfl:=rD hp rv;have L:(valsT its).length=its.length:=by simp[valsT]
 have sl:=KL;refine Calls.call_function_entry kind_sorted plain_sorted entry_sorted (args_sorted1 _) ?_;unfold Builtin.«sorted»;refine J4 (m:=checkCount "sorted" 1 1 _) (J7 (J4 (collect_list (l:=l) (vs:=valsT its) ⟨_,hg,rfl,n,rfl⟩ ?_ (by rw[L];lia))));have k1:∀ b o,s.heap.get? b=some o->((s.heap.push (seqObj "list" #[] 0)).update s.heap.objs.size (Obj.mapSeq (·++ (valsT its).toArray))).get? b=some o:=λb o e=>(LS _ _ (K9 (Kt (Kk e)))).trans (J5 _ e);have g1:s.heap.objs.size<=((s.heap.push (seqObj "list" #[] 0)).update s.heap.objs.size (Obj.mapSeq (·++ (valsT its).toArray))).objs.size:=Ng (Kk (get?_update_seq (Kh _ rfl) (·++ (valsT its).toArray)));generalize ((s.heap.push (seqObj "list" #[] 0)).update s.heap.objs.size (Obj.mapSeq (·++ (valsT its).toArray)))=h1 at k1 g1;refine J4 (wpAny_newList ?_ (by rw[L];lia));have O:(h1.push (seqObj "list" (valsT its).toArray 0)).get? h1.objs.size=some (seqObj "list" (valsT its).toArray 0):=Kh _ rfl;have kk:∀ b o,s.heap.get? b=some o->(h1.push (seqObj "list" (valsT its).toArray 0)).get? b=some o:=λb o e=>J5 _ (k1 b o e);have t1:Tups X.prog X.w (h1.push (seqObj "list" (valsT its).toArray 0)) its:=⟨λx hx=>kd (dj I.hok (g3 x hx)) kk,Z,nd⟩;refine J4 (LC (KS slot_list_sort ⟨_,O,rfl⟩ entry_list_sort ?body (args_list_sort _)))
 case body=>
  refine hs _ _ { s with heap:=h1.push (seqObj "list" (valsT its).toArray 0) } _ _ _ _ O t1 hz λys h2 c2 J hw W k2=>⟨_,rfl,?_⟩;have hf:H h1.objs.size=none:=I.hok.fresh g1;refine J7 ⟨_,rfl,.ref h1.objs.size,_,I.laid (a:=h1.objs.size) (o:=.lst (ys.map λy=>.ref y.2)) (t':=s.toks) (λb o e=>k2 b o (λz=>?_) (kk b o e)) g1 ?_,rfl,q h1.objs.size ys hf J hw⟩
  .subst z;exact absurd (Kk e) (Nat.not_lt.mpr g1)
  .refine⟨by rw[J9,J.length_eq];lia,valsT ys,c2,?_,W⟩;clear W hw J;induction ys with
   |nil=>exact .nil
   |cons y ys ih=>exact .cons rfl ih
end
end L2
namespace L3
open PySem PySem.Spec PyProof.Rows L2
noncomputable abbrev DK:=Sum Key (List Key)
inductive D where
 |non|bl (b:Bool)|int (i:Int)|str (x:Str)|tup (ds:List D)|lst (ds:List D)|dic (ks:List DK) (ds:List D)
mutual
noncomputable def D.flat:D->Bool
 | .lst _=>false
 | .dic _ _=>false
 | .tup ds=>D.flats ds
 |_=>true
noncomputable def D.flats:List D->Bool
 | []=>true
 |d::ds=>d.flat&&D.flats ds
end
mutual
noncomputable def D.dep:D->Nat
 | .lst ds=>D.deps ds+1
 | .tup ds=>D.deps ds+1
 | .dic _ ds=>D.deps ds+1000
 |_=>0
noncomputable def D.deps:List D->Nat
 | []=>0
 |d::ds=>max d.dep (D.deps ds)
end
mutual
noncomputable def dk:D->D->Bool
 | .non,e=>match e with|.non=>true|_=>false
 | .bl a,e=>match e with|.bl b=>a==b|.int b=>(if a then 1 else 0)==b|_=>false
 | .int a,e=>match e with|.int b=>a==b|.bl b=>a==(if b then 1 else 0)|_=>false
 | .str a,e=>match e with|.str b=>a==b|_=>false
 | .tup J,e=>match e with|.tup bs=>eqDs J bs|_=>false
 | .lst J,e=>match e with|.lst bs=>eqDs J bs|_=>false
 | .dic ks J,e=>match e with|.dic L bs=>decide (ks=L)&&eqDs J bs|_=>false
noncomputable def eqDs:List D->List D->Bool
 | [],bs=>match bs with|[]=>true|_=>false
 |a::J,bs=>match bs with|b::r=>dk a b&&eqDs J r|[]=>false
end
mutual
theorem lC:∀ d:D,dk d d=true
 | .non=>rfl
 | .bl a=>by simp[dk]
 | .int a=>by simp[dk]
 | .str a=>by simp[dk]
 | .tup J=>by simp only[dk];exact eqDs_refl J
 | .lst J=>by simp only[dk];exact eqDs_refl J
 | .dic ks J=>by simp only[dk,Nd,Md];exact eqDs_refl J
theorem eqDs_refl:∀ ds:List D,eqDs ds ds=true
 | []=>rfl
 |d::ds=>by simp only[eqDs,lC d,eqDs_refl ds,LK]
end
def DAt (H:Hp)(a:Addr)(ks:List DK)(vs:List V):Prop:=(∃ kvs:List (Key×V),Rd H a (.dK kvs)/\ks=kvs.map (λp=>.inl p.1)/\vs=kvs.map Prod.snd)\/∃ kvs:List (List Key×V),Rd H a (.dT kvs)/\ks=kvs.map (λp=>.inr p.1)/\vs=kvs.map Prod.snd
noncomputable def HG:HO->Prop
 | .lst _=>True
 | .dK _=>True
 | .dT _=>True
 | .ext _=>True
 |_=>False
def Mu (H:Hp)(a:Addr):Prop:=∃ o,H a=some o/\HG o
theorem Mu.lst (h:H a=some (.lst vs)):Mu H a:=⟨_,h,True.intro⟩
theorem Mu.same (h:Mu H a)(s:∀ o,H a=some o->H' a=some o):Mu H' a:=let ⟨o,e,m⟩:=h;⟨o,s o e,m⟩
theorem Mu.some (h:Mu H a):H a≠none:=by obtain⟨o,e,_⟩:=h;rw[e];simp
theorem EF (h:Rd H a u):∃ o,H a=some o:=h.elim (λe=>⟨_,e⟩) λ⟨_,e⟩=>⟨_,e⟩
theorem mi (h:Rd H a u)(s:∀ o,H a=some o->H' a=some o):Rd H' a u:=h.imp (s _) λ⟨o,e⟩=>⟨o,s _ e⟩
theorem DAt.obj (h:DAt H a ks vs):∃ o,H a=some o:=h.elim (λ⟨_,e,_⟩=>EF e) λ⟨_,e,_⟩=>EF e
theorem DAt.keep (h:DAt H a ks vs)(s:∀ o,H a=some o->H' a=some o):DAt H' a ks vs:=h.imp (λ⟨kvs,e,r⟩=>⟨kvs,mi e s,r⟩) λ⟨kvs,e,r⟩=>⟨kvs,mi e s,r⟩
theorem DAt.inj (h:DAt H a ks vs)(g:DAt H a ls ws):ks=ls/\vs=ws:=by rcases h with⟨k1,e1|⟨o1,e1⟩,r1,r2⟩|⟨k1,e1|⟨o1,e1⟩,r1,r2⟩<;>rcases g with⟨k2,e2|⟨J,e2⟩,q1,q2⟩|⟨k2,e2|⟨J,e2⟩,q1,q2⟩<;>(rw[e1]at e2;cases e2;try exact⟨r1.trans q1.symm,r2.trans q2.symm⟩)
noncomputable def Jw:HO->Prop
 | .dK _=>False
 | .dT _=>False
 | .frz _ (.dK _)=>False
 | .frz _ (.dT _)=>False
 |_=>True
theorem DAt.no (h:DAt H a ks vs)(e:H a=some o)(n:Jw o):False:=by rcases h with⟨k,z|⟨o',z⟩,_⟩|⟨k,z|⟨o',z⟩,_⟩<;>(rw[e]at z;cases z;exact n)
mutual
noncomputable def Is (H:Hp)(m:Addr->Prop):D->V->Prop
 | .non,v=>v=.non
 | .bl b,v=>v=.bl b
 | .int i,v=>v=.int i
 | .str x,v=>v=.str x
 | .tup ds,v=>∃ a vs,v=.ref a/\H a=some (.tup vs)/\IsAll H m ds vs
 | .lst ds,v=>∃ a vs,v=.ref a/\((H a=some (.lst vs)/\m a)\/∃ o,H a=some (.frz o (.lst vs))/\m a)/\IsAll H m ds vs
 | .dic ks ds,v=>∃ a vs,v=.ref a/\(DAt H a ks vs/\m a)/\IsAll H m ds vs
noncomputable def IsAll (H:Hp)(m:Addr->Prop):List D->List V->Prop
 | [],vs=>vs=[]
 |d::ds,vs=>∃ v r,vs=v::r/\Is H m d v/\IsAll H m ds r
end
noncomputable def fixd:HO->Prop
 | .tup _=>True
 | .frz _ _=>True
 |_=>False
section
variable {H H':Hp}{m m':Addr->Prop}
mutual
theorem Is.mono (kp:∀ a o,H a=some o->(m a\/fixd o)->H' a=some o)(J:∀ a o,H a=some o->m a->m' a):∀{d:D}{v:V},Is H m d v->Is H' m' d v
 | .non,_,h=>h
 | .bl _,_,h=>h
 | .int _,_,h=>h
 | .str _,_,h=>h
 | .tup ds,_,h=>by obtain⟨a,vs,e,h1,h2⟩:=h;exact⟨a,vs,e,kp a _ h1 (.inr True.intro),IsAll.mono kp J h2⟩
 | .lst ds,_,h=>by
  obtain⟨a,vs,e,h1,h2⟩:=h;refine⟨a,vs,e,?_,IsAll.mono kp J h2⟩;rcases h1 with⟨h1,L⟩|⟨o,h1,L⟩
  .exact .inl ⟨kp a _ h1 (.inl L),J a _ h1 L⟩
  .exact .inr ⟨o,kp a _ h1 (.inr True.intro),J a _ h1 L⟩
 | .dic ks ds,_,h=>by obtain⟨a,vs,e,h1,h2⟩:=h;obtain⟨o,O⟩:=h1.1.obj;exact⟨a,vs,e,⟨h1.1.keep λo e=>kp a o e (.inl h1.2),J a o O h1.2⟩,IsAll.mono kp J h2⟩
theorem IsAll.mono (kp:∀ a o,H a=some o->(m a\/fixd o)->H' a=some o)(J:∀ a o,H a=some o->m a->m' a):∀{ds:List D}{vs:List V},IsAll H m ds vs->IsAll H' m' ds vs
 | [],_,h=>h
 |d::ds,_,h=>by obtain⟨v,r,e,h1,h2⟩:=h;exact⟨v,r,e,Is.mono kp J h1,IsAll.mono kp J h2⟩
end
theorem Is.weak (J:∀ a,m a->m' a)(h:Is H m d v):Is H m' d v:=h.mono (λ_ _ e _=>e) λa _ _=>J a
theorem IsAll.weak (J:∀ a,m a->m' a)(h:IsAll H m ds vs):IsAll H m' ds vs:=h.mono (λ_ _ e _=>e) λa _ _=>J a
theorem Is.same (s:Same H H')(h:Is H m d v):Is H' m d v:=h.mono (λa o e _=>s a o e) λ_ _ _ z=>z
theorem IsAll.same (s:Same H H')(h:IsAll H m ds vs):IsAll H' m ds vs:=h.mono (λa o e _=>s a o e) λ_ _ _ z=>z
mutual
theorem Is.flat:∀{d:D}{v:V},d.flat=true->Is H m d v->Is H m' d v
 | .non,_,_,h=>h
 | .bl _,_,_,h=>h
 | .int _,_,_,h=>h
 | .str _,_,_,h=>h
 | .tup ds,_,f,h=>by obtain⟨a,vs,e,h1,h2⟩:=h;exact⟨a,vs,e,h1,IsAll.flat (by simpa only[D.flat] using f) h2⟩
 | .lst ds,_,f,_=>by simp[D.flat]at f
 | .dic ks ds,_,f,_=>by simp[D.flat]at f
theorem IsAll.flat:∀{ds:List D}{vs:List V},D.flats ds=true->IsAll H m ds vs->IsAll H m' ds vs
 | [],_,_,h=>h
 |d::ds,_,f,h=>by obtain⟨v,r,e,h1,h2⟩:=h;simp only[D.flats,Ky]at f;exact⟨v,r,e,Is.flat f.1 h1,IsAll.flat f.2 h2⟩
end
mutual
theorem Is.inj:∀{d e:D}{v:V},Is H m d v->Is H m' e v->d=e
 | .non,e,_,h,g=>by cases e<;>first|rfl|(cases h;first|(obtain⟨_,_,z,_⟩:=g;cases z;done)|cases g)
 | .bl _,e,_,h,g=>by cases e<;>(cases h;first|(obtain⟨_,_,z,_⟩:=g;cases z;done)|(cases g;rfl)|cases g)
 | .int _,e,_,h,g=>by cases e<;>(cases h;first|(obtain⟨_,_,z,_⟩:=g;cases z;done)|(cases g;rfl)|cases g)
 | .str _,e,_,h,g=>by cases e<;>(cases h;first|(obtain⟨_,_,z,_⟩:=g;cases z;done)|(cases g;rfl)|cases g)
 | .tup ds,e,_,h,g=>by
  obtain⟨a,vs,rfl,h1,h2⟩:=h;cases e with
  |tup es=>obtain⟨b,ws,z,g1,g2⟩:=g;cases z;rw[h1]at g1;cases g1;rw[IsAll.inj h2 g2]
  |lst es=>obtain⟨b,ws,z,g1,g2⟩:=g;cases z;rcases g1 with⟨g1,_⟩|⟨o,g1,_⟩<;>(rw[h1]at g1;cases g1)
  |dic J es=>obtain⟨b,ws,z,g1,g2⟩:=g;cases z;exact(g1.1.no h1 True.intro).elim
  |_=>cases g
 | .lst ds,e,_,h,g=>by
  obtain⟨a,vs,rfl,h1,h2⟩:=h;cases e with
  |tup es=>obtain⟨b,ws,z,g1,g2⟩:=g;cases z;rcases h1 with⟨h1,_⟩|⟨o,h1,_⟩<;>(rw[h1]at g1;cases g1)
  |lst es=>
   obtain⟨b,ws,z,g1,g2⟩:=g;cases z;have e:vs=ws:=by rcases h1 with⟨h1,_⟩|⟨o,h1,_⟩<;>rcases g1 with⟨g1,_⟩|⟨o',g1,_⟩<;>(rw[h1]at g1;cases g1;try rfl)
   subst e;rw[IsAll.inj h2 g2]
  |dic J es=>obtain⟨b,ws,z,g1,g2⟩:=g;cases z;rcases h1 with⟨h1,_⟩|⟨o,h1,_⟩<;>exact(g1.1.no h1 True.intro).elim
  |_=>cases g
 | .dic ks ds,e,_,h,g=>by
  obtain⟨a,vs,rfl,h1,h2⟩:=h;cases e with
  |tup es=>obtain⟨b,ws,z,g1,g2⟩:=g;cases z;exact(h1.1.no g1 True.intro).elim
  |lst es=>obtain⟨b,ws,z,g1,g2⟩:=g;cases z;rcases g1 with⟨g1,_⟩|⟨o,g1,_⟩<;>exact(h1.1.no g1 True.intro).elim
  |dic J es=>obtain⟨b,ws,z,g1,g2⟩:=g;cases z;obtain⟨e1,e2⟩:=h1.1.inj g1.1;subst e1 e2;rw[IsAll.inj h2 g2]
  |_=>cases g
theorem IsAll.inj:∀{ds es:List D}{vs:List V},IsAll H m ds vs->IsAll H m' es vs->ds=es
 | [],es,_,h,g=>by
  cases h;cases es with
  |nil=>rfl
  |cons e es=>obtain⟨_,_,z,_⟩:=g;cases z
 |d::ds,es,_,h,g=>by
  obtain⟨v,r,rfl,h1,h2⟩:=h;cases es with
  |nil=>cases g
  |cons e es=>obtain⟨w,q,z,g1,g2⟩:=g;cases z;rw[Is.inj h1 g1,IsAll.inj h2 g2]
end
theorem IsAll.length:∀{ds:List D}{vs:List V},IsAll H m ds vs->vs.length=ds.length
 | [],_,h=>by cases h;rfl
 |d::ds,_,h=>by obtain⟨v,r,rfl,_,h2⟩:=h;simp[IsAll.length h2]
theorem IsAll.append:∀{ds es:List D}{vs ws:List V},IsAll H m ds vs->IsAll H m es ws->IsAll H m (ds++es) (vs++ws)
 | [],_,_,_,h,g=>by cases h;exact g
 |d::ds,_,_,_,h,g=>by obtain⟨v,r,rfl,h1,h2⟩:=h;exact⟨v,r++_,rfl,h1,IsAll.append h2 g⟩
theorem IsAll.snoc (h:IsAll H m ds vs)(g:Is H m d v):IsAll H m (ds++[d]) (vs++[v]):=h.append ⟨v,[],rfl,g,rfl⟩
theorem IsAll.get:∀{ds:List D}{vs:List V}{i:Nat}{d:D},IsAll H m ds vs->ds[i]?=some d->∃ v,vs[i]?=some v/\Is H m d v
 | [],_,_,_,_,e=>by simp at e
 |d::ds,_,0,_,h,e=>by obtain⟨v,r,rfl,h1,h2⟩:=h;simp at e;subst e;exact⟨v,rfl,h1⟩
 |d::ds,_,i+1,_,h,e=>by obtain⟨v,r,rfl,h1,h2⟩:=h;obtain⟨w,a,b⟩:=IsAll.get (i:=i) h2 (by simpa using e);exact⟨w,by simpa using a,b⟩
theorem IsAll.take:∀{ds:List D}{vs:List V}(n:Nat),IsAll H m ds vs->IsAll H m (ds.take n) (vs.take n)
 |_,_,0,_=>rfl
 | [],_,n+1,h=>by cases h;exact rfl
 |d::ds,_,n+1,h=>by obtain⟨v,r,rfl,h1,h2⟩:=h;exact⟨v,r.take n,rfl,h1,IsAll.take n h2⟩
theorem IsAll.drop:∀{ds:List D}{vs:List V}(n:Nat),IsAll H m ds vs->IsAll H m (ds.drop n) (vs.drop n)
 |_,_,0,h=>h
 | [],_,n+1,h=>by cases h;exact rfl
 |d::ds,_,n+1,h=>by obtain⟨v,r,rfl,h1,h2⟩:=h;exact IsAll.drop n h2
end
section
variable {P:Oo}{w:World}{H:Hp}{s:Om}{m m':Addr->Prop}
theorem Ga (ok:HOk P w H s.heap)(h:(H a=some (.lst vs)/\m a)\/∃ o,H a=some (.frz o (.lst vs))/\m a) :
 ∃ its:List Oq,Vals vs its/\s.heap.IsList a its.toArray:=by
 have key:ObjOk P w H s.heap a (.lst vs)->∃ its:List Oq,Vals vs its/\s.heap.IsList a its.toArray:=λ⟨_,its,n,r,e⟩=>⟨its,r,⟨_,e,rfl,n,rfl⟩⟩;rcases h with⟨h,_⟩|⟨o,h,_⟩
 .exact key (ok a _ h)
 .exact key (ok a _ h).2
theorem Gb (ok:HOk P w H s.heap)(h:H a=some (.tup vs)):∃ its:List Oq,Vals vs its/\s.heap.IsTuple a its.toArray:=by obtain⟨_,its,r,e⟩:=ok a _ h;exact⟨its,r,e⟩
theorem zn (n:Nat)(e:Nat->Bool):(List.range n).all e=true↔∀ j,j<n->e j=true:=by simp[Ld,KA]
theorem pj:∀(ds es:List D),eqDs ds es=true↔ds.length=es.length/\∀(j:Nat)(d e:D),ds[j]?=some d->es[j]?=some e->dk d e=true
 | [],[]=>by simp[eqDs]
 | [],e::es=>by simp[eqDs]
 |d::ds,[]=>by simp[eqDs]
 |d::ds,e::es=>by
  simp only[eqDs,Ky,pj ds es,Kl,Nat.add_right_cancel_iff];constructor
  .rintro⟨h1,h2,L⟩;refine⟨h2,λj x y ex J=>?_⟩;cases j with
   |zero=>simp at ex J;subst ex;subst J;exact h1
   |succ j=>exact L j x y (by simpa using ex) (by simpa using J)
  .rintro⟨h2,L⟩;exact⟨L 0 d e rfl rfl,h2,λj x y ex J=>L (j+1) x y (by simpa using ex) (by simpa using J)⟩
theorem e_:∀{ds:List D}{j:Nat}{d:D},ds[j]?=some d->d.dep<=D.deps ds
 | [],_,_,e=>by simp at e
 |d::ds,0,_,e=>by simp at e;subst e;simp only[D.deps];lia
 |d::ds,j+1,x,e=>by have:=e_ (ds:=ds) (j:=j) (d:=x) (by simpa using e);simp only[D.deps];lia
theorem sJ (ok:HOk P w H s.heap){A:Os}{ds es:List D}(h1:IsAll H m ds vs)(h2:IsAll H m' es ws)(r1:Vals vs its)(r2:Vals ws its2)
 (L:∀ d∈ds,∀ e∈es,∀(v w:V)(u u':Oq),Is H m d v->Is H m' e w->RelV v u->RelV w u'->SeqAt.EqAt A.in1 s u u' (dk d e)) :
 ∀ j (Z:j<its.toArray.size) (z2:j<its2.toArray.size),SeqAt.EqAt A.in1 s its.toArray[j] its2.toArray[j] (match ds[j]?,es[j]? with|some d,some e=>dk d e|_,_=>true):=by
 intro j Z z2;have l1:=r1.length;have l2:=r2.length;have l3:=h1.length;have l4:=h2.length;have y1:j<its.length:=by simpa using Z
 have y2:j<its2.length:=by simpa using z2
 have k1:j<ds.length:=by lia
 have k2:j<es.length:=by lia
 obtain⟨v,ev,iv⟩:=h1.get (i:=j) (d:=ds[j]) (by simp[k1]);obtain⟨v',O,W⟩:=h2.get (i:=j) (d:=es[j]) (by simp[k2]);obtain⟨u,eu,ru⟩:=r1.get ev;obtain⟨u',J,Y⟩:=r2.get O;have q1:its.toArray[j]=u:=by
  have:its[j]?=some its[j]:=by simp[y1]
  rw[this]at eu;simpa using Kx eu
 have q2:its2.toArray[j]=u':=by
  have:its2[j]?=some its2[j]:=by simp[y2]
  rw[this]at J;simpa using Kx J
 have g1:ds[j]?=some ds[j]:=by simp[k1]
 have g2:es[j]?=some es[j]:=by simp[k2]
 rw[q1,q2,g1,g2];exact L ds[j] (NO _) es[j] (NO _) v v' u u' iv W ru Y
theorem wK (O:ds.length=es.length) :
 ((List.range ds.length).all λj=>match ds[j]?,es[j]? with|some d,some e=>dk d e|_,_=>true)=eqDs ds es:=by
 rw[Mm,zn,pj];constructor
 .intro h;refine⟨O,λj d e L W=>?_⟩;have:=h j (Ke.mp L).1;rw[L,W]at this;exact this
 .rintro⟨_,h⟩ j Y;have e1:ds[j]?=some ds[j]:=by simp[Y]
  have J:j<es.length:=by lia
  have e2:es[j]?=some es[j]:=by simp[J]
  rw[e1,e2];exact h j _ _ e1 e2
theorem sK (J:ds.length≠es.length):eqDs ds es=false:=by
 cases h:eqDs ds es with
 |false=>rfl
 |true=>exact absurd ((pj ds es).mp h).1 J
abbrev mR (H:Hp)(s:Om)(m m':Addr->Prop)(A:Os)(n:Nat):Prop:=∀(d e:D)(v w:V)(u u':Oq),d.dep<n->e.dep<1000->Is H m d v->Is H m' e w->RelV v u->RelV w u'->SeqAt.EqAt A.in1 s u u' (dk d e)
section
variable {A:Os}{n:Nat}{l1 l2:List D}{vs1 vs2:List V}{its1 its2:List Oq}{a1 a2:Addr}
theorem pk (ok:HOk P w H s.heap)(hn:(D.lst l1).dep<=n)(hE:(D.lst l2).dep<1000)(Y:A.units<cLine)(q1:IsAll H m l1 vs1)(q2:IsAll H m' l2 vs2)(Z:Vals vs1 its1)(y2:Vals vs2 its2)(p1:s.heap.IsList a1 its1.toArray)(p2:s.heap.IsList a2 its2.toArray)
 (L:mR H s m m' A n):SeqAt.RcAt A s (.ref a1) (.ref a2) (dk (.lst l1) (.lst l2)):=by
 have e1:its1.toArray.size=l1.length:=by rw[Kf,<- Z.length,q1.length]
 have e2:its2.toArray.size=l2.length:=by rw[Kf,<- y2.length,q2.length]
 have hd:∀ d∈l1,d.dep<n:=λd hd=>by obtain⟨j,O⟩:=Kn.mp hd;have:=e_ O;simp only[D.dep]at hn;lia
 have he:∀ e∈l2,e.dep<1000:=λd hd=>by obtain⟨j,O⟩:=Kn.mp hd;have:=e_ O;simp only[D.dep]at hE;lia
 by_cases J:l1.length=l2.length
 .have z:=SeqAt.RcAt.lists p1 p2 (by rw[e1,e2,J]) Y (sJ ok q1 q2 Z y2 λd hm e W v w u u' i1 i2 r1 r2=>L d e v w u u' (hd d hm) (he e W) i1 i2 r1 r2);rw[e1,wK J]at z;exact z
 .have z:=SeqAt.RcAt.lists_lengths p1 p2 (by rw[e1,e2];simpa using J) Y;rw[show dk (.lst l1) (.lst l2)=eqDs l1 l2 from rfl,sK J];exact z
theorem sL (ok:HOk P w H s.heap)(hn:(D.lst l1).dep<=n)(hE:(D.lst l2).dep<1000)(Y:A.units<cLine)(q1:IsAll H m l1 vs1)(q2:IsAll H m' l2 vs2)(Z:Vals vs1 its1)(y2:Vals vs2 its2)(p1:s.heap.IsList a1 its1.toArray)(p2:s.heap.IsList a2 its2.toArray)
 (L:mR H s m m' A n):SeqAt.RcNeAt A s (.ref a1) (.ref a2) (!dk (.lst l1) (.lst l2)):=by
 have e1:its1.toArray.size=l1.length:=by rw[Kf,<- Z.length,q1.length]
 have e2:its2.toArray.size=l2.length:=by rw[Kf,<- y2.length,q2.length]
 have hd:∀ d∈l1,d.dep<n:=λd hd=>by obtain⟨j,O⟩:=Kn.mp hd;have:=e_ O;simp only[D.dep]at hn;lia
 have he:∀ e∈l2,e.dep<1000:=λd hd=>by obtain⟨j,O⟩:=Kn.mp hd;have:=e_ O;simp only[D.dep]at hE;lia
 by_cases J:l1.length=l2.length
 .have z:=SeqAt.RcNeAt.lists p1 p2 (by rw[e1,e2,J]) Y (sJ ok q1 q2 Z y2 λd hm e W v w u u' i1 i2 r1 r2=>L d e v w u u' (hd d hm) (he e W) i1 i2 r1 r2);rw[e1,wK J]at z;exact z
 .have z:=SeqAt.RcNeAt.lists_lengths p1 p2 (by rw[e1,e2];simpa using J) Y;rw[show dk (.lst l1) (.lst l2)=eqDs l1 l2 from rfl,sK J];exact z
theorem xU:((List.range (min l1.length l2.length)).all (λj=>match l1[j]?,l2[j]? with|some d,some e=>dk d e|_,_=>true)&&l1.length==l2.length)=eqDs l1 l2:=by
 by_cases J:l1.length=l2.length
 .rw[J,Nat.min_self,<- J,wK J];simp[J]
 .rw[sK J];simp[J]
theorem rE (ok:HOk P w H s.heap)(hn:(D.tup l1).dep<=n)(Z:(D.tup l2).dep<1000)(hu:A.units<cLine)(q1:IsAll H m l1 vs1)(q2:IsAll H m' l2 vs2)(W:Vals vs1 its1)(Y:Vals vs2 its2)(p1:s.heap.IsTuple a1 its1.toArray)(p2:s.heap.IsTuple a2 its2.toArray)
 (J:mR H s m m' A n):SeqAt.RcAt A s (.ref a1) (.ref a2) (dk (.tup l1) (.tup l2)):=by
 have e1:its1.toArray.size=l1.length:=by rw[Kf,<- W.length,q1.length]
 have e2:its2.toArray.size=l2.length:=by rw[Kf,<- Y.length,q2.length]
 have hd:∀ d∈l1,d.dep<n:=λd hd=>by obtain⟨j,L⟩:=Kn.mp hd;have:=e_ L;simp only[D.dep]at hn;lia
 have he:∀ e∈l2,e.dep<1000:=λd hd=>by obtain⟨j,L⟩:=Kn.mp hd;have:=e_ L;simp only[D.dep]at Z;lia
 have z:=SeqAt.RcAt.tuples p1 p2 hu (sJ ok q1 q2 W Y λd hm e O v w u u' i1 i2 r1 r2=>J d e v w u u' (hd d hm) (he e O) i1 i2 r1 r2);rw[e1,e2,xU]at z;exact z
theorem uA (ok:HOk P w H s.heap)(hn:(D.tup l1).dep<=n)(Z:(D.tup l2).dep<1000)(hu:A.units<cLine)(q1:IsAll H m l1 vs1)(q2:IsAll H m' l2 vs2)(W:Vals vs1 its1)(Y:Vals vs2 its2)(p1:s.heap.IsTuple a1 its1.toArray)(p2:s.heap.IsTuple a2 its2.toArray)
 (J:mR H s m m' A n):SeqAt.RcNeAt A s (.ref a1) (.ref a2) (!dk (.tup l1) (.tup l2)):=by
 have e1:its1.toArray.size=l1.length:=by rw[Kf,<- W.length,q1.length]
 have e2:its2.toArray.size=l2.length:=by rw[Kf,<- Y.length,q2.length]
 have hd:∀ d∈l1,d.dep<n:=λd hd=>by obtain⟨j,L⟩:=Kn.mp hd;have:=e_ L;simp only[D.dep]at hn;lia
 have he:∀ e∈l2,e.dep<1000:=λd hd=>by obtain⟨j,L⟩:=Kn.mp hd;have:=e_ L;simp only[D.dep]at Z;lia
 have z:=SeqAt.RcNeAt.tuples p1 p2 hu (sJ ok q1 q2 W Y λd hm e O v w u u' i1 i2 r1 r2=>J d e v w u u' (hd d hm) (he e O) i1 i2 r1 r2);rw[e1,e2,xU]at z;exact z
theorem uB (h:SeqAt.RcAt A s (.ref a1) (.ref a2) k)(hs:a1=a2->k=true):SeqAt.EqAt A s (.ref a1) (.ref a2) k:=by
 by_cases e:a1=a2
 .subst e;rw[hs rfl];exact SeqAt.EqAt.same _
 .exact SeqAt.EqAt.of_refs e h
end
theorem Is.shape (ok:HOk P w H s.heap)(J:d.dep<1000)(h:Is H m d v)(r:RelV v u):(d=.non/\u=.none)\/(∃ b,d=.bl b/\u=.bool b)\/(∃ i t,d=.int i/\u=.int i t)\/(∃ x t,d=.str x/\u=.str x t)\/
 (∃ l a vs its,d=.lst l/\v=.ref a/\u=.ref a/\IsAll H m l vs/\Vals vs its/\s.heap.IsList a its.toArray)\/∃ l a vs its,d=.tup l/\v=.ref a/\u=.ref a/\IsAll H m l vs/\Vals vs its/\s.heap.IsTuple a its.toArray:=by
 cases d with
 |non=>cases h;cases r;exact .inl ⟨rfl,rfl⟩
 |bl b=>cases h;cases r;exact .inr (.inl ⟨b,rfl,rfl⟩)
 |int i=>cases h;obtain⟨t,rfl⟩:=r;exact .inr (.inr (.inl ⟨i,t,rfl,rfl⟩))
 |str x=>cases h;obtain⟨t,rfl⟩:=r;exact .inr (.inr (.inr (.inl ⟨x,t,rfl,rfl⟩)))
 |lst l=>obtain⟨a,vs,rfl,g,q⟩:=h;cases r;obtain⟨its,y,p⟩:=Ga ok g;exact .inr (.inr (.inr (.inr (.inl ⟨l,a,vs,its,rfl,rfl,rfl,q,y,p⟩))))
 |tup l=>obtain⟨a,vs,rfl,g,q⟩:=h;cases r;obtain⟨its,y,p⟩:=Gb ok g;exact .inr (.inr (.inr (.inr (.inr ⟨l,a,vs,its,rfl,rfl,rfl,q,y,p⟩))))
 |dic k l=>exact absurd J (by simp only[D.dep];lia)
theorem Dm (ok:HOk P w H s.heap)(J:A.units<cLine)(W:mR H s m m' A n)(hn:d.dep<=n)(hN:n<1000)(Y:e.dep<1000)(h1:Is H m d v)(h2:Is H m' e w')(r1:RelV v u)(r2:RelV w' u') :
 SeqAt.RcAt A s u u' (dk d e):=by
 rcases h1.shape ok (by lia) r1 with⟨rfl,rfl⟩|⟨b1,rfl,rfl⟩|⟨i1,t1,rfl,rfl⟩|⟨x1,t1,rfl,rfl⟩|⟨l1,a1,vs1,its1,rfl,rfl,rfl,q1,Z,p1⟩|⟨l1,a1,vs1,its1,rfl,rfl,rfl,q1,Z,p1⟩<;>rcases h2.shape ok Y r2 with⟨rfl,rfl⟩|⟨b2,rfl,rfl⟩|⟨i2,L,rfl,rfl⟩|⟨O,L,rfl,rfl⟩|⟨l2,a2,vs2,its2,rfl,rfl,rfl,q2,y2,p2⟩|⟨l2,a2,vs2,its2,rfl,rfl,rfl,q2,y2,p2⟩;exact .none_none;exact .none_bool b2;exact .none_int i2 L;exact .none_str O L;exact .none_list p2 J;exact .none_tuple p2 J;exact .bool_none b1;exact .bool_bool b1 b2;exact .bool_int b1 i2 L;exact .bool_str b1 O L;exact .bool_list b1 p2 J;exact .bool_tuple b1 p2 J;exact .int_none i1 t1;exact .int_bool i1 t1 b2;exact .int_int i1 t1 i2 L;exact .int_str i1 t1 O L;exact .int_list i1 t1 p2 J;exact .int_tuple i1 t1 p2 J;exact .str_none x1 t1;exact .str_bool x1 t1 b2;exact .str_int x1 t1 i2 L;exact .str_str x1 t1 O L;exact .str_list x1 t1 p2 J;exact .str_tuple x1 t1 p2 J;exact .list_none p1 J;exact .list_bool b2 p1 J;exact .list_int i2 L p1 J;exact .list_str O L p1 J;exact pk ok hn Y J q1 q2 Z y2 p1 p2 W;exact .list_tuple p1 p2 J;exact .tuple_none p1 J;exact .tuple_bool b2 p1 J;exact .tuple_int i2 L p1 J;exact .tuple_str O L p1 J;exact .tuple_list p1 p2 J;exact rE ok hn Y J q1 q2 Z y2 p1 p2 W
theorem Dn (ok:HOk P w H s.heap)(J:A.units<cLine)(W:mR H s m m' A n)(hn:d.dep<=n)(hN:n<1000)(Y:e.dep<1000)(h1:Is H m d v)(h2:Is H m' e w')(r1:RelV v u)(r2:RelV w' u') :
 SeqAt.RcNeAt A s u u' (!dk d e):=by
 rcases h1.shape ok (by lia) r1 with⟨rfl,rfl⟩|⟨b1,rfl,rfl⟩|⟨i1,t1,rfl,rfl⟩|⟨x1,t1,rfl,rfl⟩|⟨l1,a1,vs1,its1,rfl,rfl,rfl,q1,Z,p1⟩|⟨l1,a1,vs1,its1,rfl,rfl,rfl,q1,Z,p1⟩<;>rcases h2.shape ok Y r2 with⟨rfl,rfl⟩|⟨b2,rfl,rfl⟩|⟨i2,L,rfl,rfl⟩|⟨O,L,rfl,rfl⟩|⟨l2,a2,vs2,its2,rfl,rfl,rfl,q2,y2,p2⟩|⟨l2,a2,vs2,its2,rfl,rfl,rfl,q2,y2,p2⟩;exact .none_none;exact .none_bool b2;exact .none_int i2 L;exact .none_str O L;exact .none_list p2 J;exact .none_tuple p2 J;exact .bool_none b1;exact .bool_bool b1 b2;exact .bool_int b1 i2 L;exact .bool_str b1 O L;exact .bool_list b1 p2 J;exact .bool_tuple b1 p2 J;exact .int_none i1 t1;exact .int_bool i1 t1 b2;exact .int_int i1 t1 i2 L;exact .int_str i1 t1 O L;exact .int_list i1 t1 p2 J;exact .int_tuple i1 t1 p2 J;exact .str_none x1 t1;exact .str_bool x1 t1 b2;exact .str_int x1 t1 i2 L;exact .str_str x1 t1 O L;exact .str_list x1 t1 p2 J;exact .str_tuple x1 t1 p2 J;exact .list_none p1 J;exact .list_bool b2 p1 J;exact .list_int i2 L p1 J;exact .list_str O L p1 J;exact sL ok hn Y J q1 q2 Z y2 p1 p2 W;exact .list_tuple p1 p2 J;exact .tuple_none p1 J;exact .tuple_bool b2 p1 J;exact .tuple_int i2 L p1 J;exact .tuple_str O L p1 J;exact .tuple_list p1 p2 J;exact uA ok hn Y J q1 q2 Z y2 p1 p2 W
theorem xV (ok:HOk P w H s.heap)(J:A.units<cLine)(W:mR H s m m' A n)(hn:d.dep<=n)(hN:n<1000)(Y:e.dep<1000)(h1:Is H m d v)(h2:Is H m' e w')(r1:RelV v u)(r2:RelV w' u') :
 SeqAt.EqAt A s u u' (dk d e):=by
 rcases h1.shape ok (by lia) r1 with⟨rfl,rfl⟩|⟨b1,rfl,rfl⟩|⟨i1,t1,rfl,rfl⟩|⟨x1,t1,rfl,rfl⟩|⟨l1,a1,vs1,its1,rfl,rfl,rfl,q1,Z,p1⟩|⟨l1,a1,vs1,its1,rfl,rfl,rfl,q1,Z,p1⟩<;>rcases h2.shape ok Y r2 with⟨rfl,rfl⟩|⟨b2,rfl,rfl⟩|⟨i2,L,rfl,rfl⟩|⟨O,L,rfl,rfl⟩|⟨l2,a2,vs2,its2,rfl,rfl,rfl,q2,y2,p2⟩|⟨l2,a2,vs2,its2,rfl,rfl,rfl,q2,y2,p2⟩;exact .same _;exact .none_bool b2;exact .none_int i2 L;exact .none_str O L;exact .none_list p2 J;exact .none_tuple p2 J;exact .bool_none b1;exact .bool_bool b1 b2;exact .bool_int b1 i2 L;exact .bool_str b1 O L;exact .bool_list b1 p2 J;exact .bool_tuple b1 p2 J;exact .int_none i1 t1;exact .int_bool i1 t1 b2;exact .int_int i1 t1 i2 L;exact .int_str i1 t1 O L;exact .int_list i1 t1 p2 J;exact .int_tuple i1 t1 p2 J;exact .str_none x1 t1;exact .str_bool x1 t1 b2;exact .str_int x1 t1 i2 L;exact .str_str x1 t1 O L;exact .str_list x1 t1 p2 J;exact .str_tuple x1 t1 p2 J;exact .list_none p1 J;exact .list_bool b2 p1 J;exact .list_int i2 L p1 J;exact .list_str O L p1 J;exact uB (pk ok hn Y J q1 q2 Z y2 p1 p2 W) (λz=>by subst z;rw[Is.inj h1 h2];exact lC _);exact .list_tuple p1 p2 J;exact .tuple_none p1 J;exact .tuple_bool b2 p1 J;exact .tuple_int i2 L p1 J;exact .tuple_str O L p1 J;exact .tuple_list p1 p2 J;exact uB (rE ok hn Y J q1 q2 Z y2 p1 p2 W) (λz=>by subst z;rw[Is.inj h1 h2];exact lC _)
theorem Bg (ok:HOk P w H s.heap):∀(n:Nat)(A:Os){d e:D}{v J:V}{u u':Oq},A.units+n<cLine->n<1000->d.dep<=n->e.dep<1000->Is H m d v->Is H m' e J->RelV v u->RelV J u'->SeqAt.EqAt A s u u' (dk d e)
 |0,A,d,e,v,J,u,u',W,L,hn,O,h1,h2,r1,r2=>xV ok (by lia) (λd e v w u u' hd=>absurd hd (by lia)) hn L O h1 h2 r1 r2
 |n+1,A,d,e,v,J,u,u',W,L,hn,O,h1,h2,r1,r2=>xV ok (by lia) (λd e v w u u' hd Y i1 i2 r1 r2=>Bg ok n A.in1 (by show A.units+1+n<cLine;lia) (by lia) (by lia) Y i1 i2 r1 r2) hn L O h1 h2 r1 r2
theorem Bh (ok:HOk P w H s.heap)(L:A.units+n<cLine)(O:n<1000):mR H s m m' A n:=λd e v w u u' hd J i1 i2 r1 r2=>Bg ok (n-1) A.in1 (by show A.units+1+(n-1)<cLine;lia) (by lia) (by lia) J i1 i2 r1 r2
end
noncomputable abbrev St:=L2.St
inductive Res (α:Type) where
 |stuck|ok (a:α)|exc (c:Str)
noncomputable def Res.bind {α β:Type}:Res α->(α->Res β)->Res β
 | .stuck,_=>.stuck
 | .exc c,_=>.exc c
 | .ok a,k=>k a
@[simp] theorem Res.bind_ok {α β:Type}(a:α)(k:α->Res β):(Res.ok a).bind k=k a:=rfl
inductive Kd where
 |no|tr (d:D)|ds (d:D)
inductive Sl where
 |val (d:D) (fr:Bool)|own (ds:List D) (fr:Bool)|tre (d:D)|mes (d:D)
noncomputable abbrev En:=List (Option Sl)
inductive R where
 |val (d:D) (fr:Bool) (al:List Nat)|new (ds:List D) (fr:Bool)|fre (d:D)
noncomputable def R.d:R->D
 | .val d _ _=>d
 | .new ds _=>.lst ds
 | .fre d=>d
noncomputable def R.fr:R->Bool
 | .val _ f _=>f
 | .new _ f=>f
 | .fre _=>true
noncomputable def R.al:R->List Nat
 | .val _ _ al=>al
 | .new _ _=>[]
 | .fre _=>[]
@[simp] theorem R.d_val (d:D)(f:Bool)(al:List Nat):(R.val d f al).d=d:=rfl
noncomputable def mkV (d:D)(fr:Bool)(al:List Nat):R:=if d.flat then .val d true [] else .val d fr al
structure Gd where
 H₀:Hp
 Ma:Addr->Prop
 Z:Addr->Prop
 root:Option V
 rooT:Option V
noncomputable abbrev HH (H:Hp)(Ma:Addr->Prop):Gd:=⟨H,Ma,λ_=>False,none,none⟩
def MuZ (g:Gd)(H:Hp)(a:Addr):Prop:=Mu H a\/(g.Z a/\∃ o u,H a=some (.frz o u))
theorem MuZ.same (h:MuZ g H a)(s:∀ o,H a=some o->H' a=some o):MuZ g H' a:=h.imp (λz=>z.same s) λ⟨z,o,u,e⟩=>⟨z,o,u,s _ e⟩
def msk (g:Gd)(M:Addr->Prop)(fr:Bool)(a:Addr):Prop:=M a/\(fr=true->g.H₀ a=none)
noncomputable abbrev Pr:=Nat->Addr->Prop
def vmsk (g:Gd)(M:Addr->Prop)(fr:Bool)(ρ:Pr)(al:List Nat)(a:Addr):Prop:=msk g M fr a\/∃ i,i∈al/\ρ i a
mutual
noncomputable def IsSh (H:Hp)(m:Addr->Prop):D->V->Prop
 | .tup ds,v=>∃ a vs,v=.ref a/\H a=some (.tup vs)/\IsShs H m ds vs
 | .lst _,v=>∃ a vs,v=.ref a/\H a=some (.lst vs)/\m a
 |_,_=>True
noncomputable def IsShs (H:Hp)(m:Addr->Prop):List D->List V->Prop
 | [],_=>True
 |d::ds,vs=>∃ v r,vs=v::r/\IsSh H m d v/\IsShs H m ds r
end
def Dst (H:Hp)(T:Addr->Prop)(v:V):Prop:=∃(a:Addr)(vs:List V),v=.ref a/\T a/\(H a=some (.lst vs)\/(∃ kvs,H a=some (.dK kvs)/\vs=kvs.map Prod.snd)\/(H a=some (.dT [])/\vs=[]))/\V.ref a∉vs/\∀(i j:Nat)(b:Addr),vs[i]?=some (V.ref b)->vs[j]?=some (V.ref b)->i=j
theorem Dst.mono (kp:∀ a o,T a->H a=some o->H' a=some o)(J:∀ a,T a->T' a)(h:Dst H T v):Dst H' T' v:=by obtain⟨a,vs,e,ta,h1,h2⟩:=h;exact⟨a,vs,e,J a ta,h1.imp (kp a _ ta) (.imp (λ⟨kvs,q,z⟩=>⟨kvs,kp a _ ta q,z⟩) λ⟨q,z⟩=>⟨kp a _ ta q,z⟩),h2⟩
noncomputable def KdOk (H:Hp)(T:Addr->Prop)(v:V):Kd->Prop
 | .no=>True
 | .tr d=>Is H T d v
 | .ds d=>Is H T d v/\Dst H T v
theorem KdOk.mono (kp:∀ a o,H a=some o->(T a\/fixd o)->H' a=some o)(h:KdOk H T v k):KdOk H' T v k:=by
 cases k with
 |no=>exact h
 |tr d=>exact Is.mono kp (λ_ _ _ z=>z) h
 |ds d=>exact⟨Is.mono kp (λ_ _ _ z=>z) h.1,h.2.mono (λa o z e=>kp a o e (.inl z)) λ_ z=>z⟩
noncomputable def Gd.rt (g:Gd)(n:Nat):Option V:=if n=0 then g.root else g.rooT
noncomputable def SlOk (g:Gd)(M T:Addr->Prop)(H:Hp)(v:V):Sl->Prop
 | .val d fr=>Is H (msk g M fr) d v
 | .own ds fr=>∃ a vs,v=.ref a/\H a=some (.lst vs)/\(∀ b,T b↔b=a)/\IsAll H (msk g M fr) ds vs
 | .tre d=>Is H T d v
 | .mes d=>IsSh H T d v
noncomputable def Sl.isO:Sl->Bool
 | .val _ _=>false
 |_=>true
noncomputable def isOwn (env:En)(j:Nat):Bool:=match env[j]? with
 |some (some sl)=>sl.isO
 |_=>false
structure Rep (g:Gd) (M:Addr->Prop) (ρ:Pr) (env:En) (σ:St) (H:Hp):Prop where
 same:Same g.H₀ H
 froz:∀ a,M a->H a≠none
 inn:∀ a,M a->g.H₀ a=none\/g.Ma a
 fl:∀ a,M a->g.H₀ a=none->MuZ g H a
 slot:∀(i:Nat)(sl:Sl),env[i]?=some (some sl)->∃ v,σ[i]?=some (some v)/\SlOk g M (ρ i) H v sl
 priv:∀(i:Nat)(a:Addr),ρ i a->¬ M a/\g.H₀ a=none/\Mu H a
 apart:∀(i j:Nat)(a:Addr),ρ i a->ρ j a->i=j
 ow:∀(i:Nat)(a:Addr),ρ i a->isOwn env i=true
 len:env.length=σ.length
 zz:∀ a,g.Z a->H a≠none
noncomputable def ROk (g:Gd)(M:Addr->Prop)(ρ:Pr)(H0 H:Hp)(v:V):R->Prop
 | .val d fr al=>Is H (vmsk g M fr ρ al) d v
 | .new ds fr=>∃ a vs,v=.ref a/\H a=some (.lst vs)/\¬ M a/\H0 a=none/\(∀ i,¬ ρ i a)/\IsAll H (msk g M fr) ds vs
 | .fre d=>∃ T:Addr->Prop,(∀ a,T a->¬ M a/\H0 a=none/\Mu H a/\∀ i,¬ ρ i a)/\Is H T d v
structure Ext (M:Addr->Prop) (H:Hp) (M':Addr->Prop) (H':Hp):Prop where
 m:∀ a,M a->M' a
 h:Same H H'
 n:∀ a,M' a->M a\/H a=none
theorem Ext.refl (M:Addr->Prop)(H:Hp):Ext M H M H:=⟨λ_ z=>z,Same.refl H,λ_ z=>.inl z⟩
theorem Ext.trans {M M1 M2:Addr->Prop}(a:Ext M H M1 H1)(b:Ext M1 H1 M2 H2):Ext M H M2 H2:=⟨λx z=>b.m x (a.m x z),a.h.trans b.h,λx z=>(b.n x z).elim (a.n x) λw=>.inr (a.h.free w)⟩
section
variable {g:Gd}{M M':Addr->Prop}{ρ:Pr}{env:En}{σ:St}{H H' H0:Hp}{fr:Bool}{al:List Nat}
mutual
theorem IsSh.mono (kp:∀ a o,H a=some o->fixd o->H' a=some o)(J:∀ a vs,m a->H a=some (.lst vs)->∃ vs',H' a=some (.lst vs'))(L:∀ a,m a->m' a):∀{d:D}{v:V},IsSh H m d v->IsSh H' m' d v
 | .non,_,h=>h
 | .bl _,_,h=>h
 | .int _,_,h=>h
 | .str _,_,h=>h
 | .tup ds,_,h=>by obtain⟨a,vs,e,h1,h2⟩:=h;exact⟨a,vs,e,kp a _ h1 True.intro,IsShs.mono kp J L h2⟩
 | .lst ds,_,h=>by obtain⟨a,vs,e,h1,h2⟩:=h;obtain⟨vs',O⟩:=J a vs h2 h1;exact⟨a,vs',e,O,L a h2⟩
 | .dic _ _,_,h=>h
theorem IsShs.mono (kp:∀ a o,H a=some o->fixd o->H' a=some o)(J:∀ a vs,m a->H a=some (.lst vs)->∃ vs',H' a=some (.lst vs'))(L:∀ a,m a->m' a):∀{ds:List D}{vs:List V},IsShs H m ds vs->IsShs H' m' ds vs
 | [],_,h=>h
 |d::ds,_,h=>by obtain⟨v,r,e,h1,h2⟩:=h;exact⟨v,r,e,IsSh.mono kp J L h1,IsShs.mono kp J L h2⟩
end
theorem msk.mono (J:∀ a,M a->M' a)(h:msk g M fr a):msk g M' fr a:=⟨J a h.1,h.2⟩
theorem vmsk.mono (J:∀ a,M a->M' a)(h:vmsk g M fr ρ al a):vmsk g M' fr ρ al a:=h.imp (msk.mono J) id
theorem Is.ext (e:Ext M H M' H')(h:Is H (vmsk g M fr ρ al) d v):Is H' (vmsk g M' fr ρ al) d v:=h.mono (λa o q _=>e.h a o q) λ_ _ _ z=>z.mono e.m
theorem IsAll.ext (e:Ext M H M' H')(h:IsAll H (vmsk g M fr ρ al) ds vs):IsAll H' (vmsk g M' fr ρ al) ds vs:=h.mono (λa o q _=>e.h a o q) λ_ _ _ z=>z.mono e.m
theorem SlOk.weak (J:∀ a,M a->M' a)(h:SlOk g M T H v sl):SlOk g M' T H v sl:=by
 cases sl with
 |val d fr=>exact Is.weak (λb z=>msk.mono J z) h
 |own ds fr=>obtain⟨b,vs,rfl,h1,h2,L⟩:=h;exact⟨b,vs,rfl,h1,h2,IsAll.weak (λb z=>msk.mono J z) L⟩
 |tre d=>exact h
 |mes d=>exact h
theorem SlOk.same (s:Same H H')(h:SlOk g M T H v sl):SlOk g M T H' v sl:=by
 cases sl with
 |val d fr=>exact Is.same s h
 |own ds fr=>obtain⟨b,vs,rfl,h1,h2,J⟩:=h;exact⟨b,vs,rfl,s _ _ h1,h2,IsAll.same s J⟩
 |tre d=>exact Is.same s h
 |mes d=>exact IsSh.mono (λa o e _=>s a o e) (λa vs _ e=>⟨vs,s _ _ e⟩) (λ_ z=>z) h
theorem Rep.moreT {T:Addr->Prop}(r:Rep g M ρ env σ H)(ht:∀ a,T a->Mu H a/\g.H₀ a=none/\∀ i,¬ ρ i a):Rep g (λb=>M b\/T b) ρ env σ H where
 same:=r.same
 froz:=λb hb=>hb.elim (r.froz b) λe=>(ht b e).1.some
 inn:=λb hb=>hb.elim (r.inn b) λe=>.inl (ht b e).2.1
 fl:=λb hb h0=>hb.elim (λz=>r.fl b z h0) λe=>.inl (ht b e).1
 slot:=λi sl e=>by obtain⟨v,ev,s⟩:=r.slot i sl e;exact⟨v,ev,SlOk.weak (λ_=>.inl) s⟩
 priv:=λi a h=>⟨λz=>z.elim (r.priv i a h).1 λz=>(ht a z).2.2 i h,(r.priv i a h).2⟩
 apart:=r.apart
 ow:=r.ow
 len:=r.len
 zz:=r.zz
theorem Rep.more {a:Addr}(r:Rep g M ρ env σ H)(ha:H a=some (.lst ws))(h0:g.H₀ a=none)(no:∀ i,¬ ρ i a):Rep g (λb=>M b\/b=a) ρ env σ H:=r.moreT λb e=>by subst e;exact⟨Mu.lst ha,h0,no⟩
theorem Rep.grow (r:Rep g M ρ env σ H)(s:Same H H'):Rep g M ρ env σ H' where
 same:=r.same.trans s
 froz:=λa ha e=>by
  cases q:H a with
  |none=>exact r.froz a ha q
  |some o=>rw[s a o q]at e;cases e
 inn:=r.inn
 fl:=λa ha h0=>(r.fl a ha h0).same λo e=>s a o e
 slot:=λi sl e=>by obtain⟨v,ev,k⟩:=r.slot i sl e;exact⟨v,ev,SlOk.same s k⟩
 priv:=λi a h=>let ⟨a1,a2,a3⟩:=r.priv i a h;⟨a1,a2,a3.same λo e=>s a o e⟩
 apart:=r.apart
 ow:=r.ow
 len:=r.len
 zz:=λa z e=>by
  cases q:H a with
  |none=>exact r.zz a z q
  |some o=>rw[s a o q]at e;cases e
theorem Rep.free (r:Rep g M ρ env σ H)(h:H a=none):g.H₀ a=none/\¬ M a/\∀ i,¬ ρ i a:=by refine⟨r.same.free h,λz=>r.froz a z h,λi o=>?_⟩;exact(r.priv i a o).2.2.some h
theorem aK (h:H a=none):Same H (aI H a o):=λb u e=>by rw[ac (ah e h)];exact e
theorem ROk.is (J:Rep g M ρ env σ H)(x:Ext M0 H0 M H)(h0:Same g.H₀ H0)(h:ROk g M ρ H0 H v r):∃ M',Ext M0 H0 M' H/\(∀ a,M a->M' a)/\Rep g M' ρ env σ H/\Is H (vmsk g M' r.fr ρ r.al) r.d v:=by
 cases r with
 |val d fr al=>exact⟨M,x,λ_ z=>z,J,h⟩
 |new ds fr=>obtain⟨a,vs,rfl,h1,h2,O,Y,Z⟩:=h;have W:g.H₀ a=none:=h0.free O;exact⟨λb=>M b\/b=a,⟨λb z=>.inl (x.m b z),x.h,λb z=>z.elim (x.n b) λe=>.inr (e▸O)⟩,λ_=>.inl,J.more h1 W Y,a,vs,rfl,.inl ⟨h1,.inl ⟨.inr rfl,λ_=>W⟩⟩,IsAll.weak (λb z=>.inl (msk.mono (λ_=>.inl) z)) Z⟩
 |fre d=>obtain⟨T,L,is⟩:=h;exact⟨λb=>M b\/T b,⟨λb z=>.inl (x.m b z),x.h,λb z=>z.elim (x.n b) λe=>.inr (L b e).2.1⟩,λ_=>.inl,J.moreT λa z=>let ⟨a1,a2,a3,a4⟩:=L a z;⟨a3,h0.free a2,a4⟩,Is.weak (λb z=>.inl ⟨.inr z,λ_=>h0.free (L b z).2.1⟩) is⟩
theorem ROk.mkV (h:Is H (vmsk g M fr ρ al) d v):ROk g M ρ H0 H v (mkV d fr al):=by
 unfold L3.mkV;split
 .exact Is.flat (by assumption) h
 .exact h
theorem ROk.back (s:Same H1 H0)(h:ROk g M ρ H0 H v r):ROk g M ρ H1 H v r:=by
 cases r with
 |val d fr al=>exact h
 |new ds fr=>obtain⟨a,vs,rfl,h1,h2,J,L,O⟩:=h;exact⟨a,vs,rfl,h1,h2,s.free J,L,O⟩
 |fre d=>obtain⟨T,W,is⟩:=h;exact⟨T,λa z=>let ⟨a1,a2,Y⟩:=W a z;⟨a1,s.free a2,Y⟩,is⟩
end
def Do (mg:Str->Option Oq)(E:XK)(g:Gd)(c:Str):Prop:=∀ cls dx H',mg c=some cls->Same g.H₀ H'->E cls dx H'
section
variable (mg:Str->Option Oq)(E:XK)(g:Gd)(M:Addr->Prop)(ρ:Pr)(env:En)(σ:St)(H:Hp)
noncomputable def PostE (Q:VK):Res R->Prop
 | .stuck=>False
 | .exc c=>Do mg E g c
 | .ok r=>∀ v M' H',Ext M H M' H'->Rep g M' ρ env σ H'->ROk g M' ρ H H' v r->Q v H'
noncomputable def bu (rs:List R):Bool:=rs.all R.fr
noncomputable def cb (rs:List R):List Nat:=rs.flatMap R.al
noncomputable def PostA (Q:List V->Hp->Prop):Res (List R)->Prop
 | .stuck=>False
 | .exc c=>Do mg E g c
 | .ok rs=>∀ vs M' H',Ext M H M' H'->Rep g M' ρ env σ H'->IsAll H' (vmsk g M' (bu rs) ρ (cb rs)) (rs.map R.d) vs->Q vs H'
noncomputable def PostT (Q:Bool->Hp->Prop):Res Bool->Prop
 | .stuck=>False
 | .exc c=>Do mg E g c
 | .ok b=>∀ M' H',Ext M H M' H'->Rep g M' ρ env σ H'->Q b H'
end
def Snd (mg:Str->Option Oq)(E:XK)(t:TE)(f:En->Res R):Prop:=∀ g M ρ env σ H Q,Rep g M ρ env σ H->PostE mg E g M ρ env σ H Q (f env)->t σ H Q
def SndA (mg:Str->Option Oq)(E:XK)(t:TA)(f:En->Res (List R)):Prop:=∀ g M ρ env σ H Q,Rep g M ρ env σ H->PostA mg E g M ρ env σ H Q (f env)->t σ H Q
def SndT (mg:Str->Option Oq)(E:XK)(t:TT)(f:En->Res Bool):Prop:=∀ g M ρ env σ H Q,Rep g M ρ env σ H->PostT mg E g M ρ env σ H Q (f env)->t σ H Q
def PD (X:Cx)(E:XK)(e:Expr)(f:En->Res R):Prop:=∃ t,PE X e t/\Snd X.mg E t f
def Ah (X:Cx)(E:XK)(es:List Expr)(f:En->Res (List R)):Prop:=∃ t,PA X es t/\SndA X.mg E t f
def xW (X:Cx)(E:XK)(e:Expr)(f:En->Res Bool):Prop:=∃ t,PT X e t/\SndT X.mg E t f
def PWD (X:Cx)(E:XK)(e:Expr)(f:En->Res Bool):Prop:=∃ t,PW X e t/\SndT X.mg E t f
theorem PWD.pt (h:PWD X E e f):xW X E e f:=let ⟨t,a,b⟩:=h;⟨t,a.pt,b⟩
section
variable {mg:Str->Option Oq}{E:XK}{g:Gd}{M M':Addr->Prop}{ρ:Pr}{env:En}{σ:St}{H H':Hp}
theorem PostE.ext (e:Ext M H M' H')(p:PostE mg E g M ρ env σ H Q r):PostE mg E g M' ρ env σ H' Q r:=by
 cases r with
 |stuck=>exact p
 |exc c=>exact p
 |ok r=>exact λv M2 H2 e2 rep2 ro=>p v M2 H2 (e.trans e2) rep2 (ro.back e.h)
theorem PostA.ext (e:Ext M H M' H')(p:PostA mg E g M ρ env σ H Q r):PostA mg E g M' ρ env σ H' Q r:=by
 cases r with
 |stuck=>exact p
 |exc c=>exact p
 |ok r=>exact λv M2 H2 e2=>p v M2 H2 (e.trans e2)
theorem PostT.ext (e:Ext M H M' H')(p:PostT mg E g M ρ env σ H Q r):PostT mg E g M' ρ env σ H' Q r:=by
 cases r with
 |stuck=>exact p
 |exc c=>exact p
 |ok r=>exact λM2 H2 e2=>p M2 H2 (e.trans e2)
theorem PostE.val (p:PostE mg E g M ρ env σ H Q (.ok (mkV d fr al)))(J:Rep g M ρ env σ H)(h:Is H (vmsk g M fr ρ al) d v):Q v H:=p v M H (Ext.refl M H) J (ROk.mkV h)
theorem PostE.new (p:PostE mg E g M ρ env σ H Q (.ok (.new ds fr)))(J:Rep g M ρ env σ H)(ha:H a=none)(h:IsAll H (msk g M fr) ds vs):Q (.ref a) (aI H a (.lst vs)):=by have s:Same H (aI H a (.lst vs)):=aK ha;obtain⟨h0,hm,L⟩:=J.free ha;exact p _ M _ ⟨λ_ z=>z,s,λ_ z=>.inl z⟩ (J.grow s) ⟨a,vs,rfl,af,hm,ha,L,IsAll.same s h⟩
theorem PostE.tup (p:PostE mg E g M ρ env σ H Q (.ok (mkV (.tup ds) fr al)))(J:Rep g M ρ env σ H)(ha:H a=none)(h:IsAll H (vmsk g M fr ρ al) ds vs):Q (.ref a) (aI H a (.tup vs)):=by have s:Same H (aI H a (.tup vs)):=aK ha;exact p _ M _ ⟨λ_ z=>z,s,λ_ z=>.inl z⟩ (J.grow s) (ROk.mkV ⟨a,vs,rfl,af,IsAll.same s h⟩)
theorem Snd.one {t:TE}{f:En->Res R}(h:Snd mg E t f)(L:Rep g M ρ env σ H){α:Type}{K:R->Res α}{P:(M:Addr->Prop)->(H:Hp)->Res α->Prop}{Q:VK}
 (J:P M H ((f env).bind K)) (hs:∀ M H,P M H .stuck->False) (O:∀ M H c,P M H (.exc c)->Do mg E g c) (W:∀ M H M' H' r,Ext M H M' H'->P M H r->P M' H' r)
 (k:∀ r v M' H',Ext M H M' H'->Rep g M' ρ env σ H'->Is H' (vmsk g M' r.fr ρ r.al) r.d v->P M' H' (K r)->Q v H'):t σ H Q:=by
 refine h g M ρ env σ H Q L ?_;cases e:f env with
 |stuck=>rw[e]at J;exact hs _ _ J
 |exc c=>rw[e]at J;exact O _ _ c J
 |ok r=>rw[e]at J;intro v M1 H1 e1 rep1 ro;obtain⟨M2,e2,_,rep2,is⟩:=ro.is rep1 e1 L.same;exact k r v M2 H1 e2 rep2 is (W _ _ _ _ _ e2 J)
theorem Snd.oneE {f:En->Res R}(h:Snd mg E t f)(J:Rep g M ρ env σ H){K:R->Res R}(L:PostE mg E g M ρ env σ H Q' ((f env).bind K))
 (k:∀ r v M' H',Ext M H M' H'->Rep g M' ρ env σ H'->Is H' (vmsk g M' r.fr ρ r.al) r.d v->PostE mg E g M' ρ env σ H' Q' (K r)->Q v H'):t σ H Q:=
 h.one J (P:=λM H r=>PostE mg E g M ρ env σ H Q' r) L (λ_ _ z=>z) (λ_ _ _ z=>z) (λ_ _ _ _ _ e p=>p.ext e) k
theorem Snd.oneA {f:En->Res R}(h:Snd mg E t f)(J:Rep g M ρ env σ H){K:R->Res (List R)}{L:List V->Hp->Prop}(O:PostA mg E g M ρ env σ H L ((f env).bind K))
 (k:∀ r v M' H',Ext M H M' H'->Rep g M' ρ env σ H'->Is H' (vmsk g M' r.fr ρ r.al) r.d v->PostA mg E g M' ρ env σ H' L (K r)->Q v H'):t σ H Q:=
 h.one J (P:=λM H r=>PostA mg E g M ρ env σ H L r) O (λ_ _ z=>z) (λ_ _ _ z=>z) (λ_ _ _ _ _ e p=>p.ext e) k
theorem Snd.oneT {f:En->Res R}(h:Snd mg E t f)(J:Rep g M ρ env σ H){K:R->Res Bool}{L:Bool->Hp->Prop}(O:PostT mg E g M ρ env σ H L ((f env).bind K))
 (k:∀ r v M' H',Ext M H M' H'->Rep g M' ρ env σ H'->Is H' (vmsk g M' r.fr ρ r.al) r.d v->PostT mg E g M' ρ env σ H' L (K r)->Q v H'):t σ H Q:=
 h.one J (P:=λM H r=>PostT mg E g M ρ env σ H L r) O (λ_ _ z=>z) (λ_ _ _ z=>z) (λ_ _ _ _ _ e p=>p.ext e) k
theorem Snd.twoE {W Y:En->Res R}(ha:Snd mg E ta W)(Z:Snd mg E tb Y)(O:Rep g M ρ env σ H){K:R->R->Res R}{S:V->V->Hp->Prop}
 (hp:PostE mg E g M ρ env σ H Q' ((W env).bind λJ=>(Y env).bind λL=>K J L))
 (k:∀ J L x y M' H',Rep g M' ρ env σ H'->Is H' (vmsk g M' J.fr ρ J.al) J.d x->Is H' (vmsk g M' L.fr ρ L.al) L.d y->PostE mg E g M' ρ env σ H' Q' (K J L)->S x y H') :
 ta σ H λx H1=>tb σ H1 λy H2=>S x y H2:=
 ha.oneE O hp λJ x M1 H1 e1 rep1 i1 p1=>Z.oneE rep1 p1 λL y M2 H2 e2 rep2 i2 p2=>k J L x y M2 H2 rep2 (i1.ext e2) i2 p2
end
noncomputable def lim:Nat:=1000000
theorem ic (h:n<=lim):n<=sizeLine:=by rw[KL];unfold lim at h;lia
theorem Bi (h:n<lim):n<sizeLine:=by rw[KL];unfold lim at h;lia
noncomputable def lD (ds:List D)(fr:Bool)(al:List Nat):R:=if D.flats ds then .new ds true else if al.isEmpty then .new ds fr else .val (.lst ds) fr al
section
variable {mg:Str->Option Oq}{E:XK}{g:Gd}{M M':Addr->Prop}{ρ:Pr}{env:En}{σ:St}{H H':Hp}
theorem vmsk.nil (h:vmsk g M fr ρ [] a):msk g M fr a:=h.elim id λ⟨_,z,_⟩=>absurd z (by simp)
theorem PostE.lst (p:PostE mg E g M ρ env σ H Q (.ok (lD ds fr al)))(J:Rep g M ρ env σ H)(ha:H a=none)(h:IsAll H (vmsk g M fr ρ al) ds vs):Q (.ref a) (aI H a (.lst vs)):=by
 unfold lD at p;by_cases hf:D.flats ds=true
 .rw[Ka hf]at p;exact p.new J ha (IsAll.flat hf h)
 .rw[J_ hf]at p;cases al with
  |nil=>exact PostE.new (p:=p) J ha (IsAll.weak (λ_ z=>z.nil) h)
  |cons i al=>have p:PostE mg E g M ρ env σ H Q (.ok (.val (.lst ds) fr (i::al))):=p;have s:Same H (aI H a (.lst vs)):=aK ha;obtain⟨h0,hm,L⟩:=J.free ha;refine p _ (λb=>M b\/b=a) _ ⟨λ_=>.inl,s,λb z=>z.imp id λ(e:b=a)=>by rw[e];exact ha⟩ ((J.grow s).more af h0 L) ⟨a,vs,rfl,.inl ⟨af,.inl ⟨.inr rfl,λ_=>h0⟩⟩,?_⟩;exact(IsAll.same s h).weak λb z=>z.mono λ_=>.inl
theorem Is.rd (h:Is H m (.lst ds) v):∃ a vs,v=.ref a/\Rd H a (.lst vs)/\IsAll H m ds vs:=by obtain⟨a,vs,e,h1,h2⟩:=h;exact⟨a,vs,e,h1.imp (·.1) λ⟨o,z,_⟩=>⟨o,z⟩,h2⟩
end
section
variable {X:Cx}{E:XK}
noncomputable def ao (i:Nat):En->Res R:=λenv=>match env[i]? with
 |some (some (.val d fr))=>.ok (mkV d fr [])
 |some (some (.own ds fr))=>.ok (.val (.lst ds) fr [i])
 |some (some (.tre d))=>.ok (.val d true [i])
 |_=>.stuck
theorem xX:Snd mg E (aA i) (ao i):=by
 intro g M ρ env σ H Q J p;unfold ao at p;cases e1:env[i]? with
 |none=>rw[e1]at p;exact p.elim
 |some o=>
  cases o with
  |none=>rw[e1]at p;exact p.elim
  |some sl=>
   obtain⟨v,ev,k⟩:=J.slot i sl e1;rw[e1]at p;refine⟨v,ev,?_⟩;cases sl with
   |val d fr=>exact PostE.val p J (Is.weak (λ_ z=>.inl z) k)
   |own ds fr=>obtain⟨a,vs,rfl,h1,h2,L⟩:=k;exact p _ M H (Ext.refl M H) J ⟨a,vs,rfl,.inl ⟨h1,.inr ⟨i,by simp,(h2 a).mpr rfl⟩⟩,IsAll.weak (λ_ z=>.inl z) L⟩
   |tre d=>exact p _ M H (Ext.refl M H) J (Is.weak (λa z=>.inr ⟨i,by simp,z⟩) k)
   |mes d=>exact p.elim
theorem Gc (h:PE X e (aA i)):PD X E e (ao i):=⟨_,h,xX⟩
noncomputable def vC (d:D):En->Res R:=λ_=>.ok (.val d true [])
theorem xY (h:∀ H m,Is H m d v):Snd mg E (tC v) (vC d):=λg M ρ env σ H Q J p=>p v M H (Ext.refl M H) J (h H _)
theorem aw {i j pos}:PD X E (.Constant (.int i) j pos) (vC (.int i)):=⟨_,aJ,xY λ_ _=>rfl⟩
theorem iU {b j pos}:PD X E (.Constant (.bool b) j pos) (vC (.bl b)):=⟨_,Hi,xY λ_ _=>rfl⟩
theorem Ge {x j pos}:PD X E (.Constant (.str x) j pos) (vC (.str x)):=⟨_,Fu,xY λ_ _=>rfl⟩
theorem Bj {j pos}:PD X E (.Constant .none j pos) (vC .non):=⟨_,lY,xY λ_ _=>rfl⟩
noncomputable def v2 (op:R->R->Res R)(J L:En->Res R):En->Res R:=λenv=>(J env).bind λO=>(L env).bind λW=>op O W
def mS (X:Cx)(E:XK)(f:Oq->Oq->Sem Oq)(op:R->R->Res R):Prop:=∃ r:R2,OpR X f r/\
 ∀ g M ρ env σ H Q J L x y,Rep g M ρ env σ H->Is H (vmsk g M J.fr ρ J.al) J.d x->Is H (vmsk g M L.fr ρ L.al) L.d y->PostE X.mg E g M ρ env σ H Q (op J L)->r x y H Q
theorem aH (O:mS X E (binaryOp op) k)(ha:PD X E a fa)(W:PD X E b fb):PD X E (.BinOp a op b pos) (v2 k fa fb):=by obtain⟨r,h1,h2⟩:=O;obtain⟨ta,Y,sa⟩:=ha;obtain⟨tb,Z,sb⟩:=W;exact⟨_,oM h1 Y Z,λg M ρ env σ H Q L p=>sa.twoE sb L p λra rb x y M' H' J i1 i2 p'=>h2 g M' ρ env σ H' Q ra rb x y J i1 i2 p'⟩
theorem ie (O:mS X E (compareOp op) k)(ha:PD X E a fa)(W:PD X E b fb)(hm:behindInMarks op b=false):PD X E (.Compare a [op] [b] pos) (v2 k fa fb):=by obtain⟨r,h1,h2⟩:=O;obtain⟨ta,Y,sa⟩:=ha;obtain⟨tb,Z,sb⟩:=W;exact⟨_,xy h1 Y Z hm,λg M ρ env σ H Q L p=>sa.twoE sb L p λra rb x y M' H' J i1 i2 p'=>h2 g M' ρ env σ H' Q ra rb x y J i1 i2 p'⟩
noncomputable def oI (C:Int->Int->Bool)(k:Int->Int->D)(a b:R):Res R:=match a.d,b.d with
 | .int i,.int j=>if C i j then .ok (.val (k i j) true []) else .stuck
 |_,_=>.stuck
theorem uC {f:Oq->Oq->Sem Oq}{C:Int->Int->Prop}{kV:Int->Int->V}(c:Int->Int->Bool)(k:Int->Int->D)(L:OpR X f (rI C kV))(hc:∀ i j,c i j=true->C i j)(O:∀ H m i j,Is H m (k i j) (kV i j)):mS X E f (oI c k):=by
 refine⟨_,L,λg M ρ env σ H Q W Y x y J i1 i2 p=>?_⟩;unfold oI at p;cases e1:W.d with
 |int i=>
  rw[e1]at p i1;cases e2:Y.d with
  |int j=>
   rw[e2]at p i2;cases i1;cases i2;by_cases h:c i j=true
   .simp only[h,Mb]at p;exact⟨i,j,rfl,rfl,hc i j h,p _ M H (Ext.refl M H) J (O H _ i j)⟩
   .simp only[h]at p;exact p.elim
  |_=>rw[e2]at p;exact p.elim
 |_=>rw[e1]at p;exact p.elim
theorem pq {f:Oq->Oq->Sem Oq}{kV:Int->Int->V}(k:Int->Int->D)(J:OpR X f (xw kV))(L:∀ H m i j,Is H m (k i j) (kV i j)):mS X E f (oI (λ_ _=>true) k):=by refine uC (C:=λ_ _=>True) (kV:=kV) _ k (λpins s σ H x y v u Q I O W h=>?_) (λ_ _ _=>True.intro) L;obtain⟨i,j,a,b,_,q⟩:=h;exact J pins s σ H x y v u Q I O W ⟨i,j,a,b,q⟩
noncomputable def Bk (i j:Int):Bool:=(decide (-(2 ^ 64)<i)&&decide (i<2 ^ 64)) || (decide (-(2 ^ 64)<j)&&decide (j<2 ^ 64))
noncomputable def wL:R->R->Res R:=oI Bk λi j=>.int (i*j)
noncomputable def n9:R->R->Res R:=oI (λ_ j=>decide (0<j)&&decide (j<1073741824)) λi j=>.int (i / j)
noncomputable def dn:R->R->Res R:=oI (λ_ j=>decide (0<j)) λi j=>.int (i % j)
theorem px:mS X E (binaryOp .Mult) wL:=uC _ _ FI (λi j h=>by simp only[Bk,N0,Ky,ME]at h;exact h) λ_ _ _ _=>rfl
theorem gK:mS X E (binaryOp .FloorDiv) n9:=uC _ _ CS (λi j h=>by simp only[Ky,ME]at h;exact h) λ_ _ _ _=>rfl
theorem bh:mS X E (binaryOp .Mod) dn:=uC _ _ FJ (λi j h=>by simpa using h) λ_ _ _ _=>rfl
noncomputable def Dp:R->R->Res R:=oI (λ_ _=>true) λi j=>.bl (decide (i<j))
noncomputable def Hg:R->R->Res R:=oI (λ_ _=>true) λi j=>.bl (decide (i<=j))
noncomputable def Jx:R->R->Res R:=oI (λ_ _=>true) λi j=>.bl (decide (j<i))
noncomputable def Jy:R->R->Res R:=oI (λ_ _=>true) λi j=>.bl (decide (j<=i))
theorem pz:mS X E (compareOp .Lt) Dp:=pq _ Eu λ_ _ _ _=>rfl
theorem xZ:mS X E (compareOp .LtE) Hg:=pq _ Hu λ_ _ _ _=>rfl
theorem HI:mS X E (compareOp .Gt) Jx:=pq _ Ew λ_ _ _ _=>rfl
theorem HJ:mS X E (compareOp .GtE) Jy:=pq _ Hv λ_ _ _ _=>rfl
theorem Inv.rdL (I:L2.Inv X pins σ H s)(h:Rd H l (.lst xs)) :
 xs.length<=sizeLine/\∃(its:List Oq)(n:Nat),Vals xs its/\xs.length=its.length/\s.heap.get? l=some { cls:=.type "list",data:=.seq its.toArray n }:=by
 obtain⟨z,its,n,r,e⟩:=(h.ok I.hok:ObjOk X.prog X.w H s.heap l (.lst xs));exact⟨z,its,n,r,r.length,e⟩
noncomputable def HK:R2:=λx y H Q=>∃ l b xs zs,x=.ref l/\y=.ref b/\Rd H l (.lst xs)/\Rd H b (.lst zs)/\xs.length+zs.length<=sizeLine/\∀ p,H p=none->Q (.ref p) (aI H p (.lst (xs++zs)))
theorem op_catS:OpR X (binaryOp .Add) HK:=by
 intro pins s σ H x y v u Q I J L h;obtain⟨l,b,xs,zs,rfl,rfl,O,W,hz,q⟩:=h;cases J;cases L;obtain⟨z,its,n,r,hl,e⟩:=Inv.rdL I O;obtain⟨z2,its2,n2,r2,Y,e2⟩:=Inv.rdL I W;refine PySem.P.add_list e e2 ?_ (by rw[Kf,Kf];lia);have Z:its.toArray++its2.toArray=(its++its2).toArray:=by simp
 rw[Z];exact⟨.ref _,_,I.lnew (t':=s.toks) (r.append r2) (by rw[Kp];lia),rfl,q _ I.fresh⟩
noncomputable def dc (a b:R):Res R:=match a.d,b.d with
 | .int i,.int j=>.ok (.val (.int (i+j)) true [])
 | .lst xs,.lst ys=>if xs.length+ys.length<=lim then .ok (lD (xs++ys) (a.fr&&b.fr) (a.al++b.al)) else .stuck
 | .tup xs,.tup ys=>if xs.length+ys.length<=lim/\xs≠[] then .ok (mkV (.tup (xs++ys)) (a.fr&&b.fr) (a.al++b.al)) else .stuck
 | .str x,.str y=>if x.length+y.length<=lim then .ok (.val (.str (x++y)) true []) else .stuck
 |_,_=>.stuck
section
variable {g:Gd}{M:Addr->Prop}{ρ:Pr}{env:En}{σ:St}
theorem vmsk.l (h:vmsk g M f1 ρ l1 a):vmsk g M (f1&&f2) ρ (l1++l2) a:=h.imp (λz=>⟨z.1,λe=>z.2 (by cases f1<;>simp_all)⟩) λ⟨i,hi,o⟩=>⟨i,by simp[hi],o⟩
theorem vmsk.r (h:vmsk g M f2 ρ l2 a):vmsk g M (f1&&f2) ρ (l1++l2) a:=h.imp (λz=>⟨z.1,λe=>z.2 (by cases f2<;>simp_all)⟩) λ⟨i,hi,o⟩=>⟨i,by simp[hi],o⟩
end
theorem bN:mS X E (binaryOp .Add) dc:=by
 refine⟨_,op_add.or (op_catS.or (op_catT.or v9)),λg M ρ env σ H Q Z O x y J i1 i2 p=>?_⟩;unfold dc at p;cases e1:Z.d with
 |int i=>
  rw[e1]at p i1;cases e2:O.d with
  |int j=>rw[e2]at p i2;cases i1;cases i2;exact .inl ⟨i,j,rfl,rfl,p _ M H (Ext.refl M H) J rfl⟩
  |_=>rw[e2]at p;exact p.elim
 |lst xs=>
  rw[e1]at p i1;cases e2:O.d with
  |lst ys=>
   rw[e2]at p i2;obtain⟨a,vs,rfl,h1,h2⟩:=i1.rd;obtain⟨b,ws,rfl,W,L⟩:=i2.rd;by_cases hz:xs.length+ys.length<=lim
   .simp only[hz,Mb]at p;refine .inr (.inl ⟨a,b,vs,ws,rfl,rfl,h1,W,by rw[h2.length,L.length];exact ic hz,λq Y=>?_⟩);exact p.lst J Y ((h2.weak λ_ z=>z.l).append (L.weak λ_ z=>z.r))
   .simp only[hz,K8]at p;exact p.elim
  |_=>rw[e2]at p;exact p.elim
 |tup xs=>
  rw[e1]at p i1;cases e2:O.d with
  |tup ys=>
   rw[e2]at p i2;obtain⟨a,vs,rfl,h1,h2⟩:=i1;obtain⟨b,ws,rfl,W,L⟩:=i2;dsimp only at p;by_cases hz:xs.length+ys.length<=lim/\xs≠[]
   .rw[Ka hz]at p;have n1:vs≠[]:=λz=>hz.2 (by have:=h2.length;rw[z]at this;exact NP this.symm);refine .inr (.inr (.inl ⟨a,b,vs,ws,rfl,rfl,SqT.of h1,SqT.of W,n1,by rw[h2.length,L.length];exact ic hz.1,λz=>?_,λ_ q Y=>?_⟩))
    .have ey:ys=[]:=by have:=L.length;rw[z]at this;exact NP this.symm
     rw[ey,KW]at p;exact p.val J (Is.weak (d:=.tup xs) (λ_ z=>z.l) ⟨a,vs,rfl,h1,h2⟩)
    .exact p.tup J Y ((h2.weak λ_ z=>z.l).append (L.weak λ_ z=>z.r))
   .rw[J_ hz]at p;exact p.elim
  |_=>rw[e2]at p;exact p.elim
 |str xs=>
  rw[e1]at p i1;cases e2:O.d with
  |str ys=>
   rw[e2]at p i2;cases i1;cases i2;by_cases hz:xs.length+ys.length<=lim
   .simp only[hz,Mb]at p;exact .inr (.inr (.inr ⟨xs,ys,rfl,rfl,ic hz,p _ M H (Ext.refl M H) J rfl⟩))
   .simp only[hz,K8]at p;exact p.elim
  |_=>rw[e2]at p;exact p.elim
 |_=>rw[e1]at p;exact p.elim
noncomputable def x4 (a b:R):Res R:=if a.d.dep<=50/\b.d.dep<=50 then .ok (.val (.bl (dk a.d b.d)) true []) else .stuck
noncomputable def Bl (a b:R):Res R:=if a.d.dep<=50/\b.d.dep<=50 then .ok (.val (.bl (!dk a.d b.d)) true []) else .stuck
noncomputable def Jz:R2:=λx y H Q=>∃ d e m m',Is H m d x/\Is H m' e y/\(d.dep<=50/\e.dep<=50)/\Q (.bl (dk d e)) H
noncomputable def JA:R2:=λx y H Q=>∃ d e m m',Is H m d x/\Is H m' e y/\(d.dep<=50/\e.dep<=50)/\Q (.bl (!dk d e)) H
theorem Gf (O:X.A.units+64<cLine):OpR X (compareOp .Eq) Jz:=by intro pins s σ H x y v u Q I J L h;obtain⟨d,e,m,m',h1,h2,hd,q⟩:=h;exact Dm I.hok (by lia) (Bh I.hok (A:=X.A) (n:=50) (by lia) (by lia)) hd.1 (by lia) (by lia) h1 h2 J L X.prog X.w X.xe _ ⟨.bl _,H,I,rfl,q⟩
theorem Gg (O:X.A.units+64<cLine):OpR X (compareOp .NotEq) JA:=by intro pins s σ H x y v u Q I J L h;obtain⟨d,e,m,m',h1,h2,hd,q⟩:=h;exact Dn I.hok (by lia) (Bh I.hok (A:=X.A) (n:=50) (by lia) (by lia)) hd.1 (by lia) (by lia) h1 h2 J L X.prog X.w X.xe _ ⟨.bl _,H,I,rfl,q⟩
theorem kE (L:X.A.units+64<cLine):mS X E (compareOp .Eq) x4:=by
 refine⟨_,Gf L,λg M ρ env σ H Q O W x y J i1 i2 p=>?_⟩;unfold x4 at p;by_cases h:O.d.dep<=50/\W.d.dep<=50
 .rw[Ka h]at p;exact⟨_,_,_,_,i1,i2,h,p _ M H (Ext.refl M H) J rfl⟩
 .rw[J_ h]at p;exact p.elim
theorem rF (L:X.A.units+64<cLine):mS X E (compareOp .NotEq) Bl:=by
 refine⟨_,Gg L,λg M ρ env σ H Q O W x y J i1 i2 p=>?_⟩;unfold Bl at p;by_cases h:O.d.dep<=50/\W.d.dep<=50
 .rw[Ka h]at p;exact⟨_,_,_,_,i1,i2,h,p _ M H (Ext.refl M H) J rfl⟩
 .rw[J_ h]at p;exact p.elim
end
section
variable {X:Cx}{E:XK}
noncomputable def D.isNon:D->Bool
 | .non=>true
 |_=>false
theorem Is.non_iff (h:Is H m d v):decide (v=.non)=d.isNon:=by
 cases d with
 |non=>cases h;rfl
 |bl b=>cases h;rfl
 |int b=>cases h;rfl
 |str b=>cases h;rfl
 |tup ds=>obtain⟨a,vs,rfl,_⟩:=h;rfl
 |lst ds=>obtain⟨a,vs,rfl,_⟩:=h;rfl
 |dic ks ds=>obtain⟨a,vs,rfl,_⟩:=h;rfl
noncomputable def Bm (J:En->Res R):En->Res R:=λenv=>(J env).bind λL=>.ok (.val (.bl L.d.isNon) true [])
theorem wM (ha:PD X E a fa):PD X E (.Compare a [.Is] [.Constant .none j pos'] pos) (Bm fa):=by obtain⟨ta,O,sa⟩:=ha;refine⟨_,Fv (Al O),λg M ρ env σ H Q L p=>sa.oneE L p λr v M' H' e J i W=>?_⟩;show Q (.bl (decide (v=.non))) H';rw[i.non_iff];exact W _ M' H' (Ext.refl _ _) J rfl
noncomputable def Gh (J:En->Res R):En->Res R:=λenv=>(J env).bind λL=>match L.d with
 | .bl b=>.ok (.val (.bl (!b)) true [])
 |_=>.stuck
noncomputable def Bn (J L:En->Res R):En->Res R:=λenv=>(J env).bind λO=>match O.d with
 | .bl true=>L env
 | .bl false=>.ok (.val (.bl false) true [])
 |_=>.stuck
noncomputable def JB (J L:En->Res R):En->Res R:=λenv=>(J env).bind λO=>match O.d with
 | .bl true=>.ok (.val (.bl true) true [])
 | .bl false=>L env
 |_=>.stuck
theorem Gj (ha:PD X E a fa):PD X E (.UnaryOp .Not a pos) (Gh fa):=by
 obtain⟨ta,W,sa⟩:=ha;refine⟨_,FC W,λg M ρ env σ H Q O p=>sa.oneE O p λr v M' H' e J i L=>?_⟩;cases q:r.d with
 |bl b=>rw[q]at i;simp only[q]at L;cases i;exact⟨b,rfl,L _ M' H' (Ext.refl _ _) J rfl⟩
 |_=>simp only[q]at L;exact L.elim
theorem sM (ha:PD X E a fa):PD X E (.BoolOp op [a] pos) fa:=let ⟨t,J,sa⟩:=ha;⟨t,Fz J,sa⟩
theorem wN {rest:List Expr}{W Y:En->Res R}{pos:Pos}(ha:PD X E a W)(Z:PD X E (.BoolOp .And (b::rest) pos) Y):PD X E (.BoolOp .And (a::b::rest) pos) (Bn W Y):=by
 obtain⟨ta,pa,sa⟩:=ha;obtain⟨tb,pb,sb⟩:=Z;refine⟨_,FA pa pb,λg M ρ env σ H Q O p=>sa.oneE O p λr v M' H' e J i L=>?_⟩;cases q:r.d with
 |bl b=>
  rw[q]at i;simp only[q]at L;cases i;refine⟨b,rfl,?_⟩;cases b with
  |true=>exact ss (sb g M' ρ env σ H' Q J L)
  |false=>exact ud (L _ M' H' (Ext.refl _ _) J rfl)
 |_=>simp only[q]at L;exact L.elim
theorem HL {rest:List Expr}{W Y:En->Res R}{pos:Pos}(ha:PD X E a W)(Z:PD X E (.BoolOp .Or (b::rest) pos) Y):PD X E (.BoolOp .Or (a::b::rest) pos) (JB W Y):=by
 obtain⟨ta,pa,sa⟩:=ha;obtain⟨tb,pb,sb⟩:=Z;refine⟨_,Hm pa pb,λg M ρ env σ H Q O p=>sa.oneE O p λr v M' H' e J i L=>?_⟩;cases q:r.d with
 |bl b=>
  rw[q]at i;simp only[q]at L;cases i;refine⟨b,rfl,?_⟩;cases b with
  |true=>exact ss (L _ M' H' (Ext.refl _ _) J rfl)
  |false=>exact ud (sb g M' ρ env σ H' Q J L)
 |_=>simp only[q]at L;exact L.elim
noncomputable def tru:D->Res Bool
 | .non=>.ok false
 | .bl b=>.ok b
 | .int i=>.ok (i != 0)
 | .str y=>if y.length<=lim then .ok ((y.length:Int) != 0) else .stuck
 | .tup ds=>.ok (!ds.isEmpty)
 | .lst ds=>.ok (!ds.isEmpty)
 | .dic _ _=>.stuck
theorem Is.tru (h:Is H m d v)(e:tru d=.ok k):FP X.K v H k:=by
 cases d with
 |non=>cases h;cases e;rfl
 |bl b=>cases h;cases e;rfl
 |int b=>cases h;cases e;rfl
 |str b=>
  cases h;unfold L3.tru at e;dsimp only at e;by_cases J:b.length<=lim
  .rw[Ka J]at e;cases e;exact⟨ic J,rfl⟩
  .rw[J_ J]at e;cases e
 |tup ds=>obtain⟨a,vs,rfl,h1,h2⟩:=h;cases e;refine .inr (.inl ⟨vs,SqT.of h1,?_⟩);have:=h2.length;cases ds<;>cases vs<;>simp_all
 |lst ds=>obtain⟨a,vs,rfl,h1,h2⟩:=h.rd;cases e;refine .inl ⟨vs,.inl h1,?_⟩;have:=h2.length;cases ds<;>cases vs<;>simp_all
 |dic ks ds=>cases e
noncomputable def pA (J:En->Res R):En->Res Bool:=λenv=>(J env).bind λL=>tru L.d
theorem ii (ha:PD X E a fa)(W:autoParam (∀ whole,isTrue a X.env whole=(do let v <- whole;standAt a.pos;holding [v] (truthy v))) Ow._auto_1):xW X E a (pA fa):=by
 obtain⟨ta,Y,sa⟩:=ha;refine⟨_,Aw Y W,λg M ρ env σ H Q O p=>sa.oneT O p λr v M' H' e J i L=>?_⟩;cases q:tru r.d with
 |stuck=>rw[q]at L;exact L.elim
 |exc c=>exfalso;unfold tru at q;cases z:r.d<;>simp only[z]at q<;>first|cases q|(split at q<;>cases q)
 |ok k=>rw[q]at L;exact⟨k,i.tru q,L M' H' (Ext.refl _ _) J⟩
noncomputable def vB (J:En->Res R):En->Res Bool:=λenv=>(J env).bind λL=>match L.d with
 | .bl b=>.ok b
 |_=>.stuck
theorem bT (W:mS X E (compareOp op) k)(ha:PD X E a fa)(Y:PD X E b fb)(hm:behindInMarks op b=false):xW X E (.Compare a [op] [b] pos) (vB (v2 k fa fb)):=by
 obtain⟨r,h1,h2⟩:=W;obtain⟨ta,Z,sa⟩:=ha;obtain⟨tb,pb,sb⟩:=Y;have S:Snd X.mg E (lZ r ta tb) (v2 k fa fb):=λg M ρ env σ H Q L p=>sa.twoE sb L p λra rb x y M' H' J i1 i2 O=>h2 g M' ρ env σ H' Q ra rb x y J i1 i2 O;refine⟨_,h_ h1 Z pb hm,λg M ρ env σ H Q L p=>S.oneT L p λr v M' H' e J i O=>?_⟩;cases q:r.d with
 |bl b=>rw[q]at i;simp only[q]at O;cases i;exact⟨b,rfl,O M' H' (Ext.refl _ _) J⟩
 |_=>simp only[q]at O;exact O.elim
theorem Dq (ha:PD X E a fa):xW X E (.Compare a [.Is] [.Constant .none j pos'] pos) (λenv=>(fa env).bind λO=>.ok O.d.isNon):=by obtain⟨ta,W,sa⟩:=ha;refine⟨_,Fw (Al W),λg M ρ env σ H Q L p=>sa.oneT L p λr v M' H' e J i Y=>?_⟩;exact⟨_,rfl,by rw[i.non_iff];exact Y M' H' (Ext.refl _ _) J⟩
noncomputable def kJ (J:En->Res Bool):En->Res Bool:=λenv=>(J env).bind λb=>.ok (!b)
noncomputable def Ds (J L:En->Res Bool):En->Res Bool:=λenv=>(J env).bind λb=>if b then L env else .ok false
noncomputable def Bo (J L:En->Res Bool):En->Res Bool:=λenv=>(J env).bind λb=>if b then .ok true else L env
section
variable {mg:Str->Option Oq}{g:Gd}{M M':Addr->Prop}{ρ:Pr}{env:En}{σ:St}{H H':Hp}
theorem SndT.oneT {f:En->Res Bool}(h:SndT mg E t f)(L:Rep g M ρ env σ H){K:Bool->Res Bool}{O:Bool->Hp->Prop}{Q:Bool->Hp->Prop}(J:PostT mg E g M ρ env σ H O ((f env).bind K))
 (k:∀ b M' H',Ext M H M' H'->Rep g M' ρ env σ H'->PostT mg E g M' ρ env σ H' O (K b)->Q b H'):t σ H Q:=by
 refine h g M ρ env σ H Q L ?_;cases e:f env with
 |stuck=>rw[e]at J;exact J
 |exc c=>rw[e]at J;exact J
 |ok b=>rw[e]at J;exact λM1 H1 e1 rep1=>k b M1 H1 e1 rep1 (PostT.ext e1 J)
end
theorem cn (ha:xW X E a fa):xW X E (.UnaryOp .Not a pos) (kJ fa):=by obtain⟨ta,O,sa⟩:=ha;exact⟨_,An O,λg M ρ env σ H Q L p=>sa.oneT L p λb M' H' e J W=>W M' H' (Ext.refl _ _) J⟩
theorem uD (ha:xW X E a fa):PWD X E (.BoolOp .And [a] pos) fa:=let ⟨t,J,sa⟩:=ha;⟨t,CN J,sa⟩
theorem kf (ha:xW X E a fa):PWD X E (.BoolOp .Or [a] pos) fa:=let ⟨t,J,sa⟩:=ha;⟨t,Am J,sa⟩
theorem x8 {rest:List Expr}{O W:En->Res Bool}{pos:Pos}(ha:xW X E a O)(Z:PWD X E (.BoolOp .And (b::rest) pos) W):PWD X E (.BoolOp .And (a::b::rest) pos) (Ds O W):=by
 obtain⟨ta,pa,sa⟩:=ha;obtain⟨tb,pb,sb⟩:=Z;refine⟨_,Fy pa pb,λg M ρ env σ H Q L p=>sa.oneT L p λb M' H' e J Y=>?_⟩;cases b with
 |true=>exact ss (sb g M' ρ env σ H' Q J Y)
 |false=>exact ud (Y M' H' (Ext.refl _ _) J)
theorem ij {rest:List Expr}{O W:En->Res Bool}{pos:Pos}(ha:xW X E a O)(Z:PWD X E (.BoolOp .Or (b::rest) pos) W):PWD X E (.BoolOp .Or (a::b::rest) pos) (Bo O W):=by
 obtain⟨ta,pa,sa⟩:=ha;obtain⟨tb,pb,sb⟩:=Z;refine⟨_,Es pa pb,λg M ρ env σ H Q L p=>sa.oneT L p λb M' H' e J Y=>?_⟩;cases b with
 |true=>exact ss (Y M' H' (Ext.refl _ _) J)
 |false=>exact ud (sb g M' ρ env σ H' Q J Y)
noncomputable def Ai (a b:R):Res R:=match a.d,b.d with
 | .lst xs,.int i=>match atI xs i with
  |some d=>.ok (mkV d a.fr a.al)
  |none=>.stuck
 | .tup xs,.int i=>match atI xs i with
  |some d=>.ok (mkV d a.fr a.al)
  |none=>.stuck
 | .str z,.int i=>if z.length<=lim then (match atI z.cps.toList i with
  |some c=>.ok (.val (.str ⟨#[c]⟩) true [])
  |none=>.stuck) else .stuck
 |_,_=>.stuck
theorem IsAll.atI (h:IsAll H m ds vs)(e:L2.atI ds i=some d):∃ v,L2.atI vs i=some v/\Is H m d v:=by
 unfold L2.atI at e ⊢;rw[h.length];cases q:xE ds.length i with
 |none=>rw[q]at e;cases e
 |some j=>rw[q]at e;exact h.get e
theorem EG:∃ r:R2,IxR X r/\∀ g M ρ env σ H Q O J x y,Rep g M ρ env σ H->Is H (vmsk g M O.fr ρ O.al) O.d x->Is H (vmsk g M J.fr ρ J.al) J.d y->PostE X.mg E g M ρ env σ H Q (Ai O J)->r x y H Q:=by
 refine⟨_,FV,λg M ρ env σ H Q O J x y L i1 i2 p=>?_⟩;unfold Ai at p;cases e1:O.d with
 |lst xs=>
  rw[e1]at p i1;cases e2:J.d with
  |int i=>
   rw[e2]at p i2;cases i2;obtain⟨a,vs,rfl,h1,h2⟩:=i1.rd;cases q:atI xs i with
   |none=>simp only[q]at p;exact p.elim
   |some d=>simp only[q]at p;obtain⟨v,ev,W⟩:=h2.atI q;exact .inl ⟨a,vs,i,v,rfl,rfl,.inl h1,ev,p.val L W⟩
  |_=>rw[e2]at p;exact p.elim
 |tup xs=>
  rw[e1]at p i1;cases e2:J.d with
  |int i=>
   rw[e2]at p i2;cases i2;obtain⟨a,vs,rfl,h1,h2⟩:=i1;cases q:atI xs i with
   |none=>simp only[q]at p;exact p.elim
   |some d=>simp only[q]at p;obtain⟨v,ev,W⟩:=h2.atI q;exact .inr (.inl ⟨a,vs,i,v,rfl,rfl,SqT.of h1,ev,p.val L W⟩)
  |_=>rw[e2]at p;exact p.elim
 |str z=>
  rw[e1]at p i1;cases e2:J.d with
  |int i=>
   rw[e2]at p i2;cases i1;cases i2;by_cases hz:z.length<=lim
   .simp only[hz,Mb]at p;cases q:atI z.cps.toList i with
    |none=>simp only[q]at p;exact p.elim
    |some c=>simp only[q]at p;exact .inr (.inr ⟨z,i,c,rfl,rfl,ic hz,q,p _ M H (Ext.refl _ _) L rfl⟩)
   .simp only[hz,K8]at p;exact p.elim
  |_=>rw[e2]at p;exact p.elim
 |_=>rw[e1]at p;exact p.elim
theorem EH (ha:PD X E a fa)(O:PD X E b fb)(hs:r_ b):PD X E (.Subscript a b pos) (v2 Ai fa fb):=by obtain⟨r,h1,h2⟩:=EG (X:=X) (E:=E);obtain⟨ta,W,sa⟩:=ha;obtain⟨tb,Y,Z⟩:=O;exact⟨_,bz h1 W Y hs,λg M ρ env σ H Q L p=>sa.twoE Z L p λra rb x y M' H' J i1 i2 p'=>h2 g M' ρ env σ H' Q ra rb x y J i1 i2 p'⟩
noncomputable def bA (i:Nat)(J:En->Res R):En->Res R:=λenv=>match env[i]? with
 |some (some (.own ds fr))=>(J env).bind λL=>match L.d with
  | .int k=>match atI ds k with
   |some d=>.ok (mkV d fr [])
   |none=>.stuck
  |_=>.stuck
 |_=>v2 Ai (ao i) J env
theorem Bp (ha:PE X a (aA i))(Z:PD X E b fb)(hs:r_ b):PD X E (.Subscript a b pos) (bA i fb):=by
 obtain⟨r,h1,h2⟩:=EG (X:=X) (E:=E);obtain⟨tb,pb,Y⟩:=Z;refine⟨_,bz (ix_list.or h1) ha pb hs,λg M ρ env σ H Q O p=>?_⟩;have gen:PostE X.mg E g M ρ env σ H Q (v2 Ai (ao i) fb env)->lZ (λx y H Q=>FT X.K x y H Q\/r x y H Q) (aA i) tb σ H Q:=λp=>Snd.twoE xX Y O p λra W x y M' H' J i1 i2 L=>.inr (h2 g M' ρ env σ H' Q ra W x y J i1 i2 L);unfold bA at p;cases e1:env[i]? with
 |none=>rw[e1]at p;exact gen p
 |some o=>
  cases o with
  |none=>rw[e1]at p;exact gen p
  |some sl=>
   cases sl with
   |val d fr=>rw[e1]at p;exact gen p
   |tre d=>rw[e1]at p;exact gen p
   |mes d=>rw[e1]at p;exact gen p
   |own ds fr=>
    rw[e1]at p;obtain⟨v,ev,a,vs,rfl,k1,k2,k4⟩:=O.slot i _ e1;refine⟨_,ev,Y.oneE O p λW y M' H' e J i2 L=>?_⟩;cases q:W.d with
    |int k=>
     rw[q]at i2;simp only[q]at L;cases i2;cases q2:atI ds k with
     |none=>simp only[q2]at L;exact L.elim
     |some d=>simp only[q2]at L;have k5:IsAll H' (vmsk g M' fr ρ []) ds vs:=(IsAll.weak (λ_ z=>.inl z) k4:IsAll H (vmsk g M fr ρ []) ds vs).ext e;obtain⟨w,ew,iw⟩:=k5.atI q2;exact .inl ⟨a,vs,k,w,rfl,rfl,.inl (.inl (e.h _ _ k1)),ew,L.val J iw⟩
    |_=>simp only[q]at L;exact L.elim
end
section
variable {mg:Str->Option Oq}{E:XK}{g:Gd}{M M':Addr->Prop}{ρ:Pr}{env:En}{σ:St}{H H':Hp}
theorem SndA.one {t:TA}{f:En->Res (List R)}(h:SndA mg E t f)(L:Rep g M ρ env σ H){α:Type}{K:List R->Res α}{P:(M:Addr->Prop)->(H:Hp)->Res α->Prop}{Q:List V->Hp->Prop}
 (J:P M H ((f env).bind K)) (hs:∀ M H,P M H .stuck->False) (O:∀ M H c,P M H (.exc c)->Do mg E g c) (W:∀ M H M' H' r,Ext M H M' H'->P M H r->P M' H' r)
 (k:∀ rs vs M' H',Ext M H M' H'->Rep g M' ρ env σ H'->IsAll H' (vmsk g M' (bu rs) ρ (cb rs)) (rs.map R.d) vs->P M' H' (K rs)->Q vs H'):t σ H Q:=by
 refine h g M ρ env σ H Q L ?_;cases e:f env with
 |stuck=>rw[e]at J;exact hs _ _ J
 |exc c=>rw[e]at J;exact O _ _ c J
 |ok r=>rw[e]at J;exact λvs M1 H1 e1 rep1 is=>k r vs M1 H1 e1 rep1 is (W _ _ _ _ _ e1 J)
theorem SndA.oneE {f:En->Res (List R)}(h:SndA mg E t f)(J:Rep g M ρ env σ H){K:List R->Res R}{Q:List V->Hp->Prop}(L:PostE mg E g M ρ env σ H Q' ((f env).bind K))
 (k:∀ rs vs M' H',Ext M H M' H'->Rep g M' ρ env σ H'->IsAll H' (vmsk g M' (bu rs) ρ (cb rs)) (rs.map R.d) vs->PostE mg E g M' ρ env σ H' Q' (K rs)->Q vs H'):t σ H Q:=
 h.one J (P:=λM H r=>PostE mg E g M ρ env σ H Q' r) L (λ_ _ z=>z) (λ_ _ _ z=>z) (λ_ _ _ _ _ e p=>p.ext e) k
theorem SndA.oneA {f:En->Res (List R)}(h:SndA mg E t f)(J:Rep g M ρ env σ H){K:List R->Res (List R)}{L:List V->Hp->Prop}{Q:List V->Hp->Prop}(O:PostA mg E g M ρ env σ H L ((f env).bind K))
 (k:∀ rs vs M' H',Ext M H M' H'->Rep g M' ρ env σ H'->IsAll H' (vmsk g M' (bu rs) ρ (cb rs)) (rs.map R.d) vs->PostA mg E g M' ρ env σ H' L (K rs)->Q vs H'):t σ H Q:=
 h.one J (P:=λM H r=>PostA mg E g M ρ env σ H L r) O (λ_ _ z=>z) (λ_ _ _ z=>z) (λ_ _ _ _ _ e p=>p.ext e) k
theorem IsAll.args (h1:Is H (vmsk g M r.fr ρ r.al) r.d v)(h2:IsAll H (vmsk g M (bu rs) ρ (cb rs)) (rs.map R.d) vs) :
 IsAll H (vmsk g M (bu (r::rs)) ρ (cb (r::rs))) ((r::rs).map R.d) (v::vs):=by
 refine⟨v,vs,rfl,h1.weak λa z=>?_,h2.weak λa z=>?_⟩
 .exact(z.l:vmsk g M (r.fr&&bu rs) ρ (r.al++cb rs) a)
 .exact(z.r:vmsk g M (r.fr&&bu rs) ρ (r.al++cb rs) a)
end
section
variable {X:Cx}{E:XK}
noncomputable def aN:En->Res (List R):=λ_=>.ok []
noncomputable def ai (f:En->Res R)(fs:En->Res (List R)):En->Res (List R):=λenv=>(f env).bind λr=>(fs env).bind λrs=>.ok (r::rs)
theorem aj:Ah X E [] aN:=⟨_,aC,λg M ρ env σ H Q J p=>p [] M H (Ext.refl _ _) J rfl⟩
theorem aa (L:PD X E e f)(O:Ah X E es fs)(hs:autoParam (starEach (e::es) X.env=(false,eval e X.env)::starEach es X.env) Oy._auto_1):Ah X E (e::es) (ai f fs):=by obtain⟨t,p1,s1⟩:=L;obtain⟨u,p2,s2⟩:=O;refine⟨_,ag p1 p2 hs,λg M ρ env σ H Q J p=>s1.oneA J p λr v M1 H1 e1 rep1 i1 q1=>s2.oneA rep1 q1 λrs vs M2 H2 e2 rep2 i2 q2=>?_⟩;exact q2 (v::vs) M2 H2 (Ext.refl _ _) rep2 (IsAll.args (i1.ext e2) i2)
noncomputable def gU (fs:En->Res (List R)):En->Res R:=λenv=>(fs env).bind λrs=>if rs.length<=lim then .ok (mkV (.tup (rs.map R.d)) (bu rs) (cb rs)) else .stuck
theorem cc (h:Ah X E es fs):PD X E (.Tuple es k pos) (gU fs):=by
 obtain⟨t,p1,s1⟩:=h;refine⟨_,cU p1,λg M ρ env σ H Q J p=>s1.oneE J p λrs vs M1 H1 e1 rep1 i1 q1=>?_⟩;by_cases L:rs.length<=lim
 .rw[Ka L]at q1;exact⟨by rw[i1.length,J9];exact ic L,λa ha=>q1.tup rep1 ha i1⟩
 .rw[J_ L]at q1;exact q1.elim
noncomputable def pB (fs:En->Res (List R)):En->Res R:=λenv=>(fs env).bind λrs=>if rs.length<=lim then .ok (lD (rs.map R.d) (bu rs) (cb rs)) else .stuck
theorem ik (h:Ah X E es fs):PD X E (.List es pos) (pB fs):=by
 obtain⟨t,p1,s1⟩:=h;refine⟨_,iP p1,λg M ρ env σ H Q J p=>s1.oneE J p λrs vs M1 H1 e1 rep1 i1 q1=>?_⟩;by_cases L:rs.length<=lim
 .rw[Ka L]at q1;exact⟨by rw[i1.length,J9];exact ic L,λa ha=>q1.lst rep1 ha i1⟩
 .rw[J_ L]at q1;exact q1.elim
end
def nl (H0 H':Hp)(a:Addr):Prop:=H0 a=none/\Mu H' a
noncomputable def RetOk (g:Gd)(H':Hp)(v:V):R->Prop
 | .val d fr _=>Is H' (λa=>nl g.H₀ H' a\/(fr=false/\g.Ma a)) d v
 | .new ds fr=>∃ a vs,v=.ref a/\H' a=some (.lst vs)/\g.H₀ a=none/\IsAll H' (λb=>b≠a/\(nl g.H₀ H' b\/(fr=false/\g.Ma b))) ds vs
 | .fre d=>Is H' (nl g.H₀ H') d v
noncomputable def HN (mg:Str->Option Oq)(E:XK)(g:Gd)(Q:VK):Res R->Prop
 | .stuck=>False
 | .exc c=>Do mg E g c
 | .ok r=>∀ v H',Same g.H₀ H'->RetOk g H' v r->Q v H'
noncomputable def qK (mg:Str->Option Oq)(n:Nat)(F:List D->Res R):Sp:=λvs H Q E=>vs.length=n/\∃ ds Ma,IsAll H Ma ds vs/\HN mg E (HH H Ma) Q (F ds)
noncomputable def CH (d:D)(fr:Bool)(rs:List R):R:=if d.flat then .val d true [] else if fr then .fre d else .val d (bu rs) (cb rs)
noncomputable def gW (rs:List R):R->R
 | .val d fr _=>CH d fr rs
 | .new ds fr=>if D.flats ds then .new ds true else if fr then .fre (.lst ds) else if (cb rs).isEmpty then .new ds (bu rs) else .val (.lst ds) (bu rs) (cb rs)
 | .fre d=>CH d true rs
section
variable {g:Gd}{M:Addr->Prop}{ρ:Pr}{env:En}{σ:St}{H H':Hp}
theorem Rep.came (J:Rep g M ρ env σ H)(s:Same H H')(p:Addr->Prop):Rep g (λa=>M a\/(nl H H' a/\p a)) ρ env σ H':=(J.grow s).moreT λa z=>⟨z.1.2,J.same.free z.1.1,(J.free z.1.1).2.2⟩
theorem Bq (rs:List R)(J:Rep g M ρ env σ H)(s:Same H H')(h:Is H' (λa=>nl H H' a\/(fr=false/\vmsk g M (bu rs) ρ (cb rs) a)) d v) :
 ∃ M',Ext M H M' H'/\Rep g M' ρ env σ H'/\ROk g M' ρ H H' v (CH d fr rs):=by
 unfold CH;by_cases hf:d.flat=true
 .rw[Ka hf];exact⟨M,⟨λ_ z=>z,s,λ_ z=>.inl z⟩,J.grow s,Is.flat hf h⟩
 .rw[J_ hf];cases fr with
  |true=>
   refine⟨M,⟨λ_ z=>z,s,λ_ z=>.inl z⟩,J.grow s,nl H H',λa z=>?_,?_⟩
   .exact⟨λw=>J.froz a w z.1,z.1,z.2,(J.free z.1).2.2⟩
   .exact Is.weak (λa z=>z.elim id λw=>by cases w.1) h
  |false=>
   refine⟨_,⟨λ_=>.inl,s,λ_ z=>z.imp id (·.1.1)⟩,J.came s λ_=>True,?_⟩;refine Is.weak (λa z=>?_) h;rcases z with z|⟨_,z⟩
   .exact .inl ⟨.inr ⟨z,True.intro⟩,λ_=>J.same.free z.1⟩
   .exact z.mono λ_=>.inl
theorem RetOk.caller (rs:List R)(J:Rep g M ρ env σ H)(s:Same H H')(h:RetOk (HH H (vmsk g M (bu rs) ρ (cb rs))) H' v r) :
 ∃ M',Ext M H M' H'/\Rep g M' ρ env σ H'/\ROk g M' ρ H H' v (gW rs r):=by
 cases r with
 |val d fr al=>exact Bq rs J s h
 |fre d=>exact Bq rs J s (Is.weak (λa z=>.inl z) h)
 |new ds fr=>
  obtain⟨a,vs,rfl,h1,h2,O⟩:=h;have h2:H a=none:=h2;obtain⟨f0,f1,f2⟩:=J.free h2;have W:Rep g (λb=>M b\/(nl H H' b/\b≠a)) ρ env σ H':=J.came s λb=>b≠a;have nm:¬ (M a\/(nl H H' a/\a≠a)):=λz=>z.elim f1 λz=>z.2 rfl;have Y:Ext M H (λb=>M b\/(nl H H' b/\b≠a)) H':=⟨λ_=>.inl,s,λ_ z=>z.imp id (·.1.1)⟩;unfold gW;dsimp only;by_cases L:D.flats ds=true
  .rw[Ka L];exact⟨_,Y,W,a,vs,rfl,h1,nm,h2,f2,IsAll.flat L O⟩
  .rw[J_ L];cases fr with
   |true=>
    refine⟨M,⟨λ_ z=>z,s,λ_ z=>.inl z⟩,J.grow s,nl H H',λa z=>?_,?_⟩
    .exact⟨λw=>J.froz a w z.1,z.1,z.2,(J.free z.1).2.2⟩
    .exact⟨a,vs,rfl,.inl ⟨h1,h2,Mu.lst h1⟩,IsAll.weak (λb z=>z.2.elim id λw=>by cases w.1) O⟩
   |false=>
    simp only[Kq,K8];by_cases hc:(cb rs).isEmpty=true
    .rw[Ka hc];refine⟨_,Y,W,a,vs,rfl,h1,nm,h2,f2,?_⟩;refine IsAll.weak (λb z=>?_) O;rcases z with⟨nb,z|⟨hf,z⟩⟩
     .exact⟨.inr ⟨z,nb⟩,λ_=>J.same.free z.1⟩
     .have Z:cb rs=[]:=by simpa using hc
      have z:vmsk g M (bu rs) ρ (cb rs) b:=z;rw[Z]at z;exact⟨.inl z.nil.1,z.nil.2⟩
    .rw[J_ hc];refine⟨λb=>(M b\/(nl H H' b/\b≠a))\/b=a,⟨λ_ z=>.inl (.inl z),s,λb z=>z.elim (Y.n b) λe=>.inr (e▸h2)⟩,W.more h1 f0 f2,a,vs,rfl,.inl ⟨h1,.inl ⟨.inr rfl,λ_=>f0⟩⟩,?_⟩;refine IsAll.weak (λb z=>?_) O;rcases z with⟨nb,z|⟨hf,z⟩⟩
     .exact .inl ⟨.inl (.inr ⟨z,nb⟩),λ_=>J.same.free z.1⟩
     .exact vmsk.mono (λ_ w=>.inl (.inl w)) z
end
section
variable {X:Cx}{E:XK}{CX:CXT}{k:Nat}{f:Addr}{fd:FuncData}{ps:List Str}{F:List D->Res R}{x:Str}{p pos:Pos}{e:Expr}{es:List Expr}{fs:En->Res (List R)}
noncomputable def cA (F:List D->Res R)(fs:En->Res (List R)):En->Res R:=λenv=>(fs env).bind λrs=>(F (rs.map R.d)).bind λr=>.ok (gW rs r)
theorem Br (O:∀ env rs,fs env=.ok rs->rs.length=ps.length)(s:SndA X.mg E t fs):Snd X.mg E (xB (qK X.mg ps.length F) [] E t) (cA F fs):=by
 intro g M ρ env σ H Q J p;refine s g M ρ env σ H _ J ?_;unfold cA at p;cases e:fs env with
 |stuck=>rw[e]at p;exact p
 |exc c=>rw[e]at p;exact p
 |ok rs=>
  rw[e]at p;intro vs M1 H1 e1 rep1 is;have p1:PostE X.mg E g M1 ρ env σ H1 Q ((F (rs.map R.d)).bind λr=>.ok (gW rs r)):=PostE.ext e1 p;rw[KW];refine⟨by rw[is.length,J9];exact O env rs e,rs.map R.d,_,is,?_⟩;cases q:F (rs.map R.d) with
  |stuck=>rw[q]at p1;exact p1
  |exc c=>rw[q]at p1;exact λcls dx H' h1 h2=>p1 cls dx H' h1 (rep1.same.trans h2)
  |ok r=>rw[q]at p1;intro v H2 s2 ro;obtain⟨W,e3,rep3,L⟩:=RetOk.caller rs rep1 s2 ro;exact p1 v W H2 e3 rep3 L
theorem Dt (G:FnOk X.prog X.w X.K X.mg X.base CX k f fd ps (qK X.mg ps.length F))(O:Room k X.A)(Y:Gl X x)(hm:X.mg x=some (.ref f))(Z:PySem.W.keepIn X.K (.ref f)=true)(hb:Binds X.K fd ps [])(hx:eM CX X E)
 (ha:Ah X E (e::es) fs) (hl:∀ env rs,fs env=.ok rs->rs.length=ps.length) (J:autoParam ((x==("__debug__" : Str))=false) Ot._auto_1) (he:autoParam (starEach (e::es) X.env=(false,eval e X.env)::starEach es X.env) Oy._auto_1) (L:autoParam ((backTo pos (starEach es X.env)).any (·.1)=false) Oy._auto_1) :
 PD X E (.Call (.Name x p) (e::es) [] pos) (cA F fs):=by
 obtain⟨t,p1,s1⟩:=ha;exact⟨_,rY G O Y hm Z hb .nil hx p1 J he L,Br hl s1⟩
theorem bj:∀ env rs,aN env=.ok rs->rs.length=0:=λ_ _ e=>by cases e;rfl
theorem ax {f:En->Res R}{fs:En->Res (List R)}(h:∀ env rs,fs env=.ok rs->rs.length=n):∀ env rs,ai f fs env=.ok rs->rs.length=n+1:=λenv rs e=>by
 unfold ai at e;cases q:f env with
 |stuck=>rw[q]at e;cases e
 |exc c=>rw[q]at e;cases e
 |ok r=>
  rw[q]at e;cases q2:fs env with
  |stuck=>simp only[Res.bind_ok,q2]at e;cases e
  |exc c=>simp only[Res.bind_ok,q2]at e;cases e
  |ok J=>simp only[Res.bind_ok,q2]at e;cases e;simp[h env J q2]
def iV (X:Cx)(E:XK)(f:Oq)(k:List R->Res R):Prop:=∃ r,CallR X f r/\
 ∀ g M ρ env σ H Q rs vs,Rep g M ρ env σ H->IsAll H (vmsk g M (bu rs) ρ (cb rs)) (rs.map R.d) vs->PostE X.mg E g M ρ env σ H Q (k rs)->r vs H Q
noncomputable def k_ (k:List R->Res R)(fs:En->Res (List R)):En->Res R:=λenv=>(fs env).bind k
theorem aR {id:String} {k:List R->Res R} (hc:iV X E (.builtin id) k) (W:Gl X x) (hm:X.mg x=none) (Y:bootBuiltins x=some (.builtin id)) (ha:Ah X E (e::es) fs) (hn:autoParam (x≠"__name__") Ot._auto_1) (J:autoParam ((x==("__debug__" : Str))=false) Ot._auto_1)
 (Z:autoParam (starEach (e::es) X.env=(false,eval e X.env)::starEach es X.env) Oy._auto_1) (L:autoParam ((backTo pos (starEach es X.env)).any (·.1)=false) Oy._auto_1):PD X E (.Call (.Name x p) (e::es) [] pos) (k_ k fs):=by
 obtain⟨r,h1,h2⟩:=hc;obtain⟨t,p1,s1⟩:=ha;exact⟨_,cV h1 W hm Y p1 hn J Z L,λg M ρ env σ H Q O p=>s1.oneE O p λrs vs M1 H1 e1 rep1 i1 q1=>h2 g M1 ρ env σ H1 Q rs vs rep1 i1 q1⟩
theorem fw {k:List R->Res R} (hc:iV X E (.type T) k) (W:Gl X x) (hm:X.mg x=none) (Y:bootBuiltins x=some (.type T)) (ha:Ah X E (e::es) fs) (hn:autoParam (x≠"__name__") Ot._auto_1) (J:autoParam ((x==("__debug__" : Str))=false) Ot._auto_1)
 (Z:autoParam (starEach (e::es) X.env=(false,eval e X.env)::starEach es X.env) Oy._auto_1) (L:autoParam ((backTo pos (starEach es X.env)).any (·.1)=false) Oy._auto_1):PD X E (.Call (.Name x p) (e::es) [] pos) (k_ k fs):=by
 obtain⟨r,h1,h2⟩:=hc;obtain⟨t,p1,s1⟩:=ha;exact⟨_,qZ h1 W hm Y p1 hn J Z L,λg M ρ env σ H Q O p=>s1.oneE O p λrs vs M1 H1 e1 rep1 i1 q1=>h2 g M1 ρ env σ H1 Q rs vs rep1 i1 q1⟩
noncomputable def qL:List R->Res R
 | [r]=>match r.d with
  | .lst ds=>.ok (.val (.int ds.length) true [])
  | .tup ds=>.ok (.val (.int ds.length) true [])
  | .str z=>if z.length<=lim then .ok (.val (.int z.length) true []) else .stuck
  |_=>.stuck
 |_=>.stuck
theorem mj:iV X E (.builtin "len") qL:=by
 refine⟨_,call_len_seq.or sj,λg M ρ env σ H Q rs vs J i p=>?_⟩
 match rs,i,p with
 | [r],i,p=>
  obtain⟨v,w,rfl,i1,i2⟩:=i;cases i2;have i1:Is H (vmsk g M (bu [r]) ρ (cb [r])) r.d v:=i1;unfold qL at p;dsimp only at p;cases q:r.d with
  |lst ds=>rw[q]at p i1;obtain⟨a,ws,rfl,h1,h2⟩:=i1.rd;exact .inl ⟨a,ws,rfl,.inl (.inl h1),by rw[h2.length];exact p _ M H (Ext.refl _ _) J rfl⟩
  |tup ds=>rw[q]at p i1;obtain⟨a,ws,rfl,h1,h2⟩:=i1;exact .inl ⟨a,ws,rfl,.inr (SqT.of h1),by rw[h2.length];exact p _ M H (Ext.refl _ _) J rfl⟩
  |str z=>
   rw[q]at p i1;cases i1;by_cases hz:z.length<=lim
   .simp only[hz,Mb]at p;exact .inr ⟨z,rfl,ic hz,p _ M H (Ext.refl _ _) J rfl⟩
   .simp only[hz,K8]at p;exact p.elim
  |_=>rw[q]at p;exact p.elim
 | [],_,p=>exact p.elim
 |_::_::_,_,p=>exact p.elim
noncomputable def mT:List R->Res R
 | [r]=>match r.d with
  | .lst ds=>.ok (lD ds r.fr r.al)
  | .tup ds=>.ok (lD ds r.fr r.al)
  |_=>.stuck
 |_=>.stuck
theorem x9 (h:vmsk g M (bu [r]) ρ (cb [r]) a):vmsk g M r.fr ρ r.al a:=by
 have e1:bu [r]=r.fr:=by simp[bu]
 have e2:cb [r]=r.al:=by simp[cb]
 rw[e1,e2]at h;exact h
theorem ol:iV X E (.type "list") mT:=by
 refine⟨_,sk,λg M ρ env σ H Q rs vs J i p=>?_⟩
 match rs,i,p with
 | [r],i,p=>
  obtain⟨v,w,rfl,i1,i2⟩:=i;cases i2;have i1:Is H (vmsk g M (bu [r]) ρ (cb [r])) r.d v:=i1;replace i1:=i1.weak λ_ z=>x9 z;unfold mT at p;dsimp only at p;cases q:r.d with
  |lst ds=>rw[q]at p i1;obtain⟨a,ws,rfl,h1,h2⟩:=i1.rd;exact⟨a,ws,rfl,.inl (.inl h1),λl L=>p.lst J L h2⟩
  |tup ds=>rw[q]at p i1;obtain⟨a,ws,rfl,h1,h2⟩:=i1;exact⟨a,ws,rfl,.inr (SqT.of h1),λl L=>p.lst J L h2⟩
  |_=>rw[q]at p;exact p.elim
 | [],_,p=>exact p.elim
 |_::_::_,_,p=>exact p.elim
end
inductive Fl where
 |nx (env:En)|rt (r:R)|bk (env:En)|ct (env:En)|rm (r:R) (env:En)
structure Frz (M:Addr->Prop) (H:Hp) (M':Addr->Prop) (H':Hp):Prop where
 m:∀ a,M a->M' a
 h:∀ a o,H a=some o->(M a\/fixd o)->H' a=some o
theorem Frz.refl (M:Addr->Prop)(H:Hp):Frz M H M H:=⟨λ_ z=>z,λ_ _ e _=>e⟩
theorem Frz.trans {M M1 M2:Addr->Prop}(a:Frz M H M1 H1)(b:Frz M1 H1 M2 H2):Frz M H M2 H2:=⟨λx z=>b.m x (a.m x z),λx o e z=>b.h x o (a.h x o e z) (z.imp (a.m x) id)⟩
theorem Ext.frz (e:Ext M H M' H'):Frz M H M' H':=⟨e.m,λa o q _=>e.h a o q⟩
section
variable (mg:Str->Option Oq)(E:XK)(g:Gd)(M:Addr->Prop)(H:Hp)(D:Ends)
noncomputable def PostS:Res Fl->Prop
 | .stuck=>False
 | .exc c=>Do mg E g c
 | .ok (.nx env)=>∀ σ M' ρ H',Frz M H M' H'->Rep g M' ρ env σ H'->D.nx σ H'
 | .ok (.bk env)=>∀ σ M' ρ H',Frz M H M' H'->Rep g M' ρ env σ H'->D.bk σ H'
 | .ok (.ct env)=>∀ σ M' ρ H',Frz M H M' H'->Rep g M' ρ env σ H'->D.ct σ H'
 | .ok (.rt r)=>∀ v M' H',Frz M H M' H'->Same g.H₀ H'->((∀ a,¬ g.Z a)->RetOk g H' v r)->(r.d.flat=true->Is H' (λ_=>False) r.d v)->D.rt v H'
 | .ok (.rm r env)=>∀ v σ M' ρ H0 H',Frz M H M' H'->Rep g M' ρ env σ H'->Same g.H₀ H0->ROk g M' ρ H0 H' v r->D.rt v H'
end
def Du (mg:Str->Option Oq)(E:XK)(t:TS)(f:En->Res Fl):Prop:=∀ g M ρ env σ H D,Rep g M ρ env σ H->PostS mg E g M H D (f env)->t D σ H
def Aj (X:Cx)(E:XK)(st:Stmt)(f:En->Res Fl):Prop:=∃ t,PS X st t/\Du X.mg E t f
def sN (X:Cx)(E:XK)(st:List Stmt)(f:En->Res Fl):Prop:=∃ t,PSs X st t/\Du X.mg E t f
section
variable {mg:Str->Option Oq}{E:XK}{g:Gd}{M M':Addr->Prop}{ρ:Pr}{env:En}{σ:St}{H H':Hp}{D:Ends}
theorem PostS.frz (e:Frz M H M' H')(p:PostS mg E g M H D r):PostS mg E g M' H' D r:=by
 cases r with
 |stuck=>exact p
 |exc c=>exact p
 |ok r=>cases r with
  |nx env=>exact λσ M2 J H2 e2=>p σ M2 J H2 (e.trans e2)
  |bk env=>exact λσ M2 J H2 e2=>p σ M2 J H2 (e.trans e2)
  |ct env=>exact λσ M2 J H2 e2=>p σ M2 J H2 (e.trans e2)
  |rt r=>exact λv M2 H2 e2=>p v M2 H2 (e.trans e2)
  |rm r env=>exact λv σ M2 J H0 H2 e2=>p v σ M2 J H0 H2 (e.trans e2)
theorem Snd.oneS {f:En->Res R}(h:Snd mg E t f)(L:Rep g M ρ env σ H){K:R->Res Fl}(J:PostS mg E g M H D ((f env).bind K))
 (k:∀ r v M' H',Ext M H M' H'->Rep g M' ρ env σ H'->ROk g M' ρ H H' v r->PostS mg E g M' H' D (K r)->Q v H'):t σ H Q:=by
 refine h g M ρ env σ H Q L ?_;cases e:f env with
 |stuck=>rw[e]at J;exact J
 |exc c=>rw[e]at J;exact J
 |ok r=>rw[e]at J;exact λv M1 H1 e1 rep1 ro=>k r v M1 H1 e1 rep1 ro (PostS.frz e1.frz J)
theorem SndT.oneS {f:En->Res Bool}(h:SndT mg E t f)(L:Rep g M ρ env σ H){K:Bool->Res Fl}{Q:Bool->Hp->Prop}(J:PostS mg E g M H D ((f env).bind K))
 (k:∀ b M' H',Frz M H M' H'->Rep g M' ρ env σ H'->PostS mg E g M' H' D (K b)->Q b H'):t σ H Q:=by
 refine h g M ρ env σ H Q L ?_;cases e:f env with
 |stuck=>rw[e]at J;exact J
 |exc c=>rw[e]at J;exact J
 |ok r=>rw[e]at J;exact λM1 H1 e1 rep1=>k r M1 H1 e1.frz rep1 (PostS.frz e1.frz J)
noncomputable def HP (ρ:Pr)(i:Nat):Pr:=λj a=>if j=i then False else ρ j a
theorem wO (h:j≠i):HP ρ i j=ρ j:=by funext a;unfold HP;rw[J_ h]
theorem pC (h:HP ρ i j a):j≠i/\ρ j a:=by
 unfold HP at h;by_cases e:j=i
 .rw[Ka e]at h;exact h.elim
 .rw[J_ e]at h;exact⟨e,h⟩
noncomputable def sO (ρ:Pr)(i:Nat)(T:Addr->Prop):Pr:=λj a=>if j=i then T a else ρ j a
theorem dw (h:j≠i):sO ρ i T j=ρ j:=by funext a;unfold sO;rw[J_ h]
theorem fZ:sO ρ i T i=T:=by funext a;unfold sO;rw[Ka rfl]
noncomputable def frz1 (env:En)(i:Nat):En:=match env[i]? with
 |some (some (.own ds fr))=>env.set i (some (.val (.lst ds) fr))
 |some (some (.tre d))=>env.set i (some (.val d true))
 |some (some (.mes _))=>env.set i none
 |_=>env
noncomputable def frz (env:En)(al:List Nat):En:=al.foldl frz1 env
theorem sP (h:j≠i):(frz1 env i)[j]?=env[j]?:=by unfold frz1;split<;>first|rfl|exact KR (K9 h)
theorem uE (i:Nat):(frz1 env i).length=env.length:=by unfold frz1;split<;>simp
theorem Bs:∀(al:List Nat){env:En}{j:Nat},¬ j∈al->(frz env al)[j]?=env[j]?
 | [],_,_,_=>rfl
 |i::al,env,j,h=>by show(frz (frz1 env i) al)[j]?=_;rw[Bs al λz=>h (by simp[z]),sP λz=>h (by simp[z])]
theorem sQ:∀(al:List Nat)(env:En),(frz env al).length=env.length
 | [],_=>rfl
 |i::al,env=>by show(frz (frz1 env i) al).length=_;rw[sQ al,uE]
theorem Rep.frz1 (rep:Rep g M ρ env σ H)(i:Nat):Rep g (λa=>M a\/ρ i a) (HP ρ i) (frz1 env i) σ H where
 same:=rep.same
 froz:=λb hb=>hb.elim (rep.froz b) λz=>(rep.priv i b z).2.2.some
 inn:=λb hb=>hb.elim (rep.inn b) λz=>.inl (rep.priv i b z).2.1
 fl:=λb hb h0=>hb.elim (λz=>rep.fl b z h0) λz=>.inl (rep.priv i b z).2.2
 slot:=λj sl ej=>by
  by_cases hj:j=i
  .subst hj;cases e:env[j]? with
   |none=>
    have:L3.frz1 env j=env:=by unfold L3.frz1;rw[e]
    rw[this,e]at ej;cases ej
   |some o=>
    have hi:j<env.length:=(Ke.mp e).1;cases o with
    |none=>
     have:L3.frz1 env j=env:=by unfold L3.frz1;rw[e]
     rw[this,e]at ej;cases ej
    |some s0=>
     obtain⟨v,ev,k⟩:=rep.slot j s0 e;cases s0 with
     |val d fr=>
      have:L3.frz1 env j=env:=by unfold L3.frz1;rw[e]
      rw[this,e]at ej;cases ej;exact⟨v,ev,Is.weak (λb z=>msk.mono (λ_=>.inl) z) k⟩
     |own ds fr=>
      have:L3.frz1 env j=env.set j (some (.val (.lst ds) fr)):=by unfold L3.frz1;rw[e]
      rw[this,KG hi]at ej;cases ej;obtain⟨a,vs,rfl,h1,h2,h4⟩:=k;have ha:=(h2 a).mpr rfl;exact⟨_,ev,a,vs,rfl,.inl ⟨h1,.inr ha,λ_=>(rep.priv j a ha).2.1⟩,IsAll.weak (λb z=>msk.mono (λ_=>.inl) z) h4⟩
     |tre d=>
      have:L3.frz1 env j=env.set j (some (.val d true)):=by unfold L3.frz1;rw[e]
      rw[this,KG hi]at ej;cases ej;exact⟨v,ev,Is.weak (λb z=>⟨.inr z,λ_=>(rep.priv j b z).2.1⟩) k⟩
     |mes d=>
      have:L3.frz1 env j=env.set j none:=by unfold L3.frz1;rw[e]
      rw[this,KG hi]at ej;cases ej
  .rw[sP hj]at ej;obtain⟨v,ev,k⟩:=rep.slot j sl ej;exact⟨v,ev,by rw[wO hj];exact SlOk.weak (λ_=>.inl) k⟩
 priv:=λj a h=>by obtain⟨hj,h⟩:=pC h;exact⟨λz=>z.elim (rep.priv j a h).1 λz=>hj (rep.apart j i a h z),(rep.priv j a h).2⟩
 apart:=λj k a h1 h2=>rep.apart j k a (pC h1).2 (pC h2).2
 ow:=λj a h=>by obtain⟨hj,h⟩:=pC h;have:=rep.ow j a h;unfold isOwn at this ⊢;rw[sP hj];exact this
 len:=by rw[uE];exact rep.len
 zz:=rep.zz
theorem Rep.frz:∀(al:List Nat){env:En}{M:Addr->Prop}{ρ:Pr},Rep g M ρ env σ H->∃(M':Addr->Prop)(J:Pr),(∀ a,M a->M' a)/\Rep g M' J (L3.frz env al) σ H/\(∀ i,i∈al->∀ a,ρ i a->M' a)/\(∀ j a,J j a->ρ j a)/\(∀ j,¬ j∈al->J j=ρ j)
 | [],env,M,ρ,L=>⟨M,ρ,λ_ z=>z,L,λ_ z=>absurd z (by simp),λ_ _ o=>o,λ_ _=>rfl⟩
 |i::al,env,M,ρ,L=>by
  obtain⟨M2,Y,e2,rep2,Z,k2,l2⟩:=Rep.frz al (L.frz1 i);refine⟨M2,Y,λa z=>e2 a (.inl z),rep2,λj W a o=>?_,λj a o=>(pC (k2 j a o)).2,λj W=>?_⟩
  .by_cases O:j=i
   .exact e2 a (.inr (O▸o))
   .exact Z j ((Kb.mp W).resolve_left O) a (by rw[wO O];exact o)
  .rw[l2 j λz=>W (by simp[z]),wO λz=>W (by simp[z])]
theorem Is.frozen (J:Rep g M ρ env σ H)(e:∀ a,M a->M' a)(hm:∀ i,i∈al->∀ a,ρ i a->M' a)(h:Is H (vmsk g M fr ρ al) d v):Is H (msk g M' fr) d v:=h.weak λa z=>z.elim (msk.mono e) λ⟨i,hi,o⟩=>⟨hm i hi a o,λ_=>(J.priv i a o).2.1⟩
theorem Rep.put (J:Rep g M ρ env σ H)(hi:i<env.length)(ok:SlOk g M T H v sl)(W:∀ a,T a->¬ M a/\g.H₀ a=none/\Mu H a/\∀ j,j≠i->¬ ρ j a)(hO:autoParam (∀ a,T a->sl.isO=true) Ox._auto_1) :
 Rep g M (sO ρ i T) (env.set i (some sl)) (σ.set i (some v)) H:=by
 have Z:i<σ.length:=by rw[<- J.len];exact hi
 refine⟨J.same,J.froz,J.inn,J.fl,λj s Y=>?_,λj a h=>?_,λj k a h1 h2=>?_,λj a h=>?_,by rw[KP,KP];exact J.len,J.zz⟩
 .by_cases L:j=i
  .subst L;rw[KG hi]at Y;cases Y;exact⟨v,KG Z,by rw[fZ];exact ok⟩
  .rw[KR (K9 L)]at Y;obtain⟨w,ew,k⟩:=J.slot j s Y;exact⟨w,by rw[KR (K9 L)];exact ew,by rw[dw L];exact k⟩
 .by_cases L:j=i
  .subst L;rw[fZ]at h;exact⟨(W a h).1,(W a h).2.1,(W a h).2.2.1⟩
  .rw[dw L]at h;exact J.priv j a h
 .by_cases L:j=i
  .by_cases O:k=i
   .rw[L,O]
   .subst L;rw[fZ]at h1;rw[dw O]at h2;exact absurd h2 ((W a h1).2.2.2 k O)
  .by_cases O:k=i
   .subst O;rw[fZ]at h2;rw[dw L]at h1;exact absurd h1 ((W a h2).2.2.2 j L)
   .rw[dw L]at h1;rw[dw O]at h2;exact J.apart j k a h1 h2
 .unfold isOwn;by_cases L:j=i
  .subst L;rw[fZ]at h;rw[KG hi];exact hO a h
  .rw[dw L]at h;rw[KR (K9 L)];exact J.ow j a h
noncomputable def put (env:En)(i:Nat):R->En
 | .new ds fr=>env.set i (some (.own ds fr))
 | .val d fr al=>(frz env al).set i (some (.val d fr))
 | .fre d=>env.set i (some (.tre d))
theorem Rep.store (J:Rep g M ρ env σ H)(h0:Same g.H₀ H0)(hi:i<env.length)(h:ROk g M ρ H0 H v r):∃ M' L,Frz M H M' H/\Rep g M' L (L3.put env i r) (σ.set i (some v)) H:=by
 cases r with
 |new ds fr=>obtain⟨a,vs,rfl,h1,h2,O,W,Y⟩:=h;exact⟨M,_,Frz.refl _ _,J.put (sl:=.own ds fr) (T:=λb=>b=a) hi ⟨a,vs,rfl,h1,λ_=>Iff.rfl,Y⟩ λb e=>by subst e;exact⟨h2,h0.free O,Mu.lst h1,λj _=>W j⟩⟩
 |val d fr al=>obtain⟨M1,Z,e1,rep1,o1,k1,_⟩:=Rep.frz al J;exact⟨M1,_,⟨e1,λ_ _ e _=>e⟩,rep1.put (sl:=.val d fr) (T:=λ_=>False) (by rw[sQ];exact hi) (Is.frozen J e1 o1 h) (λ_ z=>z.elim) λ_ z=>z.elim⟩
 |fre d=>obtain⟨T,ht,is⟩:=h;exact⟨M,_,Frz.refl _ _,J.put (sl:=.tre d) (T:=T) hi is λb z=>let ⟨a1,a2,a3,a4⟩:=ht b z;⟨a1,h0.free a2,a3,λj _=>a4 j⟩⟩
theorem Rep.writeO (hu:HG u')(J:Rep g M ρ env σ H)(o:ρ i a)(hi:i<env.length)(ev:σ[i]?=some (some v))(ok:SlOk g M (ρ i) (aI H a u') v sl)(hO:autoParam (sl.isO=true) Oy._auto_1) :
 Frz M H M (aI H a u')/\Rep g M ρ (env.set i (some sl)) σ (aI H a u'):=by
 obtain⟨nm,n0,uo,ha,Z⟩:=J.priv i a o;have W:∀ u,H a=some u->¬ fixd u:=λu e z=>by rw[ha]at e;cases e;cases uo<;>first|exact z|exact Z
 have kp:∀ b u,H b=some u->(M b\/fixd u)->aI H a u' b=some u:=λb u q z=>by
  rw[ac]
  .exact q
  .rintro rfl;rcases z with z|z
   .exact nm z
   .exact W u q z
 have km:∀(fr:Bool) b u,H b=some u->(msk g M fr b\/fixd u)->aI H a u' b=some u:=λfr b u q z=>kp b u q (z.imp (·.1) id);refine⟨⟨λ_ z=>z,kp⟩,λb u q=>?_,λb L=>?_,J.inn,λb L h0=>?_,λj s Y=>?_,λj b h=>?_,J.apart,λj b h=>?_,by rw[KP];exact J.len,λc z e=>by
  by_cases hc:c=a
  .subst hc;rw[af]at e;cases e
  .rw[ac hc]at e;exact J.zz c z e⟩
 .rw[ac (λz=>by rw[z,n0]at q;cases q)];exact J.same b u q
 .have nb:b≠a:=λz=>nm (by rw[<- z];exact L);rw[ac nb];exact J.froz b L
 .have nb:b≠a:=λz=>nm (by rw[<- z];exact L);exact(J.fl b L h0).same λo e=>by rw[ac nb];exact e
 .by_cases O:j=i
  .subst O;rw[KG hi]at Y;cases Y;exact⟨v,ev,ok⟩
  .rw[KR (K9 O)]at Y;obtain⟨w,ew,k⟩:=J.slot j s Y;refine⟨w,ew,?_⟩;have nj:∀ b,ρ j b->b≠a:=λb L e=>O (J.apart j i a (e▸L) o);cases s with
   |val d fr=>exact Is.mono (km fr) (λ_ _ _ z=>z) k
   |own ds' fr'=>obtain⟨b,ws,rfl,h1,h2,h4⟩:=k;exact⟨b,ws,rfl,by rw[ac (nj b ((h2 b).mpr rfl))];exact h1,h2,IsAll.mono (km fr') (λ_ _ _ z=>z) h4⟩
   |tre d=>
    refine Is.mono (λb u q z=>?_) (λ_ _ _ z=>z) k;rw[ac]
    .exact q
    .rcases z with z|z
     .exact nj b z
     .intro e;rw[e]at q;exact W u q z
   |mes d=>refine IsSh.mono (λb u q z=>kp b u q (.inr z)) (λb ws z q=>⟨ws,by rw[ac (nj b z)];exact q⟩) (λ_ z=>z) k
 .obtain⟨b1,b2,b3⟩:=J.priv j b h;refine⟨b1,b2,?_⟩;by_cases e:b=a
  .exact⟨u',by rw[e,af],hu⟩
  .exact b3.same λo z=>by rw[ac e];exact z
 .unfold isOwn;by_cases O:j=i
  .subst O;rw[KG hi];exact hO
  .rw[KR (K9 O)];exact J.ow j b h
theorem Rep.write (J:Rep g M ρ env σ H)(o:ρ i a)(hi:i<env.length)(ev:σ[i]?=some (some v))(ok:SlOk g M (ρ i) (aI H a (.lst vs')) v sl)(L:autoParam (sl.isO=true) Oy._auto_1) :
 Frz M H M (aI H a (.lst vs'))/\Rep g M ρ (env.set i (some sl)) σ (aI H a (.lst vs')):=J.writeO (u':=.lst vs') True.intro o hi ev ok L
end
section
variable {X:Cx}{E:XK}
noncomputable def gX:En->Res Fl:=λenv=>.ok (.nx env)
noncomputable def a_ (f k:En->Res Fl):En->Res Fl:=λenv=>(f env).bind λr=>match r with
 | .nx bb=>k bb
 |r=>.ok r
theorem aZ:sN X E [] gX:=⟨_,lc,λg M ρ env σ H D J p=>p σ M ρ H (Frz.refl _ _) J⟩
theorem aD {st:Stmt}{f:En->Res Fl}(h:Aj X E st f):sN X E [st] f:=let ⟨t,a,b⟩:=h;⟨t,aP a,b⟩
theorem am {st:Stmt}{rest:List Stmt}{f k:En->Res Fl}(h1:Aj X E st f)(h2:sN X E rest k):sN X E (st::rest) (a_ f k):=by
 obtain⟨t,a,b⟩:=h1;obtain⟨u,c,d⟩:=h2;refine⟨_,aO a c,λg M ρ env σ H D L p=>b g M ρ env σ H _ L ?_⟩;unfold a_ at p;cases q:f env with
 |stuck=>rw[q]at p;exact p
 |exc c=>rw[q]at p;exact p
 |ok r=>
  rw[q]at p;cases r with
  |nx bb=>exact λO M' W H' e J=>d g M' W bb O H' D J (PostS.frz e p)
  |bk bb=>exact p
  |ct bb=>exact p
  |rt r=>exact p
  |rm r bb=>exact p
noncomputable def rG (c:En->Res Bool)(a b:En->Res Fl):En->Res Fl:=λenv=>(c env).bind λk=>if k then a env else b env
theorem ce (hc:xW X E c fc)(ha:sN X E a fa)(W:sN X E b fb):Aj X E (.If c a b pos) (rG fc fa fb):=by
 obtain⟨tc,p1,s1⟩:=hc;obtain⟨ta,p2,s2⟩:=ha;obtain⟨tb,p3,s3⟩:=W;refine⟨_,qT p1 p2 p3,λg M ρ env σ H D L p=>s1.oneS L p λb M' H' e J O=>?_⟩;cases b with
 |true=>exact ss (s2 g M' ρ env σ H' D J O)
 |false=>exact ud (s3 g M' ρ env σ H' D J O)
noncomputable def de (f:En->Res R):En->Res Fl:=λenv=>(f env).bind λr=>.ok (.rt r)
theorem ROk.ret (J:Rep g M ρ env σ H)(h0:Same g.H₀ H0)(h:ROk g M ρ H0 H v r)(hz:∀ a,¬ g.Z a):RetOk g H v r:=by
 have L:∀ a,M a->g.H₀ a=none->Mu H a:=λa h1 h2=>(J.fl a h1 h2).elim id λz=>(hz a z.1).elim;have key:∀{fr:Bool}{a:Addr},msk g M fr a->nl g.H₀ H a\/(fr=false/\g.Ma a):=λ{fr a} z=>by
  cases fr with
  |true=>exact .inl ⟨z.2 rfl,L a z.1 (z.2 rfl)⟩
  |false=>exact(J.inn a z.1).imp (λw=>⟨w,L a z.1 w⟩) λw=>⟨rfl,w⟩
 cases r with
 |val d fr al=>exact Is.weak (λa z=>z.elim key λ⟨i,_,o⟩=>.inl (J.priv i a o).2) h
 |new ds fr=>obtain⟨a,vs,rfl,h1,h2,O,h4,W⟩:=h;exact⟨a,vs,rfl,h1,h0.free O,IsAll.weak (λb z=>⟨λe=>h2 (e▸z.1),key z⟩) W⟩
 |fre d=>obtain⟨T,Y,is⟩:=h;exact Is.weak (λa z=>let ⟨_,a2,a3,_⟩:=Y a z;⟨h0.free a2,a3⟩) is
theorem ROk.flatIs (h:ROk g M ρ H0 H v r)(hf:r.d.flat=true):Is H (λ_=>False) r.d v:=by
 cases r with
 |val d fr al=>exact Is.flat hf h
 |new ds fr=>simp[D.flat,R.d]at hf
 |fre d=>obtain⟨T,_,is⟩:=h;exact Is.flat hf is
theorem aQ (h:PD X E e f):Aj X E (.Return (some e) pos) (de f):=by obtain⟨t,p1,s1⟩:=h;exact⟨_,oH p1,λg M ρ env σ H D L p=>s1.oneS L p λr v M' H' e J ro O=>O v M' H' (Frz.refl _ _) J.same (λhz=>ro.ret J L.same hz) λhf=>ro.flatIs hf⟩
noncomputable def fH (i:Nat)(f:En->Res R):En->Res Fl:=λenv=>(f env).bind λr=>if i<env.length then .ok (.nx (put env i r)) else .stuck
theorem x_ (s:Snd mg E t f):Du mg E (qC t (bx i)) (fH i f):=by
 intro g M ρ env σ H D J p;refine s.oneS J p λr v M' H' e L ro O=>?_;by_cases hi:i<env.length
 .rw[Ka hi]at O;obtain⟨M2,W,e2,rep2⟩:=L.store J.same hi ro;exact O _ M2 W H' e2 rep2
 .rw[J_ hi]at O;exact O.elim
theorem bL (J:X.N.Nodup)(hi:X.N[i]?=some x)(L:Fs X.env.scope x)(h:PD X E e f)(hs:autoParam (swapsWith e (some (.Name x pos')) pos.line X.env=pure false) Oy._auto_1)
 (hf:autoParam (X.fn x=true\/X.env.scope.names.lookup x=some .local) Ou._auto_1):Aj X E (.Assign [.Name x pos'] e pos) (fH i f):=by
 obtain⟨t,p1,s1⟩:=h;exact⟨_,iN J hi L p1 hs hf,x_ s1⟩
noncomputable def pD (env:En)(i:Nat):Option (List D×Bool):=match env[i]? with
 |some (some (.own ds fr))=>some (ds,fr)
 |some (some (.tre (.lst ds)))=>some (ds,true)
 |_=>none
mutual
noncomputable def D.sz:D->Nat
 | .tup ds=>D.szs ds+1
 | .lst ds=>D.szs ds+1
 | .dic _ ds=>D.szs ds+1
 |_=>0
noncomputable def D.szs:List D->Nat
 | []=>0
 |d::ds=>d.sz+D.szs ds+1
end
section
variable {H:Hp}{m m':Addr->Prop}
mutual
theorem Is.avoid (ha:Is H m' e (.ref a)):∀{d:D}{v:V},d.sz<e.sz->Is H m d v->Is H (λb=>m b/\b≠a) d v
 | .non,_,_,h=>h
 | .bl _,_,_,h=>h
 | .int _,_,_,h=>h
 | .str _,_,_,h=>h
 | .tup ds,_,hs,h=>by obtain⟨b,vs,rfl,h1,h2⟩:=h;simp only[D.sz]at hs;exact⟨b,vs,rfl,h1,IsAll.avoid ha (by lia) h2⟩
 | .lst ds,_,hs,h=>by
  have h':=h;obtain⟨b,vs,rfl,h1,h2⟩:=h;have nb:b≠a:=λz=>by subst z;have q:=Is.inj h' ha;rw[q]at hs;lia
  simp only[D.sz]at hs;refine⟨b,vs,rfl,?_,IsAll.avoid ha (by lia) h2⟩;rcases h1 with⟨h1,J⟩|⟨o,h1,J⟩
  .exact .inl ⟨h1,J,nb⟩
  .exact .inr ⟨o,h1,J,nb⟩
 | .dic ks ds,_,hs,h=>by
  have h':=h;obtain⟨b,kvs,rfl,h1,h2⟩:=h;have nb:b≠a:=λz=>by subst z;have q:=Is.inj h' ha;rw[q]at hs;lia
  simp only[D.sz]at hs;exact⟨b,kvs,rfl,⟨h1.1,h1.2,nb⟩,IsAll.avoid ha (by lia) h2⟩
theorem IsAll.avoid (ha:Is H m' e (.ref a)):∀{ds:List D}{vs:List V},D.szs ds<e.sz->IsAll H m ds vs->IsAll H (λb=>m b/\b≠a) ds vs
 | [],_,_,h=>h
 |d::ds,_,hs,h=>by obtain⟨v,r,rfl,h1,h2⟩:=h;simp only[D.szs]at hs;exact⟨v,r,rfl,Is.avoid ha (by lia) h1,IsAll.avoid ha (by lia) h2⟩
end
end
theorem Rep.toOwn (J:Rep g M ρ env σ H)(e:pD env i=some (ds,fr)) :
 ∃(M':Addr->Prop)(O:Pr)(a:Addr)(vs:List V),(∀ b,M b->M' b)/\Rep g M' O (env.set i (some (.own ds fr))) σ H/\σ[i]?=some (some (.ref a))/\H a=some (.lst vs)/\(∀ b,O i b↔b=a)/\IsAll H (msk g M' fr) ds vs/\i<env.length/\(∀ j b,O j b->ρ j b)/\(∀ j,j≠i->O j=ρ j):=by
 unfold pD at e;cases q:env[i]? with
 |none=>rw[q]at e;cases e
 |some o=>
  have hi:i<env.length:=(Ke.mp q).1;have W:env.set i (env[i])=env:=NL hi;cases o with
  |none=>rw[q]at e;cases e
  |some sl=>
   obtain⟨v,ev,k⟩:=J.slot i sl q;rw[q]at e;cases sl with
   |val d f=>cases e
   |mes d=>cases e
   |own ds' f'=>
    cases e;obtain⟨a,vs,rfl,h1,h2,h4⟩:=k;have eq:env.set i (some (.own ds fr))=env:=by
     have:env[i]=some (.own ds fr):=by have:=(Ke.mp q).2;exact this
     rw[<- this];exact W
    rw[eq];exact⟨M,ρ,a,vs,λ_ z=>z,J,ev,h1,h2,h4,hi,λ_ _ z=>z,λ_ _=>rfl⟩
   |tre d=>
    cases d with
    |lst ds'=>
     cases e;have k':=k;obtain⟨a,vs,rfl,h1,h2⟩:=k;have pa:ρ i a:=by rcases h1 with⟨_,z⟩|⟨_,_,z⟩<;>exact z
     obtain⟨pm,p0,uo,pl,pmu⟩:=J.priv i a pa;have hl:H a=some (.lst vs):=by
      rcases h1 with⟨h1,_⟩|⟨o,h1,_⟩
      .exact h1
      .rw[h1]at pl;cases pl;exact pmu.elim
     have inner:IsAll H (λb=>ρ i b/\b≠a) ds vs:=IsAll.avoid k' (by simp only[D.sz];lia) h2
     let M':Addr->Prop:=λb=>M b\/(ρ i b/\b≠a)
     let O:Pr:=sO ρ i λb=>b=a
     have rr:Rep g M' O (env.set i (some (.own ds true))) (σ.set i (some (.ref a))) H:=by
      have r1:Rep g M' (λj b=>if j=i then b=a else ρ j b) (env.set i (some (.own ds true))) σ H:=by
       refine⟨J.same,λb hb=>hb.elim (J.froz b) λz=>?_,λb hb=>hb.elim (J.inn b) λz=>.inl (J.priv i b z.1).2.1,λb hb h0=>hb.elim (λz=>J.fl b z h0) λz=>.inl (J.priv i b z.1).2.2,λj s ej=>?_,λj b h=>?_,λj k b w1 Z=>?_,λj b h=>?_,by rw[KP];exact J.len,J.zz⟩
       .exact(J.priv i b z.1).2.2.some
       .by_cases L:j=i
        .subst L;rw[KG hi]at ej;cases ej;exact⟨_,ev,a,vs,rfl,hl,λb=>by simp,IsAll.weak (λb z=>⟨.inr z,λ_=>(J.priv j b z.1).2.1⟩) inner⟩
        .rw[KR (K9 L)]at ej;obtain⟨v',ev',k2⟩:=J.slot j s ej;have eT:(λb=>if j=i then b=a else ρ j b)=ρ j:=by funext b;rw[J_ L]
         exact⟨v',ev',by show SlOk g M' (λb=>if j=i then b=a else ρ j b) H v' s;rw[eT];exact SlOk.weak (λ_=>.inl) k2⟩
       .by_cases L:j=i
        .rw[Ka L]at h;subst h;exact⟨λz=>z.elim pm λz=>z.2 rfl,p0,Mu.lst hl⟩
        .rw[J_ L]at h;exact⟨λz=>z.elim (J.priv j b h).1 λz=>L (J.apart j i b h z.1),(J.priv j b h).2⟩
       .by_cases L:j=i
        .by_cases hk:k=i
         .rw[L,hk]
         .rw[Ka L]at w1;rw[J_ hk]at Z;subst w1;exact absurd (J.apart k i b Z pa) hk
        .by_cases hk:k=i
         .rw[Ka hk]at Z;rw[J_ L]at w1;subst Z;exact absurd (J.apart j i b w1 pa) L
         .rw[J_ L]at w1;rw[J_ hk]at Z;exact J.apart j k b w1 Z
       .unfold isOwn;by_cases L:j=i
        .subst L;rw[KG hi];rfl
        .rw[J_ L]at h;rw[KR (K9 L)];exact J.ow j b h
      have Y:i<σ.length:=by rw[<- J.len];exact hi
      have es:σ.set i (some (.ref a))=σ:=by have:σ[i]=some (.ref a):=(Ke.mp ev).2;rw[<- this];exact NL Y
      rw[es];exact r1
     have Y:i<σ.length:=by rw[<- J.len];exact hi
     have es:σ.set i (some (.ref a))=σ:=by have:σ[i]=some (.ref a):=(Ke.mp ev).2;rw[<- this];exact NL Y
     rw[es]at rr;refine⟨M',O,a,vs,λ_=>.inl,rr,ev,hl,λb=>by show sO ρ i (λb=>b=a) i b↔b=a;rw[fZ],IsAll.weak (λb z=>⟨.inr z,λ_=>(J.priv i b z.1).2.1⟩) inner,hi,λj b z=>?_,λj L=>dw L⟩;by_cases L:j=i
     .subst L;have z:sO ρ j (λb=>b=a) j b:=z;rw[fZ]at z;rw[z];exact pa
     .have z:sO ρ i (λb=>b=a) j b:=z;rw[dw L]at z;exact z
    |_=>cases e
noncomputable def Bt (i:Nat)(f:En->Res R):En->Res Fl:=λenv=>match pD env i with
 |some (ds,fr)=>(f env).bind λr=>if ds.length<lim/\¬ i∈r.al then .ok (.nx ((frz env r.al).set i (some (.own (ds++[r.d]) (fr&&r.fr))))) else .stuck
 |none=>.stuck
theorem Dv (ha:PE X a (aA i))(h:PD X E e f)
 (O:autoParam (attributeBase a "append" X.env (eval a X.env)=eval a X.env) Oy._auto_1)
 (Z:autoParam (((backTo cpos (starEach [e] X.env)).all (λx=>!x.1)&&(backToKw cpos (keywordEach [] X.env)).all (λx=>x.1.isSome)
   && decide (([e]:List Expr).length+([]:List Keyword).length+(if ([]:List Keyword).isEmpty then 0 else 1)<30))=true) Oy._auto_1)
 (W:autoParam ((apos.endLine==cpos.line)=true) Oy._auto_1) (hs:autoParam (starEach [e] X.env=(false,eval e X.env)::starEach [] X.env) Oy._auto_1) (J:autoParam ((backTo cpos (starEach [] X.env)).any (·.1)=false) Oy._auto_1)
 (hsw:autoParam (swapsWith (.Call (.Attribute a "append" apos) [e] [] cpos) none pos.line X.env=pure false) Oy._auto_1) :
 Aj X E (.Expr (.Call (.Attribute a "append" apos) [e] [] cpos) pos) (Bt i f):=by
 obtain⟨t,p1,s1⟩:=h;refine⟨_,bK (li Me L7 L8 fq ha (ag p1 aC hs) O Z W hs J) hsw,λg M ρ env σ H D Y p=>?_⟩;unfold Bt at p;cases e1:pD env i with
 |none=>rw[e1]at p;exact p.elim
 |some o=>
  obtain⟨ds,fr⟩:=o;rw[e1]at p;dsimp only at p;obtain⟨M0,ρ0,l,vs,m0,rep0,ev,k1,k2,k4,hi,_⟩:=Y.toOwn e1;refine⟨_,ev,.inl ⟨rfl,vs,SqL.of k1⟩,s1.oneS Y p λr y M' H' e rep' ro p'=>?_⟩;by_cases hc:ds.length<lim/\¬ i∈r.al
  .rw[Ka hc]at p';obtain⟨M1,x1,x1m,rep1,is1⟩:=ro.is rep' e Y.same;obtain⟨M2,ρ2,x2,rep2,o2,k5,k6⟩:=Rep.frz r.al rep1;have is2:Is H' (msk g M2 r.fr) r.d y:=Is.frozen rep1 x2 o2 is1;have e2:pD (frz env r.al) i=some (ds,fr):=by unfold pD;rw[Bs _ hc.2];exact e1
   obtain⟨M3,ρ3,l3,vs3,m3,rep3,ev3,j1,j2,j4,hi3,_⟩:=rep2.toOwn e2;rw[ev]at ev3;cases ev3;have hl:H' l=some (.lst vs):=e.h _ _ k1;rw[hl]at j1;cases j1;have pl:ρ3 i l:=(j2 l).mpr rfl;obtain⟨nl3,_⟩:=rep3.priv i l pl;have is4:IsAll H' (msk g M3 (fr&&r.fr)) (ds++[r.d]) (vs++[y]):=by refine IsAll.snoc (IsAll.weak (λb z=>⟨z.1,λq=>z.2 (by cases fr<;>simp_all)⟩) j4) (Is.weak (λb z=>⟨m3 b z.1,λq=>z.2 (by cases fr<;>simp_all)⟩) is2)
   have kp:∀ b u,H' b=some u->(msk g M3 (fr&&r.fr) b\/fixd u)->aI H' l (.lst (vs++[y])) b=some u:=λb u q z=>by
    rw[ac]
    .exact q
    .rintro rfl;rcases z with z|z
     .exact nl3 z.1
     .rw[hl]at q;cases q;exact z
   obtain⟨f1,L⟩:=rep3.write (sl:=.own (ds++[r.d]) (fr&&r.fr)) (vs':=vs++[y]) pl (by rw[KP];exact hi3) ev ⟨l,vs++[y],rfl,af,j2,IsAll.mono kp (λ_ _ _ z=>z) is4⟩;rw[List.set_set]at L;refine⟨l,vs,y,rfl,rfl,hl,by rw[k4.length];exact Bi hc.1,?_⟩;exact p' σ M3 ρ3 _ (Frz.trans ⟨λa z=>m3 a (x2 a (x1m a z)),λ_ _ q _=>q⟩ f1) L
  .rw[J_ hc]at p';exact p'.elim
end
def Gk (ix:List Nat)(t:TG)(asg:D->Bool->En->Option En):Prop:=∀(g:Gd)(M:Addr->Prop)(ρ:Pr)(env bb:En)(σ:St)(H:Hp)(d:D)(fr:Bool)(v:V)(Q:St->Hp->Prop),
 Rep g M ρ env σ H->Is H (msk g M fr) d v->asg d fr env=some bb->(∀(J:St)(L:Pr),Rep g M L bb J H->(∀ j,¬ j∈ix->J[j]?=σ[j]?)->(∀ j a,L j a->ρ j a)->Q J H)->t v σ H Q
def HQ (ix:List Nat)(t:Et)(asg:List D->Bool->En->Option En):Prop:=∀(g:Gd)(M:Addr->Prop)(ρ:Pr)(env bb:En)(σ:St)(H:Hp)(ds:List D)(fr:Bool)(vs:List V)(Q:St->Hp->Prop),
 Rep g M ρ env σ H->IsAll H (msk g M fr) ds vs->asg ds fr env=some bb->(∀(J:St)(L:Pr),Rep g M L bb J H->(∀ j,¬ j∈ix->J[j]?=σ[j]?)->(∀ j a,L j a->ρ j a)->Q J H)->t vs σ H Q
def CI (X:Cx)(ix:List Nat)(tg:Expr)(asg:D->Bool->En->Option En):Prop:=∃ t,PG X tg t/\Gk ix t asg
def Dw (X:Cx)(ix:List Nat)(ts:List Expr)(asg:List D->Bool->En->Option En):Prop:=∃ t,FD X ts t/\HQ ix t asg
section
variable {X:Cx}{E:XK}
noncomputable def gN (i:Nat):D->Bool->En->Option En:=λd fr env=>if i<env.length then some (env.set i (some (.val d fr))) else none
theorem zp:Gk [i] (bx i) (gN i):=by
 intro g M ρ env bb σ H d fr v Q L is e k;unfold gN at e;by_cases hi:i<env.length
 .rw[Ka hi]at e;cases e;exact k _ _ (L.put (sl:=.val d fr) (T:=λ_=>False) hi is (λ_ z=>z.elim) λ_ z=>z.elim) (λj J=>KR λe=>J (by simp[e])) λj a z=>by
   by_cases J:j=i
   .subst J;rw[fZ]at z;exact z.elim
   .rw[dw J]at z;exact z
 .rw[J_ hi]at e;cases e
theorem aB (J:X.N.Nodup)(hi:X.N[i]?=some x)(L:Fs X.env.scope x)(hf:autoParam (X.fn x=true\/X.env.scope.names.lookup x=some .local) Ou._auto_1):CI X [i] (.Name x pos) (gN i):=⟨_,bt J hi L hf,zp⟩
noncomputable def bn:List D->Bool->En->Option En:=λds _ env=>match ds with
 | []=>some env
 |_=>none
noncomputable def av (f:D->Bool->En->Option En)(fs:List D->Bool->En->Option En):List D->Bool->En->Option En:=λds fr env=>match ds with
 |d::r=>(f d fr env).bind λbb=>fs r fr bb
 | []=>none
theorem bY:Dw X [] [] bn:=⟨_,eV,λg M ρ env bb σ H ds fr vs Q J is e k=>by
 cases ds with
 |nil=>cases e;cases is;exact⟨rfl,k σ ρ J (λ_ _=>rfl) λ_ _ z=>z⟩
 |cons d ds=>cases e⟩
theorem aG (h1:CI X ix e f)(h2:Dw X jx es fs)
 (hs:∀ t,PG X e t->∀ u,FD X es u->FD X (e::es) (cT t u)):Dw X (ix++jx) (e::es) (av f fs):=by
 obtain⟨t,p1,s1⟩:=h1;obtain⟨u,p2,s2⟩:=h2;refine⟨_,hs t p1 u p2,λg M ρ env bb σ H ds fr vs Q L is e k=>?_⟩;cases ds with
 |nil=>cases e
 |cons d ds=>
  obtain⟨v,r,rfl,i1,i2⟩:=is;unfold av at e;dsimp only at e;cases q:f d fr env with
  |none=>rw[q]at e;cases e
  |some J=>rw[q]at e;refine⟨v,r,rfl,s1 g M ρ env J σ H d fr v _ L i1 q λO W rep1 c1 d1=>?_⟩;exact s2 g M W J bb O H ds fr r Q rep1 i2 e λY Z rep2 c2 d2=>k Y Z rep2 (λj hj=>(c2 j λz=>hj (by simp[z])).trans (c1 j λz=>hj (by simp[z]))) λj a z=>d1 j a (d2 j a z)
noncomputable def gT (n:Nat)(fs:List D->Bool->En->Option En):D->Bool->En->Option En:=λd fr env=>match d with
 | .tup ds=>if ds.length=n then fs ds fr env else none
 |_=>none
theorem cD (hc:X.calm=true)(h:Dw X ix es fs)(hn:autoParam ((assignEach es X.env).length=n) Oy._auto_1)(J:autoParam ((assignEach es X.env).findIdx? (·.1)=none) Oy._auto_1):CI X ix (.Tuple es k pos) (gT n fs):=by
 obtain⟨t,p1,s1⟩:=h;refine⟨_,hZ hc p1 hn J,λg M ρ env bb σ H d fr v Q L is e W=>?_⟩;unfold gT at e;cases d with
 |tup ds=>
  obtain⟨a,vs,rfl,h1,h2⟩:=is;dsimp only at e;by_cases O:ds.length=n
  .rw[Ka O]at e;exact⟨a,vs,rfl,SqT.of h1,h2.length.trans O,s1 g M ρ env bb σ H ds fr vs Q L h2 e W⟩
  .rw[J_ O]at e;cases e
 |_=>cases e
noncomputable def n_ (f:En->Res R)(asg:D->Bool->En->Option En):En->Res Fl:=λenv=>(f env).bind λr=>match asg r.d r.fr (frz env r.al) with
 |some bb=>.ok (.nx bb)
 |none=>.stuck
theorem dz (he:PD X E e f)(hg:CI X ix tg asg)(hs:autoParam (swapsWithSole [tg] e pos.line X.env=pure false) Oy._auto_1)(hw:autoParam (swappedStores [tg] e X.env=pure none) Oy._auto_1)
 (h1:autoParam ((assignEach [tg] X.env).map (·.2)=[assign tg X.env]) Oy._auto_1):Aj X E (.Assign [tg] e pos) (n_ f asg):=by
 obtain⟨t,p1,s1⟩:=he;obtain⟨u,p2,s2⟩:=hg;refine⟨_,FE p1 p2 hs hw h1,λg M ρ env σ H D J p=>s1.oneS J p λr v M' H' e L ro O=>?_⟩;obtain⟨M1,x1,W,rep1,Y⟩:=ro.is L e J.same;obtain⟨M2,Z,x2,rep2,o2,_,_⟩:=Rep.frz r.al rep1;have is2:Is H' (msk g M2 r.fr) r.d v:=Is.frozen rep1 x2 o2 Y;cases q:asg r.d r.fr (frz env r.al) with
 |none=>simp only[q]at O;exact O.elim
 |some bb=>simp only[q]at O;exact s2 g M2 Z _ bb σ H' r.d r.fr v _ rep2 is2 q λσ' ρ' rep3 _ _=>O σ' M2 ρ' H' ⟨λa z=>x2 a (W a z),λ_ _ q _=>q⟩ rep3
end
structure Src where
 xs:List D
 fr:Bool
 al:List Nat
structure Walk (J:It) (m:Addr->Prop) (H:Hp) (xs:List D):Prop where
 go:∀ H' i d,(∀ a o,H a=some o->(m a\/fixd o)->H' a=some o)->xs[i]?=some d->J.go i H'/\∀ x H'',J.yld i H' x H''->Same H' H''/\Is H'' m d x
 stop:∀ H',(∀ a o,H a=some o->(m a\/fixd o)->H' a=some o)->J.stop xs.length H'
theorem Walk.weak (w:Walk J m H xs)(h:∀ a,m a->m' a):Walk J m' H xs:=⟨λH' i d k e=>let ⟨a,b⟩:=w.go H' i d (λa o q z=>k a o q (z.imp (h a) id)) e;⟨a,λx H'' y=>let ⟨c,d⟩:=b x H'' y;⟨c,d.weak h⟩⟩,λH' k=>w.stop H' λa o q z=>k a o q (z.imp (h a) id)⟩
noncomputable def PostI (mg:Str->Option Oq)(E:XK)(g:Gd)(M:Addr->Prop)(ρ:Pr)(env:En)(σ:St)(H:Hp)(R:It->Hp->Prop):Res Src->Prop
 | .stuck=>False
 | .exc c=>Do mg E g c
 | .ok s=>∀ J M' H',Ext M H M' H'->Rep g M' ρ env σ H'->Walk J (vmsk g M' s.fr ρ s.al) H' s.xs->R J H'
def HR (mg:Str->Option Oq)(E:XK)(wi:TI)(f:En->Res Src):Prop:=∀ g M ρ env σ H R,Rep g M ρ env σ H->PostI mg E g M ρ env σ H R (f env)->wi σ H R
def HS (X:Cx)(E:XK)(tg iter:Expr)(f:En->Res Src):Prop:=∃ wi,PI X tg iter wi/\HR X.mg E wi f
section
variable {X:Cx}{E:XK}{tg:Expr}
noncomputable def JC (K:On)(tl:TE):TI:=λσ H R=>tl σ H λx H1=>∃ a,x=.ref a/\(((∃ xs,SqL K H1 a xs)/\R (v4 K a) H1)\/((∃ xs,SqT K H1 a xs)/\R (Jk K a) H1))
theorem Gm (W:PE X l tl):PI X tg l (JC X.K tl):=by
 intro pins s σ H R I h;refine bM (W pins s σ H _ I h) λv s1 ⟨x,H1,J,r1,q1⟩=>?_;obtain⟨a,e,q⟩:=q1;subst e;cases r1;rcases q with⟨⟨xs,L⟩,q⟩|⟨⟨xs,L⟩,q⟩
 .obtain⟨its,Y,p,hz⟩:=J.list L;refine MV p.isList ?_;refine⟨s1.heap.objs.size,[s1.heap.objs.size],_,_,H1,rfl,J.kept (t':=s1.toks) λb o e=>J5 _ e,qU a _,⟨_,Kh _ rfl,rfl,rfl⟩,λb O=>?_,q⟩;have e:b=s1.heap.objs.size:=by simpa using O
  subst e;exact J.fpOk (J6 _) (J.hok.fresh (J6 _))
 .obtain⟨its,Y,p,hz⟩:=J.tuple L;refine wpAny_pyIter_tuple (show s1.heap.IsTuple a its.toArray from p) ?_;refine⟨s1.heap.objs.size,[s1.heap.objs.size],_,_,H1,rfl,J.kept (t':=s1.toks) λb o e=>J5 _ e,v5 a _,⟨_,Kh _ rfl,rfl,rfl⟩,λb O=>?_,q⟩;have e:b=s1.heap.objs.size:=by simpa using O
  subst e;exact J.fpOk (J6 _) (J.hok.fresh (J6 _))
theorem zq {K:On}{a:Addr}{m:Addr->Prop}(h:(H a=some (.lst vs)/\m a)\/∃ o,H a=some (.frz o (.lst vs))/\m a)(is:IsAll H m ds vs):Walk (v4 K a) m H ds:=by
 have st:∀ H',(∀ a o,H a=some o->(m a\/fixd o)->H' a=some o)->SqL K H' a vs:=λH' k=>by
  rcases h with⟨h,hm⟩|⟨o,h,_⟩
  .exact .inl (.inl (k a _ h (.inl hm)))
  .exact .inl (.inr ⟨o,k a _ h (.inr True.intro)⟩)
 refine⟨λH' i d k e=>?_,λH' k=>⟨vs,st H' k,by rw[is.length];exact J6 _⟩⟩;obtain⟨v,ev,J⟩:=(is.mono k λ_ _ _ z=>z:IsAll H' m ds vs).get e;refine⟨⟨vs,v,st H' k,ev⟩,λx H'' y=>?_⟩;obtain⟨rfl,y⟩:=y;have:=y vs (st _ k);rw[ev]at this;cases this;exact⟨Same.refl _,J⟩
theorem Bu {K:On}{a:Addr}{m:Addr->Prop}(h:H a=some (.tup vs))(is:IsAll H m ds vs):Walk (Jk K a) m H ds:=by have st:∀ H',(∀ a o,H a=some o->(m a\/fixd o)->H' a=some o)->SqT K H' a vs:=λH' k=>SqT.of (k a _ h (.inr True.intro));refine⟨λH' i d k e=>?_,λH' k=>⟨vs,st H' k,by rw[is.length];exact J6 _⟩⟩;obtain⟨v,ev,J⟩:=(is.mono k λ_ _ _ z=>z:IsAll H' m ds vs).get e;refine⟨⟨vs,v,st H' k,ev⟩,λx H'' y=>?_⟩;obtain⟨rfl,y⟩:=y;have:=y vs (st _ k);rw[ev]at this;cases this;exact⟨Same.refl _,J⟩
noncomputable def eR (lo:Int)(n:Nat):List D:=(List.range n).map λk=>.int (lo+(k:Nat))
theorem wQ (lo:Int)(n:Nat):Walk (I_ lo n) m H (eR lo n):=by
 refine⟨λH' i d k e=>?_,λH' k=>by show n<=(eR lo n).length;simp[eR]⟩;have hi:i<n:=by have:=(Ke.mp e).1;simpa[eR] using this
 refine⟨hi,λx H'' y=>?_⟩;obtain⟨rfl,rfl⟩:=y;refine⟨Same.refl _,?_⟩;have:(eR lo n)[i]?=some (.int (lo+(i:Nat))):=by simp[eR,hi]
 rw[this]at e;cases e;rfl
noncomputable def kK (f:En->Res R):En->Res Src:=λenv=>(f env).bind λr=>match r.d with
 | .lst ds=>.ok ⟨ds,r.fr,r.al⟩
 | .tup ds=>.ok ⟨ds,r.fr,r.al⟩
 |_=>.stuck
theorem kg (h:PD X E l f):HS X E tg l (kK f):=by
 obtain⟨t,p1,s1⟩:=h;refine⟨_,Gm p1,λg M ρ env σ H R L p=>?_⟩;refine s1.one L (P:=λM H r=>PostI X.mg E g M ρ env σ H R r) p (λ_ _ z=>z) (λ_ _ _ z=>z) (λM H M' H' r e p=>?_) λr v M1 H1 e1 rep1 is q=>?_
 .cases r with
  |stuck=>exact p
  |exc c=>exact p
  |ok s=>exact λJ M2 H2 e2=>p J M2 H2 (e.trans e2)
 .cases z:r.d with
  |lst ds=>rw[z]at is;simp only[z]at q;obtain⟨a,vs,rfl,h1,h2⟩:=is;exact⟨a,rfl,.inl ⟨⟨vs,.inl (h1.imp (·.1) λ⟨o,z,_⟩=>⟨o,z⟩)⟩,q _ M1 H1 (Ext.refl _ _) rep1 (zq h1 h2)⟩⟩
  |tup ds=>rw[z]at is;simp only[z]at q;obtain⟨a,vs,rfl,h1,h2⟩:=is;exact⟨a,rfl,.inr ⟨⟨vs,SqT.of h1⟩,q _ M1 H1 (Ext.refl _ _) rep1 (Bu h1 h2)⟩⟩
  |_=>simp only[z]at q;exact q.elim
noncomputable def cR (i:Int):Bool:=decide (-(2 ^ 62)<=i)&&decide (i<2 ^ 62)
noncomputable def HU (fs:En->Res (List R)):En->Res Src:=λenv=>(fs env).bind λrs=>match rs.map R.d with
 | [.int j]=>if cR j then .ok ⟨eR 0 j.toNat,true,[]⟩ else .stuck
 |_=>.stuck
theorem PostI.ext {mg:Str->Option Oq}{M M':Addr->Prop}{R:It->Hp->Prop}(e:Ext M H M' H')(p:PostI mg E g M ρ env σ H R r):PostI mg E g M' ρ env σ H' R r:=by
 cases r with
 |stuck=>exact p
 |exc c=>exact p
 |ok s=>exact λJ M2 H2 e2=>p J M2 H2 (e.trans e2)
theorem kM (L:Gl X "range") (hm:X.mg "range"=none) (ha:Ah X E [a] fs) (hs:autoParam (starEach [a] X.env=[(false,eval a X.env)]) Oy._auto_1):HS X E tg (.Call (.Name "range" p) [a] [] pos) (HU fs):=by
 obtain⟨t,p1,s1⟩:=ha;refine⟨_,yQ L hm p1 hs,λg M ρ env σ H O J p=>s1.one J (P:=λM H r=>PostI X.mg E g M ρ env σ H O r) p (λ_ _ z=>z) (λ_ _ _ z=>z) (λ_ _ _ _ _ e p=>p.ext e) λrs vs M1 H1 e1 rep1 is q=>?_⟩;generalize hd:rs.map R.d=ds at is q
 match ds,is,q with
 | [.int j],is,q=>
  obtain⟨v,w,rfl,i1,i2⟩:=is;cases i1;cases i2;dsimp only at q;by_cases hc:cR j=true
  .rw[Ka hc]at q;simp only[cR,Ky,ME]at hc;exact⟨j,rfl,hc.1,hc.2,q _ M1 H1 (Ext.refl _ _) rep1 (wQ 0 j.toNat)⟩
  .rw[J_ hc]at q;exact q.elim
 | [],_,q=>exact q.elim
 | [.non],_,q=>exact q.elim
 | [.bl _],_,q=>exact q.elim
 | [.str _],_,q=>exact q.elim
 | [.tup _],_,q=>exact q.elim
 | [.lst _],_,q=>exact q.elim
 | [.dic _ _],_,q=>exact q.elim
 | .int _::_::_,_,q=>exact q.elim
 | .non::_::_,_,q=>exact q.elim
 | .bl _::_::_,_,q=>exact q.elim
 | .str _::_::_,_,q=>exact q.elim
 | .tup _::_::_,_,q=>exact q.elim
 | .lst _::_::_,_,q=>exact q.elim
 | .dic _ _::_::_,_,q=>exact q.elim
noncomputable def io (asg:D->Bool->En->Option En)(fr:Bool)(body:En->Res Fl):List D->En->Res Fl
 | [],env=>.ok (.nx env)
 |x::xs,env=>match asg x fr env with
  |none=>.stuck
  |some J=>(body J).bind λr=>match r with
   | .nx bb=>io asg fr body xs bb
   | .ct bb=>io asg fr body xs bb
   | .bk bb=>.ok (.nx bb)
   | .rt r=>.ok (.rt r)
   | .rm r e=>.ok (.rm r e)
noncomputable def Dx (src:En->Res Src)(asg:D->Bool->En->Option En)(body:En->Res Fl):En->Res Fl:=λenv=>(src env).bind λs=>io asg s.fr body s.xs (frz env s.al)
def HV (J:It)(u:TG)(tb:TS)(D:Ends)(σ:St)(H1:Hp):Prop:=∃ W:Nat->Nat->St->Hp->Prop,(∃ m,W 0 m σ H1)/\∀ i m σ H,W i m σ H->(J.stop i H/\D.nx σ H)\/(J.go i H/\∃ N:St->Hp->Prop,(∀ L H',N L H'->∃ m',m'<m/\W (i+1) m' L H')/\∀ x H',J.yld i H x H'->u x σ H' λO H2=>tb { D with nx:=N,ct:=N,bk:=D.nx } O H2)
theorem pE {asg:D->Bool->En->Option En}{fb:En->Res Fl}{g:Gd}{M2:Addr->Prop}{ρ2:Pr}{env2:En}{σ:St}{H1:Hp}{D:Ends}(s2:Gk ix u asg)(s3:Du X.mg E tb fb)(rep2:Rep g M2 ρ2 env2 σ H1)(wk2:Walk J (msk g M2 fr) H1 xs)(p2':PostS X.mg E g M2 H1 D (io asg fr fb xs env2)):HV J u tb D σ H1:=by
 refine⟨λi m Y H'=>m=xs.length-i/\i<=xs.length/\∃ M' Z bb,Rep g M' Z bb Y H'/\Frz M2 H1 M' H'/\PostS X.mg E g M' H' D (io asg fr fb (xs.drop i) bb),⟨_,rfl,KF _,M2,ρ2,_,rep2,Frz.refl _ _,p2'⟩,?_⟩;rintro i m Y H' ⟨rfl,hle,M',Z,bb,rep',f',p'⟩;have kp:∀ a o,H1 a=some o->(msk g M2 fr a\/fixd o)->H' a=some o:=λa o e z=>f'.h a o e (z.imp (·.1) id);by_cases hlt:i<xs.length
 .have ed:xs[i]?=some xs[i]:=by simp[hlt]
  obtain⟨go,yl⟩:=wk2.go H' i _ kp ed;have edrop:xs.drop i=xs[i]::xs.drop (i+1):=List.drop_eq_getElem_cons hlt;rw[edrop]at p';unfold io at p';refine .inr ⟨go,λσ'' H''=>∃ M'' ρ'' O,Rep g M'' ρ'' O σ'' H''/\Frz M2 H1 M'' H''/\PostS X.mg E g M'' H'' D (io asg fr fb (xs.drop (i+1)) O),λσ'' H'' z=>⟨xs.length-(i+1),by lia,rfl,hlt,z⟩,λx H'' y=>?_⟩;obtain⟨sm,is⟩:=yl x H'' y;have rep'':=rep'.grow sm;have fx:Frz M' H' M' H'':=⟨λ_ z=>z,λa o e _=>sm a o e⟩;have is':Is H'' (msk g M' fr) xs[i] x:=is.weak λa z=>msk.mono f'.m z;cases qa:asg xs[i] fr bb with
  |none=>simp only[qa]at p';exact p'.elim
  |some W=>
   simp only[qa]at p';refine s2 g M' Z bb W Y H'' _ fr x _ rep'' is' qa λσ1 ρ1 rep1' _ _=>?_;refine s3 g M' ρ1 W σ1 H'' _ rep1' ?_;have L:=PostS.frz fx p';cases qb:fb W with
   |stuck=>rw[qb]at L;exact L
   |exc c=>rw[qb]at L;exact L
   |ok r=>
    rw[qb]at L;cases r with
    |nx e3=>exact λσ3 M3 ρ3 H3 f3 rep3=>⟨M3,ρ3,e3,rep3,(f'.trans fx).trans f3,PostS.frz f3 L⟩
    |ct e3=>exact λσ3 M3 ρ3 H3 f3 rep3=>⟨M3,ρ3,e3,rep3,(f'.trans fx).trans f3,PostS.frz f3 L⟩
    |bk e3=>exact L
    |rt r=>exact L
    |rm r e3=>exact L
 .have e:i=xs.length:=by lia
  subst e;rw[List.drop_length]at p';exact .inl ⟨wk2.stop H' kp,p' Y M' Z H' (Frz.refl _ _) rep'⟩
theorem Dy (Z:PassesOwn (model X.prog X.w) X.A X.env X.xe)(hc:X.calm=true)
 (hi:HS X E tg iter src) (hg:CI X ix tg asg) (hb:sN X E body fb) (hs:autoParam (∀ x,foldedSetIterable iter X.env x=pure x) Ow._auto_1):Aj X E (.For tg iter body [] pos) (Dx src asg fb):=by
 obtain⟨wi,p1,s1⟩:=hi;obtain⟨u,p2,s2⟩:=hg;obtain⟨tb,p3,s3⟩:=hb;refine⟨_,gJ Z hc p1 p2 p3 hs,λg M ρ env σ H D L p=>?_⟩;refine s1 g M ρ env σ H _ L ?_;unfold Dx at p;cases q:src env with
 |stuck=>rw[q]at p;exact p
 |exc c=>rw[q]at p;exact p
 |ok s=>rw[q]at p;intro J M1 H1 e1 rep1 wk;obtain⟨M2,ρ2,Y,rep2,o2,_,_⟩:=Rep.frz s.al rep1;have O:Walk J (msk g M2 s.fr) H1 s.xs:=wk.weak λa z=>z.elim (msk.mono Y) λ⟨i,hi,o⟩=>⟨o2 i hi a o,λ_=>(rep1.priv i a o).2.1⟩;have W:PostS X.mg E g M2 H1 D (io asg s.fr fb s.xs (frz env s.al)):=PostS.frz (e1.frz.trans ⟨Y,λ_ _ q _=>q⟩) p;exact pE s2 s3 rep2 O W
end
theorem ip:∀(names:List (Str×NameKind))(cs:List (Str×Addr)),(∀ x∈names,x.2=.free->∃ c,env.cells.lookup x.1=some c)->(∀ y c,cs.lookup y=some c->env.cells.lookup y=some c)->
 ∃ cl,(forIn names cs λ(x:Str×NameKind)(r:List (Str×Addr))=>(do
  if (x.2==.free)=true then
   let c <- cellOf env x.1
   pure (ForInStep.yield ((x.1,c)::r))
  else pure (ForInStep.yield r):Sem (ForInStep (List (Str×Addr)))))=pure cl/\(∀ y c,cl.lookup y=some c->env.cells.lookup y=some c)/\(∀ x∈names,x.2=.free->∃ c,cl.lookup x.1=some c)/\(∀ y c,cs.lookup y=some c->∃ J,cl.lookup y=some J)
 | [],cs,_,h=>⟨cs,by simp,h,λ_ z=>absurd z (by simp),λy c e=>⟨c,e⟩⟩
 |(n,k)::r,cs,hf,h=>by
  by_cases W:k=.free
  .subst W;obtain⟨c,hc⟩:=hf (n,.free) (by simp) rfl;have Y:cellOf env n=pure c:=by simp[cellOf,hc]
   have h':∀ y J,((n,c)::cs).lookup y=some J->env.cells.lookup y=some J:=λy J e=>by
    rw[MN]at e;cases O:y==n with
    |true=>rw[O]at e;cases e;rw[eq_of_beq O];exact hc
    |false=>rw[O]at e;exact h y J e
   obtain⟨cl,e1,e2,e3,e4⟩:=ip r ((n,c)::cs) (λx hx=>hf x (by simp[hx])) h';have self:∃ J,cl.lookup n=some J:=e4 n c (by simp[MN]);refine⟨cl,?_,e2,λx hx L=>?_,λy J e=>?_⟩
   .rw[List.forIn_cons];simp only[beq_self_eq_true,Mb,Y,pure_bind];exact e1
   .rcases Kb.mp hx with rfl|hx
    .exact self
    .exact e3 x hx L
   .by_cases O:y=n
    .rw[O];exact self
    .refine e4 y J ?_;have hb:(y==n)=false:=by simpa using O
     rw[MN,hb];exact e
  .obtain⟨cl,e1,e2,e3,e4⟩:=ip r cs (λx hx=>hf x (by simp[hx])) h;refine⟨cl,?_,e2,λx hx L=>?_,e4⟩
   .rw[List.forIn_cons];have Z:(k==NameKind.free)=false:=by simpa using W
    simp only[Z,Kq,K8,pure_bind];exact e1
   .rcases Kb.mp hx with rfl|hx
    .exact absurd L W
    .exact e3 x hx L
theorem qM (h:∀ x∈scope.names,x.2=.free->∃ c,env.cells.lookup x.1=some c) :
 ∃ cl,closureFor scope env=pure cl/\(∀ y c,cl.lookup y=some c->env.cells.lookup y=some c)/\(∀ x∈scope.names,x.2=.free->∃ c,cl.lookup x.1=some c):=by
 obtain⟨cl,e1,e2,e3,_⟩:=ip scope.names [] h (λ_ _ e=>by simp at e);refine⟨cl,?_,e2,e3⟩;unfold closureFor;refine Eq.trans ?_ (show((pure cl:Sem (List (Str×Addr))) >>= λcs=>pure cs)=pure cl by simp);rw[<- e1]
 all_goals first
  |rfl
  |(congr 1;congr 1;funext x r;obtain⟨n,k⟩:=x;first|rfl|(dsimp only;split<;>simp_all))
theorem mU {f:Str->NameKind->NameKind}:∀(names:List (Str×NameKind))(y:Str),(names.map λx=>(x.1,f x.1 x.2)).lookup y=(names.lookup y).map (f y)
 | [],y=>rfl
 |(n,k)::r,y=>by
  rw[Kc,MN,MN];cases h:y==n with
  |true=>rw[eq_of_beq h];rfl
  |false=>exact mU r y
theorem iW (scope:Scope)(env:Env)(y:Str):(relabel scope env).names.lookup y=(scope.names.lookup y).map λk=>if (k==.free&&env.scope.kind==.function&&env.kindOf y==some .cell)=true then .cell else k:=by
 have e:(relabel scope env).names=scope.names.map λx=>(x.1,(λn k=>if (k==NameKind.free&&env.scope.kind==.function&&env.kindOf n==some .cell)=true then NameKind.cell else k) x.1 x.2):=by unfold relabel;refine Ln λx _=>?_;obtain⟨n,k⟩:=x;dsimp only;split<;>rfl
 rw[e];exact mU (f:=λn k=>if (k==NameKind.free&&env.scope.kind==.function&&env.kindOf n==some .cell)=true then NameKind.cell else k) scope.names y
theorem sR (h:scope.names.lookup y=some .free):(relabel scope env).names.lookup y=some .cell\/(relabel scope env).names.lookup y=some .free:=by
 rw[iW,h];simp only[Option.map_some];split
 .exact .inl rfl
 .exact .inr rfl
noncomputable def ci (X:Cx)(scope:Scope)(N:List Str)(cl:List (Str×Addr))(C:Addr)(s:Om)(H:Hp)(ex:List Addr):Cx:={ X with N:=N,s₀:=s,H₀:=H,env:=compEnvC scope cl C X.env,outer:=X.stack,ex:=ex,fn:=λ_=>false,pn:=[],xe:=λ_ _=>False }
section
variable {X:Cx}{pins:List (Addr×Obj)}{σ:St}{H:Hp}{s:Om}{scope:Scope}{N:List Str}{cl:List (Str×Addr)}{C:Addr}{ex:List Addr}
theorem Dz (I:L2.Inv X pins σ H s)(hkind:scope.kind=.function)(hcell:∀ y∈scope.names,y.2≠.cell)(hcl:∀ y c,cl.lookup y=some c->X.env.cells.lookup y=some c)(hhas:∀ x∈scope.names,x.2=.free->∃ c,cl.lookup x.1=some c)
 (hC:s.heap.objs.size<=C) (hex:∀ b∈ex,FpOk X pins H b/\b<s.heap.objs.size):(ci X scope N cl C s H ex).Ok where
 mod:=I.ok.mod
 kind:=hkind
 glob:=I.ok.glob
 blt:=I.ok.blt
 above:=hC
 inj:=λx y c h1 h2=>I.ok.inj x y c (hcl x c h1) (hcl y c h2)
 has:=λy hy=>by
  have key:∀ k,(relabel scope X.env).names.lookup y=some k->(k=.cell\/k=.free)->∃ c,cl.lookup y=some c:=λk e hk=>by
   rw[iW]at e;cases q:scope.names.lookup y with
   |none=>rw[q]at e;cases e
   |some k0=>
    have hm:=LU q;have h0:=hcell _ hm;have hf:k0=.free:=by
     rw[q]at e;simp only[Option.map_some,Option.some.injEq]at e;split at e
     .rename_i z;simp only[Ky,L1]at z;exact z.1.1
     .rcases hk with hk|hk
      .exact absurd (e.trans hk) h0
      .exact e.trans hk
    exact hhas _ hm hf
  rcases hy with hy|hy
  .exact key _ hy (.inl rfl)
  .exact key _ hy (.inr rfl)
 cab:=λ_ _ h=>by cases h
 hd:=I.ok.hd
 frames:=I.ok.frames
 stk:=.inl rfl
 exf:=λb hb=>⟨Kt (Kz (hex b hb).2 hC),λx c e=>(hex b hb).1.2.2.2.2.1 x c (hcl x c e)⟩
 bs:=λb o e=>I.bs b o e
 bsz:=Ku I.ok.bsz I.sz
 noex:=λb o e hb=>by
  rcases (hex b hb).1.2.2.2.1 with z|z
  .exact I.ok.noex b o e z
  .exact absurd (Kz (Kk e) (Ku I.ok.bsz z)) (MH _)
 exfs:=λb hb hfs=>by
  rcases Kb.mp (I.stkSub b hfs) with z|z
  .exact(hex b hb).1.2.1 z
  .exact(hex b hb).1.2.2.1 z
 funs:=I.stack
 frf:=I.stkFree
 kt:=I.kt
structure Caps (X:Cx) (scope:Scope) (capN:List Str) (caps:List Nat):Prop where
 at':∀(k:Nat)(y:Str),capN[k]?=some y->∃ j:Nat,caps[k]?=some j/\X.N[j]?=some y
 out:∀ y∈capN,X.env.kindOf y=some .cell\/X.env.kindOf y=some .free
 inn:∀ y∈capN,scope.names.lookup y=some .free
 len:caps.length=capN.length
noncomputable def ml (σ:St)(caps:List Nat):St:=caps.map λj=>(σ[j]?).join
theorem Bv (I:L2.Inv X pins σ H s)(hkind:scope.kind=.function)(hcell:∀ y∈scope.names,y.2≠.cell)(hcl:∀ y c,cl.lookup y=some c->X.env.cells.lookup y=some c)(hhas:∀ x∈scope.names,x.2=.free->∃ c,cl.lookup x.1=some c)
 (hC:s.heap.objs.size<=C) (hex:∀ b∈ex,FpOk X pins H b/\b<s.heap.objs.size) (hc:Caps X scope capN caps) (kp:∀ b o,s.heap.get? b=some o->h4.get? b=some o) (ns:h4.Ns C m4) :
 L2.Inv (ci X scope (tN++capN) cl C s H ex) [] (List.replicate tN.length none++ml σ caps) H { s with heap:=h4,toks:=tk } where
 ok:=Dz I hkind hcell hcl hhas hC hex
 os:=rfl
 bare:=I.bare
 base:=Un.kept kp
 loc:=by
  refine⟨m4,ns,λi y v e1 e2 e3=>?_⟩;by_cases hlt:i<tN.length
  .rw[Lz (by simpa using hlt),MJ]at e2;rw[Ka hlt]at e2;cases e2
  .obtain⟨k,rfl⟩ : ∃ k,i=tN.length+k:=⟨i-tN.length,by lia⟩;have e1:capN[k]?=some y:=by
    have e1:(tN++capN)[tN.length+k]?=some y:=e1
    rwa [KJ (by lia),Mf]at e1
   have e2:(ml σ caps)[k]?=some (some v):=by
    rwa [KJ (by simp),NH,Mf]at e2
   obtain⟨j,ej,eN⟩:=hc.at' k y e1;have e4:σ[j]?=some (some v):=by
    unfold ml at e2;rw[Ks,ej]at e2;have e2:(σ[j]?).join=some v:=by simpa using e2
    cases q:σ[j]? with
    |none=>rw[q]at e2;cases e2
    |some o=>rw[q]at e2;cases o with
     |none=>cases e2
     |some w=>cases e2;rfl
   have hm:=K3 e1;obtain⟨m,hn,hl⟩:=I.loc;have hout:=hc.out y hm;obtain⟨u,r,l⟩:=hl j y v eN e4 (.inr hout);refine⟨u,r,.inr ⟨sR (hc.inn y hm),?_⟩⟩;obtain⟨c,hcl2⟩:=hhas (y,.free) (LU (hc.inn y hm)) rfl;refine⟨c,hcl2,?_⟩;rcases l with⟨l,_⟩|⟨_,c',e5,z⟩
   .rcases hout with h|h<;>(rw[h]at l;cases l)
   .have:=hcl y c hcl2;rw[e5]at this;cases this;obtain⟨o,ho,hd⟩:=z;exact⟨o,kp _ o ho,hd⟩
 cell:=λy c e=>by obtain⟨v,o,ho,hd⟩:=I.cell y c (hcl y c e);exact⟨v,o,kp _ o ho,hd⟩
 free:=I.hok.fresh hC
 freeC:=λy c e=>I.freeC y c (hcl y c e)
 pin:=λp hp=>absurd (show p∈([]:List (Addr×Obj)) from hp) (by simp)
 hok:=I.hok.kept kp
 len:=by simp[ci,ml,hc.len]
theorem zr (I:L2.Inv X pins σ H s)(L:X'=ci X scope N cl C s H ex)(O:s.heap.objs.size<=C)(hex:∀ b∈ex,FpOk X pins H b/\b<s.heap.objs.size)
 (J:L2.Inv X' pl σ' H' s'):L2.Inv X pins σ H' s'/\FpOk X pins H' C:=by
 subst L;refine⟨I.call' (ch:=ex) J.os J.base J.hok J.bare λb W=>?_,I.fpOk O J.free⟩;obtain⟨_,h2,h3,Y,Z,h6⟩:=(hex b W).1;exact⟨Y,h2,Z,h6⟩
theorem ya (I:L2.Inv X pins σ H s)(hf:FpOk X pins H C)(J:Heap.SameBut C s.heap h'):L2.Inv X pins σ H { s with heap:=h' }:=I.turned (t':=s.toks) (it:=C) (λb o L e=>(J.2 b L).trans e) hf.1 hf.2.1 hf.2.2.2.1 hf.2.2.2.2.1 hf.2.2.2.2.2
end
section
variable {X:Cx}{pins:List (Addr×Obj)}{σ:St}{H3:Hp}{s3:Om}{scope:Scope}{tg:Expr}{tN:List Str}{capN:List Str}{cl:List (Str×Addr)}{C:Addr}{fp:List Addr}{elt iter:Expr}{pos:Pos}{ifs:List Expr}
def HW (X:Cx)(ifs:List Expr)(tt:TT):Prop:=∀(pins:List (Addr×Obj))(s:Om)(σ:St)(H:Hp)(Q:Bool->Hp->Prop),L2.Inv X pins σ H s->tt σ H Q->
 wpAny (model X.prog X.w) X.A (forIn ifs true λc r=>if r=true then do let ok <- isTrue c X.env (eval c X.env);pure (ForInStep.yield ok) else pure (ForInStep.yield r)) (TP X pins σ Q) X.xe s
theorem yb:HW X [] (λ_ H Q=>Q true H):=λ_ _ σ H Q I q=>wpAny_tests_nil ⟨H,I,q⟩
theorem DA (h:PT X c tt):HW X [c] tt:=λpins s σ H Q I q=>wpAny_tests_one (h pins s σ H Q I q)
theorem zt (hX:X'=ci X scope (tN++capN) cl C s3 H3 fp)(T:Turn X.prog X.w X.K tg J fp it tn)(hcalm:X.calm=true)
 (I4:L2.Inv X' [] (List.replicate tN.length none++O) H3 s4) (bw:X'.N.length=tN.length+O.length) (st4:tn 0 s4.heap) (hf:∀ b∈fp,FpOk X' [] H3 b)
 (hg:PG X' tg gt) (ht:HW X' ifs tt) (he:PE X' elt te)
   (W:Nat->Nat->List V->Hp->Prop) (Fin:List V->Hp->Prop) (w0:∃ m,W 0 m [] H3)
   (turn:∀ i m L H,W i m L H->H Dl=some (.lst L)/\((J.stop i H/\Fin L H)\/(J.go i H/\∀ xv H' o,J.yld i H xv H'->o.length=tN.length->gt xv (o++O) H' λσ2 H1=>(∀ j:Nat,tN.length<=j->σ2[j]?=(o++O)[j]?)/\tt σ2 H1 λb H2=>if b=true then
     te σ2 H2 λy Y=>Y Dl=some (.lst L)/\L.length<sizeLine/\∃ m',m'<m/\W (i+1) m' (L++[y]) (aI Y Dl (.lst (L++[y]))) else ∃ m',m'<m/\W (i+1) m' L H2)))
   (R:Result->Om->Prop) (hR:∀ σ' H' L s',L2.Inv X' [] σ' H' s'->H' Dl=some (.lst L)->Fin L H'->R (.ok .next) s') :
   codeAny (model X.prog X.w) X.A (.compLoop (.ListComp elt [⟨tg,iter,ifs,0⟩] scope pos) 0 (.ref it) (.ref Dl) (compEnvC scope cl C X.env)) R s4:=by
  obtain⟨m0,w0⟩:=w0;have eA:X'.A=X.A:=by rw[hX];rfl
  have eP:X'.prog=X.prog:=by rw[hX];rfl
  have eW:X'.w=X.w:=by rw[hX];rfl
  have eK:X'.K=X.K:=by rw[hX];rfl
  have eE:X'.env=compEnvC scope cl C X.env:=by rw[hX];rfl
  have eX:X'.xe=λ_ _=>False:=by rw[hX];rfl
  have eC:X'.calm=true:=by rw[hX];exact hcalm
  have stat:∀{H':Hp},(∀ b∈fp,H' b=none)->∀ b∈fp,FpOk X' [] H' b:=λhn b Z=>⟨hn b Z,(hf b Z).2⟩;refine codeAny_loop rfl (λn s=>∃ i o L H,L2.Inv X' [] (o++O) H s/\o.length=tN.length/\tn i s.heap/\(∀ b∈fp,H b=none)/\W i n L H) ?_ m0 ⟨0,List.replicate tN.length none,[],H3,I4,by simp,st4,λb Z=>(hf b Z).1,w0⟩;rintro n s5 ⟨i,o,L,Y,I5,lo,st5,fr5,w5⟩;show wpAny _ X.A ((compTurn (.ListComp elt [⟨tg,iter,ifs,0⟩] scope pos) 0 (.ref it) (.ref Dl) (compEnvC scope cl C X.env)).onRaise (λx=>do noteFrame x (compEnvC scope cl C X.env);theTreesLotGoes x)) _ _ s5;refine wpAny_noted ?_;rw[compTurn_list];obtain⟨hD,alt⟩:=turn i n L Y w5;rcases alt with⟨stop,fin⟩|⟨go,step⟩
  .refine J4 (wpAny_standAt (J4 (LO (eA▸T.done X' eP eW eK eC i [] s5 _ Y _ I5 (stat fr5) st5 stop) (λr s6 ⟨hr,I6⟩=>?_) λ_ _ z=>z)));subst hr;exact J7 (hR _ Y L s6 I6 hD fin)
  .refine J4 (wpAny_standAt (J4 (LO (eA▸T.item X' eP eW eK eC i [] s5 _ Y _ I5 (stat fr5) st5 go) (λr s6 ⟨u,hr,h6⟩=>?_) λ_ _ z=>z)));subst hr;refine J4 (LO h6 (λ_ s7 ⟨xv,H7,I7,r7,y7,st7,fr7⟩=>?_) λ_ _ z=>z);have I7':=I7.pinned (stat fr7) (T.obj _ _ st7);have hg':=hg _ s7 _ H7 xv u _ I7' r7 (step xv H7 o y7 lo);rw[eP,eW,eA,eE,eX]at hg';refine J4 (LO hg' (λ_ s8 ⟨σ8,H8,I8,shp,q8⟩=>?_) λ_ _ z=>z.elim);obtain⟨o2,lo2,eσ⟩ : ∃ o2:St,o2.length=tN.length/\σ8=o2++O:=by
    have l8:σ8.length=tN.length+O.length:=I8.len.trans bw;refine⟨σ8.take tN.length,by rw[LP];lia,?_⟩;have ed:σ8.drop tN.length=O:=by
     apply NC
     intro j;rw[List.getElem?_drop,shp (tN.length+j) (by lia),KJ (by lia),lo,Mf]
    rw[<- ed,Mr]
   subst eσ;have ht':=ht _ s8 _ H8 _ I8 q8;rw[eP,eW,eA,eE,eX]at ht';refine J4 (LO ht' (λok s9 ⟨H9,I9,q9⟩=>?_) λ_ _ z=>z.elim);have again:∀{s':Om}{H':Hp},L2.Inv X' ([]++oK fp s7.heap) (o2++O) H' s'->L2.Inv X' [] (o2++O) H' s'/\tn (i+1) s'.heap/\∀ b∈fp,H' b=none:=λ{s' H'} J'=>by refine⟨J'.unpinned,T.keep _ _ _ st7 λb Z ob e=>(J'.pin (b,ob) (KD _ (KD _ (h8 Z e)))).1,λb Z=>?_⟩;obtain⟨ob,e,d⟩:=T.obj _ _ st7 b Z;exact(J'.pin (b,ob) (KD _ (KD _ (h8 Z e)))).2.1
   cases ok with
   |false=>obtain⟨m',hm,w9⟩:=(show ∃ m',m'<n/\W (i+1) m' L H9 from by simpa using q9);obtain⟨a1,a2,a3⟩:=again I9;exact J7 ⟨rfl,m',hm,i+1,o2,L,H9,a1,lo2,a2,a3,w9⟩
   |true=>
    have q9:te (o2++O) H9 λy Y=>Y Dl=some (.lst L)/\L.length<sizeLine/\∃ m',m'<n/\W (i+1) m' (L++[y]) (aI Y Dl (.lst (L++[y]))):=by simpa using q9
    have he':=he _ s9 _ H9 _ I9 q9;rw[eP,eW,eA,eE,eX]at he';refine J4 (J4 (LO he' (λv s10 ⟨y,H10,I10,ry,eD,hl,m',hm,w10⟩=>?_) λ_ _ z=>z.elim));have hm':=fq (X:=X') _ s10 _ H10 (.ref Dl) [y] (.ref Dl) [v] (λw H'=>w=.non/\H'=aI H10 Dl (.lst (L++[y]))) I10 rfl (.cons ry .nil) ⟨Dl,L,y,rfl,rfl,eD,hl,rfl,rfl⟩;rw[eP,eW,eA,eX]at hm';refine J4 (LO hm' (λ_ s11 ⟨w,H11,I11,_,_,eH⟩=>?_) λ_ _ z=>z.elim);subst eH;obtain⟨a1,a2,a3⟩:=again I11;exact J7 (J7 ⟨rfl,m',hm,i+1,o2,L++[y],_,a1,lo2,a2,a3,w10⟩)
end
structure CScope (X:Cx) (scope:Scope) (tN:List Str) (capN:List Str) (caps:List Nat):Prop where
 kind:scope.kind=.function
 ncell:∀ y∈scope.names,y.2≠.cell
 names:∀ y∈scope.names,y.2=.local->scope.names.lookup y.1=some .local
 own:∀ x∈tN,scope.names.lookup x=some .local
 free:∀ y∈scope.names,y.2=.free->X.env.kindOf y.1=some .cell\/X.env.kindOf y.1=some .free
 cap:Caps X scope capN caps
 nd:(tN++capN).Nodup
section
variable {X:Cx}{pins:List (Addr×Obj)}{σ:St}{H:Hp}{s:Om}{scope:Scope}{tg:Expr}{tN:List Str}{capN:List Str}{caps:List Nat}{elt iter:Expr}{pos:Pos}{ifs:List Expr}{wi:TI}
def iX (X:Cx)(scope:Scope)(tg:Expr)(tN:List Str)(capN:List Str)(caps:List Nat)(elt:Expr)(ifs:List Expr)(σ:St)(Fin:Addr->List V->Hp->Prop)(J:It)(H2:Hp):Prop:=
 ∀(O:Addr),H2 O=none->∀(cl:List (Str×Addr))(C:Addr)(s3:Om)(fp:List Addr),∃(gt:TG)(tt:TT)(te:TE)(W:Nat->Nat->List V->Hp->Prop),
  PG (ci X scope (tN++capN) cl C s3 (aI H2 O (.lst [])) fp) tg gt/\HW (ci X scope (tN++capN) cl C s3 (aI H2 O (.lst [])) fp) ifs tt/\PE (ci X scope (tN++capN) cl C s3 (aI H2 O (.lst [])) fp) elt te/\(∃ m,W 0 m [] (aI H2 O (.lst [])))/\
  ∀ i m L H,W i m L H->H O=some (.lst L)/\((J.stop i H/\Fin O L H)\/(J.go i H/\∀ Z H' (o:St),J.yld i H Z H'->o.length=tN.length->gt Z (o++ml σ caps) H' λY H1=>(∀ j:Nat,tN.length<=j->Y[j]?=(o++ml σ caps)[j]?)/\tt Y H1 λb H2=>if b=true then
   te Y H2 λy H5=>H5 O=some (.lst L)/\L.length<sizeLine/\∃ m',m'<m/\W (i+1) m' (L++[y]) (aI H5 O (.lst (L++[y]))) else ∃ m',m'<m/\W (i+1) m' L H2))
theorem rH {use:Option (Oq->Sem Unit)}{Qv:Oq->Om->Prop}{Fin:Addr->List V->Hp->Prop}(hc:X.calm=true)(S:CScope X scope tN capN caps)(I:L2.Inv X pins σ H s)(hi:PI X tg iter wi)
 (h:wi σ H (iX X scope tg tN capN caps elt ifs σ Fin))
 (hu:∀(Dl C:Addr)(Z:List V)(H':Hp)(s':Om),L2.Inv X pins σ H' s'->FpOk X pins H' C->H' Dl=some (.lst Z)->Fin Dl Z H'->(∃ m,s'.heap.Ns C m)->compPost (model X.prog X.w) X.A X.xe use Qv (.ref Dl) C (.ok .next) s')
 (hs:autoParam (∀ x,foldedSetIterable iter X.env x=pure x) Ow._auto_1) :
 wpAny (model X.prog X.w) X.A (comprehension (.ListComp elt [⟨tg,iter,ifs,0⟩] scope pos) scope X.env (firstIterPos [⟨tg,iter,ifs,0⟩] pos) (newList []) false (eval iter X.env) use) Qv X.xe s:=by
 obtain⟨cl,ecl,hcl,hhas⟩:=qM (scope:=scope) (env:=X.env) λy hy hf=>I.ok.has y.1 (S.free y hy hf);refine wpAny_comprehension_free rfl hs ecl S.kind S.names (bM (hi pins s σ H _ I h) λv s1 h1=>bM h1 λitv s2 h2=>?_);obtain⟨it,fp,tn,J,H2,rfl,I2,T,st2,f2,goal⟩:=h2;refine K6 (wpAny_newFunctionEnv S.ncell (by intro y hy;simp at hy) (λL O Y=>?_) S.kind);dsimp only at O Y ⊢;have hD:H2 s2.heap.objs.size=none:=I2.hok.fresh (J6 _);have I3:L2.Inv X pins σ (aI H2 s2.heap.objs.size (.lst [])) { s2 with heap:=s2.heap.push { cls:=.type "list",dict:=none,data:=.seq ([]:List Oq).toArray } }:=I2.laid (t':=s2.toks) (λb u e=>J5 _ e) (J6 _) ⟨KF _,[],0,.nil,Kh _ rfl⟩;generalize hs3:({ s2 with heap:=s2.heap.push { cls:=.type "list",dict:=none,data:=.seq ([]:List Oq).toArray } }:Om)=s3 at I3;have e3:s2.heap.push { cls:=.type "list",dict:=none,data:=.seq ([]:List Oq).toArray }=s3.heap:=by rw[<- hs3]
 rw[e3]at O Y ⊢;have kp:∀ b o,s3.heap.get? b=some o->L.get? b=some o:=λb o e=>Y.extBut b o (Kt (Kk e)) (J5 _ e);have k23:∀ b o,s2.heap.get? b=some o->s3.heap.get? b=some o:=λb o e=>by rw[<- e3];exact J5 _ e
 have hex:∀ b∈fp,FpOk X pins (aI H2 s2.heap.objs.size (.lst [])) b/\b<s3.heap.objs.size:=λb hb=>by obtain⟨o,ho,_⟩:=T.obj 0 _ st2 b hb;have hlt:b<s2.heap.objs.size:=Kk ho;refine⟨⟨?_,(f2 b hb).2⟩,Kk (k23 b o ho)⟩;rw[ac (Kt hlt)];exact(f2 b hb).1
 have es:({ s2 with heap:=L,toks:=s2.toks+([]:List (Str×Oq)).length }:Om)={ s3 with heap:=L,toks:=s2.toks+([]:List (Str×Oq)).length }:=by rw[<- hs3]
 have I4:L2.Inv (ci X scope (tN++capN) cl s3.heap.objs.size s3 (aI H2 s2.heap.objs.size (.lst [])) fp) [] (List.replicate tN.length none++ml σ caps) (aI H2 s2.heap.objs.size (.lst [])) { s3 with heap:=L,toks:=s2.toks+([]:List (Str×Oq)).length }:=Bv I3 S.kind S.ncell hcl hhas (J6 _) hex S.cap kp O;obtain⟨gt,tt,te,W,hg,ht,he,w0,turn⟩:=goal s2.heap.objs.size hD cl s3.heap.objs.size s3 fp;have st4:tn 0 L:=T.keep 0 _ _ st2 λb hb o e=>kp b o (k23 b o e);have f4:∀ b∈fp,FpOk (ci X scope (tN++capN) cl s3.heap.objs.size s3 (aI H2 s2.heap.objs.size (.lst [])) fp) [] (aI H2 s2.heap.objs.size (.lst [])) b:=λb hb=>by
  obtain⟨f,hlt⟩:=hex b hb;refine⟨f.1,Kt hlt,λhfs=>?_,.inl hb,λy c e=>f.2.2.2.2.1 y c (hcl y c e),λp hp=>absurd (show p∈([]:List (Addr×Obj)) from hp) (by simp)⟩;rcases Kb.mp (I3.stkSub b hfs) with z|z
  .exact f.2.1 z
  .exact f.2.2.1 z
 have loop:codeAny (model X.prog X.w) X.A (.compLoop (.ListComp elt [⟨tg,iter,ifs,0⟩] scope pos) 0 (.ref it) (.ref s2.heap.objs.size) (compEnvC scope cl s3.heap.objs.size X.env)) (compPost (model X.prog X.w) X.A X.xe use Qv (.ref s2.heap.objs.size) s3.heap.objs.size)
  { s3 with heap:=L,toks:=s2.toks+([]:List (Str×Oq)).length }:=by
  refine zt rfl T hc I4 (by show(tN++capN).length=_;simp[ml,S.cap.len]) st4 f4 hg ht he W (Fin s2.heap.objs.size) w0 turn _ λσ' H' Z s' I' hD' fin=>?_;obtain⟨Io,fo⟩:=zr I3 rfl (J6 _) hex I';obtain⟨m',hn',_⟩:=I'.loc;exact hu _ _ Z H' s' Io fo hD' fin ⟨m',hn'⟩
 rw[es];exact codeAny_compStart_list loop (T.self _ 0 _ _ _ st4 loop)
theorem uF (hc:X.calm=true)(S:CScope X scope tN capN caps)(I:L2.Inv X pins σ H s)(hi:PI X tg iter wi)(h:wi σ H (iX X scope tg tN capN caps elt ifs σ λJ _ H'=>Q (.ref J) H'))
 (hs:autoParam (∀ x,foldedSetIterable iter X.env x=pure x) Ow._auto_1):wpAny (model X.prog X.w) X.A (eval (.ListComp elt [⟨tg,iter,ifs,0⟩] scope pos) X.env) (EP X pins σ Q) X.xe s:=by
 rw[eval_ListComp];refine rH (use:=none) hc S I hi h (λJ C L H' s' O W Z fin hn=>?_) hs;obtain⟨m,hn⟩:=hn;exact⟨m,hn,λh' Y=>⟨.ref J,H',ya O W Y,rfl,fin⟩⟩
theorem Bw {D:Ends}{i:Nat}(hc:X.calm=true)(S:CScope X scope tN capN caps)(hN:X.N.Nodup)(L:X.N[i]?=some y)(hy:X.env.scope.names.lookup y=some .local)
 (O:swapsWith (.ListComp elt [⟨tg,iter,ifs,0⟩] scope pos) (some (.Name y py)) spos.line X.env=pure true) (I:L2.Inv X pins σ H s) (hi:PI X tg iter wi)
 (h:wi σ H (iX X scope tg tN capN caps elt ifs σ λJ _ H'=>D.nx (σ.set i (some (.ref J))) H')) (hs:autoParam (∀ x,foldedSetIterable iter X.env x=pure x) Ow._auto_1) :
 wpAny (model X.prog X.w) X.A (exec (.Assign [.Name y py] (.ListComp elt [⟨tg,iter,ifs,0⟩] scope pos) spos) X.env) (SP X pins D) X.xe s:=by
 rw[exec_Assign_Name_used _ _ _ _ O];refine J4 (wpAny_standAt (J4 ?_));show wpAny _ X.A (do let _ <- comprehension (.ListComp elt [⟨tg,iter,ifs,0⟩] scope pos) scope X.env _ (newList []) false (eval iter X.env) (some (assign (.Name y py) X.env))) _ _ s;refine J4 (LO (rH (use:=some (assign (.Name y py) X.env)) (Qv:=λ_ s'=>SP X pins D .next s') hc S I hi h (λJ C acc H' s' Io W hD fin hn=>?_) hs) (λ_ s' hq=>J7 (J7 hq)) λ_ _ e=>e);obtain⟨m,hn⟩:=hn;show wpAny _ X.A (assign (.Name y py) X.env (.ref J)) _ _ _;refine wpAny_assign_Name (qS (v:=.ref J) Io hN L (.inl hy) rfl (λs'' Y ⟨a,sb,ha⟩=>?_) (.inr hy));have Z:C≠a:=by
  rcases ha with z|z
  .rw[z];exact W.2.1
  .exact K9 (W.2.2.2.2.1 y a z)
 refine⟨m,hn.sameBut sb Z,λh' sb'=>?_⟩;exact⟨_,H',ya Y W sb',fin⟩
end
noncomputable def Res.noX {α:Type}:Res α->Res α
 | .exc _=>.stuck
 |r=>r
noncomputable def DB (env:En)(j:Nat):Option Sl:=match env[j]? with
 |some (some (.val d fr))=>some (.val d fr)
 |some (some (.own ds fr))=>some (.val (.lst ds) fr)
 |some (some (.tre d))=>some (.val d true)
 |_=>none
noncomputable def gL (env:En)(n:Nat)(caps:List Nat):En:=List.replicate n none++caps.map (DB env)
noncomputable def fI (mk:D->Option En)(test:En->Res Bool)(elt:En->Res R):List D->Res (List R)
 | []=>.ok []
 |x::xs=>match mk x with
  |none=>.stuck
  |some e=>(test e).bind λb=>if b then (elt e).bind λr=>(fI mk test elt xs).bind λrs=>.ok (r::rs) else fI mk test elt xs
noncomputable def cM (n:Nat)(caps:List Nat)(src:En->Res Src)(asg:D->Bool->En->Option En)(test:En->Res Bool)(elt:En->Res R):En->Res R:=λenv=>(src env).bind λs=>if s.xs.length<=lim then
 (fI (λd=>asg d s.fr (gL env n caps)) test elt s.xs).noX.bind λrs=>.ok (lD (rs.map R.d) (bu rs) (s.al++caps.filter (isOwn env))) else .stuck
def zu (X:Cx)(E:XK)(ifs:List Expr)(f:En->Res Bool):Prop:=∃ t,HW X ifs t/\SndT X.mg E t f
section
variable {X:Cx}{E:XK}
theorem fJ:zu X E [] (λ_=>.ok true):=⟨_,yb,λg M ρ env σ H Q J p=>p M H (Ext.refl _ _) J⟩
theorem Bx (h:xW X E c f):zu X E [c] f:=let ⟨t,a,b⟩:=h;⟨t,DA a,b⟩
end
section
variable {g:Gd}{M M1:Addr->Prop}{ρ:Pr}{env:En}{σ:St}{H H1:Hp}
theorem HX (rep:Rep g M1 ρ env σ H1)(s:Same H1 H)(ho:o.length=n)(hM:∀ a,(M1 a\/∃ i,i∈caps/\ρ i a)->M' a)(hf:∀ a,M' a->H a≠none)(hi:∀ a,M' a->g.H₀ a=none\/g.Ma a)(hfl:∀ a,M' a->g.H₀ a=none->MuZ g H a) :
 Rep g M' (λ_ _=>False) (gL env n caps) (o++ml σ caps) H where
 same:=rep.same.trans s
 froz:=hf
 inn:=hi
 fl:=hfl
 slot:=λi sl e=>by
  by_cases hlt:i<n
  .unfold gL at e;rw[Lz (by simpa using hlt),MJ,Ka hlt]at e;cases e
  .obtain⟨k,rfl⟩ : ∃ k,i=n+k:=⟨i-n,by lia⟩;have e:(caps.map (DB env))[k]?=some (some sl):=by
    unfold gL at e
    rwa [KJ (by simp),NH,Mf]at e
   rw[Ks]at e;cases q:caps[k]? with
   |none=>rw[q]at e;cases e
   |some j=>
    rw[q]at e;have e:DB env j=some sl:=by simpa using e
    have hj:j∈caps:=K3 q;unfold DB at e;cases q2:env[j]? with
    |none=>rw[q2]at e;cases e
    |some o=>
     cases o with
     |none=>rw[q2]at e;cases e
     |some sl0=>
      obtain⟨v,ev,k2⟩:=rep.slot j sl0 q2;have el:(o++ml σ caps)[n+k]?=some (some v):=by rw[KJ (by lia),ho,Mf];unfold ml;rw[Ks,q];simp[ev]
      rw[q2]at e;cases sl0 with
      |val d' fr'=>cases e;exact⟨v,el,Is.mono (λa o q _=>s a o q) (λa _ _ z=>⟨hM a (.inl z.1),z.2⟩) k2⟩
      |own ds' fr'=>cases e;obtain⟨a,vs,rfl,h1,h2,h4⟩:=k2;have ha:=(h2 a).mpr rfl;exact⟨_,el,a,vs,rfl,.inl ⟨s _ _ h1,hM a (.inr ⟨j,hj,ha⟩),λ_=>(rep.priv j a ha).2.1⟩,IsAll.mono (λa o q _=>s a o q) (λa _ _ z=>⟨hM a (.inl z.1),z.2⟩) h4⟩
      |tre d'=>cases e;exact⟨v,el,Is.mono (λa o q _=>s a o q) (λa _ _ z=>⟨hM a (.inr ⟨j,hj,z⟩),λ_=>(rep.priv j a z).2.1⟩) k2⟩
      |mes d'=>cases e
 priv:=λ_ _ z=>z.elim
 apart:=λ_ _ _ z=>z.elim
 ow:=λ_ _ z=>z.elim
 len:=by simp[gL,ml,ho]
 zz:=λa z e=>rep.zz a z (s.free e)
end
noncomputable def uG (X:Cx)(scope:Scope)(tg:Expr)(tN:List Str)(capN:List Str)(caps:List Nat)(elt:Expr)(ifs:List Expr)(wi:TI):TE:=λσ H Q=>wi σ H (iX X scope tg tN capN caps elt ifs σ λJ _ H'=>Q (.ref J) H')
section
variable {X:Cx}{E:XK}{scope:Scope}{tg:Expr}{tN:List Str}{capN:List Str}{caps:List Nat}{ix:List Nat}{asg:D->Bool->En->Option En}{elt iter:Expr}{pos:Pos}{ifs:List Expr}{wi:TI}{src:En->Res Src}{ft:En->Res Bool}{fe:En->Res R}
theorem zv {M1:Addr->Prop}{H1:Hp}{Q:VK}{J:It}{s:Src}{full:List R}(hix:∀ j∈ix,j<tN.length)(hg:∀ cl C s3 H3 fp,CI (ci X scope (tN++capN) cl C s3 H3 fp) ix tg asg)(ht:∀ cl C s3 H3 fp,zu (ci X scope (tN++capN) cl C s3 H3 fp) E0 ifs ft)(he:∀ cl C s3 H3 fp,PD (ci X scope (tN++capN) cl C s3 H3 fp) E0 elt fe)(rep1:Rep g M1 ρ env σ H1)(wk:Walk J (vmsk g M1 s.fr ρ s.al) H1 s.xs)(hlim:s.xs.length<=lim)(qc:fI (λd=>asg d s.fr (gL env tN.length caps)) ft fe s.xs=.ok full)
 (p:PostE X.mg E g M1 ρ env σ H1 Q (.ok (lD (full.map R.d) (bu full) (s.al++caps.filter (isOwn env))))):iX X scope tg tN capN caps elt ifs σ (λO _ H'=>Q (.ref O) H') J H1:=by
 intro O Z cl C s3 fp;obtain⟨gt,pg,sg⟩:=hg cl C s3 (aI H1 O (.lst [])) fp;obtain⟨tt,pt,st⟩:=ht cl C s3 (aI H1 O (.lst [])) fp;obtain⟨te,pe,se⟩:=he cl C s3 (aI H1 O (.lst [])) fp;obtain⟨d0,dm,dow⟩:=rep1.free Z;refine⟨gt,tt,te,λi m W H=>m=s.xs.length-i/\i<=s.xs.length/\∃(M':Addr->Prop)(rs rest:List R),Same H1 H/\H O=some (.lst W)/\(∀ a,(M1 a\/∃ j,j∈s.al++caps/\ρ j a)->M' a)/\
  (∀ a,M' a->(M1 a\/∃ j,j∈s.al++caps/\ρ j a)\/H1 a=none)/\¬ M' O/\(∀ a,M' a->H a≠none)/\(∀ a,M' a->g.H₀ a=none->MuZ g H a)/\rs.length<=i/\IsAll H (msk g M' (bu rs)) (rs.map R.d) W/\fI (λd=>asg d s.fr (gL env tN.length caps)) ft fe (s.xs.drop i)=.ok rest/\full=rs++rest,
  pg,pt,pe,⟨_,rfl,KF _,(λa=>M1 a\/∃ j,j∈s.al++caps/\ρ j a),[],full,aK Z,af,λ_ z=>z,λ_ z=>.inl z,?_,?_,?_,J6 _,rfl,qc,rfl⟩,?_⟩
 .rintro (z|⟨j,_,z⟩)
  .exact dm z
  .exact dow j z
 .rintro a (z|⟨j,_,z⟩) hn
  .exact rep1.froz a z ((aK Z).free hn)
  .obtain⟨_,_,uo,hz,_⟩:=rep1.priv j a z;rw[(aK Z) a _ hz]at hn;cases hn
 .rintro a (z|⟨j,_,z⟩) h0
  .exact(rep1.fl a z h0).same λo e=>aK Z _ _ e
  .exact .inl ((rep1.priv j a z).2.2.same λo e=>aK Z _ _ e)
 .rintro i m W H2 ⟨rfl,hle,M',rs,rest,sm,hD2,hMi,hMo,nD,frz2,fl2,hrs,isA,L,efull⟩;refine⟨hD2,?_⟩;have kp:∀ a o,H1 a=some o->(vmsk g M1 s.fr ρ s.al a\/fixd o)->H2 a=some o:=λa o e _=>sm a o e;have inn2:∀{M'':Addr->Prop}{a:Addr},(M1 a\/∃ j,j∈s.al++caps/\ρ j a)\/H1 a=none->g.H₀ a=none\/g.Ma a:=λ{M'' a} z=>by
   rcases z with(z|⟨j,_,z⟩)|z
   .exact rep1.inn a z
   .exact .inl (rep1.priv j _ z).2.1
   .exact .inl (rep1.same.free z)
  by_cases hlt:i<s.xs.length
  .have ed:s.xs[i]?=some s.xs[i]:=by simp[hlt]
   obtain⟨go,yl⟩:=wk.go H2 i _ kp ed;refine .inr ⟨go,λxv H3 o y lo=>?_⟩;obtain⟨Y,isx⟩:=yl xv H3 y;have edrop:s.xs.drop i=s.xs[i]::s.xs.drop (i+1):=List.drop_eq_getElem_cons hlt;rw[edrop]at L;unfold fI at L;have isx':Is H3 (msk g M' s.fr) s.xs[i] xv:=isx.weak λa z=>by
    rcases z with z|⟨j,hj,z⟩
    .exact⟨hMi a (.inl z.1),z.2⟩
    .exact⟨hMi a (.inr ⟨j,by simp[hj],z⟩),λ_=>(rep1.priv j _ z).2.1⟩
   have repI:Rep g M' (λ_ _=>False) (gL env tN.length caps) (o++ml σ caps) H3:=HX rep1 (sm.trans Y) lo (λa z=>hMi a (z.imp id λ⟨j,hj,w⟩=>⟨j,by simp[hj],w⟩)) (λa z hn=>frz2 a z (Y.free hn)) (λa z=>inn2 (M'':=M') (hMo a z)) (λa z h0=>(fl2 a z h0).same λo e=>Y _ _ e);cases qa:asg s.xs[i] s.fr (gL env tN.length caps) with
   |none=>simp only[qa]at L;cases L
   |some envT=>
   simp only[qa]at L;refine sg g M' _ _ envT _ H3 _ s.fr xv _ repI isx' qa λσ2 ρ2 repT shp nρ=>⟨λj hj=>shp j λz=>absurd (hix j z) (by lia),?_⟩;refine st g M' ρ2 _ _ H3 _ repT ?_;cases qt:ft envT with
   |stuck=>rw[qt]at L;cases L
   |exc c=>rw[qt]at L;cases L
   |ok b=>
    rw[qt]at L;intro M4 H4 e4 rep4;cases b with
    |false=>refine ud ⟨s.xs.length-(i+1),by lia,rfl,hlt,M',rs,rest,(sm.trans Y).trans e4.h,e4.h _ _ (Y _ _ hD2),hMi,hMo,nD,λa z hn=>frz2 a z (Y.free (e4.h.free hn)),λa z h0=>(fl2 a z h0).same λo e=>e4.h _ _ (Y _ _ e),by lia,?_,by simpa using L,efull⟩;exact IsAll.same e4.h (IsAll.same Y isA)
    |true=>
     refine ss ?_;simp only[Res.bind_ok,Mb]at L;refine se g M4 ρ2 _ _ H4 _ rep4 ?_;cases qe:fe envT with
     |stuck=>rw[qe]at L;cases L
     |exc c=>rw[qe]at L;cases L
     |ok r=>
      rw[qe]at L;simp only[Res.bind_ok]at L;cases qd:fI (λd=>asg d s.fr (gL env tN.length caps)) ft fe (s.xs.drop (i+1)) with
      |stuck=>rw[qd]at L;cases L
      |exc c=>rw[qd]at L;cases L
      |ok rest'=>
       rw[qd]at L;have L:r::rest'=rest:=by simpa using L
       intro yv M5 H5 e5 rep5 ro;obtain⟨M6,e6,m56,rep6,is6⟩:=ro.is rep5 e5 rep4.same;have D3:H3 O=some (.lst W):=Y _ _ hD2;have D4:H4 O=some (.lst W):=e4.h _ _ D3;have D5:H5 O=some (.lst W):=e5.h _ _ D4;have nD4:¬ M4 O:=λz=>(e4.n O z).elim nD λw=>by rw[D3]at w;cases w
       have nD6:¬ M6 O:=λz=>(e6.n O z).elim nD4 λw=>by rw[D4]at w;cases w
       have M46:∀ a,M4 a->M6 a:=e6.m;have up:∀ a o,H5 a=some o->a≠O->aI H5 O (.lst (W++[yv])) a=some o:=λa o e n=>by rw[ac n];exact e
       have kp5:∀(fr:Bool) a o,H5 a=some o->(msk g M6 fr a\/fixd o)->aI H5 O (.lst (W++[yv])) a=some o:=λfr a o e z=>up a o e λw=>by
        subst w;rcases z with z|z
        .exact nD6 z.1
        .rw[D5]at e;cases e;exact z
       refine⟨D5,?_,s.xs.length-(i+1),by lia,rfl,hlt,M6,rs++[r],rest',?_,af,λa z=>M46 a (e4.m a (hMi a z)),λa z=>?_,nD6,λa z=>?_,λa z h0=>?_,by simp;lia,?_,qd,by rw[efull,<- L];simp⟩
       .have:W.length=rs.length:=by rw[isA.length,J9]
        exact Bi (by lia)
       .intro b o e;exact up b o (e5.h _ _ (e4.h _ _ (Y _ _ (sm _ _ e)))) (ah e Z)
       .rcases e6.n a z with z|z
        .rcases e4.n a z with z|z
         .exact hMo a z
         .exact .inr (sm.free (Y.free z))
        .exact .inr (sm.free (Y.free (e4.h.free z)))
       .by_cases hw:a=O
        .rw[hw,af];simp
        .rw[ac hw];exact rep6.froz a z
       .have hw:a≠O:=λe=>nD6 (e▸z);exact(rep6.fl a z h0).same λo e=>by rw[ac hw];exact e
       .rw[Ll];refine IsAll.append ?_ ⟨yv,[],rfl,?_,rfl⟩
        .have i5:IsAll H5 (msk g M' (bu rs)) (rs.map R.d) W:=((isA.same Y).same e4.h).same e5.h;refine(i5.weak λa z=>(⟨M46 a (e4.m a z.1),λe=>z.2 (by simp[bu]at e ⊢;exact e.1)⟩ : msk g M6 (bu (rs++[r])) a)).mono (kp5 _) λ_ _ _ z=>z
        .refine(is6.weak λa z=>?_:Is H5 (msk g M6 (bu (rs++[r]))) r.d yv).mono (kp5 _) λ_ _ _ z=>z;rcases z with z|⟨j,_,z⟩
         .exact⟨z.1,λe=>z.2 (by simp[bu]at e;exact e.2)⟩
         .exact(nρ _ _ z).elim
  .have ei:i=s.xs.length:=by lia
   subst ei;refine .inl ⟨wk.stop H2 kp,?_⟩;rw[List.drop_length]at L;unfold fI at L;cases L;rw[KW]at efull;subst efull;have RM:Rep g (λa=>M1 a\/(nl H1 H2 a/\M' a)) ρ env σ H2:=rep1.came sm M';have XM:Ext M1 H1 (λa=>M1 a\/(nl H1 H2 a/\M' a)) H2:=⟨λ_=>.inl,sm,λ_ z=>z.imp id (·.1.1)⟩;have nDl:¬ (M1 O\/(nl H1 H2 O/\M' O)):=λz=>z.elim dm λz=>nD z.2;have nwD:∀ b,V.ref O=.ref b->H1 b=none:=λb e=>by cases e;exact Z
   unfold lD at p;by_cases hfl:D.flats (full.map R.d)=true
   .rw[Ka hfl]at p;exact p _ _ H2 XM RM ⟨O,W,rfl,hD2,nDl,Z,dow,IsAll.flat hfl isA⟩
   .rw[J_ hfl]at p;by_cases hal:(s.al++caps.filter (isOwn env)).isEmpty=true
    .rw[Ka hal]at p;refine p _ _ H2 XM RM ⟨O,W,rfl,hD2,nDl,Z,dow,isA.weak λa z=>⟨?_,z.2⟩⟩;rcases hMo a z.1 with(w|⟨j,hj,w⟩)|w
     .exact .inl w
     .exfalso;have he:s.al++caps.filter (isOwn env)=[]:=by simpa using hal
      rcases Kr.mp hj with hj|hj
      .have:j∈s.al++caps.filter (isOwn env):=KC _ hj;rw[he]at this;simp at this
      .have:j∈s.al++caps.filter (isOwn env):=KD _ (Lc.mpr ⟨hj,rep1.ow j a w⟩);rw[he]at this;simp at this
     .exact .inr ⟨⟨w,(fl2 a z.1 (rep1.same.free w)).elim id λq=>(rep1.zz a q.1 w).elim⟩,z.1⟩
    .rw[J_ hal]at p;refine p _ (λa=>(M1 a\/(nl H1 H2 a/\M' a))\/a=O) H2 ⟨λ_ z=>.inl (.inl z),sm,λa z=>z.elim (XM.n a) λe=>.inr (e▸Z)⟩ (RM.more hD2 d0 dow) ⟨O,W,rfl,.inl ⟨hD2,.inl ⟨.inr rfl,λ_=>d0⟩⟩,isA.weak λa z=>?_⟩;rcases hMo a z.1 with(w|⟨j,hj,w⟩)|w
     .exact .inl ⟨.inl (.inl w),z.2⟩
     .refine .inr ⟨j,?_,w⟩;rcases Kr.mp hj with hj|hj
      .exact KC _ hj
      .exact KD _ (Lc.mpr ⟨hj,rep1.ow j a w⟩)
     .exact .inl ⟨.inl (.inr ⟨⟨w,(fl2 a z.1 (rep1.same.free w)).elim id λq=>(rep1.zz a q.1 w).elim⟩,z.1⟩),z.2⟩
theorem uH (si:HR X.mg E wi src)(W:∀ j∈ix,j<tN.length)(hg:∀ cl C s3 H3 fp,CI (ci X scope (tN++capN) cl C s3 H3 fp) ix tg asg)(ht:∀ cl C s3 H3 fp,zu (ci X scope (tN++capN) cl C s3 H3 fp) E0 ifs ft)(he:∀ cl C s3 H3 fp,PD (ci X scope (tN++capN) cl C s3 H3 fp) E0 elt fe) :
 Snd X.mg E (uG X scope tg tN capN caps elt ifs wi) (cM tN.length caps src asg ft fe):=by
 intro g M ρ env σ H Q Y p;refine si g M ρ env σ H _ Y ?_;unfold cM at p;cases q:src env with
 |stuck=>rw[q]at p;exact p
 |exc c=>rw[q]at p;exact p
 |ok s=>
  rw[q]at p;simp only[Res.bind_ok]at p;intro J M1 H1 e1 rep1 wk Dl Z cl C s3 fp;by_cases L:s.xs.length<=lim
  .rw[Ka L]at p;cases O:fI (λd=>asg d s.fr (gL env tN.length caps)) ft fe s.xs with
   |stuck=>rw[O]at p;exact p.elim
   |exc c=>rw[O]at p;exact p.elim
   |ok full=>rw[O]at p;have p:PostE X.mg E g M1 ρ env σ H1 Q (.ok (lD (full.map R.d) (bu full) (s.al++caps.filter (isOwn env)))):=PostE.ext e1 p;exact zv W hg ht he rep1 wk L O p Dl Z cl C s3 fp
  .rw[J_ L]at p;exact p.elim
theorem lE (hc:X.calm=true)(S:CScope X scope tN capN caps)(hi:HS X E tg iter src)(J:∀ j∈ix,j<tN.length)(L:∀ cl C s3 H3 fp,CI (ci X scope (tN++capN) cl C s3 H3 fp) ix tg asg)(O:∀ cl C s3 H3 fp,zu (ci X scope (tN++capN) cl C s3 H3 fp) E0 ifs ft)(W:∀ cl C s3 H3 fp,PD (ci X scope (tN++capN) cl C s3 H3 fp) E0 elt fe)
 (hs:autoParam (∀ x,foldedSetIterable iter X.env x=pure x) Ow._auto_1):PD X E (.ListComp elt [⟨tg,iter,ifs,0⟩] scope pos) (cM tN.length caps src asg ft fe):=by
 obtain⟨wi,p1,s1⟩:=hi;exact⟨uG X scope tg tN capN caps elt ifs wi,λpins s σ H Q I h=>uF hc S I p1 h hs,uH s1 J L O W⟩
theorem pF (hc:X.calm=true)(S:CScope X scope tN capN caps)(W:X.N.Nodup)(J:X.N[i]?=some y)(Y:X.env.scope.names.lookup y=some .local)
 (hi:HS X E tg iter src) (L:∀ j∈ix,j<tN.length) (Z:∀ cl C s3 H3 fp,CI (ci X scope (tN++capN) cl C s3 H3 fp) ix tg asg) (ht:∀ cl C s3 H3 fp,zu (ci X scope (tN++capN) cl C s3 H3 fp) E0 ifs ft) (he:∀ cl C s3 H3 fp,PD (ci X scope (tN++capN) cl C s3 H3 fp) E0 elt fe)
 (O:autoParam (swapsWith (.ListComp elt [⟨tg,iter,ifs,0⟩] scope pos) (some (.Name y py)) spos.line X.env=pure true) Oy._auto_1) (hs:autoParam (∀ x,foldedSetIterable iter X.env x=pure x) Ow._auto_1) :
 Aj X E (.Assign [.Name y py] (.ListComp elt [⟨tg,iter,ifs,0⟩] scope pos) spos) (fH i (cM tN.length caps src asg ft fe)):=by
 obtain⟨wi,p1,s1⟩:=hi;exact⟨qC (uG X scope tg tN capN caps elt ifs wi) (bx i),λpins s σ H D I h=>Bw hc S W J Y O I p1 h hs,x_ (uH s1 L Z ht he)⟩
end
noncomputable def cW (N:List Str)(ds:List D):En:=ds.map (λd=>some (.val d false))++List.replicate (N.length-ds.length) none
noncomputable def yc:Res Fl->Res R
 | .ok (.nx _)=>.ok (.val .non true [])
 | .ok (.rt r)=>.ok r
 | .ok _=>.stuck
 | .exc c=>.exc c
 | .stuck=>.stuck
noncomputable def fK (N:List Str)(J:En->Res Fl)(ds:List D):Res R:=yc (J (cW N ds))
theorem zw (is:IsAll H Ma ds vs):Rep (HH H Ma) (λa=>Ma a/\H a≠none) (λ_ _=>False) (cW N ds) (L2.cf N vs) H where
 same:=Same.refl H
 froz:=λa z=>z.2
 inn:=λa z=>.inr z.1
 fl:=λa z h=>absurd h z.2
 slot:=λi sl e=>by
  have hl:=is.length;unfold cW at e;by_cases hi:i<ds.length
  .rw[Lz (by simpa using hi),Ks]at e;obtain⟨v,ev,iv⟩:=is.get (i:=i) (d:=ds[i]) (by simp[hi]);have e1:ds[i]?=some ds[i]:=by simp[hi]
   rw[e1]at e;cases e;refine⟨v,?_,Is.mono (λ_ _ q _=>q) (λa o q z=>⟨⟨z,by rw[q];simp⟩,λz=>by cases z⟩) iv⟩;unfold L2.cf;rw[Lz (by simp;lia),Ks,ev];rfl
  .rw[KJ (by simpa using hi),MJ]at e;split at e<;>cases e
 priv:=λ_ _ z=>z.elim
 apart:=λ_ _ _ z=>z.elim
 ow:=λ_ _ z=>z.elim
 len:=by have hl:=is.length;unfold cW L2.cf;simp[hl]
 zz:=λ_ z=>z.elim
section
variable {P:Oo}{w:World}{K:On}{mg:Str->Option Oq}{base:Heap}
end
section
variable {X:Cx}{E:XK}
theorem DC:SlR X (λx lo hi H Q=>∃ a xs,x=.ref a/\SqT X.K H a xs/\(HT.sIx xs.length 0 lo=0/\HT.sIx xs.length xs.length hi=xs.length)/\Q x H):=by
 intro pins s σ H x v vl vu lo hi sl Q I rx hs pl pu h;obtain⟨a,xs,rfl,hx,Z,q⟩:=h;cases rx;obtain⟨its,r,J,hz⟩:=I.tuple hx;have bw:its.toArray.size=xs.length:=by rw[Kf];exact r.length.symm
 refine⟨"tuple",_,K5.lookup,J.typeIs,?_⟩;obtain⟨os,O,W,hds⟩:=id hs;have Y:s.TypeIs (.ref sl) "slice":=⟨os,O,W⟩;unfold getItem
 try with_reducible refine LC ?_
 first|refine J4 (J7 ?_)|skip
 refine J4 (wpAny_sequenceKey J.typeIs (by decide) ?_);refine J4 (LH (name:=Str.ofString "__getitem__") J.typeIs K5
  (KS K5 J.typeIs entry_tuple_getitem ?_ (args_tuple_getitem _ _)))
 show wpAny _ _ (Builtin.Tuple.tupleItemsOf (.ref a) >>= _) _ _ s;refine J4 (tupleItemsOf_ J ?_);refine J4 (NI Y ?_);rw[Ka (by decide)];refine J4 (HT.sliceApplied_gen hs pl pu ?_);have L:((((HT.sIx its.toArray.size 0 lo:Nat):Int)==0&&(1:Int)==1&&(HT.sIx its.toArray.size its.toArray.size hi-HT.sIx its.toArray.size 0 lo)==its.toArray.size)=true):=by rw[bw,Z.1,Z.2];simp
 show wpAny _ _ (if (((HT.sIx its.toArray.size 0 lo:Nat):Int)==0&&(1:Int)==1&&(HT.sIx its.toArray.size its.toArray.size hi-HT.sIx its.toArray.size 0 lo)==its.toArray.size)=true then _ else _) _ _ s;rw[Ka L];have fin:EP X pins σ Q (.ref a) s:=⟨.ref a,H,I,rfl,q⟩;refine J4 (m:=Builtin.Tuple.tupleIsExact (.ref a)) ?_;unfold Builtin.Tuple.tupleIsExact;refine J4 (NI J.typeIs ?_);refine J7 ?_;rw[Ka (by decide)];exact J4 (wpAny_rule (J7 ⟨_,rfl,J7 fin⟩))
noncomputable def cJ {α:Type}(xs:List α)(lo hi:Option Int):List α:=(xs.drop (HT.sIx xs.length 0 lo)).take (HT.sIx xs.length xs.length hi-HT.sIx xs.length 0 lo)
theorem IsAll.cut (h:IsAll H m ds vs)(lo hi:Option Int):IsAll H m (cJ ds lo hi) (ua vs lo hi):=by unfold cJ ua;rw[h.length];exact(h.drop _).take _
noncomputable def EI (mg:Str->Option Oq)(E:XK)(g:Gd)(M:Addr->Prop)(ρ:Pr)(env:En)(σ:St)(H:Hp)(Q:Option Int->Hp->Prop):Res (Option Int)->Prop
 | .stuck=>False
 | .exc c=>Do mg E g c
 | .ok o=>∀ M' H',Ext M H M' H'->Rep g M' ρ env σ H'->Q o H'
def Jc (X:Cx)(E:XK)(e:Option Expr)(f:En->Res (Option Int)):Prop:=∃ t,PO X e t/\∀ g M ρ env σ H Q,Rep g M ρ env σ H->EI X.mg E g M ρ env σ H Q (f env)->t σ H Q
noncomputable def yd:En->Res (Option Int):=λ_=>.ok none
noncomputable def mV (f:En->Res R):En->Res (Option Int):=λenv=>(f env).bind λr=>match r.d with
 | .int i=>.ok (some i)
 |_=>.stuck
theorem uI:Jc X E none yd:=⟨_,C2,λg M ρ env σ H Q J p=>p M H (Ext.refl _ _) J⟩
theorem gY (h:PD X E e f):Jc X E (some e) (mV f):=by
 obtain⟨t,p1,s1⟩:=h;refine⟨_,C3 p1,λg M ρ env σ H Q J p=>s1.one J (P:=λM H r=>EI X.mg E g M ρ env σ H Q r) p (λ_ _ z=>z) (λ_ _ _ z=>z) (λM H M' H' r e p=>?_) λr v M1 H1 e1 rep1 is q=>?_⟩
 .cases r with
  |stuck=>exact p
  |exc c=>exact p
  |ok o=>exact λM2 H2 e2=>p M2 H2 (e.trans e2)
 .cases z:r.d with
  |int i=>rw[z]at is;simp only[z]at q;cases is;exact⟨i,rfl,q M1 H1 (Ext.refl _ _) rep1⟩
  |_=>simp only[z]at q;exact q.elim
noncomputable def sS (r:R)(lo hi:Option Int):Res R:=match r.d with
 | .lst xs=>.ok (lD (cJ xs lo hi) r.fr r.al)
 | .tup xs=>.ok (mkV (.tup (cJ xs lo hi)) r.fr r.al)
 |_=>.stuck
noncomputable def mn (J:En->Res R)(fl L:En->Res (Option Int)):En->Res R:=λenv=>(J env).bind λr=>(fl env).bind λlo=>(L env).bind λhi=>sS r lo hi
theorem lF {lo hi:Option Expr}{fa:En->Res R}{fl Y:En->Res (Option Int)}{p2 pos:Pos}(ha:PD X E e fa)(hl:Jc X E lo fl)(hh:Jc X E hi Y):PD X E (.Subscript e (.Slice lo hi none p2) pos) (mn fa fl Y):=by
 obtain⟨ta,p1,s1⟩:=ha;obtain⟨tl,p2,s2⟩:=hl;obtain⟨th,p3,s3⟩:=hh;refine⟨_,AC (sl_list.or (sl_tup.or DC)) p1 p2 p3,λg M ρ env σ H Q rep p=>s1.oneE rep p λr v M1 H1 e1 rep1 is q=>?_⟩;refine s2 g M1 ρ env σ H1 _ rep1 ?_;cases z1:fl env with
 |stuck=>rw[z1]at q;exact q
 |exc c=>rw[z1]at q;exact q
 |ok J=>
  rw[z1]at q;intro M2 H2 e2 rep2;have q2:PostE X.mg E g M2 ρ env σ H2 Q ((Y env).bind λhi=>sS r J hi):=PostE.ext e2 q;refine s3 g M2 ρ env σ H2 _ rep2 ?_;cases z2:Y env with
  |stuck=>rw[z2]at q2;exact q2
  |exc c=>rw[z2]at q2;exact q2
  |ok L=>
   rw[z2]at q2;intro M3 H3 e3 rep3;have W:PostE X.mg E g M3 ρ env σ H3 Q (sS r J L):=PostE.ext e3 q2;have O:=(is.ext e2).ext e3;unfold sS at W;cases z:r.d with
   |lst xs=>rw[z]at W O;obtain⟨a,vs,rfl,h1,h2⟩:=O.rd;exact .inl ⟨a,vs,rfl,.inl h1,λp hp=>W.lst rep3 hp (h2.cut J L)⟩
   |tup xs=>
    rw[z]at W O;have is4:=O;obtain⟨a,vs,rfl,h1,h2⟩:=O;by_cases Z:HT.sIx vs.length 0 J=0/\HT.sIx vs.length vs.length L=vs.length
    .have ec:cJ xs J L=xs:=by unfold cJ;rw[<- h2.length,Z.1,Z.2,h2.length];simp
     dsimp only at W;rw[ec]at W;exact .inr (.inr ⟨a,vs,rfl,SqT.of h1,Z,W.val rep3 is4⟩)
    .exact .inr (.inl ⟨a,vs,rfl,SqT.of h1,Z,λp hp=>W.tup rep3 hp (h2.cut J L)⟩)
   |_=>rw[z]at W;exact W.elim
noncomputable def D.ty:D->String
 | .non=>"NoneType" | .bl _=>"bool" | .int _=>"int" | .str _=>"str" | .tup _=>"tuple" | .lst _=>"list" | .dic _ _=>"dict"
def JQ (K:On) (H:Hp) (x:V) (t:Oq):Prop:=TyOf K H x t\/(t=.type "dict"/\∃ a,x=.ref a/\HB H a)
theorem Is.ty {m:Addr->Prop}{v:V}{K:On}(h:Is H m d v):JQ K H v (.type d.ty):=by
 cases d with
 |non=>cases h;exact .inl .non
 |bl b=>cases h;exact .inl (.bl b)
 |int b=>cases h;exact .inl (.int b)
 |str b=>cases h;exact .inl (.str b)
 |tup ds=>obtain⟨a,vs,rfl,h1,_⟩:=h;exact .inl (.tup h1)
 |lst ds=>
  obtain⟨a,vs,rfl,h1,_⟩:=h;rcases h1 with⟨h1,_⟩|⟨o,h1,_⟩
  .exact .inl (.lst h1)
  .exact .inl (.frz h1)
 |dic ks ds=>obtain⟨a,kvs,rfl,h1,_⟩:=h;exact .inr ⟨rfl,a,rfl,h1.1.imp (λ⟨kvs,e,_⟩=>⟨kvs,e⟩) λ⟨kvs,e,_⟩=>⟨kvs,e⟩⟩
noncomputable def CJ (T:String)(d:D):Bool:=match d with
 | .non=>T=="NoneType"
 | .bl _=>T=="bool" || T=="int"
 | .int _=>T=="int"
 | .str _=>T=="str"
 | .tup _=>T=="tuple"
 | .lst _=>T=="list"
 | .dic _ _=>T=="dict"
def By (T:String):Prop:=∀(K:On)(d:D),PySem.W.kitOne K (.type d.ty) (.type T)=some (CJ T d)
theorem Bz:By "int":=λK d=>by cases d<;>kernel_rfl
theorem zx:By "bool":=λK d=>by cases d<;>kernel_rfl
theorem pG:By "tuple":=λK d=>by cases d<;>kernel_rfl
theorem zy:By "dict":=λK d=>by cases d<;>kernel_rfl
noncomputable def wR (T:String)(J:En->Res R):En->Res R:=λenv=>(J env).bind λr=>.ok (.val (.bl (CJ T r.d)) true [])
theorem BA:CallR X (.builtin "isinstance") (λxs H Q=>∃ x T t b,xs=[x,.ty T]/\JQ X.K H x t/\PySem.W.kitOne X.K t (.type T)=some b/\Q (.bl b) H):=by
 intro pins s σ H xs us Q I r h;obtain⟨x,T,t,b,rfl,ty,e,q⟩:=h;obtain⟨u,c,rfl,J,L⟩:=xA r;obtain rfl:c=Value.type T:=L;rcases ty with ty|⟨rfl,a,rfl,hd⟩
 .exact yV I J ty e λtk=>⟨.bl b,H,I.tok tk,rfl,q⟩
 .obtain rfl:u=Value.ref a:=J;obtain⟨t1,_⟩:=sr I hd;exact Lj N9 I.kIn t1 e (λz=>nomatch z) λtk=>⟨.bl b,H,I.tok tk,rfl,q⟩
theorem pH (hK:By T') (hg:Gl X "isinstance") (hm:X.mg "isinstance"=none) (J:Gl X T) (L:X.mg T=none) (O:bootBuiltins T=some (.type T')) (ha:PD X E e fa)
 (W:autoParam (T≠"__name__") Ot._auto_1) (Y:autoParam ((T==("__debug__" : Str))=false) Ot._auto_1)
 (he:autoParam (starEach [e,.Name T q] X.env=(false,eval e X.env)::starEach [.Name T q] X.env) Oy._auto_1) (Z:autoParam (starEach [.Name T q] X.env=(false,eval (.Name T q) X.env)::starEach [] X.env) Oy._auto_1) (hpl:autoParam ((backTo pos (starEach [.Name T q] X.env)).any (·.1)=false) Oy._auto_1) :
 PD X E (.Call (.Name "isinstance" p) [e,.Name T q] [] pos) (wR T' fa):=by
 obtain⟨ta,p1,s1⟩:=ha;refine⟨_,cV BA hg hm (by decide +kernel) (ag p1 (ag (CM J L O (v:=.ty T') rfl W Y) aC Z) he) (by decide) (by decide) he hpl,λg M ρ env σ H Q rep p=>s1.oneE rep p λr v M1 H1 e1 rep1 is q=>?_⟩;exact⟨v,T',_,_,rfl,is.ty,hK X.K r.d,q _ M1 H1 (Ext.refl _ _) rep1 rfl⟩
noncomputable def fL:List D->Option (List Bool)
 | []=>some []
 | .bl b::r=>(fL r).map λbs=>b::bs
 |_::_=>none
noncomputable def zA:List R->Res R
 | [r]=>match r.d with
  | .lst ds=>match fL ds with
   |some bs=>.ok (.val (.bl (bs.all id)) true [])
   |none=>.stuck
  |_=>.stuck
 |_=>.stuck
theorem rJ:∀{ds:List D}{bs:List Bool}{i:Nat}{d:D},fL ds=some bs->ds[i]?=some d->∃ b,d=.bl b/\bs[i]?=some b
 | [],_,_,_,_,e=>by simp at e
 | .bl b::r,bs,0,d,h,e=>by
  simp at e;subst e;unfold fL at h;cases q:fL r with
  |none=>rw[q]at h;cases h
  |some J=>rw[q]at h;cases h;exact⟨b,rfl,rfl⟩
 | .bl b::r,bs,i+1,d,h,e=>by
  unfold fL at h;cases q:fL r with
  |none=>rw[q]at h;cases h
  |some J=>rw[q]at h;cases h;obtain⟨L,e1,e2⟩:=rJ (i:=i) q (by simpa using e);exact⟨L,e1,by simpa using e2⟩
 | .non::_,_,_,_,h,_=>by cases h
 | .int _::_,_,_,_,h,_=>by cases h
 | .str _::_,_,_,_,h,_=>by cases h
 | .tup _::_,_,_,_,h,_=>by cases h
 | .lst _::_,_,_,_,h,_=>by cases h
theorem rK:∀{ds:List D}{bs:List Bool},fL ds=some bs->bs.length=ds.length
 | [],_,h=>by cases h;rfl
 | .bl b::r,bs,h=>by
  unfold fL at h;cases q:fL r with
  |none=>rw[q]at h;cases h
  |some J=>rw[q]at h;cases h;simp[rK q]
 | .non::_,_,h=>by cases h
 | .int _::_,_,h=>by cases h
 | .str _::_,_,h=>by cases h
 | .tup _::_,_,h=>by cases h
 | .lst _::_,_,h=>by cases h
theorem zB (hc:X.calm=true):CallR X (.builtin "all") (λxs H Q=>∃(p:Addr)(vs:List V)(bs:List Bool),xs=[.ref p]/\SqL X.K H p vs/\vs=bs.map V.bl/\Q (.bl (bs.all id)) H):=by
 intro pins s σ H xs us Q I r h;obtain⟨p,vs,bs,rfl,hq,rfl,q⟩:=h;obtain⟨u,rfl,rx⟩:=fV r;cases rx;obtain⟨its,Z,pl,hz⟩:=I.list hq;have hh:X.A.in1.handled=none:=I.ok.hd hc;obtain⟨o,ho,_⟩:=pl.isList;have hlt:p<s.heap.objs.size:=Kk ho;refine call_all_walk (MV pl.isList ?_);refine⟨s.heap.objs.size,_,_,_,_,_,λi=>(bs[i]?).getD true,rfl,Walks.list hh s.heap.objs.size p (Kt hlt) its.toArray,⟨⟨_,Kh _ rfl,rfl,rfl⟩,?_⟩,?_,λh' tk hk=>?_⟩
 .exact pl.isList.at λo e=>J5 _ e
 .intro i v s' Q' E' W J;have W:its[i]?=some v:=by simpa using W
  have hi:i<its.length:=(Ke.mp W).1;have Y:=Z.length;have L:i<bs.length:=by simpa using (by rw[J9]at Y;lia:i<bs.length)
  obtain⟨u',hu,ru⟩:=Z.get (i:=i) (x:=.bl bs[i]) (by simp[L]);rw[W]at hu;cases hu;cases ru;have eb:bs[i]?=some bs[i]:=by simp[L]
  dsimp only at J;rw[eb]at J;exact Lp J
 .have Y:=Z.length;rw[J9]at Y;have e:((List.range its.toArray.size).all λi=>(bs[i]?).getD true)=bs.all id:=by
   rw[Kf,<- Y];rw[Mm,Ld,Ld];constructor
   .intro h b L;obtain⟨i,hi⟩:=Kn.mp L;have:=h i (by simp;exact(Ke.mp hi).1);rw[hi]at this;exact this
   .intro h i hi;have hi:i<bs.length:=by simpa using hi
    have eb:bs[i]?=some bs[i]:=by simp[hi]
    rw[eb];exact h _ (NO hi)
  rw[e];refine⟨.bl _,H,?_,rfl,q⟩;have I1:L2.Inv X pins σ H { s with heap:=s.heap.push { cls:=.type "list_iterator",data:=.fields #[.ref p,.int 0 0] } }:=I.kept (t':=s.toks) λb o e=>J5 _ e;have O:=I.fpOk (H':=H) (J6 s.heap.objs.size) (I.hok.fresh (J6 _));exact I1.turned (t':=tk) (it:=s.heap.objs.size) (λb o L e=>hk b o (by simpa using L) e) O.1 O.2.1 O.2.2.2.1 O.2.2.2.2.1 O.2.2.2.2.2
theorem wU (hc:X.calm=true):iV X E (.builtin "all") zA:=by
 refine⟨_,zB hc,λg M ρ env σ H Q rs vs L i p=>?_⟩
 match rs,i,p with
 | [r],i,p=>
  obtain⟨v,w,rfl,i1,i2⟩:=i;cases i2;have i1:Is H (vmsk g M (bu [r]) ρ (cb [r])) r.d v:=i1;unfold zA at p;dsimp only at p;cases q:r.d with
  |lst ds=>
   rw[q]at p i1;obtain⟨a,ws,rfl,h1,h2⟩:=i1.rd;dsimp only at p;cases J:fL ds with
   |none=>rw[J]at p;exact p.elim
   |some bs=>
    rw[J]at p;refine⟨a,ws,bs,rfl,.inl h1,?_,p _ M H (Ext.refl _ _) L rfl⟩;apply NC
    intro j;by_cases O:j<ds.length
    .obtain⟨b,e1,e2⟩:=rJ (i:=j) (d:=ds[j]) J (by simp[O]);obtain⟨Y,ev,W⟩:=h2.get (i:=j) (d:=ds[j]) (by simp[O]);rw[e1]at W;cases W;rw[ev,Ks,e2];rfl
    .have l1:=h2.length;have l2:=rK J;rw[LZ (by lia),LZ (by simp;lia)]
  |_=>rw[q]at p;exact p.elim
 | [],_,p=>exact p.elim
 |_::_::_,_,p=>exact p.elim
end
noncomputable def EJ (K:On)(a:Addr):It:=⟨λi H=>∃ xs x,SqL K H a xs/\xs[i]?=some x,λi H y H'=>∃ p x,H p=none/\y=.ref p/\H'=aI H p (.tup [.int (i:Nat),x])/\∀ xs,SqL K H a xs->xs[i]?=some x,λi H=>∃ xs,SqL K H a xs/\xs.length<=i⟩
theorem zC {P:Oo}{w:World}{K:On}(a it e:Addr)(hei:e≠it):Turn P w K (.Tuple es k pos) (EJ K a) [e,it] e (λi h=>(∃ old,IsEnum h e it i old)/\h.IsListIter it a i) where
 mem:=by simp
 obj:=λi h st b hb=>by
  obtain⟨⟨old,he⟩,o,ho,c,d⟩:=st;rcases Kb.mp hb with rfl|hb
  .exact⟨_,he,λv z=>by cases z⟩
  .have:b=it:=by simpa using hb
   subst this;exact⟨o,ho,λv z=>by rw[d]at z;cases z⟩
 keep:=λi h h' st kk=>by obtain⟨⟨old,he⟩,hl⟩:=st;exact⟨⟨old,kk e (by simp) _ he⟩,hl.at λo q=>kk it (by simp) o q⟩
 item:=by
  intro X hP hw hK hc i pins s σ H E I hf st hg;subst hP hw hK;obtain⟨xs,x,hq,hx⟩:=hg;obtain⟨⟨old,he⟩,hl⟩:=st;obtain⟨its,rv,p,hz⟩:=I.list hq;obtain⟨u,hu,ru⟩:=rv.get hx;have fe:=hf e (by simp);have fi:=hf it (by simp);have hai:a≠it:=by intro z;obtain⟨o1,e1,c1,_⟩:=p.isList;obtain⟨o2,e2,c2,_⟩:=hl;rw[z,e2]at e1;cases e1;rw[c2]at c1;injection c1 with z;exact absurd z (by decide)
  have hae:a≠e:=by intro z;obtain⟨o1,e1,c1,_⟩:=p.isList;rw[z,he]at e1;cases e1;injection c1 with z;exact absurd z (by decide)
  have hh:X.A.in1.handled=none:=I.ok.hd hc;have hil:i<its.length:=(Ke.mp hu).1;refine wpAny_pyNext_enum_itemD (Draws.list hh it a hai its.toArray) he ⟨hl,p.isList⟩ (by simpa using hil) hei (by simp;exact⟨hei,K9 hae⟩) λx' h' tk hx' ho hs' hT hsz hk=>?_;have ex:x'=u:=by
   have:its[i]?=some x':=by simpa using hx'
   rw[hu]at this;exact(Kx this).symm
  subst ex;refine⟨_,rfl,wpAny_letOwnedTupleGo_enum ho λh'' he'' hs''=>?_⟩;have keep2:∀ b o,b≠e->b≠it->s.heap.get? b=some o->h''.get? b=some o:=λb o n1 n2 q=>(hs''.2 b n1).trans (hk b o n1 n2 q);have hTe:s.heap.objs.size≠e:=Nh (Kk he);have hT'':h''.get? s.heap.objs.size=some { cls:=.type "tuple",data:=.seq #[.int i tk,x'] }:=(hs''.2 _ hTe).trans hT;have I1:L2.Inv X pins σ (aI H s.heap.objs.size (.tup [.int (i:Nat),x])) { s with heap:=h'',toks:=tk+1 }:=by
   refine I.step (g':=s.gens) (d':=s.drawn) (ch:=[e,it]) (λb hb=>?_) (λb o _ _ hn q _=>keep2 b o (λz=>hn (by simp[z])) (λz=>hn (by simp[z])) q)
    (λb o _ _ hn q _=>⟨o.slots,keep2 b o (λz=>hn (by simp[z])) (λz=>hn (by simp[z])) q⟩) (λb o _ q hH=>by rw[ac (Kt (Kk q))];exact hH)
    (λb o hn q=>⟨o,keep2 b o (λz=>hn (by simp[z])) (λz=>hn (by simp[z])) q⟩) (λb ys q=>by rw[ac (ah q (I.hok.fresh (J6 _)))];exact q)
    (λb o' u' q=>by rw[ac (ah q (I.hok.fresh (J6 _)))];exact q) (λb ps q=>⟨#[],by rw[ac (ah q (I.hok.fresh (J6 _)))];simp[q]⟩) (λm hm=>?_) (λb u' q=>?_) I.bare
   .rcases Kb.mp hb with rfl|hb
    .exact⟨fe.2.2.2.1,fe.2.1,fe.2.2.2.2.1,fe.2.2.2.2.2⟩
    .have:b=it:=by simpa using hb
     subst this;exact⟨fi.2.2.2.1,fi.2.1,fi.2.2.2.2.1,fi.2.2.2.2.2⟩
   .obtain⟨o,es',ep,ho',r⟩:=hm;exact⟨o,es',ep,keep2 _ o (K9 fe.2.1) (K9 fi.2.1) ho',r⟩
   .by_cases hb:b=s.heap.objs.size
    .subst hb;rw[af]at q;cases q;refine⟨by show 2<=sizeLine;decide,[.int i tk,x'],.cons ⟨tk,rfl⟩ (.cons ru .nil),⟨_,hT'',rfl,0,rfl⟩⟩
    .rw[ac hb]at q;refine(I.hok b u' q).stay (λc v hc' q'=>keep2 c v ?_ ?_ q') (λc r=>by rw[ac (ah r (I.hok.fresh (J6 _)))];exact r) λc ys r=>by rw[ac (ah r (I.hok.fresh (J6 _)))];exact r
     .rcases hc' with z|z
      .rw[z];exact ah q fe.1
      .exact ah z fe.1
     .rcases hc' with z|z
      .rw[z];exact ah q fi.1
      .exact ah z fi.1
  refine⟨.ref s.heap.objs.size,_,I1,rfl,⟨_,x,I.hok.fresh (J6 _),rfl,rfl,λys hy=>by rw[I.list_inj hy hq];exact hx⟩,⟨⟨_,by simpa using he''⟩,?_⟩,λb hb=>?_⟩
  .obtain⟨o,q,r⟩:=hs'.1;exact⟨o,(hs''.2 it (K9 hei)).trans q,r⟩
  .rcases Kb.mp hb with rfl|hb
   .rw[ac (Kt (Kk he))];exact fe.1
   .have:b=it:=by simpa using hb
    subst this;obtain⟨o,q,_⟩:=hl;rw[ac (Kt (Kk q))];exact fi.1
 done:=by
  intro X hP hw hK hc i pins s σ H E I hf st hg;subst hP hw hK;obtain⟨xs,hq,hx⟩:=hg;obtain⟨⟨old,he⟩,hl⟩:=st;obtain⟨its,rv,p,hz⟩:=I.list hq;have fi:=hf it (by simp);have hai:a≠it:=by intro z;obtain⟨o1,e1,c1,_⟩:=p.isList;obtain⟨o2,e2,c2,_⟩:=hl;rw[z,e2]at e1;cases e1;rw[c2]at c1;injection c1 with z;exact absurd z (by decide)
  have hh:X.A.in1.handled=none:=I.ok.hd hc;have hln:=rv.length;have Dr:Draws X.prog X.w X.A.in1 it [it,a] 0 (λ_ _=>True) (λ_ h=>h.IsListIter it a i/\h.IsList a its.toArray):=
   { live:=λ_ _ st=>let ⟨o,ho,_⟩:=st.1;⟨o,ho⟩
     frame:=λ_ _ _ st hk=>⟨st.1.at λo e=>hk it (by simp) o e,st.2.at λo e=>hk a (by simp) o e⟩
     item:=λi s Q E hi=>absurd hi (by lia)
     done:=λs Q E st hE=>wpAny_nextOf_list_end hh st.1 st.2 (by simp;lia) hE }
  exact wpAny_pyNext_enum_endD Dr he ⟨hl,p.isList⟩ λh' eb=>⟨rfl,I.turned (t':=s.toks) (λb o hb e=>eb b o hb e) fi.1 fi.2.1 fi.2.2.2.1 fi.2.2.2.2.1 fi.2.2.2.2.2⟩
 self:=λA i s Q E st h=>by obtain⟨⟨old,he⟩,_⟩:=st;exact wpAny_pyIter_enum he h
section
variable {X:Cx}{E:XK}{es:List Expr}{k:Nat}{qA:Pos}
noncomputable def ye (K:On)(ta:TA):TI:=λσ H R=>ta σ H λvs H1=>∃ a xs,vs=[.ref a]/\SqL K H1 a xs/\R (EJ K a) H1
theorem yf {l:Expr} (O:Gl X "enumerate") (hm:X.mg "enumerate"=none) (ha:PA X [l] ta) (hs:autoParam (starEach [l] X.env=[(false,eval l X.env)]) Oy._auto_1):PI X (.Tuple es k qA) (.Call (.Name "enumerate" p) [l] [] pos) (ye X.K ta):=by
 intro pins s σ H R I h;refine Call_ (kG I O hm (by decide +kernel:bootBuiltins "enumerate"=some (.type "enumerate")) (LG (bM (ha pos pins s σ H _ I h) λus s1 ⟨vs,H1,J,r1,q1⟩=>?_) hs rfl));obtain⟨a,xs,e,W,q⟩:=q1;subst e;cases r1 with
 |cons r Y=>
  cases Y;cases r;obtain⟨its,rv,pl,hz⟩:=J.list W;refine call_enumerate_list pl.isList λh' L Z hsz kp=>?_;have I2:L2.Inv X pins σ H1 { s1 with heap:=h' }:=J.kept (t':=s1.toks) kp;refine wpAny_pyIter_enum L ?_;refine⟨s1.heap.objs.size+1,[s1.heap.objs.size+1,s1.heap.objs.size],_,_,H1,rfl,I2,zC a s1.heap.objs.size (s1.heap.objs.size+1) (Nat.succ_ne_self _),⟨⟨_,by simpa using L⟩,Z⟩,λb hb=>?_,q⟩;rcases Kb.mp hb with rfl|hb
  .exact J.fpOk (Nat.le_succ _) (J.hok.fresh (Nat.le_succ _))
  .have e:b=s1.heap.objs.size:=by simpa using hb
   subst e;exact J.fpOk (J6 _) (J.hok.fresh (J6 _))
end
noncomputable def JR (osc:Scope)(N:List Str)(scope:Scope)(tN capN:List Str)(caps:List Nat):Bool:=
 (scope.kind==.function)&&scope.names.all (λy=>y.2 != .cell)&&scope.names.all (λy=>y.2 != .local || scope.names.lookup y.1==some .local)&&tN.all (λx=>scope.names.lookup x==some .local) &&
 scope.names.all (λy=>y.2 != .free || (osc.names.lookup y.1==some .cell || osc.names.lookup y.1==some .free))&&(capN.zip caps).all (λp=>N[p.2]?==some p.1)&&(caps.length==capN.length) &&
 capN.all (λy=>osc.names.lookup y==some .cell || osc.names.lookup y==some .free)&&capN.all (λy=>scope.names.lookup y==some .free)&&decide (tN++capN).Nodup
theorem CScope.of (h1:X.env.scope=osc)(h2:X.N=N)(L:JR osc N scope tN capN caps=true):CScope X scope tN capN caps:=by
 unfold JR at L;simp only[Ky,Ld,N0,L1,bne_iff_ne,ME,ne_eq]at L;obtain⟨⟨⟨⟨⟨⟨⟨⟨⟨a1,a2⟩,Y⟩,Z⟩,a5⟩,a6⟩,a7⟩,a8⟩,a9⟩,O⟩:=L;subst h1 h2;refine⟨a1,a2,λy W hl=>(Y y W).resolve_left λz=>z hl,Z,λy W hf=>(a5 y W).resolve_left λz=>z hf,⟨λk y e=>?_,a8,a9,a7⟩,O⟩;have hk:k<capN.length:=(Ke.mp e).1;have J:k<caps.length:=by lia
 refine⟨caps[k],by simp[J],?_⟩;have hm:(y,caps[k])∈capN.zip caps:=by
  have:(capN.zip caps)[k]?=some (y,caps[k]):=by rw[M9];exact⟨e,by simp[J]⟩
  exact K3 this
 exact a6 _ hm
structure Fn (K:On) (mg:Str->Option Oq) (x:Str) (st:Stmt) (ps:List Str) (f:Addr) (fd:FuncData):Prop where
 fu:Fun K x x st f fd
 bi:Binds K fd ps []
 gl:mg x=some (.ref f)
section
variable {X:Cx}{E:XK}
end
noncomputable def Jd (F:List D->Res R):Sp:=λvs H Q _=>vs.length=1/\∃ ds Ma r,IsAll H Ma ds vs/\F ds=.ok r/\∀ v H',Same H H'->RetOk (HH H Ma) H' v r->Q v H'
theorem pI:∀ ns:List Int,IsAll H m (ns.map D.int) (ns.map V.int)
 | []=>rfl
 |n::r=>⟨.int n,r.map V.int,rfl,rfl,pI r⟩
theorem Gn (L:∀ ns:List Int,ns.length<=63->∃ f al,F [.lst (ns.map .int)]=.ok (.val (.bl true) f al))(H:Hp)(a:Addr)(ns:List Int)(O:ns.length<=63)(J:∃ o,H a=some (.frz o (.lst (ns.map V.int)))) :
 Jd F [.ref a] H (λv _=>v=.bl true) λ_ _ _=>False:=by
 obtain⟨f,al,e⟩:=L ns O;obtain⟨o,J⟩:=J;exact⟨rfl,[.lst (ns.map .int)],λb=>b=a,_,⟨_,[],rfl,⟨a,ns.map V.int,rfl,.inr ⟨o,J,rfl⟩,pI ns⟩,rfl⟩,e,λv H' _ h=>h⟩
section
variable {P:Oo}{w:World}{K:On}{mg:Str->Option Oq}{base:Heap}
theorem FnOk.top (h:FnOk P w K mg base CX k f fd ps (qK mg 1 F)):FnOk P w K mg base CX k f fd ps (Jd F):=h.imp λvs H Q E ⟨J,ds,Ma,r,is,e,q⟩=>⟨J,ds,Ma,is,by rw[e];exact q⟩
theorem gZ {x qual:Str}{st:Stmt}{f:Addr}{J:En->Res Fl}(F:Fun K x qual st f fd)(S:FnScope N ps (defScope st))
 (body:∀(cdv:Oq)(A:Os)(outer:List Env)(s:Om)(H:Hp)(E:XK),Room k (A.deeper (envOfC qual (defScope st) s.heap.objs.size f cdv))->sN (ma P w K mg base N qual (defScope st) f cdv A outer s H E) E (defBody st) J) :
 FnOk P w K mg base (qB P w) (k+1) f fd ps (qK mg ps.length (fK N J)):=by
 obtain⟨oc,od,kV,doc,pm,an,cdv,ct,osl,rfl,lk,L⟩:=F.ex;refine AA lk L S (λvs H Q E h=>h.1) λA outer s H vs Q E Y O=>?_;obtain⟨hl,ds,Ma,is,post⟩:=O;obtain⟨t,p1,s1⟩:=body cdv A outer s H E Y;refine⟨t,p1,s1 (HH H Ma) _ _ (cW N ds) (L2.cf N vs) H _ (zw is) ?_⟩;unfold fK at post;cases q:J (cW N ds) with
 |stuck=>rw[q]at post;exact post
 |exc c=>rw[q]at post;exact post
 |ok r=>
  rw[q]at post;cases r with
  |nx env=>exact λσ M' Z H' _ W=>post .non H' W.same rfl
  |rt r=>exact λv M' H' _ s ro _=>post v H' s (ro λ_ z=>z)
  |rm r env=>exact post.elim
  |bk env=>exact post.elim
  |ct env=>exact post.elim
theorem BB:eM (qB P w) X E0:=λ_ _ _ _ _ _ _ h=>by obtain⟨_,_,_,_,_,_,_,_,_,_,_,_,_,_,_,z⟩:=h;exact z.elim
end
theorem Gp (h:qB P w l H s (λ_ _ _=>False) e s'):False:=by obtain⟨_,_,_,_,_,_,_,_,_,_,_,_,_,_,_,z⟩:=h;exact z
section
variable {P:Oo}{w:World}{K:On}{mg:Str->Option Oq}{base:Heap}{N:List Str}{qual:Str}{scope:Scope}{f:Addr}{cd:Oq}{A:Os}{outer:List Env}{s₀:Om}{H₀:Hp}{E:XK}
noncomputable def sU (c:Str)(fs:En->Res (List R)):En->Res Fl:=λenv=>(fs env).bind λrs=>if rs.length<=lim then .exc c else .stuck
theorem zD {np cpos pos:Pos}{e₀:Expr}{rest:List Expr}{fs:En->Res (List R)}(hc:XC K mg c C)(W:Gl (ma P w K mg base N qual scope f cd A outer s₀ H₀ E) c)(ha:Ah (ma P w K mg base N qual scope f cd A outer s₀ H₀ E) E (e₀::rest) fs)
 (Y:autoParam (starEach (e₀::rest) (ma P w K mg base N qual scope f cd A outer s₀ H₀ E).env=(false,eval e₀ (ma P w K mg base N qual scope f cd A outer s₀ H₀ E).env)::starEach rest (ma P w K mg base N qual scope f cd A outer s₀ H₀ E).env) Oy._auto_1)
 (J:autoParam ((backTo cpos (starEach rest (ma P w K mg base N qual scope f cd A outer s₀ H₀ E).env)).any (·.1)=false) Oy._auto_1) (hd:autoParam ((c==("__debug__" : Str))=false) Ot._auto_1) :
 Aj (ma P w K mg base N qual scope f cd A outer s₀ H₀ E) E (.Raise (some (.Call (.Name c np) (e₀::rest) [] cpos)) none pos) (sU c fs):=by
 obtain⟨t,p1,s1⟩:=ha;refine⟨_,AS (EW:=λH=>E (.ref C) none H) hc W rfl p1 (λpins σ H s h' x args I hm Z=>C8 I hm Z) Y J hd,λg M ρ env σ H D L p=>?_⟩;refine s1 g M ρ env σ H _ L ?_;unfold sU at p;cases q:fs env with
 |stuck=>rw[q]at p;exact p
 |exc c'=>rw[q]at p;exact p
 |ok rs=>
  rw[q]at p;simp only[Res.bind_ok]at p;intro vs M1 H1 e1 rep1 is;by_cases O:rs.length<=lim
  .rw[Ka O]at p;refine⟨by rw[is.length,J9];exact ic O,?_⟩;exact p (.ref C) none H1 hc.gl rep1.same
  .rw[J_ O]at p;exact p.elim
end
section
variable {X:Cx}{E:XK}{hc:Str}{Ch:Addr}{cs:List Str}{np hpos pos epos p cpos:Pos}{b₀:Stmt}{suite:List Stmt}{fsu:En->Res Fl}{k:Nat}{f:Addr}{fd:FuncData}{ps:List Str}{F:List D->Res R}{x:Str}{e:Expr}{es:List Expr}{fs:En->Res (List R)}
end
section
variable {h:Heap}{z TI TO i1 i2 a b:Addr}{i:Nat}{its its2:Array Oq}
end
section
variable {X:Cx}{E:XK}{es:List Expr}{k:Nat}{qA:Pos}
end
section
variable {X:Cx}{E:XK}
noncomputable def DD:List R->Res R
 | [r]=>match r.d with
  | .int i=>.ok (.val (.int i) true [])
  | .bl b=>.ok (.val (.int (if b then 1 else 0)) true [])
  |_=>.stuck
 |_=>.stuck
theorem Gq:iV X E (.type "int") DD:=by
 refine⟨_,yS,λg M ρ env σ H Q rs vs J i p=>?_⟩
 match rs,i,p with
 | [r],i,p=>
  obtain⟨v,w,rfl,i1,i2⟩:=i;cases i2;have i1:Is H (vmsk g M (bu [r]) ρ (cb [r])) r.d v:=i1;unfold DD at p;dsimp only at p;cases z:r.d with
  |int a=>rw[z]at i1 p;cases i1;exact .inl ⟨a,rfl,p _ M H (Ext.refl _ _) J rfl⟩
  |bl b=>rw[z]at i1 p;cases i1;exact .inr ⟨b,rfl,p _ M H (Ext.refl _ _) J rfl⟩
  |_=>rw[z]at p;exact p.elim
 | [],_,p=>exact p.elim
 |_::_::_,_,p=>exact p.elim
noncomputable def DE (J:En->Res R):En->Res Bool:=λenv=>(J env).bind λL=>.ok L.d.isNon
theorem yg (ha:PD X E a fa):xW X E (.Compare a [.Is] [.Constant .none j pos'] pos) (DE fa):=Dq ha
open Classical in
noncomputable def cv (H:Hp)(m:Addr->Prop)(x:D)(u:Oq):Bool:=decide (∃ d v,RelV v u/\Is H m d v/\dk d x=true)
theorem rL (r:RelV v u)(h:Is H m d v):cv H m x u=dk d x:=by
 unfold cv;cases q:dk d x with
 |true=>exact @Ki _ (Classical.propDecidable _) ⟨d,v,r,h,q⟩
 |false=>refine @Kv _ (Classical.propDecidable _) λ⟨d',O,L,h',J⟩=>?_;have e:=L2.RelV.inj r L;subst e;have e:=Is.inj h h';subst e;rw[q]at J;cases J
theorem g6:∀{ds:List D}{vs:List V}{us:List Oq},IsAll H m ds vs->Vals vs us->us.any (cv H m x)=ds.any λd=>dk d x
 | [],_,_,h,r=>by cases h;cases r;rfl
 |d::ds,_,_,h,r=>by
  obtain⟨v,w,rfl,h1,h2⟩:=h;cases r with
  |cons r1 r2=>rw[MK,MK,rL r1 h1,g6 h2 r2]
noncomputable def Gr (neg:Bool)(K:On):R2:=λx y H Q=>∃ p ds vs d m m',y=.ref p/\(SqL K H p vs\/SqT K H p vs)/\IsAll H m ds vs/\Is H m' d x/\(D.deps ds<=50/\d.dep<=50)/\Q (.bl (if neg then !(ds.any λe=>dk e d) else ds.any λe=>dk e d)) H
theorem g7 (I:L2.Inv X pins σ H s)(J:A.units+50<cLine)(L:Is H m' d x)(W:d.dep<=50)(O:RelV x v) :
 ∀{ds:List D}{vs:List V}{us:List Oq},IsAll H m ds vs->Vals vs us->D.deps ds<=50->∀ u∈us,SeqAt.EqAt A s u v (cv H m d u)
 | [],_,_,h,r,_=>λu J=>by cases h;cases r;cases J
 |e::ds,_,_,h,r,hd=>λu hm=>by
  obtain⟨y,w,rfl,h1,h2⟩:=h;have Y:max e.dep (D.deps ds)<=50:=hd;cases r with
  |cons r1 r2=>
   rcases Kb.mp hm with rfl|hm
   .rw[rL r1 h1];exact Bg I.hok 50 A J (by lia) (by lia) (by lia) h1 L r1 O
   .exact g7 I J L W O h2 r2 (by lia) u hm
theorem Gs (Y:X.A.units+64<cLine):OpR X (compareOp .In) (Gr false X.K):=by
 intro pins s σ H x y v u Q I L W h;obtain⟨p,ds,vs,d,m,m',rfl,hq,hi,O,hd,q⟩:=h;cases W;rcases hq with hq|hq
 .obtain⟨its,r,pl,hz⟩:=I.list hq;refine SeqAt.in_listAt (cv H m d) pl.isList (λw J=>g7 I (by show X.A.units+1+50<cLine;lia) O hd.2 L hi r hd.1 w (by simpa using J)) ⟨.bl _,H,I,rfl,?_⟩;rw[show its.toArray.any (cv H m d)=its.any (cv H m d) by simp,g6 hi r];exact q
 .obtain⟨its,r,pl,hz⟩:=I.tuple hq;refine SeqAt.in_tupleAt (cv H m d) pl (λw J=>g7 I (by show X.A.units+1+50<cLine;lia) O hd.2 L hi r hd.1 w (by simpa using J)) ⟨.bl _,H,I,rfl,?_⟩;rw[show its.toArray.any (cv H m d)=its.any (cv H m d) by simp,g6 hi r];exact q
theorem zE (Y:X.A.units+64<cLine):OpR X (compareOp .NotIn) (Gr true X.K):=by
 intro pins s σ H x y v u Q I L W h;obtain⟨p,ds,vs,d,m,m',rfl,hq,hi,O,hd,q⟩:=h;cases W;rcases hq with hq|hq
 .obtain⟨its,r,pl,hz⟩:=I.list hq;refine SeqAt.notIn_listAt (cv H m d) pl.isList (λw J=>g7 I (by show X.A.units+1+50<cLine;lia) O hd.2 L hi r hd.1 w (by simpa using J)) ⟨.bl _,H,I,rfl,?_⟩;rw[show its.toArray.any (cv H m d)=its.any (cv H m d) by simp,g6 hi r];exact q
 .obtain⟨its,r,pl,hz⟩:=I.tuple hq;refine SeqAt.notIn_tupleAt (cv H m d) pl (λw J=>g7 I (by show X.A.units+1+50<cLine;lia) O hd.2 L hi r hd.1 w (by simpa using J)) ⟨.bl _,H,I,rfl,?_⟩;rw[show its.toArray.any (cv H m d)=its.any (cv H m d) by simp,g6 hi r];exact q
noncomputable def Hh (neg:Bool)(x:D)(ds:List D):Res R:=if D.deps ds<=50/\x.dep<=50 then .ok (.val (.bl (if neg then !(ds.any λe=>dk e x) else ds.any λe=>dk e x)) true []) else .stuck
noncomputable def wV (neg:Bool)(a b:R):Res R:=match b.d with
 | .lst ds=>Hh neg a.d ds
 | .tup ds=>Hh neg a.d ds
 |_=>.stuck
noncomputable def JY:R->R->Res R:=wV false
noncomputable def Gu:R->R->Res R:=wV true
theorem BC (h:OpR X f (Gr neg X.K)):mS X E f (wV neg):=by
 refine⟨_,h,λg M ρ env σ H Q J O x y L i1 i2 p=>?_⟩;unfold wV at p;have key:∀ ds,PostE X.mg E g M ρ env σ H Q (Hh neg J.d ds)->(D.deps ds<=50/\J.d.dep<=50)/\Q (.bl (if neg then !(ds.any λe=>dk e J.d) else ds.any λe=>dk e J.d)) H:=λds p=>by
  unfold Hh at p;by_cases hd:D.deps ds<=50/\J.d.dep<=50
  .rw[Ka hd]at p;exact⟨hd,p _ M H (Ext.refl _ _) L rfl⟩
  .rw[J_ hd]at p;exact p.elim
 cases e2:O.d with
 |lst ds=>rw[e2]at p i2;obtain⟨a,vs,rfl,h1,h2⟩:=i2.rd;obtain⟨k1,k2⟩:=key ds p;exact⟨a,ds,vs,J.d,_,_,rfl,.inl (.inl h1),h2,i1,k1,k2⟩
 |tup ds=>rw[e2]at p i2;obtain⟨a,vs,rfl,h1,h2⟩:=i2;obtain⟨k1,k2⟩:=key ds p;exact⟨a,ds,vs,J.d,_,_,rfl,.inr (SqT.of h1),h2,i1,k1,k2⟩
 |_=>rw[e2]at p;exact p.elim
theorem HY (J:X.A.units+64<cLine):mS X E (compareOp .In) JY:=BC (Gs J)
theorem BD (J:X.A.units+64<cLine):mS X E (compareOp .NotIn) Gu:=BC (zE J)
end
end L3
namespace L2
open PySem PySem.Spec PySem.Calls PyProof.Rows
section
variable {K:On}{x C:Addr}{c:Oq}
end
section
variable {X:Cx}{pins:List (Addr×Obj)}{σ:St}{H:Hp}{s:Om}{x:Addr}{o:Obj}
end
section
variable {X:Cx}{hc:Str}{Ch:Addr}{np hpos pos epos:Pos}{b₀:Stmt}{suite:List Stmt}{ts:Addr->Addr->TS}{te:TX}{e:Expr}{i:Nat}{n:Str}
end
section
variable {X:Cx}{i iw:Nat}{n y b1 b2:Str}{s1 s2:Str}{py p1 p2 p3 p4 p5 p6 p7 p8 p9 p10 p11 p12 p13 p14 p15 lp:Pos}{j1 j2}{T1:String}{Ch2:Addr}
end
end L2
namespace L3
open PySem PySem.Spec PyProof.Rows L2
section
variable {X:Cx}{E:XK}{i iw:Nat}{n y b1 b2:Str}{s1 s2:Str}{py p1 p2 p3 p4 p5 p6 p7 p8 p9 p10 p11 p12 p13 p14 p15 lp:Pos}{j1 j2}{T1:String}{Ch2:Addr}
variable {hc:Str}{Ch:Addr}{cs:List Str}{np hpos pos epos p cpos:Pos}{k:Nat}{f:Addr}{fd:FuncData}{ps:List Str}{F:List D->Res R}{x:Str}{e:Expr}{es:List Expr}{fs:En->Res (List R)}
end
noncomputable def Gv:D->Option Key
 | .int i=>some (.inl i)
 | .str x=>some (.inr x)
 |_=>none
noncomputable def mW:List D->Option (List Key)
 | []=>some []
 |d::ds=>match Gv d,mW ds with
  |some k,some ks=>some (k::ks)
  |_,_=>none
noncomputable def keyT:D->Option (List Key)
 | .tup ds=>mW ds
 |_=>none
section
variable {H:Hp}{m:Addr->Prop}
theorem Is.key (h:Is H m d v)(e:Gv d=some k):v=kV k:=by
 cases d with
 |int i=>cases e;exact h
 |str x=>cases e;exact h
 |_=>cases e
theorem IsAll.keys:∀{ds:List D}{vs:List V}{ks:List Key},IsAll H m ds vs->mW ds=some ks->vs=ks.map kV
 | [],_,_,h,e=>by cases h;cases e;rfl
 |d::ds,_,ks,h,e=>by
  obtain⟨v,r,rfl,h1,h2⟩:=h;unfold mW at e;cases q:Gv d with
  |none=>rw[q]at e;cases e
  |some k=>
   cases q2:mW ds with
   |none=>rw[q,q2]at e;cases e
   |some J=>rw[q,q2]at e;cases e;rw[h1.key q,IsAll.keys h2 q2];rfl
theorem Is.keyT (h:Is H m d v)(e:L3.keyT d=some k):∃ b,v=.ref b/\H b=some (.tup (k.map kV)):=by
 cases d with
 |tup ds=>obtain⟨a,vs,rfl,h1,h2⟩:=h;have e:mW ds=some k:=e;rw[IsAll.keys h2 e]at h1;exact⟨a,rfl,h1⟩
 |_=>cases e
end
section
variable {X:Cx}{E:XK}
noncomputable def keyX:D->Option DK
 | .int i=>some (.inl (.inl i))
 | .str x=>some (.inl (.inr x))
 | .tup ds=>(mW ds).map .inr
 |_=>none
noncomputable def kin:DK->DK->Bool
 | .inl _,.inl _=>true
 | .inr _,.inr _=>true
 |_,_=>false
noncomputable def sV (ks:List DK)(k:DK):Bool:=ks.any λx=>decide (x=k)
noncomputable def uJ (neg:Bool)(a:D)(ks:List DK):Res R:=match keyX a with
 |some k=>if ks.all (kin k) then .ok (.val (.bl (if neg then !sV ks k else sV ks k)) true []) else .stuck
 |none=>.stuck
noncomputable def zF (neg:Bool)(a b:R):Res R:=match b.d with
 | .dic ks _=>uJ neg a.d ks
 |_=>wV neg a b
noncomputable def DF:R->R->Res R:=zF false
noncomputable def sW:R->R->Res R:=zF true
noncomputable def Gw (neg:Bool):R2:=λx y H Q=>∃ a o,y=.ref a/\xI H a x o/\Q (.bl (if neg then !o.isSome else o.isSome)) H
theorem Gx (W:X.A.units+64<cLine):OpR X (compareOp .In) (Gw false):=by intro pins s σ H x y v u Q I J L h;obtain⟨a,o,rfl,g,q⟩:=h;cases L;exact HD (by lia) I g J λs' O=>⟨.bl _,H,O,rfl,q⟩
theorem zG (W:X.A.units+64<cLine):OpR X (compareOp .NotIn) (Gw true):=by intro pins s σ H x y v u Q I J L h;obtain⟨a,o,rfl,g,q⟩:=h;cases L;exact AU (by lia) I g J λs' O=>⟨.bl _,H,O,rfl,q⟩
theorem uK {κ:Type}[DecidableEq κ]{kvs:List (κ×V)}(inj:κ->DK)(hi:∀ a b,inj a=inj b->a=b)(k:κ):(cS kvs k).isSome=sV (kvs.map λp=>inj p.1) (inj k):=by
 unfold sV;induction kvs with
 |nil=>rfl
 |cons p r J=>
  rw[Kc,MK];by_cases e:p.1=k
  .rw[fB e,Ki (LQ inj e)];rfl
  .rw[fC e,J,Kv (λz=>e (hi _ _ z)),Bool.false_or]
theorem Is.keyX (h:Is H m d v)(e:L3.keyX d=some k):(∃ k0,k=.inl k0/\v=kV k0)\/∃ k0 b,k=.inr k0/\v=.ref b/\H b=some (.tup (k0.map kV)):=by
 cases d with
 |int i=>cases e;exact .inl ⟨_,rfl,h⟩
 |str x=>cases e;exact .inl ⟨_,rfl,h⟩
 |tup ds=>have e:(mW ds).map Sum.inr=some k:=e;obtain⟨k0,J,rfl⟩:=K1.mp e;obtain⟨b,e1,e2⟩:=Is.keyT (d:=.tup ds) h J;exact .inr ⟨k0,b,rfl,e1,e2⟩
 |_=>cases e
theorem DG (h:DAt H a ks vs)(O:Is H m d x)(e:L3.keyX d=some k)(J:ks.all (kin k)=true):∃ o,xI H a x o/\o.isSome=sV ks k:=by
 rcases O.keyX e with⟨k0,rfl,rfl⟩|⟨k0,b,rfl,rfl,L⟩
 .rcases h with⟨kvs,e1,rfl,rfl⟩|⟨kvs,e1,rfl,rfl⟩
  .exact⟨_,.inl (.inl ⟨kvs,k0,e1,rfl,rfl⟩),uK Sum.inl (λ_ _ z=>Ob z) k0⟩
  .cases kvs with
   |nil=>exact⟨none,.inr (.inl ⟨e1,⟨k0,rfl⟩,rfl⟩),rfl⟩
   |cons p r=>simp[kin]at J
 .rcases h with⟨kvs,e1,rfl,rfl⟩|⟨kvs,e1,rfl,rfl⟩
  .cases kvs with
   |nil=>exact⟨none,.inr (.inr ⟨e1,⟨b,k0,rfl,L⟩,rfl⟩),rfl⟩
   |cons p r=>simp[kin]at J
  .exact⟨_,.inl (.inr ⟨kvs,k0,b,e1,rfl,L,rfl⟩),uK Sum.inr (λ_ _ z=>Oc z) k0⟩
theorem BE (h1:mS X E f (wV neg))(h2:OpR X f (Gw neg)):mS X E f (zF neg):=by
 obtain⟨r,o1,s1⟩:=h1;refine⟨_,o1.or h2,λg M ρ env σ H Q O W x y J i1 i2 p=>?_⟩;unfold zF at p;cases q:W.d with
 |dic ks ds=>
  right;rw[q]at p i2;dsimp only at p;unfold uJ at p;cases q2:keyX O.d with
  |none=>rw[q2]at p;exact p.elim
  |some k=>
   rw[q2]at p;dsimp only at p;by_cases L:ks.all (kin k)=true
   .rw[Ka L]at p;obtain⟨a,vs,rfl,h1,h2⟩:=i2;obtain⟨o,g1,g2⟩:=DG h1.1 i1 q2 L;refine⟨a,o,rfl,g1,?_⟩;rw[g2];exact p _ M H (Ext.refl _ _) J rfl
   .rw[J_ L]at p;exact p.elim
 |_=>left;refine s1 g M ρ env σ H Q O W x y J i1 i2 ?_;rw[q]at p;exact p
theorem BF (J:X.A.units+64<cLine):mS X E (compareOp .In) DF:=BE (HY J) (Gx J)
theorem zH (J:X.A.units+64<cLine):mS X E (compareOp .NotIn) sW:=BE (BD J) (zG J)
noncomputable def Gy:R->R->Res R:=oI (λ_ j=>decide (0<=j)) λi j=>.int (i / 2 ^ j.toNat)
noncomputable def BH:R->R->Res R:=oI (λ_ _=>true) λi j=>.int (Builtin.bitAnd i j)
theorem Gz:mS X E (binaryOp .RShift) Gy:=uC _ _ FK (λi j h=>by simpa using h) λ_ _ _ _=>rfl
theorem DH:mS X E (binaryOp .BitAnd) BH:=pq _ FL λ_ _ _ _=>rfl
noncomputable def sX:List R->Res R
 | [r]=>match r.d with
  | .lst ds=>.ok (mkV (.tup ds) r.fr r.al)
  | .tup ds=>.ok (mkV (.tup ds) r.fr r.al)
  |_=>.stuck
 |_=>.stuck
theorem BI:iV X E (.type "tuple") sX:=by
 refine⟨_,qF,λg M ρ env σ H Q rs vs J i p=>?_⟩
 match rs,i,p with
 | [r],i,p=>
  obtain⟨v,w,rfl,i1,i2⟩:=i;cases i2;have i1:Is H (vmsk g M (bu [r]) ρ (cb [r])) r.d v:=i1;replace i1:=i1.weak λ_ z=>x9 z;unfold sX at p;dsimp only at p;cases q:r.d with
  |lst ds=>rw[q]at p i1;obtain⟨a,ws,rfl,h1,h2⟩:=i1.rd;exact⟨a,ws,rfl,.inl ⟨.inl h1,λl O=>p.tup J O h2⟩⟩
  |tup ds=>rw[q]at p i1;have L:=i1;obtain⟨a,ws,rfl,h1,h2⟩:=i1;exact⟨a,ws,rfl,.inr ⟨SqT.of h1,p.val J L⟩⟩
  |_=>rw[q]at p;exact p.elim
 | [],_,p=>exact p.elim
 |_::_::_,_,p=>exact p.elim
noncomputable def HZ (k2:R->R->Res R)(J:En->Res R)(env:En)(L:R):R->Res R
 | .val (.bl true) _ _=>(J env).bind λO=>k2 L O
 | .val (.bl false) _ _=>.ok (.val (.bl false) true [])
 |_=>.stuck
noncomputable def kN (k1 k2:R->R->Res R)(L O W:En->Res R):En->Res R:=λenv=>(L env).bind λY=>(O env).bind λJ=>(k1 Y J).bind (HZ k2 W env J)
theorem zI
 (h1:∀ g M ρ env σ H Q L J x y,Rep g M ρ env σ H->Is H (vmsk g M L.fr ρ L.al) L.d x->Is H (vmsk g M J.fr ρ J.al) J.d y->PostE mg E g M ρ env σ H Q (k1 L J)->r x y H Q)
 (h2:∀ g M ρ env σ H Q L J x y,Rep g M ρ env σ H->Is H (vmsk g M L.fr ρ L.al) L.d x->Is H (vmsk g M J.fr ρ J.al) J.d y->PostE mg E g M ρ env σ H Q (k2 L J)->r' x y H Q)
 (sa:Snd mg E ta fa) (Y:Snd mg E tb fb) (sc:Snd mg E tc fc):Snd mg E (Au r r' ta tb tc) (kN k1 k2 fa fb fc):=by
 intro g M ρ env σ H Q O p;refine sa.twoE Y O p λL J x y M1 H1 rep1 i1 i2 p1=>?_;refine h1 g M1 ρ env σ H1 _ L J x y rep1 i1 i2 ?_;cases q:k1 L J with
 |stuck=>rw[q]at p1;exact p1
 |exc c=>rw[q]at p1;exact p1
 |ok Z=>
  rw[q]at p1;have p1:PostE mg E g M1 ρ env σ H1 Q (HZ k2 fc env J Z):=p1;unfold HZ at p1;intro v M2 H2 e2 rep2 ro;split at p1
  .cases (show v=.bl true from ro);refine⟨true,rfl,ss ?_⟩;have p2:=PostE.ext e2 p1;have W:=Is.ext e2 i2;refine sc.oneE rep2 p2 λrc z M3 H3 e3 rep3 i3 p3=>?_;exact h2 g M3 ρ env σ H3 Q J rc y z rep3 (Is.ext e3 W) i3 p3
  .cases (show v=.bl false from ro);exact⟨false,rfl,ud (p1 (.bl false) M2 H2 e2 rep2 rfl)⟩
  .exact p1.elim
theorem kh (Y:mS X E (compareOp op) k1)(O:mS X E (compareOp op') k2)(ha:PD X E a fa)(Z:PD X E b fb)(hc:PD X E c fc)
 (hm:lastMarks [op,op'] [b,c]=false:=by with_unfolding_all rfl):xW X E (.Compare a [op,op'] [b,c] pos) (vB (kN k1 k2 fa fb fc)):=by
 obtain⟨r,o1,h1⟩:=Y;obtain⟨r',o2,h2⟩:=O;obtain⟨ta,pa,sa⟩:=ha;obtain⟨tb,pb,sb⟩:=Z;obtain⟨tc,pc,sc⟩:=hc;have S:=zI h1 h2 sa sb sc;refine⟨_,Av o1 o2 pa pb pc hm,λg M ρ env σ H Q W p=>S.oneT W p λr v M' H' e J i L=>?_⟩;cases q:r.d with
 |bl b=>rw[q]at i;simp only[q]at L;cases i;exact⟨b,rfl,L M' H' (Ext.refl _ _) J⟩
 |_=>simp only[q]at L;exact L.elim
end
noncomputable def getD:List DK->List D->DK->Option D
 |k'::ks,d::ds,k=>if k'=k then some d else getD ks ds k
 |_,_,_=>none
noncomputable def kF (J L:R):Res R:=match J.d with
 | .dic ks ds=>match keyX L.d with
  |some x=>if ks.all (kin x) then (match getD ks ds x with
   |some d=>.ok (mkV d J.fr J.al)
   |none=>.stuck) else .stuck
  |none=>.stuck
 |_=>.stuck
theorem sY {κ:Type}[DecidableEq κ](inj:κ->DK)(hi:∀ a b,inj a=inj b->a=b){H:Hp}{m:Addr->Prop}{k:κ}{d:D}:∀{kvs:List (κ×V)}{ds:List D},IsAll H m ds (kvs.map Prod.snd)->getD (kvs.map λp=>inj p.1) ds (inj k)=some d->∃ v,cS kvs k=some v/\Is H m d v
 | [],ds,_,e=>by cases ds<;>cases e
 |p::r,[],h,e=>by cases h
 |p::r,L::ds,h,e=>by
  obtain⟨O,r0,z,i1,i2⟩:=h;cases z;rw[Kc]at e;unfold getD at e;by_cases J:p.1=k
  .rw[Ka (LQ inj J)]at e;cases e;exact⟨p.2,fB J,i1⟩
  .rw[J_ (λz=>J (hi _ _ z))]at e;obtain⟨v,e1,e2⟩:=sY inj hi i2 e;exact⟨v,by rw[fC J];exact e1,e2⟩
section
variable {X:Cx}{E:XK}
theorem yh (hu:X.A.units+64<cLine)(ho:PD X E o fa)(hk:PD X E k fk)(hs:FX k):PD X E (.Subscript o k pos) (v2 kF fa fk):=by
 obtain⟨ta,p1,s1⟩:=ho;obtain⟨tk,p2,s2⟩:=hk;refine⟨_,xH (by lia) p1 p2 hs,λg M ρ env σ H Q L p=>s1.twoE s2 L p λra rk x y M1 H1 rep1 i1 i2 q=>?_⟩;unfold kF at q;cases W:ra.d with
 |dic ks ds=>
  rw[W]at q i1;dsimp only at q;cases O:keyX rk.d with
  |none=>rw[O]at q;exact q.elim
  |some Y=>
   rw[O]at q;dsimp only at q;by_cases hc:ks.all (kin Y)=true
   .rw[Ka hc]at q;obtain⟨a,vs,rfl,⟨dat,_⟩,Z⟩:=i1;cases J:getD ks ds Y with
    |none=>rw[J]at q;exact q.elim
    |some d=>
     rw[J]at q;refine⟨a,?_⟩;rcases i2.keyX O with⟨k0,rfl,rfl⟩|⟨k0,b,rfl,rfl,hb⟩
     .rcases dat with⟨kvs,e1,rfl,rfl⟩|⟨kvs,e1,rfl,rfl⟩
      .obtain⟨v,g1,g2⟩:=sY Sum.inl (λ_ _ z=>Ob z) Z J;exact⟨v,rfl,by rw[<- g1];exact .inl ⟨kvs,k0,e1,rfl,rfl⟩,q.val rep1 g2⟩
      .cases kvs with
       |nil=>cases ds<;>cases J
       |cons p r=>simp[kin]at hc
     .rcases dat with⟨kvs,e1,rfl,rfl⟩|⟨kvs,e1,rfl,rfl⟩
      .cases kvs with
       |nil=>cases ds<;>cases J
       |cons p r=>simp[kin]at hc
      .obtain⟨v,g1,g2⟩:=sY Sum.inr (λ_ _ z=>Oc z) Z J;exact⟨v,rfl,by rw[<- g1];exact .inr ⟨kvs,k0,b,e1,rfl,hb,rfl⟩,q.val rep1 g2⟩
   .rw[J_ hc]at q;exact q.elim
 |_=>rw[W]at q;exact q.elim
end
noncomputable def lG:List D->Option (List Int)
 | []=>some []
 | .int i::r=>(lG r).map (i::·)
 |_::_=>none
noncomputable def GA:D->Option (List Int)
 | .tup ds=>lG ds
 |_=>none
noncomputable def tupsI:List D->Option (List (List Int))
 | []=>some []
 |d::r=>match GA d,tupsI r with
  |some k,some ks=>some (k::ks)
  |_,_=>none
noncomputable def mq (k:List Int):D:=.tup (k.map .int)
noncomputable def qN (k:List Int):List (List Int)->List (List Int)
 | []=>[k]
 |h::t=>if k=h then h::t else if lexB k h then k::h::t else h::qN k t
noncomputable def dH:List (List Int)->List (List Int)
 | []=>[]
 |k::ks=>qN k (dH ks)
noncomputable def DI (N:Nat)(r:R):Res R:=match r.d with
 | .lst ds=>match tupsI ds with
  |some ks=>if decide (ds.length<=N)&&ks.all (λk=>!k.isEmpty) then .ok (.new ((dH ks).map mq) true) else .stuck
  |none=>.stuck
 |_=>.stuck
noncomputable def EK (r:R):Res R:=DI 63 r
noncomputable def JD (f:En->Res R):En->Res R:=λenv=>(f env).bind EK
theorem sZ (k x:List Int):∀ l,x∈qN k l↔x=k\/x∈l
 | []=>by simp[qN]
 |h::t=>by
  unfold qN;split
  .rename_i e;subst e;simp
  .split
   .simp
   .rw[Kb,sZ k x t,Kb];constructor
    .rintro (z|z|z)
     .exact .inr (.inl z)
     .exact .inl z
     .exact .inr (.inr z)
    .rintro (z|z|z)
     .exact .inr (.inl z)
     .exact .inl z
     .exact .inr (.inr z)
theorem BJ (k:List Int):∀ l,l.Pairwise (λx y=>lexB x y=true)->(qN k l).Pairwise (λx y=>lexB x y=true)
 | [],_=>List.pairwise_singleton _ _
 |h::t,p=>by
  obtain⟨p1,p2⟩:=L5.mp p;unfold qN;split
  .exact p
  .rename_i L;split
   .rename_i J;refine L5.mpr ⟨λy hy=>?_,p⟩;rcases Kb.mp hy with rfl|hy
    .exact J
    .exact sD _ _ _ J (p1 y hy)
   .rename_i J;refine L5.mpr ⟨λy hy=>?_,BJ k t p2⟩;rcases (sZ k y t).mp hy with rfl|hy
    .exact(sE _ _ L).resolve_left J
    .exact p1 y hy
theorem dI (x:List Int):∀ ks,x∈dH ks↔x∈ks
 | []=>by simp[dH]
 |k::ks=>by unfold dH;rw[sZ,dI x ks,Kb]
theorem om:∀ ks,(dH ks).Pairwise (λx y=>lexB x y=true)
 | []=>List.Pairwise.nil
 |k::ks=>by unfold dH;exact BJ k _ (om ks)
theorem BK (h:lexB a b=true):lexB b a=false:=by
 cases q:lexB b a with
 |false=>rfl
 |true=>have:=sD _ _ _ h q;rw[ib]at this;cases this
theorem kR:∀(a b:List (List Int)),a.Pairwise (λx y=>lexB x y=true)->b.Pairwise (λx y=>lexB x y=true)->(∀ x,x∈a↔x∈b)->a=b
 | [],[],_,_,_=>rfl
 | [],y::b,_,_,h=>by have:=(h y).mpr Kj;simp at this
 |x::a,[],_,_,h=>by have:=(h x).mp Kj;simp at this
 |x::a,y::b,L,O,h=>by
  obtain⟨a1,a2⟩:=L5.mp L;obtain⟨b1,b2⟩:=L5.mp O;have J:x=y:=by
   rcases Kb.mp ((h x).mp Kj) with e|e
   .exact e
   .rcases Kb.mp ((h y).mpr Kj) with e'|e'
    .exact e'.symm
    .have:=BK (a1 y e');rw[b1 x e]at this;cases this
  subst J;rw[kR a b a2 b2 λz=>?_];constructor
  .intro hz;rcases Kb.mp ((h z).mp (J8 _ hz)) with e|e
   .have:=a1 z hz;rw[e,ib]at this;cases this
   .exact e
  .intro hz;rcases Kb.mp ((h z).mpr (J8 _ hz)) with e|e
   .have:=b1 z hz;rw[e,ib]at this;cases this
   .exact e
section
variable {H:Hp}{m:Addr->Prop}
theorem IsAll.ints:∀{ds:List D}{vs:List V}{k:List Int},IsAll H m ds vs->lG ds=some k->vs=(iK k).map kV
 | [],_,_,h,e=>by cases h;cases e;rfl
 |d::ds,_,k,h,e=>by
  obtain⟨v,r,rfl,h1,h2⟩:=h;cases d with
  |int i=>unfold lG at e;obtain⟨J,e1,rfl⟩:=K1.mp e;rw[IsAll.ints h2 e1,show v=V.int i from h1];rfl
  |_=>cases e
theorem pJ:∀(k:List Int),IsAll H m (k.map .int) ((iK k).map kV)
 | []=>rfl
 |i::k=>⟨.int i,_,rfl,rfl,pJ k⟩
theorem IsAll.tupsI:∀{ds:List D}{vs:List V}{ks:List (List Int)},IsAll H m ds vs->L3.tupsI ds=some ks->∃ its:List TItem,TupsIn H vs its/\its.map (·.1)=ks
 | [],_,_,h,e=>by cases h;cases e;exact⟨[],.nil,rfl⟩
 |d::ds,_,ks,h,e=>by
  obtain⟨v,r,rfl,h1,h2⟩:=h;unfold L3.tupsI at e;cases q:GA d with
  |none=>rw[q]at e;cases e
  |some k=>
   cases q2:L3.tupsI ds with
   |none=>rw[q,q2]at e;cases e
   |some J=>
    rw[q,q2]at e;cases e;obtain⟨its,t1,L⟩:=IsAll.tupsI h2 q2;cases d with
    |tup es=>obtain⟨a,ws,rfl,g1,g2⟩:=h1;have q:lG es=some k:=q;rw[IsAll.ints g2 q]at g1;exact⟨(k,a)::its,.cons ⟨rfl,g1⟩ t1,by rw[Kc,L]⟩
    |_=>cases q
end
theorem pK:∀{vs:List V}{its:List TItem},TupsIn H vs its->vs.length=its.length
 |_,_,.nil=>rfl
 |_,_,.cons _ t=>by simp[pK t]
theorem mr:∀{vs:List V}{its:List TItem},TupsIn H vs its->∀ x∈its,H x.2=some (.tup ((iK x.1).map kV))
 |_,_,.nil,x,hx=>nomatch hx
 |_,_,.cons q t,x,hx=>by
  rcases Kb.mp hx with rfl|hx
  .exact q.2
  .exact mr t x hx
theorem iY:∀{ys:List TItem},(∀ y∈ys,H y.2=some (.tup ((iK y.1).map kV)))->IsAll H m (ys.map (mq ∘ λy=>y.1)) (ys.map λy=>.ref y.2)
 | [],_=>rfl
 |y::ys,h=>⟨.ref y.2,_,rfl,⟨y.2,_,rfl,h y Kj,pJ y.1⟩,iY λz hz=>h z (J8 _ hz)⟩
section
variable {X:Cx}{E:XK}
theorem qO (hN:N<=300)(hso:ke X.prog X.w N)(hc:X.calm=true)(hu:X.A.units+64<cLine)(h:PD X E e f)
 (hg1:Gl X x1) (hm1:X.mg x1=none) (hv1:bootBuiltins x1=some (.builtin "sorted")) (hg2:Gl X x2) (hm2:X.mg x2=none) (hv2:bootBuiltins x2=some (.type "set"))
 (hn1:autoParam (x1≠"__name__") Ot._auto_1) (Y:autoParam ((x1==("__debug__" : Str))=false) Ot._auto_1) (hn2:autoParam (x2≠"__name__") Ot._auto_1) (Z:autoParam ((x2==("__debug__" : Str))=false) Ot._auto_1)
 (he2:autoParam (starEach [e] X.env=(false,eval e X.env)::starEach [] X.env) Oy._auto_1) (hpl2:autoParam ((backTo pos2 (starEach [] X.env)).any (·.1)=false) Oy._auto_1)
 (he1:autoParam (starEach [.Call (.Name x2 p2) [e] [] pos2] X.env=(false,eval (.Call (.Name x2 p2) [e] [] pos2) X.env)::starEach [] X.env) Oy._auto_1) (hpl1:autoParam ((backTo pos1 (starEach [] X.env)).any (·.1)=false) Oy._auto_1) :
 PD X E (.Call (.Name x1 p1) [.Call (.Name x2 p2) [e] [] pos2] [] pos1) (λenv=>(f env).bind (DI N)):=by
 obtain⟨t,p1,s1⟩:=h;refine⟨_,cV (sG hc hN hso) hg1 hm1 hv1 (ag (qZ (zf hc hu) hg2 hm2 hv2 (ag p1 aC he2) hn2 Z he2 hpl2) aC he1) hn1 Y he1 hpl1,λg M ρ env σ H Q rep p=>?_⟩;refine s1.oneE rep p λr v M1 H1 e1 rep1 i1 q1=>?_;unfold DI at q1;cases qd:r.d with
 |lst ds=>
  rw[qd]at q1 i1;dsimp only at q1;cases qt:tupsI ds with
  |none=>rw[qt]at q1;exact q1.elim
  |some ks=>
   rw[qt]at q1;dsimp only at q1;by_cases J:(decide (ds.length<=N)&&ks.all (λk=>!k.isEmpty))=true
   .rw[Ka J]at q1;simp only[Ky,ME,Ld]at J;obtain⟨O,hne⟩:=J;obtain⟨a,vs,rfl,h1,h2⟩:=i1.rd;obtain⟨its,t1,t2⟩:=h2.tupsI qt;have hvl:vs.length<=N:=by rw[h2.length];exact O
    have W:=mr t1;refine⟨a,vs,its,rfl,h1,t1,Ku hvl hN,λb es hb v=>?_⟩;refine⟨b,es,its,rfl,af,v,λx L=>?_,λx L z=>?_,by rw[<- pK t1];exact hvl,λl ys O so=>?_⟩
    .rw[ac (ah (W x L) hb)];exact W x L
    .have:x.1∈ks:=by rw[<- t2];exact Kg.mpr ⟨x,L,rfl⟩
     have:=hne _ this;rw[z]at this;simp at this
    .have hlb:l≠b:=λz=>by rw[z,af]at O;cases O
     have hl1:H1 l=none:=by rw[ac hlb]at O;exact O
     have sm1:Same H1 (aI H1 b (.ext λh=>SetAt X.w h b es)):=aK hb;have sm2:Same (aI H1 b (.ext λh=>SetAt X.w h b es)) (aI (aI H1 b (.ext λh=>SetAt X.w h b es)) l (.lst (ys.map λy=>.ref y.2))):=aK O;have sm:=sm1.trans sm2;obtain⟨z0,zm,zo⟩:=rep1.free hl1;refine q1 _ M1 _ ⟨λ_ z=>z,sm,λ_ z=>.inl z⟩ (rep1.grow sm) ⟨l,_,rfl,af,zm,hl1,zo,?_⟩;have ek:ys.map (·.1)=dH ks:=by
      refine kR _ _ ?_ (om ks) λk=>?_
      .rw[LV];exact so.pw
      .rw[dI,<- t2];constructor
       .intro hk;obtain⟨y,hy,rfl⟩:=Kg.mp hk;exact Kg.mpr ⟨y,so.sub y hy,rfl⟩
       .intro hk;obtain⟨x,L,rfl⟩:=Kg.mp hk;obtain⟨y,y1,y2⟩:=so.all x L;exact Kg.mpr ⟨y,y1,y2⟩
     rw[<- ek,KM];exact iY (λx L=>sm _ _ (W x (so.sub x L)))
   .rw[J_ J]at q1;exact q1.elim
 |_=>rw[qd]at q1;exact q1.elim
theorem s_ (hc:X.calm=true)(hu:X.A.units+64<cLine)(h:PD X E e f)
 (Y:Gl X x1) (Z:X.mg x1=none) (hv1:bootBuiltins x1=some (.builtin "sorted")) (hg2:Gl X x2) (hm2:X.mg x2=none) (hv2:bootBuiltins x2=some (.type "set"))
 (hn1:autoParam (x1≠"__name__") Ot._auto_1) (J:autoParam ((x1==("__debug__" : Str))=false) Ot._auto_1) (hn2:autoParam (x2≠"__name__") Ot._auto_1) (L:autoParam ((x2==("__debug__" : Str))=false) Ot._auto_1)
 (he2:autoParam (starEach [e] X.env=(false,eval e X.env)::starEach [] X.env) Oy._auto_1) (O:autoParam ((backTo pos2 (starEach [] X.env)).any (·.1)=false) Oy._auto_1)
 (he1:autoParam (starEach [.Call (.Name x2 p2) [e] [] pos2] X.env=(false,eval (.Call (.Name x2 p2) [e] [] pos2) X.env)::starEach [] X.env) Oy._auto_1) (W:autoParam ((backTo pos1 (starEach [] X.env)).any (·.1)=false) Oy._auto_1) :
 PD X E (.Call (.Name x1 p1) [.Call (.Name x2 p2) [e] [] pos2] [] pos1) (JD f):=qO (Nat.le_of_ble_eq_true rfl) xR hc hu h Y Z hv1 hg2 hm2 hv2 hn1 J hn2 L he2 O he1 W
end
section
variable {H H':Hp}{m m':Addr->Prop}
mutual
theorem Is.view (L:∀ a vs,H a=some (.lst vs)->H' a=some (.lst vs))(hf:∀ a o vs,H a=some (.frz o (.lst vs))->H' a=some (.frz o (.lst vs)))(O:∀ a vs,H a=some (.tup vs)->H' a=some (.tup vs))(hd:∀ a u,ia u->Rd H a u->Rd H' a u)(J:∀ a,m a->m' a):∀{d:D}{v:V},Is H m d v->Is H' m' d v
 | .non,_,h=>h
 | .bl _,_,h=>h
 | .int _,_,h=>h
 | .str _,_,h=>h
 | .tup ds,_,h=>by obtain⟨a,vs,e,h1,h2⟩:=h;exact⟨a,vs,e,O a _ h1,IsAll.view L hf O hd J h2⟩
 | .lst ds,_,h=>by
  obtain⟨a,vs,e,h1,h2⟩:=h;refine⟨a,vs,e,?_,IsAll.view L hf O hd J h2⟩;rcases h1 with⟨h1,W⟩|⟨o,h1,W⟩
  .exact .inl ⟨L a _ h1,J a W⟩
  .exact .inr ⟨o,hf a o _ h1,J a W⟩
 | .dic ks ds,_,h=>by obtain⟨a,vs,e,h1,h2⟩:=h;refine⟨a,vs,e,⟨?_,J a h1.2⟩,IsAll.view L hf O hd J h2⟩;exact h1.1.imp (λ⟨kvs,e,r⟩=>⟨kvs,hd a _ True.intro e,r⟩) λ⟨kvs,e,r⟩=>⟨kvs,hd a _ True.intro e,r⟩
theorem IsAll.view (J:∀ a vs,H a=some (.lst vs)->H' a=some (.lst vs))(hf:∀ a o vs,H a=some (.frz o (.lst vs))->H' a=some (.frz o (.lst vs)))(L:∀ a vs,H a=some (.tup vs)->H' a=some (.tup vs))(hd:∀ a u,ia u->Rd H a u->Rd H' a u)(O:∀ a,m a->m' a):∀{ds:List D}{vs:List V},IsAll H m ds vs->IsAll H' m' ds vs
 | [],_,h=>h
 |d::ds,_,h=>by obtain⟨v,r,e,h1,h2⟩:=h;exact⟨v,r,e,Is.view J hf L hd O h1,IsAll.view J hf L hd O h2⟩
end
mutual
theorem IsSh.view (J:∀ a vs,H a=some (.lst vs)->H' a=some (.lst vs))(L:∀ a vs,H a=some (.tup vs)->H' a=some (.tup vs)):∀{d:D}{v:V},IsSh H m d v->IsSh H' m d v
 | .non,_,h=>h
 | .bl _,_,h=>h
 | .int _,_,h=>h
 | .str _,_,h=>h
 | .tup ds,_,h=>by obtain⟨a,vs,e,h1,h2⟩:=h;exact⟨a,vs,e,L a _ h1,IsShs.view J L h2⟩
 | .lst ds,_,h=>by obtain⟨a,vs,e,h1,h2⟩:=h;exact⟨a,vs,e,J a _ h1,h2⟩
 | .dic _ _,_,h=>h
theorem IsShs.view (J:∀ a vs,H a=some (.lst vs)->H' a=some (.lst vs))(L:∀ a vs,H a=some (.tup vs)->H' a=some (.tup vs)):∀{ds:List D}{vs:List V},IsShs H m ds vs->IsShs H' m ds vs
 | [],_,h=>h
 |d::ds,_,h=>by obtain⟨v,r,e,h1,h2⟩:=h;exact⟨v,r,e,IsSh.view J L h1,IsShs.view J L h2⟩
end
end
section
variable {g:Gd}{M:Addr->Prop}{ρ:Pr}{env:En}{σ:St}{H:Hp}{d:Addr}{o:Obj}{u:HO}
open Classical in
noncomputable def fM (g:Gd)(d:Addr)(o:Obj)(u:HO):Gd:=⟨if g.H₀ d=none then g.H₀ else aI g.H₀ d (.frz o u),g.Ma,λa=>g.Z a\/a=d,g.root,g.rooT⟩
theorem lH (J:b≠d):(fM g d o u).H₀ b=g.H₀ b:=by
 unfold fM;dsimp only;split
 .rfl
 .exact ac J
theorem cm (b:Addr):(fM g d o u).H₀ b=none↔g.H₀ b=none:=by
 by_cases J:b=d
 .subst J;unfold fM;dsimp only;split
  .exact Iff.rfl
  .rename_i h;rw[af];exact⟨λz=>(by cases z),λz=>(h z).elim⟩
 .rw[lH J]
theorem DJ (h:g.H₀ d≠none):(fM g d o u).H₀ d=some (.frz o u):=by unfold fM;dsimp only;rw[J_ h,af]
theorem rM (J:ia u)(hd:H d=some u):(∀ a vs,H a=some (.lst vs)->a≠d)/\(∀ a o vs,H a=some (.frz o (.lst vs))->a≠d)/\∀ a vs,H a=some (.tup vs)->a≠d:=by refine⟨λa vs e z=>?_,λa o vs e z=>?_,λa vs e z=>?_⟩<;>(subst z;rw[hd]at e;cases e;exact J)
theorem msk_still:msk (fM g d o u) M fr a↔msk g M fr a:=by unfold msk;rw[cm]
theorem Rep.still (J:Rep g M ρ env σ H)(hd:H d=some u)(hu:ia u)(hm:M d):Rep (fM g d o u) M ρ env σ (aI H d (.frz o u)):=by
 obtain⟨k1,k2,k3⟩:=rM hu hd;have O:∀ a vs,H a=some (.lst vs)->aI H d (.frz o u) a=some (.lst vs):=λa vs e=>by rw[ac (k1 a vs e)];exact e
 have Y:∀ a o' vs,H a=some (.frz o' (.lst vs))->aI H d (.frz o u) a=some (.frz o' (.lst vs)):=λa o' vs e=>by rw[ac (k2 a o' vs e)];exact e
 have W:∀ a vs,H a=some (.tup vs)->aI H d (.frz o u) a=some (.tup vs):=λa vs e=>by rw[ac (k3 a vs e)];exact e
 have Z:∀ a u',ia u'->Rd H a u'->Rd (aI H d (.frz o u)) a u':=λa u' hu' e=>by
  by_cases ha:a=d
  .subst ha;rcases e with e|⟨o',e⟩
   .rw[hd]at e;cases e;exact .inr ⟨o,af⟩
   .rw[hd]at e;cases e;exact hu.elim
  .exact mi e λo' q=>by rw[ac ha];exact q
 have pn:∀ i a,ρ i a->a≠d:=λi a h z=>(J.priv i a h).1 (z▸hm);refine⟨λb x e=>?_,λa ha=>?_,λa ha=>(J.inn a ha).imp (cm a).mpr id,λa ha h0=>?_,λi sl e=>?_,λi a h=>?_,J.apart,J.ow,J.len,λa z=>?_⟩
 .by_cases L:b=d
  .subst L;have hn:g.H₀ b≠none:=λz=>by rw[(cm b).mpr z]at e;cases e
   rw[DJ hn]at e;cases e;exact af
  .rw[lH L]at e;rw[ac L];exact J.same b x e
 .by_cases L:a=d
  .rw[L,af];simp
  .rw[ac L];exact J.froz a ha
 .by_cases L:a=d
  .rw[L];exact .inr ⟨.inr rfl,o,u,af⟩
  .rcases J.fl a ha ((cm a).mp h0) with q|⟨q,o',u',e⟩
   .exact .inl (q.same λo' e=>by rw[ac L];exact e)
   .exact .inr ⟨.inl q,o',u',by rw[ac L];exact e⟩
 .obtain⟨v,ev,k⟩:=J.slot i sl e;refine⟨v,ev,?_⟩;cases sl with
  |val d' fr=>exact Is.view O Y W Z (λa z=>msk_still.mpr z) k
  |own ds fr=>obtain⟨a,vs,rfl,h1,h2,h3⟩:=k;exact⟨a,vs,rfl,O _ _ h1,h2,IsAll.view O Y W Z (λa z=>msk_still.mpr z) h3⟩
  |tre d'=>exact Is.view O Y W Z (λa z=>z) k
  |mes d'=>exact IsSh.view O W k
 .obtain⟨q1,q2,q3⟩:=J.priv i a h;exact⟨q1,(cm a).mpr q2,q3.same λo' e=>by rw[ac (pn i a h)];exact e⟩
 .by_cases L:a=d
  .rw[L,af];simp
  .rw[ac L];exact J.zz a (z.resolve_right L)
theorem Rep.unstill (J:Rep (fM g d o u) M ρ env σ H)(hd:H d=some (.frz o u))(hu:ia u)(hm:M d)(hx:∀ x,g.H₀ d=some x->x=u):Rep g M ρ env σ (aI H d u):=by
 have n1:∀ a vs,H a=some (.lst vs)->a≠d:=λa vs e z=>by subst z;rw[hd]at e;cases e
 have n2:∀ a o' vs,H a=some (.frz o' (.lst vs))->a≠d:=λa o' vs e z=>by subst z;rw[hd]at e;cases e;exact hu
 have n3:∀ a vs,H a=some (.tup vs)->a≠d:=λa vs e z=>by subst z;rw[hd]at e;cases e
 have W:∀ a vs,H a=some (.lst vs)->aI H d u a=some (.lst vs):=λa vs e=>by rw[ac (n1 a vs e)];exact e
 have Z:∀ a o' vs,H a=some (.frz o' (.lst vs))->aI H d u a=some (.frz o' (.lst vs)):=λa o' vs e=>by rw[ac (n2 a o' vs e)];exact e
 have Y:∀ a vs,H a=some (.tup vs)->aI H d u a=some (.tup vs):=λa vs e=>by rw[ac (n3 a vs e)];exact e
 have vd:∀ a u',ia u'->Rd H a u'->Rd (aI H d u) a u':=λa u' hu' e=>by
  by_cases ha:a=d
  .subst ha;rcases e with e|⟨o',e⟩
   .rw[hd]at e;cases e;exact hu'.elim
   .rw[hd]at e;cases e;exact .inl af
  .exact mi e λo' q=>by rw[ac ha];exact q
 have O:Mu (aI H d u) d:=⟨u,af,by cases u<;>first|exact True.intro|exact hu.elim⟩;have pn:∀ i a,ρ i a->a≠d:=λi a h z=>(J.priv i a h).1 (z▸hm);refine⟨λb x e=>?_,λa ha=>?_,λa ha=>(J.inn a ha).imp (cm a).mp id,λa ha h0=>?_,λi sl e=>?_,λi a h=>?_,J.apart,J.ow,J.len,λa z=>?_⟩
 .by_cases L:b=d
  .subst L;rw[hx x e,af]
  .rw[ac L];exact J.same b x (by rw[lH L];exact e)
 .by_cases L:a=d
  .rw[L];exact O.some
  .rw[ac L];exact J.froz a ha
 .by_cases L:a=d
  .rw[L];exact .inl O
  .rcases J.fl a ha ((cm a).mpr h0) with q|⟨q,o',u',e⟩
   .exact .inl (q.same λo' e=>by rw[ac L];exact e)
   .exact .inr ⟨q.resolve_right L,o',u',by rw[ac L];exact e⟩
 .obtain⟨v,ev,k⟩:=J.slot i sl e;refine⟨v,ev,?_⟩;cases sl with
  |val d' fr=>exact Is.view W Z Y vd (λa z=>msk_still.mp z) k
  |own ds fr=>obtain⟨a,vs,rfl,h1,h2,h3⟩:=k;exact⟨a,vs,rfl,W _ _ h1,h2,IsAll.view W Z Y vd (λa z=>msk_still.mp z) h3⟩
  |tre d'=>exact Is.view W Z Y vd (λa z=>z) k
  |mes d'=>exact IsSh.view W Y k
 .obtain⟨q1,q2,q3⟩:=J.priv i a h;exact⟨q1,(cm a).mp q2,q3.same λo' e=>by rw[ac (pn i a h)];exact e⟩
 .by_cases L:a=d
  .rw[L];exact O.some
  .rw[ac L];exact J.zz a (.inl z)
end
noncomputable def kD:Key->D
 | .inl i=>.int i
 | .inr x=>.str x
theorem H_ (k:Key):Is H m (kD k) (kV k):=by cases k<;>exact rfl
section
variable {X:Cx}{E:XK}{tg:Expr}
end
section
variable {H:Hp}{m:Addr->Prop}
end
section
variable {X:Cx}{E:XK}
end
noncomputable abbrev GB:=Int×Int×Int
noncomputable def dd (l:List Int)(x:Int):List Int:=if x∈l then l else l++[x]
noncomputable def Ia (xs:List Int):List Int:=xs.foldl dd []
noncomputable def g1 (ts:List GB):List Int:=Ia (ts.map (·.1))
noncomputable def g2 (ts:List GB)(x:Int):List Int:=Ia ((ts.filter λt=>decide (t.1=x)).map (·.2.1))
noncomputable def g3 (ts:List GB)(x y:Int):List Int:=(ts.filter λt=>decide (t.1=x)&&decide (t.2.1=y)).map (·.2.2)
section
variable {H:Hp}{a:Addr}{ts:List GB}{A:Int->Addr}{B:Int->Int->Addr}{x y z:Int}
end
section
variable {X:Cx}{E:XK}{tg:Expr}
end
section
variable {X:Cx}
noncomputable def JZ (X:Cx)(Q:VK):VK:=λv H=>Q v H\/∃ d o u,H d=some (.frz o u)/\ia u/\(∀ o v,X.H₀ d≠some (.frz o v))/\Q v (aI H d u)
noncomputable def JE (X:Cx)(D:Ends):Ends where
 nx:=λσ H=>D.nx σ H\/∃ d o u,H d=some (.frz o u)/\ia u/\(∀ o v,X.H₀ d≠some (.frz o v))/\D.nx σ (aI H d u)
 rt:=JZ X D.rt
 bk:=D.bk
 ct:=D.ct
theorem GC {st:Stmt}(h:PS X st t):PS X st (λD σ H=>t (JE X D) σ H):=by
 intro pins s σ H D I q;refine bM (h pins s σ H _ I q) λf s' r=>?_;cases f with
 |next=>
  obtain⟨J,H',L,r⟩:=r;rcases r with r|⟨d,o,u,e,O,hn,r⟩
  .exact⟨J,H',L,r⟩
  .exact⟨J,_,L.unfrz e O hn,r⟩
 |ret v=>
  obtain⟨x,J,H',L,W,r⟩:=r;rcases r with r|⟨d,o,u,e,O,hn,r⟩
  .exact⟨x,J,H',L,W,r⟩
  .exact⟨x,J,_,L.unfrz e O hn,W,r⟩
 |brk=>exact r
 |cont=>exact r
end
section
variable {g:Gd}{M M2 M':Addr->Prop}{ρ:Pr}{env:En}{σ:St}{H H1 H':Hp}{d:Addr}{o:Obj}{u:HO}{m m':Addr->Prop}
theorem Is.thaw (hd:H d=some (.frz o u))(L:ia u)(O:∀ a,m a->m' a)(h:Is H m x v):Is (aI H d u) m' x v:=by
 refine Is.view (λa vs e=>?_) (λa o' vs e=>?_) (λa vs e=>?_) (λa u' J e=>?_) O h
 .rw[ac (λz=>by subst z;rw[hd]at e;cases e)];exact e
 .rw[ac (λz=>by subst z;rw[hd]at e;cases e;exact L)];exact e
 .rw[ac (λz=>by subst z;rw[hd]at e;cases e)];exact e
 .by_cases ha:a=d
  .subst ha;rcases e with e|⟨o',e⟩
   .rw[hd]at e;cases e;exact J.elim
   .rw[hd]at e;cases e;exact .inl af
  .exact mi e λo' q=>by rw[ac ha];exact q
theorem Is.still (hd:H d=some u)(J:ia u)(L:∀ a,m a->m' a)(h:Is H m x v):Is (aI H d (.frz o u)) m' x v:=by
 obtain⟨k1,k2,k3⟩:=rM J hd;refine Is.view (λa vs e=>?_) (λa o' vs e=>?_) (λa vs e=>?_) (λa u' O e=>?_) L h
 .rw[ac (k1 a vs e)];exact e
 .rw[ac (k2 a o' vs e)];exact e
 .rw[ac (k3 a vs e)];exact e
 .by_cases ha:a=d
  .subst ha;rcases e with e|⟨o',e⟩
   .rw[hd]at e;cases e;exact .inr ⟨o,af⟩
   .rw[hd]at e;cases e;exact J.elim
  .exact mi e λo' q=>by rw[ac ha];exact q
theorem IsAll.of_each:∀{ds:List D}{vs:List V}{P:D->V->Prop},(∀ x v,Is H m x v->Is H' m' x v)->IsAll H m ds vs->IsAll H' m' ds vs
 | [],_,_,_,h=>h
 |d::ds,_,P,f,h=>by obtain⟨v,r,e,h1,h2⟩:=h;exact⟨v,r,e,f _ _ h1,IsAll.of_each (P:=P) f h2⟩
theorem BL (J:Rep g M ρ env σ H1)(L:H1 d=some u):∀ x,g.H₀ d=some x->x=u:=λx e=>by have:=J.same d x e;rw[L]at this;cases this;rfl
end
section
variable {X:Cx}{E:XK}{scope:Scope}{tg:Expr}{tN:List Str}{capN:List Str}{caps:List Nat}{ix:List Nat}{asg:D->Bool->En->Option En}{elt iter:Expr}{pos:Pos}{ifs:List Expr}{f:En->Res R}{ft:En->Res Bool}{fe:En->Res R}
end
noncomputable def kT:Res Fl->Res Fl
 | .ok (.nx e)=>.ok (.nx e)
 | .ok (.rt r)=>if r.d.flat then .ok (.rt (.val r.d true [])) else .stuck
 |_=>.stuck
section
variable {X:Cx}{E:XK}{g:Gd}{M:Addr->Prop}{ρ:Pr}{env:En}{σ:St}{H:Hp}{D:Ends}{d:Addr}{o:Obj}{u:HO}
theorem wW (Z:Rep g M ρ env σ H)(L:H d=some u)(Y:ia u)(md:M d)(O:∀ o v,X.H₀ d≠some (.frz o v))(p:PostS X.mg E g M H D (kT r)):PostS X.mg E (fM g d o u) M (aI H d (.frz o u)) (JE X D) r:=by
 have hx:=BL Z L;have fz:∀{M':Addr->Prop}{H':Hp},Frz M (aI H d (.frz o u)) M' H'->Frz M H M' (aI H' d u):=λ{M' H'} f=>⟨f.m,λa x e z=>by
  by_cases ha:a=d
  .subst ha;rw[L]at e;cases e;exact af
  .rw[ac ha];exact f.h a x (by rw[ac ha];exact e) z⟩
 cases r with
 |stuck=>exact p
 |exc c=>exact(show False from p).elim
 |ok r=>
  cases r with
  |nx e=>intro σ' M' ρ' H' f W;have J:H' d=some (.frz o u):=f.h d _ af (.inl md);exact .inr ⟨d,o,u,J,Y,O,p σ' M' ρ' _ (fz f) (W.unstill J Y (f.m d md) hx)⟩
  |bk e=>exact(show False from p).elim
  |ct e=>exact(show False from p).elim
  |rm r e=>exact(show False from p).elim
  |rt r=>
   unfold kT at p;by_cases hf:r.d.flat=true
   .simp only[hf,Mb]at p;intro v M' H' f s _ fl;have J:H' d=some (.frz o u):=f.h d _ af (.inl md);have is:∀{m:Addr->Prop},Is (aI H' d u) m r.d v:=λ{m}=>Is.flat hf (Is.thaw (m':=m) J Y (λ_ z=>z.elim) (fl hf));refine .inr ⟨d,o,u,J,Y,O,p v M' _ (fz f) (λb x e=>?_) (λ_=>is) λ_=>is⟩;by_cases hb:b=d
    .subst hb;rw[hx x e];exact af
    .rw[ac hb];exact s b x (by rw[lH hb];exact e)
   .simp only[hf]at p;exact(show False from p).elim
theorem uL (p:PostS X.mg E g M H D (kT r)):PostS X.mg E g M H (JE X D) r:=by
 cases r with
 |stuck=>exact p
 |exc c=>exact(show False from p).elim
 |ok r=>
  cases r with
  |nx e=>exact λL M' O H' f J=>.inl (p L M' O H' f J)
  |bk e=>exact(show False from p).elim
  |ct e=>exact(show False from p).elim
  |rm r e=>exact(show False from p).elim
  |rt r=>
   unfold kT at p;by_cases hf:r.d.flat=true
   .simp only[hf,Mb]at p;exact λv M' H' f s _ fl=>.inl (p v M' H' f s (λ_=>Is.flat hf (fl hf)) λ_=>Is.flat hf (fl hf))
   .simp only[hf]at p;exact(show False from p).elim
end
open Classical in
section
variable {P:Oo}{w:World}{K:On}{mg:Str->Option Oq}{base:Heap}
end
section
variable {X:Cx}{E:XK}
end
section
variable {H:Hp}{a:Addr}{ts:List GB}{A:Int->Addr}{B:Int->Int->Addr}{x y z:Int}
end
section
variable {X:Cx}{E:XK}{tg:Expr}
end
section
variable {X:Cx}{E:XK}
noncomputable def oo (rs:List R):Res R:=match rs.map R.d with
 | [.int j]=>if 0<=j/\j<=1000 then .ok (.new (eR 0 j.toNat) true) else .stuck
 |_=>.stuck
theorem zJ (hc:X.calm=true) (L:Gl X "list") (O:X.mg "list"=none) (W:bootBuiltins "list"=some (.type "list")) (hg:Gl X "range") (hm:X.mg "range"=none) (ha:Ah X E [a] fs) (hs:autoParam (starEach [a] X.env=[(false,eval a X.env)]) Oy._auto_1)
 (Y:autoParam (starEach [.Call (.Name "range" p2) [a] [] pos2] X.env=[(false,eval (.Call (.Name "range" p2) [a] [] pos2) X.env)]) Oy._auto_1):PD X E (.Call (.Name "list" p) [.Call (.Name "range" p2) [a] [] pos2] [] pos) (k_ oo fs):=by
 obtain⟨t,p1,s1⟩:=ha;refine⟨_,zh hc L O W hg hm p1 hs Y,λg M ρ env σ H Q Z p=>s1.oneE Z p λrs vs M1 H1 e1 rep1 i1 q1=>?_⟩;unfold oo at q1;generalize rs.map R.d=ds at i1 q1;split at q1
 .rename_i j;obtain⟨v,w,rfl,k1,k2⟩:=i1;cases k1;cases k2;by_cases J:0<=j/\j<=1000
  .rw[Ka J]at q1;refine⟨j,rfl,J.1,J.2,λl hl=>?_⟩;have e:((List.range j.toNat).map λk=>(V.int (k:Nat)))=((List.range j.toNat).map λ(k:Nat)=>(V.int (0+(k:Nat)))):=Ln λk _=>by rw[Int.zero_add]
   rw[e];refine q1.new rep1 hl ?_;unfold eR;generalize List.range j.toNat=l0;induction l0 with
   |nil=>exact rfl
   |cons k r ih=>exact⟨_,_,rfl,rfl,ih⟩
  .rw[J_ J]at q1;exact q1.elim
 .exact q1.elim
noncomputable def wX (r0 r1 r2:R):Res R:=match r1,r2 with
 | .new J _,.new L _=>if r0.d.flat/\D.flats J=true/\D.flats L=true then .ok (.fre (.tup [r0.d,.lst J,.lst L])) else .stuck
 |_,_=>.stuck
noncomputable def JF (f0 f1 f2:En->Res R):En->Res R:=λenv=>(f0 env).bind λr0=>(f1 env).bind λr1=>(f2 env).bind λr2=>wX r0 r1 r2
theorem Ib (h0:PD X E e0 f0)(h1:PD X E e1 f1)(h2:PD X E e2 f2)(hs0:autoParam (starEach [e0,e1,e2] X.env=(false,eval e0 X.env)::starEach [e1,e2] X.env) Oy._auto_1)(hs1:autoParam (starEach [e1,e2] X.env=(false,eval e1 X.env)::starEach [e2] X.env) Oy._auto_1)(hs2:autoParam (starEach [e2] X.env=(false,eval e2 X.env)::starEach [] X.env) Oy._auto_1):PD X E (.Tuple [e0,e1,e2] k pos) (JF f0 f1 f2):=by
 obtain⟨t0,p0,s0⟩:=h0;obtain⟨t1,p1,s1⟩:=h1;obtain⟨t2,p2,s2⟩:=h2;refine⟨_,cU (ag p0 (ag p1 (ag p2 aC hs2) hs1) hs0),λg M ρ env σ H Q rep p=>?_⟩;have p:PostE X.mg E g M ρ env σ H Q ((f0 env).bind λr0=>(f1 env).bind λr1=>(f2 env).bind λr2=>wX r0 r1 r2):=p;refine s0.oneE rep p λr0 v0 M0 H0 x0 rep0 i0 J=>?_;refine s1 g M0 ρ env σ H0 _ rep0 ?_;cases O:f1 env with
 |stuck=>rw[O]at J;exact J
 |exc c=>rw[O]at J;exact J
 |ok r1=>
  rw[O]at J;intro v1 M1 H1 x1 rep1 ro1;refine s2 g M1 ρ env σ H1 _ rep1 ?_;simp only[Res.bind_ok]at J;cases W:f2 env with
  |stuck=>rw[W]at J;exact J
  |exc c=>rw[W]at J;exact J
  |ok r2=>
   rw[W]at J;simp only[Res.bind_ok]at J;intro v2 M2 H2 Y rep2 ro2;unfold wX at J;cases r1 with
   |val d fr al=>exact J.elim
   |fre d=>exact J.elim
   |new d1 fr1=>
    cases r2 with
    |val d fr al=>exact J.elim
    |fre d=>exact J.elim
    |new d2 fr2=>
     dsimp only at J;by_cases hc:r0.d.flat=true/\D.flats d1=true/\D.flats d2=true
     .rw[Ka hc]at J;obtain⟨c0,c1,c2⟩:=hc;obtain⟨a1,w1,rfl,g1,g2,g3,g4,g5⟩:=ro1;obtain⟨a2,w2,rfl,k1,k2,k3,k4,k5⟩:=ro2;refine⟨by show 3<=sizeLine;decide,λb hb=>?_⟩;have L:Same H2 (aI H2 b (.tup [v0,.ref a1,.ref a2])):=aK hb;have Z:H2 a1=some (.lst w1):=Y.h _ _ g1;have nm1:¬ M2 a1:=λz=>(Y.n a1 z).elim g2 λw=>by rw[g1]at w;cases w
      have g3':H0 a1=none:=g3;have k3':H1 a2=none:=k3;have n12:a1≠a2:=λe=>by rw[e,k3']at g1;cases g1
      refine J (.ref b) M2 _ ((x1.trans Y).trans ⟨λ_ z=>z,L,λ_ z=>.inl z⟩) (rep2.grow L) ⟨λa=>a=a1\/a=a2,λa z=>?_,b,_,rfl,af,v0,_,rfl,Is.flat c0 ((((i0.same x1.h).same Y.h)).same L),.ref a1,_,rfl,⟨a1,w1,rfl,.inl ⟨L _ _ Z,.inl rfl⟩,IsAll.flat c1 ((g5.same Y.h).same L)⟩,.ref a2,_,rfl,⟨a2,w2,rfl,.inl ⟨L _ _ k1,.inr rfl⟩,IsAll.flat c2 (k5.same L)⟩,rfl⟩;rcases z with rfl|rfl
      .exact⟨nm1,g3',⟨_,L _ _ Z,True.intro⟩,g4⟩
      .exact⟨k2,x1.h.free k3',⟨_,L _ _ k1,True.intro⟩,k4⟩
     .rw[J_ hc]at J;exact J.elim
noncomputable def mX (i:Nat)(f:En->Res R):En->Res Fl:=λenv=>(f env).bind λr=>if i<env.length then .ok (.nx ((frz env r.al).set i (some (.val r.d r.fr)))) else .stuck
theorem g8 (hN:X.N.Nodup)(hi:X.N[i]?=some x)(hx:Fs X.env.scope x)(h:PD X E e f)(hs:autoParam (swapsWith e (some (.Name x pos')) pos.line X.env=pure false) Oy._auto_1)
 (hf:autoParam (X.fn x=true\/X.env.scope.names.lookup x=some .local) Ou._auto_1):Aj X E (.Assign [.Name x pos'] e pos) (mX i f):=by
 obtain⟨t,p1,s1⟩:=h;refine⟨_,iN hN hi hx p1 hs hf,λg M ρ env σ H D J p=>?_⟩;refine s1.oneS J p λr v M' H' e L ro W=>?_;by_cases hi:i<env.length
 .rw[Ka hi]at W;obtain⟨M2,x2,Y,rep2,Z⟩:=ro.is L e J.same;obtain⟨M3,ρ3,x3,rep3,o3,_,_⟩:=Rep.frz r.al rep2;have O:=rep3.put (i:=i) (sl:=.val r.d r.fr) (T:=λ_=>False) (by rw[sQ];exact hi) (Is.frozen rep2 x3 o3 Z) (λ_ z=>z.elim) λ_ z=>z.elim;exact W _ M3 _ H' ⟨λa z=>x3 a (Y a z),λ_ _ q _=>q⟩ O
 .rw[J_ hi]at W;exact W.elim
theorem qv (i:Nat) (J:autoParam (X.N[i]?=some x) Oy._auto_1) (L:autoParam (Vis X.env.scope x) Ov._auto_1) (hd:autoParam ((x==("__debug__" : Str))=false) Ot._auto_1)
 (hc:autoParam ((x==("__classdict__" : Str))=false) Ot._auto_1):PD X E (.Name x pos) (ao i):=Gc (pv i J L hd hc)
end
end L3
namespace L2
open PySem PySem.Spec PyProof.Rows
section
variable {X:Cx}
end
end L2
namespace L3
open PySem PySem.Spec PyProof.Rows L2
section
variable {X:Cx}{E:XK}
end
section
variable {X:Cx}{E:XK}{hc hc2:Str}{Ch Ch2:Addr}{cs cs2:List Str}{np hpos np2 hpos2 pos epos p cpos:Pos}{b₀ c₀:Stmt}{suite suite2:List Stmt}{fsu fsu2:En->Res Fl}{k:Nat}{f:Addr}{fd:FuncData}{ps:List Str}{F:List D->Res R}{x:Str}{e:Expr}{es:List Expr}{fs:En->Res (List R)}
end
section
variable {X:Cx}{E:XK}
theorem mY (ns:List Int):∀ j,j<=ns.length->preSum (λi=>(ns[i]?).getD 0) j=(ns.take j).sum
 |0,_=>by simp[preSum]
 |j+1,h=>by have J:j<ns.length:=h;rw[preSum,mY ns j (Ng h),List.take_succ_eq_append_getElem J,List.sum_append];simp[J]
end
section
variable {X:Cx}{E:XK}{scope:Scope}{tg:Expr}{tN:List Str}{capN:List Str}{caps:List Nat}{iter:Expr}{pos lpos:Pos}{src:En->Res Src}
end
section
variable {X:Cx}{E:XK}
end
section
variable {X:Cx}{E:XK}{es:List Expr}{k:Nat}{qA:Pos}
end
section
variable {X:Cx}{E:XK}
def yi (a b:Str):Prop:=0<b.length/\a.length<=100000/\(Txt.split a b).length<=100000/\(Builtin.Str.partsBetween a (Builtin.Str.occurrences a b 0 a.length (a.length+1)) b.length).length<=100000
instance (a b:Str):Decidable (yi a b):=by unfold yi;infer_instance
end
section
variable {K:On}{H:Hp}{m:Addr->Prop}
end
section
variable {X:Cx}{E:XK}
end
open Classical in
section
variable {X:Cx}{E:XK}{g:Gd}{M:Addr->Prop}{ρ:Pr}{env:En}{σ:St}{H H2:Hp}{D:Ends}
theorem oR {kvs:List (Key×V)}(h:cS kvs k=none):cz kvs k y=kvs++[(k,y)]:=by unfold cz;rw[iQ,h,J_ (by simp)]
end
section
variable {P:Oo}{w:World}{K:On}{mg:Str->Option Oq}{base:Heap}
end
section
variable {X:Cx}{E:XK}
open Classical in
end
section
variable {X:Cx}{E:XK}{scope:Scope}{tg:Expr}{tN:List Str}{capN:List Str}{caps:List Nat}{iter elt:Expr}{pos:Pos}{src:En->Res Src}
end
section
variable {X:Cx}{E:XK}
end
noncomputable abbrev IP:=Int×Int
noncomputable def dp (l:List IP)(x:IP):List IP:=if x∈l then l else l++[x]
noncomputable def h1 (ts:List GB):List IP:=(ts.map λt=>(t.1,t.2.1)).foldl dp []
section
variable {H:Hp}{a:Addr}{ts:List GB}{A:IP->Addr}{x y z:Int}
end
section
variable {X:Cx}{E:XK}{tg:Expr}
end
end L3
namespace L2
open PySem PySem.Spec PySem.Calls PyProof.Rows
section
variable {X:Cx}
theorem zK:CallR X (.builtin "len") (λxs H Q=>∃(d:Addr)(kvs:List (Key×V))(u:HO),xs=[.ref d]/\(u=.dK kvs\/(u=.dT []/\kvs=[]))/\Rd H d u/\kvs.length<=sizeLine/\Q (.int kvs.length) H):=by
 intro pins s σ H xs us Q I r h;obtain⟨d,kvs,u,rfl,O,J,hz,q⟩:=h;obtain⟨w,rfl,W⟩:=fV r;cases W;have L:=J.ok I.hok;have key:(d==sysModules)=false/\∃ vs,KV kvs vs/\s.heap.DictOf (aE X.prog X.w) d vs:=by
  rcases O with rfl|⟨rfl,rfl⟩
  .obtain⟨z,hd,vs,rel,dd⟩:=L;exact⟨hd,vs,rel,dd⟩
  .obtain⟨hd,dd⟩:=su L;exact⟨hd,[],.nil,dd⟩
 obtain⟨hd,vs,rel,dd⟩:=key;refine call_len_dict hd dd (by rw[<- rel.length];rw[KL]at hz;lia) ?_;exact⟨.int kvs.length,H,I.tok _,⟨_,by rw[rel.length]⟩,q⟩
end
end L2
namespace L3
open PySem PySem.Spec PyProof.Rows L2
section
variable {X:Cx}{E:XK}
end
section
variable {H:Hp}{m:Addr->Prop}
end
section
variable {X:Cx}{E:XK}
end
noncomputable def DM (N:Nat):List R->Res R
 | [r]=>match r.d with
  | .lst ds=>match tupsI ds with
   |some ks=>if decide (ks.length<=N)&&ks.all (λk=>!k.isEmpty)&&decide ks.Nodup then .ok (.new ((dH ks).map mq) true) else .stuck
   |none=>.stuck
  |_=>.stuck
 |_=>.stuck
noncomputable def EL:List R->Res R:=DM 63
section
variable {X:Cx}{E:XK}
theorem uM (hN:N<=300) (L:ke X.prog X.w N):iV X E (.builtin "sorted") (DM N):=by
 refine⟨_,qJ hN L,λg M ρ env σ H Q rs vs O i p=>?_⟩
 match rs,i,p with
 | [r],i,p=>
  unfold DM at p;dsimp only at p;split at p
  .rename_i ds q;cases W:tupsI ds with
   |none=>rw[W]at p;exact p.elim
   |some ks=>
    rw[W]at p;dsimp only at p;split at p
    .rename_i hc;simp only[Ky,ME,Ld]at hc;obtain⟨⟨hl,Y⟩,nd⟩:=hc;obtain⟨v,w,rfl,i1,i2⟩:=i;cases i2;have i1:Is H (vmsk g M (bu [r]) ρ (cb [r])) r.d v:=i1;rw[q]at i1;obtain⟨a,vs,rfl,h1,h2⟩:=i1.rd;obtain⟨its,t1,J⟩:=h2.tupsI W;have Z:=mr t1;refine⟨a,vs,its,rfl,h1,t1,by have:=LQ List.length J;rw[J9]at this;lia,λx hx z=>?_,by rw[J];exact nd,λl ys hl hp hw=>?_⟩
     .have:x.1∈ks:=by rw[<- J];exact Kg.mpr ⟨x,hx,rfl⟩
      have:=Y _ this;rw[z]at this;simp at this
     .have ek:ys.map (·.1)=dH ks:=by refine kR _ _ (by rw[LV];exact hw) (om ks) λk=>?_;rw[dI,<- J,(hp.map (·.1)).mem_iff]
      rw[<- ek,KM]at p;exact p.new O hl (iY (λx hx=>Z x (hp.mem_iff.mp hx)))
    .exact p.elim
  .exact p.elim
 | [],_,p=>exact p.elim
 |_::_::_,_,p=>exact p.elim
theorem aL (h:PE X o (aA i)):PD X E (.Subscript o (.Constant (.int k) j pos') pos) (bA i (vC (.int k))):=Bp h aw (λ_ _=>rfl)
theorem pL:iV X E (.builtin "sorted") EL:=uM (by decide) xR
end
theorem cK {K KK:On}{mg:Str->Option Oq}{x:Str}{st:Stmt}{ps:List Str}{f:Addr}{oc:Oq}{od an:Option Addr}{osl:Array (Option Oq)}{kV doc pm cdv ct:Oq}(U:SubK K KK)
 (l:K.lookup f=some ⟨oc,od,.func (PySem.W.fnOf x x (defArgs st) (defBody st) (defScope st) .none kV doc pm an cdv ct),osl⟩) (c:PySem.W.codeIn K cdv x=true) (g:mg x=some (.ref f))
 (h:∀(kV doc pm:Oq)(an:Option Addr)(cdv ct:Oq)(us:List Oq),us.length=ps.length->bindArgs (PySem.W.fnOf x x (defArgs st) (defBody st) (defScope st) .none kV doc pm an cdv ct) ⟨us,[]⟩=pure (ps.zip us)) :
 Fn KK mg x st ps f (PySem.W.fnOf x x (defArgs st) (defBody st) (defScope st) .none kV doc pm an cdv ct):=
 have F:Fun KK x x st f _:=l_ (U.look _ _ l (λ_ _ z=>nomatch z)) (U.code c) (U.keep l)
 ⟨F,F.binds h,g⟩
section
variable {X:Cx}{E:XK}{CX:CXT}{k:Nat}{f:Addr}{fd:FuncData}{ps:List Str}{F:List D->Res R}{x:Str}{e:Expr}{es:List Expr}{fs:En->Res (List R)}{p pos:Pos}
theorem bo {st:Stmt}(G:FnOk X.prog X.w X.K X.mg X.base CX k f fd ps (qK X.mg ps.length F))(O:Room k X.A)(W:Gl X x)(h:Fn X.K X.mg x st ps f fd)(Y:eM CX X E)
 (ha:Ah X E (e::es) fs) (Z:∀ env rs,fs env=.ok rs->rs.length=ps.length) (J:autoParam ((x==("__debug__" : Str))=false) Ot._auto_1) (he:autoParam (starEach (e::es) X.env=(false,eval e X.env)::starEach es X.env) Oy._auto_1) (L:autoParam ((backTo pos (starEach es X.env)).any (·.1)=false) Oy._auto_1) :
 PD X E (.Call (.Name x p) (e::es) [] pos) (cA F fs):=Dt G O W h.gl h.fu.kp h.bi Y ha Z J he L
end
noncomputable def pM:List DK->List D->Option (List D)
 | [],[]=>some []
 | .inr k::r,x::ds=>(pM r ds).map (.tup [.tup (k.map kD),x]::·)
 |_,_=>none
theorem uN:∀{kvs:List (List Key×V)}{ds xs:List D},pM (kvs.map λp=>.inr p.1) ds=some xs->xs.length=kvs.length/\∀(i:Nat)(x:D),xs[i]?=some x->∃ p y,kvs[i]?=some p/\ds[i]?=some y/\x=.tup [.tup (p.1.map kD),y]
 | [],[],_,e=>by cases e;exact⟨rfl,λi x e=>by simp at e⟩
 | [],_::_,_,e=>by cases e
 |_::_,[],_,e=>by cases e
 |p::r,y::ds,xs,e=>by
  rw[Kc]at e;unfold pM at e;obtain⟨ys,e1,rfl⟩:=K1.mp e;obtain⟨l,f⟩:=uN e1;refine⟨by simp[l],λi x ex=>?_⟩;cases i with
  |zero=>simp at ex;subst ex;exact⟨p,y,rfl,rfl,rfl⟩
  |succ i=>obtain⟨J,L,a,b,c⟩:=f i x (by simpa using ex);exact⟨J,L,by simpa using a,by simpa using b,c⟩
theorem BM:∀(k:List Key),IsAll H m (k.map kD) (k.map kV)
 | []=>rfl
 |x::k=>⟨_,_,rfl,H_ x,BM k⟩
theorem mZ (hd:H d=some (.frz o u))(is:IsAll H m ds (kvs.map Prod.snd))(e0:pM (kvs.map λp=>.inr p.1) ds=some xs):Walk (HF d o u kvs) m H xs:=by
 obtain⟨l,f⟩:=uN e0;refine⟨λH' i x k e=>?_,λH' k=>⟨k d _ hd (.inr True.intro),by rw[l];exact J6 _⟩⟩;have hi:i<kvs.length:=by rw[<- l];exact(Ke.mp e).1
 refine⟨⟨k d _ hd (.inr True.intro),hi⟩,λy H'' z=>?_⟩;obtain⟨p,b,L,v,O,rfl,W,rfl,J⟩:=z;obtain⟨q,w,e1,e2,rfl⟩:=f i x e;rw[J]at e1;cases e1;have s:Same H' (aI H' p (.tup [.ref b,v])):=aK O;obtain⟨Z,ev,Y⟩:=(is.mono k λ_ _ _ z=>z:IsAll H' m ds (kvs.map Prod.snd)).get e2;rw[Ks,J]at ev;cases ev;exact⟨s,p,_,rfl,af,_,_,rfl,⟨b,_,rfl,s _ _ W,BM L⟩,_,_,rfl,Y.same s,rfl⟩
theorem wY (h:Is H m (.dic ks ds) v)(O:∀ k∈ks,∃ a,k=.inr a):∃ d kvs u,v=.ref d/\m d/\(u=.dT kvs\/(u=.dK []/\kvs=[]))/\Rd H d u/\ks=kvs.map (λp=>.inr p.1)/\IsAll H m ds (kvs.map Prod.snd):=by
 obtain⟨d,vs,rfl,⟨dat,J⟩,L⟩:=h;rcases dat with⟨kvs,e,rfl,rfl⟩|⟨kvs,e,rfl,rfl⟩
 .cases kvs with
  |nil=>exact⟨d,[],_,rfl,J,.inr ⟨rfl,rfl⟩,e,rfl,L⟩
  |cons p r=>obtain⟨a,W⟩:=O (.inl p.1) (by simp);cases W
 .exact⟨d,kvs,_,rfl,J,.inl rfl,e,rfl,L⟩
theorem uO:∀{ks:List DK}{ds xs:List D},pM ks ds=some xs->∀ k∈ks,∃ a,k=.inr a
 | [],_,_,_,k,h=>by cases h
 | .inr a::r,x::ds,_,e,k,h=>by
  unfold pM at e;obtain⟨y,e1,_⟩:=K1.mp e;rcases Kb.mp h with h|h
  .exact⟨a,h⟩
  .exact uO e1 k h
 | .inr _::_,[],_,e,_,_=>by cases e
 | .inl _::_,_,_,e,_,_=>by simp[pM]at e
noncomputable def uP (asg:D->Bool->En->Option En)(J:En->Res Fl)(env:En)(r:R):Res Fl:=match r.d with
 | .dic ks ds=>match pM ks ds with
  |some xs=>kT (io asg r.fr J xs (frz env r.al))
  |none=>.stuck
 |_=>.stuck
noncomputable def yj (f:En->Res R)(asg:D->Bool->En->Option En)(J:En->Res Fl):En->Res Fl:=λenv=>(f env).bind (uP asg J env)
section
variable {X:Cx}{E:XK}
theorem uQ (hp:PassesOwn (model X.prog X.w) X.A X.env X.xe)(hc:X.calm=true)
 (hl:PD X E l f) (hg:CI X ix (.Tuple es k0 qA) asg) (hb:sN X E body fb) (O:autoParam (attributeBase l "items" X.env (eval l X.env)=eval l X.env) Oy._auto_1) (W:autoParam ((apos.endLine==cpos.line)=true) Oy._auto_1)
 (hs:autoParam (∀ x,foldedSetIterable (.Call (.Attribute l "items" apos) [] [] cpos) X.env x=pure x) Ow._auto_1):Aj X E (.For (.Tuple es k0 qA) (.Call (.Attribute l "items" apos) [] [] cpos) body [] pos) (yj f asg fb):=by
 obtain⟨tl,p1,s1⟩:=hl;obtain⟨w,p2,s2⟩:=hg;obtain⟨tb,p3,s3⟩:=hb;refine⟨_,GC (gJ hp hc (zg p1 O W) p2 p3 hs),λg M ρ env σ H D Y p=>?_⟩;refine s1.oneS Y p λr v M0 H1 e1 rep0 ro p0=>?_;obtain⟨M1,x1,x1m,rep1,is1⟩:=ro.is rep0 e1 Y.same;obtain⟨M2,ρ2,x2,rep2,o2,_,_⟩:=Rep.frz r.al rep1;have Z:Is H1 (msk g M2 r.fr) r.d v:=Is.frozen rep1 x2 o2 is1;have J:=PostS.frz (⟨λa z=>x2 a (x1m a z),λ_ _ q _=>q⟩ : Frz M0 H1 M2 H1) p0;clear p0 p;unfold uP at J;cases qd:r.d with
 |dic ks ds=>
  rw[qd]at J Z;dsimp only at J;cases qk:pM ks ds with
  |none=>rw[qk]at J;exact J.elim
  |some xs=>
   rw[qk]at J;dsimp only at J;obtain⟨d,kvs,u,rfl,md,hu,L,rfl,eL⟩:=wY Z (uO qk);have md:M2 d:=md.1;have qz:ia u:=by rcases hu with rfl|⟨rfl,_⟩<;>exact True.intro
   refine⟨d,kvs,u,rfl,hu,?_⟩;rcases L with L|⟨o,L⟩
   .right;refine⟨L,λo hnf=>pE (E:=E) (g:=fM g d o u) (fr:=r.fr) (xs:=xs) s2 s3 (rep2.still L qz md) (mZ af ?_ qk) (wW rep2 L qz md hnf J)⟩;exact IsAll.of_each (P:=λ_ _=>True) (λx w=>Is.still L qz λ_ z=>msk_still.mpr z) eL
   .left;exact⟨o,L,pE (E:=E) (g:=g) (fr:=r.fr) (xs:=xs) s2 s3 rep2 (mZ L eL qk) (uL J)⟩
 |_=>rw[qd]at J;exact J.elim
end
noncomputable def dB:List R->Res R
 | [r,q]=>match r.d,q.d with
  | .int i,.int j=>if 0<j/\j<1073741824 then .ok (mkV (.tup [.int (i / j),.int (i % j)]) true []) else .stuck
  |_,_=>.stuck
 |_=>.stuck
section
variable {X:Cx}{E:XK}
theorem dt:iV X E (.builtin "divmod") dB:=by
 refine⟨_,t8,λg M ρ env σ H Q rs vs L i p=>?_⟩
 match rs,i,p with
 | [r,q],i,p=>
  obtain⟨v,_,rfl,i1,w,_,rfl,i2,e⟩:=i;cases e;unfold dB at p;dsimp only at p i1 i2;cases J:r.d with
  |int a=>
   cases O:q.d with
   |int b=>
    rw[J,O]at p;rw[J]at i1;rw[O]at i2;dsimp only at p;cases i1;cases i2;by_cases hc:0<b/\b<1073741824
    .rw[Ka hc]at p;exact⟨a,b,rfl,hc,λt W=>p.tup L W ⟨_,_,rfl,rfl,_,_,rfl,rfl,rfl⟩⟩
    .rw[J_ hc]at p;exact p.elim
   |_=>rw[J,O]at p;exact p.elim
  |_=>rw[J]at p;exact p.elim
 | [],_,p=>exact p.elim
 | [_],_,p=>exact p.elim
 |_::_::_::_,_,p=>exact p.elim
noncomputable def pN:List R->Res R
 | [r]=>match r.d with
  | .lst ds=>match lG ds with
   |some ns=>.ok (.val (.int ns.sum) true [])
   |none=>.stuck
  |_=>.stuck
 |_=>.stuck
theorem zL (hc:X.calm=true):CallR X (.builtin "sum") (λxs H Q=>∃(p:Addr)(ns:List Int),xs=[.ref p]/\SqL X.K H p (ns.map V.int)/\Q (.int ns.sum) H):=by
 intro pins s σ H xs us Q I r h;obtain⟨p,ns,rfl,hq,q⟩:=h;obtain⟨u,rfl,rx⟩:=fV r;cases rx;obtain⟨its,Z,pl,hz⟩:=I.list hq;have hh:X.A.in1.handled=none:=I.ok.hd hc;obtain⟨o,ho,_⟩:=pl.isList;have J:p<s.heap.objs.size:=Kk ho;have hl:=Z.length;rw[J9]at hl;refine call_sum_walkAnyS (MV pl.isList ?_);refine⟨s.heap.objs.size,_,_,_,_,_,_,λi=>(ns[i]?).getD 0,rfl,(Walks.list hh s.heap.objs.size p (Kt J) its.toArray).toS,⟨⟨_,Kh _ rfl,rfl,rfl⟩,?_⟩,?_,?_,λs' t' hm=>?_⟩
 .exact pl.isList.at λo e=>J5 _ e
 .intro b hb;rw[Ms];rcases Kb.mp hb with e|hb
  .rw[e];exact Mo _
  .rcases Kb.mp hb with e|hb
   .rw[e];exact MB J
   .cases hb
 .intro i v O;have O:its[i]?=some v:=by simpa using O
  have hi:i<its.length:=(Ke.mp O).1;have hb:i<ns.length:=by lia
  obtain⟨u',hu,ru⟩:=Z.get (i:=i) (x:=.int ns[i]) (by simp[hb]);rw[O]at hu;cases hu;obtain⟨t,rfl⟩:=ru;exact⟨t,by simp[hb]⟩
 .have e:preSum (λi=>(ns[i]?).getD 0) its.toArray.size=ns.sum:=by rw[Kf,<- hl,mY ns ns.length (J6 _),List.take_length]
  rw[e];refine⟨.int _,H,?_,⟨_,rfl⟩,q⟩;obtain⟨h',g',d',W,Y⟩:=s';obtain rfl:g'=s.gens:=hm.gens;obtain rfl:d'=s.drawn:=hm.drawn;obtain rfl:Y=s.os:=hm.os;have I1:L2.Inv X pins σ H { s with heap:=s.heap.push { cls:=.type "list_iterator",data:=.fields #[.ref p,.int 0 0] } }:=I.kept (t':=s.toks) λb o e=>J5 _ e;have L:=I.fpOk (H':=H) (J6 s.heap.objs.size) (I.hok.fresh (J6 _));have I2:=I1.turned (h':=h') (t':=W) (it:=s.heap.objs.size) (λb o hb e=>hm.heap b o (by simpa using hb) e) L.1 L.2.1 L.2.2.2.1 L.2.2.2.2.1 L.2.2.2.2.2;exact I2
theorem DN (hc:X.calm=true):iV X E (.builtin "sum") pN:=by
 refine⟨_,zL hc,λg M ρ env σ H Q rs vs J i p=>?_⟩
 match rs,i,p with
 | [r],i,p=>
  unfold pN at p;dsimp only at p;obtain⟨v,w,rfl,i1,i2⟩:=i;cases i2;have i1:Is H (vmsk g M (bu [r]) ρ (cb [r])) r.d v:=i1;cases q:r.d with
  |lst ds=>
   rw[q]at p i1;dsimp only at p;obtain⟨a,ws,rfl,h1,h2⟩:=i1.rd;cases L:lG ds with
   |none=>rw[L]at p;exact p.elim
   |some ns=>
    rw[L]at p;dsimp only at p;have O:ws=ns.map V.int:=by rw[h2.ints L];unfold iK;rw[KM];rfl
    rw[O]at h1;exact⟨a,ns,rfl,.inl h1,p _ M H (Ext.refl _ _) J rfl⟩
  |_=>rw[q]at p;exact p.elim
 | [],_,p=>exact p.elim
 |_::_::_,_,p=>exact p.elim
end
end L3
namespace Pz
section
variable {κ α:Type}[DecidableEq κ]
noncomputable abbrev MD (κ α:Type):=List (κ×List α)
noncomputable def MD.get (d:MD κ α)(k:κ):List α:=((d.find? λx=>decide (x.1=k)).map (·.2)).getD []
noncomputable def MD.has (d:MD κ α)(k:κ):Bool:=d.any λx=>decide (x.1=k)
noncomputable def MD.app (d:MD κ α)(k:κ)(v:α):MD κ α:=if d.has k then d.map (λx=>if x.1=k then (x.1,x.2++[v]) else x) else d++[(k,[v])]
noncomputable def MD.drop (d:MD κ α)(k:κ):MD κ α:=d.filter λx=>decide (x.1≠k)
noncomputable def MD.flat (d:MD κ α):List α:=d.flatMap (·.2)
noncomputable abbrev MD.keys (d:MD κ α):List κ:=d.map (·.1)
structure MD.Ok (d:MD κ α):Prop where
 nk:d.keys.Nodup
 ne:∀ x∈d,x.2≠[]
theorem bB (x:κ×List α)(d:MD κ α)(k:κ):MD.get (x::d) k=if x.1=k then x.2 else MD.get d k:=by
 unfold MD.get;rw[LI];by_cases h:x.1=k
 .rw[Ki h,Ka h];rfl
 .rw[Kv h,J_ h]
theorem has_iff {d:MD κ α}{k:κ}:d.has k=true↔k∈d.keys:=by unfold MD.has;rw[Og,Kg];exact⟨λ⟨x,h1,h2⟩=>⟨x,h1,K7 h2⟩,λ⟨x,h1,h2⟩=>⟨x,h1,Ki h2⟩⟩
theorem BN {d:MD κ α}{k:κ}(h:k∉d.keys):d.get k=[]:=by
 induction d with
 |nil=>rfl
 |cons x r J=>rw[bB,J_ (λe=>h (by simp[MD.keys,<- e]))];exact J λq=>h (J8 _ q)
theorem DO {d:MD κ α}(nd:d.keys.Nodup){k:κ}{l:List α}(h:(k,l)∈d):d.get k=l:=by
 induction d with
 |nil=>cases h
 |cons x r L=>
  rw[bB];have J:=KB.mp nd;rcases Kb.mp h with e|h
  .rw[<- e,Ka rfl]
  .rw[J_ (λ(e:x.1=k)=>J.1 (by show x.1∈_;rw[e];exact Kg.mpr ⟨_,h,rfl⟩)),L J.2 h]
theorem tf {d:MD κ α}{k:κ}{v:α}(h:v∈d.get k):(k,d.get k)∈d:=by
 induction d with
 |nil=>cases h
 |cons x r J=>
  rw[bB]at h ⊢;by_cases e:x.1=k
  .rw[Ka e];subst e;exact Kj
  .rw[J_ e]at h ⊢;exact J8 _ (J h)
theorem ti {d:MD κ α}{k:κ}{v:α}(h:k∉d.keys):d.map (λx=>if x.1=k then (x.1,x.2++[v]) else x)=d:=by
 conv=>rhs;rw[<- List.map_id d]
 exact Ln λx J=>J_ λe=>h (Kg.mpr ⟨x,J,e⟩)
theorem BO (d:MD κ α)(k:κ)(v:α):(d.app k v).keys=if k∈d.keys then d.keys else d.keys++[k]:=by
 unfold MD.app;by_cases h:k∈d.keys
 .rw[Ka (has_iff.mpr h),Ka h];unfold MD.keys;rw[KM];exact Ln λx _=>by simp only[Function.comp];split<;>rfl
 .rw[J_ (λq=>h (has_iff.mp q)),J_ h];unfold MD.keys;rw[Ll];rfl
theorem pO {d:MD κ α}(O:d.Ok)(k:κ)(v:α):(d.app k v).Ok:=by
 constructor
 .rw[BO];split
  .exact O.nk
  .rename_i h;exact Mi.mpr ⟨O.nk,by simp,λa ha b L e=>by rw[Km]at L;subst L;subst e;exact h ha⟩
 .intro x J;unfold MD.app at J;split at J
  .obtain⟨y,W,rfl⟩:=Kg.mp J;split
   .simp
   .exact O.ne y W
  .rcases Kr.mp J with h|h
   .exact O.ne x h
   .rw[Km]at h;subst h;simp
theorem oa {d:MD κ α}{k:κ}{l:List α}(h:k∉d.keys):MD.get (d++[(k,l)]) k=l:=by
 induction d with
 |nil=>rw[LM,bB,Ka rfl]
 |cons x r J=>rw[LD,bB,J_ (λe=>h (by simp[MD.keys,<- e]))];exact J λq=>h (J8 _ q)
theorem qP {d:MD κ α}{k J:κ}{l:List α}(h:k≠J):MD.get (d++[(k,l)]) J=d.get J:=by
 induction d with
 |nil=>rw[LM,bB,J_ h]
 |cons x r L=>rw[LD,bB,bB,L]
theorem tj {d:MD κ α}{k:κ}{v:α}(h:k∈d.keys):MD.get (d.map (λx=>if x.1=k then (x.1,x.2++[v]) else x)) k=d.get k++[v]:=by
 induction d with
 |nil=>cases h
 |cons x r J=>
  rw[Kc,bB,bB];by_cases e:x.1=k
  .rw[Ka e,Ka (show x.1=k from e),Ka e]
  .rw[J_ e,J_ e,J_ e];rcases Kb.mp h with q|q
   .exact(e q.symm).elim
   .exact J q
theorem wZ {d:MD κ α}{k J:κ}{v:α}(h:k≠J):MD.get (d.map (λx=>if x.1=k then (x.1,x.2++[v]) else x)) J=d.get J:=by
 induction d with
 |nil=>rfl
 |cons x r L=>
  rw[Kc,bB,bB,L];by_cases e:x.1=k
  .have e2:¬ x.1=J:=λz=>h (e.symm.trans z);rw[Ka e,J_ e2,J_ (show ¬ (x.1,x.2++[v]).1=J from e2)]
  .rw[J_ e]
theorem tp (d:MD κ α)(k:κ)(v:α)(J:κ):(d.app k v).get J=if k=J then d.get k++[v] else d.get J:=by
 unfold MD.app;by_cases h:k∈d.keys
 .rw[Ka (has_iff.mpr h)];by_cases e:k=J
  .subst e;rw[Ka rfl,tj h]
  .rw[J_ e,wZ e]
 .rw[J_ (λq=>h (has_iff.mp q))];by_cases e:k=J
  .subst e;rw[Ka rfl,oa h,BN h];rfl
  .rw[J_ e,qP e]
theorem fO {d:MD κ α}(nd:d.keys.Nodup)(k:κ)(v:α):(d.app k v).flat.Perm (v::d.flat):=by
 unfold MD.app;by_cases h:k∈d.keys
 .rw[Ka (has_iff.mpr h)];induction d with
  |nil=>cases h
  |cons x r L=>
   have J:=KB.mp nd;unfold MD.flat at L ⊢;rw[Kc,Ml,Ml];by_cases e:x.1=k
   .subst e;rw[Ka rfl,ti J.1];show((x.2++[v])++_).Perm _;rw[Mj];exact Oh
   .rw[J_ e];rcases Kb.mp h with q|q
    .exact(e q.symm).elim
    .exact((Mh _).append (L J.2 q)).trans Oh
 .rw[J_ (λq=>h (has_iff.mp q))];unfold MD.flat;rw[List.flatMap_append];show(_++([v]++[])).Perm _;rw[KW];exact List.perm_append_singleton _ _
theorem zM (d:MD κ α)(k:κ):(d.drop k).keys=d.keys.filter λx=>decide (x≠k):=by unfold MD.drop MD.keys;rw[List.filter_map];rfl
theorem yk {d:MD κ α}(O:d.Ok)(k:κ):(d.drop k).Ok:=⟨by rw[zM];exact List.Pairwise.filter _ O.nk,λx J=>O.ne x (Lc.mp J).1⟩
theorem zN {d:MD κ α}{k:κ}(h:k∉d.keys):d.drop k=d:=by unfold MD.drop;exact List.filter_eq_self.mpr λx J=>Ki λe=>h (Kg.mpr ⟨x,J,e⟩)
theorem mv {d:MD κ α}(nd:d.keys.Nodup)(k:κ):d.flat.Perm (d.get k++(d.drop k).flat):=by
 induction d with
 |nil=>exact Mh _
 |cons x r L=>
  have J:=KB.mp nd;rw[bB];by_cases e:x.1=k
  .subst e;rw[Ka rfl];have:MD.drop (x::r) x.1=r:=by unfold MD.drop;rw[Nt (by simp)];exact zN J.1
   rw[this];exact Mh _
  .rw[J_ e];have:MD.drop (x::r) k=x::MD.drop r k:=by unfold MD.drop;rw[Nu (by simpa using e)]
   rw[this];unfold MD.flat at L ⊢;rw[Ml,Ml];refine((Mh _).append (L J.2)).trans ?_;rw[<- Mj,<- Mj];exact List.perm_append_comm.append_right _
theorem mem_flat {d:MD κ α}{v:α}:v∈d.flat↔∃ x∈d,v∈x.2:=List.mem_flatMap
theorem lI (d:MD κ α){k:κ}{v:α}(h:v∈d.get k):v∈d.flat:=mem_flat.mpr ⟨_,tf h,h⟩
theorem oq (d:MD κ α)(k:κ):(d.get k).length<=d.flat.length:=by
 induction d with
 |nil=>exact J6 _
 |cons x r J=>rw[bB];unfold MD.flat at J ⊢;rw[Ml,Kp];split<;>lia
theorem iq {d:MD κ α}(O:d.Ok):d.length<=d.flat.length:=by
 have:∀ d:MD κ α,(∀ x∈d,x.2≠[])->d.length<=d.flat.length:=by
  intro d;induction d with
  |nil=>intro _;exact J6 _
  |cons x r J=>intro h;have h1:=J λy L=>h y (J8 _ L);have h2:0<x.2.length:=N1.mpr (h x Kj);unfold MD.flat at h1 ⊢;rw[Ml,Kp,Kl];lia
 exact this d O.ne
end
end Pz
namespace Pz
noncomputable def lo:List Int->Int
 | []=>0
 |x::r=>r.foldl (λa b=>if b<a then b else a) x
theorem w6:∀(r:List Int)(x:Int),r.foldl (λa b=>if b<a then b else a) x∈x::r/\∀ y∈x::r,r.foldl (λa b=>if b<a then b else a) x<=y
 | [],x=>⟨Kj,λy h=>by rw[Km]at h;subst h;exact Od _⟩
 |z::r,x=>by
  obtain⟨h1,h2⟩:=w6 r (if z<x then z else x);rw[Mn];constructor
  .rcases Kb.mp h1 with e|e
   .rw[e];split
    .exact J8 _ Kj
    .exact Kj
   .exact J8 _ (J8 _ e)
  .intro y hy;have J:=h2 _ Kj;have L:(if z<x then z else x)<=z/\(if z<x then z else x)<=x:=by split<;>lia
   rcases Kb.mp hy with e|hy
   .subst e;lia
   .rcases Kb.mp hy with e|hy
    .subst e;lia
    .exact h2 y (J8 _ hy)
theorem BP (h:l≠[]):lo l∈l:=by
 cases l with
 |nil=>exact(h rfl).elim
 |cons x r=>exact(w6 r x).1
theorem BQ (h:y∈l):lo l<=y:=by
 cases l with
 |nil=>cases h
 |cons x r=>exact(w6 r x).2 y h
structure Pile (pile:Int->Int->Int):Prop where
 nn:∀{p l:Int},0<=p->0<=l->0<=pile p l
 ch:∀{p l:Int},0<=p->0<=l->∀ k:Nat,pile p l<=k↔p / 2 ^ k=l / 2 ^ k
section
variable {pile:Int->Int->Int}(P:Pile pile){p l m r:Int}
include P
theorem Pile.zero (J:0<=p)(L:0<=l):pile p l=0↔p=l:=by have h1:=P.nn J L;have h2:=P.ch J L 0;rw[Int.pow_zero,Int.ediv_one,Int.ediv_one]at h2;rw[<- h2];constructor<;>intro h<;>lia
theorem Pile.lt (J:0<=l)(W:l<=p)(L:l<=r)(h:pile p l<pile r l):p<r:=by
 have O:0<=p:=MG J W;have r0:0<=r:=MG J L;obtain⟨k,Y⟩:=LN (P.nn O J);have e1:=(P.ch O J k).mp (by lia);have e2:¬ r / 2 ^ k=l / 2 ^ k:=λe=>by have:=(P.ch r0 J k).mpr e;lia
 have pos:(0:Int)<2 ^ k:=Int.pow_pos (by decide);have e3:=Int.ediv_le_ediv pos L;refine Int.not_le.mp λhc=>?_;have e4:=Int.ediv_le_ediv pos hc;lia
theorem Pile.same (J:0<=l)(hm:l<=m)(L:l<=r)(h:pile m l<pile r l):pile r m=pile r l:=by
 have m0:0<=m:=MG J hm;have r0:0<=r:=MG J L;have key:∀ j:Nat,pile r m<=j↔pile r l<=j:=by
  intro j;rw[P.ch r0 m0,P.ch r0 J];by_cases O:pile m l<=j
  .rw[(P.ch m0 J j).mp O]
  .have hd:∀{a b:Int}{i:Nat},a / 2 ^ j=b / 2 ^ j->a / 2 ^ (j+i)=b / 2 ^ (j+i):=by intro a b i e;rw[Int.pow_add,<- Int.ediv_ediv_of_nonneg (NM (Int.pow_pos (by decide))),<- Int.ediv_ediv_of_nonneg (NM (Int.pow_pos (by decide))),e]
   obtain⟨k,W⟩:=LN (P.nn m0 J);obtain⟨i,rfl⟩ : ∃ i,k=j+i:=⟨k-j,by lia⟩;constructor<;>intro e<;>exfalso
   .have e1:=hd (i:=i) e;rw[(P.ch m0 J (j+i)).mp (by lia)]at e1;have:=(P.ch r0 J (j+i)).mpr e1;lia
   .have:=(P.ch r0 J j).mpr e;lia
 obtain⟨a,ha⟩:=LN (P.nn r0 m0);obtain⟨b,Y⟩:=LN (P.nn r0 J);have h1:=key a;have h2:=key b;lia
end
section
variable {α:Type}{pile:Int->Int->Int}
noncomputable abbrev Q (α:Type):=MD Int (Int×α)
structure QOk (pile:Int->Int->Int) (last:Int) (d:Q α):Prop where
 ok:d.Ok
 l0:0<=last
 at_:∀ x∈d,∀ y∈x.2,x.1=pile y.1 last/\last<=y.1
theorem QOk.add (h:QOk pile last d)(a:α)(J:last<=p):QOk pile last (d.app (pile p last) (p,a)):=by
 refine⟨pO h.ok _ _,h.l0,λx hx y hy=>?_⟩;unfold MD.app at hx;split at hx
 .obtain⟨z,hz,rfl⟩:=Kg.mp hx;by_cases e:z.1=pile p last
  .rw[Ka e]at hy ⊢;rcases Kr.mp hy with hy|hy
   .exact h.at_ z hz y hy
   .rw[Km]at hy;subst hy;exact⟨e,J⟩
  .rw[J_ e]at hy ⊢;exact h.at_ z hz y hy
 .rcases Kr.mp hx with hx|hx
  .exact h.at_ x hx y hy
  .rw[Km]at hx;subst hx;rw[Km]at hy;subst hy;exact⟨rfl,J⟩
noncomputable def addAll (pile:Int->Int->Int)(last:Int)(d:Q α)(l:List (Int×α)):Q α:=l.foldl (λd x=>d.app (pile x.1 last) x) d
theorem QOk.addAll:∀{l:List (Int×α)}{d:Q α},QOk pile last d->(∀ x∈l,last<=x.1)->QOk pile last (addAll pile last d l)
 | [],d,h,_=>h
 |x::l,d,h,J=>QOk.addAll (l:=l) (h.add x.2 (J x Kj)) λy L=>J y (J8 _ L)
theorem iZ:∀{l:List (Int×α)}{d:Q α},d.Ok->(addAll pile last d l).flat.Perm (l++d.flat)
 | [],d,h=>Mh _
 |x::l,d,h=>(iZ (l:=l) (pO h _ _)).trans (((Mh _).append (fO h.nk _ _)).trans Oh)
noncomputable def lowK (d:Q α):Int:=lo d.keys
noncomputable def lowP (d:Q α):Int:=lo ((d.get (lowK d)).map (·.1))
noncomputable def mid (pile:Int->Int->Int)(d:Q α):Q α:=addAll pile (lowP d) (d.drop (lowK d)) (d.get (lowK d))
noncomputable def taken (pile:Int->Int->Int)(d:Q α):List (Int×α):=(mid pile d).get 0
noncomputable def left (pile:Int->Int->Int)(d:Q α):Q α:=(mid pile d).drop 0
structure Took (pile:Int->Int->Int) (last:Int) (d:Q α):Prop where
 ge:last<=lowP d
 ok:QOk pile (lowP d) (left pile d)
 eq:∀ x∈taken pile d,x.1=lowP d
 lt:∀ x∈(left pile d).flat,lowP d<x.1
 pm:d.flat.Perm (taken pile d++(left pile d).flat)
 ne:taken pile d≠[]
 k1:lowK d∈d.keys
 k2:d.get (lowK d)≠[]
 k3:0∈(mid pile d).keys
 o1:QOk pile (lowP d) (d.drop (lowK d))
theorem took (P:Pile pile)(h:QOk pile last d)(hne:d≠[]):Took pile last d:=by
 have k1:lowK d∈d.keys:=BP (by simpa[MD.keys] using hne);obtain⟨x0,O,Z⟩:=Kg.mp k1;have g0:d.get (lowK d)=x0.2:=DO h.ok.nk (by rw[<- Z];exact O);have k2:d.get (lowK d)≠[]:=by rw[g0];exact h.ok.ne x0 O
 have hm:lowP d∈(d.get (lowK d)).map (·.1):=BP (by simpa using k2);obtain⟨y0,W,ey0⟩:=Kg.mp hm;have bX:∀ y∈d.get (lowK d),lowK d=pile y.1 last/\last<=y.1:=λy L=>by rw[g0]at L;have:=h.at_ x0 O y L;rw[Z]at this;exact this
 have hl:last<=lowP d:=by rw[<- ey0];exact(bX y0 W).2
 have l0:0<=lowP d:=MG h.l0 hl;have kP:pile (lowP d) last=lowK d:=by rw[<- ey0];exact(bX y0 W).1.symm
 have minP:∀ y∈d.get (lowK d),lowP d<=y.1:=λy L=>BQ (Kg.mpr ⟨y,L,rfl⟩);have oth:∀ x∈d.drop (lowK d),∀ y∈x.2,x.1=pile y.1 (lowP d)/\lowP d<y.1:=λx J y L=>by
  obtain⟨J,hn⟩:=Lc.mp J;have hn:x.1≠lowK d:=K7 hn;have hle:lowK d<=x.1:=BQ (Kg.mpr ⟨x,J,rfl⟩);obtain⟨e1,e2⟩:=h.at_ x J y L;have hlt:pile (lowP d) last<pile y.1 last:=by rw[kP,<- e1];lia
  exact⟨e1.trans (P.same h.l0 hl e2 hlt).symm,P.lt h.l0 hl e2 hlt⟩
 have o1:QOk pile (lowP d) (d.drop (lowK d)):=⟨yk h.ok _,l0,λx J y L=>⟨(oth x J y L).1,NM (oth x J y L).2⟩⟩;have o2:QOk pile (lowP d) (mid pile d):=o1.addAll minP;have pm1:d.flat.Perm (mid pile d).flat:=(mv h.ok.nk _).trans (iZ o1.ok).symm;have pm2:(mid pile d).flat.Perm (taken pile d++(left pile d).flat):=mv o2.ok.nk 0;have eq:∀ x∈taken pile d,x.1=lowP d:=λx J=>by have:=o2.at_ _ (tf J) x J;exact(P.zero (MG l0 this.2) l0).mp this.1.symm
 have lt:∀ x∈(left pile d).flat,lowP d<x.1:=λx J=>by obtain⟨y,L,J⟩:=mem_flat.mp J;obtain⟨L,hn⟩:=Lc.mp L;have hn:y.1≠0:=K7 hn;obtain⟨e1,e2⟩:=o2.at_ y L x J;have:¬ x.1=lowP d:=λe=>hn (e1.trans ((P.zero (MG l0 e2) l0).mpr e));lia
 have Y:y0∈taken pile d:=by
  have h1:y0∈d.flat:=lI d W;rcases Kr.mp ((pm1.trans pm2).mem_iff.mp h1) with h|h
  .exact h
  .have:=lt _ h;lia
 exact⟨hl,⟨yk o2.ok _,l0,λx J=>o2.at_ x (Lc.mp J).1⟩,eq,lt,pm1.trans pm2,(λe=>by rw[e]at Y;cases Y),k1,k2,Kg.mpr ⟨_,tf Y,rfl⟩,o1⟩
end
end Pz
namespace Pz
noncomputable abbrev Arr:=Int×Int×Int
noncomputable abbrev Rule:=Int×Int×Int×List Int
noncomputable abbrev ot:=Int×Option Int×Option Int
noncomputable abbrev TD:=List (Arr×ot)
noncomputable def tget (t:TD)(a:Arr):Option ot:=(t.find? λx=>decide (x.1=a)).map (·.2)
noncomputable def tput (t:TD)(a:Arr)(v:ot):TD:=if (tget t a).isSome then t.map (λx=>if x.1=a then (x.1,v) else x) else t++[(a,v)]
structure PS where
 told:TD
 last:Int
 piles:Q Arr
 settled:MD (Int×Int) (Int×Int)
 lacking:MD (Int×Int) (Int×Rule×Int)
noncomputable abbrev RS:=MD (Int×Int) (Int×Rule)
section
variable (pile:Int->Int->Int)(rs:RS)
noncomputable def g9 (S:PS)(a:Arr)(p:Int):Bool:=match tget S.told a with
 |none=>true
 |some v=>decide (p<v.1)
noncomputable def kU (S:PS)(a:Arr)(p:Int)(n m:Option Int):PS:={ S with told:=tput S.told a (p,n,m),piles:=S.piles.app (pile p S.last) (p,a) }
noncomputable def offer (S:PS)(a:Arr)(p:Int)(n m:Option Int):PS:=if g9 S a p then kU pile S a p n m else S
noncomputable def nth1 (l:List Int):Int:=l[1]?.getD 0
noncomputable def lack (S:PS)(num:Int)(r:Rule)(mid J:Int):PS:={ S with lacking:=S.lacking.app (mid,nth1 r.2.2.2) (num,r,J) }
noncomputable def first (S:PS)(num:Int)(r:Rule)(mid J:Int):PS:=(S.settled.get (mid,nth1 r.2.2.2)).foldl (λS x=>offer pile S (r.1,r.2.1,x.1) (J+x.2+1) (some num) (some mid)) (lack S num r mid J)
noncomputable def note (S:PS)(a:Arr)(J:Int):PS:={ S with settled:=S.settled.app (a.1,a.2.1) (a.2.2,J) }
noncomputable def lJ (a:Arr)(J:Int)(S:PS)(x:Int×Rule×Int):PS:=offer pile S (x.2.1.1,x.2.1.2.1,a.2.2) (x.2.2+J+1) (some x.1) (some a.1)
noncomputable def cj (a:Arr)(J:Int)(S:PS)(x:Int×Rule):PS:=if x.2.2.2.2.length=1 then offer pile S (x.2.1,x.2.2.1,a.2.2) (J+1) (some x.1) none else first pile S x.1 x.2 a.2.2 J
noncomputable def settle (S:PS)(a:Arr)(J:Int):PS:=(rs.get (a.1,a.2.1)).foldl (cj pile a J) ((S.lacking.get (a.1,a.2.1)).foldl (lJ pile a J) (note S a J))
noncomputable def GD (S:PS)(x:Int×Arr):Bool:=match tget S.told x.2 with
 |none=>false
 |some v=>decide (v.1=x.1)
noncomputable def turn (S:PS)(x:Int×Arr):PS:=if GD S x then settle pile rs S x.2 x.1 else S
noncomputable def batch (S:PS)(l:List (Int×Arr)):PS:=l.foldl (turn pile rs) S
noncomputable def take (S:PS):PS:={ S with last:=lowP S.piles,piles:=left pile S.piles }
end
noncomputable def L:Nat:=16000000
structure Fit (S:PS):Prop where
 t:S.told.length<L
 p:S.piles.length<L
 pf:S.piles.flat.length<L
 s:S.settled.length<L
 sf:S.settled.flat.length<L
 l:S.lacking.length<L
 lf:S.lacking.flat.length<L
inductive Loop (pile:Int->Int->Int) (rs:RS):Nat->PS->PS->Prop where
 |done {S:PS}:S.piles=[]->Loop pile rs 0 S S
 |step {n:Nat} {S T:PS}:S.piles≠[]->QOk pile S.last S.piles->(∀ x∈taken pile S.piles,tget S.told x.2≠none)->Fit S->Fit (batch pile rs (take pile S) (taken pile S.piles))->
  Loop pile rs n (batch pile rs (take pile S) (taken pile S.piles)) T->Loop pile rs (n+1) S T
theorem bD (x:Arr×ot)(t:TD)(a:Arr):tget (x::t) a=if x.1=a then some x.2 else tget t a:=by
 unfold tget;rw[LI];by_cases h:x.1=a
 .rw[Ki h,Ka h];rfl
 .rw[Kv h,J_ h]
theorem tget_none:tget t a=none↔a∉t.map (·.1):=by
 induction t with
 |nil=>simp[tget]
 |cons x r J=>
  rw[bD,Kc,Kb];by_cases h:x.1=a
  .rw[Ka h];simp[h]
  .rw[J_ h,J];exact⟨λk=>not_or.mpr ⟨λe=>h e.symm,k⟩,λk=>(not_or.mp k).2⟩
theorem uR (h:tget t a=some v):(a,v)∈t:=by
 induction t with
 |nil=>cases h
 |cons x r J=>
  rw[bD]at h;by_cases e:x.1=a
  .rw[Ka e]at h;cases h;subst e;exact Kj
  .rw[J_ e]at h;exact J8 _ (J h)
theorem pP (nd:(t.map (·.1)).Nodup)(h:(a,v)∈t):tget t a=some v:=by
 induction t with
 |nil=>cases h
 |cons x r L=>
  rw[bD];have J:=KB.mp nd;rcases Kb.mp h with e|h
  .rw[<- e,Ka rfl]
  .have:¬ x.1=a:=λe=>J.1 (by show x.1∈_;rw[e];exact Kg.mpr ⟨_,h,rfl⟩);rw[J_ this,L J.2 h]
theorem zO (t:TD)(a:Arr)(v:ot):(tput t a v).map (·.1)=if a∈t.map (·.1) then t.map (·.1) else t.map (·.1)++[a]:=by
 unfold tput;cases h:tget t a with
 |none=>rw[J_ (by simp),J_ (tget_none.mp h),Ll];rfl
 |some w=>have:a∈t.map (·.1):=Kg.mpr ⟨_,uR h,rfl⟩;rw[Ka (by simp),Ka this,KM];exact Ln λx _=>by simp only[Function.comp];split<;>rfl
theorem DP (h:(t.map (·.1)).Nodup)(a:Arr)(v:ot):((tput t a v).map (·.1)).Nodup:=by
 rw[zO];split
 .exact h
 .rename_i q;exact Mi.mpr ⟨h,by simp,λx L b J e=>by rw[Km]at J;subst J;subst e;exact q L⟩
theorem uS (t:TD)(a:Arr)(v:ot):t.length<=(tput t a v).length/\(tput t a v).length<=t.length+1:=by
 unfold tput;split
 .rw[J9];lia
 .rw[Kp];simp
theorem g_ (t:TD)(a:Arr)(v:ot)(b:Arr):tget (tput t a v) b=if a=b then some v else tget t b:=by
 unfold tput;cases h:tget t a with
 |none=>
  rw[J_ (by simp)];have hn:=tget_none.mp h;clear h;induction t with
  |nil=>rw[LM,bD]
  |cons x r J=>
   rw[LD,bD,bD,J λk=>hn (J8 _ k)];by_cases e:x.1=b
   .have:¬ a=b:=λz=>hn (by rw[z,<- e];exact Kj);rw[Ka e,J_ this,Ka e]
   .rw[J_ e,J_ e]
 |some w=>
  rw[Ka (by simp)];have hm:a∈t.map (·.1):=Kg.mpr ⟨_,uR h,rfl⟩;clear h;by_cases e:a=b
  .subst e;rw[Ka rfl];induction t with
   |nil=>cases hm
   |cons x r J=>
    rw[Kc,bD];by_cases e:x.1=a
    .rw[Ka e,Ka (show(x.1,v).1=a from e)]
    .rw[J_ e,J_ e];rcases Kb.mp hm with q|q
     .exact(e q.symm).elim
     .exact J q
  .rw[J_ e];clear hm;induction t with
   |nil=>rfl
   |cons x r J=>
    rw[Kc,bD,bD,J];by_cases e2:x.1=a
    .have e3:¬ x.1=b:=λz=>e (e2.symm.trans z);rw[Ka e2,J_ e3,J_ (show ¬ (x.1,v).1=b from e3)]
    .rw[J_ e2]
structure Grow (S T:PS):Prop where
 t:S.told.length<=T.told.length
 p:S.piles.length<=T.piles.length
 pf:S.piles.flat.length<=T.piles.flat.length
 s:S.settled.length<=T.settled.length
 sf:S.settled.flat.length<=T.settled.flat.length
 l:S.lacking.length<=T.lacking.length
 lf:S.lacking.flat.length<=T.lacking.flat.length
theorem Grow.refl (S:PS):Grow S S:=⟨J6 _,J6 _,J6 _,J6 _,J6 _,J6 _,J6 _⟩
theorem Grow.trans (a:Grow S T)(b:Grow T U):Grow S U:=⟨Ku a.t b.t,Ku a.p b.p,Ku a.pf b.pf,Ku a.s b.s,Ku a.sf b.sf,Ku a.l b.l,Ku a.lf b.lf⟩
theorem Grow.fit (a:Grow S T)(h:Fit T):Fit S:=⟨KO a.t h.t,KO a.p h.p,KO a.pf h.pf,KO a.s h.s,KO a.sf h.sf,KO a.l h.l,KO a.lf h.lf⟩
theorem fg {κ α:Type}[DecidableEq κ](d:MD κ α)(k:κ)(v:α):d.length<=(d.app k v).length/\d.flat.length<=(d.app k v).flat.length:=by
 unfold MD.app;split
 .rw[J9];refine⟨J6 _,?_⟩;unfold MD.flat;rw[Nf,Nf,KM];induction d with
  |nil=>exact J6 _
  |cons x r J=>
   rename_i h;clear h;rw[Kc,Kc,NU,NU];refine Nat.add_le_add ?_ ?_
   .simp only[Function.comp];split<;>simp
   .clear J;induction r with
    |nil=>exact J6 _
    |cons y r J=>rw[Kc,Kc,NU,NU];exact Nat.add_le_add (by simp only[Function.comp];split<;>simp) J
 .rw[Kp];unfold MD.flat;rw[List.flatMap_append,Kp];lia
theorem bU {β:Type}(f:PS->β->PS)(h:∀ S x,Grow S (f S x)):∀(l:List β)(S:PS),Grow S (l.foldl f S)
 | [],S=>.refl S
 |x::l,S=>(h S x).trans (bU f h l _)
variable {pile:Int->Int->Int}{rs:RS}
theorem bI (S:PS)(a:Arr)(p:Int)(n m:Option Int):Grow S (offer pile S a p n m):=by
 unfold offer;split
 .exact⟨(uS _ _ _).1,(fg _ _ _).1,(fg _ _ _).2,J6 _,J6 _,J6 _,J6 _⟩
 .exact .refl S
theorem w8 (S:PS)(num:Int)(r:Rule)(mid J:Int):Grow S (first pile S num r mid J):=Grow.trans (T:=lack S num r mid J) ⟨J6 _,J6 _,J6 _,J6 _,J6 _,(fg _ _ _).1,(fg _ _ _).2⟩ (bU _ (λS x=>bI S _ _ _ _) _ _)
theorem kW (a:Arr)(J:Int)(S:PS)(x:Int×Rule):Grow S (cj pile a J S x):=by
 unfold cj;split
 .exact bI _ _ _ _ _
 .exact w8 _ _ _ _ _
theorem uT (S:PS)(a:Arr)(J:Int):Grow S (settle pile rs S a J):=(Grow.trans (S:=S) (T:=note S a J) ⟨J6 _,J6 _,J6 _,(fg _ _ _).1,(fg _ _ _).2,J6 _,J6 _⟩ (bU (lJ pile a J) (λS x=>bI S _ _ _ _) _ _)).trans (bU _ (kW a J) _ _)
theorem zP (S:PS)(x:Int×Arr):Grow S (turn pile rs S x):=by
 unfold turn;split
 .exact uT _ _ _
 .exact .refl S
theorem i6 {β:Type}(f:PS->β->PS){a:Arr}(h:∀ S x,tget S.told a≠none->tget (f S x).told a≠none):∀(l:List β)(S:PS),tget S.told a≠none->tget (l.foldl f S).told a≠none
 | [],S,k=>k
 |x::l,S,k=>i6 f h l _ (h S x k)
theorem pQ (h:tget S.told b≠none):tget (offer pile S a p n m).told b≠none:=by
 unfold offer;split
 .show tget (tput _ _ _) _≠none;rw[g_];split
  .simp
  .exact h
 .exact h
theorem BR (h:tget S.told b≠none):tget (cj pile a p S x).told b≠none:=by
 unfold cj;split
 .exact pQ h
 .exact i6 _ (λS x k=>pQ k) _ _ (show tget (lack S _ _ _ _).told b≠none from h)
theorem DQ (h:tget S.told b≠none):tget (turn pile rs S x).told b≠none:=by
 unfold turn;split
 .exact i6 _ (λS x k=>BR k) _ _ (i6 (lJ pile _ _) (λS x k=>pQ k) _ _ (show tget (note S _ _).told b≠none from h))
 .exact h
end Pz
namespace Pz
def Sd (S:PS)(a:Arr)(q:Int):Prop:=(a.2.2,q)∈S.settled.get (a.1,a.2.1)
def Has (S:PS)(a:Arr)(p:Int):Prop:=∃ v,tget S.told a=some v/\v.1<=p
def JustP (sd:Arr->Int->Prop)(c:Int)(put:List Int)(t p:Int)(m:Option Int):Prop:=match put with
 | []=>m=none/\p=1/\t=c
 | [x]=>m=none/\∃ q,sd (c,x,t) q/\p=q+1
 | [x,y]=>∃ d q1 q2,m=some d/\sd (c,x,d) q1/\sd (d,y,t) q2/\p=q1+q2+1
 |_=>False
theorem JustP.mono (h:∀ a q,sd a q->sd' a q)(j:JustP sd c put t p m):JustP sd' c put t p m:=by
 match put,j with
 | [],j=>exact j
 | [x],⟨e,q,s,e2⟩=>exact⟨e,q,h _ _ s,e2⟩
 | [x,y],⟨d,q1,q2,e,s1,s2,e2⟩=>exact⟨d,q1,q2,e,h _ _ s1,h _ _ s2,e2⟩
section
variable (RL:List Rule)(M:List Arr)
def Just (sd:Arr->Int->Prop)(a:Arr)(v:ot):Prop:=match v.2.1 with
 |none=>v.2.2=none/\v.1=0/\a∈M
 |some i=>∃(j:Nat)(r:Rule),i=j/\RL[j]?=some r/\a.1=r.1/\a.2.1=r.2.1/\JustP sd r.2.2.1 r.2.2.2 a.2.2 v.1 v.2.2
theorem Just.mono (h:∀ a q,sd a q->sd' a q)(j:Just RL M sd a v):Just RL M sd' a v:=by
 obtain⟨p,n,m⟩:=v;cases n with
 |none=>exact j
 |some i=>obtain⟨k,r,e1,e2,e3,e4,j⟩:=j;exact⟨k,r,e1,e2,e3,e4,j.mono h⟩
structure B (pile:Int->Int->Int) (U:List Arr) (S:PS) (rest:List (Int×Arr)):Prop where
 q:QOk pile S.last S.piles
 nd:S.piles.flat.Nodup
 nr:rest.Nodup
 tk:(S.told.map (·.1)).Nodup
 tu:∀ a v,tget S.told a=some v->a∈U
 ju:∀ a v,tget S.told a=some v->Just RL M (Sd S) a v
 ps:∀ a v,tget S.told a=some v->0<=v.1
 sd:∀ a p,Sd S a p->p<=S.last/\∃ v,tget S.told a=some v/\v.1=p
 sp:∀ a v,tget S.told a=some v->Sd S a v.1\/(v.1,a)∈S.piles.flat\/(v.1,a)∈rest
 it:∀ p a,(p,a)∈S.piles.flat\/(p,a)∈rest->Has S a p
 ns:∀ p a,(p,a)∈S.piles.flat\/(p,a)∈rest->¬ Sd S a p
 m0:∀ a v,tget S.told a=some v->a∈M->v=(0,none,none)
end
variable {RL:List Rule}{M U:List Arr}{pile:Int->Int->Int}{rs:RS}{S:PS}{rest:List (Int×Arr)}
theorem uU (h:¬ g9 S a p=true):Has S a p:=by
 unfold g9 at h;cases e:tget S.told a with
 |none=>rw[e]at h;exact(h rfl).elim
 |some v=>rw[e]at h;exact⟨v,e,Int.not_lt.mp λz=>h (Ki z)⟩
theorem fP (h:g9 S a p=true)(e:tget S.told a=some v):p<v.1:=by unfold g9 at h;rw[e]at h;exact K7 h
theorem ki (a:Arr)(p:Int)(n m:Option Int):Has (offer pile S a p n m) a p:=by
 unfold offer;by_cases h:g9 S a p=true
 .rw[Ka h];exact⟨(p,n,m),by show tget (tput _ _ _) _=_;rw[g_,Ka rfl],Od _⟩
 .rw[J_ h];exact uU h
theorem ir (h:Has S b q):Has (offer pile S a p n m) b q:=by
 unfold offer;by_cases k:g9 S a p=true
 .rw[Ka k];obtain⟨v,e,J⟩:=h;by_cases e2:a=b
  .subst e2;exact⟨(p,n,m),by show tget (tput _ _ _) _=_;rw[g_,Ka rfl],NM (Int.lt_of_lt_of_le (fP k e) J)⟩
  .exact⟨v,by show tget (tput _ _ _) _=_;rw[g_,J_ e2];exact e,J⟩
 .rw[J_ k];exact h
theorem iu (a:Arr)(p:Int)(n m:Option Int):(offer pile S a p n m).settled=S.settled/\(offer pile S a p n m).lacking=S.lacking/\(offer pile S a p n m).last=S.last:=by unfold offer;split<;>exact⟨rfl,rfl,rfl⟩
theorem w_ (h:S.piles.Ok)(a:Arr)(p:Int)(n m:Option Int)(J:x∈(offer pile S a p n m).piles.flat):x∈S.piles.flat\/x=(p,a):=by
 unfold offer at J;split at J
 .rcases Kb.mp ((fO h.nk _ _).mem_iff.mp J) with e|e
  .exact .inr e
  .exact .inl e
 .exact .inl J
theorem rN (h:S.piles.Ok)(a:Arr)(p:Int)(n m:Option Int):(offer pile S a p n m).piles.flat.length<=S.piles.flat.length+1:=by
 unfold offer;split
 .exact N4 (fO h.nk _ _).length_eq
 .lia
theorem B.offer (b:B RL M pile U S rest)(O:Just RL M (Sd S) a (p,n,m))(W:a∈U)(L:S.last<=p)(Z:(p,a)∉rest)(hs:¬ Sd S a p)
 (hm:a∈M->Has S a 0\/(p,n,m)=(0,none,none)):B RL M pile U (offer pile S a p n m) rest:=by
 unfold Pz.offer;by_cases k:g9 S a p=true
 .rw[Ka k];have hS:∀ c q,Sd (kU pile S a p n m) c q↔Sd S c q:=λc q=>Iff.rfl;have tg:∀ c,tget (kU pile S a p n m).told c=if a=c then some (p,n,m) else tget S.told c:=λc=>g_ _ _ _ _;have pf:=fO b.q.ok.nk (pile p S.last) (p,a);have Y:0<=p:=MG b.q.l0 L;have fl:∀ x,x∈(kU pile S a p n m).piles.flat↔x=(p,a)\/x∈S.piles.flat:=λx=>by show x∈(S.piles.app (pile p S.last) (p,a)).flat↔_;rw[pf.mem_iff,Kb]
  refine⟨b.q.add a L,?_,b.nr,DP b.tk _ _,λc v e=>?_,λc v e=>?_,λc v e=>?_,λc q h=>?_,λc v e=>?_,λq c h=>?_,λq c h=>?_,λc v e hc=>?_⟩
  .refine pf.nodup_iff.mpr (KB.mpr ⟨λh=>?_,b.nd⟩);obtain⟨v,e,J⟩:=b.it p a (.inl h);have:=fP k e;lia
  .rw[tg]at e;by_cases z:a=c
   .rw[<- z];exact W
   .rw[J_ z]at e;exact b.tu c v e
  .rw[tg]at e;by_cases z:a=c
   .rw[Ka z]at e;cases e;rw[<- z];exact O
   .rw[J_ z]at e;exact b.ju c v e
  .rw[tg]at e;by_cases z:a=c
   .rw[Ka z]at e;cases e;exact Y
   .rw[J_ z]at e;exact b.ps c v e
  .obtain⟨h1,v,e,J⟩:=b.sd c q h;refine⟨h1,v,?_,J⟩;rw[tg,J_ (λz=>?_)]
   .exact e
   .subst z;have:=fP k e;lia
  .rw[tg]at e;by_cases z:a=c
   .rw[Ka z]at e;cases e;subst z;exact .inr (.inl ((fl _).mpr (.inl rfl)))
   .rw[J_ z]at e;rcases b.sp c v e with h|h|h
    .exact .inl h
    .exact .inr (.inl ((fl _).mpr (.inr h)))
    .exact .inr (.inr h)
  .have:(q,c)=(p,a)\/(q,c)∈S.piles.flat\/(q,c)∈rest:=by
    rcases h with h|h
    .rcases (fl _).mp h with h|h
     .exact .inl h
     .exact .inr (.inl h)
    .exact .inr (.inr h)
   rcases this with h|h
   .cases h;exact⟨(p,n,m),by rw[tg,Ka rfl],Od _⟩
   .obtain⟨v,e,J⟩:=b.it q c h;by_cases z:a=c
    .subst z;exact⟨(p,n,m),by rw[tg,Ka rfl],NM (Int.lt_of_lt_of_le (fP k e) J)⟩
    .exact⟨v,by rw[tg,J_ z];exact e,J⟩
  .rcases h with h|h
   .rcases (fl _).mp h with h|h
    .cases h;exact hs
    .exact b.ns q c (.inl h)
   .exact b.ns q c (.inr h)
  .rw[tg]at e;by_cases z:a=c
   .rw[Ka z]at e;cases e;subst z;rcases hm hc with⟨v,e,J⟩|h
    .have:=fP k e;lia
    .exact h
   .rw[J_ z]at e;exact b.m0 c v e hc
 .rw[J_ k];exact b
end Pz
namespace Pz
section
variable (RL:List Rule)(M U:List Arr)(pile:Int->Int->Int)
structure BG (S:PS) (rest:List (Int×Arr)):Prop where
 b:B RL M pile U S rest
 gt:∀ x∈S.piles.flat,S.last<x.1
 eq:∀ x∈rest,x.1=S.last
 mh:∀ a∈M,Has S a 0
structure Ext (S T:PS) (rest:List (Int×Arr)) (k:Nat):Prop where
 bg:BG RL M U pile T rest
 mono:∀ a p,Has S a p->Has T a p
 se:T.settled=S.settled
 la:T.last=S.last
 len:T.piles.flat.length<=S.piles.flat.length+k
end
variable {RL:List Rule}{M U:List Arr}{pile:Int->Int->Int}{rs:RS}{S T V:PS}{rest:List (Int×Arr)}{k l:Nat}
theorem rO (h:T.settled=S.settled):Sd T=Sd S:=by unfold Sd;rw[h]
theorem Ext.trans (x:Ext RL M U pile S T rest k)(y:Ext RL M U pile T V rest l):Ext RL M U pile S V rest (k+l):=⟨y.bg,λa p h=>y.mono a p (x.mono a p h),y.se.trans x.se,y.la.trans x.la,by have:=x.len;have:=y.len;lia⟩
theorem BG.offer (g:BG RL M U pile S rest)(W:Just RL M (Sd S) a (p,n,m))(Y:a∈U)(O:S.last<p):Ext RL M U pile S (offer pile S a p n m) rest 1:=by
 obtain⟨e1,e2,e3⟩:=iu (pile:=pile) (S:=S) a p n m;have J:=g.b.offer W Y (NM O) (λh=>by have:=g.eq _ h;dsimp only at this;lia) (λh=>by have:=(g.b.sd _ _ h).1;lia) λh=>.inl (g.mh a h);refine⟨⟨J,λx L=>?_,λx L=>by rw[e3];exact g.eq x L,λb J=>ir (g.mh b J)⟩,λb q h=>ir h,e1,e3,rN g.b.q.ok _ _ _ _⟩;rw[e3];rcases w_ g.b.q.ok _ _ _ _ L with h|rfl
 .exact g.gt x h
 .exact O
theorem kX {β:Type}(J:β->Arr)(fp:β->Int)(fn L:β->Option Int):∀(l:List β){S:PS},BG RL M U pile S rest->
 (∀ x∈l,Just RL M (Sd S) (J x) (fp x,fn x,L x)/\J x∈U/\S.last<fp x)->
 Ext RL M U pile S (l.foldl (λS x=>offer pile S (J x) (fp x) (fn x) (L x)) S) rest l.length/\(l.foldl (λS x=>offer pile S (J x) (fp x) (fn x) (L x)) S).lacking=S.lacking/\
 ∀ x∈l,Has (l.foldl (λS x=>offer pile S (J x) (fp x) (fn x) (L x)) S) (J x) (fp x)
 | [],S,g,_=>⟨⟨g,λ_ _ h=>h,rfl,rfl,J6 _⟩,rfl,λ_ h=>nomatch h⟩
 |x::l,S,g,h=>by
  obtain⟨j,u,lt⟩:=h x Kj;have e:=g.offer j u lt;obtain⟨r,r1,r2⟩:=kX J fp fn L l (S:=offer pile S (J x) (fp x) (fn x) (L x)) e.bg λy hy=>by rw[rO e.se,e.la];exact h y (J8 _ hy)
  rw[Mn,Kl,Oi];refine⟨e.trans r,r1.trans (iu _ _ _ _).2.1,λy hy=>?_⟩;rcases Kb.mp hy with rfl|hy
  .exact r.mono _ _ (ki _ _ _ _)
  .exact r2 y hy
structure House (RL:List Rule) (M U:List Arr) (rs:RS):Prop where
 few:∀ r∈RL,r.2.2.2.length<=2
 to:∀{n r c x},(n,r)∈rs.get (c,x)->∃(j:Nat)(l:List Int),n=j/\RL[j]?=some r/\r.2.2.1=c/\r.2.2.2=x::l
 of:∀{j:Nat}{r:Rule}{x l},RL[j]?=some r->r.2.2.2=x::l->((j:Int),r)∈rs.get (r.2.2.1,x)
 u1:∀ a∈M,a∈U
 u2:∀ r∈RL,(r.1,r.2.1,r.2.2.1)∈U
 u3:∀ r∈RL,∀ s x t,(s,x,t)∈U->(r.1,r.2.1,t)∈U
def Clo (RL:List Rule)(S:PS):Prop:=∀(j:Nat)(r:Rule),RL[j]?=some r->match r.2.2.2 with
 | []=>Has S (r.1,r.2.1,r.2.2.1) 1
 | [x]=>∀ t q,Sd S (r.2.2.1,x,t) q->Has S (r.1,r.2.1,t) (q+1)
 | [x,y]=>∀ d t q1 q2,Sd S (r.2.2.1,x,d) q1->Sd S (d,y,t) q2->Has S (r.1,r.2.1,t) (q1+q2+1)
 |_=>True
structure Lk (RL:List Rule) (S:PS):Prop where
 ok:S.lacking.Ok
 to:∀{n r q d y},(n,r,q)∈S.lacking.get (d,y)->∃(j:Nat)(x:Int),n=j/\RL[j]?=some r/\r.2.2.2=[x,y]/\Sd S (r.2.2.1,x,d) q
 of:∀{j:Nat}{r:Rule}{x y d q},RL[j]?=some r->r.2.2.2=[x,y]->Sd S (r.2.2.1,x,d) q->((j:Int),r,q)∈S.lacking.get (d,y)
theorem EM (Hs:House RL M U rs)(L:a∈U)(p0:0<=p):∀(l:List (Int×Rule)){S:PS},BG RL M U pile S rest->S.lacking.Ok->S.settled.Ok->S.last=p->Sd S a p->(∀ x∈l,x∈rs.get (a.1,a.2.1))->
 Ext RL M U pile S (l.foldl (cj pile a p) S) rest (l.length*S.settled.flat.length)/\(l.foldl (cj pile a p) S).lacking.Ok/\(l.foldl (cj pile a p) S).lacking.flat.length<=S.lacking.flat.length+l.length/\
 (∀ k z,z∈(l.foldl (cj pile a p) S).lacking.get k↔z∈S.lacking.get k\/∃ x∈l,x.2.2.2.2.length=2/\k=(a.2.2,nth1 x.2.2.2.2)/\z=(x.1,x.2,p))/\
 (∀ x∈l,x.2.2.2.2.length=1->Has (l.foldl (cj pile a p) S) (x.2.1,x.2.2.1,a.2.2) (p+1))/\
 ∀ x∈l,x.2.2.2.2.length=2->∀ t q,Sd S (a.2.2,nth1 x.2.2.2.2,t) q->Has (l.foldl (cj pile a p) S) (x.2.1,x.2.2.1,t) (p+q+1)
 | [],S,g,ok,so,hl,ha,_=>⟨⟨g,λ_ _ h=>h,rfl,rfl,Nat.le_add_right _ _⟩,ok,by simp,(λk z=>⟨.inl,λh=>h.elim id λ⟨x,h,_⟩=>(Ko h).elim⟩),(λ_ h=>(Ko h).elim),λ_ h=>(Ko h).elim⟩
 |x::l,S,g,ok,so,hl,ha,O=>by
  obtain⟨n,r⟩:=x;obtain⟨j,ys,rfl,W,hc,Y⟩:=Hs.to (O _ Kj);have Z:r∈RL:=K3 W;have bw:=Hs.few r Z;have n1:1<=S.settled.flat.length:=MP (lI _ ha);have one:Ext RL M U pile S (cj pile a p S ((j:Int),r)) rest S.settled.flat.length/\(cj pile a p S ((j:Int),r)).lacking.Ok/\(cj pile a p S ((j:Int),r)).lacking.flat.length<=S.lacking.flat.length+1/\
   (∀ k z,z∈(cj pile a p S ((j:Int),r)).lacking.get k↔z∈S.lacking.get k\/(r.2.2.2.length=2/\k=(a.2.2,nth1 r.2.2.2)/\z=((j:Int),r,p)))/\
   (r.2.2.2.length=1->Has (cj pile a p S ((j:Int),r)) (r.1,r.2.1,a.2.2) (p+1))/\
   (r.2.2.2.length=2->∀ t q,Sd S (a.2.2,nth1 r.2.2.2,t) q->Has (cj pile a p S ((j:Int),r)) (r.1,r.2.1,t) (p+q+1)):=by
   unfold cj;by_cases h1:r.2.2.2.length=1
   .rw[Ka (show((j:Int),r).2.2.2.2.length=1 from h1)];have J:r.2.2.2=[a.2.1]:=by
     rw[Y]at h1 ⊢;cases ys with
     |nil=>rfl
     |cons _ _=>simp at h1
    have e:=g.offer (a:=(r.1,r.2.1,a.2.2)) (p:=p+1) (n:=some (j:Int)) (m:=none) ⟨j,r,rfl,W,rfl,rfl,by rw[J];exact⟨rfl,p,by rw[hc];exact ha,rfl⟩⟩ (Hs.u3 r Z _ _ _ L) (by lia);obtain⟨_,e2,_⟩:=iu (pile:=pile) (S:=S) (r.1,r.2.1,a.2.2) (p+1) (some (j:Int)) none;refine⟨⟨e.bg,e.mono,e.se,e.la,Ku e.len (NY n1 _)⟩,by rw[e2];exact ok,by rw[e2];lia,λk z=>?_,λ_=>ki _ _ _ _,λh=>by lia⟩;rw[e2];exact⟨.inl,λh=>h.elim id λh=>by lia⟩
   .rw[J_ (show ¬ ((j:Int),r).2.2.2.2.length=1 from h1)];have h2:r.2.2.2.length=2:=by rw[Y]at h1 bw ⊢;simp only[Kl]at h1 bw ⊢;lia
    obtain⟨y,J⟩ : ∃ y,r.2.2.2=[a.2.1,y]:=by
     rw[Y]at h2 ⊢
     match ys,h2 with
     | [y],_=>exact⟨y,rfl⟩
    have hn:nth1 r.2.2.2=y:=by rw[J];rfl
    have g1:BG RL M U pile (lack S (j:Int) r a.2.2 p) rest:=⟨⟨g.b.q,g.b.nd,g.b.nr,g.b.tk,g.b.tu,g.b.ju,g.b.ps,g.b.sd,g.b.sp,g.b.it,g.b.ns,g.b.m0⟩,g.gt,g.eq,g.mh⟩;obtain⟨e,e2,e3⟩:=kX (λx:Int×Int=>(r.1,r.2.1,x.1)) (λx=>p+x.2+1) (λ_=>some (j:Int)) (λ_=>some a.2.2) (S.settled.get (a.2.2,nth1 r.2.2.2)) g1 λx hx=>by
     have sx:Sd S (a.2.2,y,x.1) x.2:=by rw[hn]at hx;exact hx
     obtain⟨_,v,tv,hv⟩:=g.b.sd _ _ sx;have:=g.b.ps _ _ tv;refine⟨⟨j,r,rfl,W,rfl,rfl,?_⟩,Hs.u3 r Z _ _ _ (g.b.tu _ _ tv),by show S.last<_;lia⟩;rw[J];exact⟨a.2.2,p,x.2,rfl,by rw[hc];exact ha,sx,rfl⟩
    have lm:∀ k z,z∈(first pile S (j:Int) r a.2.2 p).lacking.get k↔z∈S.lacking.get k\/(r.2.2.2.length=2/\k=(a.2.2,nth1 r.2.2.2)/\z=((j:Int),r,p)):=λk z=>by
     show z∈(List.foldl _ _ _:PS).lacking.get k↔_;rw[e2];show z∈(S.lacking.app _ _).get k↔_;rw[tp];by_cases hk:(a.2.2,nth1 r.2.2.2)=k
     .subst hk;rw[Ka rfl,Kr,Km];exact⟨λh=>h.elim .inl λh=>.inr ⟨h2,rfl,h⟩,λh=>h.elim .inl λh=>.inr h.2.2⟩
     .rw[J_ hk];exact⟨.inl,λh=>h.elim id λh=>(hk h.2.1.symm).elim⟩
    have lk:(first pile S (j:Int) r a.2.2 p).lacking=S.lacking.app (a.2.2,nth1 r.2.2.2) ((j:Int),r,p):=e2;refine⟨⟨e.bg,λb q h=>e.mono b q h,e.se,e.la,Ku e.len (NY (oq _ _) _)⟩,by rw[lk];exact pO ok _ _,by rw[lk,(fO ok.nk _ _).length_eq];exact J6 _,lm,λh=>by lia,λ_ t q h=>e3 (t,q) h⟩
  obtain⟨e,ok1,le1,lm1,hA,hB⟩:=one;obtain⟨r0,r1,r2,r3,r4,r5⟩:=EM Hs L p0 l e.bg ok1 (by rw[e.se];exact so) (by rw[e.la];exact hl) (by rw[rO e.se];exact ha) λy hy=>O y (J8 _ hy);rw[Mn,Kl];rw[e.se]at r0;refine⟨by rw[Nat.add_mul,Nat.one_mul,Oi];exact e.trans r0,r1,by lia,λk z=>?_,λx hx h=>?_,λx hx h t q hq=>?_⟩
  .rw[r3,lm1];constructor
   .rintro ((h|h)|⟨x,hx,h⟩)
    .exact .inl h
    .exact .inr ⟨_,Kj,h⟩
    .exact .inr ⟨x,J8 _ hx,h⟩
   .rintro (h|⟨x,hx,h⟩)
    .exact .inl (.inl h)
    .rcases Kb.mp hx with rfl|hx
     .exact .inl (.inr h)
     .exact .inr ⟨x,hx,h⟩
  .rcases Kb.mp hx with rfl|hx
   .exact r0.mono _ _ (hA h)
   .exact r4 x hx h
  .rcases Kb.mp hx with rfl|hx
   .exact r0.mono _ _ (hB h t q hq)
   .exact r5 x hx h t q (by rw[rO e.se];exact hq)
end Pz
namespace Pz
section
variable (RL:List Rule)(M U:List Arr)(pile:Int->Int->Int)(C:Nat)
structure Cnt (S:PS) (k:Nat):Prop where
 so:S.settled.Ok
 G:∃ G:List Arr,G.Nodup/\G.length=S.settled.flat.length/\∀ a∈G,∃ q,Sd S a q
 ln:S.lacking.flat.length<=RL.length*S.settled.flat.length
 pn:S.piles.flat.length+k<=C+RL.length*(S.settled.flat.length*S.settled.flat.length)
structure I (S:PS) (rest:List (Int×Arr)):Prop where
 bg:BG RL M U pile S rest
 clo:Clo RL S
 lk:Lk RL S
 cnt:Cnt RL C S rest.length
end
variable {RL:List Rule}{M U:List Arr}{pile:Int->Int->Int}{rs:RS}{S T V:PS}{rest:List (Int×Arr)}{C:Nat}
theorem sd_note:Sd (note S a p) c q↔Sd S c q\/(c=a/\q=p):=by
 unfold Sd note;show _∈(S.settled.app _ _).get _↔_;rw[tp];by_cases h:(a.1,a.2.1)=(c.1,c.2.1)
 .rw[Ka h,h,Kr,Km];obtain⟨h1,h2⟩:=NE h;constructor
  .rintro (k|k)
   .exact .inl k
   .obtain⟨k1,k2⟩:=NE k;exact .inr ⟨NF h1.symm (NF h2.symm k1),k2⟩
  .rintro (k|⟨rfl,rfl⟩)
   .exact .inl k
   .exact .inr rfl
 .rw[J_ h];exact⟨.inl,λk=>k.elim id λ⟨e,_⟩=>(h (by rw[e])).elim⟩
theorem I.settle (Hs:House RL M U rs)(hrl:∀ k,(rs.get k).length<=RL.length)(i:I RL M U pile C S ((p,a)::rest))(hv:tget S.told a=some v)(hp:v.1=p) :
 I RL M U pile C (settle pile rs S a p) rest/\(settle pile rs S a p).settled.flat.length=S.settled.flat.length+1:=by
 have b:=i.bg.b;have pl:p=S.last:=i.bg.eq _ Kj;have p0:0<=p:=by rw[pl];exact b.q.l0
 have hau:a∈U:=b.tu a v hv;have nS:∀ q,¬ Sd S a q:=λq h=>by obtain⟨_,w,e,ew⟩:=b.sd a q h;rw[hv]at e;cases e;rw[<- ew,hp]at h;exact b.ns p a (.inr Kj) h
 have nr:=KB.mp b.nr;have O:∀ c q,Sd S c q->Sd (note S a p) c q:=λc q h=>sd_note.mpr (.inl h);have Z:Sd (note S a p) a p:=sd_note.mpr (.inr ⟨rfl,rfl⟩);have g1:BG RL M U pile (note S a p) rest:=by
  refine⟨⟨b.q,b.nd,nr.2,b.tk,b.tu,λc w e=>(b.ju c w e).mono RL M O,b.ps,λc q h=>?_,λc w e=>?_,λq c h=>?_,λq c h k=>?_,b.m0⟩,i.bg.gt,λx hx=>i.bg.eq x (J8 _ hx),i.bg.mh⟩
  .rcases sd_note.mp h with h|⟨rfl,rfl⟩
   .exact b.sd c q h
   .exact⟨Int.le_of_eq pl,v,hv,hp⟩
  .rcases b.sp c w e with h|h|h
   .exact .inl (O _ _ h)
   .exact .inr (.inl h)
   .rcases Kb.mp h with h|h
    .cases h;exact .inl Z
    .exact .inr (.inr h)
  .exact b.it q c (h.elim .inl λh=>.inr (J8 _ h))
  .rcases sd_note.mp k with k|⟨rfl,rfl⟩
   .exact b.ns q c (h.elim .inl λh=>.inr (J8 _ h)) k
   .rcases h with h|h
    .have:=i.bg.gt _ h;dsimp only at this;lia
    .exact nr.1 h
 have so1:(note S a p).settled.Ok:=pO i.cnt.so _ _;have n1:(note S a p).settled.flat.length=S.settled.flat.length+1:=(fO i.cnt.so.nk _ _).length_eq;obtain⟨e1,l1,h1⟩:=kX (λx:Int×Rule×Int=>(x.2.1.1,x.2.1.2.1,a.2.2)) (λx=>x.2.2+p+1) (λx=>some x.1) (λ_=>some a.1) (S.lacking.get (a.1,a.2.1)) g1 λx hx=>by obtain⟨n,r,q⟩:=x;obtain⟨j,y,rfl,W,hy,Y⟩:=i.lk.to hx;obtain⟨_,w,tw,hw⟩:=b.sd _ _ Y;have:=b.ps _ _ tw;refine⟨⟨j,r,rfl,W,rfl,rfl,?_⟩,Hs.u3 r (K3 W) _ _ _ hau,by show S.last<q+p+1;lia⟩;show JustP _ r.2.2.1 r.2.2.2 _ _ _;rw[hy];exact⟨a.1,q,p,rfl,O _ _ Y,Z,rfl⟩
 generalize hS2:(S.lacking.get (a.1,a.2.1)).foldl (λS x=>offer pile S (x.2.1.1,x.2.1.2.1,a.2.2) (x.2.2+p+1) (some x.1) (some a.1)) (note S a p)=S2 at e1 l1 h1;have s2:S2.settled=(note S a p).settled:=e1.se;have hs2:Sd S2=Sd (note S a p):=rO s2;have l2:S2.lacking=S.lacking:=l1;obtain⟨e2,k1,k2,k3,k4,k5⟩:=EM (rs:=rs) Hs hau p0 (rs.get (a.1,a.2.1)) e1.bg (by rw[l2];exact i.lk.ok) (by rw[s2];exact so1) (by rw[e1.la,pl];rfl) (by rw[hs2];exact Z) λx hx=>hx;have eT:(rs.get (a.1,a.2.1)).foldl (cj pile a p) S2=Pz.settle pile rs S a p:=by rw[<- hS2];rfl
 rw[eT]at e2 k1 k2 k3 k4 k5;generalize Pz.settle pile rs S a p=T at e2 k1 k2 k3 k4 k5;have sT:T.settled=(note S a p).settled:=e2.se.trans s2;have L:∀ c q,Sd T c q↔Sd S c q\/(c=a/\q=p):=λc q=>by rw[rO sT];exact sd_note
 have mono:∀ c q,Has S c q->Has T c q:=λc q h=>e2.mono _ _ (e1.mono _ _ h);refine⟨⟨e2.bg,?_,⟨k1,?_,?_⟩,⟨by rw[sT];exact so1,?_,?_,?_⟩⟩,by rw[sT];exact n1⟩
 .intro j r W;have hc:=i.clo j r W;cases J:r.2.2.2 with
  |nil=>rw[J]at hc;exact mono _ _ hc
  |cons x ys=>
   cases ys with
   |nil=>
    rw[J]at hc;intro t q Y;rcases (L _ _).mp Y with h|⟨h,rfl⟩
    .exact mono _ _ (hc t q h)
    .subst h;exact k4 ((j:Int),r) (Hs.of W J) (by rw[J];rfl)
   |cons y zs=>
    cases zs with
    |cons _ _=>trivial
    |nil=>
     rw[J]at hc;intro d t q1 q2 hq1 hq2;have ny:nth1 r.2.2.2=y:=by rw[J];rfl
     rcases (L _ _).mp hq1 with z1|⟨z1,rfl⟩
     .rcases (L _ _).mp hq2 with z2|⟨z2,rfl⟩
      .exact mono _ _ (hc d t q1 q2 z1 z2)
      .subst z2;exact e2.mono _ _ (h1 ((j:Int),r,q1) (i.lk.of W J z1))
     .subst z1;refine k5 ((j:Int),r) (Hs.of W J) (by rw[J];rfl) t q2 ?_;rw[ny,hs2,<- rO sT];exact hq2
 .intro n r q d y h;rcases (k3 _ _).mp h with h|⟨x,hx,hl,hk,hz⟩
  .rw[l2]at h;obtain⟨j,x,e1,e2,e3,e4⟩:=i.lk.to h;exact⟨j,x,e1,e2,e3,(L _ _).mpr (.inl e4)⟩
  .obtain⟨n',r'⟩:=x;obtain⟨rfl,hz⟩:=NE hz;obtain⟨rfl,rfl⟩:=NE hz;obtain⟨j,l,rfl,W,hc,J⟩:=Hs.to hx;obtain⟨rfl,hy⟩:=NE hk;have hl:r.2.2.2.length=2:=hl;have hy:y=nth1 r.2.2.2:=hy;rw[J]at hl hy
   match l,hl with
   | [z],_=>
    refine⟨j,a.2.1,rfl,W,?_,(L _ _).mpr (.inr ⟨?_,rfl⟩)⟩
    .rw[J];exact LQ (λq=>[a.2.1,q]) hy.symm
    .rw[hc]
 .intro j r x y d q W J Y;rw[k3];rcases (L _ _).mp Y with h|⟨h,rfl⟩
  .rw[l2];exact .inl (i.lk.of W J h)
  .subst h;exact .inr ⟨((j:Int),r),Hs.of W J,by rw[J];rfl,by rw[J];rfl,rfl⟩
 .obtain⟨G,g1,g2,g3⟩:=i.cnt.G;refine⟨a::G,KB.mpr ⟨λh=>?_,g1⟩,by rw[sT,n1,Kl,g2],λc hc=>?_⟩
  .obtain⟨q,Y⟩:=g3 a h;exact nS q Y
  .rcases Kb.mp hc with rfl|hc
   .exact⟨p,(L _ _).mpr (.inr ⟨rfl,rfl⟩)⟩
   .obtain⟨q,Y⟩:=g3 c hc;exact⟨q,(L _ _).mpr (.inl Y)⟩
 .have:=i.cnt.ln;have:=hrl (a.1,a.2.1);rw[sT,n1,Oe,Nat.mul_one];rw[l2]at k2;lia
 .have c1:=i.cnt.pn;have c2:=e1.len;have c3:=e2.len;have c4:=i.cnt.ln;have c5:=oq S.lacking (a.1,a.2.1);have c6:(rs.get (a.1,a.2.1)).length*S2.settled.flat.length<=RL.length*(S.settled.flat.length+1):=by rw[s2,n1];exact Nat.mul_le_mul_right _ (hrl _)
  rw[Kl]at c1;have c7:(note S a p).piles.flat.length=S.piles.flat.length:=rfl;rw[sT,n1];have c8:RL.length*((S.settled.flat.length+1)*(S.settled.flat.length+1))=RL.length*(S.settled.flat.length*S.settled.flat.length)+RL.length*S.settled.flat.length+RL.length*(S.settled.flat.length+1):=by rw[Nat.add_mul,Nat.one_mul,Oe RL.length,Oe S.settled.flat.length,Nat.mul_one,Oe RL.length (S.settled.flat.length*S.settled.flat.length)]
  rw[c8];lia
theorem I.skip (i:I RL M U pile C S (x::rest))(h:¬ GD S x=true):I RL M U pile C S rest:=by
 have b:=i.bg.b;refine⟨⟨⟨b.q,b.nd,(KB.mp b.nr).2,b.tk,b.tu,b.ju,b.ps,b.sd,λc w e=>?_,λq c h=>b.it q c (h.elim .inl λh=>.inr (J8 _ h)),λq c h=>b.ns q c (h.elim .inl λh=>.inr (J8 _ h)),b.m0⟩,i.bg.gt,λy J=>i.bg.eq y (J8 _ J),i.bg.mh⟩,i.clo,i.lk,i.cnt.so,i.cnt.G,i.cnt.ln,by have:=i.cnt.pn;rw[Kl]at this;lia⟩;rcases b.sp c w e with k|k|k
 .exact .inl k
 .exact .inr (.inl k)
 .rcases Kb.mp k with k|k
  .subst k;refine(h ?_).elim;unfold GD;rw[e];exact Ki rfl
  .exact .inr (.inr k)
theorem I.batch (Hs:House RL M U rs)(J:∀ k,(rs.get k).length<=RL.length):∀(l:List (Int×Arr)){S:PS},I RL M U pile C S l->
 I RL M U pile C (batch pile rs S l) []/\S.settled.flat.length<=(batch pile rs S l).settled.flat.length/\((batch pile rs S l).settled.flat.length=S.settled.flat.length->batch pile rs S l=S)
 | [],S,i=>⟨i,J6 _,λ_=>rfl⟩
 |x::l,S,i=>by
  show I RL M U pile C (Pz.batch pile rs (turn pile rs S x) l) []/\_<=(Pz.batch pile rs (turn pile rs S x) l).settled.flat.length/\((Pz.batch pile rs (turn pile rs S x) l).settled.flat.length=_->Pz.batch pile rs (turn pile rs S x) l=S);unfold turn;by_cases h:GD S x=true
  .rw[Ka h];obtain⟨p,a⟩:=x;unfold GD at h;cases e:tget S.told a with
   |none=>rw[show((p,a):Int×Arr).2=a from rfl,e]at h;cases h
   |some v=>rw[show((p,a):Int×Arr).2=a from rfl,e]at h;obtain⟨j,n⟩:=i.settle Hs J e (K7 h);obtain⟨r1,r2,r3⟩:=I.batch Hs J l j;exact⟨r1,by dsimp only at r2 ⊢;lia,λq=>by dsimp only at r2 q;lia⟩
  .rw[J_ h];exact I.batch Hs J l (i.skip h)
structure Top (RL:List Rule) (M U:List Arr) (pile:Int->Int->Int) (C:Nat) (S:PS):Prop where
 b:B RL M pile U S []
 mh:∀ a∈M,Has S a 0
 clo:Clo RL S
 lk:Lk RL S
 cnt:Cnt RL C S 0
theorem I.top (i:I RL M U pile C S []):Top RL M U pile C S:=⟨i.bg.b,i.bg.mh,i.clo,i.lk,i.cnt⟩
theorem Top.take (P:Pile pile)(t:Top RL M U pile C S)(J:S.piles≠[]):I RL M U pile C (take pile S) (taken pile S.piles):=by
 have b:=t.b;have k:=took P b.q J;have mem:∀ x,x∈S.piles.flat↔x∈(left pile S.piles).flat\/x∈taken pile S.piles:=λx=>by rw[k.pm.mem_iff,Kr];exact Or.comm
 obtain⟨L,O,_⟩:=Mi.mp (k.pm.nodup_iff.mp b.nd);have no:∀{q c},(q,c)∉([]:List (Int×Arr)):=λh=>nomatch h;refine⟨⟨⟨k.ok,O,L,b.tk,b.tu,b.ju,b.ps,λa p h=>⟨MG (b.sd a p h).1 k.ge,(b.sd a p h).2⟩,λa v e=>?_,λp a h=>b.it p a (.inl ((mem _).mpr h)),λp a h=>b.ns p a (.inl ((mem _).mpr h)),b.m0⟩,k.lt,k.eq,t.mh⟩,t.clo,⟨t.lk.ok,t.lk.to,t.lk.of⟩,t.cnt.so,t.cnt.G,t.cnt.ln,?_⟩
 .rcases b.sp a v e with h|h|h
  .exact .inl h
  .exact .inr ((mem _).mp h)
  .exact(no h).elim
 .have h1:=k.pm.length_eq;rw[Kp]at h1;have h2:=t.cnt.pn;show(left pile S.piles).flat.length+(taken pile S.piles).length<=_;show _<=C+RL.length*(S.settled.flat.length*S.settled.flat.length);lia
theorem ou {α:Type}[DecidableEq α]:∀(l m:List α),l.Nodup->(∀ x∈l,x∈m)->l.length<=m.length
 | [],m,_,_=>KF _
 |x::l,m,nd,h=>by have L:=h x Kj;have J:=KB.mp nd;have:=ou l (m.erase x) J.2 λy O=>(NQ (λ(e:y=x)=>J.1 (by rw[<- e];exact O))).mpr (h y (J8 _ O));rw[Nj L]at this;have:0<m.length:=MP L;rw[Kl];lia
theorem Top.few (t:Top RL M U pile C S):S.settled.flat.length<=U.length/\S.told.length<=U.length:=by
 obtain⟨G,g1,g2,g3⟩:=t.cnt.G;constructor
 .rw[<- g2];exact ou G U g1 λa ha=>by obtain⟨q,J⟩:=g3 a ha;obtain⟨_,v,e,_⟩:=t.b.sd a q J;exact t.b.tu a v e
 .have:=ou (S.told.map (·.1)) U t.b.tk λa ha=>by obtain⟨x,L,rfl⟩:=Kg.mp ha;exact t.b.tu x.1 x.2 (pP t.b.tk L)
  rwa [J9]at this
theorem Top.fit (t:Top RL M U pile C S)(J:C+RL.length*(U.length*U.length)<L)(O:RL.length*U.length<L)(W:U.length<L):Fit S:=by obtain⟨f1,f2⟩:=t.few;have a1:=iq t.b.q.ok;have a2:=iq t.cnt.so;have Y:=iq t.lk.ok;have b1:=t.cnt.pn;have b2:RL.length*(S.settled.flat.length*S.settled.flat.length)<=RL.length*(U.length*U.length):=N2 _ (Na f1 f1);have Z:=t.cnt.ln;have b4:RL.length*S.settled.flat.length<=RL.length*U.length:=N2 _ f1;constructor<;>lia
theorem Top.loop (P:Pile pile)(Hs:House RL M U rs)(Y:∀ k,(rs.get k).length<=RL.length)(hC:C+RL.length*(U.length*U.length)<L)(hR:RL.length*U.length<L)(hU:U.length<L) :
 ∀(a b:Nat)(S:PS),Top RL M U pile C S->U.length-S.settled.flat.length<=a->S.piles.flat.length<=b->∃ n T,Loop pile rs n S T/\Top RL M U pile C T/\T.piles=[]:=by
 have step:∀ S,Top RL M U pile C S->S.piles≠[]->let S2:=batch pile rs (Pz.take pile S) (taken pile S.piles);Top RL M U pile C S2/\(∀ n T,Loop pile rs n S2 T->Loop pile rs (n+1) S T)/\
  (S.settled.flat.length<S2.settled.flat.length\/S2.settled.flat.length=S.settled.flat.length/\S2.piles.flat.length<S.piles.flat.length):=by
  intro S t J;obtain⟨i,h1,h2⟩:=I.batch Hs Y _ (t.take P J);have O:=i.top;refine⟨O,λn T l=>.step J t.b.q (λx hx=>?_) (t.fit hC hR hU) (O.fit hC hR hU) l,?_⟩
  .obtain⟨v,e,_⟩:=t.b.it x.1 x.2 (.inl ((took P t.b.q J).pm.mem_iff.mpr (Kr.mpr (.inl hx))));rw[e];simp
  have k:=took P t.b.q J;by_cases e:(batch pile rs (Pz.take pile S) (taken pile S.piles)).settled.flat.length=S.settled.flat.length
  .refine .inr ⟨e,?_⟩;rw[h2 e];show(left pile S.piles).flat.length<_;rw[k.pm.length_eq,Kp];have:=N1.mpr k.ne;lia
  .have h1:S.settled.flat.length<=(batch pile rs (Pz.take pile S) (taken pile S.piles)).settled.flat.length:=h1;exact .inl (by lia)
 intro a;induction a with
 |zero=>
  intro b;induction b with
  |zero=>intro S t _ Z;have:S.piles=[]:=LL.mp (by have:=iq t.b.q.ok;lia);exact⟨0,S,.done this,t,this⟩
  |succ b ih=>
   intro S t ha Z;by_cases J:S.piles=[]
   .exact⟨0,S,.done J,t,J⟩
   obtain⟨O,W,hd⟩:=step S t J;have:=O.few.1;obtain⟨n,T,l,r⟩:=ih _ O (by rcases hd with h|h<;>lia) (by rcases hd with h|h<;>lia);exact⟨_,T,W _ _ l,r⟩
 |succ a iha=>
  intro b;induction b with
  |zero=>intro S t _ Z;have:S.piles=[]:=LL.mp (by have:=iq t.b.q.ok;lia);exact⟨0,S,.done this,t,this⟩
  |succ b ih=>
   intro S t ha Z;by_cases J:S.piles=[]
   .exact⟨0,S,.done J,t,J⟩
   obtain⟨O,W,hd⟩:=step S t J;have:=O.few.1;rcases hd with h|h
   .obtain⟨n,T,l,r⟩:=iha _ _ O (by lia) (J6 _);exact⟨_,T,W _ _ l,r⟩
   .obtain⟨n,T,l,r⟩:=ih _ O (by lia) (by lia);exact⟨_,T,W _ _ l,r⟩
end Pz
namespace Pz
noncomputable def en:List Rule->Nat->List (Int×Rule)
 | [],_=>[]
 |r::l,k=>((k:Int),r)::en l (k+1)
theorem en_mem:∀{l:List Rule}{k:Nat}{n:Int}{r:Rule},(n,r)∈en l k↔∃ j:Nat,n=((k+j:Nat):Int)/\l[j]?=some r
 | [],k,n,r=>⟨λh=>(Ko h).elim,λ⟨j,_,h⟩=>by simp at h⟩
 |x::l,k,n,r=>by
  unfold en;rw[Kb,en_mem];constructor
  .rintro (h|⟨j,rfl,h⟩)
   .obtain⟨rfl,rfl⟩:=NE h;exact⟨0,rfl,rfl⟩
   .exact⟨j+1,by lia,by simpa using h⟩
  .rintro⟨j,rfl,h⟩;cases j with
   |zero=>left;simp at h;subst h;rfl
   |succ j=>exact .inr ⟨j,by lia,by simpa using h⟩
theorem mw:∀(l:List Rule)(k:Nat),(en l k).length=l.length
 | [],_=>rfl
 |_::l,k=>by unfold en;rw[Kl,Kl,mw]
noncomputable def dJ (d:RS)(x:Int×Rule):RS:=if x.2.2.2.2.length>0 then d.app (x.2.2.2.1,x.2.2.2.2[0]?.getD 0) x else d
noncomputable def dC (RL:List Rule):RS:=(en RL 0).foldl dJ []
theorem zQ (d:RS)(x:Int×Rule)(k:Int×Int)(z:Int×Rule):z∈(dJ d x).get k↔z∈d.get k\/(z=x/\∃ y l,x.2.2.2.2=y::l/\k=(x.2.2.2.1,y)):=by
 unfold dJ;cases h:x.2.2.2.2 with
 |nil=>rw[J_ (by simp)];exact⟨.inl,λq=>q.elim id λ⟨_,y,l,e,_⟩=>nomatch e⟩
 |cons y l=>
  rw[Ka (by simp),tp];have e0:(y::l)[0]?.getD 0=y:=rfl;rw[e0];by_cases e:(x.2.2.2.1,y)=k
  .rw[Ka e,Kr,Km,e];exact⟨λq=>q.elim .inl λq=>.inr ⟨q,y,l,rfl,e.symm⟩,λq=>q.elim .inl λq=>.inr q.1⟩
  .rw[J_ e];exact⟨.inl,λq=>q.elim id λ⟨_,J,L,e1,e2⟩=>by cases e1;exact(e e2.symm).elim⟩
theorem tq:∀(l:List (Int×Rule))(d:RS)(k:Int×Int)(z:Int×Rule),z∈(l.foldl dJ d).get k↔z∈d.get k\/(z∈l/\∃ y J,z.2.2.2.2=y::J/\k=(z.2.2.2.1,y))
 | [],d,k,z=>⟨.inl,λq=>q.elim id λq=>(Ko q.1).elim⟩
 |x::l,d,k,z=>by
  rw[Mn,tq l,zQ,Kb];constructor
  .rintro ((h|⟨rfl,h⟩)|⟨h1,h2⟩)
   .exact .inl h
   .exact .inr ⟨.inl rfl,h⟩
   .exact .inr ⟨.inr h1,h2⟩
  .rintro (h|⟨rfl|h1,h2⟩)
   .exact .inl (.inl h)
   .exact .inl (.inr ⟨rfl,h2⟩)
   .exact .inr ⟨h1,h2⟩
theorem xa:∀(l:List (Int×Rule))(d:RS),d.Ok->(l.foldl dJ d).Ok/\(l.foldl dJ d).flat.length<=d.flat.length+l.length
 | [],d,h=>⟨h,J6 _⟩
 |x::l,d,h=>by
  rw[Mn,Kl];have:(dJ d x).Ok/\(dJ d x).flat.length<=d.flat.length+1:=by
   unfold dJ;split
   .exact⟨pO h _ _,N4 (fO h.nk _ _).length_eq⟩
   .exact⟨h,by lia⟩
  obtain⟨a,b⟩:=xa l _ this.1;exact⟨a,by lia⟩
theorem uV {κ α:Type}:MD.Ok (κ:=κ) (α:=α) []:=⟨KI,λ_ h=>(Ko h).elim⟩
theorem GE (RL:List Rule):(dC RL).Ok/\(dC RL).flat.length<=RL.length:=by obtain⟨a,b⟩:=xa (en RL 0) [] uV;rw[mw]at b;exact⟨a,by rw[show MD.flat ([]:RS)=[] from rfl,KU,Lm]at b;exact b⟩
noncomputable def S0:PS:=⟨[],0,[],[],[]⟩
variable (pile:Int->Int->Int)
noncomputable def i7 (S:PS)(a:Arr):PS:=offer pile S a 0 none none
noncomputable def df (S:PS)(x:Int×Rule):PS:=if x.2.2.2.2.length=0 then offer pile S (x.2.1,x.2.2.1,x.2.2.2.1) 1 (some x.1) none else S
noncomputable def pR (RL:List Rule)(M:List Arr):PS:=(en RL 0).foldl (df pile) (M.foldl (i7 pile) S0)
variable {RL:List Rule}{M U:List Arr}{pile}{S:PS}
structure Beg (RL:List Rule) (M U:List Arr) (pile:Int->Int->Int) (S:PS) (k:Nat):Prop where
 b:B RL M pile U S []
 l0:S.last=0
 s0:S.settled=[]
 k0:S.lacking=[]
 len:S.piles.flat.length<=k
theorem Beg.no (h:Beg RL M U pile S k)(a:Arr)(q:Int):¬ Sd S a q:=by unfold Sd;rw[h.s0];exact λh=>(Ko h).elim
theorem Beg.offer (h:Beg RL M U pile S k)(J:Just RL M (Sd S) a (p,n,m))(L:a∈U)(O:0<=p)(hm:a∈M->Has S a 0\/(p,n,m)=(0,none,none)):Beg RL M U pile (offer pile S a p n m) (k+1):=by obtain⟨e1,e2,e3⟩:=iu (pile:=pile) (S:=S) a p n m;exact⟨h.b.offer J L (by rw[h.l0];exact O) (λh=>(Ko h).elim) (h.no _ _) hm,by rw[e3];exact h.l0,by rw[e1];exact h.s0,by rw[e2];exact h.k0,Ku (rN h.b.q.ok _ _ _ _) (Nat.add_le_add_right h.len 1)⟩
theorem JG:Beg RL M U pile S0 0:=by have no:∀{α:Type}{x:α},x∉([]:List α):=λh=>(Ko h).elim;exact⟨⟨⟨uV,Od _,λ_ h=>(no h).elim⟩,KI,KI,KI,(λ_ _ h=>nomatch h),(λ_ _ h=>nomatch h),(λ_ _ h=>nomatch h),(λ_ _ h=>(no h).elim),(λ_ _ h=>nomatch h),(λ_ _ h=>h.elim (λh=>(no h).elim) λh=>(no h).elim),(λ_ _ h=>h.elim (λh=>(no h).elim) λh=>(no h).elim),(λ_ _ h=>nomatch h)⟩,rfl,rfl,rfl,J6 _⟩
theorem Ic:∀(l:List Arr){S:PS}{k:Nat},Beg RL M U pile S k->(∀ a∈l,a∈M/\a∈U)->Beg RL M U pile (l.foldl (i7 pile) S) (k+l.length)/\(∀ a p,Has S a p->Has (l.foldl (i7 pile) S) a p)/\∀ a∈l,Has (l.foldl (i7 pile) S) a 0
 | [],S,k,h,_=>⟨h,λ_ _ h=>h,λ_ h=>(Ko h).elim⟩
 |a::l,S,k,h,J=>by
  obtain⟨h1,h2⟩:=J a Kj;have e:=h.offer (a:=a) (p:=0) (n:=none) (m:=none) ⟨rfl,rfl,h1⟩ h2 (Od _) λ_=>.inr rfl;obtain⟨r1,r2,r3⟩:=Ic l e λb hb=>J b (J8 _ hb);rw[Mn,Kl,Oi l.length,<- Nat.add_assoc];refine⟨r1,λb p h=>r2 b p (ir h),λb hb=>?_⟩;rcases Kb.mp hb with rfl|hb
  .exact r2 _ _ (ki _ _ _ _)
  .exact r3 b hb
theorem Ie (u2:∀ r∈RL,(r.1,r.2.1,r.2.2.1)∈U):∀(l:List (Int×Rule)){S:PS}{k:Nat},Beg RL M U pile S k->(∀ a∈M,Has S a 0)->(∀ x∈l,∃ j:Nat,x.1=j/\RL[j]?=some x.2)->
 Beg RL M U pile (l.foldl (df pile) S) (k+l.length)/\(∀ a p,Has S a p->Has (l.foldl (df pile) S) a p)/\∀ x∈l,x.2.2.2.2=[]->Has (l.foldl (df pile) S) (x.2.1,x.2.2.1,x.2.2.2.1) 1
 | [],S,k,h,_,_=>⟨h,λ_ _ h=>h,λ_ h=>(Ko h).elim⟩
 |x::l,S,k,h,hm,J=>by
  obtain⟨j,e1,e2⟩:=J x Kj;have one:Beg RL M U pile (df pile S x) (k+1)/\(∀ a p,Has S a p->Has (df pile S x) a p)/\(x.2.2.2.2=[]->Has (df pile S x) (x.2.1,x.2.2.1,x.2.2.2.1) 1):=by
   unfold df;by_cases h0:x.2.2.2.2.length=0
   .rw[Ka h0];have e:=h.offer (a:=(x.2.1,x.2.2.1,x.2.2.2.1)) (p:=1) (n:=some x.1) (m:=none) ⟨j,x.2,e1,e2,rfl,rfl,by rw[LL.mp h0];exact⟨rfl,rfl,rfl⟩⟩ (u2 _ (K3 e2)) (by decide) λh=>.inl (hm _ h);exact⟨e,λb p h=>ir h,λ_=>ki _ _ _ _⟩
   .rw[J_ h0];exact⟨⟨h.b,h.l0,h.s0,h.k0,Nat.le_succ_of_le h.len⟩,λ_ _ h=>h,λe=>(h0 (by rw[e];rfl)).elim⟩
  obtain⟨o1,L,O⟩:=one;obtain⟨r1,r2,r3⟩:=Ie u2 l o1 (λa ha=>L a 0 (hm a ha)) λb hb=>J b (J8 _ hb);rw[Mn,Kl,Oi l.length,<- Nat.add_assoc];refine⟨r1,λb p h=>r2 b p (L b p h),λb hb e=>?_⟩;rcases Kb.mp hb with rfl|hb
  .exact r2 _ _ (O e)
  .exact r3 b hb e
structure Set (RL:List Rule) (M U:List Arr):Prop where
 few:∀ r∈RL,r.2.2.2.length<=2
 u1:∀ a∈M,a∈U
 u2:∀ r∈RL,(r.1,r.2.1,r.2.2.1)∈U
 u3:∀ r∈RL,∀ s x t,(s,x,t)∈U->(r.1,r.2.1,t)∈U
 big:M.length+RL.length+RL.length*(U.length*U.length)<L
 big2:RL.length*U.length<L
 big3:U.length<L
theorem Set.house (h:Set RL M U):House RL M U (dC RL):=by
 refine⟨h.few,λ{n r c x} q=>?_,λ{j r x l} e1 e2=>?_,h.u1,h.u2,h.u3⟩
 .rcases (tq _ _ _ _).mp q with q|⟨q,y,l,e,k⟩
  .exact(Ko q).elim
  .obtain⟨j,e1,e2⟩:=en_mem.mp q;obtain⟨rfl,rfl⟩:=NE k;exact⟨j,l,by rw[e1,Lm],e2,rfl,e⟩
 .exact(tq _ _ _ _).mpr (.inr ⟨en_mem.mpr ⟨j,by rw[Lm],e1⟩,x,l,e2,rfl⟩)
theorem zR (h:Set RL M U):Top RL M U pile (M.length+RL.length) (pR pile RL M):=by
 obtain⟨a1,a2,J⟩:=Ic (RL:=RL) (M:=M) (U:=U) (pile:=pile) M JG λa ha=>⟨ha,h.u1 a ha⟩;obtain⟨b1,b2,L⟩:=Ie h.u2 (en RL 0) a1 J λx O=>by obtain⟨j,e1,e2⟩:=en_mem.mp O;exact⟨j,by rw[e1,Lm],e2⟩
 have b1:Beg RL M U pile (pR pile RL M) _:=b1;refine⟨b1.b,λa ha=>b2 a 0 (J a ha),λj r W=>?_,⟨by rw[b1.k0];exact uV,λ{n r q d y} h=>by rw[b1.k0]at h;exact(Ko h).elim,λ_ _ h=>(b1.no _ _ h).elim⟩,⟨by rw[b1.s0];exact uV,⟨[],KI,by rw[b1.s0];rfl,λ_ h=>(Ko h).elim⟩,by rw[b1.k0];exact KF _,?_⟩⟩
 .cases Y:r.2.2.2 with
  |nil=>exact L ((j:Int),r) (en_mem.mpr ⟨j,by rw[Lm],W⟩) Y
  |cons x l=>
   match l with
   | []=>exact λt q h=>(b1.no _ _ h).elim
   | [y]=>exact λd t q1 q2 h=>(b1.no _ _ h).elim
   |_::_::_=>trivial
 .have:=b1.len;rw[mw]at this;lia
def At (t:TD)(a:Arr)(q:Int):Prop:=∃ w,tget t a=some w/\w.1=q
def Low (t:TD)(a:Arr)(q:Int):Prop:=∃ w,tget t a=some w/\w.1<=q
structure Good (RL:List Rule) (M U:List Arr) (t:TD):Prop where
 nd:(t.map (·.1)).Nodup
 u:∀ a v,tget t a=some v->a∈U
 ju:∀ a v,tget t a=some v->Just RL M (At t) a v
 ps:∀ a v,tget t a=some v->0<=v.1
 m0:∀ a∈M,tget t a=some (0,none,none)
 clo:∀(j:Nat)(r:Rule),RL[j]?=some r->match r.2.2.2 with
  | []=>Low t (r.1,r.2.1,r.2.2.1) 1
  | [x]=>∀ d q,At t (r.2.2.1,x,d) q->Low t (r.1,r.2.1,d) (q+1)
  | [x,y]=>∀ d e q1 q2,At t (r.2.2.1,x,d) q1->At t (d,y,e) q2->Low t (r.1,r.2.1,e) (q1+q2+1)
  |_=>True
theorem Top.good (h:Top RL M U pile C S)(e:S.piles=[]):Good RL M U S.told:=by
 have hs:∀ a q,Sd S a q↔At S.told a q:=λa q=>by
  constructor
  .intro k;exact(h.b.sd a q k).2
  .rintro⟨w,k,rfl⟩;rcases h.b.sp a w k with k|k|k
   .exact k
   .rw[e]at k;exact(Ko k).elim
   .exact(Ko k).elim
 refine⟨h.b.tk,h.b.tu,λa v k=>(h.b.ju a v k).mono RL M λa q=>(hs a q).mp,h.b.ps,λa ha=>?_,λj r L=>?_⟩
 .obtain⟨v,k,_⟩:=h.mh a ha;rw[k,h.b.m0 a v k ha]
 .have hc:=h.clo j r L;cases J:r.2.2.2 with
  |nil=>rw[J]at hc;exact hc
  |cons x l=>
   rw[J]at hc
   match l with
   | []=>exact λt q k=>hc t q ((hs _ _).mpr k)
   | [y]=>exact λd t q1 q2 k1 k2=>hc d t q1 q2 ((hs _ _).mpr k1) ((hs _ _).mpr k2)
   |_::_::_=>trivial
theorem Set.run (P:Pile pile)(h:Set RL M U):Fit (pR pile RL M)/\∃ n T,Loop pile (dC RL) n (pR pile RL M) T/\Good RL M U T.told:=by have t:=zR (pile:=pile) h;obtain⟨n,T,l,J,e⟩:=t.loop P h.house (λk=>Ku (oq _ k) (GE RL).2) h.big h.big2 h.big3 _ _ _ (J6 _) (J6 _);exact⟨t.fit h.big h.big2 h.big3,n,T,l,J.good e⟩
end Pz
namespace Pz
theorem DR (x y k:Nat):(x ||| y)-(x &&& y)<2 ^ k↔x / 2 ^ k=y / 2 ^ k:=by
 have L:(x ||| y) / 2 ^ k=x / 2 ^ k ||| y / 2 ^ k:=by rw[<- LB,<- LB,<- LB,Nat.shiftRight_or_distrib]
 have O:(x &&& y) / 2 ^ k=x / 2 ^ k &&& y / 2 ^ k:=by rw[<- LB,<- LB,<- LB,Nat.shiftRight_and_distrib]
 have Y:(x ||| y) % 2 ^ k=x % 2 ^ k ||| y % 2 ^ k:=Nat.or_mod_two_pow;have mA:(x &&& y) % 2 ^ k=x % 2 ^ k &&& y % 2 ^ k:=Nat.and_mod_two_pow;have pos:0<2 ^ k:=Nat.two_pow_pos k;have W:=Nat.div_add_mod (x ||| y) (2 ^ k);have Z:=Nat.div_add_mod (x &&& y) (2 ^ k);have lO:=Oj (x ||| y) pos;have a1:x / 2 ^ k &&& y / 2 ^ k<=x / 2 ^ k:=Nat.and_le_left;have a2:x / 2 ^ k &&& y / 2 ^ k<=y / 2 ^ k:=Nat.and_le_right;have a3:x / 2 ^ k<=x / 2 ^ k ||| y / 2 ^ k:=Nat.left_le_or;have a4:y / 2 ^ k<=x / 2 ^ k ||| y / 2 ^ k:=Nat.right_le_or;have a5:x % 2 ^ k &&& y % 2 ^ k<=x % 2 ^ k:=Nat.and_le_left;have a6:x % 2 ^ k<=x % 2 ^ k ||| y % 2 ^ k:=Nat.left_le_or;constructor
 .intro h;refine Nat.le_antisymm ?_ ?_
  all_goals
   refine Nat.not_lt.mp λhc=>?_;have J:(x &&& y) / 2 ^ k+1<=(x ||| y) / 2 ^ k:=by lia
   have hm:=N2 (2 ^ k) J;rw[Oe,Nat.mul_one]at hm;lia
 .intro e;have e1:(x ||| y) / 2 ^ k=(x &&& y) / 2 ^ k:=by rw[L,O,e,Nat.or_self,Nat.and_self]
  rw[e1]at W;lia
theorem DS (z k:Nat):(if ((z:Int)==0)=true then 0 else (z:Int).natAbs.log2+1)<=k↔z<2 ^ k:=by
 rw[Int.natAbs_natCast];by_cases h:z=0
 .subst h;rw[Ka (by decide)];exact⟨λ_=>Nat.two_pow_pos k,λ_=>KF _⟩
 .have:¬ ((z:Int)==0)=true:=by simpa using h
  rw[J_ this];exact Nat.log2_lt h
end Pz
namespace L4
open PySem PySem.Spec PyProof.Rows L2 L3
section
variable {κ:Type}[DecidableEq κ]
noncomputable abbrev DX (κ:Type):=List (κ×Addr×List V)
noncomputable abbrev DX.kv (xs:DX κ):List (κ×V):=xs.map λx=>(x.1,V.ref x.2.1)
structure DL (mk:List (κ×V)->HO) (H:Hp) (a:Addr) (xs:DX κ):Prop where
 root:H a=some (mk xs.kv)
 kid:∀ x∈xs,H x.2.1=some (.lst x.2.2)
 nk:(xs.map (·.1)).Nodup
 na:(xs.map (·.2.1)).Nodup
def InD (a:Addr)(xs:DX κ)(b:Addr):Prop:=b=a\/∃ x∈xs,b=x.2.1
noncomputable def fQ (xs:DX κ)(k:κ):Option (Addr×List V):=(xs.find? λx=>decide (x.1=k)).map (·.2)
noncomputable def mB (xs:DX κ)(k:κ)(v:V):DX κ:=xs.map λx=>if x.1=k then (x.1,x.2.1,x.2.2++[v]) else x
theorem gM (xs:DX κ)(k:κ):cS xs.kv k=(fQ xs k).map λp=>.ref p.1:=by
 induction xs with
 |nil=>rfl
 |cons x r J=>
  unfold fQ at J ⊢;show cS ((x.1,V.ref x.2.1)::DX.kv r) k=_;rw[LI];by_cases h:x.1=k
  .rw[fB h,Ki h];rfl
  .rw[fC h,Kv h,J]
theorem zS (xs:DX κ)(k:κ)(v:V):(mB xs k v).kv=xs.kv:=by unfold mB DX.kv;rw[KM];apply Ln;intro x _;show((if x.1=k then (x.1,x.2.1,x.2.2++[v]) else x).1,V.ref (if x.1=k then (x.1,x.2.1,x.2.2++[v]) else x).2.1)=_;split<;>rfl
theorem pS {β:Type}(f:κ×Addr×List V->β)(hf:∀ a b c d,f (a,b,c)=f (a,b,d))(xs:DX κ)(k:κ)(v:V):(mB xs k v).map f=xs.map f:=by
 unfold mB;rw[KM];apply Ln;intro x _;show f (if x.1=k then (x.1,x.2.1,x.2.2++[v]) else x)=_;split
 .exact hf _ _ _ _
 .rfl
theorem bZ {xs:DX κ}(h:fQ xs k=some p):(k,p)∈xs:=by unfold fQ at h;obtain⟨x,J,rfl⟩:=K1.mp h;have h1:=List.find?_some J;have h2:=List.mem_of_find?_eq_some J;have e:x.1=k:=K7 h1;obtain⟨a,b⟩:=x;dsimp only at e;subst e;exact h2
theorem zT {xs:DX κ}(h:fQ xs k=none):k∉xs.map (·.1):=λJ=>by obtain⟨x,L,rfl⟩:=Kg.mp J;unfold fQ at h;have:=List.find?_eq_none.mp (Option.map_eq_none_iff.mp h) x L;simp at this
variable {mk:List (κ×V)->HO}{H H':Hp}{a l:Addr}{xs:DX κ}{k:κ}{v:V}{p:Addr×List V}
theorem DL.old (L:∀ q ws,mk q≠.lst ws)(G:DL mk H a xs)(Z:fQ xs k=some p)(hm:H' p.1=some (.lst (p.2++[v])))(kp:∀ c u,H c=some u->c≠p.1->H' c=some u):DL mk H' a (mB xs k v):=by
 have O:=bZ Z;have W:a≠p.1:=λe=>by have:=G.kid _ O;dsimp only at this;rw[<- e,G.root]at this;exact L _ _ (Kx this)
 refine⟨by rw[zS];exact kp _ _ G.root W,λx hx=>?_,by rw[pS _ (λ_ _ _ _=>rfl)];exact G.nk,by rw[pS _ (λ_ _ _ _=>rfl)];exact G.na⟩;obtain⟨y,Y,rfl⟩:=Kg.mp hx;by_cases e:y.1=k
 .rw[Ka e];have:y=(k,p):=by
   have h1:(xs.map (·.1)).Nodup:=G.nk;obtain⟨i,hi⟩:=Kn.mp Y;obtain⟨j,J⟩:=Kn.mp O;have e1:(xs.map (·.1))[i]?=some k:=by rw[Ks,hi];exact LQ some e
   have e2:(xs.map (·.1))[j]?=some k:=by rw[Ks,J];rfl
   have:i=j:=(Oa (Ke.mp e1).1 h1).mp (e1.trans e2.symm);subst this;rw[hi]at J;exact Kx J
  subst this;exact hm
 .rw[J_ e];refine kp _ _ (G.kid y Y) λq=>e ?_;obtain⟨i,hi⟩:=Kn.mp Y;obtain⟨j,J⟩:=Kn.mp O;have e1:(xs.map (·.2.1))[i]?=some p.1:=by rw[Ks,hi];exact LQ some q
  have e2:(xs.map (·.2.1))[j]?=some p.1:=by rw[Ks,J];rfl
  have:i=j:=(Oa (Ke.mp e1).1 G.na).mp (e1.trans e2.symm);subst this;rw[hi]at J;rw[Kx J]
theorem DL.new (L:∀ q ws,mk q≠.lst ws)(G:DL mk H a xs)(W:fQ xs k=none)(Y:H l=none)(hm:H' l=some (.lst [v]))(ha:H' a=some (mk (xs.kv++[(k,.ref l)])))(kp:∀ c u,H c=some u->c≠a->H' c=some u):DL mk H' a (xs++[(k,l,[v])]):=by
 have nl:∀ x∈xs,x.2.1≠l:=λx J e=>by have:=G.kid x J;rw[e,Y]at this;cases this
 refine⟨by rw[ha];unfold DX.kv;rw[Ll];rfl,λx J=>?_,?_,?_⟩
 .rcases Kr.mp J with h|h
  .refine kp _ _ (G.kid x h) λe=>?_;have:=G.kid x h;rw[e,G.root]at this;exact L _ _ (Kx this)
  .rw[Km]at h;subst h;exact hm
 .rw[Ll,Mi];exact⟨G.nk,by simp,λb O c hc e=>by rw[Kc,Lx,Km]at hc;subst hc;subst e;exact zT W O⟩
 .rw[Ll,Mi];exact⟨G.na,by simp,λb O c hc e=>by rw[Kc,Lx,Km]at hc;subst hc;subst e;obtain⟨x,J,q⟩:=Kg.mp O;exact nl x J q⟩
end
def rP (t:TE)(σ:L2.St)(H:Hp)(v:V):Prop:=∀ Q:VK,Q v H->t σ H Q
def BS (t:TE)(σ:L2.St)(H:Hp)(ws:List V):Prop:=∀ Q:VK,(∀ p,H p=none->Q (.ref p) (aI H p (.tup ws)))->t σ H Q
noncomputable def ku {κ:Type}[DecidableEq κ](xs:DX κ)(k:κ)(l:Addr)(v:V):DX κ:=if (fQ xs k).isSome then mB xs k v else xs++[(k,l,[v])]
noncomputable def rQ (K:On) (to tk te:TE):TE:=Hz K "list" sq (Hz K "dict" Bd to (az tk (az (wd be) be))) (az te be)
theorem tz {K:On}{to tk te:TE}{σ:L2.St}{H:Hp}{C:Hp->Prop}(G:DL .dT H a xs)(hto:rP to σ H (.ref a))(htk:rP tk σ H (.ref b))(hb:H b=some (.tup (k.map kV)))
 (hte:∀ H',(∀ c u,H c=some u->c≠a->H' c=some u)->BS te σ H' ws) (hz:xs.length<16000000) (hw:∀ x∈xs,x.2.2.length<16000000)
 (kk:∀(l p:Addr)(H':Hp),H l=none->H p=none->H' p=some (.tup ws)->DL .dT H' a (ku xs k l (.ref p))->(∀ c u,H c=some u->¬ InD a xs c->H' c=some u)->C H') :
 rQ K to tk te σ H λ_ H'=>C H':=by
 have sz:∀ n,n<16000000->n<sizeLine:=λn h=>by rw[KL];lia
 have han:H a≠none:=by rw[G.root];simp
 refine hto _ ⟨.inr (.inr (.inl ⟨rfl,.inr ⟨_,G.root⟩⟩)),htk _ ⟨KF _,λl W=>?_⟩⟩;have L:a≠l:=λe=>han (by rw[e];exact W);have O:∀ c u,H c=some u->aI H l (.lst []) c=some u:=λc u e=>by rw[ac (ah e W)];exact e
 refine⟨a,b,k,.ref l,xs.kv,rfl,rfl,O _ _ hb,.inl (O _ _ G.root),sz _ (by unfold DX.kv;rw[J9];exact hz),?_⟩;cases hf:fQ xs k with
 |some q=>
  left;have hq:=G.kid _ (bZ hf);refine⟨.ref q.1,by rw[gM,hf];rfl,.inl ⟨rfl,_,SqL.of (O _ _ hq)⟩,hte _ (λc u e _=>O c u e) _ λp Y=>?_⟩;have J:H p=none:=(aK W).free Y;have nqp:q.1≠p:=λe=>by dsimp only at hq;rw[e,J]at hq;cases hq
  refine⟨q.1,q.2,.ref p,rfl,rfl,by rw[ac nqp];exact O _ _ hq,sz _ (hw _ (bZ hf)),?_⟩;have kp:∀ c u,H c=some u->c≠q.1->aI (aI (aI H l (.lst [])) p (.tup ws)) q.1 (.lst (q.2++[.ref p])) c=some u:=λc u e hn=>by rw[ac hn,ac (ah e J)];exact O c u e
  refine kk l p _ W J (by rw[ac (K9 nqp),af]) ?_ λc u e hn=>kp c u e λz=>hn (.inr ⟨_,bZ hf,z⟩);unfold ku;rw[hf,Ka (by simp)];exact G.old (λ_ _ z=>nomatch z) hf af kp
 |none=>
  right;refine⟨by rw[gM,hf];rfl,.inl ⟨rfl,[],SqL.of (by rw[ac (K9 L),af])⟩,hte _ (λc u e hn=>by rw[ac hn];exact O c u e) _ λp Y=>?_⟩;have hvn:cS xs.kv k=none:=by rw[gM,hf];rfl
  have hpa:p≠a:=λe=>by rw[e,af]at Y;cases Y
  have Z:p≠l:=λe=>by rw[e,ac (K9 L),af]at Y;cases Y
  have J:H p=none:=by rw[ac hpa,ac Z]at Y;exact Y
  refine⟨l,[],.ref p,rfl,rfl,by rw[ac (K9 Z),ac (K9 L),af],by decide,?_⟩;refine kk l p _ W J (by rw[ac Z,af]) ?_ λc u e hn=>?_
  .unfold ku;rw[hf,J_ (by simp)];refine G.new (λ_ _ z=>nomatch z) hf W af (by rw[ac L,ac (K9 hpa),af,oR _ hvn]) λc u e hn=>?_;rw[ac (ah e W),ac (ah e J),ac hn];exact O c u e
  .rw[ac (ah e W),ac (ah e J),ac (λz=>hn (.inl z))];exact O c u e
noncomputable def EN (K:On) (to tk te:TE):TE:=Hz K "list" sq (Hz K "dict" EB to (az tk (az (wd be) be))) (az te be)
theorem DT {K:On}{to tk te:TE}{σ:L2.St}{H:Hp}{C:Hp->Prop}(G:DL .dK H a xs)(hto:rP to σ H (.ref a))(htk:rP tk σ H (.int i))
 (hte:∀ H',(∀ c u,H c=some u->c≠a->H' c=some u)->BS te σ H' ws) (hz:xs.length<16000000) (hw:∀ x∈xs,x.2.2.length<16000000)
 (kk:∀(l p:Addr)(H':Hp),H l=none->H p=none->H' p=some (.tup ws)->DL .dK H' a (ku xs (.inl i) l (.ref p))->(∀ c u,H c=some u->¬ InD a xs c->H' c=some u)->C H') :
 EN K to tk te σ H λ_ H'=>C H':=by
 have sz:∀ n,n<16000000->n<sizeLine:=λn h=>by rw[KL];lia
 have han:H a≠none:=by rw[G.root];simp
 refine hto _ ⟨.inr (.inr (.inl ⟨rfl,.inl ⟨_,G.root⟩⟩)),htk _ ⟨KF _,λl O=>?_⟩⟩;have L:a≠l:=λe=>han (by rw[e];exact O);have W:∀ c u,H c=some u->aI H l (.lst []) c=some u:=λc u e=>by rw[ac (ah e O)];exact e
 refine⟨a,.inl i,.ref l,xs.kv,rfl,rfl,.inl (W _ _ G.root),sz _ (by unfold DX.kv;rw[J9];exact hz),?_⟩;cases hf:fQ xs (.inl i) with
 |some q=>
  left;have hq:=G.kid _ (bZ hf);refine⟨.ref q.1,by rw[gM,hf];rfl,.inl ⟨rfl,_,SqL.of (W _ _ hq)⟩,hte _ (λc u e _=>W c u e) _ λp Y=>?_⟩;have J:H p=none:=(aK O).free Y;have nqp:q.1≠p:=λe=>by dsimp only at hq;rw[e,J]at hq;cases hq
  refine⟨q.1,q.2,.ref p,rfl,rfl,by rw[ac nqp];exact W _ _ hq,sz _ (hw _ (bZ hf)),?_⟩;have kp:∀ c u,H c=some u->c≠q.1->aI (aI (aI H l (.lst [])) p (.tup ws)) q.1 (.lst (q.2++[.ref p])) c=some u:=λc u e hn=>by rw[ac hn,ac (ah e J)];exact W c u e
  refine kk l p _ O J (by rw[ac (K9 nqp),af]) ?_ λc u e hn=>kp c u e λz=>hn (.inr ⟨_,bZ hf,z⟩);unfold ku;rw[hf,Ka (by simp)];exact G.old (λ_ _ z=>nomatch z) hf af kp
 |none=>
  right;refine⟨by rw[gM,hf];rfl,.inl ⟨rfl,[],SqL.of (by rw[ac (K9 L),af])⟩,hte _ (λc u e hn=>by rw[ac hn];exact W c u e) _ λp Y=>?_⟩;have hvn:cS xs.kv (.inl i)=none:=by rw[gM,hf];rfl
  have hpa:p≠a:=λe=>by rw[e,af]at Y;cases Y
  have Z:p≠l:=λe=>by rw[e,ac (K9 L),af]at Y;cases Y
  have J:H p=none:=by rw[ac hpa,ac Z]at Y;exact Y
  refine⟨l,[],.ref p,rfl,rfl,by rw[ac (K9 Z),ac (K9 L),af],by decide,?_⟩;refine kk l p _ O J (by rw[ac Z,af]) ?_ λc u e hn=>?_
  .unfold ku;rw[hf,J_ (by simp)];refine G.new (λ_ _ z=>nomatch z) hf O af (by rw[ac L,ac (K9 hpa),af,oR _ hvn]) λc u e hn=>?_;rw[ac (ah e O),ac (ah e J),ac hn];exact W c u e
  .rw[ac (ah e O),ac (ah e J),ac (λz=>hn (.inl z))];exact W c u e
section
variable {X:Cx}
noncomputable def EO:V->List V->Hp->VK->Prop:=λx xs H Q=>∃ i,x=.int i/\xs=[]/\Q (.int (Builtin.Int.intBits i)) H
theorem DU:FS X "int.bit_length" EO:=by intro pins s σ H x xs v us Q I J rs q;obtain⟨i,rfl,rfl,q⟩:=q;obtain⟨t,rfl⟩:=J;cases rs;exact call_int_bit_length ⟨.int _,H,I.tok _,⟨_,rfl⟩,q⟩
end
structure QAt (C:Addr) (H:Hp) (q ap:Addr) (last:Int) (xs:DX Key):Prop where
 ins:∃ dx,H q=some (.ins C dx [("last",.int last),("piles",.ref ap)])
 piles:DL .dK H ap xs
 few:xs.length<16000000
 low:∀ x∈xs,x.2.2.length<16000000
structure QCls (K:On) (C:Addr):Prop where
 cl:Cls K C
 nl:NoAttr K C "last"
 np:NoAttr K C "piles"
noncomputable def au (J last:Int):Int:=Builtin.Int.intBits (Builtin.bitXor J last)
noncomputable def Ig (K:On):TE:=EN K (fy K (aA 0) "piles") (FW K "int" EO (lZ (xw λi j=>.int (Builtin.bitXor i j)) (aA 1) (fy K (aA 0) "last"))) (lh (az (aA 1) (az (aA 2) be)))
theorem GF {K:On}{C q ap b:Addr}{H:Hp}{Cn:Hp->Prop}(T:QCls K C)(G:QAt C H q ap last xs)(h0:σ[0]?=some (some (.ref q)))(h1:σ[1]?=some (some (.int price)))(h2:σ[2]?=some (some (.ref b)))
 (L:∀(l p:Addr)(H':Hp),H l=none->H p=none->H' p=some (.tup [.int price,.ref b])->(∃ dx,H' q=some (.ins C dx [("last",.int last),("piles",.ref ap)]))->DL .dK H' ap (ku xs (.inl (au price last)) l (.ref p))->(∀ c u,H c=some u->¬ InD ap xs c->H' c=some u)->Cn H') :
 Ig K σ H λ_ H'=>Cn H':=by
 obtain⟨dx,J⟩:=G.ins;have O:¬ InD ap xs q:=λz=>by
  rcases z with z|⟨x,W,z⟩
  .have:=G.piles.root;rw[<- z,J]at this;cases this
  .have:=G.piles.kid x W;rw[<- z,J]at this;cases this
 refine DT (ws:=[.int price,.ref b]) (i:=au price last) G.piles (λQ h=>⟨_,h0,q,C,dx,_,_,rfl,J,T.cl,T.np,rfl,h⟩) (λQ h=>?_) (λH' _ Q h=>⟨_,h1,_,h2,(by show 2<=sizeLine;decide),h⟩) G.few G.low λl p H' Y Z hm hd kp=>L l p H' Y Z hm ⟨dx,kp _ _ J O⟩ hd kp;exact⟨_,h1,_,h0,q,C,dx,_,_,rfl,J,T.cl,T.nl,rfl,_,_,rfl,rfl,rfl,_,rfl,rfl,h⟩
noncomputable def rR (C:Addr):Sp:=λvs H Q _=>∃(q ap b:Addr)(last J:Int)(xs:DX Key),vs=[.ref q,.int J,.ref b]/\QAt C H q ap last xs/\
 ∀(l p:Addr)(H':Hp),H l=none->H p=none->H' p=some (.tup [.int J,.ref b])->(∃ dx,H' q=some (.ins C dx [("last",.int last),("piles",.ref ap)]))->DL .dK H' ap (ku xs (.inl (au J last)) l (.ref p))->(∀ c u,H c=some u->¬ InD ap xs c->H' c=some u)->Q .non H'
theorem zU (h:rR C vs H Q E):vs.length=3:=by obtain⟨q,ap,b,last,J,xs,rfl,_⟩:=h;rfl
theorem BU {K:On}{C:Addr}{vs:List V}(T:QCls K C)(h:rR C vs H Q E)(L:N.length=3):dG (Ig K) { nx:=λ_ H'=>Q .non H',rt:=Q } (cf N vs) H:=by obtain⟨q,ap,b,last,J,xs,rfl,G,k⟩:=h;exact GF T G rfl rfl rfl k
section
variable {κ:Type}[DecidableEq κ]{mk:List (κ×V)->HO}{H H':Hp}{a:Addr}{xs:DX κ}{k:κ}{p:Addr×List V}
noncomputable def i8 (xs:DX κ)(k:κ):DX κ:=xs.filter λx=>decide (x.1≠k)
theorem BV (xs:DX κ)(k:κ):(i8 xs k).kv=kz xs.kv k:=by unfold i8 kz DX.kv;rw[List.filter_map];rfl
theorem DL.drop (Y:∀ q ws,mk q≠.lst ws)(G:DL mk H a xs)(hk:fQ xs k=some p)(ha:H' a=some (mk (kz xs.kv k)))(kp:∀ c u,H c=some u->c≠a->H' c=some u) :
 DL mk H' a (i8 xs k)/\H' p.1=some (.lst p.2)/\¬ InD a (i8 xs k) p.1:=by
 have W:=bZ hk;have J:∀ x∈xs,x.2.1≠a:=λx L e=>by have:=G.kid x L;rw[e,G.root]at this;exact Y _ _ (Kx this)
 have sub:(i8 xs k).Sublist xs:=List.filter_sublist;refine⟨⟨by rw[BV];exact ha,λx L=>?_,(sub.map _).nodup G.nk,(sub.map _).nodup G.na⟩,kp _ _ (G.kid _ W) (J _ W),λz=>?_⟩
 .have O:=(Lc.mp L).1;exact kp _ _ (G.kid x O) (J x O)
 .rcases z with z|⟨x,L,z⟩
  .exact J _ W z
  .obtain⟨h1,h2⟩:=Lc.mp L;have Z:x.1≠k:=K7 h2;obtain⟨i,hi⟩:=Kn.mp h1;obtain⟨j,hj⟩:=Kn.mp W;have e1:(xs.map (·.2.1))[i]?=some p.1:=by rw[Ks,hi];exact LQ some z.symm
   have e2:(xs.map (·.2.1))[j]?=some p.1:=by rw[Ks,hj];rfl
   have:i=j:=(Oa (Ke.mp e1).1 G.na).mp (e1.trans e2.symm);subst this;rw[hi]at hj;exact Z (by rw[Kx hj])
end
end L4
namespace L4
open PySem PySem.Spec PySem.Calls PyProof.Rows L2 L3
section
variable {X:Cx}
noncomputable abbrev uW (v d:Addr):HO:=.ext λh=>PySem.W.KdlKeysView h v d
noncomputable def EQ:V->List V->Hp->VK->Prop:=λx xs H Q=>∃ a kvs,x=.ref a/\xs=[]/\H a=some (.dK kvs)/\∀ v,H v=none->Q (.ref v) (aI H v (uW v a))
theorem DV:FS X "dict.keys" EQ:=by intro pins s σ H x xs v us Q I J rs q;obtain⟨a,kvs,rfl,rfl,ha,q⟩:=q;obtain rfl:v=Value.ref a:=J;cases rs;obtain⟨z,hd,vs,rel,dd⟩:=xG I.hok ha;refine Ni PySem.F.slot_dict_keys dd.typeIs PySem.F.entry_dict_keys (PySem.F.args_dict_keys_1 _) (PySem.W.kdl_meets_keys (aE X.prog X.w) a hd) ?_;have L:PySem.W.KdlKeysView (s.heap.push { cls:=.type "dict_keys",data:=.fields #[.ref a] }) s.heap.objs.size a:=⟨_,Kh _ rfl,rfl,rfl⟩;exact⟨⟨vs,dd⟩,.ref s.heap.objs.size,_,I.laid (a:=s.heap.objs.size) (o:=uW s.heap.objs.size a) (t':=s.toks) (λ_ _ e=>J5 _ e) (J6 _) ⟨L,⟨_,Kh _ rfl⟩,λh1 h2 ⟨o,O,r⟩ k=>⟨o,k _ O,r⟩⟩,rfl,q _ (I.hok.fresh (J6 _))⟩
noncomputable def ER:List V->Hp->VK->Prop:=λxs H Q=>∃(v a:Addr)(kvs:List (Key×V))(ns:List Int),xs=[.ref v]/\H v=some (uW v a)/\H a=some (.dK kvs)/\kvs.map (·.1)=ns.map Sum.inl/\ns≠[]/\Q (.int (sI ns)) H
theorem zV (hc:X.calm=true):CallR X (.builtin "min") ER:=by
 intro pins s σ H xs us Q I r q;obtain⟨v,a,kvs,ns,rfl,hv,ha,hk,hne,q⟩:=q;obtain⟨u,rfl,ru⟩:=fV r;obtain rfl:u=Value.ref v:=ru;obtain⟨z,hd,vs,rel,dd⟩:=xG I.hok ha;obtain⟨hv',_,_⟩:=(show ObjOk X.prog X.w H s.heap v (uW v a) from I.hok v _ hv);obtain⟨ep,da⟩:=dd.dictAt;have hl:=rel.length;have hkn:kvs.length=ns.length:=by have:=LQ List.length hk;simpa using this
 have L:∀(i:Nat)(k:Key)(x:Oq),vs[i]?=some (k,x)->∃ n,ns[i]?=some n/\k=.inl n:=λi k x e=>by
  have hi:i<kvs.length:=by rw[hl];exact(Ke.mp e).1
  obtain⟨e1,_⟩:=rel.at i _ _ (KQ hi) e;have e2:(kvs.map (·.1))[i]?=some k:=by rw[Ks,KQ hi];exact LQ some e1
  rw[hk,Ks]at e2;obtain⟨n,h1,h2⟩:=K1.mp e2;exact⟨n,h1,h2.symm⟩
 generalize J:(ns.map λn=>(n,(0:Tok))).toArray=ps;have hsz:ps.size=ns.length:=by rw[<- J];simp
 have O:∀(i:Nat)(n:Int),ns[i]?=some n->numAt ps i=n:=λi n e=>by unfold numAt;rw[<- J];simp[e]
 have hpn:ps.toList.map (·.1)=ns:=by rw[<- J];simp[Function.comp_def]
 have hpos:0<ns.length:=N1.mpr hne;have Y:a≠s.heap.objs.size:=by obtain⟨o,_,_,ho,_⟩:=dd;exact Kt (Kk ho)
 refine call_min_walk (PySem.W.kdl_pyIter_keys (knd:=aE X.prog X.w) (s:=s) hv' da ?_);refine⟨_,_,_,_,_,_,_,rfl,Walks.dictKeys (knd:=aE X.prog X.w) (A:=X.A.in1) (I.ok.hd hc) s.heap.objs.size a Y vs ep,⟨⟨_,Kh _ rfl,rfl,rfl⟩,da.at' λo e=>J5 _ e⟩,λb Z=>?_,by lia,CmpOf.ints_lt (numAt ps) (λi v hv=>?_),λv h' tk hP kp=>?_⟩
 .simp only[Kb,Ko,Ol]at Z;rw[Ms];rcases Z with rfl|rfl
  .exact Mo _
  .obtain⟨o,_,_,ho,_⟩:=dd;exact MB (Kk ho)
 .obtain⟨k,x,e1,e2⟩:=hv;obtain⟨n,e3,rfl⟩:=L i k x e1;obtain⟨j,t,e4,rfl⟩|⟨j,t,e4,_⟩:=aX (show lb (.inl n) v=true from e2)
  .cases e4;exact⟨t,by rw[O i n e3]⟩
  .cases e4
 .obtain⟨k,x,e1,e2⟩:=hP;obtain⟨n,e3,rfl⟩:=L _ k x e1;obtain⟨j,t,e4,rfl⟩|⟨j,t,e4,_⟩:=aX (show lb (.inl n) v=true from e2)
  .cases e4;have Z:=o9 ps (vs.length-1) (by lia);rw[O _ n e3,hpn,Lg (by lia)]at Z;exact⟨.int n,H,I.kept (t':=tk) λb o e=>kp b o (λhm=>by rw[Km]at hm;subst hm;exact MH _ (Kk e)) (J5 _ e),⟨t,rfl⟩,by rw[Z];exact q⟩
  .cases e4
end
end L4
namespace L4
open PySem PySem.Spec PyProof.Rows L2 L3
inductive All2 {α β:Type} (R:α->β->Prop):List α->List β->Prop where
 |nil:All2 R [] []
 |cons {x y xs ys}:R x y->All2 R xs ys->All2 R (x::xs) (y::ys)
section
variable {α β:Type}{R R':α->β->Prop}{xs:List α}{ys:List β}
theorem All2.len (h:All2 R xs ys):xs.length=ys.length:=by
 induction h with
 |nil=>rfl
 |cons _ _ J=>rw[Kl,Kl,J]
theorem All2.mono (f:∀ x y,R x y->R' x y)(h:All2 R xs ys):All2 R' xs ys:=by
 induction h with
 |nil=>exact .nil
 |cons a _ J=>exact .cons (f _ _ a) J
theorem All2.snoc (h:All2 R xs ys)(r:R x y):All2 R (xs++[x]) (ys++[y]):=by
 induction h with
 |nil=>exact .cons r .nil
 |cons a _ J=>exact .cons a J
theorem All2.get (h:All2 R xs ys){i:Nat}(e:ys[i]?=some y):∃ x,xs[i]?=some x/\R x y:=by
 induction h generalizing i with
 |nil=>simp at e
 |cons a _ J=>
  cases i with
  |zero=>simp at e;subst e;exact⟨_,rfl,a⟩
  |succ i=>simp at e;obtain⟨x,e1,e2⟩:=J e;exact⟨x,by simpa using e1,e2⟩
theorem All2.map2 {J L:Type}{T:J->L->Prop}(f:α->J)(g:β->L)(k:∀ x y,R x y->T (f x) (g y))(h:All2 R xs ys):All2 T (xs.map f) (ys.map g):=by
 induction h with
 |nil=>exact .nil
 |cons a _ O=>exact .cons (k _ _ a) O
end
def KT (H H':Hp):Prop:=∀ a ws,H a=some (.tup ws)->H' a=some (.tup ws)
section
variable {κ κ' α:Type}[DecidableEq κ][DecidableEq κ'](key:κ->κ')(it:Hp->α->V->Prop)
abbrev RepM (H:Hp)(d:Pz.MD κ α)(xs:DX κ'):Prop:=All2 (λx y=>y.1=key x.1/\All2 (it H) x.2 y.2.2) d xs
variable {key it}{H H':Hp}{d:Pz.MD κ α}{xs:DX κ'}
theorem RepM.keep (hm:∀ a v,it H a v->it H' a v)(h:RepM key it H d xs):RepM key it H' d xs:=h.mono λ_ _ ⟨e,a⟩=>⟨e,a.mono hm⟩
theorem RepM.find (inj:∀ a b,key a=key b->a=b)(h:RepM key it H d xs)(k:κ) :
 (fQ xs (key k)=none/\d.has k=false/\d.get k=[])\/∃ p,fQ xs (key k)=some p/\d.has k=true/\All2 (it H) (d.get k) p.2:=by
 induction h with
 |nil=>exact .inl ⟨rfl,rfl,rfl⟩
 | @cons x y d xs r _ J=>
  unfold fQ at J ⊢;unfold Pz.MD.has at J ⊢;rw[LI,Pz.bB,MK];by_cases e:x.1=k
  .right;have:y.1=key k:=by rw[r.1,e]
   rw[Ki this,Ki e,Ka e];exact⟨y.2,rfl,rfl,r.2⟩
  .have:¬ y.1=key k:=λz=>e (inj _ _ (r.1.symm.trans z));rw[Kv this,Kv e,J_ e,Bool.false_or];exact J
theorem RepM.add (inj:∀ a b,key a=key b->a=b)(hm:∀ a v,it H a v->it H' a v)(h:RepM key it H d xs)(J:it H' v (.ref p)):RepM key it H' (d.app k v) (ku xs (key k) l (.ref p)):=by
 have h':=h.keep hm;unfold Pz.MD.app ku;rcases h.find inj k with⟨e1,e2,_⟩|⟨q,e1,e2,_⟩
 .rw[e1,e2];exact h'.snoc ⟨rfl,.cons J .nil⟩
 .rw[e1,e2];refine h'.map2 _ _ λx y ⟨r1,r2⟩=>?_;by_cases e:x.1=k
  .have:y.1=key k:=by rw[r1,e]
   rw[Ka e,Ka this];exact⟨r1,r2.snoc J⟩
  .have:¬ y.1=key k:=λz=>e (inj _ _ (r1.symm.trans z));rw[J_ e,J_ this];exact⟨r1,r2⟩
theorem RepM.drop (inj:∀ a b,key a=key b->a=b)(h:RepM key it H d xs)(k:κ):RepM key it H (d.drop k) (i8 xs (key k)):=by
 induction h with
 |nil=>exact .nil
 | @cons x y d xs r _ J=>
  unfold Pz.MD.drop i8 at J ⊢;by_cases e:x.1=k
  .have:y.1=key k:=by rw[r.1,e]
   rw[Nt (by simpa using e),Nt (by simpa using this)];exact J
  .have:¬ y.1=key k:=λz=>e (inj _ _ (r.1.symm.trans z));rw[Nu (by simpa using e),Nu (by simpa using this)];exact .cons r J
theorem RepM.keys (h:RepM key it H d xs):xs.map (·.1)=d.keys.map key:=by
 induction h with
 |nil=>rfl
 |cons r _ J=>rw[Kc,Pz.MD.keys,Kc,Kc,r.1];exact LQ _ J
theorem RepM.low (h:RepM key it H d xs)(hn:d.flat.length<n):∀ x∈xs,x.2.2.length<n:=by
 induction h with
 |nil=>exact λ_ h=>(Ko h).elim
 | @cons x y d xs r _ J=>
  unfold Pz.MD.flat at hn J;rw[Ml,Kp]at hn;intro z hz;rcases Kb.mp hz with rfl|hz
  .have:=r.2.len;lia
  .exact J (by lia) z hz
end
noncomputable def vO:Option Int->V
 |none=>.non
 |some i=>.int i
noncomputable def DW (a:Pz.Arr):List V:=[.int a.1,.int a.2.1,.int a.2.2]
def IsArr (H:Hp)(a:Pz.Arr)(v:V):Prop:=∃ p,v=.ref p/\H p=some (.tup (DW a))
def IsRule (H:Hp)(r:Pz.Rule)(v:V):Prop:=∃ p q,v=.ref p/\H p=some (.tup [.int r.1,.int r.2.1,.int r.2.2.1,.ref q])/\H q=some (.tup (r.2.2.2.map .int))
def IsVal (H:Hp)(x:Pz.ot)(v:V):Prop:=∃ p,v=.ref p/\H p=some (.tup [.int x.1,vO x.2.1,vO x.2.2])
def IsItem (H:Hp)(x:Int×Pz.Arr)(v:V):Prop:=∃ p w,v=.ref p/\H p=some (.tup [.int x.1,w])/\IsArr H x.2 w
def IsSet (H:Hp)(x:Int×Int)(v:V):Prop:=∃ p,v=.ref p/\H p=some (.tup [.int x.1,.int x.2])
def IsLack (H:Hp)(x:Int×Pz.Rule×Int)(v:V):Prop:=∃ p w,v=.ref p/\H p=some (.tup [.int x.1,w,.int x.2.2])/\IsRule H x.2.1 w
def IsNum (H:Hp)(x:Int×Pz.Rule)(v:V):Prop:=∃ p w,v=.ref p/\H p=some (.tup [.int x.1,w])/\IsRule H x.2 w
section
variable {H H':Hp}(k:KT H H')
include k
theorem IsArr.keep (a:Pz.Arr)(v:V):IsArr H a v->IsArr H' a v:=λ⟨p,e,h⟩=>⟨p,e,k _ _ h⟩
theorem IsRule.keep (a:Pz.Rule)(v:V):IsRule H a v->IsRule H' a v:=λ⟨p,q,e,h,g⟩=>⟨p,q,e,k _ _ h,k _ _ g⟩
theorem IsVal.keep (a:Pz.ot)(v:V):IsVal H a v->IsVal H' a v:=λ⟨p,e,h⟩=>⟨p,e,k _ _ h⟩
theorem IsItem.keep (a:Int×Pz.Arr)(v:V):IsItem H a v->IsItem H' a v:=λ⟨p,w,e,h,g⟩=>⟨p,w,e,k _ _ h,IsArr.keep k _ _ g⟩
theorem IsSet.keep (a:Int×Int)(v:V):IsSet H a v->IsSet H' a v:=λ⟨p,e,h⟩=>⟨p,e,k _ _ h⟩
theorem IsLack.keep (a:Int×Pz.Rule×Int)(v:V):IsLack H a v->IsLack H' a v:=λ⟨p,w,e,h,g⟩=>⟨p,w,e,k _ _ h,IsRule.keep k _ _ g⟩
theorem IsNum.keep (a:Int×Pz.Rule)(v:V):IsNum H a v->IsNum H' a v:=λ⟨p,w,e,h,g⟩=>⟨p,w,e,k _ _ h,IsRule.keep k _ _ g⟩
end
noncomputable def ak (a:Pz.Arr):List Key:=[.inl a.1,.inl a.2.1,.inl a.2.2]
theorem tD (a b:Pz.Arr)(h:ak a=ak b):a=b:=by unfold ak at h;simp only[List.cons.injEq,Sum.inl.injEq,and_true]at h;exact NF h.1 (NF h.2.1 h.2.2)
noncomputable def k2 (k:Int×Int):List Key:=[.inl k.1,.inl k.2]
theorem tE (a b:Int×Int)(h:k2 a=k2 b):a=b:=by unfold k2 at h;simp only[List.cons.injEq,Sum.inl.injEq,and_true]at h;exact NF h.1 h.2
noncomputable def k1 (i:Int):Key:=.inl i
theorem i9 (a b:Int)(h:k1 a=k1 b):a=b:=Ob h
abbrev RepT (H:Hp)(t:Pz.TD)(kt:List (List Key×V)):Prop:=All2 (λx y=>y.1=ak x.1/\IsVal H x.2 y.2) t kt
theorem RepT.keep (k:KT H H')(h:RepT H t kt):RepT H' t kt:=h.mono λ_ _ ⟨e,a⟩=>⟨e,IsVal.keep k _ _ a⟩
theorem RepT.find (h:RepT H t kt)(a:Pz.Arr) :
 (cS kt (ak a)=none/\Pz.tget t a=none)\/∃ v x,cS kt (ak a)=some v/\Pz.tget t a=some x/\IsVal H x v:=by
 induction h with
 |nil=>exact .inl ⟨rfl,rfl⟩
 | @cons x y t kt r _ J=>
  rw[Pz.bD];by_cases e:x.1=a
  .have:y.1=ak a:=by rw[r.1,e]
   rw[Ka e,fB this];exact .inr ⟨_,_,rfl,rfl,r.2⟩
  .have:¬ y.1=ak a:=λz=>e (tD _ _ (r.1.symm.trans z));rw[J_ e,fC this];exact J
theorem RepT.put (h:RepT H t kt)(J:IsVal H x v):RepT H (Pz.tput t a x) (cz kt (ak a) v):=by
 unfold Pz.tput cz;rw[iQ];rcases h.find a with⟨e1,e2⟩|⟨w,y,e1,e2,_⟩
 .rw[e1,e2];exact h.snoc ⟨rfl,J⟩
 .rw[e1,e2];refine h.map2 _ _ λz y ⟨r1,r2⟩=>?_;by_cases e:z.1=a
  .have:y.1=ak a:=by rw[r1,e]
   rw[Ka e,Ka this];exact⟨r1,J⟩
  .have:¬ y.1=ak a:=λq=>e (tD _ _ (r1.symm.trans q));rw[J_ e,J_ this];exact⟨r1,r2⟩
theorem ko {κ:Type}[DecidableEq κ]{xs:DX κ}{k:κ}{l a c:Addr}{v:V}(h:InD a (ku xs k l v) c):InD a xs c\/c=l:=by
 rcases h with h|⟨x,hx,h⟩
 .exact .inl (.inl h)
 .unfold ku at hx;split at hx
  .obtain⟨y,J,rfl⟩:=Kg.mp hx;refine .inl (.inr ⟨y,J,?_⟩);rw[h];split<;>rfl
  .rcases Kr.mp hx with hx|hx
   .exact .inl (.inr ⟨x,hx,h⟩)
   .rw[Km]at hx;subst hx;exact .inr h
section
variable {κ κ' α:Type}[DecidableEq κ][DecidableEq κ'](mk:List (κ'×V)->HO)(key:κ->κ')(it:Hp->α->V->Prop)
structure PM (col:Addr->Nat) (j:Nat) (B H:Hp) (a:Addr) (dd:Pz.MD κ α) (xs:DX κ'):Prop where
 d:DL mk H a xs
 r:RepM key it H dd xs
 c:∀ c,InD a xs c->col c=j/\B c=none
variable {mk key it}{col col':Addr->Nat}{j:Nat}{B B' H H':Hp}{a:Addr}{d:Pz.MD κ α}{xs:DX κ'}
theorem DL.obj (h:DL mk H a xs)(hc:InD a xs c):H c≠none:=by
 rcases hc with rfl|⟨x,J,rfl⟩
 .rw[h.root];simp
 .rw[h.kid x J];simp
theorem DL.keep (h:DL mk H a xs)(kp:∀ c u,H c=some u->InD a xs c->H' c=some u):DL mk H' a xs:=⟨kp _ _ h.root (.inl rfl),λx J=>kp _ _ (h.kid x J) (.inr ⟨x,J,rfl⟩),h.nk,h.na⟩
theorem PM.keep (h:PM mk key it col j B H a d xs)(J:∀ x v,it H x v->it H' x v)(kp:∀ c u,H c=some u->col c=j->H' c=some u)(hc:∀ c,H c≠none->col' c=col c):PM mk key it col' j B H' a d xs:=⟨h.d.keep λc u e i=>kp c u e (h.c c i).1,h.r.keep J,λc i=>⟨by rw[hc c (h.d.obj i)];exact(h.c c i).1,(h.c c i).2⟩⟩
theorem DL.kt (J:∀ q ws,mk q≠.tup ws)(h:DL mk H a xs)(kp:∀ c u,H c=some u->¬ InD a xs c->H' c=some u):KT H H':=λc ws e=>kp c _ e λi=>by
 rcases i with rfl|⟨x,L,rfl⟩
 .rw[h.root]at e;exact J _ _ (Kx e)
 .rw[h.kid x L]at e;cases e
noncomputable def tF (col:Addr->Nat)(j:Nat)(H:Hp):Addr->Nat:=λc=>open Classical in if H c=none then j else col c
theorem aS (hc:H a≠none):tF col j H a=col a:=by unfold tF;rw[J_ hc]
theorem BW (hc:H a=none):tF col j H a=j:=by unfold tF;rw[Ka hc]
theorem PM.new (h:PM mk key it col j B H a d xs)(J:Same B H)(h1:DL mk H' a xs')(h2:RepM key it H' d' xs')(hn:∀ c,InD a xs' c->InD a xs c\/H c=none):PM mk key it (tF col j H) j B H' a d' xs':=
 ⟨h1,h2,λc i=>by
   rcases hn c i with i|e
   .rw[aS (h.d.obj i)];exact h.c c i
   .exact⟨BW e,J.free e⟩⟩
theorem PM.base (h:PM mk key it col j B H a d xs)(J:∀ c,InD a xs c->B' c=none):PM mk key it col j B' H a d xs:=⟨h.d,h.r,λc i=>⟨(h.c c i).1,J c i⟩⟩
end
structure PA where
 o:Addr
 ta:Addr
 aq:Addr
 ap:Addr
 sa:Addr
 la:Addr
 ar:Addr
noncomputable def pf (A:PA):List (Str×V):=[("rules",.ref A.ar),("told",.ref A.ta),("offers",.ref A.aq),("settled",.ref A.sa),("lacking",.ref A.la)]
noncomputable abbrev qf (A:PA) (last:Int):List (Str×V):=[("last",.int last),("piles",.ref A.ap)]
structure PO (CP CQ:Addr) (col:Addr->Nat) (B H:Hp) (A:PA) (last:Int) (t:Pz.TD) (kt:List (List Key×V)):Prop where
 ins:∃ dx,H A.o=some (.ins CP dx (pf A))
 que:∃ dx,H A.aq=some (.ins CQ dx (qf A last))
 td:H A.ta=some (.dT kt)
 tr:RepT H t kt
 c5:col A.ta=5/\B A.ta=none
 c6:col A.o=6/\B A.o=none
 c7:col A.aq=7/\B A.aq=none
structure PCore (CP CQ:Addr) (B H:Hp) (A:PA) (rs:Pz.RS) (S:Pz.PS) (xs xl xr:DX (List Key)) (xp:DX Key) (kt:List (List Key×V)) (col:Addr->Nat):Prop where
 same:Same B H
 p1:PM .dK k1 IsItem col 1 B H A.ap S.piles xp
 p2:PM .dT k2 IsSet col 2 B H A.sa S.settled xs
 p3:PM .dT k2 IsLack col 3 B H A.la S.lacking xl
 p4:PM .dT k2 IsNum col 4 B H A.ar rs xr
 po:PO CP CQ col B H A S.last S.told kt
def PAt (CP CQ:Addr)(B H:Hp)(A:PA)(rs:Pz.RS)(S:Pz.PS)(xs xl xr:DX (List Key)):Prop:=∃ xp kt col,PCore CP CQ B H A rs S xs xl xr xp kt col
section
variable {CP CQ:Addr}{B B' H H':Hp}{A:PA}{rs:Pz.RS}{S:Pz.PS}{xs xl xr:DX (List Key)}{xp:DX Key}{kt:List (List Key×V)}{col:Addr->Nat}
theorem PO.keep (h:PO CP CQ col B H A last t kt)(k:KT H H')(kp:∀ c u,H c=some u->5<=col c->col c<=7->H' c=some u)(hc:∀ c,H c≠none->col' c=col c):PO CP CQ col' B H' A last t kt:=by
 obtain⟨⟨dx,h1⟩,⟨L,h2⟩,J,O,c5,c6,c7⟩:=h;refine⟨⟨dx,kp _ _ h1 (by lia) (by lia)⟩,⟨L,kp _ _ h2 (by lia) (by lia)⟩,kp _ _ J (by lia) (by lia),O.keep k,?_,?_,?_⟩
 .rw[hc _ (by rw[J];simp)];exact c5
 .rw[hc _ (by rw[h1];simp)];exact c6
 .rw[hc _ (by rw[h2];simp)];exact c7
theorem PCore.pile (h:PCore CP CQ B H A rs S xs xl xr xp kt col)(h1:DL .dK H' A.ap xp')(h2:RepM k1 IsItem H' d' xp')(hn:∀ c,InD A.ap xp' c->InD A.ap xp c\/H c=none)
 (kp:∀ c u,H c=some u->¬ InD A.ap xp c->H' c=some u):PCore CP CQ B H' A rs { S with piles:=d' } xs xl xr xp' kt (tF col 1 H):=by
 have k:KT H H':=h.p1.d.kt (λ_ _ z=>HO.noConfusion z) kp;have J:∀ c u,H c=some u->col c≠1->H' c=some u:=λc u e n=>kp c u e λi=>n (h.p1.c c i).1;exact⟨(λc u e=>kp c u (h.same c u e) λi=>by rw[(h.p1.c c i).2]at e;cases e),h.p1.new h.same h1 h2 hn,h.p2.keep (IsSet.keep k) (λc u e z=>J c u e (by lia)) λc=>aS,h.p3.keep (IsLack.keep k) (λc u e z=>J c u e (by lia)) λc=>aS,h.p4.keep (IsNum.keep k) (λc u e z=>J c u e (by lia)) λc=>aS,h.po.keep k (λc u e z _=>J c u e (by lia)) λc=>aS⟩
theorem PCore.sett (h:PCore CP CQ B H A rs S xs xl xr xp kt col)(h1:DL .dT H' A.sa xs')(h2:RepM k2 IsSet H' d' xs')(hn:∀ c,InD A.sa xs' c->InD A.sa xs c\/H c=none)
 (kp:∀ c u,H c=some u->¬ InD A.sa xs c->H' c=some u):PCore CP CQ B H' A rs { S with settled:=d' } xs' xl xr xp kt (tF col 2 H):=by
 have k:KT H H':=h.p2.d.kt (λ_ _ z=>HO.noConfusion z) kp;have J:∀ c u,H c=some u->col c≠2->H' c=some u:=λc u e n=>kp c u e λi=>n (h.p2.c c i).1;exact⟨(λc u e=>kp c u (h.same c u e) λi=>by rw[(h.p2.c c i).2]at e;cases e),h.p1.keep (IsItem.keep k) (λc u e z=>J c u e (by lia)) λc=>aS,h.p2.new h.same h1 h2 hn,h.p3.keep (IsLack.keep k) (λc u e z=>J c u e (by lia)) λc=>aS,h.p4.keep (IsNum.keep k) (λc u e z=>J c u e (by lia)) λc=>aS,h.po.keep k (λc u e z _=>J c u e (by lia)) λc=>aS⟩
theorem PCore.lack (h:PCore CP CQ B H A rs S xs xl xr xp kt col)(h1:DL .dT H' A.la xl')(h2:RepM k2 IsLack H' d' xl')(hn:∀ c,InD A.la xl' c->InD A.la xl c\/H c=none)
 (kp:∀ c u,H c=some u->¬ InD A.la xl c->H' c=some u):PCore CP CQ B H' A rs { S with lacking:=d' } xs xl' xr xp kt (tF col 3 H):=by
 have k:KT H H':=h.p3.d.kt (λ_ _ z=>HO.noConfusion z) kp;have J:∀ c u,H c=some u->col c≠3->H' c=some u:=λc u e n=>kp c u e λi=>n (h.p3.c c i).1;exact⟨(λc u e=>kp c u (h.same c u e) λi=>by rw[(h.p3.c c i).2]at e;cases e),h.p1.keep (IsItem.keep k) (λc u e z=>J c u e (by lia)) λc=>aS,h.p2.keep (IsSet.keep k) (λc u e z=>J c u e (by lia)) λc=>aS,h.p3.new h.same h1 h2 hn,h.p4.keep (IsNum.keep k) (λc u e z=>J c u e (by lia)) λc=>aS,h.po.keep k (λc u e z _=>J c u e (by lia)) λc=>aS⟩
theorem PCore.more (h:PCore CP CQ B H A rs S xs xl xr xp kt col)(s:Same H H'):PCore CP CQ B H' A rs S xs xl xr xp kt col:=by have k:KT H H':=λa ws e=>s a _ e;exact⟨h.same.trans s,h.p1.keep (IsItem.keep k) (λc u e _=>s c u e) λ_ _=>rfl,h.p2.keep (IsSet.keep k) (λc u e _=>s c u e) λ_ _=>rfl,h.p3.keep (IsLack.keep k) (λc u e _=>s c u e) λ_ _=>rfl,h.p4.keep (IsNum.keep k) (λc u e _=>s c u e) λ_ _=>rfl,h.po.keep k (λc u e _ _=>s c u e) λ_ _=>rfl⟩
theorem PAt.more (h:PAt CP CQ B H A rs S xs xl xr)(s:Same H H'):PAt CP CQ B H' A rs S xs xl xr:=let ⟨xp,kt,col,h⟩:=h;⟨xp,kt,col,h.more s⟩
theorem PCore.tell (h:PCore CP CQ B H A rs S xs xl xr xp kt col)(J:H p=some (.tup [.int x.1,vO x.2.1,vO x.2.2])) :
 PCore CP CQ B (aI H A.ta (.dT (cz kt (ak a) (.ref p)))) A rs { S with told:=Pz.tput S.told a x } xs xl xr xp (cz kt (ak a) (.ref p)) col:=by
 have kp:∀ c u,H c=some u->col c≠5->aI H A.ta (.dT (cz kt (ak a) (.ref p))) c=some u:=λc u e n=>by rw[ac (λz=>n (by rw[z];exact h.po.c5.1))];exact e
 have k:KT H (aI H A.ta (.dT (cz kt (ak a) (.ref p)))):=λc ws e=>by rw[ac (λz=>by rw[z,h.po.td]at e;cases e)];exact e
 obtain⟨⟨dx,h1⟩,⟨L,h2⟩,W,O,c5,c6,c7⟩:=h.po;refine⟨λc u e=>?_,h.p1.keep (IsItem.keep k) (λc u e z=>kp c u e (by lia)) λ_ _=>rfl,h.p2.keep (IsSet.keep k) (λc u e z=>kp c u e (by lia)) λ_ _=>rfl,h.p3.keep (IsLack.keep k) (λc u e z=>kp c u e (by lia)) λ_ _=>rfl,h.p4.keep (IsNum.keep k) (λc u e z=>kp c u e (by lia)) λ_ _=>rfl,⟨dx,kp _ _ h1 (by lia)⟩,⟨L,kp _ _ h2 (by lia)⟩,af,(O.keep k).put ⟨p,rfl,k _ _ J⟩,c5,c6,c7⟩;rw[ac (λz=>by rw[z,c5.2]at e;cases e)];exact h.same c u e
theorem PCore.wide (h:PCore CP CQ B H A rs S xs xl xr xp kt col)(Z:Addr->Prop)(hz:∀ c,Z c->¬ InD A.ap xp c/\¬ InD A.sa xs c/\¬ InD A.la xl c/\¬ InD A.ar xr c/\c≠A.ta/\c≠A.o/\c≠A.aq) :
 ∃ B',Same B B'/\KT H B'/\(∀ c u,Z c->H c=some u->B' c=some u)/\PCore CP CQ B' H A rs S xs xl xr xp kt col:=by
 classical
 refine⟨λc=>if B c≠none\/Z c\/∃ ws,H c=some (.tup ws) then H c else none,λc u e=>?_,λc ws e=>?_,λc u z e=>?_,λc u e=>?_,h.p1.base λc i=>?_,h.p2.base λc i=>?_,h.p3.base λc i=>?_,h.p4.base λc i=>?_,h.po.ins,h.po.que,h.po.td,h.po.tr,⟨h.po.c5.1,?_⟩,⟨h.po.c6.1,?_⟩,⟨h.po.c7.1,?_⟩⟩
 .dsimp only;rw[Ka (.inl (by rw[e];simp))];exact h.same c u e
 .dsimp only;rw[Ka (.inr (.inr ⟨ws,e⟩))];exact e
 .dsimp only;rw[Ka (.inr (.inl z))];exact e
 .split at e
  .exact e
  .cases e
 all_goals
  refine J_ λq=>?_
 .rcases q with q|q|⟨ws,q⟩
  .exact q (h.p1.c c i).2
  .exact(hz c q).1 i
  .rcases i with rfl|⟨x,J,rfl⟩
   .rw[h.p1.d.root]at q;cases q
   .rw[h.p1.d.kid x J]at q;cases q
 .rcases q with q|q|⟨ws,q⟩
  .exact q (h.p2.c c i).2
  .exact(hz c q).2.1 i
  .rcases i with rfl|⟨x,J,rfl⟩
   .rw[h.p2.d.root]at q;cases q
   .rw[h.p2.d.kid x J]at q;cases q
 .rcases q with q|q|⟨ws,q⟩
  .exact q (h.p3.c c i).2
  .exact(hz c q).2.2.1 i
  .rcases i with rfl|⟨x,J,rfl⟩
   .rw[h.p3.d.root]at q;cases q
   .rw[h.p3.d.kid x J]at q;cases q
 .rcases q with q|q|⟨ws,q⟩
  .exact q (h.p4.c c i).2
  .exact(hz c q).2.2.2.1 i
  .rcases i with rfl|⟨x,J,rfl⟩
   .rw[h.p4.d.root]at q;cases q
   .rw[h.p4.d.kid x J]at q;cases q
 .rcases q with q|q|⟨ws,q⟩
  .exact q h.po.c5.2
  .exact(hz _ q).2.2.2.2.1 rfl
  .rw[h.po.td]at q;cases q
 .rcases q with q|q|⟨ws,q⟩
  .exact q h.po.c6.2
  .exact(hz _ q).2.2.2.2.2.1 rfl
  .obtain⟨dx,e⟩:=h.po.ins;rw[e]at q;cases q
 .rcases q with q|q|⟨ws,q⟩
  .exact q h.po.c7.2
  .exact(hz _ q).2.2.2.2.2.2 rfl
  .obtain⟨dx,e⟩:=h.po.que;rw[e]at q;cases q
theorem PAt.less (h:PAt CP CQ B' H A rs S xs xl xr)(s:Same B B'):PAt CP CQ B H A rs S xs xl xr:=by obtain⟨xp,kt,col,h⟩:=h;refine⟨xp,kt,col,s.trans h.same,h.p1.base λc i=>s.free (h.p1.c c i).2,h.p2.base λc i=>s.free (h.p2.c c i).2,h.p3.base λc i=>s.free (h.p3.c c i).2,h.p4.base λc i=>s.free (h.p4.c c i).2,h.po.ins,h.po.que,h.po.td,h.po.tr,⟨h.po.c5.1,s.free h.po.c5.2⟩,⟨h.po.c6.1,s.free h.po.c6.2⟩,⟨h.po.c7.1,s.free h.po.c7.2⟩⟩
theorem PAt.same (h:PAt CP CQ B H A rs S xs xl xr):Same B H:=let ⟨_,_,_,h⟩:=h;h.same
end
theorem DY (x y:Nat):Builtin.bitXor (x:Int) (y:Int)=(((x ||| y)-(x &&& y):Nat):Int):=by
 have J:∀ z:Nat,decide (0<=Builtin.bitNot (z:Int))=false:=λz=>Kv (by unfold Builtin.bitNot;lia);have L:∀ z:Nat,(Builtin.bitNot (Builtin.bitNot (z:Int))).toNat=z:=λz=>by unfold Builtin.bitNot;lia
 have p1:∀ z:Nat,decide (0<=(z:Int))=true:=λz=>Ki (by lia);have O:Builtin.bitAnd (x:Int) (y:Int)=((x &&& y:Nat):Int):=by unfold Builtin.bitAnd;rw[p1,p1];rfl
 have W:Builtin.bitOr (x:Int) (y:Int)=((x ||| y:Nat):Int):=by unfold Builtin.bitOr Builtin.bitAnd;rw[J,J];show Builtin.bitNot (Builtin.bitNot (((Builtin.bitNot (Builtin.bitNot (x:Int))).toNat ||| (Builtin.bitNot (Builtin.bitNot (y:Int))).toNat:Nat):Int))=_;rw[L,L];unfold Builtin.bitNot;lia
 unfold Builtin.bitXor;rw[O,W];have:x &&& y<=x ||| y:=Ku Nat.and_le_left Nat.left_le_or;lia
theorem ym:Pz.Pile au:=by
 have key:∀{p l:Int},0<=p->0<=l->∃ z:Nat,au p l=(z:Int)/\∀ k:Nat,z<=k↔p / 2 ^ k=l / 2 ^ k:=by
  intro p l J L;obtain⟨x,rfl⟩:=LN J;obtain⟨y,rfl⟩:=LN L;refine⟨_,rfl,λk=>?_⟩;rw[DY];unfold Builtin.Int.intBits;rw[Pz.DS,Pz.DR];have e:∀ z:Nat,(z:Int) / 2 ^ k=((z / 2 ^ k:Nat):Int):=λz=>by rw[Int.natCast_ediv];norm_cast
  rw[e,e];lia
 constructor
 .intro p l J L;obtain⟨z,e,_⟩:=key J L;rw[e];lia
 .intro p l J L k;obtain⟨z,e,h⟩:=key J L;rw[e,<- h k];lia
section
variable {K:On}{C q ap:Addr}{H:Hp}{last:Int}{xp:DX Key}{σ:L2.St}
noncomputable def oz (C:Addr):Sp:=λvs H Q _=>∃(q dx:Addr),vs=[.ref q]/\H q=some (.ins C dx [])/\∀(d:Addr)(H':Hp),H d=none->H' q=some (.ins C dx [("last",.int 0),("piles",.ref d)])->H' d=some (.dK [])->(∀ b o,H b=some o->b≠q->H' b=some o)->Q .non H'
noncomputable def GG (K:On):TS:=eU (rX K (aA 0) (tC (.int 0)) "last") (rX K (aA 0) AJ "piles")
theorem uX (h:oz C vs H Q E):vs.length=1:=by obtain⟨q,dx,rfl,_⟩:=h;rfl
theorem xb (T:QCls K C)(h:oz C vs H Q E):GG K { nx:=λ_ H'=>Q .non H',rt:=Q } (cf N vs) H:=by
 obtain⟨q,dx,rfl,W,k⟩:=h;refine⟨_,rfl,q,C,dx,[],rfl,W,T.cl,T.nl,(by show 0<1000;decide),?_⟩;intro d hd;have J:d≠q:=λe=>by rw[e,af]at hd;cases hd
 have L:H d=none:=by rw[ac J]at hd;exact hd
 refine⟨_,rfl,q,C,dx,_,rfl,(by rw[ac (K9 J),af]),T.cl,T.np,(by show 1<1000;decide),?_⟩;refine k d _ L (by rw[af];rfl) (by rw[ac J,af]) λb o e O=>?_;rw[ac O,ac (ah e L),ac O];exact e
noncomputable def oA (C:Addr):Sp:=λvs H Q _=>∃(q ap dx:Addr)(last:Int)(kvs:List (Key×V)),vs=[.ref q]/\H q=some (.ins C dx [("last",.int last),("piles",.ref ap)])/\H ap=some (.dK kvs)/\kvs.length<=sizeLine/\Q (.bl (decide (kvs.length=0))) H
noncomputable def ES:List V->Hp->VK->Prop:=λxs H Q=>∃(d:Addr)(kvs:List (Key×V))(u:HO),xs=[.ref d]/\(u=.dK kvs\/(u=.dT []/\kvs=[]))/\Rd H d u/\kvs.length<=sizeLine/\Q (.int kvs.length) H
theorem zW:CallR X (.builtin "len") ES:=zK
noncomputable def GH (K:On):TS:=Ao (lZ Hr (Ex ES (az (fy K (aA 0) "piles") be)) (tC (.int 0)))
theorem uY (h:oA C vs H Q E):vs.length=1:=by obtain⟨q,ap,dx,last,kvs,rfl,_⟩:=h;rfl
theorem xc (T:QCls K C)(h:oA C vs H Q E):GH K { nx:=λ_ H'=>Q .non H',rt:=Q } (cf N vs) H:=by
 obtain⟨q,ap,dx,last,kvs,rfl,J,ha,L,k⟩:=h;refine⟨_,rfl,q,C,dx,_,_,rfl,J,T.cl,T.np,rfl,ap,kvs,_,rfl,.inl rfl,.inl ha,L,rfl,?_⟩;have:decide (V.int (kvs.length:Int)=V.int 0)=decide (kvs.length=0):=by apply decide_eq_decide.mpr;exact⟨λe=>by injection e with e;lia,λe=>by rw[e];rfl⟩
 rw[this];exact k
noncomputable def tG (C:Addr):Sp:=λvs H Q _=>∃(q ap:Addr)(last:Int)(xp:DX Key)(d:Pz.Q Pz.Arr),vs=[.ref q]/\QAt C H q ap last xp/\RepM k1 IsItem H d xp/\Pz.QOk au last d/\d≠[]/\d.flat.length<16000000/\
 ∀(l:Addr)(vs':List V)(J:DX Key)(H':Hp),QAt C H' q ap (Pz.lowP d) J->RepM k1 IsItem H' (Pz.left au d) J->H' l=some (.lst vs')->All2 (IsItem H') (Pz.taken au d) vs'->¬ InD ap J l->(InD ap xp l\/H l=none)->(∀ c,InD ap J c->InD ap xp c\/H c=none)->
  (∀ c u,H c=some u->¬ InD ap xp c->c≠q->H' c=some u)->Q (.ref l) H'
theorem xf (h:tG C vs H Q E):vs.length=1:=by obtain⟨q,ap,last,xp,d,rfl,_⟩:=h;rfl
noncomputable def Ih (K:On)(C:Addr)(J:TE):TS:=
 eU (qC (wn (fy K (aA 0) "piles") (Ex ER (az (FW K "dict" EQ (fy K (aA 0) "piles")) be))) (bx 1))
 (eU (rX K (aA 0) J "last")
 (eU (oJ (lg K (aA 1)) (rW K 2 (cT (bx 2) (cT (bx 3) rV))) (dG (fA C "add" (rR C) [] E0 (aA 0) (az (aA 2) (az (aA 3) be)))))
 (Ao (wn (fy K (aA 0) "piles") (tC (.int 0))))))
def Ii (J:TE):Prop:=∀(σ:L2.St)(H:Hp)(a:Addr)(vs:List V)(its:List (Int×Pz.Arr))(Q:VK),σ[1]?=some (some (.ref a))->H a=some (.lst vs)->All2 (IsItem H) its vs->its≠[]->its.length<16000000->(∀ H',Same H H'->Q (.int (Pz.lo (its.map (·.1)))) H')->J σ H Q
theorem yn (l:List Int):sI l=Pz.lo l:=by cases l<;>rfl
theorem DZ {κ:Type}(xs:DX κ):xs.kv.map (·.1)=xs.map (·.1):=by unfold DX.kv;rw[KM];rfl
theorem QAt.ne (G:QAt C H q ap last xp)(i:InD ap xp c):c≠q:=λe=>by
 obtain⟨dx,J⟩:=G.ins;rcases i with z|⟨x,L,z⟩
 .have:=G.piles.root;rw[<- z,e,J]at this;cases this
 .have:=G.piles.kid x L;rw[<- z,e,J]at this;cases this
end
section
variable {K:On}{C q ap:Addr}{H:Hp}{last:Int}{xp:DX Key}
theorem uZ (m:Int)(d:Pz.Q Pz.Arr)(l:List (Int×Pz.Arr))(x:Int×Pz.Arr):Pz.addAll au m d (l++[x])=(Pz.addAll au m d l).app (au x.1 m) x:=by unfold Pz.addAll;rw[MC];rfl
theorem oB (s:Same H H'):KT H H':=λa ws e=>s a _ e
theorem zX (T:QCls K C) (hna:∀(last:Int)(ap:Addr),List.lookup ("add" : Str) ([("last",V.int last),("piles",V.ref ap)]:List (Str×V))=none) (HM:Ii tm) (h:tG C vs H Q E) :
 Ih K C tm { nx:=λ_ H'=>Q .non H',rt:=Q } (cf ["self", "pile", "price", "thing"] vs) H:=by
 obtain⟨q,ap,last,xp,d,rfl,G,R,ok,hne,Z,k⟩:=h;have TK:=Pz.took ym ok hne;obtain⟨dx,hq⟩:=G.ins;have L:=G.piles.root;have nqa:q≠ap:=λe=>by rw[e,L]at hq;cases hq
 refine⟨_,rfl,q,C,dx,_,_,rfl,hq,T.cl,T.np,rfl,ap,rfl,.inl ⟨_,.inl L⟩,_,rfl,q,C,dx,_,_,rfl,hq,T.cl,T.np,rfl,.inr (.inr (.inl ⟨rfl,.inl ⟨_,L⟩⟩)),ap,_,rfl,rfl,L,λv hv=>?_⟩;have hva:ap≠v:=ah L hv;refine⟨v,ap,xp.kv,d.keys,rfl,af,(by rw[ac hva];exact L),(by rw[DZ,R.keys];rfl),(by intro e;exact hne (List.map_eq_nil_iff.mp e)),?_⟩;rcases R.find i9 (Pz.lowK d) with⟨_,_,e⟩|⟨p0,f0,_,a0⟩
 .exact(TK.k2 e).elim
 refine⟨xp.kv,k1 (Pz.lowK d),.ref p0.1,(by rw[ac hva];exact L),(by rw[yn];rfl),(by rw[gM,f0];rfl),?_⟩;generalize hH2:aI (aI H v (uW v ap)) ap (.dK (kz xp.kv (k1 (Pz.lowK d))))=H2;have kp2:∀ c u,H c=some u->c≠ap->H2 c=some u:=λc u e n=>by rw[<- hH2,ac n,ac (ah e hv)];exact e
 obtain⟨D2,l2,n2⟩:=G.piles.drop (λ_ _ z=>HO.noConfusion z) f0 (by rw[<- hH2,af]) kp2;have kt2:KT H H2:=λc ws e=>kp2 c _ e λz=>by rw[z,L]at e;cases e
 have q2:=kp2 _ _ hq nqa;have i0:=a0.mono (IsItem.keep kt2);have hsub:∀ c,InD ap (i8 xp (k1 (Pz.lowK d))) c->InD ap xp c:=λc i=>i.imp id λ⟨x,hx,e⟩=>⟨x,(Lc.mp hx).1,e⟩;have in0:InD ap xp p0.1:=.inr ⟨_,bZ f0,rfl⟩;have hlen0:(d.get (Pz.lowK d)).length<16000000:=KO (Pz.oq d _) Z;refine HM _ H2 p0.1 p0.2 (d.get (Pz.lowK d)) _ rfl l2 i0 TK.k2 hlen0 λH3 s3=>?_;refine⟨_,rfl,q,C,dx,_,rfl,s3 _ _ q2,T.cl,T.nl,(by show 2<1000;decide),?_⟩;generalize hH4:aI H3 q (.ins C dx (fU "last" (.int (Pz.lo ((d.get (Pz.lowK d)).map (·.1)))) [("last",.int last),("piles",.ref ap)]))=H4;have kp4:∀ c u,H2 c=some u->c≠q->H4 c=some u:=λc u e n=>by rw[<- hH4,ac n];exact s3 c u e
 have q4:H4 q=some (.ins C dx [("last",.int (Pz.lowP d)),("piles",.ref ap)]):=by rw[<- hH4,af];rfl
 have D4:DL .dK H4 ap (i8 xp (k1 (Pz.lowK d))):=D2.keep λc u e i=>kp4 c u e (G.ne (hsub c i));have kt4:KT H2 H4:=λc ws e=>kp4 c _ e λz=>by rw[z,q2]at e;cases e
 have l4:H4 p0.1=some (.lst p0.2):=kp4 _ _ l2 (G.ne in0);have o1:Pz.QOk au (Pz.lowP d) (d.drop (Pz.lowK d))/\∀ y∈d.get (Pz.lowK d),Pz.lowP d<=y.1:=by refine⟨?_,λy hy=>Pz.BQ (Kg.mpr ⟨y,hy,rfl⟩)⟩;exact TK.o1
 have fl:∀ i,((Pz.addAll au (Pz.lowP d) (d.drop (Pz.lowK d)) ((d.get (Pz.lowK d)).take i))).flat.length<=d.flat.length:=λi=>by rw[(Pz.iZ o1.1.ok).length_eq,Kp,(Pz.mv ok.ok.nk (Pz.lowK d)).length_eq,Kp];have:=List.length_take_le i (d.get (Pz.lowK d));have:=NT i (d.get (Pz.lowK d));lia
 have okI:∀ i,(Pz.addAll au (Pz.lowP d) (d.drop (Pz.lowK d)) ((d.get (Pz.lowK d)).take i)).Ok:=λi=>(o1.1.addAll λx hx=>o1.2 x (Lw hx)).ok;refine⟨_,rfl,p0.1,rfl,⟨_,SqL.of l4⟩,t7 (K:=K) (a:=p0.1) (xs:=p0.2) (λi σ H5=>(∃ u v,σ=[some (.ref q),some (.ref p0.1),u,v])/\∃ O,QAt C H5 q ap (Pz.lowP d) O/\RepM k1 IsItem H5 (Pz.addAll au (Pz.lowP d) (d.drop (Pz.lowK d)) ((d.get (Pz.lowK d)).take i)) O/\
  H5 p0.1=some (.lst p0.2)/\¬ InD ap O p0.1/\KT H4 H5/\(∀ c,InD ap O c->InD ap xp c\/H c=none)/\(∀ c u,H c=some u->¬ InD ap xp c->c≠q->H5 c=some u))
  ⟨⟨none,none,rfl⟩,_,⟨⟨dx,q4⟩,D4,?_,?_⟩,?_,l4,n2,λ_ _ e=>e,λc i=>.inl (hsub c i),λc u e n m=>kp4 c u (kp2 c u e λz=>n (.inl z)) m⟩ (λi σ H5 _ ⟨_,O,_,_,l5,_⟩=>SqL.of l5) ?_ ?_⟩
 .have:=((R.drop i9 (Pz.lowK d)).len).symm;have h2:=Pz.iq (okI 0);have h3:=fl 0;rw[List.take_zero]at h2 h3;have h4:(Pz.addAll au (Pz.lowP d) (d.drop (Pz.lowK d)) [])=d.drop (Pz.lowK d):=rfl;rw[h4]at h2 h3;lia
 .have h3:=fl 0;rw[List.take_zero]at h3;exact(R.drop i9 (Pz.lowK d)).low (KO h3 Z)
 .rw[List.take_zero];exact(R.drop i9 (Pz.lowK d)).keep λx v hx=>IsItem.keep kt4 _ _ (IsItem.keep kt2 _ _ hx)
 .rintro i y σ H5 hi ⟨⟨u,v',rfl⟩,O,Gi,Ri,l5,n5,kt5,W,kp5⟩;obtain⟨x,hx,p,w,rfl,hp,b,rfl,hb⟩:=i0.get hi;have hp5:=kt5 _ _ (kt4 _ _ hp);have hb5:=kt5 _ _ (kt4 _ _ hb);obtain⟨dy,Y⟩:=Gi.ins;refine⟨p,_,rfl,SqT.of hp5,rfl,_,_,rfl,_,_,rfl,rfl,?_⟩;refine⟨_,rfl,q,dy,_,rfl,Y,hna _ _,_,rfl,_,rfl,q,ap,b,Pz.lowP d,x.1,O,rfl,Gi,?_⟩;intro l p' H6 hl hp' hm hq6 hD6 J;have nq6:∀ c u,H5 c=some u->¬ InD ap O c->H6 c=some u:=J;have kt6:KT H5 H6:=Gi.piles.kt (λ_ _ z=>HO.noConfusion z) J;have R6:RepM k1 IsItem H6 (Pz.addAll au (Pz.lowP d) (d.drop (Pz.lowK d)) ((d.get (Pz.lowK d)).take (i+1))) (ku O (.inl (au x.1 (Pz.lowP d))) l (.ref p')):=by rw[MX,hx];show RepM k1 IsItem H6 (Pz.addAll au (Pz.lowP d) _ (_++[x])) _;rw[uZ];exact Ri.add i9 (IsItem.keep kt6) ⟨p',_,rfl,hm,b,rfl,kt6 _ _ hb5⟩
  refine⟨⟨_,_,rfl⟩,_,⟨hq6,hD6,?_,R6.low (KO (fl (i+1)) Z)⟩,R6,J _ _ l5 n5,λz=>?_,λc ws e=>kt6 _ _ (kt5 _ _ e),λc z=>?_,λc u e n m=>?_⟩
  .have:=R6.len;have:=Pz.iq (okI (i+1));have:=fl (i+1);lia
  .rcases ko z with z|z
   .exact n5 z
   .rw[z,hl]at l5;cases l5
  .rcases ko z with z|rfl
   .exact W c z
   .by_cases i':InD ap xp c
    .exact .inl i'
    .refine .inr ?_;cases e:H c with
     |none=>rfl
     |some u=>
      by_cases z:c=q
      .rw[z,Y]at hl;cases hl
      .rw[kp5 c u e i' z]at hl;cases hl
  .exact J _ _ (kp5 c u e n m) λz=>(W c z).elim n λz=>by rw[z]at e;cases e
 .rintro σ H5 ⟨⟨u,v',rfl⟩,O,Gi,Ri,l5,n5,kt5,W,kp5⟩;have eall:(d.get (Pz.lowK d)).take p0.2.length=d.get (Pz.lowK d):=Lg (by rw[i0.len];exact J6 _);rw[eall]at Ri;have Ri:RepM k1 IsItem H5 (Pz.mid au d) O:=Ri;obtain⟨dy,Y⟩:=Gi.ins;have ha5:=Gi.piles.root;have nq5:q≠ap:=λe=>by rw[e,ha5]at Y;cases Y
  rcases Ri.find i9 0 with⟨_,hh,_⟩|⟨p1,f1,_,a1⟩
  .have:=Pz.has_iff.mpr TK.k3;rw[hh]at this;cases this
  refine⟨_,rfl,q,C,dy,_,_,rfl,Y,T.cl,T.np,rfl,ap,rfl,.inl ⟨_,.inl ha5⟩,O.kv,k1 0,.ref p1.1,ha5,rfl,(by rw[gM,f1];rfl),?_⟩;generalize hH6:aI H5 ap (.dK (kz O.kv (k1 0)))=H6;have J:∀ c u,H5 c=some u->c≠ap->H6 c=some u:=λc u e n=>by rw[<- hH6,ac n];exact e
  obtain⟨D6,l6,n6⟩:=Gi.piles.drop (λ_ _ z=>HO.noConfusion z) f1 (by rw[<- hH6,af]) J;have kt6:KT H5 H6:=λc ws e=>J c _ e λz=>by rw[z,ha5]at e;cases e
  have R6:RepM k1 IsItem H6 (Pz.left au d) (i8 O (k1 0)):=(Ri.drop i9 0).keep (IsItem.keep kt6);have sub6:∀ c,InD ap (i8 O (k1 0)) c->InD ap O c:=λc i=>i.imp id λ⟨x,hx,e⟩=>⟨x,(Lc.mp hx).1,e⟩;have in1:InD ap O p1.1:=.inr ⟨_,bZ f1,rfl⟩;have fl6:(Pz.left au d).flat.length<=d.flat.length:=by rw[TK.pm.length_eq,Kp];lia
  refine k p1.1 p1.2 _ H6 ⟨⟨dy,J _ _ Y nq5⟩,D6,?_,R6.low (KO fl6 Z)⟩ R6 l6 (a1.mono (IsItem.keep kt6)) n6 (W _ in1) (λc z=>W c (sub6 c z)) λc u e n m=>J _ _ (kp5 c u e n m) λz=>n (.inl z);have:=R6.len;have:=Pz.iq TK.ok.ok;lia
end
structure PCls (K:On) (C:Addr):Prop where
 cl:Cls K C
 nr:NoAttr K C "rules"
 nt:NoAttr K C "told"
 no:NoAttr K C "offers"
 ns:NoAttr K C "settled"
 nl:NoAttr K C "lacking"
theorem JH (A:PA):(pf A).lookup ("rules" : Str)=some (V.ref A.ar):=rfl
theorem D0 (A:PA):(pf A).lookup ("told" : Str)=some (V.ref A.ta):=rfl
theorem GI (A:PA):(pf A).lookup ("offers" : Str)=some (V.ref A.aq):=rfl
theorem Ij (A:PA):(pf A).lookup ("settled" : Str)=some (V.ref A.sa):=rfl
theorem Ik (A:PA):(pf A).lookup ("lacking" : Str)=some (V.ref A.la):=rfl
theorem GJ (A:PA) (last:Int):(qf A last).lookup ("add" : Str)=none:=rfl
section
variable {K:On}{CP CQ:Addr}{B H:Hp}{A:PA}{rs:Pz.RS}{S:Pz.PS}{xs xl xr:DX (List Key)}
theorem BX (cl:Cls K C)(n:NoAttr K C f)(h0:σ[0]?=some (some (.ref o)))(hi:∃ dx,H o=some (.ins C dx fs))(J:fs.lookup f=some v):rP (fy K (aA 0) f) σ H v:=λQ q=>by obtain⟨dx,hi⟩:=hi;exact⟨_,h0,o,C,dx,_,_,rfl,hi,cl,n,J,q⟩
noncomputable def f6 (CP CQ:Addr):Sp:=λvs H Q _=>∃(B:Hp)(A:PA)(rs:Pz.RS)(S:Pz.PS)(xs xl xr:DX (List Key))(b:Addr)(a:Pz.Arr)(p:Int)(n m:Option Int),vs=[.ref A.o,.ref b,.int p,vO n,vO m]/\PAt CP CQ B H A rs S xs xl xr/\H b=some (.tup (DW a))/\Pz.Fit (Pz.offer au S a p n m)/\
 ∀ H',PAt CP CQ B H' A rs (Pz.offer au S a p n m) xs xl xr->Q .non H'
noncomputable def Il:R2:=λx y H Q=>y=.non/\Q (.bl (decide (x=.non))) H
theorem GK:OpR X (compareOp .Is) Il:=FO
noncomputable def J0:R2:=xw λi j=>.bl (decide (i<j))
noncomputable def GL (K:On)(CQ:Addr):TS:=
 eU (qC (AL (fy K (aA 0) "told") (aA 1)) (bx 5))
 (yP (JO (mL (lZ Il (aA 5) (tC .non))) (mL (lZ J0 (aA 2) (lZ (qD K) (aA 5) (tC (.int 0))))))
   (eU (AG (fy K (aA 0) "told") (aA 1) (lh (az (aA 2) (az (aA 3) (az (aA 4) be)))))
     (dG (fA CQ "add" (rR CQ) [] E0 (fy K (aA 0) "offers") (az (aA 2) (az (aA 1) be)))))
   t5)
theorem u4 (h:f6 CP CQ vs H Q E):vs.length=5:=by obtain⟨_,_,_,_,_,_,_,_,_,_,_,_,rfl,_⟩:=h;rfl
theorem xg (TP:PCls K CP) (TQ:QCls K CQ) (h:f6 CP CQ vs H Q E):GL K CQ { nx:=λ_ H'=>Q .non H',rt:=Q } (cf ["self", "arrow", "price", "number", "mid", "known"] vs) H:=by
 obtain⟨B,A,rs,S,xs,xl,xr,b,a,p,n,m,rfl,⟨xp,kt,col,P⟩,hb,fit,k⟩:=h;obtain⟨dx,hi⟩:=P.po.ins;have ht:=P.po.td;have g:DGet H A.ta (.ref b) (cS kt (ak a)):=DGet.t ht hb;refine⟨_,rfl,A.o,CP,dx,_,_,rfl,hi,TP.cl,TP.nt,D0 A,A.ta,rfl,.inr ⟨_,.inl ht⟩,_,rfl,_,g,?_⟩;have take:Pz.g9 S a p=true->∀ w,eU (AG (fy K (aA 0) "told") (aA 1) (lh (az (aA 2) (az (aA 3) (az (aA 4) be)))))
  (dG (fA CQ "add" (rR CQ) [] E0 (fy K (aA 0) "offers") (az (aA 2) (az (aA 1) be)))) { nx:=λ_ H'=>Q .non H',rt:=Q } [some (.ref A.o),some (.ref b),some (.int p),some (vO n),some (vO m),some w] H:=by
  intro tk w;have eo:Pz.offer au S a p n m=Pz.kU au S a p n m:=by unfold Pz.offer;rw[Ka tk]
  rw[eo]at fit k;refine⟨_,rfl,_,rfl,_,rfl,(by show 3<=sizeLine;decide),λt ht'=>?_⟩;have s1:Same H (aI H t (.tup [.int p,vO n,vO m])):=aK ht';have P1:=P.more s1;have hl:kt.length<sizeLine:=by have e1:S.told.length=kt.length:=P.po.tr.len;have e2:=fit.t;have e3:=(Pz.uS S.told a (p,n,m)).1;have e4:(Pz.kU au S a p n m).told=Pz.tput S.told a (p,n,m):=rfl;rw[e4]at e2;rw[KL];unfold Pz.L at e2;lia
  refine⟨_,rfl,A.o,CP,dx,_,_,rfl,s1 _ _ hi,TP.cl,TP.nt,D0 A,_,rfl,A.ta,_,rfl,DPut.t (k:=ak a) (s1 _ _ ht) (s1 _ _ hb) hl,?_⟩;have J:=P1.tell (a:=a) (x:=(p,n,m)) (p:=t) af;have hb2:aI (aI H t (.tup [.int p,vO n,vO m])) A.ta (.dT (cz kt (ak a) (.ref t))) b=some (.tup (DW a)):=by rw[ac (λz=>by rw[z,ht]at hb;cases hb)];exact s1 _ _ hb
  generalize aI (aI H t (.tup [.int p,vO n,vO m])) A.ta (.dT (cz kt (ak a) (.ref t)))=H2 at J hb2;obtain⟨dx2,hi2⟩:=J.po.ins;obtain⟨dy2,hq2⟩:=J.po.que;have O:=fit.p;have W:=fit.pf;have al:=Pz.fg S.piles (au p S.last) (p,a);have e5:(Pz.kU au S a p n m).piles=S.piles.app (au p S.last) (p,a):=rfl;rw[e5]at O W;unfold Pz.L at O W;have Y:RepM k1 IsItem H2 S.piles xp:=J.p1.r;refine⟨_,rfl,A.o,CP,dx2,_,_,rfl,hi2,TP.cl,TP.no,GI A,A.aq,dy2,_,rfl,hq2,GJ A _,_,rfl,_,rfl,A.aq,A.ap,b,S.last,p,xp,rfl,⟨⟨dy2,hq2⟩,J.p1.d,by rw[<- Y.len];lia,Y.low (by lia)⟩,?_⟩;intro l p' H3 hl3 hp3 hm3 hq3 hd3 Z;refine k H3 ⟨_,_,_,J.pile hd3 (Y.add i9 (IsItem.keep (J.p1.d.kt (λ_ _ z=>HO.noConfusion z) Z)) ⟨p',_,rfl,hm3,b,rfl,?_⟩) (λc z=>(ko z).imp id λz=>by rw[z];exact hl3) Z⟩;exact J.p1.d.kt (λ_ _ z=>HO.noConfusion z) Z _ _ hb2
 have skip:¬ Pz.g9 S a p=true->Q .non H:=λtk=>by
  have eo:Pz.offer au S a p n m=S:=by unfold Pz.offer;rw[J_ tk]
  rw[eo]at k;exact k H ⟨xp,kt,col,P⟩
 rcases P.po.tr.find a with⟨e1,e2⟩|⟨v,x,e1,e2,q,rfl,hq⟩
 .-- not told yet
  rw[e1];refine⟨_,rfl,rfl,_,rfl,?_⟩;exact take (by unfold Pz.g9;rw[e2]) _
 .rw[e1];refine⟨_,rfl,rfl,_,rfl,?_⟩;refine⟨_,rfl,_,rfl,q,_,0,_,rfl,rfl,SqT.of hq,rfl,p,x.1,rfl,rfl,_,rfl,?_⟩;refine AN (λh=>?_) (λh=>?_)
  .exact take (by unfold Pz.g9;rw[e2];exact h) _
  .exact skip λz=>by unfold Pz.g9 at z;rw[e2]at z;exact absurd z (by simpa using h)
end
section
variable {K:On}{CP CQ:Addr}{B H:Hp}{A:PA}{rs:Pz.RS}{S:Pz.PS}{xs xl xr:DX (List Key)}{xp:DX Key}{kt:List (List Key×V)}{col:Addr->Nat}
theorem PCore.obj (P:PCore CP CQ B H A rs S xs xl xr xp kt col)(hz:H z=none):¬ InD A.ap xp z/\¬ InD A.sa xs z/\¬ InD A.la xl z/\¬ InD A.ar xr z/\z≠A.ta/\z≠A.o/\z≠A.aq:=by
 refine⟨λi=>P.p1.d.obj i hz,λi=>P.p2.d.obj i hz,λi=>P.p3.d.obj i hz,λi=>P.p4.d.obj i hz,λe=>?_,λe=>?_,λe=>?_⟩
 .rw[e,P.po.td]at hz;cases hz
 .obtain⟨_,h⟩:=P.po.ins;rw[e,h]at hz;cases hz
 .obtain⟨_,h⟩:=P.po.que;rw[e,h]at hz;cases hz
theorem tH {α:Type}{it:Hp->α->V->Prop}(hk:∀ H H',KT H H'->∀ x v,it H x v->it H' x v){a:Addr}{f:Str}{ys:DX (List Key)}{d:Pz.MD (Int×Int) α}(P:PCore CP CQ B H A rs S xs xl xr xp kt col)(O:DL .dT H a ys)(hR:RepM k2 it H d ys)
 (cl:Cls K CP) (nf:NoAttr K CP f) (hf:(pf A).lookup f=some (V.ref a)) {σ:L2.St} {j:Nat} {b:Addr} {k:Int×Int} (h0:σ[0]?=some (some (.ref A.o))) (hj:σ[j]?=some (some (.ref b))) (hb:H b=some (.tup [.int k.1,.int k.2])) {Q:VK}
 (kk:∀(l:Addr)(vs:List V)(J H1:Hp),Same H H1->Same B J->KT H1 J->PCore CP CQ J H1 A rs S xs xl xr xp kt col->H1 l=some (.lst vs)->(∀ H2,Same J H2->DL .dT H2 a ys->H2 l=some (.lst vs)/\All2 (it H2) (d.get k) vs)->Q (.ref l) H1) :
 oT (fy K (aA 0) f) (aA j) (wd be) σ H Q:=by
 obtain⟨dx,hi⟩:=P.po.ins;refine⟨_,h0,A.o,CP,dx,_,_,rfl,hi,cl,nf,hf,a,rfl,.inr ⟨_,.inl O.root⟩,_,hj,KF _,λz hz=>?_⟩;have s1:Same H (aI H z (.lst [])):=aK hz;have W:aI H z (.lst []) b=some (.tup ((k2 k).map kV)):=s1 _ _ hb;refine⟨_,DGet.t (s1 _ _ O.root) W,?_⟩;have P1:=P.more s1;rcases hR.find tE k with⟨f1,f2,Y⟩|⟨p,f1,f2,Y⟩
 .rw[gM,f1];obtain⟨J,w1,L,w3,Z⟩:=P1.wide (λc=>c=z) λc e=>by subst e;exact P.obj hz
  refine kk z [] J _ s1 w1 L Z af λH2 s2 _=>⟨s2 _ _ (w3 z _ rfl af),?_⟩;rw[Y];exact .nil
 .rw[gM,f1];obtain⟨J,w1,L,w3,Z⟩:=P1.wide (λ_=>False) λ_ e=>e.elim;refine kk p.1 p.2 J _ s1 w1 L Z (s1 _ _ (O.kid _ (bZ f1))) λH2 s2 D2=>⟨D2.kid _ (bZ f1),Y.mono (hk _ _ λc ws e=>s2 _ _ (L _ _ (s1 _ _ e)))⟩
theorem hG {tb:TS}{D:Ends}{σ:L2.St}(h:tl σ H λx H1=>∃ a,x=.ref a/\(∃ xs,SqL K H1 a xs)/\∃ W:Nat->Nat->L2.St->Hp->Prop,(∃ m,W 0 m σ H1)/\∀ i m σ H,W i m σ H->
 ((v4 K a).stop i H/\D.nx σ H)\/((v4 K a).go i H/\∃ N:L2.St->Hp->Prop,(∀ J H',N J H'->∃ m',m'<m/\W (i+1) m' J H')/\∀ x H',(v4 K a).yld i H x H'->g x σ H' λL H2=>tb { D with nx:=N,ct:=N,bk:=D.nx } L H2)):oJ (lg K tl) g tb D σ H:=h
theorem yo {α:Type}{it:Hp->α->V->Prop}{l:Addr}{vs:List V}{its:List α}{g:TG}{tb:TS}{D:Ends}{σ:L2.St}{H1:Hp}(O:L2.St->Prop)(step:Pz.PS->α->Pz.PS)(S0:Pz.PS)(W:Pz.PS->Hp->Prop)(h0:O σ)(h1:W S0 H1)
 (Y:∀ S H,W S H->Rd H l (.lst vs)/\All2 (it H) its vs)
 (hb:∀(i:Nat)(x:α)(v:V)(σ:L2.St)(H:Hp),its[i]?=some x->it H x v->O σ->W ((its.take i).foldl step S0) H->
   g v σ H λL H2=>tb { D with nx:=λJ H'=>O J/\W (step ((its.take i).foldl step S0) x) H',ct:=λJ H'=>O J/\W (step ((its.take i).foldl step S0) x) H',bk:=D.nx } L H2)
 (hd:∀ σ H,O σ->W (its.foldl step S0) H->D.nx σ H) :
 ∃ W:Nat->Nat->L2.St->Hp->Prop,(∃ m,W 0 m σ H1)/\∀ i m σ H,W i m σ H->
  ((v4 K l).stop i H/\D.nx σ H)\/((v4 K l).go i H/\∃ N:L2.St->Hp->Prop,(∀ J H',N J H'->∃ m',m'<m/\W (i+1) m' J H')/\∀ x H',(v4 K l).yld i H x H'->g x σ H' λL H2=>tb { D with nx:=N,ct:=N,bk:=D.nx } L H2):=by
 have bw:its.length=vs.length:=(Y _ _ h1).2.len;refine t7 (K:=K) (a:=l) (xs:=vs) (λi σ H=>O σ/\W ((its.take i).foldl step S0) H) ⟨h0,h1⟩ (λi σ H _ ⟨_,w⟩=>Or.inl (Y _ _ w).1) (λi v σ H hi ⟨s,w⟩=>?_) λσ H ⟨s,w⟩=>?_
 .obtain⟨x,Z,ix⟩:=(Y _ _ w).2.get hi;have e:(its.take (i+1)).foldl step S0=step ((its.take i).foldl step S0) x:=by rw[MX,Z,MC];rfl
  rw[e];exact hb i x v σ H Z ix s w
 .rw[Lg (by lia)]at w;exact hd σ H s w
theorem tJ {α:Type}{it:Hp->α->V->Prop}{l:Addr}{vs:List V}{its:List α}{g:TG}{tb:TS}{D:Ends}{σ:L2.St}{H1:Hp}(O:L2.St->Prop)(step:Pz.PS->α->Pz.PS)(S0:Pz.PS)(W:Pz.PS->Hp->Prop)(h0:O σ)(h1:W S0 H1)
 (Y:∀ S H,W S H->H l=some (.lst vs)/\All2 (it H) its vs)
 (Z:∀(i:Nat)(x:α)(v:V)(σ:L2.St)(H:Hp),its[i]?=some x->it H x v->O σ->W ((its.take i).foldl step S0) H->
   g v σ H λL H2=>tb { D with nx:=λJ H'=>O J/\W (step ((its.take i).foldl step S0) x) H',ct:=λJ H'=>O J/\W (step ((its.take i).foldl step S0) x) H',bk:=D.nx } L H2)
 (hd:∀ σ H,O σ->W (its.foldl step S0) H->D.nx σ H) :
 ∃ W:Nat->Nat->L2.St->Hp->Prop,(∃ m,W 0 m σ H1)/\∀ i m σ H,W i m σ H->
  ((v4 K l).stop i H/\D.nx σ H)\/((v4 K l).go i H/\∃ N:L2.St->Hp->Prop,(∀ J H',N J H'->∃ m',m'<m/\W (i+1) m' J H')/\∀ x H',(v4 K l).yld i H x H'->g x σ H' λL H2=>tb { D with nx:=N,ct:=N,bk:=D.nx } L H2):=
 yo O step S0 W h0 h1 (λS H w=>⟨.inl (Y S H w).1,(Y S H w).2⟩) Z hd
theorem hJ {α:Type}{step:Pz.PS->α->Pz.PS}(J:∀ S x,Pz.Grow S (step S x)){its:List α}{S0:Pz.PS}(h:Pz.Fit (its.foldl step S0)){i:Nat}{x:α}(L:its[i]?=some x):Pz.Fit (step ((its.take i).foldl step S0) x):=by
 have e:(its.take (i+1)).foldl step S0=step ((its.take i).foldl step S0) x:=by rw[MX,L,MC];rfl
 rw[<- e];refine Pz.Grow.fit (Pz.bU step J (its.drop (i+1)) _) ?_;rw[<- MC,Mr];exact h
noncomputable def u5:R2:=xw λi j=>.int (i+j)
noncomputable def oC (CP CQ:Addr):Sp:=λvs H Q _=>∃(B:Hp)(A:PA)(rs:Pz.RS)(S:Pz.PS)(xs xl xr:DX (List Key))(c:Addr)(r:Pz.Rule)(num mid J:Int),vs=[.ref A.o,.int num,.ref c,.int mid,.int J]/\PAt CP CQ B H A rs S xs xl xr/\IsRule H r (.ref c)/\2<=r.2.2.2.length/\Pz.Fit (Pz.first au S num r mid J)/\
 ∀ H' L,PAt CP CQ B H' A rs (Pz.first au S num r mid J) xs L xr->Q .non H'
noncomputable def GM (K:On)(CP CQ:Addr):TS:=
 eU (qC (lh (az (aA 3) (az (lZ (qD K) (lZ (qD K) (aA 2) (tC (.int 3))) (tC (.int 1))) be))) (bx 5))
 (eU (dG (rQ K (fy K (aA 0) "lacking") (aA 5) (lh (az (aA 1) (az (aA 2) (az (aA 4) be))))))
 (oJ (lg K (oT (fy K (aA 0) "settled") (aA 5) (wd be))) (rW K 2 (cT (bx 6) (cT (bx 7) rV)))
   (dG (fA CP "offer" (f6 CP CQ) [] E0 (aA 0) (az (lh (az (lZ (qD K) (aA 2) (tC (.int 0))) (az (lZ (qD K) (aA 2) (tC (.int 1))) (az (aA 6) be))))
     (az (lZ u5 (lZ u5 (aA 4) (aA 7)) (tC (.int 1))) (az (aA 1) (az (aA 3) be))))))))
theorem u6 (h:oC CP CQ vs H Q E):vs.length=5:=by obtain⟨_,_,_,_,_,_,_,_,_,_,_,_,rfl,_⟩:=h;rfl
theorem i_ (A:PA):(pf A).lookup ("offer" : Str)=none:=rfl
theorem D7 {l:List Int}(h:2<=l.length):(l.map V.int)[1]?=some (.int (Pz.nth1 l)):=by
 match l,h with
 |x::y::_,_=>rfl
theorem xh {vs:List V} (TP:PCls K CP) (h:oC CP CQ vs H Q E):GM K CP CQ { nx:=λ_ H'=>Q .non H',rt:=Q } (cf ["self", "number", "rule", "mid", "price", "start", "state", "second"] vs) H:=by
 obtain⟨B,A,rs,S,xs,xl,xr,c,r,num,mid,J,rfl,⟨xp,kt,col,P⟩,⟨_,q,ec,hr,hq⟩,h2,fit,k⟩:=h;cases ec;refine⟨_,rfl,_,rfl,c,_,3,_,rfl,rfl,SqT.of hr,rfl,q,_,1,_,rfl,rfl,SqT.of hq,xF (j:=1) (D7 h2),(by show 2<=sizeLine;decide),λb hb=>?_⟩;have s1:Same H (aI H b (.tup [.int mid,.int (Pz.nth1 r.2.2.2)])):=aK hb;have P1:=P.more s1;have hbb:aI H b (.tup [.int mid,.int (Pz.nth1 r.2.2.2)]) b=some (.tup [.int mid,.int (Pz.nth1 r.2.2.2)]):=af;have hr1:=s1 _ _ hr;have hq1:=s1 _ _ hq;generalize aI H b (.tup [.int mid,.int (Pz.nth1 r.2.2.2)])=H1 at s1 P1 hbb hr1 hq1;have Y:Pz.Fit (Pz.lack S num r mid J):=Pz.Grow.fit (Pz.bU _ (λS x=>Pz.bI S _ _ _ _) _ _) fit;have f1:=Y.l;have f2:=Y.lf;have al:=Pz.fg S.lacking (mid,Pz.nth1 r.2.2.2) (num,r,J);have e5:(Pz.lack S num r mid J).lacking=S.lacking.app (mid,Pz.nth1 r.2.2.2) (num,r,J):=rfl;rw[e5]at f1 f2;unfold Pz.L at f1 f2;have lr1:RepM k2 IsLack H1 S.lacking xl:=P1.p3.r;refine tz (a:=A.la) (b:=b) (xs:=xl) (k:=k2 (mid,Pz.nth1 r.2.2.2)) (ws:=[.int num,.ref c,.int J]) P1.p3.d (BX TP.cl TP.nl rfl P1.po.ins (Ik A)) (λQ q=>⟨_,rfl,q⟩) hbb (λH' _ Q q=>⟨_,rfl,_,rfl,_,rfl,(by show 3<=sizeLine;decide),q⟩) (by rw[<- lr1.len];lia) (lr1.low (by lia)) ?_;intro l p H2 hl hp hm hd kp;have W:=P1.p3.d.kt (λ_ _ z=>HO.noConfusion z) kp;have P2:=P1.lack hd (lr1.add (k:=(mid,Pz.nth1 r.2.2.2)) (v:=(num,r,J)) tE (IsLack.keep W) ⟨p,_,rfl,hm,c,q,rfl,W _ _ hr1,W _ _ hq1⟩) (λc z=>(ko z).imp id λz=>by rw[z];exact hl) kp;have P2:PCore CP CQ B H2 A rs (Pz.lack S num r mid J) xs _ xr _ _ _:=P2;dsimp only;refine hG ?_;refine tH (λH H' k=>IsSet.keep k) P2 P2.p2.d P2.p2.r TP.cl TP.ns (Ij A) (j:=5) (k:=(mid,Pz.nth1 r.2.2.2)) (by rfl) (by rfl) (W _ _ hbb) λl' vs' B1 H3 s3 b1 w3 P3 hl3 hkk=>?_;refine⟨l',rfl,⟨_,SqL.of hl3⟩,tJ (it:=IsSet) (vs:=vs') (its:=S.settled.get (mid,Pz.nth1 r.2.2.2)) (λσ=>∃ u v,σ=[some (.ref A.o),some (.int num),some (.ref c),some (.int mid),some (.int J),some (.ref b),u,v])
  (λS x=>Pz.offer au S (r.1,r.2.1,x.1) (J+x.2+1) (some num) (some mid)) (Pz.lack S num r mid J) (λT H4=>∃ O,PAt CP CQ B1 H4 A rs T xs O xr) ⟨none,none,rfl⟩ ⟨_,_,_,_,P3⟩ ?_ ?_ ?_⟩
 .rintro T H4 ⟨O,xp4,kt4,col4,Z⟩;exact hkk H4 Z.same Z.p2.d
 .rintro i ⟨st,sec⟩ v σ H4 hi ⟨t,rfl,ht⟩ ⟨u,w,rfl⟩ ⟨O,Z⟩;have k4:KT H3 H4:=λa ws e=>Z.same _ _ (w3 _ _ e);have hr4:=k4 _ _ (s3 _ _ (W _ _ hr1));refine⟨t,_,rfl,SqT.of ht,rfl,_,_,rfl,_,_,rfl,rfl,?_⟩;have P4':=Z;obtain⟨xp4,kt4,col4,Q4⟩:=P4';obtain⟨dx4,hi4⟩:=Q4.po.ins;refine⟨_,rfl,A.o,dx4,_,rfl,hi4,i_ A,_,rfl,c,_,0,_,rfl,rfl,SqT.of hr4,rfl,_,rfl,c,_,1,_,rfl,rfl,SqT.of hr4,rfl,_,rfl,(by show 3<=sizeLine;decide),λtt htt=>?_⟩;refine⟨_,rfl,_,rfl,_,_,rfl,rfl,_,_,rfl,rfl,_,rfl,_,rfl,?_⟩;refine⟨B1,A,rs,_,xs,O,xr,tt,(r.1,r.2.1,st),J+sec+1,some num,some mid,rfl,Z.more (aK htt),af,hJ (λS x=>Pz.bI S _ _ _ _) fit hi,λH5 P5=>⟨⟨_,_,rfl⟩,O,P5⟩⟩
 .rintro σ H4 _ ⟨O,Z⟩;exact k H4 O (Z.less b1)
noncomputable def yp (K:On):List V->Hp->VK->Prop:=λxs H Q=>∃ p ys,xs=[.ref p]/\(SqL K H p ys\/SqT K H p ys)/\Q (.int ys.length) H
theorem mC:CallR X (.builtin "len") (yp X.K):=call_len_seq
noncomputable abbrev tI (K:On)(i:Nat)(n:Int):TE:=lZ (qD K) (aA i) (tC (.int n))
def GN (rs:Pz.RS):Prop:=∀ k x,x∈rs.get k->1<=x.2.2.2.2.length
noncomputable def lK (CP CQ:Addr):Sp:=λvs H Q _=>∃(B:Hp)(A:PA)(rs:Pz.RS)(S:Pz.PS)(xs xl xr:DX (List Key))(b:Addr)(a:Pz.Arr)(J:Int),vs=[.ref A.o,.ref b,.int J]/\PAt CP CQ B H A rs S xs xl xr/\H b=some (.tup (DW a))/\GN rs/\Pz.Fit (Pz.settle au rs S a J)/\
 ∀ H' L O,PAt CP CQ B H' A rs (Pz.settle au rs S a J) L O xr->Q .non H'
noncomputable def D8 (K:On)(CP CQ:Addr):TS:=
 eU (qC (lh (az (tI K 1 0) (az (tI K 1 1) be))) (bx 3))
 (eU (dG (rQ K (fy K (aA 0) "settled") (aA 3) (lh (az (tI K 1 2) (az (aA 2) be)))))
 (eU (oJ (lg K (oT (fy K (aA 0) "lacking") (aA 3) (wd be))) (rW K 3 (cT (bx 4) (cT (bx 5) (cT (bx 6) rV))))
   (dG (fA CP "offer" (f6 CP CQ) [] E0 (aA 0) (az (lh (az (tI K 5 0) (az (tI K 5 1) (az (tI K 1 2) be)))) (az (lZ u5 (lZ u5 (aA 6) (aA 2)) (tC (.int 1))) (az (aA 4) (az (tI K 1 0) be)))))))
 (oJ (lg K (oT (fy K (aA 0) "rules") (aA 3) (wd be))) (rW K 2 (cT (bx 4) (cT (bx 5) rV)))
   (yP (mL (lZ Hr (Ex (yp K) (az (tI K 5 3) be)) (tC (.int 1))))
     (dG (fA CP "offer" (f6 CP CQ) [] E0 (aA 0) (az (lh (az (tI K 5 0) (az (tI K 5 1) (az (tI K 1 2) be)))) (az (lZ u5 (aA 2) (tC (.int 1))) (az (aA 4) (az (tC .non) be))))))
     (dG (fA CP "settle_first" (oC CP CQ) [] E0 (aA 0) (az (aA 4) (az (aA 5) (az (tI K 1 2) (az (aA 2) be))))))))))
theorem tL (h:lK CP CQ vs H Q E):vs.length=3:=by obtain⟨_,_,_,_,_,_,_,_,_,_,rfl,_⟩:=h;rfl
theorem BY (A:PA):(pf A).lookup ("settle_first" : Str)=none:=rfl
theorem u7 (TP:PCls K CP) (h:lK CP CQ vs H Q E):D8 K CP CQ { nx:=λ_ H'=>Q .non H',rt:=Q } (cf ["self", "arrow", "price", "start", "number", "rule", "first"] vs) H:=by
 obtain⟨B,A,rs,S,xs,xl,xr,b0,a,J,rfl,⟨xp,kt,col,P⟩,ha,rok,fit,k⟩:=h;refine⟨_,rfl,b0,_,0,_,rfl,rfl,SqT.of ha,rfl,_,rfl,b0,_,1,_,rfl,rfl,SqT.of ha,rfl,(by show 2<=sizeLine;decide),λb hb=>?_⟩;have s1:Same H (aI H b (.tup [.int a.1,.int a.2.1])):=aK hb;have P1:=P.more s1;have hbb:aI H b (.tup [.int a.1,.int a.2.1]) b=some (.tup [.int a.1,.int a.2.1]):=af;have Z:=s1 _ _ ha;generalize aI H b (.tup [.int a.1,.int a.2.1])=H1 at s1 P1 hbb Z;have g2:Pz.Grow ((S.lacking.get (a.1,a.2.1)).foldl (Pz.lJ au a J) (Pz.note S a J)) (Pz.settle au rs S a J):=Pz.bU _ (Pz.kW a J) _ _;have fit1:Pz.Fit ((S.lacking.get (a.1,a.2.1)).foldl (Pz.lJ au a J) (Pz.note S a J)):=g2.fit fit;have fitN:Pz.Fit (Pz.note S a J):=Pz.Grow.fit (Pz.bU _ (λS x=>Pz.bI S _ _ _ _) _ _) fit1;have f1:=fitN.s;have f2:=fitN.sf;have al:=Pz.fg S.settled (a.1,a.2.1) (a.2.2,J);have e5:(Pz.note S a J).settled=S.settled.app (a.1,a.2.1) (a.2.2,J):=rfl;rw[e5]at f1 f2;unfold Pz.L at f1 f2;have sr1:RepM k2 IsSet H1 S.settled xs:=P1.p2.r;refine tz (a:=A.sa) (b:=b) (xs:=xs) (k:=k2 (a.1,a.2.1)) (ws:=[.int a.2.2,.int J]) P1.p2.d (BX TP.cl TP.ns rfl P1.po.ins (Ij A)) (λQ q=>⟨_,rfl,q⟩) hbb (λH' kp Q q=>⟨_,rfl,b0,_,2,_,rfl,rfl,SqT.of (kp _ _ Z (λz=>by rw[z,P1.p2.d.root]at Z;cases Z)),rfl,_,rfl,(by show 2<=sizeLine;decide),q⟩) (by rw[<- sr1.len];lia) (sr1.low (by lia)) ?_;intro l p H2 hl hp hm hd kp;have kt2:=P1.p2.d.kt (λ_ _ z=>HO.noConfusion z) kp;have P2:=P1.sett hd (sr1.add (k:=(a.1,a.2.1)) (v:=(a.2.2,J)) tE (IsSet.keep kt2) ⟨p,rfl,hm⟩) (λc z=>(ko z).imp id λz=>by rw[z];exact hl) kp;have P2:PCore CP CQ B H2 A rs (Pz.note S a J) _ xl xr _ _ _:=P2;generalize ku xs (k2 (a.1,a.2.1)) l (.ref p)=Y at P2;have ha2:=kt2 _ _ Z;dsimp only;refine hG ?_;refine tH (λH H' k=>IsLack.keep k) P2 P2.p3.d P2.p3.r TP.cl TP.nl (Ik A) (j:=3) (k:=(a.1,a.2.1)) (by rfl) (by rfl) (kt2 _ _ hbb) λl' vs' B1 H3 s3 b1 w3 P3 hl3 hkk=>?_;refine⟨l',rfl,⟨_,SqL.of hl3⟩,tJ (it:=IsLack) (vs:=vs') (its:=S.lacking.get (a.1,a.2.1)) (λσ=>∃ u v w,σ=[some (.ref A.o),some (.ref b0),some (.int J),some (.ref b),u,v,w])
  (Pz.lJ au a J) (Pz.note S a J) (λT H4=>PAt CP CQ B1 H4 A rs T Y xl xr) ⟨none,none,none,rfl⟩ ⟨_,_,_,P3⟩ ?_ ?_ ?_⟩
 .rintro T H4 ⟨xp4,kt4,col4,P4⟩;exact hkk H4 P4.same P4.p3.d
 .rintro i ⟨num,r,fst⟩ v σ H4 hi ⟨t,_,rfl,ht,c,q,rfl,hr,hq⟩ ⟨u,w,z,rfl⟩ P4;have k4:KT H3 H4:=λa ws e=>P4.same _ _ (w3 _ _ e);have ha4:=k4 _ _ (s3 _ _ ha2);refine⟨t,_,rfl,SqT.of ht,rfl,_,_,rfl,_,_,rfl,_,_,rfl,rfl,?_⟩;have P4':=P4;obtain⟨xp4,kt4,col4,Q4⟩:=P4';obtain⟨dx4,hi4⟩:=Q4.po.ins;refine⟨_,rfl,A.o,dx4,_,rfl,hi4,i_ A,_,rfl,c,_,0,_,rfl,rfl,SqT.of hr,rfl,_,rfl,c,_,1,_,rfl,rfl,SqT.of hr,rfl,_,rfl,b0,_,2,_,rfl,rfl,SqT.of ha4,rfl,(by show 3<=sizeLine;decide),λtt htt=>?_⟩;have s5:=aK (o:=HO.tup [.int r.1,.int r.2.1,.int a.2.2]) htt;refine⟨_,rfl,_,rfl,_,_,rfl,rfl,_,_,rfl,rfl,_,rfl,_,rfl,b0,_,0,_,rfl,rfl,SqT.of (s5 _ _ ha4),rfl,?_⟩;refine⟨B1,A,rs,_,Y,xl,xr,tt,(r.1,r.2.1,a.2.2),fst+J+1,some num,some a.1,rfl,P4.more s5,af,hJ (step:=Pz.lJ au a J) (λS x=>Pz.bI S _ _ _ _) fit1 hi,λH5 P5=>⟨⟨_,_,_,rfl⟩,P5⟩⟩
 .rintro σ H4 ⟨u,w,z,rfl⟩ P4;have k4:KT H3 H4:=λa ws e=>P4.same _ _ (w3 _ _ e);have ha4:=k4 _ _ (s3 _ _ ha2);have hb4:=k4 _ _ (s3 _ _ (kt2 _ _ hbb));obtain⟨xp4,kt4,col4,Q4⟩:=P4;have eS:Pz.settle au rs S a J=(rs.get (a.1,a.2.1)).foldl (Pz.cj au a J) ((S.lacking.get (a.1,a.2.1)).foldl (Pz.lJ au a J) (Pz.note S a J)):=rfl;rw[eS]at fit k;generalize (S.lacking.get (a.1,a.2.1)).foldl (Pz.lJ au a J) (Pz.note S a J)=S4 at Q4 fit k;dsimp only;refine hG ?_;refine tH (λH H' k=>IsNum.keep k) Q4 Q4.p4.d Q4.p4.r TP.cl TP.nr (JH A) (j:=3) (k:=(a.1,a.2.1)) (by rfl) (by rfl) hb4 λl5 vs5 B5 H5 s5 b5 w5 P5 hl5 hk5=>?_;refine⟨l5,rfl,⟨_,SqL.of hl5⟩,tJ (it:=IsNum) (vs:=vs5) (its:=rs.get (a.1,a.2.1)) (λσ=>∃ u v w,σ=[some (.ref A.o),some (.ref b0),some (.int J),some (.ref b),u,v,w])
   (Pz.cj au a J) S4 (λT H6=>∃ O,PAt CP CQ B5 H6 A rs T Y O xr) ⟨_,_,_,rfl⟩ ⟨_,_,_,_,P5⟩ ?_ ?_ ?_⟩
  .rintro T H6 ⟨O,xp6,kt6,col6,P6⟩;exact hk5 H6 P6.same P6.p4.d
  .rintro i ⟨num,r⟩ v σ H6 hi ⟨t,_,rfl,ht,c,q,rfl,hr,hq⟩ ⟨u',w',z',rfl⟩ ⟨O,P6⟩;have k6:KT H5 H6:=λa ws e=>P6.same _ _ (w5 _ _ e);have ha6:=k6 _ _ (s5 _ _ ha4);have bw:1<=r.2.2.2.length:=rok _ _ (K3 hi);have W:=hJ (step:=Pz.cj au a J) (Pz.kW a J) fit hi;refine⟨t,_,rfl,SqT.of ht,rfl,_,_,rfl,_,_,rfl,rfl,?_⟩;have P6':=P6;obtain⟨xp6,kt6,col6,Q6⟩:=P6';obtain⟨dx6,hi6⟩:=Q6.po.ins;refine⟨_,rfl,c,_,3,_,rfl,rfl,SqT.of hr,rfl,q,_,rfl,.inr (SqT.of hq),rfl,_,rfl,?_⟩;have e1:(V.int (((r.2.2.2.map V.int).length:Nat):Int)=V.int 1)↔r.2.2.2.length=1:=by rw[J9];exact⟨λe=>by injection e with e;lia,λe=>by rw[e];rfl⟩
   unfold Pz.cj at W;unfold Pz.cj;refine AN (λh=>?_) (λh=>?_)
   .have h1:r.2.2.2.length=1:=e1.mp (K7 h);rw[Ka (show((num,r):Int×Pz.Rule).2.2.2.2.length=1 from h1)]at W ⊢;refine⟨_,rfl,A.o,dx6,_,rfl,hi6,i_ A,_,rfl,c,_,0,_,rfl,rfl,SqT.of hr,rfl,_,rfl,c,_,1,_,rfl,rfl,SqT.of hr,rfl,_,rfl,b0,_,2,_,rfl,rfl,SqT.of ha6,rfl,(by show 3<=sizeLine;decide),λtt htt=>?_⟩;have s7:=aK (o:=HO.tup [.int r.1,.int r.2.1,.int a.2.2]) htt;refine⟨_,rfl,_,_,rfl,rfl,_,rfl,?_⟩;refine⟨B5,A,rs,_,Y,O,xr,tt,(r.1,r.2.1,a.2.2),J+1,some num,none,rfl,P6.more s7,af,W,λH7 P7=>⟨⟨_,_,_,rfl⟩,O,P7⟩⟩
   .have h1:¬ r.2.2.2.length=1:=λz=>h (Ki (e1.mpr z));rw[J_ (show ¬ ((num,r):Int×Pz.Rule).2.2.2.2.length=1 from h1)]at W ⊢;refine⟨_,rfl,A.o,dx6,_,rfl,hi6,BY A,_,rfl,_,rfl,_,rfl,b0,_,2,_,rfl,rfl,SqT.of ha6,rfl,_,rfl,?_⟩;exact⟨B5,A,rs,_,Y,O,xr,c,r,num,a.2.2,J,rfl,P6,⟨c,q,rfl,hr,hq⟩,by lia,W,λH7 xl7 P7=>⟨⟨_,_,_,rfl⟩,xl7,P7⟩⟩
  .rintro σ H6 _ ⟨O,P6⟩;exact k H6 Y O (P6.less (b1.trans b5))
end
section
variable {K:On}{CP CQ:Addr}{B H H':Hp}{A:PA}{rs:Pz.RS}{S:Pz.PS}{xs xl xr:DX (List Key)}{xp:DX Key}{kt:List (List Key×V)}{col:Addr->Nat}
theorem PCore.took (h:PCore CP CQ B H A rs S xs xl xr xp kt col)(h0:∃ dx,H' A.aq=some (.ins CQ dx (qf A m)))(h1:DL .dK H' A.ap xp')(h2:RepM k1 IsItem H' d' xp')(hn:∀ c,InD A.ap xp' c->InD A.ap xp c\/H c=none)
 (kp:∀ c u,H c=some u->¬ InD A.ap xp c->c≠A.aq->H' c=some u):PCore CP CQ B H' A rs { S with last:=m,piles:=d' } xs xl xr xp' kt (tF col 1 H):=by
 obtain⟨dy,L⟩:=h.po.que;have k:KT H H':=λc ws e=>kp c _ e (λi=>by
  rcases i with rfl|⟨x,W,rfl⟩
  .rw[h.p1.d.root]at e;cases e
  .rw[h.p1.d.kid x W]at e;cases e) λz=>by rw[z,L]at e;cases e
 have J:∀ c u,H c=some u->col c≠1->col c≠7->H' c=some u:=λc u e n Y=>kp c u e (λi=>n (h.p1.c c i).1) λz=>Y (by rw[z];exact h.po.c7.1);obtain⟨⟨dx,i1⟩,_,O,Z,c5,c6,c7⟩:=h.po;refine⟨(λc u e=>kp c u (h.same c u e) (λi=>by rw[(h.p1.c c i).2]at e;cases e) λz=>by rw[z,c7.2]at e;cases e),h.p1.new h.same h1 h2 hn,h.p2.keep (IsSet.keep k) (λc u e z=>J c u e (by lia) (by lia)) λc=>aS,h.p3.keep (IsLack.keep k) (λc u e z=>J c u e (by lia) (by lia)) λc=>aS,h.p4.keep (IsNum.keep k) (λc u e z=>J c u e (by lia) (by lia)) λc=>aS,⟨dx,J _ _ i1 (by lia) (by lia)⟩,h0,J _ _ O (by lia) (by lia),Z.keep k,?_,?_,?_⟩
 .rw[aS (by rw[O];simp)];exact c5
 .rw[aS (by rw[i1];simp)];exact c6
 .rw[aS (by rw[L];simp)];exact c7
noncomputable def yq (CP CQ:Addr):Sp:=λvs H Q _=>∃(B:Hp)(A:PA)(rs:Pz.RS)(S T:Pz.PS)(xs xl xr:DX (List Key))(n:Nat),vs=[.ref A.o]/\PAt CP CQ B H A rs S xs xl xr/\GN rs/\Pz.Fit S/\Pz.Loop au rs n S T/\
 ∀ H' J L,PAt CP CQ B H' A rs T J L xr->Q .non H'
noncomputable def JI (K:On)(CP CQ:Addr):TS:=
 Ap (Hj (tB (fA CQ "is_empty" (oA CQ) [] E0 (fy K (aA 0) "offers") be)))
 (oJ (lg K (fA CQ "take_lowest" (tG CQ) [] E0 (fy K (aA 0) "offers") be)) (rW K 2 (cT (bx 1) (cT (bx 2) rV)))
   (yP (mL (lZ Hr (lZ (qD K) (EA (fy K (aA 0) "told") (aA 2)) (tC (.int 0))) (aA 1)))
     (dG (fA CP "settle" (lK CP CQ) [] E0 (aA 0) (az (aA 2) (az (aA 1) be)))) t5))
theorem zY (h:yq CP CQ vs H Q E):vs.length=1:=by obtain⟨_,_,_,_,_,_,_,_,_,rfl,_⟩:=h;rfl
theorem GO (A:PA) (last:Int):(qf A last).lookup ("is_empty" : Str)=none:=rfl
theorem D9 (A:PA) (last:Int):(qf A last).lookup ("take_lowest" : Str)=none:=rfl
theorem zZ (A:PA):(pf A).lookup ("settle" : Str)=none:=rfl
theorem BZ (TP:PCls K CP) (h:yq CP CQ vs H Q E):JI K CP CQ { nx:=λ_ H'=>Q .non H',rt:=Q } (cf ["self", "price", "arrow"] vs) H:=by
 obtain⟨B,A,rs,S,T,xs,xl,xr,n,rfl,P,rok,fit,lp,k⟩:=h;refine⟨λm σ H=>(∃ u v,σ=[some (.ref A.o),u,v])/\∃ S xs xl,PAt CP CQ B H A rs S xs xl xr/\Pz.Fit S/\Pz.Loop au rs m S T,⟨n,⟨none,none,rfl⟩,S,xs,xl,P,fit,lp⟩,?_⟩;clear P lp fit;rintro m σ H ⟨⟨u,v,rfl⟩,S,xs,xl,⟨xp,kt,col,P⟩,fit,lp⟩;obtain⟨dx,hi⟩:=P.po.ins;obtain⟨dy,hq⟩:=P.po.que;have pr:RepM k1 IsItem H S.piles xp:=P.p1.r;have f1:=fit.p;have f2:=fit.pf;unfold Pz.L at f1 f2;refine⟨_,rfl,A.o,CP,dx,_,_,rfl,hi,TP.cl,TP.no,GI A,A.aq,dy,_,rfl,hq,GO A _,A.aq,A.ap,dy,S.last,xp.kv,rfl,hq,P.p1.d.root,(by unfold DX.kv;rw[J9,<- pr.len,KL];lia),_,rfl,?_⟩;have el:xp.kv.length=S.piles.length:=by unfold DX.kv;rw[J9,<- pr.len]
 rw[el];cases lp with
 |done e=>rw[e];exact ud (k H xs xl ⟨xp,kt,col,P⟩)
 | @step m _ _ hne hok hkn _ Y lp=>
  have:decide (S.piles.length=0)=false:=Kv λz=>hne (LL.mp z);rw[this];refine ss ?_;refine⟨λσ H=>(∃ u v,σ=[some (.ref A.o),u,v])/\∃ S xs xl,PAt CP CQ B H A rs S xs xl xr/\Pz.Fit S/\Pz.Loop au rs m S T,λσ' H' h'=>⟨m,Mo _,h'⟩,?_⟩;refine hG ?_;refine⟨_,rfl,A.o,CP,dx,_,_,rfl,hi,TP.cl,TP.no,GI A,A.aq,dy,_,rfl,hq,D9 A _,A.aq,A.ap,S.last,xp,S.piles,rfl,⟨⟨dy,hq⟩,P.p1.d,by rw[<- pr.len];lia,pr.low (by lia)⟩,pr,hok,hne,by lia,?_⟩;intro l vs' xp' H1 G1 R1 hl1 a1 nl il sub1 kp1;have P1:PCore CP CQ B H1 A rs (Pz.take au S) xs xl xr xp' kt _:=P.took (m:=Pz.lowP S.piles) (d':=Pz.left au S.piles) G1.ins G1.piles R1 sub1 kp1;obtain⟨B1,w1,w2,w3,P2⟩:=P1.wide (λc=>c=l) λc e=>by
   subst e;rcases il with il|il
   .have hc:=(P.p1.c c il).1;refine⟨nl,λi=>?_,λi=>?_,λi=>?_,λz=>?_,λz=>?_,λz=>?_⟩
    .have:=(P.p2.c c i).1;lia
    .have:=(P.p3.c c i).1;lia
    .have:=(P.p4.c c i).1;lia
    .have:=P.po.c5.1;rw[z]at hc;lia
    .have:=P.po.c6.1;rw[z]at hc;lia
    .have:=P.po.c7.1;rw[z]at hc;lia
   .exact⟨nl,(P.obj il).2⟩
  refine⟨l,rfl,⟨_,SqL.of hl1⟩,tJ (it:=IsItem) (vs:=vs') (its:=Pz.taken au S.piles) (λσ=>∃ u v,σ=[some (.ref A.o),u,v]) (Pz.turn au rs) (Pz.take au S) (λT' H2=>∃ O W,PAt CP CQ B1 H2 A rs T' O W xr) ⟨_,_,rfl⟩ ⟨xs,xl,_,_,_,P2⟩ ?_ ?_ ?_⟩
  .rintro T' H2 ⟨O,W,Z⟩;have s2:=Z.same;exact⟨s2 _ _ (w3 l _ rfl hl1),a1.mono (IsItem.keep λc ws e=>s2 _ _ (w2 _ _ e))⟩
  .rintro i ⟨p,a⟩ v' σ H2 hx ⟨t,_,rfl,ht,b,rfl,hb⟩ ⟨u',v'',rfl⟩ ⟨O,W,Z⟩;have J:=hJ (step:=Pz.turn au rs) Pz.zP Y hx;have kn:Pz.tget (((Pz.taken au S.piles).take i).foldl (Pz.turn au rs) (Pz.take au S)).told a≠none:=Pz.i6 _ (λS x k=>Pz.DQ k) _ _ (hkn (p,a) (K3 hx));generalize ((Pz.taken au S.piles).take i).foldl (Pz.turn au rs) (Pz.take au S)=S3 at Z J kn;refine⟨t,_,rfl,SqT.of ht,rfl,_,_,rfl,_,_,rfl,rfl,?_⟩;have P3':=Z;obtain⟨xp3,kt3,col3,Q3⟩:=P3';obtain⟨dx3,hi3⟩:=Q3.po.ins;rcases Q3.po.tr.find a with⟨_,e2⟩|⟨w,x,e1,e2,q,rfl,hq3⟩
   .exact(kn e2).elim
   refine⟨_,rfl,A.o,CP,dx3,_,_,rfl,hi3,TP.cl,TP.nt,D0 A,_,rfl,A.ta,.ref q,rfl,(by rw[<- e1];exact DGet.t Q3.po.td hb),q,_,0,_,rfl,rfl,SqT.of hq3,rfl,_,rfl,rfl,_,rfl,?_⟩;have ei:(V.int x.1=V.int p)↔x.1=p:=⟨λe=>by injection e,λe=>by rw[e]⟩;have ed:Pz.GD S3 (p,a)=decide (x.1=p):=by unfold Pz.GD;dsimp only;rw[e2]
   unfold Pz.turn at J;unfold Pz.turn;rw[ed]at J ⊢;refine AN (λh=>?_) (λh=>?_)
   .have h1:x.1=p:=ei.mp (K7 h);rw[Ka (Ki h1)]at J ⊢;refine⟨_,rfl,A.o,dx3,_,rfl,hi3,zZ A,_,rfl,_,rfl,?_⟩;exact⟨B1,A,rs,_,O,W,xr,b,a,p,rfl,Z,hb,rok,J,λH4 xs4 xl4 P4=>⟨⟨_,_,rfl⟩,xs4,xl4,P4⟩⟩
   .have h1:¬ x.1=p:=λz=>h (Ki (ei.mpr z));rw[J_ (by simpa using h1)];exact⟨⟨_,_,rfl⟩,O,W,Z⟩
  .rintro σ H2 ⟨u',v'',rfl⟩ ⟨O,W,Z⟩;exact⟨⟨_,_,rfl⟩,_,O,W,Z.less w1,Y,lp⟩
end
section
variable {K:On}{H:Hp}
theorem yr {l:Addr}{vs:List V}{g:TG}{tb:TS}{D:Ends}{σ:L2.St}{H1:Hp}(L:L2.St->Prop)(W:Nat->Hp->Prop)(h0:L σ)(h1:W 0 H1)(Z:∀ i H,W i H->SqL K H l vs)
 (hb:∀(i:Nat)(v:V)(p:Addr)(σ:L2.St)(H:Hp),vs[i]?=some v->H p=none->L σ->W i H->
   g (.ref p) σ (aI H p (.tup [.int (i:Nat),v])) λO H2=>tb { D with nx:=λJ H'=>L J/\W (i+1) H',ct:=λJ H'=>L J/\W (i+1) H',bk:=D.nx } O H2)
 (hd:∀ σ H,L σ->W vs.length H->D.nx σ H) :
 ∃ W:Nat->Nat->L2.St->Hp->Prop,(∃ m,W 0 m σ H1)/\∀ i m σ H,W i m σ H->
  ((EJ K l).stop i H/\D.nx σ H)\/((EJ K l).go i H/\∃ N:L2.St->Hp->Prop,(∀ J H',N J H'->∃ m',m'<m/\W (i+1) m' J H')/\∀ x H',(EJ K l).yld i H x H'->g x σ H' λO H2=>tb { D with nx:=N,ct:=N,bk:=D.nx } O H2):=by
 refine⟨λi m σ H=>m=vs.length-i/\i<=vs.length/\L σ/\W i H,⟨vs.length,by simp,KF _,h0,h1⟩,?_⟩;rintro i m σ H ⟨rfl,hi,s,w⟩;have q:=Z i H w;by_cases Y:i<vs.length
 .refine .inr ⟨⟨vs,vs[i],q,by simp[Y]⟩,λJ H'=>L J/\W (i+1) H',λJ H' p'=>⟨vs.length-(i+1),by lia,rfl,Y,p'⟩,λx H' y=>?_⟩;obtain⟨p,v,hp,rfl,rfl,y⟩:=y;exact hb i v p σ H (y vs q) hp s w
 .have e:i=vs.length:=by lia
  subst e;exact .inl ⟨⟨vs,q,J6 _⟩,hd σ H s w⟩
theorem rS {tb:TS}{D:Ends}{σ:L2.St}(h:ta σ H λvs H1=>∃ a xs,vs=[.ref a]/\SqL K H1 a xs/\∃ W:Nat->Nat->L2.St->Hp->Prop,(∃ m,W 0 m σ H1)/\∀ i m σ H,W i m σ H->
 ((EJ K a).stop i H/\D.nx σ H)\/((EJ K a).go i H/\∃ N:L2.St->Hp->Prop,(∀ J H',N J H'->∃ m',m'<m/\W (i+1) m' J H')/\∀ x H',(EJ K a).yld i H x H'->g x σ H' λL H2=>tb { D with nx:=N,ct:=N,bk:=D.nx } L H2)):oJ (ye K ta) g tb D σ H:=h
theorem xj:∀(l:List Pz.Rule)(k i:Nat),(Pz.en l k)[i]?=(l[i]?).map λr=>(((k+i:Nat):Int),r)
 | [],k,i=>by simp[Pz.en]
 |r::l,k,0=>by simp[Pz.en]
 |r::l,k,i+1=>by show(Pz.en l (k+1))[i]?=(l[i]?).map _;rw[xj l];congr 1;funext r;congr 2;lia
theorem yt {β:Type}(f:β->Int×Pz.Rule->β)(b:β){l:List Pz.Rule}{i:Nat}{r:Pz.Rule}(h:l[i]?=some r):((Pz.en l 0).take (i+1)).foldl f b=f (((Pz.en l 0).take i).foldl f b) ((i:Int),r):=by
 have e:(Pz.en l 0)[i]?=some ((i:Int),r):=by rw[xj,h];simp
 rw[MX,e,MC];rfl
structure HouseAt (H:Hp) (RL:List Pz.Rule) (p l:Addr) (vs:List V):Prop where
 tup:∃ w0 w1,H p=some (.tup [w0,w1,.ref l])
 lst:Rd H l (.lst vs)
 its:All2 (IsRule H) RL vs
theorem kq (s:Same H H')(h:Rd H a u):Rd H' a u:=h.imp (s a _) λ⟨o,e⟩=>⟨o,s a _ e⟩
theorem HouseAt.same (h:HouseAt H RL p l vs)(s:Same H H'):HouseAt H' RL p l vs:=⟨let ⟨w0,w1,e⟩:=h.tup;⟨w0,w1,s _ _ e⟩,kq s h.lst,h.its.mono (IsRule.keep (oB s))⟩
noncomputable def D_:Sp:=λvs H Q _=>∃(RL:List Pz.Rule)(p l:Addr)(ws:List V),vs=[.ref p]/\HouseAt H RL p l ws/\RL.length<16000000/\
 ∀(ar:Addr)(xr:DX (List Key))(H':Hp),Same H H'->DL .dT H' ar xr->RepM k2 IsNum H' (Pz.dC RL) xr->(∀ c,InD ar xr c->H c=none)->Q (.ref ar) H'
noncomputable def J1:R2:=xw λi j=>.bl (decide (j<i))
noncomputable def J2 (K:On):TS:=
 eU (qC oS (bx 1))
 (eU (oJ (ye K (az (tI K 0 2) be)) (rW K 2 (cT (bx 2) (cT (bx 3) rV)))
   (yP (mL (lZ J1 (Ex (yp K) (az (tI K 3 3) be)) (tC (.int 0))))
     (dG (rQ K (aA 1) (lh (az (tI K 3 2) (az (lZ (qD K) (tI K 3 3) (tC (.int 0))) be))) (lh (az (aA 2) (az (aA 3) be))))) t5))
 (Ao (aA 1)))
theorem B0 (h:D_ vs H Q E):vs.length=1:=by obtain⟨_,_,_,_,rfl,_⟩:=h;rfl
theorem z4 (J:rP to σ H (.ref a))(L:H a=some (.dT kvs))(O:BS tk σ H ks)(h:∀ b,H b=none->rQ K (tC (.ref a)) (tC (.ref b)) te σ (aI H b (.tup ks)) Q):rQ K to tk te σ H Q:=J _ ⟨.inr (.inr (.inl ⟨rfl,.inr ⟨_,L⟩⟩)),O _ λb W=>(h b W).2⟩
theorem Ea (h:D_ vs H Q E):J2 K { nx:=λ_ H'=>Q .non H',rt:=Q } (cf ["house", "rules", "number", "rule"] vs) H:=by
 obtain⟨RL,p,l,ws,rfl,G,bw,k⟩:=h;intro ar har;have s1:Same H (aI H ar (.dT [])):=aK har;have G1:=G.same s1;dsimp only[bx];refine rS ?_;obtain⟨w0,w1,hp⟩:=G1.tup;refine⟨_,rfl,p,_,2,_,rfl,rfl,SqT.of hp,rfl,l,ws,rfl,.inl G1.lst,?_⟩;have bl:∀ i,(((Pz.en RL 0).take i).foldl Pz.dJ []).Ok/\(((Pz.en RL 0).take i).foldl Pz.dJ []).flat.length<16000000:=λi=>by obtain⟨a,b⟩:=Pz.xa ((Pz.en RL 0).take i) [] Pz.uV;have h1:=NT i (Pz.en RL 0);rw[Pz.mw]at h1;have h2:(Pz.MD.flat ([]:Pz.RS)).length=0:=rfl;exact⟨a,by lia⟩
 refine yr (K:=K) (vs:=ws) (λσ=>∃ u v,σ=[some (.ref p),some (.ref ar),u,v]) (λi H2=>∃ xr,Same H H2/\DL .dT H2 ar xr/\RepM k2 IsNum H2 (((Pz.en RL 0).take i).foldl Pz.dJ []) xr/\∀ c,InD ar xr c->H c=none) ⟨none,none,rfl⟩ ⟨[],s1,⟨af,λ_ h=>(Ko h).elim,KI,KI⟩,.nil,λc i=>?_⟩ (λi H2 ⟨xr,s2,_⟩=>.inl (kq s2 G.lst)) ?_ ?_
 .rcases i with rfl|⟨x,hx,_⟩
  .exact har
  .exact(Ko hx).elim
 .rintro i v pp σ H2 hv hpp ⟨u,w,rfl⟩ ⟨xr,s2,D2,R2,n2⟩;obtain⟨r,hr,c,q,rfl,hc,hq⟩:=G.its.get hv;have e1:((Pz.en RL 0).take (i+1)).foldl Pz.dJ []=Pz.dJ (((Pz.en RL 0).take i).foldl Pz.dJ []) ((i:Int),r):=yt _ _ hr;have W:=bl i;generalize ((Pz.en RL 0).take i).foldl Pz.dJ []=d at R2 e1 W;generalize ht:[V.int (i:Nat),V.ref c]=tw;have s3:Same H2 (aI H2 pp (.tup tw)):=aK hpp;have O:aI H2 pp (.tup tw) pp=some (.tup [V.int (i:Nat),V.ref c]):=by rw[af,ht]
  have D3:DL .dT (aI H2 pp (.tup tw)) ar xr:=D2.keep λc u e _=>s3 c u e;have R3:RepM k2 IsNum (aI H2 pp (.tup tw)) d xr:=R2.keep (IsNum.keep (oB s3));have J:=s2.trans s3;have L:=J _ _ hc;have Y:=J _ _ hq;generalize aI H2 pp (.tup tw)=H3 at s3 O D3 R3 J L Y;refine⟨pp,_,rfl,SqT.of O,rfl,_,_,rfl,_,_,rfl,rfl,?_⟩;refine⟨_,rfl,c,_,3,_,rfl,rfl,SqT.of L,rfl,q,_,rfl,.inr (SqT.of Y),_,_,rfl,rfl,_,rfl,?_⟩;have e2:(0:Int)<(((r.2.2.2.map V.int).length:Nat):Int)↔r.2.2.2.length>0:=by rw[J9];lia
  rw[e1];unfold Pz.dJ;refine AN (λh=>?_) (λh=>?_)
  .have h1:r.2.2.2.length>0:=e2.mp (K7 h);rw[Ka (show((i:Int),r).2.2.2.2.length>0 from h1)];have hat:(r.2.2.2.map V.int)[0]?=some (.int (r.2.2.2[0]?.getD 0)):=by
    cases hl:r.2.2.2 with
    |nil=>rw[hl]at h1;simp at h1
    |cons x y=>rfl
   refine z4 (a:=ar) (ks:=[.int r.2.2.1,.int (r.2.2.2[0]?.getD 0)]) (λQ q=>⟨_,rfl,q⟩) D3.root (λQ' hQ=>⟨_,rfl,c,_,2,_,rfl,rfl,SqT.of L,rfl,_,rfl,c,_,3,_,rfl,rfl,SqT.of L,rfl,q,_,0,_,rfl,rfl,SqT.of Y,xF (j:=0) hat,(by show 2<=sizeLine;decide),hQ⟩) λb hb=>?_;have s4:Same H3 (aI H3 b (.tup [.int r.2.2.1,.int (r.2.2.2[0]?.getD 0)])):=aK hb;have hb4:aI H3 b (.tup [.int r.2.2.1,.int (r.2.2.2[0]?.getD 0)]) b=some (.tup [.int r.2.2.1,.int (r.2.2.2[0]?.getD 0)]):=af;have D4:DL .dT (aI H3 b (.tup [.int r.2.2.1,.int (r.2.2.2[0]?.getD 0)])) ar xr:=D3.keep λc u e _=>s4 c u e;have R4:=R3.keep (IsNum.keep (oB s4));generalize aI H3 b (.tup [.int r.2.2.1,.int (r.2.2.2[0]?.getD 0)])=H4 at s4 hb4 D4 R4;refine tz (a:=ar) (b:=b) (xs:=xr) (k:=k2 (r.2.2.1,r.2.2.2[0]?.getD 0)) (ws:=[.int (i:Nat),.ref c]) D4 (λQ q=>q) (λQ q=>q) hb4 (λH' _ Q q=>⟨_,rfl,_,rfl,(by show 2<=sizeLine;decide),q⟩) (by rw[<- R4.len];have:=Pz.iq W.1;lia) (R4.low W.2) ?_;intro l5 p5 H5 hl5 hp5 hm5 hd5 kp5;have kt5:=D4.kt (λ_ _ z=>HO.noConfusion z) kp5;have Z:Same H H5:=λc u e=>kp5 c u (s4 _ _ (J _ _ e)) λz=>by rw[n2 c z]at e;cases e
   refine⟨⟨_,_,rfl⟩,_,Z,hd5,R4.add (k:=(r.2.2.1,r.2.2.2[0]?.getD 0)) (v:=((i:Int),r)) tE (IsNum.keep kt5) ⟨p5,_,rfl,hm5,c,q,rfl,Z _ _ hc,Z _ _ hq⟩,λc z=>?_⟩;rcases ko z with z|rfl
   .exact n2 c z
   .exact(J.trans s4).free hl5
  .have h1:¬ r.2.2.2.length>0:=λz=>h (Ki (e2.mpr z));rw[J_ (show ¬ ((i:Int),r).2.2.2.2.length>0 from h1)];exact⟨⟨_,_,rfl⟩,xr,J,D3,R3,n2⟩
 .rintro σ H2 ⟨u,w,rfl⟩ ⟨xr,s2,D2,R2,n2⟩;refine⟨_,rfl,k ar xr H2 s2 D2 ?_ n2⟩;rw[Lg (by rw[Pz.mw,G.its.len];exact J6 _)]at R2;exact R2
end
section
variable {K:On}{CP CQ:Addr}{H:Hp}
noncomputable def oE (CP CQ:Addr):Sp:=λvs H Q _=>∃(B:Hp)(RL:List Pz.Rule)(o dx p l:Addr)(ws:List V),vs=[.ref o,.ref p]/\H o=some (.ins CP dx [])/\Same B H/\B o=none/\HouseAt H RL p l ws/\RL.length<16000000/\
 ∀(A:PA)(xr:DX (List Key))(H':Hp),A.o=o->PAt CP CQ B H' A (Pz.dC RL) Pz.S0 [] [] xr->Q .non H'
noncomputable def GP (K:On)(CQ:Addr):TS:=
 eU (rX K (aA 0) (xB D_ [] E0 (az (aA 1) be)) "rules")
 (eU (rX K (aA 0) oS "told")
 (eU (rX K (aA 0) (xC CQ (oz CQ) [] E0 be) "offers")
 (eU (rX K (aA 0) oS "settled")
 (rX K (aA 0) oS "lacking"))))
theorem u9 (h:oE CP CQ vs H Q E):vs.length=2:=by obtain⟨_,_,_,_,_,_,_,rfl,_⟩:=h;rfl
theorem xk (TP:PCls K CP)(h:oE CP CQ vs H Q E):GP K CQ { nx:=λ_ H'=>Q .non H',rt:=Q } (cf N vs) H:=by
 obtain⟨B,RL,o,dx,p,l,ws,rfl,ho,sb,nb,G,bw,k⟩:=h;refine⟨_,rfl,RL,p,l,ws,rfl,G,bw,λar xr H1 s1 D1 R1 n1=>?_⟩;have ho1:=s1 _ _ ho;have nor:∀ c,InD ar xr c->c≠o:=λc i z=>by rw[z]at i;rw[n1 o i]at ho;cases ho
 refine⟨_,rfl,o,CP,dx,_,rfl,ho1,TP.cl,TP.nr,(by show 0<1000;decide),?_⟩;generalize hH2:aI H1 o (.ins CP dx (fU "rules" (.ref ar) []))=H2;have ho2:H2 o=some (.ins CP dx [("rules",.ref ar)]):=by rw[<- hH2,af];rfl
 have kp2:∀ c u,H1 c=some u->c≠o->H2 c=some u:=λc u e n=>by rw[<- hH2,ac n];exact e
 intro ta Y;have e3:aI H2 ta (.dT []) o=some (.ins CP dx [("rules",.ref ar)]):=by rw[ac (ah ho2 Y)];exact ho2
 refine⟨_,rfl,o,CP,dx,_,rfl,e3,TP.cl,TP.nt,(by show 1<1000;decide),?_⟩;generalize hH4:aI (aI H2 ta (.dT [])) o (.ins CP dx (fU "told" (.ref ta) [("rules",.ref ar)]))=H4;have J:ta≠o:=(ah ho2 Y).symm;have ho4:H4 o=some (.ins CP dx [("rules",.ref ar),("told",.ref ta)]):=by rw[<- hH4,af];rfl
 have ta4:H4 ta=some (.dT []):=by rw[<- hH4,ac J,af]
 have kp4:∀ c u,H2 c=some u->c≠o->H4 c=some u:=λc u e n=>by rw[<- hH4,ac n,ac (ah e Y)];exact e
 intro aq dq Z hdq ndq;refine⟨aq,dq,rfl,af,λap H5 O hq5 hp5 kp5=>⟨rfl,?_⟩⟩;have kp5':∀ c u,H4 c=some u->H5 c=some u:=λc u e=>kp5 c u (by rw[ac (ah e Z),ac (ah e hdq)];exact e) (ah e Z);have ap4:H4 ap=none:=by
  have h1:ap≠aq:=λz=>by rw[z,af]at O;cases O
  have h2:ap≠dq:=λz=>by rw[z,ac ndq,af]at O;cases O
  rw[ac h1,ac h2]at O;exact O
 have apq:ap≠aq:=λz=>by rw[z,af]at O;cases O
 refine⟨_,rfl,o,CP,dx,_,rfl,kp5' _ _ ho4,TP.cl,TP.no,(by show 2<1000;decide),?_⟩;generalize hH6:aI H5 o (.ins CP dx (fU "offers" (.ref aq) [("rules",.ref ar),("told",.ref ta)]))=H6;have noq:aq≠o:=λz=>by rw[z,ho4]at Z;cases Z
 have nop:ap≠o:=λz=>by rw[z,ho4]at ap4;cases ap4
 have ho6:H6 o=some (.ins CP dx [("rules",.ref ar),("told",.ref ta),("offers",.ref aq)]):=by rw[<- hH6,af];rfl
 have kp6:∀ c u,H5 c=some u->c≠o->H6 c=some u:=λc u e n=>by rw[<- hH6,ac n];exact e
 intro sa hsa;have nsa:sa≠o:=(ah ho6 hsa).symm;refine⟨_,rfl,o,CP,dx,_,rfl,(by rw[ac (ah ho6 hsa)];exact ho6),TP.cl,TP.ns,(by show 3<1000;decide),?_⟩;generalize hH8:aI (aI H6 sa (.dT [])) o (.ins CP dx (fU "settled" (.ref sa) [("rules",.ref ar),("told",.ref ta),("offers",.ref aq)]))=H8;have ho8:H8 o=some (.ins CP dx [("rules",.ref ar),("told",.ref ta),("offers",.ref aq),("settled",.ref sa)]):=by rw[<- hH8,af];rfl
 have sa8:H8 sa=some (.dT []):=by rw[<- hH8,ac nsa,af]
 have kp8:∀ c u,H6 c=some u->c≠o->H8 c=some u:=λc u e n=>by rw[<- hH8,ac n,ac (ah e hsa)];exact e
 intro la hla;have nla:la≠o:=(ah ho8 hla).symm;refine⟨_,rfl,o,CP,dx,_,rfl,(by rw[ac (ah ho8 hla)];exact ho8),TP.cl,TP.nl,(by show 4<1000;decide),?_⟩;generalize hH9:aI (aI H8 la (.dT [])) o (.ins CP dx (fU "lacking" (.ref la) [("rules",.ref ar),("told",.ref ta),("offers",.ref aq),("settled",.ref sa)]))=H9;have ho9:H9 o=some (.ins CP dx (pf ⟨o,ta,aq,ap,sa,la,ar⟩)):=by rw[<- hH9,af];rfl
 have la9:H9 la=some (.dT []):=by rw[<- hH9,ac nla,af]
 have kp9:∀ c u,H8 c=some u->c≠o->H9 c=some u:=λc u e n=>by rw[<- hH9,ac n,ac (ah e hla)];exact e
 have sa9:=kp9 _ _ sa8 nsa;have k69:∀ c u,H6 c=some u->c≠o->H9 c=some u:=λc u e n=>kp9 c u (kp8 c u e n) n;have k59:∀ c u,H5 c=some u->c≠o->H9 c=some u:=λc u e n=>k69 c u (kp6 c u e n) n;have k49:∀ c u,H4 c=some u->c≠o->H9 c=some u:=λc u e n=>k59 c u (kp5' c u e) n;have k19:∀ c u,H1 c=some u->c≠o->H9 c=some u:=λc u e n=>k49 c u (kp4 c u (kp2 c u e n) n) n;have fr:∀ c,H9 c≠none->H c=none->B c=none:=λc _ e=>sb.free e;have oldR:∀ c,InD ar xr c->H1 c≠none:=λc i=>D1.obj i;have n1_ta:H1 ta=none:=by
  cases e:H1 ta with
  |none=>rfl
  |some u=>rw[kp2 _ _ e J]at Y;cases Y
 have L:∀ c,H4 c=none->c≠o->H1 c=none/\c≠ta:=λc e n=>by
  refine⟨?_,λz=>by rw[z,ta4]at e;cases e⟩;cases e':H1 c with
  |none=>rfl
  |some u=>rw[kp4 _ _ (kp2 _ _ e' n) n]at e;cases e
 have n5_up:∀ c,H5 c=none->c≠o->H4 c=none/\c≠aq/\c≠ap:=λc e n=>by
  refine⟨?_,(λz=>by rw[z,hq5]at e;cases e),λz=>by rw[z,hp5]at e;cases e⟩;cases e':H4 c with
  |none=>rfl
  |some u=>rw[kp5' _ _ e']at e;cases e
 have n6_up:∀ c,H6 c=none->H5 c=none:=λc e=>by
  cases e':H5 c with
  |none=>rfl
  |some u=>
   by_cases n:c=o
   .rw[n,ho6]at e;cases e
   .rw[kp6 _ _ e' n]at e;cases e
 have n8_up:∀ c,H8 c=none->H6 c=none/\c≠sa:=λc e=>by
  refine⟨?_,λz=>by rw[z,sa8]at e;cases e⟩;cases e':H6 c with
  |none=>rfl
  |some u=>
   by_cases n:c=o
   .rw[n,ho8]at e;cases e
   .rw[kp8 _ _ e' n]at e;cases e
 obtain⟨la6,la_sa⟩:=n8_up la hla;obtain⟨la4,la_aq,la_ap⟩:=n5_up la (n6_up la la6) nla;obtain⟨la1,la_ta⟩:=L la la4 nla;obtain⟨sa4,sa_aq,sa_ap⟩:=n5_up sa (n6_up sa hsa) nsa;obtain⟨sa1,sa_ta⟩:=L sa sa4 nsa;obtain⟨aq1,aq_ta⟩:=L aq Z noq;obtain⟨ap1,ap_ta⟩:=L ap ap4 nop;have W:∀ c,H1 c=none->H c=none:=λc e=>s1.free e;have same:Same B H9:=λc u e=>k19 c u (s1 c u (sb c u e)) λz=>by rw[z,nb]at e;cases e
 have inNil:∀{a c:Addr},InD a ([]:DX (List Key)) c->c=a:=λi=>i.elim id λ⟨x,hx,_⟩=>(Ko hx).elim
 classical
 refine k ⟨o,ta,aq,ap,sa,la,ar⟩ xr H9 rfl ⟨[],[],λc=>if c=o then 6 else if c=ta then 5 else if c=aq then 7 else if c=ap then 1 else if c=sa then 2 else if c=la then 3 else 4,same,⟨⟨?_,λ_ h=>(Ko h).elim,KI,KI⟩,.nil,λc i=>?_⟩,⟨⟨sa9,λ_ h=>(Ko h).elim,KI,KI⟩,.nil,λc i=>?_⟩,⟨⟨la9,λ_ h=>(Ko h).elim,KI,KI⟩,.nil,λc i=>?_⟩,⟨D1.keep λc u e i=>k19 c u e (nor c i),R1.keep (IsNum.keep λc ws e=>k19 c _ e λz=>by rw[z,ho1]at e;cases e),λc i=>?_⟩,⟨dx,ho9⟩,⟨dq,k59 _ _ hq5 noq⟩,k49 _ _ ta4 J,.nil,?_,?_,?_⟩
 .exact k59 _ _ hp5 nop
 .have:c=ap:=i.elim id λ⟨x,hx,_⟩=>(Ko hx).elim;subst this;exact⟨by rw[J_ nop,J_ ap_ta,J_ apq,Ka rfl],sb.free (W _ ap1)⟩
 .have:=inNil i;dsimp only at this;subst this;exact⟨by rw[J_ nsa,J_ sa_ta,J_ sa_aq,J_ sa_ap,Ka rfl],sb.free (W _ sa1)⟩
 .have:=inNil i;dsimp only at this;subst this;exact⟨by rw[J_ nla,J_ la_ta,J_ la_aq,J_ la_ap,J_ la_sa,Ka rfl],sb.free (W _ la1)⟩
 .have hc:=oldR c i;refine⟨?_,sb.free (n1 c i)⟩;rw[J_ (nor c i),J_ (λz=>hc (by rw[z];exact n1_ta)),J_ (λz=>hc (by rw[z];exact aq1)),J_ (λz=>hc (by rw[z];exact ap1)),J_ (λz=>hc (by rw[z];exact sa1)),J_ (λz=>hc (by rw[z];exact la1))]
 .exact⟨by rw[J_ J,Ka rfl],sb.free (W _ n1_ta)⟩
 .exact⟨Ka rfl,nb⟩
 .exact⟨by rw[J_ noq,J_ aq_ta,Ka rfl],sb.free (W _ aq1)⟩
end
noncomputable def aF (a:Pz.Arr):D:=.tup [.int a.1,.int a.2.1,.int a.2.2]
noncomputable def cr (r:Pz.Rule):D:=.tup [.int r.1,.int r.2.1,.int r.2.2.1,.tup (r.2.2.2.map .int)]
noncomputable def oD:Option Int->D
 |none=>.non
 |some i=>.int i
noncomputable def ck (x:Pz.ot):D:=.tup [.int x.1,oD x.2.1,oD x.2.2]
noncomputable def bS (t:Pz.TD):D:=.dic (t.map λx=>.inr (ak x.1)) (t.map λx=>ck x.2)
def pT (ds:List D)(t:Pz.TD):Prop:=∃(RL:List Pz.Rule)(M:List Pz.Arr)(h0 h1 m0 J:D)(n:Nat)(T:Pz.PS),ds=[.tup [h0,h1,.lst (RL.map cr)],.tup [m0,.lst (M.map aF),J]]/\RL.length<16000000/\Pz.Fit (Pz.pR au RL M)/\Pz.Loop au (Pz.dC RL) n (Pz.pR au RL M) T/\t=T.told
open Classical in
noncomputable def Im (Fr:List D->Res R)(ds:List D):Res R:=match Fr ds with
 | .ok _=>if h:∃ t,pT ds t then .ok (.fre (bS (Classical.choose h))) else .stuck
 | .exc c=>.exc c
 | .stuck=>.stuck
theorem B2:∀{ns:List Int}{vs:List V},IsAll H m (ns.map .int) vs->vs=ns.map .int
 | [],vs,h=>h
 |n::ns,vs,h=>by obtain⟨v,r,rfl,h1,h2⟩:=h;rw[B2 h2,show v=.int n from h1];rfl
theorem GQ (h:Is H m (cr r) v):IsRule H r v:=by obtain⟨a,vs,rfl,ha,J,r0,rfl,e0,L,r1,rfl,e1,v2,r2,rfl,e2,Y,r3,rfl,⟨q,ws,rfl,O,W⟩,rfl⟩:=h;obtain rfl:J=.int r.1:=e0;obtain rfl:L=.int r.2.1:=e1;obtain rfl:v2=.int r.2.2.1:=e2;exact⟨a,q,rfl,ha,by rw[O,B2 W]⟩
theorem Ip (h:Is H m (aF r) v):IsArr H r v:=by obtain⟨a,vs,rfl,ha,J,r0,rfl,e0,L,r1,rfl,e1,v2,r2,rfl,e2,rfl⟩:=h;obtain rfl:J=.int r.1:=e0;obtain rfl:L=.int r.2.1:=e1;obtain rfl:v2=.int r.2.2:=e2;exact⟨a,rfl,ha⟩
theorem B3 {α:Type}{H:Hp}{m:Addr->Prop}{f:α->D}{it:α->V->Prop}(hf:∀ x v,Is H m (f x) v->it x v):∀{xs:List α}{vs:List V},IsAll H m (xs.map f) vs->All2 it xs vs
 | [],vs,h=>by cases (show vs=[] from h);exact .nil
 |x::xs,vs,h=>by obtain⟨v,r,rfl,h1,h2⟩:=h;exact .cons (hf x v h1) (B3 hf h2)
theorem ET (h:Is H m (.lst ds) v):∃ a vs,v=.ref a/\Rd H a (.lst vs)/\IsAll H m ds vs:=by obtain⟨a,vs,rfl,h1,h2⟩:=h;exact⟨a,vs,rfl,h1.imp And.left λ⟨o,e,_⟩=>⟨o,e⟩,h2⟩
theorem JJ (RL:List Pz.Rule):GN (Pz.dC RL):=λk x J=>by
 rcases (Pz.tq _ _ _ _).mp J with h|⟨_,y,l,e,_⟩
 .exact(Ko h).elim
 .rw[e];simp
section
variable {K:On}{CP CQ:Addr}{H:Hp}
noncomputable def Eb (K:On)(mg:Str->Option Oq)(Fr:List D->Res R)(CP CQ:Addr)(E:XK):TS:=
 eU (dG (xB (qK mg 2 Fr) [] E (az (aA 0) (az (aA 1) be))))
 (eU (qC (xC CP (oE CP CQ) [] E0 (az (aA 0) be)) (bx 2))
 (eU (oJ (lg K (tI K 1 1)) (bx 3) (dG (fA CP "offer" (f6 CP CQ) [] E0 (aA 2) (az (aA 3) (az (tC (.int 0)) (az (tC .non) (az (tC .non) be)))))))
 (eU (oJ (ye K (az (tI K 0 2) be)) (rW K 2 (cT (bx 4) (cT (bx 5) rV)))
   (yP (mL (lZ Hr (Ex (yp K) (az (tI K 5 3) be)) (tC (.int 0))))
     (dG (fA CP "offer" (f6 CP CQ) [] E0 (aA 2) (az (lh (az (tI K 5 0) (az (tI K 5 1) (az (tI K 5 2) be)))) (az (tC (.int 1)) (az (aA 4) (az (tC .non) be)))))) t5))
 (eU (dG (fA CP "settle_all" (yq CP CQ) [] E0 (aA 2) be))
 (Ao (fy K (aA 2) "told"))))))
theorem GR (A:PA):(pf A).lookup ("settle_all" : Str)=none:=rfl
theorem B4:∀{t:Pz.TD}{kt:List (List Key×V)},RepT H t kt->(t.map λx=>(Sum.inr (ak x.1):DK))=kt.map (λp=>.inr p.1)/\IsAll H m (t.map λx=>ck x.2) (kt.map Prod.snd)
 | [],_,.nil=>⟨rfl,rfl⟩
 |x::t,y::kt,.cons ⟨e,p,L,O⟩ r=>by
  obtain⟨r1,r2⟩:=B4 (m:=m) r;have J:∀ o:Option Int,Is H m (oD o) (vO o):=λo=>by cases o<;>rfl
  exact⟨by rw[Kc,Kc,e,r1],y.2,_,rfl,⟨p,_,L,O,_,_,rfl,rfl,_,_,rfl,J _,_,_,rfl,J _,rfl⟩,r2⟩
theorem u_ {mg:Str->Option Oq} {Fr:List D->Res R} (TP:PCls K CP) (h:qK mg 2 (Im Fr) vs H Q E):Eb K mg Fr CP CQ E { nx:=λ_ H'=>Q .non H',rt:=Q } (cf ["house", "machine", "pricing", "arrow", "number", "rule"] vs) H:=by
 obtain⟨hl,ds,Ma,is,post⟩:=h
 match vs,hl with
 | [v0,v1],_=>
 refine⟨_,rfl,_,rfl,rfl,ds,Ma,is,?_⟩;unfold Im at post;cases hF:Fr ds with
 |stuck=>rw[hF]at post;exact post
 |exc c=>rw[hF]at post;exact post
 |ok r=>
  rw[hF]at post;dsimp only at post;by_cases hex:∃ t,pT ds t
  case neg=>rw[dif_neg hex]at post;exact post.elim
  case pos=>
  rw[dif_pos hex]at post;have hch:=Classical.choose_spec hex;generalize Classical.choose hex=t at post hch;obtain⟨RL,M,d0,d1,m0,m2,n,T,rfl,bw,fit,lp,rfl⟩:=hch;intro v H1 s1 _;obtain⟨_,_,ev,⟨p0,_,rfl,hp0,w0,_,rfl,_,w1,_,rfl,_,w2,_,rfl,iw2,rfl⟩,_,_,ev2,⟨p1,_,rfl,hp1,y0,_,rfl,_,y1,_,rfl,iy1,y2,_,rfl,_,rfl⟩,rfl⟩:=is;cases ev;cases ev2;obtain⟨l,ws,rfl,hl,iR⟩:=ET iw2;obtain⟨lm,wm,rfl,hlm,iM⟩:=ET iy1;have G:HouseAt H RL p0 l ws:=⟨⟨_,_,hp0⟩,hl,B3 (λx v=>GQ) iR⟩;have aM:All2 (IsArr H) M wm:=B3 (λx v=>Ip) iM;refine⟨_,rfl,λo dx ho hdx hne=>?_⟩;have s2:Same H1 (aI (aI H1 dx (.own o)) o (.ins CP dx [])):=λb u e=>by rw[ac (ah e ho),ac (ah e hdx)];exact e
  refine⟨H,RL,o,dx,p0,l,ws,rfl,af,s1.trans s2,s1.free ho,G.same (s1.trans s2),bw,λA xr H3 eA P=>⟨rfl,?_⟩⟩;subst eA;have g2:Pz.Grow (M.foldl (Pz.i7 au) Pz.S0) (Pz.pR au RL M):=Pz.bU _ (λS x=>by unfold Pz.df;split;exact Pz.bI _ _ _ _ _;exact .refl _) _ _;have fit1:=g2.fit fit;dsimp only[bx];refine hG ?_;refine⟨_,rfl,p1,_,1,_,rfl,rfl,SqT.of (P.same _ _ hp1),rfl,lm,rfl,⟨wm,.inl (kq P.same hlm)⟩,?_⟩;refine yo (it:=IsArr) (vs:=wm) (its:=M) (λσ=>∃ u v w,σ=[some (.ref p0),some (.ref p1),some (.ref A.o),u,v,w]) (Pz.i7 au) Pz.S0 (λT H4=>PAt CP CQ H H4 A (Pz.dC RL) T [] [] xr) ⟨none,none,none,rfl⟩ P ?_ ?_ ?_
  .intro T' H4 O;exact⟨kq O.same hlm,aM.mono (IsArr.keep (oB O.same))⟩
  .rintro i a v' σ H4 hi ⟨b,rfl,hb⟩ ⟨u,w,z,rfl⟩ O;have P4':=O;obtain⟨xp4,kt4,col4,Q4⟩:=P4';obtain⟨dx4,hi4⟩:=Q4.po.ins;refine⟨_,rfl,A.o,dx4,_,rfl,hi4,i_ A,_,rfl,?_⟩;exact⟨H,A,_,_,[],[],xr,b,a,0,none,none,rfl,O,hb,hJ (step:=Pz.i7 au) (λS x=>Pz.bI S _ _ _ _) fit1 hi,λW L=>⟨⟨_,_,_,rfl⟩,L⟩⟩
  .rintro σ H4 ⟨u,w,z,rfl⟩ O;dsimp only;refine rS ?_;refine⟨_,rfl,p0,_,2,_,rfl,rfl,SqT.of (O.same _ _ hp0),rfl,l,ws,rfl,.inl (kq O.same hl),?_⟩;refine yr (K:=K) (vs:=ws) (λσ=>∃ u v w,σ=[some (.ref p0),some (.ref p1),some (.ref A.o),u,v,w]) (λi W=>PAt CP CQ H W A (Pz.dC RL) (((Pz.en RL 0).take i).foldl (Pz.df au) (M.foldl (Pz.i7 au) Pz.S0)) [] [] xr) ⟨_,_,_,rfl⟩ O (λi W L=>.inl (kq L.same hl)) ?_ ?_
   .rintro i v' pp σ W hv hpp ⟨u',w',z',rfl⟩ L;obtain⟨r,hr,c,q,rfl,hc,hq⟩:=G.its.get hv;have e1:=yt (Pz.df au) (M.foldl (Pz.i7 au) Pz.S0) hr;have J:Pz.Fit (Pz.df au (((Pz.en RL 0).take i).foldl (Pz.df au) (M.foldl (Pz.i7 au) Pz.S0)) ((i:Int),r)):=hJ (step:=Pz.df au) (λS x=>by unfold Pz.df;split;exact Pz.bI _ _ _ _ _;exact .refl _) (its:=Pz.en RL 0) fit (by rw[xj,hr];simp);rw[e1];generalize ((Pz.en RL 0).take i).foldl (Pz.df au) (M.foldl (Pz.i7 au) Pz.S0)=S5 at L J;have s6:Same W (aI W pp (.tup [.int (i:Nat),.ref c])):=aK hpp;have Z:=L.more s6;have hpp6:aI W pp (.tup [.int (i:Nat),.ref c]) pp=some (.tup [.int (i:Nat),.ref c]):=af;generalize aI W pp (.tup [.int (i:Nat),.ref c])=H6 at s6 Z hpp6;have Y:=Z.same _ _ hc;have hq6:=Z.same _ _ hq;refine⟨pp,_,rfl,SqT.of hpp6,rfl,_,_,rfl,_,_,rfl,rfl,?_⟩;refine⟨_,rfl,c,_,3,_,rfl,rfl,SqT.of Y,rfl,q,_,rfl,.inr (SqT.of hq6),rfl,_,rfl,?_⟩;have e2:(V.int (((r.2.2.2.map V.int).length:Nat):Int)=V.int 0)↔r.2.2.2.length=0:=by rw[J9];exact⟨λe=>by injection e with e;lia,λe=>by rw[e];rfl⟩
    unfold Pz.df at J;unfold Pz.df;have P6':=Z;obtain⟨xp6,kt6,col6,Q6⟩:=P6';obtain⟨dx6,hi6⟩:=Q6.po.ins;refine AN (λh=>?_) (λh=>?_)
    .have h1:r.2.2.2.length=0:=e2.mp (K7 h);rw[Ka (show((i:Int),r).2.2.2.2.length=0 from h1)]at J ⊢;refine⟨_,rfl,A.o,dx6,_,rfl,hi6,i_ A,_,rfl,c,_,0,_,rfl,rfl,SqT.of Y,rfl,_,rfl,c,_,1,_,rfl,rfl,SqT.of Y,rfl,_,rfl,c,_,2,_,rfl,rfl,SqT.of Y,rfl,(by show 3<=sizeLine;decide),λtt htt=>?_⟩;have s7:=aK (o:=HO.tup [.int r.1,.int r.2.1,.int r.2.2.1]) htt;refine⟨_,rfl,?_⟩;exact⟨H,A,_,_,[],[],xr,tt,(r.1,r.2.1,r.2.2.1),1,some (i:Int),none,rfl,Z.more s7,af,J,λH7 P7=>⟨⟨_,_,_,rfl⟩,P7⟩⟩
    .have h1:¬ r.2.2.2.length=0:=λz=>h (Ki (e2.mpr z));rw[J_ (show ¬ ((i:Int),r).2.2.2.2.length=0 from h1)];exact⟨⟨_,_,_,rfl⟩,Z⟩
   .rintro σ W ⟨u',w',z',rfl⟩ L;rw[Lg (by rw[Pz.mw,G.its.len];exact J6 _)]at L;have P5':=L;obtain⟨xp5,kt5,col5,Q5⟩:=P5';obtain⟨dx5,hi5⟩:=Q5.po.ins;refine⟨_,rfl,A.o,dx5,_,rfl,hi5,GR A,H,A,_,_,T,[],[],xr,n,rfl,L,JJ RL,fit,lp,λH6 xs6 xl6 Z=>?_⟩;obtain⟨xp6,kt6,col6,Q6⟩:=Z;obtain⟨dx6,hi6⟩:=Q6.po.ins;refine⟨_,rfl,A.o,CP,dx6,_,_,rfl,hi6,TP.cl,TP.nt,D0 A,?_⟩;obtain⟨t1,t2⟩:=B4 (m:=nl H H6) Q6.po.tr;exact post _ H6 Q6.same ⟨A.ta,kt6.map Prod.snd,rfl,⟨.inr ⟨kt6,.inl Q6.po.td,t1,rfl⟩,Q6.po.c5.2,⟨_,Q6.po.td,True.intro⟩⟩,t2⟩
end
theorem B6:∀{n:Nat}{S T:Pz.PS},Pz.Loop pile rs n S T->∀{m:Nat}{L:Pz.PS},Pz.Loop pile rs m S L->T=L:=by
 intro n S T h;induction h with
 |done e=>
  intro m L h';cases h' with
  |done _=>rfl
  |step J=>exact(J e).elim
 |step J _ _ _ _ _ O=>
  intro m L h';cases h' with
  |done e=>exact(J e).elim
  |step _ _ _ _ _ h'=>exact O h'
theorem z5 (h:cr r=cr s):r=s:=by
 have im:∀{l m:List Int},l.map D.int=m.map D.int->l=m:=λ{l m} e=>by
  induction l generalizing m with
  |nil=>cases m with
   |nil=>rfl
   |cons _ _=>cases e
  |cons x l J=>cases m with
   |nil=>cases e
   |cons y m=>rw[Kc,Kc]at e;injection e with e1 e2;injection e1 with e1;rw[e1,J e2]
 unfold cr at h;injection h with h;injection h with h0 h;injection h with h1 h;injection h with h2 h;injection h with h3 h;injection h0 with h0;injection h1 with h1;injection h2 with h2;injection h3 with h3;exact NF h0 (NF h1 (NF h2 (im h3)))
theorem B7 (h:aF r=aF s):r=s:=by unfold aF at h;injection h with h;injection h with h0 h;injection h with h1 h;injection h with h2 h;injection h0 with h0;injection h1 with h1;injection h2 with h2;exact NF h0 (NF h1 h2)
theorem tM {α:Type}{f:α->D}(hf:∀{x y},f x=f y->x=y):∀{l m:List α},l.map f=m.map f->l=m
 | [],[],_=>rfl
 | [],_::_,e=>nomatch e
 |_::_,[],e=>nomatch e
 |x::l,y::m,e=>by rw[Kc,Kc]at e;injection e with e1 e2;rw[hf e1,tM hf e2]
theorem GS {Fr:List D->Res R}{h0 h1 m0 O:D}{r:R}(hs:Pz.Set RL M U)(W:Fr [.tup [h0,h1,.lst (RL.map cr)],.tup [m0,.lst (M.map aF),O]]=.ok r) :
 ∃ t,Im Fr [.tup [h0,h1,.lst (RL.map cr)],.tup [m0,.lst (M.map aF),O]]=.ok (.fre (bS t))/\Pz.Good RL M U t:=by
 obtain⟨fit,n,T,lp,good⟩:=hs.run ym;have Y:RL.length<16000000:=by have:=hs.big;unfold Pz.L at this;lia
 have hex:∃ t,pT [.tup [h0,h1,.lst (RL.map cr)],.tup [m0,.lst (M.map aF),O]] t:=⟨T.told,RL,M,h0,h1,m0,O,n,T,rfl,Y,fit,lp,rfl⟩;refine⟨Classical.choose hex,?_,?_⟩
 .unfold Im;rw[W];dsimp only;rw[dif_pos hex]
 .obtain⟨Z,M',a0,a1,a2,a3,n',T',e,_,_,J,e2⟩:=Classical.choose_spec hex;rw[e2];injection e with e3 e;injection e3 with e3;injection e3 with _ e3;injection e3 with _ e3;injection e3 with e3 _;injection e3 with e3;injection e with e _;injection e with e;injection e with _ e;injection e with e _;injection e with e;rw[<- tM (λh=>z5 h) e3,<- tM (λh=>B7 h) e]at J;rw[<- B6 lp J];exact good
structure Mt (K:On) (C:Addr) (x q:Str) (st:Stmt) (ps:List Str) (f:Addr) (fd:FuncData):Prop where
 fu:Fun K x q st f fd
 bi:Binds K fd ps []
 me:Meth K C x f
theorem pU {K:On}{C:Addr}{x q:Str}{st:Stmt}{ps:List Str}{f:Addr}{oc:Oq}{od an:Option Addr}{osl:Array (Option Oq)}{kV doc pm cdv ct:Oq}
 (l:K.lookup f=some ⟨oc,od,.func (PySem.W.fnOf x q (defArgs st) (defBody st) (defScope st) .none kV doc pm an cdv ct),osl⟩) (c:PySem.W.codeIn K cdv q=true) (k:PySem.W.keepIn K (.ref f)=true) (a:PySem.W.findIn K (.ref C) x=some (some (.ref f))) (i:PySem.W.isFn K (.ref f)=true)
 (h:∀(kV doc pm:Oq)(an:Option Addr)(cdv ct:Oq)(us:List Oq),us.length=ps.length->bindArgs (PySem.W.fnOf x q (defArgs st) (defBody st) (defScope st) .none kV doc pm an cdv ct) ⟨us,[]⟩=pure (ps.zip us)) :
 Mt K C x q st ps f (PySem.W.fnOf x q (defArgs st) (defBody st) (defScope st) .none kV doc pm an cdv ct):=
 have F:Fun K x q st f _:=l_ l c k
 ⟨F,F.binds h,a,i,k⟩
section
variable {P:Oo}{w:World}{K:On}{mg:Str->Option Oq}{base:Heap}
theorem Iq {x qual:Str}{st:Stmt}{f:Addr}(F:Fun K x qual st f fd)(S:FnScope N ps (defScope st))(len:∀ vs H Q E,sp vs H Q E->vs.length=ps.length)
 (body:∀(cdv:Oq)(A:Os)(outer:List Env)(s:Om)(H:Hp)(vs:List V)(Q:VK)(E:XK),Room k (A.deeper (envOfC qual (defScope st) s.heap.objs.size f cdv))->sp vs H Q E->
   ∃ t,PSs (ma P w K mg base N qual (defScope st) f cdv A outer s H E) (defBody st) t/\t { nx:=λ_ H'=>Q .non H',rt:=Q } (cf N vs) H):FnOk P w K mg base (qB P w) (k+1) f fd ps sp:=by
 obtain⟨oc,od,kV,doc,pm,an,cdv,ct,osl,rfl,lk,J⟩:=F.ex;exact AA lk J S len λA outer s H vs Q E O L=>body cdv A outer s H vs Q E O L
end
theorem B8 (hc:X.calm=true)(S:CScope X scope tN capN caps)(hi:PI X tg iter wi)(hs:autoParam (∀ x,foldedSetIterable iter X.env x=pure x) Ow._auto_1) :
 PE X (.ListComp elt [⟨tg,iter,ifs,0⟩] scope pos) (uG X scope tg tN capN caps elt ifs wi):=λpins s σ H Q I h=>uF hc S I hi h hs
noncomputable def EU (K:On):List V->Hp->VK->Prop:=λxs H Q=>∃ p ns,xs=[.ref p]/\SqL K H p (ns.map V.int)/\ns≠[]/\Q (.int (sI ns)) H
theorem z6 (hc:X.calm=true):CallR X (.builtin "min") (EU X.K):=zj hc
theorem z7 (h2:tN.length=2)(hg:∀ cl C s3 H3 fp,PG (ci X scope (tN++[]) cl C s3 H3 fp) tg (rW X.K 2 (cT (bx 0) (cT (bx 1) rV))))(he:∀ cl C s3 H3 fp,PE (ci X scope (tN++[]) cl C s3 H3 fp) elt (aA 0)) :
 Ii (Ex (EU X.K) (az (uG X scope tg tN [] [] elt [] (lg X.K (aA 1))) be)):=by
 intro σ H a vs its Q h1 W a2 Y bw k;refine⟨_,h1,a,rfl,⟨_,SqL.of W⟩,?_⟩;intro Z hD cl C s3 fp;have hDa:a≠Z:=ah W hD;have hlv:=a2.len;refine⟨_,_,_,λi m L H'=>m=its.length-i/\i<=its.length/\L=((its.take i).map λx=>V.int x.1)/\Same H H'/\H' Z=some (.lst L),hg cl C s3 _ fp,yb,he cl C s3 _ fp,⟨its.length,by simp,KF _,by simp,aK hD,af⟩,?_⟩;rintro i m L H' ⟨rfl,hi,rfl,s,J⟩;have O:=s _ _ W;refine⟨J,?_⟩;by_cases hlt:i<its.length
 .right;have hiv:i<vs.length:=by lia
  refine⟨⟨vs,vs[i],SqL.of O,by simp[hiv]⟩,λxv H'' o y ho=>?_⟩;obtain⟨rfl,y⟩:=y;have hx:=y vs (SqL.of O);obtain⟨x,ex,p,w,rfl,hp,_⟩:=a2.get hx;rw[h2]at ho
  match o,ho with
  | [u0,u1],_=>
  refine⟨p,_,rfl,SqT.of (s _ _ hp),rfl,_,_,rfl,_,_,rfl,rfl,?_⟩;refine⟨λj hj=>?_,?_⟩
  .rw[h2]at hj
   match j,hj with
   |j+2,_=>rfl
  .refine ss ?_;refine⟨_,rfl,J,?_,its.length-(i+1),by lia,rfl,hlt,?_,λc u e=>?_,af⟩
   .rw[J9,KL];have:=NT i its;lia
   .rw[MX,ex,Ll];rfl
   .rw[ac (ah e hD)];exact s _ _ e
 .left;have ei:i=its.length:=by lia
  subst ei;refine⟨⟨vs,SqL.of O,by lia⟩,Z,its.map (·.1),rfl,?_,by simpa using Y,?_⟩
  .rw[List.take_length]at J;rw[KM];exact SqL.of J
  .rw[yn];exact k H' s
section
variable {β:Type}(eD:β->D)(el:Pz.Arr×Pz.ot->β)
open Classical in
end
section
variable {X:Cx}{K:On}{H:Hp}{β:Type}{it:Hp->β->V->Prop}{eD:β->D}{el:Pz.Arr×Pz.ot->β}{ws:Pz.Arr×Pz.ot->Addr->List V}{te:TE}
end
end L4
namespace L3
open PySem L2
section
variable {env bb:En}{i j:Nat}{d:D}{ds es:List D}{f g:Bool}{al bl:List Nat}{x y:Int}
noncomputable def kS (k:En->Res Fl):Fl->Res Fl
 | .nx bb=>k bb
 |r=>.ok r
theorem m5 (f k:En->Res Fl)(env:En):a_ f k env=(f env).bind (kS k):=by rfl
theorem vc (k:En->Res Fl)(e:En):kS k (.nx e)=k e:=(rfl)
theorem ve (k:En->Res Fl)(r:R):kS k (.rt r)=.ok (.rt r):=(rfl)
noncomputable def JK (a b:En->Res Fl)(env:En)(k:Bool):Res Fl:=if k then a env else b env
theorem vg (c:En->Res Bool)(a b:En->Res Fl)(env:En):rG c a b env=(c env).bind (JK a b env):=(rfl)
theorem m6 (a b:En->Res Fl)(env:En):JK a b env true=a env:=(rfl)
theorem m7 (a b:En->Res Fl)(env:En):JK a b env false=b env:=(rfl)
theorem m8 (env:En):gX env=.ok (.nx env):=(rfl)
noncomputable def Ir (r:R):Res Fl:=.ok (.rt r)
theorem m_ (a:En->Res R)(env:En):de a env=(a env).bind Ir:=(rfl)
theorem ja (r:R):Ir r=.ok (.rt r):=(rfl)
noncomputable def Iu (i:Nat)(env:En)(r:R):Res Fl:=if i<env.length then .ok (.nx (put env i r)) else .stuck
theorem nc (i:Nat)(a:En->Res R)(env:En):fH i a env=(a env).bind (Iu i env):=(rfl)
theorem jb (r:R)(h:i<env.length):Iu i env r=.ok (.nx (put env i r)):=Ka h
theorem jc:put env i (.val d f [])=env.set i (some (.val d f)):=(rfl)
theorem jd:put env i (.new ds f)=env.set i (some (.own ds f)):=(rfl)
theorem je:put env i (.fre d)=env.set i (some (.tre d)):=(rfl)
noncomputable def Iv (i:Nat):Option (Option Sl)->Res R
 |some (some (.val d fr))=>.ok (mkV d fr [])
 |some (some (.own ds fr))=>.ok (.val (.lst ds) fr [i])
 |some (some (.tre d))=>.ok (.val d true [i])
 |_=>.stuck
theorem ng (i:Nat)(env:En):ao i env=Iv i env[i]?:=by unfold ao Iv;rfl
theorem nh:Iv i (some (some (.val d f)))=.ok (mkV d f []):=(rfl)
theorem ni:Iv i (some (some (.own ds f)))=.ok (.val (.lst ds) f [i]):=(rfl)
theorem nu:Iv i (some (some (.tre d)))=.ok (.val d true [i]):=(rfl)
theorem EV (d:D)(env:En):vC d env=.ok (.val d true []):=(rfl)
theorem jf (h:d.flat=true):mkV d f al=.val d true []:=by unfold mkV;rw[Ka h]
theorem jg (h:d.flat=false):mkV d f al=.val d f al:=by unfold mkV;rw[J_ (by rw[h];simp)]
theorem cw (h:D.flats ds=true):lD ds f al=.new ds true:=by unfold lD;rw[Ka h]
theorem GT (h:D.flats ds=false):lD ds f []=.new ds f:=by unfold lD;rw[J_ (by rw[h];simp)];rfl
theorem f7:lD ds true []=.new ds true:=by unfold lD;split<;>rfl
noncomputable def JS (op:R->R->Res R)(J:En->Res R)(env:En)(L:R):Res R:=(J env).bind (op L)
theorem vh (op:R->R->Res R)(J L:En->Res R)(env:En):v2 op J L env=(J env).bind (JS op L env):=(rfl)
theorem nv (op:R->R->Res R)(J:En->Res R)(env:En)(L:R):JS op J env L=(J env).bind (op L):=(rfl)
theorem nw:dc (.val (.int x) f al) (.val (.int y) g bl)=.ok (.val (.int (x+y)) true []):=(rfl)
theorem jh (h1:-18446744073709551616<y)(h2:y<18446744073709551616):wL (.val (.int x) f al) (.val (.int y) g bl)=.ok (.val (.int (x*y)) true []):=by
 have:Bk x y=true:=by unfold Bk;rw[N0,Ky,Ky];exact .inr ⟨Ki (by lia),Ki (by lia)⟩
 show(if Bk x y=true then _ else _)=_;rw[Ka this]
theorem nz (h:0<y):dn (.val (.int x) f al) (.val (.int y) g bl)=.ok (.val (.int (x % y)) true []):=by show(if decide (0<y)=true then _ else _)=_;rw[Ka (Ki h)]
theorem nA (h:0<y)(h2:y<1073741824):n9 (.val (.int x) f al) (.val (.int y) g bl)=.ok (.val (.int (x / y)) true []):=by show(if (decide (0<y)&&decide (y<1073741824))=true then _ else _)=_;rw[Ka (by rw[Ki h,Ki h2];rfl)]
theorem vi:Dp (.val (.int x) f al) (.val (.int y) g bl)=.ok (.val (.bl (decide (x<y))) true []):=(rfl)
theorem vj:Hg (.val (.int x) f al) (.val (.int y) g bl)=.ok (.val (.bl (decide (x<=y))) true []):=(rfl)
theorem vk:Jx (.val (.int x) f al) (.val (.int y) g bl)=.ok (.val (.bl (decide (y<x))) true []):=(rfl)
theorem vm:Jy (.val (.int x) f al) (.val (.int y) g bl)=.ok (.val (.bl (decide (y<=x))) true []):=(rfl)
theorem mD (h:a.d.dep<=50)(h2:b.d.dep<=50):x4 a b=.ok (.val (.bl (dk a.d b.d)) true []):=by unfold x4;rw[Ka ⟨h,h2⟩]
theorem vn (h:a.d.dep<=50)(h2:b.d.dep<=50):Bl a b=.ok (.val (.bl (!dk a.d b.d)) true []):=by unfold Bl;rw[Ka ⟨h,h2⟩]
theorem nB:dk (.int x) (.int y)=(x==y):=(rfl)
noncomputable def B9 (xs ys:List D)(f:Bool)(al:List Nat):Res R:=if xs.length+ys.length<=lim then .ok (lD (xs++ys) f al) else .stuck
theorem f9:dc (.val (.lst ds) f al) (.val (.lst es) g bl)=B9 ds es (f&&g) (al++bl):=(rfl)
theorem f_:dc (.val (.lst ds) f al) (.new es g)=B9 ds es (f&&g) (al++[]):=(rfl)
theorem ga:dc (.new ds f) (.val (.lst es) g bl)=B9 ds es (f&&g) ([]++bl):=(rfl)
theorem gb:dc (.new ds f) (.new es g)=B9 ds es (f&&g) []:=(rfl)
theorem B_ (h:ds.length+es.length<=1000000):B9 ds es f al=.ok (lD (ds++es) f al):=Ka h
noncomputable def EX (fs:En->Res (List R))(env:En)(r:R):Res (List R):=(fs env).bind (λrs=>.ok (r::rs))
noncomputable def Ca (r:R)(rs:List R):Res (List R):=.ok (r::rs)
theorem ji (env:En):aN env=.ok []:=(rfl)
theorem gc (a:En->Res R)(fs:En->Res (List R))(env:En):ai a fs env=(a env).bind (EX fs env):=(rfl)
theorem gd (fs:En->Res (List R))(env:En)(r:R):EX fs env r=(fs env).bind (Ca r):=(rfl)
theorem dL (r:R)(rs:List R):Ca r rs=.ok (r::rs):=(rfl)
noncomputable def Iw (rs:List R):Res R:=if rs.length<=lim then .ok (mkV (.tup (rs.map R.d)) (bu rs) (cb rs)) else .stuck
theorem nC (fs:En->Res (List R))(env:En):gU fs env=(fs env).bind Iw:=(rfl)
theorem jj (rs:List R)(h:rs.length<=1000000):Iw rs=.ok (mkV (.tup (rs.map R.d)) (bu rs) (cb rs)):=Ka h
noncomputable def Iy (rs:List R):Res R:=if rs.length<=lim then .ok (lD (rs.map R.d) (bu rs) (cb rs)) else .stuck
theorem nE (fs:En->Res (List R))(env:En):pB fs env=(fs env).bind Iy:=(rfl)
theorem jk (rs:List R)(h:rs.length<=1000000):Iy rs=.ok (lD (rs.map R.d) (bu rs) (cb rs)):=Ka h
theorem dM:bu []=true:=(rfl)
theorem cN (r:R)(rs:List R):bu (r::rs)=(r.fr&&bu rs):=(rfl)
theorem dN:cb []=[]:=(rfl)
theorem cO (r:R)(rs:List R):cb (r::rs)=r.al++cb rs:=(rfl)
noncomputable def EY (F:List D->Res R)(rs:List R):Res R:=(F (rs.map R.d)).bind (λr=>.ok (gW rs r))
noncomputable def Cb (rs:List R)(r:R):Res R:=.ok (gW rs r)
theorem jl (F:List D->Res R)(fs:En->Res (List R))(env:En):cA F fs env=(fs env).bind (EY F):=(rfl)
theorem gf (F:List D->Res R)(rs:List R):EY F rs=(F (rs.map R.d)).bind (Cb rs):=(rfl)
theorem dP (rs:List R)(r:R):Cb rs r=.ok (gW rs r):=(rfl)
theorem dQ (rs:List R)(h:d.flat=true):gW rs (.val d f al)=.val d true []:=Ka h
theorem dR (rs:List R)(h:d.flat=false):gW rs (.val d true al)=.fre d:=by show CH d true rs=_;unfold CH;rw[J_ (by rw[h];simp),Ka rfl]
theorem dS (rs:List R)(h:d.flat=false):gW rs (.val d false al)=.val d (bu rs) (cb rs):=by show CH d false rs=_;unfold CH;rw[J_ (by rw[h];simp),J_ (by simp)]
theorem dU (rs:List R)(h:D.flats ds=true):gW rs (.new ds f)=.new ds true:=by show(if D.flats ds=true then _ else _)=_;rw[Ka h]
theorem cp (rs:List R)(h:D.flats ds=false):gW rs (.new ds true)=.fre (.lst ds):=by show(if D.flats ds=true then _ else _)=_;rw[J_ (by rw[h];simp),Ka rfl]
theorem vp (k:List R->Res R)(fs:En->Res (List R))(env:En):k_ k fs env=(fs env).bind k:=(rfl)
noncomputable def Ec:D->Res R
 | .lst ds=>.ok (.val (.int ds.length) true [])
 | .tup ds=>.ok (.val (.int ds.length) true [])
 | .str z=>if z.length<=lim then .ok (.val (.int z.length) true []) else .stuck
 |_=>.stuck
theorem nF (r:R):qL [r]=Ec r.d:=by unfold qL Ec;rfl
theorem jm:Ec (.lst ds)=.ok (.val (.int ds.length) true []):=(rfl)
theorem jn:Ec (.tup ds)=.ok (.val (.int ds.length) true []):=(rfl)
noncomputable def yu (f:Bool)(al:List Nat):D->Res R
 | .lst ds=>.ok (lD ds f al)
 | .tup ds=>.ok (lD ds f al)
 |_=>.stuck
theorem jo (r:R):mT [r]=yu r.fr r.al r.d:=by unfold mT yu;rfl
theorem gg:yu f al (.lst ds)=.ok (lD ds f al):=(rfl)
theorem gh:yu f al (.tup ds)=.ok (lD ds f al):=(rfl)
noncomputable def kB (J:R):Res Bool:=match J.d with
 | .bl b=>.ok b
 |_=>.stuck
theorem vq (a:En->Res R)(env:En):vB a env=(a env).bind kB:=(rfl)
theorem vw (b:Bool):kB (.val (.bl b) f al)=.ok b:=(rfl)
noncomputable def GU (J:R):Res Bool:=tru J.d
theorem jp (a:En->Res R)(env:En):pA a env=(a env).bind GU:=(rfl)
theorem jq (b:Bool):GU (.val (.bl b) f al)=.ok b:=(rfl)
noncomputable def EZ (b:Bool):Res Bool:=.ok (!b)
theorem jr (a:En->Res Bool)(env:En):kJ a env=(a env).bind EZ:=(rfl)
theorem gk (b:Bool):EZ b=.ok (!b):=(rfl)
noncomputable def Cc (b:En->Res Bool)(env:En)(k:Bool):Res Bool:=if k then b env else .ok false
noncomputable def GV (b:En->Res Bool)(env:En)(k:Bool):Res Bool:=if k then .ok true else b env
theorem js (a b:En->Res Bool)(env:En):Ds a b env=(a env).bind (Cc b env):=(rfl)
theorem nG (a b:En->Res Bool)(env:En):Bo a b env=(a env).bind (GV b env):=(rfl)
theorem jt (b:En->Res Bool)(env:En):Cc b env true=b env:=(rfl)
theorem jv (b:En->Res Bool)(env:En):Cc b env false=.ok false:=(rfl)
theorem nH (b:En->Res Bool)(env:En):GV b env true=.ok true:=(rfl)
theorem nI (b:En->Res Bool)(env:En):GV b env false=b env:=(rfl)
noncomputable def Cd (b:En->Res R)(env:En)(J:R):Res R:=match J.d with
 | .bl true=>b env
 | .bl false=>.ok (.val (.bl false) true [])
 |_=>.stuck
theorem jw (a b:En->Res R)(env:En):Bn a b env=(a env).bind (Cd b env):=(rfl)
theorem gm (b:En->Res R)(env:En):Cd b env (.val (.bl true) f al)=b env:=(rfl)
theorem gn (b:En->Res R)(env:En):Cd b env (.val (.bl false) f al)=.ok (.val (.bl false) true []):=(rfl)
noncomputable def GW (b:En->Res R)(env:En)(J:R):Res R:=match J.d with
 | .bl true=>.ok (.val (.bl true) true [])
 | .bl false=>b env
 |_=>.stuck
theorem nJ (a b:En->Res R)(env:En):JB a b env=(a env).bind (GW b env):=(rfl)
theorem jy (b:En->Res R)(env:En):GW b env (.val (.bl true) f al)=.ok (.val (.bl true) true []):=(rfl)
theorem jz (b:En->Res R)(env:En):GW b env (.val (.bl false) f al)=b env:=(rfl)
noncomputable def E1 (J:R):Res R:=match J.d with
 | .bl b=>.ok (.val (.bl (!b)) true [])
 |_=>.stuck
theorem jA (a:En->Res R)(env:En):Gh a env=(a env).bind E1:=(rfl)
theorem jB (b:Bool):E1 (.val (.bl b) f al)=.ok (.val (.bl (!b)) true []):=(rfl)
noncomputable def E2 (f:Bool)(al:List Nat):Option D->Res R
 |some d=>.ok (mkV d f al)
 |none=>.stuck
noncomputable def Ed (a b:D)(f:Bool)(al:List Nat):Res R:=match a,b with
 | .lst xs,.int i=>E2 f al (atI xs i)
 | .tup xs,.int i=>E2 f al (atI xs i)
 | .str z,.int i=>if z.length<=lim then (match atI z.cps.toList i with
  |some c=>.ok (.val (.str ⟨#[c]⟩) true [])
  |none=>.stuck) else .stuck
 |_,_=>.stuck
theorem vx (a b:R):Ai a b=Ed a.d b.d a.fr a.al:=by unfold Ai Ed E2;rfl
theorem nK:Ed (.lst ds) (.int k) f al=E2 f al (atI ds k):=(rfl)
theorem nL:Ed (.tup ds) (.int k) f al=E2 f al (atI ds k):=(rfl)
theorem nM:E2 f al (some d)=.ok (mkV d f al):=(rfl)
noncomputable def Ee (ds:List D)(fr:Bool)(J:R):Res R:=match J.d with
 | .int k=>match atI ds k with
  |some d=>.ok (mkV d fr [])
  |none=>.stuck
 |_=>.stuck
noncomputable def Ce (i:Nat)(J:En->Res R)(env:En):Option (Option Sl)->Res R
 |some (some (.own ds fr))=>(J env).bind (Ee ds fr)
 |_=>v2 Ai (ao i) J env
theorem rT (i:Nat)(J:En->Res R)(env:En):bA i J env=Ce i J env env[i]?:=by unfold bA Ce;rfl
theorem jC (J:En->Res R):Ce i J env (some (some (.own ds f)))=(J env).bind (Ee ds f):=(rfl)
theorem jD (J:En->Res R):Ce i J env (some (some (.val d f)))=v2 Ai (ao i) J env:=(rfl)
theorem jE (J:En->Res R):Ce i J env (some (some (.tre d)))=v2 Ai (ao i) J env:=(rfl)
theorem jF:Ee ds f (.val (.int k) g al)=E2 f [] (atI ds k):=by unfold Ee E2;rfl
theorem bX {α:Type}(a:α)(l:List α):atI (a::l) 0=some a:=by unfold atI xE;rw[Ka (by lia),Ka (by simp)];rfl
theorem E3 {α:Type}(a b:α)(l:List α):atI (a::b::l) 1=some b:=by unfold atI xE;rw[Ka (by lia),Ka (by simp;lia)];rfl
theorem E4 {α:Type}(a b c:α)(l:List α):atI (a::b::c::l) 2=some c:=by unfold atI xE;rw[Ka (by lia),Ka (by simp;lia)];rfl
theorem E5 {α:Type}(a b c d:α)(l:List α):atI (a::b::c::d::l) 3=some d:=by unfold atI xE;rw[Ka (by lia),Ka (by simp;lia)];rfl
theorem J3 {α:Type}{l:List α}{n:Nat}{a:α}(h:l[n]?=some a):atI l (n:Int)=some a:=by have hn:=(Ke.mp h).1;unfold atI xE;rw[Ka (by lia),Ka (by lia)];exact h
noncomputable def Iz (fl J:En->Res (Option Int))(env:En)(r:R):Res R:=(fl env).bind λlo=>(J env).bind λhi=>sS r lo hi
noncomputable def IA (J:En->Res (Option Int))(env:En)(r:R)(lo:Option Int):Res R:=(J env).bind λhi=>sS r lo hi
theorem gp (J:En->Res R)(fl L:En->Res (Option Int))(env:En):mn J fl L env=(J env).bind (Iz fl L env):=(rfl)
theorem jG (fl J:En->Res (Option Int))(env:En)(r:R):Iz fl J env r=(fl env).bind (IA J env r):=(rfl)
theorem jH (J:En->Res (Option Int))(env:En)(r:R)(lo:Option Int):IA J env r lo=(J env).bind (sS r lo):=(rfl)
noncomputable def kO (r:R):Res (Option Int):=match r.d with
 | .int i=>.ok (some i)
 |_=>.stuck
theorem gq (env:En):yd env=.ok none:=(rfl)
theorem gr (a:En->Res R)(env:En):mV a env=(a env).bind kO:=(rfl)
theorem vy:kO (.val (.int x) f al)=.ok (some x):=(rfl)
noncomputable def Ef (f:Bool)(al:List Nat)(lo hi:Option Int):D->Res R
 | .lst xs=>.ok (lD (cJ xs lo hi) f al)
 | .tup xs=>.ok (mkV (.tup (cJ xs lo hi)) f al)
 |_=>.stuck
theorem nN (r:R)(lo hi:Option Int):sS r lo hi=Ef r.fr r.al lo hi r.d:=by unfold sS Ef;rfl
theorem jI (lo hi:Option Int):Ef f al lo hi (.lst ds)=.ok (lD (cJ ds lo hi) f al):=(rfl)
theorem jJ (lo hi:Option Int):Ef f al lo hi (.tup ds)=.ok (mkV (.tup (cJ ds lo hi)) f al):=(rfl)
noncomputable def IB (T:String)(r:R):Res R:=.ok (.val (.bl (CJ T r.d)) true [])
theorem nO (T:String)(a:En->Res R)(env:En):wR T a env=(a env).bind (IB T):=(rfl)
theorem jK (T:String)(r:R):IB T r=.ok (.val (.bl (CJ T r.d)) true []):=(rfl)
theorem jL:CJ "int" (.int x)=true:=(rfl)
theorem jM:CJ "bool" (.int x)=false:=(rfl)
theorem jN:CJ "list" (.lst ds)=true:=(rfl)
theorem jO:CJ "tuple" (.tup ds)=true:=(rfl)
noncomputable def IC (asg:D->Bool->En->Option En)(body:En->Res Fl)(env:En)(s:Src):Res Fl:=io asg s.fr body s.xs (frz env s.al)
theorem nP (src:En->Res Src)(asg:D->Bool->En->Option En)(body:En->Res Fl)(env:En):Dx src asg body env=(src env).bind (IC asg body env):=(rfl)
theorem jP (asg:D->Bool->En->Option En)(body:En->Res Fl)(env:En)(xs:List D):IC asg body env ⟨xs,f,al⟩=io asg f body xs (frz env al):=(rfl)
noncomputable def z8 (r:R):Res Src:=match r.d with
 | .lst ds=>.ok ⟨ds,r.fr,r.al⟩
 | .tup ds=>.ok ⟨ds,r.fr,r.al⟩
 |_=>.stuck
theorem gO (a:En->Res R)(env:En):kK a env=(a env).bind z8:=(rfl)
theorem dW:z8 (.val (.lst ds) f al)=.ok ⟨ds,f,al⟩:=(rfl)
theorem dX:z8 (.val (.tup ds) f al)=.ok ⟨ds,f,al⟩:=(rfl)
theorem gs:z8 (.new ds f)=.ok ⟨ds,f,[]⟩:=(rfl)
theorem dY:z8 (.fre (.lst ds))=.ok ⟨ds,true,[]⟩:=(rfl)
theorem dZ:z8 (.fre (.tup ds))=.ok ⟨ds,true,[]⟩:=(rfl)
noncomputable def JT (rs:List R):Res Src:=match rs.map R.d with
 | [.int j]=>if cR j then .ok ⟨eR 0 j.toNat,true,[]⟩ else .stuck
 |_=>.stuck
theorem nQ (fs:En->Res (List R))(env:En):HU fs env=(fs env).bind JT:=(rfl)
theorem ID (h1:-4611686018427387904<=x)(h2:x<4611686018427387904):cR x=true:=by unfold cR;rw[Ky];exact⟨Ki (by lia),Ki (by lia)⟩
theorem yw (h1:-4611686018427387904<=x)(h2:x<4611686018427387904):JT [.val (.int x) f al]=.ok ⟨eR 0 x.toNat,true,[]⟩:=Ka (ID h1 h2)
theorem jQ:frz env []=env:=(rfl)
theorem pV (h:i<env.length):gN i d f env=some (env.set i (some (.val d f))):=Ka h
noncomputable def jR (n:Nat)(caps:List Nat)(asg:D->Bool->En->Option En)(test:En->Res Bool)(elt:En->Res R)(env:En)(s:Src):Res R:=if s.xs.length<=lim then
 (fI (λd=>asg d s.fr (gL env n caps)) test elt s.xs).noX.bind λrs=>.ok (lD (rs.map R.d) (bu rs) (s.al++caps.filter (isOwn env))) else .stuck
theorem pW (n:Nat)(caps:List Nat)(src:En->Res Src)(asg:D->Bool->En->Option En)(test:En->Res Bool)(elt:En->Res R)(env:En) :
 cM n caps src asg test elt env=(src env).bind (jR n caps asg test elt env):=(rfl)
theorem gu (J:xs.length<=1000000)
 (h:fI (λd=>asg d f (gL env n caps)) test elt xs=.ok rs):jR n caps asg test elt env ⟨xs,f,al⟩=.ok (lD (rs.map R.d) (bu rs) (al++caps.filter (isOwn env))):=by
 unfold jR;dsimp only;rw[Ka (show xs.length<=lim from J),h];rfl
theorem cP {α:Type}{mk:D->Option En}{test:En->Res Bool}{elt:En->Res R}(g:α->D)(k:α->R):∀(xs:List α),(∀ a∈xs,∃ e,mk (g a)=some e/\test e=.ok true/\elt e=.ok (k a))->fI mk test elt (xs.map g)=.ok (xs.map k)
 | [],_=>rfl
 |a::r,h=>by obtain⟨e,h1,h2,J⟩:=h a (by simp);rw[Kc,Kc];unfold fI;rw[h1];dsimp only;rw[h2];dsimp only[Res.bind];rw[Ka rfl,J,cP g k r λb L=>h b (by simp[L])]
theorem lL {α:Type}{mk:D->Option En}{test:En->Res Bool}{elt:En->Res R}(g:α->D)(p:α->Bool)(k:α->R):∀(xs:List α),(∀ a∈xs,∃ e,mk (g a)=some e/\test e=.ok (p a)/\(p a=true->elt e=.ok (k a)))->fI mk test elt (xs.map g)=.ok ((xs.filter p).map k)
 | [],_=>rfl
 |a::r,h=>by
  obtain⟨e,h1,h2,O⟩:=h a (by simp);rw[Kc];unfold fI;rw[h1];dsimp only;rw[h2];dsimp only[Res.bind];have L:=lL g p k r λb W=>h b (by simp[W]);cases J:p a with
  |true=>rw[Ka rfl,O J,Nb,Ka J,L];rfl
  |false=>rw[J_ (by simp),Nb,J_ (by rw[J];simp),L]
noncomputable def z9 (i:Nat)(env:En)(ds:List D)(fr:Bool)(r:R):Res Fl:=if ds.length<lim/\¬ i∈r.al then .ok (.nx ((frz env r.al).set i (some (.own (ds++[r.d]) (fr&&r.fr))))) else .stuck
noncomputable def yx (i:Nat)(a:En->Res R)(env:En):Option (Option Sl)->Res Fl
 |some (some (.own ds fr))=>(a env).bind (z9 i env ds fr)
 |some (some (.tre (.lst ds)))=>(a env).bind (z9 i env ds true)
 |_=>.stuck
theorem nR (a:En->Res R)(env:En):Bt i a env=yx i a env env[i]?:=by
 unfold Bt pD yx;cases env[i]? with
 |none=>rfl
 |some o=>cases o with
  |none=>rfl
  |some s=>cases s with
   |tre d=>cases d<;>rfl
   |_=>rfl
theorem jS (a:En->Res R):yx i a env (some (some (.own ds f)))=(a env).bind (z9 i env ds f):=(rfl)
theorem jT (a:En->Res R):yx i a env (some (some (.tre (.lst ds))))=(a env).bind (z9 i env ds true):=(rfl)
theorem GX (h:ds.length<1000000)(J:r.al=[]):z9 i env ds f r=.ok (.nx (env.set i (some (.own (ds++[r.d]) (f&&r.fr))))):=by unfold z9;rw[J];rw[Ka ⟨h,by simp⟩];rfl
end
theorem bO (x:Int):(D.int x).flat=true:=(rfl)
theorem gv (x:Bool):(D.bl x).flat=true:=(rfl)
theorem d7 (x:Str):(D.str x).flat=true:=(rfl)
theorem d8:D.non.flat=true:=(rfl)
theorem b6 (ds:List D):(D.tup ds).flat=D.flats ds:=(rfl)
theorem cB (ds:List D):(D.lst ds).flat=false:=(rfl)
theorem b9:D.flats []=true:=(rfl)
theorem aT (d:D)(ds:List D):D.flats (d::ds)=(d.flat&&D.flats ds):=(rfl)
theorem cE (x:Int):(D.int x).dep=0:=(rfl)
theorem jU (x:Bool):(D.bl x).dep=0:=(rfl)
theorem gw (x:Str):(D.str x).dep=0:=(rfl)
theorem gx:D.non.dep=0:=(rfl)
theorem cF (ds:List D):(D.tup ds).dep=D.deps ds+1:=(rfl)
theorem cX (ds:List D):(D.lst ds).dep=D.deps ds+1:=(rfl)
theorem bF:D.deps []=0:=(rfl)
theorem bc (d:D)(ds:List D):D.deps (d::ds)=max d.dep (D.deps ds):=(rfl)
theorem jV (r:R):yc (.ok (.rt r))=.ok r:=(rfl)
theorem jW (e:En):yc (.ok (.nx e))=.ok (.val .non true []):=(rfl)
theorem cG (d:D)(f:Bool)(al:List Nat):(R.val d f al).d=d:=(rfl)
theorem cq (ds:List D)(f:Bool):(R.new ds f).d=.lst ds:=(rfl)
theorem gy (d:D):(R.fre d).d=d:=(rfl)
theorem d9 (d:D)(f:Bool)(al:List Nat):(R.val d f al).fr=f:=(rfl)
theorem d_ (ds:List D)(f:Bool):(R.new ds f).fr=f:=(rfl)
theorem eh (d:D):(R.fre d).fr=true:=(rfl)
theorem eB (d:D)(f:Bool)(al:List Nat):(R.val d f al).al=al:=(rfl)
theorem eF (ds:List D)(f:Bool):(R.new ds f).al=[]:=(rfl)
theorem eG (d:D):(R.fre d).al=[]:=(rfl)
theorem tO {α β:Type}(a:α)(k:α->Res β):(Res.ok a).bind k=k a:=(rfl)
noncomputable def Cf:D->Res R
 | .lst ds=>match fL ds with
  |some bs=>.ok (.val (.bl (bs.all id)) true [])
  |none=>.stuck
 |_=>.stuck
theorem nT (r:R):zA [r]=Cf r.d:=by rcases r with⟨d,f,al⟩|⟨ds,f⟩|⟨d⟩<;>first|rfl|(cases d<;>rfl)
theorem z_ {α:Type}(xs:List α):Cf (.lst (xs.map λ_=>D.bl true))=.ok (.val (.bl true) true []):=by
 have:∀ xs:List α,fL (xs.map λ_=>D.bl true)=some (xs.map λ_=>true):=by
  intro xs;induction xs with
  |nil=>rfl
  |cons a r J=>rw[Kc];unfold fL;rw[J];rfl
 show(match fL (xs.map λ_=>D.bl true) with|some bs=>Res.ok (R.val (D.bl (bs.all id)) true [])|none=>Res.stuck)=_;rw[this];dsimp only;congr 3;rw[Ld];intro x L;obtain⟨_,_,rfl⟩:=Kg.mp L;rfl
theorem E6:((0:Nat):Int)=0:=(rfl)
theorem E7:((1:Nat):Int)=1:=(rfl)
theorem E8:((2:Nat):Int)=2:=(rfl)
theorem E9:((3:Nat):Int)=3:=(rfl)
theorem E_:((4:Nat):Int)=4:=(rfl)
theorem nU {α β:Type}(c:Str)(k:α->Res β):(Res.exc c:Res α).bind k=.exc c:=(rfl)
theorem gz (c:Str):yc (.exc c)=.exc c:=(rfl)
noncomputable def Cg (c:Str)(rs:List R):Res Fl:=if rs.length<=lim then .exc c else .stuck
theorem gA (c:Str)(fs:En->Res (List R))(env:En):sU c fs env=(fs env).bind (Cg c):=(rfl)
theorem eI (h:rs.length<=1000000):Cg c rs=.exc c:=Ka h
noncomputable def vz (asg:D->Bool->En->Option En)(env:En)(r:R):Res Fl:=match asg r.d r.fr (frz env r.al) with
 |some bb=>.ok (.nx bb)
 |none=>.stuck
theorem nV (f:En->Res R)(asg:D->Bool->En->Option En)(env:En):n_ f asg env=(f env).bind (vz asg env):=(rfl)
theorem tP (h:asg r.d r.fr (frz env r.al)=some bb):vz asg env r=.ok (.nx bb):=by unfold vz;rw[h]
noncomputable def IE (r:R):Res Bool:=.ok r.d.isNon
theorem jX (a:En->Res R)(env:En):DE a env=(a env).bind IE:=(rfl)
theorem jY (r:R):IE r=.ok r.d.isNon:=(rfl)
theorem gB:D.non.isNon=true:=(rfl)
theorem gC (x:Int):(D.int x).isNon=false:=(rfl)
theorem gD (x:List D):(D.tup x).isNon=false:=(rfl)
theorem gE (x:List D):(D.lst x).isNon=false:=(rfl)
theorem Res.noX_ok {α:Type}(a:α):(Res.ok a).noX=.ok a:=(rfl)
noncomputable def qQ (neg:Bool)(a b:D):Res R:=match b with
 | .dic ks _=>uJ neg a ks
 | .lst ds=>Hh neg a ds
 | .tup ds=>Hh neg a ds
 |_=>.stuck
theorem Fa (neg:Bool)(a b:R):zF neg a b=qQ neg a.d b.d:=by unfold zF wV qQ;cases b.d<;>rfl
theorem vA (a b:R):DF a b=qQ false a.d b.d:=Fa false a b
theorem gF (a b:R):sW a b=qQ true a.d b.d:=Fa true a b
theorem IF (h:D.deps ds<=50)(h2:a.dep<=50):qQ neg a (.lst ds)=.ok (.val (.bl (if neg then !(ds.any λe=>dk e a) else ds.any λe=>dk e a)) true []):=Ka ⟨h,h2⟩
theorem IG (h:keyX a=some k)(J:ks.all (kin k)=true):qQ neg a (.dic ks ds)=.ok (.val (.bl (if neg then !sV ks k else sV ks k)) true []):=by show uJ neg a ks=_;unfold uJ;rw[h];exact Ka J
theorem ba (ks:List DK)(ds:List D):(D.dic ks ds).flat=false:=(rfl)
noncomputable def ku (xs ys:List D)(f:Bool)(al:List Nat):Res R:=if xs.length+ys.length<=lim/\xs≠[] then .ok (mkV (.tup (xs++ys)) f al) else .stuck
theorem jZ:dc (.val (.tup xs) f al) (.val (.tup ys) g bl)=ku xs ys (f&&g) (al++bl):=(rfl)
theorem cQ (h:d.flat=false):gW rs (.fre d)=.fre d:=by show CH d true rs=_;unfold CH;rw[J_ (by rw[h];simp),Ka rfl]
theorem nW (h:0<=y):Gy (.val (.int x) f al) (.val (.int y) g bl)=.ok (.val (.int (x / 2 ^ y.toNat)) true []):=by show(if decide (0<=y)=true then _ else _)=_;rw[Ka (Ki h)]
theorem j3:BH (.val (.int x) f al) (.val (.int y) g bl)=.ok (.val (.int (Builtin.bitAnd x y)) true []):=(rfl)
theorem vD (f:En->Res R)(env:En):JD f env=(f env).bind EK:=(rfl)
theorem mE:∀ k:List Int,lG (k.map .int)=some k
 | []=>rfl
 |a::r=>by rw[Kc];unfold lG;rw[mE r];rfl
theorem mF:∀ ks:List (List Int),tupsI (ks.map mq)=some ks
 | []=>rfl
 |k::r=>by rw[Kc];unfold tupsI;rw[mF r,show GA (mq k)=some k from mE k]
theorem j5:CJ "bool" (.bl b)=true:=(rfl)
theorem vE (k:En->Res Fl)(r:R)(e:En):kS k (.rm r e)=.ok (.rm r e):=(rfl)
noncomputable def Fb (i:Nat)(env:En)(r:R):Res Fl:=if i<env.length then .ok (.nx ((frz env r.al).set i (some (.val r.d r.fr)))) else .stuck
theorem j6 (i:Nat)(a:En->Res R)(env:En):mX i a env=(a env).bind (Fb i env):=(rfl)
theorem gG (h:i<env.length):Fb i env r=.ok (.nx ((frz env r.al).set i (some (.val r.d r.fr)))):=Ka h
theorem Ci (h0:0<=j)(h1:j<=1000):oo [.val (.int j) f al]=.ok (.new (eR 0 j.toNat) true):=Ka ⟨h0,h1⟩
noncomputable def IH (f1 f2:En->Res R)(env:En)(r0:R):Res R:=(f1 env).bind λr1=>(f2 env).bind λr2=>wX r0 r1 r2
noncomputable def II (f2:En->Res R)(env:En)(r0 r1:R):Res R:=(f2 env).bind (wX r0 r1)
theorem vF (f0 f1 f2:En->Res R)(env:En):JF f0 f1 f2 env=(f0 env).bind (IH f1 f2 env):=(rfl)
theorem j7 (f1 f2:En->Res R)(env:En)(r0:R):IH f1 f2 env r0=(f1 env).bind (II f2 env r0):=(rfl)
theorem j8 (f2:En->Res R)(env:En)(r0 r1:R):II f2 env r0 r1=(f2 env).bind (wX r0 r1):=(rfl)
theorem GY {J L:List D}{g1 g2:Bool}(h0:r0.d.flat=true)(h1:D.flats J=true)(h2:D.flats L=true):wX r0 (.new J g1) (.new L g2)=.ok (.fre (.tup [r0.d,.lst J,.lst L])):=Ka ⟨h0,h1,h2⟩
theorem Cj (e:En):kT (.ok (.nx e))=.ok (.nx e):=(rfl)
theorem GZ (h:ra.d=.dic ks ds)(J:keyX rk.d=some x)(ha:ks.all (kin x)=true)(L:getD ks ds x=some d):kF ra rk=.ok (mkV d ra.fr ra.al):=by unfold kF;rw[h];dsimp only;rw[J];dsimp only;rw[Ka ha,L]
theorem gH:GU (.val (.lst ds) f al)=.ok (!ds.isEmpty):=(rfl)
end L3
local macro_rules|`(tactic| simp_arith[$as,*] $[$l:location]?)=>do
 let ls←("L3.fK L3.cW L3.nJ L3.jy L3.jz L3.vE L3.j6 L3.gG L3.vF L3.j7 L3.j8 L3.gH decide_true decide_false List.map_cons List.map_nil List.length_cons List.length_nil List.replicate List.cons_append List.nil_append List.append_nil Nat.reduceAdd Nat.max_self Nat.zero_max Nat.max_zero Nat.zero_add Nat.reduceSub L3.m5 L3.nc L3.vh L3.nv L3.ng L3.nh L3.ni L3.nu L3.jf L3.jg L3.bO L3.gv L3.d7 L3.d8 L3.b6 L3.cB L3.b9 L3.aT L3.cE L3.jU L3.gw L3.gx L3.cF L3.cX L3.bF L3.bc L3.EV L3.tO List.getElem?_cons_zero List.getElem?_cons_succ L3.nz L3.nA L3.nw L3.jh Int.reduceLT Int.reduceLE Int.reduceNeg L3.jb L3.jc L3.jd L3.je L3.vc L3.ve List.set_cons_zero List.set_cons_succ Nat.reduceLT Nat.reduceLeDiff L3.vg L3.m6 L3.m7 L3.m8 L3.m_ L3.ja L3.vi L3.vj L3.vk L3.vm L3.nB L3.f9 L3.f_ L3.ga L3.gb L3.ji L3.gc L3.gd L3.dL L3.nC L3.jj L3.nE L3.jk L3.dM L3.cN L3.dN L3.cO L3.jl L3.gf L3.dP L3.dQ L3.dR L3.dS L3.dU L3.cp L3.vp L3.nF L3.jm L3.jn L3.jo L3.gg L3.gh L3.vq L3.vw L3.jp L3.jq L3.jr L3.gk L3.js L3.nG L3.jt L3.jv L3.nH L3.nI L3.jw L3.gm L3.gn L3.jA L3.jB L3.vx L3.nK L3.nL L3.nM L3.rT L3.jC L3.jD L3.jE L3.jF L3.bX L3.E3 L3.E4 L3.E5 L3.gp L3.jG L3.jH L3.gq L3.gr L3.vy L3.nN L3.jI L3.jJ L3.nO L3.jK L3.jL L3.jM L3.jN L3.jO L3.nP L3.jP L3.gO L3.dW L3.dX L3.gs L3.dY L3.dZ L3.nQ L3.jQ L3.jX L3.jY L3.gB L3.gC L3.gD L3.gE L3.nU L3.gz L3.gA L3.eI L3.Res.noX_ok L3.nV L3.E6 L3.E7 L3.E8 L3.E9 L3.E_ Int.reduceBEq L3.nT Bool.not_not Nat.reduceEqDiff L3.pW L3.nR L3.jS L3.jT L3.cG L3.cq L3.gy L3.d9 L3.d_ L3.eh L3.eB L3.eF L3.eG Bool.and_true Bool.true_and Bool.and_false Bool.false_and Bool.and_self Bool.not_true Bool.not_false L3.jV L3.jW L3.cw L3.f7 L3.vA L3.gF L3.ba L3.jZ L3.nW L3.j3 L3.vD L3.j5 L3.cQ".splitOn " ").toArray.mapM λs=>`(Lean.Parser.Tactic.simpLemma| $(Lean.mkIdent s.toName):ident)
 `(tactic| simp only[$[$ls:simpLemma],*,$as,*] $[$l]?)
local macro_rules|`(tactic| simp_arith $[$l:location]?)=>`(tactic| simp_arith[L3.tO] $[$l]?)
namespace L3
open PySem L2
theorem lM {α β:Type}(g:α->β)(xs:List α)(lo hi:Option Int):cJ (xs.map g) lo hi=(cJ xs lo hi).map g:=by unfold cJ;rw[J9,List.map_take,List.map_drop]
theorem Ck {α:Type}(xs:List α)(lo hi:Option Int):(cJ xs lo hi).length<=xs.length:=by unfold cJ;rw[LP,MM];lia
theorem Cm {α:Type}(xs:List α)(lo hi:Option Int):∀ a∈cJ xs lo hi,a∈xs:=by unfold cJ;intro a h;exact My (Lw h)
theorem vG:(∀ d∈ds,d.flat=true)->D.flats ds=true:=by
 induction ds with
 |nil=>intro _;rfl
 |cons d r J=>intro h;rw[aT,h d (by simp),J λx L=>h x (by simp[L])];rfl
theorem aV {α:Type}(g:α->D)(xs:List α)(h:∀ a,(g a).flat=true):D.flats (xs.map g)=true:=vG λd hd=>by obtain⟨a,_,rfl⟩:=Kg.mp hd;exact h a
theorem bV (xs:List Int):D.flats (xs.map D.int)=true:=aV _ _ bO
theorem xm (h:d.flat=false):D.flats (d::ds)=false:=by rw[aT,h];rfl
theorem Eg:(∀ d∈ds,d.dep<=n)->D.deps ds<=n:=by
 induction ds with
 |nil=>intro _;rw[bF];lia
 |cons d r J=>intro h;have h1:=h d (by simp);have h2:=J λx L=>h x (by simp[L]);rw[bc];lia
theorem lN {α:Type}{g:α->D}{xs:List α}{n:Nat}(h:∀ a,(g a).dep<=n):D.deps (xs.map g)<=n:=Eg λd hd=>by obtain⟨a,_,rfl⟩:=Kg.mp hd;exact h a
theorem rU (xs:List Int):D.deps (xs.map D.int)<=0:=lN λ_=>J6 0
theorem eJ {α:Type}(g:α->D)(xs:List α):bu (xs.map λa=>.val (g a) true [])=true:=by unfold bu;rw[Ld];intro r h;obtain⟨a,_,rfl⟩:=Kg.mp h;rfl
theorem nX {α:Type}(g:α->D)(fr:Bool)(al:List Nat)(xs:List α):(xs.map λa=>R.val (g a) fr al).map R.d=xs.map g:=by rw[KM];rfl
theorem oF (n:Nat):eR 0 n=(List.range n).map λk=>.int (k:Nat):=by unfold eR;congr 1;funext k;simp
theorem pX {α:Type}(g:α->D){asg:D->Bool->En->Option En}{fr:Bool}{body:En->Res Fl}(P:List α->En->Prop):∀(xs pre:List α)(env:En),P pre env->
 (∀(pre post:List α)(a:α)(env:En),(∀ b∈pre,b∈pre)->P pre env->a∈xs->∃ L J,asg (g a) fr env=some L/\body L=.ok (.nx J)/\P (pre++[a]) J)->
 ∃ bb,io asg fr body (xs.map g) env=.ok (.nx bb)/\P (pre++xs) bb
 | [],pre,env,h,_=>⟨env,rfl,by rw[KW];exact h⟩
 |a::r,pre,env,h,st=>by obtain⟨L,J,h1,h2,O⟩:=st pre [] a env (λ_ z=>z) h (by simp);obtain⟨bb,e1,e2⟩:=pX g P r (pre++[a]) J O λp q b e z W Y=>st p q b e z W (by simp[Y]);refine⟨bb,?_,by rw[Mj]at e2;exact e2⟩;rw[Kc];unfold io;rw[h1];dsimp only;rw[h2];exact e1
theorem yy {α:Type}(g:α->D){asg:D->Bool->En->Option En}{fr:Bool}{body:En->Res Fl}(all:List α)(P:List α->En->Prop):∀(xs pre:List α)(env:En),all=pre++xs->P pre env->
 (∀(pre post:List α)(a:α)(env:En),all=pre++a::post->P pre env->∃ L J,asg (g a) fr env=some L/\body L=.ok (.nx J)/\P (pre++[a]) J)->
 ∃ bb,io asg fr body (xs.map g) env=.ok (.nx bb)/\P all bb
 | [],pre,env,e,h,_=>⟨env,rfl,by rw[e,KW];exact h⟩
 |a::r,pre,env,e,h,st=>by obtain⟨L,J,h1,h2,O⟩:=st pre r a env e h;obtain⟨bb,e1,e2⟩:=yy g all P r (pre++[a]) J (by rw[e];simp) O st;refine⟨bb,?_,e2⟩;rw[Kc];unfold io;rw[h1];dsimp only;rw[h2];exact e1
theorem cY (f:D->Bool->En->Option En)(fs:List D->Bool->En->Option En)(d:D)(ds:List D)(fr:Bool)(env:En):av f fs (d::ds) fr env=(f d fr env).bind λe=>fs ds fr e:=(rfl)
theorem Eh (hi:i<env.length)(J:j<env.length):vz (gT 2 (av (gN i) (av (gN j) bn))) env (.fre (.tup [a,b]))=.ok (.nx ((env.set i (some (.val a true))).set j (some (.val b true)))):=by refine tP ?_;show(av (gN i) (av (gN j) bn)) [a,b] true env=_;rw[cY,pV hi];show(av (gN j) bn) [b] true _=_;rw[cY,pV (by rw[KP];exact J)];rfl
theorem Ei (h:frz env al=env1)(hi:i<env1.length)(J:j<env1.length)(L:k<env1.length):vz (gT 3 (av (gN i) (av (gN j) (av (gN k) bn)))) env (.val (.tup [a,b,c]) f al)=.ok (.nx (((env1.set i (some (.val a f))).set j (some (.val b f))).set k (some (.val c f)))):=by refine tP ?_;show(av (gN i) (av (gN j) (av (gN k) bn))) [a,b,c] f (frz env al)=_;rw[h,cY,pV hi];show(av (gN j) (av (gN k) bn)) [b,c] f _=_;rw[cY,pV (by rw[KP];exact J)];show(av (gN k) bn) [c] f _=_;rw[cY,pV (by rw[KP,KP];exact L)];rfl
theorem Ej {α β:Type}(g:α->β)(xs:List α)(k:Int):atI (xs.map g) k=(atI xs k).map g:=by
 unfold atI;rw[J9];cases xE xs.length k with
 |none=>rfl
 |some j=>simp
theorem G0 {α:Type}{xs:List α}{k:Int}(h0:0<=k)(h:k<xs.length):∃ a,atI xs k=some a/\xs[k.toNat]?=some a:=by
 unfold atI xE;rw[Ka h0,Ka h];have:k.toNat<xs.length:=by lia
 exact⟨xs[k.toNat],by simp[this],by simp[this]⟩
end L3
namespace W
open PySem PySem.Spec PyProof.Rows L2 L3 L4
noncomputable def top (i:Nat):Stmt:=PySem.Challenge.pw_callwalk_k21_prices_have_reasons.main.body.getD i (.Pass ⟨0,0,0,0⟩)
noncomputable abbrev s__law_seed_at:Stmt:=top 13
noncomputable abbrev j9:List Str:=["_law_script", "_law_k", "_law_cell"]
noncomputable abbrev P__law_seed_at:List Str:=["_law_script", "_law_k"]
theorem sc__law_seed_at:FnScope j9 P__law_seed_at (defScope s__law_seed_at):=⟨rfl,rfl,rfl,by decide +kernel,rfl,by decide +kernel,by decide +kernel⟩
noncomputable def fR:En->Res Fl:=
 (a_ (fH 2 (vC (.int 0)))
 (a_ (rG (vB (v2 Dp (ao 1) (k_ qL (ai (ao 0) aN)))) (fH 2 (bA 0 (ao 1))) gX)
 (de (v2 dn (v2 wL (v2 wL (v2 dc (v2 dn (ao 2) (vC (.int 2147483647))) (vC (.int 11))) (vC (.int 48271))) (vC (.int 69621))) (vC (.int 2147483629))))))
noncomputable def bP:List D->Res R:=fK j9 fR
noncomputable abbrev s__law_arrow_by:Stmt:=top 16
noncomputable abbrev iF:List Str:=["_law_cell", "_law_rooms", "_law_own", "_law_signs", "_law_number", "_law_state", "_law_sign"]
noncomputable abbrev P__law_arrow_by:List Str:=["_law_cell", "_law_rooms", "_law_own", "_law_signs"]
theorem sc__law_arrow_by:FnScope iF P__law_arrow_by (defScope s__law_arrow_by):=⟨rfl,rfl,rfl,by decide +kernel,rfl,by decide +kernel,by decide +kernel⟩
noncomputable def iG:En->Res Fl:=
 (a_ (fH 4 (v2 dn (v2 wL (ao 0) (vC (.int 69621))) (vC (.int 2147483629))))
 (a_ (n_ (k_ dB (ai (ao 4) (ai (vC (.int 60)) aN))) (gT 2 (av (gN 4) (av (gN 5) bn))))
 (a_ (n_ (k_ dB (ai (ao 4) (ai (vC (.int 60)) aN))) (gT 2 (av (gN 4) (av (gN 6) bn))))
 (de (gU (ai (v2 dn (ao 5) (v2 dc (ao 1) (ao 2))) (ai (v2 dn (ao 6) (ao 3)) (ai (v2 dc (ao 1) (v2 dn (ao 4) (ao 2))) aN))))))))
noncomputable def cH:List D->Res R:=fK iF iG
noncomputable abbrev s__law_machine_by:Stmt:=top 17
noncomputable abbrev bG:List Str:=["_law_cell", "_law_cells", "_law_rooms", "_law_own", "_law_signs", "_law_form", "_law_head", "_law_arrows", "_law_ends"]
noncomputable abbrev P__law_machine_by:List Str:=["_law_cell", "_law_cells", "_law_rooms", "_law_own", "_law_signs"]
theorem sc__law_machine_by:FnScope bG P__law_machine_by (defScope s__law_machine_by):=⟨rfl,rfl,rfl,by decide +kernel,rfl,by decide +kernel,by decide +kernel⟩
theorem iI:((["_law_sign"]:List Str)++(["_law_rooms"]:List Str)).Nodup:=by decide +kernel
theorem iJ:((["_law_one"]:List Str)++(["_law_rooms", "_law_own", "_law_signs"]:List Str)).Nodup:=by decide +kernel
theorem iL:((["_law_state"]:List Str)++(["_law_cell"]:List Str)).Nodup:=by decide +kernel
noncomputable def bp:En->Res R:=λenv=>(gU (ai (ao 1) (ai (ao 0) (ai (ao 1) aN)))) env
noncomputable def aW:En->Res R:=λenv=>(cA cH (ai (ao 0) (ai (ao 1) (ai (ao 2) (ai (ao 3) aN))))) env
noncomputable def bq:En->Res Bool:=λenv=>(vB (v2 x4 (v2 BH (v2 Gy (v2 dn (v2 n9 (ao 1) (vC (.int 10))) (vC (.int 32))) (ao 0)) (vC (.int 1))) (vC (.int 1)))) env
noncomputable def br:En->Res R:=λenv=>(ao 0) env
noncomputable def bH:En->Res Fl:=
 (a_ (fH 5 (v2 dn (v2 n9 (ao 0) (vC (.int 320))) (vC (.int 4))))
 (a_ (rG (vB (v2 x4 (ao 5) (vC (.int 2)))) (a_ (fH 6 (gU (ai (v2 dn (v2 n9 (ao 0) (vC (.int 1280))) (ao 2)) (ai (v2 dn (v2 n9 (ao 0) (vC (.int 7680))) (ao 4)) (ai (ao 2) aN)))))
 (de (gU (ai (v2 dc (ao 2) (vC (.int 1))) (ai (k_ EL (ai (v2 dc (pB (ai (ao 6) aN)) (cM 1 [2] (HU (ai (ao 4) aN)) (gN 0) (λ_=>.ok true) bp)) aN)) (ai (pB (ai (ao 2) aN)) aN)))))) gX)
 (a_ (rG (vB (v2 x4 (ao 5) (vC (.int 3)))) (de (gU (ai (ao 2) (ai (pB aN) (ai (k_ oo (ai (ao 2) aN)) aN))))) gX)
 (a_ (fH 7 (cM 1 [2,3,4] (kK (ao 1)) (gN 0) (λ_=>.ok true) aW))
 (a_ (fH 8 (cM 1 [0] (HU (ai (v2 dc (ao 2) (ao 3)) aN)) (gN 0) bq br))
 (de (gU (ai (v2 dc (ao 2) (ao 3)) (ai (JD (ao 7)) (ai (ao 8) aN))))))))))
noncomputable def aU:List D->Res R:=fK bG bH
noncomputable abbrev s__law_far:Stmt:=top 18
noncomputable abbrev pY:List Str:=["_law_machine", "_law_start", "_law_number", "_law_signs", "_law_arrows", "_law_state", "_law_k"]
noncomputable abbrev P__law_far:List Str:=["_law_machine", "_law_start", "_law_number", "_law_signs"]
theorem sc__law_far:FnScope pY P__law_far (defScope s__law_far):=⟨rfl,rfl,rfl,by decide +kernel,rfl,by decide +kernel,by decide +kernel⟩
noncomputable def fj:En->Res Fl:=λenv=>
 (a_ (Bt 4 (gU (ai (ao 5) (ai (v2 dn (v2 n9 (ao 2) (v2 dc (ao 6) (vC (.int 2)))) (ao 3)) (ai (v2 dc (bA 0 (vC (.int 0))) (ao 6)) aN)))))
 (fH 5 (v2 dc (bA 0 (vC (.int 0))) (ao 6)))) env
noncomputable def pZ:En->Res Fl:=
 (a_ (fH 4 (k_ mT (ai (bA 0 (vC (.int 1))) aN)))
 (a_ (fH 5 (ao 1))
 (a_ (Dx (HU (ai (v2 dc (vC (.int 9)) (v2 dn (ao 2) (vC (.int 12)))) aN)) (gN 6) fj)
 (de (gU (ai (v2 dc (ao 5) (vC (.int 1))) (ai (k_ EL (ai (ao 4) aN)) (ai (v2 dc (bA 0 (vC (.int 2))) (pB (ai (ao 5) aN))) aN))))))))
noncomputable def iz:List D->Res R:=fK pY pZ
noncomputable abbrev s__law_rule_by:Stmt:=top 15
noncomputable abbrev j_:List Str:=["_law_cell", "_law_rooms", "_law_signs", "_law_number", "_law_kind", "_law_room", "_law_sign", "_law_to", "_law_one", "_law_put"]
noncomputable abbrev P__law_rule_by:List Str:=["_law_cell", "_law_rooms", "_law_signs"]
theorem sc__law_rule_by:FnScope j_ P__law_rule_by (defScope s__law_rule_by):=⟨rfl,rfl,rfl,by decide +kernel,rfl,by decide +kernel,by decide +kernel⟩
noncomputable def kc:En->Res Fl:=
 (a_ (fH 3 (v2 dn (v2 wL (ao 0) (vC (.int 48271))) (vC (.int 2147483647))))
 (a_ (n_ (k_ dB (ai (ao 3) (ai (vC (.int 3)) aN))) (gT 2 (av (gN 3) (av (gN 4) bn))))
 (a_ (n_ (k_ dB (ai (ao 3) (ai (vC (.int 6)) aN))) (gT 2 (av (gN 3) (av (gN 5) bn))))
 (a_ (n_ (k_ dB (ai (ao 3) (ai (vC (.int 60)) aN))) (gT 2 (av (gN 3) (av (gN 6) bn))))
 (a_ (n_ (k_ dB (ai (ao 3) (ai (vC (.int 6)) aN))) (gT 2 (av (gN 3) (av (gN 7) bn))))
 (a_ (n_ (k_ dB (ai (ao 3) (ai (vC (.int 60)) aN))) (gT 2 (av (gN 3) (av (gN 8) bn))))
 (a_ (fH 9 (pB (ai (v2 dn (ao 8) (ao 2)) (ai (v2 dn (ao 3) (ao 2)) aN))))
 (de (gU (ai (v2 dn (ao 5) (ao 1)) (ai (v2 dn (ao 6) (ao 2)) (ai (v2 dn (ao 7) (ao 1)) (ai (k_ sX (ai (mn (ao 9) yd (mV (ao 4))) aN)) aN)))))))))))))
noncomputable def cZ:List D->Res R:=fK j_ kc
noncomputable abbrev s__law_made_by:Stmt:=top 19
noncomputable abbrev fS:List Str:=["_law_script", "_law_most", "_law_shape", "_law_seed", "_law_rooms", "_law_signs", "_law_own", "_law_many", "_law_machine", "_law_rules"]
noncomputable abbrev P__law_made_by:List Str:=["_law_script", "_law_most"]
theorem sc__law_made_by:FnScope fS P__law_made_by (defScope s__law_made_by):=⟨rfl,rfl,rfl,by decide +kernel,rfl,by decide +kernel,by decide +kernel⟩
theorem kY:((["_law_cell"]:List Str)++(["_law_rooms", "_law_signs"]:List Str)).Nodup:=by decide +kernel
noncomputable def bv:En->Res R:=λenv=>(cA cZ (ai (ao 0) (ai (ao 1) (ai (ao 2) aN)))) env
noncomputable def c9:En->Res Fl:=
 (a_ (mX 2 (cA bP (ai (ao 0) (ai (vC (.int 0)) aN))))
 (a_ (mX 3 (cA bP (ai (ao 0) (ai (vC (.int 1)) aN))))
 (a_ (fH 4 (v2 dc (vC (.int 1)) (v2 dn (ao 2) (vC (.int 3)))))
 (a_ (fH 5 (v2 dc (vC (.int 1)) (v2 dn (v2 n9 (ao 2) (vC (.int 3))) (vC (.int 5)))))
 (a_ (fH 6 (v2 dn (v2 n9 (ao 2) (vC (.int 15))) (vC (.int 3))))
 (a_ (fH 7 (v2 wL (v2 dn (ao 3) (vC (.int 10))) (k_ DD (ai (v2 Jx (ao 6) (vC (.int 0))) aN))))
 (a_ (mX 8 (cA aU (ai (ao 3) (ai (mn (ao 0) (mV (vC (.int 4))) (mV (v2 dc (vC (.int 4)) (ao 7)))) (ai (ao 4) (ai (ao 6) (ai (ao 5) aN)))))))
 (a_ (rG (Ds (vB (v2 x4 (v2 dn (v2 n9 (ao 2) (vC (.int 45))) (vC (.int 8))) (vC (.int 3)))) (vB (v2 Dp (v2 dn (v2 n9 (ao 3) (vC (.int 320))) (vC (.int 4))) (vC (.int 2))))) (mX 8 (cA iz (ai (ao 8) (ai (v2 dn (ao 3) (ao 4)) (ai (v2 n9 (ao 3) (vC (.int 7))) (ai (ao 5) aN)))))) gX)
 (a_ (fH 9 (cM 1 [4,5] (kK (mn (ao 0) (mV (v2 dc (vC (.int 4)) (ao 7))) (mV (v2 dc (v2 dc (vC (.int 4)) (ao 7)) (ao 1))))) (gN 0) (λ_=>.ok true) bv))
 (de (gU (ai (gU (ai (ao 4) (ai (ao 5) (ai (ao 9) aN)))) (ai (ao 8) aN)))))))))))))
noncomputable def bQ:List D->Res R:=fK fS c9
noncomputable abbrev s__law_copy:Stmt:=top 20
noncomputable abbrev nY:List Str:=["_law_house", "_law_machine"]
noncomputable abbrev P__law_copy:List Str:=["_law_house", "_law_machine"]
theorem tQ:FnScope nY P__law_copy (defScope s__law_copy):=⟨rfl,rfl,rfl,by decide +kernel,rfl,by decide +kernel,by decide +kernel⟩
noncomputable def nZ:En->Res Fl:=(de (pB (ai (gU (ai (bA 0 (vC (.int 0))) (ai (bA 0 (vC (.int 1))) (ai (k_ mT (ai (bA 0 (vC (.int 2))) aN)) aN)))) (ai (JF (bA 1 (vC (.int 0))) (k_ mT (ai (bA 1 (vC (.int 1))) aN)) (k_ mT (ai (bA 1 (vC (.int 2))) aN))) aN))))
noncomputable def gI:List D->Res R:=fK nY nZ
noncomputable abbrev s_is_plain:Stmt:=top 4
noncomputable abbrev kZ:List Str:=["house", "machine"]
noncomputable abbrev P_is_plain:List Str:=["house", "machine"]
theorem vH:FnScope kZ P_is_plain (defScope s_is_plain):=⟨rfl,rfl,rfl,by decide +kernel,rfl,by decide +kernel,by decide +kernel⟩
theorem p_:((["arrow"]:List Str)++(["house"]:List Str)).Nodup:=by decide +kernel
noncomputable def c_:En->Res R:=λenv=>(v2 Jy (bA 0 (vC (.int 2))) (bA 1 (vC (.int 0)))) env
noncomputable def qg:En->Res Fl:=(de (k_ zA (ai (cM 1 [0] (kK (bA 1 (vC (.int 1)))) (gN 0) (λ_=>.ok true) c_) aN)))
noncomputable def iA:List D->Res R:=fK kZ qg
noncomputable abbrev s_refuse_unless_plain:Stmt:=top 5
noncomputable abbrev dg:List Str:=["house", "machine"]
noncomputable abbrev P_refuse_unless_plain:List Str:=["house", "machine"]
theorem iB:FnScope dg P_refuse_unless_plain (defScope s_refuse_unless_plain):=⟨rfl,rfl,rfl,by decide +kernel,rfl,by decide +kernel,by decide +kernel⟩
noncomputable def di:En->Res Fl:=(rG (kJ (pA (cA iA (ai (ao 0) (ai (ao 1) aN))))) (sU "NotPlain" (ai (vC (.str "an arrow of the machine leads to a room")) aN)) gX)
noncomputable def bC:List D->Res R:=fK dg di
noncomputable abbrev s_rules_by_start:Stmt:=top 9
noncomputable abbrev mG:List Str:=["house", "rules", "number", "rule"]
noncomputable abbrev P_rules_by_start:List Str:=["house"]
theorem sc_rules_by_start:FnScope mG P_rules_by_start (defScope s_rules_by_start):=⟨rfl,rfl,rfl,by decide +kernel,rfl,by decide +kernel,by decide +kernel⟩
noncomputable abbrev s_prices:Stmt:=top 11
noncomputable abbrev Co:List Str:=["house", "machine", "pricing", "arrow", "number", "rule"]
noncomputable abbrev P_prices:List Str:=["house", "machine"]
theorem sc_prices:FnScope Co P_prices (defScope s_prices):=⟨rfl,rfl,rfl,by decide +kernel,rfl,by decide +kernel,by decide +kernel⟩
noncomputable abbrev s_QI:Stmt:=eZ (top 7) 0
theorem IJ:FnScope ["self"] ["self"] (defScope s_QI):=⟨rfl,rfl,rfl,by decide +kernel,rfl,by decide +kernel,by decide +kernel⟩
noncomputable abbrev s_QA:Stmt:=eZ (top 7) 1
theorem IK:FnScope ["self", "price", "thing"] ["self", "price", "thing"] (defScope s_QA):=⟨rfl,rfl,rfl,by decide +kernel,rfl,by decide +kernel,by decide +kernel⟩
noncomputable abbrev s_QE:Stmt:=eZ (top 7) 2
theorem IL:FnScope ["self"] ["self"] (defScope s_QE):=⟨rfl,rfl,rfl,by decide +kernel,rfl,by decide +kernel,by decide +kernel⟩
noncomputable abbrev s_QT:Stmt:=eZ (top 7) 3
theorem sc_QT:FnScope ["self", "pile", "price", "thing"] ["self"] (defScope s_QT):=⟨rfl,rfl,rfl,by decide +kernel,rfl,by decide +kernel,by decide +kernel⟩
noncomputable abbrev s_PI:Stmt:=eZ (top 10) 0
theorem IM:FnScope ["self", "house"] ["self", "house"] (defScope s_PI):=⟨rfl,rfl,rfl,by decide +kernel,rfl,by decide +kernel,by decide +kernel⟩
noncomputable abbrev s_PO:Stmt:=eZ (top 10) 1
theorem sc_PO:FnScope ["self", "arrow", "price", "number", "mid", "known"] ["self", "arrow", "price", "number", "mid"] (defScope s_PO):=⟨rfl,rfl,rfl,by decide +kernel,rfl,by decide +kernel,by decide +kernel⟩
noncomputable abbrev s_PS:Stmt:=eZ (top 10) 2
theorem sc_PS:FnScope ["self", "arrow", "price", "start", "number", "rule", "first"] ["self", "arrow", "price"] (defScope s_PS):=⟨rfl,rfl,rfl,by decide +kernel,rfl,by decide +kernel,by decide +kernel⟩
noncomputable abbrev s_PF:Stmt:=eZ (top 10) 3
theorem sc_PF:FnScope ["self", "number", "rule", "mid", "price", "start", "state", "second"] ["self", "number", "rule", "mid", "price"] (defScope s_PF):=⟨rfl,rfl,rfl,by decide +kernel,rfl,by decide +kernel,by decide +kernel⟩
noncomputable abbrev s_PA:Stmt:=eZ (top 10) 4
theorem sc_PA:FnScope ["self", "price", "arrow"] ["self"] (defScope s_PA):=⟨rfl,rfl,rfl,by decide +kernel,rfl,by decide +kernel,by decide +kernel⟩
noncomputable def qh:List D->Res R:=L4.Im bC
noncomputable abbrev s__law_whole:Stmt:=top 14
noncomputable abbrev lP:List Str:=["_law_found"]
noncomputable abbrev P__law_whole:List Str:=["_law_found"]
theorem qR:FnScope lP P__law_whole (defScope s__law_whole):=⟨rfl,rfl,rfl,by decide +kernel,rfl,by decide +kernel,by decide +kernel⟩
noncomputable def lQ:En->Res Fl:=(de (Bn (wR "int" (ao 0)) (Gh (wR "bool" (ao 0)))))
noncomputable def bW:List D->Res R:=fK lP lQ
noncomputable abbrev s__law_formed:Stmt:=top 21
noncomputable abbrev gR:List Str:=["_law_arrow", "_law_value", "_law_house", "_law_machine"]
noncomputable abbrev P__law_formed:List Str:=["_law_arrow", "_law_value", "_law_house", "_law_machine"]
theorem qj:FnScope gR P__law_formed (defScope s__law_formed):=⟨rfl,rfl,rfl,by decide +kernel,rfl,by decide +kernel,by decide +kernel⟩
theorem lR:((["_law_part"]:List Str)++([]:List Str)).Nodup:=by decide +kernel
noncomputable def bE:En->Res R:=λenv=>(cA bW (ai (ao 0) aN)) env
noncomputable def gS:En->Res Fl:=
 (a_ (rG (Bo (kJ (pA (wR "tuple" (ao 0)))) (Bo (vB (v2 Bl (k_ qL (ai (ao 0) aN)) (vC (.int 3)))) (Bo (kJ (pA (wR "tuple" (ao 1)))) (vB (v2 Bl (k_ qL (ai (ao 1) aN)) (vC (.int 3))))))) (de (vC (.bl false))) gX)
 (a_ (rG (Bo (kJ (pA (k_ zA (ai (cM 1 [] (kK (ao 0)) (gN 0) (λ_=>.ok true) bE) aN)))) (kJ (pA (cA bW (ai (bA 1 (vC (.int 0))) aN))))) (de (vC (.bl false))) gX)
 (a_ (rG (Bo (kJ (vB (kN Hg Dp (vC (.int 0)) (bA 0 (vC (.int 0))) (bA 3 (vC (.int 0)))))) (Bo (kJ (vB (kN Hg Dp (vC (.int 0)) (bA 0 (vC (.int 1))) (bA 2 (vC (.int 1)))))) (kJ (vB (kN Hg Dp (vC (.int 0)) (bA 0 (vC (.int 2))) (bA 3 (vC (.int 0)))))))) (de (vC (.bl false))) gX)
 (a_ (rG (DE (bA 1 (vC (.int 1)))) (de (Bm (bA 1 (vC (.int 2))))) gX)
 (de (Bn (cA bW (ai (bA 1 (vC (.int 1))) aN)) (JB (Bm (bA 1 (vC (.int 2)))) (cA bW (ai (bA 1 (vC (.int 2))) aN)))))))))
noncomputable def cC:List D->Res R:=fK gR gS
noncomputable abbrev s__law_reason:Stmt:=top 22
noncomputable abbrev dD:List Str:=["_law_told", "_law_house", "_law_arrow", "_law_price", "_law_number", "_law_middle", "_law_room", "_law_sign", "_law_to", "_law_put", "_law_parts"]
noncomputable abbrev P__law_reason:List Str:=["_law_told", "_law_house", "_law_arrow"]
theorem sc__law_reason:FnScope dD P__law_reason (defScope s__law_reason):=⟨rfl,rfl,rfl,by decide +kernel,rfl,by decide +kernel,by decide +kernel⟩
theorem lS:((["_law_part"]:List Str)++(["_law_told"]:List Str)).Nodup:=by decide +kernel
theorem lT:((["_law_part"]:List Str)++(["_law_told"]:List Str)).Nodup:=by decide +kernel
noncomputable def b7:En->Res R:=λenv=>(v2 DF (ao 0) (ao 1)) env
noncomputable def b8:En->Res R:=λenv=>(v2 Ai (v2 kF (ao 1) (ao 0)) (vC (.int 0))) env
noncomputable def dE:En->Res Fl:=
 (a_ (n_ (v2 kF (ao 0) (ao 2)) (gT 3 (av (gN 3) (av (gN 4) (av (gN 5) bn)))))
 (a_ (rG (kJ (vB (kN Hg Dp (vC (.int 0)) (ao 4) (k_ qL (ai (bA 1 (vC (.int 2))) aN))))) (de (vC (.bl false))) gX)
 (a_ (n_ (v2 Ai (bA 1 (vC (.int 2))) (ao 4)) (gT 4 (av (gN 6) (av (gN 7) (av (gN 8) (av (gN 9) bn))))))
 (a_ (rG (Bo (vB (v2 Bl (gU (ai (ao 6) (ai (ao 7) aN))) (mn (ao 2) yd (mV (vC (.int 2)))))) (vB (v2 Bl (Bm (ao 5)) (v2 Dp (k_ qL (ai (ao 9) aN)) (vC (.int 2)))))) (de (vC (.bl false))) gX)
 (a_ (rG (vB (v2 x4 (ao 9) (gU aN))) (de (Bn (v2 x4 (ao 8) (bA 2 (vC (.int 2)))) (v2 x4 (ao 3) (vC (.int 1))))) gX)
 (a_ (fH 10 (pB (ai (gU (ai (ao 8) (ai (bA 9 (vC (.int 0))) (ai (bA 2 (vC (.int 2))) aN)))) aN)))
 (a_ (rG (vB (v2 x4 (k_ qL (ai (ao 9) aN)) (vC (.int 2)))) (fH 10 (pB (ai (gU (ai (ao 8) (ai (bA 9 (vC (.int 0))) (ai (ao 5) aN)))) (ai (gU (ai (ao 5) (ai (bA 9 (vC (.int 1))) (ai (bA 2 (vC (.int 2))) aN)))) aN)))) gX)
 (a_ (rG (kJ (pA (k_ zA (ai (cM 1 [0] (kK (ao 10)) (gN 0) (λ_=>.ok true) b7) aN)))) (de (vC (.bl false))) gX)
 (de (v2 x4 (ao 3) (v2 dc (vC (.int 1)) (k_ pN (ai (cM 1 [0] (kK (ao 10)) (gN 0) (λ_=>.ok true) b8) aN)))))))))))))
noncomputable def bJ:List D->Res R:=fK dD dE
noncomputable abbrev s_law:Stmt:=top 23
noncomputable abbrev Fc:List Str:=["_law_script", "_law_house", "_law_machine", "_law_handed", "_law_told", "_law_arrow", "_law_value"]
noncomputable abbrev P_law:List Str:=["_law_script"]
theorem sc_law:FnScope Fc P_law (defScope s_law):=⟨rfl,rfl,rfl,by decide +kernel,rfl,by decide +kernel,by decide +kernel⟩
noncomputable def oG:En->Res Fl:=λenv=>(rG (kJ (pA (cA cC (ai (ao 5) (ai (ao 6) (ai (ao 1) (ai (ao 2) aN))))))) (de (vC (.bl false))) gX) env
noncomputable def lU:En->Res Fl:=λenv=>
 (a_ (rG (vB (v2 Bl (v2 DF (ao 5) (bA 2 (vC (.int 1)))) (v2 x4 (ao 6) (gU (ai (vC (.int 0)) (ai (vC .non) (ai (vC .non) aN))))))) (de (vC (.bl false))) gX)
 (rG (Ds (vB (v2 sW (ao 5) (bA 2 (vC (.int 1))))) (Bo (DE (bA 6 (vC (.int 1)))) (kJ (pA (cA bJ (ai (ao 4) (ai (ao 1) (ai (ao 5) aN)))))))) (de (vC (.bl false))) gX)) env
noncomputable def yz:En->Res Fl:=λenv=>(de (vC (.bl true))) env
noncomputable def yA:En->Res Fl:=λenv=>
 (a_ (yj (ao 4) (gT 2 (av (gN 5) (av (gN 6) bn))) lU)
 yz) env
noncomputable def yB:En->Res Fl:=λenv=>
 (a_ (yj (ao 4) (gT 2 (av (gN 5) (av (gN 6) bn))) oG)
 yA) env
noncomputable def yC:En->Res Fl:=λenv=>
 (a_ (rG (Bo (kJ (pA (wR "dict" (ao 4)))) (vB (v2 Bl (ao 3) (pB (ai (ao 1) (ai (ao 2) aN)))))) (de (vC (.bl false))) gX)
 yB) env
noncomputable def yD:En->Res Fl:=λenv=>
 (a_ (mX 4 (cA qh (ai (bA 3 (vC (.int 0))) (ai (bA 3 (vC (.int 1))) aN))))
 yC) env
noncomputable def yE:En->Res Fl:=λenv=>
 (a_ (mX 3 (cA gI (ai (ao 1) (ai (ao 2) aN))))
 yD) env
noncomputable def Fd:En->Res Fl:=
 (a_ (n_ (cA bQ (ai (ao 0) (ai (vC (.int 60)) aN))) (gT 2 (av (gN 1) (av (gN 2) bn))))
 yE)
noncomputable def vI:List D->Res R:=fK Fc Fd
set_option genInjectivity false in
structure Tx (K:On) (mg:Str->Option Oq) where
 f_a:Addr
 fd_a:FuncData
 h_a:Fn K mg "_law_seed_at" s__law_seed_at P__law_seed_at f_a fd_a
 f_b:Addr
 fd_b:FuncData
 h_b:Fn K mg "_law_arrow_by" s__law_arrow_by P__law_arrow_by f_b fd_b
 f_c:Addr
 fd_c:FuncData
 h_c:Fn K mg "_law_machine_by" s__law_machine_by P__law_machine_by f_c fd_c
 f_d:Addr
 fd_d:FuncData
 h_d:Fn K mg "_law_far" s__law_far P__law_far f_d fd_d
 f_e:Addr
 fd_e:FuncData
 h_e:Fn K mg "_law_rule_by" s__law_rule_by P__law_rule_by f_e fd_e
 f_f:Addr
 fd_f:FuncData
 h_f:Fn K mg "_law_made_by" s__law_made_by P__law_made_by f_f fd_f
 f_g:Addr
 fd_g:FuncData
 h_g:Fn K mg "_law_copy" s__law_copy P__law_copy f_g fd_g
 f_h:Addr
 fd_h:FuncData
 h_h:Fn K mg "is_plain" s_is_plain P_is_plain f_h fd_h
 f_i:Addr
 fd_i:FuncData
 h_i:Fn K mg "refuse_unless_plain" s_refuse_unless_plain P_refuse_unless_plain f_i fd_i
 f_j:Addr
 fd_j:FuncData
 h_j:Fn K mg "rules_by_start" s_rules_by_start P_rules_by_start f_j fd_j
 f_k:Addr
 fd_k:FuncData
 h_k:Fn K mg "prices" s_prices P_prices f_k fd_k
 f_l:Addr
 fd_l:FuncData
 h_l:Fn K mg "_law_whole" s__law_whole P__law_whole f_l fd_l
 f_m:Addr
 fd_m:FuncData
 h_m:Fn K mg "_law_formed" s__law_formed P__law_formed f_m fd_m
 f_n:Addr
 fd_n:FuncData
 h_n:Fn K mg "_law_reason" s__law_reason P__law_reason f_n fd_n
 f_o:Addr
 fd_o:FuncData
 h_o:Fn K mg "law" s_law P_law f_o fd_o
 nb_all:mg "all"=none
 nb_bool:mg "bool"=none
 nb_dict:mg "dict"=none
 nb_divmod:mg "divmod"=none
 nb_enumerate:mg "enumerate"=none
 nb_int:mg "int"=none
 nb_isinstance:mg "isinstance"=none
 nb_len:mg "len"=none
 nb_list:mg "list"=none
 nb_min:mg "min"=none
 nb_range:mg "range"=none
 nb_set:mg "set"=none
 nb_sorted:mg "sorted"=none
 nb_sum:mg "sum"=none
 nb_tuple:mg "tuple"=none
 C_NotPlain:Addr
 x_NotPlain:XC K mg "NotPlain" C_NotPlain
 CQ:Addr
 kQ:QCls K CQ
 gQ:mg "Queue"=some (.ref CQ)
 CP:Addr
 kP:PCls K CP
 gP:mg "Pricing"=some (.ref CP)
 f_p:Addr
 fd_p:FuncData
 h_p:Fun K "__init__" "Queue.__init__" s_QI f_p fd_p
 b_QI:Binds K fd_p ["self"] []
 k_p:Mk K CQ f_p
 f_q:Addr
 fd_q:FuncData
 h_q:Mt K CQ "add" "Queue.add" s_QA ["self", "price", "thing"] f_q fd_q
 f_r:Addr
 fd_r:FuncData
 h_r:Mt K CQ "is_empty" "Queue.is_empty" s_QE ["self"] f_r fd_r
 f_s:Addr
 fd_s:FuncData
 h_s:Mt K CQ "take_lowest" "Queue.take_lowest" s_QT ["self"] f_s fd_s
 f_t:Addr
 fd_t:FuncData
 h_t:Fun K "__init__" "Pricing.__init__" s_PI f_t fd_t
 b_PI:Binds K fd_t ["self", "house"] []
 k_t:Mk K CP f_t
 f_u:Addr
 fd_u:FuncData
 h_u:Mt K CP "offer" "Pricing.offer" s_PO ["self", "arrow", "price", "number", "mid"] f_u fd_u
 f_v:Addr
 fd_v:FuncData
 h_v:Mt K CP "settle" "Pricing.settle" s_PS ["self", "arrow", "price"] f_v fd_v
 f_w:Addr
 fd_w:FuncData
 h_w:Mt K CP "settle_first" "Pricing.settle_first" s_PF ["self", "number", "rule", "mid", "price"] f_w fd_w
 f_x:Addr
 fd_x:FuncData
 h_x:Mt K CP "settle_all" "Pricing.settle_all" s_PA ["self"] f_x fd_x
section
variable {P:Oo}{w:World}{K:On}{mg:Str->Option Oq}{base:Heap}
theorem iH (t:Tx K mg):FnOk P w K mg base (qB P w) 1 t.f_a t.fd_a P__law_seed_at (qK mg 2 bP):=
 gZ t.h_a.fu sc__law_seed_at λcdv A outer s H E J=>
  have L:=J.units
  (am (bL sc__law_seed_at.nd rfl (.inl rfl) aw)
    (am (ce (bT (pz) (qv 1) (aR mj (by rfl) t.nb_len (by decide +kernel) (aa (qv 0) aj)) (aY _)) (aD (bL sc__law_seed_at.nd rfl (.inl rfl) (Bp (pv 0) (qv 1) (λ_ _=>rfl)))) aZ)
    (aD (aQ (aH bh (aH px (aH px (aH bN (aH bh (qv 2) aw) aw) aw) aw) aw)))))
theorem mH (t:Tx K mg):FnOk P w K mg base (qB P w) 1 t.f_b t.fd_b P__law_arrow_by (qK mg 4 cH):=
 gZ t.h_b.fu sc__law_arrow_by λcdv A outer s H E J=>
  have L:=J.units
  (am (bL sc__law_arrow_by.nd rfl (.inl rfl) (aH bh (aH px (qv 0) aw) aw))
    (am (dz (aR dt (by rfl) t.nb_divmod (by decide +kernel) (aa (qv 4) (aa aw aj))) (cD rfl (aG (aB sc__law_arrow_by.nd rfl (.inl rfl)) (aG (aB sc__law_arrow_by.nd rfl (.inl rfl)) bY (λ_ a _ b=>ay a b)) (λ_ a _ b=>ay a b))))
    (am (dz (aR dt (by rfl) t.nb_divmod (by decide +kernel) (aa (qv 4) (aa aw aj))) (cD rfl (aG (aB sc__law_arrow_by.nd rfl (.inl rfl)) (aG (aB sc__law_arrow_by.nd rfl (.inl rfl)) bY (λ_ a _ b=>ay a b)) (λ_ a _ b=>ay a b))))
    (aD (aQ (cc (aa (aH bh (qv 5) (aH bN (qv 1) (qv 2))) (aa (aH bh (qv 6) (qv 3)) (aa (aH bN (qv 1) (aH bh (qv 4) (qv 2))) aj)))))))))
theorem k7 (t:Tx K mg):FnOk P w K mg base (qB P w) 2 t.f_c t.fd_c P__law_machine_by (qK mg 5 aU):=
 gZ t.h_c.fu sc__law_machine_by λcdv A outer s H E L=>
  have J:=L.units
  (am (bL sc__law_machine_by.nd rfl (.inl rfl) (aH bh (aH gK (qv 0) aw) aw))
    (am (ce (bT (kE J) (qv 5) aw (aY _)) (am (bL sc__law_machine_by.nd rfl (.inl rfl) (cc (aa (aH bh (aH gK (qv 0) aw) (qv 2)) (aa (aH bh (aH gK (qv 0) aw) (qv 4)) (aa (qv 2) aj)))))
    (aD (aQ (cc (aa (aH bN (qv 2) aw) (aa (aR pL (by rfl) t.nb_sorted (by decide +kernel) (aa (aH bN (ik (aa (qv 6) aj)) (lE rfl (CScope.of (osc:=defScope s__law_machine_by) (N:=bG) (tN:=["_law_sign"]) (capN:=["_law_rooms"]) (caps:=[2]) rfl rfl (by decide +kernel)) (kM (by rfl) t.nb_range (aa (qv 4) aj)) (by decide) (λcl C s3 H3 fp=>(aB iI rfl (.inl rfl))) (λcl C s3 H3 fp=>fJ) (λcl C s3 H3 fp=>(cc (aa (qv 1) (aa (qv 0) (aa (qv 1) aj))))))) aj)) (aa (ik (aa (qv 2) aj)) aj))))))) aZ)
    (am (ce (bT (kE J) (qv 5) aw (aY _)) (aD (aQ (cc (aa (qv 2) (aa (ik aj) (aa (zJ (by rfl) (by rfl) t.nb_list (by decide +kernel) (by rfl) t.nb_range (aa (qv 2) aj)) aj)))))) aZ)
    (am (pF rfl (CScope.of (osc:=defScope s__law_machine_by) (N:=bG) (tN:=["_law_one"]) (capN:=["_law_rooms", "_law_own", "_law_signs"]) (caps:=[2,3,4]) rfl rfl (by decide +kernel)) sc__law_machine_by.nd rfl rfl (kg (qv 1)) (by decide) (λcl C s3 H3 fp=>(aB iJ rfl (.inl rfl))) (λcl C s3 H3 fp=>fJ) (λcl C s3 H3 fp=>(bo (mH t) (L.mono (by decide)) (by rfl) t.h_b BB (aa (qv 0) (aa (qv 1) (aa (qv 2) (aa (qv 3) aj)))) (ax (ax (ax (ax bj)))))))
    (am (pF rfl (CScope.of (osc:=defScope s__law_machine_by) (N:=bG) (tN:=["_law_state"]) (capN:=["_law_cell"]) (caps:=[0]) rfl rfl (by decide +kernel)) sc__law_machine_by.nd rfl rfl (kM (by rfl) t.nb_range (aa (aH bN (qv 2) (qv 3)) aj)) (by decide) (λcl C s3 H3 fp=>(aB iL rfl (.inl rfl))) (λcl C s3 H3 fp=>(Bx (bT (kE J) (aH DH (aH Gz (aH bh (aH gK (qv 1) aw) aw) (qv 0)) aw) aw (aY _)))) (λcl C s3 H3 fp=>(qv 0)))
    (aD (aQ (cc (aa (aH bN (qv 2) (qv 3)) (aa (s_ (by rfl) J (qv 7) (by rfl) t.nb_sorted (by decide +kernel) (by rfl) t.nb_set (by decide +kernel)) (aa (qv 8) aj)))))))))))
theorem vJ (t:Tx K mg):FnOk P w K mg base (qB P w) 1 t.f_d t.fd_d P__law_far (qK mg 4 iz):=
 gZ t.h_d.fu sc__law_far λcdv A outer s H E J=>
  have L:=J.units
  (am (bL sc__law_far.nd rfl (.inl rfl) (fw ol (by rfl) t.nb_list (by decide +kernel) (aa (aL (pv 0)) aj)))
    (am (bL sc__law_far.nd rfl (.inl rfl) (qv 1))
    (am (Dy AO rfl (kM (by rfl) t.nb_range (aa (aH bN aw (aH bh (qv 2) aw)) aj)) (aB sc__law_far.nd rfl (.inl rfl)) (am (Dv (pv 4) (cc (aa (qv 5) (aa (aH bh (aH gK (qv 2) (aH bN (qv 6) aw)) (qv 3)) (aa (aH bN (aL (pv 0)) (qv 6)) aj)))))
    (aD (bL sc__law_far.nd rfl (.inl rfl) (aH bN (aL (pv 0)) (qv 6))))))
    (aD (aQ (cc (aa (aH bN (qv 5) aw) (aa (aR pL (by rfl) t.nb_sorted (by decide +kernel) (aa (qv 4) aj)) (aa (aH bN (aL (pv 0)) (ik (aa (qv 5) aj))) aj)))))))))
theorem oe (t:Tx K mg):FnOk P w K mg base (qB P w) 1 t.f_e t.fd_e P__law_rule_by (qK mg 3 cZ):=
 gZ t.h_e.fu sc__law_rule_by λcdv A outer s H E J=>
  have L:=J.units
  (am (bL sc__law_rule_by.nd rfl (.inl rfl) (aH bh (aH px (qv 0) aw) aw))
    (am (dz (aR dt (by rfl) t.nb_divmod (by decide +kernel) (aa (qv 3) (aa aw aj))) (cD rfl (aG (aB sc__law_rule_by.nd rfl (.inl rfl)) (aG (aB sc__law_rule_by.nd rfl (.inl rfl)) bY (λ_ a _ b=>ay a b)) (λ_ a _ b=>ay a b))))
    (am (dz (aR dt (by rfl) t.nb_divmod (by decide +kernel) (aa (qv 3) (aa aw aj))) (cD rfl (aG (aB sc__law_rule_by.nd rfl (.inl rfl)) (aG (aB sc__law_rule_by.nd rfl (.inl rfl)) bY (λ_ a _ b=>ay a b)) (λ_ a _ b=>ay a b))))
    (am (dz (aR dt (by rfl) t.nb_divmod (by decide +kernel) (aa (qv 3) (aa aw aj))) (cD rfl (aG (aB sc__law_rule_by.nd rfl (.inl rfl)) (aG (aB sc__law_rule_by.nd rfl (.inl rfl)) bY (λ_ a _ b=>ay a b)) (λ_ a _ b=>ay a b))))
    (am (dz (aR dt (by rfl) t.nb_divmod (by decide +kernel) (aa (qv 3) (aa aw aj))) (cD rfl (aG (aB sc__law_rule_by.nd rfl (.inl rfl)) (aG (aB sc__law_rule_by.nd rfl (.inl rfl)) bY (λ_ a _ b=>ay a b)) (λ_ a _ b=>ay a b))))
    (am (dz (aR dt (by rfl) t.nb_divmod (by decide +kernel) (aa (qv 3) (aa aw aj))) (cD rfl (aG (aB sc__law_rule_by.nd rfl (.inl rfl)) (aG (aB sc__law_rule_by.nd rfl (.inl rfl)) bY (λ_ a _ b=>ay a b)) (λ_ a _ b=>ay a b))))
    (am (bL sc__law_rule_by.nd rfl (.inl rfl) (ik (aa (aH bh (qv 8) (qv 2)) (aa (aH bh (qv 3) (qv 2)) aj))))
    (aD (aQ (cc (aa (aH bh (qv 5) (qv 1)) (aa (aH bh (qv 6) (qv 2)) (aa (aH bh (qv 7) (qv 1)) (aa (fw BI (by rfl) t.nb_tuple (by decide +kernel) (aa (lF (qv 9) uI (gY (qv 4))) aj)) aj))))))))))))))
theorem og (t:Tx K mg):FnOk P w K mg base (qB P w) 3 t.f_f t.fd_f P__law_made_by (qK mg 2 bQ):=
 gZ t.h_f.fu sc__law_made_by λcdv A outer s H E J=>
  have L:=J.units
  (am (g8 sc__law_made_by.nd rfl (.inl rfl) (bo (iH t) (J.mono (by decide)) (by rfl) t.h_a cg (aa (qv 0) (aa aw aj)) (ax (ax bj))))
    (am (g8 sc__law_made_by.nd rfl (.inl rfl) (bo (iH t) (J.mono (by decide)) (by rfl) t.h_a cg (aa (qv 0) (aa aw aj)) (ax (ax bj))))
    (am (bL sc__law_made_by.nd rfl (.inr rfl) (aH bN aw (aH bh (qv 2) aw)))
    (am (bL sc__law_made_by.nd rfl (.inr rfl) (aH bN aw (aH bh (aH gK (qv 2) aw) aw)))
    (am (bL sc__law_made_by.nd rfl (.inl rfl) (aH bh (aH gK (qv 2) aw) aw))
    (am (bL sc__law_made_by.nd rfl (.inl rfl) (aH px (aH bh (qv 3) aw) (fw Gq (by rfl) t.nb_int (by decide +kernel) (aa (ie (HI) (qv 6) aw (aY _)) aj))))
    (am (g8 sc__law_made_by.nd rfl (.inl rfl) (bo (k7 t) (J.mono (by decide)) (by rfl) t.h_c cg (aa (qv 3) (aa (lF (qv 0) (gY aw) (gY (aH bN aw (qv 7)))) (aa (qv 4) (aa (qv 6) (aa (qv 5) aj))))) (ax (ax (ax (ax (ax bj)))))))
    (am (ce (PWD.pt (x8 (bT (kE L) (aH bh (aH gK (qv 2) aw) aw) aw (aY _)) (uD (bT (pz) (aH bh (aH gK (qv 3) aw) aw) aw (aY _))))) (aD (g8 sc__law_made_by.nd rfl (.inl rfl) (bo (vJ t) (J.mono (by decide)) (by rfl) t.h_d cg (aa (qv 8) (aa (aH bh (qv 3) (qv 4)) (aa (aH gK (qv 3) aw) (aa (qv 5) aj)))) (ax (ax (ax (ax bj))))))) aZ)
    (am (pF rfl (CScope.of (osc:=defScope s__law_made_by) (N:=fS) (tN:=["_law_cell"]) (capN:=["_law_rooms", "_law_signs"]) (caps:=[4,5]) rfl rfl (by decide +kernel)) sc__law_made_by.nd rfl rfl (kg (lF (qv 0) (gY (aH bN aw (qv 7))) (gY (aH bN (aH bN aw (qv 7)) (qv 1))))) (by decide) (λcl C s3 H3 fp=>(aB kY rfl (.inl rfl))) (λcl C s3 H3 fp=>fJ) (λcl C s3 H3 fp=>(bo (oe t) (J.mono (by decide)) (by rfl) t.h_e BB (aa (qv 0) (aa (qv 1) (aa (qv 2) aj))) (ax (ax (ax bj))))))
    (aD (aQ (cc (aa (cc (aa (qv 4) (aa (qv 5) (aa (qv 9) aj)))) (aa (qv 8) aj))))))))))))))
theorem tR (t:Tx K mg):FnOk P w K mg base (qB P w) 1 t.f_g t.fd_g P__law_copy (qK mg 2 gI):=
 gZ t.h_g.fu tQ λcdv A outer s H E J=>
  have L:=J.units
  (aD (aQ (ik (aa (cc (aa (aL (pv 0)) (aa (aL (pv 0)) (aa (fw ol (by rfl) t.nb_list (by decide +kernel) (aa (aL (pv 0)) aj)) aj)))) (aa (Ib (aL (pv 1)) (fw ol (by rfl) t.nb_list (by decide +kernel) (aa (aL (pv 1)) aj)) (fw ol (by rfl) t.nb_list (by decide +kernel) (aa (aL (pv 1)) aj))) aj)))))
theorem vK (t:Tx K mg):FnOk P w K mg base (qB P w) 1 t.f_h t.fd_h P_is_plain (qK mg 2 iA):=
 gZ t.h_h.fu vH λcdv A outer s H E J=>
  have L:=J.units
  (aD (aQ (aR (wU (by rfl)) (by rfl) t.nb_all (by decide +kernel) (aa (lE rfl (CScope.of (osc:=defScope s_is_plain) (N:=kZ) (tN:=["arrow"]) (capN:=["house"]) (caps:=[0]) rfl rfl (by decide +kernel)) (kg (aL (pv 1))) (by decide) (λcl C s3 H3 fp=>(aB p_ rfl (.inl rfl))) (λcl C s3 H3 fp=>fJ) (λcl C s3 H3 fp=>(ie (HJ) (aL (pv 0)) (aL (pv 1)) (aY _)))) aj))))
theorem iC (t:Tx K mg):FnOk P w K mg base (qB P w) 2 t.f_i t.fd_i P_refuse_unless_plain (qK mg 2 bC):=
 gZ t.h_i.fu iB λcdv A outer s H E J=>
  have L:=J.units
  (aD (ce (cn (ii (bo (vK t) (J.mono (by decide)) (by rfl) t.h_h cg (aa (qv 0) (aa (qv 1) aj)) (ax (ax bj))))) (aD (zD t.x_NotPlain (by rfl) (aa Ge aj))) aZ))
theorem IN (t:Tx K mg):FnOk P w K mg base y9 1 t.f_p t.fd_p ["self"] (oz t.CQ):=t.h_p.ok IJ (λ_ _ _ _ h=>uX h) λcdv A outer s H vs Q E J h=>⟨_,aO (iO (pv 0) aJ rfl) (aP (iO (pv 0) AK rfl)),xb t.kQ h⟩
theorem Fe (t:Tx K mg):FnOk P w K mg base y9 1 t.f_q t.fd_q ["self", "price", "thing"] (rR t.CQ):=
 t.h_q.fu.ok IK (λ_ _ _ _ h=>zU h) λcdv A outer s H vs Q E J h=>
  ⟨_,aP (bK (li Me L7 L8 fq (li KY Lh Mg C9 (b_ (pv 0) rfl)
    (ag (AE PySem.F.plainAttrs_int PySem.F.slot_int_bit_length PySem.F.type_int_bit_length DU (oM FM (pv 1) (b_ (pv 0) rfl))) (ag (iP aC) aC))) (ag (cU (ag (pv 1) (ag (pv 2) aC))) aC))),BU t.kQ h rfl⟩
theorem IQ (t:Tx K mg):FnOk P w K mg base y9 1 t.f_r t.fd_r ["self"] (oA t.CQ):=t.h_r.fu.ok IL (λ_ _ _ _ h=>uY h) λcdv A outer s H vs Q E J h=>⟨_,aP (oH (xy xx (cV zW (by rfl) t.nb_len N8 (ag (b_ (pv 0) rfl) aC)) aJ (aY _))),xc t.kQ h⟩
theorem vL (t:Tx K mg):FnOk P w K mg base y9 2 t.f_u t.fd_u ["self", "arrow", "price", "number", "mid"] (f6 t.CP t.CQ):=
 t.h_u.fu.ok sc_PO (λ_ _ _ _ h=>u4 h) λcdv A outer s H vs Q E J h=>
  ⟨_,aO (iN (i:=5) sc_PO.nd rfl (Or.inl rfl) (AM (re J) (b_ (pv 0) rfl) (pv 1) ⟨rfl,rfl,rfl,rfl⟩))
    (aP (qT (PW.pt (Es (h_ GK (pv 5) lY (aY _)) (Am (h_ Eu (pv 2) (bz ix_tup (pv 5) aJ (λ_ _=>rfl)) (aY _)))))
      (aO (C7 (re J) (b_ (pv 0) rfl) (pv 1) (cU (ag (pv 2) (ag (pv 3) (ag (pv 4) aC)))) rfl)
        (aP (bK (eY (b_ (pv 0) rfl) t.kQ.cl t.h_q.me (Fe t) J t.h_q.bi .nil fD (ag (pv 2) (ag (pv 1) aC))))))
      lc)),xg t.kP t.kQ h⟩
theorem Cp:((["price", "thing"]:List Str)++([]:List Str)).Nodup:=by decide +kernel
theorem IR (t:Tx K mg):FnOk P w K mg base y9 2 t.f_s t.fd_s ["self"] (tG t.CQ):=
 t.h_s.fu.ok sc_QT (λ_ _ _ _ h=>xf h) λcdv A outer s H vs Q E J h=>
  ⟨_,aO (iN (i:=1) sc_QT.nd rfl (Or.inl rfl) (uc (b_ (pv 0) rfl) (cV (zV rfl) (by rfl) t.nb_min (by decide +kernel) (ag (AE KY PySem.F.slot_dict_keys PySem.F.type_dict_keys DV (b_ (pv 0) rfl)) aC)) ⟨rfl,rfl,rfl,rfl⟩))
    (aO (iO (pv 0) (cV (z6 rfl) (by rfl) t.nb_min (by decide +kernel) (ag (B8 (tN:=["price", "thing"]) (capN:=[]) (caps:=[]) rfl (CScope.of (osc:=defScope s_QT) (N:=["self", "pile", "price", "thing"]) rfl rfl (by decide +kernel)) (h7 (pv 1))) aC)) rfl)
    (aO (gJ MF rfl (h7 (pv 1)) (hZ rfl (ay (bt (i:=2) sc_QT.nd rfl (Or.inl rfl)) (ay (bt (i:=3) sc_QT.nd rfl (Or.inl rfl)) eV)))
      (aP (bK (eY (pv 0) t.kQ.cl t.h_q.me (Fe t) J t.h_q.bi .nil fD (ag (pv 2) (ag (pv 3) aC))))))
    (aP (oH (uc (b_ (pv 0) rfl) aJ ⟨rfl,rfl,rfl,rfl⟩))))),
    zX t.kQ (λ_ _=>rfl) (z7 rfl (λ_ _ _ _ _=>hZ rfl (ay (bt (i:=0) Cp rfl (Or.inl rfl)) (ay (bt (i:=1) Cp rfl (Or.inl rfl)) eV))) λ_ _ _ _ _=>pv 0) h⟩
theorem IS (t:Tx K mg):FnOk P w K mg base y9 3 t.f_w t.fd_w ["self", "number", "rule", "mid", "price"] (oC t.CP t.CQ):=
 t.h_w.fu.ok sc_PF (λ_ _ _ _ h=>u6 h) λcdv A outer s H vs Q E J h=>
  ⟨_,aO (iN (i:=5) sc_PF.nd rfl (Or.inl rfl) (cU (ag (pv 3) (ag (bz ix_tup (bz ix_tup (pv 2) aJ (λ_ _=>rfl)) aJ (λ_ _=>rfl)) aC))))
    (aO (bK (li Me L7 L8 fq (li KY Lh Mg (o8 J.units) (b_ (pv 0) rfl) (ag (pv 5) (ag (iP aC) aC))) (ag (cU (ag (pv 1) (ag (pv 2) (ag (pv 4) aC)))) aC)))
    (aP (gJ MF rfl (h7 (oU (re J) (b_ (pv 0) rfl) (pv 5) (iP aC) ⟨rfl,rfl,rfl,rfl⟩)) (hZ rfl (ay (bt (i:=6) sc_PF.nd rfl (Or.inl rfl)) (ay (bt (i:=7) sc_PF.nd rfl (Or.inl rfl)) eV)))
      (aP (bK (eY (pv 0) t.kP.cl t.h_u.me (vL t) J t.h_u.bi .nil fD (ag (cU (ag (bz ix_tup (pv 2) aJ (λ_ _=>rfl)) (ag (bz ix_tup (pv 2) aJ (λ_ _=>rfl)) (ag (pv 6) aC))))
        (ag (oM op_add (oM op_add (pv 4) (pv 7)) aJ) (ag (pv 1) (ag (pv 3) aC)))))))))),xh t.kP h⟩
theorem IT (t:Tx K mg):FnOk P w K mg base y9 4 t.f_v t.fd_v ["self", "arrow", "price"] (lK t.CP t.CQ):=
 t.h_v.fu.ok sc_PS (λ_ _ _ _ h=>tL h) λcdv A outer s H vs Q E J h=>
  have L:Room 2 _:=J.mono (by decide)
  ⟨_,aO (iN (i:=3) sc_PS.nd rfl (Or.inl rfl) (cU (ag (bz ix_tup (pv 1) aJ (λ_ _=>rfl)) (ag (bz ix_tup (pv 1) aJ (λ_ _=>rfl)) aC))))
    (aO (bK (li Me L7 L8 fq (li KY Lh Mg (o8 J.units) (b_ (pv 0) rfl) (ag (pv 3) (ag (iP aC) aC))) (ag (cU (ag (bz ix_tup (pv 1) aJ (λ_ _=>rfl)) (ag (pv 2) aC))) aC)))
    (aO (gJ MF rfl (h7 (oU (re J) (b_ (pv 0) rfl) (pv 3) (iP aC) ⟨rfl,rfl,rfl,rfl⟩)) (hZ rfl (ay (bt (i:=4) sc_PS.nd rfl (Or.inl rfl)) (ay (bt (i:=5) sc_PS.nd rfl (Or.inl rfl)) (ay (bt (i:=6) sc_PS.nd rfl (Or.inl rfl)) eV))))
      (aP (bK (eY (pv 0) t.kP.cl t.h_u.me (vL t) L t.h_u.bi .nil fD (ag (cU (ag (bz ix_tup (pv 5) aJ (λ_ _=>rfl)) (ag (bz ix_tup (pv 5) aJ (λ_ _=>rfl)) (ag (bz ix_tup (pv 1) aJ (λ_ _=>rfl)) aC))))
        (ag (oM op_add (oM op_add (pv 6) (pv 2)) aJ) (ag (pv 4) (ag (bz ix_tup (pv 1) aJ (λ_ _=>rfl)) aC))))))))
    (aP (gJ MF rfl (h7 (oU (re J) (b_ (pv 0) rfl) (pv 3) (iP aC) ⟨rfl,rfl,rfl,rfl⟩)) (hZ rfl (ay (bt (i:=4) sc_PS.nd rfl (Or.inl rfl)) (ay (bt (i:=5) sc_PS.nd rfl (Or.inl rfl)) eV)))
      (aP (qT (h_ xx (cV mC (by rfl) t.nb_len N8 (ag (bz ix_tup (pv 5) aJ (λ_ _=>rfl)) aC)) aJ (aY _))
        (aP (bK (eY (pv 0) t.kP.cl t.h_u.me (vL t) L t.h_u.bi .nil fD (ag (cU (ag (bz ix_tup (pv 5) aJ (λ_ _=>rfl)) (ag (bz ix_tup (pv 5) aJ (λ_ _=>rfl)) (ag (bz ix_tup (pv 1) aJ (λ_ _=>rfl)) aC))))
          (ag (oM op_add (pv 2) aJ) (ag (pv 4) (ag lY aC)))))))
        (aP (bK (eY (pv 0) t.kP.cl t.h_w.me (IS t) J t.h_w.bi .nil fD (ag (pv 4) (ag (pv 5) (ag (bz ix_tup (pv 1) aJ (λ_ _=>rfl)) (ag (pv 2) aC))))))))))))),u7 t.kP h⟩
theorem IU (t:Tx K mg):FnOk P w K mg base y9 5 t.f_x t.fd_x ["self"] (yq t.CP t.CQ):=
 t.h_x.fu.ok sc_PA (λ_ _ _ _ h=>zY h) λcdv A outer s H vs Q E J h=>
  ⟨_,aP (Aq MF (An (Fx (oP (b_ (pv 0) rfl) t.kQ.cl t.h_r.me (IQ t) (J.mono (by decide)) t.h_r.bi .nil fD)))
    (aP (gJ MF rfl (h7 (oP (b_ (pv 0) rfl) t.kQ.cl t.h_s.me (IR t) (J.mono (by decide)) t.h_s.bi .nil fD)) (hZ rfl (ay (bt (i:=1) sc_PA.nd rfl (Or.inl rfl)) (ay (bt (i:=2) sc_PA.nd rfl (Or.inl rfl)) eV)))
      (aP (qT (h_ xx (bz ix_tup (xH (re J) (b_ (pv 0) rfl) (pv 2) (λ_ _=>rfl)) aJ (λ_ _=>rfl)) (pv 1) (aY _))
        (aP (bK (eY (pv 0) t.kP.cl t.h_v.me (IT t) J t.h_v.bi .nil fD (ag (pv 2) (ag (pv 1) aC))))) lc))))),BZ t.kP h⟩
theorem lV (t:Tx K mg):FnOk P w K mg base y9 1 t.f_j t.fd_j ["house"] D_:=
 t.h_j.fu.ok sc_rules_by_start (λ_ _ _ _ h=>B0 h) λcdv A outer s H vs Q E J h=>
  ⟨_,aO (iN (i:=1) sc_rules_by_start.nd rfl (Or.inl rfl) lq)
    (aO (gJ MF rfl (yf rfl t.nb_enumerate (ag (bz ix_tup (pv 0) aJ (λ_ _=>rfl)) aC)) (hZ rfl (ay (bt (i:=2) sc_rules_by_start.nd rfl (Or.inl rfl)) (ay (bt (i:=3) sc_rules_by_start.nd rfl (Or.inl rfl)) eV)))
      (aP (qT (h_ Ew (cV mC (by rfl) t.nb_len N8 (ag (bz ix_tup (pv 3) aJ (λ_ _=>rfl)) aC)) aJ (aY _))
        (aP (bK (li Me L7 L8 fq (li KY Lh Mg (o8 J.units) (pv 1)
          (ag (cU (ag (bz ix_tup (pv 3) aJ (λ_ _=>rfl)) (ag (bz ix_tup (bz ix_tup (pv 3) aJ (λ_ _=>rfl)) aJ (λ_ _=>rfl)) aC))) (ag (iP aC) aC))) (ag (cU (ag (pv 2) (ag (pv 3) aC))) aC)))) lc)))
    (aP (oH (pv 1)))),Ea h⟩
theorem IV (t:Tx K mg):FnOk P w K mg base y9 3 t.f_t t.fd_t ["self", "house"] (oE t.CP t.CQ):=
 t.h_t.ok IM (λ_ _ _ _ h=>u9 h) λcdv A outer s H vs Q E J h=>
  ⟨_,aO (iO (pv 0) (rY (lV t) (J.mono (by decide)) rfl t.h_j.gl t.h_j.fu.kp t.h_j.bi .nil fD (ag (pv 1) aC)) rfl)
    (aO (iO (pv 0) lq rfl) (aO (iO (pv 0) (Az t.k_p (IN t) J rfl t.gQ t.b_QI .nil fD) rfl) (aO (iO (pv 0) lq rfl) (aP (iO (pv 0) lq rfl))))),xk t.kP h⟩
theorem Aa (t:Tx K mg):FnOk P w K mg base (qB P w) 6 t.f_k t.fd_k P_prices (qK mg 2 qh):=
 Iq t.h_k.fu sc_prices (λ_ _ _ _ h=>h.1) λcdv A outer s H vs Q E L h=>
  have J:Room 2 _:=L.mono (by decide)
  ⟨_,aO (bK (rY (iC t) (L.mono (by decide)) rfl t.h_i.gl t.h_i.fu.kp t.h_i.bi .nil cg (ag (pv 0) (ag (pv 1) aC))))
    (aO (iN (i:=2) sc_prices.nd rfl (Or.inl rfl) (C0 t.k_t (IV t) (L.mono (by decide)) rfl t.gP t.b_PI .nil fD (ag (pv 0) aC)))
    (aO (gJ AO rfl (h7 (bz ix_tup (pv 1) aJ (λ_ _=>rfl))) (bt (i:=3) sc_prices.nd rfl (Or.inl rfl)) (aP (bK (eY (pv 2) t.kP.cl t.h_u.me (vL t) J t.h_u.bi .nil fD (ag (pv 3) (ag aJ (ag lY (ag lY aC))))))))
    (aO (gJ AO rfl (yf rfl t.nb_enumerate (ag (bz ix_tup (pv 0) aJ (λ_ _=>rfl)) aC)) (hZ rfl (ay (bt (i:=4) sc_prices.nd rfl (Or.inl rfl)) (ay (bt (i:=5) sc_prices.nd rfl (Or.inl rfl)) eV)))
      (aP (qT (h_ xx (cV mC (by rfl) t.nb_len N8 (ag (bz ix_tup (pv 5) aJ (λ_ _=>rfl)) aC)) aJ (aY _))
        (aP (bK (eY (pv 2) t.kP.cl t.h_u.me (vL t) J t.h_u.bi .nil fD (ag (cU (ag (bz ix_tup (pv 5) aJ (λ_ _=>rfl)) (ag (bz ix_tup (pv 5) aJ (λ_ _=>rfl)) (ag (bz ix_tup (pv 5) aJ (λ_ _=>rfl)) aC))))
          (ag aJ (ag (pv 4) (ag lY aC))))))) lc)))
    (aO (bK (oP (pv 2) t.kP.cl t.h_x.me (IU t) L t.h_x.bi .nil fD))
    (aP (oH (b_ (pv 2) rfl))))))),u_ t.kP h⟩
theorem dF (t:Tx K mg):FnOk P w K mg base (qB P w) 1 t.f_l t.fd_l P__law_whole (qK mg 1 bW):=
 gZ t.h_l.fu qR λcdv A outer s H E J=>
  have L:=J.units
  (aD (aQ (wN (pH Bz (by rfl) t.nb_isinstance (by rfl) t.nb_int (by decide +kernel) (qv 0)) (sM (Gj (pH zx (by rfl) t.nb_isinstance (by rfl) t.nb_bool (by decide +kernel) (qv 0)))))))
theorem ql (t:Tx K mg):FnOk P w K mg base (qB P w) 2 t.f_m t.fd_m P__law_formed (qK mg 4 cC):=
 gZ t.h_m.fu qj λcdv A outer s H E J=>
  have L:=J.units
  (am (ce (PWD.pt (ij (cn (ii (pH pG (by rfl) t.nb_isinstance (by rfl) t.nb_tuple (by decide +kernel) (qv 0)))) (ij (bT (rF L) (aR mj (by rfl) t.nb_len (by decide +kernel) (aa (qv 0) aj)) aw (aY _)) (ij (cn (ii (pH pG (by rfl) t.nb_isinstance (by rfl) t.nb_tuple (by decide +kernel) (qv 1)))) (kf (bT (rF L) (aR mj (by rfl) t.nb_len (by decide +kernel) (aa (qv 1) aj)) aw (aY _))))))) (aD (aQ iU)) aZ)
    (am (ce (PWD.pt (ij (cn (ii (aR (wU (by rfl)) (by rfl) t.nb_all (by decide +kernel) (aa (lE rfl (CScope.of (osc:=defScope s__law_formed) (N:=gR) (tN:=["_law_part"]) (capN:=[]) (caps:=[]) rfl rfl (by decide +kernel)) (kg (qv 0)) (by decide) (λcl C s3 H3 fp=>(aB lR rfl (.inl rfl))) (λcl C s3 H3 fp=>fJ) (λcl C s3 H3 fp=>(bo (dF t) (J.mono (by decide)) (by rfl) t.h_l BB (aa (qv 0) aj) (ax bj)))) aj)))) (kf (cn (ii (bo (dF t) (J.mono (by decide)) (by rfl) t.h_l cg (aa (aL (pv 1)) aj) (ax bj))))))) (aD (aQ iU)) aZ)
    (am (ce (PWD.pt (ij (cn (kh (xZ) (pz) aw (aL (pv 0)) (aL (pv 3)))) (ij (cn (kh (xZ) (pz) aw (aL (pv 0)) (aL (pv 2)))) (kf (cn (kh (xZ) (pz) aw (aL (pv 0)) (aL (pv 3)))))))) (aD (aQ iU)) aZ)
    (am (ce (yg (aL (pv 1))) (aD (aQ (wM (aL (pv 1))))) aZ)
    (aD (aQ (wN (bo (dF t) (J.mono (by decide)) (by rfl) t.h_l cg (aa (aL (pv 1)) aj) (ax bj)) (sM (HL (wM (aL (pv 1))) (sM (bo (dF t) (J.mono (by decide)) (by rfl) t.h_l cg (aa (aL (pv 1)) aj) (ax bj))))))))))))
theorem qm (t:Tx K mg):FnOk P w K mg base (qB P w) 1 t.f_n t.fd_n P__law_reason (qK mg 3 bJ):=
 gZ t.h_n.fu sc__law_reason λcdv A outer s H E L=>
  have J:=L.units
  (am (dz (yh J (qv 0) (qv 2) (λ_ _=>rfl)) (cD rfl (aG (aB sc__law_reason.nd rfl (.inl rfl)) (aG (aB sc__law_reason.nd rfl (.inl rfl)) (aG (aB sc__law_reason.nd rfl (.inl rfl)) bY (λ_ a _ b=>ay a b)) (λ_ a _ b=>ay a b)) (λ_ a _ b=>ay a b))))
    (am (ce (cn (kh (xZ) (pz) aw (qv 4) (aR mj (by rfl) t.nb_len (by decide +kernel) (aa (aL (pv 1)) aj)))) (aD (aQ iU)) aZ)
    (am (dz (EH (aL (pv 1)) (qv 4) (λ_ _=>rfl)) (cD rfl (aG (aB sc__law_reason.nd rfl (.inl rfl)) (aG (aB sc__law_reason.nd rfl (.inl rfl)) (aG (aB sc__law_reason.nd rfl (.inl rfl)) (aG (aB sc__law_reason.nd rfl (.inl rfl)) bY (λ_ a _ b=>ay a b)) (λ_ a _ b=>ay a b)) (λ_ a _ b=>ay a b)) (λ_ a _ b=>ay a b))))
    (am (ce (PWD.pt (ij (bT (rF J) (cc (aa (qv 6) (aa (qv 7) aj))) (lF (qv 2) uI (gY aw)) (aY _)) (kf (bT (rF J) (wM (qv 5)) (ie (pz) (aR mj (by rfl) t.nb_len (by decide +kernel) (aa (qv 9) aj)) aw (aY _)) (aY _))))) (aD (aQ iU)) aZ)
    (am (ce (bT (kE J) (qv 9) (cc aj) (aY _)) (aD (aQ (wN (ie (kE J) (qv 8) (aL (pv 2)) (aY _)) (sM (ie (kE J) (qv 3) aw (aY _)))))) aZ)
    (am (bL sc__law_reason.nd rfl (.inl rfl) (ik (aa (cc (aa (qv 8) (aa (aL (pv 9)) (aa (aL (pv 2)) aj)))) aj)))
    (am (ce (bT (kE J) (aR mj (by rfl) t.nb_len (by decide +kernel) (aa (qv 9) aj)) aw (aY _)) (aD (bL sc__law_reason.nd rfl (.inl rfl) (ik (aa (cc (aa (qv 8) (aa (aL (pv 9)) (aa (qv 5) aj)))) (aa (cc (aa (qv 5) (aa (aL (pv 9)) (aa (aL (pv 2)) aj)))) aj))))) aZ)
    (am (ce (cn (ii (aR (wU (by rfl)) (by rfl) t.nb_all (by decide +kernel) (aa (lE rfl (CScope.of (osc:=defScope s__law_reason) (N:=dD) (tN:=["_law_part"]) (capN:=["_law_told"]) (caps:=[0]) rfl rfl (by decide +kernel)) (kg (qv 10)) (by decide) (λcl C s3 H3 fp=>(aB lS rfl (.inl rfl))) (λcl C s3 H3 fp=>fJ) (λcl C s3 H3 fp=>(ie (BF J) (qv 0) (qv 1) (by rfl)))) aj)))) (aD (aQ iU)) aZ)
    (aD (aQ (ie (kE J) (qv 3) (aH bN aw (aR (DN (by rfl)) (by rfl) t.nb_sum (by decide +kernel) (aa (lE rfl (CScope.of (osc:=defScope s__law_reason) (N:=dD) (tN:=["_law_part"]) (capN:=["_law_told"]) (caps:=[0]) rfl rfl (by decide +kernel)) (kg (qv 10)) (by decide) (λcl C s3 H3 fp=>(aB lT rfl (.inl rfl))) (λcl C s3 H3 fp=>fJ) (λcl C s3 H3 fp=>(EH (yh J (qv 1) (qv 0) (λ_ _=>rfl)) aw (λ_ _=>rfl)))) aj))) (aY _))))))))))))
theorem G2 (t:Tx K mg):FnOk P w K mg base (qB P w) 7 t.f_o t.fd_o P_law (qK mg 1 vI):=
 gZ t.h_o.fu sc_law λcdv A outer s H E J=>
  have L:=J.units
  (am (dz (bo (og t) (J.mono (by decide)) (by rfl) t.h_f cg (aa (qv 0) (aa aw aj)) (ax (ax bj))) (cD rfl (aG (aB sc_law.nd rfl (.inl rfl)) (aG (aB sc_law.nd rfl (.inl rfl)) bY (λ_ a _ b=>ay a b)) (λ_ a _ b=>ay a b))))
    (am (g8 sc_law.nd rfl (.inl rfl) (bo (tR t) (J.mono (by decide)) (by rfl) t.h_g cg (aa (qv 1) (aa (qv 2) aj)) (ax (ax bj))))
    (am (g8 sc_law.nd rfl (.inl rfl) (bo (Aa t) (J.mono (by decide)) (by rfl) t.h_k cg (aa (aL (pv 3)) (aa (aL (pv 3)) aj)) (ax (ax bj))))
    (am (ce (PWD.pt (ij (cn (ii (pH zy (by rfl) t.nb_isinstance (by rfl) t.nb_dict (by decide +kernel) (qv 4)))) (kf (bT (rF L) (qv 3) (ik (aa (qv 1) (aa (qv 2) aj))) (aY _))))) (aD (aQ iU)) aZ)
    (am (uQ AO rfl (qv 4) (cD rfl (aG (aB sc_law.nd rfl (.inl rfl)) (aG (aB sc_law.nd rfl (.inl rfl)) bY (λ_ a _ b=>ay a b)) (λ_ a _ b=>ay a b))) (aD (ce (cn (ii (bo (ql t) (J.mono (by decide)) (by rfl) t.h_m cg (aa (qv 5) (aa (qv 6) (aa (qv 1) (aa (qv 2) aj)))) (ax (ax (ax (ax bj))))))) (aD (aQ iU)) aZ)))
    (am (uQ AO rfl (qv 4) (cD rfl (aG (aB sc_law.nd rfl (.inl rfl)) (aG (aB sc_law.nd rfl (.inl rfl)) bY (λ_ a _ b=>ay a b)) (λ_ a _ b=>ay a b))) (am (ce (bT (rF L) (ie (BF L) (qv 5) (aL (pv 2)) (by rfl)) (ie (kE L) (qv 6) (cc (aa aw (aa Bj (aa Bj aj)))) (aY _)) (aY _)) (aD (aQ iU)) aZ)
    (aD (ce (PWD.pt (x8 (bT (zH L) (qv 5) (aL (pv 2)) (by rfl)) (uD (PWD.pt (ij (yg (aL (pv 6))) (kf (cn (ii (bo (qm t) (J.mono (by decide)) (by rfl) t.h_n cg (aa (qv 4) (aa (qv 1) (aa (qv 5) aj))) (ax (ax (ax bj)))))))))))) (aD (aQ iU)) aZ))))
    (aD (aQ iU))))))))
end
theorem JL {Q:List Oq->Prop}{us:List Oq}(J:us.length=0)(h:Q []):Q us:=by
 cases us with
 |nil=>exact h
 |cons a r=>cases J
theorem Cq {Q:List Oq->Prop}{us:List Oq}{n:Nat}(J:us.length=n+1)(h:∀(a:Oq)(r:List Oq),r.length=n->Q (a::r)):Q us:=by
 cases us with
 |nil=>cases J
 |cons a r=>exact h a r (Nat.succ.inj J)
theorem vM {Q:List Oq->Prop}{us:List Oq}(J:us.length=1)(h:∀ L:Oq,Q [L]):Q us:=Cq J λa r q=>JL (Q:=λr=>Q (a::r)) q (h a)
theorem vN {Q:List Oq->Prop}{us:List Oq}(J:us.length=2)(h:∀ L a1:Oq,Q [L,a1]):Q us:=Cq J λa r q=>vM (Q:=λr=>Q (a::r)) q (h a)
theorem Cr {Q:List Oq->Prop}{us:List Oq}(J:us.length=3)(h:∀ L a1 a2:Oq,Q [L,a1,a2]):Q us:=Cq J λa r q=>vN (Q:=λr=>Q (a::r)) q (h a)
theorem Ek {Q:List Oq->Prop}{us:List Oq}(J:us.length=4)(h:∀ L a1 a2 O:Oq,Q [L,a1,a2,O]):Q us:=Cq J λa r q=>Cr (Q:=λr=>Q (a::r)) q (h a)
theorem G3 {Q:List Oq->Prop}{us:List Oq}(J:us.length=5)(h:∀ L a1 a2 O W:Oq,Q [L,a1,a2,O,W]):Q us:=Cq J λa r q=>Ek (Q:=λr=>Q (a::r)) q (h a)
theorem IW {K KK:On}{mg:Str->Option Oq}{h:Heap}(X:K.In h)(G:h.Ns mainGlobals mg)(U:SubK K KK)
 {f_a:Addr} {od_a an_a:Option Addr} {sl_a:Array (Option Oq)} {oc_a kV_a dc_a pm_a cd_a ct_a:Oq}
 (a_a:PySem.W.nsIn K mainGlobals "_law_seed_at"=some (some (.ref f_a))) (l_a:K.lookup f_a=some ⟨oc_a,od_a,.func (PySem.W.fnOf "_law_seed_at" "_law_seed_at" (defArgs s__law_seed_at) (defBody s__law_seed_at) (defScope s__law_seed_at) .none kV_a dc_a pm_a an_a cd_a ct_a),sl_a⟩) (c_a:PySem.W.codeIn K cd_a "_law_seed_at"=true)
 {f_b:Addr} {od_b an_b:Option Addr} {sl_b:Array (Option Oq)} {oc_b kV_b dc_b pm_b cd_b ct_b:Oq}
 (a_b:PySem.W.nsIn K mainGlobals "_law_arrow_by"=some (some (.ref f_b))) (l_b:K.lookup f_b=some ⟨oc_b,od_b,.func (PySem.W.fnOf "_law_arrow_by" "_law_arrow_by" (defArgs s__law_arrow_by) (defBody s__law_arrow_by) (defScope s__law_arrow_by) .none kV_b dc_b pm_b an_b cd_b ct_b),sl_b⟩) (c_b:PySem.W.codeIn K cd_b "_law_arrow_by"=true)
 {f_c:Addr} {od_c an_c:Option Addr} {sl_c:Array (Option Oq)} {oc_c kV_c dc_c pm_c cd_c ct_c:Oq}
 (a_c:PySem.W.nsIn K mainGlobals "_law_machine_by"=some (some (.ref f_c))) (l_c:K.lookup f_c=some ⟨oc_c,od_c,.func (PySem.W.fnOf "_law_machine_by" "_law_machine_by" (defArgs s__law_machine_by) (defBody s__law_machine_by) (defScope s__law_machine_by) .none kV_c dc_c pm_c an_c cd_c ct_c),sl_c⟩) (c_c:PySem.W.codeIn K cd_c "_law_machine_by"=true)
 {f_d:Addr} {od_d an_d:Option Addr} {sl_d:Array (Option Oq)} {oc_d kV_d dc_d pm_d cd_d ct_d:Oq}
 (a_d:PySem.W.nsIn K mainGlobals "_law_far"=some (some (.ref f_d))) (l_d:K.lookup f_d=some ⟨oc_d,od_d,.func (PySem.W.fnOf "_law_far" "_law_far" (defArgs s__law_far) (defBody s__law_far) (defScope s__law_far) .none kV_d dc_d pm_d an_d cd_d ct_d),sl_d⟩) (c_d:PySem.W.codeIn K cd_d "_law_far"=true)
 {f_e:Addr} {od_e an_e:Option Addr} {sl_e:Array (Option Oq)} {oc_e kV_e dc_e pm_e cd_e ct_e:Oq}
 (a_e:PySem.W.nsIn K mainGlobals "_law_rule_by"=some (some (.ref f_e))) (l_e:K.lookup f_e=some ⟨oc_e,od_e,.func (PySem.W.fnOf "_law_rule_by" "_law_rule_by" (defArgs s__law_rule_by) (defBody s__law_rule_by) (defScope s__law_rule_by) .none kV_e dc_e pm_e an_e cd_e ct_e),sl_e⟩) (c_e:PySem.W.codeIn K cd_e "_law_rule_by"=true)
 {f_f:Addr} {od_f an_f:Option Addr} {sl_f:Array (Option Oq)} {oc_f kV_f dc_f pm_f cd_f ct_f:Oq}
 (a_f:PySem.W.nsIn K mainGlobals "_law_made_by"=some (some (.ref f_f))) (l_f:K.lookup f_f=some ⟨oc_f,od_f,.func (PySem.W.fnOf "_law_made_by" "_law_made_by" (defArgs s__law_made_by) (defBody s__law_made_by) (defScope s__law_made_by) .none kV_f dc_f pm_f an_f cd_f ct_f),sl_f⟩) (c_f:PySem.W.codeIn K cd_f "_law_made_by"=true)
 {f_g:Addr} {od_g an_g:Option Addr} {sl_g:Array (Option Oq)} {oc_g kV_g dc_g pm_g cd_g ct_g:Oq}
 (a_g:PySem.W.nsIn K mainGlobals "_law_copy"=some (some (.ref f_g))) (l_g:K.lookup f_g=some ⟨oc_g,od_g,.func (PySem.W.fnOf "_law_copy" "_law_copy" (defArgs s__law_copy) (defBody s__law_copy) (defScope s__law_copy) .none kV_g dc_g pm_g an_g cd_g ct_g),sl_g⟩) (c_g:PySem.W.codeIn K cd_g "_law_copy"=true)
 {f_h:Addr} {od_h an_h:Option Addr} {sl_h:Array (Option Oq)} {oc_h kV_h dc_h pm_h cd_h ct_h:Oq}
 (a_h:PySem.W.nsIn K mainGlobals "is_plain"=some (some (.ref f_h))) (l_h:K.lookup f_h=some ⟨oc_h,od_h,.func (PySem.W.fnOf "is_plain" "is_plain" (defArgs s_is_plain) (defBody s_is_plain) (defScope s_is_plain) .none kV_h dc_h pm_h an_h cd_h ct_h),sl_h⟩) (c_h:PySem.W.codeIn K cd_h "is_plain"=true)
 {f_i:Addr} {od_i an_i:Option Addr} {sl_i:Array (Option Oq)} {oc_i kV_i dc_i pm_i cd_i ct_i:Oq}
 (a_i:PySem.W.nsIn K mainGlobals "refuse_unless_plain"=some (some (.ref f_i))) (l_i:K.lookup f_i=some ⟨oc_i,od_i,.func (PySem.W.fnOf "refuse_unless_plain" "refuse_unless_plain" (defArgs s_refuse_unless_plain) (defBody s_refuse_unless_plain) (defScope s_refuse_unless_plain) .none kV_i dc_i pm_i an_i cd_i ct_i),sl_i⟩) (c_i:PySem.W.codeIn K cd_i "refuse_unless_plain"=true)
 {f_j:Addr} {od_j an_j:Option Addr} {sl_j:Array (Option Oq)} {oc_j kV_j dc_j pm_j cd_j ct_j:Oq}
 (a_j:PySem.W.nsIn K mainGlobals "rules_by_start"=some (some (.ref f_j))) (l_j:K.lookup f_j=some ⟨oc_j,od_j,.func (PySem.W.fnOf "rules_by_start" "rules_by_start" (defArgs s_rules_by_start) (defBody s_rules_by_start) (defScope s_rules_by_start) .none kV_j dc_j pm_j an_j cd_j ct_j),sl_j⟩) (c_j:PySem.W.codeIn K cd_j "rules_by_start"=true)
 {f_k:Addr} {od_k an_k:Option Addr} {sl_k:Array (Option Oq)} {oc_k kV_k dc_k pm_k cd_k ct_k:Oq}
 (a_k:PySem.W.nsIn K mainGlobals "prices"=some (some (.ref f_k))) (l_k:K.lookup f_k=some ⟨oc_k,od_k,.func (PySem.W.fnOf "prices" "prices" (defArgs s_prices) (defBody s_prices) (defScope s_prices) .none kV_k dc_k pm_k an_k cd_k ct_k),sl_k⟩) (c_k:PySem.W.codeIn K cd_k "prices"=true)
 {f_l:Addr} {od_l an_l:Option Addr} {sl_l:Array (Option Oq)} {oc_l kV_l dc_l pm_l cd_l ct_l:Oq}
 (a_l:PySem.W.nsIn K mainGlobals "_law_whole"=some (some (.ref f_l))) (l_l:K.lookup f_l=some ⟨oc_l,od_l,.func (PySem.W.fnOf "_law_whole" "_law_whole" (defArgs s__law_whole) (defBody s__law_whole) (defScope s__law_whole) .none kV_l dc_l pm_l an_l cd_l ct_l),sl_l⟩) (c_l:PySem.W.codeIn K cd_l "_law_whole"=true)
 {f_m:Addr} {od_m an_m:Option Addr} {sl_m:Array (Option Oq)} {oc_m kV_m dc_m pm_m cd_m ct_m:Oq}
 (a_m:PySem.W.nsIn K mainGlobals "_law_formed"=some (some (.ref f_m))) (l_m:K.lookup f_m=some ⟨oc_m,od_m,.func (PySem.W.fnOf "_law_formed" "_law_formed" (defArgs s__law_formed) (defBody s__law_formed) (defScope s__law_formed) .none kV_m dc_m pm_m an_m cd_m ct_m),sl_m⟩) (c_m:PySem.W.codeIn K cd_m "_law_formed"=true)
 {f_n:Addr} {od_n an_n:Option Addr} {sl_n:Array (Option Oq)} {oc_n kV_n dc_n pm_n cd_n ct_n:Oq}
 (a_n:PySem.W.nsIn K mainGlobals "_law_reason"=some (some (.ref f_n))) (l_n:K.lookup f_n=some ⟨oc_n,od_n,.func (PySem.W.fnOf "_law_reason" "_law_reason" (defArgs s__law_reason) (defBody s__law_reason) (defScope s__law_reason) .none kV_n dc_n pm_n an_n cd_n ct_n),sl_n⟩) (c_n:PySem.W.codeIn K cd_n "_law_reason"=true)
 {f_o:Addr} {od_o an_o:Option Addr} {sl_o:Array (Option Oq)} {oc_o kV_o dc_o pm_o cd_o ct_o:Oq}
 (a_o:PySem.W.nsIn K mainGlobals "law"=some (some (.ref f_o))) (l_o:K.lookup f_o=some ⟨oc_o,od_o,.func (PySem.W.fnOf "law" "law" (defArgs s_law) (defBody s_law) (defScope s_law) .none kV_o dc_o pm_o an_o cd_o ct_o),sl_o⟩) (c_o:PySem.W.codeIn K cd_o "law"=true)
 (z_all:PySem.W.nsIn K mainGlobals "all"=some none)
 (z_bool:PySem.W.nsIn K mainGlobals "bool"=some none)
 (z_dict:PySem.W.nsIn K mainGlobals "dict"=some none)
 (z_divmod:PySem.W.nsIn K mainGlobals "divmod"=some none)
 (O:PySem.W.nsIn K mainGlobals "enumerate"=some none)
 (z_int:PySem.W.nsIn K mainGlobals "int"=some none)
 (L:PySem.W.nsIn K mainGlobals "isinstance"=some none)
 (z_len:PySem.W.nsIn K mainGlobals "len"=some none)
 (z_list:PySem.W.nsIn K mainGlobals "list"=some none)
 (z_min:PySem.W.nsIn K mainGlobals "min"=some none)
 (z_range:PySem.W.nsIn K mainGlobals "range"=some none)
 (z_set:PySem.W.nsIn K mainGlobals "set"=some none)
 (z_sorted:PySem.W.nsIn K mainGlobals "sorted"=some none)
 (z_sum:PySem.W.nsIn K mainGlobals "sum"=some none)
 (z_tuple:PySem.W.nsIn K mainGlobals "tuple"=some none)
 {C_NotPlain:Addr} (b_NotPlain:PySem.W.nsIn K mainGlobals "NotPlain"=some (some (.ref C_NotPlain))) (e_NotPlain:PySem.W.excIn K C_NotPlain vMro "ValueError.__new__"=true)
 {CQ:Addr} (b_Queue:PySem.W.nsIn K mainGlobals "Queue"=some (some (.ref CQ))) (pgQ:PySem.W.plainGet KK CQ Str.empty=true) (hdQ:PySem.W.hasDictIn KK CQ=true) (poQ:PySem.W.plainOver KK CQ=true) (saQ:PySem.W.findIn KK (.ref CQ) "__setattr__"=some (some (.builtin "object.__setattr__"))) (mkQ:PySem.W.makesIn KK CQ=true) (kcQ:PySem.W.keepIn KK (.ref CQ)=true)
 (naQ_last:PySem.W.findIn KK (.ref CQ) "last"=some none)
 (naQ_piles:PySem.W.findIn KK (.ref CQ) "piles"=some none)
 {CP:Addr} (b_Pricing:PySem.W.nsIn K mainGlobals "Pricing"=some (some (.ref CP))) (pgP:PySem.W.plainGet KK CP Str.empty=true) (hdP:PySem.W.hasDictIn KK CP=true) (poP:PySem.W.plainOver KK CP=true) (saP:PySem.W.findIn KK (.ref CP) "__setattr__"=some (some (.builtin "object.__setattr__"))) (mkP:PySem.W.makesIn KK CP=true) (kcP:PySem.W.keepIn KK (.ref CP)=true)
 (naP_rules:PySem.W.findIn KK (.ref CP) "rules"=some none)
 (naP_told:PySem.W.findIn KK (.ref CP) "told"=some none)
 (naP_offers:PySem.W.findIn KK (.ref CP) "offers"=some none)
 (Y:PySem.W.findIn KK (.ref CP) "settled"=some none)
 (Z:PySem.W.findIn KK (.ref CP) "lacking"=some none)
 {f_p:Addr} {od_p an_p:Option Addr} {sl_p:Array (Option Oq)} {oc_p kV_p dc_p pm_p cd_p ct_p:Oq}
 (aM_QI:PySem.W.findIn KK (.ref CQ) "__init__"=some (some (.ref f_p))) (iM_QI:PySem.W.isFn KK (.ref f_p)=true) (l_p:KK.lookup f_p=some ⟨oc_p,od_p,.func (PySem.W.fnOf "__init__" "Queue.__init__" (defArgs s_QI) (defBody s_QI) (defScope s_QI) .none kV_p dc_p pm_p an_p cd_p ct_p),sl_p⟩) (c_p:PySem.W.codeIn KK cd_p "Queue.__init__"=true) (kp_QI:PySem.W.keepIn KK (.ref f_p)=true)
 {f_q:Addr} {od_q an_q:Option Addr} {sl_q:Array (Option Oq)} {oc_q kV_q dc_q pm_q cd_q ct_q:Oq}
 (aM_QA:PySem.W.findIn KK (.ref CQ) "add"=some (some (.ref f_q))) (iM_QA:PySem.W.isFn KK (.ref f_q)=true) (l_q:KK.lookup f_q=some ⟨oc_q,od_q,.func (PySem.W.fnOf "add" "Queue.add" (defArgs s_QA) (defBody s_QA) (defScope s_QA) .none kV_q dc_q pm_q an_q cd_q ct_q),sl_q⟩) (c_q:PySem.W.codeIn KK cd_q "Queue.add"=true) (kp_QA:PySem.W.keepIn KK (.ref f_q)=true)
 {f_r:Addr} {od_r an_r:Option Addr} {sl_r:Array (Option Oq)} {oc_r kV_r dc_r pm_r cd_r ct_r:Oq}
 (aM_QE:PySem.W.findIn KK (.ref CQ) "is_empty"=some (some (.ref f_r))) (iM_QE:PySem.W.isFn KK (.ref f_r)=true) (l_r:KK.lookup f_r=some ⟨oc_r,od_r,.func (PySem.W.fnOf "is_empty" "Queue.is_empty" (defArgs s_QE) (defBody s_QE) (defScope s_QE) .none kV_r dc_r pm_r an_r cd_r ct_r),sl_r⟩) (c_r:PySem.W.codeIn KK cd_r "Queue.is_empty"=true) (kp_QE:PySem.W.keepIn KK (.ref f_r)=true)
 {f_s:Addr} {od_s an_s:Option Addr} {sl_s:Array (Option Oq)} {oc_s kV_s dc_s pm_s cd_s ct_s:Oq}
 (aM_QT:PySem.W.findIn KK (.ref CQ) "take_lowest"=some (some (.ref f_s))) (iM_QT:PySem.W.isFn KK (.ref f_s)=true) (l_s:KK.lookup f_s=some ⟨oc_s,od_s,.func (PySem.W.fnOf "take_lowest" "Queue.take_lowest" (defArgs s_QT) (defBody s_QT) (defScope s_QT) .none kV_s dc_s pm_s an_s cd_s ct_s),sl_s⟩) (c_s:PySem.W.codeIn KK cd_s "Queue.take_lowest"=true) (kp_QT:PySem.W.keepIn KK (.ref f_s)=true)
 {f_t:Addr} {od_t an_t:Option Addr} {sl_t:Array (Option Oq)} {oc_t kV_t dc_t pm_t cd_t ct_t:Oq}
 (aM_PI:PySem.W.findIn KK (.ref CP) "__init__"=some (some (.ref f_t))) (iM_PI:PySem.W.isFn KK (.ref f_t)=true) (l_t:KK.lookup f_t=some ⟨oc_t,od_t,.func (PySem.W.fnOf "__init__" "Pricing.__init__" (defArgs s_PI) (defBody s_PI) (defScope s_PI) .none kV_t dc_t pm_t an_t cd_t ct_t),sl_t⟩) (c_t:PySem.W.codeIn KK cd_t "Pricing.__init__"=true) (kp_PI:PySem.W.keepIn KK (.ref f_t)=true)
 {f_u:Addr} {od_u an_u:Option Addr} {sl_u:Array (Option Oq)} {oc_u kV_u dc_u pm_u cd_u ct_u:Oq}
 (aM_PO:PySem.W.findIn KK (.ref CP) "offer"=some (some (.ref f_u))) (iM_PO:PySem.W.isFn KK (.ref f_u)=true) (l_u:KK.lookup f_u=some ⟨oc_u,od_u,.func (PySem.W.fnOf "offer" "Pricing.offer" (defArgs s_PO) (defBody s_PO) (defScope s_PO) .none kV_u dc_u pm_u an_u cd_u ct_u),sl_u⟩) (c_u:PySem.W.codeIn KK cd_u "Pricing.offer"=true) (kp_PO:PySem.W.keepIn KK (.ref f_u)=true)
 {f_v:Addr} {od_v an_v:Option Addr} {sl_v:Array (Option Oq)} {oc_v kV_v dc_v pm_v cd_v ct_v:Oq}
 (aM_PS:PySem.W.findIn KK (.ref CP) "settle"=some (some (.ref f_v))) (iM_PS:PySem.W.isFn KK (.ref f_v)=true) (l_v:KK.lookup f_v=some ⟨oc_v,od_v,.func (PySem.W.fnOf "settle" "Pricing.settle" (defArgs s_PS) (defBody s_PS) (defScope s_PS) .none kV_v dc_v pm_v an_v cd_v ct_v),sl_v⟩) (c_v:PySem.W.codeIn KK cd_v "Pricing.settle"=true) (kp_PS:PySem.W.keepIn KK (.ref f_v)=true)
 {f_w:Addr} {od_w an_w:Option Addr} {sl_w:Array (Option Oq)} {oc_w kV_w dc_w pm_w cd_w ct_w:Oq}
 (aM_PF:PySem.W.findIn KK (.ref CP) "settle_first"=some (some (.ref f_w))) (iM_PF:PySem.W.isFn KK (.ref f_w)=true) (l_w:KK.lookup f_w=some ⟨oc_w,od_w,.func (PySem.W.fnOf "settle_first" "Pricing.settle_first" (defArgs s_PF) (defBody s_PF) (defScope s_PF) .none kV_w dc_w pm_w an_w cd_w ct_w),sl_w⟩) (c_w:PySem.W.codeIn KK cd_w "Pricing.settle_first"=true) (kp_PF:PySem.W.keepIn KK (.ref f_w)=true)
 {f_x:Addr} {od_x an_x:Option Addr} {sl_x:Array (Option Oq)} {oc_x kV_x dc_x pm_x cd_x ct_x:Oq}
 (aM_PA:PySem.W.findIn KK (.ref CP) "settle_all"=some (some (.ref f_x))) (iM_PA:PySem.W.isFn KK (.ref f_x)=true) (l_x:KK.lookup f_x=some ⟨oc_x,od_x,.func (PySem.W.fnOf "settle_all" "Pricing.settle_all" (defArgs s_PA) (defBody s_PA) (defScope s_PA) .none kV_x dc_x pm_x an_x cd_x ct_x),sl_x⟩) (c_x:PySem.W.codeIn KK cd_x "Pricing.settle_all"=true) (kp_PA:PySem.W.keepIn KK (.ref f_x)=true)
 : ∃ t:Tx KK mg,t.f_o=f_o:=
 ⟨⟨f_a,_,cK (st:=s__law_seed_at) (ps:=P__law_seed_at) U l_a c_a (KZ X G a_a) λ_ _ _ _ _ _ us J=>vN (Q:=λus=>bindArgs _ ⟨us,[]⟩=pure (List.zip P__law_seed_at us)) J λ_ _=>rfl,
   f_b,_,cK (st:=s__law_arrow_by) (ps:=P__law_arrow_by) U l_b c_b (KZ X G a_b) λ_ _ _ _ _ _ us J=>Ek (Q:=λus=>bindArgs _ ⟨us,[]⟩=pure (List.zip P__law_arrow_by us)) J λ_ _ _ _=>rfl,
   f_c,_,cK (st:=s__law_machine_by) (ps:=P__law_machine_by) U l_c c_c (KZ X G a_c) λ_ _ _ _ _ _ us J=>G3 (Q:=λus=>bindArgs _ ⟨us,[]⟩=pure (List.zip P__law_machine_by us)) J λ_ _ _ _ _=>rfl,
   f_d,_,cK (st:=s__law_far) (ps:=P__law_far) U l_d c_d (KZ X G a_d) λ_ _ _ _ _ _ us J=>Ek (Q:=λus=>bindArgs _ ⟨us,[]⟩=pure (List.zip P__law_far us)) J λ_ _ _ _=>rfl,
   f_e,_,cK (st:=s__law_rule_by) (ps:=P__law_rule_by) U l_e c_e (KZ X G a_e) λ_ _ _ _ _ _ us J=>Cr (Q:=λus=>bindArgs _ ⟨us,[]⟩=pure (List.zip P__law_rule_by us)) J λ_ _ _=>rfl,
   f_f,_,cK (st:=s__law_made_by) (ps:=P__law_made_by) U l_f c_f (KZ X G a_f) λ_ _ _ _ _ _ us J=>vN (Q:=λus=>bindArgs _ ⟨us,[]⟩=pure (List.zip P__law_made_by us)) J λ_ _=>rfl,
   f_g,_,cK (st:=s__law_copy) (ps:=P__law_copy) U l_g c_g (KZ X G a_g) λ_ _ _ _ _ _ us J=>vN (Q:=λus=>bindArgs _ ⟨us,[]⟩=pure (List.zip P__law_copy us)) J λ_ _=>rfl,
   f_h,_,cK (st:=s_is_plain) (ps:=P_is_plain) U l_h c_h (KZ X G a_h) λ_ _ _ _ _ _ us J=>vN (Q:=λus=>bindArgs _ ⟨us,[]⟩=pure (List.zip P_is_plain us)) J λ_ _=>rfl,
   f_i,_,cK (st:=s_refuse_unless_plain) (ps:=P_refuse_unless_plain) U l_i c_i (KZ X G a_i) λ_ _ _ _ _ _ us J=>vN (Q:=λus=>bindArgs _ ⟨us,[]⟩=pure (List.zip P_refuse_unless_plain us)) J λ_ _=>rfl,
   f_j,_,cK (st:=s_rules_by_start) (ps:=P_rules_by_start) U l_j c_j (KZ X G a_j) λ_ _ _ _ _ _ us J=>vM (Q:=λus=>bindArgs _ ⟨us,[]⟩=pure (List.zip P_rules_by_start us)) J λ_=>rfl,
   f_k,_,cK (st:=s_prices) (ps:=P_prices) U l_k c_k (KZ X G a_k) λ_ _ _ _ _ _ us J=>vN (Q:=λus=>bindArgs _ ⟨us,[]⟩=pure (List.zip P_prices us)) J λ_ _=>rfl,
   f_l,_,cK (st:=s__law_whole) (ps:=P__law_whole) U l_l c_l (KZ X G a_l) λ_ _ _ _ _ _ us J=>vM (Q:=λus=>bindArgs _ ⟨us,[]⟩=pure (List.zip P__law_whole us)) J λ_=>rfl,
   f_m,_,cK (st:=s__law_formed) (ps:=P__law_formed) U l_m c_m (KZ X G a_m) λ_ _ _ _ _ _ us J=>Ek (Q:=λus=>bindArgs _ ⟨us,[]⟩=pure (List.zip P__law_formed us)) J λ_ _ _ _=>rfl,
   f_n,_,cK (st:=s__law_reason) (ps:=P__law_reason) U l_n c_n (KZ X G a_n) λ_ _ _ _ _ _ us J=>Cr (Q:=λus=>bindArgs _ ⟨us,[]⟩=pure (List.zip P__law_reason us)) J λ_ _ _=>rfl,
   f_o,_,cK (st:=s_law) (ps:=P_law) U l_o c_o (KZ X G a_o) λ_ _ _ _ _ _ us J=>vM (Q:=λus=>bindArgs _ ⟨us,[]⟩=pure (List.zip P_law us)) J λ_=>rfl,
   KH X G z_all,
   KH X G z_bool,
   KH X G z_dict,
   KH X G z_divmod,
   KH X G O,
   KH X G z_int,
   KH X G L,
   KH X G z_len,
   KH X G z_list,
   KH X G z_min,
   KH X G z_range,
   KH X G z_set,
   KH X G z_sorted,
   KH X G z_sum,
   KH X G z_tuple,
   C_NotPlain,⟨KZ X G b_NotPlain,(U.exc e_NotPlain).1⟩,
   CQ,⟨⟨pgQ,hdQ,poQ,saQ⟩,naQ_last,naQ_piles⟩,KZ X G b_Queue,
   CP,⟨⟨pgP,hdP,poP,saP⟩,naP_rules,naP_told,naP_offers,Y,Z⟩,KZ X G b_Pricing,
   f_p,_,l_ (st:=s_QI) l_p c_p kp_QI,(l_ (st:=s_QI) l_p c_p kp_QI).binds (ps:=["self"]) (λ_ _ _ _ _ _ us J=>vM (Q:=λus=>bindArgs _ ⟨us,[]⟩=pure (List.zip (["self"]:List Str) us)) J λ_=>rfl),⟨mkQ,aM_QI,iM_QI,kcQ⟩,
   f_q,_,pU (st:=s_QA) (ps:=["self", "price", "thing"]) l_q c_q kp_QA aM_QA iM_QA (λ_ _ _ _ _ _ us J=>Cr (Q:=λus=>bindArgs _ ⟨us,[]⟩=pure (List.zip (["self", "price", "thing"]:List Str) us)) J λ_ _ _=>rfl),
   f_r,_,pU (st:=s_QE) (ps:=["self"]) l_r c_r kp_QE aM_QE iM_QE (λ_ _ _ _ _ _ us J=>vM (Q:=λus=>bindArgs _ ⟨us,[]⟩=pure (List.zip (["self"]:List Str) us)) J λ_=>rfl),
   f_s,_,pU (st:=s_QT) (ps:=["self"]) l_s c_s kp_QT aM_QT iM_QT (λ_ _ _ _ _ _ us J=>vM (Q:=λus=>bindArgs _ ⟨us,[]⟩=pure (List.zip (["self"]:List Str) us)) J λ_=>rfl),
   f_t,_,l_ (st:=s_PI) l_t c_t kp_PI,(l_ (st:=s_PI) l_t c_t kp_PI).binds (ps:=["self", "house"]) (λ_ _ _ _ _ _ us J=>vN (Q:=λus=>bindArgs _ ⟨us,[]⟩=pure (List.zip (["self", "house"]:List Str) us)) J λ_ _=>rfl),⟨mkP,aM_PI,iM_PI,kcP⟩,
   f_u,_,pU (st:=s_PO) (ps:=["self", "arrow", "price", "number", "mid"]) l_u c_u kp_PO aM_PO iM_PO (λ_ _ _ _ _ _ us J=>G3 (Q:=λus=>bindArgs _ ⟨us,[]⟩=pure (List.zip (["self", "arrow", "price", "number", "mid"]:List Str) us)) J λ_ _ _ _ _=>rfl),
   f_v,_,pU (st:=s_PS) (ps:=["self", "arrow", "price"]) l_v c_v kp_PS aM_PS iM_PS (λ_ _ _ _ _ _ us J=>Cr (Q:=λus=>bindArgs _ ⟨us,[]⟩=pure (List.zip (["self", "arrow", "price"]:List Str) us)) J λ_ _ _=>rfl),
   f_w,_,pU (st:=s_PF) (ps:=["self", "number", "rule", "mid", "price"]) l_w c_w kp_PF aM_PF iM_PF (λ_ _ _ _ _ _ us J=>G3 (Q:=λus=>bindArgs _ ⟨us,[]⟩=pure (List.zip (["self", "number", "rule", "mid", "price"]:List Str) us)) J λ_ _ _ _ _=>rfl),
   f_x,_,pU (st:=s_PA) (ps:=["self"]) l_x c_x kp_PA aM_PA iM_PA (λ_ _ _ _ _ _ us J=>vM (Q:=λus=>bindArgs _ ⟨us,[]⟩=pure (List.zip (["self"]:List Str) us)) J λ_=>rfl)⟩,rfl⟩
theorem G4 {l:PySem.W.OpenLaw} {w:World} {K:On} {mg:Str->Option Oq} {O:Addr} (J:mg "law"=some (.ref O)) (T:∃ t:Tx K mg,True) :
 ∃ fd:FuncData,(∀(s:Om)(v:Oq),BindsTo s fd ⟨[v],[]⟩ [("_law_script",v)])/\∀ base:Heap,FnOk l.prog w K mg base (qB l.prog w) 7 O fd ["_law_script"] (Jd vI):=by
 obtain⟨t,_⟩:=T;have e:=J.symm.trans t.h_o.gl;cases e;obtain⟨oc,od,kV,doc,pm,an,cdv,ct,osl,L,lk,Y⟩:=t.h_o.fu.ex;exact⟨t.fd_o,λs v=>by rw[L];exact .of_eq rfl,λbase=>FnOk.top (G2 t)⟩
end W
namespace L3
open PySem L2
theorem G5 (f:En->Res R)(asg:D->Bool->En->Option En)(J:En->Res Fl)(env:En):yj f asg J env=(f env).bind (uP asg J env):=(rfl)
theorem vP {x y:Int}{f g:Bool}{al bl:List Nat}(h:0<y)(h2:y<1073741824):dB [.val (.int x) f al,.val (.int y) g bl]=.ok (.val (.tup [.int (x / y),.int (x % y)]) true []):=Ka ⟨h,h2⟩
theorem qo (f:En->Res R)(env:En):Bm f env=(f env).bind λJ=>.ok (.val (.bl J.d.isNon) true []):=(rfl)
theorem lW (k1 k2:R->R->Res R)(J L O:En->Res R)(env:En):kN k1 k2 J L O env=(J env).bind λY=>(L env).bind λW=>(k1 Y W).bind (HZ k2 O env W):=(rfl)
theorem qp {k2:R->R->Res R}{J:En->Res R}{env:En}{L:R}{f:Bool}{al:List Nat}:HZ k2 J env L (.val (.bl true) f al)=(J env).bind λO=>k2 L O:=(rfl)
theorem Cs {ds:List D}{f:Bool}:sX [.new ds f]=.ok (mkV (.tup ds) f []):=(rfl)
theorem xn {b:Bool}{f:Bool}{al:List Nat}:DD [.val (.bl b) f al]=.ok (.val (.int (if b then 1 else 0)) true []):=(rfl)
theorem Ct {ns:List Int}{r:R}(J:r.d=.lst (ns.map .int)):pN [r]=.ok (.val (.int ns.sum) true []):=by unfold pN;dsimp only;rw[J];dsimp only;rw[mE]
theorem yF {i j:Nat}{env:En}{a b:D}{f:Bool}(hi:i<env.length)(J:j<env.length):vz (gT 2 (av (gN i) (av (gN j) bn))) env (.val (.tup [a,b]) f [])=.ok (.nx ((env.set i (some (.val a f))).set j (some (.val b f)))):=by refine tP ?_;show(av (gN i) (av (gN j) bn)) [a,b] f env=_;rw[cY,pV hi];show(av (gN j) bn) [b] f _=_;rw[cY,pV (by rw[KP];exact J)];rfl
theorem tS {i j k l:Nat}{env:En}{a b c d:D}{f:Bool}(hi:i<env.length)(J:j<env.length)(L:k<env.length)(O:l<env.length):vz (gT 4 (av (gN i) (av (gN j) (av (gN k) (av (gN l) bn))))) env (.val (.tup [a,b,c,d]) f [])=.ok (.nx ((((env.set i (some (.val a f))).set j (some (.val b f))).set k (some (.val c f))).set l (some (.val d f)))):=by refine tP ?_;show(av (gN i) (av (gN j) (av (gN k) (av (gN l) bn)))) [a,b,c,d] f env=_;rw[cY,pV hi];show(av (gN j) (av (gN k) (av (gN l) bn))) [b,c,d] f _=_;rw[cY,pV (by rw[KP];exact J)];show(av (gN k) (av (gN l) bn)) [c,d] f _=_;rw[cY,pV (by rw[KP,KP];exact L)];show(av (gN l) bn) [d] f _=_;rw[cY,pV (by rw[KP,KP,KP];exact O)];rfl
theorem yG (k:List Int):∀ l,(qN k l).length<=l.length+1
 | []=>by simp[qN]
 |h::t=>by
  have:=yG k t;unfold qN;split
  .simp
  .split<;>simp<;>lia
theorem vQ:∀ ks,(dH ks).length<=ks.length
 | []=>J6 _
 |k::r=>by have h1:=yG k (dH r);have h2:=vQ r;unfold dH;simp only[Kl];lia
theorem IX {r:R}{ks:List (List Int)}(J:r.d=.lst (ks.map mq))(h:ks.length<=63)(hn:ks.all (λk=>!k.isEmpty)=true)(nd:ks.Nodup):EL [r]=.ok (.new ((dH ks).map mq) true):=by unfold EL DM;dsimp only;rw[J];dsimp only;rw[mF];dsimp only;rw[Ka (by rw[hn,Ki h,Ki nd];rfl)]
end L3
namespace W
open PySem L2 L3 L4
noncomputable abbrev vv (d:D)(f:Bool):Option Sl:=some (.val d f)
noncomputable abbrev ow (d:List D)(f:Bool):Option Sl:=some (.own d f)
noncomputable def sd (ns:List Int)(k:Int):Int:=((if k<ns.length then (atI ns k).getD 0 else 0) % 2147483647+11)*48271*69621 % 2147483629
theorem Ff (ns:List Int)(k:Int):0<=sd ns k:=by unfold sd;lia
theorem yH (ns:List Int)(k:Int)(h0:0<=k):bP [.lst (ns.map .int),.int k]=.ok (.val (.int (sd ns k)) true []):=by
 by_cases h:k<ns.length
 .have hd:decide (k<(ns.length:Int))=true:=Ki h;obtain⟨a,J,_⟩:=G0 h0 h;have ha:atI (ns.map D.int) k=some (.int a):=by rw[Ej,J];rfl
  simp_arith[bP,fR,J9,hd,ha];unfold sd;rw[Ka h,J];rfl
 .have hd:decide (k<(ns.length:Int))=false:=Kv h;simp_arith[bP,fR,J9,hd];unfold sd;rw[J_ h]
theorem bR (t:Pz.Arr):(aF t).flat=true:=(rfl)
theorem qq (t:Pz.Arr):(aF t).dep<=1:=J6 _
theorem iD (r:Pz.Rule):(cr r).flat=true:=by unfold cr;simp only[b6,aT,bO,bV,b9,LK]
theorem Ab (r:Pz.Rule):(cr r).dep<=2:=by have:=rU r.2.2.2;unfold cr;simp only[cF,bc,cE,bF];lia
noncomputable def Fg (c ro sg:Int):Pz.Rule:=
 let n:=c*48271 % 2147483647
 (n / 3 % 6 % ro,n / 3 / 6 % 60 % sg,n / 3 / 6 / 60 % 6 % ro,cJ [n / 3 / 6 / 60 / 6 % 60 % sg,n / 3 / 6 / 60 / 6 / 60 % sg] none (some (n % 3)))
theorem El (c ro sg:Int)(h1:0<ro)(J:0<sg):cZ [.int c,.int ro,.int sg]=.ok (.val (cr (Fg c ro sg)) true []):=by have hc:∀ a b:Int,∀ k:Option Int,cJ [D.int a,D.int b] none k=(cJ [a,b] none k).map D.int:=λa b k=>lM D.int [a,b] none k;simp_arith[cZ,kc,h1,J,vP,yF,hc,bV,Cs];rfl
structure RR (ro sg:Int) (r:Pz.Rule):Prop where
 a:0<=r.1/\r.1<ro
 s:0<=r.2.1/\r.2.1<sg
 t:0<=r.2.2.1/\r.2.2.1<ro
 p:r.2.2.2.length<=2
 q:∀ x∈r.2.2.2,0<=x/\x<sg
theorem G6 (c ro sg:Int)(h1:0<ro)(J:0<sg):RR ro sg (Fg c ro sg):=
 have e:∀ a b:Int,0<b->0<=a % b/\a % b<b:=λa b h=>⟨LY _ (by lia),Ly _ h⟩
 ⟨e _ _ h1,e _ _ J,e _ _ h1,Ck _ _ _,λx L=>by
   have:=Cm _ _ _ x L;rcases Kb.mp this with h|h
   .rw[h];exact e _ _ J
   .rw[Km.mp h];exact e _ _ J⟩
noncomputable def Ac (c ro own sg:Int):Pz.Arr:=
 let n:=c*69621 % 2147483629
 (n % 60 % (ro+own),n / 60 % 60 % sg,ro+n / 60 / 60 % own)
theorem Cu (c ro own sg:Int)(h1:0<ro)(h2:0<own)(J:0<sg):cH [.int c,.int ro,.int own,.int sg]=.ok (.val (aF (Ac c ro own sg)) true []):=by
 have a1:0<ro+own:=by lia
 simp_arith[cH,iG,a1,h2,J,vP,yF];rfl
theorem G7 (c ro own sg:Int)(h1:0<ro)(h2:0<own)(J:0<sg):0<=(Ac c ro own sg).1/\(Ac c ro own sg).1<ro+own/\0<=(Ac c ro own sg).2.1/\(Ac c ro own sg).2.1<sg/\ro<=(Ac c ro own sg).2.2/\(Ac c ro own sg).2.2<ro+own:=by unfold Ac;have a:=LY (c*69621 % 2147483629 / 60 / 60) (show own≠0 by lia);have b:=Ly (c*69621 % 2147483629 / 60 / 60) h2;refine⟨LY _ (by lia),Ly _ (by lia),LY _ (by lia),Ly _ J,?_,?_⟩<;>(simp only[];lia)
noncomputable def Mc (n:Int)(ts:List Pz.Arr)(es:List Int):D:=.tup [.int n,.lst (ts.map aF),.lst (es.map .int)]
theorem kr (n:Int)(ts:List Pz.Arr)(es:List Int):(Mc n ts es).flat=false:=by unfold Mc;simp only[b6,aT,bO,cB,Md,Lo]
end W
namespace L3
open PySem L2
theorem IY {r:R}{ks:List (List Int)}(J:r.d=.lst (ks.map mq))(h:ks.length<=63)(hn:ks.all (λk=>!k.isEmpty)=true):EK r=.ok (.new ((dH ks).map mq) true):=by unfold EK DI;rw[J];dsimp only;rw[mF];dsimp only;rw[Ka (by rw[hn,Ki (show(List.map mq ks).length<=63 by rw[J9];exact h)];rfl)]
end L3
namespace W
open PySem L2 L3 L4
noncomputable def Fh:List Int->Pz.Arr
 | [a,b,c]=>(a,b,c)
 |_=>(0,0,0)
noncomputable def vR (t:Pz.Arr):List Int:=[t.1,t.2.1,t.2.2]
noncomputable def db (ts:List Pz.Arr):List Pz.Arr:=(dH (ts.map vR)).map Fh
theorem qu (ts:List Pz.Arr):(db ts).length<=ts.length:=by have:=vQ (ts.map vR);unfold db;rw[J9];rw[J9]at this;exact this
theorem yI (ts:List Pz.Arr):(dH (ts.map vR)).map mq=(db ts).map aF:=by unfold db;rw[KM];refine Ln λk J=>?_;obtain⟨t,_,rfl⟩:=Kg.mp ((dI k _).mp J);rfl
theorem fT (t:Pz.Arr):Fh (vR t)=t:=(rfl)
theorem qw (ts:List Pz.Arr)(t:Pz.Arr):t∈db ts↔t∈ts:=by
 unfold db;constructor
 .intro h;obtain⟨l,J,rfl⟩:=Kg.mp h;obtain⟨u,L,rfl⟩:=Kg.mp ((dI l _).mp J);rw[fT];exact L
 .intro h;exact Kg.mpr ⟨vR t,(dI _ _).mpr (Kg.mpr ⟨t,h,rfl⟩),rfl⟩
theorem hV {α β:Type}(f:α->β):∀{l:List α},l.Nodup->(∀ a∈l,∀ b∈l,f a=f b->a=b)->(l.map f).Nodup
 | [],_,_=>by simp
 |a::r,h,hi=>by have h':=KB.mp h;rw[Kc,KB];refine⟨λhm=>?_,hV f h'.2 λx L y O=>hi x (by simp[L]) y (by simp[O])⟩;obtain⟨b,J,e⟩:=Kg.mp hm;exact h'.1 (hi b (by simp[J]) a (by simp) e▸J)
theorem k8 (ts:List Pz.Arr):(db ts).Nodup:=by
 unfold db;refine hV _ ((om _).imp λ{a b} h e=>?_) λa ha b J e=>?_
 .subst e;rw[ib]at h;cases h
 .obtain⟨u,_,rfl⟩:=Kg.mp ((dI a _).mp ha);obtain⟨v,_,rfl⟩:=Kg.mp ((dI b _).mp J);rw[fT,fT]at e;rw[e]
theorem xo (ts:List Pz.Arr)(h:ts.length<=63){r:R}(J:r.d=.lst (ts.map aF)):EK r=.ok (.new ((db ts).map aF) true):=by
 have e:r.d=.lst ((ts.map vR).map mq):=by rw[J,KM];rfl
 rw[IY e (by rw[J9];exact h) (by rw[List.all_map,Ld];intro t _;rfl),yI]
theorem Cv (ts:List Pz.Arr)(h:ts.length<=63)(nd:ts.Nodup){r:R}(J:r.d=.lst (ts.map aF)):EL [r]=.ok (.new ((db ts).map aF) true):=by
 have e:r.d=.lst ((ts.map vR).map mq):=by rw[J,KM];rfl
 rw[IX e (by rw[J9];exact h) (by rw[List.all_map,Ld];intro t _;rfl) (hV vR nd λa _ b _ e=>by rw[<- fT a,e,fT]),yI]
structure PM (ro sg n:Int) (ts:List Pz.Arr) (es:List Int):Prop where
 rn:ro<=n
 n25:n<=ro+22
 arr:∀ t∈ts,0<=t.1/\t.1<n/\0<=t.2.1/\t.2.1<sg/\ro<=t.2.2/\t.2.2<n
 lt:ts.length<=29
 nd:ts.Nodup
 ends:∀ e∈es,0<=e/\e<n
 le:es.length<=6
noncomputable def rl (ro:Int)(k:Nat):Pz.Arr:=(ro,(k:Int),ro)
noncomputable def Fi (bits:Int)(k:Nat):Bool:=Builtin.bitAnd (bits / 2 ^ ((k:Int)).toNat) 1==1
noncomputable def iE (bits:Int)(n:Nat):List Int:=((List.range n).filter (Fi bits)).map λk=>((k:Nat):Int)
theorem Cw (bits:Int)(n:Nat):(iE bits n).length<=n:=by unfold iE;rw[J9];exact Ku (List.length_filter_le _ _) (by rw[Lr];exact J6 _)
theorem Em (bits:Int)(n:Nat):∀ e∈iE bits n,0<=e/\e<n:=λe J=>by unfold iE at J;obtain⟨k,L,rfl⟩:=Kg.mp J;have:=KA.mp (Lc.mp L).1;lia
section
variable {e0 e1 e2 e3 e4 e5 e6 e7 e8:Option Sl}{g1 g2 g3 g4 fr:Bool}
theorem JM {ro:Int}(n:Nat)(hn:n<=1000000):jR 1 [2] (gN 0) (λ_=>.ok true) bp [e0,e1,vv (.int ro) g1,e3,e4,e5,e6,e7,e8] ⟨eR 0 n,fr,[]⟩=.ok (.new (((List.range n).map (rl ro)).map aF) true):=by have h:=cP (mk:=λd=>gN 0 d fr (gL [e0,e1,vv (.int ro) g1,e3,e4,e5,e6,e7,e8] 1 [2])) (test:=λ_=>.ok true) (elt:=bp) (λk:Nat=>D.int k) (λk:Nat=>.val (aF (rl ro k)) true []) (List.range n) λk J=>⟨_,rfl,rfl,by show bp [vv (.int (k:Nat)) fr,vv (.int ro) g1]=_;simp_arith[bp];rfl⟩;rw[oF,gu (by rw[J9,Lr];exact hn) h,nX,eJ,cw (aV _ _ λc=>rfl),KM];rfl
theorem JN {ro own sg:Int}(h1:0<ro)(h2:0<own)(J:0<sg)(xs:List Int)(L:xs.length<=1000000):jR 1 [2,3,4] (gN 0) (λ_=>.ok true) aW [e0,e1,vv (.int ro) g1,vv (.int own) g2,vv (.int sg) g3,e5,e6,e7,e8] ⟨xs.map .int,fr,[]⟩=.ok (.new ((xs.map λc=>Ac c ro own sg).map aF) true):=by have h:=cP (mk:=λd=>gN 0 d fr (gL [e0,e1,vv (.int ro) g1,vv (.int own) g2,vv (.int sg) g3,e5,e6,e7,e8] 1 [2,3,4])) (test:=λ_=>.ok true) (elt:=aW) D.int (λc=>.val (aF (Ac c ro own sg)) true []) xs λc hc=>⟨_,rfl,rfl,by show aW [vv (.int c) fr,vv (.int ro) g1,vv (.int own) g2,vv (.int sg) g3]=_;simp_arith[aW,Cu c ro own sg h1 h2 J,bR]⟩;rw[gu (by rw[J9];exact L) h,nX,eJ,cw (aV _ _ λc=>rfl),KM];rfl
theorem IZ {c:Int}(n:Nat)(hn:n<=1000000):jR 1 [0] (gN 0) bq br [vv (.int c) g1,e1,e2,e3,e4,e5,e6,e7,e8] ⟨eR 0 n,fr,[]⟩=.ok (.new ((iE (c / 10 % 32) n).map .int) true):=by
 have h:=lL (mk:=λd=>gN 0 d fr (gL [vv (.int c) g1,e1,e2,e3,e4,e5,e6,e7,e8] 1 [0])) (test:=bq) (elt:=br) (λk:Nat=>D.int k) (Fi (c / 10 % 32)) (λk=>.val (.int k) true []) (List.range n) λk L=>⟨_,rfl,by
  show bq [vv (.int (k:Nat)) fr,vv (.int c) g1]=_;have J:(0:Int)<=((k:Nat):Int):=by lia
  simp_arith[bq,J,mD];rfl,λ_=>by
  show br [vv (.int (k:Nat)) fr,vv (.int c) g1]=_;simp_arith[br]⟩
 rw[oF,gu (by rw[J9,Lr];exact hn) h,nX,eJ,cw (aV _ _ λc=>rfl)];unfold iE;rw[KM];rfl
end
theorem I0 (c:Int)(hc:0<=c)(xs:List Int)(hx:xs.length<=9)(ro own sg:Int)(h1:0<ro)(h1b:ro<=3)(h2:0<=own)(h2b:own<=2)(h0:own=0->xs=[])(h3:0<sg)(h3b:sg<=5) :
 ∃ n ts es al,PM ro sg n ts es/\(c / 320 % 4<2->ts.length<=9/\es.length<=5/\n<=ro+2)/\aU [.int c,.lst (xs.map .int),.int ro,.int own,.int sg]=.ok (.val (Mc n ts es) true al):=by
 have hfl:D.flats (List.map D.int xs)=true:=bV _;generalize hf:c / 320 % 4=W;have em:∀ a b:Int,0<b->0<=a % b/\a % b<b:=λa b h=>⟨LY _ (by lia),Ly _ h⟩;have s1:-4611686018427387904<=sg:=by lia
 have s2:sg<4611686018427387904:=by lia
 have m1:-4611686018427387904<=ro+own:=by lia
 have m2:ro+own<4611686018427387904:=by lia
 by_cases f2:W=2
 .have Y:(W==2)=true:=L1.mpr f2;generalize hA:c / 1280 % ro=a;generalize hB:c / 7680 % sg=b;have ha:0<=a/\a<ro:=by rw[<- hA];exact em _ _ h1
  have hb:0<=b/\b<sg:=by rw[<- hB];exact em _ _ h3
  have nd:((a,b,ro)::(List.range sg.toNat).map (rl ro)).Nodup:=by
   rw[KB];refine⟨λh=>?_,hV _ Mp λx _ y _ e=>?_⟩
   .obtain⟨k,_,e⟩:=Kg.mp h;have:ro=a:=LQ (λt:Pz.Arr=>t.1) e;lia
   .have:(x:Int)=(y:Int):=LQ (λt:Pz.Arr=>t.2.1) e;lia
  have hl:((a,b,ro)::(List.range sg.toNat).map (rl ro)).length<=6:=by simp;lia
  have al:=qu ((a,b,ro)::(List.range sg.toNat).map (rl ro));refine⟨ro+1,db ((a,b,ro)::(List.range sg.toNat).map (rl ro)),[ro],?_,⟨by lia,by lia,λt J=>?_,by lia,k8 _,λe Z=>?_,by simp⟩,λh=>by lia,?_⟩
  rotate_left
  .rcases Kb.mp ((qw _ t).mp J) with rfl|h
   .simp only[];lia
   .obtain⟨k,L,rfl⟩:=Kg.mp h;have:=KA.mp L;unfold rl;simp only[];lia
  .rw[Km]at Z;lia
  .have O:∀ f,EL [.new (D.tup [.int a,.int b,.int ro]::((List.range sg.toNat).map (rl ro)).map aF) f]=.ok (.new ((db ((a,b,ro)::(List.range sg.toNat).map (rl ro))).map aF) true):=λf=>Cv ((a,b,ro)::(List.range sg.toNat).map (rl ro)) (by lia) nd (cq _ f);have fl:D.flats (((List.range sg.toNat).map (rl ro)).map aF)=true:=aV _ _ bR;have hln:[D.tup [.int a,.int b,.int ro]].length+(((List.range sg.toNat).map (rl ro)).map aF).length<=1000000:=by simp;lia
   simp_arith[aU,bH,hf,mD,Y,h1,h3,hA,hB,yw,s1,s2,JM sg.toNat (show sg.toNat<=1000000 by lia),B_ hln,fl,O];rfl
 .have Y:(W==2)=false:=Li.mpr f2;by_cases f3:W=3
  .have d3:(W==3)=true:=L1.mpr f3;refine⟨ro,[],(List.range ro.toNat).map λk=>((k:Nat):Int),?_,⟨by lia,by lia,λt J=>(nomatch J),by simp,KI,λe Z=>?_,by simp;lia⟩,λh=>by lia,?_⟩
   rotate_left
   .obtain⟨k,L,rfl⟩:=Kg.mp Z;have:=KA.mp L;lia
   .have h0:0<=ro:=by lia
    have hr:ro<=1000:=by lia
    simp_arith[aU,bH,hf,mD,Y,d3,Ci h0 hr,oF];unfold Mc;rw[KM];rfl
  .have d3:(W==3)=false:=Li.mpr f3;have hel:=Cw (c / 10 % 32) (ro+own).toNat;have ends:∀ e∈iE (c / 10 % 32) (ro+own).toNat,0<=e/\e<ro+own:=λe Z=>by have:=Em _ _ e Z;lia
   have hn:(ro+own).toNat<=1000000:=by lia
   by_cases ho:own=0
   .have L:∀ f al,EK (.val (.lst []) f al)=.ok (.new [] true):=λf al=>xo [] (by simp) (cG _ f al);have O:∀ f,EK (.new [] f)=.ok (.new [] true):=λf=>xo [] (by simp) (cq _ f);refine⟨ro+own,[],iE (c / 10 % 32) (ro+own).toNat,?_,⟨by lia,by lia,λt J=>(nomatch J),by simp,KI,ends,by lia⟩,λ_=>⟨by simp,by lia,by lia⟩,?_⟩
    rotate_left
    .have hcm:∀(env:En)(fr:Bool),jR 1 [2,3,4] (gN 0) (λ_=>.ok true) aW env ⟨[],fr,[]⟩=.ok (.new [] true):=λ_ _=>rfl;rw[h0 ho];simp_arith[aU,bH,hf,mD,Y,d3,hcm,L,O,IZ (c:=c) (ro+own).toNat hn,yw,m1,m2,bV];rfl
   .have ho':0<own:=by lia
    have al:=qu (xs.map λc=>Ac c ro own sg);rw[J9]at al;refine⟨ro+own,db (xs.map λc=>Ac c ro own sg),iE (c / 10 % 32) (ro+own).toNat,?_,⟨by lia,by lia,λt J=>?_,by lia,k8 _,ends,by lia⟩,λ_=>⟨by lia,by lia,by lia⟩,?_⟩
    rotate_left
    .obtain⟨x,_,rfl⟩:=Kg.mp ((qw _ t).mp J);exact G7 x ro own sg h1 ho' h3
    .have L:∀ f al,EK (.val (.lst ((xs.map λc=>Ac c ro own sg).map aF)) f al)=_:=λf al=>xo _ (by rw[J9];lia) (cG _ f al);simp_arith[aU,bH,hf,mD,Y,d3,hfl,JN h1 ho' h3 xs (show xs.length<=1000000 by lia),L,IZ (c:=c) (ro+own).toNat hn,yw,m1,m2,bV];rfl
noncomputable def tT (s n:Int)(k:Nat):Int:=if k=0 then s else n+((k:Nat):Int)-1
noncomputable def xq (s n num g:Int)(k:Nat):Pz.Arr:=(tT s n k,num / (((k:Nat):Int)+2) % g,n+((k:Nat):Int))
theorem Cy {n s num g:Int}{ts0 ts:List Pz.Arr}{es:List Int}(m:Nat)(hm:m<=20)(Y:ts.length<=30){g0 fr:Bool}{e6:Option Sl}(Z:0<g)(h4:g<=5) :
 ∃ J,io (gN 6) fr fj ((List.range m).map λk=>.int (k:Nat)) [vv (Mc n ts0 es) false,vv (.int s) false,vv (.int num) false,vv (.int g) false,ow (ts.map aF) true,vv (.int s) g0,e6]=.ok (.nx J)/\
  ∃ g1 e,J=[vv (Mc n ts0 es) false,vv (.int s) false,vv (.int num) false,vv (.int g) false,ow ((ts++(List.range m).map (xq s n num g)).map aF) true,vv (.int (tT s n m)) g1,e]:=by
 obtain⟨J,h1,h2⟩:=yy (λk:Nat=>D.int (k:Nat)) (asg:=gN 6) (fr:=fr) (body:=fj) (List.range m) (λpre env=>∃ g1 e,env=[vv (Mc n ts0 es) false,vv (.int s) false,vv (.int num) false,vv (.int g) false,ow ((ts++(List.range pre.length).map (xq s n num g)).map aF) true,vv (.int (tT s n pre.length)) g1,e]) (List.range m) [] [vv (Mc n ts0 es) false,vv (.int s) false,vv (.int num) false,vv (.int g) false,ow (ts.map aF) true,vv (.int s) g0,e6] rfl ⟨g0,e6,by simp[tT]⟩ (by
  rintro pre post k env W ⟨g1,e,rfl⟩;have L:pre.length<m:=by have:=LQ List.length W;simp at this;lia
  have O:k=pre.length:=by have:=LQ (λl:List Nat=>l[pre.length]?) W;rw[KJ (J6 _),Nat.sub_self,Lb,NZ L]at this;exact(Kx this).symm
  have bw:((ts++(List.range pre.length).map (xq s n num g)).map aF).length<1000000:=by simp;lia
  refine⟨[vv (Mc n ts0 es) false,vv (.int s) false,vv (.int num) false,vv (.int g) false,ow ((ts++(List.range pre.length).map (xq s n num g)).map aF) true,vv (.int (tT s n pre.length)) g1,vv (.int (k:Nat)) fr],
   [vv (Mc n ts0 es) false,vv (.int s) false,vv (.int num) false,vv (.int g) false,ow ((ts++(List.range (pre++[k]).length).map (xq s n num g)).map aF) true,vv (.int (tT s n (pre++[k]).length)) true,vv (.int (k:Nat)) fr],rfl,?_,true,_,rfl⟩
  have e1:((ts++(List.range (pre++[k]).length).map (xq s n num g)).map aF)=((ts++(List.range pre.length).map (xq s n num g)).map aF)++[.tup [.int (tT s n k),.int (num / (((k:Nat):Int)+2) % g),.int (n+((k:Nat):Int))]]:=by rw[Kp,show[k].length=1 from rfl,List.range_succ,Ll (f:=xq s n num g),<- Mj,Ll (l₁:=ts++_),<- O];rfl
  have e2:tT s n (pre++[k]).length=n+((k:Nat):Int):=by rw[Kp,<- O,show[k].length=1 from rfl];unfold tT;rw[J_ (by lia)];lia
  have hkm:k<m:=by lia
  rw[e1,e2,<- O]at *;have a1:(0:Int)<((k:Nat):Int)+2:=by lia
  have a2:((k:Nat):Int)+2<1073741824:=by lia
  have a3:g<1073741824:=by lia
  simp_arith[fj,Mc,GX bw,a1,a2,Z,a3])
 refine⟨J,h1,?_⟩;rw[Lr]at h2;exact h2
theorem G8 {ro sg n s num:Int}{ts:List Pz.Arr}{es:List Int}(P:PM ro sg n ts es)(lt:ts.length<=9)(le:es.length<=5)(hn:n<=ro+2)(h0:0<=s)(h1:s<ro)(g0:0<sg)(m:Nat)(Y:1<=m)(Z:m<=20) :
 PM ro sg (n+(m:Int)) (db (ts++(List.range m).map (xq s n num sg))) (es++[tT s n m])/\(ts++(List.range m).map (xq s n num sg)).Nodup:=by
 have ra:=P.rn;have mem:∀ t,t∈(List.range m).map (xq s n num sg)->∃ k:Nat,k<m/\t.1=tT s n k/\t.2.1=num / (((k:Nat):Int)+2) % sg/\t.2.2=n+((k:Nat):Int):=λt J=>by obtain⟨k,L,rfl⟩:=Kg.mp J;exact⟨k,KA.mp L,rfl,rfl,rfl⟩
 have sl:=qu (ts++(List.range m).map (xq s n num sg));rw[Kp,J9,Lr]at sl;refine⟨⟨by lia,by lia,λt J=>?_,by lia,k8 _,λe O=>?_,by simp;lia⟩,?_⟩
 .rcases Kr.mp ((qw _ t).mp J) with h|h
  .have:=P.arr t h;lia
  .obtain⟨k,L,e1,e2,e3⟩:=mem t h;have a1:=LY (num / (((k:Nat):Int)+2)) (show sg≠0 by lia);have a2:=Ly (num / (((k:Nat):Int)+2)) g0;unfold tT at e1;split at e1<;>lia
 .rcases Kr.mp O with h|h
  .have:=P.ends e h;lia
  .rw[Km]at h;subst h;unfold tT;rw[J_ (by lia)];lia
 .rw[Mi];refine⟨P.nd,hV _ Mp λa _ b _ e=>?_,λa ha b W e=>?_⟩
  .have:n+((a:Nat):Int)=n+((b:Nat):Int):=LQ (λt:Pz.Arr=>t.2.2) e;lia
  .subst e;have:=P.arr a ha;obtain⟨k,L,e1,e2,e3⟩:=mem a W;lia
theorem G9 {ro sg n s num:Int}{ts:List Pz.Arr}{es:List Int}(P:PM ro sg n ts es)(lt:ts.length<=9)(le:es.length<=5)(hn:n<=ro+2)(h0:0<=s)(h1:s<ro)(g0:0<sg)(g1:sg<=5) :
 ∃ O J es' al,PM ro sg O J es'/\iz [Mc n ts es,.int s,.int num,.int sg]=.ok (.val (Mc O J es') true al):=by
 have c0:=LY num (show(12:Int)≠0 by lia);have c1:=Ly num (show(0:Int)<12 by lia);generalize hm:(9+num % 12).toNat=m;have L:9+num % 12=(m:Int):=by lia
 obtain⟨pm,nd⟩:=G8 (num:=num) P lt le hn h0 h1 g0 m (by lia) (by lia);obtain⟨bf,hf,g,e,rfl⟩:=Cy (n:=n) (s:=s) (num:=num) (ts0:=ts) (es:=es) (ts:=ts) m (by lia) (by lia) (g0:=true) (fr:=true) (e6:=none) g0 g1;have W:∀ f al,EL [.val (.lst ((ts++(List.range m).map (xq s n num sg)).map aF)) f al]=_:=λf al=>Cv (ts++(List.range m).map (xq s n num sg)) (by simp;lia) nd (cG _ f al);have Y:-4611686018427387904<=(m:Int):=by lia
 have Z:(m:Int)<4611686018427387904:=by lia
 have mt:((m:Nat):Int).toNat=m:=rfl;have fl:D.flats (ts.map aF)=true:=aV _ _ bR;have en:tT s n m+1=n+(m:Int):=by unfold tT;rw[J_ (by lia)];lia
 have hl:(es.map D.int).length+[D.int (tT s n m)].length<=1000000:=by simp;lia
 have ee:(es++[tT s n m]).map D.int=es.map D.int++[.int (tT s n m)]:=by rw[Ll];rfl
 have fe:D.flats (es.map D.int++[.int (tT s n m)])=true:=vG λd hd=>by
  rcases Kr.mp hd with h|h
  .obtain⟨x,_,rfl⟩:=Kg.mp h;rfl
  .rw[Km]at h;subst h;rfl
 generalize ts++(List.range m).map (xq s n num sg)=T at hf W pm;refine⟨_,_,_,?_,pm,?_⟩
 rotate_left
 .unfold Mc at hf ⊢;rw[ee];simp_arith[iz,pZ,fl,L,yw,Y,Z,mt,oF,hf,W,en,B_ hl,fe];rfl
noncomputable def Hs (ro sg:Int)(RL:List Pz.Rule):D:=.tup [.int ro,.int sg,.lst (RL.map cr)]
theorem Cz {ro sg:Int}{e0 e1 e2 e3 e6 e7 e8 e9:Option Sl}{g4 J fr:Bool}(h1:0<ro)(L:0<sg)(xs:List Int)(O:xs.length<=1000000):jR 1 [4,5] (gN 0) (λ_=>.ok true) bv [e0,e1,e2,e3,vv (.int ro) g4,vv (.int sg) J,e6,e7,e8,e9] ⟨xs.map .int,fr,[]⟩=.ok (.new ((xs.map λc=>Fg c ro sg).map cr) true):=by have h:=cP (mk:=λd=>gN 0 d fr (gL [e0,e1,e2,e3,vv (.int ro) g4,vv (.int sg) J,e6,e7,e8,e9] 1 [4,5])) (test:=λ_=>.ok true) (elt:=bv) D.int (λc=>.val (cr (Fg c ro sg)) true []) xs λc hc=>⟨_,rfl,rfl,by show bv [vv (.int c) fr,vv (.int ro) g4,vv (.int sg) J]=_;simp_arith[bv,El c ro sg h1 L,iD]⟩;rw[gu (by rw[J9];exact O) h,nX,eJ,cw (aV _ _ λc=>iD _),KM];rfl
theorem yJ {α:Type}(xs:List α)(a b:Int)(ha:0<=a)(J:0<=b):(cJ xs (some a) (some (a+b))).length<=b.toNat:=by
 unfold cJ;rw[LP,MM];have e1:HT.sIx xs.length 0 (some a)=min a.toNat xs.length:=by have:=HT.sIx_nat xs.length 0 a.toNat;rw[Int.toNat_of_nonneg ha]at this;exact this
 have e2:HT.sIx xs.length xs.length (some (a+b))=min (a+b).toNat xs.length:=by have:=HT.sIx_nat xs.length xs.length (a+b).toNat;rw[Int.toNat_of_nonneg (by lia)]at this;exact this
 rw[e1,e2];lia
theorem Eo (ns:List Int)(hl:ns.length<=63)(most:Int)(hm:0<=most)(hm2:most<=60) :
 ∃ ro sg RL n ts es al,0<ro/\ro<=3/\0<sg/\sg<=5/\(∀ r∈RL,RR ro sg r)/\RL.length<=most.toNat/\PM ro sg n ts es/\bQ [.lst (ns.map .int),.int most]=.ok (.val (.tup [Hs ro sg RL,Mc n ts es]) true al):=by
 have q0:=Ff ns 0;have q1:=Ff ns 1;have k0:=yH ns 0 (by decide);have k1:=yH ns 1 (by decide);generalize sd ns 0=shape at q0 k0;generalize sd ns 1=seed at q1 k1;generalize W:1+shape % 3=ro;generalize Y:1+shape / 3 % 5=sg;generalize how:shape / 15 % 3=own;generalize J:seed % 10*(if decide (0<own) then 1 else 0)=many;have r1:0<ro:=by lia
 have r2:ro<=3:=by lia
 have s1:0<sg:=by lia
 have s2:sg<=5:=by lia
 have o1:0<=own:=by lia
 have o2:own<=2:=by lia
 have mm:0<=many/\many<=9/\(own=0->many=0):=by
  by_cases h:0<own
  .rw[Ki h]at J;simp only[Mb]at J;lia
  .rw[Kv h]at J;simp only[Kq,K8]at J;lia
 obtain⟨m0,m9,mz⟩:=mm;have f1:=yJ ns 4 many (by decide) m0;have f2:=yJ ns (4+many) most (by lia) hm;have f0:own=0->cJ ns (some 4) (some (4+many))=[]:=λh=>by rw[mz h]at f1 ⊢;exact LL.mp (by simpa using f1)
 obtain⟨n,ts,es,al,pm,few,Z⟩:=I0 seed q1 (cJ ns (some 4) (some (4+many))) (by lia) ro own sg r1 r2 o1 o2 f0 s1 s2;have hfi:D.flats (ns.map D.int)=true:=bV _;have L:∀{e0 e1 e2 e3 e6 e7 e8 e9:Option Sl}{g4 g5 fr:Bool},jR 1 [4,5] (gN 0) (λ_=>.ok true) bv [e0,e1,e2,e3,vv (.int ro) g4,vv (.int sg) g5,e6,e7,e8,e9] ⟨(cJ ns (some (4+many)) (some (4+many+most))).map .int,fr,[]⟩=_:=λ{_ _ _ _ _ _ _ _ _ _ _}=>Cz r1 s1 _ (by lia);have ig:∀ b:Bool,(-18446744073709551616:Int)<(if b then 1 else 0):=λb=>by cases b<;>decide
 have ih:∀ b:Bool,(if b then 1 else 0:Int)<18446744073709551616:=λb=>by cases b<;>decide
 have hru:∀ r∈(cJ ns (some (4+many)) (some (4+many+most))).map (λc=>Fg c ro sg),RR ro sg r:=λr hr=>by obtain⟨c,_,rfl⟩:=Kg.mp hr;exact G6 c ro sg r1 s1
 have hrl:((cJ ns (some (4+many)) (some (4+many+most))).map (λc=>Fg c ro sg)).length<=most.toNat:=by rw[J9];exact f2
 have O:D.flats (((cJ ns (some (4+many)) (some (4+many+most))).map (λc=>Fg c ro sg)).map cr)=true:=aV _ _ iD;have fci:∀ lo hi,D.flats ((cJ ns lo hi).map D.int)=true:=λ_ _=>bV _;generalize hRL:(cJ ns (some (4+many)) (some (4+many+most))).map (λc=>Fg c ro sg)=RL at L hru hrl O;by_cases c:(shape / 45 % 8==3)=true/\seed / 320 % 4<2
 .obtain⟨c1,c2⟩:=c;have d2:decide (seed / 320 % 4<2)=true:=Ki c2;obtain⟨w1,w2,w3⟩:=few c2;obtain⟨n',ts',es',al',pm',hfar⟩:=G9 (num:=seed / 7) (s:=seed % ro) pm w1 w2 w3 (LY _ (by lia)) (Ly _ r1) s1 s2;refine⟨ro,sg,RL,n',ts',es',?_,r1,r2,s1,s2,hru,hrl,pm',?_⟩
  rotate_left
  .simp_arith[bQ,c9,k0,k1,W,Y,how,xn,J,ig,ih,lM,fci,Z,kr,mD,c1,d2,hfar,r1,L,hfi,O];rfl
 .have c':(shape / 45 % 8==3)=false\/decide (seed / 320 % 4<2)=false:=by
   cases h:(shape / 45 % 8==3) with
   |false=>exact .inl rfl
   |true=>exact .inr (Kv λz=>c ⟨h,z⟩)
  refine⟨ro,sg,RL,n,ts,es,?_,r1,r2,s1,s2,hru,hrl,pm,?_⟩
  rotate_left
  .rcases c' with c'|c'
   .simp_arith[bQ,c9,k0,k1,W,Y,how,xn,J,ig,ih,lM,fci,Z,kr,mD,c',L,hfi,O];rfl
   .cases h:(shape / 45 % 8==3)<;>(simp_arith[bQ,c9,k0,k1,W,Y,how,xn,J,ig,ih,lM,fci,Z,kr,mD,c',h,L,hfi,O];rfl)
end W
namespace L3
open PySem L2
theorem xt {n:Nat}{caps:List Nat}{f:En->Res R}{asg:D->Bool->En->Option En}{ft:En->Res Bool}{fe:En->Res R}{env:En}{ds:List D}{fr:Bool}{al:List Nat}(h:f env=.ok (.val (.lst ds) fr al)):cM n caps (kK f) asg ft fe env=jR n caps asg ft fe env ⟨ds,fr,al⟩:=by rw[pW,gO,h];rfl
theorem G_ {n:Nat}{caps:List Nat}{f:En->Res R}{asg:D->Bool->En->Option En}{ft:En->Res Bool}{fe:En->Res R}{env:En}{ds:List D}{fr:Bool}{al:List Nat}(h:f env=.ok (.val (.tup ds) fr al)):cM n caps (kK f) asg ft fe env=jR n caps asg ft fe env ⟨ds,fr,al⟩:=by rw[pW,gO,h];rfl
end L3
namespace W
open PySem L2 L3 L4
theorem lX (ro sg:Int)(RL:List Pz.Rule):(Hs ro sg RL).flat=false:=by unfold Hs;simp only[b6,aT,bO,cB,Md,Lo]
theorem Hb (ro sg:Int)(RL:List Pz.Rule):(Hs ro sg RL).dep<=4:=by have:=lN (g:=cr) (xs:=RL) Ab;unfold Hs;simp only[cF,bc,cE,bF,cX];lia
theorem Hc (n:Int)(ts:List Pz.Arr)(es:List Int):(Mc n ts es).dep<=3:=by have:=lN (g:=aF) (xs:=ts) qq;have:=rU es;unfold Mc;simp only[cF,bc,cE,bF,cX];lia
theorem Ep {ro sg n:Int}{RL:List Pz.Rule}{ts:List Pz.Arr}{es:List Int}:gI [Hs ro sg RL,Mc n ts es]=.ok (.new [Hs ro sg RL,Mc n ts es] true):=by have f1:D.flats (RL.map cr)=true:=aV _ _ iD;have f2:D.flats (ts.map aF)=true:=aV _ _ bR;have J:D.flats (es.map D.int)=true:=bV _;unfold Hs Mc;simp_arith[gI,nZ,f1,f2,J,GY]
theorem CA {ro sg n:Int}{RL:List Pz.Rule}{ts:List Pz.Arr}{es:List Int}(P:PM ro sg n ts es):bC [Hs ro sg RL,Mc n ts es]=.ok (.val .non true []):=by
 have J:iA [Hs ro sg RL,Mc n ts es]=.ok (.val (.bl true) true []):=by
  have O:=P.lt;have h:=cP (mk:=λd=>gN 0 d false (gL [vv (Hs ro sg RL) false,vv (Mc n ts es) false] 1 [0])) (test:=λ_=>.ok true) (elt:=c_) aF (λ_=>.val (.bl true) true []) ts λt L=>⟨_,rfl,rfl,by show c_ [vv (aF t) false,vv (Hs ro sg RL) false]=_;have:=P.arr t L;have hd:decide (ro<=t.2.2)=true:=Ki (by lia);unfold aF Hs;simp_arith[c_,hd]⟩;have hc:cM 1 [0] (kK (bA 1 (vC (.int 1)))) (gN 0) (λ_=>.ok true) c_ [vv (Hs ro sg RL) false,vv (Mc n ts es) false]=.ok (.new (ts.map λ_=>D.bl true) true):=by have f2:D.flats (ts.map aF)=true:=aV _ _ bR;rw[xt (ds:=ts.map aF) (fr:=false) (al:=[]) (by unfold Mc;simp_arith)];rw[gu (by rw[J9];lia) h,nX,eJ,cw (aV _ _ λc=>rfl)]
  simp only[fK,cW,nJ,jy,jz,vE,j6,gG,vF,j7,j8,gH,Nd,Nk,Kc,Lx,Kl,KU,List.replicate,LD,LM,KW,Nat.reduceAdd,Nl,Nm,Nn,Lm,Nat.reduceSub,m5,nc,vh,nv,ng,nh,ni,nu,jf,jg,bO,gv,d7,d8,b6,cB,b9,aT,cE,jU,gw,gx,cF,cX,bF,bc,EV,tO,Lb,Ls,nz,nA,nw,jh,Int.reduceLT,Int.reduceLE,Int.reduceNeg,jb,jc,jd,je,vc,ve,L9,L_,Nat.reduceLT,Nat.reduceLeDiff,vg,m6,m7,m8,m_,ja,vi,vj,vk,vm,nB,f9,f_,ga,gb,ji,gc,gd,dL,nC,jj,nE,jk,dM,cN,dN,cO,jl,gf,dP,dQ,dR,dS,dU,cp,vp,nF,jm,jn,jo,gg,gh,vq,vw,jp,jq,jr,gk,js,nG,jt,jv,nH,nI,jw,gm,gn,jA,jB,vx,nK,nL,nM,rT,jC,jD,jE,jF,bX,E3,E4,E5,gp,jG,jH,gq,gr,vy,nN,jI,jJ,nO,jK,jL,jM,jN,jO,nP,jP,gO,dW,dX,gs,dY,dZ,nQ,jQ,jX,jY,gB,gC,gD,gE,nU,gz,gA,eI,Res.noX_ok,nV,E6,E7,E8,E9,E_,Int.reduceBEq,nT,Np,Nat.reduceEqDiff,nR,jS,jT,cG,cq,gy,d9,d_,eh,eB,eF,eG,MY,Md,LW,Lo,LK,K4,Mv,jV,jW,cw,f7,vA,gF,ba,jZ,nW,j3,vD,j5,ba,cQ,iA,qg,hc,z_]
 simp_arith[bC,di,lX,kr,J]
noncomputable def mI (ro sg n:Int):List Pz.Arr:=(List.range ro.toNat).flatMap λa=>(List.range sg.toNat).flatMap λs=>(List.range n.toNat).map λt=>(((a:Nat):Int),((s:Nat):Int),((t:Nat):Int))
theorem univ_mem {ro sg n a s t:Int}:((a,s,t):Pz.Arr)∈mI ro sg n↔(0<=a/\a<ro)/\(0<=s/\s<sg)/\0<=t/\t<n:=by
 unfold mI;simp only[List.mem_flatMap,Kg,KA,ML];constructor
 .rintro⟨x,J,y,L,z,hz,rfl,rfl,rfl⟩;lia
 .rintro⟨h1,h2,O⟩;exact⟨a.toNat,by lia,s.toNat,by lia,t.toNat,by lia,by lia,by lia,by lia⟩
theorem mJ {α:Type}(c:Nat):∀ l:List α,(l.map λ_=>c).sum=l.length*c
 | []=>by simp
 |a::l=>by rw[Kc,NU,mJ c l,Kl,Nat.succ_mul];lia
theorem CB (ro sg n:Int):(mI ro sg n).length=ro.toNat*(sg.toNat*n.toNat):=by
 unfold mI;rw[Nf];have h:∀ a:Nat,((List.range sg.toNat).flatMap λs=>(List.range n.toNat).map λt=>(((a:Nat):Int),((s:Nat):Int),((t:Nat):Int))).length=sg.toNat*n.toNat:=λa=>by rw[Nf];simp only[J9,Lr];rw[mJ,Lr]
 simp only[h];rw[mJ,Lr]
theorem vS {ro sg n:Int}(r2:ro<=3)(s2:sg<=5)(hn:n<=25):(mI ro sg n).length<=375:=by
 rw[CB];have a:ro.toNat<=3:=by lia
 have b:sg.toNat<=5:=by lia
 have c:n.toNat<=25:=by lia
 exact Ku (Na a (Na b c)) (by decide)
theorem Hd {ro sg n:Int}{RL:List Pz.Rule}{ts:List Pz.Arr}{es:List Int}(r1:0<ro)(r2:ro<=3)(s1:0<sg)(s2:sg<=5)(J:∀ r∈RL,RR ro sg r)(Y:RL.length<=60)(P:PM ro sg n ts es):Pz.Set RL ts (ts++mI ro sg n):=by
 have hn:=P.n25;have Z:=P.rn;have hlt:=P.lt;have u:=vS (n:=n) r2 s2 (by lia);have O:(ts++mI ro sg n).length<=404:=by rw[Kp];lia
 have W:∀ s x t:Int,((s,x,t):Pz.Arr)∈ts++mI ro sg n->0<=t/\t<n:=λs x t h=>by
  rcases Kr.mp h with h|h
  .have:=P.arr _ h;simp only[]at this;lia
  .exact(univ_mem.mp h).2.2
 refine⟨λr h=>(J r h).p,λa h=>Kr.mpr (.inl h),λr h=>Kr.mpr (.inr (univ_mem.mpr ⟨(J r h).a,(J r h).s,?_⟩)),λr h s x t k=>Kr.mpr (.inr (univ_mem.mpr ⟨(J r h).a,(J r h).s,W s x t k⟩)),?_,?_,?_⟩
 .have:=(J r h).t;lia
 .have:RL.length*((ts++mI ro sg n).length*(ts++mI ro sg n).length)<=60*(404*404):=Na Y (Na O O);unfold Pz.L;lia
 .have:RL.length*(ts++mI ro sg n).length<=60*404:=Na Y O;unfold Pz.L;lia
 .unfold Pz.L;lia
theorem Ad {ro sg n:Int}{RL:List Pz.Rule}{ts:List Pz.Arr}{es:List Int}(r1:0<ro)(r2:ro<=3)(s1:0<sg)(s2:sg<=5)(J:∀ r∈RL,RR ro sg r)(L:RL.length<=60)(P:PM ro sg n ts es) :
 ∃ t,qh [Hs ro sg RL,Mc n ts es]=.ok (.fre (bS t))/\Pz.Good RL ts (ts++mI ro sg n) t/\t.length<=404:=by
 obtain⟨t,h,G⟩:=GS (Hd r1 r2 s1 s2 J L P) (CA P);refine⟨t,h,G,?_⟩;have hn:=P.n25;have O:=P.lt;have u:=vS (n:=n) r2 s2 (by lia);have:=Pz.ou _ (ts++mI ro sg n) G.nd λa ha=>by obtain⟨x,W,rfl⟩:=Kg.mp ha;exact G.u x.1 x.2 (Pz.pP G.nd (by obtain⟨a,v⟩:=x;exact W))
 rw[J9,Kp]at this;lia
theorem qx:∀ t:Pz.TD,pM (t.map λx=>(.inr (ak x.1):DK)) (t.map λx=>ck x.2)=some (t.map λx=>.tup [aF x.1,ck x.2])
 | []=>rfl
 |x::t=>by rw[Kc,Kc];unfold pM;rw[qx t];rfl
theorem vT (a:Pz.Arr):∀ t:Pz.TD,getD (t.map λx=>(.inr (ak x.1):DK)) (t.map λx=>ck x.2) (.inr (ak a))=(Pz.tget t a).map ck
 | []=>rfl
 |x::t=>by
  rw[Kc,Kc];unfold getD;rw[vT a t,Pz.bD];by_cases h:x.1=a
  .rw[h,Ka rfl,Ka rfl];rfl
  .rw[J_ h,J_ λe=>h (tD _ _ (Oc e))]
theorem vU (a:Pz.Arr):∀ t:Pz.TD,sV (t.map λx=>(.inr (ak x.1):DK)) (.inr (ak a))=(Pz.tget t a).isSome
 | []=>rfl
 |x::t=>by
  have J:=vU a t;unfold sV at J ⊢;rw[Kc,MK,J,Pz.bD];by_cases h:x.1=a
  .rw[h,Ka rfl,Ki rfl];rfl
  .rw[J_ h,Kv λe=>h (tD _ _ (Oc e))];rfl
theorem vV (a:Pz.Arr)(t:Pz.TD):(t.map λx=>(.inr (ak x.1):DK)).all (kin (.inr (ak a)))=true:=by rw[List.all_map,Ld];intro x _;rfl
theorem yK (a:Pz.Arr):keyX (aF a)=some (.inr (ak a)):=(rfl)
theorem Er {neg:Bool}(a:Pz.Arr)(t:Pz.TD):qQ neg (aF a) (bS t)=.ok (.val (.bl (if neg then !(Pz.tget t a).isSome else (Pz.tget t a).isSome)) true []):=by unfold bS;rw[IG (yK a) (vV a t),vU]
theorem vW {r q:R}{a:Pz.Arr}{t:Pz.TD}{v:Pz.ot}(h1:r.d=bS t)(h2:q.d=aF a)(h:Pz.tget t a=some v):kF r q=.ok (mkV (ck v) r.fr r.al):=GZ (ks:=t.map λx:Pz.Arr×Pz.ot=>(.inr (ak x.1):DK)) (ds:=t.map λx:Pz.Arr×Pz.ot=>ck x.2) h1 (by rw[h2];exact yK a) (vV a t) (by rw[vT,h];rfl)
theorem du (v:Pz.ot):(ck v).flat=true:=by
 have h:∀ o,(oD o).flat=true:=λo=>by cases o<;>rfl
 unfold ck;simp only[b6,aT,bO,b9,h,LK]
theorem qy (t:Pz.TD):(bS t).flat=false:=ba _ _
theorem mK (x:Int):bW [.int x]=.ok (.val (.bl true) true []):=by simp_arith[bW,lQ]
theorem vX (a:Pz.Arr){e1 e2 e3:Option Sl}{fr:Bool}:cM 1 [] (kK (ao 0)) (gN 0) (λ_=>.ok true) bE [vv (aF a) fr,e1,e2,e3]=.ok (.new ([a.1,a.2.1,a.2.2].map λ_=>D.bl true) true):=by have h:=cP (mk:=λd=>gN 0 d true (gL [vv (aF a) fr,e1,e2,e3] 1 [])) (test:=λ_=>.ok true) (elt:=bE) D.int (λ_=>.val (.bl true) true []) [a.1,a.2.1,a.2.2] λc _=>⟨_,rfl,rfl,by show bE [vv (.int c) true]=_;simp_arith[bE,mK]⟩;rw[G_ (ds:=[a.1,a.2.1,a.2.2].map D.int) (fr:=true) (al:=[]) (by unfold aF;simp_arith)];rw[gu (by simp) h,nX,eJ,cw (aV _ _ λc=>rfl)]
theorem Ae {ro sg n:Int}{RL:List Pz.Rule}{ts:List Pz.Arr}{es:List Int}{a:Pz.Arr}{v:Pz.ot}(h1:0<=a.1/\a.1<n)(h2:0<=a.2.1/\a.2.1<sg)(J:0<=a.2.2/\a.2.2<n)(hv:v.2.1=none->v.2.2=none) :
 cC [aF a,ck v,Hs ro sg RL,Mc n ts es]=.ok (.val (.bl true) true []):=by
 have L:decide (0<=a.1)=true:=Ki h1.1;have O:decide (a.1<n)=true:=Ki h1.2;have W:decide (0<=a.2.1)=true:=Ki h2.1;have Y:decide (a.2.1<sg)=true:=Ki h2.2;have Z:decide (0<=a.2.2)=true:=Ki J.1;have d6:decide (a.2.2<n)=true:=Ki J.2;have hc:∀ e1 e2 e3:Option Sl,cM 1 [] (kK (ao 0)) (gN 0) (λ_=>.ok true) bE [vv (aF a) false,e1,e2,e3]=.ok (.new [D.bl true,D.bl true,D.bl true] true):=λ_ _ _=>vX a;have a3:Cf (.lst [D.bl true,D.bl true,D.bl true])=.ok (.val (.bl true) true []):=rfl;have b3:((3:Int)==3)=true:=rfl;obtain⟨p,k,m⟩:=v;have hn:(3:Int)=3:=rfl;have o:∀ o,(oD o).flat=true:=λo=>by cases o<;>rfl
 unfold aF Hs Mc ck at *;cases k with
 |none=>
  cases m with
  |some _=>exact absurd (hv rfl) (by simp)
  |none=>simp only[fK,cW,nJ,jy,jz,vE,j6,gG,vF,j7,j8,gH,Nd,Nk,Kc,Lx,Kl,KU,List.replicate,LD,LM,KW,Nat.reduceAdd,Nl,Nm,Nn,Lm,Nat.reduceSub,m5,nc,vh,nv,ng,nh,ni,nu,jf,jg,bO,gv,d7,d8,b6,cB,b9,aT,cE,jU,gw,gx,cF,cX,bF,bc,EV,tO,Lb,Ls,nz,nA,nw,jh,Int.reduceLT,Int.reduceLE,Int.reduceNeg,jb,jc,jd,je,vc,ve,L9,L_,Nat.reduceLT,Nat.reduceLeDiff,vg,m6,m7,m8,m_,ja,vi,vj,vk,vm,nB,f9,f_,ga,gb,ji,gc,gd,dL,nC,jj,nE,jk,dM,cN,dN,cO,jl,gf,dP,dQ,dR,dS,dU,cp,vp,nF,jm,jn,jo,gg,gh,vq,vw,jp,jq,jr,gk,js,nG,jt,jv,nH,nI,jw,gm,gn,jA,jB,vx,nK,nL,nM,rT,jC,jD,jE,jF,bX,E3,E4,E5,gp,jG,jH,gq,gr,vy,nN,jI,jJ,nO,jK,jL,jM,jN,jO,nP,jP,gO,dW,dX,gs,dY,dZ,nQ,jQ,jX,jY,gB,gC,gD,gE,nU,gz,gA,eI,Res.noX_ok,nV,E6,E7,E8,E9,E_,Int.reduceBEq,nT,Np,Nat.reduceEqDiff,nR,jS,jT,cG,cq,gy,d9,d_,eh,eB,eF,eG,MY,Md,LW,Lo,LK,K4,Mv,jV,jW,cw,f7,vA,gF,ba,jZ,nW,j3,vD,j5,ba,cQ,cC,gS,vn,hc,lW,qp,L,O,W,Y,Z,d6,a3,mK,qo,oD,o]
 |some k=>cases m<;>(simp only[fK,cW,nJ,jy,jz,vE,j6,gG,vF,j7,j8,gH,Nd,Nk,Kc,Lx,Kl,KU,List.replicate,LD,LM,KW,Nat.reduceAdd,Nl,Nm,Nn,Lm,Nat.reduceSub,m5,nc,vh,nv,ng,nh,ni,nu,jf,jg,bO,gv,d7,d8,b6,cB,b9,aT,cE,jU,gw,gx,cF,cX,bF,bc,EV,tO,Lb,Ls,nz,nA,nw,jh,Int.reduceLT,Int.reduceLE,Int.reduceNeg,jb,jc,jd,je,vc,ve,L9,L_,Nat.reduceLT,Nat.reduceLeDiff,vg,m6,m7,m8,m_,ja,vi,vj,vk,vm,nB,f9,f_,ga,gb,ji,gc,gd,dL,nC,jj,nE,jk,dM,cN,dN,cO,jl,gf,dP,dQ,dR,dS,dU,cp,vp,nF,jm,jn,jo,gg,gh,vq,vw,jp,jq,jr,gk,js,nG,jt,jv,nH,nI,jw,gm,gn,jA,jB,vx,nK,nL,nM,rT,jC,jD,jE,jF,bX,E3,E4,E5,gp,jG,jH,gq,gr,vy,nN,jI,jJ,nO,jK,jL,jM,jN,jO,nP,jP,gO,dW,dX,gs,dY,dZ,nQ,jQ,jX,jY,gB,gC,gD,gE,nU,gz,gA,eI,Res.noX_ok,nV,E6,E7,E8,E9,E_,Int.reduceBEq,nT,Np,Nat.reduceEqDiff,nR,jS,jT,cG,cq,gy,d9,d_,eh,eB,eF,eG,MY,Md,LW,Lo,LK,K4,Mv,jV,jW,cw,f7,vA,gF,ba,jZ,nW,j3,vD,j5,ba,cQ,cC,gS,vn,hc,lW,qp,L,O,W,Y,Z,d6,a3,mK,qo,oD,o])
end W
namespace L3
open PySem L2
theorem tU {i j k:Nat}{env:En}{a b c:D}{f:Bool}(hi:i<env.length)(J:j<env.length)(L:k<env.length):vz (gT 3 (av (gN i) (av (gN j) (av (gN k) bn)))) env (.val (.tup [a,b,c]) f [])=.ok (.nx (((env.set i (some (.val a f))).set j (some (.val b f))).set k (some (.val c f)))):=Ei rfl hi J L
end L3
namespace W
open PySem L2 L3 L4
section
variable {t:Pz.TD}{ks:List DK}{ds:List D}(hT:bS t=.dic ks ds)
include hT
theorem Fj {e1 e2 e3 e4 e5 e6 e7 e8 e9:Option Sl}{g f:Bool}(P:List Pz.Arr)(L:P.length<=2)(h:∀ x∈P,∃ q,Pz.At t x q):cM 1 [0] (kK (ao 10)) (gN 0) (λ_=>.ok true) b7 [vv (.dic ks ds) g,e1,e2,e3,e4,e5,e6,e7,e8,e9,ow (P.map aF) f]=.ok (.new (P.map λ_=>D.bl true) true):=by have h:=cP (mk:=λd=>gN 0 d f (gL [vv (.dic ks ds) g,e1,e2,e3,e4,e5,e6,e7,e8,e9,ow (P.map aF) f] 1 [0])) (test:=λ_=>.ok true) (elt:=b7) aF (λ_=>.val (.bl true) true []) P λc hc=>⟨_,rfl,rfl,by show b7 [vv (aF c) f,vv (.dic ks ds) g]=_;obtain⟨q,w,J,_⟩:=h c hc;have hi:=Er (neg:=false) c t;rw[hT,J]at hi;simp_arith[b7,bR,hi];rfl⟩;rw[xt (ds:=P.map aF) (fr:=f) (al:=[10]) (by simp_arith),gu (by rw[J9];lia) h,nX,eJ,cw (aV _ _ λc=>rfl)]
theorem CC {e1 e2 e3 e4 e5 e6 e7 e8 e9:Option Sl}{g f:Bool}(w:Pz.Arr->Int)(P:List Pz.Arr)(W:P.length<=2)(h:∀ x∈P,Pz.At t x (w x)):cM 1 [0] (kK (ao 10)) (gN 0) (λ_=>.ok true) b8 [vv (.dic ks ds) g,e1,e2,e3,e4,e5,e6,e7,e8,e9,ow (P.map aF) f]=.ok (.new ((P.map w).map D.int) true):=by have h:=cP (mk:=λd=>gN 0 d f (gL [vv (.dic ks ds) g,e1,e2,e3,e4,e5,e6,e7,e8,e9,ow (P.map aF) f] 1 [0])) (test:=λ_=>.ok true) (elt:=b8) aF (λc=>.val (.int (w c)) true []) P λc hc=>⟨_,rfl,rfl,by show b8 [vv (aF c) f,vv (.dic ks ds) g]=_;obtain⟨v,L,e⟩:=h c hc;have O:∀(r q:R),r.d=.dic ks ds->q.d=aF c->kF r q=_:=λr q h1 h2=>vW (r:=r) (q:=q) (by rw[hT];exact h1) h2 L;have J:=O (.val (.dic ks ds) g []) (.val (aF c) true []) rfl rfl;simp_arith[b8,bR,J,du];unfold ck;simp_arith[e]⟩;rw[xt (ds:=P.map aF) (fr:=f) (al:=[10]) (by simp_arith),gu (by rw[J9];lia) h,nX,eJ,cw (aV _ _ λc=>rfl),KM];rfl
theorem Af {ro sg:Int}{RL:List Pz.Rule}{a:Pz.Arr}{p i:Int}{m:Option Int}{j:Nat}{r:Pz.Rule}(hl:RL.length<=1000)(hv:Pz.tget t a=some (p,some i,m))(hi:i=j)(hj:RL[j]?=some r)(e1:a.1=r.1)(e2:a.2.1=r.2.1)(ju:Pz.JustP (Pz.At t) r.2.2.1 r.2.2.2 a.2.2 p m) :
 bJ [.dic ks ds,Hs ro sg RL,aF a]=.ok (.val (.bl true) true []):=by
 have hg:∀(r q:R),r.d=.dic ks ds->q.d=aF a->kF r q=_:=λr q h1 h2=>vW (r:=r) (q:=q) (by rw[hT];exact h1) h2 hv;have L:kF (.val (.dic ks ds) false []) (.val (.tup [.int a.1,.int a.2.1,.int a.2.2]) true [])=_:=hg (.val (.dic ks ds) false []) (.val (aF a) true []) rfl rfl;have J:atI (RL.map cr) i=some (cr r):=by rw[hi];exact J3 (by rw[Ks,hj];rfl)
 have hjl:=(Ke.mp hj).1;have d1:decide (0<=i)=true:=Ki (by lia);have d2:decide (i<(RL.length:Int))=true:=Ki (by lia);obtain⟨r0,r1,r2,put⟩:=r;obtain⟨a0,a1,a2⟩:=a;obtain rfl:a0=r0:=e1;obtain rfl:a1=r1:=e2;have hc2:∀ x y z:D,cJ [x,y,z] none (some 2)=[x,y]:=λ_ _ _=>rfl;have J:atI (RL.map cr) i=some (.tup [.int a0,.int a1,.int r2,.tup (put.map .int)]):=J;rcases put with _|⟨x,_|⟨y,_|⟨z,l⟩⟩⟩
 .obtain⟨em,ep,ea⟩:=ju;simp only[]at em ep ea;subst em ep ea;unfold Hs aF;simp_arith[bJ,dE,L,du];unfold ck oD;simp_arith[tU,lW,qp,J9,d1,d2,J,tS,hc2,vn,mD,qo,dk,eqDs,BEq.rfl]
 .obtain⟨em,q,h1,ep⟩:=ju;simp only[]at em ep h1;subst em;have Z:=λe1 e2 e3 e4 e5 e6 e7 e8 e9 g f=>Fj hT (e1:=e1) (e2:=e2) (e3:=e3) (e4:=e4) (e5:=e5) (e6:=e6) (e7:=e7) (e8:=e8) (e9:=e9) (g:=g) (f:=f) [(r2,x,a2)] (by simp) (λy hy=>⟨q,by rw[Km.mp hy];exact h1⟩);have c2:=λe1 e2 e3 e4 e5 e6 e7 e8 e9 g f=>CC hT (e1:=e1) (e2:=e2) (e3:=e3) (e4:=e4) (e5:=e5) (e6:=e6) (e7:=e7) (e8:=e8) (e9:=e9) (g:=g) (f:=f) (λ_=>q) [(r2,x,a2)] (by simp) (λy hy=>by rw[Km.mp hy];exact h1);have hs:∀ f,pN [.new [D.int q] f]=.ok (.val (.int (q+0)) true []):=λf=>Ct (ns:=[q]) (cq _ f);have O:Cf (.lst [D.bl true])=.ok (.val (.bl true) true []):=rfl;have pe:(p==1+(q+0))=true:=L1.mpr (by lia);simp only[Kc,Lx,aF]at Z c2;unfold Hs aF;simp_arith[bJ,dE,L,du];unfold ck oD;simp only[fK,cW,nJ,jy,jz,vE,j6,gG,vF,j7,j8,gH,Nd,Nk,Kc,Lx,Kl,KU,List.replicate,LD,LM,KW,Nat.reduceAdd,Nl,Nm,Nn,Lm,Nat.reduceSub,m5,nc,vh,nv,ng,nh,ni,nu,jf,jg,bO,gv,d7,d8,b6,cB,b9,aT,cE,jU,gw,gx,cF,cX,bF,bc,EV,tO,Lb,Ls,nz,nA,nw,jh,Int.reduceLT,Int.reduceLE,Int.reduceNeg,jb,jc,jd,je,vc,ve,L9,L_,Nat.reduceLT,Nat.reduceLeDiff,vg,m6,m7,m8,m_,ja,vi,vj,vk,vm,nB,f9,f_,ga,gb,ji,gc,gd,dL,nC,jj,nE,jk,dM,cN,dN,cO,jl,gf,dP,dQ,dR,dS,dU,cp,vp,nF,jm,jn,jo,gg,gh,vq,vw,jp,jq,jr,gk,js,nG,jt,jv,nH,nI,jw,gm,gn,jA,jB,vx,nK,nL,nM,rT,jC,jD,jE,jF,bX,E3,E4,E5,gp,jG,jH,gq,gr,vy,nN,jI,jJ,nO,jK,jL,jM,jN,jO,nP,jP,gO,dW,dX,gs,dY,dZ,nQ,jQ,jX,jY,gB,gC,gD,gE,nU,gz,gA,eI,Res.noX_ok,nV,E6,E7,E8,E9,E_,Int.reduceBEq,nT,Np,Nat.reduceEqDiff,nR,jS,jT,cG,cq,gy,d9,d_,eh,eB,eF,eG,MY,Md,LW,Lo,LK,K4,Mv,jV,jW,cw,f7,vA,gF,ba,jZ,nW,j3,vD,j5,ba,cQ,tU,lW,qp,J9,d1,d2,J,tS,hc2,vn,mD,qo,dk,eqDs,BEq.rfl,Z,c2,hs,O,pe]
 .obtain⟨d,q1,q2,em,h1,h2,ep⟩:=ju;simp only[]at em ep h1 h2;subst em;have pd:∀ z:Pz.Arr,z∈[(r2,x,d),(d,y,a2)]->∃ q,Pz.At t z q:=λz hz=>by
   rcases Kb.mp hz with rfl|hz
   .exact⟨_,h1⟩
   .rw[Km.mp hz];exact⟨_,h2⟩
  obtain⟨w1,W,rfl⟩:=h1;obtain⟨w2,Y,rfl⟩:=h2;have ww:∀ z:Pz.Arr,z∈[(r2,x,d),(d,y,a2)]->Pz.At t z (((Pz.tget t z).map (·.1)).getD 0):=λz hz=>by
   rcases Kb.mp hz with rfl|hz
   .exact⟨w1,W,by rw[W];rfl⟩
   .rw[Km.mp hz];exact⟨w2,Y,by rw[Y];rfl⟩
  have Z:=λe1 e2 e3 e4 e5 e6 e7 e8 e9 g f=>Fj hT (e1:=e1) (e2:=e2) (e3:=e3) (e4:=e4) (e5:=e5) (e6:=e6) (e7:=e7) (e8:=e8) (e9:=e9) (g:=g) (f:=f) [(r2,x,d),(d,y,a2)] (by simp) pd;have c2:=λe1 e2 e3 e4 e5 e6 e7 e8 e9 g f=>CC hT (e1:=e1) (e2:=e2) (e3:=e3) (e4:=e4) (e5:=e5) (e6:=e6) (e7:=e7) (e8:=e8) (e9:=e9) (g:=g) (f:=f) (λz=>((Pz.tget t z).map (·.1)).getD 0) [(r2,x,d),(d,y,a2)] (by simp) ww;have hs:∀ f,pN [.new [D.int w1.1,D.int w2.1] f]=.ok (.val (.int (w1.1+(w2.1+0))) true []):=λf=>Ct (ns:=[w1.1,w2.1]) (cq _ f);have O:Cf (.lst [D.bl true,D.bl true])=.ok (.val (.bl true) true []):=rfl;have pe:(p==1+(w1.1+(w2.1+0)))=true:=L1.mpr (by lia);simp only[Kc,Lx,aF,W,Y,Option.map_some,Option.getD_some]at Z c2;unfold Hs aF;simp_arith[bJ,dE,L,du];unfold ck oD;simp only[fK,cW,nJ,jy,jz,vE,j6,gG,vF,j7,j8,gH,Nd,Nk,Kc,Lx,Kl,KU,List.replicate,LD,LM,KW,Nat.reduceAdd,Nl,Nm,Nn,Lm,Nat.reduceSub,m5,nc,vh,nv,ng,nh,ni,nu,jf,jg,bO,gv,d7,d8,b6,cB,b9,aT,cE,jU,gw,gx,cF,cX,bF,bc,EV,tO,Lb,Ls,nz,nA,nw,jh,Int.reduceLT,Int.reduceLE,Int.reduceNeg,jb,jc,jd,je,vc,ve,L9,L_,Nat.reduceLT,Nat.reduceLeDiff,vg,m6,m7,m8,m_,ja,vi,vj,vk,vm,nB,f9,f_,ga,gb,ji,gc,gd,dL,nC,jj,nE,jk,dM,cN,dN,cO,jl,gf,dP,dQ,dR,dS,dU,cp,vp,nF,jm,jn,jo,gg,gh,vq,vw,jp,jq,jr,gk,js,nG,jt,jv,nH,nI,jw,gm,gn,jA,jB,vx,nK,nL,nM,rT,jC,jD,jE,jF,bX,E3,E4,E5,gp,jG,jH,gq,gr,vy,nN,jI,jJ,nO,jK,jL,jM,jN,jO,nP,jP,gO,dW,dX,gs,dY,dZ,nQ,jQ,jX,jY,gB,gC,gD,gE,nU,gz,gA,eI,Res.noX_ok,nV,E6,E7,E8,E9,E_,Int.reduceBEq,nT,Np,Nat.reduceEqDiff,nR,jS,jT,cG,cq,gy,d9,d_,eh,eB,eF,eG,MY,Md,LW,Lo,LK,K4,Mv,jV,jW,cw,f7,vA,gF,ba,jZ,nW,j3,vD,j5,ba,cQ,tU,lW,qp,J9,d1,d2,J,tS,hc2,vn,mD,qo,dk,eqDs,BEq.rfl,Z,c2,hs,O,pe]
 .exact ju.elim
end
theorem CD (t:Pz.TD):CJ "dict" (bS t)=true:=(rfl)
theorem xu {asg:D->Bool->En->Option En}{J:En->Res Fl}{env:En}{t:Pz.TD}{fr:Bool}:uP asg J env (.val (bS t) fr [])=kT (io asg fr J (t.map λx=>.tup [aF x.1,ck x.2]) env):=by unfold uP bS;dsimp only[R.d_val];rw[qx];rfl
theorem CF (v w:Pz.ot):dk (ck v) (ck w)=decide (v=w):=by
 have J:∀ a b:Option Int,dk (oD a) (oD b)=decide (a=b):=λa b=>by
  cases a<;>cases b
  .rfl
  .rfl
  .rfl
  .rename_i x y;show(x==y)=_;by_cases h:x=y
   .rw[h];simp
   .rw[Li.mpr h,Kv];simpa using h
 obtain⟨p,n,m⟩:=v;obtain⟨L,O,m'⟩:=w;have:dk (ck (p,n,m)) (ck (L,O,m'))=((p==L)&&(dk (oD n) (oD O)&&(dk (oD m) (oD m')&&true))):=rfl;rw[this,J,J];rw[Mm];simp
theorem yL {neg:Bool}(a:Pz.Arr)(ts:List Pz.Arr):qQ neg (aF a) (.lst (ts.map aF))=.ok (.val (.bl (if neg then !decide (a∈ts) else decide (a∈ts))) true []):=by
 have h:(ts.map aF).any (λe=>dk e (aF a))=decide (a∈ts):=by
  rw[Mm,Og,decide_eq_true_iff];have eq:∀ x:Pz.Arr,dk (aF x) (aF a)=true↔x=a:=λx=>by obtain⟨x,y,z⟩:=x;obtain⟨a,b,c⟩:=a;show((x==a)&&((y==b)&&((z==c)&&true)))=true↔_;simp
  constructor
  .rintro⟨x,J,e⟩;obtain⟨y,L,rfl⟩:=Kg.mp J;rw[<- (eq y).mp e];exact L
  .intro h;exact⟨aF a,Kg.mpr ⟨a,h,rfl⟩,(eq a).mpr rfl⟩
 rw[IF (Ku (lN qq) (by decide)) (Ku (qq a) (by decide)),h]
theorem vY (a:Pz.Arr)(ts:List Pz.Arr):qQ false (aF a) (.lst (ts.map aF))=.ok (.val (.bl (decide (a∈ts))) true []):=yL a ts
theorem vZ (a:Pz.Arr)(ts:List Pz.Arr):qQ true (aF a) (.lst (ts.map aF))=.ok (.val (.bl (!decide (a∈ts))) true []):=yL a ts
theorem CG (v:Pz.ot):(ck v).dep<=1:=by
 have h:∀ o,(oD o).dep=0:=λo=>by cases o<;>rfl
 unfold ck;simp only[cF,bc,cE,bF,h];decide
theorem He (ns:List Int)(hl:ns.length<=63):vI [.lst (ns.map .int)]=.ok (.val (.bl true) true []):=by
 obtain⟨ro,sg,RL,n,ts,es,al,r1,r2,s1,s2,hr,Y,P,hm⟩:=Eo ns hl 60 (by decide) (by decide);have Y:RL.length<=60:=Y;obtain⟨t,hp,G,_⟩:=Ad r1 r2 s1 s2 hr Y P;have hcp:=Ep (ro:=ro) (sg:=sg) (n:=n) (RL:=RL) (ts:=ts) (es:=es);have hfi:D.flats (ns.map D.int)=true:=bV _;have u:∀ a v,Pz.tget t a=some v->(0<=a.1/\a.1<n)/\(0<=a.2.1/\a.2.1<sg)/\0<=a.2.2/\a.2.2<n:=λa v h=>by
  obtain⟨a0,a1,a2⟩:=a;have hrn:=P.rn;rcases Kr.mp (G.u _ v h) with k|k
  .have:=P.arr _ k;simp only[]at this ⊢;lia
  .have:=univ_mem.mp k;simp only[];lia
 have tg:∀ x∈t,Pz.tget t x.1=some x.2:=λx hx=>Pz.pP G.nd (by obtain⟨a,v⟩:=x;exact hx);have lo1:∀ e0 e3 e5 e6:Option Sl,∃ J L,io (gT 2 (av (gN 5) (av (gN 6) bn))) true oG (t.map λx=>.tup [aF x.1,ck x.2]) [e0,vv (Hs ro sg RL) true,vv (Mc n ts es) true,e3,vv (bS t) true,e5,e6]=.ok (.nx [e0,vv (Hs ro sg RL) true,vv (Mc n ts es) true,e3,vv (bS t) true,J,L]):=λe0 e3 e5 e6=>by obtain⟨bf,h1,J,L,rfl⟩:=pX (λx:Pz.Arr×Pz.ot=>D.tup [aF x.1,ck x.2]) (asg:=gT 2 (av (gN 5) (av (gN 6) bn))) (fr:=true) (body:=oG) (λ_ env=>∃ J L,env=[e0,vv (Hs ro sg RL) true,vv (Mc n ts es) true,e3,vv (bS t) true,J,L]) t [] [e0,vv (Hs ro sg RL) true,vv (Mc n ts es) true,e3,vv (bS t) true,e5,e6] ⟨e5,e6,rfl⟩ (by rintro pre post x env _ ⟨q5,q6,rfl⟩ hx;have Z:=tg x hx;obtain⟨b1,b2,b3⟩:=u _ _ Z;have O:=G.ju _ _ Z;have hf:=Ae (ro:=ro) (RL:=RL) (ts:=ts) (es:=es) (v:=x.2) b1 b2 b3 (λe=>by unfold Pz.Just at O;rw[e]at O;exact O.1);refine⟨[e0,vv (Hs ro sg RL) true,vv (Mc n ts es) true,e3,vv (bS t) true,vv (aF x.1) true,vv (ck x.2) true],[e0,vv (Hs ro sg RL) true,vv (Mc n ts es) true,e3,vv (bS t) true,vv (aF x.1) true,vv (ck x.2) true],rfl,?_,_,_,rfl⟩;simp_arith[oG,bR,du,lX,kr,hf]);exact⟨_,_,h1⟩
 have lo2:∀ e0 e3 e5 e6:Option Sl,∃ J L,io (gT 2 (av (gN 5) (av (gN 6) bn))) true lU (t.map λx=>.tup [aF x.1,ck x.2]) [e0,vv (Hs ro sg RL) true,vv (Mc n ts es) true,e3,vv (bS t) true,e5,e6]=.ok (.nx [e0,vv (Hs ro sg RL) true,vv (Mc n ts es) true,e3,vv (bS t) true,J,L]):=λe0 e3 e5 e6=>by
  obtain⟨bf,h1,J,L,rfl⟩:=pX (λx:Pz.Arr×Pz.ot=>D.tup [aF x.1,ck x.2]) (asg:=gT 2 (av (gN 5) (av (gN 6) bn))) (fr:=true) (body:=lU) (λ_ env=>∃ J L,env=[e0,vv (Hs ro sg RL) true,vv (Mc n ts es) true,e3,vv (bS t) true,J,L]) t [] [e0,vv (Hs ro sg RL) true,vv (Mc n ts es) true,e3,vv (bS t) true,e5,e6] ⟨e5,e6,rfl⟩ (by
   rintro pre post x env _ ⟨q5,q6,rfl⟩ hx;have Z:=tg x hx;have O:=G.ju _ _ Z;obtain⟨a,v⟩:=x;simp only[]at Z O;have d3:(D.tup [D.int 0,D.non,D.non]).dep<=50:=by decide
   have dv:∀ v,(ck v).dep<=50:=λv=>Ku (CG v) (by decide);have z:D.tup [D.int 0,D.non,D.non]=ck (0,none,none):=rfl;have fm:D.flats (ts.map aF)=true:=aV _ _ bR;refine⟨[e0,vv (Hs ro sg RL) true,vv (Mc n ts es) true,e3,vv (bS t) true,vv (aF a) true,vv (ck v) true],[e0,vv (Hs ro sg RL) true,vv (Mc n ts es) true,e3,vv (bS t) true,vv (aF a) true,vv (ck v) true],rfl,?_,_,_,rfl⟩;have hM:bA 2 (vC (.int 1)) [e0,vv (Hs ro sg RL) true,vv (Mc n ts es) true,e3,vv (bS t) true,vv (aF a) true,vv (ck v) true]=.ok (.val (.lst (ts.map aF)) true []):=by unfold Mc;simp_arith
   by_cases ha:a∈ts
   .have W:=G.m0 a ha;rw[Z]at W;obtain rfl:v=(0,none,none):=Kx W;have ev:=CF (0,none,none) (0,none,none);rw[Ki rfl]at ev;simp only[fK,cW,nJ,jy,jz,vE,j6,gG,vF,j7,j8,gH,Nd,Nk,Kc,Lx,Kl,KU,List.replicate,LD,LM,KW,Nat.reduceAdd,Nl,Nm,Nn,Lm,Nat.reduceSub,m5,nc,vh,nv,ng,nh,ni,nu,jf,jg,bO,gv,d7,d8,b6,cB,b9,aT,cE,jU,gw,gx,cF,cX,bF,bc,EV,tO,Lb,Ls,nz,nA,nw,jh,Int.reduceLT,Int.reduceLE,Int.reduceNeg,jb,jc,jd,je,vc,ve,L9,L_,Nat.reduceLT,Nat.reduceLeDiff,vg,m6,m7,m8,m_,ja,vi,vj,vk,vm,nB,f9,f_,ga,gb,ji,gc,gd,dL,nC,jj,nE,jk,dM,cN,dN,cO,jl,gf,dP,dQ,dR,dS,dU,cp,vp,nF,jm,jn,jo,gg,gh,vq,vw,jp,jq,jr,gk,js,nG,jt,jv,nH,nI,jw,gm,gn,jA,jB,vx,nK,nL,nM,jC,jD,jE,jF,bX,E3,E4,E5,gp,jG,jH,gq,gr,vy,nN,jI,jJ,nO,jK,jL,jM,jN,jO,nP,jP,gO,dW,dX,gs,dY,dZ,nQ,jQ,jX,jY,gB,gC,gD,gE,nU,gz,gA,eI,Res.noX_ok,nV,E6,E7,E8,E9,E_,Int.reduceBEq,nT,Np,Nat.reduceEqDiff,pW,nR,jS,jT,cG,cq,gy,d9,d_,eh,eB,eF,eG,MY,Md,LW,Lo,LK,K4,Mv,jV,jW,cw,f7,vA,gF,ba,jZ,nW,j3,vD,j5,ba,cQ,lU,hM,bR,du,vY,vZ,BEq.rfl,Ki ha,z,mD,dv,ev,vn,dk]
   .have W:v≠(0,none,none):=λe=>by subst e;exact ha O.2.2
    have ev:=CF v (0,none,none);rw[Kv W]at ev;obtain⟨p,k,m⟩:=v;cases k with
    |none=>exact(ha O.2.2).elim
    |some i=>
     obtain⟨j,r,hi,O,a1,a2,ju⟩:=O;have hrs:=Af (t:=t) rfl (ro:=ro) (sg:=sg) (RL:=RL) (by lia) Z hi O a1 a2 ju;have hrs:bJ [bS t,Hs ro sg RL,aF a]=.ok (.val (.bl true) true []):=hrs;have hI:bA 6 (vC (.int 1)) [e0,vv (Hs ro sg RL) true,vv (Mc n ts es) true,e3,vv (bS t) true,vv (aF a) true,vv (ck (p,some i,m)) true]=.ok (.val (.int i) true []):=by
      have o:∀ o,(oD o).flat=true:=λo=>by cases o<;>rfl
      have os:oD (some i)=.int i:=rfl;unfold ck;simp_arith[o,os]
     simp only[fK,cW,nJ,jy,jz,vE,j6,gG,vF,j7,j8,gH,Nd,Nk,Kc,Lx,Kl,KU,List.replicate,LD,LM,KW,Nat.reduceAdd,Nl,Nm,Nn,Lm,Nat.reduceSub,m5,nc,vh,nv,ng,nh,ni,nu,jf,jg,bO,gv,d7,d8,b6,cB,b9,aT,cE,jU,gw,gx,cF,cX,bF,bc,EV,tO,Lb,Ls,nz,nA,nw,jh,Int.reduceLT,Int.reduceLE,Int.reduceNeg,jb,jc,jd,je,vc,ve,L9,L_,Nat.reduceLT,Nat.reduceLeDiff,vg,m6,m7,m8,m_,ja,vi,vj,vk,vm,nB,f9,f_,ga,gb,ji,gc,gd,dL,nC,jj,nE,jk,dM,cN,dN,cO,jl,gf,dP,dQ,dR,dS,dU,cp,vp,nF,jm,jn,jo,gg,gh,vq,vw,jp,jq,jr,gk,js,nG,jt,jv,nH,nI,jw,gm,gn,jA,jB,vx,nK,nL,nM,jC,jD,jE,jF,bX,E3,E4,E5,gp,jG,jH,gq,gr,vy,nN,jI,jJ,nO,jK,jL,jM,jN,jO,nP,jP,gO,dW,dX,gs,dY,dZ,nQ,jQ,jX,jY,gB,gC,gD,gE,nU,gz,gA,eI,Res.noX_ok,nV,E6,E7,E8,E9,E_,Int.reduceBEq,nT,Np,Nat.reduceEqDiff,pW,nR,jS,jT,cG,cq,gy,d9,d_,eh,eB,eF,eG,MY,Md,LW,Lo,LK,K4,Mv,jV,jW,cw,f7,vA,gF,ba,jZ,nW,j3,vD,j5,ba,cQ,lU,hM,hI,bR,du,vY,vZ,BEq.rfl,Kv ha,z,mD,dv,ev,vn,dk,qy,lX,hrs])
  exact⟨_,_,h1⟩
 have dh:(D.lst [Hs ro sg RL,Mc n ts es]).dep<=50:=by have a:=Hb ro sg RL;have b:=Hc n ts es;simp only[cX,bc,bF];lia
 have hee:=lC (D.lst [Hs ro sg RL,Mc n ts es]);have ff:D.flats [Hs ro sg RL,Mc n ts es]=false:=xm (lX _ _ _);have fp:(D.tup [Hs ro sg RL,Mc n ts es]).flat=false:=ff;have hne:∀ f al g,Bl (.val (.lst [Hs ro sg RL,Mc n ts es]) f al) (.new [Hs ro sg RL,Mc n ts es] g)=.ok (.val (.bl false) true []):=λf al g=>by rw[vn (a:=.val (.lst [Hs ro sg RL,Mc n ts es]) f al) (b:=.new [Hs ro sg RL,Mc n ts es] g) dh dh,cG,cq,hee];rfl
 obtain⟨x5,x6,k1⟩:=lo1 (vv (.lst (ns.map .int)) false) (vv (.lst [Hs ro sg RL,Mc n ts es]) true) none none;obtain⟨y5,y6,k2⟩:=lo2 (vv (.lst (ns.map .int)) false) (vv (.lst [Hs ro sg RL,Mc n ts es]) true) x5 x6;simp_arith[vI,Fd,hm,hfi,fp,Eh,yE,lX,kr,hcp,ff,cp,yD,hp,qy,yC,CD,hne,GT,yB,G5,xu,k1,Cj,yA,k2,yz]
end W
open PySem PySem.W PyProof.Rows
def PySem.W.Vw:PySem.Program:={PySem.Challenge.pw_callwalk_k21_prices_have_reasons with main:={PySem.Challenge.pw_callwalk_k21_prices_have_reasons.main with body:=PySem.Challenge.pw_callwalk_k21_prices_have_reasons.main.body.filter fun s=>match s with|.FunctionDef ..=>true|.ClassDef ..=>true|_=>false}}
local macro_rules | `(tactic| o_head $H) => `(tactic| refine PySem.W.holds_open (q := PySem.W.Vw) (loose := []) (Xt := fun s => PySem.W.xlAt PySem.W.Vw [] s && PySem.W.recOk (PySem.W.RowW.records PySem.Challenge.rw_callwalk_k21_prices_have_reasons.row.toRowW) s) (XP := PySem.W.XL PySem.W.Vw []) (Yf := PySem.W.Hook.obs $H) (Ya := PySem.W.Hook.val $H) (YP := PySem.W.Hook.says $H) (N := 3400) (fun w => by kernel_rfl) (PySem.W.Hook.of $H) (PySem.W.Hook.keeps $H) (fun s e => PySem.W.xl_of s (Bool.and_eq_true_iff.mp e).1) PySem.W.XL.keeps (by rfl) (by rfl) (by rfl) (fun s e => PySem.W.recFacts_of (Bool.and_eq_true_iff.mp e).2) (by rfl) (by first | assumption | decide +kernel) (by decide +kernel) ⟨rfl, rfl, rfl, rfl, rfl, by decide +kernel⟩ ?_ ?_)
set_option maxRecDepth 100000 in
set_option maxHeartbeats 0 in
theorem PySem.Challenge.cw_callwalk_k21_prices_have_reasons_holds : PySem.Challenge.rw_callwalk_k21_prices_have_reasons.Holds := by
 w_on;o_law;k_head;(· w_witness2)
 k_fill
 refine L2.Bf (l:=PySem.Challenge.rw_callwalk_k21_prices_have_reasons) (n:=63) (k:=7) (x:="_law_script") (CX:=fun w=>L2.qB PySem.Challenge.pw_callwalk_k21_prices_have_reasons w) (sp:=fun _=>L3.Jd W.vI) rfl (by decide) rfl ⟨rfl,by decide,by decide⟩ (fun w h Y=>PySem.W.kIn_of Y) ?kL ?F ?S ?C
 case kL=>exact fun w=>⟨by rfl,by rfl⟩
 case F=>
  intro w mg fa h KX G hmg
  refine' Exists.imp (fun _ z=>⟨z.1,fun base _ _=>z.2 base⟩) (W.G4 hmg ?_)
  refine' Exists.imp (fun _ _=>True.intro) (W.IW KX G L2.zl ?a_a ?l_a ?c_a ?a_b ?l_b ?c_b ?a_c ?l_c ?c_c ?a_d ?l_d ?c_d ?a_e ?l_e ?c_e ?a_f ?l_f ?c_f ?a_g ?l_g ?c_g ?a_h ?l_h ?c_h ?a_i ?l_i ?c_i ?a_j ?l_j ?c_j ?a_k ?l_k ?c_k ?a_l ?l_l ?c_l ?a_m ?l_m ?c_m ?a_n ?l_n ?c_n ?a_o ?l_o ?c_o ?z_all ?z_bool ?z_dict ?z_divmod ?z_enumerate ?z_int ?z_isinstance ?z_len ?z_list ?z_min ?z_range ?z_set ?z_sorted ?z_sum ?z_tuple ?b_NotPlain ?e_NotPlain ?b_Queue ?pgQ ?hdQ ?poQ ?saQ ?mkQ ?kcQ ?naQ_last ?naQ_piles ?b_Pricing ?pgP ?hdP ?poP ?saP ?mkP ?kcP ?naP_rules ?naP_told ?naP_offers ?naP_settled ?naP_lacking ?aM_QI ?iM_QI ?l_p ?c_p ?kp_QI ?aM_QA ?iM_QA ?l_q ?c_q ?kp_QA ?aM_QE ?iM_QE ?l_r ?c_r ?kp_QE ?aM_QT ?iM_QT ?l_s ?c_s ?kp_QT ?aM_PI ?iM_PI ?l_t ?c_t ?kp_PI ?aM_PO ?iM_PO ?l_u ?c_u ?kp_PO ?aM_PS ?iM_PS ?l_v ?c_v ?kp_PS ?aM_PF ?iM_PF ?l_w ?c_w ?kp_PF ?aM_PA ?iM_PA ?l_x ?c_x ?kp_PA)
  (case a_a=>k_is)
  (case l_a=>k_is)
  (case c_a=>k_is)
  (case a_b=>k_is)
  (case l_b=>k_is)
  (case c_b=>k_is)
  (case a_c=>k_is)
  (case l_c=>k_is)
  (case c_c=>k_is)
  (case a_d=>k_is)
  (case l_d=>k_is)
  (case c_d=>k_is)
  (case a_e=>k_is)
  (case l_e=>k_is)
  (case c_e=>k_is)
  (case a_f=>k_is)
  (case l_f=>k_is)
  (case c_f=>k_is)
  (case a_g=>k_is)
  (case l_g=>k_is)
  (case c_g=>k_is)
  (case a_h=>k_is)
  (case l_h=>k_is)
  (case c_h=>k_is)
  (case a_i=>k_is)
  (case l_i=>k_is)
  (case c_i=>k_is)
  (case a_j=>k_is)
  (case l_j=>k_is)
  (case c_j=>k_is)
  (case a_k=>k_is)
  (case l_k=>k_is)
  (case c_k=>k_is)
  (case a_l=>k_is)
  (case l_l=>k_is)
  (case c_l=>k_is)
  (case a_m=>k_is)
  (case l_m=>k_is)
  (case c_m=>k_is)
  (case a_n=>k_is)
  (case l_n=>k_is)
  (case c_n=>k_is)
  (case a_o=>k_is)
  (case l_o=>k_is)
  (case c_o=>k_is)
  (case z_all=>k_is)
  (case z_bool=>k_is)
  (case z_dict=>k_is)
  (case z_divmod=>k_is)
  (case z_enumerate=>k_is)
  (case z_int=>k_is)
  (case z_isinstance=>k_is)
  (case z_len=>k_is)
  (case z_list=>k_is)
  (case z_min=>k_is)
  (case z_range=>k_is)
  (case z_set=>k_is)
  (case z_sorted=>k_is)
  (case z_sum=>k_is)
  (case z_tuple=>k_is)
  (case b_NotPlain=>k_is)
  (case e_NotPlain=>k_exc)
  (case b_Queue=>k_is)
  (case pgQ=>k_is)
  (case hdQ=>k_is)
  (case poQ=>k_is)
  (case saQ=>k_is)
  (case mkQ=>k_is)
  (case kcQ=>k_is)
  (case naQ_last=>k_is)
  (case naQ_piles=>k_is)
  (case b_Pricing=>k_is)
  (case pgP=>k_is)
  (case hdP=>k_is)
  (case poP=>k_is)
  (case saP=>k_is)
  (case mkP=>k_is)
  (case kcP=>k_is)
  (case naP_rules=>k_is)
  (case naP_told=>k_is)
  (case naP_offers=>k_is)
  (case naP_settled=>k_is)
  (case naP_lacking=>k_is)
  (case aM_QI=>k_is)
  (case iM_QI=>k_is)
  (case l_p=>k_is)
  (case c_p=>k_is)
  (case kp_QI=>k_is)
  (case aM_QA=>k_is)
  (case iM_QA=>k_is)
  (case l_q=>k_is)
  (case c_q=>k_is)
  (case kp_QA=>k_is)
  (case aM_QE=>k_is)
  (case iM_QE=>k_is)
  (case l_r=>k_is)
  (case c_r=>k_is)
  (case kp_QE=>k_is)
  (case aM_QT=>k_is)
  (case iM_QT=>k_is)
  (case l_s=>k_is)
  (case c_s=>k_is)
  (case kp_QT=>k_is)
  (case aM_PI=>k_is)
  (case iM_PI=>k_is)
  (case l_t=>k_is)
  (case c_t=>k_is)
  (case kp_PI=>k_is)
  (case aM_PO=>k_is)
  (case iM_PO=>k_is)
  (case l_u=>k_is)
  (case c_u=>k_is)
  (case kp_PO=>k_is)
  (case aM_PS=>k_is)
  (case iM_PS=>k_is)
  (case l_v=>k_is)
  (case c_v=>k_is)
  (case kp_PS=>k_is)
  (case aM_PF=>k_is)
  (case iM_PF=>k_is)
  (case l_w=>k_is)
  (case c_w=>k_is)
  (case kp_PF=>k_is)
  (case aM_PA=>k_is)
  (case iM_PA=>k_is)
  (case l_x=>k_is)
  (case c_x=>k_is)
  (case kp_PA=>k_is)
 case S=>exact fun w H a ns hl hS=>L3.Gn (fun ns hn=>⟨_,_,W.He ns hn⟩) H a ns hl hS
 case C=>exact fun _ _ _ _ _ z=>L3.Gp z
