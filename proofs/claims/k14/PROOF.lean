import PyProof.Rows.All
import Wide.All
import OpenK.AllK
import Wide.FinOn
import Lean
import PyProof.EqAt
import PyProof.EqKinds
import PyProof.TupleCall
import PyProof.ZipIter
import PyProof.AttrMissHeap
import PyProof.Walks
import PyProof.WalksS
import PySem.SetTable
import KE.KSortTup
import KE.KRevIter
import PyProof.Rows.SetFrom
import PyProof.CollectWalk
import PyProof.DictWalks
import PyProof.DictItems
import KE.KDictList
import PyProof.ListRange
import PyProof.EqAt
import PyProof.WalkInts
import PyProof.StrBlockG
import PyProof.SumWalk
import PyProof.Rows.TupIter
import PyProof.StrLawsIdx
import PyProof.CallStr
import PyProof.StrCalls2
import PyProof.StrWalks
import KE.KIntText
import PyProof.SetRoads
import PyProof.StrLawsTight
import PyProof.Rows.FStr
import PyProof.Draws
import PyProof.EnumMake
import PyProof.ConsumeWalk
import PySem.Challenge.RW_callwalk_k14_joining
set_option autoImplicit true
set_option Elab.async false
set_option linter.all false
set_option genSizeOf false
set_option genSizeOfSpec false
set_option compiler.extract_closed false
set_option maxRecDepth 100000
set_option maxHeartbeats 4000000
set_option bootstrap.genMatcherCode false
noncomputable section
abbrev Ka:=@PySem.wpAny_bind
abbrev Kb:=@PySem.Heap.get?_push_of_some
abbrev Kc:=@List.getElem?_eq_some_iff
abbrev Ke:=@PySem.wpAny_pure
abbrev Kf:=@if_pos
abbrev Kg:=@List.length_map
abbrev Kh:=@if_neg
abbrev Ki:=@List.size_toArray
abbrev Kj:=@List.mem_cons
abbrev Kk:=@List.getElem?_append_right
abbrev Kl:=@decide_eq_true
abbrev Km:=@Nat.le_refl
abbrev Kn:=@Array.getElem?_toList
abbrev Ko:=@List.append_assoc
abbrev Kp:=@decide_eq_false
abbrev Kq:=@List.mem_map
abbrev Kr:=@PySem.Heap.get?_push_size
abbrev Ks:=@Bool.false_eq_true
abbrev Kt:=@PySem.Heap.lt_size
abbrev Ku:=@List.mem_append
abbrev Kv:=@PyProof.Rows.wpS_bind
abbrev Kw:=@List.getElem?_append_left
abbrev Kx:=@List.map_cons
abbrev Ky:=@List.mem_cons_of_mem
abbrev Kz:=@List.getElem?_set_ne
abbrev KA:=@Nat.le_trans
abbrev KB:=@List.getElem?_set_self
abbrev KC:=@List.map_map
abbrev KD:=@List.mem_cons_self
abbrev KE:=@PyProof.Rows.wpS_pure
abbrev KF:=@List.length_append
abbrev KG:=@List.mem_iff_getElem?
abbrev KH:=@List.pairwise_map
abbrev KI:=@List.map_append
abbrev KJ:=@Nat.ne_of_lt
abbrev KL:=@List.take_append_drop
abbrev KM:=@Array.length_toList
abbrev KN:=@congrArg
abbrev KO:=@List.mem_singleton
abbrev KP:=@List.mem_append_left
abbrev KQ:=@Bool.and_eq_true
abbrev KR:=@Nat.lt_of_lt_of_le
abbrev KS:=@List.pairwise_cons
abbrev KU:=@Nat.zero_le
abbrev KW:=@List.pairwise_iff_getElem
abbrev KY:=@PyProof.Rows.F.plain_set_update_loop
abbrev KZ:=@List.mem_map_of_mem
abbrev K1:=@List.mem_append_right
abbrev K3:=@List.mem_range
abbrev K4:=@Option.some.inj
abbrev K5:=@PySem.F.called_set
abbrev K6:=@List.getElem?_map
abbrev K7:=@List.length_take
abbrev K8:=@List.length_cons
abbrev K9:=@PySem.sizeLine_eq
abbrev K_:=@List.getElem?_take
abbrev La:=@List.append_nil
abbrev Lb:=@Nat.le_of_lt
abbrev Lc:=@List.not_mem_nil
abbrev Ld:=@List.mem_filter
abbrev Le:=@PySem.Heap.SameBut.update
abbrev Lf:=@Array.toList_append
abbrev Lg:=@List.take_of_length_le
abbrev Lh:=@if_false
abbrev Li:=@List.getElem?_eq_getElem
abbrev Lj:=@Ne.symm
abbrev Lk:=@List.mem_of_mem_take
abbrev Ll:=@List.filter_cons
abbrev Lm:=@List.all_eq_true
abbrev Ln:=@PySem.wpAny_call_entry
abbrev Lo:=@List.getElem?_eq_none
abbrev Lp:=@PySem.W.mg_of
abbrev Lq:=@PySem.W.mg_none_of
abbrev Lr:=@List.mem_of_mem_drop
abbrev Ls:=@List.pairwise_append
abbrev Lu:=@Bool.not_true
abbrev Lw:=@List.map_congr_left
abbrev Lx:=@Classical.byContradiction
abbrev Ly:=@PySem.wpAny_setState_of
abbrev Lz:=@PySem.Heap.get?_update_other
abbrev LA:=@List.drop_of_length_le
abbrev LB:=@PySem.wpAny_holding
abbrev LC:=@PySem.wpAny_mono
abbrev LD:=@List.Pairwise.imp_of_mem
abbrev LF:=@PySem.W.kia_one
abbrev LG:=@PyProof.Rows.wpS_forRange
abbrev LH:=@List.ext_getElem?
abbrev LI:=@PyProof.Rows.wpS_mono
abbrev LJ:=@List.pairwise_singleton
abbrev LK:=@decide_eq_true_eq
abbrev LL:=@Array.getElem?_eq_some_iff
abbrev LM:=@List.mem_of_getElem?
abbrev LN:=@Option.map_eq_some_iff
abbrev LO:=@PySem.wpAny_seqItems
abbrev LP:=@PySem.codeAny_builtin
abbrev LQ:=@PyProof.Rows.F.entry_set_update_loop
abbrev LR:=@PySem.Heap.size_push
abbrev LS:=@List.drop_eq_getElem_cons
abbrev LU:=@PySem.wpAny_truthy_bool
abbrev LV:=@PySem.Heap.get?_update_self
abbrev LW:=@PySem.wpAny_pyIter_list
abbrev LX:=@of_decide_eq_true
abbrev LY:=@Nat.lt_irrefl
abbrev LZ:=@List.nodup_cons
abbrev L0:=@Int.emod_lt_of_pos
abbrev L1:=@PySem.wpAny_callSpecial?_slot
abbrev L4:=@List.getElem?_drop
abbrev L5:=@PySem.mem_of_lookup
abbrev L6:=@List.take_sublist
abbrev L7:=@List.length_range
abbrev L8:=@List.any_cons
abbrev L9:=@List.length_singleton
abbrev L_:=@Bool.eq_iff_iff
abbrev Mb:=@Bool.false_ne_true
abbrev Md:=@List.filterMap_cons_some
abbrev Me:=@PySem.Around.under_plainId
abbrev Mf:=@PySem.F.slot_tuple_hash
abbrev Mg:=@Nat.add_sub_cancel_left
abbrev Mh:=@PySem.wpAny_field
abbrev Mi:=@List.length_set
abbrev Mj:=@Nat.le_of_not_lt
abbrev Mk:=@List.any_eq_true
abbrev Ml:=@Nat.ne_of_gt
abbrev Mm:=@PySem.F.slot_dict_get
abbrev Mn:=@List.perm_append_comm
abbrev Mo:=@PySem.wpAny_setField_rec
abbrev Mp:=@if_true
abbrev Mq:=@PySem.Calls.call_function_entry
abbrev Mr:=@List.drop_zero
abbrev Ms:=@List.take_succ_eq_append_getElem
abbrev Mt:=@PySem.wpAny_passesOwn
abbrev Mv:=@Int.emod_nonneg
abbrev Mw:=@List.drop_sublist
abbrev Mx:=@List.foldl_cons
abbrev My:=@PySem.Value.ref.injEq
abbrev Mz:=@Nat.lt_succ_of_lt
abbrev MA:=@Array.toList_push
abbrev MB:=@bne_self_eq_false
abbrev MC:=@PySem.wpAny_newObj_type
abbrev MD:=@List.nodup_append
abbrev ME:=@List.filterMap_cons_none
abbrev MF:=@Nat.zero_add
abbrev MG:=@List.filterMap_cons
abbrev MH:=@List.getElem?_replicate
abbrev MI:=@PySem.F.args_dict_get_3
abbrev MJ:=@PySem.wpAny_newList
abbrev MK:=@List.getElem?_cons_succ
abbrev ML:=@List.nodup_range
abbrev MM:=@PySem.wpAny_forIn_list
abbrev MN:=@List.lookup_cons
abbrev MO:=@Bool.false_and
abbrev MP:=@List.nodup_nil
abbrev MQ:=@PySem.F.entry_dict_get
abbrev MR:=@List.mem_filterMap
abbrev MS:=@Array.forIn_toList
abbrev MT:=@PySem.wpAny_execs_nil
abbrev MU:=@PyProof.Rows.callWith_type1
abbrev MV:=@PySem.codeAny_mono
abbrev MW:=@List.find?_cons
abbrev MX:=@PySem.wpAny_specialOf
abbrev MY:=@Prod.mk.injEq
abbrev MZ:=@or_false
abbrev M7:=@Nat.add_assoc
abbrev M8:=@List.mem_iff_getElem
abbrev M9:=@Array.toList_extract
abbrev M_:=@Array.toList_reverse
abbrev Na:=@List.getElem?_zip_eq_some
abbrev Nb:=@List.length_drop
abbrev Nc:=@Nat.le_add_right
abbrev Nd:=@PySem.wpAny_isInstance
abbrev Nf:=@List.getElem_mem
abbrev Ng:=@Sum.inl.inj
abbrev Nh:=@PyProof.Rows.slot_tupleiter_next
abbrev Ni:=@List.length_erase_of_mem
abbrev Nj:=@PySem.wpAny_rule
abbrev Nk:=@PySem.Paired.length
abbrev Nl:=@PySem.wpAny_Call_Name_kw
abbrev Nm:=@List.length_nil
abbrev Nn:=@List.cons.injEq
abbrev Np:=@PySem.plainId_quiet
abbrev Nq:=@PySem.Code.quiet_builtin
abbrev Nr:=@List.length_eq_zero_iff
abbrev Nt:=@PySem.Obj.data_mapFields
abbrev Nu:=@List.getElem?_cons_zero
abbrev Nv:=@PyProof.Rows.listUpdate_at
abbrev Nw:=@PyProof.Rows.get?_update_seq
abbrev Nx:=@Bool.or_eq_true
abbrev Ny:=@PySem.F.plainAttrs_list
abbrev Nz:=@PySem.Calls.callWith_builtin
abbrev NA:=@List.length_pos_of_mem
abbrev NB:=@Nat.lt_trichotomy
abbrev NC:=@PySem.wpAny_storeSet_of
abbrev ND:=@Bool.and_false
abbrev NE:=@PySem.wpAny_setField
abbrev NF:=@List.take_zero
abbrev NG:=@List.length_replicate
abbrev NH:=@PySem.Obj.isFreed_of_fields
abbrev NI:=@List.pairwise_reverse
abbrev NJ:=@List.set_getElem_self
abbrev NL:=@Nat.lt_succ_self
abbrev NM:=@List.drop_append_of_le_length
abbrev NN:=@List.take_append_of_le_length
abbrev NO:=@List.eq_nil_of_length_eq_zero
abbrev NP:=@PySem.Calls.evalArgs_plain
abbrev NQ:=@List.mem_erase_of_ne
abbrev NR:=@PySem.wpAny_updateSeq_pair
abbrev NS:=@Array.getElem?_setIfInBounds
abbrev NT:=@Bool.and_self
abbrev NU:=@PySem.wpAny_attempt
abbrev NV:=@PySem.F.slot_dict_setdefault
abbrev NW:=@Bool.true_and
abbrev NY:=@beq_iff_eq
abbrev NZ:=@beq_eq_false_iff_ne
abbrev N0:=@Nat.min_eq_left
abbrev N1:=@PyProof.Rows.seqEpoch_at
abbrev N2:=@PySem.F.slot_zip_next
abbrev N3:=@List.forIn_cons
abbrev N4:=@Array.append_assoc
abbrev N5:=@PySem.W.of_hideAll
abbrev N6:=@List.map_nil
abbrev N7:=@Nat.add_sub_cancel
abbrev N8:=@List.any_map
abbrev N9:=@List.all_map
abbrev N_:=@decide_eq_true_iff
abbrev Oa:=@PySem.wpAny_runValue
abbrev Ob:=@List.Perm.refl
abbrev Oc:=@Nat.mul_le_mul
abbrev Od:=@PySem.W.kitx_dict
abbrev Oe:=@Nat.le_of_lt_succ
abbrev Of:=@Int.toNat_natCast
abbrev Og:=@ite_congr
abbrev Oh:=@Array.ext'
abbrev Oi:=@List.foldl_append
abbrev Oj:=@Bool.false_or
abbrev Ol:=@List.mem_reverse
abbrev Om:=@List.zipIdx_cons
abbrev On:=@List.cons_append
abbrev Oo:=@Nat.max_eq_right
abbrev Oq:=@List.drop_length
abbrev Os:=@Nat.not_lt
abbrev Ot:=PySem.Shared
abbrev Ou:=PySem.W.Frag
abbrev Ov:=PySem.Program
abbrev Ow:=PySem.Value
abbrev Ox:=PySem.Around
theorem OD (h : True := by rfl) : True := h
theorem Oy (h : True := by decide) : True := h
theorem OB (h : ∀ u : Unit, u = u := by intro _; rfl) : True := True.intro
theorem Oz (h : True := by first|exact .inl rfl|exact .inr rfl|assumption) : True := h
theorem OA (h : True := by first|exact Or.inl rfl|exact Or.inr (Or.inl rfl)|exact Or.inr (Or.inr rfl)) : True := h
theorem OC (h : True := by intro _ _; rfl) : True := h

namespace L2
open PySem PySem.Spec PyProof.Rows
noncomputable abbrev Key:=Sum Int Str
noncomputable def fj:Key->Ow->Bool
 | .inl k,v=>Value.isInt k v
 | .inr x,v=>Value.isStrOf x v
noncomputable def FQ (w:World):Key->Int
 | .inl k=>hashInt k
 | .inr x=>hashStr w x
theorem aA:∀{k:Key}{v:Ow},fj k v=true->(∃ i t,k=Sum.inl i/\v=Value.int i t)\/(∃ x t,k=Sum.inr x/\v=Value.str x t)
 | .inl i,v,h=>by obtain⟨t,e⟩:=Value.isInt_shape (k:=i) (v:=v) h;exact .inl ⟨i,t,rfl,e⟩
 | .inr x,v,h=>by obtain⟨t,e⟩:=Value.isStrOf_shape (x:=x) (v:=v) h;exact .inr ⟨x,t,rfl,e⟩
theorem mz (i:Int)(t:Tok):fj (.inl i) (.int i t)=true:=by simp[fj,Value.isInt]
theorem uT (x:Str)(t:Tok):fj (.inr x) (.str x t)=true:=by simp[fj,Value.isStrOf]
theorem C7 (a b:Int):decide ((Sum.inl a:Key)=Sum.inl b)=(a==b):=by
 by_cases e:a=b
 .subst e;simp
 .have h:¬ (Sum.inl a:Key)=Sum.inl b:=fun q=>e (Ng q);rw[Kp h];exact(NZ.mpr e).symm
theorem C8 (a b:Str):decide ((Sum.inr a:Key)=Sum.inr b)=decide (a=b):=by
 by_cases e:a=b
 .subst e;simp
 .have h:¬ (Sum.inr a:Key)=Sum.inr b:=fun q=>e (Sum.inr.inj q);rw[Kp h,Kp e]
theorem C9 (a:Int)(b:Str):decide ((Sum.inl a:Key)=Sum.inr b)=false:=Kp (fun q=>nomatch q)
theorem C_ (a:Str)(b:Int):decide ((Sum.inr a:Key)=Sum.inl b)=false:=Kp (fun q=>nomatch q)
noncomputable def mixKind (prog:Ov)(w:World):PySem.KeyKind prog w Key where
 is:=fj
 hash:=FQ w
 inj:=fun v a b ha hb=>by
  rcases aA ha with⟨i,t,rfl,rfl⟩|⟨x,t,rfl,rfl⟩
  .rcases aA hb with⟨j,u,rfl,e⟩|⟨y,u,rfl,e⟩
   .injection e with e1 _;rw[e1]
   .exact nomatch e
  .rcases aA hb with⟨j,u,rfl,e⟩|⟨y,u,rfl,e⟩
   .exact nomatch e
   .injection e with e1 _;rw[e1]
 byValue:=fun k v h=>by rcases aA h with⟨i,t,rfl,rfl⟩|⟨x,t,rfl,rfl⟩<;>rfl
 pyHash:=fun hv h=>by
  rcases aA hv with⟨i,t,rfl,rfl⟩|⟨x,t,rfl,rfl⟩
  .exact wpAny_pyHash_int h
  .exact wpAny_pyHash_str h
 eqBool:=fun hu hv h=>by
  rcases aA hu with⟨i,t,rfl,rfl⟩|⟨x,t,rfl,rfl⟩
  .rcases aA hv with⟨j,u,rfl,rfl⟩|⟨y,u,rfl,rfl⟩
   .rw[C7]at h;exact wpAny_eqBool_int h
   .rw[C9]at h;exact SeqAt.EqAt.int_str i t y u _ _ _ _ h
  .rcases aA hv with⟨j,u,rfl,rfl⟩|⟨y,u,rfl,rfl⟩
   .rw[C_]at h;exact SeqAt.EqAt.str_int x t j u _ _ _ _ h
   .rw[C8]at h;exact wpAny_eqBool_str h
 «strs»:=fun k x t v h=>by
  rcases aA h with⟨i,u,rfl,e⟩|⟨y,u,rfl,e⟩
  .exact nomatch e
  .injection e with e1 _;subst e1;cases v<;>rfl
theorem oR (prog:Ov)(w:World)(i:Int)(t:Tok):(mixKind prog w).is (.inl i) (.int i t)=true:=mz i t
theorem oS (prog:Ov)(w:World)(x:Str)(t:Tok):(mixKind prog w).is (.inr x) (.str x t)=true:=uT x t
inductive V where
 |non|bl (b:Bool)|int (i:Int)|str (x:Str)|byt (b:Array UInt8)|flt (b:UInt64)|ref (a:Addr)|ty (n:String)
 deriving DecidableEq
noncomputable def RelV:V->Ow->Prop
 | .non,u=>u=Value.none
 | .bl b,u=>u=Value.bool b
 | .int i,u=>∃ t,u=Value.int i t
 | .str x,u=>∃ t,u=Value.str x t
 | .byt b,u=>∃ t,u=Value.bytes b t
 | .flt b,u=>∃ t,u=Value.float b t
 | .ref a,u=>u=Value.ref a
 | .ty n,u=>u=Value.type n
noncomputable abbrev Vals:List V->List Ow->Prop:=Paired RelV
theorem Vals.length {xs:List V}{us:List Ow}(r:Vals xs us):xs.length=us.length:=Nk r
theorem Vals.get:∀{xs:List V}{us:List Ow}{i:Nat}{x:V},Vals xs us->xs[i]?=some x->∃ u,us[i]?=some u/\RelV x u
 |_,_,_,_,.nil,e=>by simp at e
 |_,_,0,_,.cons r _,e=>by simp at e;subst e;exact⟨_,rfl,r⟩
 |_,_,i+1,x,.cons _ t,e=>by obtain⟨u,h1,h2⟩:=Vals.get (i:=i) (x:=x) t (by simpa using e);exact⟨u,by simpa using h1,h2⟩
theorem Vals.set {x:V}{u:Ow}(r:RelV x u):∀{xs:List V}{us:List Ow}(i:Nat),Vals xs us->Vals (xs.set i x) (us.set i u)
 |_,_,_,.nil=>.nil
 |_,_,0,.cons _ t=>.cons r t
 |_,_,i+1,.cons q t=>.cons q (Vals.set r i t)
theorem Vals.append:∀{xs ys:List V}{us ws:List Ow},Vals xs us->Vals ys ws->Vals (xs++ys) (us++ws)
 |_,_,_,_,.nil,s=>s
 |_,_,_,_,.cons r t,s=>.cons r (Vals.append t s)
theorem Vals.take:∀{xs:List V}{us:List Ow}(n:Nat),Vals xs us->Vals (xs.take n) (us.take n)
 |_,_,0,_=>.nil
 |_,_,_+1,.nil=>.nil
 |_,_,n+1,.cons r t=>.cons r (Vals.take n t)
theorem Vals.drop:∀{xs:List V}{us:List Ow}(n:Nat),Vals xs us->Vals (xs.drop n) (us.drop n)
 |_,_,0,r=>r
 |_,_,_+1,.nil=>.nil
 |_,_,n+1,.cons _ t=>Vals.drop n t
noncomputable def RelO:Option V->Option Ow->Prop
 |some v,some u=>RelV v u
 |none,none=>True
 |_,_=>False
noncomputable def KV {κ:Type}:List (κ×V)->List (κ×Ow)->Prop:=Paired fun(p:κ×V)(q:κ×Ow)=>p.1=q.1/\RelV p.2 q.2
noncomputable def kV:Key->V
 | .inl i=>.int i
 | .inr x=>.str x
inductive HO where
  
 |lst (xs:List V)
  
 |tup (xs:List V)
  
 |dK (kvs:List (Key×V))|dT (kvs:List (List Key×V))
  
 |set (S:Int->Bool) (n:Nat)
  
 |ins (C dx:Addr) (fs:List (Str×V))
  
 |own (x:Addr)
  
 |xd (fs:List (Str×V))
  
 |met (f x:Addr)
  
 |rng (lo hi:Int)
  
 |frz (o:Obj) (u:HO)
  
 |tbl (ps:Array Ow)
  
 |ext (φ:Heap->Prop)
noncomputable abbrev Hp:=Addr->Option HO
noncomputable def aJ (H:Hp)(a:Addr)(o:HO):Hp:=fun b=>if b=a then some o else H b
theorem am {H:Hp}{a:Addr}{o:HO}:aJ H a o a=some o:=by unfold aJ;rw[Kf rfl]
theorem ao {H:Hp}{a b:Addr}{o:HO}(h:b≠a):aJ H a o b=H b:=by unfold aJ;rw[Kh h]
theorem sT {H:Hp}{a:Addr}{o u:HO}:aJ (aJ H a o) a u=aJ H a u:=by funext b;unfold aJ;split<;>rfl
theorem oT {H:Hp}{a b:Addr}{o u:HO}(h:H a=some o)(h':H b=some u)(d:o≠u):a≠b:=by intro e;subst e;rw[h]at h';exact d (K4 h')
theorem aj {H:Hp}{a b:Addr}{o:HO}(h:H a=some o)(h':H b=none):a≠b:=by intro e;subst e;rw[h]at h';cases h'
section
variable (P:Ov)(w:World)
noncomputable def ObjOk (H:Hp)(h:Heap)(a:Addr):HO->Prop
 | .lst xs=>xs.length<=sizeLine/\∃(its:List Ow)(n:Nat),Vals xs its/\h.get? a=some { cls:=.type "list",data:=.seq its.toArray n }
 | .tup xs=>xs.length<=sizeLine/\∃ its:List Ow,Vals xs its/\IsTup h a its.toArray
 | .dK kvs=>kvs.length<=sizeLine/\(a==sysModules)=false/\∃ vs,KV kvs vs/\h.DictOf (mixKind P w) a vs
 | .dT kvs=>kvs.length<=sizeLine/\(a==sysModules)=false/\∃ xs:List (List Key×Addr×Ow),
  Paired (fun(p:List Key×V)(q:List Key×Addr×Ow)=>p.1=q.1/\H q.2.1=some (.tup (p.1.map kV))/\RelV p.2 q.2.2) kvs xs/\
  ∃ o es ep,h.get? a=some o/\o.ExactDict/\o.data=.dict es ep/\es.toList=xs.map (entryOfKey (tupleKind (mixKind P w)))/\(xs.map (·.1)).Nodup
 | .set S n=>h.SetOf (intKind P w) a S n
 | .ins C dx fs=>H dx=some (.own a)/\fs.length<=1000/\dx≠a/\h.get? a=some (PySem.W.instObj C dx)/\
  ∃ mA,h.Ns1 dx mA/\(∀ f,RelO (fs.lookup f) (mA f))/\PySem.Within mA (fs.map (·.1))
 | .own _=>∃ o,h.get? a=some o
 | .xd fs=>∃ mA,h.Ns1 a mA/\∀ f,RelO (fs.lookup f) (mA f)
 | .rng lo hi=>∃ t u v,h.get? a=some { cls:=.type "range",data:=.fields #[.int lo t,.int hi u,.int 1 v] }
 | .frz o u=>h.get? a=some o/\ObjOk H h a u
 | .tbl ps=>h.get? a=some { cls:=.none,data:=.fields ps }
 | .met f x=>h.get? a=some (PySem.W.methodObj (.ref f) (.ref x))
 | .ext φ=>φ h/\(∃ o,h.get? a=some o)/\∀ h1 h2:Heap,φ h1->(∀ o,h1.get? a=some o->h2.get? a=some o)->φ h2
def HOk (H:Hp)(h:Heap):Prop:=∀ a o,H a=some o->ObjOk P w H h a o
end
section
variable {P:Ov}{w:World}{H H':Hp}{h h':Heap}{a:Addr}{o:HO}
theorem ObjOk.lt (x:ObjOk P w H h a o):a<h.objs.size:=by
 cases o with
 |lst xs=>obtain⟨_,_,_,_,e⟩:=x;exact Kt e
 |tup xs=>obtain⟨_,_,_,p⟩:=x;exact p.lt
 |dK kvs=>obtain⟨_,_,_,_,o,_,_,e,_⟩:=x;exact Kt e
 |dT kvs=>obtain⟨_,_,_,_,o,_,_,e,_⟩:=x;exact Kt e
 |set S n=>obtain⟨o,_,_,_,e,_⟩:=x;exact Kt e
 |ins C dx fs=>obtain⟨_,_,_,e,_⟩:=x;exact Kt e
 |own y=>obtain⟨_,e⟩:=x;exact Kt e
 |xd fs=>obtain⟨_,⟨_,_,_,e,_⟩,_⟩:=x;exact Kt e
 |rng lo hi=>obtain⟨_,_,_,e⟩:=x;exact Kt e
 |frz ob u=>obtain⟨e,_⟩:=x;exact Kt e
 |tbl ps=>exact Kt (show h.get? a=some _ from x)
 |met f y=>exact Kt (show h.get? a=some _ from x)
 |ext φ=>obtain⟨_,⟨_,e⟩,_⟩:=x;exact Kt e
theorem Paired.mapP {α β:Type}{F G:α->β->Prop}:∀{l₁:List α}{l₂:List β},Paired F l₁ l₂->(∀ a b,F a b->G a b)->Paired G l₁ l₂
 |_,_,.nil,_=>.nil
 |_,_,.cons r t,f=>.cons (f _ _ r) (Paired.mapP t f)
theorem ObjOk.stay (x:ObjOk P w H h a o)(k:∀ b u,(b=a\/H b=some (.own a))->h.get? b=some u->h'.get? b=some u)
 (ho:∀ b,H b=some (.own a)->H' b=some (.own a)) (ht:∀ b xs,H b=some (.tup xs)->H' b=some (.tup xs)):ObjOk P w H' h' a o:=by
 induction o with
 |lst xs=>obtain⟨z,its,n,r,e⟩:=x;exact⟨z,its,n,r,k _ _ (.inl rfl) e⟩
 |tup xs=>obtain⟨z,its,r,ob,e,c⟩:=x;exact⟨z,its,r,ob,k _ _ (.inl rfl) e,c⟩
 |dK kvs=>obtain⟨z,y,vs,r,ob,es,ep,e,c⟩:=x;exact⟨z,y,vs,r,ob,es,ep,k _ _ (.inl rfl) e,c⟩
 |dT kvs=>obtain⟨z,y,xs,r,ob,es,ep,e,c⟩:=x;exact⟨z,y,xs,Paired.mapP r fun p q z=>⟨z.1,ht _ _ z.2.1,z.2.2⟩,ob,es,ep,k _ _ (.inl rfl) e,c⟩
 |set S n=>obtain⟨ob,es,ep,t,e,c⟩:=x;exact⟨ob,es,ep,t,k _ _ (.inl rfl) e,c⟩
 |ins C dx fs=>obtain⟨d,z,ne,e,mA,⟨od,es,ep,e2,c⟩,r⟩:=x;exact⟨ho _ d,z,ne,k _ _ (.inl rfl) e,mA,⟨od,es,ep,k _ _ (.inr d) e2,c⟩,r⟩
 |own y=>obtain⟨ob,e⟩:=x;exact⟨ob,k _ _ (.inl rfl) e⟩
 |xd fs=>obtain⟨mA,⟨od,es,ep,e,c⟩,r⟩:=x;exact⟨mA,⟨od,es,ep,k _ _ (.inl rfl) e,c⟩,r⟩
 |rng lo hi=>obtain⟨t,u,v,e⟩:=x;exact⟨t,u,v,k _ _ (.inl rfl) e⟩
 |frz ob u ih=>obtain⟨e,q⟩:=x;exact⟨k _ _ (.inl rfl) e,ih q⟩
 |tbl ps=>have e:h.get? a=some { cls:=.none,data:=.fields ps }:=x;show h'.get? a=some { cls:=.none,data:=.fields ps };exact k a _ (.inl rfl) e
 |met f y=>have e:h.get? a=some (PySem.W.methodObj (.ref f) (.ref y)):=x;show h'.get? a=some (PySem.W.methodObj (.ref f) (.ref y));exact k a _ (.inl rfl) e
 |ext φ=>obtain⟨p,⟨o,e⟩,st⟩:=x;exact⟨st _ _ p fun o q=>k _ _ (.inl rfl) q,⟨o,k _ _ (.inl rfl) e⟩,st⟩
theorem HOk.lt (x:HOk P w H h)(e:H a=some o):a<h.objs.size:=(x a o e).lt
theorem HOk.fresh (x:HOk P w H h)(e:h.objs.size<=a):H a=none:=by
 cases q:H a with
 |none=>rfl
 |some u=>exact absurd (KR (x.lt q) e) (LY _)
theorem HOk.kept (x:HOk P w H h)(k:∀ b u,h.get? b=some u->h'.get? b=some u):HOk P w H h':=fun a o e=>(x a o e).stay (fun b u _ q=>k b u q) (fun _ q=>q) fun _ _ q=>q
theorem HOk.laid (x:HOk P w H h)(k:∀ b u,h.get? b=some u->h'.get? b=some u)(hp:h.objs.size<=a)(new:ObjOk P w (aJ H a o) h' a o):HOk P w (aJ H a o) h':=fun b u e=>by
 have hn:=x.fresh hp;by_cases hb:b=a
 .subst hb;rw[am]at e;cases e;exact new
 .rw[ao hb]at e;exact(x b u e).stay (fun c v _ q=>k c v q) (fun c q=>by rw[ao (aj q hn)];exact q) fun c xs q=>by rw[ao (aj q hn)];exact q
end
def Rd (H:Hp)(a:Addr)(u:HO):Prop:=H a=some u\/∃ o,H a=some (.frz o u)
theorem Rd.of {H:Hp}{a:Addr}{u:HO}(h:H a=some u):Rd H a u:=.inl h
theorem Rd.ok {P:Ov}{w:World}{H:Hp}{h:Heap}{a:Addr}{u:HO}(r:Rd H a u)(x:HOk P w H h):ObjOk P w H h a u:=by
 rcases r with r|⟨o,r⟩
 .exact x a u r
 .obtain⟨_,q⟩:=x a _ r;exact q
noncomputable def FR:Option HO->Prop
 |some (.lst _)=>True
 |some (.dK _)=>True
 |some (.dT _)=>True
 |some (.set _ _)=>True
 |some (.ins _ _ _)=>True
 |some (.ext _)=>True
 |_=>False
section
variable {P:Ov}{w:World}{H:Hp}{h h':Heap}{x e:Addr}{o':HO}
theorem HOk.write (ok:HOk P w H h)(mu:FR (H x))(he:e=x\/H e=some (.own x))(k:∀ b u,b≠e->h.get? b=some u->h'.get? b=some u)(heo:∃ u,h'.get? e=some u)
 (new:ObjOk P w (aJ H x o') h' x o'):HOk P w (aJ H x o') h':=fun b u q=>by
 have nown:∀ c y,H c=some (.own y)->c≠x:=fun c y r z=>by subst z;rw[r]at mu;exact mu
 have ntup:∀ c xs,H c=some (.tup xs)->c≠x:=fun c xs r z=>by subst z;rw[r]at mu;exact mu
 by_cases hb:b=x
 .subst hb;rw[am]at q;cases q;exact new
 .rw[ao hb]at q;by_cases hbe:b=e
  .have q':H b=some (.own x):=by
    rcases he with z|z
    .exact absurd (hbe.trans z) hb
    .rw[hbe];exact z
   rw[q]at q';cases q';obtain⟨v,hv⟩:=heo;exact⟨v,by rw[hbe];exact hv⟩
  .refine(ok b u q).stay (fun c v hc r=>k c v ?_ r) (fun c r=>by rw[ao (nown c b r)];exact r) fun c xs r=>by rw[ao (ntup c xs r)];exact r
   rcases hc with rfl|hc
   .exact hbe
   .rintro rfl;rcases he with z|z
    .exact nown c b hc z
    .rw[hc]at z;cases z;exact hb rfl
end
def Qt (H:Hp)(b:Addr):Prop:=H b=none\/∃ xs,H b=some (.tup xs)
structure Un (fs ex:List Addr) (H H':Hp) (h h':Heap):Prop where
 keep:∀ b o,h.get? b=some o->Qt H b->b∉fs->b∉ex->h'.get? b=some o
 slot:∀ b o,h.get? b=some o->H b=none->b∈fs->b∉ex->∃ sl,h'.get? b=some { o with slots:=sl }
 free:∀ b o,h.get? b=some o->H b=none->b∉ex->H' b=none
 there:∀ b o,h.get? b=some o->b∉ex->∃ o',h'.get? b=some o'
 tups:∀ b xs,H b=some (.tup xs)->H' b=some (.tup xs)
 frzs:∀ b o u,H b=some (.frz o u)->H' b=some (.frz o u)
 tbls:∀ b ps,H b=some (.tbl ps)->∃ more,H' b=some (.tbl (ps++more))
section
variable {fs fs' ex ex':List Addr}{H H1 H2:Hp}{h h1 h2 h':Heap}{a x e:Addr}{o:HO}
theorem Un.any (u:Un fs ex H H1 h h1){b:Addr}{ob:Obj}(q:h.get? b=some ob)(n:H b=none)(hx:b∉ex):∃ sl,h1.get? b=some { ob with slots:=sl }:=by
 by_cases hb:b∈fs
 .exact u.slot b ob q n hb hx
 .exact⟨ob.slots,u.keep b ob q (.inl n) hb hx⟩
theorem Un.trans (a:Un fs ex H H1 h h1)(b:Un fs ex H1 H2 h1 h2):Un fs ex H H2 h h2 where
 keep:=fun c ob q n hc hx=>b.keep c ob (a.keep c ob q n hc hx) (n.imp (fun n=>a.free c ob q n hx) fun⟨xs,e⟩=>⟨xs,a.tups c xs e⟩) hc hx
 slot:=fun c ob q n hc hx=>by obtain⟨sl,e1⟩:=a.slot c ob q n hc hx;obtain⟨sl',e2⟩:=b.slot c _ e1 (a.free c ob q n hx) hc hx;exact⟨sl',e2⟩
 free:=fun c ob q n hx=>by obtain⟨o',e1⟩:=a.there c ob q hx;exact b.free c o' e1 (a.free c ob q n hx) hx
 there:=fun c ob q hx=>by obtain⟨o',e1⟩:=a.there c ob q hx;exact b.there c o' e1 hx
 tups:=fun c xs q=>b.tups c xs (a.tups c xs q)
 frzs:=fun c ob xs q=>b.frzs c ob xs (a.frzs c ob xs q)
 tbls:=fun c ps q=>by obtain⟨m1,e1⟩:=a.tbls c ps q;obtain⟨m2,e2⟩:=b.tbls c _ e1;exact⟨m1++m2,by rw[e2,N4]⟩
theorem Un.kept (k:∀ b u,h.get? b=some u->h'.get? b=some u):Un fs ex H H h h':=⟨fun b ob q _ _ _=>k b ob q,fun b ob q _ _ _=>⟨ob.slots,k b ob q⟩,fun _ _ _ n _=>n,fun b ob q _=>⟨ob,k b ob q⟩,fun _ _ q=>q,fun _ _ _ q=>q,fun _ ps q=>⟨#[],by rw[q];simp⟩⟩
theorem Un.refl:Un fs ex H H h h:=Un.kept fun _ _ q=>q
theorem Un.laid (k:∀ b u,h.get? b=some u->h'.get? b=some u)(hp:h.objs.size<=a)(hn:H a=none):Un fs ex H (aJ H a o) h h' where
 keep:=fun b u q _ _ _=>k b u q
 slot:=fun b u q _ _ _=>⟨u.slots,k b u q⟩
 free:=fun b u q n _=>by rw[ao (KJ (KR (Kt q) hp))];exact n
 there:=fun b u q _=>⟨u,k b u q⟩
 tups:=fun b xs q=>by rw[ao (aj q hn)];exact q
 frzs:=fun b u xs q=>by rw[ao (aj q hn)];exact q
 tbls:=fun b ps q=>⟨#[],by rw[ao (aj q hn),q];simp⟩
theorem Un.write (mu:FR (H x))(he:e=x\/H e=some (.own x))(k:∀ b u,b≠e->h.get? b=some u->h'.get? b=some u)(heo:∃ u,h'.get? e=some u):Un fs ex H (aJ H x o) h h':=by
 have hx:∀ b,H b=none->b≠x:=fun b n z=>by subst z;rw[n]at mu;exact mu
 have hb:∀ b,H b=none->b≠e:=fun b n z=>by
  subst z;rcases he with r|r
  .exact hx b n r
  .rw[n]at r;cases r
 have hm:∀ b u,H b=some u->¬ FR (some u)->b≠x:=fun b u q nm z=>by subst z;rw[q]at mu;exact nm mu
 refine⟨fun b u q n _ _=>k b u (n.elim (hb b) fun⟨xs,ee⟩ z=>by rcases he with r|r;(·rw[<- r,<- z,ee]at mu;exact mu);(·rw[<- z,ee]at r;cases r)) q,fun b u q n _ _=>⟨u.slots,k b u (hb b n) q⟩,fun b u q n _=>by rw[ao (hx b n)];exact n,fun b u q _=>?_,
  fun b xs q=>by rw[ao (hm b _ q fun z=>z)];exact q,fun b u xs q=>by rw[ao (hm b _ q fun z=>z)];exact q,fun b ps q=>⟨#[],by rw[ao (hm b _ q fun z=>z),q];simp⟩⟩
 by_cases hbe:b=e
 .subst hbe;exact heo
 .exact⟨u,k b u hbe q⟩
end
noncomputable def oU (h:Heap)(H:Hp):List Addr:=(List.range h.objs.size).filter fun a=>(H a).isSome
noncomputable def oV (h:Heap)(H:Hp):Heap:=PySem.W.hideAll h (oU h H)
theorem uU (h:Heap)(H:Hp):(oV h H).objs.size=h.objs.size:=PySem.W.hideAll_size _ _
theorem oW {h:Heap}{H:Hp}{b:Addr}{o:Obj}(e:h.get? b=some o)(n:H b=none):(oV h H).get? b=some o:=PySem.W.hideAll_get _ e fun hm=>by have q:(H b).isSome=true:=(Ld.mp hm).2;rw[n]at q;simp at q
theorem Ai {h:Heap}{H:Hp}{b:Addr}{o:Obj}(e:(oV h H).get? b=some o):h.get? b=some o/\H b=none:=by
 have e':h.get? b=some o:=N5 (oU h H) e;refine⟨e',?_⟩;cases q:H b with
 |none=>rfl
 |some x=>have hm:b∈oU h H:=Ld.mpr ⟨K3.mpr (Kt e'),by simp[q]⟩;have z:(oV h H).get? b=none:=PySem.W.hideAll_none (oU h H) hm;rw[z]at e;cases e
noncomputable def Aj (g h:Heap)(L:Addr):List (Addr×Obj):=(List.range h.objs.size).filterMap fun a=>if a=L\/(g.get? a).isSome=true then none else (h.get? a).map fun o=>(a,o)
noncomputable def aF (g h:Heap)(L d:Addr):List (Addr×Obj):=(Aj g h L).filter fun p=>decide (p.1≠d)
noncomputable def JU:Ow->V
 | .str x _=>.str x
 | .ref a=>.ref a
 |_=>.non
noncomputable def Da (o:Obj):Option (Addr×List V):=match o.cls with
 | .type n=>if n=="kt" then (match o.data with
  | .seq its _=>(match its.toList with
   | .ref a::r=>some (a,r.map JU)
   |_=>none)
  |_=>none) else none
 |_=>none
def WrT (K:Ou)(H:Hp):Prop:=∀ p∈K,∀ a xs,Da p.2=some (a,xs)->H a=some (.tup xs)
structure Mod (K:Ou) (mg:Str->Option Ow) (base:Heap):Prop where
 kin:K.In base
 glob:base.Ns mainGlobals mg
 blt:∃ mb,base.Ns builtinsNs mb/\∀ x:Str,x≠"__name__"->mb x=bootBuiltins x
 nolimit:base.NoLimit
structure Cx where
 prog:Ov
 w:World
 K:Ou
 mg:Str->Option Ow
 base:Heap
 A:Ox
 N:List Str
 s₀:Ot
 H₀:Hp
 env:Env
 outer:List Env
 stack:List Env
 ex:List Addr
 fn:Str->Bool
 calm:Bool
 pn:List (Addr×Obj)
 xe:Ow->Ot->Prop
noncomputable def frs (l:List Env):List Addr:=l.filterMap (·.frame)
noncomputable abbrev Cx.fs (X:Cx):List Addr:=frs X.outer
def Vis (sc:Scope)(x:Str):Prop:=sc.names.lookup x=some .local\/sc.names.lookup x=some .cell\/sc.names.lookup x=some .free
def Af (sc:Scope)(x:Str):Prop:=sc.names.lookup x=some .local\/sc.names.lookup x=some .cell
def Look (env:Env)(h:Heap)(m:Str->Option Ow)(x:Str)(u:Ow):Prop:=(env.kindOf x=some .local/\m x=some u)\/((env.kindOf x=some .cell\/env.kindOf x=some .free)/\∃ c,env.cells.lookup x=some c/\h.IsCell c (some u))
structure Cx.Ok (X:Cx):Prop where
 mod:Mod X.K X.mg X.base
 kind:X.env.scope.kind=.function
 glob:X.env.globals=mainGlobals
 blt:X.env.builtins=builtinsNs
 above:X.s₀.heap.objs.size<=X.env.locals
 inj:∀ x y c,X.env.cells.lookup x=some c->X.env.cells.lookup y=some c->x=y
 has:∀ x,(X.env.kindOf x=some .cell\/X.env.kindOf x=some .free)->∃ c,X.env.cells.lookup x=some c
 cab:∀ x c,X.fn x=true->X.env.cells.lookup x=some c->X.s₀.heap.objs.size<=c
 hd:X.calm=true->X.A.handled=none
 frames:X.A.frames=some X.stack
 stk:X.stack=X.outer\/(X.stack=X.env::X.outer/\X.env.frame=some X.env.locals)
 exf:∀ b∈X.ex,b≠X.env.locals/\∀ x c,X.env.cells.lookup x=some c->c≠b
 bs:∀ b o,X.base.get? b=some o->X.s₀.heap.get? b=some o/\X.H₀ b=none
 bsz:X.base.objs.size<=X.s₀.heap.objs.size
 noex:∀ b o,X.base.get? b=some o->b∉X.ex
 exfs:∀ b∈X.ex,b∉X.fs
 funs:X.s₀.heap.FunFrames X.base X.outer
 frf:∀ b∈X.fs,X.H₀ b=none
 kt:WrT X.K X.H₀
structure Inv (X:Cx) (pins:List (Addr×Obj)) (σ:List (Option V)) (H:Hp) (s:Ot):Prop where
 ok:X.Ok
 os:s.os=X.s₀.os
 bare:AllBare s.gens
 base:Un X.fs X.ex X.H₀ H X.s₀.heap s.heap
 loc:∃ m,s.heap.Ns X.env.locals m/\∀(i:Nat)(x:Str)(v:V),X.N[i]?=some x->σ[i]?=some (some v)->Vis X.env.scope x->∃ u,RelV v u/\Look X.env s.heap m x u
 cell:∀ x c,X.env.cells.lookup x=some c->∃ v,s.heap.IsCell c v
 free:H X.env.locals=none
 freeC:∀ x c,X.env.cells.lookup x=some c->H c=none
 pin:∀ p∈X.pn++pins,s.heap.get? p.1=some p.2/\H p.1=none/\p.1≠X.env.locals/\p.1∉X.fs/\∀ v,p.2.data≠.cell v
 hok:HOk X.prog X.w H s.heap
 len:σ.length=X.N.length
section
variable {X:Cx}{pins:List (Addr×Obj)}{σ:List (Option V)}{H H':Hp}{s:Ot}{h':Heap}
theorem Cx.Ok.nofr (ok:X.Ok){b:Addr}{o:Obj}(e:X.base.get? b=some o):b∉X.fs:=fun hb=>by have:=(ok.funs.mem hb).1;rw[e]at this;cases this
theorem Inv.bs (I:Inv X pins σ H s):∀ b o,X.base.get? b=some o->s.heap.get? b=some o/\H b=none:=fun b o e=>⟨I.base.keep b o (I.ok.bs b o e).1 (.inl (I.ok.bs b o e).2) (I.ok.nofr e) (I.ok.noex b o e),I.base.free b o (I.ok.bs b o e).1 (I.ok.bs b o e).2 (I.ok.noex b o e)⟩
theorem Inv.kt (I:Inv X pins σ H s):WrT X.K H:=fun p hp a xs e=>I.base.tups a xs (I.ok.kt p hp a xs e)
theorem Inv.bk (I:Inv X pins σ H s):∀ b o,X.base.get? b=some o->s.heap.get? b=some o:=fun b o e=>(I.bs b o e).1
theorem Inv.mod (I:Inv X pins σ H s):Mod X.K X.mg X.base:=I.ok.mod
theorem Inv.kIn (I:Inv X pins σ H s):X.K.In s.heap:=I.ok.mod.kin.keeps I.bk
theorem Inv.fr (I:Inv X pins σ H s):∃ m,Fr X.base X.env.locals s.heap m:=
 let ⟨m,hn,_⟩:=I.loc
 ⟨m,hn,I.bk,KA I.ok.bsz I.ok.above⟩
theorem Inv.lt (I:Inv X pins σ H s):X.env.locals<s.heap.objs.size:=let ⟨_,hn,_⟩:=I.loc;hn.lt
theorem Inv.sz (I:Inv X pins σ H s):X.s₀.heap.objs.size<=s.heap.objs.size:=KA I.ok.above (Lb I.lt)
theorem Inv.nofs (I:Inv X pins σ H s){a:Addr}(h:s.heap.objs.size<=a):a∉X.fs:=fun hb=>by obtain⟨_,o,ho,_⟩:=I.ok.funs.mem hb;exact absurd (KR (Kt ho) (KA I.sz h)) (LY _)
theorem Inv.cne (I:Inv X pins σ H s):∀ x c,X.env.cells.lookup x=some c->c≠X.env.locals:=fun x c e z=>by obtain⟨v,o,ho,hd⟩:=I.cell x c e;obtain⟨m,⟨o',es,ep,ho',hd',_⟩,_⟩:=I.loc;rw[z,ho']at ho;cases ho;rw[hd']at hd;cases hd
theorem Inv.funs (I:Inv X pins σ H s):s.heap.FunFrames X.base X.outer:=by
 have all:∀(l:List Env),(∀ b∈frs l,b∈X.fs)->X.s₀.heap.FunFrames X.base l->s.heap.FunFrames X.base l:=by
  intro l;induction l with
  |nil=>intro _ _;trivial
  |cons env r ih=>intro hs hl;obtain⟨hk,⟨L,o,hf,hn,ho,hd⟩,hr⟩:=hl;have hL:L∈X.fs:=hs L (by unfold frs;rw[MG,hf];exact KD);obtain⟨sl,e⟩:=I.base.slot L o ho (I.ok.frf L hL) hL fun z=>I.ok.exfs L z hL;exact⟨hk,⟨L,_,hf,hn,e,hd⟩,ih (fun b hb=>hs b (by unfold frs;rw[MG,hf];exact Ky _ hb)) hr⟩
 exact all X.outer (fun _ hb=>hb) I.ok.funs
theorem Inv.stack (I:Inv X pins σ H s):s.heap.FunFrames X.base X.stack:=by
 rcases I.ok.stk with e|⟨e,hf⟩
 .rw[e];exact I.funs
 .rw[e];obtain⟨m,hn,_⟩:=I.loc;refine .cons (by rw[I.ok.kind];decide) hf hn ?_ I.funs;exact Heap.get?_none_of_le (KA I.ok.bsz I.ok.above)
theorem Inv.stkSub (I:Inv X pins σ H s):∀ b∈frs X.stack,b∈X.env.locals::X.fs:=fun b hb=>by
 rcases I.ok.stk with e|⟨e,hf⟩
 .rw[e]at hb;exact Ky _ hb
 .rw[e]at hb;unfold frs at hb;rw[MG,hf]at hb;exact hb
theorem Inv.stkFree (I:Inv X pins σ H s):∀ b∈frs X.stack,H b=none:=fun b hb=>by
 rcases Kj.mp (I.stkSub b hb) with e|hb
 .rw[e];exact I.free
 .obtain⟨_,o,ho,_⟩:=I.ok.funs.mem hb;exact I.base.free b o ho (I.ok.frf b hb) fun z=>I.ok.exfs b z hb
theorem Inv.step {g':Array GenState}{t':Nat}{d':Drawn}{ch:List Addr}(I:Inv X pins σ H s)
 (hch:∀ b∈ch,(b∈X.ex\/X.s₀.heap.objs.size<=b)/\b≠X.env.locals/\(∀ x c,X.env.cells.lookup x=some c->c≠b)/\∀ p∈X.pn++pins,p.1≠b)
 (keep:∀ b o,b≠X.env.locals->b∉X.fs->b∉ch->s.heap.get? b=some o->Qt H b->h'.get? b=some o)
 (slot:∀ b o,b≠X.env.locals->b∈X.fs->b∉ch->s.heap.get? b=some o->H b=none->∃ sl,h'.get? b=some { o with slots:=sl }) (free:∀ b o,b∉ch->s.heap.get? b=some o->H b=none->H' b=none)
 (there:∀ b o,b∉ch->s.heap.get? b=some o->∃ o',h'.get? b=some o')
 (tups:∀ b xs,H b=some (.tup xs)->H' b=some (.tup xs)) (frzs:∀ b o u,H b=some (.frz o u)->H' b=some (.frz o u)) (tbls:∀ b ps,H b=some (.tbl ps)->∃ more,H' b=some (.tbl (ps++more)))
 (ns:∀ m,s.heap.Ns X.env.locals m->h'.Ns X.env.locals m) (hok:HOk X.prog X.w H' h') (hg:AllBare g') :
 Inv X pins σ H' { s with heap:=h',gens:=g',drawn:=d',toks:=t' }:=by
 have neL:∀ b o,X.s₀.heap.get? b=some o->b≠X.env.locals:=fun b o e=>KJ (KR (Kt e) I.ok.above);have neC:∀ b o,X.s₀.heap.get? b=some o->b∉X.ex->b∉ch:=fun b o e hx hb=>by
  rcases (hch b hb).1 with z|z
  .exact hx z
  .exact absurd (KR (Kt e) z) (LY _)
 have cellK:∀ x c,X.env.cells.lookup x=some c->∀ v,s.heap.IsCell c v->h'.IsCell c v:=fun x c e v ⟨o,ho,hd⟩=>by
  have nch:c∉ch:=fun z=>(hch c z).2.2.1 x c e rfl;by_cases hc:c∈X.fs
  .obtain⟨sl,q⟩:=slot c o (I.cne x c e) hc nch ho (I.freeC x c e);exact⟨_,q,hd⟩
  .exact⟨o,keep c o (I.cne x c e) hc nch ho (.inl (I.freeC x c e)),hd⟩
 refine⟨I.ok,I.os,hg,⟨fun b o e n hb hx=>?_,fun b o e n hb hx=>?_,fun b o e n hx=>?_,fun b o e hx=>?_,fun b xs e=>tups b xs (I.base.tups b xs e),fun b o xs e=>frzs b o xs (I.base.frzs b o xs e),fun b ps e=>?_⟩,?_,fun x c e=>?_,?_,fun x c e=>?_,fun p hp=>?_,hok,I.len⟩
 .exact keep b o (neL b o e) hb (neC b o e hx) (I.base.keep b o e n hb hx) (n.imp (fun n=>I.base.free b o e n hx) fun⟨xs,q⟩=>⟨xs,I.base.tups b xs q⟩)
 .obtain⟨sl,e1⟩:=I.base.slot b o e n hb hx;obtain⟨sl',e2⟩:=slot b _ (neL b o e) hb (neC b o e hx) e1 (I.base.free b o e n hx);exact⟨sl',e2⟩
 .obtain⟨o',e1⟩:=I.base.there b o e hx;exact free b o' (neC b o e hx) e1 (I.base.free b o e n hx)
 .obtain⟨o',e1⟩:=I.base.there b o e hx;exact there b o' (neC b o e hx) e1
 .obtain⟨m1,e1⟩:=I.base.tbls b ps e;obtain⟨m2,e2⟩:=tbls b _ e1;exact⟨m1++m2,by rw[e2,N4]⟩
 .obtain⟨m,hn,hl⟩:=I.loc;refine⟨m,ns m hn,fun i x v e1 e2 e3=>?_⟩;obtain⟨u,r,l⟩:=hl i x v e1 e2 e3;refine⟨u,r,?_⟩;rcases l with l|⟨k,c,e,z⟩
  .exact .inl l
  .exact .inr ⟨k,c,e,cellK x c e _ z⟩
 .obtain⟨v,z⟩:=I.cell x c e;exact⟨v,cellK x c e v z⟩
 .obtain⟨m,⟨o,_,_,ho,_⟩,_⟩:=I.loc;exact free _ o (fun z=>(hch _ z).2.1 rfl) ho I.free
 .obtain⟨v,o,ho,hd⟩:=I.cell x c e;exact free c o (fun z=>(hch c z).2.2.1 x c e rfl) ho (I.freeC x c e)
 .obtain⟨e,n,ne,nf,d⟩:=I.pin p hp;have nch:p.1∉ch:=fun z=>(hch p.1 z).2.2.2 p hp rfl;exact⟨keep p.1 p.2 ne nf nch e (.inl n),free p.1 p.2 nch e n,ne,nf,d⟩
theorem Inv.un {t':Nat}(I:Inv X pins σ H s)(u:Un X.fs [] H H' s.heap h')(hok:HOk X.prog X.w H' h'):Inv X pins σ H' { s with heap:=h',toks:=t' }:=by obtain⟨m,⟨o,es,ep,ho,r⟩,_⟩:=id I.loc;obtain⟨sl,hL⟩:=u.any ho I.free (by simp);exact I.step (g':=s.gens) (d':=s.drawn) (ch:=[]) (fun _ z=>nomatch z) (fun b o _ hb _ e n=>u.keep b o e n hb (by simp)) (fun b o _ hb _ e n=>u.slot b o e n hb (by simp)) (fun b o _ e n=>u.free b o e n (by simp)) (fun b o _ e=>u.there b o e (by simp)) u.tups u.frzs u.tbls (fun m' hm=>by obtain⟨o',es',ep',ho',r'⟩:=hm;rw[ho]at ho';cases ho';exact⟨_,es',ep',hL,r'⟩) hok I.bare
theorem Inv.call {g':Array GenState}{t':Nat}{d':Drawn}{ch:List Addr}(I:Inv X pins σ H s)(u:Un (frs X.stack) ch H H' s.heap h')(hok:HOk X.prog X.w H' h')(hg:AllBare g')
 (hch:∀ b∈ch,(b∈X.ex\/X.s₀.heap.objs.size<=b)/\b≠X.env.locals/\(∀ x c,X.env.cells.lookup x=some c->c≠b)/\∀ p∈X.pn++pins,p.1≠b) :
 Inv X pins σ H' { s with heap:=h',gens:=g',drawn:=d',toks:=t' }:=by
 obtain⟨m,⟨o,es,ep,ho,r⟩,_⟩:=id I.loc;obtain⟨sl,hL⟩:=u.any ho I.free fun z=>(hch _ z).2.1 rfl;exact I.step (ch:=ch) hch (fun b o hL hb hc e n=>u.keep b o e n (fun z=>(Kj.mp (I.stkSub b z)).elim hL hb) hc) (fun b o _ _ hc e n=>u.any e n hc) (fun b o hc e n=>u.free b o e n hc) (fun b o hc e=>u.there b o e hc) u.tups u.frzs u.tbls (fun m' hm=>by obtain⟨o',es',ep',ho',r'⟩:=hm;rw[ho]at ho';cases ho';exact⟨_,es',ep',hL,r'⟩) hok hg
theorem Inv.turned {t':Nat}{it:Addr}(I:Inv X pins σ H s)(k:∀ b o,b≠it->s.heap.get? b=some o->h'.get? b=some o)(hn:H it=none)(hL:it≠X.env.locals)
 (h1:it∈X.ex\/X.s₀.heap.objs.size<=it) (h2:∀ x c,X.env.cells.lookup x=some c->c≠it) (h3:∀ p∈X.pn++pins,p.1≠it):Inv X pins σ H { s with heap:=h',toks:=t' }:=by
 have nit:∀ b u,H b=some u->b≠it:=fun b u e z=>by rw[z,hn]at e;cases e
 refine I.step (g':=s.gens) (d':=s.drawn) (ch:=[it]) (fun b hb=>?_) (fun b o _ _ hc e _=>k b o (fun z=>hc (by simp[z])) e) (fun b o _ _ hc e _=>⟨o.slots,k b o (fun z=>hc (by simp[z])) e⟩) (fun _ _ _ _ n=>n)
  (fun b o hc e=>⟨o,k b o (fun z=>hc (by simp[z])) e⟩) (fun _ _ e=>e) (fun _ _ _ e=>e) (fun b ps e=>⟨#[],by rw[e];simp⟩) (fun m hm=>?_) (fun b u e=>?_) I.bare
 .have e:b=it:=by simpa using hb
  subst e;exact⟨h1,hL,h2,h3⟩
 .obtain⟨o,es,ep,ho,r⟩:=hm;exact⟨o,es,ep,k _ o (Lj hL) ho,r⟩
 .refine(I.hok b u e).stay (fun c v hc q=>k c v ?_ q) (fun _ q=>q) fun _ _ q=>q;rcases hc with z|z
  .rw[z];exact nit b u e
  .exact nit c _ z
theorem Inv.tok (I:Inv X pins σ H s)(t:Nat):Inv X pins σ H { s with toks:=t }:=I.un (h':=s.heap) (t':=t) Un.refl I.hok
theorem Inv.kept {t':Nat}(I:Inv X pins σ H s)(k:∀ b u,s.heap.get? b=some u->h'.get? b=some u):Inv X pins σ H { s with heap:=h',toks:=t' }:=I.un (Un.kept k) (I.hok.kept k)
theorem Inv.laid {a:Addr}{o:HO}{t':Nat}(I:Inv X pins σ H s)(k:∀ b u,s.heap.get? b=some u->h'.get? b=some u)(hp:s.heap.objs.size<=a)(new:ObjOk X.prog X.w (aJ H a o) h' a o) :
 Inv X pins σ (aJ H a o) { s with heap:=h',toks:=t' }:=I.un (Un.laid k hp (I.hok.fresh hp)) (I.hok.laid k hp new)
theorem Inv.write {x e:Addr}{o:HO}{t':Nat}(I:Inv X pins σ H s)(mu:FR (H x))(he:e=x\/H e=some (.own x))(k:∀ b u,b≠e->s.heap.get? b=some u->h'.get? b=some u)(heo:∃ u,h'.get? e=some u)
 (new:ObjOk X.prog X.w (aJ H x o) h' x o):Inv X pins σ (aJ H x o) { s with heap:=h',toks:=t' }:=I.un (Un.write mu he k heo) (I.hok.write mu he k heo new)
theorem Inv.pins_of {pins':List (Addr×Obj)}(I:Inv X pins σ H s)(h:∀ p∈pins',s.heap.get? p.1=some p.2/\H p.1=none/\p.1≠X.env.locals/\p.1∉X.fs/\∀ v,p.2.data≠.cell v):Inv X pins' σ H s:=⟨I.ok,I.os,I.bare,I.base,I.loc,I.cell,I.free,I.freeC,fun p hp=>(Ku.mp hp).elim (fun z=>I.pin p (KP _ z)) (h p),I.hok,I.len⟩
theorem oX {N:List Str}(hN:N.Nodup){i j:Nat}{x:Str}(a:N[i]?=some x)(b:N[j]?=some x):i=j:=by obtain⟨h1,e1⟩:=Kc.mp a;obtain⟨h2,e2⟩:=Kc.mp b;exact(List.getElem_inj hN).mp (e1.trans e2.symm)
theorem mB {M:Model}{A:Ox}{E:Ow->Ot->Prop}{i:Nat}{x:Str}{v:V}{u:Ow}{Q:Unit->Ot->Prop}(I:Inv X pins σ H s)(hN:X.N.Nodup)(hi:X.N[i]?=some x)(hx:Af X.env.scope x)(r:RelV v u)
 (h:∀ s',Inv X pins (σ.set i (some v)) H s'->(∃ a,Heap.SameBut a s.heap s'.heap/\(a=X.env.locals\/X.env.cells.lookup x=some a))->Q () s') (hf:autoParam (X.fn x=true\/X.env.scope.names.lookup x=some .local) Oz._auto_1):wpAny M A (storeName X.env x u) Q E s:=by
 obtain⟨m,hn,hl⟩:=id I.loc;have hcls:(X.env.scope.kind==.class || (X.env.scope.kind==.module&&X.env.locals != X.env.globals))=false:=by rw[I.ok.kind];rfl
 have hiσ:i<σ.length:=by rw[I.len];exact(Kc.mp hi).1
 have cne:=I.cne;have tracked:∀{a:Addr}{h':Heap},(∃ o,s.heap.get? a=some o/\H a=none)->Heap.SameBut a s.heap h'->HOk X.prog X.w H h':=fun{a h'} ha hs b ob e=>by
  obtain⟨_,_,hfree⟩:=ha;refine(I.hok b ob e).stay (fun c w' hc q=>(hs.2 c ?_).trans q) (fun _ q=>q) fun _ _ q=>q;rintro rfl;rcases hc with rfl|hc
  .rw[hfree]at e;cases e
  .rw[hfree]at hc;cases hc
 rcases hx with hk|hk
 .refine wpAny_storeName_local hk hn (fun h' hn' hs=>?_) hcls;obtain⟨oL,_,_,hoL,_⟩:=id hn;refine h _ ⟨I.ok,I.os,I.bare,⟨fun b o e n hb hx=>?_,fun b o e n hb hx=>?_,I.base.free,fun b o e hx=>?_,I.base.tups,I.base.frzs,I.base.tbls⟩,⟨_,hn',fun j y v' e1 e2 e3=>?_⟩,fun y c e=>?_,I.free,I.freeC,fun p hp=>?_,tracked ⟨oL,hoL,I.free⟩ hs,by simpa using I.len⟩ ⟨_,hs,.inl rfl⟩
  .exact(hs.2 b (KJ (KR (Kt e) I.ok.above))).trans (I.base.keep b o e n hb hx)
  .obtain⟨sl,e1⟩:=I.base.slot b o e n hb hx;exact⟨sl,(hs.2 b (KJ (KR (Kt e) I.ok.above))).trans e1⟩
  .obtain⟨o',e1⟩:=I.base.there b o e hx;exact⟨o',(hs.2 b (KJ (KR (Kt e) I.ok.above))).trans e1⟩
  .by_cases hj:j=i
   .subst hj;rw[hi]at e1;cases e1;rw[KB hiσ]at e2;cases e2;exact⟨u,r,.inl ⟨hk,by simp⟩⟩
   .rw[Kz (Lj hj)]at e2;obtain⟨u',r',q⟩:=hl j y v' e1 e2 e3;refine⟨u',r',?_⟩;rcases q with⟨k,e⟩|⟨k,c,e,z⟩
    .refine .inl ⟨k,?_⟩;have:y≠x:=fun e=>hj (oX hN e1 (e▸hi));simp[this,e]
    .exact .inr ⟨k,c,e,z.sameBut hs (cne y c e)⟩
  .obtain⟨w',z⟩:=I.cell y c e;exact⟨w',z.sameBut hs (cne y c e)⟩
  .obtain⟨e,n,ne,nf,d⟩:=I.pin p hp;exact⟨(hs.2 p.1 ne).trans e,n,ne,nf,d⟩
 .have hfn:X.fn x=true:=by
   rcases hf with z|z
   .exact z
   .rw[z]at hk;cases hk
  obtain⟨c,hc⟩:=I.ok.has x (.inl hk);obtain⟨w',z⟩:=I.cell x c hc;refine wpAny_storeName_cell I.ok.kind hk hc z (fun h' hc' hs=>?_);obtain⟨oc,hoc,hocd⟩:=id z;refine h { s with heap:=h' } ⟨I.ok,I.os,I.bare,⟨fun b o e n hb hx=>?_,fun b o e n hb hx=>?_,I.base.free,fun b o e hx=>?_,I.base.tups,I.base.frzs,I.base.tbls⟩,⟨m,hn.sameBut hs (Lj (cne x c hc)),fun j y v' e1 e2 e3=>?_⟩,fun y c' e=>?_,I.free,I.freeC,fun p hp=>?_,tracked ⟨oc,hoc,I.freeC x c hc⟩ hs,by simpa using I.len⟩ ⟨c,hs,.inr hc⟩
  .exact(hs.2 b (KJ (KR (Kt e) (I.ok.cab x c hfn hc)))).trans (I.base.keep b o e n hb hx)
  .obtain⟨sl,e1⟩:=I.base.slot b o e n hb hx;exact⟨sl,(hs.2 b (KJ (KR (Kt e) (I.ok.cab x c hfn hc)))).trans e1⟩
  .obtain⟨o',e1⟩:=I.base.there b o e hx;exact⟨o',(hs.2 b (KJ (KR (Kt e) (I.ok.cab x c hfn hc)))).trans e1⟩
  .by_cases hj:j=i
   .subst hj;rw[hi]at e1;cases e1;rw[KB hiσ]at e2;cases e2;exact⟨u,r,.inr ⟨.inl hk,c,hc,hc'⟩⟩
   .rw[Kz (Lj hj)]at e2;obtain⟨u',r',q⟩:=hl j y v' e1 e2 e3;refine⟨u',r',?_⟩;rcases q with q|⟨k,c',e,z'⟩
    .exact .inl q
    .refine .inr ⟨k,c',e,z'.sameBut hs ?_⟩;rintro rfl;exact hj (oX hN e1 (I.ok.inj _ _ _ e hc▸hi))
  .by_cases hcc:c'=c
   .subst hcc;exact⟨_,hc'⟩
   .obtain⟨w2,z2⟩:=I.cell y c' e;exact⟨w2,z2.sameBut hs hcc⟩
  .obtain⟨e,n,ne,nf,d⟩:=I.pin p hp;refine⟨(hs.2 p.1 ?_).trans e,n,ne,nf,d⟩;intro q;rw[q,hoc]at e;have q':oc=p.2:=K4 e;exact d w' (by rw[<- q'];exact hocd)
theorem j_ {M:Model}{A:Ox}{E:Ow->Ot->Prop}{i:Nat}{x:Str}{v:V}{u:Ow}{Q:Unit->Ot->Prop}(I:Inv X pins σ H s)(hN:X.N.Nodup)(hi:X.N[i]?=some x)(hx:Af X.env.scope x)(r:RelV v u)
 (h:∀ s',Inv X pins (σ.set i (some v)) H s'->Q () s') (hf:autoParam (X.fn x=true\/X.env.scope.names.lookup x=some .local) Oz._auto_1):wpAny M A (storeName X.env x u) Q E s:=
 mB I hN hi hx r (fun s' I' _=>h s' I') hf
theorem Inv.call' {s':Ot}{ch:List Addr}(I:Inv X pins σ H s)(ho:s'.os=s.os)(u:Un (frs X.stack) ch H H' s.heap s'.heap)(hok:HOk X.prog X.w H' s'.heap)(hg:AllBare s'.gens)
 (hch:∀ b∈ch,(b∈X.ex\/X.s₀.heap.objs.size<=b)/\b≠X.env.locals/\(∀ x c,X.env.cells.lookup x=some c->c≠b)/\∀ p∈X.pn++pins,p.1≠b):Inv X pins σ H' s':=by
 obtain⟨h',g',d',t',o'⟩:=s';have e:o'=s.os:=ho;subst e;exact I.call (g':=g') (t':=t') (d':=d') u hok hg hch
end
noncomputable abbrev XK:=Ow->Option Addr->Hp->Prop
noncomputable abbrev St:=List (Option V)
noncomputable abbrev VK:=V->Hp->Prop
noncomputable abbrev TE:=St->Hp->VK->Prop
noncomputable abbrev TT:=St->Hp->(Bool->Hp->Prop)->Prop
noncomputable abbrev TA:=St->Hp->(List V->Hp->Prop)->Prop
structure Ends where
 nx:St->Hp->Prop
 rt:VK
 bk:St->Hp->Prop:=fun _ _=>False
 ct:St->Hp->Prop:=fun _ _=>False
noncomputable abbrev TS:=Ends->St->Hp->Prop
def EP (X:Cx)(pins:List (Addr×Obj))(σ:St)(Q:VK)(u:Ow)(s':Ot):Prop:=∃ v H',Inv X pins σ H' s'/\RelV v u/\Q v H'
def TP (X:Cx)(pins:List (Addr×Obj))(σ:St)(Q:Bool->Hp->Prop)(b:Bool)(s':Ot):Prop:=∃ H',Inv X pins σ H' s'/\Q b H'
def AP (X:Cx)(pins:List (Addr×Obj))(σ:St)(Q:List V->Hp->Prop)(us:List Ow)(s':Ot):Prop:=∃ vs H',Inv X pins σ H' s'/\Vals vs us/\Q vs H'
def SP (X:Cx)(pins:List (Addr×Obj))(D:Ends)(f:Flow)(s':Ot):Prop:=
 match f with
 | .next=>∃ σ' H',Inv X pins σ' H' s'/\D.nx σ' H'
 | .brk=>∃ σ' H',Inv X pins σ' H' s'/\D.bk σ' H'
 | .cont=>∃ σ' H',Inv X pins σ' H' s'/\D.ct σ' H'
 | .ret u=>∃ v σ' H',Inv X pins σ' H' s'/\RelV v u/\D.rt v H'
def PE (X:Cx)(e:Expr)(t:TE):Prop:=∀(pins:List (Addr×Obj))(s:Ot)(σ:St)(H:Hp)(Q:VK),Inv X pins σ H s->t σ H Q->wpAny (model X.prog X.w) X.A (eval e X.env) (EP X pins σ Q) X.xe s
def PT (X:Cx)(e:Expr)(t:TT):Prop:=∀(pins:List (Addr×Obj))(s:Ot)(σ:St)(H:Hp)(Q:Bool->Hp->Prop),Inv X pins σ H s->t σ H Q->wpAny (model X.prog X.w) X.A (isTrue e X.env (eval e X.env)) (TP X pins σ Q) X.xe s
def PW (X:Cx)(e:Expr)(t:TT):Prop:=∀(whole:Sem Ow)(pins:List (Addr×Obj))(s:Ot)(σ:St)(H:Hp)(Q:Bool->Hp->Prop),Inv X pins σ H s->t σ H Q->wpAny (model X.prog X.w) X.A (isTrue e X.env whole) (TP X pins σ Q) X.xe s
theorem PW.pt {X:Cx}{e:Expr}{t:TT}(h:PW X e t):PT X e t:=h _
def PA (X:Cx)(es:List Expr)(t:TA):Prop:=∀(pos:Pos)(pins:List (Addr×Obj))(s:Ot)(σ:St)(H:Hp)(Q:List V->Hp->Prop),Inv X pins σ H s->t σ H Q->wpAny (model X.prog X.w) X.A (spliced (backTo pos (starEach es X.env))) (AP X pins σ Q) X.xe s
def PS (X:Cx)(st:Stmt)(t:TS):Prop:=∀(pins:List (Addr×Obj))(s:Ot)(σ:St)(H:Hp)(D:Ends),Inv X pins σ H s->t D σ H->wpAny (model X.prog X.w) X.A (exec st X.env) (SP X pins D) X.xe s
def PSs (X:Cx)(st:List Stmt)(t:TS):Prop:=∀(pins:List (Addr×Obj))(s:Ot)(σ:St)(H:Hp)(D:Ends),Inv X pins σ H s->t D σ H->wpAny (model X.prog X.w) X.A (execs st X.env) (SP X pins D) X.xe s
theorem bX {α:Type}{t:Sem α}{Q Q':α->Ot->Prop}{M:Model}{A:Ox}{E:Ow->Ot->Prop}{s:Ot}(h:wpAny M A t Q E s)(hQ:∀ a s,Q a s->Q' a s):wpAny M A t Q' E s:=LC h hQ fun _ _ x=>x
section
variable {X:Cx}
noncomputable def fB (i:Nat):TE:=fun σ H Q=>∃ v,σ[i]?=some (some v)/\Q v H
noncomputable def tC (v:V):TE:=fun _ H Q=>Q v H
theorem Dc {i:Nat} {x:Str} {pos:Pos} (hN:X.N[i]?=some x) (hv:Vis X.env.scope x) (hd:autoParam ((x==("__debug__" : Str))=false) Oy._auto_1) (hcd:autoParam ((x==("__classdict__" : Str))=false) Oy._auto_1):PE X (.Name x pos) (fB i):=by
 intro pins s σ H Q I h;obtain⟨v,e,h⟩:=h;obtain⟨m,hn,hl⟩:=I.loc;obtain⟨u,r,l⟩:=hl i x v hN e hv;have fin:EP X pins σ Q u s:=⟨v,H,I,r,h⟩;rcases l with⟨hk,hm⟩|⟨hk,c,hc,hcell⟩
 .exact wpAny_Name (wpAny_loadName_local I.ok.kind hk hn hm fin) hd
 .rcases hk with hk|hk
  .exact wpAny_Name (wpAny_loadName_cell I.ok.kind hk hc hcell fin) hd
  .exact wpAny_Name (wpAny_loadName_free I.ok.kind hk hc hcell fin hcd) hd
theorem wn {i j pos}:PE X (.Constant (.int i) j pos) (tC (.int i)):=fun _ _ _ H _ I h=>wpAny_Constant_int ⟨.int i,H,I.tok _,⟨_,rfl⟩,h⟩
theorem FS {b j pos}:PE X (.Constant (.bool b) j pos) (tC (.bl b)):=fun _ _ _ H _ I h=>Constant_bool ⟨.bl b,H,I,rfl,h⟩
theorem Dd {x j pos}:PE X (.Constant (.str x) j pos) (tC (.str x)):=fun _ _ _ H _ I h=>Calls.Constant_str ⟨.str x,H,I.tok _,⟨_,rfl⟩,h⟩
def Gl (X:Cx)(x:Str):Prop:=X.env.kindOf x=some .globalImplicit
theorem jK {E:Ow->Ot->Prop}{pins:List (Addr×Obj)}{s:Ot}{σ:St}{H:Hp}{x:Str}{u:Ow}{pos:Pos}{Q:Ow->Ot->Prop}(I:Inv X pins σ H s)(hg:Gl X x)(hm:X.mg x=some u)(h:Q u s)
 (hd:autoParam ((x==("__debug__" : Str))=false) Oy._auto_1):wpAny (model X.prog X.w) X.A (eval (.Name x pos) X.env) Q E s:=
 Calls.Name_function_global I.ok.kind hg (Calls.loadGlobal_global (by rw[I.ok.glob];exact I.mod.glob.keeps I.bk) hm h) hd
theorem kc {E:Ow->Ot->Prop}{pins:List (Addr×Obj)}{s:Ot}{σ:St}{H:Hp}{x:Str}{u:Ow}{pos:Pos}{Q:Ow->Ot->Prop}(I:Inv X pins σ H s)(hg:Gl X x)(hm:X.mg x=none)(hv:bootBuiltins x=some u)(h:Q u s)
 (hn:autoParam (x≠"__name__") Oy._auto_1) (hd:autoParam ((x==("__debug__" : Str))=false) Oy._auto_1):wpAny (model X.prog X.w) X.A (eval (.Name x pos) X.env) Q E s:=by
 obtain⟨mb,h1,h2⟩:=I.mod.blt;exact Calls.Name_function_global I.ok.kind hg (Calls.loadGlobal_builtin (by rw[I.ok.glob];exact I.mod.glob.keeps I.bk) hm (by rw[I.ok.blt];exact h1.keeps I.bk) ((h2 x hn).trans hv) h) hd
theorem Ak {x:Str} {v:V} {u:Ow} {pos:Pos} (hg:Gl X x) (hm:X.mg x=none) (hv:bootBuiltins x=some u) (r:RelV v u) (hn:autoParam (x≠"__name__") Oy._auto_1) (hd:autoParam ((x==("__debug__" : Str))=false) Oy._auto_1):PE X (.Name x pos) (tC v):=fun _ _ _ H _ I h=>kc I hg hm hv ⟨v,H,I,r,h⟩ hn hd
variable {a b:Expr}{ta tb:TE}{pos:Pos}
variable {tA tB':TT}{aF:List Expr}
noncomputable def JV (t u:TT):TT:=fun σ H Q=>t σ H fun c H1=>if c=true then Q true H1 else u σ H1 Q
noncomputable def IM (t:TT):TT:=fun σ H Q=>t σ H fun c H1=>Q (!c) H1
theorem De (ha:PT X a tA):PW X (.BoolOp .Or [a] pos) tA:=by
 intro wh pins s σ H Q I h;refine isTrue_or (bX (ha pins s σ H Q I h) fun c s1 e=>?_);cases c with
 |false=>exact isTrue_or_nil e
 |true=>exact e
theorem FT (ha:PT X a tA)(hb:PW X (.BoolOp .Or (b::aF) pos) tB'):PW X (.BoolOp .Or (a::b::aF) pos) (JV tA tB'):=by
 intro wh pins s σ H Q I h;refine isTrue_or (bX (ha pins s σ H _ I h) fun c s1 ⟨H1,I1,q1⟩=>?_);cases c with
 |true=>exact⟨H1,I1,q1⟩
 |false=>exact hb wh pins s1 σ H1 Q I1 q1
theorem Df (ha:PT X a tA):PT X (.UnaryOp .Not a pos) (IM tA):=by intro pins s σ H Q I h;exact isTrue_not (ha pins s σ H (fun c H1=>Q (!c) H1) I h)
noncomputable def FU (ta tb:TE):TE:=fun σ H Q=>ta σ H fun x H1=>∃ c,x=.bl c/\if c=true then tb σ H1 Q else Q (.bl false) H1
noncomputable def IN (ta tb:TE):TE:=fun σ H Q=>ta σ H fun x H1=>∃ c,x=.bl c/\if c=true then Q (.bl true) H1 else tb σ H1 Q
noncomputable def FV (ta:TE):TE:=fun σ H Q=>ta σ H fun x H1=>∃ c,x=.bl c/\Q (.bl (!c)) H1
theorem Dg {op}{t:TE}(h:PE X a t):PE X (.BoolOp op [a] pos) t:=fun pins s σ H Q I hw=>BoolOp_one (h pins s σ H Q I hw)
theorem Dh (ha:PE X a ta)(hb:PE X (.BoolOp .And (b::aF) pos) tb):PE X (.BoolOp .And (a::b::aF) pos) (FU ta tb):=by
 intro pins s σ H Q I h;refine BoolOp_and (bX (ha pins s σ H _ I h) fun v s1 ⟨x,H1,I1,r1,q1⟩=>?_);obtain⟨c,rfl,q1⟩:=q1;cases r1;refine LU ?_;cases c with
 |true=>exact hb pins s1 σ H1 Q I1 q1
 |false=>exact⟨.bl false,H1,I1,rfl,q1⟩
theorem FW (ha:PE X a ta)(hb:PE X (.BoolOp .Or (b::aF) pos) tb):PE X (.BoolOp .Or (a::b::aF) pos) (IN ta tb):=by
 intro pins s σ H Q I h;refine BoolOp_or (bX (ha pins s σ H _ I h) fun v s1 ⟨x,H1,I1,r1,q1⟩=>?_);obtain⟨c,rfl,q1⟩:=q1;cases r1;refine LU ?_;cases c with
 |false=>exact hb pins s1 σ H1 Q I1 q1
 |true=>exact⟨.bl true,H1,I1,rfl,q1⟩
theorem Di (ha:PE X a ta):PE X (.UnaryOp .Not a pos) (FV ta):=by intro pins s σ H Q I h;refine UnaryOp_ (bX (ha pins s σ H _ I h) fun v s1 ⟨x,H1,I1,r1,q1⟩=>?_);obtain⟨c,rfl,q1⟩:=q1;cases r1;exact not_of (LU ⟨.bl (!c),H1,I1,rfl,q1⟩)
noncomputable def JW (t:TT)(ta tb:TE):TE:=fun σ H Q=>t σ H fun c H1=>if c=true then ta σ H1 Q else tb σ H1 Q
theorem wo {c:Expr}(hc:PT X c tA)(ha:PE X a ta)(hb:PE X b tb):PE X (.IfExp c a b pos) (JW tA ta tb):=by
 intro pins s σ H Q I h;refine wpAny_IfExp (bX (hc pins s σ H _ I h) fun d s1 ⟨H1,I1,q1⟩=>?_);cases d with
 |true=>exact ha pins s1 σ H1 Q I1 q1
 |false=>exact hb pins s1 σ H1 Q I1 q1
end
def SqL (K:Ou)(H:Hp)(a:Addr)(xs:List V):Prop:=
 Rd H a (.lst xs)\/
  ∃(o:Obj)(its:Array Ow)(n:Nat),K.lookup a=some o/\o.cls=.type "list"/\o.dict=none/\o.data=.seq its n/\its.size<=sizeLine/\Vals xs its.toList
def SqT (K:Ou)(H:Hp)(a:Addr)(xs:List V):Prop:=
 Rd H a (.tup xs)\/
  ∃(o:Obj)(its:Array Ow)(n:Nat),K.lookup a=some o/\o.cls=.type "tuple"/\o.data=.seq its n/\its.size<=sizeLine/\Vals xs its.toList
noncomputable def IQ:Ow->Option V
 | .none=>some .non
 | .bool b=>some (.bl b)
 | .int i _=>some (.int i)
 | .str x _=>some (.str x)
 | .bytes b _=>some (.byt b)
 | .float b _=>some (.flt b)
 | .ref a=>some (.ref a)
 | .type n=>some (.ty n)
 |_=>none
theorem RelV.abs {x:V}{u:Ow}(r:RelV x u):IQ u=some x:=by
 cases x with
 |non=>cases r;rfl
 |bl _=>cases r;rfl
 |int _=>obtain⟨t,rfl⟩:=r;rfl
 |str _=>obtain⟨t,rfl⟩:=r;rfl
 |byt _=>obtain⟨t,rfl⟩:=r;rfl
 |flt _=>obtain⟨t,rfl⟩:=r;rfl
 |ref _=>cases r;rfl
 |ty _=>cases r;rfl
theorem RelV.inj {x y:V}{u:Ow}(r:RelV x u)(q:RelV y u):x=y:=K4 (r.abs.symm.trans q.abs)
theorem Vals.inj:∀{xs ys:List V}{us:List Ow},Vals xs us->Vals ys us->xs=ys
 |_,_,_,.nil,.nil=>rfl
 |_,_,_,.cons r t,.cons r' t'=>by rw[r.inj r',Vals.inj t t']
section
variable {X:Cx}{pins:List (Addr×Obj)}{σ:St}{H:Hp}{s:Ot}{a:Addr}{xs ys:List V}
theorem SqL.of {K:Ou}(h:H a=some (.lst xs)):SqL K H a xs:=.inl (.inl h)
theorem SqT.of {K:Ou}(h:H a=some (.tup xs)):SqT K H a xs:=.inl (.inl h)
theorem Inv.list (I:Inv X pins σ H s)(h:SqL X.K H a xs):∃ its:List Ow,Vals xs its/\PlainL s.heap a its.toArray/\xs.length<=sizeLine:=by
 rcases h with h|⟨o,its,n,hk,hc,hd,hs,hz,r⟩
 .obtain⟨z,its,n,r,e⟩:=h.ok I.hok;exact⟨its,r,⟨_,n,e,rfl,rfl,rfl⟩,z⟩
 .refine⟨its.toList,r,⟨o,n,I.kIn a o hk,hc,hd,by simpa using hs⟩,?_⟩;have e:=r.length;simp only[KM]at e;lia
theorem Inv.tuple (I:Inv X pins σ H s)(h:SqT X.K H a xs):∃ its:List Ow,Vals xs its/\IsTup s.heap a its.toArray/\xs.length<=sizeLine:=by
 rcases h with h|⟨o,its,n,hk,hc,hs,hz,r⟩
 .obtain⟨z,its,r,p⟩:=h.ok I.hok;exact⟨its,r,p,z⟩
 .refine⟨its.toList,r,⟨o,I.kIn a o hk,hc,n,by simpa using hs⟩,?_⟩;have e:=r.length;simp only[KM]at e;lia
theorem Inv.list_inj (I:Inv X pins σ H s)(h:SqL X.K H a xs)(h':SqL X.K H a ys):xs=ys:=by
 obtain⟨its,r,⟨o,n,e,_,_,d⟩,_⟩:=I.list h;obtain⟨its',r',⟨o',n',e',_,_,d'⟩,_⟩:=I.list h';rw[e]at e';cases e';rw[d]at d';injection d' with d1 _;have:its=its':=by simpa using KN Array.toList d1
 subst this;exact r.inj r'
theorem Inv.tuple_inj (I:Inv X pins σ H s)(h:SqT X.K H a xs)(h':SqT X.K H a ys):xs=ys:=by
 obtain⟨its,r,⟨o,e,_,n,d⟩,_⟩:=I.tuple h;obtain⟨its',r',⟨o',e',_,n',d'⟩,_⟩:=I.tuple h';rw[e]at e';cases e';rw[d]at d';injection d' with d1 _;have:its=its':=by simpa using KN Array.toList d1
 subst this;exact r.inj r'
end
noncomputable abbrev Cx.wish (X:Cx)(E:Ow->Ot->Prop):Cx:={ X with xe:=E }
noncomputable abbrev Cx.nox (X:Cx):Cx:=X.wish fun _ _=>False
theorem Cx.Ok.wish {X:Cx}(ok:X.Ok)(E:Ow->Ot->Prop):(X.wish E).Ok:=⟨ok.mod,ok.kind,ok.glob,ok.blt,ok.above,ok.inj,ok.has,ok.cab,ok.hd,ok.frames,ok.stk,ok.exf,ok.bs,ok.bsz,ok.noex,ok.exfs,ok.funs,ok.frf,ok.kt⟩
theorem Cx.Ok.unwish {X:Cx}{E:Ow->Ot->Prop}(ok:(X.wish E).Ok):X.Ok:=⟨ok.mod,ok.kind,ok.glob,ok.blt,ok.above,ok.inj,ok.has,ok.cab,ok.hd,ok.frames,ok.stk,ok.exf,ok.bs,ok.bsz,ok.noex,ok.exfs,ok.funs,ok.frf,ok.kt⟩
section
variable {X:Cx}{pins:List (Addr×Obj)}{σ:St}{H:Hp}{s:Ot}{E:Ow->Ot->Prop}
theorem Inv.wish (I:Inv X pins σ H s)(E:Ow->Ot->Prop):Inv (X.wish E) pins σ H s:=⟨I.ok.wish E,I.os,I.bare,I.base,I.loc,I.cell,I.free,I.freeC,I.pin,I.hok,I.len⟩
theorem Inv.unwish (I:Inv (X.wish E) pins σ H s):Inv X pins σ H s:=⟨I.ok.unwish,I.os,I.bare,I.base,I.loc,I.cell,I.free,I.freeC,I.pin,I.hok,I.len⟩
theorem SP.unwish {D:Ends}{f:Flow}{s':Ot}(h:SP (X.wish E) pins D f s'):SP X pins D f s':=by
 cases f with
 |next=>obtain⟨σ',H',I,q⟩:=h;exact⟨σ',H',I.unwish,q⟩
 |brk=>obtain⟨σ',H',I,q⟩:=h;exact⟨σ',H',I.unwish,q⟩
 |cont=>obtain⟨σ',H',I,q⟩:=h;exact⟨σ',H',I.unwish,q⟩
 |ret u=>obtain⟨v,σ',H',I,r,q⟩:=h;exact⟨v,σ',H',I.unwish,r,q⟩
theorem PE.nox {e:Expr}{t:TE}(h:PE X.nox e t):PE X e t:=fun pins s σ H Q I hw=>LC (h pins s σ H Q (I.wish _) hw) (fun _ _ ⟨v,H',I',r,q⟩=>⟨v,H',I'.unwish,r,q⟩) fun _ _ z=>False.elim z
theorem PT.nox {e:Expr}{t:TT}(h:PT X.nox e t):PT X e t:=fun pins s σ H Q I hw=>LC (h pins s σ H Q (I.wish _) hw) (fun _ _ ⟨H',I',q⟩=>⟨H',I'.unwish,q⟩) fun _ _ z=>False.elim z
theorem PSs.nox {st:List Stmt}{t:TS}(h:PSs X.nox st t):PSs X st t:=fun pins s σ H D I hw=>LC (h pins s σ H D (I.wish _) hw) (fun _ _ q=>q.unwish) fun _ _ z=>False.elim z
end
section
variable {X:Cx}{st:Stmt}{aF:List Stmt}{t u:TS}{e:Expr}{te:TE}{pos:Pos}
noncomputable def FX:TS:=fun D σ H=>D.nx σ H
noncomputable def IR (t u:TS):TS:=fun D σ H=>t { D with nx:=u D } σ H
theorem Al:PSs X [] FX:=fun _ _ σ H _ I h=>MT ⟨σ,H,I,h⟩
theorem wq (h1:PS X st t)(h2:PSs X aF u):PSs X (st::aF) (IR t u):=by
 intro pins s σ H D I h;refine wpAny_execs_cons (bX (h1 pins s σ H { D with nx:=u D } I h) fun f s1 q=>?_);cases f with
 |next=>obtain⟨σ',H',I',q⟩:=q;exact h2 pins s1 σ' H' D I' q
 |ret v=>exact q
 |brk=>exact q
 |cont=>exact q
theorem sU (h1:PS X st t):PSs X [st] t:=by
 intro pins s σ H D I h;refine wpAny_execs_cons (bX (h1 pins s σ H D I h) fun f s1 q=>?_);cases f with
 |next=>exact MT q
 |ret v=>exact q
 |brk=>exact q
 |cont=>exact q
noncomputable def FY:TS:=fun D σ H=>D.ct σ H
theorem oY:PS X (.Continue pos) FY:=fun _ _ σ H _ I h=>wpAny_Continue ⟨σ,H,I,h⟩
theorem Inv.quiet {pins:List (Addr×Obj)}{σ:St}{H:Hp}{s:Ot}(I:Inv X pins σ H s):interactive X.env=false:=by simp[interactive,I.ok.kind]
noncomputable def wt (te:TE):TS:=fun D σ H=>te σ H fun _ H1=>D.nx σ H1
theorem jL (he:PE X e te)(hs:autoParam (swapsWith e none pos.line X.env=pure false) OD._auto_1):PS X (.Expr e pos) (wt te):=by intro pins s σ H D I h;exact wpAny_Expr_any (bX (he pins s σ H _ I h) fun v s1 ⟨x,H1,I1,r1,q1⟩=>⟨σ,H1,I1,q1⟩) I.quiet hs
noncomputable def IS (te:TE):TS:=fun D σ H=>te σ H D.rt
theorem Dj (he:PE X e te):PS X (.Return (some e) pos) (IS te):=by intro pins s σ H D I h;exact wpAny_Return_some (bX (he pins s σ H _ I h) fun v s1 ⟨x,H1,I1,r1,q1⟩=>⟨x,σ,H1,I1,r1,q1⟩)
noncomputable def IT (c:TT)(t u:TS):TS:=fun D σ H=>c σ H fun b H1=>if b=true then t D σ H1 else u D σ H1
theorem FZ {c:Expr}{a b:List Stmt}{tc:TT}(hc:PT X c tc)(ha:PSs X a t)(hb:PSs X b u):PS X (.If c a b pos) (IT tc t u):=by
 intro pins s σ H D I h;refine wpAny_If (bX (hc pins s σ H _ I h) fun d s1 ⟨H1,I1,q1⟩=>?_);cases d with
 |true=>exact ha pins s1 σ H1 D I1 q1
 |false=>exact hb pins s1 σ H1 D I1 q1
end
noncomputable abbrev TG:=V->St->Hp->(St->Hp->Prop)->Prop
noncomputable abbrev Cf:=List V->St->Hp->(St->Hp->Prop)->Prop
def PG (X:Cx)(target:Expr)(t:TG):Prop:=
 ∀(pins:List (Addr×Obj))(s:Ot)(σ:St)(H:Hp)(v:V)(u:Ow)(Q:St->Hp->Prop),Inv X pins σ H s->RelV v u->t v σ H Q->
  wpAny (model X.prog X.w) X.A (assign target X.env u) (fun _ s'=>∃ σ' H',Inv X pins σ' H' s'/\Q σ' H') X.xe s
def Dk (X:Cx)(ts:List Expr)(t:Cf):Prop:=
 ∀(pins:List (Addr×Obj))(s:Ot)(σ:St)(H:Hp)(vs:List V)(us:List Ow)(Q:St->Hp->Prop),Inv X pins σ H s->Vals vs us->t vs σ H Q->
  wpAny (model X.prog X.w) X.A (assignInOrder ((assignEach ts X.env).map (·.2)) us) (fun _ s'=>∃ σ' H',Inv X pins σ' H' s'/\Q σ' H') X.xe s
noncomputable abbrev Ie:=V->V->Hp->VK->Prop
def JJ (X:Cx)(op:Operator)(t:Ie):Prop:=
 ∀(pins:List (Addr×Obj))(s:Ot)(σ:St)(H:Hp)(x y:V)(v u:Ow)(Q:VK),Inv X pins σ H s->RelV x v->RelV y u->t x y H Q->
  wpAny (model X.prog X.w) X.A (inplaceOp op v u) (EP X pins σ Q) X.xe s
section
variable {X:Cx}{pos:Pos}
noncomputable def jn (i:Nat):TG:=fun v σ H Q=>Q (σ.set i (some v)) H
theorem jM {i:Nat}{x:Str}(hN:X.N.Nodup)(hi:X.N[i]?=some x)(hx:Af X.env.scope x)(hf:autoParam (X.fn x=true\/X.env.scope.names.lookup x=some .local) Oz._auto_1):PG X (.Name x pos) (jn i):=by intro pins s σ H v u Q I r h;exact wpAny_assign_Name (j_ I hN hi hx r (fun s' I'=>⟨_,H,I',h⟩) hf)
noncomputable def F0:Cf:=fun vs σ H Q=>vs=[]/\Q σ H
noncomputable def oZ (t:TG)(u:Cf):Cf:=fun vs σ H Q=>∃ v r,vs=v::r/\t v σ H fun σ' H'=>u r σ' H' Q
theorem sV:Dk X [] F0:=by intro pins s σ H vs us Q I r h;obtain⟨e,h⟩:=h;subst e;cases r;exact assignInOrder_nil ⟨σ,H,I,h⟩
theorem cy {e:Expr}{es:List Expr}{t:TG}{u:Cf}(h1:PG X e t)(h2:Dk X es u)
 (hs:autoParam ((assignEach (e::es) X.env).map (·.2)=assign e X.env::(assignEach es X.env).map (·.2)) OD._auto_1):Dk X (e::es) (oZ t u):=by
 intro pins s σ H vs us Q I r h;obtain⟨v,vr,e1,h⟩:=h;subst e1;cases r with
 |cons r rr=>rw[hs];refine assignInOrder_cons (bX (h1 pins s σ H _ _ _ I r h) fun _ s1 ⟨σ1,H1,I1,q1⟩=>?_);exact h2 pins s1 σ1 H1 _ _ Q I1 rr q1
noncomputable def F1 (K:Ou)(n:Nat)(t:Cf):TG:=fun v σ H Q=>∃ a xs,v=.ref a/\SqT K H a xs/\xs.length=n/\t xs σ H Q
theorem wu {es:List Expr}{k:Nat}{t:Cf}{n:Nat}(hc:X.calm=true)(h:Dk X es t)
 (hn:autoParam ((assignEach es X.env).length=n) OD._auto_1) (hst:autoParam ((assignEach es X.env).findIdx? (·.1)=none) OD._auto_1):PG X (.Tuple es k pos) (F1 X.K n t):=by
 intro pins s σ H v u Q I r hw;obtain⟨a,xs,e1,hq,hl,hw⟩:=hw;subst e1;cases r;obtain⟨its,rv,ht,hz⟩:=I.tuple hq;refine assign_Tuple_tuple (I.ok.hd hc) ht (by simp[hn,<- hl,rv.length]) hst fun h' hx=>?_;have I1:Inv X pins σ H { s with heap:=h' }:=I.kept (t':=s.toks) fun b o e=>hx b o (KJ (Kt e)) e;exact h pins _ σ H xs _ Q I1 (by simpa using rv) hw
noncomputable def Dm (te:TE)(g:TG):TS:=fun D σ H=>te σ H fun x H1=>g x σ H1 D.nx
theorem qY {i:Nat}{x:Str}{e:Expr}{te:TE}{pos':Pos}(hN:X.N.Nodup)(hi:X.N[i]?=some x)(hx:Af X.env.scope x)(he:PE X e te)(hs:autoParam (swapsWith e (some (.Name x pos')) pos.line X.env=pure false) OD._auto_1)(hf:autoParam (X.fn x=true\/X.env.scope.names.lookup x=some .local) Oz._auto_1) :
 PS X (.Assign [.Name x pos'] e pos) (Dm te (jn i)):=by
 intro pins s σ H D I h;refine wpAny_Assign_Name (bX (he pins s σ H _ I h) fun v s1 ⟨y,H1,I1,r1,q1⟩=>?_) hs;exact j_ I1 hN hi hx r1 (fun s2 I2=>⟨_,H1,I2,q1⟩) hf
noncomputable def IU (i:Nat)(te:TE)(ti:Ie):TS:=fun D σ H=>∃ x,σ[i]?=some (some x)/\te σ H fun y H1=>ti x y H1 fun z H2=>D.nx (σ.set i (some z)) H2
theorem Do {i:Nat}{x:Str}{e:Expr}{te:TE}{op:Operator}{ti:Ie}{pos':Pos}(hN:X.N.Nodup)(hi:X.N[i]?=some x)(hx:Af X.env.scope x)(he:PE X e te)(ho:JJ X op ti)(hf:autoParam (X.fn x=true\/X.env.scope.names.lookup x=some .local) Oz._auto_1) :
 PS X (.AugAssign (.Name x pos') op e pos) (IU i te ti):=by
 intro pins s σ H D I h;obtain⟨v,e1,h⟩:=h;obtain⟨m,hn,hl⟩:=I.loc;have vis:Vis X.env.scope x:=by rcases hx with k|k;exact .inl k;exact .inr (.inl k)
 obtain⟨u,r,l⟩:=hl i x v hi e1 vis;refine wpAny_AugAssign_Name ?_;have go:wpAny (model X.prog X.w) X.A (eval e X.env) (fun w s₂=>wpAny (model X.prog X.w) X.A (inplaceOp op u w) (fun r s₃=>wpAny (model X.prog X.w) X.A (storeName X.env x r) (fun _=>SP X pins D .next) X.xe s₃) X.xe s₂) X.xe s:=by refine bX (he pins s σ H _ I h) fun w s1 ⟨y,H1,I1,r1,q1⟩=>?_;refine bX (ho pins s1 σ H1 v y u w _ I1 r r1 q1) fun z s2 ⟨zv,H2,I2,r2,q2⟩=>?_;exact j_ I2 hN hi hx r2 (fun s3 I3=>⟨_,H2,I3,q2⟩) hf
 rcases l with⟨hk,hm⟩|⟨hk,c,hc,hcell⟩
 .exact wpAny_loadName_local I.ok.kind hk hn hm go
 .rcases hk with hk|hk
  .exact wpAny_loadName_cell I.ok.kind hk hc hcell go
  .rcases hx with k|k
   .have:X.env.scope.names.lookup x=some .free:=hk;rw[k]at this;cases this
   .have:X.env.scope.names.lookup x=some .free:=hk;rw[k]at this;cases this
noncomputable def JX (f:Int->Int->Int):Ie:=fun x y H Q=>∃ i j,x=.int i/\y=.int j/\Q (.int (f i j)) H
theorem Dp:JJ X .Add (JX fun i j=>i+j):=by intro pins s σ H x y v u Q I r1 r2 h;obtain⟨i,j,e1,e2,q⟩:=h;subst e1;subst e2;obtain⟨t,rfl⟩:=r1;obtain⟨t',rfl⟩:=r2;exact iadd_int ⟨.int _,H,I.tok _,⟨_,rfl⟩,q⟩
noncomputable def Dq (c:TT)(tb:TS):TS:=fun D σ H=>∃ W:Nat->St->Hp->Prop,(∃ m,W m σ H)/\∀ m σ H,W m σ H->
 c σ H fun b H1=>if b=true then ∃ N:St->Hp->Prop,(∀ σ' H',N σ' H'->∃ m',m'<m/\W m' σ' H')/\tb { D with nx:=N,ct:=N,bk:=D.nx } σ H1 else D.nx σ H1
theorem wv {c:Expr}{body:List Stmt}{tc:TT}{tb:TS}(hp:PassesOwn (model X.prog X.w) X.A X.env X.xe)(hc:PT X c tc)(hb:PSs X body tb):PS X (.While c body [] pos) (Dq tc tb):=by
 intro pins s σ H D I h;obtain⟨W,⟨m0,w0⟩,turn⟩:=h;refine wpAny_While (codeAny_whileLoop (fun n s'=>∃ σ' H',Inv X pins σ' H' s'/\W n σ' H') ?_ m0 ⟨σ,H,I,w0⟩);rintro n s1 ⟨σ1,H1,I1,w1⟩;refine Mt hp (bX (hc pins s1 σ1 H1 _ I1 (turn n σ1 H1 w1)) fun b s2 ⟨H2,I2,q2⟩=>?_);cases b with
 |true=>
  obtain⟨N,hN,q2⟩:=q2;rw[Kf rfl];refine Mt hp (bX (hb pins s2 σ1 H2 _ I2 q2) fun f s3 q3=>?_);cases f with
  |next=>obtain⟨σ3,H3,I3,n3⟩:=q3;obtain⟨m',hm,w3⟩:=hN σ3 H3 n3;exact⟨m',hm,σ3,H3,I3,w3⟩
  |cont=>obtain⟨σ3,H3,I3,n3⟩:=q3;obtain⟨m',hm,w3⟩:=hN σ3 H3 n3;exact⟨m',hm,σ3,H3,I3,w3⟩
  |brk=>exact q3
  |ret v=>exact q3
 |false=>rw[Kh Mb];exact MT ⟨σ1,H2,I2,q2⟩
end
structure It where
 go:Nat->Hp->Prop
 yld:Nat->Hp->V->Hp->Prop
 stop:Nat->Hp->Prop
def FpOk (X:Cx)(pins:List (Addr×Obj))(H:Hp)(b:Addr):Prop:=H b=none/\b≠X.env.locals/\b∉X.fs/\(b∈X.ex\/X.s₀.heap.objs.size<=b)/\(∀ x c,X.env.cells.lookup x=some c->c≠b)/\∀ p∈X.pn++pins,p.1≠b
theorem Inv.fpOk {X:Cx}{pins:List (Addr×Obj)}{σ:St}{H H':Hp}{s:Ot}{b:Addr}(I:Inv X pins σ H s)(hb:s.heap.objs.size<=b)(hn:H' b=none):FpOk X pins H' b:=by
 refine⟨hn,Ml (KR I.lt hb),I.nofs hb,.inr (KA I.sz hb),fun x c e z=>?_,fun p hp z=>?_⟩
 .obtain⟨v,q⟩:=I.cell x c e;exact absurd (KR q.lt (by rw[z];exact hb)) (LY _)
 .exact absurd (KR (Kt (I.pin p hp).1) (by rw[z];exact hb)) (LY _)
structure Turn (P:Ov) (w:World) (K:Ou) (tg:Expr) (J:It) (fp:List Addr) (it:Addr) (tn:Nat->Heap->Prop):Prop where
 mem:it∈fp
 obj:∀ i h,tn i h->∀ b∈fp,∃ o,h.get? b=some o/\∀ v,o.data≠.cell v
 keep:∀ i h h',tn i h->(∀ b∈fp,∀ o,h.get? b=some o->h'.get? b=some o)->tn i h'
 item:∀(X:Cx),X.prog=P->X.w=w->X.K=K->X.calm=true->∀(i:Nat)(pins:List (Addr×Obj))(s:Ot)(σ:St)(H:Hp)(E:Ow->Ot->Prop),Inv X pins σ H s->(∀ b∈fp,FpOk X pins H b)->tn i s.heap->J.go i H->
  wpAny (model P w) X.A (pyNext (.ref it)) (fun r s1=>∃ u,r=some u/\
   wpAny (model P w) X.A (letOwnedTupleGo tg (.ref it) u) (fun _ s2=>∃ x H',Inv X pins σ H' s2/\RelV x u/\J.yld i H x H'/\tn (i+1) s2.heap/\∀ b∈fp,H' b=none) E s1) E s
 done:∀(X:Cx),X.prog=P->X.w=w->X.K=K->X.calm=true->∀(i:Nat)(pins:List (Addr×Obj))(s:Ot)(σ:St)(H:Hp)(E:Ow->Ot->Prop),Inv X pins σ H s->(∀ b∈fp,FpOk X pins H b)->tn i s.heap->J.stop i H->
  wpAny (model P w) X.A (pyNext (.ref it)) (fun r s1=>r=none/\Inv X pins σ H s1) E s
 self:∀(A:Ox)(i:Nat)(s:Ot)(Q:Ow->Ot->Prop)(E:Ow->Ot->Prop),tn i s.heap->Q (.ref it) s->wpAny (model P w) A (pyIter (.ref it)) Q E s
noncomputable abbrev TI:=St->Hp->(It->Hp->Prop)->Prop
def JK (X:Cx)(pins:List (Addr×Obj))(σ:St)(tg:Expr)(R:It->Hp->Prop)(itv:Ow)(s2:Ot):Prop:=∃(it:Addr)(fp:List Addr)(tn:Nat->Heap->Prop)(J:It)(H':Hp),itv=.ref it/\Inv X pins σ H' s2/\Turn X.prog X.w X.K tg J fp it tn/\tn 0 s2.heap/\(∀ b∈fp,FpOk X pins H' b)/\R J H'
def PI (X:Cx)(tg iter:Expr)(wi:TI):Prop:=
 ∀(pins:List (Addr×Obj))(s:Ot)(σ:St)(H:Hp)(R:It->Hp->Prop),Inv X pins σ H s->wi σ H R->
  wpAny (model X.prog X.w) X.A (eval iter X.env) (fun v s1=>wpAny (model X.prog X.w) X.A (pyIter v) (JK X pins σ tg R) X.xe s1) X.xe s
theorem ww {M:Model}{A:Ox}{E:Ow->Ot->Prop}{s:Ot}{tg:Expr}{it:Addr}{u:Ow}{o:Obj}{n:String}{vs:Array Ow}{Q:Unit->Ot->Prop}(ho:s.heap.get? it=some o)(hc:o.cls=.type n)(hd:o.data=.fields vs)
 (hn:["enumerate", "zip", "dict_itemiterator", "dict_reverseitemiterator", "odict_iterator", "itertools.zip_longest", "itertools.pairwise"].contains n=false) (hQ:Q () s):wpAny M A (letOwnedTupleGo tg (.ref it) u) Q E s:=by
 unfold letOwnedTupleGo;cases tg<;>first
  |exact Ke hQ
  |(cases u<;>first
     |exact Ke hQ
     |(refine Ka (wpAny_load ho ?_)
       rw[hc,hd];show wpAny M A (if (["enumerate", "zip", "dict_itemiterator", "dict_reverseitemiterator", "odict_iterator", "itertools.zip_longest", "itertools.pairwise"].contains n&&vs[0]?==some (rawInt _))=true then _ else _) Q E s;rw[Kh (by intro h;rw[hn,MO]at h;cases h)];exact Ke hQ))
noncomputable def FM (K:Ou)(a:Addr):It:=⟨fun i H=>∃ xs x,SqL K H a xs/\xs[i]?=some x,fun i H x H'=>H'=H/\∀ xs,SqL K H a xs->xs[i]?=some x,fun i H=>∃ xs,SqL K H a xs/\xs.length<=i⟩
noncomputable def IV (K:Ou)(a:Addr):It:=⟨fun i H=>∃ xs x,SqT K H a xs/\xs[i]?=some x,fun i H x H'=>H'=H/\∀ xs,SqT K H a xs->xs[i]?=some x,fun i H=>∃ xs,SqT K H a xs/\xs.length<=i⟩
noncomputable def Ig (lo:Int)(n:Nat):It:=⟨fun i _=>i<n,fun i H x H'=>H'=H/\x=.int (lo+i),fun i _=>n<=i⟩
theorem uV {P:Ov}{w:World}{K:Ou}{tg:Expr}(a it:Addr):Turn P w K tg (FM K a) [it] it (fun i h=>h.IsListIter it a i) where
 mem:=by simp
 obj:=fun i h st b hb=>by
  have e:b=it:=by simpa using hb
  subst e;obtain⟨o,e,c,d⟩:=st;exact⟨o,e,fun v z=>by rw[d]at z;cases z⟩
 keep:=fun i h h' st k=>st.at fun o e=>k it (by simp) o e
 item:=by intro X hP hw hK hc i pins s σ H E I hf st hg;subst hP hw hK;obtain⟨xs,x,hq,hx⟩:=hg;obtain⟨its,rv,p,hz⟩:=I.list hq;obtain⟨u,hu,ru⟩:=rv.get hx;obtain⟨f0,f1,f2,f3,f4,f5⟩:=hf it (by simp);refine wpAny_pyNext_list_item st p.isList (x:=u) (by simpa using hu) fun h' st' sb=>?_;have I1:Inv X pins σ H { s with heap:=h' }:=I.turned (t':=s.toks) (fun b o hb e=>(sb.2 b hb).trans e) f0 f1 f3 f4 f5;obtain⟨o,e,c,d⟩:=id st';exact⟨u,rfl,ww (s:={ s with heap:=h' }) e c d (by decide) ⟨x,H,I1,ru,⟨rfl,fun ys hy=>by rw[I.list_inj hy hq];exact hx⟩,st',fun b hb=>(hf b hb).1⟩⟩
 done:=by intro X hP hw hK hc i pins s σ H E I hf st hg;subst hP hw hK;obtain⟨xs,hq,hx⟩:=hg;obtain⟨its,rv,p,hz⟩:=I.list hq;obtain⟨f0,f1,f2,f3,f4,f5⟩:=hf it (by simp);have hl:=rv.length;exact wpAny_pyNext_list_end (I.ok.hd hc) st p.isList (by simp;lia) fun h' eb=>⟨rfl,I.turned (t':=s.toks) (fun b o hb e=>eb b o hb e) f0 f1 f3 f4 f5⟩
 self:=fun _ _ _ _ _ st h=>wpAny_pyIter_listiter st h
theorem qZ {P:Ov}{w:World}{K:Ou}{tg:Expr}(a it:Addr):Turn P w K tg (IV K a) [it] it (fun i h=>h.IsTupleIter it a i) where
 mem:=by simp
 obj:=fun i h st b hb=>by
  have e:b=it:=by simpa using hb
  subst e;obtain⟨o,e,c,d⟩:=st;exact⟨o,e,fun v z=>by rw[d]at z;cases z⟩
 keep:=fun i h h' st k=>st.at fun o e=>k it (by simp) o e
 item:=by intro X hP hw hK hc i pins s σ H E I hf st hg;subst hP hw hK;obtain⟨xs,x,hq,hx⟩:=hg;obtain⟨its,rv,p,hz⟩:=I.tuple hq;obtain⟨u,hu,ru⟩:=rv.get hx;obtain⟨f0,f1,f2,f3,f4,f5⟩:=hf it (by simp);refine wpAny_pyNext_tuple_item st (show s.heap.IsTuple a its.toArray from p) (x:=u) (by simpa using hu) fun h' st' sb=>?_;have I1:Inv X pins σ H { s with heap:=h' }:=I.turned (t':=s.toks) (fun b o hb e=>(sb.2 b hb).trans e) f0 f1 f3 f4 f5;obtain⟨o,e,c,d⟩:=id st';exact⟨u,rfl,ww (s:={ s with heap:=h' }) e c d (by decide) ⟨x,H,I1,ru,⟨rfl,fun ys hy=>by rw[I.tuple_inj hy hq];exact hx⟩,st',fun b hb=>(hf b hb).1⟩⟩
 done:=by intro X hP hw hK hc i pins s σ H E I hf st hg;subst hP hw hK;obtain⟨xs,hq,hx⟩:=hg;obtain⟨its,rv,p,hz⟩:=I.tuple hq;obtain⟨f0,f1,f2,f3,f4,f5⟩:=hf it (by simp);have hl:=rv.length;exact wpAny_pyNext_tuple_end (I.ok.hd hc) st (show s.heap.IsTuple a its.toArray from p) (by simp;lia) fun h' eb=>⟨rfl,I.turned (t':=s.toks) (fun b o hb e=>eb b o hb e) f0 f1 f3 f4 f5⟩
 self:=fun _ _ _ _ _ st h=>wpAny_pyIter_tupleiter st h
theorem q_ {P:Ov}{w:World}{K:Ou}{tg:Expr}(it:Addr)(lo:Int)(n:Nat):Turn P w K tg (Ig lo n) [it] it (fun i h=>IsRangeIter h it (lo+(i:Nat)*1) ((n:Int)-(i:Nat)) 1) where
 mem:=by simp
 obj:=fun i h st b hb=>by
  have e:b=it:=by simpa using hb
  subst e;exact⟨_,st,fun v z=>by have z':Data.fields _=Data.cell v:=z;cases z'⟩
 keep:=fun i h h' st k=>k it (by simp) _ st
 item:=by intro X hP hw hK hc i pins s σ H E I hf st hg;subst hP hw hK;obtain⟨f0,f1,f2,f3,f4,f5⟩:=hf it (by simp);have W:=Walks.range (prog:=X.prog) (w:=X.w) (I.ok.hd hc) it lo 1 n;refine W.item i s _ _ hg st fun v h' tk hv st' kk=>?_;obtain⟨t,rfl⟩:=hv;have I1:Inv X pins σ H { s with heap:=h',toks:=tk }:=I.turned (fun b o hb e=>kk b o (by simpa using hb) e) f0 f1 f3 f4 f5;refine⟨_,rfl,ww (s:={ s with heap:=h',toks:=tk }) (n:="range_iterator") st' rfl rfl (by decide) ⟨.int (lo+i),H,I1,⟨t,?_⟩,⟨rfl,rfl⟩,st',fun b hb=>(hf b hb).1⟩⟩;rw[Int.mul_one]
 done:=by intro X hP hw hK hc i pins s σ H E I hf st hg;subst hP hw hK;obtain⟨f0,f1,f2,f3,f4,f5⟩:=hf it (by simp);exact wpAny_pyNext_range_end (I.ok.hd hc) st (by have:n<=i:=hg;lia) fun h' eb=>⟨rfl,I.turned (t':=s.toks) (fun b o hb e=>eb b o hb e) f0 f1 f3 f4 f5⟩
 self:=fun _ _ _ _ _ st h=>wpAny_pyIter_rangeiter st h
section
variable {X:Cx}{tg:Expr}
theorem wx {pins:List (Addr×Obj)}{σ:St}{H:Hp}{s:Ot}{R:It->Hp->Prop}{E:Ow->Ot->Prop}{lo hi:Int}{t u v:Tok}{tk:Nat}(I:Inv X pins σ H s)(h1:-(2 ^ 62)<=lo)(h2:lo<2 ^ 62)(h3:-(2 ^ 62)<=hi)(h4:hi<2 ^ 62)
 (q:R (Ig lo (hi-lo).toNat) H):wpAny (model X.prog X.w) X.A (pyIter (.ref s.heap.objs.size)) (JK X pins σ tg R) E { s with heap:=s.heap.push { cls:=.type "range",data:=.fields #[.int lo t,.int hi u,.int 1 v] },toks:=tk }:=by
 refine wpAny_pyIter_range (IsRange.new ..) (small_one h1 h2 h3 h4) ?_;have I1:Inv X pins σ H { s with heap:=s.heap.push { cls:=.type "range",data:=.fields #[.int lo t,.int hi u,.int 1 v] },toks:=tk }:=I.kept fun b o e=>Kb _ e;refine⟨(s.heap.push { cls:=.type "range",data:=.fields #[.int lo t,.int hi u,.int 1 v] }).objs.size,[(s.heap.push { cls:=.type "range",data:=.fields #[.int lo t,.int hi u,.int 1 v] }).objs.size],_,_,H,rfl,
  I1.kept (t':=tk) fun b o e=>Kb _ e,q_ _ lo (hi-lo).toNat,?_,fun b hb=>?_,q⟩
 .have e1:lo+((0:Nat):Int)*1=lo:=by simp
  have e2:(((hi-lo).toNat:Nat):Int)-((0:Nat):Int)=Builtin.Range.rangeSize lo hi 1:=by rw[rangeSize_one];split<;>lia
  show IsRangeIter _ _ (lo+((0:Nat):Int)*1) ((((hi-lo).toNat:Nat):Int)-((0:Nat):Int)) 1;rw[e1,e2];exact Kr _ rfl
 .have e:b=(s.heap.push { cls:=.type "range",data:=.fields #[.int lo t,.int hi u,.int 1 v] }).objs.size:=by simpa using hb
  subst e;exact I1.fpOk (Km _) (I1.hok.fresh (Km _))
noncomputable def F2 (ta:TA):TI:=fun σ H R=>ta σ H fun vs H1=>∃ j:Int,vs=[.int j]/\-(2 ^ 62)<=j/\j<2 ^ 62/\R (Ig 0 j.toNat) H1
theorem uW {a:Expr} {ta:TA} {p pos:Pos} (hg:Gl X "range") (hm:X.mg "range"=none) (ha:PA X [a] ta) (hs:autoParam (starEach [a] X.env=[(false,eval a X.env)]) OD._auto_1):PI X tg (.Call (.Name "range" p) [a] [] pos) (F2 ta):=by
 intro pins s σ H R I h;refine Call_ (kc I hg hm boot_range (MU (bX (ha pos pins s σ H _ I h) fun us s1 ⟨vs,H1,I1,r1,q1⟩=>?_) hs rfl));obtain⟨j,e,q1,q2,q⟩:=q1;subst e;cases r1 with
 |cons r rr=>cases rr;obtain⟨t,rfl⟩:=r;exact call_range_1 (wx I1 (by lia) (by lia) q1 q2 (by simpa using q))
noncomputable def IW (wi:TI)(g:TG)(tb:TS):TS:=fun D σ H=>wi σ H fun J H1=>∃ W:Nat->Nat->St->Hp->Prop,(∃ m,W 0 m σ H1)/\∀ i m σ H,W i m σ H->
 (J.stop i H/\D.nx σ H)\/(J.go i H/\∃ N:St->Hp->Prop,(∀ σ' H',N σ' H'->∃ m',m'<m/\W (i+1) m' σ' H')/\∀ x H',J.yld i H x H'->g x σ H' fun σ2 H2=>tb { D with nx:=N,ct:=N,bk:=D.nx } σ2 H2)
noncomputable def ke (fp:List Addr)(h:Heap):List (Addr×Obj):=fp.filterMap fun b=>(h.get? b).map fun o=>(b,o)
theorem d8 {fp:List Addr}{h:Heap}{b:Addr}{o:Obj}(hb:b∈fp)(e:h.get? b=some o):(b,o)∈ke fp h:=MR.mpr ⟨b,hb,by rw[e];rfl⟩
theorem uX {fp:List Addr}{h:Heap}{p:Addr×Obj}(hp:p∈ke fp h):p.1∈fp/\h.get? p.1=some p.2:=by
 obtain⟨b,hb,e⟩:=MR.mp hp;cases q:h.get? b with
 |none=>rw[q]at e;cases e
 |some o=>rw[q]at e;have e':(b,o)=p:=K4 e;subst e';exact⟨hb,q⟩
theorem Inv.pinned {pins:List (Addr×Obj)}{σ:St}{H:Hp}{s:Ot}{fp:List Addr}(I:Inv X pins σ H s)(hf:∀ b∈fp,FpOk X pins H b)(ho:∀ b∈fp,∃ o,s.heap.get? b=some o/\∀ v,o.data≠.cell v):Inv X (pins++ke fp s.heap) σ H s:=I.pins_of fun p hp=>(Ku.mp hp).elim (fun z=>I.pin p (K1 _ z)) fun z=>by obtain⟨hb,e⟩:=uX z;obtain⟨f0,f1,f2,_⟩:=hf p.1 hb;obtain⟨o,e',d⟩:=ho p.1 hb;rw[e]at e';cases e';exact⟨e,f0,f1,f2,d⟩
theorem Inv.unpinned {pins pl:List (Addr×Obj)}{σ:St}{H:Hp}{s:Ot}(I:Inv X (pins++pl) σ H s):Inv X pins σ H s:=I.pins_of fun p hp=>I.pin p (K1 _ (KP _ hp))
theorem wy {iter:Expr}{body:List Stmt}{wi:TI}{g:TG}{tb:TS}{pos:Pos}(hp:PassesOwn (model X.prog X.w) X.A X.env X.xe)(hc:X.calm=true)(hi:PI X tg iter wi)(hg:PG X tg g)(hb:PSs X body tb)
 (hs:autoParam (∀ x,foldedSetIterable iter X.env x=pure x) OB._auto_1):PS X (.For tg iter body [] pos) (IW wi g tb):=by
 intro pins s σ H D I h;refine wpAny_For (bX (hi pins s σ H _ I h) fun v s1 h1=>bX h1 fun itv s2 h2=>?_) hs;obtain⟨it,fp,tn,J,H2,e,I2,T,st2,f2,W,⟨m0,w0⟩,turn⟩:=h2;subst e;have stat:∀{H':Hp},(∀ b∈fp,H' b=none)->∀ b∈fp,FpOk X pins H' b:=fun hn b hb=>⟨hn b hb,(f2 b hb).2⟩;refine codeAny_forLoop_any (fun n s'=>∃ i σ' H',Inv X pins σ' H' s'/\tn i s'.heap/\(∀ b∈fp,H' b=none)/\W i n σ' H') ?_ m0 ⟨0,σ,H2,I2,st2,fun b hb=>(f2 b hb).1,w0⟩;rintro n s3 ⟨i,σ3,H3,I3,st3,fr3,w3⟩;rcases turn i n σ3 H3 w3 with⟨stop,qn⟩|⟨go,N,hN,step⟩
 .refine Mt hp (bX (T.done X rfl rfl rfl hc i pins s3 σ3 H3 X.xe I3 (stat fr3) st3 stop) fun r s4 ⟨hr,I4⟩=>?_);subst hr;exact MT ⟨σ3,H3,I4,qn⟩
 .refine Mt hp (bX (T.item X rfl rfl rfl hc i pins s3 σ3 H3 X.xe I3 (stat fr3) st3 go) fun r s4 ⟨u,hr,h4⟩=>?_);subst hr;refine Mt hp (bX h4 fun _ s5 ⟨x,H5,I5,r5,y5,st5,fr5⟩=>?_);have I5':=I5.pinned (stat fr5) (T.obj _ _ st5);refine Mt hp (bX (hg _ s5 σ3 H5 x u _ I5' r5 (step x H5 y5)) fun _ s6 ⟨σ6,H6,I6,q6⟩=>?_);refine Mt hp (bX (hb _ s6 σ6 H6 _ I6 q6) fun f s7 q7=>?_);have again:∀{σ7:St}{H7:Hp},Inv X (pins++ke fp s5.heap) σ7 H7 s7->N σ7 H7->∃ m,m<n/\∃ i σ' H',Inv X pins σ' H' s7/\tn i s7.heap/\(∀ b∈fp,H' b=none)/\W i m σ' H':=fun{σ7 H7} I7 n7=>by obtain⟨m',hm,w7⟩:=hN σ7 H7 n7;refine⟨m',hm,i+1,σ7,H7,I7.unpinned,T.keep _ _ _ st5 fun b hb o e=>(I7.pin (b,o) (K1 _ (K1 _ (d8 hb e)))).1,fun b hb=>?_,w7⟩;obtain⟨o,e,d⟩:=T.obj _ _ st5 b hb;exact(I7.pin (b,o) (K1 _ (K1 _ (d8 hb e)))).2.1
  cases f with
  |next=>obtain⟨σ7,H7,I7,n7⟩:=q7;exact again I7 n7
  |cont=>obtain⟨σ7,H7,I7,n7⟩:=q7;exact again I7 n7
  |brk=>obtain⟨σ7,H7,I7,q7⟩:=q7;exact⟨σ7,H7,I7.unpinned,q7⟩
  |ret v=>obtain⟨x7,σ7,H7,I7,r7,q7⟩:=q7;exact⟨x7,σ7,H7,I7.unpinned,r7,q7⟩
end
theorem wz {K:Ou}{a:Addr}{xs:List V}{g:TG}{tb:TS}{D:Ends}{σ:St}{H:Hp}(Pv:Nat->St->Hp->Prop)(h0:Pv 0 σ H)(hl:∀ i σ H,i<=xs.length->Pv i σ H->SqL K H a xs)
 (hs:∀ i x σ H,xs[i]?=some x->Pv i σ H->g x σ H fun σ2 H2=>tb { D with nx:=Pv (i+1),ct:=Pv (i+1),bk:=D.nx } σ2 H2) (hd:∀ σ H,Pv xs.length σ H->D.nx σ H) :
 ∃ W:Nat->Nat->St->Hp->Prop,(∃ m,W 0 m σ H)/\∀ i m σ H,W i m σ H->
  ((FM K a).stop i H/\D.nx σ H)\/((FM K a).go i H/\∃ N:St->Hp->Prop,(∀ σ' H',N σ' H'->∃ m',m'<m/\W (i+1) m' σ' H')/\∀ x H',(FM K a).yld i H x H'->g x σ H' fun σ2 H2=>tb { D with nx:=N,ct:=N,bk:=D.nx } σ2 H2):=by
 refine⟨fun i m σ H=>m=xs.length-i/\i<=xs.length/\Pv i σ H,⟨xs.length,by simp,KU _,h0⟩,?_⟩;rintro i m σ H ⟨rfl,hi,p⟩;have q:=hl i σ H hi p;by_cases hlt:i<xs.length
 .refine .inr ⟨⟨xs,xs[i],q,by simp[hlt]⟩,Pv (i+1),fun σ' H' p'=>⟨xs.length-(i+1),by lia,rfl,hlt,p'⟩,fun x H' y=>?_⟩;obtain⟨e,y⟩:=y;subst e;exact hs i x σ _ (y xs q) p
 .have e:i=xs.length:=by lia
  subst e;exact .inl ⟨⟨xs,q,Km _⟩,hd σ H p⟩
noncomputable abbrev R2:=V->V->Hp->VK->Prop
def OpR (X:Cx)(f:Ow->Ow->Sem Ow)(r:R2):Prop:=
 ∀(pins:List (Addr×Obj))(s:Ot)(σ:St)(H:Hp)(x y:V)(v u:Ow)(Q:VK),Inv X pins σ H s->RelV x v->RelV y u->r x y H Q->
  wpAny (model X.prog X.w) X.A (f v u) (EP X pins σ Q) X.xe s
def CallR (X:Cx)(f:Ow)(r:List V->Hp->VK->Prop):Prop:=
 ∀(pins:List (Addr×Obj))(s:Ot)(σ:St)(H:Hp)(xs:List V)(us:List Ow)(Q:VK),Inv X pins σ H s->Vals xs us->r xs H Q->
  wpAny (model X.prog X.w) X.A (call f us) (EP X pins σ Q) X.xe s
def IX (X:Cx)(r:V->Hp->(Bool->Hp->Prop)->Prop):Prop:=
 ∀(pins:List (Addr×Obj))(s:Ot)(σ:St)(H:Hp)(x:V)(v:Ow)(Q:Bool->Hp->Prop),Inv X pins σ H s->RelV x v->r x H Q->
  wpAny (model X.prog X.w) X.A (truthy v) (TP X pins σ Q) X.xe s
noncomputable def Dr (r:R2)(ta tb:TE):TE:=fun σ H Q=>ta σ H fun x H1=>tb σ H1 fun y H2=>r x y H2 Q
noncomputable def rI (C:Int->Int->Prop)(g:Int->Int->V):R2:=fun x y H Q=>∃ i j,x=.int i/\y=.int j/\C i j/\Q (g i j) H
noncomputable def Ag (g:Int->Int->V):R2:=fun x y H Q=>∃ i j,x=.int i/\y=.int j/\Q (g i j) H
section
variable {X:Cx}{a b c:Expr}{ta tb tc:TE}{pos:Pos}
theorem Ds (ha:PE X a ta)(hb:PE X b tb){pins:List (Addr×Obj)}{s:Ot}{σ:St}{H:Hp}{R:V->V->Hp->Prop}(I:Inv X pins σ H s)
 (h:ta σ H fun x H1=>tb σ H1 fun y H2=>R x y H2) {Q:Ow->Ot->Prop} {f:Ow->Ow->Sem Ow}
 (hf:∀ v u s2 x y H2,Inv X pins σ H2 s2->RelV x v->RelV y u->R x y H2->wpAny (model X.prog X.w) X.A (f v u) Q X.xe s2) :
 wpAny (model X.prog X.w) X.A (eval a X.env) (fun v s₁=>wpAny (model X.prog X.w) X.A (eval b X.env) (fun u s₂=>wpAny (model X.prog X.w) X.A (f v u) Q X.xe s₂) X.xe s₁) X.xe s:=by
 refine bX (ha pins s σ H _ I h) fun v s1 ⟨x,H1,I1,r1,q1⟩=>?_;refine bX (hb pins s1 σ H1 _ I1 q1) fun u s2 ⟨y,H2,I2,r2,q2⟩=>?_;exact hf v u s2 x y H2 I2 r1 r2 q2
theorem F3 {op:Operator}{r:R2}(ho:OpR X (binaryOp op) r)(ha:PE X a ta)(hb:PE X b tb):PE X (.BinOp a op b pos) (Dr r ta tb):=by intro pins s σ H Q I h;exact wpAny_BinOp (Ds ha hb I h fun v u s2 x y H2 I2 rx ry q=>ho pins s2 σ H2 x y v u Q I2 rx ry q)
theorem Ih {f:Ow->Ow->Sem Ow}{C:Int->Int->Prop}{g:Int->Int->Int}
 (rule:∀(i j:Int)(t u:Tok)(s:Ot)(Q:Ow->Ot->Prop)(E:Ow->Ot->Prop),C i j->Q (.int (g i j) s.toks) { s with toks:=s.toks+1 }->wpAny (model X.prog X.w) X.A (f (.int i t) (.int j u)) Q E s) :
 OpR X f (rI C fun i j=>.int (g i j)):=by
 intro pins s σ H x y v u Q I rx ry h;obtain⟨i,j,rfl,rfl,hc,q⟩:=h;obtain⟨t,rfl⟩:=rx;obtain⟨t',rfl⟩:=ry;exact rule i j t t' s _ _ hc ⟨.int (g i j),H,I.tok _,⟨_,rfl⟩,q⟩
theorem Dt {f:Ow->Ow->Sem Ow}{g:Int->Int->Int}
 (rule:∀(i j:Int)(t u:Tok)(s:Ot)(Q:Ow->Ot->Prop)(E:Ow->Ot->Prop),Q (.int (g i j) s.toks) { s with toks:=s.toks+1 }->wpAny (model X.prog X.w) X.A (f (.int i t) (.int j u)) Q E s) :
 OpR X f (Ag fun i j=>.int (g i j)):=by
 intro pins s σ H x y v u Q I rx ry h;obtain⟨i,j,rfl,rfl,q⟩:=h;obtain⟨t,rfl⟩:=rx;obtain⟨t',rfl⟩:=ry;exact rule i j t t' s _ _ ⟨.int (g i j),H,I.tok _,⟨_,rfl⟩,q⟩
theorem Am {f:Ow->Ow->Sem Ow}{g:Int->Int->Bool}
 (rule:∀(i j:Int)(t u:Tok)(s:Ot)(Q:Ow->Ot->Prop)(E:Ow->Ot->Prop),Q (.bool (g i j)) s->wpAny (model X.prog X.w) X.A (f (.int i t) (.int j u)) Q E s) :
 OpR X f (Ag fun i j=>.bl (g i j)):=by
 intro pins s σ H x y v u Q I rx ry h;obtain⟨i,j,rfl,rfl,q⟩:=h;obtain⟨t,rfl⟩:=rx;obtain⟨t',rfl⟩:=ry;exact rule i j t t' s _ _ ⟨.bl (g i j),H,I,rfl,q⟩
def IY (i j:Int):Prop:=0<j/\j<1073741824
def CMul (i j:Int):Prop:=(-(2 ^ 64)<i/\i<2 ^ 64)\/(-(2 ^ 64)<j/\j<2 ^ 64)
theorem CMul.ok {i j:Int}(h:CMul i j):IntMulOk i j:=by
 rcases h with⟨h1,h2⟩|⟨h1,h2⟩
 .exact .of_left (intBits_le_64 h1 h2)
 .exact .of_right (intBits_le_64 h1 h2)
theorem rf (k:Nat):(0:Int)<=2 ^ k:=by rw[two_pow_cast];exact Int.natCast_nonneg _
theorem op_add:OpR X (binaryOp .Add) (Ag fun i j=>.int (i+j)):=Dt fun _ _ _ _ _ _ _ q=>add_int q
theorem Du:OpR X (binaryOp .Sub) (Ag fun i j=>.int (i-j)):=Dt fun _ _ _ _ _ _ _ q=>sub_int q
theorem Dv:OpR X (binaryOp .Mult) (rI CMul fun i j=>.int (i*j)):=Ih fun _ _ _ _ _ _ _ hc q=>mul_int q hc.ok
theorem An:OpR X (binaryOp .FloorDiv) (rI IY fun i j=>.int (i / j)):=Ih fun i j _ _ _ _ _ hc q=>by have h1:(0:Int)<j:=hc.1;have h2:j<1073741824:=hc.2;exact floordiv_int (by lia) (by rw[Int.fdiv_eq_ediv_of_nonneg i (by lia)];exact q) (.inl (PyProof.noPylong_small (by lia)))
theorem Dw:OpR X (binaryOp .Mod) (rI (fun _ j=>0<j) fun i j=>.int (i % j)):=Ih fun i j _ _ _ _ _ hc q=>by have h1:(0:Int)<j:=hc;exact mod_int' (by lia) (by rw[Int.fmod_eq_emod_of_nonneg i (by lia)];exact q)
theorem Dx:OpR X (binaryOp .RShift) (rI (fun _ j=>0<=j) fun i j=>.int (i / 2 ^ j.toNat)):=Ih fun i j _ _ _ _ _ hc q=>rshift_int hc (by rw[Int.fdiv_eq_ediv_of_nonneg i (rf _)];exact q)
theorem Dy:OpR X (binaryOp .BitAnd) (Ag fun i j=>.int (Builtin.bitAnd i j)):=Dt fun _ _ _ _ _ _ _ q=>and_int q
theorem F4:OpR X (compareOp .Lt) (Ag fun i j=>.bl (decide (i<j))):=Am fun _ _ _ _ _ _ _ q=>lt_int q
theorem F5:OpR X (compareOp .LtE) (Ag fun i j=>.bl (decide (i<=j))):=Am fun _ _ _ _ _ _ _ q=>le_int q
theorem F6:OpR X (compareOp .Gt) (Ag fun i j=>.bl (decide (j<i))):=Am fun _ _ _ _ _ _ _ q=>gt_int q
theorem F7:OpR X (compareOp .GtE) (Ag fun i j=>.bl (decide (j<=i))):=Am fun _ _ _ _ _ _ _ q=>ge_int q
theorem OpR.or {f:Ow->Ow->Sem Ow}{r r':R2}(h:OpR X f r)(h':OpR X f r'):OpR X f (fun x y H Q=>r x y H Q\/r' x y H Q):=by
 intro pins s σ H x y v u Q I rx ry q;rcases q with q|q
 .exact h pins s σ H x y v u Q I rx ry q
 .exact h' pins s σ H x y v u Q I rx ry q
theorem bu (b:Expr){op:CmpOp}(h:autoParam (op≠.In) Oy._auto_1)(h2:autoParam (op≠.NotIn) Oy._auto_1):behindInMarks op b=false:=by
 have e1:(op==CmpOp.In)=false:=by cases op<;>first|rfl|exact absurd rfl h
 have e2:(op==CmpOp.NotIn)=false:=by cases op<;>first|rfl|exact absurd rfl h2
 cases b<;>simp[behindInMarks,e1,e2]
theorem Ao {op:CmpOp}{r:R2}(ho:OpR X (compareOp op) r)(ha:PE X a ta)(hb:PE X b tb)(hm:behindInMarks op b=false):PE X (.Compare a [op] [b] pos) (Dr r ta tb):=by intro pins s σ H Q I h;exact wpAny_Compare1 (Ds ha hb I h fun v u s2 x y H2 I2 rx ry q=>ho pins s2 σ H2 x y v u Q I2 rx ry q) hm
noncomputable def Cg (t:TE):TT:=fun σ H Q=>t σ H fun x H'=>∃ k,x=.bl k/\Q k H'
theorem s_ {op:CmpOp}{r:R2}(ho:OpR X (compareOp op) r)(ha:PE X a ta)(hb:PE X b tb)(hm:behindInMarks op b=false):PT X (.Compare a [op] [b] pos) (Cg (Dr r ta tb)):=by intro pins s σ H Q I h;refine wpAny_isTrue_Compare1 (bX (ha pins s σ H _ I h) fun v s1 ⟨x,H1,I1,r1,q1⟩=>bX (hb pins s1 σ H1 _ I1 q1) fun u s2 ⟨y,H2,I2,r2,q2⟩=>bX (ho pins s2 σ H2 x y v u _ I2 r1 r2 q2) fun c s3 ⟨z,H3,I3,r3,k,e,q3⟩=>?_) hm;subst e;cases r3;exact LU ⟨H3,I3,q3⟩
noncomputable def wA (r r':R2)(ta tb tc:TE):TE:=fun σ H Q=>ta σ H fun x H1=>tb σ H1 fun y H2=>r x y H2 fun z H3=>∃ k,z=.bl k/\
 (if k=true then tc σ H3 fun w' H4=>r' y w' H4 Q else Q (.bl false) H3)
theorem wB {op op':CmpOp}{r r':R2}(ho:OpR X (compareOp op) r)(ho':OpR X (compareOp op') r')(ha:PE X a ta)(hb:PE X b tb)(hc:PE X c tc)
 (hm:lastMarks [op,op'] [b,c]=false:=by with_unfolding_all rfl):PT X (.Compare a [op,op'] [b,c] pos) (Cg (wA r r' ta tb tc)):=by
 intro pins s σ H Q I h;refine isTrue_chain (bX (ha pins s σ H _ I h) fun v s1 ⟨x,H1,I1,r1,q1⟩=>test_link (bX (hb pins s1 σ H1 _ I1 q1) fun u s2 ⟨y,H2,I2,r2,q2⟩=>bX (ho pins s2 σ H2 x y v u _ I2 r1 r2 q2) fun d s3 ⟨z,H3,I3,r3,k,e,q3⟩=>?_)) hm;subst e;cases r3;refine LU ?_;cases k with
 |false=>obtain⟨k',e',q'⟩:=q3;cases e';exact ite_ff ⟨H3,I3,q'⟩
 |true=>refine ite_tt (test_last (bX (hc pins s3 σ H3 _ I3 q3) fun w' s4 ⟨z',H4,I4,r4,q4⟩=>bX (ho' pins s4 σ H4 y z' u w' _ I4 r2 r4 q4) fun d' s5 ⟨z2,H5,I5,r5,k2,e2,q5⟩=>?_));subst e2;cases r5;exact LU ⟨H5,I5,q5⟩
def Dz (K:Ou)(x:V)(H:Hp)(k:Bool):Prop:=
 match x with
 | .non=>k=false
 | .bl b=>k=b
 | .int i=>k=(i != 0)
 | .str y=>y.length<=sizeLine/\k=((y.length:Int) != 0)
 | .byt y=>y.size<=sizeLine/\k=((y.size:Int) != 0)
 | .ref p=>(∃ xs,SqL K H p xs/\k=!xs.isEmpty)\/(∃ xs,SqT K H p xs/\k=!xs.isEmpty)\/∃ kvs,H p=some (.dK kvs)/\k=!kvs.isEmpty
 |_=>False
theorem rg {κ:Type}{kvs:List (κ×V)}{vs:List (κ×Ow)}(r:KV kvs vs):(!vs.isEmpty)=!kvs.isEmpty:=by cases r<;>rfl
theorem kf {xs:List V}{its:List Ow}(r:Vals xs its):(!its.toArray.isEmpty)=!xs.isEmpty:=by cases r<;>simp
theorem iI:(sizeLine:Nat)<2 ^ 63:=by rw[K9];decide
theorem DA:IX X (fun x H Q=>∃ k,Dz X.K x H k/\Q k H):=by
 intro pins s σ H x v Q I rx h;obtain⟨k,e,q⟩:=h;have hl:=iI;have hs:sizeLine=16777216:=K9;cases x with
 |non=>cases rx;have e':k=false:=e;subst e';exact truthy_none ⟨H,I,q⟩
 |bl b=>cases rx;have e':k=b:=e;subst e';exact LU ⟨H,I,q⟩
 |int i=>obtain⟨t,rfl⟩:=rx;have e':k=(i != 0):=e;subst e';exact PySem.P.truthy_int ⟨H,I,q⟩
 |str y=>obtain⟨t,rfl⟩:=rx;obtain⟨hy,e'⟩ : y.length<=sizeLine/\k=((y.length:Int) != 0):=e;subst e';exact PySem.P.truthy_str (by lia) ⟨H,I.tok _,q⟩
 |byt y=>obtain⟨t,rfl⟩:=rx;obtain⟨hy,e'⟩ : y.size<=sizeLine/\k=((y.size:Int) != 0):=e;subst e';exact PySem.W.truthy_bytes (by lia) ⟨H,I.tok _,q⟩
 |ref p=>
  cases rx;have e':(∃ xs,SqL X.K H p xs/\k=!xs.isEmpty)\/(∃ xs,SqT X.K H p xs/\k=!xs.isEmpty)\/∃ kvs,H p=some (.dK kvs)/\k=!kvs.isEmpty:=e;rcases e' with⟨xs,hx,e'⟩|⟨xs,hx,e'⟩|⟨kvs,hx,e'⟩
  .subst e';obtain⟨its,r,pl,hz⟩:=I.list hx;have bR:=r.length;exact wpAny_truthy_list pl.isList (by simp only[Ki];lia) ⟨H,I.tok _,by rw[kf r];exact q⟩
  .subst e';obtain⟨its,r,pl,hz⟩:=I.tuple hx;have bR:=r.length;exact truthy_tuple pl (by simp only[Ki];lia) ⟨H,I.tok _,by rw[kf r];exact q⟩
  .subst e';obtain⟨hz,hS,vs,r,m⟩ : kvs.length<=sizeLine/\(p==sysModules)=false/\∃ vs,KV kvs vs/\s.heap.DictOf (mixKind X.prog X.w) p vs:=I.hok p _ hx;have bR:kvs.length=vs.length:=Nk r;exact wpAny_truthy_dict hS m (by lia) ⟨H,I.tok _,by rw[rg r];exact q⟩
 |_=>exact(show False from e).elim
theorem wC (ha:PE X a ta)(he:∀ whole,isTrue a X.env whole=(do let v <- whole;standAt a.pos;holding [v] (truthy v))) :
 PT X a (fun σ H Q=>ta σ H fun x H'=>∃ k,Dz X.K x H' k/\Q k H'):=by
 intro pins s σ H Q I h;exact isTrue_plain (bX (ha pins s σ H _ I h) fun v s1 ⟨x,H1,I1,r1,q1⟩=>DA pins s1 σ H1 x v Q I1 r1 q1) (he _)
theorem rh:OpR X (binaryOp .Add) (fun x y H Q=>∃ i j,x=.str i/\y=.str j/\i.length+j.length<=sizeLine/\Q (.str (i++j)) H):=by intro pins s σ H x y v u Q I rx ry h;obtain⟨i,j,rfl,rfl,hz,q⟩:=h;obtain⟨t,rfl⟩:=rx;obtain⟨t',rfl⟩:=ry;exact add_str (fun t' tk=>⟨.str (i++j),H,I.tok _,⟨_,rfl⟩,q⟩) hz
theorem fq {x:V}{us:List Ow}(r:Vals [x] us):∃ u,us=[u]/\RelV x u:=by
 cases r with
 |cons r1 r2=>cases r2;exact⟨_,rfl,r1⟩
theorem wD {x y:V}{us:List Ow}(r:Vals [x,y] us):∃ u w',us=[u,w']/\RelV x u/\RelV y w':=by
 cases r with
 |cons r1 r2=>
  cases r2 with
  |cons r3 r4=>cases r4;exact⟨_,_,rfl,r1,r3⟩
end
structure ObjM (h:Heap) (x dx C:Addr) (mA:Str->Option Ow):Prop where
 obj:h.get? x=some (PySem.W.instObj C dx)
 ns:h.Ns1 dx mA
 ne:dx≠x
theorem uY {h:Heap}{dx:Addr}{mA:Str->Option Ow}(n:h.Ns1 dx mA):∃ od,h.get? dx=some od/\∀ name,PySem.W.lookIn name od=some (mA name):=by
 obtain⟨o,es,ep,ho,hd,hk,_,hm⟩:=n;refine⟨o,ho,fun name=>?_⟩;have e:=hm name;unfold nsFind findBy at e;rw[<- Array.find?_toList]at e;unfold PySem.W.lookIn;rw[hd];dsimp only;split
 .rename_i y q;rw[q]at e;exact KN some e
 .rename_i q;rw[q]at e;have a:es.toList.any (·.refKey)=false:=by rw[List.any_eq_false];intro y hy;obtain⟨z,t,my⟩:=hk y (Array.mem_toList_iff.mp hy);simp[DictEntry.refKey,my]
  have a':¬ es.toList.any (·.refKey)=true:=by rw[a];exact Mb
  rw[Kh a'];exact KN some e
theorem ObjM.look {h:Heap}{x dx C:Addr}{mA:Str->Option Ow}(I:ObjM h x dx C mA):∃ od,PySem.W.InstAt h x (PySem.W.instObj C dx) C (some od)/\∀ name,PySem.W.lookIn name od=some (mA name):=
 let ⟨od,ho,hl⟩:=uY I.ns
 ⟨od,⟨I.obj,rfl,rfl,ho⟩,hl⟩
section
variable {prog:Ov}{w:World}{A:Ox}{E:Ow->Ot->Prop}{s:Ot}{K:Ou}{x dx C f:Addr}{mA:Str->Option Ow}{name:Str}{v:Ow}
end
section
variable {P:Ov}{w:World}{H H':Hp}{h h':Heap}{a C dx:Addr}{fs fs':List (Str×V)}
theorem Ap (hok:HOk P w H h)(e:H a=some (.ins C dx fs)):∃ mA,ObjM h a dx C mA/\(∀ f,RelO (fs.lookup f) (mA f))/\PySem.Within mA (fs.map (·.1))/\fs.length<=1000/\H dx=some (.own a):=by obtain⟨d,z,ne,ob,mA,n,r,q⟩:=(show ObjOk P w H h a (.ins C dx fs) from hok a _ e);exact⟨mA,⟨ob,n,ne⟩,r,q,z,d⟩
end
structure Cls (K:Ou) (C:Addr):Prop where
 pg:PySem.W.plainGet K C Str.empty=true
 hd:PySem.W.hasDictIn K C=true
 po:PySem.W.plainOver K C=true
 sa:PySem.W.findIn K (.ref C) "__setattr__"=some (some (.builtin "object.__setattr__"))
theorem Cls.get {K:Ou}{C:Addr}(c:Cls K C)(f:Str):PySem.W.plainGet K C f=true:=c.pg
section
variable {X:Cx}{pins:List (Addr×Obj)}{σ:St}{H:Hp}{s:Ot}{a C dx:Addr}{fs:List (Str×V)}{f:Str}{v:V}{A:Ox}{E:Ow->Ot->Prop}
end
section
variable {X:Cx}{o e value:Expr}{f:Str}{pos pos' sS:Pos}{ta tv:TE}
end
section
variable {X:Cx}{pins:List (Addr×Obj)}{σ:St}{H:Hp}{s:Ot}{A:Ox}{E:Ow->Ot->Prop}{Q:Ow->Ot->Prop}{c:Ow}{b:Bool}
inductive TyOf (K:Ou) (H:Hp):V->Ow->Prop where
 |non:TyOf K H .non (.type "NoneType")
 |bl (x:Bool):TyOf K H (.bl x) (.type "bool")
 |int (i:Int):TyOf K H (.int i) (.type "int")
 |str (x:Str):TyOf K H (.str x) (.type "str")
 |flt (x:UInt64):TyOf K H (.flt x) (.type "float")
 |lst {a:Addr} {xs:List V} (e:H a=some (.lst xs)):TyOf K H (.ref a) (.type "list")
 |frz {a:Addr} {o:Obj} {xs:List V} (e:H a=some (.frz o (.lst xs))):TyOf K H (.ref a) (.type "list")
 |tup {a:Addr} {xs:List V} (e:H a=some (.tup xs)):TyOf K H (.ref a) (.type "tuple")
 |dK {a:Addr} {kvs:List (Key×V)} (e:H a=some (.dK kvs)):TyOf K H (.ref a) (.type "dict")
 |dT {a:Addr} {kvs:List (List Key×V)} (e:H a=some (.dT kvs)):TyOf K H (.ref a) (.type "dict")
 |ins {a C dx:Addr} {fs:List (Str×V)} (e:H a=some (.ins C dx fs)) (cl:Cls K C) (ha:PySem.W.findIn K (.ref C) "__class__"=some (some (.builtin "object.__class__")))
  (hn:PySem.W.specialIn K (.builtin "object.__class__") "__get__"=some (some (.builtin "getset_descriptor.__get__"))) (htk:PySem.W.takesIn K (.builtin "object.__class__")=some true)
  (hm:PySem.W.mroIn K C (.type "object")=some true):TyOf K H (.ref a) (.ref C)
theorem uZ {x:V}{u t:Ow}(I:Inv X pins σ H s)(rx:RelV x u)(ty:TyOf X.K H x t)(e:PySem.W.kitOne X.K t c=some b)(h:∀ tk,Q (.bool b) { s with toks:=tk }) :
 wpAny (model X.prog X.w) A (call (.builtin "isinstance") [u,c]) Q E s:=by
 cases ty with
 |non=>cases (show u=Value.none from rx);exact LF PySem.W.kitx_none I.kIn True.intro e (fun z=>nomatch z) h
 |bl y=>cases (show u=Value.bool y from rx);exact LF PySem.W.kitx_bool I.kIn True.intro e (fun z=>nomatch z) h
 |int i=>obtain⟨t,q⟩:=(show ∃ t,u=Value.int i t from rx);cases q;exact LF PySem.W.kitx_int I.kIn True.intro e (fun z=>nomatch z) h
 |str y=>obtain⟨t,q⟩:=(show ∃ t,u=Value.str y t from rx);cases q;exact LF PySem.W.kitx_str I.kIn True.intro e (fun z=>nomatch z) h
 |flt y=>obtain⟨t,q⟩:=(show ∃ t,u=Value.float y t from rx);cases q;exact LF PySem.W.kitx_float I.kIn True.intro e (fun z=>nomatch z) h
 | @lst a xs ea=>cases (show u=Value.ref a from rx);obtain⟨_,_,n,_,h1⟩:=(show ObjOk X.prog X.w H s.heap a (.lst xs) from I.hok a _ ea);exact LF PySem.W.kitx_list I.kIn ⟨_,h1,rfl⟩ e (fun z=>nomatch z) h
 | @frz a ob xs ea=>cases (show u=Value.ref a from rx);obtain⟨_,_,_,n,_,h1⟩:=(show ObjOk X.prog X.w H s.heap a (.frz ob (.lst xs)) from I.hok a _ ea);exact LF PySem.W.kitx_list I.kIn ⟨_,h1,rfl⟩ e (fun z=>nomatch z) h
 | @tup a xs ea=>cases (show u=Value.ref a from rx);obtain⟨_,_,_,p⟩:=(show ObjOk X.prog X.w H s.heap a (.tup xs) from I.hok a _ ea);obtain⟨o,h1,h2,_⟩:=p;exact LF PySem.W.kitx_tuple I.kIn ⟨o,h1,h2⟩ e (fun z=>nomatch z) h
 | @dK a kvs ea=>cases (show u=Value.ref a from rx);obtain⟨_,_,vs,_,p⟩:=(show ObjOk X.prog X.w H s.heap a (.dK kvs) from I.hok a _ ea);obtain⟨o,es,ep,h1,h2,_⟩:=p;exact LF Od I.kIn ⟨o,h1,h2.1⟩ e (fun z=>nomatch z) h
 | @dT a kvs ea=>cases (show u=Value.ref a from rx);obtain⟨_,_,xs,_,o,es,ep,h1,h2,_⟩:=(show ObjOk X.prog X.w H s.heap a (.dT kvs) from I.hok a _ ea);exact LF Od I.kIn ⟨o,h1,h2.1⟩ e (fun z=>nomatch z) h
 | @ins a C dx fs ea cl ha hn htk hm=>cases (show u=Value.ref a from rx);obtain⟨mA,O,_⟩:=Ap I.hok ea;obtain⟨od,J,_⟩:=O.look;exact LF (PySem.W.kitx_own (cl.get _) cl.hd ha hn htk hm) I.kIn J e (fun z=>nomatch z) h
end
structure Room (k:Nat) (A:Ox):Prop where
 hd:A.handled=none
 dp:A.depth+3*k+5<recursionLimit
 un:A.units+16*k+200<cLine
theorem Room.mono {j k:Nat}{A:Ox}(r:Room k A)(h:j<=k):Room j A:=⟨r.hd,by have:=r.dp;lia,by have:=r.un;lia⟩
theorem Room.deeper {k:Nat}{A:Ox}(r:Room (k+1) A)(env:Env):Room k (A.deeper env):=⟨r.hd,by have:=r.dp;show A.depth+1+3*k+5<_;lia,by have:=r.un;show A.units+3+16*k+200<_;lia⟩
theorem Room.in1 {k:Nat}{A:Ox}(r:Room (k+1) A):Room k A.in1:=⟨r.hd,by have:=r.dp;show A.depth+3*k+5<_;lia,by have:=r.un;show A.units+1+16*k+200<_;lia⟩
theorem Room.depth {k:Nat}{A:Ox}(r:Room k A):A.depth<recursionLimit:=by have:=r.dp;lia
theorem Room.units {k:Nat}{A:Ox}(r:Room k A):A.units+64<cLine:=by have:=r.un;lia
noncomputable def wF:TA:=fun _ H Q=>Q [] H
noncomputable def mC (ta:TE)(tr:TA):TA:=fun σ H Q=>ta σ H fun x H1=>tr σ H1 fun xs H2=>Q (x::xs) H2
section
variable {X:Cx}{e:Expr}{es:List Expr}{te:TE}{t:TA}{pos:Pos}
theorem cI:PA X [] wF:=fun _ _ _ _ H Q I h=>Calls.spliced_nil ⟨[],H,I,.nil,h⟩
theorem bh (ha:PE X e te)(hr:PA X es t)(hs:autoParam (starEach (e::es) X.env=(false,eval e X.env)::starEach es X.env) OD._auto_1):PA X (e::es) (mC te t):=by intro pos pins s σ H Q I h;rw[hs];show wpAny _ _ (spliced ((false,eval e X.env)::backTo pos (starEach es X.env))) _ _ s;refine Calls.spliced_cons (bX (ha pins s σ H _ I h) fun u s1 ⟨x,H1,I1,r1,q1⟩=>?_);exact bX (hr pos pins s1 σ H1 _ I1 q1) fun us s2 ⟨xs,H2,I2,r2,q2⟩=>⟨x::xs,H2,I2,.cons r1 r2,q2⟩
noncomputable def F8 (t:TA):TE:=fun σ H Q=>t σ H fun xs H1=>xs.length<=sizeLine/\∀ p,H1 p=none->Q (.ref p) (aJ H1 p (.tup xs))
noncomputable def F9 (t:TA):TE:=fun σ H Q=>t σ H fun xs H1=>xs.length<=sizeLine/\∀ p,H1 p=none->Q (.ref p) (aJ H1 p (.lst xs))
theorem ri {x1}(h:PA X es t):PE X (.Tuple es x1 pos) (F8 t):=by intro pins s σ H Q I hq;refine wpAny_Tuple_spliced (bX (h pos pins s σ H _ I hq) fun us s1 ⟨xs,H1,I1,r,z,q⟩=>⟨by rw[<- r.length];exact z,?_⟩);have hf:H1 s1.heap.objs.size=none:=I1.hok.fresh (Km _);refine⟨.ref s1.heap.objs.size,aJ H1 s1.heap.objs.size (.tup xs),I1.laid (t':=s1.toks) (fun b u e=>Kb _ e) (Km _) ?_,rfl,q _ hf⟩;exact⟨z,us,r,⟨_,Kr _ rfl,rfl,_,rfl⟩⟩
theorem wG (h:PA X es t):PE X (.List es pos) (F9 t):=by intro pins s σ H Q I hq;refine wpAny_List_spliced (bX (h pos pins s σ H _ I hq) fun us s1 ⟨xs,H1,I1,r,z,q⟩=>⟨by rw[<- r.length];exact z,?_⟩);have hf:H1 s1.heap.objs.size=none:=I1.hok.fresh (Km _);refine⟨.ref s1.heap.objs.size,aJ H1 s1.heap.objs.size (.lst xs),I1.laid (t':=s1.toks) (fun b u e=>Kb _ e) (Km _) ?_,rfl,q _ hf⟩;exact⟨z,us,0,r,Kr _ rfl⟩
end
noncomputable abbrev Sp:=List V->Hp->VK->XK->Prop
noncomputable abbrev CXT:=List Env->Hp->Ot->XK->Ow->Ot->Prop
structure Env0 (P:Ov) (w:World) (K:Ou) (mg:Str->Option Ow) (base:Heap) (A:Ox) (outer:List Env) (s:Ot) (H:Hp):Prop where
 frames:A.frames=some outer
 mod:Mod K mg base
 bs:∀ b o,base.get? b=some o->s.heap.get? b=some o/\H b=none
 bsz:base.objs.size<=s.heap.objs.size
 funs:s.heap.FunFrames base outer
 frf:∀ b∈frs outer,H b=none
 hok:HOk P w H s.heap
 bare:AllBare s.gens
 kt:WrT K H
def CE (outer:List Env)(P:Ov)(w:World)(H:Hp)(s:Ot)(Q:VK)(u:Ow)(s':Ot):Prop:=∃ v H',s'.os=s.os/\AllBare s'.gens/\Un (frs outer) [] H H' s.heap s'.heap/\HOk P w H' s'.heap/\RelV v u/\Q v H'
def CR (CX:CXT)(outer:List Env)(P:Ov)(w:World)(H:Hp)(s:Ot)(Q:VK)(E:XK)(r:Result)(s':Ot):Prop:=
 match r with
 | .ok (.ret u)=>CE outer P w H s Q u s'
 | .ok _=>False
 | .error e=>CX outer H s E e s'
structure FnOk (P:Ov) (w:World) (K:Ou) (mg:Str->Option Ow) (base:Heap) (CX:CXT) (k:Nat) (f:Addr) (fd:FuncData) (ps:List Str) (sp:Sp):Prop where
 len:∀ vs H Q E,sp vs H Q E->vs.length=ps.length
 run:∀(A:Ox)(outer:List Env)(s:Ot)(H:Hp)(args:Args)(us:List Ow)(vs:List V)(Q:VK)(E:XK),Room k A->Env0 P w K mg base A outer s H->BindsTo s fd args (ps.zip us)->Vals vs us->sp vs H Q E->
  codeAny (model P w) A (.call (.ref f) args) (CR CX outer P w H s Q E) s
theorem FnOk.imp {P:Ov}{w:World}{K:Ou}{mg:Str->Option Ow}{base:Heap}{CX:CXT}{k:Nat}{f:Addr}{fd:FuncData}{ps:List Str}{sp sp':Sp}(F:FnOk P w K mg base CX k f fd ps sp)
 (h:∀ vs H Q E,sp' vs H Q E->sp vs H Q E):FnOk P w K mg base CX k f fd ps sp':=
 ⟨fun vs H Q E q=>F.len vs H Q E (h _ _ _ _ q),fun A outer s H args us vs Q E hr he hb hv hs=>F.run A outer s H args us vs Q E hr he hb hv (h _ _ _ _ hs)⟩
theorem Env0.in1 {P:Ov}{w:World}{K:Ou}{mg:Str->Option Ow}{base:Heap}{A:Ox}{outer:List Env}{s:Ot}{H:Hp}(e:Env0 P w K mg base A outer s H) :
 Env0 P w K mg base A.in1 outer s H:=⟨e.frames,e.mod,e.bs,e.bsz,e.funs,e.frf,e.hok,e.bare,e.kt⟩
section
variable {X:Cx}{pins:List (Addr×Obj)}{σ:St}{H:Hp}{s s':Ot}
theorem Inv.env0 (I:Inv X pins σ H s):Env0 X.prog X.w X.K X.mg X.base X.A X.stack s H:=⟨I.ok.frames,I.ok.mod,I.bs,KA I.ok.bsz I.sz,I.stack,I.stkFree,I.hok,I.bare,I.kt⟩
theorem Inv.after {Q:VK}{u:Ow}(I:Inv X pins σ H s)(h:CE X.stack X.prog X.w H s Q u s'):EP X pins σ Q u s':=by obtain⟨v,H',os,bare,un,hok,r,q⟩:=h;obtain⟨hh,g,d,t,os'⟩:=s';obtain rfl:os'=s.os:=os;exact⟨v,H',I.call (h':=hh) (g':=g) (d':=d) (t':=t) (ch:=[]) un hok bare (fun b z=>absurd z (by simp)),r,q⟩
end
noncomputable def Ci (sp:Sp)(dvs:List V)(E:XK)(t:TA):TE:=fun σ H Q=>t σ H fun vs H1=>sp (vs++dvs) H1 Q E
def Binds (K:Ou)(fd:FuncData)(ps:List Str)(ds:List Ow):Prop:=∀(s:Ot)(us:List Ow),K.In s.heap->(us++ds).length=ps.length->BindsTo s fd ⟨us,[]⟩ (ps.zip (us++ds))
theorem Binds.all {K:Ou}{fd:FuncData}{ps:List Str}(h:∀ us:List Ow,us.length=ps.length->bindArgs fd ⟨us,[]⟩=pure (ps.zip us)):Binds K fd ps []:=fun s us _ hl=>by rw[La]at hl ⊢;exact .of_eq (h us hl)
def iJ (CX:CXT)(X:Cx)(E:XK):Prop:=∀(pins:List (Addr×Obj))(σ:St)(H:Hp)(s:Ot)(e:Ow)(s':Ot),Inv X pins σ H s->CX X.stack H s E e s'->X.xe e s'
section
variable {X:Cx}{CX:CXT}{k:Nat}{f C:Addr}{fd:FuncData}{ps:List Str}{sp:Sp}{dvs:List V}{ds:List Ow}{E:XK}{x m:Str}{p pos apos:Pos}{e o:Expr}{es:List Expr}{ta:TE}{t:TA}
theorem DB {pins:List (Addr×Obj)}{σ:St}{H:Hp}{s:Ot}{Q:VK}{us:List Ow}{vs:List V}(F:FnOk X.prog X.w X.K X.mg X.base CX k f fd ps sp)(hr:Room k X.A)(hb:Binds X.K fd ps ds)(hd:Vals dvs ds)(hx:iJ CX X E)
 (I:Inv X pins σ H s) (r:Vals vs us) (h:sp (vs++dvs) H Q E):wpAny (model X.prog X.w) X.A (call (.ref f) us) (EP X pins σ Q) X.xe s:=by
 have r2:Vals (vs++dvs) (us++ds):=r.append hd;have hl:(us++ds).length=ps.length:=by rw[<- r2.length];exact F.len _ _ _ _ h
 refine wpAny_call (MV (F.run X.A X.stack s H ⟨us,[]⟩ (us++ds) (vs++dvs) Q E hr I.env0 (hb s us I.kIn hl) r2 h) fun r s' hq=>?_);cases r with
 |error e=>exact hx pins σ H s e s' I hq
 |ok fl=>
  cases fl with
  |ret u=>exact I.after hq
  |next=>exact False.elim hq
  |brk=>exact False.elim hq
  |cont=>exact False.elim hq
theorem Aq (F:FnOk X.prog X.w X.K X.mg X.base CX k f fd ps sp)(hr:Room k X.A)(hg:Gl X x)(hm:X.mg x=some (.ref f))(hk:PySem.W.keepIn X.K (.ref f)=true)(hb:Binds X.K fd ps ds)(hd:Vals dvs ds)(hx:iJ CX X E)
 (ha:PA X (e::es) t) (hdb:autoParam ((x==("__debug__" : Str))=false) Oy._auto_1) (he:autoParam (starEach (e::es) X.env=(false,eval e X.env)::starEach es X.env) OD._auto_1) (hpl:autoParam ((backTo pos (starEach es X.env)).any (·.1)=false) OD._auto_1) :
 PE X (.Call (.Name x p) (e::es) [] pos) (Ci sp dvs E t):=by
 intro pins s σ H Q I h;refine Nl (jK I hg hm ?_ hdb);refine PySem.W.callWith_K (h₀:=X.base) I.ok.mod.kin hk (bX (ha pos pins s σ H _ I h) fun us s1 ⟨vs,H1,I1,r,q⟩=>⟨I1.kIn,?_⟩) he hpl;exact DB F hr hb hd hx I1 r q
end
section
variable {X:Cx}{CX:CXT}{k:Nat}{f C:Addr}{fd:FuncData}{ps ks:List Str}{sp:Sp}{E:XK}{x m:Str}{p pos apos kpos:Pos}{e o:Expr}{es:List Expr}{kws:List Keyword}{te ta:TE}{t tk:TA}{nm:Option Str}
variable {g:List Ow->List Ow->List Ow}{gV:List V->List V->List V}
end
structure FnScope (N P:List Str) (sc:Scope):Prop where
 kind:sc.kind=.function
 co:sc.isCoroutine=false
 gen:sc.isGenerator=false
 nd:N.Nodup
 pre:N.take P.length=P
 par:∀ x∈P,sc.names.lookup x=some .local\/sc.names.lookup x=some .cell
 nofree:∀ y∈sc.names,y.2≠.free
theorem mD {kindOf:Str->Option NameKind}{x:Str}:∀{binds:List (Str×Ow)}{m:Str->Option Ow},(∀ v,(x,v)∉binds)->bindL kindOf binds m x=m x
 | [],_,_=>rfl
 |(n,v)::r,m,h=>by
  unfold bindL;rw[mD fun w hw=>h w (Ky _ hw)];split
  .have:x≠n:=by rintro rfl;exact h v KD
   simp[this]
  .rfl
theorem mE {kindOf:Str->Option NameKind}{x:Str}:∀{binds:List (Str×Ow)}{m:Str->Option Ow},(∀ v,(x,v)∉binds)->bindC kindOf binds m x=m x
 | [],_,_=>rfl
 |(n,v)::r,m,h=>by
  unfold bindC;rw[mE fun w hw=>h w (Ky _ hw)];split
  .rfl
  .have:x≠n:=by rintro rfl;exact h v KD
   simp[this]
theorem mF {kindOf:Str->Option NameKind}{x:Str}{v:Ow}:∀{P:List Str}{vs:List Ow}{i:Nat}{m:Str->Option Ow},P.Nodup->P[i]?=some x->vs[i]?=some v->kindOf x=some .local->
 bindL kindOf (P.zip vs) m x=some v
 | [],_,_,_,_,h,_,_=>by simp at h
 |_::_,[],_,_,_,_,h,_=>by simp at h
 |p::P,w::vs,0,m,nd,h1,h2,hk=>by simp at h1 h2;subst h1;subst h2;show bindL kindOf ((p,w)::P.zip vs) m p=_;unfold bindL;rw[mD fun v hv=>(LZ.mp nd).1 (List.of_mem_zip hv).1,Kf hk];simp
 |p::P,w::vs,i+1,m,nd,h1,h2,hk=>by show bindL kindOf ((p,w)::P.zip vs) m x=_;unfold bindL;exact mF (i:=i) (LZ.mp nd).2 (by simpa using h1) (by simpa using h2) hk
theorem mG {kindOf:Str->Option NameKind}{x:Str}{v:Ow}:∀{P:List Str}{vs:List Ow}{i:Nat}{m:Str->Option Ow},P.Nodup->P[i]?=some x->vs[i]?=some v->kindOf x≠some .local->
 bindC kindOf (P.zip vs) m x=some v
 | [],_,_,_,_,h,_,_=>by simp at h
 |_::_,[],_,_,_,_,h,_=>by simp at h
 |p::P,w::vs,0,m,nd,h1,h2,hk=>by simp at h1 h2;subst h1;subst h2;show bindC kindOf ((p,w)::P.zip vs) m p=_;unfold bindC;rw[mE fun v hv=>(LZ.mp nd).1 (List.of_mem_zip hv).1,Kh hk];simp
 |p::P,w::vs,i+1,m,nd,h1,h2,hk=>by show bindC kindOf ((p,w)::P.zip vs) m x=_;unfold bindC;exact mG (i:=i) (LZ.mp nd).2 (by simpa using h1) (by simpa using h2) hk
noncomputable def fw (N:List Str)(vs:List V):St:=vs.map some++List.replicate (N.length-vs.length) none
noncomputable def rj (CX:CXT)(P:Ov)(w:World)(K:Ou)(mg:Str->Option Ow)(base:Heap)(N:List Str)(qual:Str)(scope:Scope)(f:Addr)(cd:Ow)(A:Ox)(outer:List Env)(s:Ot)(H:Hp)(E:XK):Cx where
 prog:=P
 w:=w
 K:=K
 mg:=mg
 base:=base
 A:=A.deeper (envOfC qual scope s.heap.objs.size f cd)
 N:=N
 s₀:=s
 H₀:=H
 env:=envOfC qual scope s.heap.objs.size f cd
 outer:=outer
 stack:=envOfC qual scope s.heap.objs.size f cd::outer
 ex:=[]
 calm:=true
 fn:=fun _=>true
 pn:=[]
 xe:=fun e s'=>wpAny (model P w) (A.deeper (envOfC qual scope s.heap.objs.size f cd)) (leaving (envOfC qual scope s.heap.objs.size f cd) e) (fun _ s''=>CX outer H s E e s'') (fun e' s''=>CX outer H s E e' s'') s'
theorem o5 {sc:Scope}{n:Nat}{x:Str}(h:sc.names.lookup x=some .cell):∃ c,(cellsFrom n sc.names []).lookup x=some c:=by have q:=PySem.W.cellsFrom_some sc.names n [] (.inl h);exact Option.isSome_iff_exists.mp q
theorem u0 {CX:CXT}{P:Ov}{w:World}{K:Ou}{mg:Str->Option Ow}{base:Heap}{N ps:List Str}{qual:Str}{scope:Scope}{f:Addr}{cd:Ow}{A:Ox}{outer:List Env}{s s1:Ot}{H:Hp}{E:XK}{us:List Ow}{vs:List V}
 (S:FnScope N ps scope) (hd:A.handled=none) (e0:Env0 P w K mg base A outer s H) (hl:vs.length=ps.length) (r:Vals vs us)
 (x:InCallC s s.heap.objs.size (bindL (envOfC qual scope s.heap.objs.size f cd).kindOf (ps.zip us) fun _=>none) (cellsFrom (s.heap.objs.size+1) scope.names []) (bindC (envOfC qual scope s.heap.objs.size f cd).kindOf (ps.zip us) fun _=>none) s1) :
 Inv (rj CX P w K mg base N qual scope f cd A outer s H E) [] (fw N vs) H s1:=by
 have hpl:ps.length<=N.length:=by have:=KN List.length S.pre;rw[K7]at this;lia
 obtain⟨h1,tk,rfl,hk⟩:=x.done;have noA:∀ b:Addr,b∉(rj CX P w K mg base N qual scope f cd A outer s H E).ex:=fun b z=>absurd (show b∈([]:List Addr) from z) (by simp);refine⟨⟨e0.mod,S.kind,rfl,rfl,Km _,fun y z c h1 h2=>?_,fun y hy=>?_,fun y c _ h=>?_,fun _=>hd,Around.frames_deeper e0.frames,.inr ⟨rfl,rfl⟩,fun b z=>absurd z (noA b),e0.bs,e0.bsz,fun b _ _=>noA b,fun b z=>absurd z (noA b),e0.funs,e0.frf,e0.kt⟩,
  rfl,e0.bare,Un.kept hk,⟨_,x.toInCall.ns,fun i y v h1 h2 h3=>?_⟩,fun y c h=>⟨_,x.cell y c h⟩,e0.hok.fresh (Km _),fun y c h=>?_,fun p hp=>absurd (show p∈([]:List (Addr×Obj)) from hp) (by simp),e0.hok.kept hk,?_⟩
 .exact name_of_addr x.apart (L5 h1) (L5 h2)
 .have hy:scope.names.lookup y=some .cell\/scope.names.lookup y=some .free:=hy;rcases hy with hy|hy
  .exact o5 hy
  .exact absurd rfl (S.nofree _ (L5 hy))
 .exact Lb (x.above y c (L5 h))
 .have hi:i<vs.length:=by
   unfold fw at h2;by_cases hi:i<vs.length
   .exact hi
   .rw[Kk (by simpa using hi)]at h2;rw[MH]at h2;split at h2<;>cases h2
  have ha:vs[i]?=some v:=by
   unfold fw at h2;rw[Kw (by simpa using hi),K6]at h2;cases e:vs[i]? with
   |none=>rw[e]at h2;cases h2
   |some a=>rw[e]at h2;cases h2;rfl
  obtain⟨u,hu,rv⟩:=r.get ha;have hp:ps[i]?=some y:=by rw[<- S.pre,List.getElem?_take_of_lt (by lia)];exact h1
  have ndP:ps.Nodup:=by rw[<- S.pre];exact S.nd.sublist (L6 _ _)
  refine⟨u,rv,?_⟩;rcases S.par y (LM hp) with k|k
  .exact .inl ⟨k,mF ndP hp hu k⟩
  .obtain⟨c,e⟩:=o5 (n:=s.heap.objs.size+1) k;refine .inr ⟨.inl k,c,e,?_⟩;have q:=x.cell y c e;rw[mG ndP hp hu (by show scope.names.lookup y≠_;rw[k];decide)]at q;exact q
 .exact e0.hok.fresh (Lb (x.above y c (L5 h)))
 .unfold fw;show _=N.length;rw[KF,Kg,NG];lia
theorem Cj {CX:CXT}{P:Ov}{w:World}{K:Ou}{mg:Str->Option Ow}{base:Heap}{k:Nat}{f:Addr}{name qual:Str}{params:Arguments}{body:List Stmt}{scope:Scope}{dV kV doc pm cdv ct oc:Ow}{an od:Option Addr}
 {osl:Array (Option Ow)} {N ps:List Str} {sp:Sp} (lk:K.lookup f=some ⟨oc,od,.func (PySem.W.fnOf name qual params body scope dV kV doc pm an cdv ct),osl⟩) (hcd:PySem.W.codeIn K cdv qual=true) (S:FnScope N ps scope)
 (len:∀ vs H Q E,sp vs H Q E->vs.length=ps.length)
 (hbody:∀(A:Ox)(outer:List Env)(s:Ot)(H:Hp)(vs:List V)(Q:VK)(E:XK),Room k (A.deeper (envOfC qual scope s.heap.objs.size f cdv))->sp vs H Q E->
   ∃ t,PSs (rj CX P w K mg base N qual scope f cdv A outer s H E) body t/\t { nx:=fun _ H'=>Q .non H',rt:=Q } (fw N vs) H) :
 FnOk P w K mg base CX (k+1) f (PySem.W.fnOf name qual params body scope dV kV doc pm an cdv ct) ps sp:=by
 refine⟨len,fun A outer s H args us vs Q E hr e0 hb r hsp=>?_⟩;have hl:=len _ _ _ _ hsp;have KX:K.In s.heap:=e0.mod.kin.keeps fun b o e=>(e0.bs b o e).1;have lim:s.heap.NoLimit:=e0.mod.nolimit.keeps fun b o e=>(e0.bs b o e).1;have hkind:∀ y∈ps.zip us,scope.names.lookup y.1=some .local\/(scope.names.lookup y.1=some .cell/\((cellsFrom (s.heap.objs.size+1) scope.names []).lookup y.1).isSome=true):=fun⟨n,v⟩ hy=>by
  rcases S.par n (List.of_mem_zip hy).1 with q|q
  .exact .inl q
  .exact .inr ⟨q,PySem.W.cellsFrom_some _ _ _ (.inl q)⟩
 refine codeAny_call_function hr.depth (KX _ _ lk) rfl S.co S.gen rfl (PySem.W.codeRec_of KX hcd) (hb _ _ _ _ ?_);refine wpAny_newFunctionEnv_cells S.kind hkind fun env he s1 x=>?_;subst he;refine⟨lim.keeps x.toInCall.keep,codeAny_func ?_⟩;obtain⟨t,ht,hq⟩:=hbody A outer s H vs Q E (hr.deeper _) hsp;have I:Inv (rj CX P w K mg base N qual scope f cdv A outer s H E) [] (fw N vs) H s1:=u0 S hr.hd e0 hl r x;refine LC (ht [] s1 (fw N vs) H _ I hq) (fun fl s' hs=>?_) fun e s' hs=>hs;have fin:∀{σ':St}{H':Hp}{v:V}{u:Ow},Inv (rj CX P w K mg base N qual scope f cdv A outer s H E) [] σ' H' s'->RelV v u->Q v H'->CE outer P w H s Q u s':=fun{σ' H' v u} J rv q=>⟨v,H',J.os,J.bare,J.base,J.hok,rv,q⟩;cases fl with
 |ret u=>obtain⟨v,σ',H',J,rv,q⟩:=hs;exact fin J rv q
 |next=>obtain⟨σ',H',J,q⟩:=hs;exact fin (v:=V.non) (u:=Value.none) J rfl q
 |brk=>obtain⟨_,_,_,q⟩:=hs;exact False.elim q
 |cont=>obtain⟨_,_,_,q⟩:=hs;exact False.elim q
section
variable {X:Cx}{x:Str}{p pos:Pos}{e:Expr}{es:List Expr}{t:TA}{id T:String}{r:List V->Hp->VK->Prop}
noncomputable def JL (r:List V->Hp->VK->Prop)(t:TA):TE:=fun σ H Q=>t σ H fun vs H1=>r vs H1 Q
theorem gQ (hc:CallR X (.builtin id) r) (hg:Gl X x) (hm:X.mg x=none) (hv:bootBuiltins x=some (.builtin id)) (ha:PA X (e::es) t) (hn:autoParam (x≠"__name__") Oy._auto_1) (hdb:autoParam ((x==("__debug__" : Str))=false) Oy._auto_1)
 (he:autoParam (starEach (e::es) X.env=(false,eval e X.env)::starEach es X.env) OD._auto_1) (hpl:autoParam ((backTo pos (starEach es X.env)).any (·.1)=false) OD._auto_1):PE X (.Call (.Name x p) (e::es) [] pos) (JL r t):=by
 intro pins s σ H Q I h;refine Nl (kc I hg hm hv ?_ hn hdb);exact PyProof.Rows.callWith_builtin1 (bX (ha pos pins s σ H _ I h) fun us s1 ⟨vs,H1,I1,r1,q1⟩=>hc pins s1 σ H1 vs us Q I1 r1 q1) he hpl
theorem iL (hc:CallR X (.type T) r) (hg:Gl X x) (hm:X.mg x=none) (hv:bootBuiltins x=some (.type T)) (ha:PA X (e::es) t) (hn:autoParam (x≠"__name__") Oy._auto_1) (hdb:autoParam ((x==("__debug__" : Str))=false) Oy._auto_1)
 (he:autoParam (starEach (e::es) X.env=(false,eval e X.env)::starEach es X.env) OD._auto_1) (hpl:autoParam ((backTo pos (starEach es X.env)).any (·.1)=false) OD._auto_1):PE X (.Call (.Name x p) (e::es) [] pos) (JL r t):=by
 intro pins s σ H Q I h;refine Nl (kc I hg hm hv ?_ hn hdb);exact MU (bX (ha pos pins s σ H _ I h) fun us s1 ⟨vs,H1,I1,r1,q1⟩=>hc pins s1 σ H1 vs us Q I1 r1 q1) he hpl
end
end L2
namespace HT
open PySem PyProof.Rows
section
open PySem.SeqAt
open PySem.AutoSeq1 (wpAny_loadPart')
open PySem.MeetsSeq PySem.MeetsSeq2 PySem.MeetsSeq3
end
section
variable {prog:Ov}{w:World}{A:Ox}{E:Ow->Ot->Prop}{s:Ot}
theorem cat_tup {t b:Addr}{vs ws:List Ow}{Q:Ow->Ot->Prop}(ht:IsTup s.heap t vs.toArray)(hb:IsTup s.heap b ws.toArray)(hv:vs≠[])
 (h1:ws=[]->Q (.ref t) s) (h2:ws≠[]->Q (.ref s.heap.objs.size) { s with heap:=s.heap.push { cls:=.type "tuple",data:=.seq (vs++ws).toArray } })
 (hsz:vs.length+ws.length<=sizeLine):wpAny (model prog w) A (binaryOp .Add (.ref t) (.ref b)) Q E s:=by
 obtain⟨⟨cls,dd,data,sl⟩,ho,hc,n,hd⟩:=id ht;obtain⟨⟨cls2,dd2,data2,sl2⟩,ho2,hc2,n2,hd2⟩:=id hb;simp only at hc hd hc2 hd2;subst hc hd hc2 hd2;have e:vs.toArray++ws.toArray=(vs++ws).toArray:=by simp
 by_cases hw:ws=[]
 .exact concat_meets ⟨_,ho,rfl⟩ ⟨_,ho2,rfl⟩ noFill_tuple_add seq_tuple_add PySem.F.slot_tuple_add PySem.F.entry_tuple_add (PySem.F.args_tuple_add_2 _ _)
   (tuple_addW1 t b vs.toArray ws.toArray n n2 dd dd2 sl sl2 (by simpa using hv) (by simp[hw])) ⟨ho,ho2,h1 hw⟩
 .refine concat_meets ⟨_,ho,rfl⟩ ⟨_,ho2,rfl⟩ noFill_tuple_add seq_tuple_add PySem.F.slot_tuple_add PySem.F.entry_tuple_add (PySem.F.args_tuple_add_2 _ _)
   (tuple_addW2 t b vs.toArray ws.toArray n n2 dd dd2 sl sl2 (by simpa using hv) (by simpa using hw) (by rw[Ki,Ki];exact hsz)) ⟨ho,ho2,?_⟩
  rw[e];exact h2 hw
end
end HT
namespace L2
open PySem PySem.Spec PyProof.Rows
noncomputable abbrev TO:=St->Hp->(Option Int->Hp->Prop)->Prop
def PO (X:Cx)(e:Option Expr)(t:TO):Prop:=
 ∀(pins:List (Addr×Obj))(s:Ot)(σ:St)(H:Hp)(Q:Option Int->Hp->Prop),Inv X pins σ H s->t σ H Q->
  wpAny (model X.prog X.w) X.A (evalPart e X.env) (fun u s'=>∃ o H',Inv X pins σ H' s'/\IsPart u o/\Q o H') X.xe s
noncomputable def F_ (t:TE):TO:=fun σ H Q=>t σ H fun x H1=>∃ i,x=.int i/\Q (some i) H1
section
variable {X:Cx}{e:Expr}{te:TE}{lo hi:Option Expr}{tl th:TO}{pos p2:Pos}
theorem Ar (h:PE X e te):PO X (some e) (F_ te):=by intro pins s σ H Q I hw;rw[evalPart_some];refine bX (h pins s σ H _ I hw) fun u s1 ⟨x,H1,I1,r1,q1⟩=>?_;obtain⟨i,rfl,q⟩:=q1;obtain⟨t,rfl⟩:=r1;exact⟨some i,H1,I1,.int i t,q⟩
noncomputable def Ga (K:Ou):R2:=fun x y H Q=>∃ a b xs ys,x=.ref a/\y=.ref b/\SqT K H a xs/\SqT K H b ys/\xs≠[]/\xs.length+ys.length<=sizeLine/\
 (ys=[]->Q (.ref a) H)/\(ys≠[]->∀ p,H p=none->Q (.ref p) (aJ H p (.tup (xs++ys))))
theorem Vals.nil_iff {xs:List V}{us:List Ow}(r:Vals xs us):us=[]↔xs=[]:=by
 cases r with
 |nil=>simp
 |cons _ _=>simp
theorem op_catT:OpR X (binaryOp .Add) (Ga X.K):=by intro pins s σ H x y v u Q I rx ry h;obtain⟨a,b,xs,ys,rfl,rfl,ha,hb,hx,hz,q1,q2⟩:=h;cases rx;cases ry;obtain⟨its,r1,p1,_⟩:=I.tuple ha;obtain⟨its2,r2,p2,_⟩:=I.tuple hb;refine HT.cat_tup p1 p2 (fun z=>hx (r1.nil_iff.mp z)) (fun z=>⟨.ref a,H,I,rfl,q1 (r2.nil_iff.mp z)⟩) (fun z=>?_) (by rw[<- r1.length,<- r2.length];exact hz);refine⟨.ref s.heap.objs.size,_,I.laid (t':=s.toks) (o:=.tup (xs++ys)) (fun b ob q=>Kb _ q) (Km _) ?_,rfl,q2 (fun w=>z (r2.nil_iff.mpr w)) _ (I.hok.fresh (Km _))⟩;exact⟨by rw[KF];exact hz,_,r1.append r2,IsTup.new _ _⟩
end
noncomputable def u7 (n:Nat)(i:Int):Option Nat:=if 0<=i then (if i<n then some i.toNat else none) else if -(n:Int)<=i then some (i+n).toNat else none
noncomputable def atI {α:Type}(xs:List α)(i:Int):Option α:=(u7 xs.length i).bind fun j=>xs[j]?
theorem As {n:Nat}{i:Int}{j:Nat}(h:u7 n i=some j):seqIndex? i n=some j/\j<n/\-(n:Int)<=i/\i<n:=by
 unfold u7 at h;by_cases h0:0<=i
 .rw[Kf h0]at h;by_cases h1:i<n
  .rw[Kf h1]at h;have e:i.toNat=j:=K4 h;exact⟨by rw[seqIndex_of h0 h1,e],by lia,by lia,h1⟩
  .rw[Kh h1]at h;cases h
 .rw[Kh h0]at h;by_cases h1:-(n:Int)<=i
  .rw[Kf h1]at h;have e:(i+n).toNat=j:=K4 h;exact⟨by rw[seqIndex_neg (by lia) h1,e],by lia,h1,by lia⟩
  .rw[Kh h1]at h;cases h
theorem nI {α:Type}{xs:List α}{i:Int}{v:α}(h:atI xs i=some v):∃ j,seqIndex? i xs.length=some j/\xs[j]?=some v/\j<xs.length/\-(xs.length:Int)<=i/\i<xs.length:=by
 unfold atI at h;cases e:u7 xs.length i with
 |none=>rw[e]at h;cases h
 |some j=>rw[e]at h;obtain⟨h1,h2,h3,h4⟩:=As e;exact⟨j,h1,h,h2,h3,h4⟩
theorem Au {α:Type}{xs:List α}{j:Nat}{v:α}(h:xs[j]?=some v):atI xs (j:Int)=some v:=by
 have hj:j<xs.length:=(Kc.mp h).1;have e:u7 xs.length (j:Int)=some j:=by unfold u7;rw[Kf (by lia),Kf (by lia)];simp
 unfold atI;rw[e];exact h
def nJ (b:Expr):Prop:=∀ o i,subscripted b false o i=operate [o,i] (getItem o i)
def IxR (X:Cx)(r:R2):Prop:=
 ∀(value slice:Expr)(pins:List (Addr×Obj))(s:Ot)(σ:St)(H:Hp)(x y:V)(v u:Ow)(Q:VK),Inv X pins σ H s->RelV x v->RelV y u->r x y H Q->
  subscripted slice false v u=operate [v,u] (getItem v u)->wpAny (model X.prog X.w) X.A (subscriptTail value slice v u) (EP X pins σ Q) X.xe s
def Ii (X:Cx)(id:String)(r:V->List V->Hp->VK->Prop):Prop:=
 ∀(pins:List (Addr×Obj))(s:Ot)(σ:St)(H:Hp)(x:V)(xs:List V)(v:Ow)(us:List Ow)(Q:VK),Inv X pins σ H s->RelV x v->Vals xs us->r x xs H Q->
  wpAny (model X.prog X.w) X.A (call (.builtin id) (v::us)) (EP X pins σ Q) X.xe s
section
variable {X:Cx}{a b:Expr}{ta tb:TE}{pos:Pos}
theorem IxR.or {r r':R2}(h:IxR X r)(h':IxR X r'):IxR X (fun x y H Q=>r x y H Q\/r' x y H Q):=by
 intro value slice pins s σ H x y v u Q I rx ry q hs;rcases q with q|q
 .exact h value slice pins s σ H x y v u Q I rx ry q hs
 .exact h' value slice pins s σ H x y v u Q I rx ry q hs
theorem Ck {r:R2}(hr:IxR X r)(ha:PE X a ta)(hb:PE X b tb)(hs:nJ b):PE X (.Subscript a b pos) (Dr r ta tb):=by intro pins s σ H Q I h;exact Subscript_ (Ds ha hb I h fun v u s2 x y H2 I2 rx ry q=>hr a b pins s2 σ H2 x y v u Q I2 rx ry q (hs _ _))
noncomputable def DC (K:Ou):R2:=fun x y H Q=>∃ p xs i v,x=.ref p/\y=.int i/\SqL K H p xs/\atI xs i=some v/\Q v H
noncomputable def Gb (K:Ou):R2:=fun x y H Q=>∃ p xs i v,x=.ref p/\y=.int i/\SqT K H p xs/\atI xs i=some v/\Q v H
noncomputable def Gc:R2:=fun x y H Q=>∃ z i c,x=.str z/\y=.int i/\z.length<=sizeLine/\atI z.cps.toList i=some c/\Q (.str ⟨#[c]⟩) H
theorem ix_list:IxR X (DC X.K):=by
 intro value slice pins s σ H x y v u Q I rx ry h hs;obtain⟨p,xs,i,z,rfl,rfl,hq,he,q⟩:=h;cases rx;obtain⟨t,rfl⟩:=ry;obtain⟨its,r,pl,hz⟩:=I.list hq;obtain⟨j,h1,h2,h3,h4,h5⟩:=nI he;obtain⟨w,ew,rw'⟩:=r.get h2;have hl:=r.length;have hn:=iI;have fin:EP X pins σ Q w s:=⟨z,H,I,rw',q⟩;by_cases h0:0<=i
 .have hj:i.toNat=j:=by rw[seqIndex_of h0 h5]at h1;exact K4 h1
  exact item_listR pl.isList h0 (by lia) (by rw[hj];simpa using ew) fin hs
 .have hj:(i+(its.toArray.size:Int)).toNat=j:=by rw[seqIndex_neg (by lia) h4]at h1;rw[Ki,<- hl];exact K4 h1
  exact subscriptTail_builtinR (x:=w) pl.isList.typeIs slot_list_getitem.lookup
   (wpAny_getItem_list_neg (Q:=fun r s'=>r=w/\EP X pins σ Q r s') pl.isList (by lia) (by rw[Ki]<;>lia) (by lia) (by rw[hj];simpa using ew) ⟨rfl,fin⟩) hs
theorem ix_tup:IxR X (Gb X.K):=by
 intro value slice pins s σ H x y v u Q I rx ry h hs;obtain⟨p,xs,i,z,rfl,rfl,hq,he,q⟩:=h;cases rx;obtain⟨t,rfl⟩:=ry;obtain⟨its,r,pl,hz⟩:=I.tuple hq;obtain⟨j,h1,h2,h3,h4,h5⟩:=nI he;obtain⟨w,ew,rw'⟩:=r.get h2;have hl:=r.length;have hn:=iI;have fin:EP X pins σ Q w s:=⟨z,H,I,rw',q⟩;exact subscriptTail_builtinR (x:=w) pl.typeIs slot_tuple_getitem.lookup
  (getItem_tuple (j:=j) (Q:=fun r s'=>r=w/\EP X pins σ Q r s') pl (by lia) (by lia) (by rw[Ki,<- hl];exact h1) (by simpa using ew) ⟨rfl,fin⟩) hs
theorem DD:IxR X Gc:=by
 intro value slice pins s σ H x y v u Q I rx ry h hs;obtain⟨z,i,c,rfl,rfl,hz,he,q⟩:=h;obtain⟨t,rfl⟩:=rx;obtain⟨t',rfl⟩:=ry;obtain⟨j,h1,h2,h3,h4,h5⟩:=nI he;have hl:z.cps.toList.length=z.length:=by simp[Str.length]
 rw[hl]at h1 h4 h5;have hn:=iI;exact tail_any (typeIs_str s z t) slot_str_getitem.lookup (getItem_str (c:=c) (by have e1:decide (i < -(2 ^ 63:Int))=false:=Kp (by lia);have e2:decide (i>=2 ^ 63)=false:=Kp (by lia);rw[e1,e2,Bool.or_false]) (by rw[h1];simpa using h2) ⟨.str ⟨#[c]⟩,H,I.tok _,⟨_,rfl⟩,q⟩) hs
noncomputable def JY (K:Ou):R2:=fun x y H Q=>DC K x y H Q\/Gb K x y H Q\/Gc x y H Q
theorem DE:IxR X (JY X.K):=ix_list.or (ix_tup.or DD)
theorem Inv.lst {pins:List (Addr×Obj)}{σ:St}{H:Hp}{s:Ot}{p:Addr}{xs:List V}(I:Inv X pins σ H s)(h:H p=some (.lst xs)) :
 ∃(its:List Ow)(n:Nat),Vals xs its/\s.heap.get? p=some { cls:=.type "list",data:=.seq its.toArray n }/\xs.length<=sizeLine:=by
 obtain⟨z,its,n,r,e⟩:=I.hok p _ h;exact⟨its,n,r,e,z⟩
theorem call_len_seq:CallR X (.builtin "len") (fun xs H Q=>∃ p ys,xs=[.ref p]/\(SqL X.K H p ys\/SqT X.K H p ys)/\Q (.int ys.length) H):=by
 intro pins s σ H xs us Q I r h;obtain⟨p,ys,rfl,hq,q⟩:=h;obtain⟨u,rfl,rx⟩:=fq r;cases rx;have hn:=iI;rcases hq with hq|hq
 .obtain⟨its,r',pl,hz⟩:=I.list hq;have bR:=r'.length;exact Calls.call_len_list pl.isList (by simp only[Ki]<;>lia) ⟨.int ys.length,H,I.tok _,⟨s.toks+1,by rw[Ki,bR]⟩,q⟩
 .obtain⟨its,r',pl,hz⟩:=I.tuple hq;have bR:=r'.length;exact len_tuple pl (by simp only[Ki]<;>lia) ⟨.int ys.length,H,I.tok _,⟨s.toks+1,by rw[Ki,bR]⟩,q⟩
theorem nK:CallR X (.builtin "len") (fun xs H Q=>∃ z,xs=[.str z]/\z.length<=sizeLine/\Q (.int z.length) H):=by intro pins s σ H xs us Q I r h;obtain⟨z,rfl,hz,q⟩:=h;obtain⟨u,rfl,t,rfl⟩:=fq r;have hn:=iI;exact len_str (by lia) ⟨.int z.length,H,I.tok _,⟨_,rfl⟩,q⟩
theorem CallR.or {f:Ow}{r r':List V->Hp->VK->Prop}(h:CallR X f r)(h':CallR X f r'):CallR X f (fun xs H Q=>r xs H Q\/r' xs H Q):=by
 intro pins s σ H xs us Q I rs q;rcases q with q|q
 .exact h pins s σ H xs us Q I rs q
 .exact h' pins s σ H xs us Q I rs q
theorem nL:CallR X (.type "list") (fun xs H Q=>∃ p ys,xs=[.ref p]/\(SqL X.K H p ys\/SqT X.K H p ys)/\∀ l,H l=none->Q (.ref l) (aJ H l (.lst ys))):=by
 intro pins s σ H xs us Q I r h;obtain⟨p,ys,rfl,hq,q⟩:=h;obtain⟨u,rfl,rx⟩:=fq r;cases rx;have fin:∀(its:List Ow),Vals ys its->ys.length<=sizeLine->∀(h':Heap)(c':Nat),(∀ b o',s.heap.get? b=some o'->h'.get? b=some o')->
  h'.get? s.heap.objs.size=some { cls:=.type "list",dict:=none,data:=.seq its.toArray c',slots:=#[] }->EP X pins σ Q (.ref s.heap.objs.size) { s with heap:=h' }:=fun its r' hz h' c' kp e=>
  ⟨.ref s.heap.objs.size,_,I.laid (t':=s.toks) kp (Km _) (show ObjOk X.prog X.w _ h' _ (.lst ys) from⟨hz,its,c',r',e⟩),rfl,q _ (I.hok.fresh (Km _))⟩
 rcases hq with hq|hq
 .obtain⟨its,r',pl,hz⟩:=I.list hq;have bR:=r'.length;obtain⟨o,ho,hc,n,hd⟩:=pl.isList;exact call_list_seq p (.inl rfl) ho hc hd (fun h' c' kp e=>fin its r' hz h' c' kp e) (by simp only[Ki]<;>lia)
 .obtain⟨its,r',pl,hz⟩:=I.tuple hq;have bR:=r'.length;obtain⟨o,ho,hc,n,hd⟩:=pl;exact call_list_seq p (.inr rfl) ho hc hd (fun h' c' kp e=>fin its r' hz h' c' kp e) (by simp only[Ki]<;>lia)
theorem lX:CallR X (.type "tuple") (fun xs H Q=>∃ p ys,xs=[.ref p]/\((SqL X.K H p ys/\∀ l,H l=none->Q (.ref l) (aJ H l (.tup ys)))\/(SqT X.K H p ys/\Q (.ref p) H))):=by
 intro pins s σ H xs us Q I r h;obtain⟨p,ys,rfl,h⟩:=h;obtain⟨u,rfl,rx⟩:=fq r;cases rx;rcases h with⟨hq,q⟩|⟨hq,q⟩
 .obtain⟨its,r',pl,hz⟩:=I.list hq;have bR:=r'.length;refine call_tuple_list pl.isList (fun h' kp=>?_) (by simp only[Ki]<;>lia);have I1:Inv X pins σ H { s with heap:=h' }:=I.kept (t':=s.toks) kp;have I2:Inv X pins σ (aJ H h'.objs.size (.tup ys)) { s with heap:=h'.push { cls:=.type "tuple",data:=.seq its.toArray } }:=I1.laid (t':=s.toks) (fun b o e=>Kb _ e) (Km _) (show ObjOk X.prog X.w _ _ _ (.tup ys) from⟨hz,its,r',IsTup.new _ _⟩);exact⟨.ref h'.objs.size,_,I2,rfl,q _ (I1.hok.fresh (Km _))⟩
 .obtain⟨its,r',pl,hz⟩:=I.tuple hq;exact call_tuple_same pl ⟨.ref p,H,I,rfl,q⟩
def Ij (K:Ou)(T:String)(x:V)(H:Hp):Prop:=match x with
 | .str _=>T="str"
 | .int _=>T="int"
 | .ref p=>(T="list"/\∃ xs,SqL K H p xs)\/(T="tuple"/\∃ o,K.lookup p=some o/\o.cls=.type "tuple"/\o.dict=none)\/
  (T="dict"/\((∃ kvs,H p=some (.dK kvs))\/∃ kvs,H p=some (.dT kvs)))\/(T="set"/\∃ S n,H p=some (.set S n))
 |_=>False
theorem wH {pins:List (Addr×Obj)}{σ:St}{H:Hp}{s:Ot}{T:String}{x:V}{v:Ow}(I:Inv X pins σ H s)(r:RelV x v)(ty:Ij X.K T x H) :
 s.TypeIs v T/\∀ a,v=.ref a->∃ ob,s.heap.get? a=some ob/\ob.dict=none:=by
 cases x with
 |str z=>obtain⟨t,rfl⟩:=r;cases (show T="str" from ty);exact⟨typeIs_str s z t,fun _ e=>nomatch e⟩
 |int i=>obtain⟨t,rfl⟩:=r;cases (show T="int" from ty);exact⟨typeIs_int s i t,fun _ e=>nomatch e⟩
 |ref p=>
  cases r;rcases ty with⟨rfl,xs,hq⟩|⟨rfl,o,hk,hc,hd⟩|⟨rfl,hk⟩|⟨rfl,S,n,hk⟩
  .obtain⟨its,_,pl,_⟩:=I.list hq;refine⟨pl.isList.typeIs,fun a e=>?_⟩;cases e;obtain⟨o,n,e,c,hd,_⟩:=pl;exact⟨o,e,hd⟩
  .refine⟨⟨o,I.kIn p o hk,hc⟩,fun a e=>?_⟩;cases e;exact⟨o,I.kIn _ o hk,hd⟩
  .have z:∃ o,s.heap.get? p=some o/\o.ExactDict:=by
    rcases hk with⟨kvs,hk⟩|⟨kvs,hk⟩
    .obtain⟨_,_,_,_,o,_,_,e,ex,_⟩:=I.hok p _ hk;exact⟨o,e,ex⟩
    .obtain⟨_,_,_,_,o,_,_,e,ex,_⟩:=I.hok p _ hk;exact⟨o,e,ex⟩
   obtain⟨o,e,ex⟩:=z;refine⟨⟨o,e,ex.1⟩,fun a e2=>?_⟩;cases e2;exact⟨o,e,ex.2.1⟩
  .obtain⟨o,_,_,_,e,ex,_⟩:=I.hok p _ hk;refine⟨⟨o,e,ex.1⟩,fun a e2=>?_⟩;cases e2;exact⟨o,e,ex.2.1⟩
 |_=>exact False.elim ty
noncomputable def IZ (K:Ou)(T:String)(r:V->List V->Hp->VK->Prop)(to:TE):TE:=fun σ H Q=>to σ H fun x H1=>Ij K T x H1/\r x [] H1 Q
noncomputable def I0 (K:Ou)(T:String)(r:V->List V->Hp->VK->Prop)(to:TE)(t:TA):TE:=fun σ H Q=>to σ H fun x H1=>Ij K T x H1/\t σ H1 fun xs H2=>r x xs H2 Q
variable {o e:Expr}{es:List Expr}{to:TE}{t:TA}{name:Str}{apos cpos:Pos}{T id:String}{r:V->List V->Hp->VK->Prop}
theorem DF (pa:PlainAttrs T) (slot:Slot T name id) (hty:typeOf (.builtin id)=pure (.type "method_descriptor")) (hm:Ii X id r) (ho:PE X o to)
 (hbase:autoParam (attributeBase o name X.env (eval o X.env)=eval o X.env) OD._auto_1) (hline:autoParam ((apos.endLine==cpos.line)=true) OD._auto_1):PE X (.Call (.Attribute o name apos) [] [] cpos) (IZ X.K T r to):=by
 intro pins s σ H Q I h;refine wpAny_Call_method0_late hbase hline (bX (ho pins s σ H _ I h) fun v s1 ⟨x,H1,I1,r1,ty,q1⟩=>?_);obtain⟨h1,h2⟩:=wH I1 r1 ty;exact⟨T,id,pa,slot,hty,h1,h2,Nz rfl (PySem.evalArgs_none (hm pins s1 σ H1 x [] v [] Q I1 r1 .nil q1))⟩
theorem wI (pa:PlainAttrs T) (slot:Slot T name id) (hty:typeOf (.builtin id)=pure (.type "method_descriptor")) (hm:Ii X id r) (ho:PE X o to) (ha:PA X (e::es) t)
 (hbase:autoParam (attributeBase o name X.env (eval o X.env)=eval o X.env) OD._auto_1)
 (hfew:autoParam (((backTo cpos (starEach (e::es) X.env)).all (fun x=>!x.1)&&(backToKw cpos (keywordEach [] X.env)).all (fun x=>x.1.isSome)
   && decide ((e::es).length+([]:List Keyword).length+(if ([]:List Keyword).isEmpty then 0 else 1)<30))=true) OD._auto_1)
 (hline:autoParam ((apos.endLine==cpos.line)=true) OD._auto_1) (hs:autoParam (starEach (e::es) X.env=(false,eval e X.env)::starEach es X.env) OD._auto_1) (hplain:autoParam ((backTo cpos (starEach es X.env)).any (·.1)=false) OD._auto_1) :
 PE X (.Call (.Attribute o name apos) (e::es) [] cpos) (I0 X.K T r to t):=by
 intro pins s σ H Q I h;refine wpAny_Call_method_late hbase hfew hline rfl (bX (ho pins s σ H _ I h) fun v s1 ⟨x,H1,I1,r1,ty,q1⟩=>?_);obtain⟨h1,h2⟩:=wH I1 r1 ty;refine⟨T,id,pa,slot,hty,h1,h2,?_⟩;have hA:=ha cpos pins s1 σ H1 _ I1 q1;rw[hs]at hA ⊢;refine Nz (by show(false || (backTo cpos (starEach es X.env)).any (·.1))=false;rw[hplain]<;>rfl) (NP ?_);exact bX hA fun us s2 ⟨vs,H2,I2,r2,q2⟩=>hm pins s2 σ H2 x vs v us Q I2 r1 r2 q2
end
def JM (X:Cx)(id:String)(r:V->List V->Hp->VK->Prop):Prop:=
 ∀(pins:List (Addr×Obj))(s:Ot)(σ:St)(H:Hp)(x:V)(xs:List V)(v:Ow)(us:List Ow)(Q:VK),Inv X pins σ H s->RelV x v->Vals xs us->r x xs H Q->
  wpAny (model X.prog X.w) X.A (call (.builtin id) (v::us)) (EP X pins σ Q) X.xe s
theorem Vals.one:∀{x:V}{us:List Ow},Vals [x] us->∃ u,us=[u]/\RelV x u
 |_,_,.cons r .nil=>⟨_,rfl,r⟩
theorem Vals.zero:∀{us:List Ow},Vals [] us->us=[]
 |_,.nil=>rfl
theorem Vals.rep {xs:List V}{us:List Ow}(h:Vals xs us):∀ k:Nat,Vals (List.replicate k xs).flatten (List.replicate k us).flatten
 |0=>.nil
 |k+1=>by rw[List.replicate_succ,List.replicate_succ,List.flatten_cons,List.flatten_cons];exact Vals.append h (Vals.rep h k)
section
variable {X:Cx}{pins:List (Addr×Obj)}{σ:St}{H:Hp}{s:Ot}{l b:Addr}{xs ys zs:List V}
theorem Inv.lset {its its':List Ow}{n:Nat}{f:Array Ow->Array Ow}{t':Nat}(I:Inv X pins σ H s)(hH:H l=some (.lst xs))
 (e:s.heap.get? l=some { cls:=.type "list",data:=.seq its.toArray n }) (hf:f its.toArray=its'.toArray) (hv:Vals ys its') (hz:ys.length<=sizeLine) :
 Inv X pins σ (aJ H l (.lst ys)) { s with heap:=s.heap.update l (Obj.mapSeq f),toks:=t' }:=by
 have q:=PySem.IsL.update e f;rw[hf]at q;refine I.write (x:=l) (e:=l) (by rw[hH];exact trivial) (.inl rfl) (fun b' u hb hu=>(Lz s.heap (Obj.mapSeq f) (Lj hb)).trans hu) ⟨_,q⟩ ?_;exact⟨hz,its',_,hv,q⟩
theorem Inv.lnew {its:List Ow}{t':Nat}(I:Inv X pins σ H s)(hv:Vals ys its)(hz:ys.length<=sizeLine) :
 Inv X pins σ (aJ H s.heap.objs.size (.lst ys)) { s with heap:=s.heap.push { cls:=.type "list",data:=.seq its.toArray },toks:=t' }:=
 I.laid (fun _ _ q=>Kb _ q) (Km _) ⟨hz,its,0,hv,Kr _ rfl⟩
theorem Inv.fresh (I:Inv X pins σ H s):H s.heap.objs.size=none:=I.hok.fresh (Km _)
theorem Inv.lstM (I:Inv X pins σ H s) (hH:H l=some (.lst xs)):xs.length<=sizeLine/\∃(its:List Ow)(n:Nat),Vals xs its/\xs.length=its.length/\s.heap.get? l=some { cls:=.type "list",data:=.seq its.toArray n }:=by obtain⟨z,its,n,r,e⟩:=I.hok l _ hH;exact⟨z,its,n,r,r.length,e⟩
end
section
variable {X:Cx}
noncomputable def tf:V->List V->Hp->VK->Prop:=fun x vs H Q=>∃ l xs y,x=.ref l/\vs=[y]/\H l=some (.lst xs)/\xs.length<sizeLine/\Q .non (aJ H l (.lst (xs++[y])))
theorem iM:JM X "list.append" tf:=by intro pins s σ H x vs v us Q I rx rv h;obtain⟨l,xs,y,rfl,rfl,hH,hz,q⟩:=h;cases rx;obtain⟨u,rfl,ru⟩:=rv.one;obtain⟨z,its,n,r,hl,e⟩:=I.lstM hH;refine call_meets F.slot_list_append ⟨_,e,rfl⟩ F.entry_list_append (F.args_list_append_2 _ _) (PySem.list_append l its.toArray n u (by rw[Ki];lia)) ⟨e,?_⟩;refine⟨.non,_,I.lset (its':=its++[u]) hH e (by simp) (r.append (.cons ru .nil)) ?_,rfl,q⟩;rw[KF,L9];lia
noncomputable def DG:V->List V->Hp->VK->Prop:=fun x vs H Q=>∃ l xs,x=.ref l/\vs=[]/\H l=some (.lst xs)/\Q .non (aJ H l (.lst []))
theorem wJ:JM X "list.clear" DG:=by intro pins s σ H x vs v us Q I rx rv h;obtain⟨l,xs,rfl,rfl,hH,q⟩:=h;cases rx;have hus:=rv.zero;subst hus;obtain⟨z,its,n,r,hl,e⟩:=I.lstM hH;refine call_meets F.slot_list_clear ⟨_,e,rfl⟩ F.entry_list_clear (F.args_list_clear_1 _) (AutoSeq1.list_clear_list_0 l its.toArray n (by rw[Ki];lia)) ⟨e,?_⟩;exact⟨.non,_,I.lset (its':=[]) (ys:=[]) hH e rfl .nil (KU _),rfl,q⟩
end
section
variable {prog:Ov}{w:World}{A:Ox}{E:Ow->Ot->Prop}{s:Ot}
end
section
variable {X:Cx}
end
section
variable {κ:Type}[DecidableEq κ]
noncomputable def dr (kvs:List (κ×V))(k:κ):Option V:=(kvs.find? fun kv=>decide (kv.1=k)).map (·.2)
noncomputable def b9 (kvs:List (κ×V))(k:κ)(v:V):List (κ×V):=if (kvs.any fun kv=>decide (kv.1=k))=true then kvs.map (fun kv=>if kv.1=k then (kv.1,v) else kv) else kvs++[(k,v)]
noncomputable def Cm (kvs:List (κ×V))(k:κ):List (κ×V):=kvs.filter fun kv=>decide (kv.1≠k)
theorem dM {p:κ×V}{r:List (κ×V)}{k:κ}(e:p.1=k):dr (p::r) k=some p.2:=by simp[dr,MW,e]
theorem dN {p:κ×V}{r:List (κ×V)}{k:κ}(e:¬ p.1=k):dr (p::r) k=dr r k:=by simp[dr,MW,e]
theorem o6 (k:κ):∀ kvs:List (κ×V),(kvs.any fun kv=>decide (kv.1=k))=(dr kvs k).isSome
 | []=>rfl
 |p::r=>by
  rw[L8];by_cases e:p.1=k
  .simp only[dM e,Kl e,Bool.true_or,Option.isSome_some]
  .rw[dN e,Kp e,Oj];exact o6 k r
theorem fD (kvs:List (κ×V))(k:κ)(v:V):(b9 kvs k v).length<=kvs.length+1:=by
 unfold b9;split
 .rw[Kg];lia
 .rw[KF,K8,Nm];lia
theorem RelO.isSome_eq {o:Option V}{u:Option Ow}(r:RelO o u):o.isSome=u.isSome:=by
 cases o with
 |none=>cases u with
  |none=>rfl
  |some _=>exact(show False from r).elim
 |some _=>cases u with
  |none=>exact(show False from r).elim
  |some _=>rfl
theorem RelO.getD {o:Option V}{u:Option Ow}{d:V}{d':Ow}(r:RelO o u)(rd:RelV d d'):RelV (o.getD d) (u.getD d'):=by
 cases o with
 |none=>cases u with
  |none=>exact rd
  |some _=>exact(show False from r).elim
 |some _=>cases u with
  |none=>exact(show False from r).elim
  |some _=>exact r
theorem KV.val {kvs:List (κ×V)}{vs:List (κ×Ow)}(r:KV kvs vs)(k:κ):RelO (dr kvs k) (valueAt vs k):=by
 unfold KV at r;induction r with
 |nil=>exact True.intro
 | @cons p q ps qs h t ih=>
  obtain⟨h1,h2⟩:=h;by_cases e:p.1=k
  .have e':q.1=k:=h1.symm.trans e;have b:valueAt (q::qs) k=some q.2:=by simp[valueAt,MW,e']
   rw[dM e,b];exact h2
  .have e':¬ q.1=k:=fun z=>e (h1.trans z);have b:valueAt (q::qs) k=valueAt qs k:=by simp[valueAt,MW,e']
   rw[dN e,b];exact ih
theorem KV.any {kvs:List (κ×V)}{vs:List (κ×Ow)}(r:KV kvs vs)(k:κ):(kvs.any fun kv=>decide (kv.1=k))=vs.any fun kv=>decide (kv.1=k):=by
 unfold KV at r;induction r with
 |nil=>rfl
 |cons h t ih=>rw[L8,L8,ih,h.1]
theorem KV.repl {kvs:List (κ×V)}{vs:List (κ×Ow)}(r:KV kvs vs)(k:κ){y:V}{u:Ow}(ry:RelV y u) :
 KV (kvs.map fun kv=>if kv.1=k then (kv.1,y) else kv) (vs.map fun kv=>if kv.1=k then (kv.1,u) else kv):=by
 unfold KV at r ⊢;induction r with
 |nil=>exact .nil
 | @cons p q ps qs h t ih=>
  rw[Kx,Kx];refine .cons ?_ ih;obtain⟨h1,h2⟩:=h;by_cases e:p.1=k
  .rw[Kf e,Kf (h1.symm.trans e)];exact⟨h1,ry⟩
  .rw[Kh e,Kh (fun z=>e (h1.trans z))];exact⟨h1,h2⟩
theorem KV.put {kvs:List (κ×V)}{vs:List (κ×Ow)}(r:KV kvs vs)(k:κ){y:V}{u:Ow}(ry:RelV y u):KV (b9 kvs k y) (stored vs k u):=by
 unfold b9 stored;rw[r.any k];by_cases e:(vs.any fun kv=>decide (kv.1=k))=true
 .rw[Kf e,Kf e];exact r.repl k ry
 .rw[Kh e,Kh e];exact Paired.snoc r ⟨rfl,ry⟩
theorem KV.drop {kvs:List (κ×V)}{vs:List (κ×Ow)}(r:KV kvs vs)(k:κ):KV (Cm kvs k) (without vs k):=by
 unfold KV at r ⊢;unfold Cm without;induction r with
 |nil=>exact .nil
 | @cons p q ps qs h t ih=>
  obtain⟨h1,h2⟩:=h;rw[Ll,Ll];by_cases e:p.1=k
  .have a:¬ decide (p.1≠k)=true:=by simp[e]
   have b:¬ decide (q.1≠k)=true:=by simp[h1.symm.trans e]
   rw[Kh a,Kh b];exact ih
  .have e':¬ q.1=k:=fun z=>e (h1.trans z);have a:decide (p.1≠k)=true:=by simp[e]
   have b:decide (q.1≠k)=true:=by simp[e']
   rw[Kf a,Kf b];exact .cons ⟨h1,h2⟩ ih
theorem KV.keys {kvs:List (κ×V)}{vs:List (κ×Ow)}(r:KV kvs vs):kvs.map (·.1)=vs.map (·.1):=by
 unfold KV at r;induction r with
 |nil=>rfl
 |cons h t ih=>rw[Kx,Kx,ih,h.1]
theorem KV.length {kvs:List (κ×V)}{vs:List (κ×Ow)}(r:KV kvs vs):kvs.length=vs.length:=Nk r
end
theorem tm {P:Ov}{w:World}{k:Key}{u:Ow}(r:RelV (kV k) u):(mixKind P w).is k u=true:=by
 cases k with
 |inl i=>obtain⟨t,e⟩:=(show ∃ t,u=Value.int i t from r);subst e;exact oR P w i t
 |inr x=>obtain⟨t,e⟩:=(show ∃ t,u=Value.str x t from r);subst e;exact oS P w x t
theorem mH {P:Ov}{w:World}:∀{ks:List Key}{us:List Ow},Vals (ks.map kV) us->ItemsAre (mixKind P w) ks us
 | [],_,r=>by rw[N6]at r;cases r;exact .nil
 |k::ks,_,r=>by
  rw[Kx]at r;cases r with
  |cons h t=>exact .cons (tm h) (mH t)
noncomputable abbrev KT (H:Hp):List (List Key×V)->List (List Key×Addr×Ow)->Prop:=Paired fun p q=>p.1=q.1/\H q.2.1=some (.tup (p.1.map kV))/\RelV p.2 q.2.2
theorem KT.val {H:Hp}{kvs:List (List Key×V)}{xs:List (List Key×Addr×Ow)}(r:KT H kvs xs)(k:List Key):RelO (dr kvs k) ((atKey xs k).map (·.2)):=by
 induction r with
 |nil=>exact True.intro
 | @cons p q ps qs h t ih=>
  obtain⟨h1,_,h2⟩:=h;by_cases e:p.1=k
  .have e':q.1=k:=h1.symm.trans e;have b:atKey (q::qs) k=some q.2:=by simp[atKey,MW,e']
   rw[dM e,b];exact h2
  .have e':¬ q.1=k:=fun z=>e (h1.trans z);have b:atKey (q::qs) k=atKey qs k:=by simp[atKey,MW,e']
   rw[dN e,b];exact ih
theorem KT.repl {H:Hp}{kvs:List (List Key×V)}{xs:List (List Key×Addr×Ow)}(r:KT H kvs xs)(k:List Key){y:V}{u:Ow}(ry:RelV y u) :
 KT H (kvs.map fun kv=>if kv.1=k then (kv.1,y) else kv) (xs.map (putAt k u)):=by
 induction r with
 |nil=>exact .nil
 | @cons p q ps qs h t ih=>
  rw[Kx,Kx];refine .cons ?_ ih;obtain⟨h1,h2,h3⟩:=h;unfold putAt;by_cases e:p.1=k
  .rw[Kf e,Kf (h1.symm.trans e)];exact⟨h1,h2,ry⟩
  .rw[Kh e,Kh (fun z=>e (h1.trans z))];exact⟨h1,h2,h3⟩
theorem KT.put {H:Hp}{kvs:List (List Key×V)}{xs:List (List Key×Addr×Ow)}(r:KT H kvs xs)(k:List Key){b:Addr}{y:V}{u:Ow}(hb:H b=some (.tup (k.map kV)))(ry:RelV y u) :
 KT H (b9 kvs k y) (storedH xs k b u):=by
 have e:(kvs.any fun kv=>decide (kv.1=k))=(atKey xs k).isSome:=by rw[o6,(r.val k).isSome_eq,Option.isSome_map]
 unfold b9 storedH;rw[e];by_cases q:(atKey xs k).isSome=true
 .rw[Kf q,Kf q];exact r.repl k ry
 .rw[Kh q,Kh q];exact Paired.snoc r ⟨rfl,hb,ry⟩
theorem KT.keeps {H H':Hp}{kvs:List (List Key×V)}{xs:List (List Key×Addr×Ow)}(r:KT H kvs xs)(ht:∀ b ys,H b=some (.tup ys)->H' b=some (.tup ys)):KT H' kvs xs:=Paired.mapP r fun _ _ z=>⟨z.1,ht _ _ z.2.1,z.2.2⟩
section
variable {P:Ov}{w:World}{H:Hp}{h:Heap}{a:Addr}
theorem Co {u:HO}(ok:HOk P w H h)(e:Rd H a u):ObjOk P w H h a u:=e.ok ok
theorem wK {kvs:List (Key×V)}(ok:HOk P w H h)(e:Rd H a (.dK kvs)):kvs.length<=sizeLine/\(a==sysModules)=false/\∃ vs,KV kvs vs/\h.DictOf (mixKind P w) a vs:=show ObjOk P w H h a (.dK kvs) from Co ok e
theorem Ge {kvs:List (Key×V)}(ok:HOk P w H h)(e:H a=some (.dK kvs)):kvs.length<=sizeLine/\(a==sysModules)=false/\∃ vs,KV kvs vs/\h.DictOf (mixKind P w) a vs:=wK ok (.inl e)
theorem d9 {ks:List Key}(ok:HOk P w H h)(e:H a=some (.tup (ks.map kV))):(tupleKind (mixKind P w)).is h ks a:=by obtain⟨_,its,r,o,h1,h2,n,h3⟩:=(show ObjOk P w H h a (.tup (ks.map kV)) from ok a _ e);exact⟨o,its.toArray,n,h1,h2,h3,by simpa using mH r⟩
theorem wL {kvs:List (List Key×V)}(ok:HOk P w H h)(e:Rd H a (.dT kvs)):kvs.length<=sizeLine/\(a==sysModules)=false/\
 ∃ xs,KT H kvs xs/\h.DictOfH (tupleKind (mixKind P w)) a xs:=by
 obtain⟨z,y,xs,r,o,es,ep,h1,h2,h3,h4,h5⟩:=(show ObjOk P w H h a (.dT kvs) from Co ok e);refine⟨z,y,xs,r,o,es,ep,h1,h2,h3,h4,fun x hx=>?_,h5⟩;have all:∀{l:List (List Key×V)}{m:List (List Key×Addr×Ow)},KT H l m->∀ x∈m,(tupleKind (mixKind P w)).is h x.1 x.2.1:=by
  intro l m q;induction q with
  |nil=>intro x hx;exact nomatch hx
  | @cons p q ps qs hq t ih=>
   intro x hx;rcases Kj.mp hx with e|hx
   .subst e;exact d9 ok (by rw[<- hq.1];exact hq.2.1)
   .exact ih x hx
 exact all r x hx
theorem Cp {kvs:List (List Key×V)}(ok:HOk P w H h)(e:H a=some (.dT kvs)):kvs.length<=sizeLine/\(a==sysModules)=false/\
 ∃ xs,KT H kvs xs/\h.DictOfH (tupleKind (mixKind P w)) a xs:=wL ok (.inl e)
end
def DGet (H:Hp)(a:Addr)(y:V)(r:Option V):Prop:=(∃ kvs k,Rd H a (.dK kvs)/\y=kV k/\r=dr kvs k)\/∃ kvs k b,Rd H a (.dT kvs)/\y=.ref b/\H b=some (.tup (k.map kV))/\r=dr kvs k
def DPut (H:Hp)(a:Addr)(y v:V)(H':Hp):Prop:=
 (∃ kvs k,H a=some (.dK kvs)/\y=kV k/\kvs.length<sizeLine/\H'=aJ H a (.dK (b9 kvs k v)))\/
 ∃ kvs k b,H a=some (.dT kvs)/\y=.ref b/\H b=some (.tup (k.map kV))/\kvs.length<sizeLine/\H'=aJ H a (.dT (b9 kvs k v))
theorem DGet.k {H:Hp}{a:Addr}{kvs:List (Key×V)}{k:Key}(e:H a=some (.dK kvs)):DGet H a (kV k) (dr kvs k):=.inl ⟨kvs,k,.inl e,rfl,rfl⟩
theorem DGet.t {H:Hp}{a b:Addr}{kvs:List (List Key×V)}{k:List Key}(e:H a=some (.dT kvs))(eb:H b=some (.tup (k.map kV))):DGet H a (.ref b) (dr kvs k):=.inr ⟨kvs,k,b,.inl e,rfl,eb,rfl⟩
theorem DPut.k {H:Hp}{a:Addr}{kvs:List (Key×V)}{k:Key}{v:V}(e:H a=some (.dK kvs))(hl:kvs.length<sizeLine):DPut H a (kV k) v (aJ H a (.dK (b9 kvs k v))):=.inl ⟨kvs,k,e,rfl,hl,rfl⟩
theorem DPut.t {H:Hp}{a b:Addr}{kvs:List (List Key×V)}{k:List Key}{v:V}(e:H a=some (.dT kvs))(eb:H b=some (.tup (k.map kV)))(hl:kvs.length<sizeLine) :
 DPut H a (.ref b) v (aJ H a (.dT (b9 kvs k v))):=.inr ⟨kvs,k,b,e,rfl,eb,hl,rfl⟩
section
variable {X:Cx}{pins:List (Addr×Obj)}{σ:St}{H:Hp}{s:Ot}{a:Addr}{y v:V}{u r:Ow}{o:Option V}{A:Ox}{E:Ow->Ot->Prop}
theorem Inv.big (I:Inv X pins σ H s):sysModules<s.heap.objs.size:=by have h:mainGlobals<s.heap.objs.size:=(I.mod.glob.keeps I.bk).lt;exact Nat.lt_trans (by decide) h
theorem jN {h':Heap}{t':Nat}{ob:HO}(I:Inv X pins σ H s)(mu:FR (H a))(hs:Heap.SameBut a s.heap h')(he:∃ q,h'.get? a=some q)(new:ObjOk X.prog X.w (aJ H a ob) h' a ob) :
 Inv X pins σ (aJ H a ob) { s with heap:=h',toks:=t' }:=
 I.write (x:=a) (e:=a) mu (.inl rfl) (fun b q hb z=>(hs.2 b hb).trans z) he new
theorem DH {P:Ov}{w:World}{H':Hp}{h':Heap}{kvs:List (Key×V)}{vs:List (Key×Ow)}(z:kvs.length<=sizeLine)(hd:(a==sysModules)=false)(rel:KV kvs vs)(dd:h'.DictOf (mixKind P w) a vs) :
 ObjOk P w H' h' a (.dK kvs):=⟨z,hd,vs,rel,dd⟩
theorem iN {H':Hp}{Q:Unit->Ot->Prop}(hu:A.units+1<cLine)(I:Inv X pins σ H s)(g:DPut H a y v H')(ry:RelV y u)(rv:RelV v r)(h:∀ s',Inv X pins σ H' s'->Q () s') :
 wpAny (model X.prog X.w) A (setItem (.ref a) u r) Q E s:=by
 rcases g with⟨kvs,k,e,ey,l,eH⟩|⟨kvs,k,b,e,ey,eb,l,eH⟩
 .subst ey eH;obtain⟨z,hd,vs,rel,dd⟩:=Ge I.hok e;have hz:vs.length<=sizeLine:=by rw[<- rel.length];exact z
  have hl:(b9 kvs k v).length<=sizeLine:=by have:=fD kvs k v;lia
  refine wpAny_setItem_pairs (hsz:=hz) (tm ry) dd fun h' dd' hs=>h _ ?_;have he:∃ q,h'.get? a=some q:=let ⟨q,_,_,hq,_⟩:=dd';⟨q,hq⟩;exact jN I (by rw[e];exact True.intro) hs he (DH hl hd (rel.put k rv) dd')
 .subst ey eH;cases (show u=Value.ref b from ry);obtain⟨z,hd,xs,rel,dd⟩:=Cp I.hok e;have hz:xs.length<=sizeLine:=by rw[<- Nk rel];exact z
  have hl:(b9 kvs k v).length<=sizeLine:=by have:=fD kvs k v;lia
  refine wpAny_setItem_heap (hsz:=hz) (tupleKind_room_in1 hu) (d9 I.hok eb) dd fun h' dd' hs=>h _ ?_;obtain⟨q,es,ep,hq,h2,h3,h4,_,h5⟩:=dd';refine jN I (by rw[e];exact True.intro) hs ⟨q,hq⟩ ⟨hl,hd,_,(rel.put k eb rv).keeps fun c ys ec=>?_,q,es,ep,hq,h2,h3,h4,h5⟩;rw[ao (oT ec e (fun z=>nomatch z))];exact ec
end
section
variable {X:Cx}{pins:List (Addr×Obj)}{σ:St}{H:Hp}{s:Ot}{a:Addr}{kvs:List (Key×V)}{k:Key}{u:Ow}{A:Ox}{E:Ow->Ot->Prop}
end
section
variable {X:Cx}{o i e value:Expr}{pos pos' sS:Pos}{td ty tv:TE}
end
theorem wM {P:Ov} {w:World} {H:Hp} (h:Heap) (hb:sysModules<h.objs.size):ObjOk P w H (h.push { cls:=.type "dict",data:=.dict #[] }) h.objs.size (.dK []):=⟨KU _,NZ.mpr (Lj (KJ hb)),[],.nil,Heap.DictOf.new h⟩
noncomputable def DI:TE:=fun _ H Q=>∀ p,H p=none->Q (.ref p) (aJ H p (.dK []))
section
variable {X:Cx}{pos:Pos}
theorem wN:PE X (.Dict [] [] pos) DI:=fun pins s σ H Q I h=>wpAny_Dict_empty ⟨.ref s.heap.objs.size,_,I.laid (a:=s.heap.objs.size) (o:=.dK []) (t':=s.toks) (fun _ _ q=>Kb _ q) (Km _) (wM s.heap I.big),rfl,h _ (I.hok.fresh (Km _))⟩
end
structure M1 (X:Cx) (o:Expr) (m:Str) (apos:Pos) (e:Expr) (cpos:Pos):Prop where
 base:attributeBase o m X.env (eval o X.env)=eval o X.env
 few:((backTo cpos (starEach [e] X.env)).all (fun x=>!x.1)&&(backToKw cpos (keywordEach [] X.env)).all (fun x=>x.1.isSome)
  && decide (([e]:List Expr).length+([]:List Keyword).length+(if ([]:List Keyword).isEmpty then 0 else 1)<30))=true
 line:(apos.endLine==cpos.line)=true
 trees:backTo cpos (starEach [e] X.env)=[(false,eval e X.env)]
structure M2 (X:Cx) (o:Expr) (m:Str) (apos:Pos) (e f:Expr) (cpos:Pos):Prop where
 base:attributeBase o m X.env (eval o X.env)=eval o X.env
 few:((backTo cpos (starEach [e,f] X.env)).all (fun x=>!x.1)&&(backToKw cpos (keywordEach [] X.env)).all (fun x=>x.1.isSome)
  && decide (([e,f]:List Expr).length+([]:List Keyword).length+(if ([]:List Keyword).isEmpty then 0 else 1)<30))=true
 line:(apos.endLine==cpos.line)=true
 trees:backTo cpos (starEach [e,f] X.env)=[(false,eval e X.env),(false,eval f X.env)]
def Ik (H:Hp)(a:Addr):Prop:=(∃ kvs,Rd H a (.dK kvs))\/∃ kvs,Rd H a (.dT kvs)
theorem wO {X:Cx}{pins:List (Addr×Obj)}{σ:St}{H:Hp}{s:Ot}{a:Addr}(I:Inv X pins σ H s)(d:Ik H a) :
 s.TypeIs (.ref a) "dict"/\(∀ b,Value.ref a=.ref b->∃ ob,s.heap.get? b=some ob/\ob.dict=none)/\(a==sysModules)=false:=by
 rcases d with⟨kvs,e⟩|⟨kvs,e⟩
 .obtain⟨_,hd,vs,_,dd⟩:=wK I.hok e;refine⟨dd.typeIs,fun b q=>?_,hd⟩;cases q;obtain⟨ob,_,_,h1,h2,_⟩:=dd;exact⟨ob,h1,h2.2.1⟩
 .obtain⟨_,hd,xs,_,dd⟩:=wL I.hok e;refine⟨dd.typeIs,fun b q=>?_,hd⟩;cases q;obtain⟨ob,_,_,h1,h2,_⟩:=dd;exact⟨ob,h1,h2.2.1⟩
section
variable {X:Cx}{pins:List (Addr×Obj)}{σ:St}{H:Hp}{s:Ot}{a:Addr}{y d:V}{u r:Ow}{o:Option V}{A:Ox}{E:Ow->Ot->Prop}
theorem DJ {Q:Ow->Ot->Prop}(hu:A.units+1<cLine)(I:Inv X pins σ H s)(g:DGet H a y o)(ry:RelV y u)(rd:RelV d r)(h:∀ w' s',Inv X pins σ H s'->RelV (o.getD d) w'->Q w' s') :
 wpAny (model X.prog X.w) A (call (.builtin "dict.get") [.ref a,u,r]) Q E s:=by
 rcases g with⟨kvs,k,e,ey,l⟩|⟨kvs,k,b,e,ey,eb,l⟩
 .subst ey;obtain⟨z,hd,vs,rel,dd⟩:=wK I.hok e;refine call_meetsIn Mm dd.typeIs MQ (MI _ _ _) (meets_dict_get_default (mixKind X.prog X.w) a (tm ry) hd r) ⟨_,dd.mapOf,h _ _ (I.tok _) ?_⟩;rw[l];exact(rel.val k).getD rd
 .subst ey;cases (show u=Value.ref b from ry);obtain⟨z,hd,xs,rel,dd⟩:=wL I.hok e;refine call_meetsIn Mm dd.typeIs MQ (MI _ _ _) (meetsH_dict_get_default (tupleKind (mixKind X.prog X.w)) a b hd r) ⟨tupleKind_room_in1 hu,k,xs,d9 I.hok eb,dd,h _ _ (I.tok _) ?_⟩;rw[l];exact(rel.val k).getD rd
end
section
variable {X:Cx}{o e f:Expr}{apos cpos:Pos}{td ty tx:TE}
end
section
variable {X:Cx}{pins:List (Addr×Obj)}{σ:St}{H:Hp}{s:Ot}{a:Addr}{kvs:List (Key×V)}{A:Ox}{E:Ow->Ot->Prop}
end
section
variable {X:Cx}{pins:List (Addr×Obj)}{σ:St}{H:Hp}{s:Ot}{a:Addr}{y:V}{u:Ow}{A:Ox}{E:Ow->Ot->Prop}
end
end L2
namespace Att
open PySem PySem.W PySem.Calls PyProof.Rows
theorem jG {P:Params}{h:Heap}:∀(ns:List Int)(vs:List Ow),WellAll P h vs (ns.map WData.int)->IntsAre vs ns:=by
 intro ns;induction ns with
 |nil=>intro vs w;rw[N6]at w;cases w;exact .nil
 |cons n ns ih=>
  intro vs w;rw[Kx]at w;cases w with
  |cons a b=>cases a;exact .cons _ _ (ih _ b)
theorem u9 {l:OpenLaw}{n:Nat}(hn:l.most=some n){P:Params}{h:Heap}{args:List WData}{vals:List Ow}
 (hpre:l.row.toRowW.claim.pre args=true) (hwl:WellAll P h vals args) :
 ∃ a vs ns,vals=[Value.ref a]/\args=[WData.list (ns.map WData.int)]/\h.get? a=some { cls:=.type "list",data:=.seq vs.toArray }/\IntsAre vs ns/\ns.length<=n:=by
 have hsh:WShape.hasAll [] args [.list .int]=true:=(pre_splitW hpre).1;have hc:l.pre.holds [] { args:=args }=true:=(pre_splitW hpre).2;obtain⟨d,r,rfl,h1,h2⟩:=hasAllW_cons hsh;obtain rfl:=hasAllW_nil h2;obtain⟨xs,rfl,h3⟩:=hasW_list h1;obtain⟨ns,rfl⟩:=items_int h3;have bR:ns.length<=n:=by
  unfold OpenLaw.pre at hc;have h4:(WTm.not (.lt (.lit (.int (n:Int))) (.len (.arg 0)))).holds [] { args:=[.list (ns.map .int)] }=true:=by have h4:=(holds_andW hc).1;rw[hn]at h4;exact h4
  have h5:=condW_of h4 (w_not (w_lt w_lit (w_len_list (w_arg rfl))));rw[Kg]at h5;refine Mj fun q=>?_;have q':(n:Int)<((ns.length:Nat):Int):=by lia
  first
   |(rw[Kl q']at h5;exact absurd h5 (by decide))
   |(simp at h5;lia)
 cases hwl with
 |cons w1 w2=>
  cases w2;cases w1 with
  |list ho hall=>exact⟨_,_,ns,rfl,rfl,ho,jG ns _ hall,bR⟩
theorem u_ (l:OpenLaw)(args:List WData):l.row.toRowW.claim.post args (.bool true) args=true:=
 postW_of (r:=l.row.toRowW) (X:=(true==true))
  (show WShape.has [] (.bool true) .bool=true by first|rfl|decide|simp[WShape.has,WShape.arms,WShape.armsAll])
  (show(WTm.eq .res (.lit (.bool true))).value [] { args:=args,res:=some (.bool true),after:=args }=some (.bool (true==true)) from w_eq_bool (w_res rfl) w_lit) rfl
theorem attach_call {l:OpenLaw}{n:Nat}{q:Ov}{loose:List Str}{XP:(Str->Option Ow)->Heap->Prop}{YP:World->Heap->Prop}{d:DefRec}
 (hn:l.most=some n) (hdf:d.params.defaults=[])
 (call:∀(w:World)(s₀ s₁:Ot)(mg mb:Str->Option Ow)(fa:Addr)(o:Obj)(pm cd doc:Ow)(a:Addr)(vs:List Ow)(ns:List Int),
   Ground q loose [] XP w s₀ mg mb s₁.heap->YP w s₁.heap->
   s₁.heap.get? fa=some o->o.data=.func (docDef d.name d.params d.body d.scope pm cd doc)->s₁.heap.CodeRec cd d.name->mg d.name=some (.ref fa)->
   s₁.heap.get? a=some { cls:=.type "list",data:=.seq vs.toArray }->IntsAre vs ns->ns.length<=n->s₁.gens=#[]->
   codeAny (model l.prog w) callerA (.call (.ref fa) ⟨[.ref a],[]⟩) (fun r s'=>r=.ok (.ret (.bool true))/\OldK s₁.heap s'.heap/\s'.os=s₁.os/\AllBare s'.gens) s₁) :
 WalkO q loose XP YP l.row.toRowW d [] (fun f vs=>PySem.call f vs):=by
 intro w s₀ s₁ mg mb G Y fa o pm cd doc dV kV ho hd hcd hD hmg hg args vals as hpre hlay hrd hwl hlo;obtain rfl:dV=.none:=Dflts.none hD hdf;obtain rfl:kV=.none:=Dflts.noKw hD;obtain⟨a,vs,ns,rfl,rfl,hobj,hints,bR⟩:=u9 hn hpre hwl;refine enter_call (MV (call w s₀ s₁ mg mb fa o pm cd doc a vs ns G Y ho (fd_plain hd) hcd hmg hobj hints bR hg) fun r s' hq=>?_);obtain⟨rfl,h2,h3,h4⟩:=hq;exact⟨.inl ⟨.bool true,.bool true,[],rfl,fun _=>rfl,.bool true,u_ l _,fun _=>⟨List.Pairwise.nil,fun _ hm=>(nomatch hm)⟩⟩,h2,h3,h4⟩
section
variable {prog:Ov}{w:World}{A:Ox}{E:Ow->Ot->Prop}{s:Ot}{K:Frag}
end
end Att
namespace L2
open PySem PySem.Spec PyProof.Rows
noncomputable def defArgs (s:Stmt):Arguments:=match s with
 | .FunctionDef _ a _ _ _ _ _ _ _ _=>a
 |_=>{ posonlyargs:=[],args:=[],vararg:=none,kwonlyargs:=[],kw_defaults:=[],kwarg:=none,defaults:=[] }
noncomputable def defBody (s:Stmt):List Stmt:=match s with
 | .FunctionDef _ _ b _ _ _ _ _ _ _=>b
 |_=>[]
noncomputable def defScope (s:Stmt):Scope:=match s with
 | .FunctionDef _ _ _ _ _ _ sc _ _ _=>sc
 |_=>{ kind:=.function,names:=[],isGenerator:=false,isCoroutine:=false }
noncomputable abbrev JN:CXT:=fun _ _ _ _ _ _=>False
noncomputable abbrev E0:XK:=fun _ _ _=>False
structure Fun (K:Ou) (x qual:Str) (st:Stmt) (f:Addr) (fd:FuncData):Prop where
 ex:∃(oc:Ow)(od:Option Addr)(kV doc pm:Ow)(an:Option Addr)(cdv ct:Ow)(osl:Array (Option Ow)),
  fd=PySem.W.fnOf x qual (defArgs st) (defBody st) (defScope st) .none kV doc pm an cdv ct/\K.lookup f=some ⟨oc,od,.func fd,osl⟩/\PySem.W.codeIn K cdv qual=true
 kp:PySem.W.keepIn K (.ref f)=true
section
variable {P:Ov}{w:World}{K:Ou}{mg:Str->Option Ow}{base:Heap}
theorem Fun.ok {x qual:Str}{st:Stmt}{f:Addr}{fd:FuncData}{N ps:List Str}{k:Nat}{sp:Sp}(F:Fun K x qual st f fd)(S:FnScope N ps (defScope st))(len:∀ vs H Q E,sp vs H Q E->vs.length=ps.length)
 (hbody:∀(cdv:Ow)(A:Ox)(outer:List Env)(s:Ot)(H:Hp)(vs:List V)(Q:VK)(E:XK),Room k (A.deeper (envOfC qual (defScope st) s.heap.objs.size f cdv))->sp vs H Q E->
   ∃ t,PSs (rj JN P w K mg base N qual (defScope st) f cdv A outer s H E).nox (defBody st) t/\t { nx:=fun _ H'=>Q .non H',rt:=Q } (fw N vs) H):FnOk P w K mg base JN (k+1) f fd ps sp:=by
 obtain⟨oc,od,kV,doc,pm,an,cdv,ct,osl,rfl,lk,hcd⟩:=F.ex;refine Cj lk hcd S len fun A outer s H vs Q E hr hsp=>?_;obtain⟨t,h,q⟩:=hbody cdv A outer s H vs Q E hr hsp;exact⟨t,h.nox,q⟩
theorem Fun.binds {x qual:Str}{st:Stmt}{f:Addr}{fd:FuncData}{ps:List Str}(F:Fun K x qual st f fd)
 (h:∀(kV doc pm:Ow)(an:Option Addr)(cdv ct:Ow)(us:List Ow),us.length=ps.length->bindArgs (PySem.W.fnOf x qual (defArgs st) (defBody st) (defScope st) .none kV doc pm an cdv ct) ⟨us,[]⟩=pure (ps.zip us)):Binds K fd ps []:=by
 obtain⟨oc,od,kV,doc,pm,an,cdv,ct,osl,rfl,lk,hcd⟩:=F.ex;exact .all (h kV doc pm an cdv ct)
theorem DL {x qual:Str}{st:Stmt}{f:Addr}{oc:Ow}{od an:Option Addr}{osl:Array (Option Ow)}{kV doc pm cdv ct:Ow}(l:K.lookup f=some ⟨oc,od,.func (PySem.W.fnOf x qual (defArgs st) (defBody st) (defScope st) .none kV doc pm an cdv ct),osl⟩)
 (c:PySem.W.codeIn K cdv qual=true) (k:PySem.W.keepIn K (.ref f)=true):Fun K x qual st f (PySem.W.fnOf x qual (defArgs st) (defBody st) (defScope st) .none kV doc pm an cdv ct):=⟨⟨oc,od,kV,doc,pm,an,cdv,ct,osl,rfl,l,c⟩,k⟩
end
section
variable {X:Cx}
theorem pv (i:Nat) {x:Str} {pos:Pos} (hN:autoParam (X.N[i]?=some x) OD._auto_1) (hv:autoParam (Vis X.env.scope x) OA._auto_1) (hd:autoParam ((x==("__debug__" : Str))=false) Oy._auto_1)
 (hcd:autoParam ((x==("__classdict__" : Str))=false) Oy._auto_1):PE X (.Name x pos) (fB i):=Dc hN hv hd hcd
end
theorem o7 {A B:Prop}(h:B):if false=true then A else B:=by rw[Kh Mb];exact h
theorem o8 {A B:Prop}(h:A):if true=true then A else B:=by rw[Kf rfl];exact h
def Same (H H':Hp):Prop:=∀ b o,H b=some o->H' b=some o
theorem Same.refl (H:Hp):Same H H:=fun _ _ h=>h
theorem Same.trans {H H1 H2:Hp}(a:Same H H1)(b:Same H1 H2):Same H H2:=fun c o h=>b c o (a c o h)
theorem Same.free {H H':Hp}(e:Same H H'){l:Addr}(h:H' l=Option.none):H l=Option.none:=by
 cases q:H l with
 |none=>rfl
 |some o=>rw[e l o q]at h;cases h
section
variable {κ:Type}[DecidableEq κ]
end
noncomputable def iH (P:Ov)(w:World):CXT:=fun outer H s E e s'=>
 ∃(x C t:Addr)(B:Heap)(H':Hp),e=.ref x/\s'.os=s.os/\AllBare s'.gens/\Un (frs outer) [] H H' s.heap s'.heap/\HOk P w H' s'.heap/\
  Heap.FlyingW B outer x (.ref C) (.ref t) s'.heap/\(∀ b u,H' b=some u->∃ o,B.get? b=some o)/\(∀ b o,s.heap.get? b=some o->Qt H b->b∉frs outer->B.get? b=some o)/\
  (∀ b o,s.heap.get? b=some o->b∉frs outer->∃ o',B.get? b=some o')/\H' x=none/\E (.ref C) none H'
theorem iO {H:Hp}{B h1 h2:Heap}(ok:HOk P w H h1)(oU:∀ b u,H b=some u->∃ o,B.get? b=some o)(s1:B.StaysIn h1)(s2:B.StaysIn h2):HOk P w H h2:=fun a o e=>(ok a o e).stay (fun b u hb q=>by have hb':∃ v,H b=some v:=hb.elim (fun z=>⟨o,by rw[z];exact e⟩) fun z=>⟨_,z⟩;obtain⟨v,hv⟩:=hb';obtain⟨o',ho⟩:=oU b v hv;have:=s1 b o' ho;rw[q]at this;cases this;exact s2 b _ ho) (fun _ q=>q) fun _ _ q=>q
theorem kg:∀{o:HO},ObjOk P w H h a o->∃ ob,h.get? a=some ob
 | .lst xs,x=>by obtain⟨_,_,_,_,e⟩:=x;exact⟨_,e⟩
 | .tup xs,x=>by obtain⟨_,_,_,⟨_,e,_⟩⟩:=x;exact⟨_,e⟩
 | .dK kvs,x=>by obtain⟨_,_,_,_,o,_,_,e,_⟩:=x;exact⟨_,e⟩
 | .dT kvs,x=>by obtain⟨_,_,_,_,o,_,_,e,_⟩:=x;exact⟨_,e⟩
 | .set S n,x=>by obtain⟨o,_,_,_,e,_⟩:=x;exact⟨_,e⟩
 | .ins C dx fs,x=>by obtain⟨_,_,_,e,_⟩:=x;exact⟨_,e⟩
 | .own y,x=>x
 | .xd fs,x=>by obtain⟨_,⟨_,_,_,e,_⟩,_⟩:=x;exact⟨_,e⟩
 | .rng lo hi,x=>by obtain⟨_,_,_,e⟩:=x;exact⟨_,e⟩
 | .frz ob u,x=>by obtain⟨e,_⟩:=x;exact⟨_,e⟩
 | .tbl ps,x=>⟨_,(show h.get? a=some _ from x)⟩
 | .met f y,x=>⟨_,(show h.get? a=some _ from x)⟩
 | .ext φ,x=>x.2.1
section
variable {P:Ov}{w:World}{K:Ou}{mg:Str->Option Ow}{base:Heap}{N:List Str}{qual:Str}{scope:Scope}{f:Addr}{cd:Ow}{A:Ox}{outer:List Env}{s₀:Ot}{H₀:Hp}{E:XK}
noncomputable abbrev jo (P:Ov)(w:World)(K:Ou)(mg:Str->Option Ow)(base:Heap)(N:List Str)(qual:Str)(scope:Scope)(f:Addr)(cd:Ow)(A:Ox)(outer:List Env)(s:Ot)(H:Hp)(E:XK):Cx:=rj (iH P w) P w K mg base N qual scope f cd A outer s H E
theorem o9 (I:Inv (jo P w K mg base N qual scope f cd A outer s₀ H₀ E) pins σ H s)(e:s₀.heap.get? b=some o)(hb:b∉frs outer) :
 b∉frs (jo P w K mg base N qual scope f cd A outer s₀ H₀ E).stack:=fun z=>by
 rcases Kj.mp (I.stkSub b z) with q|q
 .exact absurd (KR (Kt e) (KA I.ok.above (Nat.le_of_eq q.symm))) (LY _)
 .exact hb q
theorem rl (hb:b∈frs outer):b∈frs (jo P w K mg base N qual scope f cd A outer s₀ H₀ E).stack:=by show b∈frs (envOfC qual scope s₀.heap.objs.size f cd::outer);unfold frs;rw[MG];have:(envOfC qual scope s₀.heap.objs.size f cd).frame=some s₀.heap.objs.size:=rfl;rw[this];exact Ky _ hb
theorem aD:iJ (iH P w) (jo P w K mg base N qual scope f cd A outer s₀ H₀ E) E:=by
 intro pins σ H s e s' I h;obtain⟨x,C,t,B,H',rfl,os,bare,un,hok,fly,oU,unt,inB,hx,hE⟩:=h;show wpAny _ _ (leaving _ _) _ _ s';have nx:∀ b:Addr,b∉(jo P w K mg base N qual scope f cd A outer s₀ H₀ E).ex:=fun b z=>absurd (show b∈([]:List Addr) from z) (by simp);refine wpAny_leaves_onW I.ok.frames rfl fly fun h' fly' up=>?_;have nf:∀ b,b∈frs outer->∀ o,s'.heap.get? b=some o->∀ vs,o.data≠.fields vs:=fun b hb o e=>by obtain⟨_,o',e',d⟩:=fly.2.2.1.mem (rl (P:=P) (w:=w) (K:=K) (mg:=mg) (base:=base) (N:=N) (H₀:=H₀) (E:=E) (A:=A) hb);rw[e]at e';cases e';exact d
 refine⟨x,C,t,B,H',rfl,os.trans I.os,bare,⟨fun b o e n hb _=>?_,fun b o e n hb _=>?_,fun b o e n _=>?_,fun b o e _=>?_,fun b xs q=>un.tups b xs (I.base.tups b xs q),fun b o u q=>un.frzs b o u (I.base.frzs b o u q),fun b ps q=>?_⟩,iO hok oU fly.1 fly'.1,fly',oU,fun b o e n hb=>?_,fun b o e hb=>?_,hx,hE⟩
 .exact fly'.1 b o (unt b o (I.base.keep b o e n hb (nx b)) (n.imp (fun n=>I.base.free b o e n (nx b)) fun⟨xs,q⟩=>⟨xs,I.base.tups b xs q⟩) (o9 I e hb))
 .obtain⟨sl,e1⟩:=I.base.slot b o e n hb (nx b);obtain⟨sl',e2⟩:=un.slot b _ e1 (I.base.free b o e n (nx b)) (rl hb) (by simp);obtain⟨sl'',e3⟩:=up b _ e2 (nf b hb _ e2);exact⟨sl'',e3⟩
 .obtain⟨o1,e1⟩:=I.base.there b o e (nx b);exact un.free b o1 e1 (I.base.free b o e n (nx b)) (by simp)
 .obtain⟨o1,e1⟩:=I.base.there b o e (nx b);by_cases hb:b∈frs outer
  .obtain⟨o2,e2⟩:=un.there b o1 e1 (by simp);obtain⟨sl,e3⟩:=up b _ e2 (nf b hb _ e2);exact⟨_,e3⟩
  .obtain⟨o',q⟩:=inB b o1 e1 (o9 I e hb);exact⟨o',fly'.1 b o' q⟩
 .obtain⟨m1,e1⟩:=I.base.tbls b ps q;obtain⟨m2,e2⟩:=un.tbls b _ e1;exact⟨m1++m2,by rw[e2,N4]⟩
 .exact unt b o (I.base.keep b o e n hb (nx b)) (n.imp (fun n=>I.base.free b o e n (nx b)) fun⟨xs,q⟩=>⟨xs,I.base.tups b xs q⟩) (o9 I e hb)
 .obtain⟨o1,e1⟩:=I.base.there b o e (nx b);exact inB b o1 e1 (o9 I e hb)
theorem Av {s:Ot}{h':Heap}{x C:Addr}{args:List Ow}(I:Inv (jo P w K mg base N qual scope f cd A outer s₀ H₀ E) pins σ H s)(hx:Heap.MadeExcOf s.heap h' x (.ref C) args)(hE:E (.ref C) none H) :
 (jo P w K mg base N qual scope f cd A outer s₀ H₀ E).xe (.ref x) { s with heap:=h' }:=by
 show wpAny _ _ (leaving _ _) _ _ _;have nx:∀ b:Addr,b∉(jo P w K mg base N qual scope f cd A outer s₀ H₀ E).ex:=fun b z=>absurd (show b∈([]:List Addr) from z) (by simp);have hin:∀ env∈(jo P w K mg base N qual scope f cd A outer s₀ H₀ E).stack,∀ b,env.frame=some b->b∈frs (jo P w K mg base N qual scope f cd A outer s₀ H₀ E).stack:=fun env he b hb=>MR.mpr ⟨env,he,hb⟩;have FF:=I.stack;refine wpAny_leaves_madeW (base:=PySem.W.hideAll s.heap (frs (jo P w K mg base N qual scope f cd A outer s₀ H₀ E).stack)) I.ok.frames rfl (fun b o q=>N5 _ q) (PySem.W.funFrames_hide FF hin) hx fun h'' t fly _ _ up=>?_;have inB:∀ b o,s.heap.get? b=some o->b∉frs (jo P w K mg base N qual scope f cd A outer s₀ H₀ E).stack->(PySem.W.hideAll s.heap (frs (jo P w K mg base N qual scope f cd A outer s₀ H₀ E).stack)).get? b=some o:=fun b o e hb=>PySem.W.hideAll_get _ e hb;have oU:∀ b u,H b=some u->∃ o,(PySem.W.hideAll s.heap (frs (jo P w K mg base N qual scope f cd A outer s₀ H₀ E).stack)).get? b=some o:=fun b u e=>by obtain⟨o,ho⟩:=kg (I.hok b u e);exact⟨o,inB b o ho fun z=>by rw[I.stkFree b z]at e;cases e⟩
 have st:(PySem.W.hideAll s.heap (frs (jo P w K mg base N qual scope f cd A outer s₀ H₀ E).stack)).StaysIn s.heap:=fun b o q=>N5 _ q;have nf:∀ b,b∈frs outer->∀ o,s.heap.get? b=some o->∀ vs,o.data≠.fields vs:=fun b hb o e=>by obtain⟨_,o',e',d⟩:=FF.mem (rl (P:=P) (w:=w) (K:=K) (mg:=mg) (base:=base) (N:=N) (H₀:=H₀) (E:=E) (A:=A) hb);rw[e]at e';cases e';exact d
 have hxn:H x=none:=by
  cases q:H x with
  |none=>rfl
  |some u=>obtain⟨o,ho⟩:=kg (I.hok x u q);rw[hx.new]at ho;cases ho
 refine⟨x,C,t,_,H,rfl,I.os,I.bare,⟨fun b o e n hb _=>?_,fun b o e n hb _=>?_,fun b o e n _=>I.base.free b o e n (nx b),fun b o e _=>?_,I.base.tups,I.base.frzs,I.base.tbls⟩,iO I.hok oU st fly.1,fly,oU,fun b o e n hb=>?_,fun b o e hb=>?_,hxn,hE⟩
 .exact fly.1 b o (inB b o (I.base.keep b o e n hb (nx b)) (o9 I e hb))
 .obtain⟨sl,e1⟩:=I.base.slot b o e n hb (nx b);obtain⟨sl',e2⟩:=up b _ (hx.keeps b _ e1) (nf b hb _ e1);exact⟨sl',e2⟩
 .obtain⟨o1,e1⟩:=I.base.there b o e (nx b);by_cases hb:b∈frs outer
  .obtain⟨sl,e2⟩:=up b _ (hx.keeps b _ e1) (nf b hb _ e1);exact⟨_,e2⟩
  .exact⟨o1,fly.1 b o1 (inB b o1 e1 (o9 I e hb))⟩
 .exact inB b o (I.base.keep b o e n hb (nx b)) (o9 I e hb)
 .obtain⟨o1,e1⟩:=I.base.there b o e (nx b);exact⟨o1,inB b o1 e1 (o9 I e hb)⟩
theorem o_:PassesOwn (model P w) (jo P w K mg base N qual scope f cd A outer s₀ H₀ E).A (jo P w K mg base N qual scope f cd A outer s₀ H₀ E).env (jo P w K mg base N qual scope f cd A outer s₀ H₀ E).xe:=by
 show PassesOwn _ _ _ (fun e s'=>wpAny _ _ (leaving _ e) _ _ s')
 passes_own
end
abbrev vMro:List Ow:=[.type "ValueError",.type "Exception",.type "BaseException",.type "object"]
def wQ (h:Heap) (C:Addr) (bm:List Ow):Prop:=∃ N nm q bs hdct sn sub ab col dd k0 k1 k2 k3 k5 mN,h.get? C=some (excClassObj nm q C N bs bm hdct sn sub ab col dd k0 k1 k2 k3 k5 "ValueError.__new__")/\h.Ns N mN/\mN "__init__"=none/\OwnTail h vMro bm
noncomputable def mroK (K:Ou)(C:Addr):List Ow:=match K.lookup C with
 |some ⟨_,_,.cls cd,_⟩=>cd.mro
 |_=>[]
theorem kh {K:Ou} (X:K.In h) (q:PySem.W.excIn K C vMro "ValueError.__new__"=true):∃ bm,mroK K C=.ref C::bm/\wQ h C bm:=by
 have q0:=q;unfold PySem.W.excIn at q;unfold mroK;cases ho:K.lookup C with
 |none=>rw[ho]at q;cases q
 |some ob=>
  rw[ho]at q;split at q
  .rename_i dd cd sl he;injection he with he;subst he;dsimp only;split at q
   .rename_i D bm k0 k1 k2 k3 n k5 hm hs;rw[hm];simp only[KQ,NY,Bool.not_eq_true']at q;obtain⟨⟨⟨⟨⟨hD,hn⟩,hdel⟩,ht⟩,hok⟩,hni⟩:=q;refine⟨bm,by rw[hD],?_⟩;obtain⟨nm,bs,mro,ns,qn,hd,sn,sub,ab,col,del⟩:=cd;dsimp only at hm hdel hok hni;have es:sl=#[k0,k1,k2,k3,some (.builtin n),k5]:=by
     cases sl with
     |mk l=>simp only at hs;rw[hs]
    rw[hn]at es;subst es;have hC:=X _ _ ho;rw[hdel,hm,hD]at hC;exact⟨ns,nm,qn,bs,hd,sn,sub,ab,col,dd,k0,k1,k2,k3,k5,_,hC,.of_isNs (PySem.W.isNs_of_in X hok),PySem.W.nsMap_none_of_in X hok hni,PySem.W.tail_of_in X ht⟩
   .cases q
  .cases q
structure XC (K:Ou) (mg:Str->Option Ow) (c:Str) (C:Addr):Prop where
 gl:mg c=some (.ref C)
 ex:PySem.W.excIn K C vMro "ValueError.__new__"=true
section
variable {X:Cx}{c:Str}{C:Addr}{np cpos pos:Pos}{e₀:Expr}{aF:List Expr}{t:TA}
noncomputable def DM (t:TA)(EW:Hp->Prop):TS:=fun _ σ H=>t σ H fun vs H'=>vs.length<=sizeLine/\EW H'
theorem wR {EW:Hp->Prop}(hc:XC X.K X.mg c C)(hg:Gl X c)(hcalm:X.calm=true)(ha:PA X (e₀::aF) t)
 (hl:∀(pins:List (Addr×Obj))(σ:St)(H:Hp)(s:Ot)(h':Heap)(x:Addr)(args:List Ow),Inv X pins σ H s->Heap.MadeExcOf s.heap h' x (.ref C) args->EW H->X.xe (.ref x) { s with heap:=h' })
 (he:autoParam (starEach (e₀::aF) X.env=(false,eval e₀ X.env)::starEach aF X.env) OD._auto_1) (hpl:autoParam ((backTo cpos (starEach aF X.env)).any (·.1)=false) OD._auto_1) (hd:autoParam ((c==("__debug__" : Str))=false) Oy._auto_1) :
 PS X (.Raise (some (.Call (.Name c np) (e₀::aF) [] cpos)) none pos) (DM t EW):=by
 intro pins s σ H D I h;obtain⟨bm,_,N,nm,q,bs,hdct,sn,sub,ab,col,dd,k0,k1,k2,k3,k5,mN,hC,hN,hni,TL⟩:=kh I.ok.mod.kin hc.ex;have fb:=PySem.F.excBase_ValueError;refine wpAny_Raise_call_subU (C:=C) (nm:=nm) (q:=q) (N:=N) (bs:=bs) (bm:=bm) (hdct:=hdct) (sn:=sn) (sub:=sub) (ab:=ab) (col:=col) (dd:=dd) (k0:=k0) (k1:=k1) (k2:=k2) (k3:=k3) (k5:=k5) (bmB:=vMro)
  fb (by decide +kernel) fb (mN:=mN) (TL.hasType fb.hasBase) (I.ok.hd hcalm) ?_ hni (jK I hg hc.gl ⟨rfl,?_⟩ hd)
 .rw[he];show(false || (backTo cpos (starEach aF X.env)).any (·.1))=false;rw[hpl];rfl
 .have ha':=ha cpos pins s σ H _ I h;rw[he]at ha' ⊢;refine NP (LC ha' (fun us s2 ⟨vs,H2,I2,r,q2⟩=>?_) fun _ _ y=>y);exact⟨rfl,by rw[<- r.length];exact q2.1,I2.bk _ _ hC,hN.keeps I2.bk,TL.keeps I2.bk,fun h' e hm=>hl pins σ H2 s2 h' e us I2 hm q2.2⟩
end
section
variable {M:Model}{A:Ox}{E:Ow->Ot->Prop}
theorem lY (hC:wQ s.heap C bm)(hC':wQ s.heap C' bm')(he:s.heap.get? e=some oe)(hcls:oe.cls=.ref C)
 (hq:Q ((Value.ref C::bm).contains (.ref C')) s):wpAny M A (excMatches (.ref e) (.ref C')) Q E s:=by
 obtain⟨N,nm,q,bs,hd,sn,sub,ab,col,dd,k0,k1,k2,k3,k5,mN,hC,_,_,_⟩:=hC;obtain⟨N',nm',q',bs',hd',sn',sub',ab',col',dd',k0',k1',k2',k3',k5',mN',hC',_,_,TL'⟩:=hC';obtain⟨h,g,d,t,os⟩:=s;have hcB:(Value.ref C'::bm').contains (.type "BaseException")=true:=by rw[List.contains_cons,TL'.hasType PySem.F.excBase_ValueError.hasBase,Bool.or_true]
 have f:=tc_notTuple;unfold excMatches
 repeat (first|(with_reducible refine wpAny_loadPart_at he ?_;rw[hcls])|with_reducible refine wpAny_loadPart_at hC' ?_|(with_reducible refine wpAny_isSubtype_exc hC' ?_;rw[hcB])|with_reducible refine wpAny_isSubtype_exc hC ?_|wp_step)
 cases hb:(Value.ref C::bm).contains (.ref C')<;>(rw[hb]at hq;wp_walk;exact hq)
end
noncomputable abbrev TX:=St->Hp->VK->XK->Prop
def JO (X:Cx)(e:Expr)(t:TX):Prop:=∀(pins:List (Addr×Obj))(s:Ot)(σ:St)(H:Hp)(Q:VK)(EX:XK),Inv X pins σ H s->t σ H Q EX->
 wpAny (model X.prog X.w) X.A (eval e X.env) (EP X pins σ Q) (fun ev s'=>∃ H1 s1,Inv X pins σ H1 s1/\iH X.prog X.w X.stack H1 s1 EX ev s') s
section
variable {X:Cx}{k:Nat}{f:Addr}{fd:FuncData}{ps:List Str}{sp:Sp}{dvs:List V}{ds:List Ow}{x:Str}{p pos:Pos}{e:Expr}{es:List Expr}{t:TA}
theorem wU (F:FnOk X.prog X.w X.K X.mg X.base (iH X.prog X.w) k f fd ps sp)(hr:Room k X.A)(hg:Gl X x)(hm:X.mg x=some (.ref f))(hk:PySem.W.keepIn X.K (.ref f)=true)(hb:Binds X.K fd ps ds)(hd:Vals dvs ds)(ha:PA X.nox (e::es) t)
 (hdb:autoParam ((x==("__debug__" : Str))=false) Oy._auto_1) (he:autoParam (starEach (e::es) X.env=(false,eval e X.env)::starEach es X.env) OD._auto_1) (hpl:autoParam ((backTo pos (starEach es X.env)).any (·.1)=false) OD._auto_1) :
 JO X (.Call (.Name x p) (e::es) [] pos) (fun σ H Q EX=>t σ H fun vs H1=>sp (vs++dvs) H1 Q EX):=by
 intro pins s σ H Q EX I h;refine Nl (jK I hg hm ?_ hdb);refine PySem.W.callWith_K (h₀:=X.base) I.ok.mod.kin hk (LC (ha pos pins s σ H _ (I.wish _) h) (fun us s1 ⟨vs,H1,I1,r,q⟩=>⟨I1.kIn,?_⟩) fun _ _ z=>False.elim z) he hpl;have J:Inv X pins σ H1 s1:=I1.unwish;have r2:Vals (vs++dvs) (us++ds):=r.append hd;have hl:(us++ds).length=ps.length:=by rw[<- r2.length];exact F.len _ _ _ _ q
 refine wpAny_call (MV (F.run X.A X.stack s1 H1 ⟨us,[]⟩ (us++ds) (vs++dvs) Q EX hr J.env0 (hb s1 us J.kIn hl) r2 q) fun r s' hq=>?_);cases r with
 |error ev=>exact⟨H1,s1,J,hq⟩
 |ok fl=>
  cases fl with
  |ret u=>exact J.after hq
  |next=>exact False.elim hq
  |brk=>exact False.elim hq
  |cont=>exact False.elim hq
end
noncomputable abbrev Cx.caught (X:Cx)(x:Addr):Cx:={ X with A:=X.A.mark (some (.ref x)),calm:=false,xe:=fun _ _=>False }
section
variable {X:Cx}{pins:List (Addr×Obj)}{σ:St}{H:Hp}{s:Ot}{x:Addr}
theorem Inv.caught (I:Inv X pins σ H s)(x:Addr):Inv (X.caught x) pins σ H s:=⟨⟨I.ok.mod,I.ok.kind,I.ok.glob,I.ok.blt,I.ok.above,I.ok.inj,I.ok.has,I.ok.cab,(fun z=>by cases z),I.ok.frames,I.ok.stk,I.ok.exf,I.ok.bs,I.ok.bsz,I.ok.noex,I.ok.exfs,I.ok.funs,I.ok.frf,I.ok.kt⟩,I.os,I.bare,I.base,I.loc,I.cell,I.free,I.freeC,I.pin,I.hok,I.len⟩
theorem Inv.uncaught (I:Inv (X.caught x) pins σ H s)(ok:X.Ok):Inv X pins σ H s:=⟨ok,I.os,I.bare,I.base,I.loc,I.cell,I.free,I.freeC,I.pin,I.hok,I.len⟩
theorem SP.uncaught {D:Ends}{f:Flow}{s':Ot}(h:SP (X.caught x) pins D f s')(ok:X.Ok):SP X pins D f s':=by
 cases f with
 |next=>obtain⟨σ',H',I,q⟩:=h;exact⟨σ',H',I.uncaught ok,q⟩
 |brk=>obtain⟨σ',H',I,q⟩:=h;exact⟨σ',H',I.uncaught ok,q⟩
 |cont=>obtain⟨σ',H',I,q⟩:=h;exact⟨σ',H',I.uncaught ok,q⟩
 |ret u=>obtain⟨v,σ',H',I,r,q⟩:=h;exact⟨v,σ',H',I.uncaught ok,r,q⟩
theorem Inv.landed {H1:Hp}{s1 s':Ot}{B:Heap}{h6:Heap}{C t:Addr}{g6:Array GenState}{l:List Env}(I:Inv X pins σ H1 s1)(os:s'.os=s1.os)(bare:AllBare s'.gens)(un:Un (frs X.stack) [] H1 H s1.heap s'.heap)(hok:HOk X.prog X.w H s'.heap)(fly:Heap.FlyingW B X.stack x (.ref C) (.ref t) s'.heap)
 (oU:∀ b u,H b=some u->∃ o,B.get? b=some o) (unt:∀ b o,s1.heap.get? b=some o->Qt H1 b->b∉frs X.stack->B.get? b=some o) (inB:∀ b o,s1.heap.get? b=some o->b∉frs X.stack->∃ o',B.get? b=some o')
 (st:B.StaysIn h6) (up:s'.heap.UpToSlots h6):Inv X pins σ H { s' with heap:=h6 }:=by
 have nf:∀ b,b∈frs X.stack->∀ o,s'.heap.get? b=some o->∀ vs,o.data≠.fields vs:=fun b hb o e=>by obtain⟨_,o',e',d⟩:=fly.2.2.1.mem hb;rw[e]at e';cases e';exact d
 refine I.call' (ch:=[]) os ⟨fun b o e n hb _=>st b o (unt b o e n hb),fun b o e n hb _=>?_,fun b o e n hx=>un.free b o e n hx,fun b o e hx=>?_,un.tups,un.frzs,un.tbls⟩ (iO hok oU fly.1 st) bare fun b z=>absurd z (by simp)
 .obtain⟨sl,e1⟩:=un.slot b o e n hb (by simp);obtain⟨sl',e2⟩:=up b _ e1 (nf b hb _ e1);exact⟨sl',e2⟩
 .by_cases hb:b∈frs X.stack
  .obtain⟨o1,e1⟩:=un.there b o e (by simp);obtain⟨sl',e2⟩:=up b _ e1 (nf b hb _ e1);exact⟨_,e2⟩
  .obtain⟨o',q⟩:=inB b o e hb;exact⟨o',st b o' q⟩
end
noncomputable def wV (X:Cx) (Ch:Addr) (ts:TS) (D:Ends) (σ:St):XK:=fun cls _ H1=>∃ C,cls=.ref C/\PySem.W.excIn X.K C vMro "ValueError.__new__"=true/\(mroK X.K C).contains (.ref Ch)=true/\ts D σ H1
section
variable {X:Cx}{hc:Str}{Ch:Addr}{np hpos pos epos:Pos}{b₀:Stmt}{suite:List Stmt}{ts:TS}{te:TX}{e:Expr}
theorem rn {pins:List (Addr×Obj)}{σ:St}{D:Ends}{ev:Ow}{s':Ot}(hst:X.stack=X.env::X.outer)(hf:X.env.frame=some X.env.locals)(hx:XC X.K X.mg hc Ch)(hg:Gl X hc)(hs:∀ x,PSs (X.caught x) (b₀::suite) ts)
 (h:∃ H1 s1,Inv X pins σ H1 s1/\iH X.prog X.w X.stack H1 s1 (wV X Ch ts D σ) ev s') (hdb:autoParam ((hc==("__debug__" : Str))=false) Oy._auto_1) :
 wpAny (model X.prog X.w) X.A (noteFrame ev X.env) (fun _ s2=>wpAny (model X.prog X.w) X.A (setFlight ev none) (fun _ s3=>wpAny (model X.prog X.w) X.A (handleBy ev X.env [.ExceptHandler (some (.Name hc np)) none (b₀::suite) hpos]) (SP X pins D) X.xe s3) X.xe s2) X.xe s':=by
 obtain⟨H1,s1,I1,x,C,t,B,H',rfl,os,bare,un,hok,fly,oU,unt,inB,hxn,C0,ec,hex,hmr,q⟩:=h;cases ec;have fly':Heap.FlyingW B (X.env::X.outer) x (.ref C) (.ref t) s'.heap:=hst▸fly;have fr:X.A.frames=some (X.env::X.outer):=hst▸I1.ok.frames;refine wpAny_looks_onW fr hf fly' fun h4 held up4=>?_;refine wpAny_landsW held fun h5 fly5 up5=>?_;have up45:=up4.trans up5;have I5:Inv X pins σ H' { s' with heap:=h5 }:=I1.landed (l:=[]) (g6:=#[]) os bare un hok fly oU unt inB fly5.1 up45;obtain⟨bm,em,hC⟩:=kh I5.kIn hex;obtain⟨bm',em',hC'⟩:=kh I5.kIn hx.ex;obtain⟨oe,he,hcls⟩:=fly5.there;refine wpAny_handleBy_cons (codeAny_handlers_test (jK (X:=X.caught x) (I5.caught x) hg hx.gl ?_ hdb)) (by intro z;cases z);refine lY hC hC' he hcls ?_;rw[em]at hmr;rw[hmr];refine codeAny_handlers_suite ?_;refine lands_againW fly5 fun h6 fly6 up6=>?_;have I6:Inv X pins σ H' { s' with heap:=h6 }:=I1.landed (l:=[]) (g6:=#[]) os bare un hok fly oU unt inB fly6.1 (up45.trans up6);exact LC (hs x pins _ σ H' D (I6.caught x) q) (fun f s7 h7=>h7.uncaught I6.ok) fun _ _ z=>False.elim z
theorem Aw (hst:X.stack=X.env::X.outer)(hf:X.env.frame=some X.env.locals)(hx:XC X.K X.mg hc Ch)(hg:Gl X hc)(he:JO X e te)(hs:∀ x,PSs (X.caught x) (b₀::suite) ts)
 (hsw:autoParam (swapsWith e none epos.line X.env=pure false) OD._auto_1) (hdb:autoParam ((hc==("__debug__" : Str))=false) Oy._auto_1) :
 PS X (.Try [.Expr e epos] [.ExceptHandler (some (.Name hc np)) none (b₀::suite) hpos] [] [] pos) (fun D σ H=>te σ H (fun _ H1=>D.nx σ H1) (wV X Ch ts D σ)):=by
 intro pins s σ H D I h;refine wpAny_Try_except ?_;refine wpAny_execs_cons (wpAny_Expr_any (LC (he pins s σ H _ _ I h) (fun v s1 ⟨y,H1,I1,r1,q1⟩=>?_) fun ev s' z=>?_) I.quiet hsw)
 .exact MT (MT ⟨σ,H1,I1,q1⟩)
 .exact rn hst hf hx hg hs z hdb
end
end L2
namespace L2
open PySem PySem.Spec PySem.Calls PyProof.Rows
noncomputable abbrev Gf:=List Key×Addr×Ow
section
variable {prog:Ov}{w:World}
noncomputable abbrev tK (prog:Ov)(w:World):=tupleKind (mixKind prog w)
def DRaw (prog:Ov)(w:World)(h:Heap)(S:Addr)(xs:List Gf):Prop:=∃ o es ep,h.get? S=some o/\o.ExactDict/\o.data=.dict es ep/\es.toList=xs.map (entryOfKey (tK prog w))/\(xs.map (·.1)).Nodup
theorem d_ (x:(tK prog w).is h k a)(e:∀ b o,h.get? b=some o->h'.get? b=some o):(tK prog w).is h' k a:=by obtain⟨o,items,n,h1,r⟩:=x;exact⟨o,items,n,e _ _ h1,r⟩
theorem DRaw.of (d:DRaw prog w h S xs)(ks:∀ x∈xs,(tK prog w).is hb x.1 x.2.1)(e:∀ b o,hb.get? b=some o->h.get? b=some o):h.DictOfH (tK prog w) S xs:=by obtain⟨o,es,ep,h1,h2,h3,h4,h5⟩:=d;exact⟨o,es,ep,h1,h2,h3,h4,fun x hx=>d_ (ks x hx) e,h5⟩
variable {A:Ox}{R:Result->Ot->Prop}{I:Addr}{fp wr:List Addr}{G:Array GenState->Array GenState->Prop}{n:Nat}{P:Nat->Ow->Prop}{St:Nat->Ot->Prop}
end
section
variable {prog:Ov}{w:World}{A:Ox}{E:Ow->Ot->Prop}{s:Ot}
end
section
variable {P:Ov}{w:World}{H:Hp}{h:Heap}
end
section
variable {X:Cx}
end
section
variable {X:Cx}{pins:List (Addr×Obj)}{σ:St}{H:Hp}{s:Ot}{a:Addr}
theorem Inv.retK (I:Inv X pins σ H s)(e:H a=some (.dT [])):Inv X pins σ (aJ H a (.dK [])) s:=by
 obtain⟨z,y,xs,r,o,es,ep,h1,h2,h3,h4,h5⟩:=(show ObjOk X.prog X.w H s.heap a (.dT []) from I.hok a _ e);cases r;exact I.write (x:=a) (e:=a) (t':=s.toks) (h':=s.heap) (by rw[e];exact True.intro) (.inl rfl) (fun b u _ q=>q) ⟨o,h1⟩ ⟨z,y,[],.nil,o,es,ep,h1,h2,h3,by
  have e:es=#[]:=by simpa using h4
  subst e;intro x hx;simp at hx,by
  have e:es=#[]:=by simpa using h4
  subst e;constructor,MP⟩
theorem Inv.retT (I:Inv X pins σ H s)(e:H a=some (.dK [])):Inv X pins σ (aJ H a (.dT [])) s:=by
 obtain⟨z,y,vs,r,o,es,ep,h1,h2,h3,h4,h5⟩:=(show ObjOk X.prog X.w H s.heap a (.dK []) from I.hok a _ e);cases r;exact I.write (x:=a) (e:=a) (t':=s.toks) (h':=s.heap) (by rw[e];exact True.intro) (.inl rfl) (fun b u _ q=>q) ⟨o,h1⟩ ⟨z,y,[],.nil,o,es,ep,h1,h2,h3,(by
  generalize es.toList=l at h5;obtain⟨h5,_⟩:=h5;cases l with
  |nil=>rfl
  |cons x r=>cases h5),MP⟩
end
def wW (H:Hp)(a:Addr)(y:V)(r:Option V):Prop:=DGet H a y r\/(Rd H a (.dT [])/\(∃ k,y=kV k)/\r=none)\/(Rd H a (.dK [])/\(∃(b:Addr)(k:List Key),y=.ref b/\H b=some (.tup (k.map kV)))/\r=none)
def Cq (H:Hp)(a:Addr)(y v:V)(H':Hp):Prop:=DPut H a y v H'\/(H a=some (.dT [])/\∃ k,y=kV k/\H'=aJ H a (.dK [(k,v)]))\/(H a=some (.dK [])/\∃(b:Addr)(k:List Key),y=.ref b/\H b=some (.tup (k.map kV))/\H'=aJ H a (.dT [(k,v)]))
section
variable {X:Cx}{pins:List (Addr×Obj)}{σ:St}{H:Hp}{s:Ot}{a:Addr}{y v:V}{u r:Ow}{o:Option V}{A:Ox}{E:Ow->Ot->Prop}
theorem wX (x:ObjOk P w H h a (.dT [])):(a==sysModules)=false/\h.DictOf (mixKind P w) a []:=by
 obtain⟨z,y,xs,r,o,es,ep,h1,h2,h3,h4,h5⟩:=x;cases r;have e:es=#[]:=by simpa using h4
 subst e;exact⟨y,o,#[],ep,h1,h2,h3,fun x hx=>by simp at hx,by constructor,MP⟩
theorem DN (x:ObjOk P w H h a (.dK [])):(a==sysModules)=false/\h.DictOfH (tupleKind (mixKind P w)) a []:=by
 obtain⟨z,y,vs,r,o,es,ep,h1,h2,h3,h4,h5⟩:=x;cases r;refine⟨y,o,es,ep,h1,h2,h3,?_,fun x hx=>(nomatch hx),MP⟩;generalize es.toList=l at h5;obtain⟨h5,_⟩:=h5;cases l with
 |nil=>rfl
 |cons x r=>cases h5
theorem rp (hu:A.units+1<cLine)(I:Inv X pins σ H s)(g:Cq H a y v H')(ry:RelV y u)(rv:RelV v r)(h:∀ s',Inv X pins σ H' s'->Q () s') :
 wpAny (model X.prog X.w) A (setItem (.ref a) u r) Q E s:=by
 rcases g with g|⟨e,k,rfl,rfl⟩|⟨e,b,k,rfl,eb,rfl⟩
 .exact iN hu I g ry rv h
 .refine iN hu (I.retK e) (DPut.k (kvs:=[]) (k:=k) (v:=v) am (by decide)) ry rv fun s' I'=>?_;rw[sT]at I';exact h s' I'
 .refine iN hu (I.retT e) (DPut.t (kvs:=[]) (k:=k) (v:=v) am (by rw[ao (oT eb e (fun z=>nomatch z))];exact eb) (by decide)) ry rv fun s' I'=>?_;rw[sT]at I';exact h s' I'
end
section
variable {X:Cx}{value o i:Expr}{td ty tv:TE}{pos pos':Pos}
noncomputable def wY (td ty tv:TE):TS:=fun D σ H=>tv σ H fun v H1=>td σ H1 fun x H2=>ty σ H2 fun y H3=>∃ a H4,x=.ref a/\Cq H3 a y v H4/\D.nx σ H4
theorem wZ (hu:X.A.units+1<cLine)(ho:PE X o td)(hi:PE X i ty)(hv:PE X value tv)(hs:swapsWith value (some (.Subscript o i pos')) pos.line X.env=pure false) :
 PS X (.Assign [.Subscript o i pos'] value pos) (wY td ty tv):=by
 intro pins s σ H D I h;refine wpAny_Assign_Subscript (bX (hv pins s σ H _ I h) fun r s1 ⟨v,H1,I1,rv,q1⟩=>bX (ho pins s1 σ H1 _ I1 q1) fun u s2 ⟨x,H2,I2,rx,q2⟩=>bX (hi pins s2 σ H2 _ I2 q2) fun iv s3 ⟨y,H3,I3,ry,a,H4,ex,g,q3⟩=>?_) hs;subst ex;obtain rfl:u=Value.ref a:=rx;exact rp hu I3 g ry rv fun s4 I4=>⟨σ,H4,I4,q3⟩
end
section
variable {X:Cx}{pins:List (Addr×Obj)}{σ:St}{H:Hp}{s:Ot}{a:Addr}{y d:V}{u r:Ow}{o:Option V}{A:Ox}{E:Ow->Ot->Prop}
theorem Ax (hu:A.units+1<cLine)(I:Inv X pins σ H s)(g:wW H a y o)(ry:RelV y u)(rd:RelV d r)(h:∀ w' s',Inv X pins σ H s'->RelV (o.getD d) w'->Q w' s') :
 wpAny (model X.prog X.w) A (call (.builtin "dict.get") [.ref a,u,r]) Q E s:=by
 rcases g with g|⟨e,⟨k,rfl⟩,rfl⟩|⟨e,⟨b,k,rfl,eb⟩,rfl⟩
 .exact DJ hu I g ry rd h
 .obtain⟨y,dd⟩:=wX (e.ok I.hok);exact call_meetsIn Mm dd.typeIs MQ (MI _ _ _) (meets_dict_get_default (mixKind X.prog X.w) a (tm ry) y r) ⟨_,dd.mapOf,h _ _ (I.tok _) rd⟩
 .obtain rfl:u=Value.ref b:=ry;obtain⟨y,dd⟩:=DN (e.ok I.hok);exact call_meetsIn Mm dd.typeIs MQ (MI _ _ _) (meetsH_dict_get_default (tupleKind (mixKind X.prog X.w)) a b y r) ⟨tupleKind_room_in1 hu,k,[],d9 I.hok eb,dd,h _ _ (I.tok _) rd⟩
end
noncomputable def Ay (td ty tx:TE):TE:=fun σ H Q=>td σ H fun x H1=>∃ a,x=.ref a/\Ik H1 a/\ty σ H1 fun y H2=>tx σ H2 fun z H3=>∃ o,wW H3 a y o/\Q (o.getD z) H3
section
variable {X:Cx}{o e f:Expr}{apos cpos:Pos}{td ty tx:TE}
theorem vc (hu:X.A.units+1<cLine) (ho:PE X o td) (he:PE X e ty) (hf:PE X f tx) (m:M2 X o "get" apos e f cpos):PE X (.Call (.Attribute o "get" apos) [e,f] [] cpos) (Ay td ty tx):=by intro pins s σ H Q I h;refine wpAny_Call_method m.base m.few m.line PySem.F.plainAttrs_dict Mm PySem.F.type_dict_get (bX (ho pins s σ H _ I h) fun u s1 ⟨x,H1,I1,rx,a,ex,d,q1⟩=>?_);subst ex;obtain rfl:u=Value.ref a:=rx;obtain⟨t1,t2,_⟩:=wO I1 d;refine⟨t1,t2,?_⟩;rw[m.trees];refine Nz rfl (NP (Calls.spliced_cons (bX (he pins s1 σ H1 _ I1 q1) fun iv s2 ⟨y,H2,I2,ry,q2⟩=>Calls.spliced_cons (bX (hf pins s2 σ H2 _ I2 q2) fun fv s3 ⟨z,H3,I3,rz,ov,g,q3⟩=>Calls.spliced_nil ?_))));exact Ax hu I3 g ry rz fun w' s4 I4 rw'=>⟨_,H3,I4,rw',q3⟩
end
section
variable {X:Cx}{pins:List (Addr×Obj)}{σ:St}{H H':Hp}{s:Ot}{d:Addr}{o:Obj}{u:HO}
end
theorem Az (h:(mixKind P w).is k u=true):RelV (kV k) u:=by
 rcases aA (show fj k u=true from h) with⟨i,t,rfl,rfl⟩|⟨x,t,rfl,rfl⟩
 .exact⟨t,rfl⟩
 .exact⟨t,rfl⟩
section
variable {X:Cx}{tg:Expr}
end
section
variable {prog:Ov}{w:World}
variable {A:Ox}{R:Result->Ot->Prop}{I:Addr}{fp wr:List Addr}{G:Array GenState->Array GenState->Prop}{n:Nat}{P:Nat->Ow->Prop}{St:Nat->Ot->Prop}
end
section
variable {prog:Ov}{w:World}{A:Ox}{E:Ow->Ot->Prop}{s:Ot}
end
section
variable {P:Ov}{w:World}{H:Hp}{h:Heap}
end
section
variable {X:Cx}
end
section
variable {prog:Ov}{w:World}{A:Ox}{E:Ow->Ot->Prop}{s:Ot}
end
section
variable {X:Cx}
end
section
variable {X:Cx}{tg:Expr}
end
end L2
namespace ST
open PySem PySem.SetTable
noncomputable def st (m:Nat)(h:Int):Probe:={ j:=bits h % (m+1),more:=runEnd m (bits h % (m+1))-bits h % (m+1),i:=bits h % (m+1),perturb:=bits h,dummy:=none }
noncomputable def rs (m:Nat)(p:Nat×Nat):Probe:={ j:=p.1,more:=runEnd m p.1-p.1,i:=p.1,perturb:=p.2,dummy:=none }
noncomputable def adv (m:Nat)(p:Probe):Probe:=if p.more>0 then { p with j:=p.j+1,more:=p.more-1 } else { p with j:=(leap m p.i p.perturb).1,more:=runEnd m (leap m p.i p.perturb).1-(leap m p.i p.perturb).1,i:=(leap m p.i p.perturb).1,perturb:=(leap m p.i p.perturb).2 }
theorem rq (t:SetTable)(p:Probe):t.advance p=adv t.mask p:=rfl
noncomputable def it (m:Nat):Nat->Probe->Probe
 |0,p=>p
 |n+1,p=>it m n (adv m p)
theorem cJ (m:Nat):∀(a b:Nat)(p:Probe),it m (a+b) p=it m b (it m a p)
 |0,b,p=>by rw[MF];rfl
 |a+1,b,p=>by rw[Nat.succ_add];exact cJ m a b (adv m p)
theorem AA (m n:Nat)(p:Probe):it m (n+1) p=adv m (it m n p):=cJ m n 1 p
structure Va (m:Nat) (p:Probe):Prop where
 i:p.i<=m
 more:p.more<=9
 j:p.j+p.more<=m
 q:p.perturb<2 ^ 64
 d:p.dummy=none
theorem nM (h:Int):bits h<2 ^ 64:=by unfold bits;have:=L0 h (show(0:Int)<2 ^ 64 by decide);have h2:=Mv h (show(2 ^ 64:Int)≠0 by decide);lia
theorem gF (m i:Nat)(h:i<=m):runEnd m i-i<=9/\i+(runEnd m i-i)<=m:=by unfold runEnd;split<;>lia
theorem Va.rs (h1:p.1<=m)(h2:p.2<2 ^ 64):Va m (rs m p):=⟨h1,(gF m _ h1).1,(gF m _ h1).2,h2,rfl⟩
theorem Va.st (m:Nat)(h:Int):Va m (st m h):=by have:bits h % (m+1)<=m:=Oe (Nat.mod_lt _ (Nat.succ_pos m));exact⟨this,(gF m _ this).1,(gF m _ this).2,nM h,rfl⟩
theorem nN (m i q:Nat):(leap m i q).1<=m:=by exact Oe (Nat.mod_lt _ (Nat.succ_pos m))
theorem rA (m i q:Nat):(leap m i q).2=q / 32:=rfl
theorem Va.adv (v:Va m p):Va m (adv m p):=by
 unfold ST.adv;split
 .exact⟨v.i,by dsimp only;have:=v.more;lia,by dsimp only;have:=v.j;lia,v.q,v.d⟩
 .have l:=nN m p.i p.perturb;exact⟨l,(gF m _ l).1,(gF m _ l).2,by dsimp only;rw[rA];have:=v.q;have:=Nat.div_le_self p.perturb 32;lia,v.d⟩
theorem Va.it:∀{n:Nat}{p:Probe},Va m p->Va m (it m n p)
 |0,_,v=>v
 |n+1,_,v=>Va.it (n:=n) v.adv
theorem Va.jle (v:Va m p):p.j<=m:=by have:=v.j;lia
theorem gR:∀(k:Nat)(p:Probe),p.more=k->Va m p->it m (k+1) p=rs m (leap m p.i p.perturb)
 |0,p,e,v=>by show adv m p=_;unfold adv rs;rw[Kh (by lia)];obtain⟨j,mo,i,q,d⟩:=p;cases v.d;rfl
 |k+1,p,e,v=>by
  have e1:adv m p={ p with j:=p.j+1,more:=p.more-1 }:=by unfold adv;rw[Kf (by lia)]
  show it m (k+1) (adv m p)=_;have:=gR k (adv m p) (by rw[e1];show p.more-1=k;lia) v.adv;rw[this,e1]
noncomputable def lp (m:Nat):Nat->Nat×Nat->Nat×Nat
 |0,p=>p
 |n+1,p=>lp m n (leap m p.1 p.2)
theorem w4 (m:Nat):∀(a b:Nat)(p:Nat×Nat),lp m (a+b) p=lp m b (lp m a p)
 |0,b,p=>by rw[MF];rfl
 |a+1,b,p=>by rw[Nat.succ_add];exact w4 m a b _
theorem Gg (m:Nat):∀(n:Nat)(p:Nat×Nat),(lp m n p).2=p.2 / 32 ^ n
 |0,p=>by simp[lp]
 |n+1,p=>by show(lp m n (leap m p.1 p.2)).2=_;rw[Gg m n,rA,Nat.div_div_eq_div_mul,Nat.pow_succ,Nat.mul_comm]
theorem Cr (m:Nat):∀(n:Nat)(p:Nat×Nat),p.1<=m->(lp m n p).1<=m
 |0,p,h=>h
 |n+1,p,_=>Cr m n _ (nN m _ _)
theorem pd:∀(L:Nat)(p:Probe),Va m p->∃ n,n<=10*(L+1)/\it m n p=rs m (lp m (L+1) (p.i,p.perturb))
 |0,p,v=>⟨p.more+1,by have:=v.more;lia,gR _ p rfl v⟩
 |L+1,p,v=>by
  have h1:=gR _ p rfl v;have v1:Va m (rs m (leap m p.i p.perturb)):=by rw[<- h1];exact v.it
  obtain⟨n,hn,e⟩:=pd L _ v1;refine⟨p.more+1+n,by have:=v.more;lia,?_⟩;rw[cJ,h1,e];rfl
noncomputable def f5 (m i:Nat):Nat:=(i*5+1) % (m+1)
noncomputable def fN (m:Nat):Nat->Nat->Nat
 |0,i=>i
 |n+1,i=>fN m n (f5 m i)
noncomputable def w6 (m:Nat):Nat->Nat->List Nat
 |0,_=>[]
 |n+1,i=>i::w6 m n (f5 m i)
theorem pf (m:Nat):∀(n i k:Nat),k<n->(w6 m n i)[k]?=some (fN m k i)
 |n+1,i,0,_=>rfl
 |n+1,i,k+1,h=>pf m n _ k (by lia)
theorem ph (m:Nat):∀(n i:Nat),(w6 m n i).length=n
 |0,_=>rfl
 |n+1,i=>by show(w6 m n _).length+1=_;rw[ph]
theorem nO (m:Nat):∀(a b i:Nat),fN m (a+b) i=fN m b (fN m a i)
 |0,b,i=>by rw[MF];rfl
 |a+1,b,i=>by rw[Nat.succ_add];exact nO m a b _
noncomputable def I_ (m:Nat):Bool:=((List.range (m+1)).all fun j=>(w6 m (m+1) 0).contains j)&&(fN m (m+1) 0==0)
def Msk (m:Nat):Prop:=m=7\/m=31\/m=127\/m=511
theorem tp (h:Msk m):I_ m=true:=by rcases h with rfl|rfl|rfl|rfl<;>decide +kernel
theorem w8 (h:Msk m)(hj:j<=m):∃ n,n<=m/\fN m n 0=j:=by have:=tp h;unfold I_ at this;simp only[KQ,Lm]at this;have h1:=this.1 j (K3.mpr (by lia));rw[List.contains_iff_mem,KG]at h1;obtain⟨n,hn⟩:=h1;have hl:=(Kc.mp hn).1;rw[ph]at hl;rw[pf m _ _ _ hl]at hn;exact⟨n,by lia,K4 hn⟩
theorem DO (h:Msk m)(hi:i<=m)(hj:j<=m):∃ n,n<=m/\fN m n i=j:=by
 obtain⟨a,ha,ea⟩:=w8 h hi;obtain⟨b,hb,eb⟩:=w8 h hj;by_cases hab:a<=b
 .refine⟨b-a,by lia,?_⟩;rw[<- ea,<- nO,show a+(b-a)=b by lia,eb]
 .refine⟨m+1+b-a,by lia,?_⟩;have z:=tp h;unfold I_ at z;simp only[KQ,NY]at z;rw[<- ea,<- nO,show a+(m+1+b-a)=m+1+b by lia,nO,z.2,eb]
theorem tq (m:Nat):∀(n i:Nat),lp m n (i,0)=(fN m n i,0)
 |0,_=>rfl
 |n+1,i=>by show lp m n (leap m i 0)=_;have:leap m i 0=(f5 m i,0):=rfl;rw[this];exact tq m n _
theorem pq (h:Msk m)(hj:j<=m)(p:Nat×Nat)(h1:p.1<=m)(h2:p.2<2 ^ 64):∃ n,13<=n/\n<=m+13/\(lp m n p).1=j:=by
 have hp13:(2:Nat) ^ 64<32 ^ 13:=by decide
 have hq:(lp m 13 p).2=0:=by rw[Gg];exact Nat.div_eq_of_lt (by lia)
 obtain⟨n,hn,e⟩:=DO h (Cr m 13 p h1) hj;refine⟨13+n,by lia,by lia,?_⟩;rw[w4];have:lp m 13 p=((lp m 13 p).1,0):=by rw[<- hq]
 rw[this,tq];exact e
theorem Cs (h:Msk m)(hj:j<=m)(v:Va m p):∃ n,n<10*turns m/\(it m n p).j=j:=by obtain⟨L,h1,h2,e⟩:=pq h hj (p.i,p.perturb) v.i v.q;obtain⟨n,hn,en⟩:=pd (L-1) p v;rw[show L-1+1=L by lia]at en hn;refine⟨n,by unfold turns;lia,?_⟩;rw[en];exact e
def Ris (xs:List Nat):Prop:=xs.Pairwise (·< ·)
theorem kj (hr:Ris xs.toList):∀(fuel lo hi:Nat),lo<=hi->hi<=xs.size->hi-lo<=fuel->
 (∀ i (h:i<xs.size),i<lo->xs[i]<j)->(∀ i (h:i<xs.size),hi<=i->j<=xs[i])->
 below.go xs j fuel lo hi<=xs.size/\(∀ i (h:i<xs.size),i<below.go xs j fuel lo hi->xs[i]<j)/\∀ i (h:i<xs.size),below.go xs j fuel lo hi<=i->j<=xs[i]
 |0,lo,hi,h1,h2,h3,h4,h5=>by
  have:lo=hi:=by lia
  subst this;exact⟨h2,h4,h5⟩
 |f+1,lo,hi,h1,h2,h3,h4,h5=>by
  have mono:∀ a b (ha:a<xs.size) (hb:b<xs.size),a<=b->xs[a]<=xs[b]:=by
   intro a b ha hb hab;rcases Nat.lt_or_eq_of_le hab with h|h
   .have:=KW.mp hr a b (by simpa using ha) (by simpa using hb) h;simpa using Lb this
   .subst h;exact Km _
  unfold below.go;by_cases hc:lo<hi
  .rw[Kf hc];have hm:(lo+hi) / 2<xs.size:=by lia
   have eg:xs.getD ((lo+hi) / 2) j=xs[(lo+hi) / 2]:=by simp[Array.getD,hm]
   dsimp only;rw[eg];by_cases hq:xs[(lo+hi) / 2]<j
   .rw[Kf hq];refine kj hr f _ _ (by lia) h2 (by lia) (fun i h hi'=>?_) h5;exact Nat.lt_of_le_of_lt (mono i _ h hm (by lia)) hq
   .rw[Kh hq];refine kj hr f _ _ (by lia) (by lia) (by lia) h4 fun i h hi'=>?_;exact KA (by lia) (mono _ i hm h hi')
  .rw[Kh hc];have:lo=hi:=by lia
   subst this;exact⟨h2,h4,h5⟩
theorem bZ (j:Nat)(hr:Ris xs.toList):below xs j<=xs.size/\(∀ i (h:i<xs.size),i<below xs j->xs[i]<j)/\∀ i (h:i<xs.size),below xs j<=i->j<=xs[i]:=by unfold below;exact kj hr xs.size 0 xs.size (KU _) (Km _) (by lia) (fun i h z=>by lia) fun i h z=>by lia
theorem w_ (hr:Ris xs.toList)(h:i<xs.size):below xs xs[i]=i:=by
 obtain⟨a,b,c⟩:=bZ xs[i] hr;rcases NB (below xs xs[i]) i with q|q|q
 .have hb:below xs xs[i]<xs.size:=by lia
  have h1:=c (below xs xs[i]) hb (Km _);have h2:=KW.mp hr _ i (by simpa using hb) (by simpa using h) q;simp at h2;lia
 .exact q
 .have:=b i h q;lia
theorem mI (j:Nat):has #[] j=false:=rfl
structure Tb (t:SetTable):Prop where
 msk:Msk t.mask
 dum:t.dummies=#[]
 ris:Ris t.place.toList
 le:∀ j∈t.place.toList,j<=t.mask
theorem mJ (h:Tb t)(hi:i<t.place.size):t.slot t.place[i]=.live i:=by unfold slot;dsimp only;rw[w_ h.ris hi];rw[Kf];simp[hi]
theorem rB (h:Tb t)(hj:j∉t.place.toList):t.slot j=.empty:=by
 unfold slot;dsimp only;rw[Kh,h.dum,mI]
 .rfl
 .intro e;have e:t.place[below t.place j]?=some j:=by simpa using e
  obtain⟨h1,h2⟩:=LL.mp e;exact hj (by rw[<- h2];simp)
theorem rC (h:Tb t)(j:Nat):(j∉t.place.toList/\t.slot j=.empty)\/∃ i,∃ hi:i<t.place.size,t.place[i]=j/\t.slot j=.live i:=by
 by_cases hj:j∈t.place.toList
 .right;obtain⟨i,hi,e⟩:=M8.mp hj;have hi':i<t.place.size:=by simpa using hi
  have e':t.place[i]=j:=by simpa using e
  exact⟨i,hi',e',by rw[<- e'];exact mJ h hi'⟩
 .exact .inl ⟨hj,rB h hj⟩
def Lv (t:SetTable)(j:Nat):Prop:=j∈t.place.toList
inductive PrSpec (t:SetTable) (ha:Nat->Int) (h:Int) (p:Probe):Option Met->Prop
 |em (n:Nat) (e:¬ Lv t (it t.mask n p).j) (b:∀ k,k<n->∃ i,∃ hi:i<t.place.size,t.place[i]=(it t.mask k p).j/\ha i≠h):PrSpec t ha h p (some (.empty (it t.mask n p).j none))
 |ca (n i:Nat) (hi:i<t.place.size) (e:t.place[i]=(it t.mask n p).j) (q:ha i=h) (b:∀ k,k<n->∃ i,∃ hi:i<t.place.size,t.place[i]=(it t.mask k p).j/\ha i≠h) :
  PrSpec t ha h p (some (.candidate (it t.mask n p).j i (it t.mask (n+1) p)))
theorem px (h:Tb t)(ha:Nat->Int)(x:Int):∀(fuel:Nat)(p:Probe),Va t.mask p->(∃ n,n<fuel/\¬ Lv t (it t.mask n p).j)->PrSpec t ha x p (probe.go t ha x fuel p)
 |0,p,v,⟨n,hn,_⟩=>by lia
 |f+1,p,v,⟨n,hn,he⟩=>by
  unfold probe.go;rcases rC h p.j with⟨h1,e⟩|⟨i,hi,h1,e⟩
  .rw[e];dsimp only;have:=PrSpec.em (t:=t) (ha:=ha) (h:=x) (p:=p) 0 h1 fun k hk=>by lia
   rw[v.d];exact this
  .rw[e];dsimp only;by_cases hq:ha i=x
   .rw[Kf (by simpa using hq)];exact PrSpec.ca (t:=t) (ha:=ha) (h:=x) (p:=p) 0 i hi h1 hq fun k hk=>by lia
   .rw[Kh (by simpa using hq),rq];have hn0:n≠0:=by rintro rfl;exact he (by show p.j∈t.place.toList;rw[<- h1];simp)
    have ih:=px h ha x f (adv t.mask p) v.adv ⟨n-1,by lia,by
     have:it t.mask (n-1) (adv t.mask p)=it t.mask n p:=by show _=it t.mask n p;rw[show n=(n-1)+1 by lia];rfl
     rw[this];exact he⟩
    have shift:∀{nn:Nat},(∀ k,k<nn->∃ i,∃ hi:i<t.place.size,t.place[i]=(it t.mask k (adv t.mask p)).j/\ha i≠x)->∀ k,k<nn+1->∃ i,∃ hi:i<t.place.size,t.place[i]=(it t.mask k p).j/\ha i≠x:=by
     intro nn b k hk;cases k with
     |zero=>exact⟨i,hi,h1,hq⟩
     |succ k=>exact b k (by lia)
    generalize probe.go t ha x f (adv t.mask p)=rr at ih;cases ih with
    |em n' e' b=>exact PrSpec.em (t:=t) (ha:=ha) (h:=x) (p:=p) (n'+1) e' (shift b)
    |ca n' i' hi' e' q' b=>exact PrSpec.ca (t:=t) (ha:=ha) (h:=x) (p:=p) (n'+1) i' hi' e' q' (shift b)
theorem kn:∀(l1 l2:List Nat),l1.Nodup->(∀ x∈l1,x∈l2)->l1.length<=l2.length
 | [],_,_,_=>KU _
 |a::l1,l2,nd,hs=>by
  have ha:a∈l2:=hs a (KD ..);have ih:=kn l1 (l2.erase a) (LZ.mp nd).2 fun x hx=>by have:x≠a:=fun e=>(LZ.mp nd).1 (e▸hx);exact(NQ this).mpr (hs x (Ky _ hx))
  rw[Ni ha]at ih;have:0<l2.length:=NA ha;simp only[K8];lia
theorem ko (h:Tb t)(hs:t.place.size<=t.mask):∃ j,j<=t.mask/\¬ Lv t j:=by refine Lx fun hn=>?_;have hall:∀ j,j<=t.mask->j∈t.place.toList:=fun j hj=>Lx fun z=>hn ⟨j,hj,z⟩;have:=kn (List.range (t.mask+1)) t.place.toList ML fun j hj=>hall j (by have:=K3.mp hj;lia);simp at this;lia
theorem kq (h:Tb t)(hs:t.place.size<=t.mask)(ha:Nat->Int)(x:Int)(v:Va t.mask p):PrSpec t ha x p (t.probe ha x p):=by obtain⟨j,hj,hn⟩:=ko h hs;obtain⟨n,h1,h2⟩:=Cs h.msk hj v;unfold probe;exact px h ha x _ p v ⟨n,h1,by rw[h2];exact hn⟩
def Rea (m:Nat)(lv:Nat->Prop)(h:Int)(j:Nat):Prop:=∃ n,(it m n (st m h)).j=j/\∀ k,k<n->lv (it m k (st m h)).j
theorem Rea.mono (r:Rea m lv h j)(s:∀ j,lv j->lv' j):Rea m lv' h j:=let ⟨n,e,b⟩:=r;⟨n,e,fun k hk=>s _ (b k hk)⟩
structure Tbl {V:Type} (t:SetTable) (es:Array (Int×V)):Prop where
 tb:Tb t
 len:t.place.size=es.size
 rea:∀ q∈t.place.toList.zip es.toList,Rea t.mask (·∈ t.place.toList) q.2.1 q.1
def gy (t:SetTable):Prop:=t.place.size*5<t.mask*3
theorem insertAt_toList {α:Type}(xs:Array α)(p:Nat)(x:α)(h:p<=xs.size):(insertAt xs p x).toList=xs.toList.take p++x::xs.toList.drop p:=by unfold insertAt;simp[M9,List.extract_eq_drop_take,Lg]
theorem insertAt_size {α:Type}(xs:Array α)(p:Nat)(x:α)(h:p<=xs.size):(insertAt xs p x).size=xs.size+1:=by rw[<- KM,insertAt_toList xs p x h];simp;lia
theorem gS (h:Tb t)(j:Nat):(t.put j).1={ t with place:=insertAt t.place (below t.place j) j }:=by unfold put;dsimp only;rw[h.dum];have:has #[] j=false:=mI j;rw[Kh (by rw[this];simp),<- h.dum]
theorem jO (t:SetTable)(j:Nat):(t.put j).2=below t.place j:=rfl
theorem rE {α β:Type}(xs:List α)(ys:List β)(p:Nat)(x:α)(y:β)(h:xs.length=ys.length):(xs.take p++x::xs.drop p).zip (ys.take p++y::ys.drop p)=(xs.zip ys).take p++(x,y)::(xs.zip ys).drop p:=by rw[List.zip_append (by simp[h]),List.zip_cons_cons];simp[List.zip,List.take_zipWith,List.drop_zipWith]
theorem rF {V:Type}{t:SetTable}{es:Array (Int×V)}(h:Tbl t es){j:Nat}(hj:j∉t.place.toList)(hjm:j<=t.mask){hh:Int}{v:V}(r:Rea t.mask (·∈ t.place.toList) hh j) :
 Tbl (t.put j).1 (insertAt es (t.put j).2 (hh,v))/\(t.put j).1.mask=t.mask/\(t.put j).1.place.size=t.place.size+1:=by
 obtain⟨a,b,c⟩:=bZ j h.tb.ris;rw[gS h.tb,jO];have ae:below t.place j<=es.size:=by rw[<- h.len];exact a
 have el:=insertAt_toList t.place _ j a;have ee:=insertAt_toList es (below t.place j) (hh,v) ae;have mem:∀ k,k∈(insertAt t.place (below t.place j) j).toList↔k=j\/k∈t.place.toList:=by
  intro k;rw[el,Ku,Kj];constructor
  .rintro (z|rfl|z)
   .exact .inr (Lk z)
   .exact .inl rfl
   .exact .inr (Lr z)
  .rintro (rfl|z)
   .exact .inr (.inl rfl)
   .rw[<- KL (below t.place j) t.place.toList,Ku]at z;exact z.elim .inl fun z=>.inr (.inr z)
 refine⟨⟨⟨h.tb.msk,h.tb.dum,?_,fun k hk=>?_⟩,?_,fun q hq=>?_⟩,rfl,insertAt_size _ _ _ a⟩
 .show Ris (insertAt t.place (below t.place j) j).toList;rw[el];unfold Ris;rw[Ls];refine⟨h.tb.ris.sublist (L6 _ _),?_,?_⟩
  .rw[KS];refine⟨fun k hk=>?_,h.tb.ris.sublist (Mw _ _)⟩;obtain⟨i,hi,e⟩:=M8.mp hk;rw[Nb]at hi;have hi2:below t.place j+i<t.place.size:=by simp at hi;lia
   have e2:t.place[below t.place j+i]=k:=by rw[<- e];simp
   have:=c _ hi2 (by lia);rw[e2]at this;have:k≠j:=fun z=>hj (by rw[<- z,<- e2];simp);lia
  .intro k hk l hl;obtain⟨i,hi,e⟩:=M8.mp hk;rw[K7]at hi;have hi2:i<t.place.size:=by simp at hi;lia
   have e2:t.place[i]=k:=by rw[<- e];simp
   have l1:=b i hi2 (by lia);rw[e2]at l1;rw[Kj]at hl;rcases hl with rfl|hl
   .exact l1
   .obtain⟨i',hi',e'⟩:=M8.mp hl;rw[Nb]at hi';have hi3:below t.place j+i'<t.place.size:=by simp at hi';lia
    have e3:t.place[below t.place j+i']=l:=by rw[<- e'];simp
    have:=c _ hi3 (by lia);rw[e3]at this;lia
 .rcases (mem k).mp hk with rfl|z
  .exact hjm
  .exact h.tb.le k z
 .show(insertAt t.place (below t.place j) j).size=_;rw[insertAt_size _ _ _ a,insertAt_size _ _ _ ae,h.len]
 .have hq:q∈(insertAt t.place (below t.place j) j).toList.zip (insertAt es (below t.place j) (hh,v)).toList:=hq;rw[el,ee,rE _ _ _ _ _ (by simpa using h.len)]at hq;have sub:∀ k,k∈t.place.toList->k∈(insertAt t.place (below t.place j) j).toList:=fun k hk=>(mem k).mpr (.inr hk);rw[Ku,Kj]at hq;rcases hq with z|rfl|z
  .exact(h.rea q (Lk z)).mono sub
  .exact r.mono sub
  .exact(h.rea q (Lr z)).mono sub
def ow (owner:Array (Option Nat))(j:Nat):Prop:=∃ k,owner[j]?=some (some k)
theorem nP (i q:Nat):∀ k,k<=runEnd m i-i->it m k (rs m (i,q))={ j:=i+k,more:=runEnd m i-i-k,i:=i,perturb:=q,dummy:=none }
 |0,_=>rfl
 |k+1,h=>by rw[AA,nP i q k (by lia)];unfold adv;rw[Kf (by dsimp only;lia)];dsimp only;congr 1
theorem mK (hs:owner.size=m+1):∀(fuel i q:Nat),i<=m->q<2 ^ 64->(∃ L,L<fuel/\¬ ow owner (lp m L (i,q)).1)->
 ∃ j,layClean.free m owner fuel i q=some j/\j<=m/\¬ ow owner j/\∃ n,(it m n (rs m (i,q))).j=j/\∀ k,k<n->ow owner (it m k (rs m (i,q))).j
 |0,i,q,_,_,⟨L,h,_⟩=>by lia
 |f+1,i,q,hi,hq,⟨L,hL,hn⟩=>by
  obtain⟨r1,r2⟩:=gF m i hi;have hre:runEnd m i+1-i=(runEnd m i-i)+1:=by
   have:i<=runEnd m i:=by unfold runEnd;split<;>lia
   lia
  have isn:∀ k,k<=runEnd m i-i->((owner.getD (i+k) (some 0)).isNone=true↔¬ ow owner (i+k)):=by
   intro k hk;have hb:i+k<owner.size:=by lia
   have e:owner[i+k]?=some owner[i+k]:=by simp[hb]
   have e2:owner.getD (i+k) (some 0)=owner[i+k]:=by simp[Array.getD,hb]
   unfold ow;rw[e2,e];cases owner[i+k]<;>simp
  unfold layClean.free;cases hf:(List.range (runEnd m i+1-i)).find? fun k=>(owner.getD (i+k) (some 0)).isNone with
  |some k=>
   dsimp only;rw[List.find?_range_eq_some]at hf;obtain⟨h1,h2,h3⟩:=hf;have h2:=K3.mp h2;have hk:k<=runEnd m i-i:=by lia
   refine⟨i+k,rfl,by lia,(isn k hk).mp h1,k,by rw[nP i q k hk],fun k' hk'=>?_⟩;rw[nP i q k' (by lia)];have:=h3 k' hk';refine Lx fun z=>?_;rw[(isn k' (by lia)).mpr z]at this;simp at this
  |none=>
   dsimp only;rw[List.find?_range_eq_none]at hf;have hrun:∀ k,k<=runEnd m i-i->ow owner (i+k):=by intro k hk;refine Lx fun z=>?_;have:=hf k (by lia);rw[(isn k hk).mpr z]at this;simp at this
   have hL0:L≠0:=by rintro rfl;exact hn (hrun 0 (KU _))
   have ih:=mK hs f (leap m i q).1 (leap m i q).2 (nN m i q) (by rw[rA];have:=Nat.div_le_self q 32;lia) ⟨L-1,by lia,by
    have:lp m L (i,q)=lp m (L-1) (leap m i q):=by rw[show L=(L-1)+1 by lia];rfl
    rw[this]at hn;exact hn⟩
   obtain⟨j,e,hj,hnj,n,en,hb⟩:=ih;refine⟨j,e,hj,hnj,runEnd m i-i+1+n,?_,fun k hk=>?_⟩
   .rw[cJ,gR (runEnd m i-i) (rs m (i,q)) rfl (Va.rs hi hq)];exact en
   .by_cases hk2:k<=runEnd m i-i
    .rw[nP i q k hk2];exact hrun k hk2
    .have:it m k (rs m (i,q))=it m (k-(runEnd m i-i+1)) (rs m (leap m i q)):=by rw[show k=(runEnd m i-i+1)+(k-(runEnd m i-i+1)) by lia,cJ,gR (runEnd m i-i) (rs m (i,q)) rfl (Va.rs hi hq)];congr 1;lia
     rw[this];exact hb _ (by lia)
structure Own (m:Nat) (hs:List Int) (owner:Array (Option Nat)):Prop where
 size:owner.size=m+1
 all:∀ k:Nat,k<hs.length->∃ j:Nat,owner[j]?=some (some k)
 lt:∀ j k:Nat,owner[j]?=some (some k)->k<hs.length
 rea:∀(j k:Nat)(h:Int),owner[j]?=some (some k)->hs[k]?=some h->Rea m (ow owner) h j
 inj:∀ j j' k:Nat,owner[j]?=some (some k)->owner[j']?=some (some k)->j=j'
theorem Own.spare (o:Own m hs owner)(hl:hs.length<=m):∃ j,j<=m/\¬ ow owner j:=by
 refine Lx fun hn=>?_;have hall:∀ j,j<=m->ow owner j:=fun j hj=>Lx fun z=>hn ⟨j,hj,z⟩
 let g:Nat->Nat:=fun j=>((owner[j]?).getD none).getD 0
 have hg:∀ j,j<=m->owner[j]?=some (some (g j)):=fun j hj=>by obtain⟨k,hk⟩:=hall j hj;show owner[j]?=some (some (((owner[j]?).getD none).getD 0));rw[hk];rfl
 have nd:((List.range (m+1)).map g).Nodup:=by unfold List.Nodup;rw[KH];have:=ML (n:=m+1);refine LD (fun{a b} ha hb hab e=>hab ?_) this;have ha:=K3.mp ha;have hb:=K3.mp hb;exact o.inj a b (g a) (hg a (by lia)) (by rw[e];exact hg b (by lia))
 have:=kn _ (List.range hs.length) nd fun x hx=>by obtain⟨j,hj,rfl⟩:=Kq.mp hx;have hj:=K3.mp hj;exact K3.mpr (o.lt j _ (hg j (by lia)))
 simp at this;lia
theorem xb (hm:Msk m)(o:Own m hs owner)(hl:hs.length<=m)(h:Int) :
 ∃ j,layClean.free m owner (turns m) (bits h % (m+1)) (bits h)=some j/\Own m (hs++[h]) (owner.setIfInBounds j (some hs.length)):=by
 obtain⟨j0,hj0,hn0⟩:=o.spare hl;have hi:bits h % (m+1)<=m:=Oe (Nat.mod_lt _ (Nat.succ_pos m));obtain⟨L,l1,l2,el⟩:=pq hm hj0 (bits h % (m+1),bits h) hi (nM h);obtain⟨j,e,hj,hnj,n,en,hb⟩:=mK o.size (turns m) _ _ hi (nM h) ⟨L,by unfold turns;lia,by rw[el];exact hn0⟩;refine⟨j,e,?_⟩;have hjb:j<owner.size:=by rw[o.size];lia
 have get:∀ i,(owner.setIfInBounds j (some hs.length))[i]?=if i=j then some (some hs.length) else owner[i]?:=by
  intro i;rw[NS];by_cases hij:j=i
  .subst hij;rw[Kf rfl,Kf hjb,Kf rfl]
  .rw[Kh hij,Kh (fun z=>hij z.symm)]
 have sub:∀ i,ow owner i->ow (owner.setIfInBounds j (some hs.length)) i:=by
  rintro i ⟨k,hk⟩;by_cases hij:i=j
  .exact⟨_,by rw[get,Kf hij]⟩
  .exact⟨k,by rw[get,Kh hij];exact hk⟩
 have inv:∀ i k,(owner.setIfInBounds j (some hs.length))[i]?=some (some k)->(i=j/\k=hs.length)\/(i≠j/\owner[i]?=some (some k)):=by
  intro i k hk;rw[get]at hk;by_cases hij:i=j
  .rw[Kf hij]at hk;exact .inl ⟨hij,by simpa using hk.symm⟩
  .rw[Kh hij]at hk;exact .inr ⟨hij,hk⟩
 refine⟨by rw[Array.size_setIfInBounds,o.size],fun k hk=>?_,fun i k hk=>?_,fun i k h' hk hh=>?_,fun i i' k h1 h2=>?_⟩
 .rw[KF,L9]at hk;by_cases hkl:k=hs.length
  .exact⟨j,by rw[get,Kf rfl,hkl]⟩
  .obtain⟨i,hi⟩:=o.all k (by lia);refine⟨i,?_⟩;rw[get,Kh]
   .exact hi
   .rintro rfl;exact hnj ⟨k,hi⟩
 .rw[KF,L9];rcases inv i k hk with⟨_,rfl⟩|⟨_,z⟩
  .lia
  .have:=o.lt i k z;lia
 .rcases inv i k hk with⟨rfl,rfl⟩|⟨hij,z⟩
  .rw[Kk (Km _),Nat.sub_self]at hh;cases hh;exact⟨n,en,fun k hk=>sub _ (hb k hk)⟩
  .have hkl:=o.lt i k z;rw[Kw hkl]at hh;exact(o.rea i k h' z hh).mono sub
 .rcases inv i k h1 with⟨rfl,rfl⟩|⟨hij,z⟩<;>rcases inv i' _ h2 with⟨rfl,e'⟩|⟨hij',z'⟩
  .rfl
  .have:=o.lt _ _ z';lia
  .have:=o.lt _ _ z;lia
  .exact o.inj i i' k z z'
theorem xc (hm:Msk m):∀(suf pre:List Int)(owner:Array (Option Nat)),Own m pre owner->pre.length+suf.length<=m->
 ∃ owner',suf.foldl (fun acc h=>do
  let (owner,k) <- acc
  let j <- layClean.free m owner (turns m) (bits h % (m+1)) (bits h)
  pure (owner.setIfInBounds j (some k),k+1)) (some (owner,pre.length))=some (owner',pre.length+suf.length)/\Own m (pre++suf) owner'
 | [],pre,owner,o,_=>⟨owner,rfl,by rw[La];exact o⟩
 |h::suf,pre,owner,o,hl=>by simp only[K8]at hl;obtain⟨j,e,o'⟩:=xb hm o (by lia) h;obtain⟨owner',e2,o2⟩:=xc hm suf (pre++[h]) _ o' (by simp;lia);refine⟨owner',?_,by rw[Ko]at o2;exact o2⟩;rw[Mx];show List.foldl _ ((layClean.free m owner (turns m) (bits h % (m+1)) (bits h)).bind fun j=>some (owner.setIfInBounds j (some pre.length),pre.length+1)) suf=_;rw[e];show List.foldl _ (some (owner.setIfInBounds j (some pre.length),pre.length+1)) suf=_;rw[KF,L9]at e2;rw[e2];simp only[K8];congr 2;lia
theorem DP (hm:Msk m)(hs:Array Int)(hl:hs.size<=m):∃ owner,layClean m hs=some owner/\Own m hs.toList owner:=by
 have o0:Own m [] (Array.replicate (m+1) none):=by
  have no:∀ j k:Nat,(Array.replicate (m+1) (none:Option Nat))[j]?=some (some k)->False:=by intro j k h;rw[Array.getElem?_replicate]at h;split at h<;>simp at h
  exact⟨by simp,fun k hk=>by simp at hk,fun j k h=>(no j k h).elim,fun j k _ h=>(no j k h).elim,fun j _ k h=>(no j k h).elim⟩
 obtain⟨owner,e,o⟩:=xc hm hs.toList [] _ o0 (by simpa using hl);refine⟨owner,?_,by simpa using o⟩;unfold layClean;rw[<- Array.foldl_toList];rw[Nm]at e;rw[e];rfl
theorem xf {α:Type}(es:Array α):∀(l:List Nat),(∀ k∈l,k<es.size)->(l.filterMap (es[·]?)).length=l.length/\∀ i:Nat,(l.filterMap (es[·]?))[i]?=(l[i]?).bind (es[·]?)
 | [],_=>⟨rfl,fun i=>by simp⟩
 |k::l,h=>by
  have hk:k<es.size:=h k (KD ..);have e:es[k]?=some es[k]:=by simp[hk]
  obtain⟨a,b⟩:=xf es l fun k hk=>h k (Ky _ hk);rw[Md e];refine⟨by simp[a],fun i=>?_⟩;cases i with
  |zero=>simp[e]
  |succ i=>simpa using b i
theorem kr (o:Nat->Option Nat):∀ l:List Nat,(l.filterMap fun j=>(o j).map (j,·)).map Prod.fst=l.filter fun j=>(o j).isSome
 | []=>rfl
 |j::l=>by
  rw[MG,Ll];cases e:o j with
  |none=>simpa using kr o l
  |some k=>simpa using kr o l
theorem xg (owner:Array (Option Nat))(m:Nat)(hs:owner.size=m+1)(j k:Nat):(j,k)∈((List.range (m+1)).filterMap fun j=>(owner.getD j none).map (j,·))↔owner[j]?=some (some k):=by
 rw[MR];constructor
 .rintro⟨a,h1,h2⟩;have h1:=K3.mp h1;have hb:a<owner.size:=by lia
  have e:owner.getD a none=owner[a]:=by simp[Array.getD,hb]
  rw[e]at h2;obtain⟨k',e1,e2⟩:=LN.mp h2;cases e2;rw[show owner[j]?=some owner[j] by simp[hb],e1]
 .intro h;obtain⟨hb,e⟩:=LL.mp h;refine⟨j,K3.mpr (by lia),?_⟩;have e2:owner.getD j none=owner[j]:=by simp[Array.getD,hb]
  rw[e2,e];rfl
structure Laid {V:Type} (m:Nat) (es es':Array (Int×V)) (t':SetTable):Prop where
 tbl:Tbl t' es'
 mask:t'.mask=m
 size:es'.size=es.size
 mem:∀ x,x∈es'.toList↔x∈es.toList
 pw:∀ R:Int×V->Int×V->Prop,(∀ x y,R x y->R y x)->es.toList.Pairwise R->es'.toList.Pairwise R
theorem pz {V:Type}{m:Nat}(hm:Msk m)(es:Array (Int×V))(hl:es.size<=m)(finger moves:Nat)(led plain:Bool) :
 ∃ t' order,laid m finger moves led plain (es.map (·.1))=some (t',order)/\Laid m es (order.filterMap (es[·]?)) t'/\t'.led=led/\t'.plain=plain/\order.toList.Perm (List.range es.size):=by
 obtain⟨owner,eo,o⟩:=DP hm (es.map (·.1)) (by simpa using hl);have len:(es.map (·.1)).toList.length=es.size:=by simp
 let live:=(List.range (m+1)).filterMap fun j=>(owner.getD j none).map (j,·)
 have lm:∀ j k,(j,k)∈live↔owner[j]?=some (some k):=xg owner m o.size;have ris:Ris (live.map Prod.fst):=by show Ris (((List.range (m+1)).filterMap fun j=>(owner.getD j none).map (j,·)).map Prod.fst);rw[kr];exact List.pairwise_lt_range.sublist (List.filter_sublist)
 have ndS:(live.map Prod.snd).Nodup:=by unfold List.Nodup;unfold Ris at ris;rw[KH]at ris ⊢;refine LD (fun{a b} ha hb hab e=>?_) ris;have h1:=(lm a.1 a.2).mp ha;have h2:=(lm b.1 b.2).mp hb;rw[<- e]at h2;have:=o.inj _ _ _ h1 h2;lia
 have lt:∀ k∈live.map Prod.snd,k<es.size:=by
  intro k hk;obtain⟨p,hp,rfl⟩:=Kq.mp hk;have:=o.lt p.1 p.2 ((lm p.1 p.2).mp hp)
  rwa [len]at this
 have all:∀ k,k<es.size->k∈live.map Prod.snd:=by intro k hk;obtain⟨j,hj⟩:=o.all k (by rw[len];exact hk);exact Kq.mpr ⟨(j,k),(lm j k).mpr hj,rfl⟩
 have ll:live.length=es.size:=by have a:=kn _ (List.range es.size) ndS fun k hk=>K3.mpr (lt k hk);have b:=kn (List.range es.size) (live.map Prod.snd) ML fun k hk=>all k (K3.mp hk);simp at a b;lia
 obtain⟨f1,f2⟩:=xf es (live.map Prod.snd) lt;refine⟨{ mask:=m,place:=(live.map (·.1)).toArray,dummies:=#[],finger,led,moves,plain },(live.map (·.2)).toArray,?_,?_,rfl,rfl,(List.perm_ext_iff_of_nodup ndS ML).mpr fun k=>⟨fun h=>K3.mpr (lt k h),fun h=>all k (K3.mp h)⟩⟩
 .unfold laid;rw[eo];rfl
 .have el:((live.map (·.2)).toArray.filterMap (es[·]?)).toList=(live.map Prod.snd).filterMap (es[·]?):=by simp
  have es':((live.map (·.2)).toArray.filterMap (es[·]?)).size=es.size:=by rw[<- KM,el,f1,Kg,ll]
  refine⟨⟨⟨hm,rfl,by simpa using ris,fun j hj=>?_⟩,?_,fun q hq=>?_⟩,rfl,es',fun x=>?_,fun R sy pw=>?_⟩
  .have hj:j∈live.map Prod.fst:=by simpa using hj
   obtain⟨p,hp,rfl⟩:=Kq.mp hj;obtain⟨hb,_⟩:=LL.mp ((lm p.1 p.2).mp hp);show p.1<=m;have:=o.size;lia
  .rw[es'];simpa using ll
  .have hq:q∈(live.map Prod.fst).zip ((live.map Prod.snd).filterMap (es[·]?)):=by rw[el]at hq;simpa using hq
   obtain⟨i,hi⟩:=KG.mp hq;rw[Na,f2]at hi;obtain⟨h1,h2⟩:=hi;rw[K6]at h1 h2;obtain⟨p,hp,e1⟩:=LN.mp h1;rw[hp]at h2;have h2:es[p.2]?=some q.2:=h2;have ho:=(lm p.1 p.2).mp (KG.mpr ⟨i,hp⟩);have hh:(es.map (·.1)).toList[p.2]?=some q.2.1:=by rw[Kn,Array.getElem?_map,h2];rfl
   rw[<- e1];refine(o.rea p.1 p.2 q.2.1 ho hh).mono fun j ⟨k,hk⟩=>?_;show j∈(live.map (·.1)).toArray.toList;simpa using ⟨k,(lm j k).mpr hk⟩
  .rw[el];constructor
   .intro hx;obtain⟨k,_,h2⟩:=MR.mp hx;exact KG.mpr ⟨k,by rw[Kn];exact h2⟩
   .intro hx;obtain⟨k,hk⟩:=KG.mp hx;have hb:k<es.size:=by have:=(Kc.mp hk).1;simpa using this
    exact MR.mpr ⟨k,all k hb,by rw[Kn]at hk;exact hk⟩
  .rw[el];rw[KW];intro a b ha hb hab;have ea:=f2 a;have eb:=f2 b;rw[Li ha]at ea;rw[Li hb]at eb;rw[f1]at ha hb;rw[Li ha]at ea;rw[Li hb]at eb;have hne:(live.map Prod.snd)[a]≠(live.map Prod.snd)[b]:=KW.mp ndS a b ha hb hab;have ea:es[(live.map Prod.snd)[a]]?=some _:=ea.symm;have eb:es[(live.map Prod.snd)[b]]?=some _:=eb.symm;obtain⟨ka,va⟩:=LL.mp ea;obtain⟨kb,vb⟩:=LL.mp eb;have P:=KW.mp pw;rw[<- va,<- vb];rcases Nat.lt_or_gt_of_ne hne with z|z
   .simpa using P _ _ (by simpa using ka) (by simpa using kb) z
   .refine sy _ _ ?_;simpa using P _ _ (by simpa using kb) (by simpa using ka) z
theorem AB {V:Type}{m:Nat}(hm:Msk m)(es:Array (Int×V))(hl:es.size<=m)(finger moves:Nat)(led plain:Bool) :
 ∃ t' order,laid m finger moves led plain (es.map (·.1))=some (t',order)/\Laid m es (order.filterMap (es[·]?)) t'/\t'.led=led/\t'.plain=plain:=by
 obtain⟨t',order,a,b,c,d,_⟩:=pz hm es hl finger moves led plain;exact⟨t',order,a,b,c,d⟩
end ST
namespace ST
open PySem PySem.W PyProof.Rows
noncomputable abbrev Cmp:=Nat->Nat->(Bool->Ot->Prop)->Ot->Prop
def Pm (N:Nat)(p:Array Nat):Prop:=p.toList.Perm (List.range N)
noncomputable def Ct (p:Array Nat)(i:Nat):Nat:=p.getD i 0
section
variable {N:Nat}{lt:Nat->Nat->Bool}{cmp:Cmp}{s:Ot}{p:Array Nat}
theorem Pm.size (h:Pm N p):p.size=N:=by have:=h.length_eq;simpa using this
theorem Pm.perm (h:Pm N p)(q:p'.Perm p):Pm N p':=(Array.perm_iff_toList_perm.mp q).trans h
theorem Pm.ne (h:Pm N p)(hi:i<N)(hj:j<N)(e:i≠j):Ct p i≠Ct p j:=by
 have nd:p.toList.Nodup:=h.nodup_iff.mpr ML;have hi':i<p.size:=by rw[h.size];exact hi
 have hj':j<p.size:=by rw[h.size];exact hj
 have gi:p.toList[i]'(by simpa using hi')=Ct p i:=by simp[Ct,Array.getD,hi']
 have gj:p.toList[j]'(by simpa using hj')=Ct p j:=by simp[Ct,Array.getD,hj']
 intro z;rcases Nat.lt_or_gt_of_ne e with q|q
 .exact KW.mp nd i j (by simpa using hi') (by simpa using hj') q (by rw[gi,gj];exact z)
 .exact KW.mp nd j i (by simpa using hj') (by simpa using hi') q (by rw[gi,gj];exact z.symm)
end
end ST
namespace L2
open PySem PySem.Spec PySem.Calls PyProof.Rows ST
noncomputable abbrev iK (ns:List Int):List Key:=ns.map Sum.inl
section
variable {prog:Ov}{w:World}{A:Ox}{E:Ow->Ot->Prop}{s:Ot}
theorem jP (h:(mixKind prog w).is (.inl i) v=true):∃ t,v=.int i t:=by
 rcases aA (show fj (.inl i) v=true from h) with⟨j,t,e,rfl⟩|⟨x,t,e,_⟩
 .cases e;exact⟨t,rfl⟩
 .cases e
theorem items_int:∀{ns:List Int}{vs:List Ow},ItemsAre (mixKind prog w) (iK ns) vs->∀ v∈vs,∃ i t,v=.int i t
 | [],_,h,v,hv=>by cases h;simp at hv
 |n::ns,_,h,v,hv=>by
  cases h with
  |cons h1 h2=>
   rcases Kj.mp hv with rfl|hv
   .obtain⟨t,rfl⟩:=jP h1;exact⟨n,t,rfl⟩
   .exact items_int h2 v hv
theorem DQ (hk:(tK prog w).is s.heap (iK ns) b)(h:Q true s):wpAny (model prog w) A (hashByValue 8 (.ref b)) Q E s:=by
 have hT:=IsTupleKey.typeIs hk;obtain⟨o,items,n,ho,_,hd,hi⟩:=hk;unfold hashByValue;refine Ka (MX hT Mf.lookup ?_);dsimp only;refine Ka (LO ho hd ?_);refine Ka ?_;show wpAny _ _ (forIn items _ _) _ _ s;rw[<- MS];refine MM _ (fun aF r s'=>r.1=none/\s'=s/\∀ v∈aF,∃ i t,v=Value.int i t) _ ?_ ?_ _ _ ⟨rfl,rfl,items_int hi⟩
 .rintro v aF r s' ⟨hr,rfl,hall⟩;obtain⟨i,t,rfl⟩:=hall v KD;refine Ka (Ke ?_);simp only[Lu,Ks,Lh];exact Ke ⟨rfl,rfl,fun u hu'=>hall u (Ky _ hu')⟩
 .rintro⟨r1,r2⟩ s' ⟨hr,rfl,_⟩;simp only at hr;subst hr;exact Ke h
theorem pA (hk:(tK prog w).is s.heap (iK ns) b)(h:Q false s):wpAny (model prog w) A (ofAClassStatement 8 (.ref b)) Q E s:=by
 have hT:=IsTupleKey.typeIs hk;obtain⟨o,items,n,ho,_,hd,hi⟩:=hk;unfold ofAClassStatement;refine Ka (wpAny_typeOf hT ?_);dsimp only;rw[Kf (by decide)];refine Ka (Ke ?_);simp only[Lu,Ks,Lh];refine Ka (LO ho hd ?_);refine Ka ?_;show wpAny _ _ (forIn items _ _) _ _ s;rw[<- MS];refine MM _ (fun aF r s'=>r.1=none/\s'=s/\∀ v∈aF,∃ i t,v=Value.int i t) _ ?_ ?_ _ _ ⟨rfl,rfl,items_int hi⟩
 .rintro v aF r s' ⟨hr,rfl,hall⟩;obtain⟨i,t,rfl⟩:=hall v KD;refine Ka (Ke ?_);simp only[Ks,Lh];exact Ke ⟨rfl,rfl,fun u hu'=>hall u (Ky _ hu')⟩
 .rintro⟨r1,r2⟩ s' ⟨hr,rfl,_⟩;simp only at hr;subst hr;exact Ke h
theorem DR (hk:(tK prog w).is s.heap (iK ns) b)(hy:∀ y∈ys,∃ ms c,y=.ref c/\(tK prog w).is s.heap (iK ms) c)(h:Q false s):wpAny (model prog w) A (searchCouldBeSeen (.ref b) ys) Q E s:=by
 unfold searchCouldBeSeen;refine Ka ?_;refine MM _ (fun aF r s'=>r.1=none/\s'=s/\∀ y∈aF,∃ ms c,y=.ref c/\(tK prog w).is s.heap (iK ms) c) _ ?_ ?_ _ _ ⟨rfl,rfl,hy⟩
 .rintro v aF r s' ⟨hr,rfl,hall⟩;obtain⟨ms,c,rfl,hc⟩:=hall v KD;have fin:∀ u∈aF,∃ ms c,u=Value.ref c/\(tK prog w).is s'.heap (iK ms) c:=fun u hu'=>hall u (Ky _ hu');dsimp only;split
  .exact Ke ⟨rfl,rfl,fin⟩
  .refine Ka ((tK prog w).quiet hk ?_);simp only[Lu,Ks,Lh];refine Ka ((tK prog w).quiet hc ?_);simp only[Lu,Ks,Lh];refine Ka (pA hk ?_);simp only[Ks,Lh];refine Ka (pA hc ?_);simp only[Ks,Lh];exact Ke ⟨rfl,rfl,fin⟩
 .rintro⟨r1,r2⟩ s' ⟨hr,rfl,_⟩;simp only at hr;subst hr;exact Ke h
def Ja (prog:Ov)(w:World)(h:Heap)(es:Array (Int×Ow)):Prop:=∀ e∈es.toList,∃ ms c,e=((tK prog w).hash (iK ms),Value.ref c)/\(tK prog w).is h (iK ms) c
theorem AC (h:Msk m):(m % 2==0)=false:=by rcases h with rfl|rfl|rfl|rfl<;>rfl
theorem Tbl.fits (T:Tbl t es)(hs:t.place.size<=t.mask):t.fits es.size=true:=by unfold SetTable.fits SetTable.fill;rw[T.tb.dum];simp[T.len]at hs ⊢;exact hs
theorem rG {α:Type}{es:Array α}{i:Nat}{e:α}(h:es[i]?=some e):e∈es.toList:=KG.mpr ⟨i,by rw[Kn];exact h⟩
theorem mL {ep:Nat}{t:SetTable}{ns:List Int}{Q:SetFound->Ot->Prop}(ho:s.heap.get? a=some o)(hd:o.data=.set es ep t)(T:Tbl t es)(hs:t.place.size<=t.mask)
 (hu:A.units<cLine) (hk:(tK prog w).is s.heap (iK ns) b) (el:Ja prog w s.heap es)
 (h1:(∃ e∈es.toList,∃ c,e.2=.ref c/\(tK prog w).is s.heap (iK ns) c)->Q (.there none) s)
 (h2:(∀ e∈es.toList,∀ c,e.2=.ref c->¬ (tK prog w).is s.heap (iK ns) c)->∀ j,j∉t.place.toList->j<=t.mask->Rea t.mask (·∈ t.place.toList) ((tK prog w).hash (iK ns)) j->Q (.free j false) s) :
 ∀(fuel n:Nat)(stand:Option SetTable.Probe),stand.getD (t.probeStart ((tK prog w).hash (iK ns)))=it t.mask n (st t.mask ((tK prog w).hash (iK ns)))->
  (∀ k,k<n->∃ i e,∃ hi:i<t.place.size,t.place[i]=(it t.mask k (st t.mask ((tK prog w).hash (iK ns)))).j/\es[i]?=some e/\∀ c,e.2=.ref c->¬ (tK prog w).is s.heap (iK ns) c)->
  (∃ N,n<=N/\N<n+fuel/\(it t.mask N (st t.mask ((tK prog w).hash (iK ns)))).j∉t.place.toList)->
  wpAny (model prog w) A (setSearchFrom a (.ref b) ((tK prog w).hash (iK ns)) true fuel stand) Q E s
 |0,n,stand,_,_,⟨N,x1,x2,_⟩=>by lia
 |fuel+1,n,stand,e1,e2,⟨N,x1,x2,x3⟩=>by
  have v0:Va t.mask (it t.mask n (st t.mask ((tK prog w).hash (iK ns)))):=(Va.st _ _).it;have sp:=kq T.tb hs (fun i=>(es[i]?.map (·.1)).getD 0) ((tK prog w).hash (iK ns)) v0;have at_:∀ i,i<t.place.size->∃ e,es[i]?=some e:=fun i hi=>⟨es[i]'(by rw[<- T.len];exact hi),by simp[T.len▸hi]⟩;unfold setSearchFrom;refine Ka (Ly ho hd (Tbl.fits T hs) ?_);dsimp only;have hg:t.gaveWay=false:=AC T.tb.msk;rw[hg];simp only[Ks,Lh];rw[e1];have pre:∀{nn:Nat},(∀ k,k<nn->∃ i,∃ hi:i<t.place.size,t.place[i]=(it t.mask k (it t.mask n (st t.mask ((tK prog w).hash (iK ns))))).j/\(es[i]?.map (·.1)).getD 0≠(tK prog w).hash (iK ns))->
   ∀ k,k<n+nn->∃ i e,∃ hi:i<t.place.size,t.place[i]=(it t.mask k (st t.mask ((tK prog w).hash (iK ns)))).j/\es[i]?=some e/\∀ c,e.2=.ref c->¬ (tK prog w).is s.heap (iK ns) c:=by
   intro nn hb k hk';by_cases hkn:k<n
   .exact e2 k hkn
   .obtain⟨i,hi,q1,q2⟩:=hb (k-n) (by lia);obtain⟨e,he⟩:=at_ i hi;refine⟨i,e,hi,?_,he,fun c hc his=>q2 ?_⟩
    .rw[q1,<- cJ,show n+(k-n)=k by lia]
    .obtain⟨ms,c',rfl,his'⟩:=el e (rG he);have hc':c'=c:=by injection hc
     subst hc';rw[he];show(tK prog w).hash (iK ms)=_;rw[(tK prog w).inj his' his]
  generalize hq0:t.probe _ _ (it t.mask n (st t.mask ((tK prog w).hash (iK ns))))=pr;have hpr:t.probe (fun i=>(es[i]?.map (·.1)).getD 0) ((tK prog w).hash (iK ns)) (it t.mask n (st t.mask ((tK prog w).hash (iK ns))))=pr:=hq0;rw[hpr]at sp;clear hpr hq0;cases sp with
  |em nn hem hb=>
   dsimp only;refine Ke (h2 ?_ _ hem (v0.it).jle ?_)
   .intro e he c hc his;obtain⟨i,hi⟩:=KG.mp he;rw[Kn]at hi;have hil:i<t.place.size:=by rw[T.len];exact(LL.mp hi).1
    obtain⟨ms,c',rfl,his'⟩:=el e he;have hc':c'=c:=by injection hc
    subst hc';have ek:=(tK prog w).inj his' his;have hz:(t.place[i],((tK prog w).hash (iK ms),Value.ref c'))∈t.place.toList.zip es.toList:=KG.mpr ⟨i,by rw[Na];exact⟨by simp[hil],by rw[Kn];exact hi⟩⟩;obtain⟨m,em,eb⟩:=T.rea _ hz;have em:(it t.mask m (st t.mask ((tK prog w).hash (iK ms)))).j=t.place[i]:=em;rw[ek]at em eb;have hm:m<n+nn:=by
     rcases NB m (n+nn) with q|q|q
     .exact q
     .exfalso;refine hem ?_;show(it t.mask nn (it t.mask n _)).j∈t.place.toList;rw[<- cJ,<- q,em];simp
     .exfalso;refine hem ?_;show(it t.mask nn (it t.mask n _)).j∈t.place.toList;rw[<- cJ];exact eb _ q
    obtain⟨i',e',hi',q1,q2,q3⟩:=pre hb m hm;have hii:i'=i:=by
     have:t.place[i']=t.place[i]:=q1.trans em;rcases NB i' i with q|q|q
     .have:=KW.mp T.tb.ris i' i (by simpa using hi') (by simpa using hil) q;simp at this;lia
     .exact q
     .have:=KW.mp T.tb.ris i i' (by simpa using hil) (by simpa using hi') q;simp at this;lia
    subst hii;rw[hi]at q2;cases q2;exact q3 c' rfl his
   .refine⟨n+nn,by rw[cJ],fun k hk'=>?_⟩;obtain⟨i,e,hi,q1,_⟩:=pre hb k hk';show _∈t.place.toList;rw[<- q1];simp
  |ca nn i hi hij hq hb=>
   dsimp only;obtain⟨e,he⟩:=at_ i hi;obtain⟨ms,c,rfl,his⟩:=el e (rG he);have aF:wpAny (model prog w) A (do
    let some (_,y):=es[i]?|unsupported "internal:set-entry"
    let equal <- holding [y] (eqBool y (.ref b))
    let (es',_,t') <- setState a
    if true&&equal then return SetFound.there none
    let some same:=t'.sameMemory t.moves t.mask|unsupported "set.changed-during-lookup:is-the-new-block-at-the-old-address"
    let still <- match (if same then t'.slot (it t.mask nn (it t.mask n (st t.mask ((tK prog w).hash (iK ns))))).j else .empty) with
     | .live i'=>match es'[i']? with
      |some (_,y')=>do pure (if <- isSame y' y then some i' else none)
      |none=>pure none
     |_=>pure none
    match still with
    |none=>rule "set.search.anew";setSearchFrom a (.ref b) ((tK prog w).hash (iK ns)) true fuel none
    |some i'=>if equal then return .there (some i') else setSearchFrom a (.ref b) ((tK prog w).hash (iK ns)) true fuel (some (it t.mask (nn+1) (it t.mask n (st t.mask ((tK prog w).hash (iK ns))))))) Q E s:=by
    rw[he];dsimp only;refine Ka (LB ((tK prog w).eqBool hu his hk ?_));refine Ka (Ly ho hd (Tbl.fits T hs) ?_);dsimp only;by_cases hkk:iK ms=iK ns
    .rw[Kl hkk];simp only[NT,Mp];exact Ke (h1 ⟨_,rG he,c,rfl,by rw[<- hkk];exact his⟩)
    .rw[Kp hkk];simp only[ND,Ks,Lh];have hsm:t.sameMemory t.moves t.mask=some true:=by unfold SetTable.sameMemory;simp
     rw[hsm];dsimp only;rw[Kf rfl,<- hij,mJ T.tb hi];dsimp only;rw[he];dsimp only;refine Ka (wpAny_isSame_ref_self ?_);refine Ka (Ke ?_);rw[Kf rfl]
     try dsimp only
     refine mL ho hd T hs hu hk el h1 h2 fuel (n+(nn+1)) _ ?_ ?_ ⟨N,?_,?_,x3⟩
     .exact(cJ t.mask n (nn+1) _).symm
     .intro k hk';by_cases hkn:k<n+nn
      .exact pre hb k hkn
      .have:k=n+nn:=by lia
       subst this;refine⟨i,_,hi,by rw[hij,cJ],he,fun c' hc' hh=>hkk ?_⟩;have:c=c':=by injection hc'
       subst this;exact(tK prog w).inj his hh
     .refine Lx fun hc=>?_;have hN:N<n+(nn+1):=by lia
      by_cases hNn:N<n+nn
      .obtain⟨i',e',hi',q1,_⟩:=pre hb N hNn;exact x3 (by rw[<- q1];simp)
      .have:N=n+nn:=by lia
       subst this;exact x3 (by rw[cJ,<- hij];simp)
     .lia
   split
   .refine Ka (DR hk ?_ ?_)
    .intro y hy;obtain⟨e',he',rfl⟩:=Kq.mp hy;have he2:e'∈es.toList:=by have:=(Array.mem_toList_iff).mp he';rw[Array.mem_filter]at this;exact Array.mem_toList_iff.mpr this.1
     obtain⟨ms',c',rfl,his'⟩:=el e' he2;exact⟨ms',c',rfl,his'⟩
    .simp only[Ks,Lh];exact aF
   .exact aF
end
noncomputable def byT (w:World):Bool:=w.params.followText "set-order"
def SetAt (w:World)(h:Heap)(a:Addr)(es:Array (Int×Ow)):Prop:=∃ o ep t,h.get? a=some o/\o.ExactSet/\o.data=.set es ep t/\Tbl t es/\gy t/\t.plain=true/\t.led=!byT w
theorem SetAt.keep (x:SetAt w h a es)(k:∀ o,h.get? a=some o->h'.get? a=some o):SetAt w h' a es:=let ⟨o,ep,t,e,r⟩:=x;⟨o,ep,t,k o e,r⟩
theorem c6 (h:gy t):t.place.size<=t.mask:=by unfold gy at h;lia
section
variable {prog:Ov}{w:World}{A:Ox}{E:Ow->Ot->Prop}{s:Ot}
structure Grown (es es':Array (Int×Ow)) (x:Int×Ow):Prop where
 mem:∀ y,y∈es'.toList↔y=x\/y∈es.toList
 pw:∀ R:Int×Ow->Int×Ow->Prop,(∀ x y,R x y->R y x)->es.toList.Pairwise R->(∀ e∈es.toList,R e x)->es'.toList.Pairwise R
 size:es'.size=es.size+1
theorem mM (es:Array (Int×Ow))(p:Nat)(x:Int×Ow)(hp:p<=es.size):Grown es (SetTable.insertAt es p x) x:=by
 have e:=ST.insertAt_toList es p x hp;refine⟨fun y=>?_,fun R sy pw hx=>?_,ST.insertAt_size es p x hp⟩
 .rw[e,Ku,Kj];constructor
  .rintro (z|rfl|z)
   .exact .inr (Lk z)
   .exact .inl rfl
   .exact .inr (Lr z)
  .rintro (rfl|z)
   .exact .inr (.inl rfl)
   .rw[<- KL p es.toList,Ku]at z;exact z.elim .inl fun z=>.inr (.inr z)
 .rw[e,Ls];rw[<- KL p es.toList,Ls]at pw;obtain⟨p1,p2,p3⟩:=pw;refine⟨p1,?_,?_⟩
  .rw[KS];exact⟨fun y hy=>sy _ _ (hx y (Lr hy)),p2⟩
  .intro y hy z hz;rcases Kj.mp hz with rfl|hz
   .exact hx y (Lk hy)
   .exact p3 y hy z hz
theorem Grown.laid (g:Grown es es1 x)(l:Laid m es1 es2 t):Grown es es2 x:=⟨fun y=>(l.mem y).trans (g.mem y),fun R sy pw hx=>l.pw R sy (g.pw R sy pw hx),by rw[l.size,g.size]⟩
theorem ga {ep:Nat}{t:SetTable}(es':Array (Int×Ow))(t':SetTable){h:Heap}(ho:h.get? a=some o)(hex:o.ExactSet)(hd:o.data=.set es ep t) :
 ∃ o',(h.update a (Obj.putSet es' t')).get? a=some o'/\o'.ExactSet/\o'.data=.set es' (ep+1) t':=by
 have:=LV (Obj.putSet es' t') ho (by rw[putSet_of es' t' hd];rfl);rw[putSet_of es' t' hd]at this;exact⟨_,this,hex,rfl⟩
theorem ku {t:SetTable}(h:Msk t.mask)(h1:n*5<t.mask*3)(h2:(n+1)*5>=t.mask*3)(h3:n+1<=300):∃ m,SetTable.sizeAbove (SetTable.grown (n+1))=m+1/\Msk m/\(n+1)*5<m*3:=by
 rcases h with e|e|e|e<;>rw[e]at h1 h2
 .have:n=4:=by lia
  subst this;exact⟨31,by decide,.inr (.inl rfl),by lia⟩
 .have:n=18:=by lia
  subst this;exact⟨127,by decide,.inr (.inr (.inl rfl)),by lia⟩
 .have:n=76:=by lia
  subst this;exact⟨511,by decide,.inr (.inr (.inr rfl)),by lia⟩
 .lia
theorem xh {a:Addr}{o:Obj}{es:Array (Int×Ow)}{Q:Unit->Ot->Prop}(ho:s.heap.get? a=some o)(hex:o.ExactSet)(hd:o.data=.set es ep t)(hf:t.fits es.size=true)(hm:Msk m)(hn:SetTable.sizeAbove n=m+1)(hl:es.size*5<m*3)(hpl:t.plain=true)(hle:t.led=!byT w)
 (h:∀ es' t',Laid m es es' t'->SetAt w (s.heap.update a (Obj.putSet es' t')) a es'->Q () { s with heap:=s.heap.update a (Obj.putSet es' t') }):wpAny (model prog w) A (setRelay a n) Q E s:=by
 have hmb:m<=511:=by rcases hm with rfl|rfl|rfl|rfl<;>lia
 unfold setRelay;refine Ka (Ly ho hd hf ?_);dsimp only;rw[Kh (by rw[hn,K9];lia)];obtain⟨t',order,e,L,hlp,hp⟩:=AB hm es (by lia) t.finger (t.movedTo m) t.led t.plain;have er:t.relaid (es.map (·.1)) n=some (t',order):=by unfold SetTable.relaid;rw[hn];exact e
 rw[er];show wpAny _ _ (do
  let r <- (do
   if (order.filterMap (es[·]?)).size != es.size then unsupported "internal:set-table-lost-an-element"
   pure (order.filterMap (es[·]?),t'):Sem (Array (Int×Ow)×SetTable))
  storeSet a r.1 r.2) _ _ _
 refine Ka ?_;rw[Kh (by rw[L.size];simp)];refine Ke ?_;refine NC ho hd ?_ (by show(order.filterMap (es[·]?)).size<=_;rw[L.size,K9];lia);obtain⟨o',g1,g2,g3⟩:=ga (order.filterMap (es[·]?)) t' ho hex hd;refine h _ t' L ⟨o',_,t',g1,g2,g3,L.tbl,?_,by rw[hp];exact hpl,by rw[hlp];exact hle⟩;unfold gy;rw[L.tbl.len,L.size,L.mask];exact hl
theorem xi (T:Tbl t es)(hs:t.place.size<=t.mask)(h:Int):∃ N,N<100000/\(it t.mask N (st t.mask h)).j∉t.place.toList:=by
 obtain⟨j,hj,hn⟩:=ko T.tb hs;obtain⟨N,h1,h2⟩:=Cs T.tb.msk hj (Va.st t.mask h);refine⟨N,?_,by rw[h2];exact hn⟩;have:t.mask<=511:=by rcases T.tb.msk with e|e|e|e<;>rw[e]<;>lia
 unfold SetTable.turns at h1;lia
theorem DS (hu:A.units<cLine)(hk:(tK prog w).is s.heap (iK ns) b)(hS:SetAt w s.heap a es)(el:Ja prog w s.heap es)(hz:es.size+1<=300)
 (h1:∀ tk,s.toks<=tk->(∃ e∈es.toList,∃ c,e.2=.ref c/\(tK prog w).is s.heap (iK ns) c)->Q false { s with toks:=tk })
 (h2:∀ tk h' es',s.toks<=tk->(∀ e∈es.toList,∀ c,e.2=.ref c->¬ (tK prog w).is s.heap (iK ns) c)->Heap.SameBut a s.heap h'->SetAt w h' a es'->Grown es es' ((tK prog w).hash (iK ns),.ref b)->Q true { s with heap:=h',toks:=tk }) :
 wpAny (model prog w) A (setAdd a (.ref b)) Q E s:=by
 obtain⟨o,ep,t,ho,hex,hd,T,sp,hpl,hle⟩:=hS;have hf:=Tbl.fits T (c6 sp);unfold setAdd;refine LB ?_;refine Ka ((tK prog w).pyHash hu hk ?_);have htk:s.toks<=s.toks+(tK prog w).draws (iK ns):=Nc _ _;generalize s.toks+(tK prog w).draws (iK ns)=tk at htk;unfold setAddHashed setAddHashedIn;refine LB ?_;refine Ka (Ly (s:={ s with toks:=tk }) ho hd hf ?_);dsimp only;have hbs:byScan (.ref b) es=false:=by simp[byScan,Value.scannable]
 rw[hbs];simp only[Ks,Lh];unfold setSearch;obtain⟨N,n1,n2⟩:=xi T (c6 sp) ((tK prog w).hash (iK ns));refine Ka (mL (s:={ s with toks:=tk }) ho hd T (c6 sp) hu hk el (fun hin=>?_) (fun hout j hj hjm hr=>?_) 100000 0 none rfl (fun k hk'=>by lia) ⟨N,KU _,by lia,n2⟩)
 .exact Ke (h1 tk htk hin)
 .dsimp only;refine Ka (Ly (s:={ s with toks:=tk }) ho hd hf ?_);dsimp only;obtain⟨T',em,ez⟩:=rF T hj hjm (v:=Value.ref b) hr;have hpl':(t.put j).1.plain=true:=by rw[gS T.tb];exact hpl
  have hle':(t.put j).1.led=!byT w:=by rw[gS T.tb];exact hle
  rw[hpl'];simp only[Mp];refine Ka (DQ (s:={ s with toks:=tk }) hk ?_);simp only[Mp];have hp:(t.put j).2<=es.size:=by rw[jO,<- T.len];exact(bZ j T.tb.ris).1
  have g:=mM es (t.put j).2 ((tK prog w).hash (iK ns),Value.ref b) hp;refine Ka (NC (s:={ s with toks:=tk }) ho hd ?_ (by rw[g.size,K9];lia));obtain⟨o1,q1,q2,q3⟩:=ga (SetTable.insertAt es (t.put j).2 ((tK prog w).hash (iK ns),Value.ref b)) (t.put j).1 ho hex hd;have sb:=Le s.heap a (Obj.putSet (SetTable.insertAt es (t.put j).2 ((tK prog w).hash (iK ns),Value.ref b)) (t.put j).1);have fill:(t.put j).1.fill=es.size+1:=by unfold SetTable.fill;rw[T'.tb.dum,ez,T.len];rfl
  by_cases hfull:(t.put j).1.tooFull=true
  .rw[hfull];simp only[Bool.not_false,NT,Mp];unfold SetTable.tooFull at hfull;rw[fill,em]at hfull;have hfull:(es.size+1)*5>=t.mask*3:=by simpa using hfull
   have sp':es.size*5<t.mask*3:=by rw[<- T.len];exact sp
   obtain⟨m,m1,m2,m3⟩:=ku T.tb.msk sp' hfull hz;have le':(t.put j).1.place.size<=(t.put j).1.mask:=by
    rw[ez,em];unfold gy at sp;have:t.mask>=7:=by rcases T.tb.msk with e|e|e|e<;>rw[e]<;>lia
    lia
   refine Ka (xh (s:={ s with heap:=s.heap.update a (Obj.putSet (SetTable.insertAt es (t.put j).2 ((tK prog w).hash (iK ns),Value.ref b)) (t.put j).1),toks:=tk }) q1 q2 q3 (Tbl.fits T' le') m2 m1 (by rw[g.size];exact m3) hpl' hle' fun es' t' L sa=>?_);exact Ke (h2 tk _ es' htk hout (sb.trans (Le _ a _)) sa (g.laid L))
  .have hfull:(t.put j).1.tooFull=false:=by simpa using hfull
   rw[hfull];simp only[ND,Ks,Lh];refine Ke (h2 tk _ _ htk hout sb ⟨o1,_,_,q1,q2,q3,T',?_,hpl',hle'⟩ g);unfold SetTable.tooFull at hfull;unfold gy;rw[fill]at hfull;rw[ez,T.len];simpa using hfull
end
noncomputable abbrev TItem:=List Int×Addr
theorem rH (h:iK a=iK b):a=b:=by
 induction a generalizing b with
 |nil=>cases b with
  |nil=>rfl
  |cons _ _=>cases h
 |cons x a ih=>cases b with
  |nil=>cases h
  |cons y b=>simp only[iK,Kx,Nn]at h;rw[Ng h.1,ih h.2]
section
variable {prog:Ov}{w:World}
structure SInv (prog:Ov) (w:World) (es:Array (Int×Ow)) (xs:List TItem):Prop where
 el:∀ e∈es.toList,∃ x∈xs,e=((tK prog w).hash (iK x.1),Value.ref x.2)
 sz:es.size<=xs.length
 pw:es.toList.Pairwise fun e e'=>∀ x x':TItem,e=((tK prog w).hash (iK x.1),Value.ref x.2)->e'=((tK prog w).hash (iK x'.1),Value.ref x'.2)->x∈xs->x'∈xs->x.1≠x'.1
 all:∀ x∈xs,∃ y∈xs,y.1=x.1/\((tK prog w).hash (iK y.1),Value.ref y.2)∈es.toList
variable {A:Ox}{R:Result->Ot->Prop}{I:Addr}{fp wr:List Addr}{G:Array GenState->Array GenState->Prop}{n:Nat}{P:Nat->Ow->Prop}{St:Nat->Ot->Prop}
theorem SInv.els (v:SInv prog w es xs)(hx:∀ x∈xs,(tK prog w).is hb (iK x.1) x.2)(K:∀ b o,hb.get? b=some o->h.get? b=some o):Ja prog w h es:=fun e he=>by obtain⟨x,h1,rfl⟩:=v.el e he;exact⟨x.1,x.2,rfl,d_ (hx x h1) K⟩
def Il (xs:List TItem):Prop:=∀ x∈xs,∀ y∈xs,x.2=y.2->x.1=y.1
theorem SInv.seen (v:SInv prog w es xs)(hin:∃ y∈xs,y.1=x.1)(un:Il (xs++[x])):SInv prog w es (xs++[x]):=by
 refine⟨fun e he=>?_,?_,?_,fun y hy=>?_⟩
 .obtain⟨z,h1,h2⟩:=v.el e he;exact⟨z,KP _ h1,h2⟩
 .have:=v.sz;simp;lia
 .refine LD (fun{a b} ha hb hab z z' e1 e2 m1 m2=>?_) v.pw;obtain⟨y,y1,y2⟩:=v.el a ha;obtain⟨y',y1',y2'⟩:=v.el b hb;have q1:z.2=y.2:=by rw[e1]at y2;simp only[MY,My]at y2;exact y2.2
  have q2:z'.2=y'.2:=by rw[e2]at y2';simp only[MY,My]at y2';exact y2'.2
  rw[un z m1 y (KP _ y1) q1,un z' m2 y' (KP _ y1') q2];exact hab y y' y2 y2' y1 y1'
 .rcases Ku.mp hy with hy|hy
  .obtain⟨z,h1,h2⟩:=v.all y hy;exact⟨z,KP _ h1,h2⟩
  .rw[KO]at hy;subst hy;obtain⟨y',h1,h2⟩:=hin;obtain⟨z,g1,g2,g3⟩:=v.all y' h1;exact⟨z,KP _ g1,g2.trans h2,g3⟩
theorem SInv.new (v:SInv prog w es xs)(hin:¬ ∃ y∈xs,y.1=x.1)(un:Il (xs++[x]))(g:Grown es es' ((tK prog w).hash (iK x.1),.ref x.2)):SInv prog w es' (xs++[x]):=by
 have hx:x∈xs++[x]:=K1 _ (KO.mpr rfl);refine⟨fun e he=>?_,?_,?_,fun y hy=>?_⟩
 .rcases (g.mem e).mp he with rfl|he
  .exact⟨x,hx,rfl⟩
  .obtain⟨z,h1,h2⟩:=v.el e he;exact⟨z,KP _ h1,h2⟩
 .have:=v.sz;rw[g.size];simp;lia
 .refine g.pw _ (fun a b hab z z' e1 e2 m1 m2 h=>hab z' z e2 e1 m2 m1 h.symm) ?_ ?_
  .refine LD (fun{a b} ha hb hab z z' e1 e2 m1 m2=>?_) v.pw;obtain⟨y,y1,y2⟩:=v.el a ha;obtain⟨y',y1',y2'⟩:=v.el b hb;have q1:z.2=y.2:=by rw[e1]at y2;simp only[MY,My]at y2;exact y2.2
   have q2:z'.2=y'.2:=by rw[e2]at y2';simp only[MY,My]at y2';exact y2'.2
   rw[un z m1 y (KP _ y1) q1,un z' m2 y' (KP _ y1') q2];exact hab y y' y2 y2' y1 y1'
  .intro e he z z' e1 e2 m1 m2 h;obtain⟨y,y1,y2⟩:=v.el e he;have q1:z.2=y.2:=by rw[e1]at y2;simp only[MY,My]at y2;exact y2.2
   have q2:z'.2=x.2:=by simp only[MY,My]at e2;exact e2.2.symm
   have a1:=un z m1 y (KP _ y1) q1;have a2:=un z' m2 x hx q2;exact hin ⟨y,y1,by rw[<- a1,<- a2];exact h⟩
 .rcases Ku.mp hy with hy|hy
  .obtain⟨z,h1,h2,h3⟩:=v.all y hy;exact⟨z,KP _ h1,h2,(g.mem _).mpr (.inr h3)⟩
  .rw[KO]at hy;subst hy;exact⟨y,hx,rfl,(g.mem _).mpr (.inl rfl)⟩
theorem gU (W:WalksS prog w A.in1 I fp wr G n P St)(S:Addr)(hSf:S∉fp)(hu:A.in1.units<cLine)(hb:Heap)(hbS:hb.get? S=none)(hbw:∀ b∈wr,hb.get? b=none)(its:List TItem)(hn:its.length=n)
 (hval:∀ i v,P i v->∃ x,its[i]?=some x/\v=.ref x.2) (his:∀ x∈its,(tK prog w).is hb (iK x.1) x.2) (hz:n<=300) :
 ∀(k i:Nat)(s:Ot)(es:Array (Int×Ow)),n-i=k->i<=n->St i s->(∀ b o,hb.get? b=some o->s.heap.get? b=some o)->SetAt w s.heap S es->SInv prog w es (its.take i)->
  (∀ s' es',Moved (S::wr) G s s'->SetAt w s'.heap S es'->SInv prog w es' its->R (.ok (.ret .none)) s')->
  codeAny (model prog w) A (.builtin "set.update.loop" ⟨[.ref S,.ref I],[]⟩) R s:=by
 have hSw:S∉wr:=fun h=>hSf (W.sub _ h);have hsub:∀ b∈wr,b∈S::wr:=fun b hb=>Ky _ hb;have uni:Il its:=fun x hx y hy e=>rH ((tK prog w).inj (his x hx) (by rw[e];exact his y hy));intro k;induction k with
 |zero=>
  intro i s es hk hi hst K hS v hR;have hin:i=n:=by lia
  subst hin;refine LP LQ ?_;rw[Me KY _];show wpAny _ A.in1 (pyNext (.ref I) >>= _) _ _ s;refine Ka (W.done s _ _ hst fun s' hm=>?_);have v':SInv prog w es its:=by rw[Lg (by lia)]at v;exact v
  have hR':=hR s' es (hm.mono hsub) (hS.keep fun o e=>hm.heap S o hSw e) v';show wpAny _ A.in1 (ret Value.none) _ _ s';exact Ke hR'
 |succ k ih=>
  intro i s es hk hi hst K hS v hR;have hlt:i<n:=by lia
  have htk:its.take (i+1)=its.take i++[its[i]'(by lia)]:=by rw[List.take_append_getElem]
  refine LP LQ ?_;rw[Me KY _];show wpAny _ A.in1 (pyNext (.ref I) >>= _) _ _ s;refine Ka (W.item i s _ _ hlt hst fun u s' hP hst' hm=>?_);obtain⟨x,hx,rfl⟩:=hval i u hP;have hxe:its[i]'(by lia)=x:=by rw[Li (by lia)]at hx;exact K4 hx
  have hxm:x∈its:=LM hx;rw[hxe]at htk;have sub:∀ y∈its.take i++[x],y∈its:=by rw[<- htk];exact fun y hy=>Lk hy
  have un:Il (its.take i++[x]):=fun y hy z hz=>uni y (sub y hy) z (sub z hz);have K':∀ b o,hb.get? b=some o->s'.heap.get? b=some o:=fun b o e=>hm.heap b o (fun z=>by rw[hbw b z]at e;cases e) (K b o e);have hS':=hS.keep fun o e=>hm.heap S o hSw e;have hx':∀ y∈its.take i,(tK prog w).is hb (iK y.1) y.2:=fun y hy=>his y (Lk hy);have el:=v.els hx' K';have hes:es.size+1<=300:=by have:=v.sz;rw[K7]at this;lia
  show wpAny _ A.in1 (holding [Value.ref x.2] (setAdd S (.ref x.2)) >>= _) _ _ s';refine Ka (LB ?_);have keyed:∀ e∈es.toList,∀ c,e.2=.ref c->(tK prog w).is s'.heap (iK x.1) c->∃ y∈its.take i,y.1=x.1:=fun e he c hc hh=>by
   obtain⟨y,y1,y2⟩:=v.el e he;have:c=y.2:=by rw[y2]at hc;injection hc with hc;exact hc.symm
   subst this;exact⟨y,y1,rH ((tK prog w).inj (d_ (hx' y y1) K') hh)⟩
  refine DS hu (d_ (his x hxm) K') hS' el hes (fun tk htk' hin=>?_) fun tk h' es' htk' hout hsb hSn g=>?_
  .obtain⟨e,he,c,hc,hh⟩:=hin;refine Ke ⟨Np KY _,ih (i+1) _ es (by lia) hlt (W.frame _ s' _ _ hst' htk' fun b hb o e=>e) K' hS' (by rw[htk];exact v.seen (keyed e he c hc hh) un) fun s'' es'' hm'' hS'' v''=>?_⟩;exact hR s'' es'' (Moved.trans W.gtrans ((hm.mono hsub).then_heap htk' fun b o hb e=>e) hm'') hS'' v''
  .have hnin:¬ ∃ y∈its.take i,y.1=x.1:=by rintro⟨y,y1,y2⟩;obtain⟨z,z1,z2,z3⟩:=v.all y y1;exact hout _ z3 z.2 rfl (by rw[<- y2,<- z2];exact d_ (hx' z z1) K')
   have K2:∀ b o,hb.get? b=some o->h'.get? b=some o:=fun b o e=>(hsb.2 b (fun z=>by subst z;rw[hbS]at e;cases e)).trans (K' b o e);refine Ke ⟨Np KY _,ih (i+1) _ es' (by lia) hlt (W.frame _ s' _ _ hst' htk' fun b hb o e=>?_) K2 hSn (by rw[htk];exact v.new hnin un g) fun s'' es'' hm'' hS'' v''=>?_⟩
   .rw[hsb.2 b (fun h:b=S=>hSf (by rw[<- h];exact hb))];exact e
   .refine hR s'' es'' (Moved.trans W.gtrans ((hm.mono hsub).then_heap htk' fun b o hb e=>?_) hm'') hS'' v'';rw[hsb.2 b (fun h:b=S=>hb (by rw[h];exact KD))];exact e
end
noncomputable abbrev setNew (led:Bool):Obj:={ cls:=.type "set",dict:=none,data:=.set #[] 0 (.fresh 0 0 led) }
theorem mO (e:h.get? a=some (setNew (!byT w))):SetAt w h a #[]:=by refine⟨_,0,_,e,⟨rfl,rfl,rfl⟩,rfl,⟨⟨.inl rfl,rfl,List.Pairwise.nil,fun j hj=>nomatch hj⟩,rfl,fun q hq=>nomatch hq⟩,?_,rfl,rfl⟩;show 0*5<7*3;decide
section
variable {prog:Ov}{w:World}{A:Ox}{E:Ow->Ot->Prop}{s:Ot}
theorem gz (a:Ow)(h:Q₁ (.ref s.heap.objs.size) { s with heap:=s.heap.push (setNew (!byT w)) }) :
 codeAny (model prog w) A (.call (.builtin "set.__new__") ⟨[.type "set",a],[]⟩) (wants Q₁ E) s:=by
 refine codeAny_of_tree (show wpAny _ A.in1 (do checkBuiltinCall "set.__new__" ⟨[.type "set",a],[]⟩;again (.builtin "set.__new__" ⟨[.type "set",a],[]⟩)) _ _ s from ?_);refine Ka (wpAny_of_eq (PySem.F.newCall_set_1 a) (Ke ⟨Np PySem.F.plain_set_new _,LP PySem.F.entry_set_new ?_⟩));rw[Me PySem.F.plain_set_new _];unfold Builtin.«set.__new__» Builtin.Frozenset.newClass;have hsub:=sub_set_self;obtain⟨hp,g,d,tk,os⟩:=s;dsimp only;wp_walk;refine wpAny_askSetting (Ke ?_);dsimp only;simp only[newObj];refine Ka (wpAny_alloc (Ke ?_));exact Ke h
theorem vd (hh:A.handled=none) (hu:A.units+64<cLine) (hl:s.heap.get? l=some { cls:=.type "list",data:=.seq items nl }) (hn:its.length=items.size) (hz:items.size<=300)
 (hval:∀(i:Nat)(v:Ow),items[i]?=some v->∃ x:TItem,its[i]?=some x/\v=.ref x.2) (his:∀ x∈its,(tK prog w).is s.heap (iK x.1) x.2)
 (h:∀(h':Heap)(tk:Nat)(es:Array (Int×Ow)),SetAt w h' s.heap.objs.size es->SInv prog w es its->(∀ b o,b<s.heap.objs.size->s.heap.get? b=some o->h'.get? b=some o)->Q (.ref s.heap.objs.size) { s with heap:=h',toks:=tk }) :
 wpAny (model prog w) A (call (.type "set") [.ref l]) Q E s:=by
 obtain⟨c,tl,hmro⟩:=K5.mro;have hmade:=K5.made;have hsub:=K5.sub;refine wpAny_call (codeAny_of_tree ?_);show wpAny _ _ (callAny (.type "set") _) _ _ _;refine Ke ⟨Nq _ (by decide +kernel),LP PySem.F.entry_type_call ?_⟩;rw[Around.under_plain (weight_type_call_type "set" [.ref l] []) rfl];have h1:=K5.notType;have h2:=K5.canCreate;have hct:=PySem.F.typeCall_set_1 (.ref l)
 repeat (any_goals (first|assumption|wp_step))
 refine MV (gz (.ref l) (E:=E) (Q₁:=fun obj s₁=>obj=.ref s.heap.objs.size/\s₁={ s with heap:=s.heap.push (setNew (!byT w)) }) ⟨rfl,rfl⟩) fun r s₁ hr=>?_;rcases r with e|fl
 .exact hr
 cases fl with
 |ret obj=>
  obtain⟨rfl,rfl⟩:=hr;have hS:(s.heap.push (setNew (!byT w))).get? s.heap.objs.size=some (setNew (!byT w)):=Kr _ rfl;have hT:Shared.TypeIs { s with heap:=s.heap.push (setNew (!byT w)) } (.ref s.heap.objs.size) "set":=⟨_,hS,rfl⟩;have hli:=K5.init.lookup;have hbi:=K5.init.bind (.ref s.heap.objs.size)
  repeat (any_goals (first|assumption|wp_step))
  refine MV (codeAny_call_builtin (R:=wants (fun r s₂=>r=.none/\∃ h' tk es,s₂={ s with heap:=h',toks:=tk }/\SetAt w h' s.heap.objs.size es/\SInv prog w es its/\
   (∀ b o,b<s.heap.objs.size->s.heap.get? b=some o->h'.get? b=some o)) E) K5.init.plain PySem.F.entry_set_init (check_set_init_1 hT ?_)) fun r₂ s₂ hr₂=>?_
  .have hol':(s.heap.push (setNew (!byT w))).get? l=some { cls:=.type "list",data:=.seq items nl }:=Kb _ hl;have hsls:=PySem.F.sub_list_set;have hslf:=PySem.F.sub_list_frozenset;have hne:(Value.type "list"==Value.type "dict")=false:=by decide
   have hl1:(s.heap.push (setNew (!byT w))).IsList l items:=⟨_,hol',rfl,nl,rfl⟩;unfold Builtin.«set.__init__» noKeywords Builtin.Frozenset.updateFrom;generalize hPI:pyIter=PI
   wp_walk
   subst hPI;refine LW hl1 (Ka (Oa ?_));have hlS:l<s.heap.objs.size:=Kt hl;have hh3:A.in1.in1.in1.handled=none:=by simp[hh]
   have hneI:l≠(s.heap.push (setNew (!byT w))).objs.size:=by rw[LR];exact KJ (Mz hlS)
   have hno:∀ b,s.heap.objs.size<=b->s.heap.get? b=none:=fun b hb=>by
    cases q:s.heap.get? b with
    |none=>rfl
    |some o=>exact absurd (Kt q) (Os.mpr hb)
   refine gU ((Walks.list hh3 _ l hneI items).toS) s.heap.objs.size ?hSf (by show A.units+1+1+1<cLine;lia) s.heap (hno _ (Km _)) ?hbw its hn hval his hz (items.size-0) 0 _ #[] rfl (KU _) ⟨⟨_,Kr _ rfl,rfl,rfl⟩,(hl1.push _)⟩
    (fun b o e=>Kb _ (Kb _ e)) (mO (Kb _ hS)) ⟨fun e he=>(nomatch he),KU _,List.Pairwise.nil,fun x hx=>(nomatch hx)⟩ ?hR
   case hSf=>rw[LR];simp only[Kj,Lc,MZ,not_or];exact⟨KJ (NL _),Ml hlS⟩
   case hbw=>intro b hb;simp only[Kj,Lc,MZ]at hb;subst hb;exact hno _ (by rw[LR];lia)
   case hR=>intro s' es hm hS' v;obtain⟨h',g',d',tk',os'⟩:=s';have eg:g'=s.gens:=hm.gens;have ed:d'=s.drawn:=hm.drawn;have eo:os'=s.os:=hm.os;subst eg ed eo;refine Ke (Ke ⟨rfl,h',tk',es,rfl,hS',v,fun b o hb e=>hm.heap b o ?_ (Kb _ (Kb _ e))⟩);simp only[Kj,Lc,MZ,not_or];exact⟨KJ hb,by rw[LR];exact KJ (Mz hb)⟩
  .rcases r₂ with e|fl₂
   .exact hr₂
   cases fl₂ with
   |ret r=>
    obtain⟨rfl,h',tk,es,rfl,hS',v,hk'⟩:=hr₂
    repeat (any_goals (first|assumption|wp_step))
    exact h _ _ _ hS' v hk'
   |_=>exact hr₂.elim
 |_=>exact hr.elim
end
theorem ky {α:Type}:∀(l:List α)(i:Nat)(h:i<l.length),(l[i]::l.eraseIdx i).Perm l
 | [],i,h=>by simp at h
 |x::l,0,h=>Ob _
 |x::l,i+1,h=>by have ih:=ky l i (by simpa using h);have e:(x::l).eraseIdx (i+1)=x::l.eraseIdx i:=rfl;rw[e,List.getElem_cons_succ];exact(List.Perm.swap _ _ _).trans (List.Perm.cons x ih)
theorem tu {α:Type}(next:Nat->Nat):∀(fuel k:Nat)(left:List α)(out:Array α),left.length=fuel->(pickOrder.go next fuel k left out).toList.Perm (out.toList++left)
 |0,k,left,out,h=>by have:left=[]:=Nr.mp h;subst this;unfold pickOrder.go;simp
 |f+1,k,left,out,h=>by have hi:next k % left.length<left.length:=Nat.mod_lt _ (by lia);unfold pickOrder.go;rw[Li hi];dsimp only;have ih:=tu next f (k+1) (left.eraseIdx (next k % left.length)) (out.push left[next k % left.length]) (by rw[List.length_eraseIdx,Kf hi];lia);refine ih.trans ?_;rw[MA,Ko];exact List.Perm.append_left _ (ky left _ hi)
theorem ve {α:Type}(next:Nat->Nat)(xs:Array α):(pickOrder next xs).toList.Perm xs.toList:=by have:=tu next xs.size 0 xs.toList #[] (by simp);unfold pickOrder;simpa using this
noncomputable def ef (w:World)(S:Addr)(ep:Nat)(es:Array (Int×Ow)):Array (Int×Ow):=if byT w then pickOrder (w.params.setOrder S ep) es else es
theorem kz (w:World)(S:Addr)(ep:Nat)(es:Array (Int×Ow)):(ef w S ep es).toList.Perm es.toList:=by
 unfold ef;split
 .exact ve _ _
 .exact Ob _
theorem fE (w:World)(S:Addr)(ep:Nat)(es:Array (Int×Ow)):(ef w S ep es).size=es.size:=by have:=(kz w S ep es).length_eq;simpa using this
noncomputable def b0 (w:World)(t:SetTable):Nat->Nat
 |0=>0
 |i+1=>if byT w then 0 else t.place.getD i 0+1
theorem rJ (T:Tb t):∀(i:Nat),i<=t.place.size->SetTable.below t.place (match i with|0=>0|i+1=>t.place.getD i 0+1)=i
 |0,_=>by
  obtain⟨a,b,c⟩:=bZ 0 T.ris;dsimp only;rcases Nat.eq_zero_or_pos (SetTable.below t.place 0) with h|h
  .exact h
  .have:=b 0 (by lia) h;lia
 |i+1,hi=>by
  dsimp only;have e:t.place.getD i 0=t.place[i]:=by simp[Array.getD,show i<t.place.size by lia]
  rw[e];obtain⟨a,b,c⟩:=bZ (t.place[i]+1) T.ris;rcases NB (SetTable.below t.place (t.place[i]+1)) (i+1) with q|q|q
  .have h1:=c i (by lia) (by lia);lia
  .exact q
  .have h1:=b (i+1) (by lia) q;have h2:=KW.mp T.ris i (i+1) (by simp;lia) (by simp;lia) (by lia);simp at h2;lia
theorem slot_setiter_next:Slot "set_iterator" "__next__" "set_iterator.__next__":=.of (owner:="set_iterator") (n:="__next__") (by rw[typeLookup_type,builtinLookup_eq_fast];kernel_rfl) (by decide +kernel) (by decide +kernel) (by decide +kernel) (by first|exact .inl (by decide +kernel)|exact .inr (by decide +kernel)) (by rw[isSubtype_type];kernel_rfl)
theorem c7:entryFor table "set_iterator.__next__"=some Builtin.«set_iterator.__next__»:=entryFor_of_fast (by kernel_rfl)
theorem dw (a:Ow):argsOk "set_iterator.__next__" ⟨[a],[]⟩:=by (unfold argsOk;kernel_rfl)
theorem l0:entryFor table "set.__iter__"=some Builtin.«frozenset.__iter__»:=entryFor_alias (id':="frozenset.__iter__") (by kernel_rfl) rfl (by decide +kernel) (by kernel_rfl)
def SetIt (h:Heap) (it S:Addr) (slot i n ep:Nat):Prop:=∃ o,h.get? it=some o/\o.cls=.type "set_iterator"/\o.data=.fields #[.int slot 0,.int i 0,.ref S,.int n 0,.int ep 0]
theorem SetIt.typeIs {s:Ot} {it S:Addr} {slot i n ep:Nat} (x:SetIt s.heap it S slot i n ep):s.TypeIs (.ref it) "set_iterator":=let ⟨o,ho,hc,_⟩:=x;⟨o,ho,hc⟩
def iP (h:Heap)(S:Addr)(es:Array (Int×Ow))(ep:Nat)(t:SetTable):Prop:=∃ o,h.get? S=some o/\o.ExactSet/\o.data=.set es ep t
section
variable {prog:Ov}{w:World}{A:Ox}{E:Ow->Ot->Prop}{s:Ot}
theorem rK (h:Q (byT w) s):wpAny (model prog w) A setsByText Q E s:=by unfold setsByText;exact Ka (wpAny_askSetting (Ke h))
theorem kA (r:iP s.heap S es ep t)(T:Tbl t es)(hs:t.place.size<=t.mask)(hpl:t.plain=true)(hle:t.led=!byT w)(hi:i<=es.size)
 (h:Q (((ef w S ep es)[i]?).map fun e=>(e.2,b0 w t (i+1))) s):wpAny (model prog w) A (setNext S (b0 w t i) i ep) Q E s:=by
 obtain⟨o,ho,hex,hd⟩:=r;have hf:=Tbl.fits T hs;unfold setNext;refine Ka (Ly ho hd hf ?_);dsimp only;refine Ka (rK ?_);cases hb:byT w with
 |true=>
  simp only[Mp];rw[Kh (by simp)];refine Ka ?_;unfold setWalk;refine Ka (Ly ho hd hf ?_);dsimp only;refine Ka (rK ?_);rw[hb];simp only[Mp];refine Ka (wpAny_askSetting (Ke ?_));have e1:b0 w t (i+1)=0:=by unfold b0;rw[hb];rfl
  have e2:b0 w t i=0:=by cases i with|zero=>rfl|succ i=>(unfold b0;rw[hb];rfl)
  rw[e2];rw[e1]at h;unfold ef at h;rw[hb]at h;exact Ke h
 |false=>
  simp only[Ks,Lh];rw[hb]at hle;have hle:t.led=true:=hle;show wpAny _ _ (if (!t.plain&&decide (es.size>1))=true then _ else _) _ _ _;rw[hpl];simp only[Lu,MO,Ks,Lh];show wpAny _ _ ((if (!t.led&&!es.isEmpty)=true then unsupported "set:maker-not-led" else pure ()) >>= fun _=>_) _ _ _;rw[hle];simp only[Lu,MO,Ks,Lh];refine Ka (Ke ?_);have e1:SetTable.below t.place (b0 w t i)=i:=by
   have:=rJ T.tb i (by rw[T.len];exact hi);cases i with
   |zero=>exact this
   |succ i=>unfold b0;rw[hb];exact this
  have eo:ef w S ep es=es:=by unfold ef;rw[hb];rfl
  rw[eo]at h;rw[e1];by_cases hlt:i<es.size
  .have g1:es[i]?=some es[i]:=by simp[hlt]
   have hp:i<t.place.size:=by rw[T.len];exact hlt
   have g2:t.place[i]?=some t.place[i]:=by simp[hp]
   rw[g1]at h;rw[g1,g2];have e2:b0 w t (i+1)=t.place[i]+1:=by unfold b0;rw[hb];simp[Array.getD,hp]
   rw[e2]at h;exact Ke h
  .have g1:es[i]?=none:=by simp;lia
   rw[g1]at h;rw[g1];exact Ke h
end
theorem dy:Slot "set_iterator" "__iter__" "set_iterator.__iter__":=.of (owner:="set_iterator") (n:="__iter__") (by rw[typeLookup_type,builtinLookup_eq_fast];kernel_rfl) (by decide +kernel) (by decide +kernel) (by decide +kernel) (by first|exact .inl (by decide +kernel)|exact .inr (by decide +kernel)) (by rw[isSubtype_type];kernel_rfl)
theorem gG:entryFor table "set_iterator.__iter__"=some Builtin.«dict_keyiterator.__iter__»:=entryFor_alias (id':="dict_keyiterator.__iter__") (by kernel_rfl) rfl (by decide +kernel) (by kernel_rfl)
theorem gW (a:Ow):argsOk "set_iterator.__iter__" ⟨[a],[]⟩:=by (unfold argsOk;kernel_rfl)
section
variable {prog:Ov}{w:World}{A:Ox}{E:Ow->Ot->Prop}{s:Ot}
theorem mP {it S:Addr}{slot i n ep:Nat}{P:PySem.Fin->Ot->Prop}{F:Ow->Ot->Prop}(ho:s.heap.get? it=some o)(hd:o.data=.fields #[.int slot 0,.int i 0,.ref S,.int n 0,.int ep 0])
 (r:iP s.heap S es ep t) (hf:t.fits es.size=true) (hn:n=es.size)
 (h:wpAny (model prog w) A (setNext S slot i ep) (fun m s'=>match m with
   |some (x,next)=>wpAny (model prog w) A (do setField (.ref it) 0 (rawInt next);setField (.ref it) 1 (rawInt (i+1));ret x) P F s'
   |none=>wpAny (model prog w) A (do setField (.ref it) 2 .none;raiseNew (<- newExc (.type "StopIteration") [])) P F s') F s) :
 wpAny (model prog w) A (Builtin.«set_iterator.__next__» ⟨[.ref it],[]⟩) P F s:=by
 obtain⟨os,hos,hex,hds⟩:=r;unfold Builtin.«set_iterator.__next__» slotArgs;simp only[List.isEmpty_nil,Lu,Ks,Lh,Nm,MB];refine Ka (Ke ?_);refine Ka (wpAny_fieldsOf ho hd ?_);dsimp only;refine Ka ?_;unfold setEntries;refine Ka (Ly hos hds hf (Ke ?_));dsimp only;rw[Kh (by rw[hn];simp)];simp only[Of];refine Ka (LC h (fun m s' hm=>?_) fun _ _ e=>e);cases m with
 |none=>exact hm
 |some p=>obtain⟨x,next⟩:=p;exact hm
theorem l5 {it S:Addr}(hne:S≠it)(hh:A.handled=none){es:Array (Int×Ow)}{ep:Nat}{t:SetTable}(T:Tbl t es)(hs:t.place.size<=t.mask)(hpl:t.plain=true)(hle:t.led=!byT w) :
 Walks prog w A it [it,S] [it] es.size (fun i v=>((ef w S ep es)[i]?).map (·.2)=some v) (fun i h=>SetIt h it S (b0 w t i) i es.size ep/\iP h S es ep t) where
 sub:=fun b hb=>by simp at hb;simp[hb]
 frame:=fun i h h' st hk=>by obtain⟨⟨o,h1,r1⟩,⟨o2,h2,r2⟩⟩:=st;exact⟨⟨o,hk it (by simp) o h1,r1⟩,⟨o2,hk S (by simp) o2 h2,r2⟩⟩
 item:=fun i s Q E hi st hQ=>by
  obtain⟨x1,x2⟩:=st;have hT:=x1.typeIs;obtain⟨o,ho,hc,hd⟩:=x1;have x2':=x2;obtain⟨o2,ho2,hex2,hd2⟩:=x2;unfold pyNext;refine Ka (NU (L1 (name:=Str.ofString "__next__") hT slot_setiter_next (Ln slot_setiter_next hT c7 ?_ (dw _))));refine mP ho hd x2' (Tbl.fits T hs) rfl (kA x2' T hs hpl hle (by lia) ?_);have hio:i<(ef w S ep es).size:=by rw[fE];exact hi
  have e1:(ef w S ep es)[i]?=some (ef w S ep es)[i]:=by simp[hio]
  rw[e1];show wpAny _ _ _ _ _ _;refine Ka (NE ho hd (by simp) ?_);have d1:=Nt hd (·.setIfInBounds 0 (rawInt ((b0 w t (i+1):Nat):Int)));have ho1:=LV (Obj.mapFields (·.setIfInBounds 0 (rawInt ((b0 w t (i+1):Nat):Int)))) ho (NH d1);refine Ka (NE (s:={ s with heap:=_ }) ho1 d1 (by simp) ?_);have d2:=Nt d1 (·.setIfInBounds 1 (rawInt ((i:Int)+1)));have ho3:=LV (Obj.mapFields (·.setIfInBounds 1 (rawInt ((i:Int)+1)))) ho1 (NH d2);have sb:=(Le s.heap it (Obj.mapFields (·.setIfInBounds 0 (rawInt ((b0 w t (i+1):Nat):Int))))).trans (Le _ it (Obj.mapFields (·.setIfInBounds 1 (rawInt ((i:Int)+1)))));refine Ke ⟨_,rfl,Ke ?_⟩;refine hQ _ _ s.toks (by rw[e1];rfl) ⟨⟨_,ho3,?_,?_⟩,o2,(sb.2 S hne).trans ho2,hex2,hd2⟩ (fun b o hb e=>(sb.2 b (fun z=>hb (by simp[z]))).trans e)
  .exact(Obj.cls_mapFields ..).trans ((Obj.cls_mapFields ..).trans hc)
  .rw[d2];simp[rawInt]
 done:=fun s Q E st hQ=>by
  obtain⟨x1,x2⟩:=st;have hT:=x1.typeIs;obtain⟨o,ho,hc,hd⟩:=x1;unfold pyNext;refine Ka (NU (L1 (name:=Str.ofString "__next__") hT slot_setiter_next (Ln slot_setiter_next hT c7 ?_ (dw _))));refine mP ho hd x2 (Tbl.fits T hs) rfl (kA x2 T hs hpl hle (Km _) ?_);have e1:(ef w S ep es)[es.size]?=none:=by simp[fE]
  rw[e1];show wpAny _ _ _ _ _ _;refine Ka (NE ho hd (by simp) ?_);refine Ka ?_;simp only[newExc,newTuple];refine Ka (MC ?_ (by size_fits));refine Ka (m:=firstArgMember _ _) (wpAny_of_eq (a:=Value.none) (by first|rfl|(simp only[firstArgMember];rfl)) ?_);refine MC ?_ (by size_fits);simp only[raiseNew];refine Ka (wpAny_handled ?_);rw[show A.in1.handled=none from hh];refine Ka (Ke (wpAny_throw ?_));refine Ka (Nd (T:="StopIteration") (b:=true) ⟨_,Kr _ rfl,rfl⟩ isSubtype_stop ?_);refine Ke (hQ _ s.toks fun b o hb e=>?_);exact Kb _ (Kb _ (((Le ..).2 b (fun z=>hb (by simp[z]))).trans e))
 self:=fun _ _ _ _ st hQ=>by refine wpAny_pyIter_slot st.1.typeIs dy (Ln dy st.1.typeIs gG ?_ (gW _));exact Ke ⟨_,rfl, "set_iterator",_,st.1.typeIs,slot_setiter_next.lookup,hQ⟩
theorem rL (r:iP s.heap S es ep t)(hf:t.fits es.size=true)(hpl:t.plain=true)
 (h:Q (.ref s.heap.objs.size) { s with heap:=s.heap.push { cls:=.type "set_iterator",data:=.fields #[.int 0 0,.int 0 0,.ref S,.int es.size 0,.int ep 0] } }):wpAny (model prog w) A (pyIter (.ref S)) Q E s:=by
 obtain⟨o,ho,hex,hd⟩:=r;have hT:s.TypeIs (.ref S) "set":=⟨o,ho,hex.1⟩;refine wpAny_pyIter_slot hT PySem.F.slot_set_iter (Ln PySem.F.slot_set_iter hT l0 ?_ (PySem.F.args_set_iter_1 _));unfold Builtin.«frozenset.__iter__» Builtin.Frozenset.slot0 slotArgs;simp only[List.isEmpty_nil,Lu,Ks,↓reduceIte,bind_assoc,Nm,MB];unfold Builtin.Frozenset.addrOf Builtin.Frozenset.sizeOf setEntries;refine Ka (Ke (Ka (Ke ?_)));simp only[bind_assoc];refine Ka (Ly ho hd hf (Ka (Ke (Ka (Ke ?_)))));refine Ka ?_;unfold setDrawn;refine Ka (Ly ho hd hf ?_);dsimp only;refine Ka (rK (Ke ?_));show wpAny _ _ (if (!byT w&&(!t.plain&&decide (es.size>1)))=true then _ else _) _ _ _;rw[hpl];simp only[Lu,MO,ND,Ks,Lh];refine Ka (Ke ?_);refine Ka (wpAny_setEpoch_of ho hd hf ?_);exact Ka (MC (Ke ⟨_,rfl, "set_iterator",_,⟨_,Kr _ rfl,rfl⟩,slot_setiter_next.lookup,h⟩))
theorem xj (hT:s.TypeIs (.ref S) "set") (h:Q false s):wpAny (model prog w) A (Builtin.List.listLengthHint (.ref S)) Q E s:=by
 unfold Builtin.List.listLengthHint;refine Ka (MX hT PySem.F.slot_set_len.lookup ?_);dsimp only;have hsp:splitId "set.__len__"=some ("set", "__len__"):=by decide +kernel
 rw[hsp];dsimp only;refine Ka (Nd hT sub_set_self ?_);simp only[Lu,Ks,Lh];rw[Kf (by decide +kernel)];refine Ka (wpAny_typeOf hT ?_);exact Ke h
theorem jp (r:iP s.heap S es ep t)(T:Tbl t es)(hs:t.place.size<=t.mask)(hpl:t.plain=true)(hle:t.led=!byT w)(hh:A.handled=none)(hz:es.size<=300)
 (h:∀ h' tk,s.heap.objs.size<h'.objs.size->(∀ b o,s.heap.get? b=some o->h'.get? b=some o)->Q ((ef w S ep es).toList.map (·.2)) { s with heap:=h',toks:=tk }):wpAny (model prog w) A (collect (.ref S)) Q E s:=by
 have hf:=Tbl.fits T hs;obtain⟨o,ho,hex,hd⟩:=r;have hlt:S<s.heap.objs.size:=Kt ho;unfold collect;refine Ka (Oa (LP entry_proto_collect' (show wpAny _ _ (do again (.builtin "list.__iadd__" ⟨[<- newList [],.ref S],[]⟩)) _ _ s from ?_)));refine Ka (MJ (Ke ⟨Nq _ (by decide +kernel),LP entry_list_iadd' ?_⟩));show wpAny _ _ (Builtin.List.listExtendWith (.ref s.heap.objs.size) (.ref S) (.ref s.heap.objs.size)) _ _ { s with heap:=s.heap.push (seqObj "list" #[] 0) };have ho1:(s.heap.push (seqObj "list" #[] 0)).get? S=some o:=Kb _ ho;have hT1:Shared.TypeIs { s with heap:=s.heap.push (seqObj "list" #[] 0) } (.ref S) "set":=⟨o,ho1,hex.1⟩;unfold Builtin.List.listExtendWith;refine Ka (wpAny_typeOf hT1 ?_);have q1:Builtin.List.listSameRef (.ref s.heap.objs.size) (.ref S)=false:=by simp[Builtin.List.listSameRef,Ml hlt]
 have q2:(Value.type "set"==Value.type "list")=false:=by decide
 have q3:(Value.type "set"==Value.type "tuple")=false:=by decide
 simp only[q1,q2,q3,Bool.or_false,Ks,Lh];refine Ka (rL ⟨o,ho1,hex,hd⟩ hf hpl ?_);have hT2:Shared.TypeIs { s with heap:=(s.heap.push (seqObj "list" #[] 0)).push { cls:=.type "set_iterator",data:=.fields #[.int 0 0,.int 0 0,.ref S,.int es.size 0,.int ep 0] } } (.ref S) "set":=⟨o,Kb _ ho1,hex.1⟩;refine Ka (LB (xj hT2 ?_));rw[Kf (by decide +kernel)];refine Ka (Nj ?_);have hS0:((s.heap.push (seqObj "list" #[] 0)).push { cls:=.type "set_iterator",data:=.fields #[.int 0 0,.int 0 0,.ref S,.int es.size 0,.int ep 0] }).get? s.heap.objs.size=some (seqObj "list" #[] 0):=Kb _ (Kr _ rfl);refine Ka (show wpAny _ _ (updateSeq s.heap.objs.size (·.push .none) >>= fun _=>updateSeq s.heap.objs.size (·.pop)) _ _ _ from ?_);refine Ka (wpAny_updateSeq hS0 rfl ?_);have hS1:=LV (Obj.mapSeq (·.push Value.none)) hS0 rfl;refine wpAny_updateSeq (hz:=by seq_fits) hS1 rfl ?_;have hS2:=LV (Obj.mapSeq (·.pop)) hS1 rfl;generalize hH:(((s.heap.push (seqObj "list" #[] 0)).push { cls:=.type "set_iterator",data:=.fields #[.int 0 0,.int 0 0,.ref S,.int es.size 0,.int ep 0] }).update s.heap.objs.size (Obj.mapSeq (·.push Value.none))).update s.heap.objs.size (Obj.mapSeq (·.pop))=H2 at *;have oth:∀ b o,b≠s.heap.objs.size->((s.heap.push (seqObj "list" #[] 0)).push { cls:=.type "set_iterator",data:=.fields #[.int 0 0,.int 0 0,.ref S,.int es.size 0,.int ep 0] }).get? b=some o->H2.get? b=some o:=fun b o hb e=>by rw[<- hH];exact(Lz _ _ (Lj hb)).trans ((Lz _ _ (Lj hb)).trans e)
 have old:∀ b o,s.heap.get? b=some o->H2.get? b=some o:=fun b o e=>oth b o (KJ (Kt e)) (Kb _ (Kb _ e));have hsz1:(s.heap.push (seqObj "list" #[] 0)).objs.size=s.heap.objs.size+1:=size_push' _ _;have hit:H2.get? (s.heap.objs.size+1)=some { cls:=.type "set_iterator",data:=.fields #[.int 0 0,.int 0 0,.ref S,.int es.size 0,.int ep 0] }:=oth _ _ (by lia) (by rw[<- hsz1];exact Kr _ rfl);refine Ke ⟨Np PySem.F.plain_extend_loop _,?_⟩;show codeAny _ _ (.builtin "list.extend.loop" ⟨[.ref s.heap.objs.size,.ref (s.heap.push (seqObj "list" #[] 0)).objs.size,.ref s.heap.objs.size],[]⟩) _ _;rw[hsz1];have W:Walks prog w A.in1 (s.heap.objs.size+1) [s.heap.objs.size+1,S] [s.heap.objs.size+1] es.size (fun i v=>((ef w S ep es)[i]?).map (·.2)=some v) (fun i h=>SetIt h (s.heap.objs.size+1) S (b0 w t i) i es.size ep/\iP h S es ep t):=l5 (KJ (Mz hlt)) (by simp[hh]) T hs hpl hle;refine codeAny_extend_loopS W.toS (by rw[K9];lia) s.heap.objs.size (by simp only[Kj,Lc,MZ,not_or];exact⟨KJ (NL _),Ml hlt⟩) _ es.size 0 _ #[] _ rfl (KU _) ⟨⟨_,hit,rfl,rfl⟩,o,old S o ho,hex,hd⟩ (by rw[hS2];rfl) (ItemsOf.nil _) fun s' acc c hm hS' hacc=>?_;obtain⟨h',g',d',tk',os'⟩:=s';have eg:g'=s.gens:=hm.gens;have ed:d'=s.drawn:=hm.drawn;have eo:os'=s.os:=hm.os;subst eg ed eo;refine Ka (wpAny_load hS' ?_);have ea:acc.toList=(ef w S ep es).toList.map (·.2):=by
  apply LH
  intro i;by_cases hi:i<acc.size
  .have e1:acc.toList[i]?=some acc[i]:=by rw[Kn];simp[hi]
   have e2:=hacc.2 i acc[i] (by simp[hi]);rw[e1,K6,Kn];exact e2.symm
  .rw[Lo (by simpa using Mj hi),Lo];rw[Kg,KM,fE,<- hacc.1];exact Mj hi
 show wpAny _ _ (pure acc.toList) _ _ _;rw[ea];refine Ke (h h' tk' (Kt hS') fun b o e=>hm.heap b o ?_ (old b o e));have:=Kt e;simp only[Kj,Lc,MZ,not_or];exact⟨KJ this,KJ (Mz this)⟩
end
noncomputable def lexB:List Int->List Int->Bool
 | [],[]=>false
 | [],_::_=>true
 |_::_,[]=>false
 |a::x,b::y=>if a=b then lexB x y else decide (a<b)
theorem dz:∀ a:List Int,lexB a a=false
 | []=>rfl
 |a::x=>by unfold lexB;rw[Kf rfl];exact dz x
theorem nQ:∀ a b c:List Int,lexB a b=true->lexB b c=true->lexB a c=true
 | [],[],_,h,_=>by cases h
 | [],_::_,[],_,h=>by cases h
 | [],_::_,_::_,_,_=>rfl
 |_::_,[],_,h,_=>by cases h
 |_::_,_::_,[],_,h=>by cases h
 |a::x,b::y,c::z,h1,h2=>by
  unfold lexB at h1 h2 ⊢;by_cases e1:a=b
  .subst e1;rw[Kf rfl]at h1;by_cases e2:a=c
   .subst e2;rw[Kf rfl]at h2 ⊢;exact nQ x y z h1 h2
   .rw[Kh e2]at h2 ⊢;exact h2
  .rw[Kh e1]at h1;have h1:a<b:=by simpa using h1
   by_cases e2:b=c
   .subst e2;rw[Kh e1];simpa using h1
   .rw[Kh e2]at h2;have h2:b<c:=by simpa using h2
    rw[Kh (by lia)];simp;lia
theorem gX:∀ a b:List Int,a≠b->lexB a b=true\/lexB b a=true
 | [],[],h=>(h rfl).elim
 | [],_::_,_=>.inl rfl
 |_::_,[],_=>.inr rfl
 |a::x,b::y,h=>by
  unfold lexB;by_cases e:a=b
  .subst e;rw[Kf rfl,Kf rfl];exact gX x y fun z=>h (by rw[z])
  .rw[Kh e,Kh (Lj e)];rcases Int.lt_or_gt_of_ne e with z|z
   .exact .inl (by simpa using z)
   .exact .inr (by simpa using z)
section
variable {prog:Ov}{w:World}{A:Ox}{E:Ow->Ot->Prop}{s:Ot}
theorem tw:∀{a b:List Int}{xs ys:List Ow}(i:Nat),ItemsAre (mixKind prog w) (iK a) xs->ItemsAre (mixKind prog w) (iK b) ys->Q (lexB a b) s->PySem.W.KatLex prog w A true (decide (xs.length<ys.length)) Q (xs.zip ys) i s
 | [],[],_,_,i,hx,hy,h=>by cases hx;cases hy;exact h
 | [],_::_,_,_,i,hx,hy,h=>by
  cases hx;cases hy with
  |cons h1 h2=>exact PySem.W.kat_nil h
 |_::_,[],_,_,i,hx,hy,h=>by
  cases hy;cases hx with
  |cons h1 h2=>exact PySem.W.kat_nil h
 |a::x,b::y,_,_,i,hx,hy,h=>by
  cases hx with
  | @cons _ v1 _ vs1 h1 hx'=>
   cases hy with
   | @cons _ v2 _ vs2 h2 hy'=>
    obtain⟨t1,rfl⟩:=jP h1;obtain⟨t2,rfl⟩:=jP h2;rw[List.zip_cons_cons];refine PySem.W.kat_cons (wpAny_eqBool_int ?_);unfold lexB at h;by_cases e:a=b
    .subst e;rw[Kf rfl]at h;rw[beq_self_eq_true];refine PySem.W.kat_yes ?_;have:=tw (i+1) hx' hy' h;simpa using this
    .rw[Kh e]at h;have eb:(a==b)=false:=by simpa using e
     rw[eb];refine PySem.W.kat_no ?_;cases i with
     |zero=>exact oneLt_int h
     |succ i=>exact PySem.W.kat_one _ _ (lt_int h)
structure Tups (prog:Ov) (w:World) (h:Heap) (xs:List TItem):Prop where
 is:∀ x∈xs,(tK prog w).is h (iK x.1) x.2
 ne:∀ x∈xs,x.1≠[]
 nd:(xs.map (·.1)).Nodup
noncomputable def valsT (xs:List TItem):List Ow:=xs.map fun x=>Value.ref x.2
theorem pB:∀{xs:List TItem},(∀ x∈xs,(tK prog w).is h (iK x.1) x.2)->(∀ x∈xs,x.1≠[])->∃ fs:List Ow,PySem.W.KatTups h (valsT xs) fs/\fs.length=xs.length/\∀ v∈fs,∃ i t,v=Value.int i t
 | [],_,_=>⟨[],trivial,rfl,fun v hv=>nomatch hv⟩
 |x::xs,h1,h2=>by
  obtain⟨fs,a,b,c⟩:=pB (fun y hy=>h1 y (Ky _ hy)) fun y hy=>h2 y (Ky _ hy);obtain⟨ox,ix,nx,hx,cx,dx,lx⟩:=h1 x KD;have hne:=h2 x KD;obtain⟨k,b'⟩:=x;dsimp only at hne lx hx;cases k with
  |nil=>exact(hne rfl).elim
  |cons n ns=>
   generalize hl:ix.toList=l at lx;cases lx with
   | @cons _ v _ vs q1 q2=>
    obtain⟨t,rfl⟩:=jP q1;refine⟨.int n t::fs,⟨⟨b',ox,ix,nx,rfl,hx,cx,dx,?_⟩,a⟩,by simp[b],fun v hv=>?_⟩
    .rw[<- Kn,hl];rfl
    .rcases Kj.mp hv with rfl|hv
     .exact⟨n,t,rfl⟩
     .exact c v hv
theorem vf (t:Tups prog w s.heap xs)(hne:0<xs.length)(h:Q (tuples' true) s):wpAny (model prog w) A (keyKind' (valsT xs).toArray) Q E s:=by
 obtain⟨fs,a,b,c⟩:=pB t.is t.ne;refine PySem.W.kat_kind (T:=.type "int") a (by lia) (fun v hv=>?_) (by decide) ?_
 .obtain⟨i,t,rfl⟩:=c v hv;exact fun A Q E s k q=>Ke q
 .have:(Value.type "int" != Value.type "tuple")=true:=by decide
  rw[this];exact h
theorem Tups.off (t:Tups prog w h xs) (ho:h.get? a=some o) (hc:o.cls=.type "list") (k:∀ b o,b≠a->h.get? b=some o->h'.get? b=some o):Tups prog w h' xs:=by refine⟨fun x hx=>?_,t.ne,t.nd⟩;obtain⟨ox,ix,nx,h1,c1,r⟩:=t.is x hx;refine⟨ox,ix,nx,k x.2 ox (fun e=>?_) h1,c1,r⟩;rw[e,ho]at h1;cases h1;rw[hc]at c1;exact absurd c1 (by decide)
def gb (prog:Ov) (w:World) (N:Nat):Prop:=∀(A:Ox)(E:Ow->Ot->Prop)(s:Ot)(a:Addr)(n:Nat)(xs:List TItem)(P:PySem.Fin->Ot->Prop),s.heap.get? a=some (seqObj "list" (valsT xs).toArray n)->Tups prog w s.heap xs->xs.length<=N->
 (∀ ys h' c,ys.Perm xs->ys.Pairwise (fun x y=>lexB x.1 y.1=true)->h'.get? a=some (seqObj "list" (valsT ys).toArray c)->(∀ b o,b≠a->s.heap.get? b=some o->h'.get? b=some o)->P (.done (.ret .none)) { s with heap:=h' })->wpAny (model prog w) A (Builtin.«list.sort» ⟨[.ref a],[]⟩) P E s
theorem pC {its:List TItem}:∀(l:List (Int×Ow)),(∀ e∈l,∃ x∈its,e=((tK prog w).hash (iK x.1),Value.ref x.2))->∃ zs:List TItem,l=zs.map (fun x=>((tK prog w).hash (iK x.1),Value.ref x.2))/\∀ z∈zs,z∈its
 | [],_=>⟨[],rfl,fun z hz=>nomatch hz⟩
 |e::l,h=>by
  obtain⟨x,hx,rfl⟩:=h e KD;obtain⟨zs,h1,h2⟩:=pC l fun e he=>h e (Ky _ he);exact⟨x::zs,by rw[h1];rfl,fun z hz=>by
   rcases Kj.mp hz with rfl|hz
   .exact hx
   .exact h2 z hz⟩
structure SortedOf (its ys:List TItem):Prop where
 sub:∀ y∈ys,y∈its
 all:∀ x∈its,∃ y∈ys,y.1=x.1
 pw:ys.Pairwise fun x y=>lexB x.1 y.1=true
theorem nR {Q:Ow->Ot->Prop}(sa:SetAt w s.heap S es)(v:SInv prog w es its)(his:∀ x∈its,(tK prog w).is s.heap (iK x.1) x.2)(hne:∀ x∈its,x.1≠[])(hh:A.handled=none)(hN:N<=300)(hs:gb prog w N)(hz:es.size<=N)
 (h:∀ ys h' tk l c,SortedOf its ys->s.heap.objs.size<=l->h'.get? l=some (seqObj "list" (valsT ys).toArray c)->(∀ b o,s.heap.get? b=some o->h'.get? b=some o)->Q (.ref l) { s with heap:=h',toks:=tk }) :
 wpAny (model prog w) A (call (.builtin "sorted") [.ref S]) Q E s:=by
 obtain⟨o,ep,t,ho,hex,hd,T,sp,hpl,hle⟩:=sa;have pe:=kz w S ep es;obtain⟨zs,ez,zm⟩:=pC (prog:=prog) (w:=w) (its:=its) (ef w S ep es).toList fun e he=>v.el e (pe.mem_iff.mp he);have ev:(ef w S ep es).toList.map (·.2)=valsT zs:=by rw[ez,KC];rfl
 have hzl:zs.length=es.size:=by have:=KN List.length ez;rw[Kg,KM,fE]at this;exact this.symm
 have nd:(zs.map (·.1)).Nodup:=by have pw:=(pe.pairwise_iff (fun{x y} hxy a b e1 e2 m1 m2 z=>hxy b a e2 e1 m2 m1 z.symm)).mpr v.pw;rw[ez,KH]at pw;unfold List.Nodup;rw[KH];exact LD (fun{a b} ha hb hab=>hab a b rfl rfl (zm a ha) (zm b hb)) pw
 refine Mq kind_sorted plain_sorted entry_sorted (args_sorted1 _) ?_;unfold Builtin.«sorted»;refine Ka (m:=checkCount "sorted" 1 1 _) (Ke (Ka (jp ⟨o,ho,hex,hd⟩ T (c6 sp) hpl hle (by simp[hh]) (KA hz hN) fun h1 tk1 g1 k1=>?_)));rw[ev];refine Ka (MJ ?_ (by show(valsT zs).length<=_;simp only[valsT,Kg];rw[hzl,K9];lia));have hoL:(h1.push (seqObj "list" (valsT zs).toArray 0)).get? h1.objs.size=some (seqObj "list" (valsT zs).toArray 0):=Kr _ rfl;have kk:∀ b o,s.heap.get? b=some o->(h1.push (seqObj "list" (valsT zs).toArray 0)).get? b=some o:=fun b o e=>Kb _ (k1 b o e);have ge:s.heap.objs.size<=h1.objs.size:=Lb g1;have t1:Tups prog w (h1.push (seqObj "list" (valsT zs).toArray 0)) zs:=⟨fun x hx=>d_ (his x (zm x hx)) kk,fun x hx=>hne x (zm x hx),nd⟩;refine Ka (LB (Ln slot_list_sort ⟨_,hoL,rfl⟩ entry_list_sort ?body (args_list_sort _)))
 case body=>
  refine hs _ _ { s with heap:=h1.push (seqObj "list" (valsT zs).toArray 0),toks:=tk1 } _ _ _ _ hoL t1 (by lia) fun ys h2 c2 hp hw hl2 k2=>⟨_,rfl,?_⟩;refine Ke ⟨_,rfl,h ys h2 tk1 _ c2 ⟨fun y hy=>zm y (hp.mem_iff.mp hy),fun x hx=>?_,hw⟩ ge hl2 fun b o e=>k2 b o (fun z=>?_) (kk b o e)⟩
  .obtain⟨y,y1,y2,y3⟩:=v.all x hx;have y4:((tK prog w).hash (iK y.1),Value.ref y.2)∈zs.map (fun x=>((tK prog w).hash (iK x.1),Value.ref x.2)):=by rw[<- ez];exact pe.mem_iff.mpr y3
   obtain⟨z,z1,z2⟩:=Kq.mp y4;have z3:z.2=y.2:=by simp only[MY,My]at z2;exact z2.2
   refine⟨z,hp.mem_iff.mpr z1,?_⟩;have:=(tK prog w).inj (his z (zm z z1)) (by rw[z3];exact his y y1);rw[rH this,y2]
  .subst z;exact absurd (Kt e) (Os.mpr ge)
end
noncomputable def TupsIn (H:Hp):List V->List TItem->Prop:=Paired fun v x=>v=.ref x.2/\H x.2=some (.tup ((iK x.1).map kV))
theorem TupsIn.get:∀{vs:List V}{us:List Ow}{its:List TItem},TupsIn H vs its->Vals vs us->its.length=us.length/\(∀(i:Nat)(v:Ow),us[i]?=some v->∃ x:TItem,its[i]?=some x/\v=.ref x.2)/\∀ x∈its,H x.2=some (.tup ((iK x.1).map kV))
 |_,_,_,.nil,.nil=>⟨rfl,fun i v e=>by simp at e,fun x hx=>nomatch hx⟩
 |_,_,_,.cons (a:=v) (b:=y) q t,.cons (b:=u) r s=>by
  obtain⟨a,b,c⟩:=TupsIn.get t s;obtain⟨rfl,q⟩:=q;obtain rfl:u=Value.ref y.2:=r;refine⟨by simp[a],fun i v e=>?_,fun x hx=>?_⟩
  .cases i with
   |zero=>simp at e;exact⟨y,rfl,e.symm⟩
   |succ i=>exact b i v (by simpa using e)
  .rcases Kj.mp hx with rfl|hx
   .exact q
   .exact c x hx
section
variable {X:Cx}
theorem vg (hc:X.calm=true) (hu:X.A.units+64<cLine):CallR X (.type "set") (fun xs H Q=>∃ l vs its,xs=[.ref l]/\Rd H l (.lst vs)/\TupsIn H vs its/\vs.length<=300/\
 ∀ p es,H p=none->SInv X.prog X.w es its->Q (.ref p) (aJ H p (.ext fun h=>SetAt X.w h p es))):=by
 intro pins s σ H xs us Q I r h;obtain⟨l,vs,its,rfl,hl,hp,hz,q⟩:=h;obtain⟨u,rfl,ru⟩:=fq r;obtain rfl:u=Value.ref l:=ru;obtain⟨_,us,n,rv,hg⟩:=(show ObjOk X.prog X.w H s.heap l (.lst vs) from hl.ok I.hok);obtain⟨g1,g2,g3⟩:=hp.get rv;refine vd (I.ok.hd hc) hu hg (its:=its) (by rw[g1,Ki]) (by rw[Ki,<- rv.length];exact hz) (fun i v e=>g2 i v (by simpa using e)) (fun x hx=>d9 I.hok (g3 x hx)) fun h' tk es hS v hk=>?_;have hf:H s.heap.objs.size=none:=I.hok.fresh (Km _);refine⟨.ref s.heap.objs.size,_,I.laid (a:=s.heap.objs.size) (o:=.ext fun h=>SetAt X.w h s.heap.objs.size es) (t':=tk) (fun b o e=>hk b o (Kt e) e) (Km _) ?_,rfl,q _ es hf v⟩;exact⟨hS,(let ⟨o,_,_,e,_⟩:=hS;⟨o,e⟩),fun h1 h2 hs k=>SetAt.keep hs k⟩
theorem nS (hc:X.calm=true) (hN:N<=300) (hs:gb X.prog X.w N):CallR X (.builtin "sorted") (fun xs H Q=>∃ p es its,xs=[.ref p]/\H p=some (.ext fun h=>SetAt X.w h p es)/\SInv X.prog X.w es its/\(∀ x∈its,H x.2=some (.tup ((iK x.1).map kV)))/\(∀ x∈its,x.1≠[])/\its.length<=N/\
 ∀ l ys,H l=none->SortedOf its ys->Q (.ref l) (aJ H l (.lst (ys.map fun y=>.ref y.2)))):=by
 intro pins s σ H xs us Q I r h;obtain⟨p,es,its,rfl,hp,v,ht,hne,hz,q⟩:=h;obtain⟨u,rfl,ru⟩:=fq r;obtain rfl:u=Value.ref p:=ru;obtain⟨hS,_,_⟩:=(show ObjOk X.prog X.w H s.heap p (.ext fun h=>SetAt X.w h p es) from I.hok p _ hp);have hes:es.size<=N:=KA v.sz hz;refine nR hS v (fun x hx=>d9 I.hok (ht x hx)) hne (I.ok.hd hc) hN hs hes fun ys h' tk l c so hle hl hk=>?_;have hf:H l=none:=I.hok.fresh hle;have hyl:ys.length<=N:=by
  have nd:(ys.map (·.1)).Nodup:=by unfold List.Nodup;rw[KH];exact so.pw.imp fun{a b} hab e=>by rw[e,dz]at hab;cases hab
  refine KA ?_ hz;have:∀(a b:List (List Int)),a.Nodup->(∀ x∈a,x∈b)->a.length<=b.length:=by
   intro a;induction a with
   |nil=>intro b _ _;exact KU _
   |cons x a ih=>intro b nd hs;have hx:x∈b:=hs x KD;have:=ih (b.erase x) (LZ.mp nd).2 fun y hy=>(NQ (show y≠x from fun e=>(LZ.mp nd).1 (by rw[<- e];exact hy))).mpr (hs y (Ky _ hy));rw[Ni hx]at this;have:0<b.length:=NA hx;simp only[K8];lia
  have:=this _ (its.map (·.1)) nd fun k hk=>by obtain⟨y,hy,rfl⟩:=Kq.mp hk;exact Kq.mpr ⟨y,so.sub y hy,rfl⟩
  simpa using this
 refine⟨.ref l,_,I.laid (a:=l) (o:=.lst (ys.map fun y=>.ref y.2)) (t':=tk) hk hle ?_,rfl,q l ys hf so⟩;refine⟨by rw[Kg,K9];lia,valsT ys,c,?_,hl⟩;clear so hl hyl;induction ys with
 |nil=>exact .nil
 |cons y ys ih=>exact .cons rfl ih
end
end L2
namespace L2
open PySem PySem.Spec PyProof.Rows
section
variable {prog:Ov}{w:World}{A:Ox}{R:Result->Ot->Prop}{I:Addr}{fp wr:List Addr}{G:Array GenState->Array GenState->Prop}{n:Nat}{P:Nat->Ow->Prop}{St:Nat->Ot->Prop}
end
section
variable {prog:Ov}{w:World}{A:Ox}{E:Ow->Ot->Prop}{s:Ot}
end
section
variable {X:Cx}
end
end L2
namespace TS
open PySem PyProof.Rows
noncomputable abbrev SM:=StateT SortSt Sem
noncomputable def gB (l:Bool)(key:Keyed)(xs:Array Keyed)(b i:Nat):SM (Option Bool):=do
 let x <- elem' xs (b+i)
 if l then lt' x key else return (<- lt' key x).map (!·)
noncomputable def cr:Bool->Keyed->Array Keyed->Nat->Nat->Nat->SM (Option Nat):=sortPriv% PySem.Builtin.gallop
noncomputable def AD (l:Bool)(key:Keyed)(xs:Array Keyed)(b n p₀ q₀:Nat):SM (Option Nat):=do
 let mut p:=p₀
 let mut q:=q₀
 for _ in [0:n] do
  if p>=q then break
  let m:=p+(q-p) / 2
  let some y <- gB l key xs b m|return none
  if y then p:=m+1 else q:=m
 return some q
theorem rM (l:Bool)(key:Keyed)(xs:Array Keyed)(b n h:Nat):cr l key xs b n h=(do
 let mut u:=0
 let mut o:=1
 let some z <- gB l key xs b h|return none
 if z then
  let m:=n-h
  for _ in [0:n] do
   if o>=m then break
   let some y <- gB l key xs b (h+o)|return none
   if !y then break
   u:=o
   o:=2*o+1
  AD l key xs b n (h+u+1) (h+min o m)
 else
  let m:=h+1
  for _ in [0:n] do
   if o>=m then break
   let some y <- gB l key xs b (h-o)|return none
   if y then break
   u:=o
   o:=2*o+1
  AD l key xs b n (h+1-min o m) (h-u)):=rfl
section
variable {prog:Ov}{w:World}{A:Ox}{E:Ow->Ot->Prop}{s:Ot}{κ:SortKind}{S:List Keyed}{rk:Keyed->Nat}
def Cmp (prog:Ov)(w:World)(A:Ox)(s:Ot)(κ:SortKind)(S:List Keyed)(rk:Keyed->Nat):Prop:=∀ x∈S,∀ y∈S,∀ Q:Bool->Ot->Prop,Q (decide (rk x<rk y)) s->wpAny (model prog w) A (keyLt' κ x.1 y.1) Q (fun _ _=>False) s
theorem xk (C:Cmp prog w A s κ S rk){st:SortSt}(hx:x∈S)(hy:y∈S)(hk:kindOf st=κ){Q:Option Bool->SortSt->Prop}(h:Q (some (decide (rk x<rk y))) st):wpS (model prog w) A E s (lt' x y) Q st:=by rw[lt'_eq];refine Kv (wpS_get ?_);rw[hk];refine Kv (wpS_lift (NU (LC (C x hx y hy (fun c s'=>s'=s/\c=decide (rk x<rk y)) ⟨rfl,rfl⟩) (fun c s' hc=>?_) fun _ _ hF=>hF.elim)));obtain⟨rfl,rfl⟩:=hc;exact⟨rfl,KE h⟩
theorem aV {st:SortSt}{xs:Array Keyed}(hp:xs[i]?=some p){Q:Keyed->SortSt->Prop}(h:Q p st):wpS (model prog w) A E s (elem' xs i) Q st:=by rw[elem'_eq,hp];exact KE h
theorem Jb (C:Cmp prog w A s κ S rk){st:SortSt}{l:Bool}(hp:xs[b+i]?=some x)(hx:x∈S)(hy:key∈S)(hk:kindOf st=κ){Q:Option Bool->SortSt->Prop}
 (h:Q (some (if l then decide (rk x<rk key) else !decide (rk key<rk x))) st):wpS (model prog w) A E s (gB l key xs b i) Q st:=by
 unfold gB;refine Kv (aV hp ?_);cases l with
 |true=>exact xk C hx hy hk h
 |false=>exact Kv (xk C hy hx hk (KE h))
theorem pD (C:Cmp prog w A s κ S rk){st:SortSt}{l:Bool}(hk:kindOf st=κ)(hy:key∈S)(hS:∀ i<n,∃ x,xs[b+i]?=some x/\x∈S/\(if l then decide (rk x<rk key) else !decide (rk key<rk x))=decide (i<k))
 (hh:h<n) (hkn:k<=n) {Q:Option Nat->SortSt->Prop} (hq:Q (some k) st):wpS (model prog w) A E s (cr l key xs b n h) Q st:=by
 have tb:∀{i:Nat},i<n->∀{Q:Option Bool->SortSt->Prop},Q (some (decide (i<k))) st->wpS (model prog w) A E s (gB l key xs b i) Q st:=by intro i hi Q hQ;obtain⟨x,h1,h2,h3⟩:=hS i hi;exact Jb C h1 h2 hy hk (by rw[h3];exact hQ)
 rw[rM];refine Kv (tb hh ?_);dsimp only;have fin:∀{p q:Nat},p<=k->k<=q->q<=n->wpS (model prog w) A E s (AD l key xs b n p q) Q st:=by
  intro p q h1 h2 h3;unfold AD;refine Kv (LI (LG (I:=fun i c st'=>st'=st/\c.1=none/\c.2.1<=k/\k<=c.2.2/\c.2.2<=n/\(c.2.2-c.2.1)+i<=n) (Q:=fun c st'=>st'=st/\c.1=none/\c.2.2=k) ?_ ?_ ⟨rfl,rfl,h1,h2,h3,by dsimp only;lia⟩) ?_)
  .rintro i ⟨r,p,q⟩ st' _ hi ⟨rfl,rfl,a1,a2,a3,a4⟩;dsimp only at *;by_cases c:p>=q
   .rw[Kf c];exact KE ⟨rfl,rfl,by dsimp only;lia⟩
   .rw[Kh c];refine Kv (tb (by lia) ?_);dsimp only;by_cases d:p+(q-p) / 2<k
    .rw[Kl d,Kf rfl];exact KE ⟨rfl,rfl,by dsimp only;lia,by dsimp only;lia,by dsimp only;lia,by dsimp only;lia⟩
    .rw[Kp d,Kh (by simp)];exact KE ⟨rfl,rfl,by dsimp only;lia,by dsimp only;lia,by dsimp only;lia,by dsimp only;lia⟩
  .rintro⟨r,p,q⟩ st' ⟨rfl,rfl,a1,a2,a3,a4⟩;dsimp only at *;exact⟨rfl,rfl,by lia⟩
  .rintro⟨r,p,q⟩ st' ⟨rfl,rfl,a1⟩;dsimp only at *;subst a1;exact KE hq
 by_cases hz:h<k
 .rw[Kl hz,Kf rfl];refine Kv (LI (LG (I:=fun i c st'=>st'=st/\c.1=none/\c.2.1<n-h/\h+c.2.1<k/\c.2.1<c.2.2/\i+1<=c.2.2) (Q:=fun c st'=>st'=st/\c.1=none/\c.2.1<n-h/\h+c.2.1<k/\(c.2.2>=n-h\/k<=h+c.2.2)) ?_ ?_ ⟨rfl,rfl,by dsimp only;lia,by dsimp only;lia,by dsimp only;lia,by dsimp only;lia⟩) ?_)
  .rintro i ⟨r,u,o⟩ st' _ hi ⟨rfl,rfl,a1,a2,a3,a4⟩;dsimp only at *;by_cases c:o>=n-h
   .rw[Kf c];exact KE ⟨rfl,rfl,a1,a2,.inl c⟩
   .rw[Kh c];refine Kv (tb (by lia) ?_);dsimp only;by_cases d:h+o<k
    .rw[Kl d,Kh (by simp)];exact KE ⟨rfl,rfl,by dsimp only;lia,d,by dsimp only;lia,by dsimp only;lia⟩
    .rw[Kp d,Kf (by rfl)];exact KE ⟨rfl,rfl,a1,a2,.inr (by dsimp only;lia)⟩
  .rintro⟨r,u,o⟩ st' ⟨rfl,rfl,a1,a2,a3,a4⟩;dsimp only at *;exact⟨rfl,rfl,a1,a2,.inl (by lia)⟩
  .rintro⟨r,u,o⟩ st' ⟨rfl,rfl,a1,a2,a3⟩;dsimp only at *;exact fin (p:=h+u+1) (q:=h+min o (n-h)) (by lia) (by lia) (by lia)
 .rw[Kp hz,Kh (by simp)];refine Kv (LI (LG (I:=fun i c st'=>st'=st/\c.1=none/\c.2.1<=h/\k<=h-c.2.1/\c.2.1<c.2.2/\i+1<=c.2.2) (Q:=fun c st'=>st'=st/\c.1=none/\c.2.1<=h/\k<=h-c.2.1/\(c.2.2>=h+1\/h-c.2.2<k)) ?_ ?_ ⟨rfl,rfl,by dsimp only;lia,by dsimp only;lia,by dsimp only;lia,by dsimp only;lia⟩) ?_)
  .rintro i ⟨r,u,o⟩ st' _ hi ⟨rfl,rfl,a1,a2,a3,a4⟩;dsimp only at *;by_cases c:o>=h+1
   .rw[Kf c];exact KE ⟨rfl,rfl,a1,a2,.inl c⟩
   .rw[Kh c];refine Kv (tb (by lia) ?_);dsimp only;by_cases d:h-o<k
    .rw[Kl d,Kf rfl];exact KE ⟨rfl,rfl,a1,a2,.inr d⟩
    .rw[Kp d,Kh (by simp)];exact KE ⟨rfl,rfl,by dsimp only;lia,by dsimp only;lia,by dsimp only;lia,by dsimp only;lia⟩
  .rintro⟨r,u,o⟩ st' ⟨rfl,rfl,a1,a2,a3,a4⟩;dsimp only at *;exact⟨rfl,rfl,a1,a2,.inl (by lia)⟩
  .rintro⟨r,u,o⟩ st' ⟨rfl,rfl,a1,a2,a3⟩;dsimp only at *;exact fin (p:=h+1-min o (h+1)) (q:=h-u) (by lia) (by lia) (by lia)
end
section
variable {rk:Keyed->Nat}
def Srt (rk:Keyed->Nat)(l:List Keyed):Prop:=l.Pairwise fun x y=>rk x<=rk y
structure J (rk:Keyed->Nat) (al bl o:List Keyed) (i j:Nat):Prop where
 perm:o.Perm (al.take i++bl.take j)
 srt:Srt rk o
 la:∀ x∈o,∀ y∈al.drop i,rk x<=rk y
 lb:∀ x∈o,∀ y∈bl.drop j,rk x<=rk y
variable {al bl o:List Keyed}{i j:Nat}
theorem J.swap (h:J rk al bl o i j):J rk bl al o j i:=⟨h.perm.trans Mn,h.srt,h.lb,h.la⟩
theorem J.addA (h:J rk al bl o i j)(sa:Srt rk al)(k:Nat)(hc:∀ x∈(al.drop i).take k,∀ y∈bl.drop j,rk x<=rk y):J rk al bl (o++(al.drop i).take k) (i+k) j:=by
 have sd:Srt rk (al.drop i):=sa.sublist (Mw _ _);have e:al.take (i+k)=al.take i++(al.drop i).take k:=List.take_add;have sp:(al.drop i)=(al.drop i).take k++al.drop (i+k):=by rw[<- List.drop_drop,KL]
 have sd2:=sd;rw[sp]at sd2;have pw:=Ls.mp sd2;refine⟨?_,Ls.mpr ⟨h.srt,sd.sublist (L6 _ _),fun x hx y hy=>h.la x hx y (Lk hy)⟩,fun x hx y hy=>?_,fun x hx y hy=>?_⟩
 .rw[e];refine(h.perm.append_right _).trans ?_;rw[Ko,Ko];exact List.Perm.append_left _ Mn
 .rcases Ku.mp hx with hx|hx
  .exact h.la x hx y (by rw[sp];exact K1 _ hy)
  .exact pw.2.2 x hx y hy
 .rcases Ku.mp hx with hx|hx
  .exact h.lb x hx y hy
  .exact hc x hx y hy
theorem J.addB (h:J rk al bl o i j)(sb:Srt rk bl)(k:Nat)(hc:∀ x∈(bl.drop j).take k,∀ y∈al.drop i,rk x<=rk y):J rk al bl (o++(bl.drop j).take k) i (j+k):=(h.swap.addA sb k hc).swap
def Fin (rk:Keyed->Nat)(al bl o:List Keyed):Prop:=o.Perm (al++bl)/\Srt rk o
theorem J.end_ (h:J rk al bl o m n)(hm:al.length<=m)(hn:bl.length<=n):Fin rk al bl o:=by have:=h.perm;rw[Lg hm,Lg hn]at this;exact⟨this,h.srt⟩
theorem J.restA (h:J rk al bl o i j)(sa:Srt rk al)(sb:Srt rk bl)(hc:∀ x∈al.drop i,∀ y∈bl.drop j,rk x<=rk y):Fin rk al bl (o++al.drop i++bl.drop j):=by have e1:(al.drop i).take al.length=al.drop i:=Lg (by rw[Nb];lia);have e2:(bl.drop j).take bl.length=bl.drop j:=Lg (by rw[Nb];lia);have h1:=h.addA sa al.length (by rw[e1];exact hc);rw[e1]at h1;have h2:=h1.addB sb bl.length (fun x _ y hy=>by rw[LA (by lia)]at hy;cases hy);rw[e2]at h2;exact h2.end_ (by lia) (by lia)
theorem J.restB (h:J rk al bl o i j)(sa:Srt rk al)(sb:Srt rk bl)(hc:∀ x∈bl.drop j,∀ y∈al.drop i,rk x<=rk y):Fin rk al bl (o++bl.drop j++al.drop i):=let f:=h.swap.restA sb sa hc;⟨f.1.trans Mn,f.2⟩
theorem rN (P:Nat->Bool):∀ n:Nat,(∀ i j,i<j->j<n->P j=true->P i=true)->∃ k,k<=n/\∀ i<n,P i=decide (i<k)
 |0,_=>⟨0,Km _,fun i hi=>absurd hi (Nat.not_lt_zero _)⟩
 |n+1,h=>by
  obtain⟨k,hk,hP⟩:=rN P n fun i j hij hj=>h i j hij (by lia);cases hn:P n with
  |true=>
   refine⟨n+1,Km _,fun i hi=>?_⟩;rw[Kl hi];by_cases e:i=n
   .rw[e,hn]
   .exact h i n (by lia) (by lia) hn
  |false=>
   by_cases hkn:k=n
   .refine⟨n,by lia,fun i hi=>?_⟩;by_cases e:i=n
    .rw[e,hn,Kp (by lia)]
    .rw[hP i (by lia),hkn]
   .refine⟨k,by lia,fun i hi=>?_⟩;by_cases e:i=n
    .rw[e,hn,Kp (by lia)]
    .exact hP i (by lia)
theorem fF (h:Srt rk l){p q:Nat}{x y:Keyed}(hx:l[p]?=some x)(hy:l[q]?=some y)(hpq:p<=q):rk x<=rk y:=by
 obtain⟨h1,e1⟩:=Kc.mp hx;obtain⟨h2,e2⟩:=Kc.mp hy;by_cases e:p=q
 .subst e;rw[e1]at e2;rw[e2];exact Km _
 .rw[<- e1,<- e2];exact KW.mp h p q h1 h2 (by lia)
theorem a_ {l:List Keyed}(h:x∈l.drop i):∃ p,i<=p/\l[p]?=some x:=by obtain⟨m,hm⟩:=KG.mp h;rw[L4]at hm;exact⟨i+m,by lia,hm⟩
theorem gY {l:List Keyed}(h:x∈(l.drop i).take k):∃ p,i<=p/\p<i+k/\l[p]?=some x:=by
 obtain⟨m,hm⟩:=KG.mp h;rw[K_]at hm;by_cases c:m<k
 .rw[Kf c,L4]at hm;exact⟨i+m,by lia,by lia,hm⟩
 .rw[Kh c]at hm;cases hm
theorem kC (a:Array Keyed)(i k:Nat):(a.extract i (i+k)).toList=(a.toList.drop i).take k:=by simp[M9,List.extract_eq_drop_take]
theorem jQ (a:Array Keyed)(i:Nat):(a.extract i a.size).toList=a.toList.drop i:=by simp[M9,List.extract_eq_drop_take];exact Lg (by simp)
end
noncomputable def mQ:Nat->SM Unit:=sortPriv% PySem.Builtin.setMinGallop
noncomputable abbrev oO (st:SortSt)(g:Nat):SortSt:=SortSt.mk' (kindOf st) (arrOf st) (pendingOf st) g (failedOf st)
theorem xl (g:Nat):mQ g=modify fun s=>oO s g:=rfl
noncomputable def gZ:Array Keyed->Array Keyed->SM (Array Keyed):=sortPriv% PySem.Builtin.mergeLo
noncomputable abbrev dn (a b o:Array Keyed)(i j:Nat):Array Keyed:=o++a.extract i a.size++b.extract j b.size
noncomputable abbrev ln (a b o:Array Keyed)(i j:Nat):Array Keyed:=o++b.extract j b.size++a.extract i a.size
noncomputable abbrev G7:=Option (Array Keyed)×Array Keyed×Nat×Nat×Nat×Nat×Nat
noncomputable def Im (a b:Array Keyed)(g c d i:Nat)(o:Array Keyed)(j:Nat):SM (ForInStep G7):=do
 let x <- elem' a i
 if i+1+1==a.size then return .done (some (ln a b (o.push x) (i+1) j),o.push x,i+1,j,g,c,d)
 if c<7&&d<7 then return .done (none,o.push x,i+1,j,g,c,d)
 return .yield (none,o.push x,i+1,j,g,c,d)
noncomputable def DU (a b:Array Keyed)(g c d j:Nat)(o:Array Keyed)(i:Nat):SM (ForInStep G7):=do
 let y <- elem' b j
 if j+1==b.size then return .done (some (dn a b (o.push y) i (j+1)),o.push y,i,j+1,g,c,d)
 let x <- elem' a i
 let some k <- cr true x b (j+1) (b.size-(j+1)) 0|return .done (some (dn a b (o.push y) i (j+1)),o.push y,i,j+1,g,c,d)
 if k>0 then
  if j+1+k==b.size then return .done (some (dn a b (o.push y++b.extract (j+1) (j+1+k)) i (j+1+k)),o.push y++b.extract (j+1) (j+1+k),i,j+1+k,g,c,k)
  Im a b g c k i (o.push y++b.extract (j+1) (j+1+k)) (j+1+k)
 else Im a b g c k i (o.push y) (j+1)
noncomputable def Ip (a b:Array Keyed)(o:Array Keyed)(i j c d g:Nat):SM (ForInStep G7):=do
 mQ g
 let y <- elem' b j
 let some k <- cr false y a i (a.size-i) 0|return .done (some (dn a b o i j),o,i,j,g,c,d)
 if k>0 then
  if i+k+1==a.size then return .done (some (ln a b (o++a.extract i (i+k)) (i+k) j),o++a.extract i (i+k),i+k,j,g,k,d)
  if i+k==a.size then return .done (some (dn a b (o++a.extract i (i+k)) (i+k) j),o++a.extract i (i+k),i+k,j,g,k,d)
  DU a b g k d j (o++a.extract i (i+k)) (i+k)
 else DU a b g k d j o i
noncomputable def Iq (a b:Array Keyed)(u:G7):SM (ForInStep G7):=if u.2.2.2.2.1>1 then Ip a b u.2.1 u.2.2.1 u.2.2.2.1 u.2.2.2.2.2.1 u.2.2.2.2.2.2 (u.2.2.2.2.1-1) else Ip a b u.2.1 u.2.2.1 u.2.2.2.1 u.2.2.2.2.2.1 u.2.2.2.2.2.2 u.2.2.2.2.1
noncomputable abbrev G6:=Option (Array Keyed)×Array Keyed×Nat×Nat×Nat×Nat
noncomputable def Ir (a b:Array Keyed)(g:Nat)(u:G6):SM (ForInStep G6):=do
 let y <- elem' b u.2.2.2.1
 let x <- elem' a u.2.2.1
 let some z <- lt' y x|return .done (some (dn a b u.2.1 u.2.2.1 u.2.2.2.1),u.2)
 if z then
  let y <- elem' b u.2.2.2.1
  if u.2.2.2.1+1==b.size then return .done (some (dn a b (u.2.1.push y) u.2.2.1 (u.2.2.2.1+1)),u.2.1.push y,u.2.2.1,u.2.2.2.1+1,0,u.2.2.2.2.2+1)
  if u.2.2.2.2.2+1>=g then return .done (none,u.2.1.push y,u.2.2.1,u.2.2.2.1+1,0,u.2.2.2.2.2+1)
  return .yield (none,u.2.1.push y,u.2.2.1,u.2.2.2.1+1,0,u.2.2.2.2.2+1)
 else
  let x <- elem' a u.2.2.1
  if u.2.2.1+1+1==a.size then return .done (some (ln a b (u.2.1.push x) (u.2.2.1+1) u.2.2.2.1),u.2.1.push x,u.2.2.1+1,u.2.2.2.1,u.2.2.2.2.1+1,0)
  if u.2.2.2.2.1+1>=g then return .done (none,u.2.1.push x,u.2.2.1+1,u.2.2.2.1,u.2.2.2.2.1+1,0)
  return .yield (none,u.2.1.push x,u.2.2.1+1,u.2.2.2.1,u.2.2.2.2.1+1,0)
noncomputable abbrev G5:=Option (Array Keyed)×Array Keyed×Nat×Nat×Nat
noncomputable def Iu (a b:Array Keyed)(u:G5):SM (ForInStep G5):=do
 let r <- forIn [0:a.size+b.size] ((none,u.2.1,u.2.2.1,u.2.2.2.1,0,0):G6) fun _ v=>Ir a b u.2.2.2.2 v
 match r.1 with
 |some x=>pure (.done (some x,r.2.1,r.2.2.1,r.2.2.2.1,u.2.2.2.2))
 |none=>do
  rule "list.sort.gallop"
  let q <- forIn [0:a.size+b.size] ((none,r.2.1,r.2.2.1,r.2.2.2.1,u.2.2.2.2+1,r.2.2.2.2.1,r.2.2.2.2.2):G7) fun _ v=>Iq a b v
  match q.1 with
  |some x=>pure (.done (some x,q.2.1,q.2.2.1,q.2.2.2.1,q.2.2.2.2.1))
  |none=>do
   mQ (q.2.2.2.2.1+1)
   pure (.yield (none,q.2.1,q.2.2.1,q.2.2.2.1,q.2.2.2.2.1+1))
theorem pE (a b:Array Keyed):gZ a b=(do
 rule "list.sort.merge-lo"
 let y <- elem' b 0
 if 1==b.size then return dn a b #[y] 0 1
 if 0+1==a.size then return ln a b #[y] 0 1
 let st <- get
 let r <- forIn [0:a.size+b.size] ((none,#[y],0,1,gallopOf st):G5) fun _ v=>Iu a b v
 match r.1 with
 |some x=>pure x
 |none=>unsupported "internal:list.sort.merge-bound"):=by
 delta gZ
 show(liftM (rule "list.sort.merge-lo") >>= _)=_;refine KN (liftM (rule "list.sort.merge-lo") >>= ·) ?_;funext _;refine KN (elem' b 0 >>= ·) ?_;funext y;dsimp only;refine Og rfl (fun _=>rfl) fun _=>Og rfl (fun _=>rfl) fun _=>?_;refine KN (get >>= ·) ?_;funext st;refine congr (KN Bind.bind ?_) ?_
 .refine KN (forIn [0:a.size+b.size] ((none,#[y],0,1,gallopOf st):G5)) ?_;funext _ u;obtain⟨r,o,i,j,g⟩:=u;unfold Iu;dsimp only;refine congr (KN Bind.bind ?_) ?_
  .refine KN (forIn [0:a.size+b.size] ((none,o,i,j,0,0):G6)) ?_;funext _ v;obtain⟨r,o,i,j,c,d⟩:=v;unfold Ir;rfl
  .funext v;obtain⟨r,o,i,j,c,d⟩:=v;cases r with
   |some x=>rfl
   |none=>
    refine KN (liftM (rule "list.sort.gallop") >>= ·) ?_;funext _;refine congr (KN Bind.bind ?_) ?_
    .refine KN (forIn [0:a.size+b.size] ((none,o,i,j,g+1,c,d):G7)) ?_;funext _ v;obtain⟨r,o,i,j,g,c,d⟩:=v;unfold Iq;rfl
    .funext v;obtain⟨r,o,i,j,g,c,d⟩:=v;cases r with
     |some x=>rfl
     |none=>rfl
 .funext v;obtain⟨r,o,i,j,g⟩:=v;cases r with
  |some x=>rfl
  |none=>rfl
section
variable {prog:Ov}{w:World}{A:Ox}{E:Ow->Ot->Prop}{s:Ot}{κ:SortKind}{S:List Keyed}{rk:Keyed->Nat}
theorem iQ {st:SortSt}{Q:Unit->SortSt->Prop}(h:Q () st):wpS (model prog w) A E s (liftM (rule n):SM Unit) Q st:=wpS_lift (Nj ⟨rfl,h⟩)
theorem nT {st:SortSt}{Q:Unit->SortSt->Prop}(h:Q () (oO st g)):wpS (model prog w) A E s (mQ g) Q st:=by rw[xl];exact wpS_modify h
theorem rO (C:Cmp prog w A s κ S rk){st:SortSt}{key:Keyed}(hk:kindOf st=κ)(hy:key∈S)(hx:∀ x∈xs.toList,x∈S)(hs:Srt rk (xs.toList.drop b |>.take n))(hn:b+n<=xs.size)(hh:h<n){Q:Option Nat->SortSt->Prop}
 (hq:∀ k,k<=n->(∀ i x,i<k->xs.toList[b+i]?=some x->rk x<=rk key)->(∀ i x,k<=i->i<n->xs.toList[b+i]?=some x->rk key<rk x)->Q (some k) st):wpS (model prog w) A E s (cr false key xs b n h) Q st:=by
 have at_:∀ i<n,∃ x,xs[b+i]?=some x/\x∈S:=fun i hi=>by
  have hb:b+i<xs.size:=by lia
  exact⟨xs[b+i],by simp[hb],hx _ (by simp)⟩
 let P:Nat->Bool:=fun i=>!decide (rk key<rk ((xs[b+i]?).getD key))
 have hP:∀ i x,xs[b+i]?=some x->P i=!decide (rk key<rk x):=fun i x e=>by show(!decide (rk key<rk ((xs[b+i]?).getD key)))=_;rw[e];rfl
 obtain⟨k,hk1,hk2⟩:=rN P n fun i j hij hj pj=>by obtain⟨x,ex,_⟩:=at_ i (by lia);obtain⟨y,ey,_⟩:=at_ j hj;rw[hP j y ey]at pj;rw[hP i x ex];have:=fF hs (p:=i) (q:=j) (x:=x) (y:=y) (by rw[K_,Kf (by lia),L4,Kn];exact ex) (by rw[K_,Kf (by lia),L4,Kn];exact ey) (by lia);simp at pj ⊢;lia
 refine pD C hk hy (k:=k) (fun i hi=>?_) hh hk1 (hq k hk1 (fun i x hi e=>?_) fun i x hi hin e=>?_)
 .obtain⟨x,ex,hxS⟩:=at_ i hi;exact⟨x,ex,hxS,by rw[Kh (by simp),<- hk2 i hi,hP i x ex]⟩
 .rw[Kn]at e;have:=hk2 i (by lia);rw[hP i x e,Kl hi]at this;simp at this;lia
 .rw[Kn]at e;have:=hk2 i hin;rw[hP i x e,Kp (show ¬ i<k by lia)]at this;simp at this;lia
theorem rP (C:Cmp prog w A s κ S rk){st:SortSt}{key:Keyed}(hk:kindOf st=κ)(hy:key∈S)(hx:∀ x∈xs.toList,x∈S)(hs:Srt rk (xs.toList.drop b |>.take n))(hn:b+n<=xs.size)(hh:h<n){Q:Option Nat->SortSt->Prop}
 (hq:∀ k,k<=n->(∀ i x,i<k->xs.toList[b+i]?=some x->rk x<rk key)->(∀ i x,k<=i->i<n->xs.toList[b+i]?=some x->rk key<=rk x)->Q (some k) st):wpS (model prog w) A E s (cr true key xs b n h) Q st:=by
 have at_:∀ i<n,∃ x,xs[b+i]?=some x/\x∈S:=fun i hi=>by
  have hb:b+i<xs.size:=by lia
  exact⟨xs[b+i],by simp[hb],hx _ (by simp)⟩
 let P:Nat->Bool:=fun i=>decide (rk ((xs[b+i]?).getD key)<rk key)
 have hP:∀ i x,xs[b+i]?=some x->P i=decide (rk x<rk key):=fun i x e=>by show decide (rk ((xs[b+i]?).getD key)<rk key)=_;rw[e];rfl
 obtain⟨k,hk1,hk2⟩:=rN P n fun i j hij hj pj=>by obtain⟨x,ex,_⟩:=at_ i (by lia);obtain⟨y,ey,_⟩:=at_ j hj;rw[hP j y ey]at pj;rw[hP i x ex];have:=fF hs (p:=i) (q:=j) (x:=x) (y:=y) (by rw[K_,Kf (by lia),L4,Kn];exact ex) (by rw[K_,Kf (by lia),L4,Kn];exact ey) (by lia);simp at pj ⊢;lia
 refine pD C hk hy (k:=k) (fun i hi=>?_) hh hk1 (hq k hk1 (fun i x hi e=>?_) fun i x hi hin e=>?_)
 .obtain⟨x,ex,hxS⟩:=at_ i hi;exact⟨x,ex,hxS,by rw[Kf rfl,<- hk2 i hi,hP i x ex]⟩
 .rw[Kn]at e;have:=hk2 i (by lia);rw[hP i x e,Kl hi]at this;simpa using this
 .rw[Kn]at e;have:=hk2 i hin;rw[hP i x e,Kp (show ¬ i<k by lia)]at this;simp at this;lia
structure Ab (rk:Keyed->Nat) (S:List Keyed) (a b:Array Keyed):Prop where
 ha:∀ x∈a.toList,x∈S
 hb:∀ x∈b.toList,x∈S
 sa:Srt rk a.toList
 sb:Srt rk b.toList
variable {a b:Array Keyed}
theorem AE (a b o:Array Keyed)(i j:Nat):(dn a b o i j).toList=o.toList++a.toList.drop i++b.toList.drop j:=by rw[Lf,Lf,jQ,jQ]
theorem AF (a b o:Array Keyed)(i j:Nat):(ln a b o i j).toList=o.toList++b.toList.drop j++a.toList.drop i:=by rw[Lf,Lf,jQ,jQ]
theorem Gh (H:Ab rk S a b)(h:J rk a.toList b.toList o.toList i j)(e:j=b.size\/i=a.size):Fin rk a.toList b.toList (dn a b o i j).toList:=by
 rw[AE];refine h.restA H.sa H.sb fun x hx y hy=>?_;rcases e with e|e
 .rw[LA (by rw[e];simp)]at hy;cases hy
 .rw[LA (by rw[e];simp)]at hx;cases hx
theorem Iv (H:Ab rk S a b)(last:∀ x∈b.toList,∀ y,a.toList[a.size-1]?=some y->rk x<=rk y)(h:J rk a.toList b.toList o.toList i j)(e:i+1=a.size):Fin rk a.toList b.toList (ln a b o i j).toList:=by rw[AF];refine h.restB H.sa H.sb fun x hx y hy=>?_;obtain⟨p,h1,h2⟩:=a_ hy;have hp:=(Kc.mp h2).1;rw[KM]at hp;exact last x (Lr hx) y (by rw[show a.size-1=p by lia];exact h2)
theorem bj (h:i<a.size):∃ x,a[i]?=some x/\a.toList[i]?=some x/\x∈a.toList:=⟨a[i],by simp[h],by simp[h],by simp⟩
theorem nU {l:List Keyed}(h:l[i]?=some x):(l.drop i).take 1=[x]:=by obtain⟨h1,h2⟩:=Kc.mp h;rw[LS h1,h2];rfl
theorem J.pushB {o:Array Keyed}(h:J rk a.toList b.toList o.toList i j)(H:Ab rk S a b)(hy:b.toList[j]?=some y)(hc:∀ x∈a.toList.drop i,rk y<=rk x):J rk a.toList b.toList (o.push y).toList i (j+1):=by have:=h.addB H.sb 1 (by rw[nU hy];intro x hx z hz;rw[KO]at hx;subst hx;exact hc z hz);rw[nU hy]at this;rw[MA];exact this
theorem J.pushA {o:Array Keyed}(h:J rk a.toList b.toList o.toList i j)(H:Ab rk S a b)(hx:a.toList[i]?=some x)(hc:∀ y∈b.toList.drop j,rk x<=rk y):J rk a.toList b.toList (o.push x).toList (i+1) j:=by have:=h.addA H.sa 1 (by rw[nU hx];intro z hz y hy;rw[KO]at hz;subst hz;exact hc y hy);rw[nU hx]at this;rw[MA];exact this
theorem g9 (hs:Srt rk l)(hx:l[i]?=some x):∀ y∈l.drop i,rk x<=rk y:=fun y hy=>by obtain⟨p,h1,h2⟩:=a_ hy;exact fF hs hx h2 h1
theorem gc (hs:Srt rk l)(i n:Nat):Srt rk ((l.drop i).take n):=(hs.sublist (Mw _ _)).sublist (L6 _ _)
variable {st₀:SortSt}
def tz (rk:Keyed->Nat)(a b:Array Keyed)(st₀ st:SortSt)(n:Nat)(o:Array Keyed)(i j:Nat):Prop:=J rk a.toList b.toList o.toList i j/\i+1<a.size/\j<b.size/\n<=i+j/\∃ g,st=oO st₀ g
def wj (rk:Keyed->Nat)(a b:Array Keyed)(st₀ st:SortSt)(r:Option (Array Keyed)):Prop:=∃ x,r=some x/\Fin rk a.toList b.toList x.toList/\∃ g,st=oO st₀ g
theorem Gi (C:Cmp prog w A s κ S rk)(H:Ab rk S a b)(hk:kindOf st₀=κ)(last:∀ x∈b.toList,∀ y,a.toList[a.size-1]?=some y->rk x<=rk y){st:SortSt}{g n c d:Nat}(M:tz rk a b st₀ st n o i j) :
 wpS (model prog w) A E s (Ir a b g (r,o,i,j,c,d)) (fun q st'=>match q with
  | .done v=>wj rk a b st₀ st' v.1\/(v.1=none/\tz rk a b st₀ st' (n+1) v.2.1 v.2.2.1 v.2.2.2.1)
  | .yield v=>v.1=none/\tz rk a b st₀ st' (n+1) v.2.1 v.2.2.1 v.2.2.2.1) st:=by
 obtain⟨hJ,hi,hj,hn,g',rfl⟩:=M;obtain⟨y,y1,y2,y3⟩:=bj hj;obtain⟨x,x1,x2,x3⟩:=bj (show i<a.size by lia);unfold Ir;dsimp only;refine Kv (aV y1 (Kv (aV x1 (Kv (xk C (st:=oO st₀ g') (H.hb y y3) (H.ha x x3) hk ?_)))));dsimp only;by_cases h:rk y<rk x
 .rw[Kl h,Kf rfl];refine Kv (aV y1 ?_);have hJ':=hJ.pushB H y2 fun z hz=>KA (Lb h) (g9 H.sa x2 z hz);by_cases e:j+1=b.size
  .rw[Kf (by simpa using e)];exact KE (.inl ⟨_,rfl,Gh H hJ' (.inl e),_,rfl⟩)
  .rw[Kh (by simpa using e)];by_cases e2:d+1>=g
   .rw[Kf e2];exact KE (.inr ⟨rfl,hJ',hi,by dsimp only;lia,by dsimp only;lia,_,rfl⟩)
   .rw[Kh e2];exact KE ⟨rfl,hJ',hi,by dsimp only;lia,by dsimp only;lia,_,rfl⟩
 .rw[Kp h,Kh (by simp)];refine Kv (aV x1 ?_);have hJ':=hJ.pushA H x2 fun z hz=>KA (Mj h) (g9 H.sb y2 z hz);by_cases e:i+1+1=a.size
  .rw[Kf (by simpa using e)];exact KE (.inl ⟨_,rfl,Iv H last hJ' e,_,rfl⟩)
  .rw[Kh (by simpa using e)];by_cases e2:c+1>=g
   .rw[Kf e2];exact KE (.inr ⟨rfl,hJ',by dsimp only;lia,hj,by dsimp only;lia,_,rfl⟩)
   .rw[Kh e2];exact KE ⟨rfl,hJ',by dsimp only;lia,hj,by dsimp only;lia,_,rfl⟩
end
section
variable {prog:Ov}{w:World}{A:Ox}{E:Ow->Ot->Prop}{s:Ot}{κ:SortKind}{S:List Keyed}{rk:Keyed->Nat}{a b:Array Keyed}{st₀:SortSt}
def QG (rk:Keyed->Nat)(a b:Array Keyed)(st₀:SortSt)(n:Nat)(q:ForInStep G7)(st':SortSt):Prop:=match q with
 | .done v=>wj rk a b st₀ st' v.1\/(v.1=none/\tz rk a b st₀ st' n v.2.1 v.2.2.1 v.2.2.2.1)
 | .yield v=>v.1=none/\tz rk a b st₀ st' (n+1) v.2.1 v.2.2.1 v.2.2.2.1
theorem Cu (H:Ab rk S a b)(last:∀ x∈b.toList,∀ y,a.toList[a.size-1]?=some y->rk x<=rk y)(hJ:J rk a.toList b.toList o.toList i j)(hi:i+1<a.size)(hj:j<b.size)(hn:n<=i+j)
 (hc:∀ x,a.toList[i]?=some x->∀ y∈b.toList.drop j,rk x<=rk y):wpS (model prog w) A E s (Im a b g c d i o j) (QG rk a b st₀ n) (oO st₀ g'):=by
 obtain⟨x,x1,x2,x3⟩:=bj (show i<a.size by lia);unfold Im;refine Kv (aV x1 ?_);have hJ':=hJ.pushA H x2 (hc x x2);by_cases e:i+1+1=a.size
 .rw[Kf (by simpa using e)];exact KE (.inl ⟨_,rfl,Iv H last hJ' e,_,rfl⟩)
 .rw[Kh (by simpa using e)];split
  .exact KE (.inr ⟨rfl,hJ',by dsimp only;lia,hj,by dsimp only;lia,_,rfl⟩)
  .exact KE ⟨rfl,hJ',by dsimp only;lia,hj,by dsimp only;lia,_,rfl⟩
theorem Cv (C:Cmp prog w A s κ S rk)(H:Ab rk S a b)(hk:kindOf st₀=κ)(last:∀ x∈b.toList,∀ y,a.toList[a.size-1]?=some y->rk x<=rk y)(hJ:J rk a.toList b.toList o.toList i j)(hi:i+1<a.size)(hj:j<b.size)(hn:n<=i+j)
 (hc:∀ y,b.toList[j]?=some y->∀ x∈a.toList.drop i,rk y<=rk x):wpS (model prog w) A E s (DU a b g c d j o i) (QG rk a b st₀ n) (oO st₀ g'):=by
 obtain⟨y,y1,y2,y3⟩:=bj hj;obtain⟨x,x1,x2,x3⟩:=bj (show i<a.size by lia);unfold DU;refine Kv (aV y1 ?_);have hJ':=hJ.pushB H y2 (hc y y2);by_cases e:j+1=b.size
 .rw[Kf (by simpa using e)];exact KE (.inl ⟨_,rfl,Gh H hJ' (.inl e),_,rfl⟩)
 .rw[Kh (by simpa using e)];refine Kv (aV x1 (Kv (rP C (st:=oO st₀ g') hk (H.ha x x3) H.hb (gc H.sb _ _) (by lia) (by lia) fun k k1 k2 k3=>?_)));dsimp only;have hJ2:=hJ'.addB H.sb k fun z hz v hv=>by obtain⟨p,p1,p2,p3⟩:=gY hz;have h1:=k2 (p-(j+1)) z (by lia) (by rw[show j+1+(p-(j+1))=p by lia];exact p3);exact KA (Lb h1) (g9 H.sa x2 v hv)
  have hrest:∀ z∈b.toList.drop (j+1+k),rk x<=rk z:=fun z hz=>by obtain⟨p,p1,p3⟩:=a_ hz;have hp:=(Kc.mp p3).1;rw[KM]at hp;exact k3 (p-(j+1)) z (by lia) (by lia) (by rw[show j+1+(p-(j+1))=p by lia];exact p3)
  by_cases hk0:k>0
  .rw[Kf hk0];rw[<- kC,<- Lf]at hJ2;by_cases e2:j+1+k=b.size
   .rw[Kf (by simpa using e2)];exact KE (.inl ⟨_,rfl,Gh H hJ2 (.inl e2),_,rfl⟩)
   .rw[Kh (by simpa using e2)];exact Cu H last hJ2 hi (by lia) (by lia) fun x' hx' z hz=>by rw[x2]at hx';cases hx';exact hrest z hz
  .rw[Kh hk0];have:k=0:=by lia
   subst this;exact Cu H last hJ' hi (by lia) (by lia) fun x' hx' z hz=>by rw[x2]at hx';cases hx';exact hrest z hz
theorem Cw (C:Cmp prog w A s κ S rk)(H:Ab rk S a b)(hk:kindOf st₀=κ)(last:∀ x∈b.toList,∀ y,a.toList[a.size-1]?=some y->rk x<=rk y){st:SortSt}{o:Array Keyed}(M:tz rk a b st₀ st n o i j) :
 wpS (model prog w) A E s (Ip a b o i j c d g) (QG rk a b st₀ n) st:=by
 obtain⟨hJ,hi,hj,hn,g',rfl⟩:=M;obtain⟨y,y1,y2,y3⟩:=bj hj;unfold Ip;refine Kv (nT (Kv (aV y1 (Kv (rO C (st:=oO st₀ g) hk (H.hb y y3) H.ha (gc H.sa _ _) (by lia) (by lia) fun k k1 k2 k3=>?_)))));dsimp only;have hJ2:=hJ.addA H.sa k fun z hz v hv=>by obtain⟨p,p1,p2,p3⟩:=gY hz;have h1:=k2 (p-i) z (by lia) (by rw[show i+(p-i)=p by lia];exact p3);exact KA h1 (g9 H.sb y2 v hv)
 have hrest:∀ z∈a.toList.drop (i+k),rk y<=rk z:=fun z hz=>by obtain⟨p,p1,p3⟩:=a_ hz;have hp:=(Kc.mp p3).1;rw[KM]at hp;exact Lb (k3 (p-i) z (by lia) (by lia) (by rw[show i+(p-i)=p by lia];exact p3))
 by_cases hk0:k>0
 .rw[Kf hk0];rw[<- kC,<- Lf]at hJ2;by_cases e:i+k+1=a.size
  .rw[Kf (by simpa using e)];exact KE (.inl ⟨_,rfl,Iv H last hJ2 e,_,rfl⟩)
  .rw[Kh (by simpa using e)];by_cases e2:i+k=a.size
   .rw[Kf (by simpa using e2)];exact KE (.inl ⟨_,rfl,Gh H hJ2 (.inr e2),_,rfl⟩)
   .rw[Kh (by simpa using e2)];exact Cv C H hk last hJ2 (by lia) hj (by lia) fun y' hy' z hz=>by rw[y2]at hy';cases hy';exact hrest z hz
 .rw[Kh hk0];have:k=0:=by lia
  subst this;exact Cv C H hk last hJ hi hj hn fun y' hy' z hz=>by rw[y2]at hy';cases hy';exact hrest z hz
theorem Gj (C:Cmp prog w A s κ S rk)(H:Ab rk S a b)(hk:kindOf st₀=κ)(last:∀ x∈b.toList,∀ y,a.toList[a.size-1]?=some y->rk x<=rk y){n g c d i j:Nat}{st:SortSt}(M:tz rk a b st₀ st n o i j) :
 wpS (model prog w) A E s (Iq a b (r,o,i,j,g,c,d)) (QG rk a b st₀ n) st:=by
 unfold Iq;dsimp only;split
 .exact Cw C H hk last M
 .exact Cw C H hk last M
theorem Gk (C:Cmp prog w A s κ S rk)(H:Ab rk S a b)(hk:kindOf st₀=κ)(last:∀ x∈b.toList,∀ y,a.toList[a.size-1]?=some y->rk x<=rk y){n g i j:Nat}{st:SortSt}(M:tz rk a b st₀ st n o i j) :
 wpS (model prog w) A E s (Iu a b (r,o,i,j,g)) (fun q st'=>match q with
  | .done v=>wj rk a b st₀ st' v.1
  | .yield v=>v.1=none/\tz rk a b st₀ st' (n+1) v.2.1 v.2.2.1 v.2.2.2.1) st:=by
 have ht:0<a.size+b.size:=by have:=M.2.1;lia
 unfold Iu;dsimp only;refine Kv (LI (LG (I:=fun m (v:G6) st'=>v.1=none/\tz rk a b st₀ st' (n+m) v.2.1 v.2.2.1 v.2.2.2.1) (Q:=fun v st'=>wj rk a b st₀ st' v.1\/(v.1=none/\tz rk a b st₀ st' (n+1) v.2.1 v.2.2.1 v.2.2.2.1)) ?_ ?_ ⟨rfl,M⟩) ?_)
 .rintro m ⟨r,o,i,j,c,d⟩ st' _ hm ⟨rfl,M'⟩;refine LI (Gi C H hk last M') fun q st2 hq=>?_;cases q with
  |done v=>
   rcases hq with hq|⟨h1,h2⟩
   .exact .inl hq
   .exact .inr ⟨h1,h2.1,h2.2.1,h2.2.2.1,by have:=h2.2.2.2.1;lia,h2.2.2.2.2⟩
  |yield v=>exact hq
 .rintro⟨r,o,i,j,c,d⟩ st' ⟨rfl,M'⟩;exact .inr ⟨rfl,M'.1,M'.2.1,M'.2.2.1,by have:=M'.2.2.2.1;lia,M'.2.2.2.2⟩
 .rintro⟨r,o,i,j,c,d⟩ st' hq;rcases hq with⟨x,e,hF,g',rfl⟩|⟨e,M'⟩
  .dsimp only at e ⊢;subst e;exact KE ⟨x,rfl,hF,g',rfl⟩
  .dsimp only at e M' ⊢;subst e;refine Kv (iQ ?_);refine Kv (LI (LG (I:=fun m (v:G7) st'=>v.1=none/\tz rk a b st₀ st' (n+1+m) v.2.1 v.2.2.1 v.2.2.2.1) (Q:=fun v st'=>wj rk a b st₀ st' v.1\/(v.1=none/\tz rk a b st₀ st' (n+1) v.2.1 v.2.2.1 v.2.2.2.1)) ?_ ?_ ⟨rfl,M'⟩) ?_)
   .rintro m ⟨r,o,i,j,g,c,d⟩ st' _ hm ⟨rfl,M'⟩;refine LI (Gj C H hk last M') fun q st2 hq=>?_;cases q with
    |done v=>
     rcases hq with hq|⟨h1,h2⟩
     .exact .inl hq
     .exact .inr ⟨h1,h2.1,h2.2.1,h2.2.2.1,by have:=h2.2.2.2.1;lia,h2.2.2.2.2⟩
    |yield v=>exact hq
   .rintro⟨r,o,i,j,g,c,d⟩ st' ⟨rfl,M'⟩;exact .inr ⟨rfl,M'.1,M'.2.1,M'.2.2.1,by have:=M'.2.2.2.1;lia,M'.2.2.2.2⟩
   .rintro⟨r,o,i,j,g,c,d⟩ st' hq;rcases hq with⟨x,e,hF,g',rfl⟩|⟨e,h1,h2,h3,h4,g',rfl⟩
    .dsimp only at e ⊢;subst e;exact KE ⟨x,rfl,hF,g',rfl⟩
    .dsimp only at e h1 h2 h3 h4 ⊢;subst e;exact Kv (nT (KE ⟨rfl,h1,h2,h3,h4,_,rfl⟩))
theorem vh (C:Cmp prog w A s κ S rk)(H:Ab rk S a b)(hk:kindOf st₀=κ)(na:1<=a.size)(nb:1<=b.size)(first:∀ x,b.toList[0]?=some x->∀ y∈a.toList,rk x<=rk y)(last:∀ x∈b.toList,∀ y,a.toList[a.size-1]?=some y->rk x<=rk y)
 (hq:∀ o g,Fin rk a.toList b.toList o.toList->Q o (oO st₀ g)):wpS (model prog w) A E s (gZ a b) Q st₀:=by
 obtain⟨y,y1,y2,y3⟩:=bj (show 0<b.size by lia);have J0:J rk a.toList b.toList [] 0 0:=⟨by simp,List.Pairwise.nil,(fun x hx=>by cases hx),fun x hx=>by cases hx⟩;have hJ:J rk a.toList b.toList (#[y]:Array Keyed).toList 0 1:=J.pushB (o:=#[]) J0 H y2 fun x hx=>first y y2 x (by simpa using hx);rw[pE];refine Kv (iQ (Kv (aV y1 ?_)));by_cases e:1=b.size
 .rw[Kf (by simpa using e)];exact KE (hq _ (gallopOf st₀) (Gh H hJ (.inl e)))
 .rw[Kh (by simpa using e)];by_cases e2:0+1=a.size
  .rw[Kf (by simpa using e2)];exact KE (hq _ (gallopOf st₀) (Iv H last hJ e2))
  .rw[Kh (by simpa using e2)];refine Kv (wpS_get (Kv (LI (LG (I:=fun m (v:G5) st'=>v.1=none/\tz rk a b st₀ st' (1+m) v.2.1 v.2.2.1 v.2.2.2.1) (Q:=fun v st'=>wj rk a b st₀ st' v.1) ?_ ?_ ⟨rfl,hJ,by dsimp only;lia,by dsimp only;lia,by dsimp only;lia,gallopOf st₀,rfl⟩) ?_)))
   .rintro m ⟨r,o,i,j,g⟩ st' _ hm ⟨rfl,M'⟩;refine LI (Gk C H hk last M') fun q st2 hq=>?_;cases q with
    |done v=>exact hq
    |yield v=>exact hq
   .rintro⟨r,o,i,j,g⟩ st' ⟨rfl,h1,h2,h3,h4,_⟩;dsimp only at h2 h3 h4;lia
   .rintro⟨r,o,i,j,g⟩ st' ⟨x,e,hF,g',rfl⟩;dsimp only at e ⊢;subst e;exact KE (hq _ _ hF)
end
section
variable {rk:Keyed->Nat}
structure JH (rk:Keyed->Nat) (al bl o:List Keyed) (i j:Nat):Prop where
 perm:o.Perm (al.drop i++bl.drop j)
 srt:o.Pairwise fun x y=>rk y<=rk x
 la:∀ x∈o,∀ y∈al.take i,rk y<=rk x
 lb:∀ x∈o,∀ y∈bl.take j,rk y<=rk x
variable {al bl o:List Keyed}{i j:Nat}
theorem JH.swap (h:JH rk al bl o i j):JH rk bl al o j i:=⟨h.perm.trans Mn,h.srt,h.lb,h.la⟩
theorem JH.addA (h:JH rk al bl o i j)(sa:Srt rk al)(hm:m<=i)(hc:∀ x∈(al.take i).drop m,∀ y∈bl.take j,rk y<=rk x):JH rk al bl (o++((al.take i).drop m).reverse) m j:=by
 have st:Srt rk (al.take i):=sa.sublist (L6 _ _);have e1:al.take i=al.take m++(al.take i).drop m:=by
  have:(al.take i).take m=al.take m:=by rw[List.take_take,N0 hm]
  rw[<- this,KL]
 have e2:al.drop m=(al.take i).drop m++al.drop i:=by
  conv=>lhs;rw[<- KL i al]
  by_cases c:m<=(al.take i).length
  .rw[NM c]
  .have h1:(al.take i).length=al.length:=by rw[K7]at c ⊢;lia
   have h2:al.drop i=[]:=LA (by rw[K7]at h1 c;lia);rw[h2,La,La]
 have st2:=st;rw[e1]at st2;have pw:=Ls.mp st2;refine⟨?_,Ls.mpr ⟨h.srt,?_,fun x hx y hy=>h.la x hx y (Lr (Ol.mp hy))⟩,fun x hx y hy=>?_,fun x hx y hy=>?_⟩
 .rw[e2];refine(h.perm.append_right _).trans ?_;refine Mn.trans ?_;rw[Ko];exact((List.reverse_perm _).append_right _)
 .rw[NI];exact pw.2.1
 .rcases Ku.mp hx with hx|hx
  .exact h.la x hx y (by rw[e1];exact KP _ hy)
  .exact pw.2.2 y hy x (Ol.mp hx)
 .rcases Ku.mp hx with hx|hx
  .exact h.lb x hx y hy
  .exact hc x (Ol.mp hx) y hy
theorem JH.addB (h:JH rk al bl o i j)(sb:Srt rk bl)(hm:m<=j)(hc:∀ x∈(bl.take j).drop m,∀ y∈al.take i,rk y<=rk x):JH rk al bl (o++((bl.take j).drop m).reverse) i m:=(h.swap.addA sb hm hc).swap
theorem JH.end_ (h:JH rk al bl o 0 0):Fin rk al bl o.reverse:=by have:=h.perm;rw[Mr,Mr]at this;exact⟨(List.reverse_perm _).trans this,by unfold Srt;rw[NI];exact h.srt⟩
theorem JH.restA (h:JH rk al bl o i j)(sa:Srt rk al)(sb:Srt rk bl)(hc:∀ x∈bl.take j,∀ y∈al.take i,rk y<=rk x):Fin rk al bl (al.take i++bl.take j++o.reverse):=by have h1:=h.addB sb (m:=0) (KU _) (by rw[Mr];exact hc);have h2:=h1.addA sa (m:=0) (KU _) (fun x _ y hy=>by rw[NF]at hy;cases hy);have:=h2.end_;rw[Mr,Mr,List.reverse_append,List.reverse_append,List.reverse_reverse,List.reverse_reverse,<- Ko]at this;exact this
theorem JH.restB (h:JH rk al bl o i j)(sa:Srt rk al)(sb:Srt rk bl)(hc:∀ x∈al.take i,∀ y∈bl.take j,rk y<=rk x):Fin rk al bl (bl.take j++al.take i++o.reverse):=let f:=h.swap.restA sb sa hc;⟨f.1.trans Mn,f.2⟩
theorem bc {l:List Keyed}(h:x∈l.take i):∃ p,p<i/\l[p]?=some x:=by
 obtain⟨m,hm⟩:=KG.mp h;rw[K_]at hm;by_cases c:m<i
 .rw[Kf c]at hm;exact⟨m,c,hm⟩
 .rw[Kh c]at hm;cases hm
theorem kE {l:List Keyed}(h:x∈(l.take i).drop m):∃ p,m<=p/\p<i/\l[p]?=some x:=by
 obtain⟨q,h1,h2⟩:=a_ h;rw[K_]at h2;by_cases c:q<i
 .rw[Kf c]at h2;exact⟨q,h1,c,h2⟩
 .rw[Kh c]at h2;cases h2
theorem jR {l:List Keyed}(h:l[i]?=some x):(l.take (i+1)).drop i=[x]:=by obtain⟨h1,h2⟩:=Kc.mp h;rw[Ms h1,NM (by rw[K7];lia),LA (by rw[K7];lia),h2];rfl
theorem jS (a:Array Keyed)(m i:Nat):(a.extract m i).toList=(a.toList.take i).drop m:=by simp[M9,List.extract_eq_drop_take,List.drop_take]
theorem g_ (a:Array Keyed)(i:Nat):(a.extract 0 i).toList=a.toList.take i:=by rw[jS,Mr]
theorem hG {l:List Keyed}(hs:Srt rk l)(hx:l[i]?=some x):∀ y∈l.take (i+1),rk y<=rk x:=fun y hy=>by obtain⟨p,h1,h2⟩:=bc hy;exact fF hs h2 hx (by lia)
end
noncomputable def hI:Array Keyed->Array Keyed->SM (Array Keyed):=sortPriv% PySem.Builtin.mergeHi
noncomputable abbrev dh (a b o:Array Keyed)(i j:Nat):Array Keyed:=a.extract 0 i++b.extract 0 j++o.reverse
noncomputable abbrev fh (a b o:Array Keyed)(i j:Nat):Array Keyed:=b.extract 0 j++a.extract 0 i++o.reverse
noncomputable abbrev H7:=Option (Array Keyed)×Nat×Nat×Array Keyed×Nat×Nat×Nat
noncomputable def hi3 (a b:Array Keyed)(g c d i:Nat)(j:Nat)(o:Array Keyed):SM (ForInStep H7):=do
 let x <- elem' a (i-1)
 if i-1==0 then return .done (some (dh a b (o.push x) (i-1) j),i-1,j,o.push x,g,c,d)
 if c<7&&d<7 then return .done (none,i-1,j,o.push x,g,c,d)
 return .yield (none,i-1,j,o.push x,g,c,d)
noncomputable def hi2 (a b:Array Keyed)(g c d j:Nat)(i:Nat)(o:Array Keyed):SM (ForInStep H7):=do
 let y <- elem' b (j-1)
 if j-1==1 then return .done (some (fh a b (o.push y) i (j-1)),i,j-1,o.push y,g,c,d)
 let x <- elem' a (i-1)
 let some k <- cr true x b 0 (j-1) (j-1-1)|return .done (some (dh a b (o.push y) i (j-1)),i,j-1,o.push y,g,c,d)
 if j-1-k>0 then
  if k==1 then return .done (some (fh a b (o.push y++(b.extract k (j-1)).reverse) i k),i,k,o.push y++(b.extract k (j-1)).reverse,g,c,j-1-k)
  if k==0 then return .done (some (dh a b (o.push y++(b.extract k (j-1)).reverse) i k),i,k,o.push y++(b.extract k (j-1)).reverse,g,c,j-1-k)
  hi3 a b g c (j-1-k) i k (o.push y++(b.extract k (j-1)).reverse)
 else hi3 a b g c (j-1-k) i (j-1) (o.push y)
noncomputable def Cy (a b:Array Keyed)(o:Array Keyed)(i j c d g:Nat):SM (ForInStep H7):=do
 mQ g
 let y <- elem' b (j-1)
 let some k <- cr false y a 0 i (i-1)|return .done (some (dh a b o i j),i,j,o,g,c,d)
 if i-k>0 then
  if k==0 then return .done (some (dh a b (o++(a.extract k i).reverse) k j),k,j,o++(a.extract k i).reverse,g,i-k,d)
  hi2 a b g (i-k) d j k (o++(a.extract k i).reverse)
 else hi2 a b g (i-k) d j i o
noncomputable def Iw (a b:Array Keyed)(u:H7):SM (ForInStep H7):=if u.2.2.2.2.1>1 then Cy a b u.2.2.2.1 u.2.1 u.2.2.1 u.2.2.2.2.2.1 u.2.2.2.2.2.2 (u.2.2.2.2.1-1) else Cy a b u.2.2.2.1 u.2.1 u.2.2.1 u.2.2.2.2.2.1 u.2.2.2.2.2.2 u.2.2.2.2.1
noncomputable abbrev H6:=Option (Array Keyed)×Nat×Nat×Array Keyed×Nat×Nat
noncomputable def Iy (a b:Array Keyed)(g:Nat)(u:H6):SM (ForInStep H6):=do
 let y <- elem' b (u.2.2.1-1)
 let x <- elem' a (u.2.1-1)
 let some z <- lt' y x|return .done (some (dh a b u.2.2.2.1 u.2.1 u.2.2.1),u.2)
 if z then
  let x <- elem' a (u.2.1-1)
  if u.2.1-1==0 then return .done (some (dh a b (u.2.2.2.1.push x) (u.2.1-1) u.2.2.1),u.2.1-1,u.2.2.1,u.2.2.2.1.push x,u.2.2.2.2.1+1,0)
  if u.2.2.2.2.1+1>=g then return .done (none,u.2.1-1,u.2.2.1,u.2.2.2.1.push x,u.2.2.2.2.1+1,0)
  return .yield (none,u.2.1-1,u.2.2.1,u.2.2.2.1.push x,u.2.2.2.2.1+1,0)
 else
  let y <- elem' b (u.2.2.1-1)
  if u.2.2.1-1==1 then return .done (some (fh a b (u.2.2.2.1.push y) u.2.1 (u.2.2.1-1)),u.2.1,u.2.2.1-1,u.2.2.2.1.push y,0,u.2.2.2.2.2+1)
  if u.2.2.2.2.2+1>=g then return .done (none,u.2.1,u.2.2.1-1,u.2.2.2.1.push y,0,u.2.2.2.2.2+1)
  return .yield (none,u.2.1,u.2.2.1-1,u.2.2.2.1.push y,0,u.2.2.2.2.2+1)
noncomputable abbrev H5:=Option (Array Keyed)×Nat×Nat×Array Keyed×Nat
noncomputable def Iz (a b:Array Keyed)(u:H5):SM (ForInStep H5):=do
 let r <- forIn [0:a.size+b.size] ((none,u.2.1,u.2.2.1,u.2.2.2.1,0,0):H6) fun _ v=>Iy a b u.2.2.2.2 v
 match r.1 with
 |some x=>pure (.done (some x,r.2.1,r.2.2.1,r.2.2.2.1,u.2.2.2.2))
 |none=>do
  rule "list.sort.gallop"
  let q <- forIn [0:a.size+b.size] ((none,r.2.1,r.2.2.1,r.2.2.2.1,u.2.2.2.2+1,r.2.2.2.2.1,r.2.2.2.2.2):H7) fun _ v=>Iw a b v
  match q.1 with
  |some x=>pure (.done (some x,q.2.1,q.2.2.1,q.2.2.2.1,q.2.2.2.2.1))
  |none=>do
   mQ (q.2.2.2.2.1+1)
   pure (.yield (none,q.2.1,q.2.2.1,q.2.2.2.1,q.2.2.2.2.1+1))
theorem pF (a b:Array Keyed):hI a b=(do
 rule "list.sort.merge-hi"
 let x <- elem' a (a.size-1)
 if a.size-1==0 then return dh a b #[x] (a.size-1) b.size
 if b.size==1 then return fh a b #[x] (a.size-1) b.size
 let st <- get
 let r <- forIn [0:a.size+b.size] ((none,a.size-1,b.size,#[x],gallopOf st):H5) fun _ v=>Iz a b v
 match r.1 with
 |some x=>pure x
 |none=>unsupported "internal:list.sort.merge-bound"):=by
 delta hI
 show(liftM (rule "list.sort.merge-hi") >>= _)=_;refine KN (liftM (rule "list.sort.merge-hi") >>= ·) ?_;funext _;refine KN (elem' a (a.size-1) >>= ·) ?_;funext y;dsimp only;refine Og rfl (fun _=>rfl) fun _=>Og rfl (fun _=>rfl) fun _=>?_;refine KN (get >>= ·) ?_;funext st;refine congr (KN Bind.bind ?_) ?_
 .refine KN (forIn [0:a.size+b.size] ((none,a.size-1,b.size,#[y],gallopOf st):H5)) ?_;funext _ u;obtain⟨r,i,j,o,g⟩:=u;unfold Iz;dsimp only;refine congr (KN Bind.bind ?_) ?_
  .refine KN (forIn [0:a.size+b.size] ((none,i,j,o,0,0):H6)) ?_;funext _ v;obtain⟨r,i,j,o,c,d⟩:=v;unfold Iy;rfl
  .funext v;obtain⟨r,i,j,o,c,d⟩:=v;cases r with
   |some x=>rfl
   |none=>
    refine KN (liftM (rule "list.sort.gallop") >>= ·) ?_;funext _;refine congr (KN Bind.bind ?_) ?_
    .refine KN (forIn [0:a.size+b.size] ((none,i,j,o,g+1,c,d):H7)) ?_;funext _ v;obtain⟨r,i,j,o,g,c,d⟩:=v;unfold Iw;rfl
    .funext v;obtain⟨r,i,j,o,g,c,d⟩:=v;cases r with
     |some x=>rfl
     |none=>rfl
 .funext v;obtain⟨r,i,j,o,g⟩:=v;cases r with
  |some x=>rfl
  |none=>rfl
section
variable {prog:Ov}{w:World}{A:Ox}{E:Ow->Ot->Prop}{s:Ot}{κ:SortKind}{S:List Keyed}{rk:Keyed->Nat}{a b:Array Keyed}{st₀:SortSt}
theorem AG (a b o:Array Keyed)(i j:Nat):(dh a b o i j).toList=a.toList.take i++b.toList.take j++o.toList.reverse:=by rw[Lf,Lf,g_,g_,M_]
theorem AH (a b o:Array Keyed)(i j:Nat):(fh a b o i j).toList=b.toList.take j++a.toList.take i++o.toList.reverse:=by rw[Lf,Lf,g_,g_,M_]
theorem Gm (H:Ab rk S a b)(h:JH rk a.toList b.toList o.toList i j)(e:i=0\/j=0):Fin rk a.toList b.toList (dh a b o i j).toList:=by
 rw[AG];refine h.restA H.sa H.sb fun x hx y hy=>?_;rcases e with e|e
 .rw[e,NF]at hy;cases hy
 .rw[e,NF]at hx;cases hx
theorem IA (H:Ab rk S a b)(first:∀ x,b.toList[0]?=some x->∀ y∈a.toList,rk x<=rk y)(h:JH rk a.toList b.toList o.toList i 1):Fin rk a.toList b.toList (fh a b o i 1).toList:=by rw[AH];refine h.restB H.sa H.sb fun x hx y hy=>?_;obtain⟨p,h1,h2⟩:=bc hy;rw[show p=0 by lia]at h2;exact first y h2 x (Lk hx)
theorem JH.pushA {o:Array Keyed}(h:JH rk a.toList b.toList o.toList (i+1) j)(H:Ab rk S a b)(hx:a.toList[i]?=some x)(hc:∀ y∈b.toList.take j,rk y<=rk x):JH rk a.toList b.toList (o.push x).toList i j:=by have:=h.addA H.sa (m:=i) (by lia) (by rw[jR hx];intro z hz y hy;rw[KO]at hz;subst hz;exact hc y hy);rw[jR hx]at this;rw[MA];exact this
theorem JH.pushB {o:Array Keyed}(h:JH rk a.toList b.toList o.toList i (j+1))(H:Ab rk S a b)(hy:b.toList[j]?=some y)(hc:∀ x∈a.toList.take i,rk x<=rk y):JH rk a.toList b.toList (o.push y).toList i j:=by have:=h.addB H.sb (m:=j) (by lia) (by rw[jR hy];intro z hz x hx;rw[KO]at hz;subst hz;exact hc x hx);rw[jR hy]at this;rw[MA];exact this
def hU (rk:Keyed->Nat)(a b:Array Keyed)(st₀ st:SortSt)(n:Nat)(o:Array Keyed)(i j:Nat):Prop:=JH rk a.toList b.toList o.toList i j/\(0<i/\i<=a.size)/\(1<j/\j<=b.size)/\i+j+n+1<=a.size+b.size/\∃ g,st=oO st₀ g
theorem Gn (C:Cmp prog w A s κ S rk)(H:Ab rk S a b)(hk:kindOf st₀=κ)(first:∀ x,b.toList[0]?=some x->∀ y∈a.toList,rk x<=rk y){st:SortSt}{g n c d:Nat}(M:hU rk a b st₀ st n o i j) :
 wpS (model prog w) A E s (Iy a b g (r,i,j,o,c,d)) (fun q st'=>match q with
  | .done v=>wj rk a b st₀ st' v.1\/(v.1=none/\hU rk a b st₀ st' (n+1) v.2.2.2.1 v.2.1 v.2.2.1)
  | .yield v=>v.1=none/\hU rk a b st₀ st' (n+1) v.2.2.2.1 v.2.1 v.2.2.1) st:=by
 obtain⟨hJ,hi,hj,hn,g',rfl⟩:=M;obtain⟨i,rfl⟩ : ∃ m,i=m+1:=⟨i-1,by lia⟩;obtain⟨j,rfl⟩ : ∃ m,j=m+1:=⟨j-1,by lia⟩;obtain⟨y,y1,y2,y3⟩:=bj (show j<b.size by lia);obtain⟨x,x1,x2,x3⟩:=bj (show i<a.size by lia);unfold Iy;simp only[N7];refine Kv (aV y1 (Kv (aV x1 (Kv (xk C (st:=oO st₀ g') (H.hb y y3) (H.ha x x3) hk ?_)))));dsimp only;by_cases h:rk y<rk x
 .rw[Kl h,Kf rfl];refine Kv (aV x1 ?_);have hJ':=hJ.pushA H x2 fun z hz=>KA (hG H.sb y2 z hz) (Lb h);by_cases e:i=0
  .rw[Kf (by simpa using e)];exact KE (.inl ⟨_,rfl,Gm H hJ' (.inl e),_,rfl⟩)
  .rw[Kh (by simpa using e)];by_cases e2:c+1>=g
   .rw[Kf e2];exact KE (.inr ⟨rfl,hJ',⟨by dsimp only;lia,by dsimp only;lia⟩,hj,by dsimp only;lia,_,rfl⟩)
   .rw[Kh e2];exact KE ⟨rfl,hJ',⟨by dsimp only;lia,by dsimp only;lia⟩,hj,by dsimp only;lia,_,rfl⟩
 .rw[Kp h,Kh (by simp)];refine Kv (aV y1 ?_);have hJ':=hJ.pushB H y2 fun z hz=>KA (hG H.sa x2 z hz) (Mj h);by_cases e:j=1
  .rw[Kf (by simpa using e)];subst e;exact KE (.inl ⟨_,rfl,IA H first hJ',_,rfl⟩)
  .rw[Kh (by simpa using e)];by_cases e2:d+1>=g
   .rw[Kf e2];exact KE (.inr ⟨rfl,hJ',hi,⟨by dsimp only;lia,by dsimp only;lia⟩,by dsimp only;lia,_,rfl⟩)
   .rw[Kh e2];exact KE ⟨rfl,hJ',hi,⟨by dsimp only;lia,by dsimp only;lia⟩,by dsimp only;lia,_,rfl⟩
def QH (rk:Keyed->Nat)(a b:Array Keyed)(st₀:SortSt)(n:Nat)(q:ForInStep H7)(st':SortSt):Prop:=match q with
 | .done v=>wj rk a b st₀ st' v.1\/(v.1=none/\hU rk a b st₀ st' n v.2.2.2.1 v.2.1 v.2.2.1)
 | .yield v=>v.1=none/\hU rk a b st₀ st' (n+1) v.2.2.2.1 v.2.1 v.2.2.1
theorem Cz (H:Ab rk S a b)(hJ:JH rk a.toList b.toList o.toList i j)(hi:0<i/\i<=a.size)(hj:1<j/\j<=b.size)(hn:i+j+n+1<=a.size+b.size)
 (hc:∀ x,a.toList[i-1]?=some x->∀ y∈b.toList.take j,rk y<=rk x):wpS (model prog w) A E s (hi3 a b g c d i j o) (QH rk a b st₀ n) (oO st₀ g'):=by
 obtain⟨i,rfl⟩ : ∃ m,i=m+1:=⟨i-1,by lia⟩;obtain⟨x,x1,x2,x3⟩:=bj (show i<a.size by lia);unfold hi3;simp only[N7]at hc ⊢;refine Kv (aV x1 ?_);have hJ':=hJ.pushA H x2 (hc x x2);by_cases e:i=0
 .rw[Kf (by simpa using e)];exact KE (.inl ⟨_,rfl,Gm H hJ' (.inl e),_,rfl⟩)
 .rw[Kh (by simpa using e)];split
  .exact KE (.inr ⟨rfl,hJ',⟨by dsimp only;lia,by dsimp only;lia⟩,hj,by dsimp only;lia,_,rfl⟩)
  .exact KE ⟨rfl,hJ',⟨by dsimp only;lia,by dsimp only;lia⟩,hj,by dsimp only;lia,_,rfl⟩
theorem CA (C:Cmp prog w A s κ S rk)(H:Ab rk S a b)(hk:kindOf st₀=κ)(first:∀ x,b.toList[0]?=some x->∀ y∈a.toList,rk x<=rk y)(hJ:JH rk a.toList b.toList o.toList i j)(hi:0<i/\i<=a.size)(hj:1<j/\j<=b.size)(hn:i+j+n+1<=a.size+b.size)
 (hc:∀ y,b.toList[j-1]?=some y->∀ x∈a.toList.take i,rk x<=rk y):wpS (model prog w) A E s (hi2 a b g c d j i o) (QH rk a b st₀ n) (oO st₀ g'):=by
 obtain⟨j,rfl⟩ : ∃ m,j=m+1:=⟨j-1,by lia⟩;obtain⟨y,y1,y2,y3⟩:=bj (show j<b.size by lia);obtain⟨x,x1,x2,x3⟩:=bj (show i-1<a.size by lia);unfold hi2;simp only[N7]at hc ⊢;refine Kv (aV y1 ?_);have hJ':=hJ.pushB H y2 (hc y y2);by_cases e:j=1
 .rw[Kf (by simpa using e)];subst e;exact KE (.inl ⟨_,rfl,IA H first hJ',_,rfl⟩)
 .rw[Kh (by simpa using e)];refine Kv (aV x1 (Kv (rP C (st:=oO st₀ g') hk (H.ha x x3) H.hb (gc H.sb _ _) (by lia) (by lia) fun k k1 k2 k3=>?_)));dsimp only;have xa:∀ v∈a.toList.take i,rk v<=rk x:=fun v hv=>hG H.sa x2 v (by rw[show i-1+1=i by lia];exact hv);have hJ2:=hJ'.addB H.sb k1 fun z hz v hv=>by obtain⟨p,p1,p2,p3⟩:=kE hz;have h1:=k3 p z p1 p2 (by rw[MF];exact p3);exact KA (xa v hv) h1
  have hrest:∀ z∈b.toList.take k,rk z<=rk x:=fun z hz=>by obtain⟨p,p1,p3⟩:=bc hz;exact Lb (k2 p z p1 (by rw[MF];exact p3))
  by_cases hk0:j-k>0
  .rw[Kf hk0];rw[<- jS,<- M_,<- Lf]at hJ2;by_cases e2:k=1
   .rw[Kf (by simpa using e2)];subst e2;exact KE (.inl ⟨_,rfl,IA H first hJ2,_,rfl⟩)
   .rw[Kh (by simpa using e2)];by_cases e3:k=0
    .rw[Kf (by simpa using e3)];exact KE (.inl ⟨_,rfl,Gm H hJ2 (.inr e3),_,rfl⟩)
    .rw[Kh (by simpa using e3)];exact Cz H hJ2 hi (by lia) (by lia) fun x' hx' z hz=>by rw[x2]at hx';cases hx';exact hrest z hz
  .rw[Kh hk0];have:k=j:=by lia
   subst this;exact Cz H hJ' hi (by lia) (by lia) fun x' hx' z hz=>by rw[x2]at hx';cases hx';exact hrest z hz
theorem CB (C:Cmp prog w A s κ S rk)(H:Ab rk S a b)(hk:kindOf st₀=κ)(first:∀ x,b.toList[0]?=some x->∀ y∈a.toList,rk x<=rk y){st:SortSt}{o:Array Keyed}(M:hU rk a b st₀ st n o i j) :
 wpS (model prog w) A E s (Cy a b o i j c d g) (QH rk a b st₀ n) st:=by
 obtain⟨hJ,hi,hj,hn,g',rfl⟩:=M;obtain⟨y,y1,y2,y3⟩:=bj (show j-1<b.size by lia);unfold Cy;refine Kv (nT (Kv (aV y1 (Kv (rO C (st:=oO st₀ g) hk (H.hb y y3) H.ha (gc H.sa _ _) (by lia) (by lia) fun k k1 k2 k3=>?_)))));dsimp only;have yb:∀ v∈b.toList.take j,rk v<=rk y:=fun v hv=>hG H.sb y2 v (by rw[show j-1+1=j by lia];exact hv);have hJ2:=hJ.addA H.sa k1 fun z hz v hv=>by obtain⟨p,p1,p2,p3⟩:=kE hz;have h1:=k3 p z p1 p2 (by rw[MF];exact p3);exact KA (yb v hv) (Lb h1)
 have hrest:∀ z∈a.toList.take k,rk z<=rk y:=fun z hz=>by obtain⟨p,p1,p3⟩:=bc hz;exact k2 p z p1 (by rw[MF];exact p3)
 by_cases hk0:i-k>0
 .rw[Kf hk0];rw[<- jS,<- M_,<- Lf]at hJ2;by_cases e:k=0
  .rw[Kf (by simpa using e)];exact KE (.inl ⟨_,rfl,Gm H hJ2 (.inl e),_,rfl⟩)
  .rw[Kh (by simpa using e)];exact CA C H hk first hJ2 (by lia) hj (by lia) fun y' hy' z hz=>by rw[y2]at hy';cases hy';exact hrest z hz
 .rw[Kh hk0];have:k=i:=by lia
  subst this;exact CA C H hk first hJ hi hj hn fun y' hy' z hz=>by rw[y2]at hy';cases hy';exact hrest z hz
theorem Gs (C:Cmp prog w A s κ S rk)(H:Ab rk S a b)(hk:kindOf st₀=κ)(first:∀ x,b.toList[0]?=some x->∀ y∈a.toList,rk x<=rk y){n g c d i j:Nat}{st:SortSt}(M:hU rk a b st₀ st n o i j) :
 wpS (model prog w) A E s (Iw a b (r,i,j,o,g,c,d)) (QH rk a b st₀ n) st:=by
 unfold Iw;dsimp only;split
 .exact CB C H hk first M
 .exact CB C H hk first M
theorem Gu (C:Cmp prog w A s κ S rk)(H:Ab rk S a b)(hk:kindOf st₀=κ)(first:∀ x,b.toList[0]?=some x->∀ y∈a.toList,rk x<=rk y){n g i j:Nat}{st:SortSt}(M:hU rk a b st₀ st n o i j) :
 wpS (model prog w) A E s (Iz a b (r,i,j,o,g)) (fun q st'=>match q with
  | .done v=>wj rk a b st₀ st' v.1
  | .yield v=>v.1=none/\hU rk a b st₀ st' (n+1) v.2.2.2.1 v.2.1 v.2.2.1) st:=by
 have ht:0<a.size+b.size:=by have:=M.2.1;lia
 unfold Iz;dsimp only;refine Kv (LI (LG (I:=fun m (v:H6) st'=>v.1=none/\hU rk a b st₀ st' (n+m) v.2.2.2.1 v.2.1 v.2.2.1) (Q:=fun v st'=>wj rk a b st₀ st' v.1\/(v.1=none/\hU rk a b st₀ st' (n+1) v.2.2.2.1 v.2.1 v.2.2.1)) ?_ ?_ ⟨rfl,M⟩) ?_)
 .rintro m ⟨r,i,j,o,c,d⟩ st' _ hm ⟨rfl,M'⟩;refine LI (Gn C H hk first M') fun q st2 hq=>?_;cases q with
  |done v=>
   rcases hq with hq|⟨h1,h2⟩
   .exact .inl hq
   .exact .inr ⟨h1,h2.1,h2.2.1,h2.2.2.1,by have:=h2.2.2.2.1;lia,h2.2.2.2.2⟩
  |yield v=>exact hq
 .rintro⟨r,i,j,o,c,d⟩ st' ⟨rfl,M'⟩;exact .inr ⟨rfl,M'.1,M'.2.1,M'.2.2.1,by have:=M'.2.2.2.1;lia,M'.2.2.2.2⟩
 .rintro⟨r,i,j,o,c,d⟩ st' hq;rcases hq with⟨x,e,hF,g',rfl⟩|⟨e,M'⟩
  .dsimp only at e ⊢;subst e;exact KE ⟨x,rfl,hF,g',rfl⟩
  .dsimp only at e M' ⊢;subst e;refine Kv (iQ ?_);refine Kv (LI (LG (I:=fun m (v:H7) st'=>v.1=none/\hU rk a b st₀ st' (n+1+m) v.2.2.2.1 v.2.1 v.2.2.1) (Q:=fun v st'=>wj rk a b st₀ st' v.1\/(v.1=none/\hU rk a b st₀ st' (n+1) v.2.2.2.1 v.2.1 v.2.2.1)) ?_ ?_ ⟨rfl,M'⟩) ?_)
   .rintro m ⟨r,i,j,o,g,c,d⟩ st' _ hm ⟨rfl,M'⟩;refine LI (Gs C H hk first M') fun q st2 hq=>?_;cases q with
    |done v=>
     rcases hq with hq|⟨h1,h2⟩
     .exact .inl hq
     .exact .inr ⟨h1,h2.1,h2.2.1,h2.2.2.1,by have:=h2.2.2.2.1;lia,h2.2.2.2.2⟩
    |yield v=>exact hq
   .rintro⟨r,i,j,o,g,c,d⟩ st' ⟨rfl,M'⟩;exact .inr ⟨rfl,M'.1,M'.2.1,M'.2.2.1,by have:=M'.2.2.2.1;lia,M'.2.2.2.2⟩
   .rintro⟨r,i,j,o,g,c,d⟩ st' hq;rcases hq with⟨x,e,hF,g',rfl⟩|⟨e,h1,h2,h3,h4,g',rfl⟩
    .dsimp only at e ⊢;subst e;exact KE ⟨x,rfl,hF,g',rfl⟩
    .dsimp only at e h1 h2 h3 h4 ⊢;subst e;exact Kv (nT (KE ⟨rfl,h1,h2,h3,h4,_,rfl⟩))
theorem vi (C:Cmp prog w A s κ S rk)(H:Ab rk S a b)(hk:kindOf st₀=κ)(na:1<=a.size)(nb:1<=b.size)(first:∀ x,b.toList[0]?=some x->∀ y∈a.toList,rk x<=rk y)(last:∀ x∈b.toList,∀ y,a.toList[a.size-1]?=some y->rk x<=rk y){Q:Array Keyed->SortSt->Prop}
 (hq:∀ o g,Fin rk a.toList b.toList o.toList->Q o (oO st₀ g)):wpS (model prog w) A E s (hI a b) Q st₀:=by
 obtain⟨y,y1,y2,y3⟩:=bj (show a.size-1<a.size by lia);have J0:JH rk a.toList b.toList [] (a.size-1+1) b.size:=⟨by rw[LA (by simp;lia),LA (by simp)];exact .refl _,List.Pairwise.nil,(fun x hx=>by cases hx),fun x hx=>by cases hx⟩;have hJ:JH rk a.toList b.toList (#[y]:Array Keyed).toList (a.size-1) b.size:=JH.pushA (o:=#[]) J0 H y2 fun x hx=>last x (Lk hx) y y2;rw[pF];refine Kv (iQ (Kv (aV y1 ?_)));by_cases e:a.size-1=0
 .rw[Kf (by simpa using e)];exact KE (hq _ (gallopOf st₀) (Gm H hJ (.inl e)))
 .rw[Kh (by simpa using e)];by_cases e2:b.size=1
  .rw[Kf (by simpa using e2)];rw[e2]at hJ ⊢;exact KE (hq _ (gallopOf st₀) (IA H first hJ))
  .rw[Kh (by simpa using e2)];refine Kv (wpS_get (Kv (LI (LG (I:=fun m (v:H5) st'=>v.1=none/\hU rk a b st₀ st' m v.2.2.2.1 v.2.1 v.2.2.1) (Q:=fun v st'=>wj rk a b st₀ st' v.1) ?_ ?_ ⟨rfl,hJ,⟨by dsimp only;lia,by dsimp only;lia⟩,⟨by dsimp only;lia,by dsimp only;lia⟩,by dsimp only;lia,gallopOf st₀,rfl⟩) ?_)))
   .rintro m ⟨r,i,j,o,g⟩ st' _ hm ⟨rfl,M'⟩;refine LI (Gu C H hk first M') fun q st2 hq=>?_;cases q with
    |done v=>exact hq
    |yield v=>exact hq
   .rintro⟨r,i,j,o,g⟩ st' ⟨rfl,h1,h2,h3,h4,_⟩;dsimp only at h2 h3 h4;lia
   .rintro⟨r,i,j,o,g⟩ st' ⟨x,e,hF,g',rfl⟩;dsimp only at e ⊢;subst e;exact KE (hq _ _ hF)
end
noncomputable def wr (c:Nat)(m:Array Keyed)(xs:Array Keyed):Array Keyed:=m.toList.zipIdx.foldl (fun z (p,j)=>z.setIfInBounds (c+j) p) xs
theorem pG (i:Nat):mergeAt' i=(do
 let st <- get
 let (some (u,n,q),some (v,m,_)):=((pendingOf st)[i]?,(pendingOf st)[i+1]?)|unsupported "internal:list.sort.pending"
 set (setPending st (((pendingOf st).setIfInBounds i (u,n+m,q)).eraseIdxIfInBounds (i+1)))
 let some k <- cr false (<- elem' (arrOf st) v) (arrOf st) u n 0|return false
 if n-k==0 then return true
 let some m <- cr true (<- elem' (arrOf st) (u+k+(n-k)-1)) (arrOf st) v m (m-1)|return false
 if m==0 then return true
 let z <- if n-k<=m then gZ ((arrOf st).extract (u+k) v) ((arrOf st).extract v (v+m)) else hI ((arrOf st).extract (u+k) v) ((arrOf st).extract v (v+m))
 modify fun t=>setArr t (wr (u+k) z (arrOf t))
 return (failedOf (<- get)).isNone):=rfl
theorem xm (c:Nat):∀(l:List Keyed)(n:Nat)(xs:Array Keyed),c+n+l.length<=xs.size->∀ k,((l.zipIdx n).foldl (fun z (p:Keyed×Nat)=>z.setIfInBounds (c+p.2) p.1) xs)[k]?=if c+n<=k/\k<c+n+l.length then l[k-(c+n)]? else xs[k]?
 | [],n,xs,h,k=>by simp;intro h1 h2;lia
 |p::r,n,xs,h,k=>by
  rw[Om,Mx];rw[K8]at h ⊢;rw[xm c r (n+1) _ (by rw[Array.size_setIfInBounds];lia)];by_cases h1:c+(n+1)<=k/\k<c+(n+1)+r.length
  .rw[Kf h1,Kf (by lia),show k-(c+n)=(k-(c+(n+1)))+1 by lia,MK]
  .rw[Kh h1];by_cases h2:k=c+n
   .subst h2;rw[Kf (by lia),Nat.sub_self,Nu];have hlt:c+n<xs.size:=by lia
    simp[NS,hlt]
   .rw[Kh (by lia)];rw[Array.getElem?_setIfInBounds_ne (by lia)]
theorem AI (e:xs.toList=P++M++R)(hc:P.length=c)(hm:M.length=m.size):(wr c m xs).toList=P++m.toList++R:=by
 have hs:xs.size=P.length+M.length+R.length:=by rw[<- KM,e];simp;lia
 apply LH
 intro k;rw[Kn];have hw:=xm c m.toList 0 xs (by simp;lia) k;rw[show(wr c m xs)[k]?=_ from hw,<- Kn (xs:=xs),e];have l2:m.toList.length=m.size:=by simp
 by_cases h1:k<P.length
 .rw[Kh (by lia),Ko,Ko,Kw h1,Kw h1]
 .by_cases h2:k<P.length+M.length
  .rw[Kf (by lia),Ko,Kk (by lia),Kw (by lia)];congr 1;lia
  .rw[Kh (by lia),Kk (by simp;lia),Kk (by simp;lia)];congr 1;simp;lia
theorem Gv {A:Ox}{E:Ow->Ot->Prop}{s:Ot}{st x:SortSt}{Q:PUnit->SortSt->Prop}(h:Q ⟨⟩ x):wpS (model prog w) A E s (set x:SM PUnit) Q st:=by unfold wpS;rw[StateT.run_set];exact Ke ⟨rfl,h⟩
structure SB (κ:SortKind) (a₀:Array Keyed) (st:SortSt):Prop where
 perm:(arrOf st).toList.Perm a₀.toList
 kind:kindOf st=κ
 fail:failedOf st=none
section
variable {prog:Ov}{w:World}{A:Ox}{E:Ow->Ot->Prop}{s:Ot}{κ:SortKind}{rk:Keyed->Nat}{a₀:Array Keyed}
theorem hV (hx:Srt rk X)(hy:Srt rk Y)(h:∀ x∈X,∀ y∈Y,rk x<=rk y):Srt rk (X++Y):=Ls.mpr ⟨hx,hy,h⟩
theorem vj (C:Cmp prog w A s κ a₀.toList rk){st:SortSt}(B:SB κ a₀ st){P X Y R:List Keyed}(e:(arrOf st).toList=P++X++Y++R)(hX:Srt rk X)(hY:Srt rk Y)(nX:0<X.length)(nY:0<Y.length)
 (hp:(pendingOf st).toList=l₁++(P.length,X.length,q)::(P.length+X.length,Y.length,q')::l₂) {Q:Bool->SortSt->Prop}
 (hq:∀ Z st',SB κ a₀ st'->(arrOf st').toList=P++Z++R->Srt rk Z->Z.length=X.length+Y.length->(pendingOf st').toList=l₁++(P.length,X.length+Y.length,q)::l₂->Q true st'):wpS (model prog w) A E s (mergeAt' l₁.length) Q st:=by
 have hsz:(arrOf st).size=P.length+X.length+Y.length+R.length:=by rw[<- KM,e];simp;lia
 have hS:∀ x∈(arrOf st).toList,x∈a₀.toList:=fun x hx=>B.perm.subset hx;have p1:(pendingOf st)[l₁.length]?=some (P.length,X.length,q):=by rw[<- Kn,hp];simp
 have p2:(pendingOf st)[l₁.length+1]?=some (P.length+X.length,Y.length,q'):=by rw[<- Kn,hp];simp
 have hp':(((pendingOf st).setIfInBounds l₁.length (P.length,X.length+Y.length,q)).eraseIdxIfInBounds (l₁.length+1)).toList=l₁++(P.length,X.length+Y.length,q)::l₂:=by simp[hp,List.set_append_right,List.eraseIdx_append_of_length_le]
 have eX:∀ i,i<X.length->(arrOf st).toList[P.length+i]?=X[i]?:=fun i hi=>by rw[e,Ko,Ko,Kk (by lia),Kw (by lia)];congr 1;lia
 have eY:∀ i,i<Y.length->(arrOf st).toList[P.length+X.length+i]?=Y[i]?:=fun i hi=>by rw[e,Ko,Kk (by simp),Kw (by simp;lia)];congr 1;simp
 have dX:((arrOf st).toList.drop P.length).take X.length=X:=by rw[e,Ko,Ko];simp
 have dY:((arrOf st).toList.drop (P.length+X.length)).take Y.length=Y:=by rw[e,show P++X++Y++R=(P++X)++(Y++R) by simp,show P.length+X.length=(P++X).length by simp,List.drop_left,List.take_left]
 obtain⟨y0,y1,y2,y3⟩:=bj (a:=arrOf st) (i:=P.length+X.length) (by lia);have y4:Y[0]?=some y0:=by rw[<- eY 0 nY];exact y2
 rw[pG];refine Kv (wpS_get ?_);rw[p1,p2];dsimp only;generalize hpp:((pendingOf st).setIfInBounds l₁.length (P.length,X.length+Y.length,q)).eraseIdxIfInBounds (l₁.length+1)=pp at hp' ⊢;refine Kv (Gv ?_);refine Kv (aV y1 (Kv (rO C (st:=setPending st pp) B.kind (hS y0 y3) hS (by rw[dX];exact hX) (by lia) nX fun k k1 k2 k3=>?_)));dsimp only;have hY0:∀ y∈Y,rk y0<=rk y:=fun y hy=>g9 hY y4 y (by rw[Mr];exact hy);have hX1:∀ x∈X.take k,rk x<=rk y0:=fun x hx=>by obtain⟨p,h1,h2⟩:=bc hx;exact k2 p x h1 (by rw[eX p (by lia)];exact h2)
 have hX2:∀ x∈X.drop k,rk y0<rk x:=fun x hx=>by obtain⟨p,h1,h2⟩:=a_ hx;have hp:=(Kc.mp h2).1;exact k3 p x h1 hp (by rw[eX p hp];exact h2)
 have flat:(∀ x∈X.drop k,∀ y∈Y,rk x<=rk y)->wpS (model prog w) A E s (pure true) Q (setPending st pp):=fun h=>
  KE (hq (X++Y) _ ⟨B.perm,B.kind,B.fail⟩ (by show(arrOf st).toList=_;rw[e];simp) (hV hX hY fun x hx y hy=>by
   rw[<- KL k X]at hx;rcases Ku.mp hx with hx|hx
   .exact KA (hX1 x hx) (hY0 y hy)
   .exact h x hx y hy) (by simp) hp')
 by_cases h0:X.length-k=0
 .rw[Kf (by simpa using h0)];refine flat fun x hx=>?_;rw[LA (by lia)]at hx;cases hx
 .rw[Kh (by simpa using h0)];obtain⟨x0,x1,x2,x3⟩:=bj (a:=arrOf st) (i:=P.length+k+(X.length-k)-1) (by lia);have x4:X[X.length-1]?=some x0:=by rw[<- eX (X.length-1) (by lia),<- x2];congr 1;lia
  refine Kv (aV x1 (Kv (rP C (st:=setPending st pp) B.kind (hS x0 x3) hS (by rw[dY];exact hY) (by lia) (by lia) fun m m1 m2 m3=>?_)));dsimp only;have hXl:∀ x∈X,rk x<=rk x0:=fun x hx=>hG hX x4 x (by rw[Lg (by lia)];exact hx);have hY1:∀ y∈Y.take m,rk y<rk x0:=fun y hy=>by obtain⟨p,h1,h2⟩:=bc hy;exact m2 p y h1 (by rw[eY p (by lia)];exact h2)
  have hY2:∀ y∈Y.drop m,rk x0<=rk y:=fun y hy=>by obtain⟨p,h1,h2⟩:=a_ hy;have hp:=(Kc.mp h2).1;exact m3 p y h1 hp (by rw[eY p hp];exact h2)
  by_cases h1:m=0
  .rw[Kf (by simpa using h1)];refine flat fun x hx y hy=>KA (hXl x (Lr hx)) (hY2 y (by rw[h1,Mr];exact hy))
  .rw[Kh (by simpa using h1)];have exa:((arrOf st).extract (P.length+k) (P.length+X.length)).toList=X.drop k:=by rw[jS,e,show P++X++Y++R=(P++X)++(Y++R) by simp,show P.length+X.length=(P++X).length by simp,List.take_left];simp[List.drop_append]
   have eya:((arrOf st).extract (P.length+X.length) (P.length+X.length+m)).toList=Y.take m:=by rw[kC,e,show P++X++Y++R=(P++X)++(Y++R) by simp,show P.length+X.length=(P++X).length by simp,List.drop_left,NN m1]
   have H:Ab rk a₀.toList ((arrOf st).extract (P.length+k) (P.length+X.length)) ((arrOf st).extract (P.length+X.length) (P.length+X.length+m)):=by
    refine⟨fun x hx=>?_,fun x hx=>?_,?_,?_⟩
    .rw[exa]at hx;exact hS x (by rw[e];have:=Lr hx;simp[this])
    .rw[eya]at hx;exact hS x (by rw[e];have:=Lk hx;simp[this])
    .rw[exa];exact hX.sublist (Mw _ _)
    .rw[eya];exact hY.sublist (L6 _ _)
   have sx:((arrOf st).extract (P.length+k) (P.length+X.length)).size=X.length-k:=by rw[<- KM,exa,Nb]
   have sy:((arrOf st).extract (P.length+X.length) (P.length+X.length+m)).size=m:=by rw[<- KM,eya,K7];lia
   have first:∀ x,((arrOf st).extract (P.length+X.length) (P.length+X.length+m)).toList[0]?=some x->∀ y∈((arrOf st).extract (P.length+k) (P.length+X.length)).toList,rk x<=rk y:=fun x hx y hy=>by rw[eya,K_,Kf (by lia),y4]at hx;cases hx;rw[exa]at hy;exact Lb (hX2 y hy)
   have last:∀ x∈((arrOf st).extract (P.length+X.length) (P.length+X.length+m)).toList,∀ y,((arrOf st).extract (P.length+k) (P.length+X.length)).toList[((arrOf st).extract (P.length+k) (P.length+X.length)).size-1]?=some y->rk x<=rk y:=fun x hx y hy=>by rw[eya]at hx;rw[sx,exa,L4,show k+(X.length-k-1)=X.length-1 by lia,x4]at hy;cases hy;exact Lb (hY1 x hx)
   have fin:∀(o:Array Keyed) g,Fin rk ((arrOf st).extract (P.length+k) (P.length+X.length)).toList ((arrOf st).extract (P.length+X.length) (P.length+X.length+m)).toList o.toList->wpS (model prog w) A E s (do
    modify fun t=>setArr t (wr (P.length+k) o (arrOf t))
    return (failedOf (<- get)).isNone) Q (oO (setPending st pp) g):=by
    intro o g hF;rw[exa,eya]at hF;have lo:o.size=X.length-k+m:=by have:=hF.1.length_eq;simp at this;lia
    have e3:P++X++Y++R=(P++X.take k)++(X.drop k++Y.take m)++(Y.drop m++R):=by
     conv=>lhs;rw[<- KL k X,<- KL m Y]
     simp only[Ko]
    have ew:(wr (P.length+k) o (arrOf st)).toList=(P++X.take k)++o.toList++(Y.drop m++R):=AI (M:=X.drop k++Y.take m) (e.trans e3) (by simp;lia) (by simp;lia);refine Kv (wpS_modify (Kv (wpS_get (KE ?_))));show Q (failedOf st).isNone _;rw[B.fail];refine hq (X.take k++o.toList++Y.drop m) _ ⟨?_,B.kind,B.fail⟩ (by show(wr (P.length+k) o (arrOf st)).toList=_;rw[ew];simp) ?_ (by simp;lia) hp'
    .show(wr (P.length+k) o (arrOf st)).toList.Perm _;refine List.Perm.trans ?_ B.perm;rw[ew,e];rw[e3];exact(hF.1.append_left _).append_right _
    .refine hV (hV (hX.sublist (L6 _ _)) hF.2 fun x hx y hy=>?_) (hY.sublist (Mw _ _)) fun x hx y hy=>?_
     .rcases Ku.mp (hF.1.subset hy) with hy|hy
      .exact KA (hX1 x hx) (Lb (hX2 y hy))
      .exact KA (hX1 x hx) (hY0 y (Lk hy))
     .rcases Ku.mp hx with hx|hx
      .exact KA (hX1 x hx) (hY0 y (Lr hy))
      .rcases Ku.mp (hF.1.subset hx) with hx|hx
       .exact KA (hXl x (Lr hx)) (hY2 y hy)
       .exact KA (Lb (hY1 x hx)) (hY2 y hy)
   by_cases h2:X.length-k<=m
   .rw[Kf h2];exact Kv (vh C H (st₀:=setPending st pp) B.kind (by lia) (by lia) first last fin)
   .rw[Kh h2];exact Kv (vi C H (st₀:=setPending st pp) B.kind (by lia) (by lia) first last fin)
end
theorem pH (e:xs.toList=P++M++x::R):(bubble xs (P.length+M.length) M.length).toList=P++x::M++R:=by
 have hs:xs.size=P.length+M.length+R.length+1:=by rw[<- KM,e];simp;lia
 apply LH
 intro k;rw[Kn,getElem?_bubble (by lia) _ (by lia)];rw[show P.length+M.length-M.length=P.length by lia];simp only[<- Kn,e];by_cases h1:k=P.length
 .rw[Kf h1,h1];simp
 .rw[Kh h1];by_cases h2:k<P.length
  .rw[Kh (by lia),Ko,Ko,Kw h2,Kw h2]
  .by_cases h3:k<=P.length+M.length
   .rw[Kf (by lia),Ko,Kk (by lia),Kw (by lia),Ko,Kk (by lia),On,show k-P.length=(k-1-P.length)+1 by lia,MK,Kw (by lia)]
   .rw[Kh (by lia),Kk (by simp;lia),Kk (by simp;lia),show k-(P++M).length=(k-(P++x::M).length)+1 by simp;lia,MK]
theorem pI (e:xs.toList=P++M++R):(mirror xs P.length (P.length+M.length) ((P.length+M.length-P.length) / 2)).toList=P++M.reverse++R:=by
 have hs:xs.size=P.length+M.length+R.length:=by rw[<- KM,e];simp;lia
 apply LH
 intro k;rw[Kn,getElem?_mirror_all (by lia)];simp only[<- Kn,e];by_cases h2:k<P.length
 .rw[Kh (by lia),Ko,Ko,Kw h2,Kw h2]
 .by_cases h3:k<P.length+M.length
  .rw[Kf (by lia),Ko,Kk (by lia),Kw (by lia),Ko,Kk (by lia),Kw (by simp;lia),List.getElem?_reverse (by lia)];congr 1;lia
  .rw[Kh (by lia),Kk (by simp;lia),Kk (by simp;lia)];congr 1;simp
section
variable {prog:Ov}{w:World}{A:Ox}{E:Ow->Ot->Prop}{s:Ot}{κ:SortKind}{rk:Keyed->Nat}{a₀:Array Keyed}
theorem kF (C:Cmp prog w A s κ a₀.toList rk){st:SortSt}(B:SB κ a₀ st)(hx:(arrOf st).toList[i]?=some x)(hy:(arrOf st).toList[j]?=some y){Q:Option Bool->SortSt->Prop}(h:Q (some (decide (rk x<rk y))) st):wpS (model prog w) A E s (ltAt' i j) Q st:=by rw[ltAt'_eq];refine Kv (wpS_get ?_);show wpS _ _ _ _ (do let x <- elem' (arrOf st) i;let y <- elem' (arrOf st) j;lt' x y) Q st;refine Kv (aV (by rw[<- Kn];exact hx) (Kv (aV (by rw[<- Kn];exact hy) ?_)));exact xk C (B.perm.subset (LM hx)) (B.perm.subset (LM hy)) B.kind h
theorem SB.set {st:SortSt}(B:SB κ a₀ st)(h:xs.toList.Perm (arrOf st).toList):SB κ a₀ (setArr st xs):=⟨h.trans B.perm,B.kind,B.fail⟩
theorem xn (C:Cmp prog w A s κ a₀.toList rk){st:SortSt}(B:SB κ a₀ st)(e:(arrOf st).toList=P++X++R)(h1:1<=ok)(hok:ok<=X.length)(hs:Srt rk (X.take ok)){Q:Bool->SortSt->Prop}
 (hq:∀ Z st',SB κ a₀ st'->(arrOf st').toList=P++Z++R->Srt rk Z->Z.length=X.length->pendingOf st'=pendingOf st->Q true st'):wpS (model prog w) A E s (binarySort' P.length X.length ok) Q st:=by
 rw[binarySort'_eq,Nat.max_eq_left h1];have e0:(arrOf st).toList=P++X.take ok++(X.drop ok++R):=by
  rw[e];conv=>lhs;rw[<- KL ok X]
  simp only[Ko]
 refine Kv (LI (LG (I:=fun k (c:Option Bool×Unit) st'=>c.1=none/\SB κ a₀ st'/\pendingOf st'=pendingOf st/\∃ Z:List Keyed,Z.length=k/\Srt rk Z/\(arrOf st').toList=P++Z++(X.drop k++R))
  (Q:=fun c st'=>c.1=none/\SB κ a₀ st'/\pendingOf st'=pendingOf st/\∃ Z:List Keyed,Z.length=X.length/\Srt rk Z/\(arrOf st').toList=P++Z++R) ?_ ?_ ⟨rfl,B,rfl,X.take ok,by rw[K7];lia,hs,e0⟩) ?_)
 .rintro k ⟨r,u⟩ st' hk1 hk2 ⟨rfl,B',hp,Z,hZ,sZ,eZ⟩;obtain⟨x,hx⟩ : ∃ x,X[k]?=some x:=⟨X[k],by simp[hk2]⟩;have dX:X.drop k=x::X.drop (k+1):=by obtain⟨h1,h2⟩:=Kc.mp hx;rw[LS h1,h2]
  rw[dX]at eZ;have ax:(arrOf st').toList[P.length+k]?=some x:=by rw[eZ,Kk (by simp;lia),<- hZ];simp
  have aZ:∀ m z,Z[m]?=some z->(arrOf st').toList[P.length+m]?=some z:=fun m z hz=>by have hm:=(Kc.mp hz).1;rw[eZ,Ko,Kk (by lia),Kw (by lia),<- hz];congr 1;lia
  dsimp only;refine Kv (LI (LG (I:=fun i (c:Option Bool×Nat×Nat) st2=>c.1=none/\st2=st'/\c.2.1<=c.2.2/\c.2.2<=k/\(c.2.2-c.2.1)+i<=k/\(∀ m z,m<c.2.1->Z[m]?=some z->rk z<=rk x)/\(∀ m z,c.2.2<=m->Z[m]?=some z->rk x<rk z))
   (Q:=fun c st2=>c.1=none/\st2=st'/\c.2.1<=k/\(∀ m z,m<c.2.1->Z[m]?=some z->rk z<=rk x)/\(∀ m z,c.2.1<=m->Z[m]?=some z->rk x<rk z)) ?_ ?_ ⟨rfl,rfl,KU _,Km _,by dsimp only;lia,(fun m z hm=>by dsimp only at hm;lia),fun m z hm hz=>by have:=(Kc.mp hz).1;dsimp only at hm;lia⟩) ?_)
  .rintro i ⟨r,l,q⟩ st2 _ hi ⟨rfl,rfl,c1,c2,c3,c4,c5⟩;dsimp only at *;by_cases hlq:l>=q
   .rw[Kf hlq];have:l=q:=by lia
    subst this;exact KE ⟨rfl,rfl,c2,c4,c5⟩
   .rw[Kh hlq];obtain⟨z,hz⟩ : ∃ z,Z[(l+q) / 2]?=some z:=⟨Z[(l+q) / 2]'(by lia),by simp⟩;refine Kv (kF C B' ax (aZ _ z hz) ?_);dsimp only;by_cases hless:rk x<rk z
    .rw[Kl hless,Kf rfl];exact KE ⟨rfl,rfl,by dsimp only;lia,by dsimp only;lia,by dsimp only;lia,c4,fun m v hm hv=>KR hless (fF sZ hz hv hm)⟩
    .rw[Kp hless,Kh (by simp)];exact KE ⟨rfl,rfl,by dsimp only;lia,by dsimp only;lia,by dsimp only;lia,fun m v hm hv=>KA (fF sZ hv hz (by dsimp only at hm;lia)) (Mj hless),c5⟩
  .rintro⟨r,l,q⟩ st2 ⟨rfl,rfl,c1,c2,c3,c4,c5⟩;dsimp only at *;have:l=q:=by lia
   subst this;exact⟨rfl,rfl,c2,c4,c5⟩
  .rintro⟨r,l,q⟩ st2 ⟨rfl,rfl,c2,c4,c5⟩;dsimp only at c2 c4 c5 ⊢;rw[moveDown'_eq];refine Kv (wpS_modify (KE ?_));have e1:(arrOf st2).toList=(P++Z.take l)++Z.drop l++x::(X.drop (k+1)++R):=by
    rw[eZ];conv=>lhs;rw[<- KL l Z]
    simp only[Ko,On]
   have eb:=pH e1;rw[show(P++Z.take l).length+(Z.drop l).length=P.length+k by simp;lia,show(Z.drop l).length=P.length+k-(P.length+l) by simp;lia]at eb;refine⟨rfl,B'.set ?_,hp,Z.take l++x::Z.drop l,by simp;lia,?_,?_⟩
   .exact(bubble_perm _ _ _).toList
   .refine hV (sZ.sublist (L6 _ _)) (KS.mpr ⟨fun z hz=>?_,sZ.sublist (Mw _ _)⟩) fun y hy z hz=>?_
    .obtain⟨p,h1,h2⟩:=a_ hz;exact Lb (c5 p z h1 h2)
    .obtain⟨p,h1,h2⟩:=bc hy;have hyx:=c4 p y h1 h2;rcases Kj.mp hz with rfl|hz
     .exact hyx
     .obtain⟨p2,h3,h4⟩:=a_ hz;exact KA hyx (Lb (c5 p2 z h3 h4))
   .show(bubble (arrOf st2) (P.length+k) (P.length+k-(P.length+l))).toList=_;rw[eb];simp only[Ko,On]
 .rintro⟨r,u⟩ st' ⟨rfl,B',hp,Z,hZ,sZ,eZ⟩;rw[Oo hok]at hZ eZ;exact⟨rfl,B',hp,Z,hZ,sZ,by rw[eZ,Oq];rfl⟩
 .rintro⟨r,u⟩ st' ⟨rfl,B',hp,Z,hZ,sZ,eZ⟩;exact KE (hq Z st' B' eZ sZ hZ hp)
noncomputable def Gw (lo:Nat)(c:Option (Option Nat)×Nat):SM (ForInStep (Option (Option Nat)×Nat)):=do
 let x <- ltAt' (lo+c.2) (lo+c.2-1)
 match x with
 |some y=>if y=true then pure (ForInStep.done (none,c.2)) else pure (ForInStep.yield (none,c.2+1))
 |_=>pure (ForInStep.done (some none,c.2))
theorem l6 {T:List Keyed}(hs:Srt rk (T.take n))(hn:1<=n)(hx:T[n]?=some x)(hy:T[n-1]?=some y)(h:rk y<=rk x):Srt rk (T.take (n+1)):=by
 obtain⟨h1,h2⟩:=Kc.mp hx;rw[Ms h1,h2];refine hV hs (LJ _ _) fun z hz v hv=>?_;rw[KO]at hv;subst hv;obtain⟨p,p1,p2⟩:=bc hz;refine KA (fF hs (p:=p) (q:=n-1) (x:=z) (y:=y) ?_ ?_ (by lia)) h
 .rw[K_,Kf p1];exact p2
 .rw[K_,Kf (by lia)];exact hy
theorem CC (C:Cmp prog w A s κ a₀.toList rk){st:SortSt}(B:SB κ a₀ st)(e:(arrOf st).toList=P++T)(h1:1<=a)(ha:a<=T.length)(hs:Srt rk (T.take a)){Q:Option (Option Nat)×Nat->SortSt->Prop}
 (hq:∀ n,a<=n->n<=T.length->Srt rk (T.take n)->(∀ x y,T[n]?=some x->T[n-1]?=some y->rk x<rk y)->Q (none,n) st):wpS (model prog w) A E s (forIn [a:T.length] ((none,a):Option (Option Nat)×Nat) fun _ c=>Gw P.length c) Q st:=by
 have at_:∀ n x,T[n]?=some x->(arrOf st).toList[P.length+n]?=some x:=fun n x hx=>by rw[e,Kk (by lia),<- hx];congr 1;lia
 refine LI (LG (I:=fun i (c:Option (Option Nat)×Nat) st'=>st'=st/\c=(none,i)/\Srt rk (T.take i)) (Q:=fun c st'=>st'=st/\∃ n,c=(none,n)/\a<=n/\n<=T.length/\Srt rk (T.take n)/\(∀ x y,T[n]?=some x->T[n-1]?=some y->rk x<rk y)) ?_ ?_ ⟨rfl,rfl,hs⟩) ?_
 .rintro i c st' Cy hi2 ⟨rfl,rfl,hs'⟩;obtain⟨x,hx⟩ : ∃ x,T[i]?=some x:=⟨T[i],by simp[hi2]⟩;obtain⟨y,hy⟩ : ∃ y,T[i-1]?=some y:=⟨T[i-1]'(by lia),by simp⟩;unfold Gw;refine Kv (kF C B (at_ i x hx) (by rw[show P.length+i-1=P.length+(i-1) by lia];exact at_ _ y hy) ?_);dsimp only;by_cases h:rk x<rk y
  .rw[Kl h,Kf rfl];exact KE ⟨rfl,i,rfl,Cy,by lia,hs',fun x' y' hx' hy'=>by rw[hx]at hx';rw[hy]at hy';cases hx';cases hy';exact h⟩
  .rw[Kp h,Kh (by simp)];exact KE ⟨rfl,rfl,l6 hs' (by lia) hx hy (Mj h)⟩
 .rintro c st' ⟨rfl,rfl,hs'⟩;rw[Oo ha]at hs' ⊢;exact⟨rfl,T.length,rfl,ha,Km _,hs',fun x y hx=>by rw[Lo (Km _)]at hx;cases hx⟩
 .rintro c st' ⟨rfl,n,rfl,h2,h3,h4,h5⟩;exact hq n h2 h3 h4 h5
theorem CD {l:List Keyed}(h:(l.map rk).Nodup){i j:Nat}{x y:Keyed}(hij:i<j)(hx:l[i]?=some x)(hy:l[j]?=some y):rk x≠rk y:=by obtain⟨h1,e1⟩:=Kc.mp hx;obtain⟨h2,e2⟩:=Kc.mp hy;have:=KW.mp h i j (by simpa using h1) (by simpa using h2) hij;simp only[List.getElem_map,e1,e2]at this;exact this
theorem AJ (C:Cmp prog w A s κ a₀.toList rk)(D:(a₀.toList.map rk).Nodup){st:SortSt}(B:SB κ a₀ st){P T:List Keyed}(e:(arrOf st).toList=P++T)(h1:1<=T.length){Q:Option Nat->SortSt->Prop}
 (hq:∀ X R st',SB κ a₀ st'->(arrOf st').toList=P++X++R->Srt rk X->1<=X.length->pendingOf st'=pendingOf st->Q (some X.length) st'):wpS (model prog w) A E s (countRun' P.length T.length) Q st:=by
 rw[countRun'_eq];dsimp only;refine Kv (LI (CC C B e (a:=1) (Km _) h1 (by
  cases T with
  |nil=>simp at h1
  |cons t r=>exact LJ _ _) (Q:=fun c st'=>st'=st/\∃ n,c=(none,n)/\1<=n/\n<=T.length/\Srt rk (T.take n)/\(∀ x y,T[n]?=some x->T[n-1]?=some y->rk x<rk y)) fun n a1 a2 a3 a4=>⟨rfl,n,rfl,a1,a2,a3,a4⟩) ?_)
 rintro c st' ⟨rfl,n,rfl,a1,a2,a3,a4⟩;dsimp only;by_cases hn:n=T.length
 .rw[Kf (by simpa using hn)];subst hn;rw[List.take_length]at a3;exact KE (hq T [] st' B (by rw[e];simp) a3 h1 rfl)
 .rw[Kh (by simpa using hn)];have D':((arrOf st').toList.map rk).Nodup:=(B.perm.map rk).nodup_iff.mpr D;have DT:(T.map rk).Nodup:=by rw[e,KI,MD]at D';exact D'.2.1
  have at_:∀ n x,T[n]?=some x->(arrOf st').toList[P.length+n]?=some x:=fun n x hx=>by rw[e,Kk (by lia),<- hx];congr 1;lia
  by_cases hn1:n>1
  .rw[Kf hn1];obtain⟨x,hx⟩ : ∃ x,T[0]?=some x:=⟨T[0]'(by lia),by simp⟩;obtain⟨y,hy⟩ : ∃ y,T[n-1]?=some y:=⟨T[n-1]'(by lia),by simp⟩;have hlt:rk x<rk y:=by have h2:=fF a3 (p:=0) (q:=n-1) (x:=x) (y:=y) (by rw[K_,Kf (by lia)];exact hx) (by rw[K_,Kf (by lia)];exact hy) (by lia);have h3:=CD DT (i:=0) (j:=n-1) (by lia) hx hy;lia
   refine Kv (kF C B (by have:=at_ 0 x hx;simpa using this) (by rw[show P.length+n-1=P.length+(n-1) by lia];exact at_ _ y hy) ?_);dsimp only;rw[Kl hlt,Kf rfl];have:=hq (T.take n) (T.drop n) st' B (by rw[e,Ko,KL]) a3 (by rw[K7];lia) rfl;rw[K7,N0 a2]at this;exact KE this
  .rw[Kh hn1];have:n=1:=by lia
   subst this;refine Kv (iQ ?_);refine Kv (LI (LG (I:=fun i (c:Option (Option Nat)×Nat×Nat) st2=>st2=st'/\c=(none,i,0)/\(T.take i).Pairwise fun x y=>rk y<=rk x) (Q:=fun c st2=>st2=st'/\∃ m,c=(none,m,0)/\2<=m/\m<=T.length/\(T.take m).Pairwise fun x y=>rk y<=rk x) ?_ ?_ ⟨rfl,rfl,?_⟩) ?_)
   .rintro i c st2 Cy hi2 ⟨rfl,rfl,hd⟩;obtain⟨x,hx⟩ : ∃ x,T[i]?=some x:=⟨T[i],by simp[hi2]⟩;obtain⟨y,hy⟩ : ∃ y,T[i-1]?=some y:=⟨T[i-1]'(by lia),by simp⟩;refine Kv (kF C B (at_ i x hx) (by rw[show P.length+i-1=P.length+(i-1) by lia];exact at_ _ y hy) ?_);dsimp only;by_cases h:rk x<rk y
    .rw[Kl h,Kf rfl,Kh (by lia)];refine KE ⟨rfl,rfl,?_⟩;obtain⟨g1,g2⟩:=Kc.mp hx;rw[Ms g1,g2];refine Ls.mpr ⟨hd,LJ _ _,fun z hz v hv=>?_⟩;rw[KO]at hv;subst hv;obtain⟨p,p1,p2⟩:=bc hz;by_cases hpi:p=i-1
     .rw[hpi,hy]at p2;cases p2;exact Lb h
     .have q1:(T.take i)[p]?=some z:=by rw[K_,Kf p1];exact p2
      have q2:(T.take i)[i-1]?=some y:=by rw[K_,Kf (by lia)];exact hy
      obtain⟨b1,c1⟩:=Kc.mp q1;obtain⟨b2,c2⟩:=Kc.mp q2;have:=KW.mp hd p (i-1) b1 b2 (by lia);rw[c1,c2]at this;lia
    .rw[Kp h,Kh (by simp)];have hne:=CD DT (i:=i-1) (j:=i) (by lia) hy hx;refine Kv (kF C B (by rw[show P.length+i-1=P.length+(i-1) by lia];exact at_ _ y hy) (at_ i x hx) ?_);dsimp only;rw[Kl (show rk y<rk x by lia),Kf rfl];exact KE ⟨rfl,i,rfl,Cy,by lia,hd⟩
   .rintro c st2 ⟨rfl,rfl,hd⟩;rw[Oo (by lia)]at hd ⊢;exact⟨rfl,T.length,rfl,by lia,Km _,hd⟩
   .obtain⟨x,hx⟩ : ∃ x,T[0]?=some x:=⟨T[0]'(by lia),by simp⟩;obtain⟨y,hy⟩ : ∃ y,T[1]?=some y:=⟨T[1]'(by lia),by simp⟩;have:=a4 y x hy hx;cases T with
    |nil=>simp at h1
    |cons t r=>
     cases r with
     |nil=>simp at hn
     |cons u r=>simp at hx hy;subst hx;subst hy;show List.Pairwise _ [t,u];refine KS.mpr ⟨fun z hz=>?_,LJ _ _⟩;rw[KO]at hz;subst hz;lia
   .rintro c st2 ⟨rfl,m,rfl,m1,m2,hd⟩;dsimp only;rw[Kh (by lia),reverseSlice'_eq];refine Kv (wpS_modify ?_);have e3:(arrOf st2).toList=P++T.take m++T.drop m:=by rw[e,Ko,KL]
    have em:=pI e3;rw[show P.length+(T.take m).length=P.length+m by simp;lia]at em;have B2:SB κ a₀ (setArr st2 (mirror (arrOf st2) P.length (P.length+m) ((P.length+m-P.length) / 2))):=B.set (mirror_perm _ _ _ _).toList;have lT:((T.take m).reverse++T.drop m).length=T.length:=by simp;lia
    have tT:((T.take m).reverse++T.drop m).take m=(T.take m).reverse:=by rw[NN (by simp;lia),Lg (by simp;lia)]
    have asc:=CC (E:=E) C B2 (P:=P) (T:=(T.take m).reverse++T.drop m) (by show(mirror (arrOf st2) P.length (P.length+m) ((P.length+m-P.length) / 2)).toList=_;rw[em,Ko]) (a:=m) (by lia) (by lia) (by rw[tT];unfold Srt;rw[NI];exact hd)
     (Q:=fun c st3=>st3=setArr st2 (mirror (arrOf st2) P.length (P.length+m) ((P.length+m-P.length) / 2))/\∃ n,c=(none,n)/\m<=n/\n<=T.length/\Srt rk (((T.take m).reverse++T.drop m).take n)) fun n b1 b2 b3 _=>⟨rfl,n,rfl,b1,by lia,b3⟩
    rw[lT]at asc;refine Kv (LI asc ?_);rintro c st3 ⟨rfl,n,rfl,b1,b2,b3⟩;dsimp only;have:=hq (((T.take m).reverse++T.drop m).take n) (((T.take m).reverse++T.drop m).drop n) _ B2 (by show(mirror (arrOf st2) P.length (P.length+m) ((P.length+m-P.length) / 2)).toList=_;rw[em,Ko,Ko,KL]) b3 (by rw[K7];lia) rfl;rw[K7,N0 (by lia)]at this;exact KE this
end
noncomputable abbrev Pn:=List (Nat×Nat×Nat)
noncomputable def Ch (rk:Keyed->Nat):List (Nat×Nat)->Nat->List Keyed->Prop
 | [],_,xs=>xs=[]
 |(u,n)::l,c,xs=>∃ X Y,xs=X++Y/\u=c/\X.length=n/\0<n/\Srt rk X/\Ch rk l (c+n) Y
noncomputable def pm (l:Pn):List (Nat×Nat):=l.map fun t=>(t.1,t.2.1)
section
variable {rk:Keyed->Nat}
theorem Ch.split:∀{l₁ l₂:List (Nat×Nat)}{c:Nat}{xs:List Keyed},Ch rk (l₁++l₂) c xs->∃ A B,xs=A++B/\Ch rk l₁ c A/\Ch rk l₂ (c+A.length) B
 | [],l₂,c,xs,h=>⟨[],xs,rfl,rfl,h⟩
 |(u,n)::l,l₂,c,xs,h=>by obtain⟨X,Y,rfl,h1,h2,h3,h4,h5⟩:=h;obtain⟨A,B,rfl,g1,g2⟩:=Ch.split h5;refine⟨X++A,B,by simp,⟨X,A,rfl,h1,h2,h3,h4,g1⟩,?_⟩;rw[show c+(X++A).length=c+n+A.length by simp;lia];exact g2
theorem Ch.join:∀{l₁ l₂:List (Nat×Nat)}{c:Nat}{A B:List Keyed},Ch rk l₁ c A->Ch rk l₂ (c+A.length) B->Ch rk (l₁++l₂) c (A++B)
 | [],l₂,c,A,B,h,g=>by have:A=[]:=h;subst this;simpa using g
 |(u,n)::l,l₂,c,A,B,h,g=>by obtain⟨X,Y,rfl,h1,h2,h3,h4,h5⟩:=h;refine⟨X,Y++B,by simp,h1,h2,h3,h4,Ch.join h5 ?_⟩;rw[show c+n+Y.length=c+(X++Y).length by simp;lia];exact g
theorem Ch.len:∀{l:List (Nat×Nat)}{c:Nat}{xs:List Keyed},Ch rk l c xs->l.length<=xs.length
 | [],c,xs,h=>KU _
 |(u,n)::l,c,xs,h=>by obtain⟨X,Y,rfl,h1,h2,h3,h4,h5⟩:=h;have:=Ch.len h5;simp;lia
end
section
variable {prog:Ov}{w:World}{A:Ox}{E:Ow->Ot->Prop}{s:Ot}{κ:SortKind}{rk:Keyed->Nat}{a₀:Array Keyed}
theorem mR (C:Cmp prog w A s κ a₀.toList rk){st:SortSt}(B:SB κ a₀ st)(e:(arrOf st).toList=D++R)(hc:Ch rk (pm (pendingOf st).toList) 0 D)(hi:i+1<(pendingOf st).size){Q:Bool->SortSt->Prop}
 (hq:∀ D' st',SB κ a₀ st'->(arrOf st').toList=D'++R->D'.length=D.length->Ch rk (pm (pendingOf st').toList) 0 D'->(pendingOf st').size+1=(pendingOf st).size->Q true st'):wpS (model prog w) A E s (mergeAt' i) Q st:=by
 have hl:i+1<(pendingOf st).toList.length:=by simpa using hi
 obtain⟨l₁,x,y,l₂,hp,hl1⟩ : ∃(l₁:Pn)(x y:Nat×Nat×Nat)(l₂:Pn),(pendingOf st).toList=l₁++x::y::l₂/\l₁.length=i:=by refine⟨(pendingOf st).toList.take i,(pendingOf st).toList[i]'(by lia),(pendingOf st).toList[i+1],(pendingOf st).toList.drop (i+2),?_,by rw[K7];lia⟩;rw[<- LS (by lia),<- LS (by lia),KL]
 obtain⟨u,n,q⟩:=x;obtain⟨v,m,q'⟩:=y;have hpm:pm (pendingOf st).toList=pm l₁++(u,n)::(v,m)::pm l₂:=by rw[hp];simp[pm]
 rw[hpm]at hc;obtain⟨P,T,rfl,c1,c2⟩:=hc.split;obtain⟨X,Y',rfl,rfl,rfl,n1,sX,Y,Z,rfl,rfl,rfl,n2,sY,c3⟩:=c2;rw[MF]at hp c3 hpm;subst hl1;refine vj C B (P:=P) (X:=X) (Y:=Y) (R:=Z++R) (by rw[e];simp) sX sY n1 n2 hp fun W st' B' e' sW lW hp'=>hq (P++(W++Z)) st' B' (by rw[e'];simp) (by simp;lia) ?_ ?_
 .rw[hp',show pm (l₁++(P.length,X.length+Y.length,q)::l₂)=pm l₁++(P.length,X.length+Y.length)::pm l₂ by simp[pm]];refine Ch.join c1 ⟨W,Z,rfl,by simp,lW,by lia,sW,?_⟩;rw[MF,<- M7];exact c3
 .rw[<- KM,<- KM,hp',hp];simp;lia
noncomputable def tB (pw:Nat):SM (ForInStep (Option Unit×Unit)):=do
 let t <- get
 match (if (pendingOf t).size>1 then (pendingOf t)[(pendingOf t).size-2]? else none) with
 |some (_,_,o)=>if o<=pw then pure (.done (none,())) else do
  let y <- mergeAt' ((pendingOf t).size-2)
  if (!y)=true then pure (.done (some (),())) else pure (.yield (none,()))
 |_=>pure (.done (none,()))
noncomputable def vk (size lo n:Nat):SM (ForInStep (Option Unit×Nat)):=do
 let t <- get
 match (pendingOf t).back? with
 |some (u,m,_)=>do
  let r <- forIn [0:size] ((none,()):Option Unit×Unit) fun _ _=>tB (power' size (2*u+m) (2*u+m+m+n) size)
  match r.1 with
  |some x=>pure (.done (some x,lo))
  |none=>do
   modify fun t=>setPending t ((pendingOf t).modify ((pendingOf t).size-1) fun x=>(x.1,x.2.1,power' size (2*u+m) (2*u+m+m+n) size))
   modify fun t=>setPending t ((pendingOf t).push (lo,n,0))
   pure (.yield (none,lo+n))
 |_=>do
  modify fun t=>setPending t ((pendingOf t).push (lo,n,0))
  pure (.yield (none,lo+n))
noncomputable def DV (size mr:Nat)(c:Option Unit×Nat):SM (ForInStep (Option Unit×Nat)):=
 if c.2>=size then pure (.done (none,c.2)) else do
  let x <- countRun' c.2 (size-c.2)
  match x with
  |some n=>
   if n<mr then do
    rule "list.sort.binary-insertion"
    let y <- binarySort' c.2 (min (size-c.2) mr) n
    if (!y)=true then pure (.done (some (),c.2)) else vk size c.2 (min (size-c.2) mr)
   else vk size c.2 n
  |_=>pure (.done (some (),c.2))
noncomputable def DW:SM (ForInStep (Option Unit×Unit)):=do
 let t <- get
 if (pendingOf t).size<=1 then pure (.done (none,())) else do
  let y <- mergeAt' (if (if (pendingOf t).size-2>0 then (pendingOf t)[(pendingOf t).size-2-1]?.map (·.2.1) else none).any (·< ((pendingOf t)[(pendingOf t).size-2+1]?.elim 0 (·.2.1))) then (pendingOf t).size-2-1 else (pendingOf t).size-2)
  if (!y)=true then pure (.done (some (),())) else pure (.yield (none,()))
theorem AK:sortRuns'=(do
 let t <- get
 let r <- forIn [0:(arrOf t).size] ((none,0):Option Unit×Nat) fun _ c=>DV (arrOf t).size (minRun' (arrOf t).size (arrOf t).size 0) c
 match r.1 with
 |some x=>pure x
 |none=>do
  let q <- forIn [0:(arrOf t).size] ((none,()):Option Unit×Unit) fun _ _=>DW
  match q.1 with
  |some x=>pure x
  |none=>pure ()):=by
 rw[sortRuns'_eq];refine KN (get >>= ·) ?_;funext t;dsimp only;refine congr (KN Bind.bind ?_) ?_
 .refine KN (forIn [0:(arrOf t).size] ((none,0):Option Unit×Nat)) ?_;funext _ c;unfold DV;refine Og rfl (fun _=>rfl) fun _=>?_;refine KN (countRun' c.2 ((arrOf t).size-c.2) >>= ·) ?_;funext x;cases x with
  |none=>rfl
  |some n=>
   refine Og rfl (fun _=>?_) fun _=>?_
   .refine KN (liftM (rule "list.sort.binary-insertion") >>= ·) ?_;funext _;refine KN (binarySort' c.2 (min ((arrOf t).size-c.2) (minRun' (arrOf t).size (arrOf t).size 0)) n >>= ·) ?_;funext y;refine Og rfl (fun _=>rfl) fun _=>?_;unfold vk;refine KN (get >>= ·) ?_;funext t2;generalize (pendingOf t2).back?=bk;cases bk with
    |none=>rfl
    |some b=>
     obtain⟨u,m,q⟩:=b;dsimp only;refine congr (KN Bind.bind ?_) ?_
     .refine KN (forIn [0:(arrOf t).size] ((none,()):Option Unit×Unit)) ?_;funext _ _;unfold tB;refine KN (get >>= ·) ?_;funext t3;generalize (if (pendingOf t3).size>1 then (pendingOf t3)[(pendingOf t3).size-2]? else none)=o;cases o with
      |none=>rfl
      |some o=>rfl
     .funext r;obtain⟨r,_⟩:=r;cases r with
      |none=>rfl
      |some x=>rfl
   .unfold vk;refine KN (get >>= ·) ?_;funext t2;generalize (pendingOf t2).back?=bk;cases bk with
    |none=>rfl
    |some b=>
     obtain⟨u,m,q⟩:=b;dsimp only;refine congr (KN Bind.bind ?_) ?_
     .refine KN (forIn [0:(arrOf t).size] ((none,()):Option Unit×Unit)) ?_;funext _ _;unfold tB;refine KN (get >>= ·) ?_;funext t3;generalize (if (pendingOf t3).size>1 then (pendingOf t3)[(pendingOf t3).size-2]? else none)=o;cases o with
      |none=>rfl
      |some o=>rfl
     .funext r;obtain⟨r,_⟩:=r;cases r with
      |none=>rfl
      |some x=>rfl
 .funext r;obtain⟨r,lo⟩:=r;cases r with
  |some x=>rfl
  |none=>
   dsimp only;refine congr (KN Bind.bind ?_) ?_
   .refine KN (forIn [0:(arrOf t).size] ((none,()):Option Unit×Unit)) ?_;funext _ _;unfold DW;rfl
   .funext r;obtain⟨r,_⟩:=r;cases r with
    |none=>rfl
    |some x=>rfl
theorem t_runs (C:Cmp prog w A s κ a₀.toList rk)(Dn:(a₀.toList.map rk).Nodup){st:SortSt}(B:SB κ a₀ st)(hpe:pendingOf st=#[])(h2:2<=a₀.size){Q:Unit->SortSt->Prop}
 (hq:∀ st',SB κ a₀ st'->Srt rk (arrOf st').toList->Q () st'):wpS (model prog w) A E s sortRuns' Q st:=by
 have hsz:∀{st':SortSt},SB κ a₀ st'->(arrOf st').toList.length=a₀.size:=fun B'=>by rw[B'.perm.length_eq];simp
 have hs0:(arrOf st).size=a₀.size:=by have:=hsz B;simpa using this
 rw[AK];refine Kv (wpS_get ?_);rw[hs0];generalize minRun' a₀.size a₀.size 0=mr;refine Kv (LI (LG (I:=fun i (c:Option Unit×Nat) st'=>c.1=none/\i<=c.2/\c.2<=a₀.size/\SB κ a₀ st'/\∃ D R,(arrOf st').toList=D++R/\D.length=c.2/\Ch rk (pm (pendingOf st').toList) 0 D)
  (Q:=fun c st'=>c.1=none/\SB κ a₀ st'/\Ch rk (pm (pendingOf st').toList) 0 (arrOf st').toList) ?_ ?_ ⟨rfl,KU _,KU _,B,[],(arrOf st).toList,rfl,rfl,by rw[hpe];rfl⟩) ?_)
 .rintro i ⟨r,lo⟩ st1 _ hi ⟨rfl,hlo,hlo2,B1,D,R,e1,hD,hc⟩;dsimp only at hlo hlo2 hD;have bR:=hsz B1;rw[e1,KF]at bR;unfold DV;dsimp only;by_cases hge:lo>=a₀.size
  .rw[Kf hge];have:R=[]:=Nr.mp (by lia);subst this;exact KE ⟨rfl,B1,by rw[e1,La];exact hc⟩
  .rw[Kh hge];have aF:∀(n:Nat)(st2:SortSt)(X R2:List Keyed),0<n->X.length=n->Srt rk X->SB κ a₀ st2->(arrOf st2).toList=D++X++R2->pendingOf st2=pendingOf st1->wpS (model prog w) A E s (vk a₀.size lo n) (fun r st'=>match r with
    | .done c'=>c'.1=none/\SB κ a₀ st'/\Ch rk (pm (pendingOf st').toList) 0 (arrOf st').toList
    | .yield c'=>c'.1=none/\i+1<=c'.2/\c'.2<=a₀.size/\SB κ a₀ st'/\∃ D R,(arrOf st').toList=D++R/\D.length=c'.2/\Ch rk (pm (pendingOf st').toList) 0 D) st2:=by
    intro n st2 X R2 n0 hX sX B2 e2 hp2;have l2:=hsz B2;rw[e2]at l2;simp only[KF]at l2;have push:∀(st3:SortSt)(D3:List Keyed),SB κ a₀ st3->(arrOf st3).toList=D3++(X++R2)->D3.length=lo->Ch rk (pm (pendingOf st3).toList) 0 D3->wpS (model prog w) A E s (do
     modify fun t=>setPending t ((pendingOf t).push (lo,n,0))
     pure (ForInStep.yield ((none,lo+n):Option Unit×Nat))) (fun r st'=>match r with
     | .done c'=>c'.1=none/\SB κ a₀ st'/\Ch rk (pm (pendingOf st').toList) 0 (arrOf st').toList
     | .yield c'=>c'.1=none/\i+1<=c'.2/\c'.2<=a₀.size/\SB κ a₀ st'/\∃ D R,(arrOf st').toList=D++R/\D.length=c'.2/\Ch rk (pm (pendingOf st').toList) 0 D) st3:=by
     intro st3 D3 B3 e3 l3 c3;refine Kv (wpS_modify (KE ⟨rfl,by dsimp only;lia,by dsimp only;lia,⟨B3.perm,B3.kind,B3.fail⟩,D3++X,R2,by show(arrOf st3).toList=_;rw[e3];simp,by simp;lia,?_⟩));show Ch rk (pm ((pendingOf st3).push (lo,n,0)).toList) 0 (D3++X);rw[MA,show pm ((pendingOf st3).toList++[(lo,n,0)])=pm (pendingOf st3).toList++[(lo,n)] by simp[pm]];exact Ch.join c3 ⟨X,[],by simp,by lia,hX,n0,sX,rfl⟩
    unfold vk;refine Kv (wpS_get ?_);cases hb:(pendingOf st2).back? with
    |none=>exact push st2 D B2 (by rw[e2];simp) hD (by rw[hp2];exact hc)
    |some b=>
     obtain⟨u,m,q⟩:=b;dsimp only;generalize power' a₀.size (2*u+m) (2*u+m+m+n) a₀.size=pw;refine Kv (LI (LG (I:=fun _ (c:Option Unit×Unit) st'=>c.1=none/\SB κ a₀ st'/\∃ D3,(arrOf st').toList=D3++(X++R2)/\D3.length=lo/\Ch rk (pm (pendingOf st').toList) 0 D3)
      (Q:=fun c st'=>c.1=none/\SB κ a₀ st'/\∃ D3,(arrOf st').toList=D3++(X++R2)/\D3.length=lo/\Ch rk (pm (pendingOf st').toList) 0 D3) ?_ (fun c st' h=>h) ⟨rfl,B2,D,by rw[e2];simp,hD,by rw[hp2];exact hc⟩) ?_)
     .rintro j ⟨r,_⟩ st3 _ _ ⟨rfl,B3,D3,e3,l3,c3⟩;unfold tB;refine Kv (wpS_get ?_);by_cases hp1:(pendingOf st3).size>1
      .rw[Kf hp1];have hg:∃ o,(pendingOf st3)[(pendingOf st3).size-2]?=some o:=⟨(pendingOf st3)[(pendingOf st3).size-2]'(by lia),by simp⟩;obtain⟨⟨o1,o2,o3⟩,ho⟩:=hg;rw[ho];dsimp only;by_cases ho3:o3<=pw
       .rw[Kf ho3];exact KE ⟨rfl,B3,D3,e3,l3,c3⟩
       .rw[Kh ho3];refine Kv (mR C B3 e3 c3 (by lia) fun D4 st4 B4 e4 l4 c4 _=>?_);rw[Kh (by simp)];exact KE ⟨rfl,B4,D4,e4,by lia,c4⟩
      .rw[Kh hp1];exact KE ⟨rfl,B3,D3,e3,l3,c3⟩
     .rintro⟨r,_⟩ st3 ⟨rfl,B3,D3,e3,l3,c3⟩;dsimp only;refine Kv (wpS_modify ?_);refine push _ D3 ⟨B3.perm,B3.kind,B3.fail⟩ e3 l3 ?_;show Ch rk (pm ((pendingOf st3).modify ((pendingOf st3).size-1) fun x=>(x.1,x.2.1,pw)).toList) 0 D3;have:pm ((pendingOf st3).modify ((pendingOf st3).size-1) fun x=>(x.1,x.2.1,pw)).toList=pm (pendingOf st3).toList:=by
       unfold pm;apply LH
       intro k;rw[K6,K6,Kn,Kn,Array.getElem?_modify];by_cases hk:(pendingOf st3).size-1=k
       .rw[Kf hk];cases (pendingOf st3)[k]?<;>rfl
       .rw[Kh hk]
      rw[this];exact c3
   have hRl:R.length=a₀.size-lo:=by lia
   have cnt:=AJ (E:=E) C Dn B1 e1 (by lia) (Q:=fun x st'=>∃ X R2,x=some X.length/\SB κ a₀ st'/\(arrOf st').toList=D++X++R2/\Srt rk X/\1<=X.length/\pendingOf st'=pendingOf st1) fun X R2 st' b1 b2 b3 b4 b5=>⟨X,R2,rfl,b1,b2,b3,b4,b5⟩;rw[hD,hRl]at cnt;refine Kv (LI cnt ?_);rintro x st2 ⟨X,R2,rfl,B2,e2,sX,n0,hp2⟩;dsimp only;have l2:=hsz B2;rw[e2]at l2;simp only[KF]at l2;by_cases hmr:X.length<mr
   .rw[Kf hmr];refine Kv (iQ ?_);have e2':(arrOf st2).toList=D++(X++R2).take (min (a₀.size-lo) mr)++(X++R2).drop (min (a₀.size-lo) mr):=by rw[e2,Ko,Ko,KL]
    have lf:((X++R2).take (min (a₀.size-lo) mr)).length=min (a₀.size-lo) mr:=by rw[K7,KF];lia
    have bin:=xn (E:=E) C B2 e2' (ok:=X.length) n0 (by lia) (by rw[List.take_take,N0 (by lia),List.take_left];exact sX) (Q:=fun y st'=>∃ Z,y=true/\SB κ a₀ st'/\(arrOf st').toList=D++Z++(X++R2).drop (min (a₀.size-lo) mr)/\Srt rk Z/\Z.length=min (a₀.size-lo) mr/\pendingOf st'=pendingOf st2) fun Z st' b1 b2 b3 b4 b5=>⟨Z,rfl,b1,b2,b3,by lia,b5⟩;rw[hD,lf]at bin;refine Kv (LI bin ?_);rintro y st3 ⟨Z,rfl,B3,e3,sZ,lZ,hp3⟩;rw[Kh (by simp)];exact LI (aF _ st3 Z _ (by lia) lZ sZ B3 e3 (hp3.trans hp2)) fun r st' h=>by cases r<;>exact h
   .rw[Kh hmr];exact LI (aF _ st2 X R2 n0 rfl sX B2 e2 hp2) fun r st' h=>by cases r<;>exact h
 .rintro⟨r,lo⟩ st1 ⟨rfl,hlo,hlo2,B1,D,R,e1,hD,hc⟩;dsimp only at hlo hlo2 hD;have bR:=hsz B1;rw[e1,KF]at bR;have:R=[]:=Nr.mp (by lia);subst this;exact⟨rfl,B1,by rw[e1,La];exact hc⟩
 .rintro⟨r,lo⟩ st1 ⟨rfl,B1,hc1⟩;dsimp only;have hl0:=hc1.len;rw[hsz B1]at hl0;refine Kv (LI (LG (I:=fun i (c:Option Unit×Unit) st'=>c.1=none/\SB κ a₀ st'/\Ch rk (pm (pendingOf st').toList) 0 (arrOf st').toList/\(pendingOf st').size+i<=a₀.size) (Q:=fun c st'=>c.1=none/\SB κ a₀ st'/\Ch rk (pm (pendingOf st').toList) 0 (arrOf st').toList/\(pendingOf st').size<=1) ?_ ?_ ⟨rfl,B1,hc1,by simpa[pm] using hl0⟩) ?_)
  .rintro i ⟨r,_⟩ st2 _ hi ⟨rfl,B2,c2,hz⟩;unfold DW;refine Kv (wpS_get ?_);by_cases h1:(pendingOf st2).size<=1
   .rw[Kf h1];exact KE ⟨rfl,B2,c2,h1⟩
   .rw[Kh h1];refine Kv (mR C B2 (D:=(arrOf st2).toList) (R:=[]) (by simp) c2 ?_ fun D' st3 B3 e3 l3 c3 hz3=>?_)
    .exact(show ∀(p:Prop) [Decidable p],(if p then (pendingOf st2).size-2-1 else (pendingOf st2).size-2)+1<(pendingOf st2).size from fun p _=>by split<;>lia) _
    .rw[Kh (by simp)];rw[La]at e3;exact KE ⟨rfl,B3,by rw[e3];exact c3,by lia⟩
  .rintro⟨r,_⟩ st2 ⟨rfl,B2,c2,hz⟩;exact⟨rfl,B2,c2,by lia⟩
  .rintro⟨r,_⟩ st2 ⟨rfl,B2,c2,hz⟩;dsimp only;refine KE (hq st2 B2 ?_);have hl:=hsz B2;cases hp:(pendingOf st2).toList with
   |nil=>rw[hp]at c2;have:(arrOf st2).toList=[]:=c2;rw[this];exact List.Pairwise.nil
   |cons x l=>
    have:l=[]:=by
     have h3:(pendingOf st2).toList.length<=1:=by simpa using hz
     rw[hp]at h3;simpa using h3
    subst this;rw[hp]at c2;obtain⟨X,Y,e4,_,_,_,sX,e5⟩:=c2;have e5:Y=[]:=e5;rw[e4,e5,La];exact sX
end
end TS
namespace L2
open PySem PySem.Spec PySem.Calls PyProof.Rows ST
noncomputable def dO (K:List (List Int))(k:List Int):Nat:=(K.filter fun j=>lexB j k).length
theorem mS:∀{K:List (List Int)},(∀ x,p x=true->q x=true)->(K.filter p).length<=(K.filter q).length
 | [],_=>Km _
 |x::K,h=>by
  have ih:=mS (K:=K) h;rw[Ll,Ll];cases hp:p x with
  |true=>rw[h x hp];simpa using ih
  |false=>cases hq:q x<;>simp<;>lia
theorem kG:∀{K:List (List Int)},(∀ x,p x=true->q x=true)->z∈K->p z=false->q z=true->(K.filter p).length<(K.filter q).length
 | [],_,h,_,_=>by cases h
 |x::K,h,hz,h1,h2=>by
  have le:=mS (K:=K) h;rw[Ll,Ll];rcases Kj.mp hz with rfl|hz
  .rw[h1,h2];simp;lia
  .have ih:=kG h hz h1 h2;cases hp:p x with
   |true=>rw[h x hp];simpa using ih
   |false=>cases hq:q x<;>simp<;>lia
theorem jT {K:List (List Int)}(ha:a∈K)(hb:b∈K):lexB a b=decide (dO K a<dO K b):=by
 have up:∀{a b:List Int},a∈K->lexB a b=true->dO K a<dO K b:=fun{a b} ha h=>kG (fun x hx=>nQ x a b hx h) ha (dz a) h;cases h:lexB a b with
 |true=>rw[Kl (up ha h)]
 |false=>
  by_cases e:a=b
  .subst e;rw[Kp (LY _)]
  .have:=up hb ((gX a b e).resolve_left (by rw[h];simp));rw[Kp (by lia)]
theorem jq {α β:Type}(f:α->β){l m:List β}(h:l.Perm m):∀ xs:List α,m=xs.map f->∃ ys:List α,ys.Perm xs/\l=ys.map f:=by
 induction h with
 |nil=>intro xs e;have:xs=[]:=List.map_eq_nil_iff.mp e.symm;subst this;exact⟨[],.refl _,rfl⟩
 |cons x _ ih=>
  intro xs e;cases xs with
  |nil=>cases e
  |cons y ys=>rw[Kx]at e;obtain⟨rfl,e2⟩:=List.cons.inj e;obtain⟨zs,h1,h2⟩:=ih ys e2;exact⟨y::zs,h1.cons y,by rw[Kx,h2]⟩
 |swap x y l=>
  intro xs e;cases xs with
  |nil=>cases e
  |cons a r=>
   cases r with
   |nil=>simp at e
   |cons b r=>simp only[Kx,Nn]at e;obtain⟨rfl,rfl,rfl⟩:=e;exact⟨b::a::r,List.Perm.swap _ _ _,rfl⟩
 |trans _ _ ih1 ih2=>intro xs e;obtain⟨ys,h1,h2⟩:=ih2 xs e;obtain⟨zs,h3,h4⟩:=ih1 ys h2;exact⟨zs,h3.trans h1,h4⟩
section
variable {prog:Ov}{w:World}{A:Ox}{E:Ow->Ot->Prop}{s:Ot}
open Classical in
noncomputable def c8 (xs:List TItem)(p:Keyed):List Int:=if h:∃ x∈xs,p.1=Value.ref x.2 then h.choose.1 else []
noncomputable abbrev qX (x:TItem):Keyed:=(Value.ref x.2,Value.ref x.2)
theorem Tups.same (t:Tups prog w h xs)(hx:x∈xs)(hy:y∈xs)(e:x.2=y.2):x.1=y.1:=by
 obtain⟨ox,ix,nx,h1,_,d1,l1⟩:=t.is x hx;obtain⟨oy,iy,ny,h2,_,d2,l2⟩:=t.is y hy;rw[e,h2]at h1;cases h1;rw[d2]at d1;cases d1;have:=ItemsAre.inj l1 l2;unfold iK at this;have inj:∀{a b:List Int},a.map (Sum.inl:Int->Key)=b.map Sum.inl->a=b:=by
  intro a;induction a with
  |nil=>intro b hb;cases b with
   |nil=>rfl
   |cons _ _=>cases hb
  |cons x r ih=>intro b hb;cases b with
   |nil=>cases hb
   |cons y q=>rw[Kx,Kx]at hb;rw[Ng (List.cons.inj hb).1,ih (List.cons.inj hb).2]
 exact inj this
theorem cW (t:Tups prog w h xs)(hx:x∈xs):c8 xs (qX x)=x.1:=by have hex:∃ y∈xs,(qX x).1=Value.ref y.2:=⟨x,hx,rfl⟩;unfold c8;rw[dif_pos hex];have hc:=hex.choose_spec;have e:Value.ref x.2=Value.ref hex.choose.2:=hc.2;injection e with e;exact(t.same hx hc.1 e).symm
theorem xo (t:Tups prog w s.heap xs):TS.Cmp prog w A s (tuples' true) (xs.map qX) fun p=>dO (xs.map (·.1)) (c8 xs p):=by intro p hp q hq Q hQ;obtain⟨x,hx,rfl⟩:=Kq.mp hp;obtain⟨y,hy,rfl⟩:=Kq.mp hq;have hQ:Q (decide (dO (xs.map (·.1)) (c8 xs (qX x))<dO (xs.map (·.1)) (c8 xs (qX y)))) s:=hQ;rw[cW t hx,cW t hy,<- jT (KZ hx) (KZ hy)]at hQ;obtain⟨ox,ix,nx,h1,c1,d1,l1⟩:=t.is x hx;obtain⟨oy,iy,ny,h2,c2,d2,l2⟩:=t.is y hy;refine PySem.W.kat_lt h1 d1 h2 d2 ?_;have:=tw (A:=A) 0 l1 l2 hQ;simpa using this
theorem rQ {P:PySem.Fin->Ot->Prop} (ho:s.heap.get? a=some (seqObj "list" (valsT xs).toArray n)) (t:Tups prog w s.heap xs) (hz:xs.length<=1000)
 (h:∀ ys h' c,ys.Perm xs->ys.Pairwise (fun x y=>lexB x.1 y.1=true)->h'.get? a=some (seqObj "list" (valsT ys).toArray c)->(∀ b o,b≠a->s.heap.get? b=some o->h'.get? b=some o)->P (.done (.ret .none)) { s with heap:=h' }) :
 wpAny (model prog w) A (Builtin.«list.sort» ⟨[.ref a],[]⟩) P E s:=by
 have ha:a<s.heap.objs.size:=Kt ho;have hvl:(valsT xs).length=xs.length:=by simp[valsT]
 rw[list_sort_plain];refine Ka (listItems_at ho rfl (Ka (Nv ho rfl ?_ (by rw[Ki,hvl,K9];lia) (KU _))));obtain⟨e1,ho1⟩ : ∃ e1,(s.heap.update a (Obj.mapSeq fun _=>#[])).get? a=some (seqObj "list" #[] e1):=⟨_,Nw ho (fun _=>#[])⟩;refine Ka (N1 ho1 rfl (Ka (wpAny_newTuple (Ka (MJ (LB ?_) (KU _))) (by show(valsT xs).length<=_;rw[hvl,K9];lia))));have oth:∀ b o,b≠a->s.heap.get? b=some o->(((s.heap.update a (Obj.mapSeq fun _=>(#[]:Array Ow))).push (seqObj "tuple" (valsT xs).toArray 0)).push (seqObj "list" #[] 0)).get? b=some o:=fun b o hb e=>Kb _ (Kb _ ((Lz _ _ (Lj hb)).trans e));have ho6:(((s.heap.update a (Obj.mapSeq fun _=>(#[]:Array Ow))).push (seqObj "tuple" (valsT xs).toArray 0)).push (seqObj "list" #[] 0)).get? a=some (seqObj "list" #[] e1):=Kb _ (Kb _ ho1);show wpAny (model prog w) A _ P E { s with heap:=((s.heap.update a (Obj.mapSeq fun _=>(#[]:Array Ow))).push (seqObj "tuple" (valsT xs).toArray 0)).push (seqObj "list" #[] 0) };generalize (((s.heap.update a (Obj.mapSeq fun _=>(#[]:Array Ow))).push (seqObj "tuple" (valsT xs).toArray 0)).push (seqObj "list" #[] 0))=H6 at ho6 oth;dsimp only;have fin:∀(ys:List TItem)(out:Array Ow),ys.Perm xs->ys.Pairwise (fun x y=>lexB x.1 y.1=true)->out=(valsT ys).toArray->P (.done (.ret .none)) { s with heap:=H6.update a (Obj.mapSeq fun _=>out) }:=fun ys out hp hw ho=>by subst ho;exact h ys _ _ hp hw (Nw ho6 fun _=>(valsT ys).toArray) fun b o hb e=>(Lz _ _ (Lj hb)).trans (oth b o hb e)
 have hzip:(valsT xs).toArray.zip (valsT xs).toArray=(xs.map qX).toArray:=by apply Oh;simp[valsT,List.zip_map']
 by_cases h2:(valsT xs).toArray.size<2
 .rw[Kf h2,Kf h2];refine Ka (Ke ?_);rw[StateT.run_pure];have hx2:xs.length<2:=by rw[Ki,hvl]at h2;exact h2
  have hout:Array.map (fun x:Keyed=>x.2) ((valsT xs).toArray.zip (valsT xs).toArray)=(valsT xs).toArray:=by apply Oh;simp[List.map_snd_zip]
  refine Ka (Ke ?_);dsimp only;refine Ka (N1 ho6 rfl (Ka (Nv ho6 rfl ?_ (KU _) ?_)))
  .simp only[MB,Ks,Lh];refine Ke (fin xs _ (Ob _) ?_ hout)
   match xs,hx2 with
   | [],_=>exact List.Pairwise.nil
   | [x],_=>exact LJ _ _
  .show(Array.map (fun x:Keyed=>x.2) ((valsT xs).toArray.zip (valsT xs).toArray)).size<=_;rw[hout,Ki,hvl,K9];lia
 .rw[Kh h2,Kh h2];have hx2:2<=xs.length:=by rw[Ki,hvl]at h2;lia
  have t6:Tups prog w H6 xs:=t.off ho rfl oth;refine Ka (vf (s:={ s with heap:=H6 }) t6 (by lia) ?_);have C:=xo (A:=A) (s:={ s with heap:=H6 }) t6;have hnd:(((xs.map qX).toArray).toList.map fun p=>dO (xs.map (·.1)) (c8 xs p)).Nodup:=by
   show(((xs.map qX)).map fun p=>dO (xs.map (·.1)) (c8 xs p)).Nodup;rw[KC];unfold List.Nodup;rw[KH];have nd:=t.nd;unfold List.Nodup at nd;rw[KH]at nd;refine LD (fun{x y} hx hy hne e=>?_) nd;have e:dO (xs.map (·.1)) (c8 xs (qX x))=dO (xs.map (·.1)) (c8 xs (qX y)):=e;rw[cW t hx,cW t hy]at e;have h1:=jT (KZ (f:=(·.1)) hx) (KZ (f:=(·.1)) hy);have h2:=jT (KZ (f:=(·.1)) hy) (KZ (f:=(·.1)) hx);rw[e,Kp (LY _)]at h1;rw[e,Kp (LY _)]at h2;rcases gX _ _ hne with q|q
   .rw[h1]at q;cases q
   .rw[h2]at q;cases q
  have run:=TS.t_runs (E:=E) (a₀:=(xs.map qX).toArray) (st:=SortSt.mk' (tuples' true) (xs.map qX).toArray #[] 7 none) C hnd ⟨.refl _,rfl,rfl⟩ rfl (by simp;exact hx2) (Q:=fun _ st'=>∃ ys:List TItem,ys.Perm xs/\(arrOf st').toList=ys.map qX/\ys.Pairwise (fun x y=>lexB x.1 y.1=true)/\failedOf st'=none) fun st' B sr=>by obtain⟨ys,hp,he⟩:=jq qX B.perm xs rfl;refine⟨ys,hp,he,?_,B.fail⟩;rw[he]at sr;unfold TS.Srt at sr;rw[KH]at sr;have nd:=(hp.map (·.1)).nodup_iff.mpr t.nd;unfold List.Nodup at nd;rw[KH]at nd;refine(sr.and nd).imp_of_mem fun{x y} hx hy hh=>?_;have hx:=hp.subset hx;have hy:=hp.subset hy;obtain⟨h1,h2⟩:=hh;have h1:dO (xs.map (·.1)) (c8 xs (qX x))<=dO (xs.map (·.1)) (c8 xs (qX y)):=h1;rw[cW t hx,cW t hy]at h1;have h3:=jT (KZ (f:=(·.1)) hy) (KZ (f:=(·.1)) hx);rw[Kp (by lia)]at h3;exact(gX _ _ h2).resolve_right (by rw[h3];simp)
  rw[hzip];refine Ka (LC run ?_ fun _ _ e=>e);rintro⟨⟨⟩,st'⟩ s' ⟨rfl,ys,hp,he,hw,hf⟩;dsimp only at he hf ⊢;have hout:(arrOf st').map (·.2)=(valsT ys).toArray:=by apply Oh;rw[Array.toList_map,he,KC];rfl
  rw[hout];refine Ka (N1 ho6 rfl (Ka (Nv ho6 rfl ?_ (KU _) ?_)))
  .rw[hf];simp only[MB,Ks,Lh];exact Ke (fin _ _ hp hw rfl)
  .show(valsT ys).toArray.size<=_;have:=hp.length_eq;simp[valsT,this];rw[K9];lia
theorem xp:gb prog w 300:=fun _ _ _ _ _ _ _ ho t hz h=>rQ ho t (by lia) h
theorem AL (T:Tbl t es)(sp:gy t)(h:Int)(x:Ow):∃ j,j∉t.place.toList/\j<=t.mask/\Rea t.mask (·∈ t.place.toList) h j/\layNew t es h x=(SetTable.insertAt es (t.put j).2 (h,x),(t.put j).1,false,false):=by
 have hs:=c6 sp;have pr:=kq T.tb hs (fun _=>h+1) h (Va.st t.mask h);have hst:t.probeStart h=st t.mask h:=rfl;generalize hp:t.probe (fun _=>h+1) h (st t.mask h)=m at pr;cases pr with
 |ca n i hi e q b=>exact absurd q (by lia)
 |em n e b=>
  have re:Rea t.mask (·∈ t.place.toList) h (it t.mask n (st t.mask h)).j:=⟨n,rfl,fun k hk=>by obtain⟨i,hi,q,_⟩:=b k hk;show _∈t.place.toList;rw[<- q];simp⟩;have hjm:(it t.mask n (st t.mask h)).j<=t.mask:=((Va.st t.mask h).it).jle;refine⟨_,e,hjm,re,?_⟩;obtain⟨T',em,ez⟩:=rF T e hjm (v:=x) re;have hp1:(t.put (it t.mask n (st t.mask h)).j).2<=es.size:=by rw[jO,<- T.len];exact(bZ _ T.tb.ris).1
  have le':(t.put (it t.mask n (st t.mask h)).j).1.place.size<=(t.put (it t.mask n (st t.mask h)).j).1.mask:=by
   rw[ez,em];unfold gy at sp;have:t.mask>=7:=by rcases T.tb.msk with e|e|e|e<;>rw[e]<;>lia
   lia
  have hf:=Tbl.fits T' le';unfold layNew SetTable.freeSlot;rw[hst,hp];dsimp only[Option.getD,Option.isSome];unfold SetTable.orStandIn;rw[Kf hf,hf];rfl
theorem vm (hm:Msk m)(hn:SetTable.sizeAbove n=m+1)(hl:es.size<=m):∃ es' t',relayAll t es n=(es',t',false)/\Laid m es es' t'/\t'.led=t.led/\t'.plain=t.plain:=by
 obtain⟨t',order,e,L,h1,h2,hp⟩:=pz hm es hl t.finger (t.movedTo m) t.led t.plain;refine⟨_,t',?_,L,h1,h2⟩;have er:t.relaid (es.map (·.1)) n=some (t',order):=by unfold SetTable.relaid;rw[hn];exact e
 unfold relayAll;rw[er];dsimp only;have hc:coversAll order es.size=true:=by unfold coversAll;exact List.isPerm_iff.mpr hp
 have hf:t'.fits (order.filterMap (es[·]?)).size=true:=Tbl.fits L.tbl (by rw[L.tbl.len,L.mask,L.size];exact hl);rw[hc,hf];rfl
theorem AM (hS:SetAt w s.heap a es)(el:ElemsOf (intKind prog w) es.toList)(hz:es.size+1<=300)
 (h1:∀ tk,s.toks<=tk->(∃ e∈es.toList,(intKind prog w).is i e.2=true)->Q false { s with toks:=tk })
 (h2:∀ tk h' es',s.toks<=tk->(∀ e∈es.toList,(intKind prog w).is i e.2=false)->Heap.SameBut a s.heap h'->SetAt w h' a es'->Grown es es' ((intKind prog w).hash i,.int i t0)->Q true { s with heap:=h',toks:=tk }) :
 wpAny (model prog w) A (setAdd a (.int i t0)) Q E s:=by
 obtain⟨o,ep,t,ho,hex,hd,T,sp,hpl,hle⟩:=hS;have hf:=Tbl.fits T (c6 sp);have my:=intKind_is prog w i t0;have hsc:(Value.int i t0).scannable=true:=rfl;unfold setAdd;refine LB ?_;refine Ka ((intKind prog w).pyHash (k:=i) my ?_);have htk:s.toks<=s.toks+1:=Nat.le_succ _;generalize s.toks+1=tk at htk;unfold setAddHashed setAddHashedIn;refine LB (Ka (Ly (s:={ s with toks:=tk }) ho hd hf ?_));dsimp only;rw[byScan_of hsc (by unfold scanBound;lia) el];simp only[Mp];unfold setAddByScan;refine Ka ?_;refine Ka (Nj ?_);refine Ka (wpAny_setScan_of (s:={ s with toks:=tk }) my ho hd hf el ?_);cases hr:List.findIdx? (fun e=>(intKind prog w).is i e.2) es.toList with
 |some j=>dsimp only;obtain⟨hj,hpj,_⟩:=List.findIdx?_eq_some_iff_getElem.mp hr;exact Ke (Ke (h1 tk htk ⟨_,Nf hj,hpj⟩))
 |none=>
  dsimp only;have hout:∀ e∈es.toList,(intKind prog w).is i e.2=false:=fun e he=>by have:=List.findIdx?_eq_none_iff.mp hr e he;simpa using this
  obtain⟨j,hj,hjm,re,hlay⟩:=AL T sp ((intKind prog w).hash i) (.int i t0);obtain⟨T',em,ez⟩:=rF T hj hjm (v:=Value.int i t0) re;have hpl':(t.put j).1.plain=true:=by rw[gS T.tb];exact hpl
  have hle':(t.put j).1.led=!byT w:=by rw[gS T.tb];exact hle
  rw[hlay];dsimp only;refine Ka (show wpAny _ _ (pure ()) _ _ _ from Ke ?_);rw[hpl'];simp only[Mp];rw[hashByValue_scannable 8 hsc];refine Ka (Ke ?_);rw[show plainKind (Value.int i t0)=true from rfl];simp only[Mp];have hp:(t.put j).2<=es.size:=by rw[jO,<- T.len];exact(bZ j T.tb.ris).1
  have g:=mM es (t.put j).2 ((intKind prog w).hash i,Value.int i t0) hp;refine Ka (NC (s:={ s with toks:=tk }) ho hd ?_ (by rw[g.size,K9];lia));obtain⟨o1,q1,q2,q3⟩:=ga (SetTable.insertAt es (t.put j).2 ((intKind prog w).hash i,Value.int i t0)) (t.put j).1 ho hex hd;have sb:=Le s.heap a (Obj.putSet (SetTable.insertAt es (t.put j).2 ((intKind prog w).hash i,Value.int i t0)) (t.put j).1);have fill:(t.put j).1.fill=es.size+1:=by unfold SetTable.fill;rw[T'.tb.dum,ez,T.len];rfl
  by_cases hfull:(t.put j).1.tooFull=true
  .rw[hfull];simp only[Bool.not_false,NT,Mp];unfold SetTable.tooFull at hfull;rw[fill,em]at hfull;have hfull:(es.size+1)*5>=t.mask*3:=by simpa using hfull
   have sp':es.size*5<t.mask*3:=by rw[<- T.len];exact sp
   obtain⟨m,m1,m2,m3⟩:=ku T.tb.msk sp' hfull hz;rw[g.size];obtain⟨es',t',hra,L,l1,l2⟩:=vm (t:=(t.put j).1) (es:=SetTable.insertAt es (t.put j).2 ((intKind prog w).hash i,Value.int i t0)) m2 m1 (by rw[g.size];lia);rw[hra];dsimp only;refine Ka (show wpAny _ _ (pure ()) _ _ _ from Ke ?_);refine Ka (NC q1 q3 ?_ (by rw[L.size,g.size,K9];lia));obtain⟨o2,r1,r2,r3⟩:=ga es' t' q1 q2 q3;refine Ke (Ke (h2 tk _ es' htk hout (sb.trans (Le _ a _)) ⟨o2,_,_,r1,r2,r3,L.tbl,?_,by rw[l2];exact hpl',by rw[l1];exact hle'⟩ (g.laid L)));unfold gy;rw[L.tbl.len,L.mask,L.size,g.size];exact m3
  .have hfull:(t.put j).1.tooFull=false:=by simpa using hfull
   rw[hfull];simp only[ND,Ks,Lh];refine Ke (Ke (h2 tk _ _ htk hout sb ⟨o1,_,_,q1,q2,q3,T',?_,hpl',hle'⟩ g));unfold SetTable.tooFull at hfull;unfold gy;rw[fill]at hfull;rw[ez,T.len];simpa using hfull
end
section
variable {prog:Ov}{w:World}
noncomputable abbrev eI (prog:Ov)(w:World)(k:Int)(t:Tok):Int×Ow:=((intKind prog w).hash k,.int k t)
structure SInvI (prog:Ov) (w:World) (es:Array (Int×Ow)) (xs:List Int):Prop where
 el:∀ e∈es.toList,∃ k t,e=eI prog w k t/\k∈xs
 all:∀ x∈xs,∃ t,eI prog w x t∈es.toList
 pw:es.toList.Pairwise fun e e'=>∀ k t k' t',e=eI prog w k t->e'=eI prog w k' t'->k≠k'
 sz:es.size<=xs.length
theorem isI:(intKind prog w).is k (.int j t)=true↔k=j:=by
 constructor
 .intro h;by_cases e:k=j
  .exact e
  .have h2:=intKind_is prog w j t;exact absurd ((intKind prog w).inj _ _ _ h h2) e
 .rintro rfl;exact intKind_is prog w k t
theorem SInvI.els (v:SInvI prog w es xs):ElemsOf (intKind prog w) es.toList:=fun e he=>by obtain⟨k,t,rfl,_⟩:=v.el e he;exact⟨⟨k,intKind_is prog w k t,rfl⟩,rfl⟩
theorem SInvI.seen (v:SInvI prog w es xs)(hx:x∈xs):SInvI prog w es (xs++[x]):=by
 refine⟨fun e he=>?_,fun y hy=>?_,v.pw,by have:=v.sz;simp;lia⟩
 .obtain⟨k,t,h1,h2⟩:=v.el e he;exact⟨k,t,h1,KP _ h2⟩
 .rcases Ku.mp hy with hy|hy
  .exact v.all y hy
  .rw[KO]at hy;subst hy;exact v.all y hx
theorem SInvI.new (v:SInvI prog w es xs)(hx:¬ x∈xs)(g:Grown es es' (eI prog w x t)):SInvI prog w es' (xs++[x]):=by
 refine⟨fun e he=>?_,fun y hy=>?_,?_,by have:=v.sz;rw[g.size];simp;lia⟩
 .rcases (g.mem e).mp he with rfl|he
  .exact⟨x,t,rfl,by simp⟩
  .obtain⟨k,t',h1,h2⟩:=v.el e he;exact⟨k,t',h1,KP _ h2⟩
 .rcases Ku.mp hy with hy|hy
  .obtain⟨t',h⟩:=v.all y hy;exact⟨t',(g.mem _).mpr (.inr h)⟩
  .rw[KO]at hy;subst hy;exact⟨t,(g.mem _).mpr (.inl rfl)⟩
 .refine g.pw _ (fun a b hab k t k' t' e1 e2 h=>hab k' t' k t e2 e1 h.symm) v.pw ?_;intro e he k t1 k' t2 e1 e2 hkk;obtain⟨j,t3,h1,h2⟩:=v.el e he;rw[e1]at h1;have a1:k=j:=by injection h1 with _ q;injection q
  have a2:x=k':=by injection e2 with _ q;injection q
  subst a1;subst a2;exact hx (hkk▸h2)
variable {A:Ox}{R:Result->Ot->Prop}{I:Addr}{fp wr:List Addr}{G:Array GenState->Array GenState->Prop}{n:Nat}{P:Nat->Ow->Prop}{St:Nat->Ot->Prop}
theorem hW (W:WalksS prog w A.in1 I fp wr G n P St)(S:Addr)(hSf:S∉fp)(xs:List Int)(hn:xs.length=n)(hval:∀ i v,P i v->∃ x t,xs[i]?=some x/\v=.int x t)(hz:n<=300) :
 ∀(k i:Nat)(s:Ot)(es:Array (Int×Ow)),n-i=k->i<=n->St i s->SetAt w s.heap S es->SInvI prog w es (xs.take i)->
  (∀ s' es',Moved (S::wr) G s s'->SetAt w s'.heap S es'->SInvI prog w es' xs->R (.ok (.ret .none)) s')->
  codeAny (model prog w) A (.builtin "set.update.loop" ⟨[.ref S,.ref I],[]⟩) R s:=by
 have hSw:S∉wr:=fun h=>hSf (W.sub _ h);have hsub:∀ b∈wr,b∈S::wr:=fun b hb=>Ky _ hb;intro k;induction k with
 |zero=>
  intro i s es hk hi hst hS v hR;have hin:i=n:=by lia
  subst hin;refine LP LQ ?_;rw[Me KY _];show wpAny _ A.in1 (pyNext (.ref I) >>= _) _ _ s;refine Ka (W.done s _ _ hst fun s' hm=>?_);have v':SInvI prog w es xs:=by rw[Lg (by lia)]at v;exact v
  have hR':=hR s' es (hm.mono hsub) (hS.keep fun o e=>hm.heap S o hSw e) v';show wpAny _ A.in1 (ret Value.none) _ _ s';exact Ke hR'
 |succ k ih=>
  intro i s es hk hi hst hS v hR;have hlt:i<n:=by lia
  refine LP LQ ?_;rw[Me KY _];show wpAny _ A.in1 (pyNext (.ref I) >>= _) _ _ s;refine Ka (W.item i s _ _ hlt hst fun u s' hP hst' hm=>?_);obtain⟨x,t0,hx,rfl⟩:=hval i u hP;have htk:xs.take (i+1)=xs.take i++[x]:=by rw[List.take_add_one,hx];rfl
  have hS':=hS.keep fun o e=>hm.heap S o hSw e;have hes:es.size+1<=300:=by have:=v.sz;rw[K7]at this;lia
  show wpAny _ A.in1 (holding [Value.int x t0] (setAdd S (.int x t0)) >>= _) _ _ s';refine Ka (LB ?_);refine AM hS' v.els hes (fun tk htk' hin=>?_) fun tk h' es' htk' hout hsb hSn g=>?_
  .obtain⟨e,he,hh⟩:=hin;obtain⟨j,tj,rfl,hj⟩:=v.el e he;have hxj:x∈xs.take i:=by rw[isI.mp hh];exact hj
   refine Ke ⟨Np KY _,ih (i+1) _ es (by lia) hlt (W.frame _ s' _ _ hst' htk' fun b hb o e=>e) hS' (by rw[htk];exact v.seen hxj) fun s'' es'' hm'' hS'' v''=>?_⟩;exact hR s'' es'' (Moved.trans W.gtrans ((hm.mono hsub).then_heap htk' fun b o hb e=>e) hm'') hS'' v''
  .have hnin:¬ x∈xs.take i:=fun hxi=>by obtain⟨t1,h1⟩:=v.all x hxi;have:=hout _ h1;rw[show(intKind prog w).is x (eI prog w x t1).2=true from intKind_is prog w x t1]at this;cases this
   refine Ke ⟨Np KY _,ih (i+1) _ es' (by lia) hlt (W.frame _ s' _ _ hst' htk' fun b hb o e=>?_) hSn (by rw[htk];exact v.new hnin g) fun s'' es'' hm'' hS'' v''=>?_⟩
   .rw[hsb.2 b (fun h:b=S=>hSf (by rw[<- h];exact hb))];exact e
   .refine hR s'' es'' (Moved.trans W.gtrans ((hm.mono hsub).then_heap htk' fun b o hb e=>?_) hm'') hS'' v'';rw[hsb.2 b (fun h:b=S=>hb (by rw[h];exact KD))];exact e
end
section
variable {prog:Ov}{w:World}{A:Ox}{E:Ow->Ot->Prop}{s:Ot}
theorem vn (hh:A.handled=none) (hl:s.heap.get? l=some { cls:=.type "list",data:=.seq items nl }) (hn:xs.length=items.size) (hz:items.size<=300)
 (hval:∀(i:Nat)(v:Ow),items[i]?=some v->∃ x t,xs[i]?=some x/\v=.int x t)
 (h:∀(h':Heap)(tk:Nat)(es:Array (Int×Ow)),SetAt w h' s.heap.objs.size es->SInvI prog w es xs->(∀ b o,b<s.heap.objs.size->s.heap.get? b=some o->h'.get? b=some o)->Q (.ref s.heap.objs.size) { s with heap:=h',toks:=tk }) :
 wpAny (model prog w) A (call (.type "set") [.ref l]) Q E s:=by
 obtain⟨c,tl,hmro⟩:=K5.mro;have hmade:=K5.made;have hsub:=K5.sub;refine wpAny_call (codeAny_of_tree ?_);show wpAny _ _ (callAny (.type "set") _) _ _ _;refine Ke ⟨Nq _ (by decide +kernel),LP PySem.F.entry_type_call ?_⟩;rw[Around.under_plain (weight_type_call_type "set" [.ref l] []) rfl];have h1:=K5.notType;have h2:=K5.canCreate;have hct:=PySem.F.typeCall_set_1 (.ref l)
 repeat (any_goals (first|assumption|wp_step))
 refine MV (gz (.ref l) (E:=E) (Q₁:=fun obj s₁=>obj=.ref s.heap.objs.size/\s₁={ s with heap:=s.heap.push (setNew (!byT w)) }) ⟨rfl,rfl⟩) fun r s₁ hr=>?_;rcases r with e|fl
 .exact hr
 cases fl with
 |ret obj=>
  obtain⟨rfl,rfl⟩:=hr;have hS:(s.heap.push (setNew (!byT w))).get? s.heap.objs.size=some (setNew (!byT w)):=Kr _ rfl;have hT:Shared.TypeIs { s with heap:=s.heap.push (setNew (!byT w)) } (.ref s.heap.objs.size) "set":=⟨_,hS,rfl⟩;have hli:=K5.init.lookup;have hbi:=K5.init.bind (.ref s.heap.objs.size)
  repeat (any_goals (first|assumption|wp_step))
  refine MV (codeAny_call_builtin (R:=wants (fun r s₂=>r=.none/\∃ h' tk es,s₂={ s with heap:=h',toks:=tk }/\SetAt w h' s.heap.objs.size es/\SInvI prog w es xs/\
   (∀ b o,b<s.heap.objs.size->s.heap.get? b=some o->h'.get? b=some o)) E) K5.init.plain PySem.F.entry_set_init (check_set_init_1 hT ?_)) fun r₂ s₂ hr₂=>?_
  .have hol':(s.heap.push (setNew (!byT w))).get? l=some { cls:=.type "list",data:=.seq items nl }:=Kb _ hl;have hsls:=PySem.F.sub_list_set;have hslf:=PySem.F.sub_list_frozenset;have hne:(Value.type "list"==Value.type "dict")=false:=by decide
   have hl1:(s.heap.push (setNew (!byT w))).IsList l items:=⟨_,hol',rfl,nl,rfl⟩;unfold Builtin.«set.__init__» noKeywords Builtin.Frozenset.updateFrom;generalize hPI:pyIter=PI
   wp_walk
   subst hPI;refine LW hl1 (Ka (Oa ?_));have hlS:l<s.heap.objs.size:=Kt hl;have hh3:A.in1.in1.in1.handled=none:=by simp[hh]
   have hneI:l≠(s.heap.push (setNew (!byT w))).objs.size:=by rw[LR];exact KJ (Mz hlS)
   refine hW ((Walks.list hh3 _ l hneI items).toS) s.heap.objs.size ?hSf xs hn hval hz (items.size-0) 0 _ #[] rfl (KU _) ⟨⟨_,Kr _ rfl,rfl,rfl⟩,(hl1.push _)⟩ (mO (Kb _ hS)) ⟨fun e he=>(nomatch he),fun x hx=>(nomatch hx),List.Pairwise.nil,KU _⟩ ?hR
   case hSf=>rw[LR];simp only[Kj,Lc,MZ,not_or];exact⟨KJ (NL _),Ml hlS⟩
   case hR=>intro s' es hm hS' v;obtain⟨h',g',d',tk',os'⟩:=s';have eg:g'=s.gens:=hm.gens;have ed:d'=s.drawn:=hm.drawn;have eo:os'=s.os:=hm.os;subst eg ed eo;refine Ke (Ke ⟨rfl,h',tk',es,rfl,hS',v,fun b o hb e=>hm.heap b o ?_ (Kb _ (Kb _ e))⟩);simp only[Kj,Lc,MZ,not_or];exact⟨KJ hb,by rw[LR];exact KJ (Mz hb)⟩
  .rcases r₂ with e|fl₂
   .exact hr₂
   cases fl₂ with
   |ret r=>
    obtain⟨rfl,h',tk,es,rfl,hS',v,hk'⟩:=hr₂
    repeat (any_goals (first|assumption|wp_step))
    exact h _ _ es hS' v hk'
   |_=>exact hr₂.elim
 |_=>exact hr.elim
end
section
variable {X:Cx}
theorem xq:∀{xs:List Int}{us:List Ow},Vals (xs.map V.int) us->us.length=xs.length/\∀(i:Nat)(v:Ow),us[i]?=some v->∃ x t,xs[i]?=some x/\v=.int x t
 | [],[],_=>⟨rfl,fun i v e=>by simp at e⟩
 |x::r,u::us,.cons q h=>by
  obtain⟨a,b⟩:=xq h;refine⟨by simp[a],fun i v e=>?_⟩;cases i with
  |zero=>obtain⟨t,hu⟩:=q;simp only[Nu,Option.some.injEq]at e;exact⟨x,t,rfl,by rw[<- e,hu]⟩
  |succ i=>exact b i v (by simpa using e)
theorem rR (hc:X.calm=true):CallR X (.type "set") (fun vs H Q=>∃ l xs,vs=[.ref l]/\Rd H l (.lst (xs.map V.int))/\xs.length<=300/\∀ p es,H p=none->SInvI X.prog X.w es xs->Q (.ref p) (aJ H p (.ext fun h=>SetAt X.w h p es))):=by intro pins s σ H vs us Q I r h;obtain⟨l,xs,rfl,hl,hz,q⟩:=h;obtain⟨u,rfl,ru⟩:=fq r;obtain rfl:u=Value.ref l:=ru;obtain⟨_,us,n,rv,hg⟩:=(show ObjOk X.prog X.w H s.heap l (.lst (xs.map V.int)) from hl.ok I.hok);obtain⟨g1,g2⟩:=xq rv;refine vn (I.ok.hd hc) hg (xs:=xs) (by rw[Ki];exact g1.symm) (by rw[Ki,g1];exact hz) (fun i v e=>g2 i v (by simpa using e)) fun h' tk es hS v hk=>?_;have hf:H s.heap.objs.size=none:=I.hok.fresh (Km _);refine⟨.ref s.heap.objs.size,_,I.laid (a:=s.heap.objs.size) (o:=.ext fun h=>SetAt X.w h s.heap.objs.size es) (t':=tk) (fun b o e=>hk b o (Kt e) e) (Km _) ?_,rfl,q _ es hf v⟩;exact⟨hS,(let ⟨o,_,_,e,_⟩:=hS;⟨o,e⟩),fun h1 h2 hs k=>SetAt.keep hs k⟩
end
noncomputable abbrev gA:=Int×Tok
noncomputable def valsN (zs:List gA):List Ow:=zs.map fun z=>Value.int z.1 z.2
noncomputable abbrev CF (z:gA):Keyed:=(Value.int z.1 z.2,Value.int z.1 z.2)
noncomputable def c9 (K:List Int)(k:Int):Nat:=(K.filter fun j=>decide (j<k)).length
theorem xr:∀{K:List Int},(∀ x,p x=true->q x=true)->(K.filter p).length<=(K.filter q).length
 | [],_=>Km _
 |x::K,h=>by
  have ih:=xr (K:=K) h;rw[Ll,Ll];cases hp:p x with
  |true=>rw[h x hp];simpa using ih
  |false=>cases hq:q x<;>simp<;>lia
theorem xt:∀{K:List Int},(∀ x,p x=true->q x=true)->z∈K->p z=false->q z=true->(K.filter p).length<(K.filter q).length
 | [],_,h,_,_=>by cases h
 |x::K,h,hz,h1,h2=>by
  have le:=xr (K:=K) h;rw[Ll,Ll];rcases Kj.mp hz with rfl|hz
  .rw[h1,h2];simp;lia
  .have ih:=xt h hz h1 h2;cases hp:p x with
   |true=>rw[h x hp];simpa using ih
   |false=>cases hq:q x<;>simp<;>lia
theorem h9 {K:List Int}(ha:a∈K)(hb:b∈K):decide (a<b)=decide (c9 K a<c9 K b):=by
 have up:∀{a b:Int},a∈K->a<b->c9 K a<c9 K b:=fun{a b} ha h=>xt (z:=a) (fun x hx=>by simp at hx ⊢;lia) ha (by simp) (by simpa using h);by_cases h:a<b
 .rw[Kl h,Kl (up ha h)]
 .rw[Kp h];by_cases e:a=b
  .subst e;rw[Kp (LY _)]
  .have:=up hb (show b<a by lia);rw[Kp (by lia)]
section
variable {prog:Ov}{w:World}{A:Ox}{E:Ow->Ot->Prop}{s:Ot}
theorem xu {zs:List gA}:TS.Cmp prog w A s oneType' (zs.map CF) fun p=>c9 (zs.map (·.1)) (numOf p.1):=by intro p hp q hq Q hQ;obtain⟨x,hx,rfl⟩:=Kq.mp hp;obtain⟨y,hy,rfl⟩:=Kq.mp hq;have hQ:Q (decide (c9 (zs.map (·.1)) x.1<c9 (zs.map (·.1)) y.1)) s:=hQ;rw[<- h9 (KZ (f:=(·.1)) hx) (KZ (f:=(·.1)) hy)]at hQ;rw[keyLt'_oneType];exact oneLt_int hQ
theorem pJ:∀ zs:List gA,IntsAre (valsN zs) (zs.map (·.1))
 | []=>.nil
 |z::zs=>.cons _ _ (pJ zs)
theorem mT {P:PySem.Fin->Ot->Prop} (ho:s.heap.get? a=some (seqObj "list" (valsN zs).toArray n)) (nd:(zs.map (·.1)).Nodup) (hz:zs.length<=1000)
 (h:∀ ys h' c,ys.Perm zs->ys.Pairwise (fun x y=>x.1<y.1)->h'.get? a=some (seqObj "list" (valsN ys).toArray c)->(∀ b o,b≠a->s.heap.get? b=some o->h'.get? b=some o)->P (.done (.ret .none)) { s with heap:=h' }) :
 wpAny (model prog w) A (Builtin.«list.sort» ⟨[.ref a],[]⟩) P E s:=by
 have hvl:(valsN zs).length=zs.length:=by simp[valsN]
 rw[list_sort_plain];refine Ka (listItems_at ho rfl (Ka (Nv ho rfl ?_ (by rw[Ki,hvl,K9];lia) (KU _))));obtain⟨e1,ho1⟩ : ∃ e1,(s.heap.update a (Obj.mapSeq fun _=>#[])).get? a=some (seqObj "list" #[] e1):=⟨_,Nw ho (fun _=>#[])⟩;refine Ka (N1 ho1 rfl (Ka (wpAny_newTuple (Ka (MJ (LB ?_) (KU _))) (by show(valsN zs).length<=_;rw[hvl,K9];lia))));have oth:∀ b o,b≠a->s.heap.get? b=some o->(((s.heap.update a (Obj.mapSeq fun _=>(#[]:Array Ow))).push (seqObj "tuple" (valsN zs).toArray 0)).push (seqObj "list" #[] 0)).get? b=some o:=fun b o hb e=>Kb _ (Kb _ ((Lz _ _ (Lj hb)).trans e));have ho6:(((s.heap.update a (Obj.mapSeq fun _=>(#[]:Array Ow))).push (seqObj "tuple" (valsN zs).toArray 0)).push (seqObj "list" #[] 0)).get? a=some (seqObj "list" #[] e1):=Kb _ (Kb _ ho1);show wpAny (model prog w) A _ P E { s with heap:=((s.heap.update a (Obj.mapSeq fun _=>(#[]:Array Ow))).push (seqObj "tuple" (valsN zs).toArray 0)).push (seqObj "list" #[] 0) };generalize (((s.heap.update a (Obj.mapSeq fun _=>(#[]:Array Ow))).push (seqObj "tuple" (valsN zs).toArray 0)).push (seqObj "list" #[] 0))=H6 at ho6 oth;dsimp only;have fin:∀(ys:List gA)(out:Array Ow),ys.Perm zs->ys.Pairwise (fun x y=>x.1<y.1)->out=(valsN ys).toArray->P (.done (.ret .none)) { s with heap:=H6.update a (Obj.mapSeq fun _=>out) }:=fun ys out hp hw ho=>by subst ho;exact h ys _ _ hp hw (Nw ho6 fun _=>(valsN ys).toArray) fun b o hb e=>(Lz _ _ (Lj hb)).trans (oth b o hb e)
 have hzip:(valsN zs).toArray.zip (valsN zs).toArray=(zs.map CF).toArray:=by apply Oh;simp[valsN,List.zip_map']
 by_cases h2:(valsN zs).toArray.size<2
 .rw[Kf h2,Kf h2];refine Ka (Ke ?_);rw[StateT.run_pure];have hx2:zs.length<2:=by rw[Ki,hvl]at h2;exact h2
  have hout:Array.map (fun x:Keyed=>x.2) ((valsN zs).toArray.zip (valsN zs).toArray)=(valsN zs).toArray:=by apply Oh;simp[List.map_snd_zip]
  refine Ka (Ke ?_);dsimp only;refine Ka (N1 ho6 rfl (Ka (Nv ho6 rfl ?_ (KU _) ?_)))
  .simp only[MB,Ks,Lh];refine Ke (fin zs _ (Ob _) ?_ hout)
   match zs,hx2 with
   | [],_=>exact List.Pairwise.nil
   | [x],_=>exact LJ _ _
  .show(Array.map (fun x:Keyed=>x.2) ((valsN zs).toArray.zip (valsN zs).toArray)).size<=_;rw[hout,Ki,hvl,K9];lia
 .rw[Kh h2,Kh h2];have hx2:2<=zs.length:=by rw[Ki,hvl]at h2;lia
  have hkind:keyKind' (valsN zs).toArray=pure oneType':=by
   match zs,hx2 with
   |z1::z2::r,_=>exact keyKind_ints (pJ (z1::z2::r))
  rw[hkind];refine Ka (Ke ?_);have C:=xu (prog:=prog) (w:=w) (A:=A) (s:={ s with heap:=H6 }) (zs:=zs);have hnd:(((zs.map CF).toArray).toList.map fun p=>c9 (zs.map (·.1)) (numOf p.1)).Nodup:=by show(((zs.map CF)).map fun p=>c9 (zs.map (·.1)) (numOf p.1)).Nodup;rw[KC];unfold List.Nodup at nd ⊢;rw[KH]at nd ⊢;refine LD (fun{x y} hx hy hne e=>?_) nd;have e:c9 (zs.map (·.1)) x.1=c9 (zs.map (·.1)) y.1:=e;have h1:=h9 (KZ (f:=(·.1)) hx) (KZ (f:=(·.1)) hy);have h2:=h9 (KZ (f:=(·.1)) hy) (KZ (f:=(·.1)) hx);rw[e,Kp (LY _)]at h1 h2;simp at h1 h2;lia
  have run:=TS.t_runs (E:=E) (a₀:=(zs.map CF).toArray) (st:=SortSt.mk' oneType' (zs.map CF).toArray #[] 7 none) C hnd ⟨.refl _,rfl,rfl⟩ rfl (by simp;exact hx2) (Q:=fun _ st'=>∃ ys:List gA,ys.Perm zs/\(arrOf st').toList=ys.map CF/\ys.Pairwise (fun x y=>x.1<y.1)/\failedOf st'=none) fun st' B sr=>by obtain⟨ys,hp,he⟩:=jq CF B.perm zs rfl;refine⟨ys,hp,he,?_,B.fail⟩;rw[he]at sr;unfold TS.Srt at sr;rw[KH]at sr;have nd':=(hp.map (·.1)).nodup_iff.mpr nd;unfold List.Nodup at nd';rw[KH]at nd';refine(sr.and nd').imp_of_mem fun{x y} hx hy hh=>?_;have hx:=hp.subset hx;have hy:=hp.subset hy;obtain⟨h1,h2⟩:=hh;have h1:c9 (zs.map (·.1)) x.1<=c9 (zs.map (·.1)) y.1:=h1;have h3:=h9 (KZ (f:=(·.1)) hy) (KZ (f:=(·.1)) hx);rw[Kp (show ¬ c9 (zs.map (·.1)) y.1<c9 (zs.map (·.1)) x.1 by lia)]at h3;simp at h3;lia
  rw[hzip];refine Ka (LC run ?_ fun _ _ e=>e);rintro⟨⟨⟩,st'⟩ s' ⟨rfl,ys,hp,he,hw,hf⟩;dsimp only at he hf ⊢;have hout:(arrOf st').map (·.2)=(valsN ys).toArray:=by apply Oh;rw[Array.toList_map,he,KC];rfl
  rw[hout];refine Ka (N1 ho6 rfl (Ka (Nv ho6 rfl ?_ (KU _) ?_)))
  .rw[hf];simp only[MB,Ks,Lh];exact Ke (fin _ _ hp hw rfl)
  .show(valsN ys).toArray.size<=_;have:=hp.length_eq;simp[valsN,this];rw[K9];lia
theorem mU {xs:List Int}:∀(l:List (Int×Ow)),(∀ e∈l,∃ k t,e=eI prog w k t/\k∈xs)->∃ zs:List gA,l=zs.map (fun z=>eI prog w z.1 z.2)/\∀ z∈zs,z.1∈xs
 | [],_=>⟨[],rfl,fun z hz=>nomatch hz⟩
 |e::l,h=>by
  obtain⟨k,t,rfl,hk⟩:=h e KD;obtain⟨zs,h1,h2⟩:=mU l fun e he=>h e (Ky _ he);exact⟨(k,t)::zs,by rw[h1];rfl,fun z hz=>by
   rcases Kj.mp hz with rfl|hz
   .exact hk
   .exact h2 z hz⟩
theorem nV {Q:Ow->Ot->Prop}(sa:SetAt w s.heap S es)(v:SInvI prog w es xs)(hh:A.handled=none)(hz:es.size<=300)
 (h:∀(ys:List gA) h' tk l c,(∀ k,k∈ys.map (·.1)↔k∈xs)->ys.Pairwise (fun x y=>x.1<y.1)->ys.length<=300->s.heap.objs.size<=l->h'.get? l=some (seqObj "list" (valsN ys).toArray c)->(∀ b o,s.heap.get? b=some o->h'.get? b=some o)->Q (.ref l) { s with heap:=h',toks:=tk }) :
 wpAny (model prog w) A (call (.builtin "sorted") [.ref S]) Q E s:=by
 obtain⟨o,ep,t,ho,hex,hd,T,sp,hpl,hle⟩:=sa;have pe:=kz w S ep es;obtain⟨zs,ez,zm⟩:=mU (prog:=prog) (w:=w) (xs:=xs) (ef w S ep es).toList fun e he=>v.el e (pe.mem_iff.mp he);have ev:(ef w S ep es).toList.map (·.2)=valsN zs:=by rw[ez,KC];rfl
 have hzl:zs.length=es.size:=by have:=KN List.length ez;rw[Kg,KM,fE]at this;exact this.symm
 have nd:(zs.map (·.1)).Nodup:=by have pw:=(pe.pairwise_iff (fun{x y} hxy k t k' t' e1 e2 z=>hxy k' t' k t e2 e1 z.symm)).mpr v.pw;rw[ez,KH]at pw;unfold List.Nodup;rw[KH];exact pw.imp fun{a b} hab=>hab a.1 a.2 b.1 b.2 rfl rfl
 refine Mq kind_sorted plain_sorted entry_sorted (args_sorted1 _) ?_;unfold Builtin.«sorted»;refine Ka (m:=checkCount "sorted" 1 1 _) (Ke (Ka (jp ⟨o,ho,hex,hd⟩ T (c6 sp) hpl hle (by simp[hh]) hz fun h1 tk1 g1 k1=>?_)));rw[ev];refine Ka (MJ ?_ (by show(valsN zs).length<=_;simp only[valsN,Kg];rw[hzl,K9];lia));have hoL:(h1.push (seqObj "list" (valsN zs).toArray 0)).get? h1.objs.size=some (seqObj "list" (valsN zs).toArray 0):=Kr _ rfl;have kk:∀ b o,s.heap.get? b=some o->(h1.push (seqObj "list" (valsN zs).toArray 0)).get? b=some o:=fun b o e=>Kb _ (k1 b o e);have ge:s.heap.objs.size<=h1.objs.size:=Lb g1;refine Ka (LB (Ln slot_list_sort ⟨_,hoL,rfl⟩ entry_list_sort ?body (args_list_sort _)))
 case body=>
  refine mT (s:={ s with heap:=h1.push (seqObj "list" (valsN zs).toArray 0),toks:=tk1 }) hoL nd (by lia) fun ys h2 c2 hp hw hl2 k2=>⟨_,rfl,?_⟩;refine Ke ⟨_,rfl,h ys h2 tk1 _ c2 (fun k=>?_) hw (by rw[hp.length_eq];lia) ge hl2 fun b o e=>k2 b o (fun z=>?_) (kk b o e)⟩
  .rw[(hp.map (·.1)).mem_iff];constructor
   .intro hk;obtain⟨z,hz,rfl⟩:=Kq.mp hk;exact zm z hz
   .intro hk;obtain⟨t1,h3⟩:=v.all k hk;have h4:eI prog w k t1∈zs.map (fun z=>eI prog w z.1 z.2):=by rw[<- ez];exact pe.mem_iff.mpr h3
    obtain⟨z,z1,z2⟩:=Kq.mp h4;have:z.1=k:=by injection z2 with _ q;injection q
    exact Kq.mpr ⟨z,z1,this⟩
  .subst z;exact absurd (Kt e) (Os.mpr ge)
end
section
variable {X:Cx}
theorem iR:∀ ys:List gA,Vals (ys.map fun y=>V.int y.1) (valsN ys)
 | []=>.nil
 |y::ys=>.cons ⟨y.2,rfl⟩ (iR ys)
theorem l7 (hc:X.calm=true):CallR X (.builtin "sorted") (fun vs H Q=>∃ p es xs,vs=[.ref p]/\H p=some (.ext fun h=>SetAt X.w h p es)/\SInvI X.prog X.w es xs/\xs.length<=300/\
 ∀(l:Addr)(ks:List Int),H l=none->(∀ k,k∈ks↔k∈xs)->ks.Pairwise (·< ·)->Q (.ref l) (aJ H l (.lst (ks.map V.int)))):=by
 intro pins s σ H vs us Q I r h;obtain⟨p,es,xs,rfl,hp,v,hz,q⟩:=h;obtain⟨u,rfl,ru⟩:=fq r;obtain rfl:u=Value.ref p:=ru;obtain⟨hS,_,_⟩:=(show ObjOk X.prog X.w H s.heap p (.ext fun h=>SetAt X.w h p es) from I.hok p _ hp);refine nV hS v (I.ok.hd hc) (KA v.sz hz) fun ys h' tk l c hm hw hyl hle hl hk=>?_;have hf:H l=none:=I.hok.fresh hle;have em:(ys.map (·.1)).map V.int=ys.map fun y=>V.int y.1:=by rw[KC];rfl
 refine⟨.ref l,_,I.laid (a:=l) (o:=.lst ((ys.map (·.1)).map V.int)) (t':=tk) hk hle ?_,rfl,q l (ys.map (·.1)) hf hm (by rw[KH];exact hw)⟩;rw[em];exact⟨by rw[Kg,K9];lia,valsN ys,c,iR ys,hl⟩
end
end L2
namespace L2
open PySem PySem.Spec PySem.Calls PyProof.Rows
section
variable {prog:Ov}{w:World}{A:Ox}{E:Ow->Ot->Prop}{s:Ot}
theorem DX {k:List Key}{dflt:Ow}{Q:Ow->Ot->Prop}(hu:A.units<cLine)(my:(tK prog w).is s.heap k a)(hm:s.heap.DictOfH (tK prog w) d xs)(hsz:xs.length<=sizeLine)
 (h1:∀ p,atKey xs k=some p->Q p.2 { s with toks:=s.toks+(tK prog w).draws k })
 (h2:atKey xs k=none->∀ h',h'.DictOfH (tK prog w) d (storedH xs k a dflt)->Heap.SameBut d s.heap h'->Q dflt { s with heap:=h',toks:=s.toks+(tK prog w).draws k }):wpAny (model prog w) A (dictSetDefault d (.ref a) dflt) Q E s:=by
 obtain⟨o,es,ep,ho,hc,hd,he,his,hn⟩:=hm;unfold dictSetDefault
 try with_reducible refine LB ?_
 refine Ka ((tK prog w).pyHash hu my (Ka (wpAny_dictFind_heap (knd:=tK prog w) (s:={ s with toks:=s.toks+(tK prog w).draws k }) hu my ho hd he his hn (fun hno=>?_) fun j p hj=>?_)))
 .have hnone:=atKey_none_of_get hno;have hnot:k∉xs.map (·.1):=not_mem_keys_of_get hno;refine Ka (Nj (Ka (wpAny_updateDictKeys (hz:=by have e:=size_of_entries he;lia) (s:={ s with toks:=s.toks+(tK prog w).draws k }) ho hd (Ke (h2 hnone _ ⟨_,_,ep+1,LV _ ho (Obj.isFreed_of_dict (Obj.data_mapDictKeys hd _)),hc.mapDictKeys _,Obj.data_mapDictKeys hd _,?_,?_,?_⟩ (Le ..))))))
  .rw[storedH_new hnone];simp[he,entryOfKey]
  .rw[storedH_new hnone];intro x hx;rcases Ku.mp hx with hx|hx
   .exact(tK prog w).keeps (his x hx) ho hd (Le ..)
   .obtain rfl:=KO.mp hx;exact(tK prog w).keeps my ho hd (Le ..)
  .rw[storedH_new hnone,KI,MD];exact⟨hn,by simp,fun x hx y hy e=>by simp only[Kx,N6,KO]at hy;subst hy;exact hnot (e▸hx)⟩
 .refine Ka (wpAny_dictEntries (s:={ s with toks:=s.toks+(tK prog w).draws k }) ho hd ?_);rw[entry_at he j,hj];exact Ka (Nj (Ke (h1 p (atKey_of_get hn hj))))
end
section
variable {X:Cx}
noncomputable def AN:V->List V->Hp->VK->Prop:=fun x xs H Q=>∃ a b k y kvs,x=.ref a/\xs=[.ref b,y]/\H b=some (.tup (k.map kV))/\H a=some (.dT kvs)/\kvs.length<sizeLine/\
 ((∃ v,dr kvs k=some v/\Q v H)\/(dr kvs k=none/\Q y (aJ H a (.dT (b9 kvs k y)))))
theorem mV (hu:X.A.units+64<cLine):Ii X "dict.setdefault" AN:=by
 intro pins s σ H x xs v us Q I rx rs q;obtain⟨a,b,k,y,kvs,rfl,rfl,hb,ha,hz,q⟩:=q;obtain rfl:v=Value.ref a:=rx;obtain⟨u1,u2,rfl,ru1,ru2⟩:=wD rs;obtain rfl:u1=Value.ref b:=ru1;obtain⟨z1,y1,vs,r1,d1⟩:=Cp I.hok ha;have my:=d9 I.hok hb;have hT:Shared.TypeIs s (.ref a) "dict":=by obtain⟨o,es,ep,ho,hc,_⟩:=d1;exact⟨o,ho,hc.1⟩
 refine Ln NV hT PySem.F.entry_dict_setdefault ?_ (PySem.F.args_dict_setdefault_3 _ _ _);unfold Builtin.«dict.setdefault»;refine Ka ?_;unfold Builtin.Dict.keyAndDefault;refine Ka (wpAny_notOrdered_dict hT (show wpAny _ _ (pure (a,Value.ref b,some u2)) _ _ s from Ke ?_));show wpAny _ _ (if (a==sysModules)=true then _ else (dictSetDefault a (Value.ref b) u2 >>= _)) _ _ s;rw[Kh (by rw[y1];exact Mb)];have bR:vs.length<=sizeLine:=by rw[<- Nk r1];exact z1
 have rv:=r1.val k;refine Ka (DX (by show X.A.units+1<cLine;lia) my d1 bR (fun p hp=>?_) fun hn0 h' dd' hs=>?_)
 .rcases q with⟨v,hv,q⟩|⟨hv,q⟩
  .have:RelO (some v) (some p.2):=by rw[<- hv];rw[hp]at rv;exact rv
   exact Ke ⟨_,rfl,v,H,I.tok _,this,q⟩
  .have:=rv.isSome_eq;rw[hv,hp]at this;cases this
 .rcases q with⟨v,hv,q⟩|⟨hv,q⟩
  .have:=rv.isSome_eq;rw[hv,hn0]at this;cases this
  .obtain⟨o',es,ep,hq,h2,h3,h4,_,h5⟩:=dd';have hl:(b9 kvs k y).length<=sizeLine:=by have:=fD kvs k y;lia
   have hok:ObjOk X.prog X.w (aJ H a (.dT (b9 kvs k y))) h' a (.dT (b9 kvs k y)):=by refine⟨hl,y1,_,(r1.put k hb ru2).keeps fun c ys ec=>?_,o',es,ep,hq,h2,h3,h4,h5⟩;rw[ao (oT ec ha (fun z=>nomatch z))];exact ec
   exact Ke ⟨_,rfl,y,_,jN (t':=s.toks+(tK X.prog X.w).draws k) I (by rw[ha];exact True.intro) hs ⟨o',hq⟩ hok,ru2,q⟩
noncomputable def xw:V->List V->Hp->VK->Prop:=fun x xs H Q=>∃ a b k y kvs,x=.ref a/\xs=[.ref b,y]/\H b=some (.tup (k.map kV))/\(H a=some (.dT kvs)\/(H a=some (.dK [])/\kvs=[]))/\kvs.length<sizeLine/\
 ((∃ v,dr kvs k=some v/\Q v H)\/(dr kvs k=none/\Q y (aJ H a (.dT (b9 kvs k y)))))
theorem xx (hu:X.A.units+64<cLine):Ii X "dict.setdefault" xw:=by
 intro pins s σ H x xs v us Q I rx rs q;obtain⟨a,b,k,y,kvs,e1,e2,hb,ha,hz,q⟩:=q;rcases ha with ha|⟨ha,rfl⟩
 .exact mV hu pins s σ H x xs v us Q I rx rs ⟨a,b,k,y,kvs,e1,e2,hb,ha,hz,q⟩
 .have nba:b≠a:=oT hb ha (fun z=>nomatch z);refine mV hu pins s σ (aJ H a (.dT [])) x xs v us Q (I.retT ha) rx rs ⟨a,b,k,y,[],e1,e2,by rw[ao nba];exact hb,am,hz,.inr ?_⟩;rcases q with⟨v,hv,q⟩|⟨hv,q⟩
  .cases hv
  .have:aJ (aJ H a (.dT [])) a (.dT (b9 [] k y))=aJ H a (.dT (b9 [] k y)):=by
    funext c;by_cases h:c=a
    .subst h;rw[am,am]
    .rw[ao h,ao h,ao h]
   exact⟨hv,by rw[this];exact q⟩
end
theorem KV.at (r:KV a b):∀(i:Nat) p q,a[i]?=some p->b[i]?=some q->p.1=q.1/\RelV p.2 q.2:=by
 induction r with
 |nil=>intro i p q e;simp at e
 |cons hq t ih=>
  intro i p q e1 e2;cases i with
  |zero=>simp at e1 e2;subst e1 e2;exact hq
  |succ i=>exact ih i p q (by simpa using e1) (by simpa using e2)
section
variable {X:Cx}{es:List Expr}{k0:Nat}{sS:Pos}
end
section
variable {X:Cx}
end
section
open PySem.MeetsSeq PySem.SeqAt
open PySem.AutoSeq1 (wpAny_loadPart')
end
end L2
namespace L2
open PySem PySem.Spec PySem.Calls PyProof.Rows ST
section
variable {prog:Ov}{w:World}{A:Ox}{E:Ow->Ot->Prop}{s:Ot}
theorem pK (K:PySem.W.KdlSrc prog w T r d n P OK)(hh:A.handled=none)(hok:OK s.heap)(hn:n<=sizeLine)
 (h:∀ h' tk (acc:Array Ow),s.heap.objs.size<h'.objs.size->(∀ b o,s.heap.get? b=some o->h'.get? b=some o)->ItemsOf P acc n->Q acc.toList { s with heap:=h',toks:=tk }):wpAny (model prog w) A (collect (.ref r)) Q E s:=by
 have hlt:=K.there _ hok;have hS:(s.heap.push (seqObj "list" #[] 0)).get? s.heap.objs.size=some (seqObj "list" #[] 0):=Kr _ rfl;have key:∀ R:Result->Ot->Prop,(∀ h' tk (acc:Array Ow) c,(∀ b o,b≠s.heap.objs.size->(s.heap.push (seqObj "list" #[] 0)).get? b=some o->h'.get? b=some o)->h'.get? s.heap.objs.size=some { cls:=.type "list",dict:=none,data:=.seq acc c,slots:=#[] }->ItemsOf P acc n->R (.ok (.ret (.ref s.heap.objs.size))) { s with heap:=h',toks:=tk })->
  codeAny (model prog w) A (.builtin "list.__iadd__" ⟨[.ref s.heap.objs.size,.ref r],[]⟩) R { s with heap:=s.heap.push (seqObj "list" #[] 0) }:=fun R hR=>LP entry_list_iadd' (by
  rw[Me (show plainId "list.__iadd__"=true by decide +kernel) _];exact PySem.W.kdl_extend (s:={ s with heap:=s.heap.push (seqObj "list" #[] 0) }) K hh (K.keep _ _ hok fun b _ o e=>Kb _ e) s.heap.objs.size (Ml hlt.1) (Ml hlt.2) (.ref s.heap.objs.size) 0 hS hR hn)
 unfold collect;refine Ka (Oa (LP entry_proto_collect' (show wpAny _ _ (do again (.builtin "list.__iadd__" ⟨[<- newList [],.ref r],[]⟩)) _ _ s from ?_)));refine Ka (MJ (Ke ⟨Nq _ (by decide +kernel),key _ fun h' tk acc c kp hS' hacc=>?_⟩));refine Ka (wpAny_load hS' ?_);show wpAny _ _ (pure acc.toList) _ _ _;exact Ke (h h' tk acc (Kt hS') (fun b o e=>kp b o (KJ (Kt e)) (Kb _ e)) hacc)
end
section
variable {X:Cx}
theorem mW:∀{is:List Int}{us:List Ow},us.length=is.length->(∀(i:Nat)(n:Int) u,is[i]?=some n->us[i]?=some u->RelV (.int n) u)->∃ zs:List gA,us=valsN zs/\zs.map (·.1)=is
 | [],[],_,_=>⟨[],rfl,rfl⟩
 | [],_::_,e,_=>by cases e
 |_::_,[],e,_=>by cases e
 |n::is,u::us,e,f=>by obtain⟨t,rfl⟩:=f 0 n u rfl rfl;obtain⟨zs,h1,h2⟩:=mW (is:=is) (us:=us) (by simpa using e) fun i m v a b=>f (i+1) m v (by simpa using a) (by simpa using b);exact⟨(n,t)::zs,by rw[h1];rfl,by rw[Kx,h2]⟩
theorem l9 (hc:X.calm=true):CallR X (.builtin "sorted") (fun xs H Q=>∃(d:Addr)(kvs:List (Key×V))(u:HO)(is:List Int),xs=[.ref d]/\(u=.dK kvs\/(u=.dT []/\kvs=[]))/\Rd H d u/\kvs.map (·.1)=is.map Sum.inl/\is.length<=1000/\
 ∀(l:Addr)(ks:List Int),H l=none->(∀ k,k∈ks↔k∈is)->ks.Pairwise (·< ·)->Q (.ref l) (aJ H l (.lst (ks.map V.int)))):=by
 intro pins s σ H xs us Q I r h;obtain⟨d,kvs,u,is,rfl,hu,hrd,hk,hz,q⟩:=h;obtain⟨w,rfl,rx⟩:=fq r;cases rx;have hx:=hrd.ok I.hok;have key:(d==sysModules)=false/\∃ vs,KV kvs vs/\s.heap.DictOf (mixKind X.prog X.w) d vs:=by
  rcases hu with rfl|⟨rfl,rfl⟩
  .obtain⟨z,hd,vs,rel,dd⟩:=hx;exact⟨hd,vs,rel,dd⟩
  .obtain⟨hd,dd⟩:=wX hx;exact⟨hd,[],.nil,dd⟩
 obtain⟨hd,vs,rel,dd⟩:=key;obtain⟨ep,da⟩:=dd.dictAt;have hl:=rel.length;have hki:kvs.length=is.length:=by have:=KN List.length hk;simpa using this
 have hnd:(vs.map (·.1)).Nodup:=by obtain⟨_,_,_,_,_,_,_,_,nd⟩:=dd;exact nd
 have hvk:vs.map (·.1)=is.map Sum.inl:=by
  rw[<- hk];apply LH
  intro i;rw[K6,K6];cases e:kvs[i]? with
  |none=>rw[Lo (by rw[<- hl];exact List.getElem?_eq_none_iff.mp e)];rfl
  |some p=>
   have hi:i<vs.length:=by rw[<- hl];exact(Kc.mp e).1
   obtain⟨e1,_⟩:=rel.at i _ _ e (Li hi);rw[Li hi];exact KN some e1.symm
 have ndI:is.Nodup:=by rw[hvk]at hnd;unfold List.Nodup at hnd ⊢;rw[KH]at hnd;exact hnd.imp fun{a b} hab z=>hab (by rw[z])
 refine Mq kind_sorted plain_sorted entry_sorted (args_sorted1 _) ?_;unfold Builtin.«sorted»;refine Ka (m:=checkCount "sorted" 1 1 _) (Ke (Ka (pK (PySem.W.kdl_dict (knd:=mixKind X.prog X.w) (kvs:=vs) (ep:=ep) hd) (I.ok.hd hc) da (by rw[<- hl,hki,K9];lia) fun h1 tk1 acc g1 k1 it=>?_)));obtain⟨i1,i2⟩:=it;obtain⟨zs,ez,ezk⟩:=mW (is:=is) (us:=acc.toList) (by rw[KM,i1,<- hl,hki]) fun i n v en ev=>by
  obtain⟨k,x,e1,e2⟩:=i2 i v (by rw[<- Kn];exact ev);have:(vs.map (·.1))[i]?=some k:=by rw[K6,e1];rfl
  rw[hvk,K6,en]at this;cases this;exact Az e2
 rw[ez];have hzl:zs.length=is.length:=by have:=KN List.length ezk;simpa using this
 refine Ka (MJ ?_ (by show(valsN zs).length<=_;simp only[valsN,Kg];rw[hzl,K9];lia));have hoL:(h1.push (seqObj "list" (valsN zs).toArray 0)).get? h1.objs.size=some (seqObj "list" (valsN zs).toArray 0):=Kr _ rfl;have kk:∀ b o,s.heap.get? b=some o->(h1.push (seqObj "list" (valsN zs).toArray 0)).get? b=some o:=fun b o e=>Kb _ (k1 b o e);have ge:s.heap.objs.size<=h1.objs.size:=Lb g1;refine Ka (LB (Ln slot_list_sort ⟨_,hoL,rfl⟩ entry_list_sort ?body (args_list_sort _)))
 case body=>
  refine mT (s:={ s with heap:=h1.push (seqObj "list" (valsN zs).toArray 0),toks:=tk1 }) hoL (by rw[ezk];exact ndI) (by lia) fun ys h2 c2 hp hw hl2 k2=>⟨_,rfl,?_⟩;have hf:H h1.objs.size=none:=I.hok.fresh ge;have em:(ys.map (·.1)).map V.int=ys.map fun y=>V.int y.1:=by rw[KC];rfl
  refine Ke ⟨_,rfl,.ref h1.objs.size,_,I.laid (a:=h1.objs.size) (o:=.lst ((ys.map (·.1)).map V.int)) (t':=tk1) (fun b o e=>k2 b o (fun z=>?_) (kk b o e)) ge ?_,rfl,q h1.objs.size (ys.map (·.1)) hf (fun k=>?_) (by rw[KH];exact hw)⟩
  .subst z;exact absurd (Kt e) (Os.mpr ge)
  .rw[em];exact⟨by rw[Kg,K9,hp.length_eq];lia,valsN ys,c2,iR ys,hl2⟩
  .rw[(hp.map (·.1)).mem_iff,ezk]
end
end L2
namespace L2
open PySem PySem.Spec PySem.Calls PyProof.Rows
section
variable {X:Cx}
end
end L2
namespace L2
open PySem PySem.Spec PyProof.Rows
section
variable {X:Cx}{hc hc2:Str}{Ch Ch2:Addr}{np hpos np2 hpos2 pos epos:Pos}{b₀ c₀:Stmt}{suite suite2:List Stmt}{ts ts2:TS}{te:TX}{e:Expr}
end
open Sem (wp)
open Builtin
section
variable {prog:Ov}{w:World}{A:Ox}{E:Ow->Ot->Prop}{s:Ot}
theorem Gx (hj:IsTupIter s.heap j t n)(ht:IsTup s.heap t xs)(hx:xs[n]?=some x)
 (q:∀ g,IsTupIter g j t (n+1)->Heap.SameBut j s.heap g->Q x { s with heap:=g }):wpAny (model prog w) A (Builtin.SmallTypes.nextOf (.ref j)) Q E s:=by
 obtain⟨u,hu,cu,du⟩:=id hj;obtain⟨ut,hut,_,m,dut⟩:=ht;unfold Builtin.SmallTypes.nextOf;refine Ka (L1 (name:=Str.ofString "__next__") hj.typeIs Nh (Ln Nh hj.typeIs entry_tupleiter_next ?_ (args_tupleiter_next _)));show wpAny _ _ (field (.ref j) 0 >>= _) _ _ s;refine Ka (Mh hu du (x:=.ref t) rfl ?_);show wpAny _ _ (if (Value.ref t==Value.none)=true then _ else _) _ _ s;rw[Kh (show ¬ ((Value.ref t==Value.none)=true) from Mb)];show wpAny _ _ (field (.ref j) 1 >>= _) _ _ s;refine Ka (Mh hu du (x:=.int n 0) rfl ?_);show wpAny _ _ (seqItems? (.ref t) >>= _) _ _ s;refine Ka (LO hut dut ?_);simp only[Of,hx];refine Ka (NE hu du (by simp) (Ke ⟨x,rfl,Ke (q _ ⟨_,LV _ hu (NH (Nt du _)),(Obj.cls_mapFields ..).trans cu,by rw[Nt du];simp[rawInt]⟩ (Le ..))⟩))
theorem Gy (hh:A.handled=none)(hj:IsTupIter s.heap j t n)(ht:IsTup s.heap t xs)(hx:xs[n]?=none)
 (q:∀ g e,Heap.ExtBut j s.heap g->(∃ u,g.get? e=some u/\u.cls=.type "StopIteration")->E (.ref e) { s with heap:=g }):wpAny (model prog w) A (Builtin.SmallTypes.nextOf (.ref j)) Q E s:=by
 obtain⟨u,hu,cu,du⟩:=id hj;obtain⟨ut,hut,_,m,dut⟩:=ht;unfold Builtin.SmallTypes.nextOf;refine Ka (L1 (name:=Str.ofString "__next__") hj.typeIs Nh (Ln Nh hj.typeIs entry_tupleiter_next ?_ (args_tupleiter_next _)));show wpAny _ _ (field (.ref j) 0 >>= _) _ _ s;refine Ka (Mh hu du (x:=.ref t) rfl ?_);show wpAny _ _ (if (Value.ref t==Value.none)=true then _ else _) _ _ s;rw[Kh (show ¬ ((Value.ref t==Value.none)=true) from Mb)];show wpAny _ _ (field (.ref j) 1 >>= _) _ _ s;refine Ka (Mh hu du (x:=.int n 0) rfl ?_);show wpAny _ _ (seqItems? (.ref t) >>= _) _ _ s;refine Ka (LO hut dut ?_);simp only[Of,hx];refine Ka (Nj (Ka (NE hu du (by simp) ?_)));show wpAny _ _ (newExc (.type "StopIteration") [] >>= _) _ _ _;refine Ka ?_;simp only[newExc,newTuple];refine Ka (MC ?_ (by size_fits));refine Ka (m:=firstArgMember _ _) (wpAny_of_eq (a:=Value.none) (by first|rfl|(simp only[firstArgMember];rfl)) ?_);refine MC ?_ (by size_fits);simp only[raiseNew];refine Ka (wpAny_handled ?_);(first|rw[show A.in1.handled=none from hh]|rw[hh]);refine Ka (Ke (wpAny_throw (q _ _ (((Le ..).extBut.push _).push _) ⟨_,Kr _ rfl,rfl⟩)))
theorem IsTupIter.at (x:IsTupIter h a t i)(e:∀ o,h.get? a=some o->h'.get? a=some o):IsTupIter h' a t i:=let ⟨o,ho,r⟩:=x;⟨o,e o ho,r⟩
end
open Sem (wp)
open Builtin
def SIt (k:Bool) (h:Heap) (j t:Addr) (n:Nat):Prop:=∃ o,h.get? j=some o/\o.cls=.type (if k then "tuple_iterator" else "list_iterator")/\o.data=.fields #[.ref t,.int n 0]
def SAt (k:Bool) (h:Heap) (t:Addr) (xs:Array Ow):Prop:=∃ o,h.get? t=some o/\o.cls=.type (if k then "tuple" else "list")/\∃ n,o.data=.seq xs n
theorem SIt.at (x:SIt k h a t i)(e:∀ o,h.get? a=some o->h'.get? a=some o):SIt k h' a t i:=let ⟨o,ho,r⟩:=x;⟨o,e o ho,r⟩
theorem SIt.extBut (x:SIt k h a t i)(hs:Heap.ExtBut b h h')(hab:a≠b):SIt k h' a t i:=x.at fun o e=>hs a o hab e
theorem SAt.extBut (x:SAt k h a xs)(hs:Heap.ExtBut b h h')(hab:a≠b):SAt k h' a xs:=let ⟨o,ho,r⟩:=x;⟨o,hs a o hab ho,r⟩
section
variable {prog:Ov}{w:World}{A:Ox}{E:Ow->Ot->Prop}{s:Ot}
theorem xy (hj:SIt k s.heap j t n)(ht:SAt k s.heap t xs)(hx:xs[n]?=some x)
 (q:∀ g,SIt k g j t (n+1)->Heap.SameBut j s.heap g->Q x { s with heap:=g }):wpAny (model prog w) A (Builtin.SmallTypes.nextOf (.ref j)) Q E s:=by
 cases k with
 |true=>exact Gx hj ht hx q
 |false=>exact wpAny_nextOf_list_item hj ht hx q
theorem CG (hh:A.handled=none)(hj:SIt k s.heap j t n)(ht:SAt k s.heap t xs)(hx:xs[n]?=none)
 (q:∀ g e,Heap.ExtBut j s.heap g->(∃ u,g.get? e=some u/\u.cls=.type "StopIteration")->E (.ref e) { s with heap:=g }):wpAny (model prog w) A (Builtin.SmallTypes.nextOf (.ref j)) Q E s:=by
 cases k with
 |true=>exact Gy hh hj ht hx q
 |false=>exact wpAny_nextOf_list_end hh hj ht hx q
theorem vo (N:ZipApart z P O i j a b)(hz:IsZip s.heap z P O .none)(hP:IsPair s.heap P (.ref i) (.ref j))(hO:IsPair s.heap O c d)
 (hi:SIt ka s.heap i a m) (hj:SIt kb s.heap j b n) (ha:SAt ka s.heap a xs) (hb:SAt kb s.heap b ys) (hx:xs[m]?=some x) (hy:ys[n]?=some y)
 (q:∀ g,IsZip g z P O (rawInt s.heap.objs.size)->IsPair g O x y->SIt ka g i a (m+1)->SIt kb g j b (n+1)->IsPair g s.heap.objs.size x y->g.objs.size=s.heap.objs.size+1->
   (∀ k o,k≠z->k≠O->k≠i->k≠j->s.heap.get? k=some o->g.get? k=some o)->Q (some (.ref s.heap.objs.size)) { s with heap:=g }):wpAny (model prog w) A (pyNext (.ref z)) Q E s:=by
 have hT:s.TypeIs (.ref z) "zip":=⟨_,hz,rfl⟩;unfold pyNext;refine Ka (NU (L1 (name:=Str.ofString "__next__") hT N2 (Ln N2 hT F.entry_zip_next ?_ (F.args_zip_next_1 _))));show wpAny _ _ (field (.ref z) 2 >>= _) _ _ _;refine Ka (Mh hz rfl (x:=.bool false) rfl ?_);show wpAny _ _ (field (.ref z) 3 >>= _) _ _ _;refine Ka (Mh hz rfl (x:=.ref P) rfl ?_);refine Ka (LO hP rfl ?_);show wpAny _ _ (Builtin.SmallTypes.ownedTupleIsFree (.ref z) >>= _) _ _ _;refine Ka ?_;unfold Builtin.SmallTypes.ownedTupleIsFree;refine Ka (Mh hz rfl (x:=.none) rfl (Ke ?_));simp only[Mp];refine Ka (Nj ?_);refine Ka (Mh hz rfl (x:=.ref O) rfl ?_);refine Ka (Mo hz (by simp) fun g1 z1 k1=>?_);replace z1:IsZip g1 z P O .ellipsis:=z1;refine Ka ?_;simp only[Om,List.zipIdx_nil,N3,List.forIn_nil];refine Ka (Ka (wpAny_onRaise ?_));show wpAny _ _ (Builtin.SmallTypes.nextOf (.ref i) >>= _) _ _ _;refine Ka (xy (hi.extBut k1.extBut N.i1z) (ha.extBut k1.extBut N.l1z) hx fun g2 i2 k2=>Ke ?_);have O2:IsPair g2 O c d:=k2.extBut _ _ N.TOi1 (k1.extBut _ _ N.TOz hO);refine Ka (LO O2 rfl ?_);refine Ka (NR O2 fun g3 O3 k3=>?_);replace O3:IsPair g3 O x d:=O3;refine Ka (wpAny_letGo (Ke ?_));refine Ka (Ka (wpAny_onRaise ?_));show wpAny _ _ (Builtin.SmallTypes.nextOf (.ref j) >>= _) _ _ _;refine Ka (xy (((hj.extBut k1.extBut N.i2z).extBut k2.extBut N.i12.symm).extBut k3.extBut N.TOi2.symm) (((hb.extBut k1.extBut N.l2z).extBut k2.extBut N.l2i1).extBut k3.extBut N.l2TO) hy fun g4 j4 k4=>Ke ?_);have O4:IsPair g4 O x d:=k4.extBut _ _ N.TOi2 O3;refine Ka (LO O4 rfl ?_);refine Ka (NR O4 fun g5 O5 k5=>?_);replace O5:IsPair g5 O x y:=O5;refine Ka (wpAny_letGo (Ke (Ke ?_)));refine Ka (LO O5 rfl ?_);refine Ka (wpAny_newTuple ?_);have sz:g5.objs.size=s.heap.objs.size:=by rw[k5.1,k4.1,k3.1,k2.1,k1.1]
 have z5:IsZip g5 z P O .ellipsis:=k5.extBut _ _ N.TOz.symm (k4.extBut _ _ N.i2z.symm (k3.extBut _ _ N.TOz.symm (k2.extBut _ _ N.i1z.symm z1)));have kk:∀ k o,k≠z->k≠O->k≠i->k≠j->s.heap.get? k=some o->g5.get? k=some o:=fun k o n1 n2 n3 n4 e=>k5.extBut _ _ n2 (k4.extBut _ _ n4 (k3.extBut _ _ n2 (k2.extBut _ _ n3 (k1.extBut _ _ n1 e))));have i5:SIt ka g5 i a (m+1):=((i2.extBut k3.extBut N.TOi1.symm).extBut k4.extBut N.i12).extBut k5.extBut N.TOi1.symm;have j5:SIt kb g5 j b (n+1):=j4.extBut k5.extBut N.TOi2.symm;have zlt:z<g5.objs.size:=Kt z5;show wpAny _ _ (Builtin.SmallTypes.ownedTupleHandOut (.ref z) (.ref g5.objs.size) >>= _) _ _ _;refine Ka ?_;unfold Builtin.SmallTypes.ownedTupleHandOut;have z6:IsZip (g5.push { cls:=.type "tuple",data:=.seq #[x,y] }) z P O .ellipsis:=Kb _ z5;refine Ka (Mo z6 (by simp) fun g7 z7 k7=>?_);replace z7:IsZip g7 z P O (rawInt g5.objs.size):=z7;refine Mo z7 (by simp) fun g8 z8 k8=>?_;replace z8:IsZip g8 z P O (rawInt g5.objs.size):=z8;have up:∀ k o,k≠z->g5.get? k=some o->g8.get? k=some o:=fun k o n1 e=>k8.extBut _ _ n1 (k7.extBut _ _ n1 (Kb _ e));have T8:IsPair g8 g5.objs.size x y:=k8.extBut _ _ (Ml zlt) (k7.extBut _ _ (Ml zlt) (Kr _ rfl));have s8:g8.objs.size=g5.objs.size+1:=by rw[k8.1,k7.1,LR]
 rw[sz]at z8 T8 s8;refine Ke ⟨_,rfl,?_⟩;refine Ke ?_;show Q (some (.ref g5.objs.size)) _;rw[sz];exact q g8 z8 (up _ _ N.TOz O5) (SIt.at i5 fun o e=>up _ o N.i1z e) (SIt.at j5 fun o e=>up _ o N.i2z e) T8 s8 fun k o n1 n2 n3 n4 e=>up k o n1 (kk k o n1 n2 n3 n4 e)
theorem xA (hh:A.handled=none)(N:ZipApart z P O i j a b)(hz:IsZip s.heap z P O .none)(hP:IsPair s.heap P (.ref i) (.ref j))(hO:IsPair s.heap O c d)
 (hi:SIt ka s.heap i a m) (hj:SIt kb s.heap j b n) (ha:SAt ka s.heap a xs) (hb:SAt kb s.heap b ys) (hx:xs[m]?=none\/ys[n]?=none)
 (q:∀ g,(∀ k o,k≠z->k≠O->k≠i->k≠j->s.heap.get? k=some o->g.get? k=some o)->Q none { s with heap:=g }):wpAny (model prog w) A (pyNext (.ref z)) Q E s:=by
 have hT:s.TypeIs (.ref z) "zip":=⟨_,hz,rfl⟩;have fin:∀(g:Heap)(e:Addr),(∀ k o,k≠z->k≠O->k≠i->k≠j->s.heap.get? k=some o->g.get? k=some o)->(∃ u,g.get? e=some u/\u.cls=.type "StopIteration")->wpAny (model prog w) A (do if <- isInstance (.ref e) (.type "StopIteration") then pure none else throw (.ref e):Sem (Option Ow)) Q E { s with heap:=g }:=fun g e kp ⟨u,hu,cu⟩=>Ka (Nd (T:="StopIteration") (b:=true) ⟨u,hu,cu⟩ isSubtype_stop (Ke (q g kp)));unfold pyNext;refine Ka (NU (L1 (name:=Str.ofString "__next__") hT N2 (Ln N2 hT F.entry_zip_next ?_ (F.args_zip_next_1 _))));show wpAny _ _ (field (.ref z) 2 >>= _) _ _ _;refine Ka (Mh hz rfl (x:=.bool false) rfl ?_);show wpAny _ _ (field (.ref z) 3 >>= _) _ _ _;refine Ka (Mh hz rfl (x:=.ref P) rfl ?_);refine Ka (LO hP rfl ?_);show wpAny _ _ (Builtin.SmallTypes.ownedTupleIsFree (.ref z) >>= _) _ _ _;refine Ka ?_;unfold Builtin.SmallTypes.ownedTupleIsFree;refine Ka (Mh hz rfl (x:=.none) rfl (Ke ?_));simp only[Mp];refine Ka (Nj ?_);refine Ka (Mh hz rfl (x:=.ref O) rfl ?_);refine Ka (Mo hz (by simp) fun g1 z1 k1=>?_);replace z1:IsZip g1 z P O .ellipsis:=z1;refine Ka ?_;simp only[Om,List.zipIdx_nil,N3,List.forIn_nil];refine Ka (Ka (wpAny_onRaise ?_));show wpAny _ _ (Builtin.SmallTypes.nextOf (.ref i) >>= _) _ _ _;cases ex:xs[m]? with
 |none=>
  refine Ka (CG hh (hi.extBut k1.extBut N.i1z) (ha.extBut k1.extBut N.l1z) ex fun g2 e k2 ⟨u,hu,cu⟩=>?_);have z2:IsZip g2 z P O .ellipsis:=k2 _ _ N.i1z.symm z1;have ez:e≠z:=fun w=>by subst w;rw[z2]at hu;cases hu;simp at cu
  refine Mo z2 (by simp) fun g3 _ k3=>?_;exact fin g3 e (fun k o n1 _ n3 _ w=>k3.extBut _ _ n1 (k2 _ _ n3 (k1.extBut _ _ n1 w))) ⟨u,k3.extBut _ _ ez hu,cu⟩
 |some x=>
  have ey:ys[n]?=none:=hx.resolve_left (by rw[ex];simp);refine Ka (xy (hi.extBut k1.extBut N.i1z) (ha.extBut k1.extBut N.l1z) ex fun g2 i2 k2=>Ke ?_);have O2:IsPair g2 O c d:=k2.extBut _ _ N.TOi1 (k1.extBut _ _ N.TOz hO);refine Ka (LO O2 rfl ?_);refine Ka (NR O2 fun g3 O3 k3=>?_);refine Ka (wpAny_letGo (Ke ?_));refine Ka (Ka (wpAny_onRaise ?_));show wpAny _ _ (Builtin.SmallTypes.nextOf (.ref j) >>= _) _ _ _;refine Ka (CG hh (((hj.extBut k1.extBut N.i2z).extBut k2.extBut N.i12.symm).extBut k3.extBut N.TOi2.symm) (((hb.extBut k1.extBut N.l2z).extBut k2.extBut N.l2i1).extBut k3.extBut N.l2TO) ey fun g4 e k4 ⟨u,hu,cu⟩=>?_);have z4:IsZip g4 z P O .ellipsis:=k4 _ _ N.i2z.symm (k3.extBut _ _ N.TOz.symm (k2.extBut _ _ N.i1z.symm z1));have ez:e≠z:=fun w=>by subst w;rw[z4]at hu;cases hu;simp at cu
  refine Mo z4 (by simp) fun g5 _ k5=>?_;exact fin g5 e (fun k o n1 n2 n3 n4 w=>k5.extBut _ _ n1 (k4 _ _ n4 (k3.extBut _ _ n2 (k2.extBut _ _ n3 (k1.extBut _ _ n1 w))))) ⟨u,k5.extBut _ _ ez hu,cu⟩
end
noncomputable abbrev Gz (k:Bool) (h:Heap) (a:Addr):Heap:=h.push { cls:=.type (if k then "tuple_iterator" else "list_iterator"),data:=.fields #[.ref a,.int 0 0] }
noncomputable abbrev IB (ka kb:Bool)(h:Heap)(a b:Addr):Heap:=Gz kb (Gz ka h a) b
noncomputable abbrev IC (ka kb:Bool) (h:Heap) (a b:Addr):Heap:=(IB ka kb h a b).push { cls:=.type "tuple",data:=.seq #[.ref h.objs.size,.ref (Gz ka h a).objs.size] }
noncomputable abbrev ID (ka kb:Bool) (h:Heap) (a b:Addr):Heap:=(IC ka kb h a b).push { cls:=.type "tuple",data:=.seq #[.none,.none] }
noncomputable abbrev sz5 (ka kb:Bool) (h:Heap) (a b:Addr):Heap:=(ID ka kb h a b).push { cls:=.type "zip",data:=.fields #[.none,.bool false,.bool false,.ref (IB ka kb h a b).objs.size,.ref (IC ka kb h a b).objs.size] }
theorem xB (ka kb:Bool) (a b:Addr) (xs ys:Array Ow):Meets (Builtin.«zip.__new__» ⟨[.type "zip",.ref a,.ref b],[]⟩) (fun _ R s=>SAt ka s.heap a xs/\SAt kb s.heap b ys/\R (.ok (.ret (.ref (ID ka kb s.heap a b).objs.size))) { s with heap:=sz5 ka kb s.heap a b }):=
 .of_wp fun prog w A R s h=>by
  obtain⟨hp,g,d,tk,os⟩:=s;obtain⟨ha,hb,h⟩:=h;have hsub:=PySem.sub_zip;cases ka<;>cases kb
  .have h1:Heap.IsList (Shared.heap ⟨hp,g,d,tk,os⟩) a xs:=ha;have h2:Heap.IsList (Shared.heap ⟨hp.push { cls:=.type "list_iterator",data:=.fields #[.ref a,.int 0 0] },g,d,tk,os⟩) b ys:=Heap.IsList.push hb _
   wp_walk using LW h1,LW h2
   exact⟨_,rfl,h⟩
  .have h1:Heap.IsList (Shared.heap ⟨hp,g,d,tk,os⟩) a xs:=ha;have h2:IsTup (Shared.heap ⟨hp.push { cls:=.type "list_iterator",data:=.fields #[.ref a,.int 0 0] },g,d,tk,os⟩) b ys:=IsTup.push hb _
   wp_walk using LW h1,iter_tuple h2
   exact⟨_,rfl,h⟩
  .have h1:IsTup (Shared.heap ⟨hp,g,d,tk,os⟩) a xs:=ha;have h2:Heap.IsList (Shared.heap ⟨hp.push { cls:=.type "tuple_iterator",data:=.fields #[.ref a,.int 0 0] },g,d,tk,os⟩) b ys:=Heap.IsList.push hb _
   wp_walk using iter_tuple h1,LW h2
   exact⟨_,rfl,h⟩
  .have h1:IsTup (Shared.heap ⟨hp,g,d,tk,os⟩) a xs:=ha;have h2:IsTup (Shared.heap ⟨hp.push { cls:=.type "tuple_iterator",data:=.fields #[.ref a,.int 0 0] },g,d,tk,os⟩) b ys:=IsTup.push hb _
   wp_walk using iter_tuple h1,iter_tuple h2
   exact⟨_,rfl,h⟩
section
variable {prog:Ov}{w:World}{A:Ox}{E:Ow->Ot->Prop}{s:Ot}
theorem vp (ha:SAt ka s.heap a xs)(hb:SAt kb s.heap b ys)
 (q:∀ g,IsZip g (s.heap.objs.size+4) (s.heap.objs.size+2) (s.heap.objs.size+3) .none->IsPair g (s.heap.objs.size+2) (.ref s.heap.objs.size) (.ref (s.heap.objs.size+1))->IsPair g (s.heap.objs.size+3) .none .none->
   SIt ka g s.heap.objs.size a 0->SIt kb g (s.heap.objs.size+1) b 0->(∀ c o,s.heap.get? c=some o->g.get? c=some o)->Q (.ref (s.heap.objs.size+4)) { s with heap:=g }):wpAny (model prog w) A (call (.type "zip") [.ref a,.ref b]) Q E s:=by
 refine callType_new F.called_zip (by decide) (F.typeCall_zip_2 _ _) (F.newCall_zip_2 _ _) (fun obj=>F.args_object_init_3 obj _ _) F.entry_zip_new (xB ka kb a b xs ys) ⟨ha,hb,?_⟩;have z1:(Gz ka s.heap a).objs.size=s.heap.objs.size+1:=LR ..;have z2:(IB ka kb s.heap a b).objs.size=s.heap.objs.size+2:=by rw[LR,z1]
 have z3:(IC ka kb s.heap a b).objs.size=s.heap.objs.size+3:=by rw[LR,z2]
 have z4:(ID ka kb s.heap a b).objs.size=s.heap.objs.size+4:=by rw[LR,z3]
 have pu:∀{h:Heap}{c:Addr}{o:Obj}(x:Obj),h.get? c=some o->(h.push x).get? c=some o:=fun x e=>Kb x e;have g5:(sz5 ka kb s.heap a b).get? (ID ka kb s.heap a b).objs.size=some _:=Kr _ rfl;have g4:(sz5 ka kb s.heap a b).get? (IC ka kb s.heap a b).objs.size=some _:=pu _ (Kr _ rfl);have g3:(sz5 ka kb s.heap a b).get? (IB ka kb s.heap a b).objs.size=some _:=pu _ (pu _ (Kr _ rfl));have g2:(sz5 ka kb s.heap a b).get? (Gz ka s.heap a).objs.size=some _:=pu _ (pu _ (pu _ (Kr _ rfl)));have g1:(sz5 ka kb s.heap a b).get? s.heap.objs.size=some _:=pu _ (pu _ (pu _ (pu _ (Kr _ rfl))));show _/\_;rw[z2,z3,z4]at g5;rw[z1,z2]at g3;rw[z3]at g4;rw[z1]at g2;rw[z4];exact⟨⟨_,g5,rfl⟩,q _ g5 g3 g4 ⟨_,g1,rfl,rfl⟩ ⟨_,g2,rfl,rfl⟩ fun c o x=>pu _ (pu _ (pu _ (pu _ (pu _ x))))⟩
end
noncomputable def kH (kts:List (Addr×List V))(a:Addr)(o:Obj)(ns:List Int):Hp:=fun b=>match kts.lookup b with
 |some xs=>some (.tup xs)
 |none=>if b=a then some (.frz o (.lst (ns.map V.int))) else none
section
variable {kts:List (Addr×List V)}{a b:Addr}{o:Obj}{ns:List Int}{xs:List V}
theorem AO (e:kts.lookup b=some xs):kH kts a o ns b=some (.tup xs):=by unfold kH;rw[e]
theorem AQ (e:kts.lookup a=none):kH kts a o ns a=some (.frz o (.lst (ns.map V.int))):=by unfold kH;rw[e];exact Kf rfl
theorem AR (e:kts.lookup b=none)(n:b≠a):kH kts a o ns b=none:=by unfold kH;rw[e];exact Kh n
end
theorem h_:∀{vs:List Ow}{ns:List Int},IntsAre vs ns->Vals (ns.map V.int) vs
 |_,_,.nil=>.nil
 |_,_,.cons n t h=>.cons ⟨t,rfl⟩ (h_ h)
theorem vq {P:Ov}{w:World}{K:Ou}{mg mb:Str->Option Ow}{CX:CXT}{k:Nat}{fa a:Addr}{fd:FuncData}{x:Str}{sp:Sp}{s₁:Ot}{vs:List Ow}{ns:List Int}{kts:List (Addr×List V)}
 (KX:K.In s₁.heap) (hns:s₁.heap.Ns mainGlobals mg) (hb:s₁.heap.Ns builtinsNs mb) (hbb:∀ x:Str,x≠"__name__"->mb x=bootBuiltins x) (hlim:s₁.heap.NoLimit) (hg:s₁.gens=#[])
 (ha:s₁.heap.get? a=some { cls:=.type "list",data:=.seq vs.toArray }) (hi:IntsAre vs ns) (hl:ns.length<=sizeLine) (hr:Room k callerA)
 (hK:∀ o,K.lookup a=some o->o.cls=.type "list"->False)
 (hT:∀ b xs,kts.lookup b=some xs->K.lookup b=none/\∃(o:Obj)(its:Array Ow)(n:Nat),s₁.heap.get? b=some o/\o.cls=.type "tuple"/\o.data=.seq its n/\its.size<=sizeLine/\Vals xs its.toList)
 (hM:∀ p∈K,∀ b xs,Da p.2=some (b,xs)->kts.lookup b=some xs)
 (F:∀ base:Heap,K.In base->base.Ns mainGlobals mg->FnOk P w K mg base CX k fa fd [x] sp) (hbind:∀(s:Ot)(u:Ow),BindsTo s fd ⟨[u],[]⟩ [(x,u)])
 (hsp:∀ H:Hp,(∃ o,H a=some (.frz o (.lst (ns.map V.int))))->sp [.ref a] H (fun v _=>v=.bl true) fun _ _ _=>False)
 (hCX:∀ H e s',CX [] H s₁ (fun _ _ _=>False) e s'->False) :
 codeAny (model P w) callerA (.call (.ref fa) ⟨[.ref a],[]⟩) (fun r s'=>r=.ok (.ret (.bool true))/\OldK s₁.heap s'.heap/\s'.os=s₁.os/\AllBare s'.gens) s₁:=by
 have rv:=h_ hi;have noK:K.lookup a=none:=by
  cases q:K.lookup a with
  |none=>rfl
  |some o=>have e:=KX a o q;rw[ha]at e;cases e;exact(hK _ q rfl).elim
 have noT:kts.lookup a=none:=by
  cases q:kts.lookup a with
  |none=>rfl
  |some xs=>obtain⟨_,o,its,n,e,c,_⟩:=hT a xs q;rw[ha]at e;cases e;exact absurd c (by simp)
 obtain⟨ob,eob⟩ : ∃ ob:Obj,ob={ cls:=.type "list",data:=.seq vs.toArray }:=⟨_,rfl⟩;rw[<- eob]at ha;generalize eH:kH kts a ob ns=H;have Ha:H a=some (.frz ob (.lst (ns.map V.int))):=by rw[<- eH];exact AQ noT
 have Ht:∀ b xs,kts.lookup b=some xs->H b=some (.tup xs):=fun b xs e=>by rw[<- eH];exact AO e
 have Hn:∀ b,kts.lookup b=none->b≠a->H b=none:=fun b e n=>by rw[<- eH];exact AR e n
 have freeK:∀ b o,K.lookup b=some o->H b=none:=fun b o e=>by
  refine Hn b ?_ fun z=>by rw[z,noK]at e;cases e
  cases q:kts.lookup b with
  |none=>rfl
  |some xs=>rw[(hT b xs q).1]at e;cases e
 have freeD:∀(b:Addr)(o:Obj)(es:Array DictEntry)(ep:Nat),s₁.heap.get? b=some o->o.data=.dict es ep->H b=none:=fun b o es ep e d=>by
  refine Hn b ?_ fun z=>?_
  .cases q:kts.lookup b with
   |none=>rfl
   |some xs=>obtain⟨_,o',its,n,e',_,d',_⟩:=hT b xs q;rw[e]at e';cases e';rw[d]at d';cases d'
  .rw[z,ha]at e;cases e;rw[eob]at d;cases d
 have nsK:∀{b:Addr}{m:Str->Option Ow},s₁.heap.Ns b m->(oV s₁.heap H).Ns b m:=fun{b m} ⟨o,es,ep,e,d,r⟩=>⟨o,es,ep,oW e (freeD b o es ep e d),d,r⟩;have hKb:K.In (oV s₁.heap H):=fun b o e=>oW (KX b o e) (freeK b o e);have hMd:Mod K mg (oV s₁.heap H):=⟨hKb,nsK hns,⟨mb,nsK hb,hbb⟩,let ⟨mc,h1,h2⟩:=hlim;⟨mc,nsK h1,h2⟩⟩;have hok:HOk P w H s₁.heap:=fun b u e=>by
  cases q:kts.lookup b with
  |some xs=>rw[Ht b xs q]at e;cases e;obtain⟨_,o,its,n,e1,c,d,z,r⟩:=hT b xs q;refine⟨by rw[r.length];simpa using z,its.toList,r,o,e1,c,n,by simpa using d⟩
  |none=>
   by_cases hba:b=a
   .rw[hba,Ha]at e;cases e;rw[hba];exact⟨ha,by rw[Kg];exact hl,vs,_,rv,by rw[ha,eob]⟩
   .rw[Hn b q hba]at e;cases e
 have e0:Env0 P w K mg (oV s₁.heap H) callerA [] s₁ H:=⟨rfl,hMd,fun b o e=>Ai e,Nat.le_of_eq (uU _ _),trivial,fun b hb=>absurd (show b∈([]:List Addr) from hb) (by simp),hok,.of_eq hg,fun p hp b xs e=>Ht b xs (hM p hp b xs e)⟩;refine MV ((F _ hKb (nsK hns)).run callerA [] s₁ H ⟨[.ref a],[]⟩ [.ref a] [.ref a] _ _ hr e0 (hbind s₁ (.ref a)) (.cons rfl .nil) (hsp H ⟨ob,Ha⟩)) fun r s' h=>?_;cases r with
 |error e=>exact(hCX H e s' h).elim
 |ok fl=>
  cases fl with
  |next=>exact False.elim h
  |brk=>exact False.elim h
  |cont=>exact False.elim h
  |ret u=>
   obtain⟨v,H',os,bare,un,hok',r',q⟩:=h;have q':v=.bl true:=q;subst q';obtain rfl:u=Value.bool true:=r';refine⟨rfl,OldK.of_keep fun b o e=>?_,os,bare⟩;by_cases hba:b=a
   .rw[hba]at e ⊢;have z2:=un.frzs a ob _ Ha;obtain⟨e2,_⟩:=hok' a _ z2;rw[ha]at e;cases e;exact e2
   .refine un.keep b o e ?_ (by intro z;exact absurd (show b∈([]:List Addr) from z) (by simp)) (by simp);cases q:kts.lookup b with
    |none=>exact .inl (Hn b q hba)
    |some xs=>exact .inr ⟨xs,Ht b xs q⟩
section
variable {K K':Ou}{g:Addr}{kts:List (Addr×List V)}
noncomputable def Jc (K:Ou):Bool:=K.all fun p=>(Da p.2).isNone
structure SubK (K K':Ou):Prop where
 look:∀ b o,K.lookup b=some o->(∀ its n,o.data≠.seq its n)->K'.lookup b=some o
theorem vt:SubK K K:=⟨fun _ _ e _=>e⟩
theorem SubK.code (S:SubK K K')(h:PySem.W.codeIn K cd q=true):PySem.W.codeIn K' cd q=true:=by
 unfold PySem.W.codeIn at h ⊢;cases cd with
 |ref c=>
  dsimp only at h ⊢;cases e:K.lookup c with
  |none=>rw[e]at h;cases h
  |some o=>
   obtain⟨o1,o2,o3,o4⟩:=o;cases o3 with
   |fields vs=>rw[S.look c _ e (fun _ _ z=>nomatch z)];rw[e]at h;exact h
   |_=>rw[e]at h;cases h
 |_=>cases h
theorem SubK.keep (S:SubK K K')(e:K.lookup f=some ⟨o1,o2,.func fd,o4⟩):PySem.W.keepIn K' (.ref f)=true:=by unfold PySem.W.keepIn;dsimp only;rw[S.look f _ e (fun _ _ z=>nomatch z)]
theorem SubK.ns (S:SubK K K')(h:PySem.W.nsIn K n x=some r):PySem.W.nsIn K' n x=some r:=by
 unfold PySem.W.nsIn at h ⊢;cases e:K.lookup n with
 |none=>rw[e]at h;cases h
 |some o=>
  obtain⟨o1,o2,o3,o4⟩:=o;cases o3 with
  |dict es ep=>rw[S.look n _ e (fun _ _ z=>nomatch z)];rw[e]at h;exact h
  |_=>rw[e]at h;cases h
theorem SubK.nsOk (S:SubK K K')(h:PySem.W.nsOkIn K n=true):PySem.W.nsOkIn K' n=true:=by
 unfold PySem.W.nsOkIn at h ⊢;cases e:K.lookup n with
 |none=>rw[e]at h;cases h
 |some o=>
  obtain⟨o1,o2,o3,o4⟩:=o;cases o3 with
  |dict es ep=>rw[S.look n _ e (fun _ _ z=>nomatch z)];rw[e]at h;exact h
  |_=>rw[e]at h;cases h
theorem SubK.tail (S:SubK K K'):∀{l:List Ow},PySem.W.tailIn K bm l=true->PySem.W.tailIn K' bm l=true
 | [],h=>h
 |v::r,h=>by
  unfold PySem.W.tailIn at h ⊢;rw[Nx]at h ⊢;refine h.imp id fun h=>?_;cases v with
  |ref A=>
   dsimp only at h ⊢;cases e:K.lookup A with
   |none=>rw[e]at h;cases h
   |some o=>
    obtain⟨o1,o2,o3,o4⟩:=o;cases o3 with
    |cls cd=>rw[S.look A _ e (fun _ _ z=>nomatch z)];rw[e]at h;dsimp only at h ⊢;simp only[KQ,NY]at h ⊢;exact⟨⟨S.nsOk h.1.1,S.ns h.1.2⟩,S.tail h.2⟩
    |_=>rw[e]at h;cases h
  |_=>cases h
theorem SubK.exc (S:SubK K K')(h:PySem.W.excIn K C bm i=true):PySem.W.excIn K' C bm i=true/\mroK K' C=mroK K C:=by
 unfold PySem.W.excIn at h ⊢;unfold mroK;cases e:K.lookup C with
 |none=>rw[e]at h;cases h
 |some o=>
  obtain⟨o1,o2,o3,o4⟩:=o;rw[e]at h;cases o3 with
  |cls cd=>
   rw[S.look C _ e (fun _ _ z=>nomatch z)];refine⟨?_,rfl⟩;split at h
   .rename_i dd cd' sl he;injection he with he;injection he with he1 he2 he3 he4;injection he3 with he3;subst he1 he2 he3 he4
    try dsimp only at h
    try dsimp only
    split at h
    .rename_i hm hs;simp only[KQ,NY]at h ⊢;exact⟨⟨⟨h.1.1.1,S.tail h.1.1.2⟩,S.nsOk h.1.2⟩,S.ns h.2⟩
    .cases h
   .cases h
  |_=>split at h<;>first|cases h|(rename_i he;injection he with he;injection he with _ _ he _;cases he)
end
noncomputable def tE:Ow->Bool
 | .type n=>n=="list"
 |_=>false
noncomputable def Jd (K:Ou):Bool:=K.all fun p=>!tE p.2.cls
theorem xC:∀{K:Ou},Jd K=true->K.lookup a=some o->o.cls=.type "list"->False
 | [],_,e,_=>by cases e
 |(b,x)::r,h,e,c=>by
  unfold Jd at h;rw[List.all_cons,KQ]at h;rw[MN]at e;split at e
  .cases e;rw[c]at h;have h1:=h.1;simp[tE]at h1
  .exact xC (K:=r) h.2 e c
section
variable {l:PySem.W.OpenLaw}{n k:Nat}{q:Ov}{loose:List Str}{XP:(Str->Option Ow)->Heap->Prop}{YP:World->Heap->Prop}{d:DefRec}{K:Params->Ou}{CX:World->CXT}{sp:World->Sp}{x:Str}
theorem xD (hn:l.most=some n)(hn2:n<=sizeLine)(hdf:d.params.defaults=[])(hr:Room k callerA)(hY:∀(w:World)(h:Heap),YP w h->(K w.params).In h)
 (hL:∀ w:World,Jd (K w.params)=true/\Jc (K w.params)=true)
 (F:∀(w:World)(mg:Str->Option Ow)(fa:Addr)(h:Heap),(K w.params).In h->h.Ns mainGlobals mg->mg d.name=some (.ref fa)->
   ∃ fd:FuncData,(∀(s:Ot)(u:Ow),BindsTo s fd ⟨[u],[]⟩ [(x,u)])/\∀ base:Heap,(K w.params).In base->base.Ns mainGlobals mg->FnOk l.prog w (K w.params) mg base (CX w) k fa fd [x] (sp w))
 (hsp:∀(w:World)(H:Hp)(a:Addr)(ns:List Int),ns.length<=n->(∃ o,H a=some (.frz o (.lst (ns.map V.int))))->sp w [.ref a] H (fun v _=>v=.bl true) fun _ _ _=>False)
 (hCX:∀(w:World)(H:Hp)(s:Ot)(e:Ow)(s':Ot),CX w [] H s (fun _ _ _=>False) e s'->False) :
 PySem.W.WalkO q loose XP YP l.row.toRowW d [] (fun f vs=>PySem.call f vs):=by
 refine Att.attach_call hn hdf fun w s₀ s₁ mg mb fa o pm cd doc a vs ns G Y ho hd hcd hmg hobj hints bR hg=>?_;have KX:=hY w _ Y;obtain⟨fd,hb,hF⟩:=F w mg fa _ KX G.T.g hmg;exact vq (kts:=[]) KX G.T.g G.T.b G.T.builtins G.T.nolimit hg hobj hints (KA bR hn2) hr (fun o e c=>xC (hL w).1 e c) (fun b xs e=>by cases e)
  (fun p hp b xs e=>by have:=Lm.mp (hL w).2 p hp;rw[e]at this;cases this) hF hb (fun H hS=>hsp w H a ns bR hS) fun H e s'=>hCX w H s₁ e s'
end
end L2
namespace L2
open PySem PySem.Spec PySem.Calls PyProof.Rows
noncomputable abbrev NK:=List (Sum Key (List Key))
section
variable (P:Ov)(w:World)
inductive NIts (h:Heap):NK->List Ow->Prop
 |nil:NIts h [] []
 |val {k:Key} {v:Ow} {ks:NK} {vs:List Ow}:(mixKind P w).is k v=true->NIts h ks vs->NIts h (.inl k::ks) (v::vs)
 |tup {k:List Key} {b:Addr} {ks:NK} {vs:List Ow}:(tupleKind (mixKind P w)).is h k b->NIts h ks vs->NIts h (.inr k::ks) (.ref b::vs)
def IsN (h:Heap) (ks:NK) (a:Addr):Prop:=∃ o items n,h.get? a=some o/\o.cls=.type "tuple"/\o.data=.seq items n/\NIts P w h ks items.toList
noncomputable def wl:Sum Key (List Key)->Int
 | .inl k=>(mixKind P w).hash k
 | .inr ks=>tupleKeyHash (mixKind P w) ks
noncomputable def GA:Sum Key (List Key)->Nat
 | .inl _=>1
 | .inr ks=>ks.length+1
noncomputable def nDrs (ks:NK):Nat:=(ks.map GA).sum
end
section
variable {P:Ov}{w:World}{h h':Heap}{A:Ox}{E:Ow->Ot->Prop}{s:Ot}
theorem NIts.inj (hx:NIts P w h x vs)(hy:NIts P w h y vs):x=y:=by
 induction hx generalizing y with
 |nil=>cases hy;rfl
 |val h1 _ ih=>
  cases hy with
  |val h2 t2=>rw[(mixKind P w).inj _ _ _ h1 h2,ih t2]
  |tup h2 t2=>exact absurd ((mixKind P w).byValue _ _ h1) (by simp[carriedByValue])
 |tup h1 _ ih=>
  cases hy with
  |val h2 t2=>exact absurd ((mixKind P w).byValue _ _ h2) (by simp[carriedByValue])
  |tup h2 t2=>rw[(tupleKind (mixKind P w)).inj h1 h2,ih t2]
theorem NIts.len (hx:NIts P w h x vs):x.length=vs.length:=by
 induction hx with
 |nil=>rfl
 |val _ _ ih=>simp[ih]
 |tup _ _ ih=>simp[ih]
theorem NIts.mono (m:∀ k b,(tupleKind (mixKind P w)).is h k b->(tupleKind (mixKind P w)).is h' k b)(hx:NIts P w h x vs):NIts P w h' x vs:=by
 induction hx with
 |nil=>exact .nil
 |val a _ ih=>exact .val a ih
 |tup a _ ih=>exact .tup (m _ _ a) ih
theorem IsN.ty (x:IsN P w s.heap ks a):s.TypeIs (.ref a) "tuple":=let ⟨o,_,_,ho,hc,_⟩:=x;⟨o,ho,hc⟩
theorem IsN.inj (hx:IsN P w h x a)(hy:IsN P w h y a):x=y:=by obtain⟨o,items,n,ho,_,hd,hi⟩:=hx;obtain⟨o',items',n',ho',_,hd',hi'⟩:=hy;obtain rfl:o=o':=K4 (ho.symm.trans ho');rw[hd]at hd';injection hd' with h1 _;subst h1;exact hi.inj hi'
theorem IsN.keeps {es ep}(x:IsN P w h ks a)(ho:h.get? d=some o)(hd:o.data=.dict es ep)(hs:Heap.SameBut d h h'):IsN P w h' ks a:=by
 obtain⟨o',items,n,ho',hc,hd',hi⟩:=x;have hne:a≠d:=by rintro rfl;obtain rfl:o'=o:=K4 (ho'.symm.trans ho);rw[hd]at hd';exact nomatch hd'
 exact⟨o',items,n,(hs.2 a hne).trans ho',hc,hd',hi.mono fun k b z=>(tupleKind (mixKind P w)).keeps z ho hd hs⟩
theorem xE (hu:A.units+1<cLine)(hk:IsN P w s.heap ks a)(h:Q (reduceHash (Builtin.Tuple.tupleHashOf (ks.map (wl P w)))) { s with toks:=s.toks+(nDrs ks+1) }) :
 wpAny (model P w) A (pyHash (.ref a)) Q E s:=by
 have hT:=hk.ty;obtain⟨o,items,n,ho,_,hd,hi⟩:=hk;unfold pyHash
 first|unfold pyHashByItsType|skip
 first|refine Ka (wpAny_cRoomFor_or (.inr (by lia)) ?_)|skip
 refine Ka (MX hT Mf.lookup ?_);show wpAny _ _ (if (some (Value.builtin "tuple.__hash__")==some Value.none)=true then _ else _) Q E s;rw[Kh (by rw[beq_builtin_none];exact Mb)];refine Ka (MX hT Mf.lookup ?_);show wpAny _ _ (callSpecialIfBoundUnlessNone? (.ref a) "__hash__" _ >>= _) Q E s;refine Ka (wpAny_callSpecialIfBoundUnlessNone?_slot hT Mf (Ln Mf hT PySem.F.entry_tuple_hash ?_ (PySem.F.args_tuple_hash_1 _)));show wpAny _ _ (Builtin.Tuple.tupleItemsOf (.ref a) >>= _) _ _ s;refine Ka (wpAny_tupleItemsOf ho hd ?_);refine Ka ?_;rw[<- MS];refine MM _
  (fun aF (b:Array Int) s'=>∃ done left,ks=done++left/\NIts P w s.heap left aF/\b.toList=done.map (wl P w)/\s'={ s with toks:=s.toks+nDrs done })
  _ ?_ ?_ _ _ ⟨[],ks,rfl,hi,rfl,rfl⟩
 .rintro x aF b s' ⟨done,left,rfl,hl,hb,rfl⟩;cases hl with
  | @val k _ ks' _ h1 hl'=>
   refine Ka ((mixKind P w).pyHash h1 ?_)
   first
    |exact Ke ⟨done++[.inl k],ks',by simp,hl',by simp[hb,wl],by simp[nDrs,GA,M7]⟩
    |exact Ka (Ke (Ke ⟨done++[.inl k],ks',by simp,hl',by simp[hb,wl],by simp[nDrs,GA,M7]⟩))
  | @tup k c ks' _ h1 hl'=>
   refine Ka ((tupleKind (mixKind P w)).pyHash (show A.units+1<cLine from hu) h1 ?_)
   first
    |exact Ke ⟨done++[.inr k],ks',by simp,hl',by simp[hb,wl];rfl,by simp[nDrs,GA,M7];rfl⟩
    |exact Ka (Ke (Ke ⟨done++[.inr k],ks',by simp,hl',by simp[hb,wl];rfl,by simp[nDrs,GA,M7];rfl⟩))
 .rintro b s' ⟨done,left,rfl,hl,hb,rfl⟩;cases hl;rw[La]at h;show wpAny _ _ (retInt (Builtin.Tuple.tupleHashOf b.toList)) _ _ _;rw[hb];refine wpAny_ret_mkInt ?_;show wpAny _ _ (if (decide (-(2:Int) ^ 63<=Builtin.Tuple.tupleHashOf (done.map (wl P w)))&&decide (Builtin.Tuple.tupleHashOf (done.map (wl P w))<2 ^ 63))=true then _ else _) Q E _;unfold reduceHash at h;by_cases hr:(decide (-(2:Int) ^ 63<=Builtin.Tuple.tupleHashOf (done.map (wl P w)))&&decide (Builtin.Tuple.tupleHashOf (done.map (wl P w))<2 ^ 63))=true
  .rw[Kf hr];rw[Kf hr]at h;exact Ke (by simpa[M7] using h)
  .rw[Kh hr];rw[Kh hr]at h;exact Ka (Nj (Ke (by simpa[M7] using h)))
end
theorem tF {α:Type}[DecidableEq α]:∀(x y:List α),((List.range (min x.length y.length)).all (fun j=>decide (x[j]?=y[j]?))&&x.length==y.length)=decide (x=y):=by
 intro x y;rw[L_];simp only[KQ,Lm,K3,LK,NY];constructor
 .rintro⟨h,l⟩;apply LH
  intro j;by_cases hj:j<min x.length y.length
  .exact h j hj
  .rw[Lo (by lia),Lo (by lia)]
 .rintro rfl;exact⟨fun _ _=>rfl,rfl⟩
section
variable {P:Ov}{w:World}{h h':Heap}{A:Ox}{E:Ow->Ot->Prop}{s:Ot}
theorem pL (h1:(mixKind P w).is x u=true)(h2:(mixKind P w).is y v=true):SeqAt.EqAt A s u v (decide (x=y)):=by
 have ii:∀ i j:Int,decide ((Sum.inl i:Key)=Sum.inl j)=(i==j):=fun i j=>by by_cases e:i=j<;>simp[e]
 have ss:∀ i j:Str,decide ((Sum.inr i:Key)=Sum.inr j)=(i==j):=fun i j=>by by_cases e:i=j<;>simp[e]
 rcases aA (show fj x u=true from h1) with⟨i,t,rfl,rfl⟩|⟨i,t,rfl,rfl⟩<;>rcases aA (show fj y v=true from h2) with⟨j,t',rfl,rfl⟩|⟨j,t',rfl,rfl⟩
 .rw[ii];exact .int_int i t j t'
 .exact .int_str i t j t'
 .exact .str_int i t j t'
 .rw[ss];exact .str_str i t j t'
theorem tG {α:Type}[DecidableEq α]{R:α->Ow->Prop}{x y:List α}{xs ys:Array Ow}(lx:x.length=xs.size)(ly:y.length=ys.size)(hx:∀(j:Nat)(k:α)(z:j<xs.size),x[j]?=some k->R k xs[j])(hy:∀(j:Nat)(k:α)(z:j<ys.size),y[j]?=some k->R k ys[j])
 (he:∀ k l u v,R k u->R l v->SeqAt.EqAt A s u v (decide (k=l))):∀ j (z1:j<xs.size) (z2:j<ys.size),SeqAt.EqAt A s xs[j] ys[j] (decide (x[j]?=y[j]?)):=by
 intro j z1 z2;have k1:j<x.length:=by lia
 have k2:j<y.length:=by lia
 have g1:x[j]?=some x[j]:=by simp[k1]
 have g2:y[j]?=some y[j]:=by simp[k2]
 have e:decide (x[j]?=y[j]?)=decide (x[j]=y[j]):=by rw[g1,g2];by_cases q:x[j]=y[j]<;>simp[q]
 rw[e];exact he _ _ _ _ (hx j _ z1 g1) (hy j _ z2 g2)
theorem mX (h:ItemsAre (mixKind P w) k vs):∀(j:Nat)(x:Key)(v:Ow),k[j]?=some x->vs[j]?=some v->(mixKind P w).is x v=true:=by
 induction h with
 |nil=>intro j x v e;simp at e
 |cons a _ ih=>
  intro j x v e e';cases j with
  |zero=>simp at e e';subst e;subst e';exact a
  |succ j=>exact ih j x v (by simpa using e) (by simpa using e')
theorem AS (hu:A.units<cLine)(hx:(tupleKind (mixKind P w)).is s.heap x a)(hy:(tupleKind (mixKind P w)).is s.heap y b):SeqAt.EqAt A s (.ref a) (.ref b) (decide (x=y)):=by
 by_cases e:a=b
 .subst e;obtain rfl:=(tupleKind (mixKind P w)).inj hx hy;rw[Kl rfl];exact SeqAt.EqAt.same _
 .obtain⟨o1,i1,n1,q1,c1,d1,r1⟩:=hx;obtain⟨o2,i2,n2,q2,c2,d2,r2⟩:=hy;have l1:x.length=i1.size:=by rw[r1.length];simp
  have l2:y.length=i2.size:=by rw[r2.length];simp
  have z:=SeqAt.RcAt.tuples (s:=s) (A:=A) (l:=a) (b:=b) ⟨o1,q1,c1,n1,d1⟩ ⟨o2,q2,c2,n2,d2⟩ hu (tG (A:=A.in1) l1 l2 (fun j k z e=>mX r1 j k _ e (by simp[z])) (fun j k z e=>mX r2 j k _ e (by simp[z])) fun k l u v=>pL);rw[<- l1,<- l2,tF]at z;exact SeqAt.EqAt.of_refs e z
noncomputable def Je (P:Ov)(w:World)(h:Heap):Sum Key (List Key)->Ow->Prop
 | .inl k,v=>(mixKind P w).is k v=true
 | .inr k,v=>∃ b,v=.ref b/\(tupleKind (mixKind P w)).is h k b
theorem NIts.at' (h':NIts P w h k vs):∀(j:Nat)(x:Sum Key (List Key))(v:Ow),k[j]?=some x->vs[j]?=some v->Je P w h x v:=by
 induction h' with
 |nil=>intro j x v e;simp at e
 |val a _ ih=>
  intro j x v e e';cases j with
  |zero=>simp at e e';subst e;subst e';exact a
  |succ j=>exact ih j x v (by simpa using e) (by simpa using e')
 |tup a _ ih=>
  intro j x v e e';cases j with
  |zero=>simp at e e';subst e;subst e';exact⟨_,rfl,a⟩
  |succ j=>exact ih j x v (by simpa using e) (by simpa using e')
theorem xF (hx:(tupleKind (mixKind P w)).is h x a):∃ its,h.IsTuple a its:=let ⟨o1,i1,n1,q1,c1,d1,_⟩:=hx;⟨i1,o1,q1,c1,n1,d1⟩
theorem xG (hu:A.units<cLine)(hx:Je P w s.heap x u)(hy:Je P w s.heap y v):SeqAt.EqAt A s u v (decide (x=y)):=by
 cases x with
 |inl x=>
  cases y with
  |inl y=>
   have e:decide ((Sum.inl x:Sum Key (List Key))=Sum.inl y)=decide (x=y):=by by_cases q:x=y<;>simp[q]
   rw[e];exact pL hx hy
  |inr y=>
   obtain⟨b,rfl,hb⟩:=hy;obtain⟨its,p⟩:=xF hb;rcases aA (show fj x u=true from hx) with⟨i,t,rfl,rfl⟩|⟨i,t,rfl,rfl⟩
   .exact .int_tuple i t p hu
   .exact .str_tuple i t p hu
 |inr x=>
  obtain⟨a,rfl,ha⟩:=hx;cases y with
  |inl y=>
   obtain⟨its,p⟩:=xF ha;rcases aA (show fj y v=true from hy) with⟨i,t,rfl,rfl⟩|⟨i,t,rfl,rfl⟩
   .exact .tuple_int i t p hu
   .exact .tuple_str i t p hu
  |inr y=>
   obtain⟨b,rfl,hb⟩:=hy;have e:decide ((Sum.inr x:Sum Key (List Key))=Sum.inr y)=decide (x=y):=by by_cases q:x=y<;>simp[q]
   rw[e];exact AS hu ha hb
theorem DY (hu:A.units+1<cLine)(hx:IsN P w s.heap x a)(hy:IsN P w s.heap y b):SeqAt.EqAt A s (.ref a) (.ref b) (decide (x=y)):=by
 by_cases e:a=b
 .subst e;obtain rfl:=hx.inj hy;rw[Kl rfl];exact SeqAt.EqAt.same _
 .obtain⟨o1,i1,n1,q1,c1,d1,r1⟩:=hx;obtain⟨o2,i2,n2,q2,c2,d2,r2⟩:=hy;have l1:x.length=i1.size:=by rw[r1.len];simp
  have l2:y.length=i2.size:=by rw[r2.len];simp
  have z:=SeqAt.RcAt.tuples (s:=s) (A:=A) (l:=a) (b:=b) ⟨o1,q1,c1,n1,d1⟩ ⟨o2,q2,c2,n2,d2⟩ (by lia) (tG (A:=A.in1) l1 l2 (fun j k z e=>r1.at' j k _ e (by simp[z])) (fun j k z e=>r2.at' j k _ e (by simp[z])) fun k l u v=>xG (show A.units+1<cLine from hu));rw[<- l1,<- l2,tF]at z;exact SeqAt.EqAt.of_refs e z
theorem xH (n:Nat)(hk:(tupleKind (mixKind P w)).is s.heap k a)(h:Q true s):wpAny (model P w) A (eqIsQuiet (n+1) (.ref a)) Q E s:=by
 have hT:=IsTupleKey.typeIs hk;obtain⟨o,items,n,ho,_,hd,hi⟩:=hk;unfold eqIsQuiet;refine Ka (MX hT PySem.F.slot_tuple_eq.lookup ?_);show wpAny _ _ (isInstance (.ref a) (.type "tuple") >>= _) _ _ s;refine Ka (Nd hT isSubtype_tuple_tuple ?_);simp only[Lu,Ks,Lh];refine Ka (LO ho hd ?_);refine Ka ?_;show wpAny _ _ (forIn items _ _) _ _ s;rw[<- MS];refine MM _ (fun aF r s'=>r.1=none/\s'=s/\∀ v∈aF,carriedByValue v=true) _ ?_ ?_ _ _ ⟨rfl,rfl,hi.byValue⟩
 .rintro v aF r s' ⟨hr,rfl,hall⟩;rw[eqIsQuiet_byValue _ (hall v KD)];refine Ka (Ke ?_);simp only[Lu,Ks,Lh];exact Ke ⟨rfl,rfl,fun u hu'=>hall u (Ky _ hu')⟩
 .rintro⟨r1,r2⟩ s' ⟨hr,rfl,_⟩;simp only at hr;subst hr;exact Ke h
theorem AT (hk:IsN P w s.heap k a)(h:Q true s):wpAny (model P w) A (eqIsQuiet 8 (.ref a)) Q E s:=by
 have hT:=hk.ty;obtain⟨o,items,n,ho,_,hd,hi⟩:=hk;unfold eqIsQuiet;refine Ka (MX hT PySem.F.slot_tuple_eq.lookup ?_);show wpAny _ _ (isInstance (.ref a) (.type "tuple") >>= _) _ _ s;refine Ka (Nd hT isSubtype_tuple_tuple ?_);simp only[Lu,Ks,Lh];refine Ka (LO ho hd ?_);refine Ka ?_;show wpAny _ _ (forIn items _ _) _ _ s;rw[<- MS];refine MM _ (fun aF r s'=>r.1=none/\s'=s/\∃ ks,NIts P w s.heap ks aF) _ ?_ ?_ _ _ ⟨rfl,rfl,k,hi⟩
 .rintro v aF r s' ⟨hr,rfl,ks,hl⟩;cases hl with
  |val h1 h2=>rw[eqIsQuiet_byValue _ ((mixKind P w).byValue _ _ h1)];refine Ka (Ke ?_);simp only[Lu,Ks,Lh];exact Ke ⟨rfl,rfl,_,h2⟩
  |tup h1 h2=>refine Ka (xH 6 h1 ?_);simp only[Lu,Ks,Lh];exact Ke ⟨rfl,rfl,_,h2⟩
 .rintro⟨r1,r2⟩ s' ⟨hr,rfl,_⟩;simp only at hr;subst hr;exact Ke h
end
noncomputable def jr (P:Ov)(w:World):HeapKind P w NK where
 is:=IsN P w
 hash:=fun ks=>reduceHash (Builtin.Tuple.tupleHashOf (ks.map (wl P w)))
 draws:=fun ks=>nDrs ks+1
 room:=fun A=>A.units+1<cLine
 inj:=fun hx hy=>hx.inj hy
 keeps:=fun x ho hd hs=>x.keeps ho hd hs
 pyHash:=fun hu hk h=>xE hu hk h
 eqBool:=fun hu hx hy h=>DY hu hx hy _ _ _ _ h
 quiet:=fun hk h=>AT hk h
noncomputable abbrev K0:=Sum Int (List Int)
noncomputable def kI (ks:List (List K0))(k:List K0):Bool:=ks.any fun x=>decide (x=k)
noncomputable def pM:K0->Sum Key (List Key)
 | .inl i=>.inl (.inl i)
 | .inr l=>.inr (l.map Sum.inl)
noncomputable def JZ:K0->Int
 | .inl i=>hashInt i
 | .inr l=>reduceHash (Builtin.Tuple.tupleHashOf (l.map hashInt))
noncomputable def Jf (k:List K0):Int:=reduceHash (Builtin.Tuple.tupleHashOf (k.map JZ))
noncomputable abbrev NX:=List (List K0×Addr×Ow)
def nW (a:Addr)(xs:NX)(h:Heap):Prop:=∃ o es ep,h.get? a=some o/\o.ExactDict/\o.data=.dict es ep/\es.toList=xs.map (fun x=>⟨Jf x.1,.ref x.2.1,x.2.2⟩)/\(xs.map (·.1)).Nodup
noncomputable def NVs (H:Hp):List K0->List V->Prop
 | [],vs=>vs=[]
 | .inl i::ks,vs=>∃ r,vs=.int i::r/\NVs H ks r
 | .inr l::ks,vs=>∃ c r,vs=.ref c::r/\H c=some (.tup (l.map V.int))/\NVs H ks r
def KeyN (H:Hp)(k:List K0)(b:Addr):Prop:=∃ vs,H b=some (.tup vs)/\NVs H k vs
def GB (H:Hp)(T:Addr->Prop)(v:V)(ks:List (List K0)):Prop:=∃ a xs,v=.ref a/\H a=some (.ext (nW a xs))/\(∀ b,T b↔b=a)/\(a==sysModules)=false/\xs.length<=sizeLine/\ks=xs.map (·.1)/\∀ x∈xs,KeyN H x.1 x.2.1
section
variable {H H':Hp}
theorem NVs.mono (kt:∀ b vs,H b=some (.tup vs)->H' b=some (.tup vs)):∀{k:List K0}{vs:List V},NVs H k vs->NVs H' k vs
 | [],_,h=>h
 | .inl i::ks,_,⟨r,e,h⟩=>⟨r,e,NVs.mono kt h⟩
 | .inr l::ks,_,⟨c,r,e,e2,h⟩=>⟨c,r,e,kt _ _ e2,NVs.mono kt h⟩
theorem KeyN.mono (kt:∀ b vs,H b=some (.tup vs)->H' b=some (.tup vs))(h:KeyN H k b):KeyN H' k b:=let ⟨vs,e,q⟩:=h;⟨vs,kt _ _ e,q.mono kt⟩
theorem xI (kT:∀ b o,T b->H b=some o->H' b=some o)(kt:∀ b vs,H b=some (.tup vs)->H' b=some (.tup vs))(h:GB H T v ks):GB H' T v ks:=by obtain⟨a,xs,e,e1,e2,e3,e4,e5,e6⟩:=h;exact⟨a,xs,e,kT a _ ((e2 a).mpr rfl) e1,e2,e3,e4,e5,fun x hx=>(e6 x hx).mono kt⟩
end
section
variable {P:Ov}{w:World}{H:Hp}{h:Heap}{a:Addr}
theorem AU {a b:K0}(h:pM a=pM b):a=b:=by
 have li:∀ x y:List Int,x.map (Sum.inl:Int->Key)=y.map Sum.inl->x=y:=fun x y e=>(List.map_inj_right fun _ _ z=>Ng z).mp e;cases a<;>cases b<;>simp only[pM,Sum.inl.injEq,Sum.inr.injEq,reduceCtorEq]at h
 .rw[h]
 .rw[li _ _ h]
theorem kJ {a b:List K0}(h:a.map pM=b.map pM):a=b:=(List.map_inj_right fun _ _ z=>AU z).mp h
theorem xJ (k:List K0):(jr P w).hash (k.map pM)=Jf k:=by
 show reduceHash (Builtin.Tuple.tupleHashOf ((k.map pM).map (wl P w)))=_;rw[KC];unfold Jf;congr 2;apply Lw;intro x _;cases x with
 |inl i=>rfl
 |inr l=>show reduceHash (Builtin.Tuple.tupleHashOf ((l.map Sum.inl).map (FQ w)))=_;rw[KC];rfl
theorem nZ (ok:HOk P w H h):∀{k:List K0}{vs:List V}{its:List Ow},NVs H k vs->Vals vs its->NIts P w h (k.map pM) its
 | [],_,_,e,r=>by cases e;cases r;exact .nil
 | .inl i::ks,_,_,⟨r,e,q⟩,z=>by
  subst e;cases z with
  |cons z1 z2=>obtain⟨t,rfl⟩:=z1;exact .val (mz i t) (nZ ok q z2)
 | .inr l::ks,_,_,⟨c,r,e,hc,q⟩,z=>by
  subst e;cases z with
  |cons z1 z2=>cases z1;refine .tup (d9 ok ?_) (nZ ok q z2);rw[hc,KC];rfl
theorem n5 (ok:HOk P w H h)(q:KeyN H k b):(jr P w).is h (k.map pM) b:=by obtain⟨vs,e,q⟩:=q;obtain⟨_,its,r,o,h1,h2,n,h3⟩:=(show ObjOk P w H h b (.tup vs) from ok b _ e);exact⟨o,its.toArray,n,h1,h2,h3,by simpa using nZ ok q r⟩
noncomputable def vw (xs:NX):List (NK×Addr×Ow):=xs.map fun x=>(x.1.map pM,x.2)
theorem tH (ok:HOk P w H h){xs:NX}(d:nW a xs h)(ks:∀ x∈xs,KeyN H x.1 x.2.1):h.DictOfH (jr P w) a (vw xs):=by
 obtain⟨o,es,ep,h1,h2,h3,h4,h5⟩:=d;refine⟨o,es,ep,h1,h2,h3,?_,fun x hx=>?_,?_⟩
 .rw[h4];unfold vw;rw[KC];apply Lw;intro x _;show _=entryOfKey (jr P w) (x.1.map pM,x.2);unfold entryOfKey;rw[xJ]
 .obtain⟨y,hy,rfl⟩:=Kq.mp hx;exact n5 ok (ks y hy)
 .unfold vw;rw[KC];exact KH.mpr ((KH.mp h5).imp fun z e=>z (kJ e))
theorem AV (d:h.DictOfH (jr P w) a (vw xs)):nW a xs h:=by
 obtain⟨o,es,ep,h1,h2,h3,h4,_,h5⟩:=d;refine⟨o,es,ep,h1,h2,h3,?_,?_⟩
 .rw[h4];unfold vw;rw[KC];apply Lw;intro x _;show entryOfKey (jr P w) (x.1.map pM,x.2)=_;unfold entryOfKey;rw[xJ]
 .unfold vw at h5;rw[KC]at h5;exact KH.mpr ((KH.mp h5).imp fun z e=>z (KN (List.map pM) e))
theorem pN (xs:NX)(k:List K0):(atKey (vw xs) (k.map pM)).isSome=kI (xs.map (·.1)) k:=by
 unfold atKey vw;rw[Option.isSome_map,L_,List.find?_isSome];unfold kI;simp only[Mk,Kq,LK];constructor
 .rintro⟨_,⟨x,hx,rfl⟩,e⟩;exact⟨_,⟨x,hx,rfl⟩,kJ e⟩
 .rintro⟨_,⟨x,hx,rfl⟩,rfl⟩;exact⟨_,⟨x,hx,rfl⟩,rfl⟩
noncomputable def iS (xs:NX)(k:List K0)(b:Addr)(v:Ow):NX:=if kI (xs.map (·.1)) k then xs.map (fun x=>if x.1=k then (x.1,x.2.1,v) else x) else xs++[(k,b,v)]
theorem vx (xs:NX)(k:List K0)(b:Addr)(v:Ow):storedH (vw xs) (k.map pM) b v=vw (iS xs k b v):=by
 unfold storedH iS;rw[pN];by_cases hk:kI (xs.map (·.1)) k=true
 .rw[Kf hk,Kf hk];unfold vw;rw[KC,KC];apply Lw;intro x _;show putAt (k.map pM) v (x.1.map pM,x.2)=_;unfold putAt;by_cases e:x.1=k
  .rw[Kf (by rw[e])];simp[e]
  .rw[Kh fun z=>e (kJ z)];simp[e]
 .rw[Kh hk,Kh hk];unfold vw;rw[KI];rfl
noncomputable def xK (ks:List (List K0))(k:List K0):List (List K0):=if kI ks k then ks else ks++[k]
theorem vy (xs:NX)(k:List K0)(b:Addr)(v:Ow):(iS xs k b v).map (·.1)=xK (xs.map (·.1)) k:=by
 unfold iS xK;split
 .rw[KC];apply Lw;intro x _;show(if x.1=k then (x.1,x.2.1,v) else x).1=x.1;split<;>rfl
 .rw[KI];rfl
theorem xL {Pr:List K0->Addr->Prop}(h:∀ x∈xs,Pr x.1 x.2.1)(hk:Pr k b):∀ x∈iS xs k b v,Pr x.1 x.2.1:=by
 intro x hx;unfold iS at hx;split at hx
 .obtain⟨y,hy,rfl⟩:=Kq.mp hx;split
  .exact h y hy
  .exact h y hy
 .rcases Ku.mp hx with z|z
  .exact h x z
  .simp at z;subst z;exact hk
theorem xM (xs:NX)(k:List K0)(b:Addr)(v:Ow):(iS xs k b v).length<=xs.length+1:=by unfold iS;split<;>simp
end
section
variable {X:Cx}{pins:List (Addr×Obj)}{σ:St}{H:Hp}{s:Ot}{a b:Addr}{xs:NX}{k:List K0}{A:Ox}{E:Ow->Ot->Prop}
theorem CH (I:Inv X pins σ H s)(e:H a=some (.ext (nW a xs))):nW a xs s.heap:=(show ObjOk X.prog X.w H s.heap a (.ext (nW a xs)) from I.hok a _ e).1
theorem CI (d:nW a xs h):ObjOk P w H h a (.ext (nW a xs)):=⟨d,let ⟨o,_,_,q,_⟩:=d;⟨o,q⟩,fun h1 h2 ⟨o,es,ep,q,r⟩ k=>⟨o,es,ep,k _ q,r⟩⟩
theorem GC (hu:A.units+2<cLine)(I:Inv X pins σ H s)(e:H a=some (.ext (nW a xs)))(hd:(a==sysModules)=false)(ks:∀ x∈xs,KeyN H x.1 x.2.1)(hk:KeyN H k b)(h:∀ s',Inv X pins σ H s'->Q (.bool (kI (xs.map (·.1)) k)) s') :
 wpAny (model X.prog X.w) A (compareOp .In (.ref b) (.ref a)) Q E s:=by
 refine wpAny_in_heap (knd:=jr X.prog X.w) (show A.units+1+1<cLine by lia) (n5 I.hok hk) hd (tH I.hok (CH I e) ks) ?_;rw[pN];exact h _ (I.tok _)
theorem DZ (hu:A.units+2<cLine)(I:Inv X pins σ H s)(e:H a=some (.ext (nW a xs)))(hz:xs.length<=sizeLine)(ks:∀ x∈xs,KeyN H x.1 x.2.1)(hk:KeyN H k b)
 (h:∀ s',Inv X pins σ (aJ H a (.ext (nW a (iS xs k b r)))) s'->Q () s'):wpAny (model X.prog X.w) A (setItem (.ref a) (.ref b) r) Q E s:=by
 refine wpAny_setItem_heap (knd:=jr X.prog X.w) (hsz:=by unfold vw;rw[Kg];exact hz) (show A.units+1+1<cLine by lia) (n5 I.hok hk) (tH I.hok (CH I e) ks) fun h' dd' hs=>h _ ?_;rw[vx]at dd';have nd:=AV dd';exact jN I (by rw[e];exact True.intro) hs (let ⟨q,_,_,hq,_⟩:=nd;⟨q,hq⟩) (CI nd)
noncomputable def D0:TE:=fun _ H Q=>∀ p,H p=none->(p==sysModules)=false->Q (.ref p) (aJ H p (.ext (nW p [])))
theorem xN:PE X (.Dict [] [] pos) D0:=fun pins s σ H Q I h=>
 wpAny_Dict_empty ⟨.ref s.heap.objs.size,_,I.laid (a:=s.heap.objs.size) (o:=.ext (nW s.heap.objs.size [])) (t':=s.toks) (fun _ _ q=>Kb _ q) (Km _)
  (CI ⟨_,#[],0,Kr _ rfl,⟨rfl,rfl,rfl⟩,rfl,rfl,MP⟩),rfl,h _ (I.hok.fresh (Km _)) (NZ.mpr (Lj (KJ I.big)))⟩
end
section
variable {X:Cx}{value o i:Expr}{td ty tv:TE}{pos pos':Pos}
noncomputable def GD (td ty tv:TE):TS:=fun D σ H=>tv σ H fun v H1=>td σ H1 fun x H2=>ty σ H2 fun y H3=>∃ a b xs k,x=.ref a/\y=.ref b/\H3 a=some (.ext (nW a xs))/\xs.length<=sizeLine/\(∀ x∈xs,KeyN H3 x.1 x.2.1)/\KeyN H3 k b/\∀ r,D.nx σ (aJ H3 a (.ext (nW a (iS xs k b r))))
theorem AW (hu:X.A.units+2<cLine)(ho:PE X o td)(hi:PE X i ty)(hv:PE X value tv)(hs:swapsWith value (some (.Subscript o i pos')) pos.line X.env=pure false) :
 PS X (.Assign [.Subscript o i pos'] value pos) (GD td ty tv):=by
 intro pins s σ H D I h;refine wpAny_Assign_Subscript (bX (hv pins s σ H _ I h) fun r s1 ⟨v,H1,I1,rv,q1⟩=>bX (ho pins s1 σ H1 _ I1 q1) fun u s2 ⟨x,H2,I2,rx,q2⟩=>bX (hi pins s2 σ H2 _ I2 q2) fun iv s3 ⟨y,H3,I3,ry,a,b,xs,k,ex,ey,e1,e2,e3,e4,q3⟩=>?_) hs;subst ex ey;obtain rfl:u=Value.ref a:=rx;obtain rfl:iv=Value.ref b:=ry;exact DZ hu I3 e1 e2 e3 e4 fun s4 I4=>⟨σ,_,I4,q3 r⟩
noncomputable def GE:R2:=fun x y H Q=>∃ a b xs k,y=.ref a/\x=.ref b/\H a=some (.ext (nW a xs))/\(a==sysModules)=false/\(∀ x∈xs,KeyN H x.1 x.2.1)/\KeyN H k b/\Q (.bl (kI (xs.map (·.1)) k)) H
end
end L2
namespace L2
open PySem PySem.Spec PySem.Calls PyProof.Rows ST
section
variable {X:Cx}
theorem mY:∀{vs:List V}{us:List Ow}{its:List TItem},TupsIn H vs its->Vals vs us->us=valsT its
 |_,_,_,.nil,.nil=>rfl
 |_,_,_,.cons q t,.cons r s=>by obtain⟨rfl,q⟩:=q;cases r;rw[mY t s];rfl
theorem l_ (hN:N<=300) (hs:gb X.prog X.w N):CallR X (.builtin "sorted") (fun xs H Q=>∃(l:Addr)(vs:List V)(its:List TItem),xs=[.ref l]/\Rd H l (.lst vs)/\TupsIn H vs its/\its.length<=N/\(∀ x∈its,x.1≠[])/\(its.map (·.1)).Nodup/\
 ∀(l':Addr)(ys:List TItem),H l'=none->ys.Perm its->ys.Pairwise (fun x y=>lexB x.1 y.1=true)->Q (.ref l') (aJ H l' (.lst (ys.map fun y=>.ref y.2)))):=by
 intro pins s σ H xs us Q I r h;obtain⟨l,vs,its,rfl,hl,hp,hz,hne,nd,q⟩:=h;obtain⟨u,rfl,ru⟩:=fq r;obtain rfl:u=Value.ref l:=ru;obtain⟨_,us,n,rv,hg⟩:=(show ObjOk X.prog X.w H s.heap l (.lst vs) from hl.ok I.hok);obtain⟨_,_,g3⟩:=hp.get rv;obtain rfl:=mY hp rv;have hvl:(valsT its).length=its.length:=by simp[valsT]
 have sl:=K9;refine Mq kind_sorted plain_sorted entry_sorted (args_sorted1 _) ?_;unfold Builtin.«sorted»;refine Ka (m:=checkCount "sorted" 1 1 _) (Ke (Ka (collect_list (l:=l) (vs:=valsT its) ⟨_,hg,rfl,n,rfl⟩ ?_ (by rw[hvl];lia))));have k1:∀ b o,s.heap.get? b=some o->((s.heap.push (seqObj "list" #[] 0)).update s.heap.objs.size (Obj.mapSeq (·++ (valsT its).toArray))).get? b=some o:=fun b o e=>(Lz _ _ (Lj (KJ (Kt e)))).trans (Kb _ e);have g1:s.heap.objs.size<=((s.heap.push (seqObj "list" #[] 0)).update s.heap.objs.size (Obj.mapSeq (·++ (valsT its).toArray))).objs.size:=Lb (Kt (Nw (Kr _ rfl) (·++ (valsT its).toArray)));generalize ((s.heap.push (seqObj "list" #[] 0)).update s.heap.objs.size (Obj.mapSeq (·++ (valsT its).toArray)))=h1 at k1 g1;refine Ka (MJ ?_ (by rw[hvl];lia));have hoL:(h1.push (seqObj "list" (valsT its).toArray 0)).get? h1.objs.size=some (seqObj "list" (valsT its).toArray 0):=Kr _ rfl;have kk:∀ b o,s.heap.get? b=some o->(h1.push (seqObj "list" (valsT its).toArray 0)).get? b=some o:=fun b o e=>Kb _ (k1 b o e);have t1:Tups X.prog X.w (h1.push (seqObj "list" (valsT its).toArray 0)) its:=⟨fun x hx=>d_ (d9 I.hok (g3 x hx)) kk,hne,nd⟩;refine Ka (LB (Ln slot_list_sort ⟨_,hoL,rfl⟩ entry_list_sort ?body (args_list_sort _)))
 case body=>
  refine hs _ _ { s with heap:=h1.push (seqObj "list" (valsT its).toArray 0) } _ _ _ _ hoL t1 hz fun ys h2 c2 hp2 hw hl2 k2=>⟨_,rfl,?_⟩;have hf:H h1.objs.size=none:=I.hok.fresh g1;refine Ke ⟨_,rfl,.ref h1.objs.size,_,I.laid (a:=h1.objs.size) (o:=.lst (ys.map fun y=>.ref y.2)) (t':=s.toks) (fun b o e=>k2 b o (fun z=>?_) (kk b o e)) g1 ?_,rfl,q h1.objs.size ys hf hp2 hw⟩
  .subst z;exact absurd (Kt e) (Os.mpr g1)
  .refine⟨by rw[Kg,hp2.length_eq];lia,valsT ys,c2,?_,hl2⟩;clear hl2 hw hp2;induction ys with
   |nil=>exact .nil
   |cons y ys ih=>exact .cons rfl ih
end
end L2
namespace L3
open PySem PySem.Spec PyProof.Rows L2
noncomputable abbrev DK:=Sum Key (List Key)
inductive D where
 |non|bl (b:Bool)|int (i:Int)|str (x:Str)|tup (ds:List D)|lst (ds:List D)|dic (ks:List DK) (ds:List D)
mutual
noncomputable def D.flat:D->Bool
 | .lst _=>false
 | .dic _ _=>false
 | .tup ds=>D.flats ds
 |_=>true
noncomputable def D.flats:List D->Bool
 | []=>true
 |d::ds=>d.flat&&D.flats ds
end
mutual
noncomputable def D.dep:D->Nat
 | .lst ds=>D.deps ds+1
 | .tup ds=>D.deps ds+1
 | .dic _ ds=>D.deps ds+1000
 |_=>0
noncomputable def D.deps:List D->Nat
 | []=>0
 |d::ds=>max d.dep (D.deps ds)
end
mutual
noncomputable def dL:D->D->Bool
 | .non,e=>match e with|.non=>true|_=>false
 | .bl a,e=>match e with|.bl b=>a==b|.int b=>(if a then 1 else 0)==b|_=>false
 | .int a,e=>match e with|.int b=>a==b|.bl b=>a==(if b then 1 else 0)|_=>false
 | .str a,e=>match e with|.str b=>a==b|_=>false
 | .tup as,e=>match e with|.tup bs=>eqDs as bs|_=>false
 | .lst as,e=>match e with|.lst bs=>eqDs as bs|_=>false
 | .dic ks as,e=>match e with|.dic ls bs=>decide (ks=ls)&&eqDs as bs|_=>false
noncomputable def eqDs:List D->List D->Bool
 | [],bs=>match bs with|[]=>true|_=>false
 |a::as,bs=>match bs with|b::r=>dL a b&&eqDs as r|[]=>false
end
mutual
theorem cz:∀ d:D,dL d d=true
 | .non=>rfl
 | .bl a=>by simp[dL]
 | .int a=>by simp[dL]
 | .str a=>by simp[dL]
 | .tup as=>by simp only[dL];exact eqDs_refl as
 | .lst as=>by simp only[dL];exact eqDs_refl as
 | .dic ks as=>by simp only[dL,decide_true,NW];exact eqDs_refl as
theorem eqDs_refl:∀ ds:List D,eqDs ds ds=true
 | []=>rfl
 |d::ds=>by simp only[eqDs,cz d,eqDs_refl ds,NT]
end
def DAt (H:Hp)(a:Addr)(ks:List DK)(vs:List V):Prop:=(∃ kvs:List (Key×V),Rd H a (.dK kvs)/\ks=kvs.map (fun p=>.inl p.1)/\vs=kvs.map Prod.snd)\/∃ kvs:List (List Key×V),Rd H a (.dT kvs)/\ks=kvs.map (fun p=>.inr p.1)/\vs=kvs.map Prod.snd
noncomputable def D1:HO->Prop
 | .lst _=>True
 | .dK _=>True
 | .dT _=>True
 | .ext _=>True
 |_=>False
def Mu (H:Hp)(a:Addr):Prop:=∃ o,H a=some o/\D1 o
theorem Mu.lst (h:H a=some (.lst vs)):Mu H a:=⟨_,h,True.intro⟩
theorem Mu.same (h:Mu H a)(s:∀ o,H a=some o->H' a=some o):Mu H' a:=let ⟨o,e,m⟩:=h;⟨o,s o e,m⟩
theorem Mu.some (h:Mu H a):H a≠none:=by obtain⟨o,e,_⟩:=h;rw[e];simp
theorem xO (h:Rd H a u):∃ o,H a=some o:=h.elim (fun e=>⟨_,e⟩) fun⟨_,e⟩=>⟨_,e⟩
theorem rS (h:Rd H a u)(s:∀ o,H a=some o->H' a=some o):Rd H' a u:=h.imp (s _) fun⟨o,e⟩=>⟨o,s _ e⟩
theorem DAt.obj (h:DAt H a ks vs):∃ o,H a=some o:=h.elim (fun⟨_,e,_⟩=>xO e) fun⟨_,e,_⟩=>xO e
theorem DAt.mu (h:DAt H a ks vs)(n:∀ o u,H a≠some (.frz o u)):Mu H a:=by rcases h with⟨kvs,e|⟨o,e⟩,_⟩|⟨kvs,e|⟨o,e⟩,_⟩<;>first|exact⟨_,e,True.intro⟩|exact(n _ _ e).elim
theorem DAt.keep (h:DAt H a ks vs)(s:∀ o,H a=some o->H' a=some o):DAt H' a ks vs:=h.imp (fun⟨kvs,e,r⟩=>⟨kvs,rS e s,r⟩) fun⟨kvs,e,r⟩=>⟨kvs,rS e s,r⟩
theorem DAt.inj (h:DAt H a ks vs)(g:DAt H a ls ws):ks=ls/\vs=ws:=by rcases h with⟨k1,e1|⟨o1,e1⟩,r1,r2⟩|⟨k1,e1|⟨o1,e1⟩,r1,r2⟩<;>rcases g with⟨k2,e2|⟨o2,e2⟩,q1,q2⟩|⟨k2,e2|⟨o2,e2⟩,q1,q2⟩<;>(rw[e1]at e2;cases e2;try exact⟨r1.trans q1.symm,r2.trans q2.symm⟩)
noncomputable def Jg:HO->Prop
 | .dK _=>False
 | .dT _=>False
 | .frz _ (.dK _)=>False
 | .frz _ (.dT _)=>False
 |_=>True
theorem DAt.no (h:DAt H a ks vs)(e:H a=some o)(n:Jg o):False:=by rcases h with⟨k,z|⟨o',z⟩,_⟩|⟨k,z|⟨o',z⟩,_⟩<;>(rw[e]at z;cases z;exact n)
mutual
noncomputable def Is (H:Hp)(m:Addr->Prop):D->V->Prop
 | .non,v=>v=.non
 | .bl b,v=>v=.bl b
 | .int i,v=>v=.int i
 | .str x,v=>v=.str x
 | .tup ds,v=>∃ a vs,v=.ref a/\H a=some (.tup vs)/\IsAll H m ds vs
 | .lst ds,v=>∃ a vs,v=.ref a/\((H a=some (.lst vs)/\m a)\/∃ o,H a=some (.frz o (.lst vs))/\m a)/\IsAll H m ds vs
 | .dic ks ds,v=>∃ a vs,v=.ref a/\(DAt H a ks vs/\m a)/\IsAll H m ds vs
noncomputable def IsAll (H:Hp)(m:Addr->Prop):List D->List V->Prop
 | [],vs=>vs=[]
 |d::ds,vs=>∃ v r,vs=v::r/\Is H m d v/\IsAll H m ds r
end
noncomputable def fixd:HO->Prop
 | .tup _=>True
 | .frz _ _=>True
 |_=>False
section
variable {H H':Hp}{m m':Addr->Prop}
mutual
theorem Is.mono (kp:∀ a o,H a=some o->(m a\/fixd o)->H' a=some o)(mm:∀ a o,H a=some o->m a->m' a):∀{d:D}{v:V},Is H m d v->Is H' m' d v
 | .non,_,h=>h
 | .bl _,_,h=>h
 | .int _,_,h=>h
 | .str _,_,h=>h
 | .tup ds,_,h=>by obtain⟨a,vs,e,h1,h2⟩:=h;exact⟨a,vs,e,kp a _ h1 (.inr True.intro),IsAll.mono kp mm h2⟩
 | .lst ds,_,h=>by
  obtain⟨a,vs,e,h1,h2⟩:=h;refine⟨a,vs,e,?_,IsAll.mono kp mm h2⟩;rcases h1 with⟨h1,h3⟩|⟨o,h1,h3⟩
  .exact .inl ⟨kp a _ h1 (.inl h3),mm a _ h1 h3⟩
  .exact .inr ⟨o,kp a _ h1 (.inr True.intro),mm a _ h1 h3⟩
 | .dic ks ds,_,h=>by obtain⟨a,vs,e,h1,h2⟩:=h;obtain⟨o,eo⟩:=h1.1.obj;exact⟨a,vs,e,⟨h1.1.keep fun o e=>kp a o e (.inl h1.2),mm a o eo h1.2⟩,IsAll.mono kp mm h2⟩
theorem IsAll.mono (kp:∀ a o,H a=some o->(m a\/fixd o)->H' a=some o)(mm:∀ a o,H a=some o->m a->m' a):∀{ds:List D}{vs:List V},IsAll H m ds vs->IsAll H' m' ds vs
 | [],_,h=>h
 |d::ds,_,h=>by obtain⟨v,r,e,h1,h2⟩:=h;exact⟨v,r,e,Is.mono kp mm h1,IsAll.mono kp mm h2⟩
end
theorem Is.weak (mm:∀ a,m a->m' a)(h:Is H m d v):Is H m' d v:=h.mono (fun _ _ e _=>e) fun a _ _=>mm a
theorem IsAll.weak (mm:∀ a,m a->m' a)(h:IsAll H m ds vs):IsAll H m' ds vs:=h.mono (fun _ _ e _=>e) fun a _ _=>mm a
theorem Is.same (s:Same H H')(h:Is H m d v):Is H' m d v:=h.mono (fun a o e _=>s a o e) fun _ _ _ z=>z
theorem IsAll.same (s:Same H H')(h:IsAll H m ds vs):IsAll H' m ds vs:=h.mono (fun a o e _=>s a o e) fun _ _ _ z=>z
mutual
theorem Is.flat:∀{d:D}{v:V},d.flat=true->Is H m d v->Is H m' d v
 | .non,_,_,h=>h
 | .bl _,_,_,h=>h
 | .int _,_,_,h=>h
 | .str _,_,_,h=>h
 | .tup ds,_,f,h=>by obtain⟨a,vs,e,h1,h2⟩:=h;exact⟨a,vs,e,h1,IsAll.flat (by simpa only[D.flat] using f) h2⟩
 | .lst ds,_,f,_=>by simp[D.flat]at f
 | .dic ks ds,_,f,_=>by simp[D.flat]at f
theorem IsAll.flat:∀{ds:List D}{vs:List V},D.flats ds=true->IsAll H m ds vs->IsAll H m' ds vs
 | [],_,_,h=>h
 |d::ds,_,f,h=>by obtain⟨v,r,e,h1,h2⟩:=h;simp only[D.flats,KQ]at f;exact⟨v,r,e,Is.flat f.1 h1,IsAll.flat f.2 h2⟩
end
mutual
theorem Is.inj:∀{d e:D}{v:V},Is H m d v->Is H m' e v->d=e
 | .non,e,_,h,g=>by cases e<;>first|rfl|(cases h;first|(obtain⟨_,_,z,_⟩:=g;cases z;done)|cases g)
 | .bl _,e,_,h,g=>by cases e<;>(cases h;first|(obtain⟨_,_,z,_⟩:=g;cases z;done)|(cases g;rfl)|cases g)
 | .int _,e,_,h,g=>by cases e<;>(cases h;first|(obtain⟨_,_,z,_⟩:=g;cases z;done)|(cases g;rfl)|cases g)
 | .str _,e,_,h,g=>by cases e<;>(cases h;first|(obtain⟨_,_,z,_⟩:=g;cases z;done)|(cases g;rfl)|cases g)
 | .tup ds,e,_,h,g=>by
  obtain⟨a,vs,rfl,h1,h2⟩:=h;cases e with
  |tup es=>obtain⟨b,ws,z,g1,g2⟩:=g;cases z;rw[h1]at g1;cases g1;rw[IsAll.inj h2 g2]
  |lst es=>obtain⟨b,ws,z,g1,g2⟩:=g;cases z;rcases g1 with⟨g1,_⟩|⟨o,g1,_⟩<;>(rw[h1]at g1;cases g1)
  |dic ls es=>obtain⟨b,ws,z,g1,g2⟩:=g;cases z;exact(g1.1.no h1 True.intro).elim
  |_=>cases g
 | .lst ds,e,_,h,g=>by
  obtain⟨a,vs,rfl,h1,h2⟩:=h;cases e with
  |tup es=>obtain⟨b,ws,z,g1,g2⟩:=g;cases z;rcases h1 with⟨h1,_⟩|⟨o,h1,_⟩<;>(rw[h1]at g1;cases g1)
  |lst es=>
   obtain⟨b,ws,z,g1,g2⟩:=g;cases z;have e:vs=ws:=by rcases h1 with⟨h1,_⟩|⟨o,h1,_⟩<;>rcases g1 with⟨g1,_⟩|⟨o',g1,_⟩<;>(rw[h1]at g1;cases g1;try rfl)
   subst e;rw[IsAll.inj h2 g2]
  |dic ls es=>obtain⟨b,ws,z,g1,g2⟩:=g;cases z;rcases h1 with⟨h1,_⟩|⟨o,h1,_⟩<;>exact(g1.1.no h1 True.intro).elim
  |_=>cases g
 | .dic ks ds,e,_,h,g=>by
  obtain⟨a,vs,rfl,h1,h2⟩:=h;cases e with
  |tup es=>obtain⟨b,ws,z,g1,g2⟩:=g;cases z;exact(h1.1.no g1 True.intro).elim
  |lst es=>obtain⟨b,ws,z,g1,g2⟩:=g;cases z;rcases g1 with⟨g1,_⟩|⟨o,g1,_⟩<;>exact(h1.1.no g1 True.intro).elim
  |dic ls es=>obtain⟨b,ws,z,g1,g2⟩:=g;cases z;obtain⟨e1,e2⟩:=h1.1.inj g1.1;subst e1 e2;rw[IsAll.inj h2 g2]
  |_=>cases g
theorem IsAll.inj:∀{ds es:List D}{vs:List V},IsAll H m ds vs->IsAll H m' es vs->ds=es
 | [],es,_,h,g=>by
  cases h;cases es with
  |nil=>rfl
  |cons e es=>obtain⟨_,_,z,_⟩:=g;cases z
 |d::ds,es,_,h,g=>by
  obtain⟨v,r,rfl,h1,h2⟩:=h;cases es with
  |nil=>cases g
  |cons e es=>obtain⟨w,q,z,g1,g2⟩:=g;cases z;rw[Is.inj h1 g1,IsAll.inj h2 g2]
end
theorem IsAll.length:∀{ds:List D}{vs:List V},IsAll H m ds vs->vs.length=ds.length
 | [],_,h=>by cases h;rfl
 |d::ds,_,h=>by obtain⟨v,r,rfl,_,h2⟩:=h;simp[IsAll.length h2]
theorem IsAll.append:∀{ds es:List D}{vs ws:List V},IsAll H m ds vs->IsAll H m es ws->IsAll H m (ds++es) (vs++ws)
 | [],_,_,_,h,g=>by cases h;exact g
 |d::ds,_,_,_,h,g=>by obtain⟨v,r,rfl,h1,h2⟩:=h;exact⟨v,r++_,rfl,h1,IsAll.append h2 g⟩
theorem IsAll.snoc (h:IsAll H m ds vs)(g:Is H m d v):IsAll H m (ds++[d]) (vs++[v]):=h.append ⟨v,[],rfl,g,rfl⟩
theorem IsAll.get:∀{ds:List D}{vs:List V}{i:Nat}{d:D},IsAll H m ds vs->ds[i]?=some d->∃ v,vs[i]?=some v/\Is H m d v
 | [],_,_,_,_,e=>by simp at e
 |d::ds,_,0,_,h,e=>by obtain⟨v,r,rfl,h1,h2⟩:=h;simp at e;subst e;exact⟨v,rfl,h1⟩
 |d::ds,_,i+1,_,h,e=>by obtain⟨v,r,rfl,h1,h2⟩:=h;obtain⟨w,a,b⟩:=IsAll.get (i:=i) h2 (by simpa using e);exact⟨w,by simpa using a,b⟩
end
section
variable {P:Ov}{w:World}{H:Hp}{s:Ot}{m m':Addr->Prop}
theorem D2 (ok:HOk P w H s.heap)(h:(H a=some (.lst vs)/\m a)\/∃ o,H a=some (.frz o (.lst vs))/\m a) :
 ∃ its:List Ow,Vals vs its/\s.heap.IsList a its.toArray:=by
 have key:ObjOk P w H s.heap a (.lst vs)->∃ its:List Ow,Vals vs its/\s.heap.IsList a its.toArray:=fun⟨_,its,n,r,e⟩=>⟨its,r,⟨_,e,rfl,n,rfl⟩⟩;rcases h with⟨h,_⟩|⟨o,h,_⟩
 .exact key (ok a _ h)
 .exact key (ok a _ h).2
theorem D6 (ok:HOk P w H s.heap)(h:H a=some (.tup vs)):∃ its:List Ow,Vals vs its/\s.heap.IsTuple a its.toArray:=by obtain⟨_,its,r,e⟩:=ok a _ h;exact⟨its,r,e⟩
theorem vz (n:Nat)(e:Nat->Bool):(List.range n).all e=true↔∀ j,j<n->e j=true:=by simp[Lm,K3]
theorem kK:∀(ds es:List D),eqDs ds es=true↔ds.length=es.length/\∀(j:Nat)(d e:D),ds[j]?=some d->es[j]?=some e->dL d e=true
 | [],[]=>by simp[eqDs]
 | [],e::es=>by simp[eqDs]
 |d::ds,[]=>by simp[eqDs]
 |d::ds,e::es=>by
  simp only[eqDs,KQ,kK ds es,K8,Nat.add_right_cancel_iff];constructor
  .rintro⟨h1,h2,h3⟩;refine⟨h2,fun j x y ex ey=>?_⟩;cases j with
   |zero=>simp at ex ey;subst ex;subst ey;exact h1
   |succ j=>exact h3 j x y (by simpa using ex) (by simpa using ey)
  .rintro⟨h2,h3⟩;exact⟨h3 0 d e rfl rfl,h2,fun j x y ex ey=>h3 (j+1) x y (by simpa using ex) (by simpa using ey)⟩
theorem cO:∀{ds:List D}{j:Nat}{d:D},ds[j]?=some d->d.dep<=D.deps ds
 | [],_,_,e=>by simp at e
 |d::ds,0,_,e=>by simp at e;subst e;simp only[D.deps];lia
 |d::ds,j+1,x,e=>by have:=cO (ds:=ds) (j:=j) (d:=x) (by simpa using e);simp only[D.deps];lia
theorem n6 (ok:HOk P w H s.heap){A:Ox}{ds es:List D}(h1:IsAll H m ds vs)(h2:IsAll H m' es ws)(r1:Vals vs its)(r2:Vals ws its2)
 (rec:∀ d∈ds,∀ e∈es,∀(v w:V)(u u':Ow),Is H m d v->Is H m' e w->RelV v u->RelV w u'->SeqAt.EqAt A.in1 s u u' (dL d e)) :
 ∀ j (z1:j<its.toArray.size) (z2:j<its2.toArray.size),SeqAt.EqAt A.in1 s its.toArray[j] its2.toArray[j] (match ds[j]?,es[j]? with|some d,some e=>dL d e|_,_=>true):=by
 intro j z1 z2;have l1:=r1.length;have l2:=r2.length;have l3:=h1.length;have l4:=h2.length;have y1:j<its.length:=by simpa using z1
 have y2:j<its2.length:=by simpa using z2
 have k1:j<ds.length:=by lia
 have k2:j<es.length:=by lia
 obtain⟨v,ev,iv⟩:=h1.get (i:=j) (d:=ds[j]) (by simp[k1]);obtain⟨v',ev',iv'⟩:=h2.get (i:=j) (d:=es[j]) (by simp[k2]);obtain⟨u,eu,ru⟩:=r1.get ev;obtain⟨u',eu',ru'⟩:=r2.get ev';have q1:its.toArray[j]=u:=by
  have:its[j]?=some its[j]:=by simp[y1]
  rw[this]at eu;simpa using K4 eu
 have q2:its2.toArray[j]=u':=by
  have:its2[j]?=some its2[j]:=by simp[y2]
  rw[this]at eu';simpa using K4 eu'
 have g1:ds[j]?=some ds[j]:=by simp[k1]
 have g2:es[j]?=some es[j]:=by simp[k2]
 rw[q1,q2,g1,g2];exact rec ds[j] (Nf _) es[j] (Nf _) v v' u u' iv iv' ru ru'
theorem rT (hl:ds.length=es.length) :
 ((List.range ds.length).all fun j=>match ds[j]?,es[j]? with|some d,some e=>dL d e|_,_=>true)=eqDs ds es:=by
 rw[L_,vz,kK];constructor
 .intro h;refine⟨hl,fun j d e ed ee=>?_⟩;have:=h j (Kc.mp ed).1;rw[ed,ee]at this;exact this
 .rintro⟨_,h⟩ j hj;have e1:ds[j]?=some ds[j]:=by simp[hj]
  have hj':j<es.length:=by lia
  have e2:es[j]?=some es[j]:=by simp[hj']
  rw[e1,e2];exact h j _ _ e1 e2
theorem n8 (hl:ds.length≠es.length):eqDs ds es=false:=by
 cases h:eqDs ds es with
 |false=>rfl
 |true=>exact absurd ((kK ds es).mp h).1 hl
abbrev js (H:Hp)(s:Ot)(m m':Addr->Prop)(A:Ox)(n:Nat):Prop:=∀(d e:D)(v w:V)(u u':Ow),d.dep<n->e.dep<1000->Is H m d v->Is H m' e w->RelV v u->RelV w u'->SeqAt.EqAt A.in1 s u u' (dL d e)
section
variable {A:Ox}{n:Nat}{l1 l2:List D}{vs1 vs2:List V}{its1 its2:List Ow}{a1 a2:Addr}
theorem kN (ok:HOk P w H s.heap)(hn:(D.lst l1).dep<=n)(hE:(D.lst l2).dep<1000)(hu:A.units<cLine)(q1:IsAll H m l1 vs1)(q2:IsAll H m' l2 vs2)(y1:Vals vs1 its1)(y2:Vals vs2 its2)(p1:s.heap.IsList a1 its1.toArray)(p2:s.heap.IsList a2 its2.toArray)
 (rec:js H s m m' A n):SeqAt.RcAt A s (.ref a1) (.ref a2) (dL (.lst l1) (.lst l2)):=by
 have e1:its1.toArray.size=l1.length:=by rw[Ki,<- y1.length,q1.length]
 have e2:its2.toArray.size=l2.length:=by rw[Ki,<- y2.length,q2.length]
 have hd:∀ d∈l1,d.dep<n:=fun d hd=>by obtain⟨j,hj⟩:=KG.mp hd;have:=cO hj;simp only[D.dep]at hn;lia
 have he:∀ e∈l2,e.dep<1000:=fun d hd=>by obtain⟨j,hj⟩:=KG.mp hd;have:=cO hj;simp only[D.dep]at hE;lia
 by_cases hl:l1.length=l2.length
 .have z:=SeqAt.RcAt.lists p1 p2 (by rw[e1,e2,hl]) hu (n6 ok q1 q2 y1 y2 fun d hm e hm2 v w u u' i1 i2 r1 r2=>rec d e v w u u' (hd d hm) (he e hm2) i1 i2 r1 r2);rw[e1,rT hl]at z;exact z
 .have z:=SeqAt.RcAt.lists_lengths p1 p2 (by rw[e1,e2];simpa using hl) hu;rw[show dL (.lst l1) (.lst l2)=eqDs l1 l2 from rfl,n8 hl];exact z
theorem n9 (ok:HOk P w H s.heap)(hn:(D.lst l1).dep<=n)(hE:(D.lst l2).dep<1000)(hu:A.units<cLine)(q1:IsAll H m l1 vs1)(q2:IsAll H m' l2 vs2)(y1:Vals vs1 its1)(y2:Vals vs2 its2)(p1:s.heap.IsList a1 its1.toArray)(p2:s.heap.IsList a2 its2.toArray)
 (rec:js H s m m' A n):SeqAt.RcNeAt A s (.ref a1) (.ref a2) (!dL (.lst l1) (.lst l2)):=by
 have e1:its1.toArray.size=l1.length:=by rw[Ki,<- y1.length,q1.length]
 have e2:its2.toArray.size=l2.length:=by rw[Ki,<- y2.length,q2.length]
 have hd:∀ d∈l1,d.dep<n:=fun d hd=>by obtain⟨j,hj⟩:=KG.mp hd;have:=cO hj;simp only[D.dep]at hn;lia
 have he:∀ e∈l2,e.dep<1000:=fun d hd=>by obtain⟨j,hj⟩:=KG.mp hd;have:=cO hj;simp only[D.dep]at hE;lia
 by_cases hl:l1.length=l2.length
 .have z:=SeqAt.RcNeAt.lists p1 p2 (by rw[e1,e2,hl]) hu (n6 ok q1 q2 y1 y2 fun d hm e hm2 v w u u' i1 i2 r1 r2=>rec d e v w u u' (hd d hm) (he e hm2) i1 i2 r1 r2);rw[e1,rT hl]at z;exact z
 .have z:=SeqAt.RcNeAt.lists_lengths p1 p2 (by rw[e1,e2];simpa using hl) hu;rw[show dL (.lst l1) (.lst l2)=eqDs l1 l2 from rfl,n8 hl];exact z
theorem tJ:((List.range (min l1.length l2.length)).all (fun j=>match l1[j]?,l2[j]? with|some d,some e=>dL d e|_,_=>true)&&l1.length==l2.length)=eqDs l1 l2:=by
 by_cases hl:l1.length=l2.length
 .rw[hl,Nat.min_self,<- hl,rT hl];simp[hl]
 .rw[n8 hl];simp[hl]
theorem mZ (ok:HOk P w H s.heap)(hn:(D.tup l1).dep<=n)(hE:(D.tup l2).dep<1000)(hu:A.units<cLine)(q1:IsAll H m l1 vs1)(q2:IsAll H m' l2 vs2)(y1:Vals vs1 its1)(y2:Vals vs2 its2)(p1:s.heap.IsTuple a1 its1.toArray)(p2:s.heap.IsTuple a2 its2.toArray)
 (rec:js H s m m' A n):SeqAt.RcAt A s (.ref a1) (.ref a2) (dL (.tup l1) (.tup l2)):=by
 have e1:its1.toArray.size=l1.length:=by rw[Ki,<- y1.length,q1.length]
 have e2:its2.toArray.size=l2.length:=by rw[Ki,<- y2.length,q2.length]
 have hd:∀ d∈l1,d.dep<n:=fun d hd=>by obtain⟨j,hj⟩:=KG.mp hd;have:=cO hj;simp only[D.dep]at hn;lia
 have he:∀ e∈l2,e.dep<1000:=fun d hd=>by obtain⟨j,hj⟩:=KG.mp hd;have:=cO hj;simp only[D.dep]at hE;lia
 have z:=SeqAt.RcAt.tuples p1 p2 hu (n6 ok q1 q2 y1 y2 fun d hm e hm2 v w u u' i1 i2 r1 r2=>rec d e v w u u' (hd d hm) (he e hm2) i1 i2 r1 r2);rw[e1,e2,tJ]at z;exact z
theorem pO (ok:HOk P w H s.heap)(hn:(D.tup l1).dep<=n)(hE:(D.tup l2).dep<1000)(hu:A.units<cLine)(q1:IsAll H m l1 vs1)(q2:IsAll H m' l2 vs2)(y1:Vals vs1 its1)(y2:Vals vs2 its2)(p1:s.heap.IsTuple a1 its1.toArray)(p2:s.heap.IsTuple a2 its2.toArray)
 (rec:js H s m m' A n):SeqAt.RcNeAt A s (.ref a1) (.ref a2) (!dL (.tup l1) (.tup l2)):=by
 have e1:its1.toArray.size=l1.length:=by rw[Ki,<- y1.length,q1.length]
 have e2:its2.toArray.size=l2.length:=by rw[Ki,<- y2.length,q2.length]
 have hd:∀ d∈l1,d.dep<n:=fun d hd=>by obtain⟨j,hj⟩:=KG.mp hd;have:=cO hj;simp only[D.dep]at hn;lia
 have he:∀ e∈l2,e.dep<1000:=fun d hd=>by obtain⟨j,hj⟩:=KG.mp hd;have:=cO hj;simp only[D.dep]at hE;lia
 have z:=SeqAt.RcNeAt.tuples p1 p2 hu (n6 ok q1 q2 y1 y2 fun d hm e hm2 v w u u' i1 i2 r1 r2=>rec d e v w u u' (hd d hm) (he e hm2) i1 i2 r1 r2);rw[e1,e2,tJ]at z;exact z
theorem pP (h:SeqAt.RcAt A s (.ref a1) (.ref a2) k)(hs:a1=a2->k=true):SeqAt.EqAt A s (.ref a1) (.ref a2) k:=by
 by_cases e:a1=a2
 .subst e;rw[hs rfl];exact SeqAt.EqAt.same _
 .exact SeqAt.EqAt.of_refs e h
end
theorem Is.shape (ok:HOk P w H s.heap)(hE:d.dep<1000)(h:Is H m d v)(r:RelV v u):(d=.non/\u=.none)\/(∃ b,d=.bl b/\u=.bool b)\/(∃ i t,d=.int i/\u=.int i t)\/(∃ x t,d=.str x/\u=.str x t)\/
 (∃ l a vs its,d=.lst l/\v=.ref a/\u=.ref a/\IsAll H m l vs/\Vals vs its/\s.heap.IsList a its.toArray)\/∃ l a vs its,d=.tup l/\v=.ref a/\u=.ref a/\IsAll H m l vs/\Vals vs its/\s.heap.IsTuple a its.toArray:=by
 cases d with
 |non=>cases h;cases r;exact .inl ⟨rfl,rfl⟩
 |bl b=>cases h;cases r;exact .inr (.inl ⟨b,rfl,rfl⟩)
 |int i=>cases h;obtain⟨t,rfl⟩:=r;exact .inr (.inr (.inl ⟨i,t,rfl,rfl⟩))
 |str x=>cases h;obtain⟨t,rfl⟩:=r;exact .inr (.inr (.inr (.inl ⟨x,t,rfl,rfl⟩)))
 |lst l=>obtain⟨a,vs,rfl,g,q⟩:=h;cases r;obtain⟨its,y,p⟩:=D2 ok g;exact .inr (.inr (.inr (.inr (.inl ⟨l,a,vs,its,rfl,rfl,rfl,q,y,p⟩))))
 |tup l=>obtain⟨a,vs,rfl,g,q⟩:=h;cases r;obtain⟨its,y,p⟩:=D6 ok g;exact .inr (.inr (.inr (.inr (.inr ⟨l,a,vs,its,rfl,rfl,rfl,q,y,p⟩))))
 |dic k l=>exact absurd hE (by simp only[D.dep];lia)
theorem AX (ok:HOk P w H s.heap)(hu:A.units<cLine)(rec:js H s m m' A n)(hn:d.dep<=n)(hN:n<1000)(hE:e.dep<1000)(h1:Is H m d v)(h2:Is H m' e w')(r1:RelV v u)(r2:RelV w' u') :
 SeqAt.RcAt A s u u' (dL d e):=by
 rcases h1.shape ok (by lia) r1 with⟨rfl,rfl⟩|⟨b1,rfl,rfl⟩|⟨i1,t1,rfl,rfl⟩|⟨x1,t1,rfl,rfl⟩|⟨l1,a1,vs1,its1,rfl,rfl,rfl,q1,y1,p1⟩|⟨l1,a1,vs1,its1,rfl,rfl,rfl,q1,y1,p1⟩<;>rcases h2.shape ok hE r2 with⟨rfl,rfl⟩|⟨b2,rfl,rfl⟩|⟨i2,t2,rfl,rfl⟩|⟨x2,t2,rfl,rfl⟩|⟨l2,a2,vs2,its2,rfl,rfl,rfl,q2,y2,p2⟩|⟨l2,a2,vs2,its2,rfl,rfl,rfl,q2,y2,p2⟩;exact .none_none;exact .none_bool b2;exact .none_int i2 t2;exact .none_str x2 t2;exact .none_list p2 hu;exact .none_tuple p2 hu;exact .bool_none b1;exact .bool_bool b1 b2;exact .bool_int b1 i2 t2;exact .bool_str b1 x2 t2;exact .bool_list b1 p2 hu;exact .bool_tuple b1 p2 hu;exact .int_none i1 t1;exact .int_bool i1 t1 b2;exact .int_int i1 t1 i2 t2;exact .int_str i1 t1 x2 t2;exact .int_list i1 t1 p2 hu;exact .int_tuple i1 t1 p2 hu;exact .str_none x1 t1;exact .str_bool x1 t1 b2;exact .str_int x1 t1 i2 t2;exact .str_str x1 t1 x2 t2;exact .str_list x1 t1 p2 hu;exact .str_tuple x1 t1 p2 hu;exact .list_none p1 hu;exact .list_bool b2 p1 hu;exact .list_int i2 t2 p1 hu;exact .list_str x2 t2 p1 hu;exact kN ok hn hE hu q1 q2 y1 y2 p1 p2 rec;exact .list_tuple p1 p2 hu;exact .tuple_none p1 hu;exact .tuple_bool b2 p1 hu;exact .tuple_int i2 t2 p1 hu;exact .tuple_str x2 t2 p1 hu;exact .tuple_list p1 p2 hu;exact mZ ok hn hE hu q1 q2 y1 y2 p1 p2 rec
theorem AY (ok:HOk P w H s.heap)(hu:A.units<cLine)(rec:js H s m m' A n)(hn:d.dep<=n)(hN:n<1000)(hE:e.dep<1000)(h1:Is H m d v)(h2:Is H m' e w')(r1:RelV v u)(r2:RelV w' u') :
 SeqAt.RcNeAt A s u u' (!dL d e):=by
 rcases h1.shape ok (by lia) r1 with⟨rfl,rfl⟩|⟨b1,rfl,rfl⟩|⟨i1,t1,rfl,rfl⟩|⟨x1,t1,rfl,rfl⟩|⟨l1,a1,vs1,its1,rfl,rfl,rfl,q1,y1,p1⟩|⟨l1,a1,vs1,its1,rfl,rfl,rfl,q1,y1,p1⟩<;>rcases h2.shape ok hE r2 with⟨rfl,rfl⟩|⟨b2,rfl,rfl⟩|⟨i2,t2,rfl,rfl⟩|⟨x2,t2,rfl,rfl⟩|⟨l2,a2,vs2,its2,rfl,rfl,rfl,q2,y2,p2⟩|⟨l2,a2,vs2,its2,rfl,rfl,rfl,q2,y2,p2⟩;exact .none_none;exact .none_bool b2;exact .none_int i2 t2;exact .none_str x2 t2;exact .none_list p2 hu;exact .none_tuple p2 hu;exact .bool_none b1;exact .bool_bool b1 b2;exact .bool_int b1 i2 t2;exact .bool_str b1 x2 t2;exact .bool_list b1 p2 hu;exact .bool_tuple b1 p2 hu;exact .int_none i1 t1;exact .int_bool i1 t1 b2;exact .int_int i1 t1 i2 t2;exact .int_str i1 t1 x2 t2;exact .int_list i1 t1 p2 hu;exact .int_tuple i1 t1 p2 hu;exact .str_none x1 t1;exact .str_bool x1 t1 b2;exact .str_int x1 t1 i2 t2;exact .str_str x1 t1 x2 t2;exact .str_list x1 t1 p2 hu;exact .str_tuple x1 t1 p2 hu;exact .list_none p1 hu;exact .list_bool b2 p1 hu;exact .list_int i2 t2 p1 hu;exact .list_str x2 t2 p1 hu;exact n9 ok hn hE hu q1 q2 y1 y2 p1 p2 rec;exact .list_tuple p1 p2 hu;exact .tuple_none p1 hu;exact .tuple_bool b2 p1 hu;exact .tuple_int i2 t2 p1 hu;exact .tuple_str x2 t2 p1 hu;exact .tuple_list p1 p2 hu;exact pO ok hn hE hu q1 q2 y1 y2 p1 p2 rec
theorem tL (ok:HOk P w H s.heap)(hu:A.units<cLine)(rec:js H s m m' A n)(hn:d.dep<=n)(hN:n<1000)(hE:e.dep<1000)(h1:Is H m d v)(h2:Is H m' e w')(r1:RelV v u)(r2:RelV w' u') :
 SeqAt.EqAt A s u u' (dL d e):=by
 rcases h1.shape ok (by lia) r1 with⟨rfl,rfl⟩|⟨b1,rfl,rfl⟩|⟨i1,t1,rfl,rfl⟩|⟨x1,t1,rfl,rfl⟩|⟨l1,a1,vs1,its1,rfl,rfl,rfl,q1,y1,p1⟩|⟨l1,a1,vs1,its1,rfl,rfl,rfl,q1,y1,p1⟩<;>rcases h2.shape ok hE r2 with⟨rfl,rfl⟩|⟨b2,rfl,rfl⟩|⟨i2,t2,rfl,rfl⟩|⟨x2,t2,rfl,rfl⟩|⟨l2,a2,vs2,its2,rfl,rfl,rfl,q2,y2,p2⟩|⟨l2,a2,vs2,its2,rfl,rfl,rfl,q2,y2,p2⟩;exact .same _;exact .none_bool b2;exact .none_int i2 t2;exact .none_str x2 t2;exact .none_list p2 hu;exact .none_tuple p2 hu;exact .bool_none b1;exact .bool_bool b1 b2;exact .bool_int b1 i2 t2;exact .bool_str b1 x2 t2;exact .bool_list b1 p2 hu;exact .bool_tuple b1 p2 hu;exact .int_none i1 t1;exact .int_bool i1 t1 b2;exact .int_int i1 t1 i2 t2;exact .int_str i1 t1 x2 t2;exact .int_list i1 t1 p2 hu;exact .int_tuple i1 t1 p2 hu;exact .str_none x1 t1;exact .str_bool x1 t1 b2;exact .str_int x1 t1 i2 t2;exact .str_str x1 t1 x2 t2;exact .str_list x1 t1 p2 hu;exact .str_tuple x1 t1 p2 hu;exact .list_none p1 hu;exact .list_bool b2 p1 hu;exact .list_int i2 t2 p1 hu;exact .list_str x2 t2 p1 hu;exact pP (kN ok hn hE hu q1 q2 y1 y2 p1 p2 rec) (fun z=>by subst z;rw[Is.inj h1 h2];exact cz _);exact .list_tuple p1 p2 hu;exact .tuple_none p1 hu;exact .tuple_bool b2 p1 hu;exact .tuple_int i2 t2 p1 hu;exact .tuple_str x2 t2 p1 hu;exact .tuple_list p1 p2 hu;exact pP (mZ ok hn hE hu q1 q2 y1 y2 p1 p2 rec) (fun z=>by subst z;rw[Is.inj h1 h2];exact cz _)
theorem xP (ok:HOk P w H s.heap):∀(n:Nat)(A:Ox){d e:D}{v w':V}{u u':Ow},A.units+n<cLine->n<1000->d.dep<=n->e.dep<1000->Is H m d v->Is H m' e w'->RelV v u->RelV w' u'->SeqAt.EqAt A s u u' (dL d e)
 |0,A,d,e,v,w',u,u',hu,hN,hn,hE,h1,h2,r1,r2=>tL ok (by lia) (fun d e v w u u' hd=>absurd hd (by lia)) hn hN hE h1 h2 r1 r2
 |n+1,A,d,e,v,w',u,u',hu,hN,hn,hE,h1,h2,r1,r2=>tL ok (by lia) (fun d e v w u u' hd he i1 i2 r1 r2=>xP ok n A.in1 (by show A.units+1+n<cLine;lia) (by lia) (by lia) he i1 i2 r1 r2) hn hN hE h1 h2 r1 r2
theorem xQ (ok:HOk P w H s.heap)(hu:A.units+n<cLine)(hN:n<1000):js H s m m' A n:=fun d e v w u u' hd he i1 i2 r1 r2=>xP ok (n-1) A.in1 (by show A.units+1+(n-1)<cLine;lia) (by lia) (by lia) he i1 i2 r1 r2
end
noncomputable abbrev St:=L2.St
inductive Res (α:Type) where
 |stuck|ok (a:α)|exc (c:Str)
noncomputable def Res.bind {α β:Type}:Res α->(α->Res β)->Res β
 | .stuck,_=>.stuck
 | .exc c,_=>.exc c
 | .ok a,k=>k a
@[simp] theorem Res.bind_ok {α β:Type}(a:α)(k:α->Res β):(Res.ok a).bind k=k a:=rfl
@[simp] theorem Res.bind_exc {α β:Type}(c:Str)(k:α->Res β):(Res.exc c:Res α).bind k=.exc c:=rfl
inductive Kd where
 |no|tr (d:D)|ds (d:D)
inductive Sl where
 |val (d:D) (fr:Bool)|own (ds:List D) (fr:Bool)|tre (d:D)|mes (d:D)|nst (ks:List (List K0))
noncomputable abbrev En:=List (Option Sl)
inductive R where
 |val (d:D) (fr:Bool) (al:List Nat)|new (ds:List D) (fr:Bool)|fre (d:D)
noncomputable def R.d:R->D
 | .val d _ _=>d
 | .new ds _=>.lst ds
 | .fre d=>d
noncomputable def R.fr:R->Bool
 | .val _ f _=>f
 | .new _ f=>f
 | .fre _=>true
noncomputable def R.al:R->List Nat
 | .val _ _ al=>al
 | .new _ _=>[]
 | .fre _=>[]
noncomputable def mkV (d:D)(fr:Bool)(al:List Nat):R:=if d.flat then .val d true [] else .val d fr al
structure Gd where
 H₀:Hp
 Ma:Addr->Prop
 Z:Addr->Prop
 root:Option V
 rooT:Option V
noncomputable abbrev GF (H:Hp)(Ma:Addr->Prop):Gd:=⟨H,Ma,fun _=>False,none,none⟩
def MuZ (g:Gd)(H:Hp)(a:Addr):Prop:=Mu H a\/(g.Z a/\∃ o u,H a=some (.frz o u))
theorem MuZ.same (h:MuZ g H a)(s:∀ o,H a=some o->H' a=some o):MuZ g H' a:=h.imp (fun z=>z.same s) fun⟨z,o,u,e⟩=>⟨z,o,u,s _ e⟩
def msk (g:Gd)(M:Addr->Prop)(fr:Bool)(a:Addr):Prop:=M a/\(fr=true->g.H₀ a=none)
noncomputable abbrev Pr:=Nat->Addr->Prop
def vmsk (g:Gd)(M:Addr->Prop)(fr:Bool)(ρ:Pr)(al:List Nat)(a:Addr):Prop:=msk g M fr a\/∃ i,i∈al/\ρ i a
mutual
noncomputable def IsSh (H:Hp)(m:Addr->Prop):D->V->Prop
 | .tup ds,v=>∃ a vs,v=.ref a/\H a=some (.tup vs)/\IsShs H m ds vs
 | .lst _,v=>∃ a vs,v=.ref a/\H a=some (.lst vs)/\m a
 |_,_=>True
noncomputable def IsShs (H:Hp)(m:Addr->Prop):List D->List V->Prop
 | [],_=>True
 |d::ds,vs=>∃ v r,vs=v::r/\IsSh H m d v/\IsShs H m ds r
end
def Dst (H:Hp)(T:Addr->Prop)(v:V):Prop:=∃(a:Addr)(vs:List V),v=.ref a/\T a/\(H a=some (.lst vs)\/(∃ kvs,H a=some (.dK kvs)/\vs=kvs.map Prod.snd)\/(H a=some (.dT [])/\vs=[]))/\V.ref a∉vs/\∀(i j:Nat)(b:Addr),vs[i]?=some (V.ref b)->vs[j]?=some (V.ref b)->i=j
theorem Dst.mono (kp:∀ a o,T a->H a=some o->H' a=some o)(mm:∀ a,T a->T' a)(h:Dst H T v):Dst H' T' v:=by obtain⟨a,vs,e,ta,h1,h2⟩:=h;exact⟨a,vs,e,mm a ta,h1.imp (kp a _ ta) (.imp (fun⟨kvs,q,z⟩=>⟨kvs,kp a _ ta q,z⟩) fun⟨q,z⟩=>⟨kp a _ ta q,z⟩),h2⟩
noncomputable def KdOk (H:Hp)(T:Addr->Prop)(v:V):Kd->Prop
 | .no=>True
 | .tr d=>Is H T d v
 | .ds d=>Is H T d v/\Dst H T v
theorem KdOk.mono (kp:∀ a o,H a=some o->(T a\/fixd o)->H' a=some o)(h:KdOk H T v k):KdOk H' T v k:=by
 cases k with
 |no=>exact h
 |tr d=>exact Is.mono kp (fun _ _ _ z=>z) h
 |ds d=>exact⟨Is.mono kp (fun _ _ _ z=>z) h.1,h.2.mono (fun a o z e=>kp a o e (.inl z)) fun _ z=>z⟩
noncomputable def Gd.rt (g:Gd)(n:Nat):Option V:=if n=0 then g.root else g.rooT
theorem kP (kp:∀ a o,H a=some o->(T a\/fixd o)->H' a=some o)(h:GB H T v ks):GB H' T v ks:=xI (fun b o z e=>kp b o e (.inl z)) (fun b vs e=>kp b _ e (.inr True.intro)) h
noncomputable def SlOk (g:Gd)(M T:Addr->Prop)(H:Hp)(v:V):Sl->Prop
 | .val d fr=>Is H (msk g M fr) d v
 | .own ds fr=>∃ a vs,v=.ref a/\H a=some (.lst vs)/\(∀ b,T b↔b=a)/\IsAll H (msk g M fr) ds vs
 | .tre d=>Is H T d v
 | .mes d=>IsSh H T d v
 | .nst ks=>GB H T v ks
noncomputable def Sl.isO:Sl->Bool
 | .val _ _=>false
 |_=>true
noncomputable def isOwn (env:En)(j:Nat):Bool:=match env[j]? with
 |some (some sl)=>sl.isO
 |_=>false
structure Rep (g:Gd) (M:Addr->Prop) (ρ:Pr) (env:En) (σ:St) (H:Hp):Prop where
 same:Same g.H₀ H
 froz:∀ a,M a->H a≠none
 inn:∀ a,M a->g.H₀ a=none\/g.Ma a
 fl:∀ a,M a->g.H₀ a=none->MuZ g H a
 slot:∀(i:Nat)(sl:Sl),env[i]?=some (some sl)->∃ v,σ[i]?=some (some v)/\SlOk g M (ρ i) H v sl
 priv:∀(i:Nat)(a:Addr),ρ i a->¬ M a/\g.H₀ a=none/\Mu H a
 apart:∀(i j:Nat)(a:Addr),ρ i a->ρ j a->i=j
 ow:∀(i:Nat)(a:Addr),ρ i a->isOwn env i=true
 len:env.length=σ.length
 zz:∀ a,g.Z a->H a≠none
noncomputable def ROk (g:Gd)(M:Addr->Prop)(ρ:Pr)(H0 H:Hp)(v:V):R->Prop
 | .val d fr al=>Is H (vmsk g M fr ρ al) d v
 | .new ds fr=>∃ a vs,v=.ref a/\H a=some (.lst vs)/\¬ M a/\H0 a=none/\(∀ i,¬ ρ i a)/\IsAll H (msk g M fr) ds vs
 | .fre d=>∃ T:Addr->Prop,(∀ a,T a->¬ M a/\H0 a=none/\Mu H a/\∀ i,¬ ρ i a)/\Is H T d v
structure Ext (M:Addr->Prop) (H:Hp) (M':Addr->Prop) (H':Hp):Prop where
 m:∀ a,M a->M' a
 h:Same H H'
 n:∀ a,M' a->M a\/H a=none
theorem Ext.refl (M:Addr->Prop)(H:Hp):Ext M H M H:=⟨fun _ z=>z,Same.refl H,fun _ z=>.inl z⟩
theorem Ext.trans {M M1 M2:Addr->Prop}(a:Ext M H M1 H1)(b:Ext M1 H1 M2 H2):Ext M H M2 H2:=⟨fun x z=>b.m x (a.m x z),a.h.trans b.h,fun x z=>(b.n x z).elim (a.n x) fun w=>.inr (a.h.free w)⟩
section
variable {g:Gd}{M M':Addr->Prop}{ρ:Pr}{env:En}{σ:St}{H H' H0:Hp}{fr:Bool}{al:List Nat}
mutual
theorem IsSh.mono (kp:∀ a o,H a=some o->fixd o->H' a=some o)(kl:∀ a vs,m a->H a=some (.lst vs)->∃ vs',H' a=some (.lst vs'))(mm:∀ a,m a->m' a):∀{d:D}{v:V},IsSh H m d v->IsSh H' m' d v
 | .non,_,h=>h
 | .bl _,_,h=>h
 | .int _,_,h=>h
 | .str _,_,h=>h
 | .tup ds,_,h=>by obtain⟨a,vs,e,h1,h2⟩:=h;exact⟨a,vs,e,kp a _ h1 True.intro,IsShs.mono kp kl mm h2⟩
 | .lst ds,_,h=>by obtain⟨a,vs,e,h1,h2⟩:=h;obtain⟨vs',h3⟩:=kl a vs h2 h1;exact⟨a,vs',e,h3,mm a h2⟩
 | .dic _ _,_,h=>h
theorem IsShs.mono (kp:∀ a o,H a=some o->fixd o->H' a=some o)(kl:∀ a vs,m a->H a=some (.lst vs)->∃ vs',H' a=some (.lst vs'))(mm:∀ a,m a->m' a):∀{ds:List D}{vs:List V},IsShs H m ds vs->IsShs H' m' ds vs
 | [],_,h=>h
 |d::ds,_,h=>by obtain⟨v,r,e,h1,h2⟩:=h;exact⟨v,r,e,IsSh.mono kp kl mm h1,IsShs.mono kp kl mm h2⟩
end
theorem msk.mono (mm:∀ a,M a->M' a)(h:msk g M fr a):msk g M' fr a:=⟨mm a h.1,h.2⟩
theorem vmsk.mono (mm:∀ a,M a->M' a)(h:vmsk g M fr ρ al a):vmsk g M' fr ρ al a:=h.imp (msk.mono mm) id
theorem Is.ext (e:Ext M H M' H')(h:Is H (vmsk g M fr ρ al) d v):Is H' (vmsk g M' fr ρ al) d v:=h.mono (fun a o q _=>e.h a o q) fun _ _ _ z=>z.mono e.m
theorem IsAll.ext (e:Ext M H M' H')(h:IsAll H (vmsk g M fr ρ al) ds vs):IsAll H' (vmsk g M' fr ρ al) ds vs:=h.mono (fun a o q _=>e.h a o q) fun _ _ _ z=>z.mono e.m
theorem SlOk.weak (mm:∀ a,M a->M' a)(h:SlOk g M T H v sl):SlOk g M' T H v sl:=by
 cases sl with
 |val d fr=>exact Is.weak (fun b z=>msk.mono mm z) h
 |own ds fr=>obtain⟨b,vs,rfl,h1,h2,h4⟩:=h;exact⟨b,vs,rfl,h1,h2,IsAll.weak (fun b z=>msk.mono mm z) h4⟩
 |tre d=>exact h
 |mes d=>exact h
 |nst ks=>exact h
theorem SlOk.same (s:Same H H')(h:SlOk g M T H v sl):SlOk g M T H' v sl:=by
 cases sl with
 |val d fr=>exact Is.same s h
 |own ds fr=>obtain⟨b,vs,rfl,h1,h2,h4⟩:=h;exact⟨b,vs,rfl,s _ _ h1,h2,IsAll.same s h4⟩
 |tre d=>exact Is.same s h
 |mes d=>exact IsSh.mono (fun a o e _=>s a o e) (fun a vs _ e=>⟨vs,s _ _ e⟩) (fun _ z=>z) h
 |nst ks=>exact kP (fun a o e _=>s a o e) h
theorem Rep.moreT {T:Addr->Prop}(r:Rep g M ρ env σ H)(ht:∀ a,T a->Mu H a/\g.H₀ a=none/\∀ i,¬ ρ i a):Rep g (fun b=>M b\/T b) ρ env σ H where
 same:=r.same
 froz:=fun b hb=>hb.elim (r.froz b) fun e=>(ht b e).1.some
 inn:=fun b hb=>hb.elim (r.inn b) fun e=>.inl (ht b e).2.1
 fl:=fun b hb h0=>hb.elim (fun z=>r.fl b z h0) fun e=>.inl (ht b e).1
 slot:=fun i sl e=>by obtain⟨v,ev,s⟩:=r.slot i sl e;exact⟨v,ev,SlOk.weak (fun _=>.inl) s⟩
 priv:=fun i a h=>⟨fun z=>z.elim (r.priv i a h).1 fun z=>(ht a z).2.2 i h,(r.priv i a h).2⟩
 apart:=r.apart
 ow:=r.ow
 len:=r.len
 zz:=r.zz
theorem Rep.more {a:Addr}(r:Rep g M ρ env σ H)(ha:H a=some (.lst ws))(h0:g.H₀ a=none)(no:∀ i,¬ ρ i a):Rep g (fun b=>M b\/b=a) ρ env σ H:=r.moreT fun b e=>by subst e;exact⟨Mu.lst ha,h0,no⟩
theorem Rep.grow (r:Rep g M ρ env σ H)(s:Same H H'):Rep g M ρ env σ H' where
 same:=r.same.trans s
 froz:=fun a ha e=>by
  cases q:H a with
  |none=>exact r.froz a ha q
  |some o=>rw[s a o q]at e;cases e
 inn:=r.inn
 fl:=fun a ha h0=>(r.fl a ha h0).same fun o e=>s a o e
 slot:=fun i sl e=>by obtain⟨v,ev,k⟩:=r.slot i sl e;exact⟨v,ev,SlOk.same s k⟩
 priv:=fun i a h=>let ⟨a1,a2,a3⟩:=r.priv i a h;⟨a1,a2,a3.same fun o e=>s a o e⟩
 apart:=r.apart
 ow:=r.ow
 len:=r.len
 zz:=fun a z e=>by
  cases q:H a with
  |none=>exact r.zz a z q
  |some o=>rw[s a o q]at e;cases e
theorem Rep.free (r:Rep g M ρ env σ H)(h:H a=none):g.H₀ a=none/\¬ M a/\∀ i,¬ ρ i a:=by refine⟨r.same.free h,fun z=>r.froz a z h,fun i o=>?_⟩;exact(r.priv i a o).2.2.some h
theorem aP (h:H a=none):Same H (aJ H a o):=fun b u e=>by rw[ao (aj e h)];exact e
theorem ROk.is (rep:Rep g M ρ env σ H)(x:Ext M0 H0 M H)(h0:Same g.H₀ H0)(h:ROk g M ρ H0 H v r):∃ M',Ext M0 H0 M' H/\(∀ a,M a->M' a)/\Rep g M' ρ env σ H/\Is H (vmsk g M' r.fr ρ r.al) r.d v:=by
 cases r with
 |val d fr al=>exact⟨M,x,fun _ z=>z,rep,h⟩
 |new ds fr=>obtain⟨a,vs,rfl,h1,h2,h3,h4,h5⟩:=h;have z0:g.H₀ a=none:=h0.free h3;exact⟨fun b=>M b\/b=a,⟨fun b z=>.inl (x.m b z),x.h,fun b z=>z.elim (x.n b) fun e=>.inr (e▸h3)⟩,fun _=>.inl,rep.more h1 z0 h4,a,vs,rfl,.inl ⟨h1,.inl ⟨.inr rfl,fun _=>z0⟩⟩,IsAll.weak (fun b z=>.inl (msk.mono (fun _=>.inl) z)) h5⟩
 |fre d=>obtain⟨T,ht,is⟩:=h;exact⟨fun b=>M b\/T b,⟨fun b z=>.inl (x.m b z),x.h,fun b z=>z.elim (x.n b) fun e=>.inr (ht b e).2.1⟩,fun _=>.inl,rep.moreT fun a z=>let ⟨a1,a2,a3,a4⟩:=ht a z;⟨a3,h0.free a2,a4⟩,Is.weak (fun b z=>.inl ⟨.inr z,fun _=>h0.free (ht b z).2.1⟩) is⟩
theorem ROk.mkV (h:Is H (vmsk g M fr ρ al) d v):ROk g M ρ H0 H v (mkV d fr al):=by
 unfold L3.mkV;split
 .exact Is.flat (by assumption) h
 .exact h
theorem ROk.back (s:Same H1 H0)(h:ROk g M ρ H0 H v r):ROk g M ρ H1 H v r:=by
 cases r with
 |val d fr al=>exact h
 |new ds fr=>obtain⟨a,vs,rfl,h1,h2,h3,h4,h5⟩:=h;exact⟨a,vs,rfl,h1,h2,s.free h3,h4,h5⟩
 |fre d=>obtain⟨T,ht,is⟩:=h;exact⟨T,fun a z=>let ⟨a1,a2,a3⟩:=ht a z;⟨a1,s.free a2,a3⟩,is⟩
end
def AZ (mg:Str->Option Ow)(E:XK)(g:Gd)(c:Str):Prop:=∀ cls dx H',mg c=some cls->Same g.H₀ H'->E cls dx H'
section
variable (mg:Str->Option Ow)(E:XK)(g:Gd)(M:Addr->Prop)(ρ:Pr)(env:En)(σ:St)(H:Hp)
noncomputable def PostE (Q:VK):Res R->Prop
 | .stuck=>False
 | .exc c=>AZ mg E g c
 | .ok r=>∀ v M' H',Ext M H M' H'->Rep g M' ρ env σ H'->ROk g M' ρ H H' v r->Q v H'
noncomputable def aQ (rs:List R):Bool:=rs.all R.fr
noncomputable def bg (rs:List R):List Nat:=rs.flatMap R.al
noncomputable def PostA (Q:List V->Hp->Prop):Res (List R)->Prop
 | .stuck=>False
 | .exc c=>AZ mg E g c
 | .ok rs=>∀ vs M' H',Ext M H M' H'->Rep g M' ρ env σ H'->IsAll H' (vmsk g M' (aQ rs) ρ (bg rs)) (rs.map R.d) vs->Q vs H'
noncomputable def PostT (Q:Bool->Hp->Prop):Res Bool->Prop
 | .stuck=>False
 | .exc c=>AZ mg E g c
 | .ok b=>∀ M' H',Ext M H M' H'->Rep g M' ρ env σ H'->Q b H'
end
def Snd (mg:Str->Option Ow)(E:XK)(t:TE)(f:En->Res R):Prop:=∀ g M ρ env σ H Q,Rep g M ρ env σ H->PostE mg E g M ρ env σ H Q (f env)->t σ H Q
def SndA (mg:Str->Option Ow)(E:XK)(t:TA)(f:En->Res (List R)):Prop:=∀ g M ρ env σ H Q,Rep g M ρ env σ H->PostA mg E g M ρ env σ H Q (f env)->t σ H Q
def SndT (mg:Str->Option Ow)(E:XK)(t:TT)(f:En->Res Bool):Prop:=∀ g M ρ env σ H Q,Rep g M ρ env σ H->PostT mg E g M ρ env σ H Q (f env)->t σ H Q
def PD (X:Cx)(E:XK)(e:Expr)(f:En->Res R):Prop:=∃ t,PE X e t/\Snd X.mg E t f
def vA (X:Cx)(E:XK)(es:List Expr)(f:En->Res (List R)):Prop:=∃ t,PA X es t/\SndA X.mg E t f
def vD (X:Cx)(E:XK)(e:Expr)(f:En->Res Bool):Prop:=∃ t,PT X e t/\SndT X.mg E t f
def PWD (X:Cx)(E:XK)(e:Expr)(f:En->Res Bool):Prop:=∃ t,PW X e t/\SndT X.mg E t f
theorem PWD.pt (h:PWD X E e f):vD X E e f:=let ⟨t,a,b⟩:=h;⟨t,a.pt,b⟩
section
variable {mg:Str->Option Ow}{E:XK}{g:Gd}{M M':Addr->Prop}{ρ:Pr}{env:En}{σ:St}{H H':Hp}
theorem PostE.ext (e:Ext M H M' H')(p:PostE mg E g M ρ env σ H Q r):PostE mg E g M' ρ env σ H' Q r:=by
 cases r with
 |stuck=>exact p
 |exc c=>exact p
 |ok r=>exact fun v M2 H2 e2 rep2 ro=>p v M2 H2 (e.trans e2) rep2 (ro.back e.h)
theorem PostA.ext (e:Ext M H M' H')(p:PostA mg E g M ρ env σ H Q r):PostA mg E g M' ρ env σ H' Q r:=by
 cases r with
 |stuck=>exact p
 |exc c=>exact p
 |ok r=>exact fun v M2 H2 e2=>p v M2 H2 (e.trans e2)
theorem PostT.ext (e:Ext M H M' H')(p:PostT mg E g M ρ env σ H Q r):PostT mg E g M' ρ env σ H' Q r:=by
 cases r with
 |stuck=>exact p
 |exc c=>exact p
 |ok r=>exact fun M2 H2 e2=>p M2 H2 (e.trans e2)
theorem PostE.val (p:PostE mg E g M ρ env σ H Q (.ok (mkV d fr al)))(rep:Rep g M ρ env σ H)(h:Is H (vmsk g M fr ρ al) d v):Q v H:=p v M H (Ext.refl M H) rep (ROk.mkV h)
theorem PostE.new (p:PostE mg E g M ρ env σ H Q (.ok (.new ds fr)))(rep:Rep g M ρ env σ H)(ha:H a=none)(h:IsAll H (msk g M fr) ds vs):Q (.ref a) (aJ H a (.lst vs)):=by have s:Same H (aJ H a (.lst vs)):=aP ha;obtain⟨h0,hm,ho⟩:=rep.free ha;exact p _ M _ ⟨fun _ z=>z,s,fun _ z=>.inl z⟩ (rep.grow s) ⟨a,vs,rfl,am,hm,ha,ho,IsAll.same s h⟩
theorem PostE.tup (p:PostE mg E g M ρ env σ H Q (.ok (mkV (.tup ds) fr al)))(rep:Rep g M ρ env σ H)(ha:H a=none)(h:IsAll H (vmsk g M fr ρ al) ds vs):Q (.ref a) (aJ H a (.tup vs)):=by have s:Same H (aJ H a (.tup vs)):=aP ha;exact p _ M _ ⟨fun _ z=>z,s,fun _ z=>.inl z⟩ (rep.grow s) (ROk.mkV ⟨a,vs,rfl,am,IsAll.same s h⟩)
theorem Snd.one {t:TE}{f:En->Res R}(h:Snd mg E t f)(rep:Rep g M ρ env σ H){α:Type}{K:R->Res α}{P:(M:Addr->Prop)->(H:Hp)->Res α->Prop}{Q:VK}
 (hp:P M H ((f env).bind K)) (hs:∀ M H,P M H .stuck->False) (hx:∀ M H c,P M H (.exc c)->AZ mg E g c) (he:∀ M H M' H' r,Ext M H M' H'->P M H r->P M' H' r)
 (k:∀ r v M' H',Ext M H M' H'->Rep g M' ρ env σ H'->Is H' (vmsk g M' r.fr ρ r.al) r.d v->P M' H' (K r)->Q v H'):t σ H Q:=by
 refine h g M ρ env σ H Q rep ?_;cases e:f env with
 |stuck=>rw[e]at hp;exact hs _ _ hp
 |exc c=>rw[e]at hp;exact hx _ _ c hp
 |ok r=>rw[e]at hp;intro v M1 H1 e1 rep1 ro;obtain⟨M2,e2,_,rep2,is⟩:=ro.is rep1 e1 rep.same;exact k r v M2 H1 e2 rep2 is (he _ _ _ _ _ e2 hp)
theorem Snd.oneE {f:En->Res R}(h:Snd mg E t f)(rep:Rep g M ρ env σ H){K:R->Res R}(hp:PostE mg E g M ρ env σ H Q' ((f env).bind K))
 (k:∀ r v M' H',Ext M H M' H'->Rep g M' ρ env σ H'->Is H' (vmsk g M' r.fr ρ r.al) r.d v->PostE mg E g M' ρ env σ H' Q' (K r)->Q v H'):t σ H Q:=
 h.one rep (P:=fun M H r=>PostE mg E g M ρ env σ H Q' r) hp (fun _ _ z=>z) (fun _ _ _ z=>z) (fun _ _ _ _ _ e p=>p.ext e) k
theorem Snd.oneA {f:En->Res R}(h:Snd mg E t f)(rep:Rep g M ρ env σ H){K:R->Res (List R)}{Q':List V->Hp->Prop}(hp:PostA mg E g M ρ env σ H Q' ((f env).bind K))
 (k:∀ r v M' H',Ext M H M' H'->Rep g M' ρ env σ H'->Is H' (vmsk g M' r.fr ρ r.al) r.d v->PostA mg E g M' ρ env σ H' Q' (K r)->Q v H'):t σ H Q:=
 h.one rep (P:=fun M H r=>PostA mg E g M ρ env σ H Q' r) hp (fun _ _ z=>z) (fun _ _ _ z=>z) (fun _ _ _ _ _ e p=>p.ext e) k
theorem Snd.oneT {f:En->Res R}(h:Snd mg E t f)(rep:Rep g M ρ env σ H){K:R->Res Bool}{Q':Bool->Hp->Prop}(hp:PostT mg E g M ρ env σ H Q' ((f env).bind K))
 (k:∀ r v M' H',Ext M H M' H'->Rep g M' ρ env σ H'->Is H' (vmsk g M' r.fr ρ r.al) r.d v->PostT mg E g M' ρ env σ H' Q' (K r)->Q v H'):t σ H Q:=
 h.one rep (P:=fun M H r=>PostT mg E g M ρ env σ H Q' r) hp (fun _ _ z=>z) (fun _ _ _ z=>z) (fun _ _ _ _ _ e p=>p.ext e) k
theorem Snd.twoE {fa fb:En->Res R}(ha:Snd mg E ta fa)(hb:Snd mg E tb fb)(rep:Rep g M ρ env σ H){K:R->R->Res R}{S:V->V->Hp->Prop}
 (hp:PostE mg E g M ρ env σ H Q' ((fa env).bind fun ra=>(fb env).bind fun rb=>K ra rb))
 (k:∀ ra rb x y M' H',Rep g M' ρ env σ H'->Is H' (vmsk g M' ra.fr ρ ra.al) ra.d x->Is H' (vmsk g M' rb.fr ρ rb.al) rb.d y->PostE mg E g M' ρ env σ H' Q' (K ra rb)->S x y H') :
 ta σ H fun x H1=>tb σ H1 fun y H2=>S x y H2:=
 ha.oneE rep hp fun ra x M1 H1 e1 rep1 i1 p1=>hb.oneE rep1 p1 fun rb y M2 H2 e2 rep2 i2 p2=>k ra rb x y M2 H2 rep2 (i1.ext e2) i2 p2
end
noncomputable def lim:Nat:=1000000
theorem eh (h:n<=lim):n<=sizeLine:=by rw[K9];unfold lim at h;lia
theorem iT (h:n<lim):n<sizeLine:=by rw[K9];unfold lim at h;lia
noncomputable def iU (ds:List D)(fr:Bool)(al:List Nat):R:=if D.flats ds then .new ds true else if al.isEmpty then .new ds fr else .val (.lst ds) fr al
section
variable {mg:Str->Option Ow}{E:XK}{g:Gd}{M M':Addr->Prop}{ρ:Pr}{env:En}{σ:St}{H H':Hp}
theorem vmsk.nil (h:vmsk g M fr ρ [] a):msk g M fr a:=h.elim id fun⟨_,z,_⟩=>absurd z (by simp)
theorem PostE.lst (p:PostE mg E g M ρ env σ H Q (.ok (iU ds fr al)))(rep:Rep g M ρ env σ H)(ha:H a=none)(h:IsAll H (vmsk g M fr ρ al) ds vs):Q (.ref a) (aJ H a (.lst vs)):=by
 unfold iU at p;by_cases hf:D.flats ds=true
 .rw[Kf hf]at p;exact p.new rep ha (IsAll.flat hf h)
 .rw[Kh hf]at p;cases al with
  |nil=>exact PostE.new (p:=p) rep ha (IsAll.weak (fun _ z=>z.nil) h)
  |cons i al=>have p:PostE mg E g M ρ env σ H Q (.ok (.val (.lst ds) fr (i::al))):=p;have s:Same H (aJ H a (.lst vs)):=aP ha;obtain⟨h0,hm,ho⟩:=rep.free ha;refine p _ (fun b=>M b\/b=a) _ ⟨fun _=>.inl,s,fun b z=>z.imp id fun(e:b=a)=>by rw[e];exact ha⟩ ((rep.grow s).more am h0 ho) ⟨a,vs,rfl,.inl ⟨am,.inl ⟨.inr rfl,fun _=>h0⟩⟩,?_⟩;exact(IsAll.same s h).weak fun b z=>z.mono fun _=>.inl
theorem Is.rd (h:Is H m (.lst ds) v):∃ a vs,v=.ref a/\Rd H a (.lst vs)/\IsAll H m ds vs:=by obtain⟨a,vs,e,h1,h2⟩:=h;exact⟨a,vs,e,h1.imp (·.1) fun⟨o,z,_⟩=>⟨o,z⟩,h2⟩
end
section
variable {X:Cx}{E:XK}
noncomputable def ag (i:Nat):En->Res R:=fun env=>match env[i]? with
 |some (some (.val d fr))=>.ok (mkV d fr [])
 |some (some (.own ds fr))=>.ok (.val (.lst ds) fr [i])
 |some (some (.tre d))=>.ok (.val d true [i])
 |_=>.stuck
theorem tM:Snd mg E (fB i) (ag i):=by
 intro g M ρ env σ H Q rep p;unfold ag at p;cases e1:env[i]? with
 |none=>rw[e1]at p;exact p.elim
 |some o=>
  cases o with
  |none=>rw[e1]at p;exact p.elim
  |some sl=>
   obtain⟨v,ev,k⟩:=rep.slot i sl e1;rw[e1]at p;refine⟨v,ev,?_⟩;cases sl with
   |val d fr=>exact PostE.val p rep (Is.weak (fun _ z=>.inl z) k)
   |own ds fr=>obtain⟨a,vs,rfl,h1,h2,h4⟩:=k;exact p _ M H (Ext.refl M H) rep ⟨a,vs,rfl,.inl ⟨h1,.inr ⟨i,by simp,(h2 a).mpr rfl⟩⟩,IsAll.weak (fun _ z=>.inl z) h4⟩
   |tre d=>exact p _ M H (Ext.refl M H) rep (Is.weak (fun a z=>.inr ⟨i,by simp,z⟩) k)
   |mes d=>exact p.elim
   |nst ks=>exact p.elim
theorem D7 (h:PE X e (fB i)):PD X E e (ag i):=⟨_,h,tM⟩
noncomputable def vC (d:D):En->Res R:=fun _=>.ok (.val d true [])
theorem xR (h:∀ H m,Is H m d v):Snd mg E (tC v) (vC d):=fun g M ρ env σ H Q rep p=>p v M H (Ext.refl M H) rep (h H _)
theorem aq {i j pos}:PD X E (.Constant (.int i) j pos) (vC (.int i)):=⟨_,wn,xR fun _ _=>rfl⟩
theorem cL {b j pos}:PD X E (.Constant (.bool b) j pos) (vC (.bl b)):=⟨_,FS,xR fun _ _=>rfl⟩
theorem D8 {x j pos}:PD X E (.Constant (.str x) j pos) (vC (.str x)):=⟨_,Dd,xR fun _ _=>rfl⟩
noncomputable def v2 (op:R->R->Res R)(fa fb:En->Res R):En->Res R:=fun env=>(fa env).bind fun ra=>(fb env).bind fun rb=>op ra rb
def lV (X:Cx)(E:XK)(f:Ow->Ow->Sem Ow)(op:R->R->Res R):Prop:=∃ r:R2,OpR X f r/\
 ∀ g M ρ env σ H Q ra rb x y,Rep g M ρ env σ H->Is H (vmsk g M ra.fr ρ ra.al) ra.d x->Is H (vmsk g M rb.fr ρ rb.al) rb.d y->PostE X.mg E g M ρ env σ H Q (op ra rb)->r x y H Q
theorem aw (ho:lV X E (binaryOp op) k)(ha:PD X E a fa)(hb:PD X E b fb):PD X E (.BinOp a op b pos) (v2 k fa fb):=by obtain⟨r,h1,h2⟩:=ho;obtain⟨ta,pa,sa⟩:=ha;obtain⟨tb,pb,sb⟩:=hb;exact⟨_,F3 h1 pa pb,fun g M ρ env σ H Q rep p=>sa.twoE sb rep p fun ra rb x y M' H' rep' i1 i2 p'=>h2 g M' ρ env σ H' Q ra rb x y rep' i1 i2 p'⟩
theorem kQ (ho:lV X E (compareOp op) k)(ha:PD X E a fa)(hb:PD X E b fb)(hm:behindInMarks op b=false):PD X E (.Compare a [op] [b] pos) (v2 k fa fb):=by obtain⟨r,h1,h2⟩:=ho;obtain⟨ta,pa,sa⟩:=ha;obtain⟨tb,pb,sb⟩:=hb;exact⟨_,Ao h1 pa pb hm,fun g M ρ env σ H Q rep p=>sa.twoE sb rep p fun ra rb x y M' H' rep' i1 i2 p'=>h2 g M' ρ env σ H' Q ra rb x y rep' i1 i2 p'⟩
noncomputable def oI (C:Int->Int->Bool)(k:Int->Int->D)(a b:R):Res R:=match a.d,b.d with
 | .int i,.int j=>if C i j then .ok (.val (k i j) true []) else .stuck
 |_,_=>.stuck
theorem pQ {f:Ow->Ow->Sem Ow}{C:Int->Int->Prop}{kV:Int->Int->V}(c:Int->Int->Bool)(k:Int->Int->D)(ho:OpR X f (rI C kV))(hc:∀ i j,c i j=true->C i j)(hk:∀ H m i j,Is H m (k i j) (kV i j)):lV X E f (oI c k):=by
 refine⟨_,ho,fun g M ρ env σ H Q ra rb x y rep i1 i2 p=>?_⟩;unfold oI at p;cases e1:ra.d with
 |int i=>
  rw[e1]at p i1;cases e2:rb.d with
  |int j=>
   rw[e2]at p i2;cases i1;cases i2;by_cases h:c i j=true
   .simp only[h,Mp]at p;exact⟨i,j,rfl,rfl,hc i j h,p _ M H (Ext.refl M H) rep (hk H _ i j)⟩
   .simp only[h]at p;exact p.elim
  |_=>rw[e2]at p;exact p.elim
 |_=>rw[e1]at p;exact p.elim
theorem iV {f:Ow->Ow->Sem Ow}{kV:Int->Int->V}(k:Int->Int->D)(ho:OpR X f (Ag kV))(hk:∀ H m i j,Is H m (k i j) (kV i j)):lV X E f (oI (fun _ _=>true) k):=by refine pQ (C:=fun _ _=>True) (kV:=kV) _ k (fun pins s σ H x y v u Q I rx ry h=>?_) (fun _ _ _=>True.intro) hk;obtain⟨i,j,a,b,_,q⟩:=h;exact ho pins s σ H x y v u Q I rx ry ⟨i,j,a,b,q⟩
noncomputable def D9:R->R->Res R:=oI (fun _ _=>true) fun i j=>.int (i-j)
noncomputable def xS (i j:Int):Bool:=(decide (-(2 ^ 64)<i)&&decide (i<2 ^ 64)) || (decide (-(2 ^ 64)<j)&&decide (j<2 ^ 64))
noncomputable def xT:R->R->Res R:=oI xS fun i j=>.int (i*j)
noncomputable def fG:R->R->Res R:=oI (fun _ j=>decide (0<j)&&decide (j<1073741824)) fun i j=>.int (i / j)
noncomputable def cP:R->R->Res R:=oI (fun _ j=>decide (0<j)) fun i j=>.int (i % j)
theorem D_:lV X E (binaryOp .Sub) D9:=iV _ Du fun _ _ _ _=>rfl
theorem rU:lV X E (binaryOp .Mult) xT:=pQ _ _ Dv (fun i j h=>by simp only[xS,Nx,KQ,LK]at h;exact h) fun _ _ _ _=>rfl
theorem b_:lV X E (binaryOp .FloorDiv) fG:=pQ _ _ An (fun i j h=>by simp only[KQ,LK]at h;exact h) fun _ _ _ _=>rfl
theorem bp:lV X E (binaryOp .Mod) cP:=pQ _ _ Dw (fun i j h=>by simpa using h) fun _ _ _ _=>rfl
noncomputable def wm:R->R->Res R:=oI (fun _ _=>true) fun i j=>.bl (decide (i<j))
noncomputable def FN:R->R->Res R:=oI (fun _ _=>true) fun i j=>.bl (decide (i<=j))
noncomputable def Jh:R->R->Res R:=oI (fun _ _=>true) fun i j=>.bl (decide (j<i))
noncomputable def Ji:R->R->Res R:=oI (fun _ _=>true) fun i j=>.bl (decide (j<=i))
theorem jt:lV X E (compareOp .Lt) wm:=iV _ F4 fun _ _ _ _=>rfl
theorem tO:lV X E (compareOp .LtE) FN:=iV _ F5 fun _ _ _ _=>rfl
theorem GG:lV X E (compareOp .Gt) Jh:=iV _ F6 fun _ _ _ _=>rfl
theorem GH:lV X E (compareOp .GtE) Ji:=iV _ F7 fun _ _ _ _=>rfl
theorem Inv.rdL (I:L2.Inv X pins σ H s)(h:Rd H l (.lst xs)) :
 xs.length<=sizeLine/\∃(its:List Ow)(n:Nat),Vals xs its/\xs.length=its.length/\s.heap.get? l=some { cls:=.type "list",data:=.seq its.toArray n }:=by
 obtain⟨z,its,n,r,e⟩:=(h.ok I.hok:ObjOk X.prog X.w H s.heap l (.lst xs));exact⟨z,its,n,r,r.length,e⟩
noncomputable def GI:R2:=fun x y H Q=>∃ l b xs zs,x=.ref l/\y=.ref b/\Rd H l (.lst xs)/\Rd H b (.lst zs)/\xs.length+zs.length<=sizeLine/\∀ p,H p=none->Q (.ref p) (aJ H p (.lst (xs++zs)))
theorem op_catS:OpR X (binaryOp .Add) GI:=by
 intro pins s σ H x y v u Q I rx ry h;obtain⟨l,b,xs,zs,rfl,rfl,hH,hB,hz,q⟩:=h;cases rx;cases ry;obtain⟨z,its,n,r,hl,e⟩:=Inv.rdL I hH;obtain⟨z2,its2,n2,r2,hl2,e2⟩:=Inv.rdL I hB;refine PySem.P.add_list e e2 ?_ (by rw[Ki,Ki];lia);have ea:its.toArray++its2.toArray=(its++its2).toArray:=by simp
 rw[ea];exact⟨.ref _,_,I.lnew (t':=s.toks) (r.append r2) (by rw[KF];lia),rfl,q _ I.fresh⟩
noncomputable def bT (a b:R):Res R:=match a.d,b.d with
 | .int i,.int j=>.ok (.val (.int (i+j)) true [])
 | .lst xs,.lst ys=>if xs.length+ys.length<=lim then .ok (iU (xs++ys) (a.fr&&b.fr) (a.al++b.al)) else .stuck
 | .tup xs,.tup ys=>if xs.length+ys.length<=lim/\xs≠[] then .ok (mkV (.tup (xs++ys)) (a.fr&&b.fr) (a.al++b.al)) else .stuck
 | .str x,.str y=>if x.length+y.length<=lim then .ok (.val (.str (x++y)) true []) else .stuck
 |_,_=>.stuck
section
variable {g:Gd}{M:Addr->Prop}{ρ:Pr}{env:En}{σ:St}
theorem vmsk.l (h:vmsk g M f1 ρ l1 a):vmsk g M (f1&&f2) ρ (l1++l2) a:=h.imp (fun z=>⟨z.1,fun e=>z.2 (by cases f1<;>simp_all)⟩) fun⟨i,hi,o⟩=>⟨i,by simp[hi],o⟩
theorem vmsk.r (h:vmsk g M f2 ρ l2 a):vmsk g M (f1&&f2) ρ (l1++l2) a:=h.imp (fun z=>⟨z.1,fun e=>z.2 (by cases f2<;>simp_all)⟩) fun⟨i,hi,o⟩=>⟨i,by simp[hi],o⟩
end
theorem aX:lV X E (binaryOp .Add) bT:=by
 refine⟨_,op_add.or (op_catS.or (op_catT.or rh)),fun g M ρ env σ H Q ra rb x y rep i1 i2 p=>?_⟩;unfold bT at p;cases e1:ra.d with
 |int i=>
  rw[e1]at p i1;cases e2:rb.d with
  |int j=>rw[e2]at p i2;cases i1;cases i2;exact .inl ⟨i,j,rfl,rfl,p _ M H (Ext.refl M H) rep rfl⟩
  |_=>rw[e2]at p;exact p.elim
 |lst xs=>
  rw[e1]at p i1;cases e2:rb.d with
  |lst ys=>
   rw[e2]at p i2;obtain⟨a,vs,rfl,h1,h2⟩:=i1.rd;obtain⟨b,ws,rfl,h3,h4⟩:=i2.rd;by_cases hz:xs.length+ys.length<=lim
   .simp only[hz,Mp]at p;refine .inr (.inl ⟨a,b,vs,ws,rfl,rfl,h1,h3,by rw[h2.length,h4.length];exact eh hz,fun q hq=>?_⟩);exact p.lst rep hq ((h2.weak fun _ z=>z.l).append (h4.weak fun _ z=>z.r))
   .simp only[hz,Lh]at p;exact p.elim
  |_=>rw[e2]at p;exact p.elim
 |tup xs=>
  rw[e1]at p i1;cases e2:rb.d with
  |tup ys=>
   rw[e2]at p i2;obtain⟨a,vs,rfl,h1,h2⟩:=i1;obtain⟨b,ws,rfl,h3,h4⟩:=i2;dsimp only at p;by_cases hz:xs.length+ys.length<=lim/\xs≠[]
   .rw[Kf hz]at p;have n1:vs≠[]:=fun z=>hz.2 (by have:=h2.length;rw[z]at this;exact NO this.symm);refine .inr (.inr (.inl ⟨a,b,vs,ws,rfl,rfl,SqT.of h1,SqT.of h3,n1,by rw[h2.length,h4.length];exact eh hz.1,fun z=>?_,fun _ q hq=>?_⟩))
    .have ey:ys=[]:=by have:=h4.length;rw[z]at this;exact NO this.symm
     rw[ey,La]at p;exact p.val rep (Is.weak (d:=.tup xs) (fun _ z=>z.l) ⟨a,vs,rfl,h1,h2⟩)
    .exact p.tup rep hq ((h2.weak fun _ z=>z.l).append (h4.weak fun _ z=>z.r))
   .rw[Kh hz]at p;exact p.elim
  |_=>rw[e2]at p;exact p.elim
 |str xs=>
  rw[e1]at p i1;cases e2:rb.d with
  |str ys=>
   rw[e2]at p i2;cases i1;cases i2;by_cases hz:xs.length+ys.length<=lim
   .simp only[hz,Mp]at p;exact .inr (.inr (.inr ⟨xs,ys,rfl,rfl,eh hz,p _ M H (Ext.refl M H) rep rfl⟩))
   .simp only[hz,Lh]at p;exact p.elim
  |_=>rw[e2]at p;exact p.elim
 |_=>rw[e1]at p;exact p.elim
noncomputable def rV (a b:R):Res R:=if a.d.dep<=50/\b.d.dep<=50 then .ok (.val (.bl (dL a.d b.d)) true []) else .stuck
noncomputable def tP (a b:R):Res R:=if a.d.dep<=50/\b.d.dep<=50 then .ok (.val (.bl (!dL a.d b.d)) true []) else .stuck
noncomputable def Jj:R2:=fun x y H Q=>∃ d e m m',Is H m d x/\Is H m' e y/\(d.dep<=50/\e.dep<=50)/\Q (.bl (dL d e)) H
noncomputable def Jk:R2:=fun x y H Q=>∃ d e m m',Is H m d x/\Is H m' e y/\(d.dep<=50/\e.dep<=50)/\Q (.bl (!dL d e)) H
theorem Ea (hu:X.A.units+64<cLine):OpR X (compareOp .Eq) Jj:=by intro pins s σ H x y v u Q I rx ry h;obtain⟨d,e,m,m',h1,h2,hd,q⟩:=h;exact AX I.hok (by lia) (xQ I.hok (A:=X.A) (n:=50) (by lia) (by lia)) hd.1 (by lia) (by lia) h1 h2 rx ry X.prog X.w X.xe _ ⟨.bl _,H,I,rfl,q⟩
theorem Eb (hu:X.A.units+64<cLine):OpR X (compareOp .NotEq) Jk:=by intro pins s σ H x y v u Q I rx ry h;obtain⟨d,e,m,m',h1,h2,hd,q⟩:=h;exact AY I.hok (by lia) (xQ I.hok (A:=X.A) (n:=50) (by lia) (by lia)) hd.1 (by lia) (by lia) h1 h2 rx ry X.prog X.w X.xe _ ⟨.bl _,H,I,rfl,q⟩
theorem kU (hu:X.A.units+64<cLine):lV X E (compareOp .Eq) rV:=by
 refine⟨_,Ea hu,fun g M ρ env σ H Q ra rb x y rep i1 i2 p=>?_⟩;unfold rV at p;by_cases h:ra.d.dep<=50/\rb.d.dep<=50
 .rw[Kf h]at p;exact⟨_,_,_,_,i1,i2,h,p _ M H (Ext.refl M H) rep rfl⟩
 .rw[Kh h]at p;exact p.elim
theorem m5 (hu:X.A.units+64<cLine):lV X E (compareOp .NotEq) tP:=by
 refine⟨_,Eb hu,fun g M ρ env σ H Q ra rb x y rep i1 i2 p=>?_⟩;unfold tP at p;by_cases h:ra.d.dep<=50/\rb.d.dep<=50
 .rw[Kf h]at p;exact⟨_,_,_,_,i1,i2,h,p _ M H (Ext.refl M H) rep rfl⟩
 .rw[Kh h]at p;exact p.elim
end
section
variable {X:Cx}{E:XK}
noncomputable def D.isNon:D->Bool
 | .non=>true
 |_=>false
noncomputable def Ec (fa:En->Res R):En->Res R:=fun env=>(fa env).bind fun ra=>match ra.d with
 | .bl b=>.ok (.val (.bl (!b)) true [])
 |_=>.stuck
noncomputable def xU (fa fb:En->Res R):En->Res R:=fun env=>(fa env).bind fun ra=>match ra.d with
 | .bl true=>fb env
 | .bl false=>.ok (.val (.bl false) true [])
 |_=>.stuck
noncomputable def IE (fa fb:En->Res R):En->Res R:=fun env=>(fa env).bind fun ra=>match ra.d with
 | .bl true=>.ok (.val (.bl true) true [])
 | .bl false=>fb env
 |_=>.stuck
theorem Ed (ha:PD X E a fa):PD X E (.UnaryOp .Not a pos) (Ec fa):=by
 obtain⟨ta,pa,sa⟩:=ha;refine⟨_,Di pa,fun g M ρ env σ H Q rep p=>sa.oneE rep p fun r v M' H' e rep' i p'=>?_⟩;cases q:r.d with
 |bl b=>rw[q]at i;simp only[q]at p';cases i;exact⟨b,rfl,p' _ M' H' (Ext.refl _ _) rep' rfl⟩
 |_=>simp only[q]at p';exact p'.elim
theorem rW (ha:PD X E a fa):PD X E (.BoolOp op [a] pos) fa:=let ⟨t,pa,sa⟩:=ha;⟨t,Dg pa,sa⟩
theorem rX {aF:List Expr}{fa fb:En->Res R}{pos:Pos}(ha:PD X E a fa)(hb:PD X E (.BoolOp .And (b::aF) pos) fb):PD X E (.BoolOp .And (a::b::aF) pos) (xU fa fb):=by
 obtain⟨ta,pa,sa⟩:=ha;obtain⟨tb,pb,sb⟩:=hb;refine⟨_,Dh pa pb,fun g M ρ env σ H Q rep p=>sa.oneE rep p fun r v M' H' e rep' i p'=>?_⟩;cases q:r.d with
 |bl b=>
  rw[q]at i;simp only[q]at p';cases i;refine⟨b,rfl,?_⟩;cases b with
  |true=>exact o8 (sb g M' ρ env σ H' Q rep' p')
  |false=>exact o7 (p' _ M' H' (Ext.refl _ _) rep' rfl)
 |_=>simp only[q]at p';exact p'.elim
theorem GJ {aF:List Expr}{fa fb:En->Res R}{pos:Pos}(ha:PD X E a fa)(hb:PD X E (.BoolOp .Or (b::aF) pos) fb):PD X E (.BoolOp .Or (a::b::aF) pos) (IE fa fb):=by
 obtain⟨ta,pa,sa⟩:=ha;obtain⟨tb,pb,sb⟩:=hb;refine⟨_,FW pa pb,fun g M ρ env σ H Q rep p=>sa.oneE rep p fun r v M' H' e rep' i p'=>?_⟩;cases q:r.d with
 |bl b=>
  rw[q]at i;simp only[q]at p';cases i;refine⟨b,rfl,?_⟩;cases b with
  |true=>exact o8 (p' _ M' H' (Ext.refl _ _) rep' rfl)
  |false=>exact o7 (sb g M' ρ env σ H' Q rep' p')
 |_=>simp only[q]at p';exact p'.elim
noncomputable def tru:D->Res Bool
 | .non=>.ok false
 | .bl b=>.ok b
 | .int i=>.ok (i != 0)
 | .str y=>if y.length<=lim then .ok ((y.length:Int) != 0) else .stuck
 | .tup ds=>.ok (!ds.isEmpty)
 | .lst ds=>.ok (!ds.isEmpty)
 | .dic _ _=>.stuck
theorem Is.tru (h:Is H m d v)(e:tru d=.ok k):Dz X.K v H k:=by
 cases d with
 |non=>cases h;cases e;rfl
 |bl b=>cases h;cases e;rfl
 |int b=>cases h;cases e;rfl
 |str b=>
  cases h;unfold L3.tru at e;dsimp only at e;by_cases hl:b.length<=lim
  .rw[Kf hl]at e;cases e;exact⟨eh hl,rfl⟩
  .rw[Kh hl]at e;cases e
 |tup ds=>obtain⟨a,vs,rfl,h1,h2⟩:=h;cases e;refine .inr (.inl ⟨vs,SqT.of h1,?_⟩);have:=h2.length;cases ds<;>cases vs<;>simp_all
 |lst ds=>obtain⟨a,vs,rfl,h1,h2⟩:=h.rd;cases e;refine .inl ⟨vs,.inl h1,?_⟩;have:=h2.length;cases ds<;>cases vs<;>simp_all
 |dic ks ds=>cases e
noncomputable def gu (fa:En->Res R):En->Res Bool:=fun env=>(fa env).bind fun ra=>tru ra.d
theorem cK (ha:PD X E a fa)(he:autoParam (∀ whole,isTrue a X.env whole=(do let v <- whole;standAt a.pos;holding [v] (truthy v))) OB._auto_1):vD X E a (gu fa):=by
 obtain⟨ta,pa,sa⟩:=ha;refine⟨_,wC pa he,fun g M ρ env σ H Q rep p=>sa.oneT rep p fun r v M' H' e rep' i p'=>?_⟩;cases q:tru r.d with
 |stuck=>rw[q]at p';exact p'.elim
 |exc c=>exfalso;unfold tru at q;cases z:r.d<;>simp only[z]at q<;>first|cases q|(split at q<;>cases q)
 |ok k=>rw[q]at p';exact⟨k,i.tru q,p' M' H' (Ext.refl _ _) rep'⟩
noncomputable def vB (fa:En->Res R):En->Res Bool:=fun env=>(fa env).bind fun ra=>match ra.d with
 | .bl b=>.ok b
 |_=>.stuck
theorem bv (ho:lV X E (compareOp op) k)(ha:PD X E a fa)(hb:PD X E b fb)(hm:behindInMarks op b=false):vD X E (.Compare a [op] [b] pos) (vB (v2 k fa fb)):=by
 obtain⟨r,h1,h2⟩:=ho;obtain⟨ta,pa,sa⟩:=ha;obtain⟨tb,pb,sb⟩:=hb;have S:Snd X.mg E (Dr r ta tb) (v2 k fa fb):=fun g M ρ env σ H Q rep p=>sa.twoE sb rep p fun ra rb x y M' H' rep' i1 i2 p'=>h2 g M' ρ env σ H' Q ra rb x y rep' i1 i2 p';refine⟨_,s_ h1 pa pb hm,fun g M ρ env σ H Q rep p=>S.oneT rep p fun r v M' H' e rep' i p'=>?_⟩;cases q:r.d with
 |bl b=>rw[q]at i;simp only[q]at p';cases i;exact⟨b,rfl,p' M' H' (Ext.refl _ _) rep'⟩
 |_=>simp only[q]at p';exact p'.elim
noncomputable def fC (fa:En->Res Bool):En->Res Bool:=fun env=>(fa env).bind fun b=>.ok (!b)
noncomputable def vE (fa fb:En->Res Bool):En->Res Bool:=fun env=>(fa env).bind fun b=>if b then .ok true else fb env
section
variable {mg:Str->Option Ow}{g:Gd}{M M':Addr->Prop}{ρ:Pr}{env:En}{σ:St}{H H':Hp}
theorem SndT.oneT {f:En->Res Bool}(h:SndT mg E t f)(rep:Rep g M ρ env σ H){K:Bool->Res Bool}{Q':Bool->Hp->Prop}{Q:Bool->Hp->Prop}(hp:PostT mg E g M ρ env σ H Q' ((f env).bind K))
 (k:∀ b M' H',Ext M H M' H'->Rep g M' ρ env σ H'->PostT mg E g M' ρ env σ H' Q' (K b)->Q b H'):t σ H Q:=by
 refine h g M ρ env σ H Q rep ?_;cases e:f env with
 |stuck=>rw[e]at hp;exact hp
 |exc c=>rw[e]at hp;exact hp
 |ok b=>rw[e]at hp;exact fun M1 H1 e1 rep1=>k b M1 H1 e1 rep1 (PostT.ext e1 hp)
theorem SndT.oneE {f:En->Res Bool}(h:SndT mg E t f)(rep:Rep g M ρ env σ H){K:Bool->Res R}{Q:Bool->Hp->Prop}(hp:PostE mg E g M ρ env σ H Q' ((f env).bind K))
 (k:∀ b M' H',Ext M H M' H'->Rep g M' ρ env σ H'->PostE mg E g M' ρ env σ H' Q' (K b)->Q b H'):t σ H Q:=by
 refine h g M ρ env σ H Q rep ?_;cases e:f env with
 |stuck=>rw[e]at hp;exact hp
 |exc c=>rw[e]at hp;exact hp
 |ok b=>rw[e]at hp;exact fun M1 H1 e1 rep1=>k b M1 H1 e1 rep1 (PostE.ext e1 hp)
end
theorem bo (ha:vD X E a fa):vD X E (.UnaryOp .Not a pos) (fC fa):=by obtain⟨ta,pa,sa⟩:=ha;exact⟨_,Df pa,fun g M ρ env σ H Q rep p=>sa.oneT rep p fun b M' H' e rep' p'=>p' M' H' (Ext.refl _ _) rep'⟩
theorem gd (ha:vD X E a fa):PWD X E (.BoolOp .Or [a] pos) fa:=let ⟨t,pa,sa⟩:=ha;⟨t,De pa,sa⟩
theorem c_ {aF:List Expr}{fa fb:En->Res Bool}{pos:Pos}(ha:vD X E a fa)(hb:PWD X E (.BoolOp .Or (b::aF) pos) fb):PWD X E (.BoolOp .Or (a::b::aF) pos) (vE fa fb):=by
 obtain⟨ta,pa,sa⟩:=ha;obtain⟨tb,pb,sb⟩:=hb;refine⟨_,FT pa pb,fun g M ρ env σ H Q rep p=>sa.oneT rep p fun b M' H' e rep' p'=>?_⟩;cases b with
 |true=>exact o8 (p' M' H' (Ext.refl _ _) rep')
 |false=>exact o7 (sb g M' ρ env σ H' Q rep' p')
noncomputable def IF (fc:En->Res Bool)(fa fb:En->Res R):En->Res R:=fun env=>(fc env).bind fun b=>if b then fa env else fb env
theorem GK (hc:vD X E c fc)(ha:PD X E a fa)(hb:PD X E b fb):PD X E (.IfExp c a b pos) (IF fc fa fb):=by
 obtain⟨tc,pc,sc⟩:=hc;obtain⟨ta,pa,sa⟩:=ha;obtain⟨tb,pb,sb⟩:=hb;refine⟨_,wo pc pa pb,fun g M ρ env σ H Q rep p=>sc.oneE rep p fun b M' H' e rep' p'=>?_⟩;cases b with
 |true=>exact o8 (sa g M' ρ env σ H' Q rep' p')
 |false=>exact o7 (sb g M' ρ env σ H' Q rep' p')
noncomputable def A0 (a b:R):Res R:=match a.d,b.d with
 | .lst xs,.int i=>match atI xs i with
  |some d=>.ok (mkV d a.fr a.al)
  |none=>.stuck
 | .tup xs,.int i=>match atI xs i with
  |some d=>.ok (mkV d a.fr a.al)
  |none=>.stuck
 | .str z,.int i=>if z.length<=lim then (match atI z.cps.toList i with
  |some c=>.ok (.val (.str ⟨#[c]⟩) true [])
  |none=>.stuck) else .stuck
 |_,_=>.stuck
theorem IsAll.atI (h:IsAll H m ds vs)(e:L2.atI ds i=some d):∃ v,L2.atI vs i=some v/\Is H m d v:=by
 unfold L2.atI at e ⊢;rw[h.length];cases q:u7 ds.length i with
 |none=>rw[q]at e;cases e
 |some j=>rw[q]at e;exact h.get e
theorem GL:∃ r:R2,IxR X r/\∀ g M ρ env σ H Q ra rb x y,Rep g M ρ env σ H->Is H (vmsk g M ra.fr ρ ra.al) ra.d x->Is H (vmsk g M rb.fr ρ rb.al) rb.d y->PostE X.mg E g M ρ env σ H Q (A0 ra rb)->r x y H Q:=by
 refine⟨_,DE,fun g M ρ env σ H Q ra rb x y rep i1 i2 p=>?_⟩;unfold A0 at p;cases e1:ra.d with
 |lst xs=>
  rw[e1]at p i1;cases e2:rb.d with
  |int i=>
   rw[e2]at p i2;cases i2;obtain⟨a,vs,rfl,h1,h2⟩:=i1.rd;cases q:atI xs i with
   |none=>simp only[q]at p;exact p.elim
   |some d=>simp only[q]at p;obtain⟨v,ev,iv⟩:=h2.atI q;exact .inl ⟨a,vs,i,v,rfl,rfl,.inl h1,ev,p.val rep iv⟩
  |_=>rw[e2]at p;exact p.elim
 |tup xs=>
  rw[e1]at p i1;cases e2:rb.d with
  |int i=>
   rw[e2]at p i2;cases i2;obtain⟨a,vs,rfl,h1,h2⟩:=i1;cases q:atI xs i with
   |none=>simp only[q]at p;exact p.elim
   |some d=>simp only[q]at p;obtain⟨v,ev,iv⟩:=h2.atI q;exact .inr (.inl ⟨a,vs,i,v,rfl,rfl,SqT.of h1,ev,p.val rep iv⟩)
  |_=>rw[e2]at p;exact p.elim
 |str z=>
  rw[e1]at p i1;cases e2:rb.d with
  |int i=>
   rw[e2]at p i2;cases i1;cases i2;by_cases hz:z.length<=lim
   .simp only[hz,Mp]at p;cases q:atI z.cps.toList i with
    |none=>simp only[q]at p;exact p.elim
    |some c=>simp only[q]at p;exact .inr (.inr ⟨z,i,c,rfl,rfl,eh hz,q,p _ M H (Ext.refl _ _) rep rfl⟩)
   .simp only[hz,Lh]at p;exact p.elim
  |_=>rw[e2]at p;exact p.elim
 |_=>rw[e1]at p;exact p.elim
noncomputable def aB (i:Nat)(fb:En->Res R):En->Res R:=fun env=>match env[i]? with
 |some (some (.own ds fr))=>(fb env).bind fun rb=>match rb.d with
  | .int k=>match atI ds k with
   |some d=>.ok (mkV d fr [])
   |none=>.stuck
  |_=>.stuck
 |_=>v2 A0 (ag i) fb env
theorem rY (ha:PE X a (fB i))(hb:PD X E b fb)(hs:nJ b):PD X E (.Subscript a b pos) (aB i fb):=by
 obtain⟨r,h1,h2⟩:=GL (X:=X) (E:=E);obtain⟨tb,pb,sb⟩:=hb;refine⟨_,Ck (ix_list.or h1) ha pb hs,fun g M ρ env σ H Q rep p=>?_⟩;have gen:PostE X.mg E g M ρ env σ H Q (v2 A0 (ag i) fb env)->Dr (fun x y H Q=>DC X.K x y H Q\/r x y H Q) (fB i) tb σ H Q:=fun p=>Snd.twoE tM sb rep p fun ra rb x y M' H' rep' i1 i2 p'=>.inr (h2 g M' ρ env σ H' Q ra rb x y rep' i1 i2 p');unfold aB at p;cases e1:env[i]? with
 |none=>rw[e1]at p;exact gen p
 |some o=>
  cases o with
  |none=>rw[e1]at p;exact gen p
  |some sl=>
   cases sl with
   |val d fr=>rw[e1]at p;exact gen p
   |tre d=>rw[e1]at p;exact gen p
   |mes d=>rw[e1]at p;exact gen p
   |nst ks=>rw[e1]at p;exact gen p
   |own ds fr=>
    rw[e1]at p;obtain⟨v,ev,a,vs,rfl,k1,k2,k4⟩:=rep.slot i _ e1;refine⟨_,ev,sb.oneE rep p fun rb y M' H' e rep' i2 p'=>?_⟩;cases q:rb.d with
    |int k=>
     rw[q]at i2;simp only[q]at p';cases i2;cases q2:atI ds k with
     |none=>simp only[q2]at p';exact p'.elim
     |some d=>simp only[q2]at p';have k5:IsAll H' (vmsk g M' fr ρ []) ds vs:=(IsAll.weak (fun _ z=>.inl z) k4:IsAll H (vmsk g M fr ρ []) ds vs).ext e;obtain⟨w,ew,iw⟩:=k5.atI q2;exact .inl ⟨a,vs,k,w,rfl,rfl,.inl (.inl (e.h _ _ k1)),ew,p'.val rep' iw⟩
    |_=>simp only[q]at p';exact p'.elim
end
section
variable {mg:Str->Option Ow}{E:XK}{g:Gd}{M M':Addr->Prop}{ρ:Pr}{env:En}{σ:St}{H H':Hp}
theorem SndA.one {t:TA}{f:En->Res (List R)}(h:SndA mg E t f)(rep:Rep g M ρ env σ H){α:Type}{K:List R->Res α}{P:(M:Addr->Prop)->(H:Hp)->Res α->Prop}{Q:List V->Hp->Prop}
 (hp:P M H ((f env).bind K)) (hs:∀ M H,P M H .stuck->False) (hx:∀ M H c,P M H (.exc c)->AZ mg E g c) (he:∀ M H M' H' r,Ext M H M' H'->P M H r->P M' H' r)
 (k:∀ rs vs M' H',Ext M H M' H'->Rep g M' ρ env σ H'->IsAll H' (vmsk g M' (aQ rs) ρ (bg rs)) (rs.map R.d) vs->P M' H' (K rs)->Q vs H'):t σ H Q:=by
 refine h g M ρ env σ H Q rep ?_;cases e:f env with
 |stuck=>rw[e]at hp;exact hs _ _ hp
 |exc c=>rw[e]at hp;exact hx _ _ c hp
 |ok r=>rw[e]at hp;exact fun vs M1 H1 e1 rep1 is=>k r vs M1 H1 e1 rep1 is (he _ _ _ _ _ e1 hp)
theorem SndA.oneE {f:En->Res (List R)}(h:SndA mg E t f)(rep:Rep g M ρ env σ H){K:List R->Res R}{Q:List V->Hp->Prop}(hp:PostE mg E g M ρ env σ H Q' ((f env).bind K))
 (k:∀ rs vs M' H',Ext M H M' H'->Rep g M' ρ env σ H'->IsAll H' (vmsk g M' (aQ rs) ρ (bg rs)) (rs.map R.d) vs->PostE mg E g M' ρ env σ H' Q' (K rs)->Q vs H'):t σ H Q:=
 h.one rep (P:=fun M H r=>PostE mg E g M ρ env σ H Q' r) hp (fun _ _ z=>z) (fun _ _ _ z=>z) (fun _ _ _ _ _ e p=>p.ext e) k
theorem SndA.oneA {f:En->Res (List R)}(h:SndA mg E t f)(rep:Rep g M ρ env σ H){K:List R->Res (List R)}{Q':List V->Hp->Prop}{Q:List V->Hp->Prop}(hp:PostA mg E g M ρ env σ H Q' ((f env).bind K))
 (k:∀ rs vs M' H',Ext M H M' H'->Rep g M' ρ env σ H'->IsAll H' (vmsk g M' (aQ rs) ρ (bg rs)) (rs.map R.d) vs->PostA mg E g M' ρ env σ H' Q' (K rs)->Q vs H'):t σ H Q:=
 h.one rep (P:=fun M H r=>PostA mg E g M ρ env σ H Q' r) hp (fun _ _ z=>z) (fun _ _ _ z=>z) (fun _ _ _ _ _ e p=>p.ext e) k
theorem IsAll.args (h1:Is H (vmsk g M r.fr ρ r.al) r.d v)(h2:IsAll H (vmsk g M (aQ rs) ρ (bg rs)) (rs.map R.d) vs) :
 IsAll H (vmsk g M (aQ (r::rs)) ρ (bg (r::rs))) ((r::rs).map R.d) (v::vs):=by
 refine⟨v,vs,rfl,h1.weak fun a z=>?_,h2.weak fun a z=>?_⟩
 .exact(z.l:vmsk g M (r.fr&&aQ rs) ρ (r.al++bg rs) a)
 .exact(z.r:vmsk g M (r.fr&&aQ rs) ρ (r.al++bg rs) a)
end
section
variable {X:Cx}{E:XK}
noncomputable def ap:En->Res (List R):=fun _=>.ok []
noncomputable def ac (f:En->Res R)(fs:En->Res (List R)):En->Res (List R):=fun env=>(f env).bind fun r=>(fs env).bind fun rs=>.ok (r::rs)
theorem ai:vA X E [] ap:=⟨_,cI,fun g M ρ env σ H Q rep p=>p [] M H (Ext.refl _ _) rep rfl⟩
theorem aa (he:PD X E e f)(hr:vA X E es fs)(hs:autoParam (starEach (e::es) X.env=(false,eval e X.env)::starEach es X.env) OD._auto_1):vA X E (e::es) (ac f fs):=by obtain⟨t,p1,s1⟩:=he;obtain⟨u,p2,s2⟩:=hr;refine⟨_,bh p1 p2 hs,fun g M ρ env σ H Q rep p=>s1.oneA rep p fun r v M1 H1 e1 rep1 i1 q1=>s2.oneA rep1 q1 fun rs vs M2 H2 e2 rep2 i2 q2=>?_⟩;exact q2 (v::vs) M2 H2 (Ext.refl _ _) rep2 (IsAll.args (i1.ext e2) i2)
noncomputable def dt (fs:En->Res (List R)):En->Res R:=fun env=>(fs env).bind fun rs=>if rs.length<=lim then .ok (mkV (.tup (rs.map R.d)) (aQ rs) (bg rs)) else .stuck
theorem b6 (h:vA X E es fs):PD X E (.Tuple es k pos) (dt fs):=by
 obtain⟨t,p1,s1⟩:=h;refine⟨_,ri p1,fun g M ρ env σ H Q rep p=>s1.oneE rep p fun rs vs M1 H1 e1 rep1 i1 q1=>?_⟩;by_cases hl:rs.length<=lim
 .rw[Kf hl]at q1;exact⟨by rw[i1.length,Kg];exact eh hl,fun a ha=>q1.tup rep1 ha i1⟩
 .rw[Kh hl]at q1;exact q1.elim
noncomputable def gv (fs:En->Res (List R)):En->Res R:=fun env=>(fs env).bind fun rs=>if rs.length<=lim then .ok (iU (rs.map R.d) (aQ rs) (bg rs)) else .stuck
theorem gH (h:vA X E es fs):PD X E (.List es pos) (gv fs):=by
 obtain⟨t,p1,s1⟩:=h;refine⟨_,wG p1,fun g M ρ env σ H Q rep p=>s1.oneE rep p fun rs vs M1 H1 e1 rep1 i1 q1=>?_⟩;by_cases hl:rs.length<=lim
 .rw[Kf hl]at q1;exact⟨by rw[i1.length,Kg];exact eh hl,fun a ha=>q1.lst rep1 ha i1⟩
 .rw[Kh hl]at q1;exact q1.elim
end
def nl (H0 H':Hp)(a:Addr):Prop:=H0 a=none/\Mu H' a
noncomputable def RetOk (g:Gd)(H':Hp)(v:V):R->Prop
 | .val d fr _=>Is H' (fun a=>nl g.H₀ H' a\/(fr=false/\g.Ma a)) d v
 | .new ds fr=>∃ a vs,v=.ref a/\H' a=some (.lst vs)/\g.H₀ a=none/\IsAll H' (fun b=>b≠a/\(nl g.H₀ H' b\/(fr=false/\g.Ma b))) ds vs
 | .fre d=>Is H' (nl g.H₀ H') d v
noncomputable def GM (mg:Str->Option Ow)(E:XK)(g:Gd)(Q:VK):Res R->Prop
 | .stuck=>False
 | .exc c=>AZ mg E g c
 | .ok r=>∀ v H',Same g.H₀ H'->RetOk g H' v r->Q v H'
noncomputable def kW (mg:Str->Option Ow)(n:Nat)(F:List D->Res R):Sp:=fun vs H Q E=>vs.length=n/\∃ ds Ma,IsAll H Ma ds vs/\GM mg E (GF H Ma) Q (F ds)
noncomputable def Ah (d:D)(fr:Bool)(rs:List R):R:=if d.flat then .val d true [] else if fr then .fre d else .val d (aQ rs) (bg rs)
noncomputable def dP (rs:List R):R->R
 | .val d fr _=>Ah d fr rs
 | .new ds fr=>if D.flats ds then .new ds true else if fr then .fre (.lst ds) else if (bg rs).isEmpty then .new ds (aQ rs) else .val (.lst ds) (aQ rs) (bg rs)
 | .fre d=>Ah d true rs
section
variable {g:Gd}{M:Addr->Prop}{ρ:Pr}{env:En}{σ:St}{H H':Hp}
theorem Rep.came (rep:Rep g M ρ env σ H)(s:Same H H')(p:Addr->Prop):Rep g (fun a=>M a\/(nl H H' a/\p a)) ρ env σ H':=(rep.grow s).moreT fun a z=>⟨z.1.2,rep.same.free z.1.1,(rep.free z.1.1).2.2⟩
theorem xV (rs:List R)(rep:Rep g M ρ env σ H)(s:Same H H')(h:Is H' (fun a=>nl H H' a\/(fr=false/\vmsk g M (aQ rs) ρ (bg rs) a)) d v) :
 ∃ M',Ext M H M' H'/\Rep g M' ρ env σ H'/\ROk g M' ρ H H' v (Ah d fr rs):=by
 unfold Ah;by_cases hf:d.flat=true
 .rw[Kf hf];exact⟨M,⟨fun _ z=>z,s,fun _ z=>.inl z⟩,rep.grow s,Is.flat hf h⟩
 .rw[Kh hf];cases fr with
  |true=>
   refine⟨M,⟨fun _ z=>z,s,fun _ z=>.inl z⟩,rep.grow s,nl H H',fun a z=>?_,?_⟩
   .exact⟨fun w=>rep.froz a w z.1,z.1,z.2,(rep.free z.1).2.2⟩
   .exact Is.weak (fun a z=>z.elim id fun w=>by cases w.1) h
  |false=>
   refine⟨_,⟨fun _=>.inl,s,fun _ z=>z.imp id (·.1.1)⟩,rep.came s fun _=>True,?_⟩;refine Is.weak (fun a z=>?_) h;rcases z with z|⟨_,z⟩
   .exact .inl ⟨.inr ⟨z,True.intro⟩,fun _=>rep.same.free z.1⟩
   .exact z.mono fun _=>.inl
theorem RetOk.caller (rs:List R)(rep:Rep g M ρ env σ H)(s:Same H H')(h:RetOk (GF H (vmsk g M (aQ rs) ρ (bg rs))) H' v r) :
 ∃ M',Ext M H M' H'/\Rep g M' ρ env σ H'/\ROk g M' ρ H H' v (dP rs r):=by
 cases r with
 |val d fr al=>exact xV rs rep s h
 |fre d=>exact xV rs rep s (Is.weak (fun a z=>.inl z) h)
 |new ds fr=>
  obtain⟨a,vs,rfl,h1,h2,h3⟩:=h;have h2:H a=none:=h2;obtain⟨f0,f1,f2⟩:=rep.free h2;have R1:Rep g (fun b=>M b\/(nl H H' b/\b≠a)) ρ env σ H':=rep.came s fun b=>b≠a;have nm:¬ (M a\/(nl H H' a/\a≠a)):=fun z=>z.elim f1 fun z=>z.2 rfl;have X1:Ext M H (fun b=>M b\/(nl H H' b/\b≠a)) H':=⟨fun _=>.inl,s,fun _ z=>z.imp id (·.1.1)⟩;unfold dP;dsimp only;by_cases hfl:D.flats ds=true
  .rw[Kf hfl];exact⟨_,X1,R1,a,vs,rfl,h1,nm,h2,f2,IsAll.flat hfl h3⟩
  .rw[Kh hfl];cases fr with
   |true=>
    refine⟨M,⟨fun _ z=>z,s,fun _ z=>.inl z⟩,rep.grow s,nl H H',fun a z=>?_,?_⟩
    .exact⟨fun w=>rep.froz a w z.1,z.1,z.2,(rep.free z.1).2.2⟩
    .exact⟨a,vs,rfl,.inl ⟨h1,h2,Mu.lst h1⟩,IsAll.weak (fun b z=>z.2.elim id fun w=>by cases w.1) h3⟩
   |false=>
    simp only[Ks,Lh];by_cases hc:(bg rs).isEmpty=true
    .rw[Kf hc];refine⟨_,X1,R1,a,vs,rfl,h1,nm,h2,f2,?_⟩;refine IsAll.weak (fun b z=>?_) h3;rcases z with⟨nb,z|⟨hf,z⟩⟩
     .exact⟨.inr ⟨z,nb⟩,fun _=>rep.same.free z.1⟩
     .have hl:bg rs=[]:=by simpa using hc
      have z:vmsk g M (aQ rs) ρ (bg rs) b:=z;rw[hl]at z;exact⟨.inl z.nil.1,z.nil.2⟩
    .rw[Kh hc];refine⟨fun b=>(M b\/(nl H H' b/\b≠a))\/b=a,⟨fun _ z=>.inl (.inl z),s,fun b z=>z.elim (X1.n b) fun e=>.inr (e▸h2)⟩,R1.more h1 f0 f2,a,vs,rfl,.inl ⟨h1,.inl ⟨.inr rfl,fun _=>f0⟩⟩,?_⟩;refine IsAll.weak (fun b z=>?_) h3;rcases z with⟨nb,z|⟨hf,z⟩⟩
     .exact .inl ⟨.inl (.inr ⟨z,nb⟩),fun _=>rep.same.free z.1⟩
     .exact vmsk.mono (fun _ w=>.inl (.inl w)) z
end
section
variable {X:Cx}{E:XK}{CX:CXT}{k:Nat}{f:Addr}{fd:FuncData}{ps:List Str}{F:List D->Res R}{x:Str}{p pos:Pos}{e:Expr}{es:List Expr}{fs:En->Res (List R)}
noncomputable def aC (F:List D->Res R)(fs:En->Res (List R)):En->Res R:=fun env=>(fs env).bind fun rs=>(F (rs.map R.d)).bind fun r=>.ok (dP rs r)
theorem xW (hl:∀ env rs,fs env=.ok rs->rs.length=ps.length)(s:SndA X.mg E t fs):Snd X.mg E (Ci (kW X.mg ps.length F) [] E t) (aC F fs):=by
 intro g M ρ env σ H Q rep p;refine s g M ρ env σ H _ rep ?_;unfold aC at p;cases e:fs env with
 |stuck=>rw[e]at p;exact p
 |exc c=>rw[e]at p;exact p
 |ok rs=>
  rw[e]at p;intro vs M1 H1 e1 rep1 is;have p1:PostE X.mg E g M1 ρ env σ H1 Q ((F (rs.map R.d)).bind fun r=>.ok (dP rs r)):=PostE.ext e1 p;rw[La];refine⟨by rw[is.length,Kg];exact hl env rs e,rs.map R.d,_,is,?_⟩;cases q:F (rs.map R.d) with
  |stuck=>rw[q]at p1;exact p1
  |exc c=>rw[q]at p1;exact fun cls dx H' h1 h2=>p1 cls dx H' h1 (rep1.same.trans h2)
  |ok r=>rw[q]at p1;intro v H2 s2 ro;obtain⟨M3,e3,rep3,ro3⟩:=RetOk.caller rs rep1 s2 ro;exact p1 v M3 H2 e3 rep3 ro3
theorem A1 (G:FnOk X.prog X.w X.K X.mg X.base CX k f fd ps (kW X.mg ps.length F))(hr:Room k X.A)(hg:Gl X x)(hm:X.mg x=some (.ref f))(hk:PySem.W.keepIn X.K (.ref f)=true)(hb:Binds X.K fd ps [])(hx:iJ CX X E)
 (ha:vA X E (e::es) fs) (hl:∀ env rs,fs env=.ok rs->rs.length=ps.length) (hdb:autoParam ((x==("__debug__" : Str))=false) Oy._auto_1) (he:autoParam (starEach (e::es) X.env=(false,eval e X.env)::starEach es X.env) OD._auto_1) (hpl:autoParam ((backTo pos (starEach es X.env)).any (·.1)=false) OD._auto_1) :
 PD X E (.Call (.Name x p) (e::es) [] pos) (aC F fs):=by
 obtain⟨t,p1,s1⟩:=ha;exact⟨_,Aq G hr hg hm hk hb .nil hx p1 hdb he hpl,xW hl s1⟩
theorem ar:∀ env rs,ap env=.ok rs->rs.length=0:=fun _ _ e=>by cases e;rfl
theorem af {f:En->Res R}{fs:En->Res (List R)}(h:∀ env rs,fs env=.ok rs->rs.length=n):∀ env rs,ac f fs env=.ok rs->rs.length=n+1:=fun env rs e=>by
 unfold ac at e;cases q:f env with
 |stuck=>rw[q]at e;cases e
 |exc c=>rw[q]at e;cases e
 |ok r=>
  rw[q]at e;cases q2:fs env with
  |stuck=>simp only[Res.bind_ok,q2]at e;cases e
  |exc c=>simp only[Res.bind_ok,q2]at e;cases e
  |ok rs'=>simp only[Res.bind_ok,q2]at e;cases e;simp[h env rs' q2]
def gC (X:Cx)(E:XK)(f:Ow)(k:List R->Res R):Prop:=∃ r,CallR X f r/\
 ∀ g M ρ env σ H Q rs vs,Rep g M ρ env σ H->IsAll H (vmsk g M (aQ rs) ρ (bg rs)) (rs.map R.d) vs->PostE X.mg E g M ρ env σ H Q (k rs)->r vs H Q
noncomputable def gf (k:List R->Res R)(fs:En->Res (List R)):En->Res R:=fun env=>(fs env).bind k
theorem bG {id:String} {k:List R->Res R} (hc:gC X E (.builtin id) k) (hg:Gl X x) (hm:X.mg x=none) (hv:bootBuiltins x=some (.builtin id)) (ha:vA X E (e::es) fs) (hn:autoParam (x≠"__name__") Oy._auto_1) (hdb:autoParam ((x==("__debug__" : Str))=false) Oy._auto_1)
 (he:autoParam (starEach (e::es) X.env=(false,eval e X.env)::starEach es X.env) OD._auto_1) (hpl:autoParam ((backTo pos (starEach es X.env)).any (·.1)=false) OD._auto_1):PD X E (.Call (.Name x p) (e::es) [] pos) (gf k fs):=by
 obtain⟨r,h1,h2⟩:=hc;obtain⟨t,p1,s1⟩:=ha;exact⟨_,gQ h1 hg hm hv p1 hn hdb he hpl,fun g M ρ env σ H Q rep p=>s1.oneE rep p fun rs vs M1 H1 e1 rep1 i1 q1=>h2 g M1 ρ env σ H1 Q rs vs rep1 i1 q1⟩
theorem bM {k:List R->Res R} (hc:gC X E (.type T) k) (hg:Gl X x) (hm:X.mg x=none) (hv:bootBuiltins x=some (.type T)) (ha:vA X E (e::es) fs) (hn:autoParam (x≠"__name__") Oy._auto_1) (hdb:autoParam ((x==("__debug__" : Str))=false) Oy._auto_1)
 (he:autoParam (starEach (e::es) X.env=(false,eval e X.env)::starEach es X.env) OD._auto_1) (hpl:autoParam ((backTo pos (starEach es X.env)).any (·.1)=false) OD._auto_1):PD X E (.Call (.Name x p) (e::es) [] pos) (gf k fs):=by
 obtain⟨r,h1,h2⟩:=hc;obtain⟨t,p1,s1⟩:=ha;exact⟨_,iL h1 hg hm hv p1 hn hdb he hpl,fun g M ρ env σ H Q rep p=>s1.oneE rep p fun rs vs M1 H1 e1 rep1 i1 q1=>h2 g M1 ρ env σ H1 Q rs vs rep1 i1 q1⟩
noncomputable def me:List R->Res R
 | [r]=>match r.d with
  | .lst ds=>.ok (.val (.int ds.length) true [])
  | .tup ds=>.ok (.val (.int ds.length) true [])
  | .str z=>if z.length<=lim then .ok (.val (.int z.length) true []) else .stuck
  |_=>.stuck
 |_=>.stuck
theorem n_:gC X E (.builtin "len") me:=by
 refine⟨_,call_len_seq.or nK,fun g M ρ env σ H Q rs vs rep i p=>?_⟩
 match rs,i,p with
 | [r],i,p=>
  obtain⟨v,w,rfl,i1,i2⟩:=i;cases i2;have i1:Is H (vmsk g M (aQ [r]) ρ (bg [r])) r.d v:=i1;unfold me at p;dsimp only at p;cases q:r.d with
  |lst ds=>rw[q]at p i1;obtain⟨a,ws,rfl,h1,h2⟩:=i1.rd;exact .inl ⟨a,ws,rfl,.inl (.inl h1),by rw[h2.length];exact p _ M H (Ext.refl _ _) rep rfl⟩
  |tup ds=>rw[q]at p i1;obtain⟨a,ws,rfl,h1,h2⟩:=i1;exact .inl ⟨a,ws,rfl,.inr (SqT.of h1),by rw[h2.length];exact p _ M H (Ext.refl _ _) rep rfl⟩
  |str z=>
   rw[q]at p i1;cases i1;by_cases hz:z.length<=lim
   .simp only[hz,Mp]at p;exact .inr ⟨z,rfl,eh hz,p _ M H (Ext.refl _ _) rep rfl⟩
   .simp only[hz,Lh]at p;exact p.elim
  |_=>rw[q]at p;exact p.elim
 | [],_,p=>exact p.elim
 |_::_::_,_,p=>exact p.elim
noncomputable def cA:List R->Res R
 | [r]=>match r.d with
  | .lst ds=>.ok (iU ds r.fr r.al)
  | .tup ds=>.ok (iU ds r.fr r.al)
  |_=>.stuck
 |_=>.stuck
theorem tQ (h:vmsk g M (aQ [r]) ρ (bg [r]) a):vmsk g M r.fr ρ r.al a:=by
 have e1:aQ [r]=r.fr:=by simp[aQ]
 have e2:bg [r]=r.al:=by simp[bg]
 rw[e1,e2]at h;exact h
theorem eB:gC X E (.type "list") cA:=by
 refine⟨_,nL,fun g M ρ env σ H Q rs vs rep i p=>?_⟩
 match rs,i,p with
 | [r],i,p=>
  obtain⟨v,w,rfl,i1,i2⟩:=i;cases i2;have i1:Is H (vmsk g M (aQ [r]) ρ (bg [r])) r.d v:=i1;replace i1:=i1.weak fun _ z=>tQ z;unfold cA at p;dsimp only at p;cases q:r.d with
  |lst ds=>rw[q]at p i1;obtain⟨a,ws,rfl,h1,h2⟩:=i1.rd;exact⟨a,ws,rfl,.inl (.inl h1),fun l hl=>p.lst rep hl h2⟩
  |tup ds=>rw[q]at p i1;obtain⟨a,ws,rfl,h1,h2⟩:=i1;exact⟨a,ws,rfl,.inr (SqT.of h1),fun l hl=>p.lst rep hl h2⟩
  |_=>rw[q]at p;exact p.elim
 | [],_,p=>exact p.elim
 |_::_::_,_,p=>exact p.elim
end
inductive Fl where
 |nx (env:En)|rt (r:R)|bk (env:En)|ct (env:En)|rm (r:R) (env:En)
structure Frz (M:Addr->Prop) (H:Hp) (M':Addr->Prop) (H':Hp):Prop where
 m:∀ a,M a->M' a
 h:∀ a o,H a=some o->(M a\/fixd o)->H' a=some o
theorem Frz.refl (M:Addr->Prop)(H:Hp):Frz M H M H:=⟨fun _ z=>z,fun _ _ e _=>e⟩
theorem Frz.trans {M M1 M2:Addr->Prop}(a:Frz M H M1 H1)(b:Frz M1 H1 M2 H2):Frz M H M2 H2:=⟨fun x z=>b.m x (a.m x z),fun x o e z=>b.h x o (a.h x o e z) (z.imp (a.m x) id)⟩
theorem Ext.frz (e:Ext M H M' H'):Frz M H M' H':=⟨e.m,fun a o q _=>e.h a o q⟩
section
variable (mg:Str->Option Ow)(E:XK)(g:Gd)(M:Addr->Prop)(H:Hp)(D:Ends)
noncomputable def PostS:Res Fl->Prop
 | .stuck=>False
 | .exc c=>AZ mg E g c
 | .ok (.nx env)=>∀ σ M' ρ H',Frz M H M' H'->Rep g M' ρ env σ H'->D.nx σ H'
 | .ok (.bk env)=>∀ σ M' ρ H',Frz M H M' H'->Rep g M' ρ env σ H'->D.bk σ H'
 | .ok (.ct env)=>∀ σ M' ρ H',Frz M H M' H'->Rep g M' ρ env σ H'->D.ct σ H'
 | .ok (.rt r)=>∀ v M' H',Frz M H M' H'->Same g.H₀ H'->((∀ a,¬ g.Z a)->RetOk g H' v r)->(r.d.flat=true->Is H' (fun _=>False) r.d v)->D.rt v H'
 | .ok (.rm r env)=>∀ v σ M' ρ H0 H',Frz M H M' H'->Rep g M' ρ env σ H'->Same g.H₀ H0->ROk g M' ρ H0 H' v r->D.rt v H'
end
def rZ (mg:Str->Option Ow)(E:XK)(t:TS)(f:En->Res Fl):Prop:=∀ g M ρ env σ H D,Rep g M ρ env σ H->PostS mg E g M H D (f env)->t D σ H
def m6 (X:Cx)(E:XK)(st:Stmt)(f:En->Res Fl):Prop:=∃ t,PS X st t/\rZ X.mg E t f
def mf (X:Cx)(E:XK)(st:List Stmt)(f:En->Res Fl):Prop:=∃ t,PSs X st t/\rZ X.mg E t f
section
variable {mg:Str->Option Ow}{E:XK}{g:Gd}{M M':Addr->Prop}{ρ:Pr}{env:En}{σ:St}{H H':Hp}{D:Ends}
theorem PostS.frz (e:Frz M H M' H')(p:PostS mg E g M H D r):PostS mg E g M' H' D r:=by
 cases r with
 |stuck=>exact p
 |exc c=>exact p
 |ok r=>cases r with
  |nx env=>exact fun σ M2 ρ2 H2 e2=>p σ M2 ρ2 H2 (e.trans e2)
  |bk env=>exact fun σ M2 ρ2 H2 e2=>p σ M2 ρ2 H2 (e.trans e2)
  |ct env=>exact fun σ M2 ρ2 H2 e2=>p σ M2 ρ2 H2 (e.trans e2)
  |rt r=>exact fun v M2 H2 e2=>p v M2 H2 (e.trans e2)
  |rm r env=>exact fun v σ M2 ρ2 H0 H2 e2=>p v σ M2 ρ2 H0 H2 (e.trans e2)
theorem Snd.oneS {f:En->Res R}(h:Snd mg E t f)(rep:Rep g M ρ env σ H){K:R->Res Fl}(hp:PostS mg E g M H D ((f env).bind K))
 (k:∀ r v M' H',Ext M H M' H'->Rep g M' ρ env σ H'->ROk g M' ρ H H' v r->PostS mg E g M' H' D (K r)->Q v H'):t σ H Q:=by
 refine h g M ρ env σ H Q rep ?_;cases e:f env with
 |stuck=>rw[e]at hp;exact hp
 |exc c=>rw[e]at hp;exact hp
 |ok r=>rw[e]at hp;exact fun v M1 H1 e1 rep1 ro=>k r v M1 H1 e1 rep1 ro (PostS.frz e1.frz hp)
theorem SndT.oneS {f:En->Res Bool}(h:SndT mg E t f)(rep:Rep g M ρ env σ H){K:Bool->Res Fl}{Q:Bool->Hp->Prop}(hp:PostS mg E g M H D ((f env).bind K))
 (k:∀ b M' H',Frz M H M' H'->Rep g M' ρ env σ H'->PostS mg E g M' H' D (K b)->Q b H'):t σ H Q:=by
 refine h g M ρ env σ H Q rep ?_;cases e:f env with
 |stuck=>rw[e]at hp;exact hp
 |exc c=>rw[e]at hp;exact hp
 |ok r=>rw[e]at hp;exact fun M1 H1 e1 rep1=>k r M1 H1 e1.frz rep1 (PostS.frz e1.frz hp)
noncomputable def GN (ρ:Pr)(i:Nat):Pr:=fun j a=>if j=i then False else ρ j a
theorem r_ (h:j≠i):GN ρ i j=ρ j:=by funext a;unfold GN;rw[Kh h]
theorem kX (h:GN ρ i j a):j≠i/\ρ j a:=by
 unfold GN at h;by_cases e:j=i
 .rw[Kf e]at h;exact h.elim
 .rw[Kh e]at h;exact⟨e,h⟩
noncomputable def oa (ρ:Pr)(i:Nat)(T:Addr->Prop):Pr:=fun j a=>if j=i then T a else ρ j a
theorem cv (h:j≠i):oa ρ i T j=ρ j:=by funext a;unfold oa;rw[Kh h]
theorem dA:oa ρ i T i=T:=by funext a;unfold oa;rw[Kf rfl]
noncomputable def frz1 (env:En)(i:Nat):En:=match env[i]? with
 |some (some (.own ds fr))=>env.set i (some (.val (.lst ds) fr))
 |some (some (.tre d))=>env.set i (some (.val d true))
 |some (some (.mes _))=>env.set i none
 |some (some (.nst _))=>env.set i none
 |_=>env
noncomputable def frz (env:En)(al:List Nat):En:=al.foldl frz1 env
theorem og (h:j≠i):(frz1 env i)[j]?=env[j]?:=by unfold frz1;split<;>first|rfl|exact Kz (Lj h)
theorem pR (i:Nat):(frz1 env i).length=env.length:=by unfold frz1;split<;>simp
theorem sf:∀(al:List Nat){env:En}{j:Nat},¬ j∈al->(frz env al)[j]?=env[j]?
 | [],_,_,_=>rfl
 |i::al,env,j,h=>by show(frz (frz1 env i) al)[j]?=_;rw[sf al fun z=>h (by simp[z]),og fun z=>h (by simp[z])]
theorem cQ:∀(al:List Nat)(env:En),(frz env al).length=env.length
 | [],_=>rfl
 |i::al,env=>by show(frz (frz1 env i) al).length=_;rw[cQ al,pR]
theorem Rep.frz1 (rep:Rep g M ρ env σ H)(i:Nat):Rep g (fun a=>M a\/ρ i a) (GN ρ i) (frz1 env i) σ H where
 same:=rep.same
 froz:=fun b hb=>hb.elim (rep.froz b) fun z=>(rep.priv i b z).2.2.some
 inn:=fun b hb=>hb.elim (rep.inn b) fun z=>.inl (rep.priv i b z).2.1
 fl:=fun b hb h0=>hb.elim (fun z=>rep.fl b z h0) fun z=>.inl (rep.priv i b z).2.2
 slot:=fun j sl ej=>by
  by_cases hj:j=i
  .subst hj;cases e:env[j]? with
   |none=>
    have:L3.frz1 env j=env:=by unfold L3.frz1;rw[e]
    rw[this,e]at ej;cases ej
   |some o=>
    have hi:j<env.length:=(Kc.mp e).1;cases o with
    |none=>
     have:L3.frz1 env j=env:=by unfold L3.frz1;rw[e]
     rw[this,e]at ej;cases ej
    |some s0=>
     obtain⟨v,ev,k⟩:=rep.slot j s0 e;cases s0 with
     |val d fr=>
      have:L3.frz1 env j=env:=by unfold L3.frz1;rw[e]
      rw[this,e]at ej;cases ej;exact⟨v,ev,Is.weak (fun b z=>msk.mono (fun _=>.inl) z) k⟩
     |own ds fr=>
      have:L3.frz1 env j=env.set j (some (.val (.lst ds) fr)):=by unfold L3.frz1;rw[e]
      rw[this,KB hi]at ej;cases ej;obtain⟨a,vs,rfl,h1,h2,h4⟩:=k;have ha:=(h2 a).mpr rfl;exact⟨_,ev,a,vs,rfl,.inl ⟨h1,.inr ha,fun _=>(rep.priv j a ha).2.1⟩,IsAll.weak (fun b z=>msk.mono (fun _=>.inl) z) h4⟩
     |tre d=>
      have:L3.frz1 env j=env.set j (some (.val d true)):=by unfold L3.frz1;rw[e]
      rw[this,KB hi]at ej;cases ej;exact⟨v,ev,Is.weak (fun b z=>⟨.inr z,fun _=>(rep.priv j b z).2.1⟩) k⟩
     |mes d=>
      have:L3.frz1 env j=env.set j none:=by unfold L3.frz1;rw[e]
      rw[this,KB hi]at ej;cases ej
     |nst ks=>
      have:L3.frz1 env j=env.set j none:=by unfold L3.frz1;rw[e]
      rw[this,KB hi]at ej;cases ej
  .rw[og hj]at ej;obtain⟨v,ev,k⟩:=rep.slot j sl ej;exact⟨v,ev,by rw[r_ hj];exact SlOk.weak (fun _=>.inl) k⟩
 priv:=fun j a h=>by obtain⟨hj,h⟩:=kX h;exact⟨fun z=>z.elim (rep.priv j a h).1 fun z=>hj (rep.apart j i a h z),(rep.priv j a h).2⟩
 apart:=fun j k a h1 h2=>rep.apart j k a (kX h1).2 (kX h2).2
 ow:=fun j a h=>by obtain⟨hj,h⟩:=kX h;have:=rep.ow j a h;unfold isOwn at this ⊢;rw[og hj];exact this
 len:=by rw[pR];exact rep.len
 zz:=rep.zz
theorem Rep.frz:∀(al:List Nat){env:En}{M:Addr->Prop}{ρ:Pr},Rep g M ρ env σ H->∃(M':Addr->Prop)(ρ':Pr),(∀ a,M a->M' a)/\Rep g M' ρ' (L3.frz env al) σ H/\(∀ i,i∈al->∀ a,ρ i a->M' a)/\(∀ j a,ρ' j a->ρ j a)/\(∀ j,¬ j∈al->ρ' j=ρ j)
 | [],env,M,ρ,rep=>⟨M,ρ,fun _ z=>z,rep,fun _ z=>absurd z (by simp),fun _ _ o=>o,fun _ _=>rfl⟩
 |i::al,env,M,ρ,rep=>by
  obtain⟨M2,ρ2,e2,rep2,o2,k2,l2⟩:=Rep.frz al (rep.frz1 i);refine⟨M2,ρ2,fun a z=>e2 a (.inl z),rep2,fun j hj a o=>?_,fun j a o=>(kX (k2 j a o)).2,fun j hj=>?_⟩
  .by_cases hji:j=i
   .exact e2 a (.inr (hji▸o))
   .exact o2 j ((Kj.mp hj).resolve_left hji) a (by rw[r_ hji];exact o)
  .rw[l2 j fun z=>hj (by simp[z]),r_ fun z=>hj (by simp[z])]
theorem Is.frozen (rep:Rep g M ρ env σ H)(e:∀ a,M a->M' a)(hm:∀ i,i∈al->∀ a,ρ i a->M' a)(h:Is H (vmsk g M fr ρ al) d v):Is H (msk g M' fr) d v:=h.weak fun a z=>z.elim (msk.mono e) fun⟨i,hi,o⟩=>⟨hm i hi a o,fun _=>(rep.priv i a o).2.1⟩
theorem Rep.put (rep:Rep g M ρ env σ H)(hi:i<env.length)(ok:SlOk g M T H v sl)(ht:∀ a,T a->¬ M a/\g.H₀ a=none/\Mu H a/\∀ j,j≠i->¬ ρ j a)(hO:autoParam (∀ a,T a->sl.isO=true) OC._auto_1) :
 Rep g M (oa ρ i T) (env.set i (some sl)) (σ.set i (some v)) H:=by
 have hi2:i<σ.length:=by rw[<- rep.len];exact hi
 refine⟨rep.same,rep.froz,rep.inn,rep.fl,fun j s ej=>?_,fun j a h=>?_,fun j k a h1 h2=>?_,fun j a h=>?_,by rw[Mi,Mi];exact rep.len,rep.zz⟩
 .by_cases hj:j=i
  .subst hj;rw[KB hi]at ej;cases ej;exact⟨v,KB hi2,by rw[dA];exact ok⟩
  .rw[Kz (Lj hj)]at ej;obtain⟨w,ew,k⟩:=rep.slot j s ej;exact⟨w,by rw[Kz (Lj hj)];exact ew,by rw[cv hj];exact k⟩
 .by_cases hj:j=i
  .subst hj;rw[dA]at h;exact⟨(ht a h).1,(ht a h).2.1,(ht a h).2.2.1⟩
  .rw[cv hj]at h;exact rep.priv j a h
 .by_cases hj:j=i
  .by_cases hk:k=i
   .rw[hj,hk]
   .subst hj;rw[dA]at h1;rw[cv hk]at h2;exact absurd h2 ((ht a h1).2.2.2 k hk)
  .by_cases hk:k=i
   .subst hk;rw[dA]at h2;rw[cv hj]at h1;exact absurd h1 ((ht a h2).2.2.2 j hj)
   .rw[cv hj]at h1;rw[cv hk]at h2;exact rep.apart j k a h1 h2
 .unfold isOwn;by_cases hj:j=i
  .subst hj;rw[dA]at h;rw[KB hi];exact hO a h
  .rw[cv hj]at h;rw[Kz (Lj hj)];exact rep.ow j a h
noncomputable def put (env:En)(i:Nat):R->En
 | .new ds fr=>env.set i (some (.own ds fr))
 | .val d fr al=>(frz env al).set i (some (.val d fr))
 | .fre d=>env.set i (some (.tre d))
theorem Rep.store (rep:Rep g M ρ env σ H)(h0:Same g.H₀ H0)(hi:i<env.length)(h:ROk g M ρ H0 H v r):∃ M' ρ',Frz M H M' H/\Rep g M' ρ' (L3.put env i r) (σ.set i (some v)) H:=by
 cases r with
 |new ds fr=>obtain⟨a,vs,rfl,h1,h2,h3,h4,h5⟩:=h;exact⟨M,_,Frz.refl _ _,rep.put (sl:=.own ds fr) (T:=fun b=>b=a) hi ⟨a,vs,rfl,h1,fun _=>Iff.rfl,h5⟩ fun b e=>by subst e;exact⟨h2,h0.free h3,Mu.lst h1,fun j _=>h4 j⟩⟩
 |val d fr al=>obtain⟨M1,ρ1,e1,rep1,o1,k1,_⟩:=Rep.frz al rep;exact⟨M1,_,⟨e1,fun _ _ e _=>e⟩,rep1.put (sl:=.val d fr) (T:=fun _=>False) (by rw[cQ];exact hi) (Is.frozen rep e1 o1 h) (fun _ z=>z.elim) fun _ z=>z.elim⟩
 |fre d=>obtain⟨T,ht,is⟩:=h;exact⟨M,_,Frz.refl _ _,rep.put (sl:=.tre d) (T:=T) hi is fun b z=>let ⟨a1,a2,a3,a4⟩:=ht b z;⟨a1,h0.free a2,a3,fun j _=>a4 j⟩⟩
theorem Rep.writeO (hu:D1 u')(rep:Rep g M ρ env σ H)(o:ρ i a)(hi:i<env.length)(ev:σ[i]?=some (some v))(ok:SlOk g M (ρ i) (aJ H a u') v sl)(hO:autoParam (sl.isO=true) OD._auto_1) :
 Frz M H M (aJ H a u')/\Rep g M ρ (env.set i (some sl)) σ (aJ H a u'):=by
 obtain⟨nm,n0,uo,ha,hmu⟩:=rep.priv i a o;have nfx:∀ u,H a=some u->¬ fixd u:=fun u e z=>by rw[ha]at e;cases e;cases uo<;>first|exact z|exact hmu
 have kp:∀ b u,H b=some u->(M b\/fixd u)->aJ H a u' b=some u:=fun b u q z=>by
  rw[ao]
  .exact q
  .rintro rfl;rcases z with z|z
   .exact nm z
   .exact nfx u q z
 have km:∀(fr:Bool) b u,H b=some u->(msk g M fr b\/fixd u)->aJ H a u' b=some u:=fun fr b u q z=>kp b u q (z.imp (·.1) id);refine⟨⟨fun _ z=>z,kp⟩,fun b u q=>?_,fun b hb=>?_,rep.inn,fun b hb h0=>?_,fun j s ej=>?_,fun j b h=>?_,rep.apart,fun j b h=>?_,by rw[Mi];exact rep.len,fun c z e=>by
  by_cases hc:c=a
  .subst hc;rw[am]at e;cases e
  .rw[ao hc]at e;exact rep.zz c z e⟩
 .rw[ao (fun z=>by rw[z,n0]at q;cases q)];exact rep.same b u q
 .have nb:b≠a:=fun z=>nm (by rw[<- z];exact hb);rw[ao nb];exact rep.froz b hb
 .have nb:b≠a:=fun z=>nm (by rw[<- z];exact hb);exact(rep.fl b hb h0).same fun o e=>by rw[ao nb];exact e
 .by_cases hj:j=i
  .subst hj;rw[KB hi]at ej;cases ej;exact⟨v,ev,ok⟩
  .rw[Kz (Lj hj)]at ej;obtain⟨w,ew,k⟩:=rep.slot j s ej;refine⟨w,ew,?_⟩;have nj:∀ b,ρ j b->b≠a:=fun b hb e=>hj (rep.apart j i a (e▸hb) o);cases s with
   |val d fr=>exact Is.mono (km fr) (fun _ _ _ z=>z) k
   |own ds' fr'=>obtain⟨b,ws,rfl,h1,h2,h4⟩:=k;exact⟨b,ws,rfl,by rw[ao (nj b ((h2 b).mpr rfl))];exact h1,h2,IsAll.mono (km fr') (fun _ _ _ z=>z) h4⟩
   |tre d=>
    refine Is.mono (fun b u q z=>?_) (fun _ _ _ z=>z) k;rw[ao]
    .exact q
    .rcases z with z|z
     .exact nj b z
     .intro e;rw[e]at q;exact nfx u q z
   |mes d=>refine IsSh.mono (fun b u q z=>kp b u q (.inr z)) (fun b ws z q=>⟨ws,by rw[ao (nj b z)];exact q⟩) (fun _ z=>z) k
   |nst ks=>
    refine kP (fun b u q z=>?_) k;rw[ao]
    .exact q
    .rcases z with z|z
     .exact nj b z
     .intro e;rw[e]at q;exact nfx u q z
 .obtain⟨b1,b2,b3⟩:=rep.priv j b h;refine⟨b1,b2,?_⟩;by_cases e:b=a
  .exact⟨u',by rw[e,am],hu⟩
  .exact b3.same fun o z=>by rw[ao e];exact z
 .unfold isOwn;by_cases hj:j=i
  .subst hj;rw[KB hi];exact hO
  .rw[Kz (Lj hj)];exact rep.ow j b h
theorem Rep.write (rep:Rep g M ρ env σ H)(o:ρ i a)(hi:i<env.length)(ev:σ[i]?=some (some v))(ok:SlOk g M (ρ i) (aJ H a (.lst vs')) v sl)(hO:autoParam (sl.isO=true) OD._auto_1) :
 Frz M H M (aJ H a (.lst vs'))/\Rep g M ρ (env.set i (some sl)) σ (aJ H a (.lst vs')):=rep.writeO (u':=.lst vs') True.intro o hi ev ok hO
end
section
variable {X:Cx}{E:XK}
noncomputable def eF:En->Res Fl:=fun env=>.ok (.nx env)
noncomputable def aI (f k:En->Res Fl):En->Res Fl:=fun env=>(f env).bind fun r=>match r with
 | .nx aO=>k aO
 |r=>.ok r
theorem aR:mf X E [] eF:=⟨_,Al,fun g M ρ env σ H D rep p=>p σ M ρ H (Frz.refl _ _) rep⟩
theorem ak {st:Stmt}{f:En->Res Fl}(h:m6 X E st f):mf X E [st] f:=let ⟨t,a,b⟩:=h;⟨t,sU a,b⟩
theorem ah {st:Stmt}{aF:List Stmt}{f k:En->Res Fl}(h1:m6 X E st f)(h2:mf X E aF k):mf X E (st::aF) (aI f k):=by
 obtain⟨t,a,b⟩:=h1;obtain⟨u,c,d⟩:=h2;refine⟨_,wq a c,fun g M ρ env σ H D rep p=>b g M ρ env σ H _ rep ?_⟩;unfold aI at p;cases q:f env with
 |stuck=>rw[q]at p;exact p
 |exc c=>rw[q]at p;exact p
 |ok r=>
  rw[q]at p;cases r with
  |nx aO=>exact fun σ' M' ρ' H' e rep'=>d g M' ρ' aO σ' H' D rep' (PostS.frz e p)
  |bk aO=>exact p
  |ct aO=>exact p
  |rt r=>exact p
  |rm r aO=>exact p
noncomputable def m7 (c:En->Res Bool)(a b:En->Res Fl):En->Res Fl:=fun env=>(c env).bind fun k=>if k then a env else b env
theorem bC (hc:vD X E c fc)(ha:mf X E a fa)(hb:mf X E b fb):m6 X E (.If c a b pos) (m7 fc fa fb):=by
 obtain⟨tc,p1,s1⟩:=hc;obtain⟨ta,p2,s2⟩:=ha;obtain⟨tb,p3,s3⟩:=hb;refine⟨_,FZ p1 p2 p3,fun g M ρ env σ H D rep p=>s1.oneS rep p fun b M' H' e rep' p'=>?_⟩;cases b with
 |true=>exact o8 (s2 g M' ρ env σ H' D rep' p')
 |false=>exact o7 (s3 g M' ρ env σ H' D rep' p')
noncomputable def b8 (f:En->Res R):En->Res Fl:=fun env=>(f env).bind fun r=>.ok (.rt r)
theorem ROk.ret (rep:Rep g M ρ env σ H)(h0:Same g.H₀ H0)(h:ROk g M ρ H0 H v r)(hz:∀ a,¬ g.Z a):RetOk g H v r:=by
 have mu:∀ a,M a->g.H₀ a=none->Mu H a:=fun a h1 h2=>(rep.fl a h1 h2).elim id fun z=>(hz a z.1).elim;have key:∀{fr:Bool}{a:Addr},msk g M fr a->nl g.H₀ H a\/(fr=false/\g.Ma a):=fun{fr a} z=>by
  cases fr with
  |true=>exact .inl ⟨z.2 rfl,mu a z.1 (z.2 rfl)⟩
  |false=>exact(rep.inn a z.1).imp (fun w=>⟨w,mu a z.1 w⟩) fun w=>⟨rfl,w⟩
 cases r with
 |val d fr al=>exact Is.weak (fun a z=>z.elim key fun⟨i,_,o⟩=>.inl (rep.priv i a o).2) h
 |new ds fr=>obtain⟨a,vs,rfl,h1,h2,h3,h4,h5⟩:=h;exact⟨a,vs,rfl,h1,h0.free h3,IsAll.weak (fun b z=>⟨fun e=>h2 (e▸z.1),key z⟩) h5⟩
 |fre d=>obtain⟨T,ht,is⟩:=h;exact Is.weak (fun a z=>let ⟨_,a2,a3,_⟩:=ht a z;⟨h0.free a2,a3⟩) is
theorem ROk.flatIs (h:ROk g M ρ H0 H v r)(hf:r.d.flat=true):Is H (fun _=>False) r.d v:=by
 cases r with
 |val d fr al=>exact Is.flat hf h
 |new ds fr=>simp[D.flat,R.d]at hf
 |fre d=>obtain⟨T,_,is⟩:=h;exact Is.flat hf is
theorem az (h:PD X E e f):m6 X E (.Return (some e) pos) (b8 f):=by obtain⟨t,p1,s1⟩:=h;exact⟨_,Dj p1,fun g M ρ env σ H D rep p=>s1.oneS rep p fun r v M' H' e rep' ro p'=>p' v M' H' (Frz.refl _ _) rep'.same (fun hz=>ro.ret rep' rep.same hz) fun hf=>ro.flatIs hf⟩
noncomputable def bw (i:Nat)(f:En->Res R):En->Res Fl:=fun env=>(f env).bind fun r=>if i<env.length then .ok (.nx (put env i r)) else .stuck
theorem tR (s:Snd mg E t f):rZ mg E (Dm t (jn i)) (bw i f):=by
 intro g M ρ env σ H D rep p;refine s.oneS rep p fun r v M' H' e rep' ro p'=>?_;by_cases hi:i<env.length
 .rw[Kf hi]at p';obtain⟨M2,ρ2,e2,rep2⟩:=rep'.store rep.same hi ro;exact p' _ M2 ρ2 H' e2 rep2
 .rw[Kh hi]at p';exact p'.elim
theorem aE (hN:X.N.Nodup)(hi:X.N[i]?=some x)(hx:Af X.env.scope x)(h:PD X E e f)(hs:autoParam (swapsWith e (some (.Name x pos')) pos.line X.env=pure false) OD._auto_1)
 (hf:autoParam (X.fn x=true\/X.env.scope.names.lookup x=some .local) Oz._auto_1):m6 X E (.Assign [.Name x pos'] e pos) (bw i f):=by
 obtain⟨t,p1,s1⟩:=h;exact⟨_,qY hN hi hx p1 hs hf,tR s1⟩
noncomputable def kY (env:En)(i:Nat):Option (List D×Bool):=match env[i]? with
 |some (some (.own ds fr))=>some (ds,fr)
 |some (some (.tre (.lst ds)))=>some (ds,true)
 |_=>none
mutual
noncomputable def D.sz:D->Nat
 | .tup ds=>D.szs ds+1
 | .lst ds=>D.szs ds+1
 | .dic _ ds=>D.szs ds+1
 |_=>0
noncomputable def D.szs:List D->Nat
 | []=>0
 |d::ds=>d.sz+D.szs ds+1
end
section
variable {H:Hp}{m m':Addr->Prop}
mutual
theorem Is.avoid (ha:Is H m' e (.ref a)):∀{d:D}{v:V},d.sz<e.sz->Is H m d v->Is H (fun b=>m b/\b≠a) d v
 | .non,_,_,h=>h
 | .bl _,_,_,h=>h
 | .int _,_,_,h=>h
 | .str _,_,_,h=>h
 | .tup ds,_,hs,h=>by obtain⟨b,vs,rfl,h1,h2⟩:=h;simp only[D.sz]at hs;exact⟨b,vs,rfl,h1,IsAll.avoid ha (by lia) h2⟩
 | .lst ds,_,hs,h=>by
  have h':=h;obtain⟨b,vs,rfl,h1,h2⟩:=h;have nb:b≠a:=fun z=>by subst z;have q:=Is.inj h' ha;rw[q]at hs;lia
  simp only[D.sz]at hs;refine⟨b,vs,rfl,?_,IsAll.avoid ha (by lia) h2⟩;rcases h1 with⟨h1,h3⟩|⟨o,h1,h3⟩
  .exact .inl ⟨h1,h3,nb⟩
  .exact .inr ⟨o,h1,h3,nb⟩
 | .dic ks ds,_,hs,h=>by
  have h':=h;obtain⟨b,kvs,rfl,h1,h2⟩:=h;have nb:b≠a:=fun z=>by subst z;have q:=Is.inj h' ha;rw[q]at hs;lia
  simp only[D.sz]at hs;exact⟨b,kvs,rfl,⟨h1.1,h1.2,nb⟩,IsAll.avoid ha (by lia) h2⟩
theorem IsAll.avoid (ha:Is H m' e (.ref a)):∀{ds:List D}{vs:List V},D.szs ds<e.sz->IsAll H m ds vs->IsAll H (fun b=>m b/\b≠a) ds vs
 | [],_,_,h=>h
 |d::ds,_,hs,h=>by obtain⟨v,r,rfl,h1,h2⟩:=h;simp only[D.szs]at hs;exact⟨v,r,rfl,Is.avoid ha (by lia) h1,IsAll.avoid ha (by lia) h2⟩
end
end
theorem Rep.toOwn (rep:Rep g M ρ env σ H)(e:kY env i=some (ds,fr)) :
 ∃(M':Addr->Prop)(ρ':Pr)(a:Addr)(vs:List V),(∀ b,M b->M' b)/\Rep g M' ρ' (env.set i (some (.own ds fr))) σ H/\σ[i]?=some (some (.ref a))/\H a=some (.lst vs)/\(∀ b,ρ' i b↔b=a)/\IsAll H (msk g M' fr) ds vs/\i<env.length/\(∀ j b,ρ' j b->ρ j b)/\(∀ j,j≠i->ρ' j=ρ j):=by
 unfold kY at e;cases q:env[i]? with
 |none=>rw[q]at e;cases e
 |some o=>
  have hi:i<env.length:=(Kc.mp q).1;have hself:env.set i (env[i])=env:=NJ hi;cases o with
  |none=>rw[q]at e;cases e
  |some sl=>
   obtain⟨v,ev,k⟩:=rep.slot i sl q;rw[q]at e;cases sl with
   |val d f=>cases e
   |mes d=>cases e
   |nst ks=>cases e
   |own ds' f'=>
    cases e;obtain⟨a,vs,rfl,h1,h2,h4⟩:=k;have eq:env.set i (some (.own ds fr))=env:=by
     have:env[i]=some (.own ds fr):=by have:=(Kc.mp q).2;exact this
     rw[<- this];exact hself
    rw[eq];exact⟨M,ρ,a,vs,fun _ z=>z,rep,ev,h1,h2,h4,hi,fun _ _ z=>z,fun _ _=>rfl⟩
   |tre d=>
    cases d with
    |lst ds'=>
     cases e;have k':=k;obtain⟨a,vs,rfl,h1,h2⟩:=k;have pa:ρ i a:=by rcases h1 with⟨_,z⟩|⟨_,_,z⟩<;>exact z
     obtain⟨pm,p0,uo,pl,pmu⟩:=rep.priv i a pa;have hl:H a=some (.lst vs):=by
      rcases h1 with⟨h1,_⟩|⟨o,h1,_⟩
      .exact h1
      .rw[h1]at pl;cases pl;exact pmu.elim
     have inner:IsAll H (fun b=>ρ i b/\b≠a) ds vs:=IsAll.avoid k' (by simp only[D.sz];lia) h2
     let M':Addr->Prop:=fun b=>M b\/(ρ i b/\b≠a)
     let ρ':Pr:=oa ρ i fun b=>b=a
     have rr:Rep g M' ρ' (env.set i (some (.own ds true))) (σ.set i (some (.ref a))) H:=by
      have r1:Rep g M' (fun j b=>if j=i then b=a else ρ j b) (env.set i (some (.own ds true))) σ H:=by
       refine⟨rep.same,fun b hb=>hb.elim (rep.froz b) fun z=>?_,fun b hb=>hb.elim (rep.inn b) fun z=>.inl (rep.priv i b z.1).2.1,fun b hb h0=>hb.elim (fun z=>rep.fl b z h0) fun z=>.inl (rep.priv i b z.1).2.2,fun j s ej=>?_,fun j b h=>?_,fun j k b w1 w2=>?_,fun j b h=>?_,by rw[Mi];exact rep.len,rep.zz⟩
       .exact(rep.priv i b z.1).2.2.some
       .by_cases hj:j=i
        .subst hj;rw[KB hi]at ej;cases ej;exact⟨_,ev,a,vs,rfl,hl,fun b=>by simp,IsAll.weak (fun b z=>⟨.inr z,fun _=>(rep.priv j b z.1).2.1⟩) inner⟩
        .rw[Kz (Lj hj)]at ej;obtain⟨v',ev',k2⟩:=rep.slot j s ej;have eT:(fun b=>if j=i then b=a else ρ j b)=ρ j:=by funext b;rw[Kh hj]
         exact⟨v',ev',by show SlOk g M' (fun b=>if j=i then b=a else ρ j b) H v' s;rw[eT];exact SlOk.weak (fun _=>.inl) k2⟩
       .by_cases hj:j=i
        .rw[Kf hj]at h;subst h;exact⟨fun z=>z.elim pm fun z=>z.2 rfl,p0,Mu.lst hl⟩
        .rw[Kh hj]at h;exact⟨fun z=>z.elim (rep.priv j b h).1 fun z=>hj (rep.apart j i b h z.1),(rep.priv j b h).2⟩
       .by_cases hj:j=i
        .by_cases hk:k=i
         .rw[hj,hk]
         .rw[Kf hj]at w1;rw[Kh hk]at w2;subst w1;exact absurd (rep.apart k i b w2 pa) hk
        .by_cases hk:k=i
         .rw[Kf hk]at w2;rw[Kh hj]at w1;subst w2;exact absurd (rep.apart j i b w1 pa) hj
         .rw[Kh hj]at w1;rw[Kh hk]at w2;exact rep.apart j k b w1 w2
       .unfold isOwn;by_cases hj:j=i
        .subst hj;rw[KB hi];rfl
        .rw[Kh hj]at h;rw[Kz (Lj hj)];exact rep.ow j b h
      have hi2:i<σ.length:=by rw[<- rep.len];exact hi
      have es:σ.set i (some (.ref a))=σ:=by have:σ[i]=some (.ref a):=(Kc.mp ev).2;rw[<- this];exact NJ hi2
      rw[es];exact r1
     have hi2:i<σ.length:=by rw[<- rep.len];exact hi
     have es:σ.set i (some (.ref a))=σ:=by have:σ[i]=some (.ref a):=(Kc.mp ev).2;rw[<- this];exact NJ hi2
     rw[es]at rr;refine⟨M',ρ',a,vs,fun _=>.inl,rr,ev,hl,fun b=>by show oa ρ i (fun b=>b=a) i b↔b=a;rw[dA],IsAll.weak (fun b z=>⟨.inr z,fun _=>(rep.priv i b z.1).2.1⟩) inner,hi,fun j b z=>?_,fun j hj=>cv hj⟩;by_cases hj:j=i
     .subst hj;have z:oa ρ j (fun b=>b=a) j b:=z;rw[dA]at z;rw[z];exact pa
     .have z:oa ρ i (fun b=>b=a) j b:=z;rw[cv hj]at z;exact z
    |_=>cases e
noncomputable def sj (i:Nat)(f:En->Res R):En->Res Fl:=fun env=>match kY env i with
 |some (ds,fr)=>(f env).bind fun r=>if ds.length<lim/\¬ i∈r.al then .ok (.nx ((frz env r.al).set i (some (.own (ds++[r.d]) (fr&&r.fr))))) else .stuck
 |none=>.stuck
theorem tS (ha:PE X a (fB i))(h:PD X E e f)
 (hbase:autoParam (attributeBase a "append" X.env (eval a X.env)=eval a X.env) OD._auto_1)
 (hfew:autoParam (((backTo cpos (starEach [e] X.env)).all (fun x=>!x.1)&&(backToKw cpos (keywordEach [] X.env)).all (fun x=>x.1.isSome)
   && decide (([e]:List Expr).length+([]:List Keyword).length+(if ([]:List Keyword).isEmpty then 0 else 1)<30))=true) OD._auto_1)
 (hline:autoParam ((apos.endLine==cpos.line)=true) OD._auto_1) (hs:autoParam (starEach [e] X.env=(false,eval e X.env)::starEach [] X.env) OD._auto_1) (hplain:autoParam ((backTo cpos (starEach [] X.env)).any (·.1)=false) OD._auto_1)
 (hsw:autoParam (swapsWith (.Call (.Attribute a "append" apos) [e] [] cpos) none pos.line X.env=pure false) OD._auto_1) :
 m6 X E (.Expr (.Call (.Attribute a "append" apos) [e] [] cpos) pos) (sj i f):=by
 obtain⟨t,p1,s1⟩:=h;refine⟨_,jL (wI Ny PySem.F.slot_list_append PySem.F.type_list_append iM ha (bh p1 cI hs) hbase hfew hline hs hplain) hsw,fun g M ρ env σ H D rep p=>?_⟩;unfold sj at p;cases e1:kY env i with
 |none=>rw[e1]at p;exact p.elim
 |some o=>
  obtain⟨ds,fr⟩:=o;rw[e1]at p;dsimp only at p;obtain⟨M0,ρ0,l,vs,m0,rep0,ev,k1,k2,k4,hi,_⟩:=rep.toOwn e1;refine⟨_,ev,.inl ⟨rfl,vs,SqL.of k1⟩,s1.oneS rep p fun r y M' H' e rep' ro p'=>?_⟩;by_cases hc:ds.length<lim/\¬ i∈r.al
  .rw[Kf hc]at p';obtain⟨M1,x1,x1m,rep1,is1⟩:=ro.is rep' e rep.same;obtain⟨M2,ρ2,x2,rep2,o2,k5,k6⟩:=Rep.frz r.al rep1;have is2:Is H' (msk g M2 r.fr) r.d y:=Is.frozen rep1 x2 o2 is1;have e2:kY (frz env r.al) i=some (ds,fr):=by unfold kY;rw[sf _ hc.2];exact e1
   obtain⟨M3,ρ3,l3,vs3,m3,rep3,ev3,j1,j2,j4,hi3,_⟩:=rep2.toOwn e2;rw[ev]at ev3;cases ev3;have hl:H' l=some (.lst vs):=e.h _ _ k1;rw[hl]at j1;cases j1;have pl:ρ3 i l:=(j2 l).mpr rfl;obtain⟨nl3,_⟩:=rep3.priv i l pl;have is4:IsAll H' (msk g M3 (fr&&r.fr)) (ds++[r.d]) (vs++[y]):=by refine IsAll.snoc (IsAll.weak (fun b z=>⟨z.1,fun q=>z.2 (by cases fr<;>simp_all)⟩) j4) (Is.weak (fun b z=>⟨m3 b z.1,fun q=>z.2 (by cases fr<;>simp_all)⟩) is2)
   have kp:∀ b u,H' b=some u->(msk g M3 (fr&&r.fr) b\/fixd u)->aJ H' l (.lst (vs++[y])) b=some u:=fun b u q z=>by
    rw[ao]
    .exact q
    .rintro rfl;rcases z with z|z
     .exact nl3 z.1
     .rw[hl]at q;cases q;exact z
   obtain⟨f1,rep4⟩:=rep3.write (sl:=.own (ds++[r.d]) (fr&&r.fr)) (vs':=vs++[y]) pl (by rw[Mi];exact hi3) ev ⟨l,vs++[y],rfl,am,j2,IsAll.mono kp (fun _ _ _ z=>z) is4⟩;rw[List.set_set]at rep4;refine⟨l,vs,y,rfl,rfl,hl,by rw[k4.length];exact iT hc.1,?_⟩;exact p' σ M3 ρ3 _ (Frz.trans ⟨fun a z=>m3 a (x2 a (x1m a z)),fun _ _ q _=>q⟩ f1) rep4
  .rw[Kh hc]at p';exact p'.elim
end
def Ee (ix:List Nat)(t:TG)(asg:D->Bool->En->Option En):Prop:=∀(g:Gd)(M:Addr->Prop)(ρ:Pr)(env aO:En)(σ:St)(H:Hp)(d:D)(fr:Bool)(v:V)(Q:St->Hp->Prop),
 Rep g M ρ env σ H->Is H (msk g M fr) d v->asg d fr env=some aO->(∀(σ':St)(ρ':Pr),Rep g M ρ' aO σ' H->(∀ j,¬ j∈ix->σ'[j]?=σ[j]?)->(∀ j a,ρ' j a->ρ j a)->Q σ' H)->t v σ H Q
def GO (ix:List Nat)(t:Cf)(asg:List D->Bool->En->Option En):Prop:=∀(g:Gd)(M:Addr->Prop)(ρ:Pr)(env aO:En)(σ:St)(H:Hp)(ds:List D)(fr:Bool)(vs:List V)(Q:St->Hp->Prop),
 Rep g M ρ env σ H->IsAll H (msk g M fr) ds vs->asg ds fr env=some aO->(∀(σ':St)(ρ':Pr),Rep g M ρ' aO σ' H->(∀ j,¬ j∈ix->σ'[j]?=σ[j]?)->(∀ j a,ρ' j a->ρ j a)->Q σ' H)->t vs σ H Q
def CJ (X:Cx)(ix:List Nat)(tg:Expr)(asg:D->Bool->En->Option En):Prop:=∃ t,PG X tg t/\Ee ix t asg
def A2 (X:Cx)(ix:List Nat)(ts:List Expr)(asg:List D->Bool->En->Option En):Prop:=∃ t,Dk X ts t/\GO ix t asg
section
variable {X:Cx}{E:XK}
noncomputable def gN (i:Nat):D->Bool->En->Option En:=fun d fr env=>if i<env.length then some (env.set i (some (.val d fr))) else none
theorem vF:Ee [i] (jn i) (gN i):=by
 intro g M ρ env aO σ H d fr v Q rep is e k;unfold gN at e;by_cases hi:i<env.length
 .rw[Kf hi]at e;cases e;exact k _ _ (rep.put (sl:=.val d fr) (T:=fun _=>False) hi is (fun _ z=>z.elim) fun _ z=>z.elim) (fun j hj=>Kz fun e=>hj (by simp[e])) fun j a z=>by
   by_cases hj:j=i
   .subst hj;rw[dA]at z;exact z.elim
   .rw[cv hj]at z;exact z
 .rw[Kh hi]at e;cases e
theorem aM (hN:X.N.Nodup)(hi:X.N[i]?=some x)(hx:Af X.env.scope x)(hf:autoParam (X.fn x=true\/X.env.scope.names.lookup x=some .local) Oz._auto_1):CJ X [i] (.Name x pos) (gN i):=⟨_,jM hN hi hx hf,vF⟩
noncomputable def ju:List D->Bool->En->Option En:=fun ds _ env=>match ds with
 | []=>some env
 |_=>none
noncomputable def bz (f:D->Bool->En->Option En)(fs:List D->Bool->En->Option En):List D->Bool->En->Option En:=fun ds fr env=>match ds with
 |d::r=>(f d fr env).bind fun aO=>fs r fr aO
 | []=>none
theorem pS:A2 X [] [] ju:=⟨_,sV,fun g M ρ env aO σ H ds fr vs Q rep is e k=>by
 cases ds with
 |nil=>cases e;cases is;exact⟨rfl,k σ ρ rep (fun _ _=>rfl) fun _ _ z=>z⟩
 |cons d ds=>cases e⟩
theorem dQ (h1:CJ X ix e f)(h2:A2 X jx es fs)
 (hs:∀ t,PG X e t->∀ u,Dk X es u->Dk X (e::es) (oZ t u)):A2 X (ix++jx) (e::es) (bz f fs):=by
 obtain⟨t,p1,s1⟩:=h1;obtain⟨u,p2,s2⟩:=h2;refine⟨_,hs t p1 u p2,fun g M ρ env aO σ H ds fr vs Q rep is e k=>?_⟩;cases ds with
 |nil=>cases e
 |cons d ds=>
  obtain⟨v,r,rfl,i1,i2⟩:=is;unfold bz at e;dsimp only at e;cases q:f d fr env with
  |none=>rw[q]at e;cases e
  |some env1=>rw[q]at e;refine⟨v,r,rfl,s1 g M ρ env env1 σ H d fr v _ rep i1 q fun σ1 ρ1 rep1 c1 d1=>?_⟩;exact s2 g M ρ1 env1 aO σ1 H ds fr r Q rep1 i2 e fun σ2 ρ2 rep2 c2 d2=>k σ2 ρ2 rep2 (fun j hj=>(c2 j fun z=>hj (by simp[z])).trans (c1 j fun z=>hj (by simp[z]))) fun j a z=>d1 j a (d2 j a z)
noncomputable def gT (n:Nat)(fs:List D->Bool->En->Option En):D->Bool->En->Option En:=fun d fr env=>match d with
 | .tup ds=>if ds.length=n then fs ds fr env else none
 |_=>none
theorem tU (hc:X.calm=true)(h:A2 X ix es fs)(hn:autoParam ((assignEach es X.env).length=n) OD._auto_1)(hst:autoParam ((assignEach es X.env).findIdx? (·.1)=none) OD._auto_1):CJ X ix (.Tuple es k pos) (gT n fs):=by
 obtain⟨t,p1,s1⟩:=h;refine⟨_,wu hc p1 hn hst,fun g M ρ env aO σ H d fr v Q rep is e kk=>?_⟩;unfold gT at e;cases d with
 |tup ds=>
  obtain⟨a,vs,rfl,h1,h2⟩:=is;dsimp only at e;by_cases hl:ds.length=n
  .rw[Kf hl]at e;exact⟨a,vs,rfl,SqT.of h1,h2.length.trans hl,s1 g M ρ env aO σ H ds fr vs Q rep h2 e kk⟩
  .rw[Kh hl]at e;cases e
 |_=>cases e
end
structure Src where
 xs:List D
 fr:Bool
 al:List Nat
structure Walk (J:It) (m:Addr->Prop) (H:Hp) (xs:List D):Prop where
 go:∀ H' i d,(∀ a o,H a=some o->(m a\/fixd o)->H' a=some o)->xs[i]?=some d->J.go i H'/\∀ x H'',J.yld i H' x H''->Same H' H''/\Is H'' m d x
 stop:∀ H',(∀ a o,H a=some o->(m a\/fixd o)->H' a=some o)->J.stop xs.length H'
theorem Walk.weak (w:Walk J m H xs)(h:∀ a,m a->m' a):Walk J m' H xs:=⟨fun H' i d k e=>let ⟨a,b⟩:=w.go H' i d (fun a o q z=>k a o q (z.imp (h a) id)) e;⟨a,fun x H'' y=>let ⟨c,d⟩:=b x H'' y;⟨c,d.weak h⟩⟩,fun H' k=>w.stop H' fun a o q z=>k a o q (z.imp (h a) id)⟩
noncomputable def PostI (mg:Str->Option Ow)(E:XK)(g:Gd)(M:Addr->Prop)(ρ:Pr)(env:En)(σ:St)(H:Hp)(R:It->Hp->Prop):Res Src->Prop
 | .stuck=>False
 | .exc c=>AZ mg E g c
 | .ok s=>∀ J M' H',Ext M H M' H'->Rep g M' ρ env σ H'->Walk J (vmsk g M' s.fr ρ s.al) H' s.xs->R J H'
def GP (mg:Str->Option Ow)(E:XK)(wi:TI)(f:En->Res Src):Prop:=∀ g M ρ env σ H R,Rep g M ρ env σ H->PostI mg E g M ρ env σ H R (f env)->wi σ H R
def FO (X:Cx)(E:XK)(tg iter:Expr)(f:En->Res Src):Prop:=∃ wi,PI X tg iter wi/\GP X.mg E wi f
section
variable {X:Cx}{E:XK}{tg:Expr}
noncomputable def Jl (K:Ou)(tl:TE):TI:=fun σ H R=>tl σ H fun x H1=>∃ a,x=.ref a/\(((∃ xs,SqL K H1 a xs)/\R (FM K a) H1)\/((∃ xs,SqT K H1 a xs)/\R (IV K a) H1))
theorem xX (hl:PE X l tl):PI X tg l (Jl X.K tl):=by
 intro pins s σ H R I h;refine bX (hl pins s σ H _ I h) fun v s1 ⟨x,H1,I1,r1,q1⟩=>?_;obtain⟨a,e,q⟩:=q1;subst e;cases r1;rcases q with⟨⟨xs,hq⟩,q⟩|⟨⟨xs,hq⟩,q⟩
 .obtain⟨its,rv,p,hz⟩:=I1.list hq;refine LW p.isList ?_;refine⟨s1.heap.objs.size,[s1.heap.objs.size],_,_,H1,rfl,I1.kept (t':=s1.toks) fun b o e=>Kb _ e,uV a _,⟨_,Kr _ rfl,rfl,rfl⟩,fun b hb=>?_,q⟩;have e:b=s1.heap.objs.size:=by simpa using hb
  subst e;exact I1.fpOk (Km _) (I1.hok.fresh (Km _))
 .obtain⟨its,rv,p,hz⟩:=I1.tuple hq;refine wpAny_pyIter_tuple (show s1.heap.IsTuple a its.toArray from p) ?_;refine⟨s1.heap.objs.size,[s1.heap.objs.size],_,_,H1,rfl,I1.kept (t':=s1.toks) fun b o e=>Kb _ e,qZ a _,⟨_,Kr _ rfl,rfl,rfl⟩,fun b hb=>?_,q⟩;have e:b=s1.heap.objs.size:=by simpa using hb
  subst e;exact I1.fpOk (Km _) (I1.hok.fresh (Km _))
theorem vG {K:Ou}{a:Addr}{m:Addr->Prop}(h:(H a=some (.lst vs)/\m a)\/∃ o,H a=some (.frz o (.lst vs))/\m a)(is:IsAll H m ds vs):Walk (FM K a) m H ds:=by
 have st:∀ H',(∀ a o,H a=some o->(m a\/fixd o)->H' a=some o)->SqL K H' a vs:=fun H' k=>by
  rcases h with⟨h,hm⟩|⟨o,h,_⟩
  .exact .inl (.inl (k a _ h (.inl hm)))
  .exact .inl (.inr ⟨o,k a _ h (.inr True.intro)⟩)
 refine⟨fun H' i d k e=>?_,fun H' k=>⟨vs,st H' k,by rw[is.length];exact Km _⟩⟩;obtain⟨v,ev,iv⟩:=(is.mono k fun _ _ _ z=>z:IsAll H' m ds vs).get e;refine⟨⟨vs,v,st H' k,ev⟩,fun x H'' y=>?_⟩;obtain⟨rfl,y⟩:=y;have:=y vs (st _ k);rw[ev]at this;cases this;exact⟨Same.refl _,iv⟩
theorem xY {K:Ou}{a:Addr}{m:Addr->Prop}(h:H a=some (.tup vs))(is:IsAll H m ds vs):Walk (IV K a) m H ds:=by have st:∀ H',(∀ a o,H a=some o->(m a\/fixd o)->H' a=some o)->SqT K H' a vs:=fun H' k=>SqT.of (k a _ h (.inr True.intro));refine⟨fun H' i d k e=>?_,fun H' k=>⟨vs,st H' k,by rw[is.length];exact Km _⟩⟩;obtain⟨v,ev,iv⟩:=(is.mono k fun _ _ _ z=>z:IsAll H' m ds vs).get e;refine⟨⟨vs,v,st H' k,ev⟩,fun x H'' y=>?_⟩;obtain⟨rfl,y⟩:=y;have:=y vs (st _ k);rw[ev]at this;cases this;exact⟨Same.refl _,iv⟩
noncomputable def dB (lo:Int)(n:Nat):List D:=(List.range n).map fun k=>.int (lo+(k:Nat))
theorem sk (lo:Int)(n:Nat):Walk (Ig lo n) m H (dB lo n):=by
 refine⟨fun H' i d k e=>?_,fun H' k=>by show n<=(dB lo n).length;simp[dB]⟩;have hi:i<n:=by have:=(Kc.mp e).1;simpa[dB] using this
 refine⟨hi,fun x H'' y=>?_⟩;obtain⟨rfl,rfl⟩:=y;refine⟨Same.refl _,?_⟩;have:(dB lo n)[i]?=some (.int (lo+(i:Nat))):=by simp[dB,hi]
 rw[this]at e;cases e;rfl
noncomputable def iW (f:En->Res R):En->Res Src:=fun env=>(f env).bind fun r=>match r.d with
 | .lst ds=>.ok ⟨ds,r.fr,r.al⟩
 | .tup ds=>.ok ⟨ds,r.fr,r.al⟩
 |_=>.stuck
theorem cw (h:PD X E l f):FO X E tg l (iW f):=by
 obtain⟨t,p1,s1⟩:=h;refine⟨_,xX p1,fun g M ρ env σ H R rep p=>?_⟩;refine s1.one rep (P:=fun M H r=>PostI X.mg E g M ρ env σ H R r) p (fun _ _ z=>z) (fun _ _ _ z=>z) (fun M H M' H' r e p=>?_) fun r v M1 H1 e1 rep1 is q=>?_
 .cases r with
  |stuck=>exact p
  |exc c=>exact p
  |ok s=>exact fun J M2 H2 e2=>p J M2 H2 (e.trans e2)
 .cases z:r.d with
  |lst ds=>rw[z]at is;simp only[z]at q;obtain⟨a,vs,rfl,h1,h2⟩:=is;exact⟨a,rfl,.inl ⟨⟨vs,.inl (h1.imp (·.1) fun⟨o,z,_⟩=>⟨o,z⟩)⟩,q _ M1 H1 (Ext.refl _ _) rep1 (vG h1 h2)⟩⟩
  |tup ds=>rw[z]at is;simp only[z]at q;obtain⟨a,vs,rfl,h1,h2⟩:=is;exact⟨a,rfl,.inr ⟨⟨vs,SqT.of h1⟩,q _ M1 H1 (Ext.refl _ _) rep1 (xY h1 h2)⟩⟩
  |_=>simp only[z]at q;exact q.elim
noncomputable def cR (i:Int):Bool:=decide (-(2 ^ 62)<=i)&&decide (i<2 ^ 62)
noncomputable def A3 (fs:En->Res (List R)):En->Res Src:=fun env=>(fs env).bind fun rs=>match rs.map R.d with
 | [.int j]=>if cR j then .ok ⟨dB 0 j.toNat,true,[]⟩ else .stuck
 |_=>.stuck
theorem PostI.ext {mg:Str->Option Ow}{M M':Addr->Prop}{R:It->Hp->Prop}(e:Ext M H M' H')(p:PostI mg E g M ρ env σ H R r):PostI mg E g M' ρ env σ H' R r:=by
 cases r with
 |stuck=>exact p
 |exc c=>exact p
 |ok s=>exact fun J M2 H2 e2=>p J M2 H2 (e.trans e2)
theorem eG (hg:Gl X "range") (hm:X.mg "range"=none) (ha:vA X E [a] fs) (hs:autoParam (starEach [a] X.env=[(false,eval a X.env)]) OD._auto_1):FO X E tg (.Call (.Name "range" p) [a] [] pos) (A3 fs):=by
 obtain⟨t,p1,s1⟩:=ha;refine⟨_,uW hg hm p1 hs,fun g M ρ env σ H Rq rep p=>s1.one rep (P:=fun M H r=>PostI X.mg E g M ρ env σ H Rq r) p (fun _ _ z=>z) (fun _ _ _ z=>z) (fun _ _ _ _ _ e p=>p.ext e) fun rs vs M1 H1 e1 rep1 is q=>?_⟩;generalize hd:rs.map R.d=ds at is q
 match ds,is,q with
 | [.int j],is,q=>
  obtain⟨v,w,rfl,i1,i2⟩:=is;cases i1;cases i2;dsimp only at q;by_cases hc:cR j=true
  .rw[Kf hc]at q;simp only[cR,KQ,LK]at hc;exact⟨j,rfl,hc.1,hc.2,q _ M1 H1 (Ext.refl _ _) rep1 (sk 0 j.toNat)⟩
  .rw[Kh hc]at q;exact q.elim
 | [],_,q=>exact q.elim
 | [.non],_,q=>exact q.elim
 | [.bl _],_,q=>exact q.elim
 | [.str _],_,q=>exact q.elim
 | [.tup _],_,q=>exact q.elim
 | [.lst _],_,q=>exact q.elim
 | [.dic _ _],_,q=>exact q.elim
 | .int _::_::_,_,q=>exact q.elim
 | .non::_::_,_,q=>exact q.elim
 | .bl _::_::_,_,q=>exact q.elim
 | .str _::_::_,_,q=>exact q.elim
 | .tup _::_::_,_,q=>exact q.elim
 | .lst _::_::_,_,q=>exact q.elim
 | .dic _ _::_::_,_,q=>exact q.elim
noncomputable def cB (asg:D->Bool->En->Option En)(fr:Bool)(body:En->Res Fl):List D->En->Res Fl
 | [],env=>.ok (.nx env)
 |x::xs,env=>match asg x fr env with
  |none=>.stuck
  |some env1=>(body env1).bind fun r=>match r with
   | .nx aO=>cB asg fr body xs aO
   | .ct aO=>cB asg fr body xs aO
   | .bk aO=>.ok (.nx aO)
   | .rt r=>.ok (.rt r)
   | .rm r e=>.ok (.rm r e)
noncomputable def kZ (src:En->Res Src)(asg:D->Bool->En->Option En)(body:En->Res Fl):En->Res Fl:=fun env=>(src env).bind fun s=>cB asg s.fr body s.xs (frz env s.al)
def GQ (J:It)(u:TG)(tb:TS)(D:Ends)(σ:St)(H1:Hp):Prop:=∃ W:Nat->Nat->St->Hp->Prop,(∃ m,W 0 m σ H1)/\∀ i m σ H,W i m σ H->(J.stop i H/\D.nx σ H)\/(J.go i H/\∃ N:St->Hp->Prop,(∀ σ' H',N σ' H'->∃ m',m'<m/\W (i+1) m' σ' H')/\∀ x H',J.yld i H x H'->u x σ H' fun σ2 H2=>tb { D with nx:=N,ct:=N,bk:=D.nx } σ2 H2)
theorem xZ {asg:D->Bool->En->Option En}{fb:En->Res Fl}{g:Gd}{M2:Addr->Prop}{ρ2:Pr}{env2:En}{σ:St}{H1:Hp}{D:Ends}(s2:Ee ix u asg)(s3:rZ X.mg E tb fb)(rep2:Rep g M2 ρ2 env2 σ H1)(wk2:Walk J (msk g M2 fr) H1 xs)(p2':PostS X.mg E g M2 H1 D (cB asg fr fb xs env2)):GQ J u tb D σ H1:=by
 refine⟨fun i m σ' H'=>m=xs.length-i/\i<=xs.length/\∃ M' ρ' aO,Rep g M' ρ' aO σ' H'/\Frz M2 H1 M' H'/\PostS X.mg E g M' H' D (cB asg fr fb (xs.drop i) aO),⟨_,rfl,KU _,M2,ρ2,_,rep2,Frz.refl _ _,p2'⟩,?_⟩;rintro i m σ' H' ⟨rfl,hle,M',ρ',aO,rep',f',p'⟩;have kp:∀ a o,H1 a=some o->(msk g M2 fr a\/fixd o)->H' a=some o:=fun a o e z=>f'.h a o e (z.imp (·.1) id);by_cases hlt:i<xs.length
 .have ed:xs[i]?=some xs[i]:=by simp[hlt]
  obtain⟨go,yl⟩:=wk2.go H' i _ kp ed;have edrop:xs.drop i=xs[i]::xs.drop (i+1):=LS hlt;rw[edrop]at p';unfold cB at p';refine .inr ⟨go,fun σ'' H''=>∃ M'' ρ'' env'',Rep g M'' ρ'' env'' σ'' H''/\Frz M2 H1 M'' H''/\PostS X.mg E g M'' H'' D (cB asg fr fb (xs.drop (i+1)) env''),fun σ'' H'' z=>⟨xs.length-(i+1),by lia,rfl,hlt,z⟩,fun x H'' y=>?_⟩;obtain⟨sm,is⟩:=yl x H'' y;have rep'':=rep'.grow sm;have fx:Frz M' H' M' H'':=⟨fun _ z=>z,fun a o e _=>sm a o e⟩;have is':Is H'' (msk g M' fr) xs[i] x:=is.weak fun a z=>msk.mono f'.m z;cases qa:asg xs[i] fr aO with
  |none=>simp only[qa]at p';exact p'.elim
  |some env1=>
   simp only[qa]at p';refine s2 g M' ρ' aO env1 σ' H'' _ fr x _ rep'' is' qa fun σ1 ρ1 rep1' _ _=>?_;refine s3 g M' ρ1 env1 σ1 H'' _ rep1' ?_;have p'':=PostS.frz fx p';cases qb:fb env1 with
   |stuck=>rw[qb]at p'';exact p''
   |exc c=>rw[qb]at p'';exact p''
   |ok r=>
    rw[qb]at p'';cases r with
    |nx e3=>exact fun σ3 M3 ρ3 H3 f3 rep3=>⟨M3,ρ3,e3,rep3,(f'.trans fx).trans f3,PostS.frz f3 p''⟩
    |ct e3=>exact fun σ3 M3 ρ3 H3 f3 rep3=>⟨M3,ρ3,e3,rep3,(f'.trans fx).trans f3,PostS.frz f3 p''⟩
    |bk e3=>exact p''
    |rt r=>exact p''
    |rm r e3=>exact p''
 .have e:i=xs.length:=by lia
  subst e;rw[Oq]at p';exact .inl ⟨wk2.stop H' kp,p' σ' M' ρ' H' (Frz.refl _ _) rep'⟩
theorem gg (hp:PassesOwn (model X.prog X.w) X.A X.env X.xe)(hc:X.calm=true)
 (hi:FO X E tg iter src) (hg:CJ X ix tg asg) (hb:mf X E body fb) (hs:autoParam (∀ x,foldedSetIterable iter X.env x=pure x) OB._auto_1):m6 X E (.For tg iter body [] pos) (kZ src asg fb):=by
 obtain⟨wi,p1,s1⟩:=hi;obtain⟨u,p2,s2⟩:=hg;obtain⟨tb,p3,s3⟩:=hb;refine⟨_,wy hp hc p1 p2 p3 hs,fun g M ρ env σ H D rep p=>?_⟩;refine s1 g M ρ env σ H _ rep ?_;unfold kZ at p;cases q:src env with
 |stuck=>rw[q]at p;exact p
 |exc c=>rw[q]at p;exact p
 |ok s=>rw[q]at p;intro J M1 H1 e1 rep1 wk;obtain⟨M2,ρ2,x2,rep2,o2,_,_⟩:=Rep.frz s.al rep1;have wk2:Walk J (msk g M2 s.fr) H1 s.xs:=wk.weak fun a z=>z.elim (msk.mono x2) fun⟨i,hi,o⟩=>⟨o2 i hi a o,fun _=>(rep1.priv i a o).2.1⟩;have p2':PostS X.mg E g M2 H1 D (cB asg s.fr fb s.xs (frz env s.al)):=PostS.frz (e1.frz.trans ⟨x2,fun _ _ q _=>q⟩) p;exact xZ s2 s3 rep2 wk2 p2'
end
theorem eJ:∀(names:List (Str×NameKind))(cs:List (Str×Addr)),(∀ x∈names,x.2=.free->∃ c,env.cells.lookup x.1=some c)->(∀ y c,cs.lookup y=some c->env.cells.lookup y=some c)->
 ∃ cl,(forIn names cs fun(x:Str×NameKind)(r:List (Str×Addr))=>(do
  if (x.2==.free)=true then
   let c <- cellOf env x.1
   pure (ForInStep.yield ((x.1,c)::r))
  else pure (ForInStep.yield r):Sem (ForInStep (List (Str×Addr)))))=pure cl/\(∀ y c,cl.lookup y=some c->env.cells.lookup y=some c)/\(∀ x∈names,x.2=.free->∃ c,cl.lookup x.1=some c)/\(∀ y c,cs.lookup y=some c->∃ c',cl.lookup y=some c')
 | [],cs,_,h=>⟨cs,by simp,h,fun _ z=>absurd z (by simp),fun y c e=>⟨c,e⟩⟩
 |(n,k)::r,cs,hf,h=>by
  by_cases hk:k=.free
  .subst hk;obtain⟨c,hc⟩:=hf (n,.free) (by simp) rfl;have hco:cellOf env n=pure c:=by simp[cellOf,hc]
   have h':∀ y c',((n,c)::cs).lookup y=some c'->env.cells.lookup y=some c':=fun y c' e=>by
    rw[MN]at e;cases hy:y==n with
    |true=>rw[hy]at e;cases e;rw[eq_of_beq hy];exact hc
    |false=>rw[hy]at e;exact h y c' e
   obtain⟨cl,e1,e2,e3,e4⟩:=eJ r ((n,c)::cs) (fun x hx=>hf x (by simp[hx])) h';have self:∃ c',cl.lookup n=some c':=e4 n c (by simp[MN]);refine⟨cl,?_,e2,fun x hx hxf=>?_,fun y c' e=>?_⟩
   .rw[N3];simp only[beq_self_eq_true,Mp,hco,pure_bind];exact e1
   .rcases Kj.mp hx with rfl|hx
    .exact self
    .exact e3 x hx hxf
   .by_cases hy:y=n
    .rw[hy];exact self
    .refine e4 y c' ?_;have hb:(y==n)=false:=by simpa using hy
     rw[MN,hb];exact e
  .obtain⟨cl,e1,e2,e3,e4⟩:=eJ r cs (fun x hx=>hf x (by simp[hx])) h;refine⟨cl,?_,e2,fun x hx hxf=>?_,e4⟩
   .rw[N3];have hkb:(k==NameKind.free)=false:=by simpa using hk
    simp only[hkb,Ks,Lh,pure_bind];exact e1
   .rcases Kj.mp hx with rfl|hx
    .exact absurd hxf hk
    .exact e3 x hx hxf
theorem mh (h:∀ x∈scope.names,x.2=.free->∃ c,env.cells.lookup x.1=some c) :
 ∃ cl,closureFor scope env=pure cl/\(∀ y c,cl.lookup y=some c->env.cells.lookup y=some c)/\(∀ x∈scope.names,x.2=.free->∃ c,cl.lookup x.1=some c):=by
 obtain⟨cl,e1,e2,e3,_⟩:=eJ scope.names [] h (fun _ _ e=>by simp at e);refine⟨cl,?_,e2,e3⟩;unfold closureFor;refine Eq.trans ?_ (show((pure cl:Sem (List (Str×Addr))) >>= fun cs=>pure cs)=pure cl by simp);rw[<- e1]
 all_goals first
  |rfl
  |(congr 1;congr 1;funext x r;obtain⟨n,k⟩:=x;first|rfl|(dsimp only;split<;>simp_all))
theorem jv {f:Str->NameKind->NameKind}:∀(names:List (Str×NameKind))(y:Str),(names.map fun x=>(x.1,f x.1 x.2)).lookup y=(names.lookup y).map (f y)
 | [],y=>rfl
 |(n,k)::r,y=>by
  rw[Kx,MN,MN];cases h:y==n with
  |true=>rw[eq_of_beq h];rfl
  |false=>exact jv r y
theorem fH (scope:Scope)(env:Env)(y:Str):(relabel scope env).names.lookup y=(scope.names.lookup y).map fun k=>if (k==.free&&env.scope.kind==.function&&env.kindOf y==some .cell)=true then .cell else k:=by
 have e:(relabel scope env).names=scope.names.map fun x=>(x.1,(fun n k=>if (k==NameKind.free&&env.scope.kind==.function&&env.kindOf n==some .cell)=true then NameKind.cell else k) x.1 x.2):=by unfold relabel;refine Lw fun x _=>?_;obtain⟨n,k⟩:=x;dsimp only;split<;>rfl
 rw[e];exact jv (f:=fun n k=>if (k==NameKind.free&&env.scope.kind==.function&&env.kindOf n==some .cell)=true then NameKind.cell else k) scope.names y
theorem oh (h:scope.names.lookup y=some .free):(relabel scope env).names.lookup y=some .cell\/(relabel scope env).names.lookup y=some .free:=by
 rw[fH,h];simp only[Option.map_some];split
 .exact .inl rfl
 .exact .inr rfl
noncomputable def bS (X:Cx)(scope:Scope)(N:List Str)(cl:List (Str×Addr))(C:Addr)(s:Ot)(H:Hp)(ex:List Addr):Cx:={ X with N:=N,s₀:=s,H₀:=H,env:=compEnvC scope cl C X.env,outer:=X.stack,ex:=ex,fn:=fun _=>false,pn:=[],xe:=fun _ _=>False }
section
variable {X:Cx}{pins:List (Addr×Obj)}{σ:St}{H:Hp}{s:Ot}{scope:Scope}{N:List Str}{cl:List (Str×Addr)}{C:Addr}{ex:List Addr}
theorem A4 (I:L2.Inv X pins σ H s)(hkind:scope.kind=.function)(hcell:∀ y∈scope.names,y.2≠.cell)(hcl:∀ y c,cl.lookup y=some c->X.env.cells.lookup y=some c)(hhas:∀ x∈scope.names,x.2=.free->∃ c,cl.lookup x.1=some c)
 (hC:s.heap.objs.size<=C) (hex:∀ b∈ex,FpOk X pins H b/\b<s.heap.objs.size):(bS X scope N cl C s H ex).Ok where
 mod:=I.ok.mod
 kind:=hkind
 glob:=I.ok.glob
 blt:=I.ok.blt
 above:=hC
 inj:=fun x y c h1 h2=>I.ok.inj x y c (hcl x c h1) (hcl y c h2)
 has:=fun y hy=>by
  have key:∀ k,(relabel scope X.env).names.lookup y=some k->(k=.cell\/k=.free)->∃ c,cl.lookup y=some c:=fun k e hk=>by
   rw[fH]at e;cases q:scope.names.lookup y with
   |none=>rw[q]at e;cases e
   |some k0=>
    have hm:=L5 q;have h0:=hcell _ hm;have hf:k0=.free:=by
     rw[q]at e;simp only[Option.map_some,Option.some.injEq]at e;split at e
     .rename_i z;simp only[KQ,NY]at z;exact z.1.1
     .rcases hk with hk|hk
      .exact absurd (e.trans hk) h0
      .exact e.trans hk
    exact hhas _ hm hf
  rcases hy with hy|hy
  .exact key _ hy (.inl rfl)
  .exact key _ hy (.inr rfl)
 cab:=fun _ _ h=>by cases h
 hd:=I.ok.hd
 frames:=I.ok.frames
 stk:=.inl rfl
 exf:=fun b hb=>⟨KJ (KR (hex b hb).2 hC),fun x c e=>(hex b hb).1.2.2.2.2.1 x c (hcl x c e)⟩
 bs:=fun b o e=>I.bs b o e
 bsz:=KA I.ok.bsz I.sz
 noex:=fun b o e hb=>by
  rcases (hex b hb).1.2.2.2.1 with z|z
  .exact I.ok.noex b o e z
  .exact absurd (KR (Kt e) (KA I.ok.bsz z)) (LY _)
 exfs:=fun b hb hfs=>by
  rcases Kj.mp (I.stkSub b hfs) with z|z
  .exact(hex b hb).1.2.1 z
  .exact(hex b hb).1.2.2.1 z
 funs:=I.stack
 frf:=I.stkFree
 kt:=I.kt
structure Caps (X:Cx) (scope:Scope) (capN:List Str) (caps:List Nat):Prop where
 at':∀(k:Nat)(y:Str),capN[k]?=some y->∃ j:Nat,caps[k]?=some j/\X.N[j]?=some y
 out:∀ y∈capN,X.env.kindOf y=some .cell\/X.env.kindOf y=some .free
 inn:∀ y∈capN,scope.names.lookup y=some .free
 len:caps.length=capN.length
noncomputable def iX (σ:St)(caps:List Nat):St:=caps.map fun j=>(σ[j]?).join
theorem x5 (I:L2.Inv X pins σ H s)(hkind:scope.kind=.function)(hcell:∀ y∈scope.names,y.2≠.cell)(hcl:∀ y c,cl.lookup y=some c->X.env.cells.lookup y=some c)(hhas:∀ x∈scope.names,x.2=.free->∃ c,cl.lookup x.1=some c)
 (hC:s.heap.objs.size<=C) (hex:∀ b∈ex,FpOk X pins H b/\b<s.heap.objs.size) (hc:Caps X scope capN caps) (kp:∀ b o,s.heap.get? b=some o->h4.get? b=some o) (ns:h4.Ns C m4) :
 L2.Inv (bS X scope (tN++capN) cl C s H ex) [] (List.replicate tN.length none++iX σ caps) H { s with heap:=h4,toks:=tk } where
 ok:=A4 I hkind hcell hcl hhas hC hex
 os:=rfl
 bare:=I.bare
 base:=Un.kept kp
 loc:=by
  refine⟨m4,ns,fun i y v e1 e2 e3=>?_⟩;by_cases hlt:i<tN.length
  .rw[Kw (by simpa using hlt),MH]at e2;rw[Kf hlt]at e2;cases e2
  .obtain⟨k,rfl⟩ : ∃ k,i=tN.length+k:=⟨i-tN.length,by lia⟩;have e1:capN[k]?=some y:=by
    have e1:(tN++capN)[tN.length+k]?=some y:=e1
    rwa [Kk (by lia),Mg]at e1
   have e2:(iX σ caps)[k]?=some (some v):=by
    rwa [Kk (by simp),NG,Mg]at e2
   obtain⟨j,ej,eN⟩:=hc.at' k y e1;have e4:σ[j]?=some (some v):=by
    unfold iX at e2;rw[K6,ej]at e2;have e2:(σ[j]?).join=some v:=by simpa using e2
    cases q:σ[j]? with
    |none=>rw[q]at e2;cases e2
    |some o=>rw[q]at e2;cases o with
     |none=>cases e2
     |some w=>cases e2;rfl
   have hm:=LM e1;obtain⟨m,hn,hl⟩:=I.loc;have hout:=hc.out y hm;obtain⟨u,r,l⟩:=hl j y v eN e4 (.inr hout);refine⟨u,r,.inr ⟨oh (hc.inn y hm),?_⟩⟩;obtain⟨c,hcl2⟩:=hhas (y,.free) (L5 (hc.inn y hm)) rfl;refine⟨c,hcl2,?_⟩;rcases l with⟨l,_⟩|⟨_,c',e5,z⟩
   .rcases hout with h|h<;>(rw[h]at l;cases l)
   .have:=hcl y c hcl2;rw[e5]at this;cases this;obtain⟨o,ho,hd⟩:=z;exact⟨o,kp _ o ho,hd⟩
 cell:=fun y c e=>by obtain⟨v,o,ho,hd⟩:=I.cell y c (hcl y c e);exact⟨v,o,kp _ o ho,hd⟩
 free:=I.hok.fresh hC
 freeC:=fun y c e=>I.freeC y c (hcl y c e)
 pin:=fun p hp=>absurd (show p∈([]:List (Addr×Obj)) from hp) (by simp)
 hok:=I.hok.kept kp
 len:=by simp[bS,iX,hc.len]
theorem vH (I:L2.Inv X pins σ H s)(hX:X'=bS X scope N cl C s H ex)(hC:s.heap.objs.size<=C)(hex:∀ b∈ex,FpOk X pins H b/\b<s.heap.objs.size)
 (I':L2.Inv X' pl σ' H' s'):L2.Inv X pins σ H' s'/\FpOk X pins H' C:=by
 subst hX;refine⟨I.call' (ch:=ex) I'.os I'.base I'.hok I'.bare fun b hb=>?_,I.fpOk hC I'.free⟩;obtain⟨_,h2,h3,h4,h5,h6⟩:=(hex b hb).1;exact⟨h4,h2,h5,h6⟩
theorem tV (I:L2.Inv X pins σ H s)(hf:FpOk X pins H C)(sb:Heap.SameBut C s.heap h'):L2.Inv X pins σ H { s with heap:=h' }:=I.turned (t':=s.toks) (it:=C) (fun b o hb e=>(sb.2 b hb).trans e) hf.1 hf.2.1 hf.2.2.2.1 hf.2.2.2.2.1 hf.2.2.2.2.2
end
section
variable {X:Cx}{pins:List (Addr×Obj)}{σ:St}{H3:Hp}{s3:Ot}{scope:Scope}{tg:Expr}{tN:List Str}{capN:List Str}{cl:List (Str×Addr)}{C:Addr}{fp:List Addr}{elt iter:Expr}{pos:Pos}{ifs:List Expr}
def GR (X:Cx)(ifs:List Expr)(tt:TT):Prop:=∀(pins:List (Addr×Obj))(s:Ot)(σ:St)(H:Hp)(Q:Bool->Hp->Prop),L2.Inv X pins σ H s->tt σ H Q->
 wpAny (model X.prog X.w) X.A (forIn ifs true fun c r=>if r=true then do let ok <- isTrue c X.env (eval c X.env);pure (ForInStep.yield ok) else pure (ForInStep.yield r)) (TP X pins σ Q) X.xe s
theorem A5:GR X [] (fun _ H Q=>Q true H):=fun _ _ σ H Q I q=>wpAny_tests_nil ⟨H,I,q⟩
theorem A6 (h:PT X c tt):GR X [c] tt:=fun pins s σ H Q I q=>wpAny_tests_one (h pins s σ H Q I q)
theorem vI (hX:X'=bS X scope (tN++capN) cl C s3 H3 fp)(T:Turn X.prog X.w X.K tg J fp it tn)(hcalm:X.calm=true)
 (I4:L2.Inv X' [] (List.replicate tN.length none++σc) H3 s4) (bR:X'.N.length=tN.length+σc.length) (st4:tn 0 s4.heap) (hf:∀ b∈fp,FpOk X' [] H3 b)
 (hg:PG X' tg gt) (ht:GR X' ifs tt) (he:PE X' elt te)
   (W:Nat->Nat->List V->Hp->Prop) (Fin:List V->Hp->Prop) (w0:∃ m,W 0 m [] H3)
   (turn:∀ i m acc H,W i m acc H->H Dl=some (.lst acc)/\((J.stop i H/\Fin acc H)\/(J.go i H/\∀ xv H' o,J.yld i H xv H'->o.length=tN.length->gt xv (o++σc) H' fun σ2 H1=>(∀ j:Nat,tN.length<=j->σ2[j]?=(o++σc)[j]?)/\tt σ2 H1 fun b H2=>if b=true then
     te σ2 H2 fun y H5=>H5 Dl=some (.lst acc)/\acc.length<sizeLine/\∃ m',m'<m/\W (i+1) m' (acc++[y]) (aJ H5 Dl (.lst (acc++[y]))) else ∃ m',m'<m/\W (i+1) m' acc H2)))
   (R:Result->Ot->Prop) (hR:∀ σ' H' acc s',L2.Inv X' [] σ' H' s'->H' Dl=some (.lst acc)->Fin acc H'->R (.ok .next) s') :
   codeAny (model X.prog X.w) X.A (.compLoop (.ListComp elt [⟨tg,iter,ifs,0⟩] scope pos) 0 (.ref it) (.ref Dl) (compEnvC scope cl C X.env)) R s4:=by
  obtain⟨m0,w0⟩:=w0;have eA:X'.A=X.A:=by rw[hX];rfl
  have eP:X'.prog=X.prog:=by rw[hX];rfl
  have eW:X'.w=X.w:=by rw[hX];rfl
  have eK:X'.K=X.K:=by rw[hX];rfl
  have eE:X'.env=compEnvC scope cl C X.env:=by rw[hX];rfl
  have eX:X'.xe=fun _ _=>False:=by rw[hX];rfl
  have eC:X'.calm=true:=by rw[hX];exact hcalm
  have stat:∀{H':Hp},(∀ b∈fp,H' b=none)->∀ b∈fp,FpOk X' [] H' b:=fun hn b hb=>⟨hn b hb,(hf b hb).2⟩;refine codeAny_loop rfl (fun n s=>∃ i o acc H,L2.Inv X' [] (o++σc) H s/\o.length=tN.length/\tn i s.heap/\(∀ b∈fp,H b=none)/\W i n acc H) ?_ m0 ⟨0,List.replicate tN.length none,[],H3,I4,by simp,st4,fun b hb=>(hf b hb).1,w0⟩;rintro n s5 ⟨i,o,acc,H5,I5,lo,st5,fr5,w5⟩;show wpAny _ X.A ((compTurn (.ListComp elt [⟨tg,iter,ifs,0⟩] scope pos) 0 (.ref it) (.ref Dl) (compEnvC scope cl C X.env)).onRaise (fun x=>do noteFrame x (compEnvC scope cl C X.env);theTreesLotGoes x)) _ _ s5;refine wpAny_noted ?_;rw[compTurn_list];obtain⟨hD,alt⟩:=turn i n acc H5 w5;rcases alt with⟨stop,fin⟩|⟨go,step⟩
  .refine Ka (wpAny_standAt (Ka (LC (eA▸T.done X' eP eW eK eC i [] s5 _ H5 _ I5 (stat fr5) st5 stop) (fun r s6 ⟨hr,I6⟩=>?_) fun _ _ z=>z)));subst hr;exact Ke (hR _ H5 acc s6 I6 hD fin)
  .refine Ka (wpAny_standAt (Ka (LC (eA▸T.item X' eP eW eK eC i [] s5 _ H5 _ I5 (stat fr5) st5 go) (fun r s6 ⟨u,hr,h6⟩=>?_) fun _ _ z=>z)));subst hr;refine Ka (LC h6 (fun _ s7 ⟨xv,H7,I7,r7,y7,st7,fr7⟩=>?_) fun _ _ z=>z);have I7':=I7.pinned (stat fr7) (T.obj _ _ st7);have hg':=hg _ s7 _ H7 xv u _ I7' r7 (step xv H7 o y7 lo);rw[eP,eW,eA,eE,eX]at hg';refine Ka (LC hg' (fun _ s8 ⟨σ8,H8,I8,shp,q8⟩=>?_) fun _ _ z=>z.elim);obtain⟨o2,DU,eσ⟩ : ∃ o2:St,o2.length=tN.length/\σ8=o2++σc:=by
    have l8:σ8.length=tN.length+σc.length:=I8.len.trans bR;refine⟨σ8.take tN.length,by rw[K7];lia,?_⟩;have ed:σ8.drop tN.length=σc:=by
     apply LH
     intro j;rw[L4,shp (tN.length+j) (by lia),Kk (by lia),lo,Mg]
    rw[<- ed,KL]
   subst eσ;have ht':=ht _ s8 _ H8 _ I8 q8;rw[eP,eW,eA,eE,eX]at ht';refine Ka (LC ht' (fun ok s9 ⟨H9,I9,q9⟩=>?_) fun _ _ z=>z.elim);have again:∀{s':Ot}{H':Hp},L2.Inv X' ([]++ke fp s7.heap) (o2++σc) H' s'->L2.Inv X' [] (o2++σc) H' s'/\tn (i+1) s'.heap/\∀ b∈fp,H' b=none:=fun{s' H'} J'=>by refine⟨J'.unpinned,T.keep _ _ _ st7 fun b hb ob e=>(J'.pin (b,ob) (K1 _ (K1 _ (d8 hb e)))).1,fun b hb=>?_⟩;obtain⟨ob,e,d⟩:=T.obj _ _ st7 b hb;exact(J'.pin (b,ob) (K1 _ (K1 _ (d8 hb e)))).2.1
   cases ok with
   |false=>obtain⟨m',hm,w9⟩:=(show ∃ m',m'<n/\W (i+1) m' acc H9 from by simpa using q9);obtain⟨a1,a2,a3⟩:=again I9;exact Ke ⟨rfl,m',hm,i+1,o2,acc,H9,a1,DU,a2,a3,w9⟩
   |true=>
    have q9:te (o2++σc) H9 fun y H5=>H5 Dl=some (.lst acc)/\acc.length<sizeLine/\∃ m',m'<n/\W (i+1) m' (acc++[y]) (aJ H5 Dl (.lst (acc++[y]))):=by simpa using q9
    have he':=he _ s9 _ H9 _ I9 q9;rw[eP,eW,eA,eE,eX]at he';refine Ka (Ka (LC he' (fun v s10 ⟨y,H10,I10,ry,eD,hl,m',hm,w10⟩=>?_) fun _ _ z=>z.elim));have hm':=iM (X:=X') _ s10 _ H10 (.ref Dl) [y] (.ref Dl) [v] (fun w H'=>w=.non/\H'=aJ H10 Dl (.lst (acc++[y]))) I10 rfl (.cons ry .nil) ⟨Dl,acc,y,rfl,rfl,eD,hl,rfl,rfl⟩;rw[eP,eW,eA,eX]at hm';refine Ka (LC hm' (fun _ s11 ⟨w,H11,I11,_,_,eH⟩=>?_) fun _ _ z=>z.elim);subst eH;obtain⟨a1,a2,a3⟩:=again I11;exact Ke (Ke ⟨rfl,m',hm,i+1,o2,acc++[y],_,a1,DU,a2,a3,w10⟩)
end
structure CScope (X:Cx) (scope:Scope) (tN:List Str) (capN:List Str) (caps:List Nat):Prop where
 kind:scope.kind=.function
 ncell:∀ y∈scope.names,y.2≠.cell
 names:∀ y∈scope.names,y.2=.local->scope.names.lookup y.1=some .local
 own:∀ x∈tN,scope.names.lookup x=some .local
 free:∀ y∈scope.names,y.2=.free->X.env.kindOf y.1=some .cell\/X.env.kindOf y.1=some .free
 cap:Caps X scope capN caps
 nd:(tN++capN).Nodup
section
variable {X:Cx}{pins:List (Addr×Obj)}{σ:St}{H:Hp}{s:Ot}{scope:Scope}{tg:Expr}{tN:List Str}{capN:List Str}{caps:List Nat}{elt iter:Expr}{pos:Pos}{ifs:List Expr}{wi:TI}
def fJ (X:Cx)(scope:Scope)(tg:Expr)(tN:List Str)(capN:List Str)(caps:List Nat)(elt:Expr)(ifs:List Expr)(σ:St)(Fin:Addr->List V->Hp->Prop)(J:It)(H2:Hp):Prop:=
 ∀(Dl:Addr),H2 Dl=none->∀(cl:List (Str×Addr))(C:Addr)(s3:Ot)(fp:List Addr),∃(gt:TG)(tt:TT)(te:TE)(W:Nat->Nat->List V->Hp->Prop),
  PG (bS X scope (tN++capN) cl C s3 (aJ H2 Dl (.lst [])) fp) tg gt/\GR (bS X scope (tN++capN) cl C s3 (aJ H2 Dl (.lst [])) fp) ifs tt/\PE (bS X scope (tN++capN) cl C s3 (aJ H2 Dl (.lst [])) fp) elt te/\(∃ m,W 0 m [] (aJ H2 Dl (.lst [])))/\
  ∀ i m acc H,W i m acc H->H Dl=some (.lst acc)/\((J.stop i H/\Fin Dl acc H)\/(J.go i H/\∀ xv H' (o:St),J.yld i H xv H'->o.length=tN.length->gt xv (o++iX σ caps) H' fun σ2 H1=>(∀ j:Nat,tN.length<=j->σ2[j]?=(o++iX σ caps)[j]?)/\tt σ2 H1 fun b H2=>if b=true then
   te σ2 H2 fun y H5=>H5 Dl=some (.lst acc)/\acc.length<sizeLine/\∃ m',m'<m/\W (i+1) m' (acc++[y]) (aJ H5 Dl (.lst (acc++[y]))) else ∃ m',m'<m/\W (i+1) m' acc H2))
theorem m8 {use:Option (Ow->Sem Unit)}{Qv:Ow->Ot->Prop}{Fin:Addr->List V->Hp->Prop}(hc:X.calm=true)(S:CScope X scope tN capN caps)(I:L2.Inv X pins σ H s)(hi:PI X tg iter wi)
 (h:wi σ H (fJ X scope tg tN capN caps elt ifs σ Fin))
 (hu:∀(Dl C:Addr)(acc:List V)(H':Hp)(s':Ot),L2.Inv X pins σ H' s'->FpOk X pins H' C->H' Dl=some (.lst acc)->Fin Dl acc H'->(∃ m,s'.heap.Ns C m)->compPost (model X.prog X.w) X.A X.xe use Qv (.ref Dl) C (.ok .next) s')
 (hs:autoParam (∀ x,foldedSetIterable iter X.env x=pure x) OB._auto_1) :
 wpAny (model X.prog X.w) X.A (comprehension (.ListComp elt [⟨tg,iter,ifs,0⟩] scope pos) scope X.env (firstIterPos [⟨tg,iter,ifs,0⟩] pos) (newList []) false (eval iter X.env) use) Qv X.xe s:=by
 obtain⟨cl,ecl,hcl,hhas⟩:=mh (scope:=scope) (env:=X.env) fun y hy hf=>I.ok.has y.1 (S.free y hy hf);refine wpAny_comprehension_free rfl hs ecl S.kind S.names (bX (hi pins s σ H _ I h) fun v s1 h1=>bX h1 fun itv s2 h2=>?_);obtain⟨it,fp,tn,J,H2,rfl,I2,T,st2,f2,goal⟩:=h2;refine MC (wpAny_newFunctionEnv S.ncell (by intro y hy;simp at hy) (fun h₁ hns₁ hsb₁=>?_) S.kind);dsimp only at hns₁ hsb₁ ⊢;have hD:H2 s2.heap.objs.size=none:=I2.hok.fresh (Km _);have I3:L2.Inv X pins σ (aJ H2 s2.heap.objs.size (.lst [])) { s2 with heap:=s2.heap.push { cls:=.type "list",dict:=none,data:=.seq ([]:List Ow).toArray } }:=I2.laid (t':=s2.toks) (fun b u e=>Kb _ e) (Km _) ⟨KU _,[],0,.nil,Kr _ rfl⟩;generalize hs3:({ s2 with heap:=s2.heap.push { cls:=.type "list",dict:=none,data:=.seq ([]:List Ow).toArray } }:Ot)=s3 at I3;have e3:s2.heap.push { cls:=.type "list",dict:=none,data:=.seq ([]:List Ow).toArray }=s3.heap:=by rw[<- hs3]
 rw[e3]at hns₁ hsb₁ ⊢;have kp:∀ b o,s3.heap.get? b=some o->h₁.get? b=some o:=fun b o e=>hsb₁.extBut b o (KJ (Kt e)) (Kb _ e);have k23:∀ b o,s2.heap.get? b=some o->s3.heap.get? b=some o:=fun b o e=>by rw[<- e3];exact Kb _ e
 have hex:∀ b∈fp,FpOk X pins (aJ H2 s2.heap.objs.size (.lst [])) b/\b<s3.heap.objs.size:=fun b hb=>by obtain⟨o,ho,_⟩:=T.obj 0 _ st2 b hb;have hlt:b<s2.heap.objs.size:=Kt ho;refine⟨⟨?_,(f2 b hb).2⟩,Kt (k23 b o ho)⟩;rw[ao (KJ hlt)];exact(f2 b hb).1
 have es:({ s2 with heap:=h₁,toks:=s2.toks+([]:List (Str×Ow)).length }:Ot)={ s3 with heap:=h₁,toks:=s2.toks+([]:List (Str×Ow)).length }:=by rw[<- hs3]
 have I4:L2.Inv (bS X scope (tN++capN) cl s3.heap.objs.size s3 (aJ H2 s2.heap.objs.size (.lst [])) fp) [] (List.replicate tN.length none++iX σ caps) (aJ H2 s2.heap.objs.size (.lst [])) { s3 with heap:=h₁,toks:=s2.toks+([]:List (Str×Ow)).length }:=x5 I3 S.kind S.ncell hcl hhas (Km _) hex S.cap kp hns₁;obtain⟨gt,tt,te,W,hg,ht,he,w0,turn⟩:=goal s2.heap.objs.size hD cl s3.heap.objs.size s3 fp;have st4:tn 0 h₁:=T.keep 0 _ _ st2 fun b hb o e=>kp b o (k23 b o e);have f4:∀ b∈fp,FpOk (bS X scope (tN++capN) cl s3.heap.objs.size s3 (aJ H2 s2.heap.objs.size (.lst [])) fp) [] (aJ H2 s2.heap.objs.size (.lst [])) b:=fun b hb=>by
  obtain⟨f,hlt⟩:=hex b hb;refine⟨f.1,KJ hlt,fun hfs=>?_,.inl hb,fun y c e=>f.2.2.2.2.1 y c (hcl y c e),fun p hp=>absurd (show p∈([]:List (Addr×Obj)) from hp) (by simp)⟩;rcases Kj.mp (I3.stkSub b hfs) with z|z
  .exact f.2.1 z
  .exact f.2.2.1 z
 have loop:codeAny (model X.prog X.w) X.A (.compLoop (.ListComp elt [⟨tg,iter,ifs,0⟩] scope pos) 0 (.ref it) (.ref s2.heap.objs.size) (compEnvC scope cl s3.heap.objs.size X.env)) (compPost (model X.prog X.w) X.A X.xe use Qv (.ref s2.heap.objs.size) s3.heap.objs.size)
  { s3 with heap:=h₁,toks:=s2.toks+([]:List (Str×Ow)).length }:=by
  refine vI rfl T hc I4 (by show(tN++capN).length=_;simp[iX,S.cap.len]) st4 f4 hg ht he W (Fin s2.heap.objs.size) w0 turn _ fun σ' H' acc s' I' hD' fin=>?_;obtain⟨Io,fo⟩:=vH I3 rfl (Km _) hex I';obtain⟨m',hn',_⟩:=I'.loc;exact hu _ _ acc H' s' Io fo hD' fin ⟨m',hn'⟩
 rw[es];exact codeAny_compStart_list loop (T.self _ 0 _ _ _ st4 loop)
theorem x6 (hc:X.calm=true)(S:CScope X scope tN capN caps)(I:L2.Inv X pins σ H s)(hi:PI X tg iter wi)(h:wi σ H (fJ X scope tg tN capN caps elt ifs σ fun Dl _ H'=>Q (.ref Dl) H'))
 (hs:autoParam (∀ x,foldedSetIterable iter X.env x=pure x) OB._auto_1):wpAny (model X.prog X.w) X.A (eval (.ListComp elt [⟨tg,iter,ifs,0⟩] scope pos) X.env) (EP X pins σ Q) X.xe s:=by
 rw[eval_ListComp];refine m8 (use:=none) hc S I hi h (fun Dl C acc H' s' Io fo hD fin hn=>?_) hs;obtain⟨m,hn⟩:=hn;exact⟨m,hn,fun h' sb=>⟨.ref Dl,H',tV Io fo sb,rfl,fin⟩⟩
theorem x8 {D:Ends}{i:Nat}(hc:X.calm=true)(S:CScope X scope tN capN caps)(hN:X.N.Nodup)(hi':X.N[i]?=some y)(hy:X.env.scope.names.lookup y=some .local)
 (hsw:swapsWith (.ListComp elt [⟨tg,iter,ifs,0⟩] scope pos) (some (.Name y py)) spos.line X.env=pure true) (I:L2.Inv X pins σ H s) (hi:PI X tg iter wi)
 (h:wi σ H (fJ X scope tg tN capN caps elt ifs σ fun Dl _ H'=>D.nx (σ.set i (some (.ref Dl))) H')) (hs:autoParam (∀ x,foldedSetIterable iter X.env x=pure x) OB._auto_1) :
 wpAny (model X.prog X.w) X.A (exec (.Assign [.Name y py] (.ListComp elt [⟨tg,iter,ifs,0⟩] scope pos) spos) X.env) (SP X pins D) X.xe s:=by
 rw[exec_Assign_Name_used _ _ _ _ hsw];refine Ka (wpAny_standAt (Ka ?_));show wpAny _ X.A (do let _ <- comprehension (.ListComp elt [⟨tg,iter,ifs,0⟩] scope pos) scope X.env _ (newList []) false (eval iter X.env) (some (assign (.Name y py) X.env))) _ _ s;refine Ka (LC (m8 (use:=some (assign (.Name y py) X.env)) (Qv:=fun _ s'=>SP X pins D .next s') hc S I hi h (fun Dl C acc H' s' Io fo hD fin hn=>?_) hs) (fun _ s' hq=>Ke (Ke hq)) fun _ _ e=>e);obtain⟨m,hn⟩:=hn;show wpAny _ X.A (assign (.Name y py) X.env (.ref Dl)) _ _ _;refine wpAny_assign_Name (mB (v:=.ref Dl) Io hN hi' (.inl hy) rfl (fun s'' I'' ⟨a,sb,ha⟩=>?_) (.inr hy));have nca:C≠a:=by
  rcases ha with z|z
  .rw[z];exact fo.2.1
  .exact Lj (fo.2.2.2.2.1 y a z)
 refine⟨m,hn.sameBut sb nca,fun h' sb'=>?_⟩;exact⟨_,H',tV I'' fo sb',fin⟩
end
noncomputable def Res.noX {α:Type}:Res α->Res α
 | .exc _=>.stuck
 |r=>r
noncomputable def A7 (env:En)(j:Nat):Option Sl:=match env[j]? with
 |some (some (.val d fr))=>some (.val d fr)
 |some (some (.own ds fr))=>some (.val (.lst ds) fr)
 |some (some (.tre d))=>some (.val d true)
 |_=>none
noncomputable def dv (env:En)(n:Nat)(caps:List Nat):En:=List.replicate n none++caps.map (A7 env)
noncomputable def db (mk:D->Option En)(test:En->Res Bool)(elt:En->Res R):List D->Res (List R)
 | []=>.ok []
 |x::xs=>match mk x with
  |none=>.stuck
  |some e=>(test e).bind fun b=>if b then (elt e).bind fun r=>(db mk test elt xs).bind fun rs=>.ok (r::rs) else db mk test elt xs
noncomputable def cC (n:Nat)(caps:List Nat)(src:En->Res Src)(asg:D->Bool->En->Option En)(test:En->Res Bool)(elt:En->Res R):En->Res R:=fun env=>(src env).bind fun s=>if s.xs.length<=lim then
 (db (fun d=>asg d s.fr (dv env n caps)) test elt s.xs).noX.bind fun rs=>.ok (iU (rs.map R.d) (aQ rs) (s.al++caps.filter (isOwn env))) else .stuck
def vJ (X:Cx)(E:XK)(ifs:List Expr)(f:En->Res Bool):Prop:=∃ t,GR X ifs t/\SndT X.mg E t f
section
variable {X:Cx}{E:XK}
theorem cD:vJ X E [] (fun _=>.ok true):=⟨_,A5,fun g M ρ env σ H Q rep p=>p M H (Ext.refl _ _) rep⟩
theorem x9 (h:vD X E c f):vJ X E [c] f:=let ⟨t,a,b⟩:=h;⟨t,A6 a,b⟩
end
section
variable {g:Gd}{M M1:Addr->Prop}{ρ:Pr}{env:En}{σ:St}{H H1:Hp}
theorem GS (rep:Rep g M1 ρ env σ H1)(s:Same H1 H)(ho:o.length=n)(hM:∀ a,(M1 a\/∃ i,i∈caps/\ρ i a)->M' a)(hf:∀ a,M' a->H a≠none)(hi:∀ a,M' a->g.H₀ a=none\/g.Ma a)(hfl:∀ a,M' a->g.H₀ a=none->MuZ g H a) :
 Rep g M' (fun _ _=>False) (dv env n caps) (o++iX σ caps) H where
 same:=rep.same.trans s
 froz:=hf
 inn:=hi
 fl:=hfl
 slot:=fun i sl e=>by
  by_cases hlt:i<n
  .unfold dv at e;rw[Kw (by simpa using hlt),MH,Kf hlt]at e;cases e
  .obtain⟨k,rfl⟩ : ∃ k,i=n+k:=⟨i-n,by lia⟩;have e:(caps.map (A7 env))[k]?=some (some sl):=by
    unfold dv at e
    rwa [Kk (by simp),NG,Mg]at e
   rw[K6]at e;cases q:caps[k]? with
   |none=>rw[q]at e;cases e
   |some j=>
    rw[q]at e;have e:A7 env j=some sl:=by simpa using e
    have hj:j∈caps:=LM q;unfold A7 at e;cases q2:env[j]? with
    |none=>rw[q2]at e;cases e
    |some o=>
     cases o with
     |none=>rw[q2]at e;cases e
     |some sl0=>
      obtain⟨v,ev,k2⟩:=rep.slot j sl0 q2;have el:(o++iX σ caps)[n+k]?=some (some v):=by rw[Kk (by lia),ho,Mg];unfold iX;rw[K6,q];simp[ev]
      rw[q2]at e;cases sl0 with
      |val d' fr'=>cases e;exact⟨v,el,Is.mono (fun a o q _=>s a o q) (fun a _ _ z=>⟨hM a (.inl z.1),z.2⟩) k2⟩
      |own ds' fr'=>cases e;obtain⟨a,vs,rfl,h1,h2,h4⟩:=k2;have ha:=(h2 a).mpr rfl;exact⟨_,el,a,vs,rfl,.inl ⟨s _ _ h1,hM a (.inr ⟨j,hj,ha⟩),fun _=>(rep.priv j a ha).2.1⟩,IsAll.mono (fun a o q _=>s a o q) (fun a _ _ z=>⟨hM a (.inl z.1),z.2⟩) h4⟩
      |tre d'=>cases e;exact⟨v,el,Is.mono (fun a o q _=>s a o q) (fun a _ _ z=>⟨hM a (.inr ⟨j,hj,z⟩),fun _=>(rep.priv j a z).2.1⟩) k2⟩
      |mes d'=>cases e
      |nst ks'=>cases e
 priv:=fun _ _ z=>z.elim
 apart:=fun _ _ _ z=>z.elim
 ow:=fun _ _ z=>z.elim
 len:=by simp[dv,iX,ho]
 zz:=fun a z e=>rep.zz a z (s.free e)
end
noncomputable def x_ (X:Cx)(scope:Scope)(tg:Expr)(tN:List Str)(capN:List Str)(caps:List Nat)(elt:Expr)(ifs:List Expr)(wi:TI):TE:=fun σ H Q=>wi σ H (fJ X scope tg tN capN caps elt ifs σ fun Dl _ H'=>Q (.ref Dl) H')
section
variable {X:Cx}{E:XK}{scope:Scope}{tg:Expr}{tN:List Str}{capN:List Str}{caps:List Nat}{ix:List Nat}{asg:D->Bool->En->Option En}{elt iter:Expr}{pos:Pos}{ifs:List Expr}{wi:TI}{src:En->Res Src}{ft:En->Res Bool}{fe:En->Res R}
theorem vK {M1:Addr->Prop}{H1:Hp}{Q:VK}{J:It}{s:Src}{full:List R}(hix:∀ j∈ix,j<tN.length)(hg:∀ cl C s3 H3 fp,CJ (bS X scope (tN++capN) cl C s3 H3 fp) ix tg asg)(ht:∀ cl C s3 H3 fp,vJ (bS X scope (tN++capN) cl C s3 H3 fp) E0 ifs ft)(he:∀ cl C s3 H3 fp,PD (bS X scope (tN++capN) cl C s3 H3 fp) E0 elt fe)(rep1:Rep g M1 ρ env σ H1)(wk:Walk J (vmsk g M1 s.fr ρ s.al) H1 s.xs)(hlim:s.xs.length<=lim)(qc:db (fun d=>asg d s.fr (dv env tN.length caps)) ft fe s.xs=.ok full)
 (p:PostE X.mg E g M1 ρ env σ H1 Q (.ok (iU (full.map R.d) (aQ full) (s.al++caps.filter (isOwn env))))):fJ X scope tg tN capN caps elt ifs σ (fun Dl _ H'=>Q (.ref Dl) H') J H1:=by
 intro Dl hDl cl C s3 fp;obtain⟨gt,pg,sg⟩:=hg cl C s3 (aJ H1 Dl (.lst [])) fp;obtain⟨tt,pt,st⟩:=ht cl C s3 (aJ H1 Dl (.lst [])) fp;obtain⟨te,pe,se⟩:=he cl C s3 (aJ H1 Dl (.lst [])) fp;obtain⟨d0,dm,dow⟩:=rep1.free hDl;refine⟨gt,tt,te,fun i m acc H=>m=s.xs.length-i/\i<=s.xs.length/\∃(M':Addr->Prop)(rs aF:List R),Same H1 H/\H Dl=some (.lst acc)/\(∀ a,(M1 a\/∃ j,j∈s.al++caps/\ρ j a)->M' a)/\
  (∀ a,M' a->(M1 a\/∃ j,j∈s.al++caps/\ρ j a)\/H1 a=none)/\¬ M' Dl/\(∀ a,M' a->H a≠none)/\(∀ a,M' a->g.H₀ a=none->MuZ g H a)/\rs.length<=i/\IsAll H (msk g M' (aQ rs)) (rs.map R.d) acc/\db (fun d=>asg d s.fr (dv env tN.length caps)) ft fe (s.xs.drop i)=.ok aF/\full=rs++aF,
  pg,pt,pe,⟨_,rfl,KU _,(fun a=>M1 a\/∃ j,j∈s.al++caps/\ρ j a),[],full,aP hDl,am,fun _ z=>z,fun _ z=>.inl z,?_,?_,?_,Km _,rfl,qc,rfl⟩,?_⟩
 .rintro (z|⟨j,_,z⟩)
  .exact dm z
  .exact dow j z
 .rintro a (z|⟨j,_,z⟩) hn
  .exact rep1.froz a z ((aP hDl).free hn)
  .obtain⟨_,_,uo,hz,_⟩:=rep1.priv j a z;rw[(aP hDl) a _ hz]at hn;cases hn
 .rintro a (z|⟨j,_,z⟩) h0
  .exact(rep1.fl a z h0).same fun o e=>aP hDl _ _ e
  .exact .inl ((rep1.priv j a z).2.2.same fun o e=>aP hDl _ _ e)
 .rintro i m acc H2 ⟨rfl,hle,M',rs,aF,sm,hD2,hMi,hMo,nD,frz2,fl2,hrs,isA,qr,efull⟩;refine⟨hD2,?_⟩;have kp:∀ a o,H1 a=some o->(vmsk g M1 s.fr ρ s.al a\/fixd o)->H2 a=some o:=fun a o e _=>sm a o e;have inn2:∀{M'':Addr->Prop}{a:Addr},(M1 a\/∃ j,j∈s.al++caps/\ρ j a)\/H1 a=none->g.H₀ a=none\/g.Ma a:=fun{M'' a} z=>by
   rcases z with(z|⟨j,_,z⟩)|z
   .exact rep1.inn a z
   .exact .inl (rep1.priv j _ z).2.1
   .exact .inl (rep1.same.free z)
  by_cases hlt:i<s.xs.length
  .have ed:s.xs[i]?=some s.xs[i]:=by simp[hlt]
   obtain⟨go,yl⟩:=wk.go H2 i _ kp ed;refine .inr ⟨go,fun xv H3 o y lo=>?_⟩;obtain⟨s23,isx⟩:=yl xv H3 y;have edrop:s.xs.drop i=s.xs[i]::s.xs.drop (i+1):=LS hlt;rw[edrop]at qr;unfold db at qr;have isx':Is H3 (msk g M' s.fr) s.xs[i] xv:=isx.weak fun a z=>by
    rcases z with z|⟨j,hj,z⟩
    .exact⟨hMi a (.inl z.1),z.2⟩
    .exact⟨hMi a (.inr ⟨j,by simp[hj],z⟩),fun _=>(rep1.priv j _ z).2.1⟩
   have repI:Rep g M' (fun _ _=>False) (dv env tN.length caps) (o++iX σ caps) H3:=GS rep1 (sm.trans s23) lo (fun a z=>hMi a (z.imp id fun⟨j,hj,w⟩=>⟨j,by simp[hj],w⟩)) (fun a z hn=>frz2 a z (s23.free hn)) (fun a z=>inn2 (M'':=M') (hMo a z)) (fun a z h0=>(fl2 a z h0).same fun o e=>s23 _ _ e);cases qa:asg s.xs[i] s.fr (dv env tN.length caps) with
   |none=>simp only[qa]at qr;cases qr
   |some envT=>
   simp only[qa]at qr;refine sg g M' _ _ envT _ H3 _ s.fr xv _ repI isx' qa fun σ2 ρ2 repT shp nρ=>⟨fun j hj=>shp j fun z=>absurd (hix j z) (by lia),?_⟩;refine st g M' ρ2 _ _ H3 _ repT ?_;cases qt:ft envT with
   |stuck=>rw[qt]at qr;cases qr
   |exc c=>rw[qt]at qr;cases qr
   |ok b=>
    rw[qt]at qr;intro M4 H4 e4 rep4;cases b with
    |false=>refine o7 ⟨s.xs.length-(i+1),by lia,rfl,hlt,M',rs,aF,(sm.trans s23).trans e4.h,e4.h _ _ (s23 _ _ hD2),hMi,hMo,nD,fun a z hn=>frz2 a z (s23.free (e4.h.free hn)),fun a z h0=>(fl2 a z h0).same fun o e=>e4.h _ _ (s23 _ _ e),by lia,?_,by simpa using qr,efull⟩;exact IsAll.same e4.h (IsAll.same s23 isA)
    |true=>
     refine o8 ?_;simp only[Res.bind_ok,Mp]at qr;refine se g M4 ρ2 _ _ H4 _ rep4 ?_;cases qe:fe envT with
     |stuck=>rw[qe]at qr;cases qr
     |exc c=>rw[qe]at qr;cases qr
     |ok r=>
      rw[qe]at qr;simp only[Res.bind_ok]at qr;cases qd:db (fun d=>asg d s.fr (dv env tN.length caps)) ft fe (s.xs.drop (i+1)) with
      |stuck=>rw[qd]at qr;cases qr
      |exc c=>rw[qd]at qr;cases qr
      |ok rest'=>
       rw[qd]at qr;have qr:r::rest'=aF:=by simpa using qr
       intro yv M5 H5 e5 rep5 ro;obtain⟨M6,e6,m56,rep6,is6⟩:=ro.is rep5 e5 rep4.same;have D3:H3 Dl=some (.lst acc):=s23 _ _ hD2;have D4:H4 Dl=some (.lst acc):=e4.h _ _ D3;have D5:H5 Dl=some (.lst acc):=e5.h _ _ D4;have nD4:¬ M4 Dl:=fun z=>(e4.n Dl z).elim nD fun w=>by rw[D3]at w;cases w
       have nD6:¬ M6 Dl:=fun z=>(e6.n Dl z).elim nD4 fun w=>by rw[D4]at w;cases w
       have M46:∀ a,M4 a->M6 a:=e6.m;have up:∀ a o,H5 a=some o->a≠Dl->aJ H5 Dl (.lst (acc++[yv])) a=some o:=fun a o e n=>by rw[ao n];exact e
       have kp5:∀(fr:Bool) a o,H5 a=some o->(msk g M6 fr a\/fixd o)->aJ H5 Dl (.lst (acc++[yv])) a=some o:=fun fr a o e z=>up a o e fun w=>by
        subst w;rcases z with z|z
        .exact nD6 z.1
        .rw[D5]at e;cases e;exact z
       refine⟨D5,?_,s.xs.length-(i+1),by lia,rfl,hlt,M6,rs++[r],rest',?_,am,fun a z=>M46 a (e4.m a (hMi a z)),fun a z=>?_,nD6,fun a z=>?_,fun a z h0=>?_,by simp;lia,?_,qd,by rw[efull,<- qr];simp⟩
       .have:acc.length=rs.length:=by rw[isA.length,Kg]
        exact iT (by lia)
       .intro b o e;exact up b o (e5.h _ _ (e4.h _ _ (s23 _ _ (sm _ _ e)))) (aj e hDl)
       .rcases e6.n a z with z|z
        .rcases e4.n a z with z|z
         .exact hMo a z
         .exact .inr (sm.free (s23.free z))
        .exact .inr (sm.free (s23.free (e4.h.free z)))
       .by_cases hw:a=Dl
        .rw[hw,am];simp
        .rw[ao hw];exact rep6.froz a z
       .have hw:a≠Dl:=fun e=>nD6 (e▸z);exact(rep6.fl a z h0).same fun o e=>by rw[ao hw];exact e
       .rw[KI];refine IsAll.append ?_ ⟨yv,[],rfl,?_,rfl⟩
        .have i5:IsAll H5 (msk g M' (aQ rs)) (rs.map R.d) acc:=((isA.same s23).same e4.h).same e5.h;refine(i5.weak fun a z=>(⟨M46 a (e4.m a z.1),fun e=>z.2 (by simp[aQ]at e ⊢;exact e.1)⟩ : msk g M6 (aQ (rs++[r])) a)).mono (kp5 _) fun _ _ _ z=>z
        .refine(is6.weak fun a z=>?_:Is H5 (msk g M6 (aQ (rs++[r]))) r.d yv).mono (kp5 _) fun _ _ _ z=>z;rcases z with z|⟨j,_,z⟩
         .exact⟨z.1,fun e=>z.2 (by simp[aQ]at e;exact e.2)⟩
         .exact(nρ _ _ z).elim
  .have ei:i=s.xs.length:=by lia
   subst ei;refine .inl ⟨wk.stop H2 kp,?_⟩;rw[Oq]at qr;unfold db at qr;cases qr;rw[La]at efull;subst efull;have RM:Rep g (fun a=>M1 a\/(nl H1 H2 a/\M' a)) ρ env σ H2:=rep1.came sm M';have XM:Ext M1 H1 (fun a=>M1 a\/(nl H1 H2 a/\M' a)) H2:=⟨fun _=>.inl,sm,fun _ z=>z.imp id (·.1.1)⟩;have nDl:¬ (M1 Dl\/(nl H1 H2 Dl/\M' Dl)):=fun z=>z.elim dm fun z=>nD z.2;have nwD:∀ b,V.ref Dl=.ref b->H1 b=none:=fun b e=>by cases e;exact hDl
   unfold iU at p;by_cases hfl:D.flats (full.map R.d)=true
   .rw[Kf hfl]at p;exact p _ _ H2 XM RM ⟨Dl,acc,rfl,hD2,nDl,hDl,dow,IsAll.flat hfl isA⟩
   .rw[Kh hfl]at p;by_cases hal:(s.al++caps.filter (isOwn env)).isEmpty=true
    .rw[Kf hal]at p;refine p _ _ H2 XM RM ⟨Dl,acc,rfl,hD2,nDl,hDl,dow,isA.weak fun a z=>⟨?_,z.2⟩⟩;rcases hMo a z.1 with(w|⟨j,hj,w⟩)|w
     .exact .inl w
     .exfalso;have he:s.al++caps.filter (isOwn env)=[]:=by simpa using hal
      rcases Ku.mp hj with hj|hj
      .have:j∈s.al++caps.filter (isOwn env):=KP _ hj;rw[he]at this;simp at this
      .have:j∈s.al++caps.filter (isOwn env):=K1 _ (Ld.mpr ⟨hj,rep1.ow j a w⟩);rw[he]at this;simp at this
     .exact .inr ⟨⟨w,(fl2 a z.1 (rep1.same.free w)).elim id fun q=>(rep1.zz a q.1 w).elim⟩,z.1⟩
    .rw[Kh hal]at p;refine p _ (fun a=>(M1 a\/(nl H1 H2 a/\M' a))\/a=Dl) H2 ⟨fun _ z=>.inl (.inl z),sm,fun a z=>z.elim (XM.n a) fun e=>.inr (e▸hDl)⟩ (RM.more hD2 d0 dow) ⟨Dl,acc,rfl,.inl ⟨hD2,.inl ⟨.inr rfl,fun _=>d0⟩⟩,isA.weak fun a z=>?_⟩;rcases hMo a z.1 with(w|⟨j,hj,w⟩)|w
     .exact .inl ⟨.inl (.inl w),z.2⟩
     .refine .inr ⟨j,?_,w⟩;rcases Ku.mp hj with hj|hj
      .exact KP _ hj
      .exact K1 _ (Ld.mpr ⟨hj,rep1.ow j a w⟩)
     .exact .inl ⟨.inl (.inr ⟨⟨w,(fl2 a z.1 (rep1.same.free w)).elim id fun q=>(rep1.zz a q.1 w).elim⟩,z.1⟩),z.2⟩
theorem pT (si:GP X.mg E wi src)(hix:∀ j∈ix,j<tN.length)(hg:∀ cl C s3 H3 fp,CJ (bS X scope (tN++capN) cl C s3 H3 fp) ix tg asg)(ht:∀ cl C s3 H3 fp,vJ (bS X scope (tN++capN) cl C s3 H3 fp) E0 ifs ft)(he:∀ cl C s3 H3 fp,PD (bS X scope (tN++capN) cl C s3 H3 fp) E0 elt fe) :
 Snd X.mg E (x_ X scope tg tN capN caps elt ifs wi) (cC tN.length caps src asg ft fe):=by
 intro g M ρ env σ H Q rep p;refine si g M ρ env σ H _ rep ?_;unfold cC at p;cases q:src env with
 |stuck=>rw[q]at p;exact p
 |exc c=>rw[q]at p;exact p
 |ok s=>
  rw[q]at p;simp only[Res.bind_ok]at p;intro J M1 H1 e1 rep1 wk Dl hDl cl C s3 fp;by_cases hlim:s.xs.length<=lim
  .rw[Kf hlim]at p;cases qc:db (fun d=>asg d s.fr (dv env tN.length caps)) ft fe s.xs with
   |stuck=>rw[qc]at p;exact p.elim
   |exc c=>rw[qc]at p;exact p.elim
   |ok full=>rw[qc]at p;have p:PostE X.mg E g M1 ρ env σ H1 Q (.ok (iU (full.map R.d) (aQ full) (s.al++caps.filter (isOwn env)))):=PostE.ext e1 p;exact vK hix hg ht he rep1 wk hlim qc p Dl hDl cl C s3 fp
  .rw[Kh hlim]at p;exact p.elim
theorem jU (hc:X.calm=true)(S:CScope X scope tN capN caps)(hi:FO X E tg iter src)(hix:∀ j∈ix,j<tN.length)(hg:∀ cl C s3 H3 fp,CJ (bS X scope (tN++capN) cl C s3 H3 fp) ix tg asg)(ht:∀ cl C s3 H3 fp,vJ (bS X scope (tN++capN) cl C s3 H3 fp) E0 ifs ft)(he:∀ cl C s3 H3 fp,PD (bS X scope (tN++capN) cl C s3 H3 fp) E0 elt fe)
 (hs:autoParam (∀ x,foldedSetIterable iter X.env x=pure x) OB._auto_1):PD X E (.ListComp elt [⟨tg,iter,ifs,0⟩] scope pos) (cC tN.length caps src asg ft fe):=by
 obtain⟨wi,p1,s1⟩:=hi;exact⟨x_ X scope tg tN capN caps elt ifs wi,fun pins s σ H Q I h=>x6 hc S I p1 h hs,pT s1 hix hg ht he⟩
theorem fK (hc:X.calm=true)(S:CScope X scope tN capN caps)(hN:X.N.Nodup)(hi':X.N[i]?=some y)(hy:X.env.scope.names.lookup y=some .local)
 (hi:FO X E tg iter src) (hix:∀ j∈ix,j<tN.length) (hg:∀ cl C s3 H3 fp,CJ (bS X scope (tN++capN) cl C s3 H3 fp) ix tg asg) (ht:∀ cl C s3 H3 fp,vJ (bS X scope (tN++capN) cl C s3 H3 fp) E0 ifs ft) (he:∀ cl C s3 H3 fp,PD (bS X scope (tN++capN) cl C s3 H3 fp) E0 elt fe)
 (hsw:autoParam (swapsWith (.ListComp elt [⟨tg,iter,ifs,0⟩] scope pos) (some (.Name y py)) spos.line X.env=pure true) OD._auto_1) (hs:autoParam (∀ x,foldedSetIterable iter X.env x=pure x) OB._auto_1) :
 m6 X E (.Assign [.Name y py] (.ListComp elt [⟨tg,iter,ifs,0⟩] scope pos) spos) (bw i (cC tN.length caps src asg ft fe)):=by
 obtain⟨wi,p1,s1⟩:=hi;exact⟨Dm (x_ X scope tg tN capN caps elt ifs wi) (jn i),fun pins s σ H D I h=>x8 hc S hN hi' hy hsw I p1 h hs,tR (pT s1 hix hg ht he)⟩
end
noncomputable def fL (N:List Str)(ds:List D):En:=ds.map (fun d=>some (.val d false))++List.replicate (N.length-ds.length) none
noncomputable def dc:Res Fl->Res R
 | .ok (.nx _)=>.ok (.val .non true [])
 | .ok (.rt r)=>.ok r
 | .ok _=>.stuck
 | .exc c=>.exc c
 | .stuck=>.stuck
noncomputable def dE (N:List Str)(FB:En->Res Fl)(ds:List D):Res R:=dc (FB (fL N ds))
theorem vL (is:IsAll H Ma ds vs):Rep (GF H Ma) (fun a=>Ma a/\H a≠none) (fun _ _=>False) (fL N ds) (L2.fw N vs) H where
 same:=Same.refl H
 froz:=fun a z=>z.2
 inn:=fun a z=>.inr z.1
 fl:=fun a z h=>absurd h z.2
 slot:=fun i sl e=>by
  have hl:=is.length;unfold fL at e;by_cases hi:i<ds.length
  .rw[Kw (by simpa using hi),K6]at e;obtain⟨v,ev,iv⟩:=is.get (i:=i) (d:=ds[i]) (by simp[hi]);have e1:ds[i]?=some ds[i]:=by simp[hi]
   rw[e1]at e;cases e;refine⟨v,?_,Is.mono (fun _ _ q _=>q) (fun a o q z=>⟨⟨z,by rw[q];simp⟩,fun z=>by cases z⟩) iv⟩;unfold L2.fw;rw[Kw (by simp;lia),K6,ev];rfl
  .rw[Kk (by simpa using hi),MH]at e;split at e<;>cases e
 priv:=fun _ _ z=>z.elim
 apart:=fun _ _ _ z=>z.elim
 ow:=fun _ _ z=>z.elim
 len:=by have hl:=is.length;unfold fL L2.fw;simp[hl]
 zz:=fun _ z=>z.elim
section
variable {P:Ov}{w:World}{K:Ou}{mg:Str->Option Ow}{base:Heap}
end
section
variable {X:Cx}{E:XK}
noncomputable def CK (mg:Str->Option Ow)(E:XK)(g:Gd)(M:Addr->Prop)(ρ:Pr)(env:En)(σ:St)(H:Hp)(Q:Option Int->Hp->Prop):Res (Option Int)->Prop
 | .stuck=>False
 | .exc c=>AZ mg E g c
 | .ok o=>∀ M' H',Ext M H M' H'->Rep g M' ρ env σ H'->Q o H'
def IG (X:Cx)(E:XK)(e:Option Expr)(f:En->Res (Option Int)):Prop:=∃ t,PO X e t/\∀ g M ρ env σ H Q,Rep g M ρ env σ H->CK X.mg E g M ρ env σ H Q (f env)->t σ H Q
noncomputable def jw (f:En->Res R):En->Res (Option Int):=fun env=>(f env).bind fun r=>match r.d with
 | .int i=>.ok (some i)
 |_=>.stuck
theorem dR (h:PD X E e f):IG X E (some e) (jw f):=by
 obtain⟨t,p1,s1⟩:=h;refine⟨_,Ar p1,fun g M ρ env σ H Q rep p=>s1.one rep (P:=fun M H r=>CK X.mg E g M ρ env σ H Q r) p (fun _ _ z=>z) (fun _ _ _ z=>z) (fun M H M' H' r e p=>?_) fun r v M1 H1 e1 rep1 is q=>?_⟩
 .cases r with
  |stuck=>exact p
  |exc c=>exact p
  |ok o=>exact fun M2 H2 e2=>p M2 H2 (e.trans e2)
 .cases z:r.d with
  |int i=>rw[z]at is;simp only[z]at q;cases is;exact⟨i,rfl,q M1 H1 (Ext.refl _ _) rep1⟩
  |_=>simp only[z]at q;exact q.elim
noncomputable def D.ty:D->String
 | .non=>"NoneType" | .bl _=>"bool" | .int _=>"int" | .str _=>"str" | .tup _=>"tuple" | .lst _=>"list" | .dic _ _=>"dict"
def JP (K:Ou) (H:Hp) (x:V) (t:Ow):Prop:=TyOf K H x t\/(t=.type "dict"/\∃ a,x=.ref a/\Ik H a)
theorem Is.ty {m:Addr->Prop}{v:V}{K:Ou}(h:Is H m d v):JP K H v (.type d.ty):=by
 cases d with
 |non=>cases h;exact .inl .non
 |bl b=>cases h;exact .inl (.bl b)
 |int b=>cases h;exact .inl (.int b)
 |str b=>cases h;exact .inl (.str b)
 |tup ds=>obtain⟨a,vs,rfl,h1,_⟩:=h;exact .inl (.tup h1)
 |lst ds=>
  obtain⟨a,vs,rfl,h1,_⟩:=h;rcases h1 with⟨h1,_⟩|⟨o,h1,_⟩
  .exact .inl (.lst h1)
  .exact .inl (.frz h1)
 |dic ks ds=>obtain⟨a,kvs,rfl,h1,_⟩:=h;exact .inr ⟨rfl,a,rfl,h1.1.imp (fun⟨kvs,e,_⟩=>⟨kvs,e⟩) fun⟨kvs,e,_⟩=>⟨kvs,e⟩⟩
noncomputable def A8 (T:String)(d:D):Bool:=match d with
 | .non=>T=="NoneType"
 | .bl _=>T=="bool" || T=="int"
 | .int _=>T=="int"
 | .str _=>T=="str"
 | .tup _=>T=="tuple"
 | .lst _=>T=="list"
 | .dic _ _=>T=="dict"
def ya (T:String):Prop:=∀(K:Ou)(d:D),PySem.W.kitOne K (.type d.ty) (.type T)=some (A8 T d)
theorem yc:ya "int":=fun K d=>by cases d<;>kernel_rfl
theorem vM:ya "bool":=fun K d=>by cases d<;>kernel_rfl
theorem m9:ya "list":=fun K d=>by cases d<;>kernel_rfl
theorem k9:ya "tuple":=fun K d=>by cases d<;>kernel_rfl
noncomputable def pU (T:String)(fa:En->Res R):En->Res R:=fun env=>(fa env).bind fun r=>.ok (.val (.bl (A8 T r.d)) true [])
theorem yd:CallR X (.builtin "isinstance") (fun xs H Q=>∃ x T t b,xs=[x,.ty T]/\JP X.K H x t/\PySem.W.kitOne X.K t (.type T)=some b/\Q (.bl b) H):=by
 intro pins s σ H xs us Q I r h;obtain⟨x,T,t,b,rfl,ty,e,q⟩:=h;obtain⟨u,c,rfl,ru,rc⟩:=wD r;obtain rfl:c=Value.type T:=rc;rcases ty with ty|⟨rfl,a,rfl,hd⟩
 .exact uZ I ru ty e fun tk=>⟨.bl b,H,I.tok tk,rfl,q⟩
 .obtain rfl:u=Value.ref a:=ru;obtain⟨t1,_⟩:=wO I hd;exact LF Od I.kIn t1 e (fun z=>nomatch z) fun tk=>⟨.bl b,H,I.tok tk,rfl,q⟩
theorem iY (hK:ya T') (hg:Gl X "isinstance") (hm:X.mg "isinstance"=none) (hgT:Gl X T) (hmT:X.mg T=none) (hvT:bootBuiltins T=some (.type T')) (ha:PD X E e fa)
 (hnT:autoParam (T≠"__name__") Oy._auto_1) (hdT:autoParam ((T==("__debug__" : Str))=false) Oy._auto_1)
 (he:autoParam (starEach [e,.Name T q] X.env=(false,eval e X.env)::starEach [.Name T q] X.env) OD._auto_1) (he2:autoParam (starEach [.Name T q] X.env=(false,eval (.Name T q) X.env)::starEach [] X.env) OD._auto_1) (hpl:autoParam ((backTo pos (starEach [.Name T q] X.env)).any (·.1)=false) OD._auto_1) :
 PD X E (.Call (.Name "isinstance" p) [e,.Name T q] [] pos) (pU T' fa):=by
 obtain⟨ta,p1,s1⟩:=ha;refine⟨_,gQ yd hg hm (by decide +kernel) (bh p1 (bh (Ak hgT hmT hvT (v:=.ty T') rfl hnT hdT) cI he2) he) (by decide) (by decide) he hpl,fun g M ρ env σ H Q rep p=>s1.oneE rep p fun r v M1 H1 e1 rep1 is q=>?_⟩;exact⟨v,T',_,_,rfl,is.ty,hK X.K r.d,q _ M1 H1 (Ext.refl _ _) rep1 rfl⟩
noncomputable def cb:List D->Option (List Bool)
 | []=>some []
 | .bl b::r=>(cb r).map fun bs=>b::bs
 |_::_=>none
noncomputable def ye:List R->Res R
 | [r]=>match r.d with
  | .lst ds=>match cb ds with
   |some bs=>.ok (.val (.bl (bs.all id)) true [])
   |none=>.stuck
  |_=>.stuck
 |_=>.stuck
theorem iZ:∀{ds:List D}{bs:List Bool}{i:Nat}{d:D},cb ds=some bs->ds[i]?=some d->∃ b,d=.bl b/\bs[i]?=some b
 | [],_,_,_,_,e=>by simp at e
 | .bl b::r,bs,0,d,h,e=>by
  simp at e;subst e;unfold cb at h;cases q:cb r with
  |none=>rw[q]at h;cases h
  |some bs'=>rw[q]at h;cases h;exact⟨b,rfl,rfl⟩
 | .bl b::r,bs,i+1,d,h,e=>by
  unfold cb at h;cases q:cb r with
  |none=>rw[q]at h;cases h
  |some bs'=>rw[q]at h;cases h;obtain⟨b',e1,e2⟩:=iZ (i:=i) q (by simpa using e);exact⟨b',e1,by simpa using e2⟩
 | .non::_,_,_,_,h,_=>by cases h
 | .int _::_,_,_,_,h,_=>by cases h
 | .str _::_,_,_,_,h,_=>by cases h
 | .tup _::_,_,_,_,h,_=>by cases h
 | .lst _::_,_,_,_,h,_=>by cases h
theorem i6:∀{ds:List D}{bs:List Bool},cb ds=some bs->bs.length=ds.length
 | [],_,h=>by cases h;rfl
 | .bl b::r,bs,h=>by
  unfold cb at h;cases q:cb r with
  |none=>rw[q]at h;cases h
  |some bs'=>rw[q]at h;cases h;simp[i6 q]
 | .non::_,_,h=>by cases h
 | .int _::_,_,h=>by cases h
 | .str _::_,_,h=>by cases h
 | .tup _::_,_,h=>by cases h
 | .lst _::_,_,h=>by cases h
theorem vN (hc:X.calm=true):CallR X (.builtin "all") (fun xs H Q=>∃(p:Addr)(vs:List V)(bs:List Bool),xs=[.ref p]/\SqL X.K H p vs/\vs=bs.map V.bl/\Q (.bl (bs.all id)) H):=by
 intro pins s σ H xs us Q I r h;obtain⟨p,vs,bs,rfl,hq,rfl,q⟩:=h;obtain⟨u,rfl,rx⟩:=fq r;cases rx;obtain⟨its,rv,pl,hz⟩:=I.list hq;have hh:X.A.in1.handled=none:=I.ok.hd hc;obtain⟨o,ho,_⟩:=pl.isList;have hlt:p<s.heap.objs.size:=Kt ho;refine call_all_walk (LW pl.isList ?_);refine⟨s.heap.objs.size,_,_,_,_,_,fun i=>(bs[i]?).getD true,rfl,Walks.list hh s.heap.objs.size p (KJ hlt) its.toArray,⟨⟨_,Kr _ rfl,rfl,rfl⟩,?_⟩,?_,fun h' tk hk=>?_⟩
 .exact pl.isList.at fun o e=>Kb _ e
 .intro i v s' Q' E' hv hQ';have hv:its[i]?=some v:=by simpa using hv
  have hi:i<its.length:=(Kc.mp hv).1;have hl:=rv.length;have hb:i<bs.length:=by simpa using (by rw[Kg]at hl;lia:i<bs.length)
  obtain⟨u',hu,ru⟩:=rv.get (i:=i) (x:=.bl bs[i]) (by simp[hb]);rw[hv]at hu;cases hu;cases ru;have eb:bs[i]?=some bs[i]:=by simp[hb]
  dsimp only at hQ';rw[eb]at hQ';exact LU hQ'
 .have hl:=rv.length;rw[Kg]at hl;have e:((List.range its.toArray.size).all fun i=>(bs[i]?).getD true)=bs.all id:=by
   rw[Ki,<- hl];rw[L_,Lm,Lm];constructor
   .intro h b hb;obtain⟨i,hi⟩:=KG.mp hb;have:=h i (by simp;exact(Kc.mp hi).1);rw[hi]at this;exact this
   .intro h i hi;have hi:i<bs.length:=by simpa using hi
    have eb:bs[i]?=some bs[i]:=by simp[hi]
    rw[eb];exact h _ (Nf hi)
  rw[e];refine⟨.bl _,H,?_,rfl,q⟩;have I1:L2.Inv X pins σ H { s with heap:=s.heap.push { cls:=.type "list_iterator",data:=.fields #[.ref p,.int 0 0] } }:=I.kept (t':=s.toks) fun b o e=>Kb _ e;have fo:=I.fpOk (H':=H) (Km s.heap.objs.size) (I.hok.fresh (Km _));exact I1.turned (t':=tk) (it:=s.heap.objs.size) (fun b o hb e=>hk b o (by simpa using hb) e) fo.1 fo.2.1 fo.2.2.2.1 fo.2.2.2.2.1 fo.2.2.2.2.2
theorem yf (hc:X.calm=true):gC X E (.builtin "all") ye:=by
 refine⟨_,vN hc,fun g M ρ env σ H Q rs vs rep i p=>?_⟩
 match rs,i,p with
 | [r],i,p=>
  obtain⟨v,w,rfl,i1,i2⟩:=i;cases i2;have i1:Is H (vmsk g M (aQ [r]) ρ (bg [r])) r.d v:=i1;unfold ye at p;dsimp only at p;cases q:r.d with
  |lst ds=>
   rw[q]at p i1;obtain⟨a,ws,rfl,h1,h2⟩:=i1.rd;dsimp only at p;cases qb:cb ds with
   |none=>rw[qb]at p;exact p.elim
   |some bs=>
    rw[qb]at p;refine⟨a,ws,bs,rfl,.inl h1,?_,p _ M H (Ext.refl _ _) rep rfl⟩;apply LH
    intro j;by_cases hj:j<ds.length
    .obtain⟨b,e1,e2⟩:=iZ (i:=j) (d:=ds[j]) qb (by simp[hj]);obtain⟨v',ev,iv⟩:=h2.get (i:=j) (d:=ds[j]) (by simp[hj]);rw[e1]at iv;cases iv;rw[ev,K6,e2];rfl
    .have l1:=h2.length;have l2:=i6 qb;rw[Lo (by lia),Lo (by simp;lia)]
  |_=>rw[q]at p;exact p.elim
 | [],_,p=>exact p.elim
 |_::_::_,_,p=>exact p.elim
noncomputable def vO (env:En)(i:Nat):Option D:=match env[i]? with
 |some (some (.tre d))=>some d
 |some (some (.mes d))=>some d
 |_=>none
mutual
theorem Is.sh (hp:∀ a,m a->Mu H a):∀{d:D}{v:V},Is H m d v->IsSh H m d v
 | .non,_,_=>True.intro
 | .bl _,_,_=>True.intro
 | .int _,_,_=>True.intro
 | .str _,_,_=>True.intro
 | .tup ds,_,h=>by obtain⟨a,vs,e,h1,h2⟩:=h;exact⟨a,vs,e,h1,IsAll.sh hp h2⟩
 | .lst ds,_,h=>by
  obtain⟨a,vs,e,h1,h2⟩:=h;rcases h1 with⟨h1,h3⟩|⟨o,h1,h3⟩
  .exact⟨a,vs,e,h1,h3⟩
  .obtain⟨uo,z,zm⟩:=hp a h3;rw[h1]at z;cases z;exact zm.elim
 | .dic _ _,_,_=>True.intro
theorem IsAll.sh (hp:∀ a,m a->Mu H a):∀{ds:List D}{vs:List V},IsAll H m ds vs->IsShs H m ds vs
 | [],_,_=>True.intro
 |d::ds,_,h=>by obtain⟨v,r,e,h1,h2⟩:=h;exact⟨v,r,e,Is.sh hp h1,IsAll.sh hp h2⟩
end
theorem IsShs.get:∀{ds:List D}{vs:List V}{j:Nat}{d:D},IsShs H m ds vs->ds[j]?=some d->∃ v,vs[j]?=some v/\IsSh H m d v
 | [],_,_,_,_,e=>by simp at e
 |d::ds,_,0,_,h,e=>by obtain⟨v,r,rfl,h1,h2⟩:=h;simp at e;subst e;exact⟨v,rfl,h1⟩
 |d::ds,_,j+1,_,h,e=>by obtain⟨v,r,rfl,h1,h2⟩:=h;obtain⟨w,a,b⟩:=IsShs.get (j:=j) h2 (by simpa using e);exact⟨w,by simpa using a,b⟩
theorem A9 (rep:Rep g M ρ env σ H)(e:vO env i=some d):∃ v,σ[i]?=some (some v)/\IsSh H (ρ i) d v/\i<env.length:=by
 unfold vO at e;cases q:env[i]? with
 |none=>rw[q]at e;cases e
 |some o=>
  cases o with
  |none=>rw[q]at e;cases e
  |some sl=>
   have hi:i<env.length:=(Kc.mp q).1;obtain⟨v,ev,k⟩:=rep.slot i sl q;rw[q]at e;cases sl with
   |val d f=>cases e
   |own d f=>cases e
   |tre d'=>cases e;exact⟨v,ev,Is.sh (fun a z=>(rep.priv i a z).2.2) k,hi⟩
   |mes d'=>cases e;exact⟨v,ev,k,hi⟩
   |nst ks=>cases e
noncomputable def tW (d:D)(j:Nat):Bool:=match d with
 | .tup ds=>match ds[j]? with
  |some (.lst _)=>true
  |_=>false
 |_=>false
noncomputable def jy (i j:Nat):En->Res Fl:=fun env=>match vO env i with
 |some d=>if tW d j then .ok (.nx (env.set i (some (.mes d)))) else .stuck
 |none=>.stuck
theorem A_ (h:IsSh H m d v)(e:tW d j=true):∃ a vs l ws,v=.ref a/\H a=some (.tup vs)/\vs[j]?=some (.ref l)/\H l=some (.lst ws)/\m l:=by
 unfold tW at e;cases d with
 |tup ds=>
  obtain⟨a,vs,rfl,h1,h2⟩:=h;dsimp only at e;cases q:ds[j]? with
  |none=>rw[q]at e;cases e
  |some d'=>
   obtain⟨w,ew,iw⟩:=h2.get q;rw[q]at e;cases d' with
   |lst es=>obtain⟨l,ws,rfl,h3,h4⟩:=iw;exact⟨a,vs,l,ws,rfl,h1,ew,h3,h4⟩
   |_=>cases e
 |_=>cases e
theorem vP (hl:H l=some (.lst ws))(h:IsSh H m d v):IsSh (aJ H l (.lst ws')) m d v:=by
 refine IsSh.mono (fun a o e z=>?_) (fun a vs _ e=>?_) (fun _ z=>z) h
 .rw[ao]
  .exact e
  .rintro rfl;rw[hl]at e;cases e;exact z
 .by_cases ha:a=l
  .exact⟨ws',by rw[ha,am]⟩
  .exact⟨vs,by rw[ao ha];exact e⟩
theorem k_ (ha:PE X a (fB i))(hs:nJ (.Constant (.int (j:Nat)) c kpos))
 (hbase:autoParam (attributeBase (.Subscript a (.Constant (.int (j:Nat)) c kpos) spos) "clear" X.env (eval (.Subscript a (.Constant (.int (j:Nat)) c kpos) spos) X.env)=eval (.Subscript a (.Constant (.int (j:Nat)) c kpos) spos) X.env) OD._auto_1) (hline:autoParam ((apos.endLine==cpos.line)=true) OD._auto_1)
 (hsw:autoParam (swapsWith (.Call (.Attribute (.Subscript a (.Constant (.int (j:Nat)) c kpos) spos) "clear" apos) [] [] cpos) none pos.line X.env=pure false) OD._auto_1) :
 m6 X E (.Expr (.Call (.Attribute (.Subscript a (.Constant (.int (j:Nat)) c kpos) spos) "clear" apos) [] [] cpos) pos) (jy i j):=by
 refine⟨_,jL (DF Ny PySem.F.slot_list_clear PySem.F.type_list_clear wJ (Ck ix_tup ha wn hs) hbase hline) hsw,fun g M ρ env σ H D rep p=>?_⟩;unfold jy at p;cases e1:vO env i with
 |none=>rw[e1]at p;exact p.elim
 |some d=>
  rw[e1]at p;dsimp only at p;by_cases hp:tW d j=true
  .rw[Kf hp]at p;obtain⟨v,ev,sh,hi⟩:=A9 rep e1;obtain⟨b,vs,l,ws,rfl,h1,h2,h3,h4⟩:=A_ sh hp;obtain⟨f1,rep2⟩:=rep.write (sl:=.mes d) (vs':=[]) h4 hi ev (vP h3 sh);exact⟨_,ev,b,vs,j,.ref l,rfl,rfl,SqT.of h1,Au h2,.inl ⟨rfl,ws,SqL.of h3⟩,l,ws,rfl,rfl,h3,p σ M ρ _ f1 rep2⟩
  .rw[Kh hp]at p;exact p.elim
end
section
variable {X:Cx}{E:XK}{es:List Expr}{k:Nat}{sS:Pos}
end
noncomputable def JQ (osc:Scope)(N:List Str)(scope:Scope)(tN capN:List Str)(caps:List Nat):Bool:=
 (scope.kind==.function)&&scope.names.all (fun y=>y.2 != .cell)&&scope.names.all (fun y=>y.2 != .local || scope.names.lookup y.1==some .local)&&tN.all (fun x=>scope.names.lookup x==some .local) &&
 scope.names.all (fun y=>y.2 != .free || (osc.names.lookup y.1==some .cell || osc.names.lookup y.1==some .free))&&(capN.zip caps).all (fun p=>N[p.2]?==some p.1)&&(caps.length==capN.length) &&
 capN.all (fun y=>osc.names.lookup y==some .cell || osc.names.lookup y==some .free)&&capN.all (fun y=>scope.names.lookup y==some .free)&&decide (tN++capN).Nodup
theorem CScope.of (h1:X.env.scope=osc)(h2:X.N=N)(h3:JQ osc N scope tN capN caps=true):CScope X scope tN capN caps:=by
 unfold JQ at h3;simp only[KQ,Lm,Nx,NY,bne_iff_ne,LK,ne_eq]at h3;obtain⟨⟨⟨⟨⟨⟨⟨⟨⟨a1,a2⟩,a3⟩,a4⟩,a5⟩,a6⟩,a7⟩,a8⟩,a9⟩,a10⟩:=h3;subst h1 h2;refine⟨a1,a2,fun y hy hl=>(a3 y hy).resolve_left fun z=>z hl,a4,fun y hy hf=>(a5 y hy).resolve_left fun z=>z hf,⟨fun k y e=>?_,a8,a9,a7⟩,a10⟩;have hk:k<capN.length:=(Kc.mp e).1;have hk2:k<caps.length:=by lia
 refine⟨caps[k],by simp[hk2],?_⟩;have hm:(y,caps[k])∈capN.zip caps:=by
  have:(capN.zip caps)[k]?=some (y,caps[k]):=by rw[Na];exact⟨e,by simp[hk2]⟩
  exact LM this
 exact a6 _ hm
structure Fn (K:Ou) (mg:Str->Option Ow) (x:Str) (st:Stmt) (ps:List Str) (f:Addr) (fd:FuncData):Prop where
 fu:Fun K x x st f fd
 bi:Binds K fd ps []
 gl:mg x=some (.ref f)
section
variable {X:Cx}{E:XK}
end
noncomputable def IH (F:List D->Res R):Sp:=fun vs H Q _=>vs.length=1/\∃ ds Ma r,IsAll H Ma ds vs/\F ds=.ok r/\∀ v H',Same H H'->RetOk (GF H Ma) H' v r->Q v H'
theorem eM:∀ ns:List Int,IsAll H m (ns.map D.int) (ns.map V.int)
 | []=>rfl
 |n::r=>⟨.int n,r.map V.int,rfl,rfl,eM r⟩
theorem Ef (hF:∀ ns:List Int,ns.length<=63->∃ f al,F [.lst (ns.map .int)]=.ok (.val (.bl true) f al))(H:Hp)(a:Addr)(ns:List Int)(hl:ns.length<=63)(hS:∃ o,H a=some (.frz o (.lst (ns.map V.int)))) :
 IH F [.ref a] H (fun v _=>v=.bl true) fun _ _ _=>False:=by
 obtain⟨f,al,e⟩:=hF ns hl;obtain⟨o,hS⟩:=hS;exact⟨rfl,[.lst (ns.map .int)],fun b=>b=a,_,⟨_,[],rfl,⟨a,ns.map V.int,rfl,.inr ⟨o,hS,rfl⟩,eM ns⟩,rfl⟩,e,fun v H' _ h=>h⟩
section
variable {P:Ov}{w:World}{K:Ou}{mg:Str->Option Ow}{base:Heap}
theorem FnOk.top (h:FnOk P w K mg base CX k f fd ps (kW mg 1 F)):FnOk P w K mg base CX k f fd ps (IH F):=h.imp fun vs H Q E ⟨hl,ds,Ma,r,is,e,q⟩=>⟨hl,ds,Ma,is,by rw[e];exact q⟩
theorem cE {x qual:Str}{st:Stmt}{f:Addr}{FB:En->Res Fl}(F:Fun K x qual st f fd)(S:FnScope N ps (defScope st))
 (body:∀(cdv:Ow)(A:Ox)(outer:List Env)(s:Ot)(H:Hp)(E:XK),Room k (A.deeper (envOfC qual (defScope st) s.heap.objs.size f cdv))->mf (jo P w K mg base N qual (defScope st) f cdv A outer s H E) E (defBody st) FB) :
 FnOk P w K mg base (iH P w) (k+1) f fd ps (kW mg ps.length (dE N FB)):=by
 obtain⟨oc,od,kV,doc,pm,an,cdv,ct,osl,rfl,lk,hcd⟩:=F.ex;refine Cj lk hcd S (fun vs H Q E h=>h.1) fun A outer s H vs Q E hr hsp=>?_;obtain⟨hl,ds,Ma,is,post⟩:=hsp;obtain⟨t,p1,s1⟩:=body cdv A outer s H E hr;refine⟨t,p1,s1 (GF H Ma) _ _ (fL N ds) (L2.fw N vs) H _ (vL is) ?_⟩;unfold dE at post;cases q:FB (fL N ds) with
 |stuck=>rw[q]at post;exact post
 |exc c=>rw[q]at post;exact post
 |ok r=>
  rw[q]at post;cases r with
  |nx env=>exact fun σ M' ρ' H' _ rep=>post .non H' rep.same rfl
  |rt r=>exact fun v M' H' _ s ro _=>post v H' s (ro fun _ z=>z)
  |rm r env=>exact post.elim
  |bk env=>exact post.elim
  |ct env=>exact post.elim
theorem m_:iJ (iH P w) X E0:=fun _ _ _ _ _ _ _ h=>by obtain⟨_,_,_,_,_,_,_,_,_,_,_,_,_,_,_,z⟩:=h;exact z.elim
end
theorem Eg (h:iH P w l H s (fun _ _ _=>False) e s'):False:=by obtain⟨_,_,_,_,_,_,_,_,_,_,_,_,_,_,_,z⟩:=h;exact z
section
variable {P:Ov}{w:World}{K:Ou}{mg:Str->Option Ow}{base:Heap}{N:List Str}{qual:Str}{scope:Scope}{f:Addr}{cd:Ow}{A:Ox}{outer:List Env}{s₀:Ot}{H₀:Hp}{E:XK}
noncomputable def oi (c:Str)(fs:En->Res (List R)):En->Res Fl:=fun env=>(fs env).bind fun rs=>if rs.length<=lim then .exc c else .stuck
theorem vQ {np cpos pos:Pos}{e₀:Expr}{aF:List Expr}{fs:En->Res (List R)}(hc:XC K mg c C)(hg:Gl (jo P w K mg base N qual scope f cd A outer s₀ H₀ E) c)(ha:vA (jo P w K mg base N qual scope f cd A outer s₀ H₀ E) E (e₀::aF) fs)
 (he:autoParam (starEach (e₀::aF) (jo P w K mg base N qual scope f cd A outer s₀ H₀ E).env=(false,eval e₀ (jo P w K mg base N qual scope f cd A outer s₀ H₀ E).env)::starEach aF (jo P w K mg base N qual scope f cd A outer s₀ H₀ E).env) OD._auto_1)
 (hpl:autoParam ((backTo cpos (starEach aF (jo P w K mg base N qual scope f cd A outer s₀ H₀ E).env)).any (·.1)=false) OD._auto_1) (hd:autoParam ((c==("__debug__" : Str))=false) Oy._auto_1) :
 m6 (jo P w K mg base N qual scope f cd A outer s₀ H₀ E) E (.Raise (some (.Call (.Name c np) (e₀::aF) [] cpos)) none pos) (oi c fs):=by
 obtain⟨t,p1,s1⟩:=ha;refine⟨_,wR (EW:=fun H=>E (.ref C) none H) hc hg rfl p1 (fun pins σ H s h' x args I hm hE=>Av I hm hE) he hpl hd,fun g M ρ env σ H D rep p=>?_⟩;refine s1 g M ρ env σ H _ rep ?_;unfold oi at p;cases q:fs env with
 |stuck=>rw[q]at p;exact p
 |exc c'=>rw[q]at p;exact p
 |ok rs=>
  rw[q]at p;simp only[Res.bind_ok]at p;intro vs M1 H1 e1 rep1 is;by_cases hl:rs.length<=lim
  .rw[Kf hl]at p;refine⟨by rw[is.length,Kg];exact eh hl,?_⟩;exact p (.ref C) none H1 hc.gl rep1.same
  .rw[Kh hl]at p;exact p.elim
end
def yg (K:Ou)(mg:Str->Option Ow)(Ch:Addr)(cs:List Str):Prop:=∀ c∈cs,∃ C,XC K mg c C/\(mroK K C).contains (.ref Ch)=true
noncomputable def Res.quiet {α:Type}:Res α->Res α
 | .exc _=>.stuck
 |r=>r
noncomputable def pV (F:List D->Res R)(fs:En->Res (List R))(cs:List Str)(suite:En->Res Fl):En->Res Fl:=fun env=>(fs env).noX.bind fun rs=>match F (rs.map R.d) with
 | .ok _=>.ok (.nx env)
 | .exc c=>if cs.contains c then (suite env).quiet else .stuck
 | .stuck=>.stuck
section
variable {X:Cx}{E:XK}{hc:Str}{Ch:Addr}{cs:List Str}{np hpos pos epos p cpos:Pos}{b₀:Stmt}{suite:List Stmt}{fsu:En->Res Fl}{k:Nat}{f:Addr}{fd:FuncData}{ps:List Str}{F:List D->Res R}{x:Str}{e:Expr}{es:List Expr}{fs:En->Res (List R)}
theorem PostS.quiet {mg:Str->Option Ow}{M:Addr->Prop}{D:Ends}{r:Res Fl}(p:PostS mg E g M H D r.quiet):PostS mg E0 g M H D r:=by
 cases r with
 |stuck=>exact p
 |exc c=>exact(show False from p).elim
 |ok r=>cases r<;>exact p
theorem Ba {M M1:Addr->Prop}{σ:St}{H H1:Hp}{D:Ends}{c:Str}(ht:yg X.K X.mg Ch cs)(ss:rZ X.mg E0 ts fsu)(e1:Ext M H M1 H1)(rep1:Rep g M1 ρ env σ H1)
 (p:PostS X.mg E g M H D (if cs.contains c=true then (fsu env).quiet else .stuck)):∀ cls dx H',X.mg c=some cls->Same H1 H'->wV X Ch ts D σ cls dx H':=by
 intro cls dx H' hm s;by_cases hcs:cs.contains c=true
 .rw[Kf hcs]at p;obtain⟨C,hX,hmr⟩:=ht c (List.contains_iff_mem.mp hcs);have e:=hX.gl;rw[hm]at e;cases e;refine⟨C,rfl,hX.ex,hmr,ss g M1 ρ env σ H' D (rep1.grow s) ?_⟩;exact(PostS.frz (e1.frz.trans ⟨fun _ z=>z,fun a o e _=>s a o e⟩) p).quiet
 .rw[Kh hcs]at p;exact p.elim
theorem yh (hst:X.stack=X.env::X.outer)(hf:X.env.frame=some X.env.locals)(hx:XC X.K X.mg hc Ch)(hgh:Gl X hc)(ht:yg X.K X.mg Ch cs)
 (G:FnOk X.prog X.w X.K X.mg X.base (iH X.prog X.w) k f fd ps (kW X.mg ps.length F)) (hr:Room k X.A) (hg:Gl X x) (hm:X.mg x=some (.ref f)) (hk:PySem.W.keepIn X.K (.ref f)=true) (hb:Binds X.K fd ps [])
 (ha:vA X.nox E0 (e::es) fs) (hl:∀ env rs,fs env=.ok rs->rs.length=ps.length) (hs:∀ x,mf (X.caught x) E0 (b₀::suite) fsu)
 (hsw:autoParam (swapsWith (.Call (.Name x p) (e::es) [] cpos) none epos.line X.env=pure false) OD._auto_1) (hdb:autoParam ((hc==("__debug__" : Str))=false) Oy._auto_1)
 (hdb2:autoParam ((x==("__debug__" : Str))=false) Oy._auto_1) (he:autoParam (starEach (e::es) X.env=(false,eval e X.env)::starEach es X.env) OD._auto_1) (hpl:autoParam ((backTo cpos (starEach es X.env)).any (·.1)=false) OD._auto_1) :
 m6 X E (.Try [.Expr (.Call (.Name x p) (e::es) [] cpos) epos] [.ExceptHandler (some (.Name hc np)) none (b₀::suite) hpos] [] [] pos) (pV F fs cs fsu):=by
 obtain⟨ta,p1,s1⟩:=ha;obtain⟨ts,hts⟩ : ∃ ts,(∀ x,PSs (X.caught x) (b₀::suite) ts)/\rZ X.mg E0 ts fsu:=⟨fun D σ H=>∀ x t,PSs (X.caught x) (b₀::suite) t->rZ X.mg E0 t fsu->t D σ H,fun x pins s σ H D I h=>by obtain⟨t,p2,s2⟩:=hs x;exact p2 pins s σ H D I (h x t p2 s2),fun g M ρ env σ H D rep p x t _ s2=>s2 g M ρ env σ H D rep p⟩;refine⟨_,Aw hst hf hx hgh (wU (dvs:=[]) (ds:=[]) G hr hg hm hk hb .nil p1 hdb2 he hpl) hts.1 hsw hdb,fun g M ρ env σ H D rep p=>?_⟩;refine s1 g M ρ env σ H _ rep ?_;unfold pV at p;cases q:fs env with
 |stuck=>rw[q]at p;exact p.elim
 |exc c'=>rw[q]at p;exact p.elim
 |ok rs=>
  rw[q]at p;have p:PostS X.mg E g M H D (match F (rs.map R.d) with|.ok _=>.ok (.nx env)|.exc c=>if cs.contains c then (fsu env).quiet else .stuck|.stuck=>.stuck):=p;intro vs M1 H1 e1 rep1 is;rw[La];refine⟨by rw[is.length,Kg];exact hl env rs q,rs.map R.d,_,is,?_⟩;cases qF:F (rs.map R.d) with
  |stuck=>simp only[qF]at p;exact p
  |exc c=>simp only[qF]at p;exact Ba ht hts.2 e1 rep1 p
  |ok r=>simp only[qF]at p;intro v H2 s2 ro;exact p σ M1 ρ H2 (e1.frz.trans ⟨fun _ z=>z,fun a o e _=>s2 a o e⟩) (rep1.grow s2)
end
structure ZipNe (z TI TO i1 i2:Addr):Prop where
 TIz:TI≠z
 TOz:TO≠z
 i1z:i1≠z
 i2z:i2≠z
 TITO:TI≠TO
 TIi1:TI≠i1
 TIi2:TI≠i2
 TOi1:TO≠i1
 TOi2:TO≠i2
 i12:i1≠i2
section
variable {h:Heap}{z TI TO i1 i2 a b:Addr}{i:Nat}{its its2:Array Ow}
end
theorem Eh (n:Nat):ZipNe (n+4) (n+2) (n+3) n (n+1):=
 ⟨(show(n+2:Nat)≠n+4 by lia),(show(n+3:Nat)≠n+4 by lia),(show(n:Nat)≠n+4 by lia),(show(n+1:Nat)≠n+4 by lia),(show(n+2:Nat)≠n+3 by lia),(show(n+2:Nat)≠n by lia),(show(n+2:Nat)≠n+1 by lia),
   (show(n+3:Nat)≠n by lia),(show(n+3:Nat)≠n+1 by lia),(show(n:Nat)≠n+1 by lia)⟩
section
variable {X:Cx}{E:XK}{es:List Expr}{k:Nat}{sS:Pos}
noncomputable def ia:List D->List D->List D
 |d::ds,e::es=>.tup [d,e]::ia ds es
 |_,_=>[]
theorem pW:∀(ds es:List D)(i:Nat),(ia ds es)[i]?=(match ds[i]?,es[i]? with|some d,some e=>some (.tup [d,e])|_,_=>none)
 | [],_,_=>by simp[ia]
 |d::ds,[],i=>by simp only[ia,List.getElem?_nil];cases (d::ds)[i]?<;>rfl
 |d::ds,e::es,0=>by simp[ia]
 |d::ds,e::es,i+1=>by simp only[ia,MK];exact pW ds es i
theorem pX:∀(ds es:List D),(ia ds es).length=min ds.length es.length
 | [],_=>by simp[ia]
 |d::ds,[]=>by simp[ia]
 |d::ds,e::es=>by simp only[ia,K8,pX ds es];lia
theorem tX (h:vmsk g M (aQ [r,q]) ρ (bg [r,q]) a):vmsk g M (r.fr&&q.fr) ρ (r.al++q.al) a:=by
 have e1:aQ [r,q]=(r.fr&&q.fr):=by simp[aQ]
 have e2:bg [r,q]=r.al++q.al:=by simp[bg]
 rw[e1,e2]at h;exact h
end
section
variable {X:Cx}{E:XK}
open Classical in
noncomputable def dF (H:Hp)(m:Addr->Prop)(x:D)(u:Ow):Bool:=decide (∃ d v,RelV v u/\Is H m d v/\dL d x=true)
theorem nc (r:RelV v u)(h:Is H m d v):dF H m x u=dL d x:=by
 unfold dF;cases q:dL d x with
 |true=>exact @Kl _ (Classical.propDecidable _) ⟨d,v,r,h,q⟩
 |false=>refine @Kp _ (Classical.propDecidable _) fun⟨d',v',r',h',q'⟩=>?_;have e:=L2.RelV.inj r r';subst e;have e:=Is.inj h h';subst e;rw[q]at q';cases q'
theorem i7:∀{ds:List D}{vs:List V}{us:List Ow},IsAll H m ds vs->Vals vs us->us.any (dF H m x)=ds.any fun d=>dL d x
 | [],_,_,h,r=>by cases h;cases r;rfl
 |d::ds,_,_,h,r=>by
  obtain⟨v,w,rfl,h1,h2⟩:=h;cases r with
  |cons r1 r2=>rw[L8,L8,nc r1 h1,i7 h2 r2]
noncomputable def GT (neg:Bool)(K:Ou):R2:=fun x y H Q=>∃ p ds vs d m m',y=.ref p/\(SqL K H p vs\/SqT K H p vs)/\IsAll H m ds vs/\Is H m' d x/\(D.deps ds<=50/\d.dep<=50)/\Q (.bl (if neg then !(ds.any fun e=>dL e d) else ds.any fun e=>dL e d)) H
theorem i8 (I:L2.Inv X pins σ H s)(hu:A.units+50<cLine)(hx:Is H m' d x)(hE:d.dep<=50)(rx:RelV x v) :
 ∀{ds:List D}{vs:List V}{us:List Ow},IsAll H m ds vs->Vals vs us->D.deps ds<=50->∀ u∈us,SeqAt.EqAt A s u v (dF H m d u)
 | [],_,_,h,r,_=>fun u hu=>by cases h;cases r;cases hu
 |e::ds,_,_,h,r,hd=>fun u hm=>by
  obtain⟨y,w,rfl,h1,h2⟩:=h;have hd':max e.dep (D.deps ds)<=50:=hd;cases r with
  |cons r1 r2=>
   rcases Kj.mp hm with rfl|hm
   .rw[nc r1 h1];exact xP I.hok 50 A hu (by lia) (by lia) (by lia) h1 hx r1 rx
   .exact i8 I hu hx hE rx h2 r2 (by lia) u hm
theorem Ei (hu:X.A.units+64<cLine):OpR X (compareOp .In) (GT false X.K):=by
 intro pins s σ H x y v u Q I rx ry h;obtain⟨p,ds,vs,d,m,m',rfl,hq,hi,hx,hd,q⟩:=h;cases ry;rcases hq with hq|hq
 .obtain⟨its,r,pl,hz⟩:=I.list hq;refine SeqAt.in_listAt (dF H m d) pl.isList (fun w hw=>i8 I (by show X.A.units+1+50<cLine;lia) hx hd.2 rx hi r hd.1 w (by simpa using hw)) ⟨.bl _,H,I,rfl,?_⟩;rw[show its.toArray.any (dF H m d)=its.any (dF H m d) by simp,i7 hi r];exact q
 .obtain⟨its,r,pl,hz⟩:=I.tuple hq;refine SeqAt.in_tupleAt (dF H m d) pl (fun w hw=>i8 I (by show X.A.units+1+50<cLine;lia) hx hd.2 rx hi r hd.1 w (by simpa using hw)) ⟨.bl _,H,I,rfl,?_⟩;rw[show its.toArray.any (dF H m d)=its.any (dF H m d) by simp,i7 hi r];exact q
noncomputable def II (neg:Bool)(x:D)(ds:List D):Res R:=if D.deps ds<=50/\x.dep<=50 then .ok (.val (.bl (if neg then !(ds.any fun e=>dL e x) else ds.any fun e=>dL e x)) true []) else .stuck
noncomputable def Ej (neg:Bool)(a b:R):Res R:=match b.d with
 | .lst ds=>II neg a.d ds
 | .tup ds=>II neg a.d ds
 |_=>.stuck
noncomputable def Jm:R->R->Res R:=Ej false
theorem Ek (h:OpR X f (GT neg X.K)):lV X E f (Ej neg):=by
 refine⟨_,h,fun g M ρ env σ H Q ra rb x y rep i1 i2 p=>?_⟩;unfold Ej at p;have key:∀ ds,PostE X.mg E g M ρ env σ H Q (II neg ra.d ds)->(D.deps ds<=50/\ra.d.dep<=50)/\Q (.bl (if neg then !(ds.any fun e=>dL e ra.d) else ds.any fun e=>dL e ra.d)) H:=fun ds p=>by
  unfold II at p;by_cases hd:D.deps ds<=50/\ra.d.dep<=50
  .rw[Kf hd]at p;exact⟨hd,p _ M H (Ext.refl _ _) rep rfl⟩
  .rw[Kh hd]at p;exact p.elim
 cases e2:rb.d with
 |lst ds=>rw[e2]at p i2;obtain⟨a,vs,rfl,h1,h2⟩:=i2.rd;obtain⟨k1,k2⟩:=key ds p;exact⟨a,ds,vs,ra.d,_,_,rfl,.inl (.inl h1),h2,i1,k1,k2⟩
 |tup ds=>rw[e2]at p i2;obtain⟨a,vs,rfl,h1,h2⟩:=i2;obtain⟨k1,k2⟩:=key ds p;exact⟨a,ds,vs,ra.d,_,_,rfl,.inr (SqT.of h1),h2,i1,k1,k2⟩
 |_=>rw[e2]at p;exact p.elim
theorem GU (hu:X.A.units+64<cLine):lV X E (compareOp .In) Jm:=Ek (Ei hu)
end
end L3
namespace L2
open PySem PySem.Spec PySem.Calls PyProof.Rows
section
variable {K:Ou}{x C:Addr}{c:Ow}
end
section
variable {X:Cx}{pins:List (Addr×Obj)}{σ:St}{H:Hp}{s:Ot}{x:Addr}{o:Obj}
end
section
variable {X:Cx}{hc:Str}{Ch:Addr}{np hpos pos epos:Pos}{b₀:Stmt}{suite:List Stmt}{ts:Addr->Addr->TS}{te:TX}{e:Expr}{i:Nat}{n:Str}
end
section
variable {X:Cx}{i iw:Nat}{n y b1 b2:Str}{s1 s2:Str}{py p1 p2 p3 p4 p5 p6 p7 p8 p9 p10 p11 p12 p13 p14 p15 lp:Pos}{j1 j2}{T1:String}{Ch2:Addr}
end
end L2
namespace L3
open PySem PySem.Spec PyProof.Rows L2
section
variable {X:Cx}{E:XK}{i iw:Nat}{n y b1 b2:Str}{s1 s2:Str}{py p1 p2 p3 p4 p5 p6 p7 p8 p9 p10 p11 p12 p13 p14 p15 lp:Pos}{j1 j2}{T1:String}{Ch2:Addr}
variable {hc:Str}{Ch:Addr}{cs:List Str}{np hpos pos epos p cpos:Pos}{k:Nat}{f:Addr}{fd:FuncData}{ps:List Str}{F:List D->Res R}{x:Str}{e:Expr}{es:List Expr}{fs:En->Res (List R)}
end
noncomputable def El:D->Option Key
 | .int i=>some (.inl i)
 | .str x=>some (.inr x)
 |_=>none
noncomputable def jz:List D->Option (List Key)
 | []=>some []
 |d::ds=>match El d,jz ds with
  |some k,some ks=>some (k::ks)
  |_,_=>none
noncomputable def keyT:D->Option (List Key)
 | .tup ds=>jz ds
 |_=>none
noncomputable def CL (t:List (List Key×D))(k:List Key)(d:D):List (List Key×D):=if (t.any fun x=>decide (x.1=k))=true then t.map (fun x=>if x.1=k then (x.1,d) else x) else t++[(k,d)]
section
variable {H:Hp}{m:Addr->Prop}
theorem Is.key (h:Is H m d v)(e:El d=some k):v=kV k:=by
 cases d with
 |int i=>cases e;exact h
 |str x=>cases e;exact h
 |_=>cases e
theorem IsAll.keys:∀{ds:List D}{vs:List V}{ks:List Key},IsAll H m ds vs->jz ds=some ks->vs=ks.map kV
 | [],_,_,h,e=>by cases h;cases e;rfl
 |d::ds,_,ks,h,e=>by
  obtain⟨v,r,rfl,h1,h2⟩:=h;unfold jz at e;cases q:El d with
  |none=>rw[q]at e;cases e
  |some k=>
   cases q2:jz ds with
   |none=>rw[q,q2]at e;cases e
   |some ks'=>rw[q,q2]at e;cases e;rw[h1.key q,IsAll.keys h2 q2];rfl
theorem Is.keyT (h:Is H m d v)(e:L3.keyT d=some k):∃ b,v=.ref b/\H b=some (.tup (k.map kV)):=by
 cases d with
 |tup ds=>obtain⟨a,vs,rfl,h1,h2⟩:=h;have e:jz ds=some k:=e;rw[IsAll.keys h2 e]at h1;exact⟨a,rfl,h1⟩
 |_=>cases e
noncomputable def RKV (H:Hp)(m:Addr->Prop):List (List Key×V)->List (List Key×D)->Prop:=Paired fun a b=>a.1=b.1/\Is H m b.2 a.2
theorem RKV.fst (r:RKV H m a b):a.map Prod.fst=b.map Prod.fst:=by
 induction r with
 |nil=>rfl
 |cons h _ ih=>rw[Kx,Kx,ih,h.1]
theorem RKV.snd (r:RKV H m a b):IsAll H m (b.map Prod.snd) (a.map Prod.snd):=by
 induction r with
 |nil=>rfl
 |cons h _ ih=>exact⟨_,_,rfl,h.2,ih⟩
theorem RKV.append (r:RKV H m a b)(s:RKV H m c d):RKV H m (a++c) (b++d):=by
 induction r with
 |nil=>exact s
 |cons h _ ih=>exact .cons h ih
theorem RKV.any (r:RKV H m a b)(k:List Key):(a.any fun x=>decide (x.1=k))=(b.any fun x=>decide (x.1=k)):=by
 induction r with
 |nil=>rfl
 |cons h _ ih=>rw[L8,L8,ih,h.1]
theorem RKV.repl (r:RKV H m a b)(h:Is H m d v):RKV H m (a.map fun x=>if x.1=k then (x.1,v) else x) (b.map fun x=>if x.1=k then (x.1,d) else x):=by
 induction r with
 |nil=>exact .nil
 | @cons p q ps qs hq t ih=>
  refine .cons ?_ ih;dsimp only;by_cases e:p.1=k
  .rw[Kf e,Kf (hq.1▸e)];exact⟨hq.1,h⟩
  .rw[Kh e,Kh (fun z=>e (hq.1.trans z))];exact hq
theorem RKV.put (r:RKV H m a b)(h:Is H m d v):RKV H m (b9 a k v) (CL b k d):=by
 unfold b9 CL;rw[r.any k];split
 .exact r.repl h
 .exact r.append (.cons ⟨rfl,h⟩ .nil)
end
section
variable {X:Cx}{E:XK}
theorem Bb (rep:Rep g M ρ env σ H)(hb:H b=none)(is:Is H' (fun a=>a=b) d (.ref b))(mu:Mu H' b):ROk g M ρ H H' (.ref b) (.fre d):=by obtain⟨h0,hm,ho⟩:=rep.free hb;exact⟨fun a=>a=b,fun a e=>by subst e;exact⟨hm,hb,mu,ho⟩,is⟩
theorem tY:PD X E (.Dict [] [] pos) (fun _=>.ok (.fre (.dic [] []))):=by refine⟨_,wN,fun g M ρ env σ H Q rep p b hb=>?_⟩;have s:Same H (aJ H b (.dK [])):=aP hb;exact p _ M _ ⟨fun _ z=>z,s,fun _ z=>.inl z⟩ (rep.grow s) (Bb rep hb ⟨b,[],rfl,⟨.inl ⟨[],.inl am,rfl,rfl⟩,rfl⟩,rfl⟩ ⟨_,am,True.intro⟩)
noncomputable def keyX:D->Option DK
 | .int i=>some (.inl (.inl i))
 | .str x=>some (.inl (.inr x))
 | .tup ds=>(jz ds).map .inr
 |_=>none
noncomputable def kin:DK->DK->Bool
 | .inl _,.inl _=>true
 | .inr _,.inr _=>true
 |_,_=>false
noncomputable def mi (ks:List DK)(k:DK):Bool:=ks.any fun x=>decide (x=k)
theorem yi {κ:Type}[DecidableEq κ]{kvs:List (κ×V)}(inj:κ->DK)(hi:∀ a b,inj a=inj b->a=b)(k:κ):(dr kvs k).isSome=mi (kvs.map fun p=>inj p.1) (inj k):=by
 unfold mi;induction kvs with
 |nil=>rfl
 |cons p r ih=>
  rw[Kx,L8];by_cases e:p.1=k
  .rw[dM e,Kl (KN inj e)];rfl
  .rw[dN e,ih,Kp (fun z=>e (hi _ _ z)),Oj]
theorem Is.keyX (h:Is H m d v)(e:L3.keyX d=some k):(∃ k0,k=.inl k0/\v=kV k0)\/∃ k0 b,k=.inr k0/\v=.ref b/\H b=some (.tup (k0.map kV)):=by
 cases d with
 |int i=>cases e;exact .inl ⟨_,rfl,h⟩
 |str x=>cases e;exact .inl ⟨_,rfl,h⟩
 |tup ds=>have e:(jz ds).map Sum.inr=some k:=e;obtain⟨k0,hk,rfl⟩:=LN.mp e;obtain⟨b,e1,e2⟩:=Is.keyT (d:=.tup ds) h hk;exact .inr ⟨k0,b,rfl,e1,e2⟩
 |_=>cases e
noncomputable def tZ:List DK->List D->DK->D->List D
 |k'::ks,d'::ds,k,d=>(if k'=k then d else d')::tZ ks ds k d
 |_,_,_,_=>[]
noncomputable def fM (ks:List DK)(ds:List D)(k:DK)(d:D):D:=if mi ks k then .dic ks (tZ ks ds k d) else .dic (ks++[k]) (ds++[d])
theorem t4 {κ:Type}[DecidableEq κ](inj:κ->DK)(hi:∀ a b,inj a=inj b->a=b){H:Hp}{m:Addr->Prop}{kvs:List (κ×V)}{ds:List D}{k:κ}{v:V}{d:D}(h:IsAll H m ds (kvs.map Prod.snd))(hv:Is H m d v) :
 ∃ ks' ds',fM (kvs.map fun p=>inj p.1) ds (inj k) d=.dic ks' ds'/\ks'=(b9 kvs k v).map (fun p=>inj p.1)/\IsAll H m ds' ((b9 kvs k v).map Prod.snd):=by
 have hany:mi (kvs.map fun p=>inj p.1) (inj k)=kvs.any fun p=>decide (p.1=k):=by unfold mi;rw[N8];congr 1;funext p;exact decide_eq_decide.mpr ⟨hi _ _,KN inj⟩
 unfold fM b9;rw[hany];by_cases e:(kvs.any fun p=>decide (p.1=k))=true
 .rw[Kf e,Kf e];refine⟨_,_,rfl,?_,?_⟩
  .rw[KC];refine Lw fun p _=>?_;show inj p.1=inj (if p.1=k then (p.1,v) else p).1;split<;>rfl
  .clear e hany;induction kvs generalizing ds with
   |nil=>
    cases ds with
    |nil=>exact rfl
    |cons d0 r=>obtain⟨_,_,z,_⟩:=h;cases z
   |cons p r ih=>
    cases ds with
    |nil=>cases h
    |cons d0 ds=>
     obtain⟨v0,r0,z,i1,i2⟩:=h;cases z;have:=ih i2;refine⟨_,_,rfl,?_,this⟩;dsimp only;by_cases e:p.1=k
     .rw[Kf (KN inj e),Kf e];exact hv
     .rw[Kh (fun z=>e (hi _ _ z)),Kh e];exact i1
 .rw[Kh e,Kh e];exact⟨_,_,rfl,by simp,by rw[KI];exact h.append ⟨v,[],rfl,hv,rfl⟩⟩
noncomputable def t5 (i:Nat)(env:En)(ks:List DK)(ds:List D)(d:D)(k:R):Res Fl:=match keyX k.d with
 |some x=>if ks.all (kin x)/\ks.length<lim then .ok (.nx (env.set i (some (.tre (fM ks ds x d))))) else .stuck
 |none=>.stuck
noncomputable def t7 (i:Nat)(fk:En->Res R)(env:En)(ks:List DK)(ds:List D)(r:R):Res Fl:=if r.d.flat then (fk env).bind (t5 i env ks ds r.d) else .stuck
noncomputable def ng (i:Nat)(fk fv:En->Res R):En->Res Fl:=fun env=>match env[i]? with
 |some (some (.tre (.dic ks ds)))=>(fv env).bind (t7 i fk env ks ds)
 |_=>.stuck
noncomputable def yj (mk:D->Sl)(i:Nat)(env:En)(ks:List DK)(ds:List D)(d:D)(k:R):Res Fl:=match keyX k.d with
 |some x=>if ks.all (kin x)/\ks.length<lim then .ok (.nx (env.set i (some (mk (fM ks ds x d))))) else .stuck
 |none=>.stuck
noncomputable def yk (mk:D->Sl)(i:Nat)(fk:En->Res R)(env:En)(ks:List DK)(ds:List D)(r:R):Res Fl:=if r.d.flat then (fk env).bind (yj mk i env ks ds r.d) else .stuck
theorem ym {fk fv:En->Res R}{M:Addr->Prop}{σ:St}{H:Hp}{D:Ends}{ks:List DK}{ds:List L3.D}(mk:L3.D->Sl)(P0:Gd->V->Prop)(hmk:∀(g:Gd)(M T:Addr->Prop)(H:Hp)(v:V)(d:L3.D),SlOk g M T H v (mk d)↔Is H T d v/\P0 g v)(hmo':∀ d,(mk d).isO=true)
 (s1:Snd X.mg E tk fk) (s2:Snd X.mg E tv fv) (rep:Rep g M ρ env σ H) (hq:env[i]?=some (some (mk (.dic ks ds)))) (p:PostS X.mg E g M H D ((fv env).bind (yk mk i fk env ks ds))):wY (fB i) tk tv D σ H:=by
 have hi:i<env.length:=(Kc.mp hq).1;refine s2.oneS rep p fun r v M1 H1 e1 rep1 ro p1=>?_;obtain⟨M1',x1,x1m,rep1',is1⟩:=ro.is rep1 e1 rep.same;unfold yk at p1;by_cases hf:r.d.flat=true
 .rw[Kf hf]at p1;obtain⟨va,ev,ka⟩:=rep1'.slot i _ hq;obtain⟨ka,hroot⟩:=(hmk g M1' (ρ i) H1 va (.dic ks ds)).mp ka;obtain⟨a,vs,rfl,⟨dat,pa⟩,hall⟩:=ka;refine⟨.ref a,ev,s1.oneS rep1' (PostS.frz ⟨x1m,fun _ _ q _=>q⟩ p1) fun rk y M2 H2 e2 rep2 rok p2=>?_⟩;obtain⟨M2',x2,x2m,rep2',is2⟩:=rok.is rep2 e2 rep1'.same;unfold yj at p2;cases qk:keyX rk.d with
  |none=>rw[qk]at p2;exact p2.elim
  |some x=>
   rw[qk]at p2;dsimp only at p2;by_cases hc:ks.all (kin x)=true/\ks.length<lim
   .rw[Kf hc]at p2;have dat2:DAt H2 a ks vs:=dat.keep fun o e=>e2.h _ _ e;have hall2:IsAll H2 (ρ i) ds vs:=hall.same e2.h;have hv2:Is H2 (ρ i) r.d v:=Is.flat hf (is1.same e2.h);have kd:Is H2 (ρ i) (.dic ks ds) (.ref a):=⟨a,vs,rfl,⟨dat2,pa⟩,hall2⟩;have inner:IsAll H2 (fun b=>ρ i b/\b≠a) ds vs:=IsAll.avoid kd (by simp only[L3.D.sz];lia) hall2;have hv3:Is H2 (fun b=>ρ i b/\b≠a) r.d v:=Is.flat hf hv2;have nofz:∀ o u,H2 a≠some (.frz o u):=fun o u z=>by obtain⟨_,_,uo,q,qm⟩:=rep2'.priv i a pa;rw[z]at q;cases q;exact qm
    obtain⟨uo,huo,hmo⟩:=dat2.mu nofz;have rdn:∀ u,Rd H2 a u->H2 a=some u:=fun u z=>z.elim id fun⟨o,z⟩=>(nofz _ _ z).elim;have nfx:∀ u,H2 a=some u->¬ fixd u:=fun u e z=>by rw[huo]at e;cases e;cases uo<;>first|exact z|exact hmo
    have fin:∀(u':HO)(ks':List DK)(ds':List L3.D)(vs':List V),D1 u'->DAt (aJ H2 a u') a ks' vs'->fM ks ds x r.d=.dic ks' ds'->IsAll H2 (fun b=>ρ i b/\b≠a) ds' vs'->D.nx σ (aJ H2 a u'):=fun u' ks' ds' vs' hu' hd he hall'=>by
     rw[he]at p2;have hall3:IsAll (aJ H2 a u') (ρ i) ds' vs':=hall'.mono (fun b u q z=>by
      rw[ao]
      .exact q
      .rintro rfl;rcases z with z|z
       .exact z.2 rfl
       .exact nfx u q z) fun _ _ _ z=>z.1
     obtain⟨f1,rep3⟩:=rep2'.writeO (u':=u') hu' pa hi ev (sl:=mk (.dic ks' ds')) ((hmk g M2' (ρ i) _ _ _).mpr ⟨⟨a,vs',rfl,⟨hd,pa⟩,hall3⟩,hroot⟩) (hmo' _);exact p2 σ M2' ρ _ (Frz.trans ⟨x2m,fun _ _ q _=>q⟩ f1) rep3
    refine⟨a,?_⟩;rcases is2.keyX qk with⟨k0,rfl,rfl⟩|⟨k0,b,rfl,rfl,hb⟩
    .rcases dat2 with⟨kvs,e1,rfl,rfl⟩|⟨kvs,e1,rfl,rfl⟩
     .obtain⟨ks',ds',g1,g2,g3⟩:=t4 Sum.inl (fun _ _ z=>Ng z) (k:=k0) inner hv3;refine⟨_,rfl,.inl (DPut.k (rdn _ e1) (by have:=hc.2;rw[Kg]at this;exact iT this)),fin _ ks' ds' _ True.intro (.inl ⟨_,.inl am,g2,rfl⟩) g1 g3⟩
     .cases kvs with
      |nil=>
       cases ds with
       |nil=>exact⟨_,rfl,.inr (.inl ⟨rdn _ e1,k0,rfl,rfl⟩),fin (.dK [(k0,v)]) [.inl k0] [r.d] [v] True.intro (.inl ⟨_,.inl am,rfl,rfl⟩) rfl ⟨v,[],rfl,hv3,rfl⟩⟩
       |cons d0 ds0=>obtain⟨_,_,z,_⟩:=inner;cases z
      |cons q r0=>simp[kin]at hc
    .rcases dat2 with⟨kvs,e1,rfl,rfl⟩|⟨kvs,e1,rfl,rfl⟩
     .cases kvs with
      |nil=>
       cases ds with
       |nil=>exact⟨_,rfl,.inr (.inr ⟨rdn _ e1,b,k0,rfl,hb,rfl⟩),fin (.dT [(k0,v)]) [.inr k0] [r.d] [v] True.intro (.inr ⟨_,.inl am,rfl,rfl⟩) rfl ⟨v,[],rfl,hv3,rfl⟩⟩
       |cons d0 ds0=>obtain⟨_,_,z,_⟩:=inner;cases z
      |cons q r0=>simp[kin]at hc
     .obtain⟨ks',ds',g1,g2,g3⟩:=t4 Sum.inr (fun _ _ z=>Sum.inr.inj z) (k:=k0) inner hv3;refine⟨_,rfl,.inl (DPut.t (rdn _ e1) hb (by have:=hc.2;rw[Kg]at this;exact iT this)),fin _ ks' ds' _ True.intro (.inr ⟨_,.inl am,g2,rfl⟩) g1 g3⟩
   .rw[Kh hc]at p2;exact p2.elim
 .rw[Kh hf]at p1;exact p1.elim
theorem Bc (hu:X.A.units+64<cLine)(ho:PE X o (fB i))(hk:PD X E ki fk)(hv:PD X E value fv)
 (hs:autoParam (swapsWith value (some (.Subscript o ki pos')) pos.line X.env=pure false) OD._auto_1):m6 X E (.Assign [.Subscript o ki pos'] value pos) (ng i fk fv):=by
 obtain⟨tk,p1,s1⟩:=hk;obtain⟨tv,p2,s2⟩:=hv;refine⟨_,wZ (by lia) ho p1 p2 hs,fun g M ρ env σ H D rep p=>?_⟩;unfold ng at p;split at p
 .rename_i ks ds hq;exact ym .tre (fun _ _=>True) (fun _ _ _ _ _ _=>⟨fun z=>⟨z,True.intro⟩,fun z=>z.1⟩) (fun _=>rfl) s1 s2 rep hq p
 .exact p.elim
noncomputable def JR (k:En->Res Fl):Fl->Res Fl
 | .nx e=>k e
 | .ct e=>k e
 | .bk e=>.ok (.nx e)
 | .rt r=>.ok (.rt r)
 | .rm r e=>.ok (.rm r e)
noncomputable def de (c:En->Res Bool)(b:En->Res Fl):Nat->En->Res Fl
 |0,_=>.stuck
 |n+1,env=>(c env).bind fun k=>if k then (b env).bind (JR (de c b n)) else .ok (.nx env)
theorem vR (N:Nat)(hp:PassesOwn (model X.prog X.w) X.A X.env X.xe)(hc:vD X E c fc)(hb:mf X E body fb):m6 X E (.While c body [] pos) (de fc fb N):=by
 obtain⟨tc,p1,s1⟩:=hc;obtain⟨tb,p2,s2⟩:=hb;refine⟨_,wv hp p1 p2,fun g M ρ env σ H D rep p=>?_⟩;refine⟨fun m σ H=>∃ M1 ρ1 env1,Rep g M1 ρ1 env1 σ H/\PostS X.mg E g M1 H D (de fc fb m env1),⟨N,M,ρ,env,rep,p⟩,?_⟩;rintro m σ1 H1 ⟨M1,ρ1,env1,rep1,q1⟩;cases m with
 |zero=>exact(show False from q1).elim
 |succ m=>
  unfold de at q1;refine s1 g M1 ρ1 env1 σ1 H1 _ rep1 ?_;cases e:fc env1 with
  |stuck=>rw[e]at q1;exact q1
  |exc c=>rw[e]at q1;exact q1
  |ok b=>
   rw[e]at q1;intro M2 H2 e2 rep2;cases b with
   |false=>refine o7 ?_;exact(show PostS X.mg E g M1 H1 D (.ok (.nx env1)) from q1) σ1 M2 ρ1 H2 e2.frz rep2
   |true=>
    refine o8 ?_;have q1:PostS X.mg E g M1 H1 D ((fb env1).bind (JR (de fc fb m))):=q1;refine⟨fun σ' H'=>∃ M' ρ' aO,Rep g M' ρ' aO σ' H'/\PostS X.mg E g M' H' D (de fc fb m aO),fun σ' H' h=>⟨m,NL m,h⟩,?_⟩;refine s2 g M2 ρ1 env1 σ1 H2 _ rep2 ?_;cases e3:fb env1 with
    |stuck=>rw[e3]at q1;exact q1
    |exc c=>rw[e3]at q1;exact q1
    |ok fl=>
     rw[e3]at q1;cases fl with
     |nx e'=>exact fun σ' M' ρ' H' f rep'=>⟨M',ρ',e',rep',PostS.frz (e2.frz.trans f) (show PostS X.mg E g M1 H1 D (de fc fb m e') from q1)⟩
     |ct e'=>exact fun σ' M' ρ' H' f rep'=>⟨M',ρ',e',rep',PostS.frz (e2.frz.trans f) (show PostS X.mg E g M1 H1 D (de fc fb m e') from q1)⟩
     |bk e'=>exact fun σ' M' ρ' H' f rep'=>(show PostS X.mg E g M1 H1 D (.ok (.nx e')) from q1) σ' M' ρ' H' (e2.frz.trans f) rep'
     |rt r=>exact fun v M' H' f=>(show PostS X.mg E g M1 H1 D (.ok (.rt r)) from q1) v M' H' (e2.frz.trans f)
     |rm r e'=>exact fun v σ' M' ρ' H0 H' f=>(show PostS X.mg E g M1 H1 D (.ok (.rm r e')) from q1) v σ' M' ρ' H0 H' (e2.frz.trans f)
theorem oj:m6 X E (.Continue pos) (fun env=>.ok (.ct env)):=⟨_,oY,fun g M ρ env σ H D rep p=>p σ M ρ H (Frz.refl _ _) rep⟩
noncomputable def Em:R->R->Res R:=oI (fun _ j=>decide (0<=j)) fun i j=>.int (i / 2 ^ j.toNat)
noncomputable def yn:R->R->Res R:=oI (fun _ _=>true) fun i j=>.int (Builtin.bitAnd i j)
theorem Eo:lV X E (binaryOp .RShift) Em:=pQ _ _ Dx (fun i j h=>by simpa using h) fun _ _ _ _=>rfl
theorem Bd:lV X E (binaryOp .BitAnd) yn:=iV _ Dy fun _ _ _ _=>rfl
noncomputable def gI:List R->Res R
 | [r]=>match r.d with
  | .lst ds=>.ok (mkV (.tup ds) r.fr r.al)
  | .tup ds=>.ok (mkV (.tup ds) r.fr r.al)
  |_=>.stuck
 |_=>.stuck
theorem pY:gC X E (.type "tuple") gI:=by
 refine⟨_,lX,fun g M ρ env σ H Q rs vs rep i p=>?_⟩
 match rs,i,p with
 | [r],i,p=>
  obtain⟨v,w,rfl,i1,i2⟩:=i;cases i2;have i1:Is H (vmsk g M (aQ [r]) ρ (bg [r])) r.d v:=i1;replace i1:=i1.weak fun _ z=>tQ z;unfold gI at p;dsimp only at p;cases q:r.d with
  |lst ds=>rw[q]at p i1;obtain⟨a,ws,rfl,h1,h2⟩:=i1.rd;exact⟨a,ws,rfl,.inl ⟨.inl h1,fun l hl=>p.tup rep hl h2⟩⟩
  |tup ds=>rw[q]at p i1;have i1':=i1;obtain⟨a,ws,rfl,h1,h2⟩:=i1;exact⟨a,ws,rfl,.inr ⟨SqT.of h1,p.val rep i1'⟩⟩
  |_=>rw[q]at p;exact p.elim
 | [],_,p=>exact p.elim
 |_::_::_,_,p=>exact p.elim
noncomputable def GV (k2:R->R->Res R)(fc:En->Res R)(env:En)(rb:R):R->Res R
 | .val (.bl true) _ _=>(fc env).bind fun rc=>k2 rb rc
 | .val (.bl false) _ _=>.ok (.val (.bl false) true [])
 |_=>.stuck
noncomputable def gJ (k1 k2:R->R->Res R)(fa fb fc:En->Res R):En->Res R:=fun env=>(fa env).bind fun ra=>(fb env).bind fun rb=>(k1 ra rb).bind (GV k2 fc env rb)
theorem vS
 (h1:∀ g M ρ env σ H Q ra rb x y,Rep g M ρ env σ H->Is H (vmsk g M ra.fr ρ ra.al) ra.d x->Is H (vmsk g M rb.fr ρ rb.al) rb.d y->PostE mg E g M ρ env σ H Q (k1 ra rb)->r x y H Q)
 (h2:∀ g M ρ env σ H Q ra rb x y,Rep g M ρ env σ H->Is H (vmsk g M ra.fr ρ ra.al) ra.d x->Is H (vmsk g M rb.fr ρ rb.al) rb.d y->PostE mg E g M ρ env σ H Q (k2 ra rb)->r' x y H Q)
 (sa:Snd mg E ta fa) (sb:Snd mg E tb fb) (sc:Snd mg E tc fc):Snd mg E (wA r r' ta tb tc) (gJ k1 k2 fa fb fc):=by
 intro g M ρ env σ H Q rep p;refine sa.twoE sb rep p fun ra rb x y M1 H1 rep1 i1 i2 p1=>?_;refine h1 g M1 ρ env σ H1 _ ra rb x y rep1 i1 i2 ?_;cases q:k1 ra rb with
 |stuck=>rw[q]at p1;exact p1
 |exc c=>rw[q]at p1;exact p1
 |ok rr=>
  rw[q]at p1;have p1:PostE mg E g M1 ρ env σ H1 Q (GV k2 fc env rb rr):=p1;unfold GV at p1;intro v M2 H2 e2 rep2 ro;split at p1
  .cases (show v=.bl true from ro);refine⟨true,rfl,o8 ?_⟩;have p2:=PostE.ext e2 p1;have i2':=Is.ext e2 i2;refine sc.oneE rep2 p2 fun rc z M3 H3 e3 rep3 i3 p3=>?_;exact h2 g M3 ρ env σ H3 Q rb rc y z rep3 (Is.ext e3 i2') i3 p3
  .cases (show v=.bl false from ro);exact⟨false,rfl,o7 (p1 (.bl false) M2 H2 e2 rep2 rfl)⟩
  .exact p1.elim
theorem gh (ho:lV X E (compareOp op) k1)(ho':lV X E (compareOp op') k2)(ha:PD X E a fa)(hb:PD X E b fb)(hc:PD X E c fc)
 (hm:lastMarks [op,op'] [b,c]=false:=by with_unfolding_all rfl):vD X E (.Compare a [op,op'] [b,c] pos) (vB (gJ k1 k2 fa fb fc)):=by
 obtain⟨r,o1,h1⟩:=ho;obtain⟨r',o2,h2⟩:=ho';obtain⟨ta,pa,sa⟩:=ha;obtain⟨tb,pb,sb⟩:=hb;obtain⟨tc,pc,sc⟩:=hc;have S:=vS h1 h2 sa sb sc;refine⟨_,wB o1 o2 pa pb pc hm,fun g M ρ env σ H Q rep p=>S.oneT rep p fun r v M' H' e rep' i p'=>?_⟩;cases q:r.d with
 |bl b=>rw[q]at i;simp only[q]at p';cases i;exact⟨b,rfl,p' M' H' (Ext.refl _ _) rep'⟩
 |_=>simp only[q]at p';exact p'.elim
noncomputable def Be:List R->Res R
 | [r]=>match r.d with
  | .lst ds=>match cb ds with
   |some bs=>.ok (.val (.bl (bs.any id)) true [])
   |none=>.stuck
  |_=>.stuck
 |_=>.stuck
theorem vT (hc:X.calm=true):CallR X (.builtin "any") (fun xs H Q=>∃(p:Addr)(vs:List V)(bs:List Bool),xs=[.ref p]/\SqL X.K H p vs/\vs=bs.map V.bl/\Q (.bl (bs.any id)) H):=by
 intro pins s σ H xs us Q I r h;obtain⟨p,vs,bs,rfl,hq,rfl,q⟩:=h;obtain⟨u,rfl,rx⟩:=fq r;cases rx;obtain⟨its,rv,pl,hz⟩:=I.list hq;have hh:X.A.in1.handled=none:=I.ok.hd hc;obtain⟨o,ho,_⟩:=pl.isList;have hlt:p<s.heap.objs.size:=Kt ho;refine call_any_walk (LW pl.isList ?_);refine⟨s.heap.objs.size,_,_,_,_,_,fun i=>(bs[i]?).getD false,rfl,Walks.list hh s.heap.objs.size p (KJ hlt) its.toArray,⟨⟨_,Kr _ rfl,rfl,rfl⟩,?_⟩,?_,fun h' tk hk=>?_⟩
 .exact pl.isList.at fun o e=>Kb _ e
 .intro i v s' Q' E' hv hQ';have hv:its[i]?=some v:=by simpa using hv
  have hi:i<its.length:=(Kc.mp hv).1;have hl:=rv.length;have hb:i<bs.length:=by simpa using (by rw[Kg]at hl;lia:i<bs.length)
  obtain⟨u',hu,ru⟩:=rv.get (i:=i) (x:=.bl bs[i]) (by simp[hb]);rw[hv]at hu;cases hu;cases ru;have eb:bs[i]?=some bs[i]:=by simp[hb]
  dsimp only at hQ';rw[eb]at hQ';exact LU hQ'
 .have hl:=rv.length;rw[Kg]at hl;have e:((List.range its.toArray.size).any fun i=>(bs[i]?).getD false)=bs.any id:=by
   rw[Ki,<- hl];rw[L_,Mk,Mk];constructor
   .rintro⟨i,hi,h⟩;have hi:i<bs.length:=by simpa using hi
    have eb:bs[i]?=some bs[i]:=by simp[hi]
    rw[eb]at h;exact⟨bs[i],Nf hi,h⟩
   .rintro⟨b,hb,h⟩;obtain⟨i,hi⟩:=KG.mp hb;refine⟨i,by simp;exact(Kc.mp hi).1,?_⟩;rw[hi];exact h
  rw[e];refine⟨.bl _,H,?_,rfl,q⟩;have I1:L2.Inv X pins σ H { s with heap:=s.heap.push { cls:=.type "list_iterator",data:=.fields #[.ref p,.int 0 0] } }:=I.kept (t':=s.toks) fun b o e=>Kb _ e;have fo:=I.fpOk (H':=H) (Km s.heap.objs.size) (I.hok.fresh (Km _));exact I1.turned (t':=tk) (it:=s.heap.objs.size) (fun b o hb e=>hk b o (by simpa using hb) e) fo.1 fo.2.1 fo.2.2.2.1 fo.2.2.2.2.1 fo.2.2.2.2.2
theorem Ep (hc:X.calm=true):gC X E (.builtin "any") Be:=by
 refine⟨_,vT hc,fun g M ρ env σ H Q rs vs rep i p=>?_⟩
 match rs,i,p with
 | [r],i,p=>
  obtain⟨v,w,rfl,i1,i2⟩:=i;cases i2;have i1:Is H (vmsk g M (aQ [r]) ρ (bg [r])) r.d v:=i1;unfold Be at p;dsimp only at p;cases q:r.d with
  |lst ds=>
   rw[q]at p i1;obtain⟨a,ws,rfl,h1,h2⟩:=i1.rd;dsimp only at p;cases qb:cb ds with
   |none=>rw[qb]at p;exact p.elim
   |some bs=>
    rw[qb]at p;refine⟨a,ws,bs,rfl,.inl h1,?_,p _ M H (Ext.refl _ _) rep rfl⟩;apply LH
    intro j;by_cases hj:j<ds.length
    .obtain⟨b,e1,e2⟩:=iZ (i:=j) (d:=ds[j]) qb (by simp[hj]);obtain⟨v',ev,iv⟩:=h2.get (i:=j) (d:=ds[j]) (by simp[hj]);rw[e1]at iv;cases iv;rw[ev,K6,e2];rfl
    .have l1:=h2.length;have l2:=i6 qb;rw[Lo (by lia),Lo (by simp;lia)]
  |_=>rw[q]at p;exact p.elim
 | [],_,p=>exact p.elim
 |_::_::_,_,p=>exact p.elim
end
noncomputable def getD:List DK->List D->DK->Option D
 |k'::ks,d::ds,k=>if k'=k then some d else getD ks ds k
 |_,_,_=>none
theorem t8 {κ:Type}[DecidableEq κ](inj:κ->DK)(hi:∀ a b,inj a=inj b->a=b){H:Hp}{m:Addr->Prop}{k:κ}{d:D}:∀{kvs:List (κ×V)}{ds:List D},IsAll H m ds (kvs.map Prod.snd)->getD (kvs.map fun p=>inj p.1) ds (inj k)=some d->∃ v,dr kvs k=some v/\Is H m d v
 | [],ds,_,e=>by cases ds<;>cases e
 |p::r,[],h,e=>by cases h
 |p::r,d0::ds,h,e=>by
  obtain⟨v0,r0,z,i1,i2⟩:=h;cases z;rw[Kx]at e;unfold getD at e;by_cases hk:p.1=k
  .rw[Kf (KN inj hk)]at e;cases e;exact⟨p.2,dM hk,i1⟩
  .rw[Kh (fun z=>hk (hi _ _ z))]at e;obtain⟨v,e1,e2⟩:=t8 inj hi i2 e;exact⟨v,by rw[dN hk];exact e1,e2⟩
section
variable {X:Cx}{E:XK}
noncomputable def IJ (ra:R)(ks:List DK)(ds:List D)(rk rz:R):Res R:=match keyX rk.d with
 |some x=>if ks.all (kin x) then (match getD ks ds x with
  |some d=>.ok (mkV d ra.fr ra.al)
  |none=>.ok (mkV rz.d rz.fr rz.al)) else .stuck
 |none=>.stuck
noncomputable def Jn (fx:En->Res R)(env:En)(ra:R)(ks:List DK)(ds:List D)(rk:R):Res R:=(fx env).bind (IJ ra ks ds rk)
noncomputable def GW (fk fx:En->Res R)(env:En)(ra:R):Res R:=match ra.d with
 | .dic ks ds=>(fk env).bind (Jn fx env ra ks ds)
 |_=>.stuck
noncomputable def pZ (fa fk fx:En->Res R):En->Res R:=fun env=>(fa env).bind (GW fk fx env)
theorem DAt.isD (h:DAt H a ks vs):Ik H a:=h.imp (fun⟨kvs,e,_⟩=>⟨kvs,e⟩) fun⟨kvs,e,_⟩=>⟨kvs,e⟩
theorem t9:∀{ks:List DK}{ds:List D}{k:DK},ks.length=ds.length->mi ks k=(getD ks ds k).isSome
 | [],ds,k,_=>by cases ds<;>rfl
 |k'::ks,[],k,h=>by cases h
 |k'::ks,d::ds,k,h=>by
  have ih:=t9 (ks:=ks) (ds:=ds) (k:=k) (by simpa using h);unfold mi getD;unfold mi at ih;rw[L8];by_cases e:k'=k
  .rw[Kf e,Kl e];rfl
  .rw[Kh e,Kp e,Oj];exact ih
theorem yo (h:DAt H a ks vs)(hall:IsAll H m ds vs)(hx:Is H m' d x)(e:L3.keyX d=some k)(hk:ks.all (kin k)=true) :
 ∃ o,wW H a x o/\(match getD ks ds k with|some d=>∃ v,o=some v/\Is H m d v|none=>o=none):=by
 have key:∀{κ:Type} [DecidableEq κ] (inj:κ->DK) (hi:∀ a b,inj a=inj b->a=b) (kvs:List (κ×V)) (k0:κ),IsAll H m ds (kvs.map Prod.snd)->(match getD (kvs.map fun p=>inj p.1) ds (inj k0) with|some d=>∃ v,dr kvs k0=some v/\Is H m d v|none=>dr kvs k0=none):=by
  intro κ _ inj hi kvs k0 hl;have bR:(kvs.map fun p=>inj p.1).length=ds.length:=by have:=hl.length;rw[Kg]at this ⊢;exact this
  have h1:=t9 (k:=inj k0) bR;have h2:=yi (kvs:=kvs) inj hi k0;cases q:getD (kvs.map fun p=>inj p.1) ds (inj k0) with
  |some d=>exact t8 inj hi hl q
  |none=>
   rw[q]at h1;rw[h1]at h2;cases z:dr kvs k0 with
   |none=>rfl
   |some v=>rw[z]at h2;cases h2
 rcases hx.keyX e with⟨k0,rfl,rfl⟩|⟨k0,b,rfl,rfl,hb⟩
 .rcases h with⟨kvs,e1,rfl,rfl⟩|⟨kvs,e1,rfl,rfl⟩
  .exact⟨_,.inl (.inl ⟨kvs,k0,e1,rfl,rfl⟩),key Sum.inl (fun _ _ z=>Ng z) kvs k0 hall⟩
  .cases kvs with
   |nil=>exact⟨none,.inr (.inl ⟨e1,⟨k0,rfl⟩,rfl⟩),by cases ds<;>rfl⟩
   |cons p r=>simp[kin]at hk
 .rcases h with⟨kvs,e1,rfl,rfl⟩|⟨kvs,e1,rfl,rfl⟩
  .cases kvs with
   |nil=>exact⟨none,.inr (.inr ⟨e1,⟨b,k0,rfl,hb⟩,rfl⟩),by cases ds<;>rfl⟩
   |cons p r=>simp[kin]at hk
  .exact⟨_,.inl (.inr ⟨kvs,k0,b,e1,rfl,hb,rfl⟩),key Sum.inr (fun _ _ z=>Sum.inr.inj z) kvs k0 hall⟩
theorem Bf (hu:X.A.units+64<cLine) (ho:PD X E o fa) (hk:PD X E k fk) (hx:PD X E x fx) (m:M2 X o "get" apos k x cpos):PD X E (.Call (.Attribute o "get" apos) [k,x] [] cpos) (pZ fa fk fx):=by
 obtain⟨ta,p1,s1⟩:=ho;obtain⟨tk,p2,s2⟩:=hk;obtain⟨tx,p3,s3⟩:=hx;refine⟨_,vc (by lia) p1 p2 p3 m,fun g M ρ env σ H Q rep p=>s1.oneE rep p fun ra v M1 H1 e1 rep1 i1 q1=>?_⟩;unfold GW at q1;cases qa:ra.d with
 |dic ks ds=>
  rw[qa]at q1 i1;dsimp only at q1;obtain⟨a,vs,rfl,⟨dat,ma⟩,hall⟩:=i1;refine⟨a,rfl,dat.isD,s2.oneE rep1 q1 fun rk y M2 H2 e2 rep2 i2 q2=>?_⟩;refine s3.oneE rep2 q2 fun rz z M3 H3 e3 rep3 i3 q3=>?_;unfold IJ at q3;cases qk:keyX rk.d with
  |none=>rw[qk]at q3;exact q3.elim
  |some kx=>
   rw[qk]at q3;dsimp only at q3;by_cases hc:ks.all (kin kx)=true
   .rw[Kf hc]at q3;have dat3:DAt H3 a ks vs:=dat.keep fun o e=>e3.h _ _ (e2.h _ _ e);have hall3:IsAll H3 (vmsk g M3 ra.fr ρ ra.al) ds vs:=(hall.ext e2).ext e3;obtain⟨ov,g1,g2⟩:=yo dat3 hall3 (i2.ext e3) qk hc;refine⟨ov,g1,?_⟩;cases qd:getD ks ds kx with
    |some d=>rw[qd]at q3 g2;obtain⟨v,rfl,iv⟩:=g2;exact q3.val rep3 iv
    |none=>rw[qd]at q3 g2;have g2:ov=none:=g2;subst g2;exact q3.val rep3 i3
   .rw[Kh hc]at q3;exact q3.elim
 |_=>rw[qa]at q1;exact q1.elim
end
noncomputable def fP:List D->Option (List Int)
 | []=>some []
 | .int i::r=>(fP r).map (i::·)
 |_::_=>none
noncomputable def Er:D->Option (List Int)
 | .tup ds=>fP ds
 |_=>none
noncomputable def tupsI:List D->Option (List (List Int))
 | []=>some []
 |d::r=>match Er d,tupsI r with
  |some k,some ks=>some (k::ks)
  |_,_=>none
noncomputable def jH (k:List Int):D:=.tup (k.map .int)
noncomputable def lc (k:List Int):List (List Int)->List (List Int)
 | []=>[k]
 |h::t=>if k=h then h::t else if lexB k h then k::h::t else h::lc k t
noncomputable def bU:List (List Int)->List (List Int)
 | []=>[]
 |k::ks=>lc k (bU ks)
noncomputable def Bg (N:Nat)(r:R):Res R:=match r.d with
 | .lst ds=>match tupsI ds with
  |some ks=>if decide (ds.length<=N)&&ks.all (fun k=>!k.isEmpty) then .ok (.new ((bU ks).map jH) true) else .stuck
  |none=>.stuck
 |_=>.stuck
noncomputable def sq (r:R):Res R:=Bg 300 r
noncomputable def yp (f:En->Res R):En->Res R:=fun env=>(f env).bind sq
theorem ol (k x:List Int):∀ l,x∈lc k l↔x=k\/x∈l
 | []=>by simp[lc]
 |h::t=>by
  unfold lc;split
  .rename_i e;subst e;simp
  .split
   .simp
   .rw[Kj,ol k x t,Kj];constructor
    .rintro (z|z|z)
     .exact .inr (.inl z)
     .exact .inl z
     .exact .inr (.inr z)
    .rintro (z|z|z)
     .exact .inr (.inl z)
     .exact .inl z
     .exact .inr (.inr z)
theorem yq (k:List Int):∀ l,l.Pairwise (fun x y=>lexB x y=true)->(lc k l).Pairwise (fun x y=>lexB x y=true)
 | [],_=>LJ _ _
 |h::t,p=>by
  obtain⟨p1,p2⟩:=KS.mp p;unfold lc;split
  .exact p
  .rename_i hne;split
   .rename_i hlt;refine KS.mpr ⟨fun y hy=>?_,p⟩;rcases Kj.mp hy with rfl|hy
    .exact hlt
    .exact nQ _ _ _ hlt (p1 y hy)
   .rename_i hlt;refine KS.mpr ⟨fun y hy=>?_,yq k t p2⟩;rcases (ol k y t).mp hy with rfl|hy
    .exact(gX _ _ hne).resolve_left hlt
    .exact p1 y hy
theorem cc (x:List Int):∀ ks,x∈bU ks↔x∈ks
 | []=>by simp[bU]
 |k::ks=>by unfold bU;rw[ol,cc x ks,Kj]
theorem ib:∀ ks,(bU ks).Pairwise (fun x y=>lexB x y=true)
 | []=>List.Pairwise.nil
 |k::ks=>by unfold bU;exact yq k _ (ib ks)
theorem yr (h:lexB a b=true):lexB b a=false:=by
 cases q:lexB b a with
 |false=>rfl
 |true=>have:=nQ _ _ _ h q;rw[dz]at this;cases this
theorem gK:∀(a b:List (List Int)),a.Pairwise (fun x y=>lexB x y=true)->b.Pairwise (fun x y=>lexB x y=true)->(∀ x,x∈a↔x∈b)->a=b
 | [],[],_,_,_=>rfl
 | [],y::b,_,_,h=>by have:=(h y).mpr KD;simp at this
 |x::a,[],_,_,h=>by have:=(h x).mp KD;simp at this
 |x::a,y::b,pa,pb,h=>by
  obtain⟨a1,a2⟩:=KS.mp pa;obtain⟨b1,b2⟩:=KS.mp pb;have hxy:x=y:=by
   rcases Kj.mp ((h x).mp KD) with e|e
   .exact e
   .rcases Kj.mp ((h y).mpr KD) with e'|e'
    .exact e'.symm
    .have:=yr (a1 y e');rw[b1 x e]at this;cases this
  subst hxy;rw[gK a b a2 b2 fun z=>?_];constructor
  .intro hz;rcases Kj.mp ((h z).mp (Ky _ hz)) with e|e
   .have:=a1 z hz;rw[e,dz]at this;cases this
   .exact e
  .intro hz;rcases Kj.mp ((h z).mpr (Ky _ hz)) with e|e
   .have:=b1 z hz;rw[e,dz]at this;cases this
   .exact e
section
variable {H:Hp}{m:Addr->Prop}
theorem IsAll.ints:∀{ds:List D}{vs:List V}{k:List Int},IsAll H m ds vs->fP ds=some k->vs=(iK k).map kV
 | [],_,_,h,e=>by cases h;cases e;rfl
 |d::ds,_,k,h,e=>by
  obtain⟨v,r,rfl,h1,h2⟩:=h;cases d with
  |int i=>unfold fP at e;obtain⟨k',e1,rfl⟩:=LN.mp e;rw[IsAll.ints h2 e1,show v=V.int i from h1];rfl
  |_=>cases e
theorem lg:∀(k:List Int),IsAll H m (k.map .int) ((iK k).map kV)
 | []=>rfl
 |i::k=>⟨.int i,_,rfl,rfl,lg k⟩
theorem IsAll.tupsI:∀{ds:List D}{vs:List V}{ks:List (List Int)},IsAll H m ds vs->L3.tupsI ds=some ks->∃ its:List TItem,TupsIn H vs its/\its.map (·.1)=ks
 | [],_,_,h,e=>by cases h;cases e;exact⟨[],.nil,rfl⟩
 |d::ds,_,ks,h,e=>by
  obtain⟨v,r,rfl,h1,h2⟩:=h;unfold L3.tupsI at e;cases q:Er d with
  |none=>rw[q]at e;cases e
  |some k=>
   cases q2:L3.tupsI ds with
   |none=>rw[q,q2]at e;cases e
   |some ks'=>
    rw[q,q2]at e;cases e;obtain⟨its,t1,t2⟩:=IsAll.tupsI h2 q2;cases d with
    |tup es=>obtain⟨a,ws,rfl,g1,g2⟩:=h1;have q:fP es=some k:=q;rw[IsAll.ints g2 q]at g1;exact⟨(k,a)::its,.cons ⟨rfl,g1⟩ t1,by rw[Kx,t2]⟩
    |_=>cases q
end
theorem lh:∀{vs:List V}{its:List TItem},TupsIn H vs its->vs.length=its.length
 |_,_,.nil=>rfl
 |_,_,.cons _ t=>by simp[lh t]
theorem i9:∀{vs:List V}{its:List TItem},TupsIn H vs its->∀ x∈its,H x.2=some (.tup ((iK x.1).map kV))
 |_,_,.nil,x,hx=>nomatch hx
 |_,_,.cons q t,x,hx=>by
  rcases Kj.mp hx with rfl|hx
  .exact q.2
  .exact i9 t x hx
theorem fQ:∀{ys:List TItem},(∀ y∈ys,H y.2=some (.tup ((iK y.1).map kV)))->IsAll H m (ys.map (jH ∘ fun y=>y.1)) (ys.map fun y=>.ref y.2)
 | [],_=>rfl
 |y::ys,h=>⟨.ref y.2,_,rfl,⟨y.2,_,rfl,h y KD,lg y.1⟩,fQ fun z hz=>h z (Ky _ hz)⟩
section
variable {X:Cx}{E:XK}
theorem mj (hN:N<=300)(hso:gb X.prog X.w N)(hc:X.calm=true)(hu:X.A.units+64<cLine)(h:PD X E e f)
 (hg1:Gl X x1) (hm1:X.mg x1=none) (hv1:bootBuiltins x1=some (.builtin "sorted")) (hg2:Gl X x2) (hm2:X.mg x2=none) (hv2:bootBuiltins x2=some (.type "set"))
 (hn1:autoParam (x1≠"__name__") Oy._auto_1) (hdb1:autoParam ((x1==("__debug__" : Str))=false) Oy._auto_1) (hn2:autoParam (x2≠"__name__") Oy._auto_1) (hdb2:autoParam ((x2==("__debug__" : Str))=false) Oy._auto_1)
 (he2:autoParam (starEach [e] X.env=(false,eval e X.env)::starEach [] X.env) OD._auto_1) (hpl2:autoParam ((backTo pos2 (starEach [] X.env)).any (·.1)=false) OD._auto_1)
 (he1:autoParam (starEach [.Call (.Name x2 p2) [e] [] pos2] X.env=(false,eval (.Call (.Name x2 p2) [e] [] pos2) X.env)::starEach [] X.env) OD._auto_1) (hpl1:autoParam ((backTo pos1 (starEach [] X.env)).any (·.1)=false) OD._auto_1) :
 PD X E (.Call (.Name x1 p1) [.Call (.Name x2 p2) [e] [] pos2] [] pos1) (fun env=>(f env).bind (Bg N)):=by
 obtain⟨t,p1,s1⟩:=h;refine⟨_,gQ (nS hc hN hso) hg1 hm1 hv1 (bh (iL (vg hc hu) hg2 hm2 hv2 (bh p1 cI he2) hn2 hdb2 he2 hpl2) cI he1) hn1 hdb1 he1 hpl1,fun g M ρ env σ H Q rep p=>?_⟩;refine s1.oneE rep p fun r v M1 H1 e1 rep1 i1 q1=>?_;unfold Bg at q1;cases qd:r.d with
 |lst ds=>
  rw[qd]at q1 i1;dsimp only at q1;cases qt:tupsI ds with
  |none=>rw[qt]at q1;exact q1.elim
  |some ks=>
   rw[qt]at q1;dsimp only at q1;by_cases hcond:(decide (ds.length<=N)&&ks.all (fun k=>!k.isEmpty))=true
   .rw[Kf hcond]at q1;simp only[KQ,LK,Lm]at hcond;obtain⟨hl,hne⟩:=hcond;obtain⟨a,vs,rfl,h1,h2⟩:=i1.rd;obtain⟨its,t1,t2⟩:=h2.tupsI qt;have hvl:vs.length<=N:=by rw[h2.length];exact hl
    have tat:=i9 t1;refine⟨a,vs,its,rfl,h1,t1,KA hvl hN,fun b es hb v=>?_⟩;refine⟨b,es,its,rfl,am,v,fun x hx=>?_,fun x hx z=>?_,by rw[<- lh t1];exact hvl,fun l ys hl so=>?_⟩
    .rw[ao (aj (tat x hx) hb)];exact tat x hx
    .have:x.1∈ks:=by rw[<- t2];exact Kq.mpr ⟨x,hx,rfl⟩
     have:=hne _ this;rw[z]at this;simp at this
    .have hlb:l≠b:=fun z=>by rw[z,am]at hl;cases hl
     have hl1:H1 l=none:=by rw[ao hlb]at hl;exact hl
     have sm1:Same H1 (aJ H1 b (.ext fun h=>SetAt X.w h b es)):=aP hb;have sm2:Same (aJ H1 b (.ext fun h=>SetAt X.w h b es)) (aJ (aJ H1 b (.ext fun h=>SetAt X.w h b es)) l (.lst (ys.map fun y=>.ref y.2))):=aP hl;have sm:=sm1.trans sm2;obtain⟨z0,zm,zo⟩:=rep1.free hl1;refine q1 _ M1 _ ⟨fun _ z=>z,sm,fun _ z=>.inl z⟩ (rep1.grow sm) ⟨l,_,rfl,am,zm,hl1,zo,?_⟩;have ek:ys.map (·.1)=bU ks:=by
      refine gK _ _ ?_ (ib ks) fun k=>?_
      .rw[KH];exact so.pw
      .rw[cc,<- t2];constructor
       .intro hk;obtain⟨y,hy,rfl⟩:=Kq.mp hk;exact Kq.mpr ⟨y,so.sub y hy,rfl⟩
       .intro hk;obtain⟨x,hx,rfl⟩:=Kq.mp hk;obtain⟨y,y1,y2⟩:=so.all x hx;exact Kq.mpr ⟨y,y1,y2⟩
     rw[<- ek,KC];exact fQ (fun x hx=>sm _ _ (tat x (so.sub x hx)))
   .rw[Kh hcond]at q1;exact q1.elim
 |_=>rw[qd]at q1;exact q1.elim
end
section
variable {H H':Hp}{m m':Addr->Prop}
end
section
variable {g:Gd}{M:Addr->Prop}{ρ:Pr}{env:En}{σ:St}{H:Hp}{d:Addr}{o:Obj}{u:HO}
open Classical in
end
noncomputable def kD:Key->D
 | .inl i=>.int i
 | .inr x=>.str x
noncomputable def Es:List DK->Option (List D)
 | []=>some []
 | .inl k::r=>(Es r).map (kD k::·)
 | .inr _::_=>none
section
variable {X:Cx}{E:XK}{tg:Expr}
end
noncomputable def GX (t:List (Key×D))(k:Key)(d:D):List (Key×D):=if (t.any fun x=>decide (x.1=k))=true then t.map (fun x=>if x.1=k then (x.1,d) else x) else t++[(k,d)]
section
variable {H:Hp}{m:Addr->Prop}
noncomputable def REK (H:Hp)(m:Addr->Prop):List (Key×V)->List (Key×D)->Prop:=Paired fun a b=>a.1=b.1/\Is H m b.2 a.2
theorem REK.fst (r:REK H m a b):a.map Prod.fst=b.map Prod.fst:=by
 induction r with
 |nil=>rfl
 |cons h _ ih=>rw[Kx,Kx,ih,h.1]
theorem REK.snd (r:REK H m a b):IsAll H m (b.map Prod.snd) (a.map Prod.snd):=by
 induction r with
 |nil=>rfl
 |cons h _ ih=>exact⟨_,_,rfl,h.2,ih⟩
theorem REK.of:∀{a:List (Key×V)}{b:List (Key×D)},a.map Prod.fst=b.map Prod.fst->IsAll H m (b.map Prod.snd) (a.map Prod.snd)->REK H m a b
 | [],[],_,_=>.nil
 | [],_::_,e,_=>by cases e
 |_::_,[],e,_=>by cases e
 |p::a,q::b,e,h=>by obtain⟨v,r,z,h1,h2⟩:=h;cases z;simp only[Kx,Nn]at e;exact .cons ⟨e.1,h1⟩ (REK.of e.2 h2)
theorem REK.append (r:REK H m a b)(s:REK H m c d):REK H m (a++c) (b++d):=by
 induction r with
 |nil=>exact s
 |cons h _ ih=>exact .cons h ih
theorem REK.any (r:REK H m a b)(k:Key):(a.any fun x=>decide (x.1=k))=(b.any fun x=>decide (x.1=k)):=by
 induction r with
 |nil=>rfl
 |cons h _ ih=>rw[L8,L8,ih,h.1]
theorem REK.repl (r:REK H m a b)(h:Is H m d v):REK H m (a.map fun x=>if x.1=k then (x.1,v) else x) (b.map fun x=>if x.1=k then (x.1,d) else x):=by
 induction r with
 |nil=>exact .nil
 | @cons p q ps qs hq t ih=>
  refine .cons ?_ ih;dsimp only;by_cases e:p.1=k
  .rw[Kf e,Kf (hq.1▸e)];exact⟨hq.1,h⟩
  .rw[Kh e,Kh (fun z=>e (hq.1.trans z))];exact hq
theorem REK.put (r:REK H m a b)(h:Is H m d v):REK H m (b9 a k v) (GX b k d):=by
 unfold b9 GX;rw[r.any k];split
 .exact r.repl h
 .exact r.append (.cons ⟨rfl,h⟩ .nil)
theorem REK.flat (hf:D.flats (b.map Prod.snd)=true)(r:REK H m a b):REK H m' a b:=REK.of r.fst (IsAll.flat hf r.snd)
end
section
variable {X:Cx}{E:XK}
end
theorem REK.length (r:REK H m a b):a.length=b.length:=Nk r
section
variable {X:Cx}{E:XK}
end
noncomputable abbrev Tri:=Int×Int×Int
noncomputable def dd (l:List Int)(x:Int):List Int:=if x∈l then l else l++[x]
noncomputable def dS (xs:List Int):List Int:=xs.foldl dd []
noncomputable def g1 (ts:List Tri):List Int:=dS (ts.map (·.1))
noncomputable def g2 (ts:List Tri)(x:Int):List Int:=dS ((ts.filter fun t=>decide (t.1=x)).map (·.2.1))
noncomputable def g3 (ts:List Tri)(x y:Int):List Int:=(ts.filter fun t=>decide (t.1=x)&&decide (t.2.1=y)).map (·.2.2)
noncomputable def ik (i:Int):DK:=.inl (.inl i)
noncomputable def GY (ts:List Tri)(x:Int):D:=.dic ((g2 ts x).map ik) ((g2 ts x).map fun y=>.lst ((g3 ts x y).map .int))
noncomputable def Jo (ts:List Tri):D:=.dic ((g1 ts).map ik) ((g1 ts).map (GY ts))
theorem nh (xs:List Int)(x:Int):dS (xs++[x])=dd (dS xs) x:=by unfold dS;rw[Oi];rfl
theorem Et (l:List Int)(x y:Int):y∈dd l x↔y∈l\/y=x:=by
 unfold dd;split
 .rename_i h;exact⟨.inl,fun z=>z.elim id fun e=>e▸h⟩
 .simp
theorem t_ (ts:List Tri)(x y z:Int):g1 (ts++[(x,y,z)])=dd (g1 ts) x:=by unfold g1;rw[KI];exact nh _ _
theorem jV (ts:List Tri)(x y z u:Int):g2 (ts++[(x,y,z)]) u=if x=u then dd (g2 ts u) y else g2 ts u:=by
 unfold g2;rw[List.filter_append,KI];by_cases h:x=u
 .rw[Kf h];have:([(x,y,z)]:List Tri).filter (fun t=>decide (t.1=u))=[(x,y,z)]:=by simp[h]
  rw[this];exact nh _ _
 .rw[Kh h];have:([(x,y,z)]:List Tri).filter (fun t=>decide (t.1=u))=[]:=by simp[h]
  rw[this];simp
theorem jW (ts:List Tri)(x y z u v:Int):g3 (ts++[(x,y,z)]) u v=if x=u/\y=v then g3 ts u v++[z] else g3 ts u v:=by
 unfold g3;rw[List.filter_append,KI];by_cases h:x=u/\y=v
 .rw[Kf h];have:([(x,y,z)]:List Tri).filter (fun t=>decide (t.1=u)&&decide (t.2.1=v))=[(x,y,z)]:=by simp[h.1,h.2]
  rw[this];rfl
 .rw[Kh h];have:([(x,y,z)]:List Tri).filter (fun t=>decide (t.1=u)&&decide (t.2.1=v))=[]:=by rw[Ll,Kh,List.filter_nil];simpa using h
  rw[this];simp
theorem fR (y:Int):∀(xs:List Int)(l:List Int),y∈xs.foldl dd l↔y∈l\/y∈xs
 | [],l=>by simp
 |x::xs,l=>by rw[Mx,fR y xs,Et,Kj,or_assoc]
theorem Eu (ts:List Tri)(x:Int):x∈g1 ts↔∃ t∈ts,t.1=x:=by unfold g1 dS;rw[fR];simp
theorem yt (ts:List Tri)(x y:Int):y∈g2 ts x↔∃ t∈ts,t.1=x/\t.2.1=y:=by
 unfold g2 dS;rw[fR,Kq];constructor
 .rintro (h|⟨t,h1,h2⟩)
  .simp at h
  .rw[Ld]at h1;exact⟨t,h1.1,by simpa using h1.2,h2⟩
 .rintro⟨t,h1,h2,h3⟩;exact .inr ⟨t,Ld.mpr ⟨h1,by simpa using h2⟩,h3⟩
theorem jX (h:x∉g1 ts):g2 ts x=[]:=by rw[List.eq_nil_iff_forall_not_mem];intro y hy;obtain⟨t,h1,h2,_⟩:=(yt ts x y).mp hy;exact h ((Eu ts x).mpr ⟨t,h1,h2⟩)
theorem ua (h:y∉g2 ts x):g3 ts x y=[]:=by unfold g3;rw[List.map_eq_nil_iff,List.filter_eq_nil_iff];intro t ht z;simp only[KQ,LK]at z;exact h ((yt ts x y).mpr ⟨t,ht,z.1,z.2⟩)
theorem yu (l:List Int)(x:Int):(dd l x).length<=l.length+1:=by unfold dd;split<;>simp
theorem yw (ts:List Tri)(x y:Int):(g3 ts x y).length<=ts.length:=by unfold g3;rw[Kg];exact List.length_filter_le _ _
noncomputable def kvI (l:List Int)(A:Int->Addr):List (Key×V):=l.map fun x=>(.inl x,.ref (A x))
structure Gr (H:Hp) (a:Addr) (ts:List Tri) (A:Int->Addr) (B:Int->Int->Addr):Prop where
 root:H a=some (.dK (kvI (g1 ts) A))\/(g1 ts=[]/\H a=some (.dT []))
 inn:∀ x∈g1 ts,H (A x)=some (.dK (kvI (g2 ts x) (B x)))
 leaf:∀ x y,y∈g2 ts x->H (B x y)=some (.lst ((g3 ts x y).map .int))
 d1:∀ x∈g1 ts,A x≠a
 d2:∀ x∈g1 ts,∀ x'∈g1 ts,A x=A x'->x=x'
 d3:∀ x y,y∈g2 ts x->∀ x' y',y'∈g2 ts x'->B x y=B x' y'->x=x'/\y=y'
def IK (a:Addr)(ts:List Tri)(A:Int->Addr)(B:Int->Int->Addr)(b:Addr):Prop:=b=a\/(∃ x∈g1 ts,b=A x)\/∃ x y,y∈g2 ts x/\b=B x y
section
variable {H:Hp}{a:Addr}{ts:List Tri}{A:Int->Addr}{B:Int->Int->Addr}{x y z:Int}
theorem Gr.first (G:Gr H a ts A B)(hx:x∉g1 ts)(hb:H b=none)(hl:H l=none)(hbl:b≠l)(hm:H' l=some (.lst [.int z]))(hi:H' b=some (.dK [(.inl y,.ref l)]))(ha:H' a=some (.dK (kvI (g1 ts++[x]) fun u=>if u=x then b else A u)))
 (kp:∀ c u,H c=some u->c≠a->H' c=some u) (han:H a≠none):Gr H' a (ts++[(x,y,z)]) (fun u=>if u=x then b else A u) (fun u v=>if u=x/\v=y then l else B u v):=by
 have e1:g1 (ts++[(x,y,z)])=g1 ts++[x]:=by rw[t_];unfold dd;rw[Kh hx]
 have ex:g2 (ts++[(x,y,z)]) x=[y]:=by rw[jV,Kf rfl,jX hx];rfl
 have e2:∀ u,u≠x->g2 (ts++[(x,y,z)]) u=g2 ts u:=fun u hu=>by rw[jV,Kh (Lj hu)]
 have o1:∀ u,u∈g1 (ts++[(x,y,z)])->u≠x->u∈g1 ts:=fun u hu hn=>by
  rw[e1]at hu;rcases Ku.mp hu with q|q
  .exact q
  .exact(hn (by simpa using q)).elim
 have old:∀ u v,v∈g2 (ts++[(x,y,z)]) u->¬ (u=x/\v=y)->u≠x/\v∈g2 ts u:=fun u v hv hn=>by
  by_cases h:u=x
  .subst h;rw[ex]at hv;exact(hn ⟨rfl,by simpa using hv⟩).elim
  .rw[e2 u h]at hv;exact⟨h,hv⟩
 have nA:∀ u∈g1 ts,A u≠b:=fun u hu e=>by have:=G.inn u hu;rw[e,hb]at this;cases this
 refine⟨.inl (by rw[e1];exact ha),fun u hu=>?_,fun u v hv=>?_,fun u hu=>?_,fun u hu u' hu' e=>?_,fun u v hv u' v' hv' e=>?_⟩
 .by_cases h:u=x
  .subst h;rw[Kf rfl,ex,hi];simp[kvI]
  .rw[Kh h,e2 u h];have:(fun v=>if u=x/\v=y then l else B u v)=B u:=by funext v;rw[Kh (fun z=>h z.1)]
   rw[this];exact kp _ _ (G.inn u (o1 u hu h)) (G.d1 u (o1 u hu h))
 .rw[jW];by_cases h:u=x/\v=y
  .obtain⟨rfl,rfl⟩:=h;rw[Kf ⟨rfl,rfl⟩,Kf ⟨rfl,rfl⟩,ua (by rw[jX hx];simp)];exact hm
  .rw[Kh h,Kh (fun q=>h ⟨q.1.symm,q.2.symm⟩)];obtain⟨hu,hv'⟩:=old u v hv h;refine kp _ _ (G.leaf u v hv') fun e=>?_;have:=G.leaf u v hv';rcases G.root with q|⟨_,q⟩<;>(rw[e,q]at this;cases this)
 .by_cases h:u=x
  .rw[Kf h];exact fun e=>han (by rw[<- e];exact hb)
  .rw[Kh h];exact G.d1 u (o1 u hu h)
 .try dsimp only at e
  by_cases h:u=x<;>by_cases h':u'=x
  .exact h.trans h'.symm
  .rw[Kf h,Kh h']at e;exact(nA u' (o1 u' hu' h') e.symm).elim
  .rw[Kh h,Kf h']at e;exact(nA u (o1 u hu h) e).elim
  .rw[Kh h,Kh h']at e;exact G.d2 u (o1 u hu h) u' (o1 u' hu' h') e
 .have nl:∀ u v,v∈g2 (ts++[(x,y,z)]) u->¬ (u=x/\v=y)->B u v≠l:=fun u v hv hn e=>by have:=G.leaf u v (old u v hv hn).2;rw[e,hl]at this;cases this
  try dsimp only at e
  by_cases h:u=x/\v=y<;>by_cases h':u'=x/\v'=y
  .exact⟨h.1.trans h'.1.symm,h.2.trans h'.2.symm⟩
  .rw[Kf h,Kh h']at e;exact(nl u' v' hv' h' e.symm).elim
  .rw[Kh h,Kf h']at e;exact(nl u v hv h e).elim
  .rw[Kh h,Kh h']at e;exact G.d3 u v (old u v hv h).2 u' v' (old u' v' hv' h').2 e
end
theorem cX:∀{l:List Int},(∀ x∈l,Is H m (F x) (G x))->IsAll H m (l.map F) (l.map G)
 | [],_=>rfl
 |x::l,h=>⟨_,_,rfl,h x KD,cX fun y hy=>h y (Ky _ hy)⟩
theorem gL:∀(k:List Int),IsAll H m (k.map .int) (k.map .int)
 | []=>rfl
 |i::k=>⟨.int i,_,rfl,rfl,gL k⟩
theorem Gr.is (G:Gr H a ts A B):Is H (IK a ts A B) (Jo ts) (.ref a):=by
 have keys:∀(l:List Int)(C:Int->Addr),l.map ik=(kvI l C).map (fun p=>.inl p.1):=fun l C=>by unfold kvI;rw[KC];rfl
 have vals:∀(l:List Int)(C:Int->Addr),(kvI l C).map Prod.snd=l.map fun x=>.ref (C x):=fun l C=>by unfold kvI;rw[KC];rfl
 have inner:∀ x∈g1 ts,Is H (IK a ts A B) (GY ts x) (.ref (A x)):=fun x hx=>by refine⟨A x,(g2 ts x).map fun y=>.ref (B x y),rfl,⟨.inl ⟨_,.inl (G.inn x hx),keys _ _,(vals _ _).symm⟩,.inr (.inl ⟨x,hx,rfl⟩)⟩,cX fun y hy=>?_⟩;exact⟨B x y,_,rfl,.inl ⟨G.leaf x y hy,.inr (.inr ⟨x,y,hy,rfl⟩)⟩,gL _⟩
 refine⟨a,(g1 ts).map fun x=>.ref (A x),rfl,⟨?_,.inl rfl⟩,cX inner⟩;rcases G.root with q|⟨q,e⟩
 .exact .inl ⟨_,.inl q,keys _ _,(vals _ _).symm⟩
 .rw[q];exact .inr ⟨[],.inl e,rfl,rfl⟩
noncomputable def Bh:D->Option Tri
 | .tup [.int x,.int y,.int z]=>some (x,y,z)
 |_=>none
noncomputable def fS:List D->Option (List Tri)
 | []=>some []
 |d::r=>match Bh d,fS r with
  |some t,some ts=>some (t::ts)
  |_,_=>none
theorem ni:∀{ds:List D}{ts:List Tri},fS ds=some ts->ds.length=ts.length
 | [],_,e=>by cases e;rfl
 |d::ds,ts,e=>by
  unfold fS at e;cases q:Bh d with
  |none=>rw[q]at e;cases e
  |some t=>
   cases q2:fS ds with
   |none=>rw[q,q2]at e;cases e
   |some ts'=>rw[q,q2]at e;cases e;simp[ni q2]
theorem p_:∀{ds:List D}{vs:List V}{ts:List Tri}{j:Nat}{v:V},IsAll H m ds vs->fS ds=some ts->vs[j]?=some v->∃ x y z p,ts[j]?=some (x,y,z)/\v=.ref p/\H p=some (.tup [.int x,.int y,.int z])
 | [],_,_,_,_,h,_,ev=>by cases h;simp at ev
 |d::ds,_,ts,j,v,h,e,ev=>by
  obtain⟨w,r,rfl,h1,h2⟩:=h;unfold fS at e;cases q:Bh d with
  |none=>rw[q]at e;cases e
  |some t=>
   cases q2:fS ds with
   |none=>rw[q,q2]at e;cases e
   |some ts'=>
    rw[q,q2]at e;cases e;cases j with
    |zero=>
     simp at ev;subst ev;unfold Bh at q;split at q
     .rename_i x y z;cases q;obtain⟨p,us,rfl,g1,w1,r1,rfl,i1,w2,r2,rfl,i2,w3,r3,rfl,i3,i4⟩:=h1;cases i1;cases i2;cases i3;cases i4;exact⟨x,y,z,p,rfl,rfl,g1⟩
     .cases q
    |succ j=>exact p_ (j:=j) h2 q2 (by simpa using ev)
section
variable {X:Cx}{E:XK}{tg:Expr}
end
section
variable {X:Cx}
end
section
variable {g:Gd}{M M2 M':Addr->Prop}{ρ:Pr}{env:En}{σ:St}{H H1 H':Hp}{d:Addr}{o:Obj}{u:HO}{m m':Addr->Prop}
end
theorem vU (h:Is H m (.dic ks ds) v)(hk:∀ k∈ks,∃ a,k=.inl a):∃ d kvs u,v=.ref d/\m d/\(u=.dK kvs\/(u=.dT []/\kvs=[]))/\Rd H d u/\ks=kvs.map (fun p=>.inl p.1)/\IsAll H m ds (kvs.map Prod.snd):=by
 obtain⟨d,vs,rfl,⟨dat,md⟩,hall⟩:=h;rcases dat with⟨kvs,e,rfl,rfl⟩|⟨kvs,e,rfl,rfl⟩
 .exact⟨d,kvs,_,rfl,md,.inl rfl,e,rfl,hall⟩
 .cases kvs with
  |nil=>exact⟨d,[],_,rfl,md,.inr ⟨rfl,rfl⟩,e,rfl,hall⟩
  |cons p r=>obtain⟨a,ea⟩:=hk (.inr p.1) (by simp);cases ea
section
variable {X:Cx}{E:XK}{scope:Scope}{tg:Expr}{tN:List Str}{capN:List Str}{caps:List Nat}{ix:List Nat}{asg:D->Bool->En->Option En}{elt iter:Expr}{pos:Pos}{ifs:List Expr}{f:En->Res R}{ft:En->Res Bool}{fe:En->Res R}
end
section
variable {X:Cx}{E:XK}{g:Gd}{M:Addr->Prop}{ρ:Pr}{env:En}{σ:St}{H:Hp}{D:Ends}{d:Addr}{o:Obj}{u:HO}
end
open Classical in
section
variable {P:Ov}{w:World}{K:Ou}{mg:Str->Option Ow}{base:Heap}
end
section
variable {X:Cx}{E:XK}
end
noncomputable def GZ (l:List Int):D:=.dic ((dS l).map ik) ((dS l).map fun _=>.bl true)
noncomputable def G0 (ts:List Tri)(x:Int):D:=.dic ((g2 ts x).map ik) ((g2 ts x).map fun y=>GZ (g3 ts x y))
noncomputable def Jp (ts:List Tri):D:=.dic ((g1 ts).map ik) ((g1 ts).map (G0 ts))
noncomputable def kvT (l:List Int):List (Key×V):=(dS l).map fun z=>(.inl z,.bl true)
structure Gq (H:Hp) (a:Addr) (ts:List Tri) (A:Int->Addr) (B:Int->Int->Addr):Prop where
 root:H a=some (.dK (kvI (g1 ts) A))\/(g1 ts=[]/\H a=some (.dT []))
 inn:∀ x∈g1 ts,H (A x)=some (.dK (kvI (g2 ts x) (B x)))
 leaf:∀ x y,y∈g2 ts x->H (B x y)=some (.dK (kvT (g3 ts x y)))
 d1:∀ x∈g1 ts,A x≠a
 d2:∀ x∈g1 ts,∀ x'∈g1 ts,A x=A x'->x=x'
 d3:∀ x y,y∈g2 ts x->∀ x' y',y'∈g2 ts x'->B x y=B x' y'->x=x'/\y=y'
 d4:∀ u∈g1 ts,∀ x y,y∈g2 ts x->A u≠B x y
 d5:∀ x y,y∈g2 ts x->B x y≠a
section
variable {H:Hp}{a:Addr}{ts:List Tri}{A:Int->Addr}{B:Int->Int->Addr}{x y z:Int}
theorem Gq.first (G:Gq H a ts A B)(hx:x∉g1 ts)(hb:H b=none)(hl:H l=none)(hbl:b≠l)(hm:H' l=some (.dK (kvT [z])))(hi:H' b=some (.dK [(.inl y,.ref l)]))(ha:H' a=some (.dK (kvI (g1 ts++[x]) fun u=>if u=x then b else A u)))
 (kp:∀ c u,H c=some u->c≠a->H' c=some u) (han:H a≠none):Gq H' a (ts++[(x,y,z)]) (fun u=>if u=x then b else A u) (fun u v=>if u=x/\v=y then l else B u v):=by
 have e1:g1 (ts++[(x,y,z)])=g1 ts++[x]:=by rw[t_];unfold dd;rw[Kh hx]
 have ex:g2 (ts++[(x,y,z)]) x=[y]:=by rw[jV,Kf rfl,jX hx];rfl
 have e2:∀ u,u≠x->g2 (ts++[(x,y,z)]) u=g2 ts u:=fun u hu=>by rw[jV,Kh (Lj hu)]
 have o1:∀ u,u∈g1 (ts++[(x,y,z)])->u≠x->u∈g1 ts:=fun u hu hn=>by
  rw[e1]at hu;rcases Ku.mp hu with q|q
  .exact q
  .exact(hn (by simpa using q)).elim
 have old:∀ u v,v∈g2 (ts++[(x,y,z)]) u->¬ (u=x/\v=y)->u≠x/\v∈g2 ts u:=fun u v hv hn=>by
  by_cases h:u=x
  .subst h;rw[ex]at hv;exact(hn ⟨rfl,by simpa using hv⟩).elim
  .rw[e2 u h]at hv;exact⟨h,hv⟩
 have nA:∀ u∈g1 ts,A u≠b:=fun u hu e=>by have:=G.inn u hu;rw[e,hb]at this;cases this
 refine⟨.inl (by rw[e1];exact ha),fun u hu=>?_,fun u v hv=>?_,fun u hu=>?_,fun u hu u' hu' e=>?_,fun u v hv u' v' hv' e=>?_,fun u hu x' y' hy'=>?_,fun x' y' hy'=>?_⟩
 .by_cases h:u=x
  .subst h;rw[Kf rfl,ex,hi];simp[kvI]
  .rw[Kh h,e2 u h];have:(fun v=>if u=x/\v=y then l else B u v)=B u:=by funext v;rw[Kh (fun z=>h z.1)]
   rw[this];exact kp _ _ (G.inn u (o1 u hu h)) (G.d1 u (o1 u hu h))
 .rw[jW];by_cases h:u=x/\v=y
  .obtain⟨rfl,rfl⟩:=h;rw[Kf ⟨rfl,rfl⟩,Kf ⟨rfl,rfl⟩,ua (by rw[jX hx];simp)];exact hm
  .rw[Kh h,Kh (fun q=>h ⟨q.1.symm,q.2.symm⟩)];obtain⟨hu,hv'⟩:=old u v hv h;exact kp _ _ (G.leaf u v hv') (G.d5 u v hv')
 .by_cases h:u=x
  .rw[Kf h];exact fun e=>han (by rw[<- e];exact hb)
  .rw[Kh h];exact G.d1 u (o1 u hu h)
 .try dsimp only at e
  by_cases h:u=x<;>by_cases h':u'=x
  .exact h.trans h'.symm
  .rw[Kf h,Kh h']at e;exact(nA u' (o1 u' hu' h') e.symm).elim
  .rw[Kh h,Kf h']at e;exact(nA u (o1 u hu h) e).elim
  .rw[Kh h,Kh h']at e;exact G.d2 u (o1 u hu h) u' (o1 u' hu' h') e
 .have nl:∀ u v,v∈g2 (ts++[(x,y,z)]) u->¬ (u=x/\v=y)->B u v≠l:=fun u v hv hn e=>by have:=G.leaf u v (old u v hv hn).2;rw[e,hl]at this;cases this
  try dsimp only at e
  by_cases h:u=x/\v=y<;>by_cases h':u'=x/\v'=y
  .exact⟨h.1.trans h'.1.symm,h.2.trans h'.2.symm⟩
  .rw[Kf h,Kh h']at e;exact(nl u' v' hv' h' e.symm).elim
  .rw[Kh h,Kf h']at e;exact(nl u v hv h e).elim
  .rw[Kh h,Kh h']at e;exact G.d3 u v (old u v hv h).2 u' v' (old u' v' hv' h').2 e
 .try dsimp only
  by_cases hu1:u=x
  .rw[Kf hu1];by_cases h:x'=x/\y'=y
   .rw[Kf h];exact hbl
   .rw[Kh h];exact(aj (G.leaf x' y' (old x' y' hy' h).2) hb).symm
  .rw[Kh hu1];by_cases h:x'=x/\y'=y
   .rw[Kf h];exact aj (G.inn u (o1 u hu hu1)) hl
   .rw[Kh h];exact G.d4 u (o1 u hu hu1) x' y' (old x' y' hy' h).2
 .try dsimp only
  by_cases h:x'=x/\y'=y
  .rw[Kf h];exact fun e=>han (by rw[<- e];exact hl)
  .rw[Kh h];exact G.d5 x' y' (old x' y' hy' h).2
end
theorem Gq.is (G:Gq H a ts A B):Is H (IK a ts A B) (Jp ts) (.ref a):=by
 have keys:∀(l:List Int)(C:Int->Addr),l.map ik=(kvI l C).map (fun p=>.inl p.1):=fun l C=>by unfold kvI;rw[KC];rfl
 have vals:∀(l:List Int)(C:Int->Addr),(kvI l C).map Prod.snd=l.map fun x=>.ref (C x):=fun l C=>by unfold kvI;rw[KC];rfl
 have inner:∀ x∈g1 ts,Is H (IK a ts A B) (G0 ts x) (.ref (A x)):=fun x hx=>by
  refine⟨A x,(g2 ts x).map fun y=>.ref (B x y),rfl,⟨.inl ⟨_,.inl (G.inn x hx),keys _ _,(vals _ _).symm⟩,.inr (.inl ⟨x,hx,rfl⟩)⟩,cX fun y hy=>?_⟩;refine⟨B x y,(kvT (g3 ts x y)).map Prod.snd,rfl,⟨.inl ⟨_,.inl (G.leaf x y hy),?_,rfl⟩,.inr (.inr ⟨x,y,hy,rfl⟩)⟩,?_⟩
  .unfold kvT;rw[KC];rfl
  .unfold kvT;rw[KC];exact cX fun _ _=>rfl
 refine⟨a,(g1 ts).map fun x=>.ref (A x),rfl,⟨?_,.inl rfl⟩,cX inner⟩;rcases G.root with q|⟨q,e⟩
 .exact .inl ⟨_,.inl q,keys _ _,(vals _ _).symm⟩
 .rw[q];exact .inr ⟨[],.inl e,rfl,rfl⟩
section
variable {X:Cx}{E:XK}{tg:Expr}
end
section
variable {X:Cx}{E:XK}
noncomputable def yx:List R->Res R
 | [r]=>match r.d with
  | .dic ks _=>match Es ks with
   |some xs=>if xs.length<=lim then .ok (.new xs true) else .stuck
   |none=>.stuck
  |_=>cA [r]
 |_=>.stuck
noncomputable def su (r0 r1 r2:R):Res R:=match r1,r2 with
 | .new d1 _,.new d2 _=>if r0.d.flat/\D.flats d1=true/\D.flats d2=true then .ok (.fre (.tup [r0.d,.lst d1,.lst d2])) else .stuck
 |_,_=>.stuck
noncomputable def G1 (f0 f1 f2:En->Res R):En->Res R:=fun env=>(f0 env).bind fun r0=>(f1 env).bind fun r1=>(f2 env).bind fun r2=>su r0 r1 r2
theorem CM (h0:PD X E e0 f0)(h1:PD X E e1 f1)(h2:PD X E e2 f2)(hs0:autoParam (starEach [e0,e1,e2] X.env=(false,eval e0 X.env)::starEach [e1,e2] X.env) OD._auto_1)(hs1:autoParam (starEach [e1,e2] X.env=(false,eval e1 X.env)::starEach [e2] X.env) OD._auto_1)(hs2:autoParam (starEach [e2] X.env=(false,eval e2 X.env)::starEach [] X.env) OD._auto_1):PD X E (.Tuple [e0,e1,e2] k pos) (G1 f0 f1 f2):=by
 obtain⟨t0,p0,s0⟩:=h0;obtain⟨t1,p1,s1⟩:=h1;obtain⟨t2,p2,s2⟩:=h2;refine⟨_,ri (bh p0 (bh p1 (bh p2 cI hs2) hs1) hs0),fun g M ρ env σ H Q rep p=>?_⟩;have p:PostE X.mg E g M ρ env σ H Q ((f0 env).bind fun r0=>(f1 env).bind fun r1=>(f2 env).bind fun r2=>su r0 r1 r2):=p;refine s0.oneE rep p fun r0 v0 M0 H0 x0 rep0 i0 q0=>?_;refine s1 g M0 ρ env σ H0 _ rep0 ?_;cases e1':f1 env with
 |stuck=>rw[e1']at q0;exact q0
 |exc c=>rw[e1']at q0;exact q0
 |ok r1=>
  rw[e1']at q0;intro v1 M1 H1 x1 rep1 ro1;refine s2 g M1 ρ env σ H1 _ rep1 ?_;simp only[Res.bind_ok]at q0;cases e2':f2 env with
  |stuck=>rw[e2']at q0;exact q0
  |exc c=>rw[e2']at q0;exact q0
  |ok r2=>
   rw[e2']at q0;simp only[Res.bind_ok]at q0;intro v2 M2 H2 x2 rep2 ro2;unfold su at q0;cases r1 with
   |val d fr al=>exact q0.elim
   |fre d=>exact q0.elim
   |new d1 fr1=>
    cases r2 with
    |val d fr al=>exact q0.elim
    |fre d=>exact q0.elim
    |new d2 fr2=>
     dsimp only at q0;by_cases hc:r0.d.flat=true/\D.flats d1=true/\D.flats d2=true
     .rw[Kf hc]at q0;obtain⟨c0,c1,c2⟩:=hc;obtain⟨a1,w1,rfl,g1,g2,g3,g4,g5⟩:=ro1;obtain⟨a2,w2,rfl,k1,k2,k3,k4,k5⟩:=ro2;refine⟨by show 3<=sizeLine;decide,fun b hb=>?_⟩;have sb:Same H2 (aJ H2 b (.tup [v0,.ref a1,.ref a2])):=aP hb;have g1':H2 a1=some (.lst w1):=x2.h _ _ g1;have nm1:¬ M2 a1:=fun z=>(x2.n a1 z).elim g2 fun w=>by rw[g1]at w;cases w
      have g3':H0 a1=none:=g3;have k3':H1 a2=none:=k3;have n12:a1≠a2:=fun e=>by rw[e,k3']at g1;cases g1
      refine q0 (.ref b) M2 _ ((x1.trans x2).trans ⟨fun _ z=>z,sb,fun _ z=>.inl z⟩) (rep2.grow sb) ⟨fun a=>a=a1\/a=a2,fun a z=>?_,b,_,rfl,am,v0,_,rfl,Is.flat c0 ((((i0.same x1.h).same x2.h)).same sb),.ref a1,_,rfl,⟨a1,w1,rfl,.inl ⟨sb _ _ g1',.inl rfl⟩,IsAll.flat c1 ((g5.same x2.h).same sb)⟩,.ref a2,_,rfl,⟨a2,w2,rfl,.inl ⟨sb _ _ k1,.inr rfl⟩,IsAll.flat c2 (k5.same sb)⟩,rfl⟩;rcases z with rfl|rfl
      .exact⟨nm1,g3',⟨_,sb _ _ g1',True.intro⟩,g4⟩
      .exact⟨k2,x1.h.free k3',⟨_,sb _ _ k1,True.intro⟩,k4⟩
     .rw[Kh hc]at q0;exact q0.elim
noncomputable def jA (i:Nat)(f:En->Res R):En->Res Fl:=fun env=>(f env).bind fun r=>if i<env.length then .ok (.nx ((frz env r.al).set i (some (.val r.d r.fr)))) else .stuck
theorem dU (hN:X.N.Nodup)(hi:X.N[i]?=some x)(hx:Af X.env.scope x)(h:PD X E e f)(hs:autoParam (swapsWith e (some (.Name x pos')) pos.line X.env=pure false) OD._auto_1)
 (hf:autoParam (X.fn x=true\/X.env.scope.names.lookup x=some .local) Oz._auto_1):m6 X E (.Assign [.Name x pos'] e pos) (jA i f):=by
 obtain⟨t,p1,s1⟩:=h;refine⟨_,qY hN hi hx p1 hs hf,fun g M ρ env σ H D rep p=>?_⟩;refine s1.oneS rep p fun r v M' H' e rep' ro p'=>?_;by_cases hi:i<env.length
 .rw[Kf hi]at p';obtain⟨M2,x2,x2m,rep2,is2⟩:=ro.is rep' e rep.same;obtain⟨M3,ρ3,x3,rep3,o3,_,_⟩:=Rep.frz r.al rep2;have rep4:=rep3.put (i:=i) (sl:=.val r.d r.fr) (T:=fun _=>False) (by rw[cQ];exact hi) (Is.frozen rep2 x3 o3 is2) (fun _ z=>z.elim) fun _ z=>z.elim;exact p' _ M3 _ H' ⟨fun a z=>x3 a (x2m a z),fun _ _ q _=>q⟩ rep4
 .rw[Kh hi]at p';exact p'.elim
theorem qv (i:Nat) (hN:autoParam (X.N[i]?=some x) OD._auto_1) (hv:autoParam (Vis X.env.scope x) OA._auto_1) (hd:autoParam ((x==("__debug__" : Str))=false) Oy._auto_1)
 (hc:autoParam ((x==("__classdict__" : Str))=false) Oy._auto_1):PD X E (.Name x pos) (ag i):=D7 (pv i hN hv hd hc)
end
end L3
namespace L2
open PySem PySem.Spec PyProof.Rows
section
variable {X:Cx}
end
end L2
namespace L3
open PySem PySem.Spec PyProof.Rows L2
section
variable {X:Cx}{E:XK}
end
section
variable {X:Cx}{E:XK}{hc hc2:Str}{Ch Ch2:Addr}{cs cs2:List Str}{np hpos np2 hpos2 pos epos p cpos:Pos}{b₀ c₀:Stmt}{suite suite2:List Stmt}{fsu fsu2:En->Res Fl}{k:Nat}{f:Addr}{fd:FuncData}{ps:List Str}{F:List D->Res R}{x:Str}{e:Expr}{es:List Expr}{fs:En->Res (List R)}
end
section
variable {X:Cx}{E:XK}
end
section
variable {X:Cx}{E:XK}{scope:Scope}{tg:Expr}{tN:List Str}{capN:List Str}{caps:List Nat}{iter:Expr}{pos lpos:Pos}{src:En->Res Src}
end
section
variable {X:Cx}{E:XK}
end
noncomputable def IL:Bool->List V->HO
 |true,xs=>.tup xs
 |false,xs=>.lst xs
theorem ub:∀{k:Bool}{xs ys:List V},IL k xs=IL k ys->xs=ys
 |true,_,_,e=>by cases e;rfl
 |false,_,_,e=>by cases e;rfl
theorem uc:∀{k:Bool}{xs:List V}{o:Obj}{u:HO},IL k xs≠.frz o u
 |true,_,_,_,e=>by cases e
 |false,_,_,_,e=>by cases e
def SqX (k:Bool)(H:Hp)(a:Addr)(xs:List V):Prop:=Rd H a (IL k xs)
theorem SqX.inj (h:SqX k H a xs)(g:SqX k H a ys):xs=ys:=by
 rcases h with h|⟨o,h⟩<;>rcases g with g|⟨o',g⟩<;>rw[h]at g
 .exact ub (K4 g)
 .exact(uc (K4 g)).elim
 .exact(uc (K4 g).symm).elim
 .have e:=K4 g;injection e with _ e;exact ub e
theorem SqX.some (h:SqX k H a xs):∃ o,H a=some o:=xO h
theorem SqX.at:∀{k:Bool}{a:Addr}{xs:List V},L2.Inv X pins σ H s->SqX k H a xs->∃ its:List Ow,Vals xs its/\SAt k s.heap a its.toArray
 |true,_,_,I,h=>let ⟨its,r,p,_⟩:=I.tuple (.inl h);⟨its,r,p⟩
 |false,_,_,I,h=>let ⟨its,r,p,_⟩:=I.list (.inl h);⟨its,r,p.isList⟩
noncomputable def Jq (ka kb:Bool)(a b:Addr):It:=
 ⟨fun i H=>∃ xs ys x y,SqX ka H a xs/\SqX kb H b ys/\xs[i]?=some x/\ys[i]?=some y,fun i H v H'=>∃ p x y,H p=none/\v=.ref p/\H'=aJ H p (.tup [x,y])/\(∀ xs,SqX ka H a xs->xs[i]?=some x)/\∀ ys,SqX kb H b ys->ys[i]?=some y,
   fun i H=>∃ xs ys,SqX ka H a xs/\SqX kb H b ys/\(xs.length<=i\/ys.length<=i)⟩
structure TzSt (ka kb:Bool) (h:Heap) (z TI TO i1 i2 a b:Addr) (i:Nat):Prop where
 zip:IsZip h z TI TO .none
 ti:IsPair h TI (.ref i1) (.ref i2)
 to:∃ u v,IsPair h TO u v
 l:SIt ka h i1 a i
 r:SIt kb h i2 b i
theorem qf {H:Hp}{z TI TO i1 i2 a b:Addr}(N:ZipNe z TI TO i1 i2)(f:∀ c∈[z,TI,TO,i1,i2],H c=none)(ha:∃ o,H a=some o)(hb:∃ o,H b=some o):ZipApart z TI TO i1 i2 a b:=by
 obtain⟨_,ha⟩:=ha;obtain⟨_,hb⟩:=hb;exact⟨N.TIz,N.TOz,N.i1z,N.i2z,N.TITO,N.TIi1,N.TIi2,N.TOi1,N.TOi2,N.i12,aj ha (f z (by simp)),aj ha (f TO (by simp)),aj ha (f i1 (by simp)),aj ha (f i2 (by simp)),
  aj hb (f z (by simp)),aj hb (f TO (by simp)),aj hb (f i1 (by simp)),aj hb (f i2 (by simp))⟩
theorem vV {P:Ov}{w:World}{K:Ou}{es:List Expr}{k:Nat}{pos:Pos}(ka kb:Bool)(a b z TI TO i1 i2:Addr)(N:ZipNe z TI TO i1 i2):Turn P w K (.Tuple es k pos) (Jq ka kb a b) [z,TI,TO,i1,i2] z (fun i h=>TzSt ka kb h z TI TO i1 i2 a b i) where
 mem:=by simp
 obj:=fun i h st c hc=>by
  obtain⟨u,v,hto⟩:=st.to;obtain⟨o1,e1,c1,d1⟩:=st.l;obtain⟨o2,e2,c2,d2⟩:=st.r;simp only[Kj,Lc,MZ]at hc;rcases hc with rfl|rfl|rfl|rfl|rfl
  .exact⟨_,st.zip,fun v z=>by cases z⟩
  .exact⟨_,st.ti,fun v z=>by cases z⟩
  .exact⟨_,hto,fun v z=>by cases z⟩
  .exact⟨o1,e1,fun v z=>by rw[d1]at z;cases z⟩
  .exact⟨o2,e2,fun v z=>by rw[d2]at z;cases z⟩
 keep:=fun i h h' st kk=>by obtain⟨u,v,hto⟩:=st.to;exact⟨kk z (by simp) _ st.zip,kk TI (by simp) _ st.ti,⟨u,v,kk TO (by simp) _ hto⟩,L2.SIt.at st.l fun o q=>kk i1 (by simp) o q,L2.SIt.at st.r fun o q=>kk i2 (by simp) o q⟩
 item:=by
  intro X hP hw hK hc i pins s σ H E I hf st hg;subst hP hw hK;obtain⟨xs,ys,x,y,hq,hq2,hx,hy⟩:=hg;obtain⟨its,rv,p⟩:=hq.at I;obtain⟨its2,rv2,p2⟩:=hq2.at I;obtain⟨u,hu,ru⟩:=rv.get hx;obtain⟨u2,hu2,ru2⟩:=rv2.get hy;obtain⟨o1,o2,hto⟩:=st.to;have A:=qf N (fun c hc=>(hf c hc).1) hq.some hq2.some;have fz:=hf z (by simp);have fI:=hf TI (by simp);have fO:=hf TO (by simp);have f1:=hf i1 (by simp);have f2:=hf i2 (by simp);refine vo A st.zip st.ti hto st.l st.r p p2 (x:=u) (y:=u2) (by simpa using hu) (by simpa using hu2) fun h' hz' hto' h1' h2' hp hsz hk=>?_;refine⟨_,rfl,wpAny_letOwnedTupleGo_zip hz' fun h'' hz'' hs''=>?_⟩;have zlt:z<s.heap.objs.size:=Kt st.zip;have keep2:∀ c o,c≠z->c≠TO->c≠i1->c≠i2->s.heap.get? c=some o->h''.get? c=some o:=fun c o n1 n2 n3 n4 q=>(hs''.2 c n1).trans (hk c o n1 n2 n3 n4 q);have hT'':h''.get? s.heap.objs.size=some { cls:=.type "tuple",data:=.seq #[u,u2] }:=(hs''.2 _ (Ml zlt)).trans hp;have fresh:=I.hok.fresh (Km s.heap.objs.size);have nin:∀{c:Addr},c∉[z,TO,i1,i2]->c≠z/\c≠TO/\c≠i1/\c≠i2:=fun hn=>⟨fun z=>hn (by simp[z]),fun z=>hn (by simp[z]),fun z=>hn (by simp[z]),fun z=>hn (by simp[z])⟩;have I1:L2.Inv X pins σ (aJ H s.heap.objs.size (.tup [x,y])) { s with heap:=h'' }:=by
   refine I.step (t':=s.toks) (g':=s.gens) (d':=s.drawn) (ch:=[z,TO,i1,i2]) (fun c hb=>?_) (fun c o _ _ hn q _=>let ⟨n1,n2,n3,n4⟩:=nin hn;keep2 c o n1 n2 n3 n4 q)
    (fun c o _ _ hn q _=>let ⟨n1,n2,n3,n4⟩:=nin hn;⟨o.slots,keep2 c o n1 n2 n3 n4 q⟩) (fun c o _ q hH=>by rw[ao (KJ (Kt q))];exact hH)
    (fun c o hn q=>let ⟨n1,n2,n3,n4⟩:=nin hn;⟨o,keep2 c o n1 n2 n3 n4 q⟩) (fun c zs q=>by rw[ao (aj q fresh)];exact q)
    (fun c o' u' q=>by rw[ao (aj q fresh)];exact q) (fun c ps q=>⟨#[],by rw[ao (aj q fresh)];simp[q]⟩) (fun m hm=>?_) (fun c u' q=>?_) I.bare
   .simp only[Kj,Lc,MZ]at hb;rcases hb with rfl|rfl|rfl|rfl
    .exact⟨fz.2.2.2.1,fz.2.1,fz.2.2.2.2.1,fz.2.2.2.2.2⟩
    .exact⟨fO.2.2.2.1,fO.2.1,fO.2.2.2.2.1,fO.2.2.2.2.2⟩
    .exact⟨f1.2.2.2.1,f1.2.1,f1.2.2.2.2.1,f1.2.2.2.2.2⟩
    .exact⟨f2.2.2.2.1,f2.2.1,f2.2.2.2.2.1,f2.2.2.2.2.2⟩
   .obtain⟨o,es',ep,ho',r⟩:=hm;exact⟨o,es',ep,keep2 _ o (Lj fz.2.1) (Lj fO.2.1) (Lj f1.2.1) (Lj f2.2.1) ho',r⟩
   .by_cases hb:c=s.heap.objs.size
    .subst hb;rw[am]at q;cases q;refine⟨by show 2<=sizeLine;decide,[u,u2],.cons ru (.cons ru2 .nil),⟨_,hT'',rfl,0,rfl⟩⟩
    .rw[ao hb]at q;refine(I.hok c u' q).stay (fun d v hc' q'=>?_) (fun d r=>by rw[ao (aj r fresh)];exact r) fun d zs r=>by rw[ao (aj r fresh)];exact r
     have tr:∃ w,H d=some w:=hc'.elim (fun z=>⟨u',by rw[z];exact q⟩) fun z=>⟨_,z⟩;obtain⟨w',hw'⟩:=tr;exact keep2 d v (aj hw' fz.1) (aj hw' fO.1) (aj hw' f1.1) (aj hw' f2.1) q'
  refine⟨.ref s.heap.objs.size,_,I1,rfl,⟨_,x,y,fresh,rfl,rfl,fun zs hz'=>by rw[<- hq.inj hz'];exact hx,fun zs hz'=>by rw[<- hq2.inj hz'];exact hy⟩,?_,fun c hb=>?_⟩
  .have mv:∀ c o,c≠z->h'.get? c=some o->h''.get? c=some o:=fun c o n q=>(hs''.2 c n).trans q;exact⟨hz'',keep2 TI _ N.TIz N.TITO N.TIi1 N.TIi2 st.ti,⟨_,_,mv TO _ N.TOz hto'⟩,L2.SIt.at h1' fun o q=>mv i1 o N.i1z q,L2.SIt.at h2' fun o q=>mv i2 o N.i2z q⟩
  .have lt:∀{c:Addr}{o:Obj},s.heap.get? c=some o->H c=none->(aJ H s.heap.objs.size (.tup [x,y])) c=none:=fun q n=>by rw[ao (KJ (Kt q))];exact n
   obtain⟨oo1,q1,_⟩:=st.l;obtain⟨oo2,q2,_⟩:=st.r;simp only[Kj,Lc,MZ]at hb;rcases hb with rfl|rfl|rfl|rfl|rfl
   .exact lt st.zip fz.1
   .exact lt st.ti fI.1
   .exact lt hto fO.1
   .exact lt q1 f1.1
   .exact lt q2 f2.1
 done:=by
  intro X hP hw hK hc i pins s σ H E I hf st hg;subst hP hw hK;obtain⟨xs,ys,hq,hq2,hx⟩:=hg;obtain⟨its,rv,p⟩:=hq.at I;obtain⟨its2,rv2,p2⟩:=hq2.at I;obtain⟨o1,o2,hto⟩:=st.to;have A:=qf N (fun c hc=>(hf c hc).1) hq.some hq2.some;have fz:=hf z (by simp);have fO:=hf TO (by simp);have f1:=hf i1 (by simp);have f2:=hf i2 (by simp);have l1:=rv.length;have l2:=rv2.length;refine xA (I.ok.hd hc) A st.zip st.ti hto st.l st.r p p2 (hx.imp (fun z=>by simp;lia) fun z=>by simp;lia) fun h' hk=>⟨rfl,?_⟩;have nin:∀{c:Addr},c∉[z,TO,i1,i2]->c≠z/\c≠TO/\c≠i1/\c≠i2:=fun hn=>⟨fun z=>hn (by simp[z]),fun z=>hn (by simp[z]),fun z=>hn (by simp[z]),fun z=>hn (by simp[z])⟩;refine I.step (t':=s.toks) (g':=s.gens) (d':=s.drawn) (ch:=[z,TO,i1,i2]) (fun c hb=>?_) (fun c o _ _ hn q _=>let ⟨n1,n2,n3,n4⟩:=nin hn;hk c o n1 n2 n3 n4 q)
   (fun c o _ _ hn q _=>let ⟨n1,n2,n3,n4⟩:=nin hn;⟨o.slots,hk c o n1 n2 n3 n4 q⟩) (fun c o _ q hH=>hH)
   (fun c o hn q=>let ⟨n1,n2,n3,n4⟩:=nin hn;⟨o,hk c o n1 n2 n3 n4 q⟩) (fun c zs q=>q)
   (fun c o' u' q=>q) (fun c ps q=>⟨#[],by simp[q]⟩) (fun m hm=>?_) (fun c u' q=>?_) I.bare
  .simp only[Kj,Lc,MZ]at hb;rcases hb with rfl|rfl|rfl|rfl
   .exact⟨fz.2.2.2.1,fz.2.1,fz.2.2.2.2.1,fz.2.2.2.2.2⟩
   .exact⟨fO.2.2.2.1,fO.2.1,fO.2.2.2.2.1,fO.2.2.2.2.2⟩
   .exact⟨f1.2.2.2.1,f1.2.1,f1.2.2.2.2.1,f1.2.2.2.2.2⟩
   .exact⟨f2.2.2.2.1,f2.2.1,f2.2.2.2.2.1,f2.2.2.2.2.2⟩
  .obtain⟨o,es',ep,ho',r⟩:=hm;exact⟨o,es',ep,hk _ o (Lj fz.2.1) (Lj fO.2.1) (Lj f1.2.1) (Lj f2.2.1) ho',r⟩
  .refine(I.hok c u' q).stay (fun d v hc' q'=>?_) (fun d r=>r) fun d zs r=>r;have tr:∃ w,H d=some w:=hc'.elim (fun z=>⟨u',by rw[z];exact q⟩) fun z=>⟨_,z⟩;obtain⟨w',hw'⟩:=tr;exact hk d v (aj hw' fz.1) (aj hw' fO.1) (aj hw' f1.1) (aj hw' f2.1) q'
 self:=fun A i s Q E st h=>wpAny_pyIter_zip st.zip h
section
variable {X:Cx}{E:XK}{es:List Expr}{k:Nat}{sS:Pos}
noncomputable def G2 (ta:TA):TI:=fun σ H R=>ta σ H fun vs H1=>∃ ka kb a b xs ys,vs=[.ref a,.ref b]/\SqX ka H1 a xs/\SqX kb H1 b ys/\R (Jq ka kb a b) H1
theorem Bi {ta:TA} {p pos:Pos} (hg:Gl X "zip") (hm:X.mg "zip"=none) (ha:PA X [l,r] ta) (hs:autoParam (starEach [l,r] X.env=(false,eval l X.env)::starEach [r] X.env) OD._auto_1) (hpl:autoParam ((backTo pos (starEach [r] X.env)).any (·.1)=false) OD._auto_1) :
 PI X (.Tuple es k sS) (.Call (.Name "zip" p) [l,r] [] pos) (G2 ta):=by
 intro pins s σ H R I h;refine Call_ (kc I hg hm (by decide +kernel:bootBuiltins "zip"=some (.type "zip")) (MU (bX (ha pos pins s σ H _ I h) fun us s1 ⟨vs,H1,I1,r1,q1⟩=>?_) hs hpl));have fpc:∀ c∈[s1.heap.objs.size+4,s1.heap.objs.size+2,s1.heap.objs.size+3,s1.heap.objs.size,s1.heap.objs.size+1],FpOk X pins H1 c:=fun c hb=>by
  have hc:s1.heap.objs.size<=c:=by
   simp only[Kj,Lc,MZ]at hb;rcases hb with rfl|rfl|rfl|rfl|rfl
   .exact Nc _ 4
   .exact Nc _ 2
   .exact Nc _ 3
   .exact Km _
   .exact Nc _ 1
  exact I1.fpOk hc (I1.hok.fresh hc)
 obtain⟨ka,kb,a,b,xs,ys,e,hq,hq2,q⟩:=q1;subst e;obtain⟨u,c,rfl,ru,rc⟩:=wD r1;cases ru;cases rc;obtain⟨its,rv,pl⟩:=hq.at I1;obtain⟨its2,rv2,pl2⟩:=hq2.at I1;refine vp pl pl2 fun h' g1 g2 g3 g4 g5 kp=>?_;have I2:L2.Inv X pins σ H1 { s1 with heap:=h' }:=I1.kept (t':=s1.toks) kp;refine wpAny_pyIter_zip g1 ?_;exact⟨s1.heap.objs.size+4,_,_,_,H1,rfl,I2,vV ka kb a b (s1.heap.objs.size+4) (s1.heap.objs.size+2) (s1.heap.objs.size+3) s1.heap.objs.size (s1.heap.objs.size+1) (Eh s1.heap.objs.size),⟨g1,g2,⟨_,_,g3⟩,g4,g5⟩,fpc,q⟩
def yy (k:Bool)(H:Hp)(m:Addr->Prop)(a:Addr)(vs:List V):Prop:=∀ H':Hp,(∀ a o,H a=some o->(m a\/fixd o)->H' a=some o)->SqX k H' a vs
theorem vW {m:Addr->Prop}{H:Hp}{ds es:List D}{vs ws:List V}(h:yy ka H m a vs)(h2:yy kb H m b ws)(is:IsAll H m ds vs)(is2:IsAll H m es ws):Walk (Jq ka kb a b) m H (ia ds es):=by
 refine⟨fun H' i d k e=>?_,fun H' k=>⟨vs,ws,h H' k,h2 H' k,by rw[pX,is.length,is2.length];lia⟩⟩;rw[pW]at e;cases q:ds[i]? with
 |none=>rw[q]at e;cases e
 |some d0=>
  cases q2:es[i]? with
  |none=>rw[q,q2]at e;cases e
  |some e0=>
   rw[q,q2]at e;have e:D.tup [d0,e0]=d:=by simpa using e
   obtain⟨v,ev,iv⟩:=(is.mono k fun _ _ _ z=>z:IsAll H' m ds vs).get q;obtain⟨v2,ev2,iv2⟩:=(is2.mono k fun _ _ _ z=>z:IsAll H' m es ws).get q2;have k1:=h H' k;have k2:=h2 H' k;refine⟨⟨vs,ws,v,v2,k1,k2,ev,ev2⟩,fun x H'' y=>?_⟩;obtain⟨p,x',y',hp,rfl,rfl,y1,y2⟩:=y;have z1:=y1 vs k1;have z2:=y2 ws k2;rw[ev]at z1;cases z1;rw[ev2]at z2;cases z2;have sm:Same H' (aJ H' p (.tup [v,v2])):=aP hp;refine⟨sm,?_⟩;rw[<- e];exact⟨p,_,rfl,am,v,[v2],rfl,Is.same sm iv,v2,[],rfl,Is.same sm iv2,rfl⟩
noncomputable def yz:D->Option (Bool×List D)
 | .lst ds=>some (false,ds)
 | .tup ds=>some (true,ds)
 |_=>none
theorem ud {m:Addr->Prop}{v:V}{k:Bool}{ds:List D}(e:yz d=some (k,ds))(h:Is H m d v):∃ a vs,v=.ref a/\SqX k H a vs/\yy k H m a vs/\IsAll H m ds vs:=by
 cases d with
 |lst es=>
  cases e;obtain⟨a,vs,rfl,h1,h2⟩:=h;refine⟨a,vs,rfl,h1.imp (·.1) fun⟨o,z,_⟩=>⟨o,z⟩,fun H' kp=>?_,h2⟩;rcases h1 with⟨z,zm⟩|⟨o,z,zm⟩
  .exact .inl (kp a _ z (.inl zm))
  .exact .inr ⟨o,kp a _ z (.inl zm)⟩
 |tup es=>cases e;obtain⟨a,vs,rfl,h1,h2⟩:=h;exact⟨a,vs,rfl,.inl h1,fun H' kp=>.inl (kp a _ h1 (.inr True.intro)),h2⟩
 |_=>cases e
noncomputable def qg:List R->Res Src
 | [r,q]=>match yz r.d,yz q.d with
  |some (_,ds),some (_,es)=>.ok ⟨ia ds es,r.fr&&q.fr,r.al++q.al⟩
  |_,_=>.stuck
 |_=>.stuck
noncomputable def nq (fs:En->Res (List R)):En->Res Src:=fun env=>(fs env).bind qg
theorem yA {fs:En->Res (List R)} {p pos:Pos} (hg:Gl X "zip") (hm:X.mg "zip"=none) (ha:vA X E [l,r] fs) (hs:autoParam (starEach [l,r] X.env=(false,eval l X.env)::starEach [r] X.env) OD._auto_1) (hpl:autoParam ((backTo pos (starEach [r] X.env)).any (·.1)=false) OD._auto_1) :
 FO X E (.Tuple es k sS) (.Call (.Name "zip" p) [l,r] [] pos) (nq fs):=by
 obtain⟨t,p1,s1⟩:=ha;refine⟨_,Bi hg hm p1 hs hpl,fun g M ρ env σ H Rq rep p=>s1.one rep (P:=fun M H r=>PostI X.mg E g M ρ env σ H Rq r) p (fun _ _ z=>z) (fun _ _ _ z=>z) (fun _ _ _ _ _ e p=>p.ext e) fun rs vs M1 H1 e1 rep1 is q=>?_⟩
 match rs,is,q with
 | [r,r2],is,q=>
  obtain⟨v,w,rfl,i1,v2,w2,rfl,i2,i3⟩:=is;cases i3;have i1:Is H1 (vmsk g M1 (aQ [r,r2]) ρ (bg [r,r2])) r.d v:=i1;have i2:Is H1 (vmsk g M1 (aQ [r,r2]) ρ (bg [r,r2])) r2.d v2:=i2;replace i1:=i1.weak fun _ z=>tX z;replace i2:=i2.weak fun _ z=>tX z;unfold qg at q;dsimp only at q;cases z:yz r.d with
  |none=>rw[z]at q;exact q.elim
  |some x=>
   cases z2:yz r2.d with
   |none=>rw[z,z2]at q;exact q.elim
   |some y=>obtain⟨ka,ds⟩:=x;obtain⟨kb,es⟩:=y;rw[z,z2]at q;dsimp only at q;obtain⟨a,ws,rfl,h1,h2,h3⟩:=ud z i1;obtain⟨b,us,rfl,g1,g2,g3⟩:=ud z2 i2;exact⟨ka,kb,a,b,ws,us,rfl,h1,g1,q _ M1 H1 (Ext.refl _ _) rep1 (vW h2 g2 h3 g3)⟩
 | [],_,q=>exact q.elim
 | [_],_,q=>exact q.elim
 |_::_::_::_,_,q=>exact q.elim
end
section
variable {X:Cx}{E:XK}
def ue (a b:Str):Prop:=0<b.length/\a.length<=100000/\(Txt.split a b).length<=100000/\(Builtin.Str.partsBetween a (Builtin.Str.occurrences a b 0 a.length (a.length+1)) b.length).length<=100000
instance (a b:Str):Decidable (ue a b):=by unfold ue;infer_instance
end
section
variable {K:Ou}{H:Hp}{m:Addr->Prop}
end
section
variable {X:Cx}{E:XK}
noncomputable def uf (env:En)(_:R):Res Fl:=.ok (.nx env)
noncomputable def nr (f:En->Res R):En->Res Fl:=fun env=>(f env).bind (uf env)
theorem qh (h:PD X E e f)(hs:autoParam (swapsWith e none pos.line X.env=pure false) OD._auto_1):m6 X E (.Expr e pos) (nr f):=by obtain⟨t,p1,s1⟩:=h;refine⟨_,jL p1 hs,fun g M ρ env σ H D rep p=>s1.oneS rep p fun r v M' H' e rep' ro p'=>?_⟩;exact p' σ M' ρ H' (Ext.refl _ _).frz rep'
end
noncomputable def bV {α:Type}(xs:List α)(lo hi st:Option Int):List α:=(sliceRange (sliceBounds lo hi st xs.length).1 (sliceBounds lo hi st xs.length).2.1 (sliceBounds lo hi st xs.length).2.2).filterMap fun i=>xs[i]?
theorem IsAll.picks (h:IsAll H m ds vs):∀ is:List Nat,IsAll H m (is.filterMap fun i=>ds[i]?) (is.filterMap fun i=>vs[i]?)
 | []=>rfl
 |i::is=>by
  cases e:ds[i]? with
  |none=>
   have e':vs[i]?=none:=by rw[List.getElem?_eq_none_iff]at e ⊢;rw[h.length];exact e
   rw[ME e,ME e'];exact IsAll.picks h is
  |some d=>obtain⟨v,ev,hv⟩:=h.get e;rw[Md e,Md ev];exact⟨v,_,rfl,hv,IsAll.picks h is⟩
theorem IsAll.pick (h:IsAll H m ds vs)(lo hi st:Option Int):IsAll H m (bV ds lo hi st) (bV vs lo hi st):=by unfold bV;rw[h.length];exact h.picks _
theorem i_:∀{xs:List V}{us:List Ow},Vals xs us->∀ is:List Nat,Vals (is.filterMap fun i=>xs[i]?) (is.filterMap fun i=>us[i]?)
 |xs,us,h,[]=>.nil
 |xs,us,h,i::is=>by
  have hl:=h.length;cases e:xs[i]? with
  |none=>
   have e':us[i]?=none:=by rw[List.getElem?_eq_none_iff]at e ⊢;lia
   rw[ME e,ME e'];exact i_ h is
  |some x=>obtain⟨u,eu,ru⟩:=Vals.get h e;rw[Md e,Md eu];exact .cons ru (i_ h is)
noncomputable def Jr (K:Ou)(te:TE)(tl th ts:TO):TE:=fun σ H Q=>te σ H fun x H1=>tl σ H1 fun l H2=>th σ H2 fun u H3=>ts σ H3 fun st H4=>st≠some 0/\∃ a xs,x=.ref a/\SqL K H4 a xs/\∀ p,H4 p=none->Q (.ref p) (aJ H4 p (.lst (bV xs l u st)))
section
variable {X:Cx}{E:XK}
theorem vX {e:Expr}{te:TE}{lo hi:Option Expr}(he:PE X e te)(hl:PO X lo tl)(hu:PO X hi th)(hs:PO X (some s3) ts):PE X (.Subscript e (.Slice lo hi (some s3) p2) pos) (Jr X.K te tl th ts):=by
 intro pins s σ H Q I h;refine Subscript_ (bX (he pins s σ H _ I h) fun v s1 ⟨x,H1,I1,r1,q1⟩=>?_);refine wpAny_Slice (bX (hl pins s1 σ H1 _ I1 q1) fun vl s2 ⟨l,H2,I2,pl,q2⟩=>bX (hu pins s2 σ H2 _ I2 q2) fun vu s3 ⟨u,H3,I3,pu,q3⟩=>bX (hs pins s3 σ H3 _ I3 q3) fun vs s4 ⟨st,H4,I4,ps,q4⟩=>?_);obtain⟨h0,a,xs,rfl,hx,q⟩:=q4;cases r1;have I5:Inv X pins σ H4 { s4 with heap:=s4.heap.push { cls:=.type "slice",data:=.fields #[vl,vu,vs] } }:=I4.kept (t':=s4.toks) fun b ob q=>Kb _ q;obtain⟨its,r,ht,hz⟩:=I5.list hx;have bR:=r.length;have hg:=wpAny_getItem_list_slice (prog:=X.prog) (w:=X.w) (A:=X.A) (E:=X.xe) (Q:=EP X pins σ Q) ht.isList (Heap.IsSliceOf.new s4.heap vl vu vs) pl pu ps h0 (by
  refine⟨.ref _,_,I5.laid (t':=s4.toks) (o:=.lst (bV xs l u st)) (fun b ob q=>Kb _ q) (Km _) ?_,rfl,q _ (I5.hok.fresh (Km _))⟩;have e1:slicePick its.toArray l u st=(bV its l u st).toArray:=by unfold slicePick bV;simp only[Ki,List.getElem?_toArray]
  have r2:Vals (bV xs l u st) (bV its l u st):=by unfold bV;rw[<- bR];exact i_ r _
  refine⟨?_,_,0,r2,?_⟩
  .have:=slicePick_size_le its.toArray l u st;rw[e1,Ki,Ki]at this;rw[r2.length];lia
  .rw[e1];exact Kr _ rfl) (by rw[Ki];lia)
 exact tail_any (ops:=[.ref a,.ref s4.heap.objs.size]) ht.isList.typeIs slot_list_getitem.lookup hg (by with_unfolding_all rfl)
noncomputable def ic (r:R)(lo hi st:Option Int):Res R:=match r.d with
 | .lst xs=>if st=some 0 then .stuck else .ok (iU (bV xs lo hi st) r.fr r.al)
 |_=>.stuck
noncomputable def jY (fa:En->Res R)(fl fh fs:En->Res (Option Int)):En->Res R:=fun env=>(fa env).bind fun r=>(fl env).bind fun lo=>(fh env).bind fun hi=>(fs env).bind fun st=>ic r lo hi st
theorem nt {e:Expr}{lo hi:Option Expr}{fa:En->Res R}{fl fh fs:En->Res (Option Int)}(ha:PD X E e fa)(hl:IG X E lo fl)(hh:IG X E hi fh)(hs:IG X E (some s3) fs):PD X E (.Subscript e (.Slice lo hi (some s3) p2) pos) (jY fa fl fh fs):=by
 obtain⟨ta,p1,s1⟩:=ha;obtain⟨tl,p2,s2⟩:=hl;obtain⟨th,p3,s3'⟩:=hh;obtain⟨ts,p4,s4⟩:=hs;refine⟨_,vX p1 p2 p3 p4,fun g M ρ env σ H Q rep p=>s1.oneE rep p fun r v M1 H1 e1 rep1 is q=>?_⟩;refine s2 g M1 ρ env σ H1 _ rep1 ?_;cases z1:fl env with
 |stuck=>rw[z1]at q;exact q
 |exc c=>rw[z1]at q;exact q
 |ok lo'=>
  rw[z1]at q;intro M2 H2 e2 rep2;have q2:PostE X.mg E g M2 ρ env σ H2 Q ((fh env).bind fun hi=>(fs env).bind fun st=>ic r lo' hi st):=PostE.ext e2 q;refine s3' g M2 ρ env σ H2 _ rep2 ?_;cases z2:fh env with
  |stuck=>rw[z2]at q2;exact q2
  |exc c=>rw[z2]at q2;exact q2
  |ok hi'=>
   rw[z2]at q2;intro M3 H3 e3 rep3;have q3:PostE X.mg E g M3 ρ env σ H3 Q ((fs env).bind fun st=>ic r lo' hi' st):=PostE.ext e3 q2;refine s4 g M3 ρ env σ H3 _ rep3 ?_;cases z3:fs env with
   |stuck=>rw[z3]at q3;exact q3
   |exc c=>rw[z3]at q3;exact q3
   |ok st'=>
    rw[z3]at q3;intro M4 H4 e4 rep4;have q4:PostE X.mg E g M4 ρ env σ H4 Q (ic r lo' hi' st'):=PostE.ext e4 q3;have is4:=((is.ext e2).ext e3).ext e4;unfold ic at q4;cases z:r.d with
    |lst xs=>
     rw[z]at q4 is4;dsimp only at q4;by_cases h0:st'=some 0
     .rw[Kf h0]at q4;exact q4.elim
     .rw[Kh h0]at q4;obtain⟨a,vs,rfl,h1,h2⟩:=is4.rd;exact⟨h0,a,vs,rfl,.inl h1,fun p hp=>q4.lst rep4 hp (h2.pick lo' hi' st')⟩
    |_=>rw[z]at q4;exact q4.elim
end
open Classical in
section
variable {X:Cx}{E:XK}{g:Gd}{M:Addr->Prop}{ρ:Pr}{env:En}{σ:St}{H H2:Hp}{D:Ends}
end
section
variable {P:Ov}{w:World}{K:Ou}{mg:Str->Option Ow}{base:Heap}
end
section
variable {X:Cx}{E:XK}
open Classical in
end
section
variable {X:Cx}{E:XK}{scope:Scope}{tg:Expr}{tN:List Str}{capN:List Str}{caps:List Nat}{iter elt:Expr}{pos:Pos}{src:En->Res Src}
end
section
variable {X:Cx}{E:XK}
theorem dG (hc:X.calm=true)(hu:X.A.units+64<cLine)(h:PD X E e f)
 (hg1:Gl X x1) (hm1:X.mg x1=none) (hv1:bootBuiltins x1=some (.builtin "sorted")) (hg2:Gl X x2) (hm2:X.mg x2=none) (hv2:bootBuiltins x2=some (.type "set"))
 (hn1:autoParam (x1≠"__name__") Oy._auto_1) (hdb1:autoParam ((x1==("__debug__" : Str))=false) Oy._auto_1) (hn2:autoParam (x2≠"__name__") Oy._auto_1) (hdb2:autoParam ((x2==("__debug__" : Str))=false) Oy._auto_1)
 (he2:autoParam (starEach [e] X.env=(false,eval e X.env)::starEach [] X.env) OD._auto_1) (hpl2:autoParam ((backTo pos2 (starEach [] X.env)).any (·.1)=false) OD._auto_1)
 (he1:autoParam (starEach [.Call (.Name x2 p2) [e] [] pos2] X.env=(false,eval (.Call (.Name x2 p2) [e] [] pos2) X.env)::starEach [] X.env) OD._auto_1) (hpl1:autoParam ((backTo pos1 (starEach [] X.env)).any (·.1)=false) OD._auto_1) :
 PD X E (.Call (.Name x1 p1) [.Call (.Name x2 p2) [e] [] pos2] [] pos1) (yp f):=mj (Km _) xp hc hu h hg1 hm1 hv1 hg2 hm2 hv2 hn1 hdb1 hn2 hdb2 he2 hpl2 he1 hpl1
end
noncomputable def ie (k:Int):List Int->List Int
 | []=>[k]
 |h::t=>if k=h then h::t else if k<h then k::h::t else h::ie k t
noncomputable def sortI:List Int->List Int
 | []=>[]
 |k::ks=>ie k (sortI ks)
noncomputable def vY (r:R):Res R:=match r.d with
 | .lst ds=>match fP ds with
  |some is=>if is.length<=300 then .ok (.new ((sortI is).map .int) true) else .stuck
  |none=>.stuck
 |_=>.stuck
noncomputable def Bj (f:En->Res R):En->Res R:=fun env=>(f env).bind vY
theorem lj (k x:Int):∀ l,x∈ie k l↔x=k\/x∈l
 | []=>by simp[ie]
 |h::t=>by
  unfold ie;split
  .rename_i e;subst e;simp
  .split
   .simp
   .rw[Kj,lj k x t,Kj];constructor
    .rintro (h|h|h)
     .exact .inr (.inl h)
     .exact .inl h
     .exact .inr (.inr h)
    .rintro (h|h|h)
     .exact .inr (.inl h)
     .exact .inl h
     .exact .inr (.inr h)
theorem ug (k:Int):∀ l:List Int,l.Pairwise (·< ·)->(ie k l).Pairwise (·< ·)
 | [],_=>by simp[ie]
 |h::t,p=>by
  have p':=KS.mp p;unfold ie;split
  .exact p
  .split
   .rename_i h1 h2;refine KS.mpr ⟨fun x hx=>?_,p⟩;rcases Kj.mp hx with rfl|hx
    .exact h2
    .have:=p'.1 x hx;lia
   .rename_i h1 h2;refine KS.mpr ⟨fun x hx=>?_,ug k t p'.2⟩;rcases (lj k x t).mp hx with rfl|hx
    .lia
    .exact p'.1 x hx
theorem cY (x:Int):∀ ks,x∈sortI ks↔x∈ks
 | []=>Iff.rfl
 |k::ks=>by unfold sortI;rw[lj,cY x ks,Kj]
theorem df:∀ ks,(sortI ks).Pairwise (·< ·)
 | []=>List.Pairwise.nil
 |k::ks=>by unfold sortI;exact ug k _ (df ks)
theorem b7:∀(a b:List Int),a.Pairwise (·< ·)->b.Pairwise (·< ·)->(∀ x,x∈a↔x∈b)->a=b
 | [],[],_,_,_=>rfl
 | [],y::b,_,_,h=>by have:=(h y).mpr (by simp);cases this
 |x::a,[],_,_,h=>by have:=(h x).mp (by simp);cases this
 |x::a,y::b,pa,pb,h=>by
  have pa':=KS.mp pa;have pb':=KS.mp pb;have e:x=y:=by
   have h1:=(h x).mp (by simp);have h2:=(h y).mpr (by simp);rcases Kj.mp h1 with e|h1
   .exact e
   .rcases Kj.mp h2 with e|h2
    .exact e.symm
    .have:=pb'.1 x h1;have:=pa'.1 y h2;lia
  subst e;rw[b7 a b pa'.2 pb'.2 fun z=>?_];constructor
  .intro hz;have:=(h z).mp (by simp[hz]);rcases Kj.mp this with e|q
   .have:=pa'.1 z hz;lia
   .exact q
  .intro hz;have:=(h z).mpr (by simp[hz]);rcases Kj.mp this with e|q
   .have:=pb'.1 z hz;lia
   .exact q
section
variable {X:Cx}{E:XK}
theorem gD (hc:X.calm=true)(h:PD X E e f)
 (hg1:Gl X x1) (hm1:X.mg x1=none) (hv1:bootBuiltins x1=some (.builtin "sorted")) (hg2:Gl X x2) (hm2:X.mg x2=none) (hv2:bootBuiltins x2=some (.type "set"))
 (hn1:autoParam (x1≠"__name__") Oy._auto_1) (hdb1:autoParam ((x1==("__debug__" : Str))=false) Oy._auto_1) (hn2:autoParam (x2≠"__name__") Oy._auto_1) (hdb2:autoParam ((x2==("__debug__" : Str))=false) Oy._auto_1)
 (he2:autoParam (starEach [e] X.env=(false,eval e X.env)::starEach [] X.env) OD._auto_1) (hpl2:autoParam ((backTo pos2 (starEach [] X.env)).any (·.1)=false) OD._auto_1)
 (he1:autoParam (starEach [.Call (.Name x2 p2) [e] [] pos2] X.env=(false,eval (.Call (.Name x2 p2) [e] [] pos2) X.env)::starEach [] X.env) OD._auto_1) (hpl1:autoParam ((backTo pos1 (starEach [] X.env)).any (·.1)=false) OD._auto_1) :
 PD X E (.Call (.Name x1 p1) [.Call (.Name x2 p2) [e] [] pos2] [] pos1) (Bj f):=by
 obtain⟨t,p1,s1⟩:=h;refine⟨_,gQ (l7 hc) hg1 hm1 hv1 (bh (iL (rR hc) hg2 hm2 hv2 (bh p1 cI he2) hn2 hdb2 he2 hpl2) cI he1) hn1 hdb1 he1 hpl1,fun g M ρ env σ H Q rep p=>?_⟩;refine s1.oneE rep p fun r v M1 H1 e1 rep1 i1 q1=>?_;unfold vY at q1;cases qd:r.d with
 |lst ds=>
  rw[qd]at q1 i1;dsimp only at q1;cases qt:fP ds with
  |none=>rw[qt]at q1;exact q1.elim
  |some is=>
   rw[qt]at q1;dsimp only at q1;by_cases hl:is.length<=300
   .rw[Kf hl]at q1;obtain⟨a,vs,rfl,h1,h2⟩:=i1.rd;have hv:vs=is.map V.int:=by rw[IsAll.ints h2 qt];unfold iK;rw[KC];rfl
    rw[hv]at h1;refine⟨a,is,rfl,h1,hl,fun b es hb v=>?_⟩;refine⟨b,es,is,rfl,am,v,hl,fun l ks hl2 hm hw=>?_⟩;have hlb:l≠b:=fun z=>by rw[z,am]at hl2;cases hl2
    have hl1:H1 l=none:=by rw[ao hlb]at hl2;exact hl2
    have sm1:Same H1 (aJ H1 b (.ext fun h=>SetAt X.w h b es)):=aP hb;have sm2:Same (aJ H1 b (.ext fun h=>SetAt X.w h b es)) (aJ (aJ H1 b (.ext fun h=>SetAt X.w h b es)) l (.lst (ks.map V.int))):=aP hl2;have sm:=sm1.trans sm2;obtain⟨z0,zm,zo⟩:=rep1.free hl1;refine q1 _ M1 _ ⟨fun _ z=>z,sm,fun _ z=>.inl z⟩ (rep1.grow sm) ⟨l,_,rfl,am,zm,hl1,zo,?_⟩;have ek:ks=sortI is:=b7 _ _ hw (df is) fun k=>by rw[cY,hm]
    rw[<- ek];exact eM ks
   .rw[Kh hl]at q1;exact q1.elim
 |_=>rw[qd]at q1;exact q1.elim
end
noncomputable abbrev IP:=Int×Int
noncomputable def dp (l:List IP)(x:IP):List IP:=if x∈l then l else l++[x]
noncomputable def h1 (ts:List Tri):List IP:=(ts.map fun t=>(t.1,t.2.1)).foldl dp []
noncomputable def pk (p:IP):List Key:=[.inl p.1,.inl p.2]
noncomputable def bW (ts:List Tri):D:=.dic ((h1 ts).map fun p=>.inr (pk p)) ((h1 ts).map fun p=>.lst ((g3 ts p.1 p.2).map .int))
theorem sv (h:pk p=pk q):p=q:=by unfold pk at h;simp only[Nn,Sum.inl.injEq,and_true]at h;exact Prod.ext h.1 h.2
theorem sw (l:List IP)(x y:IP):y∈dp l x↔y∈l\/y=x:=by
 unfold dp;split
 .rename_i h;exact⟨.inl,fun z=>z.elim id fun e=>e▸h⟩
 .simp
theorem jZ (ts:List Tri)(x y z:Int):h1 (ts++[(x,y,z)])=dp (h1 ts) (x,y):=by unfold h1;rw[KI,Oi];rfl
theorem uh (y:IP):∀(xs:List IP)(l:List IP),y∈xs.foldl dp l↔y∈l\/y∈xs
 | [],l=>by simp
 |x::xs,l=>by rw[Mx,uh y xs,sw,Kj,or_assoc]
theorem Ew (ts:List Tri)(p:IP):p∈h1 ts↔∃ t∈ts,t.1=p.1/\t.2.1=p.2:=by
 unfold h1;rw[uh,Kq];constructor
 .rintro (h|⟨t,h1,h2⟩)
  .simp at h
  .exact⟨t,h1,by rw[<- h2],by rw[<- h2]⟩
 .rintro⟨t,h1,h2,h3⟩;exact .inr ⟨t,h1,Prod.ext h2 h3⟩
theorem ui (h:(x,y)∉h1 ts):g3 ts x y=[]:=by unfold g3;rw[List.map_eq_nil_iff,List.filter_eq_nil_iff];intro t ht z;simp only[KQ,LK]at z;exact h ((Ew ts (x,y)).mpr ⟨t,ht,z.1,z.2⟩)
theorem Ex (l:List IP)(x:IP):(dp l x).length<=l.length+1:=by unfold dp;split<;>simp
theorem uj:∀(xs l:List IP),(xs.foldl dp l).length<=l.length+xs.length
 | [],l=>by simp
 |x::xs,l=>by rw[Mx];have:=uj xs (dp l x);have h2:=Ex l x;simp only[K8];lia
theorem Ey (ts:List Tri):(h1 ts).length<=ts.length:=by unfold h1;have:=uj (ts.map fun t=>(t.1,t.2.1)) [];simpa using this
noncomputable def kvP (l:List IP)(A:IP->Addr):List (List Key×V):=l.map fun x=>(pk x,.ref (A x))
theorem uk (l:List IP)(A:IP->Addr)(x:IP):dr (kvP l A) (pk x)=if x∈l then some (.ref (A x)) else none:=by
 induction l with
 |nil=>rfl
 |cons y l ih=>
  unfold kvP at ih ⊢;rw[Kx];by_cases h:y=x
  .rw[dM (by rw[h]),Kf (by rw[h];exact KD),h]
  .rw[dN (by intro z;exact h (sv z)),ih];by_cases hx:x∈l
   .rw[Kf hx,Kf (Ky _ hx)]
   .rw[Kh hx,Kh];intro z;rcases Kj.mp z with z|z
    .exact h z.symm
    .exact hx z
theorem Bk (h:x∉l):b9 (kvP l A) (pk x) (.ref b)=kvP (l++[x]) (fun u=>if u=x then b else A u):=by
 have e:kvP l (fun u=>if u=x then b else A u)=kvP l A:=by unfold kvP;refine Lw fun u hu=>?_;show(_:List Key×V)=_;dsimp only;rw[Kh (show ¬ u=x from fun z=>h (by rw[<- z];exact hu))]
 unfold b9;rw[Kh]
 .show _=kvP (l++[x]) _;unfold kvP at e ⊢;rw[KI,e];simp
 .intro z;obtain⟨p,hp,hq⟩:=Mk.mp z;obtain⟨u,hu,rfl⟩:=Kq.mp hp;have:pk u=pk x:=LX hq;exact h (sv this▸hu)
structure Gp (H:Hp) (a:Addr) (ts:List Tri) (A:IP->Addr):Prop where
 root:H a=some (.dT (kvP (h1 ts) A))\/(h1 ts=[]/\H a=some (.dK []))
 leaf:∀ p∈h1 ts,H (A p)=some (.lst ((g3 ts p.1 p.2).map .int))
 d2:∀ p∈h1 ts,∀ q∈h1 ts,A p=A q->p=q
def vZ (a:Addr)(ts:List Tri)(A:IP->Addr)(b:Addr):Prop:=b=a\/∃ p∈h1 ts,b=A p
section
variable {H:Hp}{a:Addr}{ts:List Tri}{A:IP->Addr}{x y z:Int}
theorem Gp.old (G:Gp H a ts A)(hx:(x,y)∈h1 ts)(hm:H' (A (x,y))=some (.lst ((g3 ts x y++[z]).map .int)))(kp:∀ c u,H c=some u->c≠A (x,y)->H' c=some u):Gp H' a (ts++[(x,y,z)]) A:=by
 have e1:h1 (ts++[(x,y,z)])=h1 ts:=by rw[jZ];unfold dp;rw[Kf hx]
 have hl:=G.leaf _ hx;have na:a≠A (x,y):=fun e=>by
  rcases G.root with q|⟨q,_⟩
  .rw[e,hl]at q;cases q
  .rw[q]at hx;simp at hx
 refine⟨?_,fun p hp=>?_,by rw[e1];exact G.d2⟩
 .rw[e1];rcases G.root with q|⟨q,_⟩
  .exact .inl (kp a _ q na)
  .rw[q]at hx;simp at hx
 .rw[e1]at hp;rw[jW];by_cases h:x=p.1/\y=p.2
  .obtain rfl:(x,y)=p:=Prod.ext h.1 h.2;rw[Kf ⟨rfl,rfl⟩];exact hm
  .rw[Kh h];exact kp _ _ (G.leaf p hp) fun e=>h (by rw[G.d2 p hp _ hx e];exact⟨rfl,rfl⟩)
theorem Gp.fresh (G:Gp H a ts A)(hx:(x,y)∉h1 ts)(hl:H l=none)(hm:H' l=some (.lst [.int z]))(ha:H' a=some (.dT (kvP (h1 ts++[(x,y)]) fun u=>if u=(x,y) then l else A u)))
 (kp:∀ c u,H c=some u->c≠a->H' c=some u):Gp H' a (ts++[(x,y,z)]) (fun u=>if u=(x,y) then l else A u):=by
 have e1:h1 (ts++[(x,y,z)])=h1 ts++[(x,y)]:=by rw[jZ];unfold dp;rw[Kh hx]
 have old:∀ p,p∈h1 (ts++[(x,y,z)])->p≠(x,y)->p∈h1 ts:=fun p hp hn=>by
  rw[e1]at hp;rcases Ku.mp hp with q|q
  .exact q
  .exact(hn (by simpa using q)).elim
 have nl:∀ p∈h1 ts,A p≠l:=fun p hp e=>by have:=G.leaf p hp;rw[e,hl]at this;cases this
 refine⟨.inl (by rw[e1];exact ha),fun p hp=>?_,fun p hp q hq e=>?_⟩
 .rw[jW];by_cases h:p=(x,y)
  .subst h;rw[Kf rfl,Kf ⟨rfl,rfl⟩,ui hx];exact hm
  .rw[Kh h,Kh (fun q=>h (Prod.ext q.1.symm q.2.symm))];refine kp _ _ (G.leaf p (old p hp h)) fun e=>?_;have:=G.leaf p (old p hp h);rcases G.root with q|⟨_,q⟩<;>(rw[e,q]at this;cases this)
 .try dsimp only at e
  by_cases h:p=(x,y)<;>by_cases h':q=(x,y)
  .exact h.trans h'.symm
  .rw[Kf h,Kh h']at e;exact(nl q (old q hq h') e.symm).elim
  .rw[Kh h,Kf h']at e;exact(nl p (old p hp h) e).elim
  .rw[Kh h,Kh h']at e;exact G.d2 p (old p hp h) q (old q hq h') e
end
theorem lq:∀{l:List IP},(∀ x∈l,Is H m (F x) (G x))->IsAll H m (l.map F) (l.map G)
 | [],_=>rfl
 |x::l,h=>⟨_,_,rfl,h x KD,lq fun y hy=>h y (Ky _ hy)⟩
theorem Gp.is (G:Gp H a ts A):Is H (vZ a ts A) (bW ts) (.ref a):=by
 refine⟨a,(h1 ts).map fun x=>.ref (A x),rfl,⟨?_,.inl rfl⟩,lq fun p hp=>⟨A p,_,rfl,.inl ⟨G.leaf p hp,.inr ⟨p,hp,rfl⟩⟩,gL _⟩⟩;rcases G.root with q|⟨q,e⟩
 .exact .inr ⟨_,.inl q,by unfold kvP;rw[KC];rfl,by unfold kvP;rw[KC];rfl⟩
 .rw[q];exact .inl ⟨[],.inl e,rfl,rfl⟩
noncomputable def v3 (i r1 r2 r3:Nat)(env:En)(r:R):Res Fl:=match r.d with
 | .lst ds=>match fS ds with
  |some ts=>if ts.length<=1000/\¬ i∈r.al/\i≠r1/\i≠r2/\i≠r3/\r1≠r2/\r1≠r3/\r2≠r3/\r1<env.length/\r2<env.length/\r3<env.length then
   .ok (.nx (((((frz env r.al).set r1 none).set r2 none).set r3 none).set i (some (.tre (bW ts))))) else .stuck
  |none=>.stuck
 |_=>.stuck
noncomputable def yB (i r1 r2 r3:Nat)(f:En->Res R):En->Res Fl:=fun env=>match env[i]? with
 |some (some (.tre (.dic [] [])))=>(f env).bind (v3 i r1 r2 r3 env)
 |_=>.stuck
noncomputable def Ez (K:Ou) (i r1 r2 r3:Nat):TE:=I0 K "list" tf (I0 K "dict" xw (fB i) (mC (F8 (mC (fB r1) (mC (fB r2) wF))) (mC (F9 wF) wF))) (mC (fB r3) wF)
theorem yC {K:Ou}{H:Hp}{a:Addr}{A:IP->Addr}{C:Hp->Prop}(G:Gp H a ts A)(hl:ts.length<=1000)
 (hi:σ[i]?=some (some (.ref a))) (e1:σ[r1]?=some (some (.int x))) (e2:σ[r2]?=some (some (.int y))) (e3:σ[r3]?=some (some (.int z)))
 (k:∀ H' A',Gp H' a (ts++[(x,y,z)]) A'->(∀ b u,H b=some u->¬ vZ a ts A b->H' b=some u)->(∀ b,vZ a (ts++[(x,y,z)]) A' b->vZ a ts A b\/H b=none)->C H') :
 Ez K i r1 r2 r3 σ H fun _ H'=>C H':=by
 have sz:∀ n,n<=1000->n<sizeLine:=fun n h=>iT (by unfold lim;lia);have han:H a≠none:=by rcases G.root with q|⟨_,q⟩<;>(rw[q];simp)
 have tya:Ij K "dict" (.ref a) H:=.inr (.inr (.inl ⟨rfl,G.root.symm.imp (fun⟨_,q⟩=>⟨_,q⟩) fun q=>⟨_,q⟩⟩));refine⟨.ref a,hi,tya,.int x,e1,.int y,e2,Lb (sz 2 (by lia)),fun b hb=>⟨KU _,fun l hl'=>?_⟩⟩;have nba:a≠b:=fun e=>han (by rw[e];exact hb);have kb:∀ c u,H c=some u->aJ H b (.tup [.int x,.int y]) c=some u:=fun c u e=>by rw[ao (aj e hb)];exact e
 have hlH:H l=none:=(aP hb).free hl';have nbl:b≠l:=fun e=>by rw[<- e,am]at hl';cases hl'
 have kl:∀ c u,H c=some u->aJ (aJ H b (.tup [.int x,.int y])) l (.lst []) c=some u:=fun c u e=>by rw[ao (aj e hlH)];exact kb c u e
 have nal:a≠l:=fun e=>han (by rw[e];exact hlH);refine⟨a,b,pk (x,y),.ref l,kvP (h1 ts) A,rfl,rfl,by rw[ao nbl,am];rfl,?_,sz _ (by unfold kvP;rw[Kg];exact KA (Ey ts) hl),?_⟩
 .rcases G.root with q|⟨e,q⟩
  .exact .inl (kl _ _ q)
  .exact .inr ⟨kl _ _ q,by rw[e];rfl⟩
 by_cases hx:(x,y)∈h1 ts
 .left;have hm:=G.leaf _ hx;refine⟨.ref (A (x,y)),by rw[uk,Kf hx],.inl ⟨rfl,_,SqL.of (kl _ _ hm)⟩,.int z,e3,A (x,y),_,.int z,rfl,rfl,kl _ _ hm,sz _ (by rw[Kg];exact KA (yw ts x y) hl),?_⟩;have G':=G.old (z:=z) hx (H':=aJ (aJ (aJ H b (.tup [.int x,.int y])) l (.lst [])) (A (x,y)) (.lst ((g3 ts x y).map .int++[.int z]))) (by rw[am,KI];rfl) (fun c u e hn=>by rw[ao hn];exact kl c u e);refine k _ A G' (fun c u e hn=>?_) fun c hc=>?_
  .rw[ao (fun q=>hn (.inr ⟨_,hx,q⟩))];exact kl c u e
  .left;rcases hc with q|⟨p,hp,q⟩
   .exact .inl q
   .rw[jZ,sw]at hp;exact .inr ⟨p,hp.elim id fun e=>e▸hx,q⟩
 .right;refine⟨by rw[uk,Kh hx],.inl ⟨rfl,[],SqL.of ?_⟩,.int z,e3,l,[],.int z,rfl,rfl,?_,by simp[K9],?_⟩
  .rw[ao (Lj nal),am]
  .rw[ao (Lj nal),am]
  .have G':=G.fresh (z:=z) hx hlH (H':=aJ (aJ (aJ (aJ H b (.tup [.int x,.int y])) l (.lst [])) a (.dT (b9 (kvP (h1 ts) A) (pk (x,y)) (.ref l)))) l (.lst ([]++[.int z]))) am (by rw[ao nal,am,Bk hx])
    (fun c u e hn=>by rw[ao (aj e hlH),ao hn];exact kl c u e)
   refine k _ _ G' (fun c u e hn=>?_) fun c hc=>?_
   .rw[ao (aj e hlH),ao (fun q=>hn (.inl q))];exact kl c u e
   .rcases hc with q|⟨p,hp,q⟩
    .exact .inl (.inl q)
    .by_cases h:p=(x,y)
     .dsimp only at q;rw[Kf h]at q;exact .inr (by rw[q];exact hlH)
     .dsimp only at q;rw[Kh h]at q;rw[jZ,sw]at hp;exact .inl (.inr ⟨p,hp.resolve_right h,q⟩)
section
variable {X:Cx}{E:XK}{tg:Expr}
theorem Bl (hp:PassesOwn (model X.prog X.w) X.A X.env X.xe)(hc:X.calm=true)(hl:PD X E l f)
 (hg:PG X tg (F1 X.K 3 (oZ (jn r1) (oZ (jn r2) (oZ (jn r3) F0))))) (hb:PSs X body (wt (Ez X.K i r1 r2 r3))) (hs:autoParam (∀ x,foldedSetIterable l X.env x=pure x) OB._auto_1):m6 X E (.For tg l body [] pos) (yB i r1 r2 r3 f):=by
 obtain⟨tl,p1,s1⟩:=hl;refine⟨_,wy hp hc (xX p1) hg hb hs,fun g M ρ env σ H D rep p=>?_⟩;unfold yB at p;split at p
 .rename_i hq;refine s1.oneS rep p fun r v M0 H1 e1 rep0 ro p0=>?_;obtain⟨M1,x1,x1m,rep1,is1⟩:=ro.is rep0 e1 rep.same;unfold v3 at p0;cases qd:r.d with
  |lst ds=>
   rw[qd]at p0;dsimp only at p0;cases qt:fS ds with
   |none=>rw[qt]at p0;exact p0.elim
   |some ts=>
    rw[qt]at p0;dsimp only at p0;by_cases hcond:ts.length<=1000/\¬ i∈r.al/\i≠r1/\i≠r2/\i≠r3/\r1≠r2/\r1≠r3/\r2≠r3/\r1<env.length/\r2<env.length/\r3<env.length
    .rw[Kf hcond]at p0;obtain⟨bR,hal,ni1,ni2,ni3,n12,n13,n23,l1,l2,l3⟩:=hcond;obtain⟨M2,ρ2,x2,rep2,o2,_,_⟩:=Rep.frz r.al rep1;have is2:Is H1 (msk g M2 r.fr) r.d v:=Is.frozen rep1 x2 o2 is1;have p2:=PostS.frz (⟨fun a z=>x2 a (x1m a z),fun _ _ q _=>q⟩ : Frz M0 H1 M2 H1) p0;clear p0;rw[qd]at is2;have hq2:(frz env r.al)[i]?=some (some (.tre (.dic [] []))):=by rw[sf _ hal];exact hq
     have hi:i<(frz env r.al).length:=(Kc.mp hq2).1;obtain⟨va,ev,ka⟩:=rep2.slot i _ hq2;have ka:Is H1 (ρ2 i) (.dic [] []) va:=ka;obtain⟨a,ws,rfl,⟨dat,pa⟩,hw⟩:=ka;obtain⟨nMa,a0,muA⟩:=rep2.priv i a pa;have nofz:∀ o u,H1 a≠some (.frz o u):=fun o u z=>by obtain⟨uo,q,qm⟩:=muA;rw[z]at q;cases q;exact qm
     have rootA:H1 a=some (.dK [])\/H1 a=some (.dT []):=by
      rcases dat with⟨kvs,e|⟨o,e⟩,h1,_⟩|⟨kvs,e|⟨o,e⟩,h1,_⟩
      .left;have:kvs=[]:=by simpa using h1.symm
       rw[this]at e;exact e
      .exact(nofz _ _ e).elim
      .right;have:kvs=[]:=by simpa using h1.symm
       rw[this]at e;exact e
      .exact(nofz _ _ e).elim
     have notA:∀ c u,H1 c=some u->(∀ k,u≠.dK k)->(∀ k,u≠.dT k)->c≠a:=fun c u e n1 n2 z=>by
      subst z;rcases rootA with q|q<;>(rw[q]at e;cases e)
      .exact n1 _ rfl
      .exact n2 _ rfl
     obtain⟨la,vs,rfl,hla,hall⟩:=is2;have lists:Rd H1 la (.lst vs):=hla.imp (·.1) fun⟨o,z,_⟩=>⟨o,z⟩;have nla:la≠a:=by
      rcases hla with⟨q,_⟩|⟨o,q,_⟩
      .exact notA la _ q (fun _ z=>nomatch z) fun _ z=>nomatch z
      .exact notA la _ q (fun _ z=>nomatch z) fun _ z=>nomatch z
     have hvl:vs.length=ts.length:=by rw[hall.length];exact ni qt
     let Pv:Nat->St->Hp->Prop:=fun j σ' H'=>σ'.length=σ.length/\(∀ n,n≠r1->n≠r2->n≠r3->σ'[n]?=σ[n]?)/\(∀ c u,H1 c=some u->c≠a->H' c=some u)/\∃ A,Gp H' a (ts.take j) A/\∀ c,vZ a (ts.take j) A c->c=a\/H1 c=none
     have P0:Pv 0 σ H1:=by
      refine⟨rfl,fun _ _ _ _=>rfl,fun _ _ e _=>e,fun _=>0,?_,?_⟩
      .rw[NF];exact⟨rootA.symm.imp (fun q=>by exact q) fun q=>⟨rfl,q⟩,fun x hx=>(by cases hx),fun x hx=>(by cases hx)⟩
      .rw[NF];rintro c (h|⟨x,hx,_⟩)
       .exact .inl h
       .cases hx
     have sql:∀ σ' H' j,Pv j σ' H'->SqL X.K H' la vs:=fun σ' H' j z=>.inl (rS lists fun o e=>z.2.2.1 la o e nla);refine⟨la,rfl,.inl ⟨⟨vs,.inl lists⟩,wz (K:=X.K) (a:=la) (xs:=vs) Pv P0 (fun j σ' H' _ z=>sql σ' H' j z) (fun j v σ' H' ex z=>?_) fun σ' H' z=>?_⟩⟩
     .obtain⟨z1,z2,z3,A,G,tin⟩:=z;obtain⟨x,y,w,pj,et,rfl,hpj⟩:=p_ hall qt ex;have hj:j<ts.length:=(Kc.mp et).1;have npj:pj≠a:=notA pj _ hpj (fun _ z=>nomatch z) fun _ z=>nomatch z;have htk:ts.take (j+1)=ts.take j++[(x,y,w)]:=by
       have e2:ts[j]=(x,y,w):=by rw[Li hj]at et;exact K4 et
       rw[<- e2,List.take_append_getElem]
      have hlσ:σ'.length=(frz env r.al).length:=by rw[z1,rep2.len]
      have b1:r1<σ'.length:=by rw[hlσ,cQ];exact l1
      have b2:r2<σ'.length:=by rw[hlσ,cQ];exact l2
      have b3:r3<σ'.length:=by rw[hlσ,cQ];exact l3
      refine⟨pj,_,rfl,SqT.of (z3 pj _ hpj npj),rfl,_,_,rfl,_,_,rfl,_,_,rfl,rfl,?_⟩;show wt (Ez X.K i r1 r2 r3) _ (((σ'.set r1 (some (.int x))).set r2 (some (.int y))).set r3 (some (.int w))) H';have get:∀ n,n≠r1->n≠r2->n≠r3->(((σ'.set r1 (some (.int x))).set r2 (some (.int y))).set r3 (some (.int w)))[n]?=σ'[n]?:=fun n a1 a2 a3=>by rw[Kz (Lj a3),Kz (Lj a2),Kz (Lj a1)]
      refine yC G (KA (by rw[K7];lia) bR) (x:=x) (y:=y) (z:=w) ?_ ?_ ?_ ?_ fun H2 A' G' kp dn=>?_
      .rw[get i ni1 ni2 ni3,z2 i ni1 ni2 ni3];exact ev
      .rw[Kz (Lj n13),Kz (Lj n12),KB b1]
      .rw[Kz (Lj n23),KB (by rw[Mi];exact b2)]
      .rw[KB (by rw[Mi,Mi];exact b3)]
      .refine⟨by simp[z1],fun n a1 a2 a3=>(get n a1 a2 a3).trans (z2 n a1 a2 a3),fun c u e hn=>?_,A',by rw[htk];exact G',fun c hc=>?_⟩
       .refine kp c u (z3 c u e hn) fun q=>?_;rcases tin c q with q|q
        .exact hn q
        .rw[e]at q;cases q
       .rw[htk]at hc;rcases dn c hc with q|q
        .exact tin c q
        .by_cases hca:c=a
         .exact .inl hca
         .right;cases e:H1 c with
          |none=>rfl
          |some u=>rw[z3 c u e hca]at q;cases q
     .obtain⟨z1,z2,z3,A,G,tin⟩:=z;rw[hvl,List.take_length]at G tin;have kM:∀ c u,H1 c=some u->(M2 c\/fixd u)->H' c=some u:=fun c u e q=>z3 c u e fun z=>by
       subst z;rcases q with q|q
       .exact nMa q
       .rcases rootA with w|w<;>(rw[w]at e;cases e;exact q)
      have kR:∀ j,j≠i->∀ c u,H1 c=some u->(ρ2 j c\/fixd u)->H' c=some u:=fun j hj c u e q=>z3 c u e fun z=>by
       subst z;rcases q with q|q
       .exact hj (rep2.apart j i _ q pa)
       .rcases rootA with w|w<;>(rw[w]at e;cases e;exact q)
      have muT:∀ c,vZ a ts A c->Mu H' c:=fun c hc=>by
       rcases hc with rfl|⟨x,hx,rfl⟩
       .rcases G.root with q|⟨_,q⟩<;>exact⟨_,q,True.intro⟩
       .exact⟨_,G.leaf x hx,True.intro⟩
      refine p2 σ' M2 (fun j c=>if j=i then vZ a ts A c else if j=r1\/j=r2\/j=r3 then False else ρ2 j c) H' ⟨fun _ z=>z,kM⟩ ?_;have rho:∀ j c,(if j=i then vZ a ts A c else if j=r1\/j=r2\/j=r3 then False else ρ2 j c)->(j=i/\vZ a ts A c)\/(j≠i/\¬ (j=r1\/j=r2\/j=r3)/\ρ2 j c):=fun j c h=>by
       by_cases hj:j=i
       .rw[Kf hj]at h;exact .inl ⟨hj,h⟩
       .rw[Kh hj]at h;by_cases hr:j=r1\/j=r2\/j=r3
        .rw[Kf hr]at h;exact h.elim
        .rw[Kh hr]at h;exact .inr ⟨hj,hr,h⟩
      have fresh:∀ c,vZ a ts A c->¬ M2 c/\g.H₀ c=none/\∀ j,j≠i->¬ ρ2 j c:=fun c hc=>by
       rcases tin c hc with q|q
       .subst q;exact⟨nMa,a0,fun j hj w=>hj (rep2.apart j i _ w pa)⟩
       .exact⟨fun w=>rep2.froz c w q,rep2.same.free q,fun j _ w=>(rep2.priv j c w).2.2.some q⟩
      have envs:∀ j,j≠i->∀ sl,(((((frz env r.al).set r1 none).set r2 none).set r3 none).set i (some (.tre (bW ts))))[j]?=some (some sl)->¬ (j=r1\/j=r2\/j=r3)/\(frz env r.al)[j]?=some (some sl):=fun j hj sl e=>by
       rw[Kz (Lj hj)]at e;by_cases h3:j=r3
       .subst h3;rw[KB (by simp[cQ];exact l3)]at e;cases e
       .rw[Kz (Lj h3)]at e;by_cases h2:j=r2
        .subst h2;rw[KB (by simp[cQ];exact l2)]at e;cases e
        .rw[Kz (Lj h2)]at e;by_cases h1:j=r1
         .subst h1;rw[KB (by simp[cQ];exact l1)]at e;cases e
         .rw[Kz (Lj h1)]at e;exact⟨fun z=>z.elim h1 fun z=>z.elim h2 h3,e⟩
      refine⟨fun c u e=>?_,fun c hm e=>?_,rep2.inn,fun c hm h0=>?_,fun j sl ej=>?_,fun j c w=>?_,fun j k c w1 w2=>?_,fun j c w=>?_,by simp[z1,rep2.len],fun c zc e=>?_⟩
      .exact z3 c u (rep2.same c u e) fun z=>by rw[z,a0]at e;cases e
      .cases q:H1 c with
       |none=>exact rep2.froz c hm q
       |some u=>rw[kM c u q (.inl hm)]at e;cases e
      .exact(rep2.fl c hm h0).same fun o e=>kM c o e (.inl hm)
      .by_cases hj:j=i
       .subst hj;rw[KB (by simpa using hi)]at ej;cases ej;refine⟨.ref a,by rw[z2 j ni1 ni2 ni3];exact ev,?_⟩;rw[show(fun c=>if j=j then vZ a ts A c else if j=r1\/j=r2\/j=r3 then False else ρ2 j c)=vZ a ts A by funext c;rw[Kf rfl]];exact G.is
       .obtain⟨hr,ej'⟩:=envs j hj sl ej;obtain⟨v',ev',k2⟩:=rep2.slot j sl ej';refine⟨v',by rw[z2 j (fun z=>hr (.inl z)) (fun z=>hr (.inr (.inl z))) (fun z=>hr (.inr (.inr z)))];exact ev',?_⟩;rw[show(fun c=>if j=i then vZ a ts A c else if j=r1\/j=r2\/j=r3 then False else ρ2 j c)=ρ2 j by funext c;rw[Kh hj,Kh hr]];cases sl with
        |val d f=>exact Is.mono (fun c u e z=>kM c u e (z.imp (·.1) id)) (fun _ _ _ z=>z) k2
        |own ds' f=>obtain⟨c,us,rfl,q1,q2,q3⟩:=k2;exact⟨c,us,rfl,kR j hj c _ q1 (.inl ((q2 c).mpr rfl)),q2,IsAll.mono (fun c u e z=>kM c u e (z.imp (·.1) id)) (fun _ _ _ z=>z) q3⟩
        |tre d=>exact Is.mono (fun c u e z=>kR j hj c u e z) (fun _ _ _ z=>z) k2
        |nst ks=>exact kP (fun c u e z=>kR j hj c u e z) k2
        |mes d=>exact IsSh.mono (fun c u e z=>kM c u e (.inr z)) (fun c us z e=>⟨us,kR j hj c _ e (.inl z)⟩) (fun _ z=>z) k2
      .rcases rho j c w with⟨rfl,q⟩|⟨hj,hr,q⟩
       .exact⟨(fresh c q).1,(fresh c q).2.1,muT c q⟩
       .obtain⟨q1,q2,uo,q3,qm⟩:=rep2.priv j c q;exact⟨q1,q2,uo,kR j hj c _ q3 (.inl q),qm⟩
      .rcases rho j c w1 with⟨rfl,q⟩|⟨hj,hr,q⟩<;>rcases rho k c w2 with⟨rfl,q'⟩|⟨hk,hr',q'⟩
       .rfl
       .exact((fresh c q).2.2 k hk q').elim
       .exact((fresh c q').2.2 j hj q).elim
       .exact rep2.apart j k c q q'
      .unfold isOwn;rcases rho j c w with⟨rfl,q⟩|⟨hj,hr,q⟩
       .rw[KB (by simpa using hi)];rfl
       .have:=rep2.ow j c q;unfold isOwn at this;rw[Kz (Lj hj),Kz (fun z=>hr (.inr (.inr z.symm))),Kz (fun z=>hr (.inr (.inl z.symm))),Kz (fun z=>hr (.inl z.symm))];exact this
      .cases q:H1 c with
       |none=>exact rep2.zz c zc q
       |some u=>
        by_cases hca:c=a
        .subst hca;exact(muT c (.inl rfl)).some e
        .rw[z3 c u q hca]at e;cases e
    .rw[Kh hcond]at p0;exact p0.elim
  |_=>rw[qd]at p0;exact p0.elim
 .exact p.elim
end
end L3
namespace L2
open PySem PySem.Spec PySem.Calls PyProof.Rows
section
variable {X:Cx}
end
end L2
namespace L3
open PySem PySem.Spec PyProof.Rows L2
section
variable {X:Cx}{E:XK}
noncomputable def lr:List DK->Option (List Int)
 | []=>some []
 | .inl (.inl i)::r=>(lr r).map (i::·)
 |_::_=>none
theorem nu:∀{ks:List DK}{is:List Int},lr ks=some is->ks=is.map ik
 | [],_,e=>by cases e;rfl
 | .inl (.inl i)::r,_,e=>by unfold lr at e;obtain⟨y,e1,rfl⟩:=LN.mp e;rw[nu e1];rfl
 | .inl (.inr _)::r,_,e=>by cases e
 | .inr _::r,_,e=>by cases e
noncomputable def FP:List R->Res R
 | [r]=>match r.d with
  | .dic ks _=>match lr ks with
   |some is=>if is.length<=1000 then .ok (.new ((sortI is).map .int) true) else .stuck
   |none=>.stuck
  |_=>.stuck
 |_=>.stuck
theorem sA (hc:X.calm=true):gC X E (.builtin "sorted") FP:=by
 refine⟨_,l9 hc,fun g M ρ env σ H Q rs vs rep i p=>?_⟩
 match rs,i,p with
 | [r],i,p=>
  unfold FP at p;dsimp only at p;split at p
  .rename_i ks ds q;cases qk:lr ks with
   |none=>rw[qk]at p;exact p.elim
   |some is=>
    rw[qk]at p;dsimp only at p;by_cases hl:is.length<=1000
    .rw[Kf hl]at p;obtain⟨v,w,rfl,i1,i2⟩:=i;cases i2;have i1:Is H (vmsk g M (aQ [r]) ρ (bg [r])) r.d v:=i1;have em:=nu qk;rw[q]at i1;obtain⟨d,kvs,u,rfl,md,hu,hrd,ek,hall⟩:=vU i1 (by rw[em];intro k hk;obtain⟨z,_,rfl⟩:=Kq.mp hk;exact⟨_,rfl⟩);have ekk:kvs.map (·.1)=is.map Sum.inl:=by rw[em]at ek;have:=KN (List.map fun k:DK=>match k with|.inl a=>a|.inr _=>.inl 0) ek;rw[KC,KC]at this;exact this.symm
     refine⟨d,kvs,u,is,rfl,hu,hrd,ekk,hl,fun l ks' hl' hm hw=>?_⟩;have ek:ks'=sortI is:=b7 _ _ hw (df is) fun k=>by rw[cY,hm]
     rw[ek];exact p.new rep hl' (eM _)
    .rw[Kh hl]at p;exact p.elim
  .exact p.elim
 | [],_,p=>exact p.elim
 |_::_::_,_,p=>exact p.elim
noncomputable def yD (i:Nat)(n:Int)(env:En)(r:R):Res Fl:=match r.d with
 | .int m=>if i<env.length then .ok (.nx (put env i (.val (.int (n+m)) true []))) else .stuck
 |_=>.stuck
noncomputable def v4 (i:Nat)(f:En->Res R):En->Res Fl:=fun env=>match env[i]? with
 |some (some (.val (.int n) _))=>(f env).bind (yD i n env)
 |_=>.stuck
theorem Bm (hN:X.N.Nodup)(hi:X.N[i]?=some x)(hx:Af X.env.scope x)(h:PD X E e f)
 (hf:autoParam (X.fn x=true\/X.env.scope.names.lookup x=some .local) Oz._auto_1):m6 X E (.AugAssign (.Name x pos') .Add e pos) (v4 i f):=by
 obtain⟨t,p1,s1⟩:=h;refine⟨_,Do hN hi hx p1 Dp hf,fun g M ρ env σ H D rep p=>?_⟩;unfold v4 at p;split at p
 .rename_i n fr hq;obtain⟨va,ev,ka⟩:=rep.slot i _ hq;cases (show va=.int n from ka);refine⟨.int n,ev,s1.oneS rep p fun r v M1 H1 e1 rep1 ro p1=>?_⟩;unfold yD at p1;cases qd:r.d with
  |int m=>
   rw[qd]at p1;dsimp only at p1;have hv:v=.int m:=by have:=ro.flatIs (by rw[qd];rfl);rw[qd]at this;exact this
   subst hv;by_cases hi:i<env.length
   .rw[Kf hi]at p1;obtain⟨M2,ρ2,e2,rep2⟩:=rep1.store (r:=.val (.int (n+m)) true []) (v:=.int (n+m)) rep.same hi rfl;exact⟨n,m,rfl,rfl,p1 _ M2 ρ2 H1 e2 rep2⟩
   .rw[Kh hi]at p1;exact p1.elim
  |_=>rw[qd]at p1;exact p1.elim
 .exact p.elim
end
noncomputable def key0s:List D->Option (List K0)
 | []=>some []
 | .int i::r=>(key0s r).map (.inl i::·)
 | .tup l::r=>(fP l).bind fun x=>(key0s r).map (.inr x::·)
 |_=>none
noncomputable def nkey:D->Option (List K0)
 | .tup ds=>key0s ds
 |_=>none
section
variable {H:Hp}{m:Addr->Prop}
theorem IsAll.key0s:∀{ds:List D}{vs:List V}{k:List K0},IsAll H m ds vs->L3.key0s ds=some k->NVs H k vs
 | [],_,_,h,e=>by cases e;exact h
 | .int i::r,_,_,⟨v,rs,e1,h1,h2⟩,e=>by obtain⟨l,hl,rfl⟩:=LN.mp (show(L3.key0s r).map (.inl i::·)=some _ from e);exact⟨rs,by rw[e1,show v=.int i from h1],IsAll.key0s h2 hl⟩
 | .tup l::r,_,_,⟨v,rs,e1,h1,h2⟩,e=>by obtain⟨x,hx,e⟩:=Option.bind_eq_some_iff.mp (show(fP l).bind (fun x=>(L3.key0s r).map (.inr x::·))=some _ from e);obtain⟨q,hq,rfl⟩:=LN.mp e;obtain⟨c,us,e2,hc,hl⟩:=h1;exact⟨c,rs,by rw[e1,e2],by rw[hc,IsAll.ints hl hx,KC];rfl,IsAll.key0s h2 hq⟩
 | .non::_,_,_,_,e=>by cases e
 | .bl _::_,_,_,_,e=>by cases e
 | .str _::_,_,_,_,e=>by cases e
 | .lst _::_,_,_,_,e=>by cases e
 | .dic _ _::_,_,_,_,e=>by cases e
theorem Is.nkey (h:Is H m d v)(e:L3.nkey d=some k):∃ b,v=.ref b/\KeyN H k b:=by
 cases d with
 |tup ds=>obtain⟨b,vs,rfl,hb,hl⟩:=h;exact⟨b,rfl,vs,hb,IsAll.key0s hl e⟩
 |_=>cases e
end
section
variable {X:Cx}{E:XK}
noncomputable def yE (i:Nat):En->Res Fl:=fun env=>if i<env.length then .ok (.nx (env.set i (some (.nst [])))) else .stuck
theorem yF (hN:X.N.Nodup)(hi:X.N[i]?=some x)(hx:Af X.env.scope x)(hs:autoParam (swapsWith (.Dict [] [] pos2) (some (.Name x pos')) pos.line X.env=pure false) OD._auto_1)
 (hf:autoParam (X.fn x=true\/X.env.scope.names.lookup x=some .local) Oz._auto_1):m6 X E (.Assign [.Name x pos'] (.Dict [] [] pos2) pos) (yE i):=by
 refine⟨_,qY hN hi hx xN hs hf,fun g M ρ env σ H D rep p=>fun q hq hm=>?_⟩;unfold yE at p;by_cases hl:i<env.length
 .rw[Kf hl]at p;have s:Same H (aJ H q (.ext (nW q []))):=aP hq;obtain⟨h0,h1,h2⟩:=rep.free hq;exact p _ M _ _ ⟨fun _ z=>z,fun a o e _=>s a o e⟩ ((rep.grow s).put (sl:=.nst []) (T:=fun b=>b=q) hl ⟨q,[],rfl,am,fun _=>Iff.rfl,hm,by simp,rfl,fun x hx=>nomatch hx⟩ fun b e=>by subst e;exact⟨h1,h0,⟨_,am,True.intro⟩,fun j _=>h2 j⟩)
 .rw[Kh hl]at p;exact p.elim
noncomputable def G3 (i:Nat)(env:En)(r:R):Res R:=match env[i]?,nkey r.d with
 |some (some (.nst ks)),some k=>.ok (.val (.bl (kI ks k)) true [])
 |_,_=>.stuck
noncomputable def yG (i:Nat)(f:En->Res R):En->Res R:=fun env=>(f env).bind (G3 i env)
theorem EA (hu:X.A.units+64<cLine):OpR X (compareOp .In) GE:=by intro pins s σ H x y v u Q I rx ry h;obtain⟨a,b,xs,k,rfl,rfl,e1,e2,e3,e4,q⟩:=h;cases rx;cases ry;exact GC (by lia) I e1 e2 e3 e4 fun s' I'=>⟨.bl _,H,I',rfl,q⟩
theorem Bn (s1:Snd X.mg E t f):Snd X.mg E (Dr GE t (fB i)) (yG i f):=by
 intro g M ρ env σ H Q rep p;refine s1.oneE rep p fun r v M1 H1 e1 rep1 is1 p1=>?_;unfold G3 at p1;cases q1:env[i]? with
 |none=>rw[q1]at p1;exact p1.elim
 |some o=>
  cases o with
  |none=>rw[q1]at p1;exact p1.elim
  |some sl=>
   rw[q1]at p1;cases sl with
   |nst ks=>
    cases q2:nkey r.d with
    |none=>rw[q2]at p1;exact p1.elim
    |some k=>rw[q2]at p1;obtain⟨b,rfl,hk⟩:=is1.nkey q2;obtain⟨va,ev,a,xs,rfl,h1,h2,h3,h4,h5,h6⟩:=rep1.slot i _ q1;subst h5;exact⟨_,ev,a,b,xs,k,rfl,rfl,h1,h3,h6,hk,p1 _ M1 H1 (Ext.refl _ _) rep1 rfl⟩
   |_=>exact p1.elim
theorem EB (hu:X.A.units+64<cLine)(ha:PD X E a f)(hb:PE X b (fB i))(hm:behindInMarks .In b=false):vD X E (.Compare a [.In] [b] pos) (vB (yG i f)):=by
 obtain⟨t,p1,s1⟩:=ha;refine⟨_,s_ (EA hu) p1 hb hm,fun g M ρ env σ H Q rep p=>(Bn s1).oneT rep p fun r v M' H' e rep' i p'=>?_⟩;cases q:r.d with
 |bl b=>rw[q]at i;simp only[q]at p';cases i;exact⟨b,rfl,p' M' H' (Ext.refl _ _) rep'⟩
 |_=>simp only[q]at p';exact p'.elim
noncomputable def ul (i:Nat)(env:En)(ks:List (List K0))(r:R):Res Fl:=match nkey r.d with
 |some k=>if ks.length<lim then .ok (.nx (env.set i (some (.nst (xK ks k))))) else .stuck
 |none=>.stuck
noncomputable def um (i:Nat)(fk fv:En->Res R):En->Res Fl:=fun env=>match env[i]? with
 |some (some (.nst ks))=>(fv env).bind fun _=>(fk env).bind (ul i env ks)
 |_=>.stuck
theorem yH (hu:X.A.units+64<cLine)(ho:PE X o (fB i))(hk:PD X E ki fk)(hv:PD X E value fv)
 (hs:autoParam (swapsWith value (some (.Subscript o ki pos')) pos.line X.env=pure false) OD._auto_1):m6 X E (.Assign [.Subscript o ki pos'] value pos) (um i fk fv):=by
 obtain⟨tk,p1,s1⟩:=hk;obtain⟨tv,p2,s2⟩:=hv;refine⟨_,AW (by lia) ho p1 p2 hs,fun g M ρ env σ H D rep p=>?_⟩;unfold um at p;split at p
 .rename_i ks q1;refine s2.oneS rep p fun r v M1 H1 e1 rep1 ro p1=>?_;obtain⟨M1',x1,x1m,rep1',is1⟩:=ro.is rep1 e1 rep.same;obtain⟨va,ev,_⟩:=rep1'.slot i _ q1;refine⟨va,ev,s1.oneS rep1' (PostS.frz ⟨x1m,fun _ _ q _=>q⟩ p1) fun rk y M2 H2 e2 rep2 rok p2=>?_⟩;obtain⟨M2',x2,x2m,rep2',is2⟩:=rok.is rep2 e2 rep1'.same;unfold ul at p2;cases q2:nkey rk.d with
  |none=>rw[q2]at p2;exact p2.elim
  |some k=>
   rw[q2]at p2;dsimp only at p2;by_cases hl:ks.length<lim
   .rw[Kf hl]at p2;obtain⟨b,rfl,hk⟩:=is2.nkey q2;obtain⟨va',ev',a,xs,rfl,h1,h2,h3,h4,h5,h6⟩:=rep2'.slot i _ q1;rw[ev]at ev';cases ev';subst h5;have hi:i<env.length:=(Kc.mp q1).1;refine⟨a,b,xs,k,rfl,rfl,h1,h4,h6,hk,fun r=>?_⟩;have kt:∀ c vs,H2 c=some (.tup vs)->aJ H2 a (.ext (nW a (iS xs k b r))) c=some (.tup vs):=fun c vs e=>by rw[ao (oT e h1 fun z=>nomatch z)];exact e
    have hz:(iS xs k b r).length<=sizeLine:=by have:=xM xs k b r;rw[Kg]at hl;have:=iT hl;lia
    obtain⟨f1,rep3⟩:=rep2'.writeO (u':=.ext (nW a (iS xs k b r))) True.intro ((h2 a).mpr rfl) hi ev (sl:=.nst (xK (xs.map (·.1)) k)) ⟨a,_,rfl,am,h2,h3,hz,(vy xs k b r).symm,xL (fun x hx=>(h6 x hx).mono kt) (hk.mono kt)⟩;exact p2 σ M2' ρ _ (Frz.trans ⟨x2m,fun _ _ q _=>q⟩ f1) rep3
   .rw[Kh hl]at p2;exact p2.elim
 .exact p.elim
end
noncomputable def Bo (N:Nat):List R->Res R
 | [r]=>match r.d with
  | .lst ds=>match tupsI ds with
   |some ks=>if decide (ks.length<=N)&&ks.all (fun k=>!k.isEmpty)&&decide ks.Nodup then .ok (.new ((bU ks).map jH) true) else .stuck
   |none=>.stuck
  |_=>.stuck
 |_=>.stuck
noncomputable def ja:List R->Res R:=Bo 300
section
variable {X:Cx}{E:XK}
theorem qi (hN:N<=300) (hso:gb X.prog X.w N):gC X E (.builtin "sorted") (Bo N):=by
 refine⟨_,l_ hN hso,fun g M ρ env σ H Q rs vs rep i p=>?_⟩
 match rs,i,p with
 | [r],i,p=>
  unfold Bo at p;dsimp only at p;split at p
  .rename_i ds q;cases qk:tupsI ds with
   |none=>rw[qk]at p;exact p.elim
   |some ks=>
    rw[qk]at p;dsimp only at p;split at p
    .rename_i hc;simp only[KQ,LK,Lm]at hc;obtain⟨⟨hl,hne⟩,nd⟩:=hc;obtain⟨v,w,rfl,i1,i2⟩:=i;cases i2;have i1:Is H (vmsk g M (aQ [r]) ρ (bg [r])) r.d v:=i1;rw[q]at i1;obtain⟨a,vs,rfl,h1,h2⟩:=i1.rd;obtain⟨its,t1,t2⟩:=h2.tupsI qk;have tat:=i9 t1;refine⟨a,vs,its,rfl,h1,t1,by have:=KN List.length t2;rw[Kg]at this;lia,fun x hx z=>?_,by rw[t2];exact nd,fun l ys hl hp hw=>?_⟩
     .have:x.1∈ks:=by rw[<- t2];exact Kq.mpr ⟨x,hx,rfl⟩
      have:=hne _ this;rw[z]at this;simp at this
     .have ek:ys.map (·.1)=bU ks:=by refine gK _ _ (by rw[KH];exact hw) (ib ks) fun k=>?_;rw[cc,<- t2,(hp.map (·.1)).mem_iff]
      rw[<- ek,KC]at p;exact p.new rep hl (fQ (fun x hx=>tat x (hp.mem_iff.mp hx)))
    .exact p.elim
  .exact p.elim
 | [],_,p=>exact p.elim
 |_::_::_,_,p=>exact p.elim
theorem av (h:PE X o (fB i)):PD X E (.Subscript o (.Constant (.int k) j pos') pos) (aB i (vC (.int k))):=rY h aq (fun _ _=>rfl)
theorem fT:gC X E (.builtin "sorted") ja:=qi (Km _) xp
end
theorem bH {K KK:Ou}{mg:Str->Option Ow}{x:Str}{st:Stmt}{ps:List Str}{f:Addr}{oc:Ow}{od an:Option Addr}{osl:Array (Option Ow)}{kV doc pm cdv ct:Ow}(U:SubK K KK)
 (l:K.lookup f=some ⟨oc,od,.func (PySem.W.fnOf x x (defArgs st) (defBody st) (defScope st) .none kV doc pm an cdv ct),osl⟩) (c:PySem.W.codeIn K cdv x=true) (g:mg x=some (.ref f))
 (h:∀(kV doc pm:Ow)(an:Option Addr)(cdv ct:Ow)(us:List Ow),us.length=ps.length->bindArgs (PySem.W.fnOf x x (defArgs st) (defBody st) (defScope st) .none kV doc pm an cdv ct) ⟨us,[]⟩=pure (ps.zip us)) :
 Fn KK mg x st ps f (PySem.W.fnOf x x (defArgs st) (defBody st) (defScope st) .none kV doc pm an cdv ct):=
 have F:Fun KK x x st f _:=DL (U.look _ _ l (fun _ _ z=>nomatch z)) (U.code c) (U.keep l)
 ⟨F,F.binds h,g⟩
section
variable {X:Cx}{E:XK}{CX:CXT}{k:Nat}{f:Addr}{fd:FuncData}{ps:List Str}{F:List D->Res R}{x:Str}{e:Expr}{es:List Expr}{fs:En->Res (List R)}{p pos:Pos}
theorem au {st:Stmt}(G:FnOk X.prog X.w X.K X.mg X.base CX k f fd ps (kW X.mg ps.length F))(hr:Room k X.A)(hg:Gl X x)(h:Fn X.K X.mg x st ps f fd)(hx:iJ CX X E)
 (ha:vA X E (e::es) fs) (hl:∀ env rs,fs env=.ok rs->rs.length=ps.length) (hdb:autoParam ((x==("__debug__" : Str))=false) Oy._auto_1) (he:autoParam (starEach (e::es) X.env=(false,eval e X.env)::starEach es X.env) OD._auto_1) (hpl:autoParam ((backTo pos (starEach es X.env)).any (·.1)=false) OD._auto_1) :
 PD X E (.Call (.Name x p) (e::es) [] pos) (aC F fs):=A1 G hr hg h.gl h.fu.kp h.bi hx ha hl hdb he hpl
end
end L3
namespace L3
open PySem L2
section
variable {env aO:En}{i j:Nat}{d:D}{ds es:List D}{f g:Bool}{al bl:List Nat}{x y:Int}
noncomputable def kS (k:En->Res Fl):Fl->Res Fl
 | .nx aO=>k aO
 |r=>.ok r
theorem cM (f k:En->Res Fl)(env:En):aI f k env=(f env).bind (kS k):=by rfl
theorem gw (k:En->Res Fl)(e:En):kS k (.nx e)=k e:=(rfl)
theorem Js (k:En->Res Fl)(r:R):kS k (.rt r)=.ok (.rt r):=(rfl)
noncomputable def Jt (a b:En->Res Fl)(env:En)(k:Bool):Res Fl:=if k then a env else b env
theorem sB (c:En->Res Bool)(a b:En->Res Fl)(env:En):m7 c a b env=(c env).bind (Jt a b env):=(rfl)
theorem uq (a b:En->Res Fl)(env:En):Jt a b env true=a env:=(rfl)
theorem lu (a b:En->Res Fl)(env:En):Jt a b env false=b env:=(rfl)
theorem nv (env:En):eF env=.ok (.nx env):=(rfl)
noncomputable def G4 (r:R):Res Fl:=.ok (.rt r)
theorem G8 (a:En->Res R)(env:En):b8 a env=(a env).bind G4:=(rfl)
theorem EC (r:R):G4 r=.ok (.rt r):=(rfl)
noncomputable def G9 (i:Nat)(env:En)(r:R):Res Fl:=if i<env.length then .ok (.nx (put env i r)) else .stuck
theorem yI (i:Nat)(a:En->Res R)(env:En):bw i a env=(a env).bind (G9 i env):=(rfl)
theorem ED (r:R)(h:i<env.length):G9 i env r=.ok (.nx (put env i r)):=Kf h
theorem EE:put env i (.val d f [])=env.set i (some (.val d f)):=(rfl)
theorem EF:put env i (.new ds f)=env.set i (some (.own ds f)):=(rfl)
theorem EG:put env i (.fre d)=env.set i (some (.tre d)):=(rfl)
noncomputable def G_ (i:Nat):Option (Option Sl)->Res R
 |some (some (.val d fr))=>.ok (mkV d fr [])
 |some (some (.own ds fr))=>.ok (.val (.lst ds) fr [i])
 |some (some (.tre d))=>.ok (.val d true [i])
 |_=>.stuck
theorem Hb (i:Nat)(env:En):ag i env=G_ i env[i]?:=by unfold ag G_;rfl
theorem Hc:G_ i (some (some (.val d f)))=.ok (mkV d f []):=(rfl)
theorem Hd:G_ i (some (some (.own ds f)))=.ok (.val (.lst ds) f [i]):=(rfl)
theorem He:G_ i (some (some (.tre d)))=.ok (.val d true [i]):=(rfl)
theorem Ju (d:D)(env:En):vC d env=.ok (.val d true []):=(rfl)
theorem yJ (h:d.flat=true):mkV d f al=.val d true []:=by unfold mkV;rw[Kf h]
theorem EH (h:d.flat=false):mkV d f al=.val d f al:=by unfold mkV;rw[Kh (by rw[h];simp)]
theorem dg (h:D.flats ds=true):iU ds f al=.new ds true:=by unfold iU;rw[Kf h]
theorem Bp:iU ds true []=.new ds true:=by unfold iU;split<;>rfl
noncomputable def JS (op:R->R->Res R)(fb:En->Res R)(env:En)(ra:R):Res R:=(fb env).bind (op ra)
theorem Jv (op:R->R->Res R)(fa fb:En->Res R)(env:En):v2 op fa fb env=(fa env).bind (JS op fb env):=(rfl)
theorem Hf (op:R->R->Res R)(fb:En->Res R)(env:En)(ra:R):JS op fb env ra=(fb env).bind (op ra):=(rfl)
theorem Hg:bT (.val (.int x) f al) (.val (.int y) g bl)=.ok (.val (.int (x+y)) true []):=(rfl)
theorem Hh:D9 (.val (.int x) f al) (.val (.int y) g bl)=.ok (.val (.int (x-y)) true []):=(rfl)
theorem EI (h1:-18446744073709551616<y)(h2:y<18446744073709551616):xT (.val (.int x) f al) (.val (.int y) g bl)=.ok (.val (.int (x*y)) true []):=by
 have:xS x y=true:=by unfold xS;rw[Nx,KQ,KQ];exact .inr ⟨Kl (by lia),Kl (by lia)⟩
 show(if xS x y=true then _ else _)=_;rw[Kf this]
theorem Hi (h:0<y):cP (.val (.int x) f al) (.val (.int y) g bl)=.ok (.val (.int (x % y)) true []):=by show(if decide (0<y)=true then _ else _)=_;rw[Kf (Kl h)]
theorem Hj (h:0<y)(h2:y<1073741824):fG (.val (.int x) f al) (.val (.int y) g bl)=.ok (.val (.int (x / y)) true []):=by show(if (decide (0<y)&&decide (y<1073741824))=true then _ else _)=_;rw[Kf (by rw[Kl h,Kl h2];rfl)]
theorem Jw:wm (.val (.int x) f al) (.val (.int y) g bl)=.ok (.val (.bl (decide (x<y))) true []):=(rfl)
theorem Jx:FN (.val (.int x) f al) (.val (.int y) g bl)=.ok (.val (.bl (decide (x<=y))) true []):=(rfl)
theorem Jy:Jh (.val (.int x) f al) (.val (.int y) g bl)=.ok (.val (.bl (decide (y<x))) true []):=(rfl)
theorem Jz:Ji (.val (.int x) f al) (.val (.int y) g bl)=.ok (.val (.bl (decide (y<=x))) true []):=(rfl)
theorem sC (h:a.d.dep<=50)(h2:b.d.dep<=50):rV a b=.ok (.val (.bl (dL a.d b.d)) true []):=by unfold rV;rw[Kf ⟨h,h2⟩]
theorem yK (h:a.d.dep<=50)(h2:b.d.dep<=50):tP a b=.ok (.val (.bl (!dL a.d b.d)) true []):=by unfold tP;rw[Kf ⟨h,h2⟩]
theorem Hk:dL (.int x) (.int y)=(x==y):=(rfl)
noncomputable def yL (xs ys:List D)(f:Bool)(al:List Nat):Res R:=if xs.length+ys.length<=lim then .ok (iU (xs++ys) f al) else .stuck
theorem Bq:bT (.val (.lst ds) f al) (.val (.lst es) g bl)=yL ds es (f&&g) (al++bl):=(rfl)
theorem Br:bT (.val (.lst ds) f al) (.new es g)=yL ds es (f&&g) (al++[]):=(rfl)
theorem Bs:bT (.new ds f) (.val (.lst es) g bl)=yL ds es (f&&g) ([]++bl):=(rfl)
theorem Bt:bT (.new ds f) (.new es g)=yL ds es (f&&g) []:=(rfl)
theorem om (h:ds.length+es.length<=1000000):yL ds es f al=.ok (iU (ds++es) f al):=Kf h
noncomputable def CN (fs:En->Res (List R))(env:En)(r:R):Res (List R):=(fs env).bind (fun rs=>.ok (r::rs))
noncomputable def yM (r:R)(rs:List R):Res (List R):=.ok (r::rs)
theorem EJ (env:En):ap env=.ok []:=(rfl)
theorem dC (a:En->Res R)(fs:En->Res (List R))(env:En):ac a fs env=(a env).bind (CN fs env):=(rfl)
theorem ig (fs:En->Res (List R))(env:En)(r:R):CN fs env r=(fs env).bind (yM r):=(rfl)
theorem yN (r:R)(rs:List R):yM r rs=.ok (r::rs):=(rfl)
noncomputable def Hl (rs:List R):Res R:=if rs.length<=lim then .ok (mkV (.tup (rs.map R.d)) (aQ rs) (bg rs)) else .stuck
theorem Hm (fs:En->Res (List R))(env:En):dt fs env=(fs env).bind Hl:=(rfl)
theorem EK (rs:List R)(h:rs.length<=1000000):Hl rs=.ok (mkV (.tup (rs.map R.d)) (aQ rs) (bg rs)):=Kf h
noncomputable def Ho (rs:List R):Res R:=if rs.length<=lim then .ok (iU (rs.map R.d) (aQ rs) (bg rs)) else .stuck
theorem Hq (fs:En->Res (List R))(env:En):gv fs env=(fs env).bind Ho:=(rfl)
theorem EL (rs:List R)(h:rs.length<=1000000):Ho rs=.ok (iU (rs.map R.d) (aQ rs) (bg rs)):=Kf h
theorem yO:aQ []=true:=(rfl)
theorem v5 (r:R)(rs:List R):aQ (r::rs)=(r.fr&&aQ rs):=(rfl)
theorem yP:bg []=[]:=(rfl)
theorem v6 (r:R)(rs:List R):bg (r::rs)=r.al++bg rs:=(rfl)
noncomputable def CO (F:List D->Res R)(rs:List R):Res R:=(F (rs.map R.d)).bind (fun r=>.ok (dP rs r))
noncomputable def yQ (rs:List R)(r:R):Res R:=.ok (dP rs r)
theorem sD (F:List D->Res R)(fs:En->Res (List R))(env:En):aC F fs env=(fs env).bind (CO F):=(rfl)
theorem Bu (F:List D->Res R)(rs:List R):CO F rs=(F (rs.map R.d)).bind (yQ rs):=(rfl)
theorem yR (rs:List R)(r:R):yQ rs r=.ok (dP rs r):=(rfl)
theorem yS (rs:List R)(h:d.flat=true):dP rs (.val d f al)=.val d true []:=Kf h
theorem yT (rs:List R)(h:d.flat=false):dP rs (.val d true al)=.fre d:=by show Ah d true rs=_;unfold Ah;rw[Kh (by rw[h];simp),Kf rfl]
theorem yU (rs:List R)(h:d.flat=false):dP rs (.val d false al)=.val d (aQ rs) (bg rs):=by show Ah d false rs=_;unfold Ah;rw[Kh (by rw[h];simp),Kh (by simp)]
theorem yV (rs:List R)(h:D.flats ds=true):dP rs (.new ds f)=.new ds true:=by show(if D.flats ds=true then _ else _)=_;rw[Kf h]
theorem v8 (rs:List R)(h:D.flats ds=false):dP rs (.new ds true)=.fre (.lst ds):=by show(if D.flats ds=true then _ else _)=_;rw[Kh (by rw[h];simp),Kf rfl]
theorem Hr (k:List R->Res R)(fs:En->Res (List R))(env:En):gf k fs env=(fs env).bind k:=(rfl)
noncomputable def Bv:D->Res R
 | .lst ds=>.ok (.val (.int ds.length) true [])
 | .tup ds=>.ok (.val (.int ds.length) true [])
 | .str z=>if z.length<=lim then .ok (.val (.int z.length) true []) else .stuck
 |_=>.stuck
theorem Hs (r:R):me [r]=Bv r.d:=by unfold me Bv;rfl
theorem EM:Bv (.lst ds)=.ok (.val (.int ds.length) true []):=(rfl)
theorem EN:Bv (.tup ds)=.ok (.val (.int ds.length) true []):=(rfl)
noncomputable def qj (f:Bool)(al:List Nat):D->Res R
 | .lst ds=>.ok (iU ds f al)
 | .tup ds=>.ok (iU ds f al)
 |_=>.stuck
theorem oo (r:R):cA [r]=qj r.fr r.al r.d:=by unfold cA qj;rfl
theorem j3:qj f al (.lst ds)=.ok (iU ds f al):=(rfl)
theorem Bw:qj f al (.tup ds)=.ok (iU ds f al):=(rfl)
noncomputable def kB (ra:R):Res Bool:=match ra.d with
 | .bl b=>.ok b
 |_=>.stuck
theorem Hu (a:En->Res R)(env:En):vB a env=(a env).bind kB:=(rfl)
theorem JA (b:Bool):kB (.val (.bl b) f al)=.ok b:=(rfl)
noncomputable def EO (ra:R):Res Bool:=tru ra.d
theorem sE (a:En->Res R)(env:En):gu a env=(a env).bind EO:=(rfl)
theorem EQ (b:Bool):EO (.val (.bl b) f al)=.ok b:=(rfl)
noncomputable def CP (b:Bool):Res Bool:=.ok (!b)
theorem sF (a:En->Res Bool)(env:En):fC a env=(a env).bind CP:=(rfl)
theorem oq (b:Bool):CP b=.ok (!b):=(rfl)
noncomputable def ER (b:En->Res Bool)(env:En)(k:Bool):Res Bool:=if k then .ok true else b env
theorem Hv (a b:En->Res Bool)(env:En):vE a b env=(a env).bind (ER b env):=(rfl)
theorem Hw (b:En->Res Bool)(env:En):ER b env true=.ok true:=(rfl)
theorem Hx (b:En->Res Bool)(env:En):ER b env false=b env:=(rfl)
noncomputable def yW (b:En->Res R)(env:En)(ra:R):Res R:=match ra.d with
 | .bl true=>b env
 | .bl false=>.ok (.val (.bl false) true [])
 |_=>.stuck
theorem ES (a b:En->Res R)(env:En):xU a b env=(a env).bind (yW b env):=(rfl)
theorem Bx (b:En->Res R)(env:En):yW b env (.val (.bl true) f al)=b env:=(rfl)
theorem By (b:En->Res R)(env:En):yW b env (.val (.bl false) f al)=.ok (.val (.bl false) true []):=(rfl)
noncomputable def ET (b:En->Res R)(env:En)(ra:R):Res R:=match ra.d with
 | .bl true=>.ok (.val (.bl true) true [])
 | .bl false=>b env
 |_=>.stuck
theorem Hy (a b:En->Res R)(env:En):IE a b env=(a env).bind (ET b env):=(rfl)
theorem EU (b:En->Res R)(env:En):ET b env (.val (.bl true) f al)=.ok (.val (.bl true) true []):=(rfl)
theorem EV (b:En->Res R)(env:En):ET b env (.val (.bl false) f al)=b env:=(rfl)
noncomputable def CQ (ra:R):Res R:=match ra.d with
 | .bl b=>.ok (.val (.bl (!b)) true [])
 |_=>.stuck
theorem EY (a:En->Res R)(env:En):Ec a env=(a env).bind CQ:=(rfl)
theorem EZ (b:Bool):CQ (.val (.bl b) f al)=.ok (.val (.bl (!b)) true []):=(rfl)
noncomputable def CS (f:Bool)(al:List Nat):Option D->Res R
 |some d=>.ok (mkV d f al)
 |none=>.stuck
noncomputable def Bz (a b:D)(f:Bool)(al:List Nat):Res R:=match a,b with
 | .lst xs,.int i=>CS f al (atI xs i)
 | .tup xs,.int i=>CS f al (atI xs i)
 | .str z,.int i=>if z.length<=lim then (match atI z.cps.toList i with
  |some c=>.ok (.val (.str ⟨#[c]⟩) true [])
  |none=>.stuck) else .stuck
 |_,_=>.stuck
theorem JB (a b:R):A0 a b=Bz a.d b.d a.fr a.al:=by unfold A0 Bz CS;rfl
theorem Hz:Bz (.lst ds) (.int k) f al=CS f al (atI ds k):=(rfl)
theorem HA:Bz (.tup ds) (.int k) f al=CS f al (atI ds k):=(rfl)
theorem HB:CS f al (some d)=.ok (mkV d f al):=(rfl)
noncomputable def BA (ds:List D)(fr:Bool)(rb:R):Res R:=match rb.d with
 | .int k=>match atI ds k with
  |some d=>.ok (mkV d fr [])
  |none=>.stuck
 |_=>.stuck
noncomputable def yX (i:Nat)(fb:En->Res R)(env:En):Option (Option Sl)->Res R
 |some (some (.own ds fr))=>(fb env).bind (BA ds fr)
 |_=>v2 A0 (ag i) fb env
theorem HC (i:Nat)(fb:En->Res R)(env:En):aB i fb env=yX i fb env env[i]?:=by unfold aB yX;rfl
theorem E1 (fb:En->Res R):yX i fb env (some (some (.own ds f)))=(fb env).bind (BA ds f):=(rfl)
theorem E2 (fb:En->Res R):yX i fb env (some (some (.val d f)))=v2 A0 (ag i) fb env:=(rfl)
theorem E3 (fb:En->Res R):yX i fb env (some (some (.tre d)))=v2 A0 (ag i) fb env:=(rfl)
theorem E4:BA ds f (.val (.int k) g al)=CS f [] (atI ds k):=by unfold BA CS;rfl
theorem Ct {α:Type}(a:α)(l:List α):atI (a::l) 0=some a:=by unfold atI u7;rw[Kf (by lia),Kf (by simp)];rfl
theorem J1 {α:Type}(a b:α)(l:List α):atI (a::b::l) 1=some b:=by unfold atI u7;rw[Kf (by lia),Kf (by simp;lia)];rfl
theorem J2 {α:Type}(a b c:α)(l:List α):atI (a::b::c::l) 2=some c:=by unfold atI u7;rw[Kf (by lia),Kf (by simp;lia)];rfl
theorem J3 {α:Type}(a b c d:α)(l:List α):atI (a::b::c::d::l) 3=some d:=by unfold atI u7;rw[Kf (by lia),Kf (by simp;lia)];rfl
noncomputable def kO (r:R):Res (Option Int):=match r.d with
 | .int i=>.ok (some i)
 |_=>.stuck
theorem BB (a:En->Res R)(env:En):jw a env=(a env).bind kO:=(rfl)
theorem JC:kO (.val (.int x) f al)=.ok (some x):=(rfl)
noncomputable def HD (T:String)(r:R):Res R:=.ok (.val (.bl (A8 T r.d)) true [])
theorem HE (T:String)(a:En->Res R)(env:En):pU T a env=(a env).bind (HD T):=(rfl)
theorem E5 (T:String)(r:R):HD T r=.ok (.val (.bl (A8 T r.d)) true []):=(rfl)
theorem E6:A8 "int" (.int x)=true:=(rfl)
theorem E7:A8 "bool" (.int x)=false:=(rfl)
theorem E8:A8 "list" (.lst ds)=true:=(rfl)
theorem E9:A8 "tuple" (.tup ds)=true:=(rfl)
noncomputable def HF (asg:D->Bool->En->Option En)(body:En->Res Fl)(env:En)(s:Src):Res Fl:=cB asg s.fr body s.xs (frz env s.al)
theorem yY (src:En->Res Src)(asg:D->Bool->En->Option En)(body:En->Res Fl)(env:En):kZ src asg body env=(src env).bind (HF asg body env):=(rfl)
theorem E_ (asg:D->Bool->En->Option En)(body:En->Res Fl)(env:En)(xs:List D):HF asg body env ⟨xs,f,al⟩=cB asg f body xs (frz env al):=(rfl)
noncomputable def v9 (r:R):Res Src:=match r.d with
 | .lst ds=>.ok ⟨ds,r.fr,r.al⟩
 | .tup ds=>.ok ⟨ds,r.fr,r.al⟩
 |_=>.stuck
theorem yZ (a:En->Res R)(env:En):iW a env=(a env).bind v9:=(rfl)
theorem y6:v9 (.val (.lst ds) f al)=.ok ⟨ds,f,al⟩:=(rfl)
theorem y8:v9 (.val (.tup ds) f al)=.ok ⟨ds,f,al⟩:=(rfl)
theorem BC:v9 (.new ds f)=.ok ⟨ds,f,[]⟩:=(rfl)
theorem y9:v9 (.fre (.lst ds))=.ok ⟨ds,true,[]⟩:=(rfl)
theorem y_:v9 (.fre (.tup ds))=.ok ⟨ds,true,[]⟩:=(rfl)
noncomputable def JT (rs:List R):Res Src:=match rs.map R.d with
 | [.int j]=>if cR j then .ok ⟨dB 0 j.toNat,true,[]⟩ else .stuck
 |_=>.stuck
theorem HG (fs:En->Res (List R))(env:En):A3 fs env=(fs env).bind JT:=(rfl)
theorem HH (h1:-4611686018427387904<=x)(h2:x<4611686018427387904):cR x=true:=by unfold cR;rw[KQ];exact⟨Kl (by lia),Kl (by lia)⟩
theorem ql (h1:-4611686018427387904<=x)(h2:x<4611686018427387904):JT [.val (.int x) f al]=.ok ⟨dB 0 x.toNat,true,[]⟩:=Kf (HH h1 h2)
theorem Fa:frz env []=env:=(rfl)
noncomputable def fU (n:Nat)(caps:List Nat)(asg:D->Bool->En->Option En)(test:En->Res Bool)(elt:En->Res R)(env:En)(s:Src):Res R:=if s.xs.length<=lim then
 (db (fun d=>asg d s.fr (dv env n caps)) test elt s.xs).noX.bind fun rs=>.ok (iU (rs.map R.d) (aQ rs) (s.al++caps.filter (isOwn env))) else .stuck
theorem za (n:Nat)(caps:List Nat)(src:En->Res Src)(asg:D->Bool->En->Option En)(test:En->Res Bool)(elt:En->Res R)(env:En) :
 cC n caps src asg test elt env=(src env).bind (fU n caps asg test elt env):=(rfl)
theorem cS (hl:xs.length<=1000000)
 (h:db (fun d=>asg d f (dv env n caps)) test elt xs=.ok rs):fU n caps asg test elt env ⟨xs,f,al⟩=.ok (iU (rs.map R.d) (aQ rs) (al++caps.filter (isOwn env))):=by
 unfold fU;dsimp only;rw[Kf (show xs.length<=lim from hl),h];rfl
theorem bN {α:Type}{mk:D->Option En}{test:En->Res Bool}{elt:En->Res R}(g:α->D)(k:α->R):∀(xs:List α),(∀ a∈xs,∃ e,mk (g a)=some e/\test e=.ok true/\elt e=.ok (k a))->db mk test elt (xs.map g)=.ok (xs.map k)
 | [],_=>rfl
 |a::r,h=>by obtain⟨e,h1,h2,h3⟩:=h a (by simp);rw[Kx,Kx];unfold db;rw[h1];dsimp only;rw[h2];dsimp only[Res.bind];rw[Kf rfl,h3,bN g k r fun b hb=>h b (by simp[hb])]
theorem ij {α:Type}{mk:D->Option En}{test:En->Res Bool}{elt:En->Res R}(g:α->D)(p:α->Bool)(k:α->R):∀(xs:List α),(∀ a∈xs,∃ e,mk (g a)=some e/\test e=.ok (p a)/\(p a=true->elt e=.ok (k a)))->db mk test elt (xs.map g)=.ok ((xs.filter p).map k)
 | [],_=>rfl
 |a::r,h=>by
  obtain⟨e,h1,h2,h3⟩:=h a (by simp);rw[Kx];unfold db;rw[h1];dsimp only;rw[h2];dsimp only[Res.bind];have ih:=ij g p k r fun b hb=>h b (by simp[hb]);cases hp:p a with
  |true=>rw[Kf rfl,h3 hp,Ll,Kf hp,ih];rfl
  |false=>rw[Kh (by simp),Ll,Kh (by rw[hp];simp),ih]
noncomputable def v_ (i:Nat)(env:En)(ds:List D)(fr:Bool)(r:R):Res Fl:=if ds.length<lim/\¬ i∈r.al then .ok (.nx ((frz env r.al).set i (some (.own (ds++[r.d]) (fr&&r.fr))))) else .stuck
noncomputable def ur (i:Nat)(a:En->Res R)(env:En):Option (Option Sl)->Res Fl
 |some (some (.own ds fr))=>(a env).bind (v_ i env ds fr)
 |some (some (.tre (.lst ds)))=>(a env).bind (v_ i env ds true)
 |_=>.stuck
theorem CT (a:En->Res R)(env:En):sj i a env=ur i a env env[i]?:=by
 unfold sj kY ur;cases env[i]? with
 |none=>rfl
 |some o=>cases o with
  |none=>rfl
  |some s=>cases s with
   |tre d=>cases d<;>rfl
   |_=>rfl
theorem zb (a:En->Res R):ur i a env (some (some (.own ds f)))=(a env).bind (v_ i env ds f):=(rfl)
theorem Fb (a:En->Res R):ur i a env (some (some (.tre (.lst ds))))=(a env).bind (v_ i env ds true):=(rfl)
theorem zd (h:ds.length<1000000)(hr:r.al=[]):v_ i env ds f r=.ok (.nx (env.set i (some (.own (ds++[r.d]) (f&&r.fr))))):=by unfold v_;rw[hr];rw[Kf ⟨h,by simp⟩];rfl
end
theorem fV (x:Int):(D.int x).flat=true:=(rfl)
theorem BD (x:Bool):(D.bl x).flat=true:=(rfl)
theorem ze (x:Str):(D.str x).flat=true:=(rfl)
theorem zf:D.non.flat=true:=(rfl)
theorem fW (ds:List D):(D.tup ds).flat=D.flats ds:=(rfl)
theorem il (ds:List D):(D.lst ds).flat=false:=(rfl)
theorem nw:D.flats []=true:=(rfl)
theorem cq (d:D)(ds:List D):D.flats (d::ds)=(d.flat&&D.flats ds):=(rfl)
theorem ot (x:Int):(D.int x).dep=0:=(rfl)
theorem sG (x:Bool):(D.bl x).dep=0:=(rfl)
theorem BE (x:Str):(D.str x).dep=0:=(rfl)
theorem BF:D.non.dep=0:=(rfl)
theorem uu (ds:List D):(D.tup ds).dep=D.deps ds+1:=(rfl)
theorem j6 (ds:List D):(D.lst ds).dep=D.deps ds+1:=(rfl)
theorem lw:D.deps []=0:=(rfl)
theorem jb (d:D)(ds:List D):D.deps (d::ds)=max d.dep (D.deps ds):=(rfl)
theorem Fc (r:R):dc (.ok (.rt r))=.ok r:=(rfl)
theorem Fd (e:En):dc (.ok (.nx e))=.ok (.val .non true []):=(rfl)
theorem aK (d:D)(f:Bool)(al:List Nat):(R.val d f al).d=d:=(rfl)
theorem gk (ds:List D)(f:Bool):(R.new ds f).d=.lst ds:=(rfl)
theorem BG (d:D):(R.fre d).d=d:=(rfl)
theorem zg (d:D)(f:Bool)(al:List Nat):(R.val d f al).fr=f:=(rfl)
theorem zh (ds:List D)(f:Bool):(R.new ds f).fr=f:=(rfl)
theorem zi (d:D):(R.fre d).fr=true:=(rfl)
theorem qo (d:D)(f:Bool)(al:List Nat):(R.val d f al).al=al:=(rfl)
theorem zj (ds:List D)(f:Bool):(R.new ds f).al=[]:=(rfl)
theorem zk (d:D):(R.fre d).al=[]:=(rfl)
theorem aU {α β:Type}(a:α)(k:α->Res β):(Res.ok a).bind k=k a:=(rfl)
noncomputable def zl (asg:D->Bool->En->Option En)(fr:Bool)(body:En->Res Fl)(xs:List D):Fl->Res Fl
 | .nx e=>cB asg fr body xs e
 | .ct e=>cB asg fr body xs e
 | .bk e=>.ok (.nx e)
 | .rt r=>.ok (.rt r)
 | .rm r e=>.ok (.rm r e)
theorem zn (h:asg x fr env=some env1):cB asg fr body (x::xs) env=(body env1).bind (zl asg fr body xs):=by unfold cB;rw[h];rfl
theorem ou (asg:D->Bool->En->Option En)(fr:Bool)(body:En->Res Fl)(xs:List D)(e:En):zl asg fr body xs (.nx e)=cB asg fr body xs e:=(rfl)
theorem BH (asg:D->Bool->En->Option En)(fr:Bool)(body:En->Res Fl)(xs:List D)(r:R):zl asg fr body xs (.rt r)=.ok (.rt r):=(rfl)
noncomputable def Fe:D->Res R
 | .lst ds=>match cb ds with
  |some bs=>.ok (.val (.bl (bs.all id)) true [])
  |none=>.stuck
 |_=>.stuck
theorem HI (r:R):ye [r]=Fe r.d:=by rcases r with⟨d,f,al⟩|⟨ds,f⟩|⟨d⟩<;>first|rfl|(cases d<;>rfl)
theorem J4:((0:Nat):Int)=0:=(rfl)
theorem J5:((1:Nat):Int)=1:=(rfl)
theorem J6:((2:Nat):Int)=2:=(rfl)
theorem J7:((3:Nat):Int)=3:=(rfl)
theorem J8:((4:Nat):Int)=4:=(rfl)
theorem HJ {α β:Type}(c:Str)(k:α->Res β):(Res.exc c:Res α).bind k=.exc c:=(rfl)
theorem BI (c:Str):dc (.exc c)=.exc c:=(rfl)
noncomputable def zp (c:Str)(rs:List R):Res Fl:=if rs.length<=lim then .exc c else .stuck
theorem BJ (c:Str)(fs:En->Res (List R))(env:En):oi c fs env=(fs env).bind (zp c):=(rfl)
theorem zq (h:rs.length<=1000000):zp c rs=.exc c:=Kf h
noncomputable def oz (cs:List Str)(suite:En->Res Fl)(env:En):Res R->Res Fl
 | .ok _=>.ok (.nx env)
 | .exc c=>if cs.contains c then (suite env).quiet else .stuck
 | .stuck=>.stuck
noncomputable def CU (F:List D->Res R)(cs:List Str)(suite:En->Res Fl)(env:En)(rs:List R):Res Fl:=oz cs suite env (F (rs.map R.d))
theorem Ff (F:List D->Res R)(fs:En->Res (List R))(cs:List Str)(suite:En->Res Fl)(env:En):pV F fs cs suite env=(fs env).noX.bind (CU F cs suite env):=by unfold pV;congr 1
theorem BK (F:List D->Res R)(cs:List Str)(suite:En->Res Fl)(env:En)(rs:List R):CU F cs suite env rs=oz cs suite env (F (rs.map R.d)):=(rfl)
theorem BL (cs:List Str)(suite:En->Res Fl)(env:En)(r:R):oz cs suite env (.ok r)=.ok (.nx env):=(rfl)
theorem zr (cs:List Str)(suite:En->Res Fl)(env:En)(c:Str)(h:cs.contains c=true):oz cs suite env (.exc c)=(suite env).quiet:=Kf h
theorem zt {α:Type}(a:α):(Res.ok a).quiet=.ok a:=(rfl)
theorem BM:D.non.isNon=true:=(rfl)
theorem BN (x:Int):(D.int x).isNon=false:=(rfl)
theorem BO (x:List D):(D.tup x).isNon=false:=(rfl)
theorem BP (x:List D):(D.lst x).isNon=false:=(rfl)
theorem Res.noX_ok {α:Type}(a:α):(Res.ok a).noX=.ok a:=(rfl)
theorem qp (ks:List DK)(ds:List D):(D.dic ks ds).flat=false:=(rfl)
noncomputable def putAt (i:Nat)(fk fv:En->Res R)(env:En):Option (Option Sl)->Res Fl
 |some (some (.tre (.dic ks ds)))=>(fv env).bind (t7 i fk env ks ds)
 |_=>.stuck
theorem zu (i:Nat)(fk fv:En->Res R)(env:En):ng i fk fv env=putAt i fk fv env env[i]?:=by unfold ng putAt;rfl
theorem uv:putAt i fk fv env (some (some (.tre (.dic ks ds))))=(fv env).bind (t7 i fk env ks ds):=(rfl)
theorem BQ (h:r.d.flat=true):t7 i fk env ks ds r=(fk env).bind (t5 i env ks ds r.d):=Kf h
theorem BR (h:keyX k.d=some x)(h2:ks.all (kin x)=true)(h3:ks.length<1000000):t5 i env ks ds d k=.ok (.nx (env.set i (some (.tre (fM ks ds x d))))):=by unfold t5;rw[h];exact Kf ⟨h2,h3⟩
noncomputable def JD (xs ys:List D)(f:Bool)(al:List Nat):Res R:=if xs.length+ys.length<=lim/\xs≠[] then .ok (mkV (.tup (xs++ys)) f al) else .stuck
theorem Fg:bT (.val (.tup xs) f al) (.val (.tup ys) g bl)=JD xs ys (f&&g) (al++bl):=(rfl)
theorem wa (h:d.flat=false):dP rs (.fre d)=.fre d:=by show Ah d true rs=_;unfold Ah;rw[Kh (by rw[h];simp),Kf rfl]
theorem zw (fa fk fx:En->Res R)(env:En):pZ fa fk fx env=(fa env).bind (GW fk fx env):=(rfl)
theorem HK (h:ra.d=.dic ks ds):GW fk fx env ra=(fk env).bind (Jn fx env ra ks ds):=by unfold GW;rw[h]
theorem CV (fx:En->Res R)(env:En)(ra:R)(ks:List DK)(ds:List D)(rk:R):Jn fx env ra ks ds rk=(fx env).bind (IJ ra ks ds rk):=(rfl)
noncomputable def HL:D->Res R
 | .lst ds=>match cb ds with
  |some bs=>.ok (.val (.bl (bs.any id)) true [])
  |none=>.stuck
 |_=>.stuck
theorem HM (r:R):Be [r]=HL r.d:=by rcases r with⟨d,f,al⟩|⟨ds,f⟩|⟨d⟩<;>first|rfl|(cases d<;>rfl)
theorem jc {α:Type}(p:α->Bool):∀ xs:List α,cb (xs.map fun a=>D.bl (p a))=some (xs.map p)
 | []=>rfl
 |a::r=>by rw[Kx];unfold cb;rw[jc p r];rfl
theorem zx {α:Type}(p:α->Bool)(xs:List α):HL (.lst (xs.map fun a=>D.bl (p a)))=.ok (.val (.bl (xs.any p)) true []):=by show(match cb (xs.map fun a=>D.bl (p a)) with|some bs=>Res.ok (R.val (D.bl (bs.any id)) true [])|none=>Res.stuck)=_;rw[jc];dsimp only;rw[N8];rfl
theorem zy {α:Type}(p:α->Bool)(xs:List α):Fe (.lst (xs.map fun a=>D.bl (p a)))=.ok (.val (.bl (xs.all p)) true []):=by show(match cb (xs.map fun a=>D.bl (p a)) with|some bs=>Res.ok (R.val (D.bl (bs.all id)) true [])|none=>Res.stuck)=_;rw[jc];dsimp only;rw[N9];rfl
theorem HN (h:0<=y):Em (.val (.int x) f al) (.val (.int y) g bl)=.ok (.val (.int (x / 2 ^ y.toNat)) true []):=by show(if decide (0<=y)=true then _ else _)=_;rw[Kf (Kl h)]
theorem Fh:yn (.val (.int x) f al) (.val (.int y) g bl)=.ok (.val (.int (Builtin.bitAnd x y)) true []):=(rfl)
theorem gm:∀ k:List Int,fP (k.map .int)=some k
 | []=>rfl
 |a::r=>by rw[Kx];unfold fP;rw[gm r];rfl
theorem jd:∀ ks:List (List Int),tupsI (ks.map jH)=some ks
 | []=>rfl
 |k::r=>by rw[Kx];unfold tupsI;rw[jd r,show Er (jH k)=some k from gm k]
theorem HP (f:En->Res R)(env:En):yp f env=(f env).bind sq:=(rfl)
theorem Fi (hr:r.d=.lst (ks.map jH))(h:ks.length<=300)(hn:ks.all (fun k=>!k.isEmpty)=true):sq r=.ok (.new ((bU ks).map jH) true):=by unfold sq Bg;rw[hr];dsimp only;rw[jd];dsimp only;rw[Kf (by rw[Kg,Kl h,hn];rfl)]
theorem HQ (f:En->Res R)(env:En):Bj f env=(f env).bind vY:=(rfl)
theorem zA (hr:r.d=.lst (is.map .int))(h:is.length<=300):vY r=.ok (.new ((sortI is).map .int) true):=by unfold vY;rw[hr];dsimp only;rw[gm];dsimp only;rw[Kf h]
theorem qq:∀ is:List Int,lr (is.map ik)=some is
 | []=>rfl
 |a::r=>by rw[Kx];unfold ik lr;rw[show(r.map fun i=>(Sum.inl (Sum.inl i):DK))=r.map ik from rfl,qq r];rfl
theorem HR (hr:r.d=.dic (is.map ik) ds)(h:is.length<=1000):FP [r]=.ok (.new ((sortI is).map .int) true):=by unfold FP;dsimp only;rw[hr];dsimp only;rw[qq];dsimp only;rw[Kf h]
noncomputable def zB (i:Nat)(f:En->Res R)(env:En):Option (Option Sl)->Res Fl
 |some (some (.val (.int n) _))=>(f env).bind (yD i n env)
 |_=>.stuck
theorem HS (i:Nat)(f:En->Res R)(env:En):v4 i f env=zB i f env env[i]?:=by unfold v4 zB;rfl
theorem Fj:zB i f env (some (some (.val (.int n) fr)))=(f env).bind (yD i n env):=(rfl)
theorem Fk:yD i n env (.val (.int m) f al)=if i<env.length then .ok (.nx (put env i (.val (.int (n+m)) true []))) else .stuck:=(rfl)
noncomputable def zC (i r1 r2 r3:Nat)(f:En->Res R)(env:En):Option (Option Sl)->Res Fl
 |some (some (.tre (.dic [] [])))=>(f env).bind (v3 i r1 r2 r3 env)
 |_=>.stuck
theorem HU (i r1 r2 r3:Nat)(f:En->Res R)(env:En):yB i r1 r2 r3 f env=zC i r1 r2 r3 f env env[i]?:=by unfold yB zC;rfl
theorem Fm:zC i r1 r2 r3 f env (some (some (.tre (.dic [] []))))=(f env).bind (v3 i r1 r2 r3 env):=(rfl)
noncomputable def bD (ks:List Int):D:=.dic (ks.map ik) (ks.map fun _=>.bl true)
theorem BS (x:Int)(ks:List Int):(ks.map ik).all (kin (.inl (.inl x)))=true:=by rw[N9,Lm];intro k _;rfl
theorem BU (ks:List Int)(x:Int):mi (ks.map ik) (.inl (.inl x))=decide (x∈ks):=by
 unfold mi;rw[N8,L_,Mk,N_];constructor
 .rintro⟨k,hk,e⟩;have:k=x:=by have:=LX e;exact Ng (Ng this)
  exact this▸hk
 .intro h;exact⟨x,h,by simp[ik]⟩
theorem zD (ks:List Int)(x:Int):fM (ks.map ik) (ks.map fun _=>D.bl true) (.inl (.inl x)) (.bl true)=bD (dd ks x):=by
 unfold fM;rw[BU];have hr:∀ ks:List Int,tZ (ks.map ik) (ks.map fun _=>D.bl true) (.inl (.inl x)) (.bl true)=ks.map fun _=>D.bl true:=by
  intro ks;induction ks with
  |nil=>rfl
  |cons a r ih=>rw[Kx,Kx];unfold tZ;rw[ih];split<;>rfl
 unfold dd;by_cases h:x∈ks
 .rw[Kf (Kl h),Kf h,hr];rfl
 .rw[Kh (by rw[Kp h];simp),Kh h];unfold bD;rw[KI,KI];rfl
theorem Fo:A8 "bool" (.bl b)=true:=(rfl)
theorem JE (k:En->Res Fl)(r:R)(e:En):kS k (.rm r e)=.ok (.rm r e):=(rfl)
noncomputable def CW (i:Nat)(env:En)(r:R):Res Fl:=if i<env.length then .ok (.nx ((frz env r.al).set i (some (.val r.d r.fr)))) else .stuck
theorem Fp (i:Nat)(a:En->Res R)(env:En):jA i a env=(a env).bind (CW i env):=(rfl)
theorem BV (h:i<env.length):CW i env r=.ok (.nx ((frz env r.al).set i (some (.val r.d r.fr)))):=Kf h
noncomputable def oA (f:Bool)(al:List Nat):D->Res R
 | .dic ks _=>match Es ks with
  |some xs=>if xs.length<=lim then .ok (.new xs true) else .stuck
  |none=>.stuck
 |d=>qj f al d
theorem BW (r:R):yx [r]=oA r.fr r.al r.d:=by unfold yx oA;dsimp only;cases h:r.d<;>first|rfl|(dsimp only;rw[oo,h])
theorem zE:oA f al (.lst ds)=.ok (iU ds f al):=(rfl)
noncomputable def HV (f1 f2:En->Res R)(env:En)(r0:R):Res R:=(f1 env).bind fun r1=>(f2 env).bind fun r2=>su r0 r1 r2
noncomputable def HW (f2:En->Res R)(env:En)(r0 r1:R):Res R:=(f2 env).bind (su r0 r1)
theorem JF (f0 f1 f2:En->Res R)(env:En):G1 f0 f1 f2 env=(f0 env).bind (HV f1 f2 env):=(rfl)
theorem Fq (f1 f2:En->Res R)(env:En)(r0:R):HV f1 f2 env r0=(f1 env).bind (HW f2 env r0):=(rfl)
theorem Fs (f2:En->Res R)(env:En)(r0 r1:R):HW f2 env r0 r1=(f2 env).bind (su r0 r1):=(rfl)
theorem Ft {d1 d2:List D}{g1 g2:Bool}(h0:r0.d.flat=true)(h1:D.flats d1=true)(h2:D.flats d2=true):su r0 (.new d1 g1) (.new d2 g2)=.ok (.fre (.tup [r0.d,.lst d1,.lst d2])):=Kf ⟨h0,h1,h2⟩
theorem BX:EO (.val (.lst ds) f al)=.ok (!ds.isEmpty):=(rfl)
theorem BY (fs:En->Res (List R))(env:En):nq fs env=(fs env).bind qg:=(rfl)
theorem zF:qg [.val (.lst ds) f al,.val (.lst es) g bl]=.ok ⟨ia ds es,f&&g,al++bl⟩:=(rfl)
theorem zG:qg [.val (.tup ds) f al,.val (.tup es) g bl]=.ok ⟨ia ds es,f&&g,al++bl⟩:=(rfl)
end L3
local macro_rules|`(tactic| simp_arith[$as,*] $[$l:location]?)=>do
 let ls←("L3.dE L3.fL L3.HP L3.HQ L3.HS L3.Fj L3.Fk L3.HU L3.Fm L3.BY L3.zF L3.zG L3.Hy L3.EU L3.EV L3.JE L3.Fp L3.BV L3.zE L3.JF L3.Fq L3.Fs L3.BX decide_true decide_false List.map_cons List.map_nil List.length_cons List.length_nil List.replicate List.cons_append List.nil_append List.append_nil Nat.reduceAdd Nat.max_self Nat.zero_max Nat.max_zero Nat.zero_add Nat.reduceSub L3.cM L3.yI L3.Jv L3.Hf L3.Hb L3.Hc L3.Hd L3.He L3.yJ L3.EH L3.fV L3.BD L3.ze L3.zf L3.fW L3.il L3.nw L3.cq L3.ot L3.sG L3.BE L3.BF L3.uu L3.j6 L3.lw L3.jb L3.Ju L3.aU List.getElem?_cons_zero List.getElem?_cons_succ L3.Hi L3.Hj L3.Hg L3.Hh L3.EI Int.reduceLT Int.reduceLE Int.reduceNeg L3.ED L3.EE L3.EF L3.EG L3.gw L3.Js List.set_cons_zero List.set_cons_succ Nat.reduceLT Nat.reduceLeDiff L3.sB L3.uq L3.lu L3.nv L3.G8 L3.EC L3.Jw L3.Jx L3.Jy L3.Jz L3.Hk L3.Bq L3.Br L3.Bs L3.Bt L3.EJ L3.dC L3.ig L3.yN L3.Hm L3.EK L3.Hq L3.EL L3.yO L3.v5 L3.yP L3.v6 L3.sD L3.Bu L3.yR L3.yS L3.yT L3.yU L3.yV L3.v8 L3.Hr L3.Hs L3.EM L3.EN L3.oo L3.j3 L3.Bw L3.Hu L3.JA L3.sE L3.EQ L3.sF L3.oq L3.Hv L3.Hw L3.Hx L3.ES L3.Bx L3.By L3.EY L3.EZ L3.JB L3.Hz L3.HA L3.HB L3.HC L3.E1 L3.E2 L3.E3 L3.E4 L3.Ct L3.J1 L3.J2 L3.J3 L3.BB L3.JC L3.HE L3.E5 L3.E6 L3.E7 L3.E8 L3.E9 L3.yY L3.E_ L3.yZ L3.y6 L3.y8 L3.BC L3.y9 L3.y_ L3.HG L3.Fa L3.BM L3.BN L3.BO L3.BP L3.HJ L3.BI L3.BJ L3.zq L3.Ff L3.BK L3.BL L3.zt L3.Res.noX_ok L3.J4 L3.J5 L3.J6 L3.J7 L3.J8 Int.reduceBEq L3.HI Bool.not_not Nat.reduceEqDiff L3.za L3.CT L3.zb L3.Fb L3.aK L3.gk L3.BG L3.zg L3.zh L3.zi L3.qo L3.zj L3.zk L3.ou L3.BH Bool.and_true Bool.true_and Bool.and_false Bool.false_and Bool.and_self Bool.not_true Bool.not_false L3.Fc L3.Fd L3.dg L3.Bp L3.qp L3.Fg L3.zu L3.uv L3.HM L3.HN L3.Fh L3.Fo L3.zw L3.CV L3.wa".splitOn " ").toArray.mapM fun s=>`(Lean.Parser.Tactic.simpLemma| $(Lean.mkIdent s.toName):ident)
 `(tactic| simp only[$[$ls:simpLemma],*,$as,*] $[$l]?)
local macro_rules|`(tactic| simp_arith $[$l:location]?)=>`(tactic| simp_arith[L3.aU] $[$l]?)
namespace L3
open PySem L2
theorem lz:(∀ d∈ds,d.flat=true)->D.flats ds=true:=by
 induction ds with
 |nil=>intro _;rfl
 |cons d r ih=>intro h;rw[cq,h d (by simp),ih fun x hx=>h x (by simp[hx])];rfl
theorem aY {α:Type}(g:α->D)(xs:List α)(h:∀ a,(g a).flat=true):D.flats (xs.map g)=true:=lz fun d hd=>by obtain⟨a,_,rfl⟩:=Kq.mp hd;exact h a
theorem aN (xs:List Int):D.flats (xs.map D.int)=true:=aY _ _ fV
theorem BZ:(∀ d∈ds,d.dep<=n)->D.deps ds<=n:=by
 induction ds with
 |nil=>intro _;rw[lw];lia
 |cons d r ih=>intro h;have h1:=h d (by simp);have h2:=ih fun x hx=>h x (by simp[hx]);rw[jb];lia
theorem lA {α:Type}{g:α->D}{xs:List α}{n:Nat}(h:∀ a,(g a).dep<=n):D.deps (xs.map g)<=n:=BZ fun d hd=>by obtain⟨a,_,rfl⟩:=Kq.mp hd;exact h a
theorem je (xs:List Int):D.deps (xs.map D.int)<=0:=lA fun _=>Km 0
theorem cF {α:Type}(g:α->D)(xs:List α):aQ (xs.map fun a=>.val (g a) true [])=true:=by unfold aQ;rw[Lm];intro r h;obtain⟨a,_,rfl⟩:=Kq.mp h;rfl
theorem jB {α:Type}(g:α->D)(fr:Bool)(al:List Nat)(xs:List α):(xs.map fun a=>R.val (g a) fr al).map R.d=xs.map g:=by rw[KC];rfl
theorem j7 (n:Nat):dB 0 n=(List.range n).map fun k=>.int (k:Nat):=by unfold dB;congr 1;funext k;simp
theorem lB {α:Type}(g:α->D){asg:D->Bool->En->Option En}{fr:Bool}{body:En->Res Fl}(P:List α->En->Prop):∀(xs pre:List α)(env:En),P pre env->
 (∀(pre post:List α)(a:α)(env:En),(∀ b∈pre,b∈pre)->P pre env->a∈xs->∃ env1 env2,asg (g a) fr env=some env1/\body env1=.ok (.nx env2)/\P (pre++[a]) env2)->
 ∃ aO,cB asg fr body (xs.map g) env=.ok (.nx aO)/\P (pre++xs) aO
 | [],pre,env,h,_=>⟨env,rfl,by rw[La];exact h⟩
 |a::r,pre,env,h,st=>by obtain⟨env1,env2,h1,h2,h3⟩:=st pre [] a env (fun _ z=>z) h (by simp);obtain⟨aO,e1,e2⟩:=lB g P r (pre++[a]) env2 h3 fun p q b e z hp hb=>st p q b e z hp (by simp[hb]);refine⟨aO,?_,by rw[Ko]at e2;exact e2⟩;rw[Kx];unfold cB;rw[h1];dsimp only;rw[h2];exact e1
theorem oB {α:Type}(g:α->D){asg:D->Bool->En->Option En}{fr:Bool}{body:En->Res Fl}(all:List α)(P:List α->En->Prop):∀(xs pre:List α)(env:En),all=pre++xs->P pre env->
 (∀(pre post:List α)(a:α)(env:En),all=pre++a::post->P pre env->∃ env1 env2,asg (g a) fr env=some env1/\body env1=.ok (.nx env2)/\P (pre++[a]) env2)->
 ∃ aO,cB asg fr body (xs.map g) env=.ok (.nx aO)/\P all aO
 | [],pre,env,e,h,_=>⟨env,rfl,by rw[e,La];exact h⟩
 |a::r,pre,env,e,h,st=>by obtain⟨env1,env2,h1,h2,h3⟩:=st pre r a env e h;obtain⟨aO,e1,e2⟩:=oB g all P r (pre++[a]) env2 (by rw[e];simp) h3 st;refine⟨aO,?_,e2⟩;rw[Kx];unfold cB;rw[h1];dsimp only;rw[h2];exact e1
noncomputable def cell (ns:List Int)(k:Int):Int:=if k<ns.length then ((atI ns k).getD 0 % 2147483647+11+k*k)*48271 % 2147483647 else 0
theorem oC (ns:List Int)(k:Int):0<=cell ns k:=by unfold cell;split<;>lia
theorem uw {α β:Type}(g:α->β)(xs:List α)(k:Int):atI (xs.map g) k=(atI xs k).map g:=by
 unfold atI;rw[Kg];cases u7 xs.length k with
 |none=>rfl
 |some j=>simp
theorem zH {α:Type}{xs:List α}{k:Int}(h0:0<=k)(h:k<xs.length):∃ a,atI xs k=some a/\xs[k.toNat]?=some a:=by
 unfold atI u7;rw[Kf h0,Kf h];have:k.toNat<xs.length:=by lia
 exact⟨xs[k.toNat],by simp[this],by simp[this]⟩
structure Rl where
 room:Int
 sign:Int
 to:Int
 put:List Int
noncomputable def Rl.d (r:Rl):D:=.tup [.int r.room,.int r.sign,.int r.to,.tup (r.put.map .int)]
end L3
namespace W
open PySem PySem.Spec PyProof.Rows L2 L3
noncomputable def top (i:Nat):Stmt:=PySem.Challenge.pw_callwalk_k14_joining.main.body.getD i (.Pass ⟨0,0,0,0⟩)
noncomputable abbrev s__law_cell_at:Stmt:=top 11
noncomputable abbrev fX:List Str:=["_law_script", "_law_k"]
noncomputable abbrev P__law_cell_at:List Str:=["_law_script", "_law_k"]
theorem jI:FnScope fX P__law_cell_at (defScope s__law_cell_at):=⟨rfl,rfl,rfl,by decide +kernel,rfl,by decide +kernel,by decide +kernel⟩
noncomputable def di:En->Res Fl:=
 (aI (m7 (vB (v2 wm (ag 1) (gf me (ac (ag 0) ap)))) (b8 (v2 cP (v2 xT (v2 bT (v2 bT (v2 cP (aB 0 (ag 1)) (vC (.int 2147483647))) (vC (.int 11))) (v2 xT (ag 1) (ag 1))) (vC (.int 48271))) (vC (.int 2147483647)))) eF)
 (b8 (vC (.int 0))))
noncomputable def ay:List D->Res R:=dE fX di
noncomputable abbrev s__law_arrow:Stmt:=top 13
noncomputable abbrev im:List Str:=["_law_cell", "_law_rooms", "_law_own", "_law_signs", "_law_state", "_law_sign"]
noncomputable abbrev P__law_arrow:List Str:=["_law_cell", "_law_rooms", "_law_own", "_law_signs"]
theorem sc__law_arrow:FnScope im P__law_arrow (defScope s__law_arrow):=⟨rfl,rfl,rfl,by decide +kernel,rfl,by decide +kernel,by decide +kernel⟩
noncomputable def io:En->Res Fl:=
 (aI (bw 0 (v2 cP (v2 xT (v2 bT (v2 cP (ag 0) (vC (.int 2147483587))) (vC (.int 7))) (vC (.int 16807))) (vC (.int 2147483587))))
 (aI (bw 4 (v2 cP (ag 0) (v2 bT (ag 1) (ag 2))))
 (aI (bw 0 (v2 fG (ag 0) (v2 bT (ag 1) (ag 2))))
 (aI (bw 5 (v2 cP (ag 0) (ag 3)))
 (aI (bw 0 (v2 fG (ag 0) (ag 3)))
 (b8 (dt (ac (ag 4) (ac (ag 5) (ac (v2 bT (ag 1) (v2 cP (ag 0) (ag 2))) ap))))))))))
noncomputable def cT:List D->Res R:=dE im io
noncomputable abbrev s__law_drawn:Stmt:=top 14
noncomputable abbrev cU:List Str:=["_law_cells", "_law_pick", "_law_rooms", "_law_signs", "_law_own", "_law_arrows", "_law_bits", "_law_ends"]
noncomputable abbrev P__law_drawn:List Str:=["_law_cells", "_law_pick", "_law_rooms", "_law_signs"]
theorem sc__law_drawn:FnScope cU P__law_drawn (defScope s__law_drawn):=⟨rfl,rfl,rfl,by decide +kernel,rfl,by decide +kernel,by decide +kernel⟩
theorem jf:((["_law_cell"]:List Str)++(["_law_rooms", "_law_signs", "_law_own"]:List Str)).Nodup:=by decide +kernel
theorem jg:((["_law_state"]:List Str)++(["_law_bits"]:List Str)).Nodup:=by decide +kernel
noncomputable def bI:En->Res R:=fun env=>(aC cT (ac (ag 0) (ac (ag 1) (ac (ag 3) (ac (ag 2) ap))))) env
noncomputable def bJ:En->Res Bool:=fun env=>(vB (v2 rV (v2 yn (v2 Em (ag 1) (ag 0)) (vC (.int 1))) (vC (.int 1)))) env
noncomputable def bK:En->Res R:=fun env=>(ag 0) env
noncomputable def eO:En->Res Fl:=
 (aI (bw 4 (v2 cP (ag 1) (vC (.int 4))))
 (aI (bw 5 (gv ap))
 (aI (m7 (vB (v2 Jh (ag 4) (vC (.int 0)))) (bw 5 (cC 1 [2,3,4] (iW (ag 0)) (gN 0) (fun _=>.ok true) bI)) eF)
 (aI (bw 6 (v2 fG (ag 1) (vC (.int 4))))
 (aI (bw 7 (cC 1 [6] (A3 (ac (v2 bT (ag 2) (ag 4)) ap)) (gN 0) bJ bK))
 (b8 (dt (ac (v2 bT (ag 2) (ag 4)) (ac (yp (ag 5)) (ac (ag 7) ap))))))))))
noncomputable def bO:List D->Res R:=dE cU eO
noncomputable abbrev s__law_far:Stmt:=top 15
noncomputable abbrev lC:List Str:=["_law_machine_here", "_law_start", "_law_number", "_law_signs", "_law_arrows", "_law_state", "_law_k"]
noncomputable abbrev P__law_far:List Str:=["_law_machine_here", "_law_start", "_law_number", "_law_signs"]
theorem sc__law_far:FnScope lC P__law_far (defScope s__law_far):=⟨rfl,rfl,rfl,by decide +kernel,rfl,by decide +kernel,by decide +kernel⟩
noncomputable def cV:En->Res Fl:=fun env=>
 (aI (sj 4 (dt (ac (ag 5) (ac (v2 cP (v2 fG (ag 2) (v2 bT (ag 6) (vC (.int 2)))) (ag 3)) (ac (v2 bT (aB 0 (vC (.int 0))) (ag 6)) ap)))))
 (bw 5 (v2 bT (aB 0 (vC (.int 0))) (ag 6)))) env
noncomputable def lD:En->Res Fl:=
 (aI (bw 4 (gf cA (ac (aB 0 (vC (.int 1))) ap)))
 (aI (bw 5 (ag 1))
 (aI (kZ (A3 (ac (v2 bT (vC (.int 7)) (v2 cP (ag 2) (vC (.int 6)))) ap)) (gN 6) cV)
 (b8 (dt (ac (v2 bT (ag 5) (vC (.int 1))) (ac (gf ja (ac (ag 4) ap)) (ac (v2 bT (aB 0 (vC (.int 2))) (gv (ac (ag 5) ap))) ap))))))))
noncomputable def dj:List D->Res R:=dE lC lD
noncomputable abbrev s_is_plain:Stmt:=top 4
noncomputable abbrev gM:List Str:=["house", "machine"]
noncomputable abbrev P_is_plain:List Str:=["house", "machine"]
theorem qu:FnScope gM P_is_plain (defScope s_is_plain):=⟨rfl,rfl,rfl,by decide +kernel,rfl,by decide +kernel,by decide +kernel⟩
theorem lE:((["arrow"]:List Str)++(["house"]:List Str)).Nodup:=by decide +kernel
noncomputable def ce:En->Res R:=fun env=>(v2 Ji (aB 0 (vC (.int 2))) (aB 1 (vC (.int 0)))) env
noncomputable def lF:En->Res Fl:=(b8 (gf ye (ac (cC 1 [0] (iW (aB 1 (vC (.int 1)))) (gN 0) (fun _=>.ok true) ce) ap)))
noncomputable def eQ:List D->Res R:=dE gM lF
noncomputable abbrev s_refuse_unless_plain:Stmt:=top 5
noncomputable abbrev cp:List Str:=["house", "machine"]
noncomputable abbrev P_refuse_unless_plain:List Str:=["house", "machine"]
theorem eR:FnScope cp P_refuse_unless_plain (defScope s_refuse_unless_plain):=⟨rfl,rfl,rfl,by decide +kernel,rfl,by decide +kernel,by decide +kernel⟩
noncomputable def bE:En->Res Fl:=(m7 (fC (gu (aC eQ (ac (ag 0) (ac (ag 1) ap))))) (oi "NotPlain" (ac (vC (.str "an arrow of the machine leads to a room")) ap)) eF)
noncomputable def aG:List D->Res R:=dE cp bE
noncomputable abbrev s_moved:Stmt:=top 8
noncomputable abbrev ux:List Str:=["house", "state", "places"]
noncomputable abbrev P_moved:List Str:=["house", "state", "places"]
theorem zI:FnScope ux P_moved (defScope s_moved):=⟨rfl,rfl,rfl,by decide +kernel,rfl,by decide +kernel,by decide +kernel⟩
noncomputable def oD:En->Res Fl:=(b8 (IF (vB (v2 wm (ag 1) (aB 0 (vC (.int 0))))) (ag 1) (v2 bT (ag 1) (ag 2))))
noncomputable def eS:List D->Res R:=dE ux oD
noncomputable abbrev s_formed:Stmt:=top 7
noncomputable abbrev qw:List Str:=["states", "arrows", "ends"]
noncomputable abbrev P_formed:List Str:=["states", "arrows", "ends"]
theorem wb:FnScope qw P_formed (defScope s_formed):=⟨rfl,rfl,rfl,by decide +kernel,rfl,by decide +kernel,by decide +kernel⟩
noncomputable def qx:En->Res Fl:=(b8 (dt (ac (ag 0) (ac (yp (ag 1)) (ac (Bj (ag 2)) ap)))))
noncomputable def ip:List D->Res R:=dE qw qx
noncomputable abbrev s_joining:Stmt:=top 9
noncomputable abbrev gn:List Str:=["house", "one", "other", "places", "arrows", "ends"]
noncomputable abbrev P_joining:List Str:=["house", "one", "other"]
theorem sc_joining:FnScope gn P_joining (defScope s_joining):=⟨rfl,rfl,rfl,by decide +kernel,rfl,by decide +kernel,by decide +kernel⟩
theorem dH:((["start", "sign", "to"]:List Str)++(["house", "places"]:List Str)).Nodup:=by decide +kernel
theorem ml:((["end"]:List Str)++(["house", "places"]:List Str)).Nodup:=by decide +kernel
noncomputable def cG:En->Res R:=fun env=>(dt (ac (aC eS (ac (ag 3) (ac (ag 0) (ac (ag 4) ap)))) (ac (ag 1) (ac (aC eS (ac (ag 3) (ac (ag 2) (ac (ag 4) ap)))) ap)))) env
noncomputable def cH:En->Res R:=fun env=>(aC eS (ac (ag 1) (ac (ag 0) (ac (ag 2) ap)))) env
noncomputable def gp:En->Res Fl:=
 (aI (nr (aC aG (ac (ag 0) (ac (ag 1) ap))))
 (aI (nr (aC aG (ac (ag 0) (ac (ag 2) ap))))
 (aI (bw 3 (v2 D9 (aB 1 (vC (.int 0))) (aB 0 (vC (.int 0)))))
 (aI (bw 4 (cC 3 [0,3] (iW (aB 2 (vC (.int 1)))) (gT 3 (bz (gN 0) (bz (gN 1) (bz (gN 2) ju)))) (fun _=>.ok true) cG))
 (aI (bw 5 (cC 1 [0,3] (iW (aB 2 (vC (.int 2)))) (gN 0) (fun _=>.ok true) cH))
 (b8 (aC ip (ac (v2 bT (aB 2 (vC (.int 0))) (ag 3)) (ac (v2 bT (aB 1 (vC (.int 1))) (ag 4)) (ac (v2 bT (aB 1 (vC (.int 2))) (ag 5)) ap))))))))))
noncomputable def bP:List D->Res R:=dE gn gp
noncomputable abbrev s__law_refused:Stmt:=top 21
noncomputable abbrev fY:List Str:=["_law_house", "_law_one", "_law_other", "_law_refused_here"]
noncomputable abbrev P__law_refused:List Str:=["_law_house", "_law_one", "_law_other"]
theorem sc__law_refused:FnScope fY P__law_refused (defScope s__law_refused):=⟨rfl,rfl,rfl,by decide +kernel,rfl,by decide +kernel,by decide +kernel⟩
noncomputable def dW:En->Res Fl:=fun env=>(bw 3 (vC (.bl true))) env
noncomputable def fZ:En->Res Fl:=
 (aI (bw 3 (vC (.bl false)))
 (aI (pV bP (ac (ag 0) (ac (ag 1) (ac (ag 2) ap))) ["NotPlain"] dW)
 (b8 (ag 3))))
noncomputable def aW:List D->Res R:=dE fY fZ
noncomputable abbrev s__law_whole:Stmt:=top 12
noncomputable abbrev iq:List Str:=["_law_found"]
noncomputable abbrev P__law_whole:List Str:=["_law_found"]
theorem mn:FnScope iq P__law_whole (defScope s__law_whole):=⟨rfl,rfl,rfl,by decide +kernel,rfl,by decide +kernel,by decide +kernel⟩
noncomputable def ir:En->Res Fl:=(b8 (xU (pU "int" (ag 0)) (Ec (pU "bool" (ag 0)))))
noncomputable def bQ:List D->Res R:=dE iq ir
noncomputable abbrev s__law_machine:Stmt:=top 16
noncomputable abbrev dk:List Str:=["_law_found", "_law_rooms", "_law_signs", "_law_arrow_here", "_law_state"]
noncomputable abbrev P__law_machine:List Str:=["_law_found", "_law_rooms", "_law_signs"]
theorem sc__law_machine:FnScope dk P__law_machine (defScope s__law_machine):=⟨rfl,rfl,rfl,by decide +kernel,rfl,by decide +kernel,by decide +kernel⟩
theorem gO:((["_law_part"]:List Str)++([]:List Str)).Nodup:=by decide +kernel
noncomputable def bq:En->Res R:=fun env=>(aC bQ (ac (ag 0) ap)) env
noncomputable def br:En->Res Fl:=fun env=>
 (aI (m7 (vE (fC (gu (pU "tuple" (ag 3)))) (vE (vB (v2 tP (gf me (ac (ag 3) ap)) (vC (.int 3)))) (fC (gu (gf ye (ac (cC 1 [] (iW (ag 3)) (gN 0) (fun _=>.ok true) bq) ap)))))) (b8 (vC (.bl false))) eF)
 (m7 (vE (fC (vB (gJ FN wm (vC (.int 0)) (aB 3 (vC (.int 0))) (aB 0 (vC (.int 0)))))) (vE (fC (vB (gJ FN wm (vC (.int 0)) (aB 3 (vC (.int 1))) (ag 2)))) (fC (vB (gJ FN wm (ag 1) (aB 3 (vC (.int 2))) (aB 0 (vC (.int 0)))))))) (b8 (vC (.bl false))) eF)) env
noncomputable def bt:En->Res Fl:=fun env=>(m7 (vE (fC (gu (aC bQ (ac (ag 4) ap)))) (fC (vB (gJ FN wm (vC (.int 0)) (ag 4) (aB 0 (vC (.int 0))))))) (b8 (vC (.bl false))) eF) env
noncomputable def f6:En->Res Fl:=
 (aI (m7 (vE (fC (gu (pU "tuple" (ag 0)))) (vE (vB (v2 tP (gf me (ac (ag 0) ap)) (vC (.int 3)))) (vE (fC (gu (aC bQ (ac (aB 0 (vC (.int 0))) ap)))) (vB (v2 wm (aB 0 (vC (.int 0))) (ag 1)))))) (b8 (vC (.bl false))) eF)
 (aI (m7 (vE (fC (gu (pU "list" (aB 0 (vC (.int 1)))))) (fC (gu (pU "list" (aB 0 (vC (.int 2))))))) (b8 (vC (.bl false))) eF)
 (aI (kZ (iW (aB 0 (vC (.int 1)))) (gN 3) br)
 (aI (kZ (iW (aB 0 (vC (.int 2)))) (gN 4) bt)
 (aI (m7 (vB (v2 tP (aB 0 (vC (.int 1))) (yp (aB 0 (vC (.int 1)))))) (b8 (vC (.bl false))) eF)
 (b8 (v2 rV (aB 0 (vC (.int 2))) (Bj (aB 0 (vC (.int 2)))))))))))
noncomputable def cf:List D->Res R:=dE dk f6
noncomputable abbrev s__law_outs:Stmt:=top 17
noncomputable abbrev jC:List Str:=["_law_machine_here", "_law_outs_here", "_law_state", "_law_sign", "_law_far_here"]
noncomputable abbrev P__law_outs:List Str:=["_law_machine_here"]
theorem sc__law_outs:FnScope jC P__law_outs (defScope s__law_outs):=⟨rfl,rfl,rfl,by decide +kernel,rfl,by decide +kernel,by decide +kernel⟩
noncomputable def jD:En->Res Fl:=
 (aI (bw 1 (fun _=>.ok (.fre (.dic [] []))))
 (aI (yB 1 2 3 4 (aB 0 (vC (.int 1))))
 (b8 (ag 1))))
noncomputable def bd:List D->Res R:=dE jC jD
noncomputable abbrev s__law_ended:Stmt:=top 19
noncomputable abbrev eU:List Str:=["_law_machine_here", "_law_here"]
noncomputable abbrev P__law_ended:List Str:=["_law_machine_here", "_law_here"]
theorem mq:FnScope eU P__law_ended (defScope s__law_ended):=⟨rfl,rfl,rfl,by decide +kernel,rfl,by decide +kernel,by decide +kernel⟩
theorem jh:((["_law_state"]:List Str)++(["_law_machine_here"]:List Str)).Nodup:=by decide +kernel
noncomputable def bL:En->Res R:=fun env=>(v2 Jm (ag 0) (aB 1 (vC (.int 2)))) env
noncomputable def iu:En->Res Fl:=(b8 (gf Be (ac (cC 1 [0] (iW (ag 1)) (gN 0) (fun _=>.ok true) bL) ap)))
noncomputable def aH:List D->Res R:=dE eU iu
noncomputable abbrev s__law_there:Stmt:=top 18
noncomputable abbrev iz:List Str:=["_law_outs_here", "_law_here", "_law_sign", "_law_there_here", "_law_state", "_law_far_here"]
noncomputable abbrev P__law_there:List Str:=["_law_outs_here", "_law_here", "_law_sign"]
theorem sc__law_there:FnScope iz P__law_there (defScope s__law_there):=⟨rfl,rfl,rfl,by decide +kernel,rfl,by decide +kernel,by decide +kernel⟩
noncomputable def cg:En->Res Fl:=fun env=>(ng 3 (ag 5) (vC (.bl true))) env
noncomputable def ci:En->Res Fl:=fun env=>(kZ (iW (pZ (ag 0) (dt (ac (ag 4) (ac (ag 2) ap))) (gv ap))) (gN 5) cg) env
noncomputable def iA:En->Res Fl:=
 (aI (bw 3 (fun _=>.ok (.fre (.dic [] []))))
 (aI (kZ (iW (ag 1)) (gN 4) ci)
 (b8 (gf gI (ac (gf FP (ac (ag 3) ap)) ap)))))
noncomputable def cj:List D->Res R:=dE iz iA
noncomputable abbrev s__law_together:Stmt:=top 20
noncomputable abbrev bA:List Str:=["_law_found", "_law_one", "_law_other", "_law_rooms", "_law_signs", "_law_webs", "_law_rows", "_law_seen", "_law_at", "_law_row", "_law_sign"]
noncomputable abbrev P__law_together:List Str:=["_law_found", "_law_one", "_law_other", "_law_rooms", "_law_signs"]
theorem sc__law_together:FnScope bA P__law_together (defScope s__law_together):=⟨rfl,rfl,rfl,by decide +kernel,rfl,by decide +kernel,by decide +kernel⟩
theorem gx:((["_law_room"]:List Str)++([]:List Str)).Nodup:=by decide +kernel
theorem cN:((["_law_web", "_law_here"]:List Str)++(["_law_sign"]:List Str)).Nodup:=by decide +kernel
noncomputable def aS:En->Res R:=fun env=>(dt (ac (dt (ac (ag 0) ap)) (ac (dt (ac (ag 0) ap)) (ac (dt (ac (ag 0) ap)) ap)))) env
noncomputable def aT:En->Res R:=fun env=>(aC cj (ac (ag 0) (ac (ag 1) (ac (ag 2) ap)))) env
noncomputable def be:En->Res Fl:=fun env=>(sj 6 (gf gI (ac (cC 2 [10] (nq (ac (ag 5) (ac (ag 9) ap))) (gT 2 (bz (gN 0) (bz (gN 1) ju))) (fun _=>.ok true) aT) ap))) env
noncomputable def ck:En->Res Fl:=fun env=>
 (aI (bw 9 (aB 6 (ag 8)))
 (aI (v4 8 (vC (.int 1)))
 (aI (m7 (vB (yG 7 (ag 9))) (fun env=>.ok (.ct env)) eF)
 (aI (um 7 (ag 9) (vC (.bl true)))
 (aI (m7 (vB (v2 tP (aC aH (ac (ag 0) (ac (aB 9 (vC (.int 0))) ap))) (IE (aC aH (ac (ag 1) (ac (aB 9 (vC (.int 1))) ap))) (aC aH (ac (ag 2) (ac (aB 9 (vC (.int 2))) ap)))))) (b8 (vC (.bl false))) eF)
 (kZ (A3 (ac (ag 4) ap)) (gN 10) be)))))) env
noncomputable def fy:En->Res Fl:=
 (aI (bw 5 (gv (ac (aC bd (ac (ag 0) ap)) (ac (aC bd (ac (ag 1) ap)) (ac (aC bd (ac (ag 2) ap)) ap)))))
 (aI (bw 6 (cC 1 [] (A3 (ac (ag 3) ap)) (gN 0) (fun _=>.ok true) aS))
 (aI (yE 7)
 (aI (bw 8 (vC (.int 0)))
 (aI (de (vB (v2 wm (ag 8) (gf me (ac (ag 6) ap)))) ck 100000)
 (b8 (vC (.bl true))))))))
noncomputable def bB:List D->Res R:=dE bA fy
noncomputable abbrev s_law:Stmt:=top 22
noncomputable abbrev CY:List Str:=["_law_script", "_law_size", "_law_rooms", "_law_signs", "_law_house", "_law_one", "_law_other", "_law_odd", "_law_bad", "_law_first", "_law_second", "_law_found"]
noncomputable abbrev P_law:List Str:=["_law_script"]
theorem sc_law:FnScope CY P_law (defScope s_law):=⟨rfl,rfl,rfl,by decide +kernel,rfl,by decide +kernel,by decide +kernel⟩
noncomputable def qy:En->Res Fl:=fun env=>(b8 (xU (v2 rV (ag 9) (ag 5)) (xU (v2 rV (ag 10) (ag 6)) (aC bB (ac (aC bP (ac (ag 4) (ac (ag 9) (ac (ag 9) ap)))) (ac (ag 5) (ac (ag 5) (ac (ag 2) (ac (ag 3) ap))))))))) env
noncomputable def qz:En->Res Fl:=fun env=>
 (aI (jy 11 2)
 qy) env
noncomputable def qA:En->Res Fl:=fun env=>
 (aI (jy 11 1)
 qz) env
noncomputable def qB:En->Res Fl:=fun env=>
 (aI (m7 (fC (gu (aC bB (ac (ag 11) (ac (ag 5) (ac (ag 6) (ac (ag 2) (ac (ag 3) ap)))))))) (b8 (vC (.bl false))) eF)
 qA) env
noncomputable def qC:En->Res Fl:=fun env=>
 (aI (m7 (vE (fC (gu (aC cf (ac (ag 11) (ac (ag 2) (ac (ag 3) ap)))))) (vE (vB (v2 tP (ag 9) (ag 5))) (vB (v2 tP (ag 10) (ag 6))))) (b8 (vC (.bl false))) eF)
 qB) env
noncomputable def lG:En->Res Fl:=fun env=>
 (aI (bw 11 (aC bP (ac (ag 4) (ac (ag 9) (ac (ag 10) ap)))))
 qC) env
noncomputable def qD:En->Res Fl:=fun env=>
 (aI (bw 10 (G1 (aB 6 (vC (.int 0))) (gf cA (ac (aB 6 (vC (.int 1))) ap)) (gf cA (ac (aB 6 (vC (.int 2))) ap))))
 lG) env
noncomputable def iB:En->Res Fl:=fun env=>
 (aI (bw 9 (G1 (aB 5 (vC (.int 0))) (gf cA (ac (aB 5 (vC (.int 1))) ap)) (gf cA (ac (aB 5 (vC (.int 2))) ap))))
 qD) env
noncomputable def lH:En->Res Fl:=fun env=>
 (aI (m7 (vB (v2 rV (v2 cP (ag 7) (vC (.int 5))) (vC (.int 1)))) (m7 (vB (v2 rV (v2 cP (v2 fG (ag 7) (vC (.int 5))) (vC (.int 2))) (vC (.int 0)))) (m7 (fC (gu (aC aW (ac (ag 4) (ac (dt (ac (aB 5 (vC (.int 0))) (ac (gf ja (ac (v2 bT (aB 5 (vC (.int 1))) (gv (ac (ag 8) ap))) ap)) (ac (gf cA (ac (aB 5 (vC (.int 2))) ap)) ap)))) (ac (ag 6) ap)))))) (b8 (vC (.bl false))) eF) (m7 (fC (gu (aC aW (ac (ag 4) (ac (ag 5) (ac (dt (ac (aB 6 (vC (.int 0))) (ac (gf ja (ac (v2 bT (aB 6 (vC (.int 1))) (gv (ac (ag 8) ap))) ap)) (ac (gf cA (ac (aB 6 (vC (.int 2))) ap)) ap)))) ap)))))) (b8 (vC (.bl false))) eF)) eF)
 iB) env
noncomputable def uy:En->Res Fl:=fun env=>
 (aI (bw 8 (dt (ac (v2 cP (v2 fG (ag 7) (vC (.int 10))) (ag 2)) (ac (v2 cP (v2 fG (ag 7) (vC (.int 30))) (ag 3)) (ac (v2 cP (v2 fG (ag 7) (vC (.int 90))) (ag 2)) ap)))))
 lH) env
noncomputable def oE:En->Res Fl:=fun env=>
 (aI (jA 7 (aC ay (ac (ag 0) (ac (vC (.int 3)) ap))))
 uy) env
noncomputable def uz:En->Res Fl:=fun env=>
 (aI (m7 (vB (v2 rV (v2 cP (v2 fG (ag 1) (vC (.int 9))) (vC (.int 8))) (vC (.int 3)))) (aI (jA 5 (aC dj (ac (ag 5) (ac (v2 cP (v2 fG (ag 1) (vC (.int 72))) (ag 2)) (ac (v2 fG (ag 1) (vC (.int 216))) (ac (ag 3) ap))))))
 (jA 6 (aC dj (ac (ag 6) (ac (v2 cP (v2 fG (ag 1) (vC (.int 72))) (ag 2)) (ac (v2 fG (ag 1) (vC (.int 5003))) (ac (ag 3) ap))))))) eF)
 oE) env
noncomputable def uA:En->Res Fl:=fun env=>
 (aI (jA 6 (aC bO (ac (jY (ag 0) (jw (vC (.int 5))) (jw (vC (.int 64))) (jw (vC (.int 2)))) (ac (aC ay (ac (ag 0) (ac (vC (.int 2)) ap))) (ac (ag 2) (ac (ag 3) ap))))))
 uz) env
noncomputable def oF:En->Res Fl:=fun env=>
 (aI (jA 5 (aC bO (ac (jY (ag 0) (jw (vC (.int 4))) (jw (vC (.int 64))) (jw (vC (.int 2)))) (ac (aC ay (ac (ag 0) (ac (vC (.int 1)) ap))) (ac (ag 2) (ac (ag 3) ap))))))
 uA) env
noncomputable def uB:En->Res Fl:=fun env=>
 (aI (bw 4 (dt (ac (ag 2) (ac (ag 3) (ac (gv ap) ap)))))
 oF) env
noncomputable def uC:En->Res Fl:=fun env=>
 (aI (bw 3 (v2 bT (vC (.int 1)) (v2 cP (v2 fG (ag 1) (vC (.int 3))) (vC (.int 3)))))
 uB) env
noncomputable def uD:En->Res Fl:=fun env=>
 (aI (bw 2 (v2 bT (vC (.int 1)) (v2 cP (ag 1) (vC (.int 3)))))
 uC) env
noncomputable def CZ:En->Res Fl:=
 (aI (jA 1 (aC ay (ac (ag 0) (ac (vC (.int 0)) ap))))
 uD)
noncomputable def qE:List D->Res R:=dE CY CZ
set_option genInjectivity false in
structure Tx (K:Ou) (mg:Str->Option Ow) where
 f_a:Addr
 fd_a:FuncData
 h_a:Fn K mg "_law_cell_at" s__law_cell_at P__law_cell_at f_a fd_a
 f_b:Addr
 fd_b:FuncData
 h_b:Fn K mg "_law_arrow" s__law_arrow P__law_arrow f_b fd_b
 f_c:Addr
 fd_c:FuncData
 h_c:Fn K mg "_law_drawn" s__law_drawn P__law_drawn f_c fd_c
 f_d:Addr
 fd_d:FuncData
 h_d:Fn K mg "_law_far" s__law_far P__law_far f_d fd_d
 f_e:Addr
 fd_e:FuncData
 h_e:Fn K mg "is_plain" s_is_plain P_is_plain f_e fd_e
 f_f:Addr
 fd_f:FuncData
 h_f:Fn K mg "refuse_unless_plain" s_refuse_unless_plain P_refuse_unless_plain f_f fd_f
 f_g:Addr
 fd_g:FuncData
 h_g:Fn K mg "moved" s_moved P_moved f_g fd_g
 f_h:Addr
 fd_h:FuncData
 h_h:Fn K mg "formed" s_formed P_formed f_h fd_h
 f_i:Addr
 fd_i:FuncData
 h_i:Fn K mg "joining" s_joining P_joining f_i fd_i
 f_j:Addr
 fd_j:FuncData
 h_j:Fn K mg "_law_refused" s__law_refused P__law_refused f_j fd_j
 f_k:Addr
 fd_k:FuncData
 h_k:Fn K mg "_law_whole" s__law_whole P__law_whole f_k fd_k
 f_l:Addr
 fd_l:FuncData
 h_l:Fn K mg "_law_machine" s__law_machine P__law_machine f_l fd_l
 f_m:Addr
 fd_m:FuncData
 h_m:Fn K mg "_law_outs" s__law_outs P__law_outs f_m fd_m
 f_n:Addr
 fd_n:FuncData
 h_n:Fn K mg "_law_ended" s__law_ended P__law_ended f_n fd_n
 f_o:Addr
 fd_o:FuncData
 h_o:Fn K mg "_law_there" s__law_there P__law_there f_o fd_o
 f_p:Addr
 fd_p:FuncData
 h_p:Fn K mg "_law_together" s__law_together P__law_together f_p fd_p
 f_q:Addr
 fd_q:FuncData
 h_q:Fn K mg "law" s_law P_law f_q fd_q
 nb_all:mg "all"=none
 nb_any:mg "any"=none
 nb_bool:mg "bool"=none
 nb_int:mg "int"=none
 nb_isinstance:mg "isinstance"=none
 nb_len:mg "len"=none
 nb_list:mg "list"=none
 nb_range:mg "range"=none
 nb_set:mg "set"=none
 nb_sorted:mg "sorted"=none
 nb_tuple:mg "tuple"=none
 nb_zip:mg "zip"=none
 C_NotPlain:Addr
 x_NotPlain:XC K mg "NotPlain" C_NotPlain
 m_NotPlain_NotPlain:(mroK K C_NotPlain).contains (.ref C_NotPlain)=true
section
variable {P:Ov}{w:World}{K:Ou}{mg:Str->Option Ow}{base:Heap}
theorem lI (t:Tx K mg):yg K mg t.C_NotPlain ["NotPlain"]:=by
 intro c hc;simp only[Kj,Lc,MZ]at hc;rcases hc with rfl
 .exact⟨t.C_NotPlain,t.x_NotPlain,t.m_NotPlain_NotPlain⟩
theorem bY (t:Tx K mg):FnOk P w K mg base (iH P w) 1 t.f_a t.fd_a P__law_cell_at (kW mg 2 ay):=
 cE t.h_a.fu jI fun cdv A outer s H E hr=>
  have hu:=hr.units
  (ah (bC (bv (jt) (qv 1) (bG n_ (by rfl) t.nb_len (by decide +kernel) (aa (qv 0) ai)) (bu _)) (ak (az (aw bp (aw rU (aw aX (aw aX (aw bp (rY (pv 0) (qv 1) (fun _ _=>rfl)) aq) aq) (aw rU (qv 1) (qv 1))) aq) aq))) aR)
    (ak (az aq)))
theorem mw (t:Tx K mg):FnOk P w K mg base (iH P w) 1 t.f_b t.fd_b P__law_arrow (kW mg 4 cT):=
 cE t.h_b.fu sc__law_arrow fun cdv A outer s H E hr=>
  have hu:=hr.units
  (ah (aE sc__law_arrow.nd rfl (.inl rfl) (aw bp (aw rU (aw aX (aw bp (qv 0) aq) aq) aq) aq))
    (ah (aE sc__law_arrow.nd rfl (.inl rfl) (aw bp (qv 0) (aw aX (qv 1) (qv 2))))
    (ah (aE sc__law_arrow.nd rfl (.inl rfl) (aw b_ (qv 0) (aw aX (qv 1) (qv 2))))
    (ah (aE sc__law_arrow.nd rfl (.inl rfl) (aw bp (qv 0) (qv 3)))
    (ah (aE sc__law_arrow.nd rfl (.inl rfl) (aw b_ (qv 0) (qv 3)))
    (ak (az (b6 (aa (qv 4) (aa (qv 5) (aa (aw aX (qv 1) (aw bp (qv 0) (qv 2))) ai)))))))))))
theorem gE (t:Tx K mg):FnOk P w K mg base (iH P w) 2 t.f_c t.fd_c P__law_drawn (kW mg 4 bO):=
 cE t.h_c.fu sc__law_drawn fun cdv A outer s H E hr=>
  have hu:=hr.units
  (ah (aE sc__law_drawn.nd rfl (.inr rfl) (aw bp (qv 1) aq))
    (ah (aE sc__law_drawn.nd rfl (.inl rfl) (gH ai))
    (ah (bC (bv (GG) (qv 4) aq (bu _)) (ak (fK rfl (CScope.of (osc:=defScope s__law_drawn) (N:=cU) (tN:=["_law_cell"]) (capN:=["_law_rooms", "_law_signs", "_law_own"]) (caps:=[2,3,4]) rfl rfl (by decide +kernel)) sc__law_drawn.nd rfl rfl (cw (qv 0)) (by decide) (fun cl C s3 H3 fp=>(aM jf rfl (.inl rfl))) (fun cl C s3 H3 fp=>cD) (fun cl C s3 H3 fp=>(au (mw t) (hr.mono (by decide)) (by rfl) t.h_b m_ (aa (qv 0) (aa (qv 1) (aa (qv 3) (aa (qv 2) ai)))) (af (af (af (af ar)))))))) aR)
    (ah (aE sc__law_drawn.nd rfl (.inr rfl) (aw b_ (qv 1) aq))
    (ah (fK rfl (CScope.of (osc:=defScope s__law_drawn) (N:=cU) (tN:=["_law_state"]) (capN:=["_law_bits"]) (caps:=[6]) rfl rfl (by decide +kernel)) sc__law_drawn.nd rfl rfl (eG (by rfl) t.nb_range (aa (aw aX (qv 2) (qv 4)) ai)) (by decide) (fun cl C s3 H3 fp=>(aM jg rfl (.inl rfl))) (fun cl C s3 H3 fp=>(x9 (bv (kU hu) (aw Bd (aw Eo (qv 1) (qv 0)) aq) aq (bu _)))) (fun cl C s3 H3 fp=>(qv 0)))
    (ak (az (b6 (aa (aw aX (qv 2) (qv 4)) (aa (dG (by rfl) hu (qv 5) (by rfl) t.nb_sorted (by decide +kernel) (by rfl) t.nb_set (by decide +kernel)) (aa (qv 7) ai)))))))))))
theorem jE (t:Tx K mg):FnOk P w K mg base (iH P w) 1 t.f_d t.fd_d P__law_far (kW mg 4 dj):=
 cE t.h_d.fu sc__law_far fun cdv A outer s H E hr=>
  have hu:=hr.units
  (ah (aE sc__law_far.nd rfl (.inl rfl) (bM eB (by rfl) t.nb_list (by decide +kernel) (aa (av (pv 0)) ai)))
    (ah (aE sc__law_far.nd rfl (.inl rfl) (qv 1))
    (ah (gg o_ rfl (eG (by rfl) t.nb_range (aa (aw aX aq (aw bp (qv 2) aq)) ai)) (aM sc__law_far.nd rfl (.inl rfl)) (ah (tS (pv 4) (b6 (aa (qv 5) (aa (aw bp (aw b_ (qv 2) (aw aX (qv 6) aq)) (qv 3)) (aa (aw aX (av (pv 0)) (qv 6)) ai)))))
    (ak (aE sc__law_far.nd rfl (.inl rfl) (aw aX (av (pv 0)) (qv 6))))))
    (ak (az (b6 (aa (aw aX (qv 5) aq) (aa (bG fT (by rfl) t.nb_sorted (by decide +kernel) (aa (qv 4) ai)) (aa (aw aX (av (pv 0)) (gH (aa (qv 5) ai))) ai)))))))))
theorem qG (t:Tx K mg):FnOk P w K mg base (iH P w) 1 t.f_e t.fd_e P_is_plain (kW mg 2 eQ):=
 cE t.h_e.fu qu fun cdv A outer s H E hr=>
  have hu:=hr.units
  (ak (az (bG (yf (by rfl)) (by rfl) t.nb_all (by decide +kernel) (aa (jU rfl (CScope.of (osc:=defScope s_is_plain) (N:=gM) (tN:=["arrow"]) (capN:=["house"]) (caps:=[0]) rfl rfl (by decide +kernel)) (cw (av (pv 1))) (by decide) (fun cl C s3 H3 fp=>(aM lE rfl (.inl rfl))) (fun cl C s3 H3 fp=>cD) (fun cl C s3 H3 fp=>(kQ (GH) (av (pv 0)) (av (pv 1)) (bu _)))) ai))))
theorem cm (t:Tx K mg):FnOk P w K mg base (iH P w) 2 t.f_f t.fd_f P_refuse_unless_plain (kW mg 2 aG):=
 cE t.h_f.fu eR fun cdv A outer s H E hr=>
  have hu:=hr.units
  (ak (bC (bo (cK (au (qG t) (hr.mono (by decide)) (by rfl) t.h_e aD (aa (qv 0) (aa (qv 1) ai)) (af (af ar))))) (ak (vQ t.x_NotPlain (by rfl) (aa D8 ai))) aR))
theorem lJ (t:Tx K mg):FnOk P w K mg base (iH P w) 1 t.f_g t.fd_g P_moved (kW mg 3 eS):=
 cE t.h_g.fu zI fun cdv A outer s H E hr=>
  have hu:=hr.units
  (ak (az (GK (bv (jt) (qv 1) (av (pv 0)) (bu _)) (qv 1) (aw aX (qv 1) (qv 2)))))
theorem wc (t:Tx K mg):FnOk P w K mg base (iH P w) 1 t.f_h t.fd_h P_formed (kW mg 3 ip):=
 cE t.h_h.fu wb fun cdv A outer s H E hr=>
  have hu:=hr.units
  (ak (az (b6 (aa (qv 0) (aa (dG (by rfl) hu (qv 1) (by rfl) t.nb_sorted (by decide +kernel) (by rfl) t.nb_set (by decide +kernel)) (aa (gD (by rfl) (qv 2) (by rfl) t.nb_sorted (by decide +kernel) (by rfl) t.nb_set (by decide +kernel)) ai))))))
theorem gP (t:Tx K mg):FnOk P w K mg base (iH P w) 3 t.f_i t.fd_i P_joining (kW mg 3 bP):=
 cE t.h_i.fu sc_joining fun cdv A outer s H E hr=>
  have hu:=hr.units
  (ah (qh (au (cm t) (hr.mono (by decide)) (by rfl) t.h_f aD (aa (qv 0) (aa (qv 1) ai)) (af (af ar))))
    (ah (qh (au (cm t) (hr.mono (by decide)) (by rfl) t.h_f aD (aa (qv 0) (aa (qv 2) ai)) (af (af ar))))
    (ah (aE sc_joining.nd rfl (.inr rfl) (aw D_ (av (pv 1)) (av (pv 0))))
    (ah (fK rfl (CScope.of (osc:=defScope s_joining) (N:=gn) (tN:=["start", "sign", "to"]) (capN:=["house", "places"]) (caps:=[0,3]) rfl rfl (by decide +kernel)) sc_joining.nd rfl rfl (cw (av (pv 2))) (by decide) (fun cl C s3 H3 fp=>(tU rfl (dQ (aM dH rfl (.inl rfl)) (dQ (aM dH rfl (.inl rfl)) (dQ (aM dH rfl (.inl rfl)) pS (fun _ a _ b=>cy a b)) (fun _ a _ b=>cy a b)) (fun _ a _ b=>cy a b)))) (fun cl C s3 H3 fp=>cD) (fun cl C s3 H3 fp=>(b6 (aa (au (lJ t) (hr.mono (by decide)) (by rfl) t.h_g m_ (aa (qv 3) (aa (qv 0) (aa (qv 4) ai))) (af (af (af ar)))) (aa (qv 1) (aa (au (lJ t) (hr.mono (by decide)) (by rfl) t.h_g m_ (aa (qv 3) (aa (qv 2) (aa (qv 4) ai))) (af (af (af ar)))) ai))))))
    (ah (fK rfl (CScope.of (osc:=defScope s_joining) (N:=gn) (tN:=["end"]) (capN:=["house", "places"]) (caps:=[0,3]) rfl rfl (by decide +kernel)) sc_joining.nd rfl rfl (cw (av (pv 2))) (by decide) (fun cl C s3 H3 fp=>(aM ml rfl (.inl rfl))) (fun cl C s3 H3 fp=>cD) (fun cl C s3 H3 fp=>(au (lJ t) (hr.mono (by decide)) (by rfl) t.h_g m_ (aa (qv 1) (aa (qv 0) (aa (qv 2) ai))) (af (af (af ar))))))
    (ak (az (au (wc t) (hr.mono (by decide)) (by rfl) t.h_h aD (aa (aw aX (av (pv 2)) (qv 3)) (aa (aw aX (av (pv 1)) (qv 4)) (aa (aw aX (av (pv 1)) (qv 5)) ai))) (af (af (af ar)))))))))))
theorem fA (t:Tx K mg):FnOk P w K mg base (iH P w) 4 t.f_j t.fd_j P__law_refused (kW mg 3 aW):=
 cE t.h_j.fu sc__law_refused fun cdv A outer s H E hr=>
  have hu:=hr.units
  (ah (aE sc__law_refused.nd rfl (.inl rfl) cL)
    (ah (yh rfl rfl t.x_NotPlain (by rfl) (lI t) (gP t) (hr.mono (by decide)) (by rfl) t.h_i.gl t.h_i.fu.kp t.h_i.bi (aa (qv 0) (aa (qv 1) (aa (qv 2) ai))) (af (af (af ar))) (fun _=>(ak (aE sc__law_refused.nd rfl (.inl rfl) cL))))
    (ak (az (qv 3)))))
theorem dI (t:Tx K mg):FnOk P w K mg base (iH P w) 1 t.f_k t.fd_k P__law_whole (kW mg 1 bQ):=
 cE t.h_k.fu mn fun cdv A outer s H E hr=>
  have hu:=hr.units
  (ak (az (rX (iY yc (by rfl) t.nb_isinstance (by rfl) t.nb_int (by decide +kernel) (qv 0)) (rW (Ed (iY vM (by rfl) t.nb_isinstance (by rfl) t.nb_bool (by decide +kernel) (qv 0)))))))
theorem jJ (t:Tx K mg):FnOk P w K mg base (iH P w) 2 t.f_l t.fd_l P__law_machine (kW mg 3 cf):=
 cE t.h_l.fu sc__law_machine fun cdv A outer s H E hr=>
  have hu:=hr.units
  (ah (bC (PWD.pt (c_ (bo (cK (iY k9 (by rfl) t.nb_isinstance (by rfl) t.nb_tuple (by decide +kernel) (qv 0)))) (c_ (bv (m5 hu) (bG n_ (by rfl) t.nb_len (by decide +kernel) (aa (qv 0) ai)) aq (bu _)) (c_ (bo (cK (au (dI t) (hr.mono (by decide)) (by rfl) t.h_k aD (aa (av (pv 0)) ai) (af ar)))) (gd (bv (jt) (av (pv 0)) (qv 1) (bu _))))))) (ak (az cL)) aR)
    (ah (bC (PWD.pt (c_ (bo (cK (iY m9 (by rfl) t.nb_isinstance (by rfl) t.nb_list (by decide +kernel) (av (pv 0))))) (gd (bo (cK (iY m9 (by rfl) t.nb_isinstance (by rfl) t.nb_list (by decide +kernel) (av (pv 0)))))))) (ak (az cL)) aR)
    (ah (gg o_ rfl (cw (av (pv 0))) (aM sc__law_machine.nd rfl (.inl rfl)) (ah (bC (PWD.pt (c_ (bo (cK (iY k9 (by rfl) t.nb_isinstance (by rfl) t.nb_tuple (by decide +kernel) (qv 3)))) (c_ (bv (m5 hu) (bG n_ (by rfl) t.nb_len (by decide +kernel) (aa (qv 3) ai)) aq (bu _)) (gd (bo (cK (bG (yf (by rfl)) (by rfl) t.nb_all (by decide +kernel) (aa (jU rfl (CScope.of (osc:=defScope s__law_machine) (N:=dk) (tN:=["_law_part"]) (capN:=[]) (caps:=[]) rfl rfl (by decide +kernel)) (cw (qv 3)) (by decide) (fun cl C s3 H3 fp=>(aM gO rfl (.inl rfl))) (fun cl C s3 H3 fp=>cD) (fun cl C s3 H3 fp=>(au (dI t) (hr.mono (by decide)) (by rfl) t.h_k m_ (aa (qv 0) ai) (af ar)))) ai)))))))) (ak (az cL)) aR)
    (ak (bC (PWD.pt (c_ (bo (gh (tO) (jt) aq (av (pv 3)) (av (pv 0)))) (c_ (bo (gh (tO) (jt) aq (av (pv 3)) (qv 2))) (gd (bo (gh (tO) (jt) (qv 1) (av (pv 3)) (av (pv 0)))))))) (ak (az cL)) aR))))
    (ah (gg o_ rfl (cw (av (pv 0))) (aM sc__law_machine.nd rfl (.inl rfl)) (ak (bC (PWD.pt (c_ (bo (cK (au (dI t) (hr.mono (by decide)) (by rfl) t.h_k aD (aa (qv 4) ai) (af ar)))) (gd (bo (gh (tO) (jt) aq (qv 4) (av (pv 0))))))) (ak (az cL)) aR)))
    (ah (bC (bv (m5 hu) (av (pv 0)) (dG (by rfl) hu (av (pv 0)) (by rfl) t.nb_sorted (by decide +kernel) (by rfl) t.nb_set (by decide +kernel)) (bu _)) (ak (az cL)) aR)
    (ak (az (kQ (kU hu) (av (pv 0)) (gD (by rfl) (av (pv 0)) (by rfl) t.nb_sorted (by decide +kernel) (by rfl) t.nb_set (by decide +kernel)) (bu _)))))))))
theorem e_ (t:Tx K mg):FnOk P w K mg base (iH P w) 1 t.f_m t.fd_m P__law_outs (kW mg 1 bd):=
 cE t.h_m.fu sc__law_outs fun cdv A outer s H E hr=>
  have hu:=hr.units
  (ah (aE sc__law_outs.nd rfl (.inl rfl) tY)
    (ah (Bl o_ rfl (av (pv 0)) (wu rfl (cy (jM sc__law_outs.nd rfl (.inl rfl)) (cy (jM sc__law_outs.nd rfl (.inl rfl)) (cy (jM sc__law_outs.nd rfl (.inl rfl)) sV)))) (sU (jL (wI Ny PySem.F.slot_list_append PySem.F.type_list_append iM (wI PySem.F.plainAttrs_dict NV PySem.F.type_dict_setdefault (xx hu) (pv 1) (bh (ri (bh (pv 2) (bh (pv 3) cI))) (bh (wG cI) cI))) (bh (pv 4) cI)))))
    (ak (az (qv 1)))))
theorem dJ (t:Tx K mg):FnOk P w K mg base (iH P w) 1 t.f_n t.fd_n P__law_ended (kW mg 2 aH):=
 cE t.h_n.fu mq fun cdv A outer s H E hr=>
  have hu:=hr.units
  (ak (az (bG (Ep (by rfl)) (by rfl) t.nb_any (by decide +kernel) (aa (jU rfl (CScope.of (osc:=defScope s__law_ended) (N:=eU) (tN:=["_law_state"]) (capN:=["_law_machine_here"]) (caps:=[0]) rfl rfl (by decide +kernel)) (cw (qv 1)) (by decide) (fun cl C s3 H3 fp=>(aM jh rfl (.inl rfl))) (fun cl C s3 H3 fp=>cD) (fun cl C s3 H3 fp=>(kQ (GU hu) (qv 0) (av (pv 1)) (by rfl)))) ai))))
theorem mx (t:Tx K mg):FnOk P w K mg base (iH P w) 1 t.f_o t.fd_o P__law_there (kW mg 3 cj):=
 cE t.h_o.fu sc__law_there fun cdv A outer s H E hr=>
  have hu:=hr.units
  (ah (aE sc__law_there.nd rfl (.inl rfl) tY)
    (ah (gg o_ rfl (cw (qv 1)) (aM sc__law_there.nd rfl (.inl rfl)) (ak (gg o_ rfl (cw (Bf hu (qv 0) (b6 (aa (qv 4) (aa (qv 2) ai))) (gH ai) ⟨rfl,rfl,rfl,rfl⟩)) (aM sc__law_there.nd rfl (.inl rfl)) (ak (Bc hu (pv 3) (qv 5) cL)))))
    (ak (az (bM pY (by rfl) t.nb_tuple (by decide +kernel) (aa (bG (sA (by rfl)) (by rfl) t.nb_sorted (by decide +kernel) (aa (qv 3) ai)) ai))))))
theorem dZ (t:Tx K mg):FnOk P w K mg base (iH P w) 2 t.f_p t.fd_p P__law_together (kW mg 5 bB):=
 cE t.h_p.fu sc__law_together fun cdv A outer s H E hr=>
  have hu:=hr.units
  (ah (aE sc__law_together.nd rfl (.inl rfl) (gH (aa (au (e_ t) (hr.mono (by decide)) (by rfl) t.h_m aD (aa (qv 0) ai) (af ar)) (aa (au (e_ t) (hr.mono (by decide)) (by rfl) t.h_m aD (aa (qv 1) ai) (af ar)) (aa (au (e_ t) (hr.mono (by decide)) (by rfl) t.h_m aD (aa (qv 2) ai) (af ar)) ai)))))
    (ah (fK rfl (CScope.of (osc:=defScope s__law_together) (N:=bA) (tN:=["_law_room"]) (capN:=[]) (caps:=[]) rfl rfl (by decide +kernel)) sc__law_together.nd rfl rfl (eG (by rfl) t.nb_range (aa (qv 3) ai)) (by decide) (fun cl C s3 H3 fp=>(aM gx rfl (.inl rfl))) (fun cl C s3 H3 fp=>cD) (fun cl C s3 H3 fp=>(b6 (aa (b6 (aa (qv 0) ai)) (aa (b6 (aa (qv 0) ai)) (aa (b6 (aa (qv 0) ai)) ai))))))
    (ah (yF sc__law_together.nd rfl (.inl rfl))
    (ah (aE sc__law_together.nd rfl (.inl rfl) aq)
    (ah (vR 100000 o_ (bv (jt) (qv 8) (bG n_ (by rfl) t.nb_len (by decide +kernel) (aa (qv 6) ai)) (bu _)) (ah (aE sc__law_together.nd rfl (.inl rfl) (rY (pv 6) (qv 8) (fun _ _=>rfl)))
    (ah (Bm sc__law_together.nd rfl (.inl rfl) aq)
    (ah (bC (EB hu (qv 9) (pv 7) (by rfl)) (ak oj) aR)
    (ah (yH hu (pv 7) (qv 9) cL)
    (ah (bC (bv (m5 hu) (au (dJ t) (hr.mono (by decide)) (by rfl) t.h_n aD (aa (qv 0) (aa (av (pv 9)) ai)) (af (af ar))) (GJ (au (dJ t) (hr.mono (by decide)) (by rfl) t.h_n aD (aa (qv 1) (aa (av (pv 9)) ai)) (af (af ar))) (rW (au (dJ t) (hr.mono (by decide)) (by rfl) t.h_n aD (aa (qv 2) (aa (av (pv 9)) ai)) (af (af ar))))) (bu _)) (ak (az cL)) aR)
    (ak (gg o_ rfl (eG (by rfl) t.nb_range (aa (qv 4) ai)) (aM sc__law_together.nd rfl (.inr rfl)) (ak (tS (pv 6) (bM pY (by rfl) t.nb_tuple (by decide +kernel) (aa (jU rfl (CScope.of (osc:=defScope s__law_together) (N:=bA) (tN:=["_law_web", "_law_here"]) (capN:=["_law_sign"]) (caps:=[10]) rfl rfl (by decide +kernel)) (yA (by rfl) t.nb_zip (aa (qv 5) (aa (qv 9) ai))) (by decide) (fun cl C s3 H3 fp=>(tU rfl (dQ (aM cN rfl (.inl rfl)) (dQ (aM cN rfl (.inl rfl)) pS (fun _ a _ b=>cy a b)) (fun _ a _ b=>cy a b)))) (fun cl C s3 H3 fp=>cD) (fun cl C s3 H3 fp=>(au (mx t) (hr.mono (by decide)) (by rfl) t.h_o m_ (aa (qv 0) (aa (qv 1) (aa (qv 2) ai))) (af (af (af ar)))))) ai))))))))))))
    (ak (az cL)))))))
theorem Fu (t:Tx K mg):FnOk P w K mg base (iH P w) 5 t.f_q t.fd_q P_law (kW mg 1 qE):=
 cE t.h_q.fu sc_law fun cdv A outer s H E hr=>
  have hu:=hr.units
  (ah (dU sc_law.nd rfl (.inl rfl) (au (bY t) (hr.mono (by decide)) (by rfl) t.h_a aD (aa (qv 0) (aa aq ai)) (af (af ar))))
    (ah (aE sc_law.nd rfl (.inl rfl) (aw aX aq (aw bp (qv 1) aq)))
    (ah (aE sc_law.nd rfl (.inl rfl) (aw aX aq (aw bp (aw b_ (qv 1) aq) aq)))
    (ah (aE sc_law.nd rfl (.inl rfl) (b6 (aa (qv 2) (aa (qv 3) (aa (gH ai) ai)))))
    (ah (dU sc_law.nd rfl (.inl rfl) (au (gE t) (hr.mono (by decide)) (by rfl) t.h_c aD (aa (nt (qv 0) (dR aq) (dR aq) (dR aq)) (aa (au (bY t) (hr.mono (by decide)) (by rfl) t.h_a aD (aa (qv 0) (aa aq ai)) (af (af ar))) (aa (qv 2) (aa (qv 3) ai)))) (af (af (af (af ar))))))
    (ah (dU sc_law.nd rfl (.inl rfl) (au (gE t) (hr.mono (by decide)) (by rfl) t.h_c aD (aa (nt (qv 0) (dR aq) (dR aq) (dR aq)) (aa (au (bY t) (hr.mono (by decide)) (by rfl) t.h_a aD (aa (qv 0) (aa aq ai)) (af (af ar))) (aa (qv 2) (aa (qv 3) ai)))) (af (af (af (af ar))))))
    (ah (bC (bv (kU hu) (aw bp (aw b_ (qv 1) aq) aq) aq (bu _)) (ah (dU sc_law.nd rfl (.inl rfl) (au (jE t) (hr.mono (by decide)) (by rfl) t.h_d aD (aa (qv 5) (aa (aw bp (aw b_ (qv 1) aq) (qv 2)) (aa (aw b_ (qv 1) aq) (aa (qv 3) ai)))) (af (af (af (af ar))))))
    (ak (dU sc_law.nd rfl (.inl rfl) (au (jE t) (hr.mono (by decide)) (by rfl) t.h_d aD (aa (qv 6) (aa (aw bp (aw b_ (qv 1) aq) (qv 2)) (aa (aw b_ (qv 1) aq) (aa (qv 3) ai)))) (af (af (af (af ar)))))))) aR)
    (ah (dU sc_law.nd rfl (.inl rfl) (au (bY t) (hr.mono (by decide)) (by rfl) t.h_a aD (aa (qv 0) (aa aq ai)) (af (af ar))))
    (ah (aE sc_law.nd rfl (.inl rfl) (b6 (aa (aw bp (aw b_ (qv 7) aq) (qv 2)) (aa (aw bp (aw b_ (qv 7) aq) (qv 3)) (aa (aw bp (aw b_ (qv 7) aq) (qv 2)) ai)))))
    (ah (bC (bv (kU hu) (aw bp (qv 7) aq) aq (bu _)) (ak (bC (bv (kU hu) (aw bp (aw b_ (qv 7) aq) aq) aq (bu _)) (ak (bC (bo (cK (au (fA t) (hr.mono (by decide)) (by rfl) t.h_j aD (aa (qv 4) (aa (b6 (aa (av (pv 5)) (aa (bG fT (by rfl) t.nb_sorted (by decide +kernel) (aa (aw aX (av (pv 5)) (gH (aa (qv 8) ai))) ai)) (aa (bM eB (by rfl) t.nb_list (by decide +kernel) (aa (av (pv 5)) ai)) ai)))) (aa (qv 6) ai))) (af (af (af ar)))))) (ak (az cL)) aR)) (ak (bC (bo (cK (au (fA t) (hr.mono (by decide)) (by rfl) t.h_j aD (aa (qv 4) (aa (qv 5) (aa (b6 (aa (av (pv 6)) (aa (bG fT (by rfl) t.nb_sorted (by decide +kernel) (aa (aw aX (av (pv 6)) (gH (aa (qv 8) ai))) ai)) (aa (bM eB (by rfl) t.nb_list (by decide +kernel) (aa (av (pv 6)) ai)) ai)))) ai))) (af (af (af ar)))))) (ak (az cL)) aR)))) aR)
    (ah (aE sc_law.nd rfl (.inl rfl) (CM (av (pv 5)) (bM eB (by rfl) t.nb_list (by decide +kernel) (aa (av (pv 5)) ai)) (bM eB (by rfl) t.nb_list (by decide +kernel) (aa (av (pv 5)) ai))))
    (ah (aE sc_law.nd rfl (.inl rfl) (CM (av (pv 6)) (bM eB (by rfl) t.nb_list (by decide +kernel) (aa (av (pv 6)) ai)) (bM eB (by rfl) t.nb_list (by decide +kernel) (aa (av (pv 6)) ai))))
    (ah (aE sc_law.nd rfl (.inl rfl) (au (gP t) (hr.mono (by decide)) (by rfl) t.h_i aD (aa (qv 4) (aa (qv 9) (aa (qv 10) ai))) (af (af (af ar)))))
    (ah (bC (PWD.pt (c_ (bo (cK (au (jJ t) (hr.mono (by decide)) (by rfl) t.h_l aD (aa (qv 11) (aa (qv 2) (aa (qv 3) ai))) (af (af (af ar)))))) (c_ (bv (m5 hu) (qv 9) (qv 5) (bu _)) (gd (bv (m5 hu) (qv 10) (qv 6) (bu _)))))) (ak (az cL)) aR)
    (ah (bC (bo (cK (au (dZ t) (hr.mono (by decide)) (by rfl) t.h_p aD (aa (qv 11) (aa (qv 5) (aa (qv 6) (aa (qv 2) (aa (qv 3) ai))))) (af (af (af (af (af ar)))))))) (ak (az cL)) aR)
    (ah (k_ (j:=1) (pv 11) (fun _ _=>rfl))
    (ah (k_ (j:=2) (pv 11) (fun _ _=>rfl))
    (ak (az (rX (kQ (kU hu) (qv 9) (qv 5) (bu _)) (rX (kQ (kU hu) (qv 10) (qv 6) (bu _)) (rW (au (dZ t) (hr.mono (by decide)) (by rfl) t.h_p aD (aa (au (gP t) (hr.mono (by decide)) (by rfl) t.h_i aD (aa (qv 4) (aa (qv 9) (aa (qv 9) ai))) (af (af (af ar)))) (aa (qv 5) (aa (qv 5) (aa (qv 2) (aa (qv 3) ai))))) (af (af (af (af (af ar))))))))))))))))))))))))))))
end
theorem JG {Q:List Ow->Prop}{us:List Ow}(hl:us.length=0)(h:Q []):Q us:=by
 cases us with
 |nil=>exact h
 |cons a r=>cases hl
theorem zJ {Q:List Ow->Prop}{us:List Ow}{n:Nat}(hl:us.length=n+1)(h:∀(a:Ow)(r:List Ow),r.length=n->Q (a::r)):Q us:=by
 cases us with
 |nil=>cases hl
 |cons a r=>exact h a r (Nat.succ.inj hl)
theorem B0 {Q:List Ow->Prop}{us:List Ow}(hl:us.length=1)(h:∀ a0:Ow,Q [a0]):Q us:=zJ hl fun a r q=>JG (Q:=fun r=>Q (a::r)) q (h a)
theorem zK {Q:List Ow->Prop}{us:List Ow}(hl:us.length=2)(h:∀ a0 a1:Ow,Q [a0,a1]):Q us:=zJ hl fun a r q=>B0 (Q:=fun r=>Q (a::r)) q (h a)
theorem sH {Q:List Ow->Prop}{us:List Ow}(hl:us.length=3)(h:∀ a0 a1 a2:Ow,Q [a0,a1,a2]):Q us:=zJ hl fun a r q=>zK (Q:=fun r=>Q (a::r)) q (h a)
theorem B5 {Q:List Ow->Prop}{us:List Ow}(hl:us.length=4)(h:∀ a0 a1 a2 a3:Ow,Q [a0,a1,a2,a3]):Q us:=zJ hl fun a r q=>sH (Q:=fun r=>Q (a::r)) q (h a)
theorem JI {Q:List Ow->Prop}{us:List Ow}(hl:us.length=5)(h:∀ a0 a1 a2 a3 a4:Ow,Q [a0,a1,a2,a3,a4]):Q us:=zJ hl fun a r q=>B5 (Q:=fun r=>Q (a::r)) q (h a)
theorem HX {K KK:Ou}{mg:Str->Option Ow}{h:Heap}(X:K.In h)(G:h.Ns mainGlobals mg)(U:SubK K KK)
 {f_a:Addr} {od_a an_a:Option Addr} {sl_a:Array (Option Ow)} {oc_a kV_a dc_a pm_a cd_a ct_a:Ow}
 (a_a:PySem.W.nsIn K mainGlobals "_law_cell_at"=some (some (.ref f_a))) (l_a:K.lookup f_a=some ⟨oc_a,od_a,.func (PySem.W.fnOf "_law_cell_at" "_law_cell_at" (defArgs s__law_cell_at) (defBody s__law_cell_at) (defScope s__law_cell_at) .none kV_a dc_a pm_a an_a cd_a ct_a),sl_a⟩) (c_a:PySem.W.codeIn K cd_a "_law_cell_at"=true)
 {f_b:Addr} {od_b an_b:Option Addr} {sl_b:Array (Option Ow)} {oc_b kV_b dc_b pm_b cd_b ct_b:Ow}
 (a_b:PySem.W.nsIn K mainGlobals "_law_arrow"=some (some (.ref f_b))) (l_b:K.lookup f_b=some ⟨oc_b,od_b,.func (PySem.W.fnOf "_law_arrow" "_law_arrow" (defArgs s__law_arrow) (defBody s__law_arrow) (defScope s__law_arrow) .none kV_b dc_b pm_b an_b cd_b ct_b),sl_b⟩) (c_b:PySem.W.codeIn K cd_b "_law_arrow"=true)
 {f_c:Addr} {od_c an_c:Option Addr} {sl_c:Array (Option Ow)} {oc_c kV_c dc_c pm_c cd_c ct_c:Ow}
 (a_c:PySem.W.nsIn K mainGlobals "_law_drawn"=some (some (.ref f_c))) (l_c:K.lookup f_c=some ⟨oc_c,od_c,.func (PySem.W.fnOf "_law_drawn" "_law_drawn" (defArgs s__law_drawn) (defBody s__law_drawn) (defScope s__law_drawn) .none kV_c dc_c pm_c an_c cd_c ct_c),sl_c⟩) (c_c:PySem.W.codeIn K cd_c "_law_drawn"=true)
 {f_d:Addr} {od_d an_d:Option Addr} {sl_d:Array (Option Ow)} {oc_d kV_d dc_d pm_d cd_d ct_d:Ow}
 (a_d:PySem.W.nsIn K mainGlobals "_law_far"=some (some (.ref f_d))) (l_d:K.lookup f_d=some ⟨oc_d,od_d,.func (PySem.W.fnOf "_law_far" "_law_far" (defArgs s__law_far) (defBody s__law_far) (defScope s__law_far) .none kV_d dc_d pm_d an_d cd_d ct_d),sl_d⟩) (c_d:PySem.W.codeIn K cd_d "_law_far"=true)
 {f_e:Addr} {od_e an_e:Option Addr} {sl_e:Array (Option Ow)} {oc_e kV_e dc_e pm_e cd_e ct_e:Ow}
 (a_e:PySem.W.nsIn K mainGlobals "is_plain"=some (some (.ref f_e))) (l_e:K.lookup f_e=some ⟨oc_e,od_e,.func (PySem.W.fnOf "is_plain" "is_plain" (defArgs s_is_plain) (defBody s_is_plain) (defScope s_is_plain) .none kV_e dc_e pm_e an_e cd_e ct_e),sl_e⟩) (c_e:PySem.W.codeIn K cd_e "is_plain"=true)
 {f_f:Addr} {od_f an_f:Option Addr} {sl_f:Array (Option Ow)} {oc_f kV_f dc_f pm_f cd_f ct_f:Ow}
 (a_f:PySem.W.nsIn K mainGlobals "refuse_unless_plain"=some (some (.ref f_f))) (l_f:K.lookup f_f=some ⟨oc_f,od_f,.func (PySem.W.fnOf "refuse_unless_plain" "refuse_unless_plain" (defArgs s_refuse_unless_plain) (defBody s_refuse_unless_plain) (defScope s_refuse_unless_plain) .none kV_f dc_f pm_f an_f cd_f ct_f),sl_f⟩) (c_f:PySem.W.codeIn K cd_f "refuse_unless_plain"=true)
 {f_g:Addr} {od_g an_g:Option Addr} {sl_g:Array (Option Ow)} {oc_g kV_g dc_g pm_g cd_g ct_g:Ow}
 (a_g:PySem.W.nsIn K mainGlobals "moved"=some (some (.ref f_g))) (l_g:K.lookup f_g=some ⟨oc_g,od_g,.func (PySem.W.fnOf "moved" "moved" (defArgs s_moved) (defBody s_moved) (defScope s_moved) .none kV_g dc_g pm_g an_g cd_g ct_g),sl_g⟩) (c_g:PySem.W.codeIn K cd_g "moved"=true)
 {f_h:Addr} {od_h an_h:Option Addr} {sl_h:Array (Option Ow)} {oc_h kV_h dc_h pm_h cd_h ct_h:Ow}
 (a_h:PySem.W.nsIn K mainGlobals "formed"=some (some (.ref f_h))) (l_h:K.lookup f_h=some ⟨oc_h,od_h,.func (PySem.W.fnOf "formed" "formed" (defArgs s_formed) (defBody s_formed) (defScope s_formed) .none kV_h dc_h pm_h an_h cd_h ct_h),sl_h⟩) (c_h:PySem.W.codeIn K cd_h "formed"=true)
 {f_i:Addr} {od_i an_i:Option Addr} {sl_i:Array (Option Ow)} {oc_i kV_i dc_i pm_i cd_i ct_i:Ow}
 (a_i:PySem.W.nsIn K mainGlobals "joining"=some (some (.ref f_i))) (l_i:K.lookup f_i=some ⟨oc_i,od_i,.func (PySem.W.fnOf "joining" "joining" (defArgs s_joining) (defBody s_joining) (defScope s_joining) .none kV_i dc_i pm_i an_i cd_i ct_i),sl_i⟩) (c_i:PySem.W.codeIn K cd_i "joining"=true)
 {f_j:Addr} {od_j an_j:Option Addr} {sl_j:Array (Option Ow)} {oc_j kV_j dc_j pm_j cd_j ct_j:Ow}
 (a_j:PySem.W.nsIn K mainGlobals "_law_refused"=some (some (.ref f_j))) (l_j:K.lookup f_j=some ⟨oc_j,od_j,.func (PySem.W.fnOf "_law_refused" "_law_refused" (defArgs s__law_refused) (defBody s__law_refused) (defScope s__law_refused) .none kV_j dc_j pm_j an_j cd_j ct_j),sl_j⟩) (c_j:PySem.W.codeIn K cd_j "_law_refused"=true)
 {f_k:Addr} {od_k an_k:Option Addr} {sl_k:Array (Option Ow)} {oc_k kV_k dc_k pm_k cd_k ct_k:Ow}
 (a_k:PySem.W.nsIn K mainGlobals "_law_whole"=some (some (.ref f_k))) (l_k:K.lookup f_k=some ⟨oc_k,od_k,.func (PySem.W.fnOf "_law_whole" "_law_whole" (defArgs s__law_whole) (defBody s__law_whole) (defScope s__law_whole) .none kV_k dc_k pm_k an_k cd_k ct_k),sl_k⟩) (c_k:PySem.W.codeIn K cd_k "_law_whole"=true)
 {f_l:Addr} {od_l an_l:Option Addr} {sl_l:Array (Option Ow)} {oc_l kV_l dc_l pm_l cd_l ct_l:Ow}
 (a_l:PySem.W.nsIn K mainGlobals "_law_machine"=some (some (.ref f_l))) (l_l:K.lookup f_l=some ⟨oc_l,od_l,.func (PySem.W.fnOf "_law_machine" "_law_machine" (defArgs s__law_machine) (defBody s__law_machine) (defScope s__law_machine) .none kV_l dc_l pm_l an_l cd_l ct_l),sl_l⟩) (c_l:PySem.W.codeIn K cd_l "_law_machine"=true)
 {f_m:Addr} {od_m an_m:Option Addr} {sl_m:Array (Option Ow)} {oc_m kV_m dc_m pm_m cd_m ct_m:Ow}
 (a_m:PySem.W.nsIn K mainGlobals "_law_outs"=some (some (.ref f_m))) (l_m:K.lookup f_m=some ⟨oc_m,od_m,.func (PySem.W.fnOf "_law_outs" "_law_outs" (defArgs s__law_outs) (defBody s__law_outs) (defScope s__law_outs) .none kV_m dc_m pm_m an_m cd_m ct_m),sl_m⟩) (c_m:PySem.W.codeIn K cd_m "_law_outs"=true)
 {f_n:Addr} {od_n an_n:Option Addr} {sl_n:Array (Option Ow)} {oc_n kV_n dc_n pm_n cd_n ct_n:Ow}
 (a_n:PySem.W.nsIn K mainGlobals "_law_ended"=some (some (.ref f_n))) (l_n:K.lookup f_n=some ⟨oc_n,od_n,.func (PySem.W.fnOf "_law_ended" "_law_ended" (defArgs s__law_ended) (defBody s__law_ended) (defScope s__law_ended) .none kV_n dc_n pm_n an_n cd_n ct_n),sl_n⟩) (c_n:PySem.W.codeIn K cd_n "_law_ended"=true)
 {f_o:Addr} {od_o an_o:Option Addr} {sl_o:Array (Option Ow)} {oc_o kV_o dc_o pm_o cd_o ct_o:Ow}
 (a_o:PySem.W.nsIn K mainGlobals "_law_there"=some (some (.ref f_o))) (l_o:K.lookup f_o=some ⟨oc_o,od_o,.func (PySem.W.fnOf "_law_there" "_law_there" (defArgs s__law_there) (defBody s__law_there) (defScope s__law_there) .none kV_o dc_o pm_o an_o cd_o ct_o),sl_o⟩) (c_o:PySem.W.codeIn K cd_o "_law_there"=true)
 {f_p:Addr} {od_p an_p:Option Addr} {sl_p:Array (Option Ow)} {oc_p kV_p dc_p pm_p cd_p ct_p:Ow}
 (a_p:PySem.W.nsIn K mainGlobals "_law_together"=some (some (.ref f_p))) (l_p:K.lookup f_p=some ⟨oc_p,od_p,.func (PySem.W.fnOf "_law_together" "_law_together" (defArgs s__law_together) (defBody s__law_together) (defScope s__law_together) .none kV_p dc_p pm_p an_p cd_p ct_p),sl_p⟩) (c_p:PySem.W.codeIn K cd_p "_law_together"=true)
 {f_q:Addr} {od_q an_q:Option Addr} {sl_q:Array (Option Ow)} {oc_q kV_q dc_q pm_q cd_q ct_q:Ow}
 (a_q:PySem.W.nsIn K mainGlobals "law"=some (some (.ref f_q))) (l_q:K.lookup f_q=some ⟨oc_q,od_q,.func (PySem.W.fnOf "law" "law" (defArgs s_law) (defBody s_law) (defScope s_law) .none kV_q dc_q pm_q an_q cd_q ct_q),sl_q⟩) (c_q:PySem.W.codeIn K cd_q "law"=true)
 (z_all:PySem.W.nsIn K mainGlobals "all"=some none)
 (z_any:PySem.W.nsIn K mainGlobals "any"=some none)
 (z_bool:PySem.W.nsIn K mainGlobals "bool"=some none)
 (z_int:PySem.W.nsIn K mainGlobals "int"=some none)
 (z_isinstance:PySem.W.nsIn K mainGlobals "isinstance"=some none)
 (z_len:PySem.W.nsIn K mainGlobals "len"=some none)
 (z_list:PySem.W.nsIn K mainGlobals "list"=some none)
 (z_range:PySem.W.nsIn K mainGlobals "range"=some none)
 (z_set:PySem.W.nsIn K mainGlobals "set"=some none)
 (z_sorted:PySem.W.nsIn K mainGlobals "sorted"=some none)
 (z_tuple:PySem.W.nsIn K mainGlobals "tuple"=some none)
 (z_zip:PySem.W.nsIn K mainGlobals "zip"=some none)
 {C_NotPlain:Addr} (b_NotPlain:PySem.W.nsIn K mainGlobals "NotPlain"=some (some (.ref C_NotPlain))) (e_NotPlain:PySem.W.excIn K C_NotPlain vMro "ValueError.__new__"=true)
 (m_NotPlain_NotPlain:(mroK K C_NotPlain).contains (.ref C_NotPlain)=true)
 : ∃ t:Tx KK mg,t.f_q=f_q:=
 ⟨⟨f_a,_,bH (st:=s__law_cell_at) (ps:=P__law_cell_at) U l_a c_a (Lp X G a_a) fun _ _ _ _ _ _ us hl=>zK (Q:=fun us=>bindArgs _ ⟨us,[]⟩=pure (List.zip P__law_cell_at us)) hl fun _ _=>rfl,
   f_b,_,bH (st:=s__law_arrow) (ps:=P__law_arrow) U l_b c_b (Lp X G a_b) fun _ _ _ _ _ _ us hl=>B5 (Q:=fun us=>bindArgs _ ⟨us,[]⟩=pure (List.zip P__law_arrow us)) hl fun _ _ _ _=>rfl,
   f_c,_,bH (st:=s__law_drawn) (ps:=P__law_drawn) U l_c c_c (Lp X G a_c) fun _ _ _ _ _ _ us hl=>B5 (Q:=fun us=>bindArgs _ ⟨us,[]⟩=pure (List.zip P__law_drawn us)) hl fun _ _ _ _=>rfl,
   f_d,_,bH (st:=s__law_far) (ps:=P__law_far) U l_d c_d (Lp X G a_d) fun _ _ _ _ _ _ us hl=>B5 (Q:=fun us=>bindArgs _ ⟨us,[]⟩=pure (List.zip P__law_far us)) hl fun _ _ _ _=>rfl,
   f_e,_,bH (st:=s_is_plain) (ps:=P_is_plain) U l_e c_e (Lp X G a_e) fun _ _ _ _ _ _ us hl=>zK (Q:=fun us=>bindArgs _ ⟨us,[]⟩=pure (List.zip P_is_plain us)) hl fun _ _=>rfl,
   f_f,_,bH (st:=s_refuse_unless_plain) (ps:=P_refuse_unless_plain) U l_f c_f (Lp X G a_f) fun _ _ _ _ _ _ us hl=>zK (Q:=fun us=>bindArgs _ ⟨us,[]⟩=pure (List.zip P_refuse_unless_plain us)) hl fun _ _=>rfl,
   f_g,_,bH (st:=s_moved) (ps:=P_moved) U l_g c_g (Lp X G a_g) fun _ _ _ _ _ _ us hl=>sH (Q:=fun us=>bindArgs _ ⟨us,[]⟩=pure (List.zip P_moved us)) hl fun _ _ _=>rfl,
   f_h,_,bH (st:=s_formed) (ps:=P_formed) U l_h c_h (Lp X G a_h) fun _ _ _ _ _ _ us hl=>sH (Q:=fun us=>bindArgs _ ⟨us,[]⟩=pure (List.zip P_formed us)) hl fun _ _ _=>rfl,
   f_i,_,bH (st:=s_joining) (ps:=P_joining) U l_i c_i (Lp X G a_i) fun _ _ _ _ _ _ us hl=>sH (Q:=fun us=>bindArgs _ ⟨us,[]⟩=pure (List.zip P_joining us)) hl fun _ _ _=>rfl,
   f_j,_,bH (st:=s__law_refused) (ps:=P__law_refused) U l_j c_j (Lp X G a_j) fun _ _ _ _ _ _ us hl=>sH (Q:=fun us=>bindArgs _ ⟨us,[]⟩=pure (List.zip P__law_refused us)) hl fun _ _ _=>rfl,
   f_k,_,bH (st:=s__law_whole) (ps:=P__law_whole) U l_k c_k (Lp X G a_k) fun _ _ _ _ _ _ us hl=>B0 (Q:=fun us=>bindArgs _ ⟨us,[]⟩=pure (List.zip P__law_whole us)) hl fun _=>rfl,
   f_l,_,bH (st:=s__law_machine) (ps:=P__law_machine) U l_l c_l (Lp X G a_l) fun _ _ _ _ _ _ us hl=>sH (Q:=fun us=>bindArgs _ ⟨us,[]⟩=pure (List.zip P__law_machine us)) hl fun _ _ _=>rfl,
   f_m,_,bH (st:=s__law_outs) (ps:=P__law_outs) U l_m c_m (Lp X G a_m) fun _ _ _ _ _ _ us hl=>B0 (Q:=fun us=>bindArgs _ ⟨us,[]⟩=pure (List.zip P__law_outs us)) hl fun _=>rfl,
   f_n,_,bH (st:=s__law_ended) (ps:=P__law_ended) U l_n c_n (Lp X G a_n) fun _ _ _ _ _ _ us hl=>zK (Q:=fun us=>bindArgs _ ⟨us,[]⟩=pure (List.zip P__law_ended us)) hl fun _ _=>rfl,
   f_o,_,bH (st:=s__law_there) (ps:=P__law_there) U l_o c_o (Lp X G a_o) fun _ _ _ _ _ _ us hl=>sH (Q:=fun us=>bindArgs _ ⟨us,[]⟩=pure (List.zip P__law_there us)) hl fun _ _ _=>rfl,
   f_p,_,bH (st:=s__law_together) (ps:=P__law_together) U l_p c_p (Lp X G a_p) fun _ _ _ _ _ _ us hl=>JI (Q:=fun us=>bindArgs _ ⟨us,[]⟩=pure (List.zip P__law_together us)) hl fun _ _ _ _ _=>rfl,
   f_q,_,bH (st:=s_law) (ps:=P_law) U l_q c_q (Lp X G a_q) fun _ _ _ _ _ _ us hl=>B0 (Q:=fun us=>bindArgs _ ⟨us,[]⟩=pure (List.zip P_law us)) hl fun _=>rfl,
   Lq X G z_all,
   Lq X G z_any,
   Lq X G z_bool,
   Lq X G z_int,
   Lq X G z_isinstance,
   Lq X G z_len,
   Lq X G z_list,
   Lq X G z_range,
   Lq X G z_set,
   Lq X G z_sorted,
   Lq X G z_tuple,
   Lq X G z_zip,
   C_NotPlain,⟨Lp X G b_NotPlain,(U.exc e_NotPlain).1⟩,
   (by rw[(U.exc e_NotPlain).2];exact m_NotPlain_NotPlain)⟩,rfl⟩
theorem Fv {l:PySem.W.OpenLaw} {w:World} {K:Ou} {mg:Str->Option Ow} {fa:Addr} (hfa:mg "law"=some (.ref fa)) (T:∃ t:Tx K mg,True) :
 ∃ fd:FuncData,(∀(s:Ot)(v:Ow),BindsTo s fd ⟨[v],[]⟩ [("_law_script",v)])/\∀ base:Heap,FnOk l.prog w K mg base (iH l.prog w) 5 fa fd ["_law_script"] (IH qE):=by
 obtain⟨t,_⟩:=T;have e:=hfa.symm.trans t.h_q.gl;cases e;obtain⟨oc,od,kV,doc,pm,an,cdv,ct,osl,efd,lk,hcd⟩:=t.h_q.fu.ex;exact⟨t.fd_q,fun s v=>by rw[efd];exact .of_eq rfl,fun base=>FnOk.top (Fu t)⟩
end W
namespace L3
open PySem L2
theorem qH (fa:En->Res R)(fl fh fs:En->Res (Option Int))(env:En):jY fa fl fh fs env=(fa env).bind fun r=>(fl env).bind fun lo=>(fh env).bind fun hi=>(fs env).bind fun st=>ic r lo hi st:=(rfl)
theorem uE (h:st≠some 0):ic (.val (.lst xs) f al) lo hi st=.ok (iU (bV xs lo hi st) f al):=Kh h
theorem uF (k1 k2:R->R->Res R)(fa fb fc:En->Res R)(env:En):gJ k1 k2 fa fb fc env=(fa env).bind fun ra=>(fb env).bind fun rb=>(k1 ra rb).bind (GV k2 fc env rb):=(rfl)
theorem zL:GV k2 fc env rb (.val (.bl true) f al)=(fc env).bind fun rc=>k2 rb rc:=(rfl)
theorem nz:∀ ks:List (List Int),ks.Pairwise (fun x y=>lexB x y=true)->bU ks=ks
 | [],_=>rfl
 |k::r,h=>by
  have h':=KS.mp h;unfold bU;rw[nz r h'.2];cases r with
  |nil=>rfl
  |cons a r=>
   have q:=h'.1 a KD;have n:¬ k=a:=fun e=>by rw[e,dz]at q;cases q
   show(if k=a then a::r else if lexB k a=true then k::a::r else a::lc k r)=_;rw[Kh n,Kf q]
theorem sI:∀ ks:List Int,ks.Pairwise (·< ·)->sortI ks=ks
 | [],_=>rfl
 |k::r,h=>b7 _ _ (df _) h fun x=>cY x _
end L3
namespace W
open PySem L2 L3
noncomputable abbrev vv (d:D)(f:Bool):Option Sl:=some (.val d f)
noncomputable abbrev ow (d:List D)(f:Bool):Option Sl:=some (.own d f)
noncomputable abbrev tt (d:D):Option Sl:=some (.tre d)
theorem j8 (ns:List Int)(k:Int)(h0:0<=k)(h1:-18446744073709551616<k)(h2:k<18446744073709551616):ay [.lst (ns.map .int),.int k]=.ok (.val (.int (cell ns k)) true []):=by
 by_cases h:k<ns.length
 .have hd:decide (k<(ns.length:Int))=true:=Kl h;obtain⟨a,ea,_⟩:=zH h0 h;have ha:atI (ns.map D.int) k=some (.int a):=by rw[uw,ea];rfl
  simp_arith[ay,di,Kg,hd,ha,h1,h2];unfold cell;rw[Kf h,ea];rfl
 .have hd:decide (k<(ns.length:Int))=false:=Kp h;simp_arith[ay,di,Kg,hd];unfold cell;rw[Kh h]
theorem HY (ns:List Int):ay [.lst (ns.map .int),.int 0]=.ok (.val (.int (cell ns 0)) true []):=j8 ns 0 (by decide) (by decide) (by decide)
theorem HZ (ns:List Int):ay [.lst (ns.map .int),.int 1]=.ok (.val (.int (cell ns 1)) true []):=j8 ns 1 (by decide) (by decide) (by decide)
theorem H_ (ns:List Int):ay [.lst (ns.map .int),.int 2]=.ok (.val (.int (cell ns 2)) true []):=j8 ns 2 (by decide) (by decide) (by decide)
theorem Ia (ns:List Int):ay [.lst (ns.map .int),.int 3]=.ok (.val (.int (cell ns 3)) true []):=j8 ns 3 (by decide) (by decide) (by decide)
noncomputable def tD (t:Tri):D:=.tup [.int t.1,.int t.2.1,.int t.2.2]
theorem gq (t:Tri):(tD t).flat=true:=(rfl)
theorem zM (t:Tri):(tD t).dep<=1:=Km _
noncomputable def dD (c n g own:Int):Tri:=
 let c:=(c % 2147483587+7)*16807 % 2147483587
 (c % n,c / n % g,n-own+c / n / g % own)
theorem zN (c r o g:Int)(h1:0<r)(h2:r<1000)(h0:0<o)(h5:o<1000)(h3:0<g)(h4:g<1000):cT [.int c,.int r,.int o,.int g]=.ok (.val (tD (dD c (r+o) g o)) true []):=by
 have a1:0<r+o:=by lia
 have a2:r+o<1073741824:=by lia
 have a3:g<1073741824:=by lia
 have a4:o<1073741824:=by lia
 simp_arith[cT,io,a1,a2,h3,a3,h0,a4];unfold dD tD;rw[Int.add_sub_cancel]
noncomputable def Mc (n:Int)(ts:List Tri)(es:List Int):D:=.tup [.int n,.lst (ts.map tD),.lst (es.map .int)]
theorem aL (n:Int)(ts:List Tri)(es:List Int):(Mc n ts es).flat=false:=by unfold Mc;simp only[fW,cq,fV,il,NW,MO]
noncomputable def zO:List Int->Tri
 | [a,b,c]=>(a,b,c)
 |_=>(0,0,0)
noncomputable def lK (t:Tri):List Int:=[t.1,t.2.1,t.2.2]
theorem uG (k:List Int):∀ l,(lc k l).length<=l.length+1
 | []=>by simp[lc]
 |h::t=>by
  have:=uG k t;unfold lc;split
  .simp
  .split<;>simp<;>lia
theorem qI:∀ ks,(bU ks).length<=ks.length
 | []=>Km _
 |k::r=>by have h1:=uG k (bU r);have h2:=qI r;unfold bU;simp only[K8];lia
noncomputable def arrsOf (ts:List Tri):List Tri:=(bU (ts.map lK)).map zO
theorem f7 (ts:List Tri):(arrsOf ts).length<=ts.length:=by have:=qI (ts.map lK);unfold arrsOf;rw[Kg];rw[Kg]at this;exact this
theorem uH (ts:List Tri):(bU (ts.map lK)).map jH=(arrsOf ts).map tD:=by unfold arrsOf;rw[KC];refine Lw fun k hk=>?_;obtain⟨t,_,rfl⟩:=Kq.mp ((cc k _).mp hk);rfl
theorem j9 (ts:List Tri)(h:ts.length<=300)(hr:r.d=.lst (ts.map tD)):sq r=.ok (.new ((arrsOf ts).map tD) true):=by
 have e:r.d=.lst ((ts.map lK).map jH):=by rw[hr,KC];rfl
 rw[Fi e (by rw[Kg];exact h) (by rw[N9,Lm];intro t _;rfl),uH]
theorem sJ {ro sg own:Int}{g1 g2 g4 fr:Bool}(h1:0<ro)(h2:ro<1000)(h3:0<sg)(h4:sg<1000)(h5:0<own)(h6:own<1000)(xs:List Int)(hl:xs.length<=1000000) :
 fU 1 [2,3,4] (gN 0) (fun _=>.ok true) bI [e0,e1,vv (.int ro) g1,vv (.int sg) g2,vv (.int own) g4,e5,e6,e7] ⟨xs.map .int,fr,[]⟩=.ok (.new ((xs.map fun c=>dD c (ro+own) sg own).map tD) true):=by
 have h:=bN (mk:=fun d=>gN 0 d fr (dv [e0,e1,vv (.int ro) g1,vv (.int sg) g2,vv (.int own) g4,e5,e6,e7] 1 [2,3,4])) (test:=fun _=>.ok true)
  (elt:=bI) D.int (fun c=>.val (tD (dD c (ro+own) sg own)) true []) xs fun c hc=>⟨_,rfl,rfl,by show bI [vv (.int c) fr,vv (.int ro) g1,vv (.int sg) g2,vv (.int own) g4]=_;simp_arith[bI,zN c ro own sg h1 h2 h5 h6 h3 h4,gq]⟩
 rw[cS (by rw[Kg];exact hl) h,jB,cF,KC];rw[dg (aY _ _ fun c=>rfl)];rfl
noncomputable def C1 (bits:Int)(k:Nat):Bool:=Builtin.bitAnd (bits / 2 ^ ((k:Int)).toNat) 1==1
noncomputable def f9 (bits:Int)(n:Nat):List Int:=((List.range n).filter (C1 bits)).map fun k=>((k:Nat):Int)
theorem zP (bits:Int)(n:Nat):(f9 bits n).length<=n:=by unfold f9;rw[Kg];exact KA (List.length_filter_le _ _) (by rw[L7];exact Km _)
theorem uI (bits:Int)(n:Nat):∀ e∈f9 bits n,0<=e/\e<n:=fun e he=>by unfold f9 at he;obtain⟨k,hk,rfl⟩:=Kq.mp he;have:=K3.mp (Ld.mp hk).1;lia
theorem nB (n:Nat)(hn:n<=1000000) :
 fU 1 [6] (gN 0) bJ bK [e0,e1,e2,e3,e4,e5,vv (.int bits) g,e7] ⟨dB 0 n,fr,[]⟩=.ok (.new ((f9 bits n).map .int) true):=by
 have h:=ij (mk:=fun d=>gN 0 d fr (dv [e0,e1,e2,e3,e4,e5,vv (.int bits) g,e7] 1 [6])) (test:=bJ)
  (elt:=bK) (fun k:Nat=>D.int k) (C1 bits) (fun k=>.val (.int k) true []) (List.range n) fun k hk=>⟨_,rfl,by
    show bJ [vv (.int (k:Nat)) fr,vv (.int bits) g]=_;have hp:(0:Int)<=((k:Nat):Int):=by lia
    simp_arith[bJ,hp,sC];rfl,fun _=>by
    show bK [vv (.int (k:Nat)) fr,vv (.int bits) g]=_;simp_arith[bK]⟩
 rw[j7,cS (by rw[Kg,L7];exact hn) h,jB,cF,dg (aY _ _ fun c=>rfl)];unfold f9;rw[KC];rfl
theorem qJ {α β:Type}(g:α->β)(xs:List α)(lo hi st:Option Int):bV (xs.map g) lo hi st=(bV xs lo hi st).map g:=by unfold bV;rw[Kg,List.map_filterMap];congr 1;funext i;rw[K6]
theorem qK {α:Type}(xs:List α)(a:Int)(h1:4<=a)(h2:a<=5):(bV xs (some a) (some 64) (some 2)).length<=30:=by
 unfold bV;refine KA (List.length_filterMap_le _ _) ?_;generalize xs.length=n;unfold sliceRange sliceBounds;simp only[Kg,L7,Option.getD_some,show((2:Int)>0)=True from eq_true (by decide),Mp];have h3:¬ a<0:=by lia
 have h4:¬ (64:Int)<0:=by lia
 simp only[h3,h4,Lh];split<;>lia
theorem dq (t:Tri):zO (lK t)=t:=(rfl)
theorem d7 (ts:List Tri)(t:Tri):t∈arrsOf ts↔t∈ts:=by
 unfold arrsOf;constructor
 .intro h;obtain⟨l,hl,rfl⟩:=Kq.mp h;obtain⟨u,hu,rfl⟩:=Kq.mp ((cc l _).mp hl);rw[dq];exact hu
 .intro h;exact Kq.mpr ⟨lK t,(cc _ _).mpr (Kq.mpr ⟨t,h,rfl⟩),rfl⟩
theorem wd (ts:List Tri):(arrsOf ts).map lK=bU (ts.map lK):=by unfold arrsOf;rw[KC];refine Eq.trans (Lw fun k hk=>?_) (List.map_id _);obtain⟨t,_,rfl⟩:=Kq.mp ((cc k _).mp hk);rfl
theorem ji (ts:List Tri):arrsOf (arrsOf ts)=arrsOf ts:=by show(bU ((arrsOf ts).map lK)).map zO=_;rw[wd,nz _ (ib _)];rfl
theorem gr {α β:Type}(f:α->β):∀{l:List α},l.Nodup->(∀ a∈l,∀ b∈l,f a=f b->a=b)->(l.map f).Nodup
 | [],_,_=>by simp
 |a::r,h,hi=>by have h':=LZ.mp h;rw[Kx,LZ];refine⟨fun hm=>?_,gr f h'.2 fun x hx y hy=>hi x (by simp[hx]) y (by simp[hy])⟩;obtain⟨b,hb,e⟩:=Kq.mp hm;exact h'.1 (hi b (by simp[hb]) a (by simp) e▸hb)
theorem lL (ts:List Tri):(arrsOf ts).Nodup:=by
 unfold arrsOf;refine gr _ ((ib _).imp fun{a b} h e=>?_) fun a ha b hb e=>?_
 .subst e;rw[dz]at h;cases h
 .obtain⟨u,_,rfl⟩:=Kq.mp ((cc a _).mp ha);obtain⟨v,_,rfl⟩:=Kq.mp ((cc b _).mp hb);rw[dq,dq]at e;rw[e]
structure PM (ro sg b n:Int) (ts:List Tri) (es:List Int):Prop where
 rb:ro<=b
 b3:b<=ro+3
 bn:b<=n
 n12:n<=b+12
 arr:∀ t∈ts,0<=t.1/\t.1<n/\0<=t.2.1/\t.2.1<sg/\ro<=t.2.2/\t.2.2<n
 row:∀ t∈ts,b<=t.2.2->(t.1<ro/\t.2.2=b)\/(b<=t.1/\t.2.2=t.1+1)
 srt:arrsOf ts=ts
 ends:∀ e∈es,0<=e/\e<n
 lt:ts.length<=42
 le:es.length<=7
theorem qL (c n g o:Int)(h1:0<n)(h3:0<g)(h0:0<o):0<=(dD c n g o).1/\(dD c n g o).1<n/\0<=(dD c n g o).2.1/\(dD c n g o).2.1<g/\n-o<=(dD c n g o).2.2/\(dD c n g o).2.2<n:=by unfold dD;have a:=Mv ((c % 2147483587+7)*16807 % 2147483587 / n / g) (show o≠0 by lia);have b:=L0 ((c % 2147483587+7)*16807 % 2147483587 / n / g) h0;refine⟨Mv _ (by lia),L0 _ h1,Mv _ (by lia),L0 _ h3,?_,?_⟩<;>(simp only[];lia)
theorem qM (xs:List Int)(hl:xs.length<=30)(pick ro sg:Int)(hp:0<=pick)(h1:0<ro)(h2:ro<=3)(h3:0<sg)(h4:sg<=3) :
 ∃ n ts es al,PM ro sg n n ts es/\ts.length<=30/\es.length<=6/\bO [.lst (xs.map .int),.int pick,.int ro,.int sg]=.ok (.val (Mc n ts es) true al):=by
 have bR:xs.length<=1000000:=by lia
 have hfl:D.flats (List.map D.int xs)=true:=aN _;generalize ho:pick % 4=own;have o0:0<=own:=by lia
 have o3:own<=3:=by lia
 have m1:-4611686018427387904<=ro+own:=by lia
 have m2:ro+own<4611686018427387904:=by lia
 have hn:(ro+own).toNat<=1000000:=by lia
 have hel:=zP (pick / 4) (ro+own).toNat;by_cases c:0<own
 .have hb:decide (0<own)=true:=Kl c;have al:=f7 (xs.map fun c=>dD c (ro+own) sg own);rw[Kg]at al;refine⟨ro+own,arrsOf (xs.map fun c=>dD c (ro+own) sg own),f9 (pick / 4) (ro+own).toNat,?al,⟨by lia,by lia,Int.le_refl _,by lia,fun t ht=>?_,fun t ht z=>?_,ji _,fun e he=>?_,by lia,by lia⟩,by lia,by lia,?_⟩
  rotate_left
  .obtain⟨x,_,rfl⟩:=Kq.mp ((d7 _ t).mp ht);have:=qL x (ro+own) sg own (by lia) h3 c;lia
  .obtain⟨x,_,rfl⟩:=Kq.mp ((d7 _ t).mp ht);have:=qL x (ro+own) sg own (by lia) h3 c;lia
  .have:=uI _ _ e he;lia
  .simp_arith[bO,eO,ho,hb,hfl,sJ h1 (show ro<1000 by lia) h3 (show sg<1000 by lia) c (show own<1000 by lia) xs bR,fun f al=>j9 (xs.map fun c=>dD c (ro+own) sg own) (by rw[Kg];lia) (aK _ f al),nB _ hn,ql,m1,m2,aN];rfl
 .have hb:decide (0<own)=false:=Kp c;have hk:∀ f al,sq (.val (.lst []) f al)=.ok (.new [] true):=fun f al=>j9 [] (by simp) (aK _ f al);refine⟨ro+own,[],f9 (pick / 4) (ro+own).toNat,?_,⟨by lia,by lia,Int.le_refl _,by lia,fun t ht=>(nomatch ht),fun t ht=>(nomatch ht),rfl,fun e he=>?_,by simp,by lia⟩,by simp,by lia,?_⟩
  rotate_left
  .have:=uI _ _ e he;lia
  .simp_arith[bO,eO,ho,hb,hfl,hk,nB _ hn,ql,m1,m2,aN];rfl
end W
namespace L3
open PySem L2
theorem Fw (hr:r.d=.lst (ks.map jH))(h:ks.length<=300)(hn:ks.all (fun k=>!k.isEmpty)=true)(nd:ks.Nodup):ja [r]=.ok (.new ((bU ks).map jH) true):=by unfold ja Bo;dsimp only;rw[hr];dsimp only;rw[jd];dsimp only;rw[Kf (by rw[hn,Kl h,Kl nd];rfl)]
end L3
namespace W
open PySem L2 L3
theorem sK (ts:List Tri)(h:ts.length<=300)(nd:ts.Nodup)(hr:r.d=.lst (ts.map tD)):ja [r]=.ok (.new ((arrsOf ts).map tD) true):=by
 have e:r.d=.lst ((ts.map lK).map jH):=by rw[hr,KC];rfl
 rw[Fw e (by rw[Kg];exact h) (by rw[N9,Lm];intro t _;rfl) (gr lK nd fun a _ b _ e=>by rw[<- dq a,e,dq]),uH]
noncomputable def nC (s n:Int)(k:Nat):Int:=if k=0 then s else n+((k:Nat):Int)-1
noncomputable def sL (s n num g:Int)(k:Nat):Tri:=(nC s n k,num / (((k:Nat):Int)+2) % g,n+((k:Nat):Int))
theorem zQ (m:Nat)(hm:m<=20)(hts:ts.length<=30)(h3:0<g)(h4:g<=3) :
 ∃ bf,cB (gN 6) fr cV ((List.range m).map fun k=>.int (k:Nat)) [vv (Mc n ts0 es) false,vv (.int s) false,vv (.int num) false,vv (.int g) false,ow (ts.map tD) true,vv (.int s) g0,e6]=.ok (.nx bf)/\
  ∃ g1 e,bf=[vv (Mc n ts0 es) false,vv (.int s) false,vv (.int num) false,vv (.int g) false,ow ((ts++(List.range m).map (sL s n num g)).map tD) true,vv (.int (nC s n m)) g1,e]:=by
 obtain⟨bf,h1,h2⟩:=oB (fun k:Nat=>D.int (k:Nat)) (asg:=gN 6) (fr:=fr) (body:=cV) (List.range m) (fun pre env=>∃ g1 e,env=[vv (Mc n ts0 es) false,vv (.int s) false,vv (.int num) false,vv (.int g) false,ow ((ts++(List.range pre.length).map (sL s n num g)).map tD) true,vv (.int (nC s n pre.length)) g1,e]) (List.range m) [] [vv (Mc n ts0 es) false,vv (.int s) false,vv (.int num) false,vv (.int g) false,ow (ts.map tD) true,vv (.int s) g0,e6] rfl ⟨g0,e6,by simp[nC]⟩ (by
  rintro pre post k env hall ⟨g1,e,rfl⟩;have hpl:pre.length<m:=by have:=KN List.length hall;simp at this;lia
  have hk:k=pre.length:=by have:=KN (fun l:List Nat=>l[pre.length]?) hall;rw[Kk (Km _),Nat.sub_self,Nu,List.getElem?_range hpl]at this;exact(K4 this).symm
  have bR:((ts++(List.range pre.length).map (sL s n num g)).map tD).length<1000000:=by simp;lia
  refine⟨[vv (Mc n ts0 es) false,vv (.int s) false,vv (.int num) false,vv (.int g) false,ow ((ts++(List.range pre.length).map (sL s n num g)).map tD) true,vv (.int (nC s n pre.length)) g1,vv (.int (k:Nat)) fr],
   [vv (Mc n ts0 es) false,vv (.int s) false,vv (.int num) false,vv (.int g) false,ow ((ts++(List.range (pre++[k]).length).map (sL s n num g)).map tD) true,vv (.int (nC s n (pre++[k]).length)) true,vv (.int (k:Nat)) fr],rfl,?_,true,_,rfl⟩
  have e1:((ts++(List.range (pre++[k]).length).map (sL s n num g)).map tD)=((ts++(List.range pre.length).map (sL s n num g)).map tD)++[.tup [.int (nC s n k),.int (num / (((k:Nat):Int)+2) % g),.int (n+((k:Nat):Int))]]:=by rw[KF,show[k].length=1 from rfl,List.range_succ,KI (f:=sL s n num g),<- Ko,KI (l₁:=ts++_),<- hk];rfl
  have e2:nC s n (pre++[k]).length=n+((k:Nat):Int):=by rw[KF,<- hk,show[k].length=1 from rfl];unfold nC;rw[Kh (by lia)];lia
  have hkm:k<m:=by lia
  rw[e1,e2,<- hk]at *;have a1:(0:Int)<((k:Nat):Int)+2:=by lia
  have a2:((k:Nat):Int)+2<1073741824:=by lia
  have a3:g<1073741824:=by lia
  simp_arith[cV,Mc,zd bR,a1,a2,h3,a3])
 refine⟨bf,h1,?_⟩;rw[L7]at h2;exact h2
theorem Fx (P:PM ro sg n n ts es)(lt:ts.length<=30)(le:es.length<=6)(h0:0<=s)(h1:s<ro)(g0:0<sg)(m:Nat)(m1:1<=m)(m2:m<=12) :
 PM ro sg n (n+(m:Int)) (arrsOf (ts++(List.range m).map (sL s n num sg))) (es++[nC s n m])/\(ts++(List.range m).map (sL s n num sg)).Nodup:=by
 have ra:=P.rb;have mem:∀ t,t∈(List.range m).map (sL s n num sg)->∃ k:Nat,k<m/\t.1=nC s n k/\t.2.1=num / (((k:Nat):Int)+2) % sg/\t.2.2=n+((k:Nat):Int):=fun t ht=>by obtain⟨k,hk,rfl⟩:=Kq.mp ht;exact⟨k,K3.mp hk,rfl,rfl,rfl⟩
 have sl:=f7 (ts++(List.range m).map (sL s n num sg));rw[KF,Kg,L7]at sl;refine⟨⟨P.rb,P.b3,by lia,by lia,fun t ht=>?_,fun t ht hz=>?_,ji _,fun e he=>?_,by lia,by simp;lia⟩,?_⟩
 .rcases Ku.mp ((d7 _ t).mp ht) with h|h
  .have:=P.arr t h;lia
  .obtain⟨k,hk,e1,e2,e3⟩:=mem t h;have a1:=Mv (num / (((k:Nat):Int)+2)) (show sg≠0 by lia);have a2:=L0 (num / (((k:Nat):Int)+2)) g0;unfold nC at e1;split at e1<;>lia
 .rcases Ku.mp ((d7 _ t).mp ht) with h|h
  .have:=P.arr t h;lia
  .obtain⟨k,hk,e1,e2,e3⟩:=mem t h;unfold nC at e1;split at e1<;>lia
 .rcases Ku.mp he with h|h
  .have:=P.ends e h;lia
  .rw[KO]at h;subst h;unfold nC;rw[Kh (by lia)];lia
 .rw[MD];refine⟨by rw[<- P.srt];exact lL _,gr _ ML fun a _ b _ e=>?_,fun a ha b hb e=>?_⟩
  .have:n+((a:Nat):Int)=n+((b:Nat):Int):=KN (fun t:Tri=>t.2.2) e;lia
  .subst e;have:=P.arr a ha;obtain⟨k,hk,e1,e2,e3⟩:=mem a hb;lia
theorem zR (P:PM ro sg n n ts es)(lt:ts.length<=30)(le:es.length<=6)(h0:0<=s)(h1:s<ro)(g0:0<sg)(g1:sg<=3) :
 ∃ n' ts' es' al,PM ro sg n n' ts' es'/\dj [Mc n ts es,.int s,.int num,.int sg]=.ok (.val (Mc n' ts' es') true al):=by
 have c0:=Mv num (show(6:Int)≠0 by lia);have c1:=L0 num (show(0:Int)<6 by lia);generalize hm:(7+num % 6).toNat=m;have hm':7+num % 6=(m:Int):=by lia
 obtain⟨pm,nd⟩:=Fx (num:=num) P lt le h0 h1 g0 m (by lia) (by lia);obtain⟨bf,hf,g,e,rfl⟩:=zQ (n:=n) (s:=s) (num:=num) (ts0:=ts) (es:=es) m (by lia) lt (g0:=true) (fr:=true) (e6:=none) g0 g1;have hk:∀ f al,ja [.val (.lst ((ts++(List.range m).map (sL s n num sg)).map tD)) f al]=_:=fun f al=>sK (ts++(List.range m).map (sL s n num sg)) (by simp;lia) nd (aK _ f al);have m1:-4611686018427387904<=(m:Int):=by lia
 have m2:(m:Int)<4611686018427387904:=by lia
 have mt:((m:Nat):Int).toNat=m:=rfl;have fl:D.flats (ts.map tD)=true:=aY _ _ gq;have en:nC s n m+1=n+(m:Int):=by unfold nC;rw[Kh (by lia)];lia
 have hl:(es.map D.int).length+[D.int (nC s n m)].length<=1000000:=by simp;lia
 have ee:(es++[nC s n m]).map D.int=es.map D.int++[.int (nC s n m)]:=by rw[KI];rfl
 have fe:D.flats (es.map D.int++[.int (nC s n m)])=true:=lz fun d hd=>by
  rcases Ku.mp hd with h|h
  .obtain⟨x,_,rfl⟩:=Kq.mp h;rfl
  .rw[KO]at h;subst h;rfl
 generalize ts++(List.range m).map (sL s n num sg)=T at hf hk pm;refine⟨_,_,_,?_,pm,?_⟩
 rotate_left
 .unfold Mc at hf ⊢;rw[ee];simp_arith[dj,lD,BW,oA,j3,fl,hm',ql,m1,m2,mt,j7,hf,hk,en,om hl,fe];rfl
noncomputable abbrev lM (r g:Int):D:=.tup [.int r,.int g,.lst []]
noncomputable def mv (r p x:Int):Int:=if x<r then x else x+p
noncomputable def B6 (r p:Int)(t:Tri):Tri:=(mv r p t.1,t.2.1,mv r p t.2.2)
theorem lN (r g x p:Int):eS [lM r g,.int x,.int p]=.ok (.val (.int (mv r p x)) true []):=by
 unfold mv;by_cases h:x<r
 .have hd:=Kl h;simp_arith[eS,oD,IF,hd,Kf h,Mp]
 .have hd:=Kp h;simp_arith[eS,oD,IF,hd,Kh h,Ks,Lh]
noncomputable def cn (r:Int)(ts:List Tri):Bool:=ts.all fun t=>decide (r<=t.2.2)
theorem zS (r g n:Int)(ts:List Tri)(es:List Int)(hl:ts.length<=1000):eQ [lM r g,Mc n ts es]=.ok (.val (.bl (cn r ts)) true []):=by
 have hc:∀(e1:Option Sl)(fr:Bool),fU 1 [0] (gN 0) (fun _=>.ok true) ce [vv (lM r g) false,e1] ⟨ts.map tD,fr,[]⟩=.ok (.new (ts.map fun t=>.bl (decide (r<=t.2.2))) true):=fun e1 fr=>by
  have h:=bN (mk:=fun d=>gN 0 d fr (dv [vv (lM r g) false,e1] 1 [0])) (test:=fun _=>.ok true)
   (elt:=ce) tD (fun t=>.val (.bl (decide (r<=t.2.2))) true []) ts fun t ht=>⟨_,rfl,rfl,by show ce [vv (tD t) fr,vv (lM r g) false]=_;unfold tD;simp_arith[ce]⟩
  rw[cS (by rw[Kg];show _<=1000000;lia) h,jB,cF,dg (aY _ _ fun c=>rfl)]
 simp_arith[eQ,lF,Mc,hc,zy];rfl
theorem gs (r g n:Int) (ts:List Tri) (es:List Int) (hl:ts.length<=1000):aG [lM r g,Mc n ts es]=if cn r ts then .ok (.val .non true []) else .exc "NotPlain":=by
 have h:=zS r g n ts es hl;have hs:(D.lst []).flat=false:=rfl;have fm:=aL n ts es;cases hb:cn r ts with
 |true=>rw[hb]at h;simp_arith[aG,bE,h,fm,dc,Mp]
 |false=>rw[hb]at h;simp_arith[aG,bE,h,fm,dc,Ks,Lh]
theorem we (n:Int)(ts:List Tri)(es:List Int)(h1:ts.length<=300)(h2:es.length<=300):ip [.int n,.lst (ts.map tD),.lst (es.map .int)]=.ok (.val (Mc n (arrsOf ts) (sortI es)) true []):=by simp_arith[ip,qx,j9 ts h1 (aK _ _ _),zA (aK _ _ _) h2];rfl
theorem J9 {r g p:Int}{g0 g3 fr:Bool}(ts:List Tri)(hl:ts.length<=1000000) :
 fU 3 [0,3] (gT 3 (bz (gN 0) (bz (gN 1) (bz (gN 2) ju)))) (fun _=>.ok true) cG [vv (lM r g) g0,e1,e2,vv (.int p) g3,e4,e5] ⟨ts.map tD,fr,[]⟩=.ok (.new ((ts.map (B6 r p)).map tD) true):=by
 have h:=bN (mk:=fun d=>gT 3 (bz (gN 0) (bz (gN 1) (bz (gN 2) ju))) d fr (dv [vv (lM r g) g0,e1,e2,vv (.int p) g3,e4,e5] 3 [0,3])) (test:=fun _=>.ok true)
  (elt:=cG) tD (fun t=>.val (tD (B6 r p t)) true []) ts fun t ht=>⟨_,rfl,rfl,by show cG [vv (.int t.1) fr,vv (.int t.2.1) fr,vv (.int t.2.2) fr,vv (lM r g) g0,vv (.int p) g3]=_;have m1:=lN r g t.1 p;have m2:=lN r g t.2.2 p;simp_arith[cG,m1,m2];rfl⟩
 rw[cS (by rw[Kg];exact hl) h,jB,cF,dg (aY _ _ fun c=>rfl),KC];rfl
theorem J_ {r g p:Int}{g0 g3 fr:Bool}(es:List Int)(hl:es.length<=1000000) :
 fU 1 [0,3] (gN 0) (fun _=>.ok true) cH [vv (lM r g) g0,e1,e2,vv (.int p) g3,e4,e5] ⟨es.map .int,fr,[]⟩=.ok (.new ((es.map (mv r p)).map .int) true):=by
 have h:=bN (mk:=fun d=>gN 0 d fr (dv [vv (lM r g) g0,e1,e2,vv (.int p) g3,e4,e5] 1 [0,3])) (test:=fun _=>.ok true)
  (elt:=cH) D.int (fun x=>.val (.int (mv r p x)) true []) es fun x hx=>⟨_,rfl,rfl,by show cH [vv (.int x) fr,vv (lM r g) g0,vv (.int p) g3]=_;have m1:=lN r g x p;simp_arith[cH,m1]⟩
 rw[cS (by rw[Kg];exact hl) h,jB,cF,dg (aY _ _ fun c=>rfl),KC];rfl
noncomputable abbrev jj (r p:Int)(ta tb:List Tri):List Tri:=arrsOf (ta++tb.map (B6 r p))
noncomputable abbrev qN (r p:Int)(ea eb:List Int):List Int:=sortI (ea++eb.map (mv r p))
theorem lO (r g na nb:Int)(ta tb:List Tri)(ea eb:List Int)(la:ta.length<=100)(lb:tb.length<=100)(la2:ea.length<=100)(lb2:eb.length<=100)(pa:cn r ta=true)(pb:cn r tb=true) :
 bP [lM r g,Mc na ta ea,Mc nb tb eb]=.ok (.fre (Mc (nb+(na-r)) (jj r (na-r) ta tb) (qN r (na-r) ea eb))):=by
 have h1:=gs r g na ta ea (by lia);have h2:=gs r g nb tb eb (by lia);rw[pa,Kf rfl]at h1;rw[pb,Kf rfl]at h2;have f1:=aL na ta ea;have f2:=aL nb tb eb;have q:=we (nb+(na-r)) (ta++tb.map (B6 r (na-r))) (ea++eb.map (mv r (na-r))) (by simp;lia) (by simp;lia);rw[KI,KI]at q;have l1:(ta.map tD).length+((tb.map (B6 r (na-r))).map tD).length<=1000000:=by simp;lia
 have l2:(ea.map D.int).length+((eb.map (mv r (na-r))).map D.int).length<=1000000:=by simp;lia
 have fl:D.flats (ta.map tD++(tb.map (B6 r (na-r))).map tD)=true:=by rw[<- KI];exact aY _ _ gq
 have fe:D.flats (ea.map D.int++(eb.map (mv r (na-r))).map D.int)=true:=by rw[<- KI];exact aN _
 have j1:=fun e1 e2 e4 e5=>J9 (e1:=e1) (e2:=e2) (e4:=e4) (e5:=e5) (r:=r) (g:=g) (p:=na-r) (g0:=false) (g3:=true) (fr:=false) tb (by lia);have j2:=fun e1 e2 e4 e5=>J_ (e1:=e1) (e2:=e2) (e4:=e4) (e5:=e5) (r:=r) (g:=g) (p:=na-r) (g0:=false) (g3:=true) (fr:=false) eb (by lia);have f3:=aL (nb+(na-r)) (arrsOf (ta++tb.map (B6 r (na-r)))) (sortI (ea++eb.map (mv r (na-r))));unfold Mc at h1 h2 f1 f2;simp_arith[bP,gp,Mc,nr,uf,h1,h2,f1,f2,j1,j2,om l1,om l2,fl,fe];simp_arith[q,f3];rfl
theorem qO (r g na nb:Int)(ta tb:List Tri)(ea eb:List Int)(la:ta.length<=100)(lb:tb.length<=100)(h:(cn r ta&&cn r tb)=false) :
 bP [lM r g,Mc na ta ea,Mc nb tb eb]=.exc "NotPlain":=by
 have h1:=gs r g na ta ea (by lia);have h2:=gs r g nb tb eb (by lia);have f1:=aL na ta ea;have f2:=aL nb tb eb;cases pa:cn r ta with
 |false=>rw[pa,Kh (by simp)]at h1;simp_arith[bP,gp,nr,uf,h1,f1,f2,Res.bind_exc,dc]
 |true=>rw[pa,NW]at h;rw[pa,Kf rfl]at h1;rw[h,Kh (by simp)]at h2;simp_arith[bP,gp,nr,uf,h1,h2,f1,f2,Res.bind_exc,dc]
theorem lP (r g na nb:Int)(ta tb:List Tri)(ea eb:List Int)(la:ta.length<=100)(lb:tb.length<=100)(h:(cn r ta&&cn r tb)=false) :
 aW [lM r g,Mc na ta ea,Mc nb tb eb]=.ok (.val (.bl true) true []):=by
 have h1:=qO r g na nb ta tb ea eb la lb h;have f1:=aL na ta ea;have f2:=aL nb tb eb;have hc:(["NotPlain"]:List Str).contains "NotPlain"=true:=by decide
 simp_arith[aW,fZ,h1,f1,f2,zr _ _ _ _ hc,dW]
structure Good (n r g:Int) (ts:List Tri) (es:List Int):Prop where
 low:r<=n
 arr:∀ t∈ts,0<=t.1/\t.1<n/\0<=t.2.1/\t.2.1<g/\r<=t.2.2/\t.2.2<n
 ends:∀ e∈es,0<=e/\e<n
 srt:arrsOf ts=ts
 sre:sortI es=es
 l1:ts.length<=300
 l2:es.length<=300
theorem jk (x:Int):bQ [.int x]=.ok (.val (.bl true) true []):=by simp_arith[bQ,ir]
theorem wf (t:Tri):fU 1 [] (gN 0) (fun _=>.ok true) bq env ⟨[.int t.1,.int t.2.1,.int t.2.2],fr,[]⟩=.ok (.new [.bl true,.bl true,.bl true] true):=by
 have h:=bN (mk:=fun d=>gN 0 d fr (dv env 1 [])) (test:=fun _=>.ok true)
  (elt:=bq) D.int (fun c=>.val (.bl true) true []) [t.1,t.2.1,t.2.2] fun c hc=>⟨_,rfl,rfl,by show bq [some (.val (.int c) fr)]=_;simp_arith[bq,jk]⟩
 rw[cS (xs:=[.int t.1,.int t.2.1,.int t.2.2]) (by show 3<=1000000;lia) h];rfl
noncomputable def oG (M:D)(f:Bool)(r g:Int)(e3 e4:Option Sl):En:=[some (.val M f),some (.val (.int r) false),some (.val (.int g) false),e3,e4]
theorem Fy (G:Good n r g ts es):∃ e3',cB (gN 3) fr br (ts.map tD) (oG (Mc n ts es) f r g e3 e4)=.ok (.nx (oG (Mc n ts es) f r g e3' e4)):=by obtain⟨aO,h1,e3',h2⟩:=lB tD (asg:=gN 3) (fr:=fr) (body:=br) (fun _ env=>∃ e3,env=oG (Mc n ts es) f r g e3 e4) ts [] _ ⟨e3,rfl⟩ (fun pre post t env _ hp ht=>by obtain⟨e3,rfl⟩:=hp;refine⟨_,oG (Mc n ts es) f r g (some (.val (tD t) fr)) e4,rfl,?_,_,rfl⟩;obtain⟨a1,a2,a3,a4,a5,a6⟩:=G.arr t ht;have d1:=Kl a1;have d2:=Kl a2;have d3:=Kl a3;have d4:=Kl a4;have d5:=Kl a5;have d6:=Kl a6;show br [some (.val (Mc n ts es) f),some (.val (.int r) false),some (.val (.int g) false),some (.val (tD t) fr),e4]=.ok (.nx [some (.val (Mc n ts es) f),some (.val (.int r) false),some (.val (.int g) false),some (.val (tD t) fr),e4]);unfold tD Mc;have ha:Fe (.lst [.bl true,.bl true,.bl true])=.ok (.val (.bl true) true []):=rfl;simp_arith[br,uF,zL,d1,d2,d3,d4,d5,d6,yK,wf t,ha]);exact⟨e3',by rw[h1,h2]⟩
theorem Fz (G:Good n r g ts es):∃ e4',cB (gN 4) fr bt (es.map .int) (oG (Mc n ts es) f r g e3 e4)=.ok (.nx (oG (Mc n ts es) f r g e3 e4')):=by obtain⟨aO,h1,e4',h2⟩:=lB D.int (asg:=gN 4) (fr:=fr) (body:=bt) (fun _ env=>∃ e4,env=oG (Mc n ts es) f r g e3 e4) es [] _ ⟨e4,rfl⟩ (fun pre post e env _ hp he=>by obtain⟨e4,rfl⟩:=hp;refine⟨_,oG (Mc n ts es) f r g e3 (some (.val (.int e) fr)),rfl,?_,_,rfl⟩;obtain⟨a1,a2⟩:=G.ends e he;have d1:=Kl a1;have d2:=Kl a2;show bt [some (.val (Mc n ts es) f),some (.val (.int r) false),some (.val (.int g) false),e3,some (.val (.int e) fr)]=.ok (.nx [some (.val (Mc n ts es) f),some (.val (.int r) false),some (.val (.int g) false),e3,some (.val (.int e) fr)]);unfold Mc;simp_arith[bt,uF,zL,d1,d2,jk]);exact⟨e4',by rw[h1,h2]⟩
theorem B7 (ts:List Tri):D.deps (ts.map tD)<=1:=lA zM
theorem sM (G:Good n r g ts es):cf [Mc n ts es,.int r,.int g]=.ok (.val (.bl true) true []):=by
 have d0:decide (n<r)=false:=Kp (by have:=G.low;lia);obtain⟨e3,h1⟩:=Fy G (f:=false) (fr:=false) (e3:=none) (e4:=none);obtain⟨e4,h2⟩:=Fz G (f:=false) (fr:=false) (e3:=e3) (e4:=none);unfold oG Mc at h1 h2;have q1:∀ f al,sq (.val (.lst (ts.map tD)) f al)=.ok (.new (ts.map tD) true):=fun f al=>by rw[j9 ts G.l1 (aK _ _ _),G.srt]
 have q2:∀ f al,vY (.val (.lst (es.map .int)) f al)=.ok (.new (es.map .int) true):=fun f al=>by rw[zA (aK _ _ _) G.l2,G.sre]
 have p1:(D.lst (ts.map tD)).dep<=50:=by rw[j6];have:=B7 ts;lia
 have p2:(D.lst (es.map .int)).dep<=50:=by rw[j6];have:=je es;lia
 have n1:tP (.val (.lst (ts.map tD)) false []) (.new (ts.map tD) true)=.ok (.val (.bl false) true []):=by rw[yK (by rw[aK];exact p1) (by rw[gk];exact p1),aK,gk,cz];rfl
 have n2:rV (.val (.lst (es.map .int)) false []) (.new (es.map .int) true)=.ok (.val (.bl true) true []):=by rw[sC (by rw[aK];exact p2) (by rw[gk];exact p2),aK,gk,cz]
 simp_arith[cf,f6,Mc,d0,yK,jk,h1,h2,q1,q2,n1,n2]
theorem qP (k:Int):∀ l,(ie k l).length<=l.length+1
 | []=>by simp[ie]
 |h::t=>by
  have:=qP k t;unfold ie;split
  .simp
  .split<;>simp<;>lia
theorem jl:∀ ks,(sortI ks).length<=ks.length
 | []=>Km _
 |k::r=>by have h1:=qP k (sortI r);have h2:=jl r;unfold sortI;simp only[K8];lia
theorem qQ:∀ ts:List Tri,fS (ts.map tD)=some ts
 | []=>rfl
 |t::r=>by rw[Kx];unfold fS;rw[qQ r];rfl
theorem oH (h:ts.length<=1000):bd [Mc n ts es]=.ok (.val (bW ts) true [1]):=by
 have q:∀ env f,env.length=5->v3 1 2 3 4 env (.val (.lst (ts.map tD)) f [])=.ok (.nx (((((frz env []).set 2 none).set 3 none).set 4 none).set 1 (some (.tre (bW ts))))):=fun env f he=>by unfold v3;rw[aK];dsimp only;rw[qQ];dsimp only;rw[Kf ⟨h,by rw[qo];exact Lc,by decide,by decide,by decide,by decide,by decide,by decide,by lia,by lia,by lia⟩];rfl
 have q1:=q [some (.val (.tup [.int n,.lst (ts.map tD),.lst (es.map .int)]) false),some (.tre (.dic [] [])),none,none,none] false rfl;have fg:(bW ts).flat=false:=rfl;simp_arith[bd,jD,Mc,q1,fg]
theorem B8 (he:env[i]?=some (some (.tre (bD ks))))(hk:fk env=.ok (.val (.int x) f al))(hl:ks.length<1000000) :
 ng i fk (vC (.bl true)) env=.ok (.nx (env.set i (some (.tre (bD (dd ks x)))))):=by
 rw[zu,he];show putAt i fk (vC (.bl true)) env (some (some (.tre (.dic (ks.map ik) (ks.map fun _=>.bl true)))))=_;rw[uv,Ju,aU,BQ rfl,hk,aU,BR (x:=.inl (.inl x)) rfl (BS x ks) (by rw[Kg];exact hl),aK,zD]
theorem qR (ts:List Tri)(p:IP):∀ l:List IP,getD (l.map fun p=>(.inr (pk p):DK)) (l.map fun p=>D.lst ((g3 ts p.1 p.2).map .int)) (.inr (pk p))=if p∈l then some (.lst ((g3 ts p.1 p.2).map .int)) else none
 | []=>rfl
 |q::r=>by
  rw[Kx,Kx];unfold getD;rw[qR ts p r];by_cases h:q=p
  .rw[Kf (by rw[h]),Kf (by simp[h]),h]
  .rw[Kh (show ¬ (Sum.inr (pk q):DK)=.inr (pk p) from fun e=>h (sv (Sum.inr.inj e)))];by_cases h2:p∈r
   .rw[Kf h2,Kf (by simp[h2])]
   .rw[Kh h2,Kh (by simp[h2];exact fun e=>h e.symm)]
theorem FA (ha:fa env=.ok (.val (bW ts) f []))(hk:fk env=.ok (.val (.tup [.int x,.int y]) fk' al)) :
 ∃ f',pZ fa fk (gv ap) env=.ok (.val (.lst ((g3 ts x y).map .int)) f' []):=by
 have hc:((h1 ts).map (fun p=>(.inr (pk p):DK))).all (kin (.inr (pk (x,y))))=true:=by rw[N9,Lm];intro p _;rfl
 rw[zw,ha,aU,HK (show(R.val (bW ts) f []).d=.dic ((h1 ts).map fun p=>.inr (pk p)) ((h1 ts).map fun p=>.lst ((g3 ts p.1 p.2).map .int)) from rfl),hk,aU,CV];have e0:gv ap env=.ok (.new [] true):=rfl;rw[e0,aU];unfold IJ;have hx:keyX (R.val (.tup [.int x,.int y]) fk' al).d=some (.inr (pk (x,y))):=rfl;rw[hx];dsimp only;rw[Kf hc,qR ts (x,y)];by_cases h:(x,y)∈h1 ts
 .rw[Kf h];exact⟨f,rfl⟩
 .rw[Kh h,ui h];exact⟨_,rfl⟩
theorem uJ:∀(zs ks:List Int)(e5:Option Sl),ks.length+zs.length<1000000->
 ∃ e5',cB (gN 5) fr cg (zs.map .int) [e0,e1,e2,some (.tre (bD ks)),e4,e5]=.ok (.nx [e0,e1,e2,some (.tre (bD (zs.foldl dd ks))),e4,e5'])
 | [],ks,e5,_=>⟨e5,rfl⟩
 |x::r,ks,e5,hl=>by have hd:=yu ks x;simp only[K8]at hl;obtain⟨e5',h⟩:=uJ (e0:=e0) (e1:=e1) (e2:=e2) (e4:=e4) (fr:=fr) r (dd ks x) (some (.val (.int x) fr)) (by lia);refine⟨e5',?_⟩;rw[Kx,zn (env1:=[e0,e1,e2,some (.tre (bD ks)),e4,some (.val (.int x) fr)]) rfl];have hm:cg [e0,e1,e2,some (.tre (bD ks)),e4,some (.val (.int x) fr)]=.ok (.nx [e0,e1,e2,some (.tre (bD (dd ks x))),e4,some (.val (.int x) fr)]):=B8 (i:=3) (fk:=ag 5) (x:=x) (f:=true) (al:=[]) rfl (by simp_arith) (by lia);rw[hm,aU,ou,Mx];exact h
theorem B9 (x:Int)(es:List Int):((es.map D.int).any fun e=>dL e (.int x))=decide (x∈es):=by
 rw[N8,L_,Mk,N_];constructor
 .rintro⟨y,hy,e⟩;have:y=x:=NY.mp e;exact this▸hy
 .intro h;exact⟨x,h,NY.mpr rfl⟩
theorem B_ (x:Int)(es:List Int)(f g:Bool)(al bl:List Nat):Jm (.val (.int x) f al) (.val (.lst (es.map .int)) g bl)=.ok (.val (.bl (decide (x∈es))) true []):=by have h:=je es;rw[<- B9];show(if _ then _ else _)=_;exact Kf ⟨by lia,by rw[aK,ot];lia⟩
theorem iC {α:Type}[DecidableEq α]:∀(l m:List α),l.Nodup->(∀ x∈l,x∈m)->l.length<=m.length
 | [],m,_,_=>KU _
 |a::r,m,hn,hs=>by
  have hn':=LZ.mp hn;have ha:a∈m:=hs a (by simp);have h:=iC r (m.erase a) hn'.2 fun x hx=>by have hne:x≠a:=fun e=>hn'.1 (e▸hx);exact(NQ hne).mpr (hs x (by simp[hx]))
  have h2:=Ni ha;have h3:0<m.length:=NA ha;simp only[K8];lia
theorem zT (ts:List Tri)(s g x:Int):x∈g3 ts s g↔(s,g,x)∈ts:=by
 unfold g3;rw[Kq];constructor
 .rintro⟨t,ht,rfl⟩;obtain⟨h1,h2⟩:=Ld.mp ht;simp at h2;obtain⟨a,b,c⟩:=t;dsimp only at h2;rw[<- h2.1,<- h2.2];exact h1
 .intro h;exact⟨_,Ld.mpr ⟨h,by simp⟩,rfl⟩
noncomputable def uK (ts:List Tri)(A:List Int)(g:Int):List Int:=A.flatMap fun s=>g3 ts s g
noncomputable def oP (ts:List Tri)(A:List Int)(g:Int):List Int:=sortI (dS (uK ts A g))
theorem uL (ts:List Tri)(A:List Int)(g x:Int):x∈uK ts A g↔∃ s∈A,(s,g,x)∈ts:=by unfold uK;rw[List.mem_flatMap];exact⟨fun⟨s,h1,h2⟩=>⟨s,h1,(zT ts s g x).mp h2⟩,fun⟨s,h1,h2⟩=>⟨s,h1,(zT ts s g x).mpr h2⟩⟩
theorem f_ (ts:List Tri)(A:List Int)(g x:Int):x∈oP ts A g↔∃ s∈A,(s,g,x)∈ts:=by unfold oP dS;rw[cY,fR,uL];simp
theorem C2 (ts:List Tri)(A:List Int)(g:Int):(oP ts A g).Pairwise (·< ·):=df _
theorem zU (x:Int)(h:ks.Nodup):(dd ks x).Nodup:=by
 unfold dd;split
 .exact h
 .rename_i hx;rw[MD];refine⟨h,by simp,fun a ha b hb e=>?_⟩;rw[KO]at hb;subst hb;subst e;exact hx (by simpa using ha)
theorem lQ:∀(l ks:List Int),ks.Nodup->(l.foldl dd ks).Nodup
 | [],_,h=>h
 |x::r,ks,h=>lQ r (dd ks x) (zU x h)
theorem zV (ts:List Tri)(A:List Int)(g:Int):(dS (uK ts A g)).length<=ts.length:=by
 have h:=iC (dS (uK ts A g)) (ts.map (·.2.2)) (lQ _ [] MP) fun x hx=>by obtain⟨s,_,h⟩:=(uL ts A g x).mp (((fR x _ _).mp hx).resolve_left (by simp));exact Kq.mpr ⟨_,h,rfl⟩
 rw[Kg]at h;exact h
theorem nE:∀(l ks:List Int),(l.foldl dd ks).length<=ks.length+l.length
 | [],_=>Km _
 |x::r,ks=>by have h1:=nE r (dd ks x);have h2:=yu ks x;rw[Mx,K8];lia
theorem uM (hl:ts.length<=300):∀(A ks:List Int)(e4 e5:Option Sl),ks.length+A.length*300<1000000->
 ∃ e4' e5',cB (gN 4) fr ci (A.map .int) [vv (bW ts) false,e1,vv (.int g) false,tt (bD ks),e4,e5]=.ok (.nx [vv (bW ts) false,e1,vv (.int g) false,tt (bD ((uK ts A g).foldl dd ks)),e4',e5'])
 | [],ks,e4,e5,_=>⟨e4,e5,rfl⟩
 |s::A,ks,e4,e5,h=>by
  simp only[K8]at h;have g3l:=yw ts s g;have hg:(bW ts).flat=false:=rfl;obtain⟨f',hget⟩:=FA (env:=[vv (bW ts) false,e1,vv (.int g) false,tt (bD ks),vv (.int s) fr,e5]) (fa:=ag 0) (fk:=dt (ac (ag 4) (ac (ag 2) ap))) (ts:=ts) (x:=s) (y:=g) (f:=false) (fk':=true) (al:=[]) (by simp_arith[hg]) (by simp_arith);obtain⟨e5a,h1⟩:=uJ (e0:=vv (bW ts) false) (e1:=e1) (e2:=vv (.int g) false) (e4:=vv (.int s) fr) (fr:=f') (g3 ts s g) ks e5 (by lia);have fl:=nE (g3 ts s g) ks;obtain⟨e4',e5',ih⟩:=uM (e1:=e1) (g:=g) hl (fr:=fr) A ((g3 ts s g).foldl dd ks) (vv (.int s) fr) e5a (by lia);refine⟨e4',e5',?_⟩;rw[Kx,zn (env1:=[vv (bW ts) false,e1,vv (.int g) false,tt (bD ks),vv (.int s) fr,e5]) rfl];have hb:ci [vv (bW ts) false,e1,vv (.int g) false,tt (bD ks),vv (.int s) fr,e5]=.ok (.nx [vv (bW ts) false,e1,vv (.int g) false,tt (bD ((g3 ts s g).foldl dd ks)),vv (.int s) fr,e5a]):=by show kZ (iW (pZ (ag 0) (dt (ac (ag 4) (ac (ag 2) ap))) (gv ap))) (gN 5) cg _=_;rw[yY,yZ,hget];exact h1
  rw[hb,aU,ou,ih,show uK ts (s::A) g=g3 ts s g++uK ts A g from rfl,Oi]
theorem zW (hl:ts.length<=300)(A:List Int)(hA:A.length<=1000)(g:Int):cj [bW ts,.tup (A.map .int),.int g]=.ok (.val (.tup ((oP ts A g).map .int)) true []):=by
 have hg:(bW ts).flat=false:=rfl;obtain⟨e4,e5,h1⟩:=uM (ts:=ts) (e1:=vv (.tup (A.map .int)) false) (g:=g) hl (fr:=true) A [] none none (by simp only[Nm];lia);have h1:cB (gN 4) true ci (A.map .int) [vv (bW ts) false,vv (.tup (A.map .int)) false,vv (.int g) false,tt (bD []),none,none]=.ok (.nx [vv (bW ts) false,vv (.tup (A.map .int)) false,vv (.int g) false,tt (bD (dS (uK ts A g))),e4,e5]):=h1;have few:=zV ts A g;have hk:∀ f al,FP [.val (bD (dS (uK ts A g))) f al]=.ok (.new ((oP ts A g).map .int) true):=fun f al=>by rw[HR (show(R.val (bD (dS (uK ts A g))) f al).d=.dic ((dS (uK ts A g)).map ik) ((dS (uK ts A g)).map fun _=>.bl true) from rfl) (by lia)];rfl
 have fa:=aN A;have hD:(D.dic [] [])=bD []:=rfl;have hfb:(bD (dS (uK ts A g))).flat=false:=rfl;have fi:=aN (oP ts A g);have kt:∀ f,gI [.new ((oP ts A g).map .int) f]=.ok (mkV (.tup ((oP ts A g).map .int)) f []):=fun f=>rfl;simp_arith[cj,iA,hD,h1,fa,hk,hfb,fi,kt]
noncomputable def sN (es A:List Int):Bool:=A.any fun x=>decide (x∈es)
theorem lR (A:List Int)(hA:A.length<=1000):aH [Mc n ts es,.tup (A.map .int)]=.ok (.val (.bl (sN es A)) true []):=by
 have hc:∀(e1:Option Sl)(fr:Bool),fU 1 [0] (gN 0) (fun _=>.ok true) bL [vv (.tup [.int n,.lst (ts.map tD),.lst (es.map .int)]) false,e1] ⟨A.map .int,fr,[]⟩=.ok (.new (A.map fun x=>.bl (decide (x∈es))) true):=fun e1 fr=>by
  have h:=bN (mk:=fun d=>gN 0 d fr (dv [vv (.tup [.int n,.lst (ts.map tD),.lst (es.map .int)]) false,e1] 1 [0])) (test:=fun _=>.ok true)
   (elt:=bL) D.int (fun x=>.val (.bl (decide (x∈es))) true []) A fun x hx=>⟨_,rfl,rfl,by show bL [vv (.int x) fr,vv (.tup [.int n,.lst (ts.map tD),.lst (es.map .int)]) false]=_;have i1:=fun f g al bl=>B_ x es f g al bl;simp_arith[bL,i1]⟩
  rw[cS (by rw[Kg];show _<=1000000;lia) h,jB,cF,dg (aY _ _ fun c=>rfl)]
 have fa:=aN A;simp_arith[aH,iu,Mc,hc,fa,zx];rfl
structure Own (ro b n:Int) (A:List Int):Prop where
 pw:A.Pairwise (·< ·)
 box:∀ x∈A,ro<=x/\x<n
 one:∀ x∈A,∀ y∈A,b<=x->b<=y->x=y
theorem iD (P:PM ro sg b n ts es)(h:(∃ r,r<ro/\A=[r])\/Own ro b n A):Own ro b n (oP ts A g):=by
 refine⟨C2 _ _ _,fun x hx=>?_,fun x hx y hy bx by'=>?_⟩
 .obtain⟨s,_,h2⟩:=(f_ ts A g x).mp hx;have:=P.arr _ h2;exact⟨this.2.2.2.2.1,this.2.2.2.2.2⟩
 .obtain⟨s,s1,h2⟩:=(f_ ts A g x).mp hx;obtain⟨u,u1,h3⟩:=(f_ ts A g y).mp hy;have r1:=P.row _ h2 bx;have r2:=P.row _ h3 by';have:=P.rb;dsimp only at r1 r2;rcases h with⟨r,hr,rfl⟩|O
  .rw[KO]at s1 u1;lia
  .have a1:=O.box s s1;have a2:=O.box u u1;have a3:=O.one s s1 u u1;lia
noncomputable def oJ:List Int->List (List Int)
 | []=>[[]]
 |l::L=>oJ L++(oJ L).map (l::·)
theorem qS:∀ L,(oJ L).length=2 ^ L.length
 | []=>rfl
 |l::L=>by unfold oJ;rw[KF,Kg,qS L,K8,Nat.pow_succ];lia
theorem iE:∀(L A:List Int),L.Pairwise (·< ·)->A.Pairwise (·< ·)->(∀ x∈A,x∈L)->A∈oJ L
 | [],[],_,_,_=>by simp[oJ]
 | [],a::A,_,_,h=>by have:=h a (by simp);cases this
 |l::L,A,pl,pa,h=>by
  unfold oJ;rw[Ku];obtain⟨l1,l2⟩:=KS.mp pl;cases A with
  |nil=>exact .inl (iE L [] l2 pa fun x hx=>(nomatch hx))
  |cons a A=>
   obtain⟨p1,p2⟩:=KS.mp pa;by_cases e:a=l
   .subst e;refine .inr (Kq.mpr ⟨A,iE L A l2 p2 fun x hx=>?_,rfl⟩);have:=p1 x hx;rcases Kj.mp (h x (by simp[hx])) with z|z
    .lia
    .exact z
   .have ha:a∈L:=(Kj.mp (h a (by simp))).resolve_left e;refine .inl (iE L (a::A) l2 pa fun x hx=>?_);rcases Kj.mp hx with rfl|hx'
    .exact ha
    .have:=p1 x hx';have:=l1 a ha;rcases Kj.mp (h x hx) with z|z
     .lia
     .exact z
noncomputable def lS (a b:Int):List Int:=(List.range (b-a).toNat).map fun k=>a+((k:Nat):Int)
theorem iF (a b x:Int):x∈lS a b↔a<=x/\x<b:=by
 unfold lS;rw[Kq];constructor
 .rintro⟨k,hk,rfl⟩;have:=K3.mp hk;lia
 .rintro⟨h1,h2⟩;exact⟨(x-a).toNat,K3.mpr (by lia),by lia⟩
theorem iG (a b:Int):(lS a b).length=(b-a).toNat:=by unfold lS;rw[Kg,L7]
theorem Ca (a b:Int):(lS a b).Pairwise (·< ·):=by unfold lS;rw[KH];exact List.pairwise_lt_range.imp fun{x y} h=>by lia
noncomputable def sO (ro b n:Int):List (List Int):=(oJ (lS ro b)).flatMap fun s=>s::(lS b n).map fun c=>s++[c]
theorem lU {α β:Type}(f:α->List β)(m:Nat)(h:∀ a,(f a).length=m):∀ l:List α,(l.flatMap f).length=l.length*m
 | []=>by simp
 |a::l=>by rw[List.flatMap_cons,KF,h,lU f m h l,K8,Nat.succ_mul];lia
theorem qT (h1:b<=ro+3)(h2:n<=b+12):(sO ro b n).length<=104:=by
 unfold sO;rw[lU _ ((n-b).toNat+1) (fun s=>by rw[K8,Kg,iG]),qS,iG];have a:2 ^ (b-ro).toNat<=2 ^ 3:=Nat.pow_le_pow_right (by lia) (by lia);have c:(n-b).toNat+1<=13:=by lia
 exact KA (Oc a c) (by lia)
theorem uN (O:Own ro b n A):A∈sO ro b n:=by
 have e:A=A.filter (fun x=>decide (x<b))++A.filter (fun x=>decide (b<=x)):=by
  refine b7 _ _ O.pw ?_ fun x=>?_
  .rw[Ls];refine⟨O.pw.filter _,O.pw.filter _,fun x hx y hy=>?_⟩;have h1:=LX (Ld.mp hx).2;have h2:=LX (Ld.mp hy).2;lia
  .rw[Ku,Ld,Ld];by_cases h:x<b
   .have:¬ b<=x:=by lia
    simp[h,this]
   .have:b<=x:=by lia
    simp[h,this]
 have h1:A.filter (fun x=>decide (x<b))∈oJ (lS ro b):=iE _ _ (Ca _ _) (O.pw.filter _) fun x hx=>by obtain⟨z1,z2⟩:=Ld.mp hx;have:=LX z2;exact(iF _ _ _).mpr ⟨(O.box x z1).1,this⟩
 unfold sO;rw[List.mem_flatMap];refine⟨_,h1,?_⟩;cases q:A.filter (fun x=>decide (b<=x)) with
 |nil=>rw[q,La]at e;rw[<- e];simp
 |cons c r=>
  have hc:c∈A.filter (fun x=>decide (b<=x)):=by rw[q];simp
  obtain⟨c1,c2⟩:=Ld.mp hc;cases r with
  |nil=>rw[q]at e;refine Ky _ (Kq.mpr ⟨c,(iF _ _ _).mpr ⟨LX c2,(O.box c c1).2⟩,e.symm⟩)
  |cons d r=>
   have hd:d∈A.filter (fun x=>decide (b<=x)):=by rw[q];simp
   obtain⟨d1,d2⟩:=Ld.mp hd;have h2:=O.one c c1 d d1 (LX c2) (LX d2);have h3:=O.pw.filter (fun x=>decide (b<=x));rw[q]at h3;have:=(KS.mp h3).1 d (by simp);lia
noncomputable abbrev Q2:=List Int×List Int
def uO (ro ba na bb nb:Int)(q:Q2):Prop:=(∃ r,0<=r/\r<ro/\q=([r],[r]))\/(Own ro ba na q.1/\Own ro bb nb q.2)
noncomputable def zX (ro ba na bb nb:Int):List Q2:=(lS 0 ro).map (fun r=>([r],[r]))++(sO ro ba na).flatMap fun A=>(sO ro bb nb).map fun B=>(A,B)
theorem zY (h:uO ro ba na bb nb q):q∈zX ro ba na bb nb:=by
 unfold zX;rw[Ku];rcases h with⟨r,h1,h2,rfl⟩|⟨h1,h2⟩
 .exact .inl (Kq.mpr ⟨r,(iF _ _ _).mpr ⟨h1,h2⟩,rfl⟩)
 .exact .inr (List.mem_flatMap.mpr ⟨q.1,uN h1,Kq.mpr ⟨q.2,uN h2,rfl⟩⟩)
theorem qU {ea eb:List Int}(PA:PM ro sg ba na ta ea)(PB:PM ro sg bb nb tb eb)(h3:ro<=3){qs:List Q2}(nd:qs.Nodup)(h:∀ q∈qs,uO ro ba na bb nb q):qs.length<=10819:=by refine KA (iC qs _ nd fun q hq=>zY (h q hq)) ?_;unfold zX;rw[KF,Kg,iG,lU _ (sO ro bb nb).length fun A=>by rw[Kg]];have a:=Oc (qT PA.b3 PA.n12) (qT PB.b3 PB.n12);lia
noncomputable def oK (ro p:Int)(q:Q2):List Int:=sortI (q.1++q.2.map (mv ro p))
theorem mrg_mem:x∈oK ro p q↔x∈q.1\/∃ y∈q.2,x=mv ro p y:=by unfold oK;rw[cY,Ku,Kq];exact or_congr Iff.rfl ⟨fun⟨y,h,e⟩=>⟨y,h,e.symm⟩,fun⟨y,h,e⟩=>⟨y,h,e.symm⟩⟩
theorem nF (h:x<ro):mv ro p x=x:=Kf h
theorem qV (h:ro<=x):mv ro p x=x+p:=Kh (by lia)
theorem jo_mem:t∈jj ro p ta tb↔t∈ta\/∃ u∈tb,t=B6 ro p u:=by rw[d7,Ku,Kq];exact or_congr Iff.rfl ⟨fun⟨y,h,e⟩=>⟨y,h,e.symm⟩,fun⟨y,h,e⟩=>⟨y,h,e.symm⟩⟩
section
variable {ro sg ba na bb nb:Int}{ta tb:List Tri}{ea eb:List Int}
noncomputable def oQ (ta tb:List Tri)(q:Q2)(g:Int):Q2:=(oP ta q.1 g,oP tb q.2 g)
theorem zZ (PA:PM ro sg ba na ta ea)(PB:PM ro sg bb nb tb eb)(h:uO ro ba na bb nb q)(g:Int):uO ro ba na bb nb (oQ ta tb q g):=by
 right;rcases h with⟨r,h1,h2,rfl⟩|⟨h1,h2⟩
 .exact⟨iD PA (.inl ⟨r,h2,rfl⟩),iD PB (.inl ⟨r,h2,rfl⟩)⟩
 .exact⟨iD PA (.inr h1),iD PB (.inr h2)⟩
theorem C3 (PA:PM ro sg ba na ta ea)(h:uO ro ba na bb nb q)(hx:x∈q.1):x<na/\(x<ro->x∈q.2):=by
 have:=PA.rb;have:=PA.bn;rcases h with⟨r,h1,h2,rfl⟩|⟨h1,h2⟩
 .have e:x=r:=by simpa using hx
  exact⟨by lia,fun _=>by simp[e]⟩
 .have:=h1.box x hx;exact⟨by lia,fun _=>by lia⟩
theorem C4 (h:uO ro ba na bb nb q)(hx:x∈q.2):x<ro->x∈q.1:=by
 rcases h with⟨r,h1,h2,rfl⟩|⟨h1,h2⟩
 .have e:x=r:=by simpa using hx
  exact fun _=>by simp[e]
 .have:=h2.box x hx;exact fun _=>by lia
theorem C5 (h:ro<=na)(e:mv ro (na-ro) x=mv ro (na-ro) y):x=y:=by unfold mv at e;split at e<;>split at e<;>lia
theorem z9 (PA:PM ro sg ba na ta ea)(h:uO ro ba na bb nb q)(g:Int):oP (jj ro (na-ro) ta tb) (oK ro (na-ro) q) g=oK ro (na-ro) (oQ ta tb q g):=by
 have hr:ro<=na:=by have:=PA.rb;have:=PA.bn;lia
 refine b7 _ _ (C2 _ _ _) (df _) fun x=>?_;rw[f_,mrg_mem];constructor
 .rintro⟨s,hs,ht⟩;rcases jo_mem.mp ht with ht|⟨u,hu,e⟩
  .left;refine(f_ ta q.1 g x).mpr ⟨s,?_,ht⟩;rcases mrg_mem.mp hs with hs|⟨y,hy,rfl⟩
   .exact hs
   .have:=PA.arr _ ht;dsimp only at this;by_cases hy':y<ro
    .rw[nF hy'];exact C4 h hy hy'
    .rw[qV (by lia)]at this;lia
  .right;have e1:s=mv ro (na-ro) u.1:=KN (fun t:Tri=>t.1) e;have e2:g=u.2.1:=KN (fun t:Tri=>t.2.1) e;have e3:x=mv ro (na-ro) u.2.2:=KN (fun t:Tri=>t.2.2) e;refine⟨u.2.2,(f_ tb q.2 g _).mpr ⟨u.1,?_,by rw[e2];exact hu⟩,e3⟩;rcases mrg_mem.mp hs with hs|⟨y,hy,hy2⟩
   .obtain⟨z1,z2⟩:=C3 PA h hs;by_cases hu1:u.1<ro
    .rw[nF hu1]at e1;rw[<- e1];exact z2 (by lia)
    .rw[qV (by lia)]at e1;lia
   .rw[hy2]at e1;rw[<- C5 hr e1];exact hy
 .rintro (hx|⟨z,hz,rfl⟩)
  .obtain⟨s,hs,ht⟩:=(f_ ta q.1 g x).mp hx;exact⟨s,mrg_mem.mpr (.inl hs),jo_mem.mpr (.inl ht)⟩
  .obtain⟨s,hs,ht⟩:=(f_ tb q.2 g z).mp hz;exact⟨mv ro (na-ro) s,mrg_mem.mpr (.inr ⟨s,hs,rfl⟩),jo_mem.mpr (.inr ⟨_,ht,rfl⟩)⟩
theorem oM:sN es A=true↔∃ x∈A,x∈es:=by unfold sN;rw[Mk];simp
theorem z_ (PA:PM ro sg ba na ta ea)(h:uO ro ba na bb nb q):sN (qN ro (na-ro) ea eb) (oK ro (na-ro) q)=(sN ea q.1 || sN eb q.2):=by
 have hr:ro<=na:=by have:=PA.rb;have:=PA.bn;lia
 have jm:∀ x,x∈qN ro (na-ro) ea eb↔x∈ea\/∃ y∈eb,x=mv ro (na-ro) y:=fun x=>mrg_mem (q:=(ea,eb));rw[L_,Nx,oM,oM,oM];constructor
 .rintro⟨x,hx,he⟩;rcases mrg_mem.mp hx with hx|⟨y,hy,rfl⟩
  .rcases (jm x).mp he with he1|⟨e,he1,rfl⟩
   .exact .inl ⟨x,hx,he1⟩
   .obtain⟨z1,z2⟩:=C3 PA h hx;by_cases h1:e<ro
    .rw[nF h1]at z2;exact .inr ⟨e,z2 h1,he1⟩
    .rw[qV (by lia)]at z1;lia
  .rcases (jm _).mp he with he|⟨e,he,e1⟩
   .by_cases h1:y<ro
    .rw[nF h1]at he;exact .inl ⟨y,C4 h hy h1,he⟩
    .rw[qV (by lia)]at he;have:=PA.ends _ he;lia
   .rw[<- C5 hr e1]at he;exact .inr ⟨y,hy,he⟩
 .rintro (⟨x,hx,he⟩|⟨x,hx,he⟩)
  .exact⟨x,mrg_mem.mpr (.inl hx),(jm x).mpr (.inl he)⟩
  .exact⟨mv ro (na-ro) x,mrg_mem.mpr (.inr ⟨x,hx,rfl⟩),(jm _).mpr (.inr ⟨x,he,rfl⟩)⟩
end
noncomputable def tI (A:List Int):D:=.tup (A.map .int)
theorem ff (A:List Int):(tI A).flat=true:=aN A
noncomputable def bF (ro p:Int)(q:Q2):D:=.tup [tI (oK ro p q),tI q.1,tI q.2]
theorem cZ (ro p:Int)(q:Q2):(bF ro p q).flat=true:=by unfold bF;simp only[fW,cq,ff,nw,NT]
noncomputable def rk (ro p:Int)(q:Q2):List K0:=[.inr (oK ro p q),.inr q.1,.inr q.2]
theorem qW (ro p:Int)(q:Q2):nkey (bF ro p q)=some (rk ro p q):=by show key0s [.tup _,.tup _,.tup _]=_;simp only[key0s,gm,Option.bind_some,Option.map_some];rfl
theorem FC (h:rk ro p a=rk ro p b):a=b:=by unfold rk at h;simp only[Nn,Sum.inr.injEq,and_true]at h;exact Prod.ext h.2.1 h.2.2
theorem uP (ro p:Int)(qs:List Q2)(q:Q2):kI (qs.map (rk ro p)) (rk ro p q)=decide (q∈qs):=by
 unfold kI;rw[N8,L_,Mk,N_];constructor
 .rintro⟨k,hk,e⟩;exact FC (LX e)▸hk
 .intro h;exact⟨q,h,by simp⟩
noncomputable abbrev eW (F A B:D)(ro sg:Int)(ws:List (List Tri))(p:Int)(ps qs:List Q2)(i:Int)(e9 e10:Option Sl):En:=[vv F false,vv A false,vv B false,vv (.int ro) false,vv (.int sg) false,ow (ws.map bW) true,ow (ps.map (bF ro p)) true,some (.nst (qs.map (rk ro p))),vv (.int i) true,e9,e10]
section
variable {F A B:D}{ro sg p i:Int}{ps qs:List Q2}{q:Q2}{e9 e10:Option Sl}
theorem FE:vB (yG 7 (ag 9)) (eW F A B ro sg ws p ps qs i (vv (bF ro p q) true) e10)=.ok (decide (q∈qs)):=by
 have h:ag 9 (eW F A B ro sg ws p ps qs i (vv (bF ro p q) true) e10)=.ok (.val (bF ro p q) true []):=by simp_arith[cZ]
 have hk:=qW ro p q;unfold yG;rw[Hu,h,aU];show(match (some (some (Sl.nst (qs.map (rk ro p)))):Option (Option Sl)),nkey (bF ro p q) with|some (some (.nst ks)),some k=>Res.ok (R.val (.bl (kI ks k)) true [])|_,_=>.stuck).bind kB=_;rw[hk];dsimp only;rw[aU,uP];rfl
theorem Cb (hq:¬ q∈qs)(hl:qs.length<1000000):um 7 (ag 9) (vC (.bl true)) (eW F A B ro sg ws p ps qs i (vv (bF ro p q) true) e10)=.ok (.nx (eW F A B ro sg ws p ps (qs++[q]) i (vv (bF ro p q) true) e10)):=by
 have h:ag 9 (eW F A B ro sg ws p ps qs i (vv (bF ro p q) true) e10)=.ok (.val (bF ro p q) true []):=by simp_arith[cZ]
 show((vC (.bl true) (eW F A B ro sg ws p ps qs i (vv (bF ro p q) true) e10)).bind fun _=>(ag 9 (eW F A B ro sg ws p ps qs i (vv (bF ro p q) true) e10)).bind (ul 7 (eW F A B ro sg ws p ps qs i (vv (bF ro p q) true) e10) (qs.map (rk ro p))))=_;rw[Ju,aU,h,aU];unfold ul;rw[aK,qW];dsimp only;rw[Kf (show(qs.map (rk ro p)).length<lim by rw[Kg];exact hl)];unfold xK;rw[uP,Kp hq,Kh (by simp)];show _=Res.ok (Fl.nx [_,_,_,_,_,_,_,some (.nst ((qs++[q]).map (rk ro p))),_,_,_]);rw[KI];rfl
end
noncomputable abbrev FD (nj ro na:Int)(ta tb:List Tri)(ea eb:List Int):D:=Mc nj (jj ro (na-ro) ta tb) (qN ro (na-ro) ea eb)
noncomputable abbrev eV (nj ro sg na nb:Int)(ta tb:List Tri)(ea eb:List Int)(ps qs:List Q2)(i:Int)(e9 e10:Option Sl):En:=eW (FD nj ro na ta tb ea eb) (Mc na ta ea) (Mc nb tb eb) ro sg [jj ro (na-ro) ta tb,ta,tb] (na-ro) ps qs i e9 e10
noncomputable abbrev rD (ro na:Int)(q:Q2):Option Sl:=vv (bF ro (na-ro) q) true
section
variable {ro sg ba na bb nb:Int}{ta tb:List Tri}{ea eb:List Int}{nj:Int}
theorem uQ (O:Own ro b n A)(h:n<=ro+15):A.length<=15:=by have:=iC A (lS ro n) (O.pw.imp fun{a b} h e=>by lia) fun x hx=>(iF _ _ _).mpr (O.box x hx);rw[iG]at this;lia
theorem uR (PA:PM ro sg ba na ta ea)(PB:PM ro sg bb nb tb eb)(h:uO ro ba na bb nb q)(p:Int):q.1.length<=15/\q.2.length<=15/\(oK ro p q).length<=30:=by
 have a1:=PA.b3;have a2:=PA.n12;have b1:=PB.b3;have b2:=PB.n12;have k:q.1.length<=15/\q.2.length<=15:=by
  rcases h with⟨r,h1,h2,rfl⟩|⟨h1,h2⟩
  .simp
  .exact⟨uQ h1 (by lia),uQ h2 (by lia)⟩
 have s:=jl (q.1++q.2.map (mv ro p));rw[KF,Kg]at s;exact⟨k.1,k.2,by unfold oK;lia⟩
theorem Aa (PA:PM ro sg ba na ta ea)(PB:PM ro sg bb nb tb eb)(h:uO ro ba na bb nb q)(hl:ps.length<1000000)(hj:(jj ro (na-ro) ta tb).length<=300)(k:Nat) :
 be (eV nj ro sg na nb ta tb ea eb ps qs i (rD ro na q) (vv (.int (k:Nat)) true))=.ok (.nx (eV nj ro sg na nb ta tb ea eb (ps++[oQ ta tb q k]) qs i (rD ro na q) (vv (.int (k:Nat)) true))):=by
 obtain⟨l1,l2,l3⟩:=uR PA PB h (na-ro);have la:=PA.lt;have lb:=PB.lt;generalize hE:eV nj ro sg na nb ta tb ea eb ps qs i (rD ro na q) (vv (.int (k:Nat)) true)=env;have hz:nq (ac (ag 5) (ac (ag 9) ap)) env=.ok ⟨[(jj ro (na-ro) ta tb,oK ro (na-ro) q),(ta,q.1),(tb,q.2)].map fun x=>.tup [bW x.1,tI x.2],true,[5]⟩:=by subst hE;simp_arith[cZ];rfl
 have hc:=bN (mk:=fun d=>gT 2 (bz (gN 0) (bz (gN 1) ju)) d true (dv env 2 [10])) (test:=fun _=>.ok true)
  (elt:=aT) (fun x:List Tri×List Int=>.tup [bW x.1,tI x.2]) (fun x=>.val (tI (oP x.1 x.2 k)) true []) [(jj ro (na-ro) ta tb,oK ro (na-ro) q),(ta,q.1),(tb,q.2)] fun x hx=>⟨_,rfl,rfl,by
    subst hE;show aT [vv (bW x.1) true,vv (tI x.2) true,vv (.int (k:Nat)) true]=_;have hh:x.1.length<=300/\x.2.length<=1000:=by
     simp only[Kj,Lc,MZ]at hx;rcases hx with rfl|rfl|rfl
     .exact⟨hj,KA l3 (by lia)⟩
     .exact⟨KA la (by lia),KA l1 (by lia)⟩
     .exact⟨KA lb (by lia),KA l2 (by lia)⟩
    have ht:=zW (ts:=x.1) hh.1 x.2 hh.2 ((k:Nat):Int);have fg:(bW x.1).flat=false:=rfl;have ft:=ff x.2;have ft2:=ff (oP x.1 x.2 k);have ht:cj [bW x.1,tI x.2,.int ((k:Nat):Int)]=.ok (.val (tI (oP x.1 x.2 k)) true []):=ht;simp_arith[aT,fg,ft,ft2,ht]⟩
 have hv:cC 2 [10] (nq (ac (ag 5) (ac (ag 9) ap))) (gT 2 (bz (gN 0) (bz (gN 1) ju))) (fun _=>.ok true) aT env=.ok (.new [tI (oK ro (na-ro) (oQ ta tb q k)),tI (oQ ta tb q k).1,tI (oQ ta tb q k).2] true):=by rw[za,hz,aU,cS (by show 3<=1000000;lia) hc,jB,cF,dg (aY _ _ fun c=>ff _)];show Res.ok (R.new [tI (oP (jj ro (na-ro) ta tb) (oK ro (na-ro) q) k),tI (oP ta q.1 k),tI (oP tb q.2 k)] true)=_;rw[z9 PA h];rfl
 have fr:=cZ ro (na-ro) (oQ ta tb q k);have kt:gI [.new [tI (oK ro (na-ro) (oQ ta tb q k)),tI (oQ ta tb q k).1,tI (oQ ta tb q k).2] true]=.ok (.val (bF ro (na-ro) (oQ ta tb q k)) true []):=by show Res.ok (mkV (bF ro (na-ro) (oQ ta tb q k)) true [])=_;rw[yJ fr]
 have hap:(ps.map (bF ro (na-ro))).length<1000000:=by rw[Kg];exact hl
 have e1:(ps++[oQ ta tb q k]).map (bF ro (na-ro))=ps.map (bF ro (na-ro))++[bF ro (na-ro) (oQ ta tb q k)]:=by rw[KI];rfl
 show sj 6 _ env=Res.ok (Fl.nx [_,_,_,_,_,_,ow ((ps++[oQ ta tb q k]).map (bF ro (na-ro))) true,_,_,_,_]);rw[e1];have hB:gf gI (ac (cC 2 [10] (nq (ac (ag 5) (ac (ag 9) ap))) (gT 2 (bz (gN 0) (bz (gN 1) ju))) (fun _=>.ok true) aT) ap) env=.ok (.val (bF ro (na-ro) (oQ ta tb q k)) true []):=by rw[Hr,dC,hv,aU];simp_arith[kt]
 subst hE;rw[CT,show(eV nj ro sg na nb ta tb ea eb ps qs i (rD ro na q) (vv (.int (k:Nat)) true))[6]?=some (ow (ps.map (bF ro (na-ro))) true) from rfl,zb,hB,aU,zd hap rfl];rfl
noncomputable abbrev Ac (ta tb:List Tri)(q:Q2)(n:Nat):List Q2:=(List.range n).map fun k=>oQ ta tb q ((k:Nat):Int)
theorem sP (PA:PM ro sg ba na ta ea)(PB:PM ro sg bb nb tb eb)(h:uO ro ba na bb nb q)(n:Nat)(hl:ps.length+n<1000000)(hj:(jj ro (na-ro) ta tb).length<=300) :
 ∃ e10',cB (gN 10) true be ((List.range n).map fun k=>.int ((k:Nat):Int)) (eV nj ro sg na nb ta tb ea eb ps qs i (rD ro na q) e10)=.ok (.nx (eV nj ro sg na nb ta tb ea eb (ps++Ac ta tb q n) qs i (rD ro na q) e10')):=by
 obtain⟨aO,h1,e,h2⟩:=oB (fun k:Nat=>D.int ((k:Nat):Int)) (asg:=gN 10) (fr:=true) (body:=be) (List.range n) (fun pre env=>∃ e,env=eV nj ro sg na nb ta tb ea eb (ps++pre.map fun k=>oQ ta tb q ((k:Nat):Int)) qs i (rD ro na q) e) (List.range n) [] (eV nj ro sg na nb ta tb ea eb ps qs i (rD ro na q) e10) rfl ⟨e10,by rw[N6,La]⟩ (by
  rintro pre post k env hall ⟨e,rfl⟩;have hpl:pre.length<n:=by have:=KN List.length hall;simp at this;lia
  refine⟨_,_,rfl,Aa PA PB h (by simp;lia) hj k,vv (.int ((k:Nat):Int)) true,?_⟩;rw[KI,<- Ko];rfl)
 exact⟨e,by rw[h1,h2]⟩
theorem wg (PA:PM ro sg ba na ta ea)(PB:PM ro sg bb nb tb eb)(h:uO ro ba na bb nb q) :
 vB (v2 tP (aC aH (ac (ag 0) (ac (aB 9 (vC (.int 0))) ap))) (IE (aC aH (ac (ag 1) (ac (aB 9 (vC (.int 1))) ap))) (aC aH (ac (ag 2) (ac (aB 9 (vC (.int 2))) ap))))) (eV nj ro sg na nb ta tb ea eb ps qs i (rD ro na q) e10)=.ok false:=by
 obtain⟨l1,l2,l3⟩:=uR PA PB h (na-ro);have a0:aH [FD nj ro na ta tb ea eb,tI (oK ro (na-ro) q)]=_:=lR (oK ro (na-ro) q) (by lia);have a1:aH [Mc na ta ea,tI q.1]=_:=lR q.1 (by lia);have a2:aH [Mc nb tb eb,tI q.2]=_:=lR q.2 (by lia);rw[z_ PA h]at a0;have f0:=aL nj (jj ro (na-ro) ta tb) (qN ro (na-ro) ea eb);have f1:=aL na ta ea;have f2:=aL nb tb eb;have t0:=ff (oK ro (na-ro) q);have t1:=ff q.1;have t2:=ff q.2;have ne:∀ x:Bool,tP (.val (.bl x) true []) (.val (.bl x) true [])=.ok (.val (.bl false) true []):=fun x=>by rw[yK (by rw[aK,sG];lia) (by rw[aK,sG];lia),aK,cz];rfl
 unfold rD bF;cases hx:sN ea q.1 with
 |true=>rw[hx]at a0 a1;simp_arith[f0,f1,f2,t0,t1,t2,a0,a1,Bool.true_or,ne]
 |false=>rw[hx]at a0 a1;simp_arith[f0,f1,f2,t0,t1,t2,a0,a1,a2,Oj,ne]
end
section
variable {ro sg ba na bb nb:Int}{ta tb:List Tri}{ea eb:List Int}
theorem FG (h:atI ps ((i:Nat):Int)=some q) :
 bw 9 (aB 6 (ag 8)) (eW F A B ro sg ws p ps qs ((i:Nat):Int) e9 e10)=.ok (.nx (eW F A B ro sg ws p ps qs ((i:Nat):Int) (vv (bF ro p q) true) e10)):=by
 have ha:atI (ps.map (bF ro p)) ((i:Nat):Int)=some (bF ro p q):=by rw[uw,h];rfl
 simp_arith[ha,cZ]
theorem FH :
 v4 8 (vC (.int 1)) (eW F A B ro sg ws p ps qs ((i:Nat):Int) e9 e10)=.ok (.nx (eW F A B ro sg ws p ps qs (((i+1:Nat):Nat):Int) e9 e10)):=by
 simp_arith;rfl
theorem Ad (PA:PM ro sg ba na ta ea)(PB:PM ro sg bb nb tb eb)(h3:ro<=3)(g0:0<sg)(g3:sg<=3)(hj:(jj ro (na-ro) ta tb).length<=300){nj:Int} :
 ∀(n i:Nat)(ps qs:List Q2)(e9 e10:Option Sl),33000<i+n->(∀ q∈ps,uO ro ba na bb nb q)->(∀ q∈qs,uO ro ba na bb nb q)->qs.Nodup->ps.length=ro.toNat+sg.toNat*qs.length->i<=ps.length->
  ∃ aO,de (vB (v2 wm (ag 8) (gf me (ac (ag 6) ap)))) ck n (eV nj ro sg na nb ta tb ea eb ps qs ((i:Nat):Int) e9 e10)=.ok (.nx aO):=by
 intro n;induction n with
 |zero=>intro i ps qs e9 e10 hn hp hq nd hl hi;have few:=qU PA PB h3 nd hq;have:sg.toNat*qs.length<=3*10819:=Oc (by lia) few;lia
 |succ n ih=>
  intro i ps qs e9 e10 hn hp hq nd hl hi;have few:=qU PA PB h3 nd hq;have:sg.toNat*qs.length<=3*10819:=Oc (by lia) few;have hc:vB (v2 wm (ag 8) (gf me (ac (ag 6) ap))) (eV nj ro sg na nb ta tb ea eb ps qs ((i:Nat):Int) e9 e10)=.ok (decide (((i:Nat):Int)<((ps.map (bF ro (na-ro))).length:Nat))):=by simp_arith
  rw[Kg]at hc;unfold de;rw[hc,aU];by_cases hlt:i<ps.length
  .rw[Kl (show((i:Nat):Int)<((ps.length:Nat):Int) by lia),Kf rfl];obtain⟨q,ha,hq2⟩:=zH (xs:=ps) (k:=((i:Nat):Int)) (by lia) (by lia);have hqm:q∈ps:=LM hq2;have P:=hp q hqm;unfold ck;rw[cM,FG ha,aU,gw,cM,FH,aU,gw,cM,sB,FE,aU];by_cases hin:q∈qs
   .rw[Kl hin,uq];exact ih (i+1) ps qs (rD ro na q) e10 (by lia) hp hq nd hl hlt
   .obtain⟨e10',hs⟩:=sP (nj:=nj) (qs:=qs++[q]) (i:=((i+1:Nat):Int)) (e10:=e10) (ps:=ps) PA PB P sg.toNat (by lia) hj;have hf:kZ (A3 (ac (ag 4) ap)) (gN 10) be (eV nj ro sg na nb ta tb ea eb ps (qs++[q]) ((i+1:Nat):Int) (rD ro na q) e10)=.ok (.nx (eV nj ro sg na nb ta tb ea eb (ps++Ac ta tb q sg.toNat) (qs++[q]) ((i+1:Nat):Int) (rD ro na q) e10')):=by
     have m1:-4611686018427387904<=sg:=by lia
     have m2:sg<4611686018427387904:=by lia
     rw[yY,show A3 (ac (ag 4) ap) (eV nj ro sg na nb ta tb ea eb ps (qs++[q]) ((i+1:Nat):Int) (rD ro na q) e10)=.ok ⟨dB 0 sg.toNat,true,[]⟩ by simp_arith[ql,m1,m2],aU,j7];exact hs
    rw[Kp hin,lu,nv,aU,gw,cM,Cb hin (by lia),aU,gw,cM,sB,wg PA PB P,aU,lu,nv,aU,gw,hf,aU];refine ih (i+1) (ps++Ac ta tb q sg.toNat) (qs++[q]) (rD ro na q) e10' (by lia) (fun x hx=>?_) (fun x hx=>?_) ?_ ?_ (by rw[KF];lia)
    .rcases Ku.mp hx with h|h
     .exact hp x h
     .obtain⟨k,_,rfl⟩:=Kq.mp h;exact zZ PA PB P _
    .rcases Ku.mp hx with h|h
     .exact hq x h
     .rw[KO]at h;exact h▸P
    .rw[MD];refine⟨nd,by simp,fun a ha b hb e=>?_⟩;rw[KO]at hb;exact hin (by rw[<- hb,<- e];exact ha)
    .simp only[KF,Kg,L7,L9,hl,Nat.mul_add];lia
  .rw[Kp (show ¬ ((i:Nat):Int)<((ps.length:Nat):Int) by lia),Kh (by simp)];exact⟨_,rfl⟩
theorem sQ (n:Nat)(hn:((n:Nat):Int)<=ro)(h3:n<=3):fU 1 [] (gN 0) (fun _=>.ok true) aS env ⟨dB 0 n,true,[]⟩=.ok (.new (((List.range n).map fun k=>(([((k:Nat):Int)],[((k:Nat):Int)]):Q2)).map (bF ro p)) true):=by
 have h:=bN (mk:=fun d=>gN 0 d true (dv env 1 [])) (test:=fun _=>.ok true)
  (elt:=aS) (fun k:Nat=>D.int k) (fun k=>.val (bF ro p (([((k:Nat):Int)],[((k:Nat):Int)]):Q2)) true []) (List.range n) fun k hk=>⟨_,rfl,rfl,by
    show aS [vv (.int (k:Nat)) true]=_;have hk:=K3.mp hk;have e:oK ro p (([((k:Nat):Int)],[((k:Nat):Int)]):Q2)=[((k:Nat):Int)]:=by unfold oK;rw[Kx,N6,nF (by lia)];show ie _ (ie _ [])=_;simp[ie]
    unfold bF tI;rw[e];simp_arith[aS]⟩
 rw[j7,cS (by rw[Kg,L7];lia) h,jB,cF,dg (aY _ _ fun c=>cZ _ _ _),KC];rfl
noncomputable abbrev Ib (ro:Int):List Q2:=(List.range ro.toNat).map fun k=>([((k:Nat):Int)],[((k:Nat):Int)])
noncomputable abbrev e0 (nj ro sg na nb:Int)(ta tb:List Tri)(ea eb:List Int)(r:En):En:=vv (FD nj ro na ta tb ea eb) false::vv (Mc na ta ea) false::vv (Mc nb tb eb) false::vv (.int ro) false::vv (.int sg) false::ow [bW (jj ro (na-ro) ta tb),bW ta,bW tb] true::r
theorem jF (PA:PM ro sg ba na ta ea)(PB:PM ro sg bb nb tb eb)(h0:0<ro)(h3:ro<=3)(g0:0<sg)(g3:sg<=3)(hj:(jj ro (na-ro) ta tb).length<=300) :
 bB [FD nj ro na ta tb ea eb,Mc na ta ea,Mc nb tb eb,.int ro,.int sg]=.ok (.val (.bl true) true []):=by
 have la:=PA.lt;have lb:=PB.lt;have o0:=oH (n:=nj) (es:=qN ro (na-ro) ea eb) (ts:=jj ro (na-ro) ta tb) (by lia);have o1:=oH (n:=na) (es:=ea) (ts:=ta) (by lia);have o2:=oH (n:=nb) (es:=eb) (ts:=tb) (by lia);have f0:=aL nj (jj ro (na-ro) ta tb) (qN ro (na-ro) ea eb);have f1:=aL na ta ea;have f2:=aL nb tb eb;have m1:-4611686018427387904<=ro:=by lia
 have m2:ro<4611686018427387904:=by lia
 obtain⟨aO,hw⟩:=Ad PA PB h3 g0 g3 hj (nj:=nj) 100000 0 (Ib ro) [] none none (by lia) (fun q hq=>by obtain⟨k,hk,rfl⟩:=Kq.mp hq;have:=K3.mp hk;exact .inl ⟨((k:Nat):Int),by lia,by lia,rfl⟩) (fun q hq=>nomatch hq) MP (by simp) (KU _);have s1:bw 5 (gv (ac (aC bd (ac (ag 0) ap)) (ac (aC bd (ac (ag 1) ap)) (ac (aC bd (ac (ag 2) ap)) ap)))) (fL bA [FD nj ro na ta tb ea eb,Mc na ta ea,Mc nb tb eb,.int ro,.int sg])=.ok (.nx (e0 nj ro sg na nb ta tb ea eb [none,none,none,none,none])):=by have g1:(bW (jj ro (na-ro) ta tb)).flat=false:=rfl;have g2:(bW ta).flat=false:=rfl;have g3:(bW tb).flat=false:=rfl;simp_arith[o0,o1,o2,f0,f1,f2,g1,g2,g3]
 have s2:bw 6 (cC 1 [] (A3 (ac (ag 3) ap)) (gN 0) (fun _=>.ok true) aS) (e0 nj ro sg na nb ta tb ea eb [none,none,none,none,none])=.ok (.nx (e0 nj ro sg na nb ta tb ea eb [ow ((Ib ro).map (bF ro (na-ro))) true,none,none,none,none])):=by simp_arith[ql,m1,m2,fun env=>sQ (ro:=ro) (env:=env) (p:=na-ro) ro.toNat (by lia) (by lia)]
 unfold bB L3.dE fy;rw[cM,s1,aU,gw,cM,s2,aU,gw,cM];show dc ((Res.ok (Fl.nx (e0 nj ro sg na nb ta tb ea eb [ow ((Ib ro).map (bF ro (na-ro))) true,some (.nst []),none,none,none]))).bind _)=_;rw[aU,gw,cM];have s4:bw 8 (vC (.int 0)) (e0 nj ro sg na nb ta tb ea eb [ow ((Ib ro).map (bF ro (na-ro))) true,some (.nst []),none,none,none])=.ok (.nx (eV nj ro sg na nb ta tb ea eb (Ib ro) [] ((0:Nat):Int) none none)):=by simp_arith;rfl
 rw[s4,aU,gw,cM,hw,aU,gw];rfl
theorem PM.plain (P:PM ro sg ba na ta ea):cn ro ta=true:=by unfold cn;rw[Lm];exact fun t ht=>Kl (P.arr t ht).2.2.2.2.1
theorem sR (PA:PM ro sg ba na ta ea)(PB:PM ro sg bb nb tb eb)(p:Int):(jj ro p ta tb).length<=84/\(qN ro p ea eb).length<=14:=by have a1:=PA.lt;have a2:=PA.le;have b1:=PB.lt;have b2:=PB.le;have h1:=f7 (ta++tb.map (B6 ro p));have h2:=jl (ea++eb.map (mv ro p));rw[KF,Kg]at h1 h2;exact⟨by show(arrsOf _).length<=84;lia,by show(sortI _).length<=14;lia⟩
theorem Cc (PA:PM ro sg ba na ta ea)(PB:PM ro sg bb nb tb eb)(h0:0<ro):Good (nb+(na-ro)) ro sg (jj ro (na-ro) ta tb) (qN ro (na-ro) ea eb):=by
 obtain⟨l1,l2⟩:=sR PA PB (na-ro);have a1:=PA.rb;have a2:=PA.bn;have b1:=PB.rb;have b2:=PB.bn;have mb:∀ x,0<=x->x<nb->0<=mv ro (na-ro) x/\mv ro (na-ro) x<nb+(na-ro)/\(ro<=x->ro<=mv ro (na-ro) x):=fun x h1 h2=>by
  by_cases h:x<ro
  .rw[nF h];lia
  .rw[qV (by lia)];lia
 refine⟨by lia,fun t ht=>?_,fun e he=>?_,ji _,sI _ (df _),by lia,by lia⟩
 .rcases jo_mem.mp ht with h|⟨u,hu,rfl⟩
  .have:=PA.arr t h;lia
  .obtain⟨u1,u2,u3,u4,u5,u6⟩:=PB.arr u hu;have m1:=mb u.1 u1 u2;have m2:=mb u.2.2 (by lia) u6;exact⟨m1.1,m1.2.1,u3,u4,m2.2.2 u5,m2.2.1⟩
 .rcases (mrg_mem (q:=(ea,eb))).mp he with h|⟨u,hu,rfl⟩
  .have:=PA.ends e h;lia
  .have:=PB.ends u hu;have:=mb u this.1 this.2;lia
theorem oN (n:Int)(ts:List Tri)(es:List Int):(Mc n ts es).dep<=50:=by have h1:D.deps (ts.map tD)<=1:=lA fun t=>zM t;have h2:=je es;unfold Mc;simp only[uu,j6,jb,ot,lw];lia
theorem Cd:rV (.val (Mc n ts es) f al) (.val (Mc n ts es) g bl)=.ok (.val (.bl true) true []):=by rw[sC (a:=.val (Mc n ts es) f al) (b:=.val (Mc n ts es) g bl) (oN _ _ _) (oN _ _ _),aK,aK,cz]
theorem Ce:tP (.val (Mc n ts es) f al) (.val (Mc n ts es) g bl)=.ok (.val (.bl false) true []):=by rw[yK (a:=.val (Mc n ts es) f al) (b:=.val (Mc n ts es) g bl) (oN _ _ _) (oN _ _ _),aK,aK,cz];rfl
noncomputable abbrev eL (ns:List Int)(size ro sg:Int)(A B:D)(fa fb:Bool)(e7 e8 e9 e10 e11:Option Sl):En:=[vv (.lst (ns.map .int)) false,vv (.int size) true,vv (.int ro) true,vv (.int sg) true,vv (lM ro sg) true,vv A fa,vv B fb,e7,e8,e9,e10,e11]
theorem uS (h:env[i]?=some (vv (Mc n ts es) f)) :
 G1 (aB i (vC (.int 0))) (gf cA (ac (aB i (vC (.int 1))) ap)) (gf cA (ac (aB i (vC (.int 2))) ap)) env=.ok (.fre (Mc n ts es)):=by
 have fl:D.flats (ts.map tD)=true:=aY _ _ gq;unfold Mc at h ⊢;simp_arith[h,oo,j3,fl,aN];exact Ft (r0:=.val (.int n) true []) rfl fl (aN es)
theorem FI (PA:PM ro sg ba na ta ea)(PB:PM ro sg bb nb tb eb)(h0:0<ro)(h3:ro<=3)(g0:0<sg)(g3:sg<=3) :
 dc (lG (eL ns size ro sg (Mc na ta ea) (Mc nb tb eb) fa fb e7 e8 (tt (Mc na ta ea)) (tt (Mc nb tb eb)) none))=.ok (.val (.bl true) true []):=by
 have a1:=PA.lt;have a2:=PA.le;have b1:=PB.lt;have b2:=PB.le;have j1:=lO ro sg na nb ta tb ea eb (by lia) (by lia) (by lia) (by lia) PA.plain PB.plain;have j2:=lO ro sg na na ta ta ea ea (by lia) (by lia) (by lia) (by lia) PA.plain PA.plain;have m1:=sM (Cc PA PB h0);have t1:=jF PA PB h0 h3 g0 g3 (by have:=sR PA PB (na-ro);lia) (nj:=nb+(na-ro));have t2:=jF PA PA h0 h3 g0 g3 (by have:=sR PA PA (na-ro);lia) (nj:=na+(na-ro));have f0:=aL (nb+(na-ro)) (jj ro (na-ro) ta tb) (qN ro (na-ro) ea eb);have f1:=aL na ta ea;have f2:=aL nb tb eb;have f3:=aL (na+(na-ro)) (jj ro (na-ro) ta ta) (qN ro (na-ro) ea ea);have fh:(lM ro sg).flat=false:=by unfold lM;simp only[fW,cq,fV,il,NW,MO]
 have c1:∀(j:Nat)(env:En)(d:D),env[11]?=some (tt (Mc (nb+(na-ro)) (jj ro (na-ro) ta tb) (qN ro (na-ro) ea eb)))->jy 11 1 env=.ok (.nx (env.set 11 (some (.mes (Mc (nb+(na-ro)) (jj ro (na-ro) ta tb) (qN ro (na-ro) ea eb)))))):=fun j env d h=>by unfold jy vO;rw[h];rfl
 have c2:∀(env:En),env[11]?=some (some (.mes (Mc (nb+(na-ro)) (jj ro (na-ro) ta tb) (qN ro (na-ro) ea eb))))->jy 11 2 env=.ok (.nx (env.set 11 (some (.mes (Mc (nb+(na-ro)) (jj ro (na-ro) ta tb) (qN ro (na-ro) ea eb)))))):=fun env h=>by unfold jy vO;rw[h];rfl
 unfold FD at t1 t2;generalize nb+(na-ro)=nj at *;generalize na+(na-ro)=nk at *;generalize jj ro (na-ro) ta tb=tj at *;generalize qN ro (na-ro) ea eb=ej at *;generalize jj ro (na-ro) ta ta=tk at *;generalize qN ro (na-ro) ea ea=ek at *;unfold lG;simp_arith[j1,f0,f1,f2,fh];unfold qC;simp_arith[m1,f0,f1,f2,Ce];unfold qB;simp_arith[t1,f0,f1,f2];unfold qA;rw[cM,c1 0 _ .non rfl,aU,gw];unfold qz;rw[cM,c2 _ rfl,aU,gw];unfold qy;simp_arith[Cd,j2,t2,f1,f2,f3,fh]
theorem FJ (PA:PM ro sg ba na ta ea)(PB:PM ro sg bb nb tb eb)(h0:0<ro)(h3:ro<=3)(g0:0<sg)(g3:sg<=3) :
 dc (iB (eL ns size ro sg (Mc na ta ea) (Mc nb tb eb) fa fb e7 e8 none none none))=.ok (.val (.bl true) true []):=by
 unfold iB;rw[cM,yI,uS (n:=na) (ts:=ta) (es:=ea) (f:=fa) rfl,aU];simp_arith;unfold qD;rw[cM,yI,uS (n:=nb) (ts:=tb) (es:=eb) (f:=fb) rfl,aU];simp_arith;exact FI PA PB h0 h3 g0 g3
theorem nG (P:PM ro sg ba n ts es)(hb:bad.2.2<ro)(h:env[i]?=some (vv (Mc n ts es) f))(h8:env[8]?=some (vv (tD bad) g)) :
 ∃ f' al,dt (ac (aB i (vC (.int 0))) (ac (gf ja (ac (v2 bT (aB i (vC (.int 1))) (gv (ac (ag 8) ap))) ap)) (ac (gf cA (ac (aB i (vC (.int 2))) ap)) ap))) env=.ok (.val (Mc n (arrsOf (ts++[bad])) es) f' al):=by
 have lt:=P.lt;have nd:(ts++[bad]).Nodup:=by rw[MD];refine⟨by rw[<- P.srt];exact lL _,by simp,fun a ha b hb' e=>?_⟩;rw[KO]at hb';have:=P.arr a ha;rw[e,hb']at this;lia
 have hk:∀ f al,ja [.val (.lst (ts.map tD++[tD bad])) f al]=.ok (.new ((arrsOf (ts++[bad])).map tD) true):=fun f al=>sK (ts++[bad]) (by simp;lia) nd (by rw[aK,KI];rfl);have hl:(ts.map tD).length+[tD bad].length<=1000000:=by simp;lia
 have fl:D.flats (ts.map tD++[tD bad])=true:=lz fun d hd=>by
  rcases Ku.mp hd with h|h
  .obtain⟨x,_,rfl⟩:=Kq.mp h;rfl
  .rw[KO]at h;subst h;rfl
 have hk2:∀ f,ja [.new (ts.map tD++[tD bad]) f]=.ok (.new ((arrsOf (ts++[bad])).map tD) true):=fun f=>sK (ts++[bad]) (by simp;lia) nd (by rw[gk,KI];rfl);have hv:ag 8 env=.ok (.val (tD bad) true []):=by simp_arith[h8,gq]
 unfold Mc at h ⊢;refine⟨?_,?_,?_⟩
 rotate_left
 rotate_left
 .simp_arith[h,h8,hv,gq,oo,j3,aN,om hl,fl,hk,hk2];rfl
theorem nH (hb:bad.2.2<ro):cn ro (arrsOf (ta++[bad]))=false:=by unfold cn;rw[List.all_eq_false];exact⟨bad,(d7 _ _).mpr (by simp),by simpa using hb⟩
theorem Ae (r g:Int):(lM r g).flat=false:=by unfold lM;simp only[fW,cq,fV,il,NW,MO]
noncomputable abbrev eK (ns:List Int)(size ro sg na nb odd:Int)(ta tb:List Tri)(ea eb:List Int)(fa fb:Bool)(bad:Tri):En:=eL ns size ro sg (Mc na ta ea) (Mc nb tb eb) fa fb (vv (.int odd) true) (vv (tD bad) true) none none none
theorem FK (PA:PM ro sg ba na ta ea)(PB:PM ro sg bb nb tb eb)(h0:0<ro)(h3:ro<=3)(g0:0<sg)(g3:sg<=3)(hb:bad.2.2<ro) :
 dc (lH (eK ns size ro sg na nb odd ta tb ea eb fa fb bad))=.ok (.val (.bl true) true []):=by
 have la:=PA.lt;have lb:=PB.lt;have hL:dc (iB (eK ns size ro sg na nb odd ta tb ea eb fa fb bad))=_:=FJ PA PB h0 h3 g0 g3;have f1:=aL na ta ea;have f2:=aL nb tb eb;have fh:=Ae ro sg;obtain⟨f3,al3,s1⟩:=nG (i:=5) (env:=eK ns size ro sg na nb odd ta tb ea eb fa fb bad) PA hb rfl rfl;obtain⟨f4,al4,s2⟩:=nG (i:=6) (env:=eK ns size ro sg na nb odd ta tb ea eb fa fb bad) PB hb rfl rfl;have a1:=f7 (ta++[bad]);have a2:=f7 (tb++[bad]);rw[KF,L9]at a1 a2;have r1:=lP ro sg na nb (arrsOf (ta++[bad])) tb ea eb (by lia) (by lia) (by rw[nH hb];rfl);have r2:=lP ro sg na nb ta (arrsOf (tb++[bad])) ea eb (by lia) (by lia) (by rw[nH hb,ND]);have c1:gu (aC aW (ac (ag 4) (ac (dt (ac (aB 5 (vC (.int 0))) (ac (gf ja (ac (v2 bT (aB 5 (vC (.int 1))) (gv (ac (ag 8) ap))) ap)) (ac (gf cA (ac (aB 5 (vC (.int 2))) ap)) ap)))) (ac (ag 6) ap)))) (eK ns size ro sg na nb odd ta tb ea eb fa fb bad)=.ok true:=by rw[sE,sD,dC,show ag 4 (eK ns size ro sg na nb odd ta tb ea eb fa fb bad)=.ok (.val (lM ro sg) true []) by simp_arith[fh],aU];rw[ig,dC,s1,aU,ig,dC,show ag 6 (eK ns size ro sg na nb odd ta tb ea eb fa fb bad)=.ok (.val (Mc nb tb eb) fb []) by simp_arith[f2],aU];simp_arith[r1]
 have c2:gu (aC aW (ac (ag 4) (ac (ag 5) (ac (dt (ac (aB 6 (vC (.int 0))) (ac (gf ja (ac (v2 bT (aB 6 (vC (.int 1))) (gv (ac (ag 8) ap))) ap)) (ac (gf cA (ac (aB 6 (vC (.int 2))) ap)) ap)))) ap)))) (eK ns size ro sg na nb odd ta tb ea eb fa fb bad)=.ok true:=by rw[sE,sD,dC,show ag 4 (eK ns size ro sg na nb odd ta tb ea eb fa fb bad)=.ok (.val (lM ro sg) true []) by simp_arith[fh],aU];rw[ig,dC,show ag 5 (eK ns size ro sg na nb odd ta tb ea eb fa fb bad)=.ok (.val (Mc na ta ea) fa []) by simp_arith[f1],aU,ig,dC,s2,aU];simp_arith[r2]
 generalize hE:eK ns size ro sg na nb odd ta tb ea eb fa fb bad=env at *;have v7:env[7]?=some (vv (.int odd) true):=by subst hE;rfl
 have q1:vB (v2 rV (v2 cP (ag 7) (vC (.int 5))) (vC (.int 1))) env=.ok (odd % 5==1):=by simp_arith[v7,sC]
 have q2:vB (v2 rV (v2 cP (v2 fG (ag 7) (vC (.int 5))) (vC (.int 2))) (vC (.int 0))) env=.ok (odd / 5 % 2==0):=by simp_arith[v7,sC]
 unfold lH;rw[cM,sB,q1,aU];by_cases h1:odd % 5=1
 .rw[show(odd % 5==1)=true by rw[h1];rfl,uq,sB,q2,aU];by_cases h2:odd / 5 % 2=0
  .rw[show(odd / 5 % 2==0)=true by rw[h2];rfl,uq,sB,sF,c1,aU,oq,aU,Lu,lu,nv,aU,gw];exact hL
  .rw[show(odd / 5 % 2==0)=false by simpa using h2,lu,sB,sF,c2,aU,oq,aU,Lu,lu,nv,aU,gw];exact hL
 .rw[show(odd % 5==1)=false by simpa using h1,lu,nv,aU,gw];exact hL
theorem C6 (PA:PM ro sg ba na ta ea)(PB:PM ro sg bb nb tb eb)(h0:0<ro)(h3:ro<=3)(g0:0<sg)(g3:sg<=3) :
 dc (oE (eL ns size ro sg (Mc na ta ea) (Mc nb tb eb) fa fb none none none none none))=.ok (.val (.bl true) true []):=by
 have r2:ro<1073741824:=by lia
 have g2:sg<1073741824:=by lia
 have hb:=L0 (cell ns 3 / 90) h0;have hL:=FK PA PB h0 h3 g0 g3 (ns:=ns) (size:=size) (odd:=cell ns 3) (fa:=fa) (fb:=fb) (bad:=(cell ns 3 / 10 % ro,cell ns 3 / 30 % sg,cell ns 3 / 90 % ro)) hb;unfold oE;simp_arith[Ia];unfold uy;simp_arith[h0,r2,g0,g2];exact hL
end
theorem Ic (ns:List Int)(size ro sg:Int)(h0:0<ro)(h3:ro<=3)(g0:0<sg)(g3:sg<=3) :
 dc (oF [vv (.lst (ns.map .int)) false,vv (.int size) true,vv (.int ro) true,vv (.int sg) true,vv (lM ro sg) true,none,none,none,none,none,none,none])=.ok (.val (.bl true) true []):=by
 have c1:=oC ns 1;have c2:=oC ns 2;obtain⟨na,A,ea,al1,PA,a1,a2,hA⟩:=qM (bV ns (some 4) (some 64) (some 2)) (qK ns 4 (by lia) (by lia)) (cell ns 1) ro sg c1 h0 h3 g0 g3;obtain⟨nb,B,eb,al2,PB,b1,b2,hB⟩:=qM (bV ns (some 5) (some 64) (some 2)) (qK ns 5 (by lia) (by lia)) (cell ns 2) ro sg c2 h0 h3 g0 g3;have p4:∀{f:Bool}{al:List Nat},ic (.val (.lst (ns.map D.int)) f al) (some 4) (some 64) (some 2)=.ok (.new ((bV ns (some 4) (some 64) (some 2)).map .int) true):=fun{f al}=>by rw[uE (by decide),qJ,dg (aN _)]
 have p5:∀{f:Bool}{al:List Nat},ic (.val (.lst (ns.map D.int)) f al) (some 5) (some 64) (some 2)=.ok (.new ((bV ns (some 5) (some 64) (some 2)).map .int) true):=fun{f al}=>by rw[uE (by decide),qJ,dg (aN _)]
 unfold oF;simp_arith[qH,p4,HZ,hA,aL];unfold uA;simp_arith[qH,p5,H_,hB,aL];unfold uz;by_cases h:size / 9 % 8=3
 .have hb:(size / 9 % 8==3)=true:=by rw[h];rfl
  have k3:=Mv (size / 72) (show ro≠0 by lia);have k4:=L0 (size / 72) h0;have r2:ro<1073741824:=by lia
  obtain⟨n1,t1,e1,al3,P1,f1⟩:=zR (num:=size / 216) PA a1 a2 k3 k4 g0 g3;obtain⟨n2,t2,e2,al4,P2,f2⟩:=zR (num:=size / 5003) PB b1 b2 k3 k4 g0 g3;simp_arith[sC,hb,h0,r2,aL,f1,f2];exact C6 P1 P2 h0 h3 g0 g3
 .have hb:(size / 9 % 8==3)=false:=by simpa using h
  simp_arith[sC,hb];exact C6 PA PB h0 h3 g0 g3
theorem FL (ns:List Int)(hl:ns.length<=63):qE [.lst (ns.map .int)]=.ok (.val (.bl true) true []):=by have hc:=oC ns 0;have hr:=Ic ns (cell ns 0) (1+cell ns 0 % 3) (1+cell ns 0 / 3 % 3) (by lia) (by lia) (by lia) (by lia);simp_arith[qE,CZ,HY,uD,uC,uB];exact hr
end W
open PySem PySem.W PyProof.Rows
set_option maxRecDepth 100000 in
set_option maxHeartbeats 0 in
theorem PySem.Challenge.cw_callwalk_k14_joining_holds : PySem.Challenge.rw_callwalk_k14_joining.Holds := by
 w_on;o_law;k_head;(case hw=>w_witness2)
 k_fill
 refine L2.xD (l:=PySem.Challenge.rw_callwalk_k14_joining) (n:=63) (k:=5) (x:="_law_script") (CX:=fun w=>L2.iH PySem.Challenge.pw_callwalk_k14_joining w) (sp:=fun _=>L3.IH W.qE) rfl (by decide) rfl ⟨rfl,by decide,by decide⟩ (fun w h Y=>PySem.W.kIn_of Y) ?kL ?F ?S ?C
 case kL=>exact fun w=>⟨by rfl,by rfl⟩
 case F=>
  intro w mg fa h KX G hmg
  refine' Exists.imp (fun _ z=>⟨z.1,fun base _ _=>z.2 base⟩) (W.Fv hmg ?_)
  refine' Exists.imp (fun _ _=>True.intro) (W.HX KX G L2.vt ?a_a ?l_a ?c_a ?a_b ?l_b ?c_b ?a_c ?l_c ?c_c ?a_d ?l_d ?c_d ?a_e ?l_e ?c_e ?a_f ?l_f ?c_f ?a_g ?l_g ?c_g ?a_h ?l_h ?c_h ?a_i ?l_i ?c_i ?a_j ?l_j ?c_j ?a_k ?l_k ?c_k ?a_l ?l_l ?c_l ?a_m ?l_m ?c_m ?a_n ?l_n ?c_n ?a_o ?l_o ?c_o ?a_p ?l_p ?c_p ?a_q ?l_q ?c_q ?z_all ?z_any ?z_bool ?z_int ?z_isinstance ?z_len ?z_list ?z_range ?z_set ?z_sorted ?z_tuple ?z_zip ?b_NotPlain ?e_NotPlain ?m_NotPlain_NotPlain)
  (case a_a=>k_is)
  (case l_a=>k_is)
  (case c_a=>k_is)
  (case a_b=>k_is)
  (case l_b=>k_is)
  (case c_b=>k_is)
  (case a_c=>k_is)
  (case l_c=>k_is)
  (case c_c=>k_is)
  (case a_d=>k_is)
  (case l_d=>k_is)
  (case c_d=>k_is)
  (case a_e=>k_is)
  (case l_e=>k_is)
  (case c_e=>k_is)
  (case a_f=>k_is)
  (case l_f=>k_is)
  (case c_f=>k_is)
  (case a_g=>k_is)
  (case l_g=>k_is)
  (case c_g=>k_is)
  (case a_h=>k_is)
  (case l_h=>k_is)
  (case c_h=>k_is)
  (case a_i=>k_is)
  (case l_i=>k_is)
  (case c_i=>k_is)
  (case a_j=>k_is)
  (case l_j=>k_is)
  (case c_j=>k_is)
  (case a_k=>k_is)
  (case l_k=>k_is)
  (case c_k=>k_is)
  (case a_l=>k_is)
  (case l_l=>k_is)
  (case c_l=>k_is)
  (case a_m=>k_is)
  (case l_m=>k_is)
  (case c_m=>k_is)
  (case a_n=>k_is)
  (case l_n=>k_is)
  (case c_n=>k_is)
  (case a_o=>k_is)
  (case l_o=>k_is)
  (case c_o=>k_is)
  (case a_p=>k_is)
  (case l_p=>k_is)
  (case c_p=>k_is)
  (case a_q=>k_is)
  (case l_q=>k_is)
  (case c_q=>k_is)
  (case z_all=>k_is)
  (case z_any=>k_is)
  (case z_bool=>k_is)
  (case z_int=>k_is)
  (case z_isinstance=>k_is)
  (case z_len=>k_is)
  (case z_list=>k_is)
  (case z_range=>k_is)
  (case z_set=>k_is)
  (case z_sorted=>k_is)
  (case z_tuple=>k_is)
  (case z_zip=>k_is)
  (case b_NotPlain=>k_is)
  (case e_NotPlain=>k_exc)
  (case m_NotPlain_NotPlain=>rfl)
 case S=>exact fun w H a ns hl hS=>L3.Ef (fun ns hn=>⟨_,_,W.FL ns hn⟩) H a ns hl hS
 case C=>exact fun _ _ _ _ _ z=>L3.Eg z
