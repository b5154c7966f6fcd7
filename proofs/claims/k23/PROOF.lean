import PyProof.Rows.All
import Wide.All
import OpenK.AllK
import Wide.FinOn
import Lean
import PyProof.EqAt
import PyProof.EqKinds
import PyProof.TupleCall
import PyProof.ZipIter
import PyProof.AttrMissHeap
import PyProof.Walks
import PyProof.WalksS
import PySem.SetTable
import KE.KSortTup
import KE.KRevIter
import PyProof.Rows.SetFrom
import PyProof.CollectWalk
import PyProof.DictWalks
import PyProof.DictItems
import KE.KDictList
import PyProof.ListRange
import PyProof.EqAt
import PyProof.WalkInts
import PyProof.StrBlockG
import PyProof.SumWalk
import PyProof.Rows.TupIter
import PyProof.StrLawsIdx
import PyProof.CallStr
import PyProof.StrCalls2
import PyProof.StrWalks
import KE.KIntText
import PyProof.SetRoads
import PyProof.StrLawsTight
import PyProof.Rows.FStr
import PyProof.SumAny
import PyProof.MinMaxWalk
import PyProof.DefCall
import KE.KMinKey
import KE.KEqDict
import PyProof.DictFindH
import PyProof.Rows.CallKw2
import PyProof.Draws
import PyProof.EnumMake
import PyProof.ConsumeWalk
import PySem.Challenge.RW_callwalk_k23_pairs
set_option autoImplicit true
set_option Elab.async false
set_option linter.all false
set_option genSizeOf false
set_option genSizeOfSpec false
set_option compiler.extract_closed false
set_option maxRecDepth 100000
set_option maxHeartbeats 4000000
set_option bootstrap.genMatcherCode false
noncomputable section
abbrev Kp:=@PySem.wpAny_bind
abbrev Kq:=@Nat.le_refl
abbrev Kr:=@List.map_cons
abbrev Ks:=@PySem.Heap.get?_push_of_some
abbrev Kt:=@PySem.wpAny_pure
abbrev Ku:=@if_pos
abbrev Kv:=@if_neg
abbrev Kw:=@List.length_map
abbrev Kx:=@List.mem_cons_of_mem
abbrev Ky:=@List.length_cons
abbrev Kz:=@decide_eq_true
abbrev KA:=@List.getElem?_eq_some_iff
abbrev KB:=@List.mem_cons
abbrev KC:=@List.size_toArray
abbrev KD:=@PySem.Heap.lt_size
abbrev KE:=@List.mem_cons_self
abbrev KF:=@PySem.Heap.get?_push_size
abbrev KG:=@List.not_mem_nil
abbrev KH:=@List.mem_map
abbrev KI:=@List.length_append
abbrev KJ:=@List.mem_singleton
abbrev KL:=@decide_eq_false
abbrev KM:=@List.append_nil
abbrev KN:=@List.getElem?_map
abbrev KO:=@List.length_nil
abbrev KP:=@List.getElem?_cons_zero
abbrev KQ:=@List.getElem?_cons_succ
abbrev KR:=@Nat.ne_of_lt
abbrev KS:=@List.mem_iff_getElem?
abbrev KU:=@of_decide_eq_true
abbrev KW:=@PySem.F.plainAttrs_dict
abbrev KY:=@List.nodup_nil
abbrev KZ:=@List.map_map
abbrev K1:=@List.cons_append
abbrev K3:=@Bool.false_and
abbrev K4:=@Nat.lt_of_lt_of_le
abbrev K5:=@Bool.false_ne_true
abbrev K6:=@List.map_append
abbrev K7:=@List.nil_append
abbrev K8:=@List.set_cons_zero
abbrev K9:=@List.set_cons_succ
abbrev K_:=@List.map_nil
abbrev La:=@Option.some.inj
abbrev Lb:=@List.getElem?_set_self
abbrev Lc:=@Option.map_eq_some_iff
abbrev Ld:=@Nat.le_trans
abbrev Le:=@Bool.true_and
abbrev Lf:=@List.mem_append
abbrev Lg:=@List.mem_append_right
abbrev Lh:=@PySem.F.slot_dict_get
abbrev Li:=@PySem.PassesOwn.never
abbrev Lj:=@List.nodup_cons
abbrev Ll:=@List.mem_of_getElem?
abbrev Lm:=@List.find?_cons
abbrev Ln:=@Bool.and_eq_true
abbrev Lo:=@Bool.and_self
abbrev Lp:=@Nat.zero_add
abbrev Lq:=@List.getElem?_set_ne
abbrev Lr:=@PySem.F.slot_dict_itemiterator_next
abbrev Ls:=@Nat.lt_of_le_of_lt
abbrev Lu:=@PySem.W.mg_of
abbrev Lv:=@PySem.W.mg_none_of
abbrev Lw:=@Bool.and_false
abbrev Lx:=@Bool.not_false
abbrev Ly:=@PySem.F.slot_dict_setdefault
abbrev Lz:=@PySem.Calls.callWith_builtin
abbrev LA:=@congrArg
abbrev LB:=@Bool.not_true
abbrev LC:=@List.all_eq_true
abbrev LD:=@List.mem_filter
abbrev LF:=@Nat.zero_le
abbrev LG:=@PyProof.Rows.slot_tuple_getitem
abbrev LH:=@List.getElem?_append_right
abbrev LI:=@beq_eq_false_iff_ne
abbrev LJ:=@Ne.symm
abbrev LK:=@Bool.and_true
abbrev LL:=@PySem.wpAny_newObj_type
abbrev LM:=@PySem.Heap.get?_update_other
abbrev LN:=@PySem.F.entry_dict_get
abbrev LO:=@PySem.W.kia_one
abbrev LP:=@decide_false
abbrev LQ:=@Nat.max_self
abbrev LR:=@Nat.zero_max
abbrev LS:=@Nat.max_zero
abbrev LU:=@Bool.not_not
abbrev LV:=@PySem.wpAny_truthy_bool
abbrev LW:=@List.nodup_append
abbrev LX:=@List.length_eq_zero_iff
abbrev LY:=@decide_true
abbrev LZ:=@PySem.tupleKind_room_in1
abbrev L0:=@List.take_of_length_le
abbrev L1:=@Nat.shiftRight_eq_div_pow
abbrev L5:=@PySem.wpAny_call_entry
abbrev L6:=@List.any_cons
abbrev L7:=@List.map_congr_left
abbrev L8:=@PySem.F.slot_list_append
abbrev L9:=@PySem.F.type_list_append
abbrev L_:=@List.flatMap_cons
abbrev Mb:=@List.append_assoc
abbrev Md:=@PySem.F.type_dict_setdefault
abbrev Me:=@PySem.Calls.spliced_cons
abbrev Mf:=@PySem.F.plainAttrs_list
abbrev Mg:=@List.foldl_cons
abbrev Mh:=@Int.eq_ofNat_of_zero_le
abbrev Mi:=@PySem.sizeLine_eq
abbrev Mj:=@PySem.mem_of_lookup
abbrev Ml:=@PySem.wpAny_dictEntries
abbrev Mm:=@List.foldl_append
abbrev Mn:=@List.getElem?_append_left
abbrev Mo:=@PySem.wpAny_holding
abbrev Mp:=@Bool.eq_iff_iff
abbrev Mq:=@PySem.call_meetsIn
abbrev Mr:=@PySem.wpAny_typeNameOfWhole_itemiter
abbrev Ms:=@PySem.wpAny_mono
abbrev Mv:=@PySem.F.slot_dict_itemiterator_iter
abbrev Mw:=@List.mem_append_left
abbrev Mx:=@PySem.Calls.evalArgs_plain
abbrev My:=@Nat.lt_irrefl
abbrev Mz:=@Nat.add_sub_cancel_left
abbrev MA:=@List.mem_flatMap
abbrev MB:=@PySem.F.plain_min_loop
abbrev MC:=@PySem.Paired.length
abbrev ME:=@PySem.wpAny_Call_Name_kw
abbrev MF:=@PySem.wpAny_notOrdered_dict
abbrev MG:=@Sum.inr.inj
abbrev MH:=@List.drop_eq_getElem_cons
abbrev MI:=@PySem.wpAny_typeNameOf_itemiter
abbrev MJ:=@Nat.mul_le_mul
abbrev MK:=@PySem.Around.under_plainId
abbrev ML:=@PySem.wpAny_passesOwn
abbrev MM:=@PySem.Calls.spliced_nil
abbrev MN:=@decide_eq_true_eq
abbrev MO:=@List.length_set
abbrev MP:=@List.take_add_one
abbrev MQ:=@Int.le_trans
abbrev MR:=@List.getElem?_replicate
abbrev MS:=@if_true
abbrev MT:=@PySem.wpAny_callSpecial?_slot
abbrev MU:=@PySem.F.args_dict_get_2
abbrev MV:=@PySem.F.args_dict_get_3
abbrev MW:=@PySem.Heap.SameBut.update
abbrev MX:=@PySem.F.slot_dict_items
abbrev MY:=@List.length_take
abbrev MZ:=@List.lookup_cons
abbrev M7:=@PySem.wpAny_setField_rec
abbrev M8:=@Bool.false_eq_true
abbrev M9:=@PyProof.Rows.callWith_type1
abbrev M_:=@PySem.F.type_dict_get
abbrev Na:=@PySem.Heap.get?_update_self
abbrev Nb:=@Classical.choose_spec
abbrev Nc:=@PySem.wpAny_pyIter_list
abbrev Nd:=@if_false
abbrev Nf:=@Prod.ext
abbrev Ng:=@PySem.wpAny_Call_method
abbrev Nh:=@List.length_range
abbrev Ni:=@PySem.Obj.data_mapDictKeys
abbrev Nj:=@List.length_take_le'
abbrev Nk:=@List.Perm.refl
abbrev Nl:=@List.mem_of_find?_eq_some
abbrev Nm:=@Nat.lt_succ_self
abbrev Nn:=@List.filterMap_cons
abbrev Np:=@Array.length_toList
abbrev Nq:=@PySem.Heap.SameBut.extBut
abbrev Nr:=@List.flatMap_append
abbrev Nt:=@Int.le_refl
abbrev Nu:=@List.length_flatMap
abbrev Nv:=@Option.isSome_iff_exists
abbrev Nw:=@List.getElem?_eq_getElem
abbrev Nx:=@List.mem_filterMap
abbrev Ny:=@PySem.wpAny_Call_method0_late
abbrev Nz:=@PySem.codeAny_builtin
abbrev NA:=@PySem.plainId_quiet
abbrev NB:=@PySem.size_of_entries
abbrev NC:=@PySem.wpAny_dictEpoch
abbrev ND:=@List.all_cons
abbrev NE:=@List.filter_cons_of_neg
abbrev NF:=@List.filter_cons_of_pos
abbrev NG:=@List.find?_eq_none
abbrev NH:=@Prod.mk.injEq
abbrev NI:=@PySem.wpAny_isOneOf_itemiter
abbrev NJ:=@PySem.wpAny_rule
abbrev NK:=@PySem.wpAny_field
abbrev NL:=@Option.isSome_map
abbrev NM:=@Prod.mk.inj
abbrev NN:=@PySem.wpAny_tryCatch
abbrev NO:=@Nat.ne_of_gt
abbrev NP:=@List.length_replicate
abbrev NQ:=@PySem.F.args_dict_setdefault_3
abbrev NR:=@List.set_getElem_self
abbrev NS:=@Int.le_of_lt
abbrev NT:=@PySem.F.entry_dict_setdefault
abbrev NU:=@List.getElem_mem
abbrev NV:=@List.eq_nil_of_length_eq_zero
abbrev NW:=@PySem.wpAny_standAt
abbrev NY:=@List.sum_cons
abbrev NZ:=@beq_iff_eq
abbrev N0:=@Sum.inl.inj
abbrev N1:=@PySem.wpAny_execs_nil
abbrev N2:=@PySem.W.plainGet_of
abbrev N3:=@PySem.evalArgs_none
abbrev N4:=@Nat.add_le_add_left
abbrev N5:=@List.length_pos_iff
abbrev N6:=@Nat.mul_le_mul_left
abbrev N7:=@PySem.W.callWith_K
abbrev N8:=@List.zip_cons_cons
abbrev N9:=@PySem.wpAny_typeOf
abbrev N_:=@List.all_map
abbrev Oa:=@Int.emod_lt_of_pos
abbrev Ob:=@List.mem_range
abbrev Oc:=@PySem.Heap.size_push
abbrev Od:=@PySem.wpAny_seqItems
abbrev Oe:=@PySem.boot_len
abbrev Of:=@PySem.W.kitx_dict
abbrev Og:=@List.getElem?_inj
abbrev Oh:=@Bool.false_or
abbrev Oi:=@PySem.wpAny_letGo
abbrev Oj:=@Nat.mul_add
abbrev Ol:=@List.length_drop
abbrev Om:=@List.filter_cons
abbrev On:=@Nat.le_add_right
abbrev Oo:=@List.any_eq_true
abbrev Oq:=@List.drop_length
abbrev Os:=@decide_eq_decide
abbrev Ot:=@List.perm_middle
abbrev Ou:=@Nat.le_of_lt
abbrev Ov:=@Nat.le_of_eq
abbrev Ow:=@Nat.add_comm
abbrev Ox:=PySem.Shared
abbrev Oy:=PySem.W.Frag
abbrev Oz:=PySem.Program
abbrev OA:=PySem.Value
abbrev OB:=PySem.Around
theorem OH (h : True := by rfl) : True := h
theorem OC (h : True := by decide) : True := h
theorem OF (h : ∀ u : Unit, u = u := by intro _; rfl) : True := True.intro
theorem OD (h : True := by first|exact .inl rfl|exact .inr rfl|assumption) : True := h
theorem OE (h : True := by first|exact Or.inl rfl|exact Or.inr (Or.inl rfl)|exact Or.inr (Or.inr rfl)) : True := h
theorem OG (h : True := by intro _ _; rfl) : True := h

namespace L2
open PySem PySem.Spec PyProof.Rows
noncomputable abbrev Key:=Sum Int Str
noncomputable def lW:Key->OA->Bool
 | .inl k,v=>Value.isInt k v
 | .inr x,v=>Value.isStrOf x v
noncomputable def Js (w:World):Key->Int
 | .inl k=>hashInt k
 | .inr x=>hashStr w x
theorem bp:∀{k:Key}{v:OA},lW k v=true->(∃ i t,k=Sum.inl i/\v=Value.int i t)\/(∃ x t,k=Sum.inr x/\v=Value.str x t)
 | .inl i,v,h=>by obtain⟨t,e⟩:=Value.isInt_shape (k:=i) (v:=v) h;exact .inl ⟨i,t,rfl,e⟩
 | .inr x,v,h=>by obtain⟨t,e⟩:=Value.isStrOf_shape (x:=x) (v:=v) h;exact .inr ⟨x,t,rfl,e⟩
theorem yE (i:Int)(t:Tok):lW (.inl i) (.int i t)=true:=by simp[lW,Value.isInt]
theorem yF (x:Str)(t:Tok):lW (.inr x) (.str x t)=true:=by simp[lW,Value.isStrOf]
theorem Ft (a b:Int):decide ((Sum.inl a:Key)=Sum.inl b)=(a==b):=by
 by_cases e:a=b
 .subst e;simp
 .have h:¬ (Sum.inl a:Key)=Sum.inl b:=λq=>e (N0 q);rw[KL h];exact(LI.mpr e).symm
theorem Fu (a b:Str):decide ((Sum.inr a:Key)=Sum.inr b)=decide (a=b):=by
 by_cases e:a=b
 .subst e;simp
 .have h:¬ (Sum.inr a:Key)=Sum.inr b:=λq=>e (MG q);rw[KL h,KL e]
theorem Fv (a:Int)(b:Str):decide ((Sum.inl a:Key)=Sum.inr b)=false:=KL (λq=>nomatch q)
theorem Fw (a:Str)(b:Int):decide ((Sum.inr a:Key)=Sum.inl b)=false:=KL (λq=>nomatch q)
def av (prog:Oz)(w:World):PySem.KeyKind prog w Key where
 is:=lW
 hash:=Js w
 inj:=λv a b ha hb=>by
  rcases bp ha with⟨i,t,rfl,rfl⟩|⟨x,t,rfl,rfl⟩
  .rcases bp hb with⟨j,u,rfl,e⟩|⟨y,u,rfl,e⟩
   .injection e with e1 _;rw[e1]
   .exact nomatch e
  .rcases bp hb with⟨j,u,rfl,e⟩|⟨y,u,rfl,e⟩
   .exact nomatch e
   .injection e with e1 _;rw[e1]
 byValue:=λk v h=>by rcases bp h with⟨i,t,rfl,rfl⟩|⟨x,t,rfl,rfl⟩<;>rfl
 pyHash:=λhv h=>by
  rcases bp hv with⟨i,t,rfl,rfl⟩|⟨x,t,rfl,rfl⟩
  .exact wpAny_pyHash_int h
  .exact wpAny_pyHash_str h
 eqBool:=λhu hv h=>by
  rcases bp hu with⟨i,t,rfl,rfl⟩|⟨x,t,rfl,rfl⟩
  .rcases bp hv with⟨j,u,rfl,rfl⟩|⟨y,u,rfl,rfl⟩
   .rw[Ft]at h;exact wpAny_eqBool_int h
   .rw[Fv]at h;exact SeqAt.EqAt.int_str i t y u _ _ _ _ h
  .rcases bp hv with⟨j,u,rfl,rfl⟩|⟨y,u,rfl,rfl⟩
   .rw[Fw]at h;exact SeqAt.EqAt.str_int x t j u _ _ _ _ h
   .rw[Fu]at h;exact wpAny_eqBool_str h
 «strs»:=λk x t v h=>by
  rcases bp h with⟨i,u,rfl,e⟩|⟨y,u,rfl,e⟩
  .exact nomatch e
  .injection e with e1 _;subst e1;cases v<;>rfl
theorem t9 (prog:Oz)(w:World)(i:Int)(t:Tok):(av prog w).is (.inl i) (.int i t)=true:=yE i t
theorem t_ (prog:Oz)(w:World)(x:Str)(t:Tok):(av prog w).is (.inr x) (.str x t)=true:=yF x t
inductive V where
 |non|bl (b:Bool)|int (i:Int)|str (x:Str)|byt (b:Array UInt8)|flt (b:UInt64)|ref (a:Addr)|ty (n:String)
 deriving DecidableEq
noncomputable def RelV:V->OA->Prop
 | .non,u=>u=Value.none
 | .bl b,u=>u=Value.bool b
 | .int i,u=>∃ t,u=Value.int i t
 | .str x,u=>∃ t,u=Value.str x t
 | .byt b,u=>∃ t,u=Value.bytes b t
 | .flt b,u=>∃ t,u=Value.float b t
 | .ref a,u=>u=Value.ref a
 | .ty n,u=>u=Value.type n
abbrev Vals:List V->List OA->Prop:=Paired RelV
theorem Vals.length {xs:List V}{us:List OA}(r:Vals xs us):xs.length=us.length:=MC r
theorem Vals.get:∀{xs:List V}{us:List OA}{i:Nat}{x:V},Vals xs us->xs[i]?=some x->∃ u,us[i]?=some u/\RelV x u
 |_,_,_,_,.nil,e=>by simp at e
 |_,_,0,_,.cons r _,e=>by simp at e;subst e;exact⟨_,rfl,r⟩
 |_,_,i+1,x,.cons _ t,e=>by obtain⟨u,h1,h2⟩:=Vals.get (i:=i) (x:=x) t (by simpa using e);exact⟨u,by simpa using h1,h2⟩
theorem Vals.append:∀{xs ys:List V}{us ws:List OA},Vals xs us->Vals ys ws->Vals (xs++ys) (us++ws)
 |_,_,_,_,.nil,s=>s
 |_,_,_,_,.cons r t,s=>.cons r (Vals.append t s)
theorem Vals.take:∀{xs:List V}{us:List OA}(n:Nat),Vals xs us->Vals (xs.take n) (us.take n)
 |_,_,0,_=>.nil
 |_,_,_+1,.nil=>.nil
 |_,_,n+1,.cons r t=>.cons r (Vals.take n t)
theorem Vals.drop:∀{xs:List V}{us:List OA}(n:Nat),Vals xs us->Vals (xs.drop n) (us.drop n)
 |_,_,0,r=>r
 |_,_,_+1,.nil=>.nil
 |_,_,n+1,.cons _ t=>Vals.drop n t
def RelO:Option V->Option OA->Prop
 |some v,some u=>RelV v u
 |none,none=>True
 |_,_=>False
def KV {κ:Type}:List (κ×V)->List (κ×OA)->Prop:=Paired λ(p:κ×V)(q:κ×OA)=>p.1=q.1/\RelV p.2 q.2
noncomputable def kV:Key->V
 | .inl i=>.int i
 | .inr x=>.str x
inductive HO where
  
 |lst (xs:List V)
  
 |tup (xs:List V)
  
 |dK (kvs:List (Key×V))|dT (kvs:List (List Key×V))
  
 |set (S:Int->Bool) (n:Nat)
  
 |ins (C dx:Addr) (fs:List (Str×V))
  
 |own (x:Addr)
  
 |xd (fs:List (Str×V))
  
 |met (f x:Addr)
  
 |rng (lo hi:Int)
  
 |frz (o:Obj) (u:HO)
  
 |tbl (ps:Array OA)
  
 |ext (φ:Heap->Prop)
noncomputable abbrev Hp:=Addr->Option HO
noncomputable def aB (H:Hp)(a:Addr)(o:HO):Hp:=λb=>if b=a then some o else H b
theorem ac {H:Hp}{a:Addr}{o:HO}:aB H a o a=some o:=by unfold aB;rw[Ku rfl]
theorem aa {H:Hp}{a b:Addr}{o:HO}(h:b≠a):aB H a o b=H b:=by unfold aB;rw[Kv h]
theorem xq {H:Hp}{a:Addr}{o u:HO}:aB (aB H a o) a u=aB H a u:=by funext b;unfold aB;split<;>rfl
theorem xt {H:Hp}{a b:Addr}{o u:HO}(h:H a=some o)(h':H b=some u)(d:o≠u):a≠b:=by intro e;subst e;rw[h]at h';exact d (La h')
theorem af {H:Hp}{a b:Addr}{o:HO}(h:H a=some o)(h':H b=none):a≠b:=by intro e;subst e;rw[h]at h';cases h'
section
variable (P:Oz)(w:World)
def ObjOk (H:Hp)(h:Heap)(a:Addr):HO->Prop
 | .lst xs=>xs.length<=sizeLine/\∃(its:List OA)(n:Nat),Vals xs its/\h.get? a=some { cls:=.type "list",data:=.seq its.toArray n }
 | .tup xs=>xs.length<=sizeLine/\∃ its:List OA,Vals xs its/\IsTup h a its.toArray
 | .dK kvs=>kvs.length<=sizeLine/\(a==sysModules)=false/\∃ vs,KV kvs vs/\h.DictOf (av P w) a vs
 | .dT kvs=>kvs.length<=sizeLine/\(a==sysModules)=false/\∃ xs:List (List Key×Addr×OA),
  Paired (λ(p:List Key×V)(q:List Key×Addr×OA)=>p.1=q.1/\H q.2.1=some (.tup (p.1.map kV))/\RelV p.2 q.2.2) kvs xs/\
  ∃ o es ep,h.get? a=some o/\o.ExactDict/\o.data=.dict es ep/\es.toList=xs.map (entryOfKey (tupleKind (av P w)))/\(xs.map (·.1)).Nodup
 | .set S n=>h.SetOf (intKind P w) a S n
 | .ins C dx fs=>H dx=some (.own a)/\fs.length<=1000/\dx≠a/\h.get? a=some (PySem.W.instObj C dx)/\
  ∃ mA,h.Ns1 dx mA/\(∀ f,RelO (fs.lookup f) (mA f))/\PySem.Within mA (fs.map (·.1))
 | .own _=>∃ o,h.get? a=some o
 | .xd fs=>∃ mA,h.Ns1 a mA/\∀ f,RelO (fs.lookup f) (mA f)
 | .rng lo hi=>∃ t u v,h.get? a=some { cls:=.type "range",data:=.fields #[.int lo t,.int hi u,.int 1 v] }
 | .frz o u=>h.get? a=some o/\ObjOk H h a u
 | .tbl ps=>h.get? a=some { cls:=.none,data:=.fields ps }
 | .met f x=>h.get? a=some (PySem.W.methodObj (.ref f) (.ref x))
 | .ext φ=>φ h/\(∃ o,h.get? a=some o)/\∀ h1 h2:Heap,φ h1->(∀ o,h1.get? a=some o->h2.get? a=some o)->φ h2
def HOk (H:Hp)(h:Heap):Prop:=∀ a o,H a=some o->ObjOk P w H h a o
end
section
variable {P:Oz}{w:World}{H H':Hp}{h h':Heap}{a:Addr}{o:HO}
theorem ObjOk.lt (x:ObjOk P w H h a o):a<h.objs.size:=by
 cases o with
 |lst xs=>obtain⟨_,_,_,_,e⟩:=x;exact KD e
 |tup xs=>obtain⟨_,_,_,p⟩:=x;exact p.lt
 |dK kvs=>obtain⟨_,_,_,_,o,_,_,e,_⟩:=x;exact KD e
 |dT kvs=>obtain⟨_,_,_,_,o,_,_,e,_⟩:=x;exact KD e
 |set S n=>obtain⟨o,_,_,_,e,_⟩:=x;exact KD e
 |ins C dx fs=>obtain⟨_,_,_,e,_⟩:=x;exact KD e
 |own y=>obtain⟨_,e⟩:=x;exact KD e
 |xd fs=>obtain⟨_,⟨_,_,_,e,_⟩,_⟩:=x;exact KD e
 |rng lo hi=>obtain⟨_,_,_,e⟩:=x;exact KD e
 |frz ob u=>obtain⟨e,_⟩:=x;exact KD e
 |tbl ps=>exact KD (show h.get? a=some _ from x)
 |met f y=>exact KD (show h.get? a=some _ from x)
 |ext φ=>obtain⟨_,⟨_,e⟩,_⟩:=x;exact KD e
theorem Paired.mapP {α β:Type}{F G:α->β->Prop}:∀{l₁:List α}{l₂:List β},Paired F l₁ l₂->(∀ a b,F a b->G a b)->Paired G l₁ l₂
 |_,_,.nil,_=>.nil
 |_,_,.cons r t,f=>.cons (f _ _ r) (Paired.mapP t f)
theorem ObjOk.stay (x:ObjOk P w H h a o)(k:∀ b u,(b=a\/H b=some (.own a))->h.get? b=some u->h'.get? b=some u)
 (ho:∀ b,H b=some (.own a)->H' b=some (.own a)) (ht:∀ b xs,H b=some (.tup xs)->H' b=some (.tup xs)):ObjOk P w H' h' a o:=by
 induction o with
 |lst xs=>obtain⟨z,its,n,r,e⟩:=x;exact⟨z,its,n,r,k _ _ (.inl rfl) e⟩
 |tup xs=>obtain⟨z,its,r,ob,e,c⟩:=x;exact⟨z,its,r,ob,k _ _ (.inl rfl) e,c⟩
 |dK kvs=>obtain⟨z,y,vs,r,ob,es,ep,e,c⟩:=x;exact⟨z,y,vs,r,ob,es,ep,k _ _ (.inl rfl) e,c⟩
 |dT kvs=>obtain⟨z,y,xs,r,ob,es,ep,e,c⟩:=x;exact⟨z,y,xs,Paired.mapP r λp q z=>⟨z.1,ht _ _ z.2.1,z.2.2⟩,ob,es,ep,k _ _ (.inl rfl) e,c⟩
 |set S n=>obtain⟨ob,es,ep,t,e,c⟩:=x;exact⟨ob,es,ep,t,k _ _ (.inl rfl) e,c⟩
 |ins C dx fs=>obtain⟨d,z,ne,e,mA,⟨od,es,ep,e2,c⟩,r⟩:=x;exact⟨ho _ d,z,ne,k _ _ (.inl rfl) e,mA,⟨od,es,ep,k _ _ (.inr d) e2,c⟩,r⟩
 |own y=>obtain⟨ob,e⟩:=x;exact⟨ob,k _ _ (.inl rfl) e⟩
 |xd fs=>obtain⟨mA,⟨od,es,ep,e,c⟩,r⟩:=x;exact⟨mA,⟨od,es,ep,k _ _ (.inl rfl) e,c⟩,r⟩
 |rng lo hi=>obtain⟨t,u,v,e⟩:=x;exact⟨t,u,v,k _ _ (.inl rfl) e⟩
 |frz ob u ih=>obtain⟨e,q⟩:=x;exact⟨k _ _ (.inl rfl) e,ih q⟩
 |tbl ps=>have e:h.get? a=some { cls:=.none,data:=.fields ps }:=x;show h'.get? a=some { cls:=.none,data:=.fields ps };exact k a _ (.inl rfl) e
 |met f y=>have e:h.get? a=some (PySem.W.methodObj (.ref f) (.ref y)):=x;show h'.get? a=some (PySem.W.methodObj (.ref f) (.ref y));exact k a _ (.inl rfl) e
 |ext φ=>obtain⟨p,⟨o,e⟩,st⟩:=x;exact⟨st _ _ p λo q=>k _ _ (.inl rfl) q,⟨o,k _ _ (.inl rfl) e⟩,st⟩
theorem HOk.lt (x:HOk P w H h)(e:H a=some o):a<h.objs.size:=(x a o e).lt
theorem HOk.fresh (x:HOk P w H h)(e:h.objs.size<=a):H a=none:=by
 cases q:H a with
 |none=>rfl
 |some u=>exact absurd (K4 (x.lt q) e) (My _)
theorem HOk.kept (x:HOk P w H h)(k:∀ b u,h.get? b=some u->h'.get? b=some u):HOk P w H h':=λa o e=>(x a o e).stay (λb u _ q=>k b u q) (λ_ q=>q) λ_ _ q=>q
theorem HOk.laid (x:HOk P w H h)(k:∀ b u,h.get? b=some u->h'.get? b=some u)(hp:h.objs.size<=a)(new:ObjOk P w (aB H a o) h' a o):HOk P w (aB H a o) h':=λb u e=>by
 have hn:=x.fresh hp;by_cases hb:b=a
 .subst hb;rw[ac]at e;cases e;exact new
 .rw[aa hb]at e;exact(x b u e).stay (λc v _ q=>k c v q) (λc q=>by rw[aa (af q hn)];exact q) λc xs q=>by rw[aa (af q hn)];exact q
end
def Rd (H:Hp)(a:Addr)(u:HO):Prop:=H a=some u\/∃ o,H a=some (.frz o u)
theorem Rd.ok {P:Oz}{w:World}{H:Hp}{h:Heap}{a:Addr}{u:HO}(r:Rd H a u)(x:HOk P w H h):ObjOk P w H h a u:=by
 rcases r with r|⟨o,r⟩
 .exact x a u r
 .obtain⟨_,q⟩:=x a _ r;exact q
noncomputable def Hd:Option HO->Prop
 |some (.lst _)=>True
 |some (.dK _)=>True
 |some (.dT _)=>True
 |some (.set _ _)=>True
 |some (.ins _ _ _)=>True
 |some (.ext _)=>True
 |_=>False
section
variable {P:Oz}{w:World}{H:Hp}{h h':Heap}{x e:Addr}{o':HO}
theorem HOk.write (ok:HOk P w H h)(mu:Hd (H x))(he:e=x\/H e=some (.own x))(k:∀ b u,b≠e->h.get? b=some u->h'.get? b=some u)(heo:∃ u,h'.get? e=some u)
 (new:ObjOk P w (aB H x o') h' x o'):HOk P w (aB H x o') h':=λb u q=>by
 have nown:∀ c y,H c=some (.own y)->c≠x:=λc y r z=>by subst z;rw[r]at mu;exact mu
 have ntup:∀ c xs,H c=some (.tup xs)->c≠x:=λc xs r z=>by subst z;rw[r]at mu;exact mu
 by_cases hb:b=x
 .subst hb;rw[ac]at q;cases q;exact new
 .rw[aa hb]at q;by_cases hbe:b=e
  .have q':H b=some (.own x):=by
    rcases he with z|z
    .exact absurd (hbe.trans z) hb
    .rw[hbe];exact z
   rw[q]at q';cases q';obtain⟨v,hv⟩:=heo;exact⟨v,by rw[hbe];exact hv⟩
  .refine(ok b u q).stay (λc v hc r=>k c v ?_ r) (λc r=>by rw[aa (nown c b r)];exact r) λc xs r=>by rw[aa (ntup c xs r)];exact r
   rcases hc with rfl|hc
   .exact hbe
   .rintro rfl;rcases he with z|z
    .exact nown c b hc z
    .rw[hc]at z;cases z;exact hb rfl
end
def Qt (H:Hp)(b:Addr):Prop:=H b=none\/∃ xs,H b=some (.tup xs)
structure Un (fs ex:List Addr) (H H':Hp) (h h':Heap):Prop where
 keep:∀ b o,h.get? b=some o->Qt H b->b∉fs->b∉ex->h'.get? b=some o
 slot:∀ b o,h.get? b=some o->H b=none->b∈fs->b∉ex->∃ sl,h'.get? b=some { o with slots:=sl }
 free:∀ b o,h.get? b=some o->H b=none->b∉ex->H' b=none
 there:∀ b o,h.get? b=some o->b∉ex->∃ o',h'.get? b=some o'
 tups:∀ b xs,H b=some (.tup xs)->H' b=some (.tup xs)
 frzs:∀ b o u,H b=some (.frz o u)->H' b=some (.frz o u)
 tbls:∀ b ps,H b=some (.tbl ps)->∃ more,H' b=some (.tbl (ps++more))
section
variable {fs fs' ex ex':List Addr}{H H1 H2:Hp}{h h1 h2 h':Heap}{a x e:Addr}{o:HO}
theorem Un.any (u:Un fs ex H H1 h h1){b:Addr}{ob:Obj}(q:h.get? b=some ob)(n:H b=none)(hx:b∉ex):∃ sl,h1.get? b=some { ob with slots:=sl }:=by
 by_cases hb:b∈fs
 .exact u.slot b ob q n hb hx
 .exact⟨ob.slots,u.keep b ob q (.inl n) hb hx⟩
theorem Un.kept (k:∀ b u,h.get? b=some u->h'.get? b=some u):Un fs ex H H h h':=⟨λb ob q _ _ _=>k b ob q,λb ob q _ _ _=>⟨ob.slots,k b ob q⟩,λ_ _ _ n _=>n,λb ob q _=>⟨ob,k b ob q⟩,λ_ _ q=>q,λ_ _ _ q=>q,λ_ ps q=>⟨#[],by rw[q];simp⟩⟩
theorem Un.refl:Un fs ex H H h h:=Un.kept λ_ _ q=>q
theorem Un.laid (k:∀ b u,h.get? b=some u->h'.get? b=some u)(hp:h.objs.size<=a)(hn:H a=none):Un fs ex H (aB H a o) h h' where
 keep:=λb u q _ _ _=>k b u q
 slot:=λb u q _ _ _=>⟨u.slots,k b u q⟩
 free:=λb u q n _=>by rw[aa (KR (K4 (KD q) hp))];exact n
 there:=λb u q _=>⟨u,k b u q⟩
 tups:=λb xs q=>by rw[aa (af q hn)];exact q
 frzs:=λb u xs q=>by rw[aa (af q hn)];exact q
 tbls:=λb ps q=>⟨#[],by rw[aa (af q hn),q];simp⟩
theorem Un.write (mu:Hd (H x))(he:e=x\/H e=some (.own x))(k:∀ b u,b≠e->h.get? b=some u->h'.get? b=some u)(heo:∃ u,h'.get? e=some u):Un fs ex H (aB H x o) h h':=by
 have hx:∀ b,H b=none->b≠x:=λb n z=>by subst z;rw[n]at mu;exact mu
 have hb:∀ b,H b=none->b≠e:=λb n z=>by
  subst z;rcases he with r|r
  .exact hx b n r
  .rw[n]at r;cases r
 have hm:∀ b u,H b=some u->¬ Hd (some u)->b≠x:=λb u q nm z=>by subst z;rw[q]at mu;exact nm mu
 refine⟨λb u q n _ _=>k b u (n.elim (hb b) λ⟨xs,ee⟩ z=>by rcases he with r|r;(·rw[<- r,<- z,ee]at mu;exact mu);(·rw[<- z,ee]at r;cases r)) q,λb u q n _ _=>⟨u.slots,k b u (hb b n) q⟩,λb u q n _=>by rw[aa (hx b n)];exact n,λb u q _=>?_,
  λb xs q=>by rw[aa (hm b _ q λz=>z)];exact q,λb u xs q=>by rw[aa (hm b _ q λz=>z)];exact q,λb ps q=>⟨#[],by rw[aa (hm b _ q λz=>z),q];simp⟩⟩
 by_cases hbe:b=e
 .subst hbe;exact heo
 .exact⟨u,k b u hbe q⟩
end
noncomputable def Jl (h:Heap)(H:Hp):List Addr:=(List.range h.objs.size).filter λa=>(H a).isSome
def uc (h:Heap)(H:Hp):Heap:=PySem.W.hideAll h (Jl h H)
theorem yG (h:Heap)(H:Hp):(uc h H).objs.size=h.objs.size:=PySem.W.hideAll_size _ _
theorem ud {h:Heap}{H:Hp}{b:Addr}{o:Obj}(e:h.get? b=some o)(n:H b=none):(uc h H).get? b=some o:=PySem.W.hideAll_get _ e λhm=>by have q:(H b).isSome=true:=(LD.mp hm).2;rw[n]at q;simp at q
theorem CK {h:Heap}{H:Hp}{b:Addr}{o:Obj}(e:(uc h H).get? b=some o):h.get? b=some o/\H b=none:=by
 have e':h.get? b=some o:=PySem.W.of_hideAll (Jl h H) e;refine⟨e',?_⟩;cases q:H b with
 |none=>rfl
 |some x=>have hm:b∈Jl h H:=LD.mpr ⟨Ob.mpr (KD e'),by simp[q]⟩;have z:(uc h H).get? b=none:=PySem.W.hideAll_none (Jl h H) hm;rw[z]at e;cases e
noncomputable def CL (g h:Heap)(L:Addr):List (Addr×Obj):=(List.range h.objs.size).filterMap λa=>if a=L\/(g.get? a).isSome=true then none else (h.get? a).map λo=>(a,o)
def rest (g h:Heap)(L d:Addr):List (Addr×Obj):=(CL g h L).filter λp=>decide (p.1≠d)
noncomputable def J_:OA->V
 | .str x _=>.str x
 | .ref a=>.ref a
 |_=>.non
def Fx (o:Obj):Option (Addr×List V):=match o.cls with
 | .type n=>if n=="kt" then (match o.data with
  | .seq its _=>(match its.toList with
   | .ref a::r=>some (a,r.map J_)
   |_=>none)
  |_=>none) else none
 |_=>none
def WrT (K:Oy)(H:Hp):Prop:=∀ p∈K,∀ a xs,Fx p.2=some (a,xs)->H a=some (.tup xs)
structure Mod (K:Oy) (mg:Str->Option OA) (base:Heap):Prop where
 kin:K.In base
 glob:base.Ns mainGlobals mg
 blt:∃ mb,base.Ns builtinsNs mb/\∀ x:Str,x≠"__name__"->mb x=bootBuiltins x
 nolimit:base.NoLimit
structure Cx where
 prog:Oz
 w:World
 K:Oy
 mg:Str->Option OA
 base:Heap
 A:OB
 N:List Str
 s₀:Ox
 H₀:Hp
 env:Env
 outer:List Env
 stack:List Env
 ex:List Addr
 fn:Str->Bool
 calm:Bool
 pn:List (Addr×Obj)
 xe:OA->Ox->Prop
noncomputable def frs (l:List Env):List Addr:=l.filterMap (·.frame)
abbrev Cx.fs (X:Cx):List Addr:=frs X.outer
def Vis (sc:Scope)(x:Str):Prop:=sc.names.lookup x=some .local\/sc.names.lookup x=some .cell\/sc.names.lookup x=some .free
def Fy (sc:Scope)(x:Str):Prop:=sc.names.lookup x=some .local\/sc.names.lookup x=some .cell
def Look (env:Env)(h:Heap)(m:Str->Option OA)(x:Str)(u:OA):Prop:=(env.kindOf x=some .local/\m x=some u)\/((env.kindOf x=some .cell\/env.kindOf x=some .free)/\∃ c,env.cells.lookup x=some c/\h.IsCell c (some u))
structure Cx.Ok (X:Cx):Prop where
 mod:Mod X.K X.mg X.base
 kind:X.env.scope.kind=.function
 glob:X.env.globals=mainGlobals
 blt:X.env.builtins=builtinsNs
 above:X.s₀.heap.objs.size<=X.env.locals
 inj:∀ x y c,X.env.cells.lookup x=some c->X.env.cells.lookup y=some c->x=y
 has:∀ x,(X.env.kindOf x=some .cell\/X.env.kindOf x=some .free)->∃ c,X.env.cells.lookup x=some c
 cab:∀ x c,X.fn x=true->X.env.cells.lookup x=some c->X.s₀.heap.objs.size<=c
 hd:X.calm=true->X.A.handled=none
 frames:X.A.frames=some X.stack
 stk:X.stack=X.outer\/(X.stack=X.env::X.outer/\X.env.frame=some X.env.locals)
 exf:∀ b∈X.ex,b≠X.env.locals/\∀ x c,X.env.cells.lookup x=some c->c≠b
 bs:∀ b o,X.base.get? b=some o->X.s₀.heap.get? b=some o/\X.H₀ b=none
 bsz:X.base.objs.size<=X.s₀.heap.objs.size
 noex:∀ b o,X.base.get? b=some o->b∉X.ex
 exfs:∀ b∈X.ex,b∉X.fs
 funs:X.s₀.heap.FunFrames X.base X.outer
 frf:∀ b∈X.fs,X.H₀ b=none
 kt:WrT X.K X.H₀
structure Inv (X:Cx) (pins:List (Addr×Obj)) (σ:List (Option V)) (H:Hp) (s:Ox):Prop where
 ok:X.Ok
 os:s.os=X.s₀.os
 bare:AllBare s.gens
 base:Un X.fs X.ex X.H₀ H X.s₀.heap s.heap
 loc:∃ m,s.heap.Ns X.env.locals m/\∀(i:Nat)(x:Str)(v:V),X.N[i]?=some x->σ[i]?=some (some v)->Vis X.env.scope x->∃ u,RelV v u/\Look X.env s.heap m x u
 cell:∀ x c,X.env.cells.lookup x=some c->∃ v,s.heap.IsCell c v
 free:H X.env.locals=none
 freeC:∀ x c,X.env.cells.lookup x=some c->H c=none
 pin:∀ p∈X.pn++pins,s.heap.get? p.1=some p.2/\H p.1=none/\p.1≠X.env.locals/\p.1∉X.fs/\∀ v,p.2.data≠.cell v
 hok:HOk X.prog X.w H s.heap
 len:σ.length=X.N.length
section
variable {X:Cx}{pins:List (Addr×Obj)}{σ:List (Option V)}{H H':Hp}{s:Ox}{h':Heap}
theorem Cx.Ok.nofr (ok:X.Ok){b:Addr}{o:Obj}(e:X.base.get? b=some o):b∉X.fs:=λhb=>by have:=(ok.funs.mem hb).1;rw[e]at this;cases this
theorem Inv.bs (I:Inv X pins σ H s):∀ b o,X.base.get? b=some o->s.heap.get? b=some o/\H b=none:=λb o e=>⟨I.base.keep b o (I.ok.bs b o e).1 (.inl (I.ok.bs b o e).2) (I.ok.nofr e) (I.ok.noex b o e),I.base.free b o (I.ok.bs b o e).1 (I.ok.bs b o e).2 (I.ok.noex b o e)⟩
theorem Inv.kt (I:Inv X pins σ H s):WrT X.K H:=λp hp a xs e=>I.base.tups a xs (I.ok.kt p hp a xs e)
theorem Inv.bk (I:Inv X pins σ H s):∀ b o,X.base.get? b=some o->s.heap.get? b=some o:=λb o e=>(I.bs b o e).1
theorem Inv.mod (I:Inv X pins σ H s):Mod X.K X.mg X.base:=I.ok.mod
theorem Inv.kIn (I:Inv X pins σ H s):X.K.In s.heap:=I.ok.mod.kin.keeps I.bk
theorem Inv.lt (I:Inv X pins σ H s):X.env.locals<s.heap.objs.size:=let ⟨_,hn,_⟩:=I.loc;hn.lt
theorem Inv.sz (I:Inv X pins σ H s):X.s₀.heap.objs.size<=s.heap.objs.size:=Ld I.ok.above (Ou I.lt)
theorem Inv.nofs (I:Inv X pins σ H s){a:Addr}(h:s.heap.objs.size<=a):a∉X.fs:=λhb=>by obtain⟨_,o,ho,_⟩:=I.ok.funs.mem hb;exact absurd (K4 (KD ho) (Ld I.sz h)) (My _)
theorem Inv.cne (I:Inv X pins σ H s):∀ x c,X.env.cells.lookup x=some c->c≠X.env.locals:=λx c e z=>by obtain⟨v,o,ho,hd⟩:=I.cell x c e;obtain⟨m,⟨o',es,ep,ho',hd',_⟩,_⟩:=I.loc;rw[z,ho']at ho;cases ho;rw[hd']at hd;cases hd
theorem Inv.funs (I:Inv X pins σ H s):s.heap.FunFrames X.base X.outer:=by
 have all:∀(l:List Env),(∀ b∈frs l,b∈X.fs)->X.s₀.heap.FunFrames X.base l->s.heap.FunFrames X.base l:=by
  intro l;induction l with
  |nil=>intro _ _;trivial
  |cons env r ih=>intro hs hl;obtain⟨hk,⟨L,o,hf,hn,ho,hd⟩,hr⟩:=hl;have hL:L∈X.fs:=hs L (by unfold frs;rw[Nn,hf];exact KE);obtain⟨sl,e⟩:=I.base.slot L o ho (I.ok.frf L hL) hL λz=>I.ok.exfs L z hL;exact⟨hk,⟨L,_,hf,hn,e,hd⟩,ih (λb hb=>hs b (by unfold frs;rw[Nn,hf];exact Kx _ hb)) hr⟩
 exact all X.outer (λ_ hb=>hb) I.ok.funs
theorem Inv.stack (I:Inv X pins σ H s):s.heap.FunFrames X.base X.stack:=by
 rcases I.ok.stk with e|⟨e,hf⟩
 .rw[e];exact I.funs
 .rw[e];obtain⟨m,hn,_⟩:=I.loc;refine .cons (by rw[I.ok.kind];decide) hf hn ?_ I.funs;exact Heap.get?_none_of_le (Ld I.ok.bsz I.ok.above)
theorem Inv.stkSub (I:Inv X pins σ H s):∀ b∈frs X.stack,b∈X.env.locals::X.fs:=λb hb=>by
 rcases I.ok.stk with e|⟨e,hf⟩
 .rw[e]at hb;exact Kx _ hb
 .rw[e]at hb;unfold frs at hb;rw[Nn,hf]at hb;exact hb
theorem Inv.stkFree (I:Inv X pins σ H s):∀ b∈frs X.stack,H b=none:=λb hb=>by
 rcases KB.mp (I.stkSub b hb) with e|hb
 .rw[e];exact I.free
 .obtain⟨_,o,ho,_⟩:=I.ok.funs.mem hb;exact I.base.free b o ho (I.ok.frf b hb) λz=>I.ok.exfs b z hb
theorem Inv.step {g':Array GenState}{t':Nat}{d':Drawn}{ch:List Addr}(I:Inv X pins σ H s)
 (hch:∀ b∈ch,(b∈X.ex\/X.s₀.heap.objs.size<=b)/\b≠X.env.locals/\(∀ x c,X.env.cells.lookup x=some c->c≠b)/\∀ p∈X.pn++pins,p.1≠b)
 (keep:∀ b o,b≠X.env.locals->b∉X.fs->b∉ch->s.heap.get? b=some o->Qt H b->h'.get? b=some o)
 (slot:∀ b o,b≠X.env.locals->b∈X.fs->b∉ch->s.heap.get? b=some o->H b=none->∃ sl,h'.get? b=some { o with slots:=sl }) (free:∀ b o,b∉ch->s.heap.get? b=some o->H b=none->H' b=none)
 (there:∀ b o,b∉ch->s.heap.get? b=some o->∃ o',h'.get? b=some o')
 (tups:∀ b xs,H b=some (.tup xs)->H' b=some (.tup xs)) (frzs:∀ b o u,H b=some (.frz o u)->H' b=some (.frz o u)) (tbls:∀ b ps,H b=some (.tbl ps)->∃ more,H' b=some (.tbl (ps++more)))
 (ns:∀ m,s.heap.Ns X.env.locals m->h'.Ns X.env.locals m) (hok:HOk X.prog X.w H' h') (hg:AllBare g') :
 Inv X pins σ H' { s with heap:=h',gens:=g',drawn:=d',toks:=t' }:=by
 have neL:∀ b o,X.s₀.heap.get? b=some o->b≠X.env.locals:=λb o e=>KR (K4 (KD e) I.ok.above);have neC:∀ b o,X.s₀.heap.get? b=some o->b∉X.ex->b∉ch:=λb o e hx hb=>by
  rcases (hch b hb).1 with z|z
  .exact hx z
  .exact absurd (K4 (KD e) z) (My _)
 have cellK:∀ x c,X.env.cells.lookup x=some c->∀ v,s.heap.IsCell c v->h'.IsCell c v:=λx c e v ⟨o,ho,hd⟩=>by
  have nch:c∉ch:=λz=>(hch c z).2.2.1 x c e rfl;by_cases hc:c∈X.fs
  .obtain⟨sl,q⟩:=slot c o (I.cne x c e) hc nch ho (I.freeC x c e);exact⟨_,q,hd⟩
  .exact⟨o,keep c o (I.cne x c e) hc nch ho (.inl (I.freeC x c e)),hd⟩
 refine⟨I.ok,I.os,hg,⟨λb o e n hb hx=>?_,λb o e n hb hx=>?_,λb o e n hx=>?_,λb o e hx=>?_,λb xs e=>tups b xs (I.base.tups b xs e),λb o xs e=>frzs b o xs (I.base.frzs b o xs e),λb ps e=>?_⟩,?_,λx c e=>?_,?_,λx c e=>?_,λp hp=>?_,hok,I.len⟩
 .exact keep b o (neL b o e) hb (neC b o e hx) (I.base.keep b o e n hb hx) (n.imp (λn=>I.base.free b o e n hx) λ⟨xs,q⟩=>⟨xs,I.base.tups b xs q⟩)
 .obtain⟨sl,e1⟩:=I.base.slot b o e n hb hx;obtain⟨sl',e2⟩:=slot b _ (neL b o e) hb (neC b o e hx) e1 (I.base.free b o e n hx);exact⟨sl',e2⟩
 .obtain⟨o',e1⟩:=I.base.there b o e hx;exact free b o' (neC b o e hx) e1 (I.base.free b o e n hx)
 .obtain⟨o',e1⟩:=I.base.there b o e hx;exact there b o' (neC b o e hx) e1
 .obtain⟨m1,e1⟩:=I.base.tbls b ps e;obtain⟨m2,e2⟩:=tbls b _ e1;exact⟨m1++m2,by rw[e2,Array.append_assoc]⟩
 .obtain⟨m,hn,hl⟩:=I.loc;refine⟨m,ns m hn,λi x v e1 e2 e3=>?_⟩;obtain⟨u,r,l⟩:=hl i x v e1 e2 e3;refine⟨u,r,?_⟩;rcases l with l|⟨k,c,e,z⟩
  .exact .inl l
  .exact .inr ⟨k,c,e,cellK x c e _ z⟩
 .obtain⟨v,z⟩:=I.cell x c e;exact⟨v,cellK x c e v z⟩
 .obtain⟨m,⟨o,_,_,ho,_⟩,_⟩:=I.loc;exact free _ o (λz=>(hch _ z).2.1 rfl) ho I.free
 .obtain⟨v,o,ho,hd⟩:=I.cell x c e;exact free c o (λz=>(hch c z).2.2.1 x c e rfl) ho (I.freeC x c e)
 .obtain⟨e,n,ne,nf,d⟩:=I.pin p hp;have nch:p.1∉ch:=λz=>(hch p.1 z).2.2.2 p hp rfl;exact⟨keep p.1 p.2 ne nf nch e (.inl n),free p.1 p.2 nch e n,ne,nf,d⟩
theorem Inv.un {t':Nat}(I:Inv X pins σ H s)(u:Un X.fs [] H H' s.heap h')(hok:HOk X.prog X.w H' h'):Inv X pins σ H' { s with heap:=h',toks:=t' }:=by obtain⟨m,⟨o,es,ep,ho,r⟩,_⟩:=id I.loc;obtain⟨sl,hL⟩:=u.any ho I.free (by simp);exact I.step (g':=s.gens) (d':=s.drawn) (ch:=[]) (λ_ z=>nomatch z) (λb o _ hb _ e n=>u.keep b o e n hb (by simp)) (λb o _ hb _ e n=>u.slot b o e n hb (by simp)) (λb o _ e n=>u.free b o e n (by simp)) (λb o _ e=>u.there b o e (by simp)) u.tups u.frzs u.tbls (λm' hm=>by obtain⟨o',es',ep',ho',r'⟩:=hm;rw[ho]at ho';cases ho';exact⟨_,es',ep',hL,r'⟩) hok I.bare
theorem Inv.call {g':Array GenState}{t':Nat}{d':Drawn}{ch:List Addr}(I:Inv X pins σ H s)(u:Un (frs X.stack) ch H H' s.heap h')(hok:HOk X.prog X.w H' h')(hg:AllBare g')
 (hch:∀ b∈ch,(b∈X.ex\/X.s₀.heap.objs.size<=b)/\b≠X.env.locals/\(∀ x c,X.env.cells.lookup x=some c->c≠b)/\∀ p∈X.pn++pins,p.1≠b) :
 Inv X pins σ H' { s with heap:=h',gens:=g',drawn:=d',toks:=t' }:=by
 obtain⟨m,⟨o,es,ep,ho,r⟩,_⟩:=id I.loc;obtain⟨sl,hL⟩:=u.any ho I.free λz=>(hch _ z).2.1 rfl;exact I.step (ch:=ch) hch (λb o hL hb hc e n=>u.keep b o e n (λz=>(KB.mp (I.stkSub b z)).elim hL hb) hc) (λb o _ _ hc e n=>u.any e n hc) (λb o hc e n=>u.free b o e n hc) (λb o hc e=>u.there b o e hc) u.tups u.frzs u.tbls (λm' hm=>by obtain⟨o',es',ep',ho',r'⟩:=hm;rw[ho]at ho';cases ho';exact⟨_,es',ep',hL,r'⟩) hok hg
theorem Inv.turned {t':Nat}{it:Addr}(I:Inv X pins σ H s)(k:∀ b o,b≠it->s.heap.get? b=some o->h'.get? b=some o)(hn:H it=none)(hL:it≠X.env.locals)
 (h1:it∈X.ex\/X.s₀.heap.objs.size<=it) (h2:∀ x c,X.env.cells.lookup x=some c->c≠it) (h3:∀ p∈X.pn++pins,p.1≠it):Inv X pins σ H { s with heap:=h',toks:=t' }:=by
 have nit:∀ b u,H b=some u->b≠it:=λb u e z=>by rw[z,hn]at e;cases e
 refine I.step (g':=s.gens) (d':=s.drawn) (ch:=[it]) (λb hb=>?_) (λb o _ _ hc e _=>k b o (λz=>hc (by simp[z])) e) (λb o _ _ hc e _=>⟨o.slots,k b o (λz=>hc (by simp[z])) e⟩) (λ_ _ _ _ n=>n)
  (λb o hc e=>⟨o,k b o (λz=>hc (by simp[z])) e⟩) (λ_ _ e=>e) (λ_ _ _ e=>e) (λb ps e=>⟨#[],by rw[e];simp⟩) (λm hm=>?_) (λb u e=>?_) I.bare
 .have e:b=it:=by simpa using hb
  subst e;exact⟨h1,hL,h2,h3⟩
 .obtain⟨o,es,ep,ho,r⟩:=hm;exact⟨o,es,ep,k _ o (LJ hL) ho,r⟩
 .refine(I.hok b u e).stay (λc v hc q=>k c v ?_ q) (λ_ q=>q) λ_ _ q=>q;rcases hc with z|z
  .rw[z];exact nit b u e
  .exact nit c _ z
theorem Inv.tok (I:Inv X pins σ H s)(t:Nat):Inv X pins σ H { s with toks:=t }:=I.un (h':=s.heap) (t':=t) Un.refl I.hok
theorem Inv.kept {t':Nat}(I:Inv X pins σ H s)(k:∀ b u,s.heap.get? b=some u->h'.get? b=some u):Inv X pins σ H { s with heap:=h',toks:=t' }:=I.un (Un.kept k) (I.hok.kept k)
theorem Inv.laid {a:Addr}{o:HO}{t':Nat}(I:Inv X pins σ H s)(k:∀ b u,s.heap.get? b=some u->h'.get? b=some u)(hp:s.heap.objs.size<=a)(new:ObjOk X.prog X.w (aB H a o) h' a o) :
 Inv X pins σ (aB H a o) { s with heap:=h',toks:=t' }:=I.un (Un.laid k hp (I.hok.fresh hp)) (I.hok.laid k hp new)
theorem Inv.write {x e:Addr}{o:HO}{t':Nat}(I:Inv X pins σ H s)(mu:Hd (H x))(he:e=x\/H e=some (.own x))(k:∀ b u,b≠e->s.heap.get? b=some u->h'.get? b=some u)(heo:∃ u,h'.get? e=some u)
 (new:ObjOk X.prog X.w (aB H x o) h' x o):Inv X pins σ (aB H x o) { s with heap:=h',toks:=t' }:=I.un (Un.write mu he k heo) (I.hok.write mu he k heo new)
theorem Inv.pins_of {pins':List (Addr×Obj)}(I:Inv X pins σ H s)(h:∀ p∈pins',s.heap.get? p.1=some p.2/\H p.1=none/\p.1≠X.env.locals/\p.1∉X.fs/\∀ v,p.2.data≠.cell v):Inv X pins' σ H s:=⟨I.ok,I.os,I.bare,I.base,I.loc,I.cell,I.free,I.freeC,λp hp=>(Lf.mp hp).elim (λz=>I.pin p (Mw _ z)) (h p),I.hok,I.len⟩
theorem ue {N:List Str}(hN:N.Nodup){i j:Nat}{x:Str}(a:N[i]?=some x)(b:N[j]?=some x):i=j:=by obtain⟨h1,e1⟩:=KA.mp a;obtain⟨h2,e2⟩:=KA.mp b;exact(List.getElem_inj hN).mp (e1.trans e2.symm)
theorem rh {M:Model}{A:OB}{E:OA->Ox->Prop}{i:Nat}{x:Str}{v:V}{u:OA}{Q:Unit->Ox->Prop}(I:Inv X pins σ H s)(hN:X.N.Nodup)(hi:X.N[i]?=some x)(hx:Fy X.env.scope x)(r:RelV v u)
 (h:∀ s',Inv X pins (σ.set i (some v)) H s'->(∃ a,Heap.SameBut a s.heap s'.heap/\(a=X.env.locals\/X.env.cells.lookup x=some a))->Q () s') (hf:autoParam (X.fn x=true\/X.env.scope.names.lookup x=some .local) OD._auto_1):wpAny M A (storeName X.env x u) Q E s:=by
 obtain⟨m,hn,hl⟩:=id I.loc;have hcls:(X.env.scope.kind==.class || (X.env.scope.kind==.module&&X.env.locals != X.env.globals))=false:=by rw[I.ok.kind];rfl
 have hiσ:i<σ.length:=by rw[I.len];exact(KA.mp hi).1
 have cne:=I.cne;have tracked:∀{a:Addr}{h':Heap},(∃ o,s.heap.get? a=some o/\H a=none)->Heap.SameBut a s.heap h'->HOk X.prog X.w H h':=λ{a h'} ha hs b ob e=>by
  obtain⟨_,_,hfree⟩:=ha;refine(I.hok b ob e).stay (λc w' hc q=>(hs.2 c ?_).trans q) (λ_ q=>q) λ_ _ q=>q;rintro rfl;rcases hc with rfl|hc
  .rw[hfree]at e;cases e
  .rw[hfree]at hc;cases hc
 rcases hx with hk|hk
 .refine wpAny_storeName_local hk hn (λh' hn' hs=>?_) hcls;obtain⟨oL,_,_,hoL,_⟩:=id hn;refine h _ ⟨I.ok,I.os,I.bare,⟨λb o e n hb hx=>?_,λb o e n hb hx=>?_,I.base.free,λb o e hx=>?_,I.base.tups,I.base.frzs,I.base.tbls⟩,⟨_,hn',λj y v' e1 e2 e3=>?_⟩,λy c e=>?_,I.free,I.freeC,λp hp=>?_,tracked ⟨oL,hoL,I.free⟩ hs,by simpa using I.len⟩ ⟨_,hs,.inl rfl⟩
  .exact(hs.2 b (KR (K4 (KD e) I.ok.above))).trans (I.base.keep b o e n hb hx)
  .obtain⟨sl,e1⟩:=I.base.slot b o e n hb hx;exact⟨sl,(hs.2 b (KR (K4 (KD e) I.ok.above))).trans e1⟩
  .obtain⟨o',e1⟩:=I.base.there b o e hx;exact⟨o',(hs.2 b (KR (K4 (KD e) I.ok.above))).trans e1⟩
  .by_cases hj:j=i
   .subst hj;rw[hi]at e1;cases e1;rw[Lb hiσ]at e2;cases e2;exact⟨u,r,.inl ⟨hk,by simp⟩⟩
   .rw[Lq (LJ hj)]at e2;obtain⟨u',r',q⟩:=hl j y v' e1 e2 e3;refine⟨u',r',?_⟩;rcases q with⟨k,e⟩|⟨k,c,e,z⟩
    .refine .inl ⟨k,?_⟩;have:y≠x:=λe=>hj (ue hN e1 (e▸hi));simp[this,e]
    .exact .inr ⟨k,c,e,z.sameBut hs (cne y c e)⟩
  .obtain⟨w',z⟩:=I.cell y c e;exact⟨w',z.sameBut hs (cne y c e)⟩
  .obtain⟨e,n,ne,nf,d⟩:=I.pin p hp;exact⟨(hs.2 p.1 ne).trans e,n,ne,nf,d⟩
 .have hfn:X.fn x=true:=by
   rcases hf with z|z
   .exact z
   .rw[z]at hk;cases hk
  obtain⟨c,hc⟩:=I.ok.has x (.inl hk);obtain⟨w',z⟩:=I.cell x c hc;refine wpAny_storeName_cell I.ok.kind hk hc z (λh' hc' hs=>?_);obtain⟨oc,hoc,hocd⟩:=id z;refine h { s with heap:=h' } ⟨I.ok,I.os,I.bare,⟨λb o e n hb hx=>?_,λb o e n hb hx=>?_,I.base.free,λb o e hx=>?_,I.base.tups,I.base.frzs,I.base.tbls⟩,⟨m,hn.sameBut hs (LJ (cne x c hc)),λj y v' e1 e2 e3=>?_⟩,λy c' e=>?_,I.free,I.freeC,λp hp=>?_,tracked ⟨oc,hoc,I.freeC x c hc⟩ hs,by simpa using I.len⟩ ⟨c,hs,.inr hc⟩
  .exact(hs.2 b (KR (K4 (KD e) (I.ok.cab x c hfn hc)))).trans (I.base.keep b o e n hb hx)
  .obtain⟨sl,e1⟩:=I.base.slot b o e n hb hx;exact⟨sl,(hs.2 b (KR (K4 (KD e) (I.ok.cab x c hfn hc)))).trans e1⟩
  .obtain⟨o',e1⟩:=I.base.there b o e hx;exact⟨o',(hs.2 b (KR (K4 (KD e) (I.ok.cab x c hfn hc)))).trans e1⟩
  .by_cases hj:j=i
   .subst hj;rw[hi]at e1;cases e1;rw[Lb hiσ]at e2;cases e2;exact⟨u,r,.inr ⟨.inl hk,c,hc,hc'⟩⟩
   .rw[Lq (LJ hj)]at e2;obtain⟨u',r',q⟩:=hl j y v' e1 e2 e3;refine⟨u',r',?_⟩;rcases q with q|⟨k,c',e,z'⟩
    .exact .inl q
    .refine .inr ⟨k,c',e,z'.sameBut hs ?_⟩;rintro rfl;exact hj (ue hN e1 (I.ok.inj _ _ _ e hc▸hi))
  .by_cases hcc:c'=c
   .subst hcc;exact⟨_,hc'⟩
   .obtain⟨w2,z2⟩:=I.cell y c' e;exact⟨w2,z2.sameBut hs hcc⟩
  .obtain⟨e,n,ne,nf,d⟩:=I.pin p hp;refine⟨(hs.2 p.1 ?_).trans e,n,ne,nf,d⟩;intro q;rw[q,hoc]at e;have q':oc=p.2:=La e;exact d w' (by rw[<- q'];exact hocd)
theorem lX {M:Model}{A:OB}{E:OA->Ox->Prop}{i:Nat}{x:Str}{v:V}{u:OA}{Q:Unit->Ox->Prop}(I:Inv X pins σ H s)(hN:X.N.Nodup)(hi:X.N[i]?=some x)(hx:Fy X.env.scope x)(r:RelV v u)
 (h:∀ s',Inv X pins (σ.set i (some v)) H s'->Q () s') (hf:autoParam (X.fn x=true\/X.env.scope.names.lookup x=some .local) OD._auto_1):wpAny M A (storeName X.env x u) Q E s:=
 rh I hN hi hx r (λs' I' _=>h s' I') hf
theorem Inv.call' {s':Ox}{ch:List Addr}(I:Inv X pins σ H s)(ho:s'.os=s.os)(u:Un (frs X.stack) ch H H' s.heap s'.heap)(hok:HOk X.prog X.w H' s'.heap)(hg:AllBare s'.gens)
 (hch:∀ b∈ch,(b∈X.ex\/X.s₀.heap.objs.size<=b)/\b≠X.env.locals/\(∀ x c,X.env.cells.lookup x=some c->c≠b)/\∀ p∈X.pn++pins,p.1≠b):Inv X pins σ H' s':=by
 obtain⟨h',g',d',t',o'⟩:=s';have e:o'=s.os:=ho;subst e;exact I.call (g':=g') (t':=t') (d':=d') u hok hg hch
end
abbrev XK:=OA->Option Addr->Hp->Prop
noncomputable abbrev St:=List (Option V)
abbrev VK:=V->Hp->Prop
abbrev TE:=St->Hp->VK->Prop
abbrev TT:=St->Hp->(Bool->Hp->Prop)->Prop
abbrev TA:=St->Hp->(List V->Hp->Prop)->Prop
structure Ends where
 nx:St->Hp->Prop
 rt:VK
 bk:St->Hp->Prop:=λ_ _=>False
 ct:St->Hp->Prop:=λ_ _=>False
abbrev TS:=Ends->St->Hp->Prop
def EP (X:Cx)(pins:List (Addr×Obj))(σ:St)(Q:VK)(u:OA)(s':Ox):Prop:=∃ v H',Inv X pins σ H' s'/\RelV v u/\Q v H'
def TP (X:Cx)(pins:List (Addr×Obj))(σ:St)(Q:Bool->Hp->Prop)(b:Bool)(s':Ox):Prop:=∃ H',Inv X pins σ H' s'/\Q b H'
def AP (X:Cx)(pins:List (Addr×Obj))(σ:St)(Q:List V->Hp->Prop)(us:List OA)(s':Ox):Prop:=∃ vs H',Inv X pins σ H' s'/\Vals vs us/\Q vs H'
def SP (X:Cx)(pins:List (Addr×Obj))(D:Ends)(f:Flow)(s':Ox):Prop:=
 match f with
 | .next=>∃ σ' H',Inv X pins σ' H' s'/\D.nx σ' H'
 | .brk=>∃ σ' H',Inv X pins σ' H' s'/\D.bk σ' H'
 | .cont=>∃ σ' H',Inv X pins σ' H' s'/\D.ct σ' H'
 | .ret u=>∃ v σ' H',Inv X pins σ' H' s'/\RelV v u/\D.rt v H'
def PE (X:Cx)(e:Expr)(t:TE):Prop:=∀(pins:List (Addr×Obj))(s:Ox)(σ:St)(H:Hp)(Q:VK),Inv X pins σ H s->t σ H Q->wpAny (model X.prog X.w) X.A (eval e X.env) (EP X pins σ Q) X.xe s
def PT (X:Cx)(e:Expr)(t:TT):Prop:=∀(pins:List (Addr×Obj))(s:Ox)(σ:St)(H:Hp)(Q:Bool->Hp->Prop),Inv X pins σ H s->t σ H Q->wpAny (model X.prog X.w) X.A (isTrue e X.env (eval e X.env)) (TP X pins σ Q) X.xe s
def PW (X:Cx)(e:Expr)(t:TT):Prop:=∀(whole:Sem OA)(pins:List (Addr×Obj))(s:Ox)(σ:St)(H:Hp)(Q:Bool->Hp->Prop),Inv X pins σ H s->t σ H Q->wpAny (model X.prog X.w) X.A (isTrue e X.env whole) (TP X pins σ Q) X.xe s
theorem PW.pt {X:Cx}{e:Expr}{t:TT}(h:PW X e t):PT X e t:=h _
def PA (X:Cx)(es:List Expr)(t:TA):Prop:=∀(pos:Pos)(pins:List (Addr×Obj))(s:Ox)(σ:St)(H:Hp)(Q:List V->Hp->Prop),Inv X pins σ H s->t σ H Q->wpAny (model X.prog X.w) X.A (spliced (backTo pos (starEach es X.env))) (AP X pins σ Q) X.xe s
def PS (X:Cx)(st:Stmt)(t:TS):Prop:=∀(pins:List (Addr×Obj))(s:Ox)(σ:St)(H:Hp)(D:Ends),Inv X pins σ H s->t D σ H->wpAny (model X.prog X.w) X.A (exec st X.env) (SP X pins D) X.xe s
def PSs (X:Cx)(st:List Stmt)(t:TS):Prop:=∀(pins:List (Addr×Obj))(s:Ox)(σ:St)(H:Hp)(D:Ends),Inv X pins σ H s->t D σ H->wpAny (model X.prog X.w) X.A (execs st X.env) (SP X pins D) X.xe s
theorem bW {α:Type}{t:Sem α}{Q Q':α->Ox->Prop}{M:Model}{A:OB}{E:OA->Ox->Prop}{s:Ox}(h:wpAny M A t Q E s)(hQ:∀ a s,Q a s->Q' a s):wpAny M A t Q' E s:=Ms h hQ λ_ _ x=>x
section
variable {X:Cx}
noncomputable def aw (i:Nat):TE:=λσ H Q=>∃ v,σ[i]?=some (some v)/\Q v H
noncomputable def tC (v:V):TE:=λ_ H Q=>Q v H
theorem Fz {i:Nat} {x:Str} {pos:Pos} (hN:X.N[i]?=some x) (hv:Vis X.env.scope x) (hd:autoParam ((x==("__debug__" : Str))=false) OC._auto_1) (hcd:autoParam ((x==("__classdict__" : Str))=false) OC._auto_1):PE X (.Name x pos) (aw i):=by
 intro pins s σ H Q I h;obtain⟨v,e,h⟩:=h;obtain⟨m,hn,hl⟩:=I.loc;obtain⟨u,r,l⟩:=hl i x v hN e hv;have fin:EP X pins σ Q u s:=⟨v,H,I,r,h⟩;rcases l with⟨hk,hm⟩|⟨hk,c,hc,hcell⟩
 .exact wpAny_Name (wpAny_loadName_local I.ok.kind hk hn hm fin) hd
 .rcases hk with hk|hk
  .exact wpAny_Name (wpAny_loadName_cell I.ok.kind hk hc hcell fin) hd
  .exact wpAny_Name (wpAny_loadName_free I.ok.kind hk hc hcell fin hcd) hd
theorem aH {i j pos}:PE X (.Constant (.int i) j pos) (tC (.int i)):=λ_ _ _ H _ I h=>wpAny_Constant_int ⟨.int i,H,I.tok _,⟨_,rfl⟩,h⟩
theorem Hi {b j pos}:PE X (.Constant (.bool b) j pos) (tC (.bl b)):=λ_ _ _ H _ I h=>Constant_bool ⟨.bl b,H,I,rfl,h⟩
theorem lK {j pos}:PE X (.Constant .none j pos) (tC .non):=λ_ _ _ H _ I h=>Constant_none ⟨.non,H,I,rfl,h⟩
def Gl (X:Cx)(x:Str):Prop:=X.env.kindOf x=some .globalImplicit
theorem sD {E:OA->Ox->Prop}{pins:List (Addr×Obj)}{s:Ox}{σ:St}{H:Hp}{x:Str}{u:OA}{pos:Pos}{Q:OA->Ox->Prop}(I:Inv X pins σ H s)(hg:Gl X x)(hm:X.mg x=some u)(h:Q u s)
 (hd:autoParam ((x==("__debug__" : Str))=false) OC._auto_1):wpAny (model X.prog X.w) X.A (eval (.Name x pos) X.env) Q E s:=
 Calls.Name_function_global I.ok.kind hg (Calls.loadGlobal_global (by rw[I.ok.glob];exact I.mod.glob.keeps I.bk) hm h) hd
theorem mY {E:OA->Ox->Prop}{pins:List (Addr×Obj)}{s:Ox}{σ:St}{H:Hp}{x:Str}{u:OA}{pos:Pos}{Q:OA->Ox->Prop}(I:Inv X pins σ H s)(hg:Gl X x)(hm:X.mg x=none)(hv:bootBuiltins x=some u)(h:Q u s)
 (hn:autoParam (x≠"__name__") OC._auto_1) (hd:autoParam ((x==("__debug__" : Str))=false) OC._auto_1):wpAny (model X.prog X.w) X.A (eval (.Name x pos) X.env) Q E s:=by
 obtain⟨mb,h1,h2⟩:=I.mod.blt;exact Calls.Name_function_global I.ok.kind hg (Calls.loadGlobal_builtin (by rw[I.ok.glob];exact I.mod.glob.keeps I.bk) hm (by rw[I.ok.blt];exact h1.keeps I.bk) ((h2 x hn).trans hv) h) hd
theorem CM {x:Str} {v:V} {u:OA} {pos:Pos} (hg:Gl X x) (hm:X.mg x=none) (hv:bootBuiltins x=some u) (r:RelV v u) (hn:autoParam (x≠"__name__") OC._auto_1) (hd:autoParam ((x==("__debug__" : Str))=false) OC._auto_1):PE X (.Name x pos) (tC v):=λ_ _ _ H _ I h=>mY I hg hm hv ⟨v,H,I,r,h⟩ hn hd
variable {a b:Expr}{ta tb:TE}{pos:Pos}
def PC (X:Cx)(op:CmpOp)(a b:Expr)(t:TE):Prop:=
 ∀(pins:List (Addr×Obj))(s:Ox)(σ:St)(H:Hp)(Q:VK),Inv X pins σ H s->t σ H Q->
  wpAny (model X.prog X.w) X.A (eval a X.env) (λv s₁=>wpAny (model X.prog X.w) X.A (eval b X.env) (λu s₂=>wpAny (model X.prog X.w) X.A (compareOp op v u) (EP X pins σ Q) X.xe s₂) X.xe s₁) X.xe s
theorem z5 (b:Expr){op:CmpOp}(h:op≠.In)(h2:op≠.NotIn):behindInMarks op b=false:=by
 have e1:(op==CmpOp.In)=false:=by cases op<;>first|rfl|exact absurd rfl h
 have e2:(op==CmpOp.NotIn)=false:=by cases op<;>first|rfl|exact absurd rfl h2
 cases b<;>simp[behindInMarks,e1,e2]
noncomputable def Jt (ta:TE):TE:=λσ H Q=>ta σ H λx H1=>Q (.bl (decide (x=.non))) H1
noncomputable def Hj (ta:TE):TE:=λσ H Q=>ta σ H λx H1=>Q (.bl (!decide (x=.non))) H1
theorem RelV.none_iff {x:V}{v:OA}(r:RelV x v):(v==Value.none)=decide (x=.non):=by
 cases x with
 |non=>cases r;rfl
 |bl _=>cases r;rfl
 |int _=>obtain⟨t,rfl⟩:=r;rfl
 |str _=>obtain⟨t,rfl⟩:=r;rfl
 |byt _=>obtain⟨t,rfl⟩:=r;rfl
 |flt _=>obtain⟨t,rfl⟩:=r;rfl
 |ref _=>cases r;rfl
 |ty _=>cases r;rfl
theorem FA {j pos'}(ha:PE X a ta):PC X .Is a (.Constant .none j pos') (Jt ta):=by intro pins s σ H Q I h;refine bW (ha pins s σ H _ I h) λv s1 ⟨x,H1,I1,r1,q1⟩=>?_;exact Constant_none (is_none_gen ⟨.bl _,H1,I1,by rw[r1.none_iff];rfl,q1⟩)
theorem CN {j pos'}(ha:PE X a ta):PC X .IsNot a (.Constant .none j pos') (Hj ta):=by intro pins s σ H Q I h;refine bW (ha pins s σ H _ I h) λv s1 ⟨x,H1,I1,r1,q1⟩=>?_;exact Constant_none (isnot_none_gen ⟨.bl _,H1,I1,by rw[r1.none_iff];rfl,q1⟩)
noncomputable def tB (t:TE):TT:=λσ H Q=>t σ H λx H1=>∃ c,x=.bl c/\Q c H1
theorem z6 {op:CmpOp}{t:TE}(h:PC X op a b t)(h1:behindInMarks op b=false:=by first|exact z5 _ (by decide) (by decide)|rfl):PT X (.Compare a [op] [b] pos) (tB t):=by intro pins s σ H Q I hw;refine wpAny_isTrue_Compare1 (bW (h pins s σ H _ I hw) λv s1 h1=>bW h1 λu s2 h2=>bW h2 λc s3 ⟨x,H1,I1,r1,q1⟩=>?_) h1;obtain⟨d,rfl,q⟩:=q1;cases r1;exact LV ⟨H1,I1,q⟩
theorem FC {e:Expr}{t:TE}(h:PE X e t)(he:autoParam (∀ whole,isTrue e X.env whole=(do let v <- whole;standAt e.pos;holding [v] (truthy v))) OF._auto_1):PT X e (tB t):=by intro pins s σ H Q I hw;refine isTrue_plain (bW (h pins s σ H _ I hw) λv s1 ⟨x,H1,I1,r1,q1⟩=>?_) (he _);obtain⟨d,rfl,q⟩:=q1;cases r1;exact LV ⟨H1,I1,q⟩
variable {tA tB':TT}{rest:List Expr}
noncomputable def Ju (t u:TT):TT:=λσ H Q=>t σ H λc H1=>if c=true then u σ H1 Q else Q false H1
noncomputable def J5 (t u:TT):TT:=λσ H Q=>t σ H λc H1=>if c=true then Q true H1 else u σ H1 Q
noncomputable def Hk (t:TT):TT:=λσ H Q=>t σ H λc H1=>Q (!c) H1
theorem CO (ha:PT X a tA):PW X (.BoolOp .And [a] pos) tA:=by
 intro wh pins s σ H Q I h;refine isTrue_and (bW (ha pins s σ H Q I h) λc s1 e=>?_);cases c with
 |true=>exact isTrue_and_nil e
 |false=>exact e
theorem z7 (ha:PT X a tA):PW X (.BoolOp .Or [a] pos) tA:=by
 intro wh pins s σ H Q I h;refine isTrue_or (bW (ha pins s σ H Q I h) λc s1 e=>?_);cases c with
 |false=>exact isTrue_or_nil e
 |true=>exact e
theorem FD (ha:PT X a tA)(hb:PW X (.BoolOp .And (b::rest) pos) tB'):PW X (.BoolOp .And (a::b::rest) pos) (Ju tA tB'):=by
 intro wh pins s σ H Q I h;refine isTrue_and (bW (ha pins s σ H _ I h) λc s1 ⟨H1,I1,q1⟩=>?_);cases c with
 |true=>exact hb wh pins s1 σ H1 Q I1 q1
 |false=>exact⟨H1,I1,q1⟩
theorem EM (ha:PT X a tA)(hb:PW X (.BoolOp .Or (b::rest) pos) tB'):PW X (.BoolOp .Or (a::b::rest) pos) (J5 tA tB'):=by
 intro wh pins s σ H Q I h;refine isTrue_or (bW (ha pins s σ H _ I h) λc s1 ⟨H1,I1,q1⟩=>?_);cases c with
 |true=>exact⟨H1,I1,q1⟩
 |false=>exact hb wh pins s1 σ H1 Q I1 q1
theorem z8 (ha:PT X a tA):PT X (.UnaryOp .Not a pos) (Hk tA):=by intro pins s σ H Q I h;exact isTrue_not (ha pins s σ H (λc H1=>Q (!c) H1) I h)
noncomputable def Hl (ta tb:TE):TE:=λσ H Q=>ta σ H λx H1=>∃ c,x=.bl c/\if c=true then tb σ H1 Q else Q (.bl false) H1
noncomputable def Hm (ta:TE):TE:=λσ H Q=>ta σ H λx H1=>∃ c,x=.bl c/\Q (.bl (!c)) H1
theorem FE {op}{t:TE}(h:PE X a t):PE X (.BoolOp op [a] pos) t:=λpins s σ H Q I hw=>BoolOp_one (h pins s σ H Q I hw)
theorem FF (ha:PE X a ta)(hb:PE X (.BoolOp .And (b::rest) pos) tb):PE X (.BoolOp .And (a::b::rest) pos) (Hl ta tb):=by
 intro pins s σ H Q I h;refine BoolOp_and (bW (ha pins s σ H _ I h) λv s1 ⟨x,H1,I1,r1,q1⟩=>?_);obtain⟨c,rfl,q1⟩:=q1;cases r1;refine LV ?_;cases c with
 |true=>exact hb pins s1 σ H1 Q I1 q1
 |false=>exact⟨.bl false,H1,I1,rfl,q1⟩
theorem FG (ha:PE X a ta):PE X (.UnaryOp .Not a pos) (Hm ta):=by intro pins s σ H Q I h;refine UnaryOp_ (bW (ha pins s σ H _ I h) λv s1 ⟨x,H1,I1,r1,q1⟩=>?_);obtain⟨c,rfl,q1⟩:=q1;cases r1;exact not_of (LV ⟨.bl (!c),H1,I1,rfl,q1⟩)
noncomputable def Ka (t:TT)(ta tb:TE):TE:=λσ H Q=>t σ H λc H1=>if c=true then ta σ H1 Q else tb σ H1 Q
theorem z9 {c:Expr}(hc:PT X c tA)(ha:PE X a ta)(hb:PE X b tb):PE X (.IfExp c a b pos) (Ka tA ta tb):=by
 intro pins s σ H Q I h;refine wpAny_IfExp (bW (hc pins s σ H _ I h) λd s1 ⟨H1,I1,q1⟩=>?_);cases d with
 |true=>exact ha pins s1 σ H1 Q I1 q1
 |false=>exact hb pins s1 σ H1 Q I1 q1
end
def SqL (K:Oy)(H:Hp)(a:Addr)(xs:List V):Prop:=
 Rd H a (.lst xs)\/
  ∃(o:Obj)(its:Array OA)(n:Nat),K.lookup a=some o/\o.cls=.type "list"/\o.dict=none/\o.data=.seq its n/\its.size<=sizeLine/\Vals xs its.toList
def SqT (K:Oy)(H:Hp)(a:Addr)(xs:List V):Prop:=
 Rd H a (.tup xs)\/
  ∃(o:Obj)(its:Array OA)(n:Nat),K.lookup a=some o/\o.cls=.type "tuple"/\o.data=.seq its n/\its.size<=sizeLine/\Vals xs its.toList
noncomputable def Jv:OA->Option V
 | .none=>some .non
 | .bool b=>some (.bl b)
 | .int i _=>some (.int i)
 | .str x _=>some (.str x)
 | .bytes b _=>some (.byt b)
 | .float b _=>some (.flt b)
 | .ref a=>some (.ref a)
 | .type n=>some (.ty n)
 |_=>none
theorem RelV.abs {x:V}{u:OA}(r:RelV x u):Jv u=some x:=by
 cases x with
 |non=>cases r;rfl
 |bl _=>cases r;rfl
 |int _=>obtain⟨t,rfl⟩:=r;rfl
 |str _=>obtain⟨t,rfl⟩:=r;rfl
 |byt _=>obtain⟨t,rfl⟩:=r;rfl
 |flt _=>obtain⟨t,rfl⟩:=r;rfl
 |ref _=>cases r;rfl
 |ty _=>cases r;rfl
theorem RelV.inj {x y:V}{u:OA}(r:RelV x u)(q:RelV y u):x=y:=La (r.abs.symm.trans q.abs)
theorem Vals.inj:∀{xs ys:List V}{us:List OA},Vals xs us->Vals ys us->xs=ys
 |_,_,_,.nil,.nil=>rfl
 |_,_,_,.cons r t,.cons r' t'=>by rw[r.inj r',Vals.inj t t']
section
variable {X:Cx}{pins:List (Addr×Obj)}{σ:St}{H:Hp}{s:Ox}{a:Addr}{xs ys:List V}
theorem SqL.of {K:Oy}(h:H a=some (.lst xs)):SqL K H a xs:=.inl (.inl h)
theorem SqT.of {K:Oy}(h:H a=some (.tup xs)):SqT K H a xs:=.inl (.inl h)
theorem Inv.list (I:Inv X pins σ H s)(h:SqL X.K H a xs):∃ its:List OA,Vals xs its/\PlainL s.heap a its.toArray/\xs.length<=sizeLine:=by
 rcases h with h|⟨o,its,n,hk,hc,hd,hs,hz,r⟩
 .obtain⟨z,its,n,r,e⟩:=h.ok I.hok;exact⟨its,r,⟨_,n,e,rfl,rfl,rfl⟩,z⟩
 .refine⟨its.toList,r,⟨o,n,I.kIn a o hk,hc,hd,by simpa using hs⟩,?_⟩;have e:=r.length;simp only[Np]at e;lia
theorem Inv.tuple (I:Inv X pins σ H s)(h:SqT X.K H a xs):∃ its:List OA,Vals xs its/\IsTup s.heap a its.toArray/\xs.length<=sizeLine:=by
 rcases h with h|⟨o,its,n,hk,hc,hs,hz,r⟩
 .obtain⟨z,its,r,p⟩:=h.ok I.hok;exact⟨its,r,p,z⟩
 .refine⟨its.toList,r,⟨o,I.kIn a o hk,hc,n,by simpa using hs⟩,?_⟩;have e:=r.length;simp only[Np]at e;lia
theorem Inv.list_inj (I:Inv X pins σ H s)(h:SqL X.K H a xs)(h':SqL X.K H a ys):xs=ys:=by
 obtain⟨its,r,⟨o,n,e,_,_,d⟩,_⟩:=I.list h;obtain⟨its',r',⟨o',n',e',_,_,d'⟩,_⟩:=I.list h';rw[e]at e';cases e';rw[d]at d';injection d' with d1 _;have:its=its':=by simpa using LA Array.toList d1
 subst this;exact r.inj r'
theorem Inv.tuple_inj (I:Inv X pins σ H s)(h:SqT X.K H a xs)(h':SqT X.K H a ys):xs=ys:=by
 obtain⟨its,r,⟨o,e,_,n,d⟩,_⟩:=I.tuple h;obtain⟨its',r',⟨o',e',_,n',d'⟩,_⟩:=I.tuple h';rw[e]at e';cases e';rw[d]at d';injection d' with d1 _;have:its=its':=by simpa using LA Array.toList d1
 subst this;exact r.inj r'
end
noncomputable abbrev Cx.wish (X:Cx)(E:OA->Ox->Prop):Cx:={ X with xe:=E }
abbrev Cx.nox (X:Cx):Cx:=X.wish λ_ _=>False
theorem Cx.Ok.wish {X:Cx}(ok:X.Ok)(E:OA->Ox->Prop):(X.wish E).Ok:=⟨ok.mod,ok.kind,ok.glob,ok.blt,ok.above,ok.inj,ok.has,ok.cab,ok.hd,ok.frames,ok.stk,ok.exf,ok.bs,ok.bsz,ok.noex,ok.exfs,ok.funs,ok.frf,ok.kt⟩
theorem Cx.Ok.unwish {X:Cx}{E:OA->Ox->Prop}(ok:(X.wish E).Ok):X.Ok:=⟨ok.mod,ok.kind,ok.glob,ok.blt,ok.above,ok.inj,ok.has,ok.cab,ok.hd,ok.frames,ok.stk,ok.exf,ok.bs,ok.bsz,ok.noex,ok.exfs,ok.funs,ok.frf,ok.kt⟩
section
variable {X:Cx}{pins:List (Addr×Obj)}{σ:St}{H:Hp}{s:Ox}{E:OA->Ox->Prop}
theorem Inv.wish (I:Inv X pins σ H s)(E:OA->Ox->Prop):Inv (X.wish E) pins σ H s:=⟨I.ok.wish E,I.os,I.bare,I.base,I.loc,I.cell,I.free,I.freeC,I.pin,I.hok,I.len⟩
theorem Inv.unwish (I:Inv (X.wish E) pins σ H s):Inv X pins σ H s:=⟨I.ok.unwish,I.os,I.bare,I.base,I.loc,I.cell,I.free,I.freeC,I.pin,I.hok,I.len⟩
theorem SP.unwish {D:Ends}{f:Flow}{s':Ox}(h:SP (X.wish E) pins D f s'):SP X pins D f s':=by
 cases f with
 |next=>obtain⟨σ',H',I,q⟩:=h;exact⟨σ',H',I.unwish,q⟩
 |brk=>obtain⟨σ',H',I,q⟩:=h;exact⟨σ',H',I.unwish,q⟩
 |cont=>obtain⟨σ',H',I,q⟩:=h;exact⟨σ',H',I.unwish,q⟩
 |ret u=>obtain⟨v,σ',H',I,r,q⟩:=h;exact⟨v,σ',H',I.unwish,r,q⟩
theorem PSs.nox {st:List Stmt}{t:TS}(h:PSs X.nox st t):PSs X st t:=λpins s σ H D I hw=>Ms (h pins s σ H D (I.wish _) hw) (λ_ _ q=>q.unwish) λ_ _ z=>False.elim z
end
section
variable {X:Cx}{st:Stmt}{rest:List Stmt}{t u:TS}{e:Expr}{te:TE}{pos:Pos}
noncomputable def uf:TS:=λD σ H=>D.nx σ H
noncomputable def gA (t u:TS):TS:=λD σ H=>t { D with nx:=u D } σ H
theorem lY:PSs X [] uf:=λ_ _ σ H _ I h=>N1 ⟨σ,H,I,h⟩
theorem aL (h1:PS X st t)(h2:PSs X rest u):PSs X (st::rest) (gA t u):=by
 intro pins s σ H D I h;refine wpAny_execs_cons (bW (h1 pins s σ H { D with nx:=u D } I h) λf s1 q=>?_);cases f with
 |next=>obtain⟨σ',H',I',q⟩:=q;exact h2 pins s1 σ' H' D I' q
 |ret v=>exact q
 |brk=>exact q
 |cont=>exact q
theorem aO (h1:PS X st t):PSs X [st] t:=by
 intro pins s σ H D I h;refine wpAny_execs_cons (bW (h1 pins s σ H D I h) λf s1 q=>?_);cases f with
 |next=>exact N1 q
 |ret v=>exact q
 |brk=>exact q
 |cont=>exact q
noncomputable def Ho:TS:=λD σ H=>D.ct σ H
theorem ug:PS X (.Continue pos) Ho:=λ_ _ σ H _ I h=>wpAny_Continue ⟨σ,H,I,h⟩
theorem Inv.quiet {pins:List (Addr×Obj)}{σ:St}{H:Hp}{s:Ox}(I:Inv X pins σ H s):interactive X.env=false:=by simp[interactive,I.ok.kind]
noncomputable def f_ (te:TE):TS:=λD σ H=>te σ H λ_ H1=>D.nx σ H1
theorem ci (he:PE X e te)(hs:autoParam (swapsWith e none pos.line X.env=pure false) OH._auto_1):PS X (.Expr e pos) (f_ te):=by intro pins s σ H D I h;exact wpAny_Expr_any (bW (he pins s σ H _ I h) λv s1 ⟨x,H1,I1,r1,q1⟩=>⟨σ,H1,I1,q1⟩) I.quiet hs
noncomputable def uh (te:TE):TS:=λD σ H=>te σ H D.rt
theorem mZ (he:PE X e te):PS X (.Return (some e) pos) (uh te):=by intro pins s σ H D I h;exact wpAny_Return_some (bW (he pins s σ H _ I h) λv s1 ⟨x,H1,I1,r1,q1⟩=>⟨x,σ,H1,I1,r1,q1⟩)
noncomputable def yH (c:TT)(t u:TS):TS:=λD σ H=>c σ H λb H1=>if b=true then t D σ H1 else u D σ H1
theorem ri {c:Expr}{a b:List Stmt}{tc:TT}(hc:PT X c tc)(ha:PSs X a t)(hb:PSs X b u):PS X (.If c a b pos) (yH tc t u):=by
 intro pins s σ H D I h;refine wpAny_If (bW (hc pins s σ H _ I h) λd s1 ⟨H1,I1,q1⟩=>?_);cases d with
 |true=>exact ha pins s1 σ H1 D I1 q1
 |false=>exact hb pins s1 σ H1 D I1 q1
end
abbrev TG:=V->St->Hp->(St->Hp->Prop)->Prop
abbrev EN:=List V->St->Hp->(St->Hp->Prop)->Prop
def PG (X:Cx)(target:Expr)(t:TG):Prop:=
 ∀(pins:List (Addr×Obj))(s:Ox)(σ:St)(H:Hp)(v:V)(u:OA)(Q:St->Hp->Prop),Inv X pins σ H s->RelV v u->t v σ H Q->
  wpAny (model X.prog X.w) X.A (assign target X.env u) (λ_ s'=>∃ σ' H',Inv X pins σ' H' s'/\Q σ' H') X.xe s
def FH (X:Cx)(ts:List Expr)(t:EN):Prop:=
 ∀(pins:List (Addr×Obj))(s:Ox)(σ:St)(H:Hp)(vs:List V)(us:List OA)(Q:St->Hp->Prop),Inv X pins σ H s->Vals vs us->t vs σ H Q->
  wpAny (model X.prog X.w) X.A (assignInOrder ((assignEach ts X.env).map (·.2)) us) (λ_ s'=>∃ σ' H',Inv X pins σ' H' s'/\Q σ' H') X.xe s
section
variable {X:Cx}{pos:Pos}
noncomputable def bv (i:Nat):TG:=λv σ H Q=>Q (σ.set i (some v)) H
theorem bw {i:Nat}{x:Str}(hN:X.N.Nodup)(hi:X.N[i]?=some x)(hx:Fy X.env.scope x)(hf:autoParam (X.fn x=true\/X.env.scope.names.lookup x=some .local) OD._auto_1):PG X (.Name x pos) (bv i):=by intro pins s σ H v u Q I r h;exact wpAny_assign_Name (lX I hN hi hx r (λs' I'=>⟨_,H,I',h⟩) hf)
noncomputable def o7:EN:=λvs σ H Q=>vs=[]/\Q σ H
noncomputable def dG (t:TG)(u:EN):EN:=λvs σ H Q=>∃ v r,vs=v::r/\t v σ H λσ' H'=>u r σ' H' Q
theorem gu:FH X [] o7:=by intro pins s σ H vs us Q I r h;obtain⟨e,h⟩:=h;subst e;cases r;exact assignInOrder_nil ⟨σ,H,I,h⟩
theorem ay {e:Expr}{es:List Expr}{t:TG}{u:EN}(h1:PG X e t)(h2:FH X es u)
 (hs:autoParam ((assignEach (e::es) X.env).map (·.2)=assign e X.env::(assignEach es X.env).map (·.2)) OH._auto_1):FH X (e::es) (dG t u):=by
 intro pins s σ H vs us Q I r h;obtain⟨v,vr,e1,h⟩:=h;subst e1;cases r with
 |cons r rr=>rw[hs];refine assignInOrder_cons (bW (h1 pins s σ H _ _ _ I r h) λ_ s1 ⟨σ1,H1,I1,q1⟩=>?_);exact h2 pins s1 σ1 H1 _ _ Q I1 rr q1
noncomputable def o8 (K:Oy)(n:Nat)(t:EN):TG:=λv σ H Q=>∃ a xs,v=.ref a/\SqT K H a xs/\xs.length=n/\t xs σ H Q
theorem jp {es:List Expr}{k:Nat}{t:EN}{n:Nat}(hc:X.calm=true)(h:FH X es t)
 (hn:autoParam ((assignEach es X.env).length=n) OH._auto_1) (hst:autoParam ((assignEach es X.env).findIdx? (·.1)=none) OH._auto_1):PG X (.Tuple es k pos) (o8 X.K n t):=by
 intro pins s σ H v u Q I r hw;obtain⟨a,xs,e1,hq,hl,hw⟩:=hw;subst e1;cases r;obtain⟨its,rv,ht,hz⟩:=I.tuple hq;refine assign_Tuple_tuple (I.ok.hd hc) ht (by simp[hn,<- hl,rv.length]) hst λh' hx=>?_;have I1:Inv X pins σ H { s with heap:=h' }:=I.kept (t':=s.toks) λb o e=>hx b o (KR (KD e)) e;exact h pins _ σ H xs _ Q I1 (by simpa using rv) hw
noncomputable def o9 (te:TE)(g:TG):TS:=λD σ H=>te σ H λx H1=>g x σ H1 D.nx
theorem FI {tg e:Expr}{te:TE}{g:TG}(he:PE X e te)(hg:PG X tg g)(hs:autoParam (swapsWithSole [tg] e pos.line X.env=pure false) OH._auto_1)(hw:autoParam (swappedStores [tg] e X.env=pure none) OH._auto_1)
 (h1:autoParam ((assignEach [tg] X.env).map (·.2)=[assign tg X.env]) OH._auto_1):PS X (.Assign [tg] e pos) (o9 te g):=by
 intro pins s σ H D I h;refine wpAny_Assign_stores (bW (he pins s σ H _ I h) λv s1 ⟨x,H1,I1,r1,q1⟩=>?_) hs hw;rw[h1];exact bW (hg pins s1 σ H1 x v _ I1 r1 q1) λ_ s2 q=>q
theorem jL {i:Nat}{x:Str}{e:Expr}{te:TE}{pos':Pos}(hN:X.N.Nodup)(hi:X.N[i]?=some x)(hx:Fy X.env.scope x)(he:PE X e te)(hs:autoParam (swapsWith e (some (.Name x pos')) pos.line X.env=pure false) OH._auto_1)(hf:autoParam (X.fn x=true\/X.env.scope.names.lookup x=some .local) OD._auto_1) :
 PS X (.Assign [.Name x pos'] e pos) (o9 te (bv i)):=by
 intro pins s σ H D I h;refine wpAny_Assign_Name (bW (he pins s σ H _ I h) λv s1 ⟨y,H1,I1,r1,q1⟩=>?_) hs;exact lX I1 hN hi hx r1 (λs2 I2=>⟨_,H1,I2,q1⟩) hf
noncomputable def Jw (i j:Nat)(ta:TA):TS:=λD σ H=>ta σ H λvs H1=>∃ v w,vs=[v,w]/\D.nx ((σ.set i (some v)).set j (some w)) H1
theorem FJ {i j:Nat}{x y:Str}{a b:Expr}{ta:TA}{px py pt:Pos}{kt k2 pt2}(hc:X.calm=true)(hN:X.N.Nodup)(hi:X.N[i]?=some x)(hj:X.N[j]?=some y)(hij:i≠j)
 (hx:X.env.scope.names.lookup x=some .local) (hy:X.env.scope.names.lookup y=some .local) (ha:PA X [a,b] ta)
 (hw:swappedStores [.Tuple [.Name x px,.Name y py] kt pt] (.Tuple [a,b] k2 pt2) X.env=pure (some [x,y]))
 (hs:autoParam (swapsWithSole [.Tuple [.Name x px,.Name y py] kt pt] (.Tuple [a,b] k2 pt2) pos.line X.env=pure false) OH._auto_1) :
 PS X (.Assign [.Tuple [.Name x px,.Name y py] kt pt] (.Tuple [a,b] k2 pt2) pos) (Jw i j ta):=by
 intro pins s σ H D I h;rw[exec_Assign_arm];refine Kp (NW ?_);rw[hs];refine Kp (Kt ?_);rw[Kv (by decide)];refine Kp (Tuple_ (bW (ha _ pins s σ H _ I h) λus s1 ⟨vs,H1,I1,r1,q1⟩=>?_));obtain⟨v,w,e1,q1⟩:=q1;subst e1;obtain⟨u1,u2,rfl,rv,rw'⟩ : ∃ u1 u2,us=[u1,u2]/\RelV v u1/\RelV w u2:=by
  cases r1 with
  |cons p q=>
   cases q with
   |cons p' q'=>cases q';exact⟨_,_,rfl,p,p'⟩
 refine LL ?_ (by show 2<=sizeLine;decide);have I2:Inv X pins σ H1 { s1 with heap:=s1.heap.push { cls:=.type "tuple",data:=.seq [u1,u2].toArray } }:=I1.kept (t':=s1.toks) λb o e=>Ks _ e;rw[hw];refine Kp (Kt ?_);show wpAny (model X.prog X.w) X.A (do rule "assign.swapped-stores";let items <- unpackItems (.ref s1.heap.objs.size) 2 none;assignInOrder [λv=>bindName X.env y v,λv=>bindName X.env x v] items.reverse;pure Flow.next) _ _ _;refine Kp (NJ (Kp (unpackItems_tuple (items:=#[u1,u2]) (I.ok.hd hc) (IsTup.new s1.heap _) λh' hx'=>?_)));have I3:=I2.kept (h':=h') (t':=s1.toks) λb o e=>hx' b o (KR (KD e)) e;show wpAny _ _ (assignInOrder [λv=>bindName X.env y v,λv=>bindName X.env x v] [u2,u1] >>= λ_=>pure Flow.next) _ _ _;refine Kp (assignInOrder_cons (wpAny_bindName (lX I3 hN hj (.inl hy) rw' (λs2 I4=>?_) (.inr hy))));refine assignInOrder_cons (wpAny_bindName (lX I4 hN hi (.inl hx) rv (λs3 I5=>assignInOrder_nil (Kt ?_)) (.inr hx)));rw[List.set_comm _ _ (LJ hij)]at I5;exact⟨_,H1,I5,q1⟩
def z_ (c:TT)(tb:TS):TS:=λD σ H=>∃ W:Nat->St->Hp->Prop,(∃ m,W m σ H)/\∀ m σ H,W m σ H->
 c σ H λb H1=>if b=true then ∃ N:St->Hp->Prop,(∀ σ' H',N σ' H'->∃ m',m'<m/\W m' σ' H')/\tb { D with nx:=N,ct:=N,bk:=D.nx } σ H1 else D.nx σ H1
theorem Aa {c:Expr}{body:List Stmt}{tc:TT}{tb:TS}(hp:PassesOwn (model X.prog X.w) X.A X.env X.xe)(hc:PT X c tc)(hb:PSs X body tb):PS X (.While c body [] pos) (z_ tc tb):=by
 intro pins s σ H D I h;obtain⟨W,⟨m0,w0⟩,turn⟩:=h;refine wpAny_While (codeAny_whileLoop (λn s'=>∃ σ' H',Inv X pins σ' H' s'/\W n σ' H') ?_ m0 ⟨σ,H,I,w0⟩);rintro n s1 ⟨σ1,H1,I1,w1⟩;refine ML hp (bW (hc pins s1 σ1 H1 _ I1 (turn n σ1 H1 w1)) λb s2 ⟨H2,I2,q2⟩=>?_);cases b with
 |true=>
  obtain⟨N,hN,q2⟩:=q2;rw[Ku rfl];refine ML hp (bW (hb pins s2 σ1 H2 _ I2 q2) λf s3 q3=>?_);cases f with
  |next=>obtain⟨σ3,H3,I3,n3⟩:=q3;obtain⟨m',hm,w3⟩:=hN σ3 H3 n3;exact⟨m',hm,σ3,H3,I3,w3⟩
  |cont=>obtain⟨σ3,H3,I3,n3⟩:=q3;obtain⟨m',hm,w3⟩:=hN σ3 H3 n3;exact⟨m',hm,σ3,H3,I3,w3⟩
  |brk=>exact q3
  |ret v=>exact q3
 |false=>rw[Kv K5];exact N1 ⟨σ1,H2,I2,q2⟩
end
structure It where
 go:Nat->Hp->Prop
 yld:Nat->Hp->V->Hp->Prop
 stop:Nat->Hp->Prop
def FpOk (X:Cx)(pins:List (Addr×Obj))(H:Hp)(b:Addr):Prop:=H b=none/\b≠X.env.locals/\b∉X.fs/\(b∈X.ex\/X.s₀.heap.objs.size<=b)/\(∀ x c,X.env.cells.lookup x=some c->c≠b)/\∀ p∈X.pn++pins,p.1≠b
theorem Inv.fpOk {X:Cx}{pins:List (Addr×Obj)}{σ:St}{H H':Hp}{s:Ox}{b:Addr}(I:Inv X pins σ H s)(hb:s.heap.objs.size<=b)(hn:H' b=none):FpOk X pins H' b:=by
 refine⟨hn,NO (K4 I.lt hb),I.nofs hb,.inr (Ld I.sz hb),λx c e z=>?_,λp hp z=>?_⟩
 .obtain⟨v,q⟩:=I.cell x c e;exact absurd (K4 q.lt (by rw[z];exact hb)) (My _)
 .exact absurd (K4 (KD (I.pin p hp).1) (by rw[z];exact hb)) (My _)
structure Turn (P:Oz) (w:World) (K:Oy) (tg:Expr) (J:It) (fp:List Addr) (it:Addr) (tn:Nat->Heap->Prop):Prop where
 mem:it∈fp
 obj:∀ i h,tn i h->∀ b∈fp,∃ o,h.get? b=some o/\∀ v,o.data≠.cell v
 keep:∀ i h h',tn i h->(∀ b∈fp,∀ o,h.get? b=some o->h'.get? b=some o)->tn i h'
 item:∀(X:Cx),X.prog=P->X.w=w->X.K=K->X.calm=true->∀(i:Nat)(pins:List (Addr×Obj))(s:Ox)(σ:St)(H:Hp)(E:OA->Ox->Prop),Inv X pins σ H s->(∀ b∈fp,FpOk X pins H b)->tn i s.heap->J.go i H->
  wpAny (model P w) X.A (pyNext (.ref it)) (λr s1=>∃ u,r=some u/\
   wpAny (model P w) X.A (letOwnedTupleGo tg (.ref it) u) (λ_ s2=>∃ x H',Inv X pins σ H' s2/\RelV x u/\J.yld i H x H'/\tn (i+1) s2.heap/\∀ b∈fp,H' b=none) E s1) E s
 done:∀(X:Cx),X.prog=P->X.w=w->X.K=K->X.calm=true->∀(i:Nat)(pins:List (Addr×Obj))(s:Ox)(σ:St)(H:Hp)(E:OA->Ox->Prop),Inv X pins σ H s->(∀ b∈fp,FpOk X pins H b)->tn i s.heap->J.stop i H->
  wpAny (model P w) X.A (pyNext (.ref it)) (λr s1=>r=none/\Inv X pins σ H s1) E s
 self:∀(A:OB)(i:Nat)(s:Ox)(Q:OA->Ox->Prop)(E:OA->Ox->Prop),tn i s.heap->Q (.ref it) s->wpAny (model P w) A (pyIter (.ref it)) Q E s
abbrev TI:=St->Hp->(It->Hp->Prop)->Prop
def Jm (X:Cx)(pins:List (Addr×Obj))(σ:St)(tg:Expr)(R:It->Hp->Prop)(itv:OA)(s2:Ox):Prop:=∃(it:Addr)(fp:List Addr)(tn:Nat->Heap->Prop)(J:It)(H':Hp),itv=.ref it/\Inv X pins σ H' s2/\Turn X.prog X.w X.K tg J fp it tn/\tn 0 s2.heap/\(∀ b∈fp,FpOk X pins H' b)/\R J H'
def PI (X:Cx)(tg iter:Expr)(wi:TI):Prop:=
 ∀(pins:List (Addr×Obj))(s:Ox)(σ:St)(H:Hp)(R:It->Hp->Prop),Inv X pins σ H s->wi σ H R->
  wpAny (model X.prog X.w) X.A (eval iter X.env) (λv s1=>wpAny (model X.prog X.w) X.A (pyIter v) (Jm X pins σ tg R) X.xe s1) X.xe s
theorem Ab {M:Model}{A:OB}{E:OA->Ox->Prop}{s:Ox}{tg:Expr}{it:Addr}{u:OA}{o:Obj}{n:String}{vs:Array OA}{Q:Unit->Ox->Prop}(ho:s.heap.get? it=some o)(hc:o.cls=.type n)(hd:o.data=.fields vs)
 (hn:["enumerate", "zip", "dict_itemiterator", "dict_reverseitemiterator", "odict_iterator", "itertools.zip_longest", "itertools.pairwise"].contains n=false) (hQ:Q () s):wpAny M A (letOwnedTupleGo tg (.ref it) u) Q E s:=by
 unfold letOwnedTupleGo;cases tg<;>first
  |exact Kt hQ
  |(cases u<;>first
     |exact Kt hQ
     |(refine Kp (wpAny_load ho ?_)
       rw[hc,hd];show wpAny M A (if (["enumerate", "zip", "dict_itemiterator", "dict_reverseitemiterator", "odict_iterator", "itertools.zip_longest", "itertools.pairwise"].contains n&&vs[0]?==some (rawInt _))=true then _ else _) Q E s;rw[Kv (by intro h;rw[hn,K3]at h;cases h)];exact Kt hQ))
noncomputable def vY (K:Oy)(a:Addr):It:=⟨λi H=>∃ xs x,SqL K H a xs/\xs[i]?=some x,λi H x H'=>H'=H/\∀ xs,SqL K H a xs->xs[i]?=some x,λi H=>∃ xs,SqL K H a xs/\xs.length<=i⟩
noncomputable def Jx (K:Oy)(a:Addr):It:=⟨λi H=>∃ xs x,SqT K H a xs/\xs[i]?=some x,λi H x H'=>H'=H/\∀ xs,SqT K H a xs->xs[i]?=some x,λi H=>∃ xs,SqT K H a xs/\xs.length<=i⟩
noncomputable def Jn (lo:Int)(n:Nat):It:=⟨λi _=>i<n,λi H x H'=>H'=H/\x=.int (lo+i),λi _=>n<=i⟩
theorem rj {P:Oz}{w:World}{K:Oy}{tg:Expr}(a it:Addr):Turn P w K tg (vY K a) [it] it (λi h=>h.IsListIter it a i) where
 mem:=by simp
 obj:=λi h st b hb=>by
  have e:b=it:=by simpa using hb
  subst e;obtain⟨o,e,c,d⟩:=st;exact⟨o,e,λv z=>by rw[d]at z;cases z⟩
 keep:=λi h h' st k=>st.at λo e=>k it (by simp) o e
 item:=by intro X hP hw hK hc i pins s σ H E I hf st hg;subst hP hw hK;obtain⟨xs,x,hq,hx⟩:=hg;obtain⟨its,rv,p,hz⟩:=I.list hq;obtain⟨u,hu,ru⟩:=rv.get hx;obtain⟨f0,f1,f2,f3,f4,f5⟩:=hf it (by simp);refine wpAny_pyNext_list_item st p.isList (x:=u) (by simpa using hu) λh' st' sb=>?_;have I1:Inv X pins σ H { s with heap:=h' }:=I.turned (t':=s.toks) (λb o hb e=>(sb.2 b hb).trans e) f0 f1 f3 f4 f5;obtain⟨o,e,c,d⟩:=id st';exact⟨u,rfl,Ab (s:={ s with heap:=h' }) e c d (by decide) ⟨x,H,I1,ru,⟨rfl,λys hy=>by rw[I.list_inj hy hq];exact hx⟩,st',λb hb=>(hf b hb).1⟩⟩
 done:=by intro X hP hw hK hc i pins s σ H E I hf st hg;subst hP hw hK;obtain⟨xs,hq,hx⟩:=hg;obtain⟨its,rv,p,hz⟩:=I.list hq;obtain⟨f0,f1,f2,f3,f4,f5⟩:=hf it (by simp);have hl:=rv.length;exact wpAny_pyNext_list_end (I.ok.hd hc) st p.isList (by simp;lia) λh' eb=>⟨rfl,I.turned (t':=s.toks) (λb o hb e=>eb b o hb e) f0 f1 f3 f4 f5⟩
 self:=λ_ _ _ _ _ st h=>wpAny_pyIter_listiter st h
theorem v5 {P:Oz}{w:World}{K:Oy}{tg:Expr}(a it:Addr):Turn P w K tg (Jx K a) [it] it (λi h=>h.IsTupleIter it a i) where
 mem:=by simp
 obj:=λi h st b hb=>by
  have e:b=it:=by simpa using hb
  subst e;obtain⟨o,e,c,d⟩:=st;exact⟨o,e,λv z=>by rw[d]at z;cases z⟩
 keep:=λi h h' st k=>st.at λo e=>k it (by simp) o e
 item:=by intro X hP hw hK hc i pins s σ H E I hf st hg;subst hP hw hK;obtain⟨xs,x,hq,hx⟩:=hg;obtain⟨its,rv,p,hz⟩:=I.tuple hq;obtain⟨u,hu,ru⟩:=rv.get hx;obtain⟨f0,f1,f2,f3,f4,f5⟩:=hf it (by simp);refine wpAny_pyNext_tuple_item st (show s.heap.IsTuple a its.toArray from p) (x:=u) (by simpa using hu) λh' st' sb=>?_;have I1:Inv X pins σ H { s with heap:=h' }:=I.turned (t':=s.toks) (λb o hb e=>(sb.2 b hb).trans e) f0 f1 f3 f4 f5;obtain⟨o,e,c,d⟩:=id st';exact⟨u,rfl,Ab (s:={ s with heap:=h' }) e c d (by decide) ⟨x,H,I1,ru,⟨rfl,λys hy=>by rw[I.tuple_inj hy hq];exact hx⟩,st',λb hb=>(hf b hb).1⟩⟩
 done:=by intro X hP hw hK hc i pins s σ H E I hf st hg;subst hP hw hK;obtain⟨xs,hq,hx⟩:=hg;obtain⟨its,rv,p,hz⟩:=I.tuple hq;obtain⟨f0,f1,f2,f3,f4,f5⟩:=hf it (by simp);have hl:=rv.length;exact wpAny_pyNext_tuple_end (I.ok.hd hc) st (show s.heap.IsTuple a its.toArray from p) (by simp;lia) λh' eb=>⟨rfl,I.turned (t':=s.toks) (λb o hb e=>eb b o hb e) f0 f1 f3 f4 f5⟩
 self:=λ_ _ _ _ _ st h=>wpAny_pyIter_tupleiter st h
theorem v6 {P:Oz}{w:World}{K:Oy}{tg:Expr}(it:Addr)(lo:Int)(n:Nat):Turn P w K tg (Jn lo n) [it] it (λi h=>IsRangeIter h it (lo+(i:Nat)*1) ((n:Int)-(i:Nat)) 1) where
 mem:=by simp
 obj:=λi h st b hb=>by
  have e:b=it:=by simpa using hb
  subst e;exact⟨_,st,λv z=>by have z':Data.fields _=Data.cell v:=z;cases z'⟩
 keep:=λi h h' st k=>k it (by simp) _ st
 item:=by intro X hP hw hK hc i pins s σ H E I hf st hg;subst hP hw hK;obtain⟨f0,f1,f2,f3,f4,f5⟩:=hf it (by simp);have W:=Walks.range (prog:=X.prog) (w:=X.w) (I.ok.hd hc) it lo 1 n;refine W.item i s _ _ hg st λv h' tk hv st' kk=>?_;obtain⟨t,rfl⟩:=hv;have I1:Inv X pins σ H { s with heap:=h',toks:=tk }:=I.turned (λb o hb e=>kk b o (by simpa using hb) e) f0 f1 f3 f4 f5;refine⟨_,rfl,Ab (s:={ s with heap:=h',toks:=tk }) (n:="range_iterator") st' rfl rfl (by decide) ⟨.int (lo+i),H,I1,⟨t,?_⟩,⟨rfl,rfl⟩,st',λb hb=>(hf b hb).1⟩⟩;rw[Int.mul_one]
 done:=by intro X hP hw hK hc i pins s σ H E I hf st hg;subst hP hw hK;obtain⟨f0,f1,f2,f3,f4,f5⟩:=hf it (by simp);exact wpAny_pyNext_range_end (I.ok.hd hc) st (by have:n<=i:=hg;lia) λh' eb=>⟨rfl,I.turned (t':=s.toks) (λb o hb e=>eb b o hb e) f0 f1 f3 f4 f5⟩
 self:=λ_ _ _ _ _ st h=>wpAny_pyIter_rangeiter st h
section
variable {X:Cx}{tg:Expr}
def lZ (K:Oy)(tl:TE):TI:=λσ H R=>tl σ H λx H1=>∃ a,x=.ref a/\(∃ xs,SqL K H1 a xs)/\R (vY K a) H1
theorem jM {l:Expr}{tl:TE}(hl:PE X l tl):PI X tg l (lZ X.K tl):=by
 intro pins s σ H R I h;refine bW (hl pins s σ H _ I h) λv s1 ⟨x,H1,I1,r1,q1⟩=>?_;obtain⟨a,e,⟨xs,hq⟩,q⟩:=q1;subst e;cases r1;obtain⟨its,rv,p,hz⟩:=I1.list hq;refine Nc p.isList ?_;refine⟨s1.heap.objs.size,[s1.heap.objs.size],_,_,H1,rfl,I1.kept (t':=s1.toks) λb o e=>Ks _ e,rj a _,⟨_,KF _ rfl,rfl,rfl⟩,λb hb=>?_,q⟩;have e:b=s1.heap.objs.size:=by simpa using hb
 subst e;exact I1.fpOk (Kq _) (I1.hok.fresh (Kq _))
theorem Ac {pins:List (Addr×Obj)}{σ:St}{H:Hp}{s:Ox}{R:It->Hp->Prop}{E:OA->Ox->Prop}{lo hi:Int}{t u v:Tok}{tk:Nat}(I:Inv X pins σ H s)(h1:-(2 ^ 62)<=lo)(h2:lo<2 ^ 62)(h3:-(2 ^ 62)<=hi)(h4:hi<2 ^ 62)
 (q:R (Jn lo (hi-lo).toNat) H):wpAny (model X.prog X.w) X.A (pyIter (.ref s.heap.objs.size)) (Jm X pins σ tg R) E { s with heap:=s.heap.push { cls:=.type "range",data:=.fields #[.int lo t,.int hi u,.int 1 v] },toks:=tk }:=by
 refine wpAny_pyIter_range (IsRange.new ..) (small_one h1 h2 h3 h4) ?_;have I1:Inv X pins σ H { s with heap:=s.heap.push { cls:=.type "range",data:=.fields #[.int lo t,.int hi u,.int 1 v] },toks:=tk }:=I.kept λb o e=>Ks _ e;refine⟨(s.heap.push { cls:=.type "range",data:=.fields #[.int lo t,.int hi u,.int 1 v] }).objs.size,[(s.heap.push { cls:=.type "range",data:=.fields #[.int lo t,.int hi u,.int 1 v] }).objs.size],_,_,H,rfl,
  I1.kept (t':=tk) λb o e=>Ks _ e,v6 _ lo (hi-lo).toNat,?_,λb hb=>?_,q⟩
 .have e1:lo+((0:Nat):Int)*1=lo:=by simp
  have e2:(((hi-lo).toNat:Nat):Int)-((0:Nat):Int)=Builtin.Range.rangeSize lo hi 1:=by rw[rangeSize_one];split<;>lia
  show IsRangeIter _ _ (lo+((0:Nat):Int)*1) ((((hi-lo).toNat:Nat):Int)-((0:Nat):Int)) 1;rw[e1,e2];exact KF _ rfl
 .have e:b=(s.heap.push { cls:=.type "range",data:=.fields #[.int lo t,.int hi u,.int 1 v] }).objs.size:=by simpa using hb
  subst e;exact I1.fpOk (Kq _) (I1.hok.fresh (Kq _))
def Hq (ta:TA):TI:=λσ H R=>ta σ H λvs H1=>∃ j:Int,vs=[.int j]/\-(2 ^ 62)<=j/\j<2 ^ 62/\R (Jn 0 j.toNat) H1
theorem yI {a:Expr} {ta:TA} {p pos:Pos} (hg:Gl X "range") (hm:X.mg "range"=none) (ha:PA X [a] ta) (hs:autoParam (starEach [a] X.env=[(false,eval a X.env)]) OH._auto_1):PI X tg (.Call (.Name "range" p) [a] [] pos) (Hq ta):=by
 intro pins s σ H R I h;refine Call_ (mY I hg hm boot_range (M9 (bW (ha pos pins s σ H _ I h) λus s1 ⟨vs,H1,I1,r1,q1⟩=>?_) hs rfl));obtain⟨j,e,q1,q2,q⟩:=q1;subst e;cases r1 with
 |cons r rr=>cases rr;obtain⟨t,rfl⟩:=r;exact call_range_1 (Ac I1 (by lia) (by lia) q1 q2 (by simpa using q))
def ou (wi:TI)(g:TG)(tb:TS):TS:=λD σ H=>wi σ H λJ H1=>∃ W:Nat->Nat->St->Hp->Prop,(∃ m,W 0 m σ H1)/\∀ i m σ H,W i m σ H->
 (J.stop i H/\D.nx σ H)\/(J.go i H/\∃ N:St->Hp->Prop,(∀ σ' H',N σ' H'->∃ m',m'<m/\W (i+1) m' σ' H')/\∀ x H',J.yld i H x H'->g x σ H' λσ2 H2=>tb { D with nx:=N,ct:=N,bk:=D.nx } σ2 H2)
noncomputable def o_ (fp:List Addr)(h:Heap):List (Addr×Obj):=fp.filterMap λb=>(h.get? b).map λo=>(b,o)
theorem jN {fp:List Addr}{h:Heap}{b:Addr}{o:Obj}(hb:b∈fp)(e:h.get? b=some o):(b,o)∈o_ fp h:=Nx.mpr ⟨b,hb,by rw[e];rfl⟩
theorem yJ {fp:List Addr}{h:Heap}{p:Addr×Obj}(hp:p∈o_ fp h):p.1∈fp/\h.get? p.1=some p.2:=by
 obtain⟨b,hb,e⟩:=Nx.mp hp;cases q:h.get? b with
 |none=>rw[q]at e;cases e
 |some o=>rw[q]at e;have e':(b,o)=p:=La e;subst e';exact⟨hb,q⟩
theorem Inv.pinned {pins:List (Addr×Obj)}{σ:St}{H:Hp}{s:Ox}{fp:List Addr}(I:Inv X pins σ H s)(hf:∀ b∈fp,FpOk X pins H b)(ho:∀ b∈fp,∃ o,s.heap.get? b=some o/\∀ v,o.data≠.cell v):Inv X (pins++o_ fp s.heap) σ H s:=I.pins_of λp hp=>(Lf.mp hp).elim (λz=>I.pin p (Lg _ z)) λz=>by obtain⟨hb,e⟩:=yJ z;obtain⟨f0,f1,f2,_⟩:=hf p.1 hb;obtain⟨o,e',d⟩:=ho p.1 hb;rw[e]at e';cases e';exact⟨e,f0,f1,f2,d⟩
theorem Inv.unpinned {pins pl:List (Addr×Obj)}{σ:St}{H:Hp}{s:Ox}(I:Inv X (pins++pl) σ H s):Inv X pins σ H s:=I.pins_of λp hp=>I.pin p (Lg _ (Mw _ hp))
theorem iy {iter:Expr}{body:List Stmt}{wi:TI}{g:TG}{tb:TS}{pos:Pos}(hp:PassesOwn (model X.prog X.w) X.A X.env X.xe)(hc:X.calm=true)(hi:PI X tg iter wi)(hg:PG X tg g)(hb:PSs X body tb)
 (hs:autoParam (∀ x,foldedSetIterable iter X.env x=pure x) OF._auto_1):PS X (.For tg iter body [] pos) (ou wi g tb):=by
 intro pins s σ H D I h;refine wpAny_For (bW (hi pins s σ H _ I h) λv s1 h1=>bW h1 λitv s2 h2=>?_) hs;obtain⟨it,fp,tn,J,H2,e,I2,T,st2,f2,W,⟨m0,w0⟩,turn⟩:=h2;subst e;have stat:∀{H':Hp},(∀ b∈fp,H' b=none)->∀ b∈fp,FpOk X pins H' b:=λhn b hb=>⟨hn b hb,(f2 b hb).2⟩;refine codeAny_forLoop_any (λn s'=>∃ i σ' H',Inv X pins σ' H' s'/\tn i s'.heap/\(∀ b∈fp,H' b=none)/\W i n σ' H') ?_ m0 ⟨0,σ,H2,I2,st2,λb hb=>(f2 b hb).1,w0⟩;rintro n s3 ⟨i,σ3,H3,I3,st3,fr3,w3⟩;rcases turn i n σ3 H3 w3 with⟨stop,qn⟩|⟨go,N,hN,step⟩
 .refine ML hp (bW (T.done X rfl rfl rfl hc i pins s3 σ3 H3 X.xe I3 (stat fr3) st3 stop) λr s4 ⟨hr,I4⟩=>?_);subst hr;exact N1 ⟨σ3,H3,I4,qn⟩
 .refine ML hp (bW (T.item X rfl rfl rfl hc i pins s3 σ3 H3 X.xe I3 (stat fr3) st3 go) λr s4 ⟨u,hr,h4⟩=>?_);subst hr;refine ML hp (bW h4 λ_ s5 ⟨x,H5,I5,r5,y5,st5,fr5⟩=>?_);have I5':=I5.pinned (stat fr5) (T.obj _ _ st5);refine ML hp (bW (hg _ s5 σ3 H5 x u _ I5' r5 (step x H5 y5)) λ_ s6 ⟨σ6,H6,I6,q6⟩=>?_);refine ML hp (bW (hb _ s6 σ6 H6 _ I6 q6) λf s7 q7=>?_);have again:∀{σ7:St}{H7:Hp},Inv X (pins++o_ fp s5.heap) σ7 H7 s7->N σ7 H7->∃ m,m<n/\∃ i σ' H',Inv X pins σ' H' s7/\tn i s7.heap/\(∀ b∈fp,H' b=none)/\W i m σ' H':=λ{σ7 H7} I7 n7=>by obtain⟨m',hm,w7⟩:=hN σ7 H7 n7;refine⟨m',hm,i+1,σ7,H7,I7.unpinned,T.keep _ _ _ st5 λb hb o e=>(I7.pin (b,o) (Lg _ (Lg _ (jN hb e)))).1,λb hb=>?_,w7⟩;obtain⟨o,e,d⟩:=T.obj _ _ st5 b hb;exact(I7.pin (b,o) (Lg _ (Lg _ (jN hb e)))).2.1
  cases f with
  |next=>obtain⟨σ7,H7,I7,n7⟩:=q7;exact again I7 n7
  |cont=>obtain⟨σ7,H7,I7,n7⟩:=q7;exact again I7 n7
  |brk=>obtain⟨σ7,H7,I7,q7⟩:=q7;exact⟨σ7,H7,I7.unpinned,q7⟩
  |ret v=>obtain⟨x7,σ7,H7,I7,r7,q7⟩:=q7;exact⟨x7,σ7,H7,I7.unpinned,r7,q7⟩
end
theorem ui {K:Oy}{a:Addr}{xs:List V}{g:TG}{tb:TS}{D:Ends}{σ:St}{H:Hp}(Pv:Nat->St->Hp->Prop)(h0:Pv 0 σ H)(hl:∀ i σ H,i<=xs.length->Pv i σ H->SqL K H a xs)
 (hs:∀ i x σ H,xs[i]?=some x->Pv i σ H->g x σ H λσ2 H2=>tb { D with nx:=Pv (i+1),ct:=Pv (i+1),bk:=D.nx } σ2 H2) (hd:∀ σ H,Pv xs.length σ H->D.nx σ H) :
 ∃ W:Nat->Nat->St->Hp->Prop,(∃ m,W 0 m σ H)/\∀ i m σ H,W i m σ H->
  ((vY K a).stop i H/\D.nx σ H)\/((vY K a).go i H/\∃ N:St->Hp->Prop,(∀ σ' H',N σ' H'->∃ m',m'<m/\W (i+1) m' σ' H')/\∀ x H',(vY K a).yld i H x H'->g x σ H' λσ2 H2=>tb { D with nx:=N,ct:=N,bk:=D.nx } σ2 H2):=by
 refine⟨λi m σ H=>m=xs.length-i/\i<=xs.length/\Pv i σ H,⟨xs.length,by simp,LF _,h0⟩,?_⟩;rintro i m σ H ⟨rfl,hi,p⟩;have q:=hl i σ H hi p;by_cases hlt:i<xs.length
 .refine .inr ⟨⟨xs,xs[i],q,by simp[hlt]⟩,Pv (i+1),λσ' H' p'=>⟨xs.length-(i+1),by lia,rfl,hlt,p'⟩,λx H' y=>?_⟩;obtain⟨e,y⟩:=y;subst e;exact hs i x σ _ (y xs q) p
 .have e:i=xs.length:=by lia
  subst e;exact .inl ⟨⟨xs,q,Kq _⟩,hd σ H p⟩
abbrev R2:=V->V->Hp->VK->Prop
def OpR (X:Cx)(f:OA->OA->Sem OA)(r:R2):Prop:=
 ∀(pins:List (Addr×Obj))(s:Ox)(σ:St)(H:Hp)(x y:V)(v u:OA)(Q:VK),Inv X pins σ H s->RelV x v->RelV y u->r x y H Q->
  wpAny (model X.prog X.w) X.A (f v u) (EP X pins σ Q) X.xe s
def Jy (X:Cx)(f:OA->Sem OA)(r:V->Hp->VK->Prop):Prop:=
 ∀(pins:List (Addr×Obj))(s:Ox)(σ:St)(H:Hp)(x:V)(v:OA)(Q:VK),Inv X pins σ H s->RelV x v->r x H Q->
  wpAny (model X.prog X.w) X.A (f v) (EP X pins σ Q) X.xe s
def CallR (X:Cx)(f:OA)(r:List V->Hp->VK->Prop):Prop:=
 ∀(pins:List (Addr×Obj))(s:Ox)(σ:St)(H:Hp)(xs:List V)(us:List OA)(Q:VK),Inv X pins σ H s->Vals xs us->r xs H Q->
  wpAny (model X.prog X.w) X.A (call f us) (EP X pins σ Q) X.xe s
def Jz (X:Cx)(r:V->Hp->(Bool->Hp->Prop)->Prop):Prop:=
 ∀(pins:List (Addr×Obj))(s:Ox)(σ:St)(H:Hp)(x:V)(v:OA)(Q:Bool->Hp->Prop),Inv X pins σ H s->RelV x v->r x H Q->
  wpAny (model X.prog X.w) X.A (truthy v) (TP X pins σ Q) X.xe s
noncomputable def m5 (r:R2)(ta tb:TE):TE:=λσ H Q=>ta σ H λx H1=>tb σ H1 λy H2=>r x y H2 Q
noncomputable def Kb (r:V->Hp->VK->Prop)(ta:TE):TE:=λσ H Q=>ta σ H λx H1=>r x H1 Q
noncomputable def rI (C:Int->Int->Prop)(g:Int->Int->V):R2:=λx y H Q=>∃ i j,x=.int i/\y=.int j/\C i j/\Q (g i j) H
noncomputable def yK (g:Int->Int->V):R2:=λx y H Q=>∃ i j,x=.int i/\y=.int j/\Q (g i j) H
noncomputable def rU (g:Int->V):V->Hp->VK->Prop:=λx H Q=>∃ i,x=.int i/\Q (g i) H
section
variable {X:Cx}{a b c:Expr}{ta tb tc:TE}{pos:Pos}
theorem FK (ha:PE X a ta)(hb:PE X b tb){pins:List (Addr×Obj)}{s:Ox}{σ:St}{H:Hp}{R:V->V->Hp->Prop}(I:Inv X pins σ H s)
 (h:ta σ H λx H1=>tb σ H1 λy H2=>R x y H2) {Q:OA->Ox->Prop} {f:OA->OA->Sem OA}
 (hf:∀ v u s2 x y H2,Inv X pins σ H2 s2->RelV x v->RelV y u->R x y H2->wpAny (model X.prog X.w) X.A (f v u) Q X.xe s2) :
 wpAny (model X.prog X.w) X.A (eval a X.env) (λv s₁=>wpAny (model X.prog X.w) X.A (eval b X.env) (λu s₂=>wpAny (model X.prog X.w) X.A (f v u) Q X.xe s₂) X.xe s₁) X.xe s:=by
 refine bW (ha pins s σ H _ I h) λv s1 ⟨x,H1,I1,r1,q1⟩=>?_;refine bW (hb pins s1 σ H1 _ I1 q1) λu s2 ⟨y,H2,I2,r2,q2⟩=>?_;exact hf v u s2 x y H2 I2 r1 r2 q2
theorem pd {op:Operator}{r:R2}(ho:OpR X (binaryOp op) r)(ha:PE X a ta)(hb:PE X b tb):PE X (.BinOp a op b pos) (m5 r ta tb):=by intro pins s σ H Q I h;exact wpAny_BinOp (FK ha hb I h λv u s2 x y H2 I2 rx ry q=>ho pins s2 σ H2 x y v u Q I2 rx ry q)
theorem Hr {op:UnaryOp}{r:V->Hp->VK->Prop}(ho:Jy X (unaryOp op) r)(ha:PE X a ta):PE X (.UnaryOp op a pos) (Kb r ta):=by intro pins s σ H Q I h;exact UnaryOp_ (bW (ha pins s σ H _ I h) λv s1 ⟨x,H1,I1,r1,q1⟩=>ho pins s1 σ H1 x v Q I1 r1 q1)
theorem JA {f:OA->OA->Sem OA}{C:Int->Int->Prop}{g:Int->Int->Int}
 (rule:∀(i j:Int)(t u:Tok)(s:Ox)(Q:OA->Ox->Prop)(E:OA->Ox->Prop),C i j->Q (.int (g i j) s.toks) { s with toks:=s.toks+1 }->wpAny (model X.prog X.w) X.A (f (.int i t) (.int j u)) Q E s) :
 OpR X f (rI C λi j=>.int (g i j)):=by
 intro pins s σ H x y v u Q I rx ry h;obtain⟨i,j,rfl,rfl,hc,q⟩:=h;obtain⟨t,rfl⟩:=rx;obtain⟨t',rfl⟩:=ry;exact rule i j t t' s _ _ hc ⟨.int (g i j),H,I.tok _,⟨_,rfl⟩,q⟩
theorem Hu {f:OA->OA->Sem OA}{g:Int->Int->Int}
 (rule:∀(i j:Int)(t u:Tok)(s:Ox)(Q:OA->Ox->Prop)(E:OA->Ox->Prop),Q (.int (g i j) s.toks) { s with toks:=s.toks+1 }->wpAny (model X.prog X.w) X.A (f (.int i t) (.int j u)) Q E s) :
 OpR X f (yK λi j=>.int (g i j)):=by
 intro pins s σ H x y v u Q I rx ry h;obtain⟨i,j,rfl,rfl,q⟩:=h;obtain⟨t,rfl⟩:=rx;obtain⟨t',rfl⟩:=ry;exact rule i j t t' s _ _ ⟨.int (g i j),H,I.tok _,⟨_,rfl⟩,q⟩
theorem CS {f:OA->OA->Sem OA}{g:Int->Int->Bool}
 (rule:∀(i j:Int)(t u:Tok)(s:Ox)(Q:OA->Ox->Prop)(E:OA->Ox->Prop),Q (.bool (g i j)) s->wpAny (model X.prog X.w) X.A (f (.int i t) (.int j u)) Q E s) :
 OpR X f (yK λi j=>.bl (g i j)):=by
 intro pins s σ H x y v u Q I rx ry h;obtain⟨i,j,rfl,rfl,q⟩:=h;obtain⟨t,rfl⟩:=rx;obtain⟨t',rfl⟩:=ry;exact rule i j t t' s _ _ ⟨.bl (g i j),H,I,rfl,q⟩
def Hv (i j:Int):Prop:=0<j/\j<1073741824
def CMul (i j:Int):Prop:=(-(2 ^ 64)<i/\i<2 ^ 64)\/(-(2 ^ 64)<j/\j<2 ^ 64)
theorem CMul.ok {i j:Int}(h:CMul i j):IntMulOk i j:=by
 rcases h with⟨h1,h2⟩|⟨h1,h2⟩
 .exact .of_left (intBits_le_64 h1 h2)
 .exact .of_right (intBits_le_64 h1 h2)
theorem op_add:OpR X (binaryOp .Add) (yK λi j=>.int (i+j)):=Hu λ_ _ _ _ _ _ _ q=>add_int q
theorem FM:OpR X (binaryOp .Mult) (rI CMul λi j=>.int (i*j)):=JA λ_ _ _ _ _ _ _ hc q=>mul_int q hc.ok
theorem CT:OpR X (binaryOp .FloorDiv) (rI Hv λi j=>.int (i / j)):=JA λi j _ _ _ _ _ hc q=>by have h1:(0:Int)<j:=hc.1;have h2:j<1073741824:=hc.2;exact floordiv_int (by lia) (by rw[Int.fdiv_eq_ediv_of_nonneg i (by lia)];exact q) (.inl (PyProof.noPylong_small (by lia)))
theorem FN:OpR X (binaryOp .Mod) (rI (λ_ j=>0<j) λi j=>.int (i % j)):=JA λi j _ _ _ _ _ hc q=>by have h1:(0:Int)<j:=hc;exact mod_int' (by lia) (by rw[Int.fmod_eq_emod_of_nonneg i (by lia)];exact q)
theorem FO:OpR X (binaryOp .BitXor) (yK λi j=>.int (Builtin.bitXor i j)):=Hu λ_ _ _ _ _ _ _ q=>xor_int q
theorem Kc {f:OA->Sem OA}{g:Int->Int}
 (rule:∀(i:Int)(t:Tok)(s:Ox)(Q:OA->Ox->Prop)(E:OA->Ox->Prop),Q (.int (g i) s.toks) { s with toks:=s.toks+1 }->wpAny (model X.prog X.w) X.A (f (.int i t)) Q E s) :
 Jy X f (rU λi=>.int (g i)):=by
 intro pins s σ H x v Q I rx h;obtain⟨i,rfl,q⟩:=h;obtain⟨t,rfl⟩:=rx;exact rule i t s _ _ ⟨.int (g i),H,I.tok _,⟨_,rfl⟩,q⟩
theorem FP:Jy X (unaryOp .USub) (rU λi=>.int (-i)):=Kc λ_ _ _ _ _ q=>neg_int q
end
noncomputable def JB:V->V->Bool
 | .non,.non=>true|.non,.int _=>true|.int _,.non=>true|.non,.bl _=>true|.bl _,.non=>true|.non,.str _=>true|.str _,.non=>true
 | .int _,.int _=>true|.bl _,.bl _=>true|.str _,.str _=>true|.byt _,.byt _=>true
 | .int _,.str _=>true|.str _,.int _=>true|.bl _,.str _=>true|.str _,.bl _=>true
 |_,_=>false
def Hw:R2:=λx y H Q=>JB x y=true/\Q (.bl (decide (x=y))) H
theorem CU {i j:Int}:decide (V.int i=V.int j)=(i==j):=by rw[Mp];simp
theorem FQ {i j:Bool}:decide (V.bl i=V.bl j)=(i==j):=by rw[Mp];simp
theorem CV {i j:Str}:decide (V.str i=V.str j)=(i==j):=by rw[Mp];simp
theorem CW {i j:Array UInt8}:decide (V.byt i=V.byt j)=(i.toList==j.toList):=by rw[Mp];cases i;cases j;simp
section
variable {X:Cx}{a b c:Expr}{ta tb tc:TE}{pos:Pos}
theorem fR {pins:List (Addr×Obj)}{σ:St}{H:Hp}{s:Ox}{Q:VK}{k k':Bool}(I:Inv X pins σ H s)(q:Q (.bl k) H)(e:k=k'):EP X pins σ Q (.bool k') s:=by subst e;exact⟨.bl k,H,I,rfl,q⟩
theorem xu:OpR X (compareOp .Eq) Hw:=by
 intro pins s σ H x y v u Q I rx ry h;obtain⟨hs,q⟩:=h;cases x with
 |non=>
  cases rx;cases y with
  |non=>cases ry;exact PySem.EqNone.eq_none_none (fR I q (by simp))
  |bl j=>cases ry;exact PySem.EqNone.eq_none_bool (fR I q (by simp))
  |int j=>obtain⟨t',rfl⟩:=ry;exact PySem.EqNone.eq_none_int (fR I q (by simp))
  |str j=>obtain⟨t',rfl⟩:=ry;exact PySem.EqNone.eq_none_str (fR I q (by simp))
  |_=>exact absurd (show false=true from hs) K5
 |bl i=>
  cases rx;cases y with
  |non=>cases ry;exact PySem.EqNone.eq_bool_none (fR I q (by simp))
  |bl j=>cases ry;exact eq_bool (fR I q FQ)
  |str j=>obtain⟨t',rfl⟩:=ry;exact PySem.EqMixed.eq_bool_str (fR I q (by simp))
  |_=>exact absurd (show false=true from hs) K5
 |int i=>
  obtain⟨t,rfl⟩:=rx;cases y with
  |non=>cases ry;exact PySem.EqNone.eq_int_none (fR I q (by simp))
  |int j=>obtain⟨t',rfl⟩:=ry;exact eq_int (fR I q CU)
  |str j=>obtain⟨t',rfl⟩:=ry;exact PySem.EqMixed.eq_int_str (fR I q (by simp))
  |_=>exact absurd (show false=true from hs) K5
 |str i=>
  obtain⟨t,rfl⟩:=rx;cases y with
  |non=>cases ry;exact PySem.EqNone.eq_str_none (fR I q (by simp))
  |bl j=>cases ry;exact PySem.EqMixed.eq_str_bool (fR I q (by simp))
  |int j=>obtain⟨t',rfl⟩:=ry;exact PySem.EqMixed.eq_str_int (fR I q (by simp))
  |str j=>obtain⟨t',rfl⟩:=ry;exact eq_str (fR I q CV)
  |_=>exact absurd (show false=true from hs) K5
 |byt i=>
  obtain⟨t,rfl⟩:=rx;cases y with
  |byt j=>obtain⟨t',rfl⟩:=ry;exact PySem.W.eq_bytes (fR I q CW)
  |_=>exact absurd (show false=true from hs) K5
 |_=>cases y<;>exact absurd (show false=true from hs) K5
theorem EO:OpR X (compareOp .Lt) (yK λi j=>.bl (decide (i<j))):=CS λ_ _ _ _ _ _ _ q=>lt_int q
theorem Hx:OpR X (compareOp .LtE) (yK λi j=>.bl (decide (i<=j))):=CS λ_ _ _ _ _ _ _ q=>le_int q
theorem EQ:OpR X (compareOp .Gt) (yK λi j=>.bl (decide (j<i))):=CS λ_ _ _ _ _ _ _ q=>gt_int q
theorem Hy:OpR X (compareOp .GtE) (yK λi j=>.bl (decide (j<=i))):=CS λ_ _ _ _ _ _ _ q=>ge_int q
theorem FR:OpR X (compareOp .Is) (λx y H Q=>y=.non/\Q (.bl (decide (x=.non))) H):=by
 intro pins s σ H x y v u Q I rx ry h;obtain⟨rfl,q⟩:=h;cases ry;refine is_none_gen (fR I q ?_);cases x<;>first
  |(cases rx;rfl)
  |(obtain⟨t,rfl⟩:=rx;rfl)
theorem OpR.or {f:OA->OA->Sem OA}{r r':R2}(h:OpR X f r)(h':OpR X f r'):OpR X f (λx y H Q=>r x y H Q\/r' x y H Q):=by
 intro pins s σ H x y v u Q I rx ry q;rcases q with q|q
 .exact h pins s σ H x y v u Q I rx ry q
 .exact h' pins s σ H x y v u Q I rx ry q
theorem dw (b:Expr){op:CmpOp}(h:autoParam (op≠.In) OC._auto_1)(h2:autoParam (op≠.NotIn) OC._auto_1):behindInMarks op b=false:=by
 have e1:(op==CmpOp.In)=false:=by cases op<;>first|rfl|exact absurd rfl h
 have e2:(op==CmpOp.NotIn)=false:=by cases op<;>first|rfl|exact absurd rfl h2
 cases b<;>simp[behindInMarks,e1,e2]
theorem xw {op:CmpOp}{r:R2}(ho:OpR X (compareOp op) r)(ha:PE X a ta)(hb:PE X b tb)(hm:behindInMarks op b=false):PE X (.Compare a [op] [b] pos) (m5 r ta tb):=by intro pins s σ H Q I h;exact wpAny_Compare1 (FK ha hb I h λv u s2 x y H2 I2 rx ry q=>ho pins s2 σ H2 x y v u Q I2 rx ry q) hm
noncomputable def nV (t:TE):TT:=λσ H Q=>t σ H λx H'=>∃ k,x=.bl k/\Q k H'
theorem jO {op:CmpOp}{r:R2}(ho:OpR X (compareOp op) r)(ha:PE X a ta)(hb:PE X b tb)(hm:behindInMarks op b=false):PT X (.Compare a [op] [b] pos) (nV (m5 r ta tb)):=by intro pins s σ H Q I h;refine wpAny_isTrue_Compare1 (bW (ha pins s σ H _ I h) λv s1 ⟨x,H1,I1,r1,q1⟩=>bW (hb pins s1 σ H1 _ I1 q1) λu s2 ⟨y,H2,I2,r2,q2⟩=>bW (ho pins s2 σ H2 x y v u _ I2 r1 r2 q2) λc s3 ⟨z,H3,I3,r3,k,e,q3⟩=>?_) hm;subst e;cases r3;exact LV ⟨H3,I3,q3⟩
noncomputable def Ad (r r':R2)(ta tb tc:TE):TE:=λσ H Q=>ta σ H λx H1=>tb σ H1 λy H2=>r x y H2 λz H3=>∃ k,z=.bl k/\
 (if k=true then tc σ H3 λw' H4=>r' y w' H4 Q else Q (.bl false) H3)
theorem Ae {op op':CmpOp}{r r':R2}(ho:OpR X (compareOp op) r)(ho':OpR X (compareOp op') r')(ha:PE X a ta)(hb:PE X b tb)(hc:PE X c tc)
 (hm:lastMarks [op,op'] [b,c]=false:=by with_unfolding_all rfl):PT X (.Compare a [op,op'] [b,c] pos) (nV (Ad r r' ta tb tc)):=by
 intro pins s σ H Q I h;refine isTrue_chain (bW (ha pins s σ H _ I h) λv s1 ⟨x,H1,I1,r1,q1⟩=>test_link (bW (hb pins s1 σ H1 _ I1 q1) λu s2 ⟨y,H2,I2,r2,q2⟩=>bW (ho pins s2 σ H2 x y v u _ I2 r1 r2 q2) λd s3 ⟨z,H3,I3,r3,k,e,q3⟩=>?_)) hm;subst e;cases r3;refine LV ?_;cases k with
 |false=>obtain⟨k',e',q'⟩:=q3;cases e';exact ite_ff ⟨H3,I3,q'⟩
 |true=>refine ite_tt (test_last (bW (hc pins s3 σ H3 _ I3 q3) λw' s4 ⟨z',H4,I4,r4,q4⟩=>bW (ho' pins s4 σ H4 y z' u w' _ I4 r2 r4 q4) λd' s5 ⟨z2,H5,I5,r5,k2,e2,q5⟩=>?_));subst e2;cases r5;exact LV ⟨H5,I5,q5⟩
def FS (K:Oy)(x:V)(H:Hp)(k:Bool):Prop:=
 match x with
 | .non=>k=false
 | .bl b=>k=b
 | .int i=>k=(i != 0)
 | .str y=>y.length<=sizeLine/\k=((y.length:Int) != 0)
 | .byt y=>y.size<=sizeLine/\k=((y.size:Int) != 0)
 | .ref p=>(∃ xs,SqL K H p xs/\k=!xs.isEmpty)\/(∃ xs,SqT K H p xs/\k=!xs.isEmpty)\/∃ kvs,H p=some (.dK kvs)/\k=!kvs.isEmpty
 |_=>False
theorem v7 {κ:Type}{kvs:List (κ×V)}{vs:List (κ×OA)}(r:KV kvs vs):(!vs.isEmpty)=!kvs.isEmpty:=by cases r<;>rfl
theorem ph {xs:List V}{its:List OA}(r:Vals xs its):(!its.toArray.isEmpty)=!xs.isEmpty:=by cases r<;>simp
theorem m6:(sizeLine:Nat)<2 ^ 63:=by rw[Mi];decide
theorem FT:Jz X (λx H Q=>∃ k,FS X.K x H k/\Q k H):=by
 intro pins s σ H x v Q I rx h;obtain⟨k,e,q⟩:=h;have hl:=m6;have hs:sizeLine=16777216:=Mi;cases x with
 |non=>cases rx;have e':k=false:=e;subst e';exact truthy_none ⟨H,I,q⟩
 |bl b=>cases rx;have e':k=b:=e;subst e';exact LV ⟨H,I,q⟩
 |int i=>obtain⟨t,rfl⟩:=rx;have e':k=(i != 0):=e;subst e';exact PySem.P.truthy_int ⟨H,I,q⟩
 |str y=>obtain⟨t,rfl⟩:=rx;obtain⟨hy,e'⟩ : y.length<=sizeLine/\k=((y.length:Int) != 0):=e;subst e';exact PySem.P.truthy_str (by lia) ⟨H,I.tok _,q⟩
 |byt y=>obtain⟨t,rfl⟩:=rx;obtain⟨hy,e'⟩ : y.size<=sizeLine/\k=((y.size:Int) != 0):=e;subst e';exact PySem.W.truthy_bytes (by lia) ⟨H,I.tok _,q⟩
 |ref p=>
  cases rx;have e':(∃ xs,SqL X.K H p xs/\k=!xs.isEmpty)\/(∃ xs,SqT X.K H p xs/\k=!xs.isEmpty)\/∃ kvs,H p=some (.dK kvs)/\k=!kvs.isEmpty:=e;rcases e' with⟨xs,hx,e'⟩|⟨xs,hx,e'⟩|⟨kvs,hx,e'⟩
  .subst e';obtain⟨its,r,pl,hz⟩:=I.list hx;have aR:=r.length;exact wpAny_truthy_list pl.isList (by simp only[KC];lia) ⟨H,I.tok _,by rw[ph r];exact q⟩
  .subst e';obtain⟨its,r,pl,hz⟩:=I.tuple hx;have aR:=r.length;exact truthy_tuple pl (by simp only[KC];lia) ⟨H,I.tok _,by rw[ph r];exact q⟩
  .subst e';obtain⟨hz,hS,vs,r,m⟩ : kvs.length<=sizeLine/\(p==sysModules)=false/\∃ vs,KV kvs vs/\s.heap.DictOf (av X.prog X.w) p vs:=I.hok p _ hx;have aR:kvs.length=vs.length:=MC r;exact wpAny_truthy_dict hS m (by lia) ⟨H,I.tok _,by rw[v7 r];exact q⟩
 |_=>exact(show False from e).elim
theorem Af (ha:PE X a ta)(he:∀ whole,isTrue a X.env whole=(do let v <- whole;standAt a.pos;holding [v] (truthy v))) :
 PT X a (λσ H Q=>ta σ H λx H'=>∃ k,FS X.K x H' k/\Q k H'):=by
 intro pins s σ H Q I h;exact isTrue_plain (bW (ha pins s σ H _ I h) λv s1 ⟨x,H1,I1,r1,q1⟩=>FT pins s1 σ H1 x v Q I1 r1 q1) (he _)
theorem v8:OpR X (binaryOp .Add) (λx y H Q=>∃ i j,x=.str i/\y=.str j/\i.length+j.length<=sizeLine/\Q (.str (i++j)) H):=by intro pins s σ H x y v u Q I rx ry h;obtain⟨i,j,rfl,rfl,hz,q⟩:=h;obtain⟨t,rfl⟩:=rx;obtain⟨t',rfl⟩:=ry;exact add_str (λt' tk=>⟨.str (i++j),H,I.tok _,⟨_,rfl⟩,q⟩) hz
theorem j_ {x:V}{us:List OA}(r:Vals [x] us):∃ u,us=[u]/\RelV x u:=by
 cases r with
 |cons r1 r2=>cases r2;exact⟨_,rfl,r1⟩
theorem rl {x y:V}{us:List OA}(r:Vals [x,y] us):∃ u w',us=[u,w']/\RelV x u/\RelV y w':=by
 cases r with
 |cons r1 r2=>
  cases r2 with
  |cons r3 r4=>cases r4;exact⟨_,_,rfl,r1,r3⟩
theorem yL (hc:X.calm=true):CallR X (.builtin "min") (λxs H Q=>∃ i j,xs=[.int i,.int j]/\Q (.int (if j<i then j else i)) H):=by
 intro pins s σ H xs us Q I r h;obtain⟨i,j,rfl,q⟩:=h;obtain⟨u,w',rfl,⟨t,rfl⟩,⟨t',rfl⟩⟩:=rl r;refine min_two_ints (I.ok.hd hc) λh' tk k=>⟨_,H,I.kept k,?_,q⟩;by_cases hj:j<i
 .rw[Ku hj,Ku hj];exact⟨_,rfl⟩
 .rw[Kv hj,Kv hj];exact⟨_,rfl⟩
theorem uj:CallR X (.builtin "divmod") (λxs H Q=>∃ i j,xs=[.int i,.int j]/\Hv i j/\∀ p,H p=none->Q (.ref p) (aB H p (.tup [.int (i / j),.int (i % j)]))):=by intro pins s σ H xs us Q I r h;obtain⟨i,j,rfl,⟨h1,h2⟩,q⟩:=h;obtain⟨u,w',rfl,⟨t,rfl⟩,⟨t',rfl⟩⟩:=rl r;refine divmod_int (by lia) ?_ (.inl (PyProof.noPylong_small (by lia)));rw[Int.fdiv_eq_ediv_of_nonneg i (by lia),Int.fmod_eq_emod_of_nonneg i (by lia)];have hn:H s.heap.objs.size=none:=I.hok.fresh (Kq _);refine⟨.ref s.heap.objs.size,_,?_,rfl,q _ hn⟩;refine I.laid (λb o e=>Ks _ e) (Kq _) ⟨by simp only[Ky,KO];rw[Mi];decide,[.int (i / j) s.toks,.int (i % j) (s.toks+1)],.cons ⟨_,rfl⟩ (.cons ⟨_,rfl⟩ .nil),?_⟩;exact⟨_,KF s.heap rfl,rfl,0,rfl⟩
end
structure ObjM (h:Heap) (x dx C:Addr) (mA:Str->Option OA):Prop where
 obj:h.get? x=some (PySem.W.instObj C dx)
 ns:h.Ns1 dx mA
 ne:dx≠x
theorem yM {h:Heap}{dx:Addr}{mA:Str->Option OA}(n:h.Ns1 dx mA):∃ od,h.get? dx=some od/\∀ name,PySem.W.lookIn name od=some (mA name):=by
 obtain⟨o,es,ep,ho,hd,hk,_,hm⟩:=n;refine⟨o,ho,λname=>?_⟩;have e:=hm name;unfold nsFind findBy at e;rw[<- Array.find?_toList]at e;unfold PySem.W.lookIn;rw[hd];dsimp only;split
 .rename_i y q;rw[q]at e;exact LA some e
 .rename_i q;rw[q]at e;have a:es.toList.any (·.refKey)=false:=by rw[List.any_eq_false];intro y hy;obtain⟨z,t,jK⟩:=hk y (Array.mem_toList_iff.mp hy);simp[DictEntry.refKey,jK]
  have a':¬ es.toList.any (·.refKey)=true:=by rw[a];exact K5
  rw[Kv a'];exact LA some e
theorem ObjM.look {h:Heap}{x dx C:Addr}{mA:Str->Option OA}(I:ObjM h x dx C mA):∃ od,PySem.W.InstAt h x (PySem.W.instObj C dx) C (some od)/\∀ name,PySem.W.lookIn name od=some (mA name):=
 let ⟨od,ho,hl⟩:=yM I.ns
 ⟨od,⟨I.obj,rfl,rfl,ho⟩,hl⟩
section
variable {prog:Oz}{w:World}{A:OB}{E:OA->Ox->Prop}{s:Ox}{K:Oy}{x dx C f:Addr}{mA:Str->Option OA}{name:Str}{v:OA}
theorem CY {expr:Bool}{Q:OA->Ox->Prop}(X:K.In s.heap)(I:ObjM s.heap x dx C mA)(hg:PySem.W.plainGet K C name=true)(hh:PySem.W.hasDictIn K C=true)
 (ha:PySem.W.findIn K (.ref C) name=some none) (hv:mA name=some v) (hv':PySem.W.handedIn v=true) (h:Q v { s with toks:=s.toks+1 }) :
 wpAny (model prog w) A (getAttr (.ref x) name expr) Q E s:=by
 obtain⟨od,J,hl⟩:=I.look;exact PySem.W.get_value X J (N2 hg).1 (PySem.W.findObj_own hh ha rfl (by rw[hl,hv])) hv' h
theorem Ag {pl:Sem Bool}{Q:OA×List OA->Ox->Prop}(X:K.In s.heap)(I:ObjM s.heap x dx C mA)(hg:PySem.W.plainGet K C name=true)
 (hf:PySem.W.findIn K (.ref C) name=some (some (.ref f))) (ht:PySem.W.isFn K (.ref f)=true) (hv:mA name=none) (h:Q (.ref f,[.ref x]) s) :
 wpAny (model prog w) A (getMethod (.ref x) name pl) Q E s:=by
 obtain⟨od,J,hl⟩:=I.look;exact PySem.W.method_fn X J (N2 hg).1 (N2 hg).2 hf (NZ.mp ht) (by show(PySem.W.lookIn name od).map (·.isSome)=some false;rw[hl,hv];rfl) h
theorem CZ {ns:List Str}{Q:Unit->Ox->Prop}(X:K.In s.heap)(I:ObjM s.heap x dx C mA)
 (hs:PySem.W.findIn K (.ref C) "__setattr__"=some (some (.builtin "object.__setattr__"))) (hp:PySem.W.plainOver K C=true) (ht:PySem.W.takerIn K C name=some none) (hh:PySem.W.hasDictIn K C=true)
 (hw:PySem.Within mA ns) (hsz:ns.length<=sizeLine)
 (h:∀ h',ObjM h' x dx C (λy=>if y=name then some v else mA y)->Heap.SameBut dx s.heap h'->Q () { s with heap:=h',toks:=s.toks+2 }) :
 wpAny (model prog w) A (setAttr (.ref x) name v) Q E s:=by
 obtain⟨od,J,hl⟩:=I.look;refine PySem.W.set_plain X J hs (PySem.W.osa_open (s:={ s with toks:=s.toks+1 }) (r:=none) X J hp ht λb=>?_);obtain⟨cd,hc,hd'⟩:=PySem.W.any_some hh;have hx:s.heap.get? x=some ⟨.ref C,some dx,.plain,#[]⟩:=I.obj;refine Kp (Kt (Kp (Kp (wpAny_loadPart hx (Kp (PySem.W.Looks.here (s:={ s with toks:=s.toks+1 }) (PySem.W.looks_clsIn X hc) ?_))))));rw[hd'];refine Kt (a:=some dx) (Kp (Kt (Kp ?_)));refine wpAny_nsSet1 (s:={ s with toks:=s.toks+1 }) I.ns λh' hn2 hs2=>?_;obtain⟨oD,esD,epD,hoD,hdD,hcD⟩:=hn2.count (PySem.Within.cons name v hw);refine Kp (wpAny_lookBehind hoD (by rw[hdD];exact pastItsLine_dict (Ld hcD (by rw[Ky];lia))) ?_);exact Kt (h _ ⟨(hs2.2 _ (LJ I.ne)).trans I.obj,hn2,I.ne⟩ hs2)
theorem Ah {R:Result->Ox->Prop}{vs:List OA}{kw:List (Str×OA)}(X:K.In s.heap)(hm:PySem.W.makesIn K C=true)
 (hi:PySem.W.findIn K (.ref C) "__init__"=some (some (.ref f))) (hf:PySem.W.typeIn K (.ref f)=some (.type "function"))
 (h:codeAny (model prog w) (A.under (.builtin "type.__call__" ⟨.ref C::vs,kw⟩)) (.call (.ref f) ⟨.ref (s.heap.objs.size+1)::vs,kw⟩) (PySem.W.InitBack (s.heap.objs.size+1) R)
   { s with heap:=(s.heap.push PySem.W.emptyDict).push (PySem.W.instObj C s.heap.objs.size) }) :
 codeAny (model prog w) A (.call (.ref C) ⟨vs,kw⟩) R s:=by
 obtain⟨hh,g,d,t,os⟩:=s;exact PySem.W.make_core (PySem.W.makes_of X hm) (PySem.W.looks_findIn X hi) (λself=>PySem.W.bind_fn X self hf) (.inl rfl) h
end
noncomputable def jh (f:Str)(v:V):List (Str×V)->List (Str×V)
 | []=>[(f,v)]
 |(g,x)::r=>if g=f then (g,v)::r else (g,x)::jh f v r
theorem nW (f g:Str)(v:V):∀ fs:List (Str×V),(jh f v fs).lookup g=if g=f then some v else fs.lookup g
 | []=>by
  show List.lookup g [(f,v)]=_;by_cases h:g=f
  .have hb:(g==f)=true:=NZ.mpr h;simp only[List.lookup,hb,Ku h]
  .have hb:(g==f)=false:=LI.mpr h;simp only[List.lookup,hb,Kv h]
 |(k,x)::r=>by
  have ih:=nW f g v r;rw[show jh f v ((k,x)::r)=(if k=f then (k,v)::r else (k,x)::jh f v r) from rfl];by_cases hk:k=f
  .rw[Ku hk];by_cases h:g=k
   .have hb:(g==k)=true:=NZ.mpr h;simp only[List.lookup,hb,Ku (h.trans hk)]
   .have hb:(g==k)=false:=LI.mpr h;simp only[List.lookup,hb,Kv (λe:g=f=>h (e.trans hk.symm))]
  .rw[Kv hk];by_cases h:g=k
   .have hb:(g==k)=true:=NZ.mpr h;simp only[List.lookup,hb,Kv (λe:g=f=>hk (h.symm.trans e))]
   .have hb:(g==k)=false:=LI.mpr h;simp only[List.lookup,hb];exact ih
theorem m7 (f:Str)(v:V):∀ fs:List (Str×V),f∈(jh f v fs).map (·.1)/\∀ g,g∈fs.map (·.1)->g∈(jh f v fs).map (·.1)
 | []=>⟨by simp[jh],λg h=>by simp at h⟩
 |(k,x)::r=>by
  obtain⟨i1,i2⟩:=m7 f v r;rw[show jh f v ((k,x)::r)=(if k=f then (k,v)::r else (k,x)::jh f v r) from rfl];by_cases hk:k=f
  .rw[Ku hk];subst hk;exact⟨by simp,λg h=>by simpa using h⟩
  .rw[Kv hk];refine⟨?_,λg h=>?_⟩
   .rw[Kr];exact Kx _ i1
   .rw[Kr]at h ⊢;rcases KB.mp h with e|e
    .exact KB.mpr (.inl e)
    .exact Kx _ (i2 g e)
theorem nX (f:Str)(v:V):∀ fs:List (Str×V),(jh f v fs).length<=fs.length+1
 | []=>by simp[jh]
 |(k,x)::r=>by
  have ih:=nX f v r;rw[show jh f v ((k,x)::r)=(if k=f then (k,v)::r else (k,x)::jh f v r) from rfl];by_cases hk:k=f
  .rw[Ku hk,Ky,Ky];lia
  .rw[Kv hk,Ky,Ky];lia
theorem RelO.some_of {v:V}{o:Option OA}(r:RelO (some v) o):∃ u,o=some u/\RelV v u:=by
 cases o with
 |none=>exact(show False from r).elim
 |some u=>exact⟨u,rfl,r⟩
theorem RelO.none_of {o:Option OA}(r:RelO none o):o=none:=by
 cases o with
 |none=>rfl
 |some u=>exact(show False from r).elim
theorem yN {v:V}{u:OA}(r:RelV v u):PySem.W.handedIn u=true:=by
 cases v with
 |non=>cases (show u=Value.none from r);rfl
 |bl b=>cases (show u=Value.bool b from r);rfl
 |int i=>obtain⟨t,e⟩:=(show ∃ t,u=Value.int i t from r);cases e;rfl
 |str x=>obtain⟨t,e⟩:=(show ∃ t,u=Value.str x t from r);cases e;rfl
 |byt b=>obtain⟨t,e⟩:=(show ∃ t,u=Value.bytes b t from r);cases e;rfl
 |flt b=>obtain⟨t,e⟩:=(show ∃ t,u=Value.float b t from r);cases e;rfl
 |ref a=>cases (show u=Value.ref a from r);rfl
 |ty n=>cases (show u=Value.type n from r);rfl
section
variable {P:Oz}{w:World}{H H':Hp}{h h':Heap}{a C dx:Addr}{fs fs':List (Str×V)}
theorem oM (hok:HOk P w H h)(e:H a=some (.ins C dx fs)):∃ mA,ObjM h a dx C mA/\(∀ f,RelO (fs.lookup f) (mA f))/\PySem.Within mA (fs.map (·.1))/\fs.length<=1000/\H dx=some (.own a):=by obtain⟨d,z,ne,ob,mA,n,r,q⟩:=(show ObjOk P w H h a (.ins C dx fs) from hok a _ e);exact⟨mA,⟨ob,n,ne⟩,r,q,z,d⟩
end
structure Cls (K:Oy) (C:Addr):Prop where
 pg:PySem.W.plainGet K C Str.empty=true
 hd:PySem.W.hasDictIn K C=true
 po:PySem.W.plainOver K C=true
 sa:PySem.W.findIn K (.ref C) "__setattr__"=some (some (.builtin "object.__setattr__"))
theorem Cls.get {K:Oy}{C:Addr}(c:Cls K C)(f:Str):PySem.W.plainGet K C f=true:=c.pg
def NoAttr (K:Oy)(C:Addr)(f:Str):Prop:=PySem.W.findIn K (.ref C) f=some none
theorem NoAttr.taker {K:Oy}{C:Addr}{f:Str}(n:NoAttr K C f):PySem.W.takerIn K C f=some none:=by unfold PySem.W.takerIn;rw[show PySem.W.findIn K (.ref C) f=some none from n];rfl
structure Meth (K:Oy) (C:Addr) (m:Str) (f:Addr):Prop where
 at_:PySem.W.findIn K (.ref C) m=some (some (.ref f))
 fn:PySem.W.isFn K (.ref f)=true
 kp:PySem.W.keepIn K (.ref f)=true
section
variable {X:Cx}{pins:List (Addr×Obj)}{σ:St}{H:Hp}{s:Ox}{a C dx:Addr}{fs:List (Str×V)}{f:Str}{v:V}{A:OB}{E:OA->Ox->Prop}
theorem v9 {b:Bool}{Q:OA->Ox->Prop}(I:Inv X pins σ H s)(e:H a=some (.ins C dx fs))(c:Cls X.K C)(n:NoAttr X.K C f)(l:fs.lookup f=some v)
 (h:∀ u s',Inv X pins σ H s'->RelV v u->Q u s'):wpAny (model X.prog X.w) A (getAttr (.ref a) f b) Q E s:=by
 obtain⟨mA,O,r,_,_,_⟩:=oM I.hok e;obtain⟨u,hu,ru⟩:=RelO.some_of (v:=v) (o:=mA f) (by rw[<- l];exact r f);exact CY I.kIn O (c.get f) c.hd n hu (yN ru) (h u _ (I.tok _) ru)
theorem pj {m:Str}{g:Addr}{pl:Sem Bool}{Q:OA×List OA->Ox->Prop}(I:Inv X pins σ H s)(e:H a=some (.ins C dx fs))(c:Cls X.K C)(k:Meth X.K C m g)(l:fs.lookup m=none)
 (h:Q (.ref g,[.ref a]) s):wpAny (model X.prog X.w) A (getMethod (.ref a) m pl) Q E s:=by
 obtain⟨mA,O,r,_,_,_⟩:=oM I.hok e;have hn:mA m=none:=RelO.none_of (by rw[<- l];exact r m);exact Ag I.kIn O (c.get m) k.at_ k.fn hn h
theorem v_ {y:V}{u:OA}{Q:Unit->Ox->Prop}(I:Inv X pins σ H s)(e:H a=some (.ins C dx fs))(c:Cls X.K C)(n:NoAttr X.K C f)(hl:fs.length<1000)(ry:RelV y u)
 (h:∀ s',Inv X pins σ (aB H a (.ins C dx (jh f y fs))) s'->Q () s'):wpAny (model X.prog X.w) A (setAttr (.ref a) f u) Q E s:=by
 obtain⟨mA,O,r,wi,_,ho⟩:=oM I.hok e;have hz:(fs.map (·.1)).length<=sizeLine:=by rw[Kw,Mi];lia
 refine CZ I.kIn O c.sa c.po n.taker c.hd wi hz λh' O' sb=>h _ ?_;have hd:∃ o,h'.get? dx=some o:=let ⟨o,_,_,e',_⟩:=O'.ns;⟨o,e'⟩;refine I.write (x:=a) (e:=dx) (by rw[e];exact True.intro) (.inr ho) (λb q hb z=>(sb.2 b hb).trans z) hd ?_;refine⟨by rw[aa O.ne];exact ho,?_,O.ne,O'.obj,_,O'.ns,λg=>?_,λg hg=>?_⟩
 .have:=nX f y fs;lia
 .show RelO ((jh f y fs).lookup g) (if g=f then some u else mA g);rw[nW];by_cases q:g=f
  .rw[Ku q,Ku q];exact ry
  .rw[Kv q,Kv q];exact r g
 .by_cases q:g=f
  .rw[q];exact(m7 f y fs).1
  .refine(m7 f y fs).2 g (wi g λz=>hg ?_);show(if g=f then some u else mA g)=none;rw[Kv q];exact z
theorem Inv.made (I:Inv X pins σ H s):Inv X pins σ (aB (aB H s.heap.objs.size (.own (s.heap.objs.size+1))) (s.heap.objs.size+1) (.ins C s.heap.objs.size []))
 { s with heap:=(s.heap.push PySem.W.emptyDict).push (PySem.W.instObj C s.heap.objs.size) }:=by
 have e1:(s.heap.push PySem.W.emptyDict).get? s.heap.objs.size=some PySem.W.emptyDict:=KF s.heap rfl;have e2:((s.heap.push PySem.W.emptyDict).push (PySem.W.instObj C s.heap.objs.size)).get? (s.heap.objs.size+1)=some (PySem.W.instObj C s.heap.objs.size):=by
  have:=KF (s.heap.push PySem.W.emptyDict) (o:=PySem.W.instObj C s.heap.objs.size) rfl
  rwa [Oc]at this
 have e3:(s.heap.push PySem.W.emptyDict).Ns s.heap.objs.size (λ_=>none):=⟨PySem.W.emptyDict,#[],_,e1,rfl,(λe he=>absurd he (by simp)),λ_=>rfl⟩;have I1:=I.laid (a:=s.heap.objs.size) (o:=.own (s.heap.objs.size+1)) (h':=s.heap.push PySem.W.emptyDict) (t':=s.toks) (λb u q=>Ks _ q) (Kq _) ⟨_,e1⟩;refine I1.laid (a:=s.heap.objs.size+1) (o:=.ins C s.heap.objs.size []) (t':=s.toks) (λb u q=>Ks _ q) (Ov (Oc _ _)) ?_;have ne:s.heap.objs.size≠s.heap.objs.size+1:=KR (Nm _);refine⟨by rw[aa ne,ac],LF _,ne,e2,λ_=>none,(Heap.Ns1.of_empty e3).at λo q=>Ks _ q,λ_=>True.intro,λy hy=>absurd rfl hy⟩
theorem C0 {prog:Oz}{w:World}{env:Env}{e:Expr}{f:Str}{pos:Pos}{s:Ox}{Q:OA->Ox->Prop}(hb:attributeBase e f env (eval e env)=eval e env)
 (h:wpAny (model prog w) A (eval e env) (λo s₁=>wpAny (model prog w) A (getAttr o f true) Q E s₁) E s):wpAny (model prog w) A (eval (.Attribute e f pos) env) Q E s:=
 Attribute_any_ h (by rw[arm_eval_Attribute,hb])
end
def iS (K:Oy)(ta:TE)(f:Str):TE:=λσ H Q=>ta σ H λx H1=>∃ a C dx fs v,x=.ref a/\H1 a=some (.ins C dx fs)/\Cls K C/\NoAttr K C f/\fs.lookup f=some v/\Q v H1
def sE (K:Oy)(ta tv:TE)(f:Str):TS:=λD σ H=>tv σ H λy H1=>ta σ H1 λx H2=>∃ a C dx fs,x=.ref a/\H2 a=some (.ins C dx fs)/\Cls K C/\NoAttr K C f/\fs.length<1000/\
 D.nx σ (aB H2 a (.ins C dx (jh f y fs)))
section
variable {X:Cx}{o e value:Expr}{f:Str}{pos pos' j5:Pos}{ta tv:TE}
theorem dz (he:PE X e ta)(hb:attributeBase e f X.env (eval e X.env)=eval e X.env):PE X (.Attribute e f pos) (iS X.K ta f):=by intro pins s σ H Q I h;refine C0 hb (bW (he pins s σ H _ I h) λu s1 ⟨x,H1,I1,rx,a,C,dx,fs,v,ex,ea,c,n,l,q⟩=>?_);subst ex;obtain rfl:u=Value.ref a:=rx;exact v9 I1 ea c n l λu' s2 I2 ru=>⟨v,H1,I2,ru,q⟩
theorem kc (ha:PE X o ta)(hv:PE X value tv)(hs:swapsWith value (some (.Attribute o f pos')) pos.line X.env=pure false):PS X (.Assign [.Attribute o f pos'] value pos) (sE X.K ta tv f):=by intro pins s σ H D I h;refine plainObj_wpAny_Assign_Attribute (bW (hv pins s σ H _ I h) λu s1 ⟨y,H1,I1,ry,q⟩=>bW (ha pins s1 σ H1 _ I1 q) λov s2 ⟨x,H2,I2,rx,a,C,dx,fs,ex,ea,c,n,l,q2⟩=>?_) hs;subst ex;obtain rfl:ov=Value.ref a:=rx;exact v_ I2 ea c n l ry λs3 I3=>⟨σ,_,I3,q2⟩
end
section
variable {X:Cx}{pins:List (Addr×Obj)}{σ:St}{H:Hp}{s:Ox}{A:OB}{E:OA->Ox->Prop}{Q:OA->Ox->Prop}{c:OA}{b:Bool}
inductive TyOf (K:Oy) (H:Hp):V->OA->Prop where
 |non:TyOf K H .non (.type "NoneType")
 |bl (x:Bool):TyOf K H (.bl x) (.type "bool")
 |int (i:Int):TyOf K H (.int i) (.type "int")
 |str (x:Str):TyOf K H (.str x) (.type "str")
 |flt (x:UInt64):TyOf K H (.flt x) (.type "float")
 |lst {a:Addr} {xs:List V} (e:H a=some (.lst xs)):TyOf K H (.ref a) (.type "list")
 |frz {a:Addr} {o:Obj} {xs:List V} (e:H a=some (.frz o (.lst xs))):TyOf K H (.ref a) (.type "list")
 |tup {a:Addr} {xs:List V} (e:H a=some (.tup xs)):TyOf K H (.ref a) (.type "tuple")
 |dK {a:Addr} {kvs:List (Key×V)} (e:H a=some (.dK kvs)):TyOf K H (.ref a) (.type "dict")
 |dT {a:Addr} {kvs:List (List Key×V)} (e:H a=some (.dT kvs)):TyOf K H (.ref a) (.type "dict")
 |ins {a C dx:Addr} {fs:List (Str×V)} (e:H a=some (.ins C dx fs)) (cl:Cls K C) (ha:PySem.W.findIn K (.ref C) "__class__"=some (some (.builtin "object.__class__")))
  (hn:PySem.W.specialIn K (.builtin "object.__class__") "__get__"=some (some (.builtin "getset_descriptor.__get__"))) (htk:PySem.W.takesIn K (.builtin "object.__class__")=some true)
  (hm:PySem.W.mroIn K C (.type "object")=some true):TyOf K H (.ref a) (.ref C)
theorem yO {x:V}{u t:OA}(I:Inv X pins σ H s)(rx:RelV x u)(ty:TyOf X.K H x t)(e:PySem.W.kitOne X.K t c=some b)(h:∀ tk,Q (.bool b) { s with toks:=tk }) :
 wpAny (model X.prog X.w) A (call (.builtin "isinstance") [u,c]) Q E s:=by
 cases ty with
 |non=>cases (show u=Value.none from rx);exact LO PySem.W.kitx_none I.kIn True.intro e (λz=>nomatch z) h
 |bl y=>cases (show u=Value.bool y from rx);exact LO PySem.W.kitx_bool I.kIn True.intro e (λz=>nomatch z) h
 |int i=>obtain⟨t,q⟩:=(show ∃ t,u=Value.int i t from rx);cases q;exact LO PySem.W.kitx_int I.kIn True.intro e (λz=>nomatch z) h
 |str y=>obtain⟨t,q⟩:=(show ∃ t,u=Value.str y t from rx);cases q;exact LO PySem.W.kitx_str I.kIn True.intro e (λz=>nomatch z) h
 |flt y=>obtain⟨t,q⟩:=(show ∃ t,u=Value.float y t from rx);cases q;exact LO PySem.W.kitx_float I.kIn True.intro e (λz=>nomatch z) h
 | @lst a xs ea=>cases (show u=Value.ref a from rx);obtain⟨_,_,n,_,h1⟩:=(show ObjOk X.prog X.w H s.heap a (.lst xs) from I.hok a _ ea);exact LO PySem.W.kitx_list I.kIn ⟨_,h1,rfl⟩ e (λz=>nomatch z) h
 | @frz a ob xs ea=>cases (show u=Value.ref a from rx);obtain⟨_,_,_,n,_,h1⟩:=(show ObjOk X.prog X.w H s.heap a (.frz ob (.lst xs)) from I.hok a _ ea);exact LO PySem.W.kitx_list I.kIn ⟨_,h1,rfl⟩ e (λz=>nomatch z) h
 | @tup a xs ea=>cases (show u=Value.ref a from rx);obtain⟨_,_,_,p⟩:=(show ObjOk X.prog X.w H s.heap a (.tup xs) from I.hok a _ ea);obtain⟨o,h1,h2,_⟩:=p;exact LO PySem.W.kitx_tuple I.kIn ⟨o,h1,h2⟩ e (λz=>nomatch z) h
 | @dK a kvs ea=>cases (show u=Value.ref a from rx);obtain⟨_,_,vs,_,p⟩:=(show ObjOk X.prog X.w H s.heap a (.dK kvs) from I.hok a _ ea);obtain⟨o,es,ep,h1,h2,_⟩:=p;exact LO Of I.kIn ⟨o,h1,h2.1⟩ e (λz=>nomatch z) h
 | @dT a kvs ea=>cases (show u=Value.ref a from rx);obtain⟨_,_,xs,_,o,es,ep,h1,h2,_⟩:=(show ObjOk X.prog X.w H s.heap a (.dT kvs) from I.hok a _ ea);exact LO Of I.kIn ⟨o,h1,h2.1⟩ e (λz=>nomatch z) h
 | @ins a C dx fs ea cl ha hn htk hm=>cases (show u=Value.ref a from rx);obtain⟨mA,O,_⟩:=oM I.hok ea;obtain⟨od,J,_⟩:=O.look;exact LO (PySem.W.kitx_own (cl.get _) cl.hd ha hn htk hm) I.kIn J e (λz=>nomatch z) h
end
structure Room (k:Nat) (A:OB):Prop where
 hd:A.handled=none
 dp:A.depth+3*k+5<recursionLimit
 un:A.units+16*k+200<cLine
theorem Room.mono {j k:Nat}{A:OB}(r:Room k A)(h:j<=k):Room j A:=⟨r.hd,by have:=r.dp;lia,by have:=r.un;lia⟩
theorem Room.deeper {k:Nat}{A:OB}(r:Room (k+1) A)(env:Env):Room k (A.deeper env):=⟨r.hd,by have:=r.dp;show A.depth+1+3*k+5<_;lia,by have:=r.un;show A.units+3+16*k+200<_;lia⟩
theorem wa {A:OB} {C:Addr} {us:List OA} {kw:List (Str×OA)}:(A.under (.builtin "type.__call__" ⟨.ref C::us,kw⟩)).depth=A.depth+1:=by
 first|rfl|simp[Around.under,Code.weight,Code.isCreation,Code.isGuard,Code.isCaller,Code.frames,Code.isFrame,guardIds]
theorem wb {A:OB} {C:Addr} {us:List OA} {kw:List (Str×OA)}:(A.under (.builtin "type.__call__" ⟨.ref C::us,kw⟩)).units=A.units+1:=by
 first|rfl|simp[Around.under,Code.cUnits,Code.frames,Code.isFrame]
theorem Room.make {k:Nat} {A:OB} (r:Room (k+1) A) (C:Addr) (us:List OA) (kw:List (Str×OA)):Room k (A.under (.builtin "type.__call__" ⟨.ref C::us,kw⟩)):=⟨r.hd,by have:=r.dp;rw[wa];lia,by have:=r.un;rw[wb];lia⟩
theorem Room.depth {k:Nat}{A:OB}(r:Room k A):A.depth<recursionLimit:=by have:=r.dp;lia
theorem Room.units {k:Nat}{A:OB}(r:Room k A):A.units+64<cLine:=by have:=r.un;lia
noncomputable def bq:TA:=λ_ H Q=>Q [] H
noncomputable def au (ta:TE)(tr:TA):TA:=λσ H Q=>ta σ H λx H1=>tr σ H1 λxs H2=>Q (x::xs) H2
section
variable {X:Cx}{e:Expr}{es:List Expr}{te:TE}{t:TA}{pos:Pos}
theorem aA:PA X [] bq:=λ_ _ _ _ H Q I h=>MM ⟨[],H,I,.nil,h⟩
theorem ag (ha:PE X e te)(hr:PA X es t)(hs:autoParam (starEach (e::es) X.env=(false,eval e X.env)::starEach es X.env) OH._auto_1):PA X (e::es) (au te t):=by intro pos pins s σ H Q I h;rw[hs];show wpAny _ _ (spliced ((false,eval e X.env)::backTo pos (starEach es X.env))) _ _ s;refine Me (bW (ha pins s σ H _ I h) λu s1 ⟨x,H1,I1,r1,q1⟩=>?_);exact bW (hr pos pins s1 σ H1 _ I1 q1) λus s2 ⟨xs,H2,I2,r2,q2⟩=>⟨x::xs,H2,I2,.cons r1 r2,q2⟩
def ke (t:TA):TE:=λσ H Q=>t σ H λxs H1=>xs.length<=sizeLine/\∀ p,H1 p=none->Q (.ref p) (aB H1 p (.tup xs))
def wc (t:TA):TE:=λσ H Q=>t σ H λxs H1=>xs.length<=sizeLine/\∀ p,H1 p=none->Q (.ref p) (aB H1 p (.lst xs))
theorem f6 {x1}(h:PA X es t):PE X (.Tuple es x1 pos) (ke t):=by intro pins s σ H Q I hq;refine wpAny_Tuple_spliced (bW (h pos pins s σ H _ I hq) λus s1 ⟨xs,H1,I1,r,z,q⟩=>⟨by rw[<- r.length];exact z,?_⟩);have hf:H1 s1.heap.objs.size=none:=I1.hok.fresh (Kq _);refine⟨.ref s1.heap.objs.size,aB H1 s1.heap.objs.size (.tup xs),I1.laid (t':=s1.toks) (λb u e=>Ks _ e) (Kq _) ?_,rfl,q _ hf⟩;exact⟨z,us,r,⟨_,KF _ rfl,rfl,_,rfl⟩⟩
theorem jP (h:PA X es t):PE X (.List es pos) (wc t):=by intro pins s σ H Q I hq;refine wpAny_List_spliced (bW (h pos pins s σ H _ I hq) λus s1 ⟨xs,H1,I1,r,z,q⟩=>⟨by rw[<- r.length];exact z,?_⟩);have hf:H1 s1.heap.objs.size=none:=I1.hok.fresh (Kq _);refine⟨.ref s1.heap.objs.size,aB H1 s1.heap.objs.size (.lst xs),I1.laid (t':=s1.toks) (λb u e=>Ks _ e) (Kq _) ?_,rfl,q _ hf⟩;exact⟨z,us,0,r,KF _ rfl⟩
end
abbrev Sp:=List V->Hp->VK->XK->Prop
abbrev CXT:=List Env->Hp->Ox->XK->OA->Ox->Prop
structure Env0 (P:Oz) (w:World) (K:Oy) (mg:Str->Option OA) (base:Heap) (A:OB) (outer:List Env) (s:Ox) (H:Hp):Prop where
 frames:A.frames=some outer
 mod:Mod K mg base
 bs:∀ b o,base.get? b=some o->s.heap.get? b=some o/\H b=none
 bsz:base.objs.size<=s.heap.objs.size
 funs:s.heap.FunFrames base outer
 frf:∀ b∈frs outer,H b=none
 hok:HOk P w H s.heap
 bare:AllBare s.gens
 kt:WrT K H
def CE (outer:List Env)(P:Oz)(w:World)(H:Hp)(s:Ox)(Q:VK)(u:OA)(s':Ox):Prop:=∃ v H',s'.os=s.os/\AllBare s'.gens/\Un (frs outer) [] H H' s.heap s'.heap/\HOk P w H' s'.heap/\RelV v u/\Q v H'
def CR (CX:CXT)(outer:List Env)(P:Oz)(w:World)(H:Hp)(s:Ox)(Q:VK)(E:XK)(r:Result)(s':Ox):Prop:=
 match r with
 | .ok (.ret u)=>CE outer P w H s Q u s'
 | .ok _=>False
 | .error e=>CX outer H s E e s'
structure FnOk (P:Oz) (w:World) (K:Oy) (mg:Str->Option OA) (base:Heap) (CX:CXT) (k:Nat) (f:Addr) (fd:FuncData) (ps:List Str) (sp:Sp):Prop where
 len:∀ vs H Q E,sp vs H Q E->vs.length=ps.length
 run:∀(A:OB)(outer:List Env)(s:Ox)(H:Hp)(args:Args)(us:List OA)(vs:List V)(Q:VK)(E:XK),Room k A->Env0 P w K mg base A outer s H->BindsTo s fd args (ps.zip us)->Vals vs us->sp vs H Q E->
  codeAny (model P w) A (.call (.ref f) args) (CR CX outer P w H s Q E) s
theorem FnOk.imp {P:Oz}{w:World}{K:Oy}{mg:Str->Option OA}{base:Heap}{CX:CXT}{k:Nat}{f:Addr}{fd:FuncData}{ps:List Str}{sp sp':Sp}(F:FnOk P w K mg base CX k f fd ps sp)
 (h:∀ vs H Q E,sp' vs H Q E->sp vs H Q E):FnOk P w K mg base CX k f fd ps sp':=
 ⟨λvs H Q E q=>F.len vs H Q E (h _ _ _ _ q),λA outer s H args us vs Q E hr he hb hv hs=>F.run A outer s H args us vs Q E hr he hb hv (h _ _ _ _ hs)⟩
theorem Env0.make {P:Oz}{w:World}{K:Oy}{mg:Str->Option OA}{base:Heap}{A:OB}{outer:List Env}{s:Ox}{H:Hp}(e:Env0 P w K mg base A outer s H)(C:Addr)(us:List OA)(kw:List (Str×OA)) :
 Env0 P w K mg base (A.under (.builtin "type.__call__" ⟨.ref C::us,kw⟩)) outer s H:=⟨by first|exact e.frames|(simpa[Around.under,Code.envs,Code.isFrame,pushEnvs] using e.frames),e.mod,e.bs,e.bsz,e.funs,e.frf,e.hok,e.bare,e.kt⟩
section
variable {X:Cx}{pins:List (Addr×Obj)}{σ:St}{H:Hp}{s s':Ox}
theorem Inv.env0 (I:Inv X pins σ H s):Env0 X.prog X.w X.K X.mg X.base X.A X.stack s H:=⟨I.ok.frames,I.ok.mod,I.bs,Ld I.ok.bsz I.sz,I.stack,I.stkFree,I.hok,I.bare,I.kt⟩
theorem Inv.after {Q:VK}{u:OA}(I:Inv X pins σ H s)(h:CE X.stack X.prog X.w H s Q u s'):EP X pins σ Q u s':=by obtain⟨v,H',os,bare,un,hok,r,q⟩:=h;obtain⟨hh,g,d,t,os'⟩:=s';obtain rfl:os'=s.os:=os;exact⟨v,H',I.call (h':=hh) (g':=g) (d':=d) (t':=t) (ch:=[]) un hok bare (λb z=>absurd z (by simp)),r,q⟩
end
noncomputable def xx (sp:Sp)(dvs:List V)(E:XK)(t:TA):TE:=λσ H Q=>t σ H λvs H1=>sp (vs++dvs) H1 Q E
def iT (C:Addr)(m:Str)(sp:Sp)(dvs:List V)(E:XK)(ta:TE)(t:TA):TE:=λσ H Q=>ta σ H λx H1=>∃ a dx fs,x=.ref a/\H1 a=some (.ins C dx fs)/\fs.lookup m=none/\
 t σ H1 λvs H2=>sp (x::(vs++dvs)) H2 Q E
def xy (C:Addr)(sp:Sp)(dvs:List V)(E:XK)(t:TA):TE:=λσ H Q=>t σ H λvs H1=>∀ x dx,H1 x=none->H1 dx=none->dx≠x->
 sp (.ref x::(vs++dvs)) (aB (aB H1 dx (.own x)) x (.ins C dx [])) (λv H2=>v=.non/\Q (.ref x) H2) E
def Binds (K:Oy)(fd:FuncData)(ps:List Str)(ds:List OA):Prop:=∀(s:Ox)(us:List OA),K.In s.heap->(us++ds).length=ps.length->BindsTo s fd ⟨us,[]⟩ (ps.zip (us++ds))
theorem Binds.all {K:Oy}{fd:FuncData}{ps:List Str}(h:∀ us:List OA,us.length=ps.length->bindArgs fd ⟨us,[]⟩=pure (ps.zip us)):Binds K fd ps []:=λs us _ hl=>by rw[KM]at hl ⊢;exact .of_eq (h us hl)
def iU (CX:CXT)(X:Cx)(E:XK):Prop:=∀(pins:List (Addr×Obj))(σ:St)(H:Hp)(s:Ox)(e:OA)(s':Ox),Inv X pins σ H s->CX X.stack H s E e s'->X.xe e s'
section
variable {X:Cx}{CX:CXT}{k:Nat}{f C:Addr}{fd:FuncData}{ps:List Str}{sp:Sp}{dvs:List V}{ds:List OA}{E:XK}{x m:Str}{p pos apos:Pos}{e o:Expr}{es:List Expr}{ta:TE}{t:TA}
theorem wd {pins:List (Addr×Obj)}{σ:St}{H:Hp}{s:Ox}{Q:VK}{us:List OA}{vs:List V}(F:FnOk X.prog X.w X.K X.mg X.base CX k f fd ps sp)(hr:Room k X.A)(hb:Binds X.K fd ps ds)(hd:Vals dvs ds)(hx:iU CX X E)
 (I:Inv X pins σ H s) (r:Vals vs us) (h:sp (vs++dvs) H Q E):wpAny (model X.prog X.w) X.A (call (.ref f) us) (EP X pins σ Q) X.xe s:=by
 have r2:Vals (vs++dvs) (us++ds):=r.append hd;have hl:(us++ds).length=ps.length:=by rw[<- r2.length];exact F.len _ _ _ _ h
 refine wpAny_call (codeAny_mono (F.run X.A X.stack s H ⟨us,[]⟩ (us++ds) (vs++dvs) Q E hr I.env0 (hb s us I.kIn hl) r2 h) λr s' hq=>?_);cases r with
 |error e=>exact hx pins σ H s e s' I hq
 |ok fl=>
  cases fl with
  |ret u=>exact I.after hq
  |next=>exact False.elim hq
  |brk=>exact False.elim hq
  |cont=>exact False.elim hq
theorem sF (F:FnOk X.prog X.w X.K X.mg X.base CX k f fd ps sp)(hr:Room k X.A)(hg:Gl X x)(hm:X.mg x=some (.ref f))(hk:PySem.W.keepIn X.K (.ref f)=true)(hb:Binds X.K fd ps ds)(hd:Vals dvs ds)(hx:iU CX X E)
 (ha:PA X (e::es) t) (hdb:autoParam ((x==("__debug__" : Str))=false) OC._auto_1) (he:autoParam (starEach (e::es) X.env=(false,eval e X.env)::starEach es X.env) OH._auto_1) (hpl:autoParam ((backTo pos (starEach es X.env)).any (·.1)=false) OH._auto_1) :
 PE X (.Call (.Name x p) (e::es) [] pos) (xx sp dvs E t):=by
 intro pins s σ H Q I h;refine ME (sD I hg hm ?_ hdb);refine N7 (h₀:=X.base) I.ok.mod.kin hk (bW (ha pos pins s σ H _ I h) λus s1 ⟨vs,H1,I1,r,q⟩=>⟨I1.kIn,?_⟩) he hpl;exact wd F hr hb hd hx I1 r q
theorem iF {pl:Sem Bool}(he:PE X o ta)(c:Cls X.K C)(hm:Meth X.K C m f)(F:FnOk X.prog X.w X.K X.mg X.base CX k f fd ps sp)(hr:Room k X.A)(hb:Binds X.K fd ps ds)(hd:Vals dvs ds)(hx:iU CX X E)(ha:PA X (e::es) t)
 (hst:autoParam (starEach (e::es) X.env=(false,eval e X.env)::starEach es X.env) OH._auto_1) (hpl:autoParam ((backTo pos (starEach es X.env)).any (·.1)=false) OH._auto_1)
 (ht:autoParam (eval (.Call (.Attribute o m apos) (e::es) [] pos) X.env=(do
   let ov <- eval o X.env
   standAt apos.atName
   let (f,first) <- holding [ov] (getMethod ov m pl)
   callWith pos f first (backTo pos (starEach (e::es) X.env)) (backToKw pos (keywordEach [] X.env)))) OH._auto_1) :
 PE X (.Call (.Attribute o m apos) (e::es) [] pos) (iT C m sp dvs E ta t):=by
 intro pins s σ H Q I h;refine PySem.W.methodCall_KW (pl:=pl) (bW (he pins s σ H _ I h) λu s1 ⟨x,H1,I1,rx,a,dx,fs,ex,ea,l,q⟩=>?_) ht;subst ex;obtain rfl:u=Value.ref a:=rx;refine pj I1 ea c hm l ?_;refine N7 (first:=[.ref a]) (h₀:=X.base) I.ok.mod.kin hm.kp (bW (ha pos pins s1 σ H1 _ I1 q) λus s2 ⟨vs,H2,I2,r,q2⟩=>⟨I2.kIn,?_⟩) hst hpl;exact wd (us:=.ref a::us) (vs:=.ref a::vs) F hr hb hd hx I2 (.cons rfl r) q2
theorem pq {pl:Sem Bool}(he:PE X o ta)(c:Cls X.K C)(hm:Meth X.K C m f)(F:FnOk X.prog X.w X.K X.mg X.base CX k f fd ps sp)(hr:Room k X.A)(hb:Binds X.K fd ps ds)(hd:Vals dvs ds)(hx:iU CX X E)
 (ht:autoParam (eval (.Call (.Attribute o m apos) [] [] pos) X.env=(do
   let ov <- eval o X.env
   standAt apos.atName
   let (f,first) <- holding [ov] (getMethod ov m pl)
   callWith pos f first (backTo pos (starEach [] X.env)) (backToKw pos (keywordEach [] X.env)))) OH._auto_1) :
 PE X (.Call (.Attribute o m apos) [] [] pos) (iT C m sp dvs E ta bq):=by
 intro pins s σ H Q I h;refine PySem.W.methodCall_KW (pl:=pl) (bW (he pins s σ H _ I h) λu s1 ⟨x,H1,I1,rx,a,dx,fs,ex,ea,l,q⟩=>?_) ht;subst ex;obtain rfl:u=Value.ref a:=rx;refine pj I1 ea c hm l ?_;exact PySem.W.callWith_K0 (first:=[.ref a]) I1.kIn hm.kp (wd (us:=[.ref a]) (vs:=[.ref a]) F hr hb hd hx I1 (.cons rfl .nil) q)
structure Mk (K:Oy) (C f:Addr):Prop where
 makes:PySem.W.makesIn K C=true
 init:PySem.W.findIn K (.ref C) "__init__"=some (some (.ref f))
 fn:PySem.W.isFn K (.ref f)=true
 kp:PySem.W.keepIn K (.ref C)=true
theorem uk {pins:List (Addr×Obj)}{σ:St}{H:Hp}{s:Ox}{Q:VK}{us:List OA}{vs:List V}(M:Mk X.K C f)(F:FnOk X.prog X.w X.K X.mg X.base CX k f fd ps sp)(hr:Room (k+1) X.A)(hb:Binds X.K fd ps ds)(hd:Vals dvs ds)
 (hx:iU CX X E) (I:Inv X pins σ H s) (r:Vals vs us)
 (h:∀ x dx,H x=none->H dx=none->dx≠x->sp (.ref x::(vs++dvs)) (aB (aB H dx (.own x)) x (.ins C dx [])) (λv H2=>v=.non/\Q (.ref x) H2) E) :
 wpAny (model X.prog X.w) X.A (call (.ref C) us) (EP X pins σ Q) X.xe s:=by
 have hq:=h (s.heap.objs.size+1) s.heap.objs.size (I.hok.fresh (Nat.le_succ _)) (I.hok.fresh (Kq _)) (KR (Nm _));have I2:=Inv.made (C:=C) I;have r2:Vals (V.ref (s.heap.objs.size+1)::(vs++dvs)) (Value.ref (s.heap.objs.size+1)::(us++ds)):=.cons rfl (r.append hd);have hl:(Value.ref (s.heap.objs.size+1)::us++ds).length=ps.length:=by have e:=r2.length;rw[F.len _ _ _ _ hq]at e;exact e.symm
 refine wpAny_call (Ah (f:=f) I.kIn M.makes M.init (NZ.mp M.fn) (codeAny_mono (F.run _ X.stack _ _ ⟨Value.ref (s.heap.objs.size+1)::us,[]⟩ (Value.ref (s.heap.objs.size+1)::(us++ds)) _ _ E (hr.make C us [])
  (I2.env0.make C us []) (hb _ (Value.ref (s.heap.objs.size+1)::us) I2.kIn hl) r2 hq) λr s' hq'=>?_))
 cases r with
 |error e=>exact hx pins σ _ _ e s' I2 hq'
 |ok fl=>
  cases fl with
  |ret u=>obtain⟨v,H',I3,rv,ev,q3⟩:=I2.after hq';subst ev;exact⟨rv,⟨V.ref (s.heap.objs.size+1),H',I3,rfl,q3⟩⟩
  |next=>exact False.elim hq'
  |brk=>exact False.elim hq'
  |cont=>exact False.elim hq'
theorem C1 (M:Mk X.K C f)(F:FnOk X.prog X.w X.K X.mg X.base CX k f fd ps sp)(hr:Room (k+1) X.A)(hg:Gl X x)(hm:X.mg x=some (.ref C))(hb:Binds X.K fd ps ds)(hd:Vals dvs ds)(hx:iU CX X E)
 (ha:PA X (e::es) t) (hdb:autoParam ((x==("__debug__" : Str))=false) OC._auto_1) (he:autoParam (starEach (e::es) X.env=(false,eval e X.env)::starEach es X.env) OH._auto_1) (hpl:autoParam ((backTo pos (starEach es X.env)).any (·.1)=false) OH._auto_1) :
 PE X (.Call (.Name x p) (e::es) [] pos) (xy C sp dvs E t):=by
 intro pins s σ H Q I h;refine ME (sD I hg hm ?_ hdb);refine N7 (h₀:=X.base) I.ok.mod.kin M.kp (bW (ha pos pins s σ H _ I h) λus s1 ⟨vs,H1,I1,r,q⟩=>⟨I1.kIn,?_⟩) he hpl;exact uk M F hr hb hd hx I1 r q
theorem Ai (M:Mk X.K C f)(F:FnOk X.prog X.w X.K X.mg X.base CX k f fd ps sp)(hr:Room (k+1) X.A)(hg:Gl X x)(hm:X.mg x=some (.ref C))(hb:Binds X.K fd ps ds)(hd:Vals dvs ds)(hx:iU CX X E)
 (hdb:autoParam ((x==("__debug__" : Str))=false) OC._auto_1):PE X (.Call (.Name x p) [] [] pos) (xy C sp dvs E bq):=by
 intro pins s σ H Q I h;refine ME (sD I hg hm ?_ hdb);exact PySem.W.callWith_K0 I.kIn M.kp (uk (us:=[]) M F hr hb hd hx I .nil h)
end
def PK (X:Cx)(kws:List Keyword)(t:TA):Prop:=∀(pos:Pos)(pins:List (Addr×Obj))(s:Ox)(σ:St)(H:Hp)(Q:List V->Hp->Prop),Inv X pins σ H s->t σ H Q->wpAny (model X.prog X.w) X.A (evalAll ((backToKw pos (keywordEach kws X.env)).map (·.2))) (AP X pins σ Q) X.xe s
section
variable {X:Cx}{CX:CXT}{k:Nat}{f C:Addr}{fd:FuncData}{ps ks:List Str}{sp:Sp}{E:XK}{x m:Str}{p pos apos kpos:Pos}{e o:Expr}{es:List Expr}{kws:List Keyword}{te ta:TE}{t tk:TA}{nm:Option Str}
theorem FU:PK X [] bq:=λ_ _ _ _ H Q I h=>wpAny_evalAll_nil ⟨[],H,I,.nil,h⟩
theorem C2 (ha:PE X e te)(hr:PK X kws t):PK X (⟨nm,e,kpos⟩::kws) (au te t):=by intro pos pins s σ H Q I h;show wpAny _ _ (evalAll ((do let v <- eval e X.env;standAt pos;pure v)::(backToKw pos (keywordEach kws X.env)).map (·.2))) _ _ s;refine wpAny_evalAll_cons (Kp (bW (ha pins s σ H _ I h) λu s1 ⟨x,H1,I1,r1,q1⟩=>Kp (NW (Kt ?_))));exact bW (hr pos pins s1 σ H1 _ I1 q1) λus s2 ⟨xs,H2,I2,r2,q2⟩=>⟨x::xs,H2,I2,.cons r1 r2,q2⟩
variable {g:List OA->List OA->List OA}{gV:List V->List V->List V}
end
structure FnScope (N P:List Str) (sc:Scope):Prop where
 kind:sc.kind=.function
 co:sc.isCoroutine=false
 gen:sc.isGenerator=false
 nd:N.Nodup
 pre:N.take P.length=P
 par:∀ x∈P,sc.names.lookup x=some .local\/sc.names.lookup x=some .cell
 nofree:∀ y∈sc.names,y.2≠.free
theorem rp {kindOf:Str->Option NameKind}{x:Str}:∀{binds:List (Str×OA)}{m:Str->Option OA},(∀ v,(x,v)∉binds)->bindL kindOf binds m x=m x
 | [],_,_=>rfl
 |(n,v)::r,m,h=>by
  unfold bindL;rw[rp λw hw=>h w (Kx _ hw)];split
  .have:x≠n:=by rintro rfl;exact h v KE
   simp[this]
  .rfl
theorem rq {kindOf:Str->Option NameKind}{x:Str}:∀{binds:List (Str×OA)}{m:Str->Option OA},(∀ v,(x,v)∉binds)->bindC kindOf binds m x=m x
 | [],_,_=>rfl
 |(n,v)::r,m,h=>by
  unfold bindC;rw[rq λw hw=>h w (Kx _ hw)];split
  .rfl
  .have:x≠n:=by rintro rfl;exact h v KE
   simp[this]
theorem rA {kindOf:Str->Option NameKind}{x:Str}{v:OA}:∀{P:List Str}{vs:List OA}{i:Nat}{m:Str->Option OA},P.Nodup->P[i]?=some x->vs[i]?=some v->kindOf x=some .local->
 bindL kindOf (P.zip vs) m x=some v
 | [],_,_,_,_,h,_,_=>by simp at h
 |_::_,[],_,_,_,_,h,_=>by simp at h
 |p::P,w::vs,0,m,nd,h1,h2,hk=>by simp at h1 h2;subst h1;subst h2;show bindL kindOf ((p,w)::P.zip vs) m p=_;unfold bindL;rw[rp λv hv=>(Lj.mp nd).1 (List.of_mem_zip hv).1,Ku hk];simp
 |p::P,w::vs,i+1,m,nd,h1,h2,hk=>by show bindL kindOf ((p,w)::P.zip vs) m x=_;unfold bindL;exact rA (i:=i) (Lj.mp nd).2 (by simpa using h1) (by simpa using h2) hk
theorem rB {kindOf:Str->Option NameKind}{x:Str}{v:OA}:∀{P:List Str}{vs:List OA}{i:Nat}{m:Str->Option OA},P.Nodup->P[i]?=some x->vs[i]?=some v->kindOf x≠some .local->
 bindC kindOf (P.zip vs) m x=some v
 | [],_,_,_,_,h,_,_=>by simp at h
 |_::_,[],_,_,_,_,h,_=>by simp at h
 |p::P,w::vs,0,m,nd,h1,h2,hk=>by simp at h1 h2;subst h1;subst h2;show bindC kindOf ((p,w)::P.zip vs) m p=_;unfold bindC;rw[rq λv hv=>(Lj.mp nd).1 (List.of_mem_zip hv).1,Kv hk];simp
 |p::P,w::vs,i+1,m,nd,h1,h2,hk=>by show bindC kindOf ((p,w)::P.zip vs) m x=_;unfold bindC;exact rB (i:=i) (Lj.mp nd).2 (by simpa using h1) (by simpa using h2) hk
noncomputable def dh (N:List Str)(vs:List V):St:=vs.map some++List.replicate (N.length-vs.length) none
noncomputable def we (CX:CXT)(P:Oz)(w:World)(K:Oy)(mg:Str->Option OA)(base:Heap)(N:List Str)(qual:Str)(scope:Scope)(f:Addr)(cd:OA)(A:OB)(outer:List Env)(s:Ox)(H:Hp)(E:XK):Cx where
 prog:=P
 w:=w
 K:=K
 mg:=mg
 base:=base
 A:=A.deeper (envOfC qual scope s.heap.objs.size f cd)
 N:=N
 s₀:=s
 H₀:=H
 env:=envOfC qual scope s.heap.objs.size f cd
 outer:=outer
 stack:=envOfC qual scope s.heap.objs.size f cd::outer
 ex:=[]
 calm:=true
 fn:=λ_=>true
 pn:=[]
 xe:=λe s'=>wpAny (model P w) (A.deeper (envOfC qual scope s.heap.objs.size f cd)) (leaving (envOfC qual scope s.heap.objs.size f cd) e) (λ_ s''=>CX outer H s E e s'') (λe' s''=>CX outer H s E e' s'') s'
theorem ul {sc:Scope}{n:Nat}{x:Str}(h:sc.names.lookup x=some .cell):∃ c,(cellsFrom n sc.names []).lookup x=some c:=by have q:=PySem.W.cellsFrom_some sc.names n [] (.inl h);exact Nv.mp q
theorem yP {CX:CXT}{P:Oz}{w:World}{K:Oy}{mg:Str->Option OA}{base:Heap}{N ps:List Str}{qual:Str}{scope:Scope}{f:Addr}{cd:OA}{A:OB}{outer:List Env}{s s1:Ox}{H:Hp}{E:XK}{us:List OA}{vs:List V}
 (S:FnScope N ps scope) (hd:A.handled=none) (e0:Env0 P w K mg base A outer s H) (hl:vs.length=ps.length) (r:Vals vs us)
 (x:InCallC s s.heap.objs.size (bindL (envOfC qual scope s.heap.objs.size f cd).kindOf (ps.zip us) λ_=>none) (cellsFrom (s.heap.objs.size+1) scope.names []) (bindC (envOfC qual scope s.heap.objs.size f cd).kindOf (ps.zip us) λ_=>none) s1) :
 Inv (we CX P w K mg base N qual scope f cd A outer s H E) [] (dh N vs) H s1:=by
 have hpl:ps.length<=N.length:=by have:=LA List.length S.pre;rw[MY]at this;lia
 obtain⟨h1,tk,rfl,hk⟩:=x.done;have noA:∀ b:Addr,b∉(we CX P w K mg base N qual scope f cd A outer s H E).ex:=λb z=>absurd (show b∈([]:List Addr) from z) (by simp);refine⟨⟨e0.mod,S.kind,rfl,rfl,Kq _,λy z c h1 h2=>?_,λy hy=>?_,λy c _ h=>?_,λ_=>hd,Around.frames_deeper e0.frames,.inr ⟨rfl,rfl⟩,λb z=>absurd z (noA b),e0.bs,e0.bsz,λb _ _=>noA b,λb z=>absurd z (noA b),e0.funs,e0.frf,e0.kt⟩,
  rfl,e0.bare,Un.kept hk,⟨_,x.toInCall.ns,λi y v h1 h2 h3=>?_⟩,λy c h=>⟨_,x.cell y c h⟩,e0.hok.fresh (Kq _),λy c h=>?_,λp hp=>absurd (show p∈([]:List (Addr×Obj)) from hp) (by simp),e0.hok.kept hk,?_⟩
 .exact name_of_addr x.apart (Mj h1) (Mj h2)
 .have hy:scope.names.lookup y=some .cell\/scope.names.lookup y=some .free:=hy;rcases hy with hy|hy
  .exact ul hy
  .exact absurd rfl (S.nofree _ (Mj hy))
 .exact Ou (x.above y c (Mj h))
 .have hi:i<vs.length:=by
   unfold dh at h2;by_cases hi:i<vs.length
   .exact hi
   .rw[LH (by simpa using hi)]at h2;rw[MR]at h2;split at h2<;>cases h2
  have ha:vs[i]?=some v:=by
   unfold dh at h2;rw[Mn (by simpa using hi),KN]at h2;cases e:vs[i]? with
   |none=>rw[e]at h2;cases h2
   |some a=>rw[e]at h2;cases h2;rfl
  obtain⟨u,hu,rv⟩:=r.get ha;have hp:ps[i]?=some y:=by rw[<- S.pre,List.getElem?_take_of_lt (by lia)];exact h1
  have ndP:ps.Nodup:=by rw[<- S.pre];exact S.nd.sublist (List.take_sublist _ _)
  refine⟨u,rv,?_⟩;rcases S.par y (Ll hp) with k|k
  .exact .inl ⟨k,rA ndP hp hu k⟩
  .obtain⟨c,e⟩:=ul (n:=s.heap.objs.size+1) k;refine .inr ⟨.inl k,c,e,?_⟩;have q:=x.cell y c e;rw[rB ndP hp hu (by show scope.names.lookup y≠_;rw[k];decide)]at q;exact q
 .exact e0.hok.fresh (Ou (x.above y c (Mj h)))
 .unfold dh;show _=N.length;rw[KI,Kw,NP];lia
theorem Hz {CX:CXT}{P:Oz}{w:World}{K:Oy}{mg:Str->Option OA}{base:Heap}{k:Nat}{f:Addr}{name qual:Str}{params:Arguments}{body:List Stmt}{scope:Scope}{dV kV doc pm cdv ct oc:OA}{an od:Option Addr}
 {osl:Array (Option OA)} {N ps:List Str} {sp:Sp} (lk:K.lookup f=some ⟨oc,od,.func (PySem.W.fnOf name qual params body scope dV kV doc pm an cdv ct),osl⟩) (hcd:PySem.W.codeIn K cdv qual=true) (S:FnScope N ps scope)
 (len:∀ vs H Q E,sp vs H Q E->vs.length=ps.length)
 (hbody:∀(A:OB)(outer:List Env)(s:Ox)(H:Hp)(vs:List V)(Q:VK)(E:XK),Room k (A.deeper (envOfC qual scope s.heap.objs.size f cdv))->sp vs H Q E->
   ∃ t,PSs (we CX P w K mg base N qual scope f cdv A outer s H E) body t/\t { nx:=λ_ H'=>Q .non H',rt:=Q } (dh N vs) H) :
 FnOk P w K mg base CX (k+1) f (PySem.W.fnOf name qual params body scope dV kV doc pm an cdv ct) ps sp:=by
 refine⟨len,λA outer s H args us vs Q E hr e0 hb r hsp=>?_⟩;have hl:=len _ _ _ _ hsp;have KX:K.In s.heap:=e0.mod.kin.keeps λb o e=>(e0.bs b o e).1;have lim:s.heap.NoLimit:=e0.mod.nolimit.keeps λb o e=>(e0.bs b o e).1;have hkind:∀ y∈ps.zip us,scope.names.lookup y.1=some .local\/(scope.names.lookup y.1=some .cell/\((cellsFrom (s.heap.objs.size+1) scope.names []).lookup y.1).isSome=true):=λ⟨n,v⟩ hy=>by
  rcases S.par n (List.of_mem_zip hy).1 with q|q
  .exact .inl q
  .exact .inr ⟨q,PySem.W.cellsFrom_some _ _ _ (.inl q)⟩
 refine codeAny_call_function hr.depth (KX _ _ lk) rfl S.co S.gen rfl (PySem.W.codeRec_of KX hcd) (hb _ _ _ _ ?_);refine wpAny_newFunctionEnv_cells S.kind hkind λenv he s1 x=>?_;subst he;refine⟨lim.keeps x.toInCall.keep,codeAny_func ?_⟩;obtain⟨t,ht,hq⟩:=hbody A outer s H vs Q E (hr.deeper _) hsp;have I:Inv (we CX P w K mg base N qual scope f cdv A outer s H E) [] (dh N vs) H s1:=yP S hr.hd e0 hl r x;refine Ms (ht [] s1 (dh N vs) H _ I hq) (λfl s' hs=>?_) λe s' hs=>hs;have fin:∀{σ':St}{H':Hp}{v:V}{u:OA},Inv (we CX P w K mg base N qual scope f cdv A outer s H E) [] σ' H' s'->RelV v u->Q v H'->CE outer P w H s Q u s':=λ{σ' H' v u} J rv q=>⟨v,H',J.os,J.bare,J.base,J.hok,rv,q⟩;cases fl with
 |ret u=>obtain⟨v,σ',H',J,rv,q⟩:=hs;exact fin J rv q
 |next=>obtain⟨σ',H',J,q⟩:=hs;exact fin (v:=V.non) (u:=Value.none) J rfl q
 |brk=>obtain⟨_,_,_,q⟩:=hs;exact False.elim q
 |cont=>obtain⟨_,_,_,q⟩:=hs;exact False.elim q
section
variable {X:Cx}{x:Str}{p pos:Pos}{e:Expr}{es:List Expr}{t:TA}{id T:String}{r:List V->Hp->VK->Prop}
noncomputable def ER (r:List V->Hp->VK->Prop)(t:TA):TE:=λσ H Q=>t σ H λvs H1=>r vs H1 Q
theorem gB (hc:CallR X (.builtin id) r) (hg:Gl X x) (hm:X.mg x=none) (hv:bootBuiltins x=some (.builtin id)) (ha:PA X (e::es) t) (hn:autoParam (x≠"__name__") OC._auto_1) (hdb:autoParam ((x==("__debug__" : Str))=false) OC._auto_1)
 (he:autoParam (starEach (e::es) X.env=(false,eval e X.env)::starEach es X.env) OH._auto_1) (hpl:autoParam ((backTo pos (starEach es X.env)).any (·.1)=false) OH._auto_1):PE X (.Call (.Name x p) (e::es) [] pos) (ER r t):=by
 intro pins s σ H Q I h;refine ME (mY I hg hm hv ?_ hn hdb);exact PyProof.Rows.callWith_builtin1 (bW (ha pos pins s σ H _ I h) λus s1 ⟨vs,H1,I1,r1,q1⟩=>hc pins s1 σ H1 vs us Q I1 r1 q1) he hpl
theorem yQ (hc:CallR X (.type T) r) (hg:Gl X x) (hm:X.mg x=none) (hv:bootBuiltins x=some (.type T)) (ha:PA X (e::es) t) (hn:autoParam (x≠"__name__") OC._auto_1) (hdb:autoParam ((x==("__debug__" : Str))=false) OC._auto_1)
 (he:autoParam (starEach (e::es) X.env=(false,eval e X.env)::starEach es X.env) OH._auto_1) (hpl:autoParam ((backTo pos (starEach es X.env)).any (·.1)=false) OH._auto_1):PE X (.Call (.Name x p) (e::es) [] pos) (ER r t):=by
 intro pins s σ H Q I h;refine ME (mY I hg hm hv ?_ hn hdb);exact M9 (bW (ha pos pins s σ H _ I h) λus s1 ⟨vs,H1,I1,r1,q1⟩=>hc pins s1 σ H1 vs us Q I1 r1 q1) he hpl
end
end L2
namespace HT
open PySem PyProof.Rows
noncomputable def lexLt:List Int->List Int->Bool
 | [],[]=>false
 | [],_::_=>true
 |_::_,[]=>false
 |x::xs,y::ys=>if x=y then lexLt xs ys else decide (x<y)
theorem wf (x y:Int)(xs ys:List Int):lexLt (x::xs) (y::ys)=if x=y then lexLt xs ys else decide (x<y):=rfl
theorem qO:lexLt [] []=false:=rfl
theorem pw (y:Int)(ys:List Int):lexLt [] (y::ys)=true:=rfl
theorem pz (x:Int)(xs:List Int):lexLt (x::xs) []=false:=rfl
theorem Aj (A:OB)(s:Ox)(a:Int)(t:Tok)(c:Int)(u:Tok):∃ e,SeqAt.EqAt A s (.int a t) (.int c u) e/\(e=true↔a=c):=⟨(a==c),SeqAt.EqAt.int_int a t c u,by simp⟩
theorem rcLt_int (A:OB)(s:Ox)(a:Int)(t:Tok)(c:Int)(u:Tok)(prog:Oz)(w:World)(E:OA->Ox->Prop)(Q:OA->Ox->Prop)(h:Q (.bool (decide (a<c))) s) :
 wpAny (model prog w) A (richCompare .Lt (.int a t) (.int c u)) Q E s:=
 (PyProof.Rows.lt_int h:wpAny (model prog w) A (compareOp .Lt (.int a t) (.int c u)) Q E s)
section
open PySem.SeqAt
open PySem.AutoSeq1 (wpAny_loadPart')
open PySem.MeetsSeq PySem.MeetsSeq2 PySem.MeetsSeq3
theorem qP (l b:Addr)(items items2:Array OA)(n n2:Nat)(dd dd2:Option Addr)(sl sl2:Array (Option OA))(ns ms:List Int)(hi:IntsAre items.toList ns)(hj:IntsAre items2.toList ms) :
 Meets (Builtin.«tuple.__lt__» ⟨[.ref l,.ref b],[]⟩)
  (λ_ R s=>s.heap.get? l=some { cls:=.type "tuple",dict:=dd,data:=.seq items n,slots:=sl }/\s.heap.get? b=some { cls:=.type "tuple",dict:=dd2,data:=.seq items2 n2,slots:=sl2 }/\
    R (.ok (.ret (.bool (lexLt ns ms)))) s):=
 .of_wp λprog w A R s h=>by
  obtain⟨hp,g,d,tk,os⟩:=s;obtain⟨hl,hb,h⟩:=h;have f2:=AutoSeq1.sub_tuple_tuple;have z1:items.size=ns.length:=by rw[<- hi.length];simp
  have z2:items2.size=ms.length:=by rw[<- hj.length];simp
  wp_walk using wpAny_loadPart' hl,wpAny_loadPart' hb,wpAny_forIn_list _ (λrest b s'=>b.1=none/\s'=⟨hp,g,d,tk,os⟩/\∃(vs ws:List OA)(ns' ms':List Int),rest=vs.zip ws/\
   IntsAre vs ns'/\IntsAre ws ms'/\ns'.length+items2.size=ms'.length+items.size/\R (.ok (.ret (.bool (lexLt ns' ms')))) ⟨hp,g,d,tk,os⟩) _
  case turn=>
   rintro⟨y,x⟩ rest b s' ⟨hb',rfl,vs,ws,ns',ms',hz,hvi,hwi,aR,hR⟩;cases hvi with
   |nil=>rw[List.zip_nil_left]at hz;cases hz
   |cons a t hvi'=>
    cases hwi with
    |nil=>rw[List.zip_nil_right]at hz;cases hz
    |cons c u hwi'=>
     rw[N8]at hz;injection hz with hyx hrest;injection hyx with hy hx;subst hy hx;rw[wf]at hR;simp only[Ky]at aR;obtain⟨e,he,hiff⟩:=Aj A.in1 ⟨hp,g,d,tk,os⟩ a t c u;refine Kp (he prog w _ _ ?_);cases e with
     |true=>
      rw[Ku (hiff.mp rfl)]at hR
      wp_walk
      exact⟨rfl,rfl,_,_,_,_,hrest,hvi',hwi',by lia,hR⟩
     |false=>
      rw[Kv (λq=>absurd (hiff.mpr q) K5)]at hR;have hri:=rcLt_int A.in1 ⟨hp,g,d,tk,os⟩ a t c u prog w
      wp_walk using hri
      exact⟨_,rfl,by simpa using hR⟩
  case fin=>
   rintro⟨b1,b2⟩ s' ⟨hb',rfl,vs,ws,ns',ms',hz,hvi,hwi,aR,hR⟩;simp only at hb';subst hb';have hv:lexLt ns' ms'=decide (items.size<items2.size):=by
    cases hvi with
    |nil=>
     cases hwi with
     |nil=>simp only[KO]at aR;rw[qO];exact(KL (by lia)).symm
     |cons c u hw=>simp only[KO,Ky]at aR;rw[pw];exact(Kz (by lia)).symm
    |cons a t hv=>
     cases hwi with
     |nil=>simp only[KO,Ky]at aR;rw[pz];exact(KL (by lia)).symm
     |cons c u hw=>rw[N8]at hz;cases hz
   rw[hv]at hR
   wp_walk
   exact⟨_,rfl,by simpa[Builtin.Tuple.tupleCompareSizes] using hR⟩
  case h=>exact⟨rfl,rfl,items.toList,items2.toList,ns,ms,rfl,hi,hj,by lia,h⟩
end
section
variable {prog:Oz}{w:World}{A:OB}{E:OA->Ox->Prop}{s:Ox}
theorem lt_tupInts {l b:Addr}{items items2:Array OA}{ns ms:List Int}{Q:OA->Ox->Prop}(hl:IsTup s.heap l items)(hb:IsTup s.heap b items2)(hi:IntsAre items.toList ns)(hj:IntsAre items2.toList ms)
 (hu:A.units<cLine) (h:Q (.bool (lexLt ns ms)) s):wpAny (model prog w) A (compareOp .Lt (.ref l) (.ref b)) Q E s:=by
 obtain⟨⟨cls,dd,data,sl⟩,ho,hc,n,hd⟩:=id hl;obtain⟨⟨cls2,dd2,data2,sl2⟩,ho2,hc2,n2,hd2⟩:=id hb;simp only at hc hd hc2 hd2;subst hc hd hc2 hd2;exact richCompare_meets_room (op:=.Lt) ⟨_,ho,rfl⟩ ⟨_,ho2,rfl⟩ PySem.F.slot_tuple_lt PySem.F.entry_tuple_lt (PySem.F.args_tuple_lt_2 _ _) (qP l b items items2 n n2 dd dd2 sl sl2 ns ms hi hj)
  ⟨ho,ho2,show Value.bool (lexLt ns ms)≠Value.notImplemented/\Q (.bool (lexLt ns ms)) s from⟨(λx=>nomatch x),h⟩⟩ hu
theorem cat_tup {t b:Addr}{vs ws:List OA}{Q:OA->Ox->Prop}(ht:IsTup s.heap t vs.toArray)(hb:IsTup s.heap b ws.toArray)(hv:vs≠[])
 (h1:ws=[]->Q (.ref t) s) (h2:ws≠[]->Q (.ref s.heap.objs.size) { s with heap:=s.heap.push { cls:=.type "tuple",data:=.seq (vs++ws).toArray } })
 (hsz:vs.length+ws.length<=sizeLine):wpAny (model prog w) A (binaryOp .Add (.ref t) (.ref b)) Q E s:=by
 obtain⟨⟨cls,dd,data,sl⟩,ho,hc,n,hd⟩:=id ht;obtain⟨⟨cls2,dd2,data2,sl2⟩,ho2,hc2,n2,hd2⟩:=id hb;simp only at hc hd hc2 hd2;subst hc hd hc2 hd2;have e:vs.toArray++ws.toArray=(vs++ws).toArray:=by simp
 by_cases hw:ws=[]
 .exact concat_meets ⟨_,ho,rfl⟩ ⟨_,ho2,rfl⟩ noFill_tuple_add seq_tuple_add PySem.F.slot_tuple_add PySem.F.entry_tuple_add (PySem.F.args_tuple_add_2 _ _)
   (tuple_addW1 t b vs.toArray ws.toArray n n2 dd dd2 sl sl2 (by simpa using hv) (by simp[hw])) ⟨ho,ho2,h1 hw⟩
 .refine concat_meets ⟨_,ho,rfl⟩ ⟨_,ho2,rfl⟩ noFill_tuple_add seq_tuple_add PySem.F.slot_tuple_add PySem.F.entry_tuple_add (PySem.F.args_tuple_add_2 _ _)
   (tuple_addW2 t b vs.toArray ws.toArray n n2 dd dd2 sl sl2 (by simpa using hv) (by simpa using hw) (by rw[KC,KC];exact hsz)) ⟨ho,ho2,?_⟩
  rw[e];exact h2 hw
noncomputable def sIx (n d:Nat):Option Int->Nat
 |none=>d
 |some v=>if v<0 then (v+(n:Int)).toNat else min v.toNat n
theorem FV (n d:Nat)(hd:d<=n)(o:Option Int):sIx n d o<=n:=by
 cases o with
 |none=>exact hd
 |some v=>
  show(if v<0 then (v+(n:Int)).toNat else min v.toNat n)<=n;by_cases hv:v<0
  .rw[Ku hv];lia
  .rw[Kv hv];exact Nat.min_le_right _ _
theorem xA (v:Int)(n d:Nat):(if v<0 then max (v+(n:Int)) 0 else min v (n:Int))=((sIx n d (some v):Nat):Int):=by
 show(if v<0 then max (v+(n:Int)) 0 else min v (n:Int))=(((if v<0 then (v+(n:Int)).toNat else min v.toNat n):Nat):Int);by_cases hv:v<0
 .simp only[Ku hv];lia
 .simp only[Kv hv];lia
theorem wg (lo hi:Option Int)(n:Nat):Builtin.Slice.sliceAdjust lo hi 1 (n:Int)=(((sIx n 0 lo:Nat):Int),((sIx n n hi:Nat):Int)):=by
 have h1:¬ ((1:Int)<0):=by lia
 unfold Builtin.Slice.sliceAdjust;simp only[h1,Nd];refine Nf ?_ ?_
 .cases lo with
  |none=>rfl
  |some v=>exact xA v n 0
 .cases hi with
  |none=>rfl
  |some v=>exact xA v n n
theorem wl (i j:Nat):Builtin.Slice.slicePlaces (i:Int) (j:Int) 1=j-i:=by
 unfold Builtin.Slice.slicePlaces;have h1:(1:Int)>0:=by lia
 simp only[h1,MS,Int.ediv_one];split<;>lia
theorem pA {v:OA}{o:Option Int}{Q:Option Int->Ox->Prop}(p:IsPart v o)(h:Q o s):wpAny (model prog w) A (Builtin.Slice.slicePartIndex v) Q E s:=by
 cases p with
 |none=>exact slicePart_none h
 |int i t=>exact slicePart_int h
theorem sliceApplied_gen {sl:Addr}{vl vu:OA}{lo hi:Option Int}{n:Nat}{Q:Int×Int×Nat->Ox->Prop}(hs:s.heap.IsSliceOf sl vl vu .none)(pl:IsPart vl lo)(pu:IsPart vu hi)
 (h:Q (((sIx n 0 lo:Nat):Int),1,sIx n n hi-sIx n 0 lo) s):wpAny (model prog w) A (Builtin.Slice.sliceApplied (.ref sl) (pure (n:Int))) Q E s:=by
 obtain⟨os,hos,hcs,hds⟩:=id hs;unfold Builtin.Slice.sliceApplied Builtin.Slice.sliceFields;refine Kp (Kp (NK hos hds (x:=vl) rfl (Kp (NK hos hds (x:=vu) rfl (Kp (NK hos hds (x:=.none) rfl (Kt ?_)))))));refine Kp (slicePart_none ?_);show wpAny _ _ (if ((1:Int)==0)=true then _ else _) _ _ s;rw[Kv (by decide)];refine Kp (pA pl (Kp (pA pu (Kp (Kt ?_)))));show wpAny _ _ (match Builtin.Slice.sliceAdjust lo hi 1 (n:Int) with|(lo,hi)=>pure (lo,(1:Int),Builtin.Slice.slicePlaces lo hi 1)) _ _ s;rw[wg lo hi n];show wpAny _ _ (pure (((sIx n 0 lo:Nat):Int),(1:Int),Builtin.Slice.slicePlaces ((sIx n 0 lo:Nat):Int) ((sIx n n hi:Nat):Int) 1)) _ _ s;rw[wl];exact Kt h
theorem Ak (xs:Array OA)(i k:Nat):((List.range k).filterMap λ(m:Nat)=>xs[((i:Int)+(m:Int)*1).toNat]?).toArray=((xs.toList.drop i).take k).toArray:=by
 have e:(λ(m:Nat)=>xs[((i:Int)+(m:Int)*1).toNat]?)=λm=>xs[i+m]?:=by
  funext m;have:((i:Int)+(m:Int)*1).toNat=i+m:=by lia
  rw[this]
 rw[e];have:=pick_run xs i k;rw[List.filterMap_map]at this;have e2:((λx=>xs[x]?) ∘ λx=>i+x)=λm=>xs[i+m]?:=rfl;rw[e2]at this;rw[this]
theorem getItem_tuple_cut {t sl:Addr}{items:Array OA}{vl vu:OA}{lo hi:Option Int}{Q:OA->Ox->Prop}(ht:IsTup s.heap t items)(hs:s.heap.IsSliceOf sl vl vu .none)(pl:IsPart vl lo)(pu:IsPart vu hi)
 (hw:¬ (sIx items.size 0 lo=0/\sIx items.size items.size hi=items.size))
 (h:Q (.ref s.heap.objs.size) { s with heap:=s.heap.push { cls:=.type "tuple",data:=.seq ((items.toList.drop (sIx items.size 0 lo)).take (sIx items.size items.size hi-sIx items.size 0 lo)).toArray } })
 (hsz:items.size<=sizeLine):wpAny (model prog w) A (getItem (.ref t) (.ref sl)) Q E s:=by
 have htake:sizeOk (.seq ((items.toList.drop (sIx items.size 0 lo)).take (sIx items.size items.size hi-sIx items.size 0 lo)).toArray):=by show((items.toList.drop (sIx items.size 0 lo)).take (sIx items.size items.size hi-sIx items.size 0 lo)).toArray.size<=sizeLine;rw[KC,MY,Ol,Np];lia
 have hj:sIx items.size items.size hi<=items.size:=FV _ _ (Kq _) hi;obtain⟨os,hos,hcs,hds⟩:=id hs;have hTs:s.TypeIs (.ref sl) "slice":=⟨os,hos,hcs⟩;unfold getItem
 try with_reducible refine Mo ?_
 first|refine Kp (Kt ?_)|skip
 refine Kp (wpAny_sequenceKey ht.typeIs (by decide) ?_);refine Kp (MT (name:=Str.ofString "__getitem__") ht.typeIs LG
  (L5 LG ht.typeIs entry_tuple_getitem ?_ (args_tuple_getitem _ _)))
 show wpAny _ _ (Builtin.Tuple.tupleItemsOf (.ref t) >>= _) _ _ s;refine Kp (tupleItemsOf_ ht ?_);refine Kp (N9 hTs ?_);rw[Ku (by decide)];refine Kp (sliceApplied_gen hs pl pu ?_);have hno:¬ ((((sIx items.size 0 lo:Nat):Int)==0&&(1:Int)==1&&(sIx items.size items.size hi-sIx items.size 0 lo)==items.size)=true):=by intro q;rw[Ln,Ln]at q;have q1:((sIx items.size 0 lo:Nat):Int)=0:=eq_of_beq q.1.1;have q2:sIx items.size items.size hi-sIx items.size 0 lo=items.size:=eq_of_beq q.2;exact hw ⟨by lia,by lia⟩
 show wpAny _ _ (if (((sIx items.size 0 lo:Nat):Int)==0&&(1:Int)==1&&(sIx items.size items.size hi-sIx items.size 0 lo)==items.size)=true then _ else _) _ _ s;rw[Kv hno,Ak]
 first
  |exact Kp (m:=Builtin.Tuple.tupleExact _) (LL (Kt ⟨_,rfl,Kt h⟩) htake)
  |exact Kp (m:=Builtin.Tuple.tupleExact _) (LL (Kp (Kt (Kt ⟨_,rfl,Kt h⟩))) htake)
  |exact Kp (Kp (m:=Builtin.Tuple.tupleExact _) (LL (Kt (Kt ⟨_,rfl,Kt h⟩)) htake))
  |exact Kp (Kp (m:=Builtin.Tuple.tupleExact _) (LL (Kt ⟨_,rfl,Kt h⟩) htake))
end
end HT
namespace L2
open PySem PySem.Spec PyProof.Rows
abbrev TO:=St->Hp->(Option Int->Hp->Prop)->Prop
def PO (X:Cx)(e:Option Expr)(t:TO):Prop:=
 ∀(pins:List (Addr×Obj))(s:Ox)(σ:St)(H:Hp)(Q:Option Int->Hp->Prop),Inv X pins σ H s->t σ H Q->
  wpAny (model X.prog X.w) X.A (evalPart e X.env) (λu s'=>∃ o H',Inv X pins σ H' s'/\IsPart u o/\Q o H') X.xe s
noncomputable def C3:TO:=λ_ H Q=>Q none H
noncomputable def HA (t:TE):TO:=λσ H Q=>t σ H λx H1=>∃ i,x=.int i/\Q (some i) H1
theorem pB {ns:List Int}:∀{us:List OA},Vals (ns.map V.int) us->IntsAre us ns:=by
 induction ns with
 |nil=>intro us r;rw[K_]at r;cases r;exact .nil
 |cons n ns ih=>
  intro us r;rw[Kr]at r;cases r with
  |cons r1 r2=>obtain⟨t,e⟩:=r1;subst e;exact .cons n t (ih r2)
section
variable {X:Cx}{e:Expr}{te:TE}{lo hi:Option Expr}{tl th:TO}{pos p2:Pos}
theorem C4:PO X none C3:=by intro pins s σ H Q I h;rw[evalPart_none];exact Kt ⟨none,H,I,.none,h⟩
theorem C5 (h:PE X e te):PO X (some e) (HA te):=by intro pins s σ H Q I hw;rw[evalPart_some];refine bW (h pins s σ H _ I hw) λu s1 ⟨x,H1,I1,r1,q1⟩=>?_;obtain⟨i,rfl,q⟩:=q1;obtain⟨t,rfl⟩:=r1;exact⟨some i,H1,I1,.int i t,q⟩
def SlR (X:Cx)(r:V->Option Int->Option Int->Hp->VK->Prop):Prop:=
 ∀(pins:List (Addr×Obj))(s:Ox)(σ:St)(H:Hp)(x:V)(v vl vu:OA)(lo hi:Option Int)(sl:Addr)(Q:VK),Inv X pins σ H s->RelV x v->s.heap.IsSliceOf sl vl vu .none->IsPart vl lo->IsPart vu hi->r x lo hi H Q->
  ∃ T id,typeLookup (.type T) "__getitem__"=pure (some (.builtin id))/\s.TypeIs v T/\wpAny (model X.prog X.w) X.A (getItem v (.ref sl)) (EP X pins σ Q) X.xe s
theorem SlR.or {r r':V->Option Int->Option Int->Hp->VK->Prop}(h:SlR X r)(h':SlR X r'):SlR X (λx lo hi H Q=>r x lo hi H Q\/r' x lo hi H Q):=by
 intro pins s σ H x v vl vu lo hi sl Q I rx hs pl pu q;rcases q with q|q
 .exact h pins s σ H x v vl vu lo hi sl Q I rx hs pl pu q
 .exact h' pins s σ H x v vl vu lo hi sl Q I rx hs pl pu q
noncomputable def Ke (r:V->Option Int->Option Int->Hp->VK->Prop)(te:TE)(tl th:TO):TE:=λσ H Q=>te σ H λx H1=>tl σ H1 λl H2=>th σ H2 λu H3=>r x l u H3 Q
theorem Al {r:V->Option Int->Option Int->Hp->VK->Prop}(hr:SlR X r)(he:PE X e te)(hl:PO X lo tl)(hu:PO X hi th):PE X (.Subscript e (.Slice lo hi none p2) pos) (Ke r te tl th):=by intro pins s σ H Q I h;refine Subscript_ (bW (he pins s σ H _ I h) λv s1 ⟨x,H1,I1,r1,q1⟩=>?_);refine wpAny_Slice (bW (hl pins s1 σ H1 _ I1 q1) λvl s2 ⟨l,H2,I2,pl,q2⟩=>bW (hu pins s2 σ H2 _ I2 q2) λvu s3 ⟨u,H3,I3,pu,q3⟩=>?_);rw[evalPart_none];refine Kt ?_;have I4:Inv X pins σ H3 { s3 with heap:=s3.heap.push { cls:=.type "slice",data:=.fields #[vl,vu,.none] } }:=I3.kept (t':=s3.toks) λb ob q=>Ks _ q;obtain⟨T,id,hT,ht,hg⟩:=hr pins { s3 with heap:=s3.heap.push { cls:=.type "slice",data:=.fields #[vl,vu,.none] } } σ H3 x v vl vu l u s3.heap.objs.size Q I4 r1 (Heap.IsSliceOf.new ..) pl pu q3;show wpAny (model X.prog X.w) X.A (subscriptTail e (.Slice lo hi none p2) v (.ref s3.heap.objs.size)) (EP X pins σ Q) X.xe { s3 with heap:=s3.heap.push { cls:=.type "slice",data:=.fields #[vl,vu,.none] } };exact tail_any (ops:=[.ref s3.heap.objs.size,v]) ht hT hg (by with_unfolding_all rfl)
def um (xs:List V)(lo hi:Option Int):List V:=(xs.drop (HT.sIx xs.length 0 lo)).take (HT.sIx xs.length xs.length hi-HT.sIx xs.length 0 lo)
theorem nY (xs:List V)(lo hi:Option Int):(um xs lo hi).length<=xs.length:=by unfold um;rw[MY,Ol];lia
def JC (K:Oy):V->Option Int->Option Int->Hp->VK->Prop:=λx lo hi H Q=>∃ a xs,x=.ref a/\SqT K H a xs/\
 ¬ (HT.sIx xs.length 0 lo=0/\HT.sIx xs.length xs.length hi=xs.length)/\∀ p,H p=none->Q (.ref p) (aB H p (.tup (um xs lo hi)))
theorem sl_tup:SlR X (JC X.K):=by
 intro pins s σ H x v vl vu lo hi sl Q I rx hs pl pu h;obtain⟨a,xs,rfl,hx,hw,q⟩:=h;cases rx;obtain⟨its,r,ht,hz⟩:=I.tuple hx;have aR:its.toArray.size=xs.length:=by rw[KC];exact r.length.symm
 refine⟨"tuple",_,LG.lookup,ht.typeIs,?_⟩;refine HT.getItem_tuple_cut ht hs pl pu (by rw[aR];exact hw) ?_ (by rw[aR];exact hz);rw[aR];refine⟨.ref s.heap.objs.size,_,I.laid (t':=s.toks) (o:=.tup (um xs lo hi)) (λb ob q=>Ks _ q) (Kq _) ?_,rfl,q _ (I.hok.fresh (Kq _))⟩;exact⟨Ld (nY xs lo hi) hz,_,(r.drop (HT.sIx xs.length 0 lo)).take (HT.sIx xs.length xs.length hi-HT.sIx xs.length 0 lo),IsTup.new _ _⟩
def HB (K:Oy):R2:=λx y H Q=>∃ a b xs ys,x=.ref a/\y=.ref b/\SqT K H a xs/\SqT K H b ys/\xs≠[]/\xs.length+ys.length<=sizeLine/\
 (ys=[]->Q (.ref a) H)/\(ys≠[]->∀ p,H p=none->Q (.ref p) (aB H p (.tup (xs++ys))))
theorem Vals.nil_iff {xs:List V}{us:List OA}(r:Vals xs us):us=[]↔xs=[]:=by
 cases r with
 |nil=>simp
 |cons _ _=>simp
theorem op_catT:OpR X (binaryOp .Add) (HB X.K):=by intro pins s σ H x y v u Q I rx ry h;obtain⟨a,b,xs,ys,rfl,rfl,ha,hb,hx,hz,q1,q2⟩:=h;cases rx;cases ry;obtain⟨its,r1,p1,_⟩:=I.tuple ha;obtain⟨its2,r2,p2,_⟩:=I.tuple hb;refine HT.cat_tup p1 p2 (λz=>hx (r1.nil_iff.mp z)) (λz=>⟨.ref a,H,I,rfl,q1 (r2.nil_iff.mp z)⟩) (λz=>?_) (by rw[<- r1.length,<- r2.length];exact hz);refine⟨.ref s.heap.objs.size,_,I.laid (t':=s.toks) (o:=.tup (xs++ys)) (λb ob q=>Ks _ q) (Kq _) ?_,rfl,q2 (λw=>z (r2.nil_iff.mpr w)) _ (I.hok.fresh (Kq _))⟩;exact⟨by rw[KI];exact hz,_,r1.append r2,IsTup.new _ _⟩
end
noncomputable def yR (n:Nat)(i:Int):Option Nat:=if 0<=i then (if i<n then some i.toNat else none) else if -(n:Int)<=i then some (i+n).toNat else none
def atI {α:Type}(xs:List α)(i:Int):Option α:=(yR xs.length i).bind λj=>xs[j]?
theorem C6 {n:Nat}{i:Int}{j:Nat}(h:yR n i=some j):seqIndex? i n=some j/\j<n/\-(n:Int)<=i/\i<n:=by
 unfold yR at h;by_cases h0:0<=i
 .rw[Ku h0]at h;by_cases h1:i<n
  .rw[Ku h1]at h;have e:i.toNat=j:=La h;exact⟨by rw[seqIndex_of h0 h1,e],by lia,by lia,h1⟩
  .rw[Kv h1]at h;cases h
 .rw[Kv h0]at h;by_cases h1:-(n:Int)<=i
  .rw[Ku h1]at h;have e:(i+n).toNat=j:=La h;exact⟨by rw[seqIndex_neg (by lia) h1,e],by lia,h1,by lia⟩
  .rw[Kv h1]at h;cases h
theorem sG {α:Type}{xs:List α}{i:Int}{v:α}(h:atI xs i=some v):∃ j,seqIndex? i xs.length=some j/\xs[j]?=some v/\j<xs.length/\-(xs.length:Int)<=i/\i<xs.length:=by
 unfold atI at h;cases e:yR xs.length i with
 |none=>rw[e]at h;cases h
 |some j=>rw[e]at h;obtain⟨h1,h2,h3,h4⟩:=C6 e;exact⟨j,h1,h,h2,h3,h4⟩
theorem xB {α:Type}{xs:List α}{j:Nat}{v:α}(h:xs[j]?=some v):atI xs (j:Int)=some v:=by
 have hj:j<xs.length:=(KA.mp h).1;have e:yR xs.length (j:Int)=some j:=by unfold yR;rw[Ku (by lia),Ku (by lia)];simp
 unfold atI;rw[e];exact h
def sH (b:Expr):Prop:=∀ o i,subscripted b false o i=operate [o,i] (getItem o i)
def IxR (X:Cx)(r:R2):Prop:=
 ∀(value slice:Expr)(pins:List (Addr×Obj))(s:Ox)(σ:St)(H:Hp)(x y:V)(v u:OA)(Q:VK),Inv X pins σ H s->RelV x v->RelV y u->r x y H Q->
  subscripted slice false v u=operate [v,u] (getItem v u)->wpAny (model X.prog X.w) X.A (subscriptTail value slice v u) (EP X pins σ Q) X.xe s
def FW (X:Cx)(id:String)(r:V->List V->Hp->VK->Prop):Prop:=
 ∀(pins:List (Addr×Obj))(s:Ox)(σ:St)(H:Hp)(x:V)(xs:List V)(v:OA)(us:List OA)(Q:VK),Inv X pins σ H s->RelV x v->Vals xs us->r x xs H Q->
  wpAny (model X.prog X.w) X.A (call (.builtin id) (v::us)) (EP X pins σ Q) X.xe s
section
variable {X:Cx}{a b:Expr}{ta tb:TE}{pos:Pos}
theorem IxR.or {r r':R2}(h:IxR X r)(h':IxR X r'):IxR X (λx y H Q=>r x y H Q\/r' x y H Q):=by
 intro value slice pins s σ H x y v u Q I rx ry q hs;rcases q with q|q
 .exact h value slice pins s σ H x y v u Q I rx ry q hs
 .exact h' value slice pins s σ H x y v u Q I rx ry q hs
theorem bU {r:R2}(hr:IxR X r)(ha:PE X a ta)(hb:PE X b tb)(hs:sH b):PE X (.Subscript a b pos) (m5 r ta tb):=by intro pins s σ H Q I h;exact Subscript_ (FK ha hb I h λv u s2 x y H2 I2 rx ry q=>hr a b pins s2 σ H2 x y v u Q I2 rx ry q (hs _ _))
def FX (K:Oy):R2:=λx y H Q=>∃ p xs i v,x=.ref p/\y=.int i/\SqL K H p xs/\atI xs i=some v/\Q v H
def qQ (K:Oy):R2:=λx y H Q=>∃ p xs i v,x=.ref p/\y=.int i/\SqT K H p xs/\atI xs i=some v/\Q v H
def HC:R2:=λx y H Q=>∃ z i c,x=.str z/\y=.int i/\z.length<=sizeLine/\atI z.cps.toList i=some c/\Q (.str ⟨#[c]⟩) H
theorem ix_list:IxR X (FX X.K):=by
 intro value slice pins s σ H x y v u Q I rx ry h hs;obtain⟨p,xs,i,z,rfl,rfl,hq,he,q⟩:=h;cases rx;obtain⟨t,rfl⟩:=ry;obtain⟨its,r,pl,hz⟩:=I.list hq;obtain⟨j,h1,h2,h3,h4,h5⟩:=sG he;obtain⟨w,ew,rw'⟩:=r.get h2;have hl:=r.length;have hn:=m6;have fin:EP X pins σ Q w s:=⟨z,H,I,rw',q⟩;by_cases h0:0<=i
 .have hj:i.toNat=j:=by rw[seqIndex_of h0 h5]at h1;exact La h1
  exact item_listR pl.isList h0 (by lia) (by rw[hj];simpa using ew) fin hs
 .have hj:(i+(its.toArray.size:Int)).toNat=j:=by rw[seqIndex_neg (by lia) h4]at h1;rw[KC,<- hl];exact La h1
  exact subscriptTail_builtinR (x:=w) pl.isList.typeIs slot_list_getitem.lookup
   (wpAny_getItem_list_neg (Q:=λr s'=>r=w/\EP X pins σ Q r s') pl.isList (by lia) (by rw[KC]<;>lia) (by lia) (by rw[hj];simpa using ew) ⟨rfl,fin⟩) hs
theorem ix_tup:IxR X (qQ X.K):=by
 intro value slice pins s σ H x y v u Q I rx ry h hs;obtain⟨p,xs,i,z,rfl,rfl,hq,he,q⟩:=h;cases rx;obtain⟨t,rfl⟩:=ry;obtain⟨its,r,pl,hz⟩:=I.tuple hq;obtain⟨j,h1,h2,h3,h4,h5⟩:=sG he;obtain⟨w,ew,rw'⟩:=r.get h2;have hl:=r.length;have hn:=m6;have fin:EP X pins σ Q w s:=⟨z,H,I,rw',q⟩;exact subscriptTail_builtinR (x:=w) pl.typeIs slot_tuple_getitem.lookup
  (getItem_tuple (j:=j) (Q:=λr s'=>r=w/\EP X pins σ Q r s') pl (by lia) (by lia) (by rw[KC,<- hl];exact h1) (by simpa using ew) ⟨rfl,fin⟩) hs
theorem FY:IxR X HC:=by
 intro value slice pins s σ H x y v u Q I rx ry h hs;obtain⟨z,i,c,rfl,rfl,hz,he,q⟩:=h;obtain⟨t,rfl⟩:=rx;obtain⟨t',rfl⟩:=ry;obtain⟨j,h1,h2,h3,h4,h5⟩:=sG he;have hl:z.cps.toList.length=z.length:=by simp[Str.length]
 rw[hl]at h1 h4 h5;have hn:=m6;exact tail_any (typeIs_str s z t) slot_str_getitem.lookup (getItem_str (c:=c) (by have e1:decide (i < -(2 ^ 63:Int))=false:=KL (by lia);have e2:decide (i>=2 ^ 63)=false:=KL (by lia);rw[e1,e2,Bool.or_false]) (by rw[h1];simpa using h2) ⟨.str ⟨#[c]⟩,H,I.tok _,⟨_,rfl⟩,q⟩) hs
def Kf (K:Oy):R2:=λx y H Q=>FX K x y H Q\/qQ K x y H Q\/HC x y H Q
theorem FZ:IxR X (Kf X.K):=ix_list.or (ix_tup.or FY)
theorem sI (lo hi:Option Int)(n:Nat):(sliceBounds lo hi none n).1=((HT.sIx n 0 lo:Nat):Int)/\(sliceBounds lo hi none n).2.1=((HT.sIx n n hi:Nat):Int)/\(sliceBounds lo hi none n).2.2=1:=by
 refine⟨?_,?_,rfl⟩
 .cases lo with
  |none=>simp[sliceBounds,HT.sIx]
  |some i=>
   simp only[sliceBounds,HT.sIx,Option.getD_none,show(1:Int)>0 by decide,MS];by_cases h:i<0
   .simp only[h,MS]<;>lia
   .simp only[h,Nd]<;>lia
 .cases hi with
  |none=>simp[sliceBounds,HT.sIx]
  |some i=>
   simp only[sliceBounds,HT.sIx,Option.getD_none,show(1:Int)>0 by decide,MS];by_cases h:i<0
   .simp only[h,MS]<;>lia
   .simp only[h,Nd]<;>lia
theorem qR (its:List OA)(lo hi:Option Int):slicePick its.toArray lo hi none=((its.drop (HT.sIx its.length 0 lo)).take (HT.sIx its.length its.length hi-HT.sIx its.length 0 lo)).toArray:=by obtain⟨h1,h2,h3⟩:=sI lo hi its.toArray.size;unfold slicePick;rw[h1,h2,h3];simp only[sliceRange_one,pick_run,KC]<;>rfl
def JD (K:Oy):V->Option Int->Option Int->Hp->VK->Prop:=λx lo hi H Q=>∃ a xs,x=.ref a/\SqL K H a xs/\∀ p,H p=none->Q (.ref p) (aB H p (.lst (um xs lo hi)))
theorem sl_list:SlR X (JD X.K):=by intro pins s σ H x v vl vu lo hi sl Q I rx hs pl pu h;obtain⟨a,xs,rfl,hx,q⟩:=h;cases rx;obtain⟨its,r,ht,hz⟩:=I.list hx;have aR:=r.length;refine⟨"list",_,slot_list_getitem.lookup,ht.isList.typeIs,?_⟩;refine wpAny_getItem_list_slice ht.isList hs pl pu .none (by simp) ?_ (by rw[KC]<;>lia);rw[qR,<- aR];refine⟨.ref s.heap.objs.size,_,I.laid (t':=s.toks) (o:=.lst (um xs lo hi)) (λb ob q=>Ks _ q) (Kq _) ?_,rfl,q _ (I.hok.fresh (Kq _))⟩;exact⟨Ld (nY xs lo hi) hz,_,0,(r.drop (HT.sIx xs.length 0 lo)).take (HT.sIx xs.length xs.length hi-HT.sIx xs.length 0 lo),KF _ rfl⟩
theorem call_len_seq:CallR X (.builtin "len") (λxs H Q=>∃ p ys,xs=[.ref p]/\(SqL X.K H p ys\/SqT X.K H p ys)/\Q (.int ys.length) H):=by
 intro pins s σ H xs us Q I r h;obtain⟨p,ys,rfl,hq,q⟩:=h;obtain⟨u,rfl,rx⟩:=j_ r;cases rx;have hn:=m6;rcases hq with hq|hq
 .obtain⟨its,r',pl,hz⟩:=I.list hq;have aR:=r'.length;exact Calls.call_len_list pl.isList (by simp only[KC]<;>lia) ⟨.int ys.length,H,I.tok _,⟨s.toks+1,by rw[KC,aR]⟩,q⟩
 .obtain⟨its,r',pl,hz⟩:=I.tuple hq;have aR:=r'.length;exact len_tuple pl (by simp only[KC]<;>lia) ⟨.int ys.length,H,I.tok _,⟨s.toks+1,by rw[KC,aR]⟩,q⟩
theorem sJ:CallR X (.builtin "len") (λxs H Q=>∃ z,xs=[.str z]/\z.length<=sizeLine/\Q (.int z.length) H):=by intro pins s σ H xs us Q I r h;obtain⟨z,rfl,hz,q⟩:=h;obtain⟨u,rfl,t,rfl⟩:=j_ r;have hn:=m6;exact len_str (by lia) ⟨.int z.length,H,I.tok _,⟨_,rfl⟩,q⟩
theorem CallR.or {f:OA}{r r':List V->Hp->VK->Prop}(h:CallR X f r)(h':CallR X f r'):CallR X f (λxs H Q=>r xs H Q\/r' xs H Q):=by
 intro pins s σ H xs us Q I rs q;rcases q with q|q
 .exact h pins s σ H xs us Q I rs q
 .exact h' pins s σ H xs us Q I rs q
theorem sK:CallR X (.type "list") (λxs H Q=>∃ p ys,xs=[.ref p]/\(SqL X.K H p ys\/SqT X.K H p ys)/\∀ l,H l=none->Q (.ref l) (aB H l (.lst ys))):=by
 intro pins s σ H xs us Q I r h;obtain⟨p,ys,rfl,hq,q⟩:=h;obtain⟨u,rfl,rx⟩:=j_ r;cases rx;have fin:∀(its:List OA),Vals ys its->ys.length<=sizeLine->∀(h':Heap)(c':Nat),(∀ b o',s.heap.get? b=some o'->h'.get? b=some o')->
  h'.get? s.heap.objs.size=some { cls:=.type "list",dict:=none,data:=.seq its.toArray c',slots:=#[] }->EP X pins σ Q (.ref s.heap.objs.size) { s with heap:=h' }:=λits r' hz h' c' kp e=>
  ⟨.ref s.heap.objs.size,_,I.laid (t':=s.toks) kp (Kq _) (show ObjOk X.prog X.w _ h' _ (.lst ys) from⟨hz,its,c',r',e⟩),rfl,q _ (I.hok.fresh (Kq _))⟩
 rcases hq with hq|hq
 .obtain⟨its,r',pl,hz⟩:=I.list hq;have aR:=r'.length;obtain⟨o,ho,hc,n,hd⟩:=pl.isList;exact call_list_seq p (.inl rfl) ho hc hd (λh' c' kp e=>fin its r' hz h' c' kp e) (by simp only[KC]<;>lia)
 .obtain⟨its,r',pl,hz⟩:=I.tuple hq;have aR:=r'.length;obtain⟨o,ho,hc,n,hd⟩:=pl;exact call_list_seq p (.inr rfl) ho hc hd (λh' c' kp e=>fin its r' hz h' c' kp e) (by simp only[KC]<;>lia)
theorem qS:CallR X (.type "tuple") (λxs H Q=>∃ p ys,xs=[.ref p]/\((SqL X.K H p ys/\∀ l,H l=none->Q (.ref l) (aB H l (.tup ys)))\/(SqT X.K H p ys/\Q (.ref p) H))):=by
 intro pins s σ H xs us Q I r h;obtain⟨p,ys,rfl,h⟩:=h;obtain⟨u,rfl,rx⟩:=j_ r;cases rx;rcases h with⟨hq,q⟩|⟨hq,q⟩
 .obtain⟨its,r',pl,hz⟩:=I.list hq;have aR:=r'.length;refine call_tuple_list pl.isList (λh' kp=>?_) (by simp only[KC]<;>lia);have I1:Inv X pins σ H { s with heap:=h' }:=I.kept (t':=s.toks) kp;have I2:Inv X pins σ (aB H h'.objs.size (.tup ys)) { s with heap:=h'.push { cls:=.type "tuple",data:=.seq its.toArray } }:=I1.laid (t':=s.toks) (λb o e=>Ks _ e) (Kq _) (show ObjOk X.prog X.w _ _ _ (.tup ys) from⟨hz,its,r',IsTup.new _ _⟩);exact⟨.ref h'.objs.size,_,I2,rfl,q _ (I1.hok.fresh (Kq _))⟩
 .obtain⟨its,r',pl,hz⟩:=I.tuple hq;exact call_tuple_same pl ⟨.ref p,H,I,rfl,q⟩
def JE (K:Oy)(T:String)(x:V)(H:Hp):Prop:=match x with
 | .str _=>T="str"
 | .int _=>T="int"
 | .ref p=>(T="list"/\∃ xs,SqL K H p xs)\/(T="tuple"/\∃ o,K.lookup p=some o/\o.cls=.type "tuple"/\o.dict=none)\/
  (T="dict"/\((∃ kvs,H p=some (.dK kvs))\/∃ kvs,H p=some (.dT kvs)))\/(T="set"/\∃ S n,H p=some (.set S n))
 |_=>False
theorem Am {pins:List (Addr×Obj)}{σ:St}{H:Hp}{s:Ox}{T:String}{x:V}{v:OA}(I:Inv X pins σ H s)(r:RelV x v)(ty:JE X.K T x H) :
 s.TypeIs v T/\∀ a,v=.ref a->∃ ob,s.heap.get? a=some ob/\ob.dict=none:=by
 cases x with
 |str z=>obtain⟨t,rfl⟩:=r;cases (show T="str" from ty);exact⟨typeIs_str s z t,λ_ e=>nomatch e⟩
 |int i=>obtain⟨t,rfl⟩:=r;cases (show T="int" from ty);exact⟨typeIs_int s i t,λ_ e=>nomatch e⟩
 |ref p=>
  cases r;rcases ty with⟨rfl,xs,hq⟩|⟨rfl,o,hk,hc,hd⟩|⟨rfl,hk⟩|⟨rfl,S,n,hk⟩
  .obtain⟨its,_,pl,_⟩:=I.list hq;refine⟨pl.isList.typeIs,λa e=>?_⟩;cases e;obtain⟨o,n,e,c,hd,_⟩:=pl;exact⟨o,e,hd⟩
  .refine⟨⟨o,I.kIn p o hk,hc⟩,λa e=>?_⟩;cases e;exact⟨o,I.kIn _ o hk,hd⟩
  .have z:∃ o,s.heap.get? p=some o/\o.ExactDict:=by
    rcases hk with⟨kvs,hk⟩|⟨kvs,hk⟩
    .obtain⟨_,_,_,_,o,_,_,e,ex,_⟩:=I.hok p _ hk;exact⟨o,e,ex⟩
    .obtain⟨_,_,_,_,o,_,_,e,ex,_⟩:=I.hok p _ hk;exact⟨o,e,ex⟩
   obtain⟨o,e,ex⟩:=z;refine⟨⟨o,e,ex.1⟩,λa e2=>?_⟩;cases e2;exact⟨o,e,ex.2.1⟩
  .obtain⟨o,_,_,_,e,ex,_⟩:=I.hok p _ hk;refine⟨⟨o,e,ex.1⟩,λa e2=>?_⟩;cases e2;exact⟨o,e,ex.2.1⟩
 |_=>exact False.elim ty
noncomputable def F0 (K:Oy)(T:String)(r:V->List V->Hp->VK->Prop)(to:TE):TE:=λσ H Q=>to σ H λx H1=>JE K T x H1/\r x [] H1 Q
noncomputable def HD (K:Oy)(T:String)(r:V->List V->Hp->VK->Prop)(to:TE)(t:TA):TE:=λσ H Q=>to σ H λx H1=>JE K T x H1/\t σ H1 λxs H2=>r x xs H2 Q
variable {o e:Expr}{es:List Expr}{to:TE}{t:TA}{name:Str}{apos cpos:Pos}{T id:String}{r:V->List V->Hp->VK->Prop}
theorem An (pa:PlainAttrs T) (slot:Slot T name id) (hty:typeOf (.builtin id)=pure (.type "method_descriptor")) (hm:FW X id r) (ho:PE X o to)
 (hbase:autoParam (attributeBase o name X.env (eval o X.env)=eval o X.env) OH._auto_1) (hline:autoParam ((apos.endLine==cpos.line)=true) OH._auto_1):PE X (.Call (.Attribute o name apos) [] [] cpos) (F0 X.K T r to):=by
 intro pins s σ H Q I h;refine Ny hbase hline (bW (ho pins s σ H _ I h) λv s1 ⟨x,H1,I1,r1,ty,q1⟩=>?_);obtain⟨h1,h2⟩:=Am I1 r1 ty;exact⟨T,id,pa,slot,hty,h1,h2,Lz rfl (N3 (hm pins s1 σ H1 x [] v [] Q I1 r1 .nil q1))⟩
theorem kf (pa:PlainAttrs T) (slot:Slot T name id) (hty:typeOf (.builtin id)=pure (.type "method_descriptor")) (hm:FW X id r) (ho:PE X o to) (ha:PA X (e::es) t)
 (hbase:autoParam (attributeBase o name X.env (eval o X.env)=eval o X.env) OH._auto_1)
 (hfew:autoParam (((backTo cpos (starEach (e::es) X.env)).all (λx=>!x.1)&&(backToKw cpos (keywordEach [] X.env)).all (λx=>x.1.isSome)
   && decide ((e::es).length+([]:List Keyword).length+(if ([]:List Keyword).isEmpty then 0 else 1)<30))=true) OH._auto_1)
 (hline:autoParam ((apos.endLine==cpos.line)=true) OH._auto_1) (hs:autoParam (starEach (e::es) X.env=(false,eval e X.env)::starEach es X.env) OH._auto_1) (hplain:autoParam ((backTo cpos (starEach es X.env)).any (·.1)=false) OH._auto_1) :
 PE X (.Call (.Attribute o name apos) (e::es) [] cpos) (HD X.K T r to t):=by
 intro pins s σ H Q I h;refine wpAny_Call_method_late hbase hfew hline rfl (bW (ho pins s σ H _ I h) λv s1 ⟨x,H1,I1,r1,ty,q1⟩=>?_);obtain⟨h1,h2⟩:=Am I1 r1 ty;refine⟨T,id,pa,slot,hty,h1,h2,?_⟩;have hA:=ha cpos pins s1 σ H1 _ I1 q1;rw[hs]at hA ⊢;refine Lz (by show(false || (backTo cpos (starEach es X.env)).any (·.1))=false;rw[hplain]<;>rfl) (Mx ?_);exact bW hA λus s2 ⟨vs,H2,I2,r2,q2⟩=>hm pins s2 σ H2 x vs v us Q I2 r1 r2 q2
end
def Kg (X:Cx)(id:String)(r:V->List V->Hp->VK->Prop):Prop:=
 ∀(pins:List (Addr×Obj))(s:Ox)(σ:St)(H:Hp)(x:V)(xs:List V)(v:OA)(us:List OA)(Q:VK),Inv X pins σ H s->RelV x v->Vals xs us->r x xs H Q->
  wpAny (model X.prog X.w) X.A (call (.builtin id) (v::us)) (EP X pins σ Q) X.xe s
theorem Vals.one:∀{x:V}{us:List OA},Vals [x] us->∃ u,us=[u]/\RelV x u
 |_,_,.cons r .nil=>⟨_,rfl,r⟩
section
variable {X:Cx}{pins:List (Addr×Obj)}{σ:St}{H:Hp}{s:Ox}{l b:Addr}{xs ys zs:List V}
theorem Inv.lset {its its':List OA}{n:Nat}{f:Array OA->Array OA}{t':Nat}(I:Inv X pins σ H s)(hH:H l=some (.lst xs))
 (e:s.heap.get? l=some { cls:=.type "list",data:=.seq its.toArray n }) (hf:f its.toArray=its'.toArray) (hv:Vals ys its') (hz:ys.length<=sizeLine) :
 Inv X pins σ (aB H l (.lst ys)) { s with heap:=s.heap.update l (Obj.mapSeq f),toks:=t' }:=by
 have q:=PySem.IsL.update e f;rw[hf]at q;refine I.write (x:=l) (e:=l) (by rw[hH];exact trivial) (.inl rfl) (λb' u hb hu=>(LM s.heap (Obj.mapSeq f) (LJ hb)).trans hu) ⟨_,q⟩ ?_;exact⟨hz,its',_,hv,q⟩
theorem Inv.lnew {its:List OA}{t':Nat}(I:Inv X pins σ H s)(hv:Vals ys its)(hz:ys.length<=sizeLine) :
 Inv X pins σ (aB H s.heap.objs.size (.lst ys)) { s with heap:=s.heap.push { cls:=.type "list",data:=.seq its.toArray },toks:=t' }:=
 I.laid (λ_ _ q=>Ks _ q) (Kq _) ⟨hz,its,0,hv,KF _ rfl⟩
theorem Inv.fresh (I:Inv X pins σ H s):H s.heap.objs.size=none:=I.hok.fresh (Kq _)
theorem Inv.lstM (I:Inv X pins σ H s) (hH:H l=some (.lst xs)):xs.length<=sizeLine/\∃(its:List OA)(n:Nat),Vals xs its/\xs.length=its.length/\s.heap.get? l=some { cls:=.type "list",data:=.seq its.toArray n }:=by obtain⟨z,its,n,r,e⟩:=I.hok l _ hH;exact⟨z,its,n,r,r.length,e⟩
end
section
variable {X:Cx}
def sL:V->List V->Hp->VK->Prop:=λx vs H Q=>∃ l xs y,x=.ref l/\vs=[y]/\H l=some (.lst xs)/\xs.length<sizeLine/\Q .non (aB H l (.lst (xs++[y])))
theorem gn:Kg X "list.append" sL:=by intro pins s σ H x vs v us Q I rx rv h;obtain⟨l,xs,y,rfl,rfl,hH,hz,q⟩:=h;cases rx;obtain⟨u,rfl,ru⟩:=rv.one;obtain⟨z,its,n,r,hl,e⟩:=I.lstM hH;refine call_meets F.slot_list_append ⟨_,e,rfl⟩ F.entry_list_append (F.args_list_append_2 _ _) (PySem.list_append l its.toArray n u (by rw[KC];lia)) ⟨e,?_⟩;refine⟨.non,_,I.lset (its':=its++[u]) hH e (by simp) (r.append (.cons ru .nil)) ?_,rfl,q⟩;rw[KI,List.length_singleton];lia
end
section
variable {prog:Oz}{w:World}{A:OB}{E:OA->Ox->Prop}{s:Ox}
end
section
variable {X:Cx}
end
section
variable {κ:Type}[DecidableEq κ]
noncomputable def fS (kvs:List (κ×V))(k:κ):Option V:=(kvs.find? λkv=>decide (kv.1=k)).map (·.2)
noncomputable def cf (kvs:List (κ×V))(k:κ)(v:V):List (κ×V):=if (kvs.any λkv=>decide (kv.1=k))=true then kvs.map (λkv=>if kv.1=k then (kv.1,v) else kv) else kvs++[(k,v)]
noncomputable def lE (kvs:List (κ×V))(k:κ):List (κ×V):=kvs.filter λkv=>decide (kv.1≠k)
theorem iV {p:κ×V}{r:List (κ×V)}{k:κ}(e:p.1=k):fS (p::r) k=some p.2:=by simp[fS,Lm,e]
theorem iW {p:κ×V}{r:List (κ×V)}{k:κ}(e:¬ p.1=k):fS (p::r) k=fS r k:=by simp[fS,Lm,e]
theorem kg (k:κ):∀ kvs:List (κ×V),(kvs.any λkv=>decide (kv.1=k))=(fS kvs k).isSome
 | []=>rfl
 |p::r=>by
  rw[L6];by_cases e:p.1=k
  .simp only[iV e,Kz e,Bool.true_or,Option.isSome_some]
  .rw[iW e,KL e,Oh];exact kg k r
theorem f9 (kvs:List (κ×V))(k:κ)(v:V):(cf kvs k v).length<=kvs.length+1:=by
 unfold cf;split
 .rw[Kw];lia
 .rw[KI,Ky,KO];lia
theorem pC {kvs:List (κ×V)}{k:κ}(v:V)(h:fS kvs k=none):cf kvs k v=kvs++[(k,v)]:=by unfold cf;rw[kg,h];exact Kv (by decide)
theorem RelO.isSome_eq {o:Option V}{u:Option OA}(r:RelO o u):o.isSome=u.isSome:=by
 cases o with
 |none=>cases u with
  |none=>rfl
  |some _=>exact(show False from r).elim
 |some _=>cases u with
  |none=>exact(show False from r).elim
  |some _=>rfl
theorem RelO.getD {o:Option V}{u:Option OA}{d:V}{d':OA}(r:RelO o u)(rd:RelV d d'):RelV (o.getD d) (u.getD d'):=by
 cases o with
 |none=>cases u with
  |none=>exact rd
  |some _=>exact(show False from r).elim
 |some _=>cases u with
  |none=>exact(show False from r).elim
  |some _=>exact r
theorem KV.val {kvs:List (κ×V)}{vs:List (κ×OA)}(r:KV kvs vs)(k:κ):RelO (fS kvs k) (valueAt vs k):=by
 unfold KV at r;induction r with
 |nil=>exact True.intro
 | @cons p q ps qs h t ih=>
  obtain⟨h1,h2⟩:=h;by_cases e:p.1=k
  .have e':q.1=k:=h1.symm.trans e;have b:valueAt (q::qs) k=some q.2:=by simp[valueAt,Lm,e']
   rw[iV e,b];exact h2
  .have e':¬ q.1=k:=λz=>e (h1.trans z);have b:valueAt (q::qs) k=valueAt qs k:=by simp[valueAt,Lm,e']
   rw[iW e,b];exact ih
theorem KV.any {kvs:List (κ×V)}{vs:List (κ×OA)}(r:KV kvs vs)(k:κ):(kvs.any λkv=>decide (kv.1=k))=vs.any λkv=>decide (kv.1=k):=by
 unfold KV at r;induction r with
 |nil=>rfl
 |cons h t ih=>rw[L6,L6,ih,h.1]
theorem KV.repl {kvs:List (κ×V)}{vs:List (κ×OA)}(r:KV kvs vs)(k:κ){y:V}{u:OA}(ry:RelV y u) :
 KV (kvs.map λkv=>if kv.1=k then (kv.1,y) else kv) (vs.map λkv=>if kv.1=k then (kv.1,u) else kv):=by
 unfold KV at r ⊢;induction r with
 |nil=>exact .nil
 | @cons p q ps qs h t ih=>
  rw[Kr,Kr];refine .cons ?_ ih;obtain⟨h1,h2⟩:=h;by_cases e:p.1=k
  .rw[Ku e,Ku (h1.symm.trans e)];exact⟨h1,ry⟩
  .rw[Kv e,Kv (λz=>e (h1.trans z))];exact⟨h1,h2⟩
theorem KV.put {kvs:List (κ×V)}{vs:List (κ×OA)}(r:KV kvs vs)(k:κ){y:V}{u:OA}(ry:RelV y u):KV (cf kvs k y) (stored vs k u):=by
 unfold cf stored;rw[r.any k];by_cases e:(vs.any λkv=>decide (kv.1=k))=true
 .rw[Ku e,Ku e];exact r.repl k ry
 .rw[Kv e,Kv e];exact Paired.snoc r ⟨rfl,ry⟩
theorem KV.drop {kvs:List (κ×V)}{vs:List (κ×OA)}(r:KV kvs vs)(k:κ):KV (lE kvs k) (without vs k):=by
 unfold KV at r ⊢;unfold lE without;induction r with
 |nil=>exact .nil
 | @cons p q ps qs h t ih=>
  obtain⟨h1,h2⟩:=h;rw[Om,Om];by_cases e:p.1=k
  .have a:¬ decide (p.1≠k)=true:=by simp[e]
   have b:¬ decide (q.1≠k)=true:=by simp[h1.symm.trans e]
   rw[Kv a,Kv b];exact ih
  .have e':¬ q.1=k:=λz=>e (h1.trans z);have a:decide (p.1≠k)=true:=by simp[e]
   have b:decide (q.1≠k)=true:=by simp[e']
   rw[Ku a,Ku b];exact .cons ⟨h1,h2⟩ ih
theorem KV.length {kvs:List (κ×V)}{vs:List (κ×OA)}(r:KV kvs vs):kvs.length=vs.length:=MC r
theorem Ao (kvs:List (κ×V))(k:κ):(lE kvs k).length<=kvs.length:=List.length_filter_le _ _
end
theorem j6 {P:Oz}{w:World}{k:Key}{u:OA}(r:RelV (kV k) u):(av P w).is k u=true:=by
 cases k with
 |inl i=>obtain⟨t,e⟩:=(show ∃ t,u=Value.int i t from r);subst e;exact t9 P w i t
 |inr x=>obtain⟨t,e⟩:=(show ∃ t,u=Value.str x t from r);subst e;exact t_ P w x t
theorem rC {P:Oz}{w:World}:∀{ks:List Key}{us:List OA},Vals (ks.map kV) us->ItemsAre (av P w) ks us
 | [],_,r=>by rw[K_]at r;cases r;exact .nil
 |k::ks,_,r=>by
  rw[Kr]at r;cases r with
  |cons h t=>exact .cons (j6 h) (rC t)
abbrev KT (H:Hp):List (List Key×V)->List (List Key×Addr×OA)->Prop:=Paired λp q=>p.1=q.1/\H q.2.1=some (.tup (p.1.map kV))/\RelV p.2 q.2.2
theorem KT.val {H:Hp}{kvs:List (List Key×V)}{xs:List (List Key×Addr×OA)}(r:KT H kvs xs)(k:List Key):RelO (fS kvs k) ((atKey xs k).map (·.2)):=by
 induction r with
 |nil=>exact True.intro
 | @cons p q ps qs h t ih=>
  obtain⟨h1,_,h2⟩:=h;by_cases e:p.1=k
  .have e':q.1=k:=h1.symm.trans e;have b:atKey (q::qs) k=some q.2:=by simp[atKey,Lm,e']
   rw[iV e,b];exact h2
  .have e':¬ q.1=k:=λz=>e (h1.trans z);have b:atKey (q::qs) k=atKey qs k:=by simp[atKey,Lm,e']
   rw[iW e,b];exact ih
theorem KT.repl {H:Hp}{kvs:List (List Key×V)}{xs:List (List Key×Addr×OA)}(r:KT H kvs xs)(k:List Key){y:V}{u:OA}(ry:RelV y u) :
 KT H (kvs.map λkv=>if kv.1=k then (kv.1,y) else kv) (xs.map (putAt k u)):=by
 induction r with
 |nil=>exact .nil
 | @cons p q ps qs h t ih=>
  rw[Kr,Kr];refine .cons ?_ ih;obtain⟨h1,h2,h3⟩:=h;unfold putAt;by_cases e:p.1=k
  .rw[Ku e,Ku (h1.symm.trans e)];exact⟨h1,h2,ry⟩
  .rw[Kv e,Kv (λz=>e (h1.trans z))];exact⟨h1,h2,h3⟩
theorem KT.put {H:Hp}{kvs:List (List Key×V)}{xs:List (List Key×Addr×OA)}(r:KT H kvs xs)(k:List Key){b:Addr}{y:V}{u:OA}(hb:H b=some (.tup (k.map kV)))(ry:RelV y u) :
 KT H (cf kvs k y) (storedH xs k b u):=by
 have e:(kvs.any λkv=>decide (kv.1=k))=(atKey xs k).isSome:=by rw[kg,(r.val k).isSome_eq,NL]
 unfold cf storedH;rw[e];by_cases q:(atKey xs k).isSome=true
 .rw[Ku q,Ku q];exact r.repl k ry
 .rw[Kv q,Kv q];exact Paired.snoc r ⟨rfl,hb,ry⟩
theorem KT.keeps {H H':Hp}{kvs:List (List Key×V)}{xs:List (List Key×Addr×OA)}(r:KT H kvs xs)(ht:∀ b ys,H b=some (.tup ys)->H' b=some (.tup ys)):KT H' kvs xs:=Paired.mapP r λ_ _ z=>⟨z.1,ht _ _ z.2.1,z.2.2⟩
section
variable {P:Oz}{w:World}{H:Hp}{h:Heap}{a:Addr}
theorem ES {u:HO}(ok:HOk P w H h)(e:Rd H a u):ObjOk P w H h a u:=e.ok ok
theorem l7 {kvs:List (Key×V)}(ok:HOk P w H h)(e:Rd H a (.dK kvs)):kvs.length<=sizeLine/\(a==sysModules)=false/\∃ vs,KV kvs vs/\h.DictOf (av P w) a vs:=show ObjOk P w H h a (.dK kvs) from ES ok e
theorem uq {kvs:List (Key×V)}(ok:HOk P w H h)(e:H a=some (.dK kvs)):kvs.length<=sizeLine/\(a==sysModules)=false/\∃ vs,KV kvs vs/\h.DictOf (av P w) a vs:=l7 ok (.inl e)
theorem iX {ks:List Key}(ok:HOk P w H h)(e:H a=some (.tup (ks.map kV))):(tupleKind (av P w)).is h ks a:=by obtain⟨_,its,r,o,h1,h2,n,h3⟩:=(show ObjOk P w H h a (.tup (ks.map kV)) from ok a _ e);exact⟨o,its.toArray,n,h1,h2,h3,by simpa using rC r⟩
theorem lF {kvs:List (List Key×V)}(ok:HOk P w H h)(e:Rd H a (.dT kvs)):kvs.length<=sizeLine/\(a==sysModules)=false/\
 ∃ xs,KT H kvs xs/\h.DictOfH (tupleKind (av P w)) a xs:=by
 obtain⟨z,y,xs,r,o,es,ep,h1,h2,h3,h4,h5⟩:=(show ObjOk P w H h a (.dT kvs) from ES ok e);refine⟨z,y,xs,r,o,es,ep,h1,h2,h3,h4,λx hx=>?_,h5⟩;have all:∀{l:List (List Key×V)}{m:List (List Key×Addr×OA)},KT H l m->∀ x∈m,(tupleKind (av P w)).is h x.1 x.2.1:=by
  intro l m q;induction q with
  |nil=>intro x hx;exact nomatch hx
  | @cons p q ps qs hq t ih=>
   intro x hx;rcases KB.mp hx with e|hx
   .subst e;exact iX ok (by rw[<- hq.1];exact hq.2.1)
   .exact ih x hx
 exact all r x hx
theorem ET {kvs:List (List Key×V)}(ok:HOk P w H h)(e:H a=some (.dT kvs)):kvs.length<=sizeLine/\(a==sysModules)=false/\
 ∃ xs,KT H kvs xs/\h.DictOfH (tupleKind (av P w)) a xs:=lF ok (.inl e)
end
def DGet (H:Hp)(a:Addr)(y:V)(r:Option V):Prop:=(∃ kvs k,Rd H a (.dK kvs)/\y=kV k/\r=fS kvs k)\/∃ kvs k b,Rd H a (.dT kvs)/\y=.ref b/\H b=some (.tup (k.map kV))/\r=fS kvs k
def DPut (H:Hp)(a:Addr)(y v:V)(H':Hp):Prop:=
 (∃ kvs k,H a=some (.dK kvs)/\y=kV k/\kvs.length<sizeLine/\H'=aB H a (.dK (cf kvs k v)))\/
 ∃ kvs k b,H a=some (.dT kvs)/\y=.ref b/\H b=some (.tup (k.map kV))/\kvs.length<sizeLine/\H'=aB H a (.dT (cf kvs k v))
theorem DGet.t {H:Hp}{a b:Addr}{kvs:List (List Key×V)}{k:List Key}(e:H a=some (.dT kvs))(eb:H b=some (.tup (k.map kV))):DGet H a (.ref b) (fS kvs k):=.inr ⟨kvs,k,b,.inl e,rfl,eb,rfl⟩
theorem DPut.k {H:Hp}{a:Addr}{kvs:List (Key×V)}{k:Key}{v:V}(e:H a=some (.dK kvs))(hl:kvs.length<sizeLine):DPut H a (kV k) v (aB H a (.dK (cf kvs k v))):=.inl ⟨kvs,k,e,rfl,hl,rfl⟩
theorem DPut.t {H:Hp}{a b:Addr}{kvs:List (List Key×V)}{k:List Key}{v:V}(e:H a=some (.dT kvs))(eb:H b=some (.tup (k.map kV)))(hl:kvs.length<sizeLine) :
 DPut H a (.ref b) v (aB H a (.dT (cf kvs k v))):=.inr ⟨kvs,k,b,e,rfl,eb,hl,rfl⟩
section
variable {X:Cx}{pins:List (Addr×Obj)}{σ:St}{H:Hp}{s:Ox}{a:Addr}{y v:V}{u r:OA}{o:Option V}{A:OB}{E:OA->Ox->Prop}
theorem Inv.big (I:Inv X pins σ H s):sysModules<s.heap.objs.size:=by have h:mainGlobals<s.heap.objs.size:=(I.mod.glob.keeps I.bk).lt;exact Nat.lt_trans (by decide) h
theorem yS {Q:OA->Ox->Prop}(hu:A.units+1<cLine)(I:Inv X pins σ H s)(g:DGet H a y (some v))(ry:RelV y u)(h:∀ w' s',Inv X pins σ H s'->RelV v w'->Q w' s') :
 wpAny (model X.prog X.w) A (getItem (.ref a) u) Q E s:=by
 rcases g with⟨kvs,k,e,ey,l⟩|⟨kvs,k,b,e,ey,eb,l⟩
 .subst ey;obtain⟨z,hd,vs,rel,dd⟩:=l7 I.hok e;obtain⟨w',hw,rw'⟩:=RelO.some_of (v:=v) (o:=valueAt vs k) (by rw[l];exact rel.val k);exact wpAny_getItem_of (j6 ry) dd.mapOf hw (h w' _ (I.tok _) rw')
 .subst ey;cases (show u=Value.ref b from ry);obtain⟨z,hd,xs,rel,dd⟩:=lF I.hok e;obtain⟨w',hw,rw'⟩:=RelO.some_of (v:=v) (o:=(atKey xs k).map (·.2)) (by rw[l];exact rel.val k);obtain⟨p,hp,hp2⟩:=Lc.mp hw;refine wpAny_getItem_heap (LZ hu) (iX I.hok eb) dd hp ?_;rw[hp2];exact h w' _ (I.tok _) rw'
theorem JF {Q:OA->Ox->Prop}(hu:A.units+1<cLine)(I:Inv X pins σ H s)(g:DGet H a y o)(ry:RelV y u)(h:∀ s',Inv X pins σ H s'->Q (.bool o.isSome) s') :
 wpAny (model X.prog X.w) A (compareOp .In u (.ref a)) Q E s:=by
 rcases g with⟨kvs,k,e,ey,l⟩|⟨kvs,k,b,e,ey,eb,l⟩
 .subst ey;obtain⟨z,hd,vs,rel,dd⟩:=l7 I.hok e;refine wpAny_in_of (j6 ry) hd dd.mapOf ?_;rw[<- (rel.val k).isSome_eq,<- l];exact h _ (I.tok _)
 .subst ey;cases (show u=Value.ref b from ry);obtain⟨z,hd,xs,rel,dd⟩:=lF I.hok e;refine wpAny_in_heap (LZ hu) (iX I.hok eb) hd dd ?_;have q:=(rel.val k).isSome_eq;rw[NL]at q;rw[<- q,<- l];exact h _ (I.tok _)
theorem lq {h':Heap}{t':Nat}{ob:HO}(I:Inv X pins σ H s)(mu:Hd (H a))(hs:Heap.SameBut a s.heap h')(he:∃ q,h'.get? a=some q)(new:ObjOk X.prog X.w (aB H a ob) h' a ob) :
 Inv X pins σ (aB H a ob) { s with heap:=h',toks:=t' }:=
 I.write (x:=a) (e:=a) mu (.inl rfl) (λb q hb z=>(hs.2 b hb).trans z) he new
theorem sM {P:Oz}{w:World}{H':Hp}{h':Heap}{kvs:List (Key×V)}{vs:List (Key×OA)}(z:kvs.length<=sizeLine)(hd:(a==sysModules)=false)(rel:KV kvs vs)(dd:h'.DictOf (av P w) a vs) :
 ObjOk P w H' h' a (.dK kvs):=⟨z,hd,vs,rel,dd⟩
theorem lr {H':Hp}{Q:Unit->Ox->Prop}(hu:A.units+1<cLine)(I:Inv X pins σ H s)(g:DPut H a y v H')(ry:RelV y u)(rv:RelV v r)(h:∀ s',Inv X pins σ H' s'->Q () s') :
 wpAny (model X.prog X.w) A (setItem (.ref a) u r) Q E s:=by
 rcases g with⟨kvs,k,e,ey,l,eH⟩|⟨kvs,k,b,e,ey,eb,l,eH⟩
 .subst ey eH;obtain⟨z,hd,vs,rel,dd⟩:=uq I.hok e;have hz:vs.length<=sizeLine:=by rw[<- rel.length];exact z
  have hl:(cf kvs k v).length<=sizeLine:=by have:=f9 kvs k v;lia
  refine wpAny_setItem_pairs (hsz:=hz) (j6 ry) dd λh' dd' hs=>h _ ?_;have he:∃ q,h'.get? a=some q:=let ⟨q,_,_,hq,_⟩:=dd';⟨q,hq⟩;exact lq I (by rw[e];exact True.intro) hs he (sM hl hd (rel.put k rv) dd')
 .subst ey eH;cases (show u=Value.ref b from ry);obtain⟨z,hd,xs,rel,dd⟩:=ET I.hok e;have hz:xs.length<=sizeLine:=by rw[<- MC rel];exact z
  have hl:(cf kvs k v).length<=sizeLine:=by have:=f9 kvs k v;lia
  refine wpAny_setItem_heap (hsz:=hz) (LZ hu) (iX I.hok eb) dd λh' dd' hs=>h _ ?_;obtain⟨q,es,ep,hq,h2,h3,h4,_,h5⟩:=dd';refine lq I (by rw[e];exact True.intro) hs ⟨q,hq⟩ ⟨hl,hd,_,(rel.put k eb rv).keeps λc ys ec=>?_,q,es,ep,hq,h2,h3,h4,h5⟩;rw[aa (xt ec e (λz=>nomatch z))];exact ec
end
section
variable {X:Cx}{pins:List (Addr×Obj)}{σ:St}{H:Hp}{s:Ox}{a:Addr}{kvs:List (Key×V)}{k:Key}{u:OA}{A:OB}{E:OA->Ox->Prop}
theorem HE {v:V}{more:List OA}{Q:OA->Ox->Prop}(I:Inv X pins σ H s)(e:H a=some (.dK kvs))(ry:RelV (kV k) u)(l:fS kvs k=some v)(hm:more=[]\/∃ x,more=[x])
 (h:∀ w' s',Inv X pins σ (aB H a (.dK (lE kvs k))) s'->RelV v w'->Q w' s'):wpAny (model X.prog X.w) A (call (.builtin "dict.pop") (.ref a::u::more)) Q E s:=by
 obtain⟨z,hd,vs,rel,dd⟩:=uq I.hok e;obtain⟨w',hw,rw'⟩:=RelO.some_of (v:=v) (o:=valueAt vs k) (by rw[<- l];exact rel.val k);have hp:(keyPart u).isSome=true:=by
  cases k with
  |inl i=>obtain⟨t,q⟩:=(show ∃ t,u=Value.int i t from ry);subst q;rfl
  |inr x=>obtain⟨t,q⟩:=(show ∃ t,u=Value.str x t from ry);subst q;rfl
 have ha:argsOk "dict.pop" ⟨.ref a::u::more,[]⟩:=by
  rcases hm with q|⟨x,q⟩
  .subst q;exact PySem.F.args_dict_pop_2 _ _
  .subst q;exact PySem.F.args_dict_pop_3 _ _ _
 refine Mq PySem.F.slot_dict_pop dd.typeIs PySem.F.entry_dict_pop ha (meets_dict_pop_there (av X.prog X.w) a (j6 ry) more hm hp)
  ⟨vs,w',dd,by rw[<- rel.length];exact z,hw,λh' dd' hs=>h w' _ ?_ rw'⟩
 have he:∃ q,h'.get? a=some q:=let ⟨q,_,_,hq,_⟩:=dd';⟨q,hq⟩;exact lq I (by rw[e];exact True.intro) hs he (sM (Ld (Ao kvs k) z) hd (rel.drop k) dd')
end
def F1 (i:Expr):Prop:=∀ ov iv,subscripted i false ov iv=operate [ov,iv] (getItem ov iv)
theorem C7 {prog:Oz}{w:World}{A:OB}{E:OA->Ox->Prop}{s:Ox}{env:Env}{value slice:Expr}{pos:Pos}{T id:String}{Q:OA->Ox->Prop}
 (hl:typeLookup (.type T) "__getitem__"=pure (some (.builtin id))) (hs:F1 slice)
 (h:wpAny (model prog w) A (eval value env) (λo s₁=>wpAny (model prog w) A (eval slice env) (λi s₂=>s₂.TypeIs o T/\wpAny (model prog w) A (getItem o i) Q E s₂) E s₁) E s) :
 wpAny (model prog w) A (eval (.Subscript value slice pos) env) Q E s:=by
 refine Subscript_ (Ms h (λo s₁ h₁=>Ms h₁ (λi s₂ h₂=>?_) λ_ _ x=>x) λ_ _ x=>x);obtain⟨hT,h₂⟩:=h₂;unfold subscriptTail;refine Kp ?_;rw[getitemInPython_of_ne hT.not_modules];refine Kp (wpAny_specialOf hT hl ?_);have fin:wpAny (model prog w) A (subscripted slice false o i) (λr s₃=>wpAny (model prog w) A (letTemporaryGo value o r >>= λ_=>pure r) Q E s₃) E s₂:=by rw[hs o i];exact wpAny_operating (Ms h₂ (λr s₃ h₃=>Kp (wpAny_letTemporaryGo (Kt h₃))) λ_ _ x=>x)
 first
  |exact Kt (Kp fin)
  |exact Kp (Kt (Kp fin))
  |exact Kp fin
theorem ur {X:Cx} {pins:List (Addr×Obj)} {σ:St} {H:Hp} {s:Ox} {a:Addr} {y:V} {o:Option V} (I:Inv X pins σ H s) (g:DGet H a y o):s.TypeIs (.ref a) "dict":=by
 rcases g with⟨kvs,k,e,_,_⟩|⟨kvs,k,b,e,_,_,_⟩
 .obtain⟨_,_,vs,_,dd⟩:=l7 I.hok e;exact dd.typeIs
 .obtain⟨_,_,xs,_,dd⟩:=lF I.hok e;exact dd.typeIs
noncomputable def EU (td ty:TE):TE:=λσ H Q=>td σ H λx H1=>ty σ H1 λy H2=>∃ a v,x=.ref a/\DGet H2 a y (some v)/\Q v H2
noncomputable def Ap (td ty tv:TE):TS:=λD σ H=>tv σ H λv H1=>td σ H1 λx H2=>ty σ H2 λy H3=>∃ a H4,x=.ref a/\DPut H3 a y v H4/\D.nx σ H4
section
variable {X:Cx}{o i e value:Expr}{pos pos' j5:Pos}{td ty tv:TE}
theorem xC (hu:X.A.units+1<cLine)(ho:PE X o td)(hi:PE X i ty)(hs:F1 i):PE X (.Subscript o i pos) (EU td ty):=by intro pins s σ H Q I h;refine C7 PySem.F.slot_dict_getitem.lookup hs (bW (ho pins s σ H _ I h) λu s1 ⟨x,H1,I1,rx,q1⟩=>bW (hi pins s1 σ H1 _ I1 q1) λiv s2 ⟨y,H2,I2,ry,a,v,ex,g,q2⟩=>?_);subst ex;obtain rfl:u=Value.ref a:=rx;exact⟨ur I2 g,yS hu I2 g ry λw' s3 I3 rw'=>⟨v,H2,I3,rw',q2⟩⟩
theorem C8 (hu:X.A.units+1<cLine)(ho:PE X o td)(hi:PE X i ty)(hv:PE X value tv)(hs:swapsWith value (some (.Subscript o i pos')) pos.line X.env=pure false) :
 PS X (.Assign [.Subscript o i pos'] value pos) (Ap td ty tv):=by
 intro pins s σ H D I h;refine wpAny_Assign_Subscript (bW (hv pins s σ H _ I h) λr s1 ⟨v,H1,I1,rv,q1⟩=>bW (ho pins s1 σ H1 _ I1 q1) λu s2 ⟨x,H2,I2,rx,q2⟩=>bW (hi pins s2 σ H2 _ I2 q2) λiv s3 ⟨y,H3,I3,ry,a,H4,ex,g,q3⟩=>?_) hs;subst ex;obtain rfl:u=Value.ref a:=rx;exact lr hu I3 g ry rv λs4 I4=>⟨σ,H4,I4,q3⟩
end
theorem ut {P:Oz} {w:World} {H:Hp} (h:Heap) (hb:sysModules<h.objs.size):ObjOk P w H (h.push { cls:=.type "dict",data:=.dict #[] }) h.objs.size (.dK []):=⟨LF _,LI.mpr (LJ (KR hb)),[],.nil,Heap.DictOf.new h⟩
theorem Aq {P:Oz} {w:World} {H:Hp} (h:Heap) (hb:sysModules<h.objs.size):ObjOk P w H (h.push { cls:=.type "dict",data:=.dict #[] }) h.objs.size (.dT []):=⟨LF _,LI.mpr (LJ (KR hb)),[],.nil,_,#[],0,KF _ rfl,⟨rfl,rfl,rfl⟩,rfl,rfl,KY⟩
def Ar:TE:=λ_ H Q=>∀ p,H p=none->Q (.ref p) (aB H p (.dK []))
def m8:TE:=λ_ H Q=>∀ p,H p=none->Q (.ref p) (aB H p (.dT []))
section
variable {X:Cx}{pos:Pos}
theorem uu:PE X (.Dict [] [] pos) Ar:=λpins s σ H Q I h=>wpAny_Dict_empty ⟨.ref s.heap.objs.size,_,I.laid (a:=s.heap.objs.size) (o:=.dK []) (t':=s.toks) (λ_ _ q=>Ks _ q) (Kq _) (ut s.heap I.big),rfl,h _ (I.hok.fresh (Kq _))⟩
theorem kh:PE X (.Dict [] [] pos) m8:=λpins s σ H Q I h=>wpAny_Dict_empty ⟨.ref s.heap.objs.size,_,I.laid (a:=s.heap.objs.size) (o:=.dT []) (t':=s.toks) (λ_ _ q=>Ks _ q) (Kq _) (Aq s.heap I.big),rfl,h _ (I.hok.fresh (Kq _))⟩
end
noncomputable def wn:List (TE×TE)->St->Hp->(List (V×V)->Hp->Prop)->Prop
 | [],_,H,Q=>Q [] H
 |(tk,tv)::r,σ,H,Q=>tk σ H λx H1=>tv σ H1 λy H2=>wn r σ H2 λps H3=>Q ((x,y)::ps) H3
abbrev VV:List (V×V)->List (OA×OA)->Prop:=Paired λp q=>RelV p.1 q.1/\RelV p.2 q.2
def Jo (X:Cx)(pos:Pos)(keys:List (Option Expr))(values:List Expr)(trs:List (TE×TE)):Prop:=
 ∀(pins:List (Addr×Obj))(s:Ox)(σ:St)(H:Hp)(Q:List (V×V)->Hp->Prop),Inv X pins σ H s->wn trs σ H Q->
  wpAny (model X.prog X.w) X.A (evalPairs (pairTrees keys values X.env pos)) (λvs s'=>∃ ps H',Inv X pins σ H' s'/\VV ps vs/\Q ps H') X.xe s
theorem C9 {X:Cx}{pos:Pos}:Jo X pos [] [] []:=λpins s σ H Q I h=>pairTrees_nil_walk ⟨[],H,I,.nil,h⟩
theorem As {X:Cx}{pos:Pos}{k v:Expr}{ks:List (Option Expr)}{vs:List Expr}{tk tv:TE}{trs:List (TE×TE)}(hk:PE X k tk)(hv:PE X v tv)(hr:Jo X pos ks vs trs) :
 Jo X pos (some k::ks) (v::vs) ((tk,tv)::trs):=λpins s σ H Q I h=>
 pairTrees_cons_walk (bW (hk pins s σ H _ I h) λu s1 ⟨x,H1,I1,rx,q1⟩=>bW (hv pins s1 σ H1 _ I1 q1) λw2 s2 ⟨y,H2,I2,ry,q2⟩=>bW (hr pins s2 σ H2 _ I2 q2) λws s3 ⟨ps,H3,I3,rel,q3⟩=>⟨(x,y)::ps,H3,I3,.cons ⟨rx,ry⟩ rel,q3⟩)
def m9 (kvs more:List (Key×V)):List (Key×V):=more.foldl (λacc kv=>cf acc kv.1 kv.2) kvs
theorem KV.merge:∀{more:List (Key×V)}{rs:List (Key×OA)}{kvs:List (Key×V)}{vs:List (Key×OA)},KV more rs->KV kvs vs->KV (m9 kvs more) (merged vs rs):=by
 intro more rs kvs vs r;unfold KV at r;induction r generalizing kvs vs with
 |nil=>intro q;exact q
 | @cons p q ps qs h t ih=>
  intro r0;have e:KV (cf kvs p.1 p.2) (stored vs q.1 q.2):=by have:=r0.put p.1 h.2;rw[<- h.1];exact this
  exact ih e
theorem lG:∀(more kvs:List (Key×V)),(m9 kvs more).length<=kvs.length+more.length
 | [],kvs=>by show kvs.length<=kvs.length+0;lia
 |p::r,kvs=>by have h1:=lG r (cf kvs p.1 p.2);have h2:=f9 kvs p.1 p.2;show(m9 (cf kvs p.1 p.2) r).length<=_;rw[Ky];lia
theorem pD {P:Oz}{w:World}:∀{kvs:List (Key×V)}{ws:List (OA×OA)},VV (kvs.map λkv=>(kV kv.1,kv.2)) ws->∃ rs,Carries (av P w) ws rs/\KV kvs rs
 | [],_,r=>by rw[K_]at r;cases r;exact⟨[],True.intro,.nil⟩
 |p::kvs,_,r=>by
  rw[Kr]at r;cases r with
  | @cons a b as bs h t=>obtain⟨rs,c,q⟩:=pD (P:=P) (w:=w) t;obtain⟨b1,b2⟩:=b;exact⟨(p.1,b2)::rs,⟨j6 h.1,rfl,c⟩,.cons ⟨rfl,h.2⟩ q⟩
def HF (trs:List (TE×TE)):TE:=λσ H Q=>∀ p,H p=none->wn trs σ (aB H p (.dK [])) λps H2=>H2 p=some (.dK [])/\∃ kvs:List (Key×V),ps=kvs.map (λkv=>(kV kv.1,kv.2))/\kvs.length<=15/\Q (.ref p) (aB H2 p (.dK (m9 [] kvs)))
theorem C_ {X:Cx}{pos:Pos}{keys:List (Option Expr)}{values:List Expr}{trs:List (TE×TE)}(h:Jo X pos keys values trs)(hall:keys.all (·.isSome)=true)(hl:keys.length=values.length)(h0:keys≠[])
 (h15:keys.length<=15):PE X (.Dict keys values pos) (HF trs):=by
 intro pins s σ H Q I q;have hn:=I.hok.fresh (Kq s.heap.objs.size);have I1:=I.laid (a:=s.heap.objs.size) (o:=.dK []) (h':=s.heap.push { cls:=.type "dict",data:=.dict #[] }) (t':=s.toks) (λ_ _ q=>Ks _ q) (Kq _) (ut s.heap I.big);refine wpAny_Dict_walk (knd:=av X.prog X.w) hall hl h0 h15 (bW (h pins _ σ _ _ I1 (q _ hn)) λws s2 ⟨ps,H2,I2,rel,e,kvs,ep,lk,q2⟩=>?_);subst ep;obtain⟨rs,c,rk⟩:=pD (P:=X.prog) (w:=X.w) rel;obtain⟨z,hd,vs0,r0,dd⟩:=uq I2.hok e;cases r0;refine⟨rs,c,dd,λh' dd' hs=>⟨.ref s.heap.objs.size,_,?_,rfl,q2⟩⟩;have hz:(m9 [] kvs).length<=sizeLine:=by have h1:=lG kvs [];rw[KO]at h1;rw[Mi];lia
 have he:∃ q,h'.get? s.heap.objs.size=some q:=let ⟨q,_,_,hq,_⟩:=dd';⟨q,hq⟩;exact lq I2 (by rw[e];exact True.intro) hs he (sM hz hd (rk.merge .nil) dd')
structure M1 (X:Cx) (o:Expr) (m:Str) (apos:Pos) (e:Expr) (cpos:Pos):Prop where
 base:attributeBase o m X.env (eval o X.env)=eval o X.env
 few:((backTo cpos (starEach [e] X.env)).all (λx=>!x.1)&&(backToKw cpos (keywordEach [] X.env)).all (λx=>x.1.isSome)
  && decide (([e]:List Expr).length+([]:List Keyword).length+(if ([]:List Keyword).isEmpty then 0 else 1)<30))=true
 line:(apos.endLine==cpos.line)=true
 trees:backTo cpos (starEach [e] X.env)=[(false,eval e X.env)]
structure M2 (X:Cx) (o:Expr) (m:Str) (apos:Pos) (e f:Expr) (cpos:Pos):Prop where
 base:attributeBase o m X.env (eval o X.env)=eval o X.env
 few:((backTo cpos (starEach [e,f] X.env)).all (λx=>!x.1)&&(backToKw cpos (keywordEach [] X.env)).all (λx=>x.1.isSome)
  && decide (([e,f]:List Expr).length+([]:List Keyword).length+(if ([]:List Keyword).isEmpty then 0 else 1)<30))=true
 line:(apos.endLine==cpos.line)=true
 trees:backTo cpos (starEach [e,f] X.env)=[(false,eval e X.env),(false,eval f X.env)]
def EV (H:Hp)(a:Addr):Prop:=(∃ kvs,Rd H a (.dK kvs))\/∃ kvs,Rd H a (.dT kvs)
theorem m_ {X:Cx}{pins:List (Addr×Obj)}{σ:St}{H:Hp}{s:Ox}{a:Addr}(I:Inv X pins σ H s)(d:EV H a) :
 s.TypeIs (.ref a) "dict"/\(∀ b,Value.ref a=.ref b->∃ ob,s.heap.get? b=some ob/\ob.dict=none)/\(a==sysModules)=false:=by
 rcases d with⟨kvs,e⟩|⟨kvs,e⟩
 .obtain⟨_,hd,vs,_,dd⟩:=l7 I.hok e;refine⟨dd.typeIs,λb q=>?_,hd⟩;cases q;obtain⟨ob,_,_,h1,h2,_⟩:=dd;exact⟨ob,h1,h2.2.1⟩
 .obtain⟨_,hd,xs,_,dd⟩:=lF I.hok e;refine⟨dd.typeIs,λb q=>?_,hd⟩;cases q;obtain⟨ob,_,_,h1,h2,_⟩:=dd;exact⟨ob,h1,h2.2.1⟩
section
variable {X:Cx}{pins:List (Addr×Obj)}{σ:St}{H:Hp}{s:Ox}{a:Addr}{y d:V}{u r:OA}{o:Option V}{A:OB}{E:OA->Ox->Prop}
theorem Au {Q:OA->Ox->Prop}(hu:A.units+1<cLine)(I:Inv X pins σ H s)(g:DGet H a y o)(ry:RelV y u)(h:∀ w' s',Inv X pins σ H s'->RelV (o.getD .non) w'->Q w' s') :
 wpAny (model X.prog X.w) A (call (.builtin "dict.get") [.ref a,u]) Q E s:=by
 rcases g with⟨kvs,k,e,ey,l⟩|⟨kvs,k,b,e,ey,eb,l⟩
 .subst ey;obtain⟨z,hd,vs,rel,dd⟩:=l7 I.hok e;refine Mq Lh dd.typeIs LN (MU _ _) (meets_dict_get (av X.prog X.w) a (j6 ry) hd) ⟨_,dd.mapOf,h _ _ (I.tok _) ?_⟩;rw[l];exact(rel.val k).getD rfl
 .subst ey;cases (show u=Value.ref b from ry);obtain⟨z,hd,xs,rel,dd⟩:=lF I.hok e;refine Mq Lh dd.typeIs LN (MU _ _) (meetsH_dict_get (tupleKind (av X.prog X.w)) a b hd) ⟨LZ hu,k,xs,iX I.hok eb,dd,h _ _ (I.tok _) ?_⟩;rw[l];exact(rel.val k).getD rfl
theorem Av {Q:OA->Ox->Prop}(hu:A.units+1<cLine)(I:Inv X pins σ H s)(g:DGet H a y o)(ry:RelV y u)(rd:RelV d r)(h:∀ w' s',Inv X pins σ H s'->RelV (o.getD d) w'->Q w' s') :
 wpAny (model X.prog X.w) A (call (.builtin "dict.get") [.ref a,u,r]) Q E s:=by
 rcases g with⟨kvs,k,e,ey,l⟩|⟨kvs,k,b,e,ey,eb,l⟩
 .subst ey;obtain⟨z,hd,vs,rel,dd⟩:=l7 I.hok e;refine Mq Lh dd.typeIs LN (MV _ _ _) (meets_dict_get_default (av X.prog X.w) a (j6 ry) hd r) ⟨_,dd.mapOf,h _ _ (I.tok _) ?_⟩;rw[l];exact(rel.val k).getD rd
 .subst ey;cases (show u=Value.ref b from ry);obtain⟨z,hd,xs,rel,dd⟩:=lF I.hok e;refine Mq Lh dd.typeIs LN (MV _ _ _) (meetsH_dict_get_default (tupleKind (av X.prog X.w)) a b hd r) ⟨LZ hu,k,xs,iX I.hok eb,dd,h _ _ (I.tok _) ?_⟩;rw[l];exact(rel.val k).getD rd
end
noncomputable def Aw (td ty:TE):TE:=λσ H Q=>td σ H λx H1=>∃ a,x=.ref a/\EV H1 a/\ty σ H1 λy H2=>∃ o,DGet H2 a y o/\Q (o.getD .non) H2
noncomputable def pE (td ty tx:TE):TE:=λσ H Q=>td σ H λx H1=>∃ a,x=.ref a/\EV H1 a/\ty σ H1 λy H2=>tx σ H2 λz H3=>∃ o,DGet H3 a y o/\Q (o.getD z) H3
def wo (td ty:TE):TE:=λσ H Q=>td σ H λx H1=>∃ a,x=.ref a/\EV H1 a/\ty σ H1 λy H2=>∃ kvs k v,H2 a=some (.dK kvs)/\y=kV k/\fS kvs k=some v/\Q v (aB H2 a (.dK (lE kvs k)))
section
variable {X:Cx}{o e f:Expr}{apos cpos:Pos}{td ty tx:TE}
theorem Ax (hu:X.A.units+1<cLine) (ho:PE X o td) (he:PE X e ty) (m:M1 X o "get" apos e cpos):PE X (.Call (.Attribute o "get" apos) [e] [] cpos) (Aw td ty):=by intro pins s σ H Q I h;refine Ng m.base m.few m.line KW Lh M_ (bW (ho pins s σ H _ I h) λu s1 ⟨x,H1,I1,rx,a,ex,d,q1⟩=>?_);subst ex;obtain rfl:u=Value.ref a:=rx;obtain⟨t1,t2,_⟩:=m_ I1 d;refine⟨t1,t2,?_⟩;rw[m.trees];refine Lz rfl (Mx (Me (bW (he pins s1 σ H1 _ I1 q1) λiv s2 ⟨y,H2,I2,ry,ov,g,q2⟩=>MM ?_)));exact Au hu I2 g ry λw' s3 I3 rw'=>⟨_,H2,I3,rw',q2⟩
theorem pF (hu:X.A.units+1<cLine) (ho:PE X o td) (he:PE X e ty) (hf:PE X f tx) (m:M2 X o "get" apos e f cpos):PE X (.Call (.Attribute o "get" apos) [e,f] [] cpos) (pE td ty tx):=by intro pins s σ H Q I h;refine Ng m.base m.few m.line KW Lh M_ (bW (ho pins s σ H _ I h) λu s1 ⟨x,H1,I1,rx,a,ex,d,q1⟩=>?_);subst ex;obtain rfl:u=Value.ref a:=rx;obtain⟨t1,t2,_⟩:=m_ I1 d;refine⟨t1,t2,?_⟩;rw[m.trees];refine Lz rfl (Mx (Me (bW (he pins s1 σ H1 _ I1 q1) λiv s2 ⟨y,H2,I2,ry,q2⟩=>Me (bW (hf pins s2 σ H2 _ I2 q2) λfv s3 ⟨z,H3,I3,rz,ov,g,q3⟩=>MM ?_))));exact Av hu I3 g ry rz λw' s4 I4 rw'=>⟨_,H3,I4,rw',q3⟩
theorem uv (ho:PE X o td) (he:PE X e ty) (m:M1 X o "pop" apos e cpos):PE X (.Call (.Attribute o "pop" apos) [e] [] cpos) (wo td ty):=by intro pins s σ H Q I h;refine Ng m.base m.few m.line KW PySem.F.slot_dict_pop PySem.F.type_dict_pop (bW (ho pins s σ H _ I h) λu s1 ⟨x,H1,I1,rx,a,ex,d,q1⟩=>?_);subst ex;obtain rfl:u=Value.ref a:=rx;obtain⟨t1,t2,_⟩:=m_ I1 d;refine⟨t1,t2,?_⟩;rw[m.trees];refine Lz rfl (Mx (Me (bW (he pins s1 σ H1 _ I1 q1) λiv s2 ⟨y,H2,I2,ry,kvs,k,v,ea,ey,l,q2⟩=>MM ?_)));subst ey;exact HE I2 ea ry l (.inl rfl) λw' s3 I3 rw'=>⟨v,_,I3,rw',q2⟩
end
section
variable {X:Cx}{pins:List (Addr×Obj)}{σ:St}{H:Hp}{s:Ox}{a:Addr}{kvs:List (Key×V)}{A:OB}{E:OA->Ox->Prop}
end
section
variable {X:Cx}{pins:List (Addr×Obj)}{σ:St}{H:Hp}{s:Ox}{a:Addr}{y:V}{u:OA}{A:OB}{E:OA->Ox->Prop}
end
end L2
namespace Att
open PySem PySem.W PySem.Calls PyProof.Rows
theorem ox {P:Params}{h:Heap}:∀(ns:List Int)(vs:List OA),WellAll P h vs (ns.map WData.int)->IntsAre vs ns:=by
 intro ns;induction ns with
 |nil=>intro vs w;rw[K_]at w;cases w;exact .nil
 |cons n ns ih=>
  intro vs w;rw[Kr]at w;cases w with
  |cons a b=>cases a;exact .cons _ _ (ih _ b)
theorem yT {l:OpenLaw}{n:Nat}(hn:l.most=some n){P:Params}{h:Heap}{args:List WData}{vals:List OA}
 (hpre:l.row.toRowW.claim.pre args=true) (hwl:WellAll P h vals args) :
 ∃ a vs ns,vals=[Value.ref a]/\args=[WData.list (ns.map WData.int)]/\h.get? a=some { cls:=.type "list",data:=.seq vs.toArray }/\IntsAre vs ns/\ns.length<=n:=by
 have hsh:WShape.hasAll [] args [.list .int]=true:=(pre_splitW hpre).1;have hc:l.pre.holds [] { args:=args }=true:=(pre_splitW hpre).2;obtain⟨d,r,rfl,h1,h2⟩:=hasAllW_cons hsh;obtain rfl:=hasAllW_nil h2;obtain⟨xs,rfl,h3⟩:=hasW_list h1;obtain⟨ns,rfl⟩:=items_int h3;have aR:ns.length<=n:=by
  unfold OpenLaw.pre at hc;have h4:(WTm.not (.lt (.lit (.int (n:Int))) (.len (.arg 0)))).holds [] { args:=[.list (ns.map .int)] }=true:=by have h4:=(holds_andW hc).1;rw[hn]at h4;exact h4
  have h5:=condW_of h4 (w_not (w_lt w_lit (w_len_list (w_arg rfl))));rw[Kw]at h5;refine Nat.le_of_not_lt λq=>?_;have q':(n:Int)<((ns.length:Nat):Int):=by lia
  first
   |(rw[Kz q']at h5;exact absurd h5 (by decide))
   |(simp at h5;lia)
 cases hwl with
 |cons w1 w2=>
  cases w2;cases w1 with
  |list ho hall=>exact⟨_,_,ns,rfl,rfl,ho,ox ns _ hall,aR⟩
theorem yU (l:OpenLaw)(args:List WData):l.row.toRowW.claim.post args (.bool true) args=true:=
 postW_of (r:=l.row.toRowW) (X:=(true==true))
  (show WShape.has [] (.bool true) .bool=true by first|rfl|decide|simp[WShape.has,WShape.arms,WShape.armsAll])
  (show(WTm.eq .res (.lit (.bool true))).value [] { args:=args,res:=some (.bool true),after:=args }=some (.bool (true==true)) from w_eq_bool (w_res rfl) w_lit) rfl
theorem attach_call {l:OpenLaw}{n:Nat}{q:Oz}{loose:List Str}{XP:(Str->Option OA)->Heap->Prop}{YP:World->Heap->Prop}{d:DefRec}
 (hn:l.most=some n) (hdf:d.params.defaults=[])
 (call:∀(w:World)(s₀ s₁:Ox)(mg mb:Str->Option OA)(fa:Addr)(o:Obj)(pm cd doc:OA)(a:Addr)(vs:List OA)(ns:List Int),
   Ground q loose [] XP w s₀ mg mb s₁.heap->YP w s₁.heap->
   s₁.heap.get? fa=some o->o.data=.func (docDef d.name d.params d.body d.scope pm cd doc)->s₁.heap.CodeRec cd d.name->mg d.name=some (.ref fa)->
   s₁.heap.get? a=some { cls:=.type "list",data:=.seq vs.toArray }->IntsAre vs ns->ns.length<=n->s₁.gens=#[]->
   codeAny (model l.prog w) callerA (.call (.ref fa) ⟨[.ref a],[]⟩) (λr s'=>r=.ok (.ret (.bool true))/\OldK s₁.heap s'.heap/\s'.os=s₁.os/\AllBare s'.gens) s₁) :
 WalkO q loose XP YP l.row.toRowW d [] (λf vs=>PySem.call f vs):=by
 intro w s₀ s₁ mg mb G Y fa o pm cd doc dV kV ho hd hcd hD hmg hg args vals as hpre hlay hrd hwl hlo;obtain rfl:dV=.none:=Dflts.none hD hdf;obtain rfl:kV=.none:=Dflts.noKw hD;obtain⟨a,vs,ns,rfl,rfl,hobj,hints,aR⟩:=yT hn hpre hwl;refine enter_call (codeAny_mono (call w s₀ s₁ mg mb fa o pm cd doc a vs ns G Y ho (fd_plain hd) hcd hmg hobj hints aR hg) λr s' hq=>?_);obtain⟨rfl,h2,h3,h4⟩:=hq;exact⟨.inl ⟨.bool true,.bool true,[],rfl,λ_=>rfl,.bool true,yU l _,λ_=>⟨List.Pairwise.nil,λ_ hm=>(nomatch hm)⟩⟩,h2,h3,h4⟩
section
variable {prog:Oz}{w:World}{A:OB}{E:OA->Ox->Prop}{s:Ox}{K:Frag}
end
end Att
namespace L2
open PySem PySem.Spec PyProof.Rows
noncomputable def iG (s:Stmt)(j:Nat):Stmt:=match s with
 | .ClassDef _ _ _ body _ _ _ _ _ _ _=>body.getD j (.Pass ⟨0,0,0,0⟩)
 |_=>.Pass ⟨0,0,0,0⟩
noncomputable def defArgs (s:Stmt):Arguments:=match s with
 | .FunctionDef _ a _ _ _ _ _ _ _ _=>a
 |_=>{ posonlyargs:=[],args:=[],vararg:=none,kwonlyargs:=[],kw_defaults:=[],kwarg:=none,defaults:=[] }
noncomputable def defBody (s:Stmt):List Stmt:=match s with
 | .FunctionDef _ _ b _ _ _ _ _ _ _=>b
 |_=>[]
noncomputable def defScope (s:Stmt):Scope:=match s with
 | .FunctionDef _ _ _ _ _ _ sc _ _ _=>sc
 |_=>{ kind:=.function,names:=[],isGenerator:=false,isCoroutine:=false }
noncomputable abbrev lA:CXT:=λ_ _ _ _ _ _=>False
noncomputable abbrev E0:XK:=λ_ _ _=>False
theorem iY {X:Cx}:iU lA X E0:=λ_ _ _ _ _ _ _ h=>h.elim
structure Fun (K:Oy) (x qual:Str) (st:Stmt) (f:Addr) (fd:FuncData):Prop where
 ex:∃(oc:OA)(od:Option Addr)(kV doc pm:OA)(an:Option Addr)(cdv ct:OA)(osl:Array (Option OA)),
  fd=PySem.W.fnOf x qual (defArgs st) (defBody st) (defScope st) .none kV doc pm an cdv ct/\K.lookup f=some ⟨oc,od,.func fd,osl⟩/\PySem.W.codeIn K cdv qual=true
 kp:PySem.W.keepIn K (.ref f)=true
section
variable {P:Oz}{w:World}{K:Oy}{mg:Str->Option OA}{base:Heap}
theorem Fun.ok {x qual:Str}{st:Stmt}{f:Addr}{fd:FuncData}{N ps:List Str}{k:Nat}{sp:Sp}(F:Fun K x qual st f fd)(S:FnScope N ps (defScope st))(len:∀ vs H Q E,sp vs H Q E->vs.length=ps.length)
 (hbody:∀(cdv:OA)(A:OB)(outer:List Env)(s:Ox)(H:Hp)(vs:List V)(Q:VK)(E:XK),Room k (A.deeper (envOfC qual (defScope st) s.heap.objs.size f cdv))->sp vs H Q E->
   ∃ t,PSs (we lA P w K mg base N qual (defScope st) f cdv A outer s H E).nox (defBody st) t/\t { nx:=λ_ H'=>Q .non H',rt:=Q } (dh N vs) H):FnOk P w K mg base lA (k+1) f fd ps sp:=by
 obtain⟨oc,od,kV,doc,pm,an,cdv,ct,osl,rfl,lk,hcd⟩:=F.ex;refine Hz lk hcd S len λA outer s H vs Q E hr hsp=>?_;obtain⟨t,h,q⟩:=hbody cdv A outer s H vs Q E hr hsp;exact⟨t,h.nox,q⟩
theorem Fun.binds {x qual:Str}{st:Stmt}{f:Addr}{fd:FuncData}{ps:List Str}(F:Fun K x qual st f fd)
 (h:∀(kV doc pm:OA)(an:Option Addr)(cdv ct:OA)(us:List OA),us.length=ps.length->bindArgs (PySem.W.fnOf x qual (defArgs st) (defBody st) (defScope st) .none kV doc pm an cdv ct) ⟨us,[]⟩=pure (ps.zip us)):Binds K fd ps []:=by
 obtain⟨oc,od,kV,doc,pm,an,cdv,ct,osl,rfl,lk,hcd⟩:=F.ex;exact .all (h kV doc pm an cdv ct)
theorem nc {x qual:Str}{st:Stmt}{f:Addr}{oc:OA}{od an:Option Addr}{osl:Array (Option OA)}{kV doc pm cdv ct:OA}(l:K.lookup f=some ⟨oc,od,.func (PySem.W.fnOf x qual (defArgs st) (defBody st) (defScope st) .none kV doc pm an cdv ct),osl⟩)
 (c:PySem.W.codeIn K cdv qual=true) (k:PySem.W.keepIn K (.ref f)=true):Fun K x qual st f (PySem.W.fnOf x qual (defArgs st) (defBody st) (defScope st) .none kV doc pm an cdv ct):=⟨⟨oc,od,kV,doc,pm,an,cdv,ct,osl,rfl,l,c⟩,k⟩
end
theorem rD {A:OB}{k:Nat}(hr:Room k A):A.units+1<cLine:=Ls (N4 (by decide:1<=64) _) hr.units
section
variable {X:Cx}
theorem pv (i:Nat) {x:Str} {pos:Pos} (hN:autoParam (X.N[i]?=some x) OH._auto_1) (hv:autoParam (Vis X.env.scope x) OE._auto_1) (hd:autoParam ((x==("__debug__" : Str))=false) OC._auto_1)
 (hcd:autoParam ((x==("__classdict__" : Str))=false) OC._auto_1):PE X (.Name x pos) (aw i):=Fz hN hv hd hcd
end
theorem uw {A B:Prop}(h:B):if false=true then A else B:=by rw[Kv K5];exact h
theorem sN {A B:Prop}(h:A):if true=true then A else B:=by rw[Ku rfl];exact h
theorem Ay {c A B:Prop}[Decidable c](h1:c->A)(h2:¬ c->B):if c then A else B:=by
 by_cases h:c
 .rw[Ku h];exact h1 h
 .rw[Kv h];exact h2 h
def Same (H H':Hp):Prop:=∀ b o,H b=some o->H' b=some o
theorem Same.refl (H:Hp):Same H H:=λ_ _ h=>h
theorem Same.trans {H H1 H2:Hp}(a:Same H H1)(b:Same H1 H2):Same H H2:=λc o h=>b c o (a c o h)
theorem Same.free {H H':Hp}(e:Same H H'){l:Addr}(h:H' l=Option.none):H l=Option.none:=by
 cases q:H l with
 |none=>rfl
 |some o=>rw[e l o q]at h;cases h
section
variable {κ:Type}[DecidableEq κ]
end
section
variable {P:Oz}{w:World}{K:Oy}{mg:Str->Option OA}{base:Heap}{N:List Str}{qual:Str}{scope:Scope}{f:Addr}{cd:OA}{A:OB}{outer:List Env}{s₀:Ox}{H₀:Hp}{E:XK}
end
section
variable {X:Cx}{c:Str}{C:Addr}{np cpos pos:Pos}{e₀:Expr}{rest:List Expr}{t:TA}
end
section
variable {M:Model}{A:OB}{E:OA->Ox->Prop}
end
abbrev TX:=St->Hp->VK->XK->Prop
section
variable {X:Cx}{k:Nat}{f:Addr}{fd:FuncData}{ps:List Str}{sp:Sp}{dvs:List V}{ds:List OA}{x:Str}{p pos:Pos}{e:Expr}{es:List Expr}{t:TA}
end
section
variable {X:Cx}{pins:List (Addr×Obj)}{σ:St}{H:Hp}{s:Ox}{x:Addr}
end
section
variable {X:Cx}{hc:Str}{Ch:Addr}{np hpos pos epos:Pos}{b₀:Stmt}{suite:List Stmt}{ts:TS}{te:TX}{e:Expr}
end
end L2
namespace L2
open PySem PySem.Spec PySem.Calls PyProof.Rows
theorem oy
 (hx:s.heap.get? a=some o) (hc:o.cls=.type "list") (hdat:o.data=.seq xs k) (hd:o.dict=none) (hmiss:typeLookup (.type "list") name=pure none) (hname:(["__module__", "__name__", "__qualname__", "__doc__", "__annotations__"]:List Str).contains name=false) (hA:A.handled=none)
 (h:∀ h' tk e,Heap.NewExcOf s.heap h' e "AttributeError"->Q none { s with heap:=h',toks:=tk }) (hsz:name.length+100<=sizeLine:=by size_fits) :
 wpAny (model prog w) A (getAttr? (.ref a) name) Q E s:=by
 obtain⟨c,dct,dat,sl⟩:=o;simp only at hc hdat hd;subst hc hdat hd;obtain⟨hp,g,d,tk,os⟩:=s;have hT:∀ tk',(⟨hp,g,d,tk',os⟩ : Ox).TypeIs (.ref a) "list":=λ_=>⟨_,hx,rfl⟩;have f1:=sub_AttributeError;have f3:=PySem.F.slot_list_getattribute.lookup;have f4:=PySem.F.slot_list_getattribute.bind (.ref a);have f5:=am_list_getattr_none;unfold getAttr? getAttrBy? getAttrBy
 repeat (any_goals (first|assumption|exact hT _|((with_reducible show wpAny _ _ (call (Value.builtin "list.__getattribute__") _ _) _ _ _);refine call_meets PySem.F.slot_list_getattribute (hT _) am_entry_list_getattribute (PySem.F.args_list_getattribute_2 _ _) (meets_getattribute_miss_list a xs k sl name _ hmiss hname hsz) ⟨hx,hA,λh' tk' e hx'=>?_⟩)|wp_step))
 obtain⟨t',u',he⟩:=hx'.there;show wpAny _ _ (getattributeRaised _ _ _ _ _ _ _) _ _ _;unfold getattributeRaised
 repeat (any_goals (first|assumption|wp_step))
 exact h _ _ _ hx'.of
abbrev lH:=List Key×Addr×OA
noncomputable def xD (xs:List lH)(its:List lH):List lH:=its.foldl (λxs x=>storedH xs x.1 x.2.1 x.2.2) xs
theorem l9:entryFor table "dict.update.loop"=some Builtin.«dict.update.loop»:=entryFor_of_tree (by kernel_rfl)
theorem iH:plainId "dict.update.loop"=true:=by decide +kernel
section
variable {prog:Oz}{w:World}
abbrev tK (prog:Oz)(w:World):=tupleKind (av prog w)
def DRaw (prog:Oz)(w:World)(h:Heap)(S:Addr)(xs:List lH):Prop:=∃ o es ep,h.get? S=some o/\o.ExactDict/\o.data=.dict es ep/\es.toList=xs.map (entryOfKey (tK prog w))/\(xs.map (·.1)).Nodup
theorem xE (x:(tK prog w).is h k a)(e:∀ b o,h.get? b=some o->h'.get? b=some o):(tK prog w).is h' k a:=by obtain⟨o,items,n,h1,r⟩:=x;exact⟨o,items,n,e _ _ h1,r⟩
theorem DRaw.of (d:DRaw prog w h S xs)(ks:∀ x∈xs,(tK prog w).is hb x.1 x.2.1)(e:∀ b o,hb.get? b=some o->h.get? b=some o):h.DictOfH (tK prog w) S xs:=by obtain⟨o,es,ep,h1,h2,h3,h4,h5⟩:=d;exact⟨o,es,ep,h1,h2,h3,h4,λx hx=>xE (ks x hx) e,h5⟩
theorem wq (ks:∀ x∈xs,(tK prog w).is hb x.1 x.2.1)(hk:(tK prog w).is hb k a):∀ x∈storedH xs k a v,(tK prog w).is hb x.1 x.2.1:=by
 unfold storedH;split
 .intro x hx;obtain⟨y,hy,rfl⟩:=KH.mp hx;have:=ks y hy;unfold putAt;split<;>exact this
 .intro x hx;rcases Lf.mp hx with hx|hx
  .exact ks x hx
  .simp at hx;subst hx;exact hk
theorem ux {xs:List lH}{k:List Key}:(storedH xs k a v).length<=xs.length+1:=by
 unfold storedH;split
 .rw[Kw];lia
 .rw[KI];simp
variable {A:OB}{R:Result->Ox->Prop}{I:Addr}{fp wr:List Addr}{G:Array GenState->Array GenState->Prop}{n:Nat}{P:Nat->OA->Prop}{St:Nat->Ox->Prop}
theorem l_ (W:WalksS prog w A.in1 I fp wr G n P St)(S:Addr)(hSf:S∉fp)(hu:A.in1.units<cLine)(hb:Heap)(hbS:hb.get? S=none)(hbw:∀ b∈wr,hb.get? b=none)(its:List lH)(hn:its.length=n)
 (hval:∀ i v,P i v->∃ p x,v=.ref p/\its[i]?=some x/\hb.IsTuple p #[.ref x.2.1,x.2.2]/\(tK prog w).is hb x.1 x.2.1) (hsz:n<=sizeLine) :
 ∀(k i:Nat)(s:Ox)(xs:List lH)(j:Int),n-i=k->i<=n->St i s->(∀ b o,hb.get? b=some o->s.heap.get? b=some o)->(∀ x∈xs,(tK prog w).is hb x.1 x.2.1)->xs.length<=i->
  DRaw prog w s.heap S xs->
  (∀ s',Moved (S::wr) G s s'->s'.heap.DictOfH (tK prog w) S (xD xs (its.drop i))->R (.ok (.ret .none)) s')->
  codeAny (model prog w) A (.builtin "dict.update.loop" ⟨[.ref S,.ref I,rawInt j,.none],[]⟩) R s:=by
 have hSw:S∉wr:=λh=>hSf (W.sub _ h);have hsub:∀ b∈wr,b∈S::wr:=λb hb=>Kx _ hb;intro k;induction k with
 |zero=>
  intro i s xs j hk hi hst K ks hxl hS hR;have hin:i=n:=by lia
  subst hin;refine Nz l9 ?_;rw[MK iH _];show wpAny _ A.in1 (pyNext (.ref I) >>= _) _ _ s;refine Kp (W.done s _ _ hst λs' hm=>?_);have hR':=hR s' (hm.mono hsub) (by rw[List.drop_of_length_le (by lia)];obtain⟨o,es,ep,ho,rest⟩:=hS;exact DRaw.of (hb:=hb) ⟨o,es,ep,hm.heap S _ hSw ho,rest⟩ ks λb o e=>hm.heap b o (λz=>by rw[hbw b z]at e;cases e) (K b o e));show wpAny _ A.in1 (Builtin.Dict.addKeywords S [] >>= λ_=>ret Value.none) _ _ s';exact Kp (Kt (Kt hR'))
 |succ k ih=>
  intro i s xs j hk hi hst K ks hxl hS hR;have hlt:i<n:=by lia
  refine Nz l9 ?_;rw[MK iH _];show wpAny _ A.in1 (pyNext (.ref I) >>= _) _ _ s;refine Kp (W.item i s _ _ hlt hst λv s' hP hst' hm=>?_);obtain⟨p,x,rfl,hx,ht,jK⟩:=hval i v hP;have K':∀ b o,hb.get? b=some o->s'.heap.get? b=some o:=λb o e=>hm.heap b o (λz=>by rw[hbw b z]at e;cases e) (K b o e);obtain⟨ot,hot,hct,nt,hdt⟩:=ht;have hT:s'.TypeIs (.ref p) "tuple":=⟨ot,K' _ _ hot,hct⟩;have hS':DRaw prog w s'.heap S xs:=by obtain⟨o,es,ep,ho,rest⟩:=hS;exact⟨o,es,ep,hm.heap S _ hSw ho,rest⟩
  refine Kp (Mo ?_);refine Kp ?_;refine NN ?_;unfold Builtin.Dict.pairItems;refine Kp (N9 hT ?_);rw[Ku (by decide)];refine Kp (Od (K' _ _ hot) hdt ?_);refine Kt ?_;show wpAny _ A.in1 (holding [Value.ref x.2.1,x.2.2] (dictSet S (.ref x.2.1) x.2.2)) _ _ s';refine Mo ?_;refine wpAny_dictSet_heap (knd:=tK prog w) (hsz:=by lia) hu (xE jK K') (DRaw.of hS' ks K') λh' hd' hs'=>?_;have K2:∀ b o,hb.get? b=some o->h'.get? b=some o:=λb o e=>(hs'.2 b (λz=>by subst z;rw[hbS]at e;cases e)).trans (K' b o e);have hdrop:its.drop i=x::its.drop (i+1):=by
   have hil:i<its.length:=by lia
   rw[MH hil];rw[Nw hil]at hx;rw[La hx]
  refine Kt ⟨NA iH _,ih (i+1) _ (storedH xs x.1 x.2.1 x.2.2) (j+1) (by lia) hlt (W.frame _ s' _ _ hst' (On _ _) λb hb o e=>?_) K2 (wq ks jK) (by have:=ux (xs:=xs) (k:=x.1) (a:=x.2.1) (v:=x.2.2);lia) ?_ λs'' hm'' hS''=>?_⟩
  .rw[hs'.2 b (λh:b=S=>hSf (by rw[<- h];exact hb))];exact e
  .obtain⟨o,es,ep,h1,h2,h3,h4,_,h5⟩:=hd';exact⟨o,es,ep,h1,h2,h3,h4,h5⟩
  .refine hR s'' (Moved.trans W.gtrans ((hm.mono hsub).then_heap (On _ _) λb o hb e=>?_) hm'') (by rw[hdrop];exact hS'');rw[hs'.2 b (λh:b=S=>hb (by rw[h];exact KE))];exact e
end
section
variable {prog:Oz}{w:World}{A:OB}{E:OA->Ox->Prop}{s:Ox}
theorem oz (hh:A.handled=none) (hu:A.in1.in1.units<cLine) (hl:s.heap.get? l=some { cls:=.type "list",data:=.seq items nl }) (hn:its.length=items.size) (hsz:items.size<=sizeLine)
 (hval:∀(i:Nat)(v:OA),items[i]?=some v->∃(p:Addr)(x:lH),v=.ref p/\its[i]?=some x/\s.heap.IsTuple p #[.ref x.2.1,x.2.2]/\(tK prog w).is s.heap x.1 x.2.1)
 (h:∀(h':Heap)(tk:Nat),h'.DictOfH (tK prog w) s.heap.objs.size (xD [] its)->(∀ b o,b<s.heap.objs.size->s.heap.get? b=some o->h'.get? b=some o)->Q (.ref s.heap.objs.size) { s with heap:=h',toks:=tk }) :
 wpAny (model prog w) A (call (.type "dict") [.ref l]) Q E s:=by
 refine callType_codes (Q₁:=λobj s₁=>obj=.ref s.heap.objs.size/\s₁={ s with heap:=s.heap.push { cls:=.type "dict",data:=.dict #[] } }) PySem.F.kt_called_dict (PySem.F.kt_typeCall_dict_1 _) PySem.F.entry_dict_init (kt_code_dict_new _ ⟨rfl,rfl⟩) ?_;rintro obj s₁ ⟨rfl,rfl⟩;have hD:(s.heap.push { cls:=.type "dict",data:=.dict #[] }).get? s.heap.objs.size=some { cls:=.type "dict",data:=.dict #[] }:=KF _ rfl;have hT:Shared.TypeIs { s with heap:=s.heap.push { cls:=.type "dict",data:=.dict #[] } } (.ref s.heap.objs.size) "dict":=⟨_,hD,rfl⟩;refine⟨hT,PySem.F.args_dict_init_2 _ _,?_⟩;unfold Builtin.«dict.__init__»;refine Kp ?_;unfold Builtin.Dict.selfAndRest;refine Kp (MF hT ?_);show wpAny _ _ (pure (s.heap.objs.size,[Value.ref l])) _ _ _;refine Kt ?_;show wpAny _ _ (Builtin.Dict.updateFrom "dict.__init__" s.heap.objs.size (.ref l) [] .none) _ _ _;unfold Builtin.Dict.updateFrom;have hl1:(s.heap.push { cls:=.type "dict",data:=.dict #[] }).get? l=some { cls:=.type "list",data:=.seq items nl }:=Ks _ hl;refine Kp (N9 ⟨_,hl1,rfl⟩ ?_);rw[Ku (by decide)];refine Kp (oy (s:={ s with heap:=s.heap.push { cls:=.type "dict",data:=.dict #[] } }) hl1 rfl rfl rfl (am_miss_of_fast (by decide +kernel)) (by decide +kernel) (by simp[hh]) λh1 tk1 e1 hx1=>?_);rw[Ku (by decide)];refine Kp (NJ ?_);have k1:∀ b o,s.heap.get? b=some o->h1.get? b=some o:=λb o e=>hx1.keeps b o (Ks _ e);have hl2:h1.get? l=some { cls:=.type "list",data:=.seq items nl }:=k1 _ _ hl;have hD1:h1.get? s.heap.objs.size=some { cls:=.type "dict",data:=.dict #[] }:=hx1.keeps _ _ hD;have hlt1:s.heap.objs.size<h1.objs.size:=KD hD1;have hll:l<s.heap.objs.size:=KD hl;refine Kp (Nc (s:=⟨h1,s.gens,s.drawn,tk1,s.os⟩) ⟨_,hl2,rfl,nl,rfl⟩ ?_);have hh3:A.in1.in1.handled=none:=by simp[hh]
 have hno:∀ b,s.heap.objs.size<=b->s.heap.get? b=none:=λb hb=>by
  cases q:s.heap.get? b with
  |none=>rfl
  |some o=>exact absurd (KD q) (Nat.not_lt.mpr hb)
 have hneI:l≠h1.objs.size:=KR (Nat.lt_trans hll hlt1);have k2:∀ b o,h1.get? b=some o->(h1.push { cls:=.type "list_iterator",data:=.fields #[.ref l,.int 0 0] }).get? b=some o:=λb o e=>Ks _ e;refine Kt ⟨NA iH _,l_ (A:=A.in1) ((Walks.list hh3 h1.objs.size l hneI items).toS) s.heap.objs.size ?_ hu s.heap (hno _ (Kq _)) ?_ its hn hval hsz (items.size-0) 0 _ [] 0 rfl (LF _) ⟨⟨_,KF _ rfl,rfl,rfl⟩,⟨_,k2 _ _ hl2,rfl,nl,rfl⟩⟩ (λb o e=>k2 _ _ (k1 b o e)) (λx hx=>nomatch hx) (Kq _) ⟨_,#[],0,k2 _ _ hD1,?_,rfl,rfl,KY⟩ ?_⟩
 .simp only[KB,KG,or_false,not_or];exact⟨KR hlt1,NO hll⟩
 .intro b hb;simp only[KB,KG,or_false]at hb;subst hb;exact hno _ (Ou hlt1)
 .exact⟨rfl,rfl,rfl⟩
 .intro s' hm hS';obtain⟨h',g',d',tk',os'⟩:=s';have eg:g'=s.gens:=hm.gens;have ed:d'=s.drawn:=hm.drawn;have eo:os'=s.os:=hm.os;subst eg;subst ed;subst eo;refine⟨rfl,h h' tk' hS' λb o hb e=>hm.heap b o ?_ (k2 _ _ (k1 _ _ e))⟩;simp only[KB,KG,or_false,not_or];exact⟨KR hb,KR (Nat.lt_trans hb hlt1)⟩
end
def ko (t kvs:List (List Key×V)):List (List Key×V):=kvs.foldl (λt x=>cf t x.1 x.2) t
def sO (H:Hp):List V->List (List Key×V)->Prop:=Paired λv kv=>∃ p ka,v=.ref p/\H p=some (.tup [.ref ka,kv.2])/\H ka=some (.tup (kv.1.map kV))
section
variable {P:Oz}{w:World}{H:Hp}{h:Heap}
theorem rE (ok:HOk P w H h):∀{vs:List V}{us:List OA}{kvs:List (List Key×V)},sO H vs kvs->Vals vs us->
 ∃ its:List lH,its.length=us.length/\(∀(i:Nat)(v:OA),us[i]?=some v->∃(p:Addr)(x:lH),v=.ref p/\its[i]?=some x/\h.IsTuple p #[.ref x.2.1,x.2.2]/\(tK P w).is h x.1 x.2.1)/\
  ∀ t xs,KT H t xs->KT H (ko t kvs) (xD xs its)
 |_,_,_,.nil,.nil=>⟨[],rfl,λi v e=>by simp at e,λt xs r=>r⟩
 |_,_,_,.cons (a:=v) (b:=kv) q t,.cons (b:=u) r s=>by
  obtain⟨its,hl,hv,hk⟩:=rE ok t s;obtain⟨p,ka,rfl,hp,hka⟩:=q;cases r;obtain⟨_,is,r2,ot,ho,hc,n,hd⟩:=(show ObjOk P w H h p (.tup [.ref ka,kv.2]) from ok p _ hp);obtain⟨u1,u2,rfl,ru1,ru2⟩:=rl r2;cases ru1;refine⟨(kv.1,ka,u2)::its,by simp[hl],λi v e=>?_,λt xs rt=>?_⟩
  .cases i with
   |zero=>simp at e;subst e;exact⟨p,(kv.1,ka,u2),rfl,rfl,⟨ot,ho,hc,n,hd⟩,iX ok hka⟩
   |succ i=>exact hv i v (by simpa using e)
  .exact hk _ _ (rt.put kv.1 hka ru2)
theorem pG:∀(kvs t:List (List Key×V)),(ko t kvs).length<=t.length+kvs.length
 | [],t=>Kq _
 |x::r,t=>by have:=pG r (cf t x.1 x.2);have h2:=f9 t x.1 x.2;show(ko (cf t x.1 x.2) r).length<=_;simp only[Ky];lia
end
section
variable {X:Cx}
theorem wt (hc:X.calm=true) (hu:X.A.units+64<cLine):CallR X (.type "dict") (λxs H Q=>∃ l vs kvs,xs=[.ref l]/\Rd H l (.lst vs)/\sO H vs kvs/\∀ p,H p=none->Q (.ref p) (aB H p (.dT (ko [] kvs)))):=by
 intro pins s σ H xs us Q I r h;obtain⟨l,vs,kvs,rfl,hl,hp,q⟩:=h;obtain⟨u,rfl,ru⟩:=j_ r;obtain rfl:u=Value.ref l:=ru;obtain⟨hz,its,n,rv,hg⟩:=(show ObjOk X.prog X.w H s.heap l (.lst vs) from hl.ok I.hok);obtain⟨pi,pl,pv,pk⟩:=rE I.hok hp rv;have hsz:its.toArray.size<=sizeLine:=by rw[KC,<- rv.length];exact hz
 refine oz (I.ok.hd hc) (by show X.A.units+1+1<cLine;lia) hg (its:=pi) (by rw[pl,KC]) hsz (λi v e=>pv i v (by simpa using e)) λh' tk hD hk=>?_;have hf:H s.heap.objs.size=none:=I.hok.fresh (Kq _);refine⟨.ref s.heap.objs.size,_,I.laid (a:=s.heap.objs.size) (o:=.dT (ko [] kvs)) (t':=tk) (λb o e=>hk b o (KD e) e) (Kq _) ?_,rfl,q _ hf⟩;obtain⟨o,es,ep,h1,h2,h3,h4,_,h5⟩:=hD;refine⟨?_,LI.mpr (LJ (KR I.big)),xD [] pi,(pk [] [] .nil).keeps λb ys e=>?_,o,es,ep,h1,h2,h3,h4,h5⟩
 .have:=pG kvs [];have h2:=MC hp;simp only[KO]at this;lia
 .rw[aa (af e hf)];exact e
end
section
variable {X:Cx}{pins:List (Addr×Obj)}{σ:St}{H:Hp}{s:Ox}{a:Addr}
theorem Inv.retK (I:Inv X pins σ H s)(e:H a=some (.dT [])):Inv X pins σ (aB H a (.dK [])) s:=by
 obtain⟨z,y,xs,r,o,es,ep,h1,h2,h3,h4,h5⟩:=(show ObjOk X.prog X.w H s.heap a (.dT []) from I.hok a _ e);cases r;exact I.write (x:=a) (e:=a) (t':=s.toks) (h':=s.heap) (by rw[e];exact True.intro) (.inl rfl) (λb u _ q=>q) ⟨o,h1⟩ ⟨z,y,[],.nil,o,es,ep,h1,h2,h3,by
  have e:es=#[]:=by simpa using h4
  subst e;intro x hx;simp at hx,by
  have e:es=#[]:=by simpa using h4
  subst e;constructor,KY⟩
theorem Inv.retT (I:Inv X pins σ H s)(e:H a=some (.dK [])):Inv X pins σ (aB H a (.dT [])) s:=by
 obtain⟨z,y,vs,r,o,es,ep,h1,h2,h3,h4,h5⟩:=(show ObjOk X.prog X.w H s.heap a (.dK []) from I.hok a _ e);cases r;exact I.write (x:=a) (e:=a) (t':=s.toks) (h':=s.heap) (by rw[e];exact True.intro) (.inl rfl) (λb u _ q=>q) ⟨o,h1⟩ ⟨z,y,[],.nil,o,es,ep,h1,h2,h3,(by
  generalize es.toList=l at h5;obtain⟨h5,_⟩:=h5;cases l with
  |nil=>rfl
  |cons x r=>cases h5),KY⟩
end
def nZ (H:Hp)(a:Addr)(y:V)(r:Option V):Prop:=DGet H a y r\/(Rd H a (.dT [])/\(∃ k,y=kV k)/\r=none)\/(Rd H a (.dK [])/\(∃(b:Addr)(k:List Key),y=.ref b/\H b=some (.tup (k.map kV)))/\r=none)
def EW (H:Hp)(a:Addr)(y v:V)(H':Hp):Prop:=DPut H a y v H'\/(H a=some (.dT [])/\∃ k,y=kV k/\H'=aB H a (.dK [(k,v)]))\/(H a=some (.dK [])/\∃(b:Addr)(k:List Key),y=.ref b/\H b=some (.tup (k.map kV))/\H'=aB H a (.dT [(k,v)]))
section
variable {X:Cx}{pins:List (Addr×Obj)}{σ:St}{H:Hp}{s:Ox}{a:Addr}{y v:V}{u r:OA}{o:Option V}{A:OB}{E:OA->Ox->Prop}
theorem ng (x:ObjOk P w H h a (.dT [])):(a==sysModules)=false/\h.DictOf (av P w) a []:=by
 obtain⟨z,y,xs,r,o,es,ep,h1,h2,h3,h4,h5⟩:=x;cases r;have e:es=#[]:=by simpa using h4
 subst e;exact⟨y,o,#[],ep,h1,h2,h3,λx hx=>by simp at hx,by constructor,KY⟩
theorem sP (x:ObjOk P w H h a (.dK [])):(a==sysModules)=false/\h.DictOfH (tupleKind (av P w)) a []:=by
 obtain⟨z,y,vs,r,o,es,ep,h1,h2,h3,h4,h5⟩:=x;cases r;refine⟨y,o,es,ep,h1,h2,h3,?_,λx hx=>(nomatch hx),KY⟩;generalize es.toList=l at h5;obtain⟨h5,_⟩:=h5;cases l with
 |nil=>rfl
 |cons x r=>cases h5
theorem HG (hu:A.units+1<cLine)(I:Inv X pins σ H s)(g:nZ H a y o)(ry:RelV y u)(h:∀ s',Inv X pins σ H s'->Q (.bool o.isSome) s') :
 wpAny (model X.prog X.w) A (compareOp .In u (.ref a)) Q E s:=by
 rcases g with g|⟨e,⟨k,rfl⟩,rfl⟩|⟨e,⟨b,k,rfl,eb⟩,rfl⟩
 .exact JF hu I g ry h
 .obtain⟨y,dd⟩:=ng (e.ok I.hok);exact wpAny_in_of (j6 ry) y dd.mapOf (h _ (I.tok _))
 .obtain rfl:u=Value.ref b:=ry;obtain⟨y,dd⟩:=sP (e.ok I.hok);exact wpAny_in_heap (LZ hu) (iX I.hok eb) y dd (h _ (I.tok _))
theorem wu (hu:A.units+1<cLine)(I:Inv X pins σ H s)(g:EW H a y v H')(ry:RelV y u)(rv:RelV v r)(h:∀ s',Inv X pins σ H' s'->Q () s') :
 wpAny (model X.prog X.w) A (setItem (.ref a) u r) Q E s:=by
 rcases g with g|⟨e,k,rfl,rfl⟩|⟨e,b,k,rfl,eb,rfl⟩
 .exact lr hu I g ry rv h
 .refine lr hu (I.retK e) (DPut.k (kvs:=[]) (k:=k) (v:=v) ac (by decide)) ry rv λs' I'=>?_;rw[xq]at I';exact h s' I'
 .refine lr hu (I.retT e) (DPut.t (kvs:=[]) (k:=k) (v:=v) ac (by rw[aa (xt eb e (λz=>nomatch z))];exact eb) (by decide)) ry rv λs' I'=>?_;rw[xq]at I';exact h s' I'
end
section
variable {X:Cx}{value o i:Expr}{td ty tv:TE}{pos pos':Pos}
noncomputable def Az (td ty tv:TE):TS:=λD σ H=>tv σ H λv H1=>td σ H1 λx H2=>ty σ H2 λy H3=>∃ a H4,x=.ref a/\EW H3 a y v H4/\D.nx σ H4
theorem AA (hu:X.A.units+1<cLine)(ho:PE X o td)(hi:PE X i ty)(hv:PE X value tv)(hs:swapsWith value (some (.Subscript o i pos')) pos.line X.env=pure false) :
 PS X (.Assign [.Subscript o i pos'] value pos) (Az td ty tv):=by
 intro pins s σ H D I h;refine wpAny_Assign_Subscript (bW (hv pins s σ H _ I h) λr s1 ⟨v,H1,I1,rv,q1⟩=>bW (ho pins s1 σ H1 _ I1 q1) λu s2 ⟨x,H2,I2,rx,q2⟩=>bW (hi pins s2 σ H2 _ I2 q2) λiv s3 ⟨y,H3,I3,ry,a,H4,ex,g,q3⟩=>?_) hs;subst ex;obtain rfl:u=Value.ref a:=rx;exact wu hu I3 g ry rv λs4 I4=>⟨σ,H4,I4,q3⟩
end
section
variable {X:Cx}{pins:List (Addr×Obj)}{σ:St}{H:Hp}{s:Ox}{a:Addr}{y d:V}{u r:OA}{o:Option V}{A:OB}{E:OA->Ox->Prop}
theorem Da (hu:A.units+1<cLine)(I:Inv X pins σ H s)(g:nZ H a y o)(ry:RelV y u)(rd:RelV d r)(h:∀ w' s',Inv X pins σ H s'->RelV (o.getD d) w'->Q w' s') :
 wpAny (model X.prog X.w) A (call (.builtin "dict.get") [.ref a,u,r]) Q E s:=by
 rcases g with g|⟨e,⟨k,rfl⟩,rfl⟩|⟨e,⟨b,k,rfl,eb⟩,rfl⟩
 .exact Av hu I g ry rd h
 .obtain⟨y,dd⟩:=ng (e.ok I.hok);exact Mq Lh dd.typeIs LN (MV _ _ _) (meets_dict_get_default (av X.prog X.w) a (j6 ry) y r) ⟨_,dd.mapOf,h _ _ (I.tok _) rd⟩
 .obtain rfl:u=Value.ref b:=ry;obtain⟨y,dd⟩:=sP (e.ok I.hok);exact Mq Lh dd.typeIs LN (MV _ _ _) (meetsH_dict_get_default (tupleKind (av X.prog X.w)) a b y r) ⟨LZ hu,k,[],iX I.hok eb,dd,h _ _ (I.tok _) rd⟩
end
noncomputable def Dc (td ty tx:TE):TE:=λσ H Q=>td σ H λx H1=>∃ a,x=.ref a/\EV H1 a/\ty σ H1 λy H2=>tx σ H2 λz H3=>∃ o,nZ H3 a y o/\Q (o.getD z) H3
section
variable {X:Cx}{o e f:Expr}{apos cpos:Pos}{td ty tx:TE}
theorem yV (hu:X.A.units+1<cLine) (ho:PE X o td) (he:PE X e ty) (hf:PE X f tx) (m:M2 X o "get" apos e f cpos):PE X (.Call (.Attribute o "get" apos) [e,f] [] cpos) (Dc td ty tx):=by intro pins s σ H Q I h;refine Ng m.base m.few m.line KW Lh M_ (bW (ho pins s σ H _ I h) λu s1 ⟨x,H1,I1,rx,a,ex,d,q1⟩=>?_);subst ex;obtain rfl:u=Value.ref a:=rx;obtain⟨t1,t2,_⟩:=m_ I1 d;refine⟨t1,t2,?_⟩;rw[m.trees];refine Lz rfl (Mx (Me (bW (he pins s1 σ H1 _ I1 q1) λiv s2 ⟨y,H2,I2,ry,q2⟩=>Me (bW (hf pins s2 σ H2 _ I2 q2) λfv s3 ⟨z,H3,I3,rz,ov,g,q3⟩=>MM ?_))));exact Da hu I3 g ry rz λw' s4 I4 rw'=>⟨_,H3,I4,rw',q3⟩
end
noncomputable def iZ:HO->Prop
 | .dK _=>True
 | .dT _=>True
 |_=>False
section
variable {X:Cx}{pins:List (Addr×Obj)}{σ:St}{H H':Hp}{s:Ox}{d:Addr}{o:Obj}{u:HO}
theorem Inv.view (I:Inv X pins σ H s)(hn:∀ b,H b=none->H' b=none)(ht:∀ b xs,H b=some (.tup xs)->H' b=some (.tup xs))(hf:∀ b o u,X.H₀ b=some (.frz o u)->H' b=some (.frz o u))
 (hb:∀ b ps,H b=some (.tbl ps)->H' b=some (.tbl ps)) (hok:HOk X.prog X.w H' s.heap):Inv X pins σ H' s where
 ok:=I.ok
 os:=I.os
 bare:=I.bare
 base:=⟨I.base.keep,I.base.slot,λb o e n hx=>hn b (I.base.free b o e n hx),I.base.there,λb xs e=>ht b xs (I.base.tups b xs e),hf,λb ps e=>let ⟨m,q⟩:=I.base.tbls b ps e;⟨m,hb b _ q⟩⟩
 loc:=I.loc
 cell:=I.cell
 free:=hn _ I.free
 freeC:=λx c e=>hn c (I.freeC x c e)
 pin:=λp hp=>let ⟨a,b,c⟩:=I.pin p hp;⟨a,hn _ b,c⟩
 hok:=hok
 len:=I.len
theorem xF (ok:HOk P w H h)(hd:∃ u,H d=some u/\(∀ y,u≠.own y)/\∀ xs,u≠.tup xs)(new:ObjOk P w (aB H d u') h d u'):HOk P w (aB H d u') h:=λb v e=>by
 obtain⟨u,hu,h1,h2⟩:=hd;by_cases hb:b=d
 .subst hb;rw[ac]at e;cases e;exact new
 .rw[aa hb]at e;refine(ok b v e).stay (λ_ _ _ q=>q) (λc q=>?_) λc xs q=>?_
  .rw[aa]
   .exact q
   .rintro rfl;rw[hu]at q;cases q;exact h1 _ rfl
  .rw[aa]
   .exact q
   .rintro rfl;rw[hu]at q;cases q;exact h2 _ rfl
theorem xG (h:iZ u):(∀ y,u≠.own y)/\(∀ xs,u≠.tup xs)/\(∀ ps,u≠.tbl ps)/\∀ o v,u≠.frz o v:=by cases u<;>first|exact h.elim|exact⟨λ_ z=>(nomatch z),λ_ z=>(nomatch z),λ_ z=>(nomatch z),λ_ _ z=>(nomatch z)⟩
theorem rF (hu:iZ u)(x:ObjOk P w H h d u)(ht:∀ b xs,H b=some (.tup xs)->H' b=some (.tup xs)):ObjOk P w H' h d u:=by
 cases u with
 |dK kvs=>exact x
 |dT kvs=>obtain⟨z,y,xs,r,q⟩:=x;exact⟨z,y,xs,Paired.mapP r λp q z=>⟨z.1,ht _ _ z.2.1,z.2.2⟩,q⟩
 |_=>exact hu.elim
theorem Inv.frz (I:Inv X pins σ H s)(e:H d=some u)(hu:iZ u)(ho:s.heap.get? d=some o):Inv X pins σ (aB H d (.frz o u)) s:=by
 obtain⟨n1,n2,n3,n4⟩:=xG hu;have ht:∀ b xs,H b=some (.tup xs)->aB H d (.frz o u) b=some (.tup xs):=λb xs q=>by
  rw[aa]
  .exact q
  .rintro rfl;rw[e]at q;cases q;exact n2 _ rfl
 refine I.view (λb hb=>?_) ht (λb o' u' q=>?_) (λb ps q=>?_) (xF I.hok ⟨u,e,n1,n2⟩ ⟨ho,rF hu (I.hok d u e) ht⟩)
 .rw[aa]
  .exact hb
  .rintro rfl;rw[e]at hb;cases hb
 .have q:=I.base.frzs b o' u' q;rw[aa]
  .exact q
  .rintro rfl;rw[e]at q;cases q;exact n4 _ _ rfl
 .rw[aa]
  .exact q
  .rintro rfl;rw[e]at q;cases q;exact n3 _ rfl
theorem Inv.nofrz (I:Inv X pins σ H s)(e:H d=some u)(hu:iZ u):∀ o v,X.H₀ d≠some (.frz o v):=λo v q=>by have:=I.base.frzs d o v q;rw[e]at this;cases this;exact(xG hu).2.2.2 _ _ rfl
theorem Inv.unfrz (I:Inv X pins σ H s)(e:H d=some (.frz o u))(hu:iZ u)(hn:∀ o v,X.H₀ d≠some (.frz o v)):Inv X pins σ (aB H d u) s:=by
 have ht:∀ b xs,H b=some (.tup xs)->aB H d u b=some (.tup xs):=λb xs q=>by
  rw[aa]
  .exact q
  .rintro rfl;rw[e]at q;cases q
 have x:ObjOk X.prog X.w H s.heap d u:=(show ObjOk X.prog X.w H s.heap d (.frz o u) from I.hok d _ e).2;refine I.view (λb hb=>?_) ht (λb o' u' q=>?_) (λb ps q=>?_) (xF I.hok ⟨_,e,λ_ z=>(nomatch z),λ_ z=>(nomatch z)⟩ (rF hu x ht))
 .rw[aa]
  .exact hb
  .rintro rfl;rw[e]at hb;cases hb
 .have q2:=I.base.frzs b o' u' q;rw[aa]
  .exact q2
  .rintro rfl;exact hn _ _ q
 .rw[aa]
  .exact q
  .rintro rfl;rw[e]at q;cases q
end
theorem Dd (h:(av P w).is k u=true):RelV (kV k) u:=by
 rcases bp (show lW k u=true from h) with⟨i,t,rfl,rfl⟩|⟨x,t,rfl,rfl⟩
 .exact⟨t,rfl⟩
 .exact⟨t,rfl⟩
theorem pH {P:Oz}{w:World}{h h':Heap}(x:h.DictAt (av P w) d vs ep)(e:h.get? d=some o)(e':h'.get? d=some o):h'.DictAt (av P w) d vs ep:=by obtain⟨o',es,ho,r⟩:=x;rw[e]at ho;cases ho;exact⟨o,es,e',r⟩
section
variable {X:Cx}{tg:Expr}
end
section
variable {prog:Oz}{w:World}
variable {A:OB}{R:Result->Ox->Prop}{I:Addr}{fp wr:List Addr}{G:Array GenState->Array GenState->Prop}{n:Nat}{P:Nat->OA->Prop}{St:Nat->Ox->Prop}
end
section
variable {prog:Oz}{w:World}{A:OB}{E:OA->Ox->Prop}{s:Ox}
end
section
variable {P:Oz}{w:World}{H:Hp}{h:Heap}
end
section
variable {X:Cx}
theorem F2 (I:Inv X pins σ H s)(e:Rd H a (.dK kvs)\/(Rd H a (.dT [])/\kvs=[])) :
 kvs.length<=sizeLine/\(a==sysModules)=false/\∃ vs,KV kvs vs/\s.heap.DictOf (av X.prog X.w) a vs:=by
 rcases e with e|⟨e,rfl⟩
 .exact l7 I.hok e
 .obtain⟨y,dd⟩:=ng (e.ok I.hok);exact⟨LF _,y,[],.nil,dd⟩
end
section
variable {prog:Oz}{w:World}{A:OB}{E:OA->Ox->Prop}{s:Ox}
theorem F3 {k:Key}{key dflt:OA}{Q:OA->Ox->Prop}(jK:(av prog w).is k key=true)(hm:s.heap.DictOf (av prog w) d vs)(hn0:valueAt vs k=none)
 (h:∀ h',h'.DictOf (av prog w) d (stored vs k dflt)->Heap.SameBut d s.heap h'->Q dflt { s with heap:=h',toks:=s.toks+1 }) (hsz:vs.length<=sizeLine):wpAny (model prog w) A (dictSetDefault d key dflt) Q E s:=by
 obtain⟨o,es,ep,ho,hc,hd,hk,hp,hn⟩:=hm;have hes:es.size<=sizeLine:=by
  have e1:=hp.length;have e2:es.toList.length=es.size:=by simp
  lia
 have hnone:vs.findIdx? (λkv=>decide (kv.1=k))=none:=by
  rw[List.findIdx?_eq_none_iff];intro x hx;refine KL λe=>?_;have:(valueAt vs k).isSome=true:=by unfold valueAt;rw[NL,List.find?_isSome];exact⟨x,hx,Kz e⟩
  rw[hn0]at this;cases this
 have hidx:(es.findIdx? λe=>(av prog w).is k e.key)=none:=by
  have:(es.findIdx? λe=>(av prog w).is k e.key)=vs.findIdx? λkv=>decide (kv.1=k):=by rw[<- hp.findIdx k];obtain⟨l⟩:=es;simp
  rw[this];exact hnone
 have hnot:k∉vs.map (·.1):=not_mem_of_findIdx_none hnone;have hany:¬ (vs.any λkv=>decide (kv.1=k))=true:=by rw[Oo];rintro⟨kv,hkv,he⟩;exact hnot (KH.mpr ⟨kv,hkv,KU he⟩)
 unfold dictSetDefault
 try with_reducible refine Mo ?_
 refine Kp ((av prog w).pyHash jK ?_);refine Kp (wpAny_dictFind_of (s:={ s with toks:=s.toks+1 }) jK ho hd hk ?_);rw[hidx];refine Kp (NJ (Kp (wpAny_updateDictKeys (hz:=hes) (s:={ s with toks:=s.toks+1 }) ho hd (Kt (h _ ⟨_,_,ep+1,Na _ ho (Obj.isFreed_of_dict (Ni hd _)),hc.mapDictKeys _,Ni hd _,hk.push jK _,?_,?_⟩ (MW ..))))))
 .rw[stored,Kv hany];have:=hp.append jK ((av prog w).hash k) dflt;obtain⟨l⟩:=es;simpa using this
 .rw[stored,Kv hany,K6,LW];refine⟨hn,by simp,?_⟩;intro a ha b hb;simp only[Kr,K_,KJ]at hb;subst hb;exact λe=>hnot (e▸ha)
end
section
variable {X:Cx}
def EX:V->List V->Hp->VK->Prop:=λx xs H Q=>∃ a k y kvs,x=.ref a/\xs=[kV k,y]/\(H a=some (.dK kvs)\/(H a=some (.dT [])/\kvs=[]))/\kvs.length<sizeLine/\
 ((∃ v,fS kvs k=some v/\Q v H)\/(fS kvs k=none/\Q y (aB H a (.dK (cf kvs k y)))))
theorem De:FW X "dict.setdefault" EX:=by
 intro pins s σ H x xs v us Q I rx rs q;obtain⟨a,k,y,kvs,rfl,rfl,ha,hz,q⟩:=q;obtain rfl:v=Value.ref a:=rx;obtain⟨u1,u2,rfl,ru1,ru2⟩:=rl rs;obtain⟨z1,y1,vs,r1,d1⟩:=F2 I (ha.imp .inl λ⟨e,w⟩=>⟨.inl e,w⟩);have jK:=j6 (P:=X.prog) (w:=X.w) ru1;refine L5 Ly d1.typeIs NT ?_ (NQ _ _ _);unfold Builtin.«dict.setdefault»;refine Kp ?_;unfold Builtin.Dict.keyAndDefault;refine Kp (MF d1.typeIs (show wpAny _ _ (pure (a,u1,some u2)) _ _ s from Kt ?_));show wpAny _ _ (if (a==sysModules)=true then _ else (dictSetDefault a u1 u2 >>= _)) _ _ s;rw[Kv (by rw[y1];exact K5)];have aR:vs.length<=sizeLine:=by rw[<- r1.length];lia
 have dle:s.heap.DictLe a sizeLine:=λo es ep ho hd=>by
  obtain⟨o',es',ep',ho',_,hd',_,hp,_⟩:=id d1;rw[ho]at ho';cases ho';rw[hd]at hd';cases hd';have e1:=hp.length;have e2:es.toList.length=es.size:=by simp
  lia
 have rv:=r1.val k;rcases q with⟨v,hv,q⟩|⟨hv,q⟩
 .obtain⟨w',hw,rw'⟩:=RelO.some_of (v:=v) (o:=valueAt vs k) (by rw[<- hv];exact rv);refine Kp (wpAny_dictSetDefault_of (hz:=dle) jK d1.mapOf (λv' e=>?_) λe=>?_)
  .rw[hw]at e;cases e;exact Kt ⟨_,rfl,v,H,I.tok _,rw',q⟩
  .rw[hw]at e;cases e
 .have hn0:valueAt vs k=none:=by
   have:=rv.isSome_eq;rw[hv]at this;cases z:valueAt vs k with
   |none=>rfl
   |some _=>rw[z]at this;cases this
  refine Kp (F3 jK d1 hn0 (λh' dd' hs=>Kt ⟨_,rfl,?_⟩) aR);have he:∃ q,h'.get? a=some q:=let ⟨q,_,_,hq,_⟩:=dd';⟨q,hq⟩;have mu:Hd (H a):=by rcases ha with e|⟨e,_⟩<;>(rw[e];exact True.intro)
  have hl:(cf kvs k y).length<=sizeLine:=by have:=f9 kvs k y;lia
  exact⟨y,_,lq (t':=s.toks+1) I mu hs he (sM hl y1 (r1.put k ru2) dd'),ru2,q⟩
end
section
variable {X:Cx}{tg:Expr}
end
end L2
namespace ST
open PySem PySem.SetTable
noncomputable def st (m:Nat)(h:Int):Probe:={ j:=bits h % (m+1),more:=runEnd m (bits h % (m+1))-bits h % (m+1),i:=bits h % (m+1),perturb:=bits h,dummy:=none }
noncomputable def rs (m:Nat)(p:Nat×Nat):Probe:={ j:=p.1,more:=runEnd m p.1-p.1,i:=p.1,perturb:=p.2,dummy:=none }
noncomputable def Kh (m:Nat)(p:Probe):Probe:=if p.more>0 then { p with j:=p.j+1,more:=p.more-1 } else { p with j:=(leap m p.i p.perturb).1,more:=runEnd m (leap m p.i p.perturb).1-(leap m p.i p.perturb).1,i:=(leap m p.i p.perturb).1,perturb:=(leap m p.i p.perturb).2 }
def it (m:Nat):Nat->Probe->Probe
 |0,p=>p
 |n+1,p=>it m n (Kh m p)
noncomputable def lp (m:Nat):Nat->Nat×Nat->Nat×Nat
 |0,p=>p
 |n+1,p=>lp m n (leap m p.1 p.2)
end ST
namespace ST
open PySem PySem.W PyProof.Rows
noncomputable abbrev Ki:=Nat->Nat->(Bool->Ox->Prop)->Ox->Prop
noncomputable def qT (p:Array Nat)(i:Nat):Nat:=p.getD i 0
section
variable {N:Nat}{lt:Nat->Nat->Bool}{cmp:Ki}{s:Ox}{p:Array Nat}
end
end ST
namespace L2
open PySem PySem.Spec PySem.Calls PyProof.Rows ST
noncomputable abbrev iK (ns:List Int):List Key:=ns.map Sum.inl
section
variable {prog:Oz}{w:World}{A:OB}{E:OA->Ox->Prop}{s:Ox}
end
section
variable {prog:Oz}{w:World}
variable {A:OB}{R:Result->Ox->Prop}{I:Addr}{fp wr:List Addr}{G:Array GenState->Array GenState->Prop}{n:Nat}{P:Nat->OA->Prop}{St:Nat->Ox->Prop}
end
section
variable {prog:Oz}{w:World}{A:OB}{E:OA->Ox->Prop}{s:Ox}
end
section
variable {X:Cx}
end
end L2
namespace L2
open PySem PySem.Spec PyProof.Rows
section
variable {prog:Oz}{w:World}{A:OB}{R:Result->Ox->Prop}{I:Addr}{fp wr:List Addr}{G:Array GenState->Array GenState->Prop}{n:Nat}{P:Nat->OA->Prop}{St:Nat->Ox->Prop}
end
section
variable {prog:Oz}{w:World}{A:OB}{E:OA->Ox->Prop}{s:Ox}
end
section
variable {X:Cx}
end
end L2
namespace L2
open PySem PySem.Spec PySem.Calls PyProof.Rows ST
section
variable {prog:Oz}{w:World}{A:OB}{E:OA->Ox->Prop}{s:Ox}
end
section
variable {prog:Oz}{w:World}
variable {A:OB}{R:Result->Ox->Prop}{I:Addr}{fp wr:List Addr}{G:Array GenState->Array GenState->Prop}{n:Nat}{P:Nat->OA->Prop}{St:Nat->Ox->Prop}
end
section
variable {prog:Oz}{w:World}{A:OB}{E:OA->Ox->Prop}{s:Ox}
end
section
variable {X:Cx}
end
section
variable {prog:Oz}{w:World}{A:OB}{E:OA->Ox->Prop}{s:Ox}
end
section
variable {X:Cx}
end
end L2
namespace L2
open PySem PySem.Spec PySem.Calls PyProof.Rows
section
variable {prog:Oz}{w:World}{A:OB}{E:OA->Ox->Prop}{s:Ox}
theorem F4 {k:List Key}{dflt:OA}{Q:OA->Ox->Prop}(hu:A.units<cLine)(jK:(tK prog w).is s.heap k a)(hm:s.heap.DictOfH (tK prog w) d xs)(hsz:xs.length<=sizeLine)
 (h1:∀ p,atKey xs k=some p->Q p.2 { s with toks:=s.toks+(tK prog w).draws k })
 (h2:atKey xs k=none->∀ h',h'.DictOfH (tK prog w) d (storedH xs k a dflt)->Heap.SameBut d s.heap h'->Q dflt { s with heap:=h',toks:=s.toks+(tK prog w).draws k }):wpAny (model prog w) A (dictSetDefault d (.ref a) dflt) Q E s:=by
 obtain⟨o,es,ep,ho,hc,hd,he,his,hn⟩:=hm;unfold dictSetDefault
 try with_reducible refine Mo ?_
 refine Kp ((tK prog w).pyHash hu jK (Kp (wpAny_dictFind_heap (knd:=tK prog w) (s:={ s with toks:=s.toks+(tK prog w).draws k }) hu jK ho hd he his hn (λhno=>?_) λj p hj=>?_)))
 .have hnone:=atKey_none_of_get hno;have hnot:k∉xs.map (·.1):=not_mem_keys_of_get hno;refine Kp (NJ (Kp (wpAny_updateDictKeys (hz:=by have e:=NB he;lia) (s:={ s with toks:=s.toks+(tK prog w).draws k }) ho hd (Kt (h2 hnone _ ⟨_,_,ep+1,Na _ ho (Obj.isFreed_of_dict (Ni hd _)),hc.mapDictKeys _,Ni hd _,?_,?_,?_⟩ (MW ..))))))
  .rw[storedH_new hnone];simp[he,entryOfKey]
  .rw[storedH_new hnone];intro x hx;rcases Lf.mp hx with hx|hx
   .exact(tK prog w).keeps (his x hx) ho hd (MW ..)
   .obtain rfl:=KJ.mp hx;exact(tK prog w).keeps jK ho hd (MW ..)
  .rw[storedH_new hnone,K6,LW];exact⟨hn,by simp,λx hx y hy e=>by simp only[Kr,K_,KJ]at hy;subst hy;exact hnot (e▸hx)⟩
 .refine Kp (Ml (s:={ s with toks:=s.toks+(tK prog w).draws k }) ho hd ?_);rw[entry_at he j,hj];exact Kp (NJ (Kt (h1 p (atKey_of_get hn hj))))
end
section
variable {X:Cx}
def Df:V->List V->Hp->VK->Prop:=λx xs H Q=>∃ a b k y kvs,x=.ref a/\xs=[.ref b,y]/\H b=some (.tup (k.map kV))/\H a=some (.dT kvs)/\kvs.length<sizeLine/\
 ((∃ v,fS kvs k=some v/\Q v H)\/(fS kvs k=none/\Q y (aB H a (.dT (cf kvs k y)))))
theorem rG (hu:X.A.units+64<cLine):FW X "dict.setdefault" Df:=by
 intro pins s σ H x xs v us Q I rx rs q;obtain⟨a,b,k,y,kvs,rfl,rfl,hb,ha,hz,q⟩:=q;obtain rfl:v=Value.ref a:=rx;obtain⟨u1,u2,rfl,ru1,ru2⟩:=rl rs;obtain rfl:u1=Value.ref b:=ru1;obtain⟨z1,y1,vs,r1,d1⟩:=ET I.hok ha;have jK:=iX I.hok hb;have hT:Shared.TypeIs s (.ref a) "dict":=by obtain⟨o,es,ep,ho,hc,_⟩:=d1;exact⟨o,ho,hc.1⟩
 refine L5 Ly hT NT ?_ (NQ _ _ _);unfold Builtin.«dict.setdefault»;refine Kp ?_;unfold Builtin.Dict.keyAndDefault;refine Kp (MF hT (show wpAny _ _ (pure (a,Value.ref b,some u2)) _ _ s from Kt ?_));show wpAny _ _ (if (a==sysModules)=true then _ else (dictSetDefault a (Value.ref b) u2 >>= _)) _ _ s;rw[Kv (by rw[y1];exact K5)];have aR:vs.length<=sizeLine:=by rw[<- MC r1];exact z1
 have rv:=r1.val k;refine Kp (F4 (by show X.A.units+1<cLine;lia) jK d1 aR (λp hp=>?_) λhn0 h' dd' hs=>?_)
 .rcases q with⟨v,hv,q⟩|⟨hv,q⟩
  .have:RelO (some v) (some p.2):=by rw[<- hv];rw[hp]at rv;exact rv
   exact Kt ⟨_,rfl,v,H,I.tok _,this,q⟩
  .have:=rv.isSome_eq;rw[hv,hp]at this;cases this
 .rcases q with⟨v,hv,q⟩|⟨hv,q⟩
  .have:=rv.isSome_eq;rw[hv,hn0]at this;cases this
  .obtain⟨o',es,ep,hq,h2,h3,h4,_,h5⟩:=dd';have hl:(cf kvs k y).length<=sizeLine:=by have:=f9 kvs k y;lia
   have hok:ObjOk X.prog X.w (aB H a (.dT (cf kvs k y))) h' a (.dT (cf kvs k y)):=by refine⟨hl,y1,_,(r1.put k hb ru2).keeps λc ys ec=>?_,o',es,ep,hq,h2,h3,h4,h5⟩;rw[aa (xt ec ha (λz=>nomatch z))];exact ec
   exact Kt ⟨_,rfl,y,_,lq (t':=s.toks+(tK X.prog X.w).draws k) I (by rw[ha];exact True.intro) hs ⟨o',hq⟩ hok,ru2,q⟩
def AB:V->List V->Hp->VK->Prop:=λx xs H Q=>∃ a b k y kvs,x=.ref a/\xs=[.ref b,y]/\H b=some (.tup (k.map kV))/\(H a=some (.dT kvs)\/(H a=some (.dK [])/\kvs=[]))/\kvs.length<sizeLine/\
 ((∃ v,fS kvs k=some v/\Q v H)\/(fS kvs k=none/\Q y (aB H a (.dT (cf kvs k y)))))
theorem mf (hu:X.A.units+64<cLine):FW X "dict.setdefault" AB:=by
 intro pins s σ H x xs v us Q I rx rs q;obtain⟨a,b,k,y,kvs,e1,e2,hb,ha,hz,q⟩:=q;rcases ha with ha|⟨ha,rfl⟩
 .exact rG hu pins s σ H x xs v us Q I rx rs ⟨a,b,k,y,kvs,e1,e2,hb,ha,hz,q⟩
 .have nba:b≠a:=xt hb ha (λz=>nomatch z);refine rG hu pins s σ (aB H a (.dT [])) x xs v us Q (I.retT ha) rx rs ⟨a,b,k,y,[],e1,e2,by rw[aa nba];exact hb,ac,hz,.inr ?_⟩;rcases q with⟨v,hv,q⟩|⟨hv,q⟩
  .cases hv
  .have:aB (aB H a (.dT [])) a (.dT (cf [] k y))=aB H a (.dT (cf [] k y)):=by
    funext c;by_cases h:c=a
    .subst h;rw[ac,ac]
    .rw[aa h,aa h,aa h]
   exact⟨hv,by rw[this];exact q⟩
end
def HH (d:Addr)(o:Obj)(u:HO)(kvs:List (Key×V)):It:=⟨λi H=>H d=some (.frz o u)/\i<kvs.length,λi H x H'=>∃ p k v,H p=none/\x=.ref p/\H'=aB H p (.tup [kV k,v])/\kvs[i]?=some (k,v),λi H=>H d=some (.frz o u)/\kvs.length<=i⟩
theorem KV.at (r:KV a b):∀(i:Nat) p q,a[i]?=some p->b[i]?=some q->p.1=q.1/\RelV p.2 q.2:=by
 induction r with
 |nil=>intro i p q e;simp at e
 |cons hq t ih=>
  intro i p q e1 e2;cases i with
  |zero=>simp at e1 e2;subst e1 e2;exact hq
  |succ i=>exact ih i p q (by simpa using e1) (by simpa using e2)
theorem wv {P:Oz}{w:World}{K:Oy}{es:List Expr}{k0:Nat}{pos:Pos}{d it:Addr}{o:Obj}{u0:HO}{kvs:List (Key×V)}{vs:List (Key×OA)}{ep:Nat}{h0:Heap}(rel:KV kvs vs)(x0:h0.DictAt (av P w) d vs ep)(e0:h0.get? d=some o) :
 Turn P w K (.Tuple es k0 pos) (HH d o u0 kvs) [it] it (λi h=>∃ ok ov,IsItemIter h it d i vs.length ep ok ov) where
 mem:=by simp
 obj:=λi h st b hb=>by
  have e:b=it:=by simpa using hb
  subst e;obtain⟨ok,ov,e⟩:=st;exact⟨_,e,λv z=>by cases z⟩
 keep:=λi h h' st k=>by obtain⟨ok,ov,e⟩:=st;exact⟨ok,ov,k it (by simp) _ e⟩
 item:=by
  intro X hP hw hK hc i pins s σ H E I hf st hg;subst hP hw hK;obtain⟨hd,hi⟩:=hg;obtain⟨ok,ov,st⟩:=st;obtain⟨eo,_⟩:=(show ObjOk X.prog X.w H s.heap d (.frz o u0) from I.hok d _ hd);have x1:=pH x0 e0 eo;have fi:=hf it (by simp);have hiv:i<vs.length:=by rw[<- rel.length];exact hi
  have hk:kvs[i]?=some kvs[i]:=by simp[hi]
  have hv:vs[i]?=some vs[i]:=by simp[hiv]
  obtain⟨ek,rv⟩:=rel.at i _ _ hk hv;refine wpAny_pyNext_items_item (k:=vs[i].1) (v:=vs[i].2) st x1 hv λkey h' jK hout hT hsz kp=>?_;refine⟨_,rfl,wpAny_letOwnedTupleGo_items hout λh'' hit'' hs''=>?_⟩;have keep2:∀ b o,b≠it->s.heap.get? b=some o->h''.get? b=some o:=λb o n1 q=>(hs''.2 b n1).trans (kp b o n1 q);have hTe:s.heap.objs.size≠it:=NO (KD st);have hT'':h''.get? s.heap.objs.size=some { cls:=.type "tuple",data:=.seq #[key,vs[i].2] }:=(hs''.2 _ hTe).trans hT;have I1:Inv X pins σ (aB H s.heap.objs.size (.tup [kV kvs[i].1,kvs[i].2])) { s with heap:=h'' }:=by
   refine I.step (g':=s.gens) (d':=s.drawn) (ch:=[it]) (λb hb=>?_) (λb o _ _ hn q _=>keep2 b o (λz=>hn (by simp[z])) q)
    (λb o _ _ hn q _=>⟨o.slots,keep2 b o (λz=>hn (by simp[z])) q⟩) (λb o _ q hH=>by rw[aa (KR (KD q))];exact hH)
    (λb o hn q=>⟨o,keep2 b o (λz=>hn (by simp[z])) q⟩) (λb ys q=>by rw[aa (af q (I.hok.fresh (Kq _)))];exact q)
    (λb o' u' q=>by rw[aa (af q (I.hok.fresh (Kq _)))];exact q) (λb ps q=>⟨#[],by rw[aa (af q (I.hok.fresh (Kq _)))];simp[q]⟩) (λm hm=>?_) (λb u' q=>?_) I.bare
   .have:b=it:=by simpa using hb
    subst this;exact⟨fi.2.2.2.1,fi.2.1,fi.2.2.2.2.1,fi.2.2.2.2.2⟩
   .obtain⟨o,es',ep,ho',r⟩:=hm;exact⟨o,es',ep,keep2 _ o (LJ fi.2.1) ho',r⟩
   .by_cases hb:b=s.heap.objs.size
    .subst hb;rw[ac]at q;cases q;refine⟨by show 2<=sizeLine;decide,[key,vs[i].2],.cons ?_ (.cons rv .nil),⟨_,hT'',rfl,0,rfl⟩⟩;rw[ek];exact Dd jK
    .rw[aa hb]at q;refine(I.hok b u' q).stay (λc v hc' q'=>keep2 c v ?_ q') (λc r=>by rw[aa (af r (I.hok.fresh (Kq _)))];exact r) λc ys r=>by rw[aa (af r (I.hok.fresh (Kq _)))];exact r
     rcases hc' with z|z
     .rw[z];exact af q fi.1
     .exact af z fi.1
  refine⟨.ref s.heap.objs.size,_,I1,rfl,⟨_,kvs[i].1,kvs[i].2,I.hok.fresh (Kq _),rfl,rfl,hk⟩,⟨_,_,hit''⟩,λb hb=>?_⟩;have:b=it:=by simpa using hb
  subst this;rw[aa (KR (KD st))];exact fi.1
 done:=by intro X hP hw hK hc i pins s σ H E I hf st hg;subst hP hw hK;obtain⟨hd,hi⟩:=hg;obtain⟨ok,ov,st⟩:=st;obtain⟨eo,_⟩:=(show ObjOk X.prog X.w H s.heap d (.frz o u0) from I.hok d _ hd);have x1:=pH x0 e0 eo;obtain⟨f0,f1,f2,f3,f4,f5⟩:=hf it (by simp);have hl:=rel.length;exact wpAny_pyNext_items_end (I.ok.hd hc) st x1 (by simp;lia) λh' eb=>⟨rfl,I.turned (t':=s.toks) (λb o hb e=>eb b o hb e) f0 f1 f3 f4 f5⟩
 self:=λA i s Q E st h=>by obtain⟨ok,ov,st⟩:=st;have hT:s.TypeIs (.ref it) "dict_itemiterator":=⟨_,st,rfl⟩;refine wpAny_pyIter_slot hT Mv (L5 Mv hT (entryFor_alias (id':="dict_keyiterator.__iter__") (by kernel_rfl) rfl (by decide +kernel) (by kernel_rfl):entryFor table "dict_itemiterator.__iter__"=some Builtin.«dict_keyiterator.__iter__») ?_ (F.args_dict_itemiterator_iter_1 _));show wpAny _ _ (ret (.ref it)) _ _ s;exact Kt ⟨_,rfl, "dict_itemiterator",_,hT,Lr.lookup,h⟩
section
variable {X:Cx}{es:List Expr}{k0:Nat}{j5:Pos}
def JG (X:Cx)(tl:TE):TI:=λσ H R=>tl σ H λx H1=>∃ d kvs u,x=.ref d/\(u=.dK kvs\/(u=.dT []/\kvs=[]))/\((∃ o,H1 d=some (.frz o u)/\R (HH d o u kvs) H1)\/(H1 d=some u/\∀ o,(∀ o' v,X.H₀ d≠some (.frz o' v))->R (HH d o u kvs) (aB H1 d (.frz o u))))
theorem AC {tl:TE} {apos cpos:Pos} (hl:PE X l tl) (hbase:autoParam (attributeBase l "items" X.env (eval l X.env)=eval l X.env) OH._auto_1) (hline:autoParam ((apos.endLine==cpos.line)=true) OH._auto_1):PI X (.Tuple es k0 j5) (.Call (.Attribute l "items" apos) [] [] cpos) (JG X tl):=by
 intro pins s σ H R I h;refine Ny hbase hline (bW (hl pins s σ H _ I h) λv s1 ⟨x,H1,I1,r1,q1⟩=>?_);obtain⟨d,kvs,u,e,hu,q⟩:=q1;subst e;cases r1;have iu:iZ u:=by rcases hu with rfl|⟨rfl,_⟩<;>exact True.intro
 have fin:∀(o:Obj)(H2:Hp),Inv X pins σ H2 s1->H2 d=some (.frz o u)->R (HH d o u kvs) H2->MethodOn X.prog X.w X.A "items" cpos (.ref d) [] (λv s1=>wpAny (model X.prog X.w) X.A (pyIter v) (Jm X pins σ (.Tuple es k0 j5) R) X.xe s1) X.xe s1:=λo H2 I2 e2 q2=>by
  obtain⟨eo,hx⟩:=(show ObjOk X.prog X.w H2 s1.heap d (.frz o u) from I2.hok d _ e2);have key:(d==sysModules)=false/\∃ vs,KV kvs vs/\s1.heap.DictOf (av X.prog X.w) d vs:=by
   rcases hu with rfl|⟨rfl,rfl⟩
   .obtain⟨z,hd,vs,rel,dd⟩:=hx;exact⟨hd,vs,rel,dd⟩
   .obtain⟨hd,dd⟩:=ng hx;exact⟨hd,[],.nil,dd⟩
  obtain⟨hd,vs,rel,dd⟩:=key;obtain⟨ep,da⟩:=dd.dictAt;have hnod:∀ a,Value.ref d=.ref a->∃ ob,s1.heap.get? a=some ob/\ob.dict=none:=λa e=>by cases e;obtain⟨o',_,_,e',ex,_⟩:=dd;exact⟨o',e',ex.2.1⟩
  refine⟨"dict", "dict.items",KW,MX,PySem.F.type_dict_items,dd.typeIs,hnod,Lz rfl (N3 ?_)⟩;refine Mq MX dd.typeIs PySem.F.entry_dict_items (PySem.F.args_dict_items_1 _) (meets_dict_items (av X.prog X.w) d hd) ⟨⟨vs,dd⟩,?_⟩;have I3:Inv X pins σ H2 { s1 with heap:=s1.heap.push { cls:=.type "dict_items",data:=.fields #[.ref d] } }:=I2.kept (t':=s1.toks) λb o e=>Ks _ e;have e3:({ s1 with heap:=s1.heap.push { cls:=.type "dict_items",data:=.fields #[.ref d] } }:Ox).heap.get? d=some o:=Ks _ eo;have da3:=pH da eo e3;generalize hs3:({ s1 with heap:=s1.heap.push { cls:=.type "dict_items",data:=.fields #[.ref d] } }:Ox)=s3 at I3 e3 da3;have hv:s3.heap.IsItemsView s1.heap.objs.size d:=by rw[<- hs3];exact⟨_,KF _ rfl,rfl,rfl⟩
  show wpAny _ _ (pyIter (.ref s1.heap.objs.size)) _ _ _;refine wpAny_pyIter_items hv da3 ?_;refine⟨s3.heap.objs.size,[s3.heap.objs.size],_,_,H2,rfl,I3.kept (t':=s3.toks) λb o e=>Ks _ e,wv rel da3 e3,⟨_,_,KF _ rfl⟩,λb hb=>?_,q2⟩;have e:b=s3.heap.objs.size:=by simpa using hb
  subst e;exact I3.fpOk (Kq _) (I3.hok.fresh (Kq _))
 rcases q with⟨o,e1,q⟩|⟨e1,q⟩
 .exact fin o H1 I1 e1 q
 .have hob:∃ o,s1.heap.get? d=some o:=by
   rcases hu with rfl|⟨rfl,_⟩
   .obtain⟨_,_,_,_,o,_,_,ho,_⟩:=(show ObjOk X.prog X.w H1 s1.heap d (.dK kvs) from I1.hok d _ e1);exact⟨o,ho⟩
   .obtain⟨_,_,_,_,o,_,_,ho,_⟩:=(show ObjOk X.prog X.w H1 s1.heap d (.dT []) from I1.hok d _ e1);exact⟨o,ho⟩
  obtain⟨o,ho⟩:=hob;exact fin o _ (I1.frz e1 iu ho) ac (q o (I1.nofrz e1 iu))
end
def RawD (h:Heap)(d:Addr)(es:Array DictEntry)(ep:Nat):Prop:=∃ o,h.get? d=some o/\o.ExactDict/\o.data=.dict es ep
section
variable {prog:Oz}{w:World}{A:OB}{E:OA->Ox->Prop}{s:Ox}{d v it:Addr}{es:Array DictEntry}{ep i:Nat}{ok ov:OA}
theorem RawD.ty (m:RawD s.heap d es ep):s.TypeIs (.ref d) "dict":=let ⟨o,h,c,_⟩:=m;⟨o,h,c.1⟩
theorem sQ (d:Addr)(hd:(d==sysModules)=false) :
 MeetsIn prog w (Builtin.«dict.items» ⟨[.ref d],[]⟩) (λ_ R s=>(∃ es ep,RawD s.heap d es ep)/\R (.ok (.ret (.ref s.heap.objs.size))) { s with heap:=s.heap.push { cls:=.type "dict_items",data:=.fields #[.ref d] } }):=
 .of_wp λA R s ⟨⟨es,ep,m⟩,h⟩=>by unfold Builtin.«dict.items» Builtin.Dict.noArgs;refine Kp (Kp (MF m.ty (Kt ?_)));show wpAny _ _ (Builtin.Dict.showsAll d >>= _) _ _ s;unfold Builtin.Dict.showsAll;rw[Kv (by rw[hd];simp)];exact Kp (Kt (Kp (LL (Kt ⟨_,rfl,h⟩))))
theorem uy (hv:s.heap.IsItemsView v d)(m:RawD s.heap d es ep)
 (hQ:Q (.ref s.heap.objs.size) { s with heap:=s.heap.push { cls:=.type "dict_itemiterator",data:=.fields #[.none,.bool false,.ref d,.int 0 0,.int es.size 0,.int ep 0,.none,.none] } }) :
 wpAny (model prog w) A (pyIter (.ref v)) Q E s:=by
 obtain⟨vo,e1,_,e2⟩:=id hv;obtain⟨o,ho,_,hd⟩:=id m;refine wpAny_pyIter_slot hv.typeIs F.slot_dict_items_iter (L5 F.slot_dict_items_iter hv.typeIs F.entry_dict_items_iter ?_ (F.args_dict_items_iter_1 _));unfold Builtin.«dict_items.__iter__» Builtin.Dict_items.dictOf Builtin.Dict_items.newIterator;refine Kp (Kt (Kp (Kp (NK e1 e2 (x:=.ref d) rfl (Kt (Kp (Kp (Ml ho hd (Kp (NC ho hd ?_))))))))));simp only[show Builtin.Dict_items.ownsTuple "dict_itemiterator"=true by decide,MS];refine LL (Kt ⟨_,rfl, "dict_itemiterator",_,⟨_,KF _ rfl,rfl⟩,Lr.lookup,?_⟩)
  (by simp only[sizeOk,Builtin.Dict_items.ownedTupleFields,KC,KI,Ky,KO,Mi];lia)
 simpa[rawInt,Builtin.Dict_items.ownedTupleFields] using hQ
theorem uz (hh:A.handled=none)(y:IsItemIter s.heap it d i es.size ep ok ov)(m:RawD s.heap d es ep)(hi:es.size<=i)(hQ:∀ h',Heap.ExtBut it s.heap h'->Q none { s with heap:=h' }):wpAny (model prog w) A (pyNext (.ref it)) Q E s:=by
 obtain⟨o,ho,_,hd⟩:=id m;have hT:s.TypeIs (.ref it) "dict_itemiterator":=⟨_,y,rfl⟩;unfold pyNext;refine Kp (wpAny_attempt (MT (name:=Str.ofString "__next__") hT Lr (L5 Lr hT F.entry_dict_itemiterator_next ?_ (F.args_dict_itemiterator_next_1 _))));refine Kp (Kt (Kp (Kp ?_)))
 first|refine Kp (Mr hT (Kt ?_))|refine Kp (MI hT (Kt ?_))
 refine Kp (wpAny_fieldsOf y rfl ?_);simp only[show Builtin.Dict_items.ownsTuple "dict_itemiterator"=true by decide,MS];show wpAny _ _ (if (Value.ref d==Value.none)=true then _ else _) _ _ s;rw[Kv (show ¬ ((Value.ref d==Value.none)=true) from K5)];refine Kp (Kt (Kp (Ml ho hd ?_)));rw[Kv (by simp)];refine Kp (Kt (Kp (NC ho hd ?_)));rw[Kv (by simp)];refine Kt ?_;simp only[show ¬ ((i:Int)<0) from by lia,Nd,Int.toNat_natCast,Array.getElem?_eq_none hi];refine Kp ?_
 first|refine Kp (Mr hT (Kt ?_))|refine Kp (MI hT (Kt ?_))
 show wpAny _ _ (setField (.ref it) 2 .none >>= _) _ _ s;refine Kp (wpAny_setField y rfl (by simp) ?_);show wpAny _ _ (newExc (.type "StopIteration") [] >>= _) _ _ _;refine Kp ?_;simp only[newExc,newTuple];refine Kp (LL ?_ (by size_fits));refine Kp (m:=firstArgMember _ _) (wpAny_of_eq (a:=Value.none) (by first|rfl|(simp only[firstArgMember];rfl)) ?_);refine LL ?_ (by size_fits);simp only[raiseNew];refine Kp (wpAny_handled ?_);rw[show A.in1.handled=none from hh];refine Kp (Kt (wpAny_throw ?_));refine Kp (wpAny_isInstance (T:="StopIteration") (b:=true) ⟨_,KF _ rfl,rfl⟩ isSubtype_stop ?_);exact Kt (hQ _ (((MW ..).extBut.push _).push _))
theorem ww (y:IsItemIter s.heap it d i es.size ep ok ov)(m:RawD s.heap d es ep)(he:es[i]?=some e)
 (hQ:∀ h',IsItemIterOut h' it d (i+1) es.size ep e.key e.val s.heap.objs.size->h'.get? s.heap.objs.size=some { cls:=.type "tuple",data:=.seq #[e.key,e.val] }->
   (∀ b o,b≠it->s.heap.get? b=some o->h'.get? b=some o)->Q (some (.ref s.heap.objs.size)) { s with heap:=h' }):wpAny (model prog w) A (pyNext (.ref it)) Q E s:=by
 obtain⟨hp,g,dr,tk,os⟩:=s;obtain⟨o,ho,_,hd⟩:=id m;have hT:Shared.TypeIs ⟨hp,g,dr,tk,os⟩ (.ref it) "dict_itemiterator":=⟨_,y,rfl⟩;have hil:hp.objs.size≠it:=NO (KD y);unfold pyNext;refine Kp (wpAny_attempt (MT (name:=Str.ofString "__next__") hT Lr (L5 Lr hT F.entry_dict_itemiterator_next ?_ (F.args_dict_itemiterator_next_1 _))));refine Kp (Kt (Kp (Kp ?_)))
 first|refine Kp (Mr hT (Kt ?_))|refine Kp (MI hT (Kt ?_))
 refine Kp (wpAny_fieldsOf y rfl ?_);simp only[show Builtin.Dict_items.ownsTuple "dict_itemiterator"=true by decide,MS];show wpAny _ _ (if (Value.ref d==Value.none)=true then _ else _) _ _ _;rw[Kv (show ¬ ((Value.ref d==Value.none)=true) from K5)];refine Kp (Kt (Kp (Ml ho hd ?_)));rw[Kv (by simp)];refine Kp (Kt (Kp (NC ho hd ?_)));rw[Kv (by simp)];refine Kt ?_;simp only[show ¬ ((i:Int)<0) from by lia,Nd,Int.toNat_natCast,he];refine Kp ?_
 first|refine Kp (Mr hT (Kt ?_))|refine Kp (MI hT (Kt ?_))
 refine Kp (NI hT ?_);show wpAny _ _ (setField (.ref it) 3 (rawInt ((i:Int)+1)) >>= _) _ _ ⟨hp,g,dr,tk,os⟩;refine Kp (M7 y (by simp) λh1 y1 s1=>?_);replace s1:Heap.SameBut it hp h1:=s1;replace y1:IsItemIter h1 it d (i+1) es.size ep ok ov:=by
  have q:((i+1:Nat):Int)=(i:Int)+1:=by lia
  unfold IsItemIter;rw[q];simpa[rawInt] using y1
 have hT1:Shared.TypeIs ⟨h1,g,dr,tk,os⟩ (.ref it) "dict_itemiterator":=⟨_,y1,rfl⟩;refine Kp (Mo (Kp (NI hT1 (Kp (NI hT1 ?_)))));show wpAny _ _ (Builtin.Dict_items.pairFromOwner (.ref it) 6 e.key e.val) _ _ ⟨h1,g,dr,tk,os⟩;unfold Builtin.Dict_items.pairFromOwner;refine Kp (wpAny_newTuple ?_);have y2:IsItemIter (h1.push { cls:=.type "tuple",data:=.seq #[e.key,e.val] }) it d (i+1) es.size ep ok ov:=Ks _ y1;have t2:(h1.push { cls:=.type "tuple",data:=.seq #[e.key,e.val] }).get? hp.objs.size=some { cls:=.type "tuple",data:=.seq #[e.key,e.val] }:=by rw[<- s1.1];exact KF _ rfl
 have k2:∀ b o,b≠it->hp.get? b=some o->(h1.push { cls:=.type "tuple",data:=.seq #[e.key,e.val] }).get? b=some o:=λb o n q=>Ks _ (s1.extBut b o n q);have z1:h1.objs.size=hp.objs.size:=s1.1;generalize h1.push { cls:=.type "tuple",data:=.seq #[e.key,e.val] }=h2 at y2 t2 k2;show wpAny _ _ (Builtin.Dict_items.ownedTupleIsFree (.ref it) >>= _) _ _ ⟨h2,g,dr,tk,os⟩;rw[z1];clear y1 s1 hT1 z1 h1;refine Kp ?_;unfold Builtin.Dict_items.ownedTupleIsFree;refine Kp (NK y2 rfl (x:=.none) rfl (Kt ?_));simp only[MS];refine Kp (NK y2 rfl (x:=ok) rfl (Kp (NK y2 rfl (x:=ov) rfl ?_)));refine Kp (M7 y2 (by simp) λh3 y3 s3=>?_);replace y3:IsItemIter h3 it d (i+1) es.size ep e.key ov:=y3;refine Kp (M7 y3 (by simp) λh4 y4 s4=>?_);replace y4:IsItemIter h4 it d (i+1) es.size ep e.key e.val:=y4;refine Kp (M7 y4 (by simp) λh5 y5 s5=>?_);replace y5:IsItemIterOut h5 it d (i+1) es.size ep e.key e.val hp.objs.size:=y5;refine Kp (M7 y5 (by simp) λh6 y6 s6=>?_);replace y6:IsItemIterOut h6 it d (i+1) es.size ep e.key e.val hp.objs.size:=y6;have up:∀ b o,b≠it->h2.get? b=some o->h6.get? b=some o:=λb o n q=>Nq (show Heap.SameBut it h5 h6 from s6) b o n (Nq (show Heap.SameBut it h4 h5 from s5) b o n (Nq (show Heap.SameBut it h3 h4 from s4) b o n (Nq (show Heap.SameBut it h2 h3 from s3) b o n q)));exact Kp (Oi (Kt (Kt ⟨_,rfl,Kt (hQ h6 y6 (up _ _ hil t2) λb o n q=>up b o n (k2 b o n q))⟩)))
end
def EY (d:Addr)(o:Obj)(u:HO)(kvs:List (List Key×V)):It:=⟨λi H=>H d=some (.frz o u)/\i<kvs.length,λi H x H'=>∃ p b k v,H p=none/\x=.ref p/\H b=some (.tup (k.map kV))/\H'=aB H p (.tup [.ref b,v])/\kvs[i]?=some (k,v),λi H=>H d=some (.frz o u)/\kvs.length<=i⟩
theorem KT.at (r:KT H a b):∀(i:Nat) p q,a[i]?=some p->b[i]?=some q->p.1=q.1/\H q.2.1=some (.tup (p.1.map kV))/\RelV p.2 q.2.2:=by
 induction r with
 |nil=>intro i p q e;simp at e
 |cons hq t ih=>
  intro i p q e1 e2;cases i with
  |zero=>simp at e1 e2;subst e1 e2;exact hq
  |succ i=>exact ih i p q (by simpa using e1) (by simpa using e2)
theorem uA {P:Oz}{w:World}{K:Oy}{es:List Expr}{k0:Nat}{pos:Pos}(hu:u=.dT kvs\/kvs=[])(hex:o.ExactDict)(hdat:o.data=.dict en ep)(aR:en.size=kvs.length) :
 Turn P w K (.Tuple es k0 pos) (EY d o u kvs) [it] it (λi h=>∃ ok ov,IsItemIter h it d i en.size ep ok ov) where
 mem:=by simp
 obj:=λi h st b hb=>by
  have e:b=it:=by simpa using hb
  subst e;obtain⟨ok,ov,e⟩:=st;exact⟨_,e,λv z=>by cases z⟩
 keep:=λi h h' st k=>by obtain⟨ok,ov,e⟩:=st;exact⟨ok,ov,k it (by simp) _ e⟩
 item:=by
  intro X hP hw hK hc i pins s σ H E I hf st hg;subst hP hw hK;obtain⟨hd,hi⟩:=hg;obtain rfl:u=.dT kvs:=hu.elim id λz=>by rw[z]at hi;exact absurd hi (Nat.not_lt_zero _)
  obtain⟨ok,ov,st⟩:=st;obtain⟨eo,_⟩:=(show ObjOk X.prog X.w H s.heap d (.frz o (.dT kvs)) from I.hok d _ hd);obtain⟨_,_,xs,rel,o',es',ep',eo',_,hd',hes,_,_⟩:=lF I.hok (.inr ⟨o,hd⟩);rw[eo]at eo';cases eo';rw[hdat]at hd';cases hd';have fi:=hf it (by simp);have hk:kvs[i]?=some kvs[i]:=by simp[hi]
  have hxl:xs.length=kvs.length:=by rw[<- aR,NB hes]
  have hix:i<xs.length:=by lia
  have hx:xs[i]?=some xs[i]:=by simp[hix]
  obtain⟨ek,hb,rv⟩:=rel.at i _ _ hk hx;have he:en[i]?=some (entryOfKey (tupleKind (av X.prog X.w)) xs[i]):=by rw[entry_at hes,hx];rfl
  refine ww st ⟨o,eo,hex,hdat⟩ he λh' hout hT kp=>?_;refine⟨_,rfl,wpAny_letOwnedTupleGo_items hout λh'' hit'' hs''=>?_⟩;have keep2:∀ b o,b≠it->s.heap.get? b=some o->h''.get? b=some o:=λb o n1 q=>(hs''.2 b n1).trans (kp b o n1 q);have hTe:s.heap.objs.size≠it:=NO (KD st);have hT'':h''.get? s.heap.objs.size=some { cls:=.type "tuple",data:=.seq #[.ref xs[i].2.1,xs[i].2.2] }:=(hs''.2 _ hTe).trans hT;have fr:=I.hok.fresh (Kq _);have I1:Inv X pins σ (aB H s.heap.objs.size (.tup [.ref xs[i].2.1,kvs[i].2])) { s with heap:=h'' }:=by
   refine I.step (g':=s.gens) (d':=s.drawn) (ch:=[it]) (λb hb=>?_) (λb o _ _ hn q _=>keep2 b o (λz=>hn (by simp[z])) q)
    (λb o _ _ hn q _=>⟨o.slots,keep2 b o (λz=>hn (by simp[z])) q⟩) (λb o _ q hH=>by rw[aa (KR (KD q))];exact hH)
    (λb o hn q=>⟨o,keep2 b o (λz=>hn (by simp[z])) q⟩) (λb ys q=>by rw[aa (af q fr)];exact q)
    (λb o' u' q=>by rw[aa (af q fr)];exact q) (λb ps q=>⟨#[],by rw[aa (af q fr)];simp[q]⟩) (λm hm=>?_) (λb u' q=>?_) I.bare
   .have:b=it:=by simpa using hb
    subst this;exact⟨fi.2.2.2.1,fi.2.1,fi.2.2.2.2.1,fi.2.2.2.2.2⟩
   .obtain⟨o,es',ep,ho',r⟩:=hm;exact⟨o,es',ep,keep2 _ o (LJ fi.2.1) ho',r⟩
   .by_cases hb:b=s.heap.objs.size
    .subst hb;rw[ac]at q;cases q;exact⟨by show 2<=sizeLine;decide,[.ref xs[i].2.1,xs[i].2.2],.cons rfl (.cons rv .nil),⟨_,hT'',rfl,0,rfl⟩⟩
    .rw[aa hb]at q;refine(I.hok b u' q).stay (λc v hc' q'=>keep2 c v ?_ q') (λc r=>by rw[aa (af r fr)];exact r) λc ys r=>by rw[aa (af r fr)];exact r
     rcases hc' with z|z
     .rw[z];exact af q fi.1
     .exact af z fi.1
  refine⟨.ref s.heap.objs.size,_,I1,rfl,⟨_,xs[i].2.1,kvs[i].1,kvs[i].2,fr,rfl,hb,rfl,hk⟩,⟨_,_,hit''⟩,λb hb=>?_⟩;have:b=it:=by simpa using hb
  subst this;rw[aa (KR (KD st))];exact fi.1
 done:=by intro X hP hw hK hc i pins s σ H E I hf st hg;subst hP hw hK;obtain⟨hd,hi⟩:=hg;obtain⟨ok,ov,st⟩:=st;obtain⟨eo,_⟩:=(show ObjOk X.prog X.w H s.heap d (.frz o u) from I.hok d _ hd);obtain⟨f0,f1,f2,f3,f4,f5⟩:=hf it (by simp);exact uz (I.ok.hd hc) st ⟨o,eo,hex,hdat⟩ (by lia) λh' eb=>⟨rfl,I.turned (t':=s.toks) (λb o hb e=>eb b o hb e) f0 f1 f3 f4 f5⟩
 self:=λA i s Q E st h=>by obtain⟨ok,ov,st⟩:=st;have hT:s.TypeIs (.ref it) "dict_itemiterator":=⟨_,st,rfl⟩;refine wpAny_pyIter_slot hT Mv (L5 Mv hT (entryFor_alias (id':="dict_keyiterator.__iter__") (by kernel_rfl) rfl (by decide +kernel) (by kernel_rfl):entryFor table "dict_itemiterator.__iter__"=some Builtin.«dict_keyiterator.__iter__») ?_ (F.args_dict_itemiterator_iter_1 _));show wpAny _ _ (ret (.ref it)) _ _ s;exact Kt ⟨_,rfl, "dict_itemiterator",_,hT,Lr.lookup,h⟩
section
variable {X:Cx}{es:List Expr}{k0:Nat}{j5:Pos}
def F5 (X:Cx)(tl:TE):TI:=λσ H R=>tl σ H λx H1=>∃ d kvs u,x=.ref d/\(u=.dT kvs\/(u=.dK []/\kvs=[]))/\((∃ o,H1 d=some (.frz o u)/\R (EY d o u kvs) H1)\/(H1 d=some u/\∀ o,(∀ o' v,X.H₀ d≠some (.frz o' v))->R (EY d o u kvs) (aB H1 d (.frz o u))))
theorem nh (hl:PE X l tl) (hbase:autoParam (attributeBase l "items" X.env (eval l X.env)=eval l X.env) OH._auto_1) (hline:autoParam ((apos.endLine==cpos.line)=true) OH._auto_1):PI X (.Tuple es k0 j5) (.Call (.Attribute l "items" apos) [] [] cpos) (F5 X tl):=by
 intro pins s σ H R I h;refine Ny hbase hline (bW (hl pins s σ H _ I h) λv s1 ⟨x,H1,I1,r1,q1⟩=>?_);obtain⟨d,kvs,u,e,hu,q⟩:=q1;subst e;cases r1;have iu:iZ u:=by rcases hu with rfl|⟨rfl,_⟩<;>exact True.intro
 have fin:∀(o:Obj)(H2:Hp),Inv X pins σ H2 s1->H2 d=some (.frz o u)->R (EY d o u kvs) H2->MethodOn X.prog X.w X.A "items" cpos (.ref d) [] (λv s1=>wpAny (model X.prog X.w) X.A (pyIter v) (Jm X pins σ (.Tuple es k0 j5) R) X.xe s1) X.xe s1:=λo H2 I2 e2 q2=>by
  obtain⟨eo,_⟩:=(show ObjOk X.prog X.w H2 s1.heap d (.frz o u) from I2.hok d _ e2);have key:(d==sysModules)=false/\∃ en ep,o.ExactDict/\o.data=.dict en ep/\en.size=kvs.length:=by
   rcases hu with rfl|⟨rfl,rfl⟩
   .obtain⟨_,hd,xs,rel,o',en,ep,eo',hex,hdat,hes,_,_⟩:=lF I2.hok (.inr ⟨o,e2⟩);rw[eo]at eo';cases eo';exact⟨hd,en,ep,hex,hdat,by rw[NB hes,MC rel]⟩
   .obtain⟨_,hd,vs,rel,o',en,ep,eo',hex,hdat,_,hpr,_⟩:=l7 I2.hok (.inr ⟨o,e2⟩);rw[eo]at eo';cases eo';refine⟨hd,en,ep,hex,hdat,?_⟩;have h1:=rel.length;have h2:=hpr.length;simp at h1 h2 ⊢;simpa[<- h1] using h2
  obtain⟨hd,en,ep,hex,hdat,aR⟩:=key;have hty:s1.TypeIs (.ref d) "dict":=⟨o,eo,hex.1⟩;have hnod:∀ a,Value.ref d=.ref a->∃ ob,s1.heap.get? a=some ob/\ob.dict=none:=λa e=>by cases e;exact⟨o,eo,hex.2.1⟩
  refine⟨"dict", "dict.items",KW,MX,PySem.F.type_dict_items,hty,hnod,Lz rfl (N3 ?_)⟩;refine Mq MX hty PySem.F.entry_dict_items (PySem.F.args_dict_items_1 _) (sQ d hd) ⟨⟨en,ep,o,eo,hex,hdat⟩,?_⟩;have I3:Inv X pins σ H2 { s1 with heap:=s1.heap.push { cls:=.type "dict_items",data:=.fields #[.ref d] } }:=I2.kept (t':=s1.toks) λb o e=>Ks _ e;have e3:({ s1 with heap:=s1.heap.push { cls:=.type "dict_items",data:=.fields #[.ref d] } }:Ox).heap.get? d=some o:=Ks _ eo;generalize hs3:({ s1 with heap:=s1.heap.push { cls:=.type "dict_items",data:=.fields #[.ref d] } }:Ox)=s3 at I3 e3;have hv:s3.heap.IsItemsView s1.heap.objs.size d:=by rw[<- hs3];exact⟨_,KF _ rfl,rfl,rfl⟩
  show wpAny _ _ (pyIter (.ref s1.heap.objs.size)) _ _ _;refine uy hv ⟨o,e3,hex,hdat⟩ ?_;refine⟨s3.heap.objs.size,[s3.heap.objs.size],_,_,H2,rfl,I3.kept (t':=s3.toks) λb o e=>Ks _ e,uA (hu.imp id And.right) hex hdat aR,⟨_,_,KF _ rfl⟩,λb hb=>?_,q2⟩;have e:b=s3.heap.objs.size:=by simpa using hb
  subst e;exact I3.fpOk (Kq _) (I3.hok.fresh (Kq _))
 rcases q with⟨o,e1,q⟩|⟨e1,q⟩
 .exact fin o H1 I1 e1 q
 .have hob:∃ o,s1.heap.get? d=some o:=by
   rcases hu with rfl|⟨rfl,_⟩
   .obtain⟨_,_,_,_,o,_,_,ho,_⟩:=(show ObjOk X.prog X.w H1 s1.heap d (.dT kvs) from I1.hok d _ e1);exact⟨o,ho⟩
   .obtain⟨_,_,_,_,o,_,_,ho,_⟩:=(show ObjOk X.prog X.w H1 s1.heap d (.dK []) from I1.hok d _ e1);exact⟨o,ho⟩
  obtain⟨o,ho⟩:=hob;exact fin o _ (I1.frz e1 iu ho) ac (q o (I1.nofrz e1 iu))
end
section
variable {X:Cx}
end
section
open PySem.MeetsSeq PySem.SeqAt
open PySem.AutoSeq1 (wpAny_loadPart')
end
noncomputable def oA:List Int->Int
 | []=>0
 |x::r=>r.foldl (λa b=>if b<a then b else a) x
theorem yW (h:l≠[])(z:Int):oA (l++[z])=if z<oA l then z else oA l:=by
 cases l with
 |nil=>exact(h rfl).elim
 |cons x r=>show(r++[z]).foldl _ x=_;rw[Mm];rfl
theorem jA (xs:Array (Int×Tok)):∀ k,k<xs.size->numAt xs (argBest (λi j=>decide (numAt xs i<numAt xs j)) k)=oA ((xs.toList.map (·.1)).take (k+1))
 |0,h=>by
  have e:xs.toList.map (·.1)≠[]:=λz=>by have:=LA List.length z;simp at this;rw[this]at h;simp at h
  cases q:xs.toList.map (·.1) with
  |nil=>exact(e q).elim
  |cons y r=>
   have:(xs[0]?.map (·.1))=some y:=by rw[<- Array.getElem?_toList,<- KN,q];rfl
   show numAt xs 0=y;unfold numAt;rw[this];rfl
 |k+1,h=>by
  have ih:=jA xs k (by lia);have ez:(xs.toList.map (·.1))[k+1]?=some (numAt xs (k+1)):=by rw[KN,Array.getElem?_toList];unfold numAt;rw[Array.getElem?_eq_getElem h];rfl
  have et:(xs.toList.map (·.1)).take (k+1+1)=(xs.toList.map (·.1)).take (k+1)++[numAt xs (k+1)]:=by rw[List.take_succ,ez];rfl
  have ne:(xs.toList.map (·.1)).take (k+1)≠[]:=λz=>by have h9:=LA List.length z;rw[MY,Kw,Np,KO]at h9;lia
  rw[et,yW ne,<- ih];show numAt xs (if (decide (numAt xs (k+1)<numAt xs (argBest _ k)))=true then k+1 else argBest _ k)=_;by_cases hl:numAt xs (k+1)<numAt xs (argBest (λi j=>decide (numAt xs i<numAt xs j)) k)
  .rw[Ku (Kz hl),Ku hl]
  .rw[Kv (by simpa using hl),Kv hl]
theorem pI:∀{ns:List Int}{its:List OA},Vals (ns.map V.int) its->∃ ps:List (Int×Tok),its=ps.map (λp=>.int p.1 p.2)/\ps.map (·.1)=ns
 | [],_,h=>by cases h;exact⟨[],rfl,rfl⟩
 |n::ns,_,h=>by
  cases h with
  |cons r rr=>obtain⟨t,rfl⟩:=r;obtain⟨ps,rfl,e⟩:=pI rr;exact⟨(n,t)::ps,rfl,by rw[Kr,e]⟩
theorem rH (hc:X.calm=true):CallR X (.builtin "min") (λxs H Q=>∃ p ns,xs=[.ref p]/\SqL X.K H p (ns.map V.int)/\ns≠[]/\Q (.int (oA ns)) H):=by
 intro pins s σ H xs us Q I r h;obtain⟨p,ns,rfl,hq,hne,q⟩:=h;obtain⟨u,rfl,rx⟩:=j_ r;cases rx;obtain⟨its,rv,pl,hz⟩:=I.list hq;obtain⟨ps,rfl,e⟩:=pI rv;have hl:s.heap.IsList p (intItems ps.toArray):=by
  have:intItems ps.toArray=(ps.map (λp=>Value.int p.1 p.2)).toArray:=by simp[intItems]
  rw[this];exact pl.isList
 have hpos:0<ps.toArray.size:=by
  cases ps with
  |nil=>exact(hne e.symm).elim
  |cons _ _=>simp
 refine min_intList (I.ok.hd hc) hl hpos λv h' tk ev kp=>?_;obtain⟨t,rfl⟩:=intItems_at ev;rw[jA ps.toArray _ (by lia)];have ef:(ps.toArray.toList.map (·.1)).take (ps.toArray.size-1+1)=ns:=by rw[L0 (by simp;lia)];simpa using e
 rw[ef];exact⟨.int (oA ns),H,I.kept (t':=tk) kp,⟨t,rfl⟩,q⟩
end L2
namespace L2
open PySem PySem.Spec PySem.Calls PyProof.Rows ST
section
variable {prog:Oz}{w:World}{A:OB}{E:OA->Ox->Prop}{s:Ox}
end
section
variable {X:Cx}
end
end L2
namespace L2
open PySem PySem.Spec PySem.Calls PyProof.Rows
section
variable {X:Cx}
end
end L2
namespace L2
open PySem PySem.Spec PyProof.Rows
section
variable {X:Cx}{hc hc2:Str}{Ch Ch2:Addr}{np hpos np2 hpos2 pos epos:Pos}{b₀ c₀:Stmt}{suite suite2:List Stmt}{ts ts2:TS}{te:TX}{e:Expr}
end
open Sem (wp)
open Builtin
section
variable {prog:Oz}{w:World}{A:OB}{E:OA->Ox->Prop}{s:Ox}
end
open Sem (wp)
open Builtin
section
variable {prog:Oz}{w:World}{A:OB}{E:OA->Ox->Prop}{s:Ox}
end
noncomputable def pJ (kts:List (Addr×List V))(a:Addr)(o:Obj)(ns:List Int):Hp:=λb=>match kts.lookup b with
 |some xs=>some (.tup xs)
 |none=>if b=a then some (.frz o (.lst (ns.map V.int))) else none
section
variable {kts:List (Addr×List V)}{a b:Addr}{o:Obj}{ns:List Int}{xs:List V}
theorem Dg (e:kts.lookup b=some xs):pJ kts a o ns b=some (.tup xs):=by unfold pJ;rw[e]
theorem Dh (e:kts.lookup a=none):pJ kts a o ns a=some (.frz o (.lst (ns.map V.int))):=by unfold pJ;rw[e];exact Ku rfl
theorem Di (e:kts.lookup b=none)(n:b≠a):pJ kts a o ns b=none:=by unfold pJ;rw[e];exact Kv n
end
theorem mi:∀{vs:List OA}{ns:List Int},IntsAre vs ns->Vals (ns.map V.int) vs
 |_,_,.nil=>.nil
 |_,_,.cons n t h=>.cons ⟨t,rfl⟩ (mi h)
theorem yX {P:Oz}{w:World}{K:Oy}{mg mb:Str->Option OA}{CX:CXT}{k:Nat}{fa a:Addr}{fd:FuncData}{x:Str}{sp:Sp}{s₁:Ox}{vs:List OA}{ns:List Int}{kts:List (Addr×List V)}
 (KX:K.In s₁.heap) (hns:s₁.heap.Ns mainGlobals mg) (hb:s₁.heap.Ns builtinsNs mb) (hbb:∀ x:Str,x≠"__name__"->mb x=bootBuiltins x) (hlim:s₁.heap.NoLimit) (hg:s₁.gens=#[])
 (ha:s₁.heap.get? a=some { cls:=.type "list",data:=.seq vs.toArray }) (hi:IntsAre vs ns) (hl:ns.length<=sizeLine) (hr:Room k callerA)
 (hK:∀ o,K.lookup a=some o->o.cls=.type "list"->False)
 (hT:∀ b xs,kts.lookup b=some xs->K.lookup b=none/\∃(o:Obj)(its:Array OA)(n:Nat),s₁.heap.get? b=some o/\o.cls=.type "tuple"/\o.data=.seq its n/\its.size<=sizeLine/\Vals xs its.toList)
 (hM:∀ p∈K,∀ b xs,Fx p.2=some (b,xs)->kts.lookup b=some xs)
 (F:∀ base:Heap,K.In base->base.Ns mainGlobals mg->FnOk P w K mg base CX k fa fd [x] sp) (hbind:∀(s:Ox)(u:OA),BindsTo s fd ⟨[u],[]⟩ [(x,u)])
 (hsp:∀ H:Hp,(∃ o,H a=some (.frz o (.lst (ns.map V.int))))->sp [.ref a] H (λv _=>v=.bl true) λ_ _ _=>False)
 (hCX:∀ H e s',CX [] H s₁ (λ_ _ _=>False) e s'->False) :
 codeAny (model P w) callerA (.call (.ref fa) ⟨[.ref a],[]⟩) (λr s'=>r=.ok (.ret (.bool true))/\OldK s₁.heap s'.heap/\s'.os=s₁.os/\AllBare s'.gens) s₁:=by
 have rv:=mi hi;have noK:K.lookup a=none:=by
  cases q:K.lookup a with
  |none=>rfl
  |some o=>have e:=KX a o q;rw[ha]at e;cases e;exact(hK _ q rfl).elim
 have noT:kts.lookup a=none:=by
  cases q:kts.lookup a with
  |none=>rfl
  |some xs=>obtain⟨_,o,its,n,e,c,_⟩:=hT a xs q;rw[ha]at e;cases e;exact absurd c (by simp)
 obtain⟨ob,eob⟩ : ∃ ob:Obj,ob={ cls:=.type "list",data:=.seq vs.toArray }:=⟨_,rfl⟩;rw[<- eob]at ha;generalize eH:pJ kts a ob ns=H;have Ha:H a=some (.frz ob (.lst (ns.map V.int))):=by rw[<- eH];exact Dh noT
 have Ht:∀ b xs,kts.lookup b=some xs->H b=some (.tup xs):=λb xs e=>by rw[<- eH];exact Dg e
 have Hn:∀ b,kts.lookup b=none->b≠a->H b=none:=λb e n=>by rw[<- eH];exact Di e n
 have freeK:∀ b o,K.lookup b=some o->H b=none:=λb o e=>by
  refine Hn b ?_ λz=>by rw[z,noK]at e;cases e
  cases q:kts.lookup b with
  |none=>rfl
  |some xs=>rw[(hT b xs q).1]at e;cases e
 have freeD:∀(b:Addr)(o:Obj)(es:Array DictEntry)(ep:Nat),s₁.heap.get? b=some o->o.data=.dict es ep->H b=none:=λb o es ep e d=>by
  refine Hn b ?_ λz=>?_
  .cases q:kts.lookup b with
   |none=>rfl
   |some xs=>obtain⟨_,o',its,n,e',_,d',_⟩:=hT b xs q;rw[e]at e';cases e';rw[d]at d';cases d'
  .rw[z,ha]at e;cases e;rw[eob]at d;cases d
 have nsK:∀{b:Addr}{m:Str->Option OA},s₁.heap.Ns b m->(uc s₁.heap H).Ns b m:=λ{b m} ⟨o,es,ep,e,d,r⟩=>⟨o,es,ep,ud e (freeD b o es ep e d),d,r⟩;have hKb:K.In (uc s₁.heap H):=λb o e=>ud (KX b o e) (freeK b o e);have hMd:Mod K mg (uc s₁.heap H):=⟨hKb,nsK hns,⟨mb,nsK hb,hbb⟩,let ⟨mc,h1,h2⟩:=hlim;⟨mc,nsK h1,h2⟩⟩;have hok:HOk P w H s₁.heap:=λb u e=>by
  cases q:kts.lookup b with
  |some xs=>rw[Ht b xs q]at e;cases e;obtain⟨_,o,its,n,e1,c,d,z,r⟩:=hT b xs q;refine⟨by rw[r.length];simpa using z,its.toList,r,o,e1,c,n,by simpa using d⟩
  |none=>
   by_cases hba:b=a
   .rw[hba,Ha]at e;cases e;rw[hba];exact⟨ha,by rw[Kw];exact hl,vs,_,rv,by rw[ha,eob]⟩
   .rw[Hn b q hba]at e;cases e
 have e0:Env0 P w K mg (uc s₁.heap H) callerA [] s₁ H:=⟨rfl,hMd,λb o e=>CK e,Ov (yG _ _),trivial,λb hb=>absurd (show b∈([]:List Addr) from hb) (by simp),hok,.of_eq hg,λp hp b xs e=>Ht b xs (hM p hp b xs e)⟩;refine codeAny_mono ((F _ hKb (nsK hns)).run callerA [] s₁ H ⟨[.ref a],[]⟩ [.ref a] [.ref a] _ _ hr e0 (hbind s₁ (.ref a)) (.cons rfl .nil) (hsp H ⟨ob,Ha⟩)) λr s' h=>?_;cases r with
 |error e=>exact(hCX H e s' h).elim
 |ok fl=>
  cases fl with
  |next=>exact False.elim h
  |brk=>exact False.elim h
  |cont=>exact False.elim h
  |ret u=>
   obtain⟨v,H',os,bare,un,hok',r',q⟩:=h;have q':v=.bl true:=q;subst q';obtain rfl:u=Value.bool true:=r';refine⟨rfl,OldK.of_keep λb o e=>?_,os,bare⟩;by_cases hba:b=a
   .rw[hba]at e ⊢;have z2:=un.frzs a ob _ Ha;obtain⟨e2,_⟩:=hok' a _ z2;rw[ha]at e;cases e;exact e2
   .refine un.keep b o e ?_ (by intro z;exact absurd (show b∈([]:List Addr) from z) (by simp)) (by simp);cases q:kts.lookup b with
    |none=>exact .inl (Hn b q hba)
    |some xs=>exact .inr ⟨xs,Ht b xs q⟩
section
variable {K K':Oy}{g:Addr}{kts:List (Addr×List V)}
def JH (K:Oy):Bool:=K.all λp=>(Fx p.2).isNone
structure SubK (K K':Oy):Prop where
 look:∀ b o,K.lookup b=some o->(∀ its n,o.data≠.seq its n)->K'.lookup b=some o
theorem yY:SubK K K:=⟨λ_ _ e _=>e⟩
theorem SubK.code (S:SubK K K')(h:PySem.W.codeIn K cd q=true):PySem.W.codeIn K' cd q=true:=by
 unfold PySem.W.codeIn at h ⊢;cases cd with
 |ref c=>
  dsimp only at h ⊢;cases e:K.lookup c with
  |none=>rw[e]at h;cases h
  |some o=>
   obtain⟨o1,o2,o3,o4⟩:=o;cases o3 with
   |fields vs=>rw[S.look c _ e (λ_ _ z=>nomatch z)];rw[e]at h;exact h
   |_=>rw[e]at h;cases h
 |_=>cases h
theorem SubK.keep (S:SubK K K')(e:K.lookup f=some ⟨o1,o2,.func fd,o4⟩):PySem.W.keepIn K' (.ref f)=true:=by unfold PySem.W.keepIn;dsimp only;rw[S.look f _ e (λ_ _ z=>nomatch z)]
end
noncomputable def xH:OA->Bool
 | .type n=>n=="list"
 |_=>false
def JI (K:Oy):Bool:=K.all λp=>!xH p.2.cls
theorem AD:∀{K:Oy},JI K=true->K.lookup a=some o->o.cls=.type "list"->False
 | [],_,e,_=>by cases e
 |(b,x)::r,h,e,c=>by
  unfold JI at h;rw[ND,Ln]at h;rw[MZ]at e;split at e
  .cases e;rw[c]at h;have h1:=h.1;simp[xH]at h1
  .exact AD (K:=r) h.2 e c
section
variable {l:PySem.W.OpenLaw}{n k:Nat}{q:Oz}{loose:List Str}{XP:(Str->Option OA)->Heap->Prop}{YP:World->Heap->Prop}{d:DefRec}{K:Params->Oy}{CX:World->CXT}{sp:World->Sp}{x:Str}
theorem AE (hn:l.most=some n)(hn2:n<=sizeLine)(hdf:d.params.defaults=[])(hr:Room k callerA)(hY:∀(w:World)(h:Heap),YP w h->(K w.params).In h)
 (hL:∀ w:World,JI (K w.params)=true/\JH (K w.params)=true)
 (F:∀(w:World)(mg:Str->Option OA)(fa:Addr)(h:Heap),(K w.params).In h->h.Ns mainGlobals mg->mg d.name=some (.ref fa)->
   ∃ fd:FuncData,(∀(s:Ox)(u:OA),BindsTo s fd ⟨[u],[]⟩ [(x,u)])/\∀ base:Heap,(K w.params).In base->base.Ns mainGlobals mg->FnOk l.prog w (K w.params) mg base (CX w) k fa fd [x] (sp w))
 (hsp:∀(w:World)(H:Hp)(a:Addr)(ns:List Int),ns.length<=n->(∃ o,H a=some (.frz o (.lst (ns.map V.int))))->sp w [.ref a] H (λv _=>v=.bl true) λ_ _ _=>False)
 (hCX:∀(w:World)(H:Hp)(s:Ox)(e:OA)(s':Ox),CX w [] H s (λ_ _ _=>False) e s'->False) :
 PySem.W.WalkO q loose XP YP l.row.toRowW d [] (λf vs=>PySem.call f vs):=by
 refine Att.attach_call hn hdf λw s₀ s₁ mg mb fa o pm cd doc a vs ns G Y ho hd hcd hmg hobj hints aR hg=>?_;have KX:=hY w _ Y;obtain⟨fd,hb,hF⟩:=F w mg fa _ KX G.T.g hmg;exact yX (kts:=[]) KX G.T.g G.T.b G.T.builtins G.T.nolimit hg hobj hints (Ld aR hn2) hr (λo e c=>AD (hL w).1 e c) (λb xs e=>by cases e)
  (λp hp b xs e=>by have:=LC.mp (hL w).2 p hp;rw[e]at this;cases this) hF hb (λH hS=>hsp w H a ns aR hS) λH e s'=>hCX w H s₁ e s'
end
end L2
namespace L2
open PySem PySem.Spec PySem.Calls PyProof.Rows
section
variable (P:Oz)(w:World)
end
section
variable {P:Oz}{w:World}{h h':Heap}{A:OB}{E:OA->Ox->Prop}{s:Ox}
end
noncomputable abbrev K0:=Sum Int (List Int)
abbrev NX:=List (List K0×Addr×OA)
noncomputable def NVs (H:Hp):List K0->List V->Prop
 | [],vs=>vs=[]
 | .inl i::ks,vs=>∃ r,vs=.int i::r/\NVs H ks r
 | .inr l::ks,vs=>∃ c r,vs=.ref c::r/\H c=some (.tup (l.map V.int))/\NVs H ks r
def KeyN (H:Hp)(k:List K0)(b:Addr):Prop:=∃ vs,H b=some (.tup vs)/\NVs H k vs
section
variable {H H':Hp}
theorem NVs.mono (kt:∀ b vs,H b=some (.tup vs)->H' b=some (.tup vs)):∀{k:List K0}{vs:List V},NVs H k vs->NVs H' k vs
 | [],_,h=>h
 | .inl i::ks,_,⟨r,e,h⟩=>⟨r,e,NVs.mono kt h⟩
 | .inr l::ks,_,⟨c,r,e,e2,h⟩=>⟨c,r,e,kt _ _ e2,NVs.mono kt h⟩
theorem KeyN.mono (kt:∀ b vs,H b=some (.tup vs)->H' b=some (.tup vs))(h:KeyN H k b):KeyN H' k b:=let ⟨vs,e,q⟩:=h;⟨vs,kt _ _ e,q.mono kt⟩
end
section
variable {P:Oz}{w:World}{H:Hp}{h:Heap}{a:Addr}
end
section
variable {X:Cx}{pins:List (Addr×Obj)}{σ:St}{H:Hp}{s:Ox}{a b:Addr}{xs:NX}{k:List K0}{A:OB}{E:OA->Ox->Prop}
end
section
variable {X:Cx}{value o i:Expr}{td ty tv:TE}{pos pos':Pos}
end
end L2
namespace L2
open PySem PySem.Spec PySem.Calls PyProof.Rows ST
section
variable {X:Cx}
end
end L2
namespace L3
open PySem PySem.Spec PyProof.Rows L2
abbrev DK:=Sum Key (List Key)
inductive D where
 |non|bl (b:Bool)|int (i:Int)|str (x:Str)|tup (ds:List D)|lst (ds:List D)|dic (ks:List DK) (ds:List D)
mutual
noncomputable def D.flat:D->Bool
 | .lst _=>false
 | .dic _ _=>false
 | .tup ds=>D.flats ds
 |_=>true
noncomputable def D.flats:List D->Bool
 | []=>true
 |d::ds=>d.flat&&D.flats ds
end
mutual
noncomputable def D.dep:D->Nat
 | .lst ds=>D.deps ds+1
 | .tup ds=>D.deps ds+1
 | .dic _ ds=>D.deps ds+1000
 |_=>0
noncomputable def D.deps:List D->Nat
 | []=>0
 |d::ds=>max d.dep (D.deps ds)
end
mutual
noncomputable def ji:D->D->Bool
 | .non,e=>match e with|.non=>true|_=>false
 | .bl a,e=>match e with|.bl b=>a==b|.int b=>(if a then 1 else 0)==b|_=>false
 | .int a,e=>match e with|.int b=>a==b|.bl b=>a==(if b then 1 else 0)|_=>false
 | .str a,e=>match e with|.str b=>a==b|_=>false
 | .tup as,e=>match e with|.tup bs=>eqDs as bs|_=>false
 | .lst as,e=>match e with|.lst bs=>eqDs as bs|_=>false
 | .dic ks as,e=>match e with|.dic ls bs=>decide (ks=ls)&&eqDs as bs|_=>false
noncomputable def eqDs:List D->List D->Bool
 | [],bs=>match bs with|[]=>true|_=>false
 |a::as,bs=>match bs with|b::r=>ji a b&&eqDs as r|[]=>false
end
mutual
theorem kq:∀ d:D,ji d d=true
 | .non=>rfl
 | .bl a=>by simp[ji]
 | .int a=>by simp[ji]
 | .str a=>by simp[ji]
 | .tup as=>by simp only[ji];exact eqDs_refl as
 | .lst as=>by simp only[ji];exact eqDs_refl as
 | .dic ks as=>by simp only[ji,LY,Le];exact eqDs_refl as
theorem eqDs_refl:∀ ds:List D,eqDs ds ds=true
 | []=>rfl
 |d::ds=>by simp only[eqDs,kq d,eqDs_refl ds,Lo]
end
def DAt (H:Hp)(a:Addr)(ks:List DK)(vs:List V):Prop:=(∃ kvs:List (Key×V),Rd H a (.dK kvs)/\ks=kvs.map (λp=>.inl p.1)/\vs=kvs.map Prod.snd)\/∃ kvs:List (List Key×V),Rd H a (.dT kvs)/\ks=kvs.map (λp=>.inr p.1)/\vs=kvs.map Prod.snd
noncomputable def F6:HO->Prop
 | .lst _=>True
 | .dK _=>True
 | .dT _=>True
 | .ext _=>True
 |_=>False
def Mu (H:Hp)(a:Addr):Prop:=∃ o,H a=some o/\F6 o
theorem Mu.lst (h:H a=some (.lst vs)):Mu H a:=⟨_,h,True.intro⟩
theorem Mu.same (h:Mu H a)(s:∀ o,H a=some o->H' a=some o):Mu H' a:=let ⟨o,e,m⟩:=h;⟨o,s o e,m⟩
theorem Mu.some (h:Mu H a):H a≠none:=by obtain⟨o,e,_⟩:=h;rw[e];simp
theorem EZ (h:Rd H a u):∃ o,H a=some o:=h.elim (λe=>⟨_,e⟩) λ⟨_,e⟩=>⟨_,e⟩
theorem ni (h:Rd H a u)(s:∀ o,H a=some o->H' a=some o):Rd H' a u:=h.imp (s _) λ⟨o,e⟩=>⟨o,s _ e⟩
theorem DAt.obj (h:DAt H a ks vs):∃ o,H a=some o:=h.elim (λ⟨_,e,_⟩=>EZ e) λ⟨_,e,_⟩=>EZ e
theorem DAt.mu (h:DAt H a ks vs)(n:∀ o u,H a≠some (.frz o u)):Mu H a:=by rcases h with⟨kvs,e|⟨o,e⟩,_⟩|⟨kvs,e|⟨o,e⟩,_⟩<;>first|exact⟨_,e,True.intro⟩|exact(n _ _ e).elim
theorem DAt.keep (h:DAt H a ks vs)(s:∀ o,H a=some o->H' a=some o):DAt H' a ks vs:=h.imp (λ⟨kvs,e,r⟩=>⟨kvs,ni e s,r⟩) λ⟨kvs,e,r⟩=>⟨kvs,ni e s,r⟩
theorem DAt.inj (h:DAt H a ks vs)(g:DAt H a ls ws):ks=ls/\vs=ws:=by rcases h with⟨k1,e1|⟨o1,e1⟩,r1,r2⟩|⟨k1,e1|⟨o1,e1⟩,r1,r2⟩<;>rcases g with⟨k2,e2|⟨o2,e2⟩,q1,q2⟩|⟨k2,e2|⟨o2,e2⟩,q1,q2⟩<;>(rw[e1]at e2;cases e2;try exact⟨r1.trans q1.symm,r2.trans q2.symm⟩)
noncomputable def JJ:HO->Prop
 | .dK _=>False
 | .dT _=>False
 | .frz _ (.dK _)=>False
 | .frz _ (.dT _)=>False
 |_=>True
theorem DAt.no (h:DAt H a ks vs)(e:H a=some o)(n:JJ o):False:=by rcases h with⟨k,z|⟨o',z⟩,_⟩|⟨k,z|⟨o',z⟩,_⟩<;>(rw[e]at z;cases z;exact n)
mutual
noncomputable def Is (H:Hp)(m:Addr->Prop):D->V->Prop
 | .non,v=>v=.non
 | .bl b,v=>v=.bl b
 | .int i,v=>v=.int i
 | .str x,v=>v=.str x
 | .tup ds,v=>∃ a vs,v=.ref a/\H a=some (.tup vs)/\IsAll H m ds vs
 | .lst ds,v=>∃ a vs,v=.ref a/\((H a=some (.lst vs)/\m a)\/∃ o,H a=some (.frz o (.lst vs))/\m a)/\IsAll H m ds vs
 | .dic ks ds,v=>∃ a vs,v=.ref a/\(DAt H a ks vs/\m a)/\IsAll H m ds vs
noncomputable def IsAll (H:Hp)(m:Addr->Prop):List D->List V->Prop
 | [],vs=>vs=[]
 |d::ds,vs=>∃ v r,vs=v::r/\Is H m d v/\IsAll H m ds r
end
noncomputable def fixd:HO->Prop
 | .tup _=>True
 | .frz _ _=>True
 |_=>False
section
variable {H H':Hp}{m m':Addr->Prop}
mutual
theorem Is.mono (kp:∀ a o,H a=some o->(m a\/fixd o)->H' a=some o)(mm:∀ a o,H a=some o->m a->m' a):∀{d:D}{v:V},Is H m d v->Is H' m' d v
 | .non,_,h=>h
 | .bl _,_,h=>h
 | .int _,_,h=>h
 | .str _,_,h=>h
 | .tup ds,_,h=>by obtain⟨a,vs,e,h1,h2⟩:=h;exact⟨a,vs,e,kp a _ h1 (.inr True.intro),IsAll.mono kp mm h2⟩
 | .lst ds,_,h=>by
  obtain⟨a,vs,e,h1,h2⟩:=h;refine⟨a,vs,e,?_,IsAll.mono kp mm h2⟩;rcases h1 with⟨h1,h3⟩|⟨o,h1,h3⟩
  .exact .inl ⟨kp a _ h1 (.inl h3),mm a _ h1 h3⟩
  .exact .inr ⟨o,kp a _ h1 (.inr True.intro),mm a _ h1 h3⟩
 | .dic ks ds,_,h=>by obtain⟨a,vs,e,h1,h2⟩:=h;obtain⟨o,eo⟩:=h1.1.obj;exact⟨a,vs,e,⟨h1.1.keep λo e=>kp a o e (.inl h1.2),mm a o eo h1.2⟩,IsAll.mono kp mm h2⟩
theorem IsAll.mono (kp:∀ a o,H a=some o->(m a\/fixd o)->H' a=some o)(mm:∀ a o,H a=some o->m a->m' a):∀{ds:List D}{vs:List V},IsAll H m ds vs->IsAll H' m' ds vs
 | [],_,h=>h
 |d::ds,_,h=>by obtain⟨v,r,e,h1,h2⟩:=h;exact⟨v,r,e,Is.mono kp mm h1,IsAll.mono kp mm h2⟩
end
theorem Is.weak (mm:∀ a,m a->m' a)(h:Is H m d v):Is H m' d v:=h.mono (λ_ _ e _=>e) λa _ _=>mm a
theorem IsAll.weak (mm:∀ a,m a->m' a)(h:IsAll H m ds vs):IsAll H m' ds vs:=h.mono (λ_ _ e _=>e) λa _ _=>mm a
theorem Is.same (s:Same H H')(h:Is H m d v):Is H' m d v:=h.mono (λa o e _=>s a o e) λ_ _ _ z=>z
theorem IsAll.same (s:Same H H')(h:IsAll H m ds vs):IsAll H' m ds vs:=h.mono (λa o e _=>s a o e) λ_ _ _ z=>z
mutual
theorem Is.flat:∀{d:D}{v:V},d.flat=true->Is H m d v->Is H m' d v
 | .non,_,_,h=>h
 | .bl _,_,_,h=>h
 | .int _,_,_,h=>h
 | .str _,_,_,h=>h
 | .tup ds,_,f,h=>by obtain⟨a,vs,e,h1,h2⟩:=h;exact⟨a,vs,e,h1,IsAll.flat (by simpa only[D.flat] using f) h2⟩
 | .lst ds,_,f,_=>by simp[D.flat]at f
 | .dic ks ds,_,f,_=>by simp[D.flat]at f
theorem IsAll.flat:∀{ds:List D}{vs:List V},D.flats ds=true->IsAll H m ds vs->IsAll H m' ds vs
 | [],_,_,h=>h
 |d::ds,_,f,h=>by obtain⟨v,r,e,h1,h2⟩:=h;simp only[D.flats,Ln]at f;exact⟨v,r,e,Is.flat f.1 h1,IsAll.flat f.2 h2⟩
end
mutual
theorem Is.inj:∀{d e:D}{v:V},Is H m d v->Is H m' e v->d=e
 | .non,e,_,h,g=>by cases e<;>first|rfl|(cases h;first|(obtain⟨_,_,z,_⟩:=g;cases z;done)|cases g)
 | .bl _,e,_,h,g=>by cases e<;>(cases h;first|(obtain⟨_,_,z,_⟩:=g;cases z;done)|(cases g;rfl)|cases g)
 | .int _,e,_,h,g=>by cases e<;>(cases h;first|(obtain⟨_,_,z,_⟩:=g;cases z;done)|(cases g;rfl)|cases g)
 | .str _,e,_,h,g=>by cases e<;>(cases h;first|(obtain⟨_,_,z,_⟩:=g;cases z;done)|(cases g;rfl)|cases g)
 | .tup ds,e,_,h,g=>by
  obtain⟨a,vs,rfl,h1,h2⟩:=h;cases e with
  |tup es=>obtain⟨b,ws,z,g1,g2⟩:=g;cases z;rw[h1]at g1;cases g1;rw[IsAll.inj h2 g2]
  |lst es=>obtain⟨b,ws,z,g1,g2⟩:=g;cases z;rcases g1 with⟨g1,_⟩|⟨o,g1,_⟩<;>(rw[h1]at g1;cases g1)
  |dic ls es=>obtain⟨b,ws,z,g1,g2⟩:=g;cases z;exact(g1.1.no h1 True.intro).elim
  |_=>cases g
 | .lst ds,e,_,h,g=>by
  obtain⟨a,vs,rfl,h1,h2⟩:=h;cases e with
  |tup es=>obtain⟨b,ws,z,g1,g2⟩:=g;cases z;rcases h1 with⟨h1,_⟩|⟨o,h1,_⟩<;>(rw[h1]at g1;cases g1)
  |lst es=>
   obtain⟨b,ws,z,g1,g2⟩:=g;cases z;have e:vs=ws:=by rcases h1 with⟨h1,_⟩|⟨o,h1,_⟩<;>rcases g1 with⟨g1,_⟩|⟨o',g1,_⟩<;>(rw[h1]at g1;cases g1;try rfl)
   subst e;rw[IsAll.inj h2 g2]
  |dic ls es=>obtain⟨b,ws,z,g1,g2⟩:=g;cases z;rcases h1 with⟨h1,_⟩|⟨o,h1,_⟩<;>exact(g1.1.no h1 True.intro).elim
  |_=>cases g
 | .dic ks ds,e,_,h,g=>by
  obtain⟨a,vs,rfl,h1,h2⟩:=h;cases e with
  |tup es=>obtain⟨b,ws,z,g1,g2⟩:=g;cases z;exact(h1.1.no g1 True.intro).elim
  |lst es=>obtain⟨b,ws,z,g1,g2⟩:=g;cases z;rcases g1 with⟨g1,_⟩|⟨o,g1,_⟩<;>exact(h1.1.no g1 True.intro).elim
  |dic ls es=>obtain⟨b,ws,z,g1,g2⟩:=g;cases z;obtain⟨e1,e2⟩:=h1.1.inj g1.1;subst e1 e2;rw[IsAll.inj h2 g2]
  |_=>cases g
theorem IsAll.inj:∀{ds es:List D}{vs:List V},IsAll H m ds vs->IsAll H m' es vs->ds=es
 | [],es,_,h,g=>by
  cases h;cases es with
  |nil=>rfl
  |cons e es=>obtain⟨_,_,z,_⟩:=g;cases z
 |d::ds,es,_,h,g=>by
  obtain⟨v,r,rfl,h1,h2⟩:=h;cases es with
  |nil=>cases g
  |cons e es=>obtain⟨w,q,z,g1,g2⟩:=g;cases z;rw[Is.inj h1 g1,IsAll.inj h2 g2]
end
theorem IsAll.length:∀{ds:List D}{vs:List V},IsAll H m ds vs->vs.length=ds.length
 | [],_,h=>by cases h;rfl
 |d::ds,_,h=>by obtain⟨v,r,rfl,_,h2⟩:=h;simp[IsAll.length h2]
theorem IsAll.append:∀{ds es:List D}{vs ws:List V},IsAll H m ds vs->IsAll H m es ws->IsAll H m (ds++es) (vs++ws)
 | [],_,_,_,h,g=>by cases h;exact g
 |d::ds,_,_,_,h,g=>by obtain⟨v,r,rfl,h1,h2⟩:=h;exact⟨v,r++_,rfl,h1,IsAll.append h2 g⟩
theorem IsAll.snoc (h:IsAll H m ds vs)(g:Is H m d v):IsAll H m (ds++[d]) (vs++[v]):=h.append ⟨v,[],rfl,g,rfl⟩
theorem IsAll.get:∀{ds:List D}{vs:List V}{i:Nat}{d:D},IsAll H m ds vs->ds[i]?=some d->∃ v,vs[i]?=some v/\Is H m d v
 | [],_,_,_,_,e=>by simp at e
 |d::ds,_,0,_,h,e=>by obtain⟨v,r,rfl,h1,h2⟩:=h;simp at e;subst e;exact⟨v,rfl,h1⟩
 |d::ds,_,i+1,_,h,e=>by obtain⟨v,r,rfl,h1,h2⟩:=h;obtain⟨w,a,b⟩:=IsAll.get (i:=i) h2 (by simpa using e);exact⟨w,by simpa using a,b⟩
theorem IsAll.take:∀{ds:List D}{vs:List V}(n:Nat),IsAll H m ds vs->IsAll H m (ds.take n) (vs.take n)
 |_,_,0,_=>rfl
 | [],_,n+1,h=>by cases h;exact rfl
 |d::ds,_,n+1,h=>by obtain⟨v,r,rfl,h1,h2⟩:=h;exact⟨v,r.take n,rfl,h1,IsAll.take n h2⟩
theorem IsAll.drop:∀{ds:List D}{vs:List V}(n:Nat),IsAll H m ds vs->IsAll H m (ds.drop n) (vs.drop n)
 |_,_,0,h=>h
 | [],_,n+1,h=>by cases h;exact rfl
 |d::ds,_,n+1,h=>by obtain⟨v,r,rfl,h1,h2⟩:=h;exact IsAll.drop n h2
end
section
variable {P:Oz}{w:World}{H:Hp}{s:Ox}{m m':Addr->Prop}
theorem F7 (ok:HOk P w H s.heap)(h:(H a=some (.lst vs)/\m a)\/∃ o,H a=some (.frz o (.lst vs))/\m a) :
 ∃ its:List OA,Vals vs its/\s.heap.IsList a its.toArray:=by
 have key:ObjOk P w H s.heap a (.lst vs)->∃ its:List OA,Vals vs its/\s.heap.IsList a its.toArray:=λ⟨_,its,n,r,e⟩=>⟨its,r,⟨_,e,rfl,n,rfl⟩⟩;rcases h with⟨h,_⟩|⟨o,h,_⟩
 .exact key (ok a _ h)
 .exact key (ok a _ h).2
theorem F8 (ok:HOk P w H s.heap)(h:H a=some (.tup vs)):∃ its:List OA,Vals vs its/\s.heap.IsTuple a its.toArray:=by obtain⟨_,its,r,e⟩:=ok a _ h;exact⟨its,r,e⟩
theorem yZ (n:Nat)(e:Nat->Bool):(List.range n).all e=true↔∀ j,j<n->e j=true:=by simp[LC,Ob]
theorem pK:∀(ds es:List D),eqDs ds es=true↔ds.length=es.length/\∀(j:Nat)(d e:D),ds[j]?=some d->es[j]?=some e->ji d e=true
 | [],[]=>by simp[eqDs]
 | [],e::es=>by simp[eqDs]
 |d::ds,[]=>by simp[eqDs]
 |d::ds,e::es=>by
  simp only[eqDs,Ln,pK ds es,Ky,Nat.add_right_cancel_iff];constructor
  .rintro⟨h1,h2,h3⟩;refine⟨h2,λj x y ex ey=>?_⟩;cases j with
   |zero=>simp at ex ey;subst ex;subst ey;exact h1
   |succ j=>exact h3 j x y (by simpa using ex) (by simpa using ey)
  .rintro⟨h2,h3⟩;exact⟨h3 0 d e rfl rfl,h2,λj x y ex ey=>h3 (j+1) x y (by simpa using ex) (by simpa using ey)⟩
theorem iI:∀{ds:List D}{j:Nat}{d:D},ds[j]?=some d->d.dep<=D.deps ds
 | [],_,_,e=>by simp at e
 |d::ds,0,_,e=>by simp at e;subst e;simp only[D.deps];lia
 |d::ds,j+1,x,e=>by have:=iI (ds:=ds) (j:=j) (d:=x) (by simpa using e);simp only[D.deps];lia
theorem sR (ok:HOk P w H s.heap){A:OB}{ds es:List D}(h1:IsAll H m ds vs)(h2:IsAll H m' es ws)(r1:Vals vs its)(r2:Vals ws its2)
 (rec:∀ d∈ds,∀ e∈es,∀(v w:V)(u u':OA),Is H m d v->Is H m' e w->RelV v u->RelV w u'->SeqAt.EqAt A.in1 s u u' (ji d e)) :
 ∀ j (z1:j<its.toArray.size) (z2:j<its2.toArray.size),SeqAt.EqAt A.in1 s its.toArray[j] its2.toArray[j] (match ds[j]?,es[j]? with|some d,some e=>ji d e|_,_=>true):=by
 intro j z1 z2;have l1:=r1.length;have l2:=r2.length;have l3:=h1.length;have l4:=h2.length;have y1:j<its.length:=by simpa using z1
 have y2:j<its2.length:=by simpa using z2
 have k1:j<ds.length:=by lia
 have k2:j<es.length:=by lia
 obtain⟨v,ev,iv⟩:=h1.get (i:=j) (d:=ds[j]) (by simp[k1]);obtain⟨v',ev',iv'⟩:=h2.get (i:=j) (d:=es[j]) (by simp[k2]);obtain⟨u,eu,ru⟩:=r1.get ev;obtain⟨u',eu',ru'⟩:=r2.get ev';have q1:its.toArray[j]=u:=by
  have:its[j]?=some its[j]:=by simp[y1]
  rw[this]at eu;simpa using La eu
 have q2:its2.toArray[j]=u':=by
  have:its2[j]?=some its2[j]:=by simp[y2]
  rw[this]at eu';simpa using La eu'
 have g1:ds[j]?=some ds[j]:=by simp[k1]
 have g2:es[j]?=some es[j]:=by simp[k2]
 rw[q1,q2,g1,g2];exact rec ds[j] (NU _) es[j] (NU _) v v' u u' iv iv' ru ru'
theorem wx (hl:ds.length=es.length) :
 ((List.range ds.length).all λj=>match ds[j]?,es[j]? with|some d,some e=>ji d e|_,_=>true)=eqDs ds es:=by
 rw[Mp,yZ,pK];constructor
 .intro h;refine⟨hl,λj d e ed ee=>?_⟩;have:=h j (KA.mp ed).1;rw[ed,ee]at this;exact this
 .rintro⟨_,h⟩ j hj;have e1:ds[j]?=some ds[j]:=by simp[hj]
  have hj':j<es.length:=by lia
  have e2:es[j]?=some es[j]:=by simp[hj']
  rw[e1,e2];exact h j _ _ e1 e2
theorem sS (hl:ds.length≠es.length):eqDs ds es=false:=by
 cases h:eqDs ds es with
 |false=>rfl
 |true=>exact absurd ((pK ds es).mp h).1 hl
abbrev n8 (H:Hp)(s:Ox)(m m':Addr->Prop)(A:OB)(n:Nat):Prop:=∀(d e:D)(v w:V)(u u':OA),d.dep<n->e.dep<1000->Is H m d v->Is H m' e w->RelV v u->RelV w u'->SeqAt.EqAt A.in1 s u u' (ji d e)
section
variable {A:OB}{n:Nat}{l1 l2:List D}{vs1 vs2:List V}{its1 its2:List OA}{a1 a2:Addr}
theorem pL (ok:HOk P w H s.heap)(hn:(D.lst l1).dep<=n)(hE:(D.lst l2).dep<1000)(hu:A.units<cLine)(q1:IsAll H m l1 vs1)(q2:IsAll H m' l2 vs2)(y1:Vals vs1 its1)(y2:Vals vs2 its2)(p1:s.heap.IsList a1 its1.toArray)(p2:s.heap.IsList a2 its2.toArray)
 (rec:n8 H s m m' A n):SeqAt.RcAt A s (.ref a1) (.ref a2) (ji (.lst l1) (.lst l2)):=by
 have e1:its1.toArray.size=l1.length:=by rw[KC,<- y1.length,q1.length]
 have e2:its2.toArray.size=l2.length:=by rw[KC,<- y2.length,q2.length]
 have hd:∀ d∈l1,d.dep<n:=λd hd=>by obtain⟨j,hj⟩:=KS.mp hd;have:=iI hj;simp only[D.dep]at hn;lia
 have he:∀ e∈l2,e.dep<1000:=λd hd=>by obtain⟨j,hj⟩:=KS.mp hd;have:=iI hj;simp only[D.dep]at hE;lia
 by_cases hl:l1.length=l2.length
 .have z:=SeqAt.RcAt.lists p1 p2 (by rw[e1,e2,hl]) hu (sR ok q1 q2 y1 y2 λd hm e hm2 v w u u' i1 i2 r1 r2=>rec d e v w u u' (hd d hm) (he e hm2) i1 i2 r1 r2);rw[e1,wx hl]at z;exact z
 .have z:=SeqAt.RcAt.lists_lengths p1 p2 (by rw[e1,e2];simpa using hl) hu;rw[show ji (.lst l1) (.lst l2)=eqDs l1 l2 from rfl,sS hl];exact z
theorem sU (ok:HOk P w H s.heap)(hn:(D.lst l1).dep<=n)(hE:(D.lst l2).dep<1000)(hu:A.units<cLine)(q1:IsAll H m l1 vs1)(q2:IsAll H m' l2 vs2)(y1:Vals vs1 its1)(y2:Vals vs2 its2)(p1:s.heap.IsList a1 its1.toArray)(p2:s.heap.IsList a2 its2.toArray)
 (rec:n8 H s m m' A n):SeqAt.RcNeAt A s (.ref a1) (.ref a2) (!ji (.lst l1) (.lst l2)):=by
 have e1:its1.toArray.size=l1.length:=by rw[KC,<- y1.length,q1.length]
 have e2:its2.toArray.size=l2.length:=by rw[KC,<- y2.length,q2.length]
 have hd:∀ d∈l1,d.dep<n:=λd hd=>by obtain⟨j,hj⟩:=KS.mp hd;have:=iI hj;simp only[D.dep]at hn;lia
 have he:∀ e∈l2,e.dep<1000:=λd hd=>by obtain⟨j,hj⟩:=KS.mp hd;have:=iI hj;simp only[D.dep]at hE;lia
 by_cases hl:l1.length=l2.length
 .have z:=SeqAt.RcNeAt.lists p1 p2 (by rw[e1,e2,hl]) hu (sR ok q1 q2 y1 y2 λd hm e hm2 v w u u' i1 i2 r1 r2=>rec d e v w u u' (hd d hm) (he e hm2) i1 i2 r1 r2);rw[e1,wx hl]at z;exact z
 .have z:=SeqAt.RcNeAt.lists_lengths p1 p2 (by rw[e1,e2];simpa using hl) hu;rw[show ji (.lst l1) (.lst l2)=eqDs l1 l2 from rfl,sS hl];exact z
theorem xI:((List.range (min l1.length l2.length)).all (λj=>match l1[j]?,l2[j]? with|some d,some e=>ji d e|_,_=>true)&&l1.length==l2.length)=eqDs l1 l2:=by
 by_cases hl:l1.length=l2.length
 .rw[hl,Nat.min_self,<- hl,wx hl];simp[hl]
 .rw[sS hl];simp[hl]
theorem rJ (ok:HOk P w H s.heap)(hn:(D.tup l1).dep<=n)(hE:(D.tup l2).dep<1000)(hu:A.units<cLine)(q1:IsAll H m l1 vs1)(q2:IsAll H m' l2 vs2)(y1:Vals vs1 its1)(y2:Vals vs2 its2)(p1:s.heap.IsTuple a1 its1.toArray)(p2:s.heap.IsTuple a2 its2.toArray)
 (rec:n8 H s m m' A n):SeqAt.RcAt A s (.ref a1) (.ref a2) (ji (.tup l1) (.tup l2)):=by
 have e1:its1.toArray.size=l1.length:=by rw[KC,<- y1.length,q1.length]
 have e2:its2.toArray.size=l2.length:=by rw[KC,<- y2.length,q2.length]
 have hd:∀ d∈l1,d.dep<n:=λd hd=>by obtain⟨j,hj⟩:=KS.mp hd;have:=iI hj;simp only[D.dep]at hn;lia
 have he:∀ e∈l2,e.dep<1000:=λd hd=>by obtain⟨j,hj⟩:=KS.mp hd;have:=iI hj;simp only[D.dep]at hE;lia
 have z:=SeqAt.RcAt.tuples p1 p2 hu (sR ok q1 q2 y1 y2 λd hm e hm2 v w u u' i1 i2 r1 r2=>rec d e v w u u' (hd d hm) (he e hm2) i1 i2 r1 r2);rw[e1,e2,xI]at z;exact z
theorem uB (ok:HOk P w H s.heap)(hn:(D.tup l1).dep<=n)(hE:(D.tup l2).dep<1000)(hu:A.units<cLine)(q1:IsAll H m l1 vs1)(q2:IsAll H m' l2 vs2)(y1:Vals vs1 its1)(y2:Vals vs2 its2)(p1:s.heap.IsTuple a1 its1.toArray)(p2:s.heap.IsTuple a2 its2.toArray)
 (rec:n8 H s m m' A n):SeqAt.RcNeAt A s (.ref a1) (.ref a2) (!ji (.tup l1) (.tup l2)):=by
 have e1:its1.toArray.size=l1.length:=by rw[KC,<- y1.length,q1.length]
 have e2:its2.toArray.size=l2.length:=by rw[KC,<- y2.length,q2.length]
 have hd:∀ d∈l1,d.dep<n:=λd hd=>by obtain⟨j,hj⟩:=KS.mp hd;have:=iI hj;simp only[D.dep]at hn;lia
 have he:∀ e∈l2,e.dep<1000:=λd hd=>by obtain⟨j,hj⟩:=KS.mp hd;have:=iI hj;simp only[D.dep]at hE;lia
 have z:=SeqAt.RcNeAt.tuples p1 p2 hu (sR ok q1 q2 y1 y2 λd hm e hm2 v w u u' i1 i2 r1 r2=>rec d e v w u u' (hd d hm) (he e hm2) i1 i2 r1 r2);rw[e1,e2,xI]at z;exact z
theorem uC (h:SeqAt.RcAt A s (.ref a1) (.ref a2) k)(hs:a1=a2->k=true):SeqAt.EqAt A s (.ref a1) (.ref a2) k:=by
 by_cases e:a1=a2
 .subst e;rw[hs rfl];exact SeqAt.EqAt.same _
 .exact SeqAt.EqAt.of_refs e h
end
theorem Is.shape (ok:HOk P w H s.heap)(hE:d.dep<1000)(h:Is H m d v)(r:RelV v u):(d=.non/\u=.none)\/(∃ b,d=.bl b/\u=.bool b)\/(∃ i t,d=.int i/\u=.int i t)\/(∃ x t,d=.str x/\u=.str x t)\/
 (∃ l a vs its,d=.lst l/\v=.ref a/\u=.ref a/\IsAll H m l vs/\Vals vs its/\s.heap.IsList a its.toArray)\/∃ l a vs its,d=.tup l/\v=.ref a/\u=.ref a/\IsAll H m l vs/\Vals vs its/\s.heap.IsTuple a its.toArray:=by
 cases d with
 |non=>cases h;cases r;exact .inl ⟨rfl,rfl⟩
 |bl b=>cases h;cases r;exact .inr (.inl ⟨b,rfl,rfl⟩)
 |int i=>cases h;obtain⟨t,rfl⟩:=r;exact .inr (.inr (.inl ⟨i,t,rfl,rfl⟩))
 |str x=>cases h;obtain⟨t,rfl⟩:=r;exact .inr (.inr (.inr (.inl ⟨x,t,rfl,rfl⟩)))
 |lst l=>obtain⟨a,vs,rfl,g,q⟩:=h;cases r;obtain⟨its,y,p⟩:=F7 ok g;exact .inr (.inr (.inr (.inr (.inl ⟨l,a,vs,its,rfl,rfl,rfl,q,y,p⟩))))
 |tup l=>obtain⟨a,vs,rfl,g,q⟩:=h;cases r;obtain⟨its,y,p⟩:=F8 ok g;exact .inr (.inr (.inr (.inr (.inr ⟨l,a,vs,its,rfl,rfl,rfl,q,y,p⟩))))
 |dic k l=>exact absurd hE (by simp only[D.dep];lia)
theorem Dj (ok:HOk P w H s.heap)(hu:A.units<cLine)(rec:n8 H s m m' A n)(hn:d.dep<=n)(hN:n<1000)(hE:e.dep<1000)(h1:Is H m d v)(h2:Is H m' e w')(r1:RelV v u)(r2:RelV w' u') :
 SeqAt.RcAt A s u u' (ji d e):=by
 rcases h1.shape ok (by lia) r1 with⟨rfl,rfl⟩|⟨b1,rfl,rfl⟩|⟨i1,t1,rfl,rfl⟩|⟨x1,t1,rfl,rfl⟩|⟨l1,a1,vs1,its1,rfl,rfl,rfl,q1,y1,p1⟩|⟨l1,a1,vs1,its1,rfl,rfl,rfl,q1,y1,p1⟩<;>rcases h2.shape ok hE r2 with⟨rfl,rfl⟩|⟨b2,rfl,rfl⟩|⟨i2,t2,rfl,rfl⟩|⟨x2,t2,rfl,rfl⟩|⟨l2,a2,vs2,its2,rfl,rfl,rfl,q2,y2,p2⟩|⟨l2,a2,vs2,its2,rfl,rfl,rfl,q2,y2,p2⟩;exact .none_none;exact .none_bool b2;exact .none_int i2 t2;exact .none_str x2 t2;exact .none_list p2 hu;exact .none_tuple p2 hu;exact .bool_none b1;exact .bool_bool b1 b2;exact .bool_int b1 i2 t2;exact .bool_str b1 x2 t2;exact .bool_list b1 p2 hu;exact .bool_tuple b1 p2 hu;exact .int_none i1 t1;exact .int_bool i1 t1 b2;exact .int_int i1 t1 i2 t2;exact .int_str i1 t1 x2 t2;exact .int_list i1 t1 p2 hu;exact .int_tuple i1 t1 p2 hu;exact .str_none x1 t1;exact .str_bool x1 t1 b2;exact .str_int x1 t1 i2 t2;exact .str_str x1 t1 x2 t2;exact .str_list x1 t1 p2 hu;exact .str_tuple x1 t1 p2 hu;exact .list_none p1 hu;exact .list_bool b2 p1 hu;exact .list_int i2 t2 p1 hu;exact .list_str x2 t2 p1 hu;exact pL ok hn hE hu q1 q2 y1 y2 p1 p2 rec;exact .list_tuple p1 p2 hu;exact .tuple_none p1 hu;exact .tuple_bool b2 p1 hu;exact .tuple_int i2 t2 p1 hu;exact .tuple_str x2 t2 p1 hu;exact .tuple_list p1 p2 hu;exact rJ ok hn hE hu q1 q2 y1 y2 p1 p2 rec
theorem Dk (ok:HOk P w H s.heap)(hu:A.units<cLine)(rec:n8 H s m m' A n)(hn:d.dep<=n)(hN:n<1000)(hE:e.dep<1000)(h1:Is H m d v)(h2:Is H m' e w')(r1:RelV v u)(r2:RelV w' u') :
 SeqAt.RcNeAt A s u u' (!ji d e):=by
 rcases h1.shape ok (by lia) r1 with⟨rfl,rfl⟩|⟨b1,rfl,rfl⟩|⟨i1,t1,rfl,rfl⟩|⟨x1,t1,rfl,rfl⟩|⟨l1,a1,vs1,its1,rfl,rfl,rfl,q1,y1,p1⟩|⟨l1,a1,vs1,its1,rfl,rfl,rfl,q1,y1,p1⟩<;>rcases h2.shape ok hE r2 with⟨rfl,rfl⟩|⟨b2,rfl,rfl⟩|⟨i2,t2,rfl,rfl⟩|⟨x2,t2,rfl,rfl⟩|⟨l2,a2,vs2,its2,rfl,rfl,rfl,q2,y2,p2⟩|⟨l2,a2,vs2,its2,rfl,rfl,rfl,q2,y2,p2⟩;exact .none_none;exact .none_bool b2;exact .none_int i2 t2;exact .none_str x2 t2;exact .none_list p2 hu;exact .none_tuple p2 hu;exact .bool_none b1;exact .bool_bool b1 b2;exact .bool_int b1 i2 t2;exact .bool_str b1 x2 t2;exact .bool_list b1 p2 hu;exact .bool_tuple b1 p2 hu;exact .int_none i1 t1;exact .int_bool i1 t1 b2;exact .int_int i1 t1 i2 t2;exact .int_str i1 t1 x2 t2;exact .int_list i1 t1 p2 hu;exact .int_tuple i1 t1 p2 hu;exact .str_none x1 t1;exact .str_bool x1 t1 b2;exact .str_int x1 t1 i2 t2;exact .str_str x1 t1 x2 t2;exact .str_list x1 t1 p2 hu;exact .str_tuple x1 t1 p2 hu;exact .list_none p1 hu;exact .list_bool b2 p1 hu;exact .list_int i2 t2 p1 hu;exact .list_str x2 t2 p1 hu;exact sU ok hn hE hu q1 q2 y1 y2 p1 p2 rec;exact .list_tuple p1 p2 hu;exact .tuple_none p1 hu;exact .tuple_bool b2 p1 hu;exact .tuple_int i2 t2 p1 hu;exact .tuple_str x2 t2 p1 hu;exact .tuple_list p1 p2 hu;exact uB ok hn hE hu q1 q2 y1 y2 p1 p2 rec
theorem xJ (ok:HOk P w H s.heap)(hu:A.units<cLine)(rec:n8 H s m m' A n)(hn:d.dep<=n)(hN:n<1000)(hE:e.dep<1000)(h1:Is H m d v)(h2:Is H m' e w')(r1:RelV v u)(r2:RelV w' u') :
 SeqAt.EqAt A s u u' (ji d e):=by
 rcases h1.shape ok (by lia) r1 with⟨rfl,rfl⟩|⟨b1,rfl,rfl⟩|⟨i1,t1,rfl,rfl⟩|⟨x1,t1,rfl,rfl⟩|⟨l1,a1,vs1,its1,rfl,rfl,rfl,q1,y1,p1⟩|⟨l1,a1,vs1,its1,rfl,rfl,rfl,q1,y1,p1⟩<;>rcases h2.shape ok hE r2 with⟨rfl,rfl⟩|⟨b2,rfl,rfl⟩|⟨i2,t2,rfl,rfl⟩|⟨x2,t2,rfl,rfl⟩|⟨l2,a2,vs2,its2,rfl,rfl,rfl,q2,y2,p2⟩|⟨l2,a2,vs2,its2,rfl,rfl,rfl,q2,y2,p2⟩;exact .same _;exact .none_bool b2;exact .none_int i2 t2;exact .none_str x2 t2;exact .none_list p2 hu;exact .none_tuple p2 hu;exact .bool_none b1;exact .bool_bool b1 b2;exact .bool_int b1 i2 t2;exact .bool_str b1 x2 t2;exact .bool_list b1 p2 hu;exact .bool_tuple b1 p2 hu;exact .int_none i1 t1;exact .int_bool i1 t1 b2;exact .int_int i1 t1 i2 t2;exact .int_str i1 t1 x2 t2;exact .int_list i1 t1 p2 hu;exact .int_tuple i1 t1 p2 hu;exact .str_none x1 t1;exact .str_bool x1 t1 b2;exact .str_int x1 t1 i2 t2;exact .str_str x1 t1 x2 t2;exact .str_list x1 t1 p2 hu;exact .str_tuple x1 t1 p2 hu;exact .list_none p1 hu;exact .list_bool b2 p1 hu;exact .list_int i2 t2 p1 hu;exact .list_str x2 t2 p1 hu;exact uC (pL ok hn hE hu q1 q2 y1 y2 p1 p2 rec) (λz=>by subst z;rw[Is.inj h1 h2];exact kq _);exact .list_tuple p1 p2 hu;exact .tuple_none p1 hu;exact .tuple_bool b2 p1 hu;exact .tuple_int i2 t2 p1 hu;exact .tuple_str x2 t2 p1 hu;exact .tuple_list p1 p2 hu;exact uC (rJ ok hn hE hu q1 q2 y1 y2 p1 p2 rec) (λz=>by subst z;rw[Is.inj h1 h2];exact kq _)
theorem AF (ok:HOk P w H s.heap):∀(n:Nat)(A:OB){d e:D}{v w':V}{u u':OA},A.units+n<cLine->n<1000->d.dep<=n->e.dep<1000->Is H m d v->Is H m' e w'->RelV v u->RelV w' u'->SeqAt.EqAt A s u u' (ji d e)
 |0,A,d,e,v,w',u,u',hu,hN,hn,hE,h1,h2,r1,r2=>xJ ok (by lia) (λd e v w u u' hd=>absurd hd (by lia)) hn hN hE h1 h2 r1 r2
 |n+1,A,d,e,v,w',u,u',hu,hN,hn,hE,h1,h2,r1,r2=>xJ ok (by lia) (λd e v w u u' hd he i1 i2 r1 r2=>AF ok n A.in1 (by show A.units+1+n<cLine;lia) (by lia) (by lia) he i1 i2 r1 r2) hn hN hE h1 h2 r1 r2
theorem AG (ok:HOk P w H s.heap)(hu:A.units+n<cLine)(hN:n<1000):n8 H s m m' A n:=λd e v w u u' hd he i1 i2 r1 r2=>AF ok (n-1) A.in1 (by show A.units+1+(n-1)<cLine;lia) (by lia) (by lia) he i1 i2 r1 r2
end
abbrev St:=L2.St
inductive Res (α:Type) where
 |stuck|ok (a:α)|exc (c:Str)
noncomputable def Res.bind {α β:Type}:Res α->(α->Res β)->Res β
 | .stuck,_=>.stuck
 | .exc c,_=>.exc c
 | .ok a,k=>k a
@[simp] theorem Res.bind_ok {α β:Type}(a:α)(k:α->Res β):(Res.ok a).bind k=k a:=rfl
inductive Kd where
 |no|tr (d:D)|ds (d:D)
inductive Sl where
 |val (d:D) (fr:Bool)|own (ds:List D) (fr:Bool)|tre (d:D)|mes (d:D)
noncomputable abbrev En:=List (Option Sl)
inductive R where
 |val (d:D) (fr:Bool) (al:List Nat)|new (ds:List D) (fr:Bool)|fre (d:D)
noncomputable def R.d:R->D
 | .val d _ _=>d
 | .new ds _=>.lst ds
 | .fre d=>d
noncomputable def R.fr:R->Bool
 | .val _ f _=>f
 | .new _ f=>f
 | .fre _=>true
noncomputable def R.al:R->List Nat
 | .val _ _ al=>al
 | .new _ _=>[]
 | .fre _=>[]
@[simp] theorem R.d_val (d:D)(f:Bool)(al:List Nat):(R.val d f al).d=d:=rfl
def mkV (d:D)(fr:Bool)(al:List Nat):R:=if d.flat then .val d true [] else .val d fr al
structure Gd where
 H₀:Hp
 Ma:Addr->Prop
 Z:Addr->Prop
 root:Option V
 rooT:Option V
noncomputable abbrev HI (H:Hp)(Ma:Addr->Prop):Gd:=⟨H,Ma,λ_=>False,none,none⟩
def MuZ (g:Gd)(H:Hp)(a:Addr):Prop:=Mu H a\/(g.Z a/\∃ o u,H a=some (.frz o u))
theorem MuZ.same (h:MuZ g H a)(s:∀ o,H a=some o->H' a=some o):MuZ g H' a:=h.imp (λz=>z.same s) λ⟨z,o,u,e⟩=>⟨z,o,u,s _ e⟩
def msk (g:Gd)(M:Addr->Prop)(fr:Bool)(a:Addr):Prop:=M a/\(fr=true->g.H₀ a=none)
noncomputable abbrev Pr:=Nat->Addr->Prop
def vmsk (g:Gd)(M:Addr->Prop)(fr:Bool)(ρ:Pr)(al:List Nat)(a:Addr):Prop:=msk g M fr a\/∃ i,i∈al/\ρ i a
mutual
noncomputable def IsSh (H:Hp)(m:Addr->Prop):D->V->Prop
 | .tup ds,v=>∃ a vs,v=.ref a/\H a=some (.tup vs)/\IsShs H m ds vs
 | .lst _,v=>∃ a vs,v=.ref a/\H a=some (.lst vs)/\m a
 |_,_=>True
noncomputable def IsShs (H:Hp)(m:Addr->Prop):List D->List V->Prop
 | [],_=>True
 |d::ds,vs=>∃ v r,vs=v::r/\IsSh H m d v/\IsShs H m ds r
end
def Dst (H:Hp)(T:Addr->Prop)(v:V):Prop:=∃(a:Addr)(vs:List V),v=.ref a/\T a/\(H a=some (.lst vs)\/(∃ kvs,H a=some (.dK kvs)/\vs=kvs.map Prod.snd)\/(H a=some (.dT [])/\vs=[]))/\V.ref a∉vs/\∀(i j:Nat)(b:Addr),vs[i]?=some (V.ref b)->vs[j]?=some (V.ref b)->i=j
theorem Dst.mono (kp:∀ a o,T a->H a=some o->H' a=some o)(mm:∀ a,T a->T' a)(h:Dst H T v):Dst H' T' v:=by obtain⟨a,vs,e,ta,h1,h2⟩:=h;exact⟨a,vs,e,mm a ta,h1.imp (kp a _ ta) (.imp (λ⟨kvs,q,z⟩=>⟨kvs,kp a _ ta q,z⟩) λ⟨q,z⟩=>⟨kp a _ ta q,z⟩),h2⟩
def KdOk (H:Hp)(T:Addr->Prop)(v:V):Kd->Prop
 | .no=>True
 | .tr d=>Is H T d v
 | .ds d=>Is H T d v/\Dst H T v
theorem KdOk.mono (kp:∀ a o,H a=some o->(T a\/fixd o)->H' a=some o)(h:KdOk H T v k):KdOk H' T v k:=by
 cases k with
 |no=>exact h
 |tr d=>exact Is.mono kp (λ_ _ _ z=>z) h
 |ds d=>exact⟨Is.mono kp (λ_ _ _ z=>z) h.1,h.2.mono (λa o z e=>kp a o e (.inl z)) λ_ z=>z⟩
noncomputable def Gd.rt (g:Gd)(n:Nat):Option V:=if n=0 then g.root else g.rooT
def SlOk (g:Gd)(M T:Addr->Prop)(H:Hp)(v:V):Sl->Prop
 | .val d fr=>Is H (msk g M fr) d v
 | .own ds fr=>∃ a vs,v=.ref a/\H a=some (.lst vs)/\(∀ b,T b↔b=a)/\IsAll H (msk g M fr) ds vs
 | .tre d=>Is H T d v
 | .mes d=>IsSh H T d v
noncomputable def Sl.isO:Sl->Bool
 | .val _ _=>false
 |_=>true
def isOwn (env:En)(j:Nat):Bool:=match env[j]? with
 |some (some sl)=>sl.isO
 |_=>false
structure Rep (g:Gd) (M:Addr->Prop) (ρ:Pr) (env:En) (σ:St) (H:Hp):Prop where
 same:Same g.H₀ H
 froz:∀ a,M a->H a≠none
 inn:∀ a,M a->g.H₀ a=none\/g.Ma a
 fl:∀ a,M a->g.H₀ a=none->MuZ g H a
 slot:∀(i:Nat)(sl:Sl),env[i]?=some (some sl)->∃ v,σ[i]?=some (some v)/\SlOk g M (ρ i) H v sl
 priv:∀(i:Nat)(a:Addr),ρ i a->¬ M a/\g.H₀ a=none/\Mu H a
 apart:∀(i j:Nat)(a:Addr),ρ i a->ρ j a->i=j
 ow:∀(i:Nat)(a:Addr),ρ i a->isOwn env i=true
 len:env.length=σ.length
 zz:∀ a,g.Z a->H a≠none
def ROk (g:Gd)(M:Addr->Prop)(ρ:Pr)(H0 H:Hp)(v:V):R->Prop
 | .val d fr al=>Is H (vmsk g M fr ρ al) d v
 | .new ds fr=>∃ a vs,v=.ref a/\H a=some (.lst vs)/\¬ M a/\H0 a=none/\(∀ i,¬ ρ i a)/\IsAll H (msk g M fr) ds vs
 | .fre d=>∃ T:Addr->Prop,(∀ a,T a->¬ M a/\H0 a=none/\Mu H a/\∀ i,¬ ρ i a)/\Is H T d v
structure Ext (M:Addr->Prop) (H:Hp) (M':Addr->Prop) (H':Hp):Prop where
 m:∀ a,M a->M' a
 h:Same H H'
 n:∀ a,M' a->M a\/H a=none
theorem Ext.refl (M:Addr->Prop)(H:Hp):Ext M H M H:=⟨λ_ z=>z,Same.refl H,λ_ z=>.inl z⟩
theorem Ext.trans {M M1 M2:Addr->Prop}(a:Ext M H M1 H1)(b:Ext M1 H1 M2 H2):Ext M H M2 H2:=⟨λx z=>b.m x (a.m x z),a.h.trans b.h,λx z=>(b.n x z).elim (a.n x) λw=>.inr (a.h.free w)⟩
section
variable {g:Gd}{M M':Addr->Prop}{ρ:Pr}{env:En}{σ:St}{H H' H0:Hp}{fr:Bool}{al:List Nat}
mutual
theorem IsSh.mono (kp:∀ a o,H a=some o->fixd o->H' a=some o)(kl:∀ a vs,m a->H a=some (.lst vs)->∃ vs',H' a=some (.lst vs'))(mm:∀ a,m a->m' a):∀{d:D}{v:V},IsSh H m d v->IsSh H' m' d v
 | .non,_,h=>h
 | .bl _,_,h=>h
 | .int _,_,h=>h
 | .str _,_,h=>h
 | .tup ds,_,h=>by obtain⟨a,vs,e,h1,h2⟩:=h;exact⟨a,vs,e,kp a _ h1 True.intro,IsShs.mono kp kl mm h2⟩
 | .lst ds,_,h=>by obtain⟨a,vs,e,h1,h2⟩:=h;obtain⟨vs',h3⟩:=kl a vs h2 h1;exact⟨a,vs',e,h3,mm a h2⟩
 | .dic _ _,_,h=>h
theorem IsShs.mono (kp:∀ a o,H a=some o->fixd o->H' a=some o)(kl:∀ a vs,m a->H a=some (.lst vs)->∃ vs',H' a=some (.lst vs'))(mm:∀ a,m a->m' a):∀{ds:List D}{vs:List V},IsShs H m ds vs->IsShs H' m' ds vs
 | [],_,h=>h
 |d::ds,_,h=>by obtain⟨v,r,e,h1,h2⟩:=h;exact⟨v,r,e,IsSh.mono kp kl mm h1,IsShs.mono kp kl mm h2⟩
end
theorem msk.mono (mm:∀ a,M a->M' a)(h:msk g M fr a):msk g M' fr a:=⟨mm a h.1,h.2⟩
theorem vmsk.mono (mm:∀ a,M a->M' a)(h:vmsk g M fr ρ al a):vmsk g M' fr ρ al a:=h.imp (msk.mono mm) id
theorem Is.ext (e:Ext M H M' H')(h:Is H (vmsk g M fr ρ al) d v):Is H' (vmsk g M' fr ρ al) d v:=h.mono (λa o q _=>e.h a o q) λ_ _ _ z=>z.mono e.m
theorem IsAll.ext (e:Ext M H M' H')(h:IsAll H (vmsk g M fr ρ al) ds vs):IsAll H' (vmsk g M' fr ρ al) ds vs:=h.mono (λa o q _=>e.h a o q) λ_ _ _ z=>z.mono e.m
theorem SlOk.weak (mm:∀ a,M a->M' a)(h:SlOk g M T H v sl):SlOk g M' T H v sl:=by
 cases sl with
 |val d fr=>exact Is.weak (λb z=>msk.mono mm z) h
 |own ds fr=>obtain⟨b,vs,rfl,h1,h2,h4⟩:=h;exact⟨b,vs,rfl,h1,h2,IsAll.weak (λb z=>msk.mono mm z) h4⟩
 |tre d=>exact h
 |mes d=>exact h
theorem SlOk.same (s:Same H H')(h:SlOk g M T H v sl):SlOk g M T H' v sl:=by
 cases sl with
 |val d fr=>exact Is.same s h
 |own ds fr=>obtain⟨b,vs,rfl,h1,h2,h4⟩:=h;exact⟨b,vs,rfl,s _ _ h1,h2,IsAll.same s h4⟩
 |tre d=>exact Is.same s h
 |mes d=>exact IsSh.mono (λa o e _=>s a o e) (λa vs _ e=>⟨vs,s _ _ e⟩) (λ_ z=>z) h
theorem Rep.moreT {T:Addr->Prop}(r:Rep g M ρ env σ H)(ht:∀ a,T a->Mu H a/\g.H₀ a=none/\∀ i,¬ ρ i a):Rep g (λb=>M b\/T b) ρ env σ H where
 same:=r.same
 froz:=λb hb=>hb.elim (r.froz b) λe=>(ht b e).1.some
 inn:=λb hb=>hb.elim (r.inn b) λe=>.inl (ht b e).2.1
 fl:=λb hb h0=>hb.elim (λz=>r.fl b z h0) λe=>.inl (ht b e).1
 slot:=λi sl e=>by obtain⟨v,ev,s⟩:=r.slot i sl e;exact⟨v,ev,SlOk.weak (λ_=>.inl) s⟩
 priv:=λi a h=>⟨λz=>z.elim (r.priv i a h).1 λz=>(ht a z).2.2 i h,(r.priv i a h).2⟩
 apart:=r.apart
 ow:=r.ow
 len:=r.len
 zz:=r.zz
theorem Rep.more {a:Addr}(r:Rep g M ρ env σ H)(ha:H a=some (.lst ws))(h0:g.H₀ a=none)(no:∀ i,¬ ρ i a):Rep g (λb=>M b\/b=a) ρ env σ H:=r.moreT λb e=>by subst e;exact⟨Mu.lst ha,h0,no⟩
theorem Rep.grow (r:Rep g M ρ env σ H)(s:Same H H'):Rep g M ρ env σ H' where
 same:=r.same.trans s
 froz:=λa ha e=>by
  cases q:H a with
  |none=>exact r.froz a ha q
  |some o=>rw[s a o q]at e;cases e
 inn:=r.inn
 fl:=λa ha h0=>(r.fl a ha h0).same λo e=>s a o e
 slot:=λi sl e=>by obtain⟨v,ev,k⟩:=r.slot i sl e;exact⟨v,ev,SlOk.same s k⟩
 priv:=λi a h=>let ⟨a1,a2,a3⟩:=r.priv i a h;⟨a1,a2,a3.same λo e=>s a o e⟩
 apart:=r.apart
 ow:=r.ow
 len:=r.len
 zz:=λa z e=>by
  cases q:H a with
  |none=>exact r.zz a z q
  |some o=>rw[s a o q]at e;cases e
theorem Rep.free (r:Rep g M ρ env σ H)(h:H a=none):g.H₀ a=none/\¬ M a/\∀ i,¬ ρ i a:=by refine⟨r.same.free h,λz=>r.froz a z h,λi o=>?_⟩;exact(r.priv i a o).2.2.some h
theorem aE (h:H a=none):Same H (aB H a o):=λb u e=>by rw[aa (af e h)];exact e
theorem ROk.is (rep:Rep g M ρ env σ H)(x:Ext M0 H0 M H)(h0:Same g.H₀ H0)(h:ROk g M ρ H0 H v r):∃ M',Ext M0 H0 M' H/\(∀ a,M a->M' a)/\Rep g M' ρ env σ H/\Is H (vmsk g M' r.fr ρ r.al) r.d v:=by
 cases r with
 |val d fr al=>exact⟨M,x,λ_ z=>z,rep,h⟩
 |new ds fr=>obtain⟨a,vs,rfl,h1,h2,h3,h4,h5⟩:=h;have z0:g.H₀ a=none:=h0.free h3;exact⟨λb=>M b\/b=a,⟨λb z=>.inl (x.m b z),x.h,λb z=>z.elim (x.n b) λe=>.inr (e▸h3)⟩,λ_=>.inl,rep.more h1 z0 h4,a,vs,rfl,.inl ⟨h1,.inl ⟨.inr rfl,λ_=>z0⟩⟩,IsAll.weak (λb z=>.inl (msk.mono (λ_=>.inl) z)) h5⟩
 |fre d=>obtain⟨T,ht,is⟩:=h;exact⟨λb=>M b\/T b,⟨λb z=>.inl (x.m b z),x.h,λb z=>z.elim (x.n b) λe=>.inr (ht b e).2.1⟩,λ_=>.inl,rep.moreT λa z=>let ⟨a1,a2,a3,a4⟩:=ht a z;⟨a3,h0.free a2,a4⟩,Is.weak (λb z=>.inl ⟨.inr z,λ_=>h0.free (ht b z).2.1⟩) is⟩
theorem ROk.mkV (h:Is H (vmsk g M fr ρ al) d v):ROk g M ρ H0 H v (mkV d fr al):=by
 unfold L3.mkV;split
 .exact Is.flat (by assumption) h
 .exact h
theorem ROk.back (s:Same H1 H0)(h:ROk g M ρ H0 H v r):ROk g M ρ H1 H v r:=by
 cases r with
 |val d fr al=>exact h
 |new ds fr=>obtain⟨a,vs,rfl,h1,h2,h3,h4,h5⟩:=h;exact⟨a,vs,rfl,h1,h2,s.free h3,h4,h5⟩
 |fre d=>obtain⟨T,ht,is⟩:=h;exact⟨T,λa z=>let ⟨a1,a2,a3⟩:=ht a z;⟨a1,s.free a2,a3⟩,is⟩
end
def Dm (mg:Str->Option OA)(E:XK)(g:Gd)(c:Str):Prop:=∀ cls dx H',mg c=some cls->Same g.H₀ H'->E cls dx H'
section
variable (mg:Str->Option OA)(E:XK)(g:Gd)(M:Addr->Prop)(ρ:Pr)(env:En)(σ:St)(H:Hp)
def PostE (Q:VK):Res R->Prop
 | .stuck=>False
 | .exc c=>Dm mg E g c
 | .ok r=>∀ v M' H',Ext M H M' H'->Rep g M' ρ env σ H'->ROk g M' ρ H H' v r->Q v H'
def bX (rs:List R):Bool:=rs.all R.fr
def dk (rs:List R):List Nat:=rs.flatMap R.al
def PostA (Q:List V->Hp->Prop):Res (List R)->Prop
 | .stuck=>False
 | .exc c=>Dm mg E g c
 | .ok rs=>∀ vs M' H',Ext M H M' H'->Rep g M' ρ env σ H'->IsAll H' (vmsk g M' (bX rs) ρ (dk rs)) (rs.map R.d) vs->Q vs H'
noncomputable def PostT (Q:Bool->Hp->Prop):Res Bool->Prop
 | .stuck=>False
 | .exc c=>Dm mg E g c
 | .ok b=>∀ M' H',Ext M H M' H'->Rep g M' ρ env σ H'->Q b H'
end
def Snd (mg:Str->Option OA)(E:XK)(t:TE)(f:En->Res R):Prop:=∀ g M ρ env σ H Q,Rep g M ρ env σ H->PostE mg E g M ρ env σ H Q (f env)->t σ H Q
def SndA (mg:Str->Option OA)(E:XK)(t:TA)(f:En->Res (List R)):Prop:=∀ g M ρ env σ H Q,Rep g M ρ env σ H->PostA mg E g M ρ env σ H Q (f env)->t σ H Q
def SndT (mg:Str->Option OA)(E:XK)(t:TT)(f:En->Res Bool):Prop:=∀ g M ρ env σ H Q,Rep g M ρ env σ H->PostT mg E g M ρ env σ H Q (f env)->t σ H Q
def PD (X:Cx)(E:XK)(e:Expr)(f:En->Res R):Prop:=∃ t,PE X e t/\Snd X.mg E t f
def AH (X:Cx)(E:XK)(es:List Expr)(f:En->Res (List R)):Prop:=∃ t,PA X es t/\SndA X.mg E t f
def uD (X:Cx)(E:XK)(e:Expr)(f:En->Res Bool):Prop:=∃ t,PT X e t/\SndT X.mg E t f
def PWD (X:Cx)(E:XK)(e:Expr)(f:En->Res Bool):Prop:=∃ t,PW X e t/\SndT X.mg E t f
theorem PWD.pt (h:PWD X E e f):uD X E e f:=let ⟨t,a,b⟩:=h;⟨t,a.pt,b⟩
section
variable {mg:Str->Option OA}{E:XK}{g:Gd}{M M':Addr->Prop}{ρ:Pr}{env:En}{σ:St}{H H':Hp}
theorem PostE.ext (e:Ext M H M' H')(p:PostE mg E g M ρ env σ H Q r):PostE mg E g M' ρ env σ H' Q r:=by
 cases r with
 |stuck=>exact p
 |exc c=>exact p
 |ok r=>exact λv M2 H2 e2 rep2 ro=>p v M2 H2 (e.trans e2) rep2 (ro.back e.h)
theorem PostA.ext (e:Ext M H M' H')(p:PostA mg E g M ρ env σ H Q r):PostA mg E g M' ρ env σ H' Q r:=by
 cases r with
 |stuck=>exact p
 |exc c=>exact p
 |ok r=>exact λv M2 H2 e2=>p v M2 H2 (e.trans e2)
theorem PostT.ext (e:Ext M H M' H')(p:PostT mg E g M ρ env σ H Q r):PostT mg E g M' ρ env σ H' Q r:=by
 cases r with
 |stuck=>exact p
 |exc c=>exact p
 |ok r=>exact λM2 H2 e2=>p M2 H2 (e.trans e2)
theorem PostE.val (p:PostE mg E g M ρ env σ H Q (.ok (mkV d fr al)))(rep:Rep g M ρ env σ H)(h:Is H (vmsk g M fr ρ al) d v):Q v H:=p v M H (Ext.refl M H) rep (ROk.mkV h)
theorem PostE.new (p:PostE mg E g M ρ env σ H Q (.ok (.new ds fr)))(rep:Rep g M ρ env σ H)(ha:H a=none)(h:IsAll H (msk g M fr) ds vs):Q (.ref a) (aB H a (.lst vs)):=by have s:Same H (aB H a (.lst vs)):=aE ha;obtain⟨h0,hm,ho⟩:=rep.free ha;exact p _ M _ ⟨λ_ z=>z,s,λ_ z=>.inl z⟩ (rep.grow s) ⟨a,vs,rfl,ac,hm,ha,ho,IsAll.same s h⟩
theorem PostE.tup (p:PostE mg E g M ρ env σ H Q (.ok (mkV (.tup ds) fr al)))(rep:Rep g M ρ env σ H)(ha:H a=none)(h:IsAll H (vmsk g M fr ρ al) ds vs):Q (.ref a) (aB H a (.tup vs)):=by have s:Same H (aB H a (.tup vs)):=aE ha;exact p _ M _ ⟨λ_ z=>z,s,λ_ z=>.inl z⟩ (rep.grow s) (ROk.mkV ⟨a,vs,rfl,ac,IsAll.same s h⟩)
theorem Snd.one {t:TE}{f:En->Res R}(h:Snd mg E t f)(rep:Rep g M ρ env σ H){α:Type}{K:R->Res α}{P:(M:Addr->Prop)->(H:Hp)->Res α->Prop}{Q:VK}
 (hp:P M H ((f env).bind K)) (hs:∀ M H,P M H .stuck->False) (hx:∀ M H c,P M H (.exc c)->Dm mg E g c) (he:∀ M H M' H' r,Ext M H M' H'->P M H r->P M' H' r)
 (k:∀ r v M' H',Ext M H M' H'->Rep g M' ρ env σ H'->Is H' (vmsk g M' r.fr ρ r.al) r.d v->P M' H' (K r)->Q v H'):t σ H Q:=by
 refine h g M ρ env σ H Q rep ?_;cases e:f env with
 |stuck=>rw[e]at hp;exact hs _ _ hp
 |exc c=>rw[e]at hp;exact hx _ _ c hp
 |ok r=>rw[e]at hp;intro v M1 H1 e1 rep1 ro;obtain⟨M2,e2,_,rep2,is⟩:=ro.is rep1 e1 rep.same;exact k r v M2 H1 e2 rep2 is (he _ _ _ _ _ e2 hp)
theorem Snd.oneE {f:En->Res R}(h:Snd mg E t f)(rep:Rep g M ρ env σ H){K:R->Res R}(hp:PostE mg E g M ρ env σ H Q' ((f env).bind K))
 (k:∀ r v M' H',Ext M H M' H'->Rep g M' ρ env σ H'->Is H' (vmsk g M' r.fr ρ r.al) r.d v->PostE mg E g M' ρ env σ H' Q' (K r)->Q v H'):t σ H Q:=
 h.one rep (P:=λM H r=>PostE mg E g M ρ env σ H Q' r) hp (λ_ _ z=>z) (λ_ _ _ z=>z) (λ_ _ _ _ _ e p=>p.ext e) k
theorem Snd.oneA {f:En->Res R}(h:Snd mg E t f)(rep:Rep g M ρ env σ H){K:R->Res (List R)}{Q':List V->Hp->Prop}(hp:PostA mg E g M ρ env σ H Q' ((f env).bind K))
 (k:∀ r v M' H',Ext M H M' H'->Rep g M' ρ env σ H'->Is H' (vmsk g M' r.fr ρ r.al) r.d v->PostA mg E g M' ρ env σ H' Q' (K r)->Q v H'):t σ H Q:=
 h.one rep (P:=λM H r=>PostA mg E g M ρ env σ H Q' r) hp (λ_ _ z=>z) (λ_ _ _ z=>z) (λ_ _ _ _ _ e p=>p.ext e) k
theorem Snd.oneT {f:En->Res R}(h:Snd mg E t f)(rep:Rep g M ρ env σ H){K:R->Res Bool}{Q':Bool->Hp->Prop}(hp:PostT mg E g M ρ env σ H Q' ((f env).bind K))
 (k:∀ r v M' H',Ext M H M' H'->Rep g M' ρ env σ H'->Is H' (vmsk g M' r.fr ρ r.al) r.d v->PostT mg E g M' ρ env σ H' Q' (K r)->Q v H'):t σ H Q:=
 h.one rep (P:=λM H r=>PostT mg E g M ρ env σ H Q' r) hp (λ_ _ z=>z) (λ_ _ _ z=>z) (λ_ _ _ _ _ e p=>p.ext e) k
theorem Snd.twoE {fa fb:En->Res R}(ha:Snd mg E ta fa)(hb:Snd mg E tb fb)(rep:Rep g M ρ env σ H){K:R->R->Res R}{S:V->V->Hp->Prop}
 (hp:PostE mg E g M ρ env σ H Q' ((fa env).bind λra=>(fb env).bind λrb=>K ra rb))
 (k:∀ ra rb x y M' H',Rep g M' ρ env σ H'->Is H' (vmsk g M' ra.fr ρ ra.al) ra.d x->Is H' (vmsk g M' rb.fr ρ rb.al) rb.d y->PostE mg E g M' ρ env σ H' Q' (K ra rb)->S x y H') :
 ta σ H λx H1=>tb σ H1 λy H2=>S x y H2:=
 ha.oneE rep hp λra x M1 H1 e1 rep1 i1 p1=>hb.oneE rep1 p1 λrb y M2 H2 e2 rep2 i2 p2=>k ra rb x y M2 H2 rep2 (i1.ext e2) i2 p2
end
noncomputable def lim:Nat:=1000000
theorem ku (h:n<=lim):n<=sizeLine:=by rw[Mi];unfold lim at h;lia
theorem sV (h:n<lim):n<sizeLine:=by rw[Mi];unfold lim at h;lia
def mj (ds:List D)(fr:Bool)(al:List Nat):R:=if D.flats ds then .new ds true else if al.isEmpty then .new ds fr else .val (.lst ds) fr al
section
variable {mg:Str->Option OA}{E:XK}{g:Gd}{M M':Addr->Prop}{ρ:Pr}{env:En}{σ:St}{H H':Hp}
theorem vmsk.nil (h:vmsk g M fr ρ [] a):msk g M fr a:=h.elim id λ⟨_,z,_⟩=>absurd z (by simp)
theorem PostE.lst (p:PostE mg E g M ρ env σ H Q (.ok (mj ds fr al)))(rep:Rep g M ρ env σ H)(ha:H a=none)(h:IsAll H (vmsk g M fr ρ al) ds vs):Q (.ref a) (aB H a (.lst vs)):=by
 unfold mj at p;by_cases hf:D.flats ds=true
 .rw[Ku hf]at p;exact p.new rep ha (IsAll.flat hf h)
 .rw[Kv hf]at p;cases al with
  |nil=>exact PostE.new (p:=p) rep ha (IsAll.weak (λ_ z=>z.nil) h)
  |cons i al=>have p:PostE mg E g M ρ env σ H Q (.ok (.val (.lst ds) fr (i::al))):=p;have s:Same H (aB H a (.lst vs)):=aE ha;obtain⟨h0,hm,ho⟩:=rep.free ha;refine p _ (λb=>M b\/b=a) _ ⟨λ_=>.inl,s,λb z=>z.imp id λ(e:b=a)=>by rw[e];exact ha⟩ ((rep.grow s).more ac h0 ho) ⟨a,vs,rfl,.inl ⟨ac,.inl ⟨.inr rfl,λ_=>h0⟩⟩,?_⟩;exact(IsAll.same s h).weak λb z=>z.mono λ_=>.inl
theorem Is.rd (h:Is H m (.lst ds) v):∃ a vs,v=.ref a/\Rd H a (.lst vs)/\IsAll H m ds vs:=by obtain⟨a,vs,e,h1,h2⟩:=h;exact⟨a,vs,e,h1.imp (·.1) λ⟨o,z,_⟩=>⟨o,z⟩,h2⟩
end
section
variable {X:Cx}{E:XK}
def ao (i:Nat):En->Res R:=λenv=>match env[i]? with
 |some (some (.val d fr))=>.ok (mkV d fr [])
 |some (some (.own ds fr))=>.ok (.val (.lst ds) fr [i])
 |some (some (.tre d))=>.ok (.val d true [i])
 |_=>.stuck
theorem xK:Snd mg E (aw i) (ao i):=by
 intro g M ρ env σ H Q rep p;unfold ao at p;cases e1:env[i]? with
 |none=>rw[e1]at p;exact p.elim
 |some o=>
  cases o with
  |none=>rw[e1]at p;exact p.elim
  |some sl=>
   obtain⟨v,ev,k⟩:=rep.slot i sl e1;rw[e1]at p;refine⟨v,ev,?_⟩;cases sl with
   |val d fr=>exact PostE.val p rep (Is.weak (λ_ z=>.inl z) k)
   |own ds fr=>obtain⟨a,vs,rfl,h1,h2,h4⟩:=k;exact p _ M H (Ext.refl M H) rep ⟨a,vs,rfl,.inl ⟨h1,.inr ⟨i,by simp,(h2 a).mpr rfl⟩⟩,IsAll.weak (λ_ z=>.inl z) h4⟩
   |tre d=>exact p _ M H (Ext.refl M H) rep (Is.weak (λa z=>.inr ⟨i,by simp,z⟩) k)
   |mes d=>exact p.elim
theorem F9 (h:PE X e (aw i)):PD X E e (ao i):=⟨_,h,xK⟩
def vC (d:D):En->Res R:=λ_=>.ok (.val d true [])
theorem AI (h:∀ H m,Is H m d v):Snd mg E (tC v) (vC d):=λg M ρ env σ H Q rep p=>p v M H (Ext.refl M H) rep (h H _)
theorem aC {i j pos}:PD X E (.Constant (.int i) j pos) (vC (.int i)):=⟨_,aH,AI λ_ _=>rfl⟩
theorem rK {b j pos}:PD X E (.Constant (.bool b) j pos) (vC (.bl b)):=⟨_,Hi,AI λ_ _=>rfl⟩
theorem AJ {j pos}:PD X E (.Constant .none j pos) (vC .non):=⟨_,lK,AI λ_ _=>rfl⟩
def v2 (op:R->R->Res R)(fa fb:En->Res R):En->Res R:=λenv=>(fa env).bind λra=>(fb env).bind λrb=>op ra rb
def pM (X:Cx)(E:XK)(f:OA->OA->Sem OA)(op:R->R->Res R):Prop:=∃ r:R2,OpR X f r/\
 ∀ g M ρ env σ H Q ra rb x y,Rep g M ρ env σ H->Is H (vmsk g M ra.fr ρ ra.al) ra.d x->Is H (vmsk g M rb.fr ρ rb.al) rb.d y->PostE X.mg E g M ρ env σ H Q (op ra rb)->r x y H Q
theorem bd (ho:pM X E (binaryOp op) k)(ha:PD X E a fa)(hb:PD X E b fb):PD X E (.BinOp a op b pos) (v2 k fa fb):=by obtain⟨r,h1,h2⟩:=ho;obtain⟨ta,pa,sa⟩:=ha;obtain⟨tb,pb,sb⟩:=hb;exact⟨_,pd h1 pa pb,λg M ρ env σ H Q rep p=>sa.twoE sb rep p λra rb x y M' H' rep' i1 i2 p'=>h2 g M' ρ env σ H' Q ra rb x y rep' i1 i2 p'⟩
theorem wy (ho:pM X E (compareOp op) k)(ha:PD X E a fa)(hb:PD X E b fb)(hm:behindInMarks op b=false):PD X E (.Compare a [op] [b] pos) (v2 k fa fb):=by obtain⟨r,h1,h2⟩:=ho;obtain⟨ta,pa,sa⟩:=ha;obtain⟨tb,pb,sb⟩:=hb;exact⟨_,xw h1 pa pb hm,λg M ρ env σ H Q rep p=>sa.twoE sb rep p λra rb x y M' H' rep' i1 i2 p'=>h2 g M' ρ env σ H' Q ra rb x y rep' i1 i2 p'⟩
def oI (C:Int->Int->Bool)(k:Int->Int->D)(a b:R):Res R:=match a.d,b.d with
 | .int i,.int j=>if C i j then .ok (.val (k i j) true []) else .stuck
 |_,_=>.stuck
theorem xL {f:OA->OA->Sem OA}{C:Int->Int->Prop}{kV:Int->Int->V}(c:Int->Int->Bool)(k:Int->Int->D)(ho:OpR X f (rI C kV))(hc:∀ i j,c i j=true->C i j)(hk:∀ H m i j,Is H m (k i j) (kV i j)):pM X E f (oI c k):=by
 refine⟨_,ho,λg M ρ env σ H Q ra rb x y rep i1 i2 p=>?_⟩;unfold oI at p;cases e1:ra.d with
 |int i=>
  rw[e1]at p i1;cases e2:rb.d with
  |int j=>
   rw[e2]at p i2;cases i1;cases i2;by_cases h:c i j=true
   .simp only[h,MS]at p;exact⟨i,j,rfl,rfl,hc i j h,p _ M H (Ext.refl M H) rep (hk H _ i j)⟩
   .simp only[h]at p;exact p.elim
  |_=>rw[e2]at p;exact p.elim
 |_=>rw[e1]at p;exact p.elim
theorem sW {f:OA->OA->Sem OA}{kV:Int->Int->V}(k:Int->Int->D)(ho:OpR X f (yK kV))(hk:∀ H m i j,Is H m (k i j) (kV i j)):pM X E f (oI (λ_ _=>true) k):=by refine xL (C:=λ_ _=>True) (kV:=kV) _ k (λpins s σ H x y v u Q I rx ry h=>?_) (λ_ _ _=>True.intro) hk;obtain⟨i,j,a,b,_,q⟩:=h;exact ho pins s σ H x y v u Q I rx ry ⟨i,j,a,b,q⟩
noncomputable def AK (i j:Int):Bool:=(decide (-(2 ^ 64)<i)&&decide (i<2 ^ 64)) || (decide (-(2 ^ 64)<j)&&decide (j<2 ^ 64))
def wz:R->R->Res R:=oI AK λi j=>.int (i*j)
def uE:R->R->Res R:=oI (λ_ j=>decide (0<j)&&decide (j<1073741824)) λi j=>.int (i / j)
def jB:R->R->Res R:=oI (λ_ j=>decide (0<j)) λi j=>.int (i % j)
theorem pN:pM X E (binaryOp .Mult) wz:=xL _ _ FM (λi j h=>by simp only[AK,Bool.or_eq_true,Ln,MN]at h;exact h) λ_ _ _ _=>rfl
theorem nu:pM X E (binaryOp .FloorDiv) uE:=xL _ _ CT (λi j h=>by simp only[Ln,MN]at h;exact h) λ_ _ _ _=>rfl
theorem dB:pM X E (binaryOp .Mod) jB:=xL _ _ FN (λi j h=>by simpa using h) λ_ _ _ _=>rfl
def F_:R->R->Res R:=oI (λ_ _=>true) λi j=>.bl (decide (i<j))
def HJ:R->R->Res R:=oI (λ_ _=>true) λi j=>.bl (decide (i<=j))
def JK:R->R->Res R:=oI (λ_ _=>true) λi j=>.bl (decide (j<i))
def JL:R->R->Res R:=oI (λ_ _=>true) λi j=>.bl (decide (j<=i))
theorem uF:pM X E (compareOp .Lt) F_:=sW _ EO λ_ _ _ _=>rfl
theorem AL:pM X E (compareOp .LtE) HJ:=sW _ Hx λ_ _ _ _=>rfl
theorem HK:pM X E (compareOp .Gt) JK:=sW _ EQ λ_ _ _ _=>rfl
theorem HL:pM X E (compareOp .GtE) JL:=sW _ Hy λ_ _ _ _=>rfl
theorem Inv.rdL (I:L2.Inv X pins σ H s)(h:Rd H l (.lst xs)) :
 xs.length<=sizeLine/\∃(its:List OA)(n:Nat),Vals xs its/\xs.length=its.length/\s.heap.get? l=some { cls:=.type "list",data:=.seq its.toArray n }:=by
 obtain⟨z,its,n,r,e⟩:=(h.ok I.hok:ObjOk X.prog X.w H s.heap l (.lst xs));exact⟨z,its,n,r,r.length,e⟩
def HN:R2:=λx y H Q=>∃ l b xs zs,x=.ref l/\y=.ref b/\Rd H l (.lst xs)/\Rd H b (.lst zs)/\xs.length+zs.length<=sizeLine/\∀ p,H p=none->Q (.ref p) (aB H p (.lst (xs++zs)))
theorem op_catS:OpR X (binaryOp .Add) HN:=by
 intro pins s σ H x y v u Q I rx ry h;obtain⟨l,b,xs,zs,rfl,rfl,hH,hB,hz,q⟩:=h;cases rx;cases ry;obtain⟨z,its,n,r,hl,e⟩:=Inv.rdL I hH;obtain⟨z2,its2,n2,r2,hl2,e2⟩:=Inv.rdL I hB;refine PySem.P.add_list e e2 ?_ (by rw[KC,KC];lia);have ea:its.toArray++its2.toArray=(its++its2).toArray:=by simp
 rw[ea];exact⟨.ref _,_,I.lnew (t':=s.toks) (r.append r2) (by rw[KI];lia),rfl,q _ I.fresh⟩
def jq (a b:R):Res R:=match a.d,b.d with
 | .int i,.int j=>.ok (.val (.int (i+j)) true [])
 | .lst xs,.lst ys=>if xs.length+ys.length<=lim then .ok (mj (xs++ys) (a.fr&&b.fr) (a.al++b.al)) else .stuck
 | .tup xs,.tup ys=>if xs.length+ys.length<=lim/\xs≠[] then .ok (mkV (.tup (xs++ys)) (a.fr&&b.fr) (a.al++b.al)) else .stuck
 | .str x,.str y=>if x.length+y.length<=lim then .ok (.val (.str (x++y)) true []) else .stuck
 |_,_=>.stuck
section
variable {g:Gd}{M:Addr->Prop}{ρ:Pr}{env:En}{σ:St}
theorem vmsk.l (h:vmsk g M f1 ρ l1 a):vmsk g M (f1&&f2) ρ (l1++l2) a:=h.imp (λz=>⟨z.1,λe=>z.2 (by cases f1<;>simp_all)⟩) λ⟨i,hi,o⟩=>⟨i,by simp[hi],o⟩
theorem vmsk.r (h:vmsk g M f2 ρ l2 a):vmsk g M (f1&&f2) ρ (l1++l2) a:=h.imp (λz=>⟨z.1,λe=>z.2 (by cases f2<;>simp_all)⟩) λ⟨i,hi,o⟩=>⟨i,by simp[hi],o⟩
end
theorem i6:pM X E (binaryOp .Add) jq:=by
 refine⟨_,op_add.or (op_catS.or (op_catT.or v8)),λg M ρ env σ H Q ra rb x y rep i1 i2 p=>?_⟩;unfold jq at p;cases e1:ra.d with
 |int i=>
  rw[e1]at p i1;cases e2:rb.d with
  |int j=>rw[e2]at p i2;cases i1;cases i2;exact .inl ⟨i,j,rfl,rfl,p _ M H (Ext.refl M H) rep rfl⟩
  |_=>rw[e2]at p;exact p.elim
 |lst xs=>
  rw[e1]at p i1;cases e2:rb.d with
  |lst ys=>
   rw[e2]at p i2;obtain⟨a,vs,rfl,h1,h2⟩:=i1.rd;obtain⟨b,ws,rfl,h3,h4⟩:=i2.rd;by_cases hz:xs.length+ys.length<=lim
   .simp only[hz,MS]at p;refine .inr (.inl ⟨a,b,vs,ws,rfl,rfl,h1,h3,by rw[h2.length,h4.length];exact ku hz,λq hq=>?_⟩);exact p.lst rep hq ((h2.weak λ_ z=>z.l).append (h4.weak λ_ z=>z.r))
   .simp only[hz,Nd]at p;exact p.elim
  |_=>rw[e2]at p;exact p.elim
 |tup xs=>
  rw[e1]at p i1;cases e2:rb.d with
  |tup ys=>
   rw[e2]at p i2;obtain⟨a,vs,rfl,h1,h2⟩:=i1;obtain⟨b,ws,rfl,h3,h4⟩:=i2;dsimp only at p;by_cases hz:xs.length+ys.length<=lim/\xs≠[]
   .rw[Ku hz]at p;have n1:vs≠[]:=λz=>hz.2 (by have:=h2.length;rw[z]at this;exact NV this.symm);refine .inr (.inr (.inl ⟨a,b,vs,ws,rfl,rfl,SqT.of h1,SqT.of h3,n1,by rw[h2.length,h4.length];exact ku hz.1,λz=>?_,λ_ q hq=>?_⟩))
    .have ey:ys=[]:=by have:=h4.length;rw[z]at this;exact NV this.symm
     rw[ey,KM]at p;exact p.val rep (Is.weak (d:=.tup xs) (λ_ z=>z.l) ⟨a,vs,rfl,h1,h2⟩)
    .exact p.tup rep hq ((h2.weak λ_ z=>z.l).append (h4.weak λ_ z=>z.r))
   .rw[Kv hz]at p;exact p.elim
  |_=>rw[e2]at p;exact p.elim
 |str xs=>
  rw[e1]at p i1;cases e2:rb.d with
  |str ys=>
   rw[e2]at p i2;cases i1;cases i2;by_cases hz:xs.length+ys.length<=lim
   .simp only[hz,MS]at p;exact .inr (.inr (.inr ⟨xs,ys,rfl,rfl,ku hz,p _ M H (Ext.refl M H) rep rfl⟩))
   .simp only[hz,Nd]at p;exact p.elim
  |_=>rw[e2]at p;exact p.elim
 |_=>rw[e1]at p;exact p.elim
def AM (a b:R):Res R:=if a.d.dep<=50/\b.d.dep<=50 then .ok (.val (.bl (ji a.d b.d)) true []) else .stuck
def Ga (a b:R):Res R:=if a.d.dep<=50/\b.d.dep<=50 then .ok (.val (.bl (!ji a.d b.d)) true []) else .stuck
def JM:R2:=λx y H Q=>∃ d e m m',Is H m d x/\Is H m' e y/\(d.dep<=50/\e.dep<=50)/\Q (.bl (ji d e)) H
def JN:R2:=λx y H Q=>∃ d e m m',Is H m d x/\Is H m' e y/\(d.dep<=50/\e.dep<=50)/\Q (.bl (!ji d e)) H
theorem Gb (hu:X.A.units+64<cLine):OpR X (compareOp .Eq) JM:=by intro pins s σ H x y v u Q I rx ry h;obtain⟨d,e,m,m',h1,h2,hd,q⟩:=h;exact Dj I.hok (by lia) (AG I.hok (A:=X.A) (n:=50) (by lia) (by lia)) hd.1 (by lia) (by lia) h1 h2 rx ry X.prog X.w X.xe _ ⟨.bl _,H,I,rfl,q⟩
theorem Gc (hu:X.A.units+64<cLine):OpR X (compareOp .NotEq) JN:=by intro pins s σ H x y v u Q I rx ry h;obtain⟨d,e,m,m',h1,h2,hd,q⟩:=h;exact Dk I.hok (by lia) (AG I.hok (A:=X.A) (n:=50) (by lia) (by lia)) hd.1 (by lia) (by lia) h1 h2 rx ry X.prog X.w X.xe _ ⟨.bl _,H,I,rfl,q⟩
theorem xM (hu:X.A.units+64<cLine):pM X E (compareOp .Eq) AM:=by
 refine⟨_,Gb hu,λg M ρ env σ H Q ra rb x y rep i1 i2 p=>?_⟩;unfold AM at p;by_cases h:ra.d.dep<=50/\rb.d.dep<=50
 .rw[Ku h]at p;exact⟨_,_,_,_,i1,i2,h,p _ M H (Ext.refl M H) rep rfl⟩
 .rw[Kv h]at p;exact p.elim
theorem E1 (hu:X.A.units+64<cLine):pM X E (compareOp .NotEq) Ga:=by
 refine⟨_,Gc hu,λg M ρ env σ H Q ra rb x y rep i1 i2 p=>?_⟩;unfold Ga at p;by_cases h:ra.d.dep<=50/\rb.d.dep<=50
 .rw[Ku h]at p;exact⟨_,_,_,_,i1,i2,h,p _ M H (Ext.refl M H) rep rfl⟩
 .rw[Kv h]at p;exact p.elim
end
section
variable {X:Cx}{E:XK}
noncomputable def D.isNon:D->Bool
 | .non=>true
 |_=>false
theorem Is.non_iff (h:Is H m d v):decide (v=.non)=d.isNon:=by
 cases d with
 |non=>cases h;rfl
 |bl b=>cases h;rfl
 |int b=>cases h;rfl
 |str b=>cases h;rfl
 |tup ds=>obtain⟨a,vs,rfl,_⟩:=h;rfl
 |lst ds=>obtain⟨a,vs,rfl,_⟩:=h;rfl
 |dic ks ds=>obtain⟨a,vs,rfl,_⟩:=h;rfl
def Ge (fa:En->Res R):En->Res R:=λenv=>(fa env).bind λra=>match ra.d with
 | .bl b=>.ok (.val (.bl (!b)) true [])
 |_=>.stuck
def Dn (fa fb:En->Res R):En->Res R:=λenv=>(fa env).bind λra=>match ra.d with
 | .bl true=>fb env
 | .bl false=>.ok (.val (.bl false) true [])
 |_=>.stuck
theorem Gf (ha:PD X E a fa):PD X E (.UnaryOp .Not a pos) (Ge fa):=by
 obtain⟨ta,pa,sa⟩:=ha;refine⟨_,FG pa,λg M ρ env σ H Q rep p=>sa.oneE rep p λr v M' H' e rep' i p'=>?_⟩;cases q:r.d with
 |bl b=>rw[q]at i;simp only[q]at p';cases i;exact⟨b,rfl,p' _ M' H' (Ext.refl _ _) rep' rfl⟩
 |_=>simp only[q]at p';exact p'.elim
theorem AN (ha:PD X E a fa):PD X E (.BoolOp op [a] pos) fa:=let ⟨t,pa,sa⟩:=ha;⟨t,FE pa,sa⟩
theorem AO {rest:List Expr}{fa fb:En->Res R}{pos:Pos}(ha:PD X E a fa)(hb:PD X E (.BoolOp .And (b::rest) pos) fb):PD X E (.BoolOp .And (a::b::rest) pos) (Dn fa fb):=by
 obtain⟨ta,pa,sa⟩:=ha;obtain⟨tb,pb,sb⟩:=hb;refine⟨_,FF pa pb,λg M ρ env σ H Q rep p=>sa.oneE rep p λr v M' H' e rep' i p'=>?_⟩;cases q:r.d with
 |bl b=>
  rw[q]at i;simp only[q]at p';cases i;refine⟨b,rfl,?_⟩;cases b with
  |true=>exact sN (sb g M' ρ env σ H' Q rep' p')
  |false=>exact uw (p' _ M' H' (Ext.refl _ _) rep' rfl)
 |_=>simp only[q]at p';exact p'.elim
def tru:D->Res Bool
 | .non=>.ok false
 | .bl b=>.ok b
 | .int i=>.ok (i != 0)
 | .str y=>if y.length<=lim then .ok ((y.length:Int) != 0) else .stuck
 | .tup ds=>.ok (!ds.isEmpty)
 | .lst ds=>.ok (!ds.isEmpty)
 | .dic _ _=>.stuck
theorem Is.tru (h:Is H m d v)(e:tru d=.ok k):FS X.K v H k:=by
 cases d with
 |non=>cases h;cases e;rfl
 |bl b=>cases h;cases e;rfl
 |int b=>cases h;cases e;rfl
 |str b=>
  cases h;unfold L3.tru at e;dsimp only at e;by_cases hl:b.length<=lim
  .rw[Ku hl]at e;cases e;exact⟨ku hl,rfl⟩
  .rw[Kv hl]at e;cases e
 |tup ds=>obtain⟨a,vs,rfl,h1,h2⟩:=h;cases e;refine .inr (.inl ⟨vs,SqT.of h1,?_⟩);have:=h2.length;cases ds<;>cases vs<;>simp_all
 |lst ds=>obtain⟨a,vs,rfl,h1,h2⟩:=h.rd;cases e;refine .inl ⟨vs,.inl h1,?_⟩;have:=h2.length;cases ds<;>cases vs<;>simp_all
 |dic ks ds=>cases e
def sX (fa:En->Res R):En->Res Bool:=λenv=>(fa env).bind λra=>tru ra.d
theorem lL (ha:PD X E a fa)(he:autoParam (∀ whole,isTrue a X.env whole=(do let v <- whole;standAt a.pos;holding [v] (truthy v))) OF._auto_1):uD X E a (sX fa):=by
 obtain⟨ta,pa,sa⟩:=ha;refine⟨_,Af pa he,λg M ρ env σ H Q rep p=>sa.oneT rep p λr v M' H' e rep' i p'=>?_⟩;cases q:tru r.d with
 |stuck=>rw[q]at p';exact p'.elim
 |exc c=>exfalso;unfold tru at q;cases z:r.d<;>simp only[z]at q<;>first|cases q|(split at q<;>cases q)
 |ok k=>rw[q]at p';exact⟨k,i.tru q,p' M' H' (Ext.refl _ _) rep'⟩
def vB (fa:En->Res R):En->Res Bool:=λenv=>(fa env).bind λra=>match ra.d with
 | .bl b=>.ok b
 |_=>.stuck
theorem iJ (ho:pM X E (compareOp op) k)(ha:PD X E a fa)(hb:PD X E b fb)(hm:behindInMarks op b=false):uD X E (.Compare a [op] [b] pos) (vB (v2 k fa fb)):=by
 obtain⟨r,h1,h2⟩:=ho;obtain⟨ta,pa,sa⟩:=ha;obtain⟨tb,pb,sb⟩:=hb;have S:Snd X.mg E (m5 r ta tb) (v2 k fa fb):=λg M ρ env σ H Q rep p=>sa.twoE sb rep p λra rb x y M' H' rep' i1 i2 p'=>h2 g M' ρ env σ H' Q ra rb x y rep' i1 i2 p';refine⟨_,jO h1 pa pb hm,λg M ρ env σ H Q rep p=>S.oneT rep p λr v M' H' e rep' i p'=>?_⟩;cases q:r.d with
 |bl b=>rw[q]at i;simp only[q]at p';cases i;exact⟨b,rfl,p' M' H' (Ext.refl _ _) rep'⟩
 |_=>simp only[q]at p';exact p'.elim
theorem Do (ha:PD X E a fa):uD X E (.Compare a [.Is] [.Constant .none j pos'] pos) (λenv=>(fa env).bind λra=>.ok ra.d.isNon):=by obtain⟨ta,pa,sa⟩:=ha;refine⟨_,z6 (FA pa),λg M ρ env σ H Q rep p=>sa.oneT rep p λr v M' H' e rep' i p'=>?_⟩;exact⟨_,rfl,by rw[i.non_iff];exact p' M' H' (Ext.refl _ _) rep'⟩
theorem AQ (ha:PD X E a fa):uD X E (.Compare a [.IsNot] [.Constant .none j pos'] pos) (λenv=>(fa env).bind λra=>.ok (!ra.d.isNon)):=by obtain⟨ta,pa,sa⟩:=ha;refine⟨_,z6 (CN pa),λg M ρ env σ H Q rep p=>sa.oneT rep p λr v M' H' e rep' i p'=>?_⟩;exact⟨_,rfl,by rw[i.non_iff];exact p' M' H' (Ext.refl _ _) rep'⟩
def oB (fa:En->Res Bool):En->Res Bool:=λenv=>(fa env).bind λb=>.ok (!b)
def Gg (fa fb:En->Res Bool):En->Res Bool:=λenv=>(fa env).bind λb=>if b then fb env else .ok false
def Dp (fa fb:En->Res Bool):En->Res Bool:=λenv=>(fa env).bind λb=>if b then .ok true else fb env
section
variable {mg:Str->Option OA}{g:Gd}{M M':Addr->Prop}{ρ:Pr}{env:En}{σ:St}{H H':Hp}
theorem SndT.oneT {f:En->Res Bool}(h:SndT mg E t f)(rep:Rep g M ρ env σ H){K:Bool->Res Bool}{Q':Bool->Hp->Prop}{Q:Bool->Hp->Prop}(hp:PostT mg E g M ρ env σ H Q' ((f env).bind K))
 (k:∀ b M' H',Ext M H M' H'->Rep g M' ρ env σ H'->PostT mg E g M' ρ env σ H' Q' (K b)->Q b H'):t σ H Q:=by
 refine h g M ρ env σ H Q rep ?_;cases e:f env with
 |stuck=>rw[e]at hp;exact hp
 |exc c=>rw[e]at hp;exact hp
 |ok b=>rw[e]at hp;exact λM1 H1 e1 rep1=>k b M1 H1 e1 rep1 (PostT.ext e1 hp)
theorem SndT.oneE {f:En->Res Bool}(h:SndT mg E t f)(rep:Rep g M ρ env σ H){K:Bool->Res R}{Q:Bool->Hp->Prop}(hp:PostE mg E g M ρ env σ H Q' ((f env).bind K))
 (k:∀ b M' H',Ext M H M' H'->Rep g M' ρ env σ H'->PostE mg E g M' ρ env σ H' Q' (K b)->Q b H'):t σ H Q:=by
 refine h g M ρ env σ H Q rep ?_;cases e:f env with
 |stuck=>rw[e]at hp;exact hp
 |exc c=>rw[e]at hp;exact hp
 |ok b=>rw[e]at hp;exact λM1 H1 e1 rep1=>k b M1 H1 e1 rep1 (PostE.ext e1 hp)
end
theorem gv (ha:uD X E a fa):uD X E (.UnaryOp .Not a pos) (oB fa):=by obtain⟨ta,pa,sa⟩:=ha;exact⟨_,z8 pa,λg M ρ env σ H Q rep p=>sa.oneT rep p λb M' H' e rep' p'=>p' M' H' (Ext.refl _ _) rep'⟩
theorem AR (ha:uD X E a fa):PWD X E (.BoolOp .And [a] pos) fa:=let ⟨t,pa,sa⟩:=ha;⟨t,CO pa,sa⟩
theorem oN (ha:uD X E a fa):PWD X E (.BoolOp .Or [a] pos) fa:=let ⟨t,pa,sa⟩:=ha;⟨t,z7 pa,sa⟩
theorem Dq {rest:List Expr}{fa fb:En->Res Bool}{pos:Pos}(ha:uD X E a fa)(hb:PWD X E (.BoolOp .And (b::rest) pos) fb):PWD X E (.BoolOp .And (a::b::rest) pos) (Gg fa fb):=by
 obtain⟨ta,pa,sa⟩:=ha;obtain⟨tb,pb,sb⟩:=hb;refine⟨_,FD pa pb,λg M ρ env σ H Q rep p=>sa.oneT rep p λb M' H' e rep' p'=>?_⟩;cases b with
 |true=>exact sN (sb g M' ρ env σ H' Q rep' p')
 |false=>exact uw (p' M' H' (Ext.refl _ _) rep')
theorem lM {rest:List Expr}{fa fb:En->Res Bool}{pos:Pos}(ha:uD X E a fa)(hb:PWD X E (.BoolOp .Or (b::rest) pos) fb):PWD X E (.BoolOp .Or (a::b::rest) pos) (Dp fa fb):=by
 obtain⟨ta,pa,sa⟩:=ha;obtain⟨tb,pb,sb⟩:=hb;refine⟨_,EM pa pb,λg M ρ env σ H Q rep p=>sa.oneT rep p λb M' H' e rep' p'=>?_⟩;cases b with
 |true=>exact sN (p' M' H' (Ext.refl _ _) rep')
 |false=>exact uw (sb g M' ρ env σ H' Q rep' p')
def JO (fc:En->Res Bool)(fa fb:En->Res R):En->Res R:=λenv=>(fc env).bind λb=>if b then fa env else fb env
theorem HP (hc:uD X E c fc)(ha:PD X E a fa)(hb:PD X E b fb):PD X E (.IfExp c a b pos) (JO fc fa fb):=by
 obtain⟨tc,pc,sc⟩:=hc;obtain⟨ta,pa,sa⟩:=ha;obtain⟨tb,pb,sb⟩:=hb;refine⟨_,z9 pc pa pb,λg M ρ env σ H Q rep p=>sc.oneE rep p λb M' H' e rep' p'=>?_⟩;cases b with
 |true=>exact sN (sa g M' ρ env σ H' Q rep' p')
 |false=>exact uw (sb g M' ρ env σ H' Q rep' p')
def zZ (a b:R):Res R:=match a.d,b.d with
 | .lst xs,.int i=>match atI xs i with
  |some d=>.ok (mkV d a.fr a.al)
  |none=>.stuck
 | .tup xs,.int i=>match atI xs i with
  |some d=>.ok (mkV d a.fr a.al)
  |none=>.stuck
 | .str z,.int i=>if z.length<=lim then (match atI z.cps.toList i with
  |some c=>.ok (.val (.str ⟨#[c]⟩) true [])
  |none=>.stuck) else .stuck
 |_,_=>.stuck
theorem IsAll.atI (h:IsAll H m ds vs)(e:L2.atI ds i=some d):∃ v,L2.atI vs i=some v/\Is H m d v:=by
 unfold L2.atI at e ⊢;rw[h.length];cases q:yR ds.length i with
 |none=>rw[q]at e;cases e
 |some j=>rw[q]at e;exact h.get e
theorem E2:∃ r:R2,IxR X r/\∀ g M ρ env σ H Q ra rb x y,Rep g M ρ env σ H->Is H (vmsk g M ra.fr ρ ra.al) ra.d x->Is H (vmsk g M rb.fr ρ rb.al) rb.d y->PostE X.mg E g M ρ env σ H Q (zZ ra rb)->r x y H Q:=by
 refine⟨_,FZ,λg M ρ env σ H Q ra rb x y rep i1 i2 p=>?_⟩;unfold zZ at p;cases e1:ra.d with
 |lst xs=>
  rw[e1]at p i1;cases e2:rb.d with
  |int i=>
   rw[e2]at p i2;cases i2;obtain⟨a,vs,rfl,h1,h2⟩:=i1.rd;cases q:atI xs i with
   |none=>simp only[q]at p;exact p.elim
   |some d=>simp only[q]at p;obtain⟨v,ev,iv⟩:=h2.atI q;exact .inl ⟨a,vs,i,v,rfl,rfl,.inl h1,ev,p.val rep iv⟩
  |_=>rw[e2]at p;exact p.elim
 |tup xs=>
  rw[e1]at p i1;cases e2:rb.d with
  |int i=>
   rw[e2]at p i2;cases i2;obtain⟨a,vs,rfl,h1,h2⟩:=i1;cases q:atI xs i with
   |none=>simp only[q]at p;exact p.elim
   |some d=>simp only[q]at p;obtain⟨v,ev,iv⟩:=h2.atI q;exact .inr (.inl ⟨a,vs,i,v,rfl,rfl,SqT.of h1,ev,p.val rep iv⟩)
  |_=>rw[e2]at p;exact p.elim
 |str z=>
  rw[e1]at p i1;cases e2:rb.d with
  |int i=>
   rw[e2]at p i2;cases i1;cases i2;by_cases hz:z.length<=lim
   .simp only[hz,MS]at p;cases q:atI z.cps.toList i with
    |none=>simp only[q]at p;exact p.elim
    |some c=>simp only[q]at p;exact .inr (.inr ⟨z,i,c,rfl,rfl,ku hz,q,p _ M H (Ext.refl _ _) rep rfl⟩)
   .simp only[hz,Nd]at p;exact p.elim
  |_=>rw[e2]at p;exact p.elim
 |_=>rw[e1]at p;exact p.elim
theorem E3 (ha:PD X E a fa)(hb:PD X E b fb)(hs:sH b):PD X E (.Subscript a b pos) (v2 zZ fa fb):=by obtain⟨r,h1,h2⟩:=E2 (X:=X) (E:=E);obtain⟨ta,pa,sa⟩:=ha;obtain⟨tb,pb,sb⟩:=hb;exact⟨_,bU h1 pa pb hs,λg M ρ env σ H Q rep p=>sa.twoE sb rep p λra rb x y M' H' rep' i1 i2 p'=>h2 g M' ρ env σ H' Q ra rb x y rep' i1 i2 p'⟩
def aX (i:Nat)(fb:En->Res R):En->Res R:=λenv=>match env[i]? with
 |some (some (.own ds fr))=>(fb env).bind λrb=>match rb.d with
  | .int k=>match atI ds k with
   |some d=>.ok (mkV d fr [])
   |none=>.stuck
  |_=>.stuck
 |_=>v2 zZ (ao i) fb env
theorem wA (ha:PE X a (aw i))(hb:PD X E b fb)(hs:sH b):PD X E (.Subscript a b pos) (aX i fb):=by
 obtain⟨r,h1,h2⟩:=E2 (X:=X) (E:=E);obtain⟨tb,pb,sb⟩:=hb;refine⟨_,bU (ix_list.or h1) ha pb hs,λg M ρ env σ H Q rep p=>?_⟩;have gen:PostE X.mg E g M ρ env σ H Q (v2 zZ (ao i) fb env)->m5 (λx y H Q=>FX X.K x y H Q\/r x y H Q) (aw i) tb σ H Q:=λp=>Snd.twoE xK sb rep p λra rb x y M' H' rep' i1 i2 p'=>.inr (h2 g M' ρ env σ H' Q ra rb x y rep' i1 i2 p');unfold aX at p;cases e1:env[i]? with
 |none=>rw[e1]at p;exact gen p
 |some o=>
  cases o with
  |none=>rw[e1]at p;exact gen p
  |some sl=>
   cases sl with
   |val d fr=>rw[e1]at p;exact gen p
   |tre d=>rw[e1]at p;exact gen p
   |mes d=>rw[e1]at p;exact gen p
   |own ds fr=>
    rw[e1]at p;obtain⟨v,ev,a,vs,rfl,k1,k2,k4⟩:=rep.slot i _ e1;refine⟨_,ev,sb.oneE rep p λrb y M' H' e rep' i2 p'=>?_⟩;cases q:rb.d with
    |int k=>
     rw[q]at i2;simp only[q]at p';cases i2;cases q2:atI ds k with
     |none=>simp only[q2]at p';exact p'.elim
     |some d=>simp only[q2]at p';have k5:IsAll H' (vmsk g M' fr ρ []) ds vs:=(IsAll.weak (λ_ z=>.inl z) k4:IsAll H (vmsk g M fr ρ []) ds vs).ext e;obtain⟨w,ew,iw⟩:=k5.atI q2;exact .inl ⟨a,vs,k,w,rfl,rfl,.inl (.inl (e.h _ _ k1)),ew,p'.val rep' iw⟩
    |_=>simp only[q]at p';exact p'.elim
end
section
variable {mg:Str->Option OA}{E:XK}{g:Gd}{M M':Addr->Prop}{ρ:Pr}{env:En}{σ:St}{H H':Hp}
theorem SndA.one {t:TA}{f:En->Res (List R)}(h:SndA mg E t f)(rep:Rep g M ρ env σ H){α:Type}{K:List R->Res α}{P:(M:Addr->Prop)->(H:Hp)->Res α->Prop}{Q:List V->Hp->Prop}
 (hp:P M H ((f env).bind K)) (hs:∀ M H,P M H .stuck->False) (hx:∀ M H c,P M H (.exc c)->Dm mg E g c) (he:∀ M H M' H' r,Ext M H M' H'->P M H r->P M' H' r)
 (k:∀ rs vs M' H',Ext M H M' H'->Rep g M' ρ env σ H'->IsAll H' (vmsk g M' (bX rs) ρ (dk rs)) (rs.map R.d) vs->P M' H' (K rs)->Q vs H'):t σ H Q:=by
 refine h g M ρ env σ H Q rep ?_;cases e:f env with
 |stuck=>rw[e]at hp;exact hs _ _ hp
 |exc c=>rw[e]at hp;exact hx _ _ c hp
 |ok r=>rw[e]at hp;exact λvs M1 H1 e1 rep1 is=>k r vs M1 H1 e1 rep1 is (he _ _ _ _ _ e1 hp)
theorem SndA.oneE {f:En->Res (List R)}(h:SndA mg E t f)(rep:Rep g M ρ env σ H){K:List R->Res R}{Q:List V->Hp->Prop}(hp:PostE mg E g M ρ env σ H Q' ((f env).bind K))
 (k:∀ rs vs M' H',Ext M H M' H'->Rep g M' ρ env σ H'->IsAll H' (vmsk g M' (bX rs) ρ (dk rs)) (rs.map R.d) vs->PostE mg E g M' ρ env σ H' Q' (K rs)->Q vs H'):t σ H Q:=
 h.one rep (P:=λM H r=>PostE mg E g M ρ env σ H Q' r) hp (λ_ _ z=>z) (λ_ _ _ z=>z) (λ_ _ _ _ _ e p=>p.ext e) k
theorem SndA.oneA {f:En->Res (List R)}(h:SndA mg E t f)(rep:Rep g M ρ env σ H){K:List R->Res (List R)}{Q':List V->Hp->Prop}{Q:List V->Hp->Prop}(hp:PostA mg E g M ρ env σ H Q' ((f env).bind K))
 (k:∀ rs vs M' H',Ext M H M' H'->Rep g M' ρ env σ H'->IsAll H' (vmsk g M' (bX rs) ρ (dk rs)) (rs.map R.d) vs->PostA mg E g M' ρ env σ H' Q' (K rs)->Q vs H'):t σ H Q:=
 h.one rep (P:=λM H r=>PostA mg E g M ρ env σ H Q' r) hp (λ_ _ z=>z) (λ_ _ _ z=>z) (λ_ _ _ _ _ e p=>p.ext e) k
theorem IsAll.args (h1:Is H (vmsk g M r.fr ρ r.al) r.d v)(h2:IsAll H (vmsk g M (bX rs) ρ (dk rs)) (rs.map R.d) vs) :
 IsAll H (vmsk g M (bX (r::rs)) ρ (dk (r::rs))) ((r::rs).map R.d) (v::vs):=by
 refine⟨v,vs,rfl,h1.weak λa z=>?_,h2.weak λa z=>?_⟩
 .exact(z.l:vmsk g M (r.fr&&bX rs) ρ (r.al++dk rs) a)
 .exact(z.r:vmsk g M (r.fr&&bX rs) ρ (r.al++dk rs) a)
end
section
variable {X:Cx}{E:XK}
noncomputable def aN:En->Res (List R):=λ_=>.ok []
def ah (f:En->Res R)(fs:En->Res (List R)):En->Res (List R):=λenv=>(f env).bind λr=>(fs env).bind λrs=>.ok (r::rs)
theorem ai:AH X E [] aN:=⟨_,aA,λg M ρ env σ H Q rep p=>p [] M H (Ext.refl _ _) rep rfl⟩
theorem ae (he:PD X E e f)(hr:AH X E es fs)(hs:autoParam (starEach (e::es) X.env=(false,eval e X.env)::starEach es X.env) OH._auto_1):AH X E (e::es) (ah f fs):=by obtain⟨t,p1,s1⟩:=he;obtain⟨u,p2,s2⟩:=hr;refine⟨_,ag p1 p2 hs,λg M ρ env σ H Q rep p=>s1.oneA rep p λr v M1 H1 e1 rep1 i1 q1=>s2.oneA rep1 q1 λrs vs M2 H2 e2 rep2 i2 q2=>?_⟩;exact q2 (v::vs) M2 H2 (Ext.refl _ _) rep2 (IsAll.args (i1.ext e2) i2)
def gp (fs:En->Res (List R)):En->Res R:=λenv=>(fs env).bind λrs=>if rs.length<=lim then .ok (mkV (.tup (rs.map R.d)) (bX rs) (dk rs)) else .stuck
theorem cW (h:AH X E es fs):PD X E (.Tuple es k pos) (gp fs):=by
 obtain⟨t,p1,s1⟩:=h;refine⟨_,f6 p1,λg M ρ env σ H Q rep p=>s1.oneE rep p λrs vs M1 H1 e1 rep1 i1 q1=>?_⟩;by_cases hl:rs.length<=lim
 .rw[Ku hl]at q1;exact⟨by rw[i1.length,Kw];exact ku hl,λa ha=>q1.tup rep1 ha i1⟩
 .rw[Kv hl]at q1;exact q1.elim
def lN (fs:En->Res (List R)):En->Res R:=λenv=>(fs env).bind λrs=>if rs.length<=lim then .ok (mj (rs.map R.d) (bX rs) (dk rs)) else .stuck
theorem iz (h:AH X E es fs):PD X E (.List es pos) (lN fs):=by
 obtain⟨t,p1,s1⟩:=h;refine⟨_,jP p1,λg M ρ env σ H Q rep p=>s1.oneE rep p λrs vs M1 H1 e1 rep1 i1 q1=>?_⟩;by_cases hl:rs.length<=lim
 .rw[Ku hl]at q1;exact⟨by rw[i1.length,Kw];exact ku hl,λa ha=>q1.lst rep1 ha i1⟩
 .rw[Kv hl]at q1;exact q1.elim
end
def nl (H0 H':Hp)(a:Addr):Prop:=H0 a=none/\Mu H' a
def RetOk (g:Gd)(H':Hp)(v:V):R->Prop
 | .val d fr _=>Is H' (λa=>nl g.H₀ H' a\/(fr=false/\g.Ma a)) d v
 | .new ds fr=>∃ a vs,v=.ref a/\H' a=some (.lst vs)/\g.H₀ a=none/\IsAll H' (λb=>b≠a/\(nl g.H₀ H' b\/(fr=false/\g.Ma b))) ds vs
 | .fre d=>Is H' (nl g.H₀ H') d v
def HQ (mg:Str->Option OA)(E:XK)(g:Gd)(Q:VK):Res R->Prop
 | .stuck=>False
 | .exc c=>Dm mg E g c
 | .ok r=>∀ v H',Same g.H₀ H'->RetOk g H' v r->Q v H'
def pO (mg:Str->Option OA)(n:Nat)(F:List D->Res R):Sp:=λvs H Q E=>vs.length=n/\∃ ds Ma,IsAll H Ma ds vs/\HQ mg E (HI H Ma) Q (F ds)
def z3 (d:D)(fr:Bool)(rs:List R):R:=if d.flat then .val d true [] else if fr then .fre d else .val d (bX rs) (dk rs)
def iC (rs:List R):R->R
 | .val d fr _=>z3 d fr rs
 | .new ds fr=>if D.flats ds then .new ds true else if fr then .fre (.lst ds) else if (dk rs).isEmpty then .new ds (bX rs) else .val (.lst ds) (bX rs) (dk rs)
 | .fre d=>z3 d true rs
section
variable {g:Gd}{M:Addr->Prop}{ρ:Pr}{env:En}{σ:St}{H H':Hp}
theorem Rep.came (rep:Rep g M ρ env σ H)(s:Same H H')(p:Addr->Prop):Rep g (λa=>M a\/(nl H H' a/\p a)) ρ env σ H':=(rep.grow s).moreT λa z=>⟨z.1.2,rep.same.free z.1.1,(rep.free z.1.1).2.2⟩
theorem AS (rs:List R)(rep:Rep g M ρ env σ H)(s:Same H H')(h:Is H' (λa=>nl H H' a\/(fr=false/\vmsk g M (bX rs) ρ (dk rs) a)) d v) :
 ∃ M',Ext M H M' H'/\Rep g M' ρ env σ H'/\ROk g M' ρ H H' v (z3 d fr rs):=by
 unfold z3;by_cases hf:d.flat=true
 .rw[Ku hf];exact⟨M,⟨λ_ z=>z,s,λ_ z=>.inl z⟩,rep.grow s,Is.flat hf h⟩
 .rw[Kv hf];cases fr with
  |true=>
   refine⟨M,⟨λ_ z=>z,s,λ_ z=>.inl z⟩,rep.grow s,nl H H',λa z=>?_,?_⟩
   .exact⟨λw=>rep.froz a w z.1,z.1,z.2,(rep.free z.1).2.2⟩
   .exact Is.weak (λa z=>z.elim id λw=>by cases w.1) h
  |false=>
   refine⟨_,⟨λ_=>.inl,s,λ_ z=>z.imp id (·.1.1)⟩,rep.came s λ_=>True,?_⟩;refine Is.weak (λa z=>?_) h;rcases z with z|⟨_,z⟩
   .exact .inl ⟨.inr ⟨z,True.intro⟩,λ_=>rep.same.free z.1⟩
   .exact z.mono λ_=>.inl
theorem RetOk.caller (rs:List R)(rep:Rep g M ρ env σ H)(s:Same H H')(h:RetOk (HI H (vmsk g M (bX rs) ρ (dk rs))) H' v r) :
 ∃ M',Ext M H M' H'/\Rep g M' ρ env σ H'/\ROk g M' ρ H H' v (iC rs r):=by
 cases r with
 |val d fr al=>exact AS rs rep s h
 |fre d=>exact AS rs rep s (Is.weak (λa z=>.inl z) h)
 |new ds fr=>
  obtain⟨a,vs,rfl,h1,h2,h3⟩:=h;have h2:H a=none:=h2;obtain⟨f0,f1,f2⟩:=rep.free h2;have R1:Rep g (λb=>M b\/(nl H H' b/\b≠a)) ρ env σ H':=rep.came s λb=>b≠a;have nm:¬ (M a\/(nl H H' a/\a≠a)):=λz=>z.elim f1 λz=>z.2 rfl;have X1:Ext M H (λb=>M b\/(nl H H' b/\b≠a)) H':=⟨λ_=>.inl,s,λ_ z=>z.imp id (·.1.1)⟩;unfold iC;dsimp only;by_cases hfl:D.flats ds=true
  .rw[Ku hfl];exact⟨_,X1,R1,a,vs,rfl,h1,nm,h2,f2,IsAll.flat hfl h3⟩
  .rw[Kv hfl];cases fr with
   |true=>
    refine⟨M,⟨λ_ z=>z,s,λ_ z=>.inl z⟩,rep.grow s,nl H H',λa z=>?_,?_⟩
    .exact⟨λw=>rep.froz a w z.1,z.1,z.2,(rep.free z.1).2.2⟩
    .exact⟨a,vs,rfl,.inl ⟨h1,h2,Mu.lst h1⟩,IsAll.weak (λb z=>z.2.elim id λw=>by cases w.1) h3⟩
   |false=>
    simp only[M8,Nd];by_cases hc:(dk rs).isEmpty=true
    .rw[Ku hc];refine⟨_,X1,R1,a,vs,rfl,h1,nm,h2,f2,?_⟩;refine IsAll.weak (λb z=>?_) h3;rcases z with⟨nb,z|⟨hf,z⟩⟩
     .exact⟨.inr ⟨z,nb⟩,λ_=>rep.same.free z.1⟩
     .have hl:dk rs=[]:=by simpa using hc
      have z:vmsk g M (bX rs) ρ (dk rs) b:=z;rw[hl]at z;exact⟨.inl z.nil.1,z.nil.2⟩
    .rw[Kv hc];refine⟨λb=>(M b\/(nl H H' b/\b≠a))\/b=a,⟨λ_ z=>.inl (.inl z),s,λb z=>z.elim (X1.n b) λe=>.inr (e▸h2)⟩,R1.more h1 f0 f2,a,vs,rfl,.inl ⟨h1,.inl ⟨.inr rfl,λ_=>f0⟩⟩,?_⟩;refine IsAll.weak (λb z=>?_) h3;rcases z with⟨nb,z|⟨hf,z⟩⟩
     .exact .inl ⟨.inl (.inr ⟨z,nb⟩),λ_=>rep.same.free z.1⟩
     .exact vmsk.mono (λ_ w=>.inl (.inl w)) z
end
section
variable {X:Cx}{E:XK}{CX:CXT}{k:Nat}{f:Addr}{fd:FuncData}{ps:List Str}{F:List D->Res R}{x:Str}{p pos:Pos}{e:Expr}{es:List Expr}{fs:En->Res (List R)}
def fQ (F:List D->Res R)(fs:En->Res (List R)):En->Res R:=λenv=>(fs env).bind λrs=>(F (rs.map R.d)).bind λr=>.ok (iC rs r)
theorem AT (hl:∀ env rs,fs env=.ok rs->rs.length=ps.length)(s:SndA X.mg E t fs):Snd X.mg E (xx (pO X.mg ps.length F) [] E t) (fQ F fs):=by
 intro g M ρ env σ H Q rep p;refine s g M ρ env σ H _ rep ?_;unfold fQ at p;cases e:fs env with
 |stuck=>rw[e]at p;exact p
 |exc c=>rw[e]at p;exact p
 |ok rs=>
  rw[e]at p;intro vs M1 H1 e1 rep1 is;have p1:PostE X.mg E g M1 ρ env σ H1 Q ((F (rs.map R.d)).bind λr=>.ok (iC rs r)):=PostE.ext e1 p;rw[KM];refine⟨by rw[is.length,Kw];exact hl env rs e,rs.map R.d,_,is,?_⟩;cases q:F (rs.map R.d) with
  |stuck=>rw[q]at p1;exact p1
  |exc c=>rw[q]at p1;exact λcls dx H' h1 h2=>p1 cls dx H' h1 (rep1.same.trans h2)
  |ok r=>rw[q]at p1;intro v H2 s2 ro;obtain⟨M3,e3,rep3,ro3⟩:=RetOk.caller rs rep1 s2 ro;exact p1 v M3 H2 e3 rep3 ro3
theorem Ds (G:FnOk X.prog X.w X.K X.mg X.base CX k f fd ps (pO X.mg ps.length F))(hr:Room k X.A)(hg:Gl X x)(hm:X.mg x=some (.ref f))(hk:PySem.W.keepIn X.K (.ref f)=true)(hb:Binds X.K fd ps [])(hx:iU CX X E)
 (ha:AH X E (e::es) fs) (hl:∀ env rs,fs env=.ok rs->rs.length=ps.length) (hdb:autoParam ((x==("__debug__" : Str))=false) OC._auto_1) (he:autoParam (starEach (e::es) X.env=(false,eval e X.env)::starEach es X.env) OH._auto_1) (hpl:autoParam ((backTo pos (starEach es X.env)).any (·.1)=false) OH._auto_1) :
 PD X E (.Call (.Name x p) (e::es) [] pos) (fQ F fs):=by
 obtain⟨t,p1,s1⟩:=ha;exact⟨_,sF G hr hg hm hk hb .nil hx p1 hdb he hpl,AT hl s1⟩
theorem bz:∀ env rs,aN env=.ok rs->rs.length=0:=λ_ _ e=>by cases e;rfl
theorem az {f:En->Res R}{fs:En->Res (List R)}(h:∀ env rs,fs env=.ok rs->rs.length=n):∀ env rs,ah f fs env=.ok rs->rs.length=n+1:=λenv rs e=>by
 unfold ah at e;cases q:f env with
 |stuck=>rw[q]at e;cases e
 |exc c=>rw[q]at e;cases e
 |ok r=>
  rw[q]at e;cases q2:fs env with
  |stuck=>simp only[Res.bind_ok,q2]at e;cases e
  |exc c=>simp only[Res.bind_ok,q2]at e;cases e
  |ok rs'=>simp only[Res.bind_ok,q2]at e;cases e;simp[h env rs' q2]
def ky (X:Cx)(E:XK)(f:OA)(k:List R->Res R):Prop:=∃ r,CallR X f r/\
 ∀ g M ρ env σ H Q rs vs,Rep g M ρ env σ H->IsAll H (vmsk g M (bX rs) ρ (dk rs)) (rs.map R.d) vs->PostE X.mg E g M ρ env σ H Q (k rs)->r vs H Q
def uG (k:List R->Res R)(fs:En->Res (List R)):En->Res R:=λenv=>(fs env).bind k
theorem dH {id:String} {k:List R->Res R} (hc:ky X E (.builtin id) k) (hg:Gl X x) (hm:X.mg x=none) (hv:bootBuiltins x=some (.builtin id)) (ha:AH X E (e::es) fs) (hn:autoParam (x≠"__name__") OC._auto_1) (hdb:autoParam ((x==("__debug__" : Str))=false) OC._auto_1)
 (he:autoParam (starEach (e::es) X.env=(false,eval e X.env)::starEach es X.env) OH._auto_1) (hpl:autoParam ((backTo pos (starEach es X.env)).any (·.1)=false) OH._auto_1):PD X E (.Call (.Name x p) (e::es) [] pos) (uG k fs):=by
 obtain⟨r,h1,h2⟩:=hc;obtain⟨t,p1,s1⟩:=ha;exact⟨_,gB h1 hg hm hv p1 hn hdb he hpl,λg M ρ env σ H Q rep p=>s1.oneE rep p λrs vs M1 H1 e1 rep1 i1 q1=>h2 g M1 ρ env σ H1 Q rs vs rep1 i1 q1⟩
theorem nv {k:List R->Res R} (hc:ky X E (.type T) k) (hg:Gl X x) (hm:X.mg x=none) (hv:bootBuiltins x=some (.type T)) (ha:AH X E (e::es) fs) (hn:autoParam (x≠"__name__") OC._auto_1) (hdb:autoParam ((x==("__debug__" : Str))=false) OC._auto_1)
 (he:autoParam (starEach (e::es) X.env=(false,eval e X.env)::starEach es X.env) OH._auto_1) (hpl:autoParam ((backTo pos (starEach es X.env)).any (·.1)=false) OH._auto_1):PD X E (.Call (.Name x p) (e::es) [] pos) (uG k fs):=by
 obtain⟨r,h1,h2⟩:=hc;obtain⟨t,p1,s1⟩:=ha;exact⟨_,yQ h1 hg hm hv p1 hn hdb he hpl,λg M ρ env σ H Q rep p=>s1.oneE rep p λrs vs M1 H1 e1 rep1 i1 q1=>h2 g M1 ρ env σ H1 Q rs vs rep1 i1 q1⟩
def wB:List R->Res R
 | [r]=>match r.d with
  | .lst ds=>.ok (.val (.int ds.length) true [])
  | .tup ds=>.ok (.val (.int ds.length) true [])
  | .str z=>if z.length<=lim then .ok (.val (.int z.length) true []) else .stuck
  |_=>.stuck
 |_=>.stuck
theorem wC:ky X E (.builtin "len") wB:=by
 refine⟨_,call_len_seq.or sJ,λg M ρ env σ H Q rs vs rep i p=>?_⟩
 match rs,i,p with
 | [r],i,p=>
  obtain⟨v,w,rfl,i1,i2⟩:=i;cases i2;have i1:Is H (vmsk g M (bX [r]) ρ (dk [r])) r.d v:=i1;unfold wB at p;dsimp only at p;cases q:r.d with
  |lst ds=>rw[q]at p i1;obtain⟨a,ws,rfl,h1,h2⟩:=i1.rd;exact .inl ⟨a,ws,rfl,.inl (.inl h1),by rw[h2.length];exact p _ M H (Ext.refl _ _) rep rfl⟩
  |tup ds=>rw[q]at p i1;obtain⟨a,ws,rfl,h1,h2⟩:=i1;exact .inl ⟨a,ws,rfl,.inr (SqT.of h1),by rw[h2.length];exact p _ M H (Ext.refl _ _) rep rfl⟩
  |str z=>
   rw[q]at p i1;cases i1;by_cases hz:z.length<=lim
   .simp only[hz,MS]at p;exact .inr ⟨z,rfl,ku hz,p _ M H (Ext.refl _ _) rep rfl⟩
   .simp only[hz,Nd]at p;exact p.elim
  |_=>rw[q]at p;exact p.elim
 | [],_,p=>exact p.elim
 |_::_::_,_,p=>exact p.elim
def uH:List R->Res R
 | [r]=>match r.d with
  | .lst ds=>.ok (mj ds r.fr r.al)
  | .tup ds=>.ok (mj ds r.fr r.al)
  |_=>.stuck
 |_=>.stuck
theorem sY (h:vmsk g M (bX [r]) ρ (dk [r]) a):vmsk g M r.fr ρ r.al a:=by
 have e1:bX [r]=r.fr:=by simp[bX]
 have e2:dk [r]=r.al:=by simp[dk]
 rw[e1,e2]at h;exact h
theorem Dt:ky X E (.type "list") uH:=by
 refine⟨_,sK,λg M ρ env σ H Q rs vs rep i p=>?_⟩
 match rs,i,p with
 | [r],i,p=>
  obtain⟨v,w,rfl,i1,i2⟩:=i;cases i2;have i1:Is H (vmsk g M (bX [r]) ρ (dk [r])) r.d v:=i1;replace i1:=i1.weak λ_ z=>sY z;unfold uH at p;dsimp only at p;cases q:r.d with
  |lst ds=>rw[q]at p i1;obtain⟨a,ws,rfl,h1,h2⟩:=i1.rd;exact⟨a,ws,rfl,.inl (.inl h1),λl hl=>p.lst rep hl h2⟩
  |tup ds=>rw[q]at p i1;obtain⟨a,ws,rfl,h1,h2⟩:=i1;exact⟨a,ws,rfl,.inr (SqT.of h1),λl hl=>p.lst rep hl h2⟩
  |_=>rw[q]at p;exact p.elim
 | [],_,p=>exact p.elim
 |_::_::_,_,p=>exact p.elim
end
inductive Fl where
 |nx (env:En)|rt (r:R)|bk (env:En)|ct (env:En)|rm (r:R) (env:En)
structure Frz (M:Addr->Prop) (H:Hp) (M':Addr->Prop) (H':Hp):Prop where
 m:∀ a,M a->M' a
 h:∀ a o,H a=some o->(M a\/fixd o)->H' a=some o
theorem Frz.refl (M:Addr->Prop)(H:Hp):Frz M H M H:=⟨λ_ z=>z,λ_ _ e _=>e⟩
theorem Frz.trans {M M1 M2:Addr->Prop}(a:Frz M H M1 H1)(b:Frz M1 H1 M2 H2):Frz M H M2 H2:=⟨λx z=>b.m x (a.m x z),λx o e z=>b.h x o (a.h x o e z) (z.imp (a.m x) id)⟩
theorem Ext.frz (e:Ext M H M' H'):Frz M H M' H':=⟨e.m,λa o q _=>e.h a o q⟩
section
variable (mg:Str->Option OA)(E:XK)(g:Gd)(M:Addr->Prop)(H:Hp)(D:Ends)
def PostS:Res Fl->Prop
 | .stuck=>False
 | .exc c=>Dm mg E g c
 | .ok (.nx env)=>∀ σ M' ρ H',Frz M H M' H'->Rep g M' ρ env σ H'->D.nx σ H'
 | .ok (.bk env)=>∀ σ M' ρ H',Frz M H M' H'->Rep g M' ρ env σ H'->D.bk σ H'
 | .ok (.ct env)=>∀ σ M' ρ H',Frz M H M' H'->Rep g M' ρ env σ H'->D.ct σ H'
 | .ok (.rt r)=>∀ v M' H',Frz M H M' H'->Same g.H₀ H'->((∀ a,¬ g.Z a)->RetOk g H' v r)->(r.d.flat=true->Is H' (λ_=>False) r.d v)->D.rt v H'
 | .ok (.rm r env)=>∀ v σ M' ρ H0 H',Frz M H M' H'->Rep g M' ρ env σ H'->Same g.H₀ H0->ROk g M' ρ H0 H' v r->D.rt v H'
end
def Du (mg:Str->Option OA)(E:XK)(t:TS)(f:En->Res Fl):Prop:=∀ g M ρ env σ H D,Rep g M ρ env σ H->PostS mg E g M H D (f env)->t D σ H
def vZ (X:Cx)(E:XK)(st:Stmt)(f:En->Res Fl):Prop:=∃ t,PS X st t/\Du X.mg E t f
def qU (X:Cx)(E:XK)(st:List Stmt)(f:En->Res Fl):Prop:=∃ t,PSs X st t/\Du X.mg E t f
section
variable {mg:Str->Option OA}{E:XK}{g:Gd}{M M':Addr->Prop}{ρ:Pr}{env:En}{σ:St}{H H':Hp}{D:Ends}
theorem PostS.frz (e:Frz M H M' H')(p:PostS mg E g M H D r):PostS mg E g M' H' D r:=by
 cases r with
 |stuck=>exact p
 |exc c=>exact p
 |ok r=>cases r with
  |nx env=>exact λσ M2 ρ2 H2 e2=>p σ M2 ρ2 H2 (e.trans e2)
  |bk env=>exact λσ M2 ρ2 H2 e2=>p σ M2 ρ2 H2 (e.trans e2)
  |ct env=>exact λσ M2 ρ2 H2 e2=>p σ M2 ρ2 H2 (e.trans e2)
  |rt r=>exact λv M2 H2 e2=>p v M2 H2 (e.trans e2)
  |rm r env=>exact λv σ M2 ρ2 H0 H2 e2=>p v σ M2 ρ2 H0 H2 (e.trans e2)
theorem Snd.oneS {f:En->Res R}(h:Snd mg E t f)(rep:Rep g M ρ env σ H){K:R->Res Fl}(hp:PostS mg E g M H D ((f env).bind K))
 (k:∀ r v M' H',Ext M H M' H'->Rep g M' ρ env σ H'->ROk g M' ρ H H' v r->PostS mg E g M' H' D (K r)->Q v H'):t σ H Q:=by
 refine h g M ρ env σ H Q rep ?_;cases e:f env with
 |stuck=>rw[e]at hp;exact hp
 |exc c=>rw[e]at hp;exact hp
 |ok r=>rw[e]at hp;exact λv M1 H1 e1 rep1 ro=>k r v M1 H1 e1 rep1 ro (PostS.frz e1.frz hp)
theorem SndT.oneS {f:En->Res Bool}(h:SndT mg E t f)(rep:Rep g M ρ env σ H){K:Bool->Res Fl}{Q:Bool->Hp->Prop}(hp:PostS mg E g M H D ((f env).bind K))
 (k:∀ b M' H',Frz M H M' H'->Rep g M' ρ env σ H'->PostS mg E g M' H' D (K b)->Q b H'):t σ H Q:=by
 refine h g M ρ env σ H Q rep ?_;cases e:f env with
 |stuck=>rw[e]at hp;exact hp
 |exc c=>rw[e]at hp;exact hp
 |ok r=>rw[e]at hp;exact λM1 H1 e1 rep1=>k r M1 H1 e1.frz rep1 (PostS.frz e1.frz hp)
noncomputable def HR (ρ:Pr)(i:Nat):Pr:=λj a=>if j=i then False else ρ j a
theorem wD (h:j≠i):HR ρ i j=ρ j:=by funext a;unfold HR;rw[Kv h]
theorem pP (h:HR ρ i j a):j≠i/\ρ j a:=by
 unfold HR at h;by_cases e:j=i
 .rw[Ku e]at h;exact h.elim
 .rw[Kv e]at h;exact⟨e,h⟩
noncomputable def sZ (ρ:Pr)(i:Nat)(T:Addr->Prop):Pr:=λj a=>if j=i then T a else ρ j a
theorem gw (h:j≠i):sZ ρ i T j=ρ j:=by funext a;unfold sZ;rw[Kv h]
theorem jj:sZ ρ i T i=T:=by funext a;unfold sZ;rw[Ku rfl]
def frz1 (env:En)(i:Nat):En:=match env[i]? with
 |some (some (.own ds fr))=>env.set i (some (.val (.lst ds) fr))
 |some (some (.tre d))=>env.set i (some (.val d true))
 |some (some (.mes _))=>env.set i none
 |_=>env
def frz (env:En)(al:List Nat):En:=al.foldl frz1 env
theorem s_ (h:j≠i):(frz1 env i)[j]?=env[j]?:=by unfold frz1;split<;>first|rfl|exact Lq (LJ h)
theorem uI (i:Nat):(frz1 env i).length=env.length:=by unfold frz1;split<;>simp
theorem AU:∀(al:List Nat){env:En}{j:Nat},¬ j∈al->(frz env al)[j]?=env[j]?
 | [],_,_,_=>rfl
 |i::al,env,j,h=>by show(frz (frz1 env i) al)[j]?=_;rw[AU al λz=>h (by simp[z]),s_ λz=>h (by simp[z])]
theorem tf:∀(al:List Nat)(env:En),(frz env al).length=env.length
 | [],_=>rfl
 |i::al,env=>by show(frz (frz1 env i) al).length=_;rw[tf al,uI]
theorem Rep.frz1 (rep:Rep g M ρ env σ H)(i:Nat):Rep g (λa=>M a\/ρ i a) (HR ρ i) (frz1 env i) σ H where
 same:=rep.same
 froz:=λb hb=>hb.elim (rep.froz b) λz=>(rep.priv i b z).2.2.some
 inn:=λb hb=>hb.elim (rep.inn b) λz=>.inl (rep.priv i b z).2.1
 fl:=λb hb h0=>hb.elim (λz=>rep.fl b z h0) λz=>.inl (rep.priv i b z).2.2
 slot:=λj sl ej=>by
  by_cases hj:j=i
  .subst hj;cases e:env[j]? with
   |none=>
    have:L3.frz1 env j=env:=by unfold L3.frz1;rw[e]
    rw[this,e]at ej;cases ej
   |some o=>
    have hi:j<env.length:=(KA.mp e).1;cases o with
    |none=>
     have:L3.frz1 env j=env:=by unfold L3.frz1;rw[e]
     rw[this,e]at ej;cases ej
    |some s0=>
     obtain⟨v,ev,k⟩:=rep.slot j s0 e;cases s0 with
     |val d fr=>
      have:L3.frz1 env j=env:=by unfold L3.frz1;rw[e]
      rw[this,e]at ej;cases ej;exact⟨v,ev,Is.weak (λb z=>msk.mono (λ_=>.inl) z) k⟩
     |own ds fr=>
      have:L3.frz1 env j=env.set j (some (.val (.lst ds) fr)):=by unfold L3.frz1;rw[e]
      rw[this,Lb hi]at ej;cases ej;obtain⟨a,vs,rfl,h1,h2,h4⟩:=k;have ha:=(h2 a).mpr rfl;exact⟨_,ev,a,vs,rfl,.inl ⟨h1,.inr ha,λ_=>(rep.priv j a ha).2.1⟩,IsAll.weak (λb z=>msk.mono (λ_=>.inl) z) h4⟩
     |tre d=>
      have:L3.frz1 env j=env.set j (some (.val d true)):=by unfold L3.frz1;rw[e]
      rw[this,Lb hi]at ej;cases ej;exact⟨v,ev,Is.weak (λb z=>⟨.inr z,λ_=>(rep.priv j b z).2.1⟩) k⟩
     |mes d=>
      have:L3.frz1 env j=env.set j none:=by unfold L3.frz1;rw[e]
      rw[this,Lb hi]at ej;cases ej
  .rw[s_ hj]at ej;obtain⟨v,ev,k⟩:=rep.slot j sl ej;exact⟨v,ev,by rw[wD hj];exact SlOk.weak (λ_=>.inl) k⟩
 priv:=λj a h=>by obtain⟨hj,h⟩:=pP h;exact⟨λz=>z.elim (rep.priv j a h).1 λz=>hj (rep.apart j i a h z),(rep.priv j a h).2⟩
 apart:=λj k a h1 h2=>rep.apart j k a (pP h1).2 (pP h2).2
 ow:=λj a h=>by obtain⟨hj,h⟩:=pP h;have:=rep.ow j a h;unfold isOwn at this ⊢;rw[s_ hj];exact this
 len:=by rw[uI];exact rep.len
 zz:=rep.zz
theorem Rep.frz:∀(al:List Nat){env:En}{M:Addr->Prop}{ρ:Pr},Rep g M ρ env σ H->∃(M':Addr->Prop)(ρ':Pr),(∀ a,M a->M' a)/\Rep g M' ρ' (L3.frz env al) σ H/\(∀ i,i∈al->∀ a,ρ i a->M' a)/\(∀ j a,ρ' j a->ρ j a)/\(∀ j,¬ j∈al->ρ' j=ρ j)
 | [],env,M,ρ,rep=>⟨M,ρ,λ_ z=>z,rep,λ_ z=>absurd z (by simp),λ_ _ o=>o,λ_ _=>rfl⟩
 |i::al,env,M,ρ,rep=>by
  obtain⟨M2,ρ2,e2,rep2,o2,k2,l2⟩:=Rep.frz al (rep.frz1 i);refine⟨M2,ρ2,λa z=>e2 a (.inl z),rep2,λj hj a o=>?_,λj a o=>(pP (k2 j a o)).2,λj hj=>?_⟩
  .by_cases hji:j=i
   .exact e2 a (.inr (hji▸o))
   .exact o2 j ((KB.mp hj).resolve_left hji) a (by rw[wD hji];exact o)
  .rw[l2 j λz=>hj (by simp[z]),wD λz=>hj (by simp[z])]
theorem Is.frozen (rep:Rep g M ρ env σ H)(e:∀ a,M a->M' a)(hm:∀ i,i∈al->∀ a,ρ i a->M' a)(h:Is H (vmsk g M fr ρ al) d v):Is H (msk g M' fr) d v:=h.weak λa z=>z.elim (msk.mono e) λ⟨i,hi,o⟩=>⟨hm i hi a o,λ_=>(rep.priv i a o).2.1⟩
theorem Rep.put (rep:Rep g M ρ env σ H)(hi:i<env.length)(ok:SlOk g M T H v sl)(ht:∀ a,T a->¬ M a/\g.H₀ a=none/\Mu H a/\∀ j,j≠i->¬ ρ j a)(hO:autoParam (∀ a,T a->sl.isO=true) OG._auto_1) :
 Rep g M (sZ ρ i T) (env.set i (some sl)) (σ.set i (some v)) H:=by
 have hi2:i<σ.length:=by rw[<- rep.len];exact hi
 refine⟨rep.same,rep.froz,rep.inn,rep.fl,λj s ej=>?_,λj a h=>?_,λj k a h1 h2=>?_,λj a h=>?_,by rw[MO,MO];exact rep.len,rep.zz⟩
 .by_cases hj:j=i
  .subst hj;rw[Lb hi]at ej;cases ej;exact⟨v,Lb hi2,by rw[jj];exact ok⟩
  .rw[Lq (LJ hj)]at ej;obtain⟨w,ew,k⟩:=rep.slot j s ej;exact⟨w,by rw[Lq (LJ hj)];exact ew,by rw[gw hj];exact k⟩
 .by_cases hj:j=i
  .subst hj;rw[jj]at h;exact⟨(ht a h).1,(ht a h).2.1,(ht a h).2.2.1⟩
  .rw[gw hj]at h;exact rep.priv j a h
 .by_cases hj:j=i
  .by_cases hk:k=i
   .rw[hj,hk]
   .subst hj;rw[jj]at h1;rw[gw hk]at h2;exact absurd h2 ((ht a h1).2.2.2 k hk)
  .by_cases hk:k=i
   .subst hk;rw[jj]at h2;rw[gw hj]at h1;exact absurd h1 ((ht a h2).2.2.2 j hj)
   .rw[gw hj]at h1;rw[gw hk]at h2;exact rep.apart j k a h1 h2
 .unfold isOwn;by_cases hj:j=i
  .subst hj;rw[jj]at h;rw[Lb hi];exact hO a h
  .rw[gw hj]at h;rw[Lq (LJ hj)];exact rep.ow j a h
def put (env:En)(i:Nat):R->En
 | .new ds fr=>env.set i (some (.own ds fr))
 | .val d fr al=>(frz env al).set i (some (.val d fr))
 | .fre d=>env.set i (some (.tre d))
theorem Rep.store (rep:Rep g M ρ env σ H)(h0:Same g.H₀ H0)(hi:i<env.length)(h:ROk g M ρ H0 H v r):∃ M' ρ',Frz M H M' H/\Rep g M' ρ' (L3.put env i r) (σ.set i (some v)) H:=by
 cases r with
 |new ds fr=>obtain⟨a,vs,rfl,h1,h2,h3,h4,h5⟩:=h;exact⟨M,_,Frz.refl _ _,rep.put (sl:=.own ds fr) (T:=λb=>b=a) hi ⟨a,vs,rfl,h1,λ_=>Iff.rfl,h5⟩ λb e=>by subst e;exact⟨h2,h0.free h3,Mu.lst h1,λj _=>h4 j⟩⟩
 |val d fr al=>obtain⟨M1,ρ1,e1,rep1,o1,k1,_⟩:=Rep.frz al rep;exact⟨M1,_,⟨e1,λ_ _ e _=>e⟩,rep1.put (sl:=.val d fr) (T:=λ_=>False) (by rw[tf];exact hi) (Is.frozen rep e1 o1 h) (λ_ z=>z.elim) λ_ z=>z.elim⟩
 |fre d=>obtain⟨T,ht,is⟩:=h;exact⟨M,_,Frz.refl _ _,rep.put (sl:=.tre d) (T:=T) hi is λb z=>let ⟨a1,a2,a3,a4⟩:=ht b z;⟨a1,h0.free a2,a3,λj _=>a4 j⟩⟩
theorem Rep.writeO (hu:F6 u')(rep:Rep g M ρ env σ H)(o:ρ i a)(hi:i<env.length)(ev:σ[i]?=some (some v))(ok:SlOk g M (ρ i) (aB H a u') v sl)(hO:autoParam (sl.isO=true) OH._auto_1) :
 Frz M H M (aB H a u')/\Rep g M ρ (env.set i (some sl)) σ (aB H a u'):=by
 obtain⟨nm,n0,uo,ha,hmu⟩:=rep.priv i a o;have nfx:∀ u,H a=some u->¬ fixd u:=λu e z=>by rw[ha]at e;cases e;cases uo<;>first|exact z|exact hmu
 have kp:∀ b u,H b=some u->(M b\/fixd u)->aB H a u' b=some u:=λb u q z=>by
  rw[aa]
  .exact q
  .rintro rfl;rcases z with z|z
   .exact nm z
   .exact nfx u q z
 have km:∀(fr:Bool) b u,H b=some u->(msk g M fr b\/fixd u)->aB H a u' b=some u:=λfr b u q z=>kp b u q (z.imp (·.1) id);refine⟨⟨λ_ z=>z,kp⟩,λb u q=>?_,λb hb=>?_,rep.inn,λb hb h0=>?_,λj s ej=>?_,λj b h=>?_,rep.apart,λj b h=>?_,by rw[MO];exact rep.len,λc z e=>by
  by_cases hc:c=a
  .subst hc;rw[ac]at e;cases e
  .rw[aa hc]at e;exact rep.zz c z e⟩
 .rw[aa (λz=>by rw[z,n0]at q;cases q)];exact rep.same b u q
 .have nb:b≠a:=λz=>nm (by rw[<- z];exact hb);rw[aa nb];exact rep.froz b hb
 .have nb:b≠a:=λz=>nm (by rw[<- z];exact hb);exact(rep.fl b hb h0).same λo e=>by rw[aa nb];exact e
 .by_cases hj:j=i
  .subst hj;rw[Lb hi]at ej;cases ej;exact⟨v,ev,ok⟩
  .rw[Lq (LJ hj)]at ej;obtain⟨w,ew,k⟩:=rep.slot j s ej;refine⟨w,ew,?_⟩;have nj:∀ b,ρ j b->b≠a:=λb hb e=>hj (rep.apart j i a (e▸hb) o);cases s with
   |val d fr=>exact Is.mono (km fr) (λ_ _ _ z=>z) k
   |own ds' fr'=>obtain⟨b,ws,rfl,h1,h2,h4⟩:=k;exact⟨b,ws,rfl,by rw[aa (nj b ((h2 b).mpr rfl))];exact h1,h2,IsAll.mono (km fr') (λ_ _ _ z=>z) h4⟩
   |tre d=>
    refine Is.mono (λb u q z=>?_) (λ_ _ _ z=>z) k;rw[aa]
    .exact q
    .rcases z with z|z
     .exact nj b z
     .intro e;rw[e]at q;exact nfx u q z
   |mes d=>refine IsSh.mono (λb u q z=>kp b u q (.inr z)) (λb ws z q=>⟨ws,by rw[aa (nj b z)];exact q⟩) (λ_ z=>z) k
 .obtain⟨b1,b2,b3⟩:=rep.priv j b h;refine⟨b1,b2,?_⟩;by_cases e:b=a
  .exact⟨u',by rw[e,ac],hu⟩
  .exact b3.same λo z=>by rw[aa e];exact z
 .unfold isOwn;by_cases hj:j=i
  .subst hj;rw[Lb hi];exact hO
  .rw[Lq (LJ hj)];exact rep.ow j b h
theorem Rep.write (rep:Rep g M ρ env σ H)(o:ρ i a)(hi:i<env.length)(ev:σ[i]?=some (some v))(ok:SlOk g M (ρ i) (aB H a (.lst vs')) v sl)(hO:autoParam (sl.isO=true) OH._auto_1) :
 Frz M H M (aB H a (.lst vs'))/\Rep g M ρ (env.set i (some sl)) σ (aB H a (.lst vs')):=rep.writeO (u':=.lst vs') True.intro o hi ev ok hO
end
section
variable {X:Cx}{E:XK}
noncomputable def lB:En->Res Fl:=λenv=>.ok (.nx env)
def bY (f k:En->Res Fl):En->Res Fl:=λenv=>(f env).bind λr=>match r with
 | .nx bo=>k bo
 |r=>.ok r
theorem cj:qU X E [] lB:=⟨_,lY,λg M ρ env σ H D rep p=>p σ M ρ H (Frz.refl _ _) rep⟩
theorem aD {st:Stmt}{f:En->Res Fl}(h:vZ X E st f):qU X E [st] f:=let ⟨t,a,b⟩:=h;⟨t,aO a,b⟩
theorem aj {st:Stmt}{rest:List Stmt}{f k:En->Res Fl}(h1:vZ X E st f)(h2:qU X E rest k):qU X E (st::rest) (bY f k):=by
 obtain⟨t,a,b⟩:=h1;obtain⟨u,c,d⟩:=h2;refine⟨_,aL a c,λg M ρ env σ H D rep p=>b g M ρ env σ H _ rep ?_⟩;unfold bY at p;cases q:f env with
 |stuck=>rw[q]at p;exact p
 |exc c=>rw[q]at p;exact p
 |ok r=>
  rw[q]at p;cases r with
  |nx bo=>exact λσ' M' ρ' H' e rep'=>d g M' ρ' bo σ' H' D rep' (PostS.frz e p)
  |bk bo=>exact p
  |ct bo=>exact p
  |rt r=>exact p
  |rm r bo=>exact p
def v4 (c:En->Res Bool)(a b:En->Res Fl):En->Res Fl:=λenv=>(c env).bind λk=>if k then a env else b env
theorem ga (hc:uD X E c fc)(ha:qU X E a fa)(hb:qU X E b fb):vZ X E (.If c a b pos) (v4 fc fa fb):=by
 obtain⟨tc,p1,s1⟩:=hc;obtain⟨ta,p2,s2⟩:=ha;obtain⟨tb,p3,s3⟩:=hb;refine⟨_,ri p1 p2 p3,λg M ρ env σ H D rep p=>s1.oneS rep p λb M' H' e rep' p'=>?_⟩;cases b with
 |true=>exact sN (s2 g M' ρ env σ H' D rep' p')
 |false=>exact uw (s3 g M' ρ env σ H' D rep' p')
def jC (f:En->Res R):En->Res Fl:=λenv=>(f env).bind λr=>.ok (.rt r)
theorem ROk.ret (rep:Rep g M ρ env σ H)(h0:Same g.H₀ H0)(h:ROk g M ρ H0 H v r)(hz:∀ a,¬ g.Z a):RetOk g H v r:=by
 have mu:∀ a,M a->g.H₀ a=none->Mu H a:=λa h1 h2=>(rep.fl a h1 h2).elim id λz=>(hz a z.1).elim;have key:∀{fr:Bool}{a:Addr},msk g M fr a->nl g.H₀ H a\/(fr=false/\g.Ma a):=λ{fr a} z=>by
  cases fr with
  |true=>exact .inl ⟨z.2 rfl,mu a z.1 (z.2 rfl)⟩
  |false=>exact(rep.inn a z.1).imp (λw=>⟨w,mu a z.1 w⟩) λw=>⟨rfl,w⟩
 cases r with
 |val d fr al=>exact Is.weak (λa z=>z.elim key λ⟨i,_,o⟩=>.inl (rep.priv i a o).2) h
 |new ds fr=>obtain⟨a,vs,rfl,h1,h2,h3,h4,h5⟩:=h;exact⟨a,vs,rfl,h1,h0.free h3,IsAll.weak (λb z=>⟨λe=>h2 (e▸z.1),key z⟩) h5⟩
 |fre d=>obtain⟨T,ht,is⟩:=h;exact Is.weak (λa z=>let ⟨_,a2,a3,_⟩:=ht a z;⟨h0.free a2,a3⟩) is
theorem ROk.flatIs (h:ROk g M ρ H0 H v r)(hf:r.d.flat=true):Is H (λ_=>False) r.d v:=by
 cases r with
 |val d fr al=>exact Is.flat hf h
 |new ds fr=>simp[D.flat,R.d]at hf
 |fre d=>obtain⟨T,_,is⟩:=h;exact Is.flat hf is
theorem ca (h:PD X E e f):vZ X E (.Return (some e) pos) (jC f):=by obtain⟨t,p1,s1⟩:=h;exact⟨_,mZ p1,λg M ρ env σ H D rep p=>s1.oneS rep p λr v M' H' e rep' ro p'=>p' v M' H' (Frz.refl _ _) rep'.same (λhz=>ro.ret rep' rep.same hz) λhf=>ro.flatIs hf⟩
def iL (i:Nat)(f:En->Res R):En->Res Fl:=λenv=>(f env).bind λr=>if i<env.length then .ok (.nx (put env i r)) else .stuck
theorem xN (s:Snd mg E t f):Du mg E (o9 t (bv i)) (iL i f):=by
 intro g M ρ env σ H D rep p;refine s.oneS rep p λr v M' H' e rep' ro p'=>?_;by_cases hi:i<env.length
 .rw[Ku hi]at p';obtain⟨M2,ρ2,e2,rep2⟩:=rep'.store rep.same hi ro;exact p' _ M2 ρ2 H' e2 rep2
 .rw[Kv hi]at p';exact p'.elim
theorem bZ (hN:X.N.Nodup)(hi:X.N[i]?=some x)(hx:Fy X.env.scope x)(h:PD X E e f)(hs:autoParam (swapsWith e (some (.Name x pos')) pos.line X.env=pure false) OH._auto_1)
 (hf:autoParam (X.fn x=true\/X.env.scope.names.lookup x=some .local) OD._auto_1):vZ X E (.Assign [.Name x pos'] e pos) (iL i f):=by
 obtain⟨t,p1,s1⟩:=h;exact⟨_,jL hN hi hx p1 hs hf,xN s1⟩
def pQ (env:En)(i:Nat):Option (List D×Bool):=match env[i]? with
 |some (some (.own ds fr))=>some (ds,fr)
 |some (some (.tre (.lst ds)))=>some (ds,true)
 |_=>none
mutual
noncomputable def D.sz:D->Nat
 | .tup ds=>D.szs ds+1
 | .lst ds=>D.szs ds+1
 | .dic _ ds=>D.szs ds+1
 |_=>0
noncomputable def D.szs:List D->Nat
 | []=>0
 |d::ds=>d.sz+D.szs ds+1
end
section
variable {H:Hp}{m m':Addr->Prop}
mutual
theorem Is.avoid (ha:Is H m' e (.ref a)):∀{d:D}{v:V},d.sz<e.sz->Is H m d v->Is H (λb=>m b/\b≠a) d v
 | .non,_,_,h=>h
 | .bl _,_,_,h=>h
 | .int _,_,_,h=>h
 | .str _,_,_,h=>h
 | .tup ds,_,hs,h=>by obtain⟨b,vs,rfl,h1,h2⟩:=h;simp only[D.sz]at hs;exact⟨b,vs,rfl,h1,IsAll.avoid ha (by lia) h2⟩
 | .lst ds,_,hs,h=>by
  have h':=h;obtain⟨b,vs,rfl,h1,h2⟩:=h;have nb:b≠a:=λz=>by subst z;have q:=Is.inj h' ha;rw[q]at hs;lia
  simp only[D.sz]at hs;refine⟨b,vs,rfl,?_,IsAll.avoid ha (by lia) h2⟩;rcases h1 with⟨h1,h3⟩|⟨o,h1,h3⟩
  .exact .inl ⟨h1,h3,nb⟩
  .exact .inr ⟨o,h1,h3,nb⟩
 | .dic ks ds,_,hs,h=>by
  have h':=h;obtain⟨b,kvs,rfl,h1,h2⟩:=h;have nb:b≠a:=λz=>by subst z;have q:=Is.inj h' ha;rw[q]at hs;lia
  simp only[D.sz]at hs;exact⟨b,kvs,rfl,⟨h1.1,h1.2,nb⟩,IsAll.avoid ha (by lia) h2⟩
theorem IsAll.avoid (ha:Is H m' e (.ref a)):∀{ds:List D}{vs:List V},D.szs ds<e.sz->IsAll H m ds vs->IsAll H (λb=>m b/\b≠a) ds vs
 | [],_,_,h=>h
 |d::ds,_,hs,h=>by obtain⟨v,r,rfl,h1,h2⟩:=h;simp only[D.szs]at hs;exact⟨v,r,rfl,Is.avoid ha (by lia) h1,IsAll.avoid ha (by lia) h2⟩
end
end
theorem Rep.toOwn (rep:Rep g M ρ env σ H)(e:pQ env i=some (ds,fr)) :
 ∃(M':Addr->Prop)(ρ':Pr)(a:Addr)(vs:List V),(∀ b,M b->M' b)/\Rep g M' ρ' (env.set i (some (.own ds fr))) σ H/\σ[i]?=some (some (.ref a))/\H a=some (.lst vs)/\(∀ b,ρ' i b↔b=a)/\IsAll H (msk g M' fr) ds vs/\i<env.length/\(∀ j b,ρ' j b->ρ j b)/\(∀ j,j≠i->ρ' j=ρ j):=by
 unfold pQ at e;cases q:env[i]? with
 |none=>rw[q]at e;cases e
 |some o=>
  have hi:i<env.length:=(KA.mp q).1;have hself:env.set i (env[i])=env:=NR hi;cases o with
  |none=>rw[q]at e;cases e
  |some sl=>
   obtain⟨v,ev,k⟩:=rep.slot i sl q;rw[q]at e;cases sl with
   |val d f=>cases e
   |mes d=>cases e
   |own ds' f'=>
    cases e;obtain⟨a,vs,rfl,h1,h2,h4⟩:=k;have eq:env.set i (some (.own ds fr))=env:=by
     have:env[i]=some (.own ds fr):=by have:=(KA.mp q).2;exact this
     rw[<- this];exact hself
    rw[eq];exact⟨M,ρ,a,vs,λ_ z=>z,rep,ev,h1,h2,h4,hi,λ_ _ z=>z,λ_ _=>rfl⟩
   |tre d=>
    cases d with
    |lst ds'=>
     cases e;have k':=k;obtain⟨a,vs,rfl,h1,h2⟩:=k;have pa:ρ i a:=by rcases h1 with⟨_,z⟩|⟨_,_,z⟩<;>exact z
     obtain⟨pm,p0,uo,pl,pmu⟩:=rep.priv i a pa;have hl:H a=some (.lst vs):=by
      rcases h1 with⟨h1,_⟩|⟨o,h1,_⟩
      .exact h1
      .rw[h1]at pl;cases pl;exact pmu.elim
     have inner:IsAll H (λb=>ρ i b/\b≠a) ds vs:=IsAll.avoid k' (by simp only[D.sz];lia) h2
     let M':Addr->Prop:=λb=>M b\/(ρ i b/\b≠a)
     let ρ':Pr:=sZ ρ i λb=>b=a
     have rr:Rep g M' ρ' (env.set i (some (.own ds true))) (σ.set i (some (.ref a))) H:=by
      have r1:Rep g M' (λj b=>if j=i then b=a else ρ j b) (env.set i (some (.own ds true))) σ H:=by
       refine⟨rep.same,λb hb=>hb.elim (rep.froz b) λz=>?_,λb hb=>hb.elim (rep.inn b) λz=>.inl (rep.priv i b z.1).2.1,λb hb h0=>hb.elim (λz=>rep.fl b z h0) λz=>.inl (rep.priv i b z.1).2.2,λj s ej=>?_,λj b h=>?_,λj k b w1 w2=>?_,λj b h=>?_,by rw[MO];exact rep.len,rep.zz⟩
       .exact(rep.priv i b z.1).2.2.some
       .by_cases hj:j=i
        .subst hj;rw[Lb hi]at ej;cases ej;exact⟨_,ev,a,vs,rfl,hl,λb=>by simp,IsAll.weak (λb z=>⟨.inr z,λ_=>(rep.priv j b z.1).2.1⟩) inner⟩
        .rw[Lq (LJ hj)]at ej;obtain⟨v',ev',k2⟩:=rep.slot j s ej;have eT:(λb=>if j=i then b=a else ρ j b)=ρ j:=by funext b;rw[Kv hj]
         exact⟨v',ev',by show SlOk g M' (λb=>if j=i then b=a else ρ j b) H v' s;rw[eT];exact SlOk.weak (λ_=>.inl) k2⟩
       .by_cases hj:j=i
        .rw[Ku hj]at h;subst h;exact⟨λz=>z.elim pm λz=>z.2 rfl,p0,Mu.lst hl⟩
        .rw[Kv hj]at h;exact⟨λz=>z.elim (rep.priv j b h).1 λz=>hj (rep.apart j i b h z.1),(rep.priv j b h).2⟩
       .by_cases hj:j=i
        .by_cases hk:k=i
         .rw[hj,hk]
         .rw[Ku hj]at w1;rw[Kv hk]at w2;subst w1;exact absurd (rep.apart k i b w2 pa) hk
        .by_cases hk:k=i
         .rw[Ku hk]at w2;rw[Kv hj]at w1;subst w2;exact absurd (rep.apart j i b w1 pa) hj
         .rw[Kv hj]at w1;rw[Kv hk]at w2;exact rep.apart j k b w1 w2
       .unfold isOwn;by_cases hj:j=i
        .subst hj;rw[Lb hi];rfl
        .rw[Kv hj]at h;rw[Lq (LJ hj)];exact rep.ow j b h
      have hi2:i<σ.length:=by rw[<- rep.len];exact hi
      have es:σ.set i (some (.ref a))=σ:=by have:σ[i]=some (.ref a):=(KA.mp ev).2;rw[<- this];exact NR hi2
      rw[es];exact r1
     have hi2:i<σ.length:=by rw[<- rep.len];exact hi
     have es:σ.set i (some (.ref a))=σ:=by have:σ[i]=some (.ref a):=(KA.mp ev).2;rw[<- this];exact NR hi2
     rw[es]at rr;refine⟨M',ρ',a,vs,λ_=>.inl,rr,ev,hl,λb=>by show sZ ρ i (λb=>b=a) i b↔b=a;rw[jj],IsAll.weak (λb z=>⟨.inr z,λ_=>(rep.priv i b z.1).2.1⟩) inner,hi,λj b z=>?_,λj hj=>gw hj⟩;by_cases hj:j=i
     .subst hj;have z:sZ ρ j (λb=>b=a) j b:=z;rw[jj]at z;rw[z];exact pa
     .have z:sZ ρ i (λb=>b=a) j b:=z;rw[gw hj]at z;exact z
    |_=>cases e
def wF (i:Nat)(f:En->Res R):En->Res Fl:=λenv=>match pQ env i with
 |some (ds,fr)=>(f env).bind λr=>if ds.length<lim/\¬ i∈r.al then .ok (.nx ((frz env r.al).set i (some (.own (ds++[r.d]) (fr&&r.fr))))) else .stuck
 |none=>.stuck
theorem tj (ha:PE X a (aw i))(h:PD X E e f)
 (hbase:autoParam (attributeBase a "append" X.env (eval a X.env)=eval a X.env) OH._auto_1)
 (hfew:autoParam (((backTo cpos (starEach [e] X.env)).all (λx=>!x.1)&&(backToKw cpos (keywordEach [] X.env)).all (λx=>x.1.isSome)
   && decide (([e]:List Expr).length+([]:List Keyword).length+(if ([]:List Keyword).isEmpty then 0 else 1)<30))=true) OH._auto_1)
 (hline:autoParam ((apos.endLine==cpos.line)=true) OH._auto_1) (hs:autoParam (starEach [e] X.env=(false,eval e X.env)::starEach [] X.env) OH._auto_1) (hplain:autoParam ((backTo cpos (starEach [] X.env)).any (·.1)=false) OH._auto_1)
 (hsw:autoParam (swapsWith (.Call (.Attribute a "append" apos) [e] [] cpos) none pos.line X.env=pure false) OH._auto_1) :
 vZ X E (.Expr (.Call (.Attribute a "append" apos) [e] [] cpos) pos) (wF i f):=by
 obtain⟨t,p1,s1⟩:=h;refine⟨_,ci (kf Mf L8 L9 gn ha (ag p1 aA hs) hbase hfew hline hs hplain) hsw,λg M ρ env σ H D rep p=>?_⟩;unfold wF at p;cases e1:pQ env i with
 |none=>rw[e1]at p;exact p.elim
 |some o=>
  obtain⟨ds,fr⟩:=o;rw[e1]at p;dsimp only at p;obtain⟨M0,ρ0,l,vs,m0,rep0,ev,k1,k2,k4,hi,_⟩:=rep.toOwn e1;refine⟨_,ev,.inl ⟨rfl,vs,SqL.of k1⟩,s1.oneS rep p λr y M' H' e rep' ro p'=>?_⟩;by_cases hc:ds.length<lim/\¬ i∈r.al
  .rw[Ku hc]at p';obtain⟨M1,x1,x1m,rep1,is1⟩:=ro.is rep' e rep.same;obtain⟨M2,ρ2,x2,rep2,o2,k5,k6⟩:=Rep.frz r.al rep1;have is2:Is H' (msk g M2 r.fr) r.d y:=Is.frozen rep1 x2 o2 is1;have e2:pQ (frz env r.al) i=some (ds,fr):=by unfold pQ;rw[AU _ hc.2];exact e1
   obtain⟨M3,ρ3,l3,vs3,m3,rep3,ev3,j1,j2,j4,hi3,_⟩:=rep2.toOwn e2;rw[ev]at ev3;cases ev3;have hl:H' l=some (.lst vs):=e.h _ _ k1;rw[hl]at j1;cases j1;have pl:ρ3 i l:=(j2 l).mpr rfl;obtain⟨nl3,_⟩:=rep3.priv i l pl;have is4:IsAll H' (msk g M3 (fr&&r.fr)) (ds++[r.d]) (vs++[y]):=by refine IsAll.snoc (IsAll.weak (λb z=>⟨z.1,λq=>z.2 (by cases fr<;>simp_all)⟩) j4) (Is.weak (λb z=>⟨m3 b z.1,λq=>z.2 (by cases fr<;>simp_all)⟩) is2)
   have kp:∀ b u,H' b=some u->(msk g M3 (fr&&r.fr) b\/fixd u)->aB H' l (.lst (vs++[y])) b=some u:=λb u q z=>by
    rw[aa]
    .exact q
    .rintro rfl;rcases z with z|z
     .exact nl3 z.1
     .rw[hl]at q;cases q;exact z
   obtain⟨f1,rep4⟩:=rep3.write (sl:=.own (ds++[r.d]) (fr&&r.fr)) (vs':=vs++[y]) pl (by rw[MO];exact hi3) ev ⟨l,vs++[y],rfl,ac,j2,IsAll.mono kp (λ_ _ _ z=>z) is4⟩;rw[List.set_set]at rep4;refine⟨l,vs,y,rfl,rfl,hl,by rw[k4.length];exact sV hc.1,?_⟩;exact p' σ M3 ρ3 _ (Frz.trans ⟨λa z=>m3 a (x2 a (x1m a z)),λ_ _ q _=>q⟩ f1) rep4
  .rw[Kv hc]at p';exact p'.elim
end
def Gh (ix:List Nat)(t:TG)(asg:D->Bool->En->Option En):Prop:=∀(g:Gd)(M:Addr->Prop)(ρ:Pr)(env bo:En)(σ:St)(H:Hp)(d:D)(fr:Bool)(v:V)(Q:St->Hp->Prop),
 Rep g M ρ env σ H->Is H (msk g M fr) d v->asg d fr env=some bo->(∀(σ':St)(ρ':Pr),Rep g M ρ' bo σ' H->(∀ j,¬ j∈ix->σ'[j]?=σ[j]?)->(∀ j a,ρ' j a->ρ j a)->Q σ' H)->t v σ H Q
def HS (ix:List Nat)(t:EN)(asg:List D->Bool->En->Option En):Prop:=∀(g:Gd)(M:Addr->Prop)(ρ:Pr)(env bo:En)(σ:St)(H:Hp)(ds:List D)(fr:Bool)(vs:List V)(Q:St->Hp->Prop),
 Rep g M ρ env σ H->IsAll H (msk g M fr) ds vs->asg ds fr env=some bo->(∀(σ':St)(ρ':Pr),Rep g M ρ' bo σ' H->(∀ j,¬ j∈ix->σ'[j]?=σ[j]?)->(∀ j a,ρ' j a->ρ j a)->Q σ' H)->t vs σ H Q
def z4 (X:Cx)(ix:List Nat)(tg:Expr)(asg:D->Bool->En->Option En):Prop:=∃ t,PG X tg t/\Gh ix t asg
def Dv (X:Cx)(ix:List Nat)(ts:List Expr)(asg:List D->Bool->En->Option En):Prop:=∃ t,FH X ts t/\HS ix t asg
section
variable {X:Cx}{E:XK}
def gN (i:Nat):D->Bool->En->Option En:=λd fr env=>if i<env.length then some (env.set i (some (.val d fr))) else none
theorem nw:Gh [i] (bv i) (gN i):=by
 intro g M ρ env bo σ H d fr v Q rep is e k;unfold gN at e;by_cases hi:i<env.length
 .rw[Ku hi]at e;cases e;exact k _ _ (rep.put (sl:=.val d fr) (T:=λ_=>False) hi is (λ_ z=>z.elim) λ_ z=>z.elim) (λj hj=>Lq λe=>hj (by simp[e])) λj a z=>by
   by_cases hj:j=i
   .subst hj;rw[jj]at z;exact z.elim
   .rw[gw hj]at z;exact z
 .rw[Kv hi]at e;cases e
theorem aI (hN:X.N.Nodup)(hi:X.N[i]?=some x)(hx:Fy X.env.scope x)(hf:autoParam (X.fn x=true\/X.env.scope.names.lookup x=some .local) OD._auto_1):z4 X [i] (.Name x pos) (gN i):=⟨_,bw hN hi hx hf,nw⟩
noncomputable def dE:List D->Bool->En->Option En:=λds _ env=>match ds with
 | []=>some env
 |_=>none
def aF (f:D->Bool->En->Option En)(fs:List D->Bool->En->Option En):List D->Bool->En->Option En:=λds fr env=>match ds with
 |d::r=>(f d fr env).bind λbo=>fs r fr bo
 | []=>none
theorem fU:Dv X [] [] dE:=⟨_,gu,λg M ρ env bo σ H ds fr vs Q rep is e k=>by
 cases ds with
 |nil=>cases e;cases is;exact⟨rfl,k σ ρ rep (λ_ _=>rfl) λ_ _ z=>z⟩
 |cons d ds=>cases e⟩
theorem aP (h1:z4 X ix e f)(h2:Dv X jx es fs)
 (hs:∀ t,PG X e t->∀ u,FH X es u->FH X (e::es) (dG t u)):Dv X (ix++jx) (e::es) (aF f fs):=by
 obtain⟨t,p1,s1⟩:=h1;obtain⟨u,p2,s2⟩:=h2;refine⟨_,hs t p1 u p2,λg M ρ env bo σ H ds fr vs Q rep is e k=>?_⟩;cases ds with
 |nil=>cases e
 |cons d ds=>
  obtain⟨v,r,rfl,i1,i2⟩:=is;unfold aF at e;dsimp only at e;cases q:f d fr env with
  |none=>rw[q]at e;cases e
  |some jz=>rw[q]at e;refine⟨v,r,rfl,s1 g M ρ env jz σ H d fr v _ rep i1 q λσ1 ρ1 rep1 c1 d1=>?_⟩;exact s2 g M ρ1 jz bo σ1 H ds fr r Q rep1 i2 e λσ2 ρ2 rep2 c2 d2=>k σ2 ρ2 rep2 (λj hj=>(c2 j λz=>hj (by simp[z])).trans (c1 j λz=>hj (by simp[z]))) λj a z=>d1 j a (d2 j a z)
def gT (n:Nat)(fs:List D->Bool->En->Option En):D->Bool->En->Option En:=λd fr env=>match d with
 | .tup ds=>if ds.length=n then fs ds fr env else none
 |_=>none
theorem gx (hc:X.calm=true)(h:Dv X ix es fs)(hn:autoParam ((assignEach es X.env).length=n) OH._auto_1)(hst:autoParam ((assignEach es X.env).findIdx? (·.1)=none) OH._auto_1):z4 X ix (.Tuple es k pos) (gT n fs):=by
 obtain⟨t,p1,s1⟩:=h;refine⟨_,jp hc p1 hn hst,λg M ρ env bo σ H d fr v Q rep is e kk=>?_⟩;unfold gT at e;cases d with
 |tup ds=>
  obtain⟨a,vs,rfl,h1,h2⟩:=is;dsimp only at e;by_cases hl:ds.length=n
  .rw[Ku hl]at e;exact⟨a,vs,rfl,SqT.of h1,h2.length.trans hl,s1 g M ρ env bo σ H ds fr vs Q rep h2 e kk⟩
  .rw[Kv hl]at e;cases e
 |_=>cases e
def wG (f:En->Res R)(asg:D->Bool->En->Option En):En->Res Fl:=λenv=>(f env).bind λr=>match asg r.d r.fr (frz env r.al) with
 |some bo=>.ok (.nx bo)
 |none=>.stuck
theorem ml (he:PD X E e f)(hg:z4 X ix tg asg)(hs:autoParam (swapsWithSole [tg] e pos.line X.env=pure false) OH._auto_1)(hw:autoParam (swappedStores [tg] e X.env=pure none) OH._auto_1)
 (h1:autoParam ((assignEach [tg] X.env).map (·.2)=[assign tg X.env]) OH._auto_1):vZ X E (.Assign [tg] e pos) (wG f asg):=by
 obtain⟨t,p1,s1⟩:=he;obtain⟨u,p2,s2⟩:=hg;refine⟨_,FI p1 p2 hs hw h1,λg M ρ env σ H D rep p=>s1.oneS rep p λr v M' H' e rep' ro p'=>?_⟩;obtain⟨M1,x1,x1m,rep1,is1⟩:=ro.is rep' e rep.same;obtain⟨M2,ρ2,x2,rep2,o2,_,_⟩:=Rep.frz r.al rep1;have is2:Is H' (msk g M2 r.fr) r.d v:=Is.frozen rep1 x2 o2 is1;cases q:asg r.d r.fr (frz env r.al) with
 |none=>simp only[q]at p';exact p'.elim
 |some bo=>simp only[q]at p';exact s2 g M2 ρ2 _ bo σ H' r.d r.fr v _ rep2 is2 q λσ' ρ' rep3 _ _=>p' σ' M2 ρ' H' ⟨λa z=>x2 a (x1m a z),λ_ _ q _=>q⟩ rep3
end
structure Src where
 xs:List D
 fr:Bool
 al:List Nat
structure Walk (J:It) (m:Addr->Prop) (H:Hp) (xs:List D):Prop where
 go:∀ H' i d,(∀ a o,H a=some o->(m a\/fixd o)->H' a=some o)->xs[i]?=some d->J.go i H'/\∀ x H'',J.yld i H' x H''->Same H' H''/\Is H'' m d x
 stop:∀ H',(∀ a o,H a=some o->(m a\/fixd o)->H' a=some o)->J.stop xs.length H'
theorem Walk.weak (w:Walk J m H xs)(h:∀ a,m a->m' a):Walk J m' H xs:=⟨λH' i d k e=>let ⟨a,b⟩:=w.go H' i d (λa o q z=>k a o q (z.imp (h a) id)) e;⟨a,λx H'' y=>let ⟨c,d⟩:=b x H'' y;⟨c,d.weak h⟩⟩,λH' k=>w.stop H' λa o q z=>k a o q (z.imp (h a) id)⟩
def PostI (mg:Str->Option OA)(E:XK)(g:Gd)(M:Addr->Prop)(ρ:Pr)(env:En)(σ:St)(H:Hp)(R:It->Hp->Prop):Res Src->Prop
 | .stuck=>False
 | .exc c=>Dm mg E g c
 | .ok s=>∀ J M' H',Ext M H M' H'->Rep g M' ρ env σ H'->Walk J (vmsk g M' s.fr ρ s.al) H' s.xs->R J H'
def HU (mg:Str->Option OA)(E:XK)(wi:TI)(f:En->Res Src):Prop:=∀ g M ρ env σ H R,Rep g M ρ env σ H->PostI mg E g M ρ env σ H R (f env)->wi σ H R
def HV (X:Cx)(E:XK)(tg iter:Expr)(f:En->Res Src):Prop:=∃ wi,PI X tg iter wi/\HU X.mg E wi f
section
variable {X:Cx}{E:XK}{tg:Expr}
def JP (K:Oy)(tl:TE):TI:=λσ H R=>tl σ H λx H1=>∃ a,x=.ref a/\(((∃ xs,SqL K H1 a xs)/\R (vY K a) H1)\/((∃ xs,SqT K H1 a xs)/\R (Jx K a) H1))
theorem Gj (hl:PE X l tl):PI X tg l (JP X.K tl):=by
 intro pins s σ H R I h;refine bW (hl pins s σ H _ I h) λv s1 ⟨x,H1,I1,r1,q1⟩=>?_;obtain⟨a,e,q⟩:=q1;subst e;cases r1;rcases q with⟨⟨xs,hq⟩,q⟩|⟨⟨xs,hq⟩,q⟩
 .obtain⟨its,rv,p,hz⟩:=I1.list hq;refine Nc p.isList ?_;refine⟨s1.heap.objs.size,[s1.heap.objs.size],_,_,H1,rfl,I1.kept (t':=s1.toks) λb o e=>Ks _ e,rj a _,⟨_,KF _ rfl,rfl,rfl⟩,λb hb=>?_,q⟩;have e:b=s1.heap.objs.size:=by simpa using hb
  subst e;exact I1.fpOk (Kq _) (I1.hok.fresh (Kq _))
 .obtain⟨its,rv,p,hz⟩:=I1.tuple hq;refine wpAny_pyIter_tuple (show s1.heap.IsTuple a its.toArray from p) ?_;refine⟨s1.heap.objs.size,[s1.heap.objs.size],_,_,H1,rfl,I1.kept (t':=s1.toks) λb o e=>Ks _ e,v5 a _,⟨_,KF _ rfl,rfl,rfl⟩,λb hb=>?_,q⟩;have e:b=s1.heap.objs.size:=by simpa using hb
  subst e;exact I1.fpOk (Kq _) (I1.hok.fresh (Kq _))
theorem y8 {K:Oy}{a:Addr}{m:Addr->Prop}(h:(H a=some (.lst vs)/\m a)\/∃ o,H a=some (.frz o (.lst vs))/\m a)(is:IsAll H m ds vs):Walk (vY K a) m H ds:=by
 have st:∀ H',(∀ a o,H a=some o->(m a\/fixd o)->H' a=some o)->SqL K H' a vs:=λH' k=>by
  rcases h with⟨h,hm⟩|⟨o,h,_⟩
  .exact .inl (.inl (k a _ h (.inl hm)))
  .exact .inl (.inr ⟨o,k a _ h (.inr True.intro)⟩)
 refine⟨λH' i d k e=>?_,λH' k=>⟨vs,st H' k,by rw[is.length];exact Kq _⟩⟩;obtain⟨v,ev,iv⟩:=(is.mono k λ_ _ _ z=>z:IsAll H' m ds vs).get e;refine⟨⟨vs,v,st H' k,ev⟩,λx H'' y=>?_⟩;obtain⟨rfl,y⟩:=y;have:=y vs (st _ k);rw[ev]at this;cases this;exact⟨Same.refl _,iv⟩
theorem AV {K:Oy}{a:Addr}{m:Addr->Prop}(h:H a=some (.tup vs))(is:IsAll H m ds vs):Walk (Jx K a) m H ds:=by have st:∀ H',(∀ a o,H a=some o->(m a\/fixd o)->H' a=some o)->SqT K H' a vs:=λH' k=>SqT.of (k a _ h (.inr True.intro));refine⟨λH' i d k e=>?_,λH' k=>⟨vs,st H' k,by rw[is.length];exact Kq _⟩⟩;obtain⟨v,ev,iv⟩:=(is.mono k λ_ _ _ z=>z:IsAll H' m ds vs).get e;refine⟨⟨vs,v,st H' k,ev⟩,λx H'' y=>?_⟩;obtain⟨rfl,y⟩:=y;have:=y vs (st _ k);rw[ev]at this;cases this;exact⟨Same.refl _,iv⟩
noncomputable def j7 (lo:Int)(n:Nat):List D:=(List.range n).map λk=>.int (lo+(k:Nat))
theorem wH (lo:Int)(n:Nat):Walk (Jn lo n) m H (j7 lo n):=by
 refine⟨λH' i d k e=>?_,λH' k=>by show n<=(j7 lo n).length;simp[j7]⟩;have hi:i<n:=by have:=(KA.mp e).1;simpa[j7] using this
 refine⟨hi,λx H'' y=>?_⟩;obtain⟨rfl,rfl⟩:=y;refine⟨Same.refl _,?_⟩;have:(j7 lo n)[i]?=some (.int (lo+(i:Nat))):=by simp[j7,hi]
 rw[this]at e;cases e;rfl
def j9 (f:En->Res R):En->Res Src:=λenv=>(f env).bind λr=>match r.d with
 | .lst ds=>.ok ⟨ds,r.fr,r.al⟩
 | .tup ds=>.ok ⟨ds,r.fr,r.al⟩
 |_=>.stuck
theorem jk (h:PD X E l f):HV X E tg l (j9 f):=by
 obtain⟨t,p1,s1⟩:=h;refine⟨_,Gj p1,λg M ρ env σ H R rep p=>?_⟩;refine s1.one rep (P:=λM H r=>PostI X.mg E g M ρ env σ H R r) p (λ_ _ z=>z) (λ_ _ _ z=>z) (λM H M' H' r e p=>?_) λr v M1 H1 e1 rep1 is q=>?_
 .cases r with
  |stuck=>exact p
  |exc c=>exact p
  |ok s=>exact λJ M2 H2 e2=>p J M2 H2 (e.trans e2)
 .cases z:r.d with
  |lst ds=>rw[z]at is;simp only[z]at q;obtain⟨a,vs,rfl,h1,h2⟩:=is;exact⟨a,rfl,.inl ⟨⟨vs,.inl (h1.imp (·.1) λ⟨o,z,_⟩=>⟨o,z⟩)⟩,q _ M1 H1 (Ext.refl _ _) rep1 (y8 h1 h2)⟩⟩
  |tup ds=>rw[z]at is;simp only[z]at q;obtain⟨a,vs,rfl,h1,h2⟩:=is;exact⟨a,rfl,.inr ⟨⟨vs,SqT.of h1⟩,q _ M1 H1 (Ext.refl _ _) rep1 (AV h1 h2)⟩⟩
  |_=>simp only[z]at q;exact q.elim
noncomputable def cR (i:Int):Bool:=decide (-(2 ^ 62)<=i)&&decide (i<2 ^ 62)
def Jp (fs:En->Res (List R)):En->Res Src:=λenv=>(fs env).bind λrs=>match rs.map R.d with
 | [.int j]=>if cR j then .ok ⟨j7 0 j.toNat,true,[]⟩ else .stuck
 |_=>.stuck
theorem PostI.ext {mg:Str->Option OA}{M M':Addr->Prop}{R:It->Hp->Prop}(e:Ext M H M' H')(p:PostI mg E g M ρ env σ H R r):PostI mg E g M' ρ env σ H' R r:=by
 cases r with
 |stuck=>exact p
 |exc c=>exact p
 |ok s=>exact λJ M2 H2 e2=>p J M2 H2 (e.trans e2)
theorem pR (hg:Gl X "range") (hm:X.mg "range"=none) (ha:AH X E [a] fs) (hs:autoParam (starEach [a] X.env=[(false,eval a X.env)]) OH._auto_1):HV X E tg (.Call (.Name "range" p) [a] [] pos) (Jp fs):=by
 obtain⟨t,p1,s1⟩:=ha;refine⟨_,yI hg hm p1 hs,λg M ρ env σ H Rq rep p=>s1.one rep (P:=λM H r=>PostI X.mg E g M ρ env σ H Rq r) p (λ_ _ z=>z) (λ_ _ _ z=>z) (λ_ _ _ _ _ e p=>p.ext e) λrs vs M1 H1 e1 rep1 is q=>?_⟩;generalize hd:rs.map R.d=ds at is q
 match ds,is,q with
 | [.int j],is,q=>
  obtain⟨v,w,rfl,i1,i2⟩:=is;cases i1;cases i2;dsimp only at q;by_cases hc:cR j=true
  .rw[Ku hc]at q;simp only[cR,Ln,MN]at hc;exact⟨j,rfl,hc.1,hc.2,q _ M1 H1 (Ext.refl _ _) rep1 (wH 0 j.toNat)⟩
  .rw[Kv hc]at q;exact q.elim
 | [],_,q=>exact q.elim
 | [.non],_,q=>exact q.elim
 | [.bl _],_,q=>exact q.elim
 | [.str _],_,q=>exact q.elim
 | [.tup _],_,q=>exact q.elim
 | [.lst _],_,q=>exact q.elim
 | [.dic _ _],_,q=>exact q.elim
 | .int _::_::_,_,q=>exact q.elim
 | .non::_::_,_,q=>exact q.elim
 | .bl _::_::_,_,q=>exact q.elim
 | .str _::_::_,_,q=>exact q.elim
 | .tup _::_::_,_,q=>exact q.elim
 | .lst _::_::_,_,q=>exact q.elim
 | .dic _ _::_::_,_,q=>exact q.elim
def gb (asg:D->Bool->En->Option En)(fr:Bool)(body:En->Res Fl):List D->En->Res Fl
 | [],env=>.ok (.nx env)
 |x::xs,env=>match asg x fr env with
  |none=>.stuck
  |some jz=>(body jz).bind λr=>match r with
   | .nx bo=>gb asg fr body xs bo
   | .ct bo=>gb asg fr body xs bo
   | .bk bo=>.ok (.nx bo)
   | .rt r=>.ok (.rt r)
   | .rm r e=>.ok (.rm r e)
def tp (src:En->Res Src)(asg:D->Bool->En->Option En)(body:En->Res Fl):En->Res Fl:=λenv=>(src env).bind λs=>gb asg s.fr body s.xs (frz env s.al)
def HW (J:It)(u:TG)(tb:TS)(D:Ends)(σ:St)(H1:Hp):Prop:=∃ W:Nat->Nat->St->Hp->Prop,(∃ m,W 0 m σ H1)/\∀ i m σ H,W i m σ H->(J.stop i H/\D.nx σ H)\/(J.go i H/\∃ N:St->Hp->Prop,(∀ σ' H',N σ' H'->∃ m',m'<m/\W (i+1) m' σ' H')/\∀ x H',J.yld i H x H'->u x σ H' λσ2 H2=>tb { D with nx:=N,ct:=N,bk:=D.nx } σ2 H2)
theorem kz {asg:D->Bool->En->Option En}{fb:En->Res Fl}{g:Gd}{M2:Addr->Prop}{ρ2:Pr}{env2:En}{σ:St}{H1:Hp}{D:Ends}(s2:Gh ix u asg)(s3:Du X.mg E tb fb)(rep2:Rep g M2 ρ2 env2 σ H1)(wk2:Walk J (msk g M2 fr) H1 xs)(p2':PostS X.mg E g M2 H1 D (gb asg fr fb xs env2)):HW J u tb D σ H1:=by
 refine⟨λi m σ' H'=>m=xs.length-i/\i<=xs.length/\∃ M' ρ' bo,Rep g M' ρ' bo σ' H'/\Frz M2 H1 M' H'/\PostS X.mg E g M' H' D (gb asg fr fb (xs.drop i) bo),⟨_,rfl,LF _,M2,ρ2,_,rep2,Frz.refl _ _,p2'⟩,?_⟩;rintro i m σ' H' ⟨rfl,hle,M',ρ',bo,rep',f',p'⟩;have kp:∀ a o,H1 a=some o->(msk g M2 fr a\/fixd o)->H' a=some o:=λa o e z=>f'.h a o e (z.imp (·.1) id);by_cases hlt:i<xs.length
 .have ed:xs[i]?=some xs[i]:=by simp[hlt]
  obtain⟨go,yl⟩:=wk2.go H' i _ kp ed;have edrop:xs.drop i=xs[i]::xs.drop (i+1):=MH hlt;rw[edrop]at p';unfold gb at p';refine .inr ⟨go,λσ'' H''=>∃ M'' ρ'' env'',Rep g M'' ρ'' env'' σ'' H''/\Frz M2 H1 M'' H''/\PostS X.mg E g M'' H'' D (gb asg fr fb (xs.drop (i+1)) env''),λσ'' H'' z=>⟨xs.length-(i+1),by lia,rfl,hlt,z⟩,λx H'' y=>?_⟩;obtain⟨sm,is⟩:=yl x H'' y;have rep'':=rep'.grow sm;have fx:Frz M' H' M' H'':=⟨λ_ z=>z,λa o e _=>sm a o e⟩;have is':Is H'' (msk g M' fr) xs[i] x:=is.weak λa z=>msk.mono f'.m z;cases qa:asg xs[i] fr bo with
  |none=>simp only[qa]at p';exact p'.elim
  |some jz=>
   simp only[qa]at p';refine s2 g M' ρ' bo jz σ' H'' _ fr x _ rep'' is' qa λσ1 ρ1 rep1' _ _=>?_;refine s3 g M' ρ1 jz σ1 H'' _ rep1' ?_;have p'':=PostS.frz fx p';cases qb:fb jz with
   |stuck=>rw[qb]at p'';exact p''
   |exc c=>rw[qb]at p'';exact p''
   |ok r=>
    rw[qb]at p'';cases r with
    |nx e3=>exact λσ3 M3 ρ3 H3 f3 rep3=>⟨M3,ρ3,e3,rep3,(f'.trans fx).trans f3,PostS.frz f3 p''⟩
    |ct e3=>exact λσ3 M3 ρ3 H3 f3 rep3=>⟨M3,ρ3,e3,rep3,(f'.trans fx).trans f3,PostS.frz f3 p''⟩
    |bk e3=>exact p''
    |rt r=>exact p''
    |rm r e3=>exact p''
 .have e:i=xs.length:=by lia
  subst e;rw[Oq]at p';exact .inl ⟨wk2.stop H' kp,p' σ' M' ρ' H' (Frz.refl _ _) rep'⟩
theorem lu (hp:PassesOwn (model X.prog X.w) X.A X.env X.xe)(hc:X.calm=true)
 (hi:HV X E tg iter src) (hg:z4 X ix tg asg) (hb:qU X E body fb) (hs:autoParam (∀ x,foldedSetIterable iter X.env x=pure x) OF._auto_1):vZ X E (.For tg iter body [] pos) (tp src asg fb):=by
 obtain⟨wi,p1,s1⟩:=hi;obtain⟨u,p2,s2⟩:=hg;obtain⟨tb,p3,s3⟩:=hb;refine⟨_,iy hp hc p1 p2 p3 hs,λg M ρ env σ H D rep p=>?_⟩;refine s1 g M ρ env σ H _ rep ?_;unfold tp at p;cases q:src env with
 |stuck=>rw[q]at p;exact p
 |exc c=>rw[q]at p;exact p
 |ok s=>rw[q]at p;intro J M1 H1 e1 rep1 wk;obtain⟨M2,ρ2,x2,rep2,o2,_,_⟩:=Rep.frz s.al rep1;have wk2:Walk J (msk g M2 s.fr) H1 s.xs:=wk.weak λa z=>z.elim (msk.mono x2) λ⟨i,hi,o⟩=>⟨o2 i hi a o,λ_=>(rep1.priv i a o).2.1⟩;have p2':PostS X.mg E g M2 H1 D (gb asg s.fr fb s.xs (frz env s.al)):=PostS.frz (e1.frz.trans ⟨x2,λ_ _ q _=>q⟩) p;exact kz s2 s3 rep2 wk2 p2'
end
theorem jQ:∀(names:List (Str×NameKind))(cs:List (Str×Addr)),(∀ x∈names,x.2=.free->∃ c,env.cells.lookup x.1=some c)->(∀ y c,cs.lookup y=some c->env.cells.lookup y=some c)->
 ∃ cl,(forIn names cs λ(x:Str×NameKind)(r:List (Str×Addr))=>(do
  if (x.2==.free)=true then
   let c <- cellOf env x.1
   pure (ForInStep.yield ((x.1,c)::r))
  else pure (ForInStep.yield r):Sem (ForInStep (List (Str×Addr)))))=pure cl/\(∀ y c,cl.lookup y=some c->env.cells.lookup y=some c)/\(∀ x∈names,x.2=.free->∃ c,cl.lookup x.1=some c)/\(∀ y c,cs.lookup y=some c->∃ c',cl.lookup y=some c')
 | [],cs,_,h=>⟨cs,by simp,h,λ_ z=>absurd z (by simp),λy c e=>⟨c,e⟩⟩
 |(n,k)::r,cs,hf,h=>by
  by_cases hk:k=.free
  .subst hk;obtain⟨c,hc⟩:=hf (n,.free) (by simp) rfl;have hco:cellOf env n=pure c:=by simp[cellOf,hc]
   have h':∀ y c',((n,c)::cs).lookup y=some c'->env.cells.lookup y=some c':=λy c' e=>by
    rw[MZ]at e;cases hy:y==n with
    |true=>rw[hy]at e;cases e;rw[eq_of_beq hy];exact hc
    |false=>rw[hy]at e;exact h y c' e
   obtain⟨cl,e1,e2,e3,e4⟩:=jQ r ((n,c)::cs) (λx hx=>hf x (by simp[hx])) h';have self:∃ c',cl.lookup n=some c':=e4 n c (by simp[MZ]);refine⟨cl,?_,e2,λx hx hxf=>?_,λy c' e=>?_⟩
   .rw[List.forIn_cons];simp only[beq_self_eq_true,MS,hco,pure_bind];exact e1
   .rcases KB.mp hx with rfl|hx
    .exact self
    .exact e3 x hx hxf
   .by_cases hy:y=n
    .rw[hy];exact self
    .refine e4 y c' ?_;have hb:(y==n)=false:=by simpa using hy
     rw[MZ,hb];exact e
  .obtain⟨cl,e1,e2,e3,e4⟩:=jQ r cs (λx hx=>hf x (by simp[hx])) h;refine⟨cl,?_,e2,λx hx hxf=>?_,e4⟩
   .rw[List.forIn_cons];have hkb:(k==NameKind.free)=false:=by simpa using hk
    simp only[hkb,M8,Nd,pure_bind];exact e1
   .rcases KB.mp hx with rfl|hx
    .exact absurd hxf hk
    .exact e3 x hx hxf
theorem qV (h:∀ x∈scope.names,x.2=.free->∃ c,env.cells.lookup x.1=some c) :
 ∃ cl,closureFor scope env=pure cl/\(∀ y c,cl.lookup y=some c->env.cells.lookup y=some c)/\(∀ x∈scope.names,x.2=.free->∃ c,cl.lookup x.1=some c):=by
 obtain⟨cl,e1,e2,e3,_⟩:=jQ scope.names [] h (λ_ _ e=>by simp at e);refine⟨cl,?_,e2,e3⟩;unfold closureFor;refine Eq.trans ?_ (show((pure cl:Sem (List (Str×Addr))) >>= λcs=>pure cs)=pure cl by simp);rw[<- e1]
 all_goals first
  |rfl
  |(congr 1;congr 1;funext x r;obtain⟨n,k⟩:=x;first|rfl|(dsimp only;split<;>simp_all))
theorem n9 {f:Str->NameKind->NameKind}:∀(names:List (Str×NameKind))(y:Str),(names.map λx=>(x.1,f x.1 x.2)).lookup y=(names.lookup y).map (f y)
 | [],y=>rfl
 |(n,k)::r,y=>by
  rw[Kr,MZ,MZ];cases h:y==n with
  |true=>rw[eq_of_beq h];rfl
  |false=>exact n9 r y
theorem kA (scope:Scope)(env:Env)(y:Str):(relabel scope env).names.lookup y=(scope.names.lookup y).map λk=>if (k==.free&&env.scope.kind==.function&&env.kindOf y==some .cell)=true then .cell else k:=by
 have e:(relabel scope env).names=scope.names.map λx=>(x.1,(λn k=>if (k==NameKind.free&&env.scope.kind==.function&&env.kindOf n==some .cell)=true then NameKind.cell else k) x.1 x.2):=by unfold relabel;refine L7 λx _=>?_;obtain⟨n,k⟩:=x;dsimp only;split<;>rfl
 rw[e];exact n9 (f:=λn k=>if (k==NameKind.free&&env.scope.kind==.function&&env.kindOf n==some .cell)=true then NameKind.cell else k) scope.names y
theorem tq (h:scope.names.lookup y=some .free):(relabel scope env).names.lookup y=some .cell\/(relabel scope env).names.lookup y=some .free:=by
 rw[kA,h];simp only[Option.map_some];split
 .exact .inl rfl
 .exact .inr rfl
noncomputable def c9 (X:Cx)(scope:Scope)(N:List Str)(cl:List (Str×Addr))(C:Addr)(s:Ox)(H:Hp)(ex:List Addr):Cx:={ X with N:=N,s₀:=s,H₀:=H,env:=compEnvC scope cl C X.env,outer:=X.stack,ex:=ex,fn:=λ_=>false,pn:=[],xe:=λ_ _=>False }
section
variable {X:Cx}{pins:List (Addr×Obj)}{σ:St}{H:Hp}{s:Ox}{scope:Scope}{N:List Str}{cl:List (Str×Addr)}{C:Addr}{ex:List Addr}
theorem Dw (I:L2.Inv X pins σ H s)(hkind:scope.kind=.function)(hcell:∀ y∈scope.names,y.2≠.cell)(hcl:∀ y c,cl.lookup y=some c->X.env.cells.lookup y=some c)(hhas:∀ x∈scope.names,x.2=.free->∃ c,cl.lookup x.1=some c)
 (hC:s.heap.objs.size<=C) (hex:∀ b∈ex,FpOk X pins H b/\b<s.heap.objs.size):(c9 X scope N cl C s H ex).Ok where
 mod:=I.ok.mod
 kind:=hkind
 glob:=I.ok.glob
 blt:=I.ok.blt
 above:=hC
 inj:=λx y c h1 h2=>I.ok.inj x y c (hcl x c h1) (hcl y c h2)
 has:=λy hy=>by
  have key:∀ k,(relabel scope X.env).names.lookup y=some k->(k=.cell\/k=.free)->∃ c,cl.lookup y=some c:=λk e hk=>by
   rw[kA]at e;cases q:scope.names.lookup y with
   |none=>rw[q]at e;cases e
   |some k0=>
    have hm:=Mj q;have h0:=hcell _ hm;have hf:k0=.free:=by
     rw[q]at e;simp only[Option.map_some,Option.some.injEq]at e;split at e
     .rename_i z;simp only[Ln,NZ]at z;exact z.1.1
     .rcases hk with hk|hk
      .exact absurd (e.trans hk) h0
      .exact e.trans hk
    exact hhas _ hm hf
  rcases hy with hy|hy
  .exact key _ hy (.inl rfl)
  .exact key _ hy (.inr rfl)
 cab:=λ_ _ h=>by cases h
 hd:=I.ok.hd
 frames:=I.ok.frames
 stk:=.inl rfl
 exf:=λb hb=>⟨KR (K4 (hex b hb).2 hC),λx c e=>(hex b hb).1.2.2.2.2.1 x c (hcl x c e)⟩
 bs:=λb o e=>I.bs b o e
 bsz:=Ld I.ok.bsz I.sz
 noex:=λb o e hb=>by
  rcases (hex b hb).1.2.2.2.1 with z|z
  .exact I.ok.noex b o e z
  .exact absurd (K4 (KD e) (Ld I.ok.bsz z)) (My _)
 exfs:=λb hb hfs=>by
  rcases KB.mp (I.stkSub b hfs) with z|z
  .exact(hex b hb).1.2.1 z
  .exact(hex b hb).1.2.2.1 z
 funs:=I.stack
 frf:=I.stkFree
 kt:=I.kt
structure Caps (X:Cx) (scope:Scope) (capN:List Str) (caps:List Nat):Prop where
 at':∀(k:Nat)(y:Str),capN[k]?=some y->∃ j:Nat,caps[k]?=some j/\X.N[j]?=some y
 out:∀ y∈capN,X.env.kindOf y=some .cell\/X.env.kindOf y=some .free
 inn:∀ y∈capN,scope.names.lookup y=some .free
 len:caps.length=capN.length
noncomputable def nz (σ:St)(caps:List Nat):St:=caps.map λj=>(σ[j]?).join
theorem AW (I:L2.Inv X pins σ H s)(hkind:scope.kind=.function)(hcell:∀ y∈scope.names,y.2≠.cell)(hcl:∀ y c,cl.lookup y=some c->X.env.cells.lookup y=some c)(hhas:∀ x∈scope.names,x.2=.free->∃ c,cl.lookup x.1=some c)
 (hC:s.heap.objs.size<=C) (hex:∀ b∈ex,FpOk X pins H b/\b<s.heap.objs.size) (hc:Caps X scope capN caps) (kp:∀ b o,s.heap.get? b=some o->h4.get? b=some o) (ns:h4.Ns C m4) :
 L2.Inv (c9 X scope (tN++capN) cl C s H ex) [] (List.replicate tN.length none++nz σ caps) H { s with heap:=h4,toks:=tk } where
 ok:=Dw I hkind hcell hcl hhas hC hex
 os:=rfl
 bare:=I.bare
 base:=Un.kept kp
 loc:=by
  refine⟨m4,ns,λi y v e1 e2 e3=>?_⟩;by_cases hlt:i<tN.length
  .rw[Mn (by simpa using hlt),MR]at e2;rw[Ku hlt]at e2;cases e2
  .obtain⟨k,rfl⟩ : ∃ k,i=tN.length+k:=⟨i-tN.length,by lia⟩;have e1:capN[k]?=some y:=by
    have e1:(tN++capN)[tN.length+k]?=some y:=e1
    rwa [LH (by lia),Mz]at e1
   have e2:(nz σ caps)[k]?=some (some v):=by
    rwa [LH (by simp),NP,Mz]at e2
   obtain⟨j,ej,eN⟩:=hc.at' k y e1;have e4:σ[j]?=some (some v):=by
    unfold nz at e2;rw[KN,ej]at e2;have e2:(σ[j]?).join=some v:=by simpa using e2
    cases q:σ[j]? with
    |none=>rw[q]at e2;cases e2
    |some o=>rw[q]at e2;cases o with
     |none=>cases e2
     |some w=>cases e2;rfl
   have hm:=Ll e1;obtain⟨m,hn,hl⟩:=I.loc;have hout:=hc.out y hm;obtain⟨u,r,l⟩:=hl j y v eN e4 (.inr hout);refine⟨u,r,.inr ⟨tq (hc.inn y hm),?_⟩⟩;obtain⟨c,hcl2⟩:=hhas (y,.free) (Mj (hc.inn y hm)) rfl;refine⟨c,hcl2,?_⟩;rcases l with⟨l,_⟩|⟨_,c',e5,z⟩
   .rcases hout with h|h<;>(rw[h]at l;cases l)
   .have:=hcl y c hcl2;rw[e5]at this;cases this;obtain⟨o,ho,hd⟩:=z;exact⟨o,kp _ o ho,hd⟩
 cell:=λy c e=>by obtain⟨v,o,ho,hd⟩:=I.cell y c (hcl y c e);exact⟨v,o,kp _ o ho,hd⟩
 free:=I.hok.fresh hC
 freeC:=λy c e=>I.freeC y c (hcl y c e)
 pin:=λp hp=>absurd (show p∈([]:List (Addr×Obj)) from hp) (by simp)
 hok:=I.hok.kept kp
 len:=by simp[c9,nz,hc.len]
theorem y9 (I:L2.Inv X pins σ H s)(hX:X'=c9 X scope N cl C s H ex)(hC:s.heap.objs.size<=C)(hex:∀ b∈ex,FpOk X pins H b/\b<s.heap.objs.size)
 (I':L2.Inv X' pl σ' H' s'):L2.Inv X pins σ H' s'/\FpOk X pins H' C:=by
 subst hX;refine⟨I.call' (ch:=ex) I'.os I'.base I'.hok I'.bare λb hb=>?_,I.fpOk hC I'.free⟩;obtain⟨_,h2,h3,h4,h5,h6⟩:=(hex b hb).1;exact⟨h4,h2,h5,h6⟩
theorem xO (I:L2.Inv X pins σ H s)(hf:FpOk X pins H C)(sb:Heap.SameBut C s.heap h'):L2.Inv X pins σ H { s with heap:=h' }:=I.turned (t':=s.toks) (it:=C) (λb o hb e=>(sb.2 b hb).trans e) hf.1 hf.2.1 hf.2.2.2.1 hf.2.2.2.2.1 hf.2.2.2.2.2
end
section
variable {X:Cx}{pins:List (Addr×Obj)}{σ:St}{H3:Hp}{s3:Ox}{scope:Scope}{tg:Expr}{tN:List Str}{capN:List Str}{cl:List (Str×Addr)}{C:Addr}{fp:List Addr}{elt iter:Expr}{pos:Pos}{ifs:List Expr}
def HX (X:Cx)(ifs:List Expr)(tt:TT):Prop:=∀(pins:List (Addr×Obj))(s:Ox)(σ:St)(H:Hp)(Q:Bool->Hp->Prop),L2.Inv X pins σ H s->tt σ H Q->
 wpAny (model X.prog X.w) X.A (forIn ifs true λc r=>if r=true then do let ok <- isTrue c X.env (eval c X.env);pure (ForInStep.yield ok) else pure (ForInStep.yield r)) (TP X pins σ Q) X.xe s
theorem xP:HX X [] (λ_ H Q=>Q true H):=λ_ _ σ H Q I q=>wpAny_tests_nil ⟨H,I,q⟩
theorem Dx (h:PT X c tt):HX X [c] tt:=λpins s σ H Q I q=>wpAny_tests_one (h pins s σ H Q I q)
theorem y_ (hX:X'=c9 X scope (tN++capN) cl C s3 H3 fp)(T:Turn X.prog X.w X.K tg J fp it tn)(hcalm:X.calm=true)
 (I4:L2.Inv X' [] (List.replicate tN.length none++σc) H3 s4) (aR:X'.N.length=tN.length+σc.length) (st4:tn 0 s4.heap) (hf:∀ b∈fp,FpOk X' [] H3 b)
 (hg:PG X' tg gt) (ht:HX X' ifs tt) (he:PE X' elt te)
   (W:Nat->Nat->List V->Hp->Prop) (Fin:List V->Hp->Prop) (w0:∃ m,W 0 m [] H3)
   (turn:∀ i m acc H,W i m acc H->H Dl=some (.lst acc)/\((J.stop i H/\Fin acc H)\/(J.go i H/\∀ xv H' o,J.yld i H xv H'->o.length=tN.length->gt xv (o++σc) H' λσ2 H1=>(∀ j:Nat,tN.length<=j->σ2[j]?=(o++σc)[j]?)/\tt σ2 H1 λb H2=>if b=true then
     te σ2 H2 λy H5=>H5 Dl=some (.lst acc)/\acc.length<sizeLine/\∃ m',m'<m/\W (i+1) m' (acc++[y]) (aB H5 Dl (.lst (acc++[y]))) else ∃ m',m'<m/\W (i+1) m' acc H2)))
   (R:Result->Ox->Prop) (hR:∀ σ' H' acc s',L2.Inv X' [] σ' H' s'->H' Dl=some (.lst acc)->Fin acc H'->R (.ok .next) s') :
   codeAny (model X.prog X.w) X.A (.compLoop (.ListComp elt [⟨tg,iter,ifs,0⟩] scope pos) 0 (.ref it) (.ref Dl) (compEnvC scope cl C X.env)) R s4:=by
  obtain⟨m0,w0⟩:=w0;have eA:X'.A=X.A:=by rw[hX];rfl
  have eP:X'.prog=X.prog:=by rw[hX];rfl
  have eW:X'.w=X.w:=by rw[hX];rfl
  have eK:X'.K=X.K:=by rw[hX];rfl
  have eE:X'.env=compEnvC scope cl C X.env:=by rw[hX];rfl
  have eX:X'.xe=λ_ _=>False:=by rw[hX];rfl
  have eC:X'.calm=true:=by rw[hX];exact hcalm
  have stat:∀{H':Hp},(∀ b∈fp,H' b=none)->∀ b∈fp,FpOk X' [] H' b:=λhn b hb=>⟨hn b hb,(hf b hb).2⟩;refine codeAny_loop rfl (λn s=>∃ i o acc H,L2.Inv X' [] (o++σc) H s/\o.length=tN.length/\tn i s.heap/\(∀ b∈fp,H b=none)/\W i n acc H) ?_ m0 ⟨0,List.replicate tN.length none,[],H3,I4,by simp,st4,λb hb=>(hf b hb).1,w0⟩;rintro n s5 ⟨i,o,acc,H5,I5,lo,st5,fr5,w5⟩;show wpAny _ X.A ((compTurn (.ListComp elt [⟨tg,iter,ifs,0⟩] scope pos) 0 (.ref it) (.ref Dl) (compEnvC scope cl C X.env)).onRaise (λx=>do noteFrame x (compEnvC scope cl C X.env);theTreesLotGoes x)) _ _ s5;refine wpAny_noted ?_;rw[compTurn_list];obtain⟨hD,alt⟩:=turn i n acc H5 w5;rcases alt with⟨stop,fin⟩|⟨go,step⟩
  .refine Kp (NW (Kp (Ms (eA▸T.done X' eP eW eK eC i [] s5 _ H5 _ I5 (stat fr5) st5 stop) (λr s6 ⟨hr,I6⟩=>?_) λ_ _ z=>z)));subst hr;exact Kt (hR _ H5 acc s6 I6 hD fin)
  .refine Kp (NW (Kp (Ms (eA▸T.item X' eP eW eK eC i [] s5 _ H5 _ I5 (stat fr5) st5 go) (λr s6 ⟨u,hr,h6⟩=>?_) λ_ _ z=>z)));subst hr;refine Kp (Ms h6 (λ_ s7 ⟨xv,H7,I7,r7,y7,st7,fr7⟩=>?_) λ_ _ z=>z);have I7':=I7.pinned (stat fr7) (T.obj _ _ st7);have hg':=hg _ s7 _ H7 xv u _ I7' r7 (step xv H7 o y7 lo);rw[eP,eW,eA,eE,eX]at hg';refine Kp (Ms hg' (λ_ s8 ⟨σ8,H8,I8,shp,q8⟩=>?_) λ_ _ z=>z.elim);obtain⟨o2,lo2,eσ⟩ : ∃ o2:St,o2.length=tN.length/\σ8=o2++σc:=by
    have l8:σ8.length=tN.length+σc.length:=I8.len.trans aR;refine⟨σ8.take tN.length,by rw[MY];lia,?_⟩;have ed:σ8.drop tN.length=σc:=by
     apply List.ext_getElem?
     intro j;rw[List.getElem?_drop,shp (tN.length+j) (by lia),LH (by lia),lo,Mz]
    rw[<- ed,List.take_append_drop]
   subst eσ;have ht':=ht _ s8 _ H8 _ I8 q8;rw[eP,eW,eA,eE,eX]at ht';refine Kp (Ms ht' (λok s9 ⟨H9,I9,q9⟩=>?_) λ_ _ z=>z.elim);have again:∀{s':Ox}{H':Hp},L2.Inv X' ([]++o_ fp s7.heap) (o2++σc) H' s'->L2.Inv X' [] (o2++σc) H' s'/\tn (i+1) s'.heap/\∀ b∈fp,H' b=none:=λ{s' H'} J'=>by refine⟨J'.unpinned,T.keep _ _ _ st7 λb hb ob e=>(J'.pin (b,ob) (Lg _ (Lg _ (jN hb e)))).1,λb hb=>?_⟩;obtain⟨ob,e,d⟩:=T.obj _ _ st7 b hb;exact(J'.pin (b,ob) (Lg _ (Lg _ (jN hb e)))).2.1
   cases ok with
   |false=>obtain⟨m',hm,w9⟩:=(show ∃ m',m'<n/\W (i+1) m' acc H9 from by simpa using q9);obtain⟨a1,a2,a3⟩:=again I9;exact Kt ⟨rfl,m',hm,i+1,o2,acc,H9,a1,lo2,a2,a3,w9⟩
   |true=>
    have q9:te (o2++σc) H9 λy H5=>H5 Dl=some (.lst acc)/\acc.length<sizeLine/\∃ m',m'<n/\W (i+1) m' (acc++[y]) (aB H5 Dl (.lst (acc++[y]))):=by simpa using q9
    have he':=he _ s9 _ H9 _ I9 q9;rw[eP,eW,eA,eE,eX]at he';refine Kp (Kp (Ms he' (λv s10 ⟨y,H10,I10,ry,eD,hl,m',hm,w10⟩=>?_) λ_ _ z=>z.elim));have hm':=gn (X:=X') _ s10 _ H10 (.ref Dl) [y] (.ref Dl) [v] (λw H'=>w=.non/\H'=aB H10 Dl (.lst (acc++[y]))) I10 rfl (.cons ry .nil) ⟨Dl,acc,y,rfl,rfl,eD,hl,rfl,rfl⟩;rw[eP,eW,eA,eX]at hm';refine Kp (Ms hm' (λ_ s11 ⟨w,H11,I11,_,_,eH⟩=>?_) λ_ _ z=>z.elim);subst eH;obtain⟨a1,a2,a3⟩:=again I11;exact Kt (Kt ⟨rfl,m',hm,i+1,o2,acc++[y],_,a1,lo2,a2,a3,w10⟩)
end
structure CScope (X:Cx) (scope:Scope) (tN:List Str) (capN:List Str) (caps:List Nat):Prop where
 kind:scope.kind=.function
 ncell:∀ y∈scope.names,y.2≠.cell
 names:∀ y∈scope.names,y.2=.local->scope.names.lookup y.1=some .local
 own:∀ x∈tN,scope.names.lookup x=some .local
 free:∀ y∈scope.names,y.2=.free->X.env.kindOf y.1=some .cell\/X.env.kindOf y.1=some .free
 cap:Caps X scope capN caps
 nd:(tN++capN).Nodup
section
variable {X:Cx}{pins:List (Addr×Obj)}{σ:St}{H:Hp}{s:Ox}{scope:Scope}{tg:Expr}{tN:List Str}{capN:List Str}{caps:List Nat}{elt iter:Expr}{pos:Pos}{ifs:List Expr}{wi:TI}
def kC (X:Cx)(scope:Scope)(tg:Expr)(tN:List Str)(capN:List Str)(caps:List Nat)(elt:Expr)(ifs:List Expr)(σ:St)(Fin:Addr->List V->Hp->Prop)(J:It)(H2:Hp):Prop:=
 ∀(Dl:Addr),H2 Dl=none->∀(cl:List (Str×Addr))(C:Addr)(s3:Ox)(fp:List Addr),∃(gt:TG)(tt:TT)(te:TE)(W:Nat->Nat->List V->Hp->Prop),
  PG (c9 X scope (tN++capN) cl C s3 (aB H2 Dl (.lst [])) fp) tg gt/\HX (c9 X scope (tN++capN) cl C s3 (aB H2 Dl (.lst [])) fp) ifs tt/\PE (c9 X scope (tN++capN) cl C s3 (aB H2 Dl (.lst [])) fp) elt te/\(∃ m,W 0 m [] (aB H2 Dl (.lst [])))/\
  ∀ i m acc H,W i m acc H->H Dl=some (.lst acc)/\((J.stop i H/\Fin Dl acc H)\/(J.go i H/\∀ xv H' (o:St),J.yld i H xv H'->o.length=tN.length->gt xv (o++nz σ caps) H' λσ2 H1=>(∀ j:Nat,tN.length<=j->σ2[j]?=(o++nz σ caps)[j]?)/\tt σ2 H1 λb H2=>if b=true then
   te σ2 H2 λy H5=>H5 Dl=some (.lst acc)/\acc.length<sizeLine/\∃ m',m'<m/\W (i+1) m' (acc++[y]) (aB H5 Dl (.lst (acc++[y]))) else ∃ m',m'<m/\W (i+1) m' acc H2))
theorem rL {use:Option (OA->Sem Unit)}{Qv:OA->Ox->Prop}{Fin:Addr->List V->Hp->Prop}(hc:X.calm=true)(S:CScope X scope tN capN caps)(I:L2.Inv X pins σ H s)(hi:PI X tg iter wi)
 (h:wi σ H (kC X scope tg tN capN caps elt ifs σ Fin))
 (hu:∀(Dl C:Addr)(acc:List V)(H':Hp)(s':Ox),L2.Inv X pins σ H' s'->FpOk X pins H' C->H' Dl=some (.lst acc)->Fin Dl acc H'->(∃ m,s'.heap.Ns C m)->compPost (model X.prog X.w) X.A X.xe use Qv (.ref Dl) C (.ok .next) s')
 (hs:autoParam (∀ x,foldedSetIterable iter X.env x=pure x) OF._auto_1) :
 wpAny (model X.prog X.w) X.A (comprehension (.ListComp elt [⟨tg,iter,ifs,0⟩] scope pos) scope X.env (firstIterPos [⟨tg,iter,ifs,0⟩] pos) (newList []) false (eval iter X.env) use) Qv X.xe s:=by
 obtain⟨cl,ecl,hcl,hhas⟩:=qV (scope:=scope) (env:=X.env) λy hy hf=>I.ok.has y.1 (S.free y hy hf);refine wpAny_comprehension_free rfl hs ecl S.kind S.names (bW (hi pins s σ H _ I h) λv s1 h1=>bW h1 λitv s2 h2=>?_);obtain⟨it,fp,tn,J,H2,rfl,I2,T,st2,f2,goal⟩:=h2;refine LL (wpAny_newFunctionEnv S.ncell (by intro y hy;simp at hy) (λh₁ hns₁ hsb₁=>?_) S.kind);dsimp only at hns₁ hsb₁ ⊢;have hD:H2 s2.heap.objs.size=none:=I2.hok.fresh (Kq _);have I3:L2.Inv X pins σ (aB H2 s2.heap.objs.size (.lst [])) { s2 with heap:=s2.heap.push { cls:=.type "list",dict:=none,data:=.seq ([]:List OA).toArray } }:=I2.laid (t':=s2.toks) (λb u e=>Ks _ e) (Kq _) ⟨LF _,[],0,.nil,KF _ rfl⟩;generalize hs3:({ s2 with heap:=s2.heap.push { cls:=.type "list",dict:=none,data:=.seq ([]:List OA).toArray } }:Ox)=s3 at I3;have e3:s2.heap.push { cls:=.type "list",dict:=none,data:=.seq ([]:List OA).toArray }=s3.heap:=by rw[<- hs3]
 rw[e3]at hns₁ hsb₁ ⊢;have kp:∀ b o,s3.heap.get? b=some o->h₁.get? b=some o:=λb o e=>hsb₁.extBut b o (KR (KD e)) (Ks _ e);have k23:∀ b o,s2.heap.get? b=some o->s3.heap.get? b=some o:=λb o e=>by rw[<- e3];exact Ks _ e
 have hex:∀ b∈fp,FpOk X pins (aB H2 s2.heap.objs.size (.lst [])) b/\b<s3.heap.objs.size:=λb hb=>by obtain⟨o,ho,_⟩:=T.obj 0 _ st2 b hb;have hlt:b<s2.heap.objs.size:=KD ho;refine⟨⟨?_,(f2 b hb).2⟩,KD (k23 b o ho)⟩;rw[aa (KR hlt)];exact(f2 b hb).1
 have es:({ s2 with heap:=h₁,toks:=s2.toks+([]:List (Str×OA)).length }:Ox)={ s3 with heap:=h₁,toks:=s2.toks+([]:List (Str×OA)).length }:=by rw[<- hs3]
 have I4:L2.Inv (c9 X scope (tN++capN) cl s3.heap.objs.size s3 (aB H2 s2.heap.objs.size (.lst [])) fp) [] (List.replicate tN.length none++nz σ caps) (aB H2 s2.heap.objs.size (.lst [])) { s3 with heap:=h₁,toks:=s2.toks+([]:List (Str×OA)).length }:=AW I3 S.kind S.ncell hcl hhas (Kq _) hex S.cap kp hns₁;obtain⟨gt,tt,te,W,hg,ht,he,w0,turn⟩:=goal s2.heap.objs.size hD cl s3.heap.objs.size s3 fp;have st4:tn 0 h₁:=T.keep 0 _ _ st2 λb hb o e=>kp b o (k23 b o e);have f4:∀ b∈fp,FpOk (c9 X scope (tN++capN) cl s3.heap.objs.size s3 (aB H2 s2.heap.objs.size (.lst [])) fp) [] (aB H2 s2.heap.objs.size (.lst [])) b:=λb hb=>by
  obtain⟨f,hlt⟩:=hex b hb;refine⟨f.1,KR hlt,λhfs=>?_,.inl hb,λy c e=>f.2.2.2.2.1 y c (hcl y c e),λp hp=>absurd (show p∈([]:List (Addr×Obj)) from hp) (by simp)⟩;rcases KB.mp (I3.stkSub b hfs) with z|z
  .exact f.2.1 z
  .exact f.2.2.1 z
 have loop:codeAny (model X.prog X.w) X.A (.compLoop (.ListComp elt [⟨tg,iter,ifs,0⟩] scope pos) 0 (.ref it) (.ref s2.heap.objs.size) (compEnvC scope cl s3.heap.objs.size X.env)) (compPost (model X.prog X.w) X.A X.xe use Qv (.ref s2.heap.objs.size) s3.heap.objs.size)
  { s3 with heap:=h₁,toks:=s2.toks+([]:List (Str×OA)).length }:=by
  refine y_ rfl T hc I4 (by show(tN++capN).length=_;simp[nz,S.cap.len]) st4 f4 hg ht he W (Fin s2.heap.objs.size) w0 turn _ λσ' H' acc s' I' hD' fin=>?_;obtain⟨Io,fo⟩:=y9 I3 rfl (Kq _) hex I';obtain⟨m',hn',_⟩:=I'.loc;exact hu _ _ acc H' s' Io fo hD' fin ⟨m',hn'⟩
 rw[es];exact codeAny_compStart_list loop (T.self _ 0 _ _ _ st4 loop)
theorem pS (hc:X.calm=true)(S:CScope X scope tN capN caps)(I:L2.Inv X pins σ H s)(hi:PI X tg iter wi)(h:wi σ H (kC X scope tg tN capN caps elt ifs σ λDl _ H'=>Q (.ref Dl) H'))
 (hs:autoParam (∀ x,foldedSetIterable iter X.env x=pure x) OF._auto_1):wpAny (model X.prog X.w) X.A (eval (.ListComp elt [⟨tg,iter,ifs,0⟩] scope pos) X.env) (EP X pins σ Q) X.xe s:=by
 rw[eval_ListComp];refine rL (use:=none) hc S I hi h (λDl C acc H' s' Io fo hD fin hn=>?_) hs;obtain⟨m,hn⟩:=hn;exact⟨m,hn,λh' sb=>⟨.ref Dl,H',xO Io fo sb,rfl,fin⟩⟩
theorem AX {D:Ends}{i:Nat}(hc:X.calm=true)(S:CScope X scope tN capN caps)(hN:X.N.Nodup)(hi':X.N[i]?=some y)(hy:X.env.scope.names.lookup y=some .local)
 (hsw:swapsWith (.ListComp elt [⟨tg,iter,ifs,0⟩] scope pos) (some (.Name y py)) spos.line X.env=pure true) (I:L2.Inv X pins σ H s) (hi:PI X tg iter wi)
 (h:wi σ H (kC X scope tg tN capN caps elt ifs σ λDl _ H'=>D.nx (σ.set i (some (.ref Dl))) H')) (hs:autoParam (∀ x,foldedSetIterable iter X.env x=pure x) OF._auto_1) :
 wpAny (model X.prog X.w) X.A (exec (.Assign [.Name y py] (.ListComp elt [⟨tg,iter,ifs,0⟩] scope pos) spos) X.env) (SP X pins D) X.xe s:=by
 rw[exec_Assign_Name_used _ _ _ _ hsw];refine Kp (NW (Kp ?_));show wpAny _ X.A (do let _ <- comprehension (.ListComp elt [⟨tg,iter,ifs,0⟩] scope pos) scope X.env _ (newList []) false (eval iter X.env) (some (assign (.Name y py) X.env))) _ _ s;refine Kp (Ms (rL (use:=some (assign (.Name y py) X.env)) (Qv:=λ_ s'=>SP X pins D .next s') hc S I hi h (λDl C acc H' s' Io fo hD fin hn=>?_) hs) (λ_ s' hq=>Kt (Kt hq)) λ_ _ e=>e);obtain⟨m,hn⟩:=hn;show wpAny _ X.A (assign (.Name y py) X.env (.ref Dl)) _ _ _;refine wpAny_assign_Name (rh (v:=.ref Dl) Io hN hi' (.inl hy) rfl (λs'' I'' ⟨a,sb,ha⟩=>?_) (.inr hy));have nca:C≠a:=by
  rcases ha with z|z
  .rw[z];exact fo.2.1
  .exact LJ (fo.2.2.2.2.1 y a z)
 refine⟨m,hn.sameBut sb nca,λh' sb'=>?_⟩;exact⟨_,H',xO I'' fo sb',fin⟩
end
noncomputable def Res.noX {α:Type}:Res α->Res α
 | .exc _=>.stuck
 |r=>r
def Dy (env:En)(j:Nat):Option Sl:=match env[j]? with
 |some (some (.val d fr))=>some (.val d fr)
 |some (some (.own ds fr))=>some (.val (.lst ds) fr)
 |some (some (.tre d))=>some (.val d true)
 |_=>none
def i7 (env:En)(n:Nat)(caps:List Nat):En:=List.replicate n none++caps.map (Dy env)
def gc (mk:D->Option En)(test:En->Res Bool)(elt:En->Res R):List D->Res (List R)
 | []=>.ok []
 |x::xs=>match mk x with
  |none=>.stuck
  |some e=>(test e).bind λb=>if b then (elt e).bind λr=>(gc mk test elt xs).bind λrs=>.ok (r::rs) else gc mk test elt xs
def iD (n:Nat)(caps:List Nat)(src:En->Res Src)(asg:D->Bool->En->Option En)(test:En->Res Bool)(elt:En->Res R):En->Res R:=λenv=>(src env).bind λs=>if s.xs.length<=lim then
 (gc (λd=>asg d s.fr (i7 env n caps)) test elt s.xs).noX.bind λrs=>.ok (mj (rs.map R.d) (bX rs) (s.al++caps.filter (isOwn env))) else .stuck
def wI (X:Cx)(E:XK)(ifs:List Expr)(f:En->Res Bool):Prop:=∃ t,HX X ifs t/\SndT X.mg E t f
section
variable {X:Cx}{E:XK}
theorem mn:wI X E [] (λ_=>.ok true):=⟨_,xP,λg M ρ env σ H Q rep p=>p M H (Ext.refl _ _) rep⟩
theorem AY (h:uD X E c f):wI X E [c] f:=let ⟨t,a,b⟩:=h;⟨t,Dx a,b⟩
end
section
variable {g:Gd}{M M1:Addr->Prop}{ρ:Pr}{env:En}{σ:St}{H H1:Hp}
theorem HY (rep:Rep g M1 ρ env σ H1)(s:Same H1 H)(ho:o.length=n)(hM:∀ a,(M1 a\/∃ i,i∈caps/\ρ i a)->M' a)(hf:∀ a,M' a->H a≠none)(hi:∀ a,M' a->g.H₀ a=none\/g.Ma a)(hfl:∀ a,M' a->g.H₀ a=none->MuZ g H a) :
 Rep g M' (λ_ _=>False) (i7 env n caps) (o++nz σ caps) H where
 same:=rep.same.trans s
 froz:=hf
 inn:=hi
 fl:=hfl
 slot:=λi sl e=>by
  by_cases hlt:i<n
  .unfold i7 at e;rw[Mn (by simpa using hlt),MR,Ku hlt]at e;cases e
  .obtain⟨k,rfl⟩ : ∃ k,i=n+k:=⟨i-n,by lia⟩;have e:(caps.map (Dy env))[k]?=some (some sl):=by
    unfold i7 at e
    rwa [LH (by simp),NP,Mz]at e
   rw[KN]at e;cases q:caps[k]? with
   |none=>rw[q]at e;cases e
   |some j=>
    rw[q]at e;have e:Dy env j=some sl:=by simpa using e
    have hj:j∈caps:=Ll q;unfold Dy at e;cases q2:env[j]? with
    |none=>rw[q2]at e;cases e
    |some o=>
     cases o with
     |none=>rw[q2]at e;cases e
     |some sl0=>
      obtain⟨v,ev,k2⟩:=rep.slot j sl0 q2;have el:(o++nz σ caps)[n+k]?=some (some v):=by rw[LH (by lia),ho,Mz];unfold nz;rw[KN,q];simp[ev]
      rw[q2]at e;cases sl0 with
      |val d' fr'=>cases e;exact⟨v,el,Is.mono (λa o q _=>s a o q) (λa _ _ z=>⟨hM a (.inl z.1),z.2⟩) k2⟩
      |own ds' fr'=>cases e;obtain⟨a,vs,rfl,h1,h2,h4⟩:=k2;have ha:=(h2 a).mpr rfl;exact⟨_,el,a,vs,rfl,.inl ⟨s _ _ h1,hM a (.inr ⟨j,hj,ha⟩),λ_=>(rep.priv j a ha).2.1⟩,IsAll.mono (λa o q _=>s a o q) (λa _ _ z=>⟨hM a (.inl z.1),z.2⟩) h4⟩
      |tre d'=>cases e;exact⟨v,el,Is.mono (λa o q _=>s a o q) (λa _ _ z=>⟨hM a (.inr ⟨j,hj,z⟩),λ_=>(rep.priv j a z).2.1⟩) k2⟩
      |mes d'=>cases e
 priv:=λ_ _ z=>z.elim
 apart:=λ_ _ _ z=>z.elim
 ow:=λ_ _ z=>z.elim
 len:=by simp[i7,nz,ho]
 zz:=λa z e=>rep.zz a z (s.free e)
end
noncomputable def rM (X:Cx)(scope:Scope)(tg:Expr)(tN:List Str)(capN:List Str)(caps:List Nat)(elt:Expr)(ifs:List Expr)(wi:TI):TE:=λσ H Q=>wi σ H (kC X scope tg tN capN caps elt ifs σ λDl _ H'=>Q (.ref Dl) H')
section
variable {X:Cx}{E:XK}{scope:Scope}{tg:Expr}{tN:List Str}{capN:List Str}{caps:List Nat}{ix:List Nat}{asg:D->Bool->En->Option En}{elt iter:Expr}{pos:Pos}{ifs:List Expr}{wi:TI}{src:En->Res Src}{ft:En->Res Bool}{fe:En->Res R}
theorem nA {M1:Addr->Prop}{H1:Hp}{Q:VK}{J:It}{s:Src}{full:List R}(hix:∀ j∈ix,j<tN.length)(hg:∀ cl C s3 H3 fp,z4 (c9 X scope (tN++capN) cl C s3 H3 fp) ix tg asg)(ht:∀ cl C s3 H3 fp,wI (c9 X scope (tN++capN) cl C s3 H3 fp) E0 ifs ft)(he:∀ cl C s3 H3 fp,PD (c9 X scope (tN++capN) cl C s3 H3 fp) E0 elt fe)(rep1:Rep g M1 ρ env σ H1)(wk:Walk J (vmsk g M1 s.fr ρ s.al) H1 s.xs)(hlim:s.xs.length<=lim)(qc:gc (λd=>asg d s.fr (i7 env tN.length caps)) ft fe s.xs=.ok full)
 (p:PostE X.mg E g M1 ρ env σ H1 Q (.ok (mj (full.map R.d) (bX full) (s.al++caps.filter (isOwn env))))):kC X scope tg tN capN caps elt ifs σ (λDl _ H'=>Q (.ref Dl) H') J H1:=by
 intro Dl hDl cl C s3 fp;obtain⟨gt,pg,sg⟩:=hg cl C s3 (aB H1 Dl (.lst [])) fp;obtain⟨tt,pt,st⟩:=ht cl C s3 (aB H1 Dl (.lst [])) fp;obtain⟨te,pe,se⟩:=he cl C s3 (aB H1 Dl (.lst [])) fp;obtain⟨d0,dm,dow⟩:=rep1.free hDl;refine⟨gt,tt,te,λi m acc H=>m=s.xs.length-i/\i<=s.xs.length/\∃(M':Addr->Prop)(rs rest:List R),Same H1 H/\H Dl=some (.lst acc)/\(∀ a,(M1 a\/∃ j,j∈s.al++caps/\ρ j a)->M' a)/\
  (∀ a,M' a->(M1 a\/∃ j,j∈s.al++caps/\ρ j a)\/H1 a=none)/\¬ M' Dl/\(∀ a,M' a->H a≠none)/\(∀ a,M' a->g.H₀ a=none->MuZ g H a)/\rs.length<=i/\IsAll H (msk g M' (bX rs)) (rs.map R.d) acc/\gc (λd=>asg d s.fr (i7 env tN.length caps)) ft fe (s.xs.drop i)=.ok rest/\full=rs++rest,
  pg,pt,pe,⟨_,rfl,LF _,(λa=>M1 a\/∃ j,j∈s.al++caps/\ρ j a),[],full,aE hDl,ac,λ_ z=>z,λ_ z=>.inl z,?_,?_,?_,Kq _,rfl,qc,rfl⟩,?_⟩
 .rintro (z|⟨j,_,z⟩)
  .exact dm z
  .exact dow j z
 .rintro a (z|⟨j,_,z⟩) hn
  .exact rep1.froz a z ((aE hDl).free hn)
  .obtain⟨_,_,uo,hz,_⟩:=rep1.priv j a z;rw[(aE hDl) a _ hz]at hn;cases hn
 .rintro a (z|⟨j,_,z⟩) h0
  .exact(rep1.fl a z h0).same λo e=>aE hDl _ _ e
  .exact .inl ((rep1.priv j a z).2.2.same λo e=>aE hDl _ _ e)
 .rintro i m acc H2 ⟨rfl,hle,M',rs,rest,sm,hD2,hMi,hMo,nD,frz2,fl2,hrs,isA,qr,efull⟩;refine⟨hD2,?_⟩;have kp:∀ a o,H1 a=some o->(vmsk g M1 s.fr ρ s.al a\/fixd o)->H2 a=some o:=λa o e _=>sm a o e;have inn2:∀{M'':Addr->Prop}{a:Addr},(M1 a\/∃ j,j∈s.al++caps/\ρ j a)\/H1 a=none->g.H₀ a=none\/g.Ma a:=λ{M'' a} z=>by
   rcases z with(z|⟨j,_,z⟩)|z
   .exact rep1.inn a z
   .exact .inl (rep1.priv j _ z).2.1
   .exact .inl (rep1.same.free z)
  by_cases hlt:i<s.xs.length
  .have ed:s.xs[i]?=some s.xs[i]:=by simp[hlt]
   obtain⟨go,yl⟩:=wk.go H2 i _ kp ed;refine .inr ⟨go,λxv H3 o y lo=>?_⟩;obtain⟨s23,isx⟩:=yl xv H3 y;have edrop:s.xs.drop i=s.xs[i]::s.xs.drop (i+1):=MH hlt;rw[edrop]at qr;unfold gc at qr;have isx':Is H3 (msk g M' s.fr) s.xs[i] xv:=isx.weak λa z=>by
    rcases z with z|⟨j,hj,z⟩
    .exact⟨hMi a (.inl z.1),z.2⟩
    .exact⟨hMi a (.inr ⟨j,by simp[hj],z⟩),λ_=>(rep1.priv j _ z).2.1⟩
   have repI:Rep g M' (λ_ _=>False) (i7 env tN.length caps) (o++nz σ caps) H3:=HY rep1 (sm.trans s23) lo (λa z=>hMi a (z.imp id λ⟨j,hj,w⟩=>⟨j,by simp[hj],w⟩)) (λa z hn=>frz2 a z (s23.free hn)) (λa z=>inn2 (M'':=M') (hMo a z)) (λa z h0=>(fl2 a z h0).same λo e=>s23 _ _ e);cases qa:asg s.xs[i] s.fr (i7 env tN.length caps) with
   |none=>simp only[qa]at qr;cases qr
   |some envT=>
   simp only[qa]at qr;refine sg g M' _ _ envT _ H3 _ s.fr xv _ repI isx' qa λσ2 ρ2 repT shp nρ=>⟨λj hj=>shp j λz=>absurd (hix j z) (by lia),?_⟩;refine st g M' ρ2 _ _ H3 _ repT ?_;cases qt:ft envT with
   |stuck=>rw[qt]at qr;cases qr
   |exc c=>rw[qt]at qr;cases qr
   |ok b=>
    rw[qt]at qr;intro M4 H4 e4 rep4;cases b with
    |false=>refine uw ⟨s.xs.length-(i+1),by lia,rfl,hlt,M',rs,rest,(sm.trans s23).trans e4.h,e4.h _ _ (s23 _ _ hD2),hMi,hMo,nD,λa z hn=>frz2 a z (s23.free (e4.h.free hn)),λa z h0=>(fl2 a z h0).same λo e=>e4.h _ _ (s23 _ _ e),by lia,?_,by simpa using qr,efull⟩;exact IsAll.same e4.h (IsAll.same s23 isA)
    |true=>
     refine sN ?_;simp only[Res.bind_ok,MS]at qr;refine se g M4 ρ2 _ _ H4 _ rep4 ?_;cases qe:fe envT with
     |stuck=>rw[qe]at qr;cases qr
     |exc c=>rw[qe]at qr;cases qr
     |ok r=>
      rw[qe]at qr;simp only[Res.bind_ok]at qr;cases qd:gc (λd=>asg d s.fr (i7 env tN.length caps)) ft fe (s.xs.drop (i+1)) with
      |stuck=>rw[qd]at qr;cases qr
      |exc c=>rw[qd]at qr;cases qr
      |ok rest'=>
       rw[qd]at qr;have qr:r::rest'=rest:=by simpa using qr
       intro yv M5 H5 e5 rep5 ro;obtain⟨M6,e6,m56,rep6,is6⟩:=ro.is rep5 e5 rep4.same;have D3:H3 Dl=some (.lst acc):=s23 _ _ hD2;have D4:H4 Dl=some (.lst acc):=e4.h _ _ D3;have D5:H5 Dl=some (.lst acc):=e5.h _ _ D4;have nD4:¬ M4 Dl:=λz=>(e4.n Dl z).elim nD λw=>by rw[D3]at w;cases w
       have nD6:¬ M6 Dl:=λz=>(e6.n Dl z).elim nD4 λw=>by rw[D4]at w;cases w
       have M46:∀ a,M4 a->M6 a:=e6.m;have up:∀ a o,H5 a=some o->a≠Dl->aB H5 Dl (.lst (acc++[yv])) a=some o:=λa o e n=>by rw[aa n];exact e
       have kp5:∀(fr:Bool) a o,H5 a=some o->(msk g M6 fr a\/fixd o)->aB H5 Dl (.lst (acc++[yv])) a=some o:=λfr a o e z=>up a o e λw=>by
        subst w;rcases z with z|z
        .exact nD6 z.1
        .rw[D5]at e;cases e;exact z
       refine⟨D5,?_,s.xs.length-(i+1),by lia,rfl,hlt,M6,rs++[r],rest',?_,ac,λa z=>M46 a (e4.m a (hMi a z)),λa z=>?_,nD6,λa z=>?_,λa z h0=>?_,by simp;lia,?_,qd,by rw[efull,<- qr];simp⟩
       .have:acc.length=rs.length:=by rw[isA.length,Kw]
        exact sV (by lia)
       .intro b o e;exact up b o (e5.h _ _ (e4.h _ _ (s23 _ _ (sm _ _ e)))) (af e hDl)
       .rcases e6.n a z with z|z
        .rcases e4.n a z with z|z
         .exact hMo a z
         .exact .inr (sm.free (s23.free z))
        .exact .inr (sm.free (s23.free (e4.h.free z)))
       .by_cases hw:a=Dl
        .rw[hw,ac];simp
        .rw[aa hw];exact rep6.froz a z
       .have hw:a≠Dl:=λe=>nD6 (e▸z);exact(rep6.fl a z h0).same λo e=>by rw[aa hw];exact e
       .rw[K6];refine IsAll.append ?_ ⟨yv,[],rfl,?_,rfl⟩
        .have i5:IsAll H5 (msk g M' (bX rs)) (rs.map R.d) acc:=((isA.same s23).same e4.h).same e5.h;refine(i5.weak λa z=>(⟨M46 a (e4.m a z.1),λe=>z.2 (by simp[bX]at e ⊢;exact e.1)⟩ : msk g M6 (bX (rs++[r])) a)).mono (kp5 _) λ_ _ _ z=>z
        .refine(is6.weak λa z=>?_:Is H5 (msk g M6 (bX (rs++[r]))) r.d yv).mono (kp5 _) λ_ _ _ z=>z;rcases z with z|⟨j,_,z⟩
         .exact⟨z.1,λe=>z.2 (by simp[bX]at e;exact e.2)⟩
         .exact(nρ _ _ z).elim
  .have ei:i=s.xs.length:=by lia
   subst ei;refine .inl ⟨wk.stop H2 kp,?_⟩;rw[Oq]at qr;unfold gc at qr;cases qr;rw[KM]at efull;subst efull;have RM:Rep g (λa=>M1 a\/(nl H1 H2 a/\M' a)) ρ env σ H2:=rep1.came sm M';have XM:Ext M1 H1 (λa=>M1 a\/(nl H1 H2 a/\M' a)) H2:=⟨λ_=>.inl,sm,λ_ z=>z.imp id (·.1.1)⟩;have nDl:¬ (M1 Dl\/(nl H1 H2 Dl/\M' Dl)):=λz=>z.elim dm λz=>nD z.2;have nwD:∀ b,V.ref Dl=.ref b->H1 b=none:=λb e=>by cases e;exact hDl
   unfold mj at p;by_cases hfl:D.flats (full.map R.d)=true
   .rw[Ku hfl]at p;exact p _ _ H2 XM RM ⟨Dl,acc,rfl,hD2,nDl,hDl,dow,IsAll.flat hfl isA⟩
   .rw[Kv hfl]at p;by_cases hal:(s.al++caps.filter (isOwn env)).isEmpty=true
    .rw[Ku hal]at p;refine p _ _ H2 XM RM ⟨Dl,acc,rfl,hD2,nDl,hDl,dow,isA.weak λa z=>⟨?_,z.2⟩⟩;rcases hMo a z.1 with(w|⟨j,hj,w⟩)|w
     .exact .inl w
     .exfalso;have he:s.al++caps.filter (isOwn env)=[]:=by simpa using hal
      rcases Lf.mp hj with hj|hj
      .have:j∈s.al++caps.filter (isOwn env):=Mw _ hj;rw[he]at this;simp at this
      .have:j∈s.al++caps.filter (isOwn env):=Lg _ (LD.mpr ⟨hj,rep1.ow j a w⟩);rw[he]at this;simp at this
     .exact .inr ⟨⟨w,(fl2 a z.1 (rep1.same.free w)).elim id λq=>(rep1.zz a q.1 w).elim⟩,z.1⟩
    .rw[Kv hal]at p;refine p _ (λa=>(M1 a\/(nl H1 H2 a/\M' a))\/a=Dl) H2 ⟨λ_ z=>.inl (.inl z),sm,λa z=>z.elim (XM.n a) λe=>.inr (e▸hDl)⟩ (RM.more hD2 d0 dow) ⟨Dl,acc,rfl,.inl ⟨hD2,.inl ⟨.inr rfl,λ_=>d0⟩⟩,isA.weak λa z=>?_⟩;rcases hMo a z.1 with(w|⟨j,hj,w⟩)|w
     .exact .inl ⟨.inl (.inl w),z.2⟩
     .refine .inr ⟨j,?_,w⟩;rcases Lf.mp hj with hj|hj
      .exact Mw _ hj
      .exact Lg _ (LD.mpr ⟨hj,rep1.ow j a w⟩)
     .exact .inl ⟨.inl (.inr ⟨⟨w,(fl2 a z.1 (rep1.same.free w)).elim id λq=>(rep1.zz a q.1 w).elim⟩,z.1⟩),z.2⟩
theorem uJ (si:HU X.mg E wi src)(hix:∀ j∈ix,j<tN.length)(hg:∀ cl C s3 H3 fp,z4 (c9 X scope (tN++capN) cl C s3 H3 fp) ix tg asg)(ht:∀ cl C s3 H3 fp,wI (c9 X scope (tN++capN) cl C s3 H3 fp) E0 ifs ft)(he:∀ cl C s3 H3 fp,PD (c9 X scope (tN++capN) cl C s3 H3 fp) E0 elt fe) :
 Snd X.mg E (rM X scope tg tN capN caps elt ifs wi) (iD tN.length caps src asg ft fe):=by
 intro g M ρ env σ H Q rep p;refine si g M ρ env σ H _ rep ?_;unfold iD at p;cases q:src env with
 |stuck=>rw[q]at p;exact p
 |exc c=>rw[q]at p;exact p
 |ok s=>
  rw[q]at p;simp only[Res.bind_ok]at p;intro J M1 H1 e1 rep1 wk Dl hDl cl C s3 fp;by_cases hlim:s.xs.length<=lim
  .rw[Ku hlim]at p;cases qc:gc (λd=>asg d s.fr (i7 env tN.length caps)) ft fe s.xs with
   |stuck=>rw[qc]at p;exact p.elim
   |exc c=>rw[qc]at p;exact p.elim
   |ok full=>rw[qc]at p;have p:PostE X.mg E g M1 ρ env σ H1 Q (.ok (mj (full.map R.d) (bX full) (s.al++caps.filter (isOwn env)))):=PostE.ext e1 p;exact nA hix hg ht he rep1 wk hlim qc p Dl hDl cl C s3 fp
  .rw[Kv hlim]at p;exact p.elim
theorem tz (hc:X.calm=true)(S:CScope X scope tN capN caps)(hi:HV X E tg iter src)(hix:∀ j∈ix,j<tN.length)(hg:∀ cl C s3 H3 fp,z4 (c9 X scope (tN++capN) cl C s3 H3 fp) ix tg asg)(ht:∀ cl C s3 H3 fp,wI (c9 X scope (tN++capN) cl C s3 H3 fp) E0 ifs ft)(he:∀ cl C s3 H3 fp,PD (c9 X scope (tN++capN) cl C s3 H3 fp) E0 elt fe)
 (hs:autoParam (∀ x,foldedSetIterable iter X.env x=pure x) OF._auto_1):PD X E (.ListComp elt [⟨tg,iter,ifs,0⟩] scope pos) (iD tN.length caps src asg ft fe):=by
 obtain⟨wi,p1,s1⟩:=hi;exact⟨rM X scope tg tN capN caps elt ifs wi,λpins s σ H Q I h=>pS hc S I p1 h hs,uJ s1 hix hg ht he⟩
theorem AZ (hc:X.calm=true)(S:CScope X scope tN capN caps)(hN:X.N.Nodup)(hi':X.N[i]?=some y)(hy:X.env.scope.names.lookup y=some .local)
 (hi:HV X E tg iter src) (hix:∀ j∈ix,j<tN.length) (hg:∀ cl C s3 H3 fp,z4 (c9 X scope (tN++capN) cl C s3 H3 fp) ix tg asg) (ht:∀ cl C s3 H3 fp,wI (c9 X scope (tN++capN) cl C s3 H3 fp) E0 ifs ft) (he:∀ cl C s3 H3 fp,PD (c9 X scope (tN++capN) cl C s3 H3 fp) E0 elt fe)
 (hsw:autoParam (swapsWith (.ListComp elt [⟨tg,iter,ifs,0⟩] scope pos) (some (.Name y py)) spos.line X.env=pure true) OH._auto_1) (hs:autoParam (∀ x,foldedSetIterable iter X.env x=pure x) OF._auto_1) :
 vZ X E (.Assign [.Name y py] (.ListComp elt [⟨tg,iter,ifs,0⟩] scope pos) spos) (iL i (iD tN.length caps src asg ft fe)):=by
 obtain⟨wi,p1,s1⟩:=hi;exact⟨o9 (rM X scope tg tN capN caps elt ifs wi) (bv i),λpins s σ H D I h=>AX hc S hN hi' hy hsw I p1 h hs,xN (uJ s1 hix hg ht he)⟩
end
def b8 (N:List Str)(ds:List D):En:=ds.map (λd=>some (.val d false))++List.replicate (N.length-ds.length) none
def xQ:Res Fl->Res R
 | .ok (.nx _)=>.ok (.val .non true [])
 | .ok (.rt r)=>.ok r
 | .ok _=>.stuck
 | .exc c=>.exc c
 | .stuck=>.stuck
def fV (N:List Str)(FB:En->Res Fl)(ds:List D):Res R:=xQ (FB (b8 N ds))
theorem gi:iU lA X E:=λ_ _ _ _ _ _ _ h=>h.elim
theorem za (is:IsAll H Ma ds vs):Rep (HI H Ma) (λa=>Ma a/\H a≠none) (λ_ _=>False) (b8 N ds) (L2.dh N vs) H where
 same:=Same.refl H
 froz:=λa z=>z.2
 inn:=λa z=>.inr z.1
 fl:=λa z h=>absurd h z.2
 slot:=λi sl e=>by
  have hl:=is.length;unfold b8 at e;by_cases hi:i<ds.length
  .rw[Mn (by simpa using hi),KN]at e;obtain⟨v,ev,iv⟩:=is.get (i:=i) (d:=ds[i]) (by simp[hi]);have e1:ds[i]?=some ds[i]:=by simp[hi]
   rw[e1]at e;cases e;refine⟨v,?_,Is.mono (λ_ _ q _=>q) (λa o q z=>⟨⟨z,by rw[q];simp⟩,λz=>by cases z⟩) iv⟩;unfold L2.dh;rw[Mn (by simp;lia),KN,ev];rfl
  .rw[LH (by simpa using hi),MR]at e;split at e<;>cases e
 priv:=λ_ _ z=>z.elim
 apart:=λ_ _ _ z=>z.elim
 ow:=λ_ _ z=>z.elim
 len:=by have hl:=is.length;unfold b8 L2.dh;simp[hl]
 zz:=λ_ z=>z.elim
section
variable {P:Oz}{w:World}{K:Oy}{mg:Str->Option OA}{base:Heap}
theorem jD {x qual:Str}{st:Stmt}{f:Addr}{FB:En->Res Fl}(F:Fun K x qual st f fd)(S:FnScope N ps (defScope st))
 (body:∀(cdv:OA)(A:OB)(outer:List Env)(s:Ox)(H:Hp)(E:XK),Room k (A.deeper (envOfC qual (defScope st) s.heap.objs.size f cdv))->qU (we lA P w K mg base N qual (defScope st) f cdv A outer s H E).nox E (defBody st) FB) :
 FnOk P w K mg base lA (k+1) f fd ps (pO mg ps.length (fV N FB)):=by
 refine F.ok S (λvs H Q E h=>h.1) (λcdv A outer s H vs Q E hr h=>?_);obtain⟨hl,ds,Ma,is,post⟩:=h;obtain⟨t,p1,s1⟩:=body cdv A outer s H E hr;refine⟨t,p1,s1 (HI H Ma) _ _ (b8 N ds) (L2.dh N vs) H _ (za is) ?_⟩;unfold fV at post;cases q:FB (b8 N ds) with
 |stuck=>rw[q]at post;exact post
 |exc c=>rw[q]at post;exact post
 |ok r=>
  rw[q]at post;cases r with
  |nx env=>exact λσ M' ρ' H' _ rep=>post .non H' rep.same rfl
  |rt r=>exact λv M' H' _ s ro _=>post v H' s (ro λ_ z=>z)
  |rm r env=>exact post.elim
  |bk env=>exact post.elim
  |ct env=>exact post.elim
end
section
variable {X:Cx}{E:XK}
theorem Dz:SlR X (λx lo hi H Q=>∃ a xs,x=.ref a/\SqT X.K H a xs/\(HT.sIx xs.length 0 lo=0/\HT.sIx xs.length xs.length hi=xs.length)/\Q x H):=by
 intro pins s σ H x v vl vu lo hi sl Q I rx hs pl pu h;obtain⟨a,xs,rfl,hx,hw,q⟩:=h;cases rx;obtain⟨its,r,ht,hz⟩:=I.tuple hx;have aR:its.toArray.size=xs.length:=by rw[KC];exact r.length.symm
 refine⟨"tuple",_,LG.lookup,ht.typeIs,?_⟩;obtain⟨os,hos,hcs,hds⟩:=id hs;have hTs:s.TypeIs (.ref sl) "slice":=⟨os,hos,hcs⟩;unfold getItem
 try with_reducible refine Mo ?_
 first|refine Kp (Kt ?_)|skip
 refine Kp (wpAny_sequenceKey ht.typeIs (by decide) ?_);refine Kp (MT (name:=Str.ofString "__getitem__") ht.typeIs LG
  (L5 LG ht.typeIs entry_tuple_getitem ?_ (args_tuple_getitem _ _)))
 show wpAny _ _ (Builtin.Tuple.tupleItemsOf (.ref a) >>= _) _ _ s;refine Kp (tupleItemsOf_ ht ?_);refine Kp (N9 hTs ?_);rw[Ku (by decide)];refine Kp (HT.sliceApplied_gen hs pl pu ?_);have hyes:((((HT.sIx its.toArray.size 0 lo:Nat):Int)==0&&(1:Int)==1&&(HT.sIx its.toArray.size its.toArray.size hi-HT.sIx its.toArray.size 0 lo)==its.toArray.size)=true):=by rw[aR,hw.1,hw.2];simp
 show wpAny _ _ (if (((HT.sIx its.toArray.size 0 lo:Nat):Int)==0&&(1:Int)==1&&(HT.sIx its.toArray.size its.toArray.size hi-HT.sIx its.toArray.size 0 lo)==its.toArray.size)=true then _ else _) _ _ s;rw[Ku hyes];have fin:EP X pins σ Q (.ref a) s:=⟨.ref a,H,I,rfl,q⟩;refine Kp (m:=Builtin.Tuple.tupleIsExact (.ref a)) ?_;unfold Builtin.Tuple.tupleIsExact;refine Kp (N9 ht.typeIs ?_);refine Kt ?_;rw[Ku (by decide)];exact Kp (NJ (Kt ⟨_,rfl,Kt fin⟩))
def iN {α:Type}(xs:List α)(lo hi:Option Int):List α:=(xs.drop (HT.sIx xs.length 0 lo)).take (HT.sIx xs.length xs.length hi-HT.sIx xs.length 0 lo)
theorem IsAll.cut (h:IsAll H m ds vs)(lo hi:Option Int):IsAll H m (iN ds lo hi) (um vs lo hi):=by unfold iN um;rw[h.length];exact(h.drop _).take _
noncomputable def E4 (mg:Str->Option OA)(E:XK)(g:Gd)(M:Addr->Prop)(ρ:Pr)(env:En)(σ:St)(H:Hp)(Q:Option Int->Hp->Prop):Res (Option Int)->Prop
 | .stuck=>False
 | .exc c=>Dm mg E g c
 | .ok o=>∀ M' H',Ext M H M' H'->Rep g M' ρ env σ H'->Q o H'
def Jq (X:Cx)(E:XK)(e:Option Expr)(f:En->Res (Option Int)):Prop:=∃ t,PO X e t/\∀ g M ρ env σ H Q,Rep g M ρ env σ H->E4 X.mg E g M ρ env σ H Q (f env)->t σ H Q
noncomputable def A0:En->Res (Option Int):=λ_=>.ok none
def mq (f:En->Res R):En->Res (Option Int):=λenv=>(f env).bind λr=>match r.d with
 | .int i=>.ok (some i)
 |_=>.stuck
theorem A1:Jq X E none A0:=⟨_,C4,λg M ρ env σ H Q rep p=>p M H (Ext.refl _ _) rep⟩
theorem pT (h:PD X E e f):Jq X E (some e) (mq f):=by
 obtain⟨t,p1,s1⟩:=h;refine⟨_,C5 p1,λg M ρ env σ H Q rep p=>s1.one rep (P:=λM H r=>E4 X.mg E g M ρ env σ H Q r) p (λ_ _ z=>z) (λ_ _ _ z=>z) (λM H M' H' r e p=>?_) λr v M1 H1 e1 rep1 is q=>?_⟩
 .cases r with
  |stuck=>exact p
  |exc c=>exact p
  |ok o=>exact λM2 H2 e2=>p M2 H2 (e.trans e2)
 .cases z:r.d with
  |int i=>rw[z]at is;simp only[z]at q;cases is;exact⟨i,rfl,q M1 H1 (Ext.refl _ _) rep1⟩
  |_=>simp only[z]at q;exact q.elim
def tD (r:R)(lo hi:Option Int):Res R:=match r.d with
 | .lst xs=>.ok (mj (iN xs lo hi) r.fr r.al)
 | .tup xs=>.ok (mkV (.tup (iN xs lo hi)) r.fr r.al)
 |_=>.stuck
def nB (fa:En->Res R)(fl fh:En->Res (Option Int)):En->Res R:=λenv=>(fa env).bind λr=>(fl env).bind λlo=>(fh env).bind λhi=>tD r lo hi
theorem uK {lo hi:Option Expr}{fa:En->Res R}{fl fh:En->Res (Option Int)}{p2 pos:Pos}(ha:PD X E e fa)(hl:Jq X E lo fl)(hh:Jq X E hi fh):PD X E (.Subscript e (.Slice lo hi none p2) pos) (nB fa fl fh):=by
 obtain⟨ta,p1,s1⟩:=ha;obtain⟨tl,p2,s2⟩:=hl;obtain⟨th,p3,s3⟩:=hh;refine⟨_,Al (sl_list.or (sl_tup.or Dz)) p1 p2 p3,λg M ρ env σ H Q rep p=>s1.oneE rep p λr v M1 H1 e1 rep1 is q=>?_⟩;refine s2 g M1 ρ env σ H1 _ rep1 ?_;cases z1:fl env with
 |stuck=>rw[z1]at q;exact q
 |exc c=>rw[z1]at q;exact q
 |ok lo'=>
  rw[z1]at q;intro M2 H2 e2 rep2;have q2:PostE X.mg E g M2 ρ env σ H2 Q ((fh env).bind λhi=>tD r lo' hi):=PostE.ext e2 q;refine s3 g M2 ρ env σ H2 _ rep2 ?_;cases z2:fh env with
  |stuck=>rw[z2]at q2;exact q2
  |exc c=>rw[z2]at q2;exact q2
  |ok hi'=>
   rw[z2]at q2;intro M3 H3 e3 rep3;have q3:PostE X.mg E g M3 ρ env σ H3 Q (tD r lo' hi'):=PostE.ext e3 q2;have is3:=(is.ext e2).ext e3;unfold tD at q3;cases z:r.d with
   |lst xs=>rw[z]at q3 is3;obtain⟨a,vs,rfl,h1,h2⟩:=is3.rd;exact .inl ⟨a,vs,rfl,.inl h1,λp hp=>q3.lst rep3 hp (h2.cut lo' hi')⟩
   |tup xs=>
    rw[z]at q3 is3;have is4:=is3;obtain⟨a,vs,rfl,h1,h2⟩:=is3;by_cases hw:HT.sIx vs.length 0 lo'=0/\HT.sIx vs.length vs.length hi'=vs.length
    .have ec:iN xs lo' hi'=xs:=by unfold iN;rw[<- h2.length,hw.1,hw.2,h2.length];simp
     dsimp only at q3;rw[ec]at q3;exact .inr (.inr ⟨a,vs,rfl,SqT.of h1,hw,q3.val rep3 is4⟩)
    .exact .inr (.inl ⟨a,vs,rfl,SqT.of h1,hw,λp hp=>q3.tup rep3 hp (h2.cut lo' hi')⟩)
   |_=>rw[z]at q3;exact q3.elim
noncomputable def D.ty:D->String
 | .non=>"NoneType" | .bl _=>"bool" | .int _=>"int" | .str _=>"str" | .tup _=>"tuple" | .lst _=>"list" | .dic _ _=>"dict"
def J6 (K:Oy) (H:Hp) (x:V) (t:OA):Prop:=TyOf K H x t\/(t=.type "dict"/\∃ a,x=.ref a/\EV H a)
theorem Is.ty {m:Addr->Prop}{v:V}{K:Oy}(h:Is H m d v):J6 K H v (.type d.ty):=by
 cases d with
 |non=>cases h;exact .inl .non
 |bl b=>cases h;exact .inl (.bl b)
 |int b=>cases h;exact .inl (.int b)
 |str b=>cases h;exact .inl (.str b)
 |tup ds=>obtain⟨a,vs,rfl,h1,_⟩:=h;exact .inl (.tup h1)
 |lst ds=>
  obtain⟨a,vs,rfl,h1,_⟩:=h;rcases h1 with⟨h1,_⟩|⟨o,h1,_⟩
  .exact .inl (.lst h1)
  .exact .inl (.frz h1)
 |dic ks ds=>obtain⟨a,kvs,rfl,h1,_⟩:=h;exact .inr ⟨rfl,a,rfl,h1.1.imp (λ⟨kvs,e,_⟩=>⟨kvs,e⟩) λ⟨kvs,e,_⟩=>⟨kvs,e⟩⟩
def CI (T:String)(d:D):Bool:=match d with
 | .non=>T=="NoneType"
 | .bl _=>T=="bool" || T=="int"
 | .int _=>T=="int"
 | .str _=>T=="str"
 | .tup _=>T=="tuple"
 | .lst _=>T=="list"
 | .dic _ _=>T=="dict"
def A2 (T:String):Prop:=∀(K:Oy)(d:D),PySem.W.kitOne K (.type d.ty) (.type T)=some (CI T d)
theorem A3:A2 "int":=λK d=>by cases d<;>kernel_rfl
theorem zb:A2 "bool":=λK d=>by cases d<;>kernel_rfl
theorem wJ:A2 "tuple":=λK d=>by cases d<;>kernel_rfl
theorem zc:A2 "dict":=λK d=>by cases d<;>kernel_rfl
def zd (T:String)(fa:En->Res R):En->Res R:=λenv=>(fa env).bind λr=>.ok (.val (.bl (CI T r.d)) true [])
theorem A4:CallR X (.builtin "isinstance") (λxs H Q=>∃ x T t b,xs=[x,.ty T]/\J6 X.K H x t/\PySem.W.kitOne X.K t (.type T)=some b/\Q (.bl b) H):=by
 intro pins s σ H xs us Q I r h;obtain⟨x,T,t,b,rfl,ty,e,q⟩:=h;obtain⟨u,c,rfl,ru,rc⟩:=rl r;obtain rfl:c=Value.type T:=rc;rcases ty with ty|⟨rfl,a,rfl,hd⟩
 .exact yO I ru ty e λtk=>⟨.bl b,H,I.tok tk,rfl,q⟩
 .obtain rfl:u=Value.ref a:=ru;obtain⟨t1,_⟩:=m_ I hd;exact LO Of I.kIn t1 e (λz=>nomatch z) λtk=>⟨.bl b,H,I.tok tk,rfl,q⟩
theorem tE (hK:A2 T') (hg:Gl X "isinstance") (hm:X.mg "isinstance"=none) (hgT:Gl X T) (hmT:X.mg T=none) (hvT:bootBuiltins T=some (.type T')) (ha:PD X E e fa)
 (hnT:autoParam (T≠"__name__") OC._auto_1) (hdT:autoParam ((T==("__debug__" : Str))=false) OC._auto_1)
 (he:autoParam (starEach [e,.Name T q] X.env=(false,eval e X.env)::starEach [.Name T q] X.env) OH._auto_1) (he2:autoParam (starEach [.Name T q] X.env=(false,eval (.Name T q) X.env)::starEach [] X.env) OH._auto_1) (hpl:autoParam ((backTo pos (starEach [.Name T q] X.env)).any (·.1)=false) OH._auto_1) :
 PD X E (.Call (.Name "isinstance" p) [e,.Name T q] [] pos) (zd T' fa):=by
 obtain⟨ta,p1,s1⟩:=ha;refine⟨_,gB A4 hg hm (by decide +kernel) (ag p1 (ag (CM hgT hmT hvT (v:=.ty T') rfl hnT hdT) aA he2) he) (by decide) (by decide) he hpl,λg M ρ env σ H Q rep p=>s1.oneE rep p λr v M1 H1 e1 rep1 is q=>?_⟩;exact⟨v,T',_,_,rfl,is.ty,hK X.K r.d,q _ M1 H1 (Ext.refl _ _) rep1 rfl⟩
noncomputable def i8:List D->Option (List Bool)
 | []=>some []
 | .bl b::r=>(i8 r).map λbs=>b::bs
 |_::_=>none
def A5:List R->Res R
 | [r]=>match r.d with
  | .lst ds=>match i8 ds with
   |some bs=>.ok (.val (.bl (bs.all id)) true [])
   |none=>.stuck
  |_=>.stuck
 |_=>.stuck
theorem rN:∀{ds:List D}{bs:List Bool}{i:Nat}{d:D},i8 ds=some bs->ds[i]?=some d->∃ b,d=.bl b/\bs[i]?=some b
 | [],_,_,_,_,e=>by simp at e
 | .bl b::r,bs,0,d,h,e=>by
  simp at e;subst e;unfold i8 at h;cases q:i8 r with
  |none=>rw[q]at h;cases h
  |some bs'=>rw[q]at h;cases h;exact⟨b,rfl,rfl⟩
 | .bl b::r,bs,i+1,d,h,e=>by
  unfold i8 at h;cases q:i8 r with
  |none=>rw[q]at h;cases h
  |some bs'=>rw[q]at h;cases h;obtain⟨b',e1,e2⟩:=rN (i:=i) q (by simpa using e);exact⟨b',e1,by simpa using e2⟩
 | .non::_,_,_,_,h,_=>by cases h
 | .int _::_,_,_,_,h,_=>by cases h
 | .str _::_,_,_,_,h,_=>by cases h
 | .tup _::_,_,_,_,h,_=>by cases h
 | .lst _::_,_,_,_,h,_=>by cases h
theorem rO:∀{ds:List D}{bs:List Bool},i8 ds=some bs->bs.length=ds.length
 | [],_,h=>by cases h;rfl
 | .bl b::r,bs,h=>by
  unfold i8 at h;cases q:i8 r with
  |none=>rw[q]at h;cases h
  |some bs'=>rw[q]at h;cases h;simp[rO q]
 | .non::_,_,h=>by cases h
 | .int _::_,_,h=>by cases h
 | .str _::_,_,h=>by cases h
 | .tup _::_,_,h=>by cases h
 | .lst _::_,_,h=>by cases h
theorem ze (hc:X.calm=true):CallR X (.builtin "all") (λxs H Q=>∃(p:Addr)(vs:List V)(bs:List Bool),xs=[.ref p]/\SqL X.K H p vs/\vs=bs.map V.bl/\Q (.bl (bs.all id)) H):=by
 intro pins s σ H xs us Q I r h;obtain⟨p,vs,bs,rfl,hq,rfl,q⟩:=h;obtain⟨u,rfl,rx⟩:=j_ r;cases rx;obtain⟨its,rv,pl,hz⟩:=I.list hq;have hh:X.A.in1.handled=none:=I.ok.hd hc;obtain⟨o,ho,_⟩:=pl.isList;have hlt:p<s.heap.objs.size:=KD ho;refine call_all_walk (Nc pl.isList ?_);refine⟨s.heap.objs.size,_,_,_,_,_,λi=>(bs[i]?).getD true,rfl,Walks.list hh s.heap.objs.size p (KR hlt) its.toArray,⟨⟨_,KF _ rfl,rfl,rfl⟩,?_⟩,?_,λh' tk hk=>?_⟩
 .exact pl.isList.at λo e=>Ks _ e
 .intro i v s' Q' E' hv hQ';have hv:its[i]?=some v:=by simpa using hv
  have hi:i<its.length:=(KA.mp hv).1;have hl:=rv.length;have hb:i<bs.length:=by simpa using (by rw[Kw]at hl;lia:i<bs.length)
  obtain⟨u',hu,ru⟩:=rv.get (i:=i) (x:=.bl bs[i]) (by simp[hb]);rw[hv]at hu;cases hu;cases ru;have eb:bs[i]?=some bs[i]:=by simp[hb]
  dsimp only at hQ';rw[eb]at hQ';exact LV hQ'
 .have hl:=rv.length;rw[Kw]at hl;have e:((List.range its.toArray.size).all λi=>(bs[i]?).getD true)=bs.all id:=by
   rw[KC,<- hl];rw[Mp,LC,LC];constructor
   .intro h b hb;obtain⟨i,hi⟩:=KS.mp hb;have:=h i (by simp;exact(KA.mp hi).1);rw[hi]at this;exact this
   .intro h i hi;have hi:i<bs.length:=by simpa using hi
    have eb:bs[i]?=some bs[i]:=by simp[hi]
    rw[eb];exact h _ (NU hi)
  rw[e];refine⟨.bl _,H,?_,rfl,q⟩;have I1:L2.Inv X pins σ H { s with heap:=s.heap.push { cls:=.type "list_iterator",data:=.fields #[.ref p,.int 0 0] } }:=I.kept (t':=s.toks) λb o e=>Ks _ e;have fo:=I.fpOk (H':=H) (Kq s.heap.objs.size) (I.hok.fresh (Kq _));exact I1.turned (t':=tk) (it:=s.heap.objs.size) (λb o hb e=>hk b o (by simpa using hb) e) fo.1 fo.2.1 fo.2.2.2.1 fo.2.2.2.2.1 fo.2.2.2.2.2
theorem A6 (hc:X.calm=true):ky X E (.builtin "all") A5:=by
 refine⟨_,ze hc,λg M ρ env σ H Q rs vs rep i p=>?_⟩
 match rs,i,p with
 | [r],i,p=>
  obtain⟨v,w,rfl,i1,i2⟩:=i;cases i2;have i1:Is H (vmsk g M (bX [r]) ρ (dk [r])) r.d v:=i1;unfold A5 at p;dsimp only at p;cases q:r.d with
  |lst ds=>
   rw[q]at p i1;obtain⟨a,ws,rfl,h1,h2⟩:=i1.rd;dsimp only at p;cases qb:i8 ds with
   |none=>rw[qb]at p;exact p.elim
   |some bs=>
    rw[qb]at p;refine⟨a,ws,bs,rfl,.inl h1,?_,p _ M H (Ext.refl _ _) rep rfl⟩;apply List.ext_getElem?
    intro j;by_cases hj:j<ds.length
    .obtain⟨b,e1,e2⟩:=rN (i:=j) (d:=ds[j]) qb (by simp[hj]);obtain⟨v',ev,iv⟩:=h2.get (i:=j) (d:=ds[j]) (by simp[hj]);rw[e1]at iv;cases iv;rw[ev,KN,e2];rfl
    .have l1:=h2.length;have l2:=rO qb;rw[List.getElem?_eq_none (by lia),List.getElem?_eq_none (by simp;lia)]
  |_=>rw[q]at p;exact p.elim
 | [],_,p=>exact p.elim
 |_::_::_,_,p=>exact p.elim
end
def E5 (K:Oy)(a:Addr):It:=⟨λi H=>∃ xs x,SqL K H a xs/\xs[i]?=some x,λi H y H'=>∃ p x,H p=none/\y=.ref p/\H'=aB H p (.tup [.int (i:Nat),x])/\∀ xs,SqL K H a xs->xs[i]?=some x,λi H=>∃ xs,SqL K H a xs/\xs.length<=i⟩
theorem zf {P:Oz}{w:World}{K:Oy}(a it e:Addr)(hei:e≠it):Turn P w K (.Tuple es k pos) (E5 K a) [e,it] e (λi h=>(∃ old,IsEnum h e it i old)/\h.IsListIter it a i) where
 mem:=by simp
 obj:=λi h st b hb=>by
  obtain⟨⟨old,he⟩,o,ho,c,d⟩:=st;rcases KB.mp hb with rfl|hb
  .exact⟨_,he,λv z=>by cases z⟩
  .have:b=it:=by simpa using hb
   subst this;exact⟨o,ho,λv z=>by rw[d]at z;cases z⟩
 keep:=λi h h' st kk=>by obtain⟨⟨old,he⟩,hl⟩:=st;exact⟨⟨old,kk e (by simp) _ he⟩,hl.at λo q=>kk it (by simp) o q⟩
 item:=by
  intro X hP hw hK hc i pins s σ H E I hf st hg;subst hP hw hK;obtain⟨xs,x,hq,hx⟩:=hg;obtain⟨⟨old,he⟩,hl⟩:=st;obtain⟨its,rv,p,hz⟩:=I.list hq;obtain⟨u,hu,ru⟩:=rv.get hx;have fe:=hf e (by simp);have fi:=hf it (by simp);have hai:a≠it:=by intro z;obtain⟨o1,e1,c1,_⟩:=p.isList;obtain⟨o2,e2,c2,_⟩:=hl;rw[z,e2]at e1;cases e1;rw[c2]at c1;injection c1 with z;exact absurd z (by decide)
  have hae:a≠e:=by intro z;obtain⟨o1,e1,c1,_⟩:=p.isList;rw[z,he]at e1;cases e1;injection c1 with z;exact absurd z (by decide)
  have hh:X.A.in1.handled=none:=I.ok.hd hc;have hil:i<its.length:=(KA.mp hu).1;refine wpAny_pyNext_enum_itemD (Draws.list hh it a hai its.toArray) he ⟨hl,p.isList⟩ (by simpa using hil) hei (by simp;exact⟨hei,LJ hae⟩) λx' h' tk hx' ho hs' hT hsz hk=>?_;have ex:x'=u:=by
   have:its[i]?=some x':=by simpa using hx'
   rw[hu]at this;exact(La this).symm
  subst ex;refine⟨_,rfl,wpAny_letOwnedTupleGo_enum ho λh'' he'' hs''=>?_⟩;have keep2:∀ b o,b≠e->b≠it->s.heap.get? b=some o->h''.get? b=some o:=λb o n1 n2 q=>(hs''.2 b n1).trans (hk b o n1 n2 q);have hTe:s.heap.objs.size≠e:=NO (KD he);have hT'':h''.get? s.heap.objs.size=some { cls:=.type "tuple",data:=.seq #[.int i tk,x'] }:=(hs''.2 _ hTe).trans hT;have I1:L2.Inv X pins σ (aB H s.heap.objs.size (.tup [.int (i:Nat),x])) { s with heap:=h'',toks:=tk+1 }:=by
   refine I.step (g':=s.gens) (d':=s.drawn) (ch:=[e,it]) (λb hb=>?_) (λb o _ _ hn q _=>keep2 b o (λz=>hn (by simp[z])) (λz=>hn (by simp[z])) q)
    (λb o _ _ hn q _=>⟨o.slots,keep2 b o (λz=>hn (by simp[z])) (λz=>hn (by simp[z])) q⟩) (λb o _ q hH=>by rw[aa (KR (KD q))];exact hH)
    (λb o hn q=>⟨o,keep2 b o (λz=>hn (by simp[z])) (λz=>hn (by simp[z])) q⟩) (λb ys q=>by rw[aa (af q (I.hok.fresh (Kq _)))];exact q)
    (λb o' u' q=>by rw[aa (af q (I.hok.fresh (Kq _)))];exact q) (λb ps q=>⟨#[],by rw[aa (af q (I.hok.fresh (Kq _)))];simp[q]⟩) (λm hm=>?_) (λb u' q=>?_) I.bare
   .rcases KB.mp hb with rfl|hb
    .exact⟨fe.2.2.2.1,fe.2.1,fe.2.2.2.2.1,fe.2.2.2.2.2⟩
    .have:b=it:=by simpa using hb
     subst this;exact⟨fi.2.2.2.1,fi.2.1,fi.2.2.2.2.1,fi.2.2.2.2.2⟩
   .obtain⟨o,es',ep,ho',r⟩:=hm;exact⟨o,es',ep,keep2 _ o (LJ fe.2.1) (LJ fi.2.1) ho',r⟩
   .by_cases hb:b=s.heap.objs.size
    .subst hb;rw[ac]at q;cases q;refine⟨by show 2<=sizeLine;decide,[.int i tk,x'],.cons ⟨tk,rfl⟩ (.cons ru .nil),⟨_,hT'',rfl,0,rfl⟩⟩
    .rw[aa hb]at q;refine(I.hok b u' q).stay (λc v hc' q'=>keep2 c v ?_ ?_ q') (λc r=>by rw[aa (af r (I.hok.fresh (Kq _)))];exact r) λc ys r=>by rw[aa (af r (I.hok.fresh (Kq _)))];exact r
     .rcases hc' with z|z
      .rw[z];exact af q fe.1
      .exact af z fe.1
     .rcases hc' with z|z
      .rw[z];exact af q fi.1
      .exact af z fi.1
  refine⟨.ref s.heap.objs.size,_,I1,rfl,⟨_,x,I.hok.fresh (Kq _),rfl,rfl,λys hy=>by rw[I.list_inj hy hq];exact hx⟩,⟨⟨_,by simpa using he''⟩,?_⟩,λb hb=>?_⟩
  .obtain⟨o,q,r⟩:=hs'.1;exact⟨o,(hs''.2 it (LJ hei)).trans q,r⟩
  .rcases KB.mp hb with rfl|hb
   .rw[aa (KR (KD he))];exact fe.1
   .have:b=it:=by simpa using hb
    subst this;obtain⟨o,q,_⟩:=hl;rw[aa (KR (KD q))];exact fi.1
 done:=by
  intro X hP hw hK hc i pins s σ H E I hf st hg;subst hP hw hK;obtain⟨xs,hq,hx⟩:=hg;obtain⟨⟨old,he⟩,hl⟩:=st;obtain⟨its,rv,p,hz⟩:=I.list hq;have fi:=hf it (by simp);have hai:a≠it:=by intro z;obtain⟨o1,e1,c1,_⟩:=p.isList;obtain⟨o2,e2,c2,_⟩:=hl;rw[z,e2]at e1;cases e1;rw[c2]at c1;injection c1 with z;exact absurd z (by decide)
  have hh:X.A.in1.handled=none:=I.ok.hd hc;have hln:=rv.length;have Dr:Draws X.prog X.w X.A.in1 it [it,a] 0 (λ_ _=>True) (λ_ h=>h.IsListIter it a i/\h.IsList a its.toArray):=
   { live:=λ_ _ st=>let ⟨o,ho,_⟩:=st.1;⟨o,ho⟩
     frame:=λ_ _ _ st hk=>⟨st.1.at λo e=>hk it (by simp) o e,st.2.at λo e=>hk a (by simp) o e⟩
     item:=λi s Q E hi=>absurd hi (by lia)
     done:=λs Q E st hE=>wpAny_nextOf_list_end hh st.1 st.2 (by simp;lia) hE }
  exact wpAny_pyNext_enum_endD Dr he ⟨hl,p.isList⟩ λh' eb=>⟨rfl,I.turned (t':=s.toks) (λb o hb e=>eb b o hb e) fi.1 fi.2.1 fi.2.2.2.1 fi.2.2.2.2.1 fi.2.2.2.2.2⟩
 self:=λA i s Q E st h=>by obtain⟨⟨old,he⟩,_⟩:=st;exact wpAny_pyIter_enum he h
section
variable {X:Cx}{E:XK}{es:List Expr}{k:Nat}{j5:Pos}
def xR (K:Oy)(ta:TA):TI:=λσ H R=>ta σ H λvs H1=>∃ a xs,vs=[.ref a]/\SqL K H1 a xs/\R (E5 K a) H1
theorem xS {l:Expr} (hg:Gl X "enumerate") (hm:X.mg "enumerate"=none) (ha:PA X [l] ta) (hs:autoParam (starEach [l] X.env=[(false,eval l X.env)]) OH._auto_1):PI X (.Tuple es k j5) (.Call (.Name "enumerate" p) [l] [] pos) (xR X.K ta):=by
 intro pins s σ H R I h;refine Call_ (mY I hg hm (by decide +kernel:bootBuiltins "enumerate"=some (.type "enumerate")) (M9 (bW (ha pos pins s σ H _ I h) λus s1 ⟨vs,H1,I1,r1,q1⟩=>?_) hs rfl));obtain⟨a,xs,e,hq,q⟩:=q1;subst e;cases r1 with
 |cons r rr=>
  cases rr;cases r;obtain⟨its,rv,pl,hz⟩:=I1.list hq;refine call_enumerate_list pl.isList λh' he hl hsz kp=>?_;have I2:L2.Inv X pins σ H1 { s1 with heap:=h' }:=I1.kept (t':=s1.toks) kp;refine wpAny_pyIter_enum he ?_;refine⟨s1.heap.objs.size+1,[s1.heap.objs.size+1,s1.heap.objs.size],_,_,H1,rfl,I2,zf a s1.heap.objs.size (s1.heap.objs.size+1) (Nat.succ_ne_self _),⟨⟨_,by simpa using he⟩,hl⟩,λb hb=>?_,q⟩;rcases KB.mp hb with rfl|hb
  .exact I1.fpOk (Nat.le_succ _) (I1.hok.fresh (Nat.le_succ _))
  .have e:b=s1.heap.objs.size:=by simpa using hb
   subst e;exact I1.fpOk (Kq _) (I1.hok.fresh (Kq _))
end
noncomputable def J7 (osc:Scope)(N:List Str)(scope:Scope)(tN capN:List Str)(caps:List Nat):Bool:=
 (scope.kind==.function)&&scope.names.all (λy=>y.2 != .cell)&&scope.names.all (λy=>y.2 != .local || scope.names.lookup y.1==some .local)&&tN.all (λx=>scope.names.lookup x==some .local) &&
 scope.names.all (λy=>y.2 != .free || (osc.names.lookup y.1==some .cell || osc.names.lookup y.1==some .free))&&(capN.zip caps).all (λp=>N[p.2]?==some p.1)&&(caps.length==capN.length) &&
 capN.all (λy=>osc.names.lookup y==some .cell || osc.names.lookup y==some .free)&&capN.all (λy=>scope.names.lookup y==some .free)&&decide (tN++capN).Nodup
theorem CScope.of (h1:X.env.scope=osc)(h2:X.N=N)(h3:J7 osc N scope tN capN caps=true):CScope X scope tN capN caps:=by
 unfold J7 at h3;simp only[Ln,LC,Bool.or_eq_true,NZ,bne_iff_ne,MN,ne_eq]at h3;obtain⟨⟨⟨⟨⟨⟨⟨⟨⟨a1,a2⟩,a3⟩,a4⟩,a5⟩,a6⟩,a7⟩,a8⟩,a9⟩,a10⟩:=h3;subst h1 h2;refine⟨a1,a2,λy hy hl=>(a3 y hy).resolve_left λz=>z hl,a4,λy hy hf=>(a5 y hy).resolve_left λz=>z hf,⟨λk y e=>?_,a8,a9,a7⟩,a10⟩;have hk:k<capN.length:=(KA.mp e).1;have hk2:k<caps.length:=by lia
 refine⟨caps[k],by simp[hk2],?_⟩;have hm:(y,caps[k])∈capN.zip caps:=by
  have:(capN.zip caps)[k]?=some (y,caps[k]):=by rw[List.getElem?_zip_eq_some];exact⟨e,by simp[hk2]⟩
  exact Ll this
 exact a6 _ hm
structure Fn (K:Oy) (mg:Str->Option OA) (x:Str) (st:Stmt) (ps:List Str) (f:Addr) (fd:FuncData):Prop where
 fu:Fun K x x st f fd
 bi:Binds K fd ps []
 gl:mg x=some (.ref f)
section
variable {X:Cx}{E:XK}
end
def Jr (F:List D->Res R):Sp:=λvs H Q _=>vs.length=1/\∃ ds Ma r,IsAll H Ma ds vs/\F ds=.ok r/\∀ v H',Same H H'->RetOk (HI H Ma) H' v r->Q v H'
theorem pU:∀ ns:List Int,IsAll H m (ns.map D.int) (ns.map V.int)
 | []=>rfl
 |n::r=>⟨.int n,r.map V.int,rfl,rfl,pU r⟩
theorem Gk (hF:∀ ns:List Int,ns.length<=63->∃ f al,F [.lst (ns.map .int)]=.ok (.val (.bl true) f al))(H:Hp)(a:Addr)(ns:List Int)(hl:ns.length<=63)(hS:∃ o,H a=some (.frz o (.lst (ns.map V.int)))) :
 Jr F [.ref a] H (λv _=>v=.bl true) λ_ _ _=>False:=by
 obtain⟨f,al,e⟩:=hF ns hl;obtain⟨o,hS⟩:=hS;exact⟨rfl,[.lst (ns.map .int)],λb=>b=a,_,⟨_,[],rfl,⟨a,ns.map V.int,rfl,.inr ⟨o,hS,rfl⟩,pU ns⟩,rfl⟩,e,λv H' _ h=>h⟩
section
variable {P:Oz}{w:World}{K:Oy}{mg:Str->Option OA}{base:Heap}
theorem FnOk.top (h:FnOk P w K mg base CX k f fd ps (pO mg 1 F)):FnOk P w K mg base CX k f fd ps (Jr F):=h.imp λvs H Q E ⟨hl,ds,Ma,r,is,e,q⟩=>⟨hl,ds,Ma,is,by rw[e];exact q⟩
end
section
variable {P:Oz}{w:World}{K:Oy}{mg:Str->Option OA}{base:Heap}{N:List Str}{qual:Str}{scope:Scope}{f:Addr}{cd:OA}{A:OB}{outer:List Env}{s₀:Ox}{H₀:Hp}{E:XK}
end
section
variable {X:Cx}{E:XK}{hc:Str}{Ch:Addr}{cs:List Str}{np hpos pos epos p cpos:Pos}{b₀:Stmt}{suite:List Stmt}{fsu:En->Res Fl}{k:Nat}{f:Addr}{fd:FuncData}{ps:List Str}{F:List D->Res R}{x:Str}{e:Expr}{es:List Expr}{fs:En->Res (List R)}
end
section
variable {h:Heap}{z TI TO i1 i2 a b:Addr}{i:Nat}{its its2:Array OA}
end
section
variable {X:Cx}{E:XK}{es:List Expr}{k:Nat}{j5:Pos}
end
section
variable {X:Cx}{E:XK}
def JQ (k:Int->Int->Int):List R->Res R
 | [r,q]=>match r.d,q.d with
  | .int i,.int j=>.ok (.val (.int (k i j)) true [])
  |_,_=>.stuck
 |_=>.stuck
def DA:List R->Res R:=JQ λi j=>if j<i then j else i
theorem HZ (h:CallR X f (λxs H Q=>∃ i j,xs=[.int i,.int j]/\Q (.int (k i j)) H)):ky X E f (JQ k):=by
 refine⟨_,h,λg M ρ env σ H Q rs vs rep i p=>?_⟩
 match rs,i,p with
 | [r,q],i,p=>
  obtain⟨v,w,rfl,i1,v2,w2,rfl,i2,i3⟩:=i;cases i3;have i1:Is H (vmsk g M (bX [r,q]) ρ (dk [r,q])) r.d v:=i1;have i2:Is H (vmsk g M (bX [r,q]) ρ (dk [r,q])) q.d v2:=i2;unfold JQ at p;dsimp only at p;cases z:r.d with
  |int a=>
   cases z2:q.d with
   |int b=>rw[z]at i1;rw[z2]at i2;rw[z,z2]at p;cases i1;cases i2;exact⟨a,b,rfl,p _ M H (Ext.refl _ _) rep rfl⟩
   |_=>rw[z,z2]at p;exact p.elim
  |_=>rw[z]at p;exact p.elim
 | [],_,p=>exact p.elim
 | [_],_,p=>exact p.elim
 |_::_::_::_,_,p=>exact p.elim
theorem Gm (hc:X.calm=true):ky X E (.builtin "min") DA:=HZ (yL hc)
def A7 (fa:En->Res R):En->Res R:=λenv=>(fa env).bind λra=>match ra.d with
 | .int i=>.ok (.val (.int (-i)) true [])
 |_=>.stuck
theorem A8 (ha:PD X E a fa):PD X E (.UnaryOp .USub a pos) (A7 fa):=by
 obtain⟨ta,pa,sa⟩:=ha;refine⟨_,Hr FP pa,λg M ρ env σ H Q rep p=>sa.oneE rep p λr v M' H' e rep' i p'=>?_⟩;cases q:r.d with
 |int b=>rw[q]at i;simp only[q]at p';cases i;exact⟨b,rfl,p' _ M' H' (Ext.refl _ _) rep' rfl⟩
 |_=>simp only[q]at p';exact p'.elim
def A9 (fa:En->Res R):En->Res Bool:=λenv=>(fa env).bind λra=>.ok ra.d.isNon
def xT (fa:En->Res R):En->Res Bool:=λenv=>(fa env).bind λra=>.ok (!ra.d.isNon)
theorem tF (ha:PD X E a fa):uD X E (.Compare a [.Is] [.Constant .none j pos'] pos) (A9 fa):=Do ha
theorem uL (ha:PD X E a fa):uD X E (.Compare a [.IsNot] [.Constant .none j pos'] pos) (xT fa):=AQ ha
open Classical in
def jr (H:Hp)(m:Addr->Prop)(x:D)(u:OA):Bool:=decide (∃ d v,RelV v u/\Is H m d v/\ji d x=true)
theorem rP (r:RelV v u)(h:Is H m d v):jr H m x u=ji d x:=by
 unfold jr;cases q:ji d x with
 |true=>exact @Kz _ (Classical.propDecidable _) ⟨d,v,r,h,q⟩
 |false=>refine @KL _ (Classical.propDecidable _) λ⟨d',v',r',h',q'⟩=>?_;have e:=L2.RelV.inj r r';subst e;have e:=Is.inj h h';subst e;rw[q]at q';cases q'
theorem nC:∀{ds:List D}{vs:List V}{us:List OA},IsAll H m ds vs->Vals vs us->us.any (jr H m x)=ds.any λd=>ji d x
 | [],_,_,h,r=>by cases h;cases r;rfl
 |d::ds,_,_,h,r=>by
  obtain⟨v,w,rfl,h1,h2⟩:=h;cases r with
  |cons r1 r2=>rw[L6,L6,rP r1 h1,nC h2 r2]
def H_ (neg:Bool)(K:Oy):R2:=λx y H Q=>∃ p ds vs d m m',y=.ref p/\(SqL K H p vs\/SqT K H p vs)/\IsAll H m ds vs/\Is H m' d x/\(D.deps ds<=50/\d.dep<=50)/\Q (.bl (if neg then !(ds.any λe=>ji e d) else ds.any λe=>ji e d)) H
theorem nE (I:L2.Inv X pins σ H s)(hu:A.units+50<cLine)(hx:Is H m' d x)(hE:d.dep<=50)(rx:RelV x v) :
 ∀{ds:List D}{vs:List V}{us:List OA},IsAll H m ds vs->Vals vs us->D.deps ds<=50->∀ u∈us,SeqAt.EqAt A s u v (jr H m d u)
 | [],_,_,h,r,_=>λu hu=>by cases h;cases r;cases hu
 |e::ds,_,_,h,r,hd=>λu hm=>by
  obtain⟨y,w,rfl,h1,h2⟩:=h;have hd':max e.dep (D.deps ds)<=50:=hd;cases r with
  |cons r1 r2=>
   rcases KB.mp hm with rfl|hm
   .rw[rP r1 h1];exact AF I.hok 50 A hu (by lia) (by lia) (by lia) h1 hx r1 rx
   .exact nE I hu hx hE rx h2 r2 (by lia) u hm
theorem Gn (hu:X.A.units+64<cLine):OpR X (compareOp .In) (H_ false X.K):=by
 intro pins s σ H x y v u Q I rx ry h;obtain⟨p,ds,vs,d,m,m',rfl,hq,hi,hx,hd,q⟩:=h;cases ry;rcases hq with hq|hq
 .obtain⟨its,r,pl,hz⟩:=I.list hq;refine SeqAt.in_listAt (jr H m d) pl.isList (λw hw=>nE I (by show X.A.units+1+50<cLine;lia) hx hd.2 rx hi r hd.1 w (by simpa using hw)) ⟨.bl _,H,I,rfl,?_⟩;rw[show its.toArray.any (jr H m d)=its.any (jr H m d) by simp,nC hi r];exact q
 .obtain⟨its,r,pl,hz⟩:=I.tuple hq;refine SeqAt.in_tupleAt (jr H m d) pl (λw hw=>nE I (by show X.A.units+1+50<cLine;lia) hx hd.2 rx hi r hd.1 w (by simpa using hw)) ⟨.bl _,H,I,rfl,?_⟩;rw[show its.toArray.any (jr H m d)=its.any (jr H m d) by simp,nC hi r];exact q
def He (neg:Bool)(x:D)(ds:List D):Res R:=if D.deps ds<=50/\x.dep<=50 then .ok (.val (.bl (if neg then !(ds.any λe=>ji e x) else ds.any λe=>ji e x)) true []) else .stuck
def zg (neg:Bool)(a b:R):Res R:=match b.d with
 | .lst ds=>He neg a.d ds
 | .tup ds=>He neg a.d ds
 |_=>.stuck
def Kj:R->R->Res R:=zg false
theorem Gp (h:OpR X f (H_ neg X.K)):pM X E f (zg neg):=by
 refine⟨_,h,λg M ρ env σ H Q ra rb x y rep i1 i2 p=>?_⟩;unfold zg at p;have key:∀ ds,PostE X.mg E g M ρ env σ H Q (He neg ra.d ds)->(D.deps ds<=50/\ra.d.dep<=50)/\Q (.bl (if neg then !(ds.any λe=>ji e ra.d) else ds.any λe=>ji e ra.d)) H:=λds p=>by
  unfold He at p;by_cases hd:D.deps ds<=50/\ra.d.dep<=50
  .rw[Ku hd]at p;exact⟨hd,p _ M H (Ext.refl _ _) rep rfl⟩
  .rw[Kv hd]at p;exact p.elim
 cases e2:rb.d with
 |lst ds=>rw[e2]at p i2;obtain⟨a,vs,rfl,h1,h2⟩:=i2.rd;obtain⟨k1,k2⟩:=key ds p;exact⟨a,ds,vs,ra.d,_,_,rfl,.inl (.inl h1),h2,i1,k1,k2⟩
 |tup ds=>rw[e2]at p i2;obtain⟨a,vs,rfl,h1,h2⟩:=i2;obtain⟨k1,k2⟩:=key ds p;exact⟨a,ds,vs,ra.d,_,_,rfl,.inr (SqT.of h1),h2,i1,k1,k2⟩
 |_=>rw[e2]at p;exact p.elim
theorem Ia (hu:X.A.units+64<cLine):pM X E (compareOp .In) Kj:=Gp (Gn hu)
end
end L3
namespace L2
open PySem PySem.Spec PySem.Calls PyProof.Rows
section
variable {K:Oy}{x C:Addr}{c:OA}
end
section
variable {X:Cx}{pins:List (Addr×Obj)}{σ:St}{H:Hp}{s:Ox}{x:Addr}{o:Obj}
end
section
variable {X:Cx}{hc:Str}{Ch:Addr}{np hpos pos epos:Pos}{b₀:Stmt}{suite:List Stmt}{ts:Addr->Addr->TS}{te:TX}{e:Expr}{i:Nat}{n:Str}
end
section
variable {X:Cx}{i iw:Nat}{n y b1 b2:Str}{s1 s2:Str}{py p1 p2 p3 p4 p5 p6 p7 p8 p9 p10 p11 p12 p13 p14 p15 lp:Pos}{j1 j2}{T1:String}{Ch2:Addr}
end
end L2
namespace L3
open PySem PySem.Spec PyProof.Rows L2
section
variable {X:Cx}{E:XK}{i iw:Nat}{n y b1 b2:Str}{s1 s2:Str}{py p1 p2 p3 p4 p5 p6 p7 p8 p9 p10 p11 p12 p13 p14 p15 lp:Pos}{j1 j2}{T1:String}{Ch2:Addr}
variable {hc:Str}{Ch:Addr}{cs:List Str}{np hpos pos epos p cpos:Pos}{k:Nat}{f:Addr}{fd:FuncData}{ps:List Str}{F:List D->Res R}{x:Str}{e:Expr}{es:List Expr}{fs:En->Res (List R)}
end
noncomputable def A_:D->Option Key
 | .int i=>some (.inl i)
 | .str x=>some (.inr x)
 |_=>none
def n_:List D->Option (List Key)
 | []=>some []
 |d::ds=>match A_ d,n_ ds with
  |some k,some ks=>some (k::ks)
  |_,_=>none
def keyT:D->Option (List Key)
 | .tup ds=>n_ ds
 |_=>none
def Ba:D->Option (List Key×D)
 | .tup [k,v]=>(keyT k).map λks=>(ks,v)
 |_=>none
def i9:List D->Option (List (List Key×D))
 | []=>some []
 |d::ds=>match Ba d,i9 ds with
  |some p,some ps=>some (p::ps)
  |_,_=>none
def rQ (t:List (List Key×D))(k:List Key)(d:D):List (List Key×D):=if (t.any λx=>decide (x.1=k))=true then t.map (λx=>if x.1=k then (x.1,d) else x) else t++[(k,d)]
def lI (t ps:List (List Key×D)):List (List Key×D):=ps.foldl (λt x=>rQ t x.1 x.2) t
def uM (ps:List (List Key×D)):D:=.dic ((lI [] ps).map λp=>.inr p.1) ((lI [] ps).map Prod.snd)
def rR:List R->Res R
 | [r]=>match r.d with
  | .lst ds=>match i9 ds with
   |some ps=>if D.flats ((lI [] ps).map Prod.snd) then .ok (.fre (uM ps)) else .stuck
   |none=>.stuck
  |_=>.stuck
 |_=>.stuck
section
variable {H:Hp}{m:Addr->Prop}
theorem Is.key (h:Is H m d v)(e:A_ d=some k):v=kV k:=by
 cases d with
 |int i=>cases e;exact h
 |str x=>cases e;exact h
 |_=>cases e
theorem IsAll.keys:∀{ds:List D}{vs:List V}{ks:List Key},IsAll H m ds vs->n_ ds=some ks->vs=ks.map kV
 | [],_,_,h,e=>by cases h;cases e;rfl
 |d::ds,_,ks,h,e=>by
  obtain⟨v,r,rfl,h1,h2⟩:=h;unfold n_ at e;cases q:A_ d with
  |none=>rw[q]at e;cases e
  |some k=>
   cases q2:n_ ds with
   |none=>rw[q,q2]at e;cases e
   |some ks'=>rw[q,q2]at e;cases e;rw[h1.key q,IsAll.keys h2 q2];rfl
theorem Is.keyT (h:Is H m d v)(e:L3.keyT d=some k):∃ b,v=.ref b/\H b=some (.tup (k.map kV)):=by
 cases d with
 |tup ds=>obtain⟨a,vs,rfl,h1,h2⟩:=h;have e:n_ ds=some k:=e;rw[IsAll.keys h2 e]at h1;exact⟨a,rfl,h1⟩
 |_=>cases e
def RKV (H:Hp)(m:Addr->Prop):List (List Key×V)->List (List Key×D)->Prop:=Paired λa b=>a.1=b.1/\Is H m b.2 a.2
theorem RKV.fst (r:RKV H m a b):a.map Prod.fst=b.map Prod.fst:=by
 induction r with
 |nil=>rfl
 |cons h _ ih=>rw[Kr,Kr,ih,h.1]
theorem RKV.snd (r:RKV H m a b):IsAll H m (b.map Prod.snd) (a.map Prod.snd):=by
 induction r with
 |nil=>rfl
 |cons h _ ih=>exact⟨_,_,rfl,h.2,ih⟩
theorem RKV.append (r:RKV H m a b)(s:RKV H m c d):RKV H m (a++c) (b++d):=by
 induction r with
 |nil=>exact s
 |cons h _ ih=>exact .cons h ih
theorem RKV.any (r:RKV H m a b)(k:List Key):(a.any λx=>decide (x.1=k))=(b.any λx=>decide (x.1=k)):=by
 induction r with
 |nil=>rfl
 |cons h _ ih=>rw[L6,L6,ih,h.1]
theorem RKV.repl (r:RKV H m a b)(h:Is H m d v):RKV H m (a.map λx=>if x.1=k then (x.1,v) else x) (b.map λx=>if x.1=k then (x.1,d) else x):=by
 induction r with
 |nil=>exact .nil
 | @cons p q ps qs hq t ih=>
  refine .cons ?_ ih;dsimp only;by_cases e:p.1=k
  .rw[Ku e,Ku (hq.1▸e)];exact⟨hq.1,h⟩
  .rw[Kv e,Kv (λz=>e (hq.1.trans z))];exact hq
theorem RKV.put (r:RKV H m a b)(h:Is H m d v):RKV H m (cf a k v) (rQ b k d):=by
 unfold cf rQ;rw[r.any k];split
 .exact r.repl h
 .exact r.append (.cons ⟨rfl,h⟩ .nil)
theorem uN:∀{ds:List D}{vs:List V}{ps:List (List Key×D)},IsAll H m ds vs->i9 ds=some ps->∃ kvs,sO H vs kvs/\∀ a b,RKV H m a b->RKV H m (ko a kvs) (lI b ps)
 | [],_,_,h,e=>by cases h;cases e;exact⟨[],.nil,λa b r=>r⟩
 |d::ds,_,ps,h,e=>by
  obtain⟨v,r,rfl,h1,h2⟩:=h;unfold i9 at e;cases q:Ba d with
  |none=>rw[q]at e;cases e
  |some p=>
   cases q2:i9 ds with
   |none=>rw[q,q2]at e;cases e
   |some ps'=>
    rw[q,q2]at e;cases e;obtain⟨kvs,k1,k2⟩:=uN h2 q2;unfold Ba at q;split at q
    .rename_i kd vd;obtain⟨a,vs2,rfl,g1,g2⟩:=h1;obtain⟨y1,r1,rfl,i1,y2,r2,rfl,i2,i3⟩:=g2;cases i3;cases q3:keyT kd with
     |none=>rw[q3]at q;cases q
     |some kk=>rw[q3]at q;cases q;obtain⟨ka,rfl,hka⟩:=i1.keyT q3;exact⟨(kk,y2)::kvs,.cons ⟨a,ka,rfl,g1,hka⟩ k1,λa b r=>k2 _ _ (r.put i2)⟩
    .cases q
end
section
variable {X:Cx}{E:XK}
theorem xU (rep:Rep g M ρ env σ H)(hb:H b=none)(is:Is H' (λa=>a=b) d (.ref b))(mu:Mu H' b):ROk g M ρ H H' (.ref b) (.fre d):=by obtain⟨h0,hm,ho⟩:=rep.free hb;exact⟨λa=>a=b,λa e=>by subst e;exact⟨hm,hb,mu,ho⟩,is⟩
theorem xV:PD X E (.Dict [] [] pos) (λ_=>.ok (.fre (.dic [] []))):=by refine⟨_,uu,λg M ρ env σ H Q rep p b hb=>?_⟩;have s:Same H (aB H b (.dK [])):=aE hb;exact p _ M _ ⟨λ_ z=>z,s,λ_ z=>.inl z⟩ (rep.grow s) (xU rep hb ⟨b,[],rfl,⟨.inl ⟨[],.inl ac,rfl,rfl⟩,rfl⟩,rfl⟩ ⟨_,ac,True.intro⟩)
theorem DB (hc:X.calm=true) (hu:X.A.units+64<cLine):ky X E (.type "dict") rR:=by
 refine⟨_,wt hc hu,λg M ρ env σ H Q rs vs rep i p=>?_⟩
 match rs,i,p with
 | [r],i,p=>
  obtain⟨v,w,rfl,i1,i2⟩:=i;cases i2;have i1:Is H (vmsk g M (bX [r]) ρ (dk [r])) r.d v:=i1;replace i1:=i1.weak λ_ z=>sY z;unfold rR at p;dsimp only at p;cases q:r.d with
  |lst ds=>
   rw[q]at p i1;dsimp only at p;cases q2:i9 ds with
   |none=>rw[q2]at p;exact p.elim
   |some ps=>
    rw[q2]at p;obtain⟨a,ws,rfl,h1,h2⟩:=i1.rd;obtain⟨kvs,k1,k2⟩:=uN h2 q2;refine⟨a,ws,kvs,rfl,h1,k1,λb hb=>?_⟩;have rk:=k2 [] [] .nil;have s:Same H (aB H b (.dT (ko [] kvs))):=aE hb;dsimp only at p;by_cases hf:D.flats ((lI [] ps).map Prod.snd)=true
    .rw[Ku hf]at p;refine p _ M _ ⟨λ_ z=>z,s,λ_ z=>.inl z⟩ (rep.grow s) (xU rep hb ⟨b,_,rfl,⟨.inr ⟨ko [] kvs,.inl ac,?_,rfl⟩,rfl⟩,IsAll.flat hf (IsAll.same s rk.snd)⟩ ⟨_,ac,True.intro⟩);have:=LA (List.map λk:List Key=>(Sum.inr k:DK)) rk.fst;rw[KZ,KZ]at this;exact this.symm
    .rw[Kv hf]at p;exact p.elim
  |_=>rw[q]at p;exact p.elim
 | [],_,p=>exact p.elim
 |_::_::_,_,p=>exact p.elim
def keyX:D->Option DK
 | .int i=>some (.inl (.inl i))
 | .str x=>some (.inl (.inr x))
 | .tup ds=>(n_ ds).map .inr
 |_=>none
noncomputable def kin:DK->DK->Bool
 | .inl _,.inl _=>true
 | .inr _,.inr _=>true
 |_,_=>false
noncomputable def lP (ks:List DK)(k:DK):Bool:=ks.any λx=>decide (x=k)
def Bb (neg:Bool)(a:D)(ks:List DK):Res R:=match keyX a with
 |some k=>if ks.all (kin k) then .ok (.val (.bl (if neg then !lP ks k else lP ks k)) true []) else .stuck
 |none=>.stuck
def Bc (neg:Bool)(a b:R):Res R:=match b.d with
 | .dic ks _=>Bb neg a.d ks
 |_=>zg neg a b
def Gq:R->R->Res R:=Bc false
noncomputable def Ib (neg:Bool):R2:=λx y H Q=>∃ a o,y=.ref a/\nZ H a x o/\Q (.bl (if neg then !o.isSome else o.isSome)) H
theorem Gr (hu:X.A.units+64<cLine):OpR X (compareOp .In) (Ib false):=by intro pins s σ H x y v u Q I rx ry h;obtain⟨a,o,rfl,g,q⟩:=h;cases ry;exact HG (by lia) I g rx λs' I'=>⟨.bl _,H,I',rfl,q⟩
theorem pV {κ:Type}[DecidableEq κ]{kvs:List (κ×V)}(inj:κ->DK)(hi:∀ a b,inj a=inj b->a=b)(k:κ):(fS kvs k).isSome=lP (kvs.map λp=>inj p.1) (inj k):=by
 unfold lP;induction kvs with
 |nil=>rfl
 |cons p r ih=>
  rw[Kr,L6];by_cases e:p.1=k
  .rw[iV e,Kz (LA inj e)];rfl
  .rw[iW e,ih,KL (λz=>e (hi _ _ z)),Oh]
theorem Is.keyX (h:Is H m d v)(e:L3.keyX d=some k):(∃ k0,k=.inl k0/\v=kV k0)\/∃ k0 b,k=.inr k0/\v=.ref b/\H b=some (.tup (k0.map kV)):=by
 cases d with
 |int i=>cases e;exact .inl ⟨_,rfl,h⟩
 |str x=>cases e;exact .inl ⟨_,rfl,h⟩
 |tup ds=>have e:(n_ ds).map Sum.inr=some k:=e;obtain⟨k0,hk,rfl⟩:=Lc.mp e;obtain⟨b,e1,e2⟩:=Is.keyT (d:=.tup ds) h hk;exact .inr ⟨k0,b,rfl,e1,e2⟩
 |_=>cases e
theorem DC (h:DAt H a ks vs)(hx:Is H m d x)(e:L3.keyX d=some k)(hk:ks.all (kin k)=true):∃ o,nZ H a x o/\o.isSome=lP ks k:=by
 rcases hx.keyX e with⟨k0,rfl,rfl⟩|⟨k0,b,rfl,rfl,hb⟩
 .rcases h with⟨kvs,e1,rfl,rfl⟩|⟨kvs,e1,rfl,rfl⟩
  .exact⟨_,.inl (.inl ⟨kvs,k0,e1,rfl,rfl⟩),pV Sum.inl (λ_ _ z=>N0 z) k0⟩
  .cases kvs with
   |nil=>exact⟨none,.inr (.inl ⟨e1,⟨k0,rfl⟩,rfl⟩),rfl⟩
   |cons p r=>simp[kin]at hk
 .rcases h with⟨kvs,e1,rfl,rfl⟩|⟨kvs,e1,rfl,rfl⟩
  .cases kvs with
   |nil=>exact⟨none,.inr (.inr ⟨e1,⟨b,k0,rfl,hb⟩,rfl⟩),rfl⟩
   |cons p r=>simp[kin]at hk
  .exact⟨_,.inl (.inr ⟨kvs,k0,b,e1,rfl,hb,rfl⟩),pV Sum.inr (λ_ _ z=>MG z) k0⟩
theorem Gs (h1:pM X E f (zg neg))(h2:OpR X f (Ib neg)):pM X E f (Bc neg):=by
 obtain⟨r,o1,s1⟩:=h1;refine⟨_,o1.or h2,λg M ρ env σ H Q ra rb x y rep i1 i2 p=>?_⟩;unfold Bc at p;cases q:rb.d with
 |dic ks ds=>
  right;rw[q]at p i2;dsimp only at p;unfold Bb at p;cases q2:keyX ra.d with
  |none=>rw[q2]at p;exact p.elim
  |some k=>
   rw[q2]at p;dsimp only at p;by_cases hk:ks.all (kin k)=true
   .rw[Ku hk]at p;obtain⟨a,vs,rfl,h1,h2⟩:=i2;obtain⟨o,g1,g2⟩:=DC h1.1 i1 q2 hk;refine⟨a,o,rfl,g1,?_⟩;rw[g2];exact p _ M H (Ext.refl _ _) rep rfl
   .rw[Kv hk]at p;exact p.elim
 |_=>left;refine s1 g M ρ env σ H Q ra rb x y rep i1 i2 ?_;rw[q]at p;exact p
theorem Gu (hu:X.A.units+64<cLine):pM X E (compareOp .In) Gq:=Gs (Ia hu) (Gr hu)
def xW:List DK->List D->DK->D->List D
 |k'::ks,d'::ds,k,d=>(if k'=k then d else d')::xW ks ds k d
 |_,_,_,_=>[]
def jR (ks:List DK)(ds:List D)(k:DK)(d:D):D:=if lP ks k then .dic ks (xW ks ds k d) else .dic (ks++[k]) (ds++[d])
theorem xX {κ:Type}[DecidableEq κ](inj:κ->DK)(hi:∀ a b,inj a=inj b->a=b){H:Hp}{m:Addr->Prop}{kvs:List (κ×V)}{ds:List D}{k:κ}{v:V}{d:D}(h:IsAll H m ds (kvs.map Prod.snd))(hv:Is H m d v) :
 ∃ ks' ds',jR (kvs.map λp=>inj p.1) ds (inj k) d=.dic ks' ds'/\ks'=(cf kvs k v).map (λp=>inj p.1)/\IsAll H m ds' ((cf kvs k v).map Prod.snd):=by
 have hany:lP (kvs.map λp=>inj p.1) (inj k)=kvs.any λp=>decide (p.1=k):=by unfold lP;rw[List.any_map];congr 1;funext p;exact Os.mpr ⟨hi _ _,LA inj⟩
 unfold jR cf;rw[hany];by_cases e:(kvs.any λp=>decide (p.1=k))=true
 .rw[Ku e,Ku e];refine⟨_,_,rfl,?_,?_⟩
  .rw[KZ];refine L7 λp _=>?_;show inj p.1=inj (if p.1=k then (p.1,v) else p).1;split<;>rfl
  .clear e hany;induction kvs generalizing ds with
   |nil=>
    cases ds with
    |nil=>exact rfl
    |cons d0 r=>obtain⟨_,_,z,_⟩:=h;cases z
   |cons p r ih=>
    cases ds with
    |nil=>cases h
    |cons d0 ds=>
     obtain⟨v0,r0,z,i1,i2⟩:=h;cases z;have:=ih i2;refine⟨_,_,rfl,?_,this⟩;dsimp only;by_cases e:p.1=k
     .rw[Ku (LA inj e),Ku e];exact hv
     .rw[Kv (λz=>e (hi _ _ z)),Kv e];exact i1
 .rw[Kv e,Kv e];exact⟨_,_,rfl,by simp,by rw[K6];exact h.append ⟨v,[],rfl,hv,rfl⟩⟩
def rS (i:Nat)(env:En)(ks:List DK)(ds:List D)(d:D)(k:R):Res Fl:=match keyX k.d with
 |some x=>if ks.all (kin x)/\ks.length<lim then .ok (.nx (env.set i (some (.tre (jR ks ds x d))))) else .stuck
 |none=>.stuck
def rT (i:Nat)(fk:En->Res R)(env:En)(ks:List DK)(ds:List D)(r:R):Res Fl:=if r.d.flat then (fk env).bind (rS i env ks ds r.d) else .stuck
def rV (i:Nat)(fk fv:En->Res R):En->Res Fl:=λenv=>match env[i]? with
 |some (some (.tre (.dic ks ds)))=>(fv env).bind (rT i fk env ks ds)
 |_=>.stuck
def Bd (mk:D->Sl)(i:Nat)(env:En)(ks:List DK)(ds:List D)(d:D)(k:R):Res Fl:=match keyX k.d with
 |some x=>if ks.all (kin x)/\ks.length<lim then .ok (.nx (env.set i (some (mk (jR ks ds x d))))) else .stuck
 |none=>.stuck
def Be (mk:D->Sl)(i:Nat)(fk:En->Res R)(env:En)(ks:List DK)(ds:List D)(r:R):Res Fl:=if r.d.flat then (fk env).bind (Bd mk i env ks ds r.d) else .stuck
theorem Bf {fk fv:En->Res R}{M:Addr->Prop}{σ:St}{H:Hp}{D:Ends}{ks:List DK}{ds:List L3.D}(mk:L3.D->Sl)(P0:Gd->V->Prop)(hmk:∀(g:Gd)(M T:Addr->Prop)(H:Hp)(v:V)(d:L3.D),SlOk g M T H v (mk d)↔Is H T d v/\P0 g v)(hmo':∀ d,(mk d).isO=true)
 (s1:Snd X.mg E tk fk) (s2:Snd X.mg E tv fv) (rep:Rep g M ρ env σ H) (hq:env[i]?=some (some (mk (.dic ks ds)))) (p:PostS X.mg E g M H D ((fv env).bind (Be mk i fk env ks ds))):Az (aw i) tk tv D σ H:=by
 have hi:i<env.length:=(KA.mp hq).1;refine s2.oneS rep p λr v M1 H1 e1 rep1 ro p1=>?_;obtain⟨M1',x1,x1m,rep1',is1⟩:=ro.is rep1 e1 rep.same;unfold Be at p1;by_cases hf:r.d.flat=true
 .rw[Ku hf]at p1;obtain⟨va,ev,ka⟩:=rep1'.slot i _ hq;obtain⟨ka,hroot⟩:=(hmk g M1' (ρ i) H1 va (.dic ks ds)).mp ka;obtain⟨a,vs,rfl,⟨dat,pa⟩,hall⟩:=ka;refine⟨.ref a,ev,s1.oneS rep1' (PostS.frz ⟨x1m,λ_ _ q _=>q⟩ p1) λrk y M2 H2 e2 rep2 rok p2=>?_⟩;obtain⟨M2',x2,x2m,rep2',is2⟩:=rok.is rep2 e2 rep1'.same;unfold Bd at p2;cases qk:keyX rk.d with
  |none=>rw[qk]at p2;exact p2.elim
  |some x=>
   rw[qk]at p2;dsimp only at p2;by_cases hc:ks.all (kin x)=true/\ks.length<lim
   .rw[Ku hc]at p2;have dat2:DAt H2 a ks vs:=dat.keep λo e=>e2.h _ _ e;have hall2:IsAll H2 (ρ i) ds vs:=hall.same e2.h;have hv2:Is H2 (ρ i) r.d v:=Is.flat hf (is1.same e2.h);have kd:Is H2 (ρ i) (.dic ks ds) (.ref a):=⟨a,vs,rfl,⟨dat2,pa⟩,hall2⟩;have inner:IsAll H2 (λb=>ρ i b/\b≠a) ds vs:=IsAll.avoid kd (by simp only[L3.D.sz];lia) hall2;have hv3:Is H2 (λb=>ρ i b/\b≠a) r.d v:=Is.flat hf hv2;have nofz:∀ o u,H2 a≠some (.frz o u):=λo u z=>by obtain⟨_,_,uo,q,qm⟩:=rep2'.priv i a pa;rw[z]at q;cases q;exact qm
    obtain⟨uo,huo,hmo⟩:=dat2.mu nofz;have rdn:∀ u,Rd H2 a u->H2 a=some u:=λu z=>z.elim id λ⟨o,z⟩=>(nofz _ _ z).elim;have nfx:∀ u,H2 a=some u->¬ fixd u:=λu e z=>by rw[huo]at e;cases e;cases uo<;>first|exact z|exact hmo
    have fin:∀(u':HO)(ks':List DK)(ds':List L3.D)(vs':List V),F6 u'->DAt (aB H2 a u') a ks' vs'->jR ks ds x r.d=.dic ks' ds'->IsAll H2 (λb=>ρ i b/\b≠a) ds' vs'->D.nx σ (aB H2 a u'):=λu' ks' ds' vs' hu' hd he hall'=>by
     rw[he]at p2;have hall3:IsAll (aB H2 a u') (ρ i) ds' vs':=hall'.mono (λb u q z=>by
      rw[aa]
      .exact q
      .rintro rfl;rcases z with z|z
       .exact z.2 rfl
       .exact nfx u q z) λ_ _ _ z=>z.1
     obtain⟨f1,rep3⟩:=rep2'.writeO (u':=u') hu' pa hi ev (sl:=mk (.dic ks' ds')) ((hmk g M2' (ρ i) _ _ _).mpr ⟨⟨a,vs',rfl,⟨hd,pa⟩,hall3⟩,hroot⟩) (hmo' _);exact p2 σ M2' ρ _ (Frz.trans ⟨x2m,λ_ _ q _=>q⟩ f1) rep3
    refine⟨a,?_⟩;rcases is2.keyX qk with⟨k0,rfl,rfl⟩|⟨k0,b,rfl,rfl,hb⟩
    .rcases dat2 with⟨kvs,e1,rfl,rfl⟩|⟨kvs,e1,rfl,rfl⟩
     .obtain⟨ks',ds',g1,g2,g3⟩:=xX Sum.inl (λ_ _ z=>N0 z) (k:=k0) inner hv3;refine⟨_,rfl,.inl (DPut.k (rdn _ e1) (by have:=hc.2;rw[Kw]at this;exact sV this)),fin _ ks' ds' _ True.intro (.inl ⟨_,.inl ac,g2,rfl⟩) g1 g3⟩
     .cases kvs with
      |nil=>
       cases ds with
       |nil=>exact⟨_,rfl,.inr (.inl ⟨rdn _ e1,k0,rfl,rfl⟩),fin (.dK [(k0,v)]) [.inl k0] [r.d] [v] True.intro (.inl ⟨_,.inl ac,rfl,rfl⟩) rfl ⟨v,[],rfl,hv3,rfl⟩⟩
       |cons d0 ds0=>obtain⟨_,_,z,_⟩:=inner;cases z
      |cons q r0=>simp[kin]at hc
    .rcases dat2 with⟨kvs,e1,rfl,rfl⟩|⟨kvs,e1,rfl,rfl⟩
     .cases kvs with
      |nil=>
       cases ds with
       |nil=>exact⟨_,rfl,.inr (.inr ⟨rdn _ e1,b,k0,rfl,hb,rfl⟩),fin (.dT [(k0,v)]) [.inr k0] [r.d] [v] True.intro (.inr ⟨_,.inl ac,rfl,rfl⟩) rfl ⟨v,[],rfl,hv3,rfl⟩⟩
       |cons d0 ds0=>obtain⟨_,_,z,_⟩:=inner;cases z
      |cons q r0=>simp[kin]at hc
     .obtain⟨ks',ds',g1,g2,g3⟩:=xX Sum.inr (λ_ _ z=>MG z) (k:=k0) inner hv3;refine⟨_,rfl,.inl (DPut.t (rdn _ e1) hb (by have:=hc.2;rw[Kw]at this;exact sV this)),fin _ ks' ds' _ True.intro (.inr ⟨_,.inl ac,g2,rfl⟩) g1 g3⟩
   .rw[Kv hc]at p2;exact p2.elim
 .rw[Kv hf]at p1;exact p1.elim
theorem xY (hu:X.A.units+64<cLine)(ho:PE X o (aw i))(hk:PD X E ki fk)(hv:PD X E value fv)
 (hs:autoParam (swapsWith value (some (.Subscript o ki pos')) pos.line X.env=pure false) OH._auto_1):vZ X E (.Assign [.Subscript o ki pos'] value pos) (rV i fk fv):=by
 obtain⟨tk,p1,s1⟩:=hk;obtain⟨tv,p2,s2⟩:=hv;refine⟨_,AA (by lia) ho p1 p2 hs,λg M ρ env σ H D rep p=>?_⟩;unfold rV at p;split at p
 .rename_i ks ds hq;exact Bf .tre (λ_ _=>True) (λ_ _ _ _ _ _=>⟨λz=>⟨z,True.intro⟩,λz=>z.1⟩) (λ_=>rfl) s1 s2 rep hq p
 .exact p.elim
theorem mr:vZ X E (.Continue pos) (λenv=>.ok (.ct env)):=⟨_,ug,λg M ρ env σ H D rep p=>p σ M ρ H (Frz.refl _ _) rep⟩
def tG:List R->Res R
 | [r]=>match r.d with
  | .lst ds=>.ok (mkV (.tup ds) r.fr r.al)
  | .tup ds=>.ok (mkV (.tup ds) r.fr r.al)
  |_=>.stuck
 |_=>.stuck
theorem Bg:ky X E (.type "tuple") tG:=by
 refine⟨_,qS,λg M ρ env σ H Q rs vs rep i p=>?_⟩
 match rs,i,p with
 | [r],i,p=>
  obtain⟨v,w,rfl,i1,i2⟩:=i;cases i2;have i1:Is H (vmsk g M (bX [r]) ρ (dk [r])) r.d v:=i1;replace i1:=i1.weak λ_ z=>sY z;unfold tG at p;dsimp only at p;cases q:r.d with
  |lst ds=>rw[q]at p i1;obtain⟨a,ws,rfl,h1,h2⟩:=i1.rd;exact⟨a,ws,rfl,.inl ⟨.inl h1,λl hl=>p.tup rep hl h2⟩⟩
  |tup ds=>rw[q]at p i1;have i1':=i1;obtain⟨a,ws,rfl,h1,h2⟩:=i1;exact⟨a,ws,rfl,.inr ⟨SqT.of h1,p.val rep i1'⟩⟩
  |_=>rw[q]at p;exact p.elim
 | [],_,p=>exact p.elim
 |_::_::_,_,p=>exact p.elim
def Ic (k2:R->R->Res R)(fc:En->Res R)(env:En)(rb:R):R->Res R
 | .val (.bl true) _ _=>(fc env).bind λrc=>k2 rb rc
 | .val (.bl false) _ _=>.ok (.val (.bl false) true [])
 |_=>.stuck
def nF (k1 k2:R->R->Res R)(fa fb fc:En->Res R):En->Res R:=λenv=>(fa env).bind λra=>(fb env).bind λrb=>(k1 ra rb).bind (Ic k2 fc env rb)
theorem zh
 (h1:∀ g M ρ env σ H Q ra rb x y,Rep g M ρ env σ H->Is H (vmsk g M ra.fr ρ ra.al) ra.d x->Is H (vmsk g M rb.fr ρ rb.al) rb.d y->PostE mg E g M ρ env σ H Q (k1 ra rb)->r x y H Q)
 (h2:∀ g M ρ env σ H Q ra rb x y,Rep g M ρ env σ H->Is H (vmsk g M ra.fr ρ ra.al) ra.d x->Is H (vmsk g M rb.fr ρ rb.al) rb.d y->PostE mg E g M ρ env σ H Q (k2 ra rb)->r' x y H Q)
 (sa:Snd mg E ta fa) (sb:Snd mg E tb fb) (sc:Snd mg E tc fc):Snd mg E (Ad r r' ta tb tc) (nF k1 k2 fa fb fc):=by
 intro g M ρ env σ H Q rep p;refine sa.twoE sb rep p λra rb x y M1 H1 rep1 i1 i2 p1=>?_;refine h1 g M1 ρ env σ H1 _ ra rb x y rep1 i1 i2 ?_;cases q:k1 ra rb with
 |stuck=>rw[q]at p1;exact p1
 |exc c=>rw[q]at p1;exact p1
 |ok rr=>
  rw[q]at p1;have p1:PostE mg E g M1 ρ env σ H1 Q (Ic k2 fc env rb rr):=p1;unfold Ic at p1;intro v M2 H2 e2 rep2 ro;split at p1
  .cases (show v=.bl true from ro);refine⟨true,rfl,sN ?_⟩;have p2:=PostE.ext e2 p1;have i2':=Is.ext e2 i2;refine sc.oneE rep2 p2 λrc z M3 H3 e3 rep3 i3 p3=>?_;exact h2 g M3 ρ env σ H3 Q rb rc y z rep3 (Is.ext e3 i2') i3 p3
  .cases (show v=.bl false from ro);exact⟨false,rfl,uw (p1 (.bl false) M2 H2 e2 rep2 rfl)⟩
  .exact p1.elim
theorem nG (ho:pM X E (compareOp op) k1)(ho':pM X E (compareOp op') k2)(ha:PD X E a fa)(hb:PD X E b fb)(hc:PD X E c fc)
 (hm:lastMarks [op,op'] [b,c]=false:=by with_unfolding_all rfl):uD X E (.Compare a [op,op'] [b,c] pos) (vB (nF k1 k2 fa fb fc)):=by
 obtain⟨r,o1,h1⟩:=ho;obtain⟨r',o2,h2⟩:=ho';obtain⟨ta,pa,sa⟩:=ha;obtain⟨tb,pb,sb⟩:=hb;obtain⟨tc,pc,sc⟩:=hc;have S:=zh h1 h2 sa sb sc;refine⟨_,Ae o1 o2 pa pb pc hm,λg M ρ env σ H Q rep p=>S.oneT rep p λr v M' H' e rep' i p'=>?_⟩;cases q:r.d with
 |bl b=>rw[q]at i;simp only[q]at p';cases i;exact⟨b,rfl,p' M' H' (Ext.refl _ _) rep'⟩
 |_=>simp only[q]at p';exact p'.elim
end
def getD:List DK->List D->DK->Option D
 |k'::ks,d::ds,k=>if k'=k then some d else getD ks ds k
 |_,_,_=>none
def rW (ra rk:R):Res R:=match ra.d with
 | .dic ks ds=>match keyX rk.d with
  |some x=>if ks.all (kin x) then (match getD ks ds x with
   |some d=>.ok (mkV d ra.fr ra.al)
   |none=>.stuck) else .stuck
  |none=>.stuck
 |_=>.stuck
theorem oO {κ:Type}[DecidableEq κ](inj:κ->DK)(hi:∀ a b,inj a=inj b->a=b){H:Hp}{m:Addr->Prop}{k:κ}{d:D}:∀{kvs:List (κ×V)}{ds:List D},IsAll H m ds (kvs.map Prod.snd)->getD (kvs.map λp=>inj p.1) ds (inj k)=some d->∃ v,fS kvs k=some v/\Is H m d v
 | [],ds,_,e=>by cases ds<;>cases e
 |p::r,[],h,e=>by cases h
 |p::r,d0::ds,h,e=>by
  obtain⟨v0,r0,z,i1,i2⟩:=h;cases z;rw[Kr]at e;unfold getD at e;by_cases hk:p.1=k
  .rw[Ku (LA inj hk)]at e;cases e;exact⟨p.2,iV hk,i1⟩
  .rw[Kv (λz=>hk (hi _ _ z))]at e;obtain⟨v,e1,e2⟩:=oO inj hi i2 e;exact⟨v,by rw[iW hk];exact e1,e2⟩
section
variable {X:Cx}{E:XK}
theorem DD (hu:X.A.units+64<cLine)(ho:PD X E o fa)(hk:PD X E k fk)(hs:F1 k):PD X E (.Subscript o k pos) (v2 rW fa fk):=by
 obtain⟨ta,p1,s1⟩:=ho;obtain⟨tk,p2,s2⟩:=hk;refine⟨_,xC (by lia) p1 p2 hs,λg M ρ env σ H Q rep p=>s1.twoE s2 rep p λra rk x y M1 H1 rep1 i1 i2 q=>?_⟩;unfold rW at q;cases qa:ra.d with
 |dic ks ds=>
  rw[qa]at q i1;dsimp only at q;cases qk:keyX rk.d with
  |none=>rw[qk]at q;exact q.elim
  |some kx=>
   rw[qk]at q;dsimp only at q;by_cases hc:ks.all (kin kx)=true
   .rw[Ku hc]at q;obtain⟨a,vs,rfl,⟨dat,_⟩,hall⟩:=i1;cases qd:getD ks ds kx with
    |none=>rw[qd]at q;exact q.elim
    |some d=>
     rw[qd]at q;refine⟨a,?_⟩;rcases i2.keyX qk with⟨k0,rfl,rfl⟩|⟨k0,b,rfl,rfl,hb⟩
     .rcases dat with⟨kvs,e1,rfl,rfl⟩|⟨kvs,e1,rfl,rfl⟩
      .obtain⟨v,g1,g2⟩:=oO Sum.inl (λ_ _ z=>N0 z) hall qd;exact⟨v,rfl,by rw[<- g1];exact .inl ⟨kvs,k0,e1,rfl,rfl⟩,q.val rep1 g2⟩
      .cases kvs with
       |nil=>cases ds<;>cases qd
       |cons p r=>simp[kin]at hc
     .rcases dat with⟨kvs,e1,rfl,rfl⟩|⟨kvs,e1,rfl,rfl⟩
      .cases kvs with
       |nil=>cases ds<;>cases qd
       |cons p r=>simp[kin]at hc
      .obtain⟨v,g1,g2⟩:=oO Sum.inr (λ_ _ z=>MG z) hall qd;exact⟨v,rfl,by rw[<- g1];exact .inr ⟨kvs,k0,b,e1,rfl,hb,rfl⟩,q.val rep1 g2⟩
   .rw[Kv hc]at q;exact q.elim
 |_=>rw[qa]at q;exact q.elim
def Hf (ra:R)(ks:List DK)(ds:List D)(rk rz:R):Res R:=match keyX rk.d with
 |some x=>if ks.all (kin x) then (match getD ks ds x with
  |some d=>.ok (mkV d ra.fr ra.al)
  |none=>.ok (mkV rz.d rz.fr rz.al)) else .stuck
 |none=>.stuck
def JR (fx:En->Res R)(env:En)(ra:R)(ks:List DK)(ds:List D)(rk:R):Res R:=(fx env).bind (Hf ra ks ds rk)
def Ie (fk fx:En->Res R)(env:En)(ra:R):Res R:=match ra.d with
 | .dic ks ds=>(fk env).bind (JR fx env ra ks ds)
 |_=>.stuck
def pW (fa fk fx:En->Res R):En->Res R:=λenv=>(fa env).bind (Ie fk fx env)
theorem DAt.isD (h:DAt H a ks vs):EV H a:=h.imp (λ⟨kvs,e,_⟩=>⟨kvs,e⟩) λ⟨kvs,e,_⟩=>⟨kvs,e⟩
theorem xZ:∀{ks:List DK}{ds:List D}{k:DK},ks.length=ds.length->lP ks k=(getD ks ds k).isSome
 | [],ds,k,_=>by cases ds<;>rfl
 |k'::ks,[],k,h=>by cases h
 |k'::ks,d::ds,k,h=>by
  have ih:=xZ (ks:=ks) (ds:=ds) (k:=k) (by simpa using h);unfold lP getD;unfold lP at ih;rw[L6];by_cases e:k'=k
  .rw[Ku e,Kz e];rfl
  .rw[Kv e,KL e,Oh];exact ih
theorem uO (h:DAt H a ks vs)(hall:IsAll H m ds vs)(hx:Is H m' d x)(e:L3.keyX d=some k)(hk:ks.all (kin k)=true) :
 ∃ o,nZ H a x o/\(match getD ks ds k with|some d=>∃ v,o=some v/\Is H m d v|none=>o=none):=by
 have key:∀{κ:Type} [DecidableEq κ] (inj:κ->DK) (hi:∀ a b,inj a=inj b->a=b) (kvs:List (κ×V)) (k0:κ),IsAll H m ds (kvs.map Prod.snd)->(match getD (kvs.map λp=>inj p.1) ds (inj k0) with|some d=>∃ v,fS kvs k0=some v/\Is H m d v|none=>fS kvs k0=none):=by
  intro κ _ inj hi kvs k0 hl;have aR:(kvs.map λp=>inj p.1).length=ds.length:=by have:=hl.length;rw[Kw]at this ⊢;exact this
  have h1:=xZ (k:=inj k0) aR;have h2:=pV (kvs:=kvs) inj hi k0;cases q:getD (kvs.map λp=>inj p.1) ds (inj k0) with
  |some d=>exact oO inj hi hl q
  |none=>
   rw[q]at h1;rw[h1]at h2;cases z:fS kvs k0 with
   |none=>rfl
   |some v=>rw[z]at h2;cases h2
 rcases hx.keyX e with⟨k0,rfl,rfl⟩|⟨k0,b,rfl,rfl,hb⟩
 .rcases h with⟨kvs,e1,rfl,rfl⟩|⟨kvs,e1,rfl,rfl⟩
  .exact⟨_,.inl (.inl ⟨kvs,k0,e1,rfl,rfl⟩),key Sum.inl (λ_ _ z=>N0 z) kvs k0 hall⟩
  .cases kvs with
   |nil=>exact⟨none,.inr (.inl ⟨e1,⟨k0,rfl⟩,rfl⟩),by cases ds<;>rfl⟩
   |cons p r=>simp[kin]at hk
 .rcases h with⟨kvs,e1,rfl,rfl⟩|⟨kvs,e1,rfl,rfl⟩
  .cases kvs with
   |nil=>exact⟨none,.inr (.inr ⟨e1,⟨b,k0,rfl,hb⟩,rfl⟩),by cases ds<;>rfl⟩
   |cons p r=>simp[kin]at hk
  .exact⟨_,.inl (.inr ⟨kvs,k0,b,e1,rfl,hb,rfl⟩),key Sum.inr (λ_ _ z=>MG z) kvs k0 hall⟩
theorem x4 (hu:X.A.units+64<cLine) (ho:PD X E o fa) (hk:PD X E k fk) (hx:PD X E x fx) (m:M2 X o "get" apos k x cpos):PD X E (.Call (.Attribute o "get" apos) [k,x] [] cpos) (pW fa fk fx):=by
 obtain⟨ta,p1,s1⟩:=ho;obtain⟨tk,p2,s2⟩:=hk;obtain⟨tx,p3,s3⟩:=hx;refine⟨_,yV (by lia) p1 p2 p3 m,λg M ρ env σ H Q rep p=>s1.oneE rep p λra v M1 H1 e1 rep1 i1 q1=>?_⟩;unfold Ie at q1;cases qa:ra.d with
 |dic ks ds=>
  rw[qa]at q1 i1;dsimp only at q1;obtain⟨a,vs,rfl,⟨dat,ma⟩,hall⟩:=i1;refine⟨a,rfl,dat.isD,s2.oneE rep1 q1 λrk y M2 H2 e2 rep2 i2 q2=>?_⟩;refine s3.oneE rep2 q2 λrz z M3 H3 e3 rep3 i3 q3=>?_;unfold Hf at q3;cases qk:keyX rk.d with
  |none=>rw[qk]at q3;exact q3.elim
  |some kx=>
   rw[qk]at q3;dsimp only at q3;by_cases hc:ks.all (kin kx)=true
   .rw[Ku hc]at q3;have dat3:DAt H3 a ks vs:=dat.keep λo e=>e3.h _ _ (e2.h _ _ e);have hall3:IsAll H3 (vmsk g M3 ra.fr ρ ra.al) ds vs:=(hall.ext e2).ext e3;obtain⟨ov,g1,g2⟩:=uO dat3 hall3 (i2.ext e3) qk hc;refine⟨ov,g1,?_⟩;cases qd:getD ks ds kx with
    |some d=>rw[qd]at q3 g2;obtain⟨v,rfl,iv⟩:=g2;exact q3.val rep3 iv
    |none=>rw[qd]at q3 g2;have g2:ov=none:=g2;subst g2;exact q3.val rep3 i3
   .rw[Kv hc]at q3;exact q3.elim
 |_=>rw[qa]at q1;exact q1.elim
end
noncomputable def fW:List D->Option (List Int)
 | []=>some []
 | .int i::r=>(fW r).map (i::·)
 |_::_=>none
def Ig:D->Option (List Int)
 | .tup ds=>fW ds
 |_=>none
def rX:List D->Option (List (List Int))
 | []=>some []
 |d::r=>match Ig d,rX r with
  |some k,some ks=>some (k::ks)
  |_,_=>none
noncomputable def DE (k:List Int):D:=.tup (k.map .int)
section
variable {H:Hp}{m:Addr->Prop}
theorem IsAll.ints:∀{ds:List D}{vs:List V}{k:List Int},IsAll H m ds vs->fW ds=some k->vs=(iK k).map kV
 | [],_,_,h,e=>by cases h;cases e;rfl
 |d::ds,_,k,h,e=>by
  obtain⟨v,r,rfl,h1,h2⟩:=h;cases d with
  |int i=>unfold fW at e;obtain⟨k',e1,rfl⟩:=Lc.mp e;rw[IsAll.ints h2 e1,show v=V.int i from h1];rfl
  |_=>cases e
end
section
variable {X:Cx}{E:XK}
end
section
variable {H H':Hp}{m m':Addr->Prop}
mutual
theorem Is.view (hl:∀ a vs,H a=some (.lst vs)->H' a=some (.lst vs))(hf:∀ a o vs,H a=some (.frz o (.lst vs))->H' a=some (.frz o (.lst vs)))(ht:∀ a vs,H a=some (.tup vs)->H' a=some (.tup vs))(hd:∀ a u,iZ u->Rd H a u->Rd H' a u)(mm:∀ a,m a->m' a):∀{d:D}{v:V},Is H m d v->Is H' m' d v
 | .non,_,h=>h
 | .bl _,_,h=>h
 | .int _,_,h=>h
 | .str _,_,h=>h
 | .tup ds,_,h=>by obtain⟨a,vs,e,h1,h2⟩:=h;exact⟨a,vs,e,ht a _ h1,IsAll.view hl hf ht hd mm h2⟩
 | .lst ds,_,h=>by
  obtain⟨a,vs,e,h1,h2⟩:=h;refine⟨a,vs,e,?_,IsAll.view hl hf ht hd mm h2⟩;rcases h1 with⟨h1,h3⟩|⟨o,h1,h3⟩
  .exact .inl ⟨hl a _ h1,mm a h3⟩
  .exact .inr ⟨o,hf a o _ h1,mm a h3⟩
 | .dic ks ds,_,h=>by obtain⟨a,vs,e,h1,h2⟩:=h;refine⟨a,vs,e,⟨?_,mm a h1.2⟩,IsAll.view hl hf ht hd mm h2⟩;exact h1.1.imp (λ⟨kvs,e,r⟩=>⟨kvs,hd a _ True.intro e,r⟩) λ⟨kvs,e,r⟩=>⟨kvs,hd a _ True.intro e,r⟩
theorem IsAll.view (hl:∀ a vs,H a=some (.lst vs)->H' a=some (.lst vs))(hf:∀ a o vs,H a=some (.frz o (.lst vs))->H' a=some (.frz o (.lst vs)))(ht:∀ a vs,H a=some (.tup vs)->H' a=some (.tup vs))(hd:∀ a u,iZ u->Rd H a u->Rd H' a u)(mm:∀ a,m a->m' a):∀{ds:List D}{vs:List V},IsAll H m ds vs->IsAll H' m' ds vs
 | [],_,h=>h
 |d::ds,_,h=>by obtain⟨v,r,e,h1,h2⟩:=h;exact⟨v,r,e,Is.view hl hf ht hd mm h1,IsAll.view hl hf ht hd mm h2⟩
end
mutual
theorem IsSh.view (hl:∀ a vs,H a=some (.lst vs)->H' a=some (.lst vs))(ht:∀ a vs,H a=some (.tup vs)->H' a=some (.tup vs)):∀{d:D}{v:V},IsSh H m d v->IsSh H' m d v
 | .non,_,h=>h
 | .bl _,_,h=>h
 | .int _,_,h=>h
 | .str _,_,h=>h
 | .tup ds,_,h=>by obtain⟨a,vs,e,h1,h2⟩:=h;exact⟨a,vs,e,ht a _ h1,IsShs.view hl ht h2⟩
 | .lst ds,_,h=>by obtain⟨a,vs,e,h1,h2⟩:=h;exact⟨a,vs,e,hl a _ h1,h2⟩
 | .dic _ _,_,h=>h
theorem IsShs.view (hl:∀ a vs,H a=some (.lst vs)->H' a=some (.lst vs))(ht:∀ a vs,H a=some (.tup vs)->H' a=some (.tup vs)):∀{ds:List D}{vs:List V},IsShs H m ds vs->IsShs H' m ds vs
 | [],_,h=>h
 |d::ds,_,h=>by obtain⟨v,r,e,h1,h2⟩:=h;exact⟨v,r,e,IsSh.view hl ht h1,IsShs.view hl ht h2⟩
end
end
section
variable {g:Gd}{M:Addr->Prop}{ρ:Pr}{env:En}{σ:St}{H:Hp}{d:Addr}{o:Obj}{u:HO}
open Classical in
def gq (g:Gd)(d:Addr)(o:Obj)(u:HO):Gd:=⟨if g.H₀ d=none then g.H₀ else aB g.H₀ d (.frz o u),g.Ma,λa=>g.Z a\/a=d,g.root,g.rooT⟩
theorem mv (hb:b≠d):(gq g d o u).H₀ b=g.H₀ b:=by
 unfold gq;dsimp only;split
 .rfl
 .exact aa hb
theorem dI (b:Addr):(gq g d o u).H₀ b=none↔g.H₀ b=none:=by
 by_cases hb:b=d
 .subst hb;unfold gq;dsimp only;split
  .exact Iff.rfl
  .rename_i h;rw[ac];exact⟨λz=>(by cases z),λz=>(h z).elim⟩
 .rw[mv hb]
theorem DF (h:g.H₀ d≠none):(gq g d o u).H₀ d=some (.frz o u):=by unfold gq;dsimp only;rw[Kv h,ac]
theorem rY (hu:iZ u)(hd:H d=some u):(∀ a vs,H a=some (.lst vs)->a≠d)/\(∀ a o vs,H a=some (.frz o (.lst vs))->a≠d)/\∀ a vs,H a=some (.tup vs)->a≠d:=by refine⟨λa vs e z=>?_,λa o vs e z=>?_,λa vs e z=>?_⟩<;>(subst z;rw[hd]at e;cases e;exact hu)
theorem msk_still:msk (gq g d o u) M fr a↔msk g M fr a:=by unfold msk;rw[dI]
theorem Rep.still (rep:Rep g M ρ env σ H)(hd:H d=some u)(hu:iZ u)(hm:M d):Rep (gq g d o u) M ρ env σ (aB H d (.frz o u)):=by
 obtain⟨k1,k2,k3⟩:=rY hu hd;have vl:∀ a vs,H a=some (.lst vs)->aB H d (.frz o u) a=some (.lst vs):=λa vs e=>by rw[aa (k1 a vs e)];exact e
 have vf:∀ a o' vs,H a=some (.frz o' (.lst vs))->aB H d (.frz o u) a=some (.frz o' (.lst vs)):=λa o' vs e=>by rw[aa (k2 a o' vs e)];exact e
 have vt:∀ a vs,H a=some (.tup vs)->aB H d (.frz o u) a=some (.tup vs):=λa vs e=>by rw[aa (k3 a vs e)];exact e
 have vd:∀ a u',iZ u'->Rd H a u'->Rd (aB H d (.frz o u)) a u':=λa u' hu' e=>by
  by_cases ha:a=d
  .subst ha;rcases e with e|⟨o',e⟩
   .rw[hd]at e;cases e;exact .inr ⟨o,ac⟩
   .rw[hd]at e;cases e;exact hu.elim
  .exact ni e λo' q=>by rw[aa ha];exact q
 have pn:∀ i a,ρ i a->a≠d:=λi a h z=>(rep.priv i a h).1 (z▸hm);refine⟨λb x e=>?_,λa ha=>?_,λa ha=>(rep.inn a ha).imp (dI a).mpr id,λa ha h0=>?_,λi sl e=>?_,λi a h=>?_,rep.apart,rep.ow,rep.len,λa z=>?_⟩
 .by_cases hb:b=d
  .subst hb;have hn:g.H₀ b≠none:=λz=>by rw[(dI b).mpr z]at e;cases e
   rw[DF hn]at e;cases e;exact ac
  .rw[mv hb]at e;rw[aa hb];exact rep.same b x e
 .by_cases hb:a=d
  .rw[hb,ac];simp
  .rw[aa hb];exact rep.froz a ha
 .by_cases hb:a=d
  .rw[hb];exact .inr ⟨.inr rfl,o,u,ac⟩
  .rcases rep.fl a ha ((dI a).mp h0) with q|⟨q,o',u',e⟩
   .exact .inl (q.same λo' e=>by rw[aa hb];exact e)
   .exact .inr ⟨.inl q,o',u',by rw[aa hb];exact e⟩
 .obtain⟨v,ev,k⟩:=rep.slot i sl e;refine⟨v,ev,?_⟩;cases sl with
  |val d' fr=>exact Is.view vl vf vt vd (λa z=>msk_still.mpr z) k
  |own ds fr=>obtain⟨a,vs,rfl,h1,h2,h3⟩:=k;exact⟨a,vs,rfl,vl _ _ h1,h2,IsAll.view vl vf vt vd (λa z=>msk_still.mpr z) h3⟩
  |tre d'=>exact Is.view vl vf vt vd (λa z=>z) k
  |mes d'=>exact IsSh.view vl vt k
 .obtain⟨q1,q2,q3⟩:=rep.priv i a h;exact⟨q1,(dI a).mpr q2,q3.same λo' e=>by rw[aa (pn i a h)];exact e⟩
 .by_cases hb:a=d
  .rw[hb,ac];simp
  .rw[aa hb];exact rep.zz a (z.resolve_right hb)
theorem Rep.unstill (rep:Rep (gq g d o u) M ρ env σ H)(hd:H d=some (.frz o u))(hu:iZ u)(hm:M d)(hx:∀ x,g.H₀ d=some x->x=u):Rep g M ρ env σ (aB H d u):=by
 have n1:∀ a vs,H a=some (.lst vs)->a≠d:=λa vs e z=>by subst z;rw[hd]at e;cases e
 have n2:∀ a o' vs,H a=some (.frz o' (.lst vs))->a≠d:=λa o' vs e z=>by subst z;rw[hd]at e;cases e;exact hu
 have n3:∀ a vs,H a=some (.tup vs)->a≠d:=λa vs e z=>by subst z;rw[hd]at e;cases e
 have vl:∀ a vs,H a=some (.lst vs)->aB H d u a=some (.lst vs):=λa vs e=>by rw[aa (n1 a vs e)];exact e
 have vf:∀ a o' vs,H a=some (.frz o' (.lst vs))->aB H d u a=some (.frz o' (.lst vs)):=λa o' vs e=>by rw[aa (n2 a o' vs e)];exact e
 have vt:∀ a vs,H a=some (.tup vs)->aB H d u a=some (.tup vs):=λa vs e=>by rw[aa (n3 a vs e)];exact e
 have vd:∀ a u',iZ u'->Rd H a u'->Rd (aB H d u) a u':=λa u' hu' e=>by
  by_cases ha:a=d
  .subst ha;rcases e with e|⟨o',e⟩
   .rw[hd]at e;cases e;exact hu'.elim
   .rw[hd]at e;cases e;exact .inl ac
  .exact ni e λo' q=>by rw[aa ha];exact q
 have muu:Mu (aB H d u) d:=⟨u,ac,by cases u<;>first|exact True.intro|exact hu.elim⟩;have pn:∀ i a,ρ i a->a≠d:=λi a h z=>(rep.priv i a h).1 (z▸hm);refine⟨λb x e=>?_,λa ha=>?_,λa ha=>(rep.inn a ha).imp (dI a).mp id,λa ha h0=>?_,λi sl e=>?_,λi a h=>?_,rep.apart,rep.ow,rep.len,λa z=>?_⟩
 .by_cases hb:b=d
  .subst hb;rw[hx x e,ac]
  .rw[aa hb];exact rep.same b x (by rw[mv hb];exact e)
 .by_cases hb:a=d
  .rw[hb];exact muu.some
  .rw[aa hb];exact rep.froz a ha
 .by_cases hb:a=d
  .rw[hb];exact .inl muu
  .rcases rep.fl a ha ((dI a).mpr h0) with q|⟨q,o',u',e⟩
   .exact .inl (q.same λo' e=>by rw[aa hb];exact e)
   .exact .inr ⟨q.resolve_right hb,o',u',by rw[aa hb];exact e⟩
 .obtain⟨v,ev,k⟩:=rep.slot i sl e;refine⟨v,ev,?_⟩;cases sl with
  |val d' fr=>exact Is.view vl vf vt vd (λa z=>msk_still.mp z) k
  |own ds fr=>obtain⟨a,vs,rfl,h1,h2,h3⟩:=k;exact⟨a,vs,rfl,vl _ _ h1,h2,IsAll.view vl vf vt vd (λa z=>msk_still.mp z) h3⟩
  |tre d'=>exact Is.view vl vf vt vd (λa z=>z) k
  |mes d'=>exact IsSh.view vl vt k
 .obtain⟨q1,q2,q3⟩:=rep.priv i a h;exact⟨q1,(dI a).mp q2,q3.same λo' e=>by rw[aa (pn i a h)];exact e⟩
 .by_cases hb:a=d
  .rw[hb];exact muu.some
  .rw[aa hb];exact rep.zz a (.inl z)
end
noncomputable def kD:Key->D
 | .inl i=>.int i
 | .inr x=>.str x
theorem E6 (k:Key):Is H m (kD k) (kV k):=by cases k<;>exact rfl
section
variable {X:Cx}{E:XK}{tg:Expr}
end
noncomputable def Ih (t:List (Key×D)):D:=.dic (t.map λp=>.inl p.1) (t.map Prod.snd)
section
variable {H:Hp}{m:Addr->Prop}
def REK (H:Hp)(m:Addr->Prop):List (Key×V)->List (Key×D)->Prop:=Paired λa b=>a.1=b.1/\Is H m b.2 a.2
theorem REK.fst (r:REK H m a b):a.map Prod.fst=b.map Prod.fst:=by
 induction r with
 |nil=>rfl
 |cons h _ ih=>rw[Kr,Kr,ih,h.1]
theorem REK.snd (r:REK H m a b):IsAll H m (b.map Prod.snd) (a.map Prod.snd):=by
 induction r with
 |nil=>rfl
 |cons h _ ih=>exact⟨_,_,rfl,h.2,ih⟩
theorem DG {b:Addr}{u:HO}{kvs:List (Key×V)}{t:List (Key×D)}(e:H b=some (.dK kvs))(r:REK H m kvs t)(hb:m b):Is H m (Ih t) (.ref b):=by refine⟨b,_,rfl,⟨.inl ⟨kvs,.inl e,?_,rfl⟩,hb⟩,r.snd⟩;have:=LA (List.map λk:Key=>(Sum.inl k:DK)) r.fst;rw[KZ,KZ]at this;exact this.symm
end
section
variable {X:Cx}{E:XK}
theorem Rep.writeU (rep:Rep g M ρ env σ H)(hb:H b=some u)(hu:¬ fixd u)(nm:¬ M b)(no:∀ i,¬ ρ i b)(h0:g.H₀ b=none):Rep g M ρ env σ (aB H b u'):=by
 have kp:∀ a o,H a=some o->(M a\/fixd o)->aB H b u' a=some o:=λa o e z=>by
  rw[aa]
  .exact e
  .rintro rfl;rcases z with z|z
   .exact nm z
   .rw[hb]at e;cases e;exact hu z
 have kr:∀ i a o,H a=some o->(ρ i a\/fixd o)->aB H b u' a=some o:=λi a o e z=>by
  rw[aa]
  .exact e
  .rintro rfl;rcases z with z|z
   .exact no i z
   .rw[hb]at e;cases e;exact hu z
 have ne:∀ a,M a->a≠b:=λa z e=>nm (e▸z);have ner:∀ i a,ρ i a->a≠b:=λi a z e=>no i (e▸z);refine⟨λa o e=>?_,λa z=>by rw[aa (ne a z)];exact rep.froz a z,rep.inn,λa z q=>(rep.fl a z q).same λo e=>by rw[aa (ne a z)];exact e,λi sl e=>?_,λi a z=>?_,rep.apart,rep.ow,rep.len,λa z e=>?_⟩
 .rw[aa (λz=>by rw[z,h0]at e;cases e)];exact rep.same a o e
 .obtain⟨v,ev,k⟩:=rep.slot i sl e;refine⟨v,ev,?_⟩;cases sl with
  |val d fr=>exact Is.mono (λa o e z=>kp a o e (z.imp (·.1) id)) (λ_ _ _ z=>z) k
  |own ds fr=>obtain⟨a,vs,rfl,h1,h2,h3⟩:=k;exact⟨a,vs,rfl,by rw[aa (ner i a ((h2 a).mpr rfl))];exact h1,h2,IsAll.mono (λa o e z=>kp a o e (z.imp (·.1) id)) (λ_ _ _ z=>z) h3⟩
  |tre d=>exact Is.mono (λa o e z=>kr i a o e z) (λ_ _ _ z=>z) k
  |mes d=>exact IsSh.mono (λa o e z=>kp a o e (.inr z)) (λa vs z e=>⟨vs,by rw[aa (ner i a z)];exact e⟩) (λ_ z=>z) k
 .obtain⟨a1,a2,a3⟩:=rep.priv i a z;exact⟨a1,a2,a3.same λo e=>by rw[aa (ner i a z)];exact e⟩
 .by_cases ha:a=b
  .subst ha;rw[ac]at e;cases e
  .rw[aa ha]at e;exact rep.zz a z e
def oe (rk rv:R):Res R:=match A_ rk.d with
 |some k=>if rv.d.flat then .ok (.fre (Ih [(k,rv.d)])) else .stuck
 |none=>.stuck
theorem Bh {k v:Expr}{fk fv:En->Res R}{pos:Pos}(hk:PD X E k fk)(hv:PD X E v fv):PD X E (.Dict [some k] [v] pos) (v2 oe fk fv):=by
 obtain⟨tk,p1,s1⟩:=hk;obtain⟨tv,p2,s2⟩:=hv;refine⟨_,C_ (As p1 p2 C9) rfl rfl (by simp) (by simp),λg M ρ env σ H Q rep p b hb=>?_⟩;have sm:Same H (aB H b (.dK [])):=aE hb;obtain⟨z0,zm,zo⟩:=rep.free hb;have p:PostE X.mg E g M ρ env σ H Q ((fk env).bind λrk=>(fv env).bind λrv=>oe rk rv):=p;refine s1 g M ρ env σ _ _ (rep.grow sm) ?_;cases qk:fk env with
 |stuck=>rw[qk]at p;exact p
 |exc c=>rw[qk]at p;exact p
 |ok rk=>
  rw[qk]at p;have p:PostE X.mg E g M ρ env σ H Q ((fv env).bind λrv=>oe rk rv):=p;intro x M1 H1 e1 rep1 ro1;obtain⟨M1',x1,x1m,rep1',is1⟩:=ro1.is rep1 e1 (rep.grow sm).same;refine s2 g M1' ρ env σ H1 _ rep1' ?_;cases qv:fv env with
  |stuck=>rw[qv]at p;exact p
  |exc c=>rw[qv]at p;exact p
  |ok rv=>
   rw[qv]at p;have p:PostE X.mg E g M ρ env σ H Q (oe rk rv):=p;intro y M2 H2 e2 rep2 ro2;obtain⟨M2',x2,x2m,rep2',is2⟩:=ro2.is rep2 e2 rep1'.same;have hb2:H2 b=some (.dK []):=x2.h _ _ (x1.h _ _ ac);have nb:¬ M2' b:=λz=>by
    rcases x2.n b z with z|z
    .rcases x1.n b z with z|z
     .exact zm z
     .rw[ac]at z;cases z
    .rw[x1.h _ _ ac]at z;cases z
   unfold oe at p;cases qq:A_ rk.d with
   |none=>rw[qq]at p;exact p.elim
   |some k=>
    rw[qq]at p;dsimp only at p;by_cases hf:rv.d.flat=true
    .rw[Ku hf]at p;have hx:x=kV k:=is1.key qq;refine⟨hb2,[(k,y)],by rw[hx];rfl,by simp,?_⟩;have hs:Same H (aB H2 b (.dK (m9 [] [(k,y)]))):=λa o e=>by rw[aa (af e hb)];exact x2.h _ _ (x1.h _ _ (sm a o e))
     refine p (.ref b) M2' _ ⟨λa z=>x2.m a (x1.m a z),hs,λa z=>?_⟩ (rep2'.writeU hb2 (λz=>z) nb zo z0) ⟨λa=>a=b,λa e=>(by subst e;exact⟨nb,hb,⟨_,ac,True.intro⟩,zo⟩),DG (u:=.dK []) ac ?_ rfl⟩
     .rcases x2.n a z with z|z
      .exact(x1.n a z).imp id λw=>sm.free w
      .exact .inr (sm.free (x1.h.free z))
     .refine .cons ⟨rfl,Is.flat hf (Is.mono (λa o e z=>?_) (λ_ _ _ z=>z) (Is.flat (m':=λ_=>False) hf is2))⟩ .nil;rw[aa]
      .exact e
      .rintro rfl;rw[hb2]at e;cases e;exact z.elim id id
    .rw[Kv hf]at p;exact p.elim
end
noncomputable abbrev Ii:=Int×Int×Int
noncomputable def dd (l:List Int)(x:Int):List Int:=if x∈l then l else l++[x]
def JS (xs:List Int):List Int:=xs.foldl dd []
def g2 (ts:List Ii)(x:Int):List Int:=JS ((ts.filter λt=>decide (t.1=x)).map (·.2.1))
noncomputable def ik (i:Int):DK:=.inl (.inl i)
section
variable {H:Hp}{a:Addr}{ts:List Ii}{A:Int->Addr}{B:Int->Int->Addr}{x y z:Int}
end
section
variable {X:Cx}{E:XK}{tg:Expr}
end
section
variable {X:Cx}
def J8 (X:Cx)(Q:VK):VK:=λv H=>Q v H\/∃ d o u,H d=some (.frz o u)/\iZ u/\(∀ o v,X.H₀ d≠some (.frz o v))/\Q v (aB H d u)
theorem Gv (h:PE X e t):PE X e (λσ H Q=>t σ H (J8 X Q)):=by
 intro pins s σ H Q I q;refine bW (h pins s σ H _ I q) λv s' r=>?_;obtain⟨x,H',I',rv,r⟩:=r;rcases r with r|⟨d,o,u,e,hu,hn,r⟩
 .exact⟨x,H',I',rv,r⟩
 .exact⟨x,_,I'.unfrz e hu hn,rv,r⟩
def Hg (X:Cx)(D:Ends):Ends where
 nx:=λσ H=>D.nx σ H\/∃ d o u,H d=some (.frz o u)/\iZ u/\(∀ o v,X.H₀ d≠some (.frz o v))/\D.nx σ (aB H d u)
 rt:=J8 X D.rt
 bk:=D.bk
 ct:=D.ct
theorem wK {st:Stmt}(h:PS X st t):PS X st (λD σ H=>t (Hg X D) σ H):=by
 intro pins s σ H D I q;refine bW (h pins s σ H _ I q) λf s' r=>?_;cases f with
 |next=>
  obtain⟨σ',H',I',r⟩:=r;rcases r with r|⟨d,o,u,e,hu,hn,r⟩
  .exact⟨σ',H',I',r⟩
  .exact⟨σ',_,I'.unfrz e hu hn,r⟩
 |ret v=>
  obtain⟨x,σ',H',I',rv,r⟩:=r;rcases r with r|⟨d,o,u,e,hu,hn,r⟩
  .exact⟨x,σ',H',I',rv,r⟩
  .exact⟨x,σ',_,I'.unfrz e hu hn,rv,r⟩
 |brk=>exact r
 |cont=>exact r
end
section
variable {g:Gd}{M M2 M':Addr->Prop}{ρ:Pr}{env:En}{σ:St}{H H1 H':Hp}{d:Addr}{o:Obj}{u:HO}{m m':Addr->Prop}
theorem Is.thaw (hd:H d=some (.frz o u))(hu:iZ u)(mm:∀ a,m a->m' a)(h:Is H m x v):Is (aB H d u) m' x v:=by
 refine Is.view (λa vs e=>?_) (λa o' vs e=>?_) (λa vs e=>?_) (λa u' hu' e=>?_) mm h
 .rw[aa (λz=>by subst z;rw[hd]at e;cases e)];exact e
 .rw[aa (λz=>by subst z;rw[hd]at e;cases e;exact hu)];exact e
 .rw[aa (λz=>by subst z;rw[hd]at e;cases e)];exact e
 .by_cases ha:a=d
  .subst ha;rcases e with e|⟨o',e⟩
   .rw[hd]at e;cases e;exact hu'.elim
   .rw[hd]at e;cases e;exact .inl ac
  .exact ni e λo' q=>by rw[aa ha];exact q
theorem Is.still (hd:H d=some u)(hu:iZ u)(mm:∀ a,m a->m' a)(h:Is H m x v):Is (aB H d (.frz o u)) m' x v:=by
 obtain⟨k1,k2,k3⟩:=rY hu hd;refine Is.view (λa vs e=>?_) (λa o' vs e=>?_) (λa vs e=>?_) (λa u' hu' e=>?_) mm h
 .rw[aa (k1 a vs e)];exact e
 .rw[aa (k2 a o' vs e)];exact e
 .rw[aa (k3 a vs e)];exact e
 .by_cases ha:a=d
  .subst ha;rcases e with e|⟨o',e⟩
   .rw[hd]at e;cases e;exact .inr ⟨o,ac⟩
   .rw[hd]at e;cases e;exact hu.elim
  .exact ni e λo' q=>by rw[aa ha];exact q
theorem IsAll.of_each:∀{ds:List D}{vs:List V}{P:D->V->Prop},(∀ x v,Is H m x v->Is H' m' x v)->IsAll H m ds vs->IsAll H' m' ds vs
 | [],_,_,_,h=>h
 |d::ds,_,P,f,h=>by obtain⟨v,r,e,h1,h2⟩:=h;exact⟨v,r,e,f _ _ h1,IsAll.of_each (P:=P) f h2⟩
theorem zi (s:Same (aB H1 d (.frz o u)) H')(hrd:H1 d=some u):Same H1 (aB H' d u):=λa x e=>by
 by_cases ha:a=d
 .subst ha;rw[hrd]at e;cases e;exact ac
 .rw[aa ha];exact s a x (by rw[aa ha];exact e)
theorem uP (rep:Rep g M ρ env σ H1)(hrd:H1 d=some u):∀ x,g.H₀ d=some x->x=u:=λx e=>by have:=rep.same d x e;rw[hrd]at this;cases this;rfl
end
def oC:List DK->List D->Option (List D)
 | [],[]=>some []
 | .inl k::r,x::ds=>(oC r ds).map (.tup [kD k,x]::·)
 |_,_=>none
theorem uQ:∀{kvs:List (Key×V)}{ds xs:List D},oC (kvs.map λp=>.inl p.1) ds=some xs->xs.length=kvs.length/\∀(i:Nat)(x:D),xs[i]?=some x->∃ p y,kvs[i]?=some p/\ds[i]?=some y/\x=.tup [kD p.1,y]
 | [],[],_,e=>by cases e;exact⟨rfl,λi x e=>by simp at e⟩
 | [],_::_,_,e=>by cases e
 |_::_,[],_,e=>by cases e
 |p::r,y::ds,xs,e=>by
  rw[Kr]at e;unfold oC at e;obtain⟨ys,e1,rfl⟩:=Lc.mp e;obtain⟨l,f⟩:=uQ e1;refine⟨by simp[l],λi x ex=>?_⟩;cases i with
  |zero=>simp at ex;subst ex;exact⟨p,y,rfl,rfl,rfl⟩
  |succ i=>obtain⟨p',y',a,b,c⟩:=f i x (by simpa using ex);exact⟨p',y',by simpa using a,by simpa using b,c⟩
theorem pX (hd:H d=some (.frz o u))(is:IsAll H m ds (kvs.map Prod.snd))(e0:oC (kvs.map λp=>.inl p.1) ds=some xs):Walk (HH d o u kvs) m H xs:=by
 obtain⟨l,f⟩:=uQ e0;refine⟨λH' i x k e=>?_,λH' k=>⟨k d _ hd (.inr True.intro),by rw[l];exact Kq _⟩⟩;have hi:i<kvs.length:=by rw[<- l];exact(KA.mp e).1
 refine⟨⟨k d _ hd (.inr True.intro),hi⟩,λy H'' z=>?_⟩;obtain⟨p,k',v,hp,rfl,rfl,ek⟩:=z;obtain⟨q,w,e1,e2,rfl⟩:=f i x e;rw[ek]at e1;cases e1;have s:Same H' (aB H' p (.tup [kV k',v])):=aE hp;obtain⟨v',ev,iv⟩:=(is.mono k λ_ _ _ z=>z:IsAll H' m ds (kvs.map Prod.snd)).get e2;rw[KN,ek]at ev;cases ev;exact⟨s,p,_,rfl,ac,_,_,rfl,E6 k',_,_,rfl,iv.same s,rfl⟩
theorem zj (h:Is H m (.dic ks ds) v)(hk:∀ k∈ks,∃ a,k=.inl a):∃ d kvs u,v=.ref d/\m d/\(u=.dK kvs\/(u=.dT []/\kvs=[]))/\Rd H d u/\ks=kvs.map (λp=>.inl p.1)/\IsAll H m ds (kvs.map Prod.snd):=by
 obtain⟨d,vs,rfl,⟨dat,md⟩,hall⟩:=h;rcases dat with⟨kvs,e,rfl,rfl⟩|⟨kvs,e,rfl,rfl⟩
 .exact⟨d,kvs,_,rfl,md,.inl rfl,e,rfl,hall⟩
 .cases kvs with
  |nil=>exact⟨d,[],_,rfl,md,.inr ⟨rfl,rfl⟩,e,rfl,hall⟩
  |cons p r=>obtain⟨a,ea⟩:=hk (.inr p.1) (by simp);cases ea
theorem uR:∀{ks:List DK}{ds xs:List D},oC ks ds=some xs->∀ k∈ks,∃ a,k=.inl a
 | [],_,_,_,k,h=>by cases h
 | .inl a::r,x::ds,_,e,k,h=>by
  unfold oC at e;obtain⟨y,e1,_⟩:=Lc.mp e;rcases KB.mp h with h|h
  .exact⟨a,h⟩
  .exact uR e1 k h
 | .inl _::_,[],_,e,_,_=>by cases e
 | .inr _::_,_,_,e,_,_=>by simp[oC]at e
section
variable {X:Cx}{E:XK}{scope:Scope}{tg:Expr}{tN:List Str}{capN:List Str}{caps:List Nat}{ix:List Nat}{asg:D->Bool->En->Option En}{elt iter:Expr}{pos:Pos}{ifs:List Expr}{f:En->Res R}{ft:En->Res Bool}{fe:En->Res R}
end
def i_:Res Fl->Res Fl
 | .ok (.nx e)=>.ok (.nx e)
 | .ok (.rt r)=>if r.d.flat then .ok (.rt (.val r.d true [])) else .stuck
 |_=>.stuck
def uS (asg:D->Bool->En->Option En)(fb:En->Res Fl)(env:En)(r:R):Res Fl:=match r.d with
 | .dic ks ds=>match oC ks ds with
  |some xs=>i_ (gb asg r.fr fb xs (frz env r.al))
  |none=>.stuck
 |_=>.stuck
def Bi (f:En->Res R)(asg:D->Bool->En->Option En)(fb:En->Res Fl):En->Res Fl:=λenv=>(f env).bind (uS asg fb env)
section
variable {X:Cx}{E:XK}{g:Gd}{M:Addr->Prop}{ρ:Pr}{env:En}{σ:St}{H:Hp}{D:Ends}{d:Addr}{o:Obj}{u:HO}
theorem pY (rep:Rep g M ρ env σ H)(hrd:H d=some u)(iu:iZ u)(md:M d)(hnf:∀ o v,X.H₀ d≠some (.frz o v))(p:PostS X.mg E g M H D (i_ r)):PostS X.mg E (gq g d o u) M (aB H d (.frz o u)) (Hg X D) r:=by
 have hx:=uP rep hrd;have fz:∀{M':Addr->Prop}{H':Hp},Frz M (aB H d (.frz o u)) M' H'->Frz M H M' (aB H' d u):=λ{M' H'} f=>⟨f.m,λa x e z=>by
  by_cases ha:a=d
  .subst ha;rw[hrd]at e;cases e;exact ac
  .rw[aa ha];exact f.h a x (by rw[aa ha];exact e) z⟩
 cases r with
 |stuck=>exact p
 |exc c=>exact(show False from p).elim
 |ok r=>
  cases r with
  |nx e=>intro σ' M' ρ' H' f rep';have hd':H' d=some (.frz o u):=f.h d _ ac (.inl md);exact .inr ⟨d,o,u,hd',iu,hnf,p σ' M' ρ' _ (fz f) (rep'.unstill hd' iu (f.m d md) hx)⟩
  |bk e=>exact(show False from p).elim
  |ct e=>exact(show False from p).elim
  |rm r e=>exact(show False from p).elim
  |rt r=>
   unfold i_ at p;by_cases hf:r.d.flat=true
   .simp only[hf,MS]at p;intro v M' H' f s _ fl;have hd':H' d=some (.frz o u):=f.h d _ ac (.inl md);have is:∀{m:Addr->Prop},Is (aB H' d u) m r.d v:=λ{m}=>Is.flat hf (Is.thaw (m':=m) hd' iu (λ_ z=>z.elim) (fl hf));refine .inr ⟨d,o,u,hd',iu,hnf,p v M' _ (fz f) (λb x e=>?_) (λ_=>is) λ_=>is⟩;by_cases hb:b=d
    .subst hb;rw[hx x e];exact ac
    .rw[aa hb];exact s b x (by rw[mv hb];exact e)
   .simp only[hf]at p;exact(show False from p).elim
theorem og (p:PostS X.mg E g M H D (i_ r)):PostS X.mg E g M H (Hg X D) r:=by
 cases r with
 |stuck=>exact p
 |exc c=>exact(show False from p).elim
 |ok r=>
  cases r with
  |nx e=>exact λσ' M' ρ' H' f rep'=>.inl (p σ' M' ρ' H' f rep')
  |bk e=>exact(show False from p).elim
  |ct e=>exact(show False from p).elim
  |rm r e=>exact(show False from p).elim
  |rt r=>
   unfold i_ at p;by_cases hf:r.d.flat=true
   .simp only[hf,MS]at p;exact λv M' H' f s _ fl=>.inl (p v M' H' f s (λ_=>Is.flat hf (fl hf)) λ_=>Is.flat hf (fl hf))
   .simp only[hf]at p;exact(show False from p).elim
theorem Bj (hp:PassesOwn (model X.prog X.w) X.A X.env X.xe)(hc:X.calm=true)
 (hl:PD X E l f) (hg:z4 X ix (.Tuple es k0 j5) asg) (hb:qU X E body fb) (hbase:autoParam (attributeBase l "items" X.env (eval l X.env)=eval l X.env) OH._auto_1) (hline:autoParam ((apos.endLine==cpos.line)=true) OH._auto_1)
 (hs:autoParam (∀ x,foldedSetIterable (.Call (.Attribute l "items" apos) [] [] cpos) X.env x=pure x) OF._auto_1):vZ X E (.For (.Tuple es k0 j5) (.Call (.Attribute l "items" apos) [] [] cpos) body [] pos) (Bi f asg fb):=by
 obtain⟨tl,p1,s1⟩:=hl;obtain⟨w,p2,s2⟩:=hg;obtain⟨tb,p3,s3⟩:=hb;refine⟨_,wK (iy hp hc (AC p1 hbase hline) p2 p3 hs),λg M ρ env σ H D rep p=>?_⟩;refine s1.oneS rep p λr v M0 H1 e1 rep0 ro p0=>?_;obtain⟨M1,x1,x1m,rep1,is1⟩:=ro.is rep0 e1 rep.same;obtain⟨M2,ρ2,x2,rep2,o2,_,_⟩:=Rep.frz r.al rep1;have is2:Is H1 (msk g M2 r.fr) r.d v:=Is.frozen rep1 x2 o2 is1;have p2':=PostS.frz (⟨λa z=>x2 a (x1m a z),λ_ _ q _=>q⟩ : Frz M0 H1 M2 H1) p0;clear p0 p;unfold uS at p2';cases qd:r.d with
 |dic ks ds=>
  rw[qd]at p2' is2;dsimp only at p2';cases qk:oC ks ds with
  |none=>rw[qk]at p2';exact p2'.elim
  |some xs=>
   rw[qk]at p2';dsimp only at p2';obtain⟨d,kvs,u,rfl,md,hu,hrd,rfl,hall⟩:=zj is2 (uR qk);have md:M2 d:=md.1;have iu:iZ u:=by rcases hu with rfl|⟨rfl,_⟩<;>exact True.intro
   refine⟨d,kvs,u,rfl,hu,?_⟩;rcases hrd with hrd|⟨o,hrd⟩
   .right;refine⟨hrd,λo hnf=>kz (E:=E) (g:=gq g d o u) (fr:=r.fr) (xs:=xs) s2 s3 (rep2.still hrd iu md) (pX ac ?_ qk) (pY rep2 hrd iu md hnf p2')⟩;exact IsAll.of_each (P:=λ_ _=>True) (λx w=>Is.still hrd iu λ_ z=>msk_still.mpr z) hall
   .left;exact⟨o,hrd,kz (E:=E) (g:=g) (fr:=r.fr) (xs:=xs) s2 s3 rep2 (pX hrd hall qk) (og p2')⟩
 |_=>rw[qd]at p2';exact p2'.elim
end
open Classical in
section
variable {P:Oz}{w:World}{K:Oy}{mg:Str->Option OA}{base:Heap}
end
section
variable {X:Cx}{E:XK}
end
section
variable {H:Hp}{a:Addr}{ts:List Ii}{A:Int->Addr}{B:Int->Int->Addr}{x y z:Int}
end
section
variable {X:Cx}{E:XK}{tg:Expr}
end
section
variable {X:Cx}{E:XK}
def mw (i:Nat)(f:En->Res R):En->Res Fl:=λenv=>(f env).bind λr=>if i<env.length then .ok (.nx ((frz env r.al).set i (some (.val r.d r.fr)))) else .stuck
theorem ja (hN:X.N.Nodup)(hi:X.N[i]?=some x)(hx:Fy X.env.scope x)(h:PD X E e f)(hs:autoParam (swapsWith e (some (.Name x pos')) pos.line X.env=pure false) OH._auto_1)
 (hf:autoParam (X.fn x=true\/X.env.scope.names.lookup x=some .local) OD._auto_1):vZ X E (.Assign [.Name x pos'] e pos) (mw i f):=by
 obtain⟨t,p1,s1⟩:=h;refine⟨_,jL hN hi hx p1 hs hf,λg M ρ env σ H D rep p=>?_⟩;refine s1.oneS rep p λr v M' H' e rep' ro p'=>?_;by_cases hi:i<env.length
 .rw[Ku hi]at p';obtain⟨M2,x2,x2m,rep2,is2⟩:=ro.is rep' e rep.same;obtain⟨M3,ρ3,x3,rep3,o3,_,_⟩:=Rep.frz r.al rep2;have rep4:=rep3.put (i:=i) (sl:=.val r.d r.fr) (T:=λ_=>False) (by rw[tf];exact hi) (Is.frozen rep2 x3 o3 is2) (λ_ z=>z.elim) λ_ z=>z.elim;exact p' _ M3 _ H' ⟨λa z=>x3 a (x2m a z),λ_ _ q _=>q⟩ rep4
 .rw[Kv hi]at p';exact p'.elim
def rZ:List R->Res R
 | [r]=>match r.d with
  | .lst ds=>match fW ds with
   |some ns=>if ns.isEmpty then .stuck else .ok (.val (.int (oA ns)) true [])
   |none=>.stuck
  |_=>.stuck
 |rs=>DA rs
theorem DH (hc:X.calm=true):ky X E (.builtin "min") rZ:=by
 obtain⟨r0,c0,s0⟩:=Gm (X:=X) (E:=E) hc;refine⟨λxs H Q=>(∃ p ns,xs=[.ref p]/\SqL X.K H p (ns.map V.int)/\ns≠[]/\Q (.int (oA ns)) H)\/r0 xs H Q,λpins s σ H xs us Q I r h=>h.elim (rH hc pins s σ H xs us Q I r) (c0 pins s σ H xs us Q I r),λg M ρ env σ H Q rs vs rep i p=>?_⟩
 match rs,i,p with
 | [r],i,p=>
  left;unfold rZ at p;dsimp only at p;obtain⟨v,w,rfl,i1,i2⟩:=i;cases i2;have i1:Is H (vmsk g M (bX [r]) ρ (dk [r])) r.d v:=i1;cases q:r.d with
  |lst ds=>
   rw[q]at p i1;dsimp only at p;obtain⟨a,ws,rfl,h1,h2⟩:=i1.rd;cases qi:fW ds with
   |none=>rw[qi]at p;exact p.elim
   |some ns=>
    rw[qi]at p;dsimp only at p;by_cases hn:ns.isEmpty=true
    .rw[Ku hn]at p;exact p.elim
    .rw[Kv hn]at p;have ew:ws=ns.map V.int:=by rw[h2.ints qi];unfold iK;rw[KZ];rfl
     rw[ew]at h1;exact⟨a,ns,rfl,.inl h1,λz=>hn (by rw[z];rfl),p _ M H (Ext.refl _ _) rep rfl⟩
  |_=>rw[q]at p;exact p.elim
 | [],i,p=>exact .inr (s0 g M ρ env σ H Q [] vs rep i p)
 |r::r'::rs',i,p=>exact .inr (s0 g M ρ env σ H Q (r::r'::rs') vs rep i p)
theorem qv (i:Nat) (hN:autoParam (X.N[i]?=some x) OH._auto_1) (hv:autoParam (Vis X.env.scope x) OE._auto_1) (hd:autoParam ((x==("__debug__" : Str))=false) OC._auto_1)
 (hc:autoParam ((x==("__classdict__" : Str))=false) OC._auto_1):PD X E (.Name x pos) (ao i):=F9 (pv i hN hv hd hc)
end
end L3
namespace L2
open PySem PySem.Spec PyProof.Rows
section
variable {X:Cx}
end
end L2
namespace L3
open PySem PySem.Spec PyProof.Rows L2
section
variable {X:Cx}{E:XK}
end
section
variable {X:Cx}{E:XK}{hc hc2:Str}{Ch Ch2:Addr}{cs cs2:List Str}{np hpos np2 hpos2 pos epos p cpos:Pos}{b₀ c₀:Stmt}{suite suite2:List Stmt}{fsu fsu2:En->Res Fl}{k:Nat}{f:Addr}{fd:FuncData}{ps:List Str}{F:List D->Res R}{x:Str}{e:Expr}{es:List Expr}{fs:En->Res (List R)}
end
section
variable {X:Cx}{E:XK}
end
section
variable {X:Cx}{E:XK}{scope:Scope}{tg:Expr}{tN:List Str}{capN:List Str}{caps:List Nat}{iter:Expr}{pos lpos:Pos}{src:En->Res Src}
end
section
variable {X:Cx}{E:XK}
end
section
variable {X:Cx}{E:XK}{es:List Expr}{k:Nat}{j5:Pos}
end
section
variable {X:Cx}{E:XK}
def x5 (a b:Str):Prop:=0<b.length/\a.length<=100000/\(Txt.split a b).length<=100000/\(Builtin.Str.partsBetween a (Builtin.Str.occurrences a b 0 a.length (a.length+1)) b.length).length<=100000
instance (a b:Str):Decidable (x5 a b):=by unfold x5;infer_instance
end
section
variable {K:Oy}{H:Hp}{m:Addr->Prop}
end
section
variable {X:Cx}{E:XK}
end
open Classical in
section
variable {X:Cx}{E:XK}{g:Gd}{M:Addr->Prop}{ρ:Pr}{env:En}{σ:St}{H H2:Hp}{D:Ends}
theorem pC {kvs:List (Key×V)}(h:fS kvs k=none):cf kvs k y=kvs++[(k,y)]:=by unfold cf;rw[kg,h,Kv (by simp)]
end
section
variable {P:Oz}{w:World}{K:Oy}{mg:Str->Option OA}{base:Heap}
end
section
variable {X:Cx}{E:XK}
open Classical in
end
section
variable {X:Cx}{E:XK}{scope:Scope}{tg:Expr}{tN:List Str}{capN:List Str}{caps:List Nat}{iter elt:Expr}{pos:Pos}{src:En->Res Src}
end
section
variable {X:Cx}{E:XK}
end
noncomputable abbrev IP:=Int×Int
noncomputable def dp (l:List IP)(x:IP):List IP:=if x∈l then l else l++[x]
def h1 (ts:List Ii):List IP:=(ts.map λt=>(t.1,t.2.1)).foldl dp []
section
variable {H:Hp}{a:Addr}{ts:List Ii}{A:IP->Addr}{x y z:Int}
end
section
variable {X:Cx}{E:XK}{tg:Expr}
end
end L3
namespace L2
open PySem PySem.Spec PySem.Calls PyProof.Rows
section
variable {X:Cx}
theorem zk:CallR X (.builtin "len") (λxs H Q=>∃(d:Addr)(kvs:List (Key×V))(u:HO),xs=[.ref d]/\(u=.dK kvs\/(u=.dT []/\kvs=[]))/\Rd H d u/\kvs.length<=sizeLine/\Q (.int kvs.length) H):=by
 intro pins s σ H xs us Q I r h;obtain⟨d,kvs,u,rfl,hu,hrd,hz,q⟩:=h;obtain⟨w,rfl,rx⟩:=j_ r;cases rx;have hx:=hrd.ok I.hok;have key:(d==sysModules)=false/\∃ vs,KV kvs vs/\s.heap.DictOf (av X.prog X.w) d vs:=by
  rcases hu with rfl|⟨rfl,rfl⟩
  .obtain⟨z,hd,vs,rel,dd⟩:=hx;exact⟨hd,vs,rel,dd⟩
  .obtain⟨hd,dd⟩:=ng hx;exact⟨hd,[],.nil,dd⟩
 obtain⟨hd,vs,rel,dd⟩:=key;refine call_len_dict hd dd (by rw[<- rel.length];rw[Mi]at hz;lia) ?_;exact⟨.int kvs.length,H,I.tok _,⟨_,by rw[rel.length]⟩,q⟩
end
end L2
namespace L3
open PySem PySem.Spec PyProof.Rows L2
section
variable {X:Cx}{E:XK}
end
section
variable {H:Hp}{m:Addr->Prop}
end
section
variable {X:Cx}{E:XK}
theorem aK (h:PE X o (aw i)):PD X E (.Subscript o (.Constant (.int k) j pos') pos) (aX i (vC (.int k))):=wA h aC (λ_ _=>rfl)
end
theorem fT {K KK:Oy}{mg:Str->Option OA}{x:Str}{st:Stmt}{ps:List Str}{f:Addr}{oc:OA}{od an:Option Addr}{osl:Array (Option OA)}{kV doc pm cdv ct:OA}(U:SubK K KK)
 (l:K.lookup f=some ⟨oc,od,.func (PySem.W.fnOf x x (defArgs st) (defBody st) (defScope st) .none kV doc pm an cdv ct),osl⟩) (c:PySem.W.codeIn K cdv x=true) (g:mg x=some (.ref f))
 (h:∀(kV doc pm:OA)(an:Option Addr)(cdv ct:OA)(us:List OA),us.length=ps.length->bindArgs (PySem.W.fnOf x x (defArgs st) (defBody st) (defScope st) .none kV doc pm an cdv ct) ⟨us,[]⟩=pure (ps.zip us)) :
 Fn KK mg x st ps f (PySem.W.fnOf x x (defArgs st) (defBody st) (defScope st) .none kV doc pm an cdv ct):=
 have F:Fun KK x x st f _:=nc (U.look _ _ l (λ_ _ z=>nomatch z)) (U.code c) (U.keep l)
 ⟨F,F.binds h,g⟩
section
variable {X:Cx}{E:XK}{CX:CXT}{k:Nat}{f:Addr}{fd:FuncData}{ps:List Str}{F:List D->Res R}{x:Str}{e:Expr}{es:List Expr}{fs:En->Res (List R)}{p pos:Pos}
theorem bA {st:Stmt}(G:FnOk X.prog X.w X.K X.mg X.base CX k f fd ps (pO X.mg ps.length F))(hr:Room k X.A)(hg:Gl X x)(h:Fn X.K X.mg x st ps f fd)(hx:iU CX X E)
 (ha:AH X E (e::es) fs) (hl:∀ env rs,fs env=.ok rs->rs.length=ps.length) (hdb:autoParam ((x==("__debug__" : Str))=false) OC._auto_1) (he:autoParam (starEach (e::es) X.env=(false,eval e X.env)::starEach es X.env) OH._auto_1) (hpl:autoParam ((backTo pos (starEach es X.env)).any (·.1)=false) OH._auto_1) :
 PD X E (.Call (.Name x p) (e::es) [] pos) (fQ F fs):=Ds G hr hg h.gl h.fu.kp h.bi hx ha hl hdb he hpl
end
def lC:List DK->List D->Option (List D)
 | [],[]=>some []
 | .inr k::r,x::ds=>(lC r ds).map (.tup [.tup (k.map kD),x]::·)
 |_,_=>none
theorem uT:∀{kvs:List (List Key×V)}{ds xs:List D},lC (kvs.map λp=>.inr p.1) ds=some xs->xs.length=kvs.length/\∀(i:Nat)(x:D),xs[i]?=some x->∃ p y,kvs[i]?=some p/\ds[i]?=some y/\x=.tup [.tup (p.1.map kD),y]
 | [],[],_,e=>by cases e;exact⟨rfl,λi x e=>by simp at e⟩
 | [],_::_,_,e=>by cases e
 |_::_,[],_,e=>by cases e
 |p::r,y::ds,xs,e=>by
  rw[Kr]at e;unfold lC at e;obtain⟨ys,e1,rfl⟩:=Lc.mp e;obtain⟨l,f⟩:=uT e1;refine⟨by simp[l],λi x ex=>?_⟩;cases i with
  |zero=>simp at ex;subst ex;exact⟨p,y,rfl,rfl,rfl⟩
  |succ i=>obtain⟨p',y',a,b,c⟩:=f i x (by simpa using ex);exact⟨p',y',by simpa using a,by simpa using b,c⟩
theorem Bk:∀(k:List Key),IsAll H m (k.map kD) (k.map kV)
 | []=>rfl
 |x::k=>⟨_,_,rfl,E6 x,Bk k⟩
theorem jl (hd:H d=some (.frz o u))(is:IsAll H m ds (kvs.map Prod.snd))(e0:lC (kvs.map λp=>.inr p.1) ds=some xs):Walk (EY d o u kvs) m H xs:=by
 obtain⟨l,f⟩:=uT e0;refine⟨λH' i x k e=>?_,λH' k=>⟨k d _ hd (.inr True.intro),by rw[l];exact Kq _⟩⟩;have hi:i<kvs.length:=by rw[<- l];exact(KA.mp e).1
 refine⟨⟨k d _ hd (.inr True.intro),hi⟩,λy H'' z=>?_⟩;obtain⟨p,b,k',v,hp,rfl,hb,rfl,ek⟩:=z;obtain⟨q,w,e1,e2,rfl⟩:=f i x e;rw[ek]at e1;cases e1;have s:Same H' (aB H' p (.tup [.ref b,v])):=aE hp;obtain⟨v',ev,iv⟩:=(is.mono k λ_ _ _ z=>z:IsAll H' m ds (kvs.map Prod.snd)).get e2;rw[KN,ek]at ev;cases ev;exact⟨s,p,_,rfl,ac,_,_,rfl,⟨b,_,rfl,s _ _ hb,Bk k'⟩,_,_,rfl,iv.same s,rfl⟩
theorem jb (h:Is H m (.dic ks ds) v)(hk:∀ k∈ks,∃ a,k=.inr a):∃ d kvs u,v=.ref d/\m d/\(u=.dT kvs\/(u=.dK []/\kvs=[]))/\Rd H d u/\ks=kvs.map (λp=>.inr p.1)/\IsAll H m ds (kvs.map Prod.snd):=by
 obtain⟨d,vs,rfl,⟨dat,md⟩,hall⟩:=h;rcases dat with⟨kvs,e,rfl,rfl⟩|⟨kvs,e,rfl,rfl⟩
 .cases kvs with
  |nil=>exact⟨d,[],_,rfl,md,.inr ⟨rfl,rfl⟩,e,rfl,hall⟩
  |cons p r=>obtain⟨a,ea⟩:=hk (.inl p.1) (by simp);cases ea
 .exact⟨d,kvs,_,rfl,md,.inl rfl,e,rfl,hall⟩
theorem pZ:∀{ks:List DK}{ds xs:List D},lC ks ds=some xs->∀ k∈ks,∃ a,k=.inr a
 | [],_,_,_,k,h=>by cases h
 | .inr a::r,x::ds,_,e,k,h=>by
  unfold lC at e;obtain⟨y,e1,_⟩:=Lc.mp e;rcases KB.mp h with h|h
  .exact⟨a,h⟩
  .exact pZ e1 k h
 | .inr _::_,[],_,e,_,_=>by cases e
 | .inl _::_,_,_,e,_,_=>by simp[lC]at e
def uU (asg:D->Bool->En->Option En)(fb:En->Res Fl)(env:En)(r:R):Res Fl:=match r.d with
 | .dic ks ds=>match lC ks ds with
  |some xs=>i_ (gb asg r.fr fb xs (frz env r.al))
  |none=>.stuck
 |_=>.stuck
def Bl (f:En->Res R)(asg:D->Bool->En->Option En)(fb:En->Res Fl):En->Res Fl:=λenv=>(f env).bind (uU asg fb env)
section
variable {X:Cx}{E:XK}
theorem Bm (hp:PassesOwn (model X.prog X.w) X.A X.env X.xe)(hc:X.calm=true)
 (hl:PD X E l f) (hg:z4 X ix (.Tuple es k0 j5) asg) (hb:qU X E body fb) (hbase:autoParam (attributeBase l "items" X.env (eval l X.env)=eval l X.env) OH._auto_1) (hline:autoParam ((apos.endLine==cpos.line)=true) OH._auto_1)
 (hs:autoParam (∀ x,foldedSetIterable (.Call (.Attribute l "items" apos) [] [] cpos) X.env x=pure x) OF._auto_1):vZ X E (.For (.Tuple es k0 j5) (.Call (.Attribute l "items" apos) [] [] cpos) body [] pos) (Bl f asg fb):=by
 obtain⟨tl,p1,s1⟩:=hl;obtain⟨w,p2,s2⟩:=hg;obtain⟨tb,p3,s3⟩:=hb;refine⟨_,wK (iy hp hc (nh p1 hbase hline) p2 p3 hs),λg M ρ env σ H D rep p=>?_⟩;refine s1.oneS rep p λr v M0 H1 e1 rep0 ro p0=>?_;obtain⟨M1,x1,x1m,rep1,is1⟩:=ro.is rep0 e1 rep.same;obtain⟨M2,ρ2,x2,rep2,o2,_,_⟩:=Rep.frz r.al rep1;have is2:Is H1 (msk g M2 r.fr) r.d v:=Is.frozen rep1 x2 o2 is1;have p2':=PostS.frz (⟨λa z=>x2 a (x1m a z),λ_ _ q _=>q⟩ : Frz M0 H1 M2 H1) p0;clear p0 p;unfold uU at p2';cases qd:r.d with
 |dic ks ds=>
  rw[qd]at p2' is2;dsimp only at p2';cases qk:lC ks ds with
  |none=>rw[qk]at p2';exact p2'.elim
  |some xs=>
   rw[qk]at p2';dsimp only at p2';obtain⟨d,kvs,u,rfl,md,hu,hrd,rfl,hall⟩:=jb is2 (pZ qk);have md:M2 d:=md.1;have iu:iZ u:=by rcases hu with rfl|⟨rfl,_⟩<;>exact True.intro
   refine⟨d,kvs,u,rfl,hu,?_⟩;rcases hrd with hrd|⟨o,hrd⟩
   .right;refine⟨hrd,λo hnf=>kz (E:=E) (g:=gq g d o u) (fr:=r.fr) (xs:=xs) s2 s3 (rep2.still hrd iu md) (jl ac ?_ qk) (pY rep2 hrd iu md hnf p2')⟩;exact IsAll.of_each (P:=λ_ _=>True) (λx w=>Is.still hrd iu λ_ z=>msk_still.mpr z) hall
   .left;exact⟨o,hrd,kz (E:=E) (g:=g) (fr:=r.fr) (xs:=xs) s2 s3 rep2 (jl hrd hall qk) (og p2')⟩
 |_=>rw[qd]at p2';exact p2'.elim
end
def jm:List R->Res R
 | [r,q]=>match r.d,q.d with
  | .int i,.int j=>if 0<j/\j<1073741824 then .ok (mkV (.tup [.int (i / j),.int (i % j)]) true []) else .stuck
  |_,_=>.stuck
 |_=>.stuck
section
variable {X:Cx}{E:XK}
theorem jE:ky X E (.builtin "divmod") jm:=by
 refine⟨_,uj,λg M ρ env σ H Q rs vs rep i p=>?_⟩
 match rs,i,p with
 | [r,q],i,p=>
  obtain⟨v,_,rfl,i1,w,_,rfl,i2,e⟩:=i;cases e;unfold jm at p;dsimp only at p i1 i2;cases z1:r.d with
  |int a=>
   cases z2:q.d with
   |int b=>
    rw[z1,z2]at p;rw[z1]at i1;rw[z2]at i2;dsimp only at p;cases i1;cases i2;by_cases hc:0<b/\b<1073741824
    .rw[Ku hc]at p;exact⟨a,b,rfl,hc,λt ht=>p.tup rep ht ⟨_,_,rfl,rfl,_,_,rfl,rfl,rfl⟩⟩
    .rw[Kv hc]at p;exact p.elim
   |_=>rw[z1,z2]at p;exact p.elim
  |_=>rw[z1]at p;exact p.elim
 | [],_,p=>exact p.elim
 | [_],_,p=>exact p.elim
 |_::_::_::_,_,p=>exact p.elim
def Bn (i j:Nat)(env:En):List R->Res Fl
 | [r,q]=>if r.d.flat&&q.d.flat&&decide (i<env.length)&&decide (j<env.length) then .ok (.nx ((env.set i (some (.val r.d true))).set j (some (.val q.d true)))) else .stuck
 |_=>.stuck
def DI (i j:Nat)(fs:En->Res (List R)):En->Res Fl:=λenv=>(fs env).bind (Bn i j env)
theorem DJ {kt k2 pt2}(hc:X.calm=true)(hN:X.N.Nodup)(hi:X.N[i]?=some x)(hj:X.N[j]?=some y)(hij:i≠j)
 (hx:X.env.scope.names.lookup x=some .local) (hy:X.env.scope.names.lookup y=some .local) (ha:AH X E [a,b] fs)
 (hw:autoParam (swappedStores [.Tuple [.Name x px,.Name y py] kt pt] (.Tuple [a,b] k2 pt2) X.env=pure (some [x,y])) OH._auto_1)
 (hs:autoParam (swapsWithSole [.Tuple [.Name x px,.Name y py] kt pt] (.Tuple [a,b] k2 pt2) pos.line X.env=pure false) OH._auto_1) :
 vZ X E (.Assign [.Tuple [.Name x px,.Name y py] kt pt] (.Tuple [a,b] k2 pt2) pos) (DI i j fs):=by
 obtain⟨t,p1,s1⟩:=ha;refine⟨_,FJ hc hN hi hj hij hx hy p1 hw hs,λg M ρ env σ H D rep p=>?_⟩;refine s1 g M ρ env σ H _ rep ?_;unfold DI at p;cases q:fs env with
 |stuck=>rw[q]at p;exact p
 |exc c'=>rw[q]at p;exact p
 |ok rs=>
  rw[q]at p;simp only[Res.bind_ok]at p;intro vs M1 H1 e1 rep1 is
  match rs,p,is with
  | [r,z],p,is=>
   unfold Bn at p;dsimp only at p;by_cases hl:(r.d.flat&&z.d.flat&&decide (i<env.length)&&decide (j<env.length))=true
   .rw[Ku hl]at p;simp only[Ln,MN]at hl;obtain⟨⟨⟨f1,f2⟩,l1⟩,l2⟩:=hl;obtain⟨v,_,rfl,i1,w,_,rfl,i2,rfl⟩:=is;refine⟨v,w,rfl,?_⟩;refine nw (i:=i) g M1 ρ env (env.set i (some (.val r.d true))) σ H1 r.d true v (λσ' H'=>D.nx (σ'.set j (some w)) H') rep1 (Is.flat f1 i1) (Ku l1) λσ' ρ' rep2 _ _=>?_;have aR:j<(env.set i (some (.val r.d true))).length:=by rw[MO];exact l2
    exact nw (i:=j) g M1 ρ' (env.set i (some (.val r.d true))) _ σ' H1 z.d true w D.nx rep2 (Is.flat f2 i2) (Ku aR) λσ'' ρ'' rep3 _ _=>p σ'' M1 ρ'' H1 e1.frz rep3
   .rw[Kv hl]at p;exact p.elim
  | [],p,_=>exact p.elim
  | [_],p,_=>exact p.elim
  |_::_::_::_,p,_=>exact p.elim
end
theorem zl {X:Cx}{E:XK}{st:Stmt}:vZ X E st (λ_=>.stuck):=⟨λ_ _ _=>False,λ_ _ _ _ _ _ h=>h.elim,λ_ _ _ _ _ _ _ _ p=>p⟩
end L3
namespace Pz
section
variable {κ α:Type}[DecidableEq κ]
noncomputable abbrev MD (κ α:Type):=List (κ×List α)
def MD.get (d:MD κ α)(k:κ):List α:=((d.find? λx=>decide (x.1=k)).map (·.2)).getD []
def MD.has (d:MD κ α)(k:κ):Bool:=d.any λx=>decide (x.1=k)
def MD.app (d:MD κ α)(k:κ)(v:α):MD κ α:=if d.has k then d.map (λx=>if x.1=k then (x.1,x.2++[v]) else x) else d++[(k,[v])]
def MD.drop (d:MD κ α)(k:κ):MD κ α:=d.filter λx=>decide (x.1≠k)
def MD.flat (d:MD κ α):List α:=d.flatMap (·.2)
abbrev MD.keys (d:MD κ α):List κ:=d.map (·.1)
structure MD.Ok (d:MD κ α):Prop where
 nk:d.keys.Nodup
 ne:∀ x∈d,x.2≠[]
theorem bB (x:κ×List α)(d:MD κ α)(k:κ):MD.get (x::d) k=if x.1=k then x.2 else MD.get d k:=by
 unfold MD.get;rw[Lm];by_cases h:x.1=k
 .rw[Kz h,Ku h];rfl
 .rw[KL h,Kv h]
theorem has_iff {d:MD κ α}{k:κ}:d.has k=true↔k∈d.keys:=by unfold MD.has;rw[Oo,KH];exact⟨λ⟨x,h1,h2⟩=>⟨x,h1,KU h2⟩,λ⟨x,h1,h2⟩=>⟨x,h1,Kz h2⟩⟩
theorem Bo {d:MD κ α}{k:κ}(h:k∉d.keys):d.get k=[]:=by
 induction d with
 |nil=>rfl
 |cons x r ih=>rw[bB,Kv (λe=>h (by simp[MD.keys,<- e]))];exact ih λq=>h (Kx _ q)
theorem DM {d:MD κ α}(nd:d.keys.Nodup){k:κ}{l:List α}(h:(k,l)∈d):d.get k=l:=by
 induction d with
 |nil=>cases h
 |cons x r ih=>
  rw[bB];have nd':=Lj.mp nd;rcases KB.mp h with e|h
  .rw[<- e,Ku rfl]
  .rw[Kv (λ(e:x.1=k)=>nd'.1 (by show x.1∈_;rw[e];exact KH.mpr ⟨_,h,rfl⟩)),ih nd'.2 h]
theorem tH {d:MD κ α}{k:κ}{v:α}(h:v∈d.get k):(k,d.get k)∈d:=by
 induction d with
 |nil=>cases h
 |cons x r ih=>
  rw[bB]at h ⊢;by_cases e:x.1=k
  .rw[Ku e];subst e;exact KE
  .rw[Kv e]at h ⊢;exact Kx _ (ih h)
theorem tJ {d:MD κ α}{k:κ}{v:α}(h:k∉d.keys):d.map (λx=>if x.1=k then (x.1,x.2++[v]) else x)=d:=by
 conv=>rhs;rw[<- List.map_id d]
 exact L7 λx hx=>Kv λe=>h (KH.mpr ⟨x,hx,e⟩)
theorem Bp (d:MD κ α)(k:κ)(v:α):(d.app k v).keys=if k∈d.keys then d.keys else d.keys++[k]:=by
 unfold MD.app;by_cases h:k∈d.keys
 .rw[Ku (has_iff.mpr h),Ku h];unfold MD.keys;rw[KZ];exact L7 λx _=>by simp only[Function.comp];split<;>rfl
 .rw[Kv (λq=>h (has_iff.mp q)),Kv h];unfold MD.keys;rw[K6];rfl
theorem nH {d:MD κ α}(O:d.Ok)(k:κ)(v:α):(d.app k v).Ok:=by
 constructor
 .rw[Bp];split
  .exact O.nk
  .rename_i h;exact LW.mpr ⟨O.nk,by simp,λa ha b hb e=>by rw[KJ]at hb;subst hb;subst e;exact h ha⟩
 .intro x hx;unfold MD.app at hx;split at hx
  .obtain⟨y,hy,rfl⟩:=KH.mp hx;split
   .simp
   .exact O.ne y hy
  .rcases Lf.mp hx with h|h
   .exact O.ne x h
   .rw[KJ]at h;subst h;simp
theorem oE {d:MD κ α}{k:κ}{l:List α}(h:k∉d.keys):MD.get (d++[(k,l)]) k=l:=by
 induction d with
 |nil=>rw[K7,bB,Ku rfl]
 |cons x r ih=>rw[K1,bB,Kv (λe=>h (by simp[MD.keys,<- e]))];exact ih λq=>h (Kx _ q)
theorem qW {d:MD κ α}{k k':κ}{l:List α}(h:k≠k'):MD.get (d++[(k,l)]) k'=d.get k':=by
 induction d with
 |nil=>rw[K7,bB,Kv h]
 |cons x r ih=>rw[K1,bB,bB,ih]
theorem tL {d:MD κ α}{k:κ}{v:α}(h:k∈d.keys):MD.get (d.map (λx=>if x.1=k then (x.1,x.2++[v]) else x)) k=d.get k++[v]:=by
 induction d with
 |nil=>cases h
 |cons x r ih=>
  rw[Kr,bB,bB];by_cases e:x.1=k
  .rw[Ku e,Ku (show x.1=k from e),Ku e]
  .rw[Kv e,Kv e,Kv e];rcases KB.mp h with q|q
   .exact(e q.symm).elim
   .exact ih q
theorem wL {d:MD κ α}{k k':κ}{v:α}(h:k≠k'):MD.get (d.map (λx=>if x.1=k then (x.1,x.2++[v]) else x)) k'=d.get k':=by
 induction d with
 |nil=>rfl
 |cons x r ih=>
  rw[Kr,bB,bB,ih];by_cases e:x.1=k
  .have e2:¬ x.1=k':=λz=>h (e.symm.trans z);rw[Ku e,Kv e2,Kv (show ¬ (x.1,x.2++[v]).1=k' from e2)]
  .rw[Kv e]
theorem oP (d:MD κ α)(k:κ)(v:α)(k':κ):(d.app k v).get k'=if k=k' then d.get k++[v] else d.get k':=by
 unfold MD.app;by_cases h:k∈d.keys
 .rw[Ku (has_iff.mpr h)];by_cases e:k=k'
  .subst e;rw[Ku rfl,tL h]
  .rw[Kv e,wL e]
 .rw[Kv (λq=>h (has_iff.mp q))];by_cases e:k=k'
  .subst e;rw[Ku rfl,oE h,Bo h];rfl
  .rw[Kv e,qW e]
theorem gC {d:MD κ α}(nd:d.keys.Nodup)(k:κ)(v:α):(d.app k v).flat.Perm (v::d.flat):=by
 unfold MD.app;by_cases h:k∈d.keys
 .rw[Ku (has_iff.mpr h)];induction d with
  |nil=>cases h
  |cons x r ih=>
   have nd':=Lj.mp nd;unfold MD.flat at ih ⊢;rw[Kr,L_,L_];by_cases e:x.1=k
   .subst e;rw[Ku rfl,tJ nd'.1];show((x.2++[v])++_).Perm _;rw[Mb];exact Ot
   .rw[Kv e];rcases KB.mp h with q|q
    .exact(e q.symm).elim
    .exact((Nk _).append (ih nd'.2 q)).trans Ot
 .rw[Kv (λq=>h (has_iff.mp q))];unfold MD.flat;rw[Nr];show(_++([v]++[])).Perm _;rw[KM];exact List.perm_append_singleton _ _
theorem zn (d:MD κ α)(k:κ):(d.drop k).keys=d.keys.filter λx=>decide (x≠k):=by unfold MD.drop MD.keys;rw[List.filter_map];rfl
theorem x6 {d:MD κ α}(O:d.Ok)(k:κ):(d.drop k).Ok:=⟨by rw[zn];exact List.Pairwise.filter _ O.nk,λx hx=>O.ne x (LD.mp hx).1⟩
theorem zp {d:MD κ α}{k:κ}(h:k∉d.keys):d.drop k=d:=by unfold MD.drop;exact List.filter_eq_self.mpr λx hx=>Kz λe=>h (KH.mpr ⟨x,hx,e⟩)
theorem nI {d:MD κ α}(nd:d.keys.Nodup)(k:κ):d.flat.Perm (d.get k++(d.drop k).flat):=by
 induction d with
 |nil=>exact Nk _
 |cons x r ih=>
  have nd':=Lj.mp nd;rw[bB];by_cases e:x.1=k
  .subst e;rw[Ku rfl];have:MD.drop (x::r) x.1=r:=by unfold MD.drop;rw[NE (by simp)];exact zp nd'.1
   rw[this];exact Nk _
  .rw[Kv e];have:MD.drop (x::r) k=x::MD.drop r k:=by unfold MD.drop;rw[NF (by simpa using e)]
   rw[this];unfold MD.flat at ih ⊢;rw[L_,L_];refine((Nk _).append (ih nd'.2)).trans ?_;rw[<- Mb,<- Mb];exact List.perm_append_comm.append_right _
theorem mem_flat {d:MD κ α}{v:α}:v∈d.flat↔∃ x∈d,v∈x.2:=MA
theorem mx (d:MD κ α){k:κ}{v:α}(h:v∈d.get k):v∈d.flat:=mem_flat.mpr ⟨_,tH h,h⟩
theorem oQ (d:MD κ α)(k:κ):(d.get k).length<=d.flat.length:=by
 induction d with
 |nil=>exact Kq _
 |cons x r ih=>rw[bB];unfold MD.flat at ih ⊢;rw[L_,KI];split<;>lia
theorem js {d:MD κ α}(O:d.Ok):d.length<=d.flat.length:=by
 have:∀ d:MD κ α,(∀ x∈d,x.2≠[])->d.length<=d.flat.length:=by
  intro d;induction d with
  |nil=>intro _;exact Kq _
  |cons x r ih=>intro h;have h1:=ih λy hy=>h y (Kx _ hy);have h2:0<x.2.length:=N5.mpr (h x KE);unfold MD.flat at h1 ⊢;rw[L_,KI,Ky];lia
 exact this d O.ne
end
end Pz
namespace Pz
noncomputable def lo:List Int->Int
 | []=>0
 |x::r=>r.foldl (λa b=>if b<a then b else a) x
theorem wM:∀(r:List Int)(x:Int),r.foldl (λa b=>if b<a then b else a) x∈x::r/\∀ y∈x::r,r.foldl (λa b=>if b<a then b else a) x<=y
 | [],x=>⟨KE,λy h=>by rw[KJ]at h;subst h;exact Nt _⟩
 |z::r,x=>by
  obtain⟨h1,h2⟩:=wM r (if z<x then z else x);rw[Mg];constructor
  .rcases KB.mp h1 with e|e
   .rw[e];split
    .exact Kx _ KE
    .exact KE
   .exact Kx _ (Kx _ e)
  .intro y hy;have h3:=h2 _ KE;have h4:(if z<x then z else x)<=z/\(if z<x then z else x)<=x:=by split<;>lia
   rcases KB.mp hy with e|hy
   .subst e;lia
   .rcases KB.mp hy with e|hy
    .subst e;lia
    .exact h2 y (Kx _ hy)
theorem Bq (h:l≠[]):lo l∈l:=by
 cases l with
 |nil=>exact(h rfl).elim
 |cons x r=>exact(wM r x).1
theorem Br (h:y∈l):lo l<=y:=by
 cases l with
 |nil=>cases h
 |cons x r=>exact(wM r x).2 y h
structure Pile (pile:Int->Int->Int):Prop where
 nn:∀{p l:Int},0<=p->0<=l->0<=pile p l
 ch:∀{p l:Int},0<=p->0<=l->∀ k:Nat,pile p l<=k↔p / 2 ^ k=l / 2 ^ k
section
variable {pile:Int->Int->Int}(P:Pile pile){p l m r:Int}
include P
theorem Pile.zero (hp:0<=p)(hl:0<=l):pile p l=0↔p=l:=by have h1:=P.nn hp hl;have h2:=P.ch hp hl 0;rw[Int.pow_zero,Int.ediv_one,Int.ediv_one]at h2;rw[<- h2];constructor<;>intro h<;>lia
theorem Pile.lt (hl:0<=l)(hp:l<=p)(hr:l<=r)(h:pile p l<pile r l):p<r:=by
 have p0:0<=p:=MQ hl hp;have r0:0<=r:=MQ hl hr;obtain⟨k,hk⟩:=Mh (P.nn p0 hl);have e1:=(P.ch p0 hl k).mp (by lia);have e2:¬ r / 2 ^ k=l / 2 ^ k:=λe=>by have:=(P.ch r0 hl k).mpr e;lia
 have pos:(0:Int)<2 ^ k:=Int.pow_pos (by decide);have e3:=Int.ediv_le_ediv pos hr;refine Int.not_le.mp λhc=>?_;have e4:=Int.ediv_le_ediv pos hc;lia
theorem Pile.same (hl:0<=l)(hm:l<=m)(hr:l<=r)(h:pile m l<pile r l):pile r m=pile r l:=by
 have m0:0<=m:=MQ hl hm;have r0:0<=r:=MQ hl hr;have key:∀ j:Nat,pile r m<=j↔pile r l<=j:=by
  intro j;rw[P.ch r0 m0,P.ch r0 hl];by_cases hj:pile m l<=j
  .rw[(P.ch m0 hl j).mp hj]
  .have hd:∀{a b:Int}{i:Nat},a / 2 ^ j=b / 2 ^ j->a / 2 ^ (j+i)=b / 2 ^ (j+i):=by intro a b i e;rw[Int.pow_add,<- Int.ediv_ediv_of_nonneg (NS (Int.pow_pos (by decide))),<- Int.ediv_ediv_of_nonneg (NS (Int.pow_pos (by decide))),e]
   obtain⟨k,hk⟩:=Mh (P.nn m0 hl);obtain⟨i,rfl⟩ : ∃ i,k=j+i:=⟨k-j,by lia⟩;constructor<;>intro e<;>exfalso
   .have e1:=hd (i:=i) e;rw[(P.ch m0 hl (j+i)).mp (by lia)]at e1;have:=(P.ch r0 hl (j+i)).mpr e1;lia
   .have:=(P.ch r0 hl j).mpr e;lia
 obtain⟨a,ha⟩:=Mh (P.nn r0 m0);obtain⟨b,hb⟩:=Mh (P.nn r0 hl);have h1:=key a;have h2:=key b;lia
end
section
variable {α:Type}{pile:Int->Int->Int}
abbrev Q (α:Type):=MD Int (Int×α)
structure QOk (pile:Int->Int->Int) (last:Int) (d:Q α):Prop where
 ok:d.Ok
 l0:0<=last
 at_:∀ x∈d,∀ y∈x.2,x.1=pile y.1 last/\last<=y.1
theorem QOk.add (h:QOk pile last d)(a:α)(hp:last<=p):QOk pile last (d.app (pile p last) (p,a)):=by
 refine⟨nH h.ok _ _,h.l0,λx hx y hy=>?_⟩;unfold MD.app at hx;split at hx
 .obtain⟨z,hz,rfl⟩:=KH.mp hx;by_cases e:z.1=pile p last
  .rw[Ku e]at hy ⊢;rcases Lf.mp hy with hy|hy
   .exact h.at_ z hz y hy
   .rw[KJ]at hy;subst hy;exact⟨e,hp⟩
  .rw[Kv e]at hy ⊢;exact h.at_ z hz y hy
 .rcases Lf.mp hx with hx|hx
  .exact h.at_ x hx y hy
  .rw[KJ]at hx;subst hx;rw[KJ]at hy;subst hy;exact⟨rfl,hp⟩
def addAll (pile:Int->Int->Int)(last:Int)(d:Q α)(l:List (Int×α)):Q α:=l.foldl (λd x=>d.app (pile x.1 last) x) d
theorem QOk.addAll:∀{l:List (Int×α)}{d:Q α},QOk pile last d->(∀ x∈l,last<=x.1)->QOk pile last (addAll pile last d l)
 | [],d,h,_=>h
 |x::l,d,h,hl=>QOk.addAll (l:=l) (h.add x.2 (hl x KE)) λy hy=>hl y (Kx _ hy)
theorem kE:∀{l:List (Int×α)}{d:Q α},d.Ok->(addAll pile last d l).flat.Perm (l++d.flat)
 | [],d,h=>Nk _
 |x::l,d,h=>(kE (l:=l) (nH h _ _)).trans (((Nk _).append (gC h.nk _ _)).trans Ot)
def lowK (d:Q α):Int:=lo d.keys
def lowP (d:Q α):Int:=lo ((d.get (lowK d)).map (·.1))
def mid (pile:Int->Int->Int)(d:Q α):Q α:=addAll pile (lowP d) (d.drop (lowK d)) (d.get (lowK d))
def taken (pile:Int->Int->Int)(d:Q α):List (Int×α):=(mid pile d).get 0
def left (pile:Int->Int->Int)(d:Q α):Q α:=(mid pile d).drop 0
structure Took (pile:Int->Int->Int) (last:Int) (d:Q α):Prop where
 ge:last<=lowP d
 ok:QOk pile (lowP d) (left pile d)
 eq:∀ x∈taken pile d,x.1=lowP d
 lt:∀ x∈(left pile d).flat,lowP d<x.1
 pm:d.flat.Perm (taken pile d++(left pile d).flat)
 ne:taken pile d≠[]
 k1:lowK d∈d.keys
 k2:d.get (lowK d)≠[]
 k3:0∈(mid pile d).keys
 o1:QOk pile (lowP d) (d.drop (lowK d))
theorem took (P:Pile pile)(h:QOk pile last d)(hne:d≠[]):Took pile last d:=by
 have k1:lowK d∈d.keys:=Bq (by simpa[MD.keys] using hne);obtain⟨x0,hx0,ex0⟩:=KH.mp k1;have g0:d.get (lowK d)=x0.2:=DM h.ok.nk (by rw[<- ex0];exact hx0);have k2:d.get (lowK d)≠[]:=by rw[g0];exact h.ok.ne x0 hx0
 have hm:lowP d∈(d.get (lowK d)).map (·.1):=Bq (by simpa using k2);obtain⟨y0,hy0,ey0⟩:=KH.mp hm;have qT:∀ y∈d.get (lowK d),lowK d=pile y.1 last/\last<=y.1:=λy hy=>by rw[g0]at hy;have:=h.at_ x0 hx0 y hy;rw[ex0]at this;exact this
 have hl:last<=lowP d:=by rw[<- ey0];exact(qT y0 hy0).2
 have l0:0<=lowP d:=MQ h.l0 hl;have kP:pile (lowP d) last=lowK d:=by rw[<- ey0];exact(qT y0 hy0).1.symm
 have minP:∀ y∈d.get (lowK d),lowP d<=y.1:=λy hy=>Br (KH.mpr ⟨y,hy,rfl⟩);have oth:∀ x∈d.drop (lowK d),∀ y∈x.2,x.1=pile y.1 (lowP d)/\lowP d<y.1:=λx hx y hy=>by
  obtain⟨hx,hn⟩:=LD.mp hx;have hn:x.1≠lowK d:=KU hn;have hle:lowK d<=x.1:=Br (KH.mpr ⟨x,hx,rfl⟩);obtain⟨e1,e2⟩:=h.at_ x hx y hy;have hlt:pile (lowP d) last<pile y.1 last:=by rw[kP,<- e1];lia
  exact⟨e1.trans (P.same h.l0 hl e2 hlt).symm,P.lt h.l0 hl e2 hlt⟩
 have o1:QOk pile (lowP d) (d.drop (lowK d)):=⟨x6 h.ok _,l0,λx hx y hy=>⟨(oth x hx y hy).1,NS (oth x hx y hy).2⟩⟩;have o2:QOk pile (lowP d) (mid pile d):=o1.addAll minP;have pm1:d.flat.Perm (mid pile d).flat:=(nI h.ok.nk _).trans (kE o1.ok).symm;have pm2:(mid pile d).flat.Perm (taken pile d++(left pile d).flat):=nI o2.ok.nk 0;have eq:∀ x∈taken pile d,x.1=lowP d:=λx hx=>by have:=o2.at_ _ (tH hx) x hx;exact(P.zero (MQ l0 this.2) l0).mp this.1.symm
 have lt:∀ x∈(left pile d).flat,lowP d<x.1:=λx hx=>by obtain⟨y,hy,hx⟩:=mem_flat.mp hx;obtain⟨hy,hn⟩:=LD.mp hy;have hn:y.1≠0:=KU hn;obtain⟨e1,e2⟩:=o2.at_ y hy x hx;have:¬ x.1=lowP d:=λe=>hn (e1.trans ((P.zero (MQ l0 e2) l0).mpr e));lia
 have yin:y0∈taken pile d:=by
  have h1:y0∈d.flat:=mx d hy0;rcases Lf.mp ((pm1.trans pm2).mem_iff.mp h1) with h|h
  .exact h
  .have:=lt _ h;lia
 exact⟨hl,⟨x6 o2.ok _,l0,λx hx=>o2.at_ x (LD.mp hx).1⟩,eq,lt,pm1.trans pm2,(λe=>by rw[e]at yin;cases yin),k1,k2,KH.mpr ⟨_,tH yin,rfl⟩,o1⟩
end
end Pz
namespace Pz
noncomputable abbrev Arr:=Int×Int×Int
noncomputable abbrev Rule:=Int×Int×Int×List Int
noncomputable abbrev Val:=Int×Option Int×Option Int
abbrev TD:=List (Arr×Val)
noncomputable def tget (t:TD)(a:Arr):Option Val:=(t.find? λx=>decide (x.1=a)).map (·.2)
def tput (t:TD)(a:Arr)(v:Val):TD:=if (tget t a).isSome then t.map (λx=>if x.1=a then (x.1,v) else x) else t++[(a,v)]
structure PS where
 told:TD
 last:Int
 piles:Q Arr
 settled:MD (Int×Int) (Int×Int)
 lacking:MD (Int×Int) (Int×Rule×Int)
abbrev RS:=MD (Int×Int) (Int×Rule)
section
variable (pile:Int->Int->Int)(rs:RS)
def jF (S:PS)(a:Arr)(p:Int):Bool:=match tget S.told a with
 |none=>true
 |some v=>decide (p<v.1)
def lQ (S:PS)(a:Arr)(p:Int)(n m:Option Int):PS:={ S with told:=tput S.told a (p,n,m),piles:=S.piles.app (pile p S.last) (p,a) }
def offer (S:PS)(a:Arr)(p:Int)(n m:Option Int):PS:=if jF S a p then lQ pile S a p n m else S
def nth1 (l:List Int):Int:=l[1]?.getD 0
def lack (S:PS)(num:Int)(r:Rule)(mid price:Int):PS:={ S with lacking:=S.lacking.app (mid,nth1 r.2.2.2) (num,r,price) }
def first (S:PS)(num:Int)(r:Rule)(mid price:Int):PS:=(S.settled.get (mid,nth1 r.2.2.2)).foldl (λS x=>offer pile S (r.1,r.2.1,x.1) (price+x.2+1) (some num) (some mid)) (lack S num r mid price)
def note (S:PS)(a:Arr)(price:Int):PS:={ S with settled:=S.settled.app (a.1,a.2.1) (a.2.2,price) }
def my (a:Arr)(price:Int)(S:PS)(x:Int×Rule×Int):PS:=offer pile S (x.2.1.1,x.2.1.2.1,a.2.2) (x.2.2+price+1) (some x.1) (some a.1)
def dF (a:Arr)(price:Int)(S:PS)(x:Int×Rule):PS:=if x.2.2.2.2.length=1 then offer pile S (x.2.1,x.2.2.1,a.2.2) (price+1) (some x.1) none else first pile S x.1 x.2 a.2.2 price
def settle (S:PS)(a:Arr)(price:Int):PS:=(rs.get (a.1,a.2.1)).foldl (dF pile a price) ((S.lacking.get (a.1,a.2.1)).foldl (my pile a price) (note S a price))
def oR (S:PS)(x:Int×Arr):Bool:=match tget S.told x.2 with
 |none=>false
 |some v=>decide (v.1=x.1)
def turn (S:PS)(x:Int×Arr):PS:=if oR S x then settle pile rs S x.2 x.1 else S
def batch (S:PS)(l:List (Int×Arr)):PS:=l.foldl (turn pile rs) S
def take (S:PS):PS:={ S with last:=lowP S.piles,piles:=left pile S.piles }
end
noncomputable def L:Nat:=16000000
structure Fit (S:PS):Prop where
 t:S.told.length<L
 p:S.piles.length<L
 pf:S.piles.flat.length<L
 s:S.settled.length<L
 sf:S.settled.flat.length<L
 l:S.lacking.length<L
 lf:S.lacking.flat.length<L
inductive Loop (pile:Int->Int->Int) (rs:RS):Nat->PS->PS->Prop where
 |done {S:PS}:S.piles=[]->Loop pile rs 0 S S
 |step {n:Nat} {S T:PS}:S.piles≠[]->QOk pile S.last S.piles->(∀ x∈taken pile S.piles,tget S.told x.2≠none)->Fit S->Fit (batch pile rs (take pile S) (taken pile S.piles))->
  Loop pile rs n (batch pile rs (take pile S) (taken pile S.piles)) T->Loop pile rs (n+1) S T
theorem c_ (x:Arr×Val)(t:TD)(a:Arr):tget (x::t) a=if x.1=a then some x.2 else tget t a:=by
 unfold tget;rw[Lm];by_cases h:x.1=a
 .rw[Kz h,Ku h];rfl
 .rw[KL h,Kv h]
theorem tget_none:tget t a=none↔a∉t.map (·.1):=by
 induction t with
 |nil=>simp[tget]
 |cons x r ih=>
  rw[c_,Kr,KB];by_cases h:x.1=a
  .rw[Ku h];simp[h]
  .rw[Kv h,ih];exact⟨λk=>not_or.mpr ⟨λe=>h e.symm,k⟩,λk=>(not_or.mp k).2⟩
theorem p_ (h:tget t a=some v):(a,v)∈t:=by
 induction t with
 |nil=>cases h
 |cons x r ih=>
  rw[c_]at h;by_cases e:x.1=a
  .rw[Ku e]at h;cases h;subst e;exact KE
  .rw[Kv e]at h;exact Kx _ (ih h)
theorem qg (nd:(t.map (·.1)).Nodup)(h:(a,v)∈t):tget t a=some v:=by
 induction t with
 |nil=>cases h
 |cons x r ih=>
  rw[c_];have nd':=Lj.mp nd;rcases KB.mp h with e|h
  .rw[<- e,Ku rfl]
  .have:¬ x.1=a:=λe=>nd'.1 (by show x.1∈_;rw[e];exact KH.mpr ⟨_,h,rfl⟩);rw[Kv this,ih nd'.2 h]
theorem zq (t:TD)(a:Arr)(v:Val):(tput t a v).map (·.1)=if a∈t.map (·.1) then t.map (·.1) else t.map (·.1)++[a]:=by
 unfold tput;cases h:tget t a with
 |none=>rw[Kv (by simp),Kv (tget_none.mp h),K6];rfl
 |some w=>have:a∈t.map (·.1):=KH.mpr ⟨_,p_ h,rfl⟩;rw[Ku (by simp),Ku this,KZ];exact L7 λx _=>by simp only[Function.comp];split<;>rfl
theorem DN (h:(t.map (·.1)).Nodup)(a:Arr)(v:Val):((tput t a v).map (·.1)).Nodup:=by
 rw[zq];split
 .exact h
 .rename_i q;exact LW.mpr ⟨h,by simp,λx hx b hb e=>by rw[KJ]at hb;subst hb;subst e;exact q hx⟩
theorem uV (t:TD)(a:Arr)(v:Val):t.length<=(tput t a v).length/\(tput t a v).length<=t.length+1:=by
 unfold tput;split
 .rw[Kw];lia
 .rw[KI];simp
theorem jG (t:TD)(a:Arr)(v:Val)(b:Arr):tget (tput t a v) b=if a=b then some v else tget t b:=by
 unfold tput;cases h:tget t a with
 |none=>
  rw[Kv (by simp)];have hn:=tget_none.mp h;clear h;induction t with
  |nil=>rw[K7,c_]
  |cons x r ih=>
   rw[K1,c_,c_,ih λk=>hn (Kx _ k)];by_cases e:x.1=b
   .have:¬ a=b:=λz=>hn (by rw[z,<- e];exact KE);rw[Ku e,Kv this,Ku e]
   .rw[Kv e,Kv e]
 |some w=>
  rw[Ku (by simp)];have hm:a∈t.map (·.1):=KH.mpr ⟨_,p_ h,rfl⟩;clear h;by_cases e:a=b
  .subst e;rw[Ku rfl];induction t with
   |nil=>cases hm
   |cons x r ih=>
    rw[Kr,c_];by_cases e:x.1=a
    .rw[Ku e,Ku (show(x.1,v).1=a from e)]
    .rw[Kv e,Kv e];rcases KB.mp hm with q|q
     .exact(e q.symm).elim
     .exact ih q
  .rw[Kv e];clear hm;induction t with
   |nil=>rfl
   |cons x r ih=>
    rw[Kr,c_,c_,ih];by_cases e2:x.1=a
    .have e3:¬ x.1=b:=λz=>e (e2.symm.trans z);rw[Ku e2,Kv e3,Kv (show ¬ (x.1,v).1=b from e3)]
    .rw[Kv e2]
structure Grow (S T:PS):Prop where
 t:S.told.length<=T.told.length
 p:S.piles.length<=T.piles.length
 pf:S.piles.flat.length<=T.piles.flat.length
 s:S.settled.length<=T.settled.length
 sf:S.settled.flat.length<=T.settled.flat.length
 l:S.lacking.length<=T.lacking.length
 lf:S.lacking.flat.length<=T.lacking.flat.length
theorem Grow.refl (S:PS):Grow S S:=⟨Kq _,Kq _,Kq _,Kq _,Kq _,Kq _,Kq _⟩
theorem Grow.trans (a:Grow S T)(b:Grow T U):Grow S U:=⟨Ld a.t b.t,Ld a.p b.p,Ld a.pf b.pf,Ld a.s b.s,Ld a.sf b.sf,Ld a.l b.l,Ld a.lf b.lf⟩
theorem Grow.fit (a:Grow S T)(h:Fit T):Fit S:=⟨Ls a.t h.t,Ls a.p h.p,Ls a.pf h.pf,Ls a.s h.s,Ls a.sf h.sf,Ls a.l h.l,Ls a.lf h.lf⟩
theorem iO {κ α:Type}[DecidableEq κ](d:MD κ α)(k:κ)(v:α):d.length<=(d.app k v).length/\d.flat.length<=(d.app k v).flat.length:=by
 unfold MD.app;split
 .rw[Kw];refine⟨Kq _,?_⟩;unfold MD.flat;rw[Nu,Nu,KZ];induction d with
  |nil=>exact Kq _
  |cons x r ih=>
   rename_i h;clear h;rw[Kr,Kr,NY,NY];refine Nat.add_le_add ?_ ?_
   .simp only[Function.comp];split<;>simp
   .clear ih;induction r with
    |nil=>exact Kq _
    |cons y r ih=>rw[Kr,Kr,NY,NY];exact Nat.add_le_add (by simp only[Function.comp];split<;>simp) ih
 .rw[KI];unfold MD.flat;rw[Nr,KI];lia
theorem di {β:Type}(f:PS->β->PS)(h:∀ S x,Grow S (f S x)):∀(l:List β)(S:PS),Grow S (l.foldl f S)
 | [],S=>.refl S
 |x::l,S=>(h S x).trans (di f h l _)
variable {pile:Int->Int->Int}{rs:RS}
theorem cX (S:PS)(a:Arr)(p:Int)(n m:Option Int):Grow S (offer pile S a p n m):=by
 unfold offer;split
 .exact⟨(uV _ _ _).1,(iO _ _ _).1,(iO _ _ _).2,Kq _,Kq _,Kq _,Kq _⟩
 .exact .refl S
theorem wN (S:PS)(num:Int)(r:Rule)(mid price:Int):Grow S (first pile S num r mid price):=Grow.trans (T:=lack S num r mid price) ⟨Kq _,Kq _,Kq _,Kq _,Kq _,(iO _ _ _).1,(iO _ _ _).2⟩ (di _ (λS x=>cX S _ _ _ _) _ _)
theorem lR (a:Arr)(price:Int)(S:PS)(x:Int×Rule):Grow S (dF pile a price S x):=by
 unfold dF;split
 .exact cX _ _ _ _ _
 .exact wN _ _ _ _ _
theorem uW (S:PS)(a:Arr)(price:Int):Grow S (settle pile rs S a price):=(Grow.trans (S:=S) (T:=note S a price) ⟨Kq _,Kq _,Kq _,(iO _ _ _).1,(iO _ _ _).2,Kq _,Kq _⟩ (di (my pile a price) (λS x=>cX S _ _ _ _) _ _)).trans (di _ (lR a price) _ _)
theorem zr (S:PS)(x:Int×Arr):Grow S (turn pile rs S x):=by
 unfold turn;split
 .exact uW _ _ _
 .exact .refl S
theorem kF {β:Type}(f:PS->β->PS){a:Arr}(h:∀ S x,tget S.told a≠none->tget (f S x).told a≠none):∀(l:List β)(S:PS),tget S.told a≠none->tget (l.foldl f S).told a≠none
 | [],S,k=>k
 |x::l,S,k=>kF f h l _ (h S x k)
theorem qh (h:tget S.told b≠none):tget (offer pile S a p n m).told b≠none:=by
 unfold offer;split
 .show tget (tput _ _ _) _≠none;rw[jG];split
  .simp
  .exact h
 .exact h
theorem Bs (h:tget S.told b≠none):tget (dF pile a p S x).told b≠none:=by
 unfold dF;split
 .exact qh h
 .exact kF _ (λS x k=>qh k) _ _ (show tget (lack S _ _ _ _).told b≠none from h)
theorem DO (h:tget S.told b≠none):tget (turn pile rs S x).told b≠none:=by
 unfold turn;split
 .exact kF _ (λS x k=>Bs k) _ _ (kF (my pile _ _) (λS x k=>qh k) _ _ (show tget (note S _ _).told b≠none from h))
 .exact h
end Pz
namespace Pz
def Sd (S:PS)(a:Arr)(q:Int):Prop:=(a.2.2,q)∈S.settled.get (a.1,a.2.1)
def Has (S:PS)(a:Arr)(p:Int):Prop:=∃ v,tget S.told a=some v/\v.1<=p
def JustP (sd:Arr->Int->Prop)(c:Int)(put:List Int)(t p:Int)(m:Option Int):Prop:=match put with
 | []=>m=none/\p=1/\t=c
 | [x]=>m=none/\∃ q,sd (c,x,t) q/\p=q+1
 | [x,y]=>∃ d q1 q2,m=some d/\sd (c,x,d) q1/\sd (d,y,t) q2/\p=q1+q2+1
 |_=>False
theorem JustP.mono (h:∀ a q,sd a q->sd' a q)(j:JustP sd c put t p m):JustP sd' c put t p m:=by
 match put,j with
 | [],j=>exact j
 | [x],⟨e,q,s,e2⟩=>exact⟨e,q,h _ _ s,e2⟩
 | [x,y],⟨d,q1,q2,e,s1,s2,e2⟩=>exact⟨d,q1,q2,e,h _ _ s1,h _ _ s2,e2⟩
section
variable (RL:List Rule)(M:List Arr)
def Just (sd:Arr->Int->Prop)(a:Arr)(v:Val):Prop:=match v.2.1 with
 |none=>v.2.2=none/\v.1=0/\a∈M
 |some i=>∃(j:Nat)(r:Rule),i=j/\RL[j]?=some r/\a.1=r.1/\a.2.1=r.2.1/\JustP sd r.2.2.1 r.2.2.2 a.2.2 v.1 v.2.2
theorem Just.mono (h:∀ a q,sd a q->sd' a q)(j:Just RL M sd a v):Just RL M sd' a v:=by
 obtain⟨p,n,m⟩:=v;cases n with
 |none=>exact j
 |some i=>obtain⟨k,r,e1,e2,e3,e4,j⟩:=j;exact⟨k,r,e1,e2,e3,e4,j.mono h⟩
structure B (pile:Int->Int->Int) (U:List Arr) (S:PS) (rest:List (Int×Arr)):Prop where
 q:QOk pile S.last S.piles
 nd:S.piles.flat.Nodup
 nr:rest.Nodup
 tk:(S.told.map (·.1)).Nodup
 tu:∀ a v,tget S.told a=some v->a∈U
 ju:∀ a v,tget S.told a=some v->Just RL M (Sd S) a v
 ps:∀ a v,tget S.told a=some v->0<=v.1
 sd:∀ a p,Sd S a p->p<=S.last/\∃ v,tget S.told a=some v/\v.1=p
 sp:∀ a v,tget S.told a=some v->Sd S a v.1\/(v.1,a)∈S.piles.flat\/(v.1,a)∈rest
 it:∀ p a,(p,a)∈S.piles.flat\/(p,a)∈rest->Has S a p
 ns:∀ p a,(p,a)∈S.piles.flat\/(p,a)∈rest->¬ Sd S a p
 m0:∀ a v,tget S.told a=some v->a∈M->v=(0,none,none)
end
variable {RL:List Rule}{M U:List Arr}{pile:Int->Int->Int}{rs:RS}{S:PS}{rest:List (Int×Arr)}
theorem uX (h:¬ jF S a p=true):Has S a p:=by
 unfold jF at h;cases e:tget S.told a with
 |none=>rw[e]at h;exact(h rfl).elim
 |some v=>rw[e]at h;exact⟨v,e,Int.not_lt.mp λz=>h (Kz z)⟩
theorem jc (h:jF S a p=true)(e:tget S.told a=some v):p<v.1:=by unfold jF at h;rw[e]at h;exact KU h
theorem lv (a:Arr)(p:Int)(n m:Option Int):Has (offer pile S a p n m) a p:=by
 unfold offer;by_cases h:jF S a p=true
 .rw[Ku h];exact⟨(p,n,m),by show tget (tput _ _ _) _=_;rw[jG,Ku rfl],Nt _⟩
 .rw[Kv h];exact uX h
theorem jS (h:Has S b q):Has (offer pile S a p n m) b q:=by
 unfold offer;by_cases k:jF S a p=true
 .rw[Ku k];obtain⟨v,e,hv⟩:=h;by_cases e2:a=b
  .subst e2;exact⟨(p,n,m),by show tget (tput _ _ _) _=_;rw[jG,Ku rfl],NS (Int.lt_of_lt_of_le (jc k e) hv)⟩
  .exact⟨v,by show tget (tput _ _ _) _=_;rw[jG,Kv e2];exact e,hv⟩
 .rw[Kv k];exact h
theorem jT (a:Arr)(p:Int)(n m:Option Int):(offer pile S a p n m).settled=S.settled/\(offer pile S a p n m).lacking=S.lacking/\(offer pile S a p n m).last=S.last:=by unfold offer;split<;>exact⟨rfl,rfl,rfl⟩
theorem wO (h:S.piles.Ok)(a:Arr)(p:Int)(n m:Option Int)(hx:x∈(offer pile S a p n m).piles.flat):x∈S.piles.flat\/x=(p,a):=by
 unfold offer at hx;split at hx
 .rcases KB.mp ((gC h.nk _ _).mem_iff.mp hx) with e|e
  .exact .inr e
  .exact .inl e
 .exact .inl hx
theorem r_ (h:S.piles.Ok)(a:Arr)(p:Int)(n m:Option Int):(offer pile S a p n m).piles.flat.length<=S.piles.flat.length+1:=by
 unfold offer;split
 .exact Ov (gC h.nk _ _).length_eq
 .lia
theorem B.offer (b:B RL M pile U S rest)(hj:Just RL M (Sd S) a (p,n,m))(hu:a∈U)(hp:S.last<=p)(hr:(p,a)∉rest)(hs:¬ Sd S a p)
 (hm:a∈M->Has S a 0\/(p,n,m)=(0,none,none)):B RL M pile U (offer pile S a p n m) rest:=by
 unfold Pz.offer;by_cases k:jF S a p=true
 .rw[Ku k];have hS:∀ c q,Sd (lQ pile S a p n m) c q↔Sd S c q:=λc q=>Iff.rfl;have tg:∀ c,tget (lQ pile S a p n m).told c=if a=c then some (p,n,m) else tget S.told c:=λc=>jG _ _ _ _;have pf:=gC b.q.ok.nk (pile p S.last) (p,a);have p0:0<=p:=MQ b.q.l0 hp;have fl:∀ x,x∈(lQ pile S a p n m).piles.flat↔x=(p,a)\/x∈S.piles.flat:=λx=>by show x∈(S.piles.app (pile p S.last) (p,a)).flat↔_;rw[pf.mem_iff,KB]
  refine⟨b.q.add a hp,?_,b.nr,DN b.tk _ _,λc v e=>?_,λc v e=>?_,λc v e=>?_,λc q h=>?_,λc v e=>?_,λq c h=>?_,λq c h=>?_,λc v e hc=>?_⟩
  .refine pf.nodup_iff.mpr (Lj.mpr ⟨λh=>?_,b.nd⟩);obtain⟨v,e,hv⟩:=b.it p a (.inl h);have:=jc k e;lia
  .rw[tg]at e;by_cases z:a=c
   .rw[<- z];exact hu
   .rw[Kv z]at e;exact b.tu c v e
  .rw[tg]at e;by_cases z:a=c
   .rw[Ku z]at e;cases e;rw[<- z];exact hj
   .rw[Kv z]at e;exact b.ju c v e
  .rw[tg]at e;by_cases z:a=c
   .rw[Ku z]at e;cases e;exact p0
   .rw[Kv z]at e;exact b.ps c v e
  .obtain⟨h1,v,e,hv⟩:=b.sd c q h;refine⟨h1,v,?_,hv⟩;rw[tg,Kv (λz=>?_)]
   .exact e
   .subst z;have:=jc k e;lia
  .rw[tg]at e;by_cases z:a=c
   .rw[Ku z]at e;cases e;subst z;exact .inr (.inl ((fl _).mpr (.inl rfl)))
   .rw[Kv z]at e;rcases b.sp c v e with h|h|h
    .exact .inl h
    .exact .inr (.inl ((fl _).mpr (.inr h)))
    .exact .inr (.inr h)
  .have:(q,c)=(p,a)\/(q,c)∈S.piles.flat\/(q,c)∈rest:=by
    rcases h with h|h
    .rcases (fl _).mp h with h|h
     .exact .inl h
     .exact .inr (.inl h)
    .exact .inr (.inr h)
   rcases this with h|h
   .cases h;exact⟨(p,n,m),by rw[tg,Ku rfl],Nt _⟩
   .obtain⟨v,e,hv⟩:=b.it q c h;by_cases z:a=c
    .subst z;exact⟨(p,n,m),by rw[tg,Ku rfl],NS (Int.lt_of_lt_of_le (jc k e) hv)⟩
    .exact⟨v,by rw[tg,Kv z];exact e,hv⟩
  .rcases h with h|h
   .rcases (fl _).mp h with h|h
    .cases h;exact hs
    .exact b.ns q c (.inl h)
   .exact b.ns q c (.inr h)
  .rw[tg]at e;by_cases z:a=c
   .rw[Ku z]at e;cases e;subst z;rcases hm hc with⟨v,e,hv⟩|h
    .have:=jc k e;lia
    .exact h
   .rw[Kv z]at e;exact b.m0 c v e hc
 .rw[Kv k];exact b
end Pz
namespace Pz
section
variable (RL:List Rule)(M U:List Arr)(pile:Int->Int->Int)
structure BG (S:PS) (rest:List (Int×Arr)):Prop where
 b:B RL M pile U S rest
 gt:∀ x∈S.piles.flat,S.last<x.1
 eq:∀ x∈rest,x.1=S.last
 mh:∀ a∈M,Has S a 0
structure Ext (S T:PS) (rest:List (Int×Arr)) (k:Nat):Prop where
 bg:BG RL M U pile T rest
 mono:∀ a p,Has S a p->Has T a p
 se:T.settled=S.settled
 la:T.last=S.last
 len:T.piles.flat.length<=S.piles.flat.length+k
end
variable {RL:List Rule}{M U:List Arr}{pile:Int->Int->Int}{rs:RS}{S T V:PS}{rest:List (Int×Arr)}{k l:Nat}
theorem sh (h:T.settled=S.settled):Sd T=Sd S:=by unfold Sd;rw[h]
theorem Ext.trans (x:Ext RL M U pile S T rest k)(y:Ext RL M U pile T V rest l):Ext RL M U pile S V rest (k+l):=⟨y.bg,λa p h=>y.mono a p (x.mono a p h),y.se.trans x.se,y.la.trans x.la,by have:=x.len;have:=y.len;lia⟩
theorem BG.offer (g:BG RL M U pile S rest)(hj:Just RL M (Sd S) a (p,n,m))(hu:a∈U)(hp:S.last<p):Ext RL M U pile S (offer pile S a p n m) rest 1:=by
 obtain⟨e1,e2,e3⟩:=jT (pile:=pile) (S:=S) a p n m;have hb:=g.b.offer hj hu (NS hp) (λh=>by have:=g.eq _ h;dsimp only at this;lia) (λh=>by have:=(g.b.sd _ _ h).1;lia) λh=>.inl (g.mh a h);refine⟨⟨hb,λx hx=>?_,λx hx=>by rw[e3];exact g.eq x hx,λb hb=>jS (g.mh b hb)⟩,λb q h=>jS h,e1,e3,r_ g.b.q.ok _ _ _ _⟩;rw[e3];rcases wO g.b.q.ok _ _ _ _ hx with h|rfl
 .exact g.gt x h
 .exact hp
theorem lS {β:Type}(fa:β->Arr)(fp:β->Int)(fn fm:β->Option Int):∀(l:List β){S:PS},BG RL M U pile S rest->
 (∀ x∈l,Just RL M (Sd S) (fa x) (fp x,fn x,fm x)/\fa x∈U/\S.last<fp x)->
 Ext RL M U pile S (l.foldl (λS x=>offer pile S (fa x) (fp x) (fn x) (fm x)) S) rest l.length/\(l.foldl (λS x=>offer pile S (fa x) (fp x) (fn x) (fm x)) S).lacking=S.lacking/\
 ∀ x∈l,Has (l.foldl (λS x=>offer pile S (fa x) (fp x) (fn x) (fm x)) S) (fa x) (fp x)
 | [],S,g,_=>⟨⟨g,λ_ _ h=>h,rfl,rfl,Kq _⟩,rfl,λ_ h=>nomatch h⟩
 |x::l,S,g,h=>by
  obtain⟨j,u,lt⟩:=h x KE;have e:=g.offer j u lt;obtain⟨r,r1,r2⟩:=lS fa fp fn fm l (S:=offer pile S (fa x) (fp x) (fn x) (fm x)) e.bg λy hy=>by rw[sh e.se,e.la];exact h y (Kx _ hy)
  rw[Mg,Ky,Ow];refine⟨e.trans r,r1.trans (jT _ _ _ _).2.1,λy hy=>?_⟩;rcases KB.mp hy with rfl|hy
  .exact r.mono _ _ (lv _ _ _ _)
  .exact r2 y hy
structure House (RL:List Rule) (M U:List Arr) (rs:RS):Prop where
 few:∀ r∈RL,r.2.2.2.length<=2
 to:∀{n r c x},(n,r)∈rs.get (c,x)->∃(j:Nat)(l:List Int),n=j/\RL[j]?=some r/\r.2.2.1=c/\r.2.2.2=x::l
 of:∀{j:Nat}{r:Rule}{x l},RL[j]?=some r->r.2.2.2=x::l->((j:Int),r)∈rs.get (r.2.2.1,x)
 u1:∀ a∈M,a∈U
 u2:∀ r∈RL,(r.1,r.2.1,r.2.2.1)∈U
 u3:∀ r∈RL,∀ s x t,(s,x,t)∈U->(r.1,r.2.1,t)∈U
def Clo (RL:List Rule)(S:PS):Prop:=∀(j:Nat)(r:Rule),RL[j]?=some r->match r.2.2.2 with
 | []=>Has S (r.1,r.2.1,r.2.2.1) 1
 | [x]=>∀ t q,Sd S (r.2.2.1,x,t) q->Has S (r.1,r.2.1,t) (q+1)
 | [x,y]=>∀ d t q1 q2,Sd S (r.2.2.1,x,d) q1->Sd S (d,y,t) q2->Has S (r.1,r.2.1,t) (q1+q2+1)
 |_=>True
structure Lk (RL:List Rule) (S:PS):Prop where
 ok:S.lacking.Ok
 to:∀{n r q d y},(n,r,q)∈S.lacking.get (d,y)->∃(j:Nat)(x:Int),n=j/\RL[j]?=some r/\r.2.2.2=[x,y]/\Sd S (r.2.2.1,x,d) q
 of:∀{j:Nat}{r:Rule}{x y d q},RL[j]?=some r->r.2.2.2=[x,y]->Sd S (r.2.2.1,x,d) q->((j:Int),r,q)∈S.lacking.get (d,y)
theorem E7 (Hs:House RL M U rs)(hau:a∈U)(p0:0<=p):∀(l:List (Int×Rule)){S:PS},BG RL M U pile S rest->S.lacking.Ok->S.settled.Ok->S.last=p->Sd S a p->(∀ x∈l,x∈rs.get (a.1,a.2.1))->
 Ext RL M U pile S (l.foldl (dF pile a p) S) rest (l.length*S.settled.flat.length)/\(l.foldl (dF pile a p) S).lacking.Ok/\(l.foldl (dF pile a p) S).lacking.flat.length<=S.lacking.flat.length+l.length/\
 (∀ k z,z∈(l.foldl (dF pile a p) S).lacking.get k↔z∈S.lacking.get k\/∃ x∈l,x.2.2.2.2.length=2/\k=(a.2.2,nth1 x.2.2.2.2)/\z=(x.1,x.2,p))/\
 (∀ x∈l,x.2.2.2.2.length=1->Has (l.foldl (dF pile a p) S) (x.2.1,x.2.2.1,a.2.2) (p+1))/\
 ∀ x∈l,x.2.2.2.2.length=2->∀ t q,Sd S (a.2.2,nth1 x.2.2.2.2,t) q->Has (l.foldl (dF pile a p) S) (x.2.1,x.2.2.1,t) (p+q+1)
 | [],S,g,ok,so,hl,ha,_=>⟨⟨g,λ_ _ h=>h,rfl,rfl,On _ _⟩,ok,by simp,(λk z=>⟨.inl,λh=>h.elim id λ⟨x,h,_⟩=>(KG h).elim⟩),(λ_ h=>(KG h).elim),λ_ h=>(KG h).elim⟩
 |x::l,S,g,ok,so,hl,ha,hin=>by
  obtain⟨n,r⟩:=x;obtain⟨j,ys,rfl,hj,hc,hp⟩:=Hs.to (hin _ KE);have hr:r∈RL:=Ll hj;have aR:=Hs.few r hr;have n1:1<=S.settled.flat.length:=List.length_pos_of_mem (mx _ ha);have one:Ext RL M U pile S (dF pile a p S ((j:Int),r)) rest S.settled.flat.length/\(dF pile a p S ((j:Int),r)).lacking.Ok/\(dF pile a p S ((j:Int),r)).lacking.flat.length<=S.lacking.flat.length+1/\
   (∀ k z,z∈(dF pile a p S ((j:Int),r)).lacking.get k↔z∈S.lacking.get k\/(r.2.2.2.length=2/\k=(a.2.2,nth1 r.2.2.2)/\z=((j:Int),r,p)))/\
   (r.2.2.2.length=1->Has (dF pile a p S ((j:Int),r)) (r.1,r.2.1,a.2.2) (p+1))/\
   (r.2.2.2.length=2->∀ t q,Sd S (a.2.2,nth1 r.2.2.2,t) q->Has (dF pile a p S ((j:Int),r)) (r.1,r.2.1,t) (p+q+1)):=by
   unfold dF;by_cases h1:r.2.2.2.length=1
   .rw[Ku (show((j:Int),r).2.2.2.2.length=1 from h1)];have hys:r.2.2.2=[a.2.1]:=by
     rw[hp]at h1 ⊢;cases ys with
     |nil=>rfl
     |cons _ _=>simp at h1
    have e:=g.offer (a:=(r.1,r.2.1,a.2.2)) (p:=p+1) (n:=some (j:Int)) (m:=none) ⟨j,r,rfl,hj,rfl,rfl,by rw[hys];exact⟨rfl,p,by rw[hc];exact ha,rfl⟩⟩ (Hs.u3 r hr _ _ _ hau) (by lia);obtain⟨_,e2,_⟩:=jT (pile:=pile) (S:=S) (r.1,r.2.1,a.2.2) (p+1) (some (j:Int)) none;refine⟨⟨e.bg,e.mono,e.se,e.la,Ld e.len (N4 n1 _)⟩,by rw[e2];exact ok,by rw[e2];lia,λk z=>?_,λ_=>lv _ _ _ _,λh=>by lia⟩;rw[e2];exact⟨.inl,λh=>h.elim id λh=>by lia⟩
   .rw[Kv (show ¬ ((j:Int),r).2.2.2.2.length=1 from h1)];have h2:r.2.2.2.length=2:=by rw[hp]at h1 aR ⊢;simp only[Ky]at h1 aR ⊢;lia
    obtain⟨y,hys⟩ : ∃ y,r.2.2.2=[a.2.1,y]:=by
     rw[hp]at h2 ⊢
     match ys,h2 with
     | [y],_=>exact⟨y,rfl⟩
    have hn:nth1 r.2.2.2=y:=by rw[hys];rfl
    have g1:BG RL M U pile (lack S (j:Int) r a.2.2 p) rest:=⟨⟨g.b.q,g.b.nd,g.b.nr,g.b.tk,g.b.tu,g.b.ju,g.b.ps,g.b.sd,g.b.sp,g.b.it,g.b.ns,g.b.m0⟩,g.gt,g.eq,g.mh⟩;obtain⟨e,e2,e3⟩:=lS (λx:Int×Int=>(r.1,r.2.1,x.1)) (λx=>p+x.2+1) (λ_=>some (j:Int)) (λ_=>some a.2.2) (S.settled.get (a.2.2,nth1 r.2.2.2)) g1 λx hx=>by
     have sx:Sd S (a.2.2,y,x.1) x.2:=by rw[hn]at hx;exact hx
     obtain⟨_,v,tv,hv⟩:=g.b.sd _ _ sx;have:=g.b.ps _ _ tv;refine⟨⟨j,r,rfl,hj,rfl,rfl,?_⟩,Hs.u3 r hr _ _ _ (g.b.tu _ _ tv),by show S.last<_;lia⟩;rw[hys];exact⟨a.2.2,p,x.2,rfl,by rw[hc];exact ha,sx,rfl⟩
    have lm:∀ k z,z∈(first pile S (j:Int) r a.2.2 p).lacking.get k↔z∈S.lacking.get k\/(r.2.2.2.length=2/\k=(a.2.2,nth1 r.2.2.2)/\z=((j:Int),r,p)):=λk z=>by
     show z∈(List.foldl _ _ _:PS).lacking.get k↔_;rw[e2];show z∈(S.lacking.app _ _).get k↔_;rw[oP];by_cases hk:(a.2.2,nth1 r.2.2.2)=k
     .subst hk;rw[Ku rfl,Lf,KJ];exact⟨λh=>h.elim .inl λh=>.inr ⟨h2,rfl,h⟩,λh=>h.elim .inl λh=>.inr h.2.2⟩
     .rw[Kv hk];exact⟨.inl,λh=>h.elim id λh=>(hk h.2.1.symm).elim⟩
    have lk:(first pile S (j:Int) r a.2.2 p).lacking=S.lacking.app (a.2.2,nth1 r.2.2.2) ((j:Int),r,p):=e2;refine⟨⟨e.bg,λb q h=>e.mono b q h,e.se,e.la,Ld e.len (N4 (oQ _ _) _)⟩,by rw[lk];exact nH ok _ _,by rw[lk,(gC ok.nk _ _).length_eq];exact Kq _,lm,λh=>by lia,λ_ t q h=>e3 (t,q) h⟩
  obtain⟨e,ok1,le1,lm1,hA,hB⟩:=one;obtain⟨r0,r1,r2,r3,r4,r5⟩:=E7 Hs hau p0 l e.bg ok1 (by rw[e.se];exact so) (by rw[e.la];exact hl) (by rw[sh e.se];exact ha) λy hy=>hin y (Kx _ hy);rw[Mg,Ky];rw[e.se]at r0;refine⟨by rw[Nat.add_mul,Nat.one_mul,Ow];exact e.trans r0,r1,by lia,λk z=>?_,λx hx h=>?_,λx hx h t q hq=>?_⟩
  .rw[r3,lm1];constructor
   .rintro ((h|h)|⟨x,hx,h⟩)
    .exact .inl h
    .exact .inr ⟨_,KE,h⟩
    .exact .inr ⟨x,Kx _ hx,h⟩
   .rintro (h|⟨x,hx,h⟩)
    .exact .inl (.inl h)
    .rcases KB.mp hx with rfl|hx
     .exact .inl (.inr h)
     .exact .inr ⟨x,hx,h⟩
  .rcases KB.mp hx with rfl|hx
   .exact r0.mono _ _ (hA h)
   .exact r4 x hx h
  .rcases KB.mp hx with rfl|hx
   .exact r0.mono _ _ (hB h t q hq)
   .exact r5 x hx h t q (by rw[sh e.se];exact hq)
end Pz
namespace Pz
section
variable (RL:List Rule)(M U:List Arr)(pile:Int->Int->Int)(C:Nat)
structure Cnt (S:PS) (k:Nat):Prop where
 so:S.settled.Ok
 G:∃ G:List Arr,G.Nodup/\G.length=S.settled.flat.length/\∀ a∈G,∃ q,Sd S a q
 ln:S.lacking.flat.length<=RL.length*S.settled.flat.length
 pn:S.piles.flat.length+k<=C+RL.length*(S.settled.flat.length*S.settled.flat.length)
structure I (S:PS) (rest:List (Int×Arr)):Prop where
 bg:BG RL M U pile S rest
 clo:Clo RL S
 lk:Lk RL S
 cnt:Cnt RL C S rest.length
end
variable {RL:List Rule}{M U:List Arr}{pile:Int->Int->Int}{rs:RS}{S T V:PS}{rest:List (Int×Arr)}{C:Nat}
theorem sd_note:Sd (note S a p) c q↔Sd S c q\/(c=a/\q=p):=by
 unfold Sd note;show _∈(S.settled.app _ _).get _↔_;rw[oP];by_cases h:(a.1,a.2.1)=(c.1,c.2.1)
 .rw[Ku h,h,Lf,KJ];obtain⟨h1,h2⟩:=NM h;constructor
  .rintro (k|k)
   .exact .inl k
   .obtain⟨k1,k2⟩:=NM k;exact .inr ⟨Nf h1.symm (Nf h2.symm k1),k2⟩
  .rintro (k|⟨rfl,rfl⟩)
   .exact .inl k
   .exact .inr rfl
 .rw[Kv h];exact⟨.inl,λk=>k.elim id λ⟨e,_⟩=>(h (by rw[e])).elim⟩
theorem I.settle (Hs:House RL M U rs)(hrl:∀ k,(rs.get k).length<=RL.length)(i:I RL M U pile C S ((p,a)::rest))(hv:tget S.told a=some v)(hp:v.1=p) :
 I RL M U pile C (settle pile rs S a p) rest/\(settle pile rs S a p).settled.flat.length=S.settled.flat.length+1:=by
 have b:=i.bg.b;have pl:p=S.last:=i.bg.eq _ KE;have p0:0<=p:=by rw[pl];exact b.q.l0
 have hau:a∈U:=b.tu a v hv;have nS:∀ q,¬ Sd S a q:=λq h=>by obtain⟨_,w,e,ew⟩:=b.sd a q h;rw[hv]at e;cases e;rw[<- ew,hp]at h;exact b.ns p a (.inr KE) h
 have nr:=Lj.mp b.nr;have smono:∀ c q,Sd S c q->Sd (note S a p) c q:=λc q h=>sd_note.mpr (.inl h);have hS1:Sd (note S a p) a p:=sd_note.mpr (.inr ⟨rfl,rfl⟩);have g1:BG RL M U pile (note S a p) rest:=by
  refine⟨⟨b.q,b.nd,nr.2,b.tk,b.tu,λc w e=>(b.ju c w e).mono RL M smono,b.ps,λc q h=>?_,λc w e=>?_,λq c h=>?_,λq c h k=>?_,b.m0⟩,i.bg.gt,λx hx=>i.bg.eq x (Kx _ hx),i.bg.mh⟩
  .rcases sd_note.mp h with h|⟨rfl,rfl⟩
   .exact b.sd c q h
   .exact⟨Int.le_of_eq pl,v,hv,hp⟩
  .rcases b.sp c w e with h|h|h
   .exact .inl (smono _ _ h)
   .exact .inr (.inl h)
   .rcases KB.mp h with h|h
    .cases h;exact .inl hS1
    .exact .inr (.inr h)
  .exact b.it q c (h.elim .inl λh=>.inr (Kx _ h))
  .rcases sd_note.mp k with k|⟨rfl,rfl⟩
   .exact b.ns q c (h.elim .inl λh=>.inr (Kx _ h)) k
   .rcases h with h|h
    .have:=i.bg.gt _ h;dsimp only at this;lia
    .exact nr.1 h
 have so1:(note S a p).settled.Ok:=nH i.cnt.so _ _;have n1:(note S a p).settled.flat.length=S.settled.flat.length+1:=(gC i.cnt.so.nk _ _).length_eq;obtain⟨e1,l1,h1⟩:=lS (λx:Int×Rule×Int=>(x.2.1.1,x.2.1.2.1,a.2.2)) (λx=>x.2.2+p+1) (λx=>some x.1) (λ_=>some a.1) (S.lacking.get (a.1,a.2.1)) g1 λx hx=>by obtain⟨n,r,q⟩:=x;obtain⟨j,y,rfl,hj,hy,hq⟩:=i.lk.to hx;obtain⟨_,w,tw,hw⟩:=b.sd _ _ hq;have:=b.ps _ _ tw;refine⟨⟨j,r,rfl,hj,rfl,rfl,?_⟩,Hs.u3 r (Ll hj) _ _ _ hau,by show S.last<q+p+1;lia⟩;show JustP _ r.2.2.1 r.2.2.2 _ _ _;rw[hy];exact⟨a.1,q,p,rfl,smono _ _ hq,hS1,rfl⟩
 generalize hS2:(S.lacking.get (a.1,a.2.1)).foldl (λS x=>offer pile S (x.2.1.1,x.2.1.2.1,a.2.2) (x.2.2+p+1) (some x.1) (some a.1)) (note S a p)=S2 at e1 l1 h1;have s2:S2.settled=(note S a p).settled:=e1.se;have hs2:Sd S2=Sd (note S a p):=sh s2;have l2:S2.lacking=S.lacking:=l1;obtain⟨e2,k1,k2,k3,k4,k5⟩:=E7 (rs:=rs) Hs hau p0 (rs.get (a.1,a.2.1)) e1.bg (by rw[l2];exact i.lk.ok) (by rw[s2];exact so1) (by rw[e1.la,pl];rfl) (by rw[hs2];exact hS1) λx hx=>hx;have eT:(rs.get (a.1,a.2.1)).foldl (dF pile a p) S2=Pz.settle pile rs S a p:=by rw[<- hS2];rfl
 rw[eT]at e2 k1 k2 k3 k4 k5;generalize Pz.settle pile rs S a p=T at e2 k1 k2 k3 k4 k5;have sT:T.settled=(note S a p).settled:=e2.se.trans s2;have hsT:∀ c q,Sd T c q↔Sd S c q\/(c=a/\q=p):=λc q=>by rw[sh sT];exact sd_note
 have mono:∀ c q,Has S c q->Has T c q:=λc q h=>e2.mono _ _ (e1.mono _ _ h);refine⟨⟨e2.bg,?_,⟨k1,?_,?_⟩,⟨by rw[sT];exact so1,?_,?_,?_⟩⟩,by rw[sT];exact n1⟩
 .intro j r hj;have hc:=i.clo j r hj;cases hput:r.2.2.2 with
  |nil=>rw[hput]at hc;exact mono _ _ hc
  |cons x ys=>
   cases ys with
   |nil=>
    rw[hput]at hc;intro t q hq;rcases (hsT _ _).mp hq with h|⟨h,rfl⟩
    .exact mono _ _ (hc t q h)
    .subst h;exact k4 ((j:Int),r) (Hs.of hj hput) (by rw[hput];rfl)
   |cons y zs=>
    cases zs with
    |cons _ _=>trivial
    |nil=>
     rw[hput]at hc;intro d t q1 q2 hq1 hq2;have ny:nth1 r.2.2.2=y:=by rw[hput];rfl
     rcases (hsT _ _).mp hq1 with z1|⟨z1,rfl⟩
     .rcases (hsT _ _).mp hq2 with z2|⟨z2,rfl⟩
      .exact mono _ _ (hc d t q1 q2 z1 z2)
      .subst z2;exact e2.mono _ _ (h1 ((j:Int),r,q1) (i.lk.of hj hput z1))
     .subst z1;refine k5 ((j:Int),r) (Hs.of hj hput) (by rw[hput];rfl) t q2 ?_;rw[ny,hs2,<- sh sT];exact hq2
 .intro n r q d y h;rcases (k3 _ _).mp h with h|⟨x,hx,hl,hk,hz⟩
  .rw[l2]at h;obtain⟨j,x,e1,e2,e3,e4⟩:=i.lk.to h;exact⟨j,x,e1,e2,e3,(hsT _ _).mpr (.inl e4)⟩
  .obtain⟨n',r'⟩:=x;obtain⟨rfl,hz⟩:=NM hz;obtain⟨rfl,rfl⟩:=NM hz;obtain⟨j,l,rfl,hj,hc,hput⟩:=Hs.to hx;obtain⟨rfl,hy⟩:=NM hk;have hl:r.2.2.2.length=2:=hl;have hy:y=nth1 r.2.2.2:=hy;rw[hput]at hl hy
   match l,hl with
   | [z],_=>
    refine⟨j,a.2.1,rfl,hj,?_,(hsT _ _).mpr (.inr ⟨?_,rfl⟩)⟩
    .rw[hput];exact LA (λq=>[a.2.1,q]) hy.symm
    .rw[hc]
 .intro j r x y d q hj hput hq;rw[k3];rcases (hsT _ _).mp hq with h|⟨h,rfl⟩
  .rw[l2];exact .inl (i.lk.of hj hput h)
  .subst h;exact .inr ⟨((j:Int),r),Hs.of hj hput,by rw[hput];rfl,by rw[hput];rfl,rfl⟩
 .obtain⟨G,g1,g2,g3⟩:=i.cnt.G;refine⟨a::G,Lj.mpr ⟨λh=>?_,g1⟩,by rw[sT,n1,Ky,g2],λc hc=>?_⟩
  .obtain⟨q,hq⟩:=g3 a h;exact nS q hq
  .rcases KB.mp hc with rfl|hc
   .exact⟨p,(hsT _ _).mpr (.inr ⟨rfl,rfl⟩)⟩
   .obtain⟨q,hq⟩:=g3 c hc;exact⟨q,(hsT _ _).mpr (.inl hq)⟩
 .have:=i.cnt.ln;have:=hrl (a.1,a.2.1);rw[sT,n1,Oj,Nat.mul_one];rw[l2]at k2;lia
 .have c1:=i.cnt.pn;have c2:=e1.len;have c3:=e2.len;have c4:=i.cnt.ln;have c5:=oQ S.lacking (a.1,a.2.1);have c6:(rs.get (a.1,a.2.1)).length*S2.settled.flat.length<=RL.length*(S.settled.flat.length+1):=by rw[s2,n1];exact Nat.mul_le_mul_right _ (hrl _)
  rw[Ky]at c1;have c7:(note S a p).piles.flat.length=S.piles.flat.length:=rfl;rw[sT,n1];have c8:RL.length*((S.settled.flat.length+1)*(S.settled.flat.length+1))=RL.length*(S.settled.flat.length*S.settled.flat.length)+RL.length*S.settled.flat.length+RL.length*(S.settled.flat.length+1):=by rw[Nat.add_mul,Nat.one_mul,Oj RL.length,Oj S.settled.flat.length,Nat.mul_one,Oj RL.length (S.settled.flat.length*S.settled.flat.length)]
  rw[c8];lia
theorem I.skip (i:I RL M U pile C S (x::rest))(h:¬ oR S x=true):I RL M U pile C S rest:=by
 have b:=i.bg.b;refine⟨⟨⟨b.q,b.nd,(Lj.mp b.nr).2,b.tk,b.tu,b.ju,b.ps,b.sd,λc w e=>?_,λq c h=>b.it q c (h.elim .inl λh=>.inr (Kx _ h)),λq c h=>b.ns q c (h.elim .inl λh=>.inr (Kx _ h)),b.m0⟩,i.bg.gt,λy hy=>i.bg.eq y (Kx _ hy),i.bg.mh⟩,i.clo,i.lk,i.cnt.so,i.cnt.G,i.cnt.ln,by have:=i.cnt.pn;rw[Ky]at this;lia⟩;rcases b.sp c w e with k|k|k
 .exact .inl k
 .exact .inr (.inl k)
 .rcases KB.mp k with k|k
  .subst k;refine(h ?_).elim;unfold oR;rw[e];exact Kz rfl
  .exact .inr (.inr k)
theorem I.batch (Hs:House RL M U rs)(hrl:∀ k,(rs.get k).length<=RL.length):∀(l:List (Int×Arr)){S:PS},I RL M U pile C S l->
 I RL M U pile C (batch pile rs S l) []/\S.settled.flat.length<=(batch pile rs S l).settled.flat.length/\((batch pile rs S l).settled.flat.length=S.settled.flat.length->batch pile rs S l=S)
 | [],S,i=>⟨i,Kq _,λ_=>rfl⟩
 |x::l,S,i=>by
  show I RL M U pile C (Pz.batch pile rs (turn pile rs S x) l) []/\_<=(Pz.batch pile rs (turn pile rs S x) l).settled.flat.length/\((Pz.batch pile rs (turn pile rs S x) l).settled.flat.length=_->Pz.batch pile rs (turn pile rs S x) l=S);unfold turn;by_cases h:oR S x=true
  .rw[Ku h];obtain⟨p,a⟩:=x;unfold oR at h;cases e:tget S.told a with
   |none=>rw[show((p,a):Int×Arr).2=a from rfl,e]at h;cases h
   |some v=>rw[show((p,a):Int×Arr).2=a from rfl,e]at h;obtain⟨j,n⟩:=i.settle Hs hrl e (KU h);obtain⟨r1,r2,r3⟩:=I.batch Hs hrl l j;exact⟨r1,by dsimp only at r2 ⊢;lia,λq=>by dsimp only at r2 q;lia⟩
  .rw[Kv h];exact I.batch Hs hrl l (i.skip h)
structure Top (RL:List Rule) (M U:List Arr) (pile:Int->Int->Int) (C:Nat) (S:PS):Prop where
 b:B RL M pile U S []
 mh:∀ a∈M,Has S a 0
 clo:Clo RL S
 lk:Lk RL S
 cnt:Cnt RL C S 0
theorem I.top (i:I RL M U pile C S []):Top RL M U pile C S:=⟨i.bg.b,i.bg.mh,i.clo,i.lk,i.cnt⟩
theorem Top.take (P:Pile pile)(t:Top RL M U pile C S)(hne:S.piles≠[]):I RL M U pile C (take pile S) (taken pile S.piles):=by
 have b:=t.b;have k:=took P b.q hne;have mem:∀ x,x∈S.piles.flat↔x∈(left pile S.piles).flat\/x∈taken pile S.piles:=λx=>by rw[k.pm.mem_iff,Lf];exact Or.comm
 obtain⟨n1,n2,_⟩:=LW.mp (k.pm.nodup_iff.mp b.nd);have no:∀{q c},(q,c)∉([]:List (Int×Arr)):=λh=>nomatch h;refine⟨⟨⟨k.ok,n2,n1,b.tk,b.tu,b.ju,b.ps,λa p h=>⟨MQ (b.sd a p h).1 k.ge,(b.sd a p h).2⟩,λa v e=>?_,λp a h=>b.it p a (.inl ((mem _).mpr h)),λp a h=>b.ns p a (.inl ((mem _).mpr h)),b.m0⟩,k.lt,k.eq,t.mh⟩,t.clo,⟨t.lk.ok,t.lk.to,t.lk.of⟩,t.cnt.so,t.cnt.G,t.cnt.ln,?_⟩
 .rcases b.sp a v e with h|h|h
  .exact .inl h
  .exact .inr ((mem _).mp h)
  .exact(no h).elim
 .have h1:=k.pm.length_eq;rw[KI]at h1;have h2:=t.cnt.pn;show(left pile S.piles).flat.length+(taken pile S.piles).length<=_;show _<=C+RL.length*(S.settled.flat.length*S.settled.flat.length);lia
theorem mz {α:Type}[DecidableEq α]:∀(l m:List α),l.Nodup->(∀ x∈l,x∈m)->l.length<=m.length
 | [],m,_,_=>LF _
 |x::l,m,nd,h=>by have hx:=h x KE;have nd':=Lj.mp nd;have:=mz l (m.erase x) nd'.2 λy hy=>(List.mem_erase_of_ne (λ(e:y=x)=>nd'.1 (by rw[<- e];exact hy))).mpr (h y (Kx _ hy));rw[List.length_erase_of_mem hx]at this;have:0<m.length:=List.length_pos_of_mem hx;rw[Ky];lia
theorem Top.few (t:Top RL M U pile C S):S.settled.flat.length<=U.length/\S.told.length<=U.length:=by
 obtain⟨G,g1,g2,g3⟩:=t.cnt.G;constructor
 .rw[<- g2];exact mz G U g1 λa ha=>by obtain⟨q,hq⟩:=g3 a ha;obtain⟨_,v,e,_⟩:=t.b.sd a q hq;exact t.b.tu a v e
 .have:=mz (S.told.map (·.1)) U t.b.tk λa ha=>by obtain⟨x,hx,rfl⟩:=KH.mp ha;exact t.b.tu x.1 x.2 (qg t.b.tk hx)
  rwa [Kw]at this
theorem Top.fit (t:Top RL M U pile C S)(hC:C+RL.length*(U.length*U.length)<L)(hR:RL.length*U.length<L)(hU:U.length<L):Fit S:=by obtain⟨f1,f2⟩:=t.few;have a1:=js t.b.q.ok;have a2:=js t.cnt.so;have a3:=js t.lk.ok;have b1:=t.cnt.pn;have b2:RL.length*(S.settled.flat.length*S.settled.flat.length)<=RL.length*(U.length*U.length):=N6 _ (MJ f1 f1);have b3:=t.cnt.ln;have b4:RL.length*S.settled.flat.length<=RL.length*U.length:=N6 _ f1;constructor<;>lia
theorem Top.loop (P:Pile pile)(Hs:House RL M U rs)(hrl:∀ k,(rs.get k).length<=RL.length)(hC:C+RL.length*(U.length*U.length)<L)(hR:RL.length*U.length<L)(hU:U.length<L) :
 ∀(a b:Nat)(S:PS),Top RL M U pile C S->U.length-S.settled.flat.length<=a->S.piles.flat.length<=b->∃ n T,Loop pile rs n S T/\Top RL M U pile C T/\T.piles=[]:=by
 have step:∀ S,Top RL M U pile C S->S.piles≠[]->let S2:=batch pile rs (Pz.take pile S) (taken pile S.piles);Top RL M U pile C S2/\(∀ n T,Loop pile rs n S2 T->Loop pile rs (n+1) S T)/\
  (S.settled.flat.length<S2.settled.flat.length\/S2.settled.flat.length=S.settled.flat.length/\S2.piles.flat.length<S.piles.flat.length):=by
  intro S t hne;obtain⟨i,h1,h2⟩:=I.batch Hs hrl _ (t.take P hne);have t2:=i.top;refine⟨t2,λn T l=>.step hne t.b.q (λx hx=>?_) (t.fit hC hR hU) (t2.fit hC hR hU) l,?_⟩
  .obtain⟨v,e,_⟩:=t.b.it x.1 x.2 (.inl ((took P t.b.q hne).pm.mem_iff.mpr (Lf.mpr (.inl hx))));rw[e];simp
  have k:=took P t.b.q hne;by_cases e:(batch pile rs (Pz.take pile S) (taken pile S.piles)).settled.flat.length=S.settled.flat.length
  .refine .inr ⟨e,?_⟩;rw[h2 e];show(left pile S.piles).flat.length<_;rw[k.pm.length_eq,KI];have:=N5.mpr k.ne;lia
  .have h1:S.settled.flat.length<=(batch pile rs (Pz.take pile S) (taken pile S.piles)).settled.flat.length:=h1;exact .inl (by lia)
 intro a;induction a with
 |zero=>
  intro b;induction b with
  |zero=>intro S t _ hb;have:S.piles=[]:=LX.mp (by have:=js t.b.q.ok;lia);exact⟨0,S,.done this,t,this⟩
  |succ b ih=>
   intro S t ha hb;by_cases hne:S.piles=[]
   .exact⟨0,S,.done hne,t,hne⟩
   obtain⟨t2,hl,hd⟩:=step S t hne;have:=t2.few.1;obtain⟨n,T,l,r⟩:=ih _ t2 (by rcases hd with h|h<;>lia) (by rcases hd with h|h<;>lia);exact⟨_,T,hl _ _ l,r⟩
 |succ a iha=>
  intro b;induction b with
  |zero=>intro S t _ hb;have:S.piles=[]:=LX.mp (by have:=js t.b.q.ok;lia);exact⟨0,S,.done this,t,this⟩
  |succ b ih=>
   intro S t ha hb;by_cases hne:S.piles=[]
   .exact⟨0,S,.done hne,t,hne⟩
   obtain⟨t2,hl,hd⟩:=step S t hne;have:=t2.few.1;rcases hd with h|h
   .obtain⟨n,T,l,r⟩:=iha _ _ t2 (by lia) (Kq _);exact⟨_,T,hl _ _ l,r⟩
   .obtain⟨n,T,l,r⟩:=ih _ t2 (by lia) (by lia);exact⟨_,T,hl _ _ l,r⟩
end Pz
namespace Pz
noncomputable def en:List Rule->Nat->List (Int×Rule)
 | [],_=>[]
 |r::l,k=>((k:Int),r)::en l (k+1)
theorem en_mem:∀{l:List Rule}{k:Nat}{n:Int}{r:Rule},(n,r)∈en l k↔∃ j:Nat,n=((k+j:Nat):Int)/\l[j]?=some r
 | [],k,n,r=>⟨λh=>(KG h).elim,λ⟨j,_,h⟩=>by simp at h⟩
 |x::l,k,n,r=>by
  unfold en;rw[KB,en_mem];constructor
  .rintro (h|⟨j,rfl,h⟩)
   .obtain⟨rfl,rfl⟩:=NM h;exact⟨0,rfl,rfl⟩
   .exact⟨j+1,by lia,by simpa using h⟩
  .rintro⟨j,rfl,h⟩;cases j with
   |zero=>left;simp at h;subst h;rfl
   |succ j=>exact .inr ⟨j,by lia,by simpa using h⟩
theorem nJ:∀(l:List Rule)(k:Nat),(en l k).length=l.length
 | [],_=>rfl
 |_::l,k=>by unfold en;rw[Ky,Ky,nJ]
def gD (d:RS)(x:Int×Rule):RS:=if x.2.2.2.2.length>0 then d.app (x.2.2.2.1,x.2.2.2.2[0]?.getD 0) x else d
def gy (RL:List Rule):RS:=(en RL 0).foldl gD []
theorem zt (d:RS)(x:Int×Rule)(k:Int×Int)(z:Int×Rule):z∈(gD d x).get k↔z∈d.get k\/(z=x/\∃ y l,x.2.2.2.2=y::l/\k=(x.2.2.2.1,y)):=by
 unfold gD;cases h:x.2.2.2.2 with
 |nil=>rw[Kv (by simp)];exact⟨.inl,λq=>q.elim id λ⟨_,y,l,e,_⟩=>nomatch e⟩
 |cons y l=>
  rw[Ku (by simp),oP];have e0:(y::l)[0]?.getD 0=y:=rfl;rw[e0];by_cases e:(x.2.2.2.1,y)=k
  .rw[Ku e,Lf,KJ,e];exact⟨λq=>q.elim .inl λq=>.inr ⟨q,y,l,rfl,e.symm⟩,λq=>q.elim .inl λq=>.inr q.1⟩
  .rw[Kv e];exact⟨.inl,λq=>q.elim id λ⟨_,y',l',e1,e2⟩=>by cases e1;exact(e e2.symm).elim⟩
theorem tM:∀(l:List (Int×Rule))(d:RS)(k:Int×Int)(z:Int×Rule),z∈(l.foldl gD d).get k↔z∈d.get k\/(z∈l/\∃ y l',z.2.2.2.2=y::l'/\k=(z.2.2.2.1,y))
 | [],d,k,z=>⟨.inl,λq=>q.elim id λq=>(KG q.1).elim⟩
 |x::l,d,k,z=>by
  rw[Mg,tM l,zt,KB];constructor
  .rintro ((h|⟨rfl,h⟩)|⟨h1,h2⟩)
   .exact .inl h
   .exact .inr ⟨.inl rfl,h⟩
   .exact .inr ⟨.inr h1,h2⟩
  .rintro (h|⟨rfl|h1,h2⟩)
   .exact .inl (.inl h)
   .exact .inl (.inr ⟨rfl,h2⟩)
   .exact .inr ⟨h1,h2⟩
theorem wQ:∀(l:List (Int×Rule))(d:RS),d.Ok->(l.foldl gD d).Ok/\(l.foldl gD d).flat.length<=d.flat.length+l.length
 | [],d,h=>⟨h,Kq _⟩
 |x::l,d,h=>by
  rw[Mg,Ky];have:(gD d x).Ok/\(gD d x).flat.length<=d.flat.length+1:=by
   unfold gD;split
   .exact⟨nH h _ _,Ov (gC h.nk _ _).length_eq⟩
   .exact⟨h,by lia⟩
  obtain⟨a,b⟩:=wQ l _ this.1;exact⟨a,by lia⟩
theorem sj {κ α:Type}:MD.Ok (κ:=κ) (α:=α) []:=⟨KY,λ_ h=>(KG h).elim⟩
theorem Gw (RL:List Rule):(gy RL).Ok/\(gy RL).flat.length<=RL.length:=by obtain⟨a,b⟩:=wQ (en RL 0) [] sj;rw[nJ]at b;exact⟨a,by rw[show MD.flat ([]:RS)=[] from rfl,KO,Lp]at b;exact b⟩
noncomputable def S0:PS:=⟨[],0,[],[],[]⟩
variable (pile:Int->Int->Int)
def kG (S:PS)(a:Arr):PS:=offer pile S a 0 none none
def gj (S:PS)(x:Int×Rule):PS:=if x.2.2.2.2.length=0 then offer pile S (x.2.1,x.2.2.1,x.2.2.2.1) 1 (some x.1) none else S
def qj (RL:List Rule)(M:List Arr):PS:=(en RL 0).foldl (gj pile) (M.foldl (kG pile) S0)
variable {RL:List Rule}{M U:List Arr}{pile}{S:PS}
structure Beg (RL:List Rule) (M U:List Arr) (pile:Int->Int->Int) (S:PS) (k:Nat):Prop where
 b:B RL M pile U S []
 l0:S.last=0
 s0:S.settled=[]
 k0:S.lacking=[]
 len:S.piles.flat.length<=k
theorem Beg.no (h:Beg RL M U pile S k)(a:Arr)(q:Int):¬ Sd S a q:=by unfold Sd;rw[h.s0];exact λh=>(KG h).elim
theorem Beg.offer (h:Beg RL M U pile S k)(hj:Just RL M (Sd S) a (p,n,m))(hu:a∈U)(hp:0<=p)(hm:a∈M->Has S a 0\/(p,n,m)=(0,none,none)):Beg RL M U pile (offer pile S a p n m) (k+1):=by obtain⟨e1,e2,e3⟩:=jT (pile:=pile) (S:=S) a p n m;exact⟨h.b.offer hj hu (by rw[h.l0];exact hp) (λh=>(KG h).elim) (h.no _ _) hm,by rw[e3];exact h.l0,by rw[e1];exact h.s0,by rw[e2];exact h.k0,Ld (r_ h.b.q.ok _ _ _ _) (Nat.add_le_add_right h.len 1)⟩
theorem JT:Beg RL M U pile S0 0:=by have no:∀{α:Type}{x:α},x∉([]:List α):=λh=>(KG h).elim;exact⟨⟨⟨sj,Nt _,λ_ h=>(no h).elim⟩,KY,KY,KY,(λ_ _ h=>nomatch h),(λ_ _ h=>nomatch h),(λ_ _ h=>nomatch h),(λ_ _ h=>(no h).elim),(λ_ _ h=>nomatch h),(λ_ _ h=>h.elim (λh=>(no h).elim) λh=>(no h).elim),(λ_ _ h=>h.elim (λh=>(no h).elim) λh=>(no h).elim),(λ_ _ h=>nomatch h)⟩,rfl,rfl,rfl,Kq _⟩
theorem Ij:∀(l:List Arr){S:PS}{k:Nat},Beg RL M U pile S k->(∀ a∈l,a∈M/\a∈U)->Beg RL M U pile (l.foldl (kG pile) S) (k+l.length)/\(∀ a p,Has S a p->Has (l.foldl (kG pile) S) a p)/\∀ a∈l,Has (l.foldl (kG pile) S) a 0
 | [],S,k,h,_=>⟨h,λ_ _ h=>h,λ_ h=>(KG h).elim⟩
 |a::l,S,k,h,hl=>by
  obtain⟨h1,h2⟩:=hl a KE;have e:=h.offer (a:=a) (p:=0) (n:=none) (m:=none) ⟨rfl,rfl,h1⟩ h2 (Nt _) λ_=>.inr rfl;obtain⟨r1,r2,r3⟩:=Ij l e λb hb=>hl b (Kx _ hb);rw[Mg,Ky,Ow l.length,<- Nat.add_assoc];refine⟨r1,λb p h=>r2 b p (jS h),λb hb=>?_⟩;rcases KB.mp hb with rfl|hb
  .exact r2 _ _ (lv _ _ _ _)
  .exact r3 b hb
theorem Ik (u2:∀ r∈RL,(r.1,r.2.1,r.2.2.1)∈U):∀(l:List (Int×Rule)){S:PS}{k:Nat},Beg RL M U pile S k->(∀ a∈M,Has S a 0)->(∀ x∈l,∃ j:Nat,x.1=j/\RL[j]?=some x.2)->
 Beg RL M U pile (l.foldl (gj pile) S) (k+l.length)/\(∀ a p,Has S a p->Has (l.foldl (gj pile) S) a p)/\∀ x∈l,x.2.2.2.2=[]->Has (l.foldl (gj pile) S) (x.2.1,x.2.2.1,x.2.2.2.1) 1
 | [],S,k,h,_,_=>⟨h,λ_ _ h=>h,λ_ h=>(KG h).elim⟩
 |x::l,S,k,h,hm,hl=>by
  obtain⟨j,e1,e2⟩:=hl x KE;have one:Beg RL M U pile (gj pile S x) (k+1)/\(∀ a p,Has S a p->Has (gj pile S x) a p)/\(x.2.2.2.2=[]->Has (gj pile S x) (x.2.1,x.2.2.1,x.2.2.2.1) 1):=by
   unfold gj;by_cases h0:x.2.2.2.2.length=0
   .rw[Ku h0];have e:=h.offer (a:=(x.2.1,x.2.2.1,x.2.2.2.1)) (p:=1) (n:=some x.1) (m:=none) ⟨j,x.2,e1,e2,rfl,rfl,by rw[LX.mp h0];exact⟨rfl,rfl,rfl⟩⟩ (u2 _ (Ll e2)) (by decide) λh=>.inl (hm _ h);exact⟨e,λb p h=>jS h,λ_=>lv _ _ _ _⟩
   .rw[Kv h0];exact⟨⟨h.b,h.l0,h.s0,h.k0,Nat.le_succ_of_le h.len⟩,λ_ _ h=>h,λe=>(h0 (by rw[e];rfl)).elim⟩
  obtain⟨o1,o2,o3⟩:=one;obtain⟨r1,r2,r3⟩:=Ik u2 l o1 (λa ha=>o2 a 0 (hm a ha)) λb hb=>hl b (Kx _ hb);rw[Mg,Ky,Ow l.length,<- Nat.add_assoc];refine⟨r1,λb p h=>r2 b p (o2 b p h),λb hb e=>?_⟩;rcases KB.mp hb with rfl|hb
  .exact r2 _ _ (o3 e)
  .exact r3 b hb e
structure Set (RL:List Rule) (M U:List Arr):Prop where
 few:∀ r∈RL,r.2.2.2.length<=2
 u1:∀ a∈M,a∈U
 u2:∀ r∈RL,(r.1,r.2.1,r.2.2.1)∈U
 u3:∀ r∈RL,∀ s x t,(s,x,t)∈U->(r.1,r.2.1,t)∈U
 big:M.length+RL.length+RL.length*(U.length*U.length)<L
 big2:RL.length*U.length<L
 big3:U.length<L
theorem Set.house (h:Set RL M U):House RL M U (gy RL):=by
 refine⟨h.few,λ{n r c x} q=>?_,λ{j r x l} e1 e2=>?_,h.u1,h.u2,h.u3⟩
 .rcases (tM _ _ _ _).mp q with q|⟨q,y,l,e,k⟩
  .exact(KG q).elim
  .obtain⟨j,e1,e2⟩:=en_mem.mp q;obtain⟨rfl,rfl⟩:=NM k;exact⟨j,l,by rw[e1,Lp],e2,rfl,e⟩
 .exact(tM _ _ _ _).mpr (.inr ⟨en_mem.mpr ⟨j,by rw[Lp],e1⟩,x,l,e2,rfl⟩)
theorem zu (h:Set RL M U):Top RL M U pile (M.length+RL.length) (qj pile RL M):=by
 obtain⟨a1,a2,a3⟩:=Ij (RL:=RL) (M:=M) (U:=U) (pile:=pile) M JT λa ha=>⟨ha,h.u1 a ha⟩;obtain⟨b1,b2,b3⟩:=Ik h.u2 (en RL 0) a1 a3 λx hx=>by obtain⟨j,e1,e2⟩:=en_mem.mp hx;exact⟨j,by rw[e1,Lp],e2⟩
 have b1:Beg RL M U pile (qj pile RL M) _:=b1;refine⟨b1.b,λa ha=>b2 a 0 (a3 a ha),λj r hj=>?_,⟨by rw[b1.k0];exact sj,λ{n r q d y} h=>by rw[b1.k0]at h;exact(KG h).elim,λ_ _ h=>(b1.no _ _ h).elim⟩,⟨by rw[b1.s0];exact sj,⟨[],KY,by rw[b1.s0];rfl,λ_ h=>(KG h).elim⟩,by rw[b1.k0];exact LF _,?_⟩⟩
 .cases hp:r.2.2.2 with
  |nil=>exact b3 ((j:Int),r) (en_mem.mpr ⟨j,by rw[Lp],hj⟩) hp
  |cons x l=>
   match l with
   | []=>exact λt q h=>(b1.no _ _ h).elim
   | [y]=>exact λd t q1 q2 h=>(b1.no _ _ h).elim
   |_::_::_=>trivial
 .have:=b1.len;rw[nJ]at this;lia
def At (t:TD)(a:Arr)(q:Int):Prop:=∃ w,tget t a=some w/\w.1=q
def Low (t:TD)(a:Arr)(q:Int):Prop:=∃ w,tget t a=some w/\w.1<=q
structure Good (RL:List Rule) (M U:List Arr) (t:TD):Prop where
 nd:(t.map (·.1)).Nodup
 u:∀ a v,tget t a=some v->a∈U
 ju:∀ a v,tget t a=some v->Just RL M (At t) a v
 ps:∀ a v,tget t a=some v->0<=v.1
 m0:∀ a∈M,tget t a=some (0,none,none)
 clo:∀(j:Nat)(r:Rule),RL[j]?=some r->match r.2.2.2 with
  | []=>Low t (r.1,r.2.1,r.2.2.1) 1
  | [x]=>∀ d q,At t (r.2.2.1,x,d) q->Low t (r.1,r.2.1,d) (q+1)
  | [x,y]=>∀ d e q1 q2,At t (r.2.2.1,x,d) q1->At t (d,y,e) q2->Low t (r.1,r.2.1,e) (q1+q2+1)
  |_=>True
theorem Top.good (h:Top RL M U pile C S)(e:S.piles=[]):Good RL M U S.told:=by
 have hs:∀ a q,Sd S a q↔At S.told a q:=λa q=>by
  constructor
  .intro k;exact(h.b.sd a q k).2
  .rintro⟨w,k,rfl⟩;rcases h.b.sp a w k with k|k|k
   .exact k
   .rw[e]at k;exact(KG k).elim
   .exact(KG k).elim
 refine⟨h.b.tk,h.b.tu,λa v k=>(h.b.ju a v k).mono RL M λa q=>(hs a q).mp,h.b.ps,λa ha=>?_,λj r hj=>?_⟩
 .obtain⟨v,k,_⟩:=h.mh a ha;rw[k,h.b.m0 a v k ha]
 .have hc:=h.clo j r hj;cases hp:r.2.2.2 with
  |nil=>rw[hp]at hc;exact hc
  |cons x l=>
   rw[hp]at hc
   match l with
   | []=>exact λt q k=>hc t q ((hs _ _).mpr k)
   | [y]=>exact λd t q1 q2 k1 k2=>hc d t q1 q2 ((hs _ _).mpr k1) ((hs _ _).mpr k2)
   |_::_::_=>trivial
theorem Set.run (P:Pile pile)(h:Set RL M U):Fit (qj pile RL M)/\∃ n T,Loop pile (gy RL) n (qj pile RL M) T/\Good RL M U T.told:=by have t:=zu (pile:=pile) h;obtain⟨n,T,l,t2,e⟩:=t.loop P h.house (λk=>Ld (oQ _ k) (Gw RL).2) h.big h.big2 h.big3 _ _ _ (Kq _) (Kq _);exact⟨t.fit h.big h.big2 h.big3,n,T,l,t2.good e⟩
end Pz
namespace Pz
theorem DP (x y k:Nat):(x ||| y)-(x &&& y)<2 ^ k↔x / 2 ^ k=y / 2 ^ k:=by
 have hO:(x ||| y) / 2 ^ k=x / 2 ^ k ||| y / 2 ^ k:=by rw[<- L1,<- L1,<- L1,Nat.shiftRight_or_distrib]
 have hA:(x &&& y) / 2 ^ k=x / 2 ^ k &&& y / 2 ^ k:=by rw[<- L1,<- L1,<- L1,Nat.shiftRight_and_distrib]
 have mO:(x ||| y) % 2 ^ k=x % 2 ^ k ||| y % 2 ^ k:=Nat.or_mod_two_pow;have mA:(x &&& y) % 2 ^ k=x % 2 ^ k &&& y % 2 ^ k:=Nat.and_mod_two_pow;have pos:0<2 ^ k:=Nat.two_pow_pos k;have dO:=Nat.div_add_mod (x ||| y) (2 ^ k);have dA:=Nat.div_add_mod (x &&& y) (2 ^ k);have lO:=Nat.mod_lt (x ||| y) pos;have a1:x / 2 ^ k &&& y / 2 ^ k<=x / 2 ^ k:=Nat.and_le_left;have a2:x / 2 ^ k &&& y / 2 ^ k<=y / 2 ^ k:=Nat.and_le_right;have a3:x / 2 ^ k<=x / 2 ^ k ||| y / 2 ^ k:=Nat.left_le_or;have a4:y / 2 ^ k<=x / 2 ^ k ||| y / 2 ^ k:=Nat.right_le_or;have a5:x % 2 ^ k &&& y % 2 ^ k<=x % 2 ^ k:=Nat.and_le_left;have a6:x % 2 ^ k<=x % 2 ^ k ||| y % 2 ^ k:=Nat.left_le_or;constructor
 .intro h;refine Nat.le_antisymm ?_ ?_
  all_goals
   refine Nat.not_lt.mp λhc=>?_;have hlt:(x &&& y) / 2 ^ k+1<=(x ||| y) / 2 ^ k:=by lia
   have hm:=N6 (2 ^ k) hlt;rw[Oj,Nat.mul_one]at hm;lia
 .intro e;have e1:(x ||| y) / 2 ^ k=(x &&& y) / 2 ^ k:=by rw[hO,hA,e,Nat.or_self,Nat.and_self]
  rw[e1]at dO;lia
theorem DQ (z k:Nat):(if ((z:Int)==0)=true then 0 else (z:Int).natAbs.log2+1)<=k↔z<2 ^ k:=by
 rw[Int.natAbs_natCast];by_cases h:z=0
 .subst h;rw[Ku (by decide)];exact⟨λ_=>Nat.two_pow_pos k,λ_=>LF _⟩
 .have:¬ ((z:Int)==0)=true:=by simpa using h
  rw[Kv this];exact Nat.log2_lt h
end Pz
namespace L4
open PySem PySem.Spec PyProof.Rows L2 L3
section
variable {κ:Type}[DecidableEq κ]
noncomputable abbrev DX (κ:Type):=List (κ×Addr×List V)
noncomputable abbrev DX.kv (xs:DX κ):List (κ×V):=xs.map λx=>(x.1,V.ref x.2.1)
structure DL (mk:List (κ×V)->HO) (H:Hp) (a:Addr) (xs:DX κ):Prop where
 root:H a=some (mk xs.kv)
 kid:∀ x∈xs,H x.2.1=some (.lst x.2.2)
 nk:(xs.map (·.1)).Nodup
 na:(xs.map (·.2.1)).Nodup
def InD (a:Addr)(xs:DX κ)(b:Addr):Prop:=b=a\/∃ x∈xs,b=x.2.1
noncomputable def jd (xs:DX κ)(k:κ):Option (Addr×List V):=(xs.find? λx=>decide (x.1=k)).map (·.2)
noncomputable def nK (xs:DX κ)(k:κ)(v:V):DX κ:=xs.map λx=>if x.1=k then (x.1,x.2.1,x.2.2++[v]) else x
theorem jt (xs:DX κ)(k:κ):fS xs.kv k=(jd xs k).map λp=>.ref p.1:=by
 induction xs with
 |nil=>rfl
 |cons x r ih=>
  unfold jd at ih ⊢;show fS ((x.1,V.ref x.2.1)::DX.kv r) k=_;rw[Lm];by_cases h:x.1=k
  .rw[iV h,Kz h];rfl
  .rw[iW h,KL h,ih]
theorem zv (xs:DX κ)(k:κ)(v:V):(nK xs k v).kv=xs.kv:=by unfold nK DX.kv;rw[KZ];apply L7;intro x _;show((if x.1=k then (x.1,x.2.1,x.2.2++[v]) else x).1,V.ref (if x.1=k then (x.1,x.2.1,x.2.2++[v]) else x).2.1)=_;split<;>rfl
theorem ql {β:Type}(f:κ×Addr×List V->β)(hf:∀ a b c d,f (a,b,c)=f (a,b,d))(xs:DX κ)(k:κ)(v:V):(nK xs k v).map f=xs.map f:=by
 unfold nK;rw[KZ];apply L7;intro x _;show f (if x.1=k then (x.1,x.2.1,x.2.2++[v]) else x)=_;split
 .exact hf _ _ _ _
 .rfl
theorem dt {xs:DX κ}(h:jd xs k=some p):(k,p)∈xs:=by unfold jd at h;obtain⟨x,hx,rfl⟩:=Lc.mp h;have h1:=List.find?_some hx;have h2:=Nl hx;have e:x.1=k:=KU h1;obtain⟨a,b⟩:=x;dsimp only at e;subst e;exact h2
theorem zw {xs:DX κ}(h:jd xs k=none):k∉xs.map (·.1):=λhk=>by obtain⟨x,hx,rfl⟩:=KH.mp hk;unfold jd at h;have:=NG.mp (Option.map_eq_none_iff.mp h) x hx;simp at this
variable {mk:List (κ×V)->HO}{H H':Hp}{a l:Addr}{xs:DX κ}{k:κ}{v:V}{p:Addr×List V}
theorem DL.old (hmk:∀ q ws,mk q≠.lst ws)(G:DL mk H a xs)(hk:jd xs k=some p)(hm:H' p.1=some (.lst (p.2++[v])))(kp:∀ c u,H c=some u->c≠p.1->H' c=some u):DL mk H' a (nK xs k v):=by
 have hp:=dt hk;have nap:a≠p.1:=λe=>by have:=G.kid _ hp;dsimp only at this;rw[<- e,G.root]at this;exact hmk _ _ (La this)
 refine⟨by rw[zv];exact kp _ _ G.root nap,λx hx=>?_,by rw[ql _ (λ_ _ _ _=>rfl)];exact G.nk,by rw[ql _ (λ_ _ _ _=>rfl)];exact G.na⟩;obtain⟨y,hy,rfl⟩:=KH.mp hx;by_cases e:y.1=k
 .rw[Ku e];have:y=(k,p):=by
   have h1:(xs.map (·.1)).Nodup:=G.nk;obtain⟨i,hi⟩:=KS.mp hy;obtain⟨j,hj⟩:=KS.mp hp;have e1:(xs.map (·.1))[i]?=some k:=by rw[KN,hi];exact LA some e
   have e2:(xs.map (·.1))[j]?=some k:=by rw[KN,hj];rfl
   have:i=j:=(Og (KA.mp e1).1 h1).mp (e1.trans e2.symm);subst this;rw[hi]at hj;exact La hj
  subst this;exact hm
 .rw[Kv e];refine kp _ _ (G.kid y hy) λq=>e ?_;obtain⟨i,hi⟩:=KS.mp hy;obtain⟨j,hj⟩:=KS.mp hp;have e1:(xs.map (·.2.1))[i]?=some p.1:=by rw[KN,hi];exact LA some q
  have e2:(xs.map (·.2.1))[j]?=some p.1:=by rw[KN,hj];rfl
  have:i=j:=(Og (KA.mp e1).1 G.na).mp (e1.trans e2.symm);subst this;rw[hi]at hj;rw[La hj]
theorem DL.new (hmk:∀ q ws,mk q≠.lst ws)(G:DL mk H a xs)(hk:jd xs k=none)(hl:H l=none)(hm:H' l=some (.lst [v]))(ha:H' a=some (mk (xs.kv++[(k,.ref l)])))(kp:∀ c u,H c=some u->c≠a->H' c=some u):DL mk H' a (xs++[(k,l,[v])]):=by
 have nl:∀ x∈xs,x.2.1≠l:=λx hx e=>by have:=G.kid x hx;rw[e,hl]at this;cases this
 refine⟨by rw[ha];unfold DX.kv;rw[K6];rfl,λx hx=>?_,?_,?_⟩
 .rcases Lf.mp hx with h|h
  .refine kp _ _ (G.kid x h) λe=>?_;have:=G.kid x h;rw[e,G.root]at this;exact hmk _ _ (La this)
  .rw[KJ]at h;subst h;exact hm
 .rw[K6,LW];exact⟨G.nk,by simp,λb hb c hc e=>by rw[Kr,K_,KJ]at hc;subst hc;subst e;exact zw hk hb⟩
 .rw[K6,LW];exact⟨G.na,by simp,λb hb c hc e=>by rw[Kr,K_,KJ]at hc;subst hc;subst e;obtain⟨x,hx,q⟩:=KH.mp hb;exact nl x hx q⟩
end
def sk (t:TE)(σ:L2.St)(H:Hp)(v:V):Prop:=∀ Q:VK,Q v H->t σ H Q
def Makes (t:TE)(σ:L2.St)(H:Hp)(ws:List V):Prop:=∀ Q:VK,(∀ p,H p=none->Q (.ref p) (aB H p (.tup ws)))->t σ H Q
def lD {κ:Type}[DecidableEq κ](xs:DX κ)(k:κ)(l:Addr)(v:V):DX κ:=if (jd xs k).isSome then nK xs k v else xs++[(k,l,[v])]
def oh (K:Oy) (to tk te:TE):TE:=HD K "list" sL (HD K "dict" AB to (au tk (au (wc bq) bq))) (au te bq)
theorem oS {K:Oy}{to tk te:TE}{σ:L2.St}{H:Hp}{C:Hp->Prop}(G:DL .dT H a xs)(hto:sk to σ H (.ref a))(htk:sk tk σ H (.ref b))(hb:H b=some (.tup (k.map kV)))
 (hte:∀ H',(∀ c u,H c=some u->c≠a->H' c=some u)->Makes te σ H' ws) (hz:xs.length<16000000) (hw:∀ x∈xs,x.2.2.length<16000000)
 (kk:∀(l p:Addr)(H':Hp),H l=none->H p=none->H' p=some (.tup ws)->DL .dT H' a (lD xs k l (.ref p))->(∀ c u,H c=some u->¬ InD a xs c->H' c=some u)->C H') :
 oh K to tk te σ H λ_ H'=>C H':=by
 have sz:∀ n,n<16000000->n<sizeLine:=λn h=>by rw[Mi];lia
 have han:H a≠none:=by rw[G.root];simp
 refine hto _ ⟨.inr (.inr (.inl ⟨rfl,.inr ⟨_,G.root⟩⟩)),htk _ ⟨LF _,λl hl=>?_⟩⟩;have nal:a≠l:=λe=>han (by rw[e];exact hl);have kl:∀ c u,H c=some u->aB H l (.lst []) c=some u:=λc u e=>by rw[aa (af e hl)];exact e
 refine⟨a,b,k,.ref l,xs.kv,rfl,rfl,kl _ _ hb,.inl (kl _ _ G.root),sz _ (by unfold DX.kv;rw[Kw];exact hz),?_⟩;cases hf:jd xs k with
 |some q=>
  left;have hq:=G.kid _ (dt hf);refine⟨.ref q.1,by rw[jt,hf];rfl,.inl ⟨rfl,_,SqL.of (kl _ _ hq)⟩,hte _ (λc u e _=>kl c u e) _ λp hp=>?_⟩;have hpH:H p=none:=(aE hl).free hp;have nqp:q.1≠p:=λe=>by dsimp only at hq;rw[e,hpH]at hq;cases hq
  refine⟨q.1,q.2,.ref p,rfl,rfl,by rw[aa nqp];exact kl _ _ hq,sz _ (hw _ (dt hf)),?_⟩;have kp:∀ c u,H c=some u->c≠q.1->aB (aB (aB H l (.lst [])) p (.tup ws)) q.1 (.lst (q.2++[.ref p])) c=some u:=λc u e hn=>by rw[aa hn,aa (af e hpH)];exact kl c u e
  refine kk l p _ hl hpH (by rw[aa (LJ nqp),ac]) ?_ λc u e hn=>kp c u e λz=>hn (.inr ⟨_,dt hf,z⟩);unfold lD;rw[hf,Ku (by simp)];exact G.old (λ_ _ z=>nomatch z) hf ac kp
 |none=>
  right;refine⟨by rw[jt,hf];rfl,.inl ⟨rfl,[],SqL.of (by rw[aa (LJ nal),ac])⟩,hte _ (λc u e hn=>by rw[aa hn];exact kl c u e) _ λp hp=>?_⟩;have hvn:fS xs.kv k=none:=by rw[jt,hf];rfl
  have hpa:p≠a:=λe=>by rw[e,ac]at hp;cases hp
  have hpl:p≠l:=λe=>by rw[e,aa (LJ nal),ac]at hp;cases hp
  have hpH:H p=none:=by rw[aa hpa,aa hpl]at hp;exact hp
  refine⟨l,[],.ref p,rfl,rfl,by rw[aa (LJ hpl),aa (LJ nal),ac],by decide,?_⟩;refine kk l p _ hl hpH (by rw[aa hpl,ac]) ?_ λc u e hn=>?_
  .unfold lD;rw[hf,Kv (by simp)];refine G.new (λ_ _ z=>nomatch z) hf hl ac (by rw[aa nal,aa (LJ hpa),ac,pC _ hvn]) λc u e hn=>?_;rw[aa (af e hl),aa (af e hpH),aa hn];exact kl c u e
  .rw[aa (af e hl),aa (af e hpH),aa (λz=>hn (.inl z))];exact kl c u e
def E8 (K:Oy) (to tk te:TE):TE:=HD K "list" sL (HD K "dict" EX to (au tk (au (wc bq) bq))) (au te bq)
theorem DR {K:Oy}{to tk te:TE}{σ:L2.St}{H:Hp}{C:Hp->Prop}(G:DL .dK H a xs)(hto:sk to σ H (.ref a))(htk:sk tk σ H (.int i))
 (hte:∀ H',(∀ c u,H c=some u->c≠a->H' c=some u)->Makes te σ H' ws) (hz:xs.length<16000000) (hw:∀ x∈xs,x.2.2.length<16000000)
 (kk:∀(l p:Addr)(H':Hp),H l=none->H p=none->H' p=some (.tup ws)->DL .dK H' a (lD xs (.inl i) l (.ref p))->(∀ c u,H c=some u->¬ InD a xs c->H' c=some u)->C H') :
 E8 K to tk te σ H λ_ H'=>C H':=by
 have sz:∀ n,n<16000000->n<sizeLine:=λn h=>by rw[Mi];lia
 have han:H a≠none:=by rw[G.root];simp
 refine hto _ ⟨.inr (.inr (.inl ⟨rfl,.inl ⟨_,G.root⟩⟩)),htk _ ⟨LF _,λl hl=>?_⟩⟩;have nal:a≠l:=λe=>han (by rw[e];exact hl);have kl:∀ c u,H c=some u->aB H l (.lst []) c=some u:=λc u e=>by rw[aa (af e hl)];exact e
 refine⟨a,.inl i,.ref l,xs.kv,rfl,rfl,.inl (kl _ _ G.root),sz _ (by unfold DX.kv;rw[Kw];exact hz),?_⟩;cases hf:jd xs (.inl i) with
 |some q=>
  left;have hq:=G.kid _ (dt hf);refine⟨.ref q.1,by rw[jt,hf];rfl,.inl ⟨rfl,_,SqL.of (kl _ _ hq)⟩,hte _ (λc u e _=>kl c u e) _ λp hp=>?_⟩;have hpH:H p=none:=(aE hl).free hp;have nqp:q.1≠p:=λe=>by dsimp only at hq;rw[e,hpH]at hq;cases hq
  refine⟨q.1,q.2,.ref p,rfl,rfl,by rw[aa nqp];exact kl _ _ hq,sz _ (hw _ (dt hf)),?_⟩;have kp:∀ c u,H c=some u->c≠q.1->aB (aB (aB H l (.lst [])) p (.tup ws)) q.1 (.lst (q.2++[.ref p])) c=some u:=λc u e hn=>by rw[aa hn,aa (af e hpH)];exact kl c u e
  refine kk l p _ hl hpH (by rw[aa (LJ nqp),ac]) ?_ λc u e hn=>kp c u e λz=>hn (.inr ⟨_,dt hf,z⟩);unfold lD;rw[hf,Ku (by simp)];exact G.old (λ_ _ z=>nomatch z) hf ac kp
 |none=>
  right;refine⟨by rw[jt,hf];rfl,.inl ⟨rfl,[],SqL.of (by rw[aa (LJ nal),ac])⟩,hte _ (λc u e hn=>by rw[aa hn];exact kl c u e) _ λp hp=>?_⟩;have hvn:fS xs.kv (.inl i)=none:=by rw[jt,hf];rfl
  have hpa:p≠a:=λe=>by rw[e,ac]at hp;cases hp
  have hpl:p≠l:=λe=>by rw[e,aa (LJ nal),ac]at hp;cases hp
  have hpH:H p=none:=by rw[aa hpa,aa hpl]at hp;exact hp
  refine⟨l,[],.ref p,rfl,rfl,by rw[aa (LJ hpl),aa (LJ nal),ac],by decide,?_⟩;refine kk l p _ hl hpH (by rw[aa hpl,ac]) ?_ λc u e hn=>?_
  .unfold lD;rw[hf,Kv (by simp)];refine G.new (λ_ _ z=>nomatch z) hf hl ac (by rw[aa nal,aa (LJ hpa),ac,pC _ hvn]) λc u e hn=>?_;rw[aa (af e hl),aa (af e hpH),aa hn];exact kl c u e
  .rw[aa (af e hl),aa (af e hpH),aa (λz=>hn (.inl z))];exact kl c u e
section
variable {X:Cx}
def E9:V->List V->Hp->VK->Prop:=λx xs H Q=>∃ i,x=.int i/\xs=[]/\Q (.int (Builtin.Int.intBits i)) H
theorem DS:FW X "int.bit_length" E9:=by intro pins s σ H x xs v us Q I rx rs q;obtain⟨i,rfl,rfl,q⟩:=q;obtain⟨t,rfl⟩:=rx;cases rs;exact call_int_bit_length ⟨.int _,H,I.tok _,⟨_,rfl⟩,q⟩
end
structure QAt (C:Addr) (H:Hp) (q ap:Addr) (last:Int) (xs:DX Key):Prop where
 ins:∃ dx,H q=some (.ins C dx [("last",.int last),("piles",.ref ap)])
 piles:DL .dK H ap xs
 few:xs.length<16000000
 low:∀ x∈xs,x.2.2.length<16000000
structure QCls (K:Oy) (C:Addr):Prop where
 cl:Cls K C
 nl:NoAttr K C "last"
 np:NoAttr K C "piles"
noncomputable def am (price last:Int):Int:=Builtin.Int.intBits (Builtin.bitXor price last)
def Il (K:Oy):TE:=E8 K (iS K (aw 0) "piles") (F0 K "int" E9 (m5 (yK λi j=>.int (Builtin.bitXor i j)) (aw 1) (iS K (aw 0) "last"))) (ke (au (aw 1) (au (aw 2) bq)))
theorem Gx {K:Oy}{C q ap b:Addr}{H:Hp}{Cn:Hp->Prop}(T:QCls K C)(G:QAt C H q ap last xs)(h0:σ[0]?=some (some (.ref q)))(h1:σ[1]?=some (some (.int price)))(h2:σ[2]?=some (some (.ref b)))
 (kk:∀(l p:Addr)(H':Hp),H l=none->H p=none->H' p=some (.tup [.int price,.ref b])->(∃ dx,H' q=some (.ins C dx [("last",.int last),("piles",.ref ap)]))->DL .dK H' ap (lD xs (.inl (am price last)) l (.ref p))->(∀ c u,H c=some u->¬ InD ap xs c->H' c=some u)->Cn H') :
 Il K σ H λ_ H'=>Cn H':=by
 obtain⟨dx,hq⟩:=G.ins;have nq:¬ InD ap xs q:=λz=>by
  rcases z with z|⟨x,hx,z⟩
  .have:=G.piles.root;rw[<- z,hq]at this;cases this
  .have:=G.piles.kid x hx;rw[<- z,hq]at this;cases this
 refine DR (ws:=[.int price,.ref b]) (i:=am price last) G.piles (λQ h=>⟨_,h0,q,C,dx,_,_,rfl,hq,T.cl,T.np,rfl,h⟩) (λQ h=>?_) (λH' _ Q h=>⟨_,h1,_,h2,(by show 2<=sizeLine;decide),h⟩) G.few G.low λl p H' hl hp hm hd kp=>kk l p H' hl hp hm ⟨dx,kp _ _ hq nq⟩ hd kp;exact⟨_,h1,_,h0,q,C,dx,_,_,rfl,hq,T.cl,T.nl,rfl,_,_,rfl,rfl,rfl,_,rfl,rfl,h⟩
def sn (C:Addr):Sp:=λvs H Q _=>∃(q ap b:Addr)(last price:Int)(xs:DX Key),vs=[.ref q,.int price,.ref b]/\QAt C H q ap last xs/\
 ∀(l p:Addr)(H':Hp),H l=none->H p=none->H' p=some (.tup [.int price,.ref b])->(∃ dx,H' q=some (.ins C dx [("last",.int last),("piles",.ref ap)]))->DL .dK H' ap (lD xs (.inl (am price last)) l (.ref p))->(∀ c u,H c=some u->¬ InD ap xs c->H' c=some u)->Q .non H'
theorem zx (h:sn C vs H Q E):vs.length=3:=by obtain⟨q,ap,b,last,price,xs,rfl,_⟩:=h;rfl
theorem Bt {K:Oy}{C:Addr}{vs:List V}(T:QCls K C)(h:sn C vs H Q E)(hN:N.length=3):f_ (Il K) { nx:=λ_ H'=>Q .non H',rt:=Q } (dh N vs) H:=by obtain⟨q,ap,b,last,price,xs,rfl,G,k⟩:=h;exact Gx T G rfl rfl rfl k
section
variable {κ:Type}[DecidableEq κ]{mk:List (κ×V)->HO}{H H':Hp}{a:Addr}{xs:DX κ}{k:κ}{p:Addr×List V}
noncomputable def kH (xs:DX κ)(k:κ):DX κ:=xs.filter λx=>decide (x.1≠k)
theorem Bu (xs:DX κ)(k:κ):(kH xs k).kv=lE xs.kv k:=by unfold kH lE DX.kv;rw[List.filter_map];rfl
theorem DL.drop (hmk:∀ q ws,mk q≠.lst ws)(G:DL mk H a xs)(hk:jd xs k=some p)(ha:H' a=some (mk (lE xs.kv k)))(kp:∀ c u,H c=some u->c≠a->H' c=some u) :
 DL mk H' a (kH xs k)/\H' p.1=some (.lst p.2)/\¬ InD a (kH xs k) p.1:=by
 have hp:=dt hk;have nap:∀ x∈xs,x.2.1≠a:=λx hx e=>by have:=G.kid x hx;rw[e,G.root]at this;exact hmk _ _ (La this)
 have sub:(kH xs k).Sublist xs:=List.filter_sublist;refine⟨⟨by rw[Bu];exact ha,λx hx=>?_,(sub.map _).nodup G.nk,(sub.map _).nodup G.na⟩,kp _ _ (G.kid _ hp) (nap _ hp),λz=>?_⟩
 .have hx':=(LD.mp hx).1;exact kp _ _ (G.kid x hx') (nap x hx')
 .rcases z with z|⟨x,hx,z⟩
  .exact nap _ hp z
  .obtain⟨h1,h2⟩:=LD.mp hx;have hne:x.1≠k:=KU h2;obtain⟨i,hi⟩:=KS.mp h1;obtain⟨j,hj⟩:=KS.mp hp;have e1:(xs.map (·.2.1))[i]?=some p.1:=by rw[KN,hi];exact LA some z.symm
   have e2:(xs.map (·.2.1))[j]?=some p.1:=by rw[KN,hj];rfl
   have:i=j:=(Og (KA.mp e1).1 G.na).mp (e1.trans e2.symm);subst this;rw[hi]at hj;exact hne (by rw[La hj])
end
end L4
namespace L4
open PySem PySem.Spec PySem.Calls PyProof.Rows L2 L3
section
variable {X:Cx}
abbrev uY (v d:Addr):HO:=.ext λh=>PySem.W.KdlKeysView h v d
def E_:V->List V->Hp->VK->Prop:=λx xs H Q=>∃ a kvs,x=.ref a/\xs=[]/\H a=some (.dK kvs)/\∀ v,H v=none->Q (.ref v) (aB H v (uY v a))
theorem DT:FW X "dict.keys" E_:=by intro pins s σ H x xs v us Q I rx rs q;obtain⟨a,kvs,rfl,rfl,ha,q⟩:=q;obtain rfl:v=Value.ref a:=rx;cases rs;obtain⟨z,hd,vs,rel,dd⟩:=uq I.hok ha;refine Mq PySem.F.slot_dict_keys dd.typeIs PySem.F.entry_dict_keys (PySem.F.args_dict_keys_1 _) (PySem.W.kdl_meets_keys (av X.prog X.w) a hd) ?_;have hv:PySem.W.KdlKeysView (s.heap.push { cls:=.type "dict_keys",data:=.fields #[.ref a] }) s.heap.objs.size a:=⟨_,KF _ rfl,rfl,rfl⟩;exact⟨⟨vs,dd⟩,.ref s.heap.objs.size,_,I.laid (a:=s.heap.objs.size) (o:=uY s.heap.objs.size a) (t':=s.toks) (λ_ _ e=>Ks _ e) (Kq _) ⟨hv,⟨_,KF _ rfl⟩,λh1 h2 ⟨o,ho,r⟩ k=>⟨o,k _ ho,r⟩⟩,rfl,q _ (I.hok.fresh (Kq _))⟩
def Fa:List V->Hp->VK->Prop:=λxs H Q=>∃(v a:Addr)(kvs:List (Key×V))(ns:List Int),xs=[.ref v]/\H v=some (uY v a)/\H a=some (.dK kvs)/\kvs.map (·.1)=ns.map Sum.inl/\ns≠[]/\Q (.int (oA ns)) H
theorem zy (hc:X.calm=true):CallR X (.builtin "min") Fa:=by
 intro pins s σ H xs us Q I r q;obtain⟨v,a,kvs,ns,rfl,hv,ha,hk,hne,q⟩:=q;obtain⟨u,rfl,ru⟩:=j_ r;obtain rfl:u=Value.ref v:=ru;obtain⟨z,hd,vs,rel,dd⟩:=uq I.hok ha;obtain⟨hv',_,_⟩:=(show ObjOk X.prog X.w H s.heap v (uY v a) from I.hok v _ hv);obtain⟨ep,da⟩:=dd.dictAt;have hl:=rel.length;have hkn:kvs.length=ns.length:=by have:=LA List.length hk;simpa using this
 have hvk:∀(i:Nat)(k:Key)(x:OA),vs[i]?=some (k,x)->∃ n,ns[i]?=some n/\k=.inl n:=λi k x e=>by
  have hi:i<kvs.length:=by rw[hl];exact(KA.mp e).1
  obtain⟨e1,_⟩:=rel.at i _ _ (Nw hi) e;have e2:(kvs.map (·.1))[i]?=some k:=by rw[KN,Nw hi];exact LA some e1
  rw[hk,KN]at e2;obtain⟨n,h1,h2⟩:=Lc.mp e2;exact⟨n,h1,h2.symm⟩
 generalize hps:(ns.map λn=>(n,(0:Tok))).toArray=ps;have hsz:ps.size=ns.length:=by rw[<- hps];simp
 have hna:∀(i:Nat)(n:Int),ns[i]?=some n->numAt ps i=n:=λi n e=>by unfold numAt;rw[<- hps];simp[e]
 have hpn:ps.toList.map (·.1)=ns:=by rw[<- hps];simp[Function.comp_def]
 have hpos:0<ns.length:=N5.mpr hne;have hne2:a≠s.heap.objs.size:=by obtain⟨o,_,_,ho,_⟩:=dd;exact KR (KD ho)
 refine call_min_walk (PySem.W.kdl_pyIter_keys (knd:=av X.prog X.w) (s:=s) hv' da ?_);refine⟨_,_,_,_,_,_,_,rfl,Walks.dictKeys (knd:=av X.prog X.w) (A:=X.A.in1) (I.ok.hd hc) s.heap.objs.size a hne2 vs ep,⟨⟨_,KF _ rfl,rfl,rfl⟩,da.at' λo e=>Ks _ e⟩,λb hb=>?_,by lia,CmpOf.ints_lt (numAt ps) (λi v hv=>?_),λv h' tk hP kp=>?_⟩
 .simp only[KB,KG,or_false]at hb;rw[Oc];rcases hb with rfl|rfl
  .exact Nm _
  .obtain⟨o,_,_,ho,_⟩:=dd;exact Nat.lt_succ_of_lt (KD ho)
 .obtain⟨k,x,e1,e2⟩:=hv;obtain⟨n,e3,rfl⟩:=hvk i k x e1;obtain⟨j,t,e4,rfl⟩|⟨j,t,e4,_⟩:=bp (show lW (.inl n) v=true from e2)
  .cases e4;exact⟨t,by rw[hna i n e3]⟩
  .cases e4
 .obtain⟨k,x,e1,e2⟩:=hP;obtain⟨n,e3,rfl⟩:=hvk _ k x e1;obtain⟨j,t,e4,rfl⟩|⟨j,t,e4,_⟩:=bp (show lW (.inl n) v=true from e2)
  .cases e4;have hb:=jA ps (vs.length-1) (by lia);rw[hna _ n e3,hpn,L0 (by lia)]at hb;exact⟨.int n,H,I.kept (t':=tk) λb o e=>kp b o (λhm=>by rw[KJ]at hm;subst hm;exact My _ (KD e)) (Ks _ e),⟨t,rfl⟩,by rw[hb];exact q⟩
  .cases e4
end
end L4
namespace L4
open PySem PySem.Spec PyProof.Rows L2 L3
inductive All2 {α β:Type} (R:α->β->Prop):List α->List β->Prop where
 |nil:All2 R [] []
 |cons {x y xs ys}:R x y->All2 R xs ys->All2 R (x::xs) (y::ys)
section
variable {α β:Type}{R R':α->β->Prop}{xs:List α}{ys:List β}
theorem All2.len (h:All2 R xs ys):xs.length=ys.length:=by
 induction h with
 |nil=>rfl
 |cons _ _ ih=>rw[Ky,Ky,ih]
theorem All2.mono (f:∀ x y,R x y->R' x y)(h:All2 R xs ys):All2 R' xs ys:=by
 induction h with
 |nil=>exact .nil
 |cons a _ ih=>exact .cons (f _ _ a) ih
theorem All2.snoc (h:All2 R xs ys)(r:R x y):All2 R (xs++[x]) (ys++[y]):=by
 induction h with
 |nil=>exact .cons r .nil
 |cons a _ ih=>exact .cons a ih
theorem All2.get (h:All2 R xs ys){i:Nat}(e:ys[i]?=some y):∃ x,xs[i]?=some x/\R x y:=by
 induction h generalizing i with
 |nil=>simp at e
 |cons a _ ih=>
  cases i with
  |zero=>simp at e;subst e;exact⟨_,rfl,a⟩
  |succ i=>simp at e;obtain⟨x,e1,e2⟩:=ih e;exact⟨x,by simpa using e1,e2⟩
theorem All2.map2 {γ δ:Type}{T:γ->δ->Prop}(f:α->γ)(g:β->δ)(k:∀ x y,R x y->T (f x) (g y))(h:All2 R xs ys):All2 T (xs.map f) (ys.map g):=by
 induction h with
 |nil=>exact .nil
 |cons a _ ih=>exact .cons (k _ _ a) ih
end
def KT (H H':Hp):Prop:=∀ a ws,H a=some (.tup ws)->H' a=some (.tup ws)
section
variable {κ κ' α:Type}[DecidableEq κ][DecidableEq κ'](key:κ->κ')(it:Hp->α->V->Prop)
abbrev RepM (H:Hp)(d:Pz.MD κ α)(xs:DX κ'):Prop:=All2 (λx y=>y.1=key x.1/\All2 (it H) x.2 y.2.2) d xs
variable {key it}{H H':Hp}{d:Pz.MD κ α}{xs:DX κ'}
theorem RepM.keep (hm:∀ a v,it H a v->it H' a v)(h:RepM key it H d xs):RepM key it H' d xs:=h.mono λ_ _ ⟨e,a⟩=>⟨e,a.mono hm⟩
theorem RepM.find (inj:∀ a b,key a=key b->a=b)(h:RepM key it H d xs)(k:κ) :
 (jd xs (key k)=none/\d.has k=false/\d.get k=[])\/∃ p,jd xs (key k)=some p/\d.has k=true/\All2 (it H) (d.get k) p.2:=by
 induction h with
 |nil=>exact .inl ⟨rfl,rfl,rfl⟩
 | @cons x y d xs r _ ih=>
  unfold jd at ih ⊢;unfold Pz.MD.has at ih ⊢;rw[Lm,Pz.bB,L6];by_cases e:x.1=k
  .right;have:y.1=key k:=by rw[r.1,e]
   rw[Kz this,Kz e,Ku e];exact⟨y.2,rfl,rfl,r.2⟩
  .have:¬ y.1=key k:=λz=>e (inj _ _ (r.1.symm.trans z));rw[KL this,KL e,Kv e,Oh];exact ih
theorem RepM.add (inj:∀ a b,key a=key b->a=b)(hm:∀ a v,it H a v->it H' a v)(h:RepM key it H d xs)(hv:it H' v (.ref p)):RepM key it H' (d.app k v) (lD xs (key k) l (.ref p)):=by
 have h':=h.keep hm;unfold Pz.MD.app lD;rcases h.find inj k with⟨e1,e2,_⟩|⟨q,e1,e2,_⟩
 .rw[e1,e2];exact h'.snoc ⟨rfl,.cons hv .nil⟩
 .rw[e1,e2];refine h'.map2 _ _ λx y ⟨r1,r2⟩=>?_;by_cases e:x.1=k
  .have:y.1=key k:=by rw[r1,e]
   rw[Ku e,Ku this];exact⟨r1,r2.snoc hv⟩
  .have:¬ y.1=key k:=λz=>e (inj _ _ (r1.symm.trans z));rw[Kv e,Kv this];exact⟨r1,r2⟩
theorem RepM.drop (inj:∀ a b,key a=key b->a=b)(h:RepM key it H d xs)(k:κ):RepM key it H (d.drop k) (kH xs (key k)):=by
 induction h with
 |nil=>exact .nil
 | @cons x y d xs r _ ih=>
  unfold Pz.MD.drop kH at ih ⊢;by_cases e:x.1=k
  .have:y.1=key k:=by rw[r.1,e]
   rw[NE (by simpa using e),NE (by simpa using this)];exact ih
  .have:¬ y.1=key k:=λz=>e (inj _ _ (r.1.symm.trans z));rw[NF (by simpa using e),NF (by simpa using this)];exact .cons r ih
theorem RepM.keys (h:RepM key it H d xs):xs.map (·.1)=d.keys.map key:=by
 induction h with
 |nil=>rfl
 |cons r _ ih=>rw[Kr,Pz.MD.keys,Kr,Kr,r.1];exact LA _ ih
theorem RepM.low (h:RepM key it H d xs)(hn:d.flat.length<n):∀ x∈xs,x.2.2.length<n:=by
 induction h with
 |nil=>exact λ_ h=>(KG h).elim
 | @cons x y d xs r _ ih=>
  unfold Pz.MD.flat at hn ih;rw[L_,KI]at hn;intro z hz;rcases KB.mp hz with rfl|hz
  .have:=r.2.len;lia
  .exact ih (by lia) z hz
end
noncomputable def vO:Option Int->V
 |none=>.non
 |some i=>.int i
noncomputable def arrV (a:Pz.Arr):List V:=[.int a.1,.int a.2.1,.int a.2.2]
def IsArr (H:Hp)(a:Pz.Arr)(v:V):Prop:=∃ p,v=.ref p/\H p=some (.tup (arrV a))
def IsRule (H:Hp)(r:Pz.Rule)(v:V):Prop:=∃ p q,v=.ref p/\H p=some (.tup [.int r.1,.int r.2.1,.int r.2.2.1,.ref q])/\H q=some (.tup (r.2.2.2.map .int))
def IsVal (H:Hp)(x:Pz.Val)(v:V):Prop:=∃ p,v=.ref p/\H p=some (.tup [.int x.1,vO x.2.1,vO x.2.2])
def IsItem (H:Hp)(x:Int×Pz.Arr)(v:V):Prop:=∃ p w,v=.ref p/\H p=some (.tup [.int x.1,w])/\IsArr H x.2 w
def IsSet (H:Hp)(x:Int×Int)(v:V):Prop:=∃ p,v=.ref p/\H p=some (.tup [.int x.1,.int x.2])
def IsLack (H:Hp)(x:Int×Pz.Rule×Int)(v:V):Prop:=∃ p w,v=.ref p/\H p=some (.tup [.int x.1,w,.int x.2.2])/\IsRule H x.2.1 w
def IsNum (H:Hp)(x:Int×Pz.Rule)(v:V):Prop:=∃ p w,v=.ref p/\H p=some (.tup [.int x.1,w])/\IsRule H x.2 w
section
variable {H H':Hp}(k:KT H H')
include k
theorem IsArr.keep (a:Pz.Arr)(v:V):IsArr H a v->IsArr H' a v:=λ⟨p,e,h⟩=>⟨p,e,k _ _ h⟩
theorem IsRule.keep (a:Pz.Rule)(v:V):IsRule H a v->IsRule H' a v:=λ⟨p,q,e,h,g⟩=>⟨p,q,e,k _ _ h,k _ _ g⟩
theorem IsVal.keep (a:Pz.Val)(v:V):IsVal H a v->IsVal H' a v:=λ⟨p,e,h⟩=>⟨p,e,k _ _ h⟩
theorem IsItem.keep (a:Int×Pz.Arr)(v:V):IsItem H a v->IsItem H' a v:=λ⟨p,w,e,h,g⟩=>⟨p,w,e,k _ _ h,IsArr.keep k _ _ g⟩
theorem IsSet.keep (a:Int×Int)(v:V):IsSet H a v->IsSet H' a v:=λ⟨p,e,h⟩=>⟨p,e,k _ _ h⟩
theorem IsLack.keep (a:Int×Pz.Rule×Int)(v:V):IsLack H a v->IsLack H' a v:=λ⟨p,w,e,h,g⟩=>⟨p,w,e,k _ _ h,IsRule.keep k _ _ g⟩
theorem IsNum.keep (a:Int×Pz.Rule)(v:V):IsNum H a v->IsNum H' a v:=λ⟨p,w,e,h,g⟩=>⟨p,w,e,k _ _ h,IsRule.keep k _ _ g⟩
end
noncomputable def ak (a:Pz.Arr):List Key:=[.inl a.1,.inl a.2.1,.inl a.2.2]
theorem lT (a b:Pz.Arr)(h:ak a=ak b):a=b:=by unfold ak at h;simp only[List.cons.injEq,Sum.inl.injEq,and_true]at h;exact Nf h.1 (Nf h.2.1 h.2.2)
noncomputable def k2 (k:Int×Int):List Key:=[.inl k.1,.inl k.2]
theorem nL (a b:Int×Int)(h:k2 a=k2 b):a=b:=by unfold k2 at h;simp only[List.cons.injEq,Sum.inl.injEq,and_true]at h;exact Nf h.1 h.2
noncomputable def k1 (i:Int):Key:=.inl i
theorem kI (a b:Int)(h:k1 a=k1 b):a=b:=N0 h
abbrev RepT (H:Hp)(t:Pz.TD)(kt:List (List Key×V)):Prop:=All2 (λx y=>y.1=ak x.1/\IsVal H x.2 y.2) t kt
theorem RepT.keep (k:KT H H')(h:RepT H t kt):RepT H' t kt:=h.mono λ_ _ ⟨e,a⟩=>⟨e,IsVal.keep k _ _ a⟩
theorem RepT.find (h:RepT H t kt)(a:Pz.Arr) :
 (fS kt (ak a)=none/\Pz.tget t a=none)\/∃ v x,fS kt (ak a)=some v/\Pz.tget t a=some x/\IsVal H x v:=by
 induction h with
 |nil=>exact .inl ⟨rfl,rfl⟩
 | @cons x y t kt r _ ih=>
  rw[Pz.c_];by_cases e:x.1=a
  .have:y.1=ak a:=by rw[r.1,e]
   rw[Ku e,iV this];exact .inr ⟨_,_,rfl,rfl,r.2⟩
  .have:¬ y.1=ak a:=λz=>e (lT _ _ (r.1.symm.trans z));rw[Kv e,iW this];exact ih
theorem RepT.put (h:RepT H t kt)(hv:IsVal H x v):RepT H (Pz.tput t a x) (cf kt (ak a) v):=by
 unfold Pz.tput cf;rw[kg];rcases h.find a with⟨e1,e2⟩|⟨w,y,e1,e2,_⟩
 .rw[e1,e2];exact h.snoc ⟨rfl,hv⟩
 .rw[e1,e2];refine h.map2 _ _ λz y ⟨r1,r2⟩=>?_;by_cases e:z.1=a
  .have:y.1=ak a:=by rw[r1,e]
   rw[Ku e,Ku this];exact⟨r1,hv⟩
  .have:¬ y.1=ak a:=λq=>e (lT _ _ (r1.symm.trans q));rw[Kv e,Kv this];exact⟨r1,r2⟩
theorem jU {κ:Type}[DecidableEq κ]{xs:DX κ}{k:κ}{l a c:Addr}{v:V}(h:InD a (lD xs k l v) c):InD a xs c\/c=l:=by
 rcases h with h|⟨x,hx,h⟩
 .exact .inl (.inl h)
 .unfold lD at hx;split at hx
  .obtain⟨y,hy,rfl⟩:=KH.mp hx;refine .inl (.inr ⟨y,hy,?_⟩);rw[h];split<;>rfl
  .rcases Lf.mp hx with hx|hx
   .exact .inl (.inr ⟨x,hx,h⟩)
   .rw[KJ]at hx;subst hx;exact .inr h
section
variable {κ κ' α:Type}[DecidableEq κ][DecidableEq κ'](mk:List (κ'×V)->HO)(key:κ->κ')(it:Hp->α->V->Prop)
structure PM (col:Addr->Nat) (j:Nat) (B H:Hp) (a:Addr) (dd:Pz.MD κ α) (xs:DX κ'):Prop where
 d:DL mk H a xs
 r:RepM key it H dd xs
 c:∀ c,InD a xs c->col c=j/\B c=none
variable {mk key it}{col col':Addr->Nat}{j:Nat}{B B' H H':Hp}{a:Addr}{d:Pz.MD κ α}{xs:DX κ'}
theorem DL.obj (h:DL mk H a xs)(hc:InD a xs c):H c≠none:=by
 rcases hc with rfl|⟨x,hx,rfl⟩
 .rw[h.root];simp
 .rw[h.kid x hx];simp
theorem DL.keep (h:DL mk H a xs)(kp:∀ c u,H c=some u->InD a xs c->H' c=some u):DL mk H' a xs:=⟨kp _ _ h.root (.inl rfl),λx hx=>kp _ _ (h.kid x hx) (.inr ⟨x,hx,rfl⟩),h.nk,h.na⟩
theorem PM.keep (h:PM mk key it col j B H a d xs)(hit:∀ x v,it H x v->it H' x v)(kp:∀ c u,H c=some u->col c=j->H' c=some u)(hc:∀ c,H c≠none->col' c=col c):PM mk key it col' j B H' a d xs:=⟨h.d.keep λc u e i=>kp c u e (h.c c i).1,h.r.keep hit,λc i=>⟨by rw[hc c (h.d.obj i)];exact(h.c c i).1,(h.c c i).2⟩⟩
theorem DL.kt (hmk:∀ q ws,mk q≠.tup ws)(h:DL mk H a xs)(kp:∀ c u,H c=some u->¬ InD a xs c->H' c=some u):KT H H':=λc ws e=>kp c _ e λi=>by
 rcases i with rfl|⟨x,hx,rfl⟩
 .rw[h.root]at e;exact hmk _ _ (La e)
 .rw[h.kid x hx]at e;cases e
noncomputable def tO (col:Addr->Nat)(j:Nat)(H:Hp):Addr->Nat:=λc=>open Classical in if H c=none then j else col c
theorem be (hc:H a≠none):tO col j H a=col a:=by unfold tO;rw[Kv hc]
theorem Bv (hc:H a=none):tO col j H a=j:=by unfold tO;rw[Ku hc]
theorem PM.new (h:PM mk key it col j B H a d xs)(sm:Same B H)(h1:DL mk H' a xs')(h2:RepM key it H' d' xs')(hn:∀ c,InD a xs' c->InD a xs c\/H c=none):PM mk key it (tO col j H) j B H' a d' xs':=
 ⟨h1,h2,λc i=>by
   rcases hn c i with i|e
   .rw[be (h.d.obj i)];exact h.c c i
   .exact⟨Bv e,sm.free e⟩⟩
theorem PM.base (h:PM mk key it col j B H a d xs)(hb:∀ c,InD a xs c->B' c=none):PM mk key it col j B' H a d xs:=⟨h.d,h.r,λc i=>⟨(h.c c i).1,hb c i⟩⟩
end
structure PA where
 o:Addr
 ta:Addr
 aq:Addr
 ap:Addr
 sa:Addr
 la:Addr
 ar:Addr
noncomputable def pf (A:PA):List (Str×V):=[("rules",.ref A.ar),("told",.ref A.ta),("offers",.ref A.aq),("settled",.ref A.sa),("lacking",.ref A.la)]
noncomputable abbrev qf (A:PA) (last:Int):List (Str×V):=[("last",.int last),("piles",.ref A.ap)]
structure PO (CP CQ:Addr) (col:Addr->Nat) (B H:Hp) (A:PA) (last:Int) (t:Pz.TD) (kt:List (List Key×V)):Prop where
 ins:∃ dx,H A.o=some (.ins CP dx (pf A))
 que:∃ dx,H A.aq=some (.ins CQ dx (qf A last))
 td:H A.ta=some (.dT kt)
 tr:RepT H t kt
 c5:col A.ta=5/\B A.ta=none
 c6:col A.o=6/\B A.o=none
 c7:col A.aq=7/\B A.aq=none
structure PCore (CP CQ:Addr) (B H:Hp) (A:PA) (rs:Pz.RS) (S:Pz.PS) (xs xl xr:DX (List Key)) (xp:DX Key) (kt:List (List Key×V)) (col:Addr->Nat):Prop where
 same:Same B H
 p1:PM .dK k1 IsItem col 1 B H A.ap S.piles xp
 p2:PM .dT k2 IsSet col 2 B H A.sa S.settled xs
 p3:PM .dT k2 IsLack col 3 B H A.la S.lacking xl
 p4:PM .dT k2 IsNum col 4 B H A.ar rs xr
 po:PO CP CQ col B H A S.last S.told kt
def PAt (CP CQ:Addr)(B H:Hp)(A:PA)(rs:Pz.RS)(S:Pz.PS)(xs xl xr:DX (List Key)):Prop:=∃ xp kt col,PCore CP CQ B H A rs S xs xl xr xp kt col
section
variable {CP CQ:Addr}{B B' H H':Hp}{A:PA}{rs:Pz.RS}{S:Pz.PS}{xs xl xr:DX (List Key)}{xp:DX Key}{kt:List (List Key×V)}{col:Addr->Nat}
theorem PO.keep (h:PO CP CQ col B H A last t kt)(k:KT H H')(kp:∀ c u,H c=some u->5<=col c->col c<=7->H' c=some u)(hc:∀ c,H c≠none->col' c=col c):PO CP CQ col' B H' A last t kt:=by
 obtain⟨⟨dx,h1⟩,⟨dy,h2⟩,h3,h4,c5,c6,c7⟩:=h;refine⟨⟨dx,kp _ _ h1 (by lia) (by lia)⟩,⟨dy,kp _ _ h2 (by lia) (by lia)⟩,kp _ _ h3 (by lia) (by lia),h4.keep k,?_,?_,?_⟩
 .rw[hc _ (by rw[h3];simp)];exact c5
 .rw[hc _ (by rw[h1];simp)];exact c6
 .rw[hc _ (by rw[h2];simp)];exact c7
theorem PCore.pile (h:PCore CP CQ B H A rs S xs xl xr xp kt col)(h1:DL .dK H' A.ap xp')(h2:RepM k1 IsItem H' d' xp')(hn:∀ c,InD A.ap xp' c->InD A.ap xp c\/H c=none)
 (kp:∀ c u,H c=some u->¬ InD A.ap xp c->H' c=some u):PCore CP CQ B H' A rs { S with piles:=d' } xs xl xr xp' kt (tO col 1 H):=by
 have k:KT H H':=h.p1.d.kt (λ_ _ z=>HO.noConfusion z) kp;have kj:∀ c u,H c=some u->col c≠1->H' c=some u:=λc u e n=>kp c u e λi=>n (h.p1.c c i).1;exact⟨(λc u e=>kp c u (h.same c u e) λi=>by rw[(h.p1.c c i).2]at e;cases e),h.p1.new h.same h1 h2 hn,h.p2.keep (IsSet.keep k) (λc u e z=>kj c u e (by lia)) λc=>be,h.p3.keep (IsLack.keep k) (λc u e z=>kj c u e (by lia)) λc=>be,h.p4.keep (IsNum.keep k) (λc u e z=>kj c u e (by lia)) λc=>be,h.po.keep k (λc u e z _=>kj c u e (by lia)) λc=>be⟩
theorem PCore.sett (h:PCore CP CQ B H A rs S xs xl xr xp kt col)(h1:DL .dT H' A.sa xs')(h2:RepM k2 IsSet H' d' xs')(hn:∀ c,InD A.sa xs' c->InD A.sa xs c\/H c=none)
 (kp:∀ c u,H c=some u->¬ InD A.sa xs c->H' c=some u):PCore CP CQ B H' A rs { S with settled:=d' } xs' xl xr xp kt (tO col 2 H):=by
 have k:KT H H':=h.p2.d.kt (λ_ _ z=>HO.noConfusion z) kp;have kj:∀ c u,H c=some u->col c≠2->H' c=some u:=λc u e n=>kp c u e λi=>n (h.p2.c c i).1;exact⟨(λc u e=>kp c u (h.same c u e) λi=>by rw[(h.p2.c c i).2]at e;cases e),h.p1.keep (IsItem.keep k) (λc u e z=>kj c u e (by lia)) λc=>be,h.p2.new h.same h1 h2 hn,h.p3.keep (IsLack.keep k) (λc u e z=>kj c u e (by lia)) λc=>be,h.p4.keep (IsNum.keep k) (λc u e z=>kj c u e (by lia)) λc=>be,h.po.keep k (λc u e z _=>kj c u e (by lia)) λc=>be⟩
theorem PCore.lack (h:PCore CP CQ B H A rs S xs xl xr xp kt col)(h1:DL .dT H' A.la xl')(h2:RepM k2 IsLack H' d' xl')(hn:∀ c,InD A.la xl' c->InD A.la xl c\/H c=none)
 (kp:∀ c u,H c=some u->¬ InD A.la xl c->H' c=some u):PCore CP CQ B H' A rs { S with lacking:=d' } xs xl' xr xp kt (tO col 3 H):=by
 have k:KT H H':=h.p3.d.kt (λ_ _ z=>HO.noConfusion z) kp;have kj:∀ c u,H c=some u->col c≠3->H' c=some u:=λc u e n=>kp c u e λi=>n (h.p3.c c i).1;exact⟨(λc u e=>kp c u (h.same c u e) λi=>by rw[(h.p3.c c i).2]at e;cases e),h.p1.keep (IsItem.keep k) (λc u e z=>kj c u e (by lia)) λc=>be,h.p2.keep (IsSet.keep k) (λc u e z=>kj c u e (by lia)) λc=>be,h.p3.new h.same h1 h2 hn,h.p4.keep (IsNum.keep k) (λc u e z=>kj c u e (by lia)) λc=>be,h.po.keep k (λc u e z _=>kj c u e (by lia)) λc=>be⟩
theorem PCore.more (h:PCore CP CQ B H A rs S xs xl xr xp kt col)(s:Same H H'):PCore CP CQ B H' A rs S xs xl xr xp kt col:=by have k:KT H H':=λa ws e=>s a _ e;exact⟨h.same.trans s,h.p1.keep (IsItem.keep k) (λc u e _=>s c u e) λ_ _=>rfl,h.p2.keep (IsSet.keep k) (λc u e _=>s c u e) λ_ _=>rfl,h.p3.keep (IsLack.keep k) (λc u e _=>s c u e) λ_ _=>rfl,h.p4.keep (IsNum.keep k) (λc u e _=>s c u e) λ_ _=>rfl,h.po.keep k (λc u e _ _=>s c u e) λ_ _=>rfl⟩
theorem PAt.more (h:PAt CP CQ B H A rs S xs xl xr)(s:Same H H'):PAt CP CQ B H' A rs S xs xl xr:=let ⟨xp,kt,col,h⟩:=h;⟨xp,kt,col,h.more s⟩
theorem PCore.tell (h:PCore CP CQ B H A rs S xs xl xr xp kt col)(hp:H p=some (.tup [.int x.1,vO x.2.1,vO x.2.2])) :
 PCore CP CQ B (aB H A.ta (.dT (cf kt (ak a) (.ref p)))) A rs { S with told:=Pz.tput S.told a x } xs xl xr xp (cf kt (ak a) (.ref p)) col:=by
 have kp:∀ c u,H c=some u->col c≠5->aB H A.ta (.dT (cf kt (ak a) (.ref p))) c=some u:=λc u e n=>by rw[aa (λz=>n (by rw[z];exact h.po.c5.1))];exact e
 have k:KT H (aB H A.ta (.dT (cf kt (ak a) (.ref p)))):=λc ws e=>by rw[aa (λz=>by rw[z,h.po.td]at e;cases e)];exact e
 obtain⟨⟨dx,h1⟩,⟨dy,h2⟩,h3,h4,c5,c6,c7⟩:=h.po;refine⟨λc u e=>?_,h.p1.keep (IsItem.keep k) (λc u e z=>kp c u e (by lia)) λ_ _=>rfl,h.p2.keep (IsSet.keep k) (λc u e z=>kp c u e (by lia)) λ_ _=>rfl,h.p3.keep (IsLack.keep k) (λc u e z=>kp c u e (by lia)) λ_ _=>rfl,h.p4.keep (IsNum.keep k) (λc u e z=>kp c u e (by lia)) λ_ _=>rfl,⟨dx,kp _ _ h1 (by lia)⟩,⟨dy,kp _ _ h2 (by lia)⟩,ac,(h4.keep k).put ⟨p,rfl,k _ _ hp⟩,c5,c6,c7⟩;rw[aa (λz=>by rw[z,c5.2]at e;cases e)];exact h.same c u e
theorem PCore.wide (h:PCore CP CQ B H A rs S xs xl xr xp kt col)(Z:Addr->Prop)(hz:∀ c,Z c->¬ InD A.ap xp c/\¬ InD A.sa xs c/\¬ InD A.la xl c/\¬ InD A.ar xr c/\c≠A.ta/\c≠A.o/\c≠A.aq) :
 ∃ B',Same B B'/\KT H B'/\(∀ c u,Z c->H c=some u->B' c=some u)/\PCore CP CQ B' H A rs S xs xl xr xp kt col:=by
 classical
 refine⟨λc=>if B c≠none\/Z c\/∃ ws,H c=some (.tup ws) then H c else none,λc u e=>?_,λc ws e=>?_,λc u z e=>?_,λc u e=>?_,h.p1.base λc i=>?_,h.p2.base λc i=>?_,h.p3.base λc i=>?_,h.p4.base λc i=>?_,h.po.ins,h.po.que,h.po.td,h.po.tr,⟨h.po.c5.1,?_⟩,⟨h.po.c6.1,?_⟩,⟨h.po.c7.1,?_⟩⟩
 .dsimp only;rw[Ku (.inl (by rw[e];simp))];exact h.same c u e
 .dsimp only;rw[Ku (.inr (.inr ⟨ws,e⟩))];exact e
 .dsimp only;rw[Ku (.inr (.inl z))];exact e
 .split at e
  .exact e
  .cases e
 all_goals
  refine Kv λq=>?_
 .rcases q with q|q|⟨ws,q⟩
  .exact q (h.p1.c c i).2
  .exact(hz c q).1 i
  .rcases i with rfl|⟨x,hx,rfl⟩
   .rw[h.p1.d.root]at q;cases q
   .rw[h.p1.d.kid x hx]at q;cases q
 .rcases q with q|q|⟨ws,q⟩
  .exact q (h.p2.c c i).2
  .exact(hz c q).2.1 i
  .rcases i with rfl|⟨x,hx,rfl⟩
   .rw[h.p2.d.root]at q;cases q
   .rw[h.p2.d.kid x hx]at q;cases q
 .rcases q with q|q|⟨ws,q⟩
  .exact q (h.p3.c c i).2
  .exact(hz c q).2.2.1 i
  .rcases i with rfl|⟨x,hx,rfl⟩
   .rw[h.p3.d.root]at q;cases q
   .rw[h.p3.d.kid x hx]at q;cases q
 .rcases q with q|q|⟨ws,q⟩
  .exact q (h.p4.c c i).2
  .exact(hz c q).2.2.2.1 i
  .rcases i with rfl|⟨x,hx,rfl⟩
   .rw[h.p4.d.root]at q;cases q
   .rw[h.p4.d.kid x hx]at q;cases q
 .rcases q with q|q|⟨ws,q⟩
  .exact q h.po.c5.2
  .exact(hz _ q).2.2.2.2.1 rfl
  .rw[h.po.td]at q;cases q
 .rcases q with q|q|⟨ws,q⟩
  .exact q h.po.c6.2
  .exact(hz _ q).2.2.2.2.2.1 rfl
  .obtain⟨dx,e⟩:=h.po.ins;rw[e]at q;cases q
 .rcases q with q|q|⟨ws,q⟩
  .exact q h.po.c7.2
  .exact(hz _ q).2.2.2.2.2.2 rfl
  .obtain⟨dx,e⟩:=h.po.que;rw[e]at q;cases q
theorem PAt.less (h:PAt CP CQ B' H A rs S xs xl xr)(s:Same B B'):PAt CP CQ B H A rs S xs xl xr:=by obtain⟨xp,kt,col,h⟩:=h;refine⟨xp,kt,col,s.trans h.same,h.p1.base λc i=>s.free (h.p1.c c i).2,h.p2.base λc i=>s.free (h.p2.c c i).2,h.p3.base λc i=>s.free (h.p3.c c i).2,h.p4.base λc i=>s.free (h.p4.c c i).2,h.po.ins,h.po.que,h.po.td,h.po.tr,⟨h.po.c5.1,s.free h.po.c5.2⟩,⟨h.po.c6.1,s.free h.po.c6.2⟩,⟨h.po.c7.1,s.free h.po.c7.2⟩⟩
theorem PAt.same (h:PAt CP CQ B H A rs S xs xl xr):Same B H:=let ⟨_,_,_,h⟩:=h;h.same
end
theorem DU (x y:Nat):Builtin.bitXor (x:Int) (y:Int)=(((x ||| y)-(x &&& y):Nat):Int):=by
 have n1:∀ z:Nat,decide (0<=Builtin.bitNot (z:Int))=false:=λz=>KL (by unfold Builtin.bitNot;lia);have n2:∀ z:Nat,(Builtin.bitNot (Builtin.bitNot (z:Int))).toNat=z:=λz=>by unfold Builtin.bitNot;lia
 have p1:∀ z:Nat,decide (0<=(z:Int))=true:=λz=>Kz (by lia);have eA:Builtin.bitAnd (x:Int) (y:Int)=((x &&& y:Nat):Int):=by unfold Builtin.bitAnd;rw[p1,p1];rfl
 have eO:Builtin.bitOr (x:Int) (y:Int)=((x ||| y:Nat):Int):=by unfold Builtin.bitOr Builtin.bitAnd;rw[n1,n1];show Builtin.bitNot (Builtin.bitNot (((Builtin.bitNot (Builtin.bitNot (x:Int))).toNat ||| (Builtin.bitNot (Builtin.bitNot (y:Int))).toNat:Nat):Int))=_;rw[n2,n2];unfold Builtin.bitNot;lia
 unfold Builtin.bitXor;rw[eA,eO];have:x &&& y<=x ||| y:=Ld Nat.and_le_left Nat.left_le_or;lia
theorem x_:Pz.Pile am:=by
 have key:∀{p l:Int},0<=p->0<=l->∃ z:Nat,am p l=(z:Int)/\∀ k:Nat,z<=k↔p / 2 ^ k=l / 2 ^ k:=by
  intro p l hp hl;obtain⟨x,rfl⟩:=Mh hp;obtain⟨y,rfl⟩:=Mh hl;refine⟨_,rfl,λk=>?_⟩;rw[DU];unfold Builtin.Int.intBits;rw[Pz.DQ,Pz.DP];have e:∀ z:Nat,(z:Int) / 2 ^ k=((z / 2 ^ k:Nat):Int):=λz=>by rw[Int.natCast_ediv];norm_cast
  rw[e,e];lia
 constructor
 .intro p l hp hl;obtain⟨z,e,_⟩:=key hp hl;rw[e];lia
 .intro p l hp hl k;obtain⟨z,e,h⟩:=key hp hl;rw[e,<- h k];lia
section
variable {K:Oy}{C q ap:Addr}{H:Hp}{last:Int}{xp:DX Key}{σ:L2.St}
def oT (C:Addr):Sp:=λvs H Q _=>∃(q dx:Addr),vs=[.ref q]/\H q=some (.ins C dx [])/\∀(d:Addr)(H':Hp),H d=none->H' q=some (.ins C dx [("last",.int 0),("piles",.ref d)])->H' d=some (.dK [])->(∀ b o,H b=some o->b≠q->H' b=some o)->Q .non H'
def Gy (K:Oy):TS:=gA (sE K (aw 0) (tC (.int 0)) "last") (sE K (aw 0) Ar "piles")
theorem uZ (h:oT C vs H Q E):vs.length=1:=by obtain⟨q,dx,rfl,_⟩:=h;rfl
theorem wR (T:QCls K C)(h:oT C vs H Q E):Gy K { nx:=λ_ H'=>Q .non H',rt:=Q } (dh N vs) H:=by
 obtain⟨q,dx,rfl,hq,k⟩:=h;refine⟨_,rfl,q,C,dx,[],rfl,hq,T.cl,T.nl,(by show 0<1000;decide),?_⟩;intro d hd;have hdq:d≠q:=λe=>by rw[e,ac]at hd;cases hd
 have hd0:H d=none:=by rw[aa hdq]at hd;exact hd
 refine⟨_,rfl,q,C,dx,_,rfl,(by rw[aa (LJ hdq),ac]),T.cl,T.np,(by show 1<1000;decide),?_⟩;refine k d _ hd0 (by rw[ac];rfl) (by rw[aa hdq,ac]) λb o e hb=>?_;rw[aa hb,aa (af e hd0),aa hb];exact e
def oU (C:Addr):Sp:=λvs H Q _=>∃(q ap dx:Addr)(last:Int)(kvs:List (Key×V)),vs=[.ref q]/\H q=some (.ins C dx [("last",.int last),("piles",.ref ap)])/\H ap=some (.dK kvs)/\kvs.length<=sizeLine/\Q (.bl (decide (kvs.length=0))) H
def Fb:List V->Hp->VK->Prop:=λxs H Q=>∃(d:Addr)(kvs:List (Key×V))(u:HO),xs=[.ref d]/\(u=.dK kvs\/(u=.dT []/\kvs=[]))/\Rd H d u/\kvs.length<=sizeLine/\Q (.int kvs.length) H
theorem zA:CallR X (.builtin "len") Fb:=zk
def Gz (K:Oy):TS:=uh (m5 Hw (ER Fb (au (iS K (aw 0) "piles") bq)) (tC (.int 0)))
theorem u4 (h:oU C vs H Q E):vs.length=1:=by obtain⟨q,ap,dx,last,kvs,rfl,_⟩:=h;rfl
theorem wU (T:QCls K C)(h:oU C vs H Q E):Gz K { nx:=λ_ H'=>Q .non H',rt:=Q } (dh N vs) H:=by
 obtain⟨q,ap,dx,last,kvs,rfl,hq,ha,hl,k⟩:=h;refine⟨_,rfl,q,C,dx,_,_,rfl,hq,T.cl,T.np,rfl,ap,kvs,_,rfl,.inl rfl,.inl ha,hl,rfl,?_⟩;have:decide (V.int (kvs.length:Int)=V.int 0)=decide (kvs.length=0):=by apply Os.mpr;exact⟨λe=>by injection e with e;lia,λe=>by rw[e];rfl⟩
 rw[this];exact k
def tP (C:Addr):Sp:=λvs H Q _=>∃(q ap:Addr)(last:Int)(xp:DX Key)(d:Pz.Q Pz.Arr),vs=[.ref q]/\QAt C H q ap last xp/\RepM k1 IsItem H d xp/\Pz.QOk am last d/\d≠[]/\d.flat.length<16000000/\
 ∀(l:Addr)(vs':List V)(xp':DX Key)(H':Hp),QAt C H' q ap (Pz.lowP d) xp'->RepM k1 IsItem H' (Pz.left am d) xp'->H' l=some (.lst vs')->All2 (IsItem H') (Pz.taken am d) vs'->¬ InD ap xp' l->(InD ap xp l\/H l=none)->(∀ c,InD ap xp' c->InD ap xp c\/H c=none)->
  (∀ c u,H c=some u->¬ InD ap xp c->c≠q->H' c=some u)->Q (.ref l) H'
theorem wV (h:tP C vs H Q E):vs.length=1:=by obtain⟨q,ap,last,xp,d,rfl,_⟩:=h;rfl
def Im (K:Oy)(C:Addr)(tm:TE):TS:=
 gA (o9 (wo (iS K (aw 0) "piles") (ER Fa (au (F0 K "dict" E_ (iS K (aw 0) "piles")) bq))) (bv 1))
 (gA (sE K (aw 0) tm "last")
 (gA (ou (lZ K (aw 1)) (o8 K 2 (dG (bv 2) (dG (bv 3) o7))) (f_ (iT C "add" (sn C) [] E0 (aw 0) (au (aw 2) (au (aw 3) bq)))))
 (uh (wo (iS K (aw 0) "piles") (tC (.int 0))))))
def Ip (tm:TE):Prop:=∀(σ:L2.St)(H:Hp)(a:Addr)(vs:List V)(its:List (Int×Pz.Arr))(Q:VK),σ[1]?=some (some (.ref a))->H a=some (.lst vs)->All2 (IsItem H) its vs->its≠[]->its.length<16000000->(∀ H',Same H H'->Q (.int (Pz.lo (its.map (·.1)))) H')->tm σ H Q
theorem ya (l:List Int):oA l=Pz.lo l:=by cases l<;>rfl
theorem DV {κ:Type}(xs:DX κ):xs.kv.map (·.1)=xs.map (·.1):=by unfold DX.kv;rw[KZ];rfl
theorem QAt.ne (G:QAt C H q ap last xp)(i:InD ap xp c):c≠q:=λe=>by
 obtain⟨dx,hq⟩:=G.ins;rcases i with z|⟨x,hx,z⟩
 .have:=G.piles.root;rw[<- z,e,hq]at this;cases this
 .have:=G.piles.kid x hx;rw[<- z,e,hq]at this;cases this
end
section
variable {K:Oy}{C q ap:Addr}{H:Hp}{last:Int}{xp:DX Key}
theorem u5 (m:Int)(d:Pz.Q Pz.Arr)(l:List (Int×Pz.Arr))(x:Int×Pz.Arr):Pz.addAll am m d (l++[x])=(Pz.addAll am m d l).app (am x.1 m) x:=by unfold Pz.addAll;rw[Mm];rfl
theorem lw (s:Same H H'):KT H H':=λa ws e=>s a _ e
theorem zB (T:QCls K C) (hna:∀(last:Int)(ap:Addr),List.lookup ("add" : Str) ([("last",V.int last),("piles",V.ref ap)]:List (Str×V))=none) (HM:Ip tm) (h:tP C vs H Q E) :
 Im K C tm { nx:=λ_ H'=>Q .non H',rt:=Q } (dh ["self", "pile", "price", "thing"] vs) H:=by
 obtain⟨q,ap,last,xp,d,rfl,G,R,ok,hne,hfew,k⟩:=h;have TK:=Pz.took x_ ok hne;obtain⟨dx,hq⟩:=G.ins;have hap:=G.piles.root;have nqa:q≠ap:=λe=>by rw[e,hap]at hq;cases hq
 refine⟨_,rfl,q,C,dx,_,_,rfl,hq,T.cl,T.np,rfl,ap,rfl,.inl ⟨_,.inl hap⟩,_,rfl,q,C,dx,_,_,rfl,hq,T.cl,T.np,rfl,.inr (.inr (.inl ⟨rfl,.inl ⟨_,hap⟩⟩)),ap,_,rfl,rfl,hap,λv hv=>?_⟩;have hva:ap≠v:=af hap hv;refine⟨v,ap,xp.kv,d.keys,rfl,ac,(by rw[aa hva];exact hap),(by rw[DV,R.keys];rfl),(by intro e;exact hne (List.map_eq_nil_iff.mp e)),?_⟩;rcases R.find kI (Pz.lowK d) with⟨_,_,e⟩|⟨p0,f0,_,a0⟩
 .exact(TK.k2 e).elim
 refine⟨xp.kv,k1 (Pz.lowK d),.ref p0.1,(by rw[aa hva];exact hap),(by rw[ya];rfl),(by rw[jt,f0];rfl),?_⟩;generalize hH2:aB (aB H v (uY v ap)) ap (.dK (lE xp.kv (k1 (Pz.lowK d))))=H2;have kp2:∀ c u,H c=some u->c≠ap->H2 c=some u:=λc u e n=>by rw[<- hH2,aa n,aa (af e hv)];exact e
 obtain⟨D2,l2,n2⟩:=G.piles.drop (λ_ _ z=>HO.noConfusion z) f0 (by rw[<- hH2,ac]) kp2;have kt2:KT H H2:=λc ws e=>kp2 c _ e λz=>by rw[z,hap]at e;cases e
 have q2:=kp2 _ _ hq nqa;have i0:=a0.mono (IsItem.keep kt2);have hsub:∀ c,InD ap (kH xp (k1 (Pz.lowK d))) c->InD ap xp c:=λc i=>i.imp id λ⟨x,hx,e⟩=>⟨x,(LD.mp hx).1,e⟩;have in0:InD ap xp p0.1:=.inr ⟨_,dt f0,rfl⟩;have hlen0:(d.get (Pz.lowK d)).length<16000000:=Ls (Pz.oQ d _) hfew;refine HM _ H2 p0.1 p0.2 (d.get (Pz.lowK d)) _ rfl l2 i0 TK.k2 hlen0 λH3 s3=>?_;refine⟨_,rfl,q,C,dx,_,rfl,s3 _ _ q2,T.cl,T.nl,(by show 2<1000;decide),?_⟩;generalize hH4:aB H3 q (.ins C dx (jh "last" (.int (Pz.lo ((d.get (Pz.lowK d)).map (·.1)))) [("last",.int last),("piles",.ref ap)]))=H4;have kp4:∀ c u,H2 c=some u->c≠q->H4 c=some u:=λc u e n=>by rw[<- hH4,aa n];exact s3 c u e
 have q4:H4 q=some (.ins C dx [("last",.int (Pz.lowP d)),("piles",.ref ap)]):=by rw[<- hH4,ac];rfl
 have D4:DL .dK H4 ap (kH xp (k1 (Pz.lowK d))):=D2.keep λc u e i=>kp4 c u e (G.ne (hsub c i));have kt4:KT H2 H4:=λc ws e=>kp4 c _ e λz=>by rw[z,q2]at e;cases e
 have l4:H4 p0.1=some (.lst p0.2):=kp4 _ _ l2 (G.ne in0);have o1:Pz.QOk am (Pz.lowP d) (d.drop (Pz.lowK d))/\∀ y∈d.get (Pz.lowK d),Pz.lowP d<=y.1:=by refine⟨?_,λy hy=>Pz.Br (KH.mpr ⟨y,hy,rfl⟩)⟩;exact TK.o1
 have fl:∀ i,((Pz.addAll am (Pz.lowP d) (d.drop (Pz.lowK d)) ((d.get (Pz.lowK d)).take i))).flat.length<=d.flat.length:=λi=>by rw[(Pz.kE o1.1.ok).length_eq,KI,(Pz.nI ok.ok.nk (Pz.lowK d)).length_eq,KI];have:=List.length_take_le i (d.get (Pz.lowK d));have:=Nj i (d.get (Pz.lowK d));lia
 have okI:∀ i,(Pz.addAll am (Pz.lowP d) (d.drop (Pz.lowK d)) ((d.get (Pz.lowK d)).take i)).Ok:=λi=>(o1.1.addAll λx hx=>o1.2 x (List.mem_of_mem_take hx)).ok;refine⟨_,rfl,p0.1,rfl,⟨_,SqL.of l4⟩,ui (K:=K) (a:=p0.1) (xs:=p0.2) (λi σ H5=>(∃ u v,σ=[some (.ref q),some (.ref p0.1),u,v])/\∃ xi,QAt C H5 q ap (Pz.lowP d) xi/\RepM k1 IsItem H5 (Pz.addAll am (Pz.lowP d) (d.drop (Pz.lowK d)) ((d.get (Pz.lowK d)).take i)) xi/\
  H5 p0.1=some (.lst p0.2)/\¬ InD ap xi p0.1/\KT H4 H5/\(∀ c,InD ap xi c->InD ap xp c\/H c=none)/\(∀ c u,H c=some u->¬ InD ap xp c->c≠q->H5 c=some u))
  ⟨⟨none,none,rfl⟩,_,⟨⟨dx,q4⟩,D4,?_,?_⟩,?_,l4,n2,λ_ _ e=>e,λc i=>.inl (hsub c i),λc u e n m=>kp4 c u (kp2 c u e λz=>n (.inl z)) m⟩ (λi σ H5 _ ⟨_,xi,_,_,l5,_⟩=>SqL.of l5) ?_ ?_⟩
 .have:=((R.drop kI (Pz.lowK d)).len).symm;have h2:=Pz.js (okI 0);have h3:=fl 0;rw[List.take_zero]at h2 h3;have h4:(Pz.addAll am (Pz.lowP d) (d.drop (Pz.lowK d)) [])=d.drop (Pz.lowK d):=rfl;rw[h4]at h2 h3;lia
 .have h3:=fl 0;rw[List.take_zero]at h3;exact(R.drop kI (Pz.lowK d)).low (Ls h3 hfew)
 .rw[List.take_zero];exact(R.drop kI (Pz.lowK d)).keep λx v hx=>IsItem.keep kt4 _ _ (IsItem.keep kt2 _ _ hx)
 .rintro i y σ H5 hi ⟨⟨u,v',rfl⟩,xi,Gi,Ri,l5,n5,kt5,sub5,kp5⟩;obtain⟨x,hx,p,w,rfl,hp,b,rfl,hb⟩:=i0.get hi;have hp5:=kt5 _ _ (kt4 _ _ hp);have hb5:=kt5 _ _ (kt4 _ _ hb);obtain⟨dy,hq5⟩:=Gi.ins;refine⟨p,_,rfl,SqT.of hp5,rfl,_,_,rfl,_,_,rfl,rfl,?_⟩;refine⟨_,rfl,q,dy,_,rfl,hq5,hna _ _,_,rfl,_,rfl,q,ap,b,Pz.lowP d,x.1,xi,rfl,Gi,?_⟩;intro l p' H6 hl hp' hm hq6 hD6 kp6;have nq6:∀ c u,H5 c=some u->¬ InD ap xi c->H6 c=some u:=kp6;have kt6:KT H5 H6:=Gi.piles.kt (λ_ _ z=>HO.noConfusion z) kp6;have R6:RepM k1 IsItem H6 (Pz.addAll am (Pz.lowP d) (d.drop (Pz.lowK d)) ((d.get (Pz.lowK d)).take (i+1))) (lD xi (.inl (am x.1 (Pz.lowP d))) l (.ref p')):=by rw[MP,hx];show RepM k1 IsItem H6 (Pz.addAll am (Pz.lowP d) _ (_++[x])) _;rw[u5];exact Ri.add kI (IsItem.keep kt6) ⟨p',_,rfl,hm,b,rfl,kt6 _ _ hb5⟩
  refine⟨⟨_,_,rfl⟩,_,⟨hq6,hD6,?_,R6.low (Ls (fl (i+1)) hfew)⟩,R6,kp6 _ _ l5 n5,λz=>?_,λc ws e=>kt6 _ _ (kt5 _ _ e),λc z=>?_,λc u e n m=>?_⟩
  .have:=R6.len;have:=Pz.js (okI (i+1));have:=fl (i+1);lia
  .rcases jU z with z|z
   .exact n5 z
   .rw[z,hl]at l5;cases l5
  .rcases jU z with z|rfl
   .exact sub5 c z
   .by_cases i':InD ap xp c
    .exact .inl i'
    .refine .inr ?_;cases e:H c with
     |none=>rfl
     |some u=>
      by_cases z:c=q
      .rw[z,hq5]at hl;cases hl
      .rw[kp5 c u e i' z]at hl;cases hl
  .exact kp6 _ _ (kp5 c u e n m) λz=>(sub5 c z).elim n λz=>by rw[z]at e;cases e
 .rintro σ H5 ⟨⟨u,v',rfl⟩,xi,Gi,Ri,l5,n5,kt5,sub5,kp5⟩;have eall:(d.get (Pz.lowK d)).take p0.2.length=d.get (Pz.lowK d):=L0 (by rw[i0.len];exact Kq _);rw[eall]at Ri;have Ri:RepM k1 IsItem H5 (Pz.mid am d) xi:=Ri;obtain⟨dy,hq5⟩:=Gi.ins;have ha5:=Gi.piles.root;have nq5:q≠ap:=λe=>by rw[e,ha5]at hq5;cases hq5
  rcases Ri.find kI 0 with⟨_,hh,_⟩|⟨p1,f1,_,a1⟩
  .have:=Pz.has_iff.mpr TK.k3;rw[hh]at this;cases this
  refine⟨_,rfl,q,C,dy,_,_,rfl,hq5,T.cl,T.np,rfl,ap,rfl,.inl ⟨_,.inl ha5⟩,xi.kv,k1 0,.ref p1.1,ha5,rfl,(by rw[jt,f1];rfl),?_⟩;generalize hH6:aB H5 ap (.dK (lE xi.kv (k1 0)))=H6;have kp6:∀ c u,H5 c=some u->c≠ap->H6 c=some u:=λc u e n=>by rw[<- hH6,aa n];exact e
  obtain⟨D6,l6,n6⟩:=Gi.piles.drop (λ_ _ z=>HO.noConfusion z) f1 (by rw[<- hH6,ac]) kp6;have kt6:KT H5 H6:=λc ws e=>kp6 c _ e λz=>by rw[z,ha5]at e;cases e
  have R6:RepM k1 IsItem H6 (Pz.left am d) (kH xi (k1 0)):=(Ri.drop kI 0).keep (IsItem.keep kt6);have sub6:∀ c,InD ap (kH xi (k1 0)) c->InD ap xi c:=λc i=>i.imp id λ⟨x,hx,e⟩=>⟨x,(LD.mp hx).1,e⟩;have in1:InD ap xi p1.1:=.inr ⟨_,dt f1,rfl⟩;have fl6:(Pz.left am d).flat.length<=d.flat.length:=by rw[TK.pm.length_eq,KI];lia
  refine k p1.1 p1.2 _ H6 ⟨⟨dy,kp6 _ _ hq5 nq5⟩,D6,?_,R6.low (Ls fl6 hfew)⟩ R6 l6 (a1.mono (IsItem.keep kt6)) n6 (sub5 _ in1) (λc z=>sub5 c (sub6 c z)) λc u e n m=>kp6 _ _ (kp5 c u e n m) λz=>n (.inl z);have:=R6.len;have:=Pz.js TK.ok.ok;lia
end
structure PCls (K:Oy) (C:Addr):Prop where
 cl:Cls K C
 nr:NoAttr K C "rules"
 nt:NoAttr K C "told"
 no:NoAttr K C "offers"
 ns:NoAttr K C "settled"
 nl:NoAttr K C "lacking"
theorem JU (A:PA):(pf A).lookup ("rules" : Str)=some (V.ref A.ar):=rfl
theorem DW (A:PA):(pf A).lookup ("told" : Str)=some (V.ref A.ta):=rfl
theorem GA (A:PA):(pf A).lookup ("offers" : Str)=some (V.ref A.aq):=rfl
theorem Iq (A:PA):(pf A).lookup ("settled" : Str)=some (V.ref A.sa):=rfl
theorem Ir (A:PA):(pf A).lookup ("lacking" : Str)=some (V.ref A.la):=rfl
theorem GB (A:PA) (last:Int):(qf A last).lookup ("add" : Str)=none:=rfl
section
variable {K:Oy}{CP CQ:Addr}{B H:Hp}{A:PA}{rs:Pz.RS}{S:Pz.PS}{xs xl xr:DX (List Key)}
theorem Bw (cl:Cls K C)(n:NoAttr K C f)(h0:σ[0]?=some (some (.ref o)))(hi:∃ dx,H o=some (.ins C dx fs))(hl:fs.lookup f=some v):sk (iS K (aw 0) f) σ H v:=λQ q=>by obtain⟨dx,hi⟩:=hi;exact⟨_,h0,o,C,dx,_,_,rfl,hi,cl,n,hl,q⟩
def jn (CP CQ:Addr):Sp:=λvs H Q _=>∃(B:Hp)(A:PA)(rs:Pz.RS)(S:Pz.PS)(xs xl xr:DX (List Key))(b:Addr)(a:Pz.Arr)(p:Int)(n m:Option Int),vs=[.ref A.o,.ref b,.int p,vO n,vO m]/\PAt CP CQ B H A rs S xs xl xr/\H b=some (.tup (arrV a))/\Pz.Fit (Pz.offer am S a p n m)/\
 ∀ H',PAt CP CQ B H' A rs (Pz.offer am S a p n m) xs xl xr->Q .non H'
def Iu:R2:=λx y H Q=>y=.non/\Q (.bl (decide (x=.non))) H
theorem GC:OpR X (compareOp .Is) Iu:=FR
def Kk:R2:=yK λi j=>.bl (decide (i<j))
def GD (K:Oy)(CQ:Addr):TS:=
 gA (o9 (Aw (iS K (aw 0) "told") (aw 1)) (bv 5))
 (yH (J5 (nV (m5 Iu (aw 5) (tC .non))) (nV (m5 Kk (aw 2) (m5 (qQ K) (aw 5) (tC (.int 0))))))
   (gA (Ap (iS K (aw 0) "told") (aw 1) (ke (au (aw 2) (au (aw 3) (au (aw 4) bq)))))
     (f_ (iT CQ "add" (sn CQ) [] E0 (iS K (aw 0) "offers") (au (aw 2) (au (aw 1) bq)))))
   uf)
theorem u6 (h:jn CP CQ vs H Q E):vs.length=5:=by obtain⟨_,_,_,_,_,_,_,_,_,_,_,_,rfl,_⟩:=h;rfl
theorem wW (TP:PCls K CP) (TQ:QCls K CQ) (h:jn CP CQ vs H Q E):GD K CQ { nx:=λ_ H'=>Q .non H',rt:=Q } (dh ["self", "arrow", "price", "number", "mid", "known"] vs) H:=by
 obtain⟨B,A,rs,S,xs,xl,xr,b,a,p,n,m,rfl,⟨xp,kt,col,P⟩,hb,fit,k⟩:=h;obtain⟨dx,hi⟩:=P.po.ins;have ht:=P.po.td;have g:DGet H A.ta (.ref b) (fS kt (ak a)):=DGet.t ht hb;refine⟨_,rfl,A.o,CP,dx,_,_,rfl,hi,TP.cl,TP.nt,DW A,A.ta,rfl,.inr ⟨_,.inl ht⟩,_,rfl,_,g,?_⟩;have take:Pz.jF S a p=true->∀ w,gA (Ap (iS K (aw 0) "told") (aw 1) (ke (au (aw 2) (au (aw 3) (au (aw 4) bq)))))
  (f_ (iT CQ "add" (sn CQ) [] E0 (iS K (aw 0) "offers") (au (aw 2) (au (aw 1) bq)))) { nx:=λ_ H'=>Q .non H',rt:=Q } [some (.ref A.o),some (.ref b),some (.int p),some (vO n),some (vO m),some w] H:=by
  intro tk w;have eo:Pz.offer am S a p n m=Pz.lQ am S a p n m:=by unfold Pz.offer;rw[Ku tk]
  rw[eo]at fit k;refine⟨_,rfl,_,rfl,_,rfl,(by show 3<=sizeLine;decide),λt ht'=>?_⟩;have s1:Same H (aB H t (.tup [.int p,vO n,vO m])):=aE ht';have P1:=P.more s1;have hl:kt.length<sizeLine:=by have e1:S.told.length=kt.length:=P.po.tr.len;have e2:=fit.t;have e3:=(Pz.uV S.told a (p,n,m)).1;have e4:(Pz.lQ am S a p n m).told=Pz.tput S.told a (p,n,m):=rfl;rw[e4]at e2;rw[Mi];unfold Pz.L at e2;lia
  refine⟨_,rfl,A.o,CP,dx,_,_,rfl,s1 _ _ hi,TP.cl,TP.nt,DW A,_,rfl,A.ta,_,rfl,DPut.t (k:=ak a) (s1 _ _ ht) (s1 _ _ hb) hl,?_⟩;have P2:=P1.tell (a:=a) (x:=(p,n,m)) (p:=t) ac;have hb2:aB (aB H t (.tup [.int p,vO n,vO m])) A.ta (.dT (cf kt (ak a) (.ref t))) b=some (.tup (arrV a)):=by rw[aa (λz=>by rw[z,ht]at hb;cases hb)];exact s1 _ _ hb
  generalize aB (aB H t (.tup [.int p,vO n,vO m])) A.ta (.dT (cf kt (ak a) (.ref t)))=H2 at P2 hb2;obtain⟨dx2,hi2⟩:=P2.po.ins;obtain⟨dy2,hq2⟩:=P2.po.que;have fitp:=fit.p;have fitf:=fit.pf;have al:=Pz.iO S.piles (am p S.last) (p,a);have e5:(Pz.lQ am S a p n m).piles=S.piles.app (am p S.last) (p,a):=rfl;rw[e5]at fitp fitf;unfold Pz.L at fitp fitf;have pr2:RepM k1 IsItem H2 S.piles xp:=P2.p1.r;refine⟨_,rfl,A.o,CP,dx2,_,_,rfl,hi2,TP.cl,TP.no,GA A,A.aq,dy2,_,rfl,hq2,GB A _,_,rfl,_,rfl,A.aq,A.ap,b,S.last,p,xp,rfl,⟨⟨dy2,hq2⟩,P2.p1.d,by rw[<- pr2.len];lia,pr2.low (by lia)⟩,?_⟩;intro l p' H3 hl3 hp3 hm3 hq3 hd3 kp3;refine k H3 ⟨_,_,_,P2.pile hd3 (pr2.add kI (IsItem.keep (P2.p1.d.kt (λ_ _ z=>HO.noConfusion z) kp3)) ⟨p',_,rfl,hm3,b,rfl,?_⟩) (λc z=>(jU z).imp id λz=>by rw[z];exact hl3) kp3⟩;exact P2.p1.d.kt (λ_ _ z=>HO.noConfusion z) kp3 _ _ hb2
 have skip:¬ Pz.jF S a p=true->Q .non H:=λtk=>by
  have eo:Pz.offer am S a p n m=S:=by unfold Pz.offer;rw[Kv tk]
  rw[eo]at k;exact k H ⟨xp,kt,col,P⟩
 rcases P.po.tr.find a with⟨e1,e2⟩|⟨v,x,e1,e2,q,rfl,hq⟩
 .-- not told yet
  rw[e1];refine⟨_,rfl,rfl,_,rfl,?_⟩;exact take (by unfold Pz.jF;rw[e2]) _
 .rw[e1];refine⟨_,rfl,rfl,_,rfl,?_⟩;refine⟨_,rfl,_,rfl,q,_,0,_,rfl,rfl,SqT.of hq,rfl,p,x.1,rfl,rfl,_,rfl,?_⟩;refine Ay (λh=>?_) (λh=>?_)
  .exact take (by unfold Pz.jF;rw[e2];exact h) _
  .exact skip λz=>by unfold Pz.jF at z;rw[e2]at z;exact absurd z (by simpa using h)
end
section
variable {K:Oy}{CP CQ:Addr}{B H:Hp}{A:PA}{rs:Pz.RS}{S:Pz.PS}{xs xl xr:DX (List Key)}{xp:DX Key}{kt:List (List Key×V)}{col:Addr->Nat}
theorem PCore.obj (P:PCore CP CQ B H A rs S xs xl xr xp kt col)(hz:H z=none):¬ InD A.ap xp z/\¬ InD A.sa xs z/\¬ InD A.la xl z/\¬ InD A.ar xr z/\z≠A.ta/\z≠A.o/\z≠A.aq:=by
 refine⟨λi=>P.p1.d.obj i hz,λi=>P.p2.d.obj i hz,λi=>P.p3.d.obj i hz,λi=>P.p4.d.obj i hz,λe=>?_,λe=>?_,λe=>?_⟩
 .rw[e,P.po.td]at hz;cases hz
 .obtain⟨_,h⟩:=P.po.ins;rw[e,h]at hz;cases hz
 .obtain⟨_,h⟩:=P.po.que;rw[e,h]at hz;cases hz
theorem tQ {α:Type}{it:Hp->α->V->Prop}(hk:∀ H H',KT H H'->∀ x v,it H x v->it H' x v){a:Addr}{f:Str}{ys:DX (List Key)}{d:Pz.MD (Int×Int) α}(P:PCore CP CQ B H A rs S xs xl xr xp kt col)(hD:DL .dT H a ys)(hR:RepM k2 it H d ys)
 (cl:Cls K CP) (nf:NoAttr K CP f) (hf:(pf A).lookup f=some (V.ref a)) {σ:L2.St} {j:Nat} {b:Addr} {k:Int×Int} (h0:σ[0]?=some (some (.ref A.o))) (hj:σ[j]?=some (some (.ref b))) (hb:H b=some (.tup [.int k.1,.int k.2])) {Q:VK}
 (kk:∀(l:Addr)(vs:List V)(B1 H1:Hp),Same H H1->Same B B1->KT H1 B1->PCore CP CQ B1 H1 A rs S xs xl xr xp kt col->H1 l=some (.lst vs)->(∀ H2,Same B1 H2->DL .dT H2 a ys->H2 l=some (.lst vs)/\All2 (it H2) (d.get k) vs)->Q (.ref l) H1) :
 pE (iS K (aw 0) f) (aw j) (wc bq) σ H Q:=by
 obtain⟨dx,hi⟩:=P.po.ins;refine⟨_,h0,A.o,CP,dx,_,_,rfl,hi,cl,nf,hf,a,rfl,.inr ⟨_,.inl hD.root⟩,_,hj,LF _,λz hz=>?_⟩;have s1:Same H (aB H z (.lst [])):=aE hz;have hb1:aB H z (.lst []) b=some (.tup ((k2 k).map kV)):=s1 _ _ hb;refine⟨_,DGet.t (s1 _ _ hD.root) hb1,?_⟩;have P1:=P.more s1;rcases hR.find nL k with⟨f1,f2,f3⟩|⟨p,f1,f2,f3⟩
 .rw[jt,f1];obtain⟨B1,w1,w2,w3,w4⟩:=P1.wide (λc=>c=z) λc e=>by subst e;exact P.obj hz
  refine kk z [] B1 _ s1 w1 w2 w4 ac λH2 s2 _=>⟨s2 _ _ (w3 z _ rfl ac),?_⟩;rw[f3];exact .nil
 .rw[jt,f1];obtain⟨B1,w1,w2,w3,w4⟩:=P1.wide (λ_=>False) λ_ e=>e.elim;refine kk p.1 p.2 B1 _ s1 w1 w2 w4 (s1 _ _ (hD.kid _ (dt f1))) λH2 s2 D2=>⟨D2.kid _ (dt f1),f3.mono (hk _ _ λc ws e=>s2 _ _ (w2 _ _ (s1 _ _ e)))⟩
theorem jH {tb:TS}{D:Ends}{σ:L2.St}(h:tl σ H λx H1=>∃ a,x=.ref a/\(∃ xs,SqL K H1 a xs)/\∃ W:Nat->Nat->L2.St->Hp->Prop,(∃ m,W 0 m σ H1)/\∀ i m σ H,W i m σ H->
 ((vY K a).stop i H/\D.nx σ H)\/((vY K a).go i H/\∃ N:L2.St->Hp->Prop,(∀ σ' H',N σ' H'->∃ m',m'<m/\W (i+1) m' σ' H')/\∀ x H',(vY K a).yld i H x H'->g x σ H' λσ2 H2=>tb { D with nx:=N,ct:=N,bk:=D.nx } σ2 H2)):ou (lZ K tl) g tb D σ H:=h
theorem yb {α:Type}{it:Hp->α->V->Prop}{l:Addr}{vs:List V}{its:List α}{g:TG}{tb:TS}{D:Ends}{σ:L2.St}{H1:Hp}(Sh:L2.St->Prop)(step:Pz.PS->α->Pz.PS)(S0:Pz.PS)(W:Pz.PS->Hp->Prop)(h0:Sh σ)(h1:W S0 H1)
 (hW:∀ S H,W S H->Rd H l (.lst vs)/\All2 (it H) its vs)
 (hb:∀(i:Nat)(x:α)(v:V)(σ:L2.St)(H:Hp),its[i]?=some x->it H x v->Sh σ->W ((its.take i).foldl step S0) H->
   g v σ H λσ2 H2=>tb { D with nx:=λσ' H'=>Sh σ'/\W (step ((its.take i).foldl step S0) x) H',ct:=λσ' H'=>Sh σ'/\W (step ((its.take i).foldl step S0) x) H',bk:=D.nx } σ2 H2)
 (hd:∀ σ H,Sh σ->W (its.foldl step S0) H->D.nx σ H) :
 ∃ W:Nat->Nat->L2.St->Hp->Prop,(∃ m,W 0 m σ H1)/\∀ i m σ H,W i m σ H->
  ((vY K l).stop i H/\D.nx σ H)\/((vY K l).go i H/\∃ N:L2.St->Hp->Prop,(∀ σ' H',N σ' H'->∃ m',m'<m/\W (i+1) m' σ' H')/\∀ x H',(vY K l).yld i H x H'->g x σ H' λσ2 H2=>tb { D with nx:=N,ct:=N,bk:=D.nx } σ2 H2):=by
 have aR:its.length=vs.length:=(hW _ _ h1).2.len;refine ui (K:=K) (a:=l) (xs:=vs) (λi σ H=>Sh σ/\W ((its.take i).foldl step S0) H) ⟨h0,h1⟩ (λi σ H _ ⟨_,w⟩=>Or.inl (hW _ _ w).1) (λi v σ H hi ⟨s,w⟩=>?_) λσ H ⟨s,w⟩=>?_
 .obtain⟨x,hx,ix⟩:=(hW _ _ w).2.get hi;have e:(its.take (i+1)).foldl step S0=step ((its.take i).foldl step S0) x:=by rw[MP,hx,Mm];rfl
  rw[e];exact hb i x v σ H hx ix s w
 .rw[L0 (by lia)]at w;exact hd σ H s w
theorem tR {α:Type}{it:Hp->α->V->Prop}{l:Addr}{vs:List V}{its:List α}{g:TG}{tb:TS}{D:Ends}{σ:L2.St}{H1:Hp}(Sh:L2.St->Prop)(step:Pz.PS->α->Pz.PS)(S0:Pz.PS)(W:Pz.PS->Hp->Prop)(h0:Sh σ)(h1:W S0 H1)
 (hW:∀ S H,W S H->H l=some (.lst vs)/\All2 (it H) its vs)
 (hb:∀(i:Nat)(x:α)(v:V)(σ:L2.St)(H:Hp),its[i]?=some x->it H x v->Sh σ->W ((its.take i).foldl step S0) H->
   g v σ H λσ2 H2=>tb { D with nx:=λσ' H'=>Sh σ'/\W (step ((its.take i).foldl step S0) x) H',ct:=λσ' H'=>Sh σ'/\W (step ((its.take i).foldl step S0) x) H',bk:=D.nx } σ2 H2)
 (hd:∀ σ H,Sh σ->W (its.foldl step S0) H->D.nx σ H) :
 ∃ W:Nat->Nat->L2.St->Hp->Prop,(∃ m,W 0 m σ H1)/\∀ i m σ H,W i m σ H->
  ((vY K l).stop i H/\D.nx σ H)\/((vY K l).go i H/\∃ N:L2.St->Hp->Prop,(∀ σ' H',N σ' H'->∃ m',m'<m/\W (i+1) m' σ' H')/\∀ x H',(vY K l).yld i H x H'->g x σ H' λσ2 H2=>tb { D with nx:=N,ct:=N,bk:=D.nx } σ2 H2):=
 yb Sh step S0 W h0 h1 (λS H w=>⟨.inl (hW S H w).1,(hW S H w).2⟩) hb hd
theorem jI {α:Type}{step:Pz.PS->α->Pz.PS}(hg:∀ S x,Pz.Grow S (step S x)){its:List α}{S0:Pz.PS}(h:Pz.Fit (its.foldl step S0)){i:Nat}{x:α}(hx:its[i]?=some x):Pz.Fit (step ((its.take i).foldl step S0) x):=by
 have e:(its.take (i+1)).foldl step S0=step ((its.take i).foldl step S0) x:=by rw[MP,hx,Mm];rfl
 rw[<- e];refine Pz.Grow.fit (Pz.di step hg (its.drop (i+1)) _) ?_;rw[<- Mm,List.take_append_drop];exact h
def u7:R2:=yK λi j=>.int (i+j)
def oV (CP CQ:Addr):Sp:=λvs H Q _=>∃(B:Hp)(A:PA)(rs:Pz.RS)(S:Pz.PS)(xs xl xr:DX (List Key))(c:Addr)(r:Pz.Rule)(num mid price:Int),vs=[.ref A.o,.int num,.ref c,.int mid,.int price]/\PAt CP CQ B H A rs S xs xl xr/\IsRule H r (.ref c)/\2<=r.2.2.2.length/\Pz.Fit (Pz.first am S num r mid price)/\
 ∀ H' xl',PAt CP CQ B H' A rs (Pz.first am S num r mid price) xs xl' xr->Q .non H'
def GE (K:Oy)(CP CQ:Addr):TS:=
 gA (o9 (ke (au (aw 3) (au (m5 (qQ K) (m5 (qQ K) (aw 2) (tC (.int 3))) (tC (.int 1))) bq))) (bv 5))
 (gA (f_ (oh K (iS K (aw 0) "lacking") (aw 5) (ke (au (aw 1) (au (aw 2) (au (aw 4) bq))))))
 (ou (lZ K (pE (iS K (aw 0) "settled") (aw 5) (wc bq))) (o8 K 2 (dG (bv 6) (dG (bv 7) o7)))
   (f_ (iT CP "offer" (jn CP CQ) [] E0 (aw 0) (au (ke (au (m5 (qQ K) (aw 2) (tC (.int 0))) (au (m5 (qQ K) (aw 2) (tC (.int 1))) (au (aw 6) bq))))
     (au (m5 u7 (m5 u7 (aw 4) (aw 7)) (tC (.int 1))) (au (aw 1) (au (aw 3) bq))))))))
theorem u9 (h:oV CP CQ vs H Q E):vs.length=5:=by obtain⟨_,_,_,_,_,_,_,_,_,_,_,_,rfl,_⟩:=h;rfl
theorem kJ (A:PA):(pf A).lookup ("offer" : Str)=none:=rfl
theorem DY {l:List Int}(h:2<=l.length):(l.map V.int)[1]?=some (.int (Pz.nth1 l)):=by
 match l,h with
 |x::y::_,_=>rfl
theorem wX {vs:List V} (TP:PCls K CP) (h:oV CP CQ vs H Q E):GE K CP CQ { nx:=λ_ H'=>Q .non H',rt:=Q } (dh ["self", "number", "rule", "mid", "price", "start", "state", "second"] vs) H:=by
 obtain⟨B,A,rs,S,xs,xl,xr,c,r,num,mid,price,rfl,⟨xp,kt,col,P⟩,⟨_,q,ec,hr,hq⟩,h2,fit,k⟩:=h;cases ec;refine⟨_,rfl,_,rfl,c,_,3,_,rfl,rfl,SqT.of hr,rfl,q,_,1,_,rfl,rfl,SqT.of hq,xB (j:=1) (DY h2),(by show 2<=sizeLine;decide),λb hb=>?_⟩;have s1:Same H (aB H b (.tup [.int mid,.int (Pz.nth1 r.2.2.2)])):=aE hb;have P1:=P.more s1;have hbb:aB H b (.tup [.int mid,.int (Pz.nth1 r.2.2.2)]) b=some (.tup [.int mid,.int (Pz.nth1 r.2.2.2)]):=ac;have hr1:=s1 _ _ hr;have hq1:=s1 _ _ hq;generalize aB H b (.tup [.int mid,.int (Pz.nth1 r.2.2.2)])=H1 at s1 P1 hbb hr1 hq1;have fitL:Pz.Fit (Pz.lack S num r mid price):=Pz.Grow.fit (Pz.di _ (λS x=>Pz.cX S _ _ _ _) _ _) fit;have f1:=fitL.l;have f2:=fitL.lf;have al:=Pz.iO S.lacking (mid,Pz.nth1 r.2.2.2) (num,r,price);have e5:(Pz.lack S num r mid price).lacking=S.lacking.app (mid,Pz.nth1 r.2.2.2) (num,r,price):=rfl;rw[e5]at f1 f2;unfold Pz.L at f1 f2;have lr1:RepM k2 IsLack H1 S.lacking xl:=P1.p3.r;refine oS (a:=A.la) (b:=b) (xs:=xl) (k:=k2 (mid,Pz.nth1 r.2.2.2)) (ws:=[.int num,.ref c,.int price]) P1.p3.d (Bw TP.cl TP.nl rfl P1.po.ins (Ir A)) (λQ q=>⟨_,rfl,q⟩) hbb (λH' _ Q q=>⟨_,rfl,_,rfl,_,rfl,(by show 3<=sizeLine;decide),q⟩) (by rw[<- lr1.len];lia) (lr1.low (by lia)) ?_;intro l p H2 hl hp hm hd kp;have kt2:=P1.p3.d.kt (λ_ _ z=>HO.noConfusion z) kp;have P2:=P1.lack hd (lr1.add (k:=(mid,Pz.nth1 r.2.2.2)) (v:=(num,r,price)) nL (IsLack.keep kt2) ⟨p,_,rfl,hm,c,q,rfl,kt2 _ _ hr1,kt2 _ _ hq1⟩) (λc z=>(jU z).imp id λz=>by rw[z];exact hl) kp;have P2:PCore CP CQ B H2 A rs (Pz.lack S num r mid price) xs _ xr _ _ _:=P2;dsimp only;refine jH ?_;refine tQ (λH H' k=>IsSet.keep k) P2 P2.p2.d P2.p2.r TP.cl TP.ns (Iq A) (j:=5) (k:=(mid,Pz.nth1 r.2.2.2)) (by rfl) (by rfl) (kt2 _ _ hbb) λl' vs' B1 H3 s3 b1 w3 P3 hl3 hkk=>?_;refine⟨l',rfl,⟨_,SqL.of hl3⟩,tR (it:=IsSet) (vs:=vs') (its:=S.settled.get (mid,Pz.nth1 r.2.2.2)) (λσ=>∃ u v,σ=[some (.ref A.o),some (.int num),some (.ref c),some (.int mid),some (.int price),some (.ref b),u,v])
  (λS x=>Pz.offer am S (r.1,r.2.1,x.1) (price+x.2+1) (some num) (some mid)) (Pz.lack S num r mid price) (λT H4=>∃ xl',PAt CP CQ B1 H4 A rs T xs xl' xr) ⟨none,none,rfl⟩ ⟨_,_,_,_,P3⟩ ?_ ?_ ?_⟩
 .rintro T H4 ⟨xl',xp4,kt4,col4,P4⟩;exact hkk H4 P4.same P4.p2.d
 .rintro i ⟨st,sec⟩ v σ H4 hi ⟨t,rfl,ht⟩ ⟨u,w,rfl⟩ ⟨xl',P4⟩;have k4:KT H3 H4:=λa ws e=>P4.same _ _ (w3 _ _ e);have hr4:=k4 _ _ (s3 _ _ (kt2 _ _ hr1));refine⟨t,_,rfl,SqT.of ht,rfl,_,_,rfl,_,_,rfl,rfl,?_⟩;have P4':=P4;obtain⟨xp4,kt4,col4,Q4⟩:=P4';obtain⟨dx4,hi4⟩:=Q4.po.ins;refine⟨_,rfl,A.o,dx4,_,rfl,hi4,kJ A,_,rfl,c,_,0,_,rfl,rfl,SqT.of hr4,rfl,_,rfl,c,_,1,_,rfl,rfl,SqT.of hr4,rfl,_,rfl,(by show 3<=sizeLine;decide),λtt htt=>?_⟩;refine⟨_,rfl,_,rfl,_,_,rfl,rfl,_,_,rfl,rfl,_,rfl,_,rfl,?_⟩;refine⟨B1,A,rs,_,xs,xl',xr,tt,(r.1,r.2.1,st),price+sec+1,some num,some mid,rfl,P4.more (aE htt),ac,jI (λS x=>Pz.cX S _ _ _ _) fit hi,λH5 P5=>⟨⟨_,_,rfl⟩,xl',P5⟩⟩
 .rintro σ H4 _ ⟨xl',P4⟩;exact k H4 xl' (P4.less b1)
def yc (K:Oy):List V->Hp->VK->Prop:=λxs H Q=>∃ p ys,xs=[.ref p]/\(SqL K H p ys\/SqT K H p ys)/\Q (.int ys.length) H
theorem nM:CallR X (.builtin "len") (yc X.K):=call_len_seq
abbrev tI (K:Oy)(i:Nat)(n:Int):TE:=m5 (qQ K) (aw i) (tC (.int n))
def GF (rs:Pz.RS):Prop:=∀ k x,x∈rs.get k->1<=x.2.2.2.2.length
def mB (CP CQ:Addr):Sp:=λvs H Q _=>∃(B:Hp)(A:PA)(rs:Pz.RS)(S:Pz.PS)(xs xl xr:DX (List Key))(b:Addr)(a:Pz.Arr)(price:Int),vs=[.ref A.o,.ref b,.int price]/\PAt CP CQ B H A rs S xs xl xr/\H b=some (.tup (arrV a))/\GF rs/\Pz.Fit (Pz.settle am rs S a price)/\
 ∀ H' xs' xl',PAt CP CQ B H' A rs (Pz.settle am rs S a price) xs' xl' xr->Q .non H'
def DZ (K:Oy)(CP CQ:Addr):TS:=
 gA (o9 (ke (au (tI K 1 0) (au (tI K 1 1) bq))) (bv 3))
 (gA (f_ (oh K (iS K (aw 0) "settled") (aw 3) (ke (au (tI K 1 2) (au (aw 2) bq)))))
 (gA (ou (lZ K (pE (iS K (aw 0) "lacking") (aw 3) (wc bq))) (o8 K 3 (dG (bv 4) (dG (bv 5) (dG (bv 6) o7))))
   (f_ (iT CP "offer" (jn CP CQ) [] E0 (aw 0) (au (ke (au (tI K 5 0) (au (tI K 5 1) (au (tI K 1 2) bq)))) (au (m5 u7 (m5 u7 (aw 6) (aw 2)) (tC (.int 1))) (au (aw 4) (au (tI K 1 0) bq)))))))
 (ou (lZ K (pE (iS K (aw 0) "rules") (aw 3) (wc bq))) (o8 K 2 (dG (bv 4) (dG (bv 5) o7)))
   (yH (nV (m5 Hw (ER (yc K) (au (tI K 5 3) bq)) (tC (.int 1))))
     (f_ (iT CP "offer" (jn CP CQ) [] E0 (aw 0) (au (ke (au (tI K 5 0) (au (tI K 5 1) (au (tI K 1 2) bq)))) (au (m5 u7 (aw 2) (tC (.int 1))) (au (aw 4) (au (tC .non) bq))))))
     (f_ (iT CP "settle_first" (oV CP CQ) [] E0 (aw 0) (au (aw 4) (au (aw 5) (au (tI K 1 2) (au (aw 2) bq))))))))))
theorem tS (h:mB CP CQ vs H Q E):vs.length=3:=by obtain⟨_,_,_,_,_,_,_,_,_,_,rfl,_⟩:=h;rfl
theorem Bx (A:PA):(pf A).lookup ("settle_first" : Str)=none:=rfl
theorem u_ (TP:PCls K CP) (h:mB CP CQ vs H Q E):DZ K CP CQ { nx:=λ_ H'=>Q .non H',rt:=Q } (dh ["self", "arrow", "price", "start", "number", "rule", "first"] vs) H:=by
 obtain⟨B,A,rs,S,xs,xl,xr,b0,a,price,rfl,⟨xp,kt,col,P⟩,ha,rok,fit,k⟩:=h;refine⟨_,rfl,b0,_,0,_,rfl,rfl,SqT.of ha,rfl,_,rfl,b0,_,1,_,rfl,rfl,SqT.of ha,rfl,(by show 2<=sizeLine;decide),λb hb=>?_⟩;have s1:Same H (aB H b (.tup [.int a.1,.int a.2.1])):=aE hb;have P1:=P.more s1;have hbb:aB H b (.tup [.int a.1,.int a.2.1]) b=some (.tup [.int a.1,.int a.2.1]):=ac;have ha1:=s1 _ _ ha;generalize aB H b (.tup [.int a.1,.int a.2.1])=H1 at s1 P1 hbb ha1;have g2:Pz.Grow ((S.lacking.get (a.1,a.2.1)).foldl (Pz.my am a price) (Pz.note S a price)) (Pz.settle am rs S a price):=Pz.di _ (Pz.lR a price) _ _;have fit1:Pz.Fit ((S.lacking.get (a.1,a.2.1)).foldl (Pz.my am a price) (Pz.note S a price)):=g2.fit fit;have fitN:Pz.Fit (Pz.note S a price):=Pz.Grow.fit (Pz.di _ (λS x=>Pz.cX S _ _ _ _) _ _) fit1;have f1:=fitN.s;have f2:=fitN.sf;have al:=Pz.iO S.settled (a.1,a.2.1) (a.2.2,price);have e5:(Pz.note S a price).settled=S.settled.app (a.1,a.2.1) (a.2.2,price):=rfl;rw[e5]at f1 f2;unfold Pz.L at f1 f2;have sr1:RepM k2 IsSet H1 S.settled xs:=P1.p2.r;refine oS (a:=A.sa) (b:=b) (xs:=xs) (k:=k2 (a.1,a.2.1)) (ws:=[.int a.2.2,.int price]) P1.p2.d (Bw TP.cl TP.ns rfl P1.po.ins (Iq A)) (λQ q=>⟨_,rfl,q⟩) hbb (λH' kp Q q=>⟨_,rfl,b0,_,2,_,rfl,rfl,SqT.of (kp _ _ ha1 (λz=>by rw[z,P1.p2.d.root]at ha1;cases ha1)),rfl,_,rfl,(by show 2<=sizeLine;decide),q⟩) (by rw[<- sr1.len];lia) (sr1.low (by lia)) ?_;intro l p H2 hl hp hm hd kp;have kt2:=P1.p2.d.kt (λ_ _ z=>HO.noConfusion z) kp;have P2:=P1.sett hd (sr1.add (k:=(a.1,a.2.1)) (v:=(a.2.2,price)) nL (IsSet.keep kt2) ⟨p,rfl,hm⟩) (λc z=>(jU z).imp id λz=>by rw[z];exact hl) kp;have P2:PCore CP CQ B H2 A rs (Pz.note S a price) _ xl xr _ _ _:=P2;generalize lD xs (k2 (a.1,a.2.1)) l (.ref p)=xs2 at P2;have ha2:=kt2 _ _ ha1;dsimp only;refine jH ?_;refine tQ (λH H' k=>IsLack.keep k) P2 P2.p3.d P2.p3.r TP.cl TP.nl (Ir A) (j:=3) (k:=(a.1,a.2.1)) (by rfl) (by rfl) (kt2 _ _ hbb) λl' vs' B1 H3 s3 b1 w3 P3 hl3 hkk=>?_;refine⟨l',rfl,⟨_,SqL.of hl3⟩,tR (it:=IsLack) (vs:=vs') (its:=S.lacking.get (a.1,a.2.1)) (λσ=>∃ u v w,σ=[some (.ref A.o),some (.ref b0),some (.int price),some (.ref b),u,v,w])
  (Pz.my am a price) (Pz.note S a price) (λT H4=>PAt CP CQ B1 H4 A rs T xs2 xl xr) ⟨none,none,none,rfl⟩ ⟨_,_,_,P3⟩ ?_ ?_ ?_⟩
 .rintro T H4 ⟨xp4,kt4,col4,P4⟩;exact hkk H4 P4.same P4.p3.d
 .rintro i ⟨num,r,fst⟩ v σ H4 hi ⟨t,_,rfl,ht,c,q,rfl,hr,hq⟩ ⟨u,w,z,rfl⟩ P4;have k4:KT H3 H4:=λa ws e=>P4.same _ _ (w3 _ _ e);have ha4:=k4 _ _ (s3 _ _ ha2);refine⟨t,_,rfl,SqT.of ht,rfl,_,_,rfl,_,_,rfl,_,_,rfl,rfl,?_⟩;have P4':=P4;obtain⟨xp4,kt4,col4,Q4⟩:=P4';obtain⟨dx4,hi4⟩:=Q4.po.ins;refine⟨_,rfl,A.o,dx4,_,rfl,hi4,kJ A,_,rfl,c,_,0,_,rfl,rfl,SqT.of hr,rfl,_,rfl,c,_,1,_,rfl,rfl,SqT.of hr,rfl,_,rfl,b0,_,2,_,rfl,rfl,SqT.of ha4,rfl,(by show 3<=sizeLine;decide),λtt htt=>?_⟩;have s5:=aE (o:=HO.tup [.int r.1,.int r.2.1,.int a.2.2]) htt;refine⟨_,rfl,_,rfl,_,_,rfl,rfl,_,_,rfl,rfl,_,rfl,_,rfl,b0,_,0,_,rfl,rfl,SqT.of (s5 _ _ ha4),rfl,?_⟩;refine⟨B1,A,rs,_,xs2,xl,xr,tt,(r.1,r.2.1,a.2.2),fst+price+1,some num,some a.1,rfl,P4.more s5,ac,jI (step:=Pz.my am a price) (λS x=>Pz.cX S _ _ _ _) fit1 hi,λH5 P5=>⟨⟨_,_,_,rfl⟩,P5⟩⟩
 .rintro σ H4 ⟨u,w,z,rfl⟩ P4;have k4:KT H3 H4:=λa ws e=>P4.same _ _ (w3 _ _ e);have ha4:=k4 _ _ (s3 _ _ ha2);have hb4:=k4 _ _ (s3 _ _ (kt2 _ _ hbb));obtain⟨xp4,kt4,col4,Q4⟩:=P4;have eS:Pz.settle am rs S a price=(rs.get (a.1,a.2.1)).foldl (Pz.dF am a price) ((S.lacking.get (a.1,a.2.1)).foldl (Pz.my am a price) (Pz.note S a price)):=rfl;rw[eS]at fit k;generalize (S.lacking.get (a.1,a.2.1)).foldl (Pz.my am a price) (Pz.note S a price)=S4 at Q4 fit k;dsimp only;refine jH ?_;refine tQ (λH H' k=>IsNum.keep k) Q4 Q4.p4.d Q4.p4.r TP.cl TP.nr (JU A) (j:=3) (k:=(a.1,a.2.1)) (by rfl) (by rfl) hb4 λl5 vs5 B5 H5 s5 b5 w5 P5 hl5 hk5=>?_;refine⟨l5,rfl,⟨_,SqL.of hl5⟩,tR (it:=IsNum) (vs:=vs5) (its:=rs.get (a.1,a.2.1)) (λσ=>∃ u v w,σ=[some (.ref A.o),some (.ref b0),some (.int price),some (.ref b),u,v,w])
   (Pz.dF am a price) S4 (λT H6=>∃ xl',PAt CP CQ B5 H6 A rs T xs2 xl' xr) ⟨_,_,_,rfl⟩ ⟨_,_,_,_,P5⟩ ?_ ?_ ?_⟩
  .rintro T H6 ⟨xl',xp6,kt6,col6,P6⟩;exact hk5 H6 P6.same P6.p4.d
  .rintro i ⟨num,r⟩ v σ H6 hi ⟨t,_,rfl,ht,c,q,rfl,hr,hq⟩ ⟨u',w',z',rfl⟩ ⟨xl',P6⟩;have k6:KT H5 H6:=λa ws e=>P6.same _ _ (w5 _ _ e);have ha6:=k6 _ _ (s5 _ _ ha4);have aR:1<=r.2.2.2.length:=rok _ _ (Ll hi);have fitT:=jI (step:=Pz.dF am a price) (Pz.lR a price) fit hi;refine⟨t,_,rfl,SqT.of ht,rfl,_,_,rfl,_,_,rfl,rfl,?_⟩;have P6':=P6;obtain⟨xp6,kt6,col6,Q6⟩:=P6';obtain⟨dx6,hi6⟩:=Q6.po.ins;refine⟨_,rfl,c,_,3,_,rfl,rfl,SqT.of hr,rfl,q,_,rfl,.inr (SqT.of hq),rfl,_,rfl,?_⟩;have e1:(V.int (((r.2.2.2.map V.int).length:Nat):Int)=V.int 1)↔r.2.2.2.length=1:=by rw[Kw];exact⟨λe=>by injection e with e;lia,λe=>by rw[e];rfl⟩
   unfold Pz.dF at fitT;unfold Pz.dF;refine Ay (λh=>?_) (λh=>?_)
   .have h1:r.2.2.2.length=1:=e1.mp (KU h);rw[Ku (show((num,r):Int×Pz.Rule).2.2.2.2.length=1 from h1)]at fitT ⊢;refine⟨_,rfl,A.o,dx6,_,rfl,hi6,kJ A,_,rfl,c,_,0,_,rfl,rfl,SqT.of hr,rfl,_,rfl,c,_,1,_,rfl,rfl,SqT.of hr,rfl,_,rfl,b0,_,2,_,rfl,rfl,SqT.of ha6,rfl,(by show 3<=sizeLine;decide),λtt htt=>?_⟩;have s7:=aE (o:=HO.tup [.int r.1,.int r.2.1,.int a.2.2]) htt;refine⟨_,rfl,_,_,rfl,rfl,_,rfl,?_⟩;refine⟨B5,A,rs,_,xs2,xl',xr,tt,(r.1,r.2.1,a.2.2),price+1,some num,none,rfl,P6.more s7,ac,fitT,λH7 P7=>⟨⟨_,_,_,rfl⟩,xl',P7⟩⟩
   .have h1:¬ r.2.2.2.length=1:=λz=>h (Kz (e1.mpr z));rw[Kv (show ¬ ((num,r):Int×Pz.Rule).2.2.2.2.length=1 from h1)]at fitT ⊢;refine⟨_,rfl,A.o,dx6,_,rfl,hi6,Bx A,_,rfl,_,rfl,_,rfl,b0,_,2,_,rfl,rfl,SqT.of ha6,rfl,_,rfl,?_⟩;exact⟨B5,A,rs,_,xs2,xl',xr,c,r,num,a.2.2,price,rfl,P6,⟨c,q,rfl,hr,hq⟩,by lia,fitT,λH7 xl7 P7=>⟨⟨_,_,_,rfl⟩,xl7,P7⟩⟩
  .rintro σ H6 _ ⟨xl',P6⟩;exact k H6 xs2 xl' (P6.less (b1.trans b5))
end
section
variable {K:Oy}{CP CQ:Addr}{B H H':Hp}{A:PA}{rs:Pz.RS}{S:Pz.PS}{xs xl xr:DX (List Key)}{xp:DX Key}{kt:List (List Key×V)}{col:Addr->Nat}
theorem PCore.took (h:PCore CP CQ B H A rs S xs xl xr xp kt col)(h0:∃ dx,H' A.aq=some (.ins CQ dx (qf A m)))(h1:DL .dK H' A.ap xp')(h2:RepM k1 IsItem H' d' xp')(hn:∀ c,InD A.ap xp' c->InD A.ap xp c\/H c=none)
 (kp:∀ c u,H c=some u->¬ InD A.ap xp c->c≠A.aq->H' c=some u):PCore CP CQ B H' A rs { S with last:=m,piles:=d' } xs xl xr xp' kt (tO col 1 H):=by
 obtain⟨dy,hq⟩:=h.po.que;have k:KT H H':=λc ws e=>kp c _ e (λi=>by
  rcases i with rfl|⟨x,hx,rfl⟩
  .rw[h.p1.d.root]at e;cases e
  .rw[h.p1.d.kid x hx]at e;cases e) λz=>by rw[z,hq]at e;cases e
 have kj:∀ c u,H c=some u->col c≠1->col c≠7->H' c=some u:=λc u e n n'=>kp c u e (λi=>n (h.p1.c c i).1) λz=>n' (by rw[z];exact h.po.c7.1);obtain⟨⟨dx,i1⟩,_,i3,i4,c5,c6,c7⟩:=h.po;refine⟨(λc u e=>kp c u (h.same c u e) (λi=>by rw[(h.p1.c c i).2]at e;cases e) λz=>by rw[z,c7.2]at e;cases e),h.p1.new h.same h1 h2 hn,h.p2.keep (IsSet.keep k) (λc u e z=>kj c u e (by lia) (by lia)) λc=>be,h.p3.keep (IsLack.keep k) (λc u e z=>kj c u e (by lia) (by lia)) λc=>be,h.p4.keep (IsNum.keep k) (λc u e z=>kj c u e (by lia) (by lia)) λc=>be,⟨dx,kj _ _ i1 (by lia) (by lia)⟩,h0,kj _ _ i3 (by lia) (by lia),i4.keep k,?_,?_,?_⟩
 .rw[be (by rw[i3];simp)];exact c5
 .rw[be (by rw[i1];simp)];exact c6
 .rw[be (by rw[hq];simp)];exact c7
def yd (CP CQ:Addr):Sp:=λvs H Q _=>∃(B:Hp)(A:PA)(rs:Pz.RS)(S T:Pz.PS)(xs xl xr:DX (List Key))(n:Nat),vs=[.ref A.o]/\PAt CP CQ B H A rs S xs xl xr/\GF rs/\Pz.Fit S/\Pz.Loop am rs n S T/\
 ∀ H' xs' xl',PAt CP CQ B H' A rs T xs' xl' xr->Q .non H'
def JV (K:Oy)(CP CQ:Addr):TS:=
 z_ (Hk (tB (iT CQ "is_empty" (oU CQ) [] E0 (iS K (aw 0) "offers") bq)))
 (ou (lZ K (iT CQ "take_lowest" (tP CQ) [] E0 (iS K (aw 0) "offers") bq)) (o8 K 2 (dG (bv 1) (dG (bv 2) o7)))
   (yH (nV (m5 Hw (m5 (qQ K) (EU (iS K (aw 0) "told") (aw 2)) (tC (.int 0))) (aw 1)))
     (f_ (iT CP "settle" (mB CP CQ) [] E0 (aw 0) (au (aw 2) (au (aw 1) bq)))) uf))
theorem zC (h:yd CP CQ vs H Q E):vs.length=1:=by obtain⟨_,_,_,_,_,_,_,_,_,rfl,_⟩:=h;rfl
theorem GG (A:PA) (last:Int):(qf A last).lookup ("is_empty" : Str)=none:=rfl
theorem D0 (A:PA) (last:Int):(qf A last).lookup ("take_lowest" : Str)=none:=rfl
theorem zD (A:PA):(pf A).lookup ("settle" : Str)=none:=rfl
theorem By (TP:PCls K CP) (h:yd CP CQ vs H Q E):JV K CP CQ { nx:=λ_ H'=>Q .non H',rt:=Q } (dh ["self", "price", "arrow"] vs) H:=by
 obtain⟨B,A,rs,S,T,xs,xl,xr,n,rfl,P,rok,fit,lp,k⟩:=h;refine⟨λm σ H=>(∃ u v,σ=[some (.ref A.o),u,v])/\∃ S xs xl,PAt CP CQ B H A rs S xs xl xr/\Pz.Fit S/\Pz.Loop am rs m S T,⟨n,⟨none,none,rfl⟩,S,xs,xl,P,fit,lp⟩,?_⟩;clear P lp fit;rintro m σ H ⟨⟨u,v,rfl⟩,S,xs,xl,⟨xp,kt,col,P⟩,fit,lp⟩;obtain⟨dx,hi⟩:=P.po.ins;obtain⟨dy,hq⟩:=P.po.que;have pr:RepM k1 IsItem H S.piles xp:=P.p1.r;have f1:=fit.p;have f2:=fit.pf;unfold Pz.L at f1 f2;refine⟨_,rfl,A.o,CP,dx,_,_,rfl,hi,TP.cl,TP.no,GA A,A.aq,dy,_,rfl,hq,GG A _,A.aq,A.ap,dy,S.last,xp.kv,rfl,hq,P.p1.d.root,(by unfold DX.kv;rw[Kw,<- pr.len,Mi];lia),_,rfl,?_⟩;have el:xp.kv.length=S.piles.length:=by unfold DX.kv;rw[Kw,<- pr.len]
 rw[el];cases lp with
 |done e=>rw[e];exact uw (k H xs xl ⟨xp,kt,col,P⟩)
 | @step m _ _ hne hok hkn _ fit2 lp=>
  have:decide (S.piles.length=0)=false:=KL λz=>hne (LX.mp z);rw[this];refine sN ?_;refine⟨λσ H=>(∃ u v,σ=[some (.ref A.o),u,v])/\∃ S xs xl,PAt CP CQ B H A rs S xs xl xr/\Pz.Fit S/\Pz.Loop am rs m S T,λσ' H' h'=>⟨m,Nm _,h'⟩,?_⟩;refine jH ?_;refine⟨_,rfl,A.o,CP,dx,_,_,rfl,hi,TP.cl,TP.no,GA A,A.aq,dy,_,rfl,hq,D0 A _,A.aq,A.ap,S.last,xp,S.piles,rfl,⟨⟨dy,hq⟩,P.p1.d,by rw[<- pr.len];lia,pr.low (by lia)⟩,pr,hok,hne,by lia,?_⟩;intro l vs' xp' H1 G1 R1 hl1 a1 nl il sub1 kp1;have P1:PCore CP CQ B H1 A rs (Pz.take am S) xs xl xr xp' kt _:=P.took (m:=Pz.lowP S.piles) (d':=Pz.left am S.piles) G1.ins G1.piles R1 sub1 kp1;obtain⟨B1,w1,w2,w3,P2⟩:=P1.wide (λc=>c=l) λc e=>by
   subst e;rcases il with il|il
   .have hc:=(P.p1.c c il).1;refine⟨nl,λi=>?_,λi=>?_,λi=>?_,λz=>?_,λz=>?_,λz=>?_⟩
    .have:=(P.p2.c c i).1;lia
    .have:=(P.p3.c c i).1;lia
    .have:=(P.p4.c c i).1;lia
    .have:=P.po.c5.1;rw[z]at hc;lia
    .have:=P.po.c6.1;rw[z]at hc;lia
    .have:=P.po.c7.1;rw[z]at hc;lia
   .exact⟨nl,(P.obj il).2⟩
  refine⟨l,rfl,⟨_,SqL.of hl1⟩,tR (it:=IsItem) (vs:=vs') (its:=Pz.taken am S.piles) (λσ=>∃ u v,σ=[some (.ref A.o),u,v]) (Pz.turn am rs) (Pz.take am S) (λT' H2=>∃ xs' xl',PAt CP CQ B1 H2 A rs T' xs' xl' xr) ⟨_,_,rfl⟩ ⟨xs,xl,_,_,_,P2⟩ ?_ ?_ ?_⟩
  .rintro T' H2 ⟨xs',xl',P3⟩;have s2:=P3.same;exact⟨s2 _ _ (w3 l _ rfl hl1),a1.mono (IsItem.keep λc ws e=>s2 _ _ (w2 _ _ e))⟩
  .rintro i ⟨p,a⟩ v' σ H2 hx ⟨t,_,rfl,ht,b,rfl,hb⟩ ⟨u',v'',rfl⟩ ⟨xs',xl',P3⟩;have fitT:=jI (step:=Pz.turn am rs) Pz.zr fit2 hx;have kn:Pz.tget (((Pz.taken am S.piles).take i).foldl (Pz.turn am rs) (Pz.take am S)).told a≠none:=Pz.kF _ (λS x k=>Pz.DO k) _ _ (hkn (p,a) (Ll hx));generalize ((Pz.taken am S.piles).take i).foldl (Pz.turn am rs) (Pz.take am S)=S3 at P3 fitT kn;refine⟨t,_,rfl,SqT.of ht,rfl,_,_,rfl,_,_,rfl,rfl,?_⟩;have P3':=P3;obtain⟨xp3,kt3,col3,Q3⟩:=P3';obtain⟨dx3,hi3⟩:=Q3.po.ins;rcases Q3.po.tr.find a with⟨_,e2⟩|⟨w,x,e1,e2,q,rfl,hq3⟩
   .exact(kn e2).elim
   refine⟨_,rfl,A.o,CP,dx3,_,_,rfl,hi3,TP.cl,TP.nt,DW A,_,rfl,A.ta,.ref q,rfl,(by rw[<- e1];exact DGet.t Q3.po.td hb),q,_,0,_,rfl,rfl,SqT.of hq3,rfl,_,rfl,rfl,_,rfl,?_⟩;have ei:(V.int x.1=V.int p)↔x.1=p:=⟨λe=>by injection e,λe=>by rw[e]⟩;have ed:Pz.oR S3 (p,a)=decide (x.1=p):=by unfold Pz.oR;dsimp only;rw[e2]
   unfold Pz.turn at fitT;unfold Pz.turn;rw[ed]at fitT ⊢;refine Ay (λh=>?_) (λh=>?_)
   .have h1:x.1=p:=ei.mp (KU h);rw[Ku (Kz h1)]at fitT ⊢;refine⟨_,rfl,A.o,dx3,_,rfl,hi3,zD A,_,rfl,_,rfl,?_⟩;exact⟨B1,A,rs,_,xs',xl',xr,b,a,p,rfl,P3,hb,rok,fitT,λH4 xs4 xl4 P4=>⟨⟨_,_,rfl⟩,xs4,xl4,P4⟩⟩
   .have h1:¬ x.1=p:=λz=>h (Kz (ei.mpr z));rw[Kv (by simpa using h1)];exact⟨⟨_,_,rfl⟩,xs',xl',P3⟩
  .rintro σ H2 ⟨u',v'',rfl⟩ ⟨xs',xl',P3⟩;exact⟨⟨_,_,rfl⟩,_,xs',xl',P3.less w1,fit2,lp⟩
end
section
variable {K:Oy}{H:Hp}
theorem ye {l:Addr}{vs:List V}{g:TG}{tb:TS}{D:Ends}{σ:L2.St}{H1:Hp}(Sh:L2.St->Prop)(W:Nat->Hp->Prop)(h0:Sh σ)(h1:W 0 H1)(hW:∀ i H,W i H->SqL K H l vs)
 (hb:∀(i:Nat)(v:V)(p:Addr)(σ:L2.St)(H:Hp),vs[i]?=some v->H p=none->Sh σ->W i H->
   g (.ref p) σ (aB H p (.tup [.int (i:Nat),v])) λσ2 H2=>tb { D with nx:=λσ' H'=>Sh σ'/\W (i+1) H',ct:=λσ' H'=>Sh σ'/\W (i+1) H',bk:=D.nx } σ2 H2)
 (hd:∀ σ H,Sh σ->W vs.length H->D.nx σ H) :
 ∃ W:Nat->Nat->L2.St->Hp->Prop,(∃ m,W 0 m σ H1)/\∀ i m σ H,W i m σ H->
  ((E5 K l).stop i H/\D.nx σ H)\/((E5 K l).go i H/\∃ N:L2.St->Hp->Prop,(∀ σ' H',N σ' H'->∃ m',m'<m/\W (i+1) m' σ' H')/\∀ x H',(E5 K l).yld i H x H'->g x σ H' λσ2 H2=>tb { D with nx:=N,ct:=N,bk:=D.nx } σ2 H2):=by
 refine⟨λi m σ H=>m=vs.length-i/\i<=vs.length/\Sh σ/\W i H,⟨vs.length,by simp,LF _,h0,h1⟩,?_⟩;rintro i m σ H ⟨rfl,hi,s,w⟩;have q:=hW i H w;by_cases hlt:i<vs.length
 .refine .inr ⟨⟨vs,vs[i],q,by simp[hlt]⟩,λσ' H'=>Sh σ'/\W (i+1) H',λσ' H' p'=>⟨vs.length-(i+1),by lia,rfl,hlt,p'⟩,λx H' y=>?_⟩;obtain⟨p,v,hp,rfl,rfl,y⟩:=y;exact hb i v p σ H (y vs q) hp s w
 .have e:i=vs.length:=by lia
  subst e;exact .inl ⟨⟨vs,q,Kq _⟩,hd σ H s w⟩
theorem sq {tb:TS}{D:Ends}{σ:L2.St}(h:ta σ H λvs H1=>∃ a xs,vs=[.ref a]/\SqL K H1 a xs/\∃ W:Nat->Nat->L2.St->Hp->Prop,(∃ m,W 0 m σ H1)/\∀ i m σ H,W i m σ H->
 ((E5 K a).stop i H/\D.nx σ H)\/((E5 K a).go i H/\∃ N:L2.St->Hp->Prop,(∀ σ' H',N σ' H'->∃ m',m'<m/\W (i+1) m' σ' H')/\∀ x H',(E5 K a).yld i H x H'->g x σ H' λσ2 H2=>tb { D with nx:=N,ct:=N,bk:=D.nx } σ2 H2)):ou (xR K ta) g tb D σ H:=h
theorem wY:∀(l:List Pz.Rule)(k i:Nat),(Pz.en l k)[i]?=(l[i]?).map λr=>(((k+i:Nat):Int),r)
 | [],k,i=>by simp[Pz.en]
 |r::l,k,0=>by simp[Pz.en]
 |r::l,k,i+1=>by show(Pz.en l (k+1))[i]?=(l[i]?).map _;rw[wY l];congr 1;funext r;congr 2;lia
theorem yf {β:Type}(f:β->Int×Pz.Rule->β)(b:β){l:List Pz.Rule}{i:Nat}{r:Pz.Rule}(h:l[i]?=some r):((Pz.en l 0).take (i+1)).foldl f b=f (((Pz.en l 0).take i).foldl f b) ((i:Int),r):=by
 have e:(Pz.en l 0)[i]?=some ((i:Int),r):=by rw[wY,h];simp
 rw[MP,e,Mm];rfl
structure HouseAt (H:Hp) (RL:List Pz.Rule) (p l:Addr) (vs:List V):Prop where
 tup:∃ w0 w1,H p=some (.tup [w0,w1,.ref l])
 lst:Rd H l (.lst vs)
 its:All2 (IsRule H) RL vs
theorem lx (s:Same H H')(h:Rd H a u):Rd H' a u:=h.imp (s a _) λ⟨o,e⟩=>⟨o,s a _ e⟩
theorem HouseAt.same (h:HouseAt H RL p l vs)(s:Same H H'):HouseAt H' RL p l vs:=⟨let ⟨w0,w1,e⟩:=h.tup;⟨w0,w1,s _ _ e⟩,lx s h.lst,h.its.mono (IsRule.keep (lw s))⟩
def D7:Sp:=λvs H Q _=>∃(RL:List Pz.Rule)(p l:Addr)(ws:List V),vs=[.ref p]/\HouseAt H RL p l ws/\RL.length<16000000/\
 ∀(ar:Addr)(xr:DX (List Key))(H':Hp),Same H H'->DL .dT H' ar xr->RepM k2 IsNum H' (Pz.gy RL) xr->(∀ c,InD ar xr c->H c=none)->Q (.ref ar) H'
def Kl:R2:=yK λi j=>.bl (decide (j<i))
def Km (K:Oy):TS:=
 gA (o9 m8 (bv 1))
 (gA (ou (xR K (au (tI K 0 2) bq)) (o8 K 2 (dG (bv 2) (dG (bv 3) o7)))
   (yH (nV (m5 Kl (ER (yc K) (au (tI K 3 3) bq)) (tC (.int 0))))
     (f_ (oh K (aw 1) (ke (au (tI K 3 2) (au (m5 (qQ K) (tI K 3 3) (tC (.int 0))) bq))) (ke (au (aw 2) (au (aw 3) bq))))) uf))
 (uh (aw 1)))
theorem Bz (h:D7 vs H Q E):vs.length=1:=by obtain⟨_,_,_,_,rfl,_⟩:=h;rfl
theorem sr (hto:sk to σ H (.ref a))(hr:H a=some (.dT kvs))(hk:Makes tk σ H ks)(h:∀ b,H b=none->oh K (tC (.ref a)) (tC (.ref b)) te σ (aB H b (.tup ks)) Q):oh K to tk te σ H Q:=hto _ ⟨.inr (.inr (.inl ⟨rfl,.inr ⟨_,hr⟩⟩)),hk _ λb hb=>(h b hb).2⟩
theorem D8 (h:D7 vs H Q E):Km K { nx:=λ_ H'=>Q .non H',rt:=Q } (dh ["house", "rules", "number", "rule"] vs) H:=by
 obtain⟨RL,p,l,ws,rfl,G,aR,k⟩:=h;intro ar har;have s1:Same H (aB H ar (.dT [])):=aE har;have G1:=G.same s1;dsimp only[bv];refine sq ?_;obtain⟨w0,w1,hp⟩:=G1.tup;refine⟨_,rfl,p,_,2,_,rfl,rfl,SqT.of hp,rfl,l,ws,rfl,.inl G1.lst,?_⟩;have bl:∀ i,(((Pz.en RL 0).take i).foldl Pz.gD []).Ok/\(((Pz.en RL 0).take i).foldl Pz.gD []).flat.length<16000000:=λi=>by obtain⟨a,b⟩:=Pz.wQ ((Pz.en RL 0).take i) [] Pz.sj;have h1:=Nj i (Pz.en RL 0);rw[Pz.nJ]at h1;have h2:(Pz.MD.flat ([]:Pz.RS)).length=0:=rfl;exact⟨a,by lia⟩
 refine ye (K:=K) (vs:=ws) (λσ=>∃ u v,σ=[some (.ref p),some (.ref ar),u,v]) (λi H2=>∃ xr,Same H H2/\DL .dT H2 ar xr/\RepM k2 IsNum H2 (((Pz.en RL 0).take i).foldl Pz.gD []) xr/\∀ c,InD ar xr c->H c=none) ⟨none,none,rfl⟩ ⟨[],s1,⟨ac,λ_ h=>(KG h).elim,KY,KY⟩,.nil,λc i=>?_⟩ (λi H2 ⟨xr,s2,_⟩=>.inl (lx s2 G.lst)) ?_ ?_
 .rcases i with rfl|⟨x,hx,_⟩
  .exact har
  .exact(KG hx).elim
 .rintro i v pp σ H2 hv hpp ⟨u,w,rfl⟩ ⟨xr,s2,D2,R2,n2⟩;obtain⟨r,hr,c,q,rfl,hc,hq⟩:=G.its.get hv;have e1:((Pz.en RL 0).take (i+1)).foldl Pz.gD []=Pz.gD (((Pz.en RL 0).take i).foldl Pz.gD []) ((i:Int),r):=yf _ _ hr;have bl1:=bl i;generalize ((Pz.en RL 0).take i).foldl Pz.gD []=d at R2 e1 bl1;generalize ht:[V.int (i:Nat),V.ref c]=tw;have s3:Same H2 (aB H2 pp (.tup tw)):=aE hpp;have hpp3:aB H2 pp (.tup tw) pp=some (.tup [V.int (i:Nat),V.ref c]):=by rw[ac,ht]
  have D3:DL .dT (aB H2 pp (.tup tw)) ar xr:=D2.keep λc u e _=>s3 c u e;have R3:RepM k2 IsNum (aB H2 pp (.tup tw)) d xr:=R2.keep (IsNum.keep (lw s3));have s03:=s2.trans s3;have hc3:=s03 _ _ hc;have hq3:=s03 _ _ hq;generalize aB H2 pp (.tup tw)=H3 at s3 hpp3 D3 R3 s03 hc3 hq3;refine⟨pp,_,rfl,SqT.of hpp3,rfl,_,_,rfl,_,_,rfl,rfl,?_⟩;refine⟨_,rfl,c,_,3,_,rfl,rfl,SqT.of hc3,rfl,q,_,rfl,.inr (SqT.of hq3),_,_,rfl,rfl,_,rfl,?_⟩;have e2:(0:Int)<(((r.2.2.2.map V.int).length:Nat):Int)↔r.2.2.2.length>0:=by rw[Kw];lia
  rw[e1];unfold Pz.gD;refine Ay (λh=>?_) (λh=>?_)
  .have h1:r.2.2.2.length>0:=e2.mp (KU h);rw[Ku (show((i:Int),r).2.2.2.2.length>0 from h1)];have hat:(r.2.2.2.map V.int)[0]?=some (.int (r.2.2.2[0]?.getD 0)):=by
    cases hl:r.2.2.2 with
    |nil=>rw[hl]at h1;simp at h1
    |cons x y=>rfl
   refine sr (a:=ar) (ks:=[.int r.2.2.1,.int (r.2.2.2[0]?.getD 0)]) (λQ q=>⟨_,rfl,q⟩) D3.root (λQ' hQ=>⟨_,rfl,c,_,2,_,rfl,rfl,SqT.of hc3,rfl,_,rfl,c,_,3,_,rfl,rfl,SqT.of hc3,rfl,q,_,0,_,rfl,rfl,SqT.of hq3,xB (j:=0) hat,(by show 2<=sizeLine;decide),hQ⟩) λb hb=>?_;have s4:Same H3 (aB H3 b (.tup [.int r.2.2.1,.int (r.2.2.2[0]?.getD 0)])):=aE hb;have hb4:aB H3 b (.tup [.int r.2.2.1,.int (r.2.2.2[0]?.getD 0)]) b=some (.tup [.int r.2.2.1,.int (r.2.2.2[0]?.getD 0)]):=ac;have D4:DL .dT (aB H3 b (.tup [.int r.2.2.1,.int (r.2.2.2[0]?.getD 0)])) ar xr:=D3.keep λc u e _=>s4 c u e;have R4:=R3.keep (IsNum.keep (lw s4));generalize aB H3 b (.tup [.int r.2.2.1,.int (r.2.2.2[0]?.getD 0)])=H4 at s4 hb4 D4 R4;refine oS (a:=ar) (b:=b) (xs:=xr) (k:=k2 (r.2.2.1,r.2.2.2[0]?.getD 0)) (ws:=[.int (i:Nat),.ref c]) D4 (λQ q=>q) (λQ q=>q) hb4 (λH' _ Q q=>⟨_,rfl,_,rfl,(by show 2<=sizeLine;decide),q⟩) (by rw[<- R4.len];have:=Pz.js bl1.1;lia) (R4.low bl1.2) ?_;intro l5 p5 H5 hl5 hp5 hm5 hd5 kp5;have kt5:=D4.kt (λ_ _ z=>HO.noConfusion z) kp5;have s05:Same H H5:=λc u e=>kp5 c u (s4 _ _ (s03 _ _ e)) λz=>by rw[n2 c z]at e;cases e
   refine⟨⟨_,_,rfl⟩,_,s05,hd5,R4.add (k:=(r.2.2.1,r.2.2.2[0]?.getD 0)) (v:=((i:Int),r)) nL (IsNum.keep kt5) ⟨p5,_,rfl,hm5,c,q,rfl,s05 _ _ hc,s05 _ _ hq⟩,λc z=>?_⟩;rcases jU z with z|rfl
   .exact n2 c z
   .exact(s03.trans s4).free hl5
  .have h1:¬ r.2.2.2.length>0:=λz=>h (Kz (e2.mpr z));rw[Kv (show ¬ ((i:Int),r).2.2.2.2.length>0 from h1)];exact⟨⟨_,_,rfl⟩,xr,s03,D3,R3,n2⟩
 .rintro σ H2 ⟨u,w,rfl⟩ ⟨xr,s2,D2,R2,n2⟩;refine⟨_,rfl,k ar xr H2 s2 D2 ?_ n2⟩;rw[L0 (by rw[Pz.nJ,G.its.len];exact Kq _)]at R2;exact R2
end
section
variable {K:Oy}{CP CQ:Addr}{H:Hp}
def oW (CP CQ:Addr):Sp:=λvs H Q _=>∃(B:Hp)(RL:List Pz.Rule)(o dx p l:Addr)(ws:List V),vs=[.ref o,.ref p]/\H o=some (.ins CP dx [])/\Same B H/\B o=none/\HouseAt H RL p l ws/\RL.length<16000000/\
 ∀(A:PA)(xr:DX (List Key))(H':Hp),A.o=o->PAt CP CQ B H' A (Pz.gy RL) Pz.S0 [] [] xr->Q .non H'
def GH (K:Oy)(CQ:Addr):TS:=
 gA (sE K (aw 0) (xx D7 [] E0 (au (aw 1) bq)) "rules")
 (gA (sE K (aw 0) m8 "told")
 (gA (sE K (aw 0) (xy CQ (oT CQ) [] E0 bq) "offers")
 (gA (sE K (aw 0) m8 "settled")
 (sE K (aw 0) m8 "lacking"))))
theorem vc (h:oW CP CQ vs H Q E):vs.length=2:=by obtain⟨_,_,_,_,_,_,_,rfl,_⟩:=h;rfl
theorem wZ (TP:PCls K CP)(h:oW CP CQ vs H Q E):GH K CQ { nx:=λ_ H'=>Q .non H',rt:=Q } (dh N vs) H:=by
 obtain⟨B,RL,o,dx,p,l,ws,rfl,ho,sb,nb,G,aR,k⟩:=h;refine⟨_,rfl,RL,p,l,ws,rfl,G,aR,λar xr H1 s1 D1 R1 n1=>?_⟩;have ho1:=s1 _ _ ho;have nor:∀ c,InD ar xr c->c≠o:=λc i z=>by rw[z]at i;rw[n1 o i]at ho;cases ho
 refine⟨_,rfl,o,CP,dx,_,rfl,ho1,TP.cl,TP.nr,(by show 0<1000;decide),?_⟩;generalize hH2:aB H1 o (.ins CP dx (jh "rules" (.ref ar) []))=H2;have ho2:H2 o=some (.ins CP dx [("rules",.ref ar)]):=by rw[<- hH2,ac];rfl
 have kp2:∀ c u,H1 c=some u->c≠o->H2 c=some u:=λc u e n=>by rw[<- hH2,aa n];exact e
 intro ta hta;have e3:aB H2 ta (.dT []) o=some (.ins CP dx [("rules",.ref ar)]):=by rw[aa (af ho2 hta)];exact ho2
 refine⟨_,rfl,o,CP,dx,_,rfl,e3,TP.cl,TP.nt,(by show 1<1000;decide),?_⟩;generalize hH4:aB (aB H2 ta (.dT [])) o (.ins CP dx (jh "told" (.ref ta) [("rules",.ref ar)]))=H4;have no_ta:ta≠o:=(af ho2 hta).symm;have ho4:H4 o=some (.ins CP dx [("rules",.ref ar),("told",.ref ta)]):=by rw[<- hH4,ac];rfl
 have ta4:H4 ta=some (.dT []):=by rw[<- hH4,aa no_ta,ac]
 have kp4:∀ c u,H2 c=some u->c≠o->H4 c=some u:=λc u e n=>by rw[<- hH4,aa n,aa (af e hta)];exact e
 intro aq dq haq hdq ndq;refine⟨aq,dq,rfl,ac,λap H5 hap hq5 hp5 kp5=>⟨rfl,?_⟩⟩;have kp5':∀ c u,H4 c=some u->H5 c=some u:=λc u e=>kp5 c u (by rw[aa (af e haq),aa (af e hdq)];exact e) (af e haq);have ap4:H4 ap=none:=by
  have h1:ap≠aq:=λz=>by rw[z,ac]at hap;cases hap
  have h2:ap≠dq:=λz=>by rw[z,aa ndq,ac]at hap;cases hap
  rw[aa h1,aa h2]at hap;exact hap
 have apq:ap≠aq:=λz=>by rw[z,ac]at hap;cases hap
 refine⟨_,rfl,o,CP,dx,_,rfl,kp5' _ _ ho4,TP.cl,TP.no,(by show 2<1000;decide),?_⟩;generalize hH6:aB H5 o (.ins CP dx (jh "offers" (.ref aq) [("rules",.ref ar),("told",.ref ta)]))=H6;have noq:aq≠o:=λz=>by rw[z,ho4]at haq;cases haq
 have nop:ap≠o:=λz=>by rw[z,ho4]at ap4;cases ap4
 have ho6:H6 o=some (.ins CP dx [("rules",.ref ar),("told",.ref ta),("offers",.ref aq)]):=by rw[<- hH6,ac];rfl
 have kp6:∀ c u,H5 c=some u->c≠o->H6 c=some u:=λc u e n=>by rw[<- hH6,aa n];exact e
 intro sa hsa;have nsa:sa≠o:=(af ho6 hsa).symm;refine⟨_,rfl,o,CP,dx,_,rfl,(by rw[aa (af ho6 hsa)];exact ho6),TP.cl,TP.ns,(by show 3<1000;decide),?_⟩;generalize hH8:aB (aB H6 sa (.dT [])) o (.ins CP dx (jh "settled" (.ref sa) [("rules",.ref ar),("told",.ref ta),("offers",.ref aq)]))=H8;have ho8:H8 o=some (.ins CP dx [("rules",.ref ar),("told",.ref ta),("offers",.ref aq),("settled",.ref sa)]):=by rw[<- hH8,ac];rfl
 have sa8:H8 sa=some (.dT []):=by rw[<- hH8,aa nsa,ac]
 have kp8:∀ c u,H6 c=some u->c≠o->H8 c=some u:=λc u e n=>by rw[<- hH8,aa n,aa (af e hsa)];exact e
 intro la hla;have nla:la≠o:=(af ho8 hla).symm;refine⟨_,rfl,o,CP,dx,_,rfl,(by rw[aa (af ho8 hla)];exact ho8),TP.cl,TP.nl,(by show 4<1000;decide),?_⟩;generalize hH9:aB (aB H8 la (.dT [])) o (.ins CP dx (jh "lacking" (.ref la) [("rules",.ref ar),("told",.ref ta),("offers",.ref aq),("settled",.ref sa)]))=H9;have ho9:H9 o=some (.ins CP dx (pf ⟨o,ta,aq,ap,sa,la,ar⟩)):=by rw[<- hH9,ac];rfl
 have la9:H9 la=some (.dT []):=by rw[<- hH9,aa nla,ac]
 have kp9:∀ c u,H8 c=some u->c≠o->H9 c=some u:=λc u e n=>by rw[<- hH9,aa n,aa (af e hla)];exact e
 have sa9:=kp9 _ _ sa8 nsa;have k69:∀ c u,H6 c=some u->c≠o->H9 c=some u:=λc u e n=>kp9 c u (kp8 c u e n) n;have k59:∀ c u,H5 c=some u->c≠o->H9 c=some u:=λc u e n=>k69 c u (kp6 c u e n) n;have k49:∀ c u,H4 c=some u->c≠o->H9 c=some u:=λc u e n=>k59 c u (kp5' c u e) n;have k19:∀ c u,H1 c=some u->c≠o->H9 c=some u:=λc u e n=>k49 c u (kp4 c u (kp2 c u e n) n) n;have fr:∀ c,H9 c≠none->H c=none->B c=none:=λc _ e=>sb.free e;have oldR:∀ c,InD ar xr c->H1 c≠none:=λc i=>D1.obj i;have n1_ta:H1 ta=none:=by
  cases e:H1 ta with
  |none=>rfl
  |some u=>rw[kp2 _ _ e no_ta]at hta;cases hta
 have n4_up:∀ c,H4 c=none->c≠o->H1 c=none/\c≠ta:=λc e n=>by
  refine⟨?_,λz=>by rw[z,ta4]at e;cases e⟩;cases e':H1 c with
  |none=>rfl
  |some u=>rw[kp4 _ _ (kp2 _ _ e' n) n]at e;cases e
 have n5_up:∀ c,H5 c=none->c≠o->H4 c=none/\c≠aq/\c≠ap:=λc e n=>by
  refine⟨?_,(λz=>by rw[z,hq5]at e;cases e),λz=>by rw[z,hp5]at e;cases e⟩;cases e':H4 c with
  |none=>rfl
  |some u=>rw[kp5' _ _ e']at e;cases e
 have n6_up:∀ c,H6 c=none->H5 c=none:=λc e=>by
  cases e':H5 c with
  |none=>rfl
  |some u=>
   by_cases n:c=o
   .rw[n,ho6]at e;cases e
   .rw[kp6 _ _ e' n]at e;cases e
 have n8_up:∀ c,H8 c=none->H6 c=none/\c≠sa:=λc e=>by
  refine⟨?_,λz=>by rw[z,sa8]at e;cases e⟩;cases e':H6 c with
  |none=>rfl
  |some u=>
   by_cases n:c=o
   .rw[n,ho8]at e;cases e
   .rw[kp8 _ _ e' n]at e;cases e
 obtain⟨la6,la_sa⟩:=n8_up la hla;obtain⟨la4,la_aq,la_ap⟩:=n5_up la (n6_up la la6) nla;obtain⟨la1,la_ta⟩:=n4_up la la4 nla;obtain⟨sa4,sa_aq,sa_ap⟩:=n5_up sa (n6_up sa hsa) nsa;obtain⟨sa1,sa_ta⟩:=n4_up sa sa4 nsa;obtain⟨aq1,aq_ta⟩:=n4_up aq haq noq;obtain⟨ap1,ap_ta⟩:=n4_up ap ap4 nop;have H0of:∀ c,H1 c=none->H c=none:=λc e=>s1.free e;have same:Same B H9:=λc u e=>k19 c u (s1 c u (sb c u e)) λz=>by rw[z,nb]at e;cases e
 have inNil:∀{a c:Addr},InD a ([]:DX (List Key)) c->c=a:=λi=>i.elim id λ⟨x,hx,_⟩=>(KG hx).elim
 classical
 refine k ⟨o,ta,aq,ap,sa,la,ar⟩ xr H9 rfl ⟨[],[],λc=>if c=o then 6 else if c=ta then 5 else if c=aq then 7 else if c=ap then 1 else if c=sa then 2 else if c=la then 3 else 4,same,⟨⟨?_,λ_ h=>(KG h).elim,KY,KY⟩,.nil,λc i=>?_⟩,⟨⟨sa9,λ_ h=>(KG h).elim,KY,KY⟩,.nil,λc i=>?_⟩,⟨⟨la9,λ_ h=>(KG h).elim,KY,KY⟩,.nil,λc i=>?_⟩,⟨D1.keep λc u e i=>k19 c u e (nor c i),R1.keep (IsNum.keep λc ws e=>k19 c _ e λz=>by rw[z,ho1]at e;cases e),λc i=>?_⟩,⟨dx,ho9⟩,⟨dq,k59 _ _ hq5 noq⟩,k49 _ _ ta4 no_ta,.nil,?_,?_,?_⟩
 .exact k59 _ _ hp5 nop
 .have:c=ap:=i.elim id λ⟨x,hx,_⟩=>(KG hx).elim;subst this;exact⟨by rw[Kv nop,Kv ap_ta,Kv apq,Ku rfl],sb.free (H0of _ ap1)⟩
 .have:=inNil i;dsimp only at this;subst this;exact⟨by rw[Kv nsa,Kv sa_ta,Kv sa_aq,Kv sa_ap,Ku rfl],sb.free (H0of _ sa1)⟩
 .have:=inNil i;dsimp only at this;subst this;exact⟨by rw[Kv nla,Kv la_ta,Kv la_aq,Kv la_ap,Kv la_sa,Ku rfl],sb.free (H0of _ la1)⟩
 .have hc:=oldR c i;refine⟨?_,sb.free (n1 c i)⟩;rw[Kv (nor c i),Kv (λz=>hc (by rw[z];exact n1_ta)),Kv (λz=>hc (by rw[z];exact aq1)),Kv (λz=>hc (by rw[z];exact ap1)),Kv (λz=>hc (by rw[z];exact sa1)),Kv (λz=>hc (by rw[z];exact la1))]
 .exact⟨by rw[Kv no_ta,Ku rfl],sb.free (H0of _ n1_ta)⟩
 .exact⟨Ku rfl,nb⟩
 .exact⟨by rw[Kv noq,Kv aq_ta,Ku rfl],sb.free (H0of _ aq1)⟩
end
noncomputable def bn (a:Pz.Arr):D:=.tup [.int a.1,.int a.2.1,.int a.2.2]
noncomputable def aJ (r:Pz.Rule):D:=.tup [.int r.1,.int r.2.1,.int r.2.2.1,.tup (r.2.2.2.map .int)]
noncomputable def oD:Option Int->D
 |none=>.non
 |some i=>.int i
def mC (x:Pz.Val):D:=.tup [.int x.1,oD x.2.1,oD x.2.2]
def dc (t:Pz.TD):D:=.dic (t.map λx=>.inr (ak x.1)) (t.map λx=>mC x.2)
def qo (ds:List D)(t:Pz.TD):Prop:=∃(RL:List Pz.Rule)(M:List Pz.Arr)(h0 h1 m0 m2:D)(n:Nat)(T:Pz.PS),ds=[.tup [h0,h1,.lst (RL.map aJ)],.tup [m0,.lst (M.map bn),m2]]/\RL.length<16000000/\Pz.Fit (Pz.qj am RL M)/\Pz.Loop am (Pz.gy RL) n (Pz.qj am RL M) T/\t=T.told
open Classical in
def Iv (Fr:List D->Res R)(ds:List D):Res R:=match Fr ds with
 | .ok _=>if h:∃ t,qo ds t then .ok (.fre (dc (Classical.choose h))) else .stuck
 | .exc c=>.exc c
 | .stuck=>.stuck
theorem BA:∀{ns:List Int}{vs:List V},IsAll H m (ns.map .int) vs->vs=ns.map .int
 | [],vs,h=>h
 |n::ns,vs,h=>by obtain⟨v,r,rfl,h1,h2⟩:=h;rw[BA h2,show v=.int n from h1];rfl
theorem GI (h:Is H m (aJ r) v):IsRule H r v:=by obtain⟨a,vs,rfl,ha,v0,r0,rfl,e0,v1,r1,rfl,e1,v2,r2,rfl,e2,v3,r3,rfl,⟨q,ws,rfl,hq,hw⟩,rfl⟩:=h;obtain rfl:v0=.int r.1:=e0;obtain rfl:v1=.int r.2.1:=e1;obtain rfl:v2=.int r.2.2.1:=e2;exact⟨a,q,rfl,ha,by rw[hq,BA hw]⟩
theorem Iw (h:Is H m (bn r) v):IsArr H r v:=by obtain⟨a,vs,rfl,ha,v0,r0,rfl,e0,v1,r1,rfl,e1,v2,r2,rfl,e2,rfl⟩:=h;obtain rfl:v0=.int r.1:=e0;obtain rfl:v1=.int r.2.1:=e1;obtain rfl:v2=.int r.2.2:=e2;exact⟨a,rfl,ha⟩
theorem BB {α:Type}{H:Hp}{m:Addr->Prop}{f:α->D}{it:α->V->Prop}(hf:∀ x v,Is H m (f x) v->it x v):∀{xs:List α}{vs:List V},IsAll H m (xs.map f) vs->All2 it xs vs
 | [],vs,h=>by cases (show vs=[] from h);exact .nil
 |x::xs,vs,h=>by obtain⟨v,r,rfl,h1,h2⟩:=h;exact .cons (hf x v h1) (BB hf h2)
theorem Fc (h:Is H m (.lst ds) v):∃ a vs,v=.ref a/\Rd H a (.lst vs)/\IsAll H m ds vs:=by obtain⟨a,vs,rfl,h1,h2⟩:=h;exact⟨a,vs,rfl,h1.imp And.left λ⟨o,e,_⟩=>⟨o,e⟩,h2⟩
theorem JW (RL:List Pz.Rule):GF (Pz.gy RL):=λk x hx=>by
 rcases (Pz.tM _ _ _ _).mp hx with h|⟨_,y,l,e,_⟩
 .exact(KG h).elim
 .rw[e];simp
section
variable {K:Oy}{CP CQ:Addr}{H:Hp}
def D9 (K:Oy)(mg:Str->Option OA)(Fr:List D->Res R)(CP CQ:Addr)(E:XK):TS:=
 gA (f_ (xx (pO mg 2 Fr) [] E (au (aw 0) (au (aw 1) bq))))
 (gA (o9 (xy CP (oW CP CQ) [] E0 (au (aw 0) bq)) (bv 2))
 (gA (ou (lZ K (tI K 1 1)) (bv 3) (f_ (iT CP "offer" (jn CP CQ) [] E0 (aw 2) (au (aw 3) (au (tC (.int 0)) (au (tC .non) (au (tC .non) bq)))))))
 (gA (ou (xR K (au (tI K 0 2) bq)) (o8 K 2 (dG (bv 4) (dG (bv 5) o7)))
   (yH (nV (m5 Hw (ER (yc K) (au (tI K 5 3) bq)) (tC (.int 0))))
     (f_ (iT CP "offer" (jn CP CQ) [] E0 (aw 2) (au (ke (au (tI K 5 0) (au (tI K 5 1) (au (tI K 5 2) bq)))) (au (tC (.int 1)) (au (aw 4) (au (tC .non) bq)))))) uf))
 (gA (f_ (iT CP "settle_all" (yd CP CQ) [] E0 (aw 2) bq))
 (uh (iS K (aw 2) "told"))))))
theorem GJ (A:PA):(pf A).lookup ("settle_all" : Str)=none:=rfl
theorem BC:∀{t:Pz.TD}{kt:List (List Key×V)},RepT H t kt->(t.map λx=>(Sum.inr (ak x.1):DK))=kt.map (λp=>.inr p.1)/\IsAll H m (t.map λx=>mC x.2) (kt.map Prod.snd)
 | [],_,.nil=>⟨rfl,rfl⟩
 |x::t,y::kt,.cons ⟨e,p,hp,hv⟩ r=>by
  obtain⟨r1,r2⟩:=BC (m:=m) r;have ho:∀ o:Option Int,Is H m (oD o) (vO o):=λo=>by cases o<;>rfl
  exact⟨by rw[Kr,Kr,e,r1],y.2,_,rfl,⟨p,_,hp,hv,_,_,rfl,rfl,_,_,rfl,ho _,_,_,rfl,ho _,rfl⟩,r2⟩
theorem ve {mg:Str->Option OA} {Fr:List D->Res R} (TP:PCls K CP) (h:pO mg 2 (Iv Fr) vs H Q E):D9 K mg Fr CP CQ E { nx:=λ_ H'=>Q .non H',rt:=Q } (dh ["house", "machine", "pricing", "arrow", "number", "rule"] vs) H:=by
 obtain⟨hl,ds,Ma,is,post⟩:=h
 match vs,hl with
 | [v0,v1],_=>
 refine⟨_,rfl,_,rfl,rfl,ds,Ma,is,?_⟩;unfold Iv at post;cases hF:Fr ds with
 |stuck=>rw[hF]at post;exact post
 |exc c=>rw[hF]at post;exact post
 |ok r=>
  rw[hF]at post;dsimp only at post;by_cases hex:∃ t,qo ds t
  case neg=>rw[dif_neg hex]at post;exact post.elim
  case pos=>
  rw[dif_pos hex]at post;have hch:=Nb hex;generalize Classical.choose hex=t at post hch;obtain⟨RL,M,d0,d1,m0,m2,n,T,rfl,aR,fit,lp,rfl⟩:=hch;intro v H1 s1 _;obtain⟨_,_,ev,⟨p0,_,rfl,hp0,w0,_,rfl,_,w1,_,rfl,_,w2,_,rfl,iw2,rfl⟩,_,_,ev2,⟨p1,_,rfl,hp1,y0,_,rfl,_,y1,_,rfl,iy1,y2,_,rfl,_,rfl⟩,rfl⟩:=is;cases ev;cases ev2;obtain⟨l,ws,rfl,hl,iR⟩:=Fc iw2;obtain⟨lm,wm,rfl,hlm,iM⟩:=Fc iy1;have G:HouseAt H RL p0 l ws:=⟨⟨_,_,hp0⟩,hl,BB (λx v=>GI) iR⟩;have aM:All2 (IsArr H) M wm:=BB (λx v=>Iw) iM;refine⟨_,rfl,λo dx ho hdx hne=>?_⟩;have s2:Same H1 (aB (aB H1 dx (.own o)) o (.ins CP dx [])):=λb u e=>by rw[aa (af e ho),aa (af e hdx)];exact e
  refine⟨H,RL,o,dx,p0,l,ws,rfl,ac,s1.trans s2,s1.free ho,G.same (s1.trans s2),aR,λA xr H3 eA P=>⟨rfl,?_⟩⟩;subst eA;have g2:Pz.Grow (M.foldl (Pz.kG am) Pz.S0) (Pz.qj am RL M):=Pz.di _ (λS x=>by unfold Pz.gj;split;exact Pz.cX _ _ _ _ _;exact .refl _) _ _;have fit1:=g2.fit fit;dsimp only[bv];refine jH ?_;refine⟨_,rfl,p1,_,1,_,rfl,rfl,SqT.of (P.same _ _ hp1),rfl,lm,rfl,⟨wm,.inl (lx P.same hlm)⟩,?_⟩;refine yb (it:=IsArr) (vs:=wm) (its:=M) (λσ=>∃ u v w,σ=[some (.ref p0),some (.ref p1),some (.ref A.o),u,v,w]) (Pz.kG am) Pz.S0 (λT H4=>PAt CP CQ H H4 A (Pz.gy RL) T [] [] xr) ⟨none,none,none,rfl⟩ P ?_ ?_ ?_
  .intro T' H4 P4;exact⟨lx P4.same hlm,aM.mono (IsArr.keep (lw P4.same))⟩
  .rintro i a v' σ H4 hi ⟨b,rfl,hb⟩ ⟨u,w,z,rfl⟩ P4;have P4':=P4;obtain⟨xp4,kt4,col4,Q4⟩:=P4';obtain⟨dx4,hi4⟩:=Q4.po.ins;refine⟨_,rfl,A.o,dx4,_,rfl,hi4,kJ A,_,rfl,?_⟩;exact⟨H,A,_,_,[],[],xr,b,a,0,none,none,rfl,P4,hb,jI (step:=Pz.kG am) (λS x=>Pz.cX S _ _ _ _) fit1 hi,λH5 P5=>⟨⟨_,_,_,rfl⟩,P5⟩⟩
  .rintro σ H4 ⟨u,w,z,rfl⟩ P4;dsimp only;refine sq ?_;refine⟨_,rfl,p0,_,2,_,rfl,rfl,SqT.of (P4.same _ _ hp0),rfl,l,ws,rfl,.inl (lx P4.same hl),?_⟩;refine ye (K:=K) (vs:=ws) (λσ=>∃ u v w,σ=[some (.ref p0),some (.ref p1),some (.ref A.o),u,v,w]) (λi H5=>PAt CP CQ H H5 A (Pz.gy RL) (((Pz.en RL 0).take i).foldl (Pz.gj am) (M.foldl (Pz.kG am) Pz.S0)) [] [] xr) ⟨_,_,_,rfl⟩ P4 (λi H5 P5=>.inl (lx P5.same hl)) ?_ ?_
   .rintro i v' pp σ H5 hv hpp ⟨u',w',z',rfl⟩ P5;obtain⟨r,hr,c,q,rfl,hc,hq⟩:=G.its.get hv;have e1:=yf (Pz.gj am) (M.foldl (Pz.kG am) Pz.S0) hr;have fitT:Pz.Fit (Pz.gj am (((Pz.en RL 0).take i).foldl (Pz.gj am) (M.foldl (Pz.kG am) Pz.S0)) ((i:Int),r)):=jI (step:=Pz.gj am) (λS x=>by unfold Pz.gj;split;exact Pz.cX _ _ _ _ _;exact .refl _) (its:=Pz.en RL 0) fit (by rw[wY,hr];simp);rw[e1];generalize ((Pz.en RL 0).take i).foldl (Pz.gj am) (M.foldl (Pz.kG am) Pz.S0)=S5 at P5 fitT;have s6:Same H5 (aB H5 pp (.tup [.int (i:Nat),.ref c])):=aE hpp;have P6:=P5.more s6;have hpp6:aB H5 pp (.tup [.int (i:Nat),.ref c]) pp=some (.tup [.int (i:Nat),.ref c]):=ac;generalize aB H5 pp (.tup [.int (i:Nat),.ref c])=H6 at s6 P6 hpp6;have hc6:=P6.same _ _ hc;have hq6:=P6.same _ _ hq;refine⟨pp,_,rfl,SqT.of hpp6,rfl,_,_,rfl,_,_,rfl,rfl,?_⟩;refine⟨_,rfl,c,_,3,_,rfl,rfl,SqT.of hc6,rfl,q,_,rfl,.inr (SqT.of hq6),rfl,_,rfl,?_⟩;have e2:(V.int (((r.2.2.2.map V.int).length:Nat):Int)=V.int 0)↔r.2.2.2.length=0:=by rw[Kw];exact⟨λe=>by injection e with e;lia,λe=>by rw[e];rfl⟩
    unfold Pz.gj at fitT;unfold Pz.gj;have P6':=P6;obtain⟨xp6,kt6,col6,Q6⟩:=P6';obtain⟨dx6,hi6⟩:=Q6.po.ins;refine Ay (λh=>?_) (λh=>?_)
    .have h1:r.2.2.2.length=0:=e2.mp (KU h);rw[Ku (show((i:Int),r).2.2.2.2.length=0 from h1)]at fitT ⊢;refine⟨_,rfl,A.o,dx6,_,rfl,hi6,kJ A,_,rfl,c,_,0,_,rfl,rfl,SqT.of hc6,rfl,_,rfl,c,_,1,_,rfl,rfl,SqT.of hc6,rfl,_,rfl,c,_,2,_,rfl,rfl,SqT.of hc6,rfl,(by show 3<=sizeLine;decide),λtt htt=>?_⟩;have s7:=aE (o:=HO.tup [.int r.1,.int r.2.1,.int r.2.2.1]) htt;refine⟨_,rfl,?_⟩;exact⟨H,A,_,_,[],[],xr,tt,(r.1,r.2.1,r.2.2.1),1,some (i:Int),none,rfl,P6.more s7,ac,fitT,λH7 P7=>⟨⟨_,_,_,rfl⟩,P7⟩⟩
    .have h1:¬ r.2.2.2.length=0:=λz=>h (Kz (e2.mpr z));rw[Kv (show ¬ ((i:Int),r).2.2.2.2.length=0 from h1)];exact⟨⟨_,_,_,rfl⟩,P6⟩
   .rintro σ H5 ⟨u',w',z',rfl⟩ P5;rw[L0 (by rw[Pz.nJ,G.its.len];exact Kq _)]at P5;have P5':=P5;obtain⟨xp5,kt5,col5,Q5⟩:=P5';obtain⟨dx5,hi5⟩:=Q5.po.ins;refine⟨_,rfl,A.o,dx5,_,rfl,hi5,GJ A,H,A,_,_,T,[],[],xr,n,rfl,P5,JW RL,fit,lp,λH6 xs6 xl6 P6=>?_⟩;obtain⟨xp6,kt6,col6,Q6⟩:=P6;obtain⟨dx6,hi6⟩:=Q6.po.ins;refine⟨_,rfl,A.o,CP,dx6,_,_,rfl,hi6,TP.cl,TP.nt,DW A,?_⟩;obtain⟨t1,t2⟩:=BC (m:=nl H H6) Q6.po.tr;exact post _ H6 Q6.same ⟨A.ta,kt6.map Prod.snd,rfl,⟨.inr ⟨kt6,.inl Q6.po.td,t1,rfl⟩,Q6.po.c5.2,⟨_,Q6.po.td,True.intro⟩⟩,t2⟩
end
theorem BD:∀{n:Nat}{S T:Pz.PS},Pz.Loop pile rs n S T->∀{m:Nat}{T':Pz.PS},Pz.Loop pile rs m S T'->T=T':=by
 intro n S T h;induction h with
 |done e=>
  intro m T' h';cases h' with
  |done _=>rfl
  |step hne=>exact(hne e).elim
 |step hne _ _ _ _ _ ih=>
  intro m T' h';cases h' with
  |done e=>exact(hne e).elim
  |step _ _ _ _ _ h'=>exact ih h'
theorem zE (h:aJ r=aJ s):r=s:=by
 have im:∀{l m:List Int},l.map D.int=m.map D.int->l=m:=λ{l m} e=>by
  induction l generalizing m with
  |nil=>cases m with
   |nil=>rfl
   |cons _ _=>cases e
  |cons x l ih=>cases m with
   |nil=>cases e
   |cons y m=>rw[Kr,Kr]at e;injection e with e1 e2;injection e1 with e1;rw[e1,ih e2]
 unfold aJ at h;injection h with h;injection h with h0 h;injection h with h1 h;injection h with h2 h;injection h with h3 h;injection h0 with h0;injection h1 with h1;injection h2 with h2;injection h3 with h3;exact Nf h0 (Nf h1 (Nf h2 (im h3)))
theorem BE (h:bn r=bn s):r=s:=by unfold bn at h;injection h with h;injection h with h0 h;injection h with h1 h;injection h with h2 h;injection h0 with h0;injection h1 with h1;injection h2 with h2;exact Nf h0 (Nf h1 h2)
theorem tT {α:Type}{f:α->D}(hf:∀{x y},f x=f y->x=y):∀{l m:List α},l.map f=m.map f->l=m
 | [],[],_=>rfl
 | [],_::_,e=>nomatch e
 |_::_,[],e=>nomatch e
 |x::l,y::m,e=>by rw[Kr,Kr]at e;injection e with e1 e2;rw[hf e1,tT hf e2]
structure Mt (K:Oy) (C:Addr) (x q:Str) (st:Stmt) (ps:List Str) (f:Addr) (fd:FuncData):Prop where
 fu:Fun K x q st f fd
 bi:Binds K fd ps []
 me:Meth K C x f
theorem qp {K:Oy}{C:Addr}{x q:Str}{st:Stmt}{ps:List Str}{f:Addr}{oc:OA}{od an:Option Addr}{osl:Array (Option OA)}{kV doc pm cdv ct:OA}
 (l:K.lookup f=some ⟨oc,od,.func (PySem.W.fnOf x q (defArgs st) (defBody st) (defScope st) .none kV doc pm an cdv ct),osl⟩) (c:PySem.W.codeIn K cdv q=true) (k:PySem.W.keepIn K (.ref f)=true) (a:PySem.W.findIn K (.ref C) x=some (some (.ref f))) (i:PySem.W.isFn K (.ref f)=true)
 (h:∀(kV doc pm:OA)(an:Option Addr)(cdv ct:OA)(us:List OA),us.length=ps.length->bindArgs (PySem.W.fnOf x q (defArgs st) (defBody st) (defScope st) .none kV doc pm an cdv ct) ⟨us,[]⟩=pure (ps.zip us)) :
 Mt K C x q st ps f (PySem.W.fnOf x q (defArgs st) (defBody st) (defScope st) .none kV doc pm an cdv ct):=
 have F:Fun K x q st f _:=nc l c k
 ⟨F,F.binds h,a,i,k⟩
section
variable {P:Oz}{w:World}{K:Oy}{mg:Str->Option OA}{base:Heap}
end
theorem BF (hc:X.calm=true)(S:CScope X scope tN capN caps)(hi:PI X tg iter wi)(hs:autoParam (∀ x,foldedSetIterable iter X.env x=pure x) OF._auto_1) :
 PE X (.ListComp elt [⟨tg,iter,ifs,0⟩] scope pos) (rM X scope tg tN capN caps elt ifs wi):=λpins s σ H Q I h=>pS hc S I hi h hs
def Fd (K:Oy):List V->Hp->VK->Prop:=λxs H Q=>∃ p ns,xs=[.ref p]/\SqL K H p (ns.map V.int)/\ns≠[]/\Q (.int (oA ns)) H
theorem zF (hc:X.calm=true):CallR X (.builtin "min") (Fd X.K):=rH hc
theorem zG (h2:tN.length=2)(hg:∀ cl C s3 H3 fp,PG (c9 X scope (tN++[]) cl C s3 H3 fp) tg (o8 X.K 2 (dG (bv 0) (dG (bv 1) o7))))(he:∀ cl C s3 H3 fp,PE (c9 X scope (tN++[]) cl C s3 H3 fp) elt (aw 0)) :
 Ip (ER (Fd X.K) (au (rM X scope tg tN [] [] elt [] (lZ X.K (aw 1))) bq)):=by
 intro σ H a vs its Q h1 hl a2 hne aR k;refine⟨_,h1,a,rfl,⟨_,SqL.of hl⟩,?_⟩;intro Dl hD cl C s3 fp;have hDa:a≠Dl:=af hl hD;have hlv:=a2.len;refine⟨_,_,_,λi m acc H'=>m=its.length-i/\i<=its.length/\acc=((its.take i).map λx=>V.int x.1)/\Same H H'/\H' Dl=some (.lst acc),hg cl C s3 _ fp,xP,he cl C s3 _ fp,⟨its.length,by simp,LF _,by simp,aE hD,ac⟩,?_⟩;rintro i m acc H' ⟨rfl,hi,rfl,s,hDl⟩;have hl':=s _ _ hl;refine⟨hDl,?_⟩;by_cases hlt:i<its.length
 .right;have hiv:i<vs.length:=by lia
  refine⟨⟨vs,vs[i],SqL.of hl',by simp[hiv]⟩,λxv H'' o y ho=>?_⟩;obtain⟨rfl,y⟩:=y;have hx:=y vs (SqL.of hl');obtain⟨x,ex,p,w,rfl,hp,_⟩:=a2.get hx;rw[h2]at ho
  match o,ho with
  | [u0,u1],_=>
  refine⟨p,_,rfl,SqT.of (s _ _ hp),rfl,_,_,rfl,_,_,rfl,rfl,?_⟩;refine⟨λj hj=>?_,?_⟩
  .rw[h2]at hj
   match j,hj with
   |j+2,_=>rfl
  .refine sN ?_;refine⟨_,rfl,hDl,?_,its.length-(i+1),by lia,rfl,hlt,?_,λc u e=>?_,ac⟩
   .rw[Kw,Mi];have:=Nj i its;lia
   .rw[MP,ex,K6];rfl
   .rw[aa (af e hD)];exact s _ _ e
 .left;have ei:i=its.length:=by lia
  subst ei;refine⟨⟨vs,SqL.of hl',by lia⟩,Dl,its.map (·.1),rfl,?_,by simpa using hne,?_⟩
  .rw[List.take_length]at hDl;rw[KZ];exact SqL.of hDl
  .rw[ya];exact k H' s
section
variable {β:Type}(eD:β->D)(el:Pz.Arr×Pz.Val->β)
def kK (t:Pz.TD):Pz.MD (Int×Int) β:=t.foldl (λd x=>d.app (x.1.1,x.1.2.1) (el x)) []
def qu (d:Pz.MD (Int×Int) β):D:=.dic (d.map λe=>.inr (k2 e.1)) (d.map λe=>.lst (e.2.map eD))
open Classical in
def Iy (ds:List D):Res R:=match ds with
 | [d]=>if h:∃ t:Pz.TD,d=dc t/\t.length<16000000 then .ok (.fre (qu eD (kK el (Classical.choose h)))) else .stuck
 |_=>.stuck
end
theorem BH (h:mC a=mC b):a=b:=by
 have oi:∀{x y:Option Int},oD x=oD y->x=y:=λ{x y} e=>by
  cases x<;>cases y
  .rfl
  .cases e
  .cases e
  .injection e with e;rw[e]
 unfold mC at h;injection h with h;injection h with h0 h;injection h with h1 h;injection h with h2 h;injection h0 with h0;exact Nf h0 (Nf (oi h1) (oi h2))
theorem zH:∀{t s:Pz.TD},dc t=dc s->t=s:=by
 intro t s h;unfold dc at h;injection h with h1 h2;induction t generalizing s with
 |nil=>cases s with
  |nil=>rfl
  |cons _ _=>cases h1
 |cons x t ih=>cases s with
  |nil=>cases h1
  |cons y s=>rw[Kr,Kr]at h1 h2;injection h1 with a1 b1;injection h2 with a2 b2;rw[ih b1 b2,Nf (lT _ _ (MG a1)) (BH a2)]
theorem GK {β:Type}{eD:β->D}{el:Pz.Arr×Pz.Val->β}{t:Pz.TD}(h:t.length<16000000):Iy eD el [dc t]=.ok (.fre (qu eD (kK el t))):=by have hex:∃ s:Pz.TD,dc t=dc s/\s.length<16000000:=⟨t,rfl,h⟩;unfold Iy;dsimp only;rw[dif_pos hex,<- zH (Nb hex).1]
theorem yg {β:Type}(el:Pz.Arr×Pz.Val->β):∀(t:Pz.TD)(d:Pz.MD (Int×Int) β),d.Ok->(t.foldl (λd x=>d.app (x.1.1,x.1.2.1) (el x)) d).Ok/\(t.foldl (λd x=>d.app (x.1.1,x.1.2.1) (el x)) d).flat.length=d.flat.length+t.length
 | [],d,h=>⟨h,rfl⟩
 |x::t,d,h=>by rw[Mg,Ky];obtain⟨a,b⟩:=yg el t _ (Pz.nH h (x.1.1,x.1.2.1) (el x));have:=(Pz.gC h.nk (x.1.1,x.1.2.1) (el x)).length_eq;rw[Ky]at this;exact⟨a,by lia⟩
section
variable {X:Cx}{K:Oy}{H:Hp}{β:Type}{it:Hp->β->V->Prop}{eD:β->D}{el:Pz.Arr×Pz.Val->β}{ws:Pz.Arr×Pz.Val->Addr->List V}{te:TE}
def Kn (X:Cx)(K:Oy)(te:TE):TS:=
 gA (o9 m8 (bv 1))
 (gA (λD σ H=>ou (F5 X (aw 0)) (o8 K 2 (dG (bv 2) (dG (bv 3) o7)))
   (f_ (oh K (aw 1) (ke (au (tI K 2 0) (au (tI K 2 1) bq))) te)) (Hg X D) σ H)
 (uh (aw 1)))
structure GrOk (it:Hp->β->V->Prop) (eD:β->D) (el:Pz.Arr×Pz.Val->β) (ws:Pz.Arr×Pz.Val->Addr->List V) (te:TE):Prop where
 ma:∀(H:Hp)(x:Pz.Arr×Pz.Val)(b q:Addr)(v0 v1:Option V),H b=some (.tup (arrV x.1))->H q=some (.tup [.int x.2.1,vO x.2.2.1,vO x.2.2.2])->Makes te [v0,v1,some (.ref b),some (.ref q)] H (ws x b)
 is:∀(H:Hp)(x:Pz.Arr×Pz.Val)(b p:Addr),H b=some (.tup (arrV x.1))->H p=some (.tup (ws x b))->it H (el x) (.ref p)
 kp:∀{H H':Hp},KT H H'->∀ a v,it H a v->it H' a v
 d:∀(H:Hp)(m:Addr->Prop) a v,it H a v->Is H m (eD a) v
theorem Iz (h:Is H m (mC x) v):∃ q,v=.ref q/\H q=some (.tup [.int x.1,vO x.2.1,vO x.2.2]):=by
 obtain⟨a,vs,rfl,ha,v0,r0,rfl,e0,v1,r1,rfl,e1,v2,r2,rfl,e2,rfl⟩:=h;have ho:∀(o:Option Int)(v:V),Is H m (oD o) v->v=vO o:=λo v e=>by cases o<;>exact e
 obtain rfl:v0=.int x.1:=e0;rw[ho _ _ e1,ho _ _ e2]at ha;exact⟨a,rfl,ha⟩
theorem yh (O:GrOk it eD el ws te){t:Pz.TD}{B:Hp}{H1:Hp}{D:Ends}(aR:t.length<16000000)(hd:B d=some (.frz o u))(hk:(t.map λx=>(Sum.inr (ak x.1):DK))=kvs.map λp=>.inr p.1)(hall:∀(i:Nat)(x:Pz.Arr×Pz.Val)(p:List Key×V),t[i]?=some x->kvs[i]?=some p->∃ q,p.2=.ref q/\B q=some (.tup [.int x.2.1,vO x.2.2.1,vO x.2.2.2]))
 (har:B ar=none) (s1:Same B H1) (h1:H1 ar=some (.dT [])) {v0:V} (hend:∀ σ H2 xr,(∃ a b,σ=[some v0,some (.ref ar),a,b])->Same B H2->DL .dT H2 ar xr->RepM k2 it H2 (kK el t) xr->(∀ c,InD ar xr c->B c=none)->D.nx σ H2) :
 ∃ W:Nat->Nat->L2.St->Hp->Prop,(∃ m,W 0 m [some v0,some (.ref ar),none,none] H1)/\∀ i m σ H,W i m σ H->
  ((EY d o u kvs).stop i H/\D.nx σ H)\/((EY d o u kvs).go i H/\∃ N:L2.St->Hp->Prop,(∀ σ' H',N σ' H'->∃ m',m'<m/\W (i+1) m' σ' H')/\∀ x H',(EY d o u kvs).yld i H x H'->o8 K 2 (dG (bv 2) (dG (bv 3) o7)) x σ H' λσ2 H2=>f_ (oh K (aw 1) (ke (au (tI K 2 0) (au (tI K 2 1) bq))) te) { D with nx:=N,ct:=N,bk:=D.nx } σ2 H2):=by
 have hl:t.length=kvs.length:=by have:=LA List.length hk;simpa using this
 refine⟨λi m σ Hc=>m=t.length-i/\i<=t.length/\(∃ a b,σ=[some v0,some (.ref ar),a,b])/\∃ xr,Same B Hc/\DL .dT Hc ar xr/\RepM k2 it Hc (kK el (t.take i)) xr/\∀ c,InD ar xr c->B c=none,⟨t.length,by simp,LF _,⟨_,_,rfl⟩,[],s1,⟨h1,λ_ h=>(KG h).elim,KY,KY⟩,?_,λc i=>?_⟩,?_⟩
 .exact .nil
 .rcases i with rfl|⟨x,hx,_⟩
  .exact har
  .exact(KG hx).elim
 rintro i m σ H2 ⟨rfl,hi,⟨a2,a3,rfl⟩,xr,s2,D2,R2,n2⟩;by_cases hlt:i<t.length
 .refine .inr ⟨⟨s2 _ _ hd,by lia⟩,λσ' H'=>(∃ a b,σ'=[some v0,some (.ref ar),a,b])/\∃ xr,Same B H'/\DL .dT H' ar xr/\RepM k2 it H' (kK el (t.take (i+1))) xr/\∀ c,InD ar xr c->B c=none,λσ' H' p'=>⟨t.length-(i+1),by lia,rfl,hlt,p'⟩,λy H' z=>?_⟩;obtain⟨p,b,k,v,hp,rfl,hb,rfl,ek⟩:=z;have hx:t[i]?=some t[i]:=by simp[hlt]
  generalize t[i]=x at hx;have ek1:k=ak x.1:=by have:=LA (λl=>l[i]?) hk;simp only[KN,hx,ek,Option.map_some,Option.some.injEq,Sum.inr.injEq]at this;exact this.symm
  subst ek1;obtain⟨q,e,hq⟩:=hall i x _ hx ek;dsimp only at e;subst e;have hb:H2 b=some (.tup (arrV x.1)):=hb;have e1:kK el (t.take (i+1))=(kK el (t.take i)).app (x.1.1,x.1.2.1) (el x):=by unfold kK;rw[MP,hx,Mm];rfl
  have bl:=yg el (t.take i) [] Pz.sj;have hf:(Pz.MD.flat ([]:Pz.MD (Int×Int) β)).length=0:=rfl;have htl:=Nj i t;have bl2:(kK el (t.take i)).flat.length<16000000:=by have:=bl.2;unfold kK;lia
  have bl1:(kK el (t.take i)).Ok:=bl.1;clear bl;rw[e1];generalize kK el (t.take i)=dm at R2 bl1 bl2;have s3:Same H2 (aB H2 p (.tup [.ref b,.ref q])):=aE hp;have hp3:aB H2 p (.tup [.ref b,.ref q]) p=some (.tup [.ref b,.ref q]):=ac;have D3:DL .dT (aB H2 p (.tup [.ref b,.ref q])) ar xr:=D2.keep λc u e _=>s3 c u e;have R3:=R2.keep (O.kp (lw s3));have s03:=s2.trans s3;have hb3:=s3 _ _ hb;have hq3:=s03 _ _ hq;generalize aB H2 p (.tup [.ref b,.ref q])=H3 at s3 hp3 D3 R3 s03 hb3 hq3;refine⟨p,_,rfl,SqT.of hp3,rfl,_,_,rfl,_,_,rfl,rfl,?_⟩;refine sr (a:=ar) (ks:=[.int x.1.1,.int x.1.2.1]) (λQ q=>⟨_,rfl,q⟩) D3.root (λQ' hQ=>⟨_,rfl,b,_,0,_,rfl,rfl,SqT.of hb3,rfl,_,rfl,b,_,1,_,rfl,rfl,SqT.of hb3,rfl,(by show 2<=sizeLine;decide),hQ⟩) λbb hbb=>?_;have s4:Same H3 (aB H3 bb (.tup [.int x.1.1,.int x.1.2.1])):=aE hbb;have hb4:aB H3 bb (.tup [.int x.1.1,.int x.1.2.1]) bb=some (.tup [.int x.1.1,.int x.1.2.1]):=ac;have D4:DL .dT (aB H3 bb (.tup [.int x.1.1,.int x.1.2.1])) ar xr:=D3.keep λc u e _=>s4 c u e;have R4:=R3.keep (O.kp (lw s4));generalize aB H3 bb (.tup [.int x.1.1,.int x.1.2.1])=H4 at s4 hb4 D4 R4;have nt:∀ c vs,H4 c=some (.tup vs)->c≠ar:=λc vs e z=>by rw[z,D4.root]at e;cases e
  refine oS (a:=ar) (b:=bb) (xs:=xr) (k:=k2 (x.1.1,x.1.2.1)) (ws:=ws x b) D4 (λQ q=>q) (λQ q=>q) hb4 (λH' kp=>O.ma H' x b q _ _ (kp _ _ (s4 _ _ hb3) (nt _ _ (s4 _ _ hb3))) (kp _ _ (s4 _ _ hq3) (nt _ _ (s4 _ _ hq3)))) (by rw[<- R4.len];have:=Pz.js bl1;lia) (R4.low bl2) ?_;intro l5 p5 H5 hl5 hp5 hm5 hd5 kp5;have kt5:=D4.kt (λ_ _ z=>HO.noConfusion z) kp5;have s05:Same B H5:=λc u e=>kp5 c u (s4 _ _ (s03 _ _ e)) λz=>by rw[n2 c z]at e;cases e
  refine⟨⟨_,_,rfl⟩,_,s05,hd5,R4.add (k:=(x.1.1,x.1.2.1)) (v:=el x) nL (O.kp kt5) (O.is H5 x b p5 (kt5 _ _ (s4 _ _ hb3)) hm5),λc z=>?_⟩;rcases jU z with z|rfl
  .exact n2 c z
  .exact(s03.trans s4).free hl5
 .refine .inl ⟨⟨s2 _ _ hd,by lia⟩,hend _ H2 xr ⟨_,_,rfl⟩ s2 D2 ?_ n2⟩;rw[L0 (by lia)]at R2;exact R2
theorem JX (O:GrOk it eD el ws te)(D2:DL .dT H' ar xr)(R2:RepM k2 it H' dm xr)(n:∀ c,InD ar xr c->H0 c=none):Is H' (nl H0 H') (qu eD dm) (.ref ar):=by
 have e:(dm.map λe=>(Sum.inr (k2 e.1):DK))=(DX.kv xr).map (λp=>.inr p.1):=by
  have h:∀{dm:Pz.MD (Int×Int) β}{xr:DX (List Key)},RepM k2 it H' dm xr->(dm.map λe=>(Sum.inr (k2 e.1):DK))=(DX.kv xr).map (λp=>.inr p.1):=λ{dm xr} R=>by
   induction R with
   |nil=>rfl
   |cons r _ ih=>unfold DX.kv at ih ⊢;rw[Kr,Kr,Kr,ih,r.1]
  exact h R2
 refine⟨ar,(DX.kv xr).map Prod.snd,rfl,⟨.inr ⟨_,.inl D2.root,e,rfl⟩,n ar (.inl rfl),⟨_,D2.root,True.intro⟩⟩,?_⟩;have kid:=D2.kid;have n':∀ x∈xr,H0 x.2.1=none:=λx hx=>n _ (.inr ⟨x,hx,rfl⟩);clear e D2 n;induction R2 with
 |nil=>exact rfl
 | @cons x y dm xr r _ ih=>
  refine⟨.ref y.2.1,_,rfl,?_,ih (λz hz=>kid z (Kx _ hz)) λz hz=>n' z (Kx _ hz)⟩;have hy:=kid y KE;refine⟨y.2.1,y.2.2,rfl,.inl ⟨hy,n' y KE,⟨_,hy,True.intro⟩⟩,?_⟩;have a:=r.2;generalize x.2=xl at a;generalize y.2.2=yl at a;clear r hy ih;induction a with
  |nil=>exact rfl
  |cons h _ ih=>exact⟨_,_,rfl,O.d _ _ _ _ h,ih⟩
theorem D_ (O:GrOk it eD el ws te){mg:Str->Option OA}{vs:List V}{Q:VK}(hN:N.length=4)(h:pO mg 1 (Iy eD el) vs H Q E):Kn X K te { nx:=λ_ H'=>Q .non H',rt:=Q } (L2.dh N vs) H:=by
 obtain⟨hl,ds,Ma,is,post⟩:=h
 match vs,hl with
 | [v0],_=>
 have est:L2.dh N [v0]=[some v0,none,none,none]:=by unfold L2.dh;rw[hN];rfl
 rw[est]
 match ds,is with
 | [d0],is=>
 obtain⟨v,r,ev,is0,e0⟩:=is;cases e0;cases ev;unfold Iy at post;dsimp only at post;by_cases hex:∃ t:Pz.TD,d0=dc t/\t.length<16000000
 case neg=>rw[dif_neg hex]at post;exact post.elim
 case pos=>
 rw[dif_pos hex]at post;have hch:=Nb hex;generalize Classical.choose hex=t at post hch;obtain⟨rfl,aR⟩:=hch;obtain⟨d,kvs,u,rfl,md,hu,hrd,hk,hall⟩:=jb is0 (λk hk=>by obtain⟨x,_,rfl⟩:=KH.mp hk;exact⟨_,rfl⟩);have iu:iZ u:=by rcases hu with rfl|⟨rfl,_⟩<;>exact True.intro
 have hall':∀(i:Nat)(x:Pz.Arr×Pz.Val)(p:List Key×V),t[i]?=some x->kvs[i]?=some p->∃ q,p.2=.ref q/\H q=some (.tup [.int x.2.1,vO x.2.2.1,vO x.2.2.2]):=λi x p hx hp=>by obtain⟨v',ev,iv⟩:=hall.get (i:=i) (d:=mC x.2) (by rw[KN,hx];rfl);rw[KN,hp]at ev;cases ev;exact Iz iv
 have fin:∀(ar:Addr)(H':Hp)(xr:DX (List Key)),Same H H'->DL .dT H' ar xr->RepM k2 it H' (kK el t) xr->(∀ c,InD ar xr c->H c=none)->Q (.ref ar) H':=λar H' xr s D2 R2 n=>post _ H' s (JX O D2 R2 n);clear post;intro ar har;have s1:Same H (aB H ar (.dT [])):=aE har;refine⟨_,rfl,d,kvs,u,rfl,hu,?_⟩;rcases hrd with hrd|⟨o,hrd⟩
 .right;have nda:d≠ar:=af hrd har;refine⟨by rw[aa nda];exact hrd,λo hnf=>?_⟩;have cm:aB (aB H ar (.dT [])) d (.frz o u)=aB (aB H d (.frz o u)) ar (.dT []):=by funext c;unfold aB;by_cases a:c=d<;>by_cases b:c=ar<;>simp_all
  have harB:aB H d (.frz o u) ar=none:=by rw[aa (LJ nda)];exact har
  rw[cm];refine yh (K:=K) (D:=Hg X { nx:=λσ' H'=>(uh (aw 1)) { nx:=λ_ H'=>Q .non H',rt:=Q } σ' H',rt:=Q }) O aR (B:=aB H d (.frz o u)) ac hk (λi x p hx hp=>?_) harB (aE harB) ac ?_
  .obtain⟨q,e,hq⟩:=hall' i x p hx hp;refine⟨q,e,?_⟩;rw[aa λz=>by rw[z,hrd]at hq;cases hq;rcases hu with z|⟨z,_⟩<;>cases z];exact hq
  .rintro σ H2 xr ⟨a,b,rfl⟩ s2 D2 R2 n2;refine .inr ⟨d,o,u,s2 _ _ ac,iu,hnf,?_⟩;have ndD:∀ c,InD ar xr c->c≠d:=λc hc z=>by have:=n2 c hc;rw[z,ac]at this;cases this
   refine⟨_,rfl,fin ar _ xr (λc w e=>?_) (D2.keep λc w e i=>by rw[aa (ndD c i)];exact e) (R2.keep (O.kp λc ws e=>?_)) λc i=>?_⟩
   .by_cases z:c=d
    .rw[z]at e ⊢;rw[ac,<- e,hrd]
    .rw[aa z];exact s2 c w (by rw[aa z];exact e)
   .rw[aa λz=>by rw[z,s2 _ _ ac]at e;cases e];exact e
   .have:=n2 c i;rw[aa (ndD c i)]at this;exact this
 .left;refine⟨o,s1 _ _ hrd,?_⟩;refine yh (K:=K) (D:=Hg X { nx:=λσ' H'=>(uh (aw 1)) { nx:=λ_ H'=>Q .non H',rt:=Q } σ' H',rt:=Q }) O aR (B:=H) hrd hk hall' har s1 ac ?_;rintro σ H2 xr ⟨a,b,rfl⟩ s2 D2 R2 n2;exact .inl ⟨_,rfl,fin ar H2 xr s2 D2 R2 n2⟩
def JY (H:Hp)(x:Pz.Arr×Int)(v:V):Prop:=∃ p w,v=.ref p/\H p=some (.tup [w,.int x.2])/\IsArr H x.1 w
def qM (x:Pz.Arr×Int):D:=.tup [bn x.1,.int x.2]
noncomputable def qN (x:Pz.Arr×Pz.Val):Pz.Arr×Int:=(x.1,x.2.1)
theorem GL (h:IsArr H a v):Is H m (bn a) v:=by obtain⟨p,rfl,h⟩:=h;exact⟨p,_,rfl,h,_,_,rfl,rfl,_,_,rfl,rfl,_,_,rfl,rfl,rfl⟩
theorem IA:GrOk JY qM qN (λx b=>[.ref b,.int x.2.1]) (ke (au (aw 2) (au (tI K 3 0) bq))) where
 ma:=λH x b q v0 v1 hb hq Q hQ=>⟨_,rfl,_,rfl,q,_,0,_,rfl,rfl,SqT.of hq,rfl,(by show 2<=sizeLine;decide),hQ⟩
 is:=λH x b p hb hp=>⟨p,_,rfl,hp,b,rfl,hb⟩
 kp:=λk a v ⟨p,w,e,h,g⟩=>⟨p,w,e,k _ _ h,IsArr.keep k _ _ g⟩
 d:=λH m a v ⟨p,w,e,h,g⟩=>⟨p,_,e,h,_,_,rfl,GL g,_,_,rfl,rfl,rfl⟩
end
end L4
namespace L2
open PySem PySem.Spec PySem.Calls PyProof.Rows
section
variable {prog:Oz}{w:World}{A:OB}{R:Result->Ox->Prop}{I:Addr}{fp wr:List Addr}{G:Array GenState->Array GenState->Prop}{n:Nat}{P:Nat->OA->Prop}{St:Nat->Ox->Prop}
def qw (h h':Heap):Prop:=∀ b o,h.get? b=some o->h'.get? b=some o
def BI (prog:Oz)(w:World)(A:OB)(h0:Heap)(P:Nat->OA->Prop)(bt:Nat->Nat->Bool):Prop:=∀ i j u v (s:Ox) (Q:OA->Ox->Prop) (E:OA->Ox->Prop),qw h0 s.heap->P i u->P j v->Q (.bool (bt i j)) s->wpAny (model prog w) A (richCompare .Lt u v) Q E s
theorem ly:(toString "min"++toString ".loop" : String)="min.loop":=by decide
theorem zI (W:WalksS prog w A.in1 I fp wr G n P St){bt:Nat->Nat->Bool}{h0:Heap}(hcmp:BI prog w A.in1 h0 P bt)(hwr:∀ b∈wr,h0.get? b=none){S:Addr}(hS:S∉fp)(hS0:h0.get? S=none){kw:List (Str×OA)} :
 ∀(k j:Nat)(s:Ox)(vb:OA)(c:Nat),n-(j+1)=k->j+1<=n->St (j+1) s->qw h0 s.heap->P (argBest bt j) vb->s.heap.get? S=some { cls:=.type "list",dict:=none,data:=.seq #[vb,vb] c,slots:=#[] }->
  (∀ v s',P (argBest bt (n-1)) v->Moved (S::wr) G s s'->R (.ok (.ret v)) s')->codeAny (model prog w) A (.builtin "min.loop" ⟨[.ref I,.none,.ref S],kw⟩) R s:=by
 have sw:S∉wr:=λh=>hS (W.sub _ h);have sub:∀ b∈wr,b∈S::wr:=λb hb=>Kx _ hb;have nS:∀{b:Addr},b∉S::wr->S≠b:=λhb h=>hb (h▸KE);have kpM:∀{s s':Ox},qw h0 s.heap->Moved wr G s s'->qw h0 s'.heap:=λhk hm b o e=>hm.heap b o (λz=>by rw[hwr b z]at e;cases e) (hk b o e);intro k;induction k with
 |zero=>
  intro j s vb c hk hj hst kp hP he hR;have ej:j+1=n:=by lia
  refine Nz F.entry_min_loop ?_;rw[MK MB _];refine Kp (Od he rfl (Kp (NN (W.done s _ _ (ej▸hst) λs' hm=>?_))));have he':=hm.heap S _ sw he;refine Kp (wpAny_updateSeq he' rfl (Kp (Oi (Kt ?_))));exact hR vb _ (by rw[<- ej];exact hP) ((hm.mono sub).then_heap (tk:=s'.toks) (Kq _) λb o hb e=>(LM _ _ (nS hb)).trans e)
 |succ k ih=>
  intro j s vb c hk hj hst kp hP he hR;have hlt:j+1<n:=by lia
  refine Nz F.entry_min_loop ?_;rw[MK MB _];refine Kp (Od he rfl (Kp (NN (W.item (j+1) s _ _ hlt hst λv s' hP' hst' hm=>?_))));have he':=hm.heap S _ sw he;have kp':=kpM kp hm;show wpAny _ A.in1 (tryCatch (holding [v,v] (richCompare .Lt v vb >>= _)) _ >>= _) _ _ _;refine Kp (NN (Mo (Kp (hcmp (j+1) (argBest bt j) v vb _ _ _ kp' hP' hP (Kp (Mo (LV (Kp (Oi (Kt ?_))))))))));cases hb:bt (j+1) (argBest bt j) with
  |true=>
   simp only[MS];refine Kp (wpAny_updateSeq he' rfl (Kp (Oi ?_)));rw[ly];refine Kt ⟨NA MB _,ih (j+1) _ v _ (by lia) hlt (W.frame _ s' _ s'.toks hst' (Kq _) λb hbf o e=>?_) (λb o e=>?_) (by simp only[argBest,hb,MS];exact hP') (Na _ he' rfl) λv' s'' hP'' hm''=>?_⟩
   .exact(LM _ _ (λh:S=b=>hS (h▸hbf))).trans e
   .exact(LM _ _ (λh:S=b=>by rw[<- h,hS0]at e;cases e)).trans (kp' b o e)
   .exact hR v' s'' hP'' (Moved.trans W.gtrans ((hm.mono sub).then_heap (Kq _) λb o hb e=>(LM _ _ (nS hb)).trans e) hm'')
  |false=>simp only[M8,Nd];refine Kp (Oi ?_);rw[ly];refine Kt ⟨NA MB _,ih (j+1) _ vb c (by lia) hlt hst' kp' (by simp only[argBest,hb,M8,Nd];exact hP) he' λv' s'' hP'' hm''=>?_⟩;exact hR v' s'' hP'' (Moved.trans W.gtrans (hm.mono sub) hm'')
theorem zJ (d:OA):Builtin.Builtins.bindParams "min" ["key", "default"] 0 ⟨[],[(("default" : Str),d)]⟩=pure [none,some d]:=by rfl
theorem zK (a d:OA):argsOk "min" ⟨[a],[(("default" : Str),d)]⟩:=by unfold argsOk;kernel_rfl
theorem zL {E:OA->Ox->Prop}{s:Ox}{x d:OA}{Q:OA->Ox->Prop}
 (h:wpAny (model prog w) A.in1 (pyIter x) (λit s₂=>∃ I fp wr G n P St bt h0,it=.ref I/\WalksS prog w A.in1 I fp wr G n P St/\St 0 s₂/\(∀ b∈fp,b<s₂.heap.objs.size)/\BI prog w A.in1 h0 P bt/\qw h0 s₂.heap/\(∀ b∈wr,h0.get? b=none)/\
   (n=0->∀ s',Moved wr G s₂ s'->Q d s')/\(0<n->∀ v s',P (argBest bt (n-1)) v->Moved wr G s₂ s'->Q v s')) E s) :
 wpAny (model prog w) A (call (.builtin "min") [x] [(("default" : Str),d)]) Q E s:=by
 refine PyProof.Rows.kmk_tree PySem.F.kind_min PySem.F.plain_min PySem.F.entry_min (zK _ _) ?_;show wpAny _ A.in1 (Builtin.Builtins.bindParams "min" ["key", "default"] 0 ⟨[],[(("default" : Str),d)]⟩ >>= _) _ _ s;refine Kp (wpAny_of_eq (zJ d) ?_);refine Kp (Kt ?_);refine Kp (Ms h (λit s₂ h₂=>?_) λ_ _ e=>e);obtain⟨I,fp,wr,G,n,P,St,bt,h0,rfl,W,hst,hfp,hcmp,kp,hwr,q0,q1⟩:=h₂;have hSf:s₂.heap.objs.size∉fp:=λhm=>My _ (hfp _ hm);have hSw:s₂.heap.objs.size∉wr:=λh=>hSf (W.sub _ h);have hS0:h0.get? s₂.heap.objs.size=none:=by
  cases e:h0.get? s₂.heap.objs.size with
  |none=>rfl
  |some o=>exact absurd (KD (kp _ _ e)) (My _)
 refine Kp (LL ?_);rw[ly];have st1:=W.frame 0 s₂ (s₂.heap.push { cls:=.type "list",data:=.seq #[] }) s₂.toks hst (Kq _) λb _ o e=>Ks _ e;have he:(s₂.heap.push { cls:=.type "list",data:=.seq #[] }).get? s₂.heap.objs.size=_:=KF _ rfl;have nS:∀{b:Addr},b∉s₂.heap.objs.size::wr->s₂.heap.objs.size≠b:=λhb h=>hb (h▸KE);have sub:∀ b∈wr,b∈s₂.heap.objs.size::wr:=λb hb=>Kx _ hb;refine Kt ⟨NA MB _,Nz F.entry_min_loop ?_⟩;rw[MK MB _];refine Kp (Od he rfl (Kp (NN ?_)));by_cases hn:n=0
 .subst hn;refine W.done _ _ _ st1 λs' hm=>?_;refine Kp (NJ (Kt ?_));exact q0 rfl s' (Moved.drop_new (tk:=s₂.toks) (hm.mono sub) (Kq _))
 .refine W.item 0 _ _ _ (by lia) st1 λv s' hP hst' hm=>?_;have he':=hm.heap _ _ hSw he;show wpAny _ A.in1 (updateSeq s₂.heap.objs.size (λ_=>#[v,v]) >>= _) _ _ _;refine Kp (wpAny_updateSeq he' rfl ?_);rw[ly];refine Kt ⟨NA MB _,zI W hcmp hwr hSf hS0 _ 0 _ v _ rfl (by lia) (W.frame _ s' _ s'.toks hst' (Kq _) λb hbf o e=>?_) (λb o e=>?_) hP (Na _ he' rfl) λv' s'' hP' hm''=>?_⟩
  .exact(LM _ _ (λh:s₂.heap.objs.size=b=>hSf (h▸hbf))).trans e
  .exact(LM _ _ (λh:s₂.heap.objs.size=b=>by rw[<- h,hS0]at e;cases e)).trans (hm.heap b o (λz=>by rw[hwr b z]at e;cases e) (Ks _ (kp b o e)))
  .exact q1 (by lia) v' s'' hP' (Moved.drop_new (tk:=s₂.toks) (Moved.trans W.gtrans ((hm.mono sub).then_heap (Kq _) λb o hb e=>(LM _ _ (nS hb)).trans e) hm'') (Kq _))
end
def w6 (K:Oy)(H:Hp)(vs:List V)(ks:List (List Int)):Prop:=ks.length=vs.length/\∀(i:Nat) v k,vs[i]?=some v->ks[i]?=some k->∃ a,v=.ref a/\SqT K H a (k.map .int)
def w8 (vs:List V)(ks:List (List Int)):Prop:=ks.length=vs.length/\∀(i:Nat) v k,vs[i]?=some v->ks[i]?=some k->∃ n,k=[n]/\v=.int n
def t8 (ks:List (List Int))(i j:Nat):Bool:=HT.lexLt (ks[i]?.getD []) (ks[j]?.getD [])
def IB (K:Oy)(te:TE):TE:=λσ H Q=>te σ H λx H1=>∃ p vs ks,x=.ref p/\SqL K H1 p vs/\(w6 K H1 vs ks\/w8 vs ks)/\(vs=[]->Q .non H1)/\∀ v,vs[argBest (t8 ks) (vs.length-1)]?=some v->Q v H1
section
variable {X:Cx}
theorem yi (bt:Nat->Nat->Bool):∀ n,argBest bt n<=n
 |0=>Kq _
 |n+1=>by unfold argBest;split;exact Kq _;exact Nat.le_succ_of_le (yi bt n)
theorem Ea {pins:List (Addr×Obj)}{s:Ox}{σ:St}{H:Hp}{p:Addr}{vs:List V}{ks:List (List Int)}{Q:VK}(hc:X.calm=true)(hu:X.A.units+64<cLine)(I:Inv X pins σ H s)(hl:SqL X.K H p vs)(hk:w6 X.K H vs ks\/w8 vs ks)(q0:vs=[]->Q .non H)(q1:∀ v,vs[argBest (t8 ks) (vs.length-1)]?=some v->Q v H) :
 wpAny (model X.prog X.w) X.A (call (.builtin "min") [.ref p] [(("default" : Str),.none)]) (EP X pins σ Q) X.xe s:=by
 obtain⟨its,rv,pl,hz⟩:=I.list hl;have hh:X.A.in1.handled=none:=I.ok.hd hc;obtain⟨o,ho,_⟩:=pl.isList;have hlt:p<s.heap.objs.size:=KD ho;have aR:=rv.length;have hkl:ks.length=vs.length:=hk.elim And.left And.left;have cmp:BI X.prog X.w X.A.in1 s.heap (λi v=>its[i]?=some v) (t8 ks):=by
  intro i j u v s' Q' E' kp hu' hv' hQ;have hi:i<its.length:=(KA.mp hu').1;have hj:j<its.length:=(KA.mp hv').1;have eki:ks[i]?=some ks[i]:=by simp[show i<ks.length by lia]
  have ekj:ks[j]?=some ks[j]:=by simp[show j<ks.length by lia]
  have evi:vs[i]?=some vs[i]:=by simp[show i<vs.length by lia]
  have evj:vs[j]?=some vs[j]:=by simp[show j<vs.length by lia]
  obtain⟨u',e1,r1⟩:=rv.get evi;obtain⟨v',e2,r2⟩:=rv.get evj;rw[hu']at e1;cases e1;rw[hv']at e2;cases e2;unfold t8 at hQ;rw[eki,ekj]at hQ;simp only[Option.getD_some]at hQ;generalize ks[i]=ki at eki hQ;generalize ks[j]=kj at ekj hQ;generalize vs[i]=wi at evi r1;generalize vs[j]=wj at evj r2;rcases hk with hk|hk
  .obtain⟨a,rfl,ha⟩:=hk.2 i _ _ evi eki;obtain⟨b,rfl,hb⟩:=hk.2 j _ _ evj ekj;cases r1;cases r2;obtain⟨ia,ra,pa,_⟩:=I.tuple ha;obtain⟨ib,rb,pb,_⟩:=I.tuple hb;obtain⟨oa,ea,pa⟩:=pa;obtain⟨ob,eb,pb⟩:=pb;refine HT.lt_tupInts (s:=s') ⟨oa,kp _ _ ea,pa⟩ ⟨ob,kp _ _ eb,pb⟩ (pB ra) (pB rb) ?_ hQ;show X.A.units+1<cLine;lia
  .obtain⟨m,rfl,rfl⟩:=hk.2 i _ _ evi eki;obtain⟨n,rfl,rfl⟩:=hk.2 j _ _ evj ekj;obtain⟨t1,rfl⟩:=r1;obtain⟨t2,rfl⟩:=r2;refine HT.rcLt_int _ _ _ _ _ _ _ _ _ _ ?_;have:HT.lexLt [m] [n]=decide (m<n):=by
    show(if m=n then false else decide (m<n))=_;split
    .rename_i e;rw[KL (by lia)]
    .rfl
   rw[<- this];exact hQ
 refine zL (Nc pl.isList ?_);refine⟨s.heap.objs.size,_,_,_,_,_,_,t8 ks,s.heap,rfl,(Walks.list hh s.heap.objs.size p (KR hlt) its.toArray).toS,⟨⟨_,KF _ rfl,rfl,rfl⟩,?_⟩,?_,?_,?_,?_,?_,?_⟩
 .exact pl.isList.at λo e=>Ks _ e
 .intro b hb;rw[Oc];rcases KB.mp hb with e|hb
  .rw[e];exact Nm _
  .rcases KB.mp hb with e|hb
   .rw[e];exact Nat.lt_succ_of_lt hlt
   .cases hb
 .intro i j u v s' Q' E' kp hu' hv' hQ;exact cmp i j u v s' Q' E' kp (by simpa using hu') (by simpa using hv') hQ
 .exact λb o e=>Ks _ e
 .intro b hb;obtain rfl:=KJ.mp hb;cases e:s.heap.get? s.heap.objs.size with
  |none=>rfl
  |some o=>exact absurd (KD e) (My _)
 .intro hn s' hm;have e0:vs=[]:=LX.mp (by rw[aR];simpa using hn);exact⟨.non,H,back I hm,rfl,q0 e0⟩
 .intro hn v s' hv hm;have hv:its[argBest (t8 ks) (its.length-1)]?=some v:=by simpa using hv
  have hb:=yi (t8 ks) (vs.length-1);have hpos:0<its.length:=by simpa using hn
  have ev:vs[argBest (t8 ks) (vs.length-1)]?=some (vs[argBest (t8 ks) (vs.length-1)]'(by lia)):=by simp
  obtain⟨u',e1,r1⟩:=rv.get ev;rw[aR,hv]at e1;cases e1;exact⟨_,H,back I hm,r1,q1 _ ev⟩
where
 back {X:Cx} {pins:List (Addr×Obj)} {s s':Ox} {σ:St} {H:Hp} {p:Addr} (I:Inv X pins σ H s) (hm:Moved [s.heap.objs.size] (λa b=>b=a) { s with heap:=s.heap.push { cls:=.type "list_iterator",data:=.fields #[.ref p,.int 0 0] } } s'):Inv X pins σ H s':=by obtain⟨h',g',d',tk',os'⟩:=s';obtain rfl:g'=s.gens:=hm.gens;obtain rfl:d'=s.drawn:=hm.drawn;obtain rfl:os'=s.os:=hm.os;have I1:Inv X pins σ H { s with heap:=s.heap.push { cls:=.type "list_iterator",data:=.fields #[.ref p,.int 0 0] } }:=I.kept (t':=s.toks) λb o e=>Ks _ e;have fo:=I.fpOk (H':=H) (Kq s.heap.objs.size) (I.hok.fresh (Kq _));have I2:=I1.turned (h':=h') (t':=tk') (it:=s.heap.objs.size) (λb o hb e=>hm.heap b o (by simpa using hb) e) fo.1 fo.2.1 fo.2.2.2.1 fo.2.2.2.2.1 fo.2.2.2.2.2;exact I2
theorem Eb {e:Expr} {te:TE} {p pos kp kpos:Pos} {j:Nat} (hc:X.calm=true) (hu:X.A.units+64<cLine) (hg:Gl X "min") (hm:X.mg "min"=none) (he:PE X e te) (hst:autoParam (starEach [e] X.env=(false,eval e X.env)::starEach [] X.env) OH._auto_1)
 (hpl:autoParam (((backTo pos (starEach [e] X.env)).any (·.1) || (backToKw pos (keywordEach [⟨some "default",.Constant .none j kp,kpos⟩] X.env)).any (·.1.isNone))=false) OH._auto_1) :
 PE X (.Call (.Name "min" p) [e] [⟨some "default",.Constant .none j kp,kpos⟩] pos) (IB X.K te):=by
 intro pins s σ H Q I h;refine ME (mY I hg hm (by decide +kernel:bootBuiltins "min"=some (.builtin "min")) ?_ (by decide) (by decide));have hp:PA X [e] (au te bq):=ag he aA (hs:=hst);have hk1:PK X [⟨some "default",.Constant .none j kp,kpos⟩] (au (tC .non) bq):=C2 lK FU;refine PySem.W.callWith_of (P:=λ_=>True) hpl (λh _=>⟨Keeper.machine,.inr (.inl rfl),PySem.W.Looks.now⟩) (PyProof.Rows.evalArgs_kw2 rfl (bW (hp pos pins s σ H (λws H1=>match ws with|[x]=>(∃ p vs ks,x=.ref p/\SqL X.K H1 p vs/\(w6 X.K H1 vs ks\/w8 vs ks)/\(vs=[]->Q .non H1)/\∀ v,vs[argBest (t8 ks) (vs.length-1)]?=some v->Q v H1)|_=>False) I h) λus s1 ⟨vs,H1,I1,r,q⟩=>?_) hst);obtain⟨x,rfl⟩ : ∃ x,vs=[x]:=by
  match vs,q with
  | [x],_=>exact⟨x,rfl⟩
 obtain⟨p,vs,ks,rfl,hl,hk,q0,q1⟩:=q;obtain⟨u,rfl,ru⟩:=j_ r;cases ru;refine bW (hk1 pos pins s1 σ H1 (λvs H2=>vs=[.non]/\H2=H1) I1 ⟨rfl,rfl⟩) λws s2 ⟨zs,H2,I2,rz,e1,e2⟩=>⟨True.intro,?_⟩;subst e1 e2;obtain⟨u,rfl,ru⟩:=j_ rz;cases ru;exact Ea hc hu I2 hl hk q0 q1
end
end L2
namespace L3
open PySem PySem.Spec PyProof.Rows L2
def GM (b x:List Int):List Int:=if HT.lexLt x b then x else b
def Ec:List (List Int)->List Int
 | []=>[]
 |k::r=>r.foldl GM k
def BJ (r:R):Res R:=match r.d with
 | .lst []=>.ok (.val .non true [])
 | .lst ds=>match rX ds with
  |some ks=>.ok (.val (DE (Ec ks)) true [])
  |none=>match fW ds with
   |some ns=>.ok (.val (.int ((Ec (ns.map λn=>[n])).headD 0)) true [])
   |none=>.stuck
 |_=>.stuck
def BK (f:En->Res R):En->Res R:=λenv=>(f env).bind BJ
theorem oj:∀ k:List Int,(DE k).flat=true
 | []=>rfl
 |_::k=>oj k
theorem jA:∀(k:List Int)(r:List (List Int))(j:Nat),j<=r.length->(k::r)[argBest (t8 (k::r)) j]?=some ((r.take j).foldl GM k)
 |k,r,0,_=>by simp[argBest]
 |k,r,j+1,h=>by
  have ih:=jA k r j (by lia);have hj:j<r.length:=h;have e:(k::r)[j+1]?=some r[j]:=by simp[hj]
  have e2:r.take (j+1)=r.take j++[r[j]]:=by rw[List.take_append_getElem]
  show(k::r)[if t8 (k::r) (j+1) (argBest (t8 (k::r)) j) then j+1 else argBest (t8 (k::r)) j]?=_;rw[e2,Mm];generalize argBest (t8 (k::r)) j=b at ih;generalize (r.take j).foldl GM k=m at ih;have q:t8 (k::r) (j+1) b=HT.lexLt r[j] m:=by show HT.lexLt ((k::r)[j+1]?.getD []) ((k::r)[b]?.getD [])=_;rw[e,ih];rfl
  rw[q];show _=some (if HT.lexLt r[j] m=true then r[j] else m);by_cases z:HT.lexLt r[j] m=true
  .rw[Ku z,Ku z];exact e
  .rw[Kv z,Kv z];exact ih
theorem ss {ks:List (List Int)}(h:ks≠[]):ks[argBest (t8 ks) (ks.length-1)]?=some (Ec ks):=by
 cases ks with
 |nil=>exact(h rfl).elim
 |cons k r=>have:=jA k r r.length (Kq _);rw[List.take_length]at this;exact this
theorem yj {H:Hp}{m:Addr->Prop}:∀{ds:List D}{vs:List V}{ks:List (List Int)},IsAll H m ds vs->L3.rX ds=some ks->ks.length=vs.length/\∀(i:Nat) v k,vs[i]?=some v->ks[i]?=some k->(∃ a,v=.ref a/\H a=some (.tup (k.map .int)))/\Is H m (DE k) v
 | [],vs,ks,h,e=>by cases (show vs=[] from h);cases (show(some []:Option (List (List Int)))=some ks from e);exact⟨rfl,λi v k e=>by simp at e⟩
 |d::ds,vs,ks,h,e=>by
  obtain⟨v,r,rfl,h1,h2⟩:=h;unfold L3.rX at e;cases q1:Ig d with
  |none=>simp only[q1]at e;cases e
  |some k0=>
   cases q2:L3.rX ds with
   |none=>simp only[q1,q2]at e;cases e
   |some kr=>
    simp only[q1,q2]at e;cases e;obtain⟨l,f⟩:=yj h2 q2;refine⟨by simp[l],λi w k ew ek=>?_⟩;cases i with
    |zero=>
     simp at ew ek;subst ew ek;cases d with
     |tup xs=>
      have h1':=h1;obtain⟨a,us,rfl,ha,hu⟩:=h1;have qi:fW xs=some k0:=q1;have eu:us=k0.map V.int:=by rw[hu.ints qi];unfold iK;rw[KZ];rfl
      have ex:xs=k0.map D.int:=ints_eq qi;rw[eu]at ha;exact⟨⟨a,rfl,ha⟩,by show Is H m (.tup (k0.map .int)) _;rw[<- ex];exact h1'⟩
     |_=>cases q1
    |succ i=>exact f i w k (by simpa using ew) (by simpa using ek)
where
 ints_eq:∀{xs:List D}{k:List Int},fW xs=some k->xs=k.map D.int
 | [],_,e=>by cases e;rfl
 | .int i::r,k,e=>by
  unfold fW at e;cases q:fW r with
  |none=>rw[q]at e;cases e
  |some kr=>rw[q]at e;cases e;rw[Kr,ints_eq q]
 | .non::_,_,e=>by cases e
 | .bl _::_,_,e=>by cases e
 | .str _::_,_,e=>by cases e
 | .tup _::_,_,e=>by cases e
 | .lst _::_,_,e=>by cases e
 | .dic _ _::_,_,e=>by cases e
section
variable {X:Cx}{E:XK}
theorem Ed {e:Expr} {f:En->Res R} {p pos kp kpos:Pos} {j:Nat} (hc:X.calm=true) (hu:X.A.units+64<cLine) (hg:Gl X "min") (hm:X.mg "min"=none) (he:PD X E e f) (hst:autoParam (starEach [e] X.env=(false,eval e X.env)::starEach [] X.env) OH._auto_1)
 (hpl:autoParam (((backTo pos (starEach [e] X.env)).any (·.1) || (backToKw pos (keywordEach [⟨some "default",.Constant .none j kp,kpos⟩] X.env)).any (·.1.isNone))=false) OH._auto_1) :
 PD X E (.Call (.Name "min" p) [e] [⟨some "default",.Constant .none j kp,kpos⟩] pos) (BK f):=by
 obtain⟨t,p1,s1⟩:=he;refine⟨_,Eb hc hu hg hm p1 hst hpl,λg M ρ env σ H Q rep p=>s1.oneE rep p λr v M1 H1 e1 rep1 i1 q1=>?_⟩;unfold BJ at q1;have fl:∀{d:D}{w:V}{m:Addr->Prop},d.flat=true->Is H1 m d w->PostE X.mg E g M1 ρ env σ H1 Q (.ok (.val d true []))->Q w H1:=λ{d w m} hf hi hp=>hp w M1 H1 (Ext.refl _ _) rep1 (Is.flat hf hi);cases q:r.d with
 |lst ds=>
  rw[q]at q1 i1;obtain⟨a,ws,rfl,h1,h2⟩:=i1.rd;have aR:=h2.length;cases ds with
  |nil=>cases (show ws=[] from LX.mp (by rw[aR];rfl));exact⟨a,[],[],rfl,.inl h1,.inr ⟨rfl,λi v k e=>by simp at e⟩,λ_=>fl (d:=.non) (m:=λ_=>False) rfl rfl q1,λv e=>by simp at e⟩
  |cons d0 dr=>
   dsimp only at q1;have hne:ws≠[]:=λz=>by rw[z]at aR;cases aR
   cases qt:rX (d0::dr) with
   |some ks=>
    rw[qt]at q1;dsimp only at q1;obtain⟨hl,hf⟩:=yj h2 qt;have hks:ks≠[]:=λz=>hne (LX.mp (by rw[<- hl,z];rfl));refine⟨a,ws,ks,rfl,.inl h1,.inl ⟨hl,λi v k ev ek=>?_⟩,λz=>(hne z).elim,λv ev=>?_⟩
    .obtain⟨⟨b,rfl,hb⟩,_⟩:=hf i v k ev ek;exact⟨b,rfl,SqT.of hb⟩
    .have hb:=ss hks;rw[hl]at hb;exact fl (d:=DE (Ec ks)) (oj _) (hf _ _ _ ev hb).2 q1
   |none=>
    rw[qt]at q1;dsimp only at q1;cases qi:fW (d0::dr) with
    |none=>rw[qi]at q1;exact q1.elim
    |some ns=>
     rw[qi]at q1;dsimp only at q1;have ew:ws=ns.map V.int:=by rw[h2.ints qi];unfold iK;rw[KZ];rfl
     subst ew;have hks:(ns.map λn=>[n])≠[]:=λz=>hne (by cases ns with|nil=>rfl|cons _ _=>cases z);refine⟨a,_,ns.map λn=>[n],rfl,.inl h1,.inr ⟨by simp,λi v k e1 e2=>?_⟩,λz=>(hne z).elim,λv ev=>?_⟩
     .rw[KN]at e1 e2;cases h:ns[i]? with
      |none=>rw[h]at e1;cases e1
      |some n=>rw[h]at e1 e2;cases e1;cases e2;exact⟨n,rfl,rfl⟩
     .have hb:=ss hks;rw[Kw]at hb ev;rw[KN]at hb ev;cases h:ns[argBest (t8 (ns.map λn=>[n])) (ns.length-1)]? with
      |none=>rw[h]at ev;cases ev
      |some n=>rw[h]at hb ev;cases ev;injection hb with hb;rw[<- hb]at q1;exact fl (d:=.int n) (m:=λ_=>False) rfl rfl q1
 |_=>rw[q]at q1;exact q1.elim
end
end L3
namespace L2
open PySem PySem.Spec PySem.Calls PyProof.Rows
section
variable {X:Cx}{pins:List (Addr×Obj)}{σ:St}{H:Hp}{s:Ox}{a:Addr}{y:V}{u:OA}{o:Option V}{A:OB}{E:OA->Ox->Prop}
theorem Ee {Q:OA->Ox->Prop} (hu:A.units+1<cLine) (I:Inv X pins σ H s) (g:nZ H a y o) (ry:RelV y u) (h:∀ w' s',Inv X pins σ H s'->RelV (o.getD .non) w'->Q w' s'):wpAny (model X.prog X.w) A (call (.builtin "dict.get") [.ref a,u]) Q E s:=by
 rcases g with g|⟨e,⟨k,rfl⟩,rfl⟩|⟨e,⟨b,k,rfl,eb⟩,rfl⟩
 .exact Au hu I g ry h
 .obtain⟨y,dd⟩:=ng (e.ok I.hok);exact Mq Lh dd.typeIs LN (MU _ _) (meets_dict_get (av X.prog X.w) a (j6 ry) y) ⟨_,dd.mapOf,h _ _ (I.tok _) rfl⟩
 .obtain rfl:u=Value.ref b:=ry;obtain⟨y,dd⟩:=sP (e.ok I.hok);exact Mq Lh dd.typeIs LN (MU _ _) (meetsH_dict_get (tupleKind (av X.prog X.w)) a b y) ⟨LZ hu,k,[],iX I.hok eb,dd,h _ _ (I.tok _) rfl⟩
end
def Ef (td ty:TE):TE:=λσ H Q=>td σ H λx H1=>∃ a,x=.ref a/\EV H1 a/\ty σ H1 λy H2=>∃ o,nZ H2 a y o/\Q (o.getD .non) H2
theorem zM {X:Cx} {o e:Expr} {apos cpos:Pos} {td ty:TE} (hu:X.A.units+1<cLine) (ho:PE X o td) (he:PE X e ty) (m:M1 X o "get" apos e cpos):PE X (.Call (.Attribute o "get" apos) [e] [] cpos) (Ef td ty):=by intro pins s σ H Q I h;refine Ng m.base m.few m.line KW Lh M_ (bW (ho pins s σ H _ I h) λu s1 ⟨x,H1,I1,rx,a,ex,d,q1⟩=>?_);subst ex;obtain rfl:u=Value.ref a:=rx;obtain⟨t1,t2,_⟩:=m_ I1 d;refine⟨t1,t2,?_⟩;rw[m.trees];exact Lz rfl (Mx (Me (bW (he pins s1 σ H1 _ I1 q1) λiv s2 ⟨y,H2,I2,ry,ov,g,q2⟩=>MM (Ee hu I2 g ry λw' s3 I3 rw'=>⟨_,H2,I3,rw',q2⟩))))
end L2
namespace L3
open PySem PySem.Spec PyProof.Rows L2
def IC (ra:R)(ks:List DK)(ds:List D)(rk:R):Res R:=match keyX rk.d with
 |some x=>if ks.all (kin x) then (match getD ks ds x with
  |some d=>.ok (mkV d ra.fr ra.al)
  |none=>.ok (.val .non true [])) else .stuck
 |none=>.stuck
def Hh (fk:En->Res R)(env:En)(ra:R):Res R:=match ra.d with
 | .dic ks ds=>(fk env).bind (IC ra ks ds)
 |_=>.stuck
def mD (fa fk:En->Res R):En->Res R:=λenv=>(fa env).bind (Hh fk env)
section
variable {X:Cx}{E:XK}
theorem oX {o k:Expr} {fa fk:En->Res R} {apos cpos:Pos} (hu:X.A.units+64<cLine) (ho:PD X E o fa) (hk:PD X E k fk) (m:M1 X o "get" apos k cpos):PD X E (.Call (.Attribute o "get" apos) [k] [] cpos) (mD fa fk):=by
 obtain⟨ta,p1,s1⟩:=ho;obtain⟨tk,p2,s2⟩:=hk;refine⟨_,zM (by lia) p1 p2 m,λg M ρ env σ H Q rep p=>s1.oneE rep p λra v M1 H1 e1 rep1 i1 q1=>?_⟩;unfold Hh at q1;cases qa:ra.d with
 |dic ks ds=>
  rw[qa]at q1 i1;dsimp only at q1;obtain⟨a,vs,rfl,⟨dat,ma⟩,hall⟩:=i1;refine⟨a,rfl,dat.isD,s2.oneE rep1 q1 λrk y M2 H2 e2 rep2 i2 q2=>?_⟩;unfold IC at q2;cases qk:keyX rk.d with
  |none=>rw[qk]at q2;exact q2.elim
  |some kx=>
   rw[qk]at q2;dsimp only at q2;by_cases hc:ks.all (kin kx)=true
   .rw[Ku hc]at q2;obtain⟨ov,g1,g2⟩:=uO (dat.keep λo e=>e2.h _ _ e) (hall.ext e2) i2 qk hc;refine⟨ov,g1,?_⟩;cases qd:getD ks ds kx with
    |some d=>rw[qd]at q2 g2;obtain⟨v,rfl,iv⟩:=g2;exact q2.val rep2 iv
    |none=>rw[qd]at q2 g2;cases g2;exact q2 _ M2 H2 (Ext.refl _ _) rep2 rfl
   .rw[Kv hc]at q2;exact q2.elim
 |_=>rw[qa]at q1;exact q1.elim
end
def qx (n:Nat)(caps:List Nat)(asg:D->Bool->En->Option En)(ft:En->Res Bool)(fe:En->Res R)(env:En)(r:R):Res R:=match r.d with
 | .dic ks ds=>match lC ks ds with
  |some xs=>if xs.length<=lim/\r.al=[]/\D.flats ds=true then (match gc (λd=>asg d true (i7 env n caps)) ft fe xs with
   | .ok full=>if D.flats (full.map R.d) then .ok (.new (full.map R.d) true) else .stuck
   |_=>.stuck) else .stuck
  |none=>.stuck
 |_=>.stuck
def tU (n:Nat)(caps:List Nat)(f:En->Res R)(asg:D->Bool->En->Option En)(ft:En->Res Bool)(fe:En->Res R):En->Res R:=λenv=>(f env).bind (qx n caps asg ft fe env)
section
variable {X:Cx}{E:XK}{scope:Scope}{es:List Expr}{k0:Nat}{j5 apos cpos:Pos}{tN:List Str}{capN:List Str}{caps:List Nat}{ix:List Nat}{asg:D->Bool->En->Option En}{elt l:Expr}{pos:Pos}{ifs:List Expr}{f:En->Res R}{ft:En->Res Bool}{fe:En->Res R}
theorem BL (hc:X.calm=true)(S:CScope X scope tN capN caps)(hi:PD X E l f)(hix:∀ j∈ix,j<tN.length)(hg:∀ cl C s3 H3 fp,z4 (c9 X scope (tN++capN) cl C s3 H3 fp) ix (.Tuple es k0 j5) asg)(ht:∀ cl C s3 H3 fp,wI (c9 X scope (tN++capN) cl C s3 H3 fp) E0 ifs ft)(he:∀ cl C s3 H3 fp,PD (c9 X scope (tN++capN) cl C s3 H3 fp) E0 elt fe)
 (hbase:autoParam (attributeBase l "items" X.env (eval l X.env)=eval l X.env) OH._auto_1) (hline:autoParam ((apos.endLine==cpos.line)=true) OH._auto_1) (hs:autoParam (∀ x,foldedSetIterable (.Call (.Attribute l "items" apos) [] [] cpos) X.env x=pure x) OF._auto_1) :
 PD X E (.ListComp elt [⟨.Tuple es k0 j5,.Call (.Attribute l "items" apos) [] [] cpos,ifs,0⟩] scope pos) (tU tN.length caps f asg ft fe):=by
 obtain⟨tl,p1,s1⟩:=hi;refine⟨_,Gv (t:=rM X scope (.Tuple es k0 j5) tN capN caps elt ifs (F5 X tl)) λpins s σ H Q I h=>pS hc S I (nh p1 hbase hline) h hs,λg M ρ env σ H Q rep p=>?_⟩;refine s1.oneE rep p λr v M1 H1 e1 rep1 is q=>?_;unfold qx at q;cases qd:r.d with
 |dic ks ds=>
  rw[qd]at q is;dsimp only at q;cases qk:lC ks ds with
  |none=>rw[qk]at q;exact q.elim
  |some xs=>
   rw[qk]at q;dsimp only at q;by_cases hcon:xs.length<=lim/\r.al=[]/\D.flats ds=true
   .rw[Ku hcon]at q;obtain⟨hlim,hal,hfd⟩:=hcon;cases qc:gc (λd=>asg d true (i7 env tN.length caps)) ft fe xs with
    |stuck=>rw[qc]at q;exact q.elim
    |exc c=>rw[qc]at q;exact q.elim
    |ok full=>
     rw[qc]at q;dsimp only at q;by_cases hfl:D.flats (full.map R.d)=true
     .rw[Ku hfl]at q;obtain⟨d,kvs,u,rfl,md,hu,hrd,rfl,hall⟩:=jb is (pZ qk);have md:M1 d:=by rw[hal]at md;exact md.nil.1
      have iu:iZ u:=by rcases hu with rfl|⟨rfl,_⟩<;>exact True.intro
      have mk:mj (full.map R.d) (bX full) ([]++caps.filter (isOwn env))=.new (full.map R.d) true:=by unfold mj;rw[Ku hfl]
      refine⟨d,kvs,u,rfl,hu,?_⟩;rcases hrd with hrd|⟨o,hrd⟩
      .right;refine⟨hrd,λo hnf=>nA (g:=gq g d o u) (E:=E) (s:=⟨xs,true,[]⟩) hix hg ht he (rep1.still hrd iu md) (jl ac (IsAll.flat (m:=λ_=>True) hfd (IsAll.of_each (P:=λ_ _=>True) (λx w=>Is.still (m':=λ_=>True) hrd iu λ_ _=>True.intro) hall)) qk) hlim qc ?_⟩;rw[mk];intro v M' H' e rep' ro;have hd':H' d=some (.frz o u):=e.h _ _ ac;have rep3:=rep'.unstill hd' iu (e.m d md) (uP rep1 hrd);refine .inr ⟨d,o,u,hd',iu,hnf,q v M' _ ⟨e.m,zi e.h hrd,λa z=>?_⟩ rep3 ?_⟩
       .refine(e.n a z).imp id λw=>?_;by_cases ha:a=d
        .subst ha;rw[ac]at w;cases w
        .rw[aa ha]at w;exact w
       .obtain⟨a,vs,rfl,h1,h2,h3,h4,h5⟩:=ro;have na:a≠d:=λz=>by subst z;rw[hd']at h1;cases h1
        refine⟨a,vs,rfl,by rw[aa na];exact h1,h2,by rw[aa na]at h3;exact h3,h4,?_⟩;exact IsAll.of_each (P:=λ_ _=>True) (λx w=>Is.thaw hd' iu λ_ z=>z) (IsAll.flat (m':=msk g M' true) hfl h5)
      .left;refine⟨o,hrd,nA (g:=g) (E:=E) (s:=⟨xs,true,[]⟩) hix hg ht he rep1 (jl hrd (IsAll.flat hfd hall) qk) hlim qc ?_⟩;rw[mk];exact λv M' H' e rep' ro=>.inl (q v M' H' e rep' ro)
     .rw[Kv hfl]at q;exact q.elim
   .rw[Kv hcon]at q;exact q.elim
 |_=>rw[qd]at q;exact q.elim
end
end L3
namespace L2
open PySem PySem.Spec PySem.Calls PyProof.Rows
abbrev Fe:=List (List Key×Addr×OA)
noncomputable def BM:OA->Int
 | .int n _=>n
 |_=>0
def vg (xb:Fe)(x:List Key×Addr×OA):Bool:=match xb.find? λy=>decide (y.1=x.1) with
 |some y=>BM x.2.2==BM y.2.2
 |none=>false
def ID (xa xb:Fe):Bool:=xa.length==xb.length&&xa.all (vg xb)
section
variable {prog:Oz}{w:World}{A:OB}{E:OA->Ox->Prop}{s:Ox}{a b:Addr}{xa xb:Fe}
theorem qy:∀{xb:Fe}{j:Nat}{k:List Key}{p:Addr×OA},(xb.map (·.1)).Nodup->xb[j]?=some (k,p)->xb.find? (λy=>decide (y.1=k))=some (k,p)
 | [],_,_,_,_,e=>by simp at e
 |y::r,0,k,p,nd,e=>by simp at e;subst e;rw[Lm];simp
 |y::r,j+1,k,p,nd,e=>by
  have nd':=Lj.mp nd;have e':r[j]?=some (k,p):=by simpa using e
  have hm:k∈r.map (·.1):=KH.mpr ⟨_,Ll e',rfl⟩;rw[Lm,KL (λz=>nd'.1 (by show y.1∈_;rw[z];exact hm))];exact qy nd'.2 e'
theorem vh {nm:String}{Q:Bool->Ox->Prop}(hu:(tupleKind (av prog w)).room A)(ha:(a==sysModules)=false)(hb:(b==sysModules)=false)(da:s.heap.DictOfH (tupleKind (av prog w)) a xa)(db:s.heap.DictOfH (tupleKind (av prog w)) b xb)
 (na:∀ x∈xa,∃ n t,x.2.2=.int n t) (nb:∀ x∈xb,∃ n t,x.2.2=.int n t) (h:Q (ID xa xb) s):wpAny (model prog w) A (Builtin.Dict.samePairs nm a b) Q E s:=by
 obtain⟨oa,es,ep,hoa,_,hda,hea,hia,hna⟩:=da;obtain⟨ob,es',ep',hob,_,hdb,heb,hib,hnb⟩:=db;have hla:es.size=xa.length:=NB hea;have hlb:es'.size=xb.length:=NB heb;unfold Builtin.Dict.samePairs Builtin.Dict.showsAll;rw[Kv (by rw[ha];exact K5),Kv (by rw[hb];exact K5)];refine Kp (Kt (Kp (Kt (Kp (Ml hoa hda ?_)))));dsimp only;refine Kp (Ml hob hdb ?_);unfold ID at h;by_cases hsz:es.size=es'.size
 case neg=>
  have:(xa.length==xb.length)=false:=by rw[<- hla,<- hlb];simpa using hsz
  rw[this,K3]at h;rw[Ku (by simpa using hsz)];exact Kp (NJ (Kt h))
 case pos=>
  have:(xa.length==xb.length)=true:=by rw[<- hla,<- hlb];simpa using hsz
  rw[this,Le]at h;rw[Kv (by rw[hsz];simp)];refine Kp (NC hoa hda (Kp ?_));rw[Std.Legacy.Range.forIn_eq_forIn_range'];simp only[Std.Legacy.Range.size,Nat.sub_zero,Nat.add_sub_cancel,Nat.div_one];refine wpAny_forIn_list _ (λrest q s'=>s'=s/\q=(none,())/\∃ i,rest=List.range' i (es.size-i)/\i<=es.size/\Q ((xa.drop i).all (vg xb)) s) _ ?_ ?_ _ _ ⟨rfl,rfl,0,by simp,LF _,h⟩
  .rintro i rest q s' ⟨rfl,rfl,i',hr,hi,hQ⟩;have hlt:i'<es.size:=Nat.lt_of_not_le λz=>by rw[Nat.sub_eq_zero_of_le z]at hr;simp at hr
   have e1:es.size-i'=(es.size-(i'+1))+1:=by lia
   rw[e1,List.range'_succ]at hr;injection hr with e2 hrest;subst e2;have hltx:i<xa.length:=by lia
   have hx:xa[i]?=some xa[i]:=by simp[hltx]
   have hdrop:xa.drop i=xa[i]::xa.drop (i+1):=MH hltx;have hent:=entry_at hea i;rw[hx]at hent;have hxm:=NU hltx;rw[hdrop,ND]at hQ;generalize xa[i]=x at hx hent hxm hQ;obtain⟨k,c,v⟩:=x;obtain⟨n,t,rfl⟩ : ∃ n t,v=.int n t:=na _ hxm;refine Kp (Ml hoa hda ?_);rw[hent];refine Kp (Mo (Kp (wpAny_dictFind_heap hu (hia _ hxm) hob hdb heb hib hnb (λhno=>?_) λj p hj=>?_)))
   .have hf:xb.find? (λy=>decide (y.1=k))=none:=by rw[NG];intro y hy z;obtain⟨m,hm⟩:=List.getElem?_of_mem hy;exact hno m y.2 (by rw[hm];simp only[MN]at z;rw[<- z])
    have:vg xb (k,c,.int n t)=false:=by unfold vg;dsimp only;rw[hf]
    rw[this,K3]at hQ;exact Kt (Kt (Kt hQ))
   .have hf:=qy hnb hj;have hentb:=entry_at heb j;rw[hj]at hentb;obtain⟨m,u,epv⟩:=nb _ (Ll hj);obtain⟨pa,pv⟩:=p;dsimp only at epv;subst epv;have hh:vg xb (k,c,.int n t)=(n==m):=by unfold vg;dsimp only;rw[hf];rfl
    rw[hh]at hQ;refine Kp (Ml hob hdb ?_);rw[hentb];refine Mo (SeqAt.EqAt.int_int n t m u prog w _ _ ?_);cases q:(n==m) with
    |false=>rw[q,K3]at hQ;exact Kt (Kt hQ)
    |true=>rw[q,Le]at hQ;refine Kp (NC hoa hda ?_);rw[Kv (by simp)];exact Kt ⟨rfl,rfl,i+1,hrest,hlt,hQ⟩
  .rintro q s' ⟨rfl,rfl,i,hr,hi,hQ⟩;have hin:i=es.size:=Nat.le_antisymm hi (Nat.le_of_not_lt λz=>by
    have e:es.size-i=(es.size-(i+1))+1:=by lia
    rw[e,List.range'_succ]at hr;exact nomatch hr)
   rw[hin,hla,Oq]at hQ;exact Kt hQ
theorem BN {Q:OA->Ox->Prop}(hu:A.units+2<cLine)(ha:(a==sysModules)=false)(hb:(b==sysModules)=false)(da:s.heap.DictOfH (tupleKind (av prog w)) a xa)(db:s.heap.DictOfH (tupleKind (av prog w)) b xb)
 (na:∀ x∈xa,∃ n t,x.2.2=.int n t) (nb:∀ x∈xb,∃ n t,x.2.2=.int n t) (h:Q (.bool (ID xa xb)) s):wpAny (model prog w) A (compareOp .Eq (.ref a) (.ref b)) Q E s:=by
 refine wpAny_richCompare_same_room (op:=.Eq) da.typeIs db.typeIs PySem.F.slot_dict_eq (L5 PySem.F.slot_dict_eq da.typeIs PySem.F.entry_dict_eq ?_ (PySem.F.args_dict_eq_2 _ _)) (by lia);show wpAny _ _ (Builtin.Dict.dictSlotArgs "__eq__" ⟨[.ref a,.ref b],[]⟩ >>= _) _ _ s;unfold Builtin.Dict.dictSlotArgs;refine Kp (Kp (MF da.typeIs ?_));show wpAny _ _ (pure (Value.ref a,Value.ref b)) _ _ s;refine Kt (Kp (wpAny_isInstance (T:="dict") db.typeIs PySem.F.sub_dict_dict ?_));simp only[LB,M8,Nd];refine Kp (Kt (Kp (Kt (Kp (vh (LZ (by lia)) ha hb da db na nb (Kt ⟨_,rfl,λx=>(nomatch x),?_⟩))))));simpa using h
end
def vi (kvs:List (List Key×V)):Prop:=∀ p∈kvs,∃ n,p.2=.int n
noncomputable def BO (kb:List (List Key×V))(p:List Key×V):Bool:=match kb.find? λy=>decide (y.1=p.1) with
 |some y=>decide (p.2=y.2)
 |none=>false
def BP (ka kb:List (List Key×V)):Bool:=ka.length==kb.length&&ka.all (BO kb)
def yk (H:Hp)(a:Addr)(kvs:List (List Key×V)):Prop:=Rd H a (.dT kvs)\/(kvs=[]/\Rd H a (.dK []))
def JZ:R2:=λx y H Q=>∃ a b ka kb,x=.ref a/\y=.ref b/\yk H a ka/\yk H b kb/\vi ka/\vi kb/\Q (.bl (BP ka kb)) H
theorem Eg {H:Hp}{kb:List (List Key×V)}{xb:Fe}(r:KT H kb xb)(ib:vi kb){p:List Key×V}{x:List Key×Addr×OA}(e:p.1=x.1)(rv:RelV p.2 x.2.2)(ip:∃ n,p.2=.int n):BO kb p=vg xb x:=by
 obtain⟨n,en⟩:=ip;rw[en]at rv;obtain⟨t,et⟩:=rv;unfold BO vg;rw[<- e,en,et];clear e en et;induction r with
 |nil=>rfl
 | @cons q y kb xb hq _ ih=>
  obtain⟨h1,_,h3⟩:=hq;rw[Lm,Lm,h1];by_cases z:y.1=p.1
  .rw[Kz z];obtain⟨m,em⟩:=ib q KE;rw[em]at h3;obtain⟨u,eu⟩:=h3;show decide (V.int n=q.2)=(n==BM y.2.2);rw[em,eu];show decide (V.int n=V.int m)=(n==m);rw[Mp];simp
  .rw[KL z];exact ih λp hp=>ib p (Kx _ hp)
theorem BQ {H:Hp}{ka kb:List (List Key×V)}{xa xb:Fe}(ra:KT H ka xa)(rb:KT H kb xb)(ia:vi ka)(ib:vi kb):BP ka kb=ID xa xb:=by
 unfold BP ID;rw[MC ra,MC rb];congr 1;induction ra with
 |nil=>rfl
 | @cons p x ka xa hq _ ih=>rw[ND,ND,ih λp hp=>ia p (Kx _ hp),Eg rb ib hq.1 hq.2.2 (ia p KE)]
theorem vj {H:Hp}{ka:List (List Key×V)}{xa:Fe}(ra:KT H ka xa)(ia:vi ka):∀ x∈xa,∃ n t,x.2.2=.int n t:=by
 induction ra with
 |nil=>exact λ_ h=>(KG h).elim
 | @cons p x ka xa hq _ ih=>
  intro y hy;rcases KB.mp hy with rfl|hy
  .obtain⟨n,en⟩:=ia p KE;have:=hq.2.2;rw[en]at this;obtain⟨t,et⟩:=this;exact⟨n,t,et⟩
  .exact ih (λp hp=>ia p (Kx _ hp)) y hy
section
variable {X:Cx}
theorem GN (hu:X.A.units+64<cLine):OpR X (compareOp .Eq) JZ:=by
 intro pins s σ H x y v u Q I rx ry h;obtain⟨a,b,ka,kb,rfl,rfl,ta,tb,ia,ib,q⟩:=h;cases rx;cases ry;have rd:∀{a:Addr}{kvs:List (List Key×V)},yk H a kvs->(a==sysModules)=false/\∃ xs,KT H kvs xs/\s.heap.DictOfH (tupleKind (av X.prog X.w)) a xs:=λ{a kvs} t=>by
  rcases t with t|⟨rfl,t⟩
  .exact(lF I.hok t).2
  .obtain⟨y,dd⟩:=sP (t.ok I.hok);exact⟨y,[],.nil,dd⟩
 obtain⟨ha,xa,ra,da⟩:=rd ta;obtain⟨hb,xb,rb,db⟩:=rd tb;exact BN (by lia) ha hb da db (vj ra ia) (vj rb ib) ⟨.bl _,H,I,by rw[BQ ra rb ia ib];rfl,q⟩
end
end L2
namespace L3
open PySem PySem.Spec PyProof.Rows L2
def BR (ls:List DK)(es:List D)(p:DK×D):Bool:=match getD ls es p.1 with
 |some e=>ji p.2 e
 |none=>false
def vk (ks:List DK)(ds:List D)(ls:List DK)(es:List D):Bool:=ks.length==ls.length&&(ks.zip ds).all (BR ls es)
noncomputable def w_ (ks:List DK):Bool:=ks.all λk=>match k with|.inr _=>true|.inl _=>false
def zN (a b:R):Res R:=match a.d,b.d with
 | .dic ks ds,.dic ls es=>if w_ ks&&w_ ls&&(fW ds).isSome&&(fW es).isSome then .ok (.val (.bl (vk ks ds ls es)) true []) else .stuck
 |_,_=>.stuck
theorem vm {H:Hp}{m:Addr->Prop}{ds:List D}{kvs:List (List Key×V)}(h:IsAll H m ds (kvs.map Prod.snd))(q:(fW ds).isSome=true):vi kvs/\∃ ns,fW ds=some ns/\kvs.map Prod.snd=ns.map .int:=by
 obtain⟨ns,e⟩:=Nv.mp q;have ew:kvs.map Prod.snd=ns.map V.int:=by rw[h.ints e];unfold iK;rw[KZ];rfl
 refine⟨λp hp=>?_,ns,e,ew⟩;have:p.2∈kvs.map Prod.snd:=KH.mpr ⟨p,hp,rfl⟩;rw[ew]at this;obtain⟨n,_,e⟩:=KH.mp this;exact⟨n,e.symm⟩
theorem vn {ks:List DK}(h:w_ ks=true):∀ k∈ks,∃ a,k=.inr a:=λk hk=>by
 have:=LC.mp h k hk;cases k with
 |inr a=>exact⟨a,rfl⟩
 |inl _=>cases this
theorem GO {H:Hp}{m m':Addr->Prop}{kb:List (List Key×V)}{es:List D}(hb:IsAll H m es (kb.map Prod.snd))(ib:vi kb){k:List Key}{d:D}{v:V}(hd:Is H m' d v){n:Int}(en:v=.int n)(ed:d=.int n):BR (kb.map λp=>.inr p.1) es (.inr k,d)=BO kb (k,v):=by
 subst en ed;unfold BR BO;dsimp only;induction kb generalizing es with
 |nil=>cases (show es=[] from by cases es with|nil=>rfl|cons _ _=>obtain⟨_,_,e,_⟩:=hb;cases e);rfl
 |cons p kb ih=>
  cases es with
  |nil=>cases (show(p::kb).map Prod.snd=[] from hb)
  |cons e es=>
   obtain⟨w,r,e1,h1,h2⟩:=hb;injection e1 with e2 e3;subst e2 e3;rw[Kr];unfold getD;rw[Lm];by_cases z:p.1=k
   .rw[Ku (by rw[z]),Kz z];obtain⟨mm,em⟩:=ib p KE;show ji (.int n) e=decide (V.int n=p.2);rw[em]at h1 ⊢;have ee:e=.int mm:=by
     cases e with
     |int i=>have:V.int mm=V.int i:=h1;injection this with this;rw[this]
     |non=>cases (show V.int mm=.non from h1)
     |bl b=>cases (show V.int mm=.bl b from h1)
     |str x=>cases (show V.int mm=.str x from h1)
     |tup ds=>obtain⟨_,_,q,_⟩:=h1;cases q
     |lst ds=>obtain⟨_,_,q,_⟩:=h1;cases q
     |dic ks ds=>obtain⟨_,_,q,_⟩:=h1;cases q
    rw[ee];show(n==mm)=decide (V.int n=V.int mm);rw[Mp];simp
   .rw[Kv (λq=>z (MG q)),KL z];exact ih h2 (λp hp=>ib p (Kx _ hp))
section
variable {X:Cx}{E:XK}
theorem GP (hu:X.A.units+64<cLine):pM X E (compareOp .Eq) zN:=by
 refine⟨_,GN hu,λg M ρ env σ H Q ra rb x y rep i1 i2 p=>?_⟩;unfold zN at p;cases q1:ra.d with
 |dic ks ds=>
  cases q2:rb.d with
  |dic ls es=>
   rw[q1,q2]at p;rw[q1]at i1;rw[q2]at i2;dsimp only at p;by_cases hc:(w_ ks&&w_ ls&&(fW ds).isSome&&(fW es).isSome)=true
   .rw[Ku hc]at p;simp only[Ln]at hc;obtain⟨⟨⟨t1,t2⟩,n1⟩,n2⟩:=hc;obtain⟨a,ka,ua,rfl,_,hua,hra,rfl,ha⟩:=jb i1 (vn t1);obtain⟨b,kb,ub,rfl,_,hub,hrb,rfl,hb⟩:=jb i2 (vn t2);have td:∀{a:Addr}{u:HO}{kvs:List (List Key×V)},(u=.dT kvs\/(u=.dK []/\kvs=[]))->Rd H a u->yk H a kvs:=λ{a u kvs} h r=>by
     rcases h with rfl|⟨rfl,rfl⟩
     .exact .inl r
     .exact .inr ⟨rfl,r⟩
    obtain⟨ia,ns,e1,f1⟩:=vm ha n1;obtain⟨ib,ms,e2,f2⟩:=vm hb n2;refine⟨a,b,ka,kb,rfl,rfl,td hua hra,td hub hrb,ia,ib,?_⟩;have ee:vk (ka.map λp=>.inr p.1) ds (kb.map λp=>.inr p.1) es=BP ka kb:=by
     unfold vk BP;rw[Kw,Kw];congr 1;clear hra hua f1 e1 n1 t1 i1 p q1 td;clear ns
     revert ds
     induction ka with
     |nil=>intro ds ha;rfl
     |cons q ka ih=>
      intro ds ha;cases ds with
      |nil=>cases (show(q::ka).map Prod.snd=[] from ha)
      |cons d ds=>
       obtain⟨w,r,e1,h1,h2⟩:=ha;injection e1 with e2 e3;subst e2 e3;obtain⟨n,en⟩:=ia q KE;have ed:d=.int n:=by
        rw[en]at h1;cases d with
        |int i=>have:V.int n=V.int i:=h1;injection this with this;rw[this]
        |non=>cases (show V.int n=.non from h1)
        |bl b=>cases (show V.int n=.bl b from h1)
        |str x=>cases (show V.int n=.str x from h1)
        |tup ds=>obtain⟨_,_,q,_⟩:=h1;cases q
        |lst ds=>obtain⟨_,_,q,_⟩:=h1;cases q
        |dic ks ds=>obtain⟨_,_,q,_⟩:=h1;cases q
       rw[Kr,N8,ND,ND,GO hb ib h1 en ed];congr 1;exact ih (λp hp=>ia p (Kx _ hp)) _ h2
    rw[<- ee];exact p _ M H (Ext.refl M H) rep rfl
   .rw[Kv hc]at p;exact p.elim
  |_=>rw[q1,q2]at p;exact p.elim
 |_=>rw[q1]at p;exact p.elim
end
end L3
namespace L3
open PySem L2
section
variable {env bo:En}{i j:Nat}{d:D}{ds es:List D}{f g:Bool}{al bl:List Nat}{x y:Int}
noncomputable def kS (k:En->Res Fl):Fl->Res Fl
 | .nx bo=>k bo
 |r=>.ok r
theorem gE (f k:En->Res Fl)(env:En):bY f k env=(f env).bind (kS k):=by rfl
theorem kM (k:En->Res Fl)(e:En):kS k (.nx e)=k e:=(rfl)
theorem kN (k:En->Res Fl)(r:R):kS k (.rt r)=.ok (.rt r):=(rfl)
noncomputable def J0 (a b:En->Res Fl)(env:En)(k:Bool):Res Fl:=if k then a env else b env
theorem kR (c:En->Res Bool)(a b:En->Res Fl)(env:En):v4 c a b env=(c env).bind (J0 a b env):=(rfl)
theorem gF (a b:En->Res Fl)(env:En):J0 a b env true=a env:=(rfl)
theorem gG (a b:En->Res Fl)(env:En):J0 a b env false=b env:=(rfl)
theorem gH (env:En):lB env=.ok (.nx env):=(rfl)
def IE (r:R):Res Fl:=.ok (.rt r)
theorem gI (a:En->Res R)(env:En):jC a env=(a env).bind IE:=(rfl)
theorem dJ (r:R):IE r=.ok (.rt r):=(rfl)
def IF (i:Nat)(env:En)(r:R):Res Fl:=if i<env.length then .ok (.nx (put env i r)) else .stuck
theorem gJ (i:Nat)(a:En->Res R)(env:En):iL i a env=(a env).bind (IF i env):=(rfl)
theorem dL (r:R)(h:i<env.length):IF i env r=.ok (.nx (put env i r)):=Ku h
theorem dM:put env i (.val d f [])=env.set i (some (.val d f)):=(rfl)
theorem dN:put env i (.new ds f)=env.set i (some (.own ds f)):=(rfl)
theorem dP:put env i (.fre d)=env.set i (some (.tre d)):=(rfl)
def IG (i:Nat):Option (Option Sl)->Res R
 |some (some (.val d fr))=>.ok (mkV d fr [])
 |some (some (.own ds fr))=>.ok (.val (.lst ds) fr [i])
 |some (some (.tre d))=>.ok (.val d true [i])
 |_=>.stuck
theorem gK (i:Nat)(env:En):ao i env=IG i env[i]?:=by unfold ao IG;rfl
theorem gL:IG i (some (some (.val d f)))=.ok (mkV d f []):=(rfl)
theorem gM:IG i (some (some (.own ds f)))=.ok (.val (.lst ds) f [i]):=(rfl)
theorem gO:IG i (some (some (.tre d)))=.ok (.val d true [i]):=(rfl)
theorem vp (d:D)(env:En):vC d env=.ok (.val d true []):=(rfl)
theorem cY (h:d.flat=true):mkV d f al=.val d true []:=by unfold mkV;rw[Ku h]
theorem cZ (h:d.flat=false):mkV d f al=.val d f al:=by unfold mkV;rw[Kv (by rw[h];simp)]
theorem de (h:D.flats ds=true):mj ds f al=.new ds true:=by unfold mj;rw[Ku h]
theorem ck:mj ds true []=.new ds true:=by unfold mj;split<;>rfl
def J9 (op:R->R->Res R)(fb:En->Res R)(env:En)(ra:R):Res R:=(fb env).bind (op ra)
theorem kT (op:R->R->Res R)(fa fb:En->Res R)(env:En):v2 op fa fb env=(fa env).bind (J9 op fb env):=(rfl)
theorem gR (op:R->R->Res R)(fb:En->Res R)(env:En)(ra:R):J9 op fb env ra=(fb env).bind (op ra):=(rfl)
theorem gS:jq (.val (.int x) f al) (.val (.int y) g bl)=.ok (.val (.int (x+y)) true []):=(rfl)
theorem dQ (h1:-18446744073709551616<y)(h2:y<18446744073709551616):wz (.val (.int x) f al) (.val (.int y) g bl)=.ok (.val (.int (x*y)) true []):=by
 have:AK x y=true:=by unfold AK;rw[Bool.or_eq_true,Ln,Ln];exact .inr ⟨Kz (by lia),Kz (by lia)⟩
 show(if AK x y=true then _ else _)=_;rw[Ku this]
theorem gU (h:0<y):jB (.val (.int x) f al) (.val (.int y) g bl)=.ok (.val (.int (x % y)) true []):=by show(if decide (0<y)=true then _ else _)=_;rw[Ku (Kz h)]
theorem gW (h:0<y)(h2:y<1073741824):uE (.val (.int x) f al) (.val (.int y) g bl)=.ok (.val (.int (x / y)) true []):=by show(if (decide (0<y)&&decide (y<1073741824))=true then _ else _)=_;rw[Ku (by rw[Kz h,Kz h2];rfl)]
theorem kU:F_ (.val (.int x) f al) (.val (.int y) g bl)=.ok (.val (.bl (decide (x<y))) true []):=(rfl)
theorem kW:HJ (.val (.int x) f al) (.val (.int y) g bl)=.ok (.val (.bl (decide (x<=y))) true []):=(rfl)
theorem kX:JK (.val (.int x) f al) (.val (.int y) g bl)=.ok (.val (.bl (decide (y<x))) true []):=(rfl)
theorem kY:JL (.val (.int x) f al) (.val (.int y) g bl)=.ok (.val (.bl (decide (y<=x))) true []):=(rfl)
theorem xc (h:a.d.dep<=50)(h2:b.d.dep<=50):AM a b=.ok (.val (.bl (ji a.d b.d)) true []):=by unfold AM;rw[Ku ⟨h,h2⟩]
theorem IH (h:a.d.dep<=50)(h2:b.d.dep<=50):Ga a b=.ok (.val (.bl (!ji a.d b.d)) true []):=by unfold Ga;rw[Ku ⟨h,h2⟩]
theorem gX:ji (.int x) (.int y)=(x==y):=(rfl)
def Eh (xs ys:List D)(f:Bool)(al:List Nat):Res R:=if xs.length+ys.length<=lim then .ok (mj (xs++ys) f al) else .stuck
theorem cn:jq (.val (.lst ds) f al) (.val (.lst es) g bl)=Eh ds es (f&&g) (al++bl):=(rfl)
theorem cp:jq (.val (.lst ds) f al) (.new es g)=Eh ds es (f&&g) (al++[]):=(rfl)
theorem cq:jq (.new ds f) (.val (.lst es) g bl)=Eh ds es (f&&g) ([]++bl):=(rfl)
theorem cr:jq (.new ds f) (.new es g)=Eh ds es (f&&g) []:=(rfl)
def Ff (fs:En->Res (List R))(env:En)(r:R):Res (List R):=(fs env).bind (λrs=>.ok (r::rs))
def BS (r:R)(rs:List R):Res (List R):=.ok (r::rs)
theorem dR (env:En):aN env=.ok []:=(rfl)
theorem cu (a:En->Res R)(fs:En->Res (List R))(env:En):ah a fs env=(a env).bind (Ff fs env):=(rfl)
theorem cv (fs:En->Res (List R))(env:En)(r:R):Ff fs env r=(fs env).bind (BS r):=(rfl)
theorem bC (r:R)(rs:List R):BS r rs=.ok (r::rs):=(rfl)
def II (rs:List R):Res R:=if rs.length<=lim then .ok (mkV (.tup (rs.map R.d)) (bX rs) (dk rs)) else .stuck
theorem iE (fs:En->Res (List R))(env:En):gp fs env=(fs env).bind II:=(rfl)
theorem dS (rs:List R)(h:rs.length<=1000000):II rs=.ok (mkV (.tup (rs.map R.d)) (bX rs) (dk rs)):=Ku h
def IJ (rs:List R):Res R:=if rs.length<=lim then .ok (mj (rs.map R.d) (bX rs) (dk rs)) else .stuck
theorem gY (fs:En->Res (List R))(env:En):lN fs env=(fs env).bind IJ:=(rfl)
theorem dU (rs:List R)(h:rs.length<=1000000):IJ rs=.ok (mj (rs.map R.d) (bX rs) (dk rs)):=Ku h
theorem bD:bX []=true:=(rfl)
theorem aY (r:R)(rs:List R):bX (r::rs)=(r.fr&&bX rs):=(rfl)
theorem bE:dk []=[]:=(rfl)
theorem aZ (r:R)(rs:List R):dk (r::rs)=r.al++dk rs:=(rfl)
def Fg (F:List D->Res R)(rs:List R):Res R:=(F (rs.map R.d)).bind (λr=>.ok (iC rs r))
def BU (rs:List R)(r:R):Res R:=.ok (iC rs r)
theorem dW (F:List D->Res R)(fs:En->Res (List R))(env:En):fQ F fs env=(fs env).bind (Fg F):=(rfl)
theorem cw (F:List D->Res R)(rs:List R):Fg F rs=(F (rs.map R.d)).bind (BU rs):=(rfl)
theorem bF (rs:List R)(r:R):BU rs r=.ok (iC rs r):=(rfl)
theorem bG (rs:List R)(h:d.flat=true):iC rs (.val d f al)=.val d true []:=Ku h
theorem bh (rs:List R)(h:d.flat=false):iC rs (.val d true al)=.fre d:=by show z3 d true rs=_;unfold z3;rw[Kv (by rw[h];simp),Ku rfl]
theorem bH (rs:List R)(h:d.flat=false):iC rs (.val d false al)=.val d (bX rs) (dk rs):=by show z3 d false rs=_;unfold z3;rw[Kv (by rw[h];simp),Kv (by simp)]
theorem br (rs:List R)(h:D.flats ds=true):iC rs (.new ds f)=.new ds true:=by show(if D.flats ds=true then _ else _)=_;rw[Ku h]
theorem a_ (rs:List R)(h:D.flats ds=false):iC rs (.new ds true)=.fre (.lst ds):=by show(if D.flats ds=true then _ else _)=_;rw[Kv (by rw[h];simp),Ku rfl]
theorem kZ (k:List R->Res R)(fs:En->Res (List R))(env:En):uG k fs env=(fs env).bind k:=(rfl)
def Ei:D->Res R
 | .lst ds=>.ok (.val (.int ds.length) true [])
 | .tup ds=>.ok (.val (.int ds.length) true [])
 | .str z=>if z.length<=lim then .ok (.val (.int z.length) true []) else .stuck
 |_=>.stuck
theorem gZ (r:R):wB [r]=Ei r.d:=by unfold wB Ei;rfl
theorem dX:Ei (.lst ds)=.ok (.val (.int ds.length) true []):=(rfl)
theorem dY:Ei (.tup ds)=.ok (.val (.int ds.length) true []):=(rfl)
def ym (f:Bool)(al:List Nat):D->Res R
 | .lst ds=>.ok (mj ds f al)
 | .tup ds=>.ok (mj ds f al)
 |_=>.stuck
theorem dZ (r:R):uH [r]=ym r.fr r.al r.d:=by unfold uH ym;rfl
theorem cx:ym f al (.lst ds)=.ok (mj ds f al):=(rfl)
theorem cy:ym f al (.tup ds)=.ok (mj ds f al):=(rfl)
def kB (ra:R):Res Bool:=match ra.d with
 | .bl b=>.ok b
 |_=>.stuck
theorem k7 (a:En->Res R)(env:En):vB a env=(a env).bind kB:=(rfl)
theorem k8 (b:Bool):kB (.val (.bl b) f al)=.ok b:=(rfl)
def GQ (ra:R):Res Bool:=tru ra.d
theorem d7 (a:En->Res R)(env:En):sX a env=(a env).bind GQ:=(rfl)
theorem d8 (b:Bool):GQ (.val (.bl b) f al)=.ok b:=(rfl)
noncomputable def Fh (b:Bool):Res Bool:=.ok (!b)
theorem d9 (a:En->Res Bool)(env:En):oB a env=(a env).bind Fh:=(rfl)
theorem cz (b:Bool):Fh b=.ok (!b):=(rfl)
noncomputable def BV (b:En->Res Bool)(env:En)(k:Bool):Res Bool:=if k then b env else .ok false
noncomputable def GR (b:En->Res Bool)(env:En)(k:Bool):Res Bool:=if k then .ok true else b env
theorem d_ (a b:En->Res Bool)(env:En):Gg a b env=(a env).bind (BV b env):=(rfl)
theorem g8 (a b:En->Res Bool)(env:En):Dp a b env=(a env).bind (GR b env):=(rfl)
theorem eh (b:En->Res Bool)(env:En):BV b env true=b env:=(rfl)
theorem er (b:En->Res Bool)(env:En):BV b env false=.ok false:=(rfl)
theorem g9 (b:En->Res Bool)(env:En):GR b env true=.ok true:=(rfl)
theorem g_ (b:En->Res Bool)(env:En):GR b env false=b env:=(rfl)
def BW (b:En->Res R)(env:En)(ra:R):Res R:=match ra.d with
 | .bl true=>b env
 | .bl false=>.ok (.val (.bl false) true [])
 |_=>.stuck
theorem eB (a b:En->Res R)(env:En):Dn a b env=(a env).bind (BW b env):=(rfl)
theorem cA (b:En->Res R)(env:En):BW b env (.val (.bl true) f al)=b env:=(rfl)
theorem cB (b:En->Res R)(env:En):BW b env (.val (.bl false) f al)=.ok (.val (.bl false) true []):=(rfl)
def Fi (ra:R):Res R:=match ra.d with
 | .bl b=>.ok (.val (.bl (!b)) true [])
 |_=>.stuck
theorem eF (a:En->Res R)(env:En):Ge a env=(a env).bind Fi:=(rfl)
theorem eG (b:Bool):Fi (.val (.bl b) f al)=.ok (.val (.bl (!b)) true []):=(rfl)
def CJ (f:Bool)(al:List Nat):Option D->Res R
 |some d=>.ok (mkV d f al)
 |none=>.stuck
def BX (a b:D)(f:Bool)(al:List Nat):Res R:=match a,b with
 | .lst xs,.int i=>CJ f al (atI xs i)
 | .tup xs,.int i=>CJ f al (atI xs i)
 | .str z,.int i=>if z.length<=lim then (match atI z.cps.toList i with
  |some c=>.ok (.val (.str ⟨#[c]⟩) true [])
  |none=>.stuck) else .stuck
 |_,_=>.stuck
theorem k9 (a b:R):zZ a b=BX a.d b.d a.fr a.al:=by unfold zZ BX CJ;rfl
theorem hI:BX (.lst ds) (.int k) f al=CJ f al (atI ds k):=(rfl)
theorem hJ:BX (.tup ds) (.int k) f al=CJ f al (atI ds k):=(rfl)
theorem hV:CJ f al (some d)=.ok (mkV d f al):=(rfl)
def Ej (ds:List D)(fr:Bool)(rb:R):Res R:=match rb.d with
 | .int k=>match atI ds k with
  |some d=>.ok (mkV d fr [])
  |none=>.stuck
 |_=>.stuck
def BY (i:Nat)(fb:En->Res R)(env:En):Option (Option Sl)->Res R
 |some (some (.own ds fr))=>(fb env).bind (Ej ds fr)
 |_=>v2 zZ (ao i) fb env
theorem jo (i:Nat)(fb:En->Res R)(env:En):aX i fb env=BY i fb env env[i]?:=by unfold aX BY;rfl
theorem eI (fb:En->Res R):BY i fb env (some (some (.own ds f)))=(fb env).bind (Ej ds f):=(rfl)
theorem eJ (fb:En->Res R):BY i fb env (some (some (.val d f)))=v2 zZ (ao i) fb env:=(rfl)
theorem eL (fb:En->Res R):BY i fb env (some (some (.tre d)))=v2 zZ (ao i) fb env:=(rfl)
theorem eM:Ej ds f (.val (.int k) g al)=CJ f [] (atI ds k):=by unfold Ej CJ;rfl
theorem qT {α:Type}(a:α)(l:List α):atI (a::l) 0=some a:=by unfold atI yR;rw[Ku (by lia),Ku (by simp)];rfl
theorem vq {α:Type}(a b:α)(l:List α):atI (a::b::l) 1=some b:=by unfold atI yR;rw[Ku (by lia),Ku (by simp;lia)];rfl
theorem vw {α:Type}(a b c:α)(l:List α):atI (a::b::c::l) 2=some c:=by unfold atI yR;rw[Ku (by lia),Ku (by simp;lia)];rfl
theorem vx {α:Type}(a b c d:α)(l:List α):atI (a::b::c::d::l) 3=some d:=by unfold atI yR;rw[Ku (by lia),Ku (by simp;lia)];rfl
def IK (fl fh:En->Res (Option Int))(env:En)(r:R):Res R:=(fl env).bind λlo=>(fh env).bind λhi=>tD r lo hi
def IL (fh:En->Res (Option Int))(env:En)(r:R)(lo:Option Int):Res R:=(fh env).bind λhi=>tD r lo hi
theorem cC (fa:En->Res R)(fl fh:En->Res (Option Int))(env:En):nB fa fl fh env=(fa env).bind (IK fl fh env):=(rfl)
theorem eQ (fl fh:En->Res (Option Int))(env:En)(r:R):IK fl fh env r=(fl env).bind (IL fh env r):=(rfl)
theorem eR (fh:En->Res (Option Int))(env:En)(r:R)(lo:Option Int):IL fh env r lo=(fh env).bind (tD r lo):=(rfl)
def kO (r:R):Res (Option Int):=match r.d with
 | .int i=>.ok (some i)
 |_=>.stuck
theorem cD (env:En):A0 env=.ok none:=(rfl)
theorem cE (a:En->Res R)(env:En):mq a env=(a env).bind kO:=(rfl)
theorem k_:kO (.val (.int x) f al)=.ok (some x):=(rfl)
def Ek (f:Bool)(al:List Nat)(lo hi:Option Int):D->Res R
 | .lst xs=>.ok (mj (iN xs lo hi) f al)
 | .tup xs=>.ok (mkV (.tup (iN xs lo hi)) f al)
 |_=>.stuck
theorem hZ (r:R)(lo hi:Option Int):tD r lo hi=Ek r.fr r.al lo hi r.d:=by unfold tD Ek;rfl
theorem eU (lo hi:Option Int):Ek f al lo hi (.lst ds)=.ok (mj (iN ds lo hi) f al):=(rfl)
theorem eV (lo hi:Option Int):Ek f al lo hi (.tup ds)=.ok (mkV (.tup (iN ds lo hi)) f al):=(rfl)
def IM (T:String)(r:R):Res R:=.ok (.val (.bl (CI T r.d)) true [])
theorem h7 (T:String)(a:En->Res R)(env:En):zd T a env=(a env).bind (IM T):=(rfl)
theorem eY (T:String)(r:R):IM T r=.ok (.val (.bl (CI T r.d)) true []):=(rfl)
theorem eZ:CI "int" (.int x)=true:=(rfl)
theorem e_:CI "bool" (.int x)=false:=(rfl)
theorem ff:CI "list" (.lst ds)=true:=(rfl)
theorem fg:CI "tuple" (.tup ds)=true:=(rfl)
def IN (asg:D->Bool->En->Option En)(body:En->Res Fl)(env:En)(s:Src):Res Fl:=gb asg s.fr body s.xs (frz env s.al)
theorem h8 (src:En->Res Src)(asg:D->Bool->En->Option En)(body:En->Res Fl)(env:En):tp src asg body env=(src env).bind (IN asg body env):=(rfl)
theorem fj (asg:D->Bool->En->Option En)(body:En->Res Fl)(env:En)(xs:List D):IN asg body env ⟨xs,f,al⟩=gb asg f body xs (frz env al):=(rfl)
def vy (r:R):Res Src:=match r.d with
 | .lst ds=>.ok ⟨ds,r.fr,r.al⟩
 | .tup ds=>.ok ⟨ds,r.fr,r.al⟩
 |_=>.stuck
theorem dj (a:En->Res R)(env:En):j9 a env=(a env).bind vy:=(rfl)
theorem bI:vy (.val (.lst ds) f al)=.ok ⟨ds,f,al⟩:=(rfl)
theorem bJ:vy (.val (.tup ds) f al)=.ok ⟨ds,f,al⟩:=(rfl)
theorem cF:vy (.new ds f)=.ok ⟨ds,f,[]⟩:=(rfl)
theorem bK:vy (.fre (.lst ds))=.ok ⟨ds,true,[]⟩:=(rfl)
theorem bL:vy (.fre (.tup ds))=.ok ⟨ds,true,[]⟩:=(rfl)
def J1 (rs:List R):Res Src:=match rs.map R.d with
 | [.int j]=>if cR j then .ok ⟨j7 0 j.toNat,true,[]⟩ else .stuck
 |_=>.stuck
theorem h_ (fs:En->Res (List R))(env:En):Jp fs env=(fs env).bind J1:=(rfl)
theorem IQ (h1:-4611686018427387904<=x)(h2:x<4611686018427387904):cR x=true:=by unfold cR;rw[Ln];exact⟨Kz (by lia),Kz (by lia)⟩
theorem IR (h1:-4611686018427387904<=x)(h2:x<4611686018427387904):J1 [.val (.int x) f al]=.ok ⟨j7 0 x.toNat,true,[]⟩:=Ku (IQ h1 h2)
theorem fq:frz env []=env:=(rfl)
theorem IS (h:i<env.length):gN i d f env=some (env.set i (some (.val d f))):=Ku h
def vz (n:Nat)(caps:List Nat)(asg:D->Bool->En->Option En)(test:En->Res Bool)(elt:En->Res R)(env:En)(s:Src):Res R:=if s.xs.length<=lim then
 (gc (λd=>asg d s.fr (i7 env n caps)) test elt s.xs).noX.bind λrs=>.ok (mj (rs.map R.d) (bX rs) (s.al++caps.filter (isOwn env))) else .stuck
theorem f7 (n:Nat)(caps:List Nat)(src:En->Res Src)(asg:D->Bool->En->Option En)(test:En->Res Bool)(elt:En->Res R)(env:En) :
 iD n caps src asg test elt env=(src env).bind (vz n caps asg test elt env):=(rfl)
theorem oY (hl:xs.length<=1000000)
 (h:gc (λd=>asg d f (i7 env n caps)) test elt xs=.ok rs):vz n caps asg test elt env ⟨xs,f,al⟩=.ok (mj (rs.map R.d) (bX rs) (al++caps.filter (isOwn env))):=by
 unfold vz;dsimp only;rw[Ku (show xs.length<=lim from hl),h];rfl
theorem jJ {α:Type}{mk:D->Option En}{test:En->Res Bool}{elt:En->Res R}(g:α->D)(k:α->R):∀(xs:List α),(∀ a∈xs,∃ e,mk (g a)=some e/\test e=.ok true/\elt e=.ok (k a))->gc mk test elt (xs.map g)=.ok (xs.map k)
 | [],_=>rfl
 |a::r,h=>by obtain⟨e,h1,h2,h3⟩:=h a (by simp);rw[Kr,Kr];unfold gc;rw[h1];dsimp only;rw[h2];dsimp only[Res.bind];rw[Ku rfl,h3,jJ g k r λb hb=>h b (by simp[hb])]
def zO (i:Nat)(env:En)(ds:List D)(fr:Bool)(r:R):Res Fl:=if ds.length<lim/\¬ i∈r.al then .ok (.nx ((frz env r.al).set i (some (.own (ds++[r.d]) (fr&&r.fr))))) else .stuck
def yn (i:Nat)(a:En->Res R)(env:En):Option (Option Sl)->Res Fl
 |some (some (.own ds fr))=>(a env).bind (zO i env ds fr)
 |some (some (.tre (.lst ds)))=>(a env).bind (zO i env ds true)
 |_=>.stuck
theorem ic (a:En->Res R)(env:En):wF i a env=yn i a env env[i]?:=by
 unfold wF pQ yn;cases env[i]? with
 |none=>rfl
 |some o=>cases o with
  |none=>rfl
  |some s=>cases s with
   |tre d=>cases d<;>rfl
   |_=>rfl
theorem fw (a:En->Res R):yn i a env (some (some (.own ds f)))=(a env).bind (zO i env ds f):=(rfl)
theorem fy (a:En->Res R):yn i a env (some (some (.tre (.lst ds))))=(a env).bind (zO i env ds true):=(rfl)
theorem BZ (h:ds.length<1000000)(hr:r.al=[]):zO i env ds f r=.ok (.nx (env.set i (some (.own (ds++[r.d]) (f&&r.fr))))):=by unfold zO;rw[hr];rw[Ku ⟨h,by simp⟩];rfl
end
theorem aV (x:Int):(D.int x).flat=true:=(rfl)
theorem cG (x:Bool):(D.bl x).flat=true:=(rfl)
theorem bM (x:Str):(D.str x).flat=true:=(rfl)
theorem bN:D.non.flat=true:=(rfl)
theorem aW (ds:List D):(D.tup ds).flat=D.flats ds:=(rfl)
theorem aS (ds:List D):(D.lst ds).flat=false:=(rfl)
theorem aU:D.flats []=true:=(rfl)
theorem aG (d:D)(ds:List D):D.flats (d::ds)=(d.flat&&D.flats ds):=(rfl)
theorem b7 (x:Int):(D.int x).dep=0:=(rfl)
theorem fA (x:Bool):(D.bl x).dep=0:=(rfl)
theorem cH (x:Str):(D.str x).dep=0:=(rfl)
theorem cI:D.non.dep=0:=(rfl)
theorem bV (ds:List D):(D.tup ds).dep=D.deps ds+1:=(rfl)
theorem cb (ds:List D):(D.lst ds).dep=D.deps ds+1:=(rfl)
theorem ba:D.deps []=0:=(rfl)
theorem aQ (d:D)(ds:List D):D.deps (d::ds)=max d.dep (D.deps ds):=(rfl)
theorem fB (r:R):xQ (.ok (.rt r))=.ok r:=(rfl)
theorem fC (e:En):xQ (.ok (.nx e))=.ok (.val .non true []):=(rfl)
theorem bx (d:D)(f:Bool)(al:List Nat):(R.val d f al).d=d:=(rfl)
theorem cc (ds:List D)(f:Bool):(R.new ds f).d=.lst ds:=(rfl)
theorem cJ (d:D):(R.fre d).d=d:=(rfl)
theorem bO (d:D)(f:Bool)(al:List Nat):(R.val d f al).fr=f:=(rfl)
theorem bP (ds:List D)(f:Bool):(R.new ds f).fr=f:=(rfl)
theorem bQ (d:D):(R.fre d).fr=true:=(rfl)
theorem bR (d:D)(f:Bool)(al:List Nat):(R.val d f al).al=al:=(rfl)
theorem bS (ds:List D)(f:Bool):(R.new ds f).al=[]:=(rfl)
theorem bT (d:D):(R.fre d).al=[]:=(rfl)
theorem fX {α β:Type}(a:α)(k:α->Res β):(Res.ok a).bind k=k a:=(rfl)
def GS:D->Res R
 | .lst ds=>match i8 ds with
  |some bs=>.ok (.val (.bl (bs.all id)) true [])
  |none=>.stuck
 |_=>.stuck
theorem ie (r:R):A5 [r]=GS r.d:=by rcases r with⟨d,f,al⟩|⟨ds,f⟩|⟨d⟩<;>first|rfl|(cases d<;>rfl)
theorem zP {α:Type}(xs:List α):GS (.lst (xs.map λ_=>D.bl true))=.ok (.val (.bl true) true []):=by
 have:∀ xs:List α,i8 (xs.map λ_=>D.bl true)=some (xs.map λ_=>true):=by
  intro xs;induction xs with
  |nil=>rfl
  |cons a r ih=>rw[Kr];unfold i8;rw[ih];rfl
 show(match i8 (xs.map λ_=>D.bl true) with|some bs=>Res.ok (R.val (D.bl (bs.all id)) true [])|none=>Res.stuck)=_;rw[this];dsimp only;congr 3;rw[LC];intro x hx;obtain⟨_,_,rfl⟩:=KH.mp hx;rfl
theorem vA:((0:Nat):Int)=0:=(rfl)
theorem vD:((1:Nat):Int)=1:=(rfl)
theorem vE:((2:Nat):Int)=2:=(rfl)
theorem vF:((3:Nat):Int)=3:=(rfl)
theorem vG:((4:Nat):Int)=4:=(rfl)
theorem ig {α β:Type}(c:Str)(k:α->Res β):(Res.exc c:Res α).bind k=.exc c:=(rfl)
theorem cK (c:Str):xQ (.exc c)=.exc c:=(rfl)
noncomputable def J2:D->Res R
 | .int i=>.ok (.val (.int (-i)) true [])
 |_=>.stuck
def IT (r:R):Res R:=J2 r.d
theorem ii (fa:En->Res R)(env:En):A7 fa env=(fa env).bind IT:=by unfold A7;congr 1
theorem fD:IT (.val (.int x) f al)=.ok (.val (.int (-x)) true []):=(rfl)
theorem ij:DA [.val (.int x) f al,.val (.int y) g bl]=.ok (.val (.int (if y<x then y else x)) true []):=(rfl)
def El (asg:D->Bool->En->Option En)(env:En)(r:R):Res Fl:=match asg r.d r.fr (frz env r.al) with
 |some bo=>.ok (.nx bo)
 |none=>.stuck
theorem io (f:En->Res R)(asg:D->Bool->En->Option En)(env:En):wG f asg env=(f env).bind (El asg env):=(rfl)
theorem GT (h:asg r.d r.fr (frz env r.al)=some bo):El asg env r=.ok (.nx bo):=by unfold El;rw[h]
def Fj (r:R):Res Bool:=.ok (!r.d.isNon)
def IU (r:R):Res Bool:=.ok r.d.isNon
theorem cL (a:En->Res R)(env:En):xT a env=(a env).bind Fj:=(rfl)
theorem fE (a:En->Res R)(env:En):A9 a env=(a env).bind IU:=(rfl)
theorem cM (r:R):Fj r=.ok (!r.d.isNon):=(rfl)
theorem fF (r:R):IU r=.ok r.d.isNon:=(rfl)
theorem cN:D.non.isNon=true:=(rfl)
theorem cO (x:Int):(D.int x).isNon=false:=(rfl)
theorem cP (x:List D):(D.tup x).isNon=false:=(rfl)
theorem cQ (x:List D):(D.lst x).isNon=false:=(rfl)
theorem Res.noX_ok {α:Type}(a:α):(Res.ok a).noX=.ok a:=(rfl)
def Em (neg:Bool)(a b:D):Res R:=match b with
 | .dic ks _=>Bb neg a ks
 | .lst ds=>He neg a ds
 | .tup ds=>He neg a ds
 |_=>.stuck
theorem IV (neg:Bool)(a b:R):Bc neg a b=Em neg a.d b.d:=by unfold Bc zg Em;cases b.d<;>rfl
theorem lb (a b:R):Gq a b=Em false a.d b.d:=IV false a b
theorem ax (ks:List DK)(ds:List D):(D.dic ks ds).flat=false:=(rfl)
def xf:D->Res R
 | .lst ds=>match i9 ds with
  |some ps=>if D.flats ((lI [] ps).map Prod.snd) then .ok (.fre (uM ps)) else .stuck
  |none=>.stuck
 |_=>.stuck
theorem dC (r:R):rR [r]=xf r.d:=by unfold rR xf;rfl
theorem Eo (h:i9 ds=some ps)(hf:D.flats ((lI [] ps).map Prod.snd)=true):xf (.lst ds)=.ok (.fre (uM ps)):=by show(match i9 ds with|some ps=>if D.flats ((lI [] ps).map Prod.snd)=true then Res.ok (R.fre (uM ps)) else .stuck|none=>.stuck)=_;rw[h];exact Ku hf
def putAt (i:Nat)(fk fv:En->Res R)(env:En):Option (Option Sl)->Res Fl
 |some (some (.tre (.dic ks ds)))=>(fv env).bind (rT i fk env ks ds)
 |_=>.stuck
theorem fG (i:Nat)(fk fv:En->Res R)(env:En):rV i fk fv env=putAt i fk fv env env[i]?:=by unfold rV putAt;rfl
theorem cS:putAt i fk fv env (some (some (.tre (.dic ks ds))))=(fv env).bind (rT i fk env ks ds):=(rfl)
theorem yo (h:r.d.flat=true):rT i fk env ks ds r=(fk env).bind (rS i env ks ds r.d):=Ku h
theorem yp (h:keyX k.d=some x)(h2:ks.all (kin x)=true)(h3:ks.length<1000000):rS i env ks ds d k=.ok (.nx (env.set i (some (.tre (jR ks ds x d))))):=by unfold rS;rw[h];exact Ku ⟨h2,h3⟩
def lD (xs ys:List D)(f:Bool)(al:List Nat):Res R:=if xs.length+ys.length<=lim/\xs≠[] then .ok (mkV (.tup (xs++ys)) f al) else .stuck
theorem fH:jq (.val (.tup xs) f al) (.val (.tup ys) g bl)=lD xs ys (f&&g) (al++bl):=(rfl)
theorem bc (h:d.flat=false):iC rs (.fre d)=.fre d:=by show z3 d true rs=_;unfold z3;rw[Kv (by rw[h];simp),Ku rfl]
theorem fI (fa fk fx:En->Res R)(env:En):pW fa fk fx env=(fa env).bind (Ie fk fx env):=(rfl)
theorem Fk (h:ra.d=.dic ks ds):Ie fk fx env ra=(fk env).bind (JR fx env ra ks ds):=by unfold Ie;rw[h]
theorem gd (fx:En->Res R)(env:En)(ra:R)(ks:List DK)(ds:List D)(rk:R):JR fx env ra ks ds rk=(fx env).bind (Hf ra ks ds rk):=(rfl)
theorem fJ:oe (.val (.int k) f al) (.val (.bl b) g bl)=.ok (.fre (.dic [ik k] [.bl b])):=(rfl)
theorem fK:CI "bool" (.bl b)=true:=(rfl)
theorem lc (k:En->Res Fl)(r:R)(e:En):kS k (.rm r e)=.ok (.rm r e):=(rfl)
def Fm (i:Nat)(env:En)(r:R):Res Fl:=if i<env.length then .ok (.nx ((frz env r.al).set i (some (.val r.d r.fr)))) else .stuck
theorem fL (i:Nat)(a:En->Res R)(env:En):mw i a env=(a env).bind (Fm i env):=(rfl)
theorem cT (h:i<env.length):Fm i env r=.ok (.nx ((frz env r.al).set i (some (.val r.d r.fr)))):=Ku h
theorem ce (a b:R):rZ [a,b]=DA [a,b]:=(rfl)
def Fo:D->Res R
 | .lst ds=>match fW ds with
  |some ns=>if ns.isEmpty then .stuck else .ok (.val (.int (oA ns)) true [])
  |none=>.stuck
 |_=>.stuck
theorem cU (r:R):rZ [r]=Fo r.d:=by unfold rZ Fo;rfl
theorem dD (f:En->Res R)(asg:D->Bool->En->Option En)(fb:En->Res Fl)(env:En):Bi f asg fb env=(f env).bind (uS asg fb env):=(rfl)
theorem yq (g:Int->D):∀ ks:List Int,oC (ks.map ik) (ks.map g)=some (ks.map λk=>.tup [.int k,g k])
 | []=>(rfl)
 |k::r=>by rw[Kr,Kr];show Option.map _ (oC (r.map ik) (r.map g))=_;rw[yq g r];rfl
theorem Ep {asg:D->Bool->En->Option En}{fb:En->Res Fl}{ks:List Int}{g:Int->D}{fr:Bool}:uS asg fb env (.val (.dic (ks.map ik) (ks.map g)) fr [])=i_ (gb asg fr fb (ks.map λk=>.tup [.int k,g k]) env):=by show(match oC (ks.map ik) (ks.map g) with|some xs=>i_ (gb asg fr fb xs env)|none=>.stuck)=_;rw[yq]
theorem vH (e:En):i_ (.ok (.nx e))=.ok (.nx e):=(rfl)
theorem GU (h:ra.d=.dic ks ds)(hk:keyX rk.d=some x)(ha:ks.all (kin x)=true)(hg:getD ks ds x=some d):rW ra rk=.ok (mkV d ra.fr ra.al):=by unfold rW;rw[h];dsimp only;rw[hk];dsimp only;rw[Ku ha,hg]
theorem cV:GQ (.val (.lst ds) f al)=.ok (!ds.isEmpty):=(rfl)
end L3
local macro_rules|`(tactic| simp_arith[$as,*] $[$l:location]?)=>do
 let ls←("L3.fV L3.b8 L3.lc L3.fL L3.cT L3.ce L3.cU L3.dD L3.cV decide_true decide_false List.map_cons List.map_nil List.length_cons List.length_nil List.replicate List.cons_append List.nil_append List.append_nil Nat.reduceAdd Nat.max_self Nat.zero_max Nat.max_zero Nat.zero_add Nat.reduceSub L3.gE L3.gJ L3.kT L3.gR L3.gK L3.gL L3.gM L3.gO L3.cY L3.cZ L3.aV L3.cG L3.bM L3.bN L3.aW L3.aS L3.aU L3.aG L3.b7 L3.fA L3.cH L3.cI L3.bV L3.cb L3.ba L3.aQ L3.vp L3.fX List.getElem?_cons_zero List.getElem?_cons_succ L3.gU L3.gW L3.gS L3.dQ Int.reduceLT Int.reduceLE Int.reduceNeg L3.dL L3.dM L3.dN L3.dP L3.kM L3.kN List.set_cons_zero List.set_cons_succ Nat.reduceLT Nat.reduceLeDiff L3.kR L3.gF L3.gG L3.gH L3.gI L3.dJ L3.kU L3.kW L3.kX L3.kY L3.gX L3.cn L3.cp L3.cq L3.cr L3.dR L3.cu L3.cv L3.bC L3.iE L3.dS L3.gY L3.dU L3.bD L3.aY L3.bE L3.aZ L3.dW L3.cw L3.bF L3.bG L3.bh L3.bH L3.br L3.a_ L3.kZ L3.gZ L3.dX L3.dY L3.dZ L3.cx L3.cy L3.k7 L3.k8 L3.d7 L3.d8 L3.d9 L3.cz L3.d_ L3.g8 L3.eh L3.er L3.g9 L3.g_ L3.eB L3.cA L3.cB L3.eF L3.eG L3.k9 L3.hI L3.hJ L3.hV L3.jo L3.eI L3.eJ L3.eL L3.eM L3.qT L3.vq L3.vw L3.vx L3.cC L3.eQ L3.eR L3.cD L3.cE L3.k_ L3.hZ L3.eU L3.eV L3.h7 L3.eY L3.eZ L3.e_ L3.ff L3.fg L3.h8 L3.fj L3.dj L3.bI L3.bJ L3.cF L3.bK L3.bL L3.h_ L3.fq L3.cL L3.fE L3.cM L3.fF L3.cN L3.cO L3.cP L3.cQ L3.ig L3.cK L3.Res.noX_ok L3.ii L3.fD L3.ij L3.io L3.vA L3.vD L3.vE L3.vF L3.vG Int.reduceBEq L3.ie Bool.not_not Nat.reduceEqDiff L3.f7 L3.ic L3.fw L3.fy L3.bx L3.cc L3.cJ L3.bO L3.bP L3.bQ L3.bR L3.bS L3.bT Bool.and_true Bool.true_and Bool.and_false Bool.false_and Bool.and_self Bool.not_true Bool.not_false L3.fB L3.fC L3.de L3.ck L3.lb L3.dC L3.ax L3.fH L3.fG L3.cS L3.fJ L3.fK L3.fI L3.gd L3.bc".splitOn " ").toArray.mapM λs=>`(Lean.Parser.Tactic.simpLemma| $(Lean.mkIdent s.toName):ident)
 `(tactic| simp only[$[$ls:simpLemma],*,$as,*] $[$l]?)
local macro_rules|`(tactic| simp_arith $[$l:location]?)=>`(tactic| simp_arith[L3.fX] $[$l]?)
namespace L3
open PySem L2
theorem vI {α β:Type}(g:α->β)(xs:List α)(lo hi:Option Int):iN (xs.map g) lo hi=(iN xs lo hi).map g:=by unfold iN;rw[Kw,List.map_take,List.map_drop]
theorem vJ {α:Type}(xs:List α)(lo hi:Option Int):(iN xs lo hi).length<=xs.length:=by unfold iN;rw[MY,Ol];lia
theorem B0 {α:Type}(xs:List α)(lo hi:Option Int):∀ a∈iN xs lo hi,a∈xs:=by unfold iN;intro a h;exact List.mem_of_mem_drop (List.mem_of_mem_take h)
theorem B2:(∀ d∈ds,d.flat=true)->D.flats ds=true:=by
 induction ds with
 |nil=>intro _;rfl
 |cons d r ih=>intro h;rw[aG,h d (by simp),ih λx hx=>h x (by simp[hx])];rfl
theorem du {α:Type}(g:α->D)(xs:List α)(h:∀ a,(g a).flat=true):D.flats (xs.map g)=true:=B2 λd hd=>by obtain⟨a,_,rfl⟩:=KH.mp hd;exact h a
theorem b9 (xs:List Int):D.flats (xs.map D.int)=true:=du _ _ aV
theorem xg (h:d.flat=false):D.flats (d::ds)=false:=by rw[aG,h];rfl
theorem Er:(∀ d∈ds,d.dep<=n)->D.deps ds<=n:=by
 induction ds with
 |nil=>intro _;rw[ba];lia
 |cons d r ih=>intro h;have h1:=h d (by simp);have h2:=ih λx hx=>h x (by simp[hx]);rw[aQ];lia
theorem vK {α:Type}{g:α->D}{xs:List α}{n:Nat}(h:∀ a,(g a).dep<=n):D.deps (xs.map g)<=n:=Er λd hd=>by obtain⟨a,_,rfl⟩:=KH.mp hd;exact h a
theorem su (xs:List Int):D.deps (xs.map D.int)<=0:=vK λ_=>Kq 0
theorem qz {α:Type}(g:α->D)(xs:List α):bX (xs.map λa=>.val (g a) true [])=true:=by unfold bX;rw[LC];intro r h;obtain⟨a,_,rfl⟩:=KH.mp h;rfl
theorem vL {α:Type}(g:α->D)(fr:Bool)(al:List Nat)(xs:List α):(xs.map λa=>R.val (g a) fr al).map R.d=xs.map g:=by rw[KZ];rfl
theorem yr (n:Nat):j7 0 n=(List.range n).map λk=>.int (k:Nat):=by unfold j7;congr 1;funext k;simp
theorem vM {α:Type}(g:α->D){asg:D->Bool->En->Option En}{fr:Bool}{body:En->Res Fl}(P:List α->En->Prop):∀(xs pre:List α)(env:En),P pre env->
 (∀(pre post:List α)(a:α)(env:En),(∀ b∈pre,b∈pre)->P pre env->a∈xs->∃ jz env2,asg (g a) fr env=some jz/\body jz=.ok (.nx env2)/\P (pre++[a]) env2)->
 ∃ bo,gb asg fr body (xs.map g) env=.ok (.nx bo)/\P (pre++xs) bo
 | [],pre,env,h,_=>⟨env,rfl,by rw[KM];exact h⟩
 |a::r,pre,env,h,st=>by obtain⟨jz,env2,h1,h2,h3⟩:=st pre [] a env (λ_ z=>z) h (by simp);obtain⟨bo,e1,e2⟩:=vM g P r (pre++[a]) env2 h3 λp q b e z hp hb=>st p q b e z hp (by simp[hb]);refine⟨bo,?_,by rw[Mb]at e2;exact e2⟩;rw[Kr];unfold gb;rw[h1];dsimp only;rw[h2];exact e1
theorem mE {α:Type}(g:α->D){asg:D->Bool->En->Option En}{fr:Bool}{body:En->Res Fl}(all:List α)(P:List α->En->Prop):∀(xs pre:List α)(env:En),all=pre++xs->P pre env->
 (∀(pre post:List α)(a:α)(env:En),all=pre++a::post->P pre env->∃ jz env2,asg (g a) fr env=some jz/\body jz=.ok (.nx env2)/\P (pre++[a]) env2)->
 ∃ bo,gb asg fr body (xs.map g) env=.ok (.nx bo)/\P all bo
 | [],pre,env,e,h,_=>⟨env,rfl,by rw[e,KM];exact h⟩
 |a::r,pre,env,e,h,st=>by obtain⟨jz,env2,h1,h2,h3⟩:=st pre r a env e h;obtain⟨bo,e1,e2⟩:=mE g all P r (pre++[a]) env2 (by rw[e];simp) h3 st;refine⟨bo,?_,e2⟩;rw[Kr];unfold gb;rw[h1];dsimp only;rw[h2];exact e1
theorem yt (f:D->Bool->En->Option En)(fs:List D->Bool->En->Option En)(d:D)(ds:List D)(fr:Bool)(env:En):aF f fs (d::ds) fr env=(f d fr env).bind λe=>fs ds fr e:=(rfl)
theorem Es {α β:Type}(g:α->β)(xs:List α)(k:Int):atI (xs.map g) k=(atI xs k).map g:=by
 unfold atI;rw[Kw];cases yR xs.length k with
 |none=>rfl
 |some j=>simp
theorem GV {α:Type}{xs:List α}{k:Int}(h0:0<=k)(h:k<xs.length):∃ a,atI xs k=some a/\xs[k.toNat]?=some a:=by
 unfold atI yR;rw[Ku h0,Ku h];have:k.toNat<xs.length:=by lia
 exact⟨xs[k.toNat],by simp[this],by simp[this]⟩
structure Rl where
 room:Int
 sign:Int
 to:Int
 put:List Int
def Rl.d (r:Rl):D:=.tup [.int r.room,.int r.sign,.int r.to,.tup (r.put.map .int)]
end L3
namespace W
open PySem PySem.Spec PyProof.Rows L2 L3 L4
def top (i:Nat):Stmt:=PySem.Challenge.pw_callwalk_k23_pairs.main.body.getD i (.Pass ⟨0,0,0,0⟩)
abbrev s__law_seed_at:Stmt:=top 20
noncomputable abbrev lg:List Str:=["_law_script", "_law_k", "_law_cell"]
noncomputable abbrev P__law_seed_at:List Str:=["_law_script", "_law_k"]
theorem sc__law_seed_at:FnScope lg P__law_seed_at (defScope s__law_seed_at):=⟨rfl,rfl,rfl,by decide +kernel,rfl,by decide +kernel,by decide +kernel⟩
def je:En->Res Fl:=
 (bY (iL 2 (vC (.int 0)))
 (bY (v4 (vB (v2 F_ (ao 1) (uG wB (ah (ao 0) aN)))) (iL 2 (aX 0 (ao 1))) lB)
 (jC (v2 jB (v2 wz (v2 wz (v2 jq (v2 jB (ao 2) (vC (.int 2147483647))) (vC (.int 11))) (vC (.int 48271))) (vC (.int 69621))) (vC (.int 2147483629))))))
def df:List D->Res R:=fV lg je
abbrev s__law_rule_by:Stmt:=top 22
noncomputable abbrev lh:List Str:=["_law_cell", "_law_rooms", "_law_signs", "_law_number", "_law_kind", "_law_room", "_law_sign", "_law_to", "_law_one", "_law_put"]
noncomputable abbrev P__law_rule_by:List Str:=["_law_cell", "_law_rooms", "_law_signs"]
theorem sc__law_rule_by:FnScope lh P__law_rule_by (defScope s__law_rule_by):=⟨rfl,rfl,rfl,by decide +kernel,rfl,by decide +kernel,by decide +kernel⟩
def li:En->Res Fl:=
 (bY (iL 3 (v2 jB (v2 wz (v2 wz (v2 wz (ao 0) (vC (.int 48271))) (vC (.int 48271))) (vC (.int 48271))) (vC (.int 2305843009213693951))))
 (bY (wG (uG jm (ah (ao 3) (ah (vC (.int 3)) aN))) (gT 2 (aF (gN 3) (aF (gN 4) dE))))
 (bY (wG (uG jm (ah (ao 3) (ah (vC (.int 840)) aN))) (gT 2 (aF (gN 3) (aF (gN 5) dE))))
 (bY (wG (uG jm (ah (ao 3) (ah (vC (.int 60)) aN))) (gT 2 (aF (gN 3) (aF (gN 6) dE))))
 (bY (wG (uG jm (ah (ao 3) (ah (vC (.int 840)) aN))) (gT 2 (aF (gN 3) (aF (gN 7) dE))))
 (bY (wG (uG jm (ah (ao 3) (ah (vC (.int 60)) aN))) (gT 2 (aF (gN 3) (aF (gN 8) dE))))
 (bY (iL 9 (lN (ah (v2 jB (ao 8) (ao 2)) (ah (v2 jB (ao 3) (ao 2)) aN))))
 (jC (gp (ah (v2 jB (ao 5) (ao 1)) (ah (v2 jB (ao 6) (ao 2)) (ah (v2 jB (ao 7) (ao 1)) (ah (uG tG (ah (nB (ao 9) A0 (mq (ao 4))) aN)) aN)))))))))))))
def gf:List D->Res R:=fV lh li
abbrev s_is_plain:Stmt:=top 4
noncomputable abbrev lU:List Str:=["house", "machine"]
noncomputable abbrev P_is_plain:List Str:=["house", "machine"]
theorem vN:FnScope lU P_is_plain (defScope s_is_plain):=⟨rfl,rfl,rfl,by decide +kernel,rfl,by decide +kernel,by decide +kernel⟩
theorem qA:((["arrow"]:List Str)++(["house"]:List Str)).Nodup:=by decide +kernel
def gg:En->Res R:=λenv=>(v2 JL (aX 0 (vC (.int 2))) (aX 1 (vC (.int 0)))) env
def qB:En->Res Fl:=(jC (uG A5 (ah (iD 1 [0] (j9 (aX 1 (vC (.int 1)))) (gN 0) (λ_=>.ok true) gg) aN)))
def jV:List D->Res R:=fV lU qB
abbrev s_refuse_unless_plain:Stmt:=top 5
noncomputable abbrev gk:List Str:=["house", "machine"]
noncomputable abbrev P_refuse_unless_plain:List Str:=["house", "machine"]
theorem jW:FnScope gk P_refuse_unless_plain (defScope s_refuse_unless_plain):=⟨rfl,rfl,rfl,by decide +kernel,rfl,by decide +kernel,by decide +kernel⟩
def gm:En->Res Fl:=(v4 (oB (sX (fQ jV (ah (ao 0) (ah (ao 1) aN))))) (λ_=>.stuck) lB)
def bu:List D->Res R:=fV gk gm
abbrev s_rules_by_start:Stmt:=top 9
noncomputable abbrev nN:List Str:=["house", "rules", "number", "rule"]
noncomputable abbrev P_rules_by_start:List Str:=["house"]
theorem sc_rules_by_start:FnScope nN P_rules_by_start (defScope s_rules_by_start):=⟨rfl,rfl,rfl,by decide +kernel,rfl,by decide +kernel,by decide +kernel⟩
abbrev s_prices:Stmt:=top 11
noncomputable abbrev B3:List Str:=["house", "machine", "pricing", "arrow", "number", "rule"]
noncomputable abbrev P_prices:List Str:=["house", "machine"]
theorem sc_prices:FnScope B3 P_prices (defScope s_prices):=⟨rfl,rfl,rfl,by decide +kernel,rfl,by decide +kernel,by decide +kernel⟩
abbrev s_QI:Stmt:=iG (top 7) 0
theorem IW:FnScope ["self"] ["self"] (defScope s_QI):=⟨rfl,rfl,rfl,by decide +kernel,rfl,by decide +kernel,by decide +kernel⟩
abbrev s_QA:Stmt:=iG (top 7) 1
theorem IX:FnScope ["self", "price", "thing"] ["self", "price", "thing"] (defScope s_QA):=⟨rfl,rfl,rfl,by decide +kernel,rfl,by decide +kernel,by decide +kernel⟩
abbrev s_QE:Stmt:=iG (top 7) 2
theorem IY:FnScope ["self"] ["self"] (defScope s_QE):=⟨rfl,rfl,rfl,by decide +kernel,rfl,by decide +kernel,by decide +kernel⟩
abbrev s_QT:Stmt:=iG (top 7) 3
theorem sc_QT:FnScope ["self", "pile", "price", "thing"] ["self"] (defScope s_QT):=⟨rfl,rfl,rfl,by decide +kernel,rfl,by decide +kernel,by decide +kernel⟩
abbrev s_PI:Stmt:=iG (top 10) 0
theorem IZ:FnScope ["self", "house"] ["self", "house"] (defScope s_PI):=⟨rfl,rfl,rfl,by decide +kernel,rfl,by decide +kernel,by decide +kernel⟩
abbrev s_PO:Stmt:=iG (top 10) 1
theorem sc_PO:FnScope ["self", "arrow", "price", "number", "mid", "known"] ["self", "arrow", "price", "number", "mid"] (defScope s_PO):=⟨rfl,rfl,rfl,by decide +kernel,rfl,by decide +kernel,by decide +kernel⟩
abbrev s_PS:Stmt:=iG (top 10) 2
theorem sc_PS:FnScope ["self", "arrow", "price", "start", "number", "rule", "first"] ["self", "arrow", "price"] (defScope s_PS):=⟨rfl,rfl,rfl,by decide +kernel,rfl,by decide +kernel,by decide +kernel⟩
abbrev s_PF:Stmt:=iG (top 10) 3
theorem sc_PF:FnScope ["self", "number", "rule", "mid", "price", "start", "state", "second"] ["self", "number", "rule", "mid", "price"] (defScope s_PF):=⟨rfl,rfl,rfl,by decide +kernel,rfl,by decide +kernel,by decide +kernel⟩
abbrev s_PA:Stmt:=iG (top 10) 4
theorem sc_PA:FnScope ["self", "price", "arrow"] ["self"] (defScope s_PA):=⟨rfl,rfl,rfl,by decide +kernel,rfl,by decide +kernel,by decide +kernel⟩
def iq:List D->Res R:=L4.Iv bu
abbrev s_pairs:Stmt:=top 18
noncomputable abbrev tV:List Str:=["house", "told"]
noncomputable abbrev P_pairs:List Str:=["house"]
theorem sc_pairs:FnScope tV P_pairs (defScope s_pairs):=⟨rfl,rfl,rfl,by decide +kernel,rfl,by decide +kernel,by decide +kernel⟩
theorem om:((["arrow", "price"]:List Str)++([]:List Str)).Nodup:=by decide +kernel
def lz:En->Res R:=λenv=>(gp (ah (ao 0) (ah (aX 1 (vC (.int 0))) aN))) env
def yu:En->Res Fl:=
 (bY (mw 1 (fQ iq (ah (ao 0) (ah (gp (ah (aX 0 (vC (.int 0))) (ah (lN aN) (ah (lN aN) aN)))) aN))))
 (jC (uG rR (ah (tU 2 [] (ao 1) (gT 2 (aF (gN 0) (aF (gN 1) dE))) (λ_=>.ok true) lz) aN))))
def oZ:List D->Res R:=fV tV yu
abbrev s__law_whole:Stmt:=top 21
noncomputable abbrev mF:List Str:=["_law_found"]
noncomputable abbrev P__law_whole:List Str:=["_law_found"]
theorem qX:FnScope mF P__law_whole (defScope s__law_whole):=⟨rfl,rfl,rfl,by decide +kernel,rfl,by decide +kernel,by decide +kernel⟩
def mG:En->Res Fl:=(jC (Dn (zd "int" (ao 0)) (Ge (zd "bool" (ao 0)))))
def fP:List D->Res R:=fV mF mG
abbrev s__law_formed:Stmt:=top 23
noncomputable abbrev jv:List Str:=["_law_found", "_law_house", "_law_pair", "_law_price"]
noncomputable abbrev P__law_formed:List Str:=["_law_found", "_law_house"]
theorem sc__law_formed:FnScope jv P__law_formed (defScope s__law_formed):=⟨rfl,rfl,rfl,by decide +kernel,rfl,by decide +kernel,by decide +kernel⟩
theorem mH:((["_law_part"]:List Str)++([]:List Str)).Nodup:=by decide +kernel
def cg:En->Res R:=λenv=>(fQ fP (ah (ao 0) aN)) env
def iA:En->Res Fl:=λenv=>
 (bY (v4 (Dp (oB (sX (zd "tuple" (ao 2)))) (Dp (vB (v2 Ga (uG wB (ah (ao 2) aN)) (vC (.int 3)))) (oB (sX (uG A5 (ah (iD 1 [] (j9 (ao 2)) (gN 0) (λ_=>.ok true) cg) aN)))))) (jC (vC (.bl false))) lB)
 (bY (v4 (Dp (oB (vB (nF HJ F_ (vC (.int 0)) (aX 2 (vC (.int 0))) (aX 1 (vC (.int 0)))))) (Dp (oB (vB (nF HJ F_ (vC (.int 0)) (aX 2 (vC (.int 1))) (aX 1 (vC (.int 1)))))) (oB (vB (nF HJ F_ (vC (.int 0)) (aX 2 (vC (.int 2))) (aX 1 (vC (.int 0)))))))) (jC (vC (.bl false))) lB)
 (v4 (oB (sX (fQ fP (ah (ao 3) aN)))) (jC (vC (.bl false))) lB))) env
def lJ:En->Res Fl:=
 (bY (Bl (ao 0) (gT 2 (aF (gN 2) (aF (gN 3) dE))) iA)
 (jC (vC (.bl true))))
def gz:List D->Res R:=fV jv lJ
abbrev s__law_bids:Stmt:=top 24
noncomputable abbrev oo:List Str:=["_law_found", "_law_rooms", "_law_rule", "_law_to", "_law_put", "_law_bids_here", "_law_middle", "_law_price", "_law_last", "_law_other"]
noncomputable abbrev P__law_bids:List Str:=["_law_found", "_law_rooms", "_law_rule"]
theorem sc__law_bids:FnScope oo P__law_bids (defScope s__law_bids):=⟨rfl,rfl,rfl,by decide +kernel,rfl,by decide +kernel,by decide +kernel⟩
def fY:En->Res Fl:=λenv=>
 (bY (iL 9 (mD (ao 0) (gp (ah (ao 6) (ah (aX 4 (vC (.int 1))) (ah (ao 8) aN))))))
 (v4 (xT (ao 9)) (wF 5 (gp (ah (ao 8) (ah (v2 jq (v2 jq (vC (.int 1)) (ao 7)) (ao 9)) aN)))) lB)) env
def dv:En->Res Fl:=λenv=>
 (bY (iL 7 (mD (ao 0) (gp (ah (ao 3) (ah (aX 4 (vC (.int 0))) (ah (ao 6) aN))))))
 (bY (v4 (A9 (ao 7)) (λenv=>.ok (.ct env)) lB)
 (bY (v4 (vB (v2 AM (uG wB (ah (ao 4) aN)) (vC (.int 1)))) (bY (wF 5 (gp (ah (ao 6) (ah (v2 jq (vC (.int 1)) (ao 7)) aN))))
 (λenv=>.ok (.ct env))) lB)
 (tp (Jp (ah (ao 1) aN)) (gN 8) fY)))) env
def lj:En->Res Fl:=
 (bY (DI 3 4 (ah (aX 2 (vC (.int 2))) (ah (aX 2 (vC (.int 3))) aN)))
 (bY (v4 (vB (v2 AM (ao 4) (gp aN))) (jC (lN (ah (gp (ah (ao 3) (ah (vC (.int 1)) aN))) aN))) lB)
 (bY (iL 5 (lN aN))
 (bY (tp (Jp (ah (ao 1) aN)) (gN 6) dv)
 (jC (ao 5))))))
def ir:List D->Res R:=fV oo lj
abbrev s_lowest_end:Stmt:=top 16
noncomputable abbrev jX:List Str:=["machine", "sums"]
noncomputable abbrev P_lowest_end:List Str:=["machine", "sums"]
theorem qY:FnScope jX P_lowest_end (defScope s_lowest_end):=⟨rfl,rfl,rfl,by decide +kernel,rfl,by decide +kernel,by decide +kernel⟩
theorem nO:((["end"]:List Str)++(["sums"]:List Str)).Nodup:=by decide +kernel
def bj:En->Res Bool:=λenv=>(vB (v2 Gq (ao 0) (ao 1))) env
def bm:En->Res R:=λenv=>(gp (ah (v2 zZ (v2 rW (ao 1) (ao 0)) (vC (.int 0))) (ah (ao 0) aN))) env
def jY:En->Res Fl:=(jC (BK (iD 1 [1] (j9 (aX 0 (vC (.int 2)))) (gN 0) bj bm)))
def gh:List D->Res R:=fV jX jY
abbrev s_priced_from:Stmt:=top 13
noncomputable abbrev qZ:List Str:=["told", "leading", "arrow", "price"]
noncomputable abbrev P_priced_from:List Str:=["told"]
theorem sc_priced_from:FnScope qZ P_priced_from (defScope s_priced_from):=⟨rfl,rfl,rfl,by decide +kernel,rfl,by decide +kernel,by decide +kernel⟩
def jw:List D->Res R:=L4.Iy L4.qM L4.qN
abbrev s_sums_ahead:Stmt:=top 14
noncomputable abbrev mI:List Str:=["leading", "sums", "sign", "ahead", "state", "reached", "arrow", "price", "known"]
noncomputable abbrev P_sums_ahead:List Str:=["leading", "sums", "sign"]
theorem sc_sums_ahead:FnScope mI P_sums_ahead (defScope s_sums_ahead):=⟨rfl,rfl,rfl,by decide +kernel,rfl,by decide +kernel,by decide +kernel⟩
def fM:En->Res Fl:=λenv=>
 (bY (iL 8 (mD (ao 3) (aX 6 (vC (.int 2)))))
 (v4 (Dp (A9 (ao 8)) (vB (v2 F_ (v2 jq (aX 5 (vC (.int 0))) (ao 7)) (aX 8 (vC (.int 0)))))) (rV 3 (aX 6 (vC (.int 2))) (gp (ah (v2 jq (aX 5 (vC (.int 0))) (ao 7)) (ah (ao 6) aN)))) lB)) env
def b_:En->Res Fl:=λenv=>(tp (j9 (pW (ao 0) (gp (ah (ao 4) (ah (ao 2) aN))) (lN aN))) (gT 2 (aF (gN 6) (aF (gN 7) dE))) fM) env
def mJ:En->Res Fl:=
 (bY (iL 3 (λ_=>.ok (.fre (.dic [] []))))
 (bY (Bi (ao 1) (gT 2 (aF (gN 4) (aF (gN 5) dE))) b_)
 (jC (ao 3))))
def iP:List D->Res R:=fV mI mJ
abbrev s_sums_along:Stmt:=top 15
noncomputable abbrev mK:List Str:=["told", "standing", "leading", "rows", "sign"]
noncomputable abbrev P_sums_along:List Str:=["told", "standing"]
theorem sc_sums_along:FnScope mK P_sums_along (defScope s_sums_along):=⟨rfl,rfl,rfl,by decide +kernel,rfl,by decide +kernel,by decide +kernel⟩
def fN:En->Res Fl:=λenv=>(wF 3 (fQ iP (ah (ao 2) (ah (aX 3 (A7 (vC (.int 1)))) (ah (ao 4) aN))))) env
def mL:En->Res Fl:=
 (bY (mw 2 (fQ jw (ah (ao 0) aN)))
 (bY (iL 3 (lN (ah (v2 oe (aX 1 (vC (.int 0))) (gp (ah (vC (.int 0)) (ah (vC .non) aN)))) aN)))
 (bY (tp (j9 (aX 1 (vC (.int 1)))) (gN 4) fN)
 (jC (ao 3)))))
def iQ:List D->Res R:=fV mK mL
abbrev s_least:Stmt:=top 17
noncomputable abbrev yw:List Str:=["house", "machine", "standing", "lowest"]
noncomputable abbrev P_least:List Str:=["house", "machine", "standing"]
theorem sc_least:FnScope yw P_least (defScope s_least):=⟨rfl,rfl,rfl,by decide +kernel,rfl,by decide +kernel,by decide +kernel⟩
def tW:En->Res Fl:=
 (bY (mw 3 (fQ gh (ah (ao 1) (ah (v2 zZ (fQ iQ (ah (fQ iq (ah (ao 0) (ah (ao 1) aN))) (ah (ao 2) aN))) (A7 (vC (.int 1)))) aN))))
 (jC (JO (A9 (ao 3)) (vC .non) (aX 3 (vC (.int 0))))))
def mM:List D->Res R:=fV yw tW
abbrev s_law:Stmt:=top 25
noncomputable abbrev B4:List Str:=["_law_script", "_law_shape", "_law_house", "_law_most", "_law_rules", "_law_handed", "_law_found", "_law_due", "_law_rule", "_law_last", "_law_price", "_law_pair", "_law_asked", "_law_told"]
noncomputable abbrev P_law:List Str:=["_law_script"]
theorem sc_law:FnScope B4 P_law (defScope s_law):=⟨rfl,rfl,rfl,by decide +kernel,rfl,by decide +kernel,by decide +kernel⟩
theorem zQ:((["_law_cell"]:List Str)++(["_law_house"]:List Str)).Nodup:=by decide +kernel
def o0:En->Res R:=λenv=>(fQ gf (ah (ao 0) (ah (aX 1 (vC (.int 0))) (ah (aX 1 (vC (.int 1))) aN)))) env
def mN:En->Res Fl:=λenv=>
 (bY (iL 11 (gp (ah (aX 8 (vC (.int 0))) (ah (aX 8 (vC (.int 1))) (ah (ao 9) aN)))))
 (rV 7 (ao 11) (uG rZ (ah (ao 10) (ah (pW (ao 7) (ao 11) (ao 10)) aN))))) env
def o5:En->Res Fl:=λenv=>(tp (j9 (fQ ir (ah (ao 6) (ah (aX 2 (vC (.int 0))) (ah (ao 8) aN))))) (gT 2 (aF (gN 9) (aF (gN 10) dE))) mN) env
def qC:En->Res Fl:=λenv=>(jC (Dn (v2 zN (ao 7) (ao 6)) (v2 AM (ao 13) (mD (ao 7) (ao 11))))) env
def qD:En->Res Fl:=λenv=>
 (bY (v4 (Gg (xT (ao 13)) (oB (sX (fQ fP (ah (ao 13) aN))))) (jC (vC (.bl false))) lB)
 qC) env
def qE:En->Res Fl:=λenv=>
 (bY (mw 13 (fQ mM (ah (ao 5) (ah (gp (ah (aX 2 (vC (.int 0))) (ah (lN aN) (ah (lN (ah (aX 11 (vC (.int 2))) aN)) aN)))) (ah (gp (ah (aX 11 (vC (.int 0))) (ah (lN (ah (aX 11 (vC (.int 1))) aN)) aN))) aN)))))
 qD) env
def qF:En->Res Fl:=λenv=>
 (bY (iL 11 (gp (ah (v2 jB (v2 jB (ao 12) (vC (.int 840))) (aX 2 (vC (.int 0)))) (ah (v2 jB (v2 jB (v2 uE (ao 12) (vC (.int 840))) (vC (.int 60))) (aX 2 (vC (.int 1)))) (ah (v2 jB (v2 uE (ao 12) (vC (.int 50400))) (aX 2 (vC (.int 0)))) aN)))))
 qE) env
def qG:En->Res Fl:=λenv=>
 (bY (mw 12 (fQ df (ah (ao 0) (ah (vC (.int 1)) aN))))
 qF) env
def qH:En->Res Fl:=λenv=>
 (bY (tp (j9 (ao 4)) (gN 8) o5)
 qG) env
def mP:En->Res Fl:=λenv=>
 (bY (iL 7 (λ_=>.ok (.fre (.dic [] []))))
 qH) env
def vP:En->Res Fl:=λenv=>
 (bY (v4 (Dp (oB (sX (zd "dict" (ao 6)))) (Dp (vB (v2 Ga (ao 5) (ao 2))) (oB (sX (fQ gz (ah (ao 6) (ah (ao 2) aN))))))) (jC (vC (.bl false))) lB)
 mP) env
def yx:En->Res Fl:=λenv=>
 (bY (mw 6 (fQ oZ (ah (ao 5) aN)))
 vP) env
def yy:En->Res Fl:=λenv=>
 (bY (iL 5 (gp (ah (aX 2 (vC (.int 0))) (ah (aX 2 (vC (.int 1))) (ah (uG uH (ah (ao 4) aN)) aN)))))
 yx) env
def yz:En->Res Fl:=λenv=>
 (bY (iL 2 (gp (ah (aX 2 (vC (.int 0))) (ah (aX 2 (vC (.int 1))) (ah (ao 4) aN)))))
 yy) env
def tX:En->Res Fl:=λenv=>
 (bY (iL 4 (iD 1 [2] (j9 (nB (ao 0) (mq (vC (.int 2))) (mq (v2 jq (vC (.int 2)) (ao 3))))) (gN 0) (λ_=>.ok true) o0))
 yz) env
def tY:En->Res Fl:=λenv=>
 (bY (v4 (vB (v2 JK (aX 2 (vC (.int 0))) (vC (.int 3)))) (iL 3 (vC (.int 10))) lB)
 tX) env
def mQ:En->Res Fl:=λenv=>
 (bY (iL 3 (vC (.int 61)))
 tY) env
def tZ:En->Res Fl:=λenv=>
 (bY (v4 (vB (v2 AM (v2 jB (v2 uE (ao 1) (vC (.int 15))) (vC (.int 4))) (vC (.int 1)))) (iL 2 (gp (ah (v2 jq (vC (.int 1)) (v2 jB (v2 uE (ao 1) (vC (.int 60))) (vC (.int 8)))) (ah (v2 jq (vC (.int 1)) (v2 jB (v2 uE (ao 1) (vC (.int 3))) (vC (.int 2)))) (ah (lN aN) aN))))) lB)
 mQ) env
def t0:En->Res Fl:=λenv=>
 (bY (iL 2 (gp (ah (v2 jq (vC (.int 1)) (v2 jB (ao 1) (vC (.int 3)))) (ah (v2 jq (vC (.int 1)) (v2 jB (v2 uE (ao 1) (vC (.int 3))) (vC (.int 5)))) (ah (lN aN) aN)))))
 tZ) env
def B6:En->Res Fl:=
 (bY (mw 1 (fQ df (ah (ao 0) (ah (vC (.int 0)) aN))))
 t0)
def sv:List D->Res R:=fV B4 B6
set_option genInjectivity false in
structure Tx (K:Oy) (mg:Str->Option OA) where
 f_a:Addr
 fd_a:FuncData
 h_a:Fn K mg "_law_seed_at" s__law_seed_at P__law_seed_at f_a fd_a
 f_b:Addr
 fd_b:FuncData
 h_b:Fn K mg "_law_rule_by" s__law_rule_by P__law_rule_by f_b fd_b
 f_c:Addr
 fd_c:FuncData
 h_c:Fn K mg "is_plain" s_is_plain P_is_plain f_c fd_c
 f_d:Addr
 fd_d:FuncData
 h_d:Fn K mg "refuse_unless_plain" s_refuse_unless_plain P_refuse_unless_plain f_d fd_d
 f_e:Addr
 fd_e:FuncData
 h_e:Fn K mg "rules_by_start" s_rules_by_start P_rules_by_start f_e fd_e
 f_f:Addr
 fd_f:FuncData
 h_f:Fn K mg "prices" s_prices P_prices f_f fd_f
 f_g:Addr
 fd_g:FuncData
 h_g:Fn K mg "pairs" s_pairs P_pairs f_g fd_g
 f_h:Addr
 fd_h:FuncData
 h_h:Fn K mg "_law_whole" s__law_whole P__law_whole f_h fd_h
 f_i:Addr
 fd_i:FuncData
 h_i:Fn K mg "_law_formed" s__law_formed P__law_formed f_i fd_i
 f_j:Addr
 fd_j:FuncData
 h_j:Fn K mg "_law_bids" s__law_bids P__law_bids f_j fd_j
 f_k:Addr
 fd_k:FuncData
 h_k:Fn K mg "lowest_end" s_lowest_end P_lowest_end f_k fd_k
 f_l:Addr
 fd_l:FuncData
 h_l:Fn K mg "priced_from" s_priced_from P_priced_from f_l fd_l
 f_m:Addr
 fd_m:FuncData
 h_m:Fn K mg "sums_ahead" s_sums_ahead P_sums_ahead f_m fd_m
 f_n:Addr
 fd_n:FuncData
 h_n:Fn K mg "sums_along" s_sums_along P_sums_along f_n fd_n
 f_o:Addr
 fd_o:FuncData
 h_o:Fn K mg "least" s_least P_least f_o fd_o
 f_p:Addr
 fd_p:FuncData
 h_p:Fn K mg "law" s_law P_law f_p fd_p
 nb_all:mg "all"=none
 nb_bool:mg "bool"=none
 nb_dict:mg "dict"=none
 nb_divmod:mg "divmod"=none
 nb_enumerate:mg "enumerate"=none
 nb_int:mg "int"=none
 nb_isinstance:mg "isinstance"=none
 nb_len:mg "len"=none
 nb_list:mg "list"=none
 nb_min:mg "min"=none
 nb_range:mg "range"=none
 nb_tuple:mg "tuple"=none
 CQ:Addr
 kQ:QCls K CQ
 gQ:mg "Queue"=some (.ref CQ)
 CP:Addr
 kP:PCls K CP
 gP:mg "Pricing"=some (.ref CP)
 f_q:Addr
 fd_q:FuncData
 h_q:Fun K "__init__" "Queue.__init__" s_QI f_q fd_q
 b_QI:Binds K fd_q ["self"] []
 k_q:Mk K CQ f_q
 f_r:Addr
 fd_r:FuncData
 h_r:Mt K CQ "add" "Queue.add" s_QA ["self", "price", "thing"] f_r fd_r
 f_s:Addr
 fd_s:FuncData
 h_s:Mt K CQ "is_empty" "Queue.is_empty" s_QE ["self"] f_s fd_s
 f_t:Addr
 fd_t:FuncData
 h_t:Mt K CQ "take_lowest" "Queue.take_lowest" s_QT ["self"] f_t fd_t
 f_u:Addr
 fd_u:FuncData
 h_u:Fun K "__init__" "Pricing.__init__" s_PI f_u fd_u
 b_PI:Binds K fd_u ["self", "house"] []
 k_u:Mk K CP f_u
 f_v:Addr
 fd_v:FuncData
 h_v:Mt K CP "offer" "Pricing.offer" s_PO ["self", "arrow", "price", "number", "mid"] f_v fd_v
 f_w:Addr
 fd_w:FuncData
 h_w:Mt K CP "settle" "Pricing.settle" s_PS ["self", "arrow", "price"] f_w fd_w
 f_x:Addr
 fd_x:FuncData
 h_x:Mt K CP "settle_first" "Pricing.settle_first" s_PF ["self", "number", "rule", "mid", "price"] f_x fd_x
 f_y:Addr
 fd_y:FuncData
 h_y:Mt K CP "settle_all" "Pricing.settle_all" s_PA ["self"] f_y fd_y
section
variable {P:Oz}{w:World}{K:Oy}{mg:Str->Option OA}{base:Heap}
theorem j8 (t:Tx K mg):FnOk P w K mg base lA 1 t.f_a t.fd_a P__law_seed_at (pO mg 2 df):=
 jD t.h_a.fu sc__law_seed_at λcdv A outer s H E hr=>
  have hu:=hr.units
  (aj (bZ sc__law_seed_at.nd rfl (.inl rfl) aC)
    (aj (ga (iJ (uF) (qv 1) (dH wC (by rfl) t.nb_len (by decide +kernel) (ae (qv 0) ai)) (dw _)) (aD (bZ sc__law_seed_at.nd rfl (.inl rfl) (wA (pv 0) (qv 1) (λ_ _=>rfl)))) cj)
    (aD (ca (bd dB (bd pN (bd pN (bd i6 (bd dB (qv 2) aC) aC) aC) aC) aC)))))
theorem oF (t:Tx K mg):FnOk P w K mg base lA 1 t.f_b t.fd_b P__law_rule_by (pO mg 3 gf):=
 jD t.h_b.fu sc__law_rule_by λcdv A outer s H E hr=>
  have hu:=hr.units
  (aj (bZ sc__law_rule_by.nd rfl (.inl rfl) (bd dB (bd pN (bd pN (bd pN (qv 0) aC) aC) aC) aC))
    (aj (ml (dH jE (by rfl) t.nb_divmod (by decide +kernel) (ae (qv 3) (ae aC ai))) (gx rfl (aP (aI sc__law_rule_by.nd rfl (.inl rfl)) (aP (aI sc__law_rule_by.nd rfl (.inl rfl)) fU (λ_ a _ b=>ay a b)) (λ_ a _ b=>ay a b))))
    (aj (ml (dH jE (by rfl) t.nb_divmod (by decide +kernel) (ae (qv 3) (ae aC ai))) (gx rfl (aP (aI sc__law_rule_by.nd rfl (.inl rfl)) (aP (aI sc__law_rule_by.nd rfl (.inl rfl)) fU (λ_ a _ b=>ay a b)) (λ_ a _ b=>ay a b))))
    (aj (ml (dH jE (by rfl) t.nb_divmod (by decide +kernel) (ae (qv 3) (ae aC ai))) (gx rfl (aP (aI sc__law_rule_by.nd rfl (.inl rfl)) (aP (aI sc__law_rule_by.nd rfl (.inl rfl)) fU (λ_ a _ b=>ay a b)) (λ_ a _ b=>ay a b))))
    (aj (ml (dH jE (by rfl) t.nb_divmod (by decide +kernel) (ae (qv 3) (ae aC ai))) (gx rfl (aP (aI sc__law_rule_by.nd rfl (.inl rfl)) (aP (aI sc__law_rule_by.nd rfl (.inl rfl)) fU (λ_ a _ b=>ay a b)) (λ_ a _ b=>ay a b))))
    (aj (ml (dH jE (by rfl) t.nb_divmod (by decide +kernel) (ae (qv 3) (ae aC ai))) (gx rfl (aP (aI sc__law_rule_by.nd rfl (.inl rfl)) (aP (aI sc__law_rule_by.nd rfl (.inl rfl)) fU (λ_ a _ b=>ay a b)) (λ_ a _ b=>ay a b))))
    (aj (bZ sc__law_rule_by.nd rfl (.inl rfl) (iz (ae (bd dB (qv 8) (qv 2)) (ae (bd dB (qv 3) (qv 2)) ai))))
    (aD (ca (cW (ae (bd dB (qv 5) (qv 1)) (ae (bd dB (qv 6) (qv 2)) (ae (bd dB (qv 7) (qv 1)) (ae (nv Bg (by rfl) t.nb_tuple (by decide +kernel) (ae (uK (qv 9) A1 (pT (qv 4))) ai)) ai))))))))))))))
theorem vQ (t:Tx K mg):FnOk P w K mg base lA 1 t.f_c t.fd_c P_is_plain (pO mg 2 jV):=
 jD t.h_c.fu vN λcdv A outer s H E hr=>
  have hu:=hr.units
  (aD (ca (dH (A6 (by rfl)) (by rfl) t.nb_all (by decide +kernel) (ae (tz rfl (CScope.of (osc:=defScope s_is_plain) (N:=lU) (tN:=["arrow"]) (capN:=["house"]) (caps:=[0]) rfl rfl (by decide +kernel)) (jk (aK (pv 1))) (by decide) (λcl C s3 H3 fp=>(aI qA rfl (.inl rfl))) (λcl C s3 H3 fp=>mn) (λcl C s3 H3 fp=>(wy (HL) (aK (pv 0)) (aK (pv 1)) (dw _)))) ai))))
theorem jZ (t:Tx K mg):FnOk P w K mg base lA 2 t.f_d t.fd_d P_refuse_unless_plain (pO mg 2 bu):=
 jD t.h_d.fu jW λcdv A outer s H E hr=>
  have hu:=hr.units
  (aD (ga (gv (lL (bA (vQ t) (hr.mono (by decide)) (by rfl) t.h_c gi (ae (qv 0) (ae (qv 1) ai)) (az (az bz))))) (aD zl) cj))
theorem I0 (t:Tx K mg):FnOk P w K mg base lA 1 t.f_q t.fd_q ["self"] (oT t.CQ):=t.h_q.ok IW (λ_ _ _ _ h=>uZ h) λcdv A outer s H vs Q E hr h=>⟨_,aL (kc (pv 0) aH rfl) (aO (kc (pv 0) uu rfl)),wR t.kQ h⟩
theorem Fp (t:Tx K mg):FnOk P w K mg base lA 1 t.f_r t.fd_r ["self", "price", "thing"] (sn t.CQ):=
 t.h_r.fu.ok IX (λ_ _ _ _ h=>zx h) λcdv A outer s H vs Q E hr h=>
  ⟨_,aO (ci (kf Mf L8 L9 gn (kf KW Ly Md De (dz (pv 0) rfl)
    (ag (An PySem.F.plainAttrs_int PySem.F.slot_int_bit_length PySem.F.type_int_bit_length DS (pd FO (pv 1) (dz (pv 0) rfl))) (ag (jP aA) aA))) (ag (f6 (ag (pv 1) (ag (pv 2) aA))) aA))),Bt t.kQ h rfl⟩
theorem I_ (t:Tx K mg):FnOk P w K mg base lA 1 t.f_s t.fd_s ["self"] (oU t.CQ):=t.h_s.fu.ok IY (λ_ _ _ _ h=>u4 h) λcdv A outer s H vs Q E hr h=>⟨_,aO (mZ (xw xu (gB zA (by rfl) t.nb_len Oe (ag (dz (pv 0) rfl) aA)) aH (dw _))),wU t.kQ h⟩
theorem vR (t:Tx K mg):FnOk P w K mg base lA 2 t.f_v t.fd_v ["self", "arrow", "price", "number", "mid"] (jn t.CP t.CQ):=
 t.h_v.fu.ok sc_PO (λ_ _ _ _ h=>u6 h) λcdv A outer s H vs Q E hr h=>
  ⟨_,aL (jL (i:=5) sc_PO.nd rfl (Or.inl rfl) (Ax (rD hr) (dz (pv 0) rfl) (pv 1) ⟨rfl,rfl,rfl,rfl⟩))
    (aO (ri (PW.pt (EM (jO GC (pv 5) lK (dw _)) (z7 (jO EO (pv 2) (bU ix_tup (pv 5) aH (λ_ _=>rfl)) (dw _)))))
      (aL (C8 (rD hr) (dz (pv 0) rfl) (pv 1) (f6 (ag (pv 2) (ag (pv 3) (ag (pv 4) aA)))) rfl)
        (aO (ci (iF (dz (pv 0) rfl) t.kQ.cl t.h_r.me (Fp t) hr t.h_r.bi .nil iY (ag (pv 2) (ag (pv 1) aA))))))
      lY)),wW t.kP t.kQ h⟩
theorem B7:((["price", "thing"]:List Str)++([]:List Str)).Nodup:=by decide +kernel
theorem Ja (t:Tx K mg):FnOk P w K mg base lA 2 t.f_t t.fd_t ["self"] (tP t.CQ):=
 t.h_t.fu.ok sc_QT (λ_ _ _ _ h=>wV h) λcdv A outer s H vs Q E hr h=>
  ⟨_,aL (jL (i:=1) sc_QT.nd rfl (Or.inl rfl) (uv (dz (pv 0) rfl) (gB (zy rfl) (by rfl) t.nb_min (by decide +kernel) (ag (An KW PySem.F.slot_dict_keys PySem.F.type_dict_keys DT (dz (pv 0) rfl)) aA)) ⟨rfl,rfl,rfl,rfl⟩))
    (aL (kc (pv 0) (gB (zF rfl) (by rfl) t.nb_min (by decide +kernel) (ag (BF (tN:=["price", "thing"]) (capN:=[]) (caps:=[]) rfl (CScope.of (osc:=defScope s_QT) (N:=["self", "pile", "price", "thing"]) rfl rfl (by decide +kernel)) (jM (pv 1))) aA)) rfl)
    (aL (iy Li rfl (jM (pv 1)) (jp rfl (ay (bw (i:=2) sc_QT.nd rfl (Or.inl rfl)) (ay (bw (i:=3) sc_QT.nd rfl (Or.inl rfl)) gu)))
      (aO (ci (iF (pv 0) t.kQ.cl t.h_r.me (Fp t) hr t.h_r.bi .nil iY (ag (pv 2) (ag (pv 3) aA))))))
    (aO (mZ (uv (dz (pv 0) rfl) aH ⟨rfl,rfl,rfl,rfl⟩))))),
    zB t.kQ (λ_ _=>rfl) (zG rfl (λ_ _ _ _ _=>jp rfl (ay (bw (i:=0) B7 rfl (Or.inl rfl)) (ay (bw (i:=1) B7 rfl (Or.inl rfl)) gu))) λ_ _ _ _ _=>pv 0) h⟩
theorem Jb (t:Tx K mg):FnOk P w K mg base lA 3 t.f_x t.fd_x ["self", "number", "rule", "mid", "price"] (oV t.CP t.CQ):=
 t.h_x.fu.ok sc_PF (λ_ _ _ _ h=>u9 h) λcdv A outer s H vs Q E hr h=>
  ⟨_,aL (jL (i:=5) sc_PF.nd rfl (Or.inl rfl) (f6 (ag (pv 3) (ag (bU ix_tup (bU ix_tup (pv 2) aH (λ_ _=>rfl)) aH (λ_ _=>rfl)) aA))))
    (aL (ci (kf Mf L8 L9 gn (kf KW Ly Md (mf hr.units) (dz (pv 0) rfl) (ag (pv 5) (ag (jP aA) aA))) (ag (f6 (ag (pv 1) (ag (pv 2) (ag (pv 4) aA)))) aA)))
    (aO (iy Li rfl (jM (pF (rD hr) (dz (pv 0) rfl) (pv 5) (jP aA) ⟨rfl,rfl,rfl,rfl⟩)) (jp rfl (ay (bw (i:=6) sc_PF.nd rfl (Or.inl rfl)) (ay (bw (i:=7) sc_PF.nd rfl (Or.inl rfl)) gu)))
      (aO (ci (iF (pv 0) t.kP.cl t.h_v.me (vR t) hr t.h_v.bi .nil iY (ag (f6 (ag (bU ix_tup (pv 2) aH (λ_ _=>rfl)) (ag (bU ix_tup (pv 2) aH (λ_ _=>rfl)) (ag (pv 6) aA))))
        (ag (pd op_add (pd op_add (pv 4) (pv 7)) aH) (ag (pv 1) (ag (pv 3) aA)))))))))),wX t.kP h⟩
theorem Jc (t:Tx K mg):FnOk P w K mg base lA 4 t.f_w t.fd_w ["self", "arrow", "price"] (mB t.CP t.CQ):=
 t.h_w.fu.ok sc_PS (λ_ _ _ _ h=>tS h) λcdv A outer s H vs Q E hr h=>
  have hr2:Room 2 _:=hr.mono (by decide)
  ⟨_,aL (jL (i:=3) sc_PS.nd rfl (Or.inl rfl) (f6 (ag (bU ix_tup (pv 1) aH (λ_ _=>rfl)) (ag (bU ix_tup (pv 1) aH (λ_ _=>rfl)) aA))))
    (aL (ci (kf Mf L8 L9 gn (kf KW Ly Md (mf hr.units) (dz (pv 0) rfl) (ag (pv 3) (ag (jP aA) aA))) (ag (f6 (ag (bU ix_tup (pv 1) aH (λ_ _=>rfl)) (ag (pv 2) aA))) aA)))
    (aL (iy Li rfl (jM (pF (rD hr) (dz (pv 0) rfl) (pv 3) (jP aA) ⟨rfl,rfl,rfl,rfl⟩)) (jp rfl (ay (bw (i:=4) sc_PS.nd rfl (Or.inl rfl)) (ay (bw (i:=5) sc_PS.nd rfl (Or.inl rfl)) (ay (bw (i:=6) sc_PS.nd rfl (Or.inl rfl)) gu))))
      (aO (ci (iF (pv 0) t.kP.cl t.h_v.me (vR t) hr2 t.h_v.bi .nil iY (ag (f6 (ag (bU ix_tup (pv 5) aH (λ_ _=>rfl)) (ag (bU ix_tup (pv 5) aH (λ_ _=>rfl)) (ag (bU ix_tup (pv 1) aH (λ_ _=>rfl)) aA))))
        (ag (pd op_add (pd op_add (pv 6) (pv 2)) aH) (ag (pv 4) (ag (bU ix_tup (pv 1) aH (λ_ _=>rfl)) aA))))))))
    (aO (iy Li rfl (jM (pF (rD hr) (dz (pv 0) rfl) (pv 3) (jP aA) ⟨rfl,rfl,rfl,rfl⟩)) (jp rfl (ay (bw (i:=4) sc_PS.nd rfl (Or.inl rfl)) (ay (bw (i:=5) sc_PS.nd rfl (Or.inl rfl)) gu)))
      (aO (ri (jO xu (gB nM (by rfl) t.nb_len Oe (ag (bU ix_tup (pv 5) aH (λ_ _=>rfl)) aA)) aH (dw _))
        (aO (ci (iF (pv 0) t.kP.cl t.h_v.me (vR t) hr2 t.h_v.bi .nil iY (ag (f6 (ag (bU ix_tup (pv 5) aH (λ_ _=>rfl)) (ag (bU ix_tup (pv 5) aH (λ_ _=>rfl)) (ag (bU ix_tup (pv 1) aH (λ_ _=>rfl)) aA))))
          (ag (pd op_add (pv 2) aH) (ag (pv 4) (ag lK aA)))))))
        (aO (ci (iF (pv 0) t.kP.cl t.h_x.me (Jb t) hr t.h_x.bi .nil iY (ag (pv 4) (ag (pv 5) (ag (bU ix_tup (pv 1) aH (λ_ _=>rfl)) (ag (pv 2) aA))))))))))))),u_ t.kP h⟩
theorem Jd (t:Tx K mg):FnOk P w K mg base lA 5 t.f_y t.fd_y ["self"] (yd t.CP t.CQ):=
 t.h_y.fu.ok sc_PA (λ_ _ _ _ h=>zC h) λcdv A outer s H vs Q E hr h=>
  ⟨_,aO (Aa Li (z8 (FC (pq (dz (pv 0) rfl) t.kQ.cl t.h_s.me (I_ t) (hr.mono (by decide)) t.h_s.bi .nil iY)))
    (aO (iy Li rfl (jM (pq (dz (pv 0) rfl) t.kQ.cl t.h_t.me (Ja t) (hr.mono (by decide)) t.h_t.bi .nil iY)) (jp rfl (ay (bw (i:=1) sc_PA.nd rfl (Or.inl rfl)) (ay (bw (i:=2) sc_PA.nd rfl (Or.inl rfl)) gu)))
      (aO (ri (jO xu (bU ix_tup (xC (rD hr) (dz (pv 0) rfl) (pv 2) (λ_ _=>rfl)) aH (λ_ _=>rfl)) (pv 1) (dw _))
        (aO (ci (iF (pv 0) t.kP.cl t.h_w.me (Jc t) hr t.h_w.bi .nil iY (ag (pv 2) (ag (pv 1) aA))))) lY))))),By t.kP h⟩
theorem mR (t:Tx K mg):FnOk P w K mg base lA 1 t.f_e t.fd_e ["house"] D7:=
 t.h_e.fu.ok sc_rules_by_start (λ_ _ _ _ h=>Bz h) λcdv A outer s H vs Q E hr h=>
  ⟨_,aL (jL (i:=1) sc_rules_by_start.nd rfl (Or.inl rfl) kh)
    (aL (iy Li rfl (xS rfl t.nb_enumerate (ag (bU ix_tup (pv 0) aH (λ_ _=>rfl)) aA)) (jp rfl (ay (bw (i:=2) sc_rules_by_start.nd rfl (Or.inl rfl)) (ay (bw (i:=3) sc_rules_by_start.nd rfl (Or.inl rfl)) gu)))
      (aO (ri (jO EQ (gB nM (by rfl) t.nb_len Oe (ag (bU ix_tup (pv 3) aH (λ_ _=>rfl)) aA)) aH (dw _))
        (aO (ci (kf Mf L8 L9 gn (kf KW Ly Md (mf hr.units) (pv 1)
          (ag (f6 (ag (bU ix_tup (pv 3) aH (λ_ _=>rfl)) (ag (bU ix_tup (bU ix_tup (pv 3) aH (λ_ _=>rfl)) aH (λ_ _=>rfl)) aA))) (ag (jP aA) aA))) (ag (f6 (ag (pv 2) (ag (pv 3) aA))) aA)))) lY)))
    (aO (mZ (pv 1)))),D8 h⟩
theorem Je (t:Tx K mg):FnOk P w K mg base lA 3 t.f_u t.fd_u ["self", "house"] (oW t.CP t.CQ):=
 t.h_u.ok IZ (λ_ _ _ _ h=>vc h) λcdv A outer s H vs Q E hr h=>
  ⟨_,aL (kc (pv 0) (sF (mR t) (hr.mono (by decide)) rfl t.h_e.gl t.h_e.fu.kp t.h_e.bi .nil iY (ag (pv 1) aA)) rfl)
    (aL (kc (pv 0) kh rfl) (aL (kc (pv 0) (Ai t.k_q (I0 t) hr rfl t.gQ t.b_QI .nil iY) rfl) (aL (kc (pv 0) kh rfl) (aO (kc (pv 0) kh rfl))))),wZ t.kP h⟩
theorem sy (t:Tx K mg):FnOk P w K mg base lA 6 t.f_f t.fd_f P_prices (pO mg 2 iq):=
 t.h_f.fu.ok sc_prices (λ_ _ _ _ h=>h.1) λcdv A outer s H vs Q E hr h=>
  have hr2:Room 2 _:=hr.mono (by decide)
  ⟨_,aL (ci (sF (jZ t) (hr.mono (by decide)) rfl t.h_d.gl t.h_d.fu.kp t.h_d.bi .nil gi (ag (pv 0) (ag (pv 1) aA))))
    (aL (jL (i:=2) sc_prices.nd rfl (Or.inl rfl) (C1 t.k_u (Je t) (hr.mono (by decide)) rfl t.gP t.b_PI .nil iY (ag (pv 0) aA)))
    (aL (iy Li rfl (jM (bU ix_tup (pv 1) aH (λ_ _=>rfl))) (bw (i:=3) sc_prices.nd rfl (Or.inl rfl)) (aO (ci (iF (pv 2) t.kP.cl t.h_v.me (vR t) hr2 t.h_v.bi .nil iY (ag (pv 3) (ag aH (ag lK (ag lK aA))))))))
    (aL (iy Li rfl (xS rfl t.nb_enumerate (ag (bU ix_tup (pv 0) aH (λ_ _=>rfl)) aA)) (jp rfl (ay (bw (i:=4) sc_prices.nd rfl (Or.inl rfl)) (ay (bw (i:=5) sc_prices.nd rfl (Or.inl rfl)) gu)))
      (aO (ri (jO xu (gB nM (by rfl) t.nb_len Oe (ag (bU ix_tup (pv 5) aH (λ_ _=>rfl)) aA)) aH (dw _))
        (aO (ci (iF (pv 2) t.kP.cl t.h_v.me (vR t) hr2 t.h_v.bi .nil iY (ag (f6 (ag (bU ix_tup (pv 5) aH (λ_ _=>rfl)) (ag (bU ix_tup (pv 5) aH (λ_ _=>rfl)) (ag (bU ix_tup (pv 5) aH (λ_ _=>rfl)) aA))))
          (ag aH (ag (pv 4) (ag lK aA))))))) lY)))
    (aL (ci (pq (pv 2) t.kP.cl t.h_y.me (Jd t) hr t.h_y.bi .nil iY))
    (aO (mZ (dz (pv 2) rfl))))))),ve t.kP h⟩
theorem B8 (t:Tx K mg):FnOk P w K mg base lA 7 t.f_g t.fd_g P_pairs (pO mg 1 oZ):=
 jD t.h_g.fu sc_pairs λcdv A outer s H E hr=>
  have hu:=hr.units
  (aj (ja sc_pairs.nd rfl (.inl rfl) (bA (sy t) (hr.mono (by decide)) (by rfl) t.h_f gi (ae (qv 0) (ae (cW (ae (aK (pv 0)) (ae (iz ai) (ae (iz ai) ai)))) ai)) (az (az bz))))
    (aD (ca (nv (DB (by rfl) hu) (by rfl) t.nb_dict (by decide +kernel) (ae (BL rfl (CScope.of (osc:=defScope s_pairs) (N:=tV) (tN:=["arrow", "price"]) (capN:=[]) (caps:=[]) rfl rfl (by decide +kernel)) (qv 1) (by decide) (λcl C s3 H3 fp=>(gx rfl (aP (aI om rfl (.inl rfl)) (aP (aI om rfl (.inl rfl)) fU (λ_ a _ b=>ay a b)) (λ_ a _ b=>ay a b)))) (λcl C s3 H3 fp=>mn) (λcl C s3 H3 fp=>(cW (ae (qv 0) (ae (aK (pv 1)) ai))))) ai)))))
theorem jy (t:Tx K mg):FnOk P w K mg base lA 1 t.f_h t.fd_h P__law_whole (pO mg 1 fP):=
 jD t.h_h.fu qX λcdv A outer s H E hr=>
  have hu:=hr.units
  (aD (ca (AO (tE A3 (by rfl) t.nb_isinstance (by rfl) t.nb_int (by decide +kernel) (qv 0)) (AN (Gf (tE zb (by rfl) t.nb_isinstance (by rfl) t.nb_bool (by decide +kernel) (qv 0)))))))
theorem qI (t:Tx K mg):FnOk P w K mg base lA 2 t.f_i t.fd_i P__law_formed (pO mg 2 gz):=
 jD t.h_i.fu sc__law_formed λcdv A outer s H E hr=>
  have hu:=hr.units
  (aj (Bm Li rfl (qv 0) (gx rfl (aP (aI sc__law_formed.nd rfl (.inl rfl)) (aP (aI sc__law_formed.nd rfl (.inl rfl)) fU (λ_ a _ b=>ay a b)) (λ_ a _ b=>ay a b))) (aj (ga (PWD.pt (lM (gv (lL (tE wJ (by rfl) t.nb_isinstance (by rfl) t.nb_tuple (by decide +kernel) (qv 2)))) (lM (iJ (E1 hu) (dH wC (by rfl) t.nb_len (by decide +kernel) (ae (qv 2) ai)) aC (dw _)) (oN (gv (lL (dH (A6 (by rfl)) (by rfl) t.nb_all (by decide +kernel) (ae (tz rfl (CScope.of (osc:=defScope s__law_formed) (N:=jv) (tN:=["_law_part"]) (capN:=[]) (caps:=[]) rfl rfl (by decide +kernel)) (jk (qv 2)) (by decide) (λcl C s3 H3 fp=>(aI mH rfl (.inl rfl))) (λcl C s3 H3 fp=>mn) (λcl C s3 H3 fp=>(bA (jy t) (hr.mono (by decide)) (by rfl) t.h_h gi (ae (qv 0) ai) (az bz)))) ai)))))))) (aD (ca rK)) cj)
    (aj (ga (PWD.pt (lM (gv (nG (AL) (uF) aC (aK (pv 2)) (aK (pv 1)))) (lM (gv (nG (AL) (uF) aC (aK (pv 2)) (aK (pv 1)))) (oN (gv (nG (AL) (uF) aC (aK (pv 2)) (aK (pv 1)))))))) (aD (ca rK)) cj)
    (aD (ga (gv (lL (bA (jy t) (hr.mono (by decide)) (by rfl) t.h_h gi (ae (qv 3) ai) (az bz)))) (aD (ca rK)) cj)))))
    (aD (ca rK)))
theorem t3 (t:Tx K mg):FnOk P w K mg base lA 1 t.f_j t.fd_j P__law_bids (pO mg 3 ir):=
 jD t.h_j.fu sc__law_bids λcdv A outer s H E hr=>
  have hu:=hr.units
  (aj (DJ (i:=3) (j:=4) rfl sc__law_bids.nd rfl rfl (by decide) rfl rfl (ae (aK (pv 2)) (ae (aK (pv 2)) ai)))
    (aj (ga (iJ (xM hu) (qv 4) (cW ai) (dw _)) (aD (ca (iz (ae (cW (ae (qv 3) (ae aC ai))) ai)))) cj)
    (aj (bZ sc__law_bids.nd rfl (.inl rfl) (iz ai))
    (aj (lu Li rfl (pR (by rfl) t.nb_range (ae (qv 1) ai)) (aI sc__law_bids.nd rfl (.inl rfl)) (aj (bZ sc__law_bids.nd rfl (.inl rfl) (oX hu (qv 0) (cW (ae (qv 3) (ae (aK (pv 4)) (ae (qv 6) ai)))) ⟨rfl,rfl,rfl,rfl⟩))
    (aj (ga (tF (qv 7)) (aD mr) cj)
    (aj (ga (iJ (xM hu) (dH wC (by rfl) t.nb_len (by decide +kernel) (ae (qv 4) ai)) aC (dw _)) (aj (tj (pv 5) (cW (ae (qv 6) (ae (bd i6 aC (qv 7)) ai))))
    (aD mr)) cj)
    (aD (lu Li rfl (pR (by rfl) t.nb_range (ae (qv 1) ai)) (aI sc__law_bids.nd rfl (.inl rfl)) (aj (bZ sc__law_bids.nd rfl (.inl rfl) (oX hu (qv 0) (cW (ae (qv 6) (ae (aK (pv 4)) (ae (qv 8) ai)))) ⟨rfl,rfl,rfl,rfl⟩))
    (aD (ga (uL (qv 9)) (aD (tj (pv 5) (cW (ae (qv 8) (ae (bd i6 (bd i6 aC (qv 7)) (qv 9)) ai))))) cj)))))))))
    (aD (ca (qv 5)))))))
theorem q_ (t:Tx K mg):FnOk P w K mg base lA 1 t.f_k t.fd_k P_lowest_end (pO mg 2 gh):=
 jD t.h_k.fu qY λcdv A outer s H E hr=>
  have hu:=hr.units
  (aD (ca (Ed rfl hu (by rfl) t.nb_min (tz rfl (CScope.of (osc:=defScope s_lowest_end) (N:=jX) (tN:=["end"]) (capN:=["sums"]) (caps:=[1]) rfl rfl (by decide +kernel)) (jk (aK (pv 0))) (by decide) (λcl C s3 H3 fp=>(aI nO rfl (.inl rfl))) (λcl C s3 H3 fp=>(AY (iJ (Gu hu) (qv 0) (qv 1) (by rfl)))) (λcl C s3 H3 fp=>(cW (ae (E3 (DD hu (qv 1) (qv 0) (λ_ _=>rfl)) aC (λ_ _=>rfl)) (ae (qv 0) ai))))))))
theorem qJ (t:Tx K mg):FnOk P w K mg base lA 1 t.f_l t.fd_l P_priced_from (pO mg 1 jw):=
 t.h_l.fu.ok sc_priced_from (λ_ _ _ _ h=>h.1) λcdv A outer s H vs Q E hr h=>
  ⟨_,aL (jL (i:=1) sc_priced_from.nd rfl (Or.inl rfl) kh)
    (aL (wK (iy Li rfl (nh (pv 0)) (jp rfl (ay (bw (i:=2) sc_priced_from.nd rfl (Or.inl rfl)) (ay (bw (i:=3) sc_priced_from.nd rfl (Or.inl rfl)) gu)))
      (aO (ci (kf Mf L8 L9 gn (kf KW Ly Md (mf hr.units) (pv 1)
        (ag (f6 (ag (bU ix_tup (pv 2) aH (λ_ _=>rfl)) (ag (bU ix_tup (pv 2) aH (λ_ _=>rfl)) aA))) (ag (jP aA) aA))) (ag (f6 (ag (pv 2) (ag (bU ix_tup (pv 3) aH (λ_ _=>rfl)) aA))) aA))))))
    (aO (mZ (pv 1)))),D_ IA rfl h⟩
theorem re (t:Tx K mg):FnOk P w K mg base lA 1 t.f_m t.fd_m P_sums_ahead (pO mg 3 iP):=
 jD t.h_m.fu sc_sums_ahead λcdv A outer s H E hr=>
  have hu:=hr.units
  (aj (bZ sc_sums_ahead.nd rfl (.inl rfl) xV)
    (aj (Bj Li rfl (qv 1) (gx rfl (aP (aI sc_sums_ahead.nd rfl (.inl rfl)) (aP (aI sc_sums_ahead.nd rfl (.inl rfl)) fU (λ_ a _ b=>ay a b)) (λ_ a _ b=>ay a b))) (aD (lu Li rfl (jk (x4 hu (qv 0) (cW (ae (qv 4) (ae (qv 2) ai))) (iz ai) ⟨rfl,rfl,rfl,rfl⟩)) (gx rfl (aP (aI sc_sums_ahead.nd rfl (.inl rfl)) (aP (aI sc_sums_ahead.nd rfl (.inl rfl)) fU (λ_ a _ b=>ay a b)) (λ_ a _ b=>ay a b))) (aj (bZ sc_sums_ahead.nd rfl (.inl rfl) (oX hu (qv 3) (aK (pv 6)) ⟨rfl,rfl,rfl,rfl⟩))
    (aD (ga (PWD.pt (lM (tF (qv 8)) (oN (iJ (uF) (bd i6 (aK (pv 5)) (qv 7)) (aK (pv 8)) (dw _))))) (aD (xY hu (pv 3) (aK (pv 6)) (cW (ae (bd i6 (aK (pv 5)) (qv 7)) (ae (qv 6) ai))))) cj))))))
    (aD (ca (qv 3)))))
theorem rf (t:Tx K mg):FnOk P w K mg base lA 2 t.f_n t.fd_n P_sums_along (pO mg 2 iQ):=
 jD t.h_n.fu sc_sums_along λcdv A outer s H E hr=>
  have hu:=hr.units
  (aj (ja sc_sums_along.nd rfl (.inl rfl) (bA (qJ t) (hr.mono (by decide)) (by rfl) t.h_l gi (ae (qv 0) ai) (az bz)))
    (aj (bZ sc_sums_along.nd rfl (.inl rfl) (iz (ae (Bh (aK (pv 1)) (cW (ae aC (ae AJ ai)))) ai)))
    (aj (lu Li rfl (jk (aK (pv 1))) (aI sc_sums_along.nd rfl (.inl rfl)) (aD (tj (pv 3) (bA (re t) (hr.mono (by decide)) (by rfl) t.h_m gi (ae (qv 2) (ae (wA (pv 3) (A8 aC) (λ_ _=>rfl)) (ae (qv 4) ai))) (az (az (az bz)))))))
    (aD (ca (qv 3))))))
theorem B9 (t:Tx K mg):FnOk P w K mg base lA 7 t.f_o t.fd_o P_least (pO mg 3 mM):=
 jD t.h_o.fu sc_least λcdv A outer s H E hr=>
  have hu:=hr.units
  (aj (ja sc_least.nd rfl (.inl rfl) (bA (q_ t) (hr.mono (by decide)) (by rfl) t.h_k gi (ae (qv 1) (ae (E3 (bA (rf t) (hr.mono (by decide)) (by rfl) t.h_n gi (ae (bA (sy t) (hr.mono (by decide)) (by rfl) t.h_f gi (ae (qv 0) (ae (qv 1) ai)) (az (az bz))) (ae (qv 2) ai)) (az (az bz))) (A8 aC) (λ_ _=>rfl)) ai)) (az (az bz))))
    (aD (ca (HP (tF (qv 3)) AJ (aK (pv 3))))))
theorem GW (t:Tx K mg):FnOk P w K mg base lA 8 t.f_p t.fd_p P_law (pO mg 1 sv):=
 jD t.h_p.fu sc_law λcdv A outer s H E hr=>
  have hu:=hr.units
  (aj (ja sc_law.nd rfl (.inl rfl) (bA (j8 t) (hr.mono (by decide)) (by rfl) t.h_a gi (ae (qv 0) (ae aC ai)) (az (az bz))))
    (aj (bZ sc_law.nd rfl (.inr rfl) (cW (ae (bd i6 aC (bd dB (qv 1) aC)) (ae (bd i6 aC (bd dB (bd nu (qv 1) aC) aC)) (ae (iz ai) ai)))))
    (aj (ga (iJ (xM hu) (bd dB (bd nu (qv 1) aC) aC) aC (dw _)) (aD (bZ sc_law.nd rfl (.inr rfl) (cW (ae (bd i6 aC (bd dB (bd nu (qv 1) aC) aC)) (ae (bd i6 aC (bd dB (bd nu (qv 1) aC) aC)) (ae (iz ai) ai)))))) cj)
    (aj (bZ sc_law.nd rfl (.inl rfl) aC)
    (aj (ga (iJ (HK) (aK (pv 2)) aC (dw _)) (aD (bZ sc_law.nd rfl (.inl rfl) aC)) cj)
    (aj (AZ rfl (CScope.of (osc:=defScope s_law) (N:=B4) (tN:=["_law_cell"]) (capN:=["_law_house"]) (caps:=[2]) rfl rfl (by decide +kernel)) sc_law.nd rfl rfl (jk (uK (qv 0) (pT aC) (pT (bd i6 aC (qv 3))))) (by decide) (λcl C s3 H3 fp=>(aI zQ rfl (.inl rfl))) (λcl C s3 H3 fp=>mn) (λcl C s3 H3 fp=>(bA (oF t) (hr.mono (by decide)) (by rfl) t.h_b gi (ae (qv 0) (ae (aK (pv 1)) (ae (aK (pv 1)) ai))) (az (az (az bz))))))
    (aj (bZ sc_law.nd rfl (.inr rfl) (cW (ae (aK (pv 2)) (ae (aK (pv 2)) (ae (qv 4) ai)))))
    (aj (bZ sc_law.nd rfl (.inl rfl) (cW (ae (aK (pv 2)) (ae (aK (pv 2)) (ae (nv Dt (by rfl) t.nb_list (by decide +kernel) (ae (qv 4) ai)) ai)))))
    (aj (ja sc_law.nd rfl (.inl rfl) (bA (B8 t) (hr.mono (by decide)) (by rfl) t.h_g gi (ae (qv 5) ai) (az bz)))
    (aj (ga (PWD.pt (lM (gv (lL (tE zc (by rfl) t.nb_isinstance (by rfl) t.nb_dict (by decide +kernel) (qv 6)))) (lM (iJ (E1 hu) (qv 5) (qv 2) (dw _)) (oN (gv (lL (bA (qI t) (hr.mono (by decide)) (by rfl) t.h_i gi (ae (qv 6) (ae (qv 2) ai)) (az (az bz))))))))) (aD (ca rK)) cj)
    (aj (bZ sc_law.nd rfl (.inl rfl) xV)
    (aj (lu Li rfl (jk (qv 4)) (aI sc_law.nd rfl (.inl rfl)) (aD (lu Li rfl (jk (bA (t3 t) (hr.mono (by decide)) (by rfl) t.h_j gi (ae (qv 6) (ae (aK (pv 2)) (ae (qv 8) ai))) (az (az (az bz))))) (gx rfl (aP (aI sc_law.nd rfl (.inl rfl)) (aP (aI sc_law.nd rfl (.inl rfl)) fU (λ_ a _ b=>ay a b)) (λ_ a _ b=>ay a b))) (aj (bZ sc_law.nd rfl (.inl rfl) (cW (ae (aK (pv 8)) (ae (aK (pv 8)) (ae (qv 9) ai)))))
    (aD (xY hu (pv 7) (qv 11) (dH (DH (by rfl)) (by rfl) t.nb_min (by decide +kernel) (ae (qv 10) (ae (x4 hu (qv 7) (qv 11) (qv 10) ⟨rfl,rfl,rfl,rfl⟩) ai)))))))))
    (aj (ja sc_law.nd rfl (.inl rfl) (bA (j8 t) (hr.mono (by decide)) (by rfl) t.h_a gi (ae (qv 0) (ae aC ai)) (az (az bz))))
    (aj (bZ sc_law.nd rfl (.inl rfl) (cW (ae (bd dB (bd dB (qv 12) aC) (aK (pv 2))) (ae (bd dB (bd dB (bd nu (qv 12) aC) aC) (aK (pv 2))) (ae (bd dB (bd nu (qv 12) aC) (aK (pv 2))) ai)))))
    (aj (ja sc_law.nd rfl (.inl rfl) (bA (B9 t) (hr.mono (by decide)) (by rfl) t.h_o gi (ae (qv 5) (ae (cW (ae (aK (pv 2)) (ae (iz ai) (ae (iz (ae (aK (pv 11)) ai)) ai)))) (ae (cW (ae (aK (pv 11)) (ae (iz (ae (aK (pv 11)) ai)) ai))) ai))) (az (az (az bz)))))
    (aj (ga (PWD.pt (Dq (uL (qv 13)) (AR (gv (lL (bA (jy t) (hr.mono (by decide)) (by rfl) t.h_h gi (ae (qv 13) ai) (az bz))))))) (aD (ca rK)) cj)
    (aD (ca (AO (wy (GP hu) (qv 7) (qv 6) (dw _)) (AN (wy (xM hu) (qv 13) (oX hu (qv 7) (qv 11) ⟨rfl,rfl,rfl,rfl⟩) (dw _))))))))))))))))))))))
end
theorem J3 {Q:List OA->Prop}{us:List OA}(hl:us.length=0)(h:Q []):Q us:=by
 cases us with
 |nil=>exact h
 |cons a r=>cases hl
theorem B_ {Q:List OA->Prop}{us:List OA}{n:Nat}(hl:us.length=n+1)(h:∀(a:OA)(r:List OA),r.length=n->Q (a::r)):Q us:=by
 cases us with
 |nil=>cases hl
 |cons a r=>exact h a r (Nat.succ.inj hl)
theorem rg {Q:List OA->Prop}{us:List OA}(hl:us.length=1)(h:∀ a0:OA,Q [a0]):Q us:=B_ hl λa r q=>J3 (Q:=λr=>Q (a::r)) q (h a)
theorem t4 {Q:List OA->Prop}{us:List OA}(hl:us.length=2)(h:∀ a0 a1:OA,Q [a0,a1]):Q us:=B_ hl λa r q=>rg (Q:=λr=>Q (a::r)) q (h a)
theorem xh {Q:List OA->Prop}{us:List OA}(hl:us.length=3)(h:∀ a0 a1 a2:OA,Q [a0,a1,a2]):Q us:=B_ hl λa r q=>t4 (Q:=λr=>Q (a::r)) q (h a)
theorem J4 {Q:List OA->Prop}{us:List OA}(hl:us.length=4)(h:∀ a0 a1 a2 a3:OA,Q [a0,a1,a2,a3]):Q us:=B_ hl λa r q=>xh (Q:=λr=>Q (a::r)) q (h a)
theorem Jf {Q:List OA->Prop}{us:List OA}(hl:us.length=5)(h:∀ a0 a1 a2 a3 a4:OA,Q [a0,a1,a2,a3,a4]):Q us:=B_ hl λa r q=>J4 (Q:=λr=>Q (a::r)) q (h a)
theorem Jg {K KK:Oy}{mg:Str->Option OA}{h:Heap}(X:K.In h)(G:h.Ns mainGlobals mg)(U:SubK K KK)
 {f_a:Addr} {od_a an_a:Option Addr} {sl_a:Array (Option OA)} {oc_a kV_a dc_a pm_a cd_a ct_a:OA}
 (a_a:PySem.W.nsIn K mainGlobals "_law_seed_at"=some (some (.ref f_a))) (l_a:K.lookup f_a=some ⟨oc_a,od_a,.func (PySem.W.fnOf "_law_seed_at" "_law_seed_at" (defArgs s__law_seed_at) (defBody s__law_seed_at) (defScope s__law_seed_at) .none kV_a dc_a pm_a an_a cd_a ct_a),sl_a⟩) (c_a:PySem.W.codeIn K cd_a "_law_seed_at"=true)
 {f_b:Addr} {od_b an_b:Option Addr} {sl_b:Array (Option OA)} {oc_b kV_b dc_b pm_b cd_b ct_b:OA}
 (a_b:PySem.W.nsIn K mainGlobals "_law_rule_by"=some (some (.ref f_b))) (l_b:K.lookup f_b=some ⟨oc_b,od_b,.func (PySem.W.fnOf "_law_rule_by" "_law_rule_by" (defArgs s__law_rule_by) (defBody s__law_rule_by) (defScope s__law_rule_by) .none kV_b dc_b pm_b an_b cd_b ct_b),sl_b⟩) (c_b:PySem.W.codeIn K cd_b "_law_rule_by"=true)
 {f_c:Addr} {od_c an_c:Option Addr} {sl_c:Array (Option OA)} {oc_c kV_c dc_c pm_c cd_c ct_c:OA}
 (a_c:PySem.W.nsIn K mainGlobals "is_plain"=some (some (.ref f_c))) (l_c:K.lookup f_c=some ⟨oc_c,od_c,.func (PySem.W.fnOf "is_plain" "is_plain" (defArgs s_is_plain) (defBody s_is_plain) (defScope s_is_plain) .none kV_c dc_c pm_c an_c cd_c ct_c),sl_c⟩) (c_c:PySem.W.codeIn K cd_c "is_plain"=true)
 {f_d:Addr} {od_d an_d:Option Addr} {sl_d:Array (Option OA)} {oc_d kV_d dc_d pm_d cd_d ct_d:OA}
 (a_d:PySem.W.nsIn K mainGlobals "refuse_unless_plain"=some (some (.ref f_d))) (l_d:K.lookup f_d=some ⟨oc_d,od_d,.func (PySem.W.fnOf "refuse_unless_plain" "refuse_unless_plain" (defArgs s_refuse_unless_plain) (defBody s_refuse_unless_plain) (defScope s_refuse_unless_plain) .none kV_d dc_d pm_d an_d cd_d ct_d),sl_d⟩) (c_d:PySem.W.codeIn K cd_d "refuse_unless_plain"=true)
 {f_e:Addr} {od_e an_e:Option Addr} {sl_e:Array (Option OA)} {oc_e kV_e dc_e pm_e cd_e ct_e:OA}
 (a_e:PySem.W.nsIn K mainGlobals "rules_by_start"=some (some (.ref f_e))) (l_e:K.lookup f_e=some ⟨oc_e,od_e,.func (PySem.W.fnOf "rules_by_start" "rules_by_start" (defArgs s_rules_by_start) (defBody s_rules_by_start) (defScope s_rules_by_start) .none kV_e dc_e pm_e an_e cd_e ct_e),sl_e⟩) (c_e:PySem.W.codeIn K cd_e "rules_by_start"=true)
 {f_f:Addr} {od_f an_f:Option Addr} {sl_f:Array (Option OA)} {oc_f kV_f dc_f pm_f cd_f ct_f:OA}
 (a_f:PySem.W.nsIn K mainGlobals "prices"=some (some (.ref f_f))) (l_f:K.lookup f_f=some ⟨oc_f,od_f,.func (PySem.W.fnOf "prices" "prices" (defArgs s_prices) (defBody s_prices) (defScope s_prices) .none kV_f dc_f pm_f an_f cd_f ct_f),sl_f⟩) (c_f:PySem.W.codeIn K cd_f "prices"=true)
 {f_g:Addr} {od_g an_g:Option Addr} {sl_g:Array (Option OA)} {oc_g kV_g dc_g pm_g cd_g ct_g:OA}
 (a_g:PySem.W.nsIn K mainGlobals "pairs"=some (some (.ref f_g))) (l_g:K.lookup f_g=some ⟨oc_g,od_g,.func (PySem.W.fnOf "pairs" "pairs" (defArgs s_pairs) (defBody s_pairs) (defScope s_pairs) .none kV_g dc_g pm_g an_g cd_g ct_g),sl_g⟩) (c_g:PySem.W.codeIn K cd_g "pairs"=true)
 {f_h:Addr} {od_h an_h:Option Addr} {sl_h:Array (Option OA)} {oc_h kV_h dc_h pm_h cd_h ct_h:OA}
 (a_h:PySem.W.nsIn K mainGlobals "_law_whole"=some (some (.ref f_h))) (l_h:K.lookup f_h=some ⟨oc_h,od_h,.func (PySem.W.fnOf "_law_whole" "_law_whole" (defArgs s__law_whole) (defBody s__law_whole) (defScope s__law_whole) .none kV_h dc_h pm_h an_h cd_h ct_h),sl_h⟩) (c_h:PySem.W.codeIn K cd_h "_law_whole"=true)
 {f_i:Addr} {od_i an_i:Option Addr} {sl_i:Array (Option OA)} {oc_i kV_i dc_i pm_i cd_i ct_i:OA}
 (a_i:PySem.W.nsIn K mainGlobals "_law_formed"=some (some (.ref f_i))) (l_i:K.lookup f_i=some ⟨oc_i,od_i,.func (PySem.W.fnOf "_law_formed" "_law_formed" (defArgs s__law_formed) (defBody s__law_formed) (defScope s__law_formed) .none kV_i dc_i pm_i an_i cd_i ct_i),sl_i⟩) (c_i:PySem.W.codeIn K cd_i "_law_formed"=true)
 {f_j:Addr} {od_j an_j:Option Addr} {sl_j:Array (Option OA)} {oc_j kV_j dc_j pm_j cd_j ct_j:OA}
 (a_j:PySem.W.nsIn K mainGlobals "_law_bids"=some (some (.ref f_j))) (l_j:K.lookup f_j=some ⟨oc_j,od_j,.func (PySem.W.fnOf "_law_bids" "_law_bids" (defArgs s__law_bids) (defBody s__law_bids) (defScope s__law_bids) .none kV_j dc_j pm_j an_j cd_j ct_j),sl_j⟩) (c_j:PySem.W.codeIn K cd_j "_law_bids"=true)
 {f_k:Addr} {od_k an_k:Option Addr} {sl_k:Array (Option OA)} {oc_k kV_k dc_k pm_k cd_k ct_k:OA}
 (a_k:PySem.W.nsIn K mainGlobals "lowest_end"=some (some (.ref f_k))) (l_k:K.lookup f_k=some ⟨oc_k,od_k,.func (PySem.W.fnOf "lowest_end" "lowest_end" (defArgs s_lowest_end) (defBody s_lowest_end) (defScope s_lowest_end) .none kV_k dc_k pm_k an_k cd_k ct_k),sl_k⟩) (c_k:PySem.W.codeIn K cd_k "lowest_end"=true)
 {f_l:Addr} {od_l an_l:Option Addr} {sl_l:Array (Option OA)} {oc_l kV_l dc_l pm_l cd_l ct_l:OA}
 (a_l:PySem.W.nsIn K mainGlobals "priced_from"=some (some (.ref f_l))) (l_l:K.lookup f_l=some ⟨oc_l,od_l,.func (PySem.W.fnOf "priced_from" "priced_from" (defArgs s_priced_from) (defBody s_priced_from) (defScope s_priced_from) .none kV_l dc_l pm_l an_l cd_l ct_l),sl_l⟩) (c_l:PySem.W.codeIn K cd_l "priced_from"=true)
 {f_m:Addr} {od_m an_m:Option Addr} {sl_m:Array (Option OA)} {oc_m kV_m dc_m pm_m cd_m ct_m:OA}
 (a_m:PySem.W.nsIn K mainGlobals "sums_ahead"=some (some (.ref f_m))) (l_m:K.lookup f_m=some ⟨oc_m,od_m,.func (PySem.W.fnOf "sums_ahead" "sums_ahead" (defArgs s_sums_ahead) (defBody s_sums_ahead) (defScope s_sums_ahead) .none kV_m dc_m pm_m an_m cd_m ct_m),sl_m⟩) (c_m:PySem.W.codeIn K cd_m "sums_ahead"=true)
 {f_n:Addr} {od_n an_n:Option Addr} {sl_n:Array (Option OA)} {oc_n kV_n dc_n pm_n cd_n ct_n:OA}
 (a_n:PySem.W.nsIn K mainGlobals "sums_along"=some (some (.ref f_n))) (l_n:K.lookup f_n=some ⟨oc_n,od_n,.func (PySem.W.fnOf "sums_along" "sums_along" (defArgs s_sums_along) (defBody s_sums_along) (defScope s_sums_along) .none kV_n dc_n pm_n an_n cd_n ct_n),sl_n⟩) (c_n:PySem.W.codeIn K cd_n "sums_along"=true)
 {f_o:Addr} {od_o an_o:Option Addr} {sl_o:Array (Option OA)} {oc_o kV_o dc_o pm_o cd_o ct_o:OA}
 (a_o:PySem.W.nsIn K mainGlobals "least"=some (some (.ref f_o))) (l_o:K.lookup f_o=some ⟨oc_o,od_o,.func (PySem.W.fnOf "least" "least" (defArgs s_least) (defBody s_least) (defScope s_least) .none kV_o dc_o pm_o an_o cd_o ct_o),sl_o⟩) (c_o:PySem.W.codeIn K cd_o "least"=true)
 {f_p:Addr} {od_p an_p:Option Addr} {sl_p:Array (Option OA)} {oc_p kV_p dc_p pm_p cd_p ct_p:OA}
 (a_p:PySem.W.nsIn K mainGlobals "law"=some (some (.ref f_p))) (l_p:K.lookup f_p=some ⟨oc_p,od_p,.func (PySem.W.fnOf "law" "law" (defArgs s_law) (defBody s_law) (defScope s_law) .none kV_p dc_p pm_p an_p cd_p ct_p),sl_p⟩) (c_p:PySem.W.codeIn K cd_p "law"=true)
 (z_all:PySem.W.nsIn K mainGlobals "all"=some none)
 (z_bool:PySem.W.nsIn K mainGlobals "bool"=some none)
 (z_dict:PySem.W.nsIn K mainGlobals "dict"=some none)
 (z_divmod:PySem.W.nsIn K mainGlobals "divmod"=some none)
 (z_enumerate:PySem.W.nsIn K mainGlobals "enumerate"=some none)
 (z_int:PySem.W.nsIn K mainGlobals "int"=some none)
 (z_isinstance:PySem.W.nsIn K mainGlobals "isinstance"=some none)
 (z_len:PySem.W.nsIn K mainGlobals "len"=some none)
 (z_list:PySem.W.nsIn K mainGlobals "list"=some none)
 (z_min:PySem.W.nsIn K mainGlobals "min"=some none)
 (z_range:PySem.W.nsIn K mainGlobals "range"=some none)
 (z_tuple:PySem.W.nsIn K mainGlobals "tuple"=some none)
 {CQ:Addr} (b_Queue:PySem.W.nsIn K mainGlobals "Queue"=some (some (.ref CQ))) (pgQ:PySem.W.plainGet KK CQ Str.empty=true) (hdQ:PySem.W.hasDictIn KK CQ=true) (poQ:PySem.W.plainOver KK CQ=true) (saQ:PySem.W.findIn KK (.ref CQ) "__setattr__"=some (some (.builtin "object.__setattr__"))) (mkQ:PySem.W.makesIn KK CQ=true) (kcQ:PySem.W.keepIn KK (.ref CQ)=true)
 (naQ_last:PySem.W.findIn KK (.ref CQ) "last"=some none)
 (naQ_piles:PySem.W.findIn KK (.ref CQ) "piles"=some none)
 {CP:Addr} (b_Pricing:PySem.W.nsIn K mainGlobals "Pricing"=some (some (.ref CP))) (pgP:PySem.W.plainGet KK CP Str.empty=true) (hdP:PySem.W.hasDictIn KK CP=true) (poP:PySem.W.plainOver KK CP=true) (saP:PySem.W.findIn KK (.ref CP) "__setattr__"=some (some (.builtin "object.__setattr__"))) (mkP:PySem.W.makesIn KK CP=true) (kcP:PySem.W.keepIn KK (.ref CP)=true)
 (naP_rules:PySem.W.findIn KK (.ref CP) "rules"=some none)
 (naP_told:PySem.W.findIn KK (.ref CP) "told"=some none)
 (naP_offers:PySem.W.findIn KK (.ref CP) "offers"=some none)
 (naP_settled:PySem.W.findIn KK (.ref CP) "settled"=some none)
 (naP_lacking:PySem.W.findIn KK (.ref CP) "lacking"=some none)
 {f_q:Addr} {od_q an_q:Option Addr} {sl_q:Array (Option OA)} {oc_q kV_q dc_q pm_q cd_q ct_q:OA}
 (aM_QI:PySem.W.findIn KK (.ref CQ) "__init__"=some (some (.ref f_q))) (iM_QI:PySem.W.isFn KK (.ref f_q)=true) (l_q:KK.lookup f_q=some ⟨oc_q,od_q,.func (PySem.W.fnOf "__init__" "Queue.__init__" (defArgs s_QI) (defBody s_QI) (defScope s_QI) .none kV_q dc_q pm_q an_q cd_q ct_q),sl_q⟩) (c_q:PySem.W.codeIn KK cd_q "Queue.__init__"=true) (kp_QI:PySem.W.keepIn KK (.ref f_q)=true)
 {f_r:Addr} {od_r an_r:Option Addr} {sl_r:Array (Option OA)} {oc_r kV_r dc_r pm_r cd_r ct_r:OA}
 (aM_QA:PySem.W.findIn KK (.ref CQ) "add"=some (some (.ref f_r))) (iM_QA:PySem.W.isFn KK (.ref f_r)=true) (l_r:KK.lookup f_r=some ⟨oc_r,od_r,.func (PySem.W.fnOf "add" "Queue.add" (defArgs s_QA) (defBody s_QA) (defScope s_QA) .none kV_r dc_r pm_r an_r cd_r ct_r),sl_r⟩) (c_r:PySem.W.codeIn KK cd_r "Queue.add"=true) (kp_QA:PySem.W.keepIn KK (.ref f_r)=true)
 {f_s:Addr} {od_s an_s:Option Addr} {sl_s:Array (Option OA)} {oc_s kV_s dc_s pm_s cd_s ct_s:OA}
 (aM_QE:PySem.W.findIn KK (.ref CQ) "is_empty"=some (some (.ref f_s))) (iM_QE:PySem.W.isFn KK (.ref f_s)=true) (l_s:KK.lookup f_s=some ⟨oc_s,od_s,.func (PySem.W.fnOf "is_empty" "Queue.is_empty" (defArgs s_QE) (defBody s_QE) (defScope s_QE) .none kV_s dc_s pm_s an_s cd_s ct_s),sl_s⟩) (c_s:PySem.W.codeIn KK cd_s "Queue.is_empty"=true) (kp_QE:PySem.W.keepIn KK (.ref f_s)=true)
 {f_t:Addr} {od_t an_t:Option Addr} {sl_t:Array (Option OA)} {oc_t kV_t dc_t pm_t cd_t ct_t:OA}
 (aM_QT:PySem.W.findIn KK (.ref CQ) "take_lowest"=some (some (.ref f_t))) (iM_QT:PySem.W.isFn KK (.ref f_t)=true) (l_t:KK.lookup f_t=some ⟨oc_t,od_t,.func (PySem.W.fnOf "take_lowest" "Queue.take_lowest" (defArgs s_QT) (defBody s_QT) (defScope s_QT) .none kV_t dc_t pm_t an_t cd_t ct_t),sl_t⟩) (c_t:PySem.W.codeIn KK cd_t "Queue.take_lowest"=true) (kp_QT:PySem.W.keepIn KK (.ref f_t)=true)
 {f_u:Addr} {od_u an_u:Option Addr} {sl_u:Array (Option OA)} {oc_u kV_u dc_u pm_u cd_u ct_u:OA}
 (aM_PI:PySem.W.findIn KK (.ref CP) "__init__"=some (some (.ref f_u))) (iM_PI:PySem.W.isFn KK (.ref f_u)=true) (l_u:KK.lookup f_u=some ⟨oc_u,od_u,.func (PySem.W.fnOf "__init__" "Pricing.__init__" (defArgs s_PI) (defBody s_PI) (defScope s_PI) .none kV_u dc_u pm_u an_u cd_u ct_u),sl_u⟩) (c_u:PySem.W.codeIn KK cd_u "Pricing.__init__"=true) (kp_PI:PySem.W.keepIn KK (.ref f_u)=true)
 {f_v:Addr} {od_v an_v:Option Addr} {sl_v:Array (Option OA)} {oc_v kV_v dc_v pm_v cd_v ct_v:OA}
 (aM_PO:PySem.W.findIn KK (.ref CP) "offer"=some (some (.ref f_v))) (iM_PO:PySem.W.isFn KK (.ref f_v)=true) (l_v:KK.lookup f_v=some ⟨oc_v,od_v,.func (PySem.W.fnOf "offer" "Pricing.offer" (defArgs s_PO) (defBody s_PO) (defScope s_PO) .none kV_v dc_v pm_v an_v cd_v ct_v),sl_v⟩) (c_v:PySem.W.codeIn KK cd_v "Pricing.offer"=true) (kp_PO:PySem.W.keepIn KK (.ref f_v)=true)
 {f_w:Addr} {od_w an_w:Option Addr} {sl_w:Array (Option OA)} {oc_w kV_w dc_w pm_w cd_w ct_w:OA}
 (aM_PS:PySem.W.findIn KK (.ref CP) "settle"=some (some (.ref f_w))) (iM_PS:PySem.W.isFn KK (.ref f_w)=true) (l_w:KK.lookup f_w=some ⟨oc_w,od_w,.func (PySem.W.fnOf "settle" "Pricing.settle" (defArgs s_PS) (defBody s_PS) (defScope s_PS) .none kV_w dc_w pm_w an_w cd_w ct_w),sl_w⟩) (c_w:PySem.W.codeIn KK cd_w "Pricing.settle"=true) (kp_PS:PySem.W.keepIn KK (.ref f_w)=true)
 {f_x:Addr} {od_x an_x:Option Addr} {sl_x:Array (Option OA)} {oc_x kV_x dc_x pm_x cd_x ct_x:OA}
 (aM_PF:PySem.W.findIn KK (.ref CP) "settle_first"=some (some (.ref f_x))) (iM_PF:PySem.W.isFn KK (.ref f_x)=true) (l_x:KK.lookup f_x=some ⟨oc_x,od_x,.func (PySem.W.fnOf "settle_first" "Pricing.settle_first" (defArgs s_PF) (defBody s_PF) (defScope s_PF) .none kV_x dc_x pm_x an_x cd_x ct_x),sl_x⟩) (c_x:PySem.W.codeIn KK cd_x "Pricing.settle_first"=true) (kp_PF:PySem.W.keepIn KK (.ref f_x)=true)
 {f_y:Addr} {od_y an_y:Option Addr} {sl_y:Array (Option OA)} {oc_y kV_y dc_y pm_y cd_y ct_y:OA}
 (aM_PA:PySem.W.findIn KK (.ref CP) "settle_all"=some (some (.ref f_y))) (iM_PA:PySem.W.isFn KK (.ref f_y)=true) (l_y:KK.lookup f_y=some ⟨oc_y,od_y,.func (PySem.W.fnOf "settle_all" "Pricing.settle_all" (defArgs s_PA) (defBody s_PA) (defScope s_PA) .none kV_y dc_y pm_y an_y cd_y ct_y),sl_y⟩) (c_y:PySem.W.codeIn KK cd_y "Pricing.settle_all"=true) (kp_PA:PySem.W.keepIn KK (.ref f_y)=true)
 : ∃ t:Tx KK mg,t.f_p=f_p:=
 ⟨⟨f_a,_,fT (st:=s__law_seed_at) (ps:=P__law_seed_at) U l_a c_a (Lu X G a_a) λ_ _ _ _ _ _ us hl=>t4 (Q:=λus=>bindArgs _ ⟨us,[]⟩=pure (List.zip P__law_seed_at us)) hl λ_ _=>rfl,
   f_b,_,fT (st:=s__law_rule_by) (ps:=P__law_rule_by) U l_b c_b (Lu X G a_b) λ_ _ _ _ _ _ us hl=>xh (Q:=λus=>bindArgs _ ⟨us,[]⟩=pure (List.zip P__law_rule_by us)) hl λ_ _ _=>rfl,
   f_c,_,fT (st:=s_is_plain) (ps:=P_is_plain) U l_c c_c (Lu X G a_c) λ_ _ _ _ _ _ us hl=>t4 (Q:=λus=>bindArgs _ ⟨us,[]⟩=pure (List.zip P_is_plain us)) hl λ_ _=>rfl,
   f_d,_,fT (st:=s_refuse_unless_plain) (ps:=P_refuse_unless_plain) U l_d c_d (Lu X G a_d) λ_ _ _ _ _ _ us hl=>t4 (Q:=λus=>bindArgs _ ⟨us,[]⟩=pure (List.zip P_refuse_unless_plain us)) hl λ_ _=>rfl,
   f_e,_,fT (st:=s_rules_by_start) (ps:=P_rules_by_start) U l_e c_e (Lu X G a_e) λ_ _ _ _ _ _ us hl=>rg (Q:=λus=>bindArgs _ ⟨us,[]⟩=pure (List.zip P_rules_by_start us)) hl λ_=>rfl,
   f_f,_,fT (st:=s_prices) (ps:=P_prices) U l_f c_f (Lu X G a_f) λ_ _ _ _ _ _ us hl=>t4 (Q:=λus=>bindArgs _ ⟨us,[]⟩=pure (List.zip P_prices us)) hl λ_ _=>rfl,
   f_g,_,fT (st:=s_pairs) (ps:=P_pairs) U l_g c_g (Lu X G a_g) λ_ _ _ _ _ _ us hl=>rg (Q:=λus=>bindArgs _ ⟨us,[]⟩=pure (List.zip P_pairs us)) hl λ_=>rfl,
   f_h,_,fT (st:=s__law_whole) (ps:=P__law_whole) U l_h c_h (Lu X G a_h) λ_ _ _ _ _ _ us hl=>rg (Q:=λus=>bindArgs _ ⟨us,[]⟩=pure (List.zip P__law_whole us)) hl λ_=>rfl,
   f_i,_,fT (st:=s__law_formed) (ps:=P__law_formed) U l_i c_i (Lu X G a_i) λ_ _ _ _ _ _ us hl=>t4 (Q:=λus=>bindArgs _ ⟨us,[]⟩=pure (List.zip P__law_formed us)) hl λ_ _=>rfl,
   f_j,_,fT (st:=s__law_bids) (ps:=P__law_bids) U l_j c_j (Lu X G a_j) λ_ _ _ _ _ _ us hl=>xh (Q:=λus=>bindArgs _ ⟨us,[]⟩=pure (List.zip P__law_bids us)) hl λ_ _ _=>rfl,
   f_k,_,fT (st:=s_lowest_end) (ps:=P_lowest_end) U l_k c_k (Lu X G a_k) λ_ _ _ _ _ _ us hl=>t4 (Q:=λus=>bindArgs _ ⟨us,[]⟩=pure (List.zip P_lowest_end us)) hl λ_ _=>rfl,
   f_l,_,fT (st:=s_priced_from) (ps:=P_priced_from) U l_l c_l (Lu X G a_l) λ_ _ _ _ _ _ us hl=>rg (Q:=λus=>bindArgs _ ⟨us,[]⟩=pure (List.zip P_priced_from us)) hl λ_=>rfl,
   f_m,_,fT (st:=s_sums_ahead) (ps:=P_sums_ahead) U l_m c_m (Lu X G a_m) λ_ _ _ _ _ _ us hl=>xh (Q:=λus=>bindArgs _ ⟨us,[]⟩=pure (List.zip P_sums_ahead us)) hl λ_ _ _=>rfl,
   f_n,_,fT (st:=s_sums_along) (ps:=P_sums_along) U l_n c_n (Lu X G a_n) λ_ _ _ _ _ _ us hl=>t4 (Q:=λus=>bindArgs _ ⟨us,[]⟩=pure (List.zip P_sums_along us)) hl λ_ _=>rfl,
   f_o,_,fT (st:=s_least) (ps:=P_least) U l_o c_o (Lu X G a_o) λ_ _ _ _ _ _ us hl=>xh (Q:=λus=>bindArgs _ ⟨us,[]⟩=pure (List.zip P_least us)) hl λ_ _ _=>rfl,
   f_p,_,fT (st:=s_law) (ps:=P_law) U l_p c_p (Lu X G a_p) λ_ _ _ _ _ _ us hl=>rg (Q:=λus=>bindArgs _ ⟨us,[]⟩=pure (List.zip P_law us)) hl λ_=>rfl,
   Lv X G z_all,
   Lv X G z_bool,
   Lv X G z_dict,
   Lv X G z_divmod,
   Lv X G z_enumerate,
   Lv X G z_int,
   Lv X G z_isinstance,
   Lv X G z_len,
   Lv X G z_list,
   Lv X G z_min,
   Lv X G z_range,
   Lv X G z_tuple,
   CQ,⟨⟨pgQ,hdQ,poQ,saQ⟩,naQ_last,naQ_piles⟩,Lu X G b_Queue,
   CP,⟨⟨pgP,hdP,poP,saP⟩,naP_rules,naP_told,naP_offers,naP_settled,naP_lacking⟩,Lu X G b_Pricing,
   f_q,_,nc (st:=s_QI) l_q c_q kp_QI,(nc (st:=s_QI) l_q c_q kp_QI).binds (ps:=["self"]) (λ_ _ _ _ _ _ us hl=>rg (Q:=λus=>bindArgs _ ⟨us,[]⟩=pure (List.zip (["self"]:List Str) us)) hl λ_=>rfl),⟨mkQ,aM_QI,iM_QI,kcQ⟩,
   f_r,_,qp (st:=s_QA) (ps:=["self", "price", "thing"]) l_r c_r kp_QA aM_QA iM_QA (λ_ _ _ _ _ _ us hl=>xh (Q:=λus=>bindArgs _ ⟨us,[]⟩=pure (List.zip (["self", "price", "thing"]:List Str) us)) hl λ_ _ _=>rfl),
   f_s,_,qp (st:=s_QE) (ps:=["self"]) l_s c_s kp_QE aM_QE iM_QE (λ_ _ _ _ _ _ us hl=>rg (Q:=λus=>bindArgs _ ⟨us,[]⟩=pure (List.zip (["self"]:List Str) us)) hl λ_=>rfl),
   f_t,_,qp (st:=s_QT) (ps:=["self"]) l_t c_t kp_QT aM_QT iM_QT (λ_ _ _ _ _ _ us hl=>rg (Q:=λus=>bindArgs _ ⟨us,[]⟩=pure (List.zip (["self"]:List Str) us)) hl λ_=>rfl),
   f_u,_,nc (st:=s_PI) l_u c_u kp_PI,(nc (st:=s_PI) l_u c_u kp_PI).binds (ps:=["self", "house"]) (λ_ _ _ _ _ _ us hl=>t4 (Q:=λus=>bindArgs _ ⟨us,[]⟩=pure (List.zip (["self", "house"]:List Str) us)) hl λ_ _=>rfl),⟨mkP,aM_PI,iM_PI,kcP⟩,
   f_v,_,qp (st:=s_PO) (ps:=["self", "arrow", "price", "number", "mid"]) l_v c_v kp_PO aM_PO iM_PO (λ_ _ _ _ _ _ us hl=>Jf (Q:=λus=>bindArgs _ ⟨us,[]⟩=pure (List.zip (["self", "arrow", "price", "number", "mid"]:List Str) us)) hl λ_ _ _ _ _=>rfl),
   f_w,_,qp (st:=s_PS) (ps:=["self", "arrow", "price"]) l_w c_w kp_PS aM_PS iM_PS (λ_ _ _ _ _ _ us hl=>xh (Q:=λus=>bindArgs _ ⟨us,[]⟩=pure (List.zip (["self", "arrow", "price"]:List Str) us)) hl λ_ _ _=>rfl),
   f_x,_,qp (st:=s_PF) (ps:=["self", "number", "rule", "mid", "price"]) l_x c_x kp_PF aM_PF iM_PF (λ_ _ _ _ _ _ us hl=>Jf (Q:=λus=>bindArgs _ ⟨us,[]⟩=pure (List.zip (["self", "number", "rule", "mid", "price"]:List Str) us)) hl λ_ _ _ _ _=>rfl),
   f_y,_,qp (st:=s_PA) (ps:=["self"]) l_y c_y kp_PA aM_PA iM_PA (λ_ _ _ _ _ _ us hl=>rg (Q:=λus=>bindArgs _ ⟨us,[]⟩=pure (List.zip (["self"]:List Str) us)) hl λ_=>rfl)⟩,rfl⟩
theorem GX {l:PySem.W.OpenLaw} {w:World} {K:Oy} {mg:Str->Option OA} {fa:Addr} (hfa:mg "law"=some (.ref fa)) (T:∃ t:Tx K mg,True) :
 ∃ fd:FuncData,(∀(s:Ox)(v:OA),BindsTo s fd ⟨[v],[]⟩ [("_law_script",v)])/\∀ base:Heap,FnOk l.prog w K mg base lA 8 fa fd ["_law_script"] (Jr sv):=by
 obtain⟨t,_⟩:=T;have e:=hfa.symm.trans t.h_p.gl;cases e;obtain⟨oc,od,kV,doc,pm,an,cdv,ct,osl,efd,lk,hcd⟩:=t.h_p.fu.ex;exact⟨t.fd_p,λs v=>by rw[efd];exact .of_eq rfl,λbase=>FnOk.top (GW t)⟩
end W
namespace L3
open PySem L2
theorem GY (f:En->Res R)(asg:D->Bool->En->Option En)(fb:En->Res Fl)(env:En):Bl f asg fb env=(f env).bind (uU asg fb env):=(rfl)
theorem Ca {x y:Int}{f g:Bool}{al bl:List Nat}(h:0<y)(h2:y<1073741824):jm [.val (.int x) f al,.val (.int y) g bl]=.ok (.val (.tup [.int (x / y),.int (x % y)]) true []):=Ku ⟨h,h2⟩
theorem Et (k1 k2:R->R->Res R)(fa fb fc:En->Res R)(env:En):nF k1 k2 fa fb fc env=(fa env).bind λra=>(fb env).bind λrb=>(k1 ra rb).bind (Ic k2 fc env rb):=(rfl)
theorem GZ {k2:R->R->Res R}{fc:En->Res R}{env:En}{rb:R}{f:Bool}{al:List Nat}:Ic k2 fc env rb (.val (.bl true) f al)=(fc env).bind λrc=>k2 rb rc:=(rfl)
theorem Cb {ds:List D}{f:Bool}:tG [.new ds f]=.ok (mkV (.tup ds) f []):=(rfl)
theorem Eu {i j:Nat}{env:En}{a b:D}{f:Bool}(hi:i<env.length)(hj:j<env.length):El (gT 2 (aF (gN i) (aF (gN j) dE))) env (.val (.tup [a,b]) f [])=.ok (.nx ((env.set i (some (.val a f))).set j (some (.val b f)))):=by refine GT ?_;show(aF (gN i) (aF (gN j) dE)) [a,b] f env=_;rw[yt,IS hi];show(aF (gN j) dE) [b] f _=_;rw[yt,IS (by rw[MO];exact hj)];rfl
end L3
namespace W
open PySem L2 L3 L4
abbrev vv (d:D)(f:Bool):Option Sl:=some (.val d f)
abbrev ow (d:List D)(f:Bool):Option Sl:=some (.own d f)
def sd (ns:List Int)(k:Int):Int:=((if k<ns.length then (atI ns k).getD 0 else 0) % 2147483647+11)*48271*69621 % 2147483629
theorem Jh (ns:List Int)(k:Int):0<=sd ns k:=by unfold sd;lia
theorem yA (ns:List Int)(k:Int)(h0:0<=k):df [.lst (ns.map .int),.int k]=.ok (.val (.int (sd ns k)) true []):=by
 by_cases h:k<ns.length
 .have hd:decide (k<(ns.length:Int))=true:=Kz h;obtain⟨a,ea,_⟩:=GV h0 h;have ha:atI (ns.map D.int) k=some (.int a):=by rw[Es,ea];rfl
  simp_arith[df,je,Kw,hd,ha];unfold sd;rw[Ku h,ea];rfl
 .have hd:decide (k<(ns.length:Int))=false:=KL h;simp_arith[df,je,Kw,hd];unfold sd;rw[Kv h]
theorem gr (t:Pz.Arr):(bn t).flat=true:=(rfl)
theorem j3 (r:Pz.Rule):(aJ r).flat=true:=by unfold aJ;simp only[aW,aG,aV,b9,aU,Lo]
theorem zR (r:Pz.Rule):(aJ r).dep<=2:=by have:=su r.2.2.2;unfold aJ;simp only[bV,aQ,b7,ba];lia
structure RR (ro sg:Int) (r:Pz.Rule):Prop where
 a:0<=r.1/\r.1<ro
 s:0<=r.2.1/\r.2.1<sg
 t:0<=r.2.2.1/\r.2.2.1<ro
 p:r.2.2.2.length<=2
 q:∀ x∈r.2.2.2,0<=x/\x<sg
def Mc (n:Int)(ts:List Pz.Arr)(es:List Int):D:=.tup [.int n,.lst (ts.map bn),.lst (es.map .int)]
theorem o6 (n:Int)(ts:List Pz.Arr)(es:List Int):(Mc n ts es).flat=false:=by unfold Mc;simp only[aW,aG,aV,aS,Le,K3]
structure PM (ro sg n:Int) (ts:List Pz.Arr) (es:List Int):Prop where
 rn:ro<=n
 n25:n<=ro+22
 arr:∀ t∈ts,0<=t.1/\t.1<n/\0<=t.2.1/\t.2.1<sg/\ro<=t.2.2/\t.2.2<n
 lt:ts.length<=29
 nd:ts.Nodup
 ends:∀ e∈es,0<=e/\e<n
 le:es.length<=6
def Hs (ro sg:Int)(RL:List Pz.Rule):D:=.tup [.int ro,.int sg,.lst (RL.map aJ)]
end W
namespace L3
open PySem L2
theorem Cc {n:Nat}{caps:List Nat}{f:En->Res R}{asg:D->Bool->En->Option En}{ft:En->Res Bool}{fe:En->Res R}{env:En}{ds:List D}{fr:Bool}{al:List Nat}(h:f env=.ok (.val (.lst ds) fr al)):iD n caps (j9 f) asg ft fe env=vz n caps asg ft fe env ⟨ds,fr,al⟩:=by rw[f7,dj,h];rfl
theorem G0 {n:Nat}{caps:List Nat}{f:En->Res R}{asg:D->Bool->En->Option En}{ft:En->Res Bool}{fe:En->Res R}{env:En}{ds:List D}{fr:Bool}{al:List Nat}(h:f env=.ok (.val (.tup ds) fr al)):iD n caps (j9 f) asg ft fe env=vz n caps asg ft fe env ⟨ds,fr,al⟩:=by rw[f7,dj,h];rfl
end L3
namespace W
open PySem L2 L3 L4
theorem mS (ro sg:Int)(RL:List Pz.Rule):(Hs ro sg RL).flat=false:=by unfold Hs;simp only[aW,aG,aV,aS,Le,K3]
theorem G2 (ro sg:Int)(RL:List Pz.Rule):(Hs ro sg RL).dep<=4:=by have:=vK (g:=aJ) (xs:=RL) zR;unfold Hs;simp only[bV,aQ,b7,ba,cb];lia
theorem Cd {ro sg n:Int}{RL:List Pz.Rule}{ts:List Pz.Arr}{es:List Int}(P:PM ro sg n ts es):bu [Hs ro sg RL,Mc n ts es]=.ok (.val .non true []):=by
 have hp:jV [Hs ro sg RL,Mc n ts es]=.ok (.val (.bl true) true []):=by
  have aR:=P.lt;have h:=jJ (mk:=λd=>gN 0 d false (i7 [vv (Hs ro sg RL) false,vv (Mc n ts es) false] 1 [0])) (test:=λ_=>.ok true) (elt:=gg) bn (λ_=>.val (.bl true) true []) ts λt ht=>⟨_,rfl,rfl,by show gg [vv (bn t) false,vv (Hs ro sg RL) false]=_;have:=P.arr t ht;have hd:decide (ro<=t.2.2)=true:=Kz (by lia);unfold bn Hs;simp_arith[gg,hd]⟩;have hc:iD 1 [0] (j9 (aX 1 (vC (.int 1)))) (gN 0) (λ_=>.ok true) gg [vv (Hs ro sg RL) false,vv (Mc n ts es) false]=.ok (.new (ts.map λ_=>D.bl true) true):=by have f2:D.flats (ts.map bn)=true:=du _ _ gr;rw[Cc (ds:=ts.map bn) (fr:=false) (al:=[]) (by unfold Mc;simp_arith)];rw[oY (by rw[Kw];lia) h,vL,qz,de (du _ _ λc=>rfl)]
  simp only[fV,b8,lc,fL,cT,ce,cU,dD,cV,LY,LP,Kr,K_,Ky,KO,List.replicate,K1,K7,KM,Nat.reduceAdd,LQ,LR,LS,Lp,Nat.reduceSub,gE,gJ,kT,gR,gK,gL,gM,gO,cY,cZ,aV,cG,bM,bN,aW,aS,aU,aG,b7,fA,cH,cI,bV,cb,ba,aQ,vp,fX,KP,KQ,gU,gW,gS,dQ,Int.reduceLT,Int.reduceLE,Int.reduceNeg,dL,dM,dN,dP,kM,kN,K8,K9,Nat.reduceLT,Nat.reduceLeDiff,kR,gF,gG,gH,gI,dJ,kU,kW,kX,kY,gX,cn,cp,cq,cr,dR,cu,cv,bC,iE,dS,gY,dU,bD,aY,bE,aZ,dW,cw,bF,bG,bh,bH,br,a_,kZ,gZ,dX,dY,dZ,cx,cy,k7,k8,d7,d8,d9,cz,d_,g8,eh,er,g9,g_,eB,cA,cB,eF,eG,k9,hI,hJ,hV,jo,eI,eJ,eL,eM,qT,vq,vw,vx,cC,eQ,eR,cD,cE,k_,hZ,eU,eV,h7,eY,eZ,e_,ff,fg,h8,fj,dj,bI,bJ,cF,bK,bL,h_,fq,cL,fE,cM,fF,cN,cO,cP,cQ,ig,cK,Res.noX_ok,ii,fD,ij,io,vA,vD,vE,vF,vG,Int.reduceBEq,ie,LU,Nat.reduceEqDiff,ic,fw,fy,bx,cc,cJ,bO,bP,bQ,bR,bS,bT,LK,Le,Lw,K3,Lo,LB,Lx,fB,fC,de,ck,lb,dC,ax,fH,fG,cS,fJ,fK,fI,gd,ax,bc,jV,qB,hc,zP]
 simp_arith[bu,gm,mS,o6,hp]
noncomputable def lV (ro sg n:Int):List Pz.Arr:=(List.range ro.toNat).flatMap λa=>(List.range sg.toNat).flatMap λs=>(List.range n.toNat).map λt=>(((a:Nat):Int),((s:Nat):Int),((t:Nat):Int))
theorem univ_mem {ro sg n a s t:Int}:((a,s,t):Pz.Arr)∈lV ro sg n↔(0<=a/\a<ro)/\(0<=s/\s<sg)/\0<=t/\t<n:=by
 unfold lV;simp only[MA,KH,Ob,NH];constructor
 .rintro⟨x,hx,y,hy,z,hz,rfl,rfl,rfl⟩;lia
 .rintro⟨h1,h2,h3⟩;exact⟨a.toNat,by lia,s.toNat,by lia,t.toNat,by lia,by lia,by lia,by lia⟩
theorem nP {α:Type}(c:Nat):∀ l:List α,(l.map λ_=>c).sum=l.length*c
 | []=>by simp
 |a::l=>by rw[Kr,NY,nP c l,Ky,Nat.succ_mul];lia
theorem vS (ro sg n:Int):(lV ro sg n).length=ro.toNat*(sg.toNat*n.toNat):=by
 unfold lV;rw[Nu];have h:∀ a:Nat,((List.range sg.toNat).flatMap λs=>(List.range n.toNat).map λt=>(((a:Nat):Int),((s:Nat):Int),((t:Nat):Int))).length=sg.toNat*n.toNat:=λa=>by rw[Nu];simp only[Kw,Nh];rw[nP,Nh]
 simp only[h];rw[nP,Nh]
theorem qK:∀ t:Pz.TD,lC (t.map λx=>(.inr (ak x.1):DK)) (t.map λx=>mC x.2)=some (t.map λx=>.tup [bn x.1,mC x.2])
 | []=>rfl
 |x::t=>by rw[Kr,Kr];unfold lC;rw[qK t];rfl
theorem zS (v:Pz.Val):(mC v).flat=true:=by
 have h:∀ o,(oD o).flat=true:=λo=>by cases o<;>rfl
 unfold mC;simp only[aW,aG,aV,aU,h,Lo]
theorem jf (t:Pz.TD):(dc t).flat=false:=ax _ _
theorem yB {β:Type}(el:Pz.Arr×Pz.Val->β)(k:Int×Int):∀(t:Pz.TD)(d:Pz.MD (Int×Int) β),(t.foldl (λd x=>d.app (x.1.1,x.1.2.1) (el x)) d).get k=d.get k++(t.filter λx=>decide ((x.1.1,x.1.2.1)=k)).map el
 | [],d=>by simp
 |x::t,d=>by
  rw[Mg,yB el k t,Pz.oP,Om];by_cases h:(x.1.1,x.1.2.1)=k
  .rw[Ku h,Ku (Kz h),Kr,Mb];rw[h];rfl
  .rw[Kv h,Kv (by simpa using h)]
theorem mT {β:Type}(el:Pz.Arr×Pz.Val->β)(k:Int×Int)(t:Pz.TD):(kK el t).get k=(t.filter λx=>decide ((x.1.1,x.1.2.1)=k)).map el:=by unfold kK;rw[yB];rfl
theorem vT {β:Type}(el:Pz.Arr×Pz.Val->β)(k:Int×Int)(t:Pz.TD):((kK el t).get k).length<=t.length:=by rw[mT,Kw];exact List.length_filter_le _ _
theorem Ce {β:Type}(eD:β->D)(k:Int×Int):∀ d:Pz.MD (Int×Int) β,getD (d.map λe=>(.inr (k2 e.1):DK)) (d.map λe=>.lst (e.2.map eD)) (.inr (k2 k))=if d.has k then some (.lst ((d.get k).map eD)) else none
 | []=>rfl
 |x::d=>by
  have ih:=Ce eD k d;rw[Kr,Kr];unfold getD;rw[ih,Pz.bB];unfold Pz.MD.has;rw[L6];by_cases h:x.1=k
  .rw[Ku (by rw[h]),Ku h,Kz h];rfl
  .rw[Kv (λe=>h (nL _ _ (MG e))),Kv h,KL h];rfl
theorem Ew {β:Type}(k:Int×Int)(d:Pz.MD (Int×Int) β)(h:d.has k=false):d.get k=[]:=by
 induction d with
 |nil=>rfl
 |cons x d ih=>unfold Pz.MD.has at h ih;rw[L6,Bool.or_eq_false_iff]at h;rw[Pz.bB,Kv (of_decide_eq_false h.1)];exact ih h.2
theorem G3 {β:Type}(k:Int×Int)(d:Pz.MD (Int×Int) β):(d.map λe=>(.inr (k2 e.1):DK)).all (kin (.inr (k2 k)))=true:=by rw[N_,LC];intro x _;rfl
theorem Ex {β:Type}{eD:β->D}{d:Pz.MD (Int×Int) β}{fa fk fx:En->Res R}{env:En}{f:Bool}{a b:Int}{r:R}(h1:fa env=.ok (.val (qu eD d) f []))(h2:fk env=.ok r)(hr:r.d=.tup [.int a,.int b])(h3:fx env=.ok (.new [] true)) :
 ∃ f',pW fa fk fx env=.ok (.val (.lst ((d.get (a,b)).map eD)) f' []):=by
 have hk:keyX r.d=some (.inr (k2 (a,b))):=by rw[hr];rfl
 have e:pW fa fk fx env=Hf (.val (qu eD d) f []) (d.map λe=>(.inr (k2 e.1):DK)) (d.map λe=>.lst (e.2.map eD)) r (.new [] true):=by rw[fI,h1,fX,Fk (ks:=d.map λe=>(.inr (k2 e.1):DK)) (ds:=d.map λe=>.lst (e.2.map eD)) rfl,h2,fX,gd,h3,fX]
 rw[e];unfold Hf;rw[hk];dsimp only;rw[Ku (G3 (a,b) d),Ce];cases h:d.has (a,b) with
 |true=>exact⟨f,by rw[Ku rfl];dsimp only;rw[cZ (aS _)];rfl⟩
 |false=>exact⟨true,by rw[Kv (by simp),Ew _ _ h];dsimp only;rw[cc,cZ (aS _)];rfl⟩
theorem mU {β:Type}(eD:β->D)(d:Pz.MD (Int×Int) β):(qu eD d).flat=false:=ax _ _
end W
namespace L3
open PySem L2
theorem Cf (fa fk:En->Res R)(env:En):mD fa fk env=(fa env).bind (Hh fk env):=(rfl)
theorem Cg (f:En->Res R)(env:En):BK f env=(f env).bind BJ:=(rfl)
theorem Ey (n:Nat)(caps:List Nat)(f:En->Res R)(asg:D->Bool->En->Option En)(ft:En->Res Bool)(fe:En->Res R)(env:En):tU n caps f asg ft fe env=(f env).bind (qx n caps asg ft fe env):=(rfl)
theorem Fq (i j:Nat)(fs:En->Res (List R))(env:En):DI i j fs env=(fs env).bind (Bn i j env):=(rfl)
theorem Ci {i j:Nat}{env:En}{r q:R}(h1:r.d.flat=true)(h2:q.d.flat=true)(h3:i<env.length)(h4:j<env.length):Bn i j env [r,q]=.ok (.nx ((env.set i (some (.val r.d true))).set j (some (.val q.d true)))):=by unfold Bn;dsimp only;rw[Ku (by rw[h1,h2,Kz h3,Kz h4];rfl)]
theorem Cj {n:Nat}{caps:List Nat}{asg:D->Bool->En->Option En}{ft:En->Res Bool}{fe:En->Res R}{env:En}{ks:List DK}{ds xs:List D}{fr:Bool}{full:List R}(h1:lC ks ds=some xs)(h2:xs.length<=1000000)(h3:D.flats ds=true)
 (hc:gc (λd=>asg d true (i7 env n caps)) ft fe xs=.ok full) (hf:D.flats (full.map R.d)=true):qx n caps asg ft fe env (.val (.dic ks ds) fr [])=.ok (.new (full.map R.d) true):=by
 have h4:xs.length<=lim/\(R.val (.dic ks ds) fr []).al=[]/\D.flats ds=true:=⟨h2,rfl,h3⟩;unfold qx;simp only[R.d,h1,hc];rw[Ku h4,Ku hf]
end L3
namespace W
open PySem L2 L3 L4
def mkQ (c ro sg:Int):Pz.Rule:=
 let n:=c*48271*48271*48271 % 2305843009213693951
 (n / 3 % 840 % ro,n / 3 / 840 % 60 % sg,n / 3 / 840 / 60 % 840 % ro,iN [n / 3 / 840 / 60 / 840 % 60 % sg,n / 3 / 840 / 60 / 840 / 60 % sg] none (some (n % 3)))
theorem Ez (c ro sg:Int)(h1:0<ro)(h3:0<sg):gf [.int c,.int ro,.int sg]=.ok (.val (aJ (mkQ c ro sg)) true []):=by have hc:∀ a b:Int,∀ k:Option Int,iN [D.int a,D.int b] none k=(iN [a,b] none k).map D.int:=λa b k=>vI D.int [a,b] none k;simp_arith[gf,li,h1,h3,Ca,Eu,hc,b9,Cb];rfl
theorem G4 (c ro sg:Int)(h1:0<ro)(h3:0<sg):RR ro sg (mkQ c ro sg):=
 have e:∀ a b:Int,0<b->0<=a % b/\a % b<b:=λa b h=>⟨Int.emod_nonneg _ (by lia),Oa _ h⟩
 ⟨e _ _ h1,e _ _ h3,e _ _ h1,vJ _ _ _,λx hx=>by
   have:=B0 _ _ _ x hx;rcases KB.mp this with h|h
   .rw[h];exact e _ _ h3
   .rw[KJ.mp h];exact e _ _ h3⟩
theorem EA {Fr:List D->Res R}{RL:List Pz.Rule}{M U:List Pz.Arr}{h0 h1:D}(hs:Pz.Set RL M U):∃ t,Pz.Good RL M U t/\∀ m0 m2 r,Fr [.tup [h0,h1,.lst (RL.map aJ)],.tup [m0,.lst (M.map bn),m2]]=.ok r->
 Iv Fr [.tup [h0,h1,.lst (RL.map aJ)],.tup [m0,.lst (M.map bn),m2]]=.ok (.fre (dc t)):=by
 obtain⟨fit,n,T,lp,good⟩:=hs.run x_;have hl:RL.length<16000000:=by have:=hs.big;unfold Pz.L at this;lia
 refine⟨T.told,good,λm0 m2 r hr=>?_⟩;have hex:∃ t,qo [.tup [h0,h1,.lst (RL.map aJ)],.tup [m0,.lst (M.map bn),m2]] t:=⟨T.told,RL,M,h0,h1,m0,m2,n,T,rfl,hl,fit,lp,rfl⟩;have e:Classical.choose hex=T.told:=by obtain⟨RL',M',a0,a1,a2,a3,n',T',e,_,_,lp',e2⟩:=Nb hex;rw[e2];injection e with e3 e;injection e3 with e3;injection e3 with _ e3;injection e3 with _ e3;injection e3 with e3 _;injection e3 with e3;injection e with e _;injection e with e;injection e with _ e;injection e with e _;injection e with e;rw[<- tT (λh=>zE h) e3,<- tT (λh=>BE h) e]at lp';rw[<- BD lp lp']
 unfold Iv;rw[hr];dsimp only;rw[dif_pos hex,e]
theorem Ko {ro sg:Int}{es:List Int}(h0:0<=ro)(he:∀ e∈es,0<=e/\e<ro)(hl:es.length<=6):PM ro sg ro [] es:=⟨Nt _,by lia,(λ_ h=>nomatch h),by simp,KY,he,hl⟩
theorem Ck {ro sg:Int}{RL:List Pz.Rule}(r1:0<ro)(s1:0<sg)(hr:∀ r∈RL,RR ro sg r)(hl:RL.length<=63)(hu:(lV ro sg ro).length<=128) :
 ∃ t,Pz.Good RL [] (lV ro sg ro) t/\t.length<=128/\∀ es:List Int,(∀ e∈es,0<=e/\e<ro)->es.length<=6->iq [Hs ro sg RL,Mc ro [] es]=.ok (.fre (dc t)):=by
 have hs:Pz.Set RL [] (lV ro sg ro):=by
  refine⟨λr h=>(hr r h).p,λa h=>(nomatch h),λr h=>univ_mem.mpr ⟨(hr r h).a,(hr r h).s,(hr r h).t⟩,λr h s x t k=>univ_mem.mpr ⟨(hr r h).a,(hr r h).s,(univ_mem.mp k).2.2⟩,?_,?_,?_⟩
  .have:RL.length*((lV ro sg ro).length*(lV ro sg ro).length)<=63*(128*128):=MJ hl (MJ hu hu);rw[KO];unfold Pz.L;lia
  .have:RL.length*(lV ro sg ro).length<=63*128:=MJ hl hu;unfold Pz.L;lia
  .unfold Pz.L;lia
 obtain⟨t,G,h⟩:=EA (Fr:=bu) (h0:=.int ro) (h1:=.int sg) hs;refine⟨t,G,?_,λes he hl=>h (.int ro) (.lst (es.map .int)) _ (Cd (Ko (by lia) he hl))⟩;have:=Pz.mz _ (lV ro sg ro) G.nd λa ha=>by obtain⟨x,hx,rfl⟩:=KH.mp ha;exact G.u x.1 x.2 (Pz.qg G.nd (by obtain⟨a,v⟩:=x;exact hx))
 rw[Kw]at this;lia
def aT (l:List (Pz.Arr×Int)):D:=.dic (l.map λx=>.inr (ak x.1)) (l.map λx=>.int x.2)
noncomputable def oG (t:Pz.TD):List (Pz.Arr×Int):=t.map λx=>(x.1,x.2.1)
theorem yC:∀(l acc:List (List Key×D)),((acc++l).map Prod.fst).Nodup->l.foldl (λt x=>rQ t x.1 x.2) acc=acc++l
 | [],acc,_=>by simp
 |x::l,acc,nd=>by
  have hx:¬ (acc.any λy=>decide (y.1=x.1))=true:=λh=>by obtain⟨y,hy,e⟩:=Oo.mp h;rw[K6,Kr]at nd;exact(LW.mp nd).2.2 y.1 (KH.mpr ⟨y,hy,rfl⟩) x.1 (by simp) (KU e)
  rw[Mg];have:rQ acc x.1 x.2=acc++[x]:=by unfold rQ;rw[Kv hx]
  rw[this,yC l (acc++[x]) (by rw[Mb];exact nd),Mb];rfl
theorem sA:∀ l:List (Pz.Arr×Int),i9 (l.map λx=>.tup [bn x.1,.int x.2])=some (l.map λx=>(ak x.1,.int x.2))
 | []=>rfl
 |x::l=>by rw[Kr];unfold i9;rw[sA l];rfl
theorem Cm {r:R}{l:List (Pz.Arr×Int)}(nd:(l.map (·.1)).Nodup)(hr:r.d=.lst (l.map λx=>.tup [bn x.1,.int x.2])):rR [r]=.ok (.fre (aT l)):=by
 have hp:lI [] (l.map λx=>(ak x.1,D.int x.2))=l.map λx=>(ak x.1,.int x.2):=by
  unfold lI;rw[yC _ [] ?_];rfl;rw[K7,KZ];have:(l.map (Prod.fst ∘ λx:Pz.Arr×Int=>(ak x.1,D.int x.2)))=(l.map (·.1)).map ak:=by rw[KZ];rfl
  rw[this];exact nodup_ak nd
 rw[dC,hr,Eo (sA l) (by rw[hp,KZ];exact du _ _ λ_=>rfl)];unfold uM aT;rw[hp,KZ,KZ];rfl
where
 nodup_ak:∀{l:List Pz.Arr},l.Nodup->(l.map ak).Nodup
 | [],_=>by simp
 |a::r,h=>by have h':=Lj.mp h;rw[Kr,Lj];refine⟨λhm=>?_,nodup_ak h'.2⟩;obtain⟨b,hb,e⟩:=KH.mp hm;exact h'.1 (lT _ _ e▸hb)
theorem xj {t:Pz.TD}(nd:(t.map (·.1)).Nodup):((oG t).map (·.1)).Nodup:=by unfold oG;rw[KZ];exact nd
theorem dg (l:List (Pz.Arr×Int)):(aT l).flat=false:=ax _ _
theorem xk {t:Pz.TD}{e0:Option Sl}(ht:t.length<=1000):tU 2 [] (ao 1) (gT 2 (aF (gN 0) (aF (gN 1) dE))) (λ_=>.ok true) lz [e0,vv (dc t) true]=.ok (.new ((oG t).map λx=>.tup [bn x.1,.int x.2]) true):=by
 have h:=jJ (mk:=λd=>gT 2 (aF (gN 0) (aF (gN 1) dE)) d true (i7 [e0,vv (dc t) true] 2 [])) (test:=λ_=>.ok true) (elt:=lz) (λx:Pz.Arr×Pz.Val=>D.tup [bn x.1,mC x.2]) (λx=>.val (.tup [bn x.1,.int x.2.1]) true []) t λx _=>⟨[vv (bn x.1) true,vv (mC x.2) true],rfl,rfl,by
  have o:∀ o,(oD o).flat=true:=λo=>by cases o<;>rfl
  unfold mC;simp_arith[lz,gr,o]⟩
 have hv:ao 1 [e0,vv (dc t) true]=.ok (.val (dc t) true []):=by simp_arith[jf]
 rw[Ey,hv,fX];have hk:=Cj (n:=2) (caps:=[]) (fr:=true) (ft:=λ_=>.ok true) (qK t) (by rw[Kw];lia) (du _ _ λx=>zS _) h (by rw[vL];exact du _ _ λx=>rfl);rw[vL]at hk;refine Eq.trans hk ?_;unfold oG;rw[KZ];rfl
theorem Co {ro sg:Int}{RL:List Pz.Rule}{t:Pz.TD}(hp:iq [Hs ro sg RL,Mc ro [] []]=.ok (.fre (dc t)))(nd:(t.map (·.1)).Nodup)(ht:t.length<=1000):oZ [Hs ro sg RL]=.ok (.fre (aT (oG t))):=by have hp:iq [.tup [.int ro,.int sg,.lst (RL.map aJ)],.tup [.int ro,.lst [],.lst []]]=.ok (.fre (dc t)):=hp;have hk:=Cm (r:=.new ((oG t).map λx=>.tup [bn x.1,.int x.2]) true) (xj nd) rfl;have hf:=mS ro sg RL;unfold Hs at hf ⊢;simp_arith[oZ,yu,hp,jf,xk ht,hk]
end W
namespace L3
open PySem L2
theorem vU {α:Type}(g:α->D){asg:D->Bool->En->Option En}{fr:Bool}{body:En->Res Fl}(all:List α)(P:List α->En->Prop):∀(xs pre:List α)(env:En),all=pre++xs->P pre env->
 (∀(pre post:List α)(a:α)(env:En),all=pre++a::post->P pre env->∃ jz env2,asg (g a) fr env=some jz/\(body jz=.ok (.nx env2)\/body jz=.ok (.ct env2))/\P (pre++[a]) env2)->
 ∃ bo,gb asg fr body (xs.map g) env=.ok (.nx bo)/\P all bo
 | [],pre,env,e,h,_=>⟨env,rfl,by rw[e,KM];exact h⟩
 |a::r,pre,env,e,h,st=>by obtain⟨jz,env2,h1,h2,h3⟩:=st pre r a env e h;obtain⟨bo,e1,e2⟩:=vU g all P r (pre++[a]) env2 (by rw[e];simp) h3 st;refine⟨bo,?_,e2⟩;rw[Kr];unfold gb;rw[h1];dsimp only;rcases h2 with h2|h2<;>(rw[h2];exact e1)
end L3
namespace W
open PySem L2 L3 L4
abbrev FL:=List (Pz.Arr×Int)
noncomputable def fget (l:FL)(a:Pz.Arr):Option Int:=(l.find? λx=>decide (x.1=a)).map (·.2)
theorem gs (x:Pz.Arr×Int)(l:FL)(a:Pz.Arr):fget (x::l) a=if x.1=a then some x.2 else fget l a:=by
 unfold fget;rw[Lm];by_cases h:x.1=a
 .rw[Kz h,Ku h];rfl
 .rw[KL h,Kv h]
theorem ll (a:Pz.Arr):∀ t:Pz.TD,fget (oG t) a=(Pz.tget t a).map (·.1)
 | []=>rfl
 |x::t=>by
  show fget ((x.1,x.2.1)::oG t) a=_;rw[gs,Pz.c_,ll a t];by_cases h:x.1=a
  .rw[Ku h,Ku h];rfl
  .rw[Kv h,Kv h]
theorem sB:∀ l:FL,lC (l.map λx=>(.inr (ak x.1):DK)) (l.map λx=>.int x.2)=some (l.map λx=>.tup [bn x.1,.int x.2])
 | []=>rfl
 |x::l=>by rw[Kr,Kr];unfold lC;rw[sB l];rfl
theorem mV (a:Pz.Arr):∀ l:FL,getD (l.map λx=>(.inr (ak x.1):DK)) (l.map λx=>.int x.2) (.inr (ak a))=(fget l a).map D.int
 | []=>rfl
 |x::l=>by
  rw[Kr,Kr];unfold getD;rw[mV a l,gs];by_cases h:x.1=a
  .rw[h,Ku rfl,Ku rfl];rfl
  .rw[Kv h,Kv λe=>h (lT _ _ (MG e))]
theorem t5 (a:Pz.Arr)(l:FL):(l.map λx=>(.inr (ak x.1):DK)).all (kin (.inr (ak a)))=true:=by rw[N_,LC];intro x _;rfl
theorem qL {l:FL}{fa fk:En->Res R}{env:En}{f:Bool}{al:List Nat}{a:Pz.Arr}{r:R}(h1:fa env=.ok (.val (aT l) f al))(h2:fk env=.ok r)(hr:r.d=bn a):mD fa fk env=.ok (.val (oD (fget l a)) true []):=by
 have hk:keyX r.d=some (.inr (ak a)):=by rw[hr];rfl
 rw[Cf,h1,fX];unfold Hh aT;dsimp only[R.d_val];rw[h2,fX];unfold IC;rw[hk];dsimp only;rw[Ku (t5 a l),mV];cases fget l a with
 |none=>rfl
 |some p=>exact LA Res.ok (cY rfl)
theorem nQ (x:Int):fP [.int x]=.ok (.val (.bl true) true []):=by simp_arith[fP,mG]
theorem vV (a:Pz.Arr){e0 e1 e3:Option Sl}{fr:Bool}:iD 1 [] (j9 (ao 2)) (gN 0) (λ_=>.ok true) cg [e0,e1,vv (bn a) fr,e3]=.ok (.new [D.bl true,D.bl true,D.bl true] true):=by have h:=jJ (mk:=λd=>gN 0 d true (i7 [e0,e1,vv (bn a) fr,e3] 1 [])) (test:=λ_=>.ok true) (elt:=cg) D.int (λ_=>.val (.bl true) true []) [a.1,a.2.1,a.2.2] λc _=>⟨_,rfl,rfl,by show cg [vv (.int c) true]=_;simp_arith[cg,nQ]⟩;rw[G0 (ds:=[a.1,a.2.1,a.2.2].map D.int) (fr:=true) (al:=[]) (by unfold bn;simp_arith)];rw[oY (by simp) h,vL,qz,de (du _ _ λc=>rfl)];rfl
theorem zT {asg:D->Bool->En->Option En}{fb:En->Res Fl}{env:En}{l:FL}{fr:Bool}:uU asg fb env (.val (aT l) fr [])=i_ (gb asg fr fb (l.map λx=>.tup [bn x.1,.int x.2]) env):=by unfold uU aT;dsimp only[R.d_val];rw[sB];rfl
theorem zU {ro sg:Int}{RL:List Pz.Rule}{l:FL}(h:∀ x∈l,(0<=x.1.1/\x.1.1<ro)/\(0<=x.1.2.1/\x.1.2.1<sg)/\0<=x.1.2.2/\x.1.2.2<ro):gz [aT l,Hs ro sg RL]=.ok (.val (.bl true) true []):=by obtain⟨bf,h1,e2',e3',rfl⟩:=vM (λx:Pz.Arr×Int=>D.tup [bn x.1,.int x.2]) (asg:=gT 2 (aF (gN 2) (aF (gN 3) dE))) (fr:=false) (body:=iA) (λ_ env=>∃ e2' e3',env=[vv (aT l) false,vv (Hs ro sg RL) false,e2',e3']) l [] [vv (aT l) false,vv (Hs ro sg RL) false,none,none] ⟨none,none,rfl⟩ (by rintro pre post x env _ ⟨q2,q3,rfl⟩ hx;obtain⟨⟨b1,b2⟩,⟨b3,b4⟩,b5,b6⟩:=h x hx;have d1:decide (0<=x.1.1)=true:=Kz b1;have d2:decide (x.1.1<ro)=true:=Kz b2;have d3:decide (0<=x.1.2.1)=true:=Kz b3;have d4:decide (x.1.2.1<sg)=true:=Kz b4;have d5:decide (0<=x.1.2.2)=true:=Kz b5;have d6:decide (x.1.2.2<ro)=true:=Kz b6;have hc:∀ e0 e1 e3:Option Sl,iD 1 [] (j9 (ao 2)) (gN 0) (λ_=>.ok true) cg [e0,e1,vv (bn x.1) false,e3]=.ok (.new [D.bl true,D.bl true,D.bl true] true):=λ_ _ _=>vV x.1;have a3:GS (.lst [D.bl true,D.bl true,D.bl true])=.ok (.val (.bl true) true []):=rfl;refine⟨[vv (aT l) false,vv (Hs ro sg RL) false,vv (bn x.1) false,vv (.int x.2) false],[vv (aT l) false,vv (Hs ro sg RL) false,vv (bn x.1) false,vv (.int x.2) false],rfl,?_,_,_,rfl⟩;unfold bn Hs at *;simp only[fV,b8,lc,fL,cT,ce,cU,dD,cV,LY,LP,Kr,K_,Ky,KO,List.replicate,K1,K7,KM,Nat.reduceAdd,LQ,LR,LS,Lp,Nat.reduceSub,gE,gJ,kT,gR,gK,gL,gM,gO,cY,cZ,aV,cG,bM,bN,aW,aS,aU,aG,b7,fA,cH,cI,bV,cb,ba,aQ,vp,fX,KP,KQ,gU,gW,gS,dQ,Int.reduceLT,Int.reduceLE,Int.reduceNeg,dL,dM,dN,dP,kM,kN,K8,K9,Nat.reduceLT,Nat.reduceLeDiff,kR,gF,gG,gH,gI,dJ,kU,kW,kX,kY,gX,cn,cp,cq,cr,dR,cu,cv,bC,iE,dS,gY,dU,bD,aY,bE,aZ,dW,cw,bF,bG,bh,bH,br,a_,kZ,gZ,dX,dY,dZ,cx,cy,k7,k8,d7,d8,d9,cz,d_,g8,eh,er,g9,g_,eB,cA,cB,eF,eG,k9,hI,hJ,hV,jo,eI,eJ,eL,eM,qT,vq,vw,vx,cC,eQ,eR,cD,cE,k_,hZ,eU,eV,h7,eY,eZ,e_,ff,fg,h8,fj,dj,bI,bJ,cF,bK,bL,h_,fq,cL,fE,cM,fF,cN,cO,cP,cQ,ig,cK,Res.noX_ok,ii,fD,ij,io,vA,vD,vE,vF,vG,Int.reduceBEq,ie,LU,Nat.reduceEqDiff,ic,fw,fy,bx,cc,cJ,bO,bP,bQ,bR,bS,bT,LK,Le,Lw,K3,Lo,LB,Lx,fB,fC,de,ck,lb,dC,ax,fH,fG,cS,fJ,fK,fI,gd,ax,bc,iA,IH,hc,Et,GZ,d1,d2,d3,d4,d5,d6,a3,nQ]);simp_arith[gz,lJ,GY,dg,zT,h1,vH]
noncomputable abbrev oH (x:Int×Int):D:=.tup [.int x.1,.int x.2]
def oq (l:FL)(ro:Int)(c x p:Int):List (Int×Int):=(List.range ro.toNat).filterMap λ(m:Nat)=>(fget l (c,x,(m:Int))).map λq=>((m:Int),1+p+q)
def fZ (l:FL)(ro:Int)(c x:Int)(ys:List Int)(m:Nat):List (Int×Int):=match fget l (c,x,(m:Int)) with
 |none=>[]
 |some p=>match ys with
  | []=>[((m:Int),1+p)]
  |y::_=>oq l ro (m:Int) y p
def oJ (l:FL)(ro:Int)(r:Pz.Rule):List (Int×Int):=match r.2.2.2 with
 | []=>[(r.2.2.1,1)]
 |x::ys=>(List.range ro.toNat).flatMap (fZ l ro r.2.2.1 x ys)
theorem EB (x:Int×Int):(oH x).flat=true:=(rfl)
theorem EC {α β:Type}(f:α->Option β)(l:List α)(a:α):(l++[a]).filterMap f=l.filterMap f++(f a).toList:=by rw[List.filterMap_append];rw[Nn];cases f a<;>rfl
theorem Cp {l:FL}{ro:Int}{r:Pz.Rule}{m p x y to:Int}{ys:List Int}{acc:List (Int×Int)}{e8 e9:Option Sl}{g4 g6 g7:Bool}(hr:0<=ro/\ro<=8)(ha:acc.length<=100) :
 ∃ e8' e9',gb (gN 8) true fY ((List.range ro.toNat).map λk:Nat=>D.int (k:Int)) [vv (aT l) false,vv (.int ro) false,vv (aJ r) false,vv (.int to) true,vv (.tup ((x::y::ys).map .int)) g4,ow (acc.map oH) true,vv (.int m) g6,vv (.int p) g7,e8,e9] =
  .ok (.nx [vv (aT l) false,vv (.int ro) false,vv (aJ r) false,vv (.int to) true,vv (.tup ((x::y::ys).map .int)) g4,ow ((acc++oq l ro m y p).map oH) true,vv (.int m) g6,vv (.int p) g7,e8',e9']):=by
 obtain⟨bf,h1,e8',e9',rfl⟩:=mE (λk:Nat=>D.int (k:Int)) (asg:=gN 8) (fr:=true) (body:=fY) (List.range ro.toNat) (λpre env=>∃ e8' e9',env=[vv (aT l) false,vv (.int ro) false,vv (aJ r) false,vv (.int to) true,vv (.tup ((x::y::ys).map .int)) g4,ow ((acc++pre.filterMap λ(k:Nat)=>(fget l (m,y,(k:Int))).map λq=>((k:Int),1+p+q)).map oH) true,vv (.int m) g6,vv (.int p) g7,e8',e9']) (List.range ro.toNat) [] [vv (aT l) false,vv (.int ro) false,vv (aJ r) false,vv (.int to) true,vv (.tup ((x::y::ys).map .int)) g4,ow (acc.map oH) true,vv (.int m) g6,vv (.int p) g7,e8,e9] rfl ⟨e8,e9,by rw[List.filterMap_nil,KM]⟩ (by
  rintro pre post k env hall ⟨q8,q9,rfl⟩;have hpl:pre.length<=8:=by have:=LA List.length hall;simp at this;lia
  have aR:((acc++pre.filterMap λ(k:Nat)=>(fget l (m,y,(k:Int))).map λq=>((k:Int),1+p+q)).map oH).length<1000000:=by have:=List.length_filterMap_le (λ(k:Nat)=>(fget l (m,y,(k:Int))).map λq=>((k:Int),1+p+q)) pre;rw[Kw,KI];lia
  have e1:(acc++(pre++[k]).filterMap λ(k:Nat)=>(fget l (m,y,(k:Int))).map λq=>((k:Int),1+p+q)).map oH=((acc++pre.filterMap λ(k:Nat)=>(fget l (m,y,(k:Int))).map λq=>((k:Int),1+p+q)).map oH)++((fget l (m,y,(k:Int))).map λq=>((k:Int),1+p+q)).toList.map oH:=by rw[EC,<- Mb,K6]
  generalize ((acc++pre.filterMap λ(k:Nat)=>(fget l (m,y,(k:Int))).map λq=>((k:Int),1+p+q)).map oH)=A at aR e1;have hg:=qL (l:=l) (fa:=ao 0) (fk:=gp (ah (ao 6) (ah (aX 4 (vC (.int 1))) (ah (ao 8) aN)))) (env:=[vv (aT l) false,vv (.int ro) false,vv (aJ r) false,vv (.int to) true,vv (.tup ((x::y::ys).map .int)) g4,ow A true,vv (.int m) g6,vv (.int p) g7,vv (.int (k:Int)) true,q9]) (f:=false) (al:=[]) (a:=(m,y,(k:Int))) (r:=.val (.tup [.int m,.int y,.int (k:Int)]) true []) (by simp_arith[dg]) (by simp_arith[b9]) rfl;refine⟨[vv (aT l) false,vv (.int ro) false,vv (aJ r) false,vv (.int to) true,vv (.tup ((x::y::ys).map .int)) g4,ow A true,vv (.int m) g6,vv (.int p) g7,vv (.int (k:Int)) true,q9],[vv (aT l) false,vv (.int ro) false,vv (aJ r) false,vv (.int to) true,vv (.tup ((x::y::ys).map .int)) g4,ow (A++((fget l (m,y,(k:Int))).map λq=>((k:Int),1+p+q)).toList.map oH) true,vv (.int m) g6,vv (.int p) g7,vv (.int (k:Int)) true,vv (oD (fget l (m,y,(k:Int)))) true],rfl,?_,_,_,by rw[e1]⟩;simp only[Kr]at hg ⊢;cases hq:fget l (m,y,(k:Int)) with
  |none=>rw[hq]at hg;simp only[fV,b8,lc,fL,cT,ce,cU,dD,cV,LY,LP,Kr,K_,Ky,KO,List.replicate,K1,K7,KM,Nat.reduceAdd,LQ,LR,LS,Lp,Nat.reduceSub,gE,gJ,kT,gR,gK,gL,gM,gO,cY,cZ,aV,cG,bM,bN,aW,aS,aU,aG,b7,fA,cH,cI,bV,cb,ba,aQ,vp,fX,KP,KQ,gU,gW,gS,dQ,Int.reduceLT,Int.reduceLE,Int.reduceNeg,dL,dM,dN,dP,kM,kN,K8,K9,Nat.reduceLT,Nat.reduceLeDiff,kR,gF,gG,gH,gI,dJ,kU,kW,kX,kY,gX,cn,cp,cq,cr,dR,cu,cv,bC,iE,dS,gY,dU,bD,aY,bE,aZ,dW,cw,bF,bG,bh,bH,br,a_,kZ,gZ,dX,dY,dZ,cx,cy,k7,k8,d7,d8,d9,cz,d_,g8,eh,er,g9,g_,eB,cA,cB,eF,eG,k9,hI,hJ,hV,jo,eI,eJ,eL,eM,qT,vq,vw,vx,cC,eQ,eR,cD,cE,k_,hZ,eU,eV,h7,eY,eZ,e_,ff,fg,h8,fj,dj,bI,bJ,cF,bK,bL,h_,fq,cL,fE,cM,fF,cN,cO,cP,cQ,ig,cK,Res.noX_ok,ii,fD,ij,io,vA,vD,vE,vF,vG,Int.reduceBEq,ie,LU,Nat.reduceEqDiff,f7,ic,fw,fy,bx,cc,cJ,bO,bP,bQ,bR,bS,bT,LK,Le,Lw,K3,Lo,LB,Lx,fB,fC,de,ck,lb,dC,ax,fH,fG,cS,fJ,fK,fI,gd,ax,bc,fY,hg,oD];simp
  |some q=>rw[hq]at hg;simp only[fV,b8,lc,fL,cT,ce,cU,dD,cV,LY,LP,Kr,K_,Ky,KO,List.replicate,K1,K7,KM,Nat.reduceAdd,LQ,LR,LS,Lp,Nat.reduceSub,gE,gJ,kT,gR,gK,gL,gM,gO,cY,cZ,aV,cG,bM,bN,aW,aS,aU,aG,b7,fA,cH,cI,bV,cb,ba,aQ,vp,fX,KP,KQ,gU,gW,gS,dQ,Int.reduceLT,Int.reduceLE,Int.reduceNeg,dL,dM,dN,dP,kM,kN,K8,K9,Nat.reduceLT,Nat.reduceLeDiff,kR,gF,gG,gH,gI,dJ,kU,kW,kX,kY,gX,cn,cp,cq,cr,dR,cu,cv,bC,iE,dS,gY,dU,bD,aY,bE,aZ,dW,cw,bF,bG,bh,bH,br,a_,kZ,gZ,dX,dY,dZ,cx,cy,k7,k8,d7,d8,d9,cz,d_,g8,eh,er,g9,g_,eB,cA,cB,eF,eG,k9,hI,hJ,hV,jo,eI,eJ,eL,eM,qT,vq,vw,vx,cC,eQ,eR,cD,cE,k_,hZ,eU,eV,h7,eY,eZ,e_,ff,fg,h8,fj,dj,bI,bJ,cF,bK,bL,h_,fq,cL,fE,cM,fF,cN,cO,cP,cQ,ig,cK,Res.noX_ok,ii,fD,ij,io,vA,vD,vE,vF,vG,Int.reduceBEq,ie,LU,Nat.reduceEqDiff,f7,ic,fw,fy,bx,cc,cJ,bO,bP,bQ,bR,bS,bT,LK,Le,Lw,K3,Lo,LB,Lx,fB,fC,de,ck,lb,dC,ax,fH,fG,cS,fJ,fK,fI,gd,ax,bc,fY,hg,oD,BZ aR];rfl)
 exact⟨e8',e9',h1⟩
theorem zV (l:FL){ro:Int}(h:ro<=8)(c x p:Int):(oq l ro c x p).length<=8:=by have:=List.length_filterMap_le (λ(k:Nat)=>(fget l (c,x,(k:Int))).map λq=>((k:Int),1+p+q)) (List.range ro.toNat);rw[Nh]at this;unfold oq;lia
theorem sC (l:FL){ro:Int}(h:ro<=8)(c x:Int)(ys:List Int)(m:Nat):(fZ l ro c x ys m).length<=8:=by
 unfold fZ;cases fget l (c,x,(m:Int)) with
 |none=>simp
 |some p=>cases ys with
  |nil=>simp
  |cons y ys=>exact zV l h _ _ _
theorem t6 {α β:Type}(f:α->List β)(n:Nat)(h:∀ a,(f a).length<=n):∀ l:List α,(l.flatMap f).length<=l.length*n
 | []=>by simp
 |a::l=>by rw[L_,KI,Ky,Nat.succ_mul];have:=h a;have:=t6 f n h l;lia
theorem ED {l:FL}{ro:Int}{r:Pz.Rule}(hr:0<=ro/\ro<=8):∃ R',ir [aT l,.int ro,aJ r]=.ok R'/\(R'=.new ((oJ l ro r).map oH) true\/∃ al,R'=.val (.lst ((oJ l ro r).map oH)) true al):=by
 obtain⟨r0,r1,r2,put⟩:=r;have dp:(D.tup (put.map D.int)).dep<=50:=by have:=su put;rw[bV];lia
 have d0:(D.tup ([]:List D)).dep<=50:=by decide
 have hk:∀ f al,J1 [.val (.int ro) f al]=.ok ⟨j7 0 ro.toNat,true,[]⟩:=λf al=>IR (by lia) (by lia);rcases put with _|⟨x,ys⟩
 .refine⟨_,?_,.inl rfl⟩;unfold aJ oJ;simp_arith[ir,lj,dg,Fq,Ci,xc,ji,eqDs]
 .have he:eqDs (D.int x::ys.map D.int) []=false:=rfl;have lo:∃ e6 e7 e8 e9,gb (gN 6) true dv ((List.range ro.toNat).map λk:Nat=>D.int (k:Int)) [vv (aT l) false,vv (.int ro) false,vv (aJ (r0,r1,r2,x::ys)) false,vv (.int r2) true,vv (.tup ((x::ys).map .int)) true,ow [] true,none,none,none,none] =
   .ok (.nx [vv (aT l) false,vv (.int ro) false,vv (aJ (r0,r1,r2,x::ys)) false,vv (.int r2) true,vv (.tup ((x::ys).map .int)) true,ow ((oJ l ro (r0,r1,r2,x::ys)).map oH) true,e6,e7,e8,e9]):=by
   obtain⟨bf,h1,e6,e7,e8,e9,rfl⟩:=vU (λk:Nat=>D.int (k:Int)) (asg:=gN 6) (fr:=true) (body:=dv) (List.range ro.toNat) (λpre env=>∃ e6 e7 e8 e9,env=[vv (aT l) false,vv (.int ro) false,vv (aJ (r0,r1,r2,x::ys)) false,vv (.int r2) true,vv (.tup ((x::ys).map .int)) true,ow ((pre.flatMap (fZ l ro r2 x ys)).map oH) true,e6,e7,e8,e9]) (List.range ro.toNat) [] [vv (aT l) false,vv (.int ro) false,vv (aJ (r0,r1,r2,x::ys)) false,vv (.int r2) true,vv (.tup ((x::ys).map .int)) true,ow [] true,none,none,none,none] rfl ⟨none,none,none,none,rfl⟩ (by
    rintro pre post m env hall ⟨q6,q7,q8,q9,rfl⟩;have hpl:pre.length<=8:=by have:=LA List.length hall;simp at this;lia
    have hal:(pre.flatMap (fZ l ro r2 x ys)).length<=100:=by have:=t6 (fZ l ro r2 x ys) 8 (λm=>sC l hr.2 r2 x ys m) pre;lia
    have e1:(pre++[m]).flatMap (fZ l ro r2 x ys)=pre.flatMap (fZ l ro r2 x ys)++fZ l ro r2 x ys m:=by rw[Nr];simp
    generalize pre.flatMap (fZ l ro r2 x ys)=A at hal e1;have aR:(A.map oH).length<1000000:=by rw[Kw];lia
    have hg:=qL (l:=l) (fa:=ao 0) (fk:=gp (ah (ao 3) (ah (aX 4 (vC (.int 0))) (ah (ao 6) aN)))) (env:=[vv (aT l) false,vv (.int ro) false,vv (aJ (r0,r1,r2,x::ys)) false,vv (.int r2) true,vv (.tup ((x::ys).map .int)) true,ow (A.map oH) true,vv (.int (m:Int)) true,q7,q8,q9]) (f:=false) (al:=[]) (a:=(r2,x,(m:Int))) (r:=.val (.tup [.int r2,.int x,.int (m:Int)]) true []) (by simp_arith[dg]) (by simp_arith[b9]) rfl;cases hq:fget l (r2,x,(m:Int)) with
    |none=>
     rw[hq]at hg;have e2:fZ l ro r2 x ys m=[]:=by unfold fZ;rw[hq]
     refine⟨[vv (aT l) false,vv (.int ro) false,vv (aJ (r0,r1,r2,x::ys)) false,vv (.int r2) true,vv (.tup ((x::ys).map .int)) true,ow (A.map oH) true,vv (.int (m:Int)) true,q7,q8,q9],[vv (aT l) false,vv (.int ro) false,vv (aJ (r0,r1,r2,x::ys)) false,vv (.int r2) true,vv (.tup ((x::ys).map .int)) true,ow (A.map oH) true,vv (.int (m:Int)) true,vv .non true,q8,q9],rfl,.inr ?_,_,_,_,_,by rw[e1,e2,KM]⟩;simp only[Kr]at hg ⊢;simp only[fV,b8,lc,fL,cT,ce,cU,dD,cV,LY,LP,Kr,K_,Ky,KO,List.replicate,K1,K7,KM,Nat.reduceAdd,LQ,LR,LS,Lp,Nat.reduceSub,gE,gJ,kT,gR,gK,gL,gM,gO,cY,cZ,aV,cG,bM,bN,aW,aS,aU,aG,b7,fA,cH,cI,bV,cb,ba,aQ,vp,fX,KP,KQ,gU,gW,gS,dQ,Int.reduceLT,Int.reduceLE,Int.reduceNeg,dL,dM,dN,dP,kM,kN,K8,K9,Nat.reduceLT,Nat.reduceLeDiff,kR,gF,gG,gH,gI,dJ,kU,kW,kX,kY,gX,cn,cp,cq,cr,dR,cu,cv,bC,iE,dS,gY,dU,bD,aY,bE,aZ,dW,cw,bF,bG,bh,bH,br,a_,kZ,gZ,dX,dY,dZ,cx,cy,k7,k8,d7,d8,d9,cz,d_,g8,eh,er,g9,g_,eB,cA,cB,eF,eG,k9,hI,hJ,hV,jo,eI,eJ,eL,eM,qT,vq,vw,vx,cC,eQ,eR,cD,cE,k_,hZ,eU,eV,h7,eY,eZ,e_,ff,fg,h8,fj,dj,bI,bJ,cF,bK,bL,h_,fq,cL,fE,cM,fF,cN,cO,cP,cQ,ig,cK,Res.noX_ok,ii,fD,ij,io,vA,vD,vE,vF,vG,Int.reduceBEq,ie,LU,Nat.reduceEqDiff,f7,ic,fw,fy,bx,cc,cJ,bO,bP,bQ,bR,bS,bT,LK,Le,Lw,K3,Lo,LB,Lx,fB,fC,de,ck,lb,dC,ax,fH,fG,cS,fJ,fK,fI,gd,ax,bc,dv,hg,oD];rfl
    |some p=>
     rw[hq]at hg;cases ys with
     |nil=>
      have e2:fZ l ro r2 x [] m=[((m:Int),1+p)]:=by unfold fZ;rw[hq]
      refine⟨[vv (aT l) false,vv (.int ro) false,vv (aJ (r0,r1,r2,[x])) false,vv (.int r2) true,vv (.tup ([x].map .int)) true,ow (A.map oH) true,vv (.int (m:Int)) true,q7,q8,q9],[vv (aT l) false,vv (.int ro) false,vv (aJ (r0,r1,r2,[x])) false,vv (.int r2) true,vv (.tup ([x].map .int)) true,ow (A.map oH++[.tup [.int (m:Int),.int (1+p)]]) true,vv (.int (m:Int)) true,vv (.int p) true,q8,q9],rfl,.inr ?_,_,_,_,_,by rw[e1,e2,K6];rfl⟩;simp only[Kr,K_]at hg ⊢;simp only[fV,b8,lc,fL,cT,ce,cU,dD,cV,LY,LP,Kr,K_,Ky,KO,List.replicate,K1,K7,KM,Nat.reduceAdd,LQ,LR,LS,Lp,Nat.reduceSub,gE,gJ,kT,gR,gK,gL,gM,gO,cY,cZ,aV,cG,bM,bN,aW,aS,aU,aG,b7,fA,cH,cI,bV,cb,ba,aQ,vp,fX,KP,KQ,gU,gW,gS,dQ,Int.reduceLT,Int.reduceLE,Int.reduceNeg,dL,dM,dN,dP,kM,kN,K8,K9,Nat.reduceLT,Nat.reduceLeDiff,kR,gF,gG,gH,gI,dJ,kU,kW,kX,kY,gX,cn,cp,cq,cr,dR,cu,cv,bC,iE,dS,gY,dU,bD,aY,bE,aZ,dW,cw,bF,bG,bh,bH,br,a_,kZ,gZ,dX,dY,dZ,cx,cy,k7,k8,d7,d8,d9,cz,d_,g8,eh,er,g9,g_,eB,cA,cB,eF,eG,k9,hI,hJ,hV,jo,eI,eJ,eL,eM,qT,vq,vw,vx,cC,eQ,eR,cD,cE,k_,hZ,eU,eV,h7,eY,eZ,e_,ff,fg,h8,fj,dj,bI,bJ,cF,bK,bL,h_,fq,cL,fE,cM,fF,cN,cO,cP,cQ,ig,cK,Res.noX_ok,ii,fD,ij,io,vA,vD,vE,vF,vG,Int.reduceBEq,ie,LU,Nat.reduceEqDiff,f7,ic,fw,fy,bx,cc,cJ,bO,bP,bQ,bR,bS,bT,LK,Le,Lw,K3,Lo,LB,Lx,fB,fC,de,ck,lb,dC,ax,fH,fG,cS,fJ,fK,fI,gd,ax,bc,dv,hg,oD,xc,BZ aR,BEq.rfl];rfl
     |cons y ys=>
      have e2:fZ l ro r2 x (y::ys) m=oq l ro (m:Int) y p:=by unfold fZ;rw[hq]
      obtain⟨x8,x9,hi⟩:=Cp (l:=l) (ro:=ro) (r:=(r0,r1,r2,x::y::ys)) (m:=(m:Int)) (p:=p) (x:=x) (y:=y) (to:=r2) (ys:=ys) (acc:=A) (e8:=q8) (e9:=q9) (g4:=true) (g6:=true) (g7:=true) hr hal;refine⟨[vv (aT l) false,vv (.int ro) false,vv (aJ (r0,r1,r2,x::y::ys)) false,vv (.int r2) true,vv (.tup ((x::y::ys).map .int)) true,ow (A.map oH) true,vv (.int (m:Int)) true,q7,q8,q9],[vv (aT l) false,vv (.int ro) false,vv (aJ (r0,r1,r2,x::y::ys)) false,vv (.int r2) true,vv (.tup ((x::y::ys).map .int)) true,ow ((A++oq l ro (m:Int) y p).map oH) true,vv (.int (m:Int)) true,vv (.int p) true,x8,x9],rfl,.inl ?_,_,_,_,_,by rw[e1,e2]⟩;have ne1:(((ys.length:Nat):Int)+1+1==1)=false:=LI.mpr (by lia);have ne2:((((ys.length+1+1:Nat)):Int)==1)=false:=LI.mpr (by lia);simp only[Kr]at hg hi ⊢;simp only[fV,b8,lc,fL,cT,ce,cU,dD,cV,LY,LP,Kr,K_,Ky,KO,List.replicate,K1,K7,KM,Nat.reduceAdd,LQ,LR,LS,Lp,Nat.reduceSub,gE,gJ,kT,gR,gK,gL,gM,gO,cY,cZ,aV,cG,bM,bN,aW,aS,aU,aG,b7,fA,cH,cI,bV,cb,ba,aQ,vp,fX,KP,KQ,gU,gW,gS,dQ,Int.reduceLT,Int.reduceLE,Int.reduceNeg,dL,dM,dN,dP,kM,kN,K8,K9,Nat.reduceLT,Nat.reduceLeDiff,kR,gF,gG,gH,gI,dJ,kU,kW,kX,kY,gX,cn,cp,cq,cr,dR,cu,cv,bC,iE,dS,gY,dU,bD,aY,bE,aZ,dW,cw,bF,bG,bh,bH,br,a_,kZ,gZ,dX,dY,dZ,cx,cy,k7,k8,d7,d8,d9,cz,d_,g8,eh,er,g9,g_,eB,cA,cB,eF,eG,k9,hI,hJ,hV,jo,eI,eJ,eL,eM,qT,vq,vw,vx,cC,eQ,eR,cD,cE,k_,hZ,eU,eV,h7,eY,eZ,e_,ff,fg,h8,fj,dj,bI,bJ,cF,bK,bL,h_,fq,cL,fE,cM,fF,cN,cO,cP,cQ,ig,cK,Res.noX_ok,ii,fD,ij,io,vA,vD,vE,vF,vG,Int.reduceBEq,ie,LU,Nat.reduceEqDiff,f7,ic,fw,fy,bx,cc,cJ,bO,bP,bQ,bR,bS,bT,LK,Le,Lw,K3,Lo,LB,Lx,fB,fC,de,ck,lb,dC,ax,fH,fG,cS,fJ,fK,fI,gd,ax,bc,dv,hg,oD,xc,Kw,b9,ne1,ne2,hk,yr,hi])
   exact⟨_,_,_,_,h1⟩
  obtain⟨e6,e7,e8,e9,lo⟩:=lo;refine⟨_,?_,.inr ⟨[5],rfl⟩⟩;have hoe:AM (.val (.tup (D.int x::ys.map D.int)) true []) (.val (.tup []) true [])=.ok (.val (.bl false) true []):=xc (a:=.val (.tup (D.int x::ys.map D.int)) true []) (b:=.val (.tup []) true []) dp d0;simp only[aJ,Kr]at lo ⊢;simp_arith[ir,lj,dg,b9,Fq,Ci,hoe,hk,yr,lo]
noncomputable def oK (l:FL)(a:Pz.Arr)(v:Int):FL:=if l.any (λx=>decide (x.1=a)) then l.map (λx=>if x.1=a then (x.1,v) else x) else l++[(a,v)]
theorem xm (a:Pz.Arr):∀ l:FL,l.any (λx=>decide (x.1=a))=(fget l a).isSome
 | []=>rfl
 |x::l=>by
  rw[L6,gs,xm a l];by_cases h:x.1=a
  .rw[Kz h,Ku h];rfl
  .rw[KL h,Kv h];rfl
theorem Cq (l m:FL)(b:Pz.Arr):fget (l++m) b=(fget l b).or (fget m b):=by unfold fget;rw[List.find?_append];cases l.find? _<;>rfl
theorem vW (a b:Pz.Arr)(v:Int):∀ l:FL,fget (l.map λx=>if x.1=a then (x.1,v) else x) b=if a=b then (fget l b).map λ_=>v else fget l b
 | []=>by by_cases h:a=b<;>simp[h,fget]
 |x::l=>by
  rw[Kr,gs,gs,vW a b v l];by_cases h1:x.1=a<;>by_cases h2:x.1=b
  .have:a=b:=h1▸h2;simp[h1,this]
  .have:a≠b:=λe=>h2 (h1.trans e);simp[h1,this]
  .have:a≠b:=λe=>h1 (h2.trans e.symm);simp[h2,this,h1,LJ this]
  .simp[h1,h2]
theorem zW (l:FL)(a b:Pz.Arr)(v:Int):fget (oK l a v) b=if a=b then some v else fget l b:=by
 unfold oK;rw[xm];by_cases h:(fget l a).isSome
 .rw[Ku h,vW];by_cases e:a=b
  .subst e;rw[Ku rfl,Ku rfl];obtain⟨w,hw⟩:=Nv.mp h;rw[hw];rfl
  .rw[Kv e,Kv e]
 .rw[Kv h,Cq,gs];have h:fget l a=none:=by simpa using h
  by_cases e:a=b
  .subst e;rw[h,Ku rfl,Ku rfl];rfl
  .rw[Kv e,Kv e];unfold fget;cases l.find? _<;>rfl
theorem zX {l:FL}{a:Pz.Arr}(h:fget l a=none):a∉l.map (·.1):=λhm=>by obtain⟨x,hx,e⟩:=KH.mp hm;have:l.any (λx=>decide (x.1=a))=true:=Oo.mpr ⟨x,hx,Kz e⟩;rw[xm,h]at this;exact Bool.noConfusion this
theorem nR (l:FL)(a:Pz.Arr)(v:Int):(oK l a v).map (·.1)=if (fget l a).isSome then l.map (·.1) else l.map (·.1)++[a]:=by
 unfold oK;rw[xm];by_cases h:(fget l a).isSome
 .rw[Ku h,Ku h,KZ];refine L7 λx _=>?_;show(if x.1=a then (x.1,v) else x).1=x.1;by_cases e:x.1=a
  .rw[Ku e]
  .rw[Kv e]
 .rw[Kv h,Kv h,K6];rfl
theorem EE {l:FL}(nd:(l.map (·.1)).Nodup)(a:Pz.Arr)(v:Int):((oK l a v).map (·.1)).Nodup:=by
 rw[nR];by_cases h:(fget l a).isSome
 .rw[Ku h];exact nd
 .rw[Kv h];have h:fget l a=none:=by simpa using h
  refine LW.mpr ⟨nd,by simp,λx hx y hy e=>?_⟩;rw[KJ]at hy;subst hy;subst e;exact zX h hx
theorem Cr (l:FL)(a:Pz.Arr)(v:Int):(oK l a v).length<=l.length+1:=by
 have:=LA List.length (nR l a v);rw[Kw]at this;rw[this];by_cases h:(fget l a).isSome
 .rw[Ku h,Kw];lia
 .rw[Kv h,KI,Kw];exact Kq _
theorem EF (a:Pz.Arr)(l:FL):lP (l.map λx=>(.inr (ak x.1):DK)) (.inr (ak a))=(fget l a).isSome:=by rw[<- xm];unfold lP;rw[List.any_map];refine LA (List.any l) (funext λx=>?_);show decide ((Sum.inr (ak x.1):DK)=.inr (ak a))=decide (x.1=a);exact Os.mpr ⟨λe=>lT _ _ (MG e),λe=>by rw[e]⟩
theorem vX (a:Pz.Arr)(v:Int):∀ l:FL,xW (l.map λx=>(.inr (ak x.1):DK)) (l.map λx=>.int x.2) (.inr (ak a)) (.int v)=(l.map λx=>if x.1=a then (x.1,v) else x).map λx=>.int x.2
 | []=>rfl
 |x::l=>by
  rw[Kr,Kr,Kr,Kr];unfold xW;rw[vX a v l];by_cases h:x.1=a
  .rw[Ku (by rw[h]),Ku h]
  .rw[Kv (λe=>h (lT _ _ (MG e))),Kv h]
theorem EG (l:FL)(a:Pz.Arr)(v:Int):jR (l.map λx=>(.inr (ak x.1):DK)) (l.map λx=>.int x.2) (.inr (ak a)) (.int v)=aT (oK l a v):=by
 have hk:=nR l a v;unfold jR;rw[EF];have e:∀ m:FL,(m.map λx=>(.inr (ak x.1):DK))=(m.map (·.1)).map λb=>.inr (ak b):=λm=>by rw[KZ];rfl
 unfold aT;rw[e (oK l a v),hk,e l];by_cases h:(fget l a).isSome
 .rw[Ku h,Ku h,<- e l,vX];unfold oK;rw[xm,Ku h]
 .rw[Kv h,Kv h,K6];unfold oK;rw[xm,Kv h,K6];rfl
theorem Cs {l:FL}{fa fk fx:En->Res R}{env:En}{a:Pz.Arr}{r0 r:R}{p:Int}{f:Bool}{al:List Nat}(h1:fa env=.ok r0)(hr0:r0.d=aT l)(h2:fk env=.ok r)(hr:r.d=bn a)(h3:fx env=.ok (.val (.int p) f al)):pW fa fk fx env=.ok (.val (.int ((fget l a).getD p)) true []):=by
 have hk:keyX r.d=some (.inr (ak a)):=by rw[hr];rfl
 rw[fI,h1,fX,Fk hr0,h2,fX,gd,h3,fX];unfold Hf;rw[hk];dsimp only;rw[Ku (t5 a l),mV];cases fget l a with
 |none=>exact LA Res.ok (cY rfl)
 |some p=>exact LA Res.ok (cY rfl)
def Ct (l:FL)(x:Pz.Arr×Int):FL:=oK l x.1 (if (fget l x.1).getD x.2<x.2 then (fget l x.1).getD x.2 else x.2)
structure Due (seen l:FL):Prop where
 nd:(l.map (·.1)).Nodup
 len:l.length<=seen.length
 from':∀ a v,fget l a=some v->(a,v)∈seen
 low:∀ x∈seen,∃ v,fget l x.1=some v/\v<=x.2
theorem Due.nil:Due [] []:=⟨KY,Kq _,(λ_ _ h=>nomatch h),(λ_ h=>nomatch h)⟩
theorem Due.step {seen l:FL}(h:Due seen l)(x:Pz.Arr×Int):Due (seen++[x]) (Ct l x):=by
 have hv:∀ b,fget (Ct l x) b=if x.1=b then some (if (fget l x.1).getD x.2<x.2 then (fget l x.1).getD x.2 else x.2) else fget l b:=λb=>zW _ _ _ _;refine⟨EE h.nd _ _,?_,λa v hg=>?_,λy hy=>?_⟩
 .have:=Cr l x.1 (if (fget l x.1).getD x.2<x.2 then (fget l x.1).getD x.2 else x.2);have:=h.len;unfold Ct;rw[KI,List.length_singleton];lia
 .rw[hv]at hg;by_cases e:x.1=a
  .rw[Ku e]at hg;injection hg with hg;subst e;cases hf:fget l x.1 with
   |none=>rw[hf]at hg;simp at hg;rw[<- hg];simp
   |some w=>
    rw[hf]at hg;simp at hg;by_cases c:w<x.2
    .rw[Ku c]at hg;rw[<- hg];exact Mw _ (h.from' _ _ hf)
    .rw[Kv c]at hg;rw[<- hg];simp
  .rw[Kv e]at hg;exact Mw _ (h.from' _ _ hg)
 .rw[hv];by_cases e:x.1=y.1
  .rw[Ku e];refine⟨_,rfl,?_⟩;rcases Lf.mp hy with hy|hy
   .obtain⟨v,h1,h2⟩:=h.low y hy;rw[e,h1,Option.getD_some];by_cases c:v<x.2
    .rw[Ku c];exact h2
    .rw[Kv c];lia
   .rw[KJ.mp hy];by_cases c:(fget l x.1).getD x.2<x.2
    .rw[Ku c];lia
    .rw[Kv c];exact Nt _
  .rw[Kv e];rcases Lf.mp hy with hy|hy
   .exact h.low y hy
   .exact absurd (by rw[KJ.mp hy]) e
def iB (l:FL)(ro:Int)(r:Pz.Rule):FL:=(oJ l ro r).map λq=>((r.1,r.2.1,q.1),q.2)
theorem EH {l:FL}{r:Pz.Rule}{q:Int×Int}{g:Bool}{e0 e1 e2 e3 e4 e5 e6 e11 e12 e13:Option Sl}(hl:l.length<1000000):mN [e0,e1,e2,e3,e4,e5,e6,some (.tre (aT l)),vv (aJ r) g,vv (.int q.1) true,vv (.int q.2) true,e11,e12,e13] =
 .ok (.nx [e0,e1,e2,e3,e4,e5,e6,some (.tre (aT (Ct l ((r.1,r.2.1,q.1),q.2)))),vv (aJ r) g,vv (.int q.1) true,vv (.int q.2) true,vv (bn (r.1,r.2.1,q.1)) true,e12,e13]):=by
 have hT:gp (ah (aX 8 (vC (.int 0))) (ah (aX 8 (vC (.int 1))) (ah (ao 9) aN))) [e0,e1,e2,e3,e4,e5,e6,some (.tre (aT l)),vv (aJ r) g,vv (.int q.1) true,vv (.int q.2) true,e11,e12,e13]=.ok (.val (bn (r.1,r.2.1,q.1)) true []):=by unfold aJ;simp_arith[b9];rfl
 have hG:=Cs (l:=l) (fa:=ao 7) (fk:=ao 11) (fx:=ao 10) (a:=(r.1,r.2.1,q.1)) (p:=q.2) (r:=.val (bn (r.1,r.2.1,q.1)) true []) (r0:=.val (aT l) true [7]) (f:=true) (al:=[]) (env:=[e0,e1,e2,e3,e4,e5,e6,some (.tre (aT l)),vv (aJ r) g,vv (.int q.1) true,vv (.int q.2) true,vv (bn (r.1,r.2.1,q.1)) true,e12,e13]) (by simp_arith[dg]) rfl (by simp_arith[gr]) rfl (by simp_arith);have hp:∀ v env,rS 7 env (l.map λx=>(.inr (ak x.1):DK)) (l.map λx=>.int x.2) (.int v) (.val (bn (r.1,r.2.1,q.1)) true [])=.ok (.nx (env.set 7 (some (.tre (aT (oK l (r.1,r.2.1,q.1) v)))))):=λv env=>by rw[yp (x:=.inr (ak (r.1,r.2.1,q.1))) rfl (t5 _ l) (by rw[Kw];exact hl),EG]
 have hat:∀ i fk fv env,putAt i fk fv env (some (some (.tre (aT l))))=(fv env).bind (rT i fk env (l.map λx=>(.inr (ak x.1):DK)) (l.map λx=>.int x.2)):=λ_ _ _ _=>rfl;unfold Ct;simp only[fV,b8,lc,fL,cT,ce,cU,dD,cV,LY,LP,Kr,K_,Ky,KO,List.replicate,K1,K7,KM,Nat.reduceAdd,LQ,LR,LS,Lp,Nat.reduceSub,gE,gJ,kT,gR,gK,gL,gM,gO,cY,cZ,aV,cG,bM,bN,aW,aS,aU,aG,b7,fA,cH,cI,bV,cb,ba,aQ,vp,fX,KP,KQ,gU,gW,gS,dQ,Int.reduceLT,Int.reduceLE,Int.reduceNeg,dL,dM,dN,dP,kM,kN,K8,K9,Nat.reduceLT,Nat.reduceLeDiff,kR,gF,gG,gH,gI,dJ,kU,kW,kX,kY,gX,cn,cp,cq,cr,dR,cu,cv,bC,dS,gY,dU,bD,aY,bE,aZ,dW,cw,bF,bG,bh,bH,br,a_,kZ,gZ,dX,dY,dZ,cx,cy,k7,k8,d7,d8,d9,cz,d_,g8,eh,er,g9,g_,eB,cA,cB,eF,eG,k9,hI,hJ,hV,jo,eI,eJ,eL,eM,qT,vq,vw,vx,cC,eQ,eR,cD,cE,k_,hZ,eU,eV,h7,eY,eZ,e_,ff,fg,h8,fj,dj,bI,bJ,cF,bK,bL,h_,fq,cL,fE,cM,fF,cN,cO,cP,cQ,ig,cK,Res.noX_ok,ii,fD,ij,io,vA,vD,vE,vF,vG,Int.reduceBEq,ie,LU,Nat.reduceEqDiff,f7,ic,fw,fy,bx,cc,cJ,bO,bP,bQ,bR,bS,bT,LK,Le,Lw,K3,Lo,LB,Lx,fB,fC,de,ck,lb,dC,ax,fH,fG,cS,fJ,fK,gd,ax,bc,mN,hT,gr,hat,hG,ce,hp,yo]
theorem at_fnd {t:Pz.TD}{a:Pz.Arr}{p:Int}:fget (oG t) a=some p↔Pz.At t a p:=by
 rw[ll];constructor
 .intro h;obtain⟨w,h1,h2⟩:=Lc.mp h;exact⟨w,h1,h2⟩
 .rintro⟨w,h1,h2⟩;rw[h1,<- h2];rfl
theorem Cu {ro m:Int}(h:0<=m/\m<ro):m.toNat∈List.range ro.toNat/\((m.toNat:Nat):Int)=m:=⟨Ob.mpr (by lia),by lia⟩
theorem Cv {RL:List Pz.Rule}{U:List Pz.Arr}{t:Pz.TD}{ro:Int}(G:Pz.Good RL [] U t){r:Pz.Rule}(hr:r∈RL){q:Int×Int}(hq:q∈oJ (oG t) ro r)(hp:r.2.2.2.length<=2):Pz.Low t (r.1,r.2.1,q.1) q.2:=by
 obtain⟨j,hj⟩:=List.getElem?_of_mem hr;have hc:=G.clo j r hj;obtain⟨r0,r1,r2,put⟩:=r;obtain⟨q1,q2⟩:=q;unfold oJ at hq;rcases put with _|⟨x,put⟩
 .simp only[KJ,NH]at hq;obtain⟨rfl,rfl⟩:=hq;exact hc
 .obtain⟨m,_,hm⟩:=MA.mp hq;unfold fZ at hm;simp only at hm;cases hg:fget (oG t) (r2,x,(m:Int)) with
  |none=>rw[hg]at hm;exact(KG hm).elim
  |some p=>
   rw[hg]at hm;rcases put with _|⟨y,_|⟨z,l⟩⟩
   .simp only[KJ,NH]at hm;obtain⟨rfl,rfl⟩:=hm;have:=hc _ p (at_fnd.mp hg);rw[Int.add_comm]at this;exact this
   .unfold oq at hm;obtain⟨k,_,hk⟩:=Nx.mp hm;obtain⟨s,h1,h2⟩:=Lc.mp hk;simp only[NH]at h2;obtain⟨rfl,rfl⟩:=h2;obtain⟨w,h3,h4⟩:=hc _ _ p s (at_fnd.mp hg) (at_fnd.mp h1);exact⟨w,h3,by simp only;lia⟩
   .simp at hp
theorem Cw {RL:List Pz.Rule}{ro sg:Int}{t:Pz.TD}(G:Pz.Good RL [] (lV ro sg ro) t){a:Pz.Arr}{v:Pz.Val}(h:Pz.tget t a=some v):(a,v.1)∈RL.flatMap (iB (oG t) ro):=by
 have hj:=G.ju a v h;obtain⟨p,n,mo⟩:=v;obtain⟨a0,a1,a2⟩:=a;have hu:=univ_mem.mp (G.u _ _ h);unfold Pz.Just at hj;cases n with
 |none=>exact(KG hj.2.2).elim
 |some i=>
  obtain⟨j,r,_,hr,h1,h2,hj⟩:=hj;refine MA.mpr ⟨r,Ll hr,?_⟩;obtain⟨r0,r1,r2,put⟩:=r;simp only at h1 h2 hj;subst h1;subst h2;refine KH.mpr ⟨(a2,p),?_,rfl⟩;unfold oJ;simp only;obtain⟨hn,hne⟩:=Cu hu.2.2;rcases put with _|⟨x,_|⟨y,_|⟨z,l⟩⟩⟩
  .obtain⟨_,rfl,rfl⟩:=hj;simp
  .obtain⟨_,q,hs,rfl⟩:=hj;refine MA.mpr ⟨a2.toNat,hn,?_⟩;unfold fZ;rw[hne,at_fnd.mpr hs,Int.add_comm];simp
  .obtain⟨d,q1,q2,_,hs1,hs2,rfl⟩:=hj;obtain⟨w,hw,_⟩:=hs1;obtain⟨hd,hde⟩:=Cu (univ_mem.mp (G.u _ _ hw)).2.2;refine MA.mpr ⟨d.toNat,hd,?_⟩;unfold fZ;rw[hde,at_fnd.mpr ⟨w,hw,by assumption⟩];simp only;unfold oq;refine Nx.mpr ⟨a2.toNat,hn,?_⟩;rw[hne,at_fnd.mpr hs2];show some (a2,1+q1+q2)=_;rw[show 1+q1+q2=q1+q2+1 by lia]
  .exact hj.elim
theorem G5 {RL:List Pz.Rule}{ro sg:Int}{t:Pz.TD}{oR:FL}(G:Pz.Good RL [] (lV ro sg ro) t)(hp:∀ r∈RL,r.2.2.2.length<=2)(H:Due (RL.flatMap (iB (oG t) ro)) oR)(a:Pz.Arr):fget oR a=fget (oG t) a:=by
 have up:∀ v,fget oR a=some v->∃ w,Pz.tget t a=some w/\w.1<=v:=λv h=>by obtain⟨r,hr,hm⟩:=MA.mp (H.from' a v h);obtain⟨q,hq,e⟩:=KH.mp hm;simp only[NH]at e;obtain⟨rfl,rfl⟩:=e;exact Cv G hr hq (hp r hr)
 have dn:∀ w,Pz.tget t a=some w->∃ v,fget oR a=some v/\v<=w.1:=λw h=>H.low (a,w.1) (Cw G h);cases hd:fget oR a with
 |none=>
  cases ht:Pz.tget t a with
  |none=>rw[ll,ht];rfl
  |some w=>obtain⟨v,hv,_⟩:=dn w ht;rw[hd]at hv;cases hv
 |some v=>obtain⟨w,hw,hle⟩:=up v hd;obtain⟨v',hv',hle'⟩:=dn w hw;rw[hd]at hv';injection hv' with hv';rw[ll,hw];show some v=some w.1;congr 1;lia
theorem Cy {l:FL}{a:Pz.Arr}{v:Int}(h:fget l a=some v):(a,v)∈l:=by unfold fget at h;obtain⟨x,h1,h2⟩:=Lc.mp h;have h3:decide (x.1=a)=true:=List.find?_some (p:=λx:Pz.Arr×Int=>decide (x.1=a)) h1;have h3:=KU h3;have h4:=Nl h1;obtain⟨b,w⟩:=x;simp only at h2 h3;subst h2;subst h3;exact h4
theorem mW:∀{l:FL}{x:Pz.Arr×Int},(l.map (·.1)).Nodup->x∈l->fget l x.1=some x.2
 |y::l,x,nd,h=>by
  rw[Kr,Lj]at nd;rw[gs];rcases KB.mp h with rfl|h
  .rw[Ku rfl]
  .have e:¬ y.1=x.1:=λe=>nd.1 (by rw[e];exact KH.mpr ⟨x,h,rfl⟩);rw[Kv e];exact mW nd.2 h
theorem Cz {l m:FL}(nd:(l.map (·.1)).Nodup)(h:∀ a,fget l a=fget m a):l.length<=m.length:=by
 have:=Pz.mz (l.map (·.1)) (m.map (·.1)) nd λa ha=>by obtain⟨x,hx,rfl⟩:=KH.mp ha;have:=mW nd hx;rw[h]at this;exact KH.mpr ⟨_,Cy this,rfl⟩
 rw[Kw,Kw]at this;exact this
theorem G6 {l m:FL}{r q:R}(hr:r.d=aT l)(hq:q.d=aT m)(nd:(l.map (·.1)).Nodup)(nd':(m.map (·.1)).Nodup)(h:∀ a,fget l a=fget m a):zN r q=.ok (.val (.bl true) true []):=by
 have ti:∀ l:FL,(fW (l.map λx=>.int x.2)).isSome=true:=λl=>by
  induction l with
  |nil=>rfl
  |cons x l ih=>rw[Kr];unfold fW;rw[NL];exact ih
 have tk:∀ l:FL,w_ (l.map λx=>(.inr (ak x.1):DK))=true:=λl=>by unfold w_;rw[N_,LC];intro x _;rfl
 have e:vk (l.map λx=>(.inr (ak x.1):DK)) (l.map λx=>.int x.2) (m.map λx=>(.inr (ak x.1):DK)) (m.map λx=>.int x.2)=true:=by unfold vk;rw[Kw,Kw,Nat.le_antisymm (Cz nd h) (Cz nd' λa=>(h a).symm),BEq.rfl,Le,List.zip_map',N_,LC];intro x hx;show BR _ _ (.inr (ak x.1),.int x.2)=true;unfold BR;rw[mV,<- h,mW nd hx];exact kq _
 unfold zN;rw[hr,hq];unfold aT;dsimp only;rw[tk,tk,ti,ti,e];rfl
end W
namespace L3
open PySem L2
theorem Ji {fk:En->Res R}{env:En}{ra:R}{ks:List DK}{ds:List D}(h:ra.d=.dic ks ds):Hh fk env ra=(fk env).bind (IC ra ks ds):=by unfold Hh;rw[h]
end L3
namespace W
open PySem L2 L3 L4
def jg (l:FL):D:=.dic (l.map λx=>ik x.1.2.2) (l.map λx=>.tup [.int (0+x.2),bn x.1])
def nT (p0:Int):D:=.dic [ik p0] [.tup [.int 0,.non]]
theorem fO (l:FL):(jg l).flat=false:=ax _ _
theorem CA {a b:Int}(h:ik a=ik b):a=b:=by unfold ik at h;injection h with h;injection h
theorem xn (k:Int):∀ l:FL,getD (l.map λx=>ik x.1.2.2) (l.map λx=>.tup [.int (0+x.2),bn x.1]) (ik k)=(l.find? λx=>decide (x.1.2.2=k)).map λx=>.tup [.int (0+x.2),bn x.1]
 | []=>rfl
 |x::l=>by
  rw[Kr,Kr,Lm];unfold getD;rw[xn k l];by_cases h:x.1.2.2=k
  .rw[Ku (by rw[h]),Kz h];rfl
  .rw[Kv λe=>h (CA e),KL h]
theorem t7 (k:Int)(l:FL):(l.map λx=>ik x.1.2.2).all (kin (ik k))=true:=by rw[N_,LC];intro x _;rfl
theorem CB (k:Int)(l:FL):lP (l.map λx=>ik x.1.2.2) (ik k)=(l.find? λx=>decide (x.1.2.2=k)).isSome:=by rw[Mp,List.find?_isSome];unfold lP;rw[List.any_map,Oo];exact⟨λ⟨x,h1,h2⟩=>⟨x,h1,Kz (CA (KU h2))⟩,λ⟨x,h1,h2⟩=>⟨x,h1,Kz (LA ik (KU h2))⟩⟩
theorem G7 {A:FL}{x:Pz.Arr×Int}{e0 e1 e2 e4 e8:Option Sl}{g5 f':Bool}(hn:A.find? (λy=>decide (y.1.2.2=x.1.2.2))=none)(hl:A.length<1000000) :
 fM [e0,e1,e2,some (.tre (jg A)),e4,vv (.tup [.int 0,.non]) g5,vv (bn x.1) f',vv (.int x.2) f',e8]=.ok (.nx [e0,e1,e2,some (.tre (jg (A++[x]))),e4,vv (.tup [.int 0,.non]) g5,vv (bn x.1) f',vv (.int x.2) f',vv .non true]):=by
 have hg:mD (ao 3) (aX 6 (vC (.int 2))) [e0,e1,e2,some (.tre (jg A)),e4,vv (.tup [.int 0,.non]) g5,vv (bn x.1) f',vv (.int x.2) f',e8]=.ok (.val .non true []):=by
  have h1:ao 3 [e0,e1,e2,some (.tre (jg A)),e4,vv (.tup [.int 0,.non]) g5,vv (bn x.1) f',vv (.int x.2) f',e8]=.ok (.val (jg A) true [3]):=by simp_arith[fO]
  have h2:aX 6 (vC (.int 2)) [e0,e1,e2,some (.tre (jg A)),e4,vv (.tup [.int 0,.non]) g5,vv (bn x.1) f',vv (.int x.2) f',e8]=.ok (.val (.int x.1.2.2) true []):=by unfold bn;simp_arith
  rw[Cf,h1,fX,Ji (ra:=.val (jg A) true [3]) rfl,h2,fX];unfold IC;have hk:keyX (R.val (.int x.1.2.2) true []).d=some (ik x.1.2.2):=rfl;rw[hk];dsimp only;rw[Ku (t7 _ A),xn,hn];rfl
 have h2:BX (bn x.1) (.int 2) true []=.ok (.val (.int x.1.2.2) true []):=by unfold bn;simp_arith
 have hat:∀ i fk fv env,putAt i fk fv env (some (some (.tre (jg A))))=(fv env).bind (rT i fk env (A.map λx=>ik x.1.2.2) (A.map λx=>.tup [.int (0+x.2),bn x.1])):=λ_ _ _ _=>rfl;have hp:∀ env,rS 3 env (A.map λx=>ik x.1.2.2) (A.map λx=>.tup [.int (0+x.2),bn x.1]) (.tup [.int (0+x.2),bn x.1]) (.val (.int x.1.2.2) true [])=.ok (.nx (env.set 3 (some (.tre (jg (A++[x])))))):=λenv=>by rw[yp (x:=ik x.1.2.2) rfl (t7 _ A) (by rw[Kw];exact hl)];unfold jR jg;rw[CB,hn,K6,K6];rfl
 simp only[fV,b8,lc,fL,cT,ce,cU,dD,cV,LY,LP,Kr,K_,Ky,KO,List.replicate,K1,K7,KM,Nat.reduceAdd,LQ,LR,LS,Lp,Nat.reduceSub,gE,gJ,kT,gR,gK,gL,gM,gO,cY,cZ,aV,cG,bM,bN,aW,aS,aU,aG,b7,fA,cH,cI,bV,cb,ba,aQ,vp,fX,KP,KQ,gU,gW,gS,dQ,Int.reduceLT,Int.reduceLE,Int.reduceNeg,dL,dM,dN,dP,kM,kN,K8,K9,Nat.reduceLT,Nat.reduceLeDiff,kR,gF,gG,gH,gI,dJ,kU,kW,kX,kY,gX,cn,cp,cq,cr,dR,cu,cv,bC,iE,dS,gY,dU,bD,aY,bE,aZ,dW,cw,bF,bG,bh,bH,br,a_,kZ,gZ,dX,dY,dZ,cx,cy,k7,k8,d7,d8,d9,cz,d_,g8,eh,er,g9,g_,eB,cA,cB,eF,eG,k9,hI,hJ,hV,jo,eI,eJ,eL,eM,qT,vq,vw,vx,cC,eQ,eR,cD,cE,k_,hZ,eU,eV,h7,eY,eZ,e_,ff,fg,h8,fj,dj,bI,bJ,cF,bK,bL,h_,fq,cL,fE,cM,fF,cN,cO,cP,cQ,ig,cK,Res.noX_ok,ii,fD,ij,io,vA,vD,vE,vF,vG,Int.reduceBEq,ie,LU,Nat.reduceEqDiff,f7,ic,fw,fy,bx,cc,cJ,bO,bP,bQ,bR,bS,bT,LK,Le,Lw,K3,Lo,LB,Lx,fB,fC,de,ck,lb,dC,ax,fH,fG,cS,fJ,fK,fI,gd,ax,bc,fM,hg,h2,hat,hp,yo,gr]
def nU (t:Pz.TD)(p0 p1:Int):FL:=(kK qN t).get (p0,p1)
theorem xo {t:Pz.TD}(nd:(t.map (·.1)).Nodup){p0 p1:Int}{x:Pz.Arr×Int}(h:x∈nU t p0 p1):x.1.1=p0/\x.1.2.1=p1/\fget (oG t) x.1=some x.2:=by unfold nU at h;rw[mT]at h;obtain⟨⟨a,v⟩,hm,rfl⟩:=KH.mp h;obtain⟨h1,h2⟩:=LD.mp hm;have h2:=KU h2;simp only[NH]at h2;refine⟨h2.1,h2.2,?_⟩;exact mW (xj nd) (KH.mpr ⟨(a,v),h1,rfl⟩)
theorem Jj {t:Pz.TD}{a:Pz.Arr}{v:Pz.Val}(h:Pz.tget t a=some v):(a,v.1)∈nU t a.1 a.2.1:=by unfold nU;rw[mT];exact KH.mpr ⟨(a,v),LD.mpr ⟨Pz.p_ h,Kz rfl⟩,rfl⟩
theorem Jk {t:Pz.TD}(nd:(t.map (·.1)).Nodup)(p0 p1:Int):((nU t p0 p1).map (·.1)).Nodup:=by unfold nU;rw[mT,KZ];exact List.Nodup.sublist (List.Sublist.map _ List.filter_sublist) nd
theorem G8 (t:Pz.TD)(p0 p1:Int):(nU t p0 p1).length<=t.length:=vT qN (p0,p1) t
theorem CC {t:Pz.TD}{p0 p1:Int}(nd:(t.map (·.1)).Nodup)(ht:t.length<=1000):∃ r,iP [qu qM (kK qN t),nT p0,.int p1]=.ok r/\(r=.fre (jg (nU t p0 p1))\/r=.val (jg (nU t p0 p1)) true [3]):=by
 obtain⟨f',hg⟩:=Ex (d:=kK qN t) (eD:=qM) (fa:=ao 0) (fk:=gp (ah (ao 4) (ah (ao 2) aN))) (fx:=lN aN) (env:=[vv (qu qM (kK qN t)) false,vv (nT p0) false,vv (.int p1) false,some (.tre (jg [])),vv (.int p0) false,vv (.tup [.int 0,.non]) false,none,none,none]) (f:=false) (a:=p0) (b:=p1) (r:=.val (.tup [.int p0,.int p1]) true []) (by simp_arith[mU]) (by simp_arith) rfl (by simp_arith);have lo:∃ e6 e7 e8,gb (gT 2 (aF (gN 6) (aF (gN 7) dE))) f' fM ((nU t p0 p1).map qM) [vv (qu qM (kK qN t)) false,vv (nT p0) false,vv (.int p1) false,some (.tre (jg [])),vv (.int p0) false,vv (.tup [.int 0,.non]) false,none,none,none] =
  .ok (.nx [vv (qu qM (kK qN t)) false,vv (nT p0) false,vv (.int p1) false,some (.tre (jg (nU t p0 p1))),vv (.int p0) false,vv (.tup [.int 0,.non]) false,e6,e7,e8]):=by
  obtain⟨bf,h1,e6,e7,e8,rfl⟩:=mE qM (asg:=gT 2 (aF (gN 6) (aF (gN 7) dE))) (fr:=f') (body:=fM) (nU t p0 p1) (λpre env=>∃ e6 e7 e8,env=[vv (qu qM (kK qN t)) false,vv (nT p0) false,vv (.int p1) false,some (.tre (jg pre)),vv (.int p0) false,vv (.tup [.int 0,.non]) false,e6,e7,e8]) (nU t p0 p1) [] _ rfl ⟨none,none,none,rfl⟩ (by
   rintro pre post x env hall ⟨q6,q7,q8,rfl⟩;have hpl:pre.length<=1000:=by have:=LA List.length hall;rw[KI]at this;have:=G8 t p0 p1;lia
   have hn:pre.find? (λy=>decide (y.1.2.2=x.1.2.2))=none:=by
    rw[NG];intro y hy hd;have hd:=KU hd;have hx:=xo nd (p0:=p0) (p1:=p1) (x:=x) (by rw[hall];simp);have hy2:=xo nd (p0:=p0) (p1:=p1) (x:=y) (by rw[hall];simp[hy]);have e:y.1=x.1:=by rw[show y.1=(y.1.1,y.1.2.1,y.1.2.2) from rfl,show x.1=(x.1.1,x.1.2.1,x.1.2.2) from rfl,hy2.1,hy2.2.1,hx.1,hx.2.1,hd]
    have nn:=Jk nd p0 p1;rw[hall,K6,Kr]at nn;exact(LW.mp nn).2.2 y.1 (KH.mpr ⟨y,hy,rfl⟩) x.1 (by simp) e
   exact⟨[vv (qu qM (kK qN t)) false,vv (nT p0) false,vv (.int p1) false,some (.tre (jg pre)),vv (.int p0) false,vv (.tup [.int 0,.non]) false,vv (bn x.1) f',vv (.int x.2) f',q8],_,rfl,G7 hn (by lia),_,_,_,rfl⟩)
  exact⟨_,_,_,h1⟩
 obtain⟨e6,e7,e8,lo⟩:=lo;have hk:∀ env,uS (gT 2 (aF (gN 4) (aF (gN 5) dE))) b_ env (.val (nT p0) false [])=i_ (gb (gT 2 (aF (gN 4) (aF (gN 5) dE))) false b_ [.tup [.int p0,.tup [.int 0,.non]]] env):=λenv=>Ep (ks:=[p0]) (g:=λ_=>.tup [.int 0,.non]);have hF:(nT p0).flat=false:=ax _ _;have hb:b_ [vv (qu qM (kK qN t)) false,vv (nT p0) false,vv (.int p1) false,some (.tre (jg [])),vv (.int p0) false,vv (.tup [.int 0,.non]) false,none,none,none]=.ok (.nx [vv (qu qM (kK qN t)) false,vv (nT p0) false,vv (.int p1) false,some (.tre (jg (nU t p0 p1))),vv (.int p0) false,vv (.tup [.int 0,.non]) false,e6,e7,e8]):=by simp only[fV,b8,lc,fL,cT,ce,cU,dD,cV,LY,LP,Kr,K_,Ky,KO,List.replicate,K1,K7,KM,Nat.reduceAdd,LQ,LR,LS,Lp,Nat.reduceSub,gE,gJ,kT,gR,gK,gL,gM,gO,cY,cZ,aV,cG,bM,bN,aW,aS,aU,aG,b7,fA,cH,cI,bV,cb,ba,aQ,vp,fX,KP,KQ,gU,gW,gS,dQ,Int.reduceLT,Int.reduceLE,Int.reduceNeg,dL,dM,dN,dP,kM,kN,K8,K9,Nat.reduceLT,Nat.reduceLeDiff,kR,gF,gG,gH,gI,dJ,kU,kW,kX,kY,gX,cn,cp,cq,cr,dR,cu,cv,bC,iE,dS,gY,dU,bD,aY,bE,aZ,dW,cw,bF,bG,bh,bH,br,a_,kZ,gZ,dX,dY,dZ,cx,cy,k7,k8,d7,d8,d9,cz,d_,g8,eh,er,g9,g_,eB,cA,cB,eF,eG,k9,hI,hJ,hV,jo,eI,eJ,eL,eM,qT,vq,vw,vx,cC,eQ,eR,cD,cE,k_,hZ,eU,eV,h7,eY,eZ,e_,ff,fg,h8,fj,dj,bI,bJ,cF,bK,bL,h_,fq,cL,fE,cM,fF,cN,cO,cP,cQ,ig,cK,Res.noX_ok,ii,fD,ij,io,vA,vD,vE,vF,vG,Int.reduceBEq,ie,LU,Nat.reduceEqDiff,f7,ic,fw,fy,bx,cc,cJ,bO,bP,bQ,bR,bS,bT,LK,Le,Lw,K3,Lo,LB,Lx,fB,fC,de,ck,lb,dC,ax,fH,fG,cS,fJ,fK,gd,ax,bc,b_,hg];exact lo
 have hl:gb (gT 2 (aF (gN 4) (aF (gN 5) dE))) false b_ [.tup [.int p0,.tup [.int 0,.non]]] [vv (qu qM (kK qN t)) false,vv (nT p0) false,vv (.int p1) false,some (.tre (jg [])),none,none,none,none,none]=.ok (.nx [vv (qu qM (kK qN t)) false,vv (nT p0) false,vv (.int p1) false,some (.tre (jg (nU t p0 p1))),vv (.int p0) false,vv (.tup [.int 0,.non]) false,e6,e7,e8]):=by show(b_ [vv (qu qM (kK qN t)) false,vv (nT p0) false,vv (.int p1) false,some (.tre (jg [])),vv (.int p0) false,vv (.tup [.int 0,.non]) false,none,none,none]).bind _=_;rw[hb];rfl
 have ha:jg []=.dic [] []:=rfl;rw[ha]at hl;refine⟨_,?_,.inr rfl⟩;simp_arith[iP,mJ,mU,hF,dD,hk,hl,vH,fO]
theorem EI {p0:Int}{f g:Bool}{al bl:List Nat}:oe (.val (.int p0) f al) (.val (.tup [.int 0,.non]) g bl)=.ok (.fre (nT p0)):=(rfl)
theorem mX (p0:Int):(nT p0).flat=false:=ax _ _
theorem CD {t:Pz.TD}{p0 p1:Int}(nd:(t.map (·.1)).Nodup)(ht:t.length<=1000):iQ [dc t,.tup [.int p0,.lst [.int p1]]]=.ok (.val (.lst [nT p0,jg (nU t p0 p1)]) true [3]):=by
 have hp:jw [dc t]=.ok (.fre (qu qM (kK qN t))):=GK (by lia);obtain⟨r,ha,hr⟩:=CC (p0:=p0) (p1:=p1) nd ht;have hc:∀ rs,iC rs r=.fre (jg (nU t p0 p1)):=λrs=>by
  rcases hr with rfl|rfl
  .show z3 _ true rs=_;unfold z3;rw[fO];rfl
  .exact bh rs (fO _)
 have f1:D.flats [nT p0]=false:=xg (mX _);have hb:∀ e1,fN [vv (dc t) false,e1,vv (qu qM (kK qN t)) true,ow [nT p0] true,vv (.int p1) false]=.ok (.nx [vv (dc t) false,e1,vv (qu qM (kK qN t)) true,ow [nT p0,jg (nU t p0 p1)] true,vv (.int p1) false]):=λe1=>by
  have hx:CJ true [] (atI [nT p0] (-1))=.ok (.val (nT p0) true []):=by show Res.ok (mkV (nT p0) true [])=_;rw[cZ (mX _)]
  simp_arith[fN,mU,mX,f1,hx,ha,hc,fO];rfl
 have hl:∀ e1,gb (gN 4) false fN [.int p1] [vv (dc t) false,e1,vv (qu qM (kK qN t)) true,ow [nT p0] true,none]=.ok (.nx [vv (dc t) false,e1,vv (qu qM (kK qN t)) true,ow [nT p0,jg (nU t p0 p1)] true,vv (.int p1) false]):=λe1=>by show(fN [vv (dc t) false,e1,vv (qu qM (kK qN t)) true,ow [nT p0] true,vv (.int p1) false]).bind _=_;rw[hb];rfl
 simp_arith[iQ,mL,hp,jf,mU,EI,mX,f1,hl,fO]
theorem G9 {l:FL}{ro p2:Int}:gh [Mc ro [] [p2],jg l]=.ok (.val (match l.find? (λx=>decide (x.1.2.2=p2)) with|some x=>.tup [.int (0+x.2),.int p2]|none=>.non) true []):=by
 have hM:aX 0 (vC (.int 2)) [vv (Mc ro [] [p2]) false,vv (jg l) false]=.ok (.val (.lst [.int p2]) false []):=by unfold Mc;simp_arith
 have hin:Em false (.int p2) (jg l)=.ok (.val (.bl (l.find? (λx=>decide (x.1.2.2=p2))).isSome) true []):=by rw[<- CB];exact Ku (t7 p2 l)
 have hT:bj [vv (.int p2) false,vv (jg l) false]=.ok (l.find? (λx=>decide (x.1.2.2=p2))).isSome:=by simp_arith[bj,fO,hin]
 have hk:∀ full:List R,gc (λd=>gN 0 d false (i7 [vv (Mc ro [] [p2]) false,vv (jg l) false] 1 [1])) bj bm [.int p2]=.ok full->iD 1 [1] (j9 (aX 0 (vC (.int 2)))) (gN 0) bj bm [vv (Mc ro [] [p2]) false,vv (jg l) false]=.ok (mj (full.map R.d) (bX full) []):=λfull h=>by rw[Cc hM];exact oY (by simp) h
 have hc:∀ r,bm [vv (.int p2) false,vv (jg l) false]=.ok r->(l.find? (λx=>decide (x.1.2.2=p2))).isSome=true->gc (λd=>gN 0 d false (i7 [vv (Mc ro [] [p2]) false,vv (jg l) false] 1 [1])) bj bm [.int p2]=.ok [r]:=λr h h2=>by show(bj [vv (.int p2) false,vv (jg l) false]).bind _=_;rw[hT,fX,h2];show(bm [vv (.int p2) false,vv (jg l) false]).bind _=_;rw[h];rfl
 have hn:(l.find? (λx=>decide (x.1.2.2=p2))).isSome=false->gc (λd=>gN 0 d false (i7 [vv (Mc ro [] [p2]) false,vv (jg l) false] 1 [1])) bj bm [.int p2]=.ok []:=λh2=>by show(bj [vv (.int p2) false,vv (jg l) false]).bind _=_;rw[hT,fX,h2];rfl
 cases hf:l.find? (λx=>decide (x.1.2.2=p2)) with
 |none=>have h1:=hk _ (hn (by rw[hf];rfl));simp only[fV,b8,lc,fL,cT,ce,cU,dD,cV,LY,LP,Kr,K_,Ky,KO,List.replicate,K1,K7,KM,Nat.reduceAdd,LQ,LR,LS,Lp,Nat.reduceSub,gE,gJ,kT,gR,gK,gL,gM,gO,cY,cZ,aV,cG,bM,bN,aW,aS,aU,aG,b7,fA,cH,cI,bV,cb,ba,aQ,vp,fX,KP,KQ,gU,gW,gS,dQ,Int.reduceLT,Int.reduceLE,Int.reduceNeg,dL,dM,dN,dP,kM,kN,K8,K9,Nat.reduceLT,Nat.reduceLeDiff,kR,gF,gG,gH,gI,dJ,kU,kW,kX,kY,gX,cn,cp,cq,cr,dR,cu,cv,bC,iE,dS,gY,dU,bD,aY,bE,aZ,dW,cw,bF,bG,bh,bH,br,a_,kZ,gZ,dX,dY,dZ,cx,cy,k7,k8,d7,d8,d9,cz,d_,g8,eh,er,g9,g_,eB,cA,cB,eF,eG,k9,hI,hJ,hV,jo,eI,eJ,eL,eM,qT,vq,vw,vx,cC,eQ,eR,cD,cE,k_,hZ,eU,eV,h7,eY,eZ,e_,ff,fg,h8,fj,dj,bI,bJ,cF,bK,bL,h_,fq,cL,fE,cM,fF,cN,cO,cP,cQ,ig,cK,Res.noX_ok,ii,fD,ij,io,vA,vD,vE,vF,vG,Int.reduceBEq,ie,LU,Nat.reduceEqDiff,ic,fw,fy,bx,cc,cJ,bO,bP,bQ,bR,bS,bT,LK,Le,Lw,K3,Lo,LB,Lx,fB,fC,de,ck,lb,dC,ax,fH,fG,cS,fJ,fK,fI,gd,ax,bc,gh,jY,Cg,o6,fO,h1];rfl
 |some x=>
  have hE:bm [vv (.int p2) false,vv (jg l) false]=.ok (.val (.tup [.int (0+x.2),.int p2]) true []):=by
   have hg:rW (.val (jg l) false []) (.val (.int p2) true [])=.ok (.val (.tup [.int (0+x.2),bn x.1]) true []):=by rw[GU (ra:=.val (jg l) false []) (rk:=.val (.int p2) true []) (x:=ik p2) rfl rfl (t7 p2 l) (by rw[xn,hf];rfl),cY (by simp_arith[gr])]
   simp_arith[bm,fO,hg,gr]
  have h1:=hk _ (hc _ hE (by rw[hf];rfl));simp only[fV,b8,lc,fL,cT,ce,cU,dD,cV,LY,LP,Kr,K_,Ky,KO,List.replicate,K1,K7,KM,Nat.reduceAdd,LQ,LR,LS,Lp,Nat.reduceSub,gE,gJ,kT,gR,gK,gL,gM,gO,cY,cZ,aV,cG,bM,bN,aW,aS,aU,aG,b7,fA,cH,cI,bV,cb,ba,aQ,vp,fX,KP,KQ,gU,gW,gS,dQ,Int.reduceLT,Int.reduceLE,Int.reduceNeg,dL,dM,dN,dP,kM,kN,K8,K9,Nat.reduceLT,Nat.reduceLeDiff,kR,gF,gG,gH,gI,dJ,kU,kW,kX,kY,gX,cn,cp,cq,cr,dR,cu,cv,bC,iE,dS,gY,dU,bD,aY,bE,aZ,dW,cw,bF,bG,bh,bH,br,a_,kZ,gZ,dX,dY,dZ,cx,cy,k7,k8,d7,d8,d9,cz,d_,g8,eh,er,g9,g_,eB,cA,cB,eF,eG,k9,hI,hJ,hV,jo,eI,eJ,eL,eM,qT,vq,vw,vx,cC,eQ,eR,cD,cE,k_,hZ,eU,eV,h7,eY,eZ,e_,ff,fg,h8,fj,dj,bI,bJ,cF,bK,bL,h_,fq,cL,fE,cM,fF,cN,cO,cP,cQ,ig,cK,Res.noX_ok,ii,fD,ij,io,vA,vD,vE,vF,vG,Int.reduceBEq,ie,LU,Nat.reduceEqDiff,ic,fw,fy,bx,cc,cJ,bO,bP,bQ,bR,bS,bT,LK,Le,Lw,K3,Lo,LB,Lx,fB,fC,de,ck,lb,dC,ax,fH,fG,cS,fJ,fK,fI,gd,ax,bc,gh,jY,Cg,o6,fO,h1];rfl
end W
namespace L3
open PySem L2
theorem Fs (fc:En->Res Bool)(fa fb:En->Res R)(env:En):JO fc fa fb env=(fc env).bind λb=>if b then fa env else fb env:=(rfl)
end L3
namespace W
open PySem L2 L3 L4
theorem EJ {t:Pz.TD}{p0 p1 p2:Int}(nd:(t.map (·.1)).Nodup):((nU t p0 p1).find? λx=>decide (x.1.2.2=p2)).map (·.2)=fget (oG t) (p0,p1,p2):=by
 cases h:(nU t p0 p1).find? λx=>decide (x.1.2.2=p2) with
 |some x=>have h2:decide (x.1.2.2=p2)=true:=List.find?_some (p:=λx:Pz.Arr×Int=>decide (x.1.2.2=p2)) h;have h2:=KU h2;obtain⟨e0,e1,e2⟩:=xo nd (Nl h);rw[<- e0,<- e1,<- h2];exact e2.symm
 |none=>
  rw[ll];cases hg:Pz.tget t (p0,p1,p2) with
  |none=>rfl
  |some v=>exact absurd (Kz rfl) (NG.mp h _ (Jj hg))
theorem CF {ro sg:Int}{RL:List Pz.Rule}{t:Pz.TD}{p0 p1 p2:Int}(hp:iq [Hs ro sg RL,Mc ro [] [p2]]=.ok (.fre (dc t)))(nd:(t.map (·.1)).Nodup)(ht:t.length<=1000) :
 mM [Hs ro sg RL,Mc ro [] [p2],.tup [.int p0,.lst [.int p1]]]=.ok (.val (oD (fget (oG t) (p0,p1,p2))) true []):=by
 have hs:(D.tup [D.int p0,D.lst [D.int p1]]).flat=false:=rfl;have ha:=CD (p0:=p0) (p1:=p1) nd ht;have hl:=G9 (l:=nU t p0 p1) (ro:=ro) (p2:=p2);have hF:=mS ro sg RL;have hM:=o6 ro [] [p2];have hx:∀ f al,CJ f al (atI [nT p0,jg (nU t p0 p1)] (-1))=.ok (.val (jg (nU t p0 p1)) f al):=λf al=>by show Res.ok (mkV (jg (nU t p0 p1)) f al)=_;rw[cZ (fO _)]
 have hll:(D.lst [nT p0,jg (nU t p0 p1)]).flat=false:=aS _;rw[<- EJ nd];cases hf:(nU t p0 p1).find? λx=>decide (x.1.2.2=p2) with
 |none=>rw[hf]at hl;simp_arith[mM,tW,hF,hM,hs,hp,ha,hll,hx,hl,jf,Fs];rfl
 |some x=>rw[hf]at hl;simp_arith[mM,tW,hF,hM,hs,hp,ha,hll,hx,hl,jf,Fs,oD,Int.zero_add];rfl
theorem zY {R':R}{ds:List D}{rs:List R}(hf:D.flats ds=true)(h:R'=.new ds true\/∃ al,R'=.val (.lst ds) true al):vy (iC rs R')=.ok ⟨ds,true,[]⟩:=by
 rcases h with rfl|⟨al,rfl⟩
 .rw[br rs hf];rfl
 .rw[bh rs (aS _)];rfl
theorem CG {ns:List Int}{ro sg k:Int}{e1:Option Sl}(hn:ns.length<=63)(h1:0<ro)(h3:0<sg):∃ RL:List Pz.Rule,(∀ r∈RL,RR ro sg r)/\RL.length<=63/\∀ e4 e5 e6 e7 e8 e9 e10 e11 e12 e13,iD 1 [2] (j9 (nB (ao 0) (mq (vC (.int 2))) (mq (v2 jq (vC (.int 2)) (ao 3))))) (gN 0) (λ_=>.ok true) o0 [vv (.lst (ns.map .int)) false,e1,vv (.tup [.int ro,.int sg,.lst []]) true,vv (.int k) true,e4,e5,e6,e7,e8,e9,e10,e11,e12,e13]=.ok (.new (RL.map aJ) true):=by
 have hl:=vJ ns (some 2) (some (2+k));refine⟨(iN ns (some 2) (some (2+k))).map λc=>mkQ c ro sg,λr hr=>?_,by rw[Kw];lia,λe4 e5 e6 e7 e8 e9 e10 e11 e12 e13=>?_⟩
 .obtain⟨c,_,rfl⟩:=KH.mp hr;exact G4 c ro sg h1 h3
 .have hfi:D.flats (ns.map D.int)=true:=b9 _;have hf2:D.flats ((iN ns (some 2) (some (2+k))).map D.int)=true:=b9 _;have hS:j9 (nB (ao 0) (mq (vC (.int 2))) (mq (v2 jq (vC (.int 2)) (ao 3)))) [vv (.lst (ns.map .int)) false,e1,vv (.tup [.int ro,.int sg,.lst []]) true,vv (.int k) true,e4,e5,e6,e7,e8,e9,e10,e11,e12,e13]=.ok ⟨(iN ns (some 2) (some (2+k))).map D.int,true,[]⟩:=by simp_arith[vI,hfi,hf2]
  have h:=jJ (mk:=λd=>gN 0 d true (i7 [vv (.lst (ns.map .int)) false,e1,vv (.tup [.int ro,.int sg,.lst []]) true,vv (.int k) true,e4,e5,e6,e7,e8,e9,e10,e11,e12,e13] 1 [2])) (test:=λ_=>.ok true) (elt:=o0) D.int (λc=>.val (aJ (mkQ c ro sg)) true []) (iN ns (some 2) (some (2+k))) λc _=>⟨[vv (.int c) true,vv (.tup [.int ro,.int sg,.lst []]) true],rfl,rfl,by have hr:=Ez c ro sg h1 h3;simp_arith[o0,hr,j3]⟩;rw[f7,hS,fX,oY (by rw[Kw];lia) h,vL,qz,de (du _ _ λc=>j3 _),KZ];rfl
theorem G_ {l oR:FL}{r:Pz.Rule}{seen:FL}{ro:Int}{g:Bool}{e0 e1 e2 e3 e4 e5 e6 e9 e10 e11 e12 e13:Option Sl}(hd:Due seen oR)(hs:seen.length+(iB l ro r).length<1000000) :
 ∃ due' e9' e10' e11',Due (seen++iB l ro r) due'/\gb (gT 2 (aF (gN 9) (aF (gN 10) dE))) true mN ((oJ l ro r).map oH) [e0,e1,e2,e3,e4,e5,e6,some (.tre (aT oR)),vv (aJ r) g,e9,e10,e11,e12,e13]=.ok (.nx [e0,e1,e2,e3,e4,e5,e6,some (.tre (aT due')),vv (aJ r) g,e9',e10',e11',e12,e13]):=by
 obtain⟨bf,h1,due',hD,e9',e10',e11',rfl⟩:=mE oH (asg:=gT 2 (aF (gN 9) (aF (gN 10) dE))) (fr:=true) (body:=mN) (oJ l ro r) (λpre env=>∃ due',Due (seen++pre.map λq=>((r.1,r.2.1,q.1),q.2)) due'/\∃ e9' e10' e11',env=[e0,e1,e2,e3,e4,e5,e6,some (.tre (aT due')),vv (aJ r) g,e9',e10',e11',e12,e13]) (oJ l ro r) [] [e0,e1,e2,e3,e4,e5,e6,some (.tre (aT oR)),vv (aJ r) g,e9,e10,e11,e12,e13] rfl ⟨oR,by rw[K_,KM];exact hd,e9,e10,e11,rfl⟩ (by
  rintro pre post q env hall ⟨d',hD,q9,q10,q11,rfl⟩;have hl:d'.length<1000000:=by have h1:=hD.len;have h2:=LA List.length hall;unfold iB at hs;rw[KI,Kw]at h1;rw[KI,Ky]at h2;rw[Kw]at hs;lia
  refine⟨[e0,e1,e2,e3,e4,e5,e6,some (.tre (aT d')),vv (aJ r) g,vv (.int q.1) true,vv (.int q.2) true,q11,e12,e13],_,rfl,EH hl,_,?_,_,_,_,rfl⟩;rw[K6,<- Mb];exact hD.step ((r.1,r.2.1,q.1),q.2))
 exact⟨due',e9',e10',e11',hD,h1⟩
theorem CH (l:FL){ro:Int}(h:0<=ro/\ro<=8)(r:Pz.Rule):(oJ l ro r).length<=64:=by
 obtain⟨r0,r1,r2,put⟩:=r;rcases put with _|⟨x,ys⟩
 .exact(by decide:1<=64)
 .have:=t6 (fZ l ro r2 x ys) 8 (λm=>sC l h.2 _ _ _ m) (List.range ro.toNat);rw[Nh]at this;show((List.range ro.toNat).flatMap (fZ l ro r2 x ys)).length<=64;lia
theorem EK {l:FL}{ro sg:Int}{RL:List Pz.Rule}{e0 e1 e3 e4 e5:Option Sl}(hr:0<=ro/\ro<=8)(hl:RL.length<=63) :
 ∃ oR e8 e9 e10 e11,Due (RL.flatMap (iB l ro)) oR/\gb (gN 8) true o5 (RL.map aJ) [e0,e1,vv (Hs ro sg RL) true,e3,e4,e5,vv (aT l) true,some (.tre (aT [])),none,none,none,none,none,none]=.ok (.nx [e0,e1,vv (Hs ro sg RL) true,e3,e4,e5,vv (aT l) true,some (.tre (aT oR)),e8,e9,e10,e11,none,none]):=by
 obtain⟨bf,h1,due',hD,e8',e9',e10',e11',rfl⟩:=mE aJ (asg:=gN 8) (fr:=true) (body:=o5) RL (λpre env=>∃ due',Due (pre.flatMap (iB l ro)) due'/\∃ e8' e9' e10' e11',env=[e0,e1,vv (Hs ro sg RL) true,e3,e4,e5,vv (aT l) true,some (.tre (aT due')),e8',e9',e10',e11',none,none]) RL [] [e0,e1,vv (Hs ro sg RL) true,e3,e4,e5,vv (aT l) true,some (.tre (aT [])),none,none,none,none,none,none] rfl ⟨[],Due.nil,none,none,none,none,rfl⟩ (by
  rintro pre post r env hall ⟨d',hD,q8,q9,q10,q11,rfl⟩;have ol:∀ r,(iB l ro r).length<=64:=λr=>by unfold iB;rw[Kw];exact CH l hr r
  have hle:(pre.flatMap (iB l ro)).length+(iB l ro r).length<1000000:=by have h2:=LA List.length hall;rw[KI,Ky]at h2;have h3:=t6 (iB l ro) 64 ol pre;have h4:=ol r;lia
  obtain⟨R',hb,hR⟩:=ED (l:=l) (ro:=ro) (r:=r) hr;obtain⟨d2,x9,x10,x11,hD2,hi⟩:=G_ (l:=l) (r:=r) (ro:=ro) (g:=true) (e0:=e0) (e1:=e1) (e2:=vv (Hs ro sg RL) true) (e3:=e3) (e4:=e4) (e5:=e5) (e6:=vv (aT l) true) (e9:=q9) (e10:=q10) (e11:=q11) (e12:=none) (e13:=none) hD hle;refine⟨[e0,e1,vv (Hs ro sg RL) true,e3,e4,e5,vv (aT l) true,some (.tre (aT d')),vv (aJ r) true,q9,q10,q11,none,none],[e0,e1,vv (Hs ro sg RL) true,e3,e4,e5,vv (aT l) true,some (.tre (aT d2)),vv (aJ r) true,x9,x10,x11,none,none],rfl,?_,d2,?_,_,_,_,_,rfl⟩
  .have hs:∀ rs,vy (iC rs R')=_:=λrs=>zY (du _ _ EB) hR;have hH:∀ e0 e1 e3 e4 e5 e6 e7 e8 e9 e10 e11 e12 e13:Option Sl,aX 2 (vC (.int 0)) [e0,e1,vv (Hs ro sg RL) true,e3,e4,e5,e6,e7,e8,e9,e10,e11,e12,e13]=.ok (.val (.int ro) true []):=λ_ _ _ _ _ _ _ _ _ _ _ _ _=>by unfold Hs;simp_arith
   simp only[fV,b8,lc,fL,cT,ce,cU,dD,cV,LY,LP,Kr,K_,Ky,KO,List.replicate,K1,K7,KM,Nat.reduceAdd,LQ,LR,LS,Lp,Nat.reduceSub,gE,gJ,kT,gR,gK,gL,gM,gO,cY,cZ,aV,cG,bM,bN,aW,aS,aU,aG,b7,fA,cH,cI,bV,cb,ba,aQ,vp,fX,KP,KQ,gU,gW,gS,dQ,Int.reduceLT,Int.reduceLE,Int.reduceNeg,dL,dM,dN,dP,kM,kN,K8,K9,Nat.reduceLT,Nat.reduceLeDiff,kR,gF,gG,gH,gI,dJ,kU,kW,kX,kY,gX,cn,cp,cq,cr,dR,cu,cv,bC,iE,dS,gY,dU,bD,aY,bE,aZ,dW,cw,bF,bG,bh,bH,br,a_,kZ,gZ,dX,dY,dZ,cx,cy,k7,k8,d7,d8,d9,cz,d_,g8,eh,er,g9,g_,eB,cA,cB,eF,eG,k9,hI,hJ,hV,eI,eJ,eL,eM,qT,vq,vw,vx,cC,eQ,eR,cD,cE,k_,hZ,eU,eV,h7,eY,eZ,e_,ff,fg,h8,fj,dj,bI,bJ,cF,bK,bL,h_,fq,cL,fE,cM,fF,cN,cO,cP,cQ,ig,cK,Res.noX_ok,ii,fD,ij,io,vA,vD,vE,vF,vG,Int.reduceBEq,ie,LU,Nat.reduceEqDiff,f7,ic,fw,fy,bx,cc,cJ,bO,bP,bQ,bR,bS,bT,LK,Le,Lw,K3,Lo,LB,Lx,fB,fC,de,ck,lb,dC,ax,fH,fG,cS,fJ,fK,fI,gd,ax,bc,o5,dg,hH,j3,hb,hs,hi]
  .rw[Nr,L_,List.flatMap_nil,KM];exact hD2)
 exact⟨due',e8',e9',e10',e11',hD,h1⟩
theorem EL {ns:List Int}{ro sg:Int}{RL:List Pz.Rule}{t:Pz.TD}{e1 e3:Option Sl}(hb:0<ro/\ro<=8/\0<sg/\sg<=5)(hr:∀ r∈RL,RR ro sg r)(hl:RL.length<=63)(G:Pz.Good RL [] (lV ro sg ro) t)(ht:t.length<=128)
 (hp:∀ es:List Int,(∀ e∈es,0<=e/\e<ro)->es.length<=6->iq [Hs ro sg RL,Mc ro [] es]=.ok (.fre (dc t))) :
 mP [vv (.lst (ns.map .int)) false,e1,vv (Hs ro sg RL) true,e3,vv (.lst (RL.map aJ)) true,vv (Hs ro sg RL) true,vv (aT (oG t)) true,none,none,none,none,none,none,none]=.ok (.rt (.val (.bl true) true [])):=by
 obtain⟨oR,e8,e9,e10,e11,hD,hF⟩:=EK (l:=oG t) (ro:=ro) (sg:=sg) (RL:=RL) (e0:=vv (.lst (ns.map .int)) false) (e1:=e1) (e3:=e3) (e4:=vv (.lst (RL.map aJ)) true) (e5:=vv (Hs ro sg RL) true) ⟨by lia,hb.2.1⟩ hl;have hdue:=G5 G (λr h=>(hr r h).p) hD;have hs:=yA ns 1 (by decide);have hfi:D.flats (ns.map D.int)=true:=b9 _;have h0:aT []=.dic [] []:=rfl;rw[h0]at hF;have hHf:=mS ro sg RL;generalize sd ns 1=a at hs;have e840:0<=a % 840 % ro/\a % 840 % ro<ro:=⟨Int.emod_nonneg _ (by lia),Oa _ hb.1⟩;have hp2:0<=a / 50400 % ro/\a / 50400 % ro<ro:=⟨Int.emod_nonneg _ (by lia),Oa _ hb.1⟩;have hle:=CF (p0:=a % 840 % ro) (p1:=a / 840 % 60 % sg) (hp [a / 50400 % ro] (λe he=>by rw[KJ.mp he];exact hp2) (by simp)) G.nd (by lia);have hM:Mc ro [] [a / 50400 % ro]=.tup [.int ro,.lst [],.lst [.int (a / 50400 % ro)]]:=rfl;rw[hM]at hle;have i0:∀ e0 e1 e3 e4 e5 e6 e7 e8 e9 e10 e11 e12 e13:Option Sl,aX 2 (vC (.int 0)) [e0,e1,vv (Hs ro sg RL) true,e3,e4,e5,e6,e7,e8,e9,e10,e11,e12,e13]=.ok (.val (.int ro) true []):=λ_ _ _ _ _ _ _ _ _ _ _ _ _=>by unfold Hs;simp_arith
 have i1:∀ e0 e1 e3 e4 e5 e6 e7 e8 e9 e10 e11 e12 e13:Option Sl,aX 2 (vC (.int 1)) [e0,e1,vv (Hs ro sg RL) true,e3,e4,e5,e6,e7,e8,e9,e10,e11,e12,e13]=.ok (.val (.int sg) true []):=λ_ _ _ _ _ _ _ _ _ _ _ _ _=>by unfold Hs;simp_arith
 have j0:∀(e0 e1 e2 e3 e4 e5 e6 e7 e8 e9 e10 e12 e13:Option Sl)(x y z:Int),aX 11 (vC (.int 0)) [e0,e1,e2,e3,e4,e5,e6,e7,e8,e9,e10,vv (.tup [.int x,.int y,.int z]) true,e12,e13]=.ok (.val (.int x) true []):=λ_ _ _ _ _ _ _ _ _ _ _ _ _ _ _ _=>by simp_arith
 have j1:∀(e0 e1 e2 e3 e4 e5 e6 e7 e8 e9 e10 e12 e13:Option Sl)(x y z:Int),aX 11 (vC (.int 1)) [e0,e1,e2,e3,e4,e5,e6,e7,e8,e9,e10,vv (.tup [.int x,.int y,.int z]) true,e12,e13]=.ok (.val (.int y) true []):=λ_ _ _ _ _ _ _ _ _ _ _ _ _ _ _ _=>by simp_arith
 have j2:∀(e0 e1 e2 e3 e4 e5 e6 e7 e8 e9 e10 e12 e13:Option Sl)(x y z:Int),aX 11 (vC (.int 2)) [e0,e1,e2,e3,e4,e5,e6,e7,e8,e9,e10,vv (.tup [.int x,.int y,.int z]) true,e12,e13]=.ok (.val (.int z) true []):=λ_ _ _ _ _ _ _ _ _ _ _ _ _ _ _ _=>by simp_arith
 have hg:∀ e8 e9 e10 e12 e13,mD (ao 7) (ao 11) [vv (.lst (ns.map .int)) false,e1,vv (Hs ro sg RL) true,e3,vv (.lst (RL.map aJ)) true,vv (Hs ro sg RL) true,vv (aT (oG t)) true,some (.tre (aT oR)),e8,e9,e10,vv (.tup [.int (a % 840 % ro),.int (a / 840 % 60 % sg),.int (a / 50400 % ro)]) true,e12,e13]=.ok (.val (oD (fget (oG t) (a % 840 % ro,a / 840 % 60 % sg,a / 50400 % ro))) true []):=λe8 e9 e10 e12 e13=>by rw[<- hdue];exact qL (f:=true) (al:=[7]) (r:=.val (.tup [.int (a % 840 % ro),.int (a / 840 % 60 % sg),.int (a / 50400 % ro)]) true []) (by simp_arith[dg]) (by simp_arith) rfl
 have hq:zN (.val (aT oR) true [7]) (.val (aT (oG t)) true [])=.ok (.val (.bl true) true []):=G6 rfl rfl hD.nd (xj G.nd) hdue;have hb1:=hb.1;have hb3:=hb.2.2.1;have hst:(D.tup [D.int (a % 840 % ro),D.lst [D.int (a / 840 % 60 % sg)]]).flat=false:=rfl;have hmt:(D.tup [D.int ro,D.lst [],D.lst [D.int (a / 50400 % ro)]]).flat=false:=rfl;cases ho:fget (oG t) (a % 840 % ro,a / 840 % 60 % sg,a / 50400 % ro) with
 |none=>rw[ho]at hle hg;simp only[fV,b8,lc,fL,cT,ce,cU,dD,cV,LY,LP,Kr,K_,Ky,KO,List.replicate,K1,K7,KM,Nat.reduceAdd,LQ,LR,LS,Lp,Nat.reduceSub,gE,gJ,kT,gR,gK,gL,gM,gO,cY,cZ,aV,cG,bM,bN,aW,aS,aU,aG,b7,fA,cH,cI,bV,cb,ba,aQ,vp,fX,KP,KQ,gU,gW,gS,dQ,Int.reduceLT,Int.reduceLE,Int.reduceNeg,dL,dM,dN,dP,kM,kN,K8,K9,Nat.reduceLT,Nat.reduceLeDiff,kR,gF,gG,gH,gI,dJ,kU,kW,kX,kY,gX,cn,cp,cq,cr,dR,cu,cv,bC,iE,dS,gY,dU,bD,aY,bE,aZ,dW,cw,bF,bG,bh,bH,br,a_,kZ,gZ,dX,dY,dZ,cx,cy,k7,k8,d7,d8,d9,cz,d_,g8,eh,er,g9,g_,eB,cA,cB,eF,eG,k9,hI,hJ,hV,eI,eJ,eL,eM,qT,vq,vw,vx,cC,eQ,eR,cD,cE,k_,hZ,eU,eV,h7,eY,eZ,e_,ff,fg,h8,fj,dj,bI,bJ,cF,bK,bL,h_,fq,cL,fE,cM,fF,cN,cO,cP,cQ,ig,cK,Res.noX_ok,ii,fD,ij,io,vA,vD,vE,vF,vG,Int.reduceBEq,ie,LU,Nat.reduceEqDiff,f7,ic,fw,fy,bx,cc,cJ,bO,bP,bQ,bR,bS,bT,LK,Le,Lw,K3,Lo,LB,Lx,fB,fC,de,ck,lb,dC,ax,fH,fG,cS,fJ,fK,fI,gd,ax,bc,mP,hfi,qH,hF,qG,hs,qF,i0,i1,hb1,hb3,qE,hHf,j0,j1,j2,hst,hmt,hle,oD,qD,qC,hg,dg,hq,xc];rfl
 |some p=>rw[ho]at hle hg;simp only[fV,b8,lc,fL,cT,ce,cU,dD,cV,LY,LP,Kr,K_,Ky,KO,List.replicate,K1,K7,KM,Nat.reduceAdd,LQ,LR,LS,Lp,Nat.reduceSub,gE,gJ,kT,gR,gK,gL,gM,gO,cY,cZ,aV,cG,bM,bN,aW,aS,aU,aG,b7,fA,cH,cI,bV,cb,ba,aQ,vp,fX,KP,KQ,gU,gW,gS,dQ,Int.reduceLT,Int.reduceLE,Int.reduceNeg,dL,dM,dN,dP,kM,kN,K8,K9,Nat.reduceLT,Nat.reduceLeDiff,kR,gF,gG,gH,gI,dJ,kU,kW,kX,kY,gX,cn,cp,cq,cr,dR,cu,cv,bC,iE,dS,gY,dU,bD,aY,bE,aZ,dW,cw,bF,bG,bh,bH,br,a_,kZ,gZ,dX,dY,dZ,cx,cy,k7,k8,d7,d8,d9,cz,d_,g8,eh,er,g9,g_,eB,cA,cB,eF,eG,k9,hI,hJ,hV,eI,eJ,eL,eM,qT,vq,vw,vx,cC,eQ,eR,cD,cE,k_,hZ,eU,eV,h7,eY,eZ,e_,ff,fg,h8,fj,dj,bI,bJ,cF,bK,bL,h_,fq,cL,fE,cM,fF,cN,cO,cP,cQ,ig,cK,Res.noX_ok,ii,fD,ij,io,vA,vD,vE,vF,vG,Int.reduceBEq,ie,LU,Nat.reduceEqDiff,f7,ic,fw,fy,bx,cc,cJ,bO,bP,bQ,bR,bS,bT,LK,Le,Lw,K3,Lo,LB,Lx,fB,fC,de,ck,lb,dC,ax,fH,fG,cS,fJ,fK,fI,gd,ax,bc,mP,hfi,qH,hF,qG,hs,qF,i0,i1,hb1,hb3,qE,hHf,j0,j1,j2,hst,hmt,hle,oD,qD,nQ,qC,hg,dg,hq,xc,BEq.rfl]
theorem yD {ns:List Int}{ro sg:Int}{e1:Option Sl}(hn:ns.length<=63)(hb:0<ro/\ro<=8/\0<sg/\sg<=5)(hu:(lV ro sg ro).length<=128) :
 mQ [vv (.lst (ns.map .int)) false,e1,vv (.tup [.int ro,.int sg,.lst []]) true,none,none,none,none,none,none,none,none,none,none,none]=.ok (.rt (.val (.bl true) true [])):=by
 have hk:∃ k:Int,(0<=k/\k<=61)/\mQ [vv (.lst (ns.map .int)) false,e1,vv (.tup [.int ro,.int sg,.lst []]) true,none,none,none,none,none,none,none,none,none,none,none]=tX [vv (.lst (ns.map .int)) false,e1,vv (.tup [.int ro,.int sg,.lst []]) true,vv (.int k) true,none,none,none,none,none,none,none,none,none,none]:=by
  by_cases h:3<ro
  .refine⟨10,by decide,?_⟩;simp_arith[mQ,tY,Kz h]
  .refine⟨61,by decide,?_⟩;simp_arith[mQ,tY,KL h]
 obtain⟨k,hk,he⟩:=hk;obtain⟨RL,hr,hrl,hc⟩:=CG (ns:=ns) (e1:=e1) hn hb.1 hb.2.2.1 (k:=k);obtain⟨t,G,ht,hp⟩:=Ck hb.1 hb.2.2.1 hr (by lia) hu;have hpa:=Co (hp [] (λ_ h=>nomatch h) (by simp)) G.nd (by lia);have hfo:=zU (ro:=ro) (sg:=sg) (RL:=RL) (l:=oG t) (λx hx=>by obtain⟨y,hy,rfl⟩:=KH.mp hx;exact univ_mem.mp (G.u y.1 y.2 (Pz.qg G.nd hy)));have hrf:D.flats (RL.map aJ)=true:=du _ _ j3;have hHf:=mS ro sg RL;have hdd:CI "dict" (aT (oG t))=true:=rfl;have hpu:∀(e0 e1 e2 e3 e5 e6 e7 e8 e9 e10 e11 e12 e13:Option Sl)(ds:List D)(d:D),put [e0,e1,e2,e3,some (.own ds true),e5,e6,e7,e8,e9,e10,e11,e12,e13] 2 (.val d true [4])=[e0,e1,vv d true,e3,vv (.lst ds) true,e5,e6,e7,e8,e9,e10,e11,e12,e13]:=λ_ _ _ _ _ _ _ _ _ _ _ _ _ _ _=>rfl;rw[he];have h3:=λe1 e3=>EL (ns:=ns) (e1:=e1) (e3:=e3) hb hr hrl G ht hp;have hne:∀ f al g bl,Ga (.val (Hs ro sg RL) f al) (.val (Hs ro sg RL) g bl)=.ok (.val (.bl false) true []):=λf al g bl=>by have hd:=G2 ro sg RL;rw[IH (a:=.val (Hs ro sg RL) f al) (b:=.val (Hs ro sg RL) g bl) (by rw[bx];lia) (by rw[bx];lia),bx,bx,kq];rfl
 unfold Hs at *;simp only[fV,b8,lc,fL,cT,ce,cU,dD,cV,LY,LP,Kr,K_,Ky,KO,List.replicate,K1,K7,KM,Nat.reduceAdd,LQ,LR,LS,Lp,Nat.reduceSub,gE,gJ,kT,gR,gK,gL,gM,gO,cY,cZ,aV,cG,bM,bN,aW,aS,aU,aG,b7,fA,cH,cI,bV,cb,ba,aQ,vp,fX,KP,KQ,gU,gW,gS,dQ,Int.reduceLT,Int.reduceLE,Int.reduceNeg,dL,dM,dN,dP,kM,kN,K8,K9,Nat.reduceLT,Nat.reduceLeDiff,kR,gF,gG,gH,gI,dJ,kU,kW,kX,kY,gX,cn,cp,cq,cr,dR,cu,cv,bC,iE,dS,gY,dU,bD,aY,bE,aZ,dW,cw,bF,bG,bh,bH,br,a_,kZ,gZ,dX,dY,dZ,cx,cy,k7,k8,d7,d8,d9,cz,d_,g8,eh,er,g9,g_,eB,cA,cB,eF,eG,k9,hI,hJ,hV,jo,eI,eJ,eL,eM,qT,vq,vw,vx,cC,eQ,eR,cD,cE,k_,hZ,eU,eV,h7,eY,eZ,e_,ff,fg,h8,fj,dj,bI,bJ,cF,bK,bL,h_,fq,cL,fE,cM,fF,cN,cO,cP,cQ,ig,cK,Res.noX_ok,ii,fD,ij,io,vA,vD,vE,vF,vG,Int.reduceBEq,ie,LU,Nat.reduceEqDiff,ic,fw,fy,bx,cc,cJ,bO,bP,bQ,bR,bS,bT,LK,Le,Lw,K3,Lo,LB,Lx,fB,fC,de,ck,lb,dC,ax,fH,fG,cS,fJ,fK,fI,gd,ax,bc,tX,hc,hrf,yz,yy,yx,hHf,hpa,dg,vP,hdd,hfo,hpu,hne,h3]
theorem Hb (ns:List Int)(hl:ns.length<=63):sv [.lst (ns.map .int)]=.ok (.val (.bl true) true []):=by
 have hs:=yA ns 0 (Nt _);have h0:=Jh ns 0;have hfi:D.flats (ns.map D.int)=true:=b9 _;by_cases hc:sd ns 0 / 15 % 4=1
 .have hq:∀ f g al bl,AM (.val (.int (sd ns 0 / 15 % 4)) f al) (.val (.int 1) g bl)=.ok (.val (.bl true) true []):=λf g al bl=>by rw[hc];rfl
  have:=yD (ns:=ns) (ro:=1+sd ns 0 / 60 % 8) (sg:=1+sd ns 0 / 3 % 2) (e1:=vv (.int (sd ns 0)) true) hl (by lia) (by
   rw[vS];have a:(1+sd ns 0 / 60 % 8).toNat<=8:=by lia
   have b:(1+sd ns 0 / 3 % 2).toNat<=2:=by lia
   exact MJ a (MJ b a))
  simp_arith[sv,B6,hs,t0,tZ,hfi,hq,this]
 .have hq:∀ f g al bl,AM (.val (.int (sd ns 0 / 15 % 4)) f al) (.val (.int 1) g bl)=.ok (.val (.bl false) true []):=λf g al bl=>by rw[xc (a:=.val (.int (sd ns 0 / 15 % 4)) f al) (b:=.val (.int 1) g bl) (LF _) (LF _)];have:(sd ns 0 / 15 % 4==1)=false:=LI.mpr hc;exact LA (λb=>Res.ok (R.val (D.bl b) true [])) this
  have:=yD (ns:=ns) (ro:=1+sd ns 0 % 3) (sg:=1+sd ns 0 / 3 % 5) (e1:=vv (.int (sd ns 0)) true) hl (by lia) (by
   rw[vS];have a:(1+sd ns 0 % 3).toNat<=3:=by lia
   have b:(1+sd ns 0 / 3 % 5).toNat<=5:=by lia
   exact Ld (MJ a (MJ b a)) (by decide))
  simp_arith[sv,B6,hs,t0,tZ,hfi,hq,this]
end W
open PySem PySem.W PyProof.Rows
def PySem.W.Vw:PySem.Program:={PySem.Challenge.pw_callwalk_k23_pairs with main:={PySem.Challenge.pw_callwalk_k23_pairs.main with body:=PySem.Challenge.pw_callwalk_k23_pairs.main.body.filter fun s=>match s with|.FunctionDef ..=>true|.ClassDef ..=>true|_=>false}}
local macro_rules | `(tactic| o_head $H) => `(tactic| refine PySem.W.holds_open (q := PySem.W.Vw) (loose := []) (Xt := fun s => PySem.W.xlAt PySem.W.Vw [] s && PySem.W.recOk (PySem.W.RowW.records PySem.Challenge.rw_callwalk_k23_pairs.row.toRowW) s) (XP := PySem.W.XL PySem.W.Vw []) (Yf := PySem.W.Hook.obs $H) (Ya := PySem.W.Hook.val $H) (YP := PySem.W.Hook.says $H) (N := 3400) (fun w => by kernel_rfl) (PySem.W.Hook.of $H) (PySem.W.Hook.keeps $H) (fun s e => PySem.W.xl_of s (Bool.and_eq_true_iff.mp e).1) PySem.W.XL.keeps (by rfl) (by rfl) (by rfl) (fun s e => PySem.W.recFacts_of (Bool.and_eq_true_iff.mp e).2) (by rfl) (by first | assumption | decide +kernel) (by decide +kernel) ⟨rfl, rfl, rfl, rfl, rfl, by decide +kernel⟩ ?_ ?_)
set_option maxRecDepth 100000 in
set_option maxHeartbeats 0 in
theorem PySem.Challenge.cw_callwalk_k23_pairs_holds : PySem.Challenge.rw_callwalk_k23_pairs.Holds := by
 w_on;o_law;k_head;(· w_witness2)
 k_fill
 refine L2.AE (l:=PySem.Challenge.rw_callwalk_k23_pairs) (n:=63) (k:=8) (x:="_law_script") (CX:=fun w=>L2.lA) (sp:=fun _=>L3.Jr W.sv) rfl (by decide) rfl ⟨rfl,by decide,by decide⟩ (fun w h Y=>PySem.W.kIn_of Y) ?kL ?F ?S ?C
 case kL=>exact fun w=>⟨by rfl,by rfl⟩
 case F=>
  intro w mg fa h KX G hmg
  refine' Exists.imp (fun _ z=>⟨z.1,fun base _ _=>z.2 base⟩) (W.GX hmg ?_)
  refine' Exists.imp (fun _ _=>True.intro) (W.Jg KX G L2.yY ?a_a ?l_a ?c_a ?a_b ?l_b ?c_b ?a_c ?l_c ?c_c ?a_d ?l_d ?c_d ?a_e ?l_e ?c_e ?a_f ?l_f ?c_f ?a_g ?l_g ?c_g ?a_h ?l_h ?c_h ?a_i ?l_i ?c_i ?a_j ?l_j ?c_j ?a_k ?l_k ?c_k ?a_l ?l_l ?c_l ?a_m ?l_m ?c_m ?a_n ?l_n ?c_n ?a_o ?l_o ?c_o ?a_p ?l_p ?c_p ?z_all ?z_bool ?z_dict ?z_divmod ?z_enumerate ?z_int ?z_isinstance ?z_len ?z_list ?z_min ?z_range ?z_tuple ?b_Queue ?pgQ ?hdQ ?poQ ?saQ ?mkQ ?kcQ ?naQ_last ?naQ_piles ?b_Pricing ?pgP ?hdP ?poP ?saP ?mkP ?kcP ?naP_rules ?naP_told ?naP_offers ?naP_settled ?naP_lacking ?aM_QI ?iM_QI ?l_q ?c_q ?kp_QI ?aM_QA ?iM_QA ?l_r ?c_r ?kp_QA ?aM_QE ?iM_QE ?l_s ?c_s ?kp_QE ?aM_QT ?iM_QT ?l_t ?c_t ?kp_QT ?aM_PI ?iM_PI ?l_u ?c_u ?kp_PI ?aM_PO ?iM_PO ?l_v ?c_v ?kp_PO ?aM_PS ?iM_PS ?l_w ?c_w ?kp_PS ?aM_PF ?iM_PF ?l_x ?c_x ?kp_PF ?aM_PA ?iM_PA ?l_y ?c_y ?kp_PA)
  (case a_a=>k_is)
  (case l_a=>k_is)
  (case c_a=>k_is)
  (case a_b=>k_is)
  (case l_b=>k_is)
  (case c_b=>k_is)
  (case a_c=>k_is)
  (case l_c=>k_is)
  (case c_c=>k_is)
  (case a_d=>k_is)
  (case l_d=>k_is)
  (case c_d=>k_is)
  (case a_e=>k_is)
  (case l_e=>k_is)
  (case c_e=>k_is)
  (case a_f=>k_is)
  (case l_f=>k_is)
  (case c_f=>k_is)
  (case a_g=>k_is)
  (case l_g=>k_is)
  (case c_g=>k_is)
  (case a_h=>k_is)
  (case l_h=>k_is)
  (case c_h=>k_is)
  (case a_i=>k_is)
  (case l_i=>k_is)
  (case c_i=>k_is)
  (case a_j=>k_is)
  (case l_j=>k_is)
  (case c_j=>k_is)
  (case a_k=>k_is)
  (case l_k=>k_is)
  (case c_k=>k_is)
  (case a_l=>k_is)
  (case l_l=>k_is)
  (case c_l=>k_is)
  (case a_m=>k_is)
  (case l_m=>k_is)
  (case c_m=>k_is)
  (case a_n=>k_is)
  (case l_n=>k_is)
  (case c_n=>k_is)
  (case a_o=>k_is)
  (case l_o=>k_is)
  (case c_o=>k_is)
  (case a_p=>k_is)
  (case l_p=>k_is)
  (case c_p=>k_is)
  (case z_all=>k_is)
  (case z_bool=>k_is)
  (case z_dict=>k_is)
  (case z_divmod=>k_is)
  (case z_enumerate=>k_is)
  (case z_int=>k_is)
  (case z_isinstance=>k_is)
  (case z_len=>k_is)
  (case z_list=>k_is)
  (case z_min=>k_is)
  (case z_range=>k_is)
  (case z_tuple=>k_is)
  (case b_Queue=>k_is)
  (case pgQ=>k_is)
  (case hdQ=>k_is)
  (case poQ=>k_is)
  (case saQ=>k_is)
  (case mkQ=>k_is)
  (case kcQ=>k_is)
  (case naQ_last=>k_is)
  (case naQ_piles=>k_is)
  (case b_Pricing=>k_is)
  (case pgP=>k_is)
  (case hdP=>k_is)
  (case poP=>k_is)
  (case saP=>k_is)
  (case mkP=>k_is)
  (case kcP=>k_is)
  (case naP_rules=>k_is)
  (case naP_told=>k_is)
  (case naP_offers=>k_is)
  (case naP_settled=>k_is)
  (case naP_lacking=>k_is)
  (case aM_QI=>k_is)
  (case iM_QI=>k_is)
  (case l_q=>k_is)
  (case c_q=>k_is)
  (case kp_QI=>k_is)
  (case aM_QA=>k_is)
  (case iM_QA=>k_is)
  (case l_r=>k_is)
  (case c_r=>k_is)
  (case kp_QA=>k_is)
  (case aM_QE=>k_is)
  (case iM_QE=>k_is)
  (case l_s=>k_is)
  (case c_s=>k_is)
  (case kp_QE=>k_is)
  (case aM_QT=>k_is)
  (case iM_QT=>k_is)
  (case l_t=>k_is)
  (case c_t=>k_is)
  (case kp_QT=>k_is)
  (case aM_PI=>k_is)
  (case iM_PI=>k_is)
  (case l_u=>k_is)
  (case c_u=>k_is)
  (case kp_PI=>k_is)
  (case aM_PO=>k_is)
  (case iM_PO=>k_is)
  (case l_v=>k_is)
  (case c_v=>k_is)
  (case kp_PO=>k_is)
  (case aM_PS=>k_is)
  (case iM_PS=>k_is)
  (case l_w=>k_is)
  (case c_w=>k_is)
  (case kp_PS=>k_is)
  (case aM_PF=>k_is)
  (case iM_PF=>k_is)
  (case l_x=>k_is)
  (case c_x=>k_is)
  (case kp_PF=>k_is)
  (case aM_PA=>k_is)
  (case iM_PA=>k_is)
  (case l_y=>k_is)
  (case c_y=>k_is)
  (case kp_PA=>k_is)
 case S=>exact fun w H a ns hl hS=>L3.Gk (fun ns hn=>⟨_,_,W.Hb ns hn⟩) H a ns hl hS
 case C=>exact fun _ _ _ _ _ z=>z
