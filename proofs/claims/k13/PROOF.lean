import PyProof.Rows.All
import Wide.All
import OpenK.AllK
import Wide.FinOn
import Lean
import PyProof.EqAt
import PyProof.EqKinds
import PyProof.TupleCall
import PyProof.ZipIter
import PyProof.AttrMissHeap
import PyProof.Walks
import PyProof.WalksS
import PySem.SetTable
import KE.KSortTup
import KE.KRevIter
import PyProof.Rows.SetFrom
import PyProof.CollectWalk
import PyProof.DictWalks
import PyProof.DictItems
import KE.KDictList
import PyProof.ListRange
import PyProof.EqAt
import PyProof.WalkInts
import PyProof.StrBlockG
import PyProof.SumWalk
import PyProof.Rows.TupIter
import PyProof.StrLawsIdx
import PyProof.CallStr
import PyProof.StrCalls2
import PyProof.StrWalks
import KE.KIntText
import PyProof.SetRoads
import PyProof.StrLawsTight
import PyProof.Rows.FStr
import PyProof.Draws
import PyProof.EnumMake
import PyProof.ConsumeWalk
import PySem.Challenge.RW_callwalk_k13_heading_and_ending
set_option Elab.async false
set_option linter.all false
set_option genSizeOf false
set_option genSizeOfSpec false
set_option compiler.extract_closed false
set_option maxRecDepth 100000
set_option maxHeartbeats 4000000
set_option bootstrap.genMatcherCode false
noncomputable section
abbrev Hs:=@PySem.wpAny_bind
abbrev Hu:=@PySem.Heap.get?_push_of_some
abbrev Hv:=@List.getElem?_eq_some_iff
abbrev Hw:=@PySem.wpAny_pure
abbrev Hx:=@if_pos
abbrev Hy:=@List.size_toArray
abbrev Hz:=@if_neg
abbrev HA:=@List.length_map
abbrev HB:=@Nat.le_refl
abbrev HC:=@List.getElem?_append_right
abbrev HD:=@Array.getElem?_toList
abbrev HE:=@List.mem_cons
abbrev HF:=@decide_eq_false
abbrev HG:=@decide_eq_true
abbrev HH:=@List.append_assoc
abbrev HI:=@List.getElem?_set_self
abbrev HJ:=@PyProof.Rows.wpS_bind
abbrev HK:=@List.getElem?_append_left
abbrev HL:=@List.map_cons
abbrev HM:=@List.getElem?_set_ne
abbrev HN:=@PySem.Heap.lt_size
abbrev HP:=@Bool.false_eq_true
abbrev HQ:=@PySem.Heap.get?_push_size
abbrev HR:=@PyProof.Rows.wpS_pure
abbrev HS:=@Nat.le_trans
abbrev HU:=@List.mem_iff_getElem?
abbrev HV:=@List.mem_cons_of_mem
abbrev HW:=@List.mem_cons_self
abbrev HX:=@Array.length_toList
abbrev HY:=@List.mem_map
abbrev HZ:=@List.take_append_drop
abbrev H_:=@List.mem_append
abbrev Ia:=@List.mem_append_left
abbrev Ib:=@List.length_take
abbrev Ic:=@Nat.ne_of_lt
abbrev Ie:=@congrArg
abbrev Ig:=@List.length_append
abbrev Ih:=@List.pairwise_iff_getElem
abbrev Ii:=@PyProof.Rows.F.plain_set_update_loop
abbrev Ij:=@Nat.zero_le
abbrev Ik:=@List.mem_map_of_mem
abbrev Il:=@Nat.lt_of_lt_of_le
abbrev Im:=@List.mem_append_right
abbrev Ip:=@List.getElem?_map
abbrev Iq:=@List.pairwise_map
abbrev Ir:=@Bool.and_eq_true
abbrev Iu:=@Option.some.inj
abbrev Iv:=@PySem.F.called_set
abbrev Iw:=@List.pairwise_cons
abbrev Iy:=@PySem.sizeLine_eq
abbrev Iz:=@PySem.wpAny_holding
abbrev IA:=@List.getElem?_take
abbrev IB:=@List.mem_range
abbrev IC:=@PySem.PassesOwn.never
abbrev ID:=@List.map_map
abbrev IE:=@List.length_cons
abbrev IF:=@Array.toList_append
abbrev IG:=@List.take_of_length_le
abbrev IH:=@Nat.le_of_lt
abbrev II:=@List.getElem?_eq_getElem
abbrev IJ:=@List.mem_of_mem_take
abbrev IK:=@List.mem_singleton
abbrev IL:=@PySem.W.mg_none_of
abbrev IM:=@List.mem_of_mem_drop
abbrev IN:=@PyProof.Rows.slot_tuple_getitem
abbrev IQ:=@if_false
abbrev IR:=@PySem.Heap.SameBut.update
abbrev IS:=@List.append_nil
abbrev IT:=@List.filter_cons
abbrev IU:=@List.map_append
abbrev IV:=@Classical.byContradiction
abbrev IW:=@PySem.wpAny_setState_of
abbrev IX:=@List.drop_eq_getElem_cons
abbrev IY:=@List.pairwise_append
abbrev IZ:=@PySem.Heap.get?_update_other
abbrev I0:=@Option.map_eq_some_iff
abbrev I_:=@List.drop_of_length_le
abbrev Ja:=@List.Pairwise.imp_of_mem
abbrev Jb:=@Ne.symm
abbrev Jc:=@PySem.W.kia_one
abbrev Jd:=@List.getElem?_eq_none
abbrev Je:=@PyProof.Rows.wpS_forRange
abbrev Jf:=@PyProof.Rows.wpS_mono
abbrev Jg:=@List.pairwise_singleton
abbrev Jh:=@PySem.W.mg_of
abbrev Ji:=@Array.getElem?_eq_some_iff
abbrev Jj:=@PySem.codeAny_builtin
abbrev Jk:=@PyProof.Rows.F.entry_set_update_loop
abbrev Jl:=@PySem.wpAny_call_entry
abbrev Jm:=@List.any_cons
abbrev Jn:=@List.all_eq_true
abbrev Jo:=@PySem.wpAny_mono
abbrev Jp:=@PySem.Heap.get?_update_self
abbrev Jq:=@List.ext_getElem?
abbrev Jr:=@List.length_set
abbrev Js:=@PySem.tupleKind_room_in1
abbrev Jt:=@List.foldl_cons
abbrev Ju:=@List.getElem?_drop
abbrev Jv:=@List.mem_of_getElem?
abbrev Jw:=@PySem.wpAny_truthy_bool
abbrev Jx:=@PySem.mem_of_lookup
abbrev Jy:=@List.take_sublist
abbrev Jz:=@PySem.wpAny_newObj_type
abbrev JA:=@Nat.lt_irrefl
abbrev JB:=@List.length_drop
abbrev JC:=@List.not_mem_nil
abbrev JD:=@PySem.Around.under_plainId
abbrev JE:=@Bool.not_true
abbrev JF:=@Nat.add_sub_cancel_left
abbrev JG:=@List.nodup_cons
abbrev JI:=@List.length_nil
abbrev JJ:=@if_true
abbrev JK:=@Nat.le_of_not_lt
abbrev JL:=@PySem.F.slot_dict_get
abbrev JM:=@List.perm_append_comm
abbrev JN:=@List.drop_zero
abbrev JO:=@List.take_succ_eq_append_getElem
abbrev JP:=@PySem.wpAny_passesOwn
abbrev JQ:=@Int.emod_nonneg
abbrev JR:=@List.drop_sublist
abbrev JS:=@PySem.Value.ref.injEq
abbrev JT:=@Nat.lt_succ_of_lt
abbrev JU:=@Array.toList_push
abbrev JV:=@bne_self_eq_false
abbrev JW:=@decide_eq_true_eq
abbrev JX:=@Nat.zero_add
abbrev JY:=@List.getElem?_replicate
abbrev JZ:=@PySem.wpAny_callSpecial?_slot
abbrev J3:=@PySem.F.args_dict_get_3
abbrev J4:=@List.map_congr_left
abbrev J5:=@List.lookup_cons
abbrev J6:=@PySem.Heap.size_push
abbrev J7:=@PySem.F.entry_dict_get
abbrev J8:=@Int.emod_lt_of_pos
abbrev J9:=@Sum.inl.inj
abbrev J_:=@List.mem_filter
abbrev Ka:=@PyProof.Rows.callWith_type1
abbrev Kb:=@List.length_singleton
abbrev Kc:=@List.find?_cons
abbrev Ke:=@PySem.Paired.length
abbrev Kf:=@Prod.mk.injEq
abbrev Kg:=@PySem.wpAny_pyIter_list
abbrev Kh:=@Int.toNat_natCast
abbrev Ki:=@PySem.wpAny_newList
abbrev Kj:=@List.mem_iff_getElem
abbrev Kk:=@Array.toList_extract
abbrev Kl:=@Array.toList_reverse
abbrev Km:=@List.getElem?_zip_eq_some
abbrev Kn:=@PySem.Calls.call_function_entry
abbrev Ko:=@List.nodup_range
abbrev Kp:=@List.getElem_mem
abbrev Kq:=@List.filterMap_cons
abbrev Kr:=@Nat.ne_of_gt
abbrev Ks:=@PySem.codeAny_mono
abbrev Kt:=@PySem.F.slot_list_append
abbrev Ku:=@PySem.F.type_list_append
abbrev Kv:=@Bool.false_ne_true
abbrev Kw:=@List.mem_filterMap
abbrev Kx:=@PySem.plainId_quiet
abbrev Ky:=@PySem.Code.quiet_builtin
abbrev Kz:=@List.length_eq_zero_iff
abbrev KA:=@List.getElem?_cons_succ
abbrev KB:=@PyProof.Rows.listUpdate_at
abbrev KC:=@PySem.F.plainAttrs_list
abbrev KD:=@Nat.lt_trichotomy
abbrev KE:=@PySem.wpAny_storeSet_of
abbrev KF:=@Bool.false_and
abbrev KG:=@List.take_zero
abbrev KH:=@List.length_replicate
abbrev KI:=@PySem.wpAny_typeOf
abbrev KJ:=@List.pairwise_reverse
abbrev KL:=@List.set_getElem_self
abbrev KM:=@Nat.lt_succ_self
abbrev KN:=@List.drop_append_of_le_length
abbrev KO:=@List.mem_reverse
abbrev KP:=@List.take_append_of_le_length
abbrev KQ:=@List.drop_length
abbrev KR:=@List.eq_nil_of_length_eq_zero
abbrev KS:=@PySem.wpAny_standAt
abbrev KU:=@Array.getElem?_setIfInBounds
abbrev KW:=@PySem.F.slot_dict_setdefault
abbrev KY:=@Sum.inr.inj
abbrev KZ:=@PySem.wpAny_execs_nil
abbrev K0:=@List.cons.injEq
abbrev K1:=@Nat.min_eq_left
abbrev K3:=@PyProof.Rows.seqEpoch_at
abbrev K4:=@Bool.or_eq_true
abbrev K5:=@Bool.eq_iff_iff
abbrev K6:=@List.length_reverse
abbrev K7:=@Nat.add_sub_cancel
abbrev K8:=@List.nodup_nil
abbrev K9:=@Bool.and_false
abbrev K_:=@PySem.wpAny_runValue
abbrev La:=@List.Perm.refl
abbrev Lb:=@PySem.W.kitx_dict
abbrev Lc:=@Option.isSome_map
abbrev Ld:=@Nat.le_of_lt_succ
abbrev Le:=@PySem.wpAny_rule
abbrev Lf:=@ite_congr
abbrev Lg:=@Array.ext'
abbrev Lh:=@List.length_range
abbrev Li:=@Prod.ext
abbrev Lj:=@Bool.and_self
abbrev Lk:=@List.cons_append
abbrev Ll:=@Nat.max_eq_right
abbrev Lm:=@decide_eq_decide
abbrev Ln:=@List.any_eq_true
abbrev Lo:=@List.map_nil
abbrev Lp:=@List.any_map
abbrev Lq:=@beq_iff_eq
abbrev Lr:=@or_false
abbrev Ls:=PySem.Shared
abbrev Lu:=PySem.W.Frag
abbrev Lw:=PySem.Program
abbrev Lx:=PySem.Value
abbrev Ly:=PySem.Around
theorem LF (h : True := by rfl) : True := h
theorem Lz (h : True := by decide) : True := h
theorem LC (h : ∀ u : Unit, u = u := by intro _; rfl) : True := True.intro
theorem LA (h : True := by first|exact .inl rfl|exact .inr rfl|assumption) : True := h
theorem LB (h : True := by first|exact Or.inl rfl|exact Or.inr (Or.inl rfl)|exact Or.inr (Or.inr rfl)) : True := h
theorem LD (h : True := by intro _ _; rfl) : True := h

namespace L2
open PySem PySem.Spec PyProof.Rows
noncomputable abbrev Key:=Sum Int Str
noncomputable def ig:Key->Lx->Bool
 | .inl k,v=>Value.isInt k v
 | .inr x,v=>Value.isStrOf x v
noncomputable def F3 (w:World):Key->Int
 | .inl k=>hashInt k
 | .inr x=>hashStr w x
theorem aI:∀{k:Key}{v:Lx},ig k v=true->(∃ i t,k=Sum.inl i/\v=Value.int i t)\/(∃ x t,k=Sum.inr x/\v=Value.str x t)
 | .inl i,v,h=>by obtain⟨t,e⟩:=Value.isInt_shape (k:=i) (v:=v) h;exact .inl ⟨i,t,rfl,e⟩
 | .inr x,v,h=>by obtain⟨t,e⟩:=Value.isStrOf_shape (x:=x) (v:=v) h;exact .inr ⟨x,t,rfl,e⟩
theorem sK (i:Int)(t:Tok):ig (.inl i) (.int i t)=true:=by simp[ig,Value.isInt]
theorem sL (x:Str)(t:Tok):ig (.inr x) (.str x t)=true:=by simp[ig,Value.isStrOf]
theorem A6 (a b:Int):decide ((Sum.inl a:Key)=Sum.inl b)=(a==b):=by
 by_cases e:a=b
 .subst e;simp
 .have h:¬ (Sum.inl a:Key)=Sum.inl b:=fun q=>e (J9 q);rw[HF h];exact(beq_eq_false_iff_ne.mpr e).symm
theorem A7 (a b:Str):decide ((Sum.inr a:Key)=Sum.inr b)=decide (a=b):=by
 by_cases e:a=b
 .subst e;simp
 .have h:¬ (Sum.inr a:Key)=Sum.inr b:=fun q=>e (KY q);rw[HF h,HF e]
theorem A8 (a:Int)(b:Str):decide ((Sum.inl a:Key)=Sum.inr b)=false:=HF (fun q=>nomatch q)
theorem A9 (a:Str)(b:Int):decide ((Sum.inr a:Key)=Sum.inl b)=false:=HF (fun q=>nomatch q)
def ao (prog:Lw)(w:World):PySem.KeyKind prog w Key where
 is:=ig
 hash:=F3 w
 inj:=fun v a b ha hb=>by
  rcases aI ha with⟨i,t,rfl,rfl⟩|⟨x,t,rfl,rfl⟩
  .rcases aI hb with⟨j,u,rfl,e⟩|⟨y,u,rfl,e⟩
   .injection e with e1 _;rw[e1]
   .exact nomatch e
  .rcases aI hb with⟨j,u,rfl,e⟩|⟨y,u,rfl,e⟩
   .exact nomatch e
   .injection e with e1 _;rw[e1]
 byValue:=fun k v h=>by rcases aI h with⟨i,t,rfl,rfl⟩|⟨x,t,rfl,rfl⟩<;>rfl
 pyHash:=fun hv h=>by
  rcases aI hv with⟨i,t,rfl,rfl⟩|⟨x,t,rfl,rfl⟩
  .exact wpAny_pyHash_int h
  .exact wpAny_pyHash_str h
 eqBool:=fun hu hv h=>by
  rcases aI hu with⟨i,t,rfl,rfl⟩|⟨x,t,rfl,rfl⟩
  .rcases aI hv with⟨j,u,rfl,rfl⟩|⟨y,u,rfl,rfl⟩
   .rw[A6]at h;exact wpAny_eqBool_int h
   .rw[A8]at h;exact SeqAt.EqAt.int_str i t y u _ _ _ _ h
  .rcases aI hv with⟨j,u,rfl,rfl⟩|⟨y,u,rfl,rfl⟩
   .rw[A9]at h;exact SeqAt.EqAt.str_int x t j u _ _ _ _ h
   .rw[A7]at h;exact wpAny_eqBool_str h
 «strs»:=fun k x t v h=>by
  rcases aI h with⟨i,u,rfl,e⟩|⟨y,u,rfl,e⟩
  .exact nomatch e
  .injection e with e1 _;subst e1;cases v<;>rfl
theorem nc (prog:Lw)(w:World)(i:Int)(t:Tok):(ao prog w).is (.inl i) (.int i t)=true:=sK i t
theorem ng (prog:Lw)(w:World)(x:Str)(t:Tok):(ao prog w).is (.inr x) (.str x t)=true:=sL x t
inductive V where
 |non|bl (b:Bool)|int (i:Int)|str (x:Str)|byt (b:Array UInt8)|flt (b:UInt64)|ref (a:Addr)|ty (n:String)
 deriving DecidableEq
noncomputable def RelV:V->Lx->Prop
 | .non,u=>u=Value.none
 | .bl b,u=>u=Value.bool b
 | .int i,u=>∃ t,u=Value.int i t
 | .str x,u=>∃ t,u=Value.str x t
 | .byt b,u=>∃ t,u=Value.bytes b t
 | .flt b,u=>∃ t,u=Value.float b t
 | .ref a,u=>u=Value.ref a
 | .ty n,u=>u=Value.type n
abbrev Vals:List V->List Lx->Prop:=Paired RelV
theorem Vals.length {xs:List V}{us:List Lx}(r:Vals xs us):xs.length=us.length:=Ke r
theorem Vals.get:∀{xs:List V}{us:List Lx}{i:Nat}{x:V},Vals xs us->xs[i]?=some x->∃ u,us[i]?=some u/\RelV x u
 |_,_,_,_,.nil,e=>by simp at e
 |_,_,0,_,.cons r _,e=>by simp at e;subst e;exact⟨_,rfl,r⟩
 |_,_,i+1,x,.cons _ t,e=>by obtain⟨u,h1,h2⟩:=Vals.get (i:=i) (x:=x) t (by simpa using e);exact⟨u,by simpa using h1,h2⟩
theorem Vals.set {x:V}{u:Lx}(r:RelV x u):∀{xs:List V}{us:List Lx}(i:Nat),Vals xs us->Vals (xs.set i x) (us.set i u)
 |_,_,_,.nil=>.nil
 |_,_,0,.cons _ t=>.cons r t
 |_,_,i+1,.cons q t=>.cons q (Vals.set r i t)
theorem Vals.append:∀{xs ys:List V}{us ws:List Lx},Vals xs us->Vals ys ws->Vals (xs++ys) (us++ws)
 |_,_,_,_,.nil,s=>s
 |_,_,_,_,.cons r t,s=>.cons r (Vals.append t s)
theorem Vals.take:∀{xs:List V}{us:List Lx}(n:Nat),Vals xs us->Vals (xs.take n) (us.take n)
 |_,_,0,_=>.nil
 |_,_,_+1,.nil=>.nil
 |_,_,n+1,.cons r t=>.cons r (Vals.take n t)
theorem Vals.drop:∀{xs:List V}{us:List Lx}(n:Nat),Vals xs us->Vals (xs.drop n) (us.drop n)
 |_,_,0,r=>r
 |_,_,_+1,.nil=>.nil
 |_,_,n+1,.cons _ t=>Vals.drop n t
def RelO:Option V->Option Lx->Prop
 |some v,some u=>RelV v u
 |none,none=>True
 |_,_=>False
def KV {κ:Type}:List (κ×V)->List (κ×Lx)->Prop:=Paired fun(p:κ×V)(q:κ×Lx)=>p.1=q.1/\RelV p.2 q.2
noncomputable def kV:Key->V
 | .inl i=>.int i
 | .inr x=>.str x
inductive HO where
  
 |lst (xs:List V)
  
 |tup (xs:List V)
  
 |dK (kvs:List (Key×V))|dT (kvs:List (List Key×V))
  
 |set (S:Int->Bool) (n:Nat)
  
 |ins (C dx:Addr) (fs:List (Str×V))
  
 |own (x:Addr)
  
 |xd (fs:List (Str×V))
  
 |met (f x:Addr)
  
 |rng (lo hi:Int)
  
 |frz (o:Obj) (u:HO)
  
 |tbl (ps:Array Lx)
  
 |ext (φ:Heap->Prop)
noncomputable abbrev Hp:=Addr->Option HO
noncomputable def av (H:Hp)(a:Addr)(o:HO):Hp:=fun b=>if b=a then some o else H b
theorem ag {H:Hp}{a:Addr}{o:HO}:av H a o a=some o:=by unfold av;rw[Hx rfl]
theorem ac {H:Hp}{a b:Addr}{o:HO}(h:b≠a):av H a o b=H b:=by unfold av;rw[Hz h]
theorem lP {H:Hp}{a:Addr}{o u:HO}:av (av H a o) a u=av H a u:=by funext b;unfold av;split<;>rfl
theorem kF {H:Hp}{a b:Addr}{o u:HO}(h:H a=some o)(h':H b=some u)(d:o≠u):a≠b:=by intro e;subst e;rw[h]at h';exact d (Iu h')
theorem aH {H:Hp}{a b:Addr}{o:HO}(h:H a=some o)(h':H b=none):a≠b:=by intro e;subst e;rw[h]at h';cases h'
section
variable (P:Lw)(w:World)
def ObjOk (H:Hp)(h:Heap)(a:Addr):HO->Prop
 | .lst xs=>xs.length<=sizeLine/\∃(its:List Lx)(n:Nat),Vals xs its/\h.get? a=some { cls:=.type "list",data:=.seq its.toArray n }
 | .tup xs=>xs.length<=sizeLine/\∃ its:List Lx,Vals xs its/\IsTup h a its.toArray
 | .dK kvs=>kvs.length<=sizeLine/\(a==sysModules)=false/\∃ vs,KV kvs vs/\h.DictOf (ao P w) a vs
 | .dT kvs=>kvs.length<=sizeLine/\(a==sysModules)=false/\∃ xs:List (List Key×Addr×Lx),
  Paired (fun(p:List Key×V)(q:List Key×Addr×Lx)=>p.1=q.1/\H q.2.1=some (.tup (p.1.map kV))/\RelV p.2 q.2.2) kvs xs/\
  ∃ o es ep,h.get? a=some o/\o.ExactDict/\o.data=.dict es ep/\es.toList=xs.map (entryOfKey (tupleKind (ao P w)))/\(xs.map (·.1)).Nodup
 | .set S n=>h.SetOf (intKind P w) a S n
 | .ins C dx fs=>H dx=some (.own a)/\fs.length<=1000/\dx≠a/\h.get? a=some (PySem.W.instObj C dx)/\
  ∃ mA,h.Ns1 dx mA/\(∀ f,RelO (fs.lookup f) (mA f))/\PySem.Within mA (fs.map (·.1))
 | .own _=>∃ o,h.get? a=some o
 | .xd fs=>∃ mA,h.Ns1 a mA/\∀ f,RelO (fs.lookup f) (mA f)
 | .rng lo hi=>∃ t u v,h.get? a=some { cls:=.type "range",data:=.fields #[.int lo t,.int hi u,.int 1 v] }
 | .frz o u=>h.get? a=some o/\ObjOk H h a u
 | .tbl ps=>h.get? a=some { cls:=.none,data:=.fields ps }
 | .met f x=>h.get? a=some (PySem.W.methodObj (.ref f) (.ref x))
 | .ext φ=>φ h/\(∃ o,h.get? a=some o)/\∀ h1 h2:Heap,φ h1->(∀ o,h1.get? a=some o->h2.get? a=some o)->φ h2
def HOk (H:Hp)(h:Heap):Prop:=∀ a o,H a=some o->ObjOk P w H h a o
end
section
variable {P:Lw}{w:World}{H H':Hp}{h h':Heap}{a:Addr}{o:HO}
theorem ObjOk.lt (x:ObjOk P w H h a o):a<h.objs.size:=by
 cases o with
 |lst xs=>obtain⟨_,_,_,_,e⟩:=x;exact HN e
 |tup xs=>obtain⟨_,_,_,p⟩:=x;exact p.lt
 |dK kvs=>obtain⟨_,_,_,_,o,_,_,e,_⟩:=x;exact HN e
 |dT kvs=>obtain⟨_,_,_,_,o,_,_,e,_⟩:=x;exact HN e
 |set S n=>obtain⟨o,_,_,_,e,_⟩:=x;exact HN e
 |ins C dx fs=>obtain⟨_,_,_,e,_⟩:=x;exact HN e
 |own y=>obtain⟨_,e⟩:=x;exact HN e
 |xd fs=>obtain⟨_,⟨_,_,_,e,_⟩,_⟩:=x;exact HN e
 |rng lo hi=>obtain⟨_,_,_,e⟩:=x;exact HN e
 |frz ob u=>obtain⟨e,_⟩:=x;exact HN e
 |tbl ps=>exact HN (show h.get? a=some _ from x)
 |met f y=>exact HN (show h.get? a=some _ from x)
 |ext φ=>obtain⟨_,⟨_,e⟩,_⟩:=x;exact HN e
theorem Paired.mapP {α β:Type}{F G:α->β->Prop}:∀{l₁:List α}{l₂:List β},Paired F l₁ l₂->(∀ a b,F a b->G a b)->Paired G l₁ l₂
 |_,_,.nil,_=>.nil
 |_,_,.cons r t,f=>.cons (f _ _ r) (Paired.mapP t f)
theorem ObjOk.stay (x:ObjOk P w H h a o)(k:∀ b u,(b=a\/H b=some (.own a))->h.get? b=some u->h'.get? b=some u)
 (ho:∀ b,H b=some (.own a)->H' b=some (.own a)) (ht:∀ b xs,H b=some (.tup xs)->H' b=some (.tup xs)):ObjOk P w H' h' a o:=by
 induction o with
 |lst xs=>obtain⟨z,its,n,r,e⟩:=x;exact⟨z,its,n,r,k _ _ (.inl rfl) e⟩
 |tup xs=>obtain⟨z,its,r,ob,e,c⟩:=x;exact⟨z,its,r,ob,k _ _ (.inl rfl) e,c⟩
 |dK kvs=>obtain⟨z,y,vs,r,ob,es,ep,e,c⟩:=x;exact⟨z,y,vs,r,ob,es,ep,k _ _ (.inl rfl) e,c⟩
 |dT kvs=>obtain⟨z,y,xs,r,ob,es,ep,e,c⟩:=x;exact⟨z,y,xs,Paired.mapP r fun p q z=>⟨z.1,ht _ _ z.2.1,z.2.2⟩,ob,es,ep,k _ _ (.inl rfl) e,c⟩
 |set S n=>obtain⟨ob,es,ep,t,e,c⟩:=x;exact⟨ob,es,ep,t,k _ _ (.inl rfl) e,c⟩
 |ins C dx fs=>obtain⟨d,z,ne,e,mA,⟨od,es,ep,e2,c⟩,r⟩:=x;exact⟨ho _ d,z,ne,k _ _ (.inl rfl) e,mA,⟨od,es,ep,k _ _ (.inr d) e2,c⟩,r⟩
 |own y=>obtain⟨ob,e⟩:=x;exact⟨ob,k _ _ (.inl rfl) e⟩
 |xd fs=>obtain⟨mA,⟨od,es,ep,e,c⟩,r⟩:=x;exact⟨mA,⟨od,es,ep,k _ _ (.inl rfl) e,c⟩,r⟩
 |rng lo hi=>obtain⟨t,u,v,e⟩:=x;exact⟨t,u,v,k _ _ (.inl rfl) e⟩
 |frz ob u ih=>obtain⟨e,q⟩:=x;exact⟨k _ _ (.inl rfl) e,ih q⟩
 |tbl ps=>have e:h.get? a=some { cls:=.none,data:=.fields ps }:=x;show h'.get? a=some { cls:=.none,data:=.fields ps };exact k a _ (.inl rfl) e
 |met f y=>have e:h.get? a=some (PySem.W.methodObj (.ref f) (.ref y)):=x;show h'.get? a=some (PySem.W.methodObj (.ref f) (.ref y));exact k a _ (.inl rfl) e
 |ext φ=>obtain⟨p,⟨o,e⟩,st⟩:=x;exact⟨st _ _ p fun o q=>k _ _ (.inl rfl) q,⟨o,k _ _ (.inl rfl) e⟩,st⟩
theorem HOk.lt (x:HOk P w H h)(e:H a=some o):a<h.objs.size:=(x a o e).lt
theorem HOk.fresh (x:HOk P w H h)(e:h.objs.size<=a):H a=none:=by
 cases q:H a with
 |none=>rfl
 |some u=>exact absurd (Il (x.lt q) e) (JA _)
theorem HOk.kept (x:HOk P w H h)(k:∀ b u,h.get? b=some u->h'.get? b=some u):HOk P w H h':=fun a o e=>(x a o e).stay (fun b u _ q=>k b u q) (fun _ q=>q) fun _ _ q=>q
theorem HOk.laid (x:HOk P w H h)(k:∀ b u,h.get? b=some u->h'.get? b=some u)(hp:h.objs.size<=a)(new:ObjOk P w (av H a o) h' a o):HOk P w (av H a o) h':=fun b u e=>by
 have hn:=x.fresh hp;by_cases hb:b=a
 .subst hb;rw[ag]at e;cases e;exact new
 .rw[ac hb]at e;exact(x b u e).stay (fun c v _ q=>k c v q) (fun c q=>by rw[ac (aH q hn)];exact q) fun c xs q=>by rw[ac (aH q hn)];exact q
end
def Rd (H:Hp)(a:Addr)(u:HO):Prop:=H a=some u\/∃ o,H a=some (.frz o u)
theorem Rd.of {H:Hp}{a:Addr}{u:HO}(h:H a=some u):Rd H a u:=.inl h
theorem Rd.ok {P:Lw}{w:World}{H:Hp}{h:Heap}{a:Addr}{u:HO}(r:Rd H a u)(x:HOk P w H h):ObjOk P w H h a u:=by
 rcases r with r|⟨o,r⟩
 .exact x a u r
 .obtain⟨_,q⟩:=x a _ r;exact q
noncomputable def DN:Option HO->Prop
 |some (.lst _)=>True
 |some (.dK _)=>True
 |some (.dT _)=>True
 |some (.set _ _)=>True
 |some (.ins _ _ _)=>True
 |some (.ext _)=>True
 |_=>False
section
variable {P:Lw}{w:World}{H:Hp}{h h':Heap}{x e:Addr}{o':HO}
theorem HOk.write (ok:HOk P w H h)(mu:DN (H x))(he:e=x\/H e=some (.own x))(k:∀ b u,b≠e->h.get? b=some u->h'.get? b=some u)(heo:∃ u,h'.get? e=some u)
 (new:ObjOk P w (av H x o') h' x o'):HOk P w (av H x o') h':=fun b u q=>by
 have nown:∀ c y,H c=some (.own y)->c≠x:=fun c y r z=>by subst z;rw[r]at mu;exact mu
 have ntup:∀ c xs,H c=some (.tup xs)->c≠x:=fun c xs r z=>by subst z;rw[r]at mu;exact mu
 by_cases hb:b=x
 .subst hb;rw[ag]at q;cases q;exact new
 .rw[ac hb]at q;by_cases hbe:b=e
  .have q':H b=some (.own x):=by
    rcases he with z|z
    .exact absurd (hbe.trans z) hb
    .rw[hbe];exact z
   rw[q]at q';cases q';obtain⟨v,hv⟩:=heo;exact⟨v,by rw[hbe];exact hv⟩
  .refine(ok b u q).stay (fun c v hc r=>k c v ?_ r) (fun c r=>by rw[ac (nown c b r)];exact r) fun c xs r=>by rw[ac (ntup c xs r)];exact r
   rcases hc with rfl|hc
   .exact hbe
   .rintro rfl;rcases he with z|z
    .exact nown c b hc z
    .rw[hc]at z;cases z;exact hb rfl
end
def Qt (H:Hp)(b:Addr):Prop:=H b=none\/∃ xs,H b=some (.tup xs)
structure Un (fs ex:List Addr) (H H':Hp) (h h':Heap):Prop where
 keep:∀ b o,h.get? b=some o->Qt H b->b∉fs->b∉ex->h'.get? b=some o
 slot:∀ b o,h.get? b=some o->H b=none->b∈fs->b∉ex->∃ sl,h'.get? b=some { o with slots:=sl }
 free:∀ b o,h.get? b=some o->H b=none->b∉ex->H' b=none
 there:∀ b o,h.get? b=some o->b∉ex->∃ o',h'.get? b=some o'
 tups:∀ b xs,H b=some (.tup xs)->H' b=some (.tup xs)
 frzs:∀ b o u,H b=some (.frz o u)->H' b=some (.frz o u)
 tbls:∀ b ps,H b=some (.tbl ps)->∃ more,H' b=some (.tbl (ps++more))
section
variable {fs fs' ex ex':List Addr}{H H1 H2:Hp}{h h1 h2 h':Heap}{a x e:Addr}{o:HO}
theorem Un.any (u:Un fs ex H H1 h h1){b:Addr}{ob:Obj}(q:h.get? b=some ob)(n:H b=none)(hx:b∉ex):∃ sl,h1.get? b=some { ob with slots:=sl }:=by
 by_cases hb:b∈fs
 .exact u.slot b ob q n hb hx
 .exact⟨ob.slots,u.keep b ob q (.inl n) hb hx⟩
theorem Un.trans (a:Un fs ex H H1 h h1)(b:Un fs ex H1 H2 h1 h2):Un fs ex H H2 h h2 where
 keep:=fun c ob q n hc hx=>b.keep c ob (a.keep c ob q n hc hx) (n.imp (fun n=>a.free c ob q n hx) fun⟨xs,e⟩=>⟨xs,a.tups c xs e⟩) hc hx
 slot:=fun c ob q n hc hx=>by obtain⟨sl,e1⟩:=a.slot c ob q n hc hx;obtain⟨sl',e2⟩:=b.slot c _ e1 (a.free c ob q n hx) hc hx;exact⟨sl',e2⟩
 free:=fun c ob q n hx=>by obtain⟨o',e1⟩:=a.there c ob q hx;exact b.free c o' e1 (a.free c ob q n hx) hx
 there:=fun c ob q hx=>by obtain⟨o',e1⟩:=a.there c ob q hx;exact b.there c o' e1 hx
 tups:=fun c xs q=>b.tups c xs (a.tups c xs q)
 frzs:=fun c ob xs q=>b.frzs c ob xs (a.frzs c ob xs q)
 tbls:=fun c ps q=>by obtain⟨m1,e1⟩:=a.tbls c ps q;obtain⟨m2,e2⟩:=b.tbls c _ e1;exact⟨m1++m2,by rw[e2,Array.append_assoc]⟩
theorem Un.kept (k:∀ b u,h.get? b=some u->h'.get? b=some u):Un fs ex H H h h':=⟨fun b ob q _ _ _=>k b ob q,fun b ob q _ _ _=>⟨ob.slots,k b ob q⟩,fun _ _ _ n _=>n,fun b ob q _=>⟨ob,k b ob q⟩,fun _ _ q=>q,fun _ _ _ q=>q,fun _ ps q=>⟨#[],by rw[q];simp⟩⟩
theorem Un.refl:Un fs ex H H h h:=Un.kept fun _ _ q=>q
theorem Un.laid (k:∀ b u,h.get? b=some u->h'.get? b=some u)(hp:h.objs.size<=a)(hn:H a=none):Un fs ex H (av H a o) h h' where
 keep:=fun b u q _ _ _=>k b u q
 slot:=fun b u q _ _ _=>⟨u.slots,k b u q⟩
 free:=fun b u q n _=>by rw[ac (Ic (Il (HN q) hp))];exact n
 there:=fun b u q _=>⟨u,k b u q⟩
 tups:=fun b xs q=>by rw[ac (aH q hn)];exact q
 frzs:=fun b u xs q=>by rw[ac (aH q hn)];exact q
 tbls:=fun b ps q=>⟨#[],by rw[ac (aH q hn),q];simp⟩
theorem Un.write (mu:DN (H x))(he:e=x\/H e=some (.own x))(k:∀ b u,b≠e->h.get? b=some u->h'.get? b=some u)(heo:∃ u,h'.get? e=some u):Un fs ex H (av H x o) h h':=by
 have hx:∀ b,H b=none->b≠x:=fun b n z=>by subst z;rw[n]at mu;exact mu
 have hb:∀ b,H b=none->b≠e:=fun b n z=>by
  subst z;rcases he with r|r
  .exact hx b n r
  .rw[n]at r;cases r
 have hm:∀ b u,H b=some u->¬ DN (some u)->b≠x:=fun b u q nm z=>by subst z;rw[q]at mu;exact nm mu
 refine⟨fun b u q n _ _=>k b u (n.elim (hb b) fun⟨xs,ee⟩ z=>by rcases he with r|r;(·rw[<- r,<- z,ee]at mu;exact mu);(·rw[<- z,ee]at r;cases r)) q,fun b u q n _ _=>⟨u.slots,k b u (hb b n) q⟩,fun b u q n _=>by rw[ac (hx b n)];exact n,fun b u q _=>?_,
  fun b xs q=>by rw[ac (hm b _ q fun z=>z)];exact q,fun b u xs q=>by rw[ac (hm b _ q fun z=>z)];exact q,fun b ps q=>⟨#[],by rw[ac (hm b _ q fun z=>z),q];simp⟩⟩
 by_cases hbe:b=e
 .subst hbe;exact heo
 .exact⟨u,k b u hbe q⟩
end
noncomputable def FK (h:Heap)(H:Hp):List Addr:=(List.range h.objs.size).filter fun a=>(H a).isSome
def nh (h:Heap)(H:Hp):Heap:=PySem.W.hideAll h (FK h H)
theorem sM (h:Heap)(H:Hp):(nh h H).objs.size=h.objs.size:=PySem.W.hideAll_size _ _
theorem ni {h:Heap}{H:Hp}{b:Addr}{o:Obj}(e:h.get? b=some o)(n:H b=none):(nh h H).get? b=some o:=PySem.W.hideAll_get _ e fun hm=>by have q:(H b).isSome=true:=(J_.mp hm).2;rw[n]at q;simp at q
theorem xV {h:Heap}{H:Hp}{b:Addr}{o:Obj}(e:(nh h H).get? b=some o):h.get? b=some o/\H b=none:=by
 have e':h.get? b=some o:=PySem.W.of_hideAll (FK h H) e;refine⟨e',?_⟩;cases q:H b with
 |none=>rfl
 |some x=>have hm:b∈FK h H:=J_.mpr ⟨IB.mpr (HN e'),by simp[q]⟩;have z:(nh h H).get? b=none:=PySem.W.hideAll_none (FK h H) hm;rw[z]at e;cases e
noncomputable def xW (g h:Heap)(L:Addr):List (Addr×Obj):=(List.range h.objs.size).filterMap fun a=>if a=L\/(g.get? a).isSome=true then none else (h.get? a).map fun o=>(a,o)
def aW (g h:Heap)(L d:Addr):List (Addr×Obj):=(xW g h L).filter fun p=>decide (p.1≠d)
noncomputable def G4:Lx->V
 | .str x _=>.str x
 | .ref a=>.ref a
 |_=>.non
def A_ (o:Obj):Option (Addr×List V):=match o.cls with
 | .type n=>if n=="kt" then (match o.data with
  | .seq its _=>(match its.toList with
   | .ref a::r=>some (a,r.map G4)
   |_=>none)
  |_=>none) else none
 |_=>none
def WrT (K:Lu)(H:Hp):Prop:=∀ p∈K,∀ a xs,A_ p.2=some (a,xs)->H a=some (.tup xs)
structure Mod (K:Lu) (mg:Str->Option Lx) (base:Heap):Prop where
 kin:K.In base
 glob:base.Ns mainGlobals mg
 blt:∃ mb,base.Ns builtinsNs mb/\∀ x:Str,x≠"__name__"->mb x=bootBuiltins x
 nolimit:base.NoLimit
structure Cx where
 prog:Lw
 w:World
 K:Lu
 mg:Str->Option Lx
 base:Heap
 A:Ly
 N:List Str
 s₀:Ls
 H₀:Hp
 env:Env
 outer:List Env
 stack:List Env
 ex:List Addr
 fn:Str->Bool
 calm:Bool
 pn:List (Addr×Obj)
 xe:Lx->Ls->Prop
noncomputable def frs (l:List Env):List Addr:=l.filterMap (·.frame)
abbrev Cx.fs (X:Cx):List Addr:=frs X.outer
def Vis (sc:Scope)(x:Str):Prop:=sc.names.lookup x=some .local\/sc.names.lookup x=some .cell\/sc.names.lookup x=some .free
def xX (sc:Scope)(x:Str):Prop:=sc.names.lookup x=some .local\/sc.names.lookup x=some .cell
def Look (env:Env)(h:Heap)(m:Str->Option Lx)(x:Str)(u:Lx):Prop:=(env.kindOf x=some .local/\m x=some u)\/((env.kindOf x=some .cell\/env.kindOf x=some .free)/\∃ c,env.cells.lookup x=some c/\h.IsCell c (some u))
structure Cx.Ok (X:Cx):Prop where
 mod:Mod X.K X.mg X.base
 kind:X.env.scope.kind=.function
 glob:X.env.globals=mainGlobals
 blt:X.env.builtins=builtinsNs
 above:X.s₀.heap.objs.size<=X.env.locals
 inj:∀ x y c,X.env.cells.lookup x=some c->X.env.cells.lookup y=some c->x=y
 has:∀ x,(X.env.kindOf x=some .cell\/X.env.kindOf x=some .free)->∃ c,X.env.cells.lookup x=some c
 cab:∀ x c,X.fn x=true->X.env.cells.lookup x=some c->X.s₀.heap.objs.size<=c
 hd:X.calm=true->X.A.handled=none
 frames:X.A.frames=some X.stack
 stk:X.stack=X.outer\/(X.stack=X.env::X.outer/\X.env.frame=some X.env.locals)
 exf:∀ b∈X.ex,b≠X.env.locals/\∀ x c,X.env.cells.lookup x=some c->c≠b
 bs:∀ b o,X.base.get? b=some o->X.s₀.heap.get? b=some o/\X.H₀ b=none
 bsz:X.base.objs.size<=X.s₀.heap.objs.size
 noex:∀ b o,X.base.get? b=some o->b∉X.ex
 exfs:∀ b∈X.ex,b∉X.fs
 funs:X.s₀.heap.FunFrames X.base X.outer
 frf:∀ b∈X.fs,X.H₀ b=none
 kt:WrT X.K X.H₀
structure Inv (X:Cx) (pins:List (Addr×Obj)) (σ:List (Option V)) (H:Hp) (s:Ls):Prop where
 ok:X.Ok
 os:s.os=X.s₀.os
 bare:AllBare s.gens
 base:Un X.fs X.ex X.H₀ H X.s₀.heap s.heap
 loc:∃ m,s.heap.Ns X.env.locals m/\∀(i:Nat)(x:Str)(v:V),X.N[i]?=some x->σ[i]?=some (some v)->Vis X.env.scope x->∃ u,RelV v u/\Look X.env s.heap m x u
 cell:∀ x c,X.env.cells.lookup x=some c->∃ v,s.heap.IsCell c v
 free:H X.env.locals=none
 freeC:∀ x c,X.env.cells.lookup x=some c->H c=none
 pin:∀ p∈X.pn++pins,s.heap.get? p.1=some p.2/\H p.1=none/\p.1≠X.env.locals/\p.1∉X.fs/\∀ v,p.2.data≠.cell v
 hok:HOk X.prog X.w H s.heap
 len:σ.length=X.N.length
section
variable {X:Cx}{pins:List (Addr×Obj)}{σ:List (Option V)}{H H':Hp}{s:Ls}{h':Heap}
theorem Cx.Ok.nofr (ok:X.Ok){b:Addr}{o:Obj}(e:X.base.get? b=some o):b∉X.fs:=fun hb=>by have:=(ok.funs.mem hb).1;rw[e]at this;cases this
theorem Inv.bs (I:Inv X pins σ H s):∀ b o,X.base.get? b=some o->s.heap.get? b=some o/\H b=none:=fun b o e=>⟨I.base.keep b o (I.ok.bs b o e).1 (.inl (I.ok.bs b o e).2) (I.ok.nofr e) (I.ok.noex b o e),I.base.free b o (I.ok.bs b o e).1 (I.ok.bs b o e).2 (I.ok.noex b o e)⟩
theorem Inv.kt (I:Inv X pins σ H s):WrT X.K H:=fun p hp a xs e=>I.base.tups a xs (I.ok.kt p hp a xs e)
theorem Inv.bk (I:Inv X pins σ H s):∀ b o,X.base.get? b=some o->s.heap.get? b=some o:=fun b o e=>(I.bs b o e).1
theorem Inv.mod (I:Inv X pins σ H s):Mod X.K X.mg X.base:=I.ok.mod
theorem Inv.kIn (I:Inv X pins σ H s):X.K.In s.heap:=I.ok.mod.kin.keeps I.bk
theorem Inv.fr (I:Inv X pins σ H s):∃ m,Fr X.base X.env.locals s.heap m:=
 let ⟨m,hn,_⟩:=I.loc
 ⟨m,hn,I.bk,HS I.ok.bsz I.ok.above⟩
theorem Inv.lt (I:Inv X pins σ H s):X.env.locals<s.heap.objs.size:=let ⟨_,hn,_⟩:=I.loc;hn.lt
theorem Inv.sz (I:Inv X pins σ H s):X.s₀.heap.objs.size<=s.heap.objs.size:=HS I.ok.above (IH I.lt)
theorem Inv.nofs (I:Inv X pins σ H s){a:Addr}(h:s.heap.objs.size<=a):a∉X.fs:=fun hb=>by obtain⟨_,o,ho,_⟩:=I.ok.funs.mem hb;exact absurd (Il (HN ho) (HS I.sz h)) (JA _)
theorem Inv.cne (I:Inv X pins σ H s):∀ x c,X.env.cells.lookup x=some c->c≠X.env.locals:=fun x c e z=>by obtain⟨v,o,ho,hd⟩:=I.cell x c e;obtain⟨m,⟨o',es,ep,ho',hd',_⟩,_⟩:=I.loc;rw[z,ho']at ho;cases ho;rw[hd']at hd;cases hd
theorem Inv.funs (I:Inv X pins σ H s):s.heap.FunFrames X.base X.outer:=by
 have all:∀(l:List Env),(∀ b∈frs l,b∈X.fs)->X.s₀.heap.FunFrames X.base l->s.heap.FunFrames X.base l:=by
  intro l;induction l with
  |nil=>intro _ _;trivial
  |cons env r ih=>intro hs hl;obtain⟨hk,⟨L,o,hf,hn,ho,hd⟩,hr⟩:=hl;have hL:L∈X.fs:=hs L (by unfold frs;rw[Kq,hf];exact HW);obtain⟨sl,e⟩:=I.base.slot L o ho (I.ok.frf L hL) hL fun z=>I.ok.exfs L z hL;exact⟨hk,⟨L,_,hf,hn,e,hd⟩,ih (fun b hb=>hs b (by unfold frs;rw[Kq,hf];exact HV _ hb)) hr⟩
 exact all X.outer (fun _ hb=>hb) I.ok.funs
theorem Inv.stack (I:Inv X pins σ H s):s.heap.FunFrames X.base X.stack:=by
 rcases I.ok.stk with e|⟨e,hf⟩
 .rw[e];exact I.funs
 .rw[e];obtain⟨m,hn,_⟩:=I.loc;refine .cons (by rw[I.ok.kind];decide) hf hn ?_ I.funs;exact Heap.get?_none_of_le (HS I.ok.bsz I.ok.above)
theorem Inv.stkSub (I:Inv X pins σ H s):∀ b∈frs X.stack,b∈X.env.locals::X.fs:=fun b hb=>by
 rcases I.ok.stk with e|⟨e,hf⟩
 .rw[e]at hb;exact HV _ hb
 .rw[e]at hb;unfold frs at hb;rw[Kq,hf]at hb;exact hb
theorem Inv.stkFree (I:Inv X pins σ H s):∀ b∈frs X.stack,H b=none:=fun b hb=>by
 rcases HE.mp (I.stkSub b hb) with e|hb
 .rw[e];exact I.free
 .obtain⟨_,o,ho,_⟩:=I.ok.funs.mem hb;exact I.base.free b o ho (I.ok.frf b hb) fun z=>I.ok.exfs b z hb
theorem Inv.step {g':Array GenState}{t':Nat}{d':Drawn}{ch:List Addr}(I:Inv X pins σ H s)
 (hch:∀ b∈ch,(b∈X.ex\/X.s₀.heap.objs.size<=b)/\b≠X.env.locals/\(∀ x c,X.env.cells.lookup x=some c->c≠b)/\∀ p∈X.pn++pins,p.1≠b)
 (keep:∀ b o,b≠X.env.locals->b∉X.fs->b∉ch->s.heap.get? b=some o->Qt H b->h'.get? b=some o)
 (slot:∀ b o,b≠X.env.locals->b∈X.fs->b∉ch->s.heap.get? b=some o->H b=none->∃ sl,h'.get? b=some { o with slots:=sl }) (free:∀ b o,b∉ch->s.heap.get? b=some o->H b=none->H' b=none)
 (there:∀ b o,b∉ch->s.heap.get? b=some o->∃ o',h'.get? b=some o')
 (tups:∀ b xs,H b=some (.tup xs)->H' b=some (.tup xs)) (frzs:∀ b o u,H b=some (.frz o u)->H' b=some (.frz o u)) (tbls:∀ b ps,H b=some (.tbl ps)->∃ more,H' b=some (.tbl (ps++more)))
 (ns:∀ m,s.heap.Ns X.env.locals m->h'.Ns X.env.locals m) (hok:HOk X.prog X.w H' h') (hg:AllBare g') :
 Inv X pins σ H' { s with heap:=h',gens:=g',drawn:=d',toks:=t' }:=by
 have neL:∀ b o,X.s₀.heap.get? b=some o->b≠X.env.locals:=fun b o e=>Ic (Il (HN e) I.ok.above);have neC:∀ b o,X.s₀.heap.get? b=some o->b∉X.ex->b∉ch:=fun b o e hx hb=>by
  rcases (hch b hb).1 with z|z
  .exact hx z
  .exact absurd (Il (HN e) z) (JA _)
 have cellK:∀ x c,X.env.cells.lookup x=some c->∀ v,s.heap.IsCell c v->h'.IsCell c v:=fun x c e v ⟨o,ho,hd⟩=>by
  have nch:c∉ch:=fun z=>(hch c z).2.2.1 x c e rfl;by_cases hc:c∈X.fs
  .obtain⟨sl,q⟩:=slot c o (I.cne x c e) hc nch ho (I.freeC x c e);exact⟨_,q,hd⟩
  .exact⟨o,keep c o (I.cne x c e) hc nch ho (.inl (I.freeC x c e)),hd⟩
 refine⟨I.ok,I.os,hg,⟨fun b o e n hb hx=>?_,fun b o e n hb hx=>?_,fun b o e n hx=>?_,fun b o e hx=>?_,fun b xs e=>tups b xs (I.base.tups b xs e),fun b o xs e=>frzs b o xs (I.base.frzs b o xs e),fun b ps e=>?_⟩,?_,fun x c e=>?_,?_,fun x c e=>?_,fun p hp=>?_,hok,I.len⟩
 .exact keep b o (neL b o e) hb (neC b o e hx) (I.base.keep b o e n hb hx) (n.imp (fun n=>I.base.free b o e n hx) fun⟨xs,q⟩=>⟨xs,I.base.tups b xs q⟩)
 .obtain⟨sl,e1⟩:=I.base.slot b o e n hb hx;obtain⟨sl',e2⟩:=slot b _ (neL b o e) hb (neC b o e hx) e1 (I.base.free b o e n hx);exact⟨sl',e2⟩
 .obtain⟨o',e1⟩:=I.base.there b o e hx;exact free b o' (neC b o e hx) e1 (I.base.free b o e n hx)
 .obtain⟨o',e1⟩:=I.base.there b o e hx;exact there b o' (neC b o e hx) e1
 .obtain⟨m1,e1⟩:=I.base.tbls b ps e;obtain⟨m2,e2⟩:=tbls b _ e1;exact⟨m1++m2,by rw[e2,Array.append_assoc]⟩
 .obtain⟨m,hn,hl⟩:=I.loc;refine⟨m,ns m hn,fun i x v e1 e2 e3=>?_⟩;obtain⟨u,r,l⟩:=hl i x v e1 e2 e3;refine⟨u,r,?_⟩;rcases l with l|⟨k,c,e,z⟩
  .exact .inl l
  .exact .inr ⟨k,c,e,cellK x c e _ z⟩
 .obtain⟨v,z⟩:=I.cell x c e;exact⟨v,cellK x c e v z⟩
 .obtain⟨m,⟨o,_,_,ho,_⟩,_⟩:=I.loc;exact free _ o (fun z=>(hch _ z).2.1 rfl) ho I.free
 .obtain⟨v,o,ho,hd⟩:=I.cell x c e;exact free c o (fun z=>(hch c z).2.2.1 x c e rfl) ho (I.freeC x c e)
 .obtain⟨e,n,ne,nf,d⟩:=I.pin p hp;have nch:p.1∉ch:=fun z=>(hch p.1 z).2.2.2 p hp rfl;exact⟨keep p.1 p.2 ne nf nch e (.inl n),free p.1 p.2 nch e n,ne,nf,d⟩
theorem Inv.un {t':Nat}(I:Inv X pins σ H s)(u:Un X.fs [] H H' s.heap h')(hok:HOk X.prog X.w H' h'):Inv X pins σ H' { s with heap:=h',toks:=t' }:=by obtain⟨m,⟨o,es,ep,ho,r⟩,_⟩:=id I.loc;obtain⟨sl,hL⟩:=u.any ho I.free (by simp);exact I.step (g':=s.gens) (d':=s.drawn) (ch:=[]) (fun _ z=>nomatch z) (fun b o _ hb _ e n=>u.keep b o e n hb (by simp)) (fun b o _ hb _ e n=>u.slot b o e n hb (by simp)) (fun b o _ e n=>u.free b o e n (by simp)) (fun b o _ e=>u.there b o e (by simp)) u.tups u.frzs u.tbls (fun m' hm=>by obtain⟨o',es',ep',ho',r'⟩:=hm;rw[ho]at ho';cases ho';exact⟨_,es',ep',hL,r'⟩) hok I.bare
theorem Inv.call {g':Array GenState}{t':Nat}{d':Drawn}{ch:List Addr}(I:Inv X pins σ H s)(u:Un (frs X.stack) ch H H' s.heap h')(hok:HOk X.prog X.w H' h')(hg:AllBare g')
 (hch:∀ b∈ch,(b∈X.ex\/X.s₀.heap.objs.size<=b)/\b≠X.env.locals/\(∀ x c,X.env.cells.lookup x=some c->c≠b)/\∀ p∈X.pn++pins,p.1≠b) :
 Inv X pins σ H' { s with heap:=h',gens:=g',drawn:=d',toks:=t' }:=by
 obtain⟨m,⟨o,es,ep,ho,r⟩,_⟩:=id I.loc;obtain⟨sl,hL⟩:=u.any ho I.free fun z=>(hch _ z).2.1 rfl;exact I.step (ch:=ch) hch (fun b o hL hb hc e n=>u.keep b o e n (fun z=>(HE.mp (I.stkSub b z)).elim hL hb) hc) (fun b o _ _ hc e n=>u.any e n hc) (fun b o hc e n=>u.free b o e n hc) (fun b o hc e=>u.there b o e hc) u.tups u.frzs u.tbls (fun m' hm=>by obtain⟨o',es',ep',ho',r'⟩:=hm;rw[ho]at ho';cases ho';exact⟨_,es',ep',hL,r'⟩) hok hg
theorem Inv.turned {t':Nat}{it:Addr}(I:Inv X pins σ H s)(k:∀ b o,b≠it->s.heap.get? b=some o->h'.get? b=some o)(hn:H it=none)(hL:it≠X.env.locals)
 (h1:it∈X.ex\/X.s₀.heap.objs.size<=it) (h2:∀ x c,X.env.cells.lookup x=some c->c≠it) (h3:∀ p∈X.pn++pins,p.1≠it):Inv X pins σ H { s with heap:=h',toks:=t' }:=by
 have nit:∀ b u,H b=some u->b≠it:=fun b u e z=>by rw[z,hn]at e;cases e
 refine I.step (g':=s.gens) (d':=s.drawn) (ch:=[it]) (fun b hb=>?_) (fun b o _ _ hc e _=>k b o (fun z=>hc (by simp[z])) e) (fun b o _ _ hc e _=>⟨o.slots,k b o (fun z=>hc (by simp[z])) e⟩) (fun _ _ _ _ n=>n)
  (fun b o hc e=>⟨o,k b o (fun z=>hc (by simp[z])) e⟩) (fun _ _ e=>e) (fun _ _ _ e=>e) (fun b ps e=>⟨#[],by rw[e];simp⟩) (fun m hm=>?_) (fun b u e=>?_) I.bare
 .have e:b=it:=by simpa using hb
  subst e;exact⟨h1,hL,h2,h3⟩
 .obtain⟨o,es,ep,ho,r⟩:=hm;exact⟨o,es,ep,k _ o (Jb hL) ho,r⟩
 .refine(I.hok b u e).stay (fun c v hc q=>k c v ?_ q) (fun _ q=>q) fun _ _ q=>q;rcases hc with z|z
  .rw[z];exact nit b u e
  .exact nit c _ z
theorem Inv.tok (I:Inv X pins σ H s)(t:Nat):Inv X pins σ H { s with toks:=t }:=I.un (h':=s.heap) (t':=t) Un.refl I.hok
theorem Inv.kept {t':Nat}(I:Inv X pins σ H s)(k:∀ b u,s.heap.get? b=some u->h'.get? b=some u):Inv X pins σ H { s with heap:=h',toks:=t' }:=I.un (Un.kept k) (I.hok.kept k)
theorem Inv.laid {a:Addr}{o:HO}{t':Nat}(I:Inv X pins σ H s)(k:∀ b u,s.heap.get? b=some u->h'.get? b=some u)(hp:s.heap.objs.size<=a)(new:ObjOk X.prog X.w (av H a o) h' a o) :
 Inv X pins σ (av H a o) { s with heap:=h',toks:=t' }:=I.un (Un.laid k hp (I.hok.fresh hp)) (I.hok.laid k hp new)
theorem Inv.write {x e:Addr}{o:HO}{t':Nat}(I:Inv X pins σ H s)(mu:DN (H x))(he:e=x\/H e=some (.own x))(k:∀ b u,b≠e->s.heap.get? b=some u->h'.get? b=some u)(heo:∃ u,h'.get? e=some u)
 (new:ObjOk X.prog X.w (av H x o) h' x o):Inv X pins σ (av H x o) { s with heap:=h',toks:=t' }:=I.un (Un.write mu he k heo) (I.hok.write mu he k heo new)
theorem Inv.pins_of {pins':List (Addr×Obj)}(I:Inv X pins σ H s)(h:∀ p∈pins',s.heap.get? p.1=some p.2/\H p.1=none/\p.1≠X.env.locals/\p.1∉X.fs/\∀ v,p.2.data≠.cell v):Inv X pins' σ H s:=⟨I.ok,I.os,I.bare,I.base,I.loc,I.cell,I.free,I.freeC,fun p hp=>(H_.mp hp).elim (fun z=>I.pin p (Ia _ z)) (h p),I.hok,I.len⟩
theorem nk {N:List Str}(hN:N.Nodup){i j:Nat}{x:Str}(a:N[i]?=some x)(b:N[j]?=some x):i=j:=by obtain⟨h1,e1⟩:=Hv.mp a;obtain⟨h2,e2⟩:=Hv.mp b;exact(List.getElem_inj hN).mp (e1.trans e2.symm)
theorem kG {M:Model}{A:Ly}{E:Lx->Ls->Prop}{i:Nat}{x:Str}{v:V}{u:Lx}{Q:Unit->Ls->Prop}(I:Inv X pins σ H s)(hN:X.N.Nodup)(hi:X.N[i]?=some x)(hx:xX X.env.scope x)(r:RelV v u)
 (h:∀ s',Inv X pins (σ.set i (some v)) H s'->(∃ a,Heap.SameBut a s.heap s'.heap/\(a=X.env.locals\/X.env.cells.lookup x=some a))->Q () s') (hf:autoParam (X.fn x=true\/X.env.scope.names.lookup x=some .local) LA._auto_1):wpAny M A (storeName X.env x u) Q E s:=by
 obtain⟨m,hn,hl⟩:=id I.loc;have hcls:(X.env.scope.kind==.class || (X.env.scope.kind==.module&&X.env.locals != X.env.globals))=false:=by rw[I.ok.kind];rfl
 have hiσ:i<σ.length:=by rw[I.len];exact(Hv.mp hi).1
 have cne:=I.cne;have tracked:∀{a:Addr}{h':Heap},(∃ o,s.heap.get? a=some o/\H a=none)->Heap.SameBut a s.heap h'->HOk X.prog X.w H h':=fun{a h'} ha hs b ob e=>by
  obtain⟨_,_,hfree⟩:=ha;refine(I.hok b ob e).stay (fun c w' hc q=>(hs.2 c ?_).trans q) (fun _ q=>q) fun _ _ q=>q;rintro rfl;rcases hc with rfl|hc
  .rw[hfree]at e;cases e
  .rw[hfree]at hc;cases hc
 rcases hx with hk|hk
 .refine wpAny_storeName_local hk hn (fun h' hn' hs=>?_) hcls;obtain⟨oL,_,_,hoL,_⟩:=id hn;refine h _ ⟨I.ok,I.os,I.bare,⟨fun b o e n hb hx=>?_,fun b o e n hb hx=>?_,I.base.free,fun b o e hx=>?_,I.base.tups,I.base.frzs,I.base.tbls⟩,⟨_,hn',fun j y v' e1 e2 e3=>?_⟩,fun y c e=>?_,I.free,I.freeC,fun p hp=>?_,tracked ⟨oL,hoL,I.free⟩ hs,by simpa using I.len⟩ ⟨_,hs,.inl rfl⟩
  .exact(hs.2 b (Ic (Il (HN e) I.ok.above))).trans (I.base.keep b o e n hb hx)
  .obtain⟨sl,e1⟩:=I.base.slot b o e n hb hx;exact⟨sl,(hs.2 b (Ic (Il (HN e) I.ok.above))).trans e1⟩
  .obtain⟨o',e1⟩:=I.base.there b o e hx;exact⟨o',(hs.2 b (Ic (Il (HN e) I.ok.above))).trans e1⟩
  .by_cases hj:j=i
   .subst hj;rw[hi]at e1;cases e1;rw[HI hiσ]at e2;cases e2;exact⟨u,r,.inl ⟨hk,by simp⟩⟩
   .rw[HM (Jb hj)]at e2;obtain⟨u',r',q⟩:=hl j y v' e1 e2 e3;refine⟨u',r',?_⟩;rcases q with⟨k,e⟩|⟨k,c,e,z⟩
    .refine .inl ⟨k,?_⟩;have:y≠x:=fun e=>hj (nk hN e1 (e▸hi));simp[this,e]
    .exact .inr ⟨k,c,e,z.sameBut hs (cne y c e)⟩
  .obtain⟨w',z⟩:=I.cell y c e;exact⟨w',z.sameBut hs (cne y c e)⟩
  .obtain⟨e,n,ne,nf,d⟩:=I.pin p hp;exact⟨(hs.2 p.1 ne).trans e,n,ne,nf,d⟩
 .have hfn:X.fn x=true:=by
   rcases hf with z|z
   .exact z
   .rw[z]at hk;cases hk
  obtain⟨c,hc⟩:=I.ok.has x (.inl hk);obtain⟨w',z⟩:=I.cell x c hc;refine wpAny_storeName_cell I.ok.kind hk hc z (fun h' hc' hs=>?_);obtain⟨oc,hoc,hocd⟩:=id z;refine h { s with heap:=h' } ⟨I.ok,I.os,I.bare,⟨fun b o e n hb hx=>?_,fun b o e n hb hx=>?_,I.base.free,fun b o e hx=>?_,I.base.tups,I.base.frzs,I.base.tbls⟩,⟨m,hn.sameBut hs (Jb (cne x c hc)),fun j y v' e1 e2 e3=>?_⟩,fun y c' e=>?_,I.free,I.freeC,fun p hp=>?_,tracked ⟨oc,hoc,I.freeC x c hc⟩ hs,by simpa using I.len⟩ ⟨c,hs,.inr hc⟩
  .exact(hs.2 b (Ic (Il (HN e) (I.ok.cab x c hfn hc)))).trans (I.base.keep b o e n hb hx)
  .obtain⟨sl,e1⟩:=I.base.slot b o e n hb hx;exact⟨sl,(hs.2 b (Ic (Il (HN e) (I.ok.cab x c hfn hc)))).trans e1⟩
  .obtain⟨o',e1⟩:=I.base.there b o e hx;exact⟨o',(hs.2 b (Ic (Il (HN e) (I.ok.cab x c hfn hc)))).trans e1⟩
  .by_cases hj:j=i
   .subst hj;rw[hi]at e1;cases e1;rw[HI hiσ]at e2;cases e2;exact⟨u,r,.inr ⟨.inl hk,c,hc,hc'⟩⟩
   .rw[HM (Jb hj)]at e2;obtain⟨u',r',q⟩:=hl j y v' e1 e2 e3;refine⟨u',r',?_⟩;rcases q with q|⟨k,c',e,z'⟩
    .exact .inl q
    .refine .inr ⟨k,c',e,z'.sameBut hs ?_⟩;rintro rfl;exact hj (nk hN e1 (I.ok.inj _ _ _ e hc▸hi))
  .by_cases hcc:c'=c
   .subst hcc;exact⟨_,hc'⟩
   .obtain⟨w2,z2⟩:=I.cell y c' e;exact⟨w2,z2.sameBut hs hcc⟩
  .obtain⟨e,n,ne,nf,d⟩:=I.pin p hp;refine⟨(hs.2 p.1 ?_).trans e,n,ne,nf,d⟩;intro q;rw[q,hoc]at e;have q':oc=p.2:=Iu e;exact d w' (by rw[<- q'];exact hocd)
theorem i9 {M:Model}{A:Ly}{E:Lx->Ls->Prop}{i:Nat}{x:Str}{v:V}{u:Lx}{Q:Unit->Ls->Prop}(I:Inv X pins σ H s)(hN:X.N.Nodup)(hi:X.N[i]?=some x)(hx:xX X.env.scope x)(r:RelV v u)
 (h:∀ s',Inv X pins (σ.set i (some v)) H s'->Q () s') (hf:autoParam (X.fn x=true\/X.env.scope.names.lookup x=some .local) LA._auto_1):wpAny M A (storeName X.env x u) Q E s:=
 kG I hN hi hx r (fun s' I' _=>h s' I') hf
theorem Inv.call' {s':Ls}{ch:List Addr}(I:Inv X pins σ H s)(ho:s'.os=s.os)(u:Un (frs X.stack) ch H H' s.heap s'.heap)(hok:HOk X.prog X.w H' s'.heap)(hg:AllBare s'.gens)
 (hch:∀ b∈ch,(b∈X.ex\/X.s₀.heap.objs.size<=b)/\b≠X.env.locals/\(∀ x c,X.env.cells.lookup x=some c->c≠b)/\∀ p∈X.pn++pins,p.1≠b):Inv X pins σ H' s':=by
 obtain⟨h',g',d',t',o'⟩:=s';have e:o'=s.os:=ho;subst e;exact I.call (g':=g') (t':=t') (d':=d') u hok hg hch
end
abbrev XK:=Lx->Option Addr->Hp->Prop
noncomputable abbrev St:=List (Option V)
abbrev VK:=V->Hp->Prop
abbrev TE:=St->Hp->VK->Prop
abbrev TT:=St->Hp->(Bool->Hp->Prop)->Prop
abbrev TA:=St->Hp->(List V->Hp->Prop)->Prop
structure Ends where
 nx:St->Hp->Prop
 rt:VK
 bk:St->Hp->Prop:=fun _ _=>False
 ct:St->Hp->Prop:=fun _ _=>False
abbrev TS:=Ends->St->Hp->Prop
def EP (X:Cx)(pins:List (Addr×Obj))(σ:St)(Q:VK)(u:Lx)(s':Ls):Prop:=∃ v H',Inv X pins σ H' s'/\RelV v u/\Q v H'
def TP (X:Cx)(pins:List (Addr×Obj))(σ:St)(Q:Bool->Hp->Prop)(b:Bool)(s':Ls):Prop:=∃ H',Inv X pins σ H' s'/\Q b H'
def AP (X:Cx)(pins:List (Addr×Obj))(σ:St)(Q:List V->Hp->Prop)(us:List Lx)(s':Ls):Prop:=∃ vs H',Inv X pins σ H' s'/\Vals vs us/\Q vs H'
def SP (X:Cx)(pins:List (Addr×Obj))(D:Ends)(f:Flow)(s':Ls):Prop:=
 match f with
 | .next=>∃ σ' H',Inv X pins σ' H' s'/\D.nx σ' H'
 | .brk=>∃ σ' H',Inv X pins σ' H' s'/\D.bk σ' H'
 | .cont=>∃ σ' H',Inv X pins σ' H' s'/\D.ct σ' H'
 | .ret u=>∃ v σ' H',Inv X pins σ' H' s'/\RelV v u/\D.rt v H'
def PE (X:Cx)(e:Expr)(t:TE):Prop:=∀(pins:List (Addr×Obj))(s:Ls)(σ:St)(H:Hp)(Q:VK),Inv X pins σ H s->t σ H Q->wpAny (model X.prog X.w) X.A (eval e X.env) (EP X pins σ Q) X.xe s
def PT (X:Cx)(e:Expr)(t:TT):Prop:=∀(pins:List (Addr×Obj))(s:Ls)(σ:St)(H:Hp)(Q:Bool->Hp->Prop),Inv X pins σ H s->t σ H Q->wpAny (model X.prog X.w) X.A (isTrue e X.env (eval e X.env)) (TP X pins σ Q) X.xe s
def PW (X:Cx)(e:Expr)(t:TT):Prop:=∀(whole:Sem Lx)(pins:List (Addr×Obj))(s:Ls)(σ:St)(H:Hp)(Q:Bool->Hp->Prop),Inv X pins σ H s->t σ H Q->wpAny (model X.prog X.w) X.A (isTrue e X.env whole) (TP X pins σ Q) X.xe s
theorem PW.pt {X:Cx}{e:Expr}{t:TT}(h:PW X e t):PT X e t:=h _
def PA (X:Cx)(es:List Expr)(t:TA):Prop:=∀(pos:Pos)(pins:List (Addr×Obj))(s:Ls)(σ:St)(H:Hp)(Q:List V->Hp->Prop),Inv X pins σ H s->t σ H Q->wpAny (model X.prog X.w) X.A (spliced (backTo pos (starEach es X.env))) (AP X pins σ Q) X.xe s
def PS (X:Cx)(st:Stmt)(t:TS):Prop:=∀(pins:List (Addr×Obj))(s:Ls)(σ:St)(H:Hp)(D:Ends),Inv X pins σ H s->t D σ H->wpAny (model X.prog X.w) X.A (exec st X.env) (SP X pins D) X.xe s
def PSs (X:Cx)(st:List Stmt)(t:TS):Prop:=∀(pins:List (Addr×Obj))(s:Ls)(σ:St)(H:Hp)(D:Ends),Inv X pins σ H s->t D σ H->wpAny (model X.prog X.w) X.A (execs st X.env) (SP X pins D) X.xe s
theorem bn {α:Type}{t:Sem α}{Q Q':α->Ls->Prop}{M:Model}{A:Ly}{E:Lx->Ls->Prop}{s:Ls}(h:wpAny M A t Q E s)(hQ:∀ a s,Q a s->Q' a s):wpAny M A t Q' E s:=Jo h hQ fun _ _ x=>x
section
variable {X:Cx}
noncomputable def fD (i:Nat):TE:=fun σ H Q=>∃ v,σ[i]?=some (some v)/\Q v H
noncomputable def tC (v:V):TE:=fun _ H Q=>Q v H
theorem Ba {i:Nat} {x:Str} {pos:Pos} (hN:X.N[i]?=some x) (hv:Vis X.env.scope x) (hd:autoParam ((x==("__debug__" : Str))=false) Lz._auto_1) (hcd:autoParam ((x==("__classdict__" : Str))=false) Lz._auto_1):PE X (.Name x pos) (fD i):=by
 intro pins s σ H Q I h;obtain⟨v,e,h⟩:=h;obtain⟨m,hn,hl⟩:=I.loc;obtain⟨u,r,l⟩:=hl i x v hN e hv;have fin:EP X pins σ Q u s:=⟨v,H,I,r,h⟩;rcases l with⟨hk,hm⟩|⟨hk,c,hc,hcell⟩
 .exact wpAny_Name (wpAny_loadName_local I.ok.kind hk hn hm fin) hd
 .rcases hk with hk|hk
  .exact wpAny_Name (wpAny_loadName_cell I.ok.kind hk hc hcell fin) hd
  .exact wpAny_Name (wpAny_loadName_free I.ok.kind hk hc hcell fin hcd) hd
theorem uJ {i j pos}:PE X (.Constant (.int i) j pos) (tC (.int i)):=fun _ _ _ H _ I h=>wpAny_Constant_int ⟨.int i,H,I.tok _,⟨_,rfl⟩,h⟩
theorem DO {b j pos}:PE X (.Constant (.bool b) j pos) (tC (.bl b)):=fun _ _ _ H _ I h=>Constant_bool ⟨.bl b,H,I,rfl,h⟩
def Gl (X:Cx)(x:Str):Prop:=X.env.kindOf x=some .globalImplicit
theorem xY {E:Lx->Ls->Prop}{pins:List (Addr×Obj)}{s:Ls}{σ:St}{H:Hp}{x:Str}{u:Lx}{pos:Pos}{Q:Lx->Ls->Prop}(I:Inv X pins σ H s)(hg:Gl X x)(hm:X.mg x=some u)(h:Q u s)
 (hd:autoParam ((x==("__debug__" : Str))=false) Lz._auto_1):wpAny (model X.prog X.w) X.A (eval (.Name x pos) X.env) Q E s:=
 Calls.Name_function_global I.ok.kind hg (Calls.loadGlobal_global (by rw[I.ok.glob];exact I.mod.glob.keeps I.bk) hm h) hd
theorem i_ {E:Lx->Ls->Prop}{pins:List (Addr×Obj)}{s:Ls}{σ:St}{H:Hp}{x:Str}{u:Lx}{pos:Pos}{Q:Lx->Ls->Prop}(I:Inv X pins σ H s)(hg:Gl X x)(hm:X.mg x=none)(hv:bootBuiltins x=some u)(h:Q u s)
 (hn:autoParam (x≠"__name__") Lz._auto_1) (hd:autoParam ((x==("__debug__" : Str))=false) Lz._auto_1):wpAny (model X.prog X.w) X.A (eval (.Name x pos) X.env) Q E s:=by
 obtain⟨mb,h1,h2⟩:=I.mod.blt;exact Calls.Name_function_global I.ok.kind hg (Calls.loadGlobal_builtin (by rw[I.ok.glob];exact I.mod.glob.keeps I.bk) hm (by rw[I.ok.blt];exact h1.keeps I.bk) ((h2 x hn).trans hv) h) hd
theorem xZ {x:Str} {v:V} {u:Lx} {pos:Pos} (hg:Gl X x) (hm:X.mg x=none) (hv:bootBuiltins x=some u) (r:RelV v u) (hn:autoParam (x≠"__name__") Lz._auto_1) (hd:autoParam ((x==("__debug__" : Str))=false) Lz._auto_1):PE X (.Name x pos) (tC v):=fun _ _ _ H _ I h=>i_ I hg hm hv ⟨v,H,I,r,h⟩ hn hd
variable {a b:Expr}{ta tb:TE}{pos:Pos}
variable {tA tB':TT}{aW:List Expr}
noncomputable def G8 (t u:TT):TT:=fun σ H Q=>t σ H fun c H1=>if c=true then Q true H1 else u σ H1 Q
noncomputable def F4 (t:TT):TT:=fun σ H Q=>t σ H fun c H1=>Q (!c) H1
theorem Bb (ha:PT X a tA):PW X (.BoolOp .Or [a] pos) tA:=by
 intro wh pins s σ H Q I h;refine isTrue_or (bn (ha pins s σ H Q I h) fun c s1 e=>?_);cases c with
 |false=>exact isTrue_or_nil e
 |true=>exact e
theorem DP (ha:PT X a tA)(hb:PW X (.BoolOp .Or (b::aW) pos) tB'):PW X (.BoolOp .Or (a::b::aW) pos) (G8 tA tB'):=by
 intro wh pins s σ H Q I h;refine isTrue_or (bn (ha pins s σ H _ I h) fun c s1 ⟨H1,I1,q1⟩=>?_);cases c with
 |true=>exact⟨H1,I1,q1⟩
 |false=>exact hb wh pins s1 σ H1 Q I1 q1
theorem Bc (ha:PT X a tA):PT X (.UnaryOp .Not a pos) (F4 tA):=by intro pins s σ H Q I h;exact isTrue_not (ha pins s σ H (fun c H1=>Q (!c) H1) I h)
noncomputable def DQ (ta tb:TE):TE:=fun σ H Q=>ta σ H fun x H1=>∃ c,x=.bl c/\if c=true then tb σ H1 Q else Q (.bl false) H1
noncomputable def DR (ta:TE):TE:=fun σ H Q=>ta σ H fun x H1=>∃ c,x=.bl c/\Q (.bl (!c)) H1
theorem Bd {op}{t:TE}(h:PE X a t):PE X (.BoolOp op [a] pos) t:=fun pins s σ H Q I hw=>BoolOp_one (h pins s σ H Q I hw)
theorem Be (ha:PE X a ta)(hb:PE X (.BoolOp .And (b::aW) pos) tb):PE X (.BoolOp .And (a::b::aW) pos) (DQ ta tb):=by
 intro pins s σ H Q I h;refine BoolOp_and (bn (ha pins s σ H _ I h) fun v s1 ⟨x,H1,I1,r1,q1⟩=>?_);obtain⟨c,rfl,q1⟩:=q1;cases r1;refine Jw ?_;cases c with
 |true=>exact hb pins s1 σ H1 Q I1 q1
 |false=>exact⟨.bl false,H1,I1,rfl,q1⟩
theorem Bf (ha:PE X a ta):PE X (.UnaryOp .Not a pos) (DR ta):=by intro pins s σ H Q I h;refine UnaryOp_ (bn (ha pins s σ H _ I h) fun v s1 ⟨x,H1,I1,r1,q1⟩=>?_);obtain⟨c,rfl,q1⟩:=q1;cases r1;exact not_of (Jw ⟨.bl (!c),H1,I1,rfl,q1⟩)
end
def SqL (K:Lu)(H:Hp)(a:Addr)(xs:List V):Prop:=
 Rd H a (.lst xs)\/
  ∃(o:Obj)(its:Array Lx)(n:Nat),K.lookup a=some o/\o.cls=.type "list"/\o.dict=none/\o.data=.seq its n/\its.size<=sizeLine/\Vals xs its.toList
def SqT (K:Lu)(H:Hp)(a:Addr)(xs:List V):Prop:=
 Rd H a (.tup xs)\/
  ∃(o:Obj)(its:Array Lx)(n:Nat),K.lookup a=some o/\o.cls=.type "tuple"/\o.data=.seq its n/\its.size<=sizeLine/\Vals xs its.toList
noncomputable def F5:Lx->Option V
 | .none=>some .non
 | .bool b=>some (.bl b)
 | .int i _=>some (.int i)
 | .str x _=>some (.str x)
 | .bytes b _=>some (.byt b)
 | .float b _=>some (.flt b)
 | .ref a=>some (.ref a)
 | .type n=>some (.ty n)
 |_=>none
theorem RelV.abs {x:V}{u:Lx}(r:RelV x u):F5 u=some x:=by
 cases x with
 |non=>cases r;rfl
 |bl _=>cases r;rfl
 |int _=>obtain⟨t,rfl⟩:=r;rfl
 |str _=>obtain⟨t,rfl⟩:=r;rfl
 |byt _=>obtain⟨t,rfl⟩:=r;rfl
 |flt _=>obtain⟨t,rfl⟩:=r;rfl
 |ref _=>cases r;rfl
 |ty _=>cases r;rfl
theorem RelV.inj {x y:V}{u:Lx}(r:RelV x u)(q:RelV y u):x=y:=Iu (r.abs.symm.trans q.abs)
theorem Vals.inj:∀{xs ys:List V}{us:List Lx},Vals xs us->Vals ys us->xs=ys
 |_,_,_,.nil,.nil=>rfl
 |_,_,_,.cons r t,.cons r' t'=>by rw[r.inj r',Vals.inj t t']
section
variable {X:Cx}{pins:List (Addr×Obj)}{σ:St}{H:Hp}{s:Ls}{a:Addr}{xs ys:List V}
theorem SqL.of {K:Lu}(h:H a=some (.lst xs)):SqL K H a xs:=.inl (.inl h)
theorem SqT.of {K:Lu}(h:H a=some (.tup xs)):SqT K H a xs:=.inl (.inl h)
theorem Inv.list (I:Inv X pins σ H s)(h:SqL X.K H a xs):∃ its:List Lx,Vals xs its/\PlainL s.heap a its.toArray/\xs.length<=sizeLine:=by
 rcases h with h|⟨o,its,n,hk,hc,hd,hs,hz,r⟩
 .obtain⟨z,its,n,r,e⟩:=h.ok I.hok;exact⟨its,r,⟨_,n,e,rfl,rfl,rfl⟩,z⟩
 .refine⟨its.toList,r,⟨o,n,I.kIn a o hk,hc,hd,by simpa using hs⟩,?_⟩;have e:=r.length;simp only[HX]at e;omega
theorem Inv.tuple (I:Inv X pins σ H s)(h:SqT X.K H a xs):∃ its:List Lx,Vals xs its/\IsTup s.heap a its.toArray/\xs.length<=sizeLine:=by
 rcases h with h|⟨o,its,n,hk,hc,hs,hz,r⟩
 .obtain⟨z,its,r,p⟩:=h.ok I.hok;exact⟨its,r,p,z⟩
 .refine⟨its.toList,r,⟨o,I.kIn a o hk,hc,n,by simpa using hs⟩,?_⟩;have e:=r.length;simp only[HX]at e;omega
theorem Inv.list_inj (I:Inv X pins σ H s)(h:SqL X.K H a xs)(h':SqL X.K H a ys):xs=ys:=by
 obtain⟨its,r,⟨o,n,e,_,_,d⟩,_⟩:=I.list h;obtain⟨its',r',⟨o',n',e',_,_,d'⟩,_⟩:=I.list h';rw[e]at e';cases e';rw[d]at d';injection d' with d1 _;have:its=its':=by simpa using Ie Array.toList d1
 subst this;exact r.inj r'
theorem Inv.tuple_inj (I:Inv X pins σ H s)(h:SqT X.K H a xs)(h':SqT X.K H a ys):xs=ys:=by
 obtain⟨its,r,⟨o,e,_,n,d⟩,_⟩:=I.tuple h;obtain⟨its',r',⟨o',e',_,n',d'⟩,_⟩:=I.tuple h';rw[e]at e';cases e';rw[d]at d';injection d' with d1 _;have:its=its':=by simpa using Ie Array.toList d1
 subst this;exact r.inj r'
end
noncomputable abbrev Cx.wish (X:Cx)(E:Lx->Ls->Prop):Cx:={ X with xe:=E }
abbrev Cx.nox (X:Cx):Cx:=X.wish fun _ _=>False
theorem Cx.Ok.wish {X:Cx}(ok:X.Ok)(E:Lx->Ls->Prop):(X.wish E).Ok:=⟨ok.mod,ok.kind,ok.glob,ok.blt,ok.above,ok.inj,ok.has,ok.cab,ok.hd,ok.frames,ok.stk,ok.exf,ok.bs,ok.bsz,ok.noex,ok.exfs,ok.funs,ok.frf,ok.kt⟩
theorem Cx.Ok.unwish {X:Cx}{E:Lx->Ls->Prop}(ok:(X.wish E).Ok):X.Ok:=⟨ok.mod,ok.kind,ok.glob,ok.blt,ok.above,ok.inj,ok.has,ok.cab,ok.hd,ok.frames,ok.stk,ok.exf,ok.bs,ok.bsz,ok.noex,ok.exfs,ok.funs,ok.frf,ok.kt⟩
section
variable {X:Cx}{pins:List (Addr×Obj)}{σ:St}{H:Hp}{s:Ls}{E:Lx->Ls->Prop}
theorem Inv.wish (I:Inv X pins σ H s)(E:Lx->Ls->Prop):Inv (X.wish E) pins σ H s:=⟨I.ok.wish E,I.os,I.bare,I.base,I.loc,I.cell,I.free,I.freeC,I.pin,I.hok,I.len⟩
theorem Inv.unwish (I:Inv (X.wish E) pins σ H s):Inv X pins σ H s:=⟨I.ok.unwish,I.os,I.bare,I.base,I.loc,I.cell,I.free,I.freeC,I.pin,I.hok,I.len⟩
theorem SP.unwish {D:Ends}{f:Flow}{s':Ls}(h:SP (X.wish E) pins D f s'):SP X pins D f s':=by
 cases f with
 |next=>obtain⟨σ',H',I,q⟩:=h;exact⟨σ',H',I.unwish,q⟩
 |brk=>obtain⟨σ',H',I,q⟩:=h;exact⟨σ',H',I.unwish,q⟩
 |cont=>obtain⟨σ',H',I,q⟩:=h;exact⟨σ',H',I.unwish,q⟩
 |ret u=>obtain⟨v,σ',H',I,r,q⟩:=h;exact⟨v,σ',H',I.unwish,r,q⟩
theorem PSs.nox {st:List Stmt}{t:TS}(h:PSs X.nox st t):PSs X st t:=fun pins s σ H D I hw=>Jo (h pins s σ H D (I.wish _) hw) (fun _ _ q=>q.unwish) fun _ _ z=>False.elim z
end
section
variable {X:Cx}{st:Stmt}{aW:List Stmt}{t u:TS}{e:Expr}{te:TE}{pos:Pos}
noncomputable def DS:TS:=fun D σ H=>D.nx σ H
noncomputable def F6 (t u:TS):TS:=fun D σ H=>t { D with nx:=u D } σ H
theorem x5:PSs X [] DS:=fun _ _ σ H _ I h=>KZ ⟨σ,H,I,h⟩
theorem uK (h1:PS X st t)(h2:PSs X aW u):PSs X (st::aW) (F6 t u):=by
 intro pins s σ H D I h;refine wpAny_execs_cons (bn (h1 pins s σ H { D with nx:=u D } I h) fun f s1 q=>?_);cases f with
 |next=>obtain⟨σ',H',I',q⟩:=q;exact h2 pins s1 σ' H' D I' q
 |ret v=>exact q
 |brk=>exact q
 |cont=>exact q
theorem qG (h1:PS X st t):PSs X [st] t:=by
 intro pins s σ H D I h;refine wpAny_execs_cons (bn (h1 pins s σ H D I h) fun f s1 q=>?_);cases f with
 |next=>exact KZ q
 |ret v=>exact q
 |brk=>exact q
 |cont=>exact q
theorem Inv.quiet {pins:List (Addr×Obj)}{σ:St}{H:Hp}{s:Ls}(I:Inv X pins σ H s):interactive X.env=false:=by simp[interactive,I.ok.kind]
noncomputable def uL (te:TE):TS:=fun D σ H=>te σ H fun _ H1=>D.nx σ H1
theorem lQ (he:PE X e te)(hs:autoParam (swapsWith e none pos.line X.env=pure false) LF._auto_1):PS X (.Expr e pos) (uL te):=by intro pins s σ H D I h;exact wpAny_Expr_any (bn (he pins s σ H _ I h) fun v s1 ⟨x,H1,I1,r1,q1⟩=>⟨σ,H1,I1,q1⟩) I.quiet hs
noncomputable def F7 (te:TE):TS:=fun D σ H=>te σ H D.rt
theorem Bg (he:PE X e te):PS X (.Return (some e) pos) (F7 te):=by intro pins s σ H D I h;exact wpAny_Return_some (bn (he pins s σ H _ I h) fun v s1 ⟨x,H1,I1,r1,q1⟩=>⟨x,σ,H1,I1,r1,q1⟩)
noncomputable def F8 (c:TT)(t u:TS):TS:=fun D σ H=>c σ H fun b H1=>if b=true then t D σ H1 else u D σ H1
theorem DU {c:Expr}{a b:List Stmt}{tc:TT}(hc:PT X c tc)(ha:PSs X a t)(hb:PSs X b u):PS X (.If c a b pos) (F8 tc t u):=by
 intro pins s σ H D I h;refine wpAny_If (bn (hc pins s σ H _ I h) fun d s1 ⟨H1,I1,q1⟩=>?_);cases d with
 |true=>exact ha pins s1 σ H1 D I1 q1
 |false=>exact hb pins s1 σ H1 D I1 q1
end
abbrev TG:=V->St->Hp->(St->Hp->Prop)->Prop
abbrev As:=List V->St->Hp->(St->Hp->Prop)->Prop
def PG (X:Cx)(target:Expr)(t:TG):Prop:=
 ∀(pins:List (Addr×Obj))(s:Ls)(σ:St)(H:Hp)(v:V)(u:Lx)(Q:St->Hp->Prop),Inv X pins σ H s->RelV v u->t v σ H Q->
  wpAny (model X.prog X.w) X.A (assign target X.env u) (fun _ s'=>∃ σ' H',Inv X pins σ' H' s'/\Q σ' H') X.xe s
def Bh (X:Cx)(ts:List Expr)(t:As):Prop:=
 ∀(pins:List (Addr×Obj))(s:Ls)(σ:St)(H:Hp)(vs:List V)(us:List Lx)(Q:St->Hp->Prop),Inv X pins σ H s->Vals vs us->t vs σ H Q->
  wpAny (model X.prog X.w) X.A (assignInOrder ((assignEach ts X.env).map (·.2)) us) (fun _ s'=>∃ σ' H',Inv X pins σ' H' s'/\Q σ' H') X.xe s
abbrev Bi:=V->V->V->Hp->(Hp->Prop)->Prop
def DV (X:Cx)(t:Bi):Prop:=
 ∀(pins:List (Addr×Obj))(s:Ls)(σ:St)(H:Hp)(o i v:V)(ov iv u:Lx)(Q:Hp->Prop),Inv X pins σ H s->RelV o ov->RelV i iv->RelV v u->t o i v H Q->
  wpAny (model X.prog X.w) X.A (setItem ov iv u) (fun _ s'=>∃ H',Inv X pins σ H' s'/\Q H') X.xe s
abbrev FL:=V->V->Hp->VK->Prop
def GX (X:Cx)(op:Operator)(t:FL):Prop:=
 ∀(pins:List (Addr×Obj))(s:Ls)(σ:St)(H:Hp)(x y:V)(v u:Lx)(Q:VK),Inv X pins σ H s->RelV x v->RelV y u->t x y H Q->
  wpAny (model X.prog X.w) X.A (inplaceOp op v u) (EP X pins σ Q) X.xe s
section
variable {X:Cx}{pos:Pos}
noncomputable def ii (i:Nat):TG:=fun v σ H Q=>Q (σ.set i (some v)) H
theorem iQ {i:Nat}{x:Str}(hN:X.N.Nodup)(hi:X.N[i]?=some x)(hx:xX X.env.scope x)(hf:autoParam (X.fn x=true\/X.env.scope.names.lookup x=some .local) LA._auto_1):PG X (.Name x pos) (ii i):=by intro pins s σ H v u Q I r h;exact wpAny_assign_Name (i9 I hN hi hx r (fun s' I'=>⟨_,H,I',h⟩) hf)
noncomputable def DW:As:=fun vs σ H Q=>vs=[]/\Q σ H
noncomputable def nq (t:TG)(u:As):As:=fun vs σ H Q=>∃ v r,vs=v::r/\t v σ H fun σ' H'=>u r σ' H' Q
theorem qH:Bh X [] DW:=by intro pins s σ H vs us Q I r h;obtain⟨e,h⟩:=h;subst e;cases r;exact assignInOrder_nil ⟨σ,H,I,h⟩
theorem cb {e:Expr}{es:List Expr}{t:TG}{u:As}(h1:PG X e t)(h2:Bh X es u)
 (hs:autoParam ((assignEach (e::es) X.env).map (·.2)=assign e X.env::(assignEach es X.env).map (·.2)) LF._auto_1):Bh X (e::es) (nq t u):=by
 intro pins s σ H vs us Q I r h;obtain⟨v,vr,e1,h⟩:=h;subst e1;cases r with
 |cons r rr=>rw[hs];refine assignInOrder_cons (bn (h1 pins s σ H _ _ _ I r h) fun _ s1 ⟨σ1,H1,I1,q1⟩=>?_);exact h2 pins s1 σ1 H1 _ _ Q I1 rr q1
noncomputable def DX (K:Lu)(n:Nat)(t:As):TG:=fun v σ H Q=>∃ a xs,v=.ref a/\SqT K H a xs/\xs.length=n/\t xs σ H Q
theorem uM {es:List Expr}{k:Nat}{t:As}{n:Nat}(hc:X.calm=true)(h:Bh X es t)
 (hn:autoParam ((assignEach es X.env).length=n) LF._auto_1) (hst:autoParam ((assignEach es X.env).findIdx? (·.1)=none) LF._auto_1):PG X (.Tuple es k pos) (DX X.K n t):=by
 intro pins s σ H v u Q I r hw;obtain⟨a,xs,e1,hq,hl,hw⟩:=hw;subst e1;cases r;obtain⟨its,rv,ht,hz⟩:=I.tuple hq;refine assign_Tuple_tuple (I.ok.hd hc) ht (by simp[hn,<- hl,rv.length]) hst fun h' hx=>?_;have I1:Inv X pins σ H { s with heap:=h' }:=I.kept (t':=s.toks) fun b o e=>hx b o (Ic (HN e)) e;exact h pins _ σ H xs _ Q I1 (by simpa using rv) hw
noncomputable def F9 (to ti:TE)(t:Bi):TG:=fun v σ H Q=>to σ H fun o H1=>ti σ H1 fun i H2=>t o i v H2 fun H3=>Q σ H3
theorem Bj {o i:Expr}{to ti:TE}{t:Bi}(ho:PE X o to)(hi:PE X i ti)(hs:DV X t)
 (ha:autoParam (∀ v,assign (.Subscript o i pos) X.env v=(do
   let ov <- holding [v] (eval o X.env)
   let iv <- holding [v,ov] (eval i X.env)
   standAt pos
   holding [v,ov,iv] (setItem ov iv v)
   release [v,ov,iv] [])) LC._auto_1):PG X (.Subscript o i pos) (F9 to ti t):=by
 intro pins s σ H v u Q I r h;rw[ha];refine Hs (Iz (bn (ho pins s σ H _ I h) fun ov s1 ⟨x,H1,I1,r1,q1⟩=>?_));refine Hs (Iz (bn (hi pins s1 σ H1 _ I1 q1) fun iv s2 ⟨y,H2,I2,r2,q2⟩=>?_));refine Hs (KS (Hs (Iz (bn (hs pins s2 σ H2 x y v ov iv u _ I2 r1 r2 r q2) fun _ s3 ⟨H3,I3,q3⟩=>?_))));exact wpAny_release ⟨σ,H3,I3,q3⟩
noncomputable def x8 (te:TE)(g:TG):TS:=fun D σ H=>te σ H fun x H1=>g x σ H1 D.nx
theorem Bk {tg e:Expr}{te:TE}{g:TG}(he:PE X e te)(hg:PG X tg g)(hs:autoParam (swapsWithSole [tg] e pos.line X.env=pure false) LF._auto_1)(hw:autoParam (swappedStores [tg] e X.env=pure none) LF._auto_1)
 (h1:autoParam ((assignEach [tg] X.env).map (·.2)=[assign tg X.env]) LF._auto_1):PS X (.Assign [tg] e pos) (x8 te g):=by
 intro pins s σ H D I h;refine wpAny_Assign_stores (bn (he pins s σ H _ I h) fun v s1 ⟨x,H1,I1,r1,q1⟩=>?_) hs hw;rw[h1];exact bn (hg pins s1 σ H1 x v _ I1 r1 q1) fun _ s2 q=>q
theorem uN {i:Nat}{x:Str}{e:Expr}{te:TE}{pos':Pos}(hN:X.N.Nodup)(hi:X.N[i]?=some x)(hx:xX X.env.scope x)(he:PE X e te)(hs:autoParam (swapsWith e (some (.Name x pos')) pos.line X.env=pure false) LF._auto_1)(hf:autoParam (X.fn x=true\/X.env.scope.names.lookup x=some .local) LA._auto_1) :
 PS X (.Assign [.Name x pos'] e pos) (x8 te (ii i)):=by
 intro pins s σ H D I h;refine wpAny_Assign_Name (bn (he pins s σ H _ I h) fun v s1 ⟨y,H1,I1,r1,q1⟩=>?_) hs;exact i9 I1 hN hi hx r1 (fun s2 I2=>⟨_,H1,I2,q1⟩) hf
noncomputable def F_ (i:Nat)(te:TE)(ti:FL):TS:=fun D σ H=>∃ x,σ[i]?=some (some x)/\te σ H fun y H1=>ti x y H1 fun z H2=>D.nx (σ.set i (some z)) H2
theorem Bl {i:Nat}{x:Str}{e:Expr}{te:TE}{op:Operator}{ti:FL}{pos':Pos}(hN:X.N.Nodup)(hi:X.N[i]?=some x)(hx:xX X.env.scope x)(he:PE X e te)(ho:GX X op ti)(hf:autoParam (X.fn x=true\/X.env.scope.names.lookup x=some .local) LA._auto_1) :
 PS X (.AugAssign (.Name x pos') op e pos) (F_ i te ti):=by
 intro pins s σ H D I h;obtain⟨v,e1,h⟩:=h;obtain⟨m,hn,hl⟩:=I.loc;have vis:Vis X.env.scope x:=by rcases hx with k|k;exact .inl k;exact .inr (.inl k)
 obtain⟨u,r,l⟩:=hl i x v hi e1 vis;refine wpAny_AugAssign_Name ?_;have go:wpAny (model X.prog X.w) X.A (eval e X.env) (fun w s₂=>wpAny (model X.prog X.w) X.A (inplaceOp op u w) (fun r s₃=>wpAny (model X.prog X.w) X.A (storeName X.env x r) (fun _=>SP X pins D .next) X.xe s₃) X.xe s₂) X.xe s:=by refine bn (he pins s σ H _ I h) fun w s1 ⟨y,H1,I1,r1,q1⟩=>?_;refine bn (ho pins s1 σ H1 v y u w _ I1 r r1 q1) fun z s2 ⟨zv,H2,I2,r2,q2⟩=>?_;exact i9 I2 hN hi hx r2 (fun s3 I3=>⟨_,H2,I3,q2⟩) hf
 rcases l with⟨hk,hm⟩|⟨hk,c,hc,hcell⟩
 .exact wpAny_loadName_local I.ok.kind hk hn hm go
 .rcases hk with hk|hk
  .exact wpAny_loadName_cell I.ok.kind hk hc hcell go
  .rcases hx with k|k
   .have:X.env.scope.names.lookup x=some .free:=hk;rw[k]at this;cases this
   .have:X.env.scope.names.lookup x=some .free:=hk;rw[k]at this;cases this
noncomputable def G9 (f:Int->Int->Int):FL:=fun x y H Q=>∃ i j,x=.int i/\y=.int j/\Q (.int (f i j)) H
theorem Bm:GX X .Add (G9 fun i j=>i+j):=by intro pins s σ H x y v u Q I r1 r2 h;obtain⟨i,j,e1,e2,q⟩:=h;subst e1;subst e2;obtain⟨t,rfl⟩:=r1;obtain⟨t',rfl⟩:=r2;exact iadd_int ⟨.int _,H,I.tok _,⟨_,rfl⟩,q⟩
def Bn (c:TT)(tb:TS):TS:=fun D σ H=>∃ W:Nat->St->Hp->Prop,(∃ m,W m σ H)/\∀ m σ H,W m σ H->
 c σ H fun b H1=>if b=true then ∃ N:St->Hp->Prop,(∀ σ' H',N σ' H'->∃ m',m'<m/\W m' σ' H')/\tb { D with nx:=N,ct:=N,bk:=D.nx } σ H1 else D.nx σ H1
theorem uO {c:Expr}{body:List Stmt}{tc:TT}{tb:TS}(hp:PassesOwn (model X.prog X.w) X.A X.env X.xe)(hc:PT X c tc)(hb:PSs X body tb):PS X (.While c body [] pos) (Bn tc tb):=by
 intro pins s σ H D I h;obtain⟨W,⟨m0,w0⟩,turn⟩:=h;refine wpAny_While (codeAny_whileLoop (fun n s'=>∃ σ' H',Inv X pins σ' H' s'/\W n σ' H') ?_ m0 ⟨σ,H,I,w0⟩);rintro n s1 ⟨σ1,H1,I1,w1⟩;refine JP hp (bn (hc pins s1 σ1 H1 _ I1 (turn n σ1 H1 w1)) fun b s2 ⟨H2,I2,q2⟩=>?_);cases b with
 |true=>
  obtain⟨N,hN,q2⟩:=q2;rw[Hx rfl];refine JP hp (bn (hb pins s2 σ1 H2 _ I2 q2) fun f s3 q3=>?_);cases f with
  |next=>obtain⟨σ3,H3,I3,n3⟩:=q3;obtain⟨m',hm,w3⟩:=hN σ3 H3 n3;exact⟨m',hm,σ3,H3,I3,w3⟩
  |cont=>obtain⟨σ3,H3,I3,n3⟩:=q3;obtain⟨m',hm,w3⟩:=hN σ3 H3 n3;exact⟨m',hm,σ3,H3,I3,w3⟩
  |brk=>exact q3
  |ret v=>exact q3
 |false=>rw[Hz Kv];exact KZ ⟨σ1,H2,I2,q2⟩
end
structure It where
 go:Nat->Hp->Prop
 yld:Nat->Hp->V->Hp->Prop
 stop:Nat->Hp->Prop
def FpOk (X:Cx)(pins:List (Addr×Obj))(H:Hp)(b:Addr):Prop:=H b=none/\b≠X.env.locals/\b∉X.fs/\(b∈X.ex\/X.s₀.heap.objs.size<=b)/\(∀ x c,X.env.cells.lookup x=some c->c≠b)/\∀ p∈X.pn++pins,p.1≠b
theorem Inv.fpOk {X:Cx}{pins:List (Addr×Obj)}{σ:St}{H H':Hp}{s:Ls}{b:Addr}(I:Inv X pins σ H s)(hb:s.heap.objs.size<=b)(hn:H' b=none):FpOk X pins H' b:=by
 refine⟨hn,Kr (Il I.lt hb),I.nofs hb,.inr (HS I.sz hb),fun x c e z=>?_,fun p hp z=>?_⟩
 .obtain⟨v,q⟩:=I.cell x c e;exact absurd (Il q.lt (by rw[z];exact hb)) (JA _)
 .exact absurd (Il (HN (I.pin p hp).1) (by rw[z];exact hb)) (JA _)
structure Turn (P:Lw) (w:World) (K:Lu) (tg:Expr) (J:It) (fp:List Addr) (it:Addr) (tn:Nat->Heap->Prop):Prop where
 mem:it∈fp
 obj:∀ i h,tn i h->∀ b∈fp,∃ o,h.get? b=some o/\∀ v,o.data≠.cell v
 keep:∀ i h h',tn i h->(∀ b∈fp,∀ o,h.get? b=some o->h'.get? b=some o)->tn i h'
 item:∀(X:Cx),X.prog=P->X.w=w->X.K=K->X.calm=true->∀(i:Nat)(pins:List (Addr×Obj))(s:Ls)(σ:St)(H:Hp)(E:Lx->Ls->Prop),Inv X pins σ H s->(∀ b∈fp,FpOk X pins H b)->tn i s.heap->J.go i H->
  wpAny (model P w) X.A (pyNext (.ref it)) (fun r s1=>∃ u,r=some u/\
   wpAny (model P w) X.A (letOwnedTupleGo tg (.ref it) u) (fun _ s2=>∃ x H',Inv X pins σ H' s2/\RelV x u/\J.yld i H x H'/\tn (i+1) s2.heap/\∀ b∈fp,H' b=none) E s1) E s
 done:∀(X:Cx),X.prog=P->X.w=w->X.K=K->X.calm=true->∀(i:Nat)(pins:List (Addr×Obj))(s:Ls)(σ:St)(H:Hp)(E:Lx->Ls->Prop),Inv X pins σ H s->(∀ b∈fp,FpOk X pins H b)->tn i s.heap->J.stop i H->
  wpAny (model P w) X.A (pyNext (.ref it)) (fun r s1=>r=none/\Inv X pins σ H s1) E s
 self:∀(A:Ly)(i:Nat)(s:Ls)(Q:Lx->Ls->Prop)(E:Lx->Ls->Prop),tn i s.heap->Q (.ref it) s->wpAny (model P w) A (pyIter (.ref it)) Q E s
abbrev TI:=St->Hp->(It->Hp->Prop)->Prop
def Ga (X:Cx)(pins:List (Addr×Obj))(σ:St)(tg:Expr)(R:It->Hp->Prop)(itv:Lx)(s2:Ls):Prop:=∃(it:Addr)(fp:List Addr)(tn:Nat->Heap->Prop)(J:It)(H':Hp),itv=.ref it/\Inv X pins σ H' s2/\Turn X.prog X.w X.K tg J fp it tn/\tn 0 s2.heap/\(∀ b∈fp,FpOk X pins H' b)/\R J H'
def PI (X:Cx)(tg iter:Expr)(wi:TI):Prop:=
 ∀(pins:List (Addr×Obj))(s:Ls)(σ:St)(H:Hp)(R:It->Hp->Prop),Inv X pins σ H s->wi σ H R->
  wpAny (model X.prog X.w) X.A (eval iter X.env) (fun v s1=>wpAny (model X.prog X.w) X.A (pyIter v) (Ga X pins σ tg R) X.xe s1) X.xe s
theorem nr {M:Model}{A:Ly}{E:Lx->Ls->Prop}{s:Ls}{tg:Expr}{it:Addr}{u:Lx}{o:Obj}{n:String}{vs:Array Lx}{Q:Unit->Ls->Prop}(ho:s.heap.get? it=some o)(hc:o.cls=.type n)(hd:o.data=.fields vs)
 (hn:["enumerate", "zip", "dict_itemiterator", "dict_reverseitemiterator", "odict_iterator", "itertools.zip_longest", "itertools.pairwise"].contains n=false) (hQ:Q () s):wpAny M A (letOwnedTupleGo tg (.ref it) u) Q E s:=by
 unfold letOwnedTupleGo;cases tg<;>first
  |exact Hw hQ
  |(cases u<;>first
     |exact Hw hQ
     |(refine Hs (wpAny_load ho ?_)
       rw[hc,hd];show wpAny M A (if (["enumerate", "zip", "dict_itemiterator", "dict_reverseitemiterator", "odict_iterator", "itertools.zip_longest", "itertools.pairwise"].contains n&&vs[0]?==some (rawInt _))=true then _ else _) Q E s;rw[Hz (by intro h;rw[hn,KF]at h;cases h)];exact Hw hQ))
noncomputable def DF (K:Lu)(a:Addr):It:=⟨fun i H=>∃ xs x,SqL K H a xs/\xs[i]?=some x,fun i H x H'=>H'=H/\∀ xs,SqL K H a xs->xs[i]?=some x,fun i H=>∃ xs,SqL K H a xs/\xs.length<=i⟩
noncomputable def Gb (K:Lu)(a:Addr):It:=⟨fun i H=>∃ xs x,SqT K H a xs/\xs[i]?=some x,fun i H x H'=>H'=H/\∀ xs,SqT K H a xs->xs[i]?=some x,fun i H=>∃ xs,SqT K H a xs/\xs.length<=i⟩
noncomputable def FM (lo:Int)(n:Nat):It:=⟨fun i _=>i<n,fun i H x H'=>H'=H/\x=.int (lo+i),fun i _=>n<=i⟩
theorem sN {P:Lw}{w:World}{K:Lu}{tg:Expr}(a it:Addr):Turn P w K tg (DF K a) [it] it (fun i h=>h.IsListIter it a i) where
 mem:=by simp
 obj:=fun i h st b hb=>by
  have e:b=it:=by simpa using hb
  subst e;obtain⟨o,e,c,d⟩:=st;exact⟨o,e,fun v z=>by rw[d]at z;cases z⟩
 keep:=fun i h h' st k=>st.at fun o e=>k it (by simp) o e
 item:=by intro X hP hw hK hc i pins s σ H E I hf st hg;subst hP hw hK;obtain⟨xs,x,hq,hx⟩:=hg;obtain⟨its,rv,p,hz⟩:=I.list hq;obtain⟨u,hu,ru⟩:=rv.get hx;obtain⟨f0,f1,f2,f3,f4,f5⟩:=hf it (by simp);refine wpAny_pyNext_list_item st p.isList (x:=u) (by simpa using hu) fun h' st' sb=>?_;have I1:Inv X pins σ H { s with heap:=h' }:=I.turned (t':=s.toks) (fun b o hb e=>(sb.2 b hb).trans e) f0 f1 f3 f4 f5;obtain⟨o,e,c,d⟩:=id st';exact⟨u,rfl,nr (s:={ s with heap:=h' }) e c d (by decide) ⟨x,H,I1,ru,⟨rfl,fun ys hy=>by rw[I.list_inj hy hq];exact hx⟩,st',fun b hb=>(hf b hb).1⟩⟩
 done:=by intro X hP hw hK hc i pins s σ H E I hf st hg;subst hP hw hK;obtain⟨xs,hq,hx⟩:=hg;obtain⟨its,rv,p,hz⟩:=I.list hq;obtain⟨f0,f1,f2,f3,f4,f5⟩:=hf it (by simp);have hl:=rv.length;exact wpAny_pyNext_list_end (I.ok.hd hc) st p.isList (by simp;omega) fun h' eb=>⟨rfl,I.turned (t':=s.toks) (fun b o hb e=>eb b o hb e) f0 f1 f3 f4 f5⟩
 self:=fun _ _ _ _ _ st h=>wpAny_pyIter_listiter st h
theorem o7 {P:Lw}{w:World}{K:Lu}{tg:Expr}(a it:Addr):Turn P w K tg (Gb K a) [it] it (fun i h=>h.IsTupleIter it a i) where
 mem:=by simp
 obj:=fun i h st b hb=>by
  have e:b=it:=by simpa using hb
  subst e;obtain⟨o,e,c,d⟩:=st;exact⟨o,e,fun v z=>by rw[d]at z;cases z⟩
 keep:=fun i h h' st k=>st.at fun o e=>k it (by simp) o e
 item:=by intro X hP hw hK hc i pins s σ H E I hf st hg;subst hP hw hK;obtain⟨xs,x,hq,hx⟩:=hg;obtain⟨its,rv,p,hz⟩:=I.tuple hq;obtain⟨u,hu,ru⟩:=rv.get hx;obtain⟨f0,f1,f2,f3,f4,f5⟩:=hf it (by simp);refine wpAny_pyNext_tuple_item st (show s.heap.IsTuple a its.toArray from p) (x:=u) (by simpa using hu) fun h' st' sb=>?_;have I1:Inv X pins σ H { s with heap:=h' }:=I.turned (t':=s.toks) (fun b o hb e=>(sb.2 b hb).trans e) f0 f1 f3 f4 f5;obtain⟨o,e,c,d⟩:=id st';exact⟨u,rfl,nr (s:={ s with heap:=h' }) e c d (by decide) ⟨x,H,I1,ru,⟨rfl,fun ys hy=>by rw[I.tuple_inj hy hq];exact hx⟩,st',fun b hb=>(hf b hb).1⟩⟩
 done:=by intro X hP hw hK hc i pins s σ H E I hf st hg;subst hP hw hK;obtain⟨xs,hq,hx⟩:=hg;obtain⟨its,rv,p,hz⟩:=I.tuple hq;obtain⟨f0,f1,f2,f3,f4,f5⟩:=hf it (by simp);have hl:=rv.length;exact wpAny_pyNext_tuple_end (I.ok.hd hc) st (show s.heap.IsTuple a its.toArray from p) (by simp;omega) fun h' eb=>⟨rfl,I.turned (t':=s.toks) (fun b o hb e=>eb b o hb e) f0 f1 f3 f4 f5⟩
 self:=fun _ _ _ _ _ st h=>wpAny_pyIter_tupleiter st h
theorem o8 {P:Lw}{w:World}{K:Lu}{tg:Expr}(it:Addr)(lo:Int)(n:Nat):Turn P w K tg (FM lo n) [it] it (fun i h=>IsRangeIter h it (lo+(i:Nat)*1) ((n:Int)-(i:Nat)) 1) where
 mem:=by simp
 obj:=fun i h st b hb=>by
  have e:b=it:=by simpa using hb
  subst e;exact⟨_,st,fun v z=>by have z':Data.fields _=Data.cell v:=z;cases z'⟩
 keep:=fun i h h' st k=>k it (by simp) _ st
 item:=by intro X hP hw hK hc i pins s σ H E I hf st hg;subst hP hw hK;obtain⟨f0,f1,f2,f3,f4,f5⟩:=hf it (by simp);have W:=Walks.range (prog:=X.prog) (w:=X.w) (I.ok.hd hc) it lo 1 n;refine W.item i s _ _ hg st fun v h' tk hv st' kk=>?_;obtain⟨t,rfl⟩:=hv;have I1:Inv X pins σ H { s with heap:=h',toks:=tk }:=I.turned (fun b o hb e=>kk b o (by simpa using hb) e) f0 f1 f3 f4 f5;refine⟨_,rfl,nr (s:={ s with heap:=h',toks:=tk }) (n:="range_iterator") st' rfl rfl (by decide) ⟨.int (lo+i),H,I1,⟨t,?_⟩,⟨rfl,rfl⟩,st',fun b hb=>(hf b hb).1⟩⟩;rw[Int.mul_one]
 done:=by intro X hP hw hK hc i pins s σ H E I hf st hg;subst hP hw hK;obtain⟨f0,f1,f2,f3,f4,f5⟩:=hf it (by simp);exact wpAny_pyNext_range_end (I.ok.hd hc) st (by have:n<=i:=hg;omega) fun h' eb=>⟨rfl,I.turned (t':=s.toks) (fun b o hb e=>eb b o hb e) f0 f1 f3 f4 f5⟩
 self:=fun _ _ _ _ _ st h=>wpAny_pyIter_rangeiter st h
section
variable {X:Cx}{tg:Expr}
theorem uP {pins:List (Addr×Obj)}{σ:St}{H:Hp}{s:Ls}{R:It->Hp->Prop}{E:Lx->Ls->Prop}{lo hi:Int}{t u v:Tok}{tk:Nat}(I:Inv X pins σ H s)(h1:-(2 ^ 62)<=lo)(h2:lo<2 ^ 62)(h3:-(2 ^ 62)<=hi)(h4:hi<2 ^ 62)
 (q:R (FM lo (hi-lo).toNat) H):wpAny (model X.prog X.w) X.A (pyIter (.ref s.heap.objs.size)) (Ga X pins σ tg R) E { s with heap:=s.heap.push { cls:=.type "range",data:=.fields #[.int lo t,.int hi u,.int 1 v] },toks:=tk }:=by
 refine wpAny_pyIter_range (IsRange.new ..) (small_one h1 h2 h3 h4) ?_;have I1:Inv X pins σ H { s with heap:=s.heap.push { cls:=.type "range",data:=.fields #[.int lo t,.int hi u,.int 1 v] },toks:=tk }:=I.kept fun b o e=>Hu _ e;refine⟨(s.heap.push { cls:=.type "range",data:=.fields #[.int lo t,.int hi u,.int 1 v] }).objs.size,[(s.heap.push { cls:=.type "range",data:=.fields #[.int lo t,.int hi u,.int 1 v] }).objs.size],_,_,H,rfl,
  I1.kept (t':=tk) fun b o e=>Hu _ e,o8 _ lo (hi-lo).toNat,?_,fun b hb=>?_,q⟩
 .have e1:lo+((0:Nat):Int)*1=lo:=by simp
  have e2:(((hi-lo).toNat:Nat):Int)-((0:Nat):Int)=Builtin.Range.rangeSize lo hi 1:=by rw[rangeSize_one];split<;>omega
  show IsRangeIter _ _ (lo+((0:Nat):Int)*1) ((((hi-lo).toNat:Nat):Int)-((0:Nat):Int)) 1;rw[e1,e2];exact HQ _ rfl
 .have e:b=(s.heap.push { cls:=.type "range",data:=.fields #[.int lo t,.int hi u,.int 1 v] }).objs.size:=by simpa using hb
  subst e;exact I1.fpOk (HB _) (I1.hok.fresh (HB _))
def DY (ta:TA):TI:=fun σ H R=>ta σ H fun vs H1=>∃ j:Int,vs=[.int j]/\-(2 ^ 62)<=j/\j<2 ^ 62/\R (FM 0 j.toNat) H1
theorem sO {a:Expr} {ta:TA} {p pos:Pos} (hg:Gl X "range") (hm:X.mg "range"=none) (ha:PA X [a] ta) (hs:autoParam (starEach [a] X.env=[(false,eval a X.env)]) LF._auto_1):PI X tg (.Call (.Name "range" p) [a] [] pos) (DY ta):=by
 intro pins s σ H R I h;refine Call_ (i_ I hg hm boot_range (Ka (bn (ha pos pins s σ H _ I h) fun us s1 ⟨vs,H1,I1,r1,q1⟩=>?_) hs rfl));obtain⟨j,e,q1,q2,q⟩:=q1;subst e;cases r1 with
 |cons r rr=>cases rr;obtain⟨t,rfl⟩:=r;exact call_range_1 (uP I1 (by omega) (by omega) q1 q2 (by simpa using q))
def Gc (wi:TI)(g:TG)(tb:TS):TS:=fun D σ H=>wi σ H fun J H1=>∃ W:Nat->Nat->St->Hp->Prop,(∃ m,W 0 m σ H1)/\∀ i m σ H,W i m σ H->
 (J.stop i H/\D.nx σ H)\/(J.go i H/\∃ N:St->Hp->Prop,(∀ σ' H',N σ' H'->∃ m',m'<m/\W (i+1) m' σ' H')/\∀ x H',J.yld i H x H'->g x σ H' fun σ2 H2=>tb { D with nx:=N,ct:=N,bk:=D.nx } σ2 H2)
noncomputable def ja (fp:List Addr)(h:Heap):List (Addr×Obj):=fp.filterMap fun b=>(h.get? b).map fun o=>(b,o)
theorem dB {fp:List Addr}{h:Heap}{b:Addr}{o:Obj}(hb:b∈fp)(e:h.get? b=some o):(b,o)∈ja fp h:=Kw.mpr ⟨b,hb,by rw[e];rfl⟩
theorem sP {fp:List Addr}{h:Heap}{p:Addr×Obj}(hp:p∈ja fp h):p.1∈fp/\h.get? p.1=some p.2:=by
 obtain⟨b,hb,e⟩:=Kw.mp hp;cases q:h.get? b with
 |none=>rw[q]at e;cases e
 |some o=>rw[q]at e;have e':(b,o)=p:=Iu e;subst e';exact⟨hb,q⟩
theorem Inv.pinned {pins:List (Addr×Obj)}{σ:St}{H:Hp}{s:Ls}{fp:List Addr}(I:Inv X pins σ H s)(hf:∀ b∈fp,FpOk X pins H b)(ho:∀ b∈fp,∃ o,s.heap.get? b=some o/\∀ v,o.data≠.cell v):Inv X (pins++ja fp s.heap) σ H s:=I.pins_of fun p hp=>(H_.mp hp).elim (fun z=>I.pin p (Im _ z)) fun z=>by obtain⟨hb,e⟩:=sP z;obtain⟨f0,f1,f2,_⟩:=hf p.1 hb;obtain⟨o,e',d⟩:=ho p.1 hb;rw[e]at e';cases e';exact⟨e,f0,f1,f2,d⟩
theorem Inv.unpinned {pins pl:List (Addr×Obj)}{σ:St}{H:Hp}{s:Ls}(I:Inv X (pins++pl) σ H s):Inv X pins σ H s:=I.pins_of fun p hp=>I.pin p (Im _ (Ia _ hp))
theorem o9 {iter:Expr}{body:List Stmt}{wi:TI}{g:TG}{tb:TS}{pos:Pos}(hp:PassesOwn (model X.prog X.w) X.A X.env X.xe)(hc:X.calm=true)(hi:PI X tg iter wi)(hg:PG X tg g)(hb:PSs X body tb)
 (hs:autoParam (∀ x,foldedSetIterable iter X.env x=pure x) LC._auto_1):PS X (.For tg iter body [] pos) (Gc wi g tb):=by
 intro pins s σ H D I h;refine wpAny_For (bn (hi pins s σ H _ I h) fun v s1 h1=>bn h1 fun itv s2 h2=>?_) hs;obtain⟨it,fp,tn,J,H2,e,I2,T,st2,f2,W,⟨m0,w0⟩,turn⟩:=h2;subst e;have stat:∀{H':Hp},(∀ b∈fp,H' b=none)->∀ b∈fp,FpOk X pins H' b:=fun hn b hb=>⟨hn b hb,(f2 b hb).2⟩;refine codeAny_forLoop_any (fun n s'=>∃ i σ' H',Inv X pins σ' H' s'/\tn i s'.heap/\(∀ b∈fp,H' b=none)/\W i n σ' H') ?_ m0 ⟨0,σ,H2,I2,st2,fun b hb=>(f2 b hb).1,w0⟩;rintro n s3 ⟨i,σ3,H3,I3,st3,fr3,w3⟩;rcases turn i n σ3 H3 w3 with⟨stop,qn⟩|⟨go,N,hN,step⟩
 .refine JP hp (bn (T.done X rfl rfl rfl hc i pins s3 σ3 H3 X.xe I3 (stat fr3) st3 stop) fun r s4 ⟨hr,I4⟩=>?_);subst hr;exact KZ ⟨σ3,H3,I4,qn⟩
 .refine JP hp (bn (T.item X rfl rfl rfl hc i pins s3 σ3 H3 X.xe I3 (stat fr3) st3 go) fun r s4 ⟨u,hr,h4⟩=>?_);subst hr;refine JP hp (bn h4 fun _ s5 ⟨x,H5,I5,r5,y5,st5,fr5⟩=>?_);have I5':=I5.pinned (stat fr5) (T.obj _ _ st5);refine JP hp (bn (hg _ s5 σ3 H5 x u _ I5' r5 (step x H5 y5)) fun _ s6 ⟨σ6,H6,I6,q6⟩=>?_);refine JP hp (bn (hb _ s6 σ6 H6 _ I6 q6) fun f s7 q7=>?_);have again:∀{σ7:St}{H7:Hp},Inv X (pins++ja fp s5.heap) σ7 H7 s7->N σ7 H7->∃ m,m<n/\∃ i σ' H',Inv X pins σ' H' s7/\tn i s7.heap/\(∀ b∈fp,H' b=none)/\W i m σ' H':=fun{σ7 H7} I7 n7=>by obtain⟨m',hm,w7⟩:=hN σ7 H7 n7;refine⟨m',hm,i+1,σ7,H7,I7.unpinned,T.keep _ _ _ st5 fun b hb o e=>(I7.pin (b,o) (Im _ (Im _ (dB hb e)))).1,fun b hb=>?_,w7⟩;obtain⟨o,e,d⟩:=T.obj _ _ st5 b hb;exact(I7.pin (b,o) (Im _ (Im _ (dB hb e)))).2.1
  cases f with
  |next=>obtain⟨σ7,H7,I7,n7⟩:=q7;exact again I7 n7
  |cont=>obtain⟨σ7,H7,I7,n7⟩:=q7;exact again I7 n7
  |brk=>obtain⟨σ7,H7,I7,q7⟩:=q7;exact⟨σ7,H7,I7.unpinned,q7⟩
  |ret v=>obtain⟨x7,σ7,H7,I7,r7,q7⟩:=q7;exact⟨x7,σ7,H7,I7.unpinned,r7,q7⟩
end
theorem uQ {K:Lu}{a:Addr}{xs:List V}{g:TG}{tb:TS}{D:Ends}{σ:St}{H:Hp}(Pv:Nat->St->Hp->Prop)(h0:Pv 0 σ H)(hl:∀ i σ H,i<=xs.length->Pv i σ H->SqL K H a xs)
 (hs:∀ i x σ H,xs[i]?=some x->Pv i σ H->g x σ H fun σ2 H2=>tb { D with nx:=Pv (i+1),ct:=Pv (i+1),bk:=D.nx } σ2 H2) (hd:∀ σ H,Pv xs.length σ H->D.nx σ H) :
 ∃ W:Nat->Nat->St->Hp->Prop,(∃ m,W 0 m σ H)/\∀ i m σ H,W i m σ H->
  ((DF K a).stop i H/\D.nx σ H)\/((DF K a).go i H/\∃ N:St->Hp->Prop,(∀ σ' H',N σ' H'->∃ m',m'<m/\W (i+1) m' σ' H')/\∀ x H',(DF K a).yld i H x H'->g x σ H' fun σ2 H2=>tb { D with nx:=N,ct:=N,bk:=D.nx } σ2 H2):=by
 refine⟨fun i m σ H=>m=xs.length-i/\i<=xs.length/\Pv i σ H,⟨xs.length,by simp,Ij _,h0⟩,?_⟩;rintro i m σ H ⟨rfl,hi,p⟩;have q:=hl i σ H hi p;by_cases hlt:i<xs.length
 .refine .inr ⟨⟨xs,xs[i],q,by simp[hlt]⟩,Pv (i+1),fun σ' H' p'=>⟨xs.length-(i+1),by omega,rfl,hlt,p'⟩,fun x H' y=>?_⟩;obtain⟨e,y⟩:=y;subst e;exact hs i x σ _ (y xs q) p
 .have e:i=xs.length:=by omega
  subst e;exact .inl ⟨⟨xs,q,HB _⟩,hd σ H p⟩
abbrev R2:=V->V->Hp->VK->Prop
def OpR (X:Cx)(f:Lx->Lx->Sem Lx)(r:R2):Prop:=
 ∀(pins:List (Addr×Obj))(s:Ls)(σ:St)(H:Hp)(x y:V)(v u:Lx)(Q:VK),Inv X pins σ H s->RelV x v->RelV y u->r x y H Q->
  wpAny (model X.prog X.w) X.A (f v u) (EP X pins σ Q) X.xe s
def Ge (X:Cx)(f:Lx->Sem Lx)(r:V->Hp->VK->Prop):Prop:=
 ∀(pins:List (Addr×Obj))(s:Ls)(σ:St)(H:Hp)(x:V)(v:Lx)(Q:VK),Inv X pins σ H s->RelV x v->r x H Q->
  wpAny (model X.prog X.w) X.A (f v) (EP X pins σ Q) X.xe s
def CallR (X:Cx)(f:Lx)(r:List V->Hp->VK->Prop):Prop:=
 ∀(pins:List (Addr×Obj))(s:Ls)(σ:St)(H:Hp)(xs:List V)(us:List Lx)(Q:VK),Inv X pins σ H s->Vals xs us->r xs H Q->
  wpAny (model X.prog X.w) X.A (call f us) (EP X pins σ Q) X.xe s
def Gf (X:Cx)(r:V->Hp->(Bool->Hp->Prop)->Prop):Prop:=
 ∀(pins:List (Addr×Obj))(s:Ls)(σ:St)(H:Hp)(x:V)(v:Lx)(Q:Bool->Hp->Prop),Inv X pins σ H s->RelV x v->r x H Q->
  wpAny (model X.prog X.w) X.A (truthy v) (TP X pins σ Q) X.xe s
noncomputable def DG (r:R2)(ta tb:TE):TE:=fun σ H Q=>ta σ H fun x H1=>tb σ H1 fun y H2=>r x y H2 Q
noncomputable def G_ (r:V->Hp->VK->Prop)(ta:TE):TE:=fun σ H Q=>ta σ H fun x H1=>r x H1 Q
noncomputable def rI (C:Int->Int->Prop)(g:Int->Int->V):R2:=fun x y H Q=>∃ i j,x=.int i/\y=.int j/\C i j/\Q (g i j) H
noncomputable def DH (g:Int->Int->V):R2:=fun x y H Q=>∃ i j,x=.int i/\y=.int j/\Q (g i j) H
noncomputable def rU (g:Int->V):V->Hp->VK->Prop:=fun x H Q=>∃ i,x=.int i/\Q (g i) H
section
variable {X:Cx}{a b c:Expr}{ta tb tc:TE}{pos:Pos}
theorem Bo (ha:PE X a ta)(hb:PE X b tb){pins:List (Addr×Obj)}{s:Ls}{σ:St}{H:Hp}{R:V->V->Hp->Prop}(I:Inv X pins σ H s)
 (h:ta σ H fun x H1=>tb σ H1 fun y H2=>R x y H2) {Q:Lx->Ls->Prop} {f:Lx->Lx->Sem Lx}
 (hf:∀ v u s2 x y H2,Inv X pins σ H2 s2->RelV x v->RelV y u->R x y H2->wpAny (model X.prog X.w) X.A (f v u) Q X.xe s2) :
 wpAny (model X.prog X.w) X.A (eval a X.env) (fun v s₁=>wpAny (model X.prog X.w) X.A (eval b X.env) (fun u s₂=>wpAny (model X.prog X.w) X.A (f v u) Q X.xe s₂) X.xe s₁) X.xe s:=by
 refine bn (ha pins s σ H _ I h) fun v s1 ⟨x,H1,I1,r1,q1⟩=>?_;refine bn (hb pins s1 σ H1 _ I1 q1) fun u s2 ⟨y,H2,I2,r2,q2⟩=>?_;exact hf v u s2 x y H2 I2 r1 r2 q2
theorem DZ {op:Operator}{r:R2}(ho:OpR X (binaryOp op) r)(ha:PE X a ta)(hb:PE X b tb):PE X (.BinOp a op b pos) (DG r ta tb):=by intro pins s σ H Q I h;exact wpAny_BinOp (Bo ha hb I h fun v u s2 x y H2 I2 rx ry q=>ho pins s2 σ H2 x y v u Q I2 rx ry q)
theorem D0 {op:UnaryOp}{r:V->Hp->VK->Prop}(ho:Ge X (unaryOp op) r)(ha:PE X a ta):PE X (.UnaryOp op a pos) (G_ r ta):=by intro pins s σ H Q I h;exact UnaryOp_ (bn (ha pins s σ H _ I h) fun v s1 ⟨x,H1,I1,r1,q1⟩=>ho pins s1 σ H1 x v Q I1 r1 q1)
theorem Gg {f:Lx->Lx->Sem Lx}{C:Int->Int->Prop}{g:Int->Int->Int}
 (rule:∀(i j:Int)(t u:Tok)(s:Ls)(Q:Lx->Ls->Prop)(E:Lx->Ls->Prop),C i j->Q (.int (g i j) s.toks) { s with toks:=s.toks+1 }->wpAny (model X.prog X.w) X.A (f (.int i t) (.int j u)) Q E s) :
 OpR X f (rI C fun i j=>.int (g i j)):=by
 intro pins s σ H x y v u Q I rx ry h;obtain⟨i,j,rfl,rfl,hc,q⟩:=h;obtain⟨t,rfl⟩:=rx;obtain⟨t',rfl⟩:=ry;exact rule i j t t' s _ _ hc ⟨.int (g i j),H,I.tok _,⟨_,rfl⟩,q⟩
theorem Gh {f:Lx->Lx->Sem Lx}{g:Int->Int->Int}
 (rule:∀(i j:Int)(t u:Tok)(s:Ls)(Q:Lx->Ls->Prop)(E:Lx->Ls->Prop),Q (.int (g i j) s.toks) { s with toks:=s.toks+1 }->wpAny (model X.prog X.w) X.A (f (.int i t) (.int j u)) Q E s) :
 OpR X f (DH fun i j=>.int (g i j)):=by
 intro pins s σ H x y v u Q I rx ry h;obtain⟨i,j,rfl,rfl,q⟩:=h;obtain⟨t,rfl⟩:=rx;obtain⟨t',rfl⟩:=ry;exact rule i j t t' s _ _ ⟨.int (g i j),H,I.tok _,⟨_,rfl⟩,q⟩
theorem D1 {f:Lx->Lx->Sem Lx}{g:Int->Int->Bool}
 (rule:∀(i j:Int)(t u:Tok)(s:Ls)(Q:Lx->Ls->Prop)(E:Lx->Ls->Prop),Q (.bool (g i j)) s->wpAny (model X.prog X.w) X.A (f (.int i t) (.int j u)) Q E s) :
 OpR X f (DH fun i j=>.bl (g i j)):=by
 intro pins s σ H x y v u Q I rx ry h;obtain⟨i,j,rfl,rfl,q⟩:=h;obtain⟨t,rfl⟩:=rx;obtain⟨t',rfl⟩:=ry;exact rule i j t t' s _ _ ⟨.bl (g i j),H,I,rfl,q⟩
def Gi (i j:Int):Prop:=0<j/\j<1073741824
def CMul (i j:Int):Prop:=(-(2 ^ 64)<i/\i<2 ^ 64)\/(-(2 ^ 64)<j/\j<2 ^ 64)
theorem CMul.ok {i j:Int}(h:CMul i j):IntMulOk i j:=by
 rcases h with⟨h1,h2⟩|⟨h1,h2⟩
 .exact .of_left (intBits_le_64 h1 h2)
 .exact .of_right (intBits_le_64 h1 h2)
theorem op_add:OpR X (binaryOp .Add) (DH fun i j=>.int (i+j)):=Gh fun _ _ _ _ _ _ _ q=>add_int q
theorem Bp:OpR X (binaryOp .Mult) (rI CMul fun i j=>.int (i*j)):=Gg fun _ _ _ _ _ _ _ hc q=>mul_int q hc.ok
theorem x9:OpR X (binaryOp .FloorDiv) (rI Gi fun i j=>.int (i / j)):=Gg fun i j _ _ _ _ _ hc q=>by have h1:(0:Int)<j:=hc.1;have h2:j<1073741824:=hc.2;exact floordiv_int (by omega) (by rw[Int.fdiv_eq_ediv_of_nonneg i (by omega)];exact q) (.inl (PyProof.noPylong_small (by omega)))
theorem Bq:OpR X (binaryOp .Mod) (rI (fun _ j=>0<j) fun i j=>.int (i % j)):=Gg fun i j _ _ _ _ _ hc q=>by have h1:(0:Int)<j:=hc;exact mod_int' (by omega) (by rw[Int.fmod_eq_emod_of_nonneg i (by omega)];exact q)
theorem Hb {f:Lx->Sem Lx}{g:Int->Int}
 (rule:∀(i:Int)(t:Tok)(s:Ls)(Q:Lx->Ls->Prop)(E:Lx->Ls->Prop),Q (.int (g i) s.toks) { s with toks:=s.toks+1 }->wpAny (model X.prog X.w) X.A (f (.int i t)) Q E s) :
 Ge X f (rU fun i=>.int (g i)):=by
 intro pins s σ H x v Q I rx h;obtain⟨i,rfl,q⟩:=h;obtain⟨t,rfl⟩:=rx;exact rule i t s _ _ ⟨.int (g i),H,I.tok _,⟨_,rfl⟩,q⟩
theorem Br:Ge X (unaryOp .USub) (rU fun i=>.int (-i)):=Hb fun _ _ _ _ _ q=>neg_int q
theorem D2:OpR X (compareOp .Lt) (DH fun i j=>.bl (decide (i<j))):=D1 fun _ _ _ _ _ _ _ q=>lt_int q
theorem D6:OpR X (compareOp .LtE) (DH fun i j=>.bl (decide (i<=j))):=D1 fun _ _ _ _ _ _ _ q=>le_int q
theorem OpR.or {f:Lx->Lx->Sem Lx}{r r':R2}(h:OpR X f r)(h':OpR X f r'):OpR X f (fun x y H Q=>r x y H Q\/r' x y H Q):=by
 intro pins s σ H x y v u Q I rx ry q;rcases q with q|q
 .exact h pins s σ H x y v u Q I rx ry q
 .exact h' pins s σ H x y v u Q I rx ry q
theorem bJ (b:Expr){op:CmpOp}(h:autoParam (op≠.In) Lz._auto_1)(h2:autoParam (op≠.NotIn) Lz._auto_1):behindInMarks op b=false:=by
 have e1:(op==CmpOp.In)=false:=by cases op<;>first|rfl|exact absurd rfl h
 have e2:(op==CmpOp.NotIn)=false:=by cases op<;>first|rfl|exact absurd rfl h2
 cases b<;>simp[behindInMarks,e1,e2]
theorem x_ {op:CmpOp}{r:R2}(ho:OpR X (compareOp op) r)(ha:PE X a ta)(hb:PE X b tb)(hm:behindInMarks op b=false):PE X (.Compare a [op] [b] pos) (DG r ta tb):=by intro pins s σ H Q I h;exact wpAny_Compare1 (Bo ha hb I h fun v u s2 x y H2 I2 rx ry q=>ho pins s2 σ H2 x y v u Q I2 rx ry q) hm
noncomputable def Au (t:TE):TT:=fun σ H Q=>t σ H fun x H'=>∃ k,x=.bl k/\Q k H'
theorem ya {op:CmpOp}{r:R2}(ho:OpR X (compareOp op) r)(ha:PE X a ta)(hb:PE X b tb)(hm:behindInMarks op b=false):PT X (.Compare a [op] [b] pos) (Au (DG r ta tb)):=by intro pins s σ H Q I h;refine wpAny_isTrue_Compare1 (bn (ha pins s σ H _ I h) fun v s1 ⟨x,H1,I1,r1,q1⟩=>bn (hb pins s1 σ H1 _ I1 q1) fun u s2 ⟨y,H2,I2,r2,q2⟩=>bn (ho pins s2 σ H2 x y v u _ I2 r1 r2 q2) fun c s3 ⟨z,H3,I3,r3,k,e,q3⟩=>?_) hm;subst e;cases r3;exact Jw ⟨H3,I3,q3⟩
noncomputable def uR (r r':R2)(ta tb tc:TE):TE:=fun σ H Q=>ta σ H fun x H1=>tb σ H1 fun y H2=>r x y H2 fun z H3=>∃ k,z=.bl k/\
 (if k=true then tc σ H3 fun w' H4=>r' y w' H4 Q else Q (.bl false) H3)
theorem uS {op op':CmpOp}{r r':R2}(ho:OpR X (compareOp op) r)(ho':OpR X (compareOp op') r')(ha:PE X a ta)(hb:PE X b tb)(hc:PE X c tc)
 (hm:lastMarks [op,op'] [b,c]=false:=by with_unfolding_all rfl):PT X (.Compare a [op,op'] [b,c] pos) (Au (uR r r' ta tb tc)):=by
 intro pins s σ H Q I h;refine isTrue_chain (bn (ha pins s σ H _ I h) fun v s1 ⟨x,H1,I1,r1,q1⟩=>test_link (bn (hb pins s1 σ H1 _ I1 q1) fun u s2 ⟨y,H2,I2,r2,q2⟩=>bn (ho pins s2 σ H2 x y v u _ I2 r1 r2 q2) fun d s3 ⟨z,H3,I3,r3,k,e,q3⟩=>?_)) hm;subst e;cases r3;refine Jw ?_;cases k with
 |false=>obtain⟨k',e',q'⟩:=q3;cases e';exact ite_ff ⟨H3,I3,q'⟩
 |true=>refine ite_tt (test_last (bn (hc pins s3 σ H3 _ I3 q3) fun w' s4 ⟨z',H4,I4,r4,q4⟩=>bn (ho' pins s4 σ H4 y z' u w' _ I4 r2 r4 q4) fun d' s5 ⟨z2,H5,I5,r5,k2,e2,q5⟩=>?_));subst e2;cases r5;exact Jw ⟨H5,I5,q5⟩
def Bs (K:Lu)(x:V)(H:Hp)(k:Bool):Prop:=
 match x with
 | .non=>k=false
 | .bl b=>k=b
 | .int i=>k=(i != 0)
 | .str y=>y.length<=sizeLine/\k=((y.length:Int) != 0)
 | .byt y=>y.size<=sizeLine/\k=((y.size:Int) != 0)
 | .ref p=>(∃ xs,SqL K H p xs/\k=!xs.isEmpty)\/(∃ xs,SqT K H p xs/\k=!xs.isEmpty)\/∃ kvs,H p=some (.dK kvs)/\k=!kvs.isEmpty
 |_=>False
theorem o_ {κ:Type}{kvs:List (κ×V)}{vs:List (κ×Lx)}(r:KV kvs vs):(!vs.isEmpty)=!kvs.isEmpty:=by cases r<;>rfl
theorem jb {xs:List V}{its:List Lx}(r:Vals xs its):(!its.toArray.isEmpty)=!xs.isEmpty:=by cases r<;>simp
theorem fR:(sizeLine:Nat)<2 ^ 63:=by rw[Iy];decide
theorem Bt:Gf X (fun x H Q=>∃ k,Bs X.K x H k/\Q k H):=by
 intro pins s σ H x v Q I rx h;obtain⟨k,e,q⟩:=h;have hl:=fR;have hs:sizeLine=16777216:=Iy;cases x with
 |non=>cases rx;have e':k=false:=e;subst e';exact truthy_none ⟨H,I,q⟩
 |bl b=>cases rx;have e':k=b:=e;subst e';exact Jw ⟨H,I,q⟩
 |int i=>obtain⟨t,rfl⟩:=rx;have e':k=(i != 0):=e;subst e';exact PySem.P.truthy_int ⟨H,I,q⟩
 |str y=>obtain⟨t,rfl⟩:=rx;obtain⟨hy,e'⟩ : y.length<=sizeLine/\k=((y.length:Int) != 0):=e;subst e';exact PySem.P.truthy_str (by omega) ⟨H,I.tok _,q⟩
 |byt y=>obtain⟨t,rfl⟩:=rx;obtain⟨hy,e'⟩ : y.size<=sizeLine/\k=((y.size:Int) != 0):=e;subst e';exact PySem.W.truthy_bytes (by omega) ⟨H,I.tok _,q⟩
 |ref p=>
  cases rx;have e':(∃ xs,SqL X.K H p xs/\k=!xs.isEmpty)\/(∃ xs,SqT X.K H p xs/\k=!xs.isEmpty)\/∃ kvs,H p=some (.dK kvs)/\k=!kvs.isEmpty:=e;rcases e' with⟨xs,hx,e'⟩|⟨xs,hx,e'⟩|⟨kvs,hx,e'⟩
  .subst e';obtain⟨its,r,pl,hz⟩:=I.list hx;have bg:=r.length;exact wpAny_truthy_list pl.isList (by simp only[Hy];omega) ⟨H,I.tok _,by rw[jb r];exact q⟩
  .subst e';obtain⟨its,r,pl,hz⟩:=I.tuple hx;have bg:=r.length;exact truthy_tuple pl (by simp only[Hy];omega) ⟨H,I.tok _,by rw[jb r];exact q⟩
  .subst e';obtain⟨hz,hS,vs,r,m⟩ : kvs.length<=sizeLine/\(p==sysModules)=false/\∃ vs,KV kvs vs/\s.heap.DictOf (ao X.prog X.w) p vs:=I.hok p _ hx;have bg:kvs.length=vs.length:=Ke r;exact wpAny_truthy_dict hS m (by omega) ⟨H,I.tok _,by rw[o_ r];exact q⟩
 |_=>exact(show False from e).elim
theorem uT (ha:PE X a ta)(he:∀ whole,isTrue a X.env whole=(do let v <- whole;standAt a.pos;holding [v] (truthy v))) :
 PT X a (fun σ H Q=>ta σ H fun x H'=>∃ k,Bs X.K x H' k/\Q k H'):=by
 intro pins s σ H Q I h;exact isTrue_plain (bn (ha pins s σ H _ I h) fun v s1 ⟨x,H1,I1,r1,q1⟩=>Bt pins s1 σ H1 x v Q I1 r1 q1) (he _)
theorem pd:OpR X (binaryOp .Add) (fun x y H Q=>∃ i j,x=.str i/\y=.str j/\i.length+j.length<=sizeLine/\Q (.str (i++j)) H):=by intro pins s σ H x y v u Q I rx ry h;obtain⟨i,j,rfl,rfl,hz,q⟩:=h;obtain⟨t,rfl⟩:=rx;obtain⟨t',rfl⟩:=ry;exact add_str (fun t' tk=>⟨.str (i++j),H,I.tok _,⟨_,rfl⟩,q⟩) hz
theorem cW {x:V}{us:List Lx}(r:Vals [x] us):∃ u,us=[u]/\RelV x u:=by
 cases r with
 |cons r1 r2=>cases r2;exact⟨_,rfl,r1⟩
theorem Av {x y:V}{us:List Lx}(r:Vals [x,y] us):∃ u w',us=[u,w']/\RelV x u/\RelV y w':=by
 cases r with
 |cons r1 r2=>
  cases r2 with
  |cons r3 r4=>cases r4;exact⟨_,_,rfl,r1,r3⟩
end
structure ObjM (h:Heap) (x dx C:Addr) (mA:Str->Option Lx):Prop where
 obj:h.get? x=some (PySem.W.instObj C dx)
 ns:h.Ns1 dx mA
 ne:dx≠x
theorem sQ {h:Heap}{dx:Addr}{mA:Str->Option Lx}(n:h.Ns1 dx mA):∃ od,h.get? dx=some od/\∀ name,PySem.W.lookIn name od=some (mA name):=by
 obtain⟨o,es,ep,ho,hd,hk,_,hm⟩:=n;refine⟨o,ho,fun name=>?_⟩;have e:=hm name;unfold nsFind findBy at e;rw[<- Array.find?_toList]at e;unfold PySem.W.lookIn;rw[hd];dsimp only;split
 .rename_i y q;rw[q]at e;exact Ie some e
 .rename_i q;rw[q]at e;have a:es.toList.any (·.refKey)=false:=by rw[List.any_eq_false];intro y hy;obtain⟨z,t,iP⟩:=hk y (Array.mem_toList_iff.mp hy);simp[DictEntry.refKey,iP]
  have a':¬ es.toList.any (·.refKey)=true:=by rw[a];exact Kv
  rw[Hz a'];exact Ie some e
theorem ObjM.look {h:Heap}{x dx C:Addr}{mA:Str->Option Lx}(I:ObjM h x dx C mA):∃ od,PySem.W.InstAt h x (PySem.W.instObj C dx) C (some od)/\∀ name,PySem.W.lookIn name od=some (mA name):=
 let ⟨od,ho,hl⟩:=sQ I.ns
 ⟨od,⟨I.obj,rfl,rfl,ho⟩,hl⟩
section
variable {prog:Lw}{w:World}{A:Ly}{E:Lx->Ls->Prop}{s:Ls}{K:Lu}{x dx C f:Addr}{mA:Str->Option Lx}{name:Str}{v:Lx}
end
theorem RelO.some_of {v:V}{o:Option Lx}(r:RelO (some v) o):∃ u,o=some u/\RelV v u:=by
 cases o with
 |none=>exact(show False from r).elim
 |some u=>exact⟨u,rfl,r⟩
section
variable {P:Lw}{w:World}{H H':Hp}{h h':Heap}{a C dx:Addr}{fs fs':List (Str×V)}
theorem yc (hok:HOk P w H h)(e:H a=some (.ins C dx fs)):∃ mA,ObjM h a dx C mA/\(∀ f,RelO (fs.lookup f) (mA f))/\PySem.Within mA (fs.map (·.1))/\fs.length<=1000/\H dx=some (.own a):=by obtain⟨d,z,ne,ob,mA,n,r,q⟩:=(show ObjOk P w H h a (.ins C dx fs) from hok a _ e);exact⟨mA,⟨ob,n,ne⟩,r,q,z,d⟩
end
structure Cls (K:Lu) (C:Addr):Prop where
 pg:PySem.W.plainGet K C Str.empty=true
 hd:PySem.W.hasDictIn K C=true
 po:PySem.W.plainOver K C=true
 sa:PySem.W.findIn K (.ref C) "__setattr__"=some (some (.builtin "object.__setattr__"))
theorem Cls.get {K:Lu}{C:Addr}(c:Cls K C)(f:Str):PySem.W.plainGet K C f=true:=c.pg
section
variable {X:Cx}{pins:List (Addr×Obj)}{σ:St}{H:Hp}{s:Ls}{a C dx:Addr}{fs:List (Str×V)}{f:Str}{v:V}{A:Ly}{E:Lx->Ls->Prop}
end
section
variable {X:Cx}{o e value:Expr}{f:Str}{pos pos' ie:Pos}{ta tv:TE}
end
section
variable {X:Cx}{pins:List (Addr×Obj)}{σ:St}{H:Hp}{s:Ls}{A:Ly}{E:Lx->Ls->Prop}{Q:Lx->Ls->Prop}{c:Lx}{b:Bool}
inductive TyOf (K:Lu) (H:Hp):V->Lx->Prop where
 |non:TyOf K H .non (.type "NoneType")
 |bl (x:Bool):TyOf K H (.bl x) (.type "bool")
 |int (i:Int):TyOf K H (.int i) (.type "int")
 |str (x:Str):TyOf K H (.str x) (.type "str")
 |flt (x:UInt64):TyOf K H (.flt x) (.type "float")
 |lst {a:Addr} {xs:List V} (e:H a=some (.lst xs)):TyOf K H (.ref a) (.type "list")
 |frz {a:Addr} {o:Obj} {xs:List V} (e:H a=some (.frz o (.lst xs))):TyOf K H (.ref a) (.type "list")
 |tup {a:Addr} {xs:List V} (e:H a=some (.tup xs)):TyOf K H (.ref a) (.type "tuple")
 |dK {a:Addr} {kvs:List (Key×V)} (e:H a=some (.dK kvs)):TyOf K H (.ref a) (.type "dict")
 |dT {a:Addr} {kvs:List (List Key×V)} (e:H a=some (.dT kvs)):TyOf K H (.ref a) (.type "dict")
 |ins {a C dx:Addr} {fs:List (Str×V)} (e:H a=some (.ins C dx fs)) (cl:Cls K C) (ha:PySem.W.findIn K (.ref C) "__class__"=some (some (.builtin "object.__class__")))
  (hn:PySem.W.specialIn K (.builtin "object.__class__") "__get__"=some (some (.builtin "getset_descriptor.__get__"))) (htk:PySem.W.takesIn K (.builtin "object.__class__")=some true)
  (hm:PySem.W.mroIn K C (.type "object")=some true):TyOf K H (.ref a) (.ref C)
theorem sR {x:V}{u t:Lx}(I:Inv X pins σ H s)(rx:RelV x u)(ty:TyOf X.K H x t)(e:PySem.W.kitOne X.K t c=some b)(h:∀ tk,Q (.bool b) { s with toks:=tk }) :
 wpAny (model X.prog X.w) A (call (.builtin "isinstance") [u,c]) Q E s:=by
 cases ty with
 |non=>cases (show u=Value.none from rx);exact Jc PySem.W.kitx_none I.kIn True.intro e (fun z=>nomatch z) h
 |bl y=>cases (show u=Value.bool y from rx);exact Jc PySem.W.kitx_bool I.kIn True.intro e (fun z=>nomatch z) h
 |int i=>obtain⟨t,q⟩:=(show ∃ t,u=Value.int i t from rx);cases q;exact Jc PySem.W.kitx_int I.kIn True.intro e (fun z=>nomatch z) h
 |str y=>obtain⟨t,q⟩:=(show ∃ t,u=Value.str y t from rx);cases q;exact Jc PySem.W.kitx_str I.kIn True.intro e (fun z=>nomatch z) h
 |flt y=>obtain⟨t,q⟩:=(show ∃ t,u=Value.float y t from rx);cases q;exact Jc PySem.W.kitx_float I.kIn True.intro e (fun z=>nomatch z) h
 | @lst a xs ea=>cases (show u=Value.ref a from rx);obtain⟨_,_,n,_,h1⟩:=(show ObjOk X.prog X.w H s.heap a (.lst xs) from I.hok a _ ea);exact Jc PySem.W.kitx_list I.kIn ⟨_,h1,rfl⟩ e (fun z=>nomatch z) h
 | @frz a ob xs ea=>cases (show u=Value.ref a from rx);obtain⟨_,_,_,n,_,h1⟩:=(show ObjOk X.prog X.w H s.heap a (.frz ob (.lst xs)) from I.hok a _ ea);exact Jc PySem.W.kitx_list I.kIn ⟨_,h1,rfl⟩ e (fun z=>nomatch z) h
 | @tup a xs ea=>cases (show u=Value.ref a from rx);obtain⟨_,_,_,p⟩:=(show ObjOk X.prog X.w H s.heap a (.tup xs) from I.hok a _ ea);obtain⟨o,h1,h2,_⟩:=p;exact Jc PySem.W.kitx_tuple I.kIn ⟨o,h1,h2⟩ e (fun z=>nomatch z) h
 | @dK a kvs ea=>cases (show u=Value.ref a from rx);obtain⟨_,_,vs,_,p⟩:=(show ObjOk X.prog X.w H s.heap a (.dK kvs) from I.hok a _ ea);obtain⟨o,es,ep,h1,h2,_⟩:=p;exact Jc Lb I.kIn ⟨o,h1,h2.1⟩ e (fun z=>nomatch z) h
 | @dT a kvs ea=>cases (show u=Value.ref a from rx);obtain⟨_,_,xs,_,o,es,ep,h1,h2,_⟩:=(show ObjOk X.prog X.w H s.heap a (.dT kvs) from I.hok a _ ea);exact Jc Lb I.kIn ⟨o,h1,h2.1⟩ e (fun z=>nomatch z) h
 | @ins a C dx fs ea cl ha hn htk hm=>cases (show u=Value.ref a from rx);obtain⟨mA,O,_⟩:=yc I.hok ea;obtain⟨od,J,_⟩:=O.look;exact Jc (PySem.W.kitx_own (cl.get _) cl.hd ha hn htk hm) I.kIn J e (fun z=>nomatch z) h
end
structure Room (k:Nat) (A:Ly):Prop where
 hd:A.handled=none
 dp:A.depth+3*k+5<recursionLimit
 un:A.units+16*k+200<cLine
theorem Room.mono {j k:Nat}{A:Ly}(r:Room k A)(h:j<=k):Room j A:=⟨r.hd,by have:=r.dp;omega,by have:=r.un;omega⟩
theorem Room.deeper {k:Nat}{A:Ly}(r:Room (k+1) A)(env:Env):Room k (A.deeper env):=⟨r.hd,by have:=r.dp;show A.depth+1+3*k+5<_;omega,by have:=r.un;show A.units+3+16*k+200<_;omega⟩
theorem Room.in1 {k:Nat}{A:Ly}(r:Room (k+1) A):Room k A.in1:=⟨r.hd,by have:=r.dp;show A.depth+3*k+5<_;omega,by have:=r.un;show A.units+1+16*k+200<_;omega⟩
theorem Room.depth {k:Nat}{A:Ly}(r:Room k A):A.depth<recursionLimit:=by have:=r.dp;omega
theorem Room.units {k:Nat}{A:Ly}(r:Room k A):A.units+64<cLine:=by have:=r.un;omega
noncomputable def uU:TA:=fun _ H Q=>Q [] H
noncomputable def kH (ta:TE)(tr:TA):TA:=fun σ H Q=>ta σ H fun x H1=>tr σ H1 fun xs H2=>Q (x::xs) H2
section
variable {X:Cx}{e:Expr}{es:List Expr}{te:TE}{t:TA}{pos:Pos}
theorem ck:PA X [] uU:=fun _ _ _ _ H Q I h=>Calls.spliced_nil ⟨[],H,I,.nil,h⟩
theorem bh (ha:PE X e te)(hr:PA X es t)(hs:autoParam (starEach (e::es) X.env=(false,eval e X.env)::starEach es X.env) LF._auto_1):PA X (e::es) (kH te t):=by intro pos pins s σ H Q I h;rw[hs];show wpAny _ _ (spliced ((false,eval e X.env)::backTo pos (starEach es X.env))) _ _ s;refine Calls.spliced_cons (bn (ha pins s σ H _ I h) fun u s1 ⟨x,H1,I1,r1,q1⟩=>?_);exact bn (hr pos pins s1 σ H1 _ I1 q1) fun us s2 ⟨xs,H2,I2,r2,q2⟩=>⟨x::xs,H2,I2,.cons r1 r2,q2⟩
def D7 (t:TA):TE:=fun σ H Q=>t σ H fun xs H1=>xs.length<=sizeLine/\∀ p,H1 p=none->Q (.ref p) (av H1 p (.tup xs))
def D8 (t:TA):TE:=fun σ H Q=>t σ H fun xs H1=>xs.length<=sizeLine/\∀ p,H1 p=none->Q (.ref p) (av H1 p (.lst xs))
theorem uV {x1}(h:PA X es t):PE X (.Tuple es x1 pos) (D7 t):=by intro pins s σ H Q I hq;refine wpAny_Tuple_spliced (bn (h pos pins s σ H _ I hq) fun us s1 ⟨xs,H1,I1,r,z,q⟩=>⟨by rw[<- r.length];exact z,?_⟩);have hf:H1 s1.heap.objs.size=none:=I1.hok.fresh (HB _);refine⟨.ref s1.heap.objs.size,av H1 s1.heap.objs.size (.tup xs),I1.laid (t':=s1.toks) (fun b u e=>Hu _ e) (HB _) ?_,rfl,q _ hf⟩;exact⟨z,us,r,⟨_,HQ _ rfl,rfl,_,rfl⟩⟩
theorem uW (h:PA X es t):PE X (.List es pos) (D8 t):=by intro pins s σ H Q I hq;refine wpAny_List_spliced (bn (h pos pins s σ H _ I hq) fun us s1 ⟨xs,H1,I1,r,z,q⟩=>⟨by rw[<- r.length];exact z,?_⟩);have hf:H1 s1.heap.objs.size=none:=I1.hok.fresh (HB _);refine⟨.ref s1.heap.objs.size,av H1 s1.heap.objs.size (.lst xs),I1.laid (t':=s1.toks) (fun b u e=>Hu _ e) (HB _) ?_,rfl,q _ hf⟩;exact⟨z,us,0,r,HQ _ rfl⟩
end
abbrev Sp:=List V->Hp->VK->XK->Prop
abbrev CXT:=List Env->Hp->Ls->XK->Lx->Ls->Prop
structure Env0 (P:Lw) (w:World) (K:Lu) (mg:Str->Option Lx) (base:Heap) (A:Ly) (outer:List Env) (s:Ls) (H:Hp):Prop where
 frames:A.frames=some outer
 mod:Mod K mg base
 bs:∀ b o,base.get? b=some o->s.heap.get? b=some o/\H b=none
 bsz:base.objs.size<=s.heap.objs.size
 funs:s.heap.FunFrames base outer
 frf:∀ b∈frs outer,H b=none
 hok:HOk P w H s.heap
 bare:AllBare s.gens
 kt:WrT K H
def CE (outer:List Env)(P:Lw)(w:World)(H:Hp)(s:Ls)(Q:VK)(u:Lx)(s':Ls):Prop:=∃ v H',s'.os=s.os/\AllBare s'.gens/\Un (frs outer) [] H H' s.heap s'.heap/\HOk P w H' s'.heap/\RelV v u/\Q v H'
def CR (CX:CXT)(outer:List Env)(P:Lw)(w:World)(H:Hp)(s:Ls)(Q:VK)(E:XK)(r:Result)(s':Ls):Prop:=
 match r with
 | .ok (.ret u)=>CE outer P w H s Q u s'
 | .ok _=>False
 | .error e=>CX outer H s E e s'
structure FnOk (P:Lw) (w:World) (K:Lu) (mg:Str->Option Lx) (base:Heap) (CX:CXT) (k:Nat) (f:Addr) (fd:FuncData) (ps:List Str) (sp:Sp):Prop where
 len:∀ vs H Q E,sp vs H Q E->vs.length=ps.length
 run:∀(A:Ly)(outer:List Env)(s:Ls)(H:Hp)(args:Args)(us:List Lx)(vs:List V)(Q:VK)(E:XK),Room k A->Env0 P w K mg base A outer s H->BindsTo s fd args (ps.zip us)->Vals vs us->sp vs H Q E->
  codeAny (model P w) A (.call (.ref f) args) (CR CX outer P w H s Q E) s
theorem FnOk.imp {P:Lw}{w:World}{K:Lu}{mg:Str->Option Lx}{base:Heap}{CX:CXT}{k:Nat}{f:Addr}{fd:FuncData}{ps:List Str}{sp sp':Sp}(F:FnOk P w K mg base CX k f fd ps sp)
 (h:∀ vs H Q E,sp' vs H Q E->sp vs H Q E):FnOk P w K mg base CX k f fd ps sp':=
 ⟨fun vs H Q E q=>F.len vs H Q E (h _ _ _ _ q),fun A outer s H args us vs Q E hr he hb hv hs=>F.run A outer s H args us vs Q E hr he hb hv (h _ _ _ _ hs)⟩
theorem Env0.in1 {P:Lw}{w:World}{K:Lu}{mg:Str->Option Lx}{base:Heap}{A:Ly}{outer:List Env}{s:Ls}{H:Hp}(e:Env0 P w K mg base A outer s H) :
 Env0 P w K mg base A.in1 outer s H:=⟨e.frames,e.mod,e.bs,e.bsz,e.funs,e.frf,e.hok,e.bare,e.kt⟩
section
variable {X:Cx}{pins:List (Addr×Obj)}{σ:St}{H:Hp}{s s':Ls}
theorem Inv.env0 (I:Inv X pins σ H s):Env0 X.prog X.w X.K X.mg X.base X.A X.stack s H:=⟨I.ok.frames,I.ok.mod,I.bs,HS I.ok.bsz I.sz,I.stack,I.stkFree,I.hok,I.bare,I.kt⟩
theorem Inv.after {Q:VK}{u:Lx}(I:Inv X pins σ H s)(h:CE X.stack X.prog X.w H s Q u s'):EP X pins σ Q u s':=by obtain⟨v,H',os,bare,un,hok,r,q⟩:=h;obtain⟨hh,g,d,t,os'⟩:=s';obtain rfl:os'=s.os:=os;exact⟨v,H',I.call (h':=hh) (g':=g) (d':=d) (t':=t) (ch:=[]) un hok bare (fun b z=>absurd z (by simp)),r,q⟩
end
noncomputable def Aw (sp:Sp)(dvs:List V)(E:XK)(t:TA):TE:=fun σ H Q=>t σ H fun vs H1=>sp (vs++dvs) H1 Q E
def Binds (K:Lu)(fd:FuncData)(ps:List Str)(ds:List Lx):Prop:=∀(s:Ls)(us:List Lx),K.In s.heap->(us++ds).length=ps.length->BindsTo s fd ⟨us,[]⟩ (ps.zip (us++ds))
theorem Binds.all {K:Lu}{fd:FuncData}{ps:List Str}(h:∀ us:List Lx,us.length=ps.length->bindArgs fd ⟨us,[]⟩=pure (ps.zip us)):Binds K fd ps []:=fun s us _ hl=>by rw[IS]at hl ⊢;exact .of_eq (h us hl)
def lR (CX:CXT)(X:Cx)(E:XK):Prop:=∀(pins:List (Addr×Obj))(σ:St)(H:Hp)(s:Ls)(e:Lx)(s':Ls),Inv X pins σ H s->CX X.stack H s E e s'->X.xe e s'
section
variable {X:Cx}{CX:CXT}{k:Nat}{f C:Addr}{fd:FuncData}{ps:List Str}{sp:Sp}{dvs:List V}{ds:List Lx}{E:XK}{x m:Str}{p pos apos:Pos}{e o:Expr}{es:List Expr}{ta:TE}{t:TA}
theorem Bu {pins:List (Addr×Obj)}{σ:St}{H:Hp}{s:Ls}{Q:VK}{us:List Lx}{vs:List V}(F:FnOk X.prog X.w X.K X.mg X.base CX k f fd ps sp)(hr:Room k X.A)(hb:Binds X.K fd ps ds)(hd:Vals dvs ds)(hx:lR CX X E)
 (I:Inv X pins σ H s) (r:Vals vs us) (h:sp (vs++dvs) H Q E):wpAny (model X.prog X.w) X.A (call (.ref f) us) (EP X pins σ Q) X.xe s:=by
 have r2:Vals (vs++dvs) (us++ds):=r.append hd;have hl:(us++ds).length=ps.length:=by rw[<- r2.length];exact F.len _ _ _ _ h
 refine wpAny_call (Ks (F.run X.A X.stack s H ⟨us,[]⟩ (us++ds) (vs++dvs) Q E hr I.env0 (hb s us I.kIn hl) r2 h) fun r s' hq=>?_);cases r with
 |error e=>exact hx pins σ H s e s' I hq
 |ok fl=>
  cases fl with
  |ret u=>exact I.after hq
  |next=>exact False.elim hq
  |brk=>exact False.elim hq
  |cont=>exact False.elim hq
theorem yd (F:FnOk X.prog X.w X.K X.mg X.base CX k f fd ps sp)(hr:Room k X.A)(hg:Gl X x)(hm:X.mg x=some (.ref f))(hk:PySem.W.keepIn X.K (.ref f)=true)(hb:Binds X.K fd ps ds)(hd:Vals dvs ds)(hx:lR CX X E)
 (ha:PA X (e::es) t) (hdb:autoParam ((x==("__debug__" : Str))=false) Lz._auto_1) (he:autoParam (starEach (e::es) X.env=(false,eval e X.env)::starEach es X.env) LF._auto_1) (hpl:autoParam ((backTo pos (starEach es X.env)).any (·.1)=false) LF._auto_1) :
 PE X (.Call (.Name x p) (e::es) [] pos) (Aw sp dvs E t):=by
 intro pins s σ H Q I h;refine wpAny_Call_Name_kw (xY I hg hm ?_ hdb);refine PySem.W.callWith_K (h₀:=X.base) I.ok.mod.kin hk (bn (ha pos pins s σ H _ I h) fun us s1 ⟨vs,H1,I1,r,q⟩=>⟨I1.kIn,?_⟩) he hpl;exact Bu F hr hb hd hx I1 r q
end
section
variable {X:Cx}{CX:CXT}{k:Nat}{f C:Addr}{fd:FuncData}{ps ks:List Str}{sp:Sp}{E:XK}{x m:Str}{p pos apos kpos:Pos}{e o:Expr}{es:List Expr}{kws:List Keyword}{te ta:TE}{t tk:TA}{nm:Option Str}
variable {g:List Lx->List Lx->List Lx}{gV:List V->List V->List V}
end
structure FnScope (N P:List Str) (sc:Scope):Prop where
 kind:sc.kind=.function
 co:sc.isCoroutine=false
 gen:sc.isGenerator=false
 nd:N.Nodup
 pre:N.take P.length=P
 par:∀ x∈P,sc.names.lookup x=some .local\/sc.names.lookup x=some .cell
 nofree:∀ y∈sc.names,y.2≠.free
theorem kI {kindOf:Str->Option NameKind}{x:Str}:∀{binds:List (Str×Lx)}{m:Str->Option Lx},(∀ v,(x,v)∉binds)->bindL kindOf binds m x=m x
 | [],_,_=>rfl
 |(n,v)::r,m,h=>by
  unfold bindL;rw[kI fun w hw=>h w (HV _ hw)];split
  .have:x≠n:=by rintro rfl;exact h v HW
   simp[this]
  .rfl
theorem kJ {kindOf:Str->Option NameKind}{x:Str}:∀{binds:List (Str×Lx)}{m:Str->Option Lx},(∀ v,(x,v)∉binds)->bindC kindOf binds m x=m x
 | [],_,_=>rfl
 |(n,v)::r,m,h=>by
  unfold bindC;rw[kJ fun w hw=>h w (HV _ hw)];split
  .rfl
  .have:x≠n:=by rintro rfl;exact h v HW
   simp[this]
theorem kK {kindOf:Str->Option NameKind}{x:Str}{v:Lx}:∀{P:List Str}{vs:List Lx}{i:Nat}{m:Str->Option Lx},P.Nodup->P[i]?=some x->vs[i]?=some v->kindOf x=some .local->
 bindL kindOf (P.zip vs) m x=some v
 | [],_,_,_,_,h,_,_=>by simp at h
 |_::_,[],_,_,_,_,h,_=>by simp at h
 |p::P,w::vs,0,m,nd,h1,h2,hk=>by simp at h1 h2;subst h1;subst h2;show bindL kindOf ((p,w)::P.zip vs) m p=_;unfold bindL;rw[kI fun v hv=>(JG.mp nd).1 (List.of_mem_zip hv).1,Hx hk];simp
 |p::P,w::vs,i+1,m,nd,h1,h2,hk=>by show bindL kindOf ((p,w)::P.zip vs) m x=_;unfold bindL;exact kK (i:=i) (JG.mp nd).2 (by simpa using h1) (by simpa using h2) hk
theorem kN {kindOf:Str->Option NameKind}{x:Str}{v:Lx}:∀{P:List Str}{vs:List Lx}{i:Nat}{m:Str->Option Lx},P.Nodup->P[i]?=some x->vs[i]?=some v->kindOf x≠some .local->
 bindC kindOf (P.zip vs) m x=some v
 | [],_,_,_,_,h,_,_=>by simp at h
 |_::_,[],_,_,_,_,h,_=>by simp at h
 |p::P,w::vs,0,m,nd,h1,h2,hk=>by simp at h1 h2;subst h1;subst h2;show bindC kindOf ((p,w)::P.zip vs) m p=_;unfold bindC;rw[kJ fun v hv=>(JG.mp nd).1 (List.of_mem_zip hv).1,Hz hk];simp
 |p::P,w::vs,i+1,m,nd,h1,h2,hk=>by show bindC kindOf ((p,w)::P.zip vs) m x=_;unfold bindC;exact kN (i:=i) (JG.mp nd).2 (by simpa using h1) (by simpa using h2) hk
noncomputable def dO (N:List Str)(vs:List V):St:=vs.map some++List.replicate (N.length-vs.length) none
noncomputable def pf (CX:CXT)(P:Lw)(w:World)(K:Lu)(mg:Str->Option Lx)(base:Heap)(N:List Str)(qual:Str)(scope:Scope)(f:Addr)(cd:Lx)(A:Ly)(outer:List Env)(s:Ls)(H:Hp)(E:XK):Cx where
 prog:=P
 w:=w
 K:=K
 mg:=mg
 base:=base
 A:=A.deeper (envOfC qual scope s.heap.objs.size f cd)
 N:=N
 s₀:=s
 H₀:=H
 env:=envOfC qual scope s.heap.objs.size f cd
 outer:=outer
 stack:=envOfC qual scope s.heap.objs.size f cd::outer
 ex:=[]
 calm:=true
 fn:=fun _=>true
 pn:=[]
 xe:=fun e s'=>wpAny (model P w) (A.deeper (envOfC qual scope s.heap.objs.size f cd)) (leaving (envOfC qual scope s.heap.objs.size f cd) e) (fun _ s''=>CX outer H s E e s'') (fun e' s''=>CX outer H s E e' s'') s'
theorem nt {sc:Scope}{n:Nat}{x:Str}(h:sc.names.lookup x=some .cell):∃ c,(cellsFrom n sc.names []).lookup x=some c:=by have q:=PySem.W.cellsFrom_some sc.names n [] (.inl h);exact Option.isSome_iff_exists.mp q
theorem sS {CX:CXT}{P:Lw}{w:World}{K:Lu}{mg:Str->Option Lx}{base:Heap}{N ps:List Str}{qual:Str}{scope:Scope}{f:Addr}{cd:Lx}{A:Ly}{outer:List Env}{s s1:Ls}{H:Hp}{E:XK}{us:List Lx}{vs:List V}
 (S:FnScope N ps scope) (hd:A.handled=none) (e0:Env0 P w K mg base A outer s H) (hl:vs.length=ps.length) (r:Vals vs us)
 (x:InCallC s s.heap.objs.size (bindL (envOfC qual scope s.heap.objs.size f cd).kindOf (ps.zip us) fun _=>none) (cellsFrom (s.heap.objs.size+1) scope.names []) (bindC (envOfC qual scope s.heap.objs.size f cd).kindOf (ps.zip us) fun _=>none) s1) :
 Inv (pf CX P w K mg base N qual scope f cd A outer s H E) [] (dO N vs) H s1:=by
 have hpl:ps.length<=N.length:=by have:=Ie List.length S.pre;rw[Ib]at this;omega
 obtain⟨h1,tk,rfl,hk⟩:=x.done;have noA:∀ b:Addr,b∉(pf CX P w K mg base N qual scope f cd A outer s H E).ex:=fun b z=>absurd (show b∈([]:List Addr) from z) (by simp);refine⟨⟨e0.mod,S.kind,rfl,rfl,HB _,fun y z c h1 h2=>?_,fun y hy=>?_,fun y c _ h=>?_,fun _=>hd,Around.frames_deeper e0.frames,.inr ⟨rfl,rfl⟩,fun b z=>absurd z (noA b),e0.bs,e0.bsz,fun b _ _=>noA b,fun b z=>absurd z (noA b),e0.funs,e0.frf,e0.kt⟩,
  rfl,e0.bare,Un.kept hk,⟨_,x.toInCall.ns,fun i y v h1 h2 h3=>?_⟩,fun y c h=>⟨_,x.cell y c h⟩,e0.hok.fresh (HB _),fun y c h=>?_,fun p hp=>absurd (show p∈([]:List (Addr×Obj)) from hp) (by simp),e0.hok.kept hk,?_⟩
 .exact name_of_addr x.apart (Jx h1) (Jx h2)
 .have hy:scope.names.lookup y=some .cell\/scope.names.lookup y=some .free:=hy;rcases hy with hy|hy
  .exact nt hy
  .exact absurd rfl (S.nofree _ (Jx hy))
 .exact IH (x.above y c (Jx h))
 .have hi:i<vs.length:=by
   unfold dO at h2;by_cases hi:i<vs.length
   .exact hi
   .rw[HC (by simpa using hi)]at h2;rw[JY]at h2;split at h2<;>cases h2
  have ha:vs[i]?=some v:=by
   unfold dO at h2;rw[HK (by simpa using hi),Ip]at h2;cases e:vs[i]? with
   |none=>rw[e]at h2;cases h2
   |some a=>rw[e]at h2;cases h2;rfl
  obtain⟨u,hu,rv⟩:=r.get ha;have hp:ps[i]?=some y:=by rw[<- S.pre,List.getElem?_take_of_lt (by omega)];exact h1
  have ndP:ps.Nodup:=by rw[<- S.pre];exact S.nd.sublist (Jy _ _)
  refine⟨u,rv,?_⟩;rcases S.par y (Jv hp) with k|k
  .exact .inl ⟨k,kK ndP hp hu k⟩
  .obtain⟨c,e⟩:=nt (n:=s.heap.objs.size+1) k;refine .inr ⟨.inl k,c,e,?_⟩;have q:=x.cell y c e;rw[kN ndP hp hu (by show scope.names.lookup y≠_;rw[k];decide)]at q;exact q
 .exact e0.hok.fresh (IH (x.above y c (Jx h)))
 .unfold dO;show _=N.length;rw[Ig,HA,KH];omega
theorem D9 {CX:CXT}{P:Lw}{w:World}{K:Lu}{mg:Str->Option Lx}{base:Heap}{k:Nat}{f:Addr}{name qual:Str}{params:Arguments}{body:List Stmt}{scope:Scope}{dV kV doc pm cdv ct oc:Lx}{an od:Option Addr}
 {osl:Array (Option Lx)} {N ps:List Str} {sp:Sp} (lk:K.lookup f=some ⟨oc,od,.func (PySem.W.fnOf name qual params body scope dV kV doc pm an cdv ct),osl⟩) (hcd:PySem.W.codeIn K cdv qual=true) (S:FnScope N ps scope)
 (len:∀ vs H Q E,sp vs H Q E->vs.length=ps.length)
 (hbody:∀(A:Ly)(outer:List Env)(s:Ls)(H:Hp)(vs:List V)(Q:VK)(E:XK),Room k (A.deeper (envOfC qual scope s.heap.objs.size f cdv))->sp vs H Q E->
   ∃ t,PSs (pf CX P w K mg base N qual scope f cdv A outer s H E) body t/\t { nx:=fun _ H'=>Q .non H',rt:=Q } (dO N vs) H) :
 FnOk P w K mg base CX (k+1) f (PySem.W.fnOf name qual params body scope dV kV doc pm an cdv ct) ps sp:=by
 refine⟨len,fun A outer s H args us vs Q E hr e0 hb r hsp=>?_⟩;have hl:=len _ _ _ _ hsp;have KX:K.In s.heap:=e0.mod.kin.keeps fun b o e=>(e0.bs b o e).1;have lim:s.heap.NoLimit:=e0.mod.nolimit.keeps fun b o e=>(e0.bs b o e).1;have hkind:∀ y∈ps.zip us,scope.names.lookup y.1=some .local\/(scope.names.lookup y.1=some .cell/\((cellsFrom (s.heap.objs.size+1) scope.names []).lookup y.1).isSome=true):=fun⟨n,v⟩ hy=>by
  rcases S.par n (List.of_mem_zip hy).1 with q|q
  .exact .inl q
  .exact .inr ⟨q,PySem.W.cellsFrom_some _ _ _ (.inl q)⟩
 refine codeAny_call_function hr.depth (KX _ _ lk) rfl S.co S.gen rfl (PySem.W.codeRec_of KX hcd) (hb _ _ _ _ ?_);refine wpAny_newFunctionEnv_cells S.kind hkind fun env he s1 x=>?_;subst he;refine⟨lim.keeps x.toInCall.keep,codeAny_func ?_⟩;obtain⟨t,ht,hq⟩:=hbody A outer s H vs Q E (hr.deeper _) hsp;have I:Inv (pf CX P w K mg base N qual scope f cdv A outer s H E) [] (dO N vs) H s1:=sS S hr.hd e0 hl r x;refine Jo (ht [] s1 (dO N vs) H _ I hq) (fun fl s' hs=>?_) fun e s' hs=>hs;have fin:∀{σ':St}{H':Hp}{v:V}{u:Lx},Inv (pf CX P w K mg base N qual scope f cdv A outer s H E) [] σ' H' s'->RelV v u->Q v H'->CE outer P w H s Q u s':=fun{σ' H' v u} J rv q=>⟨v,H',J.os,J.bare,J.base,J.hok,rv,q⟩;cases fl with
 |ret u=>obtain⟨v,σ',H',J,rv,q⟩:=hs;exact fin J rv q
 |next=>obtain⟨σ',H',J,q⟩:=hs;exact fin (v:=V.non) (u:=Value.none) J rfl q
 |brk=>obtain⟨_,_,_,q⟩:=hs;exact False.elim q
 |cont=>obtain⟨_,_,_,q⟩:=hs;exact False.elim q
section
variable {X:Cx}{x:Str}{p pos:Pos}{e:Expr}{es:List Expr}{t:TA}{id T:String}{r:List V->Hp->VK->Prop}
noncomputable def GY (r:List V->Hp->VK->Prop)(t:TA):TE:=fun σ H Q=>t σ H fun vs H1=>r vs H1 Q
theorem ga (hc:CallR X (.builtin id) r) (hg:Gl X x) (hm:X.mg x=none) (hv:bootBuiltins x=some (.builtin id)) (ha:PA X (e::es) t) (hn:autoParam (x≠"__name__") Lz._auto_1) (hdb:autoParam ((x==("__debug__" : Str))=false) Lz._auto_1)
 (he:autoParam (starEach (e::es) X.env=(false,eval e X.env)::starEach es X.env) LF._auto_1) (hpl:autoParam ((backTo pos (starEach es X.env)).any (·.1)=false) LF._auto_1):PE X (.Call (.Name x p) (e::es) [] pos) (GY r t):=by
 intro pins s σ H Q I h;refine wpAny_Call_Name_kw (i_ I hg hm hv ?_ hn hdb);exact PyProof.Rows.callWith_builtin1 (bn (ha pos pins s σ H _ I h) fun us s1 ⟨vs,H1,I1,r1,q1⟩=>hc pins s1 σ H1 vs us Q I1 r1 q1) he hpl
theorem g6 (hc:CallR X (.type T) r) (hg:Gl X x) (hm:X.mg x=none) (hv:bootBuiltins x=some (.type T)) (ha:PA X (e::es) t) (hn:autoParam (x≠"__name__") Lz._auto_1) (hdb:autoParam ((x==("__debug__" : Str))=false) Lz._auto_1)
 (he:autoParam (starEach (e::es) X.env=(false,eval e X.env)::starEach es X.env) LF._auto_1) (hpl:autoParam ((backTo pos (starEach es X.env)).any (·.1)=false) LF._auto_1):PE X (.Call (.Name x p) (e::es) [] pos) (GY r t):=by
 intro pins s σ H Q I h;refine wpAny_Call_Name_kw (i_ I hg hm hv ?_ hn hdb);exact Ka (bn (ha pos pins s σ H _ I h) fun us s1 ⟨vs,H1,I1,r1,q1⟩=>hc pins s1 σ H1 vs us Q I1 r1 q1) he hpl
end
end L2
namespace HT
open PySem PyProof.Rows
section
open PySem.SeqAt
open PySem.AutoSeq1 (wpAny_loadPart')
open PySem.MeetsSeq PySem.MeetsSeq2 PySem.MeetsSeq3
end
section
variable {prog:Lw}{w:World}{A:Ly}{E:Lx->Ls->Prop}{s:Ls}
theorem cat_tup {t b:Addr}{vs ws:List Lx}{Q:Lx->Ls->Prop}(ht:IsTup s.heap t vs.toArray)(hb:IsTup s.heap b ws.toArray)(hv:vs≠[])
 (h1:ws=[]->Q (.ref t) s) (h2:ws≠[]->Q (.ref s.heap.objs.size) { s with heap:=s.heap.push { cls:=.type "tuple",data:=.seq (vs++ws).toArray } })
 (hsz:vs.length+ws.length<=sizeLine):wpAny (model prog w) A (binaryOp .Add (.ref t) (.ref b)) Q E s:=by
 obtain⟨⟨cls,dd,data,sl⟩,ho,hc,n,hd⟩:=id ht;obtain⟨⟨cls2,dd2,data2,sl2⟩,ho2,hc2,n2,hd2⟩:=id hb;simp only at hc hd hc2 hd2;subst hc hd hc2 hd2;have e:vs.toArray++ws.toArray=(vs++ws).toArray:=by simp
 by_cases hw:ws=[]
 .exact concat_meets ⟨_,ho,rfl⟩ ⟨_,ho2,rfl⟩ noFill_tuple_add seq_tuple_add PySem.F.slot_tuple_add PySem.F.entry_tuple_add (PySem.F.args_tuple_add_2 _ _)
   (tuple_addW1 t b vs.toArray ws.toArray n n2 dd dd2 sl sl2 (by simpa using hv) (by simp[hw])) ⟨ho,ho2,h1 hw⟩
 .refine concat_meets ⟨_,ho,rfl⟩ ⟨_,ho2,rfl⟩ noFill_tuple_add seq_tuple_add PySem.F.slot_tuple_add PySem.F.entry_tuple_add (PySem.F.args_tuple_add_2 _ _)
   (tuple_addW2 t b vs.toArray ws.toArray n n2 dd dd2 sl sl2 (by simpa using hv) (by simpa using hw) (by rw[Hy,Hy];exact hsz)) ⟨ho,ho2,?_⟩
  rw[e];exact h2 hw
noncomputable def sIx (n d:Nat):Option Int->Nat
 |none=>d
 |some v=>if v<0 then (v+(n:Int)).toNat else min v.toNat n
theorem Bv (n d:Nat)(hd:d<=n)(o:Option Int):sIx n d o<=n:=by
 cases o with
 |none=>exact hd
 |some v=>
  show(if v<0 then (v+(n:Int)).toNat else min v.toNat n)<=n;by_cases hv:v<0
  .rw[Hx hv];omega
  .rw[Hz hv];exact Nat.min_le_right _ _
theorem qI (v:Int)(n d:Nat):(if v<0 then max (v+(n:Int)) 0 else min v (n:Int))=((sIx n d (some v):Nat):Int):=by
 show(if v<0 then max (v+(n:Int)) 0 else min v (n:Int))=(((if v<0 then (v+(n:Int)).toNat else min v.toNat n):Nat):Int);by_cases hv:v<0
 .simp only[Hx hv];omega
 .simp only[Hz hv];omega
theorem ph (lo hi:Option Int)(n:Nat):Builtin.Slice.sliceAdjust lo hi 1 (n:Int)=(((sIx n 0 lo:Nat):Int),((sIx n n hi:Nat):Int)):=by
 have h1:¬ ((1:Int)<0):=by omega
 unfold Builtin.Slice.sliceAdjust;simp only[h1,IQ];refine Li ?_ ?_
 .cases lo with
  |none=>rfl
  |some v=>exact qI v n 0
 .cases hi with
  |none=>rfl
  |some v=>exact qI v n n
theorem pq (i j:Nat):Builtin.Slice.slicePlaces (i:Int) (j:Int) 1=j-i:=by
 unfold Builtin.Slice.slicePlaces;have h1:(1:Int)>0:=by omega
 simp only[h1,JJ,Int.ediv_one];split<;>omega
theorem jc {v:Lx}{o:Option Int}{Q:Option Int->Ls->Prop}(p:IsPart v o)(h:Q o s):wpAny (model prog w) A (Builtin.Slice.slicePartIndex v) Q E s:=by
 cases p with
 |none=>exact slicePart_none h
 |int i t=>exact slicePart_int h
theorem sliceApplied_gen {sl:Addr}{vl vu:Lx}{lo hi:Option Int}{n:Nat}{Q:Int×Int×Nat->Ls->Prop}(hs:s.heap.IsSliceOf sl vl vu .none)(pl:IsPart vl lo)(pu:IsPart vu hi)
 (h:Q (((sIx n 0 lo:Nat):Int),1,sIx n n hi-sIx n 0 lo) s):wpAny (model prog w) A (Builtin.Slice.sliceApplied (.ref sl) (pure (n:Int))) Q E s:=by
 obtain⟨os,hos,hcs,hds⟩:=id hs;unfold Builtin.Slice.sliceApplied Builtin.Slice.sliceFields;refine Hs (Hs (wpAny_field hos hds (x:=vl) rfl (Hs (wpAny_field hos hds (x:=vu) rfl (Hs (wpAny_field hos hds (x:=.none) rfl (Hw ?_)))))));refine Hs (slicePart_none ?_);show wpAny _ _ (if ((1:Int)==0)=true then _ else _) _ _ s;rw[Hz (by decide)];refine Hs (jc pl (Hs (jc pu (Hs (Hw ?_)))));show wpAny _ _ (match Builtin.Slice.sliceAdjust lo hi 1 (n:Int) with|(lo,hi)=>pure (lo,(1:Int),Builtin.Slice.slicePlaces lo hi 1)) _ _ s;rw[ph lo hi n];show wpAny _ _ (pure (((sIx n 0 lo:Nat):Int),(1:Int),Builtin.Slice.slicePlaces ((sIx n 0 lo:Nat):Int) ((sIx n n hi:Nat):Int) 1)) _ _ s;rw[pq];exact Hw h
theorem uX (xs:Array Lx)(i k:Nat):((List.range k).filterMap fun(m:Nat)=>xs[((i:Int)+(m:Int)*1).toNat]?).toArray=((xs.toList.drop i).take k).toArray:=by
 have e:(fun(m:Nat)=>xs[((i:Int)+(m:Int)*1).toNat]?)=fun m=>xs[i+m]?:=by
  funext m;have:((i:Int)+(m:Int)*1).toNat=i+m:=by omega
  rw[this]
 rw[e];have:=pick_run xs i k;rw[List.filterMap_map]at this;have e2:((fun x=>xs[x]?) ∘ fun x=>i+x)=fun m=>xs[i+m]?:=rfl;rw[e2]at this;rw[this]
theorem getItem_tuple_cut {t sl:Addr}{items:Array Lx}{vl vu:Lx}{lo hi:Option Int}{Q:Lx->Ls->Prop}(ht:IsTup s.heap t items)(hs:s.heap.IsSliceOf sl vl vu .none)(pl:IsPart vl lo)(pu:IsPart vu hi)
 (hw:¬ (sIx items.size 0 lo=0/\sIx items.size items.size hi=items.size))
 (h:Q (.ref s.heap.objs.size) { s with heap:=s.heap.push { cls:=.type "tuple",data:=.seq ((items.toList.drop (sIx items.size 0 lo)).take (sIx items.size items.size hi-sIx items.size 0 lo)).toArray } })
 (hsz:items.size<=sizeLine):wpAny (model prog w) A (getItem (.ref t) (.ref sl)) Q E s:=by
 have htake:sizeOk (.seq ((items.toList.drop (sIx items.size 0 lo)).take (sIx items.size items.size hi-sIx items.size 0 lo)).toArray):=by show((items.toList.drop (sIx items.size 0 lo)).take (sIx items.size items.size hi-sIx items.size 0 lo)).toArray.size<=sizeLine;rw[Hy,Ib,JB,HX];omega
 have hj:sIx items.size items.size hi<=items.size:=Bv _ _ (HB _) hi;obtain⟨os,hos,hcs,hds⟩:=id hs;have hTs:s.TypeIs (.ref sl) "slice":=⟨os,hos,hcs⟩;unfold getItem
 try with_reducible refine Iz ?_
 first|refine Hs (Hw ?_)|skip
 refine Hs (wpAny_sequenceKey ht.typeIs (by decide) ?_);refine Hs (JZ (name:=Str.ofString "__getitem__") ht.typeIs IN
  (Jl IN ht.typeIs entry_tuple_getitem ?_ (args_tuple_getitem _ _)))
 show wpAny _ _ (Builtin.Tuple.tupleItemsOf (.ref t) >>= _) _ _ s;refine Hs (tupleItemsOf_ ht ?_);refine Hs (KI hTs ?_);rw[Hx (by decide)];refine Hs (sliceApplied_gen hs pl pu ?_);have hno:¬ ((((sIx items.size 0 lo:Nat):Int)==0&&(1:Int)==1&&(sIx items.size items.size hi-sIx items.size 0 lo)==items.size)=true):=by intro q;rw[Ir,Ir]at q;have q1:((sIx items.size 0 lo:Nat):Int)=0:=eq_of_beq q.1.1;have q2:sIx items.size items.size hi-sIx items.size 0 lo=items.size:=eq_of_beq q.2;exact hw ⟨by omega,by omega⟩
 show wpAny _ _ (if (((sIx items.size 0 lo:Nat):Int)==0&&(1:Int)==1&&(sIx items.size items.size hi-sIx items.size 0 lo)==items.size)=true then _ else _) _ _ s;rw[Hz hno,uX]
 first
  |exact Hs (m:=Builtin.Tuple.tupleExact _) (Jz (Hw ⟨_,rfl,Hw h⟩) htake)
  |exact Hs (m:=Builtin.Tuple.tupleExact _) (Jz (Hs (Hw (Hw ⟨_,rfl,Hw h⟩))) htake)
  |exact Hs (Hs (m:=Builtin.Tuple.tupleExact _) (Jz (Hw (Hw ⟨_,rfl,Hw h⟩)) htake))
  |exact Hs (Hs (m:=Builtin.Tuple.tupleExact _) (Jz (Hw ⟨_,rfl,Hw h⟩) htake))
end
end HT
namespace L2
open PySem PySem.Spec PyProof.Rows
abbrev TO:=St->Hp->(Option Int->Hp->Prop)->Prop
def PO (X:Cx)(e:Option Expr)(t:TO):Prop:=
 ∀(pins:List (Addr×Obj))(s:Ls)(σ:St)(H:Hp)(Q:Option Int->Hp->Prop),Inv X pins σ H s->t σ H Q->
  wpAny (model X.prog X.w) X.A (evalPart e X.env) (fun u s'=>∃ o H',Inv X pins σ H' s'/\IsPart u o/\Q o H') X.xe s
noncomputable def D_ (t:TE):TO:=fun σ H Q=>t σ H fun x H1=>∃ i,x=.int i/\Q (some i) H1
section
variable {X:Cx}{e:Expr}{te:TE}{lo hi:Option Expr}{tl th:TO}{pos p2:Pos}
theorem ye (h:PE X e te):PO X (some e) (D_ te):=by intro pins s σ H Q I hw;rw[evalPart_some];refine bn (h pins s σ H _ I hw) fun u s1 ⟨x,H1,I1,r1,q1⟩=>?_;obtain⟨i,rfl,q⟩:=q1;obtain⟨t,rfl⟩:=r1;exact⟨some i,H1,I1,.int i t,q⟩
def SlR (X:Cx)(r:V->Option Int->Option Int->Hp->VK->Prop):Prop:=
 ∀(pins:List (Addr×Obj))(s:Ls)(σ:St)(H:Hp)(x:V)(v vl vu:Lx)(lo hi:Option Int)(sl:Addr)(Q:VK),Inv X pins σ H s->RelV x v->s.heap.IsSliceOf sl vl vu .none->IsPart vl lo->IsPart vu hi->r x lo hi H Q->
  ∃ T id,typeLookup (.type T) "__getitem__"=pure (some (.builtin id))/\s.TypeIs v T/\wpAny (model X.prog X.w) X.A (getItem v (.ref sl)) (EP X pins σ Q) X.xe s
theorem SlR.or {r r':V->Option Int->Option Int->Hp->VK->Prop}(h:SlR X r)(h':SlR X r'):SlR X (fun x lo hi H Q=>r x lo hi H Q\/r' x lo hi H Q):=by
 intro pins s σ H x v vl vu lo hi sl Q I rx hs pl pu q;rcases q with q|q
 .exact h pins s σ H x v vl vu lo hi sl Q I rx hs pl pu q
 .exact h' pins s σ H x v vl vu lo hi sl Q I rx hs pl pu q
noncomputable def Hc (r:V->Option Int->Option Int->Hp->VK->Prop)(te:TE)(tl th:TO):TE:=fun σ H Q=>te σ H fun x H1=>tl σ H1 fun l H2=>th σ H2 fun u H3=>r x l u H3 Q
theorem uY {r:V->Option Int->Option Int->Hp->VK->Prop}(hr:SlR X r)(he:PE X e te)(hl:PO X lo tl)(hu:PO X hi th):PE X (.Subscript e (.Slice lo hi none p2) pos) (Hc r te tl th):=by intro pins s σ H Q I h;refine Subscript_ (bn (he pins s σ H _ I h) fun v s1 ⟨x,H1,I1,r1,q1⟩=>?_);refine wpAny_Slice (bn (hl pins s1 σ H1 _ I1 q1) fun vl s2 ⟨l,H2,I2,pl,q2⟩=>bn (hu pins s2 σ H2 _ I2 q2) fun vu s3 ⟨u,H3,I3,pu,q3⟩=>?_);rw[evalPart_none];refine Hw ?_;have I4:Inv X pins σ H3 { s3 with heap:=s3.heap.push { cls:=.type "slice",data:=.fields #[vl,vu,.none] } }:=I3.kept (t':=s3.toks) fun b ob q=>Hu _ q;obtain⟨T,id,hT,ht,hg⟩:=hr pins { s3 with heap:=s3.heap.push { cls:=.type "slice",data:=.fields #[vl,vu,.none] } } σ H3 x v vl vu l u s3.heap.objs.size Q I4 r1 (Heap.IsSliceOf.new ..) pl pu q3;show wpAny (model X.prog X.w) X.A (subscriptTail e (.Slice lo hi none p2) v (.ref s3.heap.objs.size)) (EP X pins σ Q) X.xe { s3 with heap:=s3.heap.push { cls:=.type "slice",data:=.fields #[vl,vu,.none] } };exact tail_any (ops:=[.ref s3.heap.objs.size,v]) ht hT hg (by with_unfolding_all rfl)
def nu (xs:List V)(lo hi:Option Int):List V:=(xs.drop (HT.sIx xs.length 0 lo)).take (HT.sIx xs.length xs.length hi-HT.sIx xs.length 0 lo)
theorem ij (xs:List V)(lo hi:Option Int):(nu xs lo hi).length<=xs.length:=by unfold nu;rw[Ib,JB];omega
def Gj (K:Lu):V->Option Int->Option Int->Hp->VK->Prop:=fun x lo hi H Q=>∃ a xs,x=.ref a/\SqT K H a xs/\
 ¬ (HT.sIx xs.length 0 lo=0/\HT.sIx xs.length xs.length hi=xs.length)/\∀ p,H p=none->Q (.ref p) (av H p (.tup (nu xs lo hi)))
theorem sl_tup:SlR X (Gj X.K):=by
 intro pins s σ H x v vl vu lo hi sl Q I rx hs pl pu h;obtain⟨a,xs,rfl,hx,hw,q⟩:=h;cases rx;obtain⟨its,r,ht,hz⟩:=I.tuple hx;have bg:its.toArray.size=xs.length:=by rw[Hy];exact r.length.symm
 refine⟨"tuple",_,IN.lookup,ht.typeIs,?_⟩;refine HT.getItem_tuple_cut ht hs pl pu (by rw[bg];exact hw) ?_ (by rw[bg];exact hz);rw[bg];refine⟨.ref s.heap.objs.size,_,I.laid (t':=s.toks) (o:=.tup (nu xs lo hi)) (fun b ob q=>Hu _ q) (HB _) ?_,rfl,q _ (I.hok.fresh (HB _))⟩;exact⟨HS (ij xs lo hi) hz,_,(r.drop (HT.sIx xs.length 0 lo)).take (HT.sIx xs.length xs.length hi-HT.sIx xs.length 0 lo),IsTup.new _ _⟩
def Ea (K:Lu):R2:=fun x y H Q=>∃ a b xs ys,x=.ref a/\y=.ref b/\SqT K H a xs/\SqT K H b ys/\xs≠[]/\xs.length+ys.length<=sizeLine/\
 (ys=[]->Q (.ref a) H)/\(ys≠[]->∀ p,H p=none->Q (.ref p) (av H p (.tup (xs++ys))))
theorem Vals.nil_iff {xs:List V}{us:List Lx}(r:Vals xs us):us=[]↔xs=[]:=by
 cases r with
 |nil=>simp
 |cons _ _=>simp
theorem op_catT:OpR X (binaryOp .Add) (Ea X.K):=by intro pins s σ H x y v u Q I rx ry h;obtain⟨a,b,xs,ys,rfl,rfl,ha,hb,hx,hz,q1,q2⟩:=h;cases rx;cases ry;obtain⟨its,r1,p1,_⟩:=I.tuple ha;obtain⟨its2,r2,p2,_⟩:=I.tuple hb;refine HT.cat_tup p1 p2 (fun z=>hx (r1.nil_iff.mp z)) (fun z=>⟨.ref a,H,I,rfl,q1 (r2.nil_iff.mp z)⟩) (fun z=>?_) (by rw[<- r1.length,<- r2.length];exact hz);refine⟨.ref s.heap.objs.size,_,I.laid (t':=s.toks) (o:=.tup (xs++ys)) (fun b ob q=>Hu _ q) (HB _) ?_,rfl,q2 (fun w=>z (r2.nil_iff.mpr w)) _ (I.hok.fresh (HB _))⟩;exact⟨by rw[Ig];exact hz,_,r1.append r2,IsTup.new _ _⟩
end
noncomputable def m8 (n:Nat)(i:Int):Option Nat:=if 0<=i then (if i<n then some i.toNat else none) else if -(n:Int)<=i then some (i+n).toNat else none
def atI {α:Type}(xs:List α)(i:Int):Option α:=(m8 xs.length i).bind fun j=>xs[j]?
theorem qJ {n:Nat}{i:Int}{j:Nat}(h:m8 n i=some j):seqIndex? i n=some j/\j<n/\-(n:Int)<=i/\i<n:=by
 unfold m8 at h;by_cases h0:0<=i
 .rw[Hx h0]at h;by_cases h1:i<n
  .rw[Hx h1]at h;have e:i.toNat=j:=Iu h;exact⟨by rw[seqIndex_of h0 h1,e],by omega,by omega,h1⟩
  .rw[Hz h1]at h;cases h
 .rw[Hz h0]at h;by_cases h1:-(n:Int)<=i
  .rw[Hx h1]at h;have e:(i+n).toNat=j:=Iu h;exact⟨by rw[seqIndex_neg (by omega) h1,e],by omega,h1,by omega⟩
  .rw[Hz h1]at h;cases h
theorem lS {α:Type}{xs:List α}{i:Int}{v:α}(h:atI xs i=some v):∃ j,seqIndex? i xs.length=some j/\xs[j]?=some v/\j<xs.length/\-(xs.length:Int)<=i/\i<xs.length:=by
 unfold atI at h;cases e:m8 xs.length i with
 |none=>rw[e]at h;cases h
 |some j=>rw[e]at h;obtain⟨h1,h2,h3,h4⟩:=qJ e;exact⟨j,h1,h,h2,h3,h4⟩
theorem yf {α:Type}{xs:List α}{j:Nat}{v:α}(h:xs[j]?=some v):atI xs (j:Int)=some v:=by
 have hj:j<xs.length:=(Hv.mp h).1;have e:m8 xs.length (j:Int)=some j:=by unfold m8;rw[Hx (by omega),Hx (by omega)];simp
 unfold atI;rw[e];exact h
def lU (b:Expr):Prop:=∀ o i,subscripted b false o i=operate [o,i] (getItem o i)
def IxR (X:Cx)(r:R2):Prop:=
 ∀(value slice:Expr)(pins:List (Addr×Obj))(s:Ls)(σ:St)(H:Hp)(x y:V)(v u:Lx)(Q:VK),Inv X pins σ H s->RelV x v->RelV y u->r x y H Q->
  subscripted slice false v u=operate [v,u] (getItem v u)->wpAny (model X.prog X.w) X.A (subscriptTail value slice v u) (EP X pins σ Q) X.xe s
def Gk (X:Cx)(id:String)(r:V->List V->Hp->VK->Prop):Prop:=
 ∀(pins:List (Addr×Obj))(s:Ls)(σ:St)(H:Hp)(x:V)(xs:List V)(v:Lx)(us:List Lx)(Q:VK),Inv X pins σ H s->RelV x v->Vals xs us->r x xs H Q->
  wpAny (model X.prog X.w) X.A (call (.builtin id) (v::us)) (EP X pins σ Q) X.xe s
section
variable {X:Cx}{a b:Expr}{ta tb:TE}{pos:Pos}
theorem IxR.or {r r':R2}(h:IxR X r)(h':IxR X r'):IxR X (fun x y H Q=>r x y H Q\/r' x y H Q):=by
 intro value slice pins s σ H x y v u Q I rx ry q hs;rcases q with q|q
 .exact h value slice pins s σ H x y v u Q I rx ry q hs
 .exact h' value slice pins s σ H x y v u Q I rx ry q hs
theorem Ax {r:R2}(hr:IxR X r)(ha:PE X a ta)(hb:PE X b tb)(hs:lU b):PE X (.Subscript a b pos) (DG r ta tb):=by intro pins s σ H Q I h;exact Subscript_ (Bo ha hb I h fun v u s2 x y H2 I2 rx ry q=>hr a b pins s2 σ H2 x y v u Q I2 rx ry q (hs _ _))
def Bw (K:Lu):R2:=fun x y H Q=>∃ p xs i v,x=.ref p/\y=.int i/\SqL K H p xs/\atI xs i=some v/\Q v H
def Eb (K:Lu):R2:=fun x y H Q=>∃ p xs i v,x=.ref p/\y=.int i/\SqT K H p xs/\atI xs i=some v/\Q v H
def Ec:R2:=fun x y H Q=>∃ z i c,x=.str z/\y=.int i/\z.length<=sizeLine/\atI z.cps.toList i=some c/\Q (.str ⟨#[c]⟩) H
theorem ix_list:IxR X (Bw X.K):=by
 intro value slice pins s σ H x y v u Q I rx ry h hs;obtain⟨p,xs,i,z,rfl,rfl,hq,he,q⟩:=h;cases rx;obtain⟨t,rfl⟩:=ry;obtain⟨its,r,pl,hz⟩:=I.list hq;obtain⟨j,h1,h2,h3,h4,h5⟩:=lS he;obtain⟨w,ew,rw'⟩:=r.get h2;have hl:=r.length;have hn:=fR;have fin:EP X pins σ Q w s:=⟨z,H,I,rw',q⟩;by_cases h0:0<=i
 .have hj:i.toNat=j:=by rw[seqIndex_of h0 h5]at h1;exact Iu h1
  exact item_listR pl.isList h0 (by omega) (by rw[hj];simpa using ew) fin hs
 .have hj:(i+(its.toArray.size:Int)).toNat=j:=by rw[seqIndex_neg (by omega) h4]at h1;rw[Hy,<- hl];exact Iu h1
  exact subscriptTail_builtinR (x:=w) pl.isList.typeIs slot_list_getitem.lookup
   (wpAny_getItem_list_neg (Q:=fun r s'=>r=w/\EP X pins σ Q r s') pl.isList (by omega) (by rw[Hy]<;>omega) (by omega) (by rw[hj];simpa using ew) ⟨rfl,fin⟩) hs
theorem ix_tup:IxR X (Eb X.K):=by
 intro value slice pins s σ H x y v u Q I rx ry h hs;obtain⟨p,xs,i,z,rfl,rfl,hq,he,q⟩:=h;cases rx;obtain⟨t,rfl⟩:=ry;obtain⟨its,r,pl,hz⟩:=I.tuple hq;obtain⟨j,h1,h2,h3,h4,h5⟩:=lS he;obtain⟨w,ew,rw'⟩:=r.get h2;have hl:=r.length;have hn:=fR;have fin:EP X pins σ Q w s:=⟨z,H,I,rw',q⟩;exact subscriptTail_builtinR (x:=w) pl.typeIs slot_tuple_getitem.lookup
  (getItem_tuple (j:=j) (Q:=fun r s'=>r=w/\EP X pins σ Q r s') pl (by omega) (by omega) (by rw[Hy,<- hl];exact h1) (by simpa using ew) ⟨rfl,fin⟩) hs
theorem Bx:IxR X Ec:=by
 intro value slice pins s σ H x y v u Q I rx ry h hs;obtain⟨z,i,c,rfl,rfl,hz,he,q⟩:=h;obtain⟨t,rfl⟩:=rx;obtain⟨t',rfl⟩:=ry;obtain⟨j,h1,h2,h3,h4,h5⟩:=lS he;have hl:z.cps.toList.length=z.length:=by simp[Str.length]
 rw[hl]at h1 h4 h5;have hn:=fR;exact tail_any (typeIs_str s z t) slot_str_getitem.lookup (getItem_str (c:=c) (by have e1:decide (i < -(2 ^ 63:Int))=false:=HF (by omega);have e2:decide (i>=2 ^ 63)=false:=HF (by omega);rw[e1,e2,Bool.or_false]) (by rw[h1];simpa using h2) ⟨.str ⟨#[c]⟩,H,I.tok _,⟨_,rfl⟩,q⟩) hs
def Hd (K:Lu):R2:=fun x y H Q=>Bw K x y H Q\/Eb K x y H Q\/Ec x y H Q
theorem By:IxR X (Hd X.K):=ix_list.or (ix_tup.or Bx)
theorem px (its:List Lx) (n j:Nat) (u:Lx):Obj.mapSeq (·.setIfInBounds j u) { cls:=.type "list",data:=.seq its.toArray n }={ cls:=.type "list",data:=.seq (its.set j u).toArray n }:=by simp[Obj.mapSeq]
theorem Inv.lst {pins:List (Addr×Obj)}{σ:St}{H:Hp}{s:Ls}{p:Addr}{xs:List V}(I:Inv X pins σ H s)(h:H p=some (.lst xs)) :
 ∃(its:List Lx)(n:Nat),Vals xs its/\s.heap.get? p=some { cls:=.type "list",data:=.seq its.toArray n }/\xs.length<=sizeLine:=by
 obtain⟨z,its,n,r,e⟩:=I.hok p _ h;exact⟨its,n,r,e,z⟩
theorem Inv.lstUpd {pins:List (Addr×Obj)}{σ:St}{H:Hp}{s:Ls}{p:Addr}{xs ys:List V}{its its':List Lx}{n n':Nat}{f:Obj->Obj}(I:Inv X pins σ H s)(h:H p=some (.lst xs))
 (ho:s.heap.get? p=some { cls:=.type "list",data:=.seq its.toArray n }) (hf:f { cls:=.type "list",data:=.seq its.toArray n }={ cls:=.type "list",data:=.seq its'.toArray n' }) (r:Vals ys its') (hz:ys.length<=sizeLine) (t:Nat) :
 Inv X pins σ (av H p (.lst ys)) { s with heap:=s.heap.update p f,toks:=t }:=by
 have e:(s.heap.update p f).get? p=some { cls:=.type "list",data:=.seq its'.toArray n' }:=by rw[Jp f ho (by rw[hf]<;>rfl),hf]
 refine I.write (x:=p) (e:=p) (by rw[h];trivial) (.inl rfl) (fun b u hb q=>(IZ _ _ (Jb hb)).trans q) ⟨_,e⟩ ?_;exact⟨hz,its',n',r,e⟩
def Ed:V->V->V->Hp->(Hp->Prop)->Prop:=fun o i v H Q=>∃ p xs k j,o=.ref p/\i=.int k/\H p=some (.lst xs)/\m8 xs.length k=some j/\Q (av H p (.lst (xs.set j v)))
theorem uZ:DV X Ed:=by
 intro pins s σ H o i v ov iv u Q I ro ri rv h;obtain⟨p,xs,k,j,rfl,rfl,hp,hj,q⟩:=h;cases ro;obtain⟨t,rfl⟩:=ri;obtain⟨its,n,r,ho,hz⟩:=I.lst hp;obtain⟨h1,h2,h3,h4⟩:=qJ hj;have hl:=r.length;have hn:=fR;have I':Inv X pins σ (av H p (.lst (xs.set j v))) { s with heap:=s.heap.update p (Obj.mapSeq (·.setIfInBounds j u)) }:=I.lstUpd hp ho (px its n j u) (r.set rv j) (by rw[Jr];exact hz) s.toks;by_cases h0:0<=k
 .have hk:k.toNat=j:=by rw[seqIndex_of h0 h4]at h1;exact Iu h1
  exact PySem.W.ki_setAt ho h0 (by omega) (by rw[Hy,<- hl];exact h4) (by rw[hk];exact⟨_,I',q⟩)
 .have hk:(k+(its.toArray.size:Int)).toNat=j:=by rw[seqIndex_neg (by omega) h3]at h1;rw[Hy,<- hl];exact Iu h1
  exact PySem.W.ki_setBack ho (by omega) (by rw[Hy,<- hl];exact h3) (by omega) (by rw[hk];exact⟨_,I',q⟩)
theorem lV (lo hi:Option Int)(n:Nat):(sliceBounds lo hi none n).1=((HT.sIx n 0 lo:Nat):Int)/\(sliceBounds lo hi none n).2.1=((HT.sIx n n hi:Nat):Int)/\(sliceBounds lo hi none n).2.2=1:=by
 refine⟨?_,?_,rfl⟩
 .cases lo with
  |none=>simp[sliceBounds,HT.sIx]
  |some i=>
   simp only[sliceBounds,HT.sIx,Option.getD_none,show(1:Int)>0 by decide,JJ];by_cases h:i<0
   .simp only[h,JJ]<;>omega
   .simp only[h,IQ]<;>omega
 .cases hi with
  |none=>simp[sliceBounds,HT.sIx]
  |some i=>
   simp only[sliceBounds,HT.sIx,Option.getD_none,show(1:Int)>0 by decide,JJ];by_cases h:i<0
   .simp only[h,JJ]<;>omega
   .simp only[h,IQ]<;>omega
theorem j9 (its:List Lx)(lo hi:Option Int):slicePick its.toArray lo hi none=((its.drop (HT.sIx its.length 0 lo)).take (HT.sIx its.length its.length hi-HT.sIx its.length 0 lo)).toArray:=by obtain⟨h1,h2,h3⟩:=lV lo hi its.toArray.size;unfold slicePick;rw[h1,h2,h3];simp only[sliceRange_one,pick_run,Hy]<;>rfl
def Gm (K:Lu):V->Option Int->Option Int->Hp->VK->Prop:=fun x lo hi H Q=>∃ a xs,x=.ref a/\SqL K H a xs/\∀ p,H p=none->Q (.ref p) (av H p (.lst (nu xs lo hi)))
theorem sl_list:SlR X (Gm X.K):=by intro pins s σ H x v vl vu lo hi sl Q I rx hs pl pu h;obtain⟨a,xs,rfl,hx,q⟩:=h;cases rx;obtain⟨its,r,ht,hz⟩:=I.list hx;have bg:=r.length;refine⟨"list",_,slot_list_getitem.lookup,ht.isList.typeIs,?_⟩;refine wpAny_getItem_list_slice ht.isList hs pl pu .none (by simp) ?_ (by rw[Hy]<;>omega);rw[j9,<- bg];refine⟨.ref s.heap.objs.size,_,I.laid (t':=s.toks) (o:=.lst (nu xs lo hi)) (fun b ob q=>Hu _ q) (HB _) ?_,rfl,q _ (I.hok.fresh (HB _))⟩;exact⟨HS (ij xs lo hi) hz,_,0,(r.drop (HT.sIx xs.length 0 lo)).take (HT.sIx xs.length xs.length hi-HT.sIx xs.length 0 lo),HQ _ rfl⟩
theorem call_len_seq:CallR X (.builtin "len") (fun xs H Q=>∃ p ys,xs=[.ref p]/\(SqL X.K H p ys\/SqT X.K H p ys)/\Q (.int ys.length) H):=by
 intro pins s σ H xs us Q I r h;obtain⟨p,ys,rfl,hq,q⟩:=h;obtain⟨u,rfl,rx⟩:=cW r;cases rx;have hn:=fR;rcases hq with hq|hq
 .obtain⟨its,r',pl,hz⟩:=I.list hq;have bg:=r'.length;exact Calls.call_len_list pl.isList (by simp only[Hy]<;>omega) ⟨.int ys.length,H,I.tok _,⟨s.toks+1,by rw[Hy,bg]⟩,q⟩
 .obtain⟨its,r',pl,hz⟩:=I.tuple hq;have bg:=r'.length;exact len_tuple pl (by simp only[Hy]<;>omega) ⟨.int ys.length,H,I.tok _,⟨s.toks+1,by rw[Hy,bg]⟩,q⟩
theorem lX:CallR X (.builtin "len") (fun xs H Q=>∃ z,xs=[.str z]/\z.length<=sizeLine/\Q (.int z.length) H):=by intro pins s σ H xs us Q I r h;obtain⟨z,rfl,hz,q⟩:=h;obtain⟨u,rfl,t,rfl⟩:=cW r;have hn:=fR;exact len_str (by omega) ⟨.int z.length,H,I.tok _,⟨_,rfl⟩,q⟩
theorem CallR.or {f:Lx}{r r':List V->Hp->VK->Prop}(h:CallR X f r)(h':CallR X f r'):CallR X f (fun xs H Q=>r xs H Q\/r' xs H Q):=by
 intro pins s σ H xs us Q I rs q;rcases q with q|q
 .exact h pins s σ H xs us Q I rs q
 .exact h' pins s σ H xs us Q I rs q
theorem lY:CallR X (.type "list") (fun xs H Q=>∃ p ys,xs=[.ref p]/\(SqL X.K H p ys\/SqT X.K H p ys)/\∀ l,H l=none->Q (.ref l) (av H l (.lst ys))):=by
 intro pins s σ H xs us Q I r h;obtain⟨p,ys,rfl,hq,q⟩:=h;obtain⟨u,rfl,rx⟩:=cW r;cases rx;have fin:∀(its:List Lx),Vals ys its->ys.length<=sizeLine->∀(h':Heap)(c':Nat),(∀ b o',s.heap.get? b=some o'->h'.get? b=some o')->
  h'.get? s.heap.objs.size=some { cls:=.type "list",dict:=none,data:=.seq its.toArray c',slots:=#[] }->EP X pins σ Q (.ref s.heap.objs.size) { s with heap:=h' }:=fun its r' hz h' c' kp e=>
  ⟨.ref s.heap.objs.size,_,I.laid (t':=s.toks) kp (HB _) (show ObjOk X.prog X.w _ h' _ (.lst ys) from⟨hz,its,c',r',e⟩),rfl,q _ (I.hok.fresh (HB _))⟩
 rcases hq with hq|hq
 .obtain⟨its,r',pl,hz⟩:=I.list hq;have bg:=r'.length;obtain⟨o,ho,hc,n,hd⟩:=pl.isList;exact call_list_seq p (.inl rfl) ho hc hd (fun h' c' kp e=>fin its r' hz h' c' kp e) (by simp only[Hy]<;>omega)
 .obtain⟨its,r',pl,hz⟩:=I.tuple hq;have bg:=r'.length;obtain⟨o,ho,hc,n,hd⟩:=pl;exact call_list_seq p (.inr rfl) ho hc hd (fun h' c' kp e=>fin its r' hz h' c' kp e) (by simp only[Hy]<;>omega)
theorem j_:CallR X (.type "tuple") (fun xs H Q=>∃ p ys,xs=[.ref p]/\((SqL X.K H p ys/\∀ l,H l=none->Q (.ref l) (av H l (.tup ys)))\/(SqT X.K H p ys/\Q (.ref p) H))):=by
 intro pins s σ H xs us Q I r h;obtain⟨p,ys,rfl,h⟩:=h;obtain⟨u,rfl,rx⟩:=cW r;cases rx;rcases h with⟨hq,q⟩|⟨hq,q⟩
 .obtain⟨its,r',pl,hz⟩:=I.list hq;have bg:=r'.length;refine call_tuple_list pl.isList (fun h' kp=>?_) (by simp only[Hy]<;>omega);have I1:Inv X pins σ H { s with heap:=h' }:=I.kept (t':=s.toks) kp;have I2:Inv X pins σ (av H h'.objs.size (.tup ys)) { s with heap:=h'.push { cls:=.type "tuple",data:=.seq its.toArray } }:=I1.laid (t':=s.toks) (fun b o e=>Hu _ e) (HB _) (show ObjOk X.prog X.w _ _ _ (.tup ys) from⟨hz,its,r',IsTup.new _ _⟩);exact⟨.ref h'.objs.size,_,I2,rfl,q _ (I1.hok.fresh (HB _))⟩
 .obtain⟨its,r',pl,hz⟩:=I.tuple hq;exact call_tuple_same pl ⟨.ref p,H,I,rfl,q⟩
def Gn (K:Lu)(T:String)(x:V)(H:Hp):Prop:=match x with
 | .str _=>T="str"
 | .int _=>T="int"
 | .ref p=>(T="list"/\∃ xs,SqL K H p xs)\/(T="tuple"/\∃ o,K.lookup p=some o/\o.cls=.type "tuple"/\o.dict=none)\/
  (T="dict"/\((∃ kvs,H p=some (.dK kvs))\/∃ kvs,H p=some (.dT kvs)))\/(T="set"/\∃ S n,H p=some (.set S n))
 |_=>False
theorem Bz {pins:List (Addr×Obj)}{σ:St}{H:Hp}{s:Ls}{T:String}{x:V}{v:Lx}(I:Inv X pins σ H s)(r:RelV x v)(ty:Gn X.K T x H) :
 s.TypeIs v T/\∀ a,v=.ref a->∃ ob,s.heap.get? a=some ob/\ob.dict=none:=by
 cases x with
 |str z=>obtain⟨t,rfl⟩:=r;cases (show T="str" from ty);exact⟨typeIs_str s z t,fun _ e=>nomatch e⟩
 |int i=>obtain⟨t,rfl⟩:=r;cases (show T="int" from ty);exact⟨typeIs_int s i t,fun _ e=>nomatch e⟩
 |ref p=>
  cases r;rcases ty with⟨rfl,xs,hq⟩|⟨rfl,o,hk,hc,hd⟩|⟨rfl,hk⟩|⟨rfl,S,n,hk⟩
  .obtain⟨its,_,pl,_⟩:=I.list hq;refine⟨pl.isList.typeIs,fun a e=>?_⟩;cases e;obtain⟨o,n,e,c,hd,_⟩:=pl;exact⟨o,e,hd⟩
  .refine⟨⟨o,I.kIn p o hk,hc⟩,fun a e=>?_⟩;cases e;exact⟨o,I.kIn _ o hk,hd⟩
  .have z:∃ o,s.heap.get? p=some o/\o.ExactDict:=by
    rcases hk with⟨kvs,hk⟩|⟨kvs,hk⟩
    .obtain⟨_,_,_,_,o,_,_,e,ex,_⟩:=I.hok p _ hk;exact⟨o,e,ex⟩
    .obtain⟨_,_,_,_,o,_,_,e,ex,_⟩:=I.hok p _ hk;exact⟨o,e,ex⟩
   obtain⟨o,e,ex⟩:=z;refine⟨⟨o,e,ex.1⟩,fun a e2=>?_⟩;cases e2;exact⟨o,e,ex.2.1⟩
  .obtain⟨o,_,_,_,e,ex,_⟩:=I.hok p _ hk;refine⟨⟨o,e,ex.1⟩,fun a e2=>?_⟩;cases e2;exact⟨o,e,ex.2.1⟩
 |_=>exact False.elim ty
noncomputable def Gq (K:Lu)(T:String)(r:V->List V->Hp->VK->Prop)(to:TE)(t:TA):TE:=fun σ H Q=>to σ H fun x H1=>Gn K T x H1/\t σ H1 fun xs H2=>r x xs H2 Q
variable {o e:Expr}{es:List Expr}{to:TE}{t:TA}{name:Str}{apos cpos:Pos}{T id:String}{r:V->List V->Hp->VK->Prop}
theorem qK (pa:PlainAttrs T) (slot:Slot T name id) (hty:typeOf (.builtin id)=pure (.type "method_descriptor")) (hm:Gk X id r) (ho:PE X o to) (ha:PA X (e::es) t)
 (hbase:autoParam (attributeBase o name X.env (eval o X.env)=eval o X.env) LF._auto_1)
 (hfew:autoParam (((backTo cpos (starEach (e::es) X.env)).all (fun x=>!x.1)&&(backToKw cpos (keywordEach [] X.env)).all (fun x=>x.1.isSome)
   && decide ((e::es).length+([]:List Keyword).length+(if ([]:List Keyword).isEmpty then 0 else 1)<30))=true) LF._auto_1)
 (hline:autoParam ((apos.endLine==cpos.line)=true) LF._auto_1) (hs:autoParam (starEach (e::es) X.env=(false,eval e X.env)::starEach es X.env) LF._auto_1) (hplain:autoParam ((backTo cpos (starEach es X.env)).any (·.1)=false) LF._auto_1) :
 PE X (.Call (.Attribute o name apos) (e::es) [] cpos) (Gq X.K T r to t):=by
 intro pins s σ H Q I h;refine wpAny_Call_method_late hbase hfew hline rfl (bn (ho pins s σ H _ I h) fun v s1 ⟨x,H1,I1,r1,ty,q1⟩=>?_);obtain⟨h1,h2⟩:=Bz I1 r1 ty;refine⟨T,id,pa,slot,hty,h1,h2,?_⟩;have hA:=ha cpos pins s1 σ H1 _ I1 q1;rw[hs]at hA ⊢;refine Calls.callWith_builtin (by show(false || (backTo cpos (starEach es X.env)).any (·.1))=false;rw[hplain]<;>rfl) (Calls.evalArgs_plain ?_);exact bn hA fun us s2 ⟨vs,H2,I2,r2,q2⟩=>hm pins s2 σ H2 x vs v us Q I2 r1 r2 q2
end
def He (X:Cx)(id:String)(r:V->List V->Hp->VK->Prop):Prop:=
 ∀(pins:List (Addr×Obj))(s:Ls)(σ:St)(H:Hp)(x:V)(xs:List V)(v:Lx)(us:List Lx)(Q:VK),Inv X pins σ H s->RelV x v->Vals xs us->r x xs H Q->
  wpAny (model X.prog X.w) X.A (call (.builtin id) (v::us)) (EP X pins σ Q) X.xe s
theorem Vals.one:∀{x:V}{us:List Lx},Vals [x] us->∃ u,us=[u]/\RelV x u
 |_,_,.cons r .nil=>⟨_,rfl,r⟩
theorem Vals.rep {xs:List V}{us:List Lx}(h:Vals xs us):∀ k:Nat,Vals (List.replicate k xs).flatten (List.replicate k us).flatten
 |0=>.nil
 |k+1=>by rw[List.replicate_succ,List.replicate_succ,List.flatten_cons,List.flatten_cons];exact Vals.append h (Vals.rep h k)
section
variable {X:Cx}{pins:List (Addr×Obj)}{σ:St}{H:Hp}{s:Ls}{l b:Addr}{xs ys zs:List V}
theorem Inv.lset {its its':List Lx}{n:Nat}{f:Array Lx->Array Lx}{t':Nat}(I:Inv X pins σ H s)(hH:H l=some (.lst xs))
 (e:s.heap.get? l=some { cls:=.type "list",data:=.seq its.toArray n }) (hf:f its.toArray=its'.toArray) (hv:Vals ys its') (hz:ys.length<=sizeLine) :
 Inv X pins σ (av H l (.lst ys)) { s with heap:=s.heap.update l (Obj.mapSeq f),toks:=t' }:=by
 have q:=PySem.IsL.update e f;rw[hf]at q;refine I.write (x:=l) (e:=l) (by rw[hH];exact trivial) (.inl rfl) (fun b' u hb hu=>(IZ s.heap (Obj.mapSeq f) (Jb hb)).trans hu) ⟨_,q⟩ ?_;exact⟨hz,its',_,hv,q⟩
theorem Inv.lnew {its:List Lx}{t':Nat}(I:Inv X pins σ H s)(hv:Vals ys its)(hz:ys.length<=sizeLine) :
 Inv X pins σ (av H s.heap.objs.size (.lst ys)) { s with heap:=s.heap.push { cls:=.type "list",data:=.seq its.toArray },toks:=t' }:=
 I.laid (fun _ _ q=>Hu _ q) (HB _) ⟨hz,its,0,hv,HQ _ rfl⟩
theorem Inv.fresh (I:Inv X pins σ H s):H s.heap.objs.size=none:=I.hok.fresh (HB _)
theorem Inv.lstM (I:Inv X pins σ H s) (hH:H l=some (.lst xs)):xs.length<=sizeLine/\∃(its:List Lx)(n:Nat),Vals xs its/\xs.length=its.length/\s.heap.get? l=some { cls:=.type "list",data:=.seq its.toArray n }:=by obtain⟨z,its,n,r,e⟩:=I.hok l _ hH;exact⟨z,its,n,r,r.length,e⟩
end
section
variable {X:Cx}
def qL:V->List V->Hp->VK->Prop:=fun x vs H Q=>∃ l xs y,x=.ref l/\vs=[y]/\H l=some (.lst xs)/\xs.length<sizeLine/\Q .non (av H l (.lst (xs++[y])))
theorem eV:He X "list.append" qL:=by intro pins s σ H x vs v us Q I rx rv h;obtain⟨l,xs,y,rfl,rfl,hH,hz,q⟩:=h;cases rx;obtain⟨u,rfl,ru⟩:=rv.one;obtain⟨z,its,n,r,hl,e⟩:=I.lstM hH;refine call_meets F.slot_list_append ⟨_,e,rfl⟩ F.entry_list_append (F.args_list_append_2 _ _) (PySem.list_append l its.toArray n u (by rw[Hy];omega)) ⟨e,?_⟩;refine⟨.non,_,I.lset (its':=its++[u]) hH e (by simp) (r.append (.cons ru .nil)) ?_,rfl,q⟩;rw[Ig,Kb];omega
end
section
variable {prog:Lw}{w:World}{A:Ly}{E:Lx->Ls->Prop}{s:Ls}
end
section
variable {X:Cx}
end
section
variable {κ:Type}[DecidableEq κ]
noncomputable def cV (kvs:List (κ×V))(k:κ):Option V:=(kvs.find? fun kv=>decide (kv.1=k)).map (·.2)
noncomputable def bz (kvs:List (κ×V))(k:κ)(v:V):List (κ×V):=if (kvs.any fun kv=>decide (kv.1=k))=true then kvs.map (fun kv=>if kv.1=k then (kv.1,v) else kv) else kvs++[(k,v)]
noncomputable def Ay (kvs:List (κ×V))(k:κ):List (κ×V):=kvs.filter fun kv=>decide (kv.1≠k)
theorem di {p:κ×V}{r:List (κ×V)}{k:κ}(e:p.1=k):cV (p::r) k=some p.2:=by simp[cV,Kc,e]
theorem dj {p:κ×V}{r:List (κ×V)}{k:κ}(e:¬ p.1=k):cV (p::r) k=cV r k:=by simp[cV,Kc,e]
theorem nv (k:κ):∀ kvs:List (κ×V),(kvs.any fun kv=>decide (kv.1=k))=(cV kvs k).isSome
 | []=>rfl
 |p::r=>by
  rw[Jm];by_cases e:p.1=k
  .simp only[di e,HG e,Bool.true_or,Option.isSome_some]
  .rw[dj e,HF e,Bool.false_or];exact nv k r
theorem cX (kvs:List (κ×V))(k:κ)(v:V):(bz kvs k v).length<=kvs.length+1:=by
 unfold bz;split
 .rw[HA];omega
 .rw[Ig,IE,JI];omega
theorem RelO.isSome_eq {o:Option V}{u:Option Lx}(r:RelO o u):o.isSome=u.isSome:=by
 cases o with
 |none=>cases u with
  |none=>rfl
  |some _=>exact(show False from r).elim
 |some _=>cases u with
  |none=>exact(show False from r).elim
  |some _=>rfl
theorem RelO.getD {o:Option V}{u:Option Lx}{d:V}{d':Lx}(r:RelO o u)(rd:RelV d d'):RelV (o.getD d) (u.getD d'):=by
 cases o with
 |none=>cases u with
  |none=>exact rd
  |some _=>exact(show False from r).elim
 |some _=>cases u with
  |none=>exact(show False from r).elim
  |some _=>exact r
theorem KV.val {kvs:List (κ×V)}{vs:List (κ×Lx)}(r:KV kvs vs)(k:κ):RelO (cV kvs k) (valueAt vs k):=by
 unfold KV at r;induction r with
 |nil=>exact True.intro
 | @cons p q ps qs h t ih=>
  obtain⟨h1,h2⟩:=h;by_cases e:p.1=k
  .have e':q.1=k:=h1.symm.trans e;have b:valueAt (q::qs) k=some q.2:=by simp[valueAt,Kc,e']
   rw[di e,b];exact h2
  .have e':¬ q.1=k:=fun z=>e (h1.trans z);have b:valueAt (q::qs) k=valueAt qs k:=by simp[valueAt,Kc,e']
   rw[dj e,b];exact ih
theorem KV.any {kvs:List (κ×V)}{vs:List (κ×Lx)}(r:KV kvs vs)(k:κ):(kvs.any fun kv=>decide (kv.1=k))=vs.any fun kv=>decide (kv.1=k):=by
 unfold KV at r;induction r with
 |nil=>rfl
 |cons h t ih=>rw[Jm,Jm,ih,h.1]
theorem KV.repl {kvs:List (κ×V)}{vs:List (κ×Lx)}(r:KV kvs vs)(k:κ){y:V}{u:Lx}(ry:RelV y u) :
 KV (kvs.map fun kv=>if kv.1=k then (kv.1,y) else kv) (vs.map fun kv=>if kv.1=k then (kv.1,u) else kv):=by
 unfold KV at r ⊢;induction r with
 |nil=>exact .nil
 | @cons p q ps qs h t ih=>
  rw[HL,HL];refine .cons ?_ ih;obtain⟨h1,h2⟩:=h;by_cases e:p.1=k
  .rw[Hx e,Hx (h1.symm.trans e)];exact⟨h1,ry⟩
  .rw[Hz e,Hz (fun z=>e (h1.trans z))];exact⟨h1,h2⟩
theorem KV.put {kvs:List (κ×V)}{vs:List (κ×Lx)}(r:KV kvs vs)(k:κ){y:V}{u:Lx}(ry:RelV y u):KV (bz kvs k y) (stored vs k u):=by
 unfold bz stored;rw[r.any k];by_cases e:(vs.any fun kv=>decide (kv.1=k))=true
 .rw[Hx e,Hx e];exact r.repl k ry
 .rw[Hz e,Hz e];exact Paired.snoc r ⟨rfl,ry⟩
theorem KV.drop {kvs:List (κ×V)}{vs:List (κ×Lx)}(r:KV kvs vs)(k:κ):KV (Ay kvs k) (without vs k):=by
 unfold KV at r ⊢;unfold Ay without;induction r with
 |nil=>exact .nil
 | @cons p q ps qs h t ih=>
  obtain⟨h1,h2⟩:=h;rw[IT,IT];by_cases e:p.1=k
  .have a:¬ decide (p.1≠k)=true:=by simp[e]
   have b:¬ decide (q.1≠k)=true:=by simp[h1.symm.trans e]
   rw[Hz a,Hz b];exact ih
  .have e':¬ q.1=k:=fun z=>e (h1.trans z);have a:decide (p.1≠k)=true:=by simp[e]
   have b:decide (q.1≠k)=true:=by simp[e']
   rw[Hx a,Hx b];exact .cons ⟨h1,h2⟩ ih
theorem KV.keys {kvs:List (κ×V)}{vs:List (κ×Lx)}(r:KV kvs vs):kvs.map (·.1)=vs.map (·.1):=by
 unfold KV at r;induction r with
 |nil=>rfl
 |cons h t ih=>rw[HL,HL,ih,h.1]
theorem KV.length {kvs:List (κ×V)}{vs:List (κ×Lx)}(r:KV kvs vs):kvs.length=vs.length:=Ke r
end
theorem gb {P:Lw}{w:World}{k:Key}{u:Lx}(r:RelV (kV k) u):(ao P w).is k u=true:=by
 cases k with
 |inl i=>obtain⟨t,e⟩:=(show ∃ t,u=Value.int i t from r);subst e;exact nc P w i t
 |inr x=>obtain⟨t,e⟩:=(show ∃ t,u=Value.str x t from r);subst e;exact ng P w x t
theorem kP {P:Lw}{w:World}:∀{ks:List Key}{us:List Lx},Vals (ks.map kV) us->ItemsAre (ao P w) ks us
 | [],_,r=>by rw[Lo]at r;cases r;exact .nil
 |k::ks,_,r=>by
  rw[HL]at r;cases r with
  |cons h t=>exact .cons (gb h) (kP t)
abbrev KT (H:Hp):List (List Key×V)->List (List Key×Addr×Lx)->Prop:=Paired fun p q=>p.1=q.1/\H q.2.1=some (.tup (p.1.map kV))/\RelV p.2 q.2.2
theorem KT.val {H:Hp}{kvs:List (List Key×V)}{xs:List (List Key×Addr×Lx)}(r:KT H kvs xs)(k:List Key):RelO (cV kvs k) ((atKey xs k).map (·.2)):=by
 induction r with
 |nil=>exact True.intro
 | @cons p q ps qs h t ih=>
  obtain⟨h1,_,h2⟩:=h;by_cases e:p.1=k
  .have e':q.1=k:=h1.symm.trans e;have b:atKey (q::qs) k=some q.2:=by simp[atKey,Kc,e']
   rw[di e,b];exact h2
  .have e':¬ q.1=k:=fun z=>e (h1.trans z);have b:atKey (q::qs) k=atKey qs k:=by simp[atKey,Kc,e']
   rw[dj e,b];exact ih
theorem KT.repl {H:Hp}{kvs:List (List Key×V)}{xs:List (List Key×Addr×Lx)}(r:KT H kvs xs)(k:List Key){y:V}{u:Lx}(ry:RelV y u) :
 KT H (kvs.map fun kv=>if kv.1=k then (kv.1,y) else kv) (xs.map (putAt k u)):=by
 induction r with
 |nil=>exact .nil
 | @cons p q ps qs h t ih=>
  rw[HL,HL];refine .cons ?_ ih;obtain⟨h1,h2,h3⟩:=h;unfold putAt;by_cases e:p.1=k
  .rw[Hx e,Hx (h1.symm.trans e)];exact⟨h1,h2,ry⟩
  .rw[Hz e,Hz (fun z=>e (h1.trans z))];exact⟨h1,h2,h3⟩
theorem KT.put {H:Hp}{kvs:List (List Key×V)}{xs:List (List Key×Addr×Lx)}(r:KT H kvs xs)(k:List Key){b:Addr}{y:V}{u:Lx}(hb:H b=some (.tup (k.map kV)))(ry:RelV y u) :
 KT H (bz kvs k y) (storedH xs k b u):=by
 have e:(kvs.any fun kv=>decide (kv.1=k))=(atKey xs k).isSome:=by rw[nv,(r.val k).isSome_eq,Lc]
 unfold bz storedH;rw[e];by_cases q:(atKey xs k).isSome=true
 .rw[Hx q,Hx q];exact r.repl k ry
 .rw[Hz q,Hz q];exact Paired.snoc r ⟨rfl,hb,ry⟩
theorem KT.keeps {H H':Hp}{kvs:List (List Key×V)}{xs:List (List Key×Addr×Lx)}(r:KT H kvs xs)(ht:∀ b ys,H b=some (.tup ys)->H' b=some (.tup ys)):KT H' kvs xs:=Paired.mapP r fun _ _ z=>⟨z.1,ht _ _ z.2.1,z.2.2⟩
section
variable {P:Lw}{w:World}{H:Hp}{h:Heap}{a:Addr}
theorem Az {u:HO}(ok:HOk P w H h)(e:Rd H a u):ObjOk P w H h a u:=e.ok ok
theorem jd {kvs:List (Key×V)}(ok:HOk P w H h)(e:Rd H a (.dK kvs)):kvs.length<=sizeLine/\(a==sysModules)=false/\∃ vs,KV kvs vs/\h.DictOf (ao P w) a vs:=show ObjOk P w H h a (.dK kvs) from Az ok e
theorem Ee {kvs:List (Key×V)}(ok:HOk P w H h)(e:H a=some (.dK kvs)):kvs.length<=sizeLine/\(a==sysModules)=false/\∃ vs,KV kvs vs/\h.DictOf (ao P w) a vs:=jd ok (.inl e)
theorem bV {ks:List Key}(ok:HOk P w H h)(e:H a=some (.tup (ks.map kV))):(tupleKind (ao P w)).is h ks a:=by obtain⟨_,its,r,o,h1,h2,n,h3⟩:=(show ObjOk P w H h a (.tup (ks.map kV)) from ok a _ e);exact⟨o,its.toArray,n,h1,h2,h3,by simpa using kP r⟩
theorem je {kvs:List (List Key×V)}(ok:HOk P w H h)(e:Rd H a (.dT kvs)):kvs.length<=sizeLine/\(a==sysModules)=false/\
 ∃ xs,KT H kvs xs/\h.DictOfH (tupleKind (ao P w)) a xs:=by
 obtain⟨z,y,xs,r,o,es,ep,h1,h2,h3,h4,h5⟩:=(show ObjOk P w H h a (.dT kvs) from Az ok e);refine⟨z,y,xs,r,o,es,ep,h1,h2,h3,h4,fun x hx=>?_,h5⟩;have all:∀{l:List (List Key×V)}{m:List (List Key×Addr×Lx)},KT H l m->∀ x∈m,(tupleKind (ao P w)).is h x.1 x.2.1:=by
  intro l m q;induction q with
  |nil=>intro x hx;exact nomatch hx
  | @cons p q ps qs hq t ih=>
   intro x hx;rcases HE.mp hx with e|hx
   .subst e;exact bV ok (by rw[<- hq.1];exact hq.2.1)
   .exact ih x hx
 exact all r x hx
theorem u3 {kvs:List (List Key×V)}(ok:HOk P w H h)(e:H a=some (.dT kvs)):kvs.length<=sizeLine/\(a==sysModules)=false/\
 ∃ xs,KT H kvs xs/\h.DictOfH (tupleKind (ao P w)) a xs:=je ok (.inl e)
end
def DGet (H:Hp)(a:Addr)(y:V)(r:Option V):Prop:=(∃ kvs k,Rd H a (.dK kvs)/\y=kV k/\r=cV kvs k)\/∃ kvs k b,Rd H a (.dT kvs)/\y=.ref b/\H b=some (.tup (k.map kV))/\r=cV kvs k
def DPut (H:Hp)(a:Addr)(y v:V)(H':Hp):Prop:=
 (∃ kvs k,H a=some (.dK kvs)/\y=kV k/\kvs.length<sizeLine/\H'=av H a (.dK (bz kvs k v)))\/
 ∃ kvs k b,H a=some (.dT kvs)/\y=.ref b/\H b=some (.tup (k.map kV))/\kvs.length<sizeLine/\H'=av H a (.dT (bz kvs k v))
theorem DGet.k {H:Hp}{a:Addr}{kvs:List (Key×V)}{k:Key}(e:H a=some (.dK kvs)):DGet H a (kV k) (cV kvs k):=.inl ⟨kvs,k,.inl e,rfl,rfl⟩
theorem DGet.t {H:Hp}{a b:Addr}{kvs:List (List Key×V)}{k:List Key}(e:H a=some (.dT kvs))(eb:H b=some (.tup (k.map kV))):DGet H a (.ref b) (cV kvs k):=.inr ⟨kvs,k,b,.inl e,rfl,eb,rfl⟩
theorem DPut.k {H:Hp}{a:Addr}{kvs:List (Key×V)}{k:Key}{v:V}(e:H a=some (.dK kvs))(hl:kvs.length<sizeLine):DPut H a (kV k) v (av H a (.dK (bz kvs k v))):=.inl ⟨kvs,k,e,rfl,hl,rfl⟩
theorem DPut.t {H:Hp}{a b:Addr}{kvs:List (List Key×V)}{k:List Key}{v:V}(e:H a=some (.dT kvs))(eb:H b=some (.tup (k.map kV)))(hl:kvs.length<sizeLine) :
 DPut H a (.ref b) v (av H a (.dT (bz kvs k v))):=.inr ⟨kvs,k,b,e,rfl,eb,hl,rfl⟩
section
variable {X:Cx}{pins:List (Addr×Obj)}{σ:St}{H:Hp}{s:Ls}{a:Addr}{y v:V}{u r:Lx}{o:Option V}{A:Ly}{E:Lx->Ls->Prop}
theorem Inv.big (I:Inv X pins σ H s):sysModules<s.heap.objs.size:=by have h:mainGlobals<s.heap.objs.size:=(I.mod.glob.keeps I.bk).lt;exact Nat.lt_trans (by decide) h
theorem sT {Q:Lx->Ls->Prop}(hu:A.units+1<cLine)(I:Inv X pins σ H s)(g:DGet H a y (some v))(ry:RelV y u)(h:∀ w' s',Inv X pins σ H s'->RelV v w'->Q w' s') :
 wpAny (model X.prog X.w) A (getItem (.ref a) u) Q E s:=by
 rcases g with⟨kvs,k,e,ey,l⟩|⟨kvs,k,b,e,ey,eb,l⟩
 .subst ey;obtain⟨z,hd,vs,rel,dd⟩:=jd I.hok e;obtain⟨w',hw,rw'⟩:=RelO.some_of (v:=v) (o:=valueAt vs k) (by rw[l];exact rel.val k);exact wpAny_getItem_of (gb ry) dd.mapOf hw (h w' _ (I.tok _) rw')
 .subst ey;cases (show u=Value.ref b from ry);obtain⟨z,hd,xs,rel,dd⟩:=je I.hok e;obtain⟨w',hw,rw'⟩:=RelO.some_of (v:=v) (o:=(atKey xs k).map (·.2)) (by rw[l];exact rel.val k);obtain⟨p,hp,hp2⟩:=I0.mp hw;refine wpAny_getItem_heap (Js hu) (bV I.hok eb) dd hp ?_;rw[hp2];exact h w' _ (I.tok _) rw'
theorem Gr {Q:Lx->Ls->Prop}(hu:A.units+1<cLine)(I:Inv X pins σ H s)(g:DGet H a y o)(ry:RelV y u)(h:∀ s',Inv X pins σ H s'->Q (.bool o.isSome) s') :
 wpAny (model X.prog X.w) A (compareOp .In u (.ref a)) Q E s:=by
 rcases g with⟨kvs,k,e,ey,l⟩|⟨kvs,k,b,e,ey,eb,l⟩
 .subst ey;obtain⟨z,hd,vs,rel,dd⟩:=jd I.hok e;refine wpAny_in_of (gb ry) hd dd.mapOf ?_;rw[<- (rel.val k).isSome_eq,<- l];exact h _ (I.tok _)
 .subst ey;cases (show u=Value.ref b from ry);obtain⟨z,hd,xs,rel,dd⟩:=je I.hok e;refine wpAny_in_heap (Js hu) (bV I.hok eb) hd dd ?_;have q:=(rel.val k).isSome_eq;rw[Lc]at q;rw[<- q,<- l];exact h _ (I.tok _)
theorem yg {Q:Lx->Ls->Prop}(hu:A.units+1<cLine)(I:Inv X pins σ H s)(g:DGet H a y o)(ry:RelV y u)(h:∀ s',Inv X pins σ H s'->Q (.bool (!o.isSome)) s') :
 wpAny (model X.prog X.w) A (compareOp .NotIn u (.ref a)) Q E s:=by
 rcases g with⟨kvs,k,e,ey,l⟩|⟨kvs,k,b,e,ey,eb,l⟩
 .subst ey;obtain⟨z,hd,vs,rel,dd⟩:=jd I.hok e;refine wpAny_notIn_of (gb ry) hd dd.mapOf ?_;rw[<- (rel.val k).isSome_eq,<- l];exact h _ (I.tok _)
 .subst ey;cases (show u=Value.ref b from ry);obtain⟨z,hd,xs,rel,dd⟩:=je I.hok e;refine wpAny_notIn_heap (Js hu) (bV I.hok eb) hd dd ?_;have q:=(rel.val k).isSome_eq;rw[Lc]at q;rw[<- q,<- l];exact h _ (I.tok _)
theorem iR {h':Heap}{t':Nat}{ob:HO}(I:Inv X pins σ H s)(mu:DN (H a))(hs:Heap.SameBut a s.heap h')(he:∃ q,h'.get? a=some q)(new:ObjOk X.prog X.w (av H a ob) h' a ob) :
 Inv X pins σ (av H a ob) { s with heap:=h',toks:=t' }:=
 I.write (x:=a) (e:=a) mu (.inl rfl) (fun b q hb z=>(hs.2 b hb).trans z) he new
theorem BA {P:Lw}{w:World}{H':Hp}{h':Heap}{kvs:List (Key×V)}{vs:List (Key×Lx)}(z:kvs.length<=sizeLine)(hd:(a==sysModules)=false)(rel:KV kvs vs)(dd:h'.DictOf (ao P w) a vs) :
 ObjOk P w H' h' a (.dK kvs):=⟨z,hd,vs,rel,dd⟩
theorem g7 {H':Hp}{Q:Unit->Ls->Prop}(hu:A.units+1<cLine)(I:Inv X pins σ H s)(g:DPut H a y v H')(ry:RelV y u)(rv:RelV v r)(h:∀ s',Inv X pins σ H' s'->Q () s') :
 wpAny (model X.prog X.w) A (setItem (.ref a) u r) Q E s:=by
 rcases g with⟨kvs,k,e,ey,l,eH⟩|⟨kvs,k,b,e,ey,eb,l,eH⟩
 .subst ey eH;obtain⟨z,hd,vs,rel,dd⟩:=Ee I.hok e;have hz:vs.length<=sizeLine:=by rw[<- rel.length];exact z
  have hl:(bz kvs k v).length<=sizeLine:=by have:=cX kvs k v;omega
  refine wpAny_setItem_pairs (hsz:=hz) (gb ry) dd fun h' dd' hs=>h _ ?_;have he:∃ q,h'.get? a=some q:=let ⟨q,_,_,hq,_⟩:=dd';⟨q,hq⟩;exact iR I (by rw[e];exact True.intro) hs he (BA hl hd (rel.put k rv) dd')
 .subst ey eH;cases (show u=Value.ref b from ry);obtain⟨z,hd,xs,rel,dd⟩:=u3 I.hok e;have hz:xs.length<=sizeLine:=by rw[<- Ke rel];exact z
  have hl:(bz kvs k v).length<=sizeLine:=by have:=cX kvs k v;omega
  refine wpAny_setItem_heap (hsz:=hz) (Js hu) (bV I.hok eb) dd fun h' dd' hs=>h _ ?_;obtain⟨q,es,ep,hq,h2,h3,h4,_,h5⟩:=dd';refine iR I (by rw[e];exact True.intro) hs ⟨q,hq⟩ ⟨hl,hd,_,(rel.put k eb rv).keeps fun c ys ec=>?_,q,es,ep,hq,h2,h3,h4,h5⟩;rw[ac (kF ec e (fun z=>nomatch z))];exact ec
end
section
variable {X:Cx}{pins:List (Addr×Obj)}{σ:St}{H:Hp}{s:Ls}{a:Addr}{kvs:List (Key×V)}{k:Key}{u:Lx}{A:Ly}{E:Lx->Ls->Prop}
end
def BB (i:Expr):Prop:=∀ ov iv,subscripted i false ov iv=operate [ov,iv] (getItem ov iv)
theorem yh {prog:Lw}{w:World}{A:Ly}{E:Lx->Ls->Prop}{s:Ls}{env:Env}{value slice:Expr}{pos:Pos}{T id:String}{Q:Lx->Ls->Prop}
 (hl:typeLookup (.type T) "__getitem__"=pure (some (.builtin id))) (hs:BB slice)
 (h:wpAny (model prog w) A (eval value env) (fun o s₁=>wpAny (model prog w) A (eval slice env) (fun i s₂=>s₂.TypeIs o T/\wpAny (model prog w) A (getItem o i) Q E s₂) E s₁) E s) :
 wpAny (model prog w) A (eval (.Subscript value slice pos) env) Q E s:=by
 refine Subscript_ (Jo h (fun o s₁ h₁=>Jo h₁ (fun i s₂ h₂=>?_) fun _ _ x=>x) fun _ _ x=>x);obtain⟨hT,h₂⟩:=h₂;unfold subscriptTail;refine Hs ?_;rw[getitemInPython_of_ne hT.not_modules];refine Hs (wpAny_specialOf hT hl ?_);have fin:wpAny (model prog w) A (subscripted slice false o i) (fun r s₃=>wpAny (model prog w) A (letTemporaryGo value o r >>= fun _=>pure r) Q E s₃) E s₂:=by rw[hs o i];exact wpAny_operating (Jo h₂ (fun r s₃ h₃=>Hs (wpAny_letTemporaryGo (Hw h₃))) fun _ _ x=>x)
 first
  |exact Hw (Hs fin)
  |exact Hs (Hw (Hs fin))
  |exact Hs fin
theorem nw {X:Cx} {pins:List (Addr×Obj)} {σ:St} {H:Hp} {s:Ls} {a:Addr} {y:V} {o:Option V} (I:Inv X pins σ H s) (g:DGet H a y o):s.TypeIs (.ref a) "dict":=by
 rcases g with⟨kvs,k,e,_,_⟩|⟨kvs,k,b,e,_,_,_⟩
 .obtain⟨_,_,vs,_,dd⟩:=jd I.hok e;exact dd.typeIs
 .obtain⟨_,_,xs,_,dd⟩:=je I.hok e;exact dd.typeIs
noncomputable def Ef (td ty:TE):TE:=fun σ H Q=>td σ H fun x H1=>ty σ H1 fun y H2=>∃ a v,x=.ref a/\DGet H2 a y (some v)/\Q v H2
section
variable {X:Cx}{o i e value:Expr}{pos pos' ie:Pos}{td ty tv:TE}
theorem yi (hu:X.A.units+1<cLine)(ho:PE X o td)(hi:PE X i ty)(hs:BB i):PE X (.Subscript o i pos) (Ef td ty):=by intro pins s σ H Q I h;refine yh PySem.F.slot_dict_getitem.lookup hs (bn (ho pins s σ H _ I h) fun u s1 ⟨x,H1,I1,rx,q1⟩=>bn (hi pins s1 σ H1 _ I1 q1) fun iv s2 ⟨y,H2,I2,ry,a,v,ex,g,q2⟩=>?_);subst ex;obtain rfl:u=Value.ref a:=rx;exact⟨nw I2 g,sT hu I2 g ry fun w' s3 I3 rw'=>⟨v,H2,I3,rw',q2⟩⟩
end
theorem nz {P:Lw} {w:World} {H:Hp} (h:Heap) (hb:sysModules<h.objs.size):ObjOk P w H (h.push { cls:=.type "dict",data:=.dict #[] }) h.objs.size (.dK []):=⟨Ij _,beq_eq_false_iff_ne.mpr (Jb (Ic hb)),[],.nil,Heap.DictOf.new h⟩
def BC:TE:=fun _ H Q=>∀ p,H p=none->Q (.ref p) (av H p (.dK []))
section
variable {X:Cx}{pos:Pos}
theorem u4:PE X (.Dict [] [] pos) BC:=fun pins s σ H Q I h=>wpAny_Dict_empty ⟨.ref s.heap.objs.size,_,I.laid (a:=s.heap.objs.size) (o:=.dK []) (t':=s.toks) (fun _ _ q=>Hu _ q) (HB _) (nz s.heap I.big),rfl,h _ (I.hok.fresh (HB _))⟩
end
structure M1 (X:Cx) (o:Expr) (m:Str) (apos:Pos) (e:Expr) (cpos:Pos):Prop where
 base:attributeBase o m X.env (eval o X.env)=eval o X.env
 few:((backTo cpos (starEach [e] X.env)).all (fun x=>!x.1)&&(backToKw cpos (keywordEach [] X.env)).all (fun x=>x.1.isSome)
  && decide (([e]:List Expr).length+([]:List Keyword).length+(if ([]:List Keyword).isEmpty then 0 else 1)<30))=true
 line:(apos.endLine==cpos.line)=true
 trees:backTo cpos (starEach [e] X.env)=[(false,eval e X.env)]
structure M2 (X:Cx) (o:Expr) (m:Str) (apos:Pos) (e f:Expr) (cpos:Pos):Prop where
 base:attributeBase o m X.env (eval o X.env)=eval o X.env
 few:((backTo cpos (starEach [e,f] X.env)).all (fun x=>!x.1)&&(backToKw cpos (keywordEach [] X.env)).all (fun x=>x.1.isSome)
  && decide (([e,f]:List Expr).length+([]:List Keyword).length+(if ([]:List Keyword).isEmpty then 0 else 1)<30))=true
 line:(apos.endLine==cpos.line)=true
 trees:backTo cpos (starEach [e,f] X.env)=[(false,eval e X.env),(false,eval f X.env)]
def FN (H:Hp)(a:Addr):Prop:=(∃ kvs,Rd H a (.dK kvs))\/∃ kvs,Rd H a (.dT kvs)
theorem u5 {X:Cx}{pins:List (Addr×Obj)}{σ:St}{H:Hp}{s:Ls}{a:Addr}(I:Inv X pins σ H s)(d:FN H a) :
 s.TypeIs (.ref a) "dict"/\(∀ b,Value.ref a=.ref b->∃ ob,s.heap.get? b=some ob/\ob.dict=none)/\(a==sysModules)=false:=by
 rcases d with⟨kvs,e⟩|⟨kvs,e⟩
 .obtain⟨_,hd,vs,_,dd⟩:=jd I.hok e;refine⟨dd.typeIs,fun b q=>?_,hd⟩;cases q;obtain⟨ob,_,_,h1,h2,_⟩:=dd;exact⟨ob,h1,h2.2.1⟩
 .obtain⟨_,hd,xs,_,dd⟩:=je I.hok e;refine⟨dd.typeIs,fun b q=>?_,hd⟩;cases q;obtain⟨ob,_,_,h1,h2,_⟩:=dd;exact⟨ob,h1,h2.2.1⟩
section
variable {X:Cx}{pins:List (Addr×Obj)}{σ:St}{H:Hp}{s:Ls}{a:Addr}{y d:V}{u r:Lx}{o:Option V}{A:Ly}{E:Lx->Ls->Prop}
theorem BD {Q:Lx->Ls->Prop}(hu:A.units+1<cLine)(I:Inv X pins σ H s)(g:DGet H a y o)(ry:RelV y u)(rd:RelV d r)(h:∀ w' s',Inv X pins σ H s'->RelV (o.getD d) w'->Q w' s') :
 wpAny (model X.prog X.w) A (call (.builtin "dict.get") [.ref a,u,r]) Q E s:=by
 rcases g with⟨kvs,k,e,ey,l⟩|⟨kvs,k,b,e,ey,eb,l⟩
 .subst ey;obtain⟨z,hd,vs,rel,dd⟩:=jd I.hok e;refine call_meetsIn JL dd.typeIs J7 (J3 _ _ _) (meets_dict_get_default (ao X.prog X.w) a (gb ry) hd r) ⟨_,dd.mapOf,h _ _ (I.tok _) ?_⟩;rw[l];exact(rel.val k).getD rd
 .subst ey;cases (show u=Value.ref b from ry);obtain⟨z,hd,xs,rel,dd⟩:=je I.hok e;refine call_meetsIn JL dd.typeIs J7 (J3 _ _ _) (meetsH_dict_get_default (tupleKind (ao X.prog X.w)) a b hd r) ⟨Js hu,k,xs,bV I.hok eb,dd,h _ _ (I.tok _) ?_⟩;rw[l];exact(rel.val k).getD rd
end
section
variable {X:Cx}{o e f:Expr}{apos cpos:Pos}{td ty tx:TE}
end
section
variable {X:Cx}{pins:List (Addr×Obj)}{σ:St}{H:Hp}{s:Ls}{a:Addr}{kvs:List (Key×V)}{A:Ly}{E:Lx->Ls->Prop}
end
section
variable {X:Cx}{pins:List (Addr×Obj)}{σ:St}{H:Hp}{s:Ls}{a:Addr}{y:V}{u:Lx}{A:Ly}{E:Lx->Ls->Prop}
end
end L2
namespace Att
open PySem PySem.W PySem.Calls PyProof.Rows
theorem iH {P:Params}{h:Heap}:∀(ns:List Int)(vs:List Lx),WellAll P h vs (ns.map WData.int)->IntsAre vs ns:=by
 intro ns;induction ns with
 |nil=>intro vs w;rw[Lo]at w;cases w;exact .nil
 |cons n ns ih=>
  intro vs w;rw[HL]at w;cases w with
  |cons a b=>cases a;exact .cons _ _ (ih _ b)
theorem sU {l:OpenLaw}{n:Nat}(hn:l.most=some n){P:Params}{h:Heap}{args:List WData}{vals:List Lx}
 (hpre:l.row.toRowW.claim.pre args=true) (hwl:WellAll P h vals args) :
 ∃ a vs ns,vals=[Value.ref a]/\args=[WData.list (ns.map WData.int)]/\h.get? a=some { cls:=.type "list",data:=.seq vs.toArray }/\IntsAre vs ns/\ns.length<=n:=by
 have hsh:WShape.hasAll [] args [.list .int]=true:=(pre_splitW hpre).1;have hc:l.pre.holds [] { args:=args }=true:=(pre_splitW hpre).2;obtain⟨d,r,rfl,h1,h2⟩:=hasAllW_cons hsh;obtain rfl:=hasAllW_nil h2;obtain⟨xs,rfl,h3⟩:=hasW_list h1;obtain⟨ns,rfl⟩:=items_int h3;have bg:ns.length<=n:=by
  unfold OpenLaw.pre at hc;have h4:(WTm.not (.lt (.lit (.int (n:Int))) (.len (.arg 0)))).holds [] { args:=[.list (ns.map .int)] }=true:=by have h4:=(holds_andW hc).1;rw[hn]at h4;exact h4
  have h5:=condW_of h4 (w_not (w_lt w_lit (w_len_list (w_arg rfl))));rw[HA]at h5;refine JK fun q=>?_;have q':(n:Int)<((ns.length:Nat):Int):=by omega
  first
   |(rw[HG q']at h5;exact absurd h5 (by decide))
   |(simp at h5;omega)
 cases hwl with
 |cons w1 w2=>
  cases w2;cases w1 with
  |list ho hall=>exact⟨_,_,ns,rfl,rfl,ho,iH ns _ hall,bg⟩
theorem sV (l:OpenLaw)(args:List WData):l.row.toRowW.claim.post args (.bool true) args=true:=
 postW_of (r:=l.row.toRowW) (X:=(true==true))
  (show WShape.has [] (.bool true) .bool=true by first|rfl|decide|simp[WShape.has,WShape.arms,WShape.armsAll])
  (show(WTm.eq .res (.lit (.bool true))).value [] { args:=args,res:=some (.bool true),after:=args }=some (.bool (true==true)) from w_eq_bool (w_res rfl) w_lit) rfl
theorem attach_call {l:OpenLaw}{n:Nat}{q:Lw}{loose:List Str}{XP:(Str->Option Lx)->Heap->Prop}{YP:World->Heap->Prop}{d:DefRec}
 (hn:l.most=some n) (hdf:d.params.defaults=[])
 (call:∀(w:World)(s₀ s₁:Ls)(mg mb:Str->Option Lx)(fa:Addr)(o:Obj)(pm cd doc:Lx)(a:Addr)(vs:List Lx)(ns:List Int),
   Ground q loose [] XP w s₀ mg mb s₁.heap->YP w s₁.heap->
   s₁.heap.get? fa=some o->o.data=.func (docDef d.name d.params d.body d.scope pm cd doc)->s₁.heap.CodeRec cd d.name->mg d.name=some (.ref fa)->
   s₁.heap.get? a=some { cls:=.type "list",data:=.seq vs.toArray }->IntsAre vs ns->ns.length<=n->s₁.gens=#[]->
   codeAny (model l.prog w) callerA (.call (.ref fa) ⟨[.ref a],[]⟩) (fun r s'=>r=.ok (.ret (.bool true))/\OldK s₁.heap s'.heap/\s'.os=s₁.os/\AllBare s'.gens) s₁) :
 WalkO q loose XP YP l.row.toRowW d [] (fun f vs=>PySem.call f vs):=by
 intro w s₀ s₁ mg mb G Y fa o pm cd doc dV kV ho hd hcd hD hmg hg args vals as hpre hlay hrd hwl hlo;obtain rfl:dV=.none:=Dflts.none hD hdf;obtain rfl:kV=.none:=Dflts.noKw hD;obtain⟨a,vs,ns,rfl,rfl,hobj,hints,bg⟩:=sU hn hpre hwl;refine enter_call (Ks (call w s₀ s₁ mg mb fa o pm cd doc a vs ns G Y ho (fd_plain hd) hcd hmg hobj hints bg hg) fun r s' hq=>?_);obtain⟨rfl,h2,h3,h4⟩:=hq;exact⟨.inl ⟨.bool true,.bool true,[],rfl,fun _=>rfl,.bool true,sV l _,fun _=>⟨List.Pairwise.nil,fun _ hm=>(nomatch hm)⟩⟩,h2,h3,h4⟩
section
variable {prog:Lw}{w:World}{A:Ly}{E:Lx->Ls->Prop}{s:Ls}{K:Frag}
end
end Att
namespace L2
open PySem PySem.Spec PyProof.Rows
noncomputable def defArgs (s:Stmt):Arguments:=match s with
 | .FunctionDef _ a _ _ _ _ _ _ _ _=>a
 |_=>{ posonlyargs:=[],args:=[],vararg:=none,kwonlyargs:=[],kw_defaults:=[],kwarg:=none,defaults:=[] }
noncomputable def defBody (s:Stmt):List Stmt:=match s with
 | .FunctionDef _ _ b _ _ _ _ _ _ _=>b
 |_=>[]
noncomputable def defScope (s:Stmt):Scope:=match s with
 | .FunctionDef _ _ _ _ _ _ sc _ _ _=>sc
 |_=>{ kind:=.function,names:=[],isGenerator:=false,isCoroutine:=false }
noncomputable abbrev kc:CXT:=fun _ _ _ _ _ _=>False
noncomputable abbrev E0:XK:=fun _ _ _=>False
structure Fun (K:Lu) (x qual:Str) (st:Stmt) (f:Addr) (fd:FuncData):Prop where
 ex:∃(oc:Lx)(od:Option Addr)(kV doc pm:Lx)(an:Option Addr)(cdv ct:Lx)(osl:Array (Option Lx)),
  fd=PySem.W.fnOf x qual (defArgs st) (defBody st) (defScope st) .none kV doc pm an cdv ct/\K.lookup f=some ⟨oc,od,.func fd,osl⟩/\PySem.W.codeIn K cdv qual=true
 kp:PySem.W.keepIn K (.ref f)=true
section
variable {P:Lw}{w:World}{K:Lu}{mg:Str->Option Lx}{base:Heap}
theorem Fun.ok {x qual:Str}{st:Stmt}{f:Addr}{fd:FuncData}{N ps:List Str}{k:Nat}{sp:Sp}(F:Fun K x qual st f fd)(S:FnScope N ps (defScope st))(len:∀ vs H Q E,sp vs H Q E->vs.length=ps.length)
 (hbody:∀(cdv:Lx)(A:Ly)(outer:List Env)(s:Ls)(H:Hp)(vs:List V)(Q:VK)(E:XK),Room k (A.deeper (envOfC qual (defScope st) s.heap.objs.size f cdv))->sp vs H Q E->
   ∃ t,PSs (pf kc P w K mg base N qual (defScope st) f cdv A outer s H E).nox (defBody st) t/\t { nx:=fun _ H'=>Q .non H',rt:=Q } (dO N vs) H):FnOk P w K mg base kc (k+1) f fd ps sp:=by
 obtain⟨oc,od,kV,doc,pm,an,cdv,ct,osl,rfl,lk,hcd⟩:=F.ex;refine D9 lk hcd S len fun A outer s H vs Q E hr hsp=>?_;obtain⟨t,h,q⟩:=hbody cdv A outer s H vs Q E hr hsp;exact⟨t,h.nox,q⟩
theorem Fun.binds {x qual:Str}{st:Stmt}{f:Addr}{fd:FuncData}{ps:List Str}(F:Fun K x qual st f fd)
 (h:∀(kV doc pm:Lx)(an:Option Addr)(cdv ct:Lx)(us:List Lx),us.length=ps.length->bindArgs (PySem.W.fnOf x qual (defArgs st) (defBody st) (defScope st) .none kV doc pm an cdv ct) ⟨us,[]⟩=pure (ps.zip us)):Binds K fd ps []:=by
 obtain⟨oc,od,kV,doc,pm,an,cdv,ct,osl,rfl,lk,hcd⟩:=F.ex;exact .all (h kV doc pm an cdv ct)
theorem aF {x qual:Str}{st:Stmt}{f:Addr}{oc:Lx}{od an:Option Addr}{osl:Array (Option Lx)}{kV doc pm cdv ct:Lx}(l:K.lookup f=some ⟨oc,od,.func (PySem.W.fnOf x qual (defArgs st) (defBody st) (defScope st) .none kV doc pm an cdv ct),osl⟩)
 (c:PySem.W.codeIn K cdv qual=true) (k:PySem.W.keepIn K (.ref f)=true):Fun K x qual st f (PySem.W.fnOf x qual (defArgs st) (defBody st) (defScope st) .none kV doc pm an cdv ct):=⟨⟨oc,od,kV,doc,pm,an,cdv,ct,osl,rfl,l,c⟩,k⟩
end
section
variable {X:Cx}
theorem pv (i:Nat) {x:Str} {pos:Pos} (hN:autoParam (X.N[i]?=some x) LF._auto_1) (hv:autoParam (Vis X.env.scope x) LB._auto_1) (hd:autoParam ((x==("__debug__" : Str))=false) Lz._auto_1)
 (hcd:autoParam ((x==("__classdict__" : Str))=false) Lz._auto_1):PE X (.Name x pos) (fD i):=Ba hN hv hd hcd
end
theorem s_ {A B:Prop}(h:B):if false=true then A else B:=by rw[Hz Kv];exact h
theorem tf {A B:Prop}(h:A):if true=true then A else B:=by rw[Hx rfl];exact h
def Same (H H':Hp):Prop:=∀ b o,H b=some o->H' b=some o
theorem Same.refl (H:Hp):Same H H:=fun _ _ h=>h
theorem Same.trans {H H1 H2:Hp}(a:Same H H1)(b:Same H1 H2):Same H H2:=fun c o h=>b c o (a c o h)
theorem Same.free {H H':Hp}(e:Same H H'){l:Addr}(h:H' l=Option.none):H l=Option.none:=by
 cases q:H l with
 |none=>rfl
 |some o=>rw[e l o q]at h;cases h
theorem Same.seq {K:Lu}{H H':Hp}{a:Addr}{xs:List V}(e:Same H H')(h:SqL K H a xs):SqL K H' a xs:=by
 rcases h with(h|⟨o,h⟩)|h
 .exact .inl (.inl (e _ _ h))
 .exact .inl (.inr ⟨o,e _ _ h⟩)
 .exact .inr h
section
variable {κ:Type}[DecidableEq κ]
end
end L2
set_option autoImplicit false
namespace L2
open PySem PySem.Spec PyProof.Rows
section
variable {P:Lw}{w:World}{K:Lu}{mg:Str->Option Lx}{base:Heap}{N:List Str}{qual:Str}{scope:Scope}{f:Addr}{cd:Lx}{A:Ly}{outer:List Env}{s₀:Ls}{H₀:Hp}{E:XK}
end
noncomputable def BE (K:Lu)(C:Addr):List Lx:=match K.lookup C with
 |some ⟨_,_,.cls cd,_⟩=>cd.mro
 |_=>[]
section
variable {X:Cx}{c:Str}{C:Addr}{np cpos pos:Pos}{e₀:Expr}{aW:List Expr}{t:TA}
end
section
variable {M:Model}{A:Ly}{E:Lx->Ls->Prop}
end
abbrev TX:=St->Hp->VK->XK->Prop
section
variable {X:Cx}{k:Nat}{f:Addr}{fd:FuncData}{ps:List Str}{sp:Sp}{dvs:List V}{ds:List Lx}{x:Str}{p pos:Pos}{e:Expr}{es:List Expr}{t:TA}
end
section
variable {X:Cx}{pins:List (Addr×Obj)}{σ:St}{H:Hp}{s:Ls}{x:Addr}
end
section
variable {X:Cx}{hc:Str}{Ch:Addr}{np hpos pos epos:Pos}{b₀:Stmt}{suite:List Stmt}{ts:TS}{te:TX}{e:Expr}
end
end L2
namespace L2
open PySem PySem.Spec PySem.Calls PyProof.Rows
abbrev u6:=List Key×Addr×Lx
section
variable {prog:Lw}{w:World}
abbrev tK (prog:Lw)(w:World):=tupleKind (ao prog w)
def DRaw (prog:Lw)(w:World)(h:Heap)(S:Addr)(xs:List u6):Prop:=∃ o es ep,h.get? S=some o/\o.ExactDict/\o.data=.dict es ep/\es.toList=xs.map (entryOfKey (tK prog w))/\(xs.map (·.1)).Nodup
theorem e_ {h h':Heap}{k:List Key}{a:Addr}(x:(tK prog w).is h k a)(e:∀ b o,h.get? b=some o->h'.get? b=some o):(tK prog w).is h' k a:=by obtain⟨o,items,n,h1,r⟩:=x;exact⟨o,items,n,e _ _ h1,r⟩
theorem DRaw.of {hb h:Heap}{S:Addr}{xs:List u6}(d:DRaw prog w h S xs)(ks:∀ x∈xs,(tK prog w).is hb x.1 x.2.1)(e:∀ b o,hb.get? b=some o->h.get? b=some o):h.DictOfH (tK prog w) S xs:=by obtain⟨o,es,ep,h1,h2,h3,h4,h5⟩:=d;exact⟨o,es,ep,h1,h2,h3,h4,fun x hx=>e_ (ks x hx) e,h5⟩
variable {A:Ly}{R:Result->Ls->Prop}{I:Addr}{fp wr:List Addr}{G:Array GenState->Array GenState->Prop}{n:Nat}{P:Nat->Lx->Prop}{St:Nat->Ls->Prop}
end
section
variable {prog:Lw}{w:World}{A:Ly}{E:Lx->Ls->Prop}{s:Ls}
end
section
variable {P:Lw}{w:World}{H:Hp}{h:Heap}
end
section
variable {X:Cx}
end
section
variable {X:Cx}{pins:List (Addr×Obj)}{σ:St}{H:Hp}{s:Ls}{a:Addr}
theorem Inv.retK (I:Inv X pins σ H s)(e:H a=some (.dT [])):Inv X pins σ (av H a (.dK [])) s:=by
 obtain⟨z,y,xs,r,o,es,ep,h1,h2,h3,h4,h5⟩:=(show ObjOk X.prog X.w H s.heap a (.dT []) from I.hok a _ e);cases r;exact I.write (x:=a) (e:=a) (t':=s.toks) (h':=s.heap) (by rw[e];exact True.intro) (.inl rfl) (fun b u _ q=>q) ⟨o,h1⟩ ⟨z,y,[],.nil,o,es,ep,h1,h2,h3,by
  have e:es=#[]:=by simpa using h4
  subst e;intro x hx;simp at hx,by
  have e:es=#[]:=by simpa using h4
  subst e;constructor,K8⟩
theorem Inv.retT (I:Inv X pins σ H s)(e:H a=some (.dK [])):Inv X pins σ (av H a (.dT [])) s:=by
 obtain⟨z,y,vs,r,o,es,ep,h1,h2,h3,h4,h5⟩:=(show ObjOk X.prog X.w H s.heap a (.dK []) from I.hok a _ e);cases r;exact I.write (x:=a) (e:=a) (t':=s.toks) (h':=s.heap) (by rw[e];exact True.intro) (.inl rfl) (fun b u _ q=>q) ⟨o,h1⟩ ⟨z,y,[],.nil,o,es,ep,h1,h2,h3,(by
  generalize es.toList=l at h5;obtain⟨h5,_⟩:=h5;cases l with
  |nil=>rfl
  |cons x r=>cases h5),K8⟩
end
def jf (H:Hp)(a:Addr)(y:V)(r:Option V):Prop:=DGet H a y r\/(Rd H a (.dT [])/\(∃ k,y=kV k)/\r=none)\/(Rd H a (.dK [])/\(∃(b:Addr)(k:List Key),y=.ref b/\H b=some (.tup (k.map kV)))/\r=none)
def AA (H:Hp)(a:Addr)(y v:V)(H':Hp):Prop:=DPut H a y v H'\/(H a=some (.dT [])/\∃ k,y=kV k/\H'=av H a (.dK [(k,v)]))\/(H a=some (.dK [])/\∃(b:Addr)(k:List Key),y=.ref b/\H b=some (.tup (k.map kV))/\H'=av H a (.dT [(k,v)]))
section
variable {X:Cx}{pins:List (Addr×Obj)}{σ:St}{H:Hp}{s:Ls}{a:Addr}{y v:V}{u r:Lx}{o:Option V}{A:Ly}{E:Lx->Ls->Prop}
theorem fS {P:Lw}{w:World}{h:Heap}(x:ObjOk P w H h a (.dT [])):(a==sysModules)=false/\h.DictOf (ao P w) a []:=by
 obtain⟨z,y,xs,r,o,es,ep,h1,h2,h3,h4,h5⟩:=x;cases r;have e:es=#[]:=by simpa using h4
 subst e;exact⟨y,o,#[],ep,h1,h2,h3,fun x hx=>by simp at hx,by constructor,K8⟩
theorem pz {P:Lw}{w:World}{h:Heap}(x:ObjOk P w H h a (.dK [])):(a==sysModules)=false/\h.DictOfH (tupleKind (ao P w)) a []:=by
 obtain⟨z,y,vs,r,o,es,ep,h1,h2,h3,h4,h5⟩:=x;cases r;refine⟨y,o,es,ep,h1,h2,h3,?_,fun x hx=>(nomatch hx),K8⟩;generalize es.toList=l at h5;obtain⟨h5,_⟩:=h5;cases l with
 |nil=>rfl
 |cons x r=>cases h5
theorem Eg {Q:Lx->Ls->Prop}(hu:A.units+1<cLine)(I:Inv X pins σ H s)(g:jf H a y o)(ry:RelV y u)(h:∀ s',Inv X pins σ H s'->Q (.bool o.isSome) s') :
 wpAny (model X.prog X.w) A (compareOp .In u (.ref a)) Q E s:=by
 rcases g with g|⟨e,⟨k,rfl⟩,rfl⟩|⟨e,⟨b,k,rfl,eb⟩,rfl⟩
 .exact Gr hu I g ry h
 .obtain⟨y,dd⟩:=fS (e.ok I.hok);exact wpAny_in_of (gb ry) y dd.mapOf (h _ (I.tok _))
 .obtain rfl:u=Value.ref b:=ry;obtain⟨y,dd⟩:=pz (e.ok I.hok);exact wpAny_in_heap (Js hu) (bV I.hok eb) y dd (h _ (I.tok _))
theorem u7 {Q:Lx->Ls->Prop}(hu:A.units+1<cLine)(I:Inv X pins σ H s)(g:jf H a y o)(ry:RelV y u)(h:∀ s',Inv X pins σ H s'->Q (.bool (!o.isSome)) s') :
 wpAny (model X.prog X.w) A (compareOp .NotIn u (.ref a)) Q E s:=by
 rcases g with g|⟨e,⟨k,rfl⟩,rfl⟩|⟨e,⟨b,k,rfl,eb⟩,rfl⟩
 .exact yg hu I g ry h
 .obtain⟨y,dd⟩:=fS (e.ok I.hok);exact wpAny_notIn_of (gb ry) y dd.mapOf (h _ (I.tok _))
 .obtain rfl:u=Value.ref b:=ry;obtain⟨y,dd⟩:=pz (e.ok I.hok);exact wpAny_notIn_heap (Js hu) (bV I.hok eb) y dd (h _ (I.tok _))
theorem pA {H':Hp}{Q:Unit->Ls->Prop}(hu:A.units+1<cLine)(I:Inv X pins σ H s)(g:AA H a y v H')(ry:RelV y u)(rv:RelV v r)(h:∀ s',Inv X pins σ H' s'->Q () s') :
 wpAny (model X.prog X.w) A (setItem (.ref a) u r) Q E s:=by
 rcases g with g|⟨e,k,rfl,rfl⟩|⟨e,b,k,rfl,eb,rfl⟩
 .exact g7 hu I g ry rv h
 .refine g7 hu (I.retK e) (DPut.k (kvs:=[]) (k:=k) (v:=v) ag (by decide)) ry rv fun s' I'=>?_;rw[lP]at I';exact h s' I'
 .refine g7 hu (I.retT e) (DPut.t (kvs:=[]) (k:=k) (v:=v) ag (by rw[ac (kF eb e (fun z=>nomatch z))];exact eb) (by decide)) ry rv fun s' I'=>?_;rw[lP]at I';exact h s' I'
end
section
variable {X:Cx}{value o i:Expr}{td ty tv:TE}{pos pos':Pos}
noncomputable def u9 (td ty tv:TE):TS:=fun D σ H=>tv σ H fun v H1=>td σ H1 fun x H2=>ty σ H2 fun y H3=>∃ a H4,x=.ref a/\AA H3 a y v H4/\D.nx σ H4
theorem u_ (hu:X.A.units+1<cLine)(ho:PE X o td)(hi:PE X i ty)(hv:PE X value tv)(hs:swapsWith value (some (.Subscript o i pos')) pos.line X.env=pure false) :
 PS X (.Assign [.Subscript o i pos'] value pos) (u9 td ty tv):=by
 intro pins s σ H D I h;refine wpAny_Assign_Subscript (bn (hv pins s σ H _ I h) fun r s1 ⟨v,H1,I1,rv,q1⟩=>bn (ho pins s1 σ H1 _ I1 q1) fun u s2 ⟨x,H2,I2,rx,q2⟩=>bn (hi pins s2 σ H2 _ I2 q2) fun iv s3 ⟨y,H3,I3,ry,a,H4,ex,g,q3⟩=>?_) hs;subst ex;obtain rfl:u=Value.ref a:=rx;exact pA hu I3 g ry rv fun s4 I4=>⟨σ,H4,I4,q3⟩
end
section
variable {X:Cx}{pins:List (Addr×Obj)}{σ:St}{H:Hp}{s:Ls}{a:Addr}{y d:V}{u r:Lx}{o:Option V}{A:Ly}{E:Lx->Ls->Prop}
theorem yj {Q:Lx->Ls->Prop}(hu:A.units+1<cLine)(I:Inv X pins σ H s)(g:jf H a y o)(ry:RelV y u)(rd:RelV d r)(h:∀ w' s',Inv X pins σ H s'->RelV (o.getD d) w'->Q w' s') :
 wpAny (model X.prog X.w) A (call (.builtin "dict.get") [.ref a,u,r]) Q E s:=by
 rcases g with g|⟨e,⟨k,rfl⟩,rfl⟩|⟨e,⟨b,k,rfl,eb⟩,rfl⟩
 .exact BD hu I g ry rd h
 .obtain⟨y,dd⟩:=fS (e.ok I.hok);exact call_meetsIn JL dd.typeIs J7 (J3 _ _ _) (meets_dict_get_default (ao X.prog X.w) a (gb ry) y r) ⟨_,dd.mapOf,h _ _ (I.tok _) rd⟩
 .obtain rfl:u=Value.ref b:=ry;obtain⟨y,dd⟩:=pz (e.ok I.hok);exact call_meetsIn JL dd.typeIs J7 (J3 _ _ _) (meetsH_dict_get_default (tupleKind (ao X.prog X.w)) a b y r) ⟨Js hu,k,[],bV I.hok eb,dd,h _ _ (I.tok _) rd⟩
end
noncomputable def ym (td ty tx:TE):TE:=fun σ H Q=>td σ H fun x H1=>∃ a,x=.ref a/\FN H1 a/\ty σ H1 fun y H2=>tx σ H2 fun z H3=>∃ o,jf H3 a y o/\Q (o.getD z) H3
section
variable {X:Cx}{o e f:Expr}{apos cpos:Pos}{td ty tx:TE}
theorem tm (hu:X.A.units+1<cLine) (ho:PE X o td) (he:PE X e ty) (hf:PE X f tx) (m:M2 X o "get" apos e f cpos):PE X (.Call (.Attribute o "get" apos) [e,f] [] cpos) (ym td ty tx):=by intro pins s σ H Q I h;refine wpAny_Call_method m.base m.few m.line PySem.F.plainAttrs_dict JL PySem.F.type_dict_get (bn (ho pins s σ H _ I h) fun u s1 ⟨x,H1,I1,rx,a,ex,d,q1⟩=>?_);subst ex;obtain rfl:u=Value.ref a:=rx;obtain⟨t1,t2,_⟩:=u5 I1 d;refine⟨t1,t2,?_⟩;rw[m.trees];refine Calls.callWith_builtin rfl (Calls.evalArgs_plain (Calls.spliced_cons (bn (he pins s1 σ H1 _ I1 q1) fun iv s2 ⟨y,H2,I2,ry,q2⟩=>Calls.spliced_cons (bn (hf pins s2 σ H2 _ I2 q2) fun fv s3 ⟨z,H3,I3,rz,ov,g,q3⟩=>Calls.spliced_nil ?_))));exact yj hu I3 g ry rz fun w' s4 I4 rw'=>⟨_,H3,I4,rw',q3⟩
end
noncomputable def dS:HO->Prop
 | .dK _=>True
 | .dT _=>True
 |_=>False
section
variable {X:Cx}{pins:List (Addr×Obj)}{σ:St}{H H':Hp}{s:Ls}{d:Addr}{o:Obj}{u:HO}
theorem Inv.view (I:Inv X pins σ H s)(hn:∀ b,H b=none->H' b=none)(ht:∀ b xs,H b=some (.tup xs)->H' b=some (.tup xs))(hf:∀ b o u,X.H₀ b=some (.frz o u)->H' b=some (.frz o u))
 (hb:∀ b ps,H b=some (.tbl ps)->H' b=some (.tbl ps)) (hok:HOk X.prog X.w H' s.heap):Inv X pins σ H' s where
 ok:=I.ok
 os:=I.os
 bare:=I.bare
 base:=⟨I.base.keep,I.base.slot,fun b o e n hx=>hn b (I.base.free b o e n hx),I.base.there,fun b xs e=>ht b xs (I.base.tups b xs e),hf,fun b ps e=>let ⟨m,q⟩:=I.base.tbls b ps e;⟨m,hb b _ q⟩⟩
 loc:=I.loc
 cell:=I.cell
 free:=hn _ I.free
 freeC:=fun x c e=>hn c (I.freeC x c e)
 pin:=fun p hp=>let ⟨a,b,c⟩:=I.pin p hp;⟨a,hn _ b,c⟩
 hok:=hok
 len:=I.len
theorem qM {P:Lw}{w:World}{h:Heap}(ok:HOk P w H h){u':HO}(hd:∃ u,H d=some u/\(∀ y,u≠.own y)/\∀ xs,u≠.tup xs)(new:ObjOk P w (av H d u') h d u'):HOk P w (av H d u') h:=fun b v e=>by
 obtain⟨u,hu,h1,h2⟩:=hd;by_cases hb:b=d
 .subst hb;rw[ag]at e;cases e;exact new
 .rw[ac hb]at e;refine(ok b v e).stay (fun _ _ _ q=>q) (fun c q=>?_) fun c xs q=>?_
  .rw[ac]
   .exact q
   .rintro rfl;rw[hu]at q;cases q;exact h1 _ rfl
  .rw[ac]
   .exact q
   .rintro rfl;rw[hu]at q;cases q;exact h2 _ rfl
theorem qN {u:HO}(h:dS u):(∀ y,u≠.own y)/\(∀ xs,u≠.tup xs)/\(∀ ps,u≠.tbl ps)/\∀ o v,u≠.frz o v:=by cases u<;>first|exact h.elim|exact⟨fun _ z=>(nomatch z),fun _ z=>(nomatch z),fun _ z=>(nomatch z),fun _ _ z=>(nomatch z)⟩
theorem kQ {P:Lw}{w:World}{h:Heap}(hu:dS u)(x:ObjOk P w H h d u)(ht:∀ b xs,H b=some (.tup xs)->H' b=some (.tup xs)):ObjOk P w H' h d u:=by
 cases u with
 |dK kvs=>exact x
 |dT kvs=>obtain⟨z,y,xs,r,q⟩:=x;exact⟨z,y,xs,Paired.mapP r fun p q z=>⟨z.1,ht _ _ z.2.1,z.2.2⟩,q⟩
 |_=>exact hu.elim
theorem Inv.frz (I:Inv X pins σ H s)(e:H d=some u)(hu:dS u)(ho:s.heap.get? d=some o):Inv X pins σ (av H d (.frz o u)) s:=by
 obtain⟨n1,n2,n3,n4⟩:=qN hu;have ht:∀ b xs,H b=some (.tup xs)->av H d (.frz o u) b=some (.tup xs):=fun b xs q=>by
  rw[ac]
  .exact q
  .rintro rfl;rw[e]at q;cases q;exact n2 _ rfl
 refine I.view (fun b hb=>?_) ht (fun b o' u' q=>?_) (fun b ps q=>?_) (qM I.hok ⟨u,e,n1,n2⟩ ⟨ho,kQ hu (I.hok d u e) ht⟩)
 .rw[ac]
  .exact hb
  .rintro rfl;rw[e]at hb;cases hb
 .have q:=I.base.frzs b o' u' q;rw[ac]
  .exact q
  .rintro rfl;rw[e]at q;cases q;exact n4 _ _ rfl
 .rw[ac]
  .exact q
  .rintro rfl;rw[e]at q;cases q;exact n3 _ rfl
theorem Inv.nofrz (I:Inv X pins σ H s)(e:H d=some u)(hu:dS u):∀ o v,X.H₀ d≠some (.frz o v):=fun o v q=>by have:=I.base.frzs d o v q;rw[e]at this;cases this;exact(qN hu).2.2.2 _ _ rfl
theorem Inv.unfrz (I:Inv X pins σ H s)(e:H d=some (.frz o u))(hu:dS u)(hn:∀ o v,X.H₀ d≠some (.frz o v)):Inv X pins σ (av H d u) s:=by
 have ht:∀ b xs,H b=some (.tup xs)->av H d u b=some (.tup xs):=fun b xs q=>by
  rw[ac]
  .exact q
  .rintro rfl;rw[e]at q;cases q
 have x:ObjOk X.prog X.w H s.heap d u:=(show ObjOk X.prog X.w H s.heap d (.frz o u) from I.hok d _ e).2;refine I.view (fun b hb=>?_) ht (fun b o' u' q=>?_) (fun b ps q=>?_) (qM I.hok ⟨_,e,fun _ z=>(nomatch z),fun _ z=>(nomatch z)⟩ (kQ hu x ht))
 .rw[ac]
  .exact hb
  .rintro rfl;rw[e]at hb;cases hb
 .have q2:=I.base.frzs b o' u' q;rw[ac]
  .exact q2
  .rintro rfl;exact hn _ _ q
 .rw[ac]
  .exact q
  .rintro rfl;rw[e]at q;cases q
end
def AB (d:Addr)(o:Obj)(u:HO)(kvs:List (Key×V)):It:=⟨fun i H=>H d=some (.frz o u)/\i<kvs.length,fun i H x H'=>H'=H/\∃ k v,kvs[i]?=some (k,v)/\x=kV k,fun i H=>H d=some (.frz o u)/\kvs.length<=i⟩
theorem l0 {k:Key}{u:Lx}{P:Lw}{w:World}(h:(ao P w).is k u=true):RelV (kV k) u:=by
 rcases aI (show ig k u=true from h) with⟨i,t,rfl,rfl⟩|⟨x,t,rfl,rfl⟩
 .exact⟨t,rfl⟩
 .exact⟨t,rfl⟩
theorem nA {P:Lw}{w:World}{h h':Heap}{d:Addr}{o:Obj}{vs:List (Key×Lx)}{ep:Nat}(x:h.DictAt (ao P w) d vs ep)(e:h.get? d=some o)(e':h'.get? d=some o):h'.DictAt (ao P w) d vs ep:=by obtain⟨o',es,ho,r⟩:=x;rw[e]at ho;cases ho;exact⟨o,es,e',r⟩
theorem tp {P:Lw}{w:World}{K:Lu}{tg:Expr}{d it:Addr}{o:Obj}{u0:HO}{kvs:List (Key×V)}{vs:List (Key×Lx)}{ep:Nat}{h0:Heap}(rel:KV kvs vs)(x0:h0.DictAt (ao P w) d vs ep)(e0:h0.get? d=some o) :
 Turn P w K tg (AB d o u0 kvs) [it] it (fun i h=>h.IsKeyIter it d i vs.length ep) where
 mem:=by simp
 obj:=fun i h st b hb=>by
  have e:b=it:=by simpa using hb
  subst e;obtain⟨o,e,c,q⟩:=st;exact⟨o,e,fun v z=>by rw[q]at z;cases z⟩
 keep:=fun i h h' st k=>st.at fun o e=>k it (by simp) o e
 item:=by
  intro X hP hw hK hc i pins s σ H E I hf st hg;subst hP hw hK;obtain⟨hd,hi⟩:=hg;obtain⟨eo,_⟩:=(show ObjOk X.prog X.w H s.heap d (.frz o u0) from I.hok d _ hd);have x1:=nA x0 e0 eo;obtain⟨f0,f1,f2,f3,f4,f5⟩:=hf it (by simp);have hiv:i<vs.length:=by rw[<- rel.length];exact hi
  have rg:∃ k v u,kvs[i]?=some (k,v)/\vs[i]?=some (k,u):=by
   have hk:kvs[i]?=some kvs[i]:=by simp[hi]
   have hv:vs[i]?=some vs[i]:=by simp[hiv]
   have key:∀{a:List (Key×V)}{b:List (Key×Lx)},KV a b->∀(i:Nat) p q,a[i]?=some p->b[i]?=some q->p.1=q.1:=by
    intro a b r;induction r with
    |nil=>intro i p q e;simp at e
    |cons hq t ih=>
     intro i p q e1 e2;cases i with
     |zero=>simp at e1 e2;subst e1 e2;exact hq.1
     |succ i=>exact ih i p q (by simpa using e1) (by simpa using e2)
   have:=key rel i _ _ hk hv;exact⟨kvs[i].1,kvs[i].2,vs[i].2,hk,by rw[hv,this]⟩
  obtain⟨k,v,uv,h1,h2⟩:=rg;refine wpAny_pyNext_dict_item st x1 h2 fun key h' iP st' sb=>?_;have I1:Inv X pins σ H { s with heap:=h' }:=I.turned (t':=s.toks) (fun b o hb e=>(sb.2 b hb).trans e) f0 f1 f3 f4 f5;obtain⟨oi,e,c,q⟩:=id st';exact⟨key,rfl,nr (s:={ s with heap:=h' }) e c q (by decide) ⟨kV k,H,I1,l0 iP,⟨rfl,k,v,h1,rfl⟩,st',fun b hb=>(hf b hb).1⟩⟩
 done:=by intro X hP hw hK hc i pins s σ H E I hf st hg;subst hP hw hK;obtain⟨hd,hi⟩:=hg;obtain⟨eo,_⟩:=(show ObjOk X.prog X.w H s.heap d (.frz o u0) from I.hok d _ hd);have x1:=nA x0 e0 eo;obtain⟨f0,f1,f2,f3,f4,f5⟩:=hf it (by simp);have hl:=rel.length;exact wpAny_pyNext_dict_end (I.ok.hd hc) st x1 (by simp;omega) fun h' eb=>⟨rfl,I.turned (t':=s.toks) (fun b o hb e=>eb b o hb e) f0 f1 f3 f4 f5⟩
 self:=fun _ _ _ _ _ st h=>wpAny_pyIter_keyiter st h
section
variable {X:Cx}{tg:Expr}
def Eh (X:Cx)(tl:TE):TI:=fun σ H R=>tl σ H fun x H1=>∃ d kvs u,x=.ref d/\(u=.dK kvs\/(u=.dT []/\kvs=[]))/\((∃ o,H1 d=some (.frz o u)/\R (AB d o u kvs) H1)\/(H1 d=some u/\∀ o,(∀ o' v,X.H₀ d≠some (.frz o' v))->R (AB d o u kvs) (av H1 d (.frz o u))))
theorem qO {l:Expr}{tl:TE}(hl:PE X l tl):PI X tg l (Eh X tl):=by
 intro pins s σ H R I h;refine bn (hl pins s σ H _ I h) fun v s1 ⟨x,H1,I1,r1,q1⟩=>?_;obtain⟨d,kvs,u,e,hu,q⟩:=q1;subst e;cases r1;have j3:dS u:=by rcases hu with rfl|⟨rfl,_⟩<;>exact True.intro
 have fin:∀(o:Obj)(H2:Hp),Inv X pins σ H2 s1->H2 d=some (.frz o u)->R (AB d o u kvs) H2->wpAny (model X.prog X.w) X.A (pyIter (.ref d)) (Ga X pins σ tg R) X.xe s1:=fun o H2 I2 e2 q2=>by
  obtain⟨eo,hx⟩:=(show ObjOk X.prog X.w H2 s1.heap d (.frz o u) from I2.hok d _ e2);have key:(d==sysModules)=false/\∃ vs,KV kvs vs/\s1.heap.DictOf (ao X.prog X.w) d vs:=by
   rcases hu with rfl|⟨rfl,rfl⟩
   .obtain⟨z,hd,vs,rel,dd⟩:=hx;exact⟨hd,vs,rel,dd⟩
   .obtain⟨hd,dd⟩:=fS hx;exact⟨hd,[],.nil,dd⟩
  obtain⟨hd,vs,rel,dd⟩:=key;obtain⟨ep,da⟩:=dd.dictAt;refine wpAny_pyIter_dict hd da ?_;refine⟨s1.heap.objs.size,[s1.heap.objs.size],_,_,H2,rfl,I2.kept (t':=s1.toks) fun b o e=>Hu _ e,tp rel da eo,⟨_,HQ _ rfl,rfl,rfl⟩,fun b hb=>?_,q2⟩;have e:b=s1.heap.objs.size:=by simpa using hb
  subst e;exact I2.fpOk (HB _) (I2.hok.fresh (HB _))
 rcases q with⟨o,e1,q⟩|⟨e1,q⟩
 .exact fin o H1 I1 e1 q
 .have hob:∃ o,s1.heap.get? d=some o:=by
   rcases hu with rfl|⟨rfl,_⟩
   .obtain⟨_,_,_,_,o,_,_,ho,_⟩:=(show ObjOk X.prog X.w H1 s1.heap d (.dK kvs) from I1.hok d _ e1);exact⟨o,ho⟩
   .obtain⟨_,_,_,_,o,_,_,ho,_⟩:=(show ObjOk X.prog X.w H1 s1.heap d (.dT []) from I1.hok d _ e1);exact⟨o,ho⟩
  obtain⟨o,ho⟩:=hob;exact fin o _ (I1.frz e1 j3 ho) ag (q o (I1.nofrz e1 j3))
def unD (X:Cx)(D:Ends):Ends where
 nx:=fun σ H=>D.nx σ H\/∃ d o u,H d=some (.frz o u)/\dS u/\(∀ o v,X.H₀ d≠some (.frz o v))/\D.nx σ (av H d u)
 rt:=D.rt
 bk:=D.bk
 ct:=D.ct
theorem BF {st:Stmt}{t:TS}(h:PS X st t):PS X st (fun D σ H=>t (unD X D) σ H):=by
 intro pins s σ H D I q;refine bn (h pins s σ H _ I q) fun f s' r=>?_;cases f with
 |next=>
  obtain⟨σ',H',I',r⟩:=r;rcases r with r|⟨d,o,u,e,hu,hn,r⟩
  .exact⟨σ',H',I',r⟩
  .exact⟨σ',_,I'.unfrz e hu hn,r⟩
 |_=>exact r
end
section
variable {prog:Lw}{w:World}
variable {A:Ly}{R:Result->Ls->Prop}{I:Addr}{fp wr:List Addr}{G:Array GenState->Array GenState->Prop}{n:Nat}{P:Nat->Lx->Prop}{St:Nat->Ls->Prop}
end
section
variable {prog:Lw}{w:World}{A:Ly}{E:Lx->Ls->Prop}{s:Ls}
end
section
variable {P:Lw}{w:World}{H:Hp}{h:Heap}
end
section
variable {X:Cx}
end
section
variable {prog:Lw}{w:World}{A:Ly}{E:Lx->Ls->Prop}{s:Ls}
end
section
variable {X:Cx}
end
noncomputable def Gs (K:Lu)(a:Addr)(n:Nat):It:=⟨fun i H=>∃ xs,SqL K H a xs/\xs.length=n/\i<n,fun i H x H'=>H'=H/\∀ xs,SqL K H a xs->xs[n-1-i]?=some x,fun i H=>n<=i⟩
theorem vc {P:Lw}{w:World}{K:Lu}{tg:Expr}(a it:Addr)(n:Nat):Turn P w K tg (Gs K a n) [it] it (fun i h=>i<=n/\h.IsRevIter it a ((n:Int)-1-i)) where
 mem:=by simp
 obj:=fun i h st b hb=>by
  have e:b=it:=by simpa using hb
  subst e;obtain⟨_,o,e,c,d⟩:=st;exact⟨o,e,fun v z=>by rw[d]at z;cases z⟩
 keep:=fun i h h' st k=>⟨st.1,st.2.at fun o e=>k it (by simp) o e⟩
 item:=by
  intro X hP hw hK hc i pins s σ H E I hf st hg;subst hP hw hK;obtain⟨xs,hq,hn,hi⟩:=hg;obtain⟨its,rv,p,hz⟩:=I.list hq;have hx:xs[n-1-i]?=some xs[n-1-i]:=by simp[show n-1-i<xs.length by omega]
  obtain⟨u,hu,ru⟩:=rv.get hx;obtain⟨f0,f1,f2,f3,f4,f5⟩:=hf it (by simp);have ei:(n:Int)-1-i=((n-1-i:Nat):Int):=by omega
  have st2:=st.2;rw[ei]at st2;refine wpAny_pyNext_rev_item st2 p.isList (x:=u) (by simpa using hu) fun h' st' sb=>?_;have I1:Inv X pins σ H { s with heap:=h' }:=I.turned (t':=s.toks) (fun b o hb e=>(sb.2 b hb).trans e) f0 f1 f3 f4 f5;obtain⟨o,e,c,d⟩:=id st';have e2:((n-1-i:Nat):Int)-1=(n:Int)-1-((i+1:Nat):Int):=by omega
  exact⟨u,rfl,nr (s:={ s with heap:=h' }) e c d (by decide) ⟨xs[n-1-i],H,I1,ru,⟨rfl,fun ys hy=>by rw[I.list_inj hy hq];exact hx⟩,⟨by omega,by rw[<- e2];exact st'⟩,fun b hb=>(hf b hb).1⟩⟩
 done:=by intro X hP hw hK hc i pins s σ H E I hf st hg;subst hP hw hK;obtain⟨f0,f1,f2,f3,f4,f5⟩:=hf it (by simp);have hin:i=n:=Nat.le_antisymm st.1 hg;have st2:=st.2;rw[hin,show(n:Int)-1-(n:Nat)=-1 by omega]at st2;exact wpAny_pyNext_rev_end (I.ok.hd hc) st2 fun h' eb=>⟨rfl,I.turned (t':=s.toks) (fun b o hb e=>eb b o hb e) f0 f1 f3 f4 f5⟩
 self:=fun _ _ _ _ _ st h=>wpAny_pyIter_revIter st.2 h
section
variable {X:Cx}{tg:Expr}
def Gt (K:Lu)(ta:TA):TI:=fun σ H R=>ta σ H fun vs H1=>∃ a xs,vs=[.ref a]/\SqL K H1 a xs/\R (Gs K a xs.length) H1
theorem BG {l:Expr} {ta:TA} {p pos:Pos} (hg:Gl X "reversed") (hm:X.mg "reversed"=none) (ha:PA X [l] ta) (hs:autoParam (starEach [l] X.env=[(false,eval l X.env)]) LF._auto_1):PI X tg (.Call (.Name "reversed" p) [l] [] pos) (Gt X.K ta):=by
 intro pins s σ H R I h;refine Call_ (i_ I hg hm boot_reversed (Ka (bn (ha pos pins s σ H _ I h) fun us s1 ⟨vs,H1,I1,r1,q1⟩=>?_) hs rfl));obtain⟨a,xs,rfl,hq,q⟩:=q1;obtain⟨u,rfl,ru⟩:=cW r1;obtain rfl:u=Value.ref a:=ru;obtain⟨its,rv,pl,hz⟩:=I1.list hq;refine call_reversed_list pl.isList ?_;have hn:(its.toArray.size:Int)-1=(xs.length:Int)-1-((0:Nat):Int):=by rw[Hy,<- rv.length];simp
 have st0:(s1.heap.push (revObj a ((its.toArray.size:Int)-1))).IsRevIter s1.heap.objs.size a ((xs.length:Int)-1-((0:Nat):Int)):=⟨_,HQ _ rfl,rfl,by rw[<- hn];rfl⟩;refine wpAny_pyIter_revIter st0 ?_;refine⟨s1.heap.objs.size,[s1.heap.objs.size],_,_,H1,rfl,I1.kept (t':=s1.toks) fun b o e=>Hu _ e,vc a _ xs.length,⟨Ij _,st0⟩,fun b hb=>?_,q⟩;have e:b=s1.heap.objs.size:=by simpa using hb
 subst e;exact I1.fpOk (HB _) (I1.hok.fresh (HB _))
end
end L2
namespace ST
open PySem PySem.SetTable
noncomputable def st (m:Nat)(h:Int):Probe:={ j:=bits h % (m+1),more:=runEnd m (bits h % (m+1))-bits h % (m+1),i:=bits h % (m+1),perturb:=bits h,dummy:=none }
noncomputable def rs (m:Nat)(p:Nat×Nat):Probe:={ j:=p.1,more:=runEnd m p.1-p.1,i:=p.1,perturb:=p.2,dummy:=none }
noncomputable def adv (m:Nat)(p:Probe):Probe:=if p.more>0 then { p with j:=p.j+1,more:=p.more-1 } else { p with j:=(leap m p.i p.perturb).1,more:=runEnd m (leap m p.i p.perturb).1-(leap m p.i p.perturb).1,i:=(leap m p.i p.perturb).1,perturb:=(leap m p.i p.perturb).2 }
theorem pB (t:SetTable)(p:Probe):t.advance p=adv t.mask p:=rfl
def it (m:Nat):Nat->Probe->Probe
 |0,p=>p
 |n+1,p=>it m n (adv m p)
theorem cm (m:Nat):∀(a b:Nat)(p:Probe),it m (a+b) p=it m b (it m a p)
 |0,b,p=>by rw[JX];rfl
 |a+1,b,p=>by rw[Nat.succ_add];exact cm m a b (adv m p)
theorem yn (m n:Nat)(p:Probe):it m (n+1) p=adv m (it m n p):=cm m n 1 p
structure Va (m:Nat) (p:Probe):Prop where
 i:p.i<=m
 more:p.more<=9
 j:p.j+p.more<=m
 q:p.perturb<2 ^ 64
 d:p.dummy=none
theorem l5 (h:Int):bits h<2 ^ 64:=by unfold bits;have:=J8 h (show(0:Int)<2 ^ 64 by decide);have h2:=JQ h (show(2 ^ 64:Int)≠0 by decide);omega
theorem fT (m i:Nat)(h:i<=m):runEnd m i-i<=9/\i+(runEnd m i-i)<=m:=by unfold runEnd;split<;>omega
theorem Va.rs {m:Nat}{p:Nat×Nat}(h1:p.1<=m)(h2:p.2<2 ^ 64):Va m (rs m p):=⟨h1,(fT m _ h1).1,(fT m _ h1).2,h2,rfl⟩
theorem Va.st (m:Nat)(h:Int):Va m (st m h):=by have:bits h % (m+1)<=m:=Ld (Nat.mod_lt _ (Nat.succ_pos m));exact⟨this,(fT m _ this).1,(fT m _ this).2,l5 h,rfl⟩
theorem l6 (m i q:Nat):(leap m i q).1<=m:=by exact Ld (Nat.mod_lt _ (Nat.succ_pos m))
theorem pC (m i q:Nat):(leap m i q).2=q / 32:=rfl
theorem Va.adv {m:Nat}{p:Probe}(v:Va m p):Va m (adv m p):=by
 unfold ST.adv;split
 .exact⟨v.i,by dsimp only;have:=v.more;omega,by dsimp only;have:=v.j;omega,v.q,v.d⟩
 .have l:=l6 m p.i p.perturb;exact⟨l,(fT m _ l).1,(fT m _ l).2,by dsimp only;rw[pC];have:=v.q;have:=Nat.div_le_self p.perturb 32;omega,v.d⟩
theorem Va.it {m:Nat}:∀{n:Nat}{p:Probe},Va m p->Va m (it m n p)
 |0,_,v=>v
 |n+1,_,v=>Va.it (n:=n) v.adv
theorem Va.jle {m:Nat}{p:Probe}(v:Va m p):p.j<=m:=by have:=v.j;omega
theorem gc {m:Nat}:∀(k:Nat)(p:Probe),p.more=k->Va m p->it m (k+1) p=rs m (leap m p.i p.perturb)
 |0,p,e,v=>by show adv m p=_;unfold adv rs;rw[Hz (by omega)];obtain⟨j,mo,i,q,d⟩:=p;cases v.d;rfl
 |k+1,p,e,v=>by
  have e1:adv m p={ p with j:=p.j+1,more:=p.more-1 }:=by unfold adv;rw[Hx (by omega)]
  show it m (k+1) (adv m p)=_;have:=gc k (adv m p) (by rw[e1];show p.more-1=k;omega) v.adv;rw[this,e1]
noncomputable def lp (m:Nat):Nat->Nat×Nat->Nat×Nat
 |0,p=>p
 |n+1,p=>lp m n (leap m p.1 p.2)
theorem ve (m:Nat):∀(a b:Nat)(p:Nat×Nat),lp m (a+b) p=lp m b (lp m a p)
 |0,b,p=>by rw[JX];rfl
 |a+1,b,p=>by rw[Nat.succ_add];exact ve m a b _
theorem Ei (m:Nat):∀(n:Nat)(p:Nat×Nat),(lp m n p).2=p.2 / 32 ^ n
 |0,p=>by simp[lp]
 |n+1,p=>by show(lp m n (leap m p.1 p.2)).2=_;rw[Ei m n,pC,Nat.div_div_eq_div_mul,Nat.pow_succ,Nat.mul_comm]
theorem AC (m:Nat):∀(n:Nat)(p:Nat×Nat),p.1<=m->(lp m n p).1<=m
 |0,p,h=>h
 |n+1,p,_=>AC m n _ (l6 m _ _)
theorem nB {m:Nat}:∀(L:Nat)(p:Probe),Va m p->∃ n,n<=10*(L+1)/\it m n p=rs m (lp m (L+1) (p.i,p.perturb))
 |0,p,v=>⟨p.more+1,by have:=v.more;omega,gc _ p rfl v⟩
 |L+1,p,v=>by
  have h1:=gc _ p rfl v;have v1:Va m (rs m (leap m p.i p.perturb)):=by rw[<- h1];exact v.it
  obtain⟨n,hn,e⟩:=nB L _ v1;refine⟨p.more+1+n,by have:=v.more;omega,?_⟩;rw[cm,h1,e];rfl
noncomputable def f5 (m i:Nat):Nat:=(i*5+1) % (m+1)
def fN (m:Nat):Nat->Nat->Nat
 |0,i=>i
 |n+1,i=>fN m n (f5 m i)
def vg (m:Nat):Nat->Nat->List Nat
 |0,_=>[]
 |n+1,i=>i::vg m n (f5 m i)
theorem nC (m:Nat):∀(n i k:Nat),k<n->(vg m n i)[k]?=some (fN m k i)
 |n+1,i,0,_=>rfl
 |n+1,i,k+1,h=>nC m n _ k (by omega)
theorem nE (m:Nat):∀(n i:Nat),(vg m n i).length=n
 |0,_=>rfl
 |n+1,i=>by show(vg m n _).length+1=_;rw[nE]
theorem l7 (m:Nat):∀(a b i:Nat),fN m (a+b) i=fN m b (fN m a i)
 |0,b,i=>by rw[JX];rfl
 |a+1,b,i=>by rw[Nat.succ_add];exact l7 m a b _
def Gu (m:Nat):Bool:=((List.range (m+1)).all fun j=>(vg m (m+1) 0).contains j)&&(fN m (m+1) 0==0)
def Msk (m:Nat):Prop:=m=7\/m=31\/m=127\/m=511
theorem qP {m:Nat}(h:Msk m):Gu m=true:=by rcases h with rfl|rfl|rfl|rfl<;>decide +kernel
theorem vh {m j:Nat}(h:Msk m)(hj:j<=m):∃ n,n<=m/\fN m n 0=j:=by have:=qP h;unfold Gu at this;simp only[Ir,Jn]at this;have h1:=this.1 j (IB.mpr (by omega));rw[List.contains_iff_mem,HU]at h1;obtain⟨n,hn⟩:=h1;have hl:=(Hv.mp hn).1;rw[nE]at hl;rw[nC m _ _ _ hl]at hn;exact⟨n,by omega,Iu hn⟩
theorem BH {m i j:Nat}(h:Msk m)(hi:i<=m)(hj:j<=m):∃ n,n<=m/\fN m n i=j:=by
 obtain⟨a,ha,ea⟩:=vh h hi;obtain⟨b,hb,eb⟩:=vh h hj;by_cases hab:a<=b
 .refine⟨b-a,by omega,?_⟩;rw[<- ea,<- l7,show a+(b-a)=b by omega,eb]
 .refine⟨m+1+b-a,by omega,?_⟩;have z:=qP h;unfold Gu at z;simp only[Ir,Lq]at z;rw[<- ea,<- l7,show a+(m+1+b-a)=m+1+b by omega,l7,z.2,eb]
theorem qQ (m:Nat):∀(n i:Nat),lp m n (i,0)=(fN m n i,0)
 |0,_=>rfl
 |n+1,i=>by show lp m n (leap m i 0)=_;have:leap m i 0=(f5 m i,0):=rfl;rw[this];exact qQ m n _
theorem nF {m j:Nat}(h:Msk m)(hj:j<=m)(p:Nat×Nat)(h1:p.1<=m)(h2:p.2<2 ^ 64):∃ n,13<=n/\n<=m+13/\(lp m n p).1=j:=by
 have hp13:(2:Nat) ^ 64<32 ^ 13:=by decide
 have hq:(lp m 13 p).2=0:=by rw[Ei];exact Nat.div_eq_of_lt (by omega)
 obtain⟨n,hn,e⟩:=BH h (AC m 13 p h1) hj;refine⟨13+n,by omega,by omega,?_⟩;rw[ve];have:lp m 13 p=((lp m 13 p).1,0):=by rw[<- hq]
 rw[this,qQ];exact e
theorem AD {m j:Nat}(h:Msk m)(hj:j<=m){p:Probe}(v:Va m p):∃ n,n<10*turns m/\(it m n p).j=j:=by obtain⟨L,h1,h2,e⟩:=nF h hj (p.i,p.perturb) v.i v.q;obtain⟨n,hn,en⟩:=nB (L-1) p v;rw[show L-1+1=L by omega]at en hn;refine⟨n,by unfold turns;omega,?_⟩;rw[en];exact e
def Ris (xs:List Nat):Prop:=xs.Pairwise (·< ·)
theorem jg {xs:Array Nat}{j:Nat}(hr:Ris xs.toList):∀(fuel lo hi:Nat),lo<=hi->hi<=xs.size->hi-lo<=fuel->
 (∀ i (h:i<xs.size),i<lo->xs[i]<j)->(∀ i (h:i<xs.size),hi<=i->j<=xs[i])->
 below.go xs j fuel lo hi<=xs.size/\(∀ i (h:i<xs.size),i<below.go xs j fuel lo hi->xs[i]<j)/\∀ i (h:i<xs.size),below.go xs j fuel lo hi<=i->j<=xs[i]
 |0,lo,hi,h1,h2,h3,h4,h5=>by
  have:lo=hi:=by omega
  subst this;exact⟨h2,h4,h5⟩
 |f+1,lo,hi,h1,h2,h3,h4,h5=>by
  have mono:∀ a b (ha:a<xs.size) (hb:b<xs.size),a<=b->xs[a]<=xs[b]:=by
   intro a b ha hb hab;rcases Nat.lt_or_eq_of_le hab with h|h
   .have:=Ih.mp hr a b (by simpa using ha) (by simpa using hb) h;simpa using IH this
   .subst h;exact HB _
  unfold below.go;by_cases hc:lo<hi
  .rw[Hx hc];have hm:(lo+hi) / 2<xs.size:=by omega
   have eg:xs.getD ((lo+hi) / 2) j=xs[(lo+hi) / 2]:=by simp[Array.getD,hm]
   dsimp only;rw[eg];by_cases hq:xs[(lo+hi) / 2]<j
   .rw[Hx hq];refine jg hr f _ _ (by omega) h2 (by omega) (fun i h hi'=>?_) h5;exact Nat.lt_of_le_of_lt (mono i _ h hm (by omega)) hq
   .rw[Hz hq];refine jg hr f _ _ (by omega) (by omega) (by omega) h4 fun i h hi'=>?_;exact HS (by omega) (mono _ i hm h hi')
  .rw[Hz hc];have:lo=hi:=by omega
   subst this;exact⟨h2,h4,h5⟩
theorem bE {xs:Array Nat}(j:Nat)(hr:Ris xs.toList):below xs j<=xs.size/\(∀ i (h:i<xs.size),i<below xs j->xs[i]<j)/\∀ i (h:i<xs.size),below xs j<=i->j<=xs[i]:=by unfold below;exact jg hr xs.size 0 xs.size (Ij _) (HB _) (by omega) (fun i h z=>by omega) fun i h z=>by omega
theorem vi {xs:Array Nat}{i:Nat}(hr:Ris xs.toList)(h:i<xs.size):below xs xs[i]=i:=by
 obtain⟨a,b,c⟩:=bE xs[i] hr;rcases KD (below xs xs[i]) i with q|q|q
 .have hb:below xs xs[i]<xs.size:=by omega
  have h1:=c (below xs xs[i]) hb (HB _);have h2:=Ih.mp hr _ i (by simpa using hb) (by simpa using h) q;simp at h2;omega
 .exact q
 .have:=b i h q;omega
theorem kT (j:Nat):has #[] j=false:=rfl
structure Tb (t:SetTable):Prop where
 msk:Msk t.mask
 dum:t.dummies=#[]
 ris:Ris t.place.toList
 le:∀ j∈t.place.toList,j<=t.mask
theorem kU {t:SetTable}(h:Tb t){i:Nat}(hi:i<t.place.size):t.slot t.place[i]=.live i:=by unfold slot;dsimp only;rw[vi h.ris hi];rw[Hx];simp[hi]
theorem pE {t:SetTable}(h:Tb t){j:Nat}(hj:j∉t.place.toList):t.slot j=.empty:=by
 unfold slot;dsimp only;rw[Hz,h.dum,kT]
 .rfl
 .intro e;have e:t.place[below t.place j]?=some j:=by simpa using e
  obtain⟨h1,h2⟩:=Ji.mp e;exact hj (by rw[<- h2];simp)
theorem pF {t:SetTable}(h:Tb t)(j:Nat):(j∉t.place.toList/\t.slot j=.empty)\/∃ i,∃ hi:i<t.place.size,t.place[i]=j/\t.slot j=.live i:=by
 by_cases hj:j∈t.place.toList
 .right;obtain⟨i,hi,e⟩:=Kj.mp hj;have hi':i<t.place.size:=by simpa using hi
  have e':t.place[i]=j:=by simpa using e
  exact⟨i,hi',e',by rw[<- e'];exact kU h hi'⟩
 .exact .inl ⟨hj,pE h hj⟩
def Lv (t:SetTable)(j:Nat):Prop:=j∈t.place.toList
inductive PrSpec (t:SetTable) (ha:Nat->Int) (h:Int) (p:Probe):Option Met->Prop
 |em (n:Nat) (e:¬ Lv t (it t.mask n p).j) (b:∀ k,k<n->∃ i,∃ hi:i<t.place.size,t.place[i]=(it t.mask k p).j/\ha i≠h):PrSpec t ha h p (some (.empty (it t.mask n p).j none))
 |ca (n i:Nat) (hi:i<t.place.size) (e:t.place[i]=(it t.mask n p).j) (q:ha i=h) (b:∀ k,k<n->∃ i,∃ hi:i<t.place.size,t.place[i]=(it t.mask k p).j/\ha i≠h) :
  PrSpec t ha h p (some (.candidate (it t.mask n p).j i (it t.mask (n+1) p)))
theorem nG {t:SetTable}(h:Tb t)(ha:Nat->Int)(x:Int):∀(fuel:Nat)(p:Probe),Va t.mask p->(∃ n,n<fuel/\¬ Lv t (it t.mask n p).j)->PrSpec t ha x p (probe.go t ha x fuel p)
 |0,p,v,⟨n,hn,_⟩=>by omega
 |f+1,p,v,⟨n,hn,he⟩=>by
  unfold probe.go;rcases pF h p.j with⟨h1,e⟩|⟨i,hi,h1,e⟩
  .rw[e];dsimp only;have:=PrSpec.em (t:=t) (ha:=ha) (h:=x) (p:=p) 0 h1 fun k hk=>by omega
   rw[v.d];exact this
  .rw[e];dsimp only;by_cases hq:ha i=x
   .rw[Hx (by simpa using hq)];exact PrSpec.ca (t:=t) (ha:=ha) (h:=x) (p:=p) 0 i hi h1 hq fun k hk=>by omega
   .rw[Hz (by simpa using hq),pB];have hn0:n≠0:=by rintro rfl;exact he (by show p.j∈t.place.toList;rw[<- h1];simp)
    have ih:=nG h ha x f (adv t.mask p) v.adv ⟨n-1,by omega,by
     have:it t.mask (n-1) (adv t.mask p)=it t.mask n p:=by show _=it t.mask n p;rw[show n=(n-1)+1 by omega];rfl
     rw[this];exact he⟩
    have shift:∀{nn:Nat},(∀ k,k<nn->∃ i,∃ hi:i<t.place.size,t.place[i]=(it t.mask k (adv t.mask p)).j/\ha i≠x)->∀ k,k<nn+1->∃ i,∃ hi:i<t.place.size,t.place[i]=(it t.mask k p).j/\ha i≠x:=by
     intro nn b k hk;cases k with
     |zero=>exact⟨i,hi,h1,hq⟩
     |succ k=>exact b k (by omega)
    generalize probe.go t ha x f (adv t.mask p)=rr at ih;cases ih with
    |em n' e' b=>exact PrSpec.em (t:=t) (ha:=ha) (h:=x) (p:=p) (n'+1) e' (shift b)
    |ca n' i' hi' e' q' b=>exact PrSpec.ca (t:=t) (ha:=ha) (h:=x) (p:=p) (n'+1) i' hi' e' q' (shift b)
theorem jh:∀(l1 l2:List Nat),l1.Nodup->(∀ x∈l1,x∈l2)->l1.length<=l2.length
 | [],_,_,_=>Ij _
 |a::l1,l2,nd,hs=>by
  have ha:a∈l2:=hs a (HW ..);have ih:=jh l1 (l2.erase a) (JG.mp nd).2 fun x hx=>by have:x≠a:=fun e=>(JG.mp nd).1 (e▸hx);exact(List.mem_erase_of_ne this).mpr (hs x (HV _ hx))
  rw[List.length_erase_of_mem ha]at ih;have:0<l2.length:=List.length_pos_of_mem ha;simp only[IE];omega
theorem ji {t:SetTable}(h:Tb t)(hs:t.place.size<=t.mask):∃ j,j<=t.mask/\¬ Lv t j:=by refine IV fun hn=>?_;have hall:∀ j,j<=t.mask->j∈t.place.toList:=fun j hj=>IV fun z=>hn ⟨j,hj,z⟩;have:=jh (List.range (t.mask+1)) t.place.toList Ko fun j hj=>hall j (by have:=IB.mp hj;omega);simp at this;omega
theorem jj {t:SetTable}(h:Tb t)(hs:t.place.size<=t.mask)(ha:Nat->Int)(x:Int){p:Probe}(v:Va t.mask p):PrSpec t ha x p (t.probe ha x p):=by obtain⟨j,hj,hn⟩:=ji h hs;obtain⟨n,h1,h2⟩:=AD h.msk hj v;unfold probe;exact nG h ha x _ p v ⟨n,h1,by rw[h2];exact hn⟩
def Rea (m:Nat)(lv:Nat->Prop)(h:Int)(j:Nat):Prop:=∃ n,(it m n (st m h)).j=j/\∀ k,k<n->lv (it m k (st m h)).j
theorem Rea.mono {m:Nat}{lv lv':Nat->Prop}{h:Int}{j:Nat}(r:Rea m lv h j)(s:∀ j,lv j->lv' j):Rea m lv' h j:=let ⟨n,e,b⟩:=r;⟨n,e,fun k hk=>s _ (b k hk)⟩
structure Tbl {V:Type} (t:SetTable) (es:Array (Int×V)):Prop where
 tb:Tb t
 len:t.place.size=es.size
 rea:∀ q∈t.place.toList.zip es.toList,Rea t.mask (·∈ t.place.toList) q.2.1 q.1
def fF (t:SetTable):Prop:=t.place.size*5<t.mask*3
theorem insertAt_toList {α:Type}(xs:Array α)(p:Nat)(x:α)(h:p<=xs.size):(insertAt xs p x).toList=xs.toList.take p++x::xs.toList.drop p:=by unfold insertAt;simp[Kk,List.extract_eq_drop_take,IG]
theorem insertAt_size {α:Type}(xs:Array α)(p:Nat)(x:α)(h:p<=xs.size):(insertAt xs p x).size=xs.size+1:=by rw[<- HX,insertAt_toList xs p x h];simp;omega
theorem gd {t:SetTable}(h:Tb t)(j:Nat):(t.put j).1={ t with place:=insertAt t.place (below t.place j) j }:=by unfold put;dsimp only;rw[h.dum];have:has #[] j=false:=kT j;rw[Hz (by rw[this];simp),<- h.dum]
theorem iS (t:SetTable)(j:Nat):(t.put j).2=below t.place j:=rfl
theorem pG {α β:Type}(xs:List α)(ys:List β)(p:Nat)(x:α)(y:β)(h:xs.length=ys.length):(xs.take p++x::xs.drop p).zip (ys.take p++y::ys.drop p)=(xs.zip ys).take p++(x,y)::(xs.zip ys).drop p:=by rw[List.zip_append (by simp[h]),List.zip_cons_cons];simp[List.zip,List.take_zipWith,List.drop_zipWith]
theorem pH {V:Type}{t:SetTable}{es:Array (Int×V)}(h:Tbl t es){j:Nat}(hj:j∉t.place.toList)(hjm:j<=t.mask){hh:Int}{v:V}(r:Rea t.mask (·∈ t.place.toList) hh j) :
 Tbl (t.put j).1 (insertAt es (t.put j).2 (hh,v))/\(t.put j).1.mask=t.mask/\(t.put j).1.place.size=t.place.size+1:=by
 obtain⟨a,b,c⟩:=bE j h.tb.ris;rw[gd h.tb,iS];have ae:below t.place j<=es.size:=by rw[<- h.len];exact a
 have el:=insertAt_toList t.place _ j a;have ee:=insertAt_toList es (below t.place j) (hh,v) ae;have mem:∀ k,k∈(insertAt t.place (below t.place j) j).toList↔k=j\/k∈t.place.toList:=by
  intro k;rw[el,H_,HE];constructor
  .rintro (z|rfl|z)
   .exact .inr (IJ z)
   .exact .inl rfl
   .exact .inr (IM z)
  .rintro (rfl|z)
   .exact .inr (.inl rfl)
   .rw[<- HZ (below t.place j) t.place.toList,H_]at z;exact z.elim .inl fun z=>.inr (.inr z)
 refine⟨⟨⟨h.tb.msk,h.tb.dum,?_,fun k hk=>?_⟩,?_,fun q hq=>?_⟩,rfl,insertAt_size _ _ _ a⟩
 .show Ris (insertAt t.place (below t.place j) j).toList;rw[el];unfold Ris;rw[IY];refine⟨h.tb.ris.sublist (Jy _ _),?_,?_⟩
  .rw[Iw];refine⟨fun k hk=>?_,h.tb.ris.sublist (JR _ _)⟩;obtain⟨i,hi,e⟩:=Kj.mp hk;rw[JB]at hi;have hi2:below t.place j+i<t.place.size:=by simp at hi;omega
   have e2:t.place[below t.place j+i]=k:=by rw[<- e];simp
   have:=c _ hi2 (by omega);rw[e2]at this;have:k≠j:=fun z=>hj (by rw[<- z,<- e2];simp);omega
  .intro k hk l hl;obtain⟨i,hi,e⟩:=Kj.mp hk;rw[Ib]at hi;have hi2:i<t.place.size:=by simp at hi;omega
   have e2:t.place[i]=k:=by rw[<- e];simp
   have l1:=b i hi2 (by omega);rw[e2]at l1;rw[HE]at hl;rcases hl with rfl|hl
   .exact l1
   .obtain⟨i',hi',e'⟩:=Kj.mp hl;rw[JB]at hi';have hi3:below t.place j+i'<t.place.size:=by simp at hi';omega
    have e3:t.place[below t.place j+i']=l:=by rw[<- e'];simp
    have:=c _ hi3 (by omega);rw[e3]at this;omega
 .rcases (mem k).mp hk with rfl|z
  .exact hjm
  .exact h.tb.le k z
 .show(insertAt t.place (below t.place j) j).size=_;rw[insertAt_size _ _ _ a,insertAt_size _ _ _ ae,h.len]
 .have hq:q∈(insertAt t.place (below t.place j) j).toList.zip (insertAt es (below t.place j) (hh,v)).toList:=hq;rw[el,ee,pG _ _ _ _ _ (by simpa using h.len)]at hq;have sub:∀ k,k∈t.place.toList->k∈(insertAt t.place (below t.place j) j).toList:=fun k hk=>(mem k).mpr (.inr hk);rw[H_,HE]at hq;rcases hq with z|rfl|z
  .exact(h.rea q (IJ z)).mono sub
  .exact r.mono sub
  .exact(h.rea q (IM z)).mono sub
def ow (owner:Array (Option Nat))(j:Nat):Prop:=∃ k,owner[j]?=some (some k)
theorem l9 {m:Nat}(i q:Nat):∀ k,k<=runEnd m i-i->it m k (rs m (i,q))={ j:=i+k,more:=runEnd m i-i-k,i:=i,perturb:=q,dummy:=none }
 |0,_=>rfl
 |k+1,h=>by rw[yn,l9 i q k (by omega)];unfold adv;rw[Hx (by dsimp only;omega)];dsimp only;congr 1
theorem kW {m:Nat}{owner:Array (Option Nat)}(hs:owner.size=m+1):∀(fuel i q:Nat),i<=m->q<2 ^ 64->(∃ L,L<fuel/\¬ ow owner (lp m L (i,q)).1)->
 ∃ j,layClean.free m owner fuel i q=some j/\j<=m/\¬ ow owner j/\∃ n,(it m n (rs m (i,q))).j=j/\∀ k,k<n->ow owner (it m k (rs m (i,q))).j
 |0,i,q,_,_,⟨L,h,_⟩=>by omega
 |f+1,i,q,hi,hq,⟨L,hL,hn⟩=>by
  obtain⟨r1,r2⟩:=fT m i hi;have hre:runEnd m i+1-i=(runEnd m i-i)+1:=by
   have:i<=runEnd m i:=by unfold runEnd;split<;>omega
   omega
  have isn:∀ k,k<=runEnd m i-i->((owner.getD (i+k) (some 0)).isNone=true↔¬ ow owner (i+k)):=by
   intro k hk;have hb:i+k<owner.size:=by omega
   have e:owner[i+k]?=some owner[i+k]:=by simp[hb]
   have e2:owner.getD (i+k) (some 0)=owner[i+k]:=by simp[Array.getD,hb]
   unfold ow;rw[e2,e];cases owner[i+k]<;>simp
  unfold layClean.free;cases hf:(List.range (runEnd m i+1-i)).find? fun k=>(owner.getD (i+k) (some 0)).isNone with
  |some k=>
   dsimp only;rw[List.find?_range_eq_some]at hf;obtain⟨h1,h2,h3⟩:=hf;have h2:=IB.mp h2;have hk:k<=runEnd m i-i:=by omega
   refine⟨i+k,rfl,by omega,(isn k hk).mp h1,k,by rw[l9 i q k hk],fun k' hk'=>?_⟩;rw[l9 i q k' (by omega)];have:=h3 k' hk';refine IV fun z=>?_;rw[(isn k' (by omega)).mpr z]at this;simp at this
  |none=>
   dsimp only;rw[List.find?_range_eq_none]at hf;have hrun:∀ k,k<=runEnd m i-i->ow owner (i+k):=by intro k hk;refine IV fun z=>?_;have:=hf k (by omega);rw[(isn k hk).mpr z]at this;simp at this
   have hL0:L≠0:=by rintro rfl;exact hn (hrun 0 (Ij _))
   have ih:=kW hs f (leap m i q).1 (leap m i q).2 (l6 m i q) (by rw[pC];have:=Nat.div_le_self q 32;omega) ⟨L-1,by omega,by
    have:lp m L (i,q)=lp m (L-1) (leap m i q):=by rw[show L=(L-1)+1 by omega];rfl
    rw[this]at hn;exact hn⟩
   obtain⟨j,e,hj,hnj,n,en,hb⟩:=ih;refine⟨j,e,hj,hnj,runEnd m i-i+1+n,?_,fun k hk=>?_⟩
   .rw[cm,gc (runEnd m i-i) (rs m (i,q)) rfl (Va.rs hi hq)];exact en
   .by_cases hk2:k<=runEnd m i-i
    .rw[l9 i q k hk2];exact hrun k hk2
    .have:it m k (rs m (i,q))=it m (k-(runEnd m i-i+1)) (rs m (leap m i q)):=by rw[show k=(runEnd m i-i+1)+(k-(runEnd m i-i+1)) by omega,cm,gc (runEnd m i-i) (rs m (i,q)) rfl (Va.rs hi hq)];congr 1;omega
     rw[this];exact hb _ (by omega)
structure Own (m:Nat) (hs:List Int) (owner:Array (Option Nat)):Prop where
 size:owner.size=m+1
 all:∀ k:Nat,k<hs.length->∃ j:Nat,owner[j]?=some (some k)
 lt:∀ j k:Nat,owner[j]?=some (some k)->k<hs.length
 rea:∀(j k:Nat)(h:Int),owner[j]?=some (some k)->hs[k]?=some h->Rea m (ow owner) h j
 inj:∀ j j' k:Nat,owner[j]?=some (some k)->owner[j']?=some (some k)->j=j'
theorem Own.spare {m:Nat}{hs:List Int}{owner:Array (Option Nat)}(o:Own m hs owner)(hl:hs.length<=m):∃ j,j<=m/\¬ ow owner j:=by
 refine IV fun hn=>?_;have hall:∀ j,j<=m->ow owner j:=fun j hj=>IV fun z=>hn ⟨j,hj,z⟩
 let g:Nat->Nat:=fun j=>((owner[j]?).getD none).getD 0
 have hg:∀ j,j<=m->owner[j]?=some (some (g j)):=fun j hj=>by obtain⟨k,hk⟩:=hall j hj;show owner[j]?=some (some (((owner[j]?).getD none).getD 0));rw[hk];rfl
 have nd:((List.range (m+1)).map g).Nodup:=by unfold List.Nodup;rw[Iq];have:=Ko (n:=m+1);refine Ja (fun{a b} ha hb hab e=>hab ?_) this;have ha:=IB.mp ha;have hb:=IB.mp hb;exact o.inj a b (g a) (hg a (by omega)) (by rw[e];exact hg b (by omega))
 have:=jh _ (List.range hs.length) nd fun x hx=>by obtain⟨j,hj,rfl⟩:=HY.mp hx;have hj:=IB.mp hj;exact IB.mpr (o.lt j _ (hg j (by omega)))
 simp at this;omega
theorem vj {m:Nat}(hm:Msk m){hs:List Int}{owner:Array (Option Nat)}(o:Own m hs owner)(hl:hs.length<=m)(h:Int) :
 ∃ j,layClean.free m owner (turns m) (bits h % (m+1)) (bits h)=some j/\Own m (hs++[h]) (owner.setIfInBounds j (some hs.length)):=by
 obtain⟨j0,hj0,hn0⟩:=o.spare hl;have hi:bits h % (m+1)<=m:=Ld (Nat.mod_lt _ (Nat.succ_pos m));obtain⟨L,l1,l2,el⟩:=nF hm hj0 (bits h % (m+1),bits h) hi (l5 h);obtain⟨j,e,hj,hnj,n,en,hb⟩:=kW o.size (turns m) _ _ hi (l5 h) ⟨L,by unfold turns;omega,by rw[el];exact hn0⟩;refine⟨j,e,?_⟩;have hjb:j<owner.size:=by rw[o.size];omega
 have get:∀ i,(owner.setIfInBounds j (some hs.length))[i]?=if i=j then some (some hs.length) else owner[i]?:=by
  intro i;rw[KU];by_cases hij:j=i
  .subst hij;rw[Hx rfl,Hx hjb,Hx rfl]
  .rw[Hz hij,Hz (fun z=>hij z.symm)]
 have sub:∀ i,ow owner i->ow (owner.setIfInBounds j (some hs.length)) i:=by
  rintro i ⟨k,hk⟩;by_cases hij:i=j
  .exact⟨_,by rw[get,Hx hij]⟩
  .exact⟨k,by rw[get,Hz hij];exact hk⟩
 have inv:∀ i k,(owner.setIfInBounds j (some hs.length))[i]?=some (some k)->(i=j/\k=hs.length)\/(i≠j/\owner[i]?=some (some k)):=by
  intro i k hk;rw[get]at hk;by_cases hij:i=j
  .rw[Hx hij]at hk;exact .inl ⟨hij,by simpa using hk.symm⟩
  .rw[Hz hij]at hk;exact .inr ⟨hij,hk⟩
 refine⟨by rw[Array.size_setIfInBounds,o.size],fun k hk=>?_,fun i k hk=>?_,fun i k h' hk hh=>?_,fun i i' k h1 h2=>?_⟩
 .rw[Ig,Kb]at hk;by_cases hkl:k=hs.length
  .exact⟨j,by rw[get,Hx rfl,hkl]⟩
  .obtain⟨i,hi⟩:=o.all k (by omega);refine⟨i,?_⟩;rw[get,Hz]
   .exact hi
   .rintro rfl;exact hnj ⟨k,hi⟩
 .rw[Ig,Kb];rcases inv i k hk with⟨_,rfl⟩|⟨_,z⟩
  .omega
  .have:=o.lt i k z;omega
 .rcases inv i k hk with⟨rfl,rfl⟩|⟨hij,z⟩
  .rw[HC (HB _),Nat.sub_self]at hh;cases hh;exact⟨n,en,fun k hk=>sub _ (hb k hk)⟩
  .have hkl:=o.lt i k z;rw[HK hkl]at hh;exact(o.rea i k h' z hh).mono sub
 .rcases inv i k h1 with⟨rfl,rfl⟩|⟨hij,z⟩<;>rcases inv i' _ h2 with⟨rfl,e'⟩|⟨hij',z'⟩
  .rfl
  .have:=o.lt _ _ z';omega
  .have:=o.lt _ _ z;omega
  .exact o.inj i i' k z z'
theorem vk {m:Nat}(hm:Msk m):∀(suf pre:List Int)(owner:Array (Option Nat)),Own m pre owner->pre.length+suf.length<=m->
 ∃ owner',suf.foldl (fun acc h=>do
  let (owner,k) <- acc
  let j <- layClean.free m owner (turns m) (bits h % (m+1)) (bits h)
  pure (owner.setIfInBounds j (some k),k+1)) (some (owner,pre.length))=some (owner',pre.length+suf.length)/\Own m (pre++suf) owner'
 | [],pre,owner,o,_=>⟨owner,rfl,by rw[IS];exact o⟩
 |h::suf,pre,owner,o,hl=>by simp only[IE]at hl;obtain⟨j,e,o'⟩:=vj hm o (by omega) h;obtain⟨owner',e2,o2⟩:=vk hm suf (pre++[h]) _ o' (by simp;omega);refine⟨owner',?_,by rw[HH]at o2;exact o2⟩;rw[Jt];show List.foldl _ ((layClean.free m owner (turns m) (bits h % (m+1)) (bits h)).bind fun j=>some (owner.setIfInBounds j (some pre.length),pre.length+1)) suf=_;rw[e];show List.foldl _ (some (owner.setIfInBounds j (some pre.length),pre.length+1)) suf=_;rw[Ig,Kb]at e2;rw[e2];simp only[IE];congr 2;omega
theorem BI {m:Nat}(hm:Msk m)(hs:Array Int)(hl:hs.size<=m):∃ owner,layClean m hs=some owner/\Own m hs.toList owner:=by
 have o0:Own m [] (Array.replicate (m+1) none):=by
  have no:∀ j k:Nat,(Array.replicate (m+1) (none:Option Nat))[j]?=some (some k)->False:=by intro j k h;rw[Array.getElem?_replicate]at h;split at h<;>simp at h
  exact⟨by simp,fun k hk=>by simp at hk,fun j k h=>(no j k h).elim,fun j k _ h=>(no j k h).elim,fun j _ k h=>(no j k h).elim⟩
 obtain⟨owner,e,o⟩:=vk hm hs.toList [] _ o0 (by simpa using hl);refine⟨owner,?_,by simpa using o⟩;unfold layClean;rw[<- Array.foldl_toList];rw[JI]at e;rw[e];rfl
theorem vm {α:Type}(es:Array α):∀(l:List Nat),(∀ k∈l,k<es.size)->(l.filterMap (es[·]?)).length=l.length/\∀ i:Nat,(l.filterMap (es[·]?))[i]?=(l[i]?).bind (es[·]?)
 | [],_=>⟨rfl,fun i=>by simp⟩
 |k::l,h=>by
  have hk:k<es.size:=h k (HW ..);have e:es[k]?=some es[k]:=by simp[hk]
  obtain⟨a,b⟩:=vm es l fun k hk=>h k (HV _ hk);rw[List.filterMap_cons_some e];refine⟨by simp[a],fun i=>?_⟩;cases i with
  |zero=>simp[e]
  |succ i=>simpa using b i
theorem jk (o:Nat->Option Nat):∀ l:List Nat,(l.filterMap fun j=>(o j).map (j,·)).map Prod.fst=l.filter fun j=>(o j).isSome
 | []=>rfl
 |j::l=>by
  rw[Kq,IT];cases e:o j with
  |none=>simpa using jk o l
  |some k=>simpa using jk o l
theorem vn (owner:Array (Option Nat))(m:Nat)(hs:owner.size=m+1)(j k:Nat):(j,k)∈((List.range (m+1)).filterMap fun j=>(owner.getD j none).map (j,·))↔owner[j]?=some (some k):=by
 rw[Kw];constructor
 .rintro⟨a,h1,h2⟩;have h1:=IB.mp h1;have hb:a<owner.size:=by omega
  have e:owner.getD a none=owner[a]:=by simp[Array.getD,hb]
  rw[e]at h2;obtain⟨k',e1,e2⟩:=I0.mp h2;cases e2;rw[show owner[j]?=some owner[j] by simp[hb],e1]
 .intro h;obtain⟨hb,e⟩:=Ji.mp h;refine⟨j,IB.mpr (by omega),?_⟩;have e2:owner.getD j none=owner[j]:=by simp[Array.getD,hb]
  rw[e2,e];rfl
structure Laid {V:Type} (m:Nat) (es es':Array (Int×V)) (t':SetTable):Prop where
 tbl:Tbl t' es'
 mask:t'.mask=m
 size:es'.size=es.size
 mem:∀ x,x∈es'.toList↔x∈es.toList
 pw:∀ R:Int×V->Int×V->Prop,(∀ x y,R x y->R y x)->es.toList.Pairwise R->es'.toList.Pairwise R
theorem nH {V:Type}{m:Nat}(hm:Msk m)(es:Array (Int×V))(hl:es.size<=m)(finger moves:Nat)(led plain:Bool) :
 ∃ t' order,laid m finger moves led plain (es.map (·.1))=some (t',order)/\Laid m es (order.filterMap (es[·]?)) t'/\t'.led=led/\t'.plain=plain/\order.toList.Perm (List.range es.size):=by
 obtain⟨owner,eo,o⟩:=BI hm (es.map (·.1)) (by simpa using hl);have len:(es.map (·.1)).toList.length=es.size:=by simp
 let live:=(List.range (m+1)).filterMap fun j=>(owner.getD j none).map (j,·)
 have lm:∀ j k,(j,k)∈live↔owner[j]?=some (some k):=vn owner m o.size;have ris:Ris (live.map Prod.fst):=by show Ris (((List.range (m+1)).filterMap fun j=>(owner.getD j none).map (j,·)).map Prod.fst);rw[jk];exact List.pairwise_lt_range.sublist (List.filter_sublist)
 have ndS:(live.map Prod.snd).Nodup:=by unfold List.Nodup;unfold Ris at ris;rw[Iq]at ris ⊢;refine Ja (fun{a b} ha hb hab e=>?_) ris;have h1:=(lm a.1 a.2).mp ha;have h2:=(lm b.1 b.2).mp hb;rw[<- e]at h2;have:=o.inj _ _ _ h1 h2;omega
 have lt:∀ k∈live.map Prod.snd,k<es.size:=by
  intro k hk;obtain⟨p,hp,rfl⟩:=HY.mp hk;have:=o.lt p.1 p.2 ((lm p.1 p.2).mp hp)
  rwa [len]at this
 have all:∀ k,k<es.size->k∈live.map Prod.snd:=by intro k hk;obtain⟨j,hj⟩:=o.all k (by rw[len];exact hk);exact HY.mpr ⟨(j,k),(lm j k).mpr hj,rfl⟩
 have ll:live.length=es.size:=by have a:=jh _ (List.range es.size) ndS fun k hk=>IB.mpr (lt k hk);have b:=jh (List.range es.size) (live.map Prod.snd) Ko fun k hk=>all k (IB.mp hk);simp at a b;omega
 obtain⟨f1,f2⟩:=vm es (live.map Prod.snd) lt;refine⟨{ mask:=m,place:=(live.map (·.1)).toArray,dummies:=#[],finger,led,moves,plain },(live.map (·.2)).toArray,?_,?_,rfl,rfl,(List.perm_ext_iff_of_nodup ndS Ko).mpr fun k=>⟨fun h=>IB.mpr (lt k h),fun h=>all k (IB.mp h)⟩⟩
 .unfold laid;rw[eo];rfl
 .have el:((live.map (·.2)).toArray.filterMap (es[·]?)).toList=(live.map Prod.snd).filterMap (es[·]?):=by simp
  have es':((live.map (·.2)).toArray.filterMap (es[·]?)).size=es.size:=by rw[<- HX,el,f1,HA,ll]
  refine⟨⟨⟨hm,rfl,by simpa using ris,fun j hj=>?_⟩,?_,fun q hq=>?_⟩,rfl,es',fun x=>?_,fun R sy pw=>?_⟩
  .have hj:j∈live.map Prod.fst:=by simpa using hj
   obtain⟨p,hp,rfl⟩:=HY.mp hj;obtain⟨hb,_⟩:=Ji.mp ((lm p.1 p.2).mp hp);show p.1<=m;have:=o.size;omega
  .rw[es'];simpa using ll
  .have hq:q∈(live.map Prod.fst).zip ((live.map Prod.snd).filterMap (es[·]?)):=by rw[el]at hq;simpa using hq
   obtain⟨i,hi⟩:=HU.mp hq;rw[Km,f2]at hi;obtain⟨h1,h2⟩:=hi;rw[Ip]at h1 h2;obtain⟨p,hp,e1⟩:=I0.mp h1;rw[hp]at h2;have h2:es[p.2]?=some q.2:=h2;have ho:=(lm p.1 p.2).mp (HU.mpr ⟨i,hp⟩);have hh:(es.map (·.1)).toList[p.2]?=some q.2.1:=by rw[HD,Array.getElem?_map,h2];rfl
   rw[<- e1];refine(o.rea p.1 p.2 q.2.1 ho hh).mono fun j ⟨k,hk⟩=>?_;show j∈(live.map (·.1)).toArray.toList;simpa using ⟨k,(lm j k).mpr hk⟩
  .rw[el];constructor
   .intro hx;obtain⟨k,_,h2⟩:=Kw.mp hx;exact HU.mpr ⟨k,by rw[HD];exact h2⟩
   .intro hx;obtain⟨k,hk⟩:=HU.mp hx;have hb:k<es.size:=by have:=(Hv.mp hk).1;simpa using this
    exact Kw.mpr ⟨k,all k hb,by rw[HD]at hk;exact hk⟩
  .rw[el];rw[Ih];intro a b ha hb hab;have ea:=f2 a;have eb:=f2 b;rw[II ha]at ea;rw[II hb]at eb;rw[f1]at ha hb;rw[II ha]at ea;rw[II hb]at eb;have hne:(live.map Prod.snd)[a]≠(live.map Prod.snd)[b]:=Ih.mp ndS a b ha hb hab;have ea:es[(live.map Prod.snd)[a]]?=some _:=ea.symm;have eb:es[(live.map Prod.snd)[b]]?=some _:=eb.symm;obtain⟨ka,va⟩:=Ji.mp ea;obtain⟨kb,vb⟩:=Ji.mp eb;have P:=Ih.mp pw;rw[<- va,<- vb];rcases Nat.lt_or_gt_of_ne hne with z|z
   .simpa using P _ _ (by simpa using ka) (by simpa using kb) z
   .refine sy _ _ ?_;simpa using P _ _ (by simpa using kb) (by simpa using ka) z
theorem yo {V:Type}{m:Nat}(hm:Msk m)(es:Array (Int×V))(hl:es.size<=m)(finger moves:Nat)(led plain:Bool) :
 ∃ t' order,laid m finger moves led plain (es.map (·.1))=some (t',order)/\Laid m es (order.filterMap (es[·]?)) t'/\t'.led=led/\t'.plain=plain:=by
 obtain⟨t',order,a,b,c,d,_⟩:=nH hm es hl finger moves led plain;exact⟨t',order,a,b,c,d⟩
end ST
namespace ST
open PySem PySem.W PyProof.Rows
noncomputable abbrev Cmp:=Nat->Nat->(Bool->Ls->Prop)->Ls->Prop
def Pm (N:Nat)(p:Array Nat):Prop:=p.toList.Perm (List.range N)
noncomputable def AE (p:Array Nat)(i:Nat):Nat:=p.getD i 0
section
variable {N:Nat}{lt:Nat->Nat->Bool}{cmp:Cmp}{s:Ls}{p:Array Nat}
theorem Pm.size (h:Pm N p):p.size=N:=by have:=h.length_eq;simpa using this
theorem Pm.perm {p':Array Nat}(h:Pm N p)(q:p'.Perm p):Pm N p':=(Array.perm_iff_toList_perm.mp q).trans h
theorem Pm.ne (h:Pm N p){i j:Nat}(hi:i<N)(hj:j<N)(e:i≠j):AE p i≠AE p j:=by
 have nd:p.toList.Nodup:=h.nodup_iff.mpr Ko;have hi':i<p.size:=by rw[h.size];exact hi
 have hj':j<p.size:=by rw[h.size];exact hj
 have gi:p.toList[i]'(by simpa using hi')=AE p i:=by simp[AE,Array.getD,hi']
 have gj:p.toList[j]'(by simpa using hj')=AE p j:=by simp[AE,Array.getD,hj']
 intro z;rcases Nat.lt_or_gt_of_ne e with q|q
 .exact Ih.mp nd i j (by simpa using hi') (by simpa using hj') q (by rw[gi,gj];exact z)
 .exact Ih.mp nd j i (by simpa using hj') (by simpa using hi') q (by rw[gi,gj];exact z.symm)
end
end ST
namespace L2
open PySem PySem.Spec PySem.Calls PyProof.Rows ST
noncomputable abbrev iK (ns:List Int):List Key:=ns.map Sum.inl
section
variable {prog:Lw}{w:World}{A:Ly}{E:Lx->Ls->Prop}{s:Ls}
theorem iT {i:Int}{v:Lx}(h:(ao prog w).is (.inl i) v=true):∃ t,v=.int i t:=by
 rcases aI (show ig (.inl i) v=true from h) with⟨j,t,e,rfl⟩|⟨x,t,e,_⟩
 .cases e;exact⟨t,rfl⟩
 .cases e
theorem items_int:∀{ns:List Int}{vs:List Lx},ItemsAre (ao prog w) (iK ns) vs->∀ v∈vs,∃ i t,v=.int i t
 | [],_,h,v,hv=>by cases h;simp at hv
 |n::ns,_,h,v,hv=>by
  cases h with
  |cons h1 h2=>
   rcases HE.mp hv with rfl|hv
   .obtain⟨t,rfl⟩:=iT h1;exact⟨n,t,rfl⟩
   .exact items_int h2 v hv
theorem BJ {ns:List Int}{b:Addr}{Q:Bool->Ls->Prop}(hk:(tK prog w).is s.heap (iK ns) b)(h:Q true s):wpAny (model prog w) A (hashByValue 8 (.ref b)) Q E s:=by
 have hT:=IsTupleKey.typeIs hk;obtain⟨o,items,n,ho,_,hd,hi⟩:=hk;unfold hashByValue;refine Hs (wpAny_specialOf hT PySem.F.slot_tuple_hash.lookup ?_);dsimp only;refine Hs (wpAny_seqItems ho hd ?_);refine Hs ?_;show wpAny _ _ (forIn items _ _) _ _ s;rw[<- Array.forIn_toList];refine wpAny_forIn_list _ (fun aW r s'=>r.1=none/\s'=s/\∀ v∈aW,∃ i t,v=Value.int i t) _ ?_ ?_ _ _ ⟨rfl,rfl,items_int hi⟩
 .rintro v aW r s' ⟨hr,rfl,hall⟩;obtain⟨i,t,rfl⟩:=hall v HW;refine Hs (Hw ?_);simp only[JE,HP,IQ];exact Hw ⟨rfl,rfl,fun u hu'=>hall u (HV _ hu')⟩
 .rintro⟨r1,r2⟩ s' ⟨hr,rfl,_⟩;simp only at hr;subst hr;exact Hw h
theorem nI {ns:List Int}{b:Addr}{Q:Bool->Ls->Prop}(hk:(tK prog w).is s.heap (iK ns) b)(h:Q false s):wpAny (model prog w) A (ofAClassStatement 8 (.ref b)) Q E s:=by
 have hT:=IsTupleKey.typeIs hk;obtain⟨o,items,n,ho,_,hd,hi⟩:=hk;unfold ofAClassStatement;refine Hs (KI hT ?_);dsimp only;rw[Hx (by decide)];refine Hs (Hw ?_);simp only[JE,HP,IQ];refine Hs (wpAny_seqItems ho hd ?_);refine Hs ?_;show wpAny _ _ (forIn items _ _) _ _ s;rw[<- Array.forIn_toList];refine wpAny_forIn_list _ (fun aW r s'=>r.1=none/\s'=s/\∀ v∈aW,∃ i t,v=Value.int i t) _ ?_ ?_ _ _ ⟨rfl,rfl,items_int hi⟩
 .rintro v aW r s' ⟨hr,rfl,hall⟩;obtain⟨i,t,rfl⟩:=hall v HW;refine Hs (Hw ?_);simp only[HP,IQ];exact Hw ⟨rfl,rfl,fun u hu'=>hall u (HV _ hu')⟩
 .rintro⟨r1,r2⟩ s' ⟨hr,rfl,_⟩;simp only at hr;subst hr;exact Hw h
theorem BK {ns:List Int}{b:Addr}{ys:List Lx}{Q:Bool->Ls->Prop}(hk:(tK prog w).is s.heap (iK ns) b)(hy:∀ y∈ys,∃ ms c,y=.ref c/\(tK prog w).is s.heap (iK ms) c)(h:Q false s):wpAny (model prog w) A (searchCouldBeSeen (.ref b) ys) Q E s:=by
 unfold searchCouldBeSeen;refine Hs ?_;refine wpAny_forIn_list _ (fun aW r s'=>r.1=none/\s'=s/\∀ y∈aW,∃ ms c,y=.ref c/\(tK prog w).is s.heap (iK ms) c) _ ?_ ?_ _ _ ⟨rfl,rfl,hy⟩
 .rintro v aW r s' ⟨hr,rfl,hall⟩;obtain⟨ms,c,rfl,hc⟩:=hall v HW;have fin:∀ u∈aW,∃ ms c,u=Value.ref c/\(tK prog w).is s'.heap (iK ms) c:=fun u hu'=>hall u (HV _ hu');dsimp only;split
  .exact Hw ⟨rfl,rfl,fin⟩
  .refine Hs ((tK prog w).quiet hk ?_);simp only[JE,HP,IQ];refine Hs ((tK prog w).quiet hc ?_);simp only[JE,HP,IQ];refine Hs (nI hk ?_);simp only[HP,IQ];refine Hs (nI hc ?_);simp only[HP,IQ];exact Hw ⟨rfl,rfl,fin⟩
 .rintro⟨r1,r2⟩ s' ⟨hr,rfl,_⟩;simp only at hr;subst hr;exact Hw h
def Gv (prog:Lw)(w:World)(h:Heap)(es:Array (Int×Lx)):Prop:=∀ e∈es.toList,∃ ms c,e=((tK prog w).hash (iK ms),Value.ref c)/\(tK prog w).is h (iK ms) c
theorem yp {m:Nat}(h:Msk m):(m % 2==0)=false:=by rcases h with rfl|rfl|rfl|rfl<;>rfl
theorem Tbl.fits {t:SetTable}{es:Array (Int×Lx)}(T:Tbl t es)(hs:t.place.size<=t.mask):t.fits es.size=true:=by unfold SetTable.fits SetTable.fill;rw[T.tb.dum];simp[T.len]at hs ⊢;exact hs
theorem pI {α:Type}{es:Array α}{i:Nat}{e:α}(h:es[i]?=some e):e∈es.toList:=HU.mpr ⟨i,by rw[HD];exact h⟩
theorem kX {a b:Addr}{o:Obj}{es:Array (Int×Lx)}{ep:Nat}{t:SetTable}{ns:List Int}{Q:SetFound->Ls->Prop}(ho:s.heap.get? a=some o)(hd:o.data=.set es ep t)(T:Tbl t es)(hs:t.place.size<=t.mask)
 (hu:A.units<cLine) (hk:(tK prog w).is s.heap (iK ns) b) (el:Gv prog w s.heap es)
 (h1:(∃ e∈es.toList,∃ c,e.2=.ref c/\(tK prog w).is s.heap (iK ns) c)->Q (.there none) s)
 (h2:(∀ e∈es.toList,∀ c,e.2=.ref c->¬ (tK prog w).is s.heap (iK ns) c)->∀ j,j∉t.place.toList->j<=t.mask->Rea t.mask (·∈ t.place.toList) ((tK prog w).hash (iK ns)) j->Q (.free j false) s) :
 ∀(fuel n:Nat)(stand:Option SetTable.Probe),stand.getD (t.probeStart ((tK prog w).hash (iK ns)))=it t.mask n (st t.mask ((tK prog w).hash (iK ns)))->
  (∀ k,k<n->∃ i e,∃ hi:i<t.place.size,t.place[i]=(it t.mask k (st t.mask ((tK prog w).hash (iK ns)))).j/\es[i]?=some e/\∀ c,e.2=.ref c->¬ (tK prog w).is s.heap (iK ns) c)->
  (∃ N,n<=N/\N<n+fuel/\(it t.mask N (st t.mask ((tK prog w).hash (iK ns)))).j∉t.place.toList)->
  wpAny (model prog w) A (setSearchFrom a (.ref b) ((tK prog w).hash (iK ns)) true fuel stand) Q E s
 |0,n,stand,_,_,⟨N,x1,x2,_⟩=>by omega
 |fuel+1,n,stand,e1,e2,⟨N,x1,x2,x3⟩=>by
  have v0:Va t.mask (it t.mask n (st t.mask ((tK prog w).hash (iK ns)))):=(Va.st _ _).it;have sp:=jj T.tb hs (fun i=>(es[i]?.map (·.1)).getD 0) ((tK prog w).hash (iK ns)) v0;have at_:∀ i,i<t.place.size->∃ e,es[i]?=some e:=fun i hi=>⟨es[i]'(by rw[<- T.len];exact hi),by simp[T.len▸hi]⟩;unfold setSearchFrom;refine Hs (IW ho hd (Tbl.fits T hs) ?_);dsimp only;have hg:t.gaveWay=false:=yp T.tb.msk;rw[hg];simp only[HP,IQ];rw[e1];have pre:∀{nn:Nat},(∀ k,k<nn->∃ i,∃ hi:i<t.place.size,t.place[i]=(it t.mask k (it t.mask n (st t.mask ((tK prog w).hash (iK ns))))).j/\(es[i]?.map (·.1)).getD 0≠(tK prog w).hash (iK ns))->
   ∀ k,k<n+nn->∃ i e,∃ hi:i<t.place.size,t.place[i]=(it t.mask k (st t.mask ((tK prog w).hash (iK ns)))).j/\es[i]?=some e/\∀ c,e.2=.ref c->¬ (tK prog w).is s.heap (iK ns) c:=by
   intro nn hb k hk';by_cases hkn:k<n
   .exact e2 k hkn
   .obtain⟨i,hi,q1,q2⟩:=hb (k-n) (by omega);obtain⟨e,he⟩:=at_ i hi;refine⟨i,e,hi,?_,he,fun c hc his=>q2 ?_⟩
    .rw[q1,<- cm,show n+(k-n)=k by omega]
    .obtain⟨ms,c',rfl,his'⟩:=el e (pI he);have hc':c'=c:=by injection hc
     subst hc';rw[he];show(tK prog w).hash (iK ms)=_;rw[(tK prog w).inj his' his]
  generalize hq0:t.probe _ _ (it t.mask n (st t.mask ((tK prog w).hash (iK ns))))=pr;have hpr:t.probe (fun i=>(es[i]?.map (·.1)).getD 0) ((tK prog w).hash (iK ns)) (it t.mask n (st t.mask ((tK prog w).hash (iK ns))))=pr:=hq0;rw[hpr]at sp;clear hpr hq0;cases sp with
  |em nn hem hb=>
   dsimp only;refine Hw (h2 ?_ _ hem (v0.it).jle ?_)
   .intro e he c hc his;obtain⟨i,hi⟩:=HU.mp he;rw[HD]at hi;have hil:i<t.place.size:=by rw[T.len];exact(Ji.mp hi).1
    obtain⟨ms,c',rfl,his'⟩:=el e he;have hc':c'=c:=by injection hc
    subst hc';have ek:=(tK prog w).inj his' his;have hz:(t.place[i],((tK prog w).hash (iK ms),Value.ref c'))∈t.place.toList.zip es.toList:=HU.mpr ⟨i,by rw[Km];exact⟨by simp[hil],by rw[HD];exact hi⟩⟩;obtain⟨m,em,eb⟩:=T.rea _ hz;have em:(it t.mask m (st t.mask ((tK prog w).hash (iK ms)))).j=t.place[i]:=em;rw[ek]at em eb;have hm:m<n+nn:=by
     rcases KD m (n+nn) with q|q|q
     .exact q
     .exfalso;refine hem ?_;show(it t.mask nn (it t.mask n _)).j∈t.place.toList;rw[<- cm,<- q,em];simp
     .exfalso;refine hem ?_;show(it t.mask nn (it t.mask n _)).j∈t.place.toList;rw[<- cm];exact eb _ q
    obtain⟨i',e',hi',q1,q2,q3⟩:=pre hb m hm;have hii:i'=i:=by
     have:t.place[i']=t.place[i]:=q1.trans em;rcases KD i' i with q|q|q
     .have:=Ih.mp T.tb.ris i' i (by simpa using hi') (by simpa using hil) q;simp at this;omega
     .exact q
     .have:=Ih.mp T.tb.ris i i' (by simpa using hil) (by simpa using hi') q;simp at this;omega
    subst hii;rw[hi]at q2;cases q2;exact q3 c' rfl his
   .refine⟨n+nn,by rw[cm],fun k hk'=>?_⟩;obtain⟨i,e,hi,q1,_⟩:=pre hb k hk';show _∈t.place.toList;rw[<- q1];simp
  |ca nn i hi hij hq hb=>
   dsimp only;obtain⟨e,he⟩:=at_ i hi;obtain⟨ms,c,rfl,his⟩:=el e (pI he);have aW:wpAny (model prog w) A (do
    let some (_,y):=es[i]?|unsupported "internal:set-entry"
    let equal <- holding [y] (eqBool y (.ref b))
    let (es',_,t') <- setState a
    if true&&equal then return SetFound.there none
    let some same:=t'.sameMemory t.moves t.mask|unsupported "set.changed-during-lookup:is-the-new-block-at-the-old-address"
    let still <- match (if same then t'.slot (it t.mask nn (it t.mask n (st t.mask ((tK prog w).hash (iK ns))))).j else .empty) with
     | .live i'=>match es'[i']? with
      |some (_,y')=>do pure (if <- isSame y' y then some i' else none)
      |none=>pure none
     |_=>pure none
    match still with
    |none=>rule "set.search.anew";setSearchFrom a (.ref b) ((tK prog w).hash (iK ns)) true fuel none
    |some i'=>if equal then return .there (some i') else setSearchFrom a (.ref b) ((tK prog w).hash (iK ns)) true fuel (some (it t.mask (nn+1) (it t.mask n (st t.mask ((tK prog w).hash (iK ns))))))) Q E s:=by
    rw[he];dsimp only;refine Hs (Iz ((tK prog w).eqBool hu his hk ?_));refine Hs (IW ho hd (Tbl.fits T hs) ?_);dsimp only;by_cases hkk:iK ms=iK ns
    .rw[HG hkk];simp only[Lj,JJ];exact Hw (h1 ⟨_,pI he,c,rfl,by rw[<- hkk];exact his⟩)
    .rw[HF hkk];simp only[K9,HP,IQ];have hsm:t.sameMemory t.moves t.mask=some true:=by unfold SetTable.sameMemory;simp
     rw[hsm];dsimp only;rw[Hx rfl,<- hij,kU T.tb hi];dsimp only;rw[he];dsimp only;refine Hs (wpAny_isSame_ref_self ?_);refine Hs (Hw ?_);rw[Hx rfl]
     try dsimp only
     refine kX ho hd T hs hu hk el h1 h2 fuel (n+(nn+1)) _ ?_ ?_ ⟨N,?_,?_,x3⟩
     .exact(cm t.mask n (nn+1) _).symm
     .intro k hk';by_cases hkn:k<n+nn
      .exact pre hb k hkn
      .have:k=n+nn:=by omega
       subst this;refine⟨i,_,hi,by rw[hij,cm],he,fun c' hc' hh=>hkk ?_⟩;have:c=c':=by injection hc'
       subst this;exact(tK prog w).inj his hh
     .refine IV fun hc=>?_;have hN:N<n+(nn+1):=by omega
      by_cases hNn:N<n+nn
      .obtain⟨i',e',hi',q1,_⟩:=pre hb N hNn;exact x3 (by rw[<- q1];simp)
      .have:N=n+nn:=by omega
       subst this;exact x3 (by rw[cm,<- hij];simp)
     .omega
   split
   .refine Hs (BK hk ?_ ?_)
    .intro y hy;obtain⟨e',he',rfl⟩:=HY.mp hy;have he2:e'∈es.toList:=by have:=(Array.mem_toList_iff).mp he';rw[Array.mem_filter]at this;exact Array.mem_toList_iff.mpr this.1
     obtain⟨ms',c',rfl,his'⟩:=el e' he2;exact⟨ms',c',rfl,his'⟩
    .simp only[HP,IQ];exact aW
   .exact aW
end
noncomputable def byT (w:World):Bool:=w.params.followText "set-order"
def SetAt (w:World)(h:Heap)(a:Addr)(es:Array (Int×Lx)):Prop:=∃ o ep t,h.get? a=some o/\o.ExactSet/\o.data=.set es ep t/\Tbl t es/\fF t/\t.plain=true/\t.led=!byT w
theorem SetAt.keep {w:World}{h h':Heap}{a:Addr}{es:Array (Int×Lx)}(x:SetAt w h a es)(k:∀ o,h.get? a=some o->h'.get? a=some o):SetAt w h' a es:=let ⟨o,ep,t,e,r⟩:=x;⟨o,ep,t,k o e,r⟩
theorem cE {t:SetTable}(h:fF t):t.place.size<=t.mask:=by unfold fF at h;omega
section
variable {prog:Lw}{w:World}{A:Ly}{E:Lx->Ls->Prop}{s:Ls}
structure Grown (es es':Array (Int×Lx)) (x:Int×Lx):Prop where
 mem:∀ y,y∈es'.toList↔y=x\/y∈es.toList
 pw:∀ R:Int×Lx->Int×Lx->Prop,(∀ x y,R x y->R y x)->es.toList.Pairwise R->(∀ e∈es.toList,R e x)->es'.toList.Pairwise R
 size:es'.size=es.size+1
theorem kY (es:Array (Int×Lx))(p:Nat)(x:Int×Lx)(hp:p<=es.size):Grown es (SetTable.insertAt es p x) x:=by
 have e:=ST.insertAt_toList es p x hp;refine⟨fun y=>?_,fun R sy pw hx=>?_,ST.insertAt_size es p x hp⟩
 .rw[e,H_,HE];constructor
  .rintro (z|rfl|z)
   .exact .inr (IJ z)
   .exact .inl rfl
   .exact .inr (IM z)
  .rintro (rfl|z)
   .exact .inr (.inl rfl)
   .rw[<- HZ p es.toList,H_]at z;exact z.elim .inl fun z=>.inr (.inr z)
 .rw[e,IY];rw[<- HZ p es.toList,IY]at pw;obtain⟨p1,p2,p3⟩:=pw;refine⟨p1,?_,?_⟩
  .rw[Iw];exact⟨fun y hy=>sy _ _ (hx y (IM hy)),p2⟩
  .intro y hy z hz;rcases HE.mp hz with rfl|hz
   .exact hx y (IJ hy)
   .exact p3 y hy z hz
theorem Grown.laid {es es1 es2:Array (Int×Lx)}{x:Int×Lx}{m:Nat}{t:SetTable}(g:Grown es es1 x)(l:Laid m es1 es2 t):Grown es es2 x:=⟨fun y=>(l.mem y).trans (g.mem y),fun R sy pw hx=>l.pw R sy (g.pw R sy pw hx),by rw[l.size,g.size]⟩
theorem ff {a:Addr}{o:Obj}{es:Array (Int×Lx)}{ep:Nat}{t:SetTable}(es':Array (Int×Lx))(t':SetTable){h:Heap}(ho:h.get? a=some o)(hex:o.ExactSet)(hd:o.data=.set es ep t) :
 ∃ o',(h.update a (Obj.putSet es' t')).get? a=some o'/\o'.ExactSet/\o'.data=.set es' (ep+1) t':=by
 have:=Jp (Obj.putSet es' t') ho (by rw[putSet_of es' t' hd];rfl);rw[putSet_of es' t' hd]at this;exact⟨_,this,hex,rfl⟩
theorem jl {t:SetTable}{n:Nat}(h:Msk t.mask)(h1:n*5<t.mask*3)(h2:(n+1)*5>=t.mask*3)(h3:n+1<=300):∃ m,SetTable.sizeAbove (SetTable.grown (n+1))=m+1/\Msk m/\(n+1)*5<m*3:=by
 rcases h with e|e|e|e<;>rw[e]at h1 h2
 .have:n=4:=by omega
  subst this;exact⟨31,by decide,.inr (.inl rfl),by omega⟩
 .have:n=18:=by omega
  subst this;exact⟨127,by decide,.inr (.inr (.inl rfl)),by omega⟩
 .have:n=76:=by omega
  subst this;exact⟨511,by decide,.inr (.inr (.inr rfl)),by omega⟩
 .omega
theorem vo {a:Addr}{o:Obj}{es:Array (Int×Lx)}{ep:Nat}{t:SetTable}{n m:Nat}{Q:Unit->Ls->Prop}(ho:s.heap.get? a=some o)(hex:o.ExactSet)(hd:o.data=.set es ep t)(hf:t.fits es.size=true)(hm:Msk m)(hn:SetTable.sizeAbove n=m+1)(hl:es.size*5<m*3)(hpl:t.plain=true)(hle:t.led=!byT w)
 (h:∀ es' t',Laid m es es' t'->SetAt w (s.heap.update a (Obj.putSet es' t')) a es'->Q () { s with heap:=s.heap.update a (Obj.putSet es' t') }):wpAny (model prog w) A (setRelay a n) Q E s:=by
 have hmb:m<=511:=by rcases hm with rfl|rfl|rfl|rfl<;>omega
 unfold setRelay;refine Hs (IW ho hd hf ?_);dsimp only;rw[Hz (by rw[hn,Iy];omega)];obtain⟨t',order,e,L,hlp,hp⟩:=yo hm es (by omega) t.finger (t.movedTo m) t.led t.plain;have er:t.relaid (es.map (·.1)) n=some (t',order):=by unfold SetTable.relaid;rw[hn];exact e
 rw[er];show wpAny _ _ (do
  let r <- (do
   if (order.filterMap (es[·]?)).size != es.size then unsupported "internal:set-table-lost-an-element"
   pure (order.filterMap (es[·]?),t'):Sem (Array (Int×Lx)×SetTable))
  storeSet a r.1 r.2) _ _ _
 refine Hs ?_;rw[Hz (by rw[L.size];simp)];refine Hw ?_;refine KE ho hd ?_ (by show(order.filterMap (es[·]?)).size<=_;rw[L.size,Iy];omega);obtain⟨o',g1,g2,g3⟩:=ff (order.filterMap (es[·]?)) t' ho hex hd;refine h _ t' L ⟨o',_,t',g1,g2,g3,L.tbl,?_,by rw[hp];exact hpl,by rw[hlp];exact hle⟩;unfold fF;rw[L.tbl.len,L.size,L.mask];exact hl
theorem vp {t:SetTable}{es:Array (Int×Lx)}(T:Tbl t es)(hs:t.place.size<=t.mask)(h:Int):∃ N,N<100000/\(it t.mask N (st t.mask h)).j∉t.place.toList:=by
 obtain⟨j,hj,hn⟩:=ji T.tb hs;obtain⟨N,h1,h2⟩:=AD T.tb.msk hj (Va.st t.mask h);refine⟨N,?_,by rw[h2];exact hn⟩;have:t.mask<=511:=by rcases T.tb.msk with e|e|e|e<;>rw[e]<;>omega
 unfold SetTable.turns at h1;omega
theorem BL {a b:Addr}{es:Array (Int×Lx)}{ns:List Int}{Q:Bool->Ls->Prop}(hu:A.units<cLine)(hk:(tK prog w).is s.heap (iK ns) b)(hS:SetAt w s.heap a es)(el:Gv prog w s.heap es)(hz:es.size+1<=300)
 (h1:∀ tk,s.toks<=tk->(∃ e∈es.toList,∃ c,e.2=.ref c/\(tK prog w).is s.heap (iK ns) c)->Q false { s with toks:=tk })
 (h2:∀ tk h' es',s.toks<=tk->(∀ e∈es.toList,∀ c,e.2=.ref c->¬ (tK prog w).is s.heap (iK ns) c)->Heap.SameBut a s.heap h'->SetAt w h' a es'->Grown es es' ((tK prog w).hash (iK ns),.ref b)->Q true { s with heap:=h',toks:=tk }) :
 wpAny (model prog w) A (setAdd a (.ref b)) Q E s:=by
 obtain⟨o,ep,t,ho,hex,hd,T,sp,hpl,hle⟩:=hS;have hf:=Tbl.fits T (cE sp);unfold setAdd;refine Iz ?_;refine Hs ((tK prog w).pyHash hu hk ?_);have htk:s.toks<=s.toks+(tK prog w).draws (iK ns):=Nat.le_add_right _ _;generalize s.toks+(tK prog w).draws (iK ns)=tk at htk;unfold setAddHashed setAddHashedIn;refine Iz ?_;refine Hs (IW (s:={ s with toks:=tk }) ho hd hf ?_);dsimp only;have hbs:byScan (.ref b) es=false:=by simp[byScan,Value.scannable]
 rw[hbs];simp only[HP,IQ];unfold setSearch;obtain⟨N,n1,n2⟩:=vp T (cE sp) ((tK prog w).hash (iK ns));refine Hs (kX (s:={ s with toks:=tk }) ho hd T (cE sp) hu hk el (fun hin=>?_) (fun hout j hj hjm hr=>?_) 100000 0 none rfl (fun k hk'=>by omega) ⟨N,Ij _,by omega,n2⟩)
 .exact Hw (h1 tk htk hin)
 .dsimp only;refine Hs (IW (s:={ s with toks:=tk }) ho hd hf ?_);dsimp only;obtain⟨T',em,ez⟩:=pH T hj hjm (v:=Value.ref b) hr;have hpl':(t.put j).1.plain=true:=by rw[gd T.tb];exact hpl
  have hle':(t.put j).1.led=!byT w:=by rw[gd T.tb];exact hle
  rw[hpl'];simp only[JJ];refine Hs (BJ (s:={ s with toks:=tk }) hk ?_);simp only[JJ];have hp:(t.put j).2<=es.size:=by rw[iS,<- T.len];exact(bE j T.tb.ris).1
  have g:=kY es (t.put j).2 ((tK prog w).hash (iK ns),Value.ref b) hp;refine Hs (KE (s:={ s with toks:=tk }) ho hd ?_ (by rw[g.size,Iy];omega));obtain⟨o1,q1,q2,q3⟩:=ff (SetTable.insertAt es (t.put j).2 ((tK prog w).hash (iK ns),Value.ref b)) (t.put j).1 ho hex hd;have sb:=IR s.heap a (Obj.putSet (SetTable.insertAt es (t.put j).2 ((tK prog w).hash (iK ns),Value.ref b)) (t.put j).1);have fill:(t.put j).1.fill=es.size+1:=by unfold SetTable.fill;rw[T'.tb.dum,ez,T.len];rfl
  by_cases hfull:(t.put j).1.tooFull=true
  .rw[hfull];simp only[Bool.not_false,Lj,JJ];unfold SetTable.tooFull at hfull;rw[fill,em]at hfull;have hfull:(es.size+1)*5>=t.mask*3:=by simpa using hfull
   have sp':es.size*5<t.mask*3:=by rw[<- T.len];exact sp
   obtain⟨m,m1,m2,m3⟩:=jl T.tb.msk sp' hfull hz;have le':(t.put j).1.place.size<=(t.put j).1.mask:=by
    rw[ez,em];unfold fF at sp;have:t.mask>=7:=by rcases T.tb.msk with e|e|e|e<;>rw[e]<;>omega
    omega
   refine Hs (vo (s:={ s with heap:=s.heap.update a (Obj.putSet (SetTable.insertAt es (t.put j).2 ((tK prog w).hash (iK ns),Value.ref b)) (t.put j).1),toks:=tk }) q1 q2 q3 (Tbl.fits T' le') m2 m1 (by rw[g.size];exact m3) hpl' hle' fun es' t' L sa=>?_);exact Hw (h2 tk _ es' htk hout (sb.trans (IR _ a _)) sa (g.laid L))
  .have hfull:(t.put j).1.tooFull=false:=by simpa using hfull
   rw[hfull];simp only[K9,HP,IQ];refine Hw (h2 tk _ _ htk hout sb ⟨o1,_,_,q1,q2,q3,T',?_,hpl',hle'⟩ g);unfold SetTable.tooFull at hfull;unfold fF;rw[fill]at hfull;rw[ez,T.len];simpa using hfull
end
noncomputable abbrev TItem:=List Int×Addr
theorem pJ {a b:List Int}(h:iK a=iK b):a=b:=by
 induction a generalizing b with
 |nil=>cases b with
  |nil=>rfl
  |cons _ _=>cases h
 |cons x a ih=>cases b with
  |nil=>cases h
  |cons y b=>simp only[iK,HL,K0]at h;rw[J9 h.1,ih h.2]
section
variable {prog:Lw}{w:World}
structure SInv (prog:Lw) (w:World) (es:Array (Int×Lx)) (xs:List TItem):Prop where
 el:∀ e∈es.toList,∃ x∈xs,e=((tK prog w).hash (iK x.1),Value.ref x.2)
 sz:es.size<=xs.length
 pw:es.toList.Pairwise fun e e'=>∀ x x':TItem,e=((tK prog w).hash (iK x.1),Value.ref x.2)->e'=((tK prog w).hash (iK x'.1),Value.ref x'.2)->x∈xs->x'∈xs->x.1≠x'.1
 all:∀ x∈xs,∃ y∈xs,y.1=x.1/\((tK prog w).hash (iK y.1),Value.ref y.2)∈es.toList
variable {A:Ly}{R:Result->Ls->Prop}{I:Addr}{fp wr:List Addr}{G:Array GenState->Array GenState->Prop}{n:Nat}{P:Nat->Lx->Prop}{St:Nat->Ls->Prop}
theorem SInv.els {hb h:Heap}{es:Array (Int×Lx)}{xs:List TItem}(v:SInv prog w es xs)(hx:∀ x∈xs,(tK prog w).is hb (iK x.1) x.2)(K:∀ b o,hb.get? b=some o->h.get? b=some o):Gv prog w h es:=fun e he=>by obtain⟨x,h1,rfl⟩:=v.el e he;exact⟨x.1,x.2,rfl,e_ (hx x h1) K⟩
def FO (xs:List TItem):Prop:=∀ x∈xs,∀ y∈xs,x.2=y.2->x.1=y.1
theorem SInv.seen {es:Array (Int×Lx)}{xs:List TItem}{x:TItem}(v:SInv prog w es xs)(hin:∃ y∈xs,y.1=x.1)(un:FO (xs++[x])):SInv prog w es (xs++[x]):=by
 refine⟨fun e he=>?_,?_,?_,fun y hy=>?_⟩
 .obtain⟨z,h1,h2⟩:=v.el e he;exact⟨z,Ia _ h1,h2⟩
 .have:=v.sz;simp;omega
 .refine Ja (fun{a b} ha hb hab z z' e1 e2 m1 m2=>?_) v.pw;obtain⟨y,y1,y2⟩:=v.el a ha;obtain⟨y',y1',y2'⟩:=v.el b hb;have q1:z.2=y.2:=by rw[e1]at y2;simp only[Kf,JS]at y2;exact y2.2
  have q2:z'.2=y'.2:=by rw[e2]at y2';simp only[Kf,JS]at y2';exact y2'.2
  rw[un z m1 y (Ia _ y1) q1,un z' m2 y' (Ia _ y1') q2];exact hab y y' y2 y2' y1 y1'
 .rcases H_.mp hy with hy|hy
  .obtain⟨z,h1,h2⟩:=v.all y hy;exact⟨z,Ia _ h1,h2⟩
  .rw[IK]at hy;subst hy;obtain⟨y',h1,h2⟩:=hin;obtain⟨z,g1,g2,g3⟩:=v.all y' h1;exact⟨z,Ia _ g1,g2.trans h2,g3⟩
theorem SInv.new {es es':Array (Int×Lx)}{xs:List TItem}{x:TItem}(v:SInv prog w es xs)(hin:¬ ∃ y∈xs,y.1=x.1)(un:FO (xs++[x]))(g:Grown es es' ((tK prog w).hash (iK x.1),.ref x.2)):SInv prog w es' (xs++[x]):=by
 have hx:x∈xs++[x]:=Im _ (IK.mpr rfl);refine⟨fun e he=>?_,?_,?_,fun y hy=>?_⟩
 .rcases (g.mem e).mp he with rfl|he
  .exact⟨x,hx,rfl⟩
  .obtain⟨z,h1,h2⟩:=v.el e he;exact⟨z,Ia _ h1,h2⟩
 .have:=v.sz;rw[g.size];simp;omega
 .refine g.pw _ (fun a b hab z z' e1 e2 m1 m2 h=>hab z' z e2 e1 m2 m1 h.symm) ?_ ?_
  .refine Ja (fun{a b} ha hb hab z z' e1 e2 m1 m2=>?_) v.pw;obtain⟨y,y1,y2⟩:=v.el a ha;obtain⟨y',y1',y2'⟩:=v.el b hb;have q1:z.2=y.2:=by rw[e1]at y2;simp only[Kf,JS]at y2;exact y2.2
   have q2:z'.2=y'.2:=by rw[e2]at y2';simp only[Kf,JS]at y2';exact y2'.2
   rw[un z m1 y (Ia _ y1) q1,un z' m2 y' (Ia _ y1') q2];exact hab y y' y2 y2' y1 y1'
  .intro e he z z' e1 e2 m1 m2 h;obtain⟨y,y1,y2⟩:=v.el e he;have q1:z.2=y.2:=by rw[e1]at y2;simp only[Kf,JS]at y2;exact y2.2
   have q2:z'.2=x.2:=by simp only[Kf,JS]at e2;exact e2.2.symm
   have a1:=un z m1 y (Ia _ y1) q1;have a2:=un z' m2 x hx q2;exact hin ⟨y,y1,by rw[<- a1,<- a2];exact h⟩
 .rcases H_.mp hy with hy|hy
  .obtain⟨z,h1,h2,h3⟩:=v.all y hy;exact⟨z,Ia _ h1,h2,(g.mem _).mpr (.inr h3)⟩
  .rw[IK]at hy;subst hy;exact⟨y,hx,rfl,(g.mem _).mpr (.inl rfl)⟩
theorem gf (W:WalksS prog w A.in1 I fp wr G n P St)(S:Addr)(hSf:S∉fp)(hu:A.in1.units<cLine)(hb:Heap)(hbS:hb.get? S=none)(hbw:∀ b∈wr,hb.get? b=none)(its:List TItem)(hn:its.length=n)
 (hval:∀ i v,P i v->∃ x,its[i]?=some x/\v=.ref x.2) (his:∀ x∈its,(tK prog w).is hb (iK x.1) x.2) (hz:n<=300) :
 ∀(k i:Nat)(s:Ls)(es:Array (Int×Lx)),n-i=k->i<=n->St i s->(∀ b o,hb.get? b=some o->s.heap.get? b=some o)->SetAt w s.heap S es->SInv prog w es (its.take i)->
  (∀ s' es',Moved (S::wr) G s s'->SetAt w s'.heap S es'->SInv prog w es' its->R (.ok (.ret .none)) s')->
  codeAny (model prog w) A (.builtin "set.update.loop" ⟨[.ref S,.ref I],[]⟩) R s:=by
 have hSw:S∉wr:=fun h=>hSf (W.sub _ h);have hsub:∀ b∈wr,b∈S::wr:=fun b hb=>HV _ hb;have uni:FO its:=fun x hx y hy e=>pJ ((tK prog w).inj (his x hx) (by rw[e];exact his y hy));intro k;induction k with
 |zero=>
  intro i s es hk hi hst K hS v hR;have hin:i=n:=by omega
  subst hin;refine Jj Jk ?_;rw[JD Ii _];show wpAny _ A.in1 (pyNext (.ref I) >>= _) _ _ s;refine Hs (W.done s _ _ hst fun s' hm=>?_);have v':SInv prog w es its:=by rw[IG (by omega)]at v;exact v
  have hR':=hR s' es (hm.mono hsub) (hS.keep fun o e=>hm.heap S o hSw e) v';show wpAny _ A.in1 (ret Value.none) _ _ s';exact Hw hR'
 |succ k ih=>
  intro i s es hk hi hst K hS v hR;have hlt:i<n:=by omega
  have htk:its.take (i+1)=its.take i++[its[i]'(by omega)]:=by rw[List.take_append_getElem]
  refine Jj Jk ?_;rw[JD Ii _];show wpAny _ A.in1 (pyNext (.ref I) >>= _) _ _ s;refine Hs (W.item i s _ _ hlt hst fun u s' hP hst' hm=>?_);obtain⟨x,hx,rfl⟩:=hval i u hP;have hxe:its[i]'(by omega)=x:=by rw[II (by omega)]at hx;exact Iu hx
  have hxm:x∈its:=Jv hx;rw[hxe]at htk;have sub:∀ y∈its.take i++[x],y∈its:=by rw[<- htk];exact fun y hy=>IJ hy
  have un:FO (its.take i++[x]):=fun y hy z hz=>uni y (sub y hy) z (sub z hz);have K':∀ b o,hb.get? b=some o->s'.heap.get? b=some o:=fun b o e=>hm.heap b o (fun z=>by rw[hbw b z]at e;cases e) (K b o e);have hS':=hS.keep fun o e=>hm.heap S o hSw e;have hx':∀ y∈its.take i,(tK prog w).is hb (iK y.1) y.2:=fun y hy=>his y (IJ hy);have el:=v.els hx' K';have hes:es.size+1<=300:=by have:=v.sz;rw[Ib]at this;omega
  show wpAny _ A.in1 (holding [Value.ref x.2] (setAdd S (.ref x.2)) >>= _) _ _ s';refine Hs (Iz ?_);have keyed:∀ e∈es.toList,∀ c,e.2=.ref c->(tK prog w).is s'.heap (iK x.1) c->∃ y∈its.take i,y.1=x.1:=fun e he c hc hh=>by
   obtain⟨y,y1,y2⟩:=v.el e he;have:c=y.2:=by rw[y2]at hc;injection hc with hc;exact hc.symm
   subst this;exact⟨y,y1,pJ ((tK prog w).inj (e_ (hx' y y1) K') hh)⟩
  refine BL hu (e_ (his x hxm) K') hS' el hes (fun tk htk' hin=>?_) fun tk h' es' htk' hout hsb hSn g=>?_
  .obtain⟨e,he,c,hc,hh⟩:=hin;refine Hw ⟨Kx Ii _,ih (i+1) _ es (by omega) hlt (W.frame _ s' _ _ hst' htk' fun b hb o e=>e) K' hS' (by rw[htk];exact v.seen (keyed e he c hc hh) un) fun s'' es'' hm'' hS'' v''=>?_⟩;exact hR s'' es'' (Moved.trans W.gtrans ((hm.mono hsub).then_heap htk' fun b o hb e=>e) hm'') hS'' v''
  .have hnin:¬ ∃ y∈its.take i,y.1=x.1:=by rintro⟨y,y1,y2⟩;obtain⟨z,z1,z2,z3⟩:=v.all y y1;exact hout _ z3 z.2 rfl (by rw[<- y2,<- z2];exact e_ (hx' z z1) K')
   have K2:∀ b o,hb.get? b=some o->h'.get? b=some o:=fun b o e=>(hsb.2 b (fun z=>by subst z;rw[hbS]at e;cases e)).trans (K' b o e);refine Hw ⟨Kx Ii _,ih (i+1) _ es' (by omega) hlt (W.frame _ s' _ _ hst' htk' fun b hb o e=>?_) K2 hSn (by rw[htk];exact v.new hnin un g) fun s'' es'' hm'' hS'' v''=>?_⟩
   .rw[hsb.2 b (fun h:b=S=>hSf (by rw[<- h];exact hb))];exact e
   .refine hR s'' es'' (Moved.trans W.gtrans ((hm.mono hsub).then_heap htk' fun b o hb e=>?_) hm'') hS'' v'';rw[hsb.2 b (fun h:b=S=>hb (by rw[h];exact HW))];exact e
end
noncomputable abbrev setNew (led:Bool):Obj:={ cls:=.type "set",dict:=none,data:=.set #[] 0 (.fresh 0 0 led) }
theorem kZ {w:World}{h:Heap}{a:Addr}(e:h.get? a=some (setNew (!byT w))):SetAt w h a #[]:=by refine⟨_,0,_,e,⟨rfl,rfl,rfl⟩,rfl,⟨⟨.inl rfl,rfl,List.Pairwise.nil,fun j hj=>nomatch hj⟩,rfl,fun q hq=>nomatch hq⟩,?_,rfl,rfl⟩;show 0*5<7*3;decide
section
variable {prog:Lw}{w:World}{A:Ly}{E:Lx->Ls->Prop}{s:Ls}
theorem fH (a:Lx){Q₁:Lx->Ls->Prop}(h:Q₁ (.ref s.heap.objs.size) { s with heap:=s.heap.push (setNew (!byT w)) }) :
 codeAny (model prog w) A (.call (.builtin "set.__new__") ⟨[.type "set",a],[]⟩) (wants Q₁ E) s:=by
 refine codeAny_of_tree (show wpAny _ A.in1 (do checkBuiltinCall "set.__new__" ⟨[.type "set",a],[]⟩;again (.builtin "set.__new__" ⟨[.type "set",a],[]⟩)) _ _ s from ?_);refine Hs (wpAny_of_eq (PySem.F.newCall_set_1 a) (Hw ⟨Kx PySem.F.plain_set_new _,Jj PySem.F.entry_set_new ?_⟩));rw[JD PySem.F.plain_set_new _];unfold Builtin.«set.__new__» Builtin.Frozenset.newClass;have hsub:=sub_set_self;obtain⟨hp,g,d,tk,os⟩:=s;dsimp only;wp_walk;refine wpAny_askSetting (Hw ?_);dsimp only;simp only[newObj];refine Hs (wpAny_alloc (Hw ?_));exact Hw h
theorem tq {l:Addr} {items:Array Lx} {nl:Nat} {its:List TItem} {Q:Lx->Ls->Prop} (hh:A.handled=none) (hu:A.units+64<cLine) (hl:s.heap.get? l=some { cls:=.type "list",data:=.seq items nl }) (hn:its.length=items.size) (hz:items.size<=300)
 (hval:∀(i:Nat)(v:Lx),items[i]?=some v->∃ x:TItem,its[i]?=some x/\v=.ref x.2) (his:∀ x∈its,(tK prog w).is s.heap (iK x.1) x.2)
 (h:∀(h':Heap)(tk:Nat)(es:Array (Int×Lx)),SetAt w h' s.heap.objs.size es->SInv prog w es its->(∀ b o,b<s.heap.objs.size->s.heap.get? b=some o->h'.get? b=some o)->Q (.ref s.heap.objs.size) { s with heap:=h',toks:=tk }) :
 wpAny (model prog w) A (call (.type "set") [.ref l]) Q E s:=by
 obtain⟨c,tl,hmro⟩:=Iv.mro;have hmade:=Iv.made;have hsub:=Iv.sub;refine wpAny_call (codeAny_of_tree ?_);show wpAny _ _ (callAny (.type "set") _) _ _ _;refine Hw ⟨Ky _ (by decide +kernel),Jj PySem.F.entry_type_call ?_⟩;rw[Around.under_plain (weight_type_call_type "set" [.ref l] []) rfl];have h1:=Iv.notType;have h2:=Iv.canCreate;have hct:=PySem.F.typeCall_set_1 (.ref l)
 repeat (any_goals (first|assumption|wp_step))
 refine Ks (fH (.ref l) (E:=E) (Q₁:=fun obj s₁=>obj=.ref s.heap.objs.size/\s₁={ s with heap:=s.heap.push (setNew (!byT w)) }) ⟨rfl,rfl⟩) fun r s₁ hr=>?_;rcases r with e|fl
 .exact hr
 cases fl with
 |ret obj=>
  obtain⟨rfl,rfl⟩:=hr;have hS:(s.heap.push (setNew (!byT w))).get? s.heap.objs.size=some (setNew (!byT w)):=HQ _ rfl;have hT:Shared.TypeIs { s with heap:=s.heap.push (setNew (!byT w)) } (.ref s.heap.objs.size) "set":=⟨_,hS,rfl⟩;have hli:=Iv.init.lookup;have hbi:=Iv.init.bind (.ref s.heap.objs.size)
  repeat (any_goals (first|assumption|wp_step))
  refine Ks (codeAny_call_builtin (R:=wants (fun r s₂=>r=.none/\∃ h' tk es,s₂={ s with heap:=h',toks:=tk }/\SetAt w h' s.heap.objs.size es/\SInv prog w es its/\
   (∀ b o,b<s.heap.objs.size->s.heap.get? b=some o->h'.get? b=some o)) E) Iv.init.plain PySem.F.entry_set_init (check_set_init_1 hT ?_)) fun r₂ s₂ hr₂=>?_
  .have hol':(s.heap.push (setNew (!byT w))).get? l=some { cls:=.type "list",data:=.seq items nl }:=Hu _ hl;have hsls:=PySem.F.sub_list_set;have hslf:=PySem.F.sub_list_frozenset;have hne:(Value.type "list"==Value.type "dict")=false:=by decide
   have hl1:(s.heap.push (setNew (!byT w))).IsList l items:=⟨_,hol',rfl,nl,rfl⟩;unfold Builtin.«set.__init__» noKeywords Builtin.Frozenset.updateFrom;generalize hPI:pyIter=PI
   wp_walk
   subst hPI;refine Kg hl1 (Hs (K_ ?_));have hlS:l<s.heap.objs.size:=HN hl;have hh3:A.in1.in1.in1.handled=none:=by simp[hh]
   have hneI:l≠(s.heap.push (setNew (!byT w))).objs.size:=by rw[J6];exact Ic (JT hlS)
   have hno:∀ b,s.heap.objs.size<=b->s.heap.get? b=none:=fun b hb=>by
    cases q:s.heap.get? b with
    |none=>rfl
    |some o=>exact absurd (HN q) (Nat.not_lt.mpr hb)
   refine gf ((Walks.list hh3 _ l hneI items).toS) s.heap.objs.size ?hSf (by show A.units+1+1+1<cLine;omega) s.heap (hno _ (HB _)) ?hbw its hn hval his hz (items.size-0) 0 _ #[] rfl (Ij _) ⟨⟨_,HQ _ rfl,rfl,rfl⟩,(hl1.push _)⟩
    (fun b o e=>Hu _ (Hu _ e)) (kZ (Hu _ hS)) ⟨fun e he=>(nomatch he),Ij _,List.Pairwise.nil,fun x hx=>(nomatch hx)⟩ ?hR
   case hSf=>rw[J6];simp only[HE,JC,Lr,not_or];exact⟨Ic (KM _),Kr hlS⟩
   case hbw=>intro b hb;simp only[HE,JC,Lr]at hb;subst hb;exact hno _ (by rw[J6];omega)
   case hR=>intro s' es hm hS' v;obtain⟨h',g',d',tk',os'⟩:=s';have eg:g'=s.gens:=hm.gens;have ed:d'=s.drawn:=hm.drawn;have eo:os'=s.os:=hm.os;subst eg ed eo;refine Hw (Hw ⟨rfl,h',tk',es,rfl,hS',v,fun b o hb e=>hm.heap b o ?_ (Hu _ (Hu _ e))⟩);simp only[HE,JC,Lr,not_or];exact⟨Ic hb,by rw[J6];exact Ic (JT hb)⟩
  .rcases r₂ with e|fl₂
   .exact hr₂
   cases fl₂ with
   |ret r=>
    obtain⟨rfl,h',tk,es,rfl,hS',v,hk'⟩:=hr₂
    repeat (any_goals (first|assumption|wp_step))
    exact h _ _ _ hS' v hk'
   |_=>exact hr₂.elim
 |_=>exact hr.elim
end
theorem jm {α:Type}:∀(l:List α)(i:Nat)(h:i<l.length),(l[i]::l.eraseIdx i).Perm l
 | [],i,h=>by simp at h
 |x::l,0,h=>La _
 |x::l,i+1,h=>by have ih:=jm l i (by simpa using h);have e:(x::l).eraseIdx (i+1)=x::l.eraseIdx i:=rfl;rw[e,List.getElem_cons_succ];exact(List.Perm.swap _ _ _).trans (List.Perm.cons x ih)
theorem qR {α:Type}(next:Nat->Nat):∀(fuel k:Nat)(left:List α)(out:Array α),left.length=fuel->(pickOrder.go next fuel k left out).toList.Perm (out.toList++left)
 |0,k,left,out,h=>by have:left=[]:=Kz.mp h;subst this;unfold pickOrder.go;simp
 |f+1,k,left,out,h=>by have hi:next k % left.length<left.length:=Nat.mod_lt _ (by omega);unfold pickOrder.go;rw[II hi];dsimp only;have ih:=qR next f (k+1) (left.eraseIdx (next k % left.length)) (out.push left[next k % left.length]) (by rw[List.length_eraseIdx,Hx hi];omega);refine ih.trans ?_;rw[JU,HH];exact List.Perm.append_left _ (jm left _ hi)
theorem tu {α:Type}(next:Nat->Nat)(xs:Array α):(pickOrder next xs).toList.Perm xs.toList:=by have:=qR next xs.size 0 xs.toList #[] (by simp);unfold pickOrder;simpa using this
def dC (w:World)(S:Addr)(ep:Nat)(es:Array (Int×Lx)):Array (Int×Lx):=if byT w then pickOrder (w.params.setOrder S ep) es else es
theorem jn (w:World)(S:Addr)(ep:Nat)(es:Array (Int×Lx)):(dC w S ep es).toList.Perm es.toList:=by
 unfold dC;split
 .exact tu _ _
 .exact La _
theorem dW (w:World)(S:Addr)(ep:Nat)(es:Array (Int×Lx)):(dC w S ep es).size=es.size:=by have:=(jn w S ep es).length_eq;simpa using this
def bF (w:World)(t:SetTable):Nat->Nat
 |0=>0
 |i+1=>if byT w then 0 else t.place.getD i 0+1
theorem pK {t:SetTable}(T:Tb t):∀(i:Nat),i<=t.place.size->SetTable.below t.place (match i with|0=>0|i+1=>t.place.getD i 0+1)=i
 |0,_=>by
  obtain⟨a,b,c⟩:=bE 0 T.ris;dsimp only;rcases Nat.eq_zero_or_pos (SetTable.below t.place 0) with h|h
  .exact h
  .have:=b 0 (by omega) h;omega
 |i+1,hi=>by
  dsimp only;have e:t.place.getD i 0=t.place[i]:=by simp[Array.getD,show i<t.place.size by omega]
  rw[e];obtain⟨a,b,c⟩:=bE (t.place[i]+1) T.ris;rcases KD (SetTable.below t.place (t.place[i]+1)) (i+1) with q|q|q
  .have h1:=c i (by omega) (by omega);omega
  .exact q
  .have h1:=b (i+1) (by omega) q;have h2:=Ih.mp T.ris i (i+1) (by simp;omega) (by simp;omega) (by omega);simp at h2;omega
theorem slot_setiter_next:Slot "set_iterator" "__next__" "set_iterator.__next__":=.of (owner:="set_iterator") (n:="__next__") (by rw[typeLookup_type,builtinLookup_eq_fast];kernel_rfl) (by decide +kernel) (by decide +kernel) (by decide +kernel) (by first|exact .inl (by decide +kernel)|exact .inr (by decide +kernel)) (by rw[isSubtype_type];kernel_rfl)
theorem cF:entryFor table "set_iterator.__next__"=some Builtin.«set_iterator.__next__»:=entryFor_of_fast (by kernel_rfl)
theorem cY (a:Lx):argsOk "set_iterator.__next__" ⟨[a],[]⟩:=by (unfold argsOk;kernel_rfl)
theorem ke:entryFor table "set.__iter__"=some Builtin.«frozenset.__iter__»:=entryFor_alias (id':="frozenset.__iter__") (by kernel_rfl) rfl (by decide +kernel) (by kernel_rfl)
def SetIt (h:Heap) (it S:Addr) (slot i n ep:Nat):Prop:=∃ o,h.get? it=some o/\o.cls=.type "set_iterator"/\o.data=.fields #[.int slot 0,.int i 0,.ref S,.int n 0,.int ep 0]
theorem SetIt.typeIs {s:Ls} {it S:Addr} {slot i n ep:Nat} (x:SetIt s.heap it S slot i n ep):s.TypeIs (.ref it) "set_iterator":=let ⟨o,ho,hc,_⟩:=x;⟨o,ho,hc⟩
def g8 (h:Heap)(S:Addr)(es:Array (Int×Lx))(ep:Nat)(t:SetTable):Prop:=∃ o,h.get? S=some o/\o.ExactSet/\o.data=.set es ep t
section
variable {prog:Lw}{w:World}{A:Ly}{E:Lx->Ls->Prop}{s:Ls}
theorem pL {Q:Bool->Ls->Prop}(h:Q (byT w) s):wpAny (model prog w) A setsByText Q E s:=by unfold setsByText;exact Hs (wpAny_askSetting (Hw h))
theorem jo {S:Addr}{es:Array (Int×Lx)}{ep i:Nat}{t:SetTable}{Q:Option (Lx×Nat)->Ls->Prop}(r:g8 s.heap S es ep t)(T:Tbl t es)(hs:t.place.size<=t.mask)(hpl:t.plain=true)(hle:t.led=!byT w)(hi:i<=es.size)
 (h:Q (((dC w S ep es)[i]?).map fun e=>(e.2,bF w t (i+1))) s):wpAny (model prog w) A (setNext S (bF w t i) i ep) Q E s:=by
 obtain⟨o,ho,hex,hd⟩:=r;have hf:=Tbl.fits T hs;unfold setNext;refine Hs (IW ho hd hf ?_);dsimp only;refine Hs (pL ?_);cases hb:byT w with
 |true=>
  simp only[JJ];rw[Hz (by simp)];refine Hs ?_;unfold setWalk;refine Hs (IW ho hd hf ?_);dsimp only;refine Hs (pL ?_);rw[hb];simp only[JJ];refine Hs (wpAny_askSetting (Hw ?_));have e1:bF w t (i+1)=0:=by unfold bF;rw[hb];rfl
  have e2:bF w t i=0:=by cases i with|zero=>rfl|succ i=>(unfold bF;rw[hb];rfl)
  rw[e2];rw[e1]at h;unfold dC at h;rw[hb]at h;exact Hw h
 |false=>
  simp only[HP,IQ];rw[hb]at hle;have hle:t.led=true:=hle;show wpAny _ _ (if (!t.plain&&decide (es.size>1))=true then _ else _) _ _ _;rw[hpl];simp only[JE,KF,HP,IQ];show wpAny _ _ ((if (!t.led&&!es.isEmpty)=true then unsupported "set:maker-not-led" else pure ()) >>= fun _=>_) _ _ _;rw[hle];simp only[JE,KF,HP,IQ];refine Hs (Hw ?_);have e1:SetTable.below t.place (bF w t i)=i:=by
   have:=pK T.tb i (by rw[T.len];exact hi);cases i with
   |zero=>exact this
   |succ i=>unfold bF;rw[hb];exact this
  have eo:dC w S ep es=es:=by unfold dC;rw[hb];rfl
  rw[eo]at h;rw[e1];by_cases hlt:i<es.size
  .have g1:es[i]?=some es[i]:=by simp[hlt]
   have hp:i<t.place.size:=by rw[T.len];exact hlt
   have g2:t.place[i]?=some t.place[i]:=by simp[hp]
   rw[g1]at h;rw[g1,g2];have e2:bF w t (i+1)=t.place[i]+1:=by unfold bF;rw[hb];simp[Array.getD,hp]
   rw[e2]at h;exact Hw h
  .have g1:es[i]?=none:=by simp;omega
   rw[g1]at h;rw[g1];exact Hw h
end
theorem cZ:Slot "set_iterator" "__iter__" "set_iterator.__iter__":=.of (owner:="set_iterator") (n:="__iter__") (by rw[typeLookup_type,builtinLookup_eq_fast];kernel_rfl) (by decide +kernel) (by decide +kernel) (by decide +kernel) (by first|exact .inl (by decide +kernel)|exact .inr (by decide +kernel)) (by rw[isSubtype_type];kernel_rfl)
theorem fU:entryFor table "set_iterator.__iter__"=some Builtin.«dict_keyiterator.__iter__»:=entryFor_alias (id':="dict_keyiterator.__iter__") (by kernel_rfl) rfl (by decide +kernel) (by kernel_rfl)
theorem gg (a:Lx):argsOk "set_iterator.__iter__" ⟨[a],[]⟩:=by (unfold argsOk;kernel_rfl)
section
variable {prog:Lw}{w:World}{A:Ly}{E:Lx->Ls->Prop}{s:Ls}
theorem k7 {it S:Addr}{slot i n ep:Nat}{es:Array (Int×Lx)}{t:SetTable}{P:PySem.Fin->Ls->Prop}{F:Lx->Ls->Prop}{o:Obj}(ho:s.heap.get? it=some o)(hd:o.data=.fields #[.int slot 0,.int i 0,.ref S,.int n 0,.int ep 0])
 (r:g8 s.heap S es ep t) (hf:t.fits es.size=true) (hn:n=es.size)
 (h:wpAny (model prog w) A (setNext S slot i ep) (fun m s'=>match m with
   |some (x,next)=>wpAny (model prog w) A (do setField (.ref it) 0 (rawInt next);setField (.ref it) 1 (rawInt (i+1));ret x) P F s'
   |none=>wpAny (model prog w) A (do setField (.ref it) 2 .none;raiseNew (<- newExc (.type "StopIteration") [])) P F s') F s) :
 wpAny (model prog w) A (Builtin.«set_iterator.__next__» ⟨[.ref it],[]⟩) P F s:=by
 obtain⟨os,hos,hex,hds⟩:=r;unfold Builtin.«set_iterator.__next__» slotArgs;simp only[List.isEmpty_nil,JE,HP,IQ,JI,JV];refine Hs (Hw ?_);refine Hs (wpAny_fieldsOf ho hd ?_);dsimp only;refine Hs ?_;unfold setEntries;refine Hs (IW hos hds hf (Hw ?_));dsimp only;rw[Hz (by rw[hn];simp)];simp only[Kh];refine Hs (Jo h (fun m s' hm=>?_) fun _ _ e=>e);cases m with
 |none=>exact hm
 |some p=>obtain⟨x,next⟩:=p;exact hm
theorem kf {it S:Addr}(hne:S≠it)(hh:A.handled=none){es:Array (Int×Lx)}{ep:Nat}{t:SetTable}(T:Tbl t es)(hs:t.place.size<=t.mask)(hpl:t.plain=true)(hle:t.led=!byT w) :
 Walks prog w A it [it,S] [it] es.size (fun i v=>((dC w S ep es)[i]?).map (·.2)=some v) (fun i h=>SetIt h it S (bF w t i) i es.size ep/\g8 h S es ep t) where
 sub:=fun b hb=>by simp at hb;simp[hb]
 frame:=fun i h h' st hk=>by obtain⟨⟨o,h1,r1⟩,⟨o2,h2,r2⟩⟩:=st;exact⟨⟨o,hk it (by simp) o h1,r1⟩,⟨o2,hk S (by simp) o2 h2,r2⟩⟩
 item:=fun i s Q E hi st hQ=>by
  obtain⟨x1,x2⟩:=st;have hT:=x1.typeIs;obtain⟨o,ho,hc,hd⟩:=x1;have x2':=x2;obtain⟨o2,ho2,hex2,hd2⟩:=x2;unfold pyNext;refine Hs (wpAny_attempt (JZ (name:=Str.ofString "__next__") hT slot_setiter_next (Jl slot_setiter_next hT cF ?_ (cY _))));refine k7 ho hd x2' (Tbl.fits T hs) rfl (jo x2' T hs hpl hle (by omega) ?_);have hio:i<(dC w S ep es).size:=by rw[dW];exact hi
  have e1:(dC w S ep es)[i]?=some (dC w S ep es)[i]:=by simp[hio]
  rw[e1];show wpAny _ _ _ _ _ _;refine Hs (wpAny_setField ho hd (by simp) ?_);have d1:=Obj.data_mapFields hd (·.setIfInBounds 0 (rawInt ((bF w t (i+1):Nat):Int)));have ho1:=Jp (Obj.mapFields (·.setIfInBounds 0 (rawInt ((bF w t (i+1):Nat):Int)))) ho (Obj.isFreed_of_fields d1);refine Hs (wpAny_setField (s:={ s with heap:=_ }) ho1 d1 (by simp) ?_);have d2:=Obj.data_mapFields d1 (·.setIfInBounds 1 (rawInt ((i:Int)+1)));have ho3:=Jp (Obj.mapFields (·.setIfInBounds 1 (rawInt ((i:Int)+1)))) ho1 (Obj.isFreed_of_fields d2);have sb:=(IR s.heap it (Obj.mapFields (·.setIfInBounds 0 (rawInt ((bF w t (i+1):Nat):Int))))).trans (IR _ it (Obj.mapFields (·.setIfInBounds 1 (rawInt ((i:Int)+1)))));refine Hw ⟨_,rfl,Hw ?_⟩;refine hQ _ _ s.toks (by rw[e1];rfl) ⟨⟨_,ho3,?_,?_⟩,o2,(sb.2 S hne).trans ho2,hex2,hd2⟩ (fun b o hb e=>(sb.2 b (fun z=>hb (by simp[z]))).trans e)
  .exact(Obj.cls_mapFields ..).trans ((Obj.cls_mapFields ..).trans hc)
  .rw[d2];simp[rawInt]
 done:=fun s Q E st hQ=>by
  obtain⟨x1,x2⟩:=st;have hT:=x1.typeIs;obtain⟨o,ho,hc,hd⟩:=x1;unfold pyNext;refine Hs (wpAny_attempt (JZ (name:=Str.ofString "__next__") hT slot_setiter_next (Jl slot_setiter_next hT cF ?_ (cY _))));refine k7 ho hd x2 (Tbl.fits T hs) rfl (jo x2 T hs hpl hle (HB _) ?_);have e1:(dC w S ep es)[es.size]?=none:=by simp[dW]
  rw[e1];show wpAny _ _ _ _ _ _;refine Hs (wpAny_setField ho hd (by simp) ?_);refine Hs ?_;simp only[newExc,newTuple];refine Hs (Jz ?_ (by size_fits));refine Hs (m:=firstArgMember _ _) (wpAny_of_eq (a:=Value.none) (by first|rfl|(simp only[firstArgMember];rfl)) ?_);refine Jz ?_ (by size_fits);simp only[raiseNew];refine Hs (wpAny_handled ?_);rw[show A.in1.handled=none from hh];refine Hs (Hw (wpAny_throw ?_));refine Hs (wpAny_isInstance (T:="StopIteration") (b:=true) ⟨_,HQ _ rfl,rfl⟩ isSubtype_stop ?_);refine Hw (hQ _ s.toks fun b o hb e=>?_);exact Hu _ (Hu _ (((IR ..).2 b (fun z=>hb (by simp[z]))).trans e))
 self:=fun _ _ _ _ st hQ=>by refine wpAny_pyIter_slot st.1.typeIs cZ (Jl cZ st.1.typeIs fU ?_ (gg _));exact Hw ⟨_,rfl, "set_iterator",_,st.1.typeIs,slot_setiter_next.lookup,hQ⟩
theorem pM {S:Addr}{es:Array (Int×Lx)}{ep:Nat}{t:SetTable}{Q:Lx->Ls->Prop}(r:g8 s.heap S es ep t)(hf:t.fits es.size=true)(hpl:t.plain=true)
 (h:Q (.ref s.heap.objs.size) { s with heap:=s.heap.push { cls:=.type "set_iterator",data:=.fields #[.int 0 0,.int 0 0,.ref S,.int es.size 0,.int ep 0] } }):wpAny (model prog w) A (pyIter (.ref S)) Q E s:=by
 obtain⟨o,ho,hex,hd⟩:=r;have hT:s.TypeIs (.ref S) "set":=⟨o,ho,hex.1⟩;refine wpAny_pyIter_slot hT PySem.F.slot_set_iter (Jl PySem.F.slot_set_iter hT ke ?_ (PySem.F.args_set_iter_1 _));unfold Builtin.«frozenset.__iter__» Builtin.Frozenset.slot0 slotArgs;simp only[List.isEmpty_nil,JE,HP,↓reduceIte,bind_assoc,JI,JV];unfold Builtin.Frozenset.addrOf Builtin.Frozenset.sizeOf setEntries;refine Hs (Hw (Hs (Hw ?_)));simp only[bind_assoc];refine Hs (IW ho hd hf (Hs (Hw (Hs (Hw ?_)))));refine Hs ?_;unfold setDrawn;refine Hs (IW ho hd hf ?_);dsimp only;refine Hs (pL (Hw ?_));show wpAny _ _ (if (!byT w&&(!t.plain&&decide (es.size>1)))=true then _ else _) _ _ _;rw[hpl];simp only[JE,KF,K9,HP,IQ];refine Hs (Hw ?_);refine Hs (wpAny_setEpoch_of ho hd hf ?_);exact Hs (Jz (Hw ⟨_,rfl, "set_iterator",_,⟨_,HQ _ rfl,rfl⟩,slot_setiter_next.lookup,h⟩))
theorem vq {S:Addr} {Q:Bool->Ls->Prop} (hT:s.TypeIs (.ref S) "set") (h:Q false s):wpAny (model prog w) A (Builtin.List.listLengthHint (.ref S)) Q E s:=by
 unfold Builtin.List.listLengthHint;refine Hs (wpAny_specialOf hT PySem.F.slot_set_len.lookup ?_);dsimp only;have hsp:splitId "set.__len__"=some ("set", "__len__"):=by decide +kernel
 rw[hsp];dsimp only;refine Hs (wpAny_isInstance hT sub_set_self ?_);simp only[JE,HP,IQ];rw[Hx (by decide +kernel)];refine Hs (KI hT ?_);exact Hw h
theorem il {S:Addr}{es:Array (Int×Lx)}{ep:Nat}{t:SetTable}{Q:List Lx->Ls->Prop}(r:g8 s.heap S es ep t)(T:Tbl t es)(hs:t.place.size<=t.mask)(hpl:t.plain=true)(hle:t.led=!byT w)(hh:A.handled=none)(hz:es.size<=300)
 (h:∀ h' tk,s.heap.objs.size<h'.objs.size->(∀ b o,s.heap.get? b=some o->h'.get? b=some o)->Q ((dC w S ep es).toList.map (·.2)) { s with heap:=h',toks:=tk }):wpAny (model prog w) A (collect (.ref S)) Q E s:=by
 have hf:=Tbl.fits T hs;obtain⟨o,ho,hex,hd⟩:=r;have hlt:S<s.heap.objs.size:=HN ho;unfold collect;refine Hs (K_ (Jj entry_proto_collect' (show wpAny _ _ (do again (.builtin "list.__iadd__" ⟨[<- newList [],.ref S],[]⟩)) _ _ s from ?_)));refine Hs (Ki (Hw ⟨Ky _ (by decide +kernel),Jj entry_list_iadd' ?_⟩));show wpAny _ _ (Builtin.List.listExtendWith (.ref s.heap.objs.size) (.ref S) (.ref s.heap.objs.size)) _ _ { s with heap:=s.heap.push (seqObj "list" #[] 0) };have ho1:(s.heap.push (seqObj "list" #[] 0)).get? S=some o:=Hu _ ho;have hT1:Shared.TypeIs { s with heap:=s.heap.push (seqObj "list" #[] 0) } (.ref S) "set":=⟨o,ho1,hex.1⟩;unfold Builtin.List.listExtendWith;refine Hs (KI hT1 ?_);have q1:Builtin.List.listSameRef (.ref s.heap.objs.size) (.ref S)=false:=by simp[Builtin.List.listSameRef,Kr hlt]
 have q2:(Value.type "set"==Value.type "list")=false:=by decide
 have q3:(Value.type "set"==Value.type "tuple")=false:=by decide
 simp only[q1,q2,q3,Bool.or_false,HP,IQ];refine Hs (pM ⟨o,ho1,hex,hd⟩ hf hpl ?_);have hT2:Shared.TypeIs { s with heap:=(s.heap.push (seqObj "list" #[] 0)).push { cls:=.type "set_iterator",data:=.fields #[.int 0 0,.int 0 0,.ref S,.int es.size 0,.int ep 0] } } (.ref S) "set":=⟨o,Hu _ ho1,hex.1⟩;refine Hs (Iz (vq hT2 ?_));rw[Hx (by decide +kernel)];refine Hs (Le ?_);have hS0:((s.heap.push (seqObj "list" #[] 0)).push { cls:=.type "set_iterator",data:=.fields #[.int 0 0,.int 0 0,.ref S,.int es.size 0,.int ep 0] }).get? s.heap.objs.size=some (seqObj "list" #[] 0):=Hu _ (HQ _ rfl);refine Hs (show wpAny _ _ (updateSeq s.heap.objs.size (·.push .none) >>= fun _=>updateSeq s.heap.objs.size (·.pop)) _ _ _ from ?_);refine Hs (wpAny_updateSeq hS0 rfl ?_);have hS1:=Jp (Obj.mapSeq (·.push Value.none)) hS0 rfl;refine wpAny_updateSeq (hz:=by seq_fits) hS1 rfl ?_;have hS2:=Jp (Obj.mapSeq (·.pop)) hS1 rfl;generalize hH:(((s.heap.push (seqObj "list" #[] 0)).push { cls:=.type "set_iterator",data:=.fields #[.int 0 0,.int 0 0,.ref S,.int es.size 0,.int ep 0] }).update s.heap.objs.size (Obj.mapSeq (·.push Value.none))).update s.heap.objs.size (Obj.mapSeq (·.pop))=H2 at *;have oth:∀ b o,b≠s.heap.objs.size->((s.heap.push (seqObj "list" #[] 0)).push { cls:=.type "set_iterator",data:=.fields #[.int 0 0,.int 0 0,.ref S,.int es.size 0,.int ep 0] }).get? b=some o->H2.get? b=some o:=fun b o hb e=>by rw[<- hH];exact(IZ _ _ (Jb hb)).trans ((IZ _ _ (Jb hb)).trans e)
 have old:∀ b o,s.heap.get? b=some o->H2.get? b=some o:=fun b o e=>oth b o (Ic (HN e)) (Hu _ (Hu _ e));have hsz1:(s.heap.push (seqObj "list" #[] 0)).objs.size=s.heap.objs.size+1:=size_push' _ _;have hit:H2.get? (s.heap.objs.size+1)=some { cls:=.type "set_iterator",data:=.fields #[.int 0 0,.int 0 0,.ref S,.int es.size 0,.int ep 0] }:=oth _ _ (by omega) (by rw[<- hsz1];exact HQ _ rfl);refine Hw ⟨Kx PySem.F.plain_extend_loop _,?_⟩;show codeAny _ _ (.builtin "list.extend.loop" ⟨[.ref s.heap.objs.size,.ref (s.heap.push (seqObj "list" #[] 0)).objs.size,.ref s.heap.objs.size],[]⟩) _ _;rw[hsz1];have W:Walks prog w A.in1 (s.heap.objs.size+1) [s.heap.objs.size+1,S] [s.heap.objs.size+1] es.size (fun i v=>((dC w S ep es)[i]?).map (·.2)=some v) (fun i h=>SetIt h (s.heap.objs.size+1) S (bF w t i) i es.size ep/\g8 h S es ep t):=kf (Ic (JT hlt)) (by simp[hh]) T hs hpl hle;refine codeAny_extend_loopS W.toS (by rw[Iy];omega) s.heap.objs.size (by simp only[HE,JC,Lr,not_or];exact⟨Ic (KM _),Kr hlt⟩) _ es.size 0 _ #[] _ rfl (Ij _) ⟨⟨_,hit,rfl,rfl⟩,o,old S o ho,hex,hd⟩ (by rw[hS2];rfl) (ItemsOf.nil _) fun s' acc c hm hS' hacc=>?_;obtain⟨h',g',d',tk',os'⟩:=s';have eg:g'=s.gens:=hm.gens;have ed:d'=s.drawn:=hm.drawn;have eo:os'=s.os:=hm.os;subst eg ed eo;refine Hs (wpAny_load hS' ?_);have ea:acc.toList=(dC w S ep es).toList.map (·.2):=by
  apply Jq
  intro i;by_cases hi:i<acc.size
  .have e1:acc.toList[i]?=some acc[i]:=by rw[HD];simp[hi]
   have e2:=hacc.2 i acc[i] (by simp[hi]);rw[e1,Ip,HD];exact e2.symm
  .rw[Jd (by simpa using JK hi),Jd];rw[HA,HX,dW,<- hacc.1];exact JK hi
 show wpAny _ _ (pure acc.toList) _ _ _;rw[ea];refine Hw (h h' tk' (HN hS') fun b o e=>hm.heap b o ?_ (old b o e));have:=HN e;simp only[HE,JC,Lr,not_or];exact⟨Ic this,Ic (JT this)⟩
end
noncomputable def lexB:List Int->List Int->Bool
 | [],[]=>false
 | [],_::_=>true
 |_::_,[]=>false
 |a::x,b::y=>if a=b then lexB x y else decide (a<b)
theorem dD:∀ a:List Int,lexB a a=false
 | []=>rfl
 |a::x=>by unfold lexB;rw[Hx rfl];exact dD x
theorem l_:∀ a b c:List Int,lexB a b=true->lexB b c=true->lexB a c=true
 | [],[],_,h,_=>by cases h
 | [],_::_,[],_,h=>by cases h
 | [],_::_,_::_,_,_=>rfl
 |_::_,[],_,h,_=>by cases h
 |_::_,_::_,[],_,h=>by cases h
 |a::x,b::y,c::z,h1,h2=>by
  unfold lexB at h1 h2 ⊢;by_cases e1:a=b
  .subst e1;rw[Hx rfl]at h1;by_cases e2:a=c
   .subst e2;rw[Hx rfl]at h2 ⊢;exact l_ x y z h1 h2
   .rw[Hz e2]at h2 ⊢;exact h2
  .rw[Hz e1]at h1;have h1:a<b:=by simpa using h1
   by_cases e2:b=c
   .subst e2;rw[Hz e1];simpa using h1
   .rw[Hz e2]at h2;have h2:b<c:=by simpa using h2
    rw[Hz (by omega)];simp;omega
theorem gh:∀ a b:List Int,a≠b->lexB a b=true\/lexB b a=true
 | [],[],h=>(h rfl).elim
 | [],_::_,_=>.inl rfl
 |_::_,[],_=>.inr rfl
 |a::x,b::y,h=>by
  unfold lexB;by_cases e:a=b
  .subst e;rw[Hx rfl,Hx rfl];exact gh x y fun z=>h (by rw[z])
  .rw[Hz e,Hz (Jb e)];rcases Int.lt_or_gt_of_ne e with z|z
   .exact .inl (by simpa using z)
   .exact .inr (by simpa using z)
section
variable {prog:Lw}{w:World}{A:Ly}{E:Lx->Ls->Prop}{s:Ls}
theorem qS {Q:Bool->Ls->Prop}:∀{a b:List Int}{xs ys:List Lx}(i:Nat),ItemsAre (ao prog w) (iK a) xs->ItemsAre (ao prog w) (iK b) ys->Q (lexB a b) s->PySem.W.KatLex prog w A true (decide (xs.length<ys.length)) Q (xs.zip ys) i s
 | [],[],_,_,i,hx,hy,h=>by cases hx;cases hy;exact h
 | [],_::_,_,_,i,hx,hy,h=>by
  cases hx;cases hy with
  |cons h1 h2=>exact PySem.W.kat_nil h
 |_::_,[],_,_,i,hx,hy,h=>by
  cases hy;cases hx with
  |cons h1 h2=>exact PySem.W.kat_nil h
 |a::x,b::y,_,_,i,hx,hy,h=>by
  cases hx with
  | @cons _ v1 _ vs1 h1 hx'=>
   cases hy with
   | @cons _ v2 _ vs2 h2 hy'=>
    obtain⟨t1,rfl⟩:=iT h1;obtain⟨t2,rfl⟩:=iT h2;rw[List.zip_cons_cons];refine PySem.W.kat_cons (wpAny_eqBool_int ?_);unfold lexB at h;by_cases e:a=b
    .subst e;rw[Hx rfl]at h;rw[beq_self_eq_true];refine PySem.W.kat_yes ?_;have:=qS (i+1) hx' hy' h;simpa using this
    .rw[Hz e]at h;have eb:(a==b)=false:=by simpa using e
     rw[eb];refine PySem.W.kat_no ?_;cases i with
     |zero=>exact oneLt_int h
     |succ i=>exact PySem.W.kat_one _ _ (lt_int h)
structure Tups (prog:Lw) (w:World) (h:Heap) (xs:List TItem):Prop where
 is:∀ x∈xs,(tK prog w).is h (iK x.1) x.2
 ne:∀ x∈xs,x.1≠[]
 nd:(xs.map (·.1)).Nodup
noncomputable def valsT (xs:List TItem):List Lx:=xs.map fun x=>Value.ref x.2
theorem nJ {h:Heap}:∀{xs:List TItem},(∀ x∈xs,(tK prog w).is h (iK x.1) x.2)->(∀ x∈xs,x.1≠[])->∃ fs:List Lx,PySem.W.KatTups h (valsT xs) fs/\fs.length=xs.length/\∀ v∈fs,∃ i t,v=Value.int i t
 | [],_,_=>⟨[],trivial,rfl,fun v hv=>nomatch hv⟩
 |x::xs,h1,h2=>by
  obtain⟨fs,a,b,c⟩:=nJ (fun y hy=>h1 y (HV _ hy)) fun y hy=>h2 y (HV _ hy);obtain⟨ox,ix,nx,hx,cx,dx,lx⟩:=h1 x HW;have hne:=h2 x HW;obtain⟨k,b'⟩:=x;dsimp only at hne lx hx;cases k with
  |nil=>exact(hne rfl).elim
  |cons n ns=>
   generalize hl:ix.toList=l at lx;cases lx with
   | @cons _ v _ vs q1 q2=>
    obtain⟨t,rfl⟩:=iT q1;refine⟨.int n t::fs,⟨⟨b',ox,ix,nx,rfl,hx,cx,dx,?_⟩,a⟩,by simp[b],fun v hv=>?_⟩
    .rw[<- HD,hl];rfl
    .rcases HE.mp hv with rfl|hv
     .exact⟨n,t,rfl⟩
     .exact c v hv
theorem tw {xs:List TItem}{Q:SortKind->Ls->Prop}(t:Tups prog w s.heap xs)(hne:0<xs.length)(h:Q (tuples' true) s):wpAny (model prog w) A (keyKind' (valsT xs).toArray) Q E s:=by
 obtain⟨fs,a,b,c⟩:=nJ t.is t.ne;refine PySem.W.kat_kind (T:=.type "int") a (by omega) (fun v hv=>?_) (by decide) ?_
 .obtain⟨i,t,rfl⟩:=c v hv;exact fun A Q E s k q=>Hw q
 .have:(Value.type "int" != Value.type "tuple")=true:=by decide
  rw[this];exact h
theorem Tups.off {h h':Heap} {xs:List TItem} {a:Addr} {o:Obj} (t:Tups prog w h xs) (ho:h.get? a=some o) (hc:o.cls=.type "list") (k:∀ b o,b≠a->h.get? b=some o->h'.get? b=some o):Tups prog w h' xs:=by refine⟨fun x hx=>?_,t.ne,t.nd⟩;obtain⟨ox,ix,nx,h1,c1,r⟩:=t.is x hx;refine⟨ox,ix,nx,k x.2 ox (fun e=>?_) h1,c1,r⟩;rw[e,ho]at h1;cases h1;rw[hc]at c1;exact absurd c1 (by decide)
def iU (prog:Lw) (w:World) (N:Nat):Prop:=∀(A:Ly)(E:Lx->Ls->Prop)(s:Ls)(a:Addr)(n:Nat)(xs:List TItem)(P:PySem.Fin->Ls->Prop),s.heap.get? a=some (seqObj "list" (valsT xs).toArray n)->Tups prog w s.heap xs->xs.length<=N->
 (∀ ys h' c,ys.Perm xs->ys.Pairwise (fun x y=>lexB x.1 y.1=true)->h'.get? a=some (seqObj "list" (valsT ys).toArray c)->(∀ b o,b≠a->s.heap.get? b=some o->h'.get? b=some o)->P (.done (.ret .none)) { s with heap:=h' })->wpAny (model prog w) A (Builtin.«list.sort» ⟨[.ref a],[]⟩) P E s
theorem nK {its:List TItem}:∀(l:List (Int×Lx)),(∀ e∈l,∃ x∈its,e=((tK prog w).hash (iK x.1),Value.ref x.2))->∃ zs:List TItem,l=zs.map (fun x=>((tK prog w).hash (iK x.1),Value.ref x.2))/\∀ z∈zs,z∈its
 | [],_=>⟨[],rfl,fun z hz=>nomatch hz⟩
 |e::l,h=>by
  obtain⟨x,hx,rfl⟩:=h e HW;obtain⟨zs,h1,h2⟩:=nK l fun e he=>h e (HV _ he);exact⟨x::zs,by rw[h1];rfl,fun z hz=>by
   rcases HE.mp hz with rfl|hz
   .exact hx
   .exact h2 z hz⟩
structure SortedOf (its ys:List TItem):Prop where
 sub:∀ y∈ys,y∈its
 all:∀ x∈its,∃ y∈ys,y.1=x.1
 pw:ys.Pairwise fun x y=>lexB x.1 y.1=true
theorem me {S:Addr}{es:Array (Int×Lx)}{its:List TItem}{Q:Lx->Ls->Prop}(sa:SetAt w s.heap S es)(v:SInv prog w es its)(his:∀ x∈its,(tK prog w).is s.heap (iK x.1) x.2)(hne:∀ x∈its,x.1≠[])(hh:A.handled=none){N:Nat}(hN:N<=300)(hs:iU prog w N)(hz:es.size<=N)
 (h:∀ ys h' tk l c,SortedOf its ys->s.heap.objs.size<=l->h'.get? l=some (seqObj "list" (valsT ys).toArray c)->(∀ b o,s.heap.get? b=some o->h'.get? b=some o)->Q (.ref l) { s with heap:=h',toks:=tk }) :
 wpAny (model prog w) A (call (.builtin "sorted") [.ref S]) Q E s:=by
 obtain⟨o,ep,t,ho,hex,hd,T,sp,hpl,hle⟩:=sa;have pe:=jn w S ep es;obtain⟨zs,ez,zm⟩:=nK (prog:=prog) (w:=w) (its:=its) (dC w S ep es).toList fun e he=>v.el e (pe.mem_iff.mp he);have ev:(dC w S ep es).toList.map (·.2)=valsT zs:=by rw[ez,ID];rfl
 have hzl:zs.length=es.size:=by have:=Ie List.length ez;rw[HA,HX,dW]at this;exact this.symm
 have nd:(zs.map (·.1)).Nodup:=by have pw:=(pe.pairwise_iff (fun{x y} hxy a b e1 e2 m1 m2 z=>hxy b a e2 e1 m2 m1 z.symm)).mpr v.pw;rw[ez,Iq]at pw;unfold List.Nodup;rw[Iq];exact Ja (fun{a b} ha hb hab=>hab a b rfl rfl (zm a ha) (zm b hb)) pw
 refine Kn kind_sorted plain_sorted entry_sorted (args_sorted1 _) ?_;unfold Builtin.«sorted»;refine Hs (m:=checkCount "sorted" 1 1 _) (Hw (Hs (il ⟨o,ho,hex,hd⟩ T (cE sp) hpl hle (by simp[hh]) (HS hz hN) fun h1 tk1 g1 k1=>?_)));rw[ev];refine Hs (Ki ?_ (by show(valsT zs).length<=_;simp only[valsT,HA];rw[hzl,Iy];omega));have hoL:(h1.push (seqObj "list" (valsT zs).toArray 0)).get? h1.objs.size=some (seqObj "list" (valsT zs).toArray 0):=HQ _ rfl;have kk:∀ b o,s.heap.get? b=some o->(h1.push (seqObj "list" (valsT zs).toArray 0)).get? b=some o:=fun b o e=>Hu _ (k1 b o e);have ge:s.heap.objs.size<=h1.objs.size:=IH g1;have t1:Tups prog w (h1.push (seqObj "list" (valsT zs).toArray 0)) zs:=⟨fun x hx=>e_ (his x (zm x hx)) kk,fun x hx=>hne x (zm x hx),nd⟩;refine Hs (Iz (Jl slot_list_sort ⟨_,hoL,rfl⟩ entry_list_sort ?body (args_list_sort _)))
 case body=>
  refine hs _ _ { s with heap:=h1.push (seqObj "list" (valsT zs).toArray 0),toks:=tk1 } _ _ _ _ hoL t1 (by omega) fun ys h2 c2 hp hw hl2 k2=>⟨_,rfl,?_⟩;refine Hw ⟨_,rfl,h ys h2 tk1 _ c2 ⟨fun y hy=>zm y (hp.mem_iff.mp hy),fun x hx=>?_,hw⟩ ge hl2 fun b o e=>k2 b o (fun z=>?_) (kk b o e)⟩
  .obtain⟨y,y1,y2,y3⟩:=v.all x hx;have y4:((tK prog w).hash (iK y.1),Value.ref y.2)∈zs.map (fun x=>((tK prog w).hash (iK x.1),Value.ref x.2)):=by rw[<- ez];exact pe.mem_iff.mpr y3
   obtain⟨z,z1,z2⟩:=HY.mp y4;have z3:z.2=y.2:=by simp only[Kf,JS]at z2;exact z2.2
   refine⟨z,hp.mem_iff.mpr z1,?_⟩;have:=(tK prog w).inj (his z (zm z z1)) (by rw[z3];exact his y y1);rw[pJ this,y2]
  .subst z;exact absurd (HN e) (Nat.not_lt.mpr ge)
end
def TupsIn (H:Hp):List V->List TItem->Prop:=Paired fun v x=>v=.ref x.2/\H x.2=some (.tup ((iK x.1).map kV))
theorem TupsIn.get {H:Hp}:∀{vs:List V}{us:List Lx}{its:List TItem},TupsIn H vs its->Vals vs us->its.length=us.length/\(∀(i:Nat)(v:Lx),us[i]?=some v->∃ x:TItem,its[i]?=some x/\v=.ref x.2)/\∀ x∈its,H x.2=some (.tup ((iK x.1).map kV))
 |_,_,_,.nil,.nil=>⟨rfl,fun i v e=>by simp at e,fun x hx=>nomatch hx⟩
 |_,_,_,.cons (a:=v) (b:=y) q t,.cons (b:=u) r s=>by
  obtain⟨a,b,c⟩:=TupsIn.get t s;obtain⟨rfl,q⟩:=q;obtain rfl:u=Value.ref y.2:=r;refine⟨by simp[a],fun i v e=>?_,fun x hx=>?_⟩
  .cases i with
   |zero=>simp at e;exact⟨y,rfl,e.symm⟩
   |succ i=>exact b i v (by simpa using e)
  .rcases HE.mp hx with rfl|hx
   .exact q
   .exact c x hx
section
variable {X:Cx}
theorem tz (hc:X.calm=true) (hu:X.A.units+64<cLine):CallR X (.type "set") (fun xs H Q=>∃ l vs its,xs=[.ref l]/\Rd H l (.lst vs)/\TupsIn H vs its/\vs.length<=300/\
 ∀ p es,H p=none->SInv X.prog X.w es its->Q (.ref p) (av H p (.ext fun h=>SetAt X.w h p es))):=by
 intro pins s σ H xs us Q I r h;obtain⟨l,vs,its,rfl,hl,hp,hz,q⟩:=h;obtain⟨u,rfl,ru⟩:=cW r;obtain rfl:u=Value.ref l:=ru;obtain⟨_,us,n,rv,hg⟩:=(show ObjOk X.prog X.w H s.heap l (.lst vs) from hl.ok I.hok);obtain⟨g1,g2,g3⟩:=hp.get rv;refine tq (I.ok.hd hc) hu hg (its:=its) (by rw[g1,Hy]) (by rw[Hy,<- rv.length];exact hz) (fun i v e=>g2 i v (by simpa using e)) (fun x hx=>bV I.hok (g3 x hx)) fun h' tk es hS v hk=>?_;have hf:H s.heap.objs.size=none:=I.hok.fresh (HB _);refine⟨.ref s.heap.objs.size,_,I.laid (a:=s.heap.objs.size) (o:=.ext fun h=>SetAt X.w h s.heap.objs.size es) (t':=tk) (fun b o e=>hk b o (HN e) e) (HB _) ?_,rfl,q _ es hf v⟩;exact⟨hS,(let ⟨o,_,_,e,_⟩:=hS;⟨o,e⟩),fun h1 h2 hs k=>SetAt.keep hs k⟩
theorem mf (hc:X.calm=true) {N:Nat} (hN:N<=300) (hs:iU X.prog X.w N):CallR X (.builtin "sorted") (fun xs H Q=>∃ p es its,xs=[.ref p]/\H p=some (.ext fun h=>SetAt X.w h p es)/\SInv X.prog X.w es its/\(∀ x∈its,H x.2=some (.tup ((iK x.1).map kV)))/\(∀ x∈its,x.1≠[])/\its.length<=N/\
 ∀ l ys,H l=none->SortedOf its ys->Q (.ref l) (av H l (.lst (ys.map fun y=>.ref y.2)))):=by
 intro pins s σ H xs us Q I r h;obtain⟨p,es,its,rfl,hp,v,ht,hne,hz,q⟩:=h;obtain⟨u,rfl,ru⟩:=cW r;obtain rfl:u=Value.ref p:=ru;obtain⟨hS,_,_⟩:=(show ObjOk X.prog X.w H s.heap p (.ext fun h=>SetAt X.w h p es) from I.hok p _ hp);have hes:es.size<=N:=HS v.sz hz;refine me hS v (fun x hx=>bV I.hok (ht x hx)) hne (I.ok.hd hc) hN hs hes fun ys h' tk l c so hle hl hk=>?_;have hf:H l=none:=I.hok.fresh hle;have hyl:ys.length<=N:=by
  have nd:(ys.map (·.1)).Nodup:=by unfold List.Nodup;rw[Iq];exact so.pw.imp fun{a b} hab e=>by rw[e,dD]at hab;cases hab
  refine HS ?_ hz;have:∀(a b:List (List Int)),a.Nodup->(∀ x∈a,x∈b)->a.length<=b.length:=by
   intro a;induction a with
   |nil=>intro b _ _;exact Ij _
   |cons x a ih=>intro b nd hs;have hx:x∈b:=hs x HW;have:=ih (b.erase x) (JG.mp nd).2 fun y hy=>(List.mem_erase_of_ne (show y≠x from fun e=>(JG.mp nd).1 (by rw[<- e];exact hy))).mpr (hs y (HV _ hy));rw[List.length_erase_of_mem hx]at this;have:0<b.length:=List.length_pos_of_mem hx;simp only[IE];omega
  have:=this _ (its.map (·.1)) nd fun k hk=>by obtain⟨y,hy,rfl⟩:=HY.mp hk;exact HY.mpr ⟨y,so.sub y hy,rfl⟩
  simpa using this
 refine⟨.ref l,_,I.laid (a:=l) (o:=.lst (ys.map fun y=>.ref y.2)) (t':=tk) hk hle ?_,rfl,q l ys hf so⟩;refine⟨by rw[HA,Iy];omega,valsT ys,c,?_,hl⟩;clear so hl hyl;induction ys with
 |nil=>exact .nil
 |cons y ys ih=>exact .cons rfl ih
end
end L2
namespace L2
open PySem PySem.Spec PyProof.Rows
section
variable {prog:Lw}{w:World}{A:Ly}{R:Result->Ls->Prop}{I:Addr}{fp wr:List Addr}{G:Array GenState->Array GenState->Prop}{n:Nat}{P:Nat->Lx->Prop}{St:Nat->Ls->Prop}
end
section
variable {prog:Lw}{w:World}{A:Ly}{E:Lx->Ls->Prop}{s:Ls}
end
section
variable {X:Cx}
end
end L2
namespace TS
open PySem PyProof.Rows
noncomputable abbrev SM:=StateT SortSt Sem
noncomputable def gB (l:Bool)(key:Keyed)(xs:Array Keyed)(b i:Nat):SM (Option Bool):=do
 let x <- elem' xs (b+i)
 if l then lt' x key else return (<- lt' key x).map (!·)
noncomputable def bY:Bool->Keyed->Array Keyed->Nat->Nat->Nat->SM (Option Nat):=sortPriv% PySem.Builtin.gallop
def yq (l:Bool)(key:Keyed)(xs:Array Keyed)(b n p₀ q₀:Nat):SM (Option Nat):=do
 let mut p:=p₀
 let mut q:=q₀
 for _ in [0:n] do
  if p>=q then break
  let m:=p+(q-p) / 2
  let some y <- gB l key xs b m|return none
  if y then p:=m+1 else q:=m
 return some q
theorem pN (l:Bool)(key:Keyed)(xs:Array Keyed)(b n h:Nat):bY l key xs b n h=(do
 let mut u:=0
 let mut o:=1
 let some z <- gB l key xs b h|return none
 if z then
  let m:=n-h
  for _ in [0:n] do
   if o>=m then break
   let some y <- gB l key xs b (h+o)|return none
   if !y then break
   u:=o
   o:=2*o+1
  yq l key xs b n (h+u+1) (h+min o m)
 else
  let m:=h+1
  for _ in [0:n] do
   if o>=m then break
   let some y <- gB l key xs b (h-o)|return none
   if y then break
   u:=o
   o:=2*o+1
  yq l key xs b n (h+1-min o m) (h-u)):=rfl
section
variable {prog:Lw}{w:World}{A:Ly}{E:Lx->Ls->Prop}{s:Ls}{κ:SortKind}{S:List Keyed}{rk:Keyed->Nat}
def Cmp (prog:Lw)(w:World)(A:Ly)(s:Ls)(κ:SortKind)(S:List Keyed)(rk:Keyed->Nat):Prop:=∀ x∈S,∀ y∈S,∀ Q:Bool->Ls->Prop,Q (decide (rk x<rk y)) s->wpAny (model prog w) A (keyLt' κ x.1 y.1) Q (fun _ _=>False) s
theorem vv (C:Cmp prog w A s κ S rk){st:SortSt}{x y:Keyed}(hx:x∈S)(hy:y∈S)(hk:kindOf st=κ){Q:Option Bool->SortSt->Prop}(h:Q (some (decide (rk x<rk y))) st):wpS (model prog w) A E s (lt' x y) Q st:=by rw[lt'_eq];refine HJ (wpS_get ?_);rw[hk];refine HJ (wpS_lift (wpAny_attempt (Jo (C x hx y hy (fun c s'=>s'=s/\c=decide (rk x<rk y)) ⟨rfl,rfl⟩) (fun c s' hc=>?_) fun _ _ hF=>hF.elim)));obtain⟨rfl,rfl⟩:=hc;exact⟨rfl,HR h⟩
theorem aP {st:SortSt}{xs:Array Keyed}{i:Nat}{p:Keyed}(hp:xs[i]?=some p){Q:Keyed->SortSt->Prop}(h:Q p st):wpS (model prog w) A E s (elem' xs i) Q st:=by rw[elem'_eq,hp];exact HR h
theorem Gw (C:Cmp prog w A s κ S rk){st:SortSt}{l:Bool}{key x:Keyed}{xs:Array Keyed}{b i:Nat}(hp:xs[b+i]?=some x)(hx:x∈S)(hy:key∈S)(hk:kindOf st=κ){Q:Option Bool->SortSt->Prop}
 (h:Q (some (if l then decide (rk x<rk key) else !decide (rk key<rk x))) st):wpS (model prog w) A E s (gB l key xs b i) Q st:=by
 unfold gB;refine HJ (aP hp ?_);cases l with
 |true=>exact vv C hx hy hk h
 |false=>exact HJ (vv C hy hx hk (HR h))
theorem nL (C:Cmp prog w A s κ S rk){st:SortSt}{l:Bool}{key:Keyed}{xs:Array Keyed}{b n h k:Nat}(hk:kindOf st=κ)(hy:key∈S)(hS:∀ i<n,∃ x,xs[b+i]?=some x/\x∈S/\(if l then decide (rk x<rk key) else !decide (rk key<rk x))=decide (i<k))
 (hh:h<n) (hkn:k<=n) {Q:Option Nat->SortSt->Prop} (hq:Q (some k) st):wpS (model prog w) A E s (bY l key xs b n h) Q st:=by
 have tb:∀{i:Nat},i<n->∀{Q:Option Bool->SortSt->Prop},Q (some (decide (i<k))) st->wpS (model prog w) A E s (gB l key xs b i) Q st:=by intro i hi Q hQ;obtain⟨x,h1,h2,h3⟩:=hS i hi;exact Gw C h1 h2 hy hk (by rw[h3];exact hQ)
 rw[pN];refine HJ (tb hh ?_);dsimp only;have fin:∀{p q:Nat},p<=k->k<=q->q<=n->wpS (model prog w) A E s (yq l key xs b n p q) Q st:=by
  intro p q h1 h2 h3;unfold yq;refine HJ (Jf (Je (I:=fun i c st'=>st'=st/\c.1=none/\c.2.1<=k/\k<=c.2.2/\c.2.2<=n/\(c.2.2-c.2.1)+i<=n) (Q:=fun c st'=>st'=st/\c.1=none/\c.2.2=k) ?_ ?_ ⟨rfl,rfl,h1,h2,h3,by dsimp only;omega⟩) ?_)
  .rintro i ⟨r,p,q⟩ st' _ hi ⟨rfl,rfl,a1,a2,a3,a4⟩;dsimp only at *;by_cases c:p>=q
   .rw[Hx c];exact HR ⟨rfl,rfl,by dsimp only;omega⟩
   .rw[Hz c];refine HJ (tb (by omega) ?_);dsimp only;by_cases d:p+(q-p) / 2<k
    .rw[HG d,Hx rfl];exact HR ⟨rfl,rfl,by dsimp only;omega,by dsimp only;omega,by dsimp only;omega,by dsimp only;omega⟩
    .rw[HF d,Hz (by simp)];exact HR ⟨rfl,rfl,by dsimp only;omega,by dsimp only;omega,by dsimp only;omega,by dsimp only;omega⟩
  .rintro⟨r,p,q⟩ st' ⟨rfl,rfl,a1,a2,a3,a4⟩;dsimp only at *;exact⟨rfl,rfl,by omega⟩
  .rintro⟨r,p,q⟩ st' ⟨rfl,rfl,a1⟩;dsimp only at *;subst a1;exact HR hq
 by_cases hz:h<k
 .rw[HG hz,Hx rfl];refine HJ (Jf (Je (I:=fun i c st'=>st'=st/\c.1=none/\c.2.1<n-h/\h+c.2.1<k/\c.2.1<c.2.2/\i+1<=c.2.2) (Q:=fun c st'=>st'=st/\c.1=none/\c.2.1<n-h/\h+c.2.1<k/\(c.2.2>=n-h\/k<=h+c.2.2)) ?_ ?_ ⟨rfl,rfl,by dsimp only;omega,by dsimp only;omega,by dsimp only;omega,by dsimp only;omega⟩) ?_)
  .rintro i ⟨r,u,o⟩ st' _ hi ⟨rfl,rfl,a1,a2,a3,a4⟩;dsimp only at *;by_cases c:o>=n-h
   .rw[Hx c];exact HR ⟨rfl,rfl,a1,a2,.inl c⟩
   .rw[Hz c];refine HJ (tb (by omega) ?_);dsimp only;by_cases d:h+o<k
    .rw[HG d,Hz (by simp)];exact HR ⟨rfl,rfl,by dsimp only;omega,d,by dsimp only;omega,by dsimp only;omega⟩
    .rw[HF d,Hx (by rfl)];exact HR ⟨rfl,rfl,a1,a2,.inr (by dsimp only;omega)⟩
  .rintro⟨r,u,o⟩ st' ⟨rfl,rfl,a1,a2,a3,a4⟩;dsimp only at *;exact⟨rfl,rfl,a1,a2,.inl (by omega)⟩
  .rintro⟨r,u,o⟩ st' ⟨rfl,rfl,a1,a2,a3⟩;dsimp only at *;exact fin (p:=h+u+1) (q:=h+min o (n-h)) (by omega) (by omega) (by omega)
 .rw[HF hz,Hz (by simp)];refine HJ (Jf (Je (I:=fun i c st'=>st'=st/\c.1=none/\c.2.1<=h/\k<=h-c.2.1/\c.2.1<c.2.2/\i+1<=c.2.2) (Q:=fun c st'=>st'=st/\c.1=none/\c.2.1<=h/\k<=h-c.2.1/\(c.2.2>=h+1\/h-c.2.2<k)) ?_ ?_ ⟨rfl,rfl,by dsimp only;omega,by dsimp only;omega,by dsimp only;omega,by dsimp only;omega⟩) ?_)
  .rintro i ⟨r,u,o⟩ st' _ hi ⟨rfl,rfl,a1,a2,a3,a4⟩;dsimp only at *;by_cases c:o>=h+1
   .rw[Hx c];exact HR ⟨rfl,rfl,a1,a2,.inl c⟩
   .rw[Hz c];refine HJ (tb (by omega) ?_);dsimp only;by_cases d:h-o<k
    .rw[HG d,Hx rfl];exact HR ⟨rfl,rfl,a1,a2,.inr d⟩
    .rw[HF d,Hz (by simp)];exact HR ⟨rfl,rfl,by dsimp only;omega,by dsimp only;omega,by dsimp only;omega,by dsimp only;omega⟩
  .rintro⟨r,u,o⟩ st' ⟨rfl,rfl,a1,a2,a3,a4⟩;dsimp only at *;exact⟨rfl,rfl,a1,a2,.inl (by omega)⟩
  .rintro⟨r,u,o⟩ st' ⟨rfl,rfl,a1,a2,a3⟩;dsimp only at *;exact fin (p:=h+1-min o (h+1)) (q:=h-u) (by omega) (by omega) (by omega)
end
section
variable {rk:Keyed->Nat}
def Srt (rk:Keyed->Nat)(l:List Keyed):Prop:=l.Pairwise fun x y=>rk x<=rk y
structure J (rk:Keyed->Nat) (al bl o:List Keyed) (i j:Nat):Prop where
 perm:o.Perm (al.take i++bl.take j)
 srt:Srt rk o
 la:∀ x∈o,∀ y∈al.drop i,rk x<=rk y
 lb:∀ x∈o,∀ y∈bl.drop j,rk x<=rk y
variable {al bl o:List Keyed}{i j:Nat}
theorem J.swap (h:J rk al bl o i j):J rk bl al o j i:=⟨h.perm.trans JM,h.srt,h.lb,h.la⟩
theorem J.addA (h:J rk al bl o i j)(sa:Srt rk al)(k:Nat)(hc:∀ x∈(al.drop i).take k,∀ y∈bl.drop j,rk x<=rk y):J rk al bl (o++(al.drop i).take k) (i+k) j:=by
 have sd:Srt rk (al.drop i):=sa.sublist (JR _ _);have e:al.take (i+k)=al.take i++(al.drop i).take k:=List.take_add;have sp:(al.drop i)=(al.drop i).take k++al.drop (i+k):=by rw[<- List.drop_drop,HZ]
 have sd2:=sd;rw[sp]at sd2;have pw:=IY.mp sd2;refine⟨?_,IY.mpr ⟨h.srt,sd.sublist (Jy _ _),fun x hx y hy=>h.la x hx y (IJ hy)⟩,fun x hx y hy=>?_,fun x hx y hy=>?_⟩
 .rw[e];refine(h.perm.append_right _).trans ?_;rw[HH,HH];exact List.Perm.append_left _ JM
 .rcases H_.mp hx with hx|hx
  .exact h.la x hx y (by rw[sp];exact Im _ hy)
  .exact pw.2.2 x hx y hy
 .rcases H_.mp hx with hx|hx
  .exact h.lb x hx y hy
  .exact hc x hx y hy
theorem J.addB (h:J rk al bl o i j)(sb:Srt rk bl)(k:Nat)(hc:∀ x∈(bl.drop j).take k,∀ y∈al.drop i,rk x<=rk y):J rk al bl (o++(bl.drop j).take k) i (j+k):=(h.swap.addA sb k hc).swap
def Fin (rk:Keyed->Nat)(al bl o:List Keyed):Prop:=o.Perm (al++bl)/\Srt rk o
theorem J.end_ {m n:Nat}(h:J rk al bl o m n)(hm:al.length<=m)(hn:bl.length<=n):Fin rk al bl o:=by have:=h.perm;rw[IG hm,IG hn]at this;exact⟨this,h.srt⟩
theorem J.restA (h:J rk al bl o i j)(sa:Srt rk al)(sb:Srt rk bl)(hc:∀ x∈al.drop i,∀ y∈bl.drop j,rk x<=rk y):Fin rk al bl (o++al.drop i++bl.drop j):=by have e1:(al.drop i).take al.length=al.drop i:=IG (by rw[JB];omega);have e2:(bl.drop j).take bl.length=bl.drop j:=IG (by rw[JB];omega);have h1:=h.addA sa al.length (by rw[e1];exact hc);rw[e1]at h1;have h2:=h1.addB sb bl.length (fun x _ y hy=>by rw[I_ (by omega)]at hy;cases hy);rw[e2]at h2;exact h2.end_ (by omega) (by omega)
theorem J.restB (h:J rk al bl o i j)(sa:Srt rk al)(sb:Srt rk bl)(hc:∀ x∈bl.drop j,∀ y∈al.drop i,rk x<=rk y):Fin rk al bl (o++bl.drop j++al.drop i):=let f:=h.swap.restA sb sa hc;⟨f.1.trans JM,f.2⟩
theorem pO (P:Nat->Bool):∀ n:Nat,(∀ i j,i<j->j<n->P j=true->P i=true)->∃ k,k<=n/\∀ i<n,P i=decide (i<k)
 |0,_=>⟨0,HB _,fun i hi=>absurd hi (Nat.not_lt_zero _)⟩
 |n+1,h=>by
  obtain⟨k,hk,hP⟩:=pO P n fun i j hij hj=>h i j hij (by omega);cases hn:P n with
  |true=>
   refine⟨n+1,HB _,fun i hi=>?_⟩;rw[HG hi];by_cases e:i=n
   .rw[e,hn]
   .exact h i n (by omega) (by omega) hn
  |false=>
   by_cases hkn:k=n
   .refine⟨n,by omega,fun i hi=>?_⟩;by_cases e:i=n
    .rw[e,hn,HF (by omega)]
    .rw[hP i (by omega),hkn]
   .refine⟨k,by omega,fun i hi=>?_⟩;by_cases e:i=n
    .rw[e,hn,HF (by omega)]
    .exact hP i (by omega)
theorem dZ {l:List Keyed}(h:Srt rk l){p q:Nat}{x y:Keyed}(hx:l[p]?=some x)(hy:l[q]?=some y)(hpq:p<=q):rk x<=rk y:=by
 obtain⟨h1,e1⟩:=Hv.mp hx;obtain⟨h2,e2⟩:=Hv.mp hy;by_cases e:p=q
 .subst e;rw[e1]at e2;rw[e2];exact HB _
 .rw[<- e1,<- e2];exact Ih.mp h p q h1 h2 (by omega)
theorem aS {l:List Keyed}{i:Nat}{x:Keyed}(h:x∈l.drop i):∃ p,i<=p/\l[p]?=some x:=by obtain⟨m,hm⟩:=HU.mp h;rw[Ju]at hm;exact⟨i+m,by omega,hm⟩
theorem gk {l:List Keyed}{i k:Nat}{x:Keyed}(h:x∈(l.drop i).take k):∃ p,i<=p/\p<i+k/\l[p]?=some x:=by
 obtain⟨m,hm⟩:=HU.mp h;rw[IA]at hm;by_cases c:m<k
 .rw[Hx c,Ju]at hm;exact⟨i+m,by omega,by omega,hm⟩
 .rw[Hz c]at hm;cases hm
theorem jp (a:Array Keyed)(i k:Nat):(a.extract i (i+k)).toList=(a.toList.drop i).take k:=by simp[Kk,List.extract_eq_drop_take]
theorem iV (a:Array Keyed)(i:Nat):(a.extract i a.size).toList=a.toList.drop i:=by simp[Kk,List.extract_eq_drop_take];exact IG (by simp)
end
noncomputable def k8:Nat->SM Unit:=sortPriv% PySem.Builtin.setMinGallop
abbrev m9 (st:SortSt)(g:Nat):SortSt:=SortSt.mk' (kindOf st) (arrOf st) (pendingOf st) g (failedOf st)
theorem vw (g:Nat):k8 g=modify fun s=>m9 s g:=rfl
noncomputable def gm:Array Keyed->Array Keyed->SM (Array Keyed):=sortPriv% PySem.Builtin.mergeLo
noncomputable abbrev dn (a b o:Array Keyed)(i j:Nat):Array Keyed:=o++a.extract i a.size++b.extract j b.size
noncomputable abbrev ln (a b o:Array Keyed)(i j:Nat):Array Keyed:=o++b.extract j b.size++a.extract i a.size
noncomputable abbrev G7:=Option (Array Keyed)×Array Keyed×Nat×Nat×Nat×Nat×Nat
def FP (a b:Array Keyed)(g c d i:Nat)(o:Array Keyed)(j:Nat):SM (ForInStep G7):=do
 let x <- elem' a i
 if i+1+1==a.size then return .done (some (ln a b (o.push x) (i+1) j),o.push x,i+1,j,g,c,d)
 if c<7&&d<7 then return .done (none,o.push x,i+1,j,g,c,d)
 return .yield (none,o.push x,i+1,j,g,c,d)
def BM (a b:Array Keyed)(g c d j:Nat)(o:Array Keyed)(i:Nat):SM (ForInStep G7):=do
 let y <- elem' b j
 if j+1==b.size then return .done (some (dn a b (o.push y) i (j+1)),o.push y,i,j+1,g,c,d)
 let x <- elem' a i
 let some k <- bY true x b (j+1) (b.size-(j+1)) 0|return .done (some (dn a b (o.push y) i (j+1)),o.push y,i,j+1,g,c,d)
 if k>0 then
  if j+1+k==b.size then return .done (some (dn a b (o.push y++b.extract (j+1) (j+1+k)) i (j+1+k)),o.push y++b.extract (j+1) (j+1+k),i,j+1+k,g,c,k)
  FP a b g c k i (o.push y++b.extract (j+1) (j+1+k)) (j+1+k)
 else FP a b g c k i (o.push y) (j+1)
def FQ (a b:Array Keyed)(o:Array Keyed)(i j c d g:Nat):SM (ForInStep G7):=do
 k8 g
 let y <- elem' b j
 let some k <- bY false y a i (a.size-i) 0|return .done (some (dn a b o i j),o,i,j,g,c,d)
 if k>0 then
  if i+k+1==a.size then return .done (some (ln a b (o++a.extract i (i+k)) (i+k) j),o++a.extract i (i+k),i+k,j,g,k,d)
  if i+k==a.size then return .done (some (dn a b (o++a.extract i (i+k)) (i+k) j),o++a.extract i (i+k),i+k,j,g,k,d)
  BM a b g k d j (o++a.extract i (i+k)) (i+k)
 else BM a b g k d j o i
def FR (a b:Array Keyed)(u:G7):SM (ForInStep G7):=if u.2.2.2.2.1>1 then FQ a b u.2.1 u.2.2.1 u.2.2.2.1 u.2.2.2.2.2.1 u.2.2.2.2.2.2 (u.2.2.2.2.1-1) else FQ a b u.2.1 u.2.2.1 u.2.2.2.1 u.2.2.2.2.2.1 u.2.2.2.2.2.2 u.2.2.2.2.1
noncomputable abbrev G6:=Option (Array Keyed)×Array Keyed×Nat×Nat×Nat×Nat
def FS (a b:Array Keyed)(g:Nat)(u:G6):SM (ForInStep G6):=do
 let y <- elem' b u.2.2.2.1
 let x <- elem' a u.2.2.1
 let some z <- lt' y x|return .done (some (dn a b u.2.1 u.2.2.1 u.2.2.2.1),u.2)
 if z then
  let y <- elem' b u.2.2.2.1
  if u.2.2.2.1+1==b.size then return .done (some (dn a b (u.2.1.push y) u.2.2.1 (u.2.2.2.1+1)),u.2.1.push y,u.2.2.1,u.2.2.2.1+1,0,u.2.2.2.2.2+1)
  if u.2.2.2.2.2+1>=g then return .done (none,u.2.1.push y,u.2.2.1,u.2.2.2.1+1,0,u.2.2.2.2.2+1)
  return .yield (none,u.2.1.push y,u.2.2.1,u.2.2.2.1+1,0,u.2.2.2.2.2+1)
 else
  let x <- elem' a u.2.2.1
  if u.2.2.1+1+1==a.size then return .done (some (ln a b (u.2.1.push x) (u.2.2.1+1) u.2.2.2.1),u.2.1.push x,u.2.2.1+1,u.2.2.2.1,u.2.2.2.2.1+1,0)
  if u.2.2.2.2.1+1>=g then return .done (none,u.2.1.push x,u.2.2.1+1,u.2.2.2.1,u.2.2.2.2.1+1,0)
  return .yield (none,u.2.1.push x,u.2.2.1+1,u.2.2.2.1,u.2.2.2.2.1+1,0)
noncomputable abbrev G5:=Option (Array Keyed)×Array Keyed×Nat×Nat×Nat
def FT (a b:Array Keyed)(u:G5):SM (ForInStep G5):=do
 let r <- forIn [0:a.size+b.size] ((none,u.2.1,u.2.2.1,u.2.2.2.1,0,0):G6) fun _ v=>FS a b u.2.2.2.2 v
 match r.1 with
 |some x=>pure (.done (some x,r.2.1,r.2.2.1,r.2.2.2.1,u.2.2.2.2))
 |none=>do
  rule "list.sort.gallop"
  let q <- forIn [0:a.size+b.size] ((none,r.2.1,r.2.2.1,r.2.2.2.1,u.2.2.2.2+1,r.2.2.2.2.1,r.2.2.2.2.2):G7) fun _ v=>FR a b v
  match q.1 with
  |some x=>pure (.done (some x,q.2.1,q.2.2.1,q.2.2.2.1,q.2.2.2.2.1))
  |none=>do
   k8 (q.2.2.2.2.1+1)
   pure (.yield (none,q.2.1,q.2.2.1,q.2.2.2.1,q.2.2.2.2.1+1))
theorem nM (a b:Array Keyed):gm a b=(do
 rule "list.sort.merge-lo"
 let y <- elem' b 0
 if 1==b.size then return dn a b #[y] 0 1
 if 0+1==a.size then return ln a b #[y] 0 1
 let st <- get
 let r <- forIn [0:a.size+b.size] ((none,#[y],0,1,gallopOf st):G5) fun _ v=>FT a b v
 match r.1 with
 |some x=>pure x
 |none=>unsupported "internal:list.sort.merge-bound"):=by
 delta gm
 show(liftM (rule "list.sort.merge-lo") >>= _)=_;refine Ie (liftM (rule "list.sort.merge-lo") >>= ·) ?_;funext _;refine Ie (elem' b 0 >>= ·) ?_;funext y;dsimp only;refine Lf rfl (fun _=>rfl) fun _=>Lf rfl (fun _=>rfl) fun _=>?_;refine Ie (get >>= ·) ?_;funext st;refine congr (Ie Bind.bind ?_) ?_
 .refine Ie (forIn [0:a.size+b.size] ((none,#[y],0,1,gallopOf st):G5)) ?_;funext _ u;obtain⟨r,o,i,j,g⟩:=u;unfold FT;dsimp only;refine congr (Ie Bind.bind ?_) ?_
  .refine Ie (forIn [0:a.size+b.size] ((none,o,i,j,0,0):G6)) ?_;funext _ v;obtain⟨r,o,i,j,c,d⟩:=v;unfold FS;rfl
  .funext v;obtain⟨r,o,i,j,c,d⟩:=v;cases r with
   |some x=>rfl
   |none=>
    refine Ie (liftM (rule "list.sort.gallop") >>= ·) ?_;funext _;refine congr (Ie Bind.bind ?_) ?_
    .refine Ie (forIn [0:a.size+b.size] ((none,o,i,j,g+1,c,d):G7)) ?_;funext _ v;obtain⟨r,o,i,j,g,c,d⟩:=v;unfold FR;rfl
    .funext v;obtain⟨r,o,i,j,g,c,d⟩:=v;cases r with
     |some x=>rfl
     |none=>rfl
 .funext v;obtain⟨r,o,i,j,g⟩:=v;cases r with
  |some x=>rfl
  |none=>rfl
section
variable {prog:Lw}{w:World}{A:Ly}{E:Lx->Ls->Prop}{s:Ls}{κ:SortKind}{S:List Keyed}{rk:Keyed->Nat}
theorem g9 {st:SortSt}{n:String}{Q:Unit->SortSt->Prop}(h:Q () st):wpS (model prog w) A E s (liftM (rule n):SM Unit) Q st:=wpS_lift (Le ⟨rfl,h⟩)
theorem mh {st:SortSt}{g:Nat}{Q:Unit->SortSt->Prop}(h:Q () (m9 st g)):wpS (model prog w) A E s (k8 g) Q st:=by rw[vw];exact wpS_modify h
theorem pP (C:Cmp prog w A s κ S rk){st:SortSt}{key:Keyed}{xs:Array Keyed}{b n h:Nat}(hk:kindOf st=κ)(hy:key∈S)(hx:∀ x∈xs.toList,x∈S)(hs:Srt rk (xs.toList.drop b |>.take n))(hn:b+n<=xs.size)(hh:h<n){Q:Option Nat->SortSt->Prop}
 (hq:∀ k,k<=n->(∀ i x,i<k->xs.toList[b+i]?=some x->rk x<=rk key)->(∀ i x,k<=i->i<n->xs.toList[b+i]?=some x->rk key<rk x)->Q (some k) st):wpS (model prog w) A E s (bY false key xs b n h) Q st:=by
 have at_:∀ i<n,∃ x,xs[b+i]?=some x/\x∈S:=fun i hi=>by
  have hb:b+i<xs.size:=by omega
  exact⟨xs[b+i],by simp[hb],hx _ (by simp)⟩
 let P:Nat->Bool:=fun i=>!decide (rk key<rk ((xs[b+i]?).getD key))
 have hP:∀ i x,xs[b+i]?=some x->P i=!decide (rk key<rk x):=fun i x e=>by show(!decide (rk key<rk ((xs[b+i]?).getD key)))=_;rw[e];rfl
 obtain⟨k,hk1,hk2⟩:=pO P n fun i j hij hj pj=>by obtain⟨x,ex,_⟩:=at_ i (by omega);obtain⟨y,ey,_⟩:=at_ j hj;rw[hP j y ey]at pj;rw[hP i x ex];have:=dZ hs (p:=i) (q:=j) (x:=x) (y:=y) (by rw[IA,Hx (by omega),Ju,HD];exact ex) (by rw[IA,Hx (by omega),Ju,HD];exact ey) (by omega);simp at pj ⊢;omega
 refine nL C hk hy (k:=k) (fun i hi=>?_) hh hk1 (hq k hk1 (fun i x hi e=>?_) fun i x hi hin e=>?_)
 .obtain⟨x,ex,hxS⟩:=at_ i hi;exact⟨x,ex,hxS,by rw[Hz (by simp),<- hk2 i hi,hP i x ex]⟩
 .rw[HD]at e;have:=hk2 i (by omega);rw[hP i x e,HG hi]at this;simp at this;omega
 .rw[HD]at e;have:=hk2 i hin;rw[hP i x e,HF (show ¬ i<k by omega)]at this;simp at this;omega
theorem pQ (C:Cmp prog w A s κ S rk){st:SortSt}{key:Keyed}{xs:Array Keyed}{b n h:Nat}(hk:kindOf st=κ)(hy:key∈S)(hx:∀ x∈xs.toList,x∈S)(hs:Srt rk (xs.toList.drop b |>.take n))(hn:b+n<=xs.size)(hh:h<n){Q:Option Nat->SortSt->Prop}
 (hq:∀ k,k<=n->(∀ i x,i<k->xs.toList[b+i]?=some x->rk x<rk key)->(∀ i x,k<=i->i<n->xs.toList[b+i]?=some x->rk key<=rk x)->Q (some k) st):wpS (model prog w) A E s (bY true key xs b n h) Q st:=by
 have at_:∀ i<n,∃ x,xs[b+i]?=some x/\x∈S:=fun i hi=>by
  have hb:b+i<xs.size:=by omega
  exact⟨xs[b+i],by simp[hb],hx _ (by simp)⟩
 let P:Nat->Bool:=fun i=>decide (rk ((xs[b+i]?).getD key)<rk key)
 have hP:∀ i x,xs[b+i]?=some x->P i=decide (rk x<rk key):=fun i x e=>by show decide (rk ((xs[b+i]?).getD key)<rk key)=_;rw[e];rfl
 obtain⟨k,hk1,hk2⟩:=pO P n fun i j hij hj pj=>by obtain⟨x,ex,_⟩:=at_ i (by omega);obtain⟨y,ey,_⟩:=at_ j hj;rw[hP j y ey]at pj;rw[hP i x ex];have:=dZ hs (p:=i) (q:=j) (x:=x) (y:=y) (by rw[IA,Hx (by omega),Ju,HD];exact ex) (by rw[IA,Hx (by omega),Ju,HD];exact ey) (by omega);simp at pj ⊢;omega
 refine nL C hk hy (k:=k) (fun i hi=>?_) hh hk1 (hq k hk1 (fun i x hi e=>?_) fun i x hi hin e=>?_)
 .obtain⟨x,ex,hxS⟩:=at_ i hi;exact⟨x,ex,hxS,by rw[Hx rfl,<- hk2 i hi,hP i x ex]⟩
 .rw[HD]at e;have:=hk2 i (by omega);rw[hP i x e,HG hi]at this;simpa using this
 .rw[HD]at e;have:=hk2 i hin;rw[hP i x e,HF (show ¬ i<k by omega)]at this;simp at this;omega
structure Ab (rk:Keyed->Nat) (S:List Keyed) (a b:Array Keyed):Prop where
 ha:∀ x∈a.toList,x∈S
 hb:∀ x∈b.toList,x∈S
 sa:Srt rk a.toList
 sb:Srt rk b.toList
variable {a b:Array Keyed}
theorem yr (a b o:Array Keyed)(i j:Nat):(dn a b o i j).toList=o.toList++a.toList.drop i++b.toList.drop j:=by rw[IF,IF,iV,iV]
theorem yt (a b o:Array Keyed)(i j:Nat):(ln a b o i j).toList=o.toList++b.toList.drop j++a.toList.drop i:=by rw[IF,IF,iV,iV]
theorem Ej (H:Ab rk S a b){o:Array Keyed}{i j:Nat}(h:J rk a.toList b.toList o.toList i j)(e:j=b.size\/i=a.size):Fin rk a.toList b.toList (dn a b o i j).toList:=by
 rw[yr];refine h.restA H.sa H.sb fun x hx y hy=>?_;rcases e with e|e
 .rw[I_ (by rw[e];simp)]at hy;cases hy
 .rw[I_ (by rw[e];simp)]at hx;cases hx
theorem FU (H:Ab rk S a b)(last:∀ x∈b.toList,∀ y,a.toList[a.size-1]?=some y->rk x<=rk y){o:Array Keyed}{i j:Nat}(h:J rk a.toList b.toList o.toList i j)(e:i+1=a.size):Fin rk a.toList b.toList (ln a b o i j).toList:=by rw[yt];refine h.restB H.sa H.sb fun x hx y hy=>?_;obtain⟨p,h1,h2⟩:=aS hy;have hp:=(Hv.mp h2).1;rw[HX]at hp;exact last x (IM hx) y (by rw[show a.size-1=p by omega];exact h2)
theorem aX {a:Array Keyed}{i:Nat}(h:i<a.size):∃ x,a[i]?=some x/\a.toList[i]?=some x/\x∈a.toList:=⟨a[i],by simp[h],by simp[h],by simp⟩
theorem mi {l:List Keyed}{i:Nat}{x:Keyed}(h:l[i]?=some x):(l.drop i).take 1=[x]:=by obtain⟨h1,h2⟩:=Hv.mp h;rw[IX h1,h2];rfl
theorem J.pushB {o:Array Keyed}{i j:Nat}{y:Keyed}(h:J rk a.toList b.toList o.toList i j)(H:Ab rk S a b)(hy:b.toList[j]?=some y)(hc:∀ x∈a.toList.drop i,rk y<=rk x):J rk a.toList b.toList (o.push y).toList i (j+1):=by have:=h.addB H.sb 1 (by rw[mi hy];intro x hx z hz;rw[IK]at hx;subst hx;exact hc z hz);rw[mi hy]at this;rw[JU];exact this
theorem J.pushA {o:Array Keyed}{i j:Nat}{x:Keyed}(h:J rk a.toList b.toList o.toList i j)(H:Ab rk S a b)(hx:a.toList[i]?=some x)(hc:∀ y∈b.toList.drop j,rk x<=rk y):J rk a.toList b.toList (o.push x).toList (i+1) j:=by have:=h.addA H.sa 1 (by rw[mi hx];intro z hz y hy;rw[IK]at hz;subst hz;exact hc y hy);rw[mi hx]at this;rw[JU];exact this
theorem gn {l:List Keyed}(hs:Srt rk l){i:Nat}{x:Keyed}(hx:l[i]?=some x):∀ y∈l.drop i,rk x<=rk y:=fun y hy=>by obtain⟨p,h1,h2⟩:=aS hy;exact dZ hs hx h2 h1
theorem fj {l:List Keyed}(hs:Srt rk l)(i n:Nat):Srt rk ((l.drop i).take n):=(hs.sublist (JR _ _)).sublist (Jy _ _)
variable {st₀:SortSt}
def qT (rk:Keyed->Nat)(a b:Array Keyed)(st₀ st:SortSt)(n:Nat)(o:Array Keyed)(i j:Nat):Prop:=J rk a.toList b.toList o.toList i j/\i+1<a.size/\j<b.size/\n<=i+j/\∃ g,st=m9 st₀ g
def uG (rk:Keyed->Nat)(a b:Array Keyed)(st₀ st:SortSt)(r:Option (Array Keyed)):Prop:=∃ x,r=some x/\Fin rk a.toList b.toList x.toList/\∃ g,st=m9 st₀ g
theorem Ek (C:Cmp prog w A s κ S rk)(H:Ab rk S a b)(hk:kindOf st₀=κ)(last:∀ x∈b.toList,∀ y,a.toList[a.size-1]?=some y->rk x<=rk y){st:SortSt}{g n c d:Nat}{o:Array Keyed}{i j:Nat}{r:Option (Array Keyed)}(M:qT rk a b st₀ st n o i j) :
 wpS (model prog w) A E s (FS a b g (r,o,i,j,c,d)) (fun q st'=>match q with
  | .done v=>uG rk a b st₀ st' v.1\/(v.1=none/\qT rk a b st₀ st' (n+1) v.2.1 v.2.2.1 v.2.2.2.1)
  | .yield v=>v.1=none/\qT rk a b st₀ st' (n+1) v.2.1 v.2.2.1 v.2.2.2.1) st:=by
 obtain⟨hJ,hi,hj,hn,g',rfl⟩:=M;obtain⟨y,y1,y2,y3⟩:=aX hj;obtain⟨x,x1,x2,x3⟩:=aX (show i<a.size by omega);unfold FS;dsimp only;refine HJ (aP y1 (HJ (aP x1 (HJ (vv C (st:=m9 st₀ g') (H.hb y y3) (H.ha x x3) hk ?_)))));dsimp only;by_cases h:rk y<rk x
 .rw[HG h,Hx rfl];refine HJ (aP y1 ?_);have hJ':=hJ.pushB H y2 fun z hz=>HS (IH h) (gn H.sa x2 z hz);by_cases e:j+1=b.size
  .rw[Hx (by simpa using e)];exact HR (.inl ⟨_,rfl,Ej H hJ' (.inl e),_,rfl⟩)
  .rw[Hz (by simpa using e)];by_cases e2:d+1>=g
   .rw[Hx e2];exact HR (.inr ⟨rfl,hJ',hi,by dsimp only;omega,by dsimp only;omega,_,rfl⟩)
   .rw[Hz e2];exact HR ⟨rfl,hJ',hi,by dsimp only;omega,by dsimp only;omega,_,rfl⟩
 .rw[HF h,Hz (by simp)];refine HJ (aP x1 ?_);have hJ':=hJ.pushA H x2 fun z hz=>HS (JK h) (gn H.sb y2 z hz);by_cases e:i+1+1=a.size
  .rw[Hx (by simpa using e)];exact HR (.inl ⟨_,rfl,FU H last hJ' e,_,rfl⟩)
  .rw[Hz (by simpa using e)];by_cases e2:c+1>=g
   .rw[Hx e2];exact HR (.inr ⟨rfl,hJ',by dsimp only;omega,hj,by dsimp only;omega,_,rfl⟩)
   .rw[Hz e2];exact HR ⟨rfl,hJ',by dsimp only;omega,hj,by dsimp only;omega,_,rfl⟩
end
section
variable {prog:Lw}{w:World}{A:Ly}{E:Lx->Ls->Prop}{s:Ls}{κ:SortKind}{S:List Keyed}{rk:Keyed->Nat}{a b:Array Keyed}{st₀:SortSt}
def QG (rk:Keyed->Nat)(a b:Array Keyed)(st₀:SortSt)(n:Nat)(q:ForInStep G7)(st':SortSt):Prop:=match q with
 | .done v=>uG rk a b st₀ st' v.1\/(v.1=none/\qT rk a b st₀ st' n v.2.1 v.2.2.1 v.2.2.2.1)
 | .yield v=>v.1=none/\qT rk a b st₀ st' (n+1) v.2.1 v.2.2.1 v.2.2.2.1
theorem AF (H:Ab rk S a b)(last:∀ x∈b.toList,∀ y,a.toList[a.size-1]?=some y->rk x<=rk y){n g g' c d i j:Nat}{o:Array Keyed}(hJ:J rk a.toList b.toList o.toList i j)(hi:i+1<a.size)(hj:j<b.size)(hn:n<=i+j)
 (hc:∀ x,a.toList[i]?=some x->∀ y∈b.toList.drop j,rk x<=rk y):wpS (model prog w) A E s (FP a b g c d i o j) (QG rk a b st₀ n) (m9 st₀ g'):=by
 obtain⟨x,x1,x2,x3⟩:=aX (show i<a.size by omega);unfold FP;refine HJ (aP x1 ?_);have hJ':=hJ.pushA H x2 (hc x x2);by_cases e:i+1+1=a.size
 .rw[Hx (by simpa using e)];exact HR (.inl ⟨_,rfl,FU H last hJ' e,_,rfl⟩)
 .rw[Hz (by simpa using e)];split
  .exact HR (.inr ⟨rfl,hJ',by dsimp only;omega,hj,by dsimp only;omega,_,rfl⟩)
  .exact HR ⟨rfl,hJ',by dsimp only;omega,hj,by dsimp only;omega,_,rfl⟩
theorem AG (C:Cmp prog w A s κ S rk)(H:Ab rk S a b)(hk:kindOf st₀=κ)(last:∀ x∈b.toList,∀ y,a.toList[a.size-1]?=some y->rk x<=rk y){n g g' c d i j:Nat}{o:Array Keyed}(hJ:J rk a.toList b.toList o.toList i j)(hi:i+1<a.size)(hj:j<b.size)(hn:n<=i+j)
 (hc:∀ y,b.toList[j]?=some y->∀ x∈a.toList.drop i,rk y<=rk x):wpS (model prog w) A E s (BM a b g c d j o i) (QG rk a b st₀ n) (m9 st₀ g'):=by
 obtain⟨y,y1,y2,y3⟩:=aX hj;obtain⟨x,x1,x2,x3⟩:=aX (show i<a.size by omega);unfold BM;refine HJ (aP y1 ?_);have hJ':=hJ.pushB H y2 (hc y y2);by_cases e:j+1=b.size
 .rw[Hx (by simpa using e)];exact HR (.inl ⟨_,rfl,Ej H hJ' (.inl e),_,rfl⟩)
 .rw[Hz (by simpa using e)];refine HJ (aP x1 (HJ (pQ C (st:=m9 st₀ g') hk (H.ha x x3) H.hb (fj H.sb _ _) (by omega) (by omega) fun k k1 k2 k3=>?_)));dsimp only;have hJ2:=hJ'.addB H.sb k fun z hz v hv=>by obtain⟨p,p1,p2,p3⟩:=gk hz;have h1:=k2 (p-(j+1)) z (by omega) (by rw[show j+1+(p-(j+1))=p by omega];exact p3);exact HS (IH h1) (gn H.sa x2 v hv)
  have hrest:∀ z∈b.toList.drop (j+1+k),rk x<=rk z:=fun z hz=>by obtain⟨p,p1,p3⟩:=aS hz;have hp:=(Hv.mp p3).1;rw[HX]at hp;exact k3 (p-(j+1)) z (by omega) (by omega) (by rw[show j+1+(p-(j+1))=p by omega];exact p3)
  by_cases hk0:k>0
  .rw[Hx hk0];rw[<- jp,<- IF]at hJ2;by_cases e2:j+1+k=b.size
   .rw[Hx (by simpa using e2)];exact HR (.inl ⟨_,rfl,Ej H hJ2 (.inl e2),_,rfl⟩)
   .rw[Hz (by simpa using e2)];exact AF H last hJ2 hi (by omega) (by omega) fun x' hx' z hz=>by rw[x2]at hx';cases hx';exact hrest z hz
  .rw[Hz hk0];have:k=0:=by omega
   subst this;exact AF H last hJ' hi (by omega) (by omega) fun x' hx' z hz=>by rw[x2]at hx';cases hx';exact hrest z hz
theorem AH (C:Cmp prog w A s κ S rk)(H:Ab rk S a b)(hk:kindOf st₀=κ)(last:∀ x∈b.toList,∀ y,a.toList[a.size-1]?=some y->rk x<=rk y){n g c d i j:Nat}{st:SortSt}{o:Array Keyed}(M:qT rk a b st₀ st n o i j) :
 wpS (model prog w) A E s (FQ a b o i j c d g) (QG rk a b st₀ n) st:=by
 obtain⟨hJ,hi,hj,hn,g',rfl⟩:=M;obtain⟨y,y1,y2,y3⟩:=aX hj;unfold FQ;refine HJ (mh (HJ (aP y1 (HJ (pP C (st:=m9 st₀ g) hk (H.hb y y3) H.ha (fj H.sa _ _) (by omega) (by omega) fun k k1 k2 k3=>?_)))));dsimp only;have hJ2:=hJ.addA H.sa k fun z hz v hv=>by obtain⟨p,p1,p2,p3⟩:=gk hz;have h1:=k2 (p-i) z (by omega) (by rw[show i+(p-i)=p by omega];exact p3);exact HS h1 (gn H.sb y2 v hv)
 have hrest:∀ z∈a.toList.drop (i+k),rk y<=rk z:=fun z hz=>by obtain⟨p,p1,p3⟩:=aS hz;have hp:=(Hv.mp p3).1;rw[HX]at hp;exact IH (k3 (p-i) z (by omega) (by omega) (by rw[show i+(p-i)=p by omega];exact p3))
 by_cases hk0:k>0
 .rw[Hx hk0];rw[<- jp,<- IF]at hJ2;by_cases e:i+k+1=a.size
  .rw[Hx (by simpa using e)];exact HR (.inl ⟨_,rfl,FU H last hJ2 e,_,rfl⟩)
  .rw[Hz (by simpa using e)];by_cases e2:i+k=a.size
   .rw[Hx (by simpa using e2)];exact HR (.inl ⟨_,rfl,Ej H hJ2 (.inr e2),_,rfl⟩)
   .rw[Hz (by simpa using e2)];exact AG C H hk last hJ2 (by omega) hj (by omega) fun y' hy' z hz=>by rw[y2]at hy';cases hy';exact hrest z hz
 .rw[Hz hk0];have:k=0:=by omega
  subst this;exact AG C H hk last hJ hi hj hn fun y' hy' z hz=>by rw[y2]at hy';cases hy';exact hrest z hz
theorem El (C:Cmp prog w A s κ S rk)(H:Ab rk S a b)(hk:kindOf st₀=κ)(last:∀ x∈b.toList,∀ y,a.toList[a.size-1]?=some y->rk x<=rk y){n g c d i j:Nat}{st:SortSt}{o:Array Keyed}{r:Option (Array Keyed)}(M:qT rk a b st₀ st n o i j) :
 wpS (model prog w) A E s (FR a b (r,o,i,j,g,c,d)) (QG rk a b st₀ n) st:=by
 unfold FR;dsimp only;split
 .exact AH C H hk last M
 .exact AH C H hk last M
theorem Em (C:Cmp prog w A s κ S rk)(H:Ab rk S a b)(hk:kindOf st₀=κ)(last:∀ x∈b.toList,∀ y,a.toList[a.size-1]?=some y->rk x<=rk y){n g i j:Nat}{st:SortSt}{o:Array Keyed}{r:Option (Array Keyed)}(M:qT rk a b st₀ st n o i j) :
 wpS (model prog w) A E s (FT a b (r,o,i,j,g)) (fun q st'=>match q with
  | .done v=>uG rk a b st₀ st' v.1
  | .yield v=>v.1=none/\qT rk a b st₀ st' (n+1) v.2.1 v.2.2.1 v.2.2.2.1) st:=by
 have ht:0<a.size+b.size:=by have:=M.2.1;omega
 unfold FT;dsimp only;refine HJ (Jf (Je (I:=fun m (v:G6) st'=>v.1=none/\qT rk a b st₀ st' (n+m) v.2.1 v.2.2.1 v.2.2.2.1) (Q:=fun v st'=>uG rk a b st₀ st' v.1\/(v.1=none/\qT rk a b st₀ st' (n+1) v.2.1 v.2.2.1 v.2.2.2.1)) ?_ ?_ ⟨rfl,M⟩) ?_)
 .rintro m ⟨r,o,i,j,c,d⟩ st' _ hm ⟨rfl,M'⟩;refine Jf (Ek C H hk last M') fun q st2 hq=>?_;cases q with
  |done v=>
   rcases hq with hq|⟨h1,h2⟩
   .exact .inl hq
   .exact .inr ⟨h1,h2.1,h2.2.1,h2.2.2.1,by have:=h2.2.2.2.1;omega,h2.2.2.2.2⟩
  |yield v=>exact hq
 .rintro⟨r,o,i,j,c,d⟩ st' ⟨rfl,M'⟩;exact .inr ⟨rfl,M'.1,M'.2.1,M'.2.2.1,by have:=M'.2.2.2.1;omega,M'.2.2.2.2⟩
 .rintro⟨r,o,i,j,c,d⟩ st' hq;rcases hq with⟨x,e,hF,g',rfl⟩|⟨e,M'⟩
  .dsimp only at e ⊢;subst e;exact HR ⟨x,rfl,hF,g',rfl⟩
  .dsimp only at e M' ⊢;subst e;refine HJ (g9 ?_);refine HJ (Jf (Je (I:=fun m (v:G7) st'=>v.1=none/\qT rk a b st₀ st' (n+1+m) v.2.1 v.2.2.1 v.2.2.2.1) (Q:=fun v st'=>uG rk a b st₀ st' v.1\/(v.1=none/\qT rk a b st₀ st' (n+1) v.2.1 v.2.2.1 v.2.2.2.1)) ?_ ?_ ⟨rfl,M'⟩) ?_)
   .rintro m ⟨r,o,i,j,g,c,d⟩ st' _ hm ⟨rfl,M'⟩;refine Jf (El C H hk last M') fun q st2 hq=>?_;cases q with
    |done v=>
     rcases hq with hq|⟨h1,h2⟩
     .exact .inl hq
     .exact .inr ⟨h1,h2.1,h2.2.1,h2.2.2.1,by have:=h2.2.2.2.1;omega,h2.2.2.2.2⟩
    |yield v=>exact hq
   .rintro⟨r,o,i,j,g,c,d⟩ st' ⟨rfl,M'⟩;exact .inr ⟨rfl,M'.1,M'.2.1,M'.2.2.1,by have:=M'.2.2.2.1;omega,M'.2.2.2.2⟩
   .rintro⟨r,o,i,j,g,c,d⟩ st' hq;rcases hq with⟨x,e,hF,g',rfl⟩|⟨e,h1,h2,h3,h4,g',rfl⟩
    .dsimp only at e ⊢;subst e;exact HR ⟨x,rfl,hF,g',rfl⟩
    .dsimp only at e h1 h2 h3 h4 ⊢;subst e;exact HJ (mh (HR ⟨rfl,h1,h2,h3,h4,_,rfl⟩))
theorem tB (C:Cmp prog w A s κ S rk)(H:Ab rk S a b)(hk:kindOf st₀=κ)(na:1<=a.size)(nb:1<=b.size)(first:∀ x,b.toList[0]?=some x->∀ y∈a.toList,rk x<=rk y)(last:∀ x∈b.toList,∀ y,a.toList[a.size-1]?=some y->rk x<=rk y){Q:Array Keyed->SortSt->Prop}
 (hq:∀ o g,Fin rk a.toList b.toList o.toList->Q o (m9 st₀ g)):wpS (model prog w) A E s (gm a b) Q st₀:=by
 obtain⟨y,y1,y2,y3⟩:=aX (show 0<b.size by omega);have J0:J rk a.toList b.toList [] 0 0:=⟨by simp,List.Pairwise.nil,(fun x hx=>by cases hx),fun x hx=>by cases hx⟩;have hJ:J rk a.toList b.toList (#[y]:Array Keyed).toList 0 1:=J.pushB (o:=#[]) J0 H y2 fun x hx=>first y y2 x (by simpa using hx);rw[nM];refine HJ (g9 (HJ (aP y1 ?_)));by_cases e:1=b.size
 .rw[Hx (by simpa using e)];exact HR (hq _ (gallopOf st₀) (Ej H hJ (.inl e)))
 .rw[Hz (by simpa using e)];by_cases e2:0+1=a.size
  .rw[Hx (by simpa using e2)];exact HR (hq _ (gallopOf st₀) (FU H last hJ e2))
  .rw[Hz (by simpa using e2)];refine HJ (wpS_get (HJ (Jf (Je (I:=fun m (v:G5) st'=>v.1=none/\qT rk a b st₀ st' (1+m) v.2.1 v.2.2.1 v.2.2.2.1) (Q:=fun v st'=>uG rk a b st₀ st' v.1) ?_ ?_ ⟨rfl,hJ,by dsimp only;omega,by dsimp only;omega,by dsimp only;omega,gallopOf st₀,rfl⟩) ?_)))
   .rintro m ⟨r,o,i,j,g⟩ st' _ hm ⟨rfl,M'⟩;refine Jf (Em C H hk last M') fun q st2 hq=>?_;cases q with
    |done v=>exact hq
    |yield v=>exact hq
   .rintro⟨r,o,i,j,g⟩ st' ⟨rfl,h1,h2,h3,h4,_⟩;dsimp only at h2 h3 h4;omega
   .rintro⟨r,o,i,j,g⟩ st' ⟨x,e,hF,g',rfl⟩;dsimp only at e ⊢;subst e;exact HR (hq _ _ hF)
end
section
variable {rk:Keyed->Nat}
structure JH (rk:Keyed->Nat) (al bl o:List Keyed) (i j:Nat):Prop where
 perm:o.Perm (al.drop i++bl.drop j)
 srt:o.Pairwise fun x y=>rk y<=rk x
 la:∀ x∈o,∀ y∈al.take i,rk y<=rk x
 lb:∀ x∈o,∀ y∈bl.take j,rk y<=rk x
variable {al bl o:List Keyed}{i j:Nat}
theorem JH.swap (h:JH rk al bl o i j):JH rk bl al o j i:=⟨h.perm.trans JM,h.srt,h.lb,h.la⟩
theorem JH.addA (h:JH rk al bl o i j)(sa:Srt rk al){m:Nat}(hm:m<=i)(hc:∀ x∈(al.take i).drop m,∀ y∈bl.take j,rk y<=rk x):JH rk al bl (o++((al.take i).drop m).reverse) m j:=by
 have st:Srt rk (al.take i):=sa.sublist (Jy _ _);have e1:al.take i=al.take m++(al.take i).drop m:=by
  have:(al.take i).take m=al.take m:=by rw[List.take_take,K1 hm]
  rw[<- this,HZ]
 have e2:al.drop m=(al.take i).drop m++al.drop i:=by
  conv=>lhs;rw[<- HZ i al]
  by_cases c:m<=(al.take i).length
  .rw[KN c]
  .have h1:(al.take i).length=al.length:=by rw[Ib]at c ⊢;omega
   have h2:al.drop i=[]:=I_ (by rw[Ib]at h1 c;omega);rw[h2,IS,IS]
 have st2:=st;rw[e1]at st2;have pw:=IY.mp st2;refine⟨?_,IY.mpr ⟨h.srt,?_,fun x hx y hy=>h.la x hx y (IM (KO.mp hy))⟩,fun x hx y hy=>?_,fun x hx y hy=>?_⟩
 .rw[e2];refine(h.perm.append_right _).trans ?_;refine JM.trans ?_;rw[HH];exact((List.reverse_perm _).append_right _)
 .rw[KJ];exact pw.2.1
 .rcases H_.mp hx with hx|hx
  .exact h.la x hx y (by rw[e1];exact Ia _ hy)
  .exact pw.2.2 y hy x (KO.mp hx)
 .rcases H_.mp hx with hx|hx
  .exact h.lb x hx y hy
  .exact hc x (KO.mp hx) y hy
theorem JH.addB (h:JH rk al bl o i j)(sb:Srt rk bl){m:Nat}(hm:m<=j)(hc:∀ x∈(bl.take j).drop m,∀ y∈al.take i,rk y<=rk x):JH rk al bl (o++((bl.take j).drop m).reverse) i m:=(h.swap.addA sb hm hc).swap
theorem JH.end_ (h:JH rk al bl o 0 0):Fin rk al bl o.reverse:=by have:=h.perm;rw[JN,JN]at this;exact⟨(List.reverse_perm _).trans this,by unfold Srt;rw[KJ];exact h.srt⟩
theorem JH.restA (h:JH rk al bl o i j)(sa:Srt rk al)(sb:Srt rk bl)(hc:∀ x∈bl.take j,∀ y∈al.take i,rk y<=rk x):Fin rk al bl (al.take i++bl.take j++o.reverse):=by have h1:=h.addB sb (m:=0) (Ij _) (by rw[JN];exact hc);have h2:=h1.addA sa (m:=0) (Ij _) (fun x _ y hy=>by rw[KG]at hy;cases hy);have:=h2.end_;rw[JN,JN,List.reverse_append,List.reverse_append,List.reverse_reverse,List.reverse_reverse,<- HH]at this;exact this
theorem JH.restB (h:JH rk al bl o i j)(sa:Srt rk al)(sb:Srt rk bl)(hc:∀ x∈al.take i,∀ y∈bl.take j,rk y<=rk x):Fin rk al bl (bl.take j++al.take i++o.reverse):=let f:=h.swap.restA sb sa hc;⟨f.1.trans JM,f.2⟩
theorem aT {l:List Keyed}{i:Nat}{x:Keyed}(h:x∈l.take i):∃ p,p<i/\l[p]?=some x:=by
 obtain⟨m,hm⟩:=HU.mp h;rw[IA]at hm;by_cases c:m<i
 .rw[Hx c]at hm;exact⟨m,c,hm⟩
 .rw[Hz c]at hm;cases hm
theorem jq {l:List Keyed}{i m:Nat}{x:Keyed}(h:x∈(l.take i).drop m):∃ p,m<=p/\p<i/\l[p]?=some x:=by
 obtain⟨q,h1,h2⟩:=aS h;rw[IA]at h2;by_cases c:q<i
 .rw[Hx c]at h2;exact⟨q,h1,c,h2⟩
 .rw[Hz c]at h2;cases h2
theorem iW {l:List Keyed}{i:Nat}{x:Keyed}(h:l[i]?=some x):(l.take (i+1)).drop i=[x]:=by obtain⟨h1,h2⟩:=Hv.mp h;rw[JO h1,KN (by rw[Ib];omega),I_ (by rw[Ib];omega),h2];rfl
theorem iX (a:Array Keyed)(m i:Nat):(a.extract m i).toList=(a.toList.take i).drop m:=by simp[Kk,List.extract_eq_drop_take,List.drop_take]
theorem gp (a:Array Keyed)(i:Nat):(a.extract 0 i).toList=a.toList.take i:=by rw[iX,JN]
theorem gq {l:List Keyed}(hs:Srt rk l){i:Nat}{x:Keyed}(hx:l[i]?=some x):∀ y∈l.take (i+1),rk y<=rk x:=fun y hy=>by obtain⟨p,h1,h2⟩:=aT hy;exact dZ hs h2 hx (by omega)
end
noncomputable def gr:Array Keyed->Array Keyed->SM (Array Keyed):=sortPriv% PySem.Builtin.mergeHi
noncomputable abbrev dh (a b o:Array Keyed)(i j:Nat):Array Keyed:=a.extract 0 i++b.extract 0 j++o.reverse
noncomputable abbrev fh (a b o:Array Keyed)(i j:Nat):Array Keyed:=b.extract 0 j++a.extract 0 i++o.reverse
noncomputable abbrev H7:=Option (Array Keyed)×Nat×Nat×Array Keyed×Nat×Nat×Nat
def hi3 (a b:Array Keyed)(g c d i:Nat)(j:Nat)(o:Array Keyed):SM (ForInStep H7):=do
 let x <- elem' a (i-1)
 if i-1==0 then return .done (some (dh a b (o.push x) (i-1) j),i-1,j,o.push x,g,c,d)
 if c<7&&d<7 then return .done (none,i-1,j,o.push x,g,c,d)
 return .yield (none,i-1,j,o.push x,g,c,d)
def hi2 (a b:Array Keyed)(g c d j:Nat)(i:Nat)(o:Array Keyed):SM (ForInStep H7):=do
 let y <- elem' b (j-1)
 if j-1==1 then return .done (some (fh a b (o.push y) i (j-1)),i,j-1,o.push y,g,c,d)
 let x <- elem' a (i-1)
 let some k <- bY true x b 0 (j-1) (j-1-1)|return .done (some (dh a b (o.push y) i (j-1)),i,j-1,o.push y,g,c,d)
 if j-1-k>0 then
  if k==1 then return .done (some (fh a b (o.push y++(b.extract k (j-1)).reverse) i k),i,k,o.push y++(b.extract k (j-1)).reverse,g,c,j-1-k)
  if k==0 then return .done (some (dh a b (o.push y++(b.extract k (j-1)).reverse) i k),i,k,o.push y++(b.extract k (j-1)).reverse,g,c,j-1-k)
  hi3 a b g c (j-1-k) i k (o.push y++(b.extract k (j-1)).reverse)
 else hi3 a b g c (j-1-k) i (j-1) (o.push y)
def AI (a b:Array Keyed)(o:Array Keyed)(i j c d g:Nat):SM (ForInStep H7):=do
 k8 g
 let y <- elem' b (j-1)
 let some k <- bY false y a 0 i (i-1)|return .done (some (dh a b o i j),i,j,o,g,c,d)
 if i-k>0 then
  if k==0 then return .done (some (dh a b (o++(a.extract k i).reverse) k j),k,j,o++(a.extract k i).reverse,g,i-k,d)
  hi2 a b g (i-k) d j k (o++(a.extract k i).reverse)
 else hi2 a b g (i-k) d j i o
def FV (a b:Array Keyed)(u:H7):SM (ForInStep H7):=if u.2.2.2.2.1>1 then AI a b u.2.2.2.1 u.2.1 u.2.2.1 u.2.2.2.2.2.1 u.2.2.2.2.2.2 (u.2.2.2.2.1-1) else AI a b u.2.2.2.1 u.2.1 u.2.2.1 u.2.2.2.2.2.1 u.2.2.2.2.2.2 u.2.2.2.2.1
noncomputable abbrev H6:=Option (Array Keyed)×Nat×Nat×Array Keyed×Nat×Nat
def FW (a b:Array Keyed)(g:Nat)(u:H6):SM (ForInStep H6):=do
 let y <- elem' b (u.2.2.1-1)
 let x <- elem' a (u.2.1-1)
 let some z <- lt' y x|return .done (some (dh a b u.2.2.2.1 u.2.1 u.2.2.1),u.2)
 if z then
  let x <- elem' a (u.2.1-1)
  if u.2.1-1==0 then return .done (some (dh a b (u.2.2.2.1.push x) (u.2.1-1) u.2.2.1),u.2.1-1,u.2.2.1,u.2.2.2.1.push x,u.2.2.2.2.1+1,0)
  if u.2.2.2.2.1+1>=g then return .done (none,u.2.1-1,u.2.2.1,u.2.2.2.1.push x,u.2.2.2.2.1+1,0)
  return .yield (none,u.2.1-1,u.2.2.1,u.2.2.2.1.push x,u.2.2.2.2.1+1,0)
 else
  let y <- elem' b (u.2.2.1-1)
  if u.2.2.1-1==1 then return .done (some (fh a b (u.2.2.2.1.push y) u.2.1 (u.2.2.1-1)),u.2.1,u.2.2.1-1,u.2.2.2.1.push y,0,u.2.2.2.2.2+1)
  if u.2.2.2.2.2+1>=g then return .done (none,u.2.1,u.2.2.1-1,u.2.2.2.1.push y,0,u.2.2.2.2.2+1)
  return .yield (none,u.2.1,u.2.2.1-1,u.2.2.2.1.push y,0,u.2.2.2.2.2+1)
noncomputable abbrev H5:=Option (Array Keyed)×Nat×Nat×Array Keyed×Nat
def FX (a b:Array Keyed)(u:H5):SM (ForInStep H5):=do
 let r <- forIn [0:a.size+b.size] ((none,u.2.1,u.2.2.1,u.2.2.2.1,0,0):H6) fun _ v=>FW a b u.2.2.2.2 v
 match r.1 with
 |some x=>pure (.done (some x,r.2.1,r.2.2.1,r.2.2.2.1,u.2.2.2.2))
 |none=>do
  rule "list.sort.gallop"
  let q <- forIn [0:a.size+b.size] ((none,r.2.1,r.2.2.1,r.2.2.2.1,u.2.2.2.2+1,r.2.2.2.2.1,r.2.2.2.2.2):H7) fun _ v=>FV a b v
  match q.1 with
  |some x=>pure (.done (some x,q.2.1,q.2.2.1,q.2.2.2.1,q.2.2.2.2.1))
  |none=>do
   k8 (q.2.2.2.2.1+1)
   pure (.yield (none,q.2.1,q.2.2.1,q.2.2.2.1,q.2.2.2.2.1+1))
theorem nN (a b:Array Keyed):gr a b=(do
 rule "list.sort.merge-hi"
 let x <- elem' a (a.size-1)
 if a.size-1==0 then return dh a b #[x] (a.size-1) b.size
 if b.size==1 then return fh a b #[x] (a.size-1) b.size
 let st <- get
 let r <- forIn [0:a.size+b.size] ((none,a.size-1,b.size,#[x],gallopOf st):H5) fun _ v=>FX a b v
 match r.1 with
 |some x=>pure x
 |none=>unsupported "internal:list.sort.merge-bound"):=by
 delta gr
 show(liftM (rule "list.sort.merge-hi") >>= _)=_;refine Ie (liftM (rule "list.sort.merge-hi") >>= ·) ?_;funext _;refine Ie (elem' a (a.size-1) >>= ·) ?_;funext y;dsimp only;refine Lf rfl (fun _=>rfl) fun _=>Lf rfl (fun _=>rfl) fun _=>?_;refine Ie (get >>= ·) ?_;funext st;refine congr (Ie Bind.bind ?_) ?_
 .refine Ie (forIn [0:a.size+b.size] ((none,a.size-1,b.size,#[y],gallopOf st):H5)) ?_;funext _ u;obtain⟨r,i,j,o,g⟩:=u;unfold FX;dsimp only;refine congr (Ie Bind.bind ?_) ?_
  .refine Ie (forIn [0:a.size+b.size] ((none,i,j,o,0,0):H6)) ?_;funext _ v;obtain⟨r,i,j,o,c,d⟩:=v;unfold FW;rfl
  .funext v;obtain⟨r,i,j,o,c,d⟩:=v;cases r with
   |some x=>rfl
   |none=>
    refine Ie (liftM (rule "list.sort.gallop") >>= ·) ?_;funext _;refine congr (Ie Bind.bind ?_) ?_
    .refine Ie (forIn [0:a.size+b.size] ((none,i,j,o,g+1,c,d):H7)) ?_;funext _ v;obtain⟨r,i,j,o,g,c,d⟩:=v;unfold FV;rfl
    .funext v;obtain⟨r,i,j,o,g,c,d⟩:=v;cases r with
     |some x=>rfl
     |none=>rfl
 .funext v;obtain⟨r,i,j,o,g⟩:=v;cases r with
  |some x=>rfl
  |none=>rfl
section
variable {prog:Lw}{w:World}{A:Ly}{E:Lx->Ls->Prop}{s:Ls}{κ:SortKind}{S:List Keyed}{rk:Keyed->Nat}{a b:Array Keyed}{st₀:SortSt}
theorem yu (a b o:Array Keyed)(i j:Nat):(dh a b o i j).toList=a.toList.take i++b.toList.take j++o.toList.reverse:=by rw[IF,IF,gp,gp,Kl]
theorem yw (a b o:Array Keyed)(i j:Nat):(fh a b o i j).toList=b.toList.take j++a.toList.take i++o.toList.reverse:=by rw[IF,IF,gp,gp,Kl]
theorem Eo (H:Ab rk S a b){o:Array Keyed}{i j:Nat}(h:JH rk a.toList b.toList o.toList i j)(e:i=0\/j=0):Fin rk a.toList b.toList (dh a b o i j).toList:=by
 rw[yu];refine h.restA H.sa H.sb fun x hx y hy=>?_;rcases e with e|e
 .rw[e,KG]at hy;cases hy
 .rw[e,KG]at hx;cases hx
theorem FY (H:Ab rk S a b)(first:∀ x,b.toList[0]?=some x->∀ y∈a.toList,rk x<=rk y){o:Array Keyed}{i:Nat}(h:JH rk a.toList b.toList o.toList i 1):Fin rk a.toList b.toList (fh a b o i 1).toList:=by rw[yw];refine h.restB H.sa H.sb fun x hx y hy=>?_;obtain⟨p,h1,h2⟩:=aT hy;rw[show p=0 by omega]at h2;exact first y h2 x (IJ hx)
theorem JH.pushA {o:Array Keyed}{i j:Nat}{x:Keyed}(h:JH rk a.toList b.toList o.toList (i+1) j)(H:Ab rk S a b)(hx:a.toList[i]?=some x)(hc:∀ y∈b.toList.take j,rk y<=rk x):JH rk a.toList b.toList (o.push x).toList i j:=by have:=h.addA H.sa (m:=i) (by omega) (by rw[iW hx];intro z hz y hy;rw[IK]at hz;subst hz;exact hc y hy);rw[iW hx]at this;rw[JU];exact this
theorem JH.pushB {o:Array Keyed}{i j:Nat}{y:Keyed}(h:JH rk a.toList b.toList o.toList i (j+1))(H:Ab rk S a b)(hy:b.toList[j]?=some y)(hc:∀ x∈a.toList.take i,rk x<=rk y):JH rk a.toList b.toList (o.push y).toList i j:=by have:=h.addB H.sb (m:=j) (by omega) (by rw[iW hy];intro z hz x hx;rw[IK]at hz;subst hz;exact hc x hx);rw[iW hy]at this;rw[JU];exact this
def gs (rk:Keyed->Nat)(a b:Array Keyed)(st₀ st:SortSt)(n:Nat)(o:Array Keyed)(i j:Nat):Prop:=JH rk a.toList b.toList o.toList i j/\(0<i/\i<=a.size)/\(1<j/\j<=b.size)/\i+j+n+1<=a.size+b.size/\∃ g,st=m9 st₀ g
theorem Ep (C:Cmp prog w A s κ S rk)(H:Ab rk S a b)(hk:kindOf st₀=κ)(first:∀ x,b.toList[0]?=some x->∀ y∈a.toList,rk x<=rk y){st:SortSt}{g n c d:Nat}{o:Array Keyed}{i j:Nat}{r:Option (Array Keyed)}(M:gs rk a b st₀ st n o i j) :
 wpS (model prog w) A E s (FW a b g (r,i,j,o,c,d)) (fun q st'=>match q with
  | .done v=>uG rk a b st₀ st' v.1\/(v.1=none/\gs rk a b st₀ st' (n+1) v.2.2.2.1 v.2.1 v.2.2.1)
  | .yield v=>v.1=none/\gs rk a b st₀ st' (n+1) v.2.2.2.1 v.2.1 v.2.2.1) st:=by
 obtain⟨hJ,hi,hj,hn,g',rfl⟩:=M;obtain⟨i,rfl⟩ : ∃ m,i=m+1:=⟨i-1,by omega⟩;obtain⟨j,rfl⟩ : ∃ m,j=m+1:=⟨j-1,by omega⟩;obtain⟨y,y1,y2,y3⟩:=aX (show j<b.size by omega);obtain⟨x,x1,x2,x3⟩:=aX (show i<a.size by omega);unfold FW;simp only[K7];refine HJ (aP y1 (HJ (aP x1 (HJ (vv C (st:=m9 st₀ g') (H.hb y y3) (H.ha x x3) hk ?_)))));dsimp only;by_cases h:rk y<rk x
 .rw[HG h,Hx rfl];refine HJ (aP x1 ?_);have hJ':=hJ.pushA H x2 fun z hz=>HS (gq H.sb y2 z hz) (IH h);by_cases e:i=0
  .rw[Hx (by simpa using e)];exact HR (.inl ⟨_,rfl,Eo H hJ' (.inl e),_,rfl⟩)
  .rw[Hz (by simpa using e)];by_cases e2:c+1>=g
   .rw[Hx e2];exact HR (.inr ⟨rfl,hJ',⟨by dsimp only;omega,by dsimp only;omega⟩,hj,by dsimp only;omega,_,rfl⟩)
   .rw[Hz e2];exact HR ⟨rfl,hJ',⟨by dsimp only;omega,by dsimp only;omega⟩,hj,by dsimp only;omega,_,rfl⟩
 .rw[HF h,Hz (by simp)];refine HJ (aP y1 ?_);have hJ':=hJ.pushB H y2 fun z hz=>HS (gq H.sa x2 z hz) (JK h);by_cases e:j=1
  .rw[Hx (by simpa using e)];subst e;exact HR (.inl ⟨_,rfl,FY H first hJ',_,rfl⟩)
  .rw[Hz (by simpa using e)];by_cases e2:d+1>=g
   .rw[Hx e2];exact HR (.inr ⟨rfl,hJ',hi,⟨by dsimp only;omega,by dsimp only;omega⟩,by dsimp only;omega,_,rfl⟩)
   .rw[Hz e2];exact HR ⟨rfl,hJ',hi,⟨by dsimp only;omega,by dsimp only;omega⟩,by dsimp only;omega,_,rfl⟩
def QH (rk:Keyed->Nat)(a b:Array Keyed)(st₀:SortSt)(n:Nat)(q:ForInStep H7)(st':SortSt):Prop:=match q with
 | .done v=>uG rk a b st₀ st' v.1\/(v.1=none/\gs rk a b st₀ st' n v.2.2.2.1 v.2.1 v.2.2.1)
 | .yield v=>v.1=none/\gs rk a b st₀ st' (n+1) v.2.2.2.1 v.2.1 v.2.2.1
theorem AJ (H:Ab rk S a b){n g g' c d i j:Nat}{o:Array Keyed}(hJ:JH rk a.toList b.toList o.toList i j)(hi:0<i/\i<=a.size)(hj:1<j/\j<=b.size)(hn:i+j+n+1<=a.size+b.size)
 (hc:∀ x,a.toList[i-1]?=some x->∀ y∈b.toList.take j,rk y<=rk x):wpS (model prog w) A E s (hi3 a b g c d i j o) (QH rk a b st₀ n) (m9 st₀ g'):=by
 obtain⟨i,rfl⟩ : ∃ m,i=m+1:=⟨i-1,by omega⟩;obtain⟨x,x1,x2,x3⟩:=aX (show i<a.size by omega);unfold hi3;simp only[K7]at hc ⊢;refine HJ (aP x1 ?_);have hJ':=hJ.pushA H x2 (hc x x2);by_cases e:i=0
 .rw[Hx (by simpa using e)];exact HR (.inl ⟨_,rfl,Eo H hJ' (.inl e),_,rfl⟩)
 .rw[Hz (by simpa using e)];split
  .exact HR (.inr ⟨rfl,hJ',⟨by dsimp only;omega,by dsimp only;omega⟩,hj,by dsimp only;omega,_,rfl⟩)
  .exact HR ⟨rfl,hJ',⟨by dsimp only;omega,by dsimp only;omega⟩,hj,by dsimp only;omega,_,rfl⟩
theorem AK (C:Cmp prog w A s κ S rk)(H:Ab rk S a b)(hk:kindOf st₀=κ)(first:∀ x,b.toList[0]?=some x->∀ y∈a.toList,rk x<=rk y){n g g' c d i j:Nat}{o:Array Keyed}(hJ:JH rk a.toList b.toList o.toList i j)(hi:0<i/\i<=a.size)(hj:1<j/\j<=b.size)(hn:i+j+n+1<=a.size+b.size)
 (hc:∀ y,b.toList[j-1]?=some y->∀ x∈a.toList.take i,rk x<=rk y):wpS (model prog w) A E s (hi2 a b g c d j i o) (QH rk a b st₀ n) (m9 st₀ g'):=by
 obtain⟨j,rfl⟩ : ∃ m,j=m+1:=⟨j-1,by omega⟩;obtain⟨y,y1,y2,y3⟩:=aX (show j<b.size by omega);obtain⟨x,x1,x2,x3⟩:=aX (show i-1<a.size by omega);unfold hi2;simp only[K7]at hc ⊢;refine HJ (aP y1 ?_);have hJ':=hJ.pushB H y2 (hc y y2);by_cases e:j=1
 .rw[Hx (by simpa using e)];subst e;exact HR (.inl ⟨_,rfl,FY H first hJ',_,rfl⟩)
 .rw[Hz (by simpa using e)];refine HJ (aP x1 (HJ (pQ C (st:=m9 st₀ g') hk (H.ha x x3) H.hb (fj H.sb _ _) (by omega) (by omega) fun k k1 k2 k3=>?_)));dsimp only;have xa:∀ v∈a.toList.take i,rk v<=rk x:=fun v hv=>gq H.sa x2 v (by rw[show i-1+1=i by omega];exact hv);have hJ2:=hJ'.addB H.sb k1 fun z hz v hv=>by obtain⟨p,p1,p2,p3⟩:=jq hz;have h1:=k3 p z p1 p2 (by rw[JX];exact p3);exact HS (xa v hv) h1
  have hrest:∀ z∈b.toList.take k,rk z<=rk x:=fun z hz=>by obtain⟨p,p1,p3⟩:=aT hz;exact IH (k2 p z p1 (by rw[JX];exact p3))
  by_cases hk0:j-k>0
  .rw[Hx hk0];rw[<- iX,<- Kl,<- IF]at hJ2;by_cases e2:k=1
   .rw[Hx (by simpa using e2)];subst e2;exact HR (.inl ⟨_,rfl,FY H first hJ2,_,rfl⟩)
   .rw[Hz (by simpa using e2)];by_cases e3:k=0
    .rw[Hx (by simpa using e3)];exact HR (.inl ⟨_,rfl,Eo H hJ2 (.inr e3),_,rfl⟩)
    .rw[Hz (by simpa using e3)];exact AJ H hJ2 hi (by omega) (by omega) fun x' hx' z hz=>by rw[x2]at hx';cases hx';exact hrest z hz
  .rw[Hz hk0];have:k=j:=by omega
   subst this;exact AJ H hJ' hi (by omega) (by omega) fun x' hx' z hz=>by rw[x2]at hx';cases hx';exact hrest z hz
theorem AL (C:Cmp prog w A s κ S rk)(H:Ab rk S a b)(hk:kindOf st₀=κ)(first:∀ x,b.toList[0]?=some x->∀ y∈a.toList,rk x<=rk y){n g c d i j:Nat}{st:SortSt}{o:Array Keyed}(M:gs rk a b st₀ st n o i j) :
 wpS (model prog w) A E s (AI a b o i j c d g) (QH rk a b st₀ n) st:=by
 obtain⟨hJ,hi,hj,hn,g',rfl⟩:=M;obtain⟨y,y1,y2,y3⟩:=aX (show j-1<b.size by omega);unfold AI;refine HJ (mh (HJ (aP y1 (HJ (pP C (st:=m9 st₀ g) hk (H.hb y y3) H.ha (fj H.sa _ _) (by omega) (by omega) fun k k1 k2 k3=>?_)))));dsimp only;have yb:∀ v∈b.toList.take j,rk v<=rk y:=fun v hv=>gq H.sb y2 v (by rw[show j-1+1=j by omega];exact hv);have hJ2:=hJ.addA H.sa k1 fun z hz v hv=>by obtain⟨p,p1,p2,p3⟩:=jq hz;have h1:=k3 p z p1 p2 (by rw[JX];exact p3);exact HS (yb v hv) (IH h1)
 have hrest:∀ z∈a.toList.take k,rk z<=rk y:=fun z hz=>by obtain⟨p,p1,p3⟩:=aT hz;exact k2 p z p1 (by rw[JX];exact p3)
 by_cases hk0:i-k>0
 .rw[Hx hk0];rw[<- iX,<- Kl,<- IF]at hJ2;by_cases e:k=0
  .rw[Hx (by simpa using e)];exact HR (.inl ⟨_,rfl,Eo H hJ2 (.inl e),_,rfl⟩)
  .rw[Hz (by simpa using e)];exact AK C H hk first hJ2 (by omega) hj (by omega) fun y' hy' z hz=>by rw[y2]at hy';cases hy';exact hrest z hz
 .rw[Hz hk0];have:k=i:=by omega
  subst this;exact AK C H hk first hJ hi hj hn fun y' hy' z hz=>by rw[y2]at hy';cases hy';exact hrest z hz
theorem Er (C:Cmp prog w A s κ S rk)(H:Ab rk S a b)(hk:kindOf st₀=κ)(first:∀ x,b.toList[0]?=some x->∀ y∈a.toList,rk x<=rk y){n g c d i j:Nat}{st:SortSt}{o:Array Keyed}{r:Option (Array Keyed)}(M:gs rk a b st₀ st n o i j) :
 wpS (model prog w) A E s (FV a b (r,i,j,o,g,c,d)) (QH rk a b st₀ n) st:=by
 unfold FV;dsimp only;split
 .exact AL C H hk first M
 .exact AL C H hk first M
theorem Es (C:Cmp prog w A s κ S rk)(H:Ab rk S a b)(hk:kindOf st₀=κ)(first:∀ x,b.toList[0]?=some x->∀ y∈a.toList,rk x<=rk y){n g i j:Nat}{st:SortSt}{o:Array Keyed}{r:Option (Array Keyed)}(M:gs rk a b st₀ st n o i j) :
 wpS (model prog w) A E s (FX a b (r,i,j,o,g)) (fun q st'=>match q with
  | .done v=>uG rk a b st₀ st' v.1
  | .yield v=>v.1=none/\gs rk a b st₀ st' (n+1) v.2.2.2.1 v.2.1 v.2.2.1) st:=by
 have ht:0<a.size+b.size:=by have:=M.2.1;omega
 unfold FX;dsimp only;refine HJ (Jf (Je (I:=fun m (v:H6) st'=>v.1=none/\gs rk a b st₀ st' (n+m) v.2.2.2.1 v.2.1 v.2.2.1) (Q:=fun v st'=>uG rk a b st₀ st' v.1\/(v.1=none/\gs rk a b st₀ st' (n+1) v.2.2.2.1 v.2.1 v.2.2.1)) ?_ ?_ ⟨rfl,M⟩) ?_)
 .rintro m ⟨r,i,j,o,c,d⟩ st' _ hm ⟨rfl,M'⟩;refine Jf (Ep C H hk first M') fun q st2 hq=>?_;cases q with
  |done v=>
   rcases hq with hq|⟨h1,h2⟩
   .exact .inl hq
   .exact .inr ⟨h1,h2.1,h2.2.1,h2.2.2.1,by have:=h2.2.2.2.1;omega,h2.2.2.2.2⟩
  |yield v=>exact hq
 .rintro⟨r,i,j,o,c,d⟩ st' ⟨rfl,M'⟩;exact .inr ⟨rfl,M'.1,M'.2.1,M'.2.2.1,by have:=M'.2.2.2.1;omega,M'.2.2.2.2⟩
 .rintro⟨r,i,j,o,c,d⟩ st' hq;rcases hq with⟨x,e,hF,g',rfl⟩|⟨e,M'⟩
  .dsimp only at e ⊢;subst e;exact HR ⟨x,rfl,hF,g',rfl⟩
  .dsimp only at e M' ⊢;subst e;refine HJ (g9 ?_);refine HJ (Jf (Je (I:=fun m (v:H7) st'=>v.1=none/\gs rk a b st₀ st' (n+1+m) v.2.2.2.1 v.2.1 v.2.2.1) (Q:=fun v st'=>uG rk a b st₀ st' v.1\/(v.1=none/\gs rk a b st₀ st' (n+1) v.2.2.2.1 v.2.1 v.2.2.1)) ?_ ?_ ⟨rfl,M'⟩) ?_)
   .rintro m ⟨r,i,j,o,g,c,d⟩ st' _ hm ⟨rfl,M'⟩;refine Jf (Er C H hk first M') fun q st2 hq=>?_;cases q with
    |done v=>
     rcases hq with hq|⟨h1,h2⟩
     .exact .inl hq
     .exact .inr ⟨h1,h2.1,h2.2.1,h2.2.2.1,by have:=h2.2.2.2.1;omega,h2.2.2.2.2⟩
    |yield v=>exact hq
   .rintro⟨r,i,j,o,g,c,d⟩ st' ⟨rfl,M'⟩;exact .inr ⟨rfl,M'.1,M'.2.1,M'.2.2.1,by have:=M'.2.2.2.1;omega,M'.2.2.2.2⟩
   .rintro⟨r,i,j,o,g,c,d⟩ st' hq;rcases hq with⟨x,e,hF,g',rfl⟩|⟨e,h1,h2,h3,h4,g',rfl⟩
    .dsimp only at e ⊢;subst e;exact HR ⟨x,rfl,hF,g',rfl⟩
    .dsimp only at e h1 h2 h3 h4 ⊢;subst e;exact HJ (mh (HR ⟨rfl,h1,h2,h3,h4,_,rfl⟩))
theorem tE (C:Cmp prog w A s κ S rk)(H:Ab rk S a b)(hk:kindOf st₀=κ)(na:1<=a.size)(nb:1<=b.size)(first:∀ x,b.toList[0]?=some x->∀ y∈a.toList,rk x<=rk y)(last:∀ x∈b.toList,∀ y,a.toList[a.size-1]?=some y->rk x<=rk y){Q:Array Keyed->SortSt->Prop}
 (hq:∀ o g,Fin rk a.toList b.toList o.toList->Q o (m9 st₀ g)):wpS (model prog w) A E s (gr a b) Q st₀:=by
 obtain⟨y,y1,y2,y3⟩:=aX (show a.size-1<a.size by omega);have J0:JH rk a.toList b.toList [] (a.size-1+1) b.size:=⟨by rw[I_ (by simp;omega),I_ (by simp)];exact .refl _,List.Pairwise.nil,(fun x hx=>by cases hx),fun x hx=>by cases hx⟩;have hJ:JH rk a.toList b.toList (#[y]:Array Keyed).toList (a.size-1) b.size:=JH.pushA (o:=#[]) J0 H y2 fun x hx=>last x (IJ hx) y y2;rw[nN];refine HJ (g9 (HJ (aP y1 ?_)));by_cases e:a.size-1=0
 .rw[Hx (by simpa using e)];exact HR (hq _ (gallopOf st₀) (Eo H hJ (.inl e)))
 .rw[Hz (by simpa using e)];by_cases e2:b.size=1
  .rw[Hx (by simpa using e2)];rw[e2]at hJ ⊢;exact HR (hq _ (gallopOf st₀) (FY H first hJ))
  .rw[Hz (by simpa using e2)];refine HJ (wpS_get (HJ (Jf (Je (I:=fun m (v:H5) st'=>v.1=none/\gs rk a b st₀ st' m v.2.2.2.1 v.2.1 v.2.2.1) (Q:=fun v st'=>uG rk a b st₀ st' v.1) ?_ ?_ ⟨rfl,hJ,⟨by dsimp only;omega,by dsimp only;omega⟩,⟨by dsimp only;omega,by dsimp only;omega⟩,by dsimp only;omega,gallopOf st₀,rfl⟩) ?_)))
   .rintro m ⟨r,i,j,o,g⟩ st' _ hm ⟨rfl,M'⟩;refine Jf (Es C H hk first M') fun q st2 hq=>?_;cases q with
    |done v=>exact hq
    |yield v=>exact hq
   .rintro⟨r,i,j,o,g⟩ st' ⟨rfl,h1,h2,h3,h4,_⟩;dsimp only at h2 h3 h4;omega
   .rintro⟨r,i,j,o,g⟩ st' ⟨x,e,hF,g',rfl⟩;dsimp only at e ⊢;subst e;exact HR (hq _ _ hF)
end
noncomputable def wr (c:Nat)(m:Array Keyed)(xs:Array Keyed):Array Keyed:=m.toList.zipIdx.foldl (fun z (p,j)=>z.setIfInBounds (c+j) p) xs
theorem nO (i:Nat):mergeAt' i=(do
 let st <- get
 let (some (u,n,q),some (v,m,_)):=((pendingOf st)[i]?,(pendingOf st)[i+1]?)|unsupported "internal:list.sort.pending"
 set (setPending st (((pendingOf st).setIfInBounds i (u,n+m,q)).eraseIdxIfInBounds (i+1)))
 let some k <- bY false (<- elem' (arrOf st) v) (arrOf st) u n 0|return false
 if n-k==0 then return true
 let some m <- bY true (<- elem' (arrOf st) (u+k+(n-k)-1)) (arrOf st) v m (m-1)|return false
 if m==0 then return true
 let z <- if n-k<=m then gm ((arrOf st).extract (u+k) v) ((arrOf st).extract v (v+m)) else gr ((arrOf st).extract (u+k) v) ((arrOf st).extract v (v+m))
 modify fun t=>setArr t (wr (u+k) z (arrOf t))
 return (failedOf (<- get)).isNone):=rfl
theorem vx (c:Nat):∀(l:List Keyed)(n:Nat)(xs:Array Keyed),c+n+l.length<=xs.size->∀ k,((l.zipIdx n).foldl (fun z (p:Keyed×Nat)=>z.setIfInBounds (c+p.2) p.1) xs)[k]?=if c+n<=k/\k<c+n+l.length then l[k-(c+n)]? else xs[k]?
 | [],n,xs,h,k=>by simp;intro h1 h2;omega
 |p::r,n,xs,h,k=>by
  rw[List.zipIdx_cons,Jt];rw[IE]at h ⊢;rw[vx c r (n+1) _ (by rw[Array.size_setIfInBounds];omega)];by_cases h1:c+(n+1)<=k/\k<c+(n+1)+r.length
  .rw[Hx h1,Hx (by omega),show k-(c+n)=(k-(c+(n+1)))+1 by omega,KA]
  .rw[Hz h1];by_cases h2:k=c+n
   .subst h2;rw[Hx (by omega),Nat.sub_self,List.getElem?_cons_zero];have hlt:c+n<xs.size:=by omega
    simp[KU,hlt]
   .rw[Hz (by omega)];rw[Array.getElem?_setIfInBounds_ne (by omega)]
theorem yx {c:Nat}{m xs:Array Keyed}{P M R:List Keyed}(e:xs.toList=P++M++R)(hc:P.length=c)(hm:M.length=m.size):(wr c m xs).toList=P++m.toList++R:=by
 have hs:xs.size=P.length+M.length+R.length:=by rw[<- HX,e];simp;omega
 apply Jq
 intro k;rw[HD];have hw:=vx c m.toList 0 xs (by simp;omega) k;rw[show(wr c m xs)[k]?=_ from hw,<- HD (xs:=xs),e];have l2:m.toList.length=m.size:=by simp
 by_cases h1:k<P.length
 .rw[Hz (by omega),HH,HH,HK h1,HK h1]
 .by_cases h2:k<P.length+M.length
  .rw[Hx (by omega),HH,HC (by omega),HK (by omega)];congr 1;omega
  .rw[Hz (by omega),HC (by simp;omega),HC (by simp;omega)];congr 1;simp;omega
theorem Et {prog:Lw}{w:World}{A:Ly}{E:Lx->Ls->Prop}{s:Ls}{st x:SortSt}{Q:PUnit->SortSt->Prop}(h:Q ⟨⟩ x):wpS (model prog w) A E s (set x:SM PUnit) Q st:=by unfold wpS;rw[StateT.run_set];exact Hw ⟨rfl,h⟩
structure SB (κ:SortKind) (a₀:Array Keyed) (st:SortSt):Prop where
 perm:(arrOf st).toList.Perm a₀.toList
 kind:kindOf st=κ
 fail:failedOf st=none
section
variable {prog:Lw}{w:World}{A:Ly}{E:Lx->Ls->Prop}{s:Ls}{κ:SortKind}{rk:Keyed->Nat}{a₀:Array Keyed}
theorem gu {rk:Keyed->Nat}{X Y:List Keyed}(hx:Srt rk X)(hy:Srt rk Y)(h:∀ x∈X,∀ y∈Y,rk x<=rk y):Srt rk (X++Y):=IY.mpr ⟨hx,hy,h⟩
theorem tF (C:Cmp prog w A s κ a₀.toList rk){st:SortSt}(B:SB κ a₀ st){P X Y R:List Keyed}(e:(arrOf st).toList=P++X++Y++R)(hX:Srt rk X)(hY:Srt rk Y)(nX:0<X.length)(nY:0<Y.length){l₁ l₂:List (Nat×Nat×Nat)}{q q':Nat}
 (hp:(pendingOf st).toList=l₁++(P.length,X.length,q)::(P.length+X.length,Y.length,q')::l₂) {Q:Bool->SortSt->Prop}
 (hq:∀ Z st',SB κ a₀ st'->(arrOf st').toList=P++Z++R->Srt rk Z->Z.length=X.length+Y.length->(pendingOf st').toList=l₁++(P.length,X.length+Y.length,q)::l₂->Q true st'):wpS (model prog w) A E s (mergeAt' l₁.length) Q st:=by
 have hsz:(arrOf st).size=P.length+X.length+Y.length+R.length:=by rw[<- HX,e];simp;omega
 have hS:∀ x∈(arrOf st).toList,x∈a₀.toList:=fun x hx=>B.perm.subset hx;have p1:(pendingOf st)[l₁.length]?=some (P.length,X.length,q):=by rw[<- HD,hp];simp
 have p2:(pendingOf st)[l₁.length+1]?=some (P.length+X.length,Y.length,q'):=by rw[<- HD,hp];simp
 have hp':(((pendingOf st).setIfInBounds l₁.length (P.length,X.length+Y.length,q)).eraseIdxIfInBounds (l₁.length+1)).toList=l₁++(P.length,X.length+Y.length,q)::l₂:=by simp[hp,List.set_append_right,List.eraseIdx_append_of_length_le]
 have eX:∀ i,i<X.length->(arrOf st).toList[P.length+i]?=X[i]?:=fun i hi=>by rw[e,HH,HH,HC (by omega),HK (by omega)];congr 1;omega
 have eY:∀ i,i<Y.length->(arrOf st).toList[P.length+X.length+i]?=Y[i]?:=fun i hi=>by rw[e,HH,HC (by simp),HK (by simp;omega)];congr 1;simp
 have dX:((arrOf st).toList.drop P.length).take X.length=X:=by rw[e,HH,HH];simp
 have dY:((arrOf st).toList.drop (P.length+X.length)).take Y.length=Y:=by rw[e,show P++X++Y++R=(P++X)++(Y++R) by simp,show P.length+X.length=(P++X).length by simp,List.drop_left,List.take_left]
 obtain⟨y0,y1,y2,y3⟩:=aX (a:=arrOf st) (i:=P.length+X.length) (by omega);have y4:Y[0]?=some y0:=by rw[<- eY 0 nY];exact y2
 rw[nO];refine HJ (wpS_get ?_);rw[p1,p2];dsimp only;generalize hpp:((pendingOf st).setIfInBounds l₁.length (P.length,X.length+Y.length,q)).eraseIdxIfInBounds (l₁.length+1)=pp at hp' ⊢;refine HJ (Et ?_);refine HJ (aP y1 (HJ (pP C (st:=setPending st pp) B.kind (hS y0 y3) hS (by rw[dX];exact hX) (by omega) nX fun k k1 k2 k3=>?_)));dsimp only;have hY0:∀ y∈Y,rk y0<=rk y:=fun y hy=>gn hY y4 y (by rw[JN];exact hy);have hX1:∀ x∈X.take k,rk x<=rk y0:=fun x hx=>by obtain⟨p,h1,h2⟩:=aT hx;exact k2 p x h1 (by rw[eX p (by omega)];exact h2)
 have hX2:∀ x∈X.drop k,rk y0<rk x:=fun x hx=>by obtain⟨p,h1,h2⟩:=aS hx;have hp:=(Hv.mp h2).1;exact k3 p x h1 hp (by rw[eX p hp];exact h2)
 have flat:(∀ x∈X.drop k,∀ y∈Y,rk x<=rk y)->wpS (model prog w) A E s (pure true) Q (setPending st pp):=fun h=>
  HR (hq (X++Y) _ ⟨B.perm,B.kind,B.fail⟩ (by show(arrOf st).toList=_;rw[e];simp) (gu hX hY fun x hx y hy=>by
   rw[<- HZ k X]at hx;rcases H_.mp hx with hx|hx
   .exact HS (hX1 x hx) (hY0 y hy)
   .exact h x hx y hy) (by simp) hp')
 by_cases h0:X.length-k=0
 .rw[Hx (by simpa using h0)];refine flat fun x hx=>?_;rw[I_ (by omega)]at hx;cases hx
 .rw[Hz (by simpa using h0)];obtain⟨x0,x1,x2,x3⟩:=aX (a:=arrOf st) (i:=P.length+k+(X.length-k)-1) (by omega);have x4:X[X.length-1]?=some x0:=by rw[<- eX (X.length-1) (by omega),<- x2];congr 1;omega
  refine HJ (aP x1 (HJ (pQ C (st:=setPending st pp) B.kind (hS x0 x3) hS (by rw[dY];exact hY) (by omega) (by omega) fun m m1 m2 m3=>?_)));dsimp only;have hXl:∀ x∈X,rk x<=rk x0:=fun x hx=>gq hX x4 x (by rw[IG (by omega)];exact hx);have hY1:∀ y∈Y.take m,rk y<rk x0:=fun y hy=>by obtain⟨p,h1,h2⟩:=aT hy;exact m2 p y h1 (by rw[eY p (by omega)];exact h2)
  have hY2:∀ y∈Y.drop m,rk x0<=rk y:=fun y hy=>by obtain⟨p,h1,h2⟩:=aS hy;have hp:=(Hv.mp h2).1;exact m3 p y h1 hp (by rw[eY p hp];exact h2)
  by_cases h1:m=0
  .rw[Hx (by simpa using h1)];refine flat fun x hx y hy=>HS (hXl x (IM hx)) (hY2 y (by rw[h1,JN];exact hy))
  .rw[Hz (by simpa using h1)];have exa:((arrOf st).extract (P.length+k) (P.length+X.length)).toList=X.drop k:=by rw[iX,e,show P++X++Y++R=(P++X)++(Y++R) by simp,show P.length+X.length=(P++X).length by simp,List.take_left];simp[List.drop_append]
   have eya:((arrOf st).extract (P.length+X.length) (P.length+X.length+m)).toList=Y.take m:=by rw[jp,e,show P++X++Y++R=(P++X)++(Y++R) by simp,show P.length+X.length=(P++X).length by simp,List.drop_left,KP m1]
   have H:Ab rk a₀.toList ((arrOf st).extract (P.length+k) (P.length+X.length)) ((arrOf st).extract (P.length+X.length) (P.length+X.length+m)):=by
    refine⟨fun x hx=>?_,fun x hx=>?_,?_,?_⟩
    .rw[exa]at hx;exact hS x (by rw[e];have:=IM hx;simp[this])
    .rw[eya]at hx;exact hS x (by rw[e];have:=IJ hx;simp[this])
    .rw[exa];exact hX.sublist (JR _ _)
    .rw[eya];exact hY.sublist (Jy _ _)
   have sx:((arrOf st).extract (P.length+k) (P.length+X.length)).size=X.length-k:=by rw[<- HX,exa,JB]
   have sy:((arrOf st).extract (P.length+X.length) (P.length+X.length+m)).size=m:=by rw[<- HX,eya,Ib];omega
   have first:∀ x,((arrOf st).extract (P.length+X.length) (P.length+X.length+m)).toList[0]?=some x->∀ y∈((arrOf st).extract (P.length+k) (P.length+X.length)).toList,rk x<=rk y:=fun x hx y hy=>by rw[eya,IA,Hx (by omega),y4]at hx;cases hx;rw[exa]at hy;exact IH (hX2 y hy)
   have last:∀ x∈((arrOf st).extract (P.length+X.length) (P.length+X.length+m)).toList,∀ y,((arrOf st).extract (P.length+k) (P.length+X.length)).toList[((arrOf st).extract (P.length+k) (P.length+X.length)).size-1]?=some y->rk x<=rk y:=fun x hx y hy=>by rw[eya]at hx;rw[sx,exa,Ju,show k+(X.length-k-1)=X.length-1 by omega,x4]at hy;cases hy;exact IH (hY1 x hx)
   have fin:∀(o:Array Keyed) g,Fin rk ((arrOf st).extract (P.length+k) (P.length+X.length)).toList ((arrOf st).extract (P.length+X.length) (P.length+X.length+m)).toList o.toList->wpS (model prog w) A E s (do
    modify fun t=>setArr t (wr (P.length+k) o (arrOf t))
    return (failedOf (<- get)).isNone) Q (m9 (setPending st pp) g):=by
    intro o g hF;rw[exa,eya]at hF;have lo:o.size=X.length-k+m:=by have:=hF.1.length_eq;simp at this;omega
    have e3:P++X++Y++R=(P++X.take k)++(X.drop k++Y.take m)++(Y.drop m++R):=by
     conv=>lhs;rw[<- HZ k X,<- HZ m Y]
     simp only[HH]
    have ew:(wr (P.length+k) o (arrOf st)).toList=(P++X.take k)++o.toList++(Y.drop m++R):=yx (M:=X.drop k++Y.take m) (e.trans e3) (by simp;omega) (by simp;omega);refine HJ (wpS_modify (HJ (wpS_get (HR ?_))));show Q (failedOf st).isNone _;rw[B.fail];refine hq (X.take k++o.toList++Y.drop m) _ ⟨?_,B.kind,B.fail⟩ (by show(wr (P.length+k) o (arrOf st)).toList=_;rw[ew];simp) ?_ (by simp;omega) hp'
    .show(wr (P.length+k) o (arrOf st)).toList.Perm _;refine List.Perm.trans ?_ B.perm;rw[ew,e];rw[e3];exact(hF.1.append_left _).append_right _
    .refine gu (gu (hX.sublist (Jy _ _)) hF.2 fun x hx y hy=>?_) (hY.sublist (JR _ _)) fun x hx y hy=>?_
     .rcases H_.mp (hF.1.subset hy) with hy|hy
      .exact HS (hX1 x hx) (IH (hX2 y hy))
      .exact HS (hX1 x hx) (hY0 y (IJ hy))
     .rcases H_.mp hx with hx|hx
      .exact HS (hX1 x hx) (hY0 y (IM hy))
      .rcases H_.mp (hF.1.subset hx) with hx|hx
       .exact HS (hXl x (IM hx)) (hY2 y hy)
       .exact HS (IH (hY1 x hx)) (hY2 y hy)
   by_cases h2:X.length-k<=m
   .rw[Hx h2];exact HJ (tB C H (st₀:=setPending st pp) B.kind (by omega) (by omega) first last fin)
   .rw[Hz h2];exact HJ (tE C H (st₀:=setPending st pp) B.kind (by omega) (by omega) first last fin)
end
theorem nP {xs:Array Keyed}{P M R:List Keyed}{x:Keyed}(e:xs.toList=P++M++x::R):(bubble xs (P.length+M.length) M.length).toList=P++x::M++R:=by
 have hs:xs.size=P.length+M.length+R.length+1:=by rw[<- HX,e];simp;omega
 apply Jq
 intro k;rw[HD,getElem?_bubble (by omega) _ (by omega)];rw[show P.length+M.length-M.length=P.length by omega];simp only[<- HD,e];by_cases h1:k=P.length
 .rw[Hx h1,h1];simp
 .rw[Hz h1];by_cases h2:k<P.length
  .rw[Hz (by omega),HH,HH,HK h2,HK h2]
  .by_cases h3:k<=P.length+M.length
   .rw[Hx (by omega),HH,HC (by omega),HK (by omega),HH,HC (by omega),Lk,show k-P.length=(k-1-P.length)+1 by omega,KA,HK (by omega)]
   .rw[Hz (by omega),HC (by simp;omega),HC (by simp;omega),show k-(P++M).length=(k-(P++x::M).length)+1 by simp;omega,KA]
theorem nQ {xs:Array Keyed}{P M R:List Keyed}(e:xs.toList=P++M++R):(mirror xs P.length (P.length+M.length) ((P.length+M.length-P.length) / 2)).toList=P++M.reverse++R:=by
 have hs:xs.size=P.length+M.length+R.length:=by rw[<- HX,e];simp;omega
 apply Jq
 intro k;rw[HD,getElem?_mirror_all (by omega)];simp only[<- HD,e];by_cases h2:k<P.length
 .rw[Hz (by omega),HH,HH,HK h2,HK h2]
 .by_cases h3:k<P.length+M.length
  .rw[Hx (by omega),HH,HC (by omega),HK (by omega),HH,HC (by omega),HK (by simp;omega),List.getElem?_reverse (by omega)];congr 1;omega
  .rw[Hz (by omega),HC (by simp;omega),HC (by simp;omega)];congr 1;simp
section
variable {prog:Lw}{w:World}{A:Ly}{E:Lx->Ls->Prop}{s:Ls}{κ:SortKind}{rk:Keyed->Nat}{a₀:Array Keyed}
theorem jr (C:Cmp prog w A s κ a₀.toList rk){st:SortSt}(B:SB κ a₀ st){i j:Nat}{x y:Keyed}(hx:(arrOf st).toList[i]?=some x)(hy:(arrOf st).toList[j]?=some y){Q:Option Bool->SortSt->Prop}(h:Q (some (decide (rk x<rk y))) st):wpS (model prog w) A E s (ltAt' i j) Q st:=by rw[ltAt'_eq];refine HJ (wpS_get ?_);show wpS _ _ _ _ (do let x <- elem' (arrOf st) i;let y <- elem' (arrOf st) j;lt' x y) Q st;refine HJ (aP (by rw[<- HD];exact hx) (HJ (aP (by rw[<- HD];exact hy) ?_)));exact vv C (B.perm.subset (Jv hx)) (B.perm.subset (Jv hy)) B.kind h
theorem SB.set {st:SortSt}(B:SB κ a₀ st){xs:Array Keyed}(h:xs.toList.Perm (arrOf st).toList):SB κ a₀ (setArr st xs):=⟨h.trans B.perm,B.kind,B.fail⟩
theorem vy (C:Cmp prog w A s κ a₀.toList rk){st:SortSt}(B:SB κ a₀ st){P X R:List Keyed}(e:(arrOf st).toList=P++X++R){ok:Nat}(h1:1<=ok)(hok:ok<=X.length)(hs:Srt rk (X.take ok)){Q:Bool->SortSt->Prop}
 (hq:∀ Z st',SB κ a₀ st'->(arrOf st').toList=P++Z++R->Srt rk Z->Z.length=X.length->pendingOf st'=pendingOf st->Q true st'):wpS (model prog w) A E s (binarySort' P.length X.length ok) Q st:=by
 rw[binarySort'_eq,Nat.max_eq_left h1];have e0:(arrOf st).toList=P++X.take ok++(X.drop ok++R):=by
  rw[e];conv=>lhs;rw[<- HZ ok X]
  simp only[HH]
 refine HJ (Jf (Je (I:=fun k (c:Option Bool×Unit) st'=>c.1=none/\SB κ a₀ st'/\pendingOf st'=pendingOf st/\∃ Z:List Keyed,Z.length=k/\Srt rk Z/\(arrOf st').toList=P++Z++(X.drop k++R))
  (Q:=fun c st'=>c.1=none/\SB κ a₀ st'/\pendingOf st'=pendingOf st/\∃ Z:List Keyed,Z.length=X.length/\Srt rk Z/\(arrOf st').toList=P++Z++R) ?_ ?_ ⟨rfl,B,rfl,X.take ok,by rw[Ib];omega,hs,e0⟩) ?_)
 .rintro k ⟨r,u⟩ st' hk1 hk2 ⟨rfl,B',hp,Z,hZ,sZ,eZ⟩;obtain⟨x,hx⟩ : ∃ x,X[k]?=some x:=⟨X[k],by simp[hk2]⟩;have dX:X.drop k=x::X.drop (k+1):=by obtain⟨h1,h2⟩:=Hv.mp hx;rw[IX h1,h2]
  rw[dX]at eZ;have ax:(arrOf st').toList[P.length+k]?=some x:=by rw[eZ,HC (by simp;omega),<- hZ];simp
  have aZ:∀ m z,Z[m]?=some z->(arrOf st').toList[P.length+m]?=some z:=fun m z hz=>by have hm:=(Hv.mp hz).1;rw[eZ,HH,HC (by omega),HK (by omega),<- hz];congr 1;omega
  dsimp only;refine HJ (Jf (Je (I:=fun i (c:Option Bool×Nat×Nat) st2=>c.1=none/\st2=st'/\c.2.1<=c.2.2/\c.2.2<=k/\(c.2.2-c.2.1)+i<=k/\(∀ m z,m<c.2.1->Z[m]?=some z->rk z<=rk x)/\(∀ m z,c.2.2<=m->Z[m]?=some z->rk x<rk z))
   (Q:=fun c st2=>c.1=none/\st2=st'/\c.2.1<=k/\(∀ m z,m<c.2.1->Z[m]?=some z->rk z<=rk x)/\(∀ m z,c.2.1<=m->Z[m]?=some z->rk x<rk z)) ?_ ?_ ⟨rfl,rfl,Ij _,HB _,by dsimp only;omega,(fun m z hm=>by dsimp only at hm;omega),fun m z hm hz=>by have:=(Hv.mp hz).1;dsimp only at hm;omega⟩) ?_)
  .rintro i ⟨r,l,q⟩ st2 _ hi ⟨rfl,rfl,c1,c2,c3,c4,c5⟩;dsimp only at *;by_cases hlq:l>=q
   .rw[Hx hlq];have:l=q:=by omega
    subst this;exact HR ⟨rfl,rfl,c2,c4,c5⟩
   .rw[Hz hlq];obtain⟨z,hz⟩ : ∃ z,Z[(l+q) / 2]?=some z:=⟨Z[(l+q) / 2]'(by omega),by simp⟩;refine HJ (jr C B' ax (aZ _ z hz) ?_);dsimp only;by_cases hless:rk x<rk z
    .rw[HG hless,Hx rfl];exact HR ⟨rfl,rfl,by dsimp only;omega,by dsimp only;omega,by dsimp only;omega,c4,fun m v hm hv=>Il hless (dZ sZ hz hv hm)⟩
    .rw[HF hless,Hz (by simp)];exact HR ⟨rfl,rfl,by dsimp only;omega,by dsimp only;omega,by dsimp only;omega,fun m v hm hv=>HS (dZ sZ hv hz (by dsimp only at hm;omega)) (JK hless),c5⟩
  .rintro⟨r,l,q⟩ st2 ⟨rfl,rfl,c1,c2,c3,c4,c5⟩;dsimp only at *;have:l=q:=by omega
   subst this;exact⟨rfl,rfl,c2,c4,c5⟩
  .rintro⟨r,l,q⟩ st2 ⟨rfl,rfl,c2,c4,c5⟩;dsimp only at c2 c4 c5 ⊢;rw[moveDown'_eq];refine HJ (wpS_modify (HR ?_));have e1:(arrOf st2).toList=(P++Z.take l)++Z.drop l++x::(X.drop (k+1)++R):=by
    rw[eZ];conv=>lhs;rw[<- HZ l Z]
    simp only[HH,Lk]
   have eb:=nP e1;rw[show(P++Z.take l).length+(Z.drop l).length=P.length+k by simp;omega,show(Z.drop l).length=P.length+k-(P.length+l) by simp;omega]at eb;refine⟨rfl,B'.set ?_,hp,Z.take l++x::Z.drop l,by simp;omega,?_,?_⟩
   .exact(bubble_perm _ _ _).toList
   .refine gu (sZ.sublist (Jy _ _)) (Iw.mpr ⟨fun z hz=>?_,sZ.sublist (JR _ _)⟩) fun y hy z hz=>?_
    .obtain⟨p,h1,h2⟩:=aS hz;exact IH (c5 p z h1 h2)
    .obtain⟨p,h1,h2⟩:=aT hy;have hyx:=c4 p y h1 h2;rcases HE.mp hz with rfl|hz
     .exact hyx
     .obtain⟨p2,h3,h4⟩:=aS hz;exact HS hyx (IH (c5 p2 z h3 h4))
   .show(bubble (arrOf st2) (P.length+k) (P.length+k-(P.length+l))).toList=_;rw[eb];simp only[HH,Lk]
 .rintro⟨r,u⟩ st' ⟨rfl,B',hp,Z,hZ,sZ,eZ⟩;rw[Ll hok]at hZ eZ;exact⟨rfl,B',hp,Z,hZ,sZ,by rw[eZ,KQ];rfl⟩
 .rintro⟨r,u⟩ st' ⟨rfl,B',hp,Z,hZ,sZ,eZ⟩;exact HR (hq Z st' B' eZ sZ hZ hp)
noncomputable def Eu (lo:Nat)(c:Option (Option Nat)×Nat):SM (ForInStep (Option (Option Nat)×Nat)):=do
 let x <- ltAt' (lo+c.2) (lo+c.2-1)
 match x with
 |some y=>if y=true then pure (ForInStep.done (none,c.2)) else pure (ForInStep.yield (none,c.2+1))
 |_=>pure (ForInStep.done (some none,c.2))
theorem kg {T:List Keyed}{n:Nat}{x y:Keyed}(hs:Srt rk (T.take n))(hn:1<=n)(hx:T[n]?=some x)(hy:T[n-1]?=some y)(h:rk y<=rk x):Srt rk (T.take (n+1)):=by
 obtain⟨h1,h2⟩:=Hv.mp hx;rw[JO h1,h2];refine gu hs (Jg _ _) fun z hz v hv=>?_;rw[IK]at hv;subst hv;obtain⟨p,p1,p2⟩:=aT hz;refine HS (dZ hs (p:=p) (q:=n-1) (x:=z) (y:=y) ?_ ?_ (by omega)) h
 .rw[IA,Hx p1];exact p2
 .rw[IA,Hx (by omega)];exact hy
theorem AM (C:Cmp prog w A s κ a₀.toList rk){st:SortSt}(B:SB κ a₀ st){P T:List Keyed}(e:(arrOf st).toList=P++T){a:Nat}(h1:1<=a)(ha:a<=T.length)(hs:Srt rk (T.take a)){Q:Option (Option Nat)×Nat->SortSt->Prop}
 (hq:∀ n,a<=n->n<=T.length->Srt rk (T.take n)->(∀ x y,T[n]?=some x->T[n-1]?=some y->rk x<rk y)->Q (none,n) st):wpS (model prog w) A E s (forIn [a:T.length] ((none,a):Option (Option Nat)×Nat) fun _ c=>Eu P.length c) Q st:=by
 have at_:∀ n x,T[n]?=some x->(arrOf st).toList[P.length+n]?=some x:=fun n x hx=>by rw[e,HC (by omega),<- hx];congr 1;omega
 refine Jf (Je (I:=fun i (c:Option (Option Nat)×Nat) st'=>st'=st/\c=(none,i)/\Srt rk (T.take i)) (Q:=fun c st'=>st'=st/\∃ n,c=(none,n)/\a<=n/\n<=T.length/\Srt rk (T.take n)/\(∀ x y,T[n]?=some x->T[n-1]?=some y->rk x<rk y)) ?_ ?_ ⟨rfl,rfl,hs⟩) ?_
 .rintro i c st' AI hi2 ⟨rfl,rfl,hs'⟩;obtain⟨x,hx⟩ : ∃ x,T[i]?=some x:=⟨T[i],by simp[hi2]⟩;obtain⟨y,hy⟩ : ∃ y,T[i-1]?=some y:=⟨T[i-1]'(by omega),by simp⟩;unfold Eu;refine HJ (jr C B (at_ i x hx) (by rw[show P.length+i-1=P.length+(i-1) by omega];exact at_ _ y hy) ?_);dsimp only;by_cases h:rk x<rk y
  .rw[HG h,Hx rfl];exact HR ⟨rfl,i,rfl,AI,by omega,hs',fun x' y' hx' hy'=>by rw[hx]at hx';rw[hy]at hy';cases hx';cases hy';exact h⟩
  .rw[HF h,Hz (by simp)];exact HR ⟨rfl,rfl,kg hs' (by omega) hx hy (JK h)⟩
 .rintro c st' ⟨rfl,rfl,hs'⟩;rw[Ll ha]at hs' ⊢;exact⟨rfl,T.length,rfl,ha,HB _,hs',fun x y hx=>by rw[Jd (HB _)]at hx;cases hx⟩
 .rintro c st' ⟨rfl,n,rfl,h2,h3,h4,h5⟩;exact hq n h2 h3 h4 h5
theorem AN {l:List Keyed}(h:(l.map rk).Nodup){i j:Nat}{x y:Keyed}(hij:i<j)(hx:l[i]?=some x)(hy:l[j]?=some y):rk x≠rk y:=by obtain⟨h1,e1⟩:=Hv.mp hx;obtain⟨h2,e2⟩:=Hv.mp hy;have:=Ih.mp h i j (by simpa using h1) (by simpa using h2) hij;simp only[List.getElem_map,e1,e2]at this;exact this
theorem yy (C:Cmp prog w A s κ a₀.toList rk)(D:(a₀.toList.map rk).Nodup){st:SortSt}(B:SB κ a₀ st){P T:List Keyed}(e:(arrOf st).toList=P++T)(h1:1<=T.length){Q:Option Nat->SortSt->Prop}
 (hq:∀ X R st',SB κ a₀ st'->(arrOf st').toList=P++X++R->Srt rk X->1<=X.length->pendingOf st'=pendingOf st->Q (some X.length) st'):wpS (model prog w) A E s (countRun' P.length T.length) Q st:=by
 rw[countRun'_eq];dsimp only;refine HJ (Jf (AM C B e (a:=1) (HB _) h1 (by
  cases T with
  |nil=>simp at h1
  |cons t r=>exact Jg _ _) (Q:=fun c st'=>st'=st/\∃ n,c=(none,n)/\1<=n/\n<=T.length/\Srt rk (T.take n)/\(∀ x y,T[n]?=some x->T[n-1]?=some y->rk x<rk y)) fun n a1 a2 a3 a4=>⟨rfl,n,rfl,a1,a2,a3,a4⟩) ?_)
 rintro c st' ⟨rfl,n,rfl,a1,a2,a3,a4⟩;dsimp only;by_cases hn:n=T.length
 .rw[Hx (by simpa using hn)];subst hn;rw[List.take_length]at a3;exact HR (hq T [] st' B (by rw[e];simp) a3 h1 rfl)
 .rw[Hz (by simpa using hn)];have D':((arrOf st').toList.map rk).Nodup:=(B.perm.map rk).nodup_iff.mpr D;have DT:(T.map rk).Nodup:=by rw[e,IU,List.nodup_append]at D';exact D'.2.1
  have at_:∀ n x,T[n]?=some x->(arrOf st').toList[P.length+n]?=some x:=fun n x hx=>by rw[e,HC (by omega),<- hx];congr 1;omega
  by_cases hn1:n>1
  .rw[Hx hn1];obtain⟨x,hx⟩ : ∃ x,T[0]?=some x:=⟨T[0]'(by omega),by simp⟩;obtain⟨y,hy⟩ : ∃ y,T[n-1]?=some y:=⟨T[n-1]'(by omega),by simp⟩;have hlt:rk x<rk y:=by have h2:=dZ a3 (p:=0) (q:=n-1) (x:=x) (y:=y) (by rw[IA,Hx (by omega)];exact hx) (by rw[IA,Hx (by omega)];exact hy) (by omega);have h3:=AN DT (i:=0) (j:=n-1) (by omega) hx hy;omega
   refine HJ (jr C B (by have:=at_ 0 x hx;simpa using this) (by rw[show P.length+n-1=P.length+(n-1) by omega];exact at_ _ y hy) ?_);dsimp only;rw[HG hlt,Hx rfl];have:=hq (T.take n) (T.drop n) st' B (by rw[e,HH,HZ]) a3 (by rw[Ib];omega) rfl;rw[Ib,K1 a2]at this;exact HR this
  .rw[Hz hn1];have:n=1:=by omega
   subst this;refine HJ (g9 ?_);refine HJ (Jf (Je (I:=fun i (c:Option (Option Nat)×Nat×Nat) st2=>st2=st'/\c=(none,i,0)/\(T.take i).Pairwise fun x y=>rk y<=rk x) (Q:=fun c st2=>st2=st'/\∃ m,c=(none,m,0)/\2<=m/\m<=T.length/\(T.take m).Pairwise fun x y=>rk y<=rk x) ?_ ?_ ⟨rfl,rfl,?_⟩) ?_)
   .rintro i c st2 AI hi2 ⟨rfl,rfl,hd⟩;obtain⟨x,hx⟩ : ∃ x,T[i]?=some x:=⟨T[i],by simp[hi2]⟩;obtain⟨y,hy⟩ : ∃ y,T[i-1]?=some y:=⟨T[i-1]'(by omega),by simp⟩;refine HJ (jr C B (at_ i x hx) (by rw[show P.length+i-1=P.length+(i-1) by omega];exact at_ _ y hy) ?_);dsimp only;by_cases h:rk x<rk y
    .rw[HG h,Hx rfl,Hz (by omega)];refine HR ⟨rfl,rfl,?_⟩;obtain⟨g1,g2⟩:=Hv.mp hx;rw[JO g1,g2];refine IY.mpr ⟨hd,Jg _ _,fun z hz v hv=>?_⟩;rw[IK]at hv;subst hv;obtain⟨p,p1,p2⟩:=aT hz;by_cases hpi:p=i-1
     .rw[hpi,hy]at p2;cases p2;exact IH h
     .have q1:(T.take i)[p]?=some z:=by rw[IA,Hx p1];exact p2
      have q2:(T.take i)[i-1]?=some y:=by rw[IA,Hx (by omega)];exact hy
      obtain⟨b1,c1⟩:=Hv.mp q1;obtain⟨b2,c2⟩:=Hv.mp q2;have:=Ih.mp hd p (i-1) b1 b2 (by omega);rw[c1,c2]at this;omega
    .rw[HF h,Hz (by simp)];have hne:=AN DT (i:=i-1) (j:=i) (by omega) hy hx;refine HJ (jr C B (by rw[show P.length+i-1=P.length+(i-1) by omega];exact at_ _ y hy) (at_ i x hx) ?_);dsimp only;rw[HG (show rk y<rk x by omega),Hx rfl];exact HR ⟨rfl,i,rfl,AI,by omega,hd⟩
   .rintro c st2 ⟨rfl,rfl,hd⟩;rw[Ll (by omega)]at hd ⊢;exact⟨rfl,T.length,rfl,by omega,HB _,hd⟩
   .obtain⟨x,hx⟩ : ∃ x,T[0]?=some x:=⟨T[0]'(by omega),by simp⟩;obtain⟨y,hy⟩ : ∃ y,T[1]?=some y:=⟨T[1]'(by omega),by simp⟩;have:=a4 y x hy hx;cases T with
    |nil=>simp at h1
    |cons t r=>
     cases r with
     |nil=>simp at hn
     |cons u r=>simp at hx hy;subst hx;subst hy;show List.Pairwise _ [t,u];refine Iw.mpr ⟨fun z hz=>?_,Jg _ _⟩;rw[IK]at hz;subst hz;omega
   .rintro c st2 ⟨rfl,m,rfl,m1,m2,hd⟩;dsimp only;rw[Hz (by omega),reverseSlice'_eq];refine HJ (wpS_modify ?_);have e3:(arrOf st2).toList=P++T.take m++T.drop m:=by rw[e,HH,HZ]
    have em:=nQ e3;rw[show P.length+(T.take m).length=P.length+m by simp;omega]at em;have B2:SB κ a₀ (setArr st2 (mirror (arrOf st2) P.length (P.length+m) ((P.length+m-P.length) / 2))):=B.set (mirror_perm _ _ _ _).toList;have lT:((T.take m).reverse++T.drop m).length=T.length:=by simp;omega
    have tT:((T.take m).reverse++T.drop m).take m=(T.take m).reverse:=by rw[KP (by simp;omega),IG (by simp;omega)]
    have asc:=AM (E:=E) C B2 (P:=P) (T:=(T.take m).reverse++T.drop m) (by show(mirror (arrOf st2) P.length (P.length+m) ((P.length+m-P.length) / 2)).toList=_;rw[em,HH]) (a:=m) (by omega) (by omega) (by rw[tT];unfold Srt;rw[KJ];exact hd)
     (Q:=fun c st3=>st3=setArr st2 (mirror (arrOf st2) P.length (P.length+m) ((P.length+m-P.length) / 2))/\∃ n,c=(none,n)/\m<=n/\n<=T.length/\Srt rk (((T.take m).reverse++T.drop m).take n)) fun n b1 b2 b3 _=>⟨rfl,n,rfl,b1,by omega,b3⟩
    rw[lT]at asc;refine HJ (Jf asc ?_);rintro c st3 ⟨rfl,n,rfl,b1,b2,b3⟩;dsimp only;have:=hq (((T.take m).reverse++T.drop m).take n) (((T.take m).reverse++T.drop m).drop n) _ B2 (by show(mirror (arrOf st2) P.length (P.length+m) ((P.length+m-P.length) / 2)).toList=_;rw[em,HH,HH,HZ]) b3 (by rw[Ib];omega) rfl;rw[Ib,K1 (by omega)]at this;exact HR this
end
noncomputable abbrev Pn:=List (Nat×Nat×Nat)
noncomputable def Ch (rk:Keyed->Nat):List (Nat×Nat)->Nat->List Keyed->Prop
 | [],_,xs=>xs=[]
 |(u,n)::l,c,xs=>∃ X Y,xs=X++Y/\u=c/\X.length=n/\0<n/\Srt rk X/\Ch rk l (c+n) Y
noncomputable def pm (l:Pn):List (Nat×Nat):=l.map fun t=>(t.1,t.2.1)
section
variable {rk:Keyed->Nat}
theorem Ch.split:∀{l₁ l₂:List (Nat×Nat)}{c:Nat}{xs:List Keyed},Ch rk (l₁++l₂) c xs->∃ A B,xs=A++B/\Ch rk l₁ c A/\Ch rk l₂ (c+A.length) B
 | [],l₂,c,xs,h=>⟨[],xs,rfl,rfl,h⟩
 |(u,n)::l,l₂,c,xs,h=>by obtain⟨X,Y,rfl,h1,h2,h3,h4,h5⟩:=h;obtain⟨A,B,rfl,g1,g2⟩:=Ch.split h5;refine⟨X++A,B,by simp,⟨X,A,rfl,h1,h2,h3,h4,g1⟩,?_⟩;rw[show c+(X++A).length=c+n+A.length by simp;omega];exact g2
theorem Ch.join:∀{l₁ l₂:List (Nat×Nat)}{c:Nat}{A B:List Keyed},Ch rk l₁ c A->Ch rk l₂ (c+A.length) B->Ch rk (l₁++l₂) c (A++B)
 | [],l₂,c,A,B,h,g=>by have:A=[]:=h;subst this;simpa using g
 |(u,n)::l,l₂,c,A,B,h,g=>by obtain⟨X,Y,rfl,h1,h2,h3,h4,h5⟩:=h;refine⟨X,Y++B,by simp,h1,h2,h3,h4,Ch.join h5 ?_⟩;rw[show c+n+Y.length=c+(X++Y).length by simp;omega];exact g
theorem Ch.len:∀{l:List (Nat×Nat)}{c:Nat}{xs:List Keyed},Ch rk l c xs->l.length<=xs.length
 | [],c,xs,h=>Ij _
 |(u,n)::l,c,xs,h=>by obtain⟨X,Y,rfl,h1,h2,h3,h4,h5⟩:=h;have:=Ch.len h5;simp;omega
end
section
variable {prog:Lw}{w:World}{A:Ly}{E:Lx->Ls->Prop}{s:Ls}{κ:SortKind}{rk:Keyed->Nat}{a₀:Array Keyed}
theorem k9 (C:Cmp prog w A s κ a₀.toList rk){st:SortSt}(B:SB κ a₀ st){D R:List Keyed}(e:(arrOf st).toList=D++R)(hc:Ch rk (pm (pendingOf st).toList) 0 D){i:Nat}(hi:i+1<(pendingOf st).size){Q:Bool->SortSt->Prop}
 (hq:∀ D' st',SB κ a₀ st'->(arrOf st').toList=D'++R->D'.length=D.length->Ch rk (pm (pendingOf st').toList) 0 D'->(pendingOf st').size+1=(pendingOf st).size->Q true st'):wpS (model prog w) A E s (mergeAt' i) Q st:=by
 have hl:i+1<(pendingOf st).toList.length:=by simpa using hi
 obtain⟨l₁,x,y,l₂,hp,hl1⟩ : ∃(l₁:Pn)(x y:Nat×Nat×Nat)(l₂:Pn),(pendingOf st).toList=l₁++x::y::l₂/\l₁.length=i:=by refine⟨(pendingOf st).toList.take i,(pendingOf st).toList[i]'(by omega),(pendingOf st).toList[i+1],(pendingOf st).toList.drop (i+2),?_,by rw[Ib];omega⟩;rw[<- IX (by omega),<- IX (by omega),HZ]
 obtain⟨u,n,q⟩:=x;obtain⟨v,m,q'⟩:=y;have hpm:pm (pendingOf st).toList=pm l₁++(u,n)::(v,m)::pm l₂:=by rw[hp];simp[pm]
 rw[hpm]at hc;obtain⟨P,T,rfl,c1,c2⟩:=hc.split;obtain⟨X,Y',rfl,rfl,rfl,n1,sX,Y,Z,rfl,rfl,rfl,n2,sY,c3⟩:=c2;rw[JX]at hp c3 hpm;subst hl1;refine tF C B (P:=P) (X:=X) (Y:=Y) (R:=Z++R) (by rw[e];simp) sX sY n1 n2 hp fun W st' B' e' sW lW hp'=>hq (P++(W++Z)) st' B' (by rw[e'];simp) (by simp;omega) ?_ ?_
 .rw[hp',show pm (l₁++(P.length,X.length+Y.length,q)::l₂)=pm l₁++(P.length,X.length+Y.length)::pm l₂ by simp[pm]];refine Ch.join c1 ⟨W,Z,rfl,by simp,lW,by omega,sW,?_⟩;rw[JX,<- Nat.add_assoc];exact c3
 .rw[<- HX,<- HX,hp',hp];simp;omega
noncomputable def qU (pw:Nat):SM (ForInStep (Option Unit×Unit)):=do
 let t <- get
 match (if (pendingOf t).size>1 then (pendingOf t)[(pendingOf t).size-2]? else none) with
 |some (_,_,o)=>if o<=pw then pure (.done (none,())) else do
  let y <- mergeAt' ((pendingOf t).size-2)
  if (!y)=true then pure (.done (some (),())) else pure (.yield (none,()))
 |_=>pure (.done (none,()))
def tG (size lo n:Nat):SM (ForInStep (Option Unit×Nat)):=do
 let t <- get
 match (pendingOf t).back? with
 |some (u,m,_)=>do
  let r <- forIn [0:size] ((none,()):Option Unit×Unit) fun _ _=>qU (power' size (2*u+m) (2*u+m+m+n) size)
  match r.1 with
  |some x=>pure (.done (some x,lo))
  |none=>do
   modify fun t=>setPending t ((pendingOf t).modify ((pendingOf t).size-1) fun x=>(x.1,x.2.1,power' size (2*u+m) (2*u+m+m+n) size))
   modify fun t=>setPending t ((pendingOf t).push (lo,n,0))
   pure (.yield (none,lo+n))
 |_=>do
  modify fun t=>setPending t ((pendingOf t).push (lo,n,0))
  pure (.yield (none,lo+n))
def BN (size mr:Nat)(c:Option Unit×Nat):SM (ForInStep (Option Unit×Nat)):=
 if c.2>=size then pure (.done (none,c.2)) else do
  let x <- countRun' c.2 (size-c.2)
  match x with
  |some n=>
   if n<mr then do
    rule "list.sort.binary-insertion"
    let y <- binarySort' c.2 (min (size-c.2) mr) n
    if (!y)=true then pure (.done (some (),c.2)) else tG size c.2 (min (size-c.2) mr)
   else tG size c.2 n
  |_=>pure (.done (some (),c.2))
noncomputable def BO:SM (ForInStep (Option Unit×Unit)):=do
 let t <- get
 if (pendingOf t).size<=1 then pure (.done (none,())) else do
  let y <- mergeAt' (if (if (pendingOf t).size-2>0 then (pendingOf t)[(pendingOf t).size-2-1]?.map (·.2.1) else none).any (·< ((pendingOf t)[(pendingOf t).size-2+1]?.elim 0 (·.2.1))) then (pendingOf t).size-2-1 else (pendingOf t).size-2)
  if (!y)=true then pure (.done (some (),())) else pure (.yield (none,()))
theorem yz:sortRuns'=(do
 let t <- get
 let r <- forIn [0:(arrOf t).size] ((none,0):Option Unit×Nat) fun _ c=>BN (arrOf t).size (minRun' (arrOf t).size (arrOf t).size 0) c
 match r.1 with
 |some x=>pure x
 |none=>do
  let q <- forIn [0:(arrOf t).size] ((none,()):Option Unit×Unit) fun _ _=>BO
  match q.1 with
  |some x=>pure x
  |none=>pure ()):=by
 rw[sortRuns'_eq];refine Ie (get >>= ·) ?_;funext t;dsimp only;refine congr (Ie Bind.bind ?_) ?_
 .refine Ie (forIn [0:(arrOf t).size] ((none,0):Option Unit×Nat)) ?_;funext _ c;unfold BN;refine Lf rfl (fun _=>rfl) fun _=>?_;refine Ie (countRun' c.2 ((arrOf t).size-c.2) >>= ·) ?_;funext x;cases x with
  |none=>rfl
  |some n=>
   refine Lf rfl (fun _=>?_) fun _=>?_
   .refine Ie (liftM (rule "list.sort.binary-insertion") >>= ·) ?_;funext _;refine Ie (binarySort' c.2 (min ((arrOf t).size-c.2) (minRun' (arrOf t).size (arrOf t).size 0)) n >>= ·) ?_;funext y;refine Lf rfl (fun _=>rfl) fun _=>?_;unfold tG;refine Ie (get >>= ·) ?_;funext t2;generalize (pendingOf t2).back?=bk;cases bk with
    |none=>rfl
    |some b=>
     obtain⟨u,m,q⟩:=b;dsimp only;refine congr (Ie Bind.bind ?_) ?_
     .refine Ie (forIn [0:(arrOf t).size] ((none,()):Option Unit×Unit)) ?_;funext _ _;unfold qU;refine Ie (get >>= ·) ?_;funext t3;generalize (if (pendingOf t3).size>1 then (pendingOf t3)[(pendingOf t3).size-2]? else none)=o;cases o with
      |none=>rfl
      |some o=>rfl
     .funext r;obtain⟨r,_⟩:=r;cases r with
      |none=>rfl
      |some x=>rfl
   .unfold tG;refine Ie (get >>= ·) ?_;funext t2;generalize (pendingOf t2).back?=bk;cases bk with
    |none=>rfl
    |some b=>
     obtain⟨u,m,q⟩:=b;dsimp only;refine congr (Ie Bind.bind ?_) ?_
     .refine Ie (forIn [0:(arrOf t).size] ((none,()):Option Unit×Unit)) ?_;funext _ _;unfold qU;refine Ie (get >>= ·) ?_;funext t3;generalize (if (pendingOf t3).size>1 then (pendingOf t3)[(pendingOf t3).size-2]? else none)=o;cases o with
      |none=>rfl
      |some o=>rfl
     .funext r;obtain⟨r,_⟩:=r;cases r with
      |none=>rfl
      |some x=>rfl
 .funext r;obtain⟨r,lo⟩:=r;cases r with
  |some x=>rfl
  |none=>
   dsimp only;refine congr (Ie Bind.bind ?_) ?_
   .refine Ie (forIn [0:(arrOf t).size] ((none,()):Option Unit×Unit)) ?_;funext _ _;unfold BO;rfl
   .funext r;obtain⟨r,_⟩:=r;cases r with
    |none=>rfl
    |some x=>rfl
theorem t_runs (C:Cmp prog w A s κ a₀.toList rk)(Dn:(a₀.toList.map rk).Nodup){st:SortSt}(B:SB κ a₀ st)(hpe:pendingOf st=#[])(h2:2<=a₀.size){Q:Unit->SortSt->Prop}
 (hq:∀ st',SB κ a₀ st'->Srt rk (arrOf st').toList->Q () st'):wpS (model prog w) A E s sortRuns' Q st:=by
 have hsz:∀{st':SortSt},SB κ a₀ st'->(arrOf st').toList.length=a₀.size:=fun B'=>by rw[B'.perm.length_eq];simp
 have hs0:(arrOf st).size=a₀.size:=by have:=hsz B;simpa using this
 rw[yz];refine HJ (wpS_get ?_);rw[hs0];generalize minRun' a₀.size a₀.size 0=mr;refine HJ (Jf (Je (I:=fun i (c:Option Unit×Nat) st'=>c.1=none/\i<=c.2/\c.2<=a₀.size/\SB κ a₀ st'/\∃ D R,(arrOf st').toList=D++R/\D.length=c.2/\Ch rk (pm (pendingOf st').toList) 0 D)
  (Q:=fun c st'=>c.1=none/\SB κ a₀ st'/\Ch rk (pm (pendingOf st').toList) 0 (arrOf st').toList) ?_ ?_ ⟨rfl,Ij _,Ij _,B,[],(arrOf st).toList,rfl,rfl,by rw[hpe];rfl⟩) ?_)
 .rintro i ⟨r,lo⟩ st1 _ hi ⟨rfl,hlo,hlo2,B1,D,R,e1,hD,hc⟩;dsimp only at hlo hlo2 hD;have bg:=hsz B1;rw[e1,Ig]at bg;unfold BN;dsimp only;by_cases hge:lo>=a₀.size
  .rw[Hx hge];have:R=[]:=Kz.mp (by omega);subst this;exact HR ⟨rfl,B1,by rw[e1,IS];exact hc⟩
  .rw[Hz hge];have aW:∀(n:Nat)(st2:SortSt)(X R2:List Keyed),0<n->X.length=n->Srt rk X->SB κ a₀ st2->(arrOf st2).toList=D++X++R2->pendingOf st2=pendingOf st1->wpS (model prog w) A E s (tG a₀.size lo n) (fun r st'=>match r with
    | .done c'=>c'.1=none/\SB κ a₀ st'/\Ch rk (pm (pendingOf st').toList) 0 (arrOf st').toList
    | .yield c'=>c'.1=none/\i+1<=c'.2/\c'.2<=a₀.size/\SB κ a₀ st'/\∃ D R,(arrOf st').toList=D++R/\D.length=c'.2/\Ch rk (pm (pendingOf st').toList) 0 D) st2:=by
    intro n st2 X R2 n0 hX sX B2 e2 hp2;have l2:=hsz B2;rw[e2]at l2;simp only[Ig]at l2;have push:∀(st3:SortSt)(D3:List Keyed),SB κ a₀ st3->(arrOf st3).toList=D3++(X++R2)->D3.length=lo->Ch rk (pm (pendingOf st3).toList) 0 D3->wpS (model prog w) A E s (do
     modify fun t=>setPending t ((pendingOf t).push (lo,n,0))
     pure (ForInStep.yield ((none,lo+n):Option Unit×Nat))) (fun r st'=>match r with
     | .done c'=>c'.1=none/\SB κ a₀ st'/\Ch rk (pm (pendingOf st').toList) 0 (arrOf st').toList
     | .yield c'=>c'.1=none/\i+1<=c'.2/\c'.2<=a₀.size/\SB κ a₀ st'/\∃ D R,(arrOf st').toList=D++R/\D.length=c'.2/\Ch rk (pm (pendingOf st').toList) 0 D) st3:=by
     intro st3 D3 B3 e3 l3 c3;refine HJ (wpS_modify (HR ⟨rfl,by dsimp only;omega,by dsimp only;omega,⟨B3.perm,B3.kind,B3.fail⟩,D3++X,R2,by show(arrOf st3).toList=_;rw[e3];simp,by simp;omega,?_⟩));show Ch rk (pm ((pendingOf st3).push (lo,n,0)).toList) 0 (D3++X);rw[JU,show pm ((pendingOf st3).toList++[(lo,n,0)])=pm (pendingOf st3).toList++[(lo,n)] by simp[pm]];exact Ch.join c3 ⟨X,[],by simp,by omega,hX,n0,sX,rfl⟩
    unfold tG;refine HJ (wpS_get ?_);cases hb:(pendingOf st2).back? with
    |none=>exact push st2 D B2 (by rw[e2];simp) hD (by rw[hp2];exact hc)
    |some b=>
     obtain⟨u,m,q⟩:=b;dsimp only;generalize power' a₀.size (2*u+m) (2*u+m+m+n) a₀.size=pw;refine HJ (Jf (Je (I:=fun _ (c:Option Unit×Unit) st'=>c.1=none/\SB κ a₀ st'/\∃ D3,(arrOf st').toList=D3++(X++R2)/\D3.length=lo/\Ch rk (pm (pendingOf st').toList) 0 D3)
      (Q:=fun c st'=>c.1=none/\SB κ a₀ st'/\∃ D3,(arrOf st').toList=D3++(X++R2)/\D3.length=lo/\Ch rk (pm (pendingOf st').toList) 0 D3) ?_ (fun c st' h=>h) ⟨rfl,B2,D,by rw[e2];simp,hD,by rw[hp2];exact hc⟩) ?_)
     .rintro j ⟨r,_⟩ st3 _ _ ⟨rfl,B3,D3,e3,l3,c3⟩;unfold qU;refine HJ (wpS_get ?_);by_cases hp1:(pendingOf st3).size>1
      .rw[Hx hp1];have hg:∃ o,(pendingOf st3)[(pendingOf st3).size-2]?=some o:=⟨(pendingOf st3)[(pendingOf st3).size-2]'(by omega),by simp⟩;obtain⟨⟨o1,o2,o3⟩,ho⟩:=hg;rw[ho];dsimp only;by_cases ho3:o3<=pw
       .rw[Hx ho3];exact HR ⟨rfl,B3,D3,e3,l3,c3⟩
       .rw[Hz ho3];refine HJ (k9 C B3 e3 c3 (by omega) fun D4 st4 B4 e4 l4 c4 _=>?_);rw[Hz (by simp)];exact HR ⟨rfl,B4,D4,e4,by omega,c4⟩
      .rw[Hz hp1];exact HR ⟨rfl,B3,D3,e3,l3,c3⟩
     .rintro⟨r,_⟩ st3 ⟨rfl,B3,D3,e3,l3,c3⟩;dsimp only;refine HJ (wpS_modify ?_);refine push _ D3 ⟨B3.perm,B3.kind,B3.fail⟩ e3 l3 ?_;show Ch rk (pm ((pendingOf st3).modify ((pendingOf st3).size-1) fun x=>(x.1,x.2.1,pw)).toList) 0 D3;have:pm ((pendingOf st3).modify ((pendingOf st3).size-1) fun x=>(x.1,x.2.1,pw)).toList=pm (pendingOf st3).toList:=by
       unfold pm;apply Jq
       intro k;rw[Ip,Ip,HD,HD,Array.getElem?_modify];by_cases hk:(pendingOf st3).size-1=k
       .rw[Hx hk];cases (pendingOf st3)[k]?<;>rfl
       .rw[Hz hk]
      rw[this];exact c3
   have hRl:R.length=a₀.size-lo:=by omega
   have cnt:=yy (E:=E) C Dn B1 e1 (by omega) (Q:=fun x st'=>∃ X R2,x=some X.length/\SB κ a₀ st'/\(arrOf st').toList=D++X++R2/\Srt rk X/\1<=X.length/\pendingOf st'=pendingOf st1) fun X R2 st' b1 b2 b3 b4 b5=>⟨X,R2,rfl,b1,b2,b3,b4,b5⟩;rw[hD,hRl]at cnt;refine HJ (Jf cnt ?_);rintro x st2 ⟨X,R2,rfl,B2,e2,sX,n0,hp2⟩;dsimp only;have l2:=hsz B2;rw[e2]at l2;simp only[Ig]at l2;by_cases hmr:X.length<mr
   .rw[Hx hmr];refine HJ (g9 ?_);have e2':(arrOf st2).toList=D++(X++R2).take (min (a₀.size-lo) mr)++(X++R2).drop (min (a₀.size-lo) mr):=by rw[e2,HH,HH,HZ]
    have lf:((X++R2).take (min (a₀.size-lo) mr)).length=min (a₀.size-lo) mr:=by rw[Ib,Ig];omega
    have bin:=vy (E:=E) C B2 e2' (ok:=X.length) n0 (by omega) (by rw[List.take_take,K1 (by omega),List.take_left];exact sX) (Q:=fun y st'=>∃ Z,y=true/\SB κ a₀ st'/\(arrOf st').toList=D++Z++(X++R2).drop (min (a₀.size-lo) mr)/\Srt rk Z/\Z.length=min (a₀.size-lo) mr/\pendingOf st'=pendingOf st2) fun Z st' b1 b2 b3 b4 b5=>⟨Z,rfl,b1,b2,b3,by omega,b5⟩;rw[hD,lf]at bin;refine HJ (Jf bin ?_);rintro y st3 ⟨Z,rfl,B3,e3,sZ,lZ,hp3⟩;rw[Hz (by simp)];exact Jf (aW _ st3 Z _ (by omega) lZ sZ B3 e3 (hp3.trans hp2)) fun r st' h=>by cases r<;>exact h
   .rw[Hz hmr];exact Jf (aW _ st2 X R2 n0 rfl sX B2 e2 hp2) fun r st' h=>by cases r<;>exact h
 .rintro⟨r,lo⟩ st1 ⟨rfl,hlo,hlo2,B1,D,R,e1,hD,hc⟩;dsimp only at hlo hlo2 hD;have bg:=hsz B1;rw[e1,Ig]at bg;have:R=[]:=Kz.mp (by omega);subst this;exact⟨rfl,B1,by rw[e1,IS];exact hc⟩
 .rintro⟨r,lo⟩ st1 ⟨rfl,B1,hc1⟩;dsimp only;have hl0:=hc1.len;rw[hsz B1]at hl0;refine HJ (Jf (Je (I:=fun i (c:Option Unit×Unit) st'=>c.1=none/\SB κ a₀ st'/\Ch rk (pm (pendingOf st').toList) 0 (arrOf st').toList/\(pendingOf st').size+i<=a₀.size) (Q:=fun c st'=>c.1=none/\SB κ a₀ st'/\Ch rk (pm (pendingOf st').toList) 0 (arrOf st').toList/\(pendingOf st').size<=1) ?_ ?_ ⟨rfl,B1,hc1,by simpa[pm] using hl0⟩) ?_)
  .rintro i ⟨r,_⟩ st2 _ hi ⟨rfl,B2,c2,hz⟩;unfold BO;refine HJ (wpS_get ?_);by_cases h1:(pendingOf st2).size<=1
   .rw[Hx h1];exact HR ⟨rfl,B2,c2,h1⟩
   .rw[Hz h1];refine HJ (k9 C B2 (D:=(arrOf st2).toList) (R:=[]) (by simp) c2 ?_ fun D' st3 B3 e3 l3 c3 hz3=>?_)
    .exact(show ∀(p:Prop) [Decidable p],(if p then (pendingOf st2).size-2-1 else (pendingOf st2).size-2)+1<(pendingOf st2).size from fun p _=>by split<;>omega) _
    .rw[Hz (by simp)];rw[IS]at e3;exact HR ⟨rfl,B3,by rw[e3];exact c3,by omega⟩
  .rintro⟨r,_⟩ st2 ⟨rfl,B2,c2,hz⟩;exact⟨rfl,B2,c2,by omega⟩
  .rintro⟨r,_⟩ st2 ⟨rfl,B2,c2,hz⟩;dsimp only;refine HR (hq st2 B2 ?_);have hl:=hsz B2;cases hp:(pendingOf st2).toList with
   |nil=>rw[hp]at c2;have:(arrOf st2).toList=[]:=c2;rw[this];exact List.Pairwise.nil
   |cons x l=>
    have:l=[]:=by
     have h3:(pendingOf st2).toList.length<=1:=by simpa using hz
     rw[hp]at h3;simpa using h3
    subst this;rw[hp]at c2;obtain⟨X,Y,e4,_,_,_,sX,e5⟩:=c2;have e5:Y=[]:=e5;rw[e4,e5,IS];exact sX
end
end TS
namespace L2
open PySem PySem.Spec PySem.Calls PyProof.Rows ST
def dk (K:List (List Int))(k:List Int):Nat:=(K.filter fun j=>lexB j k).length
theorem k_ {p q:List Int->Bool}:∀{K:List (List Int)},(∀ x,p x=true->q x=true)->(K.filter p).length<=(K.filter q).length
 | [],_=>HB _
 |x::K,h=>by
  have ih:=k_ (K:=K) h;rw[IT,IT];cases hp:p x with
  |true=>rw[h x hp];simpa using ih
  |false=>cases hq:q x<;>simp<;>omega
theorem js {p q:List Int->Bool}{z:List Int}:∀{K:List (List Int)},(∀ x,p x=true->q x=true)->z∈K->p z=false->q z=true->(K.filter p).length<(K.filter q).length
 | [],_,h,_,_=>by cases h
 |x::K,h,hz,h1,h2=>by
  have le:=k_ (K:=K) h;rw[IT,IT];rcases HE.mp hz with rfl|hz
  .rw[h1,h2];simp;omega
  .have ih:=js h hz h1 h2;cases hp:p x with
   |true=>rw[h x hp];simpa using ih
   |false=>cases hq:q x<;>simp<;>omega
theorem iY {K:List (List Int)}{a b:List Int}(ha:a∈K)(hb:b∈K):lexB a b=decide (dk K a<dk K b):=by
 have up:∀{a b:List Int},a∈K->lexB a b=true->dk K a<dk K b:=fun{a b} ha h=>js (fun x hx=>l_ x a b hx h) ha (dD a) h;cases h:lexB a b with
 |true=>rw[HG (up ha h)]
 |false=>
  by_cases e:a=b
  .subst e;rw[HF (JA _)]
  .have:=up hb ((gh a b e).resolve_left (by rw[h];simp));rw[HF (by omega)]
theorem im {α β:Type}(f:α->β){l m:List β}(h:l.Perm m):∀ xs:List α,m=xs.map f->∃ ys:List α,ys.Perm xs/\l=ys.map f:=by
 induction h with
 |nil=>intro xs e;have:xs=[]:=List.map_eq_nil_iff.mp e.symm;subst this;exact⟨[],.refl _,rfl⟩
 |cons x _ ih=>
  intro xs e;cases xs with
  |nil=>cases e
  |cons y ys=>rw[HL]at e;obtain⟨rfl,e2⟩:=List.cons.inj e;obtain⟨zs,h1,h2⟩:=ih ys e2;exact⟨y::zs,h1.cons y,by rw[HL,h2]⟩
 |swap x y l=>
  intro xs e;cases xs with
  |nil=>cases e
  |cons a r=>
   cases r with
   |nil=>simp at e
   |cons b r=>simp only[HL,K0]at e;obtain⟨rfl,rfl,rfl⟩:=e;exact⟨b::a::r,List.Perm.swap _ _ _,rfl⟩
 |trans _ _ ih1 ih2=>intro xs e;obtain⟨ys,h1,h2⟩:=ih2 xs e;obtain⟨zs,h3,h4⟩:=ih1 ys h2;exact⟨zs,h3.trans h1,h4⟩
section
variable {prog:Lw}{w:World}{A:Ly}{E:Lx->Ls->Prop}{s:Ls}
open Classical in
noncomputable def cG (xs:List TItem)(p:Keyed):List Int:=if h:∃ x∈xs,p.1=Value.ref x.2 then h.choose.1 else []
noncomputable abbrev oY (x:TItem):Keyed:=(Value.ref x.2,Value.ref x.2)
theorem Tups.same {h:Heap}{xs:List TItem}(t:Tups prog w h xs){x y:TItem}(hx:x∈xs)(hy:y∈xs)(e:x.2=y.2):x.1=y.1:=by
 obtain⟨ox,ix,nx,h1,_,d1,l1⟩:=t.is x hx;obtain⟨oy,iy,ny,h2,_,d2,l2⟩:=t.is y hy;rw[e,h2]at h1;cases h1;rw[d2]at d1;cases d1;have:=ItemsAre.inj l1 l2;unfold iK at this;have inj:∀{a b:List Int},a.map (Sum.inl:Int->Key)=b.map Sum.inl->a=b:=by
  intro a;induction a with
  |nil=>intro b hb;cases b with
   |nil=>rfl
   |cons _ _=>cases hb
  |cons x r ih=>intro b hb;cases b with
   |nil=>cases hb
   |cons y q=>rw[HL,HL]at hb;rw[J9 (List.cons.inj hb).1,ih (List.cons.inj hb).2]
 exact inj this
theorem cB {h:Heap}{xs:List TItem}(t:Tups prog w h xs){x:TItem}(hx:x∈xs):cG xs (oY x)=x.1:=by have hex:∃ y∈xs,(oY x).1=Value.ref y.2:=⟨x,hx,rfl⟩;unfold cG;rw[dif_pos hex];have hc:=hex.choose_spec;have e:Value.ref x.2=Value.ref hex.choose.2:=hc.2;injection e with e;exact(t.same hx hc.1 e).symm
theorem vz {xs:List TItem}(t:Tups prog w s.heap xs):TS.Cmp prog w A s (tuples' true) (xs.map oY) fun p=>dk (xs.map (·.1)) (cG xs p):=by intro p hp q hq Q hQ;obtain⟨x,hx,rfl⟩:=HY.mp hp;obtain⟨y,hy,rfl⟩:=HY.mp hq;have hQ:Q (decide (dk (xs.map (·.1)) (cG xs (oY x))<dk (xs.map (·.1)) (cG xs (oY y)))) s:=hQ;rw[cB t hx,cB t hy,<- iY (Ik hx) (Ik hy)]at hQ;obtain⟨ox,ix,nx,h1,c1,d1,l1⟩:=t.is x hx;obtain⟨oy,iy,ny,h2,c2,d2,l2⟩:=t.is y hy;refine PySem.W.kat_lt h1 d1 h2 d2 ?_;have:=qS (A:=A) 0 l1 l2 hQ;simpa using this
theorem pR {a:Addr} {n:Nat} {xs:List TItem} {P:PySem.Fin->Ls->Prop} (ho:s.heap.get? a=some (seqObj "list" (valsT xs).toArray n)) (t:Tups prog w s.heap xs) (hz:xs.length<=1000)
 (h:∀ ys h' c,ys.Perm xs->ys.Pairwise (fun x y=>lexB x.1 y.1=true)->h'.get? a=some (seqObj "list" (valsT ys).toArray c)->(∀ b o,b≠a->s.heap.get? b=some o->h'.get? b=some o)->P (.done (.ret .none)) { s with heap:=h' }) :
 wpAny (model prog w) A (Builtin.«list.sort» ⟨[.ref a],[]⟩) P E s:=by
 have ha:a<s.heap.objs.size:=HN ho;have hvl:(valsT xs).length=xs.length:=by simp[valsT]
 rw[list_sort_plain];refine Hs (listItems_at ho rfl (Hs (KB ho rfl ?_ (by rw[Hy,hvl,Iy];omega) (Ij _))));obtain⟨e1,ho1⟩ : ∃ e1,(s.heap.update a (Obj.mapSeq fun _=>#[])).get? a=some (seqObj "list" #[] e1):=⟨_,get?_update_seq ho (fun _=>#[])⟩;refine Hs (K3 ho1 rfl (Hs (wpAny_newTuple (Hs (Ki (Iz ?_) (Ij _))) (by show(valsT xs).length<=_;rw[hvl,Iy];omega))));have oth:∀ b o,b≠a->s.heap.get? b=some o->(((s.heap.update a (Obj.mapSeq fun _=>(#[]:Array Lx))).push (seqObj "tuple" (valsT xs).toArray 0)).push (seqObj "list" #[] 0)).get? b=some o:=fun b o hb e=>Hu _ (Hu _ ((IZ _ _ (Jb hb)).trans e));have ho6:(((s.heap.update a (Obj.mapSeq fun _=>(#[]:Array Lx))).push (seqObj "tuple" (valsT xs).toArray 0)).push (seqObj "list" #[] 0)).get? a=some (seqObj "list" #[] e1):=Hu _ (Hu _ ho1);show wpAny (model prog w) A _ P E { s with heap:=((s.heap.update a (Obj.mapSeq fun _=>(#[]:Array Lx))).push (seqObj "tuple" (valsT xs).toArray 0)).push (seqObj "list" #[] 0) };generalize (((s.heap.update a (Obj.mapSeq fun _=>(#[]:Array Lx))).push (seqObj "tuple" (valsT xs).toArray 0)).push (seqObj "list" #[] 0))=H6 at ho6 oth;dsimp only;have fin:∀(ys:List TItem)(out:Array Lx),ys.Perm xs->ys.Pairwise (fun x y=>lexB x.1 y.1=true)->out=(valsT ys).toArray->P (.done (.ret .none)) { s with heap:=H6.update a (Obj.mapSeq fun _=>out) }:=fun ys out hp hw ho=>by subst ho;exact h ys _ _ hp hw (get?_update_seq ho6 fun _=>(valsT ys).toArray) fun b o hb e=>(IZ _ _ (Jb hb)).trans (oth b o hb e)
 have hzip:(valsT xs).toArray.zip (valsT xs).toArray=(xs.map oY).toArray:=by apply Lg;simp[valsT,List.zip_map']
 by_cases h2:(valsT xs).toArray.size<2
 .rw[Hx h2,Hx h2];refine Hs (Hw ?_);rw[StateT.run_pure];have hx2:xs.length<2:=by rw[Hy,hvl]at h2;exact h2
  have hout:Array.map (fun x:Keyed=>x.2) ((valsT xs).toArray.zip (valsT xs).toArray)=(valsT xs).toArray:=by apply Lg;simp[List.map_snd_zip]
  refine Hs (Hw ?_);dsimp only;refine Hs (K3 ho6 rfl (Hs (KB ho6 rfl ?_ (Ij _) ?_)))
  .simp only[JV,HP,IQ];refine Hw (fin xs _ (La _) ?_ hout)
   match xs,hx2 with
   | [],_=>exact List.Pairwise.nil
   | [x],_=>exact Jg _ _
  .show(Array.map (fun x:Keyed=>x.2) ((valsT xs).toArray.zip (valsT xs).toArray)).size<=_;rw[hout,Hy,hvl,Iy];omega
 .rw[Hz h2,Hz h2];have hx2:2<=xs.length:=by rw[Hy,hvl]at h2;omega
  have t6:Tups prog w H6 xs:=t.off ho rfl oth;refine Hs (tw (s:={ s with heap:=H6 }) t6 (by omega) ?_);have C:=vz (A:=A) (s:={ s with heap:=H6 }) t6;have hnd:(((xs.map oY).toArray).toList.map fun p=>dk (xs.map (·.1)) (cG xs p)).Nodup:=by
   show(((xs.map oY)).map fun p=>dk (xs.map (·.1)) (cG xs p)).Nodup;rw[ID];unfold List.Nodup;rw[Iq];have nd:=t.nd;unfold List.Nodup at nd;rw[Iq]at nd;refine Ja (fun{x y} hx hy hne e=>?_) nd;have e:dk (xs.map (·.1)) (cG xs (oY x))=dk (xs.map (·.1)) (cG xs (oY y)):=e;rw[cB t hx,cB t hy]at e;have h1:=iY (Ik (f:=(·.1)) hx) (Ik (f:=(·.1)) hy);have h2:=iY (Ik (f:=(·.1)) hy) (Ik (f:=(·.1)) hx);rw[e,HF (JA _)]at h1;rw[e,HF (JA _)]at h2;rcases gh _ _ hne with q|q
   .rw[h1]at q;cases q
   .rw[h2]at q;cases q
  have run:=TS.t_runs (E:=E) (a₀:=(xs.map oY).toArray) (st:=SortSt.mk' (tuples' true) (xs.map oY).toArray #[] 7 none) C hnd ⟨.refl _,rfl,rfl⟩ rfl (by simp;exact hx2) (Q:=fun _ st'=>∃ ys:List TItem,ys.Perm xs/\(arrOf st').toList=ys.map oY/\ys.Pairwise (fun x y=>lexB x.1 y.1=true)/\failedOf st'=none) fun st' B sr=>by obtain⟨ys,hp,he⟩:=im oY B.perm xs rfl;refine⟨ys,hp,he,?_,B.fail⟩;rw[he]at sr;unfold TS.Srt at sr;rw[Iq]at sr;have nd:=(hp.map (·.1)).nodup_iff.mpr t.nd;unfold List.Nodup at nd;rw[Iq]at nd;refine(sr.and nd).imp_of_mem fun{x y} hx hy hh=>?_;have hx:=hp.subset hx;have hy:=hp.subset hy;obtain⟨h1,h2⟩:=hh;have h1:dk (xs.map (·.1)) (cG xs (oY x))<=dk (xs.map (·.1)) (cG xs (oY y)):=h1;rw[cB t hx,cB t hy]at h1;have h3:=iY (Ik (f:=(·.1)) hy) (Ik (f:=(·.1)) hx);rw[HF (by omega)]at h3;exact(gh _ _ h2).resolve_right (by rw[h3];simp)
  rw[hzip];refine Hs (Jo run ?_ fun _ _ e=>e);rintro⟨⟨⟩,st'⟩ s' ⟨rfl,ys,hp,he,hw,hf⟩;dsimp only at he hf ⊢;have hout:(arrOf st').map (·.2)=(valsT ys).toArray:=by apply Lg;rw[Array.toList_map,he,ID];rfl
  rw[hout];refine Hs (K3 ho6 rfl (Hs (KB ho6 rfl ?_ (Ij _) ?_)))
  .rw[hf];simp only[JV,HP,IQ];exact Hw (fin _ _ hp hw rfl)
  .show(valsT ys).toArray.size<=_;have:=hp.length_eq;simp[valsT,this];rw[Iy];omega
theorem BP:iU prog w 300:=fun _ _ _ _ _ _ _ ho t hz h=>pR ho t (by omega) h
theorem yA {t:SetTable}{es:Array (Int×Lx)}(T:Tbl t es)(sp:fF t)(h:Int)(x:Lx):∃ j,j∉t.place.toList/\j<=t.mask/\Rea t.mask (·∈ t.place.toList) h j/\layNew t es h x=(SetTable.insertAt es (t.put j).2 (h,x),(t.put j).1,false,false):=by
 have hs:=cE sp;have pr:=jj T.tb hs (fun _=>h+1) h (Va.st t.mask h);have hst:t.probeStart h=st t.mask h:=rfl;generalize hp:t.probe (fun _=>h+1) h (st t.mask h)=m at pr;cases pr with
 |ca n i hi e q b=>exact absurd q (by omega)
 |em n e b=>
  have re:Rea t.mask (·∈ t.place.toList) h (it t.mask n (st t.mask h)).j:=⟨n,rfl,fun k hk=>by obtain⟨i,hi,q,_⟩:=b k hk;show _∈t.place.toList;rw[<- q];simp⟩;have hjm:(it t.mask n (st t.mask h)).j<=t.mask:=((Va.st t.mask h).it).jle;refine⟨_,e,hjm,re,?_⟩;obtain⟨T',em,ez⟩:=pH T e hjm (v:=x) re;have hp1:(t.put (it t.mask n (st t.mask h)).j).2<=es.size:=by rw[iS,<- T.len];exact(bE _ T.tb.ris).1
  have le':(t.put (it t.mask n (st t.mask h)).j).1.place.size<=(t.put (it t.mask n (st t.mask h)).j).1.mask:=by
   rw[ez,em];unfold fF at sp;have:t.mask>=7:=by rcases T.tb.msk with e|e|e|e<;>rw[e]<;>omega
   omega
  have hf:=Tbl.fits T' le';unfold layNew SetTable.freeSlot;rw[hst,hp];dsimp only[Option.getD,Option.isSome];unfold SetTable.orStandIn;rw[Hx hf,hf];rfl
theorem tH {t:SetTable}{es:Array (Int×Lx)}{m n:Nat}(hm:Msk m)(hn:SetTable.sizeAbove n=m+1)(hl:es.size<=m):∃ es' t',relayAll t es n=(es',t',false)/\Laid m es es' t'/\t'.led=t.led/\t'.plain=t.plain:=by
 obtain⟨t',order,e,L,h1,h2,hp⟩:=nH hm es hl t.finger (t.movedTo m) t.led t.plain;refine⟨_,t',?_,L,h1,h2⟩;have er:t.relaid (es.map (·.1)) n=some (t',order):=by unfold SetTable.relaid;rw[hn];exact e
 unfold relayAll;rw[er];dsimp only;have hc:coversAll order es.size=true:=by unfold coversAll;exact List.isPerm_iff.mpr hp
 have hf:t'.fits (order.filterMap (es[·]?)).size=true:=Tbl.fits L.tbl (by rw[L.tbl.len,L.mask,L.size];exact hl);rw[hc,hf];rfl
theorem yB {a:Addr}{es:Array (Int×Lx)}{i:Int}{t0:Tok}{Q:Bool->Ls->Prop}(hS:SetAt w s.heap a es)(el:ElemsOf (intKind prog w) es.toList)(hz:es.size+1<=300)
 (h1:∀ tk,s.toks<=tk->(∃ e∈es.toList,(intKind prog w).is i e.2=true)->Q false { s with toks:=tk })
 (h2:∀ tk h' es',s.toks<=tk->(∀ e∈es.toList,(intKind prog w).is i e.2=false)->Heap.SameBut a s.heap h'->SetAt w h' a es'->Grown es es' ((intKind prog w).hash i,.int i t0)->Q true { s with heap:=h',toks:=tk }) :
 wpAny (model prog w) A (setAdd a (.int i t0)) Q E s:=by
 obtain⟨o,ep,t,ho,hex,hd,T,sp,hpl,hle⟩:=hS;have hf:=Tbl.fits T (cE sp);have iP:=intKind_is prog w i t0;have hsc:(Value.int i t0).scannable=true:=rfl;unfold setAdd;refine Iz ?_;refine Hs ((intKind prog w).pyHash (k:=i) iP ?_);have htk:s.toks<=s.toks+1:=Nat.le_succ _;generalize s.toks+1=tk at htk;unfold setAddHashed setAddHashedIn;refine Iz (Hs (IW (s:={ s with toks:=tk }) ho hd hf ?_));dsimp only;rw[byScan_of hsc (by unfold scanBound;omega) el];simp only[JJ];unfold setAddByScan;refine Hs ?_;refine Hs (Le ?_);refine Hs (wpAny_setScan_of (s:={ s with toks:=tk }) iP ho hd hf el ?_);cases hr:List.findIdx? (fun e=>(intKind prog w).is i e.2) es.toList with
 |some j=>dsimp only;obtain⟨hj,hpj,_⟩:=List.findIdx?_eq_some_iff_getElem.mp hr;exact Hw (Hw (h1 tk htk ⟨_,Kp hj,hpj⟩))
 |none=>
  dsimp only;have hout:∀ e∈es.toList,(intKind prog w).is i e.2=false:=fun e he=>by have:=List.findIdx?_eq_none_iff.mp hr e he;simpa using this
  obtain⟨j,hj,hjm,re,hlay⟩:=yA T sp ((intKind prog w).hash i) (.int i t0);obtain⟨T',em,ez⟩:=pH T hj hjm (v:=Value.int i t0) re;have hpl':(t.put j).1.plain=true:=by rw[gd T.tb];exact hpl
  have hle':(t.put j).1.led=!byT w:=by rw[gd T.tb];exact hle
  rw[hlay];dsimp only;refine Hs (show wpAny _ _ (pure ()) _ _ _ from Hw ?_);rw[hpl'];simp only[JJ];rw[hashByValue_scannable 8 hsc];refine Hs (Hw ?_);rw[show plainKind (Value.int i t0)=true from rfl];simp only[JJ];have hp:(t.put j).2<=es.size:=by rw[iS,<- T.len];exact(bE j T.tb.ris).1
  have g:=kY es (t.put j).2 ((intKind prog w).hash i,Value.int i t0) hp;refine Hs (KE (s:={ s with toks:=tk }) ho hd ?_ (by rw[g.size,Iy];omega));obtain⟨o1,q1,q2,q3⟩:=ff (SetTable.insertAt es (t.put j).2 ((intKind prog w).hash i,Value.int i t0)) (t.put j).1 ho hex hd;have sb:=IR s.heap a (Obj.putSet (SetTable.insertAt es (t.put j).2 ((intKind prog w).hash i,Value.int i t0)) (t.put j).1);have fill:(t.put j).1.fill=es.size+1:=by unfold SetTable.fill;rw[T'.tb.dum,ez,T.len];rfl
  by_cases hfull:(t.put j).1.tooFull=true
  .rw[hfull];simp only[Bool.not_false,Lj,JJ];unfold SetTable.tooFull at hfull;rw[fill,em]at hfull;have hfull:(es.size+1)*5>=t.mask*3:=by simpa using hfull
   have sp':es.size*5<t.mask*3:=by rw[<- T.len];exact sp
   obtain⟨m,m1,m2,m3⟩:=jl T.tb.msk sp' hfull hz;rw[g.size];obtain⟨es',t',hra,L,l1,l2⟩:=tH (t:=(t.put j).1) (es:=SetTable.insertAt es (t.put j).2 ((intKind prog w).hash i,Value.int i t0)) m2 m1 (by rw[g.size];omega);rw[hra];dsimp only;refine Hs (show wpAny _ _ (pure ()) _ _ _ from Hw ?_);refine Hs (KE q1 q3 ?_ (by rw[L.size,g.size,Iy];omega));obtain⟨o2,r1,r2,r3⟩:=ff es' t' q1 q2 q3;refine Hw (Hw (h2 tk _ es' htk hout (sb.trans (IR _ a _)) ⟨o2,_,_,r1,r2,r3,L.tbl,?_,by rw[l2];exact hpl',by rw[l1];exact hle'⟩ (g.laid L)));unfold fF;rw[L.tbl.len,L.mask,L.size,g.size];exact m3
  .have hfull:(t.put j).1.tooFull=false:=by simpa using hfull
   rw[hfull];simp only[K9,HP,IQ];refine Hw (Hw (h2 tk _ _ htk hout sb ⟨o1,_,_,q1,q2,q3,T',?_,hpl',hle'⟩ g));unfold SetTable.tooFull at hfull;unfold fF;rw[fill]at hfull;rw[ez,T.len];simpa using hfull
end
section
variable {prog:Lw}{w:World}
noncomputable abbrev eI (prog:Lw)(w:World)(k:Int)(t:Tok):Int×Lx:=((intKind prog w).hash k,.int k t)
structure SInvI (prog:Lw) (w:World) (es:Array (Int×Lx)) (xs:List Int):Prop where
 el:∀ e∈es.toList,∃ k t,e=eI prog w k t/\k∈xs
 all:∀ x∈xs,∃ t,eI prog w x t∈es.toList
 pw:es.toList.Pairwise fun e e'=>∀ k t k' t',e=eI prog w k t->e'=eI prog w k' t'->k≠k'
 sz:es.size<=xs.length
theorem isI {k j:Int}{t:Tok}:(intKind prog w).is k (.int j t)=true↔k=j:=by
 constructor
 .intro h;by_cases e:k=j
  .exact e
  .have h2:=intKind_is prog w j t;exact absurd ((intKind prog w).inj _ _ _ h h2) e
 .rintro rfl;exact intKind_is prog w k t
theorem SInvI.els {es:Array (Int×Lx)}{xs:List Int}(v:SInvI prog w es xs):ElemsOf (intKind prog w) es.toList:=fun e he=>by obtain⟨k,t,rfl,_⟩:=v.el e he;exact⟨⟨k,intKind_is prog w k t,rfl⟩,rfl⟩
theorem SInvI.seen {es:Array (Int×Lx)}{xs:List Int}{x:Int}(v:SInvI prog w es xs)(hx:x∈xs):SInvI prog w es (xs++[x]):=by
 refine⟨fun e he=>?_,fun y hy=>?_,v.pw,by have:=v.sz;simp;omega⟩
 .obtain⟨k,t,h1,h2⟩:=v.el e he;exact⟨k,t,h1,Ia _ h2⟩
 .rcases H_.mp hy with hy|hy
  .exact v.all y hy
  .rw[IK]at hy;subst hy;exact v.all y hx
theorem SInvI.new {es es':Array (Int×Lx)}{xs:List Int}{x:Int}{t:Tok}(v:SInvI prog w es xs)(hx:¬ x∈xs)(g:Grown es es' (eI prog w x t)):SInvI prog w es' (xs++[x]):=by
 refine⟨fun e he=>?_,fun y hy=>?_,?_,by have:=v.sz;rw[g.size];simp;omega⟩
 .rcases (g.mem e).mp he with rfl|he
  .exact⟨x,t,rfl,by simp⟩
  .obtain⟨k,t',h1,h2⟩:=v.el e he;exact⟨k,t',h1,Ia _ h2⟩
 .rcases H_.mp hy with hy|hy
  .obtain⟨t',h⟩:=v.all y hy;exact⟨t',(g.mem _).mpr (.inr h)⟩
  .rw[IK]at hy;subst hy;exact⟨t,(g.mem _).mpr (.inl rfl)⟩
 .refine g.pw _ (fun a b hab k t k' t' e1 e2 h=>hab k' t' k t e2 e1 h.symm) v.pw ?_;intro e he k t1 k' t2 e1 e2 hkk;obtain⟨j,t3,h1,h2⟩:=v.el e he;rw[e1]at h1;have a1:k=j:=by injection h1 with _ q;injection q
  have a2:x=k':=by injection e2 with _ q;injection q
  subst a1;subst a2;exact hx (hkk▸h2)
variable {A:Ly}{R:Result->Ls->Prop}{I:Addr}{fp wr:List Addr}{G:Array GenState->Array GenState->Prop}{n:Nat}{P:Nat->Lx->Prop}{St:Nat->Ls->Prop}
theorem gv (W:WalksS prog w A.in1 I fp wr G n P St)(S:Addr)(hSf:S∉fp)(xs:List Int)(hn:xs.length=n)(hval:∀ i v,P i v->∃ x t,xs[i]?=some x/\v=.int x t)(hz:n<=300) :
 ∀(k i:Nat)(s:Ls)(es:Array (Int×Lx)),n-i=k->i<=n->St i s->SetAt w s.heap S es->SInvI prog w es (xs.take i)->
  (∀ s' es',Moved (S::wr) G s s'->SetAt w s'.heap S es'->SInvI prog w es' xs->R (.ok (.ret .none)) s')->
  codeAny (model prog w) A (.builtin "set.update.loop" ⟨[.ref S,.ref I],[]⟩) R s:=by
 have hSw:S∉wr:=fun h=>hSf (W.sub _ h);have hsub:∀ b∈wr,b∈S::wr:=fun b hb=>HV _ hb;intro k;induction k with
 |zero=>
  intro i s es hk hi hst hS v hR;have hin:i=n:=by omega
  subst hin;refine Jj Jk ?_;rw[JD Ii _];show wpAny _ A.in1 (pyNext (.ref I) >>= _) _ _ s;refine Hs (W.done s _ _ hst fun s' hm=>?_);have v':SInvI prog w es xs:=by rw[IG (by omega)]at v;exact v
  have hR':=hR s' es (hm.mono hsub) (hS.keep fun o e=>hm.heap S o hSw e) v';show wpAny _ A.in1 (ret Value.none) _ _ s';exact Hw hR'
 |succ k ih=>
  intro i s es hk hi hst hS v hR;have hlt:i<n:=by omega
  refine Jj Jk ?_;rw[JD Ii _];show wpAny _ A.in1 (pyNext (.ref I) >>= _) _ _ s;refine Hs (W.item i s _ _ hlt hst fun u s' hP hst' hm=>?_);obtain⟨x,t0,hx,rfl⟩:=hval i u hP;have htk:xs.take (i+1)=xs.take i++[x]:=by rw[List.take_add_one,hx];rfl
  have hS':=hS.keep fun o e=>hm.heap S o hSw e;have hes:es.size+1<=300:=by have:=v.sz;rw[Ib]at this;omega
  show wpAny _ A.in1 (holding [Value.int x t0] (setAdd S (.int x t0)) >>= _) _ _ s';refine Hs (Iz ?_);refine yB hS' v.els hes (fun tk htk' hin=>?_) fun tk h' es' htk' hout hsb hSn g=>?_
  .obtain⟨e,he,hh⟩:=hin;obtain⟨j,tj,rfl,hj⟩:=v.el e he;have hxj:x∈xs.take i:=by rw[isI.mp hh];exact hj
   refine Hw ⟨Kx Ii _,ih (i+1) _ es (by omega) hlt (W.frame _ s' _ _ hst' htk' fun b hb o e=>e) hS' (by rw[htk];exact v.seen hxj) fun s'' es'' hm'' hS'' v''=>?_⟩;exact hR s'' es'' (Moved.trans W.gtrans ((hm.mono hsub).then_heap htk' fun b o hb e=>e) hm'') hS'' v''
  .have hnin:¬ x∈xs.take i:=fun hxi=>by obtain⟨t1,h1⟩:=v.all x hxi;have:=hout _ h1;rw[show(intKind prog w).is x (eI prog w x t1).2=true from intKind_is prog w x t1]at this;cases this
   refine Hw ⟨Kx Ii _,ih (i+1) _ es' (by omega) hlt (W.frame _ s' _ _ hst' htk' fun b hb o e=>?_) hSn (by rw[htk];exact v.new hnin g) fun s'' es'' hm'' hS'' v''=>?_⟩
   .rw[hsb.2 b (fun h:b=S=>hSf (by rw[<- h];exact hb))];exact e
   .refine hR s'' es'' (Moved.trans W.gtrans ((hm.mono hsub).then_heap htk' fun b o hb e=>?_) hm'') hS'' v'';rw[hsb.2 b (fun h:b=S=>hb (by rw[h];exact HW))];exact e
end
section
variable {prog:Lw}{w:World}{A:Ly}{E:Lx->Ls->Prop}{s:Ls}
theorem tI {l:Addr} {items:Array Lx} {nl:Nat} {xs:List Int} {Q:Lx->Ls->Prop} (hh:A.handled=none) (hl:s.heap.get? l=some { cls:=.type "list",data:=.seq items nl }) (hn:xs.length=items.size) (hz:items.size<=300)
 (hval:∀(i:Nat)(v:Lx),items[i]?=some v->∃ x t,xs[i]?=some x/\v=.int x t)
 (h:∀(h':Heap)(tk:Nat)(es:Array (Int×Lx)),SetAt w h' s.heap.objs.size es->SInvI prog w es xs->(∀ b o,b<s.heap.objs.size->s.heap.get? b=some o->h'.get? b=some o)->Q (.ref s.heap.objs.size) { s with heap:=h',toks:=tk }) :
 wpAny (model prog w) A (call (.type "set") [.ref l]) Q E s:=by
 obtain⟨c,tl,hmro⟩:=Iv.mro;have hmade:=Iv.made;have hsub:=Iv.sub;refine wpAny_call (codeAny_of_tree ?_);show wpAny _ _ (callAny (.type "set") _) _ _ _;refine Hw ⟨Ky _ (by decide +kernel),Jj PySem.F.entry_type_call ?_⟩;rw[Around.under_plain (weight_type_call_type "set" [.ref l] []) rfl];have h1:=Iv.notType;have h2:=Iv.canCreate;have hct:=PySem.F.typeCall_set_1 (.ref l)
 repeat (any_goals (first|assumption|wp_step))
 refine Ks (fH (.ref l) (E:=E) (Q₁:=fun obj s₁=>obj=.ref s.heap.objs.size/\s₁={ s with heap:=s.heap.push (setNew (!byT w)) }) ⟨rfl,rfl⟩) fun r s₁ hr=>?_;rcases r with e|fl
 .exact hr
 cases fl with
 |ret obj=>
  obtain⟨rfl,rfl⟩:=hr;have hS:(s.heap.push (setNew (!byT w))).get? s.heap.objs.size=some (setNew (!byT w)):=HQ _ rfl;have hT:Shared.TypeIs { s with heap:=s.heap.push (setNew (!byT w)) } (.ref s.heap.objs.size) "set":=⟨_,hS,rfl⟩;have hli:=Iv.init.lookup;have hbi:=Iv.init.bind (.ref s.heap.objs.size)
  repeat (any_goals (first|assumption|wp_step))
  refine Ks (codeAny_call_builtin (R:=wants (fun r s₂=>r=.none/\∃ h' tk es,s₂={ s with heap:=h',toks:=tk }/\SetAt w h' s.heap.objs.size es/\SInvI prog w es xs/\
   (∀ b o,b<s.heap.objs.size->s.heap.get? b=some o->h'.get? b=some o)) E) Iv.init.plain PySem.F.entry_set_init (check_set_init_1 hT ?_)) fun r₂ s₂ hr₂=>?_
  .have hol':(s.heap.push (setNew (!byT w))).get? l=some { cls:=.type "list",data:=.seq items nl }:=Hu _ hl;have hsls:=PySem.F.sub_list_set;have hslf:=PySem.F.sub_list_frozenset;have hne:(Value.type "list"==Value.type "dict")=false:=by decide
   have hl1:(s.heap.push (setNew (!byT w))).IsList l items:=⟨_,hol',rfl,nl,rfl⟩;unfold Builtin.«set.__init__» noKeywords Builtin.Frozenset.updateFrom;generalize hPI:pyIter=PI
   wp_walk
   subst hPI;refine Kg hl1 (Hs (K_ ?_));have hlS:l<s.heap.objs.size:=HN hl;have hh3:A.in1.in1.in1.handled=none:=by simp[hh]
   have hneI:l≠(s.heap.push (setNew (!byT w))).objs.size:=by rw[J6];exact Ic (JT hlS)
   refine gv ((Walks.list hh3 _ l hneI items).toS) s.heap.objs.size ?hSf xs hn hval hz (items.size-0) 0 _ #[] rfl (Ij _) ⟨⟨_,HQ _ rfl,rfl,rfl⟩,(hl1.push _)⟩ (kZ (Hu _ hS)) ⟨fun e he=>(nomatch he),fun x hx=>(nomatch hx),List.Pairwise.nil,Ij _⟩ ?hR
   case hSf=>rw[J6];simp only[HE,JC,Lr,not_or];exact⟨Ic (KM _),Kr hlS⟩
   case hR=>intro s' es hm hS' v;obtain⟨h',g',d',tk',os'⟩:=s';have eg:g'=s.gens:=hm.gens;have ed:d'=s.drawn:=hm.drawn;have eo:os'=s.os:=hm.os;subst eg ed eo;refine Hw (Hw ⟨rfl,h',tk',es,rfl,hS',v,fun b o hb e=>hm.heap b o ?_ (Hu _ (Hu _ e))⟩);simp only[HE,JC,Lr,not_or];exact⟨Ic hb,by rw[J6];exact Ic (JT hb)⟩
  .rcases r₂ with e|fl₂
   .exact hr₂
   cases fl₂ with
   |ret r=>
    obtain⟨rfl,h',tk,es,rfl,hS',v,hk'⟩:=hr₂
    repeat (any_goals (first|assumption|wp_step))
    exact h _ _ es hS' v hk'
   |_=>exact hr₂.elim
 |_=>exact hr.elim
end
section
variable {X:Cx}
theorem vA:∀{xs:List Int}{us:List Lx},Vals (xs.map V.int) us->us.length=xs.length/\∀(i:Nat)(v:Lx),us[i]?=some v->∃ x t,xs[i]?=some x/\v=.int x t
 | [],[],_=>⟨rfl,fun i v e=>by simp at e⟩
 |x::r,u::us,.cons q h=>by
  obtain⟨a,b⟩:=vA h;refine⟨by simp[a],fun i v e=>?_⟩;cases i with
  |zero=>obtain⟨t,hu⟩:=q;simp only[List.getElem?_cons_zero,Option.some.injEq]at e;exact⟨x,t,rfl,by rw[<- e,hu]⟩
  |succ i=>exact b i v (by simpa using e)
theorem pS (hc:X.calm=true):CallR X (.type "set") (fun vs H Q=>∃ l xs,vs=[.ref l]/\Rd H l (.lst (xs.map V.int))/\xs.length<=300/\∀ p es,H p=none->SInvI X.prog X.w es xs->Q (.ref p) (av H p (.ext fun h=>SetAt X.w h p es))):=by intro pins s σ H vs us Q I r h;obtain⟨l,xs,rfl,hl,hz,q⟩:=h;obtain⟨u,rfl,ru⟩:=cW r;obtain rfl:u=Value.ref l:=ru;obtain⟨_,us,n,rv,hg⟩:=(show ObjOk X.prog X.w H s.heap l (.lst (xs.map V.int)) from hl.ok I.hok);obtain⟨g1,g2⟩:=vA rv;refine tI (I.ok.hd hc) hg (xs:=xs) (by rw[Hy];exact g1.symm) (by rw[Hy,g1];exact hz) (fun i v e=>g2 i v (by simpa using e)) fun h' tk es hS v hk=>?_;have hf:H s.heap.objs.size=none:=I.hok.fresh (HB _);refine⟨.ref s.heap.objs.size,_,I.laid (a:=s.heap.objs.size) (o:=.ext fun h=>SetAt X.w h s.heap.objs.size es) (t':=tk) (fun b o e=>hk b o (HN e) e) (HB _) ?_,rfl,q _ es hf v⟩;exact⟨hS,(let ⟨o,_,_,e,_⟩:=hS;⟨o,e⟩),fun h1 h2 hs k=>SetAt.keep hs k⟩
end
noncomputable abbrev d7:=Int×Tok
noncomputable def valsN (zs:List d7):List Lx:=zs.map fun z=>Value.int z.1 z.2
noncomputable abbrev AO (z:d7):Keyed:=(Value.int z.1 z.2,Value.int z.1 z.2)
noncomputable def cH (K:List Int)(k:Int):Nat:=(K.filter fun j=>decide (j<k)).length
theorem vD {p q:Int->Bool}:∀{K:List Int},(∀ x,p x=true->q x=true)->(K.filter p).length<=(K.filter q).length
 | [],_=>HB _
 |x::K,h=>by
  have ih:=vD (K:=K) h;rw[IT,IT];cases hp:p x with
  |true=>rw[h x hp];simpa using ih
  |false=>cases hq:q x<;>simp<;>omega
theorem vE {p q:Int->Bool}{z:Int}:∀{K:List Int},(∀ x,p x=true->q x=true)->z∈K->p z=false->q z=true->(K.filter p).length<(K.filter q).length
 | [],_,h,_,_=>by cases h
 |x::K,h,hz,h1,h2=>by
  have le:=vD (K:=K) h;rw[IT,IT];rcases HE.mp hz with rfl|hz
  .rw[h1,h2];simp;omega
  .have ih:=vE h hz h1 h2;cases hp:p x with
   |true=>rw[h x hp];simpa using ih
   |false=>cases hq:q x<;>simp<;>omega
theorem gw {K:List Int}{a b:Int}(ha:a∈K)(hb:b∈K):decide (a<b)=decide (cH K a<cH K b):=by
 have up:∀{a b:Int},a∈K->a<b->cH K a<cH K b:=fun{a b} ha h=>vE (z:=a) (fun x hx=>by simp at hx ⊢;omega) ha (by simp) (by simpa using h);by_cases h:a<b
 .rw[HG h,HG (up ha h)]
 .rw[HF h];by_cases e:a=b
  .subst e;rw[HF (JA _)]
  .have:=up hb (show b<a by omega);rw[HF (by omega)]
section
variable {prog:Lw}{w:World}{A:Ly}{E:Lx->Ls->Prop}{s:Ls}
theorem vF {zs:List d7}:TS.Cmp prog w A s oneType' (zs.map AO) fun p=>cH (zs.map (·.1)) (numOf p.1):=by intro p hp q hq Q hQ;obtain⟨x,hx,rfl⟩:=HY.mp hp;obtain⟨y,hy,rfl⟩:=HY.mp hq;have hQ:Q (decide (cH (zs.map (·.1)) x.1<cH (zs.map (·.1)) y.1)) s:=hQ;rw[<- gw (Ik (f:=(·.1)) hx) (Ik (f:=(·.1)) hy)]at hQ;rw[keyLt'_oneType];exact oneLt_int hQ
theorem nR:∀ zs:List d7,IntsAre (valsN zs) (zs.map (·.1))
 | []=>.nil
 |z::zs=>.cons _ _ (nR zs)
theorem lc {a:Addr} {n:Nat} {zs:List d7} {P:PySem.Fin->Ls->Prop} (ho:s.heap.get? a=some (seqObj "list" (valsN zs).toArray n)) (nd:(zs.map (·.1)).Nodup) (hz:zs.length<=1000)
 (h:∀ ys h' c,ys.Perm zs->ys.Pairwise (fun x y=>x.1<y.1)->h'.get? a=some (seqObj "list" (valsN ys).toArray c)->(∀ b o,b≠a->s.heap.get? b=some o->h'.get? b=some o)->P (.done (.ret .none)) { s with heap:=h' }) :
 wpAny (model prog w) A (Builtin.«list.sort» ⟨[.ref a],[]⟩) P E s:=by
 have hvl:(valsN zs).length=zs.length:=by simp[valsN]
 rw[list_sort_plain];refine Hs (listItems_at ho rfl (Hs (KB ho rfl ?_ (by rw[Hy,hvl,Iy];omega) (Ij _))));obtain⟨e1,ho1⟩ : ∃ e1,(s.heap.update a (Obj.mapSeq fun _=>#[])).get? a=some (seqObj "list" #[] e1):=⟨_,get?_update_seq ho (fun _=>#[])⟩;refine Hs (K3 ho1 rfl (Hs (wpAny_newTuple (Hs (Ki (Iz ?_) (Ij _))) (by show(valsN zs).length<=_;rw[hvl,Iy];omega))));have oth:∀ b o,b≠a->s.heap.get? b=some o->(((s.heap.update a (Obj.mapSeq fun _=>(#[]:Array Lx))).push (seqObj "tuple" (valsN zs).toArray 0)).push (seqObj "list" #[] 0)).get? b=some o:=fun b o hb e=>Hu _ (Hu _ ((IZ _ _ (Jb hb)).trans e));have ho6:(((s.heap.update a (Obj.mapSeq fun _=>(#[]:Array Lx))).push (seqObj "tuple" (valsN zs).toArray 0)).push (seqObj "list" #[] 0)).get? a=some (seqObj "list" #[] e1):=Hu _ (Hu _ ho1);show wpAny (model prog w) A _ P E { s with heap:=((s.heap.update a (Obj.mapSeq fun _=>(#[]:Array Lx))).push (seqObj "tuple" (valsN zs).toArray 0)).push (seqObj "list" #[] 0) };generalize (((s.heap.update a (Obj.mapSeq fun _=>(#[]:Array Lx))).push (seqObj "tuple" (valsN zs).toArray 0)).push (seqObj "list" #[] 0))=H6 at ho6 oth;dsimp only;have fin:∀(ys:List d7)(out:Array Lx),ys.Perm zs->ys.Pairwise (fun x y=>x.1<y.1)->out=(valsN ys).toArray->P (.done (.ret .none)) { s with heap:=H6.update a (Obj.mapSeq fun _=>out) }:=fun ys out hp hw ho=>by subst ho;exact h ys _ _ hp hw (get?_update_seq ho6 fun _=>(valsN ys).toArray) fun b o hb e=>(IZ _ _ (Jb hb)).trans (oth b o hb e)
 have hzip:(valsN zs).toArray.zip (valsN zs).toArray=(zs.map AO).toArray:=by apply Lg;simp[valsN,List.zip_map']
 by_cases h2:(valsN zs).toArray.size<2
 .rw[Hx h2,Hx h2];refine Hs (Hw ?_);rw[StateT.run_pure];have hx2:zs.length<2:=by rw[Hy,hvl]at h2;exact h2
  have hout:Array.map (fun x:Keyed=>x.2) ((valsN zs).toArray.zip (valsN zs).toArray)=(valsN zs).toArray:=by apply Lg;simp[List.map_snd_zip]
  refine Hs (Hw ?_);dsimp only;refine Hs (K3 ho6 rfl (Hs (KB ho6 rfl ?_ (Ij _) ?_)))
  .simp only[JV,HP,IQ];refine Hw (fin zs _ (La _) ?_ hout)
   match zs,hx2 with
   | [],_=>exact List.Pairwise.nil
   | [x],_=>exact Jg _ _
  .show(Array.map (fun x:Keyed=>x.2) ((valsN zs).toArray.zip (valsN zs).toArray)).size<=_;rw[hout,Hy,hvl,Iy];omega
 .rw[Hz h2,Hz h2];have hx2:2<=zs.length:=by rw[Hy,hvl]at h2;omega
  have hkind:keyKind' (valsN zs).toArray=pure oneType':=by
   match zs,hx2 with
   |z1::z2::r,_=>exact keyKind_ints (nR (z1::z2::r))
  rw[hkind];refine Hs (Hw ?_);have C:=vF (prog:=prog) (w:=w) (A:=A) (s:={ s with heap:=H6 }) (zs:=zs);have hnd:(((zs.map AO).toArray).toList.map fun p=>cH (zs.map (·.1)) (numOf p.1)).Nodup:=by show(((zs.map AO)).map fun p=>cH (zs.map (·.1)) (numOf p.1)).Nodup;rw[ID];unfold List.Nodup at nd ⊢;rw[Iq]at nd ⊢;refine Ja (fun{x y} hx hy hne e=>?_) nd;have e:cH (zs.map (·.1)) x.1=cH (zs.map (·.1)) y.1:=e;have h1:=gw (Ik (f:=(·.1)) hx) (Ik (f:=(·.1)) hy);have h2:=gw (Ik (f:=(·.1)) hy) (Ik (f:=(·.1)) hx);rw[e,HF (JA _)]at h1 h2;simp at h1 h2;omega
  have run:=TS.t_runs (E:=E) (a₀:=(zs.map AO).toArray) (st:=SortSt.mk' oneType' (zs.map AO).toArray #[] 7 none) C hnd ⟨.refl _,rfl,rfl⟩ rfl (by simp;exact hx2) (Q:=fun _ st'=>∃ ys:List d7,ys.Perm zs/\(arrOf st').toList=ys.map AO/\ys.Pairwise (fun x y=>x.1<y.1)/\failedOf st'=none) fun st' B sr=>by obtain⟨ys,hp,he⟩:=im AO B.perm zs rfl;refine⟨ys,hp,he,?_,B.fail⟩;rw[he]at sr;unfold TS.Srt at sr;rw[Iq]at sr;have nd':=(hp.map (·.1)).nodup_iff.mpr nd;unfold List.Nodup at nd';rw[Iq]at nd';refine(sr.and nd').imp_of_mem fun{x y} hx hy hh=>?_;have hx:=hp.subset hx;have hy:=hp.subset hy;obtain⟨h1,h2⟩:=hh;have h1:cH (zs.map (·.1)) x.1<=cH (zs.map (·.1)) y.1:=h1;have h3:=gw (Ik (f:=(·.1)) hy) (Ik (f:=(·.1)) hx);rw[HF (show ¬ cH (zs.map (·.1)) y.1<cH (zs.map (·.1)) x.1 by omega)]at h3;simp at h3;omega
  rw[hzip];refine Hs (Jo run ?_ fun _ _ e=>e);rintro⟨⟨⟩,st'⟩ s' ⟨rfl,ys,hp,he,hw,hf⟩;dsimp only at he hf ⊢;have hout:(arrOf st').map (·.2)=(valsN ys).toArray:=by apply Lg;rw[Array.toList_map,he,ID];rfl
  rw[hout];refine Hs (K3 ho6 rfl (Hs (KB ho6 rfl ?_ (Ij _) ?_)))
  .rw[hf];simp only[JV,HP,IQ];exact Hw (fin _ _ hp hw rfl)
  .show(valsN ys).toArray.size<=_;have:=hp.length_eq;simp[valsN,this];rw[Iy];omega
theorem lg {xs:List Int}:∀(l:List (Int×Lx)),(∀ e∈l,∃ k t,e=eI prog w k t/\k∈xs)->∃ zs:List d7,l=zs.map (fun z=>eI prog w z.1 z.2)/\∀ z∈zs,z.1∈xs
 | [],_=>⟨[],rfl,fun z hz=>nomatch hz⟩
 |e::l,h=>by
  obtain⟨k,t,rfl,hk⟩:=h e HW;obtain⟨zs,h1,h2⟩:=lg l fun e he=>h e (HV _ he);exact⟨(k,t)::zs,by rw[h1];rfl,fun z hz=>by
   rcases HE.mp hz with rfl|hz
   .exact hk
   .exact h2 z hz⟩
theorem mj {S:Addr}{es:Array (Int×Lx)}{xs:List Int}{Q:Lx->Ls->Prop}(sa:SetAt w s.heap S es)(v:SInvI prog w es xs)(hh:A.handled=none)(hz:es.size<=300)
 (h:∀(ys:List d7) h' tk l c,(∀ k,k∈ys.map (·.1)↔k∈xs)->ys.Pairwise (fun x y=>x.1<y.1)->ys.length<=300->s.heap.objs.size<=l->h'.get? l=some (seqObj "list" (valsN ys).toArray c)->(∀ b o,s.heap.get? b=some o->h'.get? b=some o)->Q (.ref l) { s with heap:=h',toks:=tk }) :
 wpAny (model prog w) A (call (.builtin "sorted") [.ref S]) Q E s:=by
 obtain⟨o,ep,t,ho,hex,hd,T,sp,hpl,hle⟩:=sa;have pe:=jn w S ep es;obtain⟨zs,ez,zm⟩:=lg (prog:=prog) (w:=w) (xs:=xs) (dC w S ep es).toList fun e he=>v.el e (pe.mem_iff.mp he);have ev:(dC w S ep es).toList.map (·.2)=valsN zs:=by rw[ez,ID];rfl
 have hzl:zs.length=es.size:=by have:=Ie List.length ez;rw[HA,HX,dW]at this;exact this.symm
 have nd:(zs.map (·.1)).Nodup:=by have pw:=(pe.pairwise_iff (fun{x y} hxy k t k' t' e1 e2 z=>hxy k' t' k t e2 e1 z.symm)).mpr v.pw;rw[ez,Iq]at pw;unfold List.Nodup;rw[Iq];exact pw.imp fun{a b} hab=>hab a.1 a.2 b.1 b.2 rfl rfl
 refine Kn kind_sorted plain_sorted entry_sorted (args_sorted1 _) ?_;unfold Builtin.«sorted»;refine Hs (m:=checkCount "sorted" 1 1 _) (Hw (Hs (il ⟨o,ho,hex,hd⟩ T (cE sp) hpl hle (by simp[hh]) hz fun h1 tk1 g1 k1=>?_)));rw[ev];refine Hs (Ki ?_ (by show(valsN zs).length<=_;simp only[valsN,HA];rw[hzl,Iy];omega));have hoL:(h1.push (seqObj "list" (valsN zs).toArray 0)).get? h1.objs.size=some (seqObj "list" (valsN zs).toArray 0):=HQ _ rfl;have kk:∀ b o,s.heap.get? b=some o->(h1.push (seqObj "list" (valsN zs).toArray 0)).get? b=some o:=fun b o e=>Hu _ (k1 b o e);have ge:s.heap.objs.size<=h1.objs.size:=IH g1;refine Hs (Iz (Jl slot_list_sort ⟨_,hoL,rfl⟩ entry_list_sort ?body (args_list_sort _)))
 case body=>
  refine lc (s:={ s with heap:=h1.push (seqObj "list" (valsN zs).toArray 0),toks:=tk1 }) hoL nd (by omega) fun ys h2 c2 hp hw hl2 k2=>⟨_,rfl,?_⟩;refine Hw ⟨_,rfl,h ys h2 tk1 _ c2 (fun k=>?_) hw (by rw[hp.length_eq];omega) ge hl2 fun b o e=>k2 b o (fun z=>?_) (kk b o e)⟩
  .rw[(hp.map (·.1)).mem_iff];constructor
   .intro hk;obtain⟨z,hz,rfl⟩:=HY.mp hk;exact zm z hz
   .intro hk;obtain⟨t1,h3⟩:=v.all k hk;have h4:eI prog w k t1∈zs.map (fun z=>eI prog w z.1 z.2):=by rw[<- ez];exact pe.mem_iff.mpr h3
    obtain⟨z,z1,z2⟩:=HY.mp h4;have:z.1=k:=by injection z2 with _ q;injection q
    exact HY.mpr ⟨z,z1,this⟩
  .subst z;exact absurd (HN e) (Nat.not_lt.mpr ge)
end
section
variable {X:Cx}
theorem g_:∀ ys:List d7,Vals (ys.map fun y=>V.int y.1) (valsN ys)
 | []=>.nil
 |y::ys=>.cons ⟨y.2,rfl⟩ (g_ ys)
theorem kh (hc:X.calm=true):CallR X (.builtin "sorted") (fun vs H Q=>∃ p es xs,vs=[.ref p]/\H p=some (.ext fun h=>SetAt X.w h p es)/\SInvI X.prog X.w es xs/\xs.length<=300/\
 ∀(l:Addr)(ks:List Int),H l=none->(∀ k,k∈ks↔k∈xs)->ks.Pairwise (·< ·)->Q (.ref l) (av H l (.lst (ks.map V.int)))):=by
 intro pins s σ H vs us Q I r h;obtain⟨p,es,xs,rfl,hp,v,hz,q⟩:=h;obtain⟨u,rfl,ru⟩:=cW r;obtain rfl:u=Value.ref p:=ru;obtain⟨hS,_,_⟩:=(show ObjOk X.prog X.w H s.heap p (.ext fun h=>SetAt X.w h p es) from I.hok p _ hp);refine mj hS v (I.ok.hd hc) (HS v.sz hz) fun ys h' tk l c hm hw hyl hle hl hk=>?_;have hf:H l=none:=I.hok.fresh hle;have em:(ys.map (·.1)).map V.int=ys.map fun y=>V.int y.1:=by rw[ID];rfl
 refine⟨.ref l,_,I.laid (a:=l) (o:=.lst ((ys.map (·.1)).map V.int)) (t':=tk) hk hle ?_,rfl,q l (ys.map (·.1)) hf hm (by rw[Iq];exact hw)⟩;rw[em];exact⟨by rw[HA,Iy];omega,valsN ys,c,g_ ys,hl⟩
end
end L2
namespace L2
open PySem PySem.Spec PySem.Calls PyProof.Rows
section
variable {prog:Lw}{w:World}{A:Ly}{E:Lx->Ls->Prop}{s:Ls}
theorem BQ {d a:Addr}{xs:List u6}{k:List Key}{dflt:Lx}{Q:Lx->Ls->Prop}(hu:A.units<cLine)(iP:(tK prog w).is s.heap k a)(hm:s.heap.DictOfH (tK prog w) d xs)(hsz:xs.length<=sizeLine)
 (h1:∀ p,atKey xs k=some p->Q p.2 { s with toks:=s.toks+(tK prog w).draws k })
 (h2:atKey xs k=none->∀ h',h'.DictOfH (tK prog w) d (storedH xs k a dflt)->Heap.SameBut d s.heap h'->Q dflt { s with heap:=h',toks:=s.toks+(tK prog w).draws k }):wpAny (model prog w) A (dictSetDefault d (.ref a) dflt) Q E s:=by
 obtain⟨o,es,ep,ho,hc,hd,he,his,hn⟩:=hm;unfold dictSetDefault
 try with_reducible refine Iz ?_
 refine Hs ((tK prog w).pyHash hu iP (Hs (wpAny_dictFind_heap (knd:=tK prog w) (s:={ s with toks:=s.toks+(tK prog w).draws k }) hu iP ho hd he his hn (fun hno=>?_) fun j p hj=>?_)))
 .have hnone:=atKey_none_of_get hno;have hnot:k∉xs.map (·.1):=not_mem_keys_of_get hno;refine Hs (Le (Hs (wpAny_updateDictKeys (hz:=by have e:=size_of_entries he;omega) (s:={ s with toks:=s.toks+(tK prog w).draws k }) ho hd (Hw (h2 hnone _ ⟨_,_,ep+1,Jp _ ho (Obj.isFreed_of_dict (Obj.data_mapDictKeys hd _)),hc.mapDictKeys _,Obj.data_mapDictKeys hd _,?_,?_,?_⟩ (IR ..))))))
  .rw[storedH_new hnone];simp[he,entryOfKey]
  .rw[storedH_new hnone];intro x hx;rcases H_.mp hx with hx|hx
   .exact(tK prog w).keeps (his x hx) ho hd (IR ..)
   .obtain rfl:=IK.mp hx;exact(tK prog w).keeps iP ho hd (IR ..)
  .rw[storedH_new hnone,IU,List.nodup_append];exact⟨hn,by simp,fun x hx y hy e=>by simp only[HL,Lo,IK]at hy;subst hy;exact hnot (e▸hx)⟩
 .refine Hs (wpAny_dictEntries (s:={ s with toks:=s.toks+(tK prog w).draws k }) ho hd ?_);rw[entry_at he j,hj];exact Hs (Le (Hw (h1 p (atKey_of_get hn hj))))
end
section
variable {X:Cx}
def yC:V->List V->Hp->VK->Prop:=fun x xs H Q=>∃ a b k y kvs,x=.ref a/\xs=[.ref b,y]/\H b=some (.tup (k.map kV))/\H a=some (.dT kvs)/\kvs.length<sizeLine/\
 ((∃ v,cV kvs k=some v/\Q v H)\/(cV kvs k=none/\Q y (av H a (.dT (bz kvs k y)))))
theorem lh (hu:X.A.units+64<cLine):Gk X "dict.setdefault" yC:=by
 intro pins s σ H x xs v us Q I rx rs q;obtain⟨a,b,k,y,kvs,rfl,rfl,hb,ha,hz,q⟩:=q;obtain rfl:v=Value.ref a:=rx;obtain⟨u1,u2,rfl,ru1,ru2⟩:=Av rs;obtain rfl:u1=Value.ref b:=ru1;obtain⟨z1,y1,vs,r1,d1⟩:=u3 I.hok ha;have iP:=bV I.hok hb;have hT:Shared.TypeIs s (.ref a) "dict":=by obtain⟨o,es,ep,ho,hc,_⟩:=d1;exact⟨o,ho,hc.1⟩
 refine Jl KW hT PySem.F.entry_dict_setdefault ?_ (PySem.F.args_dict_setdefault_3 _ _ _);unfold Builtin.«dict.setdefault»;refine Hs ?_;unfold Builtin.Dict.keyAndDefault;refine Hs (wpAny_notOrdered_dict hT (show wpAny _ _ (pure (a,Value.ref b,some u2)) _ _ s from Hw ?_));show wpAny _ _ (if (a==sysModules)=true then _ else (dictSetDefault a (Value.ref b) u2 >>= _)) _ _ s;rw[Hz (by rw[y1];exact Kv)];have bg:vs.length<=sizeLine:=by rw[<- Ke r1];exact z1
 have rv:=r1.val k;refine Hs (BQ (by show X.A.units+1<cLine;omega) iP d1 bg (fun p hp=>?_) fun hn0 h' dd' hs=>?_)
 .rcases q with⟨v,hv,q⟩|⟨hv,q⟩
  .have:RelO (some v) (some p.2):=by rw[<- hv];rw[hp]at rv;exact rv
   exact Hw ⟨_,rfl,v,H,I.tok _,this,q⟩
  .have:=rv.isSome_eq;rw[hv,hp]at this;cases this
 .rcases q with⟨v,hv,q⟩|⟨hv,q⟩
  .have:=rv.isSome_eq;rw[hv,hn0]at this;cases this
  .obtain⟨o',es,ep,hq,h2,h3,h4,_,h5⟩:=dd';have hl:(bz kvs k y).length<=sizeLine:=by have:=cX kvs k y;omega
   have hok:ObjOk X.prog X.w (av H a (.dT (bz kvs k y))) h' a (.dT (bz kvs k y)):=by refine⟨hl,y1,_,(r1.put k hb ru2).keeps fun c ys ec=>?_,o',es,ep,hq,h2,h3,h4,h5⟩;rw[ac (kF ec ha (fun z=>nomatch z))];exact ec
   exact Hw ⟨_,rfl,y,_,iR (t':=s.toks+(tK X.prog X.w).draws k) I (by rw[ha];exact True.intro) hs ⟨o',hq⟩ hok,ru2,q⟩
def vG:V->List V->Hp->VK->Prop:=fun x xs H Q=>∃ a b k y kvs,x=.ref a/\xs=[.ref b,y]/\H b=some (.tup (k.map kV))/\(H a=some (.dT kvs)\/(H a=some (.dK [])/\kvs=[]))/\kvs.length<sizeLine/\
 ((∃ v,cV kvs k=some v/\Q v H)\/(cV kvs k=none/\Q y (av H a (.dT (bz kvs k y)))))
theorem vH (hu:X.A.units+64<cLine):Gk X "dict.setdefault" vG:=by
 intro pins s σ H x xs v us Q I rx rs q;obtain⟨a,b,k,y,kvs,e1,e2,hb,ha,hz,q⟩:=q;rcases ha with ha|⟨ha,rfl⟩
 .exact lh hu pins s σ H x xs v us Q I rx rs ⟨a,b,k,y,kvs,e1,e2,hb,ha,hz,q⟩
 .have nba:b≠a:=kF hb ha (fun z=>nomatch z);refine lh hu pins s σ (av H a (.dT [])) x xs v us Q (I.retT ha) rx rs ⟨a,b,k,y,[],e1,e2,by rw[ac nba];exact hb,ag,hz,.inr ?_⟩;rcases q with⟨v,hv,q⟩|⟨hv,q⟩
  .cases hv
  .have:av (av H a (.dT [])) a (.dT (bz [] k y))=av H a (.dT (bz [] k y)):=by
    funext c;by_cases h:c=a
    .subst h;rw[ag,ag]
    .rw[ac h,ac h,ac h]
   exact⟨hv,by rw[this];exact q⟩
end
theorem KV.at {a:List (Key×V)}{b:List (Key×Lx)}(r:KV a b):∀(i:Nat) p q,a[i]?=some p->b[i]?=some q->p.1=q.1/\RelV p.2 q.2:=by
 induction r with
 |nil=>intro i p q e;simp at e
 |cons hq t ih=>
  intro i p q e1 e2;cases i with
  |zero=>simp at e1 e2;subst e1 e2;exact hq
  |succ i=>exact ih i p q (by simpa using e1) (by simpa using e2)
section
variable {X:Cx}{es:List Expr}{k0:Nat}{ie:Pos}
end
section
variable {X:Cx}
def vI:List V->Hp->VK->Prop:=fun xs H Q=>∃ d kvs u,xs=[.ref d]/\(u=.dK kvs\/(u=.dT []/\kvs=[]))/\Rd H d u/\kvs.length<=sizeLine/\∀ l,H l=none->Q (.ref l) (av H l (.lst (kvs.map fun p=>kV p.1)))
theorem qV:∀{vs:List V}{its:List Lx},vs.length=its.length->(∀(i:Nat) v u,vs[i]?=some v->its[i]?=some u->RelV v u)->Vals vs its
 | [],[],_,_=>.nil
 | [],_::_,e,_=>by cases e
 |_::_,[],e,_=>by cases e
 |v::vs,u::its,e,f=>.cons (f 0 v u rfl rfl) (qV (by simpa using e) fun i w z a b=>f (i+1) w z (by simpa using a) (by simpa using b))
theorem pT (hc:X.calm=true):CallR X (.type "list") vI:=by
 intro pins s σ H xs us Q I r h;obtain⟨d,kvs,u,rfl,hu,hrd,hz,q⟩:=h;obtain⟨w,rfl,rx⟩:=cW r;cases rx;have hx:=hrd.ok I.hok;have key:(d==sysModules)=false/\∃ vs,KV kvs vs/\s.heap.DictOf (ao X.prog X.w) d vs:=by
  rcases hu with rfl|⟨rfl,rfl⟩
  .obtain⟨z,hd,vs,rel,dd⟩:=hx;exact⟨hd,vs,rel,dd⟩
  .obtain⟨hd,dd⟩:=fS hx;exact⟨hd,[],.nil,dd⟩
 obtain⟨hd,vs,rel,dd⟩:=key;obtain⟨ep,da⟩:=dd.dictAt;have hl:=rel.length;refine PySem.W.kdl_call (PySem.W.kdl_dict (knd:=ao X.prog X.w) (kvs:=vs) (ep:=ep) hd) (I.ok.hd hc) da (by rw[<- hl];exact hz) fun h' tk acc c' kp e it=>?_;obtain⟨i1,i2⟩:=it;have la:acc.toList.length=kvs.length:=by rw[HX,i1,hl]
 have rv:Vals (kvs.map fun p=>kV p.1) acc.toList:=by
  refine qV (by rw[HA,la]) fun i v w ev ew=>?_;rw[Ip]at ev;cases ek:kvs[i]? with
  |none=>rw[ek]at ev;cases ev
  |some p=>rw[ek]at ev;cases ev;obtain⟨k,x,e1,e2⟩:=i2 i w (by rw[<- HD];exact ew);obtain⟨ek',_⟩:=rel.at i _ _ ek e1;show RelV (kV p.1) w;rw[show p.1=k from ek'];exact l0 e2
 have e:h'.get? s.heap.objs.size=some { cls:=.type "list",dict:=none,data:=.seq acc.toList.toArray c',slots:=#[] }:=by rw[Array.toArray_toList];exact e
 exact⟨.ref s.heap.objs.size,_,I.laid (t':=tk) kp (HB _) (show ObjOk X.prog X.w _ h' _ (.lst (kvs.map fun p=>kV p.1)) from⟨by rw[HA];exact hz,acc.toList,c',rv,e⟩),rfl,q _ (I.hok.fresh (HB _))⟩
end
section
open PySem.MeetsSeq PySem.SeqAt
open PySem.AutoSeq1 (wpAny_loadPart')
end
end L2
namespace L2
open PySem PySem.Spec PySem.Calls PyProof.Rows ST
section
variable {prog:Lw}{w:World}{A:Ly}{E:Lx->Ls->Prop}{s:Ls}
theorem nS {T:String}{r d:Addr}{n:Nat}{P:Nat->Lx->Prop}{OK:Heap->Prop}{Q:List Lx->Ls->Prop}(K:PySem.W.KdlSrc prog w T r d n P OK)(hh:A.handled=none)(hok:OK s.heap)(hn:n<=sizeLine)
 (h:∀ h' tk (acc:Array Lx),s.heap.objs.size<h'.objs.size->(∀ b o,s.heap.get? b=some o->h'.get? b=some o)->ItemsOf P acc n->Q acc.toList { s with heap:=h',toks:=tk }):wpAny (model prog w) A (collect (.ref r)) Q E s:=by
 have hlt:=K.there _ hok;have hS:(s.heap.push (seqObj "list" #[] 0)).get? s.heap.objs.size=some (seqObj "list" #[] 0):=HQ _ rfl;have key:∀ R:Result->Ls->Prop,(∀ h' tk (acc:Array Lx) c,(∀ b o,b≠s.heap.objs.size->(s.heap.push (seqObj "list" #[] 0)).get? b=some o->h'.get? b=some o)->h'.get? s.heap.objs.size=some { cls:=.type "list",dict:=none,data:=.seq acc c,slots:=#[] }->ItemsOf P acc n->R (.ok (.ret (.ref s.heap.objs.size))) { s with heap:=h',toks:=tk })->
  codeAny (model prog w) A (.builtin "list.__iadd__" ⟨[.ref s.heap.objs.size,.ref r],[]⟩) R { s with heap:=s.heap.push (seqObj "list" #[] 0) }:=fun R hR=>Jj entry_list_iadd' (by
  rw[JD (show plainId "list.__iadd__"=true by decide +kernel) _];exact PySem.W.kdl_extend (s:={ s with heap:=s.heap.push (seqObj "list" #[] 0) }) K hh (K.keep _ _ hok fun b _ o e=>Hu _ e) s.heap.objs.size (Kr hlt.1) (Kr hlt.2) (.ref s.heap.objs.size) 0 hS hR hn)
 unfold collect;refine Hs (K_ (Jj entry_proto_collect' (show wpAny _ _ (do again (.builtin "list.__iadd__" ⟨[<- newList [],.ref r],[]⟩)) _ _ s from ?_)));refine Hs (Ki (Hw ⟨Ky _ (by decide +kernel),key _ fun h' tk acc c kp hS' hacc=>?_⟩));refine Hs (wpAny_load hS' ?_);show wpAny _ _ (pure acc.toList) _ _ _;exact Hw (h h' tk acc (HN hS') (fun b o e=>kp b o (Ic (HN e)) (Hu _ e)) hacc)
end
section
variable {X:Cx}
theorem li:∀{is:List Int}{us:List Lx},us.length=is.length->(∀(i:Nat)(n:Int) u,is[i]?=some n->us[i]?=some u->RelV (.int n) u)->∃ zs:List d7,us=valsN zs/\zs.map (·.1)=is
 | [],[],_,_=>⟨[],rfl,rfl⟩
 | [],_::_,e,_=>by cases e
 |_::_,[],e,_=>by cases e
 |n::is,u::us,e,f=>by obtain⟨t,rfl⟩:=f 0 n u rfl rfl;obtain⟨zs,h1,h2⟩:=li (is:=is) (us:=us) (by simpa using e) fun i m v a b=>f (i+1) m v (by simpa using a) (by simpa using b);exact⟨(n,t)::zs,by rw[h1];rfl,by rw[HL,h2]⟩
theorem kj (hc:X.calm=true):CallR X (.builtin "sorted") (fun xs H Q=>∃(d:Addr)(kvs:List (Key×V))(u:HO)(is:List Int),xs=[.ref d]/\(u=.dK kvs\/(u=.dT []/\kvs=[]))/\Rd H d u/\kvs.map (·.1)=is.map Sum.inl/\is.length<=1000/\
 ∀(l:Addr)(ks:List Int),H l=none->(∀ k,k∈ks↔k∈is)->ks.Pairwise (·< ·)->Q (.ref l) (av H l (.lst (ks.map V.int)))):=by
 intro pins s σ H xs us Q I r h;obtain⟨d,kvs,u,is,rfl,hu,hrd,hk,hz,q⟩:=h;obtain⟨w,rfl,rx⟩:=cW r;cases rx;have hx:=hrd.ok I.hok;have key:(d==sysModules)=false/\∃ vs,KV kvs vs/\s.heap.DictOf (ao X.prog X.w) d vs:=by
  rcases hu with rfl|⟨rfl,rfl⟩
  .obtain⟨z,hd,vs,rel,dd⟩:=hx;exact⟨hd,vs,rel,dd⟩
  .obtain⟨hd,dd⟩:=fS hx;exact⟨hd,[],.nil,dd⟩
 obtain⟨hd,vs,rel,dd⟩:=key;obtain⟨ep,da⟩:=dd.dictAt;have hl:=rel.length;have hki:kvs.length=is.length:=by have:=Ie List.length hk;simpa using this
 have hnd:(vs.map (·.1)).Nodup:=by obtain⟨_,_,_,_,_,_,_,_,nd⟩:=dd;exact nd
 have hvk:vs.map (·.1)=is.map Sum.inl:=by
  rw[<- hk];apply Jq
  intro i;rw[Ip,Ip];cases e:kvs[i]? with
  |none=>rw[Jd (by rw[<- hl];exact List.getElem?_eq_none_iff.mp e)];rfl
  |some p=>
   have hi:i<vs.length:=by rw[<- hl];exact(Hv.mp e).1
   obtain⟨e1,_⟩:=rel.at i _ _ e (II hi);rw[II hi];exact Ie some e1.symm
 have ndI:is.Nodup:=by rw[hvk]at hnd;unfold List.Nodup at hnd ⊢;rw[Iq]at hnd;exact hnd.imp fun{a b} hab z=>hab (by rw[z])
 refine Kn kind_sorted plain_sorted entry_sorted (args_sorted1 _) ?_;unfold Builtin.«sorted»;refine Hs (m:=checkCount "sorted" 1 1 _) (Hw (Hs (nS (PySem.W.kdl_dict (knd:=ao X.prog X.w) (kvs:=vs) (ep:=ep) hd) (I.ok.hd hc) da (by rw[<- hl,hki,Iy];omega) fun h1 tk1 acc g1 k1 it=>?_)));obtain⟨i1,i2⟩:=it;obtain⟨zs,ez,ezk⟩:=li (is:=is) (us:=acc.toList) (by rw[HX,i1,<- hl,hki]) fun i n v en ev=>by
  obtain⟨k,x,e1,e2⟩:=i2 i v (by rw[<- HD];exact ev);have:(vs.map (·.1))[i]?=some k:=by rw[Ip,e1];rfl
  rw[hvk,Ip,en]at this;cases this;exact l0 e2
 rw[ez];have hzl:zs.length=is.length:=by have:=Ie List.length ezk;simpa using this
 refine Hs (Ki ?_ (by show(valsN zs).length<=_;simp only[valsN,HA];rw[hzl,Iy];omega));have hoL:(h1.push (seqObj "list" (valsN zs).toArray 0)).get? h1.objs.size=some (seqObj "list" (valsN zs).toArray 0):=HQ _ rfl;have kk:∀ b o,s.heap.get? b=some o->(h1.push (seqObj "list" (valsN zs).toArray 0)).get? b=some o:=fun b o e=>Hu _ (k1 b o e);have ge:s.heap.objs.size<=h1.objs.size:=IH g1;refine Hs (Iz (Jl slot_list_sort ⟨_,hoL,rfl⟩ entry_list_sort ?body (args_list_sort _)))
 case body=>
  refine lc (s:={ s with heap:=h1.push (seqObj "list" (valsN zs).toArray 0),toks:=tk1 }) hoL (by rw[ezk];exact ndI) (by omega) fun ys h2 c2 hp hw hl2 k2=>⟨_,rfl,?_⟩;have hf:H h1.objs.size=none:=I.hok.fresh ge;have em:(ys.map (·.1)).map V.int=ys.map fun y=>V.int y.1:=by rw[ID];rfl
  refine Hw ⟨_,rfl,.ref h1.objs.size,_,I.laid (a:=h1.objs.size) (o:=.lst ((ys.map (·.1)).map V.int)) (t':=tk1) (fun b o e=>k2 b o (fun z=>?_) (kk b o e)) ge ?_,rfl,q h1.objs.size (ys.map (·.1)) hf (fun k=>?_) (by rw[Iq];exact hw)⟩
  .subst z;exact absurd (HN e) (Nat.not_lt.mpr ge)
  .rw[em];exact⟨by rw[HA,Iy,hp.length_eq];omega,valsN ys,c2,g_ ys,hl2⟩
  .rw[(hp.map (·.1)).mem_iff,ezk]
end
end L2
namespace L2
open PySem PySem.Spec PySem.Calls PyProof.Rows
section
variable {X:Cx}
def BR (tk tv:TE):TE:=fun σ H Q=>∀ p,H p=none->tk σ (av H p (.dK [])) fun x H1=>tv σ H1 fun y H2=>H2 p=some (.dK [])/\∃(b:Addr)(ks:List Key),x=.ref b/\H2 b=some (.tup (ks.map kV))/\Q (.ref p) (av H2 p (.dT [(ks,y)]))
theorem vJ {k v:Expr}{tk tv:TE}{pos:Pos}(hu:X.A.units+64<cLine)(hk:PE X k tk)(hv:PE X v tv):PE X (.Dict [some k] [v] pos) (BR tk tv):=by
 intro pins s σ H Q I q;have hn:=I.hok.fresh (HB s.heap.objs.size);have I1:=I.laid (a:=s.heap.objs.size) (o:=.dK []) (h':=s.heap.push { cls:=.type "dict",data:=.dict #[] }) (t':=s.toks) (fun _ _ q=>Hu _ q) (HB _) (nz s.heap I.big);have hl:=pairTrees_length [some k] [v] X.env pos rfl rfl;have hl1:(pairTrees [some k] [v] X.env pos).length=1:=hl;rw[arm_eval_Dict,zip_pairTrees [some k] [v] X.env pos rfl rfl,dictDisplay_pairs (pairTrees [some k] [v] X.env pos) (by intro z;rw[z]at hl1;cases hl1) (by rw[hl1];omega)];refine Hs (KS (Hs ?_));unfold subDict;refine Hs (wpAny_alloc ?_);refine Hs (Iz ?_);rw[Hx (by rw[hl1];omega)];have hq:=q _ hn;have key:=pairTrees_cons_walk (k:=k) (v:=v) (ks:=[]) (vs:=[]) (env:=X.env) (pos:=pos) (prog:=X.prog) (w:=X.w) (A:=X.A) (E:=X.xe) (s:={ s with heap:=s.heap.push { cls:=.type "dict",data:=.dict #[] } })
  (Q:=fun ws s3=>∃ u w x y H3,ws=[(u,w)]/\Inv X pins σ H3 s3/\RelV x u/\RelV y w/\(H3 s.heap.objs.size=some (.dK [])/\∃(b:Addr)(ks:List Key),x=.ref b/\H3 b=some (.tup (ks.map kV))/\Q (.ref s.heap.objs.size) (av H3 s.heap.objs.size (.dT [(ks,y)]))))
  (bn (hk pins _ σ _ _ I1 hq) fun u s1 ⟨x,H1,J1,rx,q1⟩=>bn (hv pins s1 σ H1 _ J1 q1) fun w2 s2 ⟨y,H2,J2,ry,q2⟩=>pairTrees_nil_walk ⟨u,w2,x,y,H2,rfl,J2,rx,ry,q2⟩)
 refine Hs (bn key fun ws s3 z=>?_);obtain⟨u,w,x,y,H3,rfl,J,rx,ry,e,b,ks,rfl,eb,q3⟩:=z;cases (show u=Value.ref b from rx);refine Iz ?_;have J':=J.retT e;have nb:b≠s.heap.objs.size:=kF eb e (fun z=>nomatch z);have eb':av H3 s.heap.objs.size (.dT []) b=some (.tup (ks.map kV)):=by rw[ac nb];exact eb
 obtain⟨z,hd,xs,rel,dd⟩:=u3 J'.hok ag;have hxs:xs.length<=sizeLine:=by rw[<- Ke rel];exact z
 rw[List.forIn_cons];refine Hs (Hs ?_);show wpAny _ _ (dictSet s.heap.objs.size (.ref b) w >>= fun _=>pure (ForInStep.yield PUnit.unit)) _ _ _;refine Hs (wpAny_dictSet_heap (hsz:=hxs) (by show X.A.units<cLine;omega) (bV J'.hok eb') dd fun h' dd' hs=>Hw ?_);show wpAny _ _ (forIn [] PUnit.unit _) _ _ _;rw[List.forIn_nil];refine Hw (Hw (Hw (Hw ?_)));obtain⟨qo,es,ep,hq',h2,h3,h4,_,h5⟩:=dd';have hl':(bz ([]:List (List Key×V)) ks y).length<=sizeLine:=by have:=cX ([]:List (List Key×V)) ks y;rw[JI]at this;rw[Iy];omega
 have I4:=iR (t':=s3.toks+(tK X.prog X.w).draws ks) J' (by rw[ag];exact True.intro) hs ⟨qo,hq'⟩ (show ObjOk X.prog X.w (av (av H3 s.heap.objs.size (.dT [])) s.heap.objs.size (.dT (bz [] ks y))) h' s.heap.objs.size (.dT (bz [] ks y)) from⟨hl',hd,_,(rel.put ks eb' ry).keeps fun c ys ec=>by rw[ac (kF ec ag (fun z=>nomatch z))];exact ec,qo,es,ep,hq',h2,h3,h4,h5⟩);rw[lP]at I4;exact⟨.ref s.heap.objs.size,_,I4,rfl,q3⟩
end
end L2
namespace L2
open PySem PySem.Spec PyProof.Rows
section
variable {X:Cx}{hc hc2:Str}{Ch Ch2:Addr}{np hpos np2 hpos2 pos epos:Pos}{b₀ c₀:Stmt}{suite suite2:List Stmt}{ts ts2:TS}{te:TX}{e:Expr}
end
open Sem (wp)
open Builtin
section
variable {prog:Lw}{w:World}{A:Ly}{E:Lx->Ls->Prop}{s:Ls}
theorem IsTupIter.at {h h':Heap}{a t:Addr}{i:Nat}(x:IsTupIter h a t i)(e:∀ o,h.get? a=some o->h'.get? a=some o):IsTupIter h' a t i:=let ⟨o,ho,r⟩:=x;⟨o,e o ho,r⟩
end
open Sem (wp)
open Builtin
def SIt (k:Bool) (h:Heap) (j t:Addr) (n:Nat):Prop:=∃ o,h.get? j=some o/\o.cls=.type (if k then "tuple_iterator" else "list_iterator")/\o.data=.fields #[.ref t,.int n 0]
def Hf (k:Bool) (h:Heap) (t:Addr) (xs:Array Lx):Prop:=∃ o,h.get? t=some o/\o.cls=.type (if k then "tuple" else "list")/\∃ n,o.data=.seq xs n
theorem SIt.at {k:Bool}{h h':Heap}{a t:Addr}{i:Nat}(x:SIt k h a t i)(e:∀ o,h.get? a=some o->h'.get? a=some o):SIt k h' a t i:=let ⟨o,ho,r⟩:=x;⟨o,e o ho,r⟩
section
variable {prog:Lw}{w:World}{A:Ly}{E:Lx->Ls->Prop}{s:Ls}
end
noncomputable def jt (kts:List (Addr×List V))(a:Addr)(o:Obj)(ns:List Int):Hp:=fun b=>match kts.lookup b with
 |some xs=>some (.tup xs)
 |none=>if b=a then some (.frz o (.lst (ns.map V.int))) else none
section
variable {kts:List (Addr×List V)}{a b:Addr}{o:Obj}{ns:List Int}{xs:List V}
theorem yD (e:kts.lookup b=some xs):jt kts a o ns b=some (.tup xs):=by unfold jt;rw[e]
theorem yE (e:kts.lookup a=none):jt kts a o ns a=some (.frz o (.lst (ns.map V.int))):=by unfold jt;rw[e];exact Hx rfl
theorem yF (e:kts.lookup b=none)(n:b≠a):jt kts a o ns b=none:=by unfold jt;rw[e];exact Hz n
end
theorem gx:∀{vs:List Lx}{ns:List Int},IntsAre vs ns->Vals (ns.map V.int) vs
 |_,_,.nil=>.nil
 |_,_,.cons n t h=>.cons ⟨t,rfl⟩ (gx h)
theorem tJ {P:Lw}{w:World}{K:Lu}{mg mb:Str->Option Lx}{CX:CXT}{k:Nat}{fa a:Addr}{fd:FuncData}{x:Str}{sp:Sp}{s₁:Ls}{vs:List Lx}{ns:List Int}{kts:List (Addr×List V)}
 (KX:K.In s₁.heap) (hns:s₁.heap.Ns mainGlobals mg) (hb:s₁.heap.Ns builtinsNs mb) (hbb:∀ x:Str,x≠"__name__"->mb x=bootBuiltins x) (hlim:s₁.heap.NoLimit) (hg:s₁.gens=#[])
 (ha:s₁.heap.get? a=some { cls:=.type "list",data:=.seq vs.toArray }) (hi:IntsAre vs ns) (hl:ns.length<=sizeLine) (hr:Room k callerA)
 (hK:∀ o,K.lookup a=some o->o.cls=.type "list"->False)
 (hT:∀ b xs,kts.lookup b=some xs->K.lookup b=none/\∃(o:Obj)(its:Array Lx)(n:Nat),s₁.heap.get? b=some o/\o.cls=.type "tuple"/\o.data=.seq its n/\its.size<=sizeLine/\Vals xs its.toList)
 (hM:∀ p∈K,∀ b xs,A_ p.2=some (b,xs)->kts.lookup b=some xs)
 (F:∀ base:Heap,K.In base->base.Ns mainGlobals mg->FnOk P w K mg base CX k fa fd [x] sp) (hbind:∀(s:Ls)(u:Lx),BindsTo s fd ⟨[u],[]⟩ [(x,u)])
 (hsp:∀ H:Hp,(∃ o,H a=some (.frz o (.lst (ns.map V.int))))->sp [.ref a] H (fun v _=>v=.bl true) fun _ _ _=>False)
 (hCX:∀ H e s',CX [] H s₁ (fun _ _ _=>False) e s'->False) :
 codeAny (model P w) callerA (.call (.ref fa) ⟨[.ref a],[]⟩) (fun r s'=>r=.ok (.ret (.bool true))/\OldK s₁.heap s'.heap/\s'.os=s₁.os/\AllBare s'.gens) s₁:=by
 have rv:=gx hi;have noK:K.lookup a=none:=by
  cases q:K.lookup a with
  |none=>rfl
  |some o=>have e:=KX a o q;rw[ha]at e;cases e;exact(hK _ q rfl).elim
 have noT:kts.lookup a=none:=by
  cases q:kts.lookup a with
  |none=>rfl
  |some xs=>obtain⟨_,o,its,n,e,c,_⟩:=hT a xs q;rw[ha]at e;cases e;exact absurd c (by simp)
 obtain⟨ob,eob⟩ : ∃ ob:Obj,ob={ cls:=.type "list",data:=.seq vs.toArray }:=⟨_,rfl⟩;rw[<- eob]at ha;generalize eH:jt kts a ob ns=H;have Ha:H a=some (.frz ob (.lst (ns.map V.int))):=by rw[<- eH];exact yE noT
 have Ht:∀ b xs,kts.lookup b=some xs->H b=some (.tup xs):=fun b xs e=>by rw[<- eH];exact yD e
 have Hn:∀ b,kts.lookup b=none->b≠a->H b=none:=fun b e n=>by rw[<- eH];exact yF e n
 have freeK:∀ b o,K.lookup b=some o->H b=none:=fun b o e=>by
  refine Hn b ?_ fun z=>by rw[z,noK]at e;cases e
  cases q:kts.lookup b with
  |none=>rfl
  |some xs=>rw[(hT b xs q).1]at e;cases e
 have freeD:∀(b:Addr)(o:Obj)(es:Array DictEntry)(ep:Nat),s₁.heap.get? b=some o->o.data=.dict es ep->H b=none:=fun b o es ep e d=>by
  refine Hn b ?_ fun z=>?_
  .cases q:kts.lookup b with
   |none=>rfl
   |some xs=>obtain⟨_,o',its,n,e',_,d',_⟩:=hT b xs q;rw[e]at e';cases e';rw[d]at d';cases d'
  .rw[z,ha]at e;cases e;rw[eob]at d;cases d
 have nsK:∀{b:Addr}{m:Str->Option Lx},s₁.heap.Ns b m->(nh s₁.heap H).Ns b m:=fun{b m} ⟨o,es,ep,e,d,r⟩=>⟨o,es,ep,ni e (freeD b o es ep e d),d,r⟩;have hKb:K.In (nh s₁.heap H):=fun b o e=>ni (KX b o e) (freeK b o e);have hMd:Mod K mg (nh s₁.heap H):=⟨hKb,nsK hns,⟨mb,nsK hb,hbb⟩,let ⟨mc,h1,h2⟩:=hlim;⟨mc,nsK h1,h2⟩⟩;have hok:HOk P w H s₁.heap:=fun b u e=>by
  cases q:kts.lookup b with
  |some xs=>rw[Ht b xs q]at e;cases e;obtain⟨_,o,its,n,e1,c,d,z,r⟩:=hT b xs q;refine⟨by rw[r.length];simpa using z,its.toList,r,o,e1,c,n,by simpa using d⟩
  |none=>
   by_cases hba:b=a
   .rw[hba,Ha]at e;cases e;rw[hba];exact⟨ha,by rw[HA];exact hl,vs,_,rv,by rw[ha,eob]⟩
   .rw[Hn b q hba]at e;cases e
 have e0:Env0 P w K mg (nh s₁.heap H) callerA [] s₁ H:=⟨rfl,hMd,fun b o e=>xV e,Nat.le_of_eq (sM _ _),trivial,fun b hb=>absurd (show b∈([]:List Addr) from hb) (by simp),hok,.of_eq hg,fun p hp b xs e=>Ht b xs (hM p hp b xs e)⟩;refine Ks ((F _ hKb (nsK hns)).run callerA [] s₁ H ⟨[.ref a],[]⟩ [.ref a] [.ref a] _ _ hr e0 (hbind s₁ (.ref a)) (.cons rfl .nil) (hsp H ⟨ob,Ha⟩)) fun r s' h=>?_;cases r with
 |error e=>exact(hCX H e s' h).elim
 |ok fl=>
  cases fl with
  |next=>exact False.elim h
  |brk=>exact False.elim h
  |cont=>exact False.elim h
  |ret u=>
   obtain⟨v,H',os,bare,un,hok',r',q⟩:=h;have q':v=.bl true:=q;subst q';obtain rfl:u=Value.bool true:=r';refine⟨rfl,OldK.of_keep fun b o e=>?_,os,bare⟩;by_cases hba:b=a
   .rw[hba]at e ⊢;have z2:=un.frzs a ob _ Ha;obtain⟨e2,_⟩:=hok' a _ z2;rw[ha]at e;cases e;exact e2
   .refine un.keep b o e ?_ (by intro z;exact absurd (show b∈([]:List Addr) from z) (by simp)) (by simp);cases q:kts.lookup b with
    |none=>exact .inl (Hn b q hba)
    |some xs=>exact .inr ⟨xs,Ht b xs q⟩
section
variable {K K':Lu}{g:Addr}{kts:List (Addr×List V)}
def Gx (K:Lu):Bool:=K.all fun p=>(A_ p.2).isNone
structure SubK (K K':Lu):Prop where
 look:∀ b o,K.lookup b=some o->(∀ its n,o.data≠.seq its n)->K'.lookup b=some o
theorem tL:SubK K K:=⟨fun _ _ e _=>e⟩
theorem SubK.code (S:SubK K K'){cd:Lx}{q:Str}(h:PySem.W.codeIn K cd q=true):PySem.W.codeIn K' cd q=true:=by
 unfold PySem.W.codeIn at h ⊢;cases cd with
 |ref c=>
  dsimp only at h ⊢;cases e:K.lookup c with
  |none=>rw[e]at h;cases h
  |some o=>
   obtain⟨o1,o2,o3,o4⟩:=o;cases o3 with
   |fields vs=>rw[S.look c _ e (fun _ _ z=>nomatch z)];rw[e]at h;exact h
   |_=>rw[e]at h;cases h
 |_=>cases h
theorem SubK.keep (S:SubK K K'){f:Addr}{o1:Lx}{o2:Option Addr}{fd:FuncData}{o4:Array (Option Lx)}(e:K.lookup f=some ⟨o1,o2,.func fd,o4⟩):PySem.W.keepIn K' (.ref f)=true:=by unfold PySem.W.keepIn;dsimp only;rw[S.look f _ e (fun _ _ z=>nomatch z)]
theorem SubK.ns (S:SubK K K'){n:Addr}{x:Str}{r:Option Lx}(h:PySem.W.nsIn K n x=some r):PySem.W.nsIn K' n x=some r:=by
 unfold PySem.W.nsIn at h ⊢;cases e:K.lookup n with
 |none=>rw[e]at h;cases h
 |some o=>
  obtain⟨o1,o2,o3,o4⟩:=o;cases o3 with
  |dict es ep=>rw[S.look n _ e (fun _ _ z=>nomatch z)];rw[e]at h;exact h
  |_=>rw[e]at h;cases h
theorem SubK.nsOk (S:SubK K K'){n:Addr}(h:PySem.W.nsOkIn K n=true):PySem.W.nsOkIn K' n=true:=by
 unfold PySem.W.nsOkIn at h ⊢;cases e:K.lookup n with
 |none=>rw[e]at h;cases h
 |some o=>
  obtain⟨o1,o2,o3,o4⟩:=o;cases o3 with
  |dict es ep=>rw[S.look n _ e (fun _ _ z=>nomatch z)];rw[e]at h;exact h
  |_=>rw[e]at h;cases h
theorem SubK.tail (S:SubK K K'){bm:List Lx}:∀{l:List Lx},PySem.W.tailIn K bm l=true->PySem.W.tailIn K' bm l=true
 | [],h=>h
 |v::r,h=>by
  unfold PySem.W.tailIn at h ⊢;rw[K4]at h ⊢;refine h.imp id fun h=>?_;cases v with
  |ref A=>
   dsimp only at h ⊢;cases e:K.lookup A with
   |none=>rw[e]at h;cases h
   |some o=>
    obtain⟨o1,o2,o3,o4⟩:=o;cases o3 with
    |cls cd=>rw[S.look A _ e (fun _ _ z=>nomatch z)];rw[e]at h;dsimp only at h ⊢;simp only[Ir,Lq]at h ⊢;exact⟨⟨S.nsOk h.1.1,S.ns h.1.2⟩,S.tail h.2⟩
    |_=>rw[e]at h;cases h
  |_=>cases h
theorem SubK.exc (S:SubK K K'){C:Addr}{bm:List Lx}{i:String}(h:PySem.W.excIn K C bm i=true):PySem.W.excIn K' C bm i=true/\BE K' C=BE K C:=by
 unfold PySem.W.excIn at h ⊢;unfold BE;cases e:K.lookup C with
 |none=>rw[e]at h;cases h
 |some o=>
  obtain⟨o1,o2,o3,o4⟩:=o;rw[e]at h;cases o3 with
  |cls cd=>
   rw[S.look C _ e (fun _ _ z=>nomatch z)];refine⟨?_,rfl⟩;split at h
   .rename_i dd cd' sl he;injection he with he;injection he with he1 he2 he3 he4;injection he3 with he3;subst he1 he2 he3 he4
    try dsimp only at h
    try dsimp only
    split at h
    .rename_i hm hs;simp only[Ir,Lq]at h ⊢;exact⟨⟨⟨h.1.1.1,S.tail h.1.1.2⟩,S.nsOk h.1.2⟩,S.ns h.2⟩
    .cases h
   .cases h
  |_=>split at h<;>first|cases h|(rename_i he;injection he with he;injection he with _ _ he _;cases he)
end
noncomputable def qW:Lx->Bool
 | .type n=>n=="list"
 |_=>false
def Gy (K:Lu):Bool:=K.all fun p=>!qW p.2.cls
theorem vK {a:Addr} {o:Obj}:∀{K:Lu},Gy K=true->K.lookup a=some o->o.cls=.type "list"->False
 | [],_,e,_=>by cases e
 |(b,x)::r,h,e,c=>by
  unfold Gy at h;rw[List.all_cons,Ir]at h;rw[J5]at e;split at e
  .cases e;rw[c]at h;have h1:=h.1;simp[qW]at h1
  .exact vK (K:=r) h.2 e c
section
variable {l:PySem.W.OpenLaw}{n k:Nat}{q:Lw}{loose:List Str}{XP:(Str->Option Lx)->Heap->Prop}{YP:World->Heap->Prop}{d:DefRec}{K:Params->Lu}{CX:World->CXT}{sp:World->Sp}{x:Str}
theorem vL (hn:l.most=some n)(hn2:n<=sizeLine)(hdf:d.params.defaults=[])(hr:Room k callerA)(hY:∀(w:World)(h:Heap),YP w h->(K w.params).In h)
 (hL:∀ w:World,Gy (K w.params)=true/\Gx (K w.params)=true)
 (F:∀(w:World)(mg:Str->Option Lx)(fa:Addr)(h:Heap),(K w.params).In h->h.Ns mainGlobals mg->mg d.name=some (.ref fa)->
   ∃ fd:FuncData,(∀(s:Ls)(u:Lx),BindsTo s fd ⟨[u],[]⟩ [(x,u)])/\∀ base:Heap,(K w.params).In base->base.Ns mainGlobals mg->FnOk l.prog w (K w.params) mg base (CX w) k fa fd [x] (sp w))
 (hsp:∀(w:World)(H:Hp)(a:Addr)(ns:List Int),ns.length<=n->(∃ o,H a=some (.frz o (.lst (ns.map V.int))))->sp w [.ref a] H (fun v _=>v=.bl true) fun _ _ _=>False)
 (hCX:∀(w:World)(H:Hp)(s:Ls)(e:Lx)(s':Ls),CX w [] H s (fun _ _ _=>False) e s'->False) :
 PySem.W.WalkO q loose XP YP l.row.toRowW d [] (fun f vs=>PySem.call f vs):=by
 refine Att.attach_call hn hdf fun w s₀ s₁ mg mb fa o pm cd doc a vs ns G Y ho hd hcd hmg hobj hints bg hg=>?_;have KX:=hY w _ Y;obtain⟨fd,hb,hF⟩:=F w mg fa _ KX G.T.g hmg;exact tJ (kts:=[]) KX G.T.g G.T.b G.T.builtins G.T.nolimit hg hobj hints (HS bg hn2) hr (fun o e c=>vK (hL w).1 e c) (fun b xs e=>by cases e)
  (fun p hp b xs e=>by have:=Jn.mp (hL w).2 p hp;rw[e]at this;cases this) hF hb (fun H hS=>hsp w H a ns bg hS) fun H e s'=>hCX w H s₁ e s'
end
end L2
set_option autoImplicit true
namespace L3
open PySem PySem.Spec PyProof.Rows L2
abbrev DK:=Sum Key (List Key)
inductive D where
 |non|bl (b:Bool)|int (i:Int)|str (x:Str)|tup (ds:List D)|lst (ds:List D)|dic (ks:List DK) (ds:List D)
mutual
noncomputable def D.flat:D->Bool
 | .lst _=>false
 | .dic _ _=>false
 | .tup ds=>D.flats ds
 |_=>true
noncomputable def D.flats:List D->Bool
 | []=>true
 |d::ds=>d.flat&&D.flats ds
end
mutual
noncomputable def D.dep:D->Nat
 | .lst ds=>D.deps ds+1
 | .tup ds=>D.deps ds+1
 | .dic _ ds=>D.deps ds+1000
 |_=>0
noncomputable def D.deps:List D->Nat
 | []=>0
 |d::ds=>max d.dep (D.deps ds)
end
mutual
noncomputable def cq:D->D->Bool
 | .non,e=>match e with|.non=>true|_=>false
 | .bl a,e=>match e with|.bl b=>a==b|.int b=>(if a then 1 else 0)==b|_=>false
 | .int a,e=>match e with|.int b=>a==b|.bl b=>a==(if b then 1 else 0)|_=>false
 | .str a,e=>match e with|.str b=>a==b|_=>false
 | .tup as,e=>match e with|.tup bs=>eqDs as bs|_=>false
 | .lst as,e=>match e with|.lst bs=>eqDs as bs|_=>false
 | .dic ks as,e=>match e with|.dic ls bs=>decide (ks=ls)&&eqDs as bs|_=>false
noncomputable def eqDs:List D->List D->Bool
 | [],bs=>match bs with|[]=>true|_=>false
 |a::as,bs=>match bs with|b::r=>cq a b&&eqDs as r|[]=>false
end
mutual
theorem bK:∀ d:D,cq d d=true
 | .non=>rfl
 | .bl a=>by simp[cq]
 | .int a=>by simp[cq]
 | .str a=>by simp[cq]
 | .tup as=>by simp only[cq];exact eqDs_refl as
 | .lst as=>by simp only[cq];exact eqDs_refl as
 | .dic ks as=>by simp only[cq,decide_true,Bool.true_and];exact eqDs_refl as
theorem eqDs_refl:∀ ds:List D,eqDs ds ds=true
 | []=>rfl
 |d::ds=>by simp only[eqDs,bK d,eqDs_refl ds,Lj]
end
def DAt (H:Hp)(a:Addr)(ks:List DK)(vs:List V):Prop:=(∃ kvs:List (Key×V),Rd H a (.dK kvs)/\ks=kvs.map (fun p=>.inl p.1)/\vs=kvs.map Prod.snd)\/∃ kvs:List (List Key×V),Rd H a (.dT kvs)/\ks=kvs.map (fun p=>.inr p.1)/\vs=kvs.map Prod.snd
noncomputable def BS:HO->Prop
 | .lst _=>True
 | .dK _=>True
 | .dT _=>True
 |_=>False
def Mu (H:Hp)(a:Addr):Prop:=∃ o,H a=some o/\BS o
theorem Mu.lst {H:Hp}{a:Addr}{vs:List V}(h:H a=some (.lst vs)):Mu H a:=⟨_,h,True.intro⟩
theorem Mu.same {H H':Hp}{a:Addr}(h:Mu H a)(s:∀ o,H a=some o->H' a=some o):Mu H' a:=let ⟨o,e,m⟩:=h;⟨o,s o e,m⟩
theorem Mu.some {H:Hp}{a:Addr}(h:Mu H a):H a≠none:=by obtain⟨o,e,_⟩:=h;rw[e];simp
theorem vM {H:Hp}{a:Addr}{u:HO}(h:Rd H a u):∃ o,H a=some o:=h.elim (fun e=>⟨_,e⟩) fun⟨_,e⟩=>⟨_,e⟩
theorem hG {H H':Hp}{a:Addr}{u:HO}(h:Rd H a u)(s:∀ o,H a=some o->H' a=some o):Rd H' a u:=h.imp (s _) fun⟨o,e⟩=>⟨o,s _ e⟩
theorem DAt.obj {H:Hp}{a:Addr}{ks:List DK}{vs:List V}(h:DAt H a ks vs):∃ o,H a=some o:=h.elim (fun⟨_,e,_⟩=>vM e) fun⟨_,e,_⟩=>vM e
theorem DAt.mu {H:Hp}{a:Addr}{ks:List DK}{vs:List V}(h:DAt H a ks vs)(n:∀ o u,H a≠some (.frz o u)):Mu H a:=by rcases h with⟨kvs,e|⟨o,e⟩,_⟩|⟨kvs,e|⟨o,e⟩,_⟩<;>first|exact⟨_,e,True.intro⟩|exact(n _ _ e).elim
theorem DAt.keep {H H':Hp}{a:Addr}{ks:List DK}{vs:List V}(h:DAt H a ks vs)(s:∀ o,H a=some o->H' a=some o):DAt H' a ks vs:=h.imp (fun⟨kvs,e,r⟩=>⟨kvs,hG e s,r⟩) fun⟨kvs,e,r⟩=>⟨kvs,hG e s,r⟩
theorem DAt.inj {H:Hp}{a:Addr}{ks ls:List DK}{vs ws:List V}(h:DAt H a ks vs)(g:DAt H a ls ws):ks=ls/\vs=ws:=by rcases h with⟨k1,e1|⟨o1,e1⟩,r1,r2⟩|⟨k1,e1|⟨o1,e1⟩,r1,r2⟩<;>rcases g with⟨k2,e2|⟨o2,e2⟩,q1,q2⟩|⟨k2,e2|⟨o2,e2⟩,q1,q2⟩<;>(rw[e1]at e2;cases e2;try exact⟨r1.trans q1.symm,r2.trans q2.symm⟩)
noncomputable def Gz:HO->Prop
 | .dK _=>False
 | .dT _=>False
 | .frz _ (.dK _)=>False
 | .frz _ (.dT _)=>False
 |_=>True
theorem DAt.no {H:Hp}{a:Addr}{ks:List DK}{vs:List V}{o:HO}(h:DAt H a ks vs)(e:H a=some o)(n:Gz o):False:=by rcases h with⟨k,z|⟨o',z⟩,_⟩|⟨k,z|⟨o',z⟩,_⟩<;>(rw[e]at z;cases z;exact n)
mutual
noncomputable def Is (H:Hp)(m:Addr->Prop):D->V->Prop
 | .non,v=>v=.non
 | .bl b,v=>v=.bl b
 | .int i,v=>v=.int i
 | .str x,v=>v=.str x
 | .tup ds,v=>∃ a vs,v=.ref a/\H a=some (.tup vs)/\IsAll H m ds vs
 | .lst ds,v=>∃ a vs,v=.ref a/\((H a=some (.lst vs)/\m a)\/∃ o,H a=some (.frz o (.lst vs))/\m a)/\IsAll H m ds vs
 | .dic ks ds,v=>∃ a vs,v=.ref a/\(DAt H a ks vs/\m a)/\IsAll H m ds vs
noncomputable def IsAll (H:Hp)(m:Addr->Prop):List D->List V->Prop
 | [],vs=>vs=[]
 |d::ds,vs=>∃ v r,vs=v::r/\Is H m d v/\IsAll H m ds r
end
noncomputable def fixd:HO->Prop
 | .tup _=>True
 | .frz _ _=>True
 |_=>False
section
variable {H H':Hp}{m m':Addr->Prop}
mutual
theorem Is.mono (kp:∀ a o,H a=some o->(m a\/fixd o)->H' a=some o)(mm:∀ a o,H a=some o->m a->m' a):∀{d:D}{v:V},Is H m d v->Is H' m' d v
 | .non,_,h=>h
 | .bl _,_,h=>h
 | .int _,_,h=>h
 | .str _,_,h=>h
 | .tup ds,_,h=>by obtain⟨a,vs,e,h1,h2⟩:=h;exact⟨a,vs,e,kp a _ h1 (.inr True.intro),IsAll.mono kp mm h2⟩
 | .lst ds,_,h=>by
  obtain⟨a,vs,e,h1,h2⟩:=h;refine⟨a,vs,e,?_,IsAll.mono kp mm h2⟩;rcases h1 with⟨h1,h3⟩|⟨o,h1,h3⟩
  .exact .inl ⟨kp a _ h1 (.inl h3),mm a _ h1 h3⟩
  .exact .inr ⟨o,kp a _ h1 (.inr True.intro),mm a _ h1 h3⟩
 | .dic ks ds,_,h=>by obtain⟨a,vs,e,h1,h2⟩:=h;obtain⟨o,eo⟩:=h1.1.obj;exact⟨a,vs,e,⟨h1.1.keep fun o e=>kp a o e (.inl h1.2),mm a o eo h1.2⟩,IsAll.mono kp mm h2⟩
theorem IsAll.mono (kp:∀ a o,H a=some o->(m a\/fixd o)->H' a=some o)(mm:∀ a o,H a=some o->m a->m' a):∀{ds:List D}{vs:List V},IsAll H m ds vs->IsAll H' m' ds vs
 | [],_,h=>h
 |d::ds,_,h=>by obtain⟨v,r,e,h1,h2⟩:=h;exact⟨v,r,e,Is.mono kp mm h1,IsAll.mono kp mm h2⟩
end
theorem Is.weak (mm:∀ a,m a->m' a){d:D}{v:V}(h:Is H m d v):Is H m' d v:=h.mono (fun _ _ e _=>e) fun a _ _=>mm a
theorem IsAll.weak (mm:∀ a,m a->m' a){ds:List D}{vs:List V}(h:IsAll H m ds vs):IsAll H m' ds vs:=h.mono (fun _ _ e _=>e) fun a _ _=>mm a
theorem Is.same (s:Same H H'){d:D}{v:V}(h:Is H m d v):Is H' m d v:=h.mono (fun a o e _=>s a o e) fun _ _ _ z=>z
theorem IsAll.same (s:Same H H'){ds:List D}{vs:List V}(h:IsAll H m ds vs):IsAll H' m ds vs:=h.mono (fun a o e _=>s a o e) fun _ _ _ z=>z
mutual
theorem Is.flat:∀{d:D}{v:V},d.flat=true->Is H m d v->Is H m' d v
 | .non,_,_,h=>h
 | .bl _,_,_,h=>h
 | .int _,_,_,h=>h
 | .str _,_,_,h=>h
 | .tup ds,_,f,h=>by obtain⟨a,vs,e,h1,h2⟩:=h;exact⟨a,vs,e,h1,IsAll.flat (by simpa only[D.flat] using f) h2⟩
 | .lst ds,_,f,_=>by simp[D.flat]at f
 | .dic ks ds,_,f,_=>by simp[D.flat]at f
theorem IsAll.flat:∀{ds:List D}{vs:List V},D.flats ds=true->IsAll H m ds vs->IsAll H m' ds vs
 | [],_,_,h=>h
 |d::ds,_,f,h=>by obtain⟨v,r,e,h1,h2⟩:=h;simp only[D.flats,Ir]at f;exact⟨v,r,e,Is.flat f.1 h1,IsAll.flat f.2 h2⟩
end
mutual
theorem Is.inj:∀{d e:D}{v:V},Is H m d v->Is H m' e v->d=e
 | .non,e,_,h,g=>by cases e<;>first|rfl|(cases h;first|(obtain⟨_,_,z,_⟩:=g;cases z;done)|cases g)
 | .bl _,e,_,h,g=>by cases e<;>(cases h;first|(obtain⟨_,_,z,_⟩:=g;cases z;done)|(cases g;rfl)|cases g)
 | .int _,e,_,h,g=>by cases e<;>(cases h;first|(obtain⟨_,_,z,_⟩:=g;cases z;done)|(cases g;rfl)|cases g)
 | .str _,e,_,h,g=>by cases e<;>(cases h;first|(obtain⟨_,_,z,_⟩:=g;cases z;done)|(cases g;rfl)|cases g)
 | .tup ds,e,_,h,g=>by
  obtain⟨a,vs,rfl,h1,h2⟩:=h;cases e with
  |tup es=>obtain⟨b,ws,z,g1,g2⟩:=g;cases z;rw[h1]at g1;cases g1;rw[IsAll.inj h2 g2]
  |lst es=>obtain⟨b,ws,z,g1,g2⟩:=g;cases z;rcases g1 with⟨g1,_⟩|⟨o,g1,_⟩<;>(rw[h1]at g1;cases g1)
  |dic ls es=>obtain⟨b,ws,z,g1,g2⟩:=g;cases z;exact(g1.1.no h1 True.intro).elim
  |_=>cases g
 | .lst ds,e,_,h,g=>by
  obtain⟨a,vs,rfl,h1,h2⟩:=h;cases e with
  |tup es=>obtain⟨b,ws,z,g1,g2⟩:=g;cases z;rcases h1 with⟨h1,_⟩|⟨o,h1,_⟩<;>(rw[h1]at g1;cases g1)
  |lst es=>
   obtain⟨b,ws,z,g1,g2⟩:=g;cases z;have e:vs=ws:=by rcases h1 with⟨h1,_⟩|⟨o,h1,_⟩<;>rcases g1 with⟨g1,_⟩|⟨o',g1,_⟩<;>(rw[h1]at g1;cases g1;try rfl)
   subst e;rw[IsAll.inj h2 g2]
  |dic ls es=>obtain⟨b,ws,z,g1,g2⟩:=g;cases z;rcases h1 with⟨h1,_⟩|⟨o,h1,_⟩<;>exact(g1.1.no h1 True.intro).elim
  |_=>cases g
 | .dic ks ds,e,_,h,g=>by
  obtain⟨a,vs,rfl,h1,h2⟩:=h;cases e with
  |tup es=>obtain⟨b,ws,z,g1,g2⟩:=g;cases z;exact(h1.1.no g1 True.intro).elim
  |lst es=>obtain⟨b,ws,z,g1,g2⟩:=g;cases z;rcases g1 with⟨g1,_⟩|⟨o,g1,_⟩<;>exact(h1.1.no g1 True.intro).elim
  |dic ls es=>obtain⟨b,ws,z,g1,g2⟩:=g;cases z;obtain⟨e1,e2⟩:=h1.1.inj g1.1;subst e1 e2;rw[IsAll.inj h2 g2]
  |_=>cases g
theorem IsAll.inj:∀{ds es:List D}{vs:List V},IsAll H m ds vs->IsAll H m' es vs->ds=es
 | [],es,_,h,g=>by
  cases h;cases es with
  |nil=>rfl
  |cons e es=>obtain⟨_,_,z,_⟩:=g;cases z
 |d::ds,es,_,h,g=>by
  obtain⟨v,r,rfl,h1,h2⟩:=h;cases es with
  |nil=>cases g
  |cons e es=>obtain⟨w,q,z,g1,g2⟩:=g;cases z;rw[Is.inj h1 g1,IsAll.inj h2 g2]
end
theorem IsAll.length:∀{ds:List D}{vs:List V},IsAll H m ds vs->vs.length=ds.length
 | [],_,h=>by cases h;rfl
 |d::ds,_,h=>by obtain⟨v,r,rfl,_,h2⟩:=h;simp[IsAll.length h2]
theorem IsAll.append:∀{ds es:List D}{vs ws:List V},IsAll H m ds vs->IsAll H m es ws->IsAll H m (ds++es) (vs++ws)
 | [],_,_,_,h,g=>by cases h;exact g
 |d::ds,_,_,_,h,g=>by obtain⟨v,r,rfl,h1,h2⟩:=h;exact⟨v,r++_,rfl,h1,IsAll.append h2 g⟩
theorem IsAll.snoc {ds:List D}{d:D}{vs:List V}{v:V}(h:IsAll H m ds vs)(g:Is H m d v):IsAll H m (ds++[d]) (vs++[v]):=h.append ⟨v,[],rfl,g,rfl⟩
theorem IsAll.get:∀{ds:List D}{vs:List V}{i:Nat}{d:D},IsAll H m ds vs->ds[i]?=some d->∃ v,vs[i]?=some v/\Is H m d v
 | [],_,_,_,_,e=>by simp at e
 |d::ds,_,0,_,h,e=>by obtain⟨v,r,rfl,h1,h2⟩:=h;simp at e;subst e;exact⟨v,rfl,h1⟩
 |d::ds,_,i+1,_,h,e=>by obtain⟨v,r,rfl,h1,h2⟩:=h;obtain⟨w,a,b⟩:=IsAll.get (i:=i) h2 (by simpa using e);exact⟨w,by simpa using a,b⟩
theorem IsAll.set:∀{ds:List D}{vs:List V}{d:D}{v:V}(i:Nat),IsAll H m ds vs->Is H m d v->IsAll H m (ds.set i d) (vs.set i v)
 | [],_,_,_,_,h,_=>by cases h;exact rfl
 |x::ds,_,d,v,0,h,g=>by obtain⟨w,r,rfl,h1,h2⟩:=h;exact⟨v,r,rfl,g,h2⟩
 |x::ds,_,d,v,i+1,h,g=>by obtain⟨w,r,rfl,h1,h2⟩:=h;exact⟨w,r.set i v,rfl,h1,IsAll.set i h2 g⟩
theorem IsAll.take:∀{ds:List D}{vs:List V}(n:Nat),IsAll H m ds vs->IsAll H m (ds.take n) (vs.take n)
 |_,_,0,_=>rfl
 | [],_,n+1,h=>by cases h;exact rfl
 |d::ds,_,n+1,h=>by obtain⟨v,r,rfl,h1,h2⟩:=h;exact⟨v,r.take n,rfl,h1,IsAll.take n h2⟩
theorem IsAll.drop:∀{ds:List D}{vs:List V}(n:Nat),IsAll H m ds vs->IsAll H m (ds.drop n) (vs.drop n)
 |_,_,0,h=>h
 | [],_,n+1,h=>by cases h;exact rfl
 |d::ds,_,n+1,h=>by obtain⟨v,r,rfl,h1,h2⟩:=h;exact IsAll.drop n h2
end
section
variable {P:Lw}{w:World}{H:Hp}{s:Ls}{m m':Addr->Prop}
theorem BU (ok:HOk P w H s.heap){a:Addr}{vs:List V}(h:(H a=some (.lst vs)/\m a)\/∃ o,H a=some (.frz o (.lst vs))/\m a) :
 ∃ its:List Lx,Vals vs its/\s.heap.IsList a its.toArray:=by
 have key:ObjOk P w H s.heap a (.lst vs)->∃ its:List Lx,Vals vs its/\s.heap.IsList a its.toArray:=fun⟨_,its,n,r,e⟩=>⟨its,r,⟨_,e,rfl,n,rfl⟩⟩;rcases h with⟨h,_⟩|⟨o,h,_⟩
 .exact key (ok a _ h)
 .exact key (ok a _ h).2
theorem BV (ok:HOk P w H s.heap){a:Addr}{vs:List V}(h:H a=some (.tup vs)):∃ its:List Lx,Vals vs its/\s.heap.IsTuple a its.toArray:=by obtain⟨_,its,r,e⟩:=ok a _ h;exact⟨its,r,e⟩
theorem tM (n:Nat)(e:Nat->Bool):(List.range n).all e=true↔∀ j,j<n->e j=true:=by simp[Jn,IB]
theorem ju:∀(ds es:List D),eqDs ds es=true↔ds.length=es.length/\∀(j:Nat)(d e:D),ds[j]?=some d->es[j]?=some e->cq d e=true
 | [],[]=>by simp[eqDs]
 | [],e::es=>by simp[eqDs]
 |d::ds,[]=>by simp[eqDs]
 |d::ds,e::es=>by
  simp only[eqDs,Ir,ju ds es,IE,Nat.add_right_cancel_iff];constructor
  .rintro⟨h1,h2,h3⟩;refine⟨h2,fun j x y ex ey=>?_⟩;cases j with
   |zero=>simp at ex ey;subst ex;subst ey;exact h1
   |succ j=>exact h3 j x y (by simpa using ex) (by simpa using ey)
  .rintro⟨h2,h3⟩;exact⟨h3 0 d e rfl rfl,h2,fun j x y ex ey=>h3 (j+1) x y (by simpa using ex) (by simpa using ey)⟩
theorem cr:∀{ds:List D}{j:Nat}{d:D},ds[j]?=some d->d.dep<=D.deps ds
 | [],_,_,e=>by simp at e
 |d::ds,0,_,e=>by simp at e;subst e;simp only[D.deps];omega
 |d::ds,j+1,x,e=>by have:=cr (ds:=ds) (j:=j) (d:=x) (by simpa using e);simp only[D.deps];omega
theorem ml (ok:HOk P w H s.heap){A:Ly}{ds es:List D}{vs ws:List V}{its its2:List Lx}(h1:IsAll H m ds vs)(h2:IsAll H m' es ws)(r1:Vals vs its)(r2:Vals ws its2)
 (rec:∀ d∈ds,∀ e∈es,∀(v w:V)(u u':Lx),Is H m d v->Is H m' e w->RelV v u->RelV w u'->SeqAt.EqAt A.in1 s u u' (cq d e)) :
 ∀ j (z1:j<its.toArray.size) (z2:j<its2.toArray.size),SeqAt.EqAt A.in1 s its.toArray[j] its2.toArray[j] (match ds[j]?,es[j]? with|some d,some e=>cq d e|_,_=>true):=by
 intro j z1 z2;have l1:=r1.length;have l2:=r2.length;have l3:=h1.length;have l4:=h2.length;have y1:j<its.length:=by simpa using z1
 have y2:j<its2.length:=by simpa using z2
 have k1:j<ds.length:=by omega
 have k2:j<es.length:=by omega
 obtain⟨v,ev,iv⟩:=h1.get (i:=j) (d:=ds[j]) (by simp[k1]);obtain⟨v',ev',iv'⟩:=h2.get (i:=j) (d:=es[j]) (by simp[k2]);obtain⟨u,eu,ru⟩:=r1.get ev;obtain⟨u',eu',ru'⟩:=r2.get ev';have q1:its.toArray[j]=u:=by
  have:its[j]?=some its[j]:=by simp[y1]
  rw[this]at eu;simpa using Iu eu
 have q2:its2.toArray[j]=u':=by
  have:its2[j]?=some its2[j]:=by simp[y2]
  rw[this]at eu';simpa using Iu eu'
 have g1:ds[j]?=some ds[j]:=by simp[k1]
 have g2:es[j]?=some es[j]:=by simp[k2]
 rw[q1,q2,g1,g2];exact rec ds[j] (Kp _) es[j] (Kp _) v v' u u' iv iv' ru ru'
theorem pU {ds es:List D}(hl:ds.length=es.length) :
 ((List.range ds.length).all fun j=>match ds[j]?,es[j]? with|some d,some e=>cq d e|_,_=>true)=eqDs ds es:=by
 rw[K5,tM,ju];constructor
 .intro h;refine⟨hl,fun j d e ed ee=>?_⟩;have:=h j (Hv.mp ed).1;rw[ed,ee]at this;exact this
 .rintro⟨_,h⟩ j hj;have e1:ds[j]?=some ds[j]:=by simp[hj]
  have hj':j<es.length:=by omega
  have e2:es[j]?=some es[j]:=by simp[hj']
  rw[e1,e2];exact h j _ _ e1 e2
theorem mn {ds es:List D}(hl:ds.length≠es.length):eqDs ds es=false:=by
 cases h:eqDs ds es with
 |false=>rfl
 |true=>exact absurd ((ju ds es).mp h).1 hl
abbrev io (H:Hp)(s:Ls)(m m':Addr->Prop)(A:Ly)(n:Nat):Prop:=∀(d e:D)(v w:V)(u u':Lx),d.dep<n->e.dep<1000->Is H m d v->Is H m' e w->RelV v u->RelV w u'->SeqAt.EqAt A.in1 s u u' (cq d e)
section
variable {A:Ly}{n:Nat}{l1 l2:List D}{vs1 vs2:List V}{its1 its2:List Lx}{a1 a2:Addr}
theorem jv (ok:HOk P w H s.heap)(hn:(D.lst l1).dep<=n)(hE:(D.lst l2).dep<1000)(hu:A.units<cLine)(q1:IsAll H m l1 vs1)(q2:IsAll H m' l2 vs2)(y1:Vals vs1 its1)(y2:Vals vs2 its2)(p1:s.heap.IsList a1 its1.toArray)(p2:s.heap.IsList a2 its2.toArray)
 (rec:io H s m m' A n):SeqAt.RcAt A s (.ref a1) (.ref a2) (cq (.lst l1) (.lst l2)):=by
 have e1:its1.toArray.size=l1.length:=by rw[Hy,<- y1.length,q1.length]
 have e2:its2.toArray.size=l2.length:=by rw[Hy,<- y2.length,q2.length]
 have hd:∀ d∈l1,d.dep<n:=fun d hd=>by obtain⟨j,hj⟩:=HU.mp hd;have:=cr hj;simp only[D.dep]at hn;omega
 have he:∀ e∈l2,e.dep<1000:=fun d hd=>by obtain⟨j,hj⟩:=HU.mp hd;have:=cr hj;simp only[D.dep]at hE;omega
 by_cases hl:l1.length=l2.length
 .have z:=SeqAt.RcAt.lists p1 p2 (by rw[e1,e2,hl]) hu (ml ok q1 q2 y1 y2 fun d hm e hm2 v w u u' i1 i2 r1 r2=>rec d e v w u u' (hd d hm) (he e hm2) i1 i2 r1 r2);rw[e1,pU hl]at z;exact z
 .have z:=SeqAt.RcAt.lists_lengths p1 p2 (by rw[e1,e2];simpa using hl) hu;rw[show cq (.lst l1) (.lst l2)=eqDs l1 l2 from rfl,mn hl];exact z
theorem mq (ok:HOk P w H s.heap)(hn:(D.lst l1).dep<=n)(hE:(D.lst l2).dep<1000)(hu:A.units<cLine)(q1:IsAll H m l1 vs1)(q2:IsAll H m' l2 vs2)(y1:Vals vs1 its1)(y2:Vals vs2 its2)(p1:s.heap.IsList a1 its1.toArray)(p2:s.heap.IsList a2 its2.toArray)
 (rec:io H s m m' A n):SeqAt.RcNeAt A s (.ref a1) (.ref a2) (!cq (.lst l1) (.lst l2)):=by
 have e1:its1.toArray.size=l1.length:=by rw[Hy,<- y1.length,q1.length]
 have e2:its2.toArray.size=l2.length:=by rw[Hy,<- y2.length,q2.length]
 have hd:∀ d∈l1,d.dep<n:=fun d hd=>by obtain⟨j,hj⟩:=HU.mp hd;have:=cr hj;simp only[D.dep]at hn;omega
 have he:∀ e∈l2,e.dep<1000:=fun d hd=>by obtain⟨j,hj⟩:=HU.mp hd;have:=cr hj;simp only[D.dep]at hE;omega
 by_cases hl:l1.length=l2.length
 .have z:=SeqAt.RcNeAt.lists p1 p2 (by rw[e1,e2,hl]) hu (ml ok q1 q2 y1 y2 fun d hm e hm2 v w u u' i1 i2 r1 r2=>rec d e v w u u' (hd d hm) (he e hm2) i1 i2 r1 r2);rw[e1,pU hl]at z;exact z
 .have z:=SeqAt.RcNeAt.lists_lengths p1 p2 (by rw[e1,e2];simpa using hl) hu;rw[show cq (.lst l1) (.lst l2)=eqDs l1 l2 from rfl,mn hl];exact z
theorem qX:((List.range (min l1.length l2.length)).all (fun j=>match l1[j]?,l2[j]? with|some d,some e=>cq d e|_,_=>true)&&l1.length==l2.length)=eqDs l1 l2:=by
 by_cases hl:l1.length=l2.length
 .rw[hl,Nat.min_self,<- hl,pU hl];simp[hl]
 .rw[mn hl];simp[hl]
theorem lj (ok:HOk P w H s.heap)(hn:(D.tup l1).dep<=n)(hE:(D.tup l2).dep<1000)(hu:A.units<cLine)(q1:IsAll H m l1 vs1)(q2:IsAll H m' l2 vs2)(y1:Vals vs1 its1)(y2:Vals vs2 its2)(p1:s.heap.IsTuple a1 its1.toArray)(p2:s.heap.IsTuple a2 its2.toArray)
 (rec:io H s m m' A n):SeqAt.RcAt A s (.ref a1) (.ref a2) (cq (.tup l1) (.tup l2)):=by
 have e1:its1.toArray.size=l1.length:=by rw[Hy,<- y1.length,q1.length]
 have e2:its2.toArray.size=l2.length:=by rw[Hy,<- y2.length,q2.length]
 have hd:∀ d∈l1,d.dep<n:=fun d hd=>by obtain⟨j,hj⟩:=HU.mp hd;have:=cr hj;simp only[D.dep]at hn;omega
 have he:∀ e∈l2,e.dep<1000:=fun d hd=>by obtain⟨j,hj⟩:=HU.mp hd;have:=cr hj;simp only[D.dep]at hE;omega
 have z:=SeqAt.RcAt.tuples p1 p2 hu (ml ok q1 q2 y1 y2 fun d hm e hm2 v w u u' i1 i2 r1 r2=>rec d e v w u u' (hd d hm) (he e hm2) i1 i2 r1 r2);rw[e1,e2,qX]at z;exact z
theorem nT (ok:HOk P w H s.heap)(hn:(D.tup l1).dep<=n)(hE:(D.tup l2).dep<1000)(hu:A.units<cLine)(q1:IsAll H m l1 vs1)(q2:IsAll H m' l2 vs2)(y1:Vals vs1 its1)(y2:Vals vs2 its2)(p1:s.heap.IsTuple a1 its1.toArray)(p2:s.heap.IsTuple a2 its2.toArray)
 (rec:io H s m m' A n):SeqAt.RcNeAt A s (.ref a1) (.ref a2) (!cq (.tup l1) (.tup l2)):=by
 have e1:its1.toArray.size=l1.length:=by rw[Hy,<- y1.length,q1.length]
 have e2:its2.toArray.size=l2.length:=by rw[Hy,<- y2.length,q2.length]
 have hd:∀ d∈l1,d.dep<n:=fun d hd=>by obtain⟨j,hj⟩:=HU.mp hd;have:=cr hj;simp only[D.dep]at hn;omega
 have he:∀ e∈l2,e.dep<1000:=fun d hd=>by obtain⟨j,hj⟩:=HU.mp hd;have:=cr hj;simp only[D.dep]at hE;omega
 have z:=SeqAt.RcNeAt.tuples p1 p2 hu (ml ok q1 q2 y1 y2 fun d hm e hm2 v w u u' i1 i2 r1 r2=>rec d e v w u u' (hd d hm) (he e hm2) i1 i2 r1 r2);rw[e1,e2,qX]at z;exact z
theorem nU (h:SeqAt.RcAt A s (.ref a1) (.ref a2) k)(hs:a1=a2->k=true):SeqAt.EqAt A s (.ref a1) (.ref a2) k:=by
 by_cases e:a1=a2
 .subst e;rw[hs rfl];exact SeqAt.EqAt.same _
 .exact SeqAt.EqAt.of_refs e h
end
theorem Is.shape (ok:HOk P w H s.heap){d:D}{v:V}{u:Lx}(hE:d.dep<1000)(h:Is H m d v)(r:RelV v u):(d=.non/\u=.none)\/(∃ b,d=.bl b/\u=.bool b)\/(∃ i t,d=.int i/\u=.int i t)\/(∃ x t,d=.str x/\u=.str x t)\/
 (∃ l a vs its,d=.lst l/\v=.ref a/\u=.ref a/\IsAll H m l vs/\Vals vs its/\s.heap.IsList a its.toArray)\/∃ l a vs its,d=.tup l/\v=.ref a/\u=.ref a/\IsAll H m l vs/\Vals vs its/\s.heap.IsTuple a its.toArray:=by
 cases d with
 |non=>cases h;cases r;exact .inl ⟨rfl,rfl⟩
 |bl b=>cases h;cases r;exact .inr (.inl ⟨b,rfl,rfl⟩)
 |int i=>cases h;obtain⟨t,rfl⟩:=r;exact .inr (.inr (.inl ⟨i,t,rfl,rfl⟩))
 |str x=>cases h;obtain⟨t,rfl⟩:=r;exact .inr (.inr (.inr (.inl ⟨x,t,rfl,rfl⟩)))
 |lst l=>obtain⟨a,vs,rfl,g,q⟩:=h;cases r;obtain⟨its,y,p⟩:=BU ok g;exact .inr (.inr (.inr (.inr (.inl ⟨l,a,vs,its,rfl,rfl,rfl,q,y,p⟩))))
 |tup l=>obtain⟨a,vs,rfl,g,q⟩:=h;cases r;obtain⟨its,y,p⟩:=BV ok g;exact .inr (.inr (.inr (.inr (.inr ⟨l,a,vs,its,rfl,rfl,rfl,q,y,p⟩))))
 |dic k l=>exact absurd hE (by simp only[D.dep];omega)
theorem yG (ok:HOk P w H s.heap){A:Ly}{n:Nat}(hu:A.units<cLine)(rec:io H s m m' A n){d e:D}{v w':V}{u u':Lx}(hn:d.dep<=n)(hN:n<1000)(hE:e.dep<1000)(h1:Is H m d v)(h2:Is H m' e w')(r1:RelV v u)(r2:RelV w' u') :
 SeqAt.RcAt A s u u' (cq d e):=by
 rcases h1.shape ok (by omega) r1 with⟨rfl,rfl⟩|⟨b1,rfl,rfl⟩|⟨i1,t1,rfl,rfl⟩|⟨x1,t1,rfl,rfl⟩|⟨l1,a1,vs1,its1,rfl,rfl,rfl,q1,y1,p1⟩|⟨l1,a1,vs1,its1,rfl,rfl,rfl,q1,y1,p1⟩<;>rcases h2.shape ok hE r2 with⟨rfl,rfl⟩|⟨b2,rfl,rfl⟩|⟨i2,t2,rfl,rfl⟩|⟨x2,t2,rfl,rfl⟩|⟨l2,a2,vs2,its2,rfl,rfl,rfl,q2,y2,p2⟩|⟨l2,a2,vs2,its2,rfl,rfl,rfl,q2,y2,p2⟩;exact .none_none;exact .none_bool b2;exact .none_int i2 t2;exact .none_str x2 t2;exact .none_list p2 hu;exact .none_tuple p2 hu;exact .bool_none b1;exact .bool_bool b1 b2;exact .bool_int b1 i2 t2;exact .bool_str b1 x2 t2;exact .bool_list b1 p2 hu;exact .bool_tuple b1 p2 hu;exact .int_none i1 t1;exact .int_bool i1 t1 b2;exact .int_int i1 t1 i2 t2;exact .int_str i1 t1 x2 t2;exact .int_list i1 t1 p2 hu;exact .int_tuple i1 t1 p2 hu;exact .str_none x1 t1;exact .str_bool x1 t1 b2;exact .str_int x1 t1 i2 t2;exact .str_str x1 t1 x2 t2;exact .str_list x1 t1 p2 hu;exact .str_tuple x1 t1 p2 hu;exact .list_none p1 hu;exact .list_bool b2 p1 hu;exact .list_int i2 t2 p1 hu;exact .list_str x2 t2 p1 hu;exact jv ok hn hE hu q1 q2 y1 y2 p1 p2 rec;exact .list_tuple p1 p2 hu;exact .tuple_none p1 hu;exact .tuple_bool b2 p1 hu;exact .tuple_int i2 t2 p1 hu;exact .tuple_str x2 t2 p1 hu;exact .tuple_list p1 p2 hu;exact lj ok hn hE hu q1 q2 y1 y2 p1 p2 rec
theorem yH (ok:HOk P w H s.heap){A:Ly}{n:Nat}(hu:A.units<cLine)(rec:io H s m m' A n){d e:D}{v w':V}{u u':Lx}(hn:d.dep<=n)(hN:n<1000)(hE:e.dep<1000)(h1:Is H m d v)(h2:Is H m' e w')(r1:RelV v u)(r2:RelV w' u') :
 SeqAt.RcNeAt A s u u' (!cq d e):=by
 rcases h1.shape ok (by omega) r1 with⟨rfl,rfl⟩|⟨b1,rfl,rfl⟩|⟨i1,t1,rfl,rfl⟩|⟨x1,t1,rfl,rfl⟩|⟨l1,a1,vs1,its1,rfl,rfl,rfl,q1,y1,p1⟩|⟨l1,a1,vs1,its1,rfl,rfl,rfl,q1,y1,p1⟩<;>rcases h2.shape ok hE r2 with⟨rfl,rfl⟩|⟨b2,rfl,rfl⟩|⟨i2,t2,rfl,rfl⟩|⟨x2,t2,rfl,rfl⟩|⟨l2,a2,vs2,its2,rfl,rfl,rfl,q2,y2,p2⟩|⟨l2,a2,vs2,its2,rfl,rfl,rfl,q2,y2,p2⟩;exact .none_none;exact .none_bool b2;exact .none_int i2 t2;exact .none_str x2 t2;exact .none_list p2 hu;exact .none_tuple p2 hu;exact .bool_none b1;exact .bool_bool b1 b2;exact .bool_int b1 i2 t2;exact .bool_str b1 x2 t2;exact .bool_list b1 p2 hu;exact .bool_tuple b1 p2 hu;exact .int_none i1 t1;exact .int_bool i1 t1 b2;exact .int_int i1 t1 i2 t2;exact .int_str i1 t1 x2 t2;exact .int_list i1 t1 p2 hu;exact .int_tuple i1 t1 p2 hu;exact .str_none x1 t1;exact .str_bool x1 t1 b2;exact .str_int x1 t1 i2 t2;exact .str_str x1 t1 x2 t2;exact .str_list x1 t1 p2 hu;exact .str_tuple x1 t1 p2 hu;exact .list_none p1 hu;exact .list_bool b2 p1 hu;exact .list_int i2 t2 p1 hu;exact .list_str x2 t2 p1 hu;exact mq ok hn hE hu q1 q2 y1 y2 p1 p2 rec;exact .list_tuple p1 p2 hu;exact .tuple_none p1 hu;exact .tuple_bool b2 p1 hu;exact .tuple_int i2 t2 p1 hu;exact .tuple_str x2 t2 p1 hu;exact .tuple_list p1 p2 hu;exact nT ok hn hE hu q1 q2 y1 y2 p1 p2 rec
theorem qY (ok:HOk P w H s.heap){A:Ly}{n:Nat}(hu:A.units<cLine)(rec:io H s m m' A n){d e:D}{v w':V}{u u':Lx}(hn:d.dep<=n)(hN:n<1000)(hE:e.dep<1000)(h1:Is H m d v)(h2:Is H m' e w')(r1:RelV v u)(r2:RelV w' u') :
 SeqAt.EqAt A s u u' (cq d e):=by
 rcases h1.shape ok (by omega) r1 with⟨rfl,rfl⟩|⟨b1,rfl,rfl⟩|⟨i1,t1,rfl,rfl⟩|⟨x1,t1,rfl,rfl⟩|⟨l1,a1,vs1,its1,rfl,rfl,rfl,q1,y1,p1⟩|⟨l1,a1,vs1,its1,rfl,rfl,rfl,q1,y1,p1⟩<;>rcases h2.shape ok hE r2 with⟨rfl,rfl⟩|⟨b2,rfl,rfl⟩|⟨i2,t2,rfl,rfl⟩|⟨x2,t2,rfl,rfl⟩|⟨l2,a2,vs2,its2,rfl,rfl,rfl,q2,y2,p2⟩|⟨l2,a2,vs2,its2,rfl,rfl,rfl,q2,y2,p2⟩;exact .same _;exact .none_bool b2;exact .none_int i2 t2;exact .none_str x2 t2;exact .none_list p2 hu;exact .none_tuple p2 hu;exact .bool_none b1;exact .bool_bool b1 b2;exact .bool_int b1 i2 t2;exact .bool_str b1 x2 t2;exact .bool_list b1 p2 hu;exact .bool_tuple b1 p2 hu;exact .int_none i1 t1;exact .int_bool i1 t1 b2;exact .int_int i1 t1 i2 t2;exact .int_str i1 t1 x2 t2;exact .int_list i1 t1 p2 hu;exact .int_tuple i1 t1 p2 hu;exact .str_none x1 t1;exact .str_bool x1 t1 b2;exact .str_int x1 t1 i2 t2;exact .str_str x1 t1 x2 t2;exact .str_list x1 t1 p2 hu;exact .str_tuple x1 t1 p2 hu;exact .list_none p1 hu;exact .list_bool b2 p1 hu;exact .list_int i2 t2 p1 hu;exact .list_str x2 t2 p1 hu;exact nU (jv ok hn hE hu q1 q2 y1 y2 p1 p2 rec) (fun z=>by subst z;rw[Is.inj h1 h2];exact bK _);exact .list_tuple p1 p2 hu;exact .tuple_none p1 hu;exact .tuple_bool b2 p1 hu;exact .tuple_int i2 t2 p1 hu;exact .tuple_str x2 t2 p1 hu;exact .tuple_list p1 p2 hu;exact nU (lj ok hn hE hu q1 q2 y1 y2 p1 p2 rec) (fun z=>by subst z;rw[Is.inj h1 h2];exact bK _)
theorem vN (ok:HOk P w H s.heap):∀(n:Nat)(A:Ly){d e:D}{v w':V}{u u':Lx},A.units+n<cLine->n<1000->d.dep<=n->e.dep<1000->Is H m d v->Is H m' e w'->RelV v u->RelV w' u'->SeqAt.EqAt A s u u' (cq d e)
 |0,A,d,e,v,w',u,u',hu,hN,hn,hE,h1,h2,r1,r2=>qY ok (by omega) (fun d e v w u u' hd=>absurd hd (by omega)) hn hN hE h1 h2 r1 r2
 |n+1,A,d,e,v,w',u,u',hu,hN,hn,hE,h1,h2,r1,r2=>qY ok (by omega) (fun d e v w u u' hd he i1 i2 r1 r2=>vN ok n A.in1 (by show A.units+1+n<cLine;omega) (by omega) (by omega) he i1 i2 r1 r2) hn hN hE h1 h2 r1 r2
theorem vO (ok:HOk P w H s.heap){A:Ly}{n:Nat}(hu:A.units+n<cLine)(hN:n<1000):io H s m m' A n:=fun d e v w u u' hd he i1 i2 r1 r2=>vN ok (n-1) A.in1 (by show A.units+1+(n-1)<cLine;omega) (by omega) (by omega) he i1 i2 r1 r2
end
end L3
set_option autoImplicit false
namespace L3
open PySem PySem.Spec PyProof.Rows L2
abbrev St:=L2.St
inductive Res (α:Type) where
 |stuck|ok (a:α)|exc (c:Str)
noncomputable def Res.bind {α β:Type}:Res α->(α->Res β)->Res β
 | .stuck,_=>.stuck
 | .exc c,_=>.exc c
 | .ok a,k=>k a
@[simp] theorem Res.bind_ok {α β:Type}(a:α)(k:α->Res β):(Res.ok a).bind k=k a:=rfl
inductive Kd where
 |no|tr (d:D)|ds (d:D)
inductive Sl where
 |val (d:D) (fr:Bool)|own (ds:List D) (fr:Bool)|tre (d:D)|mes (d:D)|pin (d:D)|dis (d:D)|fix (n:Nat) (k:Kd)|kon (a:Addr)
noncomputable abbrev En:=List (Option Sl)
inductive R where
 |val (d:D) (fr:Bool) (al:List Nat)|new (ds:List D) (fr:Bool)|fre (d:D)
noncomputable def R.d:R->D
 | .val d _ _=>d
 | .new ds _=>.lst ds
 | .fre d=>d
noncomputable def R.fr:R->Bool
 | .val _ f _=>f
 | .new _ f=>f
 | .fre _=>true
noncomputable def R.al:R->List Nat
 | .val _ _ al=>al
 | .new _ _=>[]
 | .fre _=>[]
def mkV (d:D)(fr:Bool)(al:List Nat):R:=if d.flat then .val d true [] else .val d fr al
structure Gd where
 H₀:Hp
 Ma:Addr->Prop
 Z:Addr->Prop
 root:Option V
 rooT:Option V
noncomputable abbrev Ew (H:Hp)(Ma:Addr->Prop):Gd:=⟨H,Ma,fun _=>False,none,none⟩
def MuZ (g:Gd)(H:Hp)(a:Addr):Prop:=Mu H a\/(g.Z a/\∃ o u,H a=some (.frz o u))
theorem MuZ.same {g:Gd}{H H':Hp}{a:Addr}(h:MuZ g H a)(s:∀ o,H a=some o->H' a=some o):MuZ g H' a:=h.imp (fun z=>z.same s) fun⟨z,o,u,e⟩=>⟨z,o,u,s _ e⟩
def msk (g:Gd)(M:Addr->Prop)(fr:Bool)(a:Addr):Prop:=M a/\(fr=true->g.H₀ a=none)
noncomputable abbrev Pr:=Nat->Addr->Prop
def vmsk (g:Gd)(M:Addr->Prop)(fr:Bool)(ρ:Pr)(al:List Nat)(a:Addr):Prop:=msk g M fr a\/∃ i,i∈al/\ρ i a
mutual
noncomputable def IsSh (H:Hp)(m:Addr->Prop):D->V->Prop
 | .tup ds,v=>∃ a vs,v=.ref a/\H a=some (.tup vs)/\IsShs H m ds vs
 | .lst _,v=>∃ a vs,v=.ref a/\H a=some (.lst vs)/\m a
 |_,_=>True
noncomputable def IsShs (H:Hp)(m:Addr->Prop):List D->List V->Prop
 | [],_=>True
 |d::ds,vs=>∃ v r,vs=v::r/\IsSh H m d v/\IsShs H m ds r
end
def Dst (H:Hp)(T:Addr->Prop)(v:V):Prop:=∃(a:Addr)(vs:List V),v=.ref a/\T a/\(H a=some (.lst vs)\/(∃ kvs,H a=some (.dK kvs)/\vs=kvs.map Prod.snd)\/(H a=some (.dT [])/\vs=[]))/\V.ref a∉vs/\∀(i j:Nat)(b:Addr),vs[i]?=some (V.ref b)->vs[j]?=some (V.ref b)->i=j
theorem Dst.mono {H H':Hp}{T T':Addr->Prop}{v:V}(kp:∀ a o,T a->H a=some o->H' a=some o)(mm:∀ a,T a->T' a)(h:Dst H T v):Dst H' T' v:=by obtain⟨a,vs,e,ta,h1,h2⟩:=h;exact⟨a,vs,e,mm a ta,h1.imp (kp a _ ta) (.imp (fun⟨kvs,q,z⟩=>⟨kvs,kp a _ ta q,z⟩) fun⟨q,z⟩=>⟨kp a _ ta q,z⟩),h2⟩
def KdOk (H:Hp)(T:Addr->Prop)(v:V):Kd->Prop
 | .no=>True
 | .tr d=>Is H T d v
 | .ds d=>Is H T d v/\Dst H T v
theorem KdOk.mono {H H':Hp}{T:Addr->Prop}{v:V}{k:Kd}(kp:∀ a o,H a=some o->(T a\/fixd o)->H' a=some o)(h:KdOk H T v k):KdOk H' T v k:=by
 cases k with
 |no=>exact h
 |tr d=>exact Is.mono kp (fun _ _ _ z=>z) h
 |ds d=>exact⟨Is.mono kp (fun _ _ _ z=>z) h.1,h.2.mono (fun a o z e=>kp a o e (.inl z)) fun _ z=>z⟩
noncomputable def Gd.rt (g:Gd)(n:Nat):Option V:=if n=0 then g.root else g.rooT
def SlOk (g:Gd)(M T:Addr->Prop)(H:Hp)(v:V):Sl->Prop
 | .val d fr=>Is H (msk g M fr) d v
 | .own ds fr=>∃ a vs,v=.ref a/\H a=some (.lst vs)/\(∀ b,T b↔b=a)/\IsAll H (msk g M fr) ds vs
 | .tre d=>Is H T d v
 | .mes d=>IsSh H T d v
 | .pin d=>Is H T d v/\g.root=some v
 | .dis d=>Is H T d v/\Dst H T v
 | .fix n k=>g.rt n=some v/\KdOk H T v k
 | .kon a=>v=.ref a
noncomputable def Sl.isO:Sl->Bool
 | .val _ _=>false
 | .kon _=>false
 | .fix _ .no=>false
 |_=>true
def isOwn (env:En)(j:Nat):Bool:=match env[j]? with
 |some (some sl)=>sl.isO
 |_=>false
structure Rep (g:Gd) (M:Addr->Prop) (ρ:Pr) (env:En) (σ:St) (H:Hp):Prop where
 same:Same g.H₀ H
 froz:∀ a,M a->H a≠none
 inn:∀ a,M a->g.H₀ a=none\/g.Ma a
 fl:∀ a,M a->g.H₀ a=none->MuZ g H a
 slot:∀(i:Nat)(sl:Sl),env[i]?=some (some sl)->∃ v,σ[i]?=some (some v)/\SlOk g M (ρ i) H v sl
 priv:∀(i:Nat)(a:Addr),ρ i a->¬ M a/\g.H₀ a=none/\Mu H a
 apart:∀(i j:Nat)(a:Addr),ρ i a->ρ j a->i=j
 ow:∀(i:Nat)(a:Addr),ρ i a->isOwn env i=true
 len:env.length=σ.length
 zz:∀ a,g.Z a->H a≠none
def ROk (g:Gd)(M:Addr->Prop)(ρ:Pr)(H0 H:Hp)(v:V):R->Prop
 | .val d fr al=>Is H (vmsk g M fr ρ al) d v
 | .new ds fr=>∃ a vs,v=.ref a/\H a=some (.lst vs)/\¬ M a/\H0 a=none/\(∀ i,¬ ρ i a)/\IsAll H (msk g M fr) ds vs
 | .fre d=>∃ T:Addr->Prop,(∀ a,T a->¬ M a/\H0 a=none/\Mu H a/\∀ i,¬ ρ i a)/\Is H T d v
structure Ext (M:Addr->Prop) (H:Hp) (M':Addr->Prop) (H':Hp):Prop where
 m:∀ a,M a->M' a
 h:Same H H'
 n:∀ a,M' a->M a\/H a=none
theorem Ext.refl (M:Addr->Prop)(H:Hp):Ext M H M H:=⟨fun _ z=>z,Same.refl H,fun _ z=>.inl z⟩
theorem Ext.trans {M M1 M2:Addr->Prop}{H H1 H2:Hp}(a:Ext M H M1 H1)(b:Ext M1 H1 M2 H2):Ext M H M2 H2:=⟨fun x z=>b.m x (a.m x z),a.h.trans b.h,fun x z=>(b.n x z).elim (a.n x) fun w=>.inr (a.h.free w)⟩
section
variable {g:Gd}{M M':Addr->Prop}{ρ:Pr}{env:En}{σ:St}{H H' H0:Hp}{fr:Bool}{al:List Nat}
mutual
theorem IsSh.mono {m m':Addr->Prop}(kp:∀ a o,H a=some o->fixd o->H' a=some o)(kl:∀ a vs,m a->H a=some (.lst vs)->∃ vs',H' a=some (.lst vs'))(mm:∀ a,m a->m' a):∀{d:D}{v:V},IsSh H m d v->IsSh H' m' d v
 | .non,_,h=>h
 | .bl _,_,h=>h
 | .int _,_,h=>h
 | .str _,_,h=>h
 | .tup ds,_,h=>by obtain⟨a,vs,e,h1,h2⟩:=h;exact⟨a,vs,e,kp a _ h1 True.intro,IsShs.mono kp kl mm h2⟩
 | .lst ds,_,h=>by obtain⟨a,vs,e,h1,h2⟩:=h;obtain⟨vs',h3⟩:=kl a vs h2 h1;exact⟨a,vs',e,h3,mm a h2⟩
 | .dic _ _,_,h=>h
theorem IsShs.mono {m m':Addr->Prop}(kp:∀ a o,H a=some o->fixd o->H' a=some o)(kl:∀ a vs,m a->H a=some (.lst vs)->∃ vs',H' a=some (.lst vs'))(mm:∀ a,m a->m' a):∀{ds:List D}{vs:List V},IsShs H m ds vs->IsShs H' m' ds vs
 | [],_,h=>h
 |d::ds,_,h=>by obtain⟨v,r,e,h1,h2⟩:=h;exact⟨v,r,e,IsSh.mono kp kl mm h1,IsShs.mono kp kl mm h2⟩
end
theorem msk.mono (mm:∀ a,M a->M' a){a:Addr}(h:msk g M fr a):msk g M' fr a:=⟨mm a h.1,h.2⟩
theorem vmsk.mono (mm:∀ a,M a->M' a){a:Addr}(h:vmsk g M fr ρ al a):vmsk g M' fr ρ al a:=h.imp (msk.mono mm) id
theorem Is.ext {d:D}{v:V}(e:Ext M H M' H')(h:Is H (vmsk g M fr ρ al) d v):Is H' (vmsk g M' fr ρ al) d v:=h.mono (fun a o q _=>e.h a o q) fun _ _ _ z=>z.mono e.m
theorem IsAll.ext {ds:List D}{vs:List V}(e:Ext M H M' H')(h:IsAll H (vmsk g M fr ρ al) ds vs):IsAll H' (vmsk g M' fr ρ al) ds vs:=h.mono (fun a o q _=>e.h a o q) fun _ _ _ z=>z.mono e.m
theorem SlOk.weak {T:Addr->Prop}{v:V}{sl:Sl}(mm:∀ a,M a->M' a)(h:SlOk g M T H v sl):SlOk g M' T H v sl:=by
 cases sl with
 |val d fr=>exact Is.weak (fun b z=>msk.mono mm z) h
 |own ds fr=>obtain⟨b,vs,rfl,h1,h2,h4⟩:=h;exact⟨b,vs,rfl,h1,h2,IsAll.weak (fun b z=>msk.mono mm z) h4⟩
 |tre d=>exact h
 |mes d=>exact h
 |pin d=>exact h
 |dis d=>exact h
 |fix n k=>exact h
 |kon a=>exact h
theorem SlOk.same {T:Addr->Prop}{v:V}{sl:Sl}(s:Same H H')(h:SlOk g M T H v sl):SlOk g M T H' v sl:=by
 cases sl with
 |val d fr=>exact Is.same s h
 |own ds fr=>obtain⟨b,vs,rfl,h1,h2,h4⟩:=h;exact⟨b,vs,rfl,s _ _ h1,h2,IsAll.same s h4⟩
 |tre d=>exact Is.same s h
 |mes d=>exact IsSh.mono (fun a o e _=>s a o e) (fun a vs _ e=>⟨vs,s _ _ e⟩) (fun _ z=>z) h
 |pin d=>exact⟨Is.same s h.1,h.2⟩
 |dis d=>exact⟨Is.same s h.1,h.2.mono (fun a o _ e=>s a o e) fun _ z=>z⟩
 |fix n k=>exact⟨h.1,h.2.mono fun a o e _=>s a o e⟩
 |kon a=>exact h
theorem Rep.moreT {T:Addr->Prop}(r:Rep g M ρ env σ H)(ht:∀ a,T a->Mu H a/\g.H₀ a=none/\∀ i,¬ ρ i a):Rep g (fun b=>M b\/T b) ρ env σ H where
 same:=r.same
 froz:=fun b hb=>hb.elim (r.froz b) fun e=>(ht b e).1.some
 inn:=fun b hb=>hb.elim (r.inn b) fun e=>.inl (ht b e).2.1
 fl:=fun b hb h0=>hb.elim (fun z=>r.fl b z h0) fun e=>.inl (ht b e).1
 slot:=fun i sl e=>by obtain⟨v,ev,s⟩:=r.slot i sl e;exact⟨v,ev,SlOk.weak (fun _=>.inl) s⟩
 priv:=fun i a h=>⟨fun z=>z.elim (r.priv i a h).1 fun z=>(ht a z).2.2 i h,(r.priv i a h).2⟩
 apart:=r.apart
 ow:=r.ow
 len:=r.len
 zz:=r.zz
theorem Rep.more {a:Addr}{ws:List V}(r:Rep g M ρ env σ H)(ha:H a=some (.lst ws))(h0:g.H₀ a=none)(no:∀ i,¬ ρ i a):Rep g (fun b=>M b\/b=a) ρ env σ H:=r.moreT fun b e=>by subst e;exact⟨Mu.lst ha,h0,no⟩
theorem Rep.grow (r:Rep g M ρ env σ H)(s:Same H H'):Rep g M ρ env σ H' where
 same:=r.same.trans s
 froz:=fun a ha e=>by
  cases q:H a with
  |none=>exact r.froz a ha q
  |some o=>rw[s a o q]at e;cases e
 inn:=r.inn
 fl:=fun a ha h0=>(r.fl a ha h0).same fun o e=>s a o e
 slot:=fun i sl e=>by obtain⟨v,ev,k⟩:=r.slot i sl e;exact⟨v,ev,SlOk.same s k⟩
 priv:=fun i a h=>let ⟨a1,a2,a3⟩:=r.priv i a h;⟨a1,a2,a3.same fun o e=>s a o e⟩
 apart:=r.apart
 ow:=r.ow
 len:=r.len
 zz:=fun a z e=>by
  cases q:H a with
  |none=>exact r.zz a z q
  |some o=>rw[s a o q]at e;cases e
theorem Rep.free {a:Addr}(r:Rep g M ρ env σ H)(h:H a=none):g.H₀ a=none/\¬ M a/\∀ i,¬ ρ i a:=by refine⟨r.same.free h,fun z=>r.froz a z h,fun i o=>?_⟩;exact(r.priv i a o).2.2.some h
theorem aQ {a:Addr}{o:HO}(h:H a=none):Same H (av H a o):=fun b u e=>by rw[ac (aH e h)];exact e
theorem ROk.is {v:V}{r:R}{M0:Addr->Prop}(rep:Rep g M ρ env σ H)(x:Ext M0 H0 M H)(h0:Same g.H₀ H0)(h:ROk g M ρ H0 H v r):∃ M',Ext M0 H0 M' H/\(∀ a,M a->M' a)/\Rep g M' ρ env σ H/\Is H (vmsk g M' r.fr ρ r.al) r.d v:=by
 cases r with
 |val d fr al=>exact⟨M,x,fun _ z=>z,rep,h⟩
 |new ds fr=>obtain⟨a,vs,rfl,h1,h2,h3,h4,h5⟩:=h;have z0:g.H₀ a=none:=h0.free h3;exact⟨fun b=>M b\/b=a,⟨fun b z=>.inl (x.m b z),x.h,fun b z=>z.elim (x.n b) fun e=>.inr (e▸h3)⟩,fun _=>.inl,rep.more h1 z0 h4,a,vs,rfl,.inl ⟨h1,.inl ⟨.inr rfl,fun _=>z0⟩⟩,IsAll.weak (fun b z=>.inl (msk.mono (fun _=>.inl) z)) h5⟩
 |fre d=>obtain⟨T,ht,is⟩:=h;exact⟨fun b=>M b\/T b,⟨fun b z=>.inl (x.m b z),x.h,fun b z=>z.elim (x.n b) fun e=>.inr (ht b e).2.1⟩,fun _=>.inl,rep.moreT fun a z=>let ⟨a1,a2,a3,a4⟩:=ht a z;⟨a3,h0.free a2,a4⟩,Is.weak (fun b z=>.inl ⟨.inr z,fun _=>h0.free (ht b z).2.1⟩) is⟩
theorem ROk.mkV {d:D}{v:V}(h:Is H (vmsk g M fr ρ al) d v):ROk g M ρ H0 H v (mkV d fr al):=by
 unfold L3.mkV;split
 .exact Is.flat (by assumption) h
 .exact h
theorem ROk.back {v:V}{r:R}{H1:Hp}(s:Same H1 H0)(h:ROk g M ρ H0 H v r):ROk g M ρ H1 H v r:=by
 cases r with
 |val d fr al=>exact h
 |new ds fr=>obtain⟨a,vs,rfl,h1,h2,h3,h4,h5⟩:=h;exact⟨a,vs,rfl,h1,h2,s.free h3,h4,h5⟩
 |fre d=>obtain⟨T,ht,is⟩:=h;exact⟨T,fun a z=>let ⟨a1,a2,a3⟩:=ht a z;⟨a1,s.free a2,a3⟩,is⟩
end
def yI (mg:Str->Option Lx)(E:XK)(g:Gd)(c:Str):Prop:=∀ cls dx H',mg c=some cls->Same g.H₀ H'->E cls dx H'
section
variable (mg:Str->Option Lx)(E:XK)(g:Gd)(M:Addr->Prop)(ρ:Pr)(env:En)(σ:St)(H:Hp)
def PostE (Q:VK):Res R->Prop
 | .stuck=>False
 | .exc c=>yI mg E g c
 | .ok r=>∀ v M' H',Ext M H M' H'->Rep g M' ρ env σ H'->ROk g M' ρ H H' v r->Q v H'
def aL (rs:List R):Bool:=rs.all R.fr
def bc (rs:List R):List Nat:=rs.flatMap R.al
def PostA (Q:List V->Hp->Prop):Res (List R)->Prop
 | .stuck=>False
 | .exc c=>yI mg E g c
 | .ok rs=>∀ vs M' H',Ext M H M' H'->Rep g M' ρ env σ H'->IsAll H' (vmsk g M' (aL rs) ρ (bc rs)) (rs.map R.d) vs->Q vs H'
noncomputable def PostT (Q:Bool->Hp->Prop):Res Bool->Prop
 | .stuck=>False
 | .exc c=>yI mg E g c
 | .ok b=>∀ M' H',Ext M H M' H'->Rep g M' ρ env σ H'->Q b H'
end
def Snd (mg:Str->Option Lx)(E:XK)(t:TE)(f:En->Res R):Prop:=∀ g M ρ env σ H Q,Rep g M ρ env σ H->PostE mg E g M ρ env σ H Q (f env)->t σ H Q
def SndA (mg:Str->Option Lx)(E:XK)(t:TA)(f:En->Res (List R)):Prop:=∀ g M ρ env σ H Q,Rep g M ρ env σ H->PostA mg E g M ρ env σ H Q (f env)->t σ H Q
def SndT (mg:Str->Option Lx)(E:XK)(t:TT)(f:En->Res Bool):Prop:=∀ g M ρ env σ H Q,Rep g M ρ env σ H->PostT mg E g M ρ env σ H Q (f env)->t σ H Q
def PD (X:Cx)(E:XK)(e:Expr)(f:En->Res R):Prop:=∃ t,PE X e t/\Snd X.mg E t f
def xQ (X:Cx)(E:XK)(es:List Expr)(f:En->Res (List R)):Prop:=∃ t,PA X es t/\SndA X.mg E t f
def xR (X:Cx)(E:XK)(e:Expr)(f:En->Res Bool):Prop:=∃ t,PT X e t/\SndT X.mg E t f
def PWD (X:Cx)(E:XK)(e:Expr)(f:En->Res Bool):Prop:=∃ t,PW X e t/\SndT X.mg E t f
theorem PWD.pt {X:Cx}{E:XK}{e:Expr}{f:En->Res Bool}(h:PWD X E e f):xR X E e f:=let ⟨t,a,b⟩:=h;⟨t,a.pt,b⟩
section
variable {mg:Str->Option Lx}{E:XK}{g:Gd}{M M':Addr->Prop}{ρ:Pr}{env:En}{σ:St}{H H':Hp}
theorem PostE.ext {Q:VK}{r:Res R}(e:Ext M H M' H')(p:PostE mg E g M ρ env σ H Q r):PostE mg E g M' ρ env σ H' Q r:=by
 cases r with
 |stuck=>exact p
 |exc c=>exact p
 |ok r=>exact fun v M2 H2 e2 rep2 ro=>p v M2 H2 (e.trans e2) rep2 (ro.back e.h)
theorem PostA.ext {Q:List V->Hp->Prop}{r:Res (List R)}(e:Ext M H M' H')(p:PostA mg E g M ρ env σ H Q r):PostA mg E g M' ρ env σ H' Q r:=by
 cases r with
 |stuck=>exact p
 |exc c=>exact p
 |ok r=>exact fun v M2 H2 e2=>p v M2 H2 (e.trans e2)
theorem PostT.ext {Q:Bool->Hp->Prop}{r:Res Bool}(e:Ext M H M' H')(p:PostT mg E g M ρ env σ H Q r):PostT mg E g M' ρ env σ H' Q r:=by
 cases r with
 |stuck=>exact p
 |exc c=>exact p
 |ok r=>exact fun M2 H2 e2=>p M2 H2 (e.trans e2)
theorem PostE.val {Q:VK}{d:D}{fr:Bool}{al:List Nat}{v:V}(p:PostE mg E g M ρ env σ H Q (.ok (mkV d fr al)))(rep:Rep g M ρ env σ H)(h:Is H (vmsk g M fr ρ al) d v):Q v H:=p v M H (Ext.refl M H) rep (ROk.mkV h)
theorem PostE.new {Q:VK}{ds:List D}{fr:Bool}{vs:List V}{a:Addr}(p:PostE mg E g M ρ env σ H Q (.ok (.new ds fr)))(rep:Rep g M ρ env σ H)(ha:H a=none)(h:IsAll H (msk g M fr) ds vs):Q (.ref a) (av H a (.lst vs)):=by have s:Same H (av H a (.lst vs)):=aQ ha;obtain⟨h0,hm,ho⟩:=rep.free ha;exact p _ M _ ⟨fun _ z=>z,s,fun _ z=>.inl z⟩ (rep.grow s) ⟨a,vs,rfl,ag,hm,ha,ho,IsAll.same s h⟩
theorem PostE.tup {Q:VK}{ds:List D}{fr:Bool}{al:List Nat}{vs:List V}{a:Addr}(p:PostE mg E g M ρ env σ H Q (.ok (mkV (.tup ds) fr al)))(rep:Rep g M ρ env σ H)(ha:H a=none)(h:IsAll H (vmsk g M fr ρ al) ds vs):Q (.ref a) (av H a (.tup vs)):=by have s:Same H (av H a (.tup vs)):=aQ ha;exact p _ M _ ⟨fun _ z=>z,s,fun _ z=>.inl z⟩ (rep.grow s) (ROk.mkV ⟨a,vs,rfl,ag,IsAll.same s h⟩)
theorem Snd.one {t:TE}{f:En->Res R}(h:Snd mg E t f)(rep:Rep g M ρ env σ H){α:Type}{K:R->Res α}{P:(M:Addr->Prop)->(H:Hp)->Res α->Prop}{Q:VK}
 (hp:P M H ((f env).bind K)) (hs:∀ M H,P M H .stuck->False) (hx:∀ M H c,P M H (.exc c)->yI mg E g c) (he:∀ M H M' H' r,Ext M H M' H'->P M H r->P M' H' r)
 (k:∀ r v M' H',Ext M H M' H'->Rep g M' ρ env σ H'->Is H' (vmsk g M' r.fr ρ r.al) r.d v->P M' H' (K r)->Q v H'):t σ H Q:=by
 refine h g M ρ env σ H Q rep ?_;cases e:f env with
 |stuck=>rw[e]at hp;exact hs _ _ hp
 |exc c=>rw[e]at hp;exact hx _ _ c hp
 |ok r=>rw[e]at hp;intro v M1 H1 e1 rep1 ro;obtain⟨M2,e2,_,rep2,is⟩:=ro.is rep1 e1 rep.same;exact k r v M2 H1 e2 rep2 is (he _ _ _ _ _ e2 hp)
theorem Snd.oneE {t:TE}{f:En->Res R}(h:Snd mg E t f)(rep:Rep g M ρ env σ H){K:R->Res R}{Q':VK}{Q:VK}(hp:PostE mg E g M ρ env σ H Q' ((f env).bind K))
 (k:∀ r v M' H',Ext M H M' H'->Rep g M' ρ env σ H'->Is H' (vmsk g M' r.fr ρ r.al) r.d v->PostE mg E g M' ρ env σ H' Q' (K r)->Q v H'):t σ H Q:=
 h.one rep (P:=fun M H r=>PostE mg E g M ρ env σ H Q' r) hp (fun _ _ z=>z) (fun _ _ _ z=>z) (fun _ _ _ _ _ e p=>p.ext e) k
theorem Snd.oneA {t:TE}{f:En->Res R}(h:Snd mg E t f)(rep:Rep g M ρ env σ H){K:R->Res (List R)}{Q':List V->Hp->Prop}{Q:VK}(hp:PostA mg E g M ρ env σ H Q' ((f env).bind K))
 (k:∀ r v M' H',Ext M H M' H'->Rep g M' ρ env σ H'->Is H' (vmsk g M' r.fr ρ r.al) r.d v->PostA mg E g M' ρ env σ H' Q' (K r)->Q v H'):t σ H Q:=
 h.one rep (P:=fun M H r=>PostA mg E g M ρ env σ H Q' r) hp (fun _ _ z=>z) (fun _ _ _ z=>z) (fun _ _ _ _ _ e p=>p.ext e) k
theorem Snd.oneT {t:TE}{f:En->Res R}(h:Snd mg E t f)(rep:Rep g M ρ env σ H){K:R->Res Bool}{Q':Bool->Hp->Prop}{Q:VK}(hp:PostT mg E g M ρ env σ H Q' ((f env).bind K))
 (k:∀ r v M' H',Ext M H M' H'->Rep g M' ρ env σ H'->Is H' (vmsk g M' r.fr ρ r.al) r.d v->PostT mg E g M' ρ env σ H' Q' (K r)->Q v H'):t σ H Q:=
 h.one rep (P:=fun M H r=>PostT mg E g M ρ env σ H Q' r) hp (fun _ _ z=>z) (fun _ _ _ z=>z) (fun _ _ _ _ _ e p=>p.ext e) k
theorem Snd.twoE {ta tb:TE}{fa fb:En->Res R}(ha:Snd mg E ta fa)(hb:Snd mg E tb fb)(rep:Rep g M ρ env σ H){K:R->R->Res R}{Q':VK}{S:V->V->Hp->Prop}
 (hp:PostE mg E g M ρ env σ H Q' ((fa env).bind fun ra=>(fb env).bind fun rb=>K ra rb))
 (k:∀ ra rb x y M' H',Rep g M' ρ env σ H'->Is H' (vmsk g M' ra.fr ρ ra.al) ra.d x->Is H' (vmsk g M' rb.fr ρ rb.al) rb.d y->PostE mg E g M' ρ env σ H' Q' (K ra rb)->S x y H') :
 ta σ H fun x H1=>tb σ H1 fun y H2=>S x y H2:=
 ha.oneE rep hp fun ra x M1 H1 e1 rep1 i1 p1=>hb.oneE rep1 p1 fun rb y M2 H2 e2 rep2 i2 p2=>k ra rb x y M2 H2 rep2 (i1.ext e2) i2 p2
end
noncomputable def lim:Nat:=1000000
theorem de {n:Nat}(h:n<=lim):n<=sizeLine:=by rw[Iy];unfold lim at h;omega
theorem hI {n:Nat}(h:n<lim):n<sizeLine:=by rw[Iy];unfold lim at h;omega
def f_ (ds:List D)(fr:Bool)(al:List Nat):R:=if D.flats ds then .new ds true else if al.isEmpty then .new ds fr else .val (.lst ds) fr al
section
variable {mg:Str->Option Lx}{E:XK}{g:Gd}{M M':Addr->Prop}{ρ:Pr}{env:En}{σ:St}{H H':Hp}
theorem vmsk.nil {fr:Bool}{a:Addr}(h:vmsk g M fr ρ [] a):msk g M fr a:=h.elim id fun⟨_,z,_⟩=>absurd z (by simp)
theorem PostE.lst {Q:VK}{ds:List D}{fr:Bool}{al:List Nat}{vs:List V}{a:Addr}(p:PostE mg E g M ρ env σ H Q (.ok (f_ ds fr al)))(rep:Rep g M ρ env σ H)(ha:H a=none)(h:IsAll H (vmsk g M fr ρ al) ds vs):Q (.ref a) (av H a (.lst vs)):=by
 unfold f_ at p;by_cases hf:D.flats ds=true
 .rw[Hx hf]at p;exact p.new rep ha (IsAll.flat hf h)
 .rw[Hz hf]at p;cases al with
  |nil=>exact PostE.new (p:=p) rep ha (IsAll.weak (fun _ z=>z.nil) h)
  |cons i al=>have p:PostE mg E g M ρ env σ H Q (.ok (.val (.lst ds) fr (i::al))):=p;have s:Same H (av H a (.lst vs)):=aQ ha;obtain⟨h0,hm,ho⟩:=rep.free ha;refine p _ (fun b=>M b\/b=a) _ ⟨fun _=>.inl,s,fun b z=>z.imp id fun(e:b=a)=>by rw[e];exact ha⟩ ((rep.grow s).more ag h0 ho) ⟨a,vs,rfl,.inl ⟨ag,.inl ⟨.inr rfl,fun _=>h0⟩⟩,?_⟩;exact(IsAll.same s h).weak fun b z=>z.mono fun _=>.inl
theorem Is.rd {m:Addr->Prop}{ds:List D}{v:V}(h:Is H m (.lst ds) v):∃ a vs,v=.ref a/\Rd H a (.lst vs)/\IsAll H m ds vs:=by obtain⟨a,vs,e,h1,h2⟩:=h;exact⟨a,vs,e,h1.imp (·.1) fun⟨o,z,_⟩=>⟨o,z⟩,h2⟩
end
section
variable {X:Cx}{E:XK}
def ai (i:Nat):En->Res R:=fun env=>match env[i]? with
 |some (some (.val d fr))=>.ok (mkV d fr [])
 |some (some (.own ds fr))=>.ok (.val (.lst ds) fr [i])
 |some (some (.tre d))=>.ok (.val d true [i])
 |some (some (.pin d))=>.ok (.val d true [i])
 |some (some (.dis d))=>.ok (.val d true [i])
 |some (some (.fix _ (.tr d)))=>.ok (.val d true [i])
 |some (some (.fix _ (.ds d)))=>.ok (.val d true [i])
 |_=>.stuck
theorem qZ {mg:Str->Option Lx}{i:Nat}:Snd mg E (fD i) (ai i):=by
 intro g M ρ env σ H Q rep p;unfold ai at p;cases e1:env[i]? with
 |none=>rw[e1]at p;exact p.elim
 |some o=>
  cases o with
  |none=>rw[e1]at p;exact p.elim
  |some sl=>
   obtain⟨v,ev,k⟩:=rep.slot i sl e1;rw[e1]at p;refine⟨v,ev,?_⟩;cases sl with
   |val d fr=>exact PostE.val p rep (Is.weak (fun _ z=>.inl z) k)
   |own ds fr=>obtain⟨a,vs,rfl,h1,h2,h4⟩:=k;exact p _ M H (Ext.refl M H) rep ⟨a,vs,rfl,.inl ⟨h1,.inr ⟨i,by simp,(h2 a).mpr rfl⟩⟩,IsAll.weak (fun _ z=>.inl z) h4⟩
   |tre d=>exact p _ M H (Ext.refl M H) rep (Is.weak (fun a z=>.inr ⟨i,by simp,z⟩) k)
   |mes d=>exact p.elim
   |pin d=>exact p _ M H (Ext.refl M H) rep (Is.weak (fun a z=>.inr ⟨i,by simp,z⟩) k.1)
   |dis d=>exact p _ M H (Ext.refl M H) rep (Is.weak (fun a z=>.inr ⟨i,by simp,z⟩) k.1)
   |fix n q0=>
    cases q0 with
    |no=>exact p.elim
    |tr d=>exact p _ M H (Ext.refl M H) rep (Is.weak (fun a z=>.inr ⟨i,by simp,z⟩) k.2)
    |ds d=>exact p _ M H (Ext.refl M H) rep (Is.weak (fun a z=>.inr ⟨i,by simp,z⟩) k.2.1)
   |kon a=>exact p.elim
theorem mv {i:Nat}{e:Expr}(h:PE X e (fD i)):PD X E e (ai i):=⟨_,h,qZ⟩
def vC (d:D):En->Res R:=fun _=>.ok (.val d true [])
theorem AQ {mg:Str->Option Lx}{d:D}{v:V}(h:∀ H m,Is H m d v):Snd mg E (tC v) (vC d):=fun g M ρ env σ H Q rep p=>p v M H (Ext.refl M H) rep (h H _)
theorem ar {i j pos}:PD X E (.Constant (.int i) j pos) (vC (.int i)):=⟨_,uJ,AQ fun _ _=>rfl⟩
theorem aU {b j pos}:PD X E (.Constant (.bool b) j pos) (vC (.bl b)):=⟨_,DO,AQ fun _ _=>rfl⟩
def v2 (op:R->R->Res R)(fa fb:En->Res R):En->Res R:=fun env=>(fa env).bind fun ra=>(fb env).bind fun rb=>op ra rb
def j5 (X:Cx)(E:XK)(f:Lx->Lx->Sem Lx)(op:R->R->Res R):Prop:=∃ r:R2,OpR X f r/\
 ∀ g M ρ env σ H Q ra rb x y,Rep g M ρ env σ H->Is H (vmsk g M ra.fr ρ ra.al) ra.d x->Is H (vmsk g M rb.fr ρ rb.al) rb.d y->PostE X.mg E g M ρ env σ H Q (op ra rb)->r x y H Q
theorem aN {a b:Expr}{fa fb:En->Res R}{op:Operator}{k:R->R->Res R}{pos:Pos}(ho:j5 X E (binaryOp op) k)(ha:PD X E a fa)(hb:PD X E b fb):PD X E (.BinOp a op b pos) (v2 k fa fb):=by obtain⟨r,h1,h2⟩:=ho;obtain⟨ta,pa,sa⟩:=ha;obtain⟨tb,pb,sb⟩:=hb;exact⟨_,DZ h1 pa pb,fun g M ρ env σ H Q rep p=>sa.twoE sb rep p fun ra rb x y M' H' rep' i1 i2 p'=>h2 g M' ρ env σ H' Q ra rb x y rep' i1 i2 p'⟩
theorem cI {a b:Expr}{fa fb:En->Res R}{op:CmpOp}{k:R->R->Res R}{pos:Pos}(ho:j5 X E (compareOp op) k)(ha:PD X E a fa)(hb:PD X E b fb)(hm:behindInMarks op b=false):PD X E (.Compare a [op] [b] pos) (v2 k fa fb):=by obtain⟨r,h1,h2⟩:=ho;obtain⟨ta,pa,sa⟩:=ha;obtain⟨tb,pb,sb⟩:=hb;exact⟨_,x_ h1 pa pb hm,fun g M ρ env σ H Q rep p=>sa.twoE sb rep p fun ra rb x y M' H' rep' i1 i2 p'=>h2 g M' ρ env σ H' Q ra rb x y rep' i1 i2 p'⟩
def oI (C:Int->Int->Bool)(k:Int->Int->D)(a b:R):Res R:=match a.d,b.d with
 | .int i,.int j=>if C i j then .ok (.val (k i j) true []) else .stuck
 |_,_=>.stuck
theorem q_ {f:Lx->Lx->Sem Lx}{C:Int->Int->Prop}{kV:Int->Int->V}(c:Int->Int->Bool)(k:Int->Int->D)(ho:OpR X f (rI C kV))(hc:∀ i j,c i j=true->C i j)(hk:∀ H m i j,Is H m (k i j) (kV i j)):j5 X E f (oI c k):=by
 refine⟨_,ho,fun g M ρ env σ H Q ra rb x y rep i1 i2 p=>?_⟩;unfold oI at p;cases e1:ra.d with
 |int i=>
  rw[e1]at p i1;cases e2:rb.d with
  |int j=>
   rw[e2]at p i2;cases i1;cases i2;by_cases h:c i j=true
   .simp only[h,JJ]at p;exact⟨i,j,rfl,rfl,hc i j h,p _ M H (Ext.refl M H) rep (hk H _ i j)⟩
   .simp only[h]at p;exact p.elim
  |_=>rw[e2]at p;exact p.elim
 |_=>rw[e1]at p;exact p.elim
theorem vP {f:Lx->Lx->Sem Lx}{kV:Int->Int->V}(k:Int->Int->D)(ho:OpR X f (DH kV))(hk:∀ H m i j,Is H m (k i j) (kV i j)):j5 X E f (oI (fun _ _=>true) k):=by refine q_ (C:=fun _ _=>True) (kV:=kV) _ k (fun pins s σ H x y v u Q I rx ry h=>?_) (fun _ _ _=>True.intro) hk;obtain⟨i,j,a,b,_,q⟩:=h;exact ho pins s σ H x y v u Q I rx ry ⟨i,j,a,b,q⟩
noncomputable def vQ (i j:Int):Bool:=(decide (-(2 ^ 64)<i)&&decide (i<2 ^ 64)) || (decide (-(2 ^ 64)<j)&&decide (j<2 ^ 64))
def vR:R->R->Res R:=oI vQ fun i j=>.int (i*j)
def mw:R->R->Res R:=oI (fun _ j=>decide (0<j)&&decide (j<1073741824)) fun i j=>.int (i / j)
def fV:R->R->Res R:=oI (fun _ j=>decide (0<j)) fun i j=>.int (i % j)
theorem pV:j5 X E (binaryOp .Mult) vR:=q_ _ _ Bp (fun i j h=>by simp only[vQ,K4,Ir,JW]at h;exact h) fun _ _ _ _=>rfl
theorem fW:j5 X E (binaryOp .FloorDiv) mw:=q_ _ _ x9 (fun i j h=>by simp only[Ir,JW]at h;exact h) fun _ _ _ _=>rfl
theorem bW:j5 X E (binaryOp .Mod) fV:=q_ _ _ Bq (fun i j h=>by simpa using h) fun _ _ _ _=>rfl
def pW:R->R->Res R:=oI (fun _ _=>true) fun i j=>.bl (decide (i<j))
def DI:R->R->Res R:=oI (fun _ _=>true) fun i j=>.bl (decide (i<=j))
theorem ip:j5 X E (compareOp .Lt) pW:=vP _ D2 fun _ _ _ _=>rfl
theorem rf:j5 X E (compareOp .LtE) DI:=vP _ D6 fun _ _ _ _=>rfl
theorem Inv.rdL {pins:List (Addr×Obj)}{σ:St}{H:Hp}{s:Ls}{l:Addr}{xs:List V}(I:L2.Inv X pins σ H s)(h:Rd H l (.lst xs)) :
 xs.length<=sizeLine/\∃(its:List Lx)(n:Nat),Vals xs its/\xs.length=its.length/\s.heap.get? l=some { cls:=.type "list",data:=.seq its.toArray n }:=by
 obtain⟨z,its,n,r,e⟩:=(h.ok I.hok:ObjOk X.prog X.w H s.heap l (.lst xs));exact⟨z,its,n,r,r.length,e⟩
def Ex:R2:=fun x y H Q=>∃ l b xs zs,x=.ref l/\y=.ref b/\Rd H l (.lst xs)/\Rd H b (.lst zs)/\xs.length+zs.length<=sizeLine/\∀ p,H p=none->Q (.ref p) (av H p (.lst (xs++zs)))
theorem op_catS:OpR X (binaryOp .Add) Ex:=by
 intro pins s σ H x y v u Q I rx ry h;obtain⟨l,b,xs,zs,rfl,rfl,hH,hB,hz,q⟩:=h;cases rx;cases ry;obtain⟨z,its,n,r,hl,e⟩:=Inv.rdL I hH;obtain⟨z2,its2,n2,r2,hl2,e2⟩:=Inv.rdL I hB;refine PySem.P.add_list e e2 ?_ (by rw[Hy,Hy];omega);have ea:its.toArray++its2.toArray=(its++its2).toArray:=by simp
 rw[ea];exact⟨.ref _,_,I.lnew (t':=s.toks) (r.append r2) (by rw[Ig];omega),rfl,q _ I.fresh⟩
def d8 (a b:R):Res R:=match a.d,b.d with
 | .int i,.int j=>.ok (.val (.int (i+j)) true [])
 | .lst xs,.lst ys=>if xs.length+ys.length<=lim then .ok (f_ (xs++ys) (a.fr&&b.fr) (a.al++b.al)) else .stuck
 | .tup xs,.tup ys=>if xs.length+ys.length<=lim/\xs≠[] then .ok (mkV (.tup (xs++ys)) (a.fr&&b.fr) (a.al++b.al)) else .stuck
 | .str x,.str y=>if x.length+y.length<=lim then .ok (.val (.str (x++y)) true []) else .stuck
 |_,_=>.stuck
section
variable {g:Gd}{M:Addr->Prop}{ρ:Pr}{env:En}{σ:St}
theorem vmsk.l {f1 f2:Bool}{l1 l2:List Nat}{a:Addr}(h:vmsk g M f1 ρ l1 a):vmsk g M (f1&&f2) ρ (l1++l2) a:=h.imp (fun z=>⟨z.1,fun e=>z.2 (by cases f1<;>simp_all)⟩) fun⟨i,hi,o⟩=>⟨i,by simp[hi],o⟩
theorem vmsk.r {f1 f2:Bool}{l1 l2:List Nat}{a:Addr}(h:vmsk g M f2 ρ l2 a):vmsk g M (f1&&f2) ρ (l1++l2) a:=h.imp (fun z=>⟨z.1,fun e=>z.2 (by cases f2<;>simp_all)⟩) fun⟨i,hi,o⟩=>⟨i,by simp[hi],o⟩
end
theorem dE:j5 X E (binaryOp .Add) d8:=by
 refine⟨_,op_add.or (op_catS.or (op_catT.or pd)),fun g M ρ env σ H Q ra rb x y rep i1 i2 p=>?_⟩;unfold d8 at p;cases e1:ra.d with
 |int i=>
  rw[e1]at p i1;cases e2:rb.d with
  |int j=>rw[e2]at p i2;cases i1;cases i2;exact .inl ⟨i,j,rfl,rfl,p _ M H (Ext.refl M H) rep rfl⟩
  |_=>rw[e2]at p;exact p.elim
 |lst xs=>
  rw[e1]at p i1;cases e2:rb.d with
  |lst ys=>
   rw[e2]at p i2;obtain⟨a,vs,rfl,h1,h2⟩:=i1.rd;obtain⟨b,ws,rfl,h3,h4⟩:=i2.rd;by_cases hz:xs.length+ys.length<=lim
   .simp only[hz,JJ]at p;refine .inr (.inl ⟨a,b,vs,ws,rfl,rfl,h1,h3,by rw[h2.length,h4.length];exact de hz,fun q hq=>?_⟩);exact p.lst rep hq ((h2.weak fun _ z=>z.l).append (h4.weak fun _ z=>z.r))
   .simp only[hz,IQ]at p;exact p.elim
  |_=>rw[e2]at p;exact p.elim
 |tup xs=>
  rw[e1]at p i1;cases e2:rb.d with
  |tup ys=>
   rw[e2]at p i2;obtain⟨a,vs,rfl,h1,h2⟩:=i1;obtain⟨b,ws,rfl,h3,h4⟩:=i2;dsimp only at p;by_cases hz:xs.length+ys.length<=lim/\xs≠[]
   .rw[Hx hz]at p;have n1:vs≠[]:=fun z=>hz.2 (by have:=h2.length;rw[z]at this;exact KR this.symm);refine .inr (.inr (.inl ⟨a,b,vs,ws,rfl,rfl,SqT.of h1,SqT.of h3,n1,by rw[h2.length,h4.length];exact de hz.1,fun z=>?_,fun _ q hq=>?_⟩))
    .have ey:ys=[]:=by have:=h4.length;rw[z]at this;exact KR this.symm
     rw[ey,IS]at p;exact p.val rep (Is.weak (d:=.tup xs) (fun _ z=>z.l) ⟨a,vs,rfl,h1,h2⟩)
    .exact p.tup rep hq ((h2.weak fun _ z=>z.l).append (h4.weak fun _ z=>z.r))
   .rw[Hz hz]at p;exact p.elim
  |_=>rw[e2]at p;exact p.elim
 |str xs=>
  rw[e1]at p i1;cases e2:rb.d with
  |str ys=>
   rw[e2]at p i2;cases i1;cases i2;by_cases hz:xs.length+ys.length<=lim
   .simp only[hz,JJ]at p;exact .inr (.inr (.inr ⟨xs,ys,rfl,rfl,de hz,p _ M H (Ext.refl M H) rep rfl⟩))
   .simp only[hz,IQ]at p;exact p.elim
  |_=>rw[e2]at p;exact p.elim
 |_=>rw[e1]at p;exact p.elim
def vS (a b:R):Res R:=if a.d.dep<=50/\b.d.dep<=50 then .ok (.val (.bl (cq a.d b.d)) true []) else .stuck
def rh (a b:R):Res R:=if a.d.dep<=50/\b.d.dep<=50 then .ok (.val (.bl (!cq a.d b.d)) true []) else .stuck
def GA:R2:=fun x y H Q=>∃ d e m m',Is H m d x/\Is H m' e y/\(d.dep<=50/\e.dep<=50)/\Q (.bl (cq d e)) H
def GB:R2:=fun x y H Q=>∃ d e m m',Is H m d x/\Is H m' e y/\(d.dep<=50/\e.dep<=50)/\Q (.bl (!cq d e)) H
theorem BW (hu:X.A.units+64<cLine):OpR X (compareOp .Eq) GA:=by intro pins s σ H x y v u Q I rx ry h;obtain⟨d,e,m,m',h1,h2,hd,q⟩:=h;exact yG I.hok (by omega) (vO I.hok (A:=X.A) (n:=50) (by omega) (by omega)) hd.1 (by omega) (by omega) h1 h2 rx ry X.prog X.w X.xe _ ⟨.bl _,H,I,rfl,q⟩
theorem BX (hu:X.A.units+64<cLine):OpR X (compareOp .NotEq) GB:=by intro pins s σ H x y v u Q I rx ry h;obtain⟨d,e,m,m',h1,h2,hd,q⟩:=h;exact yH I.hok (by omega) (vO I.hok (A:=X.A) (n:=50) (by omega) (by omega)) hd.1 (by omega) (by omega) h1 h2 rx ry X.prog X.w X.xe _ ⟨.bl _,H,I,rfl,q⟩
theorem rj (hu:X.A.units+64<cLine):j5 X E (compareOp .Eq) vS:=by
 refine⟨_,BW hu,fun g M ρ env σ H Q ra rb x y rep i1 i2 p=>?_⟩;unfold vS at p;by_cases h:ra.d.dep<=50/\rb.d.dep<=50
 .rw[Hx h]at p;exact⟨_,_,_,_,i1,i2,h,p _ M H (Ext.refl M H) rep rfl⟩
 .rw[Hz h]at p;exact p.elim
theorem lq (hu:X.A.units+64<cLine):j5 X E (compareOp .NotEq) rh:=by
 refine⟨_,BX hu,fun g M ρ env σ H Q ra rb x y rep i1 i2 p=>?_⟩;unfold rh at p;by_cases h:ra.d.dep<=50/\rb.d.dep<=50
 .rw[Hx h]at p;exact⟨_,_,_,_,i1,i2,h,p _ M H (Ext.refl M H) rep rfl⟩
 .rw[Hz h]at p;exact p.elim
end
section
variable {X:Cx}{E:XK}
noncomputable def D.isNon:D->Bool
 | .non=>true
 |_=>false
def BY (fa:En->Res R):En->Res R:=fun env=>(fa env).bind fun ra=>match ra.d with
 | .bl b=>.ok (.val (.bl (!b)) true [])
 |_=>.stuck
def yJ (fa fb:En->Res R):En->Res R:=fun env=>(fa env).bind fun ra=>match ra.d with
 | .bl true=>fb env
 | .bl false=>.ok (.val (.bl false) true [])
 |_=>.stuck
theorem BZ {a:Expr}{fa:En->Res R}{pos:Pos}(ha:PD X E a fa):PD X E (.UnaryOp .Not a pos) (BY fa):=by
 obtain⟨ta,pa,sa⟩:=ha;refine⟨_,Bf pa,fun g M ρ env σ H Q rep p=>sa.oneE rep p fun r v M' H' e rep' i p'=>?_⟩;cases q:r.d with
 |bl b=>rw[q]at i;simp only[q]at p';cases i;exact⟨b,rfl,p' _ M' H' (Ext.refl _ _) rep' rfl⟩
 |_=>simp only[q]at p';exact p'.elim
theorem vT {op:BoolOp}{a:Expr}{fa:En->Res R}{pos:Pos}(ha:PD X E a fa):PD X E (.BoolOp op [a] pos) fa:=let ⟨t,pa,sa⟩:=ha;⟨t,Bd pa,sa⟩
theorem vU {a b:Expr}{aW:List Expr}{fa fb:En->Res R}{pos:Pos}(ha:PD X E a fa)(hb:PD X E (.BoolOp .And (b::aW) pos) fb):PD X E (.BoolOp .And (a::b::aW) pos) (yJ fa fb):=by
 obtain⟨ta,pa,sa⟩:=ha;obtain⟨tb,pb,sb⟩:=hb;refine⟨_,Be pa pb,fun g M ρ env σ H Q rep p=>sa.oneE rep p fun r v M' H' e rep' i p'=>?_⟩;cases q:r.d with
 |bl b=>
  rw[q]at i;simp only[q]at p';cases i;refine⟨b,rfl,?_⟩;cases b with
  |true=>exact tf (sb g M' ρ env σ H' Q rep' p')
  |false=>exact s_ (p' _ M' H' (Ext.refl _ _) rep' rfl)
 |_=>simp only[q]at p';exact p'.elim
def tru:D->Res Bool
 | .non=>.ok false
 | .bl b=>.ok b
 | .int i=>.ok (i != 0)
 | .str y=>if y.length<=lim then .ok ((y.length:Int) != 0) else .stuck
 | .tup ds=>.ok (!ds.isEmpty)
 | .lst ds=>.ok (!ds.isEmpty)
 | .dic _ _=>.stuck
theorem Is.tru {H:Hp}{m:Addr->Prop}{d:D}{v:V}{k:Bool}(h:Is H m d v)(e:tru d=.ok k):Bs X.K v H k:=by
 cases d with
 |non=>cases h;cases e;rfl
 |bl b=>cases h;cases e;rfl
 |int b=>cases h;cases e;rfl
 |str b=>
  cases h;unfold L3.tru at e;dsimp only at e;by_cases hl:b.length<=lim
  .rw[Hx hl]at e;cases e;exact⟨de hl,rfl⟩
  .rw[Hz hl]at e;cases e
 |tup ds=>obtain⟨a,vs,rfl,h1,h2⟩:=h;cases e;refine .inr (.inl ⟨vs,SqT.of h1,?_⟩);have:=h2.length;cases ds<;>cases vs<;>simp_all
 |lst ds=>obtain⟨a,vs,rfl,h1,h2⟩:=h.rd;cases e;refine .inl ⟨vs,.inl h1,?_⟩;have:=h2.length;cases ds<;>cases vs<;>simp_all
 |dic ks ds=>cases e
def d9 (fa:En->Res R):En->Res Bool:=fun env=>(fa env).bind fun ra=>tru ra.d
theorem bG {a:Expr}{fa:En->Res R}(ha:PD X E a fa)(he:autoParam (∀ whole,isTrue a X.env whole=(do let v <- whole;standAt a.pos;holding [v] (truthy v))) LC._auto_1):xR X E a (d9 fa):=by
 obtain⟨ta,pa,sa⟩:=ha;refine⟨_,uT pa he,fun g M ρ env σ H Q rep p=>sa.oneT rep p fun r v M' H' e rep' i p'=>?_⟩;cases q:tru r.d with
 |stuck=>rw[q]at p';exact p'.elim
 |exc c=>exfalso;unfold tru at q;cases z:r.d<;>simp only[z]at q<;>first|cases q|(split at q<;>cases q)
 |ok k=>rw[q]at p';exact⟨k,i.tru q,p' M' H' (Ext.refl _ _) rep'⟩
def vB (fa:En->Res R):En->Res Bool:=fun env=>(fa env).bind fun ra=>match ra.d with
 | .bl b=>.ok b
 |_=>.stuck
theorem bd {a b:Expr}{fa fb:En->Res R}{op:CmpOp}{k:R->R->Res R}{pos:Pos}(ho:j5 X E (compareOp op) k)(ha:PD X E a fa)(hb:PD X E b fb)(hm:behindInMarks op b=false):xR X E (.Compare a [op] [b] pos) (vB (v2 k fa fb)):=by
 obtain⟨r,h1,h2⟩:=ho;obtain⟨ta,pa,sa⟩:=ha;obtain⟨tb,pb,sb⟩:=hb;have S:Snd X.mg E (DG r ta tb) (v2 k fa fb):=fun g M ρ env σ H Q rep p=>sa.twoE sb rep p fun ra rb x y M' H' rep' i1 i2 p'=>h2 g M' ρ env σ H' Q ra rb x y rep' i1 i2 p';refine⟨_,ya h1 pa pb hm,fun g M ρ env σ H Q rep p=>S.oneT rep p fun r v M' H' e rep' i p'=>?_⟩;cases q:r.d with
 |bl b=>rw[q]at i;simp only[q]at p';cases i;exact⟨b,rfl,p' M' H' (Ext.refl _ _) rep'⟩
 |_=>simp only[q]at p';exact p'.elim
def dF (fa:En->Res Bool):En->Res Bool:=fun env=>(fa env).bind fun b=>.ok (!b)
def rl (fa fb:En->Res Bool):En->Res Bool:=fun env=>(fa env).bind fun b=>if b then .ok true else fb env
section
variable {mg:Str->Option Lx}{g:Gd}{M M':Addr->Prop}{ρ:Pr}{env:En}{σ:St}{H H':Hp}
theorem SndT.oneT {t:TT}{f:En->Res Bool}(h:SndT mg E t f)(rep:Rep g M ρ env σ H){K:Bool->Res Bool}{Q':Bool->Hp->Prop}{Q:Bool->Hp->Prop}(hp:PostT mg E g M ρ env σ H Q' ((f env).bind K))
 (k:∀ b M' H',Ext M H M' H'->Rep g M' ρ env σ H'->PostT mg E g M' ρ env σ H' Q' (K b)->Q b H'):t σ H Q:=by
 refine h g M ρ env σ H Q rep ?_;cases e:f env with
 |stuck=>rw[e]at hp;exact hp
 |exc c=>rw[e]at hp;exact hp
 |ok b=>rw[e]at hp;exact fun M1 H1 e1 rep1=>k b M1 H1 e1 rep1 (PostT.ext e1 hp)
end
theorem aV {a:Expr}{fa:En->Res Bool}{pos:Pos}(ha:xR X E a fa):xR X E (.UnaryOp .Not a pos) (dF fa):=by obtain⟨ta,pa,sa⟩:=ha;exact⟨_,Bc pa,fun g M ρ env σ H Q rep p=>sa.oneT rep p fun b M' H' e rep' p'=>p' M' H' (Ext.refl _ _) rep'⟩
theorem c6 {a:Expr}{fa:En->Res Bool}{pos:Pos}(ha:xR X E a fa):PWD X E (.BoolOp .Or [a] pos) fa:=let ⟨t,pa,sa⟩:=ha;⟨t,Bb pa,sa⟩
theorem cn {a b:Expr}{aW:List Expr}{fa fb:En->Res Bool}{pos:Pos}(ha:xR X E a fa)(hb:PWD X E (.BoolOp .Or (b::aW) pos) fb):PWD X E (.BoolOp .Or (a::b::aW) pos) (rl fa fb):=by
 obtain⟨ta,pa,sa⟩:=ha;obtain⟨tb,pb,sb⟩:=hb;refine⟨_,DP pa pb,fun g M ρ env σ H Q rep p=>sa.oneT rep p fun b M' H' e rep' p'=>?_⟩;cases b with
 |true=>exact tf (p' M' H' (Ext.refl _ _) rep')
 |false=>exact s_ (sb g M' ρ env σ H' Q rep' p')
def xS (a b:R):Res R:=match a.d,b.d with
 | .lst xs,.int i=>match atI xs i with
  |some d=>.ok (mkV d a.fr a.al)
  |none=>.stuck
 | .tup xs,.int i=>match atI xs i with
  |some d=>.ok (mkV d a.fr a.al)
  |none=>.stuck
 | .str z,.int i=>if z.length<=lim then (match atI z.cps.toList i with
  |some c=>.ok (.val (.str ⟨#[c]⟩) true [])
  |none=>.stuck) else .stuck
 |_,_=>.stuck
theorem IsAll.atI {H:Hp}{m:Addr->Prop}{ds:List D}{vs:List V}{i:Int}{d:D}(h:IsAll H m ds vs)(e:L2.atI ds i=some d):∃ v,L2.atI vs i=some v/\Is H m d v:=by
 unfold L2.atI at e ⊢;rw[h.length];cases q:m8 ds.length i with
 |none=>rw[q]at e;cases e
 |some j=>rw[q]at e;exact h.get e
theorem Ey:∃ r:R2,IxR X r/\∀ g M ρ env σ H Q ra rb x y,Rep g M ρ env σ H->Is H (vmsk g M ra.fr ρ ra.al) ra.d x->Is H (vmsk g M rb.fr ρ rb.al) rb.d y->PostE X.mg E g M ρ env σ H Q (xS ra rb)->r x y H Q:=by
 refine⟨_,By,fun g M ρ env σ H Q ra rb x y rep i1 i2 p=>?_⟩;unfold xS at p;cases e1:ra.d with
 |lst xs=>
  rw[e1]at p i1;cases e2:rb.d with
  |int i=>
   rw[e2]at p i2;cases i2;obtain⟨a,vs,rfl,h1,h2⟩:=i1.rd;cases q:atI xs i with
   |none=>simp only[q]at p;exact p.elim
   |some d=>simp only[q]at p;obtain⟨v,ev,iv⟩:=h2.atI q;exact .inl ⟨a,vs,i,v,rfl,rfl,.inl h1,ev,p.val rep iv⟩
  |_=>rw[e2]at p;exact p.elim
 |tup xs=>
  rw[e1]at p i1;cases e2:rb.d with
  |int i=>
   rw[e2]at p i2;cases i2;obtain⟨a,vs,rfl,h1,h2⟩:=i1;cases q:atI xs i with
   |none=>simp only[q]at p;exact p.elim
   |some d=>simp only[q]at p;obtain⟨v,ev,iv⟩:=h2.atI q;exact .inr (.inl ⟨a,vs,i,v,rfl,rfl,SqT.of h1,ev,p.val rep iv⟩)
  |_=>rw[e2]at p;exact p.elim
 |str z=>
  rw[e1]at p i1;cases e2:rb.d with
  |int i=>
   rw[e2]at p i2;cases i1;cases i2;by_cases hz:z.length<=lim
   .simp only[hz,JJ]at p;cases q:atI z.cps.toList i with
    |none=>simp only[q]at p;exact p.elim
    |some c=>simp only[q]at p;exact .inr (.inr ⟨z,i,c,rfl,rfl,de hz,q,p _ M H (Ext.refl _ _) rep rfl⟩)
   .simp only[hz,IQ]at p;exact p.elim
  |_=>rw[e2]at p;exact p.elim
 |_=>rw[e1]at p;exact p.elim
def jw (i:Nat)(fb:En->Res R):En->Res R:=fun env=>match env[i]? with
 |some (some (.own ds fr))=>(fb env).bind fun rb=>match rb.d with
  | .int k=>match atI ds k with
   |some d=>.ok (mkV d fr [])
   |none=>.stuck
  |_=>.stuck
 |_=>v2 xS (ai i) fb env
theorem pX {i:Nat}{a b:Expr}{fb:En->Res R}{pos:Pos}(ha:PE X a (fD i))(hb:PD X E b fb)(hs:lU b):PD X E (.Subscript a b pos) (jw i fb):=by
 obtain⟨r,h1,h2⟩:=Ey (X:=X) (E:=E);obtain⟨tb,pb,sb⟩:=hb;refine⟨_,Ax (ix_list.or h1) ha pb hs,fun g M ρ env σ H Q rep p=>?_⟩;have gen:PostE X.mg E g M ρ env σ H Q (v2 xS (ai i) fb env)->DG (fun x y H Q=>Bw X.K x y H Q\/r x y H Q) (fD i) tb σ H Q:=fun p=>Snd.twoE qZ sb rep p fun ra rb x y M' H' rep' i1 i2 p'=>.inr (h2 g M' ρ env σ H' Q ra rb x y rep' i1 i2 p');unfold jw at p;cases e1:env[i]? with
 |none=>rw[e1]at p;exact gen p
 |some o=>
  cases o with
  |none=>rw[e1]at p;exact gen p
  |some sl=>
   cases sl with
   |val d fr=>rw[e1]at p;exact gen p
   |tre d=>rw[e1]at p;exact gen p
   |mes d=>rw[e1]at p;exact gen p
   |pin d=>rw[e1]at p;exact gen p
   |dis d=>rw[e1]at p;exact gen p
   |fix n q0=>rw[e1]at p;exact gen p
   |kon a=>rw[e1]at p;exact gen p
   |own ds fr=>
    rw[e1]at p;obtain⟨v,ev,a,vs,rfl,k1,k2,k4⟩:=rep.slot i _ e1;refine⟨_,ev,sb.oneE rep p fun rb y M' H' e rep' i2 p'=>?_⟩;cases q:rb.d with
    |int k=>
     rw[q]at i2;simp only[q]at p';cases i2;cases q2:atI ds k with
     |none=>simp only[q2]at p';exact p'.elim
     |some d=>simp only[q2]at p';have k5:IsAll H' (vmsk g M' fr ρ []) ds vs:=(IsAll.weak (fun _ z=>.inl z) k4:IsAll H (vmsk g M fr ρ []) ds vs).ext e;obtain⟨w,ew,iw⟩:=k5.atI q2;exact .inl ⟨a,vs,k,w,rfl,rfl,.inl (.inl (e.h _ _ k1)),ew,p'.val rep' iw⟩
    |_=>simp only[q]at p';exact p'.elim
end
section
variable {mg:Str->Option Lx}{E:XK}{g:Gd}{M M':Addr->Prop}{ρ:Pr}{env:En}{σ:St}{H H':Hp}
theorem SndA.one {t:TA}{f:En->Res (List R)}(h:SndA mg E t f)(rep:Rep g M ρ env σ H){α:Type}{K:List R->Res α}{P:(M:Addr->Prop)->(H:Hp)->Res α->Prop}{Q:List V->Hp->Prop}
 (hp:P M H ((f env).bind K)) (hs:∀ M H,P M H .stuck->False) (hx:∀ M H c,P M H (.exc c)->yI mg E g c) (he:∀ M H M' H' r,Ext M H M' H'->P M H r->P M' H' r)
 (k:∀ rs vs M' H',Ext M H M' H'->Rep g M' ρ env σ H'->IsAll H' (vmsk g M' (aL rs) ρ (bc rs)) (rs.map R.d) vs->P M' H' (K rs)->Q vs H'):t σ H Q:=by
 refine h g M ρ env σ H Q rep ?_;cases e:f env with
 |stuck=>rw[e]at hp;exact hs _ _ hp
 |exc c=>rw[e]at hp;exact hx _ _ c hp
 |ok r=>rw[e]at hp;exact fun vs M1 H1 e1 rep1 is=>k r vs M1 H1 e1 rep1 is (he _ _ _ _ _ e1 hp)
theorem SndA.oneE {t:TA}{f:En->Res (List R)}(h:SndA mg E t f)(rep:Rep g M ρ env σ H){K:List R->Res R}{Q':VK}{Q:List V->Hp->Prop}(hp:PostE mg E g M ρ env σ H Q' ((f env).bind K))
 (k:∀ rs vs M' H',Ext M H M' H'->Rep g M' ρ env σ H'->IsAll H' (vmsk g M' (aL rs) ρ (bc rs)) (rs.map R.d) vs->PostE mg E g M' ρ env σ H' Q' (K rs)->Q vs H'):t σ H Q:=
 h.one rep (P:=fun M H r=>PostE mg E g M ρ env σ H Q' r) hp (fun _ _ z=>z) (fun _ _ _ z=>z) (fun _ _ _ _ _ e p=>p.ext e) k
theorem SndA.oneA {t:TA}{f:En->Res (List R)}(h:SndA mg E t f)(rep:Rep g M ρ env σ H){K:List R->Res (List R)}{Q':List V->Hp->Prop}{Q:List V->Hp->Prop}(hp:PostA mg E g M ρ env σ H Q' ((f env).bind K))
 (k:∀ rs vs M' H',Ext M H M' H'->Rep g M' ρ env σ H'->IsAll H' (vmsk g M' (aL rs) ρ (bc rs)) (rs.map R.d) vs->PostA mg E g M' ρ env σ H' Q' (K rs)->Q vs H'):t σ H Q:=
 h.one rep (P:=fun M H r=>PostA mg E g M ρ env σ H Q' r) hp (fun _ _ z=>z) (fun _ _ _ z=>z) (fun _ _ _ _ _ e p=>p.ext e) k
theorem IsAll.args {r:R}{rs:List R}{v:V}{vs:List V}(h1:Is H (vmsk g M r.fr ρ r.al) r.d v)(h2:IsAll H (vmsk g M (aL rs) ρ (bc rs)) (rs.map R.d) vs) :
 IsAll H (vmsk g M (aL (r::rs)) ρ (bc (r::rs))) ((r::rs).map R.d) (v::vs):=by
 refine⟨v,vs,rfl,h1.weak fun a z=>?_,h2.weak fun a z=>?_⟩
 .exact(z.l:vmsk g M (r.fr&&aL rs) ρ (r.al++bc rs) a)
 .exact(z.r:vmsk g M (r.fr&&aL rs) ρ (r.al++bc rs) a)
end
section
variable {X:Cx}{E:XK}
noncomputable def aw:En->Res (List R):=fun _=>.ok []
def aj (f:En->Res R)(fs:En->Res (List R)):En->Res (List R):=fun env=>(f env).bind fun r=>(fs env).bind fun rs=>.ok (r::rs)
theorem ak:xQ X E [] aw:=⟨_,ck,fun g M ρ env σ H Q rep p=>p [] M H (Ext.refl _ _) rep rfl⟩
theorem aa {e:Expr}{es:List Expr}{f:En->Res R}{fs:En->Res (List R)}(he:PD X E e f)(hr:xQ X E es fs)(hs:autoParam (starEach (e::es) X.env=(false,eval e X.env)::starEach es X.env) LF._auto_1):xQ X E (e::es) (aj f fs):=by obtain⟨t,p1,s1⟩:=he;obtain⟨u,p2,s2⟩:=hr;refine⟨_,bh p1 p2 hs,fun g M ρ env σ H Q rep p=>s1.oneA rep p fun r v M1 H1 e1 rep1 i1 q1=>s2.oneA rep1 q1 fun rs vs M2 H2 e2 rep2 i2 q2=>?_⟩;exact q2 (v::vs) M2 H2 (Ext.refl _ _) rep2 (IsAll.args (i1.ext e2) i2)
def fX (fs:En->Res (List R)):En->Res R:=fun env=>(fs env).bind fun rs=>if rs.length<=lim then .ok (mkV (.tup (rs.map R.d)) (aL rs) (bc rs)) else .stuck
theorem cp {es:List Expr}{fs:En->Res (List R)}{k:Nat}{pos:Pos}(h:xQ X E es fs):PD X E (.Tuple es k pos) (fX fs):=by
 obtain⟨t,p1,s1⟩:=h;refine⟨_,uV p1,fun g M ρ env σ H Q rep p=>s1.oneE rep p fun rs vs M1 H1 e1 rep1 i1 q1=>?_⟩;by_cases hl:rs.length<=lim
 .rw[Hx hl]at q1;exact⟨by rw[i1.length,HA];exact de hl,fun a ha=>q1.tup rep1 ha i1⟩
 .rw[Hz hl]at q1;exact q1.elim
def iI (fs:En->Res (List R)):En->Res R:=fun env=>(fs env).bind fun rs=>if rs.length<=lim then .ok (f_ (rs.map R.d) (aL rs) (bc rs)) else .stuck
theorem d_ {es:List Expr}{fs:En->Res (List R)}{pos:Pos}(h:xQ X E es fs):PD X E (.List es pos) (iI fs):=by
 obtain⟨t,p1,s1⟩:=h;refine⟨_,uW p1,fun g M ρ env σ H Q rep p=>s1.oneE rep p fun rs vs M1 H1 e1 rep1 i1 q1=>?_⟩;by_cases hl:rs.length<=lim
 .rw[Hx hl]at q1;exact⟨by rw[i1.length,HA];exact de hl,fun a ha=>q1.lst rep1 ha i1⟩
 .rw[Hz hl]at q1;exact q1.elim
end
def nl (H0 H':Hp)(a:Addr):Prop:=H0 a=none/\Mu H' a
def RetOk (g:Gd)(H':Hp)(v:V):R->Prop
 | .val d fr _=>Is H' (fun a=>nl g.H₀ H' a\/(fr=false/\g.Ma a)) d v
 | .new ds fr=>∃ a vs,v=.ref a/\H' a=some (.lst vs)/\g.H₀ a=none/\IsAll H' (fun b=>b≠a/\(nl g.H₀ H' b\/(fr=false/\g.Ma b))) ds vs
 | .fre d=>Is H' (nl g.H₀ H') d v
def Ez (mg:Str->Option Lx)(E:XK)(g:Gd)(Q:VK):Res R->Prop
 | .stuck=>False
 | .exc c=>yI mg E g c
 | .ok r=>∀ v H',Same g.H₀ H'->RetOk g H' v r->Q v H'
def m_ (mg:Str->Option Lx)(n:Nat)(F:List D->Res R):Sp:=fun vs H Q E=>vs.length=n/\∃ ds Ma,IsAll H Ma ds vs/\Ez mg E (Ew H Ma) Q (F ds)
def xT (d:D)(fr:Bool)(rs:List R):R:=if d.flat then .val d true [] else if fr then .fre d else .val d (aL rs) (bc rs)
def dq (rs:List R):R->R
 | .val d fr _=>xT d fr rs
 | .new ds fr=>if D.flats ds then .new ds true else if fr then .fre (.lst ds) else if (bc rs).isEmpty then .new ds (aL rs) else .val (.lst ds) (aL rs) (bc rs)
 | .fre d=>xT d true rs
section
variable {g:Gd}{M:Addr->Prop}{ρ:Pr}{env:En}{σ:St}{H H':Hp}
theorem Rep.came (rep:Rep g M ρ env σ H)(s:Same H H')(p:Addr->Prop):Rep g (fun a=>M a\/(nl H H' a/\p a)) ρ env σ H':=(rep.grow s).moreT fun a z=>⟨z.1.2,rep.same.free z.1.1,(rep.free z.1.1).2.2⟩
theorem vV {d:D}{fr:Bool}{v:V}(rs:List R)(rep:Rep g M ρ env σ H)(s:Same H H')(h:Is H' (fun a=>nl H H' a\/(fr=false/\vmsk g M (aL rs) ρ (bc rs) a)) d v) :
 ∃ M',Ext M H M' H'/\Rep g M' ρ env σ H'/\ROk g M' ρ H H' v (xT d fr rs):=by
 unfold xT;by_cases hf:d.flat=true
 .rw[Hx hf];exact⟨M,⟨fun _ z=>z,s,fun _ z=>.inl z⟩,rep.grow s,Is.flat hf h⟩
 .rw[Hz hf];cases fr with
  |true=>
   refine⟨M,⟨fun _ z=>z,s,fun _ z=>.inl z⟩,rep.grow s,nl H H',fun a z=>?_,?_⟩
   .exact⟨fun w=>rep.froz a w z.1,z.1,z.2,(rep.free z.1).2.2⟩
   .exact Is.weak (fun a z=>z.elim id fun w=>by cases w.1) h
  |false=>
   refine⟨_,⟨fun _=>.inl,s,fun _ z=>z.imp id (·.1.1)⟩,rep.came s fun _=>True,?_⟩;refine Is.weak (fun a z=>?_) h;rcases z with z|⟨_,z⟩
   .exact .inl ⟨.inr ⟨z,True.intro⟩,fun _=>rep.same.free z.1⟩
   .exact z.mono fun _=>.inl
theorem RetOk.caller {v:V}{r:R}(rs:List R)(rep:Rep g M ρ env σ H)(s:Same H H')(h:RetOk (Ew H (vmsk g M (aL rs) ρ (bc rs))) H' v r) :
 ∃ M',Ext M H M' H'/\Rep g M' ρ env σ H'/\ROk g M' ρ H H' v (dq rs r):=by
 cases r with
 |val d fr al=>exact vV rs rep s h
 |fre d=>exact vV rs rep s (Is.weak (fun a z=>.inl z) h)
 |new ds fr=>
  obtain⟨a,vs,rfl,h1,h2,h3⟩:=h;have h2:H a=none:=h2;obtain⟨f0,f1,f2⟩:=rep.free h2;have R1:Rep g (fun b=>M b\/(nl H H' b/\b≠a)) ρ env σ H':=rep.came s fun b=>b≠a;have nm:¬ (M a\/(nl H H' a/\a≠a)):=fun z=>z.elim f1 fun z=>z.2 rfl;have X1:Ext M H (fun b=>M b\/(nl H H' b/\b≠a)) H':=⟨fun _=>.inl,s,fun _ z=>z.imp id (·.1.1)⟩;unfold dq;dsimp only;by_cases hfl:D.flats ds=true
  .rw[Hx hfl];exact⟨_,X1,R1,a,vs,rfl,h1,nm,h2,f2,IsAll.flat hfl h3⟩
  .rw[Hz hfl];cases fr with
   |true=>
    refine⟨M,⟨fun _ z=>z,s,fun _ z=>.inl z⟩,rep.grow s,nl H H',fun a z=>?_,?_⟩
    .exact⟨fun w=>rep.froz a w z.1,z.1,z.2,(rep.free z.1).2.2⟩
    .exact⟨a,vs,rfl,.inl ⟨h1,h2,Mu.lst h1⟩,IsAll.weak (fun b z=>z.2.elim id fun w=>by cases w.1) h3⟩
   |false=>
    simp only[HP,IQ];by_cases hc:(bc rs).isEmpty=true
    .rw[Hx hc];refine⟨_,X1,R1,a,vs,rfl,h1,nm,h2,f2,?_⟩;refine IsAll.weak (fun b z=>?_) h3;rcases z with⟨nb,z|⟨hf,z⟩⟩
     .exact⟨.inr ⟨z,nb⟩,fun _=>rep.same.free z.1⟩
     .have hl:bc rs=[]:=by simpa using hc
      have z:vmsk g M (aL rs) ρ (bc rs) b:=z;rw[hl]at z;exact⟨.inl z.nil.1,z.nil.2⟩
    .rw[Hz hc];refine⟨fun b=>(M b\/(nl H H' b/\b≠a))\/b=a,⟨fun _ z=>.inl (.inl z),s,fun b z=>z.elim (X1.n b) fun e=>.inr (e▸h2)⟩,R1.more h1 f0 f2,a,vs,rfl,.inl ⟨h1,.inl ⟨.inr rfl,fun _=>f0⟩⟩,?_⟩;refine IsAll.weak (fun b z=>?_) h3;rcases z with⟨nb,z|⟨hf,z⟩⟩
     .exact .inl ⟨.inl (.inr ⟨z,nb⟩),fun _=>rep.same.free z.1⟩
     .exact vmsk.mono (fun _ w=>.inl (.inl w)) z
end
section
variable {X:Cx}{E:XK}{CX:CXT}{k:Nat}{f:Addr}{fd:FuncData}{ps:List Str}{F:List D->Res R}{x:Str}{p pos:Pos}{e:Expr}{es:List Expr}{fs:En->Res (List R)}
def aY (F:List D->Res R)(fs:En->Res (List R)):En->Res R:=fun env=>(fs env).bind fun rs=>(F (rs.map R.d)).bind fun r=>.ok (dq rs r)
theorem vW {t:TA}(hl:∀ env rs,fs env=.ok rs->rs.length=ps.length)(s:SndA X.mg E t fs):Snd X.mg E (Aw (m_ X.mg ps.length F) [] E t) (aY F fs):=by
 intro g M ρ env σ H Q rep p;refine s g M ρ env σ H _ rep ?_;unfold aY at p;cases e:fs env with
 |stuck=>rw[e]at p;exact p
 |exc c=>rw[e]at p;exact p
 |ok rs=>
  rw[e]at p;intro vs M1 H1 e1 rep1 is;have p1:PostE X.mg E g M1 ρ env σ H1 Q ((F (rs.map R.d)).bind fun r=>.ok (dq rs r)):=PostE.ext e1 p;rw[IS];refine⟨by rw[is.length,HA];exact hl env rs e,rs.map R.d,_,is,?_⟩;cases q:F (rs.map R.d) with
  |stuck=>rw[q]at p1;exact p1
  |exc c=>rw[q]at p1;exact fun cls dx H' h1 h2=>p1 cls dx H' h1 (rep1.same.trans h2)
  |ok r=>rw[q]at p1;intro v H2 s2 ro;obtain⟨M3,e3,rep3,ro3⟩:=RetOk.caller rs rep1 s2 ro;exact p1 v M3 H2 e3 rep3 ro3
theorem aB (G:FnOk X.prog X.w X.K X.mg X.base CX k f fd ps (m_ X.mg ps.length F))(hr:Room k X.A)(hg:Gl X x)(hm:X.mg x=some (.ref f))(hk:PySem.W.keepIn X.K (.ref f)=true)(hb:Binds X.K fd ps [])(hx:lR CX X E)
 (ha:xQ X E (e::es) fs) (hl:∀ env rs,fs env=.ok rs->rs.length=ps.length) (hdb:autoParam ((x==("__debug__" : Str))=false) Lz._auto_1) (he:autoParam (starEach (e::es) X.env=(false,eval e X.env)::starEach es X.env) LF._auto_1) (hpl:autoParam ((backTo pos (starEach es X.env)).any (·.1)=false) LF._auto_1) :
 PD X E (.Call (.Name x p) (e::es) [] pos) (aY F fs):=by
 obtain⟨t,p1,s1⟩:=ha;exact⟨_,yd G hr hg hm hk hb .nil hx p1 hdb he hpl,vW hl s1⟩
theorem ay:∀ env rs,aw env=.ok rs->rs.length=0:=fun _ _ e=>by cases e;rfl
theorem ah {f:En->Res R}{fs:En->Res (List R)}{n:Nat}(h:∀ env rs,fs env=.ok rs->rs.length=n):∀ env rs,aj f fs env=.ok rs->rs.length=n+1:=fun env rs e=>by
 unfold aj at e;cases q:f env with
 |stuck=>rw[q]at e;cases e
 |exc c=>rw[q]at e;cases e
 |ok r=>
  rw[q]at e;cases q2:fs env with
  |stuck=>simp only[Res.bind_ok,q2]at e;cases e
  |exc c=>simp only[Res.bind_ok,q2]at e;cases e
  |ok rs'=>simp only[Res.bind_ok,q2]at e;cases e;simp[h env rs' q2]
def fI (X:Cx)(E:XK)(f:Lx)(k:List R->Res R):Prop:=∃ r,CallR X f r/\
 ∀ g M ρ env σ H Q rs vs,Rep g M ρ env σ H->IsAll H (vmsk g M (aL rs) ρ (bc rs)) (rs.map R.d) vs->PostE X.mg E g M ρ env σ H Q (k rs)->r vs H Q
def j6 (k:List R->Res R)(fs:En->Res (List R)):En->Res R:=fun env=>(fs env).bind k
theorem bo {id:String} {k:List R->Res R} (hc:fI X E (.builtin id) k) (hg:Gl X x) (hm:X.mg x=none) (hv:bootBuiltins x=some (.builtin id)) (ha:xQ X E (e::es) fs) (hn:autoParam (x≠"__name__") Lz._auto_1) (hdb:autoParam ((x==("__debug__" : Str))=false) Lz._auto_1)
 (he:autoParam (starEach (e::es) X.env=(false,eval e X.env)::starEach es X.env) LF._auto_1) (hpl:autoParam ((backTo pos (starEach es X.env)).any (·.1)=false) LF._auto_1):PD X E (.Call (.Name x p) (e::es) [] pos) (j6 k fs):=by
 obtain⟨r,h1,h2⟩:=hc;obtain⟨t,p1,s1⟩:=ha;exact⟨_,ga h1 hg hm hv p1 hn hdb he hpl,fun g M ρ env σ H Q rep p=>s1.oneE rep p fun rs vs M1 H1 e1 rep1 i1 q1=>h2 g M1 ρ env σ H1 Q rs vs rep1 i1 q1⟩
theorem hU {T:String} {k:List R->Res R} (hc:fI X E (.type T) k) (hg:Gl X x) (hm:X.mg x=none) (hv:bootBuiltins x=some (.type T)) (ha:xQ X E (e::es) fs) (hn:autoParam (x≠"__name__") Lz._auto_1) (hdb:autoParam ((x==("__debug__" : Str))=false) Lz._auto_1)
 (he:autoParam (starEach (e::es) X.env=(false,eval e X.env)::starEach es X.env) LF._auto_1) (hpl:autoParam ((backTo pos (starEach es X.env)).any (·.1)=false) LF._auto_1):PD X E (.Call (.Name x p) (e::es) [] pos) (j6 k fs):=by
 obtain⟨r,h1,h2⟩:=hc;obtain⟨t,p1,s1⟩:=ha;exact⟨_,g6 h1 hg hm hv p1 hn hdb he hpl,fun g M ρ env σ H Q rep p=>s1.oneE rep p fun rs vs M1 H1 e1 rep1 i1 q1=>h2 g M1 ρ env σ H1 Q rs vs rep1 i1 q1⟩
def vX:List R->Res R
 | [r]=>match r.d with
  | .lst ds=>.ok (.val (.int ds.length) true [])
  | .tup ds=>.ok (.val (.int ds.length) true [])
  | .str z=>if z.length<=lim then .ok (.val (.int z.length) true []) else .stuck
  |_=>.stuck
 |_=>.stuck
theorem B0:fI X E (.builtin "len") vX:=by
 refine⟨_,call_len_seq.or lX,fun g M ρ env σ H Q rs vs rep i p=>?_⟩
 match rs,i,p with
 | [r],i,p=>
  obtain⟨v,w,rfl,i1,i2⟩:=i;cases i2;have i1:Is H (vmsk g M (aL [r]) ρ (bc [r])) r.d v:=i1;unfold vX at p;dsimp only at p;cases q:r.d with
  |lst ds=>rw[q]at p i1;obtain⟨a,ws,rfl,h1,h2⟩:=i1.rd;exact .inl ⟨a,ws,rfl,.inl (.inl h1),by rw[h2.length];exact p _ M H (Ext.refl _ _) rep rfl⟩
  |tup ds=>rw[q]at p i1;obtain⟨a,ws,rfl,h1,h2⟩:=i1;exact .inl ⟨a,ws,rfl,.inr (SqT.of h1),by rw[h2.length];exact p _ M H (Ext.refl _ _) rep rfl⟩
  |str z=>
   rw[q]at p i1;cases i1;by_cases hz:z.length<=lim
   .simp only[hz,JJ]at p;exact .inr ⟨z,rfl,de hz,p _ M H (Ext.refl _ _) rep rfl⟩
   .simp only[hz,IQ]at p;exact p.elim
  |_=>rw[q]at p;exact p.elim
 | [],_,p=>exact p.elim
 |_::_::_,_,p=>exact p.elim
def nV:List R->Res R
 | [r]=>match r.d with
  | .lst ds=>.ok (f_ ds r.fr r.al)
  | .tup ds=>.ok (f_ ds r.fr r.al)
  |_=>.stuck
 |_=>.stuck
theorem mx {g:Gd}{M:Addr->Prop}{ρ:Pr}{r:R}{a:Addr}(h:vmsk g M (aL [r]) ρ (bc [r]) a):vmsk g M r.fr ρ r.al a:=by
 have e1:aL [r]=r.fr:=by simp[aL]
 have e2:bc [r]=r.al:=by simp[bc]
 rw[e1,e2]at h;exact h
theorem yK:fI X E (.type "list") nV:=by
 refine⟨_,lY,fun g M ρ env σ H Q rs vs rep i p=>?_⟩
 match rs,i,p with
 | [r],i,p=>
  obtain⟨v,w,rfl,i1,i2⟩:=i;cases i2;have i1:Is H (vmsk g M (aL [r]) ρ (bc [r])) r.d v:=i1;replace i1:=i1.weak fun _ z=>mx z;unfold nV at p;dsimp only at p;cases q:r.d with
  |lst ds=>rw[q]at p i1;obtain⟨a,ws,rfl,h1,h2⟩:=i1.rd;exact⟨a,ws,rfl,.inl (.inl h1),fun l hl=>p.lst rep hl h2⟩
  |tup ds=>rw[q]at p i1;obtain⟨a,ws,rfl,h1,h2⟩:=i1;exact⟨a,ws,rfl,.inr (SqT.of h1),fun l hl=>p.lst rep hl h2⟩
  |_=>rw[q]at p;exact p.elim
 | [],_,p=>exact p.elim
 |_::_::_,_,p=>exact p.elim
end
inductive Fl where
 |nx (env:En)|rt (r:R)|bk (env:En)|ct (env:En)|rm (r:R) (env:En)
structure Frz (M:Addr->Prop) (H:Hp) (M':Addr->Prop) (H':Hp):Prop where
 m:∀ a,M a->M' a
 h:∀ a o,H a=some o->(M a\/fixd o)->H' a=some o
theorem Frz.refl (M:Addr->Prop)(H:Hp):Frz M H M H:=⟨fun _ z=>z,fun _ _ e _=>e⟩
theorem Frz.trans {M M1 M2:Addr->Prop}{H H1 H2:Hp}(a:Frz M H M1 H1)(b:Frz M1 H1 M2 H2):Frz M H M2 H2:=⟨fun x z=>b.m x (a.m x z),fun x o e z=>b.h x o (a.h x o e z) (z.imp (a.m x) id)⟩
theorem Ext.frz {M M':Addr->Prop}{H H':Hp}(e:Ext M H M' H'):Frz M H M' H':=⟨e.m,fun a o q _=>e.h a o q⟩
section
variable (mg:Str->Option Lx)(E:XK)(g:Gd)(M:Addr->Prop)(H:Hp)(D:Ends)
def PostS:Res Fl->Prop
 | .stuck=>False
 | .exc c=>yI mg E g c
 | .ok (.nx env)=>∀ σ M' ρ H',Frz M H M' H'->Rep g M' ρ env σ H'->D.nx σ H'
 | .ok (.bk env)=>∀ σ M' ρ H',Frz M H M' H'->Rep g M' ρ env σ H'->D.bk σ H'
 | .ok (.ct env)=>∀ σ M' ρ H',Frz M H M' H'->Rep g M' ρ env σ H'->D.ct σ H'
 | .ok (.rt r)=>∀ v M' H',Frz M H M' H'->Same g.H₀ H'->((∀ a,¬ g.Z a)->RetOk g H' v r)->(r.d.flat=true->Is H' (fun _=>False) r.d v)->D.rt v H'
 | .ok (.rm r env)=>∀ v σ M' ρ H0 H',Frz M H M' H'->Rep g M' ρ env σ H'->Same g.H₀ H0->ROk g M' ρ H0 H' v r->D.rt v H'
end
def yL (mg:Str->Option Lx)(E:XK)(t:TS)(f:En->Res Fl):Prop:=∀ g M ρ env σ H D,Rep g M ρ env σ H->PostS mg E g M H D (f env)->t D σ H
def j7 (X:Cx)(E:XK)(st:Stmt)(f:En->Res Fl):Prop:=∃ t,PS X st t/\yL X.mg E t f
def kn (X:Cx)(E:XK)(st:List Stmt)(f:En->Res Fl):Prop:=∃ t,PSs X st t/\yL X.mg E t f
section
variable {mg:Str->Option Lx}{E:XK}{g:Gd}{M M':Addr->Prop}{ρ:Pr}{env:En}{σ:St}{H H':Hp}{D:Ends}
theorem PostS.frz {r:Res Fl}(e:Frz M H M' H')(p:PostS mg E g M H D r):PostS mg E g M' H' D r:=by
 cases r with
 |stuck=>exact p
 |exc c=>exact p
 |ok r=>cases r with
  |nx env=>exact fun σ M2 ρ2 H2 e2=>p σ M2 ρ2 H2 (e.trans e2)
  |bk env=>exact fun σ M2 ρ2 H2 e2=>p σ M2 ρ2 H2 (e.trans e2)
  |ct env=>exact fun σ M2 ρ2 H2 e2=>p σ M2 ρ2 H2 (e.trans e2)
  |rt r=>exact fun v M2 H2 e2=>p v M2 H2 (e.trans e2)
  |rm r env=>exact fun v σ M2 ρ2 H0 H2 e2=>p v σ M2 ρ2 H0 H2 (e.trans e2)
theorem Snd.oneS {t:TE}{f:En->Res R}(h:Snd mg E t f)(rep:Rep g M ρ env σ H){K:R->Res Fl}{Q:VK}(hp:PostS mg E g M H D ((f env).bind K))
 (k:∀ r v M' H',Ext M H M' H'->Rep g M' ρ env σ H'->ROk g M' ρ H H' v r->PostS mg E g M' H' D (K r)->Q v H'):t σ H Q:=by
 refine h g M ρ env σ H Q rep ?_;cases e:f env with
 |stuck=>rw[e]at hp;exact hp
 |exc c=>rw[e]at hp;exact hp
 |ok r=>rw[e]at hp;exact fun v M1 H1 e1 rep1 ro=>k r v M1 H1 e1 rep1 ro (PostS.frz e1.frz hp)
theorem SndT.oneS {t:TT}{f:En->Res Bool}(h:SndT mg E t f)(rep:Rep g M ρ env σ H){K:Bool->Res Fl}{Q:Bool->Hp->Prop}(hp:PostS mg E g M H D ((f env).bind K))
 (k:∀ b M' H',Frz M H M' H'->Rep g M' ρ env σ H'->PostS mg E g M' H' D (K b)->Q b H'):t σ H Q:=by
 refine h g M ρ env σ H Q rep ?_;cases e:f env with
 |stuck=>rw[e]at hp;exact hp
 |exc c=>rw[e]at hp;exact hp
 |ok r=>rw[e]at hp;exact fun M1 H1 e1 rep1=>k r M1 H1 e1.frz rep1 (PostS.frz e1.frz hp)
noncomputable def EA (ρ:Pr)(i:Nat):Pr:=fun j a=>if j=i then False else ρ j a
theorem pY {j i:Nat}(h:j≠i):EA ρ i j=ρ j:=by funext a;unfold EA;rw[Hz h]
theorem jy {j i:Nat}{a:Addr}(h:EA ρ i j a):j≠i/\ρ j a:=by
 unfold EA at h;by_cases e:j=i
 .rw[Hx e]at h;exact h.elim
 .rw[Hz e]at h;exact⟨e,h⟩
noncomputable def my (ρ:Pr)(i:Nat)(T:Addr->Prop):Pr:=fun j a=>if j=i then T a else ρ j a
theorem bZ {j i:Nat}{T:Addr->Prop}(h:j≠i):my ρ i T j=ρ j:=by funext a;unfold my;rw[Hz h]
theorem c7 {i:Nat}{T:Addr->Prop}:my ρ i T i=T:=by funext a;unfold my;rw[Hx rfl]
def frz1 (env:En)(i:Nat):En:=match env[i]? with
 |some (some (.own ds fr))=>env.set i (some (.val (.lst ds) fr))
 |some (some (.tre d))=>env.set i (some (.val d true))
 |some (some (.mes _))=>env.set i none
 |some (some (.pin d))=>env.set i (some (.val d true))
 |some (some (.dis d))=>env.set i (some (.val d true))
 |some (some (.fix _ (.tr d)))=>env.set i (some (.val d true))
 |some (some (.fix _ (.ds d)))=>env.set i (some (.val d true))
 |_=>env
def frz (env:En)(al:List Nat):En:=al.foldl frz1 env
theorem mz {i j:Nat}(h:j≠i):(frz1 env i)[j]?=env[j]?:=by unfold frz1;split<;>first|rfl|exact HM (Jb h)
theorem nW (i:Nat):(frz1 env i).length=env.length:=by unfold frz1;split<;>simp
theorem mB:∀(al:List Nat){env:En}{j:Nat},¬ j∈al->(frz env al)[j]?=env[j]?
 | [],_,_,_=>rfl
 |i::al,env,j,h=>by show(frz (frz1 env i) al)[j]?=_;rw[mB al fun z=>h (by simp[z]),mz fun z=>h (by simp[z])]
theorem cu:∀(al:List Nat)(env:En),(frz env al).length=env.length
 | [],_=>rfl
 |i::al,env=>by show(frz (frz1 env i) al).length=_;rw[cu al,nW]
theorem Rep.frz1 (rep:Rep g M ρ env σ H)(i:Nat):Rep g (fun a=>M a\/ρ i a) (EA ρ i) (frz1 env i) σ H where
 same:=rep.same
 froz:=fun b hb=>hb.elim (rep.froz b) fun z=>(rep.priv i b z).2.2.some
 inn:=fun b hb=>hb.elim (rep.inn b) fun z=>.inl (rep.priv i b z).2.1
 fl:=fun b hb h0=>hb.elim (fun z=>rep.fl b z h0) fun z=>.inl (rep.priv i b z).2.2
 slot:=fun j sl ej=>by
  by_cases hj:j=i
  .subst hj;cases e:env[j]? with
   |none=>
    have:L3.frz1 env j=env:=by unfold L3.frz1;rw[e]
    rw[this,e]at ej;cases ej
   |some o=>
    have hi:j<env.length:=(Hv.mp e).1;cases o with
    |none=>
     have:L3.frz1 env j=env:=by unfold L3.frz1;rw[e]
     rw[this,e]at ej;cases ej
    |some s0=>
     obtain⟨v,ev,k⟩:=rep.slot j s0 e;cases s0 with
     |val d fr=>
      have:L3.frz1 env j=env:=by unfold L3.frz1;rw[e]
      rw[this,e]at ej;cases ej;exact⟨v,ev,Is.weak (fun b z=>msk.mono (fun _=>.inl) z) k⟩
     |own ds fr=>
      have:L3.frz1 env j=env.set j (some (.val (.lst ds) fr)):=by unfold L3.frz1;rw[e]
      rw[this,HI hi]at ej;cases ej;obtain⟨a,vs,rfl,h1,h2,h4⟩:=k;have ha:=(h2 a).mpr rfl;exact⟨_,ev,a,vs,rfl,.inl ⟨h1,.inr ha,fun _=>(rep.priv j a ha).2.1⟩,IsAll.weak (fun b z=>msk.mono (fun _=>.inl) z) h4⟩
     |tre d=>
      have:L3.frz1 env j=env.set j (some (.val d true)):=by unfold L3.frz1;rw[e]
      rw[this,HI hi]at ej;cases ej;exact⟨v,ev,Is.weak (fun b z=>⟨.inr z,fun _=>(rep.priv j b z).2.1⟩) k⟩
     |mes d=>
      have:L3.frz1 env j=env.set j none:=by unfold L3.frz1;rw[e]
      rw[this,HI hi]at ej;cases ej
     |pin d=>
      have:L3.frz1 env j=env.set j (some (.val d true)):=by unfold L3.frz1;rw[e]
      rw[this,HI hi]at ej;cases ej;exact⟨v,ev,Is.weak (fun b z=>⟨.inr z,fun _=>(rep.priv j b z).2.1⟩) k.1⟩
     |dis d=>
      have:L3.frz1 env j=env.set j (some (.val d true)):=by unfold L3.frz1;rw[e]
      rw[this,HI hi]at ej;cases ej;exact⟨v,ev,Is.weak (fun b z=>⟨.inr z,fun _=>(rep.priv j b z).2.1⟩) k.1⟩
     |fix n q0=>
      cases q0 with
      |no=>
       have:L3.frz1 env j=env:=by unfold L3.frz1;rw[e]
       rw[this,e]at ej;cases ej;exact⟨v,ev,k.1,True.intro⟩
      |tr d=>
       have:L3.frz1 env j=env.set j (some (.val d true)):=by unfold L3.frz1;rw[e]
       rw[this,HI hi]at ej;cases ej;exact⟨v,ev,Is.weak (fun b z=>⟨.inr z,fun _=>(rep.priv j b z).2.1⟩) k.2⟩
      |ds d=>
       have:L3.frz1 env j=env.set j (some (.val d true)):=by unfold L3.frz1;rw[e]
       rw[this,HI hi]at ej;cases ej;exact⟨v,ev,Is.weak (fun b z=>⟨.inr z,fun _=>(rep.priv j b z).2.1⟩) k.2.1⟩
     |kon a=>
      have:L3.frz1 env j=env:=by unfold L3.frz1;rw[e]
      rw[this,e]at ej;cases ej;exact⟨v,ev,k⟩
  .rw[mz hj]at ej;obtain⟨v,ev,k⟩:=rep.slot j sl ej;exact⟨v,ev,by rw[pY hj];exact SlOk.weak (fun _=>.inl) k⟩
 priv:=fun j a h=>by obtain⟨hj,h⟩:=jy h;exact⟨fun z=>z.elim (rep.priv j a h).1 fun z=>hj (rep.apart j i a h z),(rep.priv j a h).2⟩
 apart:=fun j k a h1 h2=>rep.apart j k a (jy h1).2 (jy h2).2
 ow:=fun j a h=>by obtain⟨hj,h⟩:=jy h;have:=rep.ow j a h;unfold isOwn at this ⊢;rw[mz hj];exact this
 len:=by rw[nW];exact rep.len
 zz:=rep.zz
theorem Rep.frz:∀(al:List Nat){env:En}{M:Addr->Prop}{ρ:Pr},Rep g M ρ env σ H->∃(M':Addr->Prop)(ρ':Pr),(∀ a,M a->M' a)/\Rep g M' ρ' (L3.frz env al) σ H/\(∀ i,i∈al->∀ a,ρ i a->M' a)/\(∀ j a,ρ' j a->ρ j a)/\(∀ j,¬ j∈al->ρ' j=ρ j)
 | [],env,M,ρ,rep=>⟨M,ρ,fun _ z=>z,rep,fun _ z=>absurd z (by simp),fun _ _ o=>o,fun _ _=>rfl⟩
 |i::al,env,M,ρ,rep=>by
  obtain⟨M2,ρ2,e2,rep2,o2,k2,l2⟩:=Rep.frz al (rep.frz1 i);refine⟨M2,ρ2,fun a z=>e2 a (.inl z),rep2,fun j hj a o=>?_,fun j a o=>(jy (k2 j a o)).2,fun j hj=>?_⟩
  .by_cases hji:j=i
   .exact e2 a (.inr (hji▸o))
   .exact o2 j ((HE.mp hj).resolve_left hji) a (by rw[pY hji];exact o)
  .rw[l2 j fun z=>hj (by simp[z]),pY fun z=>hj (by simp[z])]
theorem Is.frozen {fr:Bool}{al:List Nat}{d:L3.D}{v:V}(rep:Rep g M ρ env σ H)(e:∀ a,M a->M' a)(hm:∀ i,i∈al->∀ a,ρ i a->M' a)(h:Is H (vmsk g M fr ρ al) d v):Is H (msk g M' fr) d v:=h.weak fun a z=>z.elim (msk.mono e) fun⟨i,hi,o⟩=>⟨hm i hi a o,fun _=>(rep.priv i a o).2.1⟩
theorem Rep.put {i:Nat}{sl:Sl}{v:V}{T:Addr->Prop}(rep:Rep g M ρ env σ H)(hi:i<env.length)(ok:SlOk g M T H v sl)(ht:∀ a,T a->¬ M a/\g.H₀ a=none/\Mu H a/\∀ j,j≠i->¬ ρ j a)(hO:autoParam (∀ a,T a->sl.isO=true) LD._auto_1) :
 Rep g M (my ρ i T) (env.set i (some sl)) (σ.set i (some v)) H:=by
 have hi2:i<σ.length:=by rw[<- rep.len];exact hi
 refine⟨rep.same,rep.froz,rep.inn,rep.fl,fun j s ej=>?_,fun j a h=>?_,fun j k a h1 h2=>?_,fun j a h=>?_,by rw[Jr,Jr];exact rep.len,rep.zz⟩
 .by_cases hj:j=i
  .subst hj;rw[HI hi]at ej;cases ej;exact⟨v,HI hi2,by rw[c7];exact ok⟩
  .rw[HM (Jb hj)]at ej;obtain⟨w,ew,k⟩:=rep.slot j s ej;exact⟨w,by rw[HM (Jb hj)];exact ew,by rw[bZ hj];exact k⟩
 .by_cases hj:j=i
  .subst hj;rw[c7]at h;exact⟨(ht a h).1,(ht a h).2.1,(ht a h).2.2.1⟩
  .rw[bZ hj]at h;exact rep.priv j a h
 .by_cases hj:j=i
  .by_cases hk:k=i
   .rw[hj,hk]
   .subst hj;rw[c7]at h1;rw[bZ hk]at h2;exact absurd h2 ((ht a h1).2.2.2 k hk)
  .by_cases hk:k=i
   .subst hk;rw[c7]at h2;rw[bZ hj]at h1;exact absurd h1 ((ht a h2).2.2.2 j hj)
   .rw[bZ hj]at h1;rw[bZ hk]at h2;exact rep.apart j k a h1 h2
 .unfold isOwn;by_cases hj:j=i
  .subst hj;rw[c7]at h;rw[HI hi];exact hO a h
  .rw[bZ hj]at h;rw[HM (Jb hj)];exact rep.ow j a h
def put (env:En)(i:Nat):R->En
 | .new ds fr=>env.set i (some (.own ds fr))
 | .val d fr al=>(frz env al).set i (some (.val d fr))
 | .fre d=>env.set i (some (.tre d))
theorem Rep.store {i:Nat}{r:R}{v:V}{H0:Hp}(rep:Rep g M ρ env σ H)(h0:Same g.H₀ H0)(hi:i<env.length)(h:ROk g M ρ H0 H v r):∃ M' ρ',Frz M H M' H/\Rep g M' ρ' (L3.put env i r) (σ.set i (some v)) H:=by
 cases r with
 |new ds fr=>obtain⟨a,vs,rfl,h1,h2,h3,h4,h5⟩:=h;exact⟨M,_,Frz.refl _ _,rep.put (sl:=.own ds fr) (T:=fun b=>b=a) hi ⟨a,vs,rfl,h1,fun _=>Iff.rfl,h5⟩ fun b e=>by subst e;exact⟨h2,h0.free h3,Mu.lst h1,fun j _=>h4 j⟩⟩
 |val d fr al=>obtain⟨M1,ρ1,e1,rep1,o1,k1,_⟩:=Rep.frz al rep;exact⟨M1,_,⟨e1,fun _ _ e _=>e⟩,rep1.put (sl:=.val d fr) (T:=fun _=>False) (by rw[cu];exact hi) (Is.frozen rep e1 o1 h) (fun _ z=>z.elim) fun _ z=>z.elim⟩
 |fre d=>obtain⟨T,ht,is⟩:=h;exact⟨M,_,Frz.refl _ _,rep.put (sl:=.tre d) (T:=T) hi is fun b z=>let ⟨a1,a2,a3,a4⟩:=ht b z;⟨a1,h0.free a2,a3,fun j _=>a4 j⟩⟩
theorem Rep.writeO {i:Nat}{a:Addr}{sl:Sl}{v:V}{u':HO}(hu:BS u')(rep:Rep g M ρ env σ H)(o:ρ i a)(hi:i<env.length)(ev:σ[i]?=some (some v))(ok:SlOk g M (ρ i) (av H a u') v sl)(hO:autoParam (sl.isO=true) LF._auto_1) :
 Frz M H M (av H a u')/\Rep g M ρ (env.set i (some sl)) σ (av H a u'):=by
 obtain⟨nm,n0,uo,ha,hmu⟩:=rep.priv i a o;have nfx:∀ u,H a=some u->¬ fixd u:=fun u e z=>by rw[ha]at e;cases e;cases uo<;>first|exact z|exact hmu
 have kp:∀ b u,H b=some u->(M b\/fixd u)->av H a u' b=some u:=fun b u q z=>by
  rw[ac]
  .exact q
  .rintro rfl;rcases z with z|z
   .exact nm z
   .exact nfx u q z
 have km:∀(fr:Bool) b u,H b=some u->(msk g M fr b\/fixd u)->av H a u' b=some u:=fun fr b u q z=>kp b u q (z.imp (·.1) id);refine⟨⟨fun _ z=>z,kp⟩,fun b u q=>?_,fun b hb=>?_,rep.inn,fun b hb h0=>?_,fun j s ej=>?_,fun j b h=>?_,rep.apart,fun j b h=>?_,by rw[Jr];exact rep.len,fun c z e=>by
  by_cases hc:c=a
  .subst hc;rw[ag]at e;cases e
  .rw[ac hc]at e;exact rep.zz c z e⟩
 .rw[ac (fun z=>by rw[z,n0]at q;cases q)];exact rep.same b u q
 .have nb:b≠a:=fun z=>nm (by rw[<- z];exact hb);rw[ac nb];exact rep.froz b hb
 .have nb:b≠a:=fun z=>nm (by rw[<- z];exact hb);exact(rep.fl b hb h0).same fun o e=>by rw[ac nb];exact e
 .by_cases hj:j=i
  .subst hj;rw[HI hi]at ej;cases ej;exact⟨v,ev,ok⟩
  .rw[HM (Jb hj)]at ej;obtain⟨w,ew,k⟩:=rep.slot j s ej;refine⟨w,ew,?_⟩;have nj:∀ b,ρ j b->b≠a:=fun b hb e=>hj (rep.apart j i a (e▸hb) o);cases s with
   |val d fr=>exact Is.mono (km fr) (fun _ _ _ z=>z) k
   |own ds' fr'=>obtain⟨b,ws,rfl,h1,h2,h4⟩:=k;exact⟨b,ws,rfl,by rw[ac (nj b ((h2 b).mpr rfl))];exact h1,h2,IsAll.mono (km fr') (fun _ _ _ z=>z) h4⟩
   |tre d=>
    refine Is.mono (fun b u q z=>?_) (fun _ _ _ z=>z) k;rw[ac]
    .exact q
    .rcases z with z|z
     .exact nj b z
     .intro e;rw[e]at q;exact nfx u q z
   |mes d=>refine IsSh.mono (fun b u q z=>kp b u q (.inr z)) (fun b ws z q=>⟨ws,by rw[ac (nj b z)];exact q⟩) (fun _ z=>z) k
   |pin d=>
    refine⟨Is.mono (fun b u q z=>?_) (fun _ _ _ z=>z) k.1,k.2⟩;rw[ac]
    .exact q
    .rcases z with z|z
     .exact nj b z
     .intro e;rw[e]at q;exact nfx u q z
   |dis d=>
    refine⟨Is.mono (fun b u q z=>?_) (fun _ _ _ z=>z) k.1,k.2.mono (fun b u z q=>by rw[ac (nj b z)];exact q) fun _ z=>z⟩;rw[ac]
    .exact q
    .rcases z with z|z
     .exact nj b z
     .intro e;rw[e]at q;exact nfx u q z
   |fix n q0=>
    refine⟨k.1,k.2.mono fun b u q z=>?_⟩;rw[ac]
    .exact q
    .rcases z with z|z
     .exact nj b z
     .intro e;rw[e]at q;exact nfx u q z
   |kon a=>exact k
 .obtain⟨b1,b2,b3⟩:=rep.priv j b h;refine⟨b1,b2,?_⟩;by_cases e:b=a
  .exact⟨u',by rw[e,ag],hu⟩
  .exact b3.same fun o z=>by rw[ac e];exact z
 .unfold isOwn;by_cases hj:j=i
  .subst hj;rw[HI hi];exact hO
  .rw[HM (Jb hj)];exact rep.ow j b h
theorem Rep.write {i:Nat}{a:Addr}{sl:Sl}{v:V}{vs':List V}(rep:Rep g M ρ env σ H)(o:ρ i a)(hi:i<env.length)(ev:σ[i]?=some (some v))(ok:SlOk g M (ρ i) (av H a (.lst vs')) v sl)(hO:autoParam (sl.isO=true) LF._auto_1) :
 Frz M H M (av H a (.lst vs'))/\Rep g M ρ (env.set i (some sl)) σ (av H a (.lst vs')):=rep.writeO (u':=.lst vs') True.intro o hi ev ok hO
end
section
variable {X:Cx}{E:XK}
noncomputable def df:En->Res Fl:=fun env=>.ok (.nx env)
def aC (f k:En->Res Fl):En->Res Fl:=fun env=>(f env).bind fun r=>match r with
 | .nx az=>k az
 |r=>.ok r
theorem aD:kn X E [] df:=⟨_,x5,fun g M ρ env σ H D rep p=>p σ M ρ H (Frz.refl _ _) rep⟩
theorem am {st:Stmt}{f:En->Res Fl}(h:j7 X E st f):kn X E [st] f:=let ⟨t,a,b⟩:=h;⟨t,qG a,b⟩
theorem af {st:Stmt}{aW:List Stmt}{f k:En->Res Fl}(h1:j7 X E st f)(h2:kn X E aW k):kn X E (st::aW) (aC f k):=by
 obtain⟨t,a,b⟩:=h1;obtain⟨u,c,d⟩:=h2;refine⟨_,uK a c,fun g M ρ env σ H D rep p=>b g M ρ env σ H _ rep ?_⟩;unfold aC at p;cases q:f env with
 |stuck=>rw[q]at p;exact p
 |exc c=>rw[q]at p;exact p
 |ok r=>
  rw[q]at p;cases r with
  |nx az=>exact fun σ' M' ρ' H' e rep'=>d g M' ρ' az σ' H' D rep' (PostS.frz e p)
  |bk az=>exact p
  |ct az=>exact p
  |rt r=>exact p
  |rm r az=>exact p
def j8 (c:En->Res Bool)(a b:En->Res Fl):En->Res Fl:=fun env=>(c env).bind fun k=>if k then a env else b env
theorem a_ {c:Expr}{a b:List Stmt}{fc:En->Res Bool}{fa fb:En->Res Fl}{pos:Pos}(hc:xR X E c fc)(ha:kn X E a fa)(hb:kn X E b fb):j7 X E (.If c a b pos) (j8 fc fa fb):=by
 obtain⟨tc,p1,s1⟩:=hc;obtain⟨ta,p2,s2⟩:=ha;obtain⟨tb,p3,s3⟩:=hb;refine⟨_,DU p1 p2 p3,fun g M ρ env σ H D rep p=>s1.oneS rep p fun b M' H' e rep' p'=>?_⟩;cases b with
 |true=>exact tf (s2 g M' ρ env σ H' D rep' p')
 |false=>exact s_ (s3 g M' ρ env σ H' D rep' p')
def bA (f:En->Res R):En->Res Fl:=fun env=>(f env).bind fun r=>.ok (.rt r)
theorem ROk.ret {g:Gd}{M:Addr->Prop}{ρ:Pr}{env:En}{σ:St}{H H0:Hp}{v:V}{r:R}(rep:Rep g M ρ env σ H)(h0:Same g.H₀ H0)(h:ROk g M ρ H0 H v r)(hz:∀ a,¬ g.Z a):RetOk g H v r:=by
 have mu:∀ a,M a->g.H₀ a=none->Mu H a:=fun a h1 h2=>(rep.fl a h1 h2).elim id fun z=>(hz a z.1).elim;have key:∀{fr:Bool}{a:Addr},msk g M fr a->nl g.H₀ H a\/(fr=false/\g.Ma a):=fun{fr a} z=>by
  cases fr with
  |true=>exact .inl ⟨z.2 rfl,mu a z.1 (z.2 rfl)⟩
  |false=>exact(rep.inn a z.1).imp (fun w=>⟨w,mu a z.1 w⟩) fun w=>⟨rfl,w⟩
 cases r with
 |val d fr al=>exact Is.weak (fun a z=>z.elim key fun⟨i,_,o⟩=>.inl (rep.priv i a o).2) h
 |new ds fr=>obtain⟨a,vs,rfl,h1,h2,h3,h4,h5⟩:=h;exact⟨a,vs,rfl,h1,h0.free h3,IsAll.weak (fun b z=>⟨fun e=>h2 (e▸z.1),key z⟩) h5⟩
 |fre d=>obtain⟨T,ht,is⟩:=h;exact Is.weak (fun a z=>let ⟨_,a2,a3,_⟩:=ht a z;⟨h0.free a2,a3⟩) is
theorem ROk.flatIs {g:Gd}{M:Addr->Prop}{ρ:Pr}{H H0:Hp}{v:V}{r:R}(h:ROk g M ρ H0 H v r)(hf:r.d.flat=true):Is H (fun _=>False) r.d v:=by
 cases r with
 |val d fr al=>exact Is.flat hf h
 |new ds fr=>simp[D.flat,R.d]at hf
 |fre d=>obtain⟨T,_,is⟩:=h;exact Is.flat hf is
theorem au {e:Expr}{f:En->Res R}{pos:Pos}(h:PD X E e f):j7 X E (.Return (some e) pos) (bA f):=by obtain⟨t,p1,s1⟩:=h;exact⟨_,Bg p1,fun g M ρ env σ H D rep p=>s1.oneS rep p fun r v M' H' e rep' ro p'=>p' v M' H' (Frz.refl _ _) rep'.same (fun hz=>ro.ret rep' rep.same hz) fun hf=>ro.flatIs hf⟩
def bL (i:Nat)(f:En->Res R):En->Res Fl:=fun env=>(f env).bind fun r=>if i<env.length then .ok (.nx (put env i r)) else .stuck
theorem rn {mg:Str->Option Lx}{i:Nat}{t:TE}{f:En->Res R}(s:Snd mg E t f):yL mg E (x8 t (ii i)) (bL i f):=by
 intro g M ρ env σ H D rep p;refine s.oneS rep p fun r v M' H' e rep' ro p'=>?_;by_cases hi:i<env.length
 .rw[Hx hi]at p';obtain⟨M2,ρ2,e2,rep2⟩:=rep'.store rep.same hi ro;exact p' _ M2 ρ2 H' e2 rep2
 .rw[Hz hi]at p';exact p'.elim
theorem aG {i:Nat}{x:Str}{e:Expr}{f:En->Res R}{pos pos':Pos}(hN:X.N.Nodup)(hi:X.N[i]?=some x)(hx:xX X.env.scope x)(h:PD X E e f)(hs:autoParam (swapsWith e (some (.Name x pos')) pos.line X.env=pure false) LF._auto_1)
 (hf:autoParam (X.fn x=true\/X.env.scope.names.lookup x=some .local) LA._auto_1):j7 X E (.Assign [.Name x pos'] e pos) (bL i f):=by
 obtain⟨t,p1,s1⟩:=h;exact⟨_,uN hN hi hx p1 hs hf,rn s1⟩
def dP (env:En)(i:Nat):Option (List D×Bool):=match env[i]? with
 |some (some (.own ds fr))=>some (ds,fr)
 |some (some (.tre (.lst ds)))=>some (ds,true)
 |_=>none
mutual
noncomputable def D.sz:D->Nat
 | .tup ds=>D.szs ds+1
 | .lst ds=>D.szs ds+1
 | .dic _ ds=>D.szs ds+1
 |_=>0
noncomputable def D.szs:List D->Nat
 | []=>0
 |d::ds=>d.sz+D.szs ds+1
end
section
variable {H:Hp}{m m':Addr->Prop}
mutual
theorem Is.avoid {a:Addr}{e:D}(ha:Is H m' e (.ref a)):∀{d:D}{v:V},d.sz<e.sz->Is H m d v->Is H (fun b=>m b/\b≠a) d v
 | .non,_,_,h=>h
 | .bl _,_,_,h=>h
 | .int _,_,_,h=>h
 | .str _,_,_,h=>h
 | .tup ds,_,hs,h=>by obtain⟨b,vs,rfl,h1,h2⟩:=h;simp only[D.sz]at hs;exact⟨b,vs,rfl,h1,IsAll.avoid ha (by omega) h2⟩
 | .lst ds,_,hs,h=>by
  have h':=h;obtain⟨b,vs,rfl,h1,h2⟩:=h;have nb:b≠a:=fun z=>by subst z;have q:=Is.inj h' ha;rw[q]at hs;omega
  simp only[D.sz]at hs;refine⟨b,vs,rfl,?_,IsAll.avoid ha (by omega) h2⟩;rcases h1 with⟨h1,h3⟩|⟨o,h1,h3⟩
  .exact .inl ⟨h1,h3,nb⟩
  .exact .inr ⟨o,h1,h3,nb⟩
 | .dic ks ds,_,hs,h=>by
  have h':=h;obtain⟨b,kvs,rfl,h1,h2⟩:=h;have nb:b≠a:=fun z=>by subst z;have q:=Is.inj h' ha;rw[q]at hs;omega
  simp only[D.sz]at hs;exact⟨b,kvs,rfl,⟨h1.1,h1.2,nb⟩,IsAll.avoid ha (by omega) h2⟩
theorem IsAll.avoid {a:Addr}{e:D}(ha:Is H m' e (.ref a)):∀{ds:List D}{vs:List V},D.szs ds<e.sz->IsAll H m ds vs->IsAll H (fun b=>m b/\b≠a) ds vs
 | [],_,_,h=>h
 |d::ds,_,hs,h=>by obtain⟨v,r,rfl,h1,h2⟩:=h;simp only[D.szs]at hs;exact⟨v,r,rfl,Is.avoid ha (by omega) h1,IsAll.avoid ha (by omega) h2⟩
end
end
theorem Rep.toOwn {g:Gd}{M:Addr->Prop}{ρ:Pr}{env:En}{σ:St}{H:Hp}{i:Nat}{ds:List D}{fr:Bool}(rep:Rep g M ρ env σ H)(e:dP env i=some (ds,fr)) :
 ∃(M':Addr->Prop)(ρ':Pr)(a:Addr)(vs:List V),(∀ b,M b->M' b)/\Rep g M' ρ' (env.set i (some (.own ds fr))) σ H/\σ[i]?=some (some (.ref a))/\H a=some (.lst vs)/\(∀ b,ρ' i b↔b=a)/\IsAll H (msk g M' fr) ds vs/\i<env.length/\(∀ j b,ρ' j b->ρ j b)/\(∀ j,j≠i->ρ' j=ρ j):=by
 unfold dP at e;cases q:env[i]? with
 |none=>rw[q]at e;cases e
 |some o=>
  have hi:i<env.length:=(Hv.mp q).1;have hself:env.set i (env[i])=env:=KL hi;cases o with
  |none=>rw[q]at e;cases e
  |some sl=>
   obtain⟨v,ev,k⟩:=rep.slot i sl q;rw[q]at e;cases sl with
   |val d f=>cases e
   |mes d=>cases e
   |pin d=>cases e
   |dis d=>cases e
   |fix n q0=>cases e
   |kon a=>cases e
   |own ds' f'=>
    cases e;obtain⟨a,vs,rfl,h1,h2,h4⟩:=k;have eq:env.set i (some (.own ds fr))=env:=by
     have:env[i]=some (.own ds fr):=by have:=(Hv.mp q).2;exact this
     rw[<- this];exact hself
    rw[eq];exact⟨M,ρ,a,vs,fun _ z=>z,rep,ev,h1,h2,h4,hi,fun _ _ z=>z,fun _ _=>rfl⟩
   |tre d=>
    cases d with
    |lst ds'=>
     cases e;have k':=k;obtain⟨a,vs,rfl,h1,h2⟩:=k;have pa:ρ i a:=by rcases h1 with⟨_,z⟩|⟨_,_,z⟩<;>exact z
     obtain⟨pm,p0,uo,pl,pmu⟩:=rep.priv i a pa;have hl:H a=some (.lst vs):=by
      rcases h1 with⟨h1,_⟩|⟨o,h1,_⟩
      .exact h1
      .rw[h1]at pl;cases pl;exact pmu.elim
     have inner:IsAll H (fun b=>ρ i b/\b≠a) ds vs:=IsAll.avoid k' (by simp only[D.sz];omega) h2
     let M':Addr->Prop:=fun b=>M b\/(ρ i b/\b≠a)
     let ρ':Pr:=my ρ i fun b=>b=a
     have rr:Rep g M' ρ' (env.set i (some (.own ds true))) (σ.set i (some (.ref a))) H:=by
      have r1:Rep g M' (fun j b=>if j=i then b=a else ρ j b) (env.set i (some (.own ds true))) σ H:=by
       refine⟨rep.same,fun b hb=>hb.elim (rep.froz b) fun z=>?_,fun b hb=>hb.elim (rep.inn b) fun z=>.inl (rep.priv i b z.1).2.1,fun b hb h0=>hb.elim (fun z=>rep.fl b z h0) fun z=>.inl (rep.priv i b z.1).2.2,fun j s ej=>?_,fun j b h=>?_,fun j k b w1 w2=>?_,fun j b h=>?_,by rw[Jr];exact rep.len,rep.zz⟩
       .exact(rep.priv i b z.1).2.2.some
       .by_cases hj:j=i
        .subst hj;rw[HI hi]at ej;cases ej;exact⟨_,ev,a,vs,rfl,hl,fun b=>by simp,IsAll.weak (fun b z=>⟨.inr z,fun _=>(rep.priv j b z.1).2.1⟩) inner⟩
        .rw[HM (Jb hj)]at ej;obtain⟨v',ev',k2⟩:=rep.slot j s ej;have eT:(fun b=>if j=i then b=a else ρ j b)=ρ j:=by funext b;rw[Hz hj]
         exact⟨v',ev',by show SlOk g M' (fun b=>if j=i then b=a else ρ j b) H v' s;rw[eT];exact SlOk.weak (fun _=>.inl) k2⟩
       .by_cases hj:j=i
        .rw[Hx hj]at h;subst h;exact⟨fun z=>z.elim pm fun z=>z.2 rfl,p0,Mu.lst hl⟩
        .rw[Hz hj]at h;exact⟨fun z=>z.elim (rep.priv j b h).1 fun z=>hj (rep.apart j i b h z.1),(rep.priv j b h).2⟩
       .by_cases hj:j=i
        .by_cases hk:k=i
         .rw[hj,hk]
         .rw[Hx hj]at w1;rw[Hz hk]at w2;subst w1;exact absurd (rep.apart k i b w2 pa) hk
        .by_cases hk:k=i
         .rw[Hx hk]at w2;rw[Hz hj]at w1;subst w2;exact absurd (rep.apart j i b w1 pa) hj
         .rw[Hz hj]at w1;rw[Hz hk]at w2;exact rep.apart j k b w1 w2
       .unfold isOwn;by_cases hj:j=i
        .subst hj;rw[HI hi];rfl
        .rw[Hz hj]at h;rw[HM (Jb hj)];exact rep.ow j b h
      have hi2:i<σ.length:=by rw[<- rep.len];exact hi
      have es:σ.set i (some (.ref a))=σ:=by have:σ[i]=some (.ref a):=(Hv.mp ev).2;rw[<- this];exact KL hi2
      rw[es];exact r1
     have hi2:i<σ.length:=by rw[<- rep.len];exact hi
     have es:σ.set i (some (.ref a))=σ:=by have:σ[i]=some (.ref a):=(Hv.mp ev).2;rw[<- this];exact KL hi2
     rw[es]at rr;refine⟨M',ρ',a,vs,fun _=>.inl,rr,ev,hl,fun b=>by show my ρ i (fun b=>b=a) i b↔b=a;rw[c7],IsAll.weak (fun b z=>⟨.inr z,fun _=>(rep.priv i b z.1).2.1⟩) inner,hi,fun j b z=>?_,fun j hj=>bZ hj⟩;by_cases hj:j=i
     .subst hj;have z:my ρ j (fun b=>b=a) j b:=z;rw[c7]at z;rw[z];exact pa
     .have z:my ρ i (fun b=>b=a) j b:=z;rw[bZ hj]at z;exact z
    |_=>cases e
def tO (i:Nat)(f:En->Res R):En->Res Fl:=fun env=>match dP env i with
 |some (ds,fr)=>(f env).bind fun r=>if ds.length<lim/\¬ i∈r.al then .ok (.nx ((frz env r.al).set i (some (.own (ds++[r.d]) (fr&&r.fr))))) else .stuck
 |none=>.stuck
theorem rp {i:Nat}{a e:Expr}{f:En->Res R}{apos cpos pos:Pos}(ha:PE X a (fD i))(h:PD X E e f)
 (hbase:autoParam (attributeBase a "append" X.env (eval a X.env)=eval a X.env) LF._auto_1)
 (hfew:autoParam (((backTo cpos (starEach [e] X.env)).all (fun x=>!x.1)&&(backToKw cpos (keywordEach [] X.env)).all (fun x=>x.1.isSome)
   && decide (([e]:List Expr).length+([]:List Keyword).length+(if ([]:List Keyword).isEmpty then 0 else 1)<30))=true) LF._auto_1)
 (hline:autoParam ((apos.endLine==cpos.line)=true) LF._auto_1) (hs:autoParam (starEach [e] X.env=(false,eval e X.env)::starEach [] X.env) LF._auto_1) (hplain:autoParam ((backTo cpos (starEach [] X.env)).any (·.1)=false) LF._auto_1)
 (hsw:autoParam (swapsWith (.Call (.Attribute a "append" apos) [e] [] cpos) none pos.line X.env=pure false) LF._auto_1) :
 j7 X E (.Expr (.Call (.Attribute a "append" apos) [e] [] cpos) pos) (tO i f):=by
 obtain⟨t,p1,s1⟩:=h;refine⟨_,lQ (qK KC Kt Ku eV ha (bh p1 ck hs) hbase hfew hline hs hplain) hsw,fun g M ρ env σ H D rep p=>?_⟩;unfold tO at p;cases e1:dP env i with
 |none=>rw[e1]at p;exact p.elim
 |some o=>
  obtain⟨ds,fr⟩:=o;rw[e1]at p;dsimp only at p;obtain⟨M0,ρ0,l,vs,m0,rep0,ev,k1,k2,k4,hi,_⟩:=rep.toOwn e1;refine⟨_,ev,.inl ⟨rfl,vs,SqL.of k1⟩,s1.oneS rep p fun r y M' H' e rep' ro p'=>?_⟩;by_cases hc:ds.length<lim/\¬ i∈r.al
  .rw[Hx hc]at p';obtain⟨M1,x1,x1m,rep1,is1⟩:=ro.is rep' e rep.same;obtain⟨M2,ρ2,x2,rep2,o2,k5,k6⟩:=Rep.frz r.al rep1;have is2:Is H' (msk g M2 r.fr) r.d y:=Is.frozen rep1 x2 o2 is1;have e2:dP (frz env r.al) i=some (ds,fr):=by unfold dP;rw[mB _ hc.2];exact e1
   obtain⟨M3,ρ3,l3,vs3,m3,rep3,ev3,j1,j2,j4,hi3,_⟩:=rep2.toOwn e2;rw[ev]at ev3;cases ev3;have hl:H' l=some (.lst vs):=e.h _ _ k1;rw[hl]at j1;cases j1;have pl:ρ3 i l:=(j2 l).mpr rfl;obtain⟨nl3,_⟩:=rep3.priv i l pl;have is4:IsAll H' (msk g M3 (fr&&r.fr)) (ds++[r.d]) (vs++[y]):=by refine IsAll.snoc (IsAll.weak (fun b z=>⟨z.1,fun q=>z.2 (by cases fr<;>simp_all)⟩) j4) (Is.weak (fun b z=>⟨m3 b z.1,fun q=>z.2 (by cases fr<;>simp_all)⟩) is2)
   have kp:∀ b u,H' b=some u->(msk g M3 (fr&&r.fr) b\/fixd u)->av H' l (.lst (vs++[y])) b=some u:=fun b u q z=>by
    rw[ac]
    .exact q
    .rintro rfl;rcases z with z|z
     .exact nl3 z.1
     .rw[hl]at q;cases q;exact z
   obtain⟨f1,rep4⟩:=rep3.write (sl:=.own (ds++[r.d]) (fr&&r.fr)) (vs':=vs++[y]) pl (by rw[Jr];exact hi3) ev ⟨l,vs++[y],rfl,ag,j2,IsAll.mono kp (fun _ _ _ z=>z) is4⟩;rw[List.set_set]at rep4;refine⟨l,vs,y,rfl,rfl,hl,by rw[k4.length];exact hI hc.1,?_⟩;exact p' σ M3 ρ3 _ (Frz.trans ⟨fun a z=>m3 a (x2 a (x1m a z)),fun _ _ q _=>q⟩ f1) rep4
  .rw[Hz hc]at p';exact p'.elim
end
def B5 (ix:List Nat)(t:TG)(asg:D->Bool->En->Option En):Prop:=∀(g:Gd)(M:Addr->Prop)(ρ:Pr)(env az:En)(σ:St)(H:Hp)(d:D)(fr:Bool)(v:V)(Q:St->Hp->Prop),
 Rep g M ρ env σ H->Is H (msk g M fr) d v->asg d fr env=some az->(∀(σ':St)(ρ':Pr),Rep g M ρ' az σ' H->(∀ j,¬ j∈ix->σ'[j]?=σ[j]?)->(∀ j a,ρ' j a->ρ j a)->Q σ' H)->t v σ H Q
def EB (ix:List Nat)(t:As)(asg:List D->Bool->En->Option En):Prop:=∀(g:Gd)(M:Addr->Prop)(ρ:Pr)(env az:En)(σ:St)(H:Hp)(ds:List D)(fr:Bool)(vs:List V)(Q:St->Hp->Prop),
 Rep g M ρ env σ H->IsAll H (msk g M fr) ds vs->asg ds fr env=some az->(∀(σ':St)(ρ':Pr),Rep g M ρ' az σ' H->(∀ j,¬ j∈ix->σ'[j]?=σ[j]?)->(∀ j a,ρ' j a->ρ j a)->Q σ' H)->t vs σ H Q
def xU (X:Cx)(ix:List Nat)(tg:Expr)(asg:D->Bool->En->Option En):Prop:=∃ t,PG X tg t/\B5 ix t asg
def yM (X:Cx)(ix:List Nat)(ts:List Expr)(asg:List D->Bool->En->Option En):Prop:=∃ t,Bh X ts t/\EB ix t asg
section
variable {X:Cx}{E:XK}
def gN (i:Nat):D->Bool->En->Option En:=fun d fr env=>if i<env.length then some (env.set i (some (.val d fr))) else none
theorem tP {i:Nat}:B5 [i] (ii i) (gN i):=by
 intro g M ρ env az σ H d fr v Q rep is e k;unfold gN at e;by_cases hi:i<env.length
 .rw[Hx hi]at e;cases e;exact k _ _ (rep.put (sl:=.val d fr) (T:=fun _=>False) hi is (fun _ z=>z.elim) fun _ z=>z.elim) (fun j hj=>HM fun e=>hj (by simp[e])) fun j a z=>by
   by_cases hj:j=i
   .subst hj;rw[c7]at z;exact z.elim
   .rw[bZ hj]at z;exact z
 .rw[Hz hi]at e;cases e
theorem aq {i:Nat}{x:Str}{pos:Pos}(hN:X.N.Nodup)(hi:X.N[i]?=some x)(hx:xX X.env.scope x)(hf:autoParam (X.fn x=true\/X.env.scope.names.lookup x=some .local) LA._auto_1):xU X [i] (.Name x pos) (gN i):=⟨_,iQ hN hi hx hf,tP⟩
noncomputable def lr:List D->Bool->En->Option En:=fun ds _ env=>match ds with
 | []=>some env
 |_=>none
def bM (f:D->Bool->En->Option En)(fs:List D->Bool->En->Option En):List D->Bool->En->Option En:=fun ds fr env=>match ds with
 |d::r=>(f d fr env).bind fun az=>fs r fr az
 | []=>none
theorem nZ:yM X [] [] lr:=⟨_,qH,fun g M ρ env az σ H ds fr vs Q rep is e k=>by
 cases ds with
 |nil=>cases e;cases is;exact⟨rfl,k σ ρ rep (fun _ _=>rfl) fun _ _ z=>z⟩
 |cons d ds=>cases e⟩
theorem dr {e:Expr}{es:List Expr}{f:D->Bool->En->Option En}{fs:List D->Bool->En->Option En}{ix jx:List Nat}(h1:xU X ix e f)(h2:yM X jx es fs)
 (hs:∀ t,PG X e t->∀ u,Bh X es u->Bh X (e::es) (nq t u)):yM X (ix++jx) (e::es) (bM f fs):=by
 obtain⟨t,p1,s1⟩:=h1;obtain⟨u,p2,s2⟩:=h2;refine⟨_,hs t p1 u p2,fun g M ρ env az σ H ds fr vs Q rep is e k=>?_⟩;cases ds with
 |nil=>cases e
 |cons d ds=>
  obtain⟨v,r,rfl,i1,i2⟩:=is;unfold bM at e;dsimp only at e;cases q:f d fr env with
  |none=>rw[q]at e;cases e
  |some env1=>rw[q]at e;refine⟨v,r,rfl,s1 g M ρ env env1 σ H d fr v _ rep i1 q fun σ1 ρ1 rep1 c1 d1=>?_⟩;exact s2 g M ρ1 env1 az σ1 H ds fr r Q rep1 i2 e fun σ2 ρ2 rep2 c2 d2=>k σ2 ρ2 rep2 (fun j hj=>(c2 j fun z=>hj (by simp[z])).trans (c1 j fun z=>hj (by simp[z]))) fun j a z=>d1 j a (d2 j a z)
def gT (n:Nat)(fs:List D->Bool->En->Option En):D->Bool->En->Option En:=fun d fr env=>match d with
 | .tup ds=>if ds.length=n then fs ds fr env else none
 |_=>none
theorem rq {ix:List Nat}{es:List Expr}{k:Nat}{pos:Pos}{n:Nat}{fs:List D->Bool->En->Option En}(hc:X.calm=true)(h:yM X ix es fs)(hn:autoParam ((assignEach es X.env).length=n) LF._auto_1)(hst:autoParam ((assignEach es X.env).findIdx? (·.1)=none) LF._auto_1):xU X ix (.Tuple es k pos) (gT n fs):=by
 obtain⟨t,p1,s1⟩:=h;refine⟨_,uM hc p1 hn hst,fun g M ρ env az σ H d fr v Q rep is e kk=>?_⟩;unfold gT at e;cases d with
 |tup ds=>
  obtain⟨a,vs,rfl,h1,h2⟩:=is;dsimp only at e;by_cases hl:ds.length=n
  .rw[Hx hl]at e;exact⟨a,vs,rfl,SqT.of h1,h2.length.trans hl,s1 g M ρ env az σ H ds fr vs Q rep h2 e kk⟩
  .rw[Hz hl]at e;cases e
 |_=>cases e
end
structure Src where
 xs:List D
 fr:Bool
 al:List Nat
structure Walk (J:It) (m:Addr->Prop) (H:Hp) (xs:List D):Prop where
 go:∀ H' i d,(∀ a o,H a=some o->(m a\/fixd o)->H' a=some o)->xs[i]?=some d->J.go i H'/\∀ x H'',J.yld i H' x H''->Same H' H''/\Is H'' m d x
 stop:∀ H',(∀ a o,H a=some o->(m a\/fixd o)->H' a=some o)->J.stop xs.length H'
theorem Walk.weak {J:It}{m m':Addr->Prop}{H:Hp}{xs:List D}(w:Walk J m H xs)(h:∀ a,m a->m' a):Walk J m' H xs:=⟨fun H' i d k e=>let ⟨a,b⟩:=w.go H' i d (fun a o q z=>k a o q (z.imp (h a) id)) e;⟨a,fun x H'' y=>let ⟨c,d⟩:=b x H'' y;⟨c,d.weak h⟩⟩,fun H' k=>w.stop H' fun a o q z=>k a o q (z.imp (h a) id)⟩
def PostI (mg:Str->Option Lx)(E:XK)(g:Gd)(M:Addr->Prop)(ρ:Pr)(env:En)(σ:St)(H:Hp)(R:It->Hp->Prop):Res Src->Prop
 | .stuck=>False
 | .exc c=>yI mg E g c
 | .ok s=>∀ J M' H',Ext M H M' H'->Rep g M' ρ env σ H'->Walk J (vmsk g M' s.fr ρ s.al) H' s.xs->R J H'
def EC (mg:Str->Option Lx)(E:XK)(wi:TI)(f:En->Res Src):Prop:=∀ g M ρ env σ H R,Rep g M ρ env σ H->PostI mg E g M ρ env σ H R (f env)->wi σ H R
def DJ (X:Cx)(E:XK)(tg iter:Expr)(f:En->Res Src):Prop:=∃ wi,PI X tg iter wi/\EC X.mg E wi f
section
variable {X:Cx}{E:XK}{tg:Expr}
def GC (K:Lu)(tl:TE):TI:=fun σ H R=>tl σ H fun x H1=>∃ a,x=.ref a/\(((∃ xs,SqL K H1 a xs)/\R (DF K a) H1)\/((∃ xs,SqT K H1 a xs)/\R (Gb K a) H1))
theorem vY {l:Expr}{tl:TE}(hl:PE X l tl):PI X tg l (GC X.K tl):=by
 intro pins s σ H R I h;refine bn (hl pins s σ H _ I h) fun v s1 ⟨x,H1,I1,r1,q1⟩=>?_;obtain⟨a,e,q⟩:=q1;subst e;cases r1;rcases q with⟨⟨xs,hq⟩,q⟩|⟨⟨xs,hq⟩,q⟩
 .obtain⟨its,rv,p,hz⟩:=I1.list hq;refine Kg p.isList ?_;refine⟨s1.heap.objs.size,[s1.heap.objs.size],_,_,H1,rfl,I1.kept (t':=s1.toks) fun b o e=>Hu _ e,sN a _,⟨_,HQ _ rfl,rfl,rfl⟩,fun b hb=>?_,q⟩;have e:b=s1.heap.objs.size:=by simpa using hb
  subst e;exact I1.fpOk (HB _) (I1.hok.fresh (HB _))
 .obtain⟨its,rv,p,hz⟩:=I1.tuple hq;refine wpAny_pyIter_tuple (show s1.heap.IsTuple a its.toArray from p) ?_;refine⟨s1.heap.objs.size,[s1.heap.objs.size],_,_,H1,rfl,I1.kept (t':=s1.toks) fun b o e=>Hu _ e,o7 a _,⟨_,HQ _ rfl,rfl,rfl⟩,fun b hb=>?_,q⟩;have e:b=s1.heap.objs.size:=by simpa using hb
  subst e;exact I1.fpOk (HB _) (I1.hok.fresh (HB _))
theorem tQ {K:Lu}{a:Addr}{m:Addr->Prop}{H:Hp}{ds:List D}{vs:List V}(h:(H a=some (.lst vs)/\m a)\/∃ o,H a=some (.frz o (.lst vs))/\m a)(is:IsAll H m ds vs):Walk (DF K a) m H ds:=by
 have st:∀ H',(∀ a o,H a=some o->(m a\/fixd o)->H' a=some o)->SqL K H' a vs:=fun H' k=>by
  rcases h with⟨h,hm⟩|⟨o,h,_⟩
  .exact .inl (.inl (k a _ h (.inl hm)))
  .exact .inl (.inr ⟨o,k a _ h (.inr True.intro)⟩)
 refine⟨fun H' i d k e=>?_,fun H' k=>⟨vs,st H' k,by rw[is.length];exact HB _⟩⟩;obtain⟨v,ev,iv⟩:=(is.mono k fun _ _ _ z=>z:IsAll H' m ds vs).get e;refine⟨⟨vs,v,st H' k,ev⟩,fun x H'' y=>?_⟩;obtain⟨rfl,y⟩:=y;have:=y vs (st _ k);rw[ev]at this;cases this;exact⟨Same.refl _,iv⟩
theorem vZ {K:Lu}{a:Addr}{m:Addr->Prop}{H:Hp}{ds:List D}{vs:List V}(h:H a=some (.tup vs))(is:IsAll H m ds vs):Walk (Gb K a) m H ds:=by have st:∀ H',(∀ a o,H a=some o->(m a\/fixd o)->H' a=some o)->SqT K H' a vs:=fun H' k=>SqT.of (k a _ h (.inr True.intro));refine⟨fun H' i d k e=>?_,fun H' k=>⟨vs,st H' k,by rw[is.length];exact HB _⟩⟩;obtain⟨v,ev,iv⟩:=(is.mono k fun _ _ _ z=>z:IsAll H' m ds vs).get e;refine⟨⟨vs,v,st H' k,ev⟩,fun x H'' y=>?_⟩;obtain⟨rfl,y⟩:=y;have:=y vs (st _ k);rw[ev]at this;cases this;exact⟨Same.refl _,iv⟩
noncomputable def c8 (lo:Int)(n:Nat):List D:=(List.range n).map fun k=>.int (lo+(k:Nat))
theorem pZ {m:Addr->Prop}{H:Hp}(lo:Int)(n:Nat):Walk (FM lo n) m H (c8 lo n):=by
 refine⟨fun H' i d k e=>?_,fun H' k=>by show n<=(c8 lo n).length;simp[c8]⟩;have hi:i<n:=by have:=(Hv.mp e).1;simpa[c8] using this
 refine⟨hi,fun x H'' y=>?_⟩;obtain⟨rfl,rfl⟩:=y;refine⟨Same.refl _,?_⟩;have:(c8 lo n)[i]?=some (.int (lo+(i:Nat))):=by simp[c8,hi]
 rw[this]at e;cases e;rfl
def fY (f:En->Res R):En->Res Src:=fun env=>(f env).bind fun r=>match r.d with
 | .lst ds=>.ok ⟨ds,r.fr,r.al⟩
 | .tup ds=>.ok ⟨ds,r.fr,r.al⟩
 |_=>.stuck
theorem bB {l:Expr}{f:En->Res R}(h:PD X E l f):DJ X E tg l (fY f):=by
 obtain⟨t,p1,s1⟩:=h;refine⟨_,vY p1,fun g M ρ env σ H R rep p=>?_⟩;refine s1.one rep (P:=fun M H r=>PostI X.mg E g M ρ env σ H R r) p (fun _ _ z=>z) (fun _ _ _ z=>z) (fun M H M' H' r e p=>?_) fun r v M1 H1 e1 rep1 is q=>?_
 .cases r with
  |stuck=>exact p
  |exc c=>exact p
  |ok s=>exact fun J M2 H2 e2=>p J M2 H2 (e.trans e2)
 .cases z:r.d with
  |lst ds=>rw[z]at is;simp only[z]at q;obtain⟨a,vs,rfl,h1,h2⟩:=is;exact⟨a,rfl,.inl ⟨⟨vs,.inl (h1.imp (·.1) fun⟨o,z,_⟩=>⟨o,z⟩)⟩,q _ M1 H1 (Ext.refl _ _) rep1 (tQ h1 h2)⟩⟩
  |tup ds=>rw[z]at is;simp only[z]at q;obtain⟨a,vs,rfl,h1,h2⟩:=is;exact⟨a,rfl,.inr ⟨⟨vs,SqT.of h1⟩,q _ M1 H1 (Ext.refl _ _) rep1 (vZ h1 h2)⟩⟩
  |_=>simp only[z]at q;exact q.elim
noncomputable def cR (i:Int):Bool:=decide (-(2 ^ 62)<=i)&&decide (i<2 ^ 62)
def yN (fs:En->Res (List R)):En->Res Src:=fun env=>(fs env).bind fun rs=>match rs.map R.d with
 | [.int j]=>if cR j then .ok ⟨c8 0 j.toNat,true,[]⟩ else .stuck
 |_=>.stuck
theorem PostI.ext {mg:Str->Option Lx}{g:Gd}{M M':Addr->Prop}{ρ:Pr}{env:En}{σ:St}{H H':Hp}{R:It->Hp->Prop}{r:Res Src}(e:Ext M H M' H')(p:PostI mg E g M ρ env σ H R r):PostI mg E g M' ρ env σ H' R r:=by
 cases r with
 |stuck=>exact p
 |exc c=>exact p
 |ok s=>exact fun J M2 H2 e2=>p J M2 H2 (e.trans e2)
theorem bH {a:Expr} {fs:En->Res (List R)} {p pos:Pos} (hg:Gl X "range") (hm:X.mg "range"=none) (ha:xQ X E [a] fs) (hs:autoParam (starEach [a] X.env=[(false,eval a X.env)]) LF._auto_1):DJ X E tg (.Call (.Name "range" p) [a] [] pos) (yN fs):=by
 obtain⟨t,p1,s1⟩:=ha;refine⟨_,sO hg hm p1 hs,fun g M ρ env σ H Rq rep p=>s1.one rep (P:=fun M H r=>PostI X.mg E g M ρ env σ H Rq r) p (fun _ _ z=>z) (fun _ _ _ z=>z) (fun _ _ _ _ _ e p=>p.ext e) fun rs vs M1 H1 e1 rep1 is q=>?_⟩;generalize hd:rs.map R.d=ds at is q
 match ds,is,q with
 | [.int j],is,q=>
  obtain⟨v,w,rfl,i1,i2⟩:=is;cases i1;cases i2;dsimp only at q;by_cases hc:cR j=true
  .rw[Hx hc]at q;simp only[cR,Ir,JW]at hc;exact⟨j,rfl,hc.1,hc.2,q _ M1 H1 (Ext.refl _ _) rep1 (pZ 0 j.toNat)⟩
  .rw[Hz hc]at q;exact q.elim
 | [],_,q=>exact q.elim
 | [.non],_,q=>exact q.elim
 | [.bl _],_,q=>exact q.elim
 | [.str _],_,q=>exact q.elim
 | [.tup _],_,q=>exact q.elim
 | [.lst _],_,q=>exact q.elim
 | [.dic _ _],_,q=>exact q.elim
 | .int _::_::_,_,q=>exact q.elim
 | .non::_::_,_,q=>exact q.elim
 | .bl _::_::_,_,q=>exact q.elim
 | .str _::_::_,_,q=>exact q.elim
 | .tup _::_::_,_,q=>exact q.elim
 | .lst _::_::_,_,q=>exact q.elim
 | .dic _ _::_::_,_,q=>exact q.elim
def bS (asg:D->Bool->En->Option En)(fr:Bool)(body:En->Res Fl):List D->En->Res Fl
 | [],env=>.ok (.nx env)
 |x::xs,env=>match asg x fr env with
  |none=>.stuck
  |some env1=>(body env1).bind fun r=>match r with
   | .nx az=>bS asg fr body xs az
   | .ct az=>bS asg fr body xs az
   | .bk az=>.ok (.nx az)
   | .rt r=>.ok (.rt r)
   | .rm r e=>.ok (.rm r e)
def dU (src:En->Res Src)(asg:D->Bool->En->Option En)(body:En->Res Fl):En->Res Fl:=fun env=>(src env).bind fun s=>bS asg s.fr body s.xs (frz env s.al)
def ED (J:It)(u:TG)(tb:TS)(D:Ends)(σ:St)(H1:Hp):Prop:=∃ W:Nat->Nat->St->Hp->Prop,(∃ m,W 0 m σ H1)/\∀ i m σ H,W i m σ H->(J.stop i H/\D.nx σ H)\/(J.go i H/\∃ N:St->Hp->Prop,(∀ σ' H',N σ' H'->∃ m',m'<m/\W (i+1) m' σ' H')/\∀ x H',J.yld i H x H'->u x σ H' fun σ2 H2=>tb { D with nx:=N,ct:=N,bk:=D.nx } σ2 H2)
theorem v3 {J:It}{u:TG}{tb:TS}{ix:List Nat}{asg:D->Bool->En->Option En}{fb:En->Res Fl}{fr:Bool}{xs:List D}{g:Gd}{M2:Addr->Prop}{ρ2:Pr}{env2:En}{σ:St}{H1:Hp}{D:Ends}(s2:B5 ix u asg)(s3:yL X.mg E tb fb)(rep2:Rep g M2 ρ2 env2 σ H1)(wk2:Walk J (msk g M2 fr) H1 xs)(p2':PostS X.mg E g M2 H1 D (bS asg fr fb xs env2)):ED J u tb D σ H1:=by
 refine⟨fun i m σ' H'=>m=xs.length-i/\i<=xs.length/\∃ M' ρ' az,Rep g M' ρ' az σ' H'/\Frz M2 H1 M' H'/\PostS X.mg E g M' H' D (bS asg fr fb (xs.drop i) az),⟨_,rfl,Ij _,M2,ρ2,_,rep2,Frz.refl _ _,p2'⟩,?_⟩;rintro i m σ' H' ⟨rfl,hle,M',ρ',az,rep',f',p'⟩;have kp:∀ a o,H1 a=some o->(msk g M2 fr a\/fixd o)->H' a=some o:=fun a o e z=>f'.h a o e (z.imp (·.1) id);by_cases hlt:i<xs.length
 .have ed:xs[i]?=some xs[i]:=by simp[hlt]
  obtain⟨go,yl⟩:=wk2.go H' i _ kp ed;have edrop:xs.drop i=xs[i]::xs.drop (i+1):=IX hlt;rw[edrop]at p';unfold bS at p';refine .inr ⟨go,fun σ'' H''=>∃ M'' ρ'' env'',Rep g M'' ρ'' env'' σ'' H''/\Frz M2 H1 M'' H''/\PostS X.mg E g M'' H'' D (bS asg fr fb (xs.drop (i+1)) env''),fun σ'' H'' z=>⟨xs.length-(i+1),by omega,rfl,hlt,z⟩,fun x H'' y=>?_⟩;obtain⟨sm,is⟩:=yl x H'' y;have rep'':=rep'.grow sm;have fx:Frz M' H' M' H'':=⟨fun _ z=>z,fun a o e _=>sm a o e⟩;have is':Is H'' (msk g M' fr) xs[i] x:=is.weak fun a z=>msk.mono f'.m z;cases qa:asg xs[i] fr az with
  |none=>simp only[qa]at p';exact p'.elim
  |some env1=>
   simp only[qa]at p';refine s2 g M' ρ' az env1 σ' H'' _ fr x _ rep'' is' qa fun σ1 ρ1 rep1' _ _=>?_;refine s3 g M' ρ1 env1 σ1 H'' _ rep1' ?_;have p'':=PostS.frz fx p';cases qb:fb env1 with
   |stuck=>rw[qb]at p'';exact p''
   |exc c=>rw[qb]at p'';exact p''
   |ok r=>
    rw[qb]at p'';cases r with
    |nx e3=>exact fun σ3 M3 ρ3 H3 f3 rep3=>⟨M3,ρ3,e3,rep3,(f'.trans fx).trans f3,PostS.frz f3 p''⟩
    |ct e3=>exact fun σ3 M3 ρ3 H3 f3 rep3=>⟨M3,ρ3,e3,rep3,(f'.trans fx).trans f3,PostS.frz f3 p''⟩
    |bk e3=>exact p''
    |rt r=>exact p''
    |rm r e3=>exact p''
 .have e:i=xs.length:=by omega
  subst e;rw[KQ]at p';exact .inl ⟨wk2.stop H' kp,p' σ' M' ρ' H' (Frz.refl _ _) rep'⟩
theorem bu {ix:List Nat}{iter:Expr}{body:List Stmt}{src:En->Res Src}{asg:D->Bool->En->Option En}{fb:En->Res Fl}{pos:Pos}(hp:PassesOwn (model X.prog X.w) X.A X.env X.xe)(hc:X.calm=true)
 (hi:DJ X E tg iter src) (hg:xU X ix tg asg) (hb:kn X E body fb) (hs:autoParam (∀ x,foldedSetIterable iter X.env x=pure x) LC._auto_1):j7 X E (.For tg iter body [] pos) (dU src asg fb):=by
 obtain⟨wi,p1,s1⟩:=hi;obtain⟨u,p2,s2⟩:=hg;obtain⟨tb,p3,s3⟩:=hb;refine⟨_,o9 hp hc p1 p2 p3 hs,fun g M ρ env σ H D rep p=>?_⟩;refine s1 g M ρ env σ H _ rep ?_;unfold dU at p;cases q:src env with
 |stuck=>rw[q]at p;exact p
 |exc c=>rw[q]at p;exact p
 |ok s=>rw[q]at p;intro J M1 H1 e1 rep1 wk;obtain⟨M2,ρ2,x2,rep2,o2,_,_⟩:=Rep.frz s.al rep1;have wk2:Walk J (msk g M2 s.fr) H1 s.xs:=wk.weak fun a z=>z.elim (msk.mono x2) fun⟨i,hi,o⟩=>⟨o2 i hi a o,fun _=>(rep1.priv i a o).2.1⟩;have p2':PostS X.mg E g M2 H1 D (bS asg s.fr fb s.xs (frz env s.al)):=PostS.frz (e1.frz.trans ⟨x2,fun _ _ q _=>q⟩) p;exact v3 s2 s3 rep2 wk2 p2'
end
theorem dG {env:Env}:∀(names:List (Str×NameKind))(cs:List (Str×Addr)),(∀ x∈names,x.2=.free->∃ c,env.cells.lookup x.1=some c)->(∀ y c,cs.lookup y=some c->env.cells.lookup y=some c)->
 ∃ cl,(forIn names cs fun(x:Str×NameKind)(r:List (Str×Addr))=>(do
  if (x.2==.free)=true then
   let c <- cellOf env x.1
   pure (ForInStep.yield ((x.1,c)::r))
  else pure (ForInStep.yield r):Sem (ForInStep (List (Str×Addr)))))=pure cl/\(∀ y c,cl.lookup y=some c->env.cells.lookup y=some c)/\(∀ x∈names,x.2=.free->∃ c,cl.lookup x.1=some c)/\(∀ y c,cs.lookup y=some c->∃ c',cl.lookup y=some c')
 | [],cs,_,h=>⟨cs,by simp,h,fun _ z=>absurd z (by simp),fun y c e=>⟨c,e⟩⟩
 |(n,k)::r,cs,hf,h=>by
  by_cases hk:k=.free
  .subst hk;obtain⟨c,hc⟩:=hf (n,.free) (by simp) rfl;have hco:cellOf env n=pure c:=by simp[cellOf,hc]
   have h':∀ y c',((n,c)::cs).lookup y=some c'->env.cells.lookup y=some c':=fun y c' e=>by
    rw[J5]at e;cases hy:y==n with
    |true=>rw[hy]at e;cases e;rw[eq_of_beq hy];exact hc
    |false=>rw[hy]at e;exact h y c' e
   obtain⟨cl,e1,e2,e3,e4⟩:=dG r ((n,c)::cs) (fun x hx=>hf x (by simp[hx])) h';have self:∃ c',cl.lookup n=some c':=e4 n c (by simp[J5]);refine⟨cl,?_,e2,fun x hx hxf=>?_,fun y c' e=>?_⟩
   .rw[List.forIn_cons];simp only[beq_self_eq_true,JJ,hco,pure_bind];exact e1
   .rcases HE.mp hx with rfl|hx
    .exact self
    .exact e3 x hx hxf
   .by_cases hy:y=n
    .rw[hy];exact self
    .refine e4 y c' ?_;have hb:(y==n)=false:=by simpa using hy
     rw[J5,hb];exact e
  .obtain⟨cl,e1,e2,e3,e4⟩:=dG r cs (fun x hx=>hf x (by simp[hx])) h;refine⟨cl,?_,e2,fun x hx hxf=>?_,e4⟩
   .rw[List.forIn_cons];have hkb:(k==NameKind.free)=false:=by simpa using hk
    simp only[hkb,HP,IQ,pure_bind];exact e1
   .rcases HE.mp hx with rfl|hx
    .exact absurd hxf hk
    .exact e3 x hx hxf
theorem ko {scope:Scope}{env:Env}(h:∀ x∈scope.names,x.2=.free->∃ c,env.cells.lookup x.1=some c) :
 ∃ cl,closureFor scope env=pure cl/\(∀ y c,cl.lookup y=some c->env.cells.lookup y=some c)/\(∀ x∈scope.names,x.2=.free->∃ c,cl.lookup x.1=some c):=by
 obtain⟨cl,e1,e2,e3,_⟩:=dG scope.names [] h (fun _ _ e=>by simp at e);refine⟨cl,?_,e2,e3⟩;unfold closureFor;refine Eq.trans ?_ (show((pure cl:Sem (List (Str×Addr))) >>= fun cs=>pure cs)=pure cl by simp);rw[<- e1]
 all_goals first
  |rfl
  |(congr 1;congr 1;funext x r;obtain⟨n,k⟩:=x;first|rfl|(dsimp only;split<;>simp_all))
theorem iq {f:Str->NameKind->NameKind}:∀(names:List (Str×NameKind))(y:Str),(names.map fun x=>(x.1,f x.1 x.2)).lookup y=(names.lookup y).map (f y)
 | [],y=>rfl
 |(n,k)::r,y=>by
  rw[HL,J5,J5];cases h:y==n with
  |true=>rw[eq_of_beq h];rfl
  |false=>exact iq r y
theorem ef (scope:Scope)(env:Env)(y:Str):(relabel scope env).names.lookup y=(scope.names.lookup y).map fun k=>if (k==.free&&env.scope.kind==.function&&env.kindOf y==some .cell)=true then .cell else k:=by
 have e:(relabel scope env).names=scope.names.map fun x=>(x.1,(fun n k=>if (k==NameKind.free&&env.scope.kind==.function&&env.kindOf n==some .cell)=true then NameKind.cell else k) x.1 x.2):=by unfold relabel;refine J4 fun x _=>?_;obtain⟨n,k⟩:=x;dsimp only;split<;>rfl
 rw[e];exact iq (f:=fun n k=>if (k==NameKind.free&&env.scope.kind==.function&&env.kindOf n==some .cell)=true then NameKind.cell else k) scope.names y
theorem mC {scope:Scope}{env:Env}{y:Str}(h:scope.names.lookup y=some .free):(relabel scope env).names.lookup y=some .cell\/(relabel scope env).names.lookup y=some .free:=by
 rw[ef,h];simp only[Option.map_some];split
 .exact .inl rfl
 .exact .inr rfl
noncomputable def be (X:Cx)(scope:Scope)(N:List Str)(cl:List (Str×Addr))(C:Addr)(s:Ls)(H:Hp)(ex:List Addr):Cx:={ X with N:=N,s₀:=s,H₀:=H,env:=compEnvC scope cl C X.env,outer:=X.stack,ex:=ex,fn:=fun _=>false,pn:=[],xe:=fun _ _=>False }
section
variable {X:Cx}{pins:List (Addr×Obj)}{σ:St}{H:Hp}{s:Ls}{scope:Scope}{N:List Str}{cl:List (Str×Addr)}{C:Addr}{ex:List Addr}
theorem yO (I:L2.Inv X pins σ H s)(hkind:scope.kind=.function)(hcell:∀ y∈scope.names,y.2≠.cell)(hcl:∀ y c,cl.lookup y=some c->X.env.cells.lookup y=some c)(hhas:∀ x∈scope.names,x.2=.free->∃ c,cl.lookup x.1=some c)
 (hC:s.heap.objs.size<=C) (hex:∀ b∈ex,FpOk X pins H b/\b<s.heap.objs.size):(be X scope N cl C s H ex).Ok where
 mod:=I.ok.mod
 kind:=hkind
 glob:=I.ok.glob
 blt:=I.ok.blt
 above:=hC
 inj:=fun x y c h1 h2=>I.ok.inj x y c (hcl x c h1) (hcl y c h2)
 has:=fun y hy=>by
  have key:∀ k,(relabel scope X.env).names.lookup y=some k->(k=.cell\/k=.free)->∃ c,cl.lookup y=some c:=fun k e hk=>by
   rw[ef]at e;cases q:scope.names.lookup y with
   |none=>rw[q]at e;cases e
   |some k0=>
    have hm:=Jx q;have h0:=hcell _ hm;have hf:k0=.free:=by
     rw[q]at e;simp only[Option.map_some,Option.some.injEq]at e;split at e
     .rename_i z;simp only[Ir,Lq]at z;exact z.1.1
     .rcases hk with hk|hk
      .exact absurd (e.trans hk) h0
      .exact e.trans hk
    exact hhas _ hm hf
  rcases hy with hy|hy
  .exact key _ hy (.inl rfl)
  .exact key _ hy (.inr rfl)
 cab:=fun _ _ h=>by cases h
 hd:=I.ok.hd
 frames:=I.ok.frames
 stk:=.inl rfl
 exf:=fun b hb=>⟨Ic (Il (hex b hb).2 hC),fun x c e=>(hex b hb).1.2.2.2.2.1 x c (hcl x c e)⟩
 bs:=fun b o e=>I.bs b o e
 bsz:=HS I.ok.bsz I.sz
 noex:=fun b o e hb=>by
  rcases (hex b hb).1.2.2.2.1 with z|z
  .exact I.ok.noex b o e z
  .exact absurd (Il (HN e) (HS I.ok.bsz z)) (JA _)
 exfs:=fun b hb hfs=>by
  rcases HE.mp (I.stkSub b hfs) with z|z
  .exact(hex b hb).1.2.1 z
  .exact(hex b hb).1.2.2.1 z
 funs:=I.stack
 frf:=I.stkFree
 kt:=I.kt
structure Caps (X:Cx) (scope:Scope) (capN:List Str) (caps:List Nat):Prop where
 at':∀(k:Nat)(y:Str),capN[k]?=some y->∃ j:Nat,caps[k]?=some j/\X.N[j]?=some y
 out:∀ y∈capN,X.env.kindOf y=some .cell\/X.env.kindOf y=some .free
 inn:∀ y∈capN,scope.names.lookup y=some .free
 len:caps.length=capN.length
noncomputable def hV (σ:St)(caps:List Nat):St:=caps.map fun j=>(σ[j]?).join
theorem v4 {tN:List Str}{capN:List Str}{caps:List Nat}{h4:Heap}{tk:Nat}{m4:Str->Option Lx}(I:L2.Inv X pins σ H s)(hkind:scope.kind=.function)(hcell:∀ y∈scope.names,y.2≠.cell)(hcl:∀ y c,cl.lookup y=some c->X.env.cells.lookup y=some c)(hhas:∀ x∈scope.names,x.2=.free->∃ c,cl.lookup x.1=some c)
 (hC:s.heap.objs.size<=C) (hex:∀ b∈ex,FpOk X pins H b/\b<s.heap.objs.size) (hc:Caps X scope capN caps) (kp:∀ b o,s.heap.get? b=some o->h4.get? b=some o) (ns:h4.Ns C m4) :
 L2.Inv (be X scope (tN++capN) cl C s H ex) [] (List.replicate tN.length none++hV σ caps) H { s with heap:=h4,toks:=tk } where
 ok:=yO I hkind hcell hcl hhas hC hex
 os:=rfl
 bare:=I.bare
 base:=Un.kept kp
 loc:=by
  refine⟨m4,ns,fun i y v e1 e2 e3=>?_⟩;by_cases hlt:i<tN.length
  .rw[HK (by simpa using hlt),JY]at e2;rw[Hx hlt]at e2;cases e2
  .obtain⟨k,rfl⟩ : ∃ k,i=tN.length+k:=⟨i-tN.length,by omega⟩;have e1:capN[k]?=some y:=by
    have e1:(tN++capN)[tN.length+k]?=some y:=e1
    rwa [HC (by omega),JF]at e1
   have e2:(hV σ caps)[k]?=some (some v):=by
    rwa [HC (by simp),KH,JF]at e2
   obtain⟨j,ej,eN⟩:=hc.at' k y e1;have e4:σ[j]?=some (some v):=by
    unfold hV at e2;rw[Ip,ej]at e2;have e2:(σ[j]?).join=some v:=by simpa using e2
    cases q:σ[j]? with
    |none=>rw[q]at e2;cases e2
    |some o=>rw[q]at e2;cases o with
     |none=>cases e2
     |some w=>cases e2;rfl
   have hm:=Jv e1;obtain⟨m,hn,hl⟩:=I.loc;have hout:=hc.out y hm;obtain⟨u,r,l⟩:=hl j y v eN e4 (.inr hout);refine⟨u,r,.inr ⟨mC (hc.inn y hm),?_⟩⟩;obtain⟨c,hcl2⟩:=hhas (y,.free) (Jx (hc.inn y hm)) rfl;refine⟨c,hcl2,?_⟩;rcases l with⟨l,_⟩|⟨_,c',e5,z⟩
   .rcases hout with h|h<;>(rw[h]at l;cases l)
   .have:=hcl y c hcl2;rw[e5]at this;cases this;obtain⟨o,ho,hd⟩:=z;exact⟨o,kp _ o ho,hd⟩
 cell:=fun y c e=>by obtain⟨v,o,ho,hd⟩:=I.cell y c (hcl y c e);exact⟨v,o,kp _ o ho,hd⟩
 free:=I.hok.fresh hC
 freeC:=fun y c e=>I.freeC y c (hcl y c e)
 pin:=fun p hp=>absurd (show p∈([]:List (Addr×Obj)) from hp) (by simp)
 hok:=I.hok.kept kp
 len:=by simp[be,hV,hc.len]
theorem tR {X':Cx}{pl:List (Addr×Obj)}{σ':St}{H':Hp}{s':Ls}(I:L2.Inv X pins σ H s)(hX:X'=be X scope N cl C s H ex)(hC:s.heap.objs.size<=C)(hex:∀ b∈ex,FpOk X pins H b/\b<s.heap.objs.size)
 (I':L2.Inv X' pl σ' H' s'):L2.Inv X pins σ H' s'/\FpOk X pins H' C:=by
 subst hX;refine⟨I.call' (ch:=ex) I'.os I'.base I'.hok I'.bare fun b hb=>?_,I.fpOk hC I'.free⟩;obtain⟨_,h2,h3,h4,h5,h6⟩:=(hex b hb).1;exact⟨h4,h2,h5,h6⟩
theorem rA {H:Hp}{h':Heap}(I:L2.Inv X pins σ H s)(hf:FpOk X pins H C)(sb:Heap.SameBut C s.heap h'):L2.Inv X pins σ H { s with heap:=h' }:=I.turned (t':=s.toks) (it:=C) (fun b o hb e=>(sb.2 b hb).trans e) hf.1 hf.2.1 hf.2.2.2.1 hf.2.2.2.2.1 hf.2.2.2.2.2
end
section
variable {X:Cx}{pins:List (Addr×Obj)}{σ:St}{H3:Hp}{s3:Ls}{scope:Scope}{tg:Expr}{tN:List Str}{capN:List Str}{cl:List (Str×Addr)}{C:Addr}{fp:List Addr}{elt iter:Expr}{pos:Pos}{ifs:List Expr}
def FZ (X:Cx)(ifs:List Expr)(tt:TT):Prop:=∀(pins:List (Addr×Obj))(s:Ls)(σ:St)(H:Hp)(Q:Bool->Hp->Prop),L2.Inv X pins σ H s->tt σ H Q->
 wpAny (model X.prog X.w) X.A (forIn ifs true fun c r=>if r=true then do let ok <- isTrue c X.env (eval c X.env);pure (ForInStep.yield ok) else pure (ForInStep.yield r)) (TP X pins σ Q) X.xe s
theorem yP:FZ X [] (fun _ H Q=>Q true H):=fun _ _ σ H Q I q=>wpAny_tests_nil ⟨H,I,q⟩
theorem tS {J:It}{it Dl:Addr}{tn:Nat->Heap->Prop}{X':Cx}(hX:X'=be X scope (tN++capN) cl C s3 H3 fp)(T:Turn X.prog X.w X.K tg J fp it tn)(hcalm:X.calm=true)
 {σc:St} {s4:Ls} (I4:L2.Inv X' [] (List.replicate tN.length none++σc) H3 s4) (bg:X'.N.length=tN.length+σc.length) (st4:tn 0 s4.heap) (hf:∀ b∈fp,FpOk X' [] H3 b)
 {tt:TT} {te:TE} {gt:TG} (hg:PG X' tg gt) (ht:FZ X' ifs tt) (he:PE X' elt te)
 (W:Nat->Nat->List V->Hp->Prop) (Fin:List V->Hp->Prop) (w0:∃ m,W 0 m [] H3)
 (turn:∀ i m acc H,W i m acc H->H Dl=some (.lst acc)/\((J.stop i H/\Fin acc H)\/(J.go i H/\∀ xv H' o,J.yld i H xv H'->o.length=tN.length->gt xv (o++σc) H' fun σ2 H1=>(∀ j:Nat,tN.length<=j->σ2[j]?=(o++σc)[j]?)/\tt σ2 H1 fun b H2=>if b=true then
   te σ2 H2 fun y H5=>H5 Dl=some (.lst acc)/\acc.length<sizeLine/\∃ m',m'<m/\W (i+1) m' (acc++[y]) (av H5 Dl (.lst (acc++[y]))) else ∃ m',m'<m/\W (i+1) m' acc H2)))
 (R:Result->Ls->Prop) (hR:∀ σ' H' acc s',L2.Inv X' [] σ' H' s'->H' Dl=some (.lst acc)->Fin acc H'->R (.ok .next) s') :
 codeAny (model X.prog X.w) X.A (.compLoop (.ListComp elt [⟨tg,iter,ifs,0⟩] scope pos) 0 (.ref it) (.ref Dl) (compEnvC scope cl C X.env)) R s4:=by
 obtain⟨m0,w0⟩:=w0;have eA:X'.A=X.A:=by rw[hX];rfl
 have eP:X'.prog=X.prog:=by rw[hX];rfl
 have eW:X'.w=X.w:=by rw[hX];rfl
 have eK:X'.K=X.K:=by rw[hX];rfl
 have eE:X'.env=compEnvC scope cl C X.env:=by rw[hX];rfl
 have eX:X'.xe=fun _ _=>False:=by rw[hX];rfl
 have eC:X'.calm=true:=by rw[hX];exact hcalm
 have stat:∀{H':Hp},(∀ b∈fp,H' b=none)->∀ b∈fp,FpOk X' [] H' b:=fun hn b hb=>⟨hn b hb,(hf b hb).2⟩;refine codeAny_loop rfl (fun n s=>∃ i o acc H,L2.Inv X' [] (o++σc) H s/\o.length=tN.length/\tn i s.heap/\(∀ b∈fp,H b=none)/\W i n acc H) ?_ m0 ⟨0,List.replicate tN.length none,[],H3,I4,by simp,st4,fun b hb=>(hf b hb).1,w0⟩;rintro n s5 ⟨i,o,acc,H5,I5,lo,st5,fr5,w5⟩;show wpAny _ X.A ((compTurn (.ListComp elt [⟨tg,iter,ifs,0⟩] scope pos) 0 (.ref it) (.ref Dl) (compEnvC scope cl C X.env)).onRaise (fun x=>do noteFrame x (compEnvC scope cl C X.env);theTreesLotGoes x)) _ _ s5;refine wpAny_noted ?_;rw[compTurn_list];obtain⟨hD,alt⟩:=turn i n acc H5 w5;rcases alt with⟨stop,fin⟩|⟨go,step⟩
 .refine Hs (KS (Hs (Jo (eA▸T.done X' eP eW eK eC i [] s5 _ H5 _ I5 (stat fr5) st5 stop) (fun r s6 ⟨hr,I6⟩=>?_) fun _ _ z=>z)));subst hr;exact Hw (hR _ H5 acc s6 I6 hD fin)
 .refine Hs (KS (Hs (Jo (eA▸T.item X' eP eW eK eC i [] s5 _ H5 _ I5 (stat fr5) st5 go) (fun r s6 ⟨u,hr,h6⟩=>?_) fun _ _ z=>z)));subst hr;refine Hs (Jo h6 (fun _ s7 ⟨xv,H7,I7,r7,y7,st7,fr7⟩=>?_) fun _ _ z=>z);have I7':=I7.pinned (stat fr7) (T.obj _ _ st7);have hg':=hg _ s7 _ H7 xv u _ I7' r7 (step xv H7 o y7 lo);rw[eP,eW,eA,eE,eX]at hg';refine Hs (Jo hg' (fun _ s8 ⟨σ8,H8,I8,shp,q8⟩=>?_) fun _ _ z=>z.elim);obtain⟨o2,BM,eσ⟩ : ∃ o2:St,o2.length=tN.length/\σ8=o2++σc:=by
   have l8:σ8.length=tN.length+σc.length:=I8.len.trans bg;refine⟨σ8.take tN.length,by rw[Ib];omega,?_⟩;have ed:σ8.drop tN.length=σc:=by
    apply Jq
    intro j;rw[Ju,shp (tN.length+j) (by omega),HC (by omega),lo,JF]
   rw[<- ed,HZ]
  subst eσ;have ht':=ht _ s8 _ H8 _ I8 q8;rw[eP,eW,eA,eE,eX]at ht';refine Hs (Jo ht' (fun ok s9 ⟨H9,I9,q9⟩=>?_) fun _ _ z=>z.elim);have again:∀{s':Ls}{H':Hp},L2.Inv X' ([]++ja fp s7.heap) (o2++σc) H' s'->L2.Inv X' [] (o2++σc) H' s'/\tn (i+1) s'.heap/\∀ b∈fp,H' b=none:=fun{s' H'} J'=>by refine⟨J'.unpinned,T.keep _ _ _ st7 fun b hb ob e=>(J'.pin (b,ob) (Im _ (Im _ (dB hb e)))).1,fun b hb=>?_⟩;obtain⟨ob,e,d⟩:=T.obj _ _ st7 b hb;exact(J'.pin (b,ob) (Im _ (Im _ (dB hb e)))).2.1
  cases ok with
  |false=>obtain⟨m',hm,w9⟩:=(show ∃ m',m'<n/\W (i+1) m' acc H9 from by simpa using q9);obtain⟨a1,a2,a3⟩:=again I9;exact Hw ⟨rfl,m',hm,i+1,o2,acc,H9,a1,BM,a2,a3,w9⟩
  |true=>
   have q9:te (o2++σc) H9 fun y H5=>H5 Dl=some (.lst acc)/\acc.length<sizeLine/\∃ m',m'<n/\W (i+1) m' (acc++[y]) (av H5 Dl (.lst (acc++[y]))):=by simpa using q9
   have he':=he _ s9 _ H9 _ I9 q9;rw[eP,eW,eA,eE,eX]at he';refine Hs (Hs (Jo he' (fun v s10 ⟨y,H10,I10,ry,eD,hl,m',hm,w10⟩=>?_) fun _ _ z=>z.elim));have hm':=eV (X:=X') _ s10 _ H10 (.ref Dl) [y] (.ref Dl) [v] (fun w H'=>w=.non/\H'=av H10 Dl (.lst (acc++[y]))) I10 rfl (.cons ry .nil) ⟨Dl,acc,y,rfl,rfl,eD,hl,rfl,rfl⟩;rw[eP,eW,eA,eX]at hm';refine Hs (Jo hm' (fun _ s11 ⟨w,H11,I11,_,_,eH⟩=>?_) fun _ _ z=>z.elim);subst eH;obtain⟨a1,a2,a3⟩:=again I11;exact Hw (Hw ⟨rfl,m',hm,i+1,o2,acc++[y],_,a1,BM,a2,a3,w10⟩)
end
structure CScope (X:Cx) (scope:Scope) (tN:List Str) (capN:List Str) (caps:List Nat):Prop where
 kind:scope.kind=.function
 ncell:∀ y∈scope.names,y.2≠.cell
 names:∀ y∈scope.names,y.2=.local->scope.names.lookup y.1=some .local
 own:∀ x∈tN,scope.names.lookup x=some .local
 free:∀ y∈scope.names,y.2=.free->X.env.kindOf y.1=some .cell\/X.env.kindOf y.1=some .free
 cap:Caps X scope capN caps
 nd:(tN++capN).Nodup
section
variable {X:Cx}{pins:List (Addr×Obj)}{σ:St}{H:Hp}{s:Ls}{scope:Scope}{tg:Expr}{tN:List Str}{capN:List Str}{caps:List Nat}{elt iter:Expr}{pos:Pos}{ifs:List Expr}{wi:TI}
def eh (X:Cx)(scope:Scope)(tg:Expr)(tN:List Str)(capN:List Str)(caps:List Nat)(elt:Expr)(ifs:List Expr)(σ:St)(Fin:Addr->List V->Hp->Prop)(J:It)(H2:Hp):Prop:=
 ∀(Dl:Addr),H2 Dl=none->∀(cl:List (Str×Addr))(C:Addr)(s3:Ls)(fp:List Addr),∃(gt:TG)(tt:TT)(te:TE)(W:Nat->Nat->List V->Hp->Prop),
  PG (be X scope (tN++capN) cl C s3 (av H2 Dl (.lst [])) fp) tg gt/\FZ (be X scope (tN++capN) cl C s3 (av H2 Dl (.lst [])) fp) ifs tt/\PE (be X scope (tN++capN) cl C s3 (av H2 Dl (.lst [])) fp) elt te/\(∃ m,W 0 m [] (av H2 Dl (.lst [])))/\
  ∀ i m acc H,W i m acc H->H Dl=some (.lst acc)/\((J.stop i H/\Fin Dl acc H)\/(J.go i H/\∀ xv H' (o:St),J.yld i H xv H'->o.length=tN.length->gt xv (o++hV σ caps) H' fun σ2 H1=>(∀ j:Nat,tN.length<=j->σ2[j]?=(o++hV σ caps)[j]?)/\tt σ2 H1 fun b H2=>if b=true then
   te σ2 H2 fun y H5=>H5 Dl=some (.lst acc)/\acc.length<sizeLine/\∃ m',m'<m/\W (i+1) m' (acc++[y]) (av H5 Dl (.lst (acc++[y]))) else ∃ m',m'<m/\W (i+1) m' acc H2))
theorem lu {use:Option (Lx->Sem Unit)}{Qv:Lx->Ls->Prop}{Fin:Addr->List V->Hp->Prop}(hc:X.calm=true)(S:CScope X scope tN capN caps)(I:L2.Inv X pins σ H s)(hi:PI X tg iter wi)
 (h:wi σ H (eh X scope tg tN capN caps elt ifs σ Fin))
 (hu:∀(Dl C:Addr)(acc:List V)(H':Hp)(s':Ls),L2.Inv X pins σ H' s'->FpOk X pins H' C->H' Dl=some (.lst acc)->Fin Dl acc H'->(∃ m,s'.heap.Ns C m)->compPost (model X.prog X.w) X.A X.xe use Qv (.ref Dl) C (.ok .next) s')
 (hs:autoParam (∀ x,foldedSetIterable iter X.env x=pure x) LC._auto_1) :
 wpAny (model X.prog X.w) X.A (comprehension (.ListComp elt [⟨tg,iter,ifs,0⟩] scope pos) scope X.env (firstIterPos [⟨tg,iter,ifs,0⟩] pos) (newList []) false (eval iter X.env) use) Qv X.xe s:=by
 obtain⟨cl,ecl,hcl,hhas⟩:=ko (scope:=scope) (env:=X.env) fun y hy hf=>I.ok.has y.1 (S.free y hy hf);refine wpAny_comprehension_free rfl hs ecl S.kind S.names (bn (hi pins s σ H _ I h) fun v s1 h1=>bn h1 fun itv s2 h2=>?_);obtain⟨it,fp,tn,J,H2,rfl,I2,T,st2,f2,goal⟩:=h2;refine Jz (wpAny_newFunctionEnv S.ncell (by intro y hy;simp at hy) (fun h₁ hns₁ hsb₁=>?_) S.kind);dsimp only at hns₁ hsb₁ ⊢;have hD:H2 s2.heap.objs.size=none:=I2.hok.fresh (HB _);have I3:L2.Inv X pins σ (av H2 s2.heap.objs.size (.lst [])) { s2 with heap:=s2.heap.push { cls:=.type "list",dict:=none,data:=.seq ([]:List Lx).toArray } }:=I2.laid (t':=s2.toks) (fun b u e=>Hu _ e) (HB _) ⟨Ij _,[],0,.nil,HQ _ rfl⟩;generalize hs3:({ s2 with heap:=s2.heap.push { cls:=.type "list",dict:=none,data:=.seq ([]:List Lx).toArray } }:Ls)=s3 at I3;have e3:s2.heap.push { cls:=.type "list",dict:=none,data:=.seq ([]:List Lx).toArray }=s3.heap:=by rw[<- hs3]
 rw[e3]at hns₁ hsb₁ ⊢;have kp:∀ b o,s3.heap.get? b=some o->h₁.get? b=some o:=fun b o e=>hsb₁.extBut b o (Ic (HN e)) (Hu _ e);have k23:∀ b o,s2.heap.get? b=some o->s3.heap.get? b=some o:=fun b o e=>by rw[<- e3];exact Hu _ e
 have hex:∀ b∈fp,FpOk X pins (av H2 s2.heap.objs.size (.lst [])) b/\b<s3.heap.objs.size:=fun b hb=>by obtain⟨o,ho,_⟩:=T.obj 0 _ st2 b hb;have hlt:b<s2.heap.objs.size:=HN ho;refine⟨⟨?_,(f2 b hb).2⟩,HN (k23 b o ho)⟩;rw[ac (Ic hlt)];exact(f2 b hb).1
 have es:({ s2 with heap:=h₁,toks:=s2.toks+([]:List (Str×Lx)).length }:Ls)={ s3 with heap:=h₁,toks:=s2.toks+([]:List (Str×Lx)).length }:=by rw[<- hs3]
 have I4:L2.Inv (be X scope (tN++capN) cl s3.heap.objs.size s3 (av H2 s2.heap.objs.size (.lst [])) fp) [] (List.replicate tN.length none++hV σ caps) (av H2 s2.heap.objs.size (.lst [])) { s3 with heap:=h₁,toks:=s2.toks+([]:List (Str×Lx)).length }:=v4 I3 S.kind S.ncell hcl hhas (HB _) hex S.cap kp hns₁;obtain⟨gt,tt,te,W,hg,ht,he,w0,turn⟩:=goal s2.heap.objs.size hD cl s3.heap.objs.size s3 fp;have st4:tn 0 h₁:=T.keep 0 _ _ st2 fun b hb o e=>kp b o (k23 b o e);have f4:∀ b∈fp,FpOk (be X scope (tN++capN) cl s3.heap.objs.size s3 (av H2 s2.heap.objs.size (.lst [])) fp) [] (av H2 s2.heap.objs.size (.lst [])) b:=fun b hb=>by
  obtain⟨f,hlt⟩:=hex b hb;refine⟨f.1,Ic hlt,fun hfs=>?_,.inl hb,fun y c e=>f.2.2.2.2.1 y c (hcl y c e),fun p hp=>absurd (show p∈([]:List (Addr×Obj)) from hp) (by simp)⟩;rcases HE.mp (I3.stkSub b hfs) with z|z
  .exact f.2.1 z
  .exact f.2.2.1 z
 have loop:codeAny (model X.prog X.w) X.A (.compLoop (.ListComp elt [⟨tg,iter,ifs,0⟩] scope pos) 0 (.ref it) (.ref s2.heap.objs.size) (compEnvC scope cl s3.heap.objs.size X.env)) (compPost (model X.prog X.w) X.A X.xe use Qv (.ref s2.heap.objs.size) s3.heap.objs.size)
  { s3 with heap:=h₁,toks:=s2.toks+([]:List (Str×Lx)).length }:=by
  refine tS rfl T hc I4 (by show(tN++capN).length=_;simp[hV,S.cap.len]) st4 f4 hg ht he W (Fin s2.heap.objs.size) w0 turn _ fun σ' H' acc s' I' hD' fin=>?_;obtain⟨Io,fo⟩:=tR I3 rfl (HB _) hex I';obtain⟨m',hn',_⟩:=I'.loc;exact hu _ _ acc H' s' Io fo hD' fin ⟨m',hn'⟩
 rw[es];exact codeAny_compStart_list loop (T.self _ 0 _ _ _ st4 loop)
theorem n5 {Q:VK}(hc:X.calm=true)(S:CScope X scope tN capN caps)(I:L2.Inv X pins σ H s)(hi:PI X tg iter wi)(h:wi σ H (eh X scope tg tN capN caps elt ifs σ fun Dl _ H'=>Q (.ref Dl) H'))
 (hs:autoParam (∀ x,foldedSetIterable iter X.env x=pure x) LC._auto_1):wpAny (model X.prog X.w) X.A (eval (.ListComp elt [⟨tg,iter,ifs,0⟩] scope pos) X.env) (EP X pins σ Q) X.xe s:=by
 rw[eval_ListComp];refine lu (use:=none) hc S I hi h (fun Dl C acc H' s' Io fo hD fin hn=>?_) hs;obtain⟨m,hn⟩:=hn;exact⟨m,hn,fun h' sb=>⟨.ref Dl,H',rA Io fo sb,rfl,fin⟩⟩
theorem v5 {D:Ends}{i:Nat}{y:Str}{py spos:Pos}(hc:X.calm=true)(S:CScope X scope tN capN caps)(hN:X.N.Nodup)(hi':X.N[i]?=some y)(hy:X.env.scope.names.lookup y=some .local)
 (hsw:swapsWith (.ListComp elt [⟨tg,iter,ifs,0⟩] scope pos) (some (.Name y py)) spos.line X.env=pure true) (I:L2.Inv X pins σ H s) (hi:PI X tg iter wi)
 (h:wi σ H (eh X scope tg tN capN caps elt ifs σ fun Dl _ H'=>D.nx (σ.set i (some (.ref Dl))) H')) (hs:autoParam (∀ x,foldedSetIterable iter X.env x=pure x) LC._auto_1) :
 wpAny (model X.prog X.w) X.A (exec (.Assign [.Name y py] (.ListComp elt [⟨tg,iter,ifs,0⟩] scope pos) spos) X.env) (SP X pins D) X.xe s:=by
 rw[exec_Assign_Name_used _ _ _ _ hsw];refine Hs (KS (Hs ?_));show wpAny _ X.A (do let _ <- comprehension (.ListComp elt [⟨tg,iter,ifs,0⟩] scope pos) scope X.env _ (newList []) false (eval iter X.env) (some (assign (.Name y py) X.env))) _ _ s;refine Hs (Jo (lu (use:=some (assign (.Name y py) X.env)) (Qv:=fun _ s'=>SP X pins D .next s') hc S I hi h (fun Dl C acc H' s' Io fo hD fin hn=>?_) hs) (fun _ s' hq=>Hw (Hw hq)) fun _ _ e=>e);obtain⟨m,hn⟩:=hn;show wpAny _ X.A (assign (.Name y py) X.env (.ref Dl)) _ _ _;refine wpAny_assign_Name (kG (v:=.ref Dl) Io hN hi' (.inl hy) rfl (fun s'' I'' ⟨a,sb,ha⟩=>?_) (.inr hy));have nca:C≠a:=by
  rcases ha with z|z
  .rw[z];exact fo.2.1
  .exact Jb (fo.2.2.2.2.1 y a z)
 refine⟨m,hn.sameBut sb nca,fun h' sb'=>?_⟩;exact⟨_,H',rA I'' fo sb',fin⟩
end
noncomputable def Res.noX {α:Type}:Res α->Res α
 | .exc _=>.stuck
 |r=>r
def yQ (env:En)(j:Nat):Option Sl:=match env[j]? with
 |some (some (.val d fr))=>some (.val d fr)
 |some (some (.own ds fr))=>some (.val (.lst ds) fr)
 |some (some (.tre d))=>some (.val d true)
 |some (some (.pin d))=>some (.val d true)
 |some (some (.dis d))=>some (.val d true)
 |some (some (.fix _ (.tr d)))=>some (.val d true)
 |some (some (.fix _ (.ds d)))=>some (.val d true)
 |_=>none
def dt (env:En)(n:Nat)(caps:List Nat):En:=List.replicate n none++caps.map (yQ env)
def cJ (mk:D->Option En)(test:En->Res Bool)(elt:En->Res R):List D->Res (List R)
 | []=>.ok []
 |x::xs=>match mk x with
  |none=>.stuck
  |some e=>(test e).bind fun b=>if b then (elt e).bind fun r=>(cJ mk test elt xs).bind fun rs=>.ok (r::rs) else cJ mk test elt xs
def eB (n:Nat)(caps:List Nat)(src:En->Res Src)(asg:D->Bool->En->Option En)(test:En->Res Bool)(elt:En->Res R):En->Res R:=fun env=>(src env).bind fun s=>if s.xs.length<=lim then
 (cJ (fun d=>asg d s.fr (dt env n caps)) test elt s.xs).noX.bind fun rs=>.ok (f_ (rs.map R.d) (aL rs) (s.al++caps.filter (isOwn env))) else .stuck
def tU (X:Cx)(E:XK)(ifs:List Expr)(f:En->Res Bool):Prop:=∃ t,FZ X ifs t/\SndT X.mg E t f
section
variable {X:Cx}{E:XK}
theorem bp:tU X E [] (fun _=>.ok true):=⟨_,yP,fun g M ρ env σ H Q rep p=>p M H (Ext.refl _ _) rep⟩
end
section
variable {g:Gd}{M M1:Addr->Prop}{ρ:Pr}{env:En}{σ:St}{H H1:Hp}
theorem EE {n:Nat}{caps:List Nat}{M':Addr->Prop}{o:St}(rep:Rep g M1 ρ env σ H1)(s:Same H1 H)(ho:o.length=n)(hM:∀ a,(M1 a\/∃ i,i∈caps/\ρ i a)->M' a)(hf:∀ a,M' a->H a≠none)(hi:∀ a,M' a->g.H₀ a=none\/g.Ma a)(hfl:∀ a,M' a->g.H₀ a=none->MuZ g H a) :
 Rep g M' (fun _ _=>False) (dt env n caps) (o++hV σ caps) H where
 same:=rep.same.trans s
 froz:=hf
 inn:=hi
 fl:=hfl
 slot:=fun i sl e=>by
  by_cases hlt:i<n
  .unfold dt at e;rw[HK (by simpa using hlt),JY,Hx hlt]at e;cases e
  .obtain⟨k,rfl⟩ : ∃ k,i=n+k:=⟨i-n,by omega⟩;have e:(caps.map (yQ env))[k]?=some (some sl):=by
    unfold dt at e
    rwa [HC (by simp),KH,JF]at e
   rw[Ip]at e;cases q:caps[k]? with
   |none=>rw[q]at e;cases e
   |some j=>
    rw[q]at e;have e:yQ env j=some sl:=by simpa using e
    have hj:j∈caps:=Jv q;unfold yQ at e;cases q2:env[j]? with
    |none=>rw[q2]at e;cases e
    |some o=>
     cases o with
     |none=>rw[q2]at e;cases e
     |some sl0=>
      obtain⟨v,ev,k2⟩:=rep.slot j sl0 q2;have el:(o++hV σ caps)[n+k]?=some (some v):=by rw[HC (by omega),ho,JF];unfold hV;rw[Ip,q];simp[ev]
      rw[q2]at e;cases sl0 with
      |val d' fr'=>cases e;exact⟨v,el,Is.mono (fun a o q _=>s a o q) (fun a _ _ z=>⟨hM a (.inl z.1),z.2⟩) k2⟩
      |own ds' fr'=>cases e;obtain⟨a,vs,rfl,h1,h2,h4⟩:=k2;have ha:=(h2 a).mpr rfl;exact⟨_,el,a,vs,rfl,.inl ⟨s _ _ h1,hM a (.inr ⟨j,hj,ha⟩),fun _=>(rep.priv j a ha).2.1⟩,IsAll.mono (fun a o q _=>s a o q) (fun a _ _ z=>⟨hM a (.inl z.1),z.2⟩) h4⟩
      |tre d'=>cases e;exact⟨v,el,Is.mono (fun a o q _=>s a o q) (fun a _ _ z=>⟨hM a (.inr ⟨j,hj,z⟩),fun _=>(rep.priv j a z).2.1⟩) k2⟩
      |mes d'=>cases e
      |kon a'=>cases e
      |pin d'=>cases e;exact⟨v,el,Is.mono (fun a o q _=>s a o q) (fun a _ _ z=>⟨hM a (.inr ⟨j,hj,z⟩),fun _=>(rep.priv j a z).2.1⟩) k2.1⟩
      |dis d'=>cases e;exact⟨v,el,Is.mono (fun a o q _=>s a o q) (fun a _ _ z=>⟨hM a (.inr ⟨j,hj,z⟩),fun _=>(rep.priv j a z).2.1⟩) k2.1⟩
      |fix n q0=>
       cases q0 with
       |no=>cases e
       |tr d'=>cases e;exact⟨v,el,Is.mono (fun a o q _=>s a o q) (fun a _ _ z=>⟨hM a (.inr ⟨j,hj,z⟩),fun _=>(rep.priv j a z).2.1⟩) k2.2⟩
       |ds d'=>cases e;exact⟨v,el,Is.mono (fun a o q _=>s a o q) (fun a _ _ z=>⟨hM a (.inr ⟨j,hj,z⟩),fun _=>(rep.priv j a z).2.1⟩) k2.2.1⟩
 priv:=fun _ _ z=>z.elim
 apart:=fun _ _ _ z=>z.elim
 ow:=fun _ _ z=>z.elim
 len:=by simp[dt,hV,ho]
 zz:=fun a z e=>rep.zz a z (s.free e)
end
noncomputable def rB (X:Cx)(scope:Scope)(tg:Expr)(tN:List Str)(capN:List Str)(caps:List Nat)(elt:Expr)(ifs:List Expr)(wi:TI):TE:=fun σ H Q=>wi σ H (eh X scope tg tN capN caps elt ifs σ fun Dl _ H'=>Q (.ref Dl) H')
section
variable {X:Cx}{E:XK}{scope:Scope}{tg:Expr}{tN:List Str}{capN:List Str}{caps:List Nat}{ix:List Nat}{asg:D->Bool->En->Option En}{elt iter:Expr}{pos:Pos}{ifs:List Expr}{wi:TI}{src:En->Res Src}{ft:En->Res Bool}{fe:En->Res R}
theorem hW {g:Gd}{M1:Addr->Prop}{ρ:Pr}{env:En}{σ:St}{H1:Hp}{Q:VK}{J:It}{s:Src}{full:List R}(hix:∀ j∈ix,j<tN.length)(hg:∀ cl C s3 H3 fp,xU (be X scope (tN++capN) cl C s3 H3 fp) ix tg asg)(ht:∀ cl C s3 H3 fp,tU (be X scope (tN++capN) cl C s3 H3 fp) E0 ifs ft)(he:∀ cl C s3 H3 fp,PD (be X scope (tN++capN) cl C s3 H3 fp) E0 elt fe)(rep1:Rep g M1 ρ env σ H1)(wk:Walk J (vmsk g M1 s.fr ρ s.al) H1 s.xs)(hlim:s.xs.length<=lim)(qc:cJ (fun d=>asg d s.fr (dt env tN.length caps)) ft fe s.xs=.ok full)
 (p:PostE X.mg E g M1 ρ env σ H1 Q (.ok (f_ (full.map R.d) (aL full) (s.al++caps.filter (isOwn env))))):eh X scope tg tN capN caps elt ifs σ (fun Dl _ H'=>Q (.ref Dl) H') J H1:=by
 intro Dl hDl cl C s3 fp;obtain⟨gt,pg,sg⟩:=hg cl C s3 (av H1 Dl (.lst [])) fp;obtain⟨tt,pt,st⟩:=ht cl C s3 (av H1 Dl (.lst [])) fp;obtain⟨te,pe,se⟩:=he cl C s3 (av H1 Dl (.lst [])) fp;obtain⟨d0,dm,dow⟩:=rep1.free hDl;refine⟨gt,tt,te,fun i m acc H=>m=s.xs.length-i/\i<=s.xs.length/\∃(M':Addr->Prop)(rs aW:List R),Same H1 H/\H Dl=some (.lst acc)/\(∀ a,(M1 a\/∃ j,j∈s.al++caps/\ρ j a)->M' a)/\
  (∀ a,M' a->(M1 a\/∃ j,j∈s.al++caps/\ρ j a)\/H1 a=none)/\¬ M' Dl/\(∀ a,M' a->H a≠none)/\(∀ a,M' a->g.H₀ a=none->MuZ g H a)/\rs.length<=i/\IsAll H (msk g M' (aL rs)) (rs.map R.d) acc/\cJ (fun d=>asg d s.fr (dt env tN.length caps)) ft fe (s.xs.drop i)=.ok aW/\full=rs++aW,
  pg,pt,pe,⟨_,rfl,Ij _,(fun a=>M1 a\/∃ j,j∈s.al++caps/\ρ j a),[],full,aQ hDl,ag,fun _ z=>z,fun _ z=>.inl z,?_,?_,?_,HB _,rfl,qc,rfl⟩,?_⟩
 .rintro (z|⟨j,_,z⟩)
  .exact dm z
  .exact dow j z
 .rintro a (z|⟨j,_,z⟩) hn
  .exact rep1.froz a z ((aQ hDl).free hn)
  .obtain⟨_,_,uo,hz,_⟩:=rep1.priv j a z;rw[(aQ hDl) a _ hz]at hn;cases hn
 .rintro a (z|⟨j,_,z⟩) h0
  .exact(rep1.fl a z h0).same fun o e=>aQ hDl _ _ e
  .exact .inl ((rep1.priv j a z).2.2.same fun o e=>aQ hDl _ _ e)
 .rintro i m acc H2 ⟨rfl,hle,M',rs,aW,sm,hD2,hMi,hMo,nD,frz2,fl2,hrs,isA,qr,efull⟩;refine⟨hD2,?_⟩;have kp:∀ a o,H1 a=some o->(vmsk g M1 s.fr ρ s.al a\/fixd o)->H2 a=some o:=fun a o e _=>sm a o e;have inn2:∀{M'':Addr->Prop}{a:Addr},(M1 a\/∃ j,j∈s.al++caps/\ρ j a)\/H1 a=none->g.H₀ a=none\/g.Ma a:=fun{M'' a} z=>by
   rcases z with(z|⟨j,_,z⟩)|z
   .exact rep1.inn a z
   .exact .inl (rep1.priv j _ z).2.1
   .exact .inl (rep1.same.free z)
  by_cases hlt:i<s.xs.length
  .have ed:s.xs[i]?=some s.xs[i]:=by simp[hlt]
   obtain⟨go,yl⟩:=wk.go H2 i _ kp ed;refine .inr ⟨go,fun xv H3 o y lo=>?_⟩;obtain⟨s23,isx⟩:=yl xv H3 y;have edrop:s.xs.drop i=s.xs[i]::s.xs.drop (i+1):=IX hlt;rw[edrop]at qr;unfold cJ at qr;have isx':Is H3 (msk g M' s.fr) s.xs[i] xv:=isx.weak fun a z=>by
    rcases z with z|⟨j,hj,z⟩
    .exact⟨hMi a (.inl z.1),z.2⟩
    .exact⟨hMi a (.inr ⟨j,by simp[hj],z⟩),fun _=>(rep1.priv j _ z).2.1⟩
   have repI:Rep g M' (fun _ _=>False) (dt env tN.length caps) (o++hV σ caps) H3:=EE rep1 (sm.trans s23) lo (fun a z=>hMi a (z.imp id fun⟨j,hj,w⟩=>⟨j,by simp[hj],w⟩)) (fun a z hn=>frz2 a z (s23.free hn)) (fun a z=>inn2 (M'':=M') (hMo a z)) (fun a z h0=>(fl2 a z h0).same fun o e=>s23 _ _ e);cases qa:asg s.xs[i] s.fr (dt env tN.length caps) with
   |none=>simp only[qa]at qr;cases qr
   |some envT=>
   simp only[qa]at qr;refine sg g M' _ _ envT _ H3 _ s.fr xv _ repI isx' qa fun σ2 ρ2 repT shp nρ=>⟨fun j hj=>shp j fun z=>absurd (hix j z) (by omega),?_⟩;refine st g M' ρ2 _ _ H3 _ repT ?_;cases qt:ft envT with
   |stuck=>rw[qt]at qr;cases qr
   |exc c=>rw[qt]at qr;cases qr
   |ok b=>
    rw[qt]at qr;intro M4 H4 e4 rep4;cases b with
    |false=>refine s_ ⟨s.xs.length-(i+1),by omega,rfl,hlt,M',rs,aW,(sm.trans s23).trans e4.h,e4.h _ _ (s23 _ _ hD2),hMi,hMo,nD,fun a z hn=>frz2 a z (s23.free (e4.h.free hn)),fun a z h0=>(fl2 a z h0).same fun o e=>e4.h _ _ (s23 _ _ e),by omega,?_,by simpa using qr,efull⟩;exact IsAll.same e4.h (IsAll.same s23 isA)
    |true=>
     refine tf ?_;simp only[Res.bind_ok,JJ]at qr;refine se g M4 ρ2 _ _ H4 _ rep4 ?_;cases qe:fe envT with
     |stuck=>rw[qe]at qr;cases qr
     |exc c=>rw[qe]at qr;cases qr
     |ok r=>
      rw[qe]at qr;simp only[Res.bind_ok]at qr;cases qd:cJ (fun d=>asg d s.fr (dt env tN.length caps)) ft fe (s.xs.drop (i+1)) with
      |stuck=>rw[qd]at qr;cases qr
      |exc c=>rw[qd]at qr;cases qr
      |ok rest'=>
       rw[qd]at qr;have qr:r::rest'=aW:=by simpa using qr
       intro yv M5 H5 e5 rep5 ro;obtain⟨M6,e6,m56,rep6,is6⟩:=ro.is rep5 e5 rep4.same;have D3:H3 Dl=some (.lst acc):=s23 _ _ hD2;have D4:H4 Dl=some (.lst acc):=e4.h _ _ D3;have D5:H5 Dl=some (.lst acc):=e5.h _ _ D4;have nD4:¬ M4 Dl:=fun z=>(e4.n Dl z).elim nD fun w=>by rw[D3]at w;cases w
       have nD6:¬ M6 Dl:=fun z=>(e6.n Dl z).elim nD4 fun w=>by rw[D4]at w;cases w
       have M46:∀ a,M4 a->M6 a:=e6.m;have up:∀ a o,H5 a=some o->a≠Dl->av H5 Dl (.lst (acc++[yv])) a=some o:=fun a o e n=>by rw[ac n];exact e
       have kp5:∀(fr:Bool) a o,H5 a=some o->(msk g M6 fr a\/fixd o)->av H5 Dl (.lst (acc++[yv])) a=some o:=fun fr a o e z=>up a o e fun w=>by
        subst w;rcases z with z|z
        .exact nD6 z.1
        .rw[D5]at e;cases e;exact z
       refine⟨D5,?_,s.xs.length-(i+1),by omega,rfl,hlt,M6,rs++[r],rest',?_,ag,fun a z=>M46 a (e4.m a (hMi a z)),fun a z=>?_,nD6,fun a z=>?_,fun a z h0=>?_,by simp;omega,?_,qd,by rw[efull,<- qr];simp⟩
       .have:acc.length=rs.length:=by rw[isA.length,HA]
        exact hI (by omega)
       .intro b o e;exact up b o (e5.h _ _ (e4.h _ _ (s23 _ _ (sm _ _ e)))) (aH e hDl)
       .rcases e6.n a z with z|z
        .rcases e4.n a z with z|z
         .exact hMo a z
         .exact .inr (sm.free (s23.free z))
        .exact .inr (sm.free (s23.free (e4.h.free z)))
       .by_cases hw:a=Dl
        .rw[hw,ag];simp
        .rw[ac hw];exact rep6.froz a z
       .have hw:a≠Dl:=fun e=>nD6 (e▸z);exact(rep6.fl a z h0).same fun o e=>by rw[ac hw];exact e
       .rw[IU];refine IsAll.append ?_ ⟨yv,[],rfl,?_,rfl⟩
        .have i5:IsAll H5 (msk g M' (aL rs)) (rs.map R.d) acc:=((isA.same s23).same e4.h).same e5.h;refine(i5.weak fun a z=>(⟨M46 a (e4.m a z.1),fun e=>z.2 (by simp[aL]at e ⊢;exact e.1)⟩ : msk g M6 (aL (rs++[r])) a)).mono (kp5 _) fun _ _ _ z=>z
        .refine(is6.weak fun a z=>?_:Is H5 (msk g M6 (aL (rs++[r]))) r.d yv).mono (kp5 _) fun _ _ _ z=>z;rcases z with z|⟨j,_,z⟩
         .exact⟨z.1,fun e=>z.2 (by simp[aL]at e;exact e.2)⟩
         .exact(nρ _ _ z).elim
  .have ei:i=s.xs.length:=by omega
   subst ei;refine .inl ⟨wk.stop H2 kp,?_⟩;rw[KQ]at qr;unfold cJ at qr;cases qr;rw[IS]at efull;subst efull;have RM:Rep g (fun a=>M1 a\/(nl H1 H2 a/\M' a)) ρ env σ H2:=rep1.came sm M';have XM:Ext M1 H1 (fun a=>M1 a\/(nl H1 H2 a/\M' a)) H2:=⟨fun _=>.inl,sm,fun _ z=>z.imp id (·.1.1)⟩;have nDl:¬ (M1 Dl\/(nl H1 H2 Dl/\M' Dl)):=fun z=>z.elim dm fun z=>nD z.2;have nwD:∀ b,V.ref Dl=.ref b->H1 b=none:=fun b e=>by cases e;exact hDl
   unfold f_ at p;by_cases hfl:D.flats (full.map R.d)=true
   .rw[Hx hfl]at p;exact p _ _ H2 XM RM ⟨Dl,acc,rfl,hD2,nDl,hDl,dow,IsAll.flat hfl isA⟩
   .rw[Hz hfl]at p;by_cases hal:(s.al++caps.filter (isOwn env)).isEmpty=true
    .rw[Hx hal]at p;refine p _ _ H2 XM RM ⟨Dl,acc,rfl,hD2,nDl,hDl,dow,isA.weak fun a z=>⟨?_,z.2⟩⟩;rcases hMo a z.1 with(w|⟨j,hj,w⟩)|w
     .exact .inl w
     .exfalso;have he:s.al++caps.filter (isOwn env)=[]:=by simpa using hal
      rcases H_.mp hj with hj|hj
      .have:j∈s.al++caps.filter (isOwn env):=Ia _ hj;rw[he]at this;simp at this
      .have:j∈s.al++caps.filter (isOwn env):=Im _ (J_.mpr ⟨hj,rep1.ow j a w⟩);rw[he]at this;simp at this
     .exact .inr ⟨⟨w,(fl2 a z.1 (rep1.same.free w)).elim id fun q=>(rep1.zz a q.1 w).elim⟩,z.1⟩
    .rw[Hz hal]at p;refine p _ (fun a=>(M1 a\/(nl H1 H2 a/\M' a))\/a=Dl) H2 ⟨fun _ z=>.inl (.inl z),sm,fun a z=>z.elim (XM.n a) fun e=>.inr (e▸hDl)⟩ (RM.more hD2 d0 dow) ⟨Dl,acc,rfl,.inl ⟨hD2,.inl ⟨.inr rfl,fun _=>d0⟩⟩,isA.weak fun a z=>?_⟩;rcases hMo a z.1 with(w|⟨j,hj,w⟩)|w
     .exact .inl ⟨.inl (.inl w),z.2⟩
     .refine .inr ⟨j,?_,w⟩;rcases H_.mp hj with hj|hj
      .exact Ia _ hj
      .exact Im _ (J_.mpr ⟨hj,rep1.ow j a w⟩)
     .exact .inl ⟨.inl (.inr ⟨⟨w,(fl2 a z.1 (rep1.same.free w)).elim id fun q=>(rep1.zz a q.1 w).elim⟩,z.1⟩),z.2⟩
theorem n6 (si:EC X.mg E wi src)(hix:∀ j∈ix,j<tN.length)(hg:∀ cl C s3 H3 fp,xU (be X scope (tN++capN) cl C s3 H3 fp) ix tg asg)(ht:∀ cl C s3 H3 fp,tU (be X scope (tN++capN) cl C s3 H3 fp) E0 ifs ft)(he:∀ cl C s3 H3 fp,PD (be X scope (tN++capN) cl C s3 H3 fp) E0 elt fe) :
 Snd X.mg E (rB X scope tg tN capN caps elt ifs wi) (eB tN.length caps src asg ft fe):=by
 intro g M ρ env σ H Q rep p;refine si g M ρ env σ H _ rep ?_;unfold eB at p;cases q:src env with
 |stuck=>rw[q]at p;exact p
 |exc c=>rw[q]at p;exact p
 |ok s=>
  rw[q]at p;simp only[Res.bind_ok]at p;intro J M1 H1 e1 rep1 wk Dl hDl cl C s3 fp;by_cases hlim:s.xs.length<=lim
  .rw[Hx hlim]at p;cases qc:cJ (fun d=>asg d s.fr (dt env tN.length caps)) ft fe s.xs with
   |stuck=>rw[qc]at p;exact p.elim
   |exc c=>rw[qc]at p;exact p.elim
   |ok full=>rw[qc]at p;have p:PostE X.mg E g M1 ρ env σ H1 Q (.ok (f_ (full.map R.d) (aL full) (s.al++caps.filter (isOwn env)))):=PostE.ext e1 p;exact hW hix hg ht he rep1 wk hlim qc p Dl hDl cl C s3 fp
  .rw[Hz hlim]at p;exact p.elim
theorem iZ (hc:X.calm=true)(S:CScope X scope tN capN caps)(hi:DJ X E tg iter src)(hix:∀ j∈ix,j<tN.length)(hg:∀ cl C s3 H3 fp,xU (be X scope (tN++capN) cl C s3 H3 fp) ix tg asg)(ht:∀ cl C s3 H3 fp,tU (be X scope (tN++capN) cl C s3 H3 fp) E0 ifs ft)(he:∀ cl C s3 H3 fp,PD (be X scope (tN++capN) cl C s3 H3 fp) E0 elt fe)
 (hs:autoParam (∀ x,foldedSetIterable iter X.env x=pure x) LC._auto_1):PD X E (.ListComp elt [⟨tg,iter,ifs,0⟩] scope pos) (eB tN.length caps src asg ft fe):=by
 obtain⟨wi,p1,s1⟩:=hi;exact⟨rB X scope tg tN capN caps elt ifs wi,fun pins s σ H Q I h=>n5 hc S I p1 h hs,n6 s1 hix hg ht he⟩
theorem jz {i:Nat}{y:Str}{py spos:Pos}(hc:X.calm=true)(S:CScope X scope tN capN caps)(hN:X.N.Nodup)(hi':X.N[i]?=some y)(hy:X.env.scope.names.lookup y=some .local)
 (hi:DJ X E tg iter src) (hix:∀ j∈ix,j<tN.length) (hg:∀ cl C s3 H3 fp,xU (be X scope (tN++capN) cl C s3 H3 fp) ix tg asg) (ht:∀ cl C s3 H3 fp,tU (be X scope (tN++capN) cl C s3 H3 fp) E0 ifs ft) (he:∀ cl C s3 H3 fp,PD (be X scope (tN++capN) cl C s3 H3 fp) E0 elt fe)
 (hsw:autoParam (swapsWith (.ListComp elt [⟨tg,iter,ifs,0⟩] scope pos) (some (.Name y py)) spos.line X.env=pure true) LF._auto_1) (hs:autoParam (∀ x,foldedSetIterable iter X.env x=pure x) LC._auto_1) :
 j7 X E (.Assign [.Name y py] (.ListComp elt [⟨tg,iter,ifs,0⟩] scope pos) spos) (bL i (eB tN.length caps src asg ft fe)):=by
 obtain⟨wi,p1,s1⟩:=hi;exact⟨x8 (rB X scope tg tN capN caps elt ifs wi) (ii i),fun pins s σ H D I h=>v5 hc S hN hi' hy hsw I p1 h hs,rn (n6 s1 hix hg ht he)⟩
end
def fZ (N:List Str)(ds:List D):En:=ds.map (fun d=>some (.val d false))++List.replicate (N.length-ds.length) none
def lw:Res Fl->Res R
 | .ok (.nx _)=>.ok (.val .non true [])
 | .ok (.rt r)=>.ok r
 | .ok _=>.stuck
 | .exc c=>.exc c
 | .stuck=>.stuck
def eF (N:List Str)(FB:En->Res Fl)(ds:List D):Res R:=lw (FB (fZ N ds))
theorem bj {X:Cx}{E:XK}:lR kc X E:=fun _ _ _ _ _ _ _ h=>h.elim
theorem tV {H:Hp}{Ma:Addr->Prop}{ds:List D}{vs:List V}{N:List Str}(is:IsAll H Ma ds vs):Rep (Ew H Ma) (fun a=>Ma a/\H a≠none) (fun _ _=>False) (fZ N ds) (L2.dO N vs) H where
 same:=Same.refl H
 froz:=fun a z=>z.2
 inn:=fun a z=>.inr z.1
 fl:=fun a z h=>absurd h z.2
 slot:=fun i sl e=>by
  have hl:=is.length;unfold fZ at e;by_cases hi:i<ds.length
  .rw[HK (by simpa using hi),Ip]at e;obtain⟨v,ev,iv⟩:=is.get (i:=i) (d:=ds[i]) (by simp[hi]);have e1:ds[i]?=some ds[i]:=by simp[hi]
   rw[e1]at e;cases e;refine⟨v,?_,Is.mono (fun _ _ q _=>q) (fun a o q z=>⟨⟨z,by rw[q];simp⟩,fun z=>by cases z⟩) iv⟩;unfold L2.dO;rw[HK (by simp;omega),Ip,ev];rfl
  .rw[HC (by simpa using hi),JY]at e;split at e<;>cases e
 priv:=fun _ _ z=>z.elim
 apart:=fun _ _ _ z=>z.elim
 ow:=fun _ _ z=>z.elim
 len:=by have hl:=is.length;unfold fZ L2.dO;simp[hl]
 zz:=fun _ z=>z.elim
section
variable {P:Lw}{w:World}{K:Lu}{mg:Str->Option Lx}{base:Heap}
theorem c9 {x qual:Str}{st:Stmt}{f:Addr}{fd:FuncData}{N ps:List Str}{k:Nat}{FB:En->Res Fl}(F:Fun K x qual st f fd)(S:FnScope N ps (defScope st))
 (body:∀(cdv:Lx)(A:Ly)(outer:List Env)(s:Ls)(H:Hp)(E:XK),Room k (A.deeper (envOfC qual (defScope st) s.heap.objs.size f cdv))->kn (pf kc P w K mg base N qual (defScope st) f cdv A outer s H E).nox E (defBody st) FB) :
 FnOk P w K mg base kc (k+1) f fd ps (m_ mg ps.length (eF N FB)):=by
 refine F.ok S (fun vs H Q E h=>h.1) (fun cdv A outer s H vs Q E hr h=>?_);obtain⟨hl,ds,Ma,is,post⟩:=h;obtain⟨t,p1,s1⟩:=body cdv A outer s H E hr;refine⟨t,p1,s1 (Ew H Ma) _ _ (fZ N ds) (L2.dO N vs) H _ (tV is) ?_⟩;unfold eF at post;cases q:FB (fZ N ds) with
 |stuck=>rw[q]at post;exact post
 |exc c=>rw[q]at post;exact post
 |ok r=>
  rw[q]at post;cases r with
  |nx env=>exact fun σ M' ρ' H' _ rep=>post .non H' rep.same rfl
  |rt r=>exact fun v M' H' _ s ro _=>post v H' s (ro fun _ z=>z)
  |rm r env=>exact post.elim
  |bk env=>exact post.elim
  |ct env=>exact post.elim
end
section
variable {X:Cx}{E:XK}
theorem yR:SlR X (fun x lo hi H Q=>∃ a xs,x=.ref a/\SqT X.K H a xs/\(HT.sIx xs.length 0 lo=0/\HT.sIx xs.length xs.length hi=xs.length)/\Q x H):=by
 intro pins s σ H x v vl vu lo hi sl Q I rx hs pl pu h;obtain⟨a,xs,rfl,hx,hw,q⟩:=h;cases rx;obtain⟨its,r,ht,hz⟩:=I.tuple hx;have bg:its.toArray.size=xs.length:=by rw[Hy];exact r.length.symm
 refine⟨"tuple",_,IN.lookup,ht.typeIs,?_⟩;obtain⟨os,hos,hcs,hds⟩:=id hs;have hTs:s.TypeIs (.ref sl) "slice":=⟨os,hos,hcs⟩;unfold getItem
 try with_reducible refine Iz ?_
 first|refine Hs (Hw ?_)|skip
 refine Hs (wpAny_sequenceKey ht.typeIs (by decide) ?_);refine Hs (JZ (name:=Str.ofString "__getitem__") ht.typeIs IN
  (Jl IN ht.typeIs entry_tuple_getitem ?_ (args_tuple_getitem _ _)))
 show wpAny _ _ (Builtin.Tuple.tupleItemsOf (.ref a) >>= _) _ _ s;refine Hs (tupleItemsOf_ ht ?_);refine Hs (KI hTs ?_);rw[Hx (by decide)];refine Hs (HT.sliceApplied_gen hs pl pu ?_);have hyes:((((HT.sIx its.toArray.size 0 lo:Nat):Int)==0&&(1:Int)==1&&(HT.sIx its.toArray.size its.toArray.size hi-HT.sIx its.toArray.size 0 lo)==its.toArray.size)=true):=by rw[bg,hw.1,hw.2];simp
 show wpAny _ _ (if (((HT.sIx its.toArray.size 0 lo:Nat):Int)==0&&(1:Int)==1&&(HT.sIx its.toArray.size its.toArray.size hi-HT.sIx its.toArray.size 0 lo)==its.toArray.size)=true then _ else _) _ _ s;rw[Hx hyes];have fin:EP X pins σ Q (.ref a) s:=⟨.ref a,H,I,rfl,q⟩;refine Hs (m:=Builtin.Tuple.tupleIsExact (.ref a)) ?_;unfold Builtin.Tuple.tupleIsExact;refine Hs (KI ht.typeIs ?_);refine Hw ?_;rw[Hx (by decide)];exact Hs (Le (Hw ⟨_,rfl,Hw fin⟩))
def dH {α:Type}(xs:List α)(lo hi:Option Int):List α:=(xs.drop (HT.sIx xs.length 0 lo)).take (HT.sIx xs.length xs.length hi-HT.sIx xs.length 0 lo)
theorem IsAll.cut {H:Hp}{m:Addr->Prop}{ds:List D}{vs:List V}(h:IsAll H m ds vs)(lo hi:Option Int):IsAll H m (dH ds lo hi) (nu vs lo hi):=by unfold dH nu;rw[h.length];exact(h.drop _).take _
noncomputable def AR (mg:Str->Option Lx)(E:XK)(g:Gd)(M:Addr->Prop)(ρ:Pr)(env:En)(σ:St)(H:Hp)(Q:Option Int->Hp->Prop):Res (Option Int)->Prop
 | .stuck=>False
 | .exc c=>yI mg E g c
 | .ok o=>∀ M' H',Ext M H M' H'->Rep g M' ρ env σ H'->Q o H'
def GD (X:Cx)(E:XK)(e:Option Expr)(f:En->Res (Option Int)):Prop:=∃ t,PO X e t/\∀ g M ρ env σ H Q,Rep g M ρ env σ H->AR X.mg E g M ρ env σ H Q (f env)->t σ H Q
def rC (f:En->Res R):En->Res (Option Int):=fun env=>(f env).bind fun r=>match r.d with
 | .int i=>.ok (some i)
 |_=>.stuck
theorem n8 {e:Expr}{f:En->Res R}(h:PD X E e f):GD X E (some e) (rC f):=by
 obtain⟨t,p1,s1⟩:=h;refine⟨_,ye p1,fun g M ρ env σ H Q rep p=>s1.one rep (P:=fun M H r=>AR X.mg E g M ρ env σ H Q r) p (fun _ _ z=>z) (fun _ _ _ z=>z) (fun M H M' H' r e p=>?_) fun r v M1 H1 e1 rep1 is q=>?_⟩
 .cases r with
  |stuck=>exact p
  |exc c=>exact p
  |ok o=>exact fun M2 H2 e2=>p M2 H2 (e.trans e2)
 .cases z:r.d with
  |int i=>rw[z]at is;simp only[z]at q;cases is;exact⟨i,rfl,q M1 H1 (Ext.refl _ _) rep1⟩
  |_=>simp only[z]at q;exact q.elim
def mD (r:R)(lo hi:Option Int):Res R:=match r.d with
 | .lst xs=>.ok (f_ (dH xs lo hi) r.fr r.al)
 | .tup xs=>.ok (mkV (.tup (dH xs lo hi)) r.fr r.al)
 |_=>.stuck
def p_ (fa:En->Res R)(fl fh:En->Res (Option Int)):En->Res R:=fun env=>(fa env).bind fun r=>(fl env).bind fun lo=>(fh env).bind fun hi=>mD r lo hi
theorem v6 {e:Expr}{lo hi:Option Expr}{fa:En->Res R}{fl fh:En->Res (Option Int)}{p2 pos:Pos}(ha:PD X E e fa)(hl:GD X E lo fl)(hh:GD X E hi fh):PD X E (.Subscript e (.Slice lo hi none p2) pos) (p_ fa fl fh):=by
 obtain⟨ta,p1,s1⟩:=ha;obtain⟨tl,p2,s2⟩:=hl;obtain⟨th,p3,s3⟩:=hh;refine⟨_,uY (sl_list.or (sl_tup.or yR)) p1 p2 p3,fun g M ρ env σ H Q rep p=>s1.oneE rep p fun r v M1 H1 e1 rep1 is q=>?_⟩;refine s2 g M1 ρ env σ H1 _ rep1 ?_;cases z1:fl env with
 |stuck=>rw[z1]at q;exact q
 |exc c=>rw[z1]at q;exact q
 |ok lo'=>
  rw[z1]at q;intro M2 H2 e2 rep2;have q2:PostE X.mg E g M2 ρ env σ H2 Q ((fh env).bind fun hi=>mD r lo' hi):=PostE.ext e2 q;refine s3 g M2 ρ env σ H2 _ rep2 ?_;cases z2:fh env with
  |stuck=>rw[z2]at q2;exact q2
  |exc c=>rw[z2]at q2;exact q2
  |ok hi'=>
   rw[z2]at q2;intro M3 H3 e3 rep3;have q3:PostE X.mg E g M3 ρ env σ H3 Q (mD r lo' hi'):=PostE.ext e3 q2;have is3:=(is.ext e2).ext e3;unfold mD at q3;cases z:r.d with
   |lst xs=>rw[z]at q3 is3;obtain⟨a,vs,rfl,h1,h2⟩:=is3.rd;exact .inl ⟨a,vs,rfl,.inl h1,fun p hp=>q3.lst rep3 hp (h2.cut lo' hi')⟩
   |tup xs=>
    rw[z]at q3 is3;have is4:=is3;obtain⟨a,vs,rfl,h1,h2⟩:=is3;by_cases hw:HT.sIx vs.length 0 lo'=0/\HT.sIx vs.length vs.length hi'=vs.length
    .have ec:dH xs lo' hi'=xs:=by unfold dH;rw[<- h2.length,hw.1,hw.2,h2.length];simp
     dsimp only at q3;rw[ec]at q3;exact .inr (.inr ⟨a,vs,rfl,SqT.of h1,hw,q3.val rep3 is4⟩)
    .exact .inr (.inl ⟨a,vs,rfl,SqT.of h1,hw,fun p hp=>q3.tup rep3 hp (h2.cut lo' hi')⟩)
   |_=>rw[z]at q3;exact q3.elim
noncomputable def D.ty:D->String
 | .non=>"NoneType" | .bl _=>"bool" | .int _=>"int" | .str _=>"str" | .tup _=>"tuple" | .lst _=>"list" | .dic _ _=>"dict"
def GZ (K:Lu) (H:Hp) (x:V) (t:Lx):Prop:=TyOf K H x t\/(t=.type "dict"/\∃ a,x=.ref a/\FN H a)
theorem Is.ty {H:Hp}{m:Addr->Prop}{d:D}{v:V}{K:Lu}(h:Is H m d v):GZ K H v (.type d.ty):=by
 cases d with
 |non=>cases h;exact .inl .non
 |bl b=>cases h;exact .inl (.bl b)
 |int b=>cases h;exact .inl (.int b)
 |str b=>cases h;exact .inl (.str b)
 |tup ds=>obtain⟨a,vs,rfl,h1,_⟩:=h;exact .inl (.tup h1)
 |lst ds=>
  obtain⟨a,vs,rfl,h1,_⟩:=h;rcases h1 with⟨h1,_⟩|⟨o,h1,_⟩
  .exact .inl (.lst h1)
  .exact .inl (.frz h1)
 |dic ks ds=>obtain⟨a,kvs,rfl,h1,_⟩:=h;exact .inr ⟨rfl,a,rfl,h1.1.imp (fun⟨kvs,e,_⟩=>⟨kvs,e⟩) fun⟨kvs,e,_⟩=>⟨kvs,e⟩⟩
def yS (T:String)(d:D):Bool:=match d with
 | .non=>T=="NoneType"
 | .bl _=>T=="bool" || T=="int"
 | .int _=>T=="int"
 | .str _=>T=="str"
 | .tup _=>T=="tuple"
 | .lst _=>T=="list"
 | .dic _ _=>T=="dict"
def v7 (T:String):Prop:=∀(K:Lu)(d:D),PySem.W.kitOne K (.type d.ty) (.type T)=some (yS T d)
theorem v8:v7 "int":=fun K d=>by cases d<;>kernel_rfl
theorem tW:v7 "bool":=fun K d=>by cases d<;>kernel_rfl
theorem ly:v7 "list":=fun K d=>by cases d<;>kernel_rfl
theorem jA:v7 "tuple":=fun K d=>by cases d<;>kernel_rfl
def n9 (T:String)(fa:En->Res R):En->Res R:=fun env=>(fa env).bind fun r=>.ok (.val (.bl (yS T r.d)) true [])
theorem v9:CallR X (.builtin "isinstance") (fun xs H Q=>∃ x T t b,xs=[x,.ty T]/\GZ X.K H x t/\PySem.W.kitOne X.K t (.type T)=some b/\Q (.bl b) H):=by
 intro pins s σ H xs us Q I r h;obtain⟨x,T,t,b,rfl,ty,e,q⟩:=h;obtain⟨u,c,rfl,ru,rc⟩:=Av r;obtain rfl:c=Value.type T:=rc;rcases ty with ty|⟨rfl,a,rfl,hd⟩
 .exact sR I ru ty e fun tk=>⟨.bl b,H,I.tok tk,rfl,q⟩
 .obtain rfl:u=Value.ref a:=ru;obtain⟨t1,_⟩:=u5 I hd;exact Jc Lb I.kIn t1 e (fun z=>nomatch z) fun tk=>⟨.bl b,H,I.tok tk,rfl,q⟩
theorem h7 {T:Str} {T':String} {e:Expr} {fa:En->Res R} {p q pos:Pos} (hK:v7 T') (hg:Gl X "isinstance") (hm:X.mg "isinstance"=none) (hgT:Gl X T) (hmT:X.mg T=none) (hvT:bootBuiltins T=some (.type T')) (ha:PD X E e fa)
 (hnT:autoParam (T≠"__name__") Lz._auto_1) (hdT:autoParam ((T==("__debug__" : Str))=false) Lz._auto_1)
 (he:autoParam (starEach [e,.Name T q] X.env=(false,eval e X.env)::starEach [.Name T q] X.env) LF._auto_1) (he2:autoParam (starEach [.Name T q] X.env=(false,eval (.Name T q) X.env)::starEach [] X.env) LF._auto_1) (hpl:autoParam ((backTo pos (starEach [.Name T q] X.env)).any (·.1)=false) LF._auto_1) :
 PD X E (.Call (.Name "isinstance" p) [e,.Name T q] [] pos) (n9 T' fa):=by
 obtain⟨ta,p1,s1⟩:=ha;refine⟨_,ga v9 hg hm (by decide +kernel) (bh p1 (bh (xZ hgT hmT hvT (v:=.ty T') rfl hnT hdT) ck he2) he) (by decide) (by decide) he hpl,fun g M ρ env σ H Q rep p=>s1.oneE rep p fun r v M1 H1 e1 rep1 is q=>?_⟩;exact⟨v,T',_,_,rfl,is.ty,hK X.K r.d,q _ M1 H1 (Ext.refl _ _) rep1 rfl⟩
noncomputable def cK:List D->Option (List Bool)
 | []=>some []
 | .bl b::r=>(cK r).map fun bs=>b::bs
 |_::_=>none
def yT:List R->Res R
 | [r]=>match r.d with
  | .lst ds=>match cK ds with
   |some bs=>.ok (.val (.bl (bs.all id)) true [])
   |none=>.stuck
  |_=>.stuck
 |_=>.stuck
theorem h8:∀{ds:List D}{bs:List Bool}{i:Nat}{d:D},cK ds=some bs->ds[i]?=some d->∃ b,d=.bl b/\bs[i]?=some b
 | [],_,_,_,_,e=>by simp at e
 | .bl b::r,bs,0,d,h,e=>by
  simp at e;subst e;unfold cK at h;cases q:cK r with
  |none=>rw[q]at h;cases h
  |some bs'=>rw[q]at h;cases h;exact⟨b,rfl,rfl⟩
 | .bl b::r,bs,i+1,d,h,e=>by
  unfold cK at h;cases q:cK r with
  |none=>rw[q]at h;cases h
  |some bs'=>rw[q]at h;cases h;obtain⟨b',e1,e2⟩:=h8 (i:=i) q (by simpa using e);exact⟨b',e1,by simpa using e2⟩
 | .non::_,_,_,_,h,_=>by cases h
 | .int _::_,_,_,_,h,_=>by cases h
 | .str _::_,_,_,_,h,_=>by cases h
 | .tup _::_,_,_,_,h,_=>by cases h
 | .lst _::_,_,_,_,h,_=>by cases h
theorem h9:∀{ds:List D}{bs:List Bool},cK ds=some bs->bs.length=ds.length
 | [],_,h=>by cases h;rfl
 | .bl b::r,bs,h=>by
  unfold cK at h;cases q:cK r with
  |none=>rw[q]at h;cases h
  |some bs'=>rw[q]at h;cases h;simp[h9 q]
 | .non::_,_,h=>by cases h
 | .int _::_,_,h=>by cases h
 | .str _::_,_,h=>by cases h
 | .tup _::_,_,h=>by cases h
 | .lst _::_,_,h=>by cases h
theorem tX (hc:X.calm=true):CallR X (.builtin "all") (fun xs H Q=>∃(p:Addr)(vs:List V)(bs:List Bool),xs=[.ref p]/\SqL X.K H p vs/\vs=bs.map V.bl/\Q (.bl (bs.all id)) H):=by
 intro pins s σ H xs us Q I r h;obtain⟨p,vs,bs,rfl,hq,rfl,q⟩:=h;obtain⟨u,rfl,rx⟩:=cW r;cases rx;obtain⟨its,rv,pl,hz⟩:=I.list hq;have hh:X.A.in1.handled=none:=I.ok.hd hc;obtain⟨o,ho,_⟩:=pl.isList;have hlt:p<s.heap.objs.size:=HN ho;refine call_all_walk (Kg pl.isList ?_);refine⟨s.heap.objs.size,_,_,_,_,_,fun i=>(bs[i]?).getD true,rfl,Walks.list hh s.heap.objs.size p (Ic hlt) its.toArray,⟨⟨_,HQ _ rfl,rfl,rfl⟩,?_⟩,?_,fun h' tk hk=>?_⟩
 .exact pl.isList.at fun o e=>Hu _ e
 .intro i v s' Q' E' hv hQ';have hv:its[i]?=some v:=by simpa using hv
  have hi:i<its.length:=(Hv.mp hv).1;have hl:=rv.length;have hb:i<bs.length:=by simpa using (by rw[HA]at hl;omega:i<bs.length)
  obtain⟨u',hu,ru⟩:=rv.get (i:=i) (x:=.bl bs[i]) (by simp[hb]);rw[hv]at hu;cases hu;cases ru;have eb:bs[i]?=some bs[i]:=by simp[hb]
  dsimp only at hQ';rw[eb]at hQ';exact Jw hQ'
 .have hl:=rv.length;rw[HA]at hl;have e:((List.range its.toArray.size).all fun i=>(bs[i]?).getD true)=bs.all id:=by
   rw[Hy,<- hl];rw[K5,Jn,Jn];constructor
   .intro h b hb;obtain⟨i,hi⟩:=HU.mp hb;have:=h i (by simp;exact(Hv.mp hi).1);rw[hi]at this;exact this
   .intro h i hi;have hi:i<bs.length:=by simpa using hi
    have eb:bs[i]?=some bs[i]:=by simp[hi]
    rw[eb];exact h _ (Kp hi)
  rw[e];refine⟨.bl _,H,?_,rfl,q⟩;have I1:L2.Inv X pins σ H { s with heap:=s.heap.push { cls:=.type "list_iterator",data:=.fields #[.ref p,.int 0 0] } }:=I.kept (t':=s.toks) fun b o e=>Hu _ e;have fo:=I.fpOk (H':=H) (HB s.heap.objs.size) (I.hok.fresh (HB _));exact I1.turned (t':=tk) (it:=s.heap.objs.size) (fun b o hb e=>hk b o (by simpa using hb) e) fo.1 fo.2.1 fo.2.2.2.1 fo.2.2.2.2.1 fo.2.2.2.2.2
theorem B6 (hc:X.calm=true):fI X E (.builtin "all") yT:=by
 refine⟨_,tX hc,fun g M ρ env σ H Q rs vs rep i p=>?_⟩
 match rs,i,p with
 | [r],i,p=>
  obtain⟨v,w,rfl,i1,i2⟩:=i;cases i2;have i1:Is H (vmsk g M (aL [r]) ρ (bc [r])) r.d v:=i1;unfold yT at p;dsimp only at p;cases q:r.d with
  |lst ds=>
   rw[q]at p i1;obtain⟨a,ws,rfl,h1,h2⟩:=i1.rd;dsimp only at p;cases qb:cK ds with
   |none=>rw[qb]at p;exact p.elim
   |some bs=>
    rw[qb]at p;refine⟨a,ws,bs,rfl,.inl h1,?_,p _ M H (Ext.refl _ _) rep rfl⟩;apply Jq
    intro j;by_cases hj:j<ds.length
    .obtain⟨b,e1,e2⟩:=h8 (i:=j) (d:=ds[j]) qb (by simp[hj]);obtain⟨v',ev,iv⟩:=h2.get (i:=j) (d:=ds[j]) (by simp[hj]);rw[e1]at iv;cases iv;rw[ev,Ip,e2];rfl
    .have l1:=h2.length;have l2:=h9 qb;rw[Jd (by omega),Jd (by simp;omega)]
  |_=>rw[q]at p;exact p.elim
 | [],_,p=>exact p.elim
 |_::_::_,_,p=>exact p.elim
def ir (i:Nat)(fk fv:En->Res R):En->Res Fl:=fun env=>match dP env i with
 |some (ds,fr)=>(fv env).bind fun r=>(fk env).bind fun k=>match k.d with
  | .int z=>match m8 ds.length z with
   |some j=>if ¬ i∈r.al then .ok (.nx ((frz env r.al).set i (some (.own (ds.set j r.d) (fr&&r.fr))))) else .stuck
   |none=>.stuck
  |_=>.stuck
 |none=>.stuck
theorem eG {i:Nat}{o k v:Expr}{fk fv:En->Res R}{ie pos:Pos}(ho:PE X o (fD i))(hk:PD X E k fk)(hv:PD X E v fv)
 (ha:autoParam (∀ v,assign (.Subscript o k ie) X.env v=(do
   let ov <- holding [v] (eval o X.env)
   let iv <- holding [v,ov] (eval k X.env)
   standAt ie
   holding [v,ov,iv] (setItem ov iv v)
   release [v,ov,iv] [])) LC._auto_1)
 (hs:autoParam (swapsWithSole [.Subscript o k ie] v pos.line X.env=pure false) LF._auto_1) (hw:autoParam (swappedStores [.Subscript o k ie] v X.env=pure none) LF._auto_1)
 (h1:autoParam ((assignEach [.Subscript o k ie] X.env).map (·.2)=[assign (.Subscript o k ie) X.env]) LF._auto_1):j7 X E (.Assign [.Subscript o k ie] v pos) (ir i fk fv):=by
 obtain⟨tk,p1,s1⟩:=hk;obtain⟨tv,p2,s2⟩:=hv;refine⟨_,Bk p2 (Bj ho p1 uZ ha) hs hw h1,fun g M ρ env σ H D rep p=>?_⟩;unfold ir at p;cases e1:dP env i with
 |none=>rw[e1]at p;exact p.elim
 |some q=>
  obtain⟨ds,fr⟩:=q;rw[e1]at p;dsimp only at p;obtain⟨M0,ρ0,l,vs,m0,rep0,ev,k1,k2,k4,hi,_⟩:=rep.toOwn e1;refine s2.oneS rep p fun r y M' H' e rep' ro p'=>?_;obtain⟨M1,x1,x1m,rep1,is1⟩:=ro.is rep' e rep.same;refine⟨_,ev,s1.oneS (D:=D) rep1 (PostS.frz ⟨x1m,fun _ _ q _=>q⟩ p') fun rk yk M5 H5 e5 rep5 rok p5=>?_⟩;obtain⟨M6,x6,x6m,rep6,is6⟩:=rok.is rep5 e5 rep1.same;cases z:rk.d with
  |int iz=>
   rw[z]at is6;simp only[z]at p5;cases is6;cases zj:m8 ds.length iz with
   |none=>simp only[zj]at p5;exact p5.elim
   |some j=>
    simp only[zj]at p5;by_cases hc:¬ i∈r.al
    .rw[Hx hc]at p5;have is1':Is H5 (vmsk g M6 r.fr ρ r.al) r.d y:=(is1.ext e5).weak fun a z=>z.mono x6m;obtain⟨M2,ρ2,x2,rep2,o2,k5,k6⟩:=Rep.frz r.al rep6;have is2:Is H5 (msk g M2 r.fr) r.d y:=Is.frozen rep6 x2 o2 is1';have e2:dP (frz env r.al) i=some (ds,fr):=by unfold dP;rw[mB _ hc];exact e1
     obtain⟨M3,ρ3,l3,vs3,m3,rep3,ev3,j1,j2,j4,hi3,_⟩:=rep2.toOwn e2;rw[ev]at ev3;cases ev3;have hl:H5 l=some (.lst vs):=e5.h _ _ (e.h _ _ k1);rw[hl]at j1;cases j1;have pl:ρ3 i l:=(j2 l).mpr rfl;obtain⟨nl3,_⟩:=rep3.priv i l pl;have is4:IsAll H5 (msk g M3 (fr&&r.fr)) (ds.set j r.d) (vs.set j y):=IsAll.set j (IsAll.weak (fun b z=>⟨z.1,fun q=>z.2 (by cases fr<;>simp_all)⟩) j4) (Is.weak (fun b z=>⟨m3 b z.1,fun q=>z.2 (by cases fr<;>simp_all)⟩) is2);have kp:∀ b u,H5 b=some u->(msk g M3 (fr&&r.fr) b\/fixd u)->av H5 l (.lst (vs.set j y)) b=some u:=fun b u q z=>by
      rw[ac]
      .exact q
      .rintro rfl;rcases z with z|z
       .exact nl3 z.1
       .rw[hl]at q;cases q;exact z
     obtain⟨f1,rep4⟩:=rep3.write (sl:=.own (ds.set j r.d) (fr&&r.fr)) (vs':=vs.set j y) pl (by rw[Jr];exact hi3) ev ⟨l,vs.set j y,rfl,ag,j2,IsAll.mono kp (fun _ _ _ z=>z) is4⟩;rw[List.set_set]at rep4;refine⟨l,vs,iz,j,rfl,rfl,hl,by rw[k4.length];exact zj,?_⟩;exact p5 σ M3 ρ3 _ (Frz.trans ⟨fun a z=>m3 a (x2 a (x6m a z)),fun _ _ q _=>q⟩ f1) rep4
    .rw[Hz hc]at p5;exact p5.elim
  |_=>simp only[z]at p5;exact p5.elim
mutual
theorem Is.sh {H:Hp}{m:Addr->Prop}(hp:∀ a,m a->Mu H a):∀{d:D}{v:V},Is H m d v->IsSh H m d v
 | .non,_,_=>True.intro
 | .bl _,_,_=>True.intro
 | .int _,_,_=>True.intro
 | .str _,_,_=>True.intro
 | .tup ds,_,h=>by obtain⟨a,vs,e,h1,h2⟩:=h;exact⟨a,vs,e,h1,IsAll.sh hp h2⟩
 | .lst ds,_,h=>by
  obtain⟨a,vs,e,h1,h2⟩:=h;rcases h1 with⟨h1,h3⟩|⟨o,h1,h3⟩
  .exact⟨a,vs,e,h1,h3⟩
  .obtain⟨uo,z,zm⟩:=hp a h3;rw[h1]at z;cases z;exact zm.elim
 | .dic _ _,_,_=>True.intro
theorem IsAll.sh {H:Hp}{m:Addr->Prop}(hp:∀ a,m a->Mu H a):∀{ds:List D}{vs:List V},IsAll H m ds vs->IsShs H m ds vs
 | [],_,_=>True.intro
 |d::ds,_,h=>by obtain⟨v,r,e,h1,h2⟩:=h;exact⟨v,r,e,Is.sh hp h1,IsAll.sh hp h2⟩
end
theorem IsShs.get {H:Hp}{m:Addr->Prop}:∀{ds:List D}{vs:List V}{j:Nat}{d:D},IsShs H m ds vs->ds[j]?=some d->∃ v,vs[j]?=some v/\IsSh H m d v
 | [],_,_,_,_,e=>by simp at e
 |d::ds,_,0,_,h,e=>by obtain⟨v,r,rfl,h1,h2⟩:=h;simp at e;subst e;exact⟨v,rfl,h1⟩
 |d::ds,_,j+1,_,h,e=>by obtain⟨v,r,rfl,h1,h2⟩:=h;obtain⟨w,a,b⟩:=IsShs.get (j:=j) h2 (by simpa using e);exact⟨w,by simpa using a,b⟩
def jB (d:D)(j:Nat):Option Nat:=match d with
 | .tup ds=>match ds[j]? with
  |some (.lst es)=>some es.length
  |_=>none
 |_=>none
def lz (i j:Nat)(f:En->Res R):En->Res Fl:=fun env=>match env[i]? with
 |some (some (.tre d))=>match jB d j with
  |some n=>if n<lim then (f env).bind fun r=>if r.d.flat then .ok (.nx (env.set i (some (.mes d)))) else .stuck else .stuck
  |none=>.stuck
 |_=>.stuck
theorem v_ {H:Hp}{m:Addr->Prop}{d:D}{v:V}{j n:Nat}(hp:∀ a,m a->Mu H a)(h:Is H m d v)(e:jB d j=some n):∃ a vs l ws,v=.ref a/\H a=some (.tup vs)/\vs[j]?=some (.ref l)/\H l=some (.lst ws)/\m l/\ws.length=n:=by
 unfold jB at e;cases d with
 |tup ds=>
  obtain⟨a,vs,rfl,h1,h2⟩:=h;dsimp only at e;cases q:ds[j]? with
  |none=>rw[q]at e;cases e
  |some d'=>
   obtain⟨w,ew,iw⟩:=h2.get q;rw[q]at e;cases d' with
   |lst es=>
    cases e;obtain⟨l,ws,rfl,h3,h4⟩:=iw;rcases h3 with⟨h3,h5⟩|⟨o,h3,h5⟩
    .exact⟨a,vs,l,ws,rfl,h1,ew,h3,h5,h4.length⟩
    .obtain⟨uo,z,zm⟩:=hp l h5;rw[h3]at z;cases z;exact zm.elim
   |_=>cases e
 |_=>cases e
theorem tY {H:Hp}{m:Addr->Prop}{d:D}{v:V}{l:Addr}{ws ws':List V}(hl:H l=some (.lst ws))(h:IsSh H m d v):IsSh (av H l (.lst ws')) m d v:=by
 refine IsSh.mono (fun a o e z=>?_) (fun a vs _ e=>?_) (fun _ z=>z) h
 .rw[ac]
  .exact e
  .rintro rfl;rw[hl]at e;cases e;exact z
 .by_cases ha:a=l
  .exact⟨ws',by rw[ha,ag]⟩
  .exact⟨vs,by rw[ac ha];exact e⟩
theorem n_ {i j c:Nat}{a e:Expr}{f:En->Res R}{kpos spos apos cpos pos:Pos}(ha:PE X a (fD i))(hs:lU (.Constant (.int (j:Nat)) c kpos))(h:PD X E e f)
 (hbase:autoParam (attributeBase (.Subscript a (.Constant (.int (j:Nat)) c kpos) spos) "append" X.env (eval (.Subscript a (.Constant (.int (j:Nat)) c kpos) spos) X.env)=eval (.Subscript a (.Constant (.int (j:Nat)) c kpos) spos) X.env) LF._auto_1)
 (hfew:autoParam (((backTo cpos (starEach [e] X.env)).all (fun x=>!x.1)&&(backToKw cpos (keywordEach [] X.env)).all (fun x=>x.1.isSome)
   && decide (([e]:List Expr).length+([]:List Keyword).length+(if ([]:List Keyword).isEmpty then 0 else 1)<30))=true) LF._auto_1)
 (hline:autoParam ((apos.endLine==cpos.line)=true) LF._auto_1) (hse:autoParam (starEach [e] X.env=(false,eval e X.env)::starEach [] X.env) LF._auto_1) (hplain:autoParam ((backTo cpos (starEach [] X.env)).any (·.1)=false) LF._auto_1)
 (hsw:autoParam (swapsWith (.Call (.Attribute (.Subscript a (.Constant (.int (j:Nat)) c kpos) spos) "append" apos) [e] [] cpos) none pos.line X.env=pure false) LF._auto_1) :
 j7 X E (.Expr (.Call (.Attribute (.Subscript a (.Constant (.int (j:Nat)) c kpos) spos) "append" apos) [e] [] cpos) pos) (lz i j f):=by
 obtain⟨t,p1,s1⟩:=h;refine⟨_,lQ (qK KC Kt Ku eV (Ax ix_tup ha uJ hs) (bh p1 ck hse) hbase hfew hline hse hplain) hsw,fun g M ρ env σ H D rep p=>?_⟩;unfold lz at p;cases e1:env[i]? with
 |none=>rw[e1]at p;exact p.elim
 |some o=>
  cases o with
  |none=>rw[e1]at p;exact p.elim
  |some sl=>
   cases sl with
   |val d f=>rw[e1]at p;exact p.elim
   |own d f=>rw[e1]at p;exact p.elim
   |mes d=>rw[e1]at p;exact p.elim
   |pin d=>rw[e1]at p;exact p.elim
   |dis d=>rw[e1]at p;exact p.elim
   |fix n q0=>rw[e1]at p;exact p.elim
   |kon a=>rw[e1]at p;exact p.elim
   |tre d=>
    rw[e1]at p;dsimp only at p;have hi:i<env.length:=(Hv.mp e1).1;obtain⟨v,ev,k⟩:=rep.slot i _ e1;have k:Is H (ρ i) d v:=k;cases e2:jB d j with
    |none=>rw[e2]at p;exact p.elim
    |some n=>
     rw[e2]at p;dsimp only at p;by_cases hn:n<lim
     .rw[Hx hn]at p;have hp:∀ a,ρ i a->Mu H a:=fun a z=>(rep.priv i a z).2.2;obtain⟨b,vs,l,ws,rfl,h1,h2,h3,h4,h5⟩:=v_ hp k e2;have sh:=Is.sh hp k;refine⟨_,ev,b,vs,j,.ref l,rfl,rfl,SqT.of h1,yf h2,.inl ⟨rfl,ws,SqL.of h3⟩,s1.oneS rep p fun r y M' H' e rep' ro p'=>?_⟩;by_cases hf:r.d.flat=true
      .rw[Hx hf]at p';have h3':=e.h _ _ h3;have sh':IsSh H' (ρ i) d (.ref b):=IsSh.mono (fun a o q _=>e.h a o q) (fun a vs _ q=>⟨vs,e.h _ _ q⟩) (fun _ z=>z) sh;obtain⟨f1,rep2⟩:=rep'.write (sl:=.mes d) (vs':=ws++[y]) h4 hi ev (tY h3' sh');exact⟨l,ws,y,rfl,rfl,h3',by rw[h5];exact hI hn,p' σ M' ρ _ f1 rep2⟩
      .rw[Hz hf]at p';exact p'.elim
     .rw[Hz hn]at p;exact p.elim
end
section
variable {X:Cx}{E:XK}{es:List Expr}{k:Nat}{ie:Pos}
end
noncomputable def G0 (osc:Scope)(N:List Str)(scope:Scope)(tN capN:List Str)(caps:List Nat):Bool:=
 (scope.kind==.function)&&scope.names.all (fun y=>y.2 != .cell)&&scope.names.all (fun y=>y.2 != .local || scope.names.lookup y.1==some .local)&&tN.all (fun x=>scope.names.lookup x==some .local) &&
 scope.names.all (fun y=>y.2 != .free || (osc.names.lookup y.1==some .cell || osc.names.lookup y.1==some .free))&&(capN.zip caps).all (fun p=>N[p.2]?==some p.1)&&(caps.length==capN.length) &&
 capN.all (fun y=>osc.names.lookup y==some .cell || osc.names.lookup y==some .free)&&capN.all (fun y=>scope.names.lookup y==some .free)&&decide (tN++capN).Nodup
theorem CScope.of {X:Cx}{osc:Scope}{N:List Str}{scope:Scope}{tN capN:List Str}{caps:List Nat}(h1:X.env.scope=osc)(h2:X.N=N)(h3:G0 osc N scope tN capN caps=true):CScope X scope tN capN caps:=by
 unfold G0 at h3;simp only[Ir,Jn,K4,Lq,bne_iff_ne,JW,ne_eq]at h3;obtain⟨⟨⟨⟨⟨⟨⟨⟨⟨a1,a2⟩,a3⟩,a4⟩,a5⟩,a6⟩,a7⟩,a8⟩,a9⟩,a10⟩:=h3;subst h1 h2;refine⟨a1,a2,fun y hy hl=>(a3 y hy).resolve_left fun z=>z hl,a4,fun y hy hf=>(a5 y hy).resolve_left fun z=>z hf,⟨fun k y e=>?_,a8,a9,a7⟩,a10⟩;have hk:k<capN.length:=(Hv.mp e).1;have hk2:k<caps.length:=by omega
 refine⟨caps[k],by simp[hk2],?_⟩;have hm:(y,caps[k])∈capN.zip caps:=by
  have:(capN.zip caps)[k]?=some (y,caps[k]):=by rw[Km];exact⟨e,by simp[hk2]⟩
  exact Jv this
 exact a6 _ hm
structure Fn (K:Lu) (mg:Str->Option Lx) (x:Str) (st:Stmt) (ps:List Str) (f:Addr) (fd:FuncData):Prop where
 fu:Fun K x x st f fd
 bi:Binds K fd ps []
 gl:mg x=some (.ref f)
section
variable {X:Cx}{E:XK}
end
def F0 (F:List D->Res R):Sp:=fun vs H Q _=>vs.length=1/\∃ ds Ma r,IsAll H Ma ds vs/\F ds=.ok r/\∀ v H',Same H H'->RetOk (Ew H Ma) H' v r->Q v H'
theorem dI {H:Hp}{m:Addr->Prop}:∀ ns:List Int,IsAll H m (ns.map D.int) (ns.map V.int)
 | []=>rfl
 |n::r=>⟨.int n,r.map V.int,rfl,rfl,dI r⟩
theorem B7 {F:List D->Res R}(hF:∀ ns:List Int,ns.length<=63->∃ f al,F [.lst (ns.map .int)]=.ok (.val (.bl true) f al))(H:Hp)(a:Addr)(ns:List Int)(hl:ns.length<=63)(hS:∃ o,H a=some (.frz o (.lst (ns.map V.int)))) :
 F0 F [.ref a] H (fun v _=>v=.bl true) fun _ _ _=>False:=by
 obtain⟨f,al,e⟩:=hF ns hl;obtain⟨o,hS⟩:=hS;exact⟨rfl,[.lst (ns.map .int)],fun b=>b=a,_,⟨_,[],rfl,⟨a,ns.map V.int,rfl,.inr ⟨o,hS,rfl⟩,dI ns⟩,rfl⟩,e,fun v H' _ h=>h⟩
section
variable {P:Lw}{w:World}{K:Lu}{mg:Str->Option Lx}{base:Heap}
theorem FnOk.top {CX:CXT}{k:Nat}{f:Addr}{fd:FuncData}{ps:List Str}{F:List D->Res R}(h:FnOk P w K mg base CX k f fd ps (m_ mg 1 F)):FnOk P w K mg base CX k f fd ps (F0 F):=h.imp fun vs H Q E ⟨hl,ds,Ma,r,is,e,q⟩=>⟨hl,ds,Ma,is,by rw[e];exact q⟩
end
section
variable {P:Lw}{w:World}{K:Lu}{mg:Str->Option Lx}{base:Heap}{N:List Str}{qual:Str}{scope:Scope}{f:Addr}{cd:Lx}{A:Ly}{outer:List Env}{s₀:Ls}{H₀:Hp}{E:XK}
end
section
variable {X:Cx}{E:XK}{hc:Str}{Ch:Addr}{cs:List Str}{np hpos pos epos p cpos:Pos}{b₀:Stmt}{suite:List Stmt}{fsu:En->Res Fl}{k:Nat}{f:Addr}{fd:FuncData}{ps:List Str}{F:List D->Res R}{x:Str}{e:Expr}{es:List Expr}{fs:En->Res (List R)}
end
section
variable {h:Heap}{z TI TO i1 i2 a b:Addr}{i:Nat}{its its2:Array Lx}
end
section
variable {X:Cx}{E:XK}{es:List Expr}{k:Nat}{ie:Pos}
end
section
variable {X:Cx}{E:XK}
def yU (fa:En->Res R):En->Res R:=fun env=>(fa env).bind fun ra=>match ra.d with
 | .int i=>.ok (.val (.int (-i)) true [])
 |_=>.stuck
theorem B8 {a:Expr}{fa:En->Res R}{pos:Pos}(ha:PD X E a fa):PD X E (.UnaryOp .USub a pos) (yU fa):=by
 obtain⟨ta,pa,sa⟩:=ha;refine⟨_,D0 Br pa,fun g M ρ env σ H Q rep p=>sa.oneE rep p fun r v M' H' e rep' i p'=>?_⟩;cases q:r.d with
 |int b=>rw[q]at i;simp only[q]at p';cases i;exact⟨b,rfl,p' _ M' H' (Ext.refl _ _) rep' rfl⟩
 |_=>simp only[q]at p';exact p'.elim
open Classical in
def bw (H:Hp)(m:Addr->Prop)(x:D)(u:Lx):Bool:=decide (∃ d v,RelV v u/\Is H m d v/\cq d x=true)
theorem lA {H:Hp}{m:Addr->Prop}{x d:D}{v:V}{u:Lx}(r:RelV v u)(h:Is H m d v):bw H m x u=cq d x:=by
 unfold bw;cases q:cq d x with
 |true=>exact @HG _ (Classical.propDecidable _) ⟨d,v,r,h,q⟩
 |false=>refine @HF _ (Classical.propDecidable _) fun⟨d',v',r',h',q'⟩=>?_;have e:=L2.RelV.inj r r';subst e;have e:=Is.inj h h';subst e;rw[q]at q';cases q'
theorem du {H:Hp}{m:Addr->Prop}{x:D}:∀{ds:List D}{vs:List V}{us:List Lx},IsAll H m ds vs->Vals vs us->us.any (bw H m x)=ds.any fun d=>cq d x
 | [],_,_,h,r=>by cases h;cases r;rfl
 |d::ds,_,_,h,r=>by
  obtain⟨v,w,rfl,h1,h2⟩:=h;cases r with
  |cons r1 r2=>rw[Jm,Jm,lA r1 h1,du h2 r2]
def B9 (neg:Bool)(K:Lu):R2:=fun x y H Q=>∃ p ds vs d m m',y=.ref p/\(SqL K H p vs\/SqT K H p vs)/\IsAll H m ds vs/\Is H m' d x/\(D.deps ds<=50/\d.dep<=50)/\Q (.bl (if neg then !(ds.any fun e=>cq e d) else ds.any fun e=>cq e d)) H
theorem dv {pins:List (Addr×Obj)}{σ:St}{H:Hp}{s:Ls}{m m':Addr->Prop}{d:D}{x:V}{v:Lx}{A:Ly}(I:L2.Inv X pins σ H s)(hu:A.units+50<cLine)(hx:Is H m' d x)(hE:d.dep<=50)(rx:RelV x v) :
 ∀{ds:List D}{vs:List V}{us:List Lx},IsAll H m ds vs->Vals vs us->D.deps ds<=50->∀ u∈us,SeqAt.EqAt A s u v (bw H m d u)
 | [],_,_,h,r,_=>fun u hu=>by cases h;cases r;cases hu
 |e::ds,_,_,h,r,hd=>fun u hm=>by
  obtain⟨y,w,rfl,h1,h2⟩:=h;have hd':max e.dep (D.deps ds)<=50:=hd;cases r with
  |cons r1 r2=>
   rcases HE.mp hm with rfl|hm
   .rw[lA r1 h1];exact vN I.hok 50 A hu (by omega) (by omega) (by omega) h1 hx r1 rx
   .exact dv I hu hx hE rx h2 r2 (by omega) u hm
theorem B_ (hu:X.A.units+64<cLine):OpR X (compareOp .In) (B9 false X.K):=by
 intro pins s σ H x y v u Q I rx ry h;obtain⟨p,ds,vs,d,m,m',rfl,hq,hi,hx,hd,q⟩:=h;cases ry;rcases hq with hq|hq
 .obtain⟨its,r,pl,hz⟩:=I.list hq;refine SeqAt.in_listAt (bw H m d) pl.isList (fun w hw=>dv I (by show X.A.units+1+50<cLine;omega) hx hd.2 rx hi r hd.1 w (by simpa using hw)) ⟨.bl _,H,I,rfl,?_⟩;rw[show its.toArray.any (bw H m d)=its.any (bw H m d) by simp,du hi r];exact q
 .obtain⟨its,r,pl,hz⟩:=I.tuple hq;refine SeqAt.in_tupleAt (bw H m d) pl (fun w hw=>dv I (by show X.A.units+1+50<cLine;omega) hx hd.2 rx hi r hd.1 w (by simpa using hw)) ⟨.bl _,H,I,rfl,?_⟩;rw[show its.toArray.any (bw H m d)=its.any (bw H m d) by simp,du hi r];exact q
theorem tZ (hu:X.A.units+64<cLine):OpR X (compareOp .NotIn) (B9 true X.K):=by
 intro pins s σ H x y v u Q I rx ry h;obtain⟨p,ds,vs,d,m,m',rfl,hq,hi,hx,hd,q⟩:=h;cases ry;rcases hq with hq|hq
 .obtain⟨its,r,pl,hz⟩:=I.list hq;refine SeqAt.notIn_listAt (bw H m d) pl.isList (fun w hw=>dv I (by show X.A.units+1+50<cLine;omega) hx hd.2 rx hi r hd.1 w (by simpa using hw)) ⟨.bl _,H,I,rfl,?_⟩;rw[show its.toArray.any (bw H m d)=its.any (bw H m d) by simp,du hi r];exact q
 .obtain⟨its,r,pl,hz⟩:=I.tuple hq;refine SeqAt.notIn_tupleAt (bw H m d) pl (fun w hw=>dv I (by show X.A.units+1+50<cLine;omega) hx hd.2 rx hi r hd.1 w (by simpa using hw)) ⟨.bl _,H,I,rfl,?_⟩;rw[show its.toArray.any (bw H m d)=its.any (bw H m d) by simp,du hi r];exact q
def DL (neg:Bool)(x:D)(ds:List D):Res R:=if D.deps ds<=50/\x.dep<=50 then .ok (.val (.bl (if neg then !(ds.any fun e=>cq e x) else ds.any fun e=>cq e x)) true []) else .stuck
def qf (neg:Bool)(a b:R):Res R:=match b.d with
 | .lst ds=>DL neg a.d ds
 | .tup ds=>DL neg a.d ds
 |_=>.stuck
def Hg:R->R->Res R:=qf false
def Ca:R->R->Res R:=qf true
theorem wa {neg:Bool}{f:Lx->Lx->Sem Lx}(h:OpR X f (B9 neg X.K)):j5 X E f (qf neg):=by
 refine⟨_,h,fun g M ρ env σ H Q ra rb x y rep i1 i2 p=>?_⟩;unfold qf at p;have key:∀ ds,PostE X.mg E g M ρ env σ H Q (DL neg ra.d ds)->(D.deps ds<=50/\ra.d.dep<=50)/\Q (.bl (if neg then !(ds.any fun e=>cq e ra.d) else ds.any fun e=>cq e ra.d)) H:=fun ds p=>by
  unfold DL at p;by_cases hd:D.deps ds<=50/\ra.d.dep<=50
  .rw[Hx hd]at p;exact⟨hd,p _ M H (Ext.refl _ _) rep rfl⟩
  .rw[Hz hd]at p;exact p.elim
 cases e2:rb.d with
 |lst ds=>rw[e2]at p i2;obtain⟨a,vs,rfl,h1,h2⟩:=i2.rd;obtain⟨k1,k2⟩:=key ds p;exact⟨a,ds,vs,ra.d,_,_,rfl,.inl (.inl h1),h2,i1,k1,k2⟩
 |tup ds=>rw[e2]at p i2;obtain⟨a,vs,rfl,h1,h2⟩:=i2;obtain⟨k1,k2⟩:=key ds p;exact⟨a,ds,vs,ra.d,_,_,rfl,.inr (SqT.of h1),h2,i1,k1,k2⟩
 |_=>rw[e2]at p;exact p.elim
theorem EF (hu:X.A.units+64<cLine):j5 X E (compareOp .In) Hg:=wa (B_ hu)
theorem wb (hu:X.A.units+64<cLine):j5 X E (compareOp .NotIn) Ca:=wa (tZ hu)
end
end L3
namespace L2
open PySem PySem.Spec PySem.Calls PyProof.Rows
section
variable {K:Lu}{x C:Addr}{c:Lx}
end
section
variable {X:Cx}{pins:List (Addr×Obj)}{σ:St}{H:Hp}{s:Ls}{x:Addr}{o:Obj}
end
section
variable {X:Cx}{hc:Str}{Ch:Addr}{np hpos pos epos:Pos}{b₀:Stmt}{suite:List Stmt}{ts:Addr->Addr->TS}{te:TX}{e:Expr}{i:Nat}{n:Str}
end
section
variable {X:Cx}{i iw:Nat}{n y b1 b2:Str}{s1 s2:Str}{py p1 p2 p3 p4 p5 p6 p7 p8 p9 p10 p11 p12 p13 p14 p15 lp:Pos}{j1 j2}{T1:String}{Ch2:Addr}
end
end L2
namespace L3
open PySem PySem.Spec PyProof.Rows L2
section
variable {X:Cx}{E:XK}{i iw:Nat}{n y b1 b2:Str}{s1 s2:Str}{py p1 p2 p3 p4 p5 p6 p7 p8 p9 p10 p11 p12 p13 p14 p15 lp:Pos}{j1 j2}{T1:String}{Ch2:Addr}
variable {hc:Str}{Ch:Addr}{cs:List Str}{np hpos pos epos p cpos:Pos}{k:Nat}{f:Addr}{fd:FuncData}{ps:List Str}{F:List D->Res R}{x:Str}{e:Expr}{es:List Expr}{fs:En->Res (List R)}
end
noncomputable def Cb:D->Option Key
 | .int i=>some (.inl i)
 | .str x=>some (.inr x)
 |_=>none
def iu:List D->Option (List Key)
 | []=>some []
 |d::ds=>match Cb d,iu ds with
  |some k,some ks=>some (k::ks)
  |_,_=>none
def keyT:D->Option (List Key)
 | .tup ds=>iu ds
 |_=>none
def AS (t:List (List Key×D))(k:List Key)(d:D):List (List Key×D):=if (t.any fun x=>decide (x.1=k))=true then t.map (fun x=>if x.1=k then (x.1,d) else x) else t++[(k,d)]
section
variable {H:Hp}{m:Addr->Prop}
theorem Is.key {d:D}{v:V}{k:Key}(h:Is H m d v)(e:Cb d=some k):v=kV k:=by
 cases d with
 |int i=>cases e;exact h
 |str x=>cases e;exact h
 |_=>cases e
theorem IsAll.keys:∀{ds:List D}{vs:List V}{ks:List Key},IsAll H m ds vs->iu ds=some ks->vs=ks.map kV
 | [],_,_,h,e=>by cases h;cases e;rfl
 |d::ds,_,ks,h,e=>by
  obtain⟨v,r,rfl,h1,h2⟩:=h;unfold iu at e;cases q:Cb d with
  |none=>rw[q]at e;cases e
  |some k=>
   cases q2:iu ds with
   |none=>rw[q,q2]at e;cases e
   |some ks'=>rw[q,q2]at e;cases e;rw[h1.key q,IsAll.keys h2 q2];rfl
theorem Is.keyT {d:D}{v:V}{k:List Key}(h:Is H m d v)(e:L3.keyT d=some k):∃ b,v=.ref b/\H b=some (.tup (k.map kV)):=by
 cases d with
 |tup ds=>obtain⟨a,vs,rfl,h1,h2⟩:=h;have e:iu ds=some k:=e;rw[IsAll.keys h2 e]at h1;exact⟨a,rfl,h1⟩
 |_=>cases e
def RKV (H:Hp)(m:Addr->Prop):List (List Key×V)->List (List Key×D)->Prop:=Paired fun a b=>a.1=b.1/\Is H m b.2 a.2
theorem RKV.fst {a:List (List Key×V)}{b:List (List Key×D)}(r:RKV H m a b):a.map Prod.fst=b.map Prod.fst:=by
 induction r with
 |nil=>rfl
 |cons h _ ih=>rw[HL,HL,ih,h.1]
theorem RKV.snd {a:List (List Key×V)}{b:List (List Key×D)}(r:RKV H m a b):IsAll H m (b.map Prod.snd) (a.map Prod.snd):=by
 induction r with
 |nil=>rfl
 |cons h _ ih=>exact⟨_,_,rfl,h.2,ih⟩
theorem RKV.append {a c:List (List Key×V)}{b d:List (List Key×D)}(r:RKV H m a b)(s:RKV H m c d):RKV H m (a++c) (b++d):=by
 induction r with
 |nil=>exact s
 |cons h _ ih=>exact .cons h ih
theorem RKV.any {a:List (List Key×V)}{b:List (List Key×D)}(r:RKV H m a b)(k:List Key):(a.any fun x=>decide (x.1=k))=(b.any fun x=>decide (x.1=k)):=by
 induction r with
 |nil=>rfl
 |cons h _ ih=>rw[Jm,Jm,ih,h.1]
theorem RKV.repl {a:List (List Key×V)}{b:List (List Key×D)}{k:List Key}{v:V}{d:D}(r:RKV H m a b)(h:Is H m d v):RKV H m (a.map fun x=>if x.1=k then (x.1,v) else x) (b.map fun x=>if x.1=k then (x.1,d) else x):=by
 induction r with
 |nil=>exact .nil
 | @cons p q ps qs hq t ih=>
  refine .cons ?_ ih;dsimp only;by_cases e:p.1=k
  .rw[Hx e,Hx (hq.1▸e)];exact⟨hq.1,h⟩
  .rw[Hz e,Hz (fun z=>e (hq.1.trans z))];exact hq
theorem RKV.put {a:List (List Key×V)}{b:List (List Key×D)}{k:List Key}{v:V}{d:D}(r:RKV H m a b)(h:Is H m d v):RKV H m (bz a k v) (AS b k d):=by
 unfold bz AS;rw[r.any k];split
 .exact r.repl h
 .exact r.append (.cons ⟨rfl,h⟩ .nil)
end
section
variable {X:Cx}{E:XK}
theorem yV {g:Gd}{M:Addr->Prop}{ρ:Pr}{env:En}{σ:St}{H H':Hp}{b:Addr}{d:D}(rep:Rep g M ρ env σ H)(hb:H b=none)(is:Is H' (fun a=>a=b) d (.ref b))(mu:Mu H' b):ROk g M ρ H H' (.ref b) (.fre d):=by obtain⟨h0,hm,ho⟩:=rep.free hb;exact⟨fun a=>a=b,fun a e=>by subst e;exact⟨hm,hb,mu,ho⟩,is⟩
theorem mE {pos:Pos}:PD X E (.Dict [] [] pos) (fun _=>.ok (.fre (.dic [] []))):=by refine⟨_,u4,fun g M ρ env σ H Q rep p b hb=>?_⟩;have s:Same H (av H b (.dK [])):=aQ hb;exact p _ M _ ⟨fun _ z=>z,s,fun _ z=>.inl z⟩ (rep.grow s) (yV rep hb ⟨b,[],rfl,⟨.inl ⟨[],.inl ag,rfl,rfl⟩,rfl⟩,rfl⟩ ⟨_,ag,True.intro⟩)
def keyX:D->Option DK
 | .int i=>some (.inl (.inl i))
 | .str x=>some (.inl (.inr x))
 | .tup ds=>(iu ds).map .inr
 |_=>none
noncomputable def kin:DK->DK->Bool
 | .inl _,.inl _=>true
 | .inr _,.inr _=>true
 |_,_=>false
noncomputable def fE (ks:List DK)(k:DK):Bool:=ks.any fun x=>decide (x=k)
def oa (neg:Bool)(a:D)(ks:List DK):Res R:=match keyX a with
 |some k=>if ks.all (kin k) then .ok (.val (.bl (if neg then !fE ks k else fE ks k)) true []) else .stuck
 |none=>.stuck
def t4 (neg:Bool)(a b:R):Res R:=match b.d with
 | .dic ks _=>oa neg a.d ks
 |_=>qf neg a b
def kq:R->R->Res R:=t4 false
def mF:R->R->Res R:=t4 true
noncomputable def Cc (neg:Bool):R2:=fun x y H Q=>∃ a o,y=.ref a/\jf H a x o/\Q (.bl (if neg then !o.isSome else o.isSome)) H
theorem Cd (hu:X.A.units+64<cLine):OpR X (compareOp .In) (Cc false):=by intro pins s σ H x y v u Q I rx ry h;obtain⟨a,o,rfl,g,q⟩:=h;cases ry;exact Eg (by omega) I g rx fun s' I'=>⟨.bl _,H,I',rfl,q⟩
theorem t5 (hu:X.A.units+64<cLine):OpR X (compareOp .NotIn) (Cc true):=by intro pins s σ H x y v u Q I rx ry h;obtain⟨a,o,rfl,g,q⟩:=h;cases ry;exact u7 (by omega) I g rx fun s' I'=>⟨.bl _,H,I',rfl,q⟩
theorem jC {κ:Type}[DecidableEq κ]{kvs:List (κ×V)}(inj:κ->DK)(hi:∀ a b,inj a=inj b->a=b)(k:κ):(cV kvs k).isSome=fE (kvs.map fun p=>inj p.1) (inj k):=by
 unfold fE;induction kvs with
 |nil=>rfl
 |cons p r ih=>
  rw[HL,Jm];by_cases e:p.1=k
  .rw[di e,HG (Ie inj e)];rfl
  .rw[dj e,ih,HF (fun z=>e (hi _ _ z)),Bool.false_or]
theorem Is.keyX {H:Hp}{m:Addr->Prop}{d:D}{v:V}{k:DK}(h:Is H m d v)(e:L3.keyX d=some k):(∃ k0,k=.inl k0/\v=kV k0)\/∃ k0 b,k=.inr k0/\v=.ref b/\H b=some (.tup (k0.map kV)):=by
 cases d with
 |int i=>cases e;exact .inl ⟨_,rfl,h⟩
 |str x=>cases e;exact .inl ⟨_,rfl,h⟩
 |tup ds=>have e:(iu ds).map Sum.inr=some k:=e;obtain⟨k0,hk,rfl⟩:=I0.mp e;obtain⟨b,e1,e2⟩:=Is.keyT (d:=.tup ds) h hk;exact .inr ⟨k0,b,rfl,e1,e2⟩
 |_=>cases e
theorem yW {H:Hp}{a:Addr}{ks:List DK}{vs:List V}{m:Addr->Prop}{d:D}{x:V}{k:DK}(h:DAt H a ks vs)(hx:Is H m d x)(e:L3.keyX d=some k)(hk:ks.all (kin k)=true):∃ o,jf H a x o/\o.isSome=fE ks k:=by
 rcases hx.keyX e with⟨k0,rfl,rfl⟩|⟨k0,b,rfl,rfl,hb⟩
 .rcases h with⟨kvs,e1,rfl,rfl⟩|⟨kvs,e1,rfl,rfl⟩
  .exact⟨_,.inl (.inl ⟨kvs,k0,e1,rfl,rfl⟩),jC Sum.inl (fun _ _ z=>J9 z) k0⟩
  .cases kvs with
   |nil=>exact⟨none,.inr (.inl ⟨e1,⟨k0,rfl⟩,rfl⟩),rfl⟩
   |cons p r=>simp[kin]at hk
 .rcases h with⟨kvs,e1,rfl,rfl⟩|⟨kvs,e1,rfl,rfl⟩
  .cases kvs with
   |nil=>exact⟨none,.inr (.inr ⟨e1,⟨b,k0,rfl,hb⟩,rfl⟩),rfl⟩
   |cons p r=>simp[kin]at hk
  .exact⟨_,.inl (.inr ⟨kvs,k0,b,e1,rfl,hb,rfl⟩),jC Sum.inr (fun _ _ z=>KY z) k0⟩
theorem wc {neg:Bool}{f:Lx->Lx->Sem Lx}(h1:j5 X E f (qf neg))(h2:OpR X f (Cc neg)):j5 X E f (t4 neg):=by
 obtain⟨r,o1,s1⟩:=h1;refine⟨_,o1.or h2,fun g M ρ env σ H Q ra rb x y rep i1 i2 p=>?_⟩;unfold t4 at p;cases q:rb.d with
 |dic ks ds=>
  right;rw[q]at p i2;dsimp only at p;unfold oa at p;cases q2:keyX ra.d with
  |none=>rw[q2]at p;exact p.elim
  |some k=>
   rw[q2]at p;dsimp only at p;by_cases hk:ks.all (kin k)=true
   .rw[Hx hk]at p;obtain⟨a,vs,rfl,h1,h2⟩:=i2;obtain⟨o,g1,g2⟩:=yW h1.1 i1 q2 hk;refine⟨a,o,rfl,g1,?_⟩;rw[g2];exact p _ M H (Ext.refl _ _) rep rfl
   .rw[Hz hk]at p;exact p.elim
 |_=>left;refine s1 g M ρ env σ H Q ra rb x y rep i1 i2 ?_;rw[q]at p;exact p
theorem cL (hu:X.A.units+64<cLine):j5 X E (compareOp .In) kq:=wc (EF hu) (Cd hu)
theorem t7 (hu:X.A.units+64<cLine):j5 X E (compareOp .NotIn) mF:=wc (wb hu) (t5 hu)
def rD:List DK->List D->DK->D->List D
 |k'::ks,d'::ds,k,d=>(if k'=k then d else d')::rD ks ds k d
 |_,_,_,_=>[]
def dJ (ks:List DK)(ds:List D)(k:DK)(d:D):D:=if fE ks k then .dic ks (rD ks ds k d) else .dic (ks++[k]) (ds++[d])
theorem rE {κ:Type}[DecidableEq κ](inj:κ->DK)(hi:∀ a b,inj a=inj b->a=b){H:Hp}{m:Addr->Prop}{kvs:List (κ×V)}{ds:List D}{k:κ}{v:V}{d:D}(h:IsAll H m ds (kvs.map Prod.snd))(hv:Is H m d v) :
 ∃ ks' ds',dJ (kvs.map fun p=>inj p.1) ds (inj k) d=.dic ks' ds'/\ks'=(bz kvs k v).map (fun p=>inj p.1)/\IsAll H m ds' ((bz kvs k v).map Prod.snd):=by
 have hany:fE (kvs.map fun p=>inj p.1) (inj k)=kvs.any fun p=>decide (p.1=k):=by unfold fE;rw[Lp];congr 1;funext p;exact Lm.mpr ⟨hi _ _,Ie inj⟩
 unfold dJ bz;rw[hany];by_cases e:(kvs.any fun p=>decide (p.1=k))=true
 .rw[Hx e,Hx e];refine⟨_,_,rfl,?_,?_⟩
  .rw[ID];refine J4 fun p _=>?_;show inj p.1=inj (if p.1=k then (p.1,v) else p).1;split<;>rfl
  .clear e hany;induction kvs generalizing ds with
   |nil=>
    cases ds with
    |nil=>exact rfl
    |cons d0 r=>obtain⟨_,_,z,_⟩:=h;cases z
   |cons p r ih=>
    cases ds with
    |nil=>cases h
    |cons d0 ds=>
     obtain⟨v0,r0,z,i1,i2⟩:=h;cases z;have:=ih i2;refine⟨_,_,rfl,?_,this⟩;dsimp only;by_cases e:p.1=k
     .rw[Hx (Ie inj e),Hx e];exact hv
     .rw[Hz (fun z=>e (hi _ _ z)),Hz e];exact i1
 .rw[Hz e,Hz e];exact⟨_,_,rfl,by simp,by rw[IU];exact h.append ⟨v,[],rfl,hv,rfl⟩⟩
def rF (i:Nat)(env:En)(ks:List DK)(ds:List D)(d:D)(k:R):Res Fl:=match keyX k.d with
 |some x=>if ks.all (kin x)/\ks.length<lim then .ok (.nx (env.set i (some (.tre (dJ ks ds x d))))) else .stuck
 |none=>.stuck
def rG (i:Nat)(fk:En->Res R)(env:En)(ks:List DK)(ds:List D)(r:R):Res Fl:=if r.d.flat then (fk env).bind (rF i env ks ds r.d) else .stuck
def wd (i:Nat)(env:En)(ks:List DK)(ds:List D)(d:D)(k:R):Res Fl:=match keyX k.d with
 |some x=>if ks.all (kin x)/\ks.length<lim then .ok (.nx (env.set i (some (.pin (dJ ks ds x d))))) else .stuck
 |none=>.stuck
def mG (i:Nat)(fk:En->Res R)(env:En)(ks:List DK)(ds:List D)(r:R):Res Fl:=if r.d.flat then (fk env).bind (wd i env ks ds r.d) else .stuck
def gy (i:Nat)(fk fv:En->Res R):En->Res Fl:=fun env=>match env[i]? with
 |some (some (.tre (.dic ks ds)))=>(fv env).bind (rG i fk env ks ds)
 |some (some (.pin (.dic ks ds)))=>(fv env).bind (mG i fk env ks ds)
 |_=>.stuck
def we (mk:D->Sl)(i:Nat)(env:En)(ks:List DK)(ds:List D)(d:D)(k:R):Res Fl:=match keyX k.d with
 |some x=>if ks.all (kin x)/\ks.length<lim then .ok (.nx (env.set i (some (mk (dJ ks ds x d))))) else .stuck
 |none=>.stuck
def wf (mk:D->Sl)(i:Nat)(fk:En->Res R)(env:En)(ks:List DK)(ds:List D)(r:R):Res Fl:=if r.d.flat then (fk env).bind (we mk i env ks ds r.d) else .stuck
theorem oe {i:Nat}{tk tv:TE}{fk fv:En->Res R}{g:Gd}{M:Addr->Prop}{ρ:Pr}{env:En}{σ:St}{H:Hp}{D:Ends}{ks:List DK}{ds:List L3.D}(mk:L3.D->Sl)(P0:Gd->V->Prop)(hmk:∀(g:Gd)(M T:Addr->Prop)(H:Hp)(v:V)(d:L3.D),SlOk g M T H v (mk d)↔Is H T d v/\P0 g v)(hmo':∀ d,(mk d).isO=true)
 (s1:Snd X.mg E tk fk) (s2:Snd X.mg E tv fv) (rep:Rep g M ρ env σ H) (hq:env[i]?=some (some (mk (.dic ks ds)))) (p:PostS X.mg E g M H D ((fv env).bind (wf mk i fk env ks ds))):u9 (fD i) tk tv D σ H:=by
 have hi:i<env.length:=(Hv.mp hq).1;refine s2.oneS rep p fun r v M1 H1 e1 rep1 ro p1=>?_;obtain⟨M1',x1,x1m,rep1',is1⟩:=ro.is rep1 e1 rep.same;unfold wf at p1;by_cases hf:r.d.flat=true
 .rw[Hx hf]at p1;obtain⟨va,ev,ka⟩:=rep1'.slot i _ hq;obtain⟨ka,hroot⟩:=(hmk g M1' (ρ i) H1 va (.dic ks ds)).mp ka;obtain⟨a,vs,rfl,⟨dat,pa⟩,hall⟩:=ka;refine⟨.ref a,ev,s1.oneS rep1' (PostS.frz ⟨x1m,fun _ _ q _=>q⟩ p1) fun rk y M2 H2 e2 rep2 rok p2=>?_⟩;obtain⟨M2',x2,x2m,rep2',is2⟩:=rok.is rep2 e2 rep1'.same;unfold we at p2;cases qk:keyX rk.d with
  |none=>rw[qk]at p2;exact p2.elim
  |some x=>
   rw[qk]at p2;dsimp only at p2;by_cases hc:ks.all (kin x)=true/\ks.length<lim
   .rw[Hx hc]at p2;have dat2:DAt H2 a ks vs:=dat.keep fun o e=>e2.h _ _ e;have hall2:IsAll H2 (ρ i) ds vs:=hall.same e2.h;have hv2:Is H2 (ρ i) r.d v:=Is.flat hf (is1.same e2.h);have kd:Is H2 (ρ i) (.dic ks ds) (.ref a):=⟨a,vs,rfl,⟨dat2,pa⟩,hall2⟩;have inner:IsAll H2 (fun b=>ρ i b/\b≠a) ds vs:=IsAll.avoid kd (by simp only[L3.D.sz];omega) hall2;have hv3:Is H2 (fun b=>ρ i b/\b≠a) r.d v:=Is.flat hf hv2;have nofz:∀ o u,H2 a≠some (.frz o u):=fun o u z=>by obtain⟨_,_,uo,q,qm⟩:=rep2'.priv i a pa;rw[z]at q;cases q;exact qm
    obtain⟨uo,huo,hmo⟩:=dat2.mu nofz;have rdn:∀ u,Rd H2 a u->H2 a=some u:=fun u z=>z.elim id fun⟨o,z⟩=>(nofz _ _ z).elim;have nfx:∀ u,H2 a=some u->¬ fixd u:=fun u e z=>by rw[huo]at e;cases e;cases uo<;>first|exact z|exact hmo
    have fin:∀(u':HO)(ks':List DK)(ds':List L3.D)(vs':List V),BS u'->DAt (av H2 a u') a ks' vs'->dJ ks ds x r.d=.dic ks' ds'->IsAll H2 (fun b=>ρ i b/\b≠a) ds' vs'->D.nx σ (av H2 a u'):=fun u' ks' ds' vs' hu' hd he hall'=>by
     rw[he]at p2;have hall3:IsAll (av H2 a u') (ρ i) ds' vs':=hall'.mono (fun b u q z=>by
      rw[ac]
      .exact q
      .rintro rfl;rcases z with z|z
       .exact z.2 rfl
       .exact nfx u q z) fun _ _ _ z=>z.1
     obtain⟨f1,rep3⟩:=rep2'.writeO (u':=u') hu' pa hi ev (sl:=mk (.dic ks' ds')) ((hmk g M2' (ρ i) _ _ _).mpr ⟨⟨a,vs',rfl,⟨hd,pa⟩,hall3⟩,hroot⟩) (hmo' _);exact p2 σ M2' ρ _ (Frz.trans ⟨x2m,fun _ _ q _=>q⟩ f1) rep3
    refine⟨a,?_⟩;rcases is2.keyX qk with⟨k0,rfl,rfl⟩|⟨k0,b,rfl,rfl,hb⟩
    .rcases dat2 with⟨kvs,e1,rfl,rfl⟩|⟨kvs,e1,rfl,rfl⟩
     .obtain⟨ks',ds',g1,g2,g3⟩:=rE Sum.inl (fun _ _ z=>J9 z) (k:=k0) inner hv3;refine⟨_,rfl,.inl (DPut.k (rdn _ e1) (by have:=hc.2;rw[HA]at this;exact hI this)),fin _ ks' ds' _ True.intro (.inl ⟨_,.inl ag,g2,rfl⟩) g1 g3⟩
     .cases kvs with
      |nil=>
       cases ds with
       |nil=>exact⟨_,rfl,.inr (.inl ⟨rdn _ e1,k0,rfl,rfl⟩),fin (.dK [(k0,v)]) [.inl k0] [r.d] [v] True.intro (.inl ⟨_,.inl ag,rfl,rfl⟩) rfl ⟨v,[],rfl,hv3,rfl⟩⟩
       |cons d0 ds0=>obtain⟨_,_,z,_⟩:=inner;cases z
      |cons q r0=>simp[kin]at hc
    .rcases dat2 with⟨kvs,e1,rfl,rfl⟩|⟨kvs,e1,rfl,rfl⟩
     .cases kvs with
      |nil=>
       cases ds with
       |nil=>exact⟨_,rfl,.inr (.inr ⟨rdn _ e1,b,k0,rfl,hb,rfl⟩),fin (.dT [(k0,v)]) [.inr k0] [r.d] [v] True.intro (.inr ⟨_,.inl ag,rfl,rfl⟩) rfl ⟨v,[],rfl,hv3,rfl⟩⟩
       |cons d0 ds0=>obtain⟨_,_,z,_⟩:=inner;cases z
      |cons q r0=>simp[kin]at hc
     .obtain⟨ks',ds',g1,g2,g3⟩:=rE Sum.inr (fun _ _ z=>KY z) (k:=k0) inner hv3;refine⟨_,rfl,.inl (DPut.t (rdn _ e1) hb (by have:=hc.2;rw[HA]at this;exact hI this)),fin _ ks' ds' _ True.intro (.inr ⟨_,.inl ag,g2,rfl⟩) g1 g3⟩
   .rw[Hz hc]at p2;exact p2.elim
 .rw[Hz hf]at p1;exact p1.elim
theorem gz {i:Nat}{o ki value:Expr}{fk fv:En->Res R}{pos pos':Pos}(hu:X.A.units+64<cLine)(ho:PE X o (fD i))(hk:PD X E ki fk)(hv:PD X E value fv)
 (hs:autoParam (swapsWith value (some (.Subscript o ki pos')) pos.line X.env=pure false) LF._auto_1):j7 X E (.Assign [.Subscript o ki pos'] value pos) (gy i fk fv):=by
 obtain⟨tk,p1,s1⟩:=hk;obtain⟨tv,p2,s2⟩:=hv;refine⟨_,u_ (by omega) ho p1 p2 hs,fun g M ρ env σ H D rep p=>?_⟩;unfold gy at p;split at p
 .rename_i ks ds hq;exact oe .tre (fun _ _=>True) (fun _ _ _ _ _ _=>⟨fun z=>⟨z,True.intro⟩,fun z=>z.1⟩) (fun _=>rfl) s1 s2 rep hq p
 .rename_i ks ds hq;exact oe .pin (fun g v=>g.root=some v) (fun _ _ _ _ _ _=>Iff.rfl) (fun _=>rfl) s1 s2 rep hq p
 .exact p.elim
def G1 (k:En->Res Fl):Fl->Res Fl
 | .nx e=>k e
 | .ct e=>k e
 | .bk e=>.ok (.nx e)
 | .rt r=>.ok (.rt r)
 | .rm r e=>.ok (.rm r e)
def aM (c:En->Res Bool)(b:En->Res Fl):Nat->En->Res Fl
 |0,_=>.stuck
 |n+1,env=>(c env).bind fun k=>if k then (b env).bind (G1 (aM c b n)) else .ok (.nx env)
theorem lB (N:Nat){c:Expr}{body:List Stmt}{fc:En->Res Bool}{fb:En->Res Fl}{pos:Pos}(hp:PassesOwn (model X.prog X.w) X.A X.env X.xe)(hc:xR X E c fc)(hb:kn X E body fb):j7 X E (.While c body [] pos) (aM fc fb N):=by
 obtain⟨tc,p1,s1⟩:=hc;obtain⟨tb,p2,s2⟩:=hb;refine⟨_,uO hp p1 p2,fun g M ρ env σ H D rep p=>?_⟩;refine⟨fun m σ H=>∃ M1 ρ1 env1,Rep g M1 ρ1 env1 σ H/\PostS X.mg E g M1 H D (aM fc fb m env1),⟨N,M,ρ,env,rep,p⟩,?_⟩;rintro m σ1 H1 ⟨M1,ρ1,env1,rep1,q1⟩;cases m with
 |zero=>exact(show False from q1).elim
 |succ m=>
  unfold aM at q1;refine s1 g M1 ρ1 env1 σ1 H1 _ rep1 ?_;cases e:fc env1 with
  |stuck=>rw[e]at q1;exact q1
  |exc c=>rw[e]at q1;exact q1
  |ok b=>
   rw[e]at q1;intro M2 H2 e2 rep2;cases b with
   |false=>refine s_ ?_;exact(show PostS X.mg E g M1 H1 D (.ok (.nx env1)) from q1) σ1 M2 ρ1 H2 e2.frz rep2
   |true=>
    refine tf ?_;have q1:PostS X.mg E g M1 H1 D ((fb env1).bind (G1 (aM fc fb m))):=q1;refine⟨fun σ' H'=>∃ M' ρ' az,Rep g M' ρ' az σ' H'/\PostS X.mg E g M' H' D (aM fc fb m az),fun σ' H' h=>⟨m,KM m,h⟩,?_⟩;refine s2 g M2 ρ1 env1 σ1 H2 _ rep2 ?_;cases e3:fb env1 with
    |stuck=>rw[e3]at q1;exact q1
    |exc c=>rw[e3]at q1;exact q1
    |ok fl=>
     rw[e3]at q1;cases fl with
     |nx e'=>exact fun σ' M' ρ' H' f rep'=>⟨M',ρ',e',rep',PostS.frz (e2.frz.trans f) (show PostS X.mg E g M1 H1 D (aM fc fb m e') from q1)⟩
     |ct e'=>exact fun σ' M' ρ' H' f rep'=>⟨M',ρ',e',rep',PostS.frz (e2.frz.trans f) (show PostS X.mg E g M1 H1 D (aM fc fb m e') from q1)⟩
     |bk e'=>exact fun σ' M' ρ' H' f rep'=>(show PostS X.mg E g M1 H1 D (.ok (.nx e')) from q1) σ' M' ρ' H' (e2.frz.trans f) rep'
     |rt r=>exact fun v M' H' f=>(show PostS X.mg E g M1 H1 D (.ok (.rt r)) from q1) v M' H' (e2.frz.trans f)
     |rm r e'=>exact fun v σ' M' ρ' H0 H' f=>(show PostS X.mg E g M1 H1 D (.ok (.rm r e')) from q1) v σ' M' ρ' H0 H' (e2.frz.trans f)
def mH:List R->Res R
 | [r]=>match r.d with
  | .lst ds=>.ok (mkV (.tup ds) r.fr r.al)
  | .tup ds=>.ok (mkV (.tup ds) r.fr r.al)
  |_=>.stuck
 |_=>.stuck
theorem wg:fI X E (.type "tuple") mH:=by
 refine⟨_,j_,fun g M ρ env σ H Q rs vs rep i p=>?_⟩
 match rs,i,p with
 | [r],i,p=>
  obtain⟨v,w,rfl,i1,i2⟩:=i;cases i2;have i1:Is H (vmsk g M (aL [r]) ρ (bc [r])) r.d v:=i1;replace i1:=i1.weak fun _ z=>mx z;unfold mH at p;dsimp only at p;cases q:r.d with
  |lst ds=>rw[q]at p i1;obtain⟨a,ws,rfl,h1,h2⟩:=i1.rd;exact⟨a,ws,rfl,.inl ⟨.inl h1,fun l hl=>p.tup rep hl h2⟩⟩
  |tup ds=>rw[q]at p i1;have i1':=i1;obtain⟨a,ws,rfl,h1,h2⟩:=i1;exact⟨a,ws,rfl,.inr ⟨SqT.of h1,p.val rep i1'⟩⟩
  |_=>rw[q]at p;exact p.elim
 | [],_,p=>exact p.elim
 |_::_::_,_,p=>exact p.elim
def EG (k2:R->R->Res R)(fc:En->Res R)(env:En)(rb:R):R->Res R
 | .val (.bl true) _ _=>(fc env).bind fun rc=>k2 rb rc
 | .val (.bl false) _ _=>.ok (.val (.bl false) true [])
 |_=>.stuck
def f6 (k1 k2:R->R->Res R)(fa fb fc:En->Res R):En->Res R:=fun env=>(fa env).bind fun ra=>(fb env).bind fun rb=>(k1 ra rb).bind (EG k2 fc env rb)
theorem t8 {r r':R2}{k1 k2:R->R->Res R}{ta tb tc:TE}{fa fb fc:En->Res R}{mg:Str->Option Lx}
 (h1:∀ g M ρ env σ H Q ra rb x y,Rep g M ρ env σ H->Is H (vmsk g M ra.fr ρ ra.al) ra.d x->Is H (vmsk g M rb.fr ρ rb.al) rb.d y->PostE mg E g M ρ env σ H Q (k1 ra rb)->r x y H Q)
 (h2:∀ g M ρ env σ H Q ra rb x y,Rep g M ρ env σ H->Is H (vmsk g M ra.fr ρ ra.al) ra.d x->Is H (vmsk g M rb.fr ρ rb.al) rb.d y->PostE mg E g M ρ env σ H Q (k2 ra rb)->r' x y H Q)
 (sa:Snd mg E ta fa) (sb:Snd mg E tb fb) (sc:Snd mg E tc fc):Snd mg E (uR r r' ta tb tc) (f6 k1 k2 fa fb fc):=by
 intro g M ρ env σ H Q rep p;refine sa.twoE sb rep p fun ra rb x y M1 H1 rep1 i1 i2 p1=>?_;refine h1 g M1 ρ env σ H1 _ ra rb x y rep1 i1 i2 ?_;cases q:k1 ra rb with
 |stuck=>rw[q]at p1;exact p1
 |exc c=>rw[q]at p1;exact p1
 |ok rr=>
  rw[q]at p1;have p1:PostE mg E g M1 ρ env σ H1 Q (EG k2 fc env rb rr):=p1;unfold EG at p1;intro v M2 H2 e2 rep2 ro;split at p1
  .cases (show v=.bl true from ro);refine⟨true,rfl,tf ?_⟩;have p2:=PostE.ext e2 p1;have i2':=Is.ext e2 i2;refine sc.oneE rep2 p2 fun rc z M3 H3 e3 rep3 i3 p3=>?_;exact h2 g M3 ρ env σ H3 Q rb rc y z rep3 (Is.ext e3 i2') i3 p3
  .cases (show v=.bl false from ro);exact⟨false,rfl,s_ (p1 (.bl false) M2 H2 e2 rep2 rfl)⟩
  .exact p1.elim
theorem fm {a b c:Expr}{fa fb fc:En->Res R}{op op':CmpOp}{k1 k2:R->R->Res R}{pos:Pos}(ho:j5 X E (compareOp op) k1)(ho':j5 X E (compareOp op') k2)(ha:PD X E a fa)(hb:PD X E b fb)(hc:PD X E c fc)
 (hm:lastMarks [op,op'] [b,c]=false:=by with_unfolding_all rfl):xR X E (.Compare a [op,op'] [b,c] pos) (vB (f6 k1 k2 fa fb fc)):=by
 obtain⟨r,o1,h1⟩:=ho;obtain⟨r',o2,h2⟩:=ho';obtain⟨ta,pa,sa⟩:=ha;obtain⟨tb,pb,sb⟩:=hb;obtain⟨tc,pc,sc⟩:=hc;have S:=t8 h1 h2 sa sb sc;refine⟨_,uS o1 o2 pa pb pc hm,fun g M ρ env σ H Q rep p=>S.oneT rep p fun r v M' H' e rep' i p'=>?_⟩;cases q:r.d with
 |bl b=>rw[q]at i;simp only[q]at p';cases i;exact⟨b,rfl,p' M' H' (Ext.refl _ _) rep'⟩
 |_=>simp only[q]at p';exact p'.elim
def t9:List R->Res R
 | [r]=>match r.d with
  | .lst ds=>match cK ds with
   |some bs=>.ok (.val (.bl (bs.any id)) true [])
   |none=>.stuck
  |_=>.stuck
 |_=>.stuck
theorem t_ (hc:X.calm=true):CallR X (.builtin "any") (fun xs H Q=>∃(p:Addr)(vs:List V)(bs:List Bool),xs=[.ref p]/\SqL X.K H p vs/\vs=bs.map V.bl/\Q (.bl (bs.any id)) H):=by
 intro pins s σ H xs us Q I r h;obtain⟨p,vs,bs,rfl,hq,rfl,q⟩:=h;obtain⟨u,rfl,rx⟩:=cW r;cases rx;obtain⟨its,rv,pl,hz⟩:=I.list hq;have hh:X.A.in1.handled=none:=I.ok.hd hc;obtain⟨o,ho,_⟩:=pl.isList;have hlt:p<s.heap.objs.size:=HN ho;refine call_any_walk (Kg pl.isList ?_);refine⟨s.heap.objs.size,_,_,_,_,_,fun i=>(bs[i]?).getD false,rfl,Walks.list hh s.heap.objs.size p (Ic hlt) its.toArray,⟨⟨_,HQ _ rfl,rfl,rfl⟩,?_⟩,?_,fun h' tk hk=>?_⟩
 .exact pl.isList.at fun o e=>Hu _ e
 .intro i v s' Q' E' hv hQ';have hv:its[i]?=some v:=by simpa using hv
  have hi:i<its.length:=(Hv.mp hv).1;have hl:=rv.length;have hb:i<bs.length:=by simpa using (by rw[HA]at hl;omega:i<bs.length)
  obtain⟨u',hu,ru⟩:=rv.get (i:=i) (x:=.bl bs[i]) (by simp[hb]);rw[hv]at hu;cases hu;cases ru;have eb:bs[i]?=some bs[i]:=by simp[hb]
  dsimp only at hQ';rw[eb]at hQ';exact Jw hQ'
 .have hl:=rv.length;rw[HA]at hl;have e:((List.range its.toArray.size).any fun i=>(bs[i]?).getD false)=bs.any id:=by
   rw[Hy,<- hl];rw[K5,Ln,Ln];constructor
   .rintro⟨i,hi,h⟩;have hi:i<bs.length:=by simpa using hi
    have eb:bs[i]?=some bs[i]:=by simp[hi]
    rw[eb]at h;exact⟨bs[i],Kp hi,h⟩
   .rintro⟨b,hb,h⟩;obtain⟨i,hi⟩:=HU.mp hb;refine⟨i,by simp;exact(Hv.mp hi).1,?_⟩;rw[hi];exact h
  rw[e];refine⟨.bl _,H,?_,rfl,q⟩;have I1:L2.Inv X pins σ H { s with heap:=s.heap.push { cls:=.type "list_iterator",data:=.fields #[.ref p,.int 0 0] } }:=I.kept (t':=s.toks) fun b o e=>Hu _ e;have fo:=I.fpOk (H':=H) (HB s.heap.objs.size) (I.hok.fresh (HB _));exact I1.turned (t':=tk) (it:=s.heap.objs.size) (fun b o hb e=>hk b o (by simpa using hb) e) fo.1 fo.2.1 fo.2.2.2.1 fo.2.2.2.2.1 fo.2.2.2.2.2
theorem qg (hc:X.calm=true):fI X E (.builtin "any") t9:=by
 refine⟨_,t_ hc,fun g M ρ env σ H Q rs vs rep i p=>?_⟩
 match rs,i,p with
 | [r],i,p=>
  obtain⟨v,w,rfl,i1,i2⟩:=i;cases i2;have i1:Is H (vmsk g M (aL [r]) ρ (bc [r])) r.d v:=i1;unfold t9 at p;dsimp only at p;cases q:r.d with
  |lst ds=>
   rw[q]at p i1;obtain⟨a,ws,rfl,h1,h2⟩:=i1.rd;dsimp only at p;cases qb:cK ds with
   |none=>rw[qb]at p;exact p.elim
   |some bs=>
    rw[qb]at p;refine⟨a,ws,bs,rfl,.inl h1,?_,p _ M H (Ext.refl _ _) rep rfl⟩;apply Jq
    intro j;by_cases hj:j<ds.length
    .obtain⟨b,e1,e2⟩:=h8 (i:=j) (d:=ds[j]) qb (by simp[hj]);obtain⟨v',ev,iv⟩:=h2.get (i:=j) (d:=ds[j]) (by simp[hj]);rw[e1]at iv;cases iv;rw[ev,Ip,e2];rfl
    .have l1:=h2.length;have l2:=h9 qb;rw[Jd (by omega),Jd (by simp;omega)]
  |_=>rw[q]at p;exact p.elim
 | [],_,p=>exact p.elim
 |_::_::_,_,p=>exact p.elim
end
def eJ (i:Nat)(fk fv:En->Res R)(env:En):Option (Option Sl)->Res Fl
 |some (some (.tre (.dic _ _)))=>gy i fk fv env
 |some (some (.pin (.dic _ _)))=>gy i fk fv env
 |_=>ir i fk fv env
def gA (i:Nat)(fk fv:En->Res R):En->Res Fl:=fun env=>eJ i fk fv env env[i]?
theorem eL {X:Cx}{E:XK}{i:Nat}{fk fv:En->Res R}{st:Stmt}(h1:j7 X E st (ir i fk fv))(h2:j7 X E st (gy i fk fv)):j7 X E st (gA i fk fv):=by
 obtain⟨t1,p1,s1⟩:=h1;obtain⟨t2,p2,s2⟩:=h2;refine⟨fun D σ H=>t1 D σ H\/t2 D σ H,fun pins s σ H D I h=>h.elim (p1 pins s σ H D I) (p2 pins s σ H D I),fun g M ρ env σ H D rep p=>?_⟩;unfold gA eJ at p;split at p
 .exact .inr (s2 g M ρ env σ H D rep p)
 .exact .inr (s2 g M ρ env σ H D rep p)
 .exact .inl (s1 g M ρ env σ H D rep p)
def getD:List DK->List D->DK->Option D
 |k'::ks,d::ds,k=>if k'=k then some d else getD ks ds k
 |_,_,_=>none
def jD (ra rk:R):Res R:=match ra.d with
 | .dic ks ds=>match keyX rk.d with
  |some x=>if ks.all (kin x) then (match getD ks ds x with
   |some d=>.ok (mkV d ra.fr ra.al)
   |none=>.stuck) else .stuck
  |none=>.stuck
 |_=>.stuck
theorem i0 {κ:Type}[DecidableEq κ](inj:κ->DK)(hi:∀ a b,inj a=inj b->a=b){H:Hp}{m:Addr->Prop}{k:κ}{d:D}:∀{kvs:List (κ×V)}{ds:List D},IsAll H m ds (kvs.map Prod.snd)->getD (kvs.map fun p=>inj p.1) ds (inj k)=some d->∃ v,cV kvs k=some v/\Is H m d v
 | [],ds,_,e=>by cases ds<;>cases e
 |p::r,[],h,e=>by cases h
 |p::r,d0::ds,h,e=>by
  obtain⟨v0,r0,z,i1,i2⟩:=h;cases z;rw[HL]at e;unfold getD at e;by_cases hk:p.1=k
  .rw[Hx (Ie inj hk)]at e;cases e;exact⟨p.2,di hk,i1⟩
  .rw[Hz (fun z=>hk (hi _ _ z))]at e;obtain⟨v,e1,e2⟩:=i0 inj hi i2 e;exact⟨v,by rw[dj hk];exact e1,e2⟩
section
variable {X:Cx}{E:XK}
theorem mI {o k:Expr}{fa fk:En->Res R}{pos:Pos}(hu:X.A.units+64<cLine)(ho:PD X E o fa)(hk:PD X E k fk)(hs:BB k):PD X E (.Subscript o k pos) (v2 jD fa fk):=by
 obtain⟨ta,p1,s1⟩:=ho;obtain⟨tk,p2,s2⟩:=hk;refine⟨_,yi (by omega) p1 p2 hs,fun g M ρ env σ H Q rep p=>s1.twoE s2 rep p fun ra rk x y M1 H1 rep1 i1 i2 q=>?_⟩;unfold jD at q;cases qa:ra.d with
 |dic ks ds=>
  rw[qa]at q i1;dsimp only at q;cases qk:keyX rk.d with
  |none=>rw[qk]at q;exact q.elim
  |some kx=>
   rw[qk]at q;dsimp only at q;by_cases hc:ks.all (kin kx)=true
   .rw[Hx hc]at q;obtain⟨a,vs,rfl,⟨dat,_⟩,hall⟩:=i1;cases qd:getD ks ds kx with
    |none=>rw[qd]at q;exact q.elim
    |some d=>
     rw[qd]at q;refine⟨a,?_⟩;rcases i2.keyX qk with⟨k0,rfl,rfl⟩|⟨k0,b,rfl,rfl,hb⟩
     .rcases dat with⟨kvs,e1,rfl,rfl⟩|⟨kvs,e1,rfl,rfl⟩
      .obtain⟨v,g1,g2⟩:=i0 Sum.inl (fun _ _ z=>J9 z) hall qd;exact⟨v,rfl,by rw[<- g1];exact .inl ⟨kvs,k0,e1,rfl,rfl⟩,q.val rep1 g2⟩
      .cases kvs with
       |nil=>cases ds<;>cases qd
       |cons p r=>simp[kin]at hc
     .rcases dat with⟨kvs,e1,rfl,rfl⟩|⟨kvs,e1,rfl,rfl⟩
      .cases kvs with
       |nil=>cases ds<;>cases qd
       |cons p r=>simp[kin]at hc
      .obtain⟨v,g1,g2⟩:=i0 Sum.inr (fun _ _ z=>KY z) hall qd;exact⟨v,rfl,by rw[<- g1];exact .inr ⟨kvs,k0,b,e1,rfl,hb,rfl⟩,q.val rep1 g2⟩
   .rw[Hz hc]at q;exact q.elim
 |_=>rw[qa]at q;exact q.elim
def gC (i:Nat)(fb:En->Res R)(env:En):Option (Option Sl)->Res R
 |some (some (.tre (.dic _ _)))=>v2 jD (ai i) fb env
 |some (some (.val (.dic _ _) _))=>v2 jD (ai i) fb env
 |some (some (.pin (.dic _ _)))=>v2 jD (ai i) fb env
 |_=>jw i fb env
def bI (i:Nat)(fb:En->Res R):En->Res R:=fun env=>gC i fb env env[i]?
theorem qh {e:Expr}{i:Nat}{fb:En->Res R}(h1:PD X E e (jw i fb))(h2:PD X E e (v2 jD (ai i) fb)):PD X E e (bI i fb):=by
 obtain⟨t1,p1,s1⟩:=h1;obtain⟨t2,p2,s2⟩:=h2;refine⟨fun σ H Q=>t1 σ H Q\/t2 σ H Q,fun pins s σ H Q I h=>h.elim (p1 pins s σ H Q I) (p2 pins s σ H Q I),fun g M ρ env σ H Q rep p=>?_⟩;unfold bI gC at p;split at p
 .exact .inr (s2 g M ρ env σ H Q rep p)
 .exact .inr (s2 g M ρ env σ H Q rep p)
 .exact .inr (s2 g M ρ env σ H Q rep p)
 .exact .inl (s1 g M ρ env σ H Q rep p)
def F1 (ra:R)(ks:List DK)(ds:List D)(rk rz:R):Res R:=match keyX rk.d with
 |some x=>if ks.all (kin x) then (match getD ks ds x with
  |some d=>.ok (mkV d ra.fr ra.al)
  |none=>.ok (mkV rz.d rz.fr rz.al)) else .stuck
 |none=>.stuck
def GE (fx:En->Res R)(env:En)(ra:R)(ks:List DK)(ds:List D)(rk:R):Res R:=(fx env).bind (F1 ra ks ds rk)
def EH (fk fx:En->Res R)(env:En)(ra:R):Res R:=match ra.d with
 | .dic ks ds=>(fk env).bind (GE fx env ra ks ds)
 |_=>.stuck
def og (fa fk fx:En->Res R):En->Res R:=fun env=>(fa env).bind (EH fk fx env)
theorem DAt.isD {H:Hp}{a:Addr}{ks:List DK}{vs:List V}(h:DAt H a ks vs):FN H a:=h.imp (fun⟨kvs,e,_⟩=>⟨kvs,e⟩) fun⟨kvs,e,_⟩=>⟨kvs,e⟩
theorem rH:∀{ks:List DK}{ds:List D}{k:DK},ks.length=ds.length->fE ks k=(getD ks ds k).isSome
 | [],ds,k,_=>by cases ds<;>rfl
 |k'::ks,[],k,h=>by cases h
 |k'::ks,d::ds,k,h=>by
  have ih:=rH (ks:=ks) (ds:=ds) (k:=k) (by simpa using h);unfold fE getD;unfold fE at ih;rw[Jm];by_cases e:k'=k
  .rw[Hx e,HG e];rfl
  .rw[Hz e,HF e,Bool.false_or];exact ih
theorem wj {H:Hp}{a:Addr}{ks:List DK}{vs:List V}{ds:List D}{m m':Addr->Prop}{d:D}{x:V}{k:DK}(h:DAt H a ks vs)(hall:IsAll H m ds vs)(hx:Is H m' d x)(e:L3.keyX d=some k)(hk:ks.all (kin k)=true) :
 ∃ o,jf H a x o/\(match getD ks ds k with|some d=>∃ v,o=some v/\Is H m d v|none=>o=none):=by
 have key:∀{κ:Type} [DecidableEq κ] (inj:κ->DK) (hi:∀ a b,inj a=inj b->a=b) (kvs:List (κ×V)) (k0:κ),IsAll H m ds (kvs.map Prod.snd)->(match getD (kvs.map fun p=>inj p.1) ds (inj k0) with|some d=>∃ v,cV kvs k0=some v/\Is H m d v|none=>cV kvs k0=none):=by
  intro κ _ inj hi kvs k0 hl;have bg:(kvs.map fun p=>inj p.1).length=ds.length:=by have:=hl.length;rw[HA]at this ⊢;exact this
  have h1:=rH (k:=inj k0) bg;have h2:=jC (kvs:=kvs) inj hi k0;cases q:getD (kvs.map fun p=>inj p.1) ds (inj k0) with
  |some d=>exact i0 inj hi hl q
  |none=>
   rw[q]at h1;rw[h1]at h2;cases z:cV kvs k0 with
   |none=>rfl
   |some v=>rw[z]at h2;cases h2
 rcases hx.keyX e with⟨k0,rfl,rfl⟩|⟨k0,b,rfl,rfl,hb⟩
 .rcases h with⟨kvs,e1,rfl,rfl⟩|⟨kvs,e1,rfl,rfl⟩
  .exact⟨_,.inl (.inl ⟨kvs,k0,e1,rfl,rfl⟩),key Sum.inl (fun _ _ z=>J9 z) kvs k0 hall⟩
  .cases kvs with
   |nil=>exact⟨none,.inr (.inl ⟨e1,⟨k0,rfl⟩,rfl⟩),by cases ds<;>rfl⟩
   |cons p r=>simp[kin]at hk
 .rcases h with⟨kvs,e1,rfl,rfl⟩|⟨kvs,e1,rfl,rfl⟩
  .cases kvs with
   |nil=>exact⟨none,.inr (.inr ⟨e1,⟨b,k0,rfl,hb⟩,rfl⟩),by cases ds<;>rfl⟩
   |cons p r=>simp[kin]at hk
  .exact⟨_,.inl (.inr ⟨kvs,k0,b,e1,rfl,hb,rfl⟩),key Sum.inr (fun _ _ z=>KY z) kvs k0 hall⟩
theorem rJ {o k x:Expr} {fa fk fx:En->Res R} {apos cpos:Pos} (hu:X.A.units+64<cLine) (ho:PD X E o fa) (hk:PD X E k fk) (hx:PD X E x fx) (m:M2 X o "get" apos k x cpos):PD X E (.Call (.Attribute o "get" apos) [k,x] [] cpos) (og fa fk fx):=by
 obtain⟨ta,p1,s1⟩:=ho;obtain⟨tk,p2,s2⟩:=hk;obtain⟨tx,p3,s3⟩:=hx;refine⟨_,tm (by omega) p1 p2 p3 m,fun g M ρ env σ H Q rep p=>s1.oneE rep p fun ra v M1 H1 e1 rep1 i1 q1=>?_⟩;unfold EH at q1;cases qa:ra.d with
 |dic ks ds=>
  rw[qa]at q1 i1;dsimp only at q1;obtain⟨a,vs,rfl,⟨dat,ma⟩,hall⟩:=i1;refine⟨a,rfl,dat.isD,s2.oneE rep1 q1 fun rk y M2 H2 e2 rep2 i2 q2=>?_⟩;refine s3.oneE rep2 q2 fun rz z M3 H3 e3 rep3 i3 q3=>?_;unfold F1 at q3;cases qk:keyX rk.d with
  |none=>rw[qk]at q3;exact q3.elim
  |some kx=>
   rw[qk]at q3;dsimp only at q3;by_cases hc:ks.all (kin kx)=true
   .rw[Hx hc]at q3;have dat3:DAt H3 a ks vs:=dat.keep fun o e=>e3.h _ _ (e2.h _ _ e);have hall3:IsAll H3 (vmsk g M3 ra.fr ρ ra.al) ds vs:=(hall.ext e2).ext e3;obtain⟨ov,g1,g2⟩:=wj dat3 hall3 (i2.ext e3) qk hc;refine⟨ov,g1,?_⟩;cases qd:getD ks ds kx with
    |some d=>rw[qd]at q3 g2;obtain⟨v,rfl,iv⟩:=g2;exact q3.val rep3 iv
    |none=>rw[qd]at q3 g2;have g2:ov=none:=g2;subst g2;exact q3.val rep3 i3
   .rw[Hz hc]at q3;exact q3.elim
 |_=>rw[qa]at q1;exact q1.elim
end
noncomputable def gD:List D->Option (List Int)
 | []=>some []
 | .int i::r=>(gD r).map (i::·)
 |_::_=>none
def Ce:D->Option (List Int)
 | .tup ds=>gD ds
 |_=>none
def tupsI:List D->Option (List (List Int))
 | []=>some []
 |d::r=>match Ce d,tupsI r with
  |some k,some ks=>some (k::ks)
  |_,_=>none
noncomputable def oh (k:List Int):D:=.tup (k.map .int)
def jE (k:List Int):List (List Int)->List (List Int)
 | []=>[k]
 |h::t=>if k=h then h::t else if lexB k h then k::h::t else h::jE k t
def bT:List (List Int)->List (List Int)
 | []=>[]
 |k::ks=>jE k (bT ks)
def yX (N:Nat)(r:R):Res R:=match r.d with
 | .lst ds=>match tupsI ds with
  |some ks=>if decide (ds.length<=N)&&ks.all (fun k=>!k.isEmpty) then .ok (.new ((bT ks).map oh) true) else .stuck
  |none=>.stuck
 |_=>.stuck
def ua (r:R):Res R:=yX 300 r
def yY (f:En->Res R):En->Res R:=fun env=>(f env).bind ua
theorem mJ (k x:List Int):∀ l,x∈jE k l↔x=k\/x∈l
 | []=>by simp[jE]
 |h::t=>by
  unfold jE;split
  .rename_i e;subst e;simp
  .split
   .simp
   .rw[HE,mJ k x t,HE];constructor
    .rintro (z|z|z)
     .exact .inr (.inl z)
     .exact .inl z
     .exact .inr (.inr z)
    .rintro (z|z|z)
     .exact .inr (.inl z)
     .exact .inl z
     .exact .inr (.inr z)
theorem wl (k:List Int):∀ l,l.Pairwise (fun x y=>lexB x y=true)->(jE k l).Pairwise (fun x y=>lexB x y=true)
 | [],_=>Jg _ _
 |h::t,p=>by
  obtain⟨p1,p2⟩:=Iw.mp p;unfold jE;split
  .exact p
  .rename_i hne;split
   .rename_i hlt;refine Iw.mpr ⟨fun y hy=>?_,p⟩;rcases HE.mp hy with rfl|hy
    .exact hlt
    .exact l_ _ _ _ hlt (p1 y hy)
   .rename_i hlt;refine Iw.mpr ⟨fun y hy=>?_,wl k t p2⟩;rcases (mJ k y t).mp hy with rfl|hy
    .exact(gh _ _ hne).resolve_left hlt
    .exact p1 y hy
theorem dw (x:List Int):∀ ks,x∈bT ks↔x∈ks
 | []=>by simp[bT]
 |k::ks=>by unfold bT;rw[mJ,dw x ks,HE]
theorem mK:∀ ks,(bT ks).Pairwise (fun x y=>lexB x y=true)
 | []=>List.Pairwise.nil
 |k::ks=>by unfold bT;exact wl k _ (mK ks)
theorem wm {a b:List Int}(h:lexB a b=true):lexB b a=false:=by
 cases q:lexB b a with
 |false=>rfl
 |true=>have:=l_ _ _ _ h q;rw[dD]at this;cases this
theorem jF:∀(a b:List (List Int)),a.Pairwise (fun x y=>lexB x y=true)->b.Pairwise (fun x y=>lexB x y=true)->(∀ x,x∈a↔x∈b)->a=b
 | [],[],_,_,_=>rfl
 | [],y::b,_,_,h=>by have:=(h y).mpr HW;simp at this
 |x::a,[],_,_,h=>by have:=(h x).mp HW;simp at this
 |x::a,y::b,pa,pb,h=>by
  obtain⟨a1,a2⟩:=Iw.mp pa;obtain⟨b1,b2⟩:=Iw.mp pb;have hxy:x=y:=by
   rcases HE.mp ((h x).mp HW) with e|e
   .exact e
   .rcases HE.mp ((h y).mpr HW) with e'|e'
    .exact e'.symm
    .have:=wm (a1 y e');rw[b1 x e]at this;cases this
  subst hxy;rw[jF a b a2 b2 fun z=>?_];constructor
  .intro hz;rcases HE.mp ((h z).mp (HV _ hz)) with e|e
   .have:=a1 z hz;rw[e,dD]at this;cases this
   .exact e
  .intro hz;rcases HE.mp ((h z).mpr (HV _ hz)) with e|e
   .have:=b1 z hz;rw[e,dD]at this;cases this
   .exact e
section
variable {H:Hp}{m:Addr->Prop}
theorem IsAll.ints:∀{ds:List D}{vs:List V}{k:List Int},IsAll H m ds vs->gD ds=some k->vs=(iK k).map kV
 | [],_,_,h,e=>by cases h;cases e;rfl
 |d::ds,_,k,h,e=>by
  obtain⟨v,r,rfl,h1,h2⟩:=h;cases d with
  |int i=>unfold gD at e;obtain⟨k',e1,rfl⟩:=I0.mp e;rw[IsAll.ints h2 e1,show v=V.int i from h1];rfl
  |_=>cases e
theorem jG:∀(k:List Int),IsAll H m (k.map .int) ((iK k).map kV)
 | []=>rfl
 |i::k=>⟨.int i,_,rfl,rfl,jG k⟩
theorem IsAll.tupsI:∀{ds:List D}{vs:List V}{ks:List (List Int)},IsAll H m ds vs->L3.tupsI ds=some ks->∃ its:List TItem,TupsIn H vs its/\its.map (·.1)=ks
 | [],_,_,h,e=>by cases h;cases e;exact⟨[],.nil,rfl⟩
 |d::ds,_,ks,h,e=>by
  obtain⟨v,r,rfl,h1,h2⟩:=h;unfold L3.tupsI at e;cases q:Ce d with
  |none=>rw[q]at e;cases e
  |some k=>
   cases q2:L3.tupsI ds with
   |none=>rw[q,q2]at e;cases e
   |some ks'=>
    rw[q,q2]at e;cases e;obtain⟨its,t1,t2⟩:=IsAll.tupsI h2 q2;cases d with
    |tup es=>obtain⟨a,ws,rfl,g1,g2⟩:=h1;have q:gD es=some k:=q;rw[IsAll.ints g2 q]at g1;exact⟨(k,a)::its,.cons ⟨rfl,g1⟩ t1,by rw[HL,t2]⟩
    |_=>cases q
end
theorem jH {H:Hp}:∀{vs:List V}{its:List TItem},TupsIn H vs its->vs.length=its.length
 |_,_,.nil=>rfl
 |_,_,.cons _ t=>by simp[jH t]
theorem lC {H:Hp}:∀{vs:List V}{its:List TItem},TupsIn H vs its->∀ x∈its,H x.2=some (.tup ((iK x.1).map kV))
 |_,_,.nil,x,hx=>nomatch hx
 |_,_,.cons q t,x,hx=>by
  rcases HE.mp hx with rfl|hx
  .exact q.2
  .exact lC t x hx
theorem iA {H:Hp}{m:Addr->Prop}:∀{ys:List TItem},(∀ y∈ys,H y.2=some (.tup ((iK y.1).map kV)))->IsAll H m (ys.map (oh ∘ fun y=>y.1)) (ys.map fun y=>.ref y.2)
 | [],_=>rfl
 |y::ys,h=>⟨.ref y.2,_,rfl,⟨y.2,_,rfl,h y HW,jG y.1⟩,iA fun z hz=>h z (HV _ hz)⟩
section
variable {X:Cx}{E:XK}
theorem ku {N:Nat}(hN:N<=300)(hso:iU X.prog X.w N){e:Expr}{f:En->Res R}{x1 x2:Str}{p1 p2 pos1 pos2:Pos}(hc:X.calm=true)(hu:X.A.units+64<cLine)(h:PD X E e f)
 (hg1:Gl X x1) (hm1:X.mg x1=none) (hv1:bootBuiltins x1=some (.builtin "sorted")) (hg2:Gl X x2) (hm2:X.mg x2=none) (hv2:bootBuiltins x2=some (.type "set"))
 (hn1:autoParam (x1≠"__name__") Lz._auto_1) (hdb1:autoParam ((x1==("__debug__" : Str))=false) Lz._auto_1) (hn2:autoParam (x2≠"__name__") Lz._auto_1) (hdb2:autoParam ((x2==("__debug__" : Str))=false) Lz._auto_1)
 (he2:autoParam (starEach [e] X.env=(false,eval e X.env)::starEach [] X.env) LF._auto_1) (hpl2:autoParam ((backTo pos2 (starEach [] X.env)).any (·.1)=false) LF._auto_1)
 (he1:autoParam (starEach [.Call (.Name x2 p2) [e] [] pos2] X.env=(false,eval (.Call (.Name x2 p2) [e] [] pos2) X.env)::starEach [] X.env) LF._auto_1) (hpl1:autoParam ((backTo pos1 (starEach [] X.env)).any (·.1)=false) LF._auto_1) :
 PD X E (.Call (.Name x1 p1) [.Call (.Name x2 p2) [e] [] pos2] [] pos1) (fun env=>(f env).bind (yX N)):=by
 obtain⟨t,p1,s1⟩:=h;refine⟨_,ga (mf hc hN hso) hg1 hm1 hv1 (bh (g6 (tz hc hu) hg2 hm2 hv2 (bh p1 ck he2) hn2 hdb2 he2 hpl2) ck he1) hn1 hdb1 he1 hpl1,fun g M ρ env σ H Q rep p=>?_⟩;refine s1.oneE rep p fun r v M1 H1 e1 rep1 i1 q1=>?_;unfold yX at q1;cases qd:r.d with
 |lst ds=>
  rw[qd]at q1 i1;dsimp only at q1;cases qt:tupsI ds with
  |none=>rw[qt]at q1;exact q1.elim
  |some ks=>
   rw[qt]at q1;dsimp only at q1;by_cases hcond:(decide (ds.length<=N)&&ks.all (fun k=>!k.isEmpty))=true
   .rw[Hx hcond]at q1;simp only[Ir,JW,Jn]at hcond;obtain⟨hl,hne⟩:=hcond;obtain⟨a,vs,rfl,h1,h2⟩:=i1.rd;obtain⟨its,t1,t2⟩:=h2.tupsI qt;have hvl:vs.length<=N:=by rw[h2.length];exact hl
    have tat:=lC t1;refine⟨a,vs,its,rfl,h1,t1,HS hvl hN,fun b es hb v=>?_⟩;refine⟨b,es,its,rfl,ag,v,fun x hx=>?_,fun x hx z=>?_,by rw[<- jH t1];exact hvl,fun l ys hl so=>?_⟩
    .rw[ac (aH (tat x hx) hb)];exact tat x hx
    .have:x.1∈ks:=by rw[<- t2];exact HY.mpr ⟨x,hx,rfl⟩
     have:=hne _ this;rw[z]at this;simp at this
    .have hlb:l≠b:=fun z=>by rw[z,ag]at hl;cases hl
     have hl1:H1 l=none:=by rw[ac hlb]at hl;exact hl
     have sm1:Same H1 (av H1 b (.ext fun h=>SetAt X.w h b es)):=aQ hb;have sm2:Same (av H1 b (.ext fun h=>SetAt X.w h b es)) (av (av H1 b (.ext fun h=>SetAt X.w h b es)) l (.lst (ys.map fun y=>.ref y.2))):=aQ hl;have sm:=sm1.trans sm2;obtain⟨z0,zm,zo⟩:=rep1.free hl1;refine q1 _ M1 _ ⟨fun _ z=>z,sm,fun _ z=>.inl z⟩ (rep1.grow sm) ⟨l,_,rfl,ag,zm,hl1,zo,?_⟩;have ek:ys.map (·.1)=bT ks:=by
      refine jF _ _ ?_ (mK ks) fun k=>?_
      .rw[Iq];exact so.pw
      .rw[dw,<- t2];constructor
       .intro hk;obtain⟨y,hy,rfl⟩:=HY.mp hk;exact HY.mpr ⟨y,so.sub y hy,rfl⟩
       .intro hk;obtain⟨x,hx,rfl⟩:=HY.mp hk;obtain⟨y,y1,y2⟩:=so.all x hx;exact HY.mpr ⟨y,y1,y2⟩
     rw[<- ek,ID];exact iA (fun x hx=>sm _ _ (tat x (so.sub x hx)))
   .rw[Hz hcond]at q1;exact q1.elim
 |_=>rw[qd]at q1;exact q1.elim
end
section
variable {H H':Hp}{m m':Addr->Prop}
mutual
theorem Is.view (hl:∀ a vs,H a=some (.lst vs)->H' a=some (.lst vs))(hf:∀ a o vs,H a=some (.frz o (.lst vs))->H' a=some (.frz o (.lst vs)))(ht:∀ a vs,H a=some (.tup vs)->H' a=some (.tup vs))(hd:∀ a u,dS u->Rd H a u->Rd H' a u)(mm:∀ a,m a->m' a):∀{d:D}{v:V},Is H m d v->Is H' m' d v
 | .non,_,h=>h
 | .bl _,_,h=>h
 | .int _,_,h=>h
 | .str _,_,h=>h
 | .tup ds,_,h=>by obtain⟨a,vs,e,h1,h2⟩:=h;exact⟨a,vs,e,ht a _ h1,IsAll.view hl hf ht hd mm h2⟩
 | .lst ds,_,h=>by
  obtain⟨a,vs,e,h1,h2⟩:=h;refine⟨a,vs,e,?_,IsAll.view hl hf ht hd mm h2⟩;rcases h1 with⟨h1,h3⟩|⟨o,h1,h3⟩
  .exact .inl ⟨hl a _ h1,mm a h3⟩
  .exact .inr ⟨o,hf a o _ h1,mm a h3⟩
 | .dic ks ds,_,h=>by obtain⟨a,vs,e,h1,h2⟩:=h;refine⟨a,vs,e,⟨?_,mm a h1.2⟩,IsAll.view hl hf ht hd mm h2⟩;exact h1.1.imp (fun⟨kvs,e,r⟩=>⟨kvs,hd a _ True.intro e,r⟩) fun⟨kvs,e,r⟩=>⟨kvs,hd a _ True.intro e,r⟩
theorem IsAll.view (hl:∀ a vs,H a=some (.lst vs)->H' a=some (.lst vs))(hf:∀ a o vs,H a=some (.frz o (.lst vs))->H' a=some (.frz o (.lst vs)))(ht:∀ a vs,H a=some (.tup vs)->H' a=some (.tup vs))(hd:∀ a u,dS u->Rd H a u->Rd H' a u)(mm:∀ a,m a->m' a):∀{ds:List D}{vs:List V},IsAll H m ds vs->IsAll H' m' ds vs
 | [],_,h=>h
 |d::ds,_,h=>by obtain⟨v,r,e,h1,h2⟩:=h;exact⟨v,r,e,Is.view hl hf ht hd mm h1,IsAll.view hl hf ht hd mm h2⟩
end
mutual
theorem IsSh.view (hl:∀ a vs,H a=some (.lst vs)->H' a=some (.lst vs))(ht:∀ a vs,H a=some (.tup vs)->H' a=some (.tup vs)):∀{d:D}{v:V},IsSh H m d v->IsSh H' m d v
 | .non,_,h=>h
 | .bl _,_,h=>h
 | .int _,_,h=>h
 | .str _,_,h=>h
 | .tup ds,_,h=>by obtain⟨a,vs,e,h1,h2⟩:=h;exact⟨a,vs,e,ht a _ h1,IsShs.view hl ht h2⟩
 | .lst ds,_,h=>by obtain⟨a,vs,e,h1,h2⟩:=h;exact⟨a,vs,e,hl a _ h1,h2⟩
 | .dic _ _,_,h=>h
theorem IsShs.view (hl:∀ a vs,H a=some (.lst vs)->H' a=some (.lst vs))(ht:∀ a vs,H a=some (.tup vs)->H' a=some (.tup vs)):∀{ds:List D}{vs:List V},IsShs H m ds vs->IsShs H' m ds vs
 | [],_,h=>h
 |d::ds,_,h=>by obtain⟨v,r,e,h1,h2⟩:=h;exact⟨v,r,e,IsSh.view hl ht h1,IsShs.view hl ht h2⟩
end
end
section
variable {g:Gd}{M:Addr->Prop}{ρ:Pr}{env:En}{σ:St}{H:Hp}{d:Addr}{o:Obj}{u:HO}
open Classical in
def cM (g:Gd)(d:Addr)(o:Obj)(u:HO):Gd:=⟨if g.H₀ d=none then g.H₀ else av g.H₀ d (.frz o u),g.Ma,fun a=>g.Z a\/a=d,g.root,g.rooT⟩
theorem jI {b:Addr}(hb:b≠d):(cM g d o u).H₀ b=g.H₀ b:=by
 unfold cM;dsimp only;split
 .rfl
 .exact ac hb
theorem bq (b:Addr):(cM g d o u).H₀ b=none↔g.H₀ b=none:=by
 by_cases hb:b=d
 .subst hb;unfold cM;dsimp only;split
  .exact Iff.rfl
  .rename_i h;rw[ag];exact⟨fun z=>(by cases z),fun z=>(h z).elim⟩
 .rw[jI hb]
theorem yZ (h:g.H₀ d≠none):(cM g d o u).H₀ d=some (.frz o u):=by unfold cM;dsimp only;rw[Hz h,ag]
theorem ub (hu:dS u)(hd:H d=some u):(∀ a vs,H a=some (.lst vs)->a≠d)/\(∀ a o vs,H a=some (.frz o (.lst vs))->a≠d)/\∀ a vs,H a=some (.tup vs)->a≠d:=by refine⟨fun a vs e z=>?_,fun a o vs e z=>?_,fun a vs e z=>?_⟩<;>(subst z;rw[hd]at e;cases e;exact hu)
theorem msk_still {fr:Bool}{a:Addr}:msk (cM g d o u) M fr a↔msk g M fr a:=by unfold msk;rw[bq]
theorem Rep.still (rep:Rep g M ρ env σ H)(hd:H d=some u)(hu:dS u)(hm:M d):Rep (cM g d o u) M ρ env σ (av H d (.frz o u)):=by
 obtain⟨k1,k2,k3⟩:=ub hu hd;have vl:∀ a vs,H a=some (.lst vs)->av H d (.frz o u) a=some (.lst vs):=fun a vs e=>by rw[ac (k1 a vs e)];exact e
 have vf:∀ a o' vs,H a=some (.frz o' (.lst vs))->av H d (.frz o u) a=some (.frz o' (.lst vs)):=fun a o' vs e=>by rw[ac (k2 a o' vs e)];exact e
 have vt:∀ a vs,H a=some (.tup vs)->av H d (.frz o u) a=some (.tup vs):=fun a vs e=>by rw[ac (k3 a vs e)];exact e
 have vd:∀ a u',dS u'->Rd H a u'->Rd (av H d (.frz o u)) a u':=fun a u' hu' e=>by
  by_cases ha:a=d
  .subst ha;rcases e with e|⟨o',e⟩
   .rw[hd]at e;cases e;exact .inr ⟨o,ag⟩
   .rw[hd]at e;cases e;exact hu.elim
  .exact hG e fun o' q=>by rw[ac ha];exact q
 have pn:∀ i a,ρ i a->a≠d:=fun i a h z=>(rep.priv i a h).1 (z▸hm);refine⟨fun b x e=>?_,fun a ha=>?_,fun a ha=>(rep.inn a ha).imp (bq a).mpr id,fun a ha h0=>?_,fun i sl e=>?_,fun i a h=>?_,rep.apart,rep.ow,rep.len,fun a z=>?_⟩
 .by_cases hb:b=d
  .subst hb;have hn:g.H₀ b≠none:=fun z=>by rw[(bq b).mpr z]at e;cases e
   rw[yZ hn]at e;cases e;exact ag
  .rw[jI hb]at e;rw[ac hb];exact rep.same b x e
 .by_cases hb:a=d
  .rw[hb,ag];simp
  .rw[ac hb];exact rep.froz a ha
 .by_cases hb:a=d
  .rw[hb];exact .inr ⟨.inr rfl,o,u,ag⟩
  .rcases rep.fl a ha ((bq a).mp h0) with q|⟨q,o',u',e⟩
   .exact .inl (q.same fun o' e=>by rw[ac hb];exact e)
   .exact .inr ⟨.inl q,o',u',by rw[ac hb];exact e⟩
 .obtain⟨v,ev,k⟩:=rep.slot i sl e;refine⟨v,ev,?_⟩;cases sl with
  |val d' fr=>exact Is.view vl vf vt vd (fun a z=>msk_still.mpr z) k
  |own ds fr=>obtain⟨a,vs,rfl,h1,h2,h3⟩:=k;exact⟨a,vs,rfl,vl _ _ h1,h2,IsAll.view vl vf vt vd (fun a z=>msk_still.mpr z) h3⟩
  |tre d'=>exact Is.view vl vf vt vd (fun a z=>z) k
  |pin d'=>exact⟨Is.view vl vf vt vd (fun a z=>z) k.1,k.2⟩
  |dis d'=>exact⟨Is.view vl vf vt vd (fun a z=>z) k.1,k.2.mono (fun a o' z e=>by rw[ac (pn i a z)];exact e) fun _ z=>z⟩
  |fix n q0=>
   cases q0 with
   |no=>exact⟨k.1,True.intro⟩
   |tr d'=>exact⟨k.1,Is.view vl vf vt vd (fun a z=>z) k.2⟩
   |ds d'=>exact⟨k.1,Is.view vl vf vt vd (fun a z=>z) k.2.1,k.2.2.mono (fun a o' z e=>by rw[ac (pn i a z)];exact e) fun _ z=>z⟩
  |mes d'=>exact IsSh.view vl vt k
  |kon a'=>exact k
 .obtain⟨q1,q2,q3⟩:=rep.priv i a h;exact⟨q1,(bq a).mpr q2,q3.same fun o' e=>by rw[ac (pn i a h)];exact e⟩
 .by_cases hb:a=d
  .rw[hb,ag];simp
  .rw[ac hb];exact rep.zz a (z.resolve_right hb)
theorem Rep.unstill (rep:Rep (cM g d o u) M ρ env σ H)(hd:H d=some (.frz o u))(hu:dS u)(hm:M d)(hx:∀ x,g.H₀ d=some x->x=u):Rep g M ρ env σ (av H d u):=by
 have n1:∀ a vs,H a=some (.lst vs)->a≠d:=fun a vs e z=>by subst z;rw[hd]at e;cases e
 have n2:∀ a o' vs,H a=some (.frz o' (.lst vs))->a≠d:=fun a o' vs e z=>by subst z;rw[hd]at e;cases e;exact hu
 have n3:∀ a vs,H a=some (.tup vs)->a≠d:=fun a vs e z=>by subst z;rw[hd]at e;cases e
 have vl:∀ a vs,H a=some (.lst vs)->av H d u a=some (.lst vs):=fun a vs e=>by rw[ac (n1 a vs e)];exact e
 have vf:∀ a o' vs,H a=some (.frz o' (.lst vs))->av H d u a=some (.frz o' (.lst vs)):=fun a o' vs e=>by rw[ac (n2 a o' vs e)];exact e
 have vt:∀ a vs,H a=some (.tup vs)->av H d u a=some (.tup vs):=fun a vs e=>by rw[ac (n3 a vs e)];exact e
 have vd:∀ a u',dS u'->Rd H a u'->Rd (av H d u) a u':=fun a u' hu' e=>by
  by_cases ha:a=d
  .subst ha;rcases e with e|⟨o',e⟩
   .rw[hd]at e;cases e;exact hu'.elim
   .rw[hd]at e;cases e;exact .inl ag
  .exact hG e fun o' q=>by rw[ac ha];exact q
 have muu:Mu (av H d u) d:=⟨u,ag,by cases u<;>first|exact True.intro|exact hu.elim⟩;have pn:∀ i a,ρ i a->a≠d:=fun i a h z=>(rep.priv i a h).1 (z▸hm);refine⟨fun b x e=>?_,fun a ha=>?_,fun a ha=>(rep.inn a ha).imp (bq a).mp id,fun a ha h0=>?_,fun i sl e=>?_,fun i a h=>?_,rep.apart,rep.ow,rep.len,fun a z=>?_⟩
 .by_cases hb:b=d
  .subst hb;rw[hx x e,ag]
  .rw[ac hb];exact rep.same b x (by rw[jI hb];exact e)
 .by_cases hb:a=d
  .rw[hb];exact muu.some
  .rw[ac hb];exact rep.froz a ha
 .by_cases hb:a=d
  .rw[hb];exact .inl muu
  .rcases rep.fl a ha ((bq a).mpr h0) with q|⟨q,o',u',e⟩
   .exact .inl (q.same fun o' e=>by rw[ac hb];exact e)
   .exact .inr ⟨q.resolve_right hb,o',u',by rw[ac hb];exact e⟩
 .obtain⟨v,ev,k⟩:=rep.slot i sl e;refine⟨v,ev,?_⟩;cases sl with
  |val d' fr=>exact Is.view vl vf vt vd (fun a z=>msk_still.mp z) k
  |own ds fr=>obtain⟨a,vs,rfl,h1,h2,h3⟩:=k;exact⟨a,vs,rfl,vl _ _ h1,h2,IsAll.view vl vf vt vd (fun a z=>msk_still.mp z) h3⟩
  |tre d'=>exact Is.view vl vf vt vd (fun a z=>z) k
  |pin d'=>exact⟨Is.view vl vf vt vd (fun a z=>z) k.1,k.2⟩
  |dis d'=>exact⟨Is.view vl vf vt vd (fun a z=>z) k.1,k.2.mono (fun a o' z e=>by rw[ac (pn i a z)];exact e) fun _ z=>z⟩
  |fix n q0=>
   cases q0 with
   |no=>exact⟨k.1,True.intro⟩
   |tr d'=>exact⟨k.1,Is.view vl vf vt vd (fun a z=>z) k.2⟩
   |ds d'=>exact⟨k.1,Is.view vl vf vt vd (fun a z=>z) k.2.1,k.2.2.mono (fun a o' z e=>by rw[ac (pn i a z)];exact e) fun _ z=>z⟩
  |mes d'=>exact IsSh.view vl vt k
  |kon a'=>exact k
 .obtain⟨q1,q2,q3⟩:=rep.priv i a h;exact⟨q1,(bq a).mp q2,q3.same fun o' e=>by rw[ac (pn i a h)];exact e⟩
 .by_cases hb:a=d
  .rw[hb];exact muu.some
  .rw[ac hb];exact rep.zz a (.inl z)
end
noncomputable def kD:Key->D
 | .inl i=>.int i
 | .inr x=>.str x
def eM:List DK->Option (List D)
 | []=>some []
 | .inl k::r=>(eM r).map (kD k::·)
 | .inr _::_=>none
noncomputable def iJ (asg:D->Bool->En->Option En)(body:En->Res Fl):List D->En->Res Fl
 | [],env=>.ok (.nx env)
 |x::xs,env=>match asg x true env with
  |none=>.stuck
  |some env1=>match body env1 with
   | .ok (.nx az)=>iJ asg body xs az
   | .ok (.ct az)=>iJ asg body xs az
   | .ok (.bk az)=>.ok (.nx az)
   |_=>.stuck
def AT (asg:D->Bool->En->Option En)(body:En->Res Fl)(env:En)(r:R):Res Fl:=match r.d with
 | .dic ks _=>match eM ks with
  |some xs=>iJ asg body xs (frz env r.al)
  |none=>.stuck
 |_=>.stuck
def wn (f:En->Res R)(asg:D->Bool->En->Option En)(body:En->Res Fl):En->Res Fl:=fun env=>(f env).bind (AT asg body env)
theorem gE:∀{kvs:List (Key×V)}{xs:List D},eM (kvs.map fun p=>.inl p.1)=some xs->xs=kvs.map fun p=>kD p.1
 | [],_,e=>by cases e;rfl
 |p::r,_,e=>by rw[HL]at e;unfold eM at e;obtain⟨y,e1,rfl⟩:=I0.mp e;rw[gE e1];rfl
theorem wo {H:Hp}{m:Addr->Prop}(k:Key):Is H m (kD k) (kV k):=by cases k<;>exact rfl
section
variable {X:Cx}{E:XK}{tg:Expr}
theorem wq {ix:List Nat}{l:Expr}{body:List Stmt}{f:En->Res R}{asg:D->Bool->En->Option En}{fb:En->Res Fl}{pos:Pos}(hp:PassesOwn (model X.prog X.w) X.A X.env X.xe)(hc:X.calm=true)
 (hl:PD X E l f) (hg:xU X ix tg asg) (hb:kn X E body fb) (hs:autoParam (∀ x,foldedSetIterable l X.env x=pure x) LC._auto_1):j7 X E (.For tg l body [] pos) (wn f asg fb):=by
 obtain⟨tl,p1,s1⟩:=hl;obtain⟨u,p2,s2⟩:=hg;obtain⟨tb,p3,s3⟩:=hb;refine⟨_,BF (o9 hp hc (qO p1) p2 p3 hs),fun g M ρ env σ H D rep p=>?_⟩;refine s1.oneS rep p fun r v M0 H1 e1 rep0 ro p0=>?_;obtain⟨M1,x1,x1m,rep1,is1⟩:=ro.is rep0 e1 rep.same;obtain⟨M2,ρ2,x2,rep2,o2,_,_⟩:=Rep.frz r.al rep1;have is2:Is H1 (msk g M2 r.fr) r.d v:=Is.frozen rep1 x2 o2 is1;have p2':=PostS.frz (⟨fun a z=>x2 a (x1m a z),fun _ _ q _=>q⟩ : Frz M0 H1 M2 H1) p0;clear p0 p;unfold AT at p2';cases qd:r.d with
 |dic ks ds=>
  rw[qd]at p2' is2;dsimp only at p2';cases qk:eM ks with
  |none=>rw[qk]at p2';exact p2'.elim
  |some xs=>
   rw[qk]at p2';dsimp only at p2';obtain⟨d,vs,rfl,⟨dat,md⟩,_⟩:=is2;have md:M2 d:=md.1;have shape:∃ kvs u,(u=.dK kvs\/(u=.dT []/\kvs=[]))/\Rd H1 d u/\xs=kvs.map fun p=>kD p.1:=by
    rcases dat with⟨kvs,e,rfl,_⟩|⟨kvs,e,rfl,_⟩
    .exact⟨kvs,_,.inl rfl,e,gE qk⟩
    .cases kvs with
     |nil=>cases qk;exact⟨[],_,.inr ⟨rfl,rfl⟩,e,rfl⟩
     |cons p r=>cases qk
   obtain⟨kvs,u',hu',hrd,rfl⟩:=shape;have j3:dS u':=by rcases hu' with rfl|⟨rfl,_⟩<;>exact True.intro
   have loop:∀(g':Gd)(o:Obj)(H2:Hp),Rep g' M2 ρ2 (frz env r.al) σ H2->H2 d=some (.frz o u')->
    (∀ az,iJ asg fb (kvs.map fun p=>kD p.1) (frz env r.al)=.ok (.nx az)->∀ σ' M' ρ' H',Frz M2 H2 M' H'->Rep g' M' ρ' az σ' H'->(unD X D).nx σ' H')->
    ∃ W:Nat->Nat->St->Hp->Prop,(∃ m,W 0 m σ H2)/\∀ i m σ H,W i m σ H->((AB d o u' kvs).stop i H/\(unD X D).nx σ H)\/((AB d o u' kvs).go i H/\∃ N:St->Hp->Prop,(∀ σ' H',N σ' H'->∃ m',m'<m/\W (i+1) m' σ' H')/\∀ x H',(AB d o u' kvs).yld i H x H'->u x σ H' fun σ2 H2=>tb { unD X D with nx:=N,ct:=N,bk:=(unD X D).nx } σ2 H2):=by
    intro g' o H2 repL hz fin;have nst:iJ asg fb (kvs.map fun p=>kD p.1) (frz env r.al)≠.stuck:=fun z=>by rw[z]at p2';exact p2'
    have shp:∀(ys:List L3.D)(en:En),iJ asg fb ys en=.stuck\/∃ en',iJ asg fb ys en=.ok (.nx en'):=by
     intro ys;induction ys with
     |nil=>intro en;exact .inr ⟨en,rfl⟩
     |cons y ys ih=>
      intro en;unfold iJ;cases asg y true en with
      |none=>exact .inl rfl
      |some e1=>
       dsimp only;cases fb e1 with
       |stuck=>exact .inl rfl
       |exc c=>exact .inl rfl
       |ok fl=>
        cases fl with
        |nx e2=>exact ih e2
        |ct e2=>exact ih e2
        |bk e2=>exact .inr ⟨e2,rfl⟩
        |rt r=>exact .inl rfl
        |rm r e2=>exact .inl rfl
    obtain⟨envE,hE⟩:=(shp (kvs.map fun p=>kD p.1) (frz env r.al)).resolve_left nst;refine⟨fun i m σ' H'=>m=kvs.length-i/\i<=kvs.length/\∃ M' ρ' az,Rep g' M' ρ' az σ' H'/\Frz M2 H2 M' H'/\iJ asg fb ((kvs.drop i).map fun p=>kD p.1) az=.ok (.nx envE),⟨_,rfl,Ij _,M2,ρ2,_,repL,Frz.refl _ _,hE⟩,?_⟩;rintro i m σ' H' ⟨rfl,hle,M',ρ',az,rep',f',q'⟩;have hd':H' d=some (.frz o u'):=f'.h d _ hz (.inl md);by_cases hlt:i<kvs.length
    .have edrop:kvs.drop i=kvs[i]::kvs.drop (i+1):=IX hlt;rw[edrop,HL]at q';unfold iJ at q';cases qa:asg (kD kvs[i].1) true az with
     |none=>simp only[qa]at q';cases q'
     |some env1=>
      simp only[qa]at q';refine .inr ⟨⟨hd',hlt⟩,fun σ'' H''=>∃ M'' ρ'' env'',Rep g' M'' ρ'' env'' σ'' H''/\Frz M2 H2 M'' H''/\iJ asg fb ((kvs.drop (i+1)).map fun p=>kD p.1) env''=.ok (.nx envE),fun σ'' H'' z=>⟨kvs.length-(i+1),by omega,rfl,hlt,z⟩,fun x H'' y=>?_⟩;obtain⟨rfl,k,v,ek,rfl⟩:=y;have ek':kvs[i].1=k:=by
       have:kvs[i]?=some kvs[i]:=by simp[hlt]
       exact Ie Prod.fst (Iu (this.symm.trans ek))
      rw[ek']at qa;refine s2 g' M' ρ' az env1 σ' _ _ true (kV k) _ rep' (wo k) qa fun σ1 ρ1 rep1' _ _=>?_;refine s3 g' M' ρ1 env1 σ1 _ _ rep1' ?_;cases qb:fb env1 with
      |stuck=>rw[qb]at q';cases q'
      |exc c=>rw[qb]at q';cases q'
      |ok fl=>
       rw[qb]at q';cases fl with
       |nx e3=>exact fun σ3 M3 ρ3 H3 f3 rep3=>⟨M3,ρ3,e3,rep3,f'.trans f3,q'⟩
       |ct e3=>exact fun σ3 M3 ρ3 H3 f3 rep3=>⟨M3,ρ3,e3,rep3,f'.trans f3,q'⟩
       |bk e3=>simp only[Res.ok.injEq,Fl.nx.injEq]at q';subst q';exact fun σ3 M3 ρ3 H3 f3 rep3=>fin _ hE σ3 M3 ρ3 H3 (f'.trans f3) rep3
       |rt r=>cases q'
       |rm r e2=>cases q'
    .have e:i=kvs.length:=by omega
     subst e;rw[KQ]at q';simp only[Lo]at q';unfold iJ at q';simp only[Res.ok.injEq,Fl.nx.injEq]at q';subst q';exact .inl ⟨⟨hd',HB _⟩,fin _ hE σ' M' ρ' H' f' rep'⟩
   refine⟨d,kvs,u',rfl,hu',?_⟩;rcases hrd with hrd|⟨o,hrd⟩
   .right;refine⟨hrd,fun o hnf=>loop (cM g d o u') o _ (rep2.still hrd j3 md) ag fun az hE σ' M' ρ' H' f' rep'=>?_⟩;rw[hE]at p2';have hd':H' d=some (.frz o u'):=f'.h d _ ag (.inl md);have hx:∀ x,g.H₀ d=some x->x=u':=fun x e=>by have:=rep2.same d x e;rw[hrd]at this;cases this;rfl
    have rep3:=rep'.unstill hd' j3 (f'.m d md) hx;refine .inr ⟨d,o,u',hd',j3,hnf,p2' σ' M' ρ' _ ⟨f'.m,fun a x e z=>?_⟩ rep3⟩;by_cases ha:a=d
    .subst ha;rw[hrd]at e;cases e;exact ag
    .rw[ac ha];exact f'.h a x (by rw[ac ha];exact e) z
   .left;refine⟨o,hrd,loop g o H1 rep2 hrd fun az hE σ' M' ρ' H' f' rep'=>?_⟩;rw[hE]at p2';exact .inl (p2' σ' M' ρ' H' f' rep')
 |_=>rw[qd]at p2';exact p2'.elim
end
def y6:List R->Res Src
 | [r]=>match r.d with
  | .lst ds=>.ok ⟨ds.reverse,r.fr,r.al⟩
  |_=>.stuck
 |_=>.stuck
def Cf (fs:En->Res (List R)):En->Res Src:=fun env=>(fs env).bind y6
section
variable {X:Cx}{E:XK}{tg:Expr}
theorem wt {K:Lu}{a:Addr}{m:Addr->Prop}{H:Hp}{ds:List D}{vs:List V}(h:(H a=some (.lst vs)/\m a)\/∃ o,H a=some (.frz o (.lst vs))/\m a)(is:IsAll H m ds vs):Walk (Gs K a vs.length) m H ds.reverse:=by
 have st:∀ H',(∀ a o,H a=some o->(m a\/fixd o)->H' a=some o)->SqL K H' a vs:=fun H' k=>by
  rcases h with⟨h,hm⟩|⟨o,h,_⟩
  .exact .inl (.inl (k a _ h (.inl hm)))
  .exact .inl (.inr ⟨o,k a _ h (.inr True.intro)⟩)
 have hl:=is.length;refine⟨fun H' i d k e=>?_,fun H' k=>by show vs.length<=ds.reverse.length;rw[K6,hl];exact HB _⟩;have hi:i<ds.length:=by have:=(Hv.mp e).1;simpa using this
 rw[List.getElem?_reverse hi]at e;obtain⟨v,ev,iv⟩:=(is.mono k fun _ _ _ z=>z:IsAll H' m ds vs).get e;refine⟨⟨vs,st H' k,rfl,by omega⟩,fun x H'' y=>?_⟩;obtain⟨rfl,y⟩:=y;have:=y vs (st _ k);rw[hl,ev]at this;cases this;exact⟨Same.refl _,iv⟩
theorem y8 {l:Expr} {fs:En->Res (List R)} {p pos:Pos} (hg:Gl X "reversed") (hm:X.mg "reversed"=none) (ha:xQ X E [l] fs) (hs:autoParam (starEach [l] X.env=[(false,eval l X.env)]) LF._auto_1):DJ X E tg (.Call (.Name "reversed" p) [l] [] pos) (Cf fs):=by
 obtain⟨t,p1,s1⟩:=ha;refine⟨_,BG hg hm p1 hs,fun g M ρ env σ H Rq rep p=>s1.one rep (P:=fun M H r=>PostI X.mg E g M ρ env σ H Rq r) p (fun _ _ z=>z) (fun _ _ _ z=>z) (fun _ _ _ _ _ e p=>p.ext e) fun rs vs M1 H1 e1 rep1 is q=>?_⟩
 match rs,is,q with
 | [r],is,q=>
  obtain⟨v,w,rfl,i1,i2⟩:=is;cases i2;have i1:Is H1 (vmsk g M1 (aL [r]) ρ (bc [r])) r.d v:=i1;replace i1:=i1.weak fun _ z=>mx z;unfold y6 at q;dsimp only at q;cases z:r.d with
  |lst ds=>rw[z]at i1 q;obtain⟨a,ws,rfl,h1,h2⟩:=i1;exact⟨a,ws,rfl,.inl (h1.imp (·.1) fun⟨o,z,_⟩=>⟨o,z⟩),q _ M1 H1 (Ext.refl _ _) rep1 (wt h1 h2)⟩
  |_=>rw[z]at q;exact q.elim
 | [],_,q=>exact q.elim
 |_::_::_,_,q=>exact q.elim
end
def EI (t:List (Key×D))(k:Key)(d:D):List (Key×D):=if (t.any fun x=>decide (x.1=k))=true then t.map (fun x=>if x.1=k then (x.1,d) else x) else t++[(k,d)]
section
variable {H:Hp}{m:Addr->Prop}
def REK (H:Hp)(m:Addr->Prop):List (Key×V)->List (Key×D)->Prop:=Paired fun a b=>a.1=b.1/\Is H m b.2 a.2
theorem REK.fst {a:List (Key×V)}{b:List (Key×D)}(r:REK H m a b):a.map Prod.fst=b.map Prod.fst:=by
 induction r with
 |nil=>rfl
 |cons h _ ih=>rw[HL,HL,ih,h.1]
theorem REK.snd {a:List (Key×V)}{b:List (Key×D)}(r:REK H m a b):IsAll H m (b.map Prod.snd) (a.map Prod.snd):=by
 induction r with
 |nil=>rfl
 |cons h _ ih=>exact⟨_,_,rfl,h.2,ih⟩
theorem REK.of:∀{a:List (Key×V)}{b:List (Key×D)},a.map Prod.fst=b.map Prod.fst->IsAll H m (b.map Prod.snd) (a.map Prod.snd)->REK H m a b
 | [],[],_,_=>.nil
 | [],_::_,e,_=>by cases e
 |_::_,[],e,_=>by cases e
 |p::a,q::b,e,h=>by obtain⟨v,r,z,h1,h2⟩:=h;cases z;simp only[HL,K0]at e;exact .cons ⟨e.1,h1⟩ (REK.of e.2 h2)
theorem REK.append {a c:List (Key×V)}{b d:List (Key×D)}(r:REK H m a b)(s:REK H m c d):REK H m (a++c) (b++d):=by
 induction r with
 |nil=>exact s
 |cons h _ ih=>exact .cons h ih
theorem REK.any {a:List (Key×V)}{b:List (Key×D)}(r:REK H m a b)(k:Key):(a.any fun x=>decide (x.1=k))=(b.any fun x=>decide (x.1=k)):=by
 induction r with
 |nil=>rfl
 |cons h _ ih=>rw[Jm,Jm,ih,h.1]
theorem REK.repl {a:List (Key×V)}{b:List (Key×D)}{k:Key}{v:V}{d:D}(r:REK H m a b)(h:Is H m d v):REK H m (a.map fun x=>if x.1=k then (x.1,v) else x) (b.map fun x=>if x.1=k then (x.1,d) else x):=by
 induction r with
 |nil=>exact .nil
 | @cons p q ps qs hq t ih=>
  refine .cons ?_ ih;dsimp only;by_cases e:p.1=k
  .rw[Hx e,Hx (hq.1▸e)];exact⟨hq.1,h⟩
  .rw[Hz e,Hz (fun z=>e (hq.1.trans z))];exact hq
theorem REK.put {a:List (Key×V)}{b:List (Key×D)}{k:Key}{v:V}{d:D}(r:REK H m a b)(h:Is H m d v):REK H m (bz a k v) (EI b k d):=by
 unfold bz EI;rw[r.any k];split
 .exact r.repl h
 .exact r.append (.cons ⟨rfl,h⟩ .nil)
theorem REK.flat {m':Addr->Prop}{a:List (Key×V)}{b:List (Key×D)}(hf:D.flats (b.map Prod.snd)=true)(r:REK H m a b):REK H m' a b:=REK.of r.fst (IsAll.flat hf r.snd)
end
section
variable {X:Cx}{E:XK}
theorem Rep.writeU {g:Gd}{M:Addr->Prop}{ρ:Pr}{env:En}{σ:St}{H:Hp}{b:Addr}{u u':HO}(rep:Rep g M ρ env σ H)(hb:H b=some u)(hu:¬ fixd u)(nm:¬ M b)(no:∀ i,¬ ρ i b)(h0:g.H₀ b=none):Rep g M ρ env σ (av H b u'):=by
 have kp:∀ a o,H a=some o->(M a\/fixd o)->av H b u' a=some o:=fun a o e z=>by
  rw[ac]
  .exact e
  .rintro rfl;rcases z with z|z
   .exact nm z
   .rw[hb]at e;cases e;exact hu z
 have kr:∀ i a o,H a=some o->(ρ i a\/fixd o)->av H b u' a=some o:=fun i a o e z=>by
  rw[ac]
  .exact e
  .rintro rfl;rcases z with z|z
   .exact no i z
   .rw[hb]at e;cases e;exact hu z
 have ne:∀ a,M a->a≠b:=fun a z e=>nm (e▸z);have ner:∀ i a,ρ i a->a≠b:=fun i a z e=>no i (e▸z);refine⟨fun a o e=>?_,fun a z=>by rw[ac (ne a z)];exact rep.froz a z,rep.inn,fun a z q=>(rep.fl a z q).same fun o e=>by rw[ac (ne a z)];exact e,fun i sl e=>?_,fun i a z=>?_,rep.apart,rep.ow,rep.len,fun a z e=>?_⟩
 .rw[ac (fun z=>by rw[z,h0]at e;cases e)];exact rep.same a o e
 .obtain⟨v,ev,k⟩:=rep.slot i sl e;refine⟨v,ev,?_⟩;cases sl with
  |val d fr=>exact Is.mono (fun a o e z=>kp a o e (z.imp (·.1) id)) (fun _ _ _ z=>z) k
  |own ds fr=>obtain⟨a,vs,rfl,h1,h2,h3⟩:=k;exact⟨a,vs,rfl,by rw[ac (ner i a ((h2 a).mpr rfl))];exact h1,h2,IsAll.mono (fun a o e z=>kp a o e (z.imp (·.1) id)) (fun _ _ _ z=>z) h3⟩
  |tre d=>exact Is.mono (fun a o e z=>kr i a o e z) (fun _ _ _ z=>z) k
  |pin d=>exact⟨Is.mono (fun a o e z=>kr i a o e z) (fun _ _ _ z=>z) k.1,k.2⟩
  |dis d=>exact⟨Is.mono (fun a o e z=>kr i a o e z) (fun _ _ _ z=>z) k.1,k.2.mono (fun a o z e=>kr i a o e (.inl z)) fun _ z=>z⟩
  |fix n q0=>exact⟨k.1,k.2.mono fun a o e z=>kr i a o e z⟩
  |kon a=>exact k
  |mes d=>exact IsSh.mono (fun a o e z=>kp a o e (.inr z)) (fun a vs z e=>⟨vs,by rw[ac (ner i a z)];exact e⟩) (fun _ z=>z) k
 .obtain⟨a1,a2,a3⟩:=rep.priv i a z;exact⟨a1,a2,a3.same fun o e=>by rw[ac (ner i a z)];exact e⟩
 .by_cases ha:a=b
  .subst ha;rw[ag]at e;cases e
  .rw[ac ha]at e;exact rep.zz a z e
end
theorem REK.length {H:Hp}{m:Addr->Prop}{a:List (Key×V)}{b:List (Key×D)}(r:REK H m a b):a.length=b.length:=Ke r
section
variable {X:Cx}{E:XK}
end
noncomputable abbrev Tri:=Int×Int×Int
noncomputable def dd (l:List Int)(x:Int):List Int:=if x∈l then l else l++[x]
def EJ (xs:List Int):List Int:=xs.foldl dd []
def g1 (ts:List Tri):List Int:=EJ (ts.map (·.1))
def g2 (ts:List Tri)(x:Int):List Int:=EJ ((ts.filter fun t=>decide (t.1=x)).map (·.2.1))
noncomputable def g3 (ts:List Tri)(x y:Int):List Int:=(ts.filter fun t=>decide (t.1=x)&&decide (t.2.1=y)).map (·.2.2)
noncomputable def ik (i:Int):DK:=.inl (.inl i)
theorem qi (l:List Int)(x y:Int):y∈dd l x↔y∈l\/y=x:=by
 unfold dd;split
 .rename_i h;exact⟨.inl,fun z=>z.elim id fun e=>e▸h⟩
 .simp
theorem rK (ts:List Tri)(x y z u v:Int):g3 (ts++[(x,y,z)]) u v=if x=u/\y=v then g3 ts u v++[z] else g3 ts u v:=by
 unfold g3;rw[List.filter_append,IU];by_cases h:x=u/\y=v
 .rw[Hx h];have:([(x,y,z)]:List Tri).filter (fun t=>decide (t.1=u)&&decide (t.2.1=v))=[(x,y,z)]:=by simp[h.1,h.2]
  rw[this];rfl
 .rw[Hz h];have:([(x,y,z)]:List Tri).filter (fun t=>decide (t.1=u)&&decide (t.2.1=v))=[]:=by rw[IT,Hz,List.filter_nil];simpa using h
  rw[this];simp
theorem oj (y:Int):∀(xs:List Int)(l:List Int),y∈xs.foldl dd l↔y∈l\/y∈xs
 | [],l=>by simp
 |x::xs,l=>by rw[Jt,oj y xs,qi,HE,or_assoc]
theorem jJ (l:List Int)(x:Int):(dd l x).length<=l.length+1:=by unfold dd;split<;>simp
theorem wu (ts:List Tri)(x y:Int):(g3 ts x y).length<=ts.length:=by unfold g3;rw[HA];exact List.length_filter_le _ _
section
variable {H:Hp}{a:Addr}{ts:List Tri}{A:Int->Addr}{B:Int->Int->Addr}{x y z:Int}
end
theorem jK {H:Hp}{m:Addr->Prop}:∀(k:List Int),IsAll H m (k.map .int) (k.map .int)
 | []=>rfl
 |i::k=>⟨.int i,_,rfl,rfl,jK k⟩
noncomputable def y9:D->Option Tri
 | .tup [.int x,.int y,.int z]=>some (x,y,z)
 |_=>none
def eO:List D->Option (List Tri)
 | []=>some []
 |d::r=>match y9 d,eO r with
  |some t,some ts=>some (t::ts)
  |_,_=>none
theorem lD:∀{ds:List D}{ts:List Tri},eO ds=some ts->ds.length=ts.length
 | [],_,e=>by cases e;rfl
 |d::ds,ts,e=>by
  unfold eO at e;cases q:y9 d with
  |none=>rw[q]at e;cases e
  |some t=>
   cases q2:eO ds with
   |none=>rw[q,q2]at e;cases e
   |some ts'=>rw[q,q2]at e;cases e;simp[lD q2]
theorem ol {H:Hp}{m:Addr->Prop}:∀{ds:List D}{vs:List V}{ts:List Tri}{j:Nat}{v:V},IsAll H m ds vs->eO ds=some ts->vs[j]?=some v->∃ x y z p,ts[j]?=some (x,y,z)/\v=.ref p/\H p=some (.tup [.int x,.int y,.int z])
 | [],_,_,_,_,h,_,ev=>by cases h;simp at ev
 |d::ds,_,ts,j,v,h,e,ev=>by
  obtain⟨w,r,rfl,h1,h2⟩:=h;unfold eO at e;cases q:y9 d with
  |none=>rw[q]at e;cases e
  |some t=>
   cases q2:eO ds with
   |none=>rw[q,q2]at e;cases e
   |some ts'=>
    rw[q,q2]at e;cases e;cases j with
    |zero=>
     simp at ev;subst ev;unfold y9 at q;split at q
     .rename_i x y z;cases q;obtain⟨p,us,rfl,g1,w1,r1,rfl,i1,w2,r2,rfl,i2,w3,r3,rfl,i3,i4⟩:=h1;cases i1;cases i2;cases i3;cases i4;exact⟨x,y,z,p,rfl,rfl,g1⟩
     .cases q
    |succ j=>exact ol (j:=j) h2 q2 (by simpa using ev)
section
variable {X:Cx}{E:XK}{tg:Expr}
end
noncomputable def wv:Res R->Bool
 | .ok (.val (.dic _ _) _ _)=>true
 | .ok (.fre (.dic _ _))=>true
 |_=>false
def lE (f:En->Res R)(asg:D->Bool->En->Option En)(fb:En->Res Fl):En->Res Fl:=fun env=>if wv (f env) then wn f asg fb env else dU (fY f) asg fb env
theorem ww {X:Cx}{E:XK}{st:Stmt}{f:En->Res R}{asg:D->Bool->En->Option En}{fb:En->Res Fl}(h1:j7 X E st (dU (fY f) asg fb))(h2:j7 X E st (wn f asg fb)):j7 X E st (lE f asg fb):=by
 obtain⟨t1,p1,s1⟩:=h1;obtain⟨t2,p2,s2⟩:=h2;refine⟨fun D σ H=>t1 D σ H\/t2 D σ H,fun pins s σ H D I h=>h.elim (p1 pins s σ H D I) (p2 pins s σ H D I),fun g M ρ env σ H D rep p=>?_⟩;unfold lE at p;split at p
 .exact .inr (s2 g M ρ env σ H D rep p)
 .exact .inl (s1 g M ρ env σ H D rep p)
section
variable {X:Cx}
def Hh (X:Cx)(Q:VK):VK:=fun v H=>Q v H\/∃ d o u,H d=some (.frz o u)/\dS u/\(∀ o v,X.H₀ d≠some (.frz o v))/\Q v (av H d u)
theorem Cg {e:Expr}{t:TE}(h:PE X e t):PE X e (fun σ H Q=>t σ H (Hh X Q)):=by
 intro pins s σ H Q I q;refine bn (h pins s σ H _ I q) fun v s' r=>?_;obtain⟨x,H',I',rv,r⟩:=r;rcases r with r|⟨d,o,u,e,hu,hn,r⟩
 .exact⟨x,H',I',rv,r⟩
 .exact⟨x,_,I'.unfrz e hu hn,rv,r⟩
end
section
variable {g:Gd}{M M2 M':Addr->Prop}{ρ:Pr}{env:En}{σ:St}{H H1 H':Hp}{d:Addr}{o:Obj}{u:HO}{m m':Addr->Prop}
theorem Is.thaw {x:D}{v:V}(hd:H d=some (.frz o u))(hu:dS u)(mm:∀ a,m a->m' a)(h:Is H m x v):Is (av H d u) m' x v:=by
 refine Is.view (fun a vs e=>?_) (fun a o' vs e=>?_) (fun a vs e=>?_) (fun a u' hu' e=>?_) mm h
 .rw[ac (fun z=>by subst z;rw[hd]at e;cases e)];exact e
 .rw[ac (fun z=>by subst z;rw[hd]at e;cases e;exact hu)];exact e
 .rw[ac (fun z=>by subst z;rw[hd]at e;cases e)];exact e
 .by_cases ha:a=d
  .subst ha;rcases e with e|⟨o',e⟩
   .rw[hd]at e;cases e;exact hu'.elim
   .rw[hd]at e;cases e;exact .inl ag
  .exact hG e fun o' q=>by rw[ac ha];exact q
theorem IsAll.of_each:∀{ds:List D}{vs:List V}{P:D->V->Prop},(∀ x v,Is H m x v->Is H' m' x v)->IsAll H m ds vs->IsAll H' m' ds vs
 | [],_,_,_,h=>h
 |d::ds,_,P,f,h=>by obtain⟨v,r,e,h1,h2⟩:=h;exact⟨v,r,e,f _ _ h1,IsAll.of_each (P:=P) f h2⟩
theorem uc (s:Same (av H1 d (.frz o u)) H')(hrd:H1 d=some u):Same H1 (av H' d u):=fun a x e=>by
 by_cases ha:a=d
 .subst ha;rw[hrd]at e;cases e;exact ag
 .rw[ac ha];exact s a x (by rw[ac ha];exact e)
theorem wx (rep:Rep g M ρ env σ H1)(hrd:H1 d=some u):∀ x,g.H₀ d=some x->x=u:=fun x e=>by have:=rep.same d x e;rw[hrd]at this;cases this;rfl
end
theorem lF {d:Addr}{o:Obj}{u:HO}{kvs:List (Key×V)}{m:Addr->Prop}{H:Hp}(hd:H d=some (.frz o u)):Walk (AB d o u kvs) m H (kvs.map fun p=>kD p.1):=by
 refine⟨fun H' i x k e=>?_,fun H' k=>⟨k d _ hd (.inr True.intro),by simp⟩⟩;have hi:i<kvs.length:=by have:=(Hv.mp e).1;simpa using this
 refine⟨⟨k d _ hd (.inr True.intro),hi⟩,fun y H'' z=>?_⟩;obtain⟨rfl,k',v,ek,rfl⟩:=z;rw[Ip,ek]at e;cases e;exact⟨Same.refl _,wo k'⟩
def wy (n:Nat)(caps:List Nat)(asg:D->Bool->En->Option En)(ft:En->Res Bool)(fe:En->Res R)(env:En)(r:R):Res R:=match r.d with
 | .dic ks _=>match eM ks with
  |some xs=>if xs.length<=lim/\r.al=[] then (match cJ (fun d=>asg d true (dt env n caps)) ft fe xs with
   | .ok full=>if D.flats (full.map R.d) then .ok (.new (full.map R.d) true) else .stuck
   |_=>.stuck) else .stuck
  |none=>.stuck
 |_=>.stuck
def qj (n:Nat)(caps:List Nat)(f:En->Res R)(asg:D->Bool->En->Option En)(ft:En->Res Bool)(fe:En->Res R):En->Res R:=fun env=>(f env).bind (wy n caps asg ft fe env)
theorem fq {H:Hp}{m:Addr->Prop}{ks:List DK}{ds:List D}{v:V}(h:Is H m (.dic ks ds) v)(hk:∀ k∈ks,∃ a,k=.inl a):∃ d kvs u,v=.ref d/\m d/\(u=.dK kvs\/(u=.dT []/\kvs=[]))/\Rd H d u/\ks=kvs.map (fun p=>.inl p.1)/\IsAll H m ds (kvs.map Prod.snd):=by
 obtain⟨d,vs,rfl,⟨dat,md⟩,hall⟩:=h;rcases dat with⟨kvs,e,rfl,rfl⟩|⟨kvs,e,rfl,rfl⟩
 .exact⟨d,kvs,_,rfl,md,.inl rfl,e,rfl,hall⟩
 .cases kvs with
  |nil=>exact⟨d,[],_,rfl,md,.inr ⟨rfl,rfl⟩,e,rfl,hall⟩
  |cons p r=>obtain⟨a,ea⟩:=hk (.inr p.1) (by simp);cases ea
theorem gF:∀{ks:List DK}{xs:List D},eM ks=some xs->∀ k∈ks,∃ a,k=.inl a
 | [],_,_,k,h=>by cases h
 | .inl a::r,_,e,k,h=>by
  unfold eM at e;obtain⟨y,e1,_⟩:=I0.mp e;rcases HE.mp h with h|h
  .exact⟨a,h⟩
  .exact gF e1 k h
 | .inr _::_,_,e,_,_=>by cases e
section
variable {X:Cx}{E:XK}{scope:Scope}{tg:Expr}{tN:List Str}{capN:List Str}{caps:List Nat}{ix:List Nat}{asg:D->Bool->En->Option En}{elt iter:Expr}{pos:Pos}{ifs:List Expr}{f:En->Res R}{ft:En->Res Bool}{fe:En->Res R}
theorem gG (hc:X.calm=true)(S:CScope X scope tN capN caps)(hi:PD X E iter f)(hix:∀ j∈ix,j<tN.length)(hg:∀ cl C s3 H3 fp,xU (be X scope (tN++capN) cl C s3 H3 fp) ix tg asg)(ht:∀ cl C s3 H3 fp,tU (be X scope (tN++capN) cl C s3 H3 fp) E0 ifs ft)(he:∀ cl C s3 H3 fp,PD (be X scope (tN++capN) cl C s3 H3 fp) E0 elt fe)
 (hs:autoParam (∀ x,foldedSetIterable iter X.env x=pure x) LC._auto_1):PD X E (.ListComp elt [⟨tg,iter,ifs,0⟩] scope pos) (qj tN.length caps f asg ft fe):=by
 obtain⟨tl,p1,s1⟩:=hi;refine⟨_,Cg (t:=rB X scope tg tN capN caps elt ifs (Eh X tl)) fun pins s σ H Q I h=>n5 hc S I (qO p1) h hs,fun g M ρ env σ H Q rep p=>?_⟩;refine s1.oneE rep p fun r v M1 H1 e1 rep1 is q=>?_;unfold wy at q;cases qd:r.d with
 |dic ks ds=>
  rw[qd]at q is;dsimp only at q;cases qk:eM ks with
  |none=>rw[qk]at q;exact q.elim
  |some xs=>
   rw[qk]at q;dsimp only at q;by_cases hcon:xs.length<=lim/\r.al=[]
   .rw[Hx hcon]at q;obtain⟨hlim,hal⟩:=hcon;cases qc:cJ (fun d=>asg d true (dt env tN.length caps)) ft fe xs with
    |stuck=>rw[qc]at q;exact q.elim
    |exc c=>rw[qc]at q;exact q.elim
    |ok full=>
     rw[qc]at q;dsimp only at q;by_cases hfl:D.flats (full.map R.d)=true
     .rw[Hx hfl]at q;obtain⟨d,kvs,u,rfl,md,hu,hrd,rfl,hall⟩:=fq is (gF qk);have md:M1 d:=by rw[hal]at md;exact md.nil.1
      have j3:dS u:=by rcases hu with rfl|⟨rfl,_⟩<;>exact True.intro
      have ex:xs=kvs.map fun p=>kD p.1:=gE qk;have mk:f_ (full.map R.d) (aL full) ([]++caps.filter (isOwn env))=.new (full.map R.d) true:=by unfold f_;rw[Hx hfl]
      refine⟨d,kvs,u,rfl,hu,?_⟩;rcases hrd with hrd|⟨o,hrd⟩
      .right;refine⟨hrd,fun o hnf=>hW (g:=cM g d o u) (E:=E) (s:=⟨xs,true,[]⟩) hix hg ht he (rep1.still hrd j3 md) (by rw[ex];exact lF ag) hlim qc ?_⟩;rw[mk];intro v M' H' e rep' ro;have hd':H' d=some (.frz o u):=e.h _ _ ag;have rep3:=rep'.unstill hd' j3 (e.m d md) (wx rep1 hrd);refine .inr ⟨d,o,u,hd',j3,hnf,q v M' _ ⟨e.m,uc e.h hrd,fun a z=>?_⟩ rep3 ?_⟩
       .refine(e.n a z).imp id fun w=>?_;by_cases ha:a=d
        .subst ha;rw[ag]at w;cases w
        .rw[ac ha]at w;exact w
       .obtain⟨a,vs,rfl,h1,h2,h3,h4,h5⟩:=ro;have na:a≠d:=fun z=>by subst z;rw[hd']at h1;cases h1
        refine⟨a,vs,rfl,by rw[ac na];exact h1,h2,by rw[ac na]at h3;exact h3,h4,?_⟩;exact IsAll.of_each (P:=fun _ _=>True) (fun x w=>Is.thaw hd' j3 fun _ z=>z) (IsAll.flat (m':=msk g M' true) hfl h5)
      .left;refine⟨o,hrd,hW (g:=g) (E:=E) (s:=⟨xs,true,[]⟩) hix hg ht he rep1 (by rw[ex];exact lF hrd) hlim qc ?_⟩;rw[mk];exact fun v M' H' e rep' ro=>.inl (q v M' H' e rep' ro)
     .rw[Hz hfl]at q;exact q.elim
   .rw[Hz hcon]at q;exact q.elim
 |_=>rw[qd]at q;exact q.elim
def eQ (n:Nat)(caps:List Nat)(f:En->Res R)(asg:D->Bool->En->Option En)(ft:En->Res Bool)(fe:En->Res R):En->Res R:=fun env=>if wv (f env) then qj n caps f asg ft fe env else eB n caps (fY f) asg ft fe env
theorem gH {e:Expr}{n:Nat}(h1:PD X E e (eB n caps (fY f) asg ft fe))(h2:PD X E e (qj n caps f asg ft fe)):PD X E e (eQ n caps f asg ft fe):=by
 obtain⟨t1,p1,s1⟩:=h1;obtain⟨t2,p2,s2⟩:=h2;refine⟨fun σ H Q=>t1 σ H Q\/t2 σ H Q,fun pins s σ H Q I h=>h.elim (p1 pins s σ H Q I) (p2 pins s σ H Q I),fun g M ρ env σ H Q rep p=>?_⟩;unfold eQ at p;split at p
 .exact .inr (s2 g M ρ env σ H Q rep p)
 .exact .inl (s1 g M ρ env σ H Q rep p)
end
section
variable {X:Cx}{E:XK}{g:Gd}{M:Addr->Prop}{ρ:Pr}{env:En}{σ:St}{H:Hp}{D:Ends}{d:Addr}{o:Obj}{u:HO}
end
open Classical in
section
variable {P:Lw}{w:World}{K:Lu}{mg:Str->Option Lx}{base:Heap}
end
section
variable {X:Cx}{E:XK}
end
section
variable {H:Hp}{a:Addr}{ts:List Tri}{A:Int->Addr}{B:Int->Int->Addr}{x y z:Int}
end
section
variable {X:Cx}{E:XK}{tg:Expr}
end
section
variable {X:Cx}{E:XK}
def h_:List R->Res R
 | [r]=>match r.d with
  | .dic ks _=>match eM ks with
   |some xs=>if xs.length<=lim then .ok (.new xs true) else .stuck
   |none=>.stuck
  |_=>nV [r]
 |_=>.stuck
theorem om {H:Hp}{m:Addr->Prop}:∀(kvs:List (Key×V)),IsAll H m (kvs.map fun p=>kD p.1) (kvs.map fun p=>kV p.1)
 | []=>rfl
 |p::r=>⟨_,_,rfl,wo p.1,om r⟩
theorem oo (hc:X.calm=true):fI X E (.type "list") h_:=by
 obtain⟨r0,c0,s0⟩:=yK (X:=X) (E:=E);refine⟨fun xs H Q=>vI xs H Q\/r0 xs H Q,fun pins s σ H xs us Q I r h=>h.elim (pT hc pins s σ H xs us Q I r) (c0 pins s σ H xs us Q I r),fun g M ρ env σ H Q rs vs rep i p=>?_⟩
 match rs,i,p with
 | [r],i,p=>
  unfold h_ at p;dsimp only at p;split at p
  .rename_i ks ds q;cases qk:eM ks with
   |none=>rw[qk]at p;exact p.elim
   |some xs=>
    rw[qk]at p;dsimp only at p;by_cases hl:xs.length<=lim
    .rw[Hx hl]at p;left;obtain⟨v,w,rfl,i1,i2⟩:=i;cases i2;have i1:Is H (vmsk g M (aL [r]) ρ (bc [r])) r.d v:=i1;rw[q]at i1;obtain⟨d,kvs,u,rfl,md,hu,hrd,rfl,hall⟩:=fq i1 (gF qk);have ex:xs=kvs.map fun p=>kD p.1:=gE qk;subst ex;refine⟨d,kvs,u,rfl,hu,hrd,by rw[HA]at hl;exact de hl,fun l hl'=>p.new rep hl' (om kvs)⟩
    .rw[Hz hl]at p;exact p.elim
  .exact .inr (s0 g M ρ env σ H Q [r] vs rep i p)
 | [],_,p=>exact p.elim
 |_::_::_,_,p=>exact p.elim
def fJ (i:Nat)(f:En->Res R):En->Res Fl:=fun env=>(f env).bind fun r=>if i<env.length then .ok (.nx ((frz env r.al).set i (some (.val r.d r.fr)))) else .stuck
theorem cc {i:Nat}{x:Str}{e:Expr}{f:En->Res R}{pos pos':Pos}(hN:X.N.Nodup)(hi:X.N[i]?=some x)(hx:xX X.env.scope x)(h:PD X E e f)(hs:autoParam (swapsWith e (some (.Name x pos')) pos.line X.env=pure false) LF._auto_1)
 (hf:autoParam (X.fn x=true\/X.env.scope.names.lookup x=some .local) LA._auto_1):j7 X E (.Assign [.Name x pos'] e pos) (fJ i f):=by
 obtain⟨t,p1,s1⟩:=h;refine⟨_,uN hN hi hx p1 hs hf,fun g M ρ env σ H D rep p=>?_⟩;refine s1.oneS rep p fun r v M' H' e rep' ro p'=>?_;by_cases hi:i<env.length
 .rw[Hx hi]at p';obtain⟨M2,x2,x2m,rep2,is2⟩:=ro.is rep' e rep.same;obtain⟨M3,ρ3,x3,rep3,o3,_,_⟩:=Rep.frz r.al rep2;have rep4:=rep3.put (i:=i) (sl:=.val r.d r.fr) (T:=fun _=>False) (by rw[cu];exact hi) (Is.frozen rep2 x3 o3 is2) (fun _ z=>z.elim) fun _ z=>z.elim;exact p' _ M3 _ H' ⟨fun a z=>x3 a (x2m a z),fun _ _ q _=>q⟩ rep4
 .rw[Hz hi]at p';exact p'.elim
theorem qv (i:Nat) {x:Str} {pos:Pos} (hN:autoParam (X.N[i]?=some x) LF._auto_1) (hv:autoParam (Vis X.env.scope x) LB._auto_1) (hd:autoParam ((x==("__debug__" : Str))=false) Lz._auto_1)
 (hc:autoParam ((x==("__classdict__" : Str))=false) Lz._auto_1):PD X E (.Name x pos) (ai i):=mv (pv i hN hv hd hc)
theorem aJ {i:Nat}{o:Expr}{k:Int}{j:Nat}{pos pos':Pos}(hu:X.A.units+64<cLine)(h:PE X o (fD i)):PD X E (.Subscript o (.Constant (.int k) j pos') pos) (bI i (vC (.int k))):=qh (pX h ar (fun _ _=>rfl)) (mI hu (mv h) ar (fun _ _=>rfl))
end
end L3
namespace L2
open PySem PySem.Spec PyProof.Rows
section
variable {X:Cx}
end
end L2
namespace L3
open PySem PySem.Spec PyProof.Rows L2
section
variable {X:Cx}{E:XK}
end
section
variable {X:Cx}{E:XK}{hc hc2:Str}{Ch Ch2:Addr}{cs cs2:List Str}{np hpos np2 hpos2 pos epos p cpos:Pos}{b₀ c₀:Stmt}{suite suite2:List Stmt}{fsu fsu2:En->Res Fl}{k:Nat}{f:Addr}{fd:FuncData}{ps:List Str}{F:List D->Res R}{x:Str}{e:Expr}{es:List Expr}{fs:En->Res (List R)}
end
section
variable {X:Cx}{E:XK}
end
section
variable {X:Cx}{E:XK}{scope:Scope}{tg:Expr}{tN:List Str}{capN:List Str}{caps:List Nat}{iter:Expr}{pos lpos:Pos}{src:En->Res Src}
end
section
variable {X:Cx}{E:XK}
end
noncomputable def F2:Bool->List V->HO
 |true,xs=>.tup xs
 |false,xs=>.lst xs
theorem rL:∀{k:Bool}{xs ys:List V},F2 k xs=F2 k ys->xs=ys
 |true,_,_,e=>by cases e;rfl
 |false,_,_,e=>by cases e;rfl
theorem rM:∀{k:Bool}{xs:List V}{o:Obj}{u:HO},F2 k xs≠.frz o u
 |true,_,_,_,e=>by cases e
 |false,_,_,_,e=>by cases e
def SqX (k:Bool)(H:Hp)(a:Addr)(xs:List V):Prop:=Rd H a (F2 k xs)
theorem SqX.inj {k:Bool}{H:Hp}{a:Addr}{xs ys:List V}(h:SqX k H a xs)(g:SqX k H a ys):xs=ys:=by
 rcases h with h|⟨o,h⟩<;>rcases g with g|⟨o',g⟩<;>rw[h]at g
 .exact rL (Iu g)
 .exact(rM (Iu g)).elim
 .exact(rM (Iu g).symm).elim
 .have e:=Iu g;injection e with _ e;exact rL e
theorem SqX.some {k:Bool}{H:Hp}{a:Addr}{xs:List V}(h:SqX k H a xs):∃ o,H a=some o:=vM h
theorem SqX.at {X:Cx}{pins:List (Addr×Obj)}{σ:St}{H:Hp}{s:Ls}:∀{k:Bool}{a:Addr}{xs:List V},L2.Inv X pins σ H s->SqX k H a xs->∃ its:List Lx,Vals xs its/\Hf k s.heap a its.toArray
 |true,_,_,I,h=>let ⟨its,r,p,_⟩:=I.tuple (.inl h);⟨its,r,p⟩
 |false,_,_,I,h=>let ⟨its,r,p,_⟩:=I.list (.inl h);⟨its,r,p.isList⟩
section
variable {X:Cx}{E:XK}{es:List Expr}{k:Nat}{ie:Pos}
end
section
variable {X:Cx}{E:XK}
def rN (a b:Str):Prop:=0<b.length/\a.length<=100000/\(Txt.split a b).length<=100000/\(Builtin.Str.partsBetween a (Builtin.Str.occurrences a b 0 a.length (a.length+1)) b.length).length<=100000
instance (a b:Str):Decidable (rN a b):=by unfold rN;infer_instance
end
section
variable {K:Lu}{H:Hp}{m:Addr->Prop}
end
section
variable {X:Cx}{E:XK}
end
open Classical in
section
variable {X:Cx}{E:XK}{g:Gd}{M:Addr->Prop}{ρ:Pr}{env:En}{σ:St}{H H2:Hp}{D:Ends}
end
section
variable {P:Lw}{w:World}{K:Lu}{mg:Str->Option Lx}{base:Heap}
end
section
variable {X:Cx}{E:XK}
open Classical in
end
section
variable {X:Cx}{E:XK}{scope:Scope}{tg:Expr}{tN:List Str}{capN:List Str}{caps:List Nat}{iter elt:Expr}{pos:Pos}{src:En->Res Src}
end
section
variable {X:Cx}{E:XK}
theorem fK {e:Expr}{f:En->Res R}{x1 x2:Str}{p1 p2 pos1 pos2:Pos}(hc:X.calm=true)(hu:X.A.units+64<cLine)(h:PD X E e f)
 (hg1:Gl X x1) (hm1:X.mg x1=none) (hv1:bootBuiltins x1=some (.builtin "sorted")) (hg2:Gl X x2) (hm2:X.mg x2=none) (hv2:bootBuiltins x2=some (.type "set"))
 (hn1:autoParam (x1≠"__name__") Lz._auto_1) (hdb1:autoParam ((x1==("__debug__" : Str))=false) Lz._auto_1) (hn2:autoParam (x2≠"__name__") Lz._auto_1) (hdb2:autoParam ((x2==("__debug__" : Str))=false) Lz._auto_1)
 (he2:autoParam (starEach [e] X.env=(false,eval e X.env)::starEach [] X.env) LF._auto_1) (hpl2:autoParam ((backTo pos2 (starEach [] X.env)).any (·.1)=false) LF._auto_1)
 (he1:autoParam (starEach [.Call (.Name x2 p2) [e] [] pos2] X.env=(false,eval (.Call (.Name x2 p2) [e] [] pos2) X.env)::starEach [] X.env) LF._auto_1) (hpl1:autoParam ((backTo pos1 (starEach [] X.env)).any (·.1)=false) LF._auto_1) :
 PD X E (.Call (.Name x1 p1) [.Call (.Name x2 p2) [e] [] pos2] [] pos1) (yY f):=ku (HB _) BP hc hu h hg1 hm1 hv1 hg2 hm2 hv2 hn1 hdb1 hn2 hdb2 he2 hpl2 he1 hpl1
end
noncomputable def jL (k:Int):List Int->List Int
 | []=>[k]
 |h::t=>if k=h then h::t else if k<h then k::h::t else h::jL k t
def sortI:List Int->List Int
 | []=>[]
 |k::ks=>jL k (sortI ks)
def ud (r:R):Res R:=match r.d with
 | .lst ds=>match gD ds with
  |some is=>if is.length<=300 then .ok (.new ((sortI is).map .int) true) else .stuck
  |none=>.stuck
 |_=>.stuck
def y_ (f:En->Res R):En->Res R:=fun env=>(f env).bind ud
theorem jM (k x:Int):∀ l,x∈jL k l↔x=k\/x∈l
 | []=>by simp[jL]
 |h::t=>by
  unfold jL;split
  .rename_i e;subst e;simp
  .split
   .simp
   .rw[HE,jM k x t,HE];constructor
    .rintro (h|h|h)
     .exact .inr (.inl h)
     .exact .inl h
     .exact .inr (.inr h)
    .rintro (h|h|h)
     .exact .inr (.inl h)
     .exact .inl h
     .exact .inr (.inr h)
theorem rO (k:Int):∀ l:List Int,l.Pairwise (·< ·)->(jL k l).Pairwise (·< ·)
 | [],_=>by simp[jL]
 |h::t,p=>by
  have p':=Iw.mp p;unfold jL;split
  .exact p
  .split
   .rename_i h1 h2;refine Iw.mpr ⟨fun x hx=>?_,p⟩;rcases HE.mp hx with rfl|hx
    .exact h2
    .have:=p'.1 x hx;omega
   .rename_i h1 h2;refine Iw.mpr ⟨fun x hx=>?_,rO k t p'.2⟩;rcases (jM k x t).mp hx with rfl|hx
    .omega
    .exact p'.1 x hx
theorem cC (x:Int):∀ ks,x∈sortI ks↔x∈ks
 | []=>Iff.rfl
 |k::ks=>by unfold sortI;rw[jM,cC x ks,HE]
theorem eR:∀ ks,(sortI ks).Pairwise (·< ·)
 | []=>List.Pairwise.nil
 |k::ks=>by unfold sortI;exact rO k _ (eR ks)
theorem c_:∀(a b:List Int),a.Pairwise (·< ·)->b.Pairwise (·< ·)->(∀ x,x∈a↔x∈b)->a=b
 | [],[],_,_,_=>rfl
 | [],y::b,_,_,h=>by have:=(h y).mpr (by simp);cases this
 |x::a,[],_,_,h=>by have:=(h x).mp (by simp);cases this
 |x::a,y::b,pa,pb,h=>by
  have pa':=Iw.mp pa;have pb':=Iw.mp pb;have e:x=y:=by
   have h1:=(h x).mp (by simp);have h2:=(h y).mpr (by simp);rcases HE.mp h1 with e|h1
   .exact e
   .rcases HE.mp h2 with e|h2
    .exact e.symm
    .have:=pb'.1 x h1;have:=pa'.1 y h2;omega
  subst e;rw[c_ a b pa'.2 pb'.2 fun z=>?_];constructor
  .intro hz;have:=(h z).mp (by simp[hz]);rcases HE.mp this with e|q
   .have:=pa'.1 z hz;omega
   .exact q
  .intro hz;have:=(h z).mpr (by simp[hz]);rcases HE.mp this with e|q
   .have:=pb'.1 z hz;omega
   .exact q
section
variable {X:Cx}{E:XK}
theorem fL {e:Expr}{f:En->Res R}{x1 x2:Str}{p1 p2 pos1 pos2:Pos}(hc:X.calm=true)(h:PD X E e f)
 (hg1:Gl X x1) (hm1:X.mg x1=none) (hv1:bootBuiltins x1=some (.builtin "sorted")) (hg2:Gl X x2) (hm2:X.mg x2=none) (hv2:bootBuiltins x2=some (.type "set"))
 (hn1:autoParam (x1≠"__name__") Lz._auto_1) (hdb1:autoParam ((x1==("__debug__" : Str))=false) Lz._auto_1) (hn2:autoParam (x2≠"__name__") Lz._auto_1) (hdb2:autoParam ((x2==("__debug__" : Str))=false) Lz._auto_1)
 (he2:autoParam (starEach [e] X.env=(false,eval e X.env)::starEach [] X.env) LF._auto_1) (hpl2:autoParam ((backTo pos2 (starEach [] X.env)).any (·.1)=false) LF._auto_1)
 (he1:autoParam (starEach [.Call (.Name x2 p2) [e] [] pos2] X.env=(false,eval (.Call (.Name x2 p2) [e] [] pos2) X.env)::starEach [] X.env) LF._auto_1) (hpl1:autoParam ((backTo pos1 (starEach [] X.env)).any (·.1)=false) LF._auto_1) :
 PD X E (.Call (.Name x1 p1) [.Call (.Name x2 p2) [e] [] pos2] [] pos1) (y_ f):=by
 obtain⟨t,p1,s1⟩:=h;refine⟨_,ga (kh hc) hg1 hm1 hv1 (bh (g6 (pS hc) hg2 hm2 hv2 (bh p1 ck he2) hn2 hdb2 he2 hpl2) ck he1) hn1 hdb1 he1 hpl1,fun g M ρ env σ H Q rep p=>?_⟩;refine s1.oneE rep p fun r v M1 H1 e1 rep1 i1 q1=>?_;unfold ud at q1;cases qd:r.d with
 |lst ds=>
  rw[qd]at q1 i1;dsimp only at q1;cases qt:gD ds with
  |none=>rw[qt]at q1;exact q1.elim
  |some is=>
   rw[qt]at q1;dsimp only at q1;by_cases hl:is.length<=300
   .rw[Hx hl]at q1;obtain⟨a,vs,rfl,h1,h2⟩:=i1.rd;have hv:vs=is.map V.int:=by rw[IsAll.ints h2 qt];unfold iK;rw[ID];rfl
    rw[hv]at h1;refine⟨a,is,rfl,h1,hl,fun b es hb v=>?_⟩;refine⟨b,es,is,rfl,ag,v,hl,fun l ks hl2 hm hw=>?_⟩;have hlb:l≠b:=fun z=>by rw[z,ag]at hl2;cases hl2
    have hl1:H1 l=none:=by rw[ac hlb]at hl2;exact hl2
    have sm1:Same H1 (av H1 b (.ext fun h=>SetAt X.w h b es)):=aQ hb;have sm2:Same (av H1 b (.ext fun h=>SetAt X.w h b es)) (av (av H1 b (.ext fun h=>SetAt X.w h b es)) l (.lst (ks.map V.int))):=aQ hl2;have sm:=sm1.trans sm2;obtain⟨z0,zm,zo⟩:=rep1.free hl1;refine q1 _ M1 _ ⟨fun _ z=>z,sm,fun _ z=>.inl z⟩ (rep1.grow sm) ⟨l,_,rfl,ag,zm,hl1,zo,?_⟩;have ek:ks=sortI is:=c_ _ _ hw (eR is) fun k=>by rw[cC,hm]
    rw[<- ek];exact dI ks
   .rw[Hz hl]at q1;exact q1.elim
 |_=>rw[qd]at q1;exact q1.elim
end
noncomputable abbrev IP:=Int×Int
noncomputable def dp (l:List IP)(x:IP):List IP:=if x∈l then l else l++[x]
def h1 (ts:List Tri):List IP:=(ts.map fun t=>(t.1,t.2.1)).foldl dp []
noncomputable def pk (p:IP):List Key:=[.inl p.1,.inl p.2]
def bx (ts:List Tri):D:=.dic ((h1 ts).map fun p=>.inr (pk p)) ((h1 ts).map fun p=>.lst ((g3 ts p.1 p.2).map .int))
theorem ql {p q:IP}(h:pk p=pk q):p=q:=by unfold pk at h;simp only[K0,Sum.inl.injEq,and_true]at h;exact Li h.1 h.2
theorem qp (l:List IP)(x y:IP):y∈dp l x↔y∈l\/y=x:=by
 unfold dp;split
 .rename_i h;exact⟨.inl,fun z=>z.elim id fun e=>e▸h⟩
 .simp
theorem i6 (ts:List Tri)(x y z:Int):h1 (ts++[(x,y,z)])=dp (h1 ts) (x,y):=by unfold h1;rw[IU,List.foldl_append];rfl
theorem rP (y:IP):∀(xs:List IP)(l:List IP),y∈xs.foldl dp l↔y∈l\/y∈xs
 | [],l=>by simp
 |x::xs,l=>by rw[Jt,rP y xs,qp,HE,or_assoc]
theorem qu (ts:List Tri)(p:IP):p∈h1 ts↔∃ t∈ts,t.1=p.1/\t.2.1=p.2:=by
 unfold h1;rw[rP,HY];constructor
 .rintro (h|⟨t,h1,h2⟩)
  .simp at h
  .exact⟨t,h1,by rw[<- h2],by rw[<- h2]⟩
 .rintro⟨t,h1,h2,h3⟩;exact .inr ⟨t,h1,Li h2 h3⟩
theorem i7 {ts:List Tri}{x y:Int}(h:(x,y)∉h1 ts):g3 ts x y=[]:=by unfold g3;rw[List.map_eq_nil_iff,List.filter_eq_nil_iff];intro t ht z;simp only[Ir,JW]at z;exact h ((qu ts (x,y)).mpr ⟨t,ht,z.1,z.2⟩)
theorem Ci (l:List IP)(x:IP):(dp l x).length<=l.length+1:=by unfold dp;split<;>simp
theorem rQ:∀(xs l:List IP),(xs.foldl dp l).length<=l.length+xs.length
 | [],l=>by simp
 |x::xs,l=>by rw[Jt];have:=rQ xs (dp l x);have h2:=Ci l x;simp only[IE];omega
theorem Cj (ts:List Tri):(h1 ts).length<=ts.length:=by unfold h1;have:=rQ (ts.map fun t=>(t.1,t.2.1)) [];simpa using this
def kvP (l:List IP)(A:IP->Addr):List (List Key×V):=l.map fun x=>(pk x,.ref (A x))
theorem rR (l:List IP)(A:IP->Addr)(x:IP):cV (kvP l A) (pk x)=if x∈l then some (.ref (A x)) else none:=by
 induction l with
 |nil=>rfl
 |cons y l ih=>
  unfold kvP at ih ⊢;rw[HL];by_cases h:y=x
  .rw[di (by rw[h]),Hx (by rw[h];exact HW),h]
  .rw[dj (by intro z;exact h (ql z)),ih];by_cases hx:x∈l
   .rw[Hx hx,Hx (HV _ hx)]
   .rw[Hz hx,Hz];intro z;rcases HE.mp z with z|z
    .exact h z.symm
    .exact hx z
theorem za {l:List IP}{A:IP->Addr}{x:IP}{b:Addr}(h:x∉l):bz (kvP l A) (pk x) (.ref b)=kvP (l++[x]) (fun u=>if u=x then b else A u):=by
 have e:kvP l (fun u=>if u=x then b else A u)=kvP l A:=by unfold kvP;refine J4 fun u hu=>?_;show(_:List Key×V)=_;dsimp only;rw[Hz (show ¬ u=x from fun z=>h (by rw[<- z];exact hu))]
 unfold bz;rw[Hz]
 .show _=kvP (l++[x]) _;unfold kvP at e ⊢;rw[IU,e];simp
 .intro z;obtain⟨p,hp,hq⟩:=Ln.mp z;obtain⟨u,hu,rfl⟩:=HY.mp hp;have:pk u=pk x:=of_decide_eq_true hq;exact h (ql this▸hu)
structure Gp (H:Hp) (a:Addr) (ts:List Tri) (A:IP->Addr):Prop where
 root:H a=some (.dT (kvP (h1 ts) A))\/(h1 ts=[]/\H a=some (.dK []))
 leaf:∀ p∈h1 ts,H (A p)=some (.lst ((g3 ts p.1 p.2).map .int))
 d2:∀ p∈h1 ts,∀ q∈h1 ts,A p=A q->p=q
def ue (a:Addr)(ts:List Tri)(A:IP->Addr)(b:Addr):Prop:=b=a\/∃ p∈h1 ts,b=A p
section
variable {H:Hp}{a:Addr}{ts:List Tri}{A:IP->Addr}{x y z:Int}
theorem Gp.old (G:Gp H a ts A)(hx:(x,y)∈h1 ts){H':Hp}(hm:H' (A (x,y))=some (.lst ((g3 ts x y++[z]).map .int)))(kp:∀ c u,H c=some u->c≠A (x,y)->H' c=some u):Gp H' a (ts++[(x,y,z)]) A:=by
 have e1:h1 (ts++[(x,y,z)])=h1 ts:=by rw[i6];unfold dp;rw[Hx hx]
 have hl:=G.leaf _ hx;have na:a≠A (x,y):=fun e=>by
  rcases G.root with q|⟨q,_⟩
  .rw[e,hl]at q;cases q
  .rw[q]at hx;simp at hx
 refine⟨?_,fun p hp=>?_,by rw[e1];exact G.d2⟩
 .rw[e1];rcases G.root with q|⟨q,_⟩
  .exact .inl (kp a _ q na)
  .rw[q]at hx;simp at hx
 .rw[e1]at hp;rw[rK];by_cases h:x=p.1/\y=p.2
  .obtain rfl:(x,y)=p:=Li h.1 h.2;rw[Hx ⟨rfl,rfl⟩];exact hm
  .rw[Hz h];exact kp _ _ (G.leaf p hp) fun e=>h (by rw[G.d2 p hp _ hx e];exact⟨rfl,rfl⟩)
theorem Gp.fresh (G:Gp H a ts A)(hx:(x,y)∉h1 ts){l:Addr}(hl:H l=none){H':Hp}(hm:H' l=some (.lst [.int z]))(ha:H' a=some (.dT (kvP (h1 ts++[(x,y)]) fun u=>if u=(x,y) then l else A u)))
 (kp:∀ c u,H c=some u->c≠a->H' c=some u):Gp H' a (ts++[(x,y,z)]) (fun u=>if u=(x,y) then l else A u):=by
 have e1:h1 (ts++[(x,y,z)])=h1 ts++[(x,y)]:=by rw[i6];unfold dp;rw[Hz hx]
 have old:∀ p,p∈h1 (ts++[(x,y,z)])->p≠(x,y)->p∈h1 ts:=fun p hp hn=>by
  rw[e1]at hp;rcases H_.mp hp with q|q
  .exact q
  .exact(hn (by simpa using q)).elim
 have nl:∀ p∈h1 ts,A p≠l:=fun p hp e=>by have:=G.leaf p hp;rw[e,hl]at this;cases this
 refine⟨.inl (by rw[e1];exact ha),fun p hp=>?_,fun p hp q hq e=>?_⟩
 .rw[rK];by_cases h:p=(x,y)
  .subst h;rw[Hx rfl,Hx ⟨rfl,rfl⟩,i7 hx];exact hm
  .rw[Hz h,Hz (fun q=>h (Li q.1.symm q.2.symm))];refine kp _ _ (G.leaf p (old p hp h)) fun e=>?_;have:=G.leaf p (old p hp h);rcases G.root with q|⟨_,q⟩<;>(rw[e,q]at this;cases this)
 .try dsimp only at e
  by_cases h:p=(x,y)<;>by_cases h':q=(x,y)
  .exact h.trans h'.symm
  .rw[Hx h,Hz h']at e;exact(nl q (old q hq h') e.symm).elim
  .rw[Hz h,Hx h']at e;exact(nl p (old p hp h) e).elim
  .rw[Hz h,Hz h']at e;exact G.d2 p (old p hp h) q (old q hq h') e
end
theorem jN {H:Hp}{m:Addr->Prop}{F:IP->D}{G:IP->V}:∀{l:List IP},(∀ x∈l,Is H m (F x) (G x))->IsAll H m (l.map F) (l.map G)
 | [],_=>rfl
 |x::l,h=>⟨_,_,rfl,h x HW,jN fun y hy=>h y (HV _ hy)⟩
theorem Gp.is {H:Hp}{a:Addr}{ts:List Tri}{A:IP->Addr}(G:Gp H a ts A):Is H (ue a ts A) (bx ts) (.ref a):=by
 refine⟨a,(h1 ts).map fun x=>.ref (A x),rfl,⟨?_,.inl rfl⟩,jN fun p hp=>⟨A p,_,rfl,.inl ⟨G.leaf p hp,.inr ⟨p,hp,rfl⟩⟩,jK _⟩⟩;rcases G.root with q|⟨q,e⟩
 .exact .inr ⟨_,.inl q,by unfold kvP;rw[ID];rfl,by unfold kvP;rw[ID];rfl⟩
 .rw[q];exact .inl ⟨[],.inl e,rfl,rfl⟩
def uf (i r1 r2 r3:Nat)(env:En)(r:R):Res Fl:=match r.d with
 | .lst ds=>match eO ds with
  |some ts=>if ts.length<=1000/\¬ i∈r.al/\i≠r1/\i≠r2/\i≠r3/\r1≠r2/\r1≠r3/\r2≠r3/\r1<env.length/\r2<env.length/\r3<env.length then
   .ok (.nx (((((frz env r.al).set r1 none).set r2 none).set r3 none).set i (some (.tre (bx ts))))) else .stuck
  |none=>.stuck
 |_=>.stuck
def wz (i r1 r2 r3:Nat)(f:En->Res R):En->Res Fl:=fun env=>match env[i]? with
 |some (some (.tre (.dic [] [])))=>(f env).bind (uf i r1 r2 r3 env)
 |_=>.stuck
def Ck (K:Lu) (i r1 r2 r3:Nat):TE:=Gq K "list" qL (Gq K "dict" vG (fD i) (kH (D7 (kH (fD r1) (kH (fD r2) uU))) (kH (D8 uU) uU))) (kH (fD r3) uU)
theorem wA {K:Lu}{H:Hp}{a:Addr}{ts:List Tri}{A:IP->Addr}{x y z:Int}{i r1 r2 r3:Nat}{σ:St}{C:Hp->Prop}(G:Gp H a ts A)(hl:ts.length<=1000)
 (hi:σ[i]?=some (some (.ref a))) (e1:σ[r1]?=some (some (.int x))) (e2:σ[r2]?=some (some (.int y))) (e3:σ[r3]?=some (some (.int z)))
 (k:∀ H' A',Gp H' a (ts++[(x,y,z)]) A'->(∀ b u,H b=some u->¬ ue a ts A b->H' b=some u)->(∀ b,ue a (ts++[(x,y,z)]) A' b->ue a ts A b\/H b=none)->C H') :
 Ck K i r1 r2 r3 σ H fun _ H'=>C H':=by
 have sz:∀ n,n<=1000->n<sizeLine:=fun n h=>hI (by unfold lim;omega);have han:H a≠none:=by rcases G.root with q|⟨_,q⟩<;>(rw[q];simp)
 have tya:Gn K "dict" (.ref a) H:=.inr (.inr (.inl ⟨rfl,G.root.symm.imp (fun⟨_,q⟩=>⟨_,q⟩) fun q=>⟨_,q⟩⟩));refine⟨.ref a,hi,tya,.int x,e1,.int y,e2,IH (sz 2 (by omega)),fun b hb=>⟨Ij _,fun l hl'=>?_⟩⟩;have nba:a≠b:=fun e=>han (by rw[e];exact hb);have kb:∀ c u,H c=some u->av H b (.tup [.int x,.int y]) c=some u:=fun c u e=>by rw[ac (aH e hb)];exact e
 have hlH:H l=none:=(aQ hb).free hl';have nbl:b≠l:=fun e=>by rw[<- e,ag]at hl';cases hl'
 have kl:∀ c u,H c=some u->av (av H b (.tup [.int x,.int y])) l (.lst []) c=some u:=fun c u e=>by rw[ac (aH e hlH)];exact kb c u e
 have nal:a≠l:=fun e=>han (by rw[e];exact hlH);refine⟨a,b,pk (x,y),.ref l,kvP (h1 ts) A,rfl,rfl,by rw[ac nbl,ag];rfl,?_,sz _ (by unfold kvP;rw[HA];exact HS (Cj ts) hl),?_⟩
 .rcases G.root with q|⟨e,q⟩
  .exact .inl (kl _ _ q)
  .exact .inr ⟨kl _ _ q,by rw[e];rfl⟩
 by_cases hx:(x,y)∈h1 ts
 .left;have hm:=G.leaf _ hx;refine⟨.ref (A (x,y)),by rw[rR,Hx hx],.inl ⟨rfl,_,SqL.of (kl _ _ hm)⟩,.int z,e3,A (x,y),_,.int z,rfl,rfl,kl _ _ hm,sz _ (by rw[HA];exact HS (wu ts x y) hl),?_⟩;have G':=G.old (z:=z) hx (H':=av (av (av H b (.tup [.int x,.int y])) l (.lst [])) (A (x,y)) (.lst ((g3 ts x y).map .int++[.int z]))) (by rw[ag,IU];rfl) (fun c u e hn=>by rw[ac hn];exact kl c u e);refine k _ A G' (fun c u e hn=>?_) fun c hc=>?_
  .rw[ac (fun q=>hn (.inr ⟨_,hx,q⟩))];exact kl c u e
  .left;rcases hc with q|⟨p,hp,q⟩
   .exact .inl q
   .rw[i6,qp]at hp;exact .inr ⟨p,hp.elim id fun e=>e▸hx,q⟩
 .right;refine⟨by rw[rR,Hz hx],.inl ⟨rfl,[],SqL.of ?_⟩,.int z,e3,l,[],.int z,rfl,rfl,?_,by simp[Iy],?_⟩
  .rw[ac (Jb nal),ag]
  .rw[ac (Jb nal),ag]
  .have G':=G.fresh (z:=z) hx hlH (H':=av (av (av (av H b (.tup [.int x,.int y])) l (.lst [])) a (.dT (bz (kvP (h1 ts) A) (pk (x,y)) (.ref l)))) l (.lst ([]++[.int z]))) ag (by rw[ac nal,ag,za hx])
    (fun c u e hn=>by rw[ac (aH e hlH),ac hn];exact kl c u e)
   refine k _ _ G' (fun c u e hn=>?_) fun c hc=>?_
   .rw[ac (aH e hlH),ac (fun q=>hn (.inl q))];exact kl c u e
   .rcases hc with q|⟨p,hp,q⟩
    .exact .inl (.inl q)
    .by_cases h:p=(x,y)
     .dsimp only at q;rw[Hx h]at q;exact .inr (by rw[q];exact hlH)
     .dsimp only at q;rw[Hz h]at q;rw[i6,qp]at hp;exact .inl (.inr ⟨p,hp.resolve_right h,q⟩)
section
variable {X:Cx}{E:XK}{tg:Expr}
theorem zb {i r1 r2 r3:Nat}{l:Expr}{body:List Stmt}{f:En->Res R}{pos:Pos}(hp:PassesOwn (model X.prog X.w) X.A X.env X.xe)(hc:X.calm=true)(hl:PD X E l f)
 (hg:PG X tg (DX X.K 3 (nq (ii r1) (nq (ii r2) (nq (ii r3) DW))))) (hb:PSs X body (uL (Ck X.K i r1 r2 r3))) (hs:autoParam (∀ x,foldedSetIterable l X.env x=pure x) LC._auto_1):j7 X E (.For tg l body [] pos) (wz i r1 r2 r3 f):=by
 obtain⟨tl,p1,s1⟩:=hl;refine⟨_,o9 hp hc (vY p1) hg hb hs,fun g M ρ env σ H D rep p=>?_⟩;unfold wz at p;split at p
 .rename_i hq;refine s1.oneS rep p fun r v M0 H1 e1 rep0 ro p0=>?_;obtain⟨M1,x1,x1m,rep1,is1⟩:=ro.is rep0 e1 rep.same;unfold uf at p0;cases qd:r.d with
  |lst ds=>
   rw[qd]at p0;dsimp only at p0;cases qt:eO ds with
   |none=>rw[qt]at p0;exact p0.elim
   |some ts=>
    rw[qt]at p0;dsimp only at p0;by_cases hcond:ts.length<=1000/\¬ i∈r.al/\i≠r1/\i≠r2/\i≠r3/\r1≠r2/\r1≠r3/\r2≠r3/\r1<env.length/\r2<env.length/\r3<env.length
    .rw[Hx hcond]at p0;obtain⟨bg,hal,ni1,ni2,ni3,n12,n13,n23,l1,l2,l3⟩:=hcond;obtain⟨M2,ρ2,x2,rep2,o2,_,_⟩:=Rep.frz r.al rep1;have is2:Is H1 (msk g M2 r.fr) r.d v:=Is.frozen rep1 x2 o2 is1;have p2:=PostS.frz (⟨fun a z=>x2 a (x1m a z),fun _ _ q _=>q⟩ : Frz M0 H1 M2 H1) p0;clear p0;rw[qd]at is2;have hq2:(frz env r.al)[i]?=some (some (.tre (.dic [] []))):=by rw[mB _ hal];exact hq
     have hi:i<(frz env r.al).length:=(Hv.mp hq2).1;obtain⟨va,ev,ka⟩:=rep2.slot i _ hq2;have ka:Is H1 (ρ2 i) (.dic [] []) va:=ka;obtain⟨a,ws,rfl,⟨dat,pa⟩,hw⟩:=ka;obtain⟨nMa,a0,muA⟩:=rep2.priv i a pa;have nofz:∀ o u,H1 a≠some (.frz o u):=fun o u z=>by obtain⟨uo,q,qm⟩:=muA;rw[z]at q;cases q;exact qm
     have rootA:H1 a=some (.dK [])\/H1 a=some (.dT []):=by
      rcases dat with⟨kvs,e|⟨o,e⟩,h1,_⟩|⟨kvs,e|⟨o,e⟩,h1,_⟩
      .left;have:kvs=[]:=by simpa using h1.symm
       rw[this]at e;exact e
      .exact(nofz _ _ e).elim
      .right;have:kvs=[]:=by simpa using h1.symm
       rw[this]at e;exact e
      .exact(nofz _ _ e).elim
     have notA:∀ c u,H1 c=some u->(∀ k,u≠.dK k)->(∀ k,u≠.dT k)->c≠a:=fun c u e n1 n2 z=>by
      subst z;rcases rootA with q|q<;>(rw[q]at e;cases e)
      .exact n1 _ rfl
      .exact n2 _ rfl
     obtain⟨la,vs,rfl,hla,hall⟩:=is2;have lists:Rd H1 la (.lst vs):=hla.imp (·.1) fun⟨o,z,_⟩=>⟨o,z⟩;have nla:la≠a:=by
      rcases hla with⟨q,_⟩|⟨o,q,_⟩
      .exact notA la _ q (fun _ z=>nomatch z) fun _ z=>nomatch z
      .exact notA la _ q (fun _ z=>nomatch z) fun _ z=>nomatch z
     have hvl:vs.length=ts.length:=by rw[hall.length];exact lD qt
     let Pv:Nat->St->Hp->Prop:=fun j σ' H'=>σ'.length=σ.length/\(∀ n,n≠r1->n≠r2->n≠r3->σ'[n]?=σ[n]?)/\(∀ c u,H1 c=some u->c≠a->H' c=some u)/\∃ A,Gp H' a (ts.take j) A/\∀ c,ue a (ts.take j) A c->c=a\/H1 c=none
     have P0:Pv 0 σ H1:=by
      refine⟨rfl,fun _ _ _ _=>rfl,fun _ _ e _=>e,fun _=>0,?_,?_⟩
      .rw[KG];exact⟨rootA.symm.imp (fun q=>by exact q) fun q=>⟨rfl,q⟩,fun x hx=>(by cases hx),fun x hx=>(by cases hx)⟩
      .rw[KG];rintro c (h|⟨x,hx,_⟩)
       .exact .inl h
       .cases hx
     have sql:∀ σ' H' j,Pv j σ' H'->SqL X.K H' la vs:=fun σ' H' j z=>.inl (hG lists fun o e=>z.2.2.1 la o e nla);refine⟨la,rfl,.inl ⟨⟨vs,.inl lists⟩,uQ (K:=X.K) (a:=la) (xs:=vs) Pv P0 (fun j σ' H' _ z=>sql σ' H' j z) (fun j v σ' H' ex z=>?_) fun σ' H' z=>?_⟩⟩
     .obtain⟨z1,z2,z3,A,G,tin⟩:=z;obtain⟨x,y,w,pj,et,rfl,hpj⟩:=ol hall qt ex;have hj:j<ts.length:=(Hv.mp et).1;have npj:pj≠a:=notA pj _ hpj (fun _ z=>nomatch z) fun _ z=>nomatch z;have htk:ts.take (j+1)=ts.take j++[(x,y,w)]:=by
       have e2:ts[j]=(x,y,w):=by rw[II hj]at et;exact Iu et
       rw[<- e2,List.take_append_getElem]
      have hlσ:σ'.length=(frz env r.al).length:=by rw[z1,rep2.len]
      have b1:r1<σ'.length:=by rw[hlσ,cu];exact l1
      have b2:r2<σ'.length:=by rw[hlσ,cu];exact l2
      have b3:r3<σ'.length:=by rw[hlσ,cu];exact l3
      refine⟨pj,_,rfl,SqT.of (z3 pj _ hpj npj),rfl,_,_,rfl,_,_,rfl,_,_,rfl,rfl,?_⟩;show uL (Ck X.K i r1 r2 r3) _ (((σ'.set r1 (some (.int x))).set r2 (some (.int y))).set r3 (some (.int w))) H';have get:∀ n,n≠r1->n≠r2->n≠r3->(((σ'.set r1 (some (.int x))).set r2 (some (.int y))).set r3 (some (.int w)))[n]?=σ'[n]?:=fun n a1 a2 a3=>by rw[HM (Jb a3),HM (Jb a2),HM (Jb a1)]
      refine wA G (HS (by rw[Ib];omega) bg) (x:=x) (y:=y) (z:=w) ?_ ?_ ?_ ?_ fun H2 A' G' kp dn=>?_
      .rw[get i ni1 ni2 ni3,z2 i ni1 ni2 ni3];exact ev
      .rw[HM (Jb n13),HM (Jb n12),HI b1]
      .rw[HM (Jb n23),HI (by rw[Jr];exact b2)]
      .rw[HI (by rw[Jr,Jr];exact b3)]
      .refine⟨by simp[z1],fun n a1 a2 a3=>(get n a1 a2 a3).trans (z2 n a1 a2 a3),fun c u e hn=>?_,A',by rw[htk];exact G',fun c hc=>?_⟩
       .refine kp c u (z3 c u e hn) fun q=>?_;rcases tin c q with q|q
        .exact hn q
        .rw[e]at q;cases q
       .rw[htk]at hc;rcases dn c hc with q|q
        .exact tin c q
        .by_cases hca:c=a
         .exact .inl hca
         .right;cases e:H1 c with
          |none=>rfl
          |some u=>rw[z3 c u e hca]at q;cases q
     .obtain⟨z1,z2,z3,A,G,tin⟩:=z;rw[hvl,List.take_length]at G tin;have kM:∀ c u,H1 c=some u->(M2 c\/fixd u)->H' c=some u:=fun c u e q=>z3 c u e fun z=>by
       subst z;rcases q with q|q
       .exact nMa q
       .rcases rootA with w|w<;>(rw[w]at e;cases e;exact q)
      have kR:∀ j,j≠i->∀ c u,H1 c=some u->(ρ2 j c\/fixd u)->H' c=some u:=fun j hj c u e q=>z3 c u e fun z=>by
       subst z;rcases q with q|q
       .exact hj (rep2.apart j i _ q pa)
       .rcases rootA with w|w<;>(rw[w]at e;cases e;exact q)
      have muT:∀ c,ue a ts A c->Mu H' c:=fun c hc=>by
       rcases hc with rfl|⟨x,hx,rfl⟩
       .rcases G.root with q|⟨_,q⟩<;>exact⟨_,q,True.intro⟩
       .exact⟨_,G.leaf x hx,True.intro⟩
      refine p2 σ' M2 (fun j c=>if j=i then ue a ts A c else if j=r1\/j=r2\/j=r3 then False else ρ2 j c) H' ⟨fun _ z=>z,kM⟩ ?_;have rho:∀ j c,(if j=i then ue a ts A c else if j=r1\/j=r2\/j=r3 then False else ρ2 j c)->(j=i/\ue a ts A c)\/(j≠i/\¬ (j=r1\/j=r2\/j=r3)/\ρ2 j c):=fun j c h=>by
       by_cases hj:j=i
       .rw[Hx hj]at h;exact .inl ⟨hj,h⟩
       .rw[Hz hj]at h;by_cases hr:j=r1\/j=r2\/j=r3
        .rw[Hx hr]at h;exact h.elim
        .rw[Hz hr]at h;exact .inr ⟨hj,hr,h⟩
      have fresh:∀ c,ue a ts A c->¬ M2 c/\g.H₀ c=none/\∀ j,j≠i->¬ ρ2 j c:=fun c hc=>by
       rcases tin c hc with q|q
       .subst q;exact⟨nMa,a0,fun j hj w=>hj (rep2.apart j i _ w pa)⟩
       .exact⟨fun w=>rep2.froz c w q,rep2.same.free q,fun j _ w=>(rep2.priv j c w).2.2.some q⟩
      have envs:∀ j,j≠i->∀ sl,(((((frz env r.al).set r1 none).set r2 none).set r3 none).set i (some (.tre (bx ts))))[j]?=some (some sl)->¬ (j=r1\/j=r2\/j=r3)/\(frz env r.al)[j]?=some (some sl):=fun j hj sl e=>by
       rw[HM (Jb hj)]at e;by_cases h3:j=r3
       .subst h3;rw[HI (by simp[cu];exact l3)]at e;cases e
       .rw[HM (Jb h3)]at e;by_cases h2:j=r2
        .subst h2;rw[HI (by simp[cu];exact l2)]at e;cases e
        .rw[HM (Jb h2)]at e;by_cases h1:j=r1
         .subst h1;rw[HI (by simp[cu];exact l1)]at e;cases e
         .rw[HM (Jb h1)]at e;exact⟨fun z=>z.elim h1 fun z=>z.elim h2 h3,e⟩
      refine⟨fun c u e=>?_,fun c hm e=>?_,rep2.inn,fun c hm h0=>?_,fun j sl ej=>?_,fun j c w=>?_,fun j k c w1 w2=>?_,fun j c w=>?_,by simp[z1,rep2.len],fun c zc e=>?_⟩
      .exact z3 c u (rep2.same c u e) fun z=>by rw[z,a0]at e;cases e
      .cases q:H1 c with
       |none=>exact rep2.froz c hm q
       |some u=>rw[kM c u q (.inl hm)]at e;cases e
      .exact(rep2.fl c hm h0).same fun o e=>kM c o e (.inl hm)
      .by_cases hj:j=i
       .subst hj;rw[HI (by simpa using hi)]at ej;cases ej;refine⟨.ref a,by rw[z2 j ni1 ni2 ni3];exact ev,?_⟩;rw[show(fun c=>if j=j then ue a ts A c else if j=r1\/j=r2\/j=r3 then False else ρ2 j c)=ue a ts A by funext c;rw[Hx rfl]];exact G.is
       .obtain⟨hr,ej'⟩:=envs j hj sl ej;obtain⟨v',ev',k2⟩:=rep2.slot j sl ej';refine⟨v',by rw[z2 j (fun z=>hr (.inl z)) (fun z=>hr (.inr (.inl z))) (fun z=>hr (.inr (.inr z)))];exact ev',?_⟩;rw[show(fun c=>if j=i then ue a ts A c else if j=r1\/j=r2\/j=r3 then False else ρ2 j c)=ρ2 j by funext c;rw[Hz hj,Hz hr]];cases sl with
        |val d f=>exact Is.mono (fun c u e z=>kM c u e (z.imp (·.1) id)) (fun _ _ _ z=>z) k2
        |own ds' f=>obtain⟨c,us,rfl,q1,q2,q3⟩:=k2;exact⟨c,us,rfl,kR j hj c _ q1 (.inl ((q2 c).mpr rfl)),q2,IsAll.mono (fun c u e z=>kM c u e (z.imp (·.1) id)) (fun _ _ _ z=>z) q3⟩
        |tre d=>exact Is.mono (fun c u e z=>kR j hj c u e z) (fun _ _ _ z=>z) k2
        |pin d=>exact⟨Is.mono (fun c u e z=>kR j hj c u e z) (fun _ _ _ z=>z) k2.1,k2.2⟩
        |dis d=>exact⟨Is.mono (fun c u e z=>kR j hj c u e z) (fun _ _ _ z=>z) k2.1,k2.2.mono (fun c u z e=>kR j hj c u e (.inl z)) fun _ z=>z⟩
        |fix n q0=>exact⟨k2.1,k2.2.mono fun c u e z=>kR j hj c u e z⟩
        |kon a=>exact k2
        |mes d=>exact IsSh.mono (fun c u e z=>kM c u e (.inr z)) (fun c us z e=>⟨us,kR j hj c _ e (.inl z)⟩) (fun _ z=>z) k2
      .rcases rho j c w with⟨rfl,q⟩|⟨hj,hr,q⟩
       .exact⟨(fresh c q).1,(fresh c q).2.1,muT c q⟩
       .obtain⟨q1,q2,uo,q3,qm⟩:=rep2.priv j c q;exact⟨q1,q2,uo,kR j hj c _ q3 (.inl q),qm⟩
      .rcases rho j c w1 with⟨rfl,q⟩|⟨hj,hr,q⟩<;>rcases rho k c w2 with⟨rfl,q'⟩|⟨hk,hr',q'⟩
       .rfl
       .exact((fresh c q).2.2 k hk q').elim
       .exact((fresh c q').2.2 j hj q).elim
       .exact rep2.apart j k c q q'
      .unfold isOwn;rcases rho j c w with⟨rfl,q⟩|⟨hj,hr,q⟩
       .rw[HI (by simpa using hi)];rfl
       .have:=rep2.ow j c q;unfold isOwn at this;rw[HM (Jb hj),HM (fun z=>hr (.inr (.inr z.symm))),HM (fun z=>hr (.inr (.inl z.symm))),HM (fun z=>hr (.inl z.symm))];exact this
      .cases q:H1 c with
       |none=>exact rep2.zz c zc q
       |some u=>
        by_cases hca:c=a
        .subst hca;exact(muT c (.inl rfl)).some e
        .rw[z3 c u q hca]at e;cases e
    .rw[Hz hcond]at p0;exact p0.elim
  |_=>rw[qd]at p0;exact p0.elim
 .exact p.elim
end
end L3
namespace L2
open PySem PySem.Spec PySem.Calls PyProof.Rows
section
variable {X:Cx}
theorem call_lenD:CallR X (.builtin "len") (fun xs H Q=>∃(d:Addr)(kvs:List (Key×V))(u:HO),xs=[.ref d]/\(u=.dK kvs\/(u=.dT []/\kvs=[]))/\Rd H d u/\kvs.length<=sizeLine/\Q (.int kvs.length) H):=by
 intro pins s σ H xs us Q I r h;obtain⟨d,kvs,u,rfl,hu,hrd,hz,q⟩:=h;obtain⟨w,rfl,rx⟩:=cW r;cases rx;have hx:=hrd.ok I.hok;have key:(d==sysModules)=false/\∃ vs,KV kvs vs/\s.heap.DictOf (ao X.prog X.w) d vs:=by
  rcases hu with rfl|⟨rfl,rfl⟩
  .obtain⟨z,hd,vs,rel,dd⟩:=hx;exact⟨hd,vs,rel,dd⟩
  .obtain⟨hd,dd⟩:=fS hx;exact⟨hd,[],.nil,dd⟩
 obtain⟨hd,vs,rel,dd⟩:=key;refine call_len_dict hd dd (by rw[<- rel.length];rw[Iy]at hz;omega) ?_;exact⟨.int kvs.length,H,I.tok _,⟨_,by rw[rel.length]⟩,q⟩
end
end L2
namespace L3
open PySem PySem.Spec PyProof.Rows L2
section
variable {X:Cx}{E:XK}
noncomputable def jO:List DK->Option (List Int)
 | []=>some []
 | .inl (.inl i)::r=>(jO r).map (i::·)
 |_::_=>none
theorem lG:∀{ks:List DK}{is:List Int},jO ks=some is->ks=is.map ik
 | [],_,e=>by cases e;rfl
 | .inl (.inl i)::r,_,e=>by unfold jO at e;obtain⟨y,e1,rfl⟩:=I0.mp e;rw[lG e1];rfl
 | .inl (.inr _)::r,_,e=>by cases e
 | .inr _::r,_,e=>by cases e
def DM:List R->Res R
 | [r]=>match r.d with
  | .dic ks _=>match jO ks with
   |some is=>if is.length<=1000 then .ok (.new ((sortI is).map .int) true) else .stuck
   |none=>.stuck
  |_=>.stuck
 |_=>.stuck
theorem qw (hc:X.calm=true):fI X E (.builtin "sorted") DM:=by
 refine⟨_,kj hc,fun g M ρ env σ H Q rs vs rep i p=>?_⟩
 match rs,i,p with
 | [r],i,p=>
  unfold DM at p;dsimp only at p;split at p
  .rename_i ks ds q;cases qk:jO ks with
   |none=>rw[qk]at p;exact p.elim
   |some is=>
    rw[qk]at p;dsimp only at p;by_cases hl:is.length<=1000
    .rw[Hx hl]at p;obtain⟨v,w,rfl,i1,i2⟩:=i;cases i2;have i1:Is H (vmsk g M (aL [r]) ρ (bc [r])) r.d v:=i1;have em:=lG qk;rw[q]at i1;obtain⟨d,kvs,u,rfl,md,hu,hrd,ek,hall⟩:=fq i1 (by rw[em];intro k hk;obtain⟨z,_,rfl⟩:=HY.mp hk;exact⟨_,rfl⟩);have ekk:kvs.map (·.1)=is.map Sum.inl:=by rw[em]at ek;have:=Ie (List.map fun k:DK=>match k with|.inl a=>a|.inr _=>.inl 0) ek;rw[ID,ID]at this;exact this.symm
     refine⟨d,kvs,u,is,rfl,hu,hrd,ekk,hl,fun l ks' hl' hm hw=>?_⟩;have ek:ks'=sortI is:=c_ _ _ hw (eR is) fun k=>by rw[cC,hm]
     rw[ek];exact p.new rep hl' (dI _)
    .rw[Hz hl]at p;exact p.elim
  .exact p.elim
 | [],_,p=>exact p.elim
 |_::_::_,_,p=>exact p.elim
def bU:List R->Res R
 | [r]=>match r.d with
  | .dic ks _=>match eM ks with
   |some xs=>if ks.length<=lim then .ok (.val (.int ks.length) true []) else .stuck
   |none=>.stuck
  |_=>vX [r]
 |_=>.stuck
theorem fw:fI X E (.builtin "len") bU:=by
 obtain⟨r0,c0,s0⟩:=B0 (X:=X) (E:=E);refine⟨_,call_lenD.or c0,fun g M ρ env σ H Q rs vs rep i p=>?_⟩
 match rs,i,p with
 | [r],i,p=>
  unfold bU at p;dsimp only at p;split at p
  .rename_i ks ds q;cases qk:eM ks with
   |none=>rw[qk]at p;exact p.elim
   |some xs=>
    rw[qk]at p;dsimp only at p;by_cases hl:ks.length<=lim
    .rw[Hx hl]at p;left;obtain⟨v,w,rfl,i1,i2⟩:=i;cases i2;have i1:Is H (vmsk g M (aL [r]) ρ (bc [r])) r.d v:=i1;rw[q]at i1;obtain⟨d,kvs,u,rfl,md,hu,hrd,rfl,hall⟩:=fq i1 (gF qk);rw[HA]at hl p;exact⟨d,kvs,u,rfl,hu,hrd,de hl,p _ M H (Ext.refl _ _) rep rfl⟩
    .rw[Hz hl]at p;exact p.elim
  .exact .inr (s0 g M ρ env σ H Q [r] vs rep i p)
 | [],_,p=>exact p.elim
 |_::_::_,_,p=>exact p.elim
def wB (i:Nat)(n:Int)(env:En)(r:R):Res Fl:=match r.d with
 | .int m=>if i<env.length then .ok (.nx (put env i (.val (.int (n+m)) true []))) else .stuck
 |_=>.stuck
def wC (i:Nat)(f:En->Res R):En->Res Fl:=fun env=>match env[i]? with
 |some (some (.val (.int n) _))=>(f env).bind (wB i n env)
 |_=>.stuck
theorem zd {i:Nat}{x:Str}{e:Expr}{f:En->Res R}{pos pos':Pos}(hN:X.N.Nodup)(hi:X.N[i]?=some x)(hx:xX X.env.scope x)(h:PD X E e f)
 (hf:autoParam (X.fn x=true\/X.env.scope.names.lookup x=some .local) LA._auto_1):j7 X E (.AugAssign (.Name x pos') .Add e pos) (wC i f):=by
 obtain⟨t,p1,s1⟩:=h;refine⟨_,Bl hN hi hx p1 Bm hf,fun g M ρ env σ H D rep p=>?_⟩;unfold wC at p;split at p
 .rename_i n fr hq;obtain⟨va,ev,ka⟩:=rep.slot i _ hq;cases (show va=.int n from ka);refine⟨.int n,ev,s1.oneS rep p fun r v M1 H1 e1 rep1 ro p1=>?_⟩;unfold wB at p1;cases qd:r.d with
  |int m=>
   rw[qd]at p1;dsimp only at p1;have hv:v=.int m:=by have:=ro.flatIs (by rw[qd];rfl);rw[qd]at this;exact this
   subst hv;by_cases hi:i<env.length
   .rw[Hx hi]at p1;obtain⟨M2,ρ2,e2,rep2⟩:=rep1.store (r:=.val (.int (n+m)) true []) (v:=.int (n+m)) rep.same hi rfl;exact⟨n,m,rfl,rfl,p1 _ M2 ρ2 H1 e2 rep2⟩
   .rw[Hz hi]at p1;exact p1.elim
  |_=>rw[qd]at p1;exact p1.elim
 .exact p.elim
def f7 (rk rv:R):Res R:=match keyT rk.d with
 |some k=>if rv.d.flat then .ok (.fre (.dic [.inr k] [rv.d])) else .stuck
 |none=>.stuck
theorem wD {k v:Expr}{fk fv:En->Res R}{pos:Pos}(hu:X.A.units+64<cLine)(hk:PD X E k fk)(hv:PD X E v fv):PD X E (.Dict [some k] [v] pos) (v2 f7 fk fv):=by
 obtain⟨tk,p1,s1⟩:=hk;obtain⟨tv,p2,s2⟩:=hv;refine⟨_,vJ hu p1 p2,fun g M ρ env σ H Q rep p b hb=>?_⟩;have sm:Same H (av H b (.dK [])):=aQ hb;obtain⟨z0,zm,zo⟩:=rep.free hb;have p:PostE X.mg E g M ρ env σ H Q ((fk env).bind fun rk=>(fv env).bind fun rv=>f7 rk rv):=p;refine s1 g M ρ env σ _ _ (rep.grow sm) ?_;cases qk:fk env with
 |stuck=>rw[qk]at p;exact p
 |exc c=>rw[qk]at p;exact p
 |ok rk=>
  rw[qk]at p;have p:PostE X.mg E g M ρ env σ H Q ((fv env).bind fun rv=>f7 rk rv):=p;intro x M1 H1 e1 rep1 ro1;obtain⟨M1',x1,x1m,rep1',is1⟩:=ro1.is rep1 e1 (rep.grow sm).same;refine s2 g M1' ρ env σ H1 _ rep1' ?_;cases qv:fv env with
  |stuck=>rw[qv]at p;exact p
  |exc c=>rw[qv]at p;exact p
  |ok rv=>
   rw[qv]at p;have p:PostE X.mg E g M ρ env σ H Q (f7 rk rv):=p;intro y M2 H2 e2 rep2 ro2;obtain⟨M2',x2,x2m,rep2',is2⟩:=ro2.is rep2 e2 rep1'.same;have hb2:H2 b=some (.dK []):=x2.h _ _ (x1.h _ _ ag);have nb:¬ M2' b:=fun z=>by
    rcases x2.n b z with z|z
    .rcases x1.n b z with z|z
     .exact zm z
     .rw[ag]at z;cases z
    .rw[x1.h _ _ ag]at z;cases z
   unfold f7 at p;cases qq:keyT rk.d with
   |none=>rw[qq]at p;exact p.elim
   |some k=>
    rw[qq]at p;dsimp only at p;by_cases hf:rv.d.flat=true
    .rw[Hx hf]at p;obtain⟨c,rfl,hc⟩:=is1.keyT qq;refine⟨hb2,c,k,rfl,x2.h _ _ hc,?_⟩;have hs:Same H (av H2 b (.dT [(k,y)])):=fun a o e=>by rw[ac (aH e hb)];exact x2.h _ _ (x1.h _ _ (sm a o e))
     refine p (.ref b) M2' _ ⟨fun a z=>x2.m a (x1.m a z),hs,fun a z=>?_⟩ (rep2'.writeU hb2 (fun z=>z) nb zo z0) ⟨fun a=>a=b,fun a e=>(by subst e;exact⟨nb,hb,⟨_,ag,True.intro⟩,zo⟩),⟨b,[y],rfl,⟨.inr ⟨[(k,y)],.inl ag,rfl,rfl⟩,rfl⟩,⟨_,_,rfl,?_,rfl⟩⟩⟩
     .rcases x2.n a z with z|z
      .exact(x1.n a z).imp id fun w=>sm.free w
      .exact .inr (sm.free (x1.h.free z))
     .refine Is.flat hf (Is.mono (fun a o e z=>?_) (fun _ _ _ z=>z) (Is.flat (m':=fun _=>False) hf is2));rw[ac]
      .exact e
      .rintro rfl;rw[hb2]at e;cases e;exact z.elim id id
    .rw[Hz hf]at p;exact p.elim
end
end L3
set_option autoImplicit false
namespace L3
open PySem L2
section
variable {env az:En}{i j:Nat}{d:D}{ds es:List D}{f g:Bool}{al bl:List Nat}{x y:Int}
noncomputable def kS (k:En->Res Fl):Fl->Res Fl
 | .nx az=>k az
 |r=>.ok r
theorem EK (f k:En->Res Fl)(env:En):aC f k env=(f env).bind (kS k):=by rfl
theorem GF (k:En->Res Fl)(e:En):kS k (.nx e)=k e:=(rfl)
theorem GG (k:En->Res Fl)(r:R):kS k (.rt r)=.ok (.rt r):=(rfl)
noncomputable def GH (a b:En->Res Fl)(env:En)(k:Bool):Res Fl:=if k then a env else b env
theorem GI (c:En->Res Bool)(a b:En->Res Fl)(env:En):j8 c a b env=(c env).bind (GH a b env):=(rfl)
theorem EL (a b:En->Res Fl)(env:En):GH a b env true=a env:=(rfl)
theorem EM (a b:En->Res Fl)(env:En):GH a b env false=b env:=(rfl)
theorem EN (env:En):df env=.ok (.nx env):=(rfl)
def EO (r:R):Res Fl:=.ok (.rt r)
theorem EQ (a:En->Res R)(env:En):bA a env=(a env).bind EO:=(rfl)
theorem Cm (r:R):EO r=.ok (.rt r):=(rfl)
def ER (i:Nat)(env:En)(r:R):Res Fl:=if i<env.length then .ok (.nx (put env i r)) else .stuck
theorem ES (i:Nat)(a:En->Res R)(env:En):bL i a env=(a env).bind (ER i env):=(rfl)
theorem Co (r:R)(h:i<env.length):ER i env r=.ok (.nx (put env i r)):=Hx h
theorem Cp:put env i (.val d f [])=env.set i (some (.val d f)):=(rfl)
theorem Cq:put env i (.new ds f)=env.set i (some (.own ds f)):=(rfl)
theorem Cr:put env i (.fre d)=env.set i (some (.tre d)):=(rfl)
def Cs (i:Nat):Option (Option Sl)->Res R
 |some (some (.val d fr))=>.ok (mkV d fr [])
 |some (some (.own ds fr))=>.ok (.val (.lst ds) fr [i])
 |some (some (.tre d))=>.ok (.val d true [i])
 |some (some (.pin d))=>.ok (.val d true [i])
 |some (some (.dis d))=>.ok (.val d true [i])
 |some (some (.fix _ (.tr d)))=>.ok (.val d true [i])
 |some (some (.fix _ (.ds d)))=>.ok (.val d true [i])
 |_=>.stuck
theorem ET (i:Nat)(env:En):ai i env=Cs i env[i]?:=by unfold ai Cs;rfl
theorem EU:Cs i (some (some (.val d f)))=.ok (mkV d f []):=(rfl)
theorem EV:Cs i (some (some (.own ds f)))=.ok (.val (.lst ds) f [i]):=(rfl)
theorem EW:Cs i (some (some (.tre d)))=.ok (.val d true [i]):=(rfl)
theorem EX:Cs i (some (some (.pin d)))=.ok (.val d true [i]):=(rfl)
theorem ze:Cs i (some (some (.dis d)))=.ok (.val d true [i]):=(rfl)
theorem GJ (d:D)(env:En):vC d env=.ok (.val d true []):=(rfl)
theorem Ct (h:d.flat=true):mkV d f al=.val d true []:=by unfold mkV;rw[Hx h]
theorem Cu (h:d.flat=false):mkV d f al=.val d f al:=by unfold mkV;rw[Hz (by rw[h];simp)]
theorem mL (h:D.flats ds=true):f_ ds f al=.new ds true:=by unfold f_;rw[Hx h]
theorem zf:f_ ds true []=.new ds true:=by unfold f_;split<;>rfl
def G2 (op:R->R->Res R)(fb:En->Res R)(env:En)(ra:R):Res R:=(fb env).bind (op ra)
theorem GK (op:R->R->Res R)(fa fb:En->Res R)(env:En):v2 op fa fb env=(fa env).bind (G2 op fb env):=(rfl)
theorem EY (op:R->R->Res R)(fb:En->Res R)(env:En)(ra:R):G2 op fb env ra=(fb env).bind (op ra):=(rfl)
theorem EZ:d8 (.val (.int x) f al) (.val (.int y) g bl)=.ok (.val (.int (x+y)) true []):=(rfl)
theorem Cv (h1:-18446744073709551616<y)(h2:y<18446744073709551616):vR (.val (.int x) f al) (.val (.int y) g bl)=.ok (.val (.int (x*y)) true []):=by
 have:vQ x y=true:=by unfold vQ;rw[K4,Ir,Ir];exact .inr ⟨HG (by omega),HG (by omega)⟩
 show(if vQ x y=true then _ else _)=_;rw[Hx this]
theorem E1 (h:0<y):fV (.val (.int x) f al) (.val (.int y) g bl)=.ok (.val (.int (x % y)) true []):=by show(if decide (0<y)=true then _ else _)=_;rw[Hx (HG h)]
theorem E2 (h:0<y)(h2:y<1073741824):mw (.val (.int x) f al) (.val (.int y) g bl)=.ok (.val (.int (x / y)) true []):=by show(if (decide (0<y)&&decide (y<1073741824))=true then _ else _)=_;rw[Hx (by rw[HG h,HG h2];rfl)]
theorem GL:pW (.val (.int x) f al) (.val (.int y) g bl)=.ok (.val (.bl (decide (x<y))) true []):=(rfl)
theorem GM:DI (.val (.int x) f al) (.val (.int y) g bl)=.ok (.val (.bl (decide (x<=y))) true []):=(rfl)
theorem wF {a b:R}(h:a.d.dep<=50)(h2:b.d.dep<=50):vS a b=.ok (.val (.bl (cq a.d b.d)) true []):=by unfold vS;rw[Hx ⟨h,h2⟩]
theorem wG {a b:R}(h:a.d.dep<=50)(h2:b.d.dep<=50):rh a b=.ok (.val (.bl (!cq a.d b.d)) true []):=by unfold rh;rw[Hx ⟨h,h2⟩]
theorem E3:cq (.int x) (.int y)=(x==y):=(rfl)
def wH (xs ys:List D)(f:Bool)(al:List Nat):Res R:=if xs.length+ys.length<=lim then .ok (f_ (xs++ys) f al) else .stuck
theorem zg:d8 (.val (.lst ds) f al) (.val (.lst es) g bl)=wH ds es (f&&g) (al++bl):=(rfl)
theorem zh:d8 (.val (.lst ds) f al) (.new es g)=wH ds es (f&&g) (al++[]):=(rfl)
theorem zi:d8 (.new ds f) (.val (.lst es) g bl)=wH ds es (f&&g) ([]++bl):=(rfl)
theorem zk:d8 (.new ds f) (.new es g)=wH ds es (f&&g) []:=(rfl)
theorem Cw (h:ds.length+es.length<=1000000):wH ds es f al=.ok (f_ (ds++es) f al):=Hx h
def AU (fs:En->Res (List R))(env:En)(r:R):Res (List R):=(fs env).bind (fun rs=>.ok (r::rs))
def wI (r:R)(rs:List R):Res (List R):=.ok (r::rs)
theorem Cy (env:En):aw env=.ok []:=(rfl)
theorem zl (a:En->Res R)(fs:En->Res (List R))(env:En):aj a fs env=(a env).bind (AU fs env):=(rfl)
theorem zn (fs:En->Res (List R))(env:En)(r:R):AU fs env r=(fs env).bind (wI r):=(rfl)
theorem wJ (r:R)(rs:List R):wI r rs=.ok (r::rs):=(rfl)
def E4 (rs:List R):Res R:=if rs.length<=lim then .ok (mkV (.tup (rs.map R.d)) (aL rs) (bc rs)) else .stuck
theorem E5 (fs:En->Res (List R))(env:En):fX fs env=(fs env).bind E4:=(rfl)
theorem Cz (rs:List R)(h:rs.length<=1000000):E4 rs=.ok (mkV (.tup (rs.map R.d)) (aL rs) (bc rs)):=Hx h
def E6 (rs:List R):Res R:=if rs.length<=lim then .ok (f_ (rs.map R.d) (aL rs) (bc rs)) else .stuck
theorem E7 (fs:En->Res (List R))(env:En):iI fs env=(fs env).bind E6:=(rfl)
theorem CA (rs:List R)(h:rs.length<=1000000):E6 rs=.ok (f_ (rs.map R.d) (aL rs) (bc rs)):=Hx h
theorem wK:aL []=true:=(rfl)
theorem ug (r:R)(rs:List R):aL (r::rs)=(r.fr&&aL rs):=(rfl)
theorem wL:bc []=[]:=(rfl)
theorem uh (r:R)(rs:List R):bc (r::rs)=r.al++bc rs:=(rfl)
def AV (F:List D->Res R)(rs:List R):Res R:=(F (rs.map R.d)).bind (fun r=>.ok (dq rs r))
def wM (rs:List R)(r:R):Res R:=.ok (dq rs r)
theorem CB (F:List D->Res R)(fs:En->Res (List R))(env:En):aY F fs env=(fs env).bind (AV F):=(rfl)
theorem zp (F:List D->Res R)(rs:List R):AV F rs=(F (rs.map R.d)).bind (wM rs):=(rfl)
theorem wN (rs:List R)(r:R):wM rs r=.ok (dq rs r):=(rfl)
theorem wO (rs:List R)(h:d.flat=true):dq rs (.val d f al)=.val d true []:=Hx h
theorem wQ (rs:List R)(h:d.flat=false):dq rs (.val d true al)=.fre d:=by show xT d true rs=_;unfold xT;rw[Hz (by rw[h];simp),Hx rfl]
theorem wR (rs:List R)(h:d.flat=false):dq rs (.val d false al)=.val d (aL rs) (bc rs):=by show xT d false rs=_;unfold xT;rw[Hz (by rw[h];simp),Hz (by simp)]
theorem wU (rs:List R)(h:D.flats ds=true):dq rs (.new ds f)=.new ds true:=by show(if D.flats ds=true then _ else _)=_;rw[Hx h]
theorem ui (rs:List R)(h:D.flats ds=false):dq rs (.new ds true)=.fre (.lst ds):=by show(if D.flats ds=true then _ else _)=_;rw[Hz (by rw[h];simp),Hx rfl]
theorem GN (k:List R->Res R)(fs:En->Res (List R))(env:En):j6 k fs env=(fs env).bind k:=(rfl)
def CC:D->Res R
 | .lst ds=>.ok (.val (.int ds.length) true [])
 | .tup ds=>.ok (.val (.int ds.length) true [])
 | .str z=>if z.length<=lim then .ok (.val (.int z.length) true []) else .stuck
 |_=>.stuck
theorem E8 (r:R):vX [r]=CC r.d:=by unfold vX CC;rfl
def rS (f:Bool)(al:List Nat):D->Res R
 | .lst ds=>.ok (f_ ds f al)
 | .tup ds=>.ok (f_ ds f al)
 |_=>.stuck
theorem CD (r:R):nV [r]=rS r.fr r.al r.d:=by unfold nV rS;rfl
theorem zq:rS f al (.lst ds)=.ok (f_ ds f al):=(rfl)
def kB (ra:R):Res Bool:=match ra.d with
 | .bl b=>.ok b
 |_=>.stuck
theorem GO (a:En->Res R)(env:En):vB a env=(a env).bind kB:=(rfl)
theorem GP (b:Bool):kB (.val (.bl b) f al)=.ok b:=(rfl)
def CF (ra:R):Res Bool:=tru ra.d
theorem CG (a:En->Res R)(env:En):d9 a env=(a env).bind CF:=(rfl)
theorem CH (b:Bool):CF (.val (.bl b) f al)=.ok b:=(rfl)
noncomputable def AW (b:Bool):Res Bool:=.ok (!b)
theorem CI (a:En->Res Bool)(env:En):dF a env=(a env).bind AW:=(rfl)
theorem zr (b:Bool):AW b=.ok (!b):=(rfl)
noncomputable def CJ (b:En->Res Bool)(env:En)(k:Bool):Res Bool:=if k then .ok true else b env
theorem E9 (a b:En->Res Bool)(env:En):rl a b env=(a env).bind (CJ b env):=(rfl)
theorem E_ (b:En->Res Bool)(env:En):CJ b env true=.ok true:=(rfl)
theorem Fa (b:En->Res Bool)(env:En):CJ b env false=b env:=(rfl)
def wV (b:En->Res R)(env:En)(ra:R):Res R:=match ra.d with
 | .bl true=>b env
 | .bl false=>.ok (.val (.bl false) true [])
 |_=>.stuck
theorem CK (a b:En->Res R)(env:En):yJ a b env=(a env).bind (wV b env):=(rfl)
theorem zt (b:En->Res R)(env:En):wV b env (.val (.bl true) f al)=b env:=(rfl)
theorem zu (b:En->Res R)(env:En):wV b env (.val (.bl false) f al)=.ok (.val (.bl false) true []):=(rfl)
def AX (ra:R):Res R:=match ra.d with
 | .bl b=>.ok (.val (.bl (!b)) true [])
 |_=>.stuck
theorem CL (a:En->Res R)(env:En):BY a env=(a env).bind AX:=(rfl)
theorem CM (b:Bool):AX (.val (.bl b) f al)=.ok (.val (.bl (!b)) true []):=(rfl)
def AY (f:Bool)(al:List Nat):Option D->Res R
 |some d=>.ok (mkV d f al)
 |none=>.stuck
def zw (a b:D)(f:Bool)(al:List Nat):Res R:=match a,b with
 | .lst xs,.int i=>AY f al (atI xs i)
 | .tup xs,.int i=>AY f al (atI xs i)
 | .str z,.int i=>if z.length<=lim then (match atI z.cps.toList i with
  |some c=>.ok (.val (.str ⟨#[c]⟩) true [])
  |none=>.stuck) else .stuck
 |_,_=>.stuck
theorem GQ (a b:R):xS a b=zw a.d b.d a.fr a.al:=by unfold xS zw AY;rfl
theorem Fb {k:Int}:zw (.lst ds) (.int k) f al=AY f al (atI ds k):=(rfl)
theorem Fc {k:Int}:zw (.tup ds) (.int k) f al=AY f al (atI ds k):=(rfl)
theorem Fd:AY f al (some d)=.ok (mkV d f al):=(rfl)
def zx (ds:List D)(fr:Bool)(rb:R):Res R:=match rb.d with
 | .int k=>match atI ds k with
  |some d=>.ok (mkV d fr [])
  |none=>.stuck
 |_=>.stuck
def uj (i:Nat)(fb:En->Res R)(env:En):Option (Option Sl)->Res R
 |some (some (.own ds fr))=>(fb env).bind (zx ds fr)
 |_=>v2 xS (ai i) fb env
theorem Fe (i:Nat)(fb:En->Res R)(env:En):jw i fb env=uj i fb env env[i]?:=by unfold jw uj;rfl
theorem CN (fb:En->Res R):uj i fb env (some (some (.own ds f)))=(fb env).bind (zx ds f):=(rfl)
theorem CO (fb:En->Res R):uj i fb env (some (some (.val d f)))=v2 xS (ai i) fb env:=(rfl)
theorem CP (fb:En->Res R):uj i fb env (some (some (.tre d)))=v2 xS (ai i) fb env:=(rfl)
theorem CQ {k:Int}:zx ds f (.val (.int k) g al)=AY f [] (atI ds k):=by unfold zx AY;rfl
theorem AE {α:Type}(a:α)(l:List α):atI (a::l) 0=some a:=by unfold atI m8;rw[Hx (by omega),Hx (by simp)];rfl
theorem Hi {α:Type}(a b:α)(l:List α):atI (a::b::l) 1=some b:=by unfold atI m8;rw[Hx (by omega),Hx (by simp;omega)];rfl
theorem Hj {α:Type}(a b c:α)(l:List α):atI (a::b::c::l) 2=some c:=by unfold atI m8;rw[Hx (by omega),Hx (by simp;omega)];rfl
theorem Hk {α:Type}(a b c d:α)(l:List α):atI (a::b::c::d::l) 3=some d:=by unfold atI m8;rw[Hx (by omega),Hx (by simp;omega)];rfl
def Ff (fl fh:En->Res (Option Int))(env:En)(r:R):Res R:=(fl env).bind fun lo=>(fh env).bind fun hi=>mD r lo hi
def Fg (fh:En->Res (Option Int))(env:En)(r:R)(lo:Option Int):Res R:=(fh env).bind fun hi=>mD r lo hi
theorem zy (fa:En->Res R)(fl fh:En->Res (Option Int))(env:En):p_ fa fl fh env=(fa env).bind (Ff fl fh env):=(rfl)
theorem CS (fl fh:En->Res (Option Int))(env:En)(r:R):Ff fl fh env r=(fl env).bind (Fg fh env r):=(rfl)
theorem CT (fh:En->Res (Option Int))(env:En)(r:R)(lo:Option Int):Fg fh env r lo=(fh env).bind (mD r lo):=(rfl)
def kO (r:R):Res (Option Int):=match r.d with
 | .int i=>.ok (some i)
 |_=>.stuck
theorem zA (a:En->Res R)(env:En):rC a env=(a env).bind kO:=(rfl)
theorem GR:kO (.val (.int x) f al)=.ok (some x):=(rfl)
def zB (f:Bool)(al:List Nat)(lo hi:Option Int):D->Res R
 | .lst xs=>.ok (f_ (dH xs lo hi) f al)
 | .tup xs=>.ok (mkV (.tup (dH xs lo hi)) f al)
 |_=>.stuck
theorem Fh (r:R)(lo hi:Option Int):mD r lo hi=zB r.fr r.al lo hi r.d:=by unfold mD zB;rfl
theorem CU (lo hi:Option Int):zB f al lo hi (.lst ds)=.ok (f_ (dH ds lo hi) f al):=(rfl)
theorem CV (lo hi:Option Int):zB f al lo hi (.tup ds)=.ok (mkV (.tup (dH ds lo hi)) f al):=(rfl)
def Fi (T:String)(r:R):Res R:=.ok (.val (.bl (yS T r.d)) true [])
theorem Fj (T:String)(a:En->Res R)(env:En):n9 T a env=(a env).bind (Fi T):=(rfl)
theorem CW (T:String)(r:R):Fi T r=.ok (.val (.bl (yS T r.d)) true []):=(rfl)
theorem CY:yS "int" (.int x)=true:=(rfl)
theorem CZ:yS "bool" (.int x)=false:=(rfl)
theorem C0:yS "list" (.lst ds)=true:=(rfl)
theorem C1:yS "tuple" (.tup ds)=true:=(rfl)
def Fk (asg:D->Bool->En->Option En)(body:En->Res Fl)(env:En)(s:Src):Res Fl:=bS asg s.fr body s.xs (frz env s.al)
theorem wW (src:En->Res Src)(asg:D->Bool->En->Option En)(body:En->Res Fl)(env:En):dU src asg body env=(src env).bind (Fk asg body env):=(rfl)
theorem wX (asg:D->Bool->En->Option En)(body:En->Res Fl)(env:En)(xs:List D):Fk asg body env ⟨xs,f,al⟩=bS asg f body xs (frz env al):=(rfl)
def uk (r:R):Res Src:=match r.d with
 | .lst ds=>.ok ⟨ds,r.fr,r.al⟩
 | .tup ds=>.ok ⟨ds,r.fr,r.al⟩
 |_=>.stuck
theorem qx (a:En->Res R)(env:En):fY a env=(a env).bind uk:=(rfl)
theorem wY:uk (.val (.lst ds) f al)=.ok ⟨ds,f,al⟩:=(rfl)
theorem oq:uk (.val (.tup ds) f al)=.ok ⟨ds,f,al⟩:=(rfl)
theorem zC:uk (.new ds f)=.ok ⟨ds,f,[]⟩:=(rfl)
theorem wZ:uk (.fre (.lst ds))=.ok ⟨ds,true,[]⟩:=(rfl)
theorem w4:uk (.fre (.tup ds))=.ok ⟨ds,true,[]⟩:=(rfl)
def G3 (rs:List R):Res Src:=match rs.map R.d with
 | [.int j]=>if cR j then .ok ⟨c8 0 j.toNat,true,[]⟩ else .stuck
 |_=>.stuck
theorem Fm (fs:En->Res (List R))(env:En):yN fs env=(fs env).bind G3:=(rfl)
theorem Fo (h1:-4611686018427387904<=x)(h2:x<4611686018427387904):cR x=true:=by unfold cR;rw[Ir];exact⟨HG (by omega),HG (by omega)⟩
theorem jP (h1:-4611686018427387904<=x)(h2:x<4611686018427387904):G3 [.val (.int x) f al]=.ok ⟨c8 0 x.toNat,true,[]⟩:=Hx (Fo h1 h2)
theorem w6:frz env []=env:=(rfl)
def fO (n:Nat)(caps:List Nat)(asg:D->Bool->En->Option En)(test:En->Res Bool)(elt:En->Res R)(env:En)(s:Src):Res R:=if s.xs.length<=lim then
 (cJ (fun d=>asg d s.fr (dt env n caps)) test elt s.xs).noX.bind fun rs=>.ok (f_ (rs.map R.d) (aL rs) (s.al++caps.filter (isOwn env))) else .stuck
theorem C2 (n:Nat)(caps:List Nat)(src:En->Res Src)(asg:D->Bool->En->Option En)(test:En->Res Bool)(elt:En->Res R)(env:En) :
 eB n caps src asg test elt env=(src env).bind (fO n caps asg test elt env):=(rfl)
theorem gI {n:Nat}{caps:List Nat}{asg:D->Bool->En->Option En}{test:En->Res Bool}{elt:En->Res R}{xs:List D}{rs:List R}(hl:xs.length<=1000000)
 (h:cJ (fun d=>asg d f (dt env n caps)) test elt xs=.ok rs):fO n caps asg test elt env ⟨xs,f,al⟩=.ok (f_ (rs.map R.d) (aL rs) (al++caps.filter (isOwn env))):=by
 unfold fO;dsimp only;rw[Hx (show xs.length<=lim from hl),h];rfl
theorem cD {α:Type}{mk:D->Option En}{test:En->Res Bool}{elt:En->Res R}(g:α->D)(k:α->R):∀(xs:List α),(∀ a∈xs,∃ e,mk (g a)=some e/\test e=.ok true/\elt e=.ok (k a))->cJ mk test elt (xs.map g)=.ok (xs.map k)
 | [],_=>rfl
 |a::r,h=>by obtain⟨e,h1,h2,h3⟩:=h a (by simp);rw[HL,HL];unfold cJ;rw[h1];dsimp only;rw[h2];dsimp only[Res.bind];rw[Hx rfl,h3,cD g k r fun b hb=>h b (by simp[hb])]
def ul (i:Nat)(env:En)(ds:List D)(fr:Bool)(r:R):Res Fl:=if ds.length<lim/\¬ i∈r.al then .ok (.nx ((frz env r.al).set i (some (.own (ds++[r.d]) (fr&&r.fr))))) else .stuck
def rT (i:Nat)(a:En->Res R)(env:En):Option (Option Sl)->Res Fl
 |some (some (.own ds fr))=>(a env).bind (ul i env ds fr)
 |some (some (.tre (.lst ds)))=>(a env).bind (ul i env ds true)
 |_=>.stuck
theorem Fp (a:En->Res R)(env:En):tO i a env=rT i a env env[i]?:=by
 unfold tO dP rT;cases env[i]? with
 |none=>rfl
 |some o=>cases o with
  |none=>rfl
  |some s=>cases s with
   |tre d=>cases d<;>rfl
   |_=>rfl
theorem C3 (a:En->Res R):rT i a env (some (some (.own ds f)))=(a env).bind (ul i env ds f):=(rfl)
theorem C4 (a:En->Res R):rT i a env (some (some (.tre (.lst ds))))=(a env).bind (ul i env ds true):=(rfl)
theorem C5 {r:R}(h:ds.length<1000000)(hr:r.al=[]):ul i env ds f r=.ok (.nx (env.set i (some (.own (ds++[r.d]) (f&&r.fr))))):=by unfold ul;rw[hr];rw[Hx ⟨h,by simp⟩];rfl
end
theorem jQ (x:Int):(D.int x).flat=true:=(rfl)
theorem zD (x:Bool):(D.bl x).flat=true:=(rfl)
theorem w8 (x:Str):(D.str x).flat=true:=(rfl)
theorem w_:D.non.flat=true:=(rfl)
theorem ot (ds:List D):(D.tup ds).flat=D.flats ds:=(rfl)
theorem ou (ds:List D):(D.lst ds).flat=false:=(rfl)
theorem um:D.flats []=true:=(rfl)
theorem f9 (d:D)(ds:List D):D.flats (d::ds)=(d.flat&&D.flats ds):=(rfl)
theorem rV (x:Int):(D.int x).dep=0:=(rfl)
theorem C6 (x:Bool):(D.bl x).dep=0:=(rfl)
theorem zE (x:Str):(D.str x).dep=0:=(rfl)
theorem zF:D.non.dep=0:=(rfl)
theorem rW (ds:List D):(D.tup ds).dep=D.deps ds+1:=(rfl)
theorem gJ (ds:List D):(D.lst ds).dep=D.deps ds+1:=(rfl)
theorem jR:D.deps []=0:=(rfl)
theorem ia (d:D)(ds:List D):D.deps (d::ds)=max d.dep (D.deps ds):=(rfl)
theorem C7 (r:R):lw (.ok (.rt r))=.ok r:=(rfl)
theorem C8 (e:En):lw (.ok (.nx e))=.ok (.val .non true []):=(rfl)
theorem aA (d:D)(f:Bool)(al:List Nat):(R.val d f al).d=d:=(rfl)
theorem gK (ds:List D)(f:Bool):(R.new ds f).d=.lst ds:=(rfl)
theorem zG (d:D):(R.fre d).d=d:=(rfl)
theorem xb (d:D)(f:Bool)(al:List Nat):(R.val d f al).fr=f:=(rfl)
theorem xc (ds:List D)(f:Bool):(R.new ds f).fr=f:=(rfl)
theorem xf (d:D):(R.fre d).fr=true:=(rfl)
theorem oz (d:D)(f:Bool)(al:List Nat):(R.val d f al).al=al:=(rfl)
theorem xg (ds:List D)(f:Bool):(R.new ds f).al=[]:=(rfl)
theorem xh (d:D):(R.fre d).al=[]:=(rfl)
theorem cv {α β:Type}(a:α)(k:α->Res β):(Res.ok a).bind k=k a:=(rfl)
def xi (asg:D->Bool->En->Option En)(fr:Bool)(body:En->Res Fl)(xs:List D):Fl->Res Fl
 | .nx e=>bS asg fr body xs e
 | .ct e=>bS asg fr body xs e
 | .bk e=>.ok (.nx e)
 | .rt r=>.ok (.rt r)
 | .rm r e=>.ok (.rm r e)
theorem mM {asg:D->Bool->En->Option En}{fr:Bool}{body:En->Res Fl}{x:D}{xs:List D}{env env1:En}(h:asg x fr env=some env1):bS asg fr body (x::xs) env=(body env1).bind (xi asg fr body xs):=by unfold bS;rw[h];rfl
theorem C9 (asg:D->Bool->En->Option En)(fr:Bool)(body:En->Res Fl)(env:En):bS asg fr body [] env=.ok (.nx env):=by unfold bS;rfl
theorem gL (asg:D->Bool->En->Option En)(fr:Bool)(body:En->Res Fl)(xs:List D)(e:En):xi asg fr body xs (.nx e)=bS asg fr body xs e:=(rfl)
theorem zH (asg:D->Bool->En->Option En)(fr:Bool)(body:En->Res Fl)(xs:List D)(r:R):xi asg fr body xs (.rt r)=.ok (.rt r):=(rfl)
def Fq:D->Res R
 | .lst ds=>match cK ds with
  |some bs=>.ok (.val (.bl (bs.all id)) true [])
  |none=>.stuck
 |_=>.stuck
theorem Fs (r:R):yT [r]=Fq r.d:=by rcases r with⟨d,f,al⟩|⟨ds,f⟩|⟨d⟩<;>first|rfl|(cases d<;>rfl)
def jS (i:Nat)(env:En)(ds:List D)(fr:Bool)(fk:En->Res R)(r:R):Res Fl:=(fk env).bind fun k=>match k.d with
 | .int z=>match m8 ds.length z with
  |some j=>if ¬ i∈r.al then .ok (.nx ((frz env r.al).set i (some (.own (ds.set j r.d) (fr&&r.fr))))) else .stuck
  |none=>.stuck
 |_=>.stuck
def C_ (i:Nat)(env:En)(ds:List D)(fr:Bool)(r k:R):Res Fl:=match k.d with
 | .int z=>match m8 ds.length z with
  |some j=>if ¬ i∈r.al then .ok (.nx ((frz env r.al).set i (some (.own (ds.set j r.d) (fr&&r.fr))))) else .stuck
  |none=>.stuck
 |_=>.stuck
def mN (i:Nat)(fk fv:En->Res R)(env:En):Option (Option Sl)->Res Fl
 |some (some (.own ds fr))=>(fv env).bind (jS i env ds fr fk)
 |some (some (.tre (.lst ds)))=>(fv env).bind (jS i env ds true fk)
 |_=>.stuck
theorem Da (i:Nat)(fk fv:En->Res R)(env:En):ir i fk fv env=mN i fk fv env env[i]?:=by
 unfold ir dP mN;cases env[i]? with
 |none=>rfl
 |some o=>cases o with
  |none=>rfl
  |some s=>cases s with
   |tre d=>cases d<;>rfl
   |_=>rfl
theorem zI {i:Nat}{fk fv:En->Res R}{env:En}{ds:List D}{f:Bool}:mN i fk fv env (some (some (.own ds f)))=(fv env).bind (jS i env ds f fk):=(rfl)
theorem zJ {i:Nat}{fk fv:En->Res R}{env:En}{ds:List D}:mN i fk fv env (some (some (.tre (.lst ds))))=(fv env).bind (jS i env ds true fk):=(rfl)
theorem xj (i:Nat)(env:En)(ds:List D)(fr:Bool)(fk:En->Res R)(r:R):jS i env ds fr fk r=(fk env).bind (C_ i env ds fr r):=(rfl)
theorem Hl:((0:Nat):Int)=0:=(rfl)
theorem Hm:((1:Nat):Int)=1:=(rfl)
theorem Ho:((2:Nat):Int)=2:=(rfl)
theorem Hq:((3:Nat):Int)=3:=(rfl)
theorem Hr:((4:Nat):Int)=4:=(rfl)
theorem Ft {α β:Type}(c:Str)(k:α->Res β):(Res.exc c:Res α).bind k=.exc c:=(rfl)
theorem zK (c:Str):lw (.exc c)=.exc c:=(rfl)
noncomputable def GS:D->Res R
 | .int i=>.ok (.val (.int (-i)) true [])
 |_=>.stuck
def Fu (r:R):Res R:=GS r.d
theorem Fv (fa:En->Res R)(env:En):yU fa env=(fa env).bind Fu:=by unfold yU;congr 1
theorem Dc {x:Int}{f:Bool}{al:List Nat}:Fu (.val (.int x) f al)=.ok (.val (.int (-x)) true []):=(rfl)
theorem zL:D.non.isNon=true:=(rfl)
theorem zM (x:Int):(D.int x).isNon=false:=(rfl)
theorem zN (x:List D):(D.tup x).isNon=false:=(rfl)
theorem zO (x:List D):(D.lst x).isNon=false:=(rfl)
theorem Res.noX_ok {α:Type}(a:α):(Res.ok a).noX=.ok a:=(rfl)
def iL (neg:Bool)(a b:D):Res R:=match b with
 | .dic ks _=>oa neg a ks
 | .lst ds=>DL neg a ds
 | .tup ds=>DL neg a ds
 |_=>.stuck
theorem AZ (neg:Bool)(a b:R):t4 neg a b=iL neg a.d b.d:=by unfold t4 qf iL;cases b.d<;>rfl
theorem GT (a b:R):kq a b=iL false a.d b.d:=AZ false a b
theorem zP (a b:R):mF a b=iL true a.d b.d:=AZ true a b
theorem rX {neg:Bool}{a:D}{ds:List D}(h:D.deps ds<=50)(h2:a.dep<=50):iL neg a (.lst ds)=.ok (.val (.bl (if neg then !(ds.any fun e=>cq e a) else ds.any fun e=>cq e a)) true []):=Hx ⟨h,h2⟩
theorem A0 {neg:Bool}{a:D}{ks:List DK}{ds:List D}{k:DK}(h:keyX a=some k)(hk:ks.all (kin k)=true):iL neg a (.dic ks ds)=.ok (.val (.bl (if neg then !fE ks k else fE ks k)) true []):=by show oa neg a ks=_;unfold oa;rw[h];exact Hx hk
theorem oA (ks:List DK)(ds:List D):(D.dic ks ds).flat=false:=(rfl)
def putAt (i:Nat)(fk fv:En->Res R)(env:En):Option (Option Sl)->Res Fl
 |some (some (.tre (.dic ks ds)))=>(fv env).bind (rG i fk env ks ds)
 |some (some (.pin (.dic ks ds)))=>(fv env).bind (mG i fk env ks ds)
 |_=>.stuck
theorem xk (i:Nat)(fk fv:En->Res R)(env:En):gy i fk fv env=putAt i fk fv env env[i]?:=by unfold gy putAt;rfl
theorem rY {i:Nat}{fk fv:En->Res R}{env:En}{ks:List DK}{ds:List D}:putAt i fk fv env (some (some (.tre (.dic ks ds))))=(fv env).bind (rG i fk env ks ds):=(rfl)
theorem zQ {i:Nat}{fk:En->Res R}{env:En}{ks:List DK}{ds:List D}{r:R}(h:r.d.flat=true):rG i fk env ks ds r=(fk env).bind (rF i env ks ds r.d):=Hx h
theorem zR {i:Nat}{env:En}{ks:List DK}{ds:List D}{d:D}{k:R}{x:DK}(h:keyX k.d=some x)(h2:ks.all (kin x)=true)(h3:ks.length<1000000):rF i env ks ds d k=.ok (.nx (env.set i (some (.tre (dJ ks ds x d))))):=by unfold rF;rw[h];exact Hx ⟨h2,h3⟩
def GU (xs ys:List D)(f:Bool)(al:List Nat):Res R:=if xs.length+ys.length<=lim/\xs≠[] then .ok (mkV (.tup (xs++ys)) f al) else .stuck
theorem Dd {xs ys:List D}{f g:Bool}{al bl:List Nat}:d8 (.val (.tup xs) f al) (.val (.tup ys) g bl)=GU xs ys (f&&g) (al++bl):=(rfl)
def mO (i j:Nat)(a:En->Res R)(env:En):Option (Option Sl)->Res Fl
 |some (some (.tre d))=>match jB d j with
  |some n=>if n<lim then (a env).bind fun r=>if r.d.flat then .ok (.nx (env.set i (some (.mes d)))) else .stuck else .stuck
  |none=>.stuck
 |_=>.stuck
theorem De (i j:Nat)(a:En->Res R)(env:En):lz i j a env=mO i j a env env[i]?:=by unfold lz mO;rfl
theorem zS {i j n:Nat}{a:En->Res R}{env:En}{d:D}{r:R}(h:jB d j=some n)(hn:n<1000000)(ha:a env=.ok r)(hr:r.d.flat=true):mO i j a env (some (some (.tre d)))=.ok (.nx (env.set i (some (.mes d)))):=by show(match jB d j with|some n=>if n<lim then (a env).bind (fun r=>if r.d.flat then Res.ok (Fl.nx (env.set i (some (.mes d)))) else .stuck) else .stuck|none=>.stuck)=_;rw[h];dsimp only;rw[Hx (show n<lim from hn),ha];show(if _ then _ else _)=_;rw[Hx hr]
theorem uq {rs:List R}{d:D}(h:d.flat=false):dq rs (.fre d)=.fre d:=by show xT d true rs=_;unfold xT;rw[Hz (by rw[h];simp),Hx rfl]
theorem xl (i:Nat)(fk fv:En->Res R)(env:En):gA i fk fv env=eJ i fk fv env env[i]?:=(rfl)
theorem zT {i:Nat}{fk fv:En->Res R}{env:En}{ds:List D}{f:Bool}:eJ i fk fv env (some (some (.own ds f)))=ir i fk fv env:=(rfl)
theorem zU {i:Nat}{fk fv:En->Res R}{env:En}{ds:List D}:eJ i fk fv env (some (some (.tre (.lst ds))))=ir i fk fv env:=(rfl)
theorem rZ {i:Nat}{fk fv:En->Res R}{env:En}{ks:List DK}{ds:List D}:eJ i fk fv env (some (some (.tre (.dic ks ds))))=gy i fk fv env:=(rfl)
theorem Fw (i:Nat)(fb:En->Res R)(env:En):bI i fb env=gC i fb env env[i]?:=(rfl)
theorem xm (fa fk fx:En->Res R)(env:En):og fa fk fx env=(fa env).bind (EH fk fx env):=(rfl)
theorem Fx {fk fx:En->Res R}{env:En}{ra:R}{ks:List DK}{ds:List D}(h:ra.d=.dic ks ds):EH fk fx env ra=(fk env).bind (GE fx env ra ks ds):=by unfold EH;rw[h]
theorem A1 (fx:En->Res R)(env:En)(ra:R)(ks:List DK)(ds:List D)(rk:R):GE fx env ra ks ds rk=(fx env).bind (F1 ra ks ds rk):=(rfl)
theorem Df {i:Nat}{fb:En->Res R}{env:En}{ds:List D}{f:Bool}:gC i fb env (some (some (.own ds f)))=jw i fb env:=(rfl)
theorem Dg {i:Nat}{fb:En->Res R}{env:En}{ds:List D}:gC i fb env (some (some (.tre (.tup ds))))=jw i fb env:=(rfl)
theorem Dh {i:Nat}{fb:En->Res R}{env:En}{ds:List D}:gC i fb env (some (some (.tre (.lst ds))))=jw i fb env:=(rfl)
theorem zV {i:Nat}{fb:En->Res R}{env:En}{ds:List D}{f:Bool}:gC i fb env (some (some (.val (.tup ds) f)))=jw i fb env:=(rfl)
theorem zW {i:Nat}{fb:En->Res R}{env:En}{ds:List D}{f:Bool}:gC i fb env (some (some (.val (.lst ds) f)))=jw i fb env:=(rfl)
def zX:D->Res R
 | .lst ds=>match cK ds with
  |some bs=>.ok (.val (.bl (bs.any id)) true [])
  |none=>.stuck
 |_=>.stuck
theorem Fy (r:R):t9 [r]=zX r.d:=by rcases r with⟨d,f,al⟩|⟨ds,f⟩|⟨d⟩<;>first|rfl|(cases d<;>rfl)
theorem ib:∀ k:List Int,gD (k.map .int)=some k
 | []=>rfl
 |a::r=>by rw[HL];unfold gD;rw[ib r];rfl
theorem lH:∀ ks:List (List Int),tupsI (ks.map oh)=some ks
 | []=>rfl
 |k::r=>by rw[HL];unfold tupsI;rw[lH r,show Ce (oh k)=some k from ib k]
theorem Fz (f:En->Res R)(env:En):yY f env=(f env).bind ua:=(rfl)
theorem Di {r:R}{ks:List (List Int)}(hr:r.d=.lst (ks.map oh))(h:ks.length<=300)(hn:ks.all (fun k=>!k.isEmpty)=true):ua r=.ok (.new ((bT ks).map oh) true):=by unfold ua yX;rw[hr];dsimp only;rw[lH];dsimp only;rw[Hx (by rw[HA,HG h,hn];rfl)]
theorem FA (f:En->Res R)(env:En):y_ f env=(f env).bind ud:=(rfl)
theorem xn {r:R}{is:List Int}(hr:r.d=.lst (is.map .int))(h:is.length<=300):ud r=.ok (.new ((sortI is).map .int) true):=by unfold ud;rw[hr];dsimp only;rw[ib];dsimp only;rw[Hx h]
theorem oB:∀ is:List Int,jO (is.map ik)=some is
 | []=>rfl
 |a::r=>by rw[HL];unfold ik jO;rw[show(r.map fun i=>(Sum.inl (Sum.inl i):DK))=r.map ik from rfl,oB r];rfl
theorem FC {r:R}{is:List Int}{ds:List D}(hr:r.d=.dic (is.map ik) ds)(h:is.length<=1000):DM [r]=.ok (.new ((sortI is).map .int) true):=by unfold DM;dsimp only;rw[hr];dsimp only;rw[oB];dsimp only;rw[Hx h]
def r_:D->Res R
 | .dic ks _=>match eM ks with
  |some _=>if ks.length<=lim then .ok (.val (.int ks.length) true []) else .stuck
  |none=>.stuck
 |d=>CC d
theorem xo (r:R):bU [r]=r_ r.d:=by unfold bU;dsimp only;rw[E8];cases h:r.d<;>rfl
theorem zY {ds:List D}:r_ (.lst ds)=.ok (.val (.int ds.length) true []):=(rfl)
theorem zZ {ds:List D}:r_ (.tup ds)=.ok (.val (.int ds.length) true []):=(rfl)
theorem z4 {r:R}{is:List Int}{ds:List D}(hr:r.d=.dic (is.map ik) ds)(h:is.length<=lim):bU [r]=.ok (.val (.int is.length) true []):=by
 have hk:∃ xs,eM (is.map ik)=some xs:=by
  clear hr h;induction is with
  |nil=>exact⟨_,rfl⟩
  |cons a r ih=>obtain⟨xs,e⟩:=ih;exact⟨kD (.inl a)::xs,by rw[HL];show(eM (r.map ik)).map (kD (.inl a)::·)=_;rw[e];rfl⟩
 obtain⟨xs,e⟩:=hk;unfold bU;dsimp only;rw[hr];dsimp only;rw[e];dsimp only;rw[Hx (by rw[HA];exact h),HA]
def xp (i:Nat)(f:En->Res R)(env:En):Option (Option Sl)->Res Fl
 |some (some (.val (.int n) _))=>(f env).bind (wB i n env)
 |_=>.stuck
theorem FD (i:Nat)(f:En->Res R)(env:En):wC i f env=xp i f env env[i]?:=by unfold wC xp;rfl
theorem Dj {i:Nat}{f:En->Res R}{env:En}{n:Int}{fr:Bool}:xp i f env (some (some (.val (.int n) fr)))=(f env).bind (wB i n env):=(rfl)
theorem Dk {i:Nat}{n m:Int}{env:En}{f:Bool}{al:List Nat}:wB i n env (.val (.int m) f al)=if i<env.length then .ok (.nx (put env i (.val (.int (n+m)) true []))) else .stuck:=(rfl)
def xq (i r1 r2 r3:Nat)(f:En->Res R)(env:En):Option (Option Sl)->Res Fl
 |some (some (.tre (.dic [] [])))=>(f env).bind (uf i r1 r2 r3 env)
 |_=>.stuck
theorem FE (i r1 r2 r3:Nat)(f:En->Res R)(env:En):wz i r1 r2 r3 f env=xq i r1 r2 r3 f env env[i]?:=by unfold wz xq;rfl
theorem Dm {i r1 r2 r3:Nat}{f:En->Res R}{env:En}:xq i r1 r2 r3 f env (some (some (.tre (.dic [] []))))=(f env).bind (uf i r1 r2 r3 env):=(rfl)
theorem Do (fs:En->Res (List R))(env:En):Cf fs env=(fs env).bind y6:=(rfl)
theorem z5 {ds:List D}{f:Bool}{al:List Nat}:y6 [.val (.lst ds) f al]=.ok ⟨ds.reverse,f,al⟩:=(rfl)
def bD (ks:List Int):D:=.dic (ks.map ik) (ks.map fun _=>.bl true)
theorem sf (x:Int)(ks:List Int):(ks.map ik).all (kin (.inl (.inl x)))=true:=by rw[List.all_map,Jn];intro k _;rfl
theorem sj (ks:List Int)(x:Int):fE (ks.map ik) (.inl (.inl x))=decide (x∈ks):=by
 unfold fE;rw[Lp,K5,Ln,decide_eq_true_iff];constructor
 .rintro⟨k,hk,e⟩;have:k=x:=by have:=of_decide_eq_true e;exact J9 (J9 this)
  exact this▸hk
 .intro h;exact⟨x,h,by simp[ik]⟩
theorem FF (x:Int)(ks:List Int)(neg:Bool):iL neg (.int x) (bD ks)=.ok (.val (.bl (if neg then !decide (x∈ks) else decide (x∈ks))) true []):=by unfold bD;rw[A0 (k:=.inl (.inl x)) rfl (sf x ks),sj]
theorem xr (ks:List Int)(x:Int):dJ (ks.map ik) (ks.map fun _=>D.bl true) (.inl (.inl x)) (.bl true)=bD (dd ks x):=by
 unfold dJ;rw[sj];have hr:∀ ks:List Int,rD (ks.map ik) (ks.map fun _=>D.bl true) (.inl (.inl x)) (.bl true)=ks.map fun _=>D.bl true:=by
  intro ks;induction ks with
  |nil=>rfl
  |cons a r ih=>rw[HL,HL];unfold rD;rw[ih];split<;>rfl
 unfold dd;by_cases h:x∈ks
 .rw[Hx (HG h),Hx h,hr];rfl
 .rw[Hz (by rw[HF h];simp),Hz h];unfold bD;rw[IU,IU];rfl
theorem sk:∀(xs l:List Int),(xs.foldl dd l).length<=l.length+xs.length
 | [],l=>by simp
 |x::r,l=>by have h1:=sk r (dd l x);have h2:=jJ l x;simp only[Jt,IE];omega
theorem Dp {b:Bool}:yS "bool" (.bl b)=true:=(rfl)
theorem GV (k:En->Res Fl)(r:R)(e:En):kS k (.rm r e)=.ok (.rm r e):=(rfl)
def A2 (i:Nat)(env:En)(r:R):Res Fl:=if i<env.length then .ok (.nx ((frz env r.al).set i (some (.val r.d r.fr)))) else .stuck
theorem Dq (i:Nat)(a:En->Res R)(env:En):fJ i a env=(a env).bind (A2 i env):=(rfl)
theorem z6 {i:Nat}{env:En}{r:R}(h:i<env.length):A2 i env r=.ok (.nx ((frz env r.al).set i (some (.val r.d r.fr)))):=Hx h
def mP (f:Bool)(al:List Nat):D->Res R
 | .dic ks _=>match eM ks with
  |some xs=>if xs.length<=lim then .ok (.new xs true) else .stuck
  |none=>.stuck
 |d=>rS f al d
theorem sn (r:R):h_ [r]=mP r.fr r.al r.d:=by unfold h_ mP;dsimp only;cases h:r.d<;>first|rfl|(dsimp only;rw[CD,h])
theorem xt {f:Bool}{al:List Nat}{ds:List D}:mP f al (.lst ds)=.ok (f_ ds f al):=(rfl)
theorem gM {n:Nat}{caps:List Nat}{f:En->Res R}{asg:D->Bool->En->Option En}{ft:En->Res Bool}{fe:En->Res R}{env:En}{ds:List D}{fr:Bool}{al:List Nat}(h:f env=.ok (.val (.tup ds) fr al)):eQ n caps f asg ft fe env=eB n caps (fY f) asg ft fe env:=by unfold eQ;rw[h];rfl
theorem xu {i:Nat}{fk fv:En->Res R}{env:En}{ks:List DK}{ds:List D}:putAt i fk fv env (some (some (.pin (.dic ks ds))))=(fv env).bind (mG i fk env ks ds):=(rfl)
theorem xw {i:Nat}{fk:En->Res R}{env:En}{ks:List DK}{ds:List D}{r:R}(h:r.d.flat=true):mG i fk env ks ds r=(fk env).bind (wd i env ks ds r.d):=Hx h
theorem z7 {i:Nat}{fk fv:En->Res R}{env:En}{ks:List DK}{ds:List D}:eJ i fk fv env (some (some (.pin (.dic ks ds))))=gy i fk fv env:=(rfl)
theorem z8 {i:Nat}{fb:En->Res R}{env:En}{ks:List DK}{ds:List D}{f:Bool}:gC i fb env (some (some (.val (.dic ks ds) f)))=v2 jD (ai i) fb env:=(rfl)
theorem z9 {ds:List D}{f:Bool}{al:List Nat}:CF (.val (.lst ds) f al)=.ok (!ds.isEmpty):=(rfl)
theorem xx {i:Nat}{fb:En->Res R}{env:En}{d:D}:uj i fb env (some (some (.dis d)))=v2 xS (ai i) fb env:=(rfl)
end L3
local macro_rules|`(tactic| simp_arith[$as,*] $[$l:location]?)=>do
 let ls←("L3.eF L3.fZ L3.Fz L3.FA L3.FD L3.Dj L3.Dk L3.FE L3.Dm L3.xo L3.zY L3.zZ L3.xx L3.ze L3.GV L3.Dq L3.z6 L3.sn L3.xt L3.xu L3.xw L3.z7 L3.z8 L3.EX L3.z9 decide_true decide_false List.map_cons List.map_nil List.length_cons List.length_nil List.replicate List.cons_append List.nil_append List.append_nil Nat.reduceAdd Nat.max_self Nat.zero_max Nat.max_zero Nat.zero_add Nat.reduceSub L3.EK L3.ES L3.GK L3.EY L3.ET L3.EU L3.EV L3.EW L3.Ct L3.Cu L3.jQ L3.zD L3.w8 L3.w_ L3.ot L3.ou L3.um L3.f9 L3.rV L3.C6 L3.zE L3.zF L3.rW L3.gJ L3.jR L3.ia L3.GJ L3.cv List.getElem?_cons_zero List.getElem?_cons_succ L3.E1 L3.E2 L3.EZ L3.Cv Int.reduceLT Int.reduceLE Int.reduceNeg L3.Co L3.Cp L3.Cq L3.Cr L3.GF L3.GG List.set_cons_zero List.set_cons_succ Nat.reduceLT Nat.reduceLeDiff L3.GI L3.EL L3.EM L3.EN L3.EQ L3.Cm L3.GL L3.GM L3.E3 L3.zg L3.zh L3.zi L3.zk L3.Cy L3.zl L3.zn L3.wJ L3.E5 L3.Cz L3.E7 L3.CA L3.wK L3.ug L3.wL L3.uh L3.CB L3.zp L3.wN L3.wO L3.wQ L3.wR L3.wU L3.ui L3.GN L3.GO L3.GP L3.CG L3.CH L3.CI L3.zr L3.E9 L3.E_ L3.Fa L3.CK L3.zt L3.zu L3.CL L3.CM L3.GQ L3.Fb L3.Fc L3.Fd L3.Fe L3.CN L3.CO L3.CP L3.CQ L3.AE L3.Hi L3.Hj L3.Hk L3.zy L3.CS L3.CT L3.zA L3.GR L3.Fh L3.CU L3.CV L3.Fj L3.CW L3.CY L3.CZ L3.C0 L3.C1 L3.wW L3.wX L3.qx L3.wY L3.oq L3.zC L3.wZ L3.w4 L3.Fm L3.w6 L3.zL L3.zM L3.zN L3.zO L3.Ft L3.zK L3.Res.noX_ok L3.Fv L3.Dc L3.Hl L3.Hm L3.Ho L3.Hq L3.Hr Int.reduceBEq L3.Fs L3.Da L3.zI L3.zJ L3.xj Bool.not_not Nat.reduceEqDiff L3.C2 L3.Fp L3.C3 L3.C4 L3.aA L3.gK L3.zG L3.xb L3.xc L3.xf L3.oz L3.xg L3.xh L3.gL L3.zH Bool.and_true Bool.true_and Bool.and_false Bool.false_and Bool.and_self Bool.not_true Bool.not_false L3.C7 L3.C8 L3.mL L3.zf L3.GT L3.zP L3.De L3.oA L3.Dd L3.xl L3.zT L3.zU L3.rZ L3.xk L3.rY L3.Fw L3.Df L3.Dg L3.Dh L3.zV L3.zW L3.Fy L3.Do L3.z5 L3.Dp L3.xm L3.A1 L3.uq".splitOn " ").toArray.mapM fun s=>`(Lean.Parser.Tactic.simpLemma| $(Lean.mkIdent s.toName):ident)
 `(tactic| simp only[$[$ls:simpLemma],*,$as,*] $[$l]?)
local macro_rules|`(tactic| simp_arith $[$l:location]?)=>`(tactic| simp_arith[L3.cv] $[$l]?)
namespace L3
open PySem L2
theorem xy {α β:Type}(g:α->β)(xs:List α)(lo hi:Option Int):dH (xs.map g) lo hi=(dH xs lo hi).map g:=by unfold dH;rw[HA,List.map_take,List.map_drop]
theorem xA {ds:List D}:(∀ d∈ds,d.flat=true)->D.flats ds=true:=by
 induction ds with
 |nil=>intro _;rfl
 |cons d r ih=>intro h;rw[f9,h d (by simp),ih fun x hx=>h x (by simp[hx])];rfl
theorem bX {α:Type}(g:α->D)(xs:List α)(h:∀ a,(g a).flat=true):D.flats (xs.map g)=true:=xA fun d hd=>by obtain⟨a,_,rfl⟩:=HY.mp hd;exact h a
theorem dL (xs:List Int):D.flats (xs.map D.int)=true:=bX _ _ jQ
theorem z_ {ds:List D}{n:Nat}:(∀ d∈ds,d.dep<=n)->D.deps ds<=n:=by
 induction ds with
 |nil=>intro _;rw[jR];omega
 |cons d r ih=>intro h;have h1:=h d (by simp);have h2:=ih fun x hx=>h x (by simp[hx]);rw[ia];omega
theorem gO {α:Type}{g:α->D}{xs:List α}{n:Nat}(h:∀ a,(g a).dep<=n):D.deps (xs.map g)<=n:=z_ fun d hd=>by obtain⟨a,_,rfl⟩:=HY.mp hd;exact h a
theorem fy (xs:List Int):D.deps (xs.map D.int)<=0:=gO fun _=>HB 0
theorem jT {α:Type}(g:α->D)(xs:List α):aL (xs.map fun a=>.val (g a) true [])=true:=by unfold aL;rw[Jn];intro r h;obtain⟨a,_,rfl⟩:=HY.mp h;rfl
theorem xB {α:Type}(g:α->D)(fr:Bool)(al:List Nat)(xs:List α):(xs.map fun a=>R.val (g a) fr al).map R.d=xs.map g:=by rw[ID];rfl
theorem dM (n:Nat):c8 0 n=(List.range n).map fun k=>.int (k:Nat):=by unfold c8;congr 1;funext k;simp
theorem ce {α:Type}(g:α->D){asg:D->Bool->En->Option En}{fr:Bool}{body:En->Res Fl}(P:List α->En->Prop):∀(xs pre:List α)(env:En),P pre env->
 (∀(pre post:List α)(a:α)(env:En),(∀ b∈pre,b∈pre)->P pre env->a∈xs->∃ env1 env2,asg (g a) fr env=some env1/\body env1=.ok (.nx env2)/\P (pre++[a]) env2)->
 ∃ az,bS asg fr body (xs.map g) env=.ok (.nx az)/\P (pre++xs) az
 | [],pre,env,h,_=>⟨env,rfl,by rw[IS];exact h⟩
 |a::r,pre,env,h,st=>by obtain⟨env1,env2,h1,h2,h3⟩:=st pre [] a env (fun _ z=>z) h (by simp);obtain⟨az,e1,e2⟩:=ce g P r (pre++[a]) env2 h3 fun p q b e z hp hb=>st p q b e z hp (by simp[hb]);refine⟨az,?_,by rw[HH]at e2;exact e2⟩;rw[HL];unfold bS;rw[h1];dsimp only;rw[h2];exact e1
theorem sq {α:Type}(g:α->D){asg:D->Bool->En->Option En}{fr:Bool}{body:En->Res Fl}(all:List α)(P:List α->En->Prop):∀(xs pre:List α)(env:En),all=pre++xs->P pre env->
 (∀(pre post:List α)(a:α)(env:En),all=pre++a::post->P pre env->∃ env1 env2,asg (g a) fr env=some env1/\body env1=.ok (.nx env2)/\P (pre++[a]) env2)->
 ∃ az,bS asg fr body (xs.map g) env=.ok (.nx az)/\P all az
 | [],pre,env,e,h,_=>⟨env,rfl,by rw[e,IS];exact h⟩
 |a::r,pre,env,e,h,st=>by obtain⟨env1,env2,h1,h2,h3⟩:=st pre r a env e h;obtain⟨az,e1,e2⟩:=sq g all P r (pre++[a]) env2 (by rw[e];simp) h3 st;refine⟨az,?_,e2⟩;rw[HL];unfold bS;rw[h1];dsimp only;rw[h2];exact e1
def cell (ns:List Int)(k:Int):Int:=if k<ns.length then ((atI ns k).getD 0 % 2147483647+11+k*k)*48271 % 2147483647 else 0
theorem Aa (ns:List Int)(k:Int):0<=cell ns k:=by unfold cell;split<;>omega
theorem Ac {α β:Type}(g:α->β)(xs:List α)(k:Int):atI (xs.map g) k=(atI xs k).map g:=by
 unfold atI;rw[HA];cases m8 xs.length k with
 |none=>rfl
 |some j=>simp
theorem Dr {α:Type}{xs:List α}{k:Int}(h0:0<=k)(h:k<xs.length):∃ a,atI xs k=some a/\xs[k.toNat]?=some a:=by
 unfold atI m8;rw[Hx h0,Hx h];have:k.toNat<xs.length:=by omega
 exact⟨xs[k.toNat],by simp[this],by simp[this]⟩
structure Rl where
 room:Int
 sign:Int
 to:Int
 put:List Int
def Rl.d (r:Rl):D:=.tup [.int r.room,.int r.sign,.int r.to,.tup (r.put.map .int)]
theorem Rl.dep (r:Rl):r.d.dep<=2:=by have:=fy r.put;unfold Rl.d;simp only[rW,ia,rV,jR];omega
end L3
namespace W
open PySem PySem.Spec PyProof.Rows L2 L3
def top (i:Nat):Stmt:=PySem.Challenge.pw_callwalk_k13_heading_and_ending.main.body.getD i (.Pass ⟨0,0,0,0⟩)
abbrev s__law_cell_at:Stmt:=top 5
noncomputable abbrev eS:List Str:=["_law_script", "_law_k"]
noncomputable abbrev P__law_cell_at:List Str:=["_law_script", "_law_k"]
theorem iM:FnScope eS P__law_cell_at (defScope s__law_cell_at):=⟨rfl,rfl,rfl,by decide +kernel,rfl,by decide +kernel,by decide +kernel⟩
def cN:En->Res Fl:=
 (aC (j8 (vB (v2 pW (ai 1) (j6 bU (aj (ai 0) aw)))) (bA (v2 fV (v2 vR (v2 d8 (v2 d8 (v2 fV (bI 0 (ai 1)) (vC (.int 2147483647))) (vC (.int 11))) (v2 vR (ai 1) (ai 1))) (vC (.int 48271))) (vC (.int 2147483647)))) df)
 (bA (vC (.int 0))))
def aK:List D->Res R:=eF eS cN
abbrev s__law_head:Stmt:=top 7
noncomputable abbrev iB:List Str:=["_law_cell", "_law_rooms", "_law_signs"]
noncomputable abbrev P__law_head:List Str:=["_law_cell", "_law_rooms", "_law_signs"]
theorem sc__law_head:FnScope iB P__law_head (defScope s__law_head):=⟨rfl,rfl,rfl,by decide +kernel,rfl,by decide +kernel,by decide +kernel⟩
def iC:En->Res Fl:=
 (aC (bL 0 (v2 fV (v2 vR (v2 d8 (v2 fV (ai 0) (vC (.int 2147483629))) (vC (.int 5))) (vC (.int 69621))) (vC (.int 2147483629))))
 (bA (fX (aj (v2 fV (ai 0) (ai 1)) (aj (v2 fV (v2 mw (ai 0) (ai 1)) (ai 2)) aw)))))
def db:List D->Res R:=eF iB iC
abbrev s_formed:Stmt:=top 1
noncomputable abbrev oC:List Str:=["states", "arrows", "ends"]
noncomputable abbrev P_formed:List Str:=["states", "arrows", "ends"]
theorem ur:FnScope oC P_formed (defScope s_formed):=⟨rfl,rfl,rfl,by decide +kernel,rfl,by decide +kernel,by decide +kernel⟩
def oD:En->Res Fl:=(bA (fX (aj (ai 0) (aj (yY (ai 1)) (aj (y_ (ai 2)) aw)))))
def cO:List D->Res R:=eF oC oD
abbrev s_heading:Stmt:=top 2
noncomputable abbrev fz:List Str:=["house", "heads", "end", "tops", "beneath"]
noncomputable abbrev P_heading:List Str:=["house", "heads"]
theorem sc_heading:FnScope fz P_heading (defScope s_heading):=⟨rfl,rfl,rfl,by decide +kernel,rfl,by decide +kernel,by decide +kernel⟩
theorem fP:((["room", "sign"]:List Str)++(["end"]:List Str)).Nodup:=by decide +kernel
theorem ky:((["sign"]:List Str)++(["end"]:List Str)).Nodup:=by decide +kernel
def cf:En->Res R:=fun env=>(fX (aj (ai 0) (aj (ai 1) (aj (ai 2) aw)))) env
def cg:En->Res R:=fun env=>(fX (aj (ai 1) (aj (ai 0) (aj (ai 1) aw)))) env
def lI:En->Res Fl:=
 (aC (bL 2 (bI 0 (vC (.int 0))))
 (aC (bL 3 (eB 2 [2] (fY (ai 1)) (gT 2 (bM (gN 0) (bM (gN 1) lr))) (fun _=>.ok true) cf))
 (aC (bL 4 (eB 1 [2] (yN (aj (bI 0 (vC (.int 1))) aw)) (gN 0) (fun _=>.ok true) cg))
 (bA (aY cO (aj (v2 d8 (ai 2) (vC (.int 1))) (aj (v2 d8 (ai 3) (ai 4)) (aj (iI (aj (ai 2) aw)) aw))))))))
def fA:List D->Res R:=eF fz lI
abbrev s__law_whole:Stmt:=top 6
noncomputable abbrev gP:List Str:=["_law_found"]
noncomputable abbrev P__law_whole:List Str:=["_law_found"]
theorem kz:FnScope gP P__law_whole (defScope s__law_whole):=⟨rfl,rfl,rfl,by decide +kernel,rfl,by decide +kernel,by decide +kernel⟩
def gQ:En->Res Fl:=(bA (yJ (n9 "int" (ai 0)) (BY (n9 "bool" (ai 0)))))
def bv:List D->Res R:=eF gP gQ
abbrev s__law_machine:Stmt:=top 8
noncomputable abbrev bN:List Str:=["_law_found", "_law_rooms", "_law_signs", "_law_arrow", "_law_state"]
noncomputable abbrev P__law_machine:List Str:=["_law_found", "_law_rooms", "_law_signs"]
theorem sc__law_machine:FnScope bN P__law_machine (defScope s__law_machine):=⟨rfl,rfl,rfl,by decide +kernel,rfl,by decide +kernel,by decide +kernel⟩
theorem cP:((["_law_part"]:List Str)++([]:List Str)).Nodup:=by decide +kernel
def aO:En->Res R:=fun env=>(aY bv (aj (ai 0) aw)) env
def ba:En->Res Fl:=fun env=>
 (aC (j8 (rl (dF (d9 (n9 "tuple" (ai 3)))) (rl (vB (v2 rh (j6 bU (aj (ai 3) aw)) (vC (.int 3)))) (dF (d9 (j6 yT (aj (eQ 1 [] (ai 3) (gN 0) (fun _=>.ok true) aO) aw)))))) (bA (vC (.bl false))) df)
 (j8 (rl (dF (vB (f6 DI pW (vC (.int 0)) (bI 3 (vC (.int 0))) (bI 0 (vC (.int 0)))))) (rl (dF (vB (f6 DI pW (vC (.int 0)) (bI 3 (vC (.int 1))) (ai 2)))) (dF (vB (f6 DI pW (ai 1) (bI 3 (vC (.int 2))) (bI 0 (vC (.int 0)))))))) (bA (vC (.bl false))) df)) env
def bb:En->Res Fl:=fun env=>(j8 (rl (dF (d9 (aY bv (aj (ai 4) aw)))) (dF (vB (f6 DI pW (vC (.int 0)) (ai 4) (bI 0 (vC (.int 0))))))) (bA (vC (.bl false))) df) env
def eU:En->Res Fl:=
 (aC (j8 (rl (dF (d9 (n9 "tuple" (ai 0)))) (rl (vB (v2 rh (j6 bU (aj (ai 0) aw)) (vC (.int 3)))) (rl (dF (d9 (aY bv (aj (bI 0 (vC (.int 0))) aw)))) (vB (v2 pW (bI 0 (vC (.int 0))) (ai 1)))))) (bA (vC (.bl false))) df)
 (aC (j8 (rl (dF (d9 (n9 "list" (bI 0 (vC (.int 1)))))) (dF (d9 (n9 "list" (bI 0 (vC (.int 2))))))) (bA (vC (.bl false))) df)
 (aC (dU (fY (bI 0 (vC (.int 1)))) (gN 3) ba)
 (aC (dU (fY (bI 0 (vC (.int 2)))) (gN 4) bb)
 (aC (j8 (vB (v2 rh (bI 0 (vC (.int 1))) (yY (bI 0 (vC (.int 1)))))) (bA (vC (.bl false))) df)
 (bA (v2 vS (bI 0 (vC (.int 2))) (y_ (bI 0 (vC (.int 2)))))))))))
def br:List D->Res R:=eF bN eU
abbrev s_ending:Stmt:=top 3
noncomputable abbrev oE:List Str:=["house", "rooms"]
noncomputable abbrev P_ending:List Str:=["house", "rooms"]
theorem ut:FnScope oE P_ending (defScope s_ending):=⟨rfl,rfl,rfl,by decide +kernel,rfl,by decide +kernel,by decide +kernel⟩
def oF:En->Res Fl:=(bA (aY cO (aj (bI 0 (vC (.int 0))) (aj (iI aw) (aj (ai 1) aw)))))
def gR:List D->Res R:=eF oE oF
abbrev s__law_outs:Stmt:=top 9
noncomputable abbrev iD:List Str:=["_law_machine_here", "_law_outs_here", "_law_state", "_law_sign", "_law_far"]
noncomputable abbrev P__law_outs:List Str:=["_law_machine_here"]
theorem sc__law_outs:FnScope iD P__law_outs (defScope s__law_outs):=⟨rfl,rfl,rfl,by decide +kernel,rfl,by decide +kernel,by decide +kernel⟩
def iE:En->Res Fl:=
 (aC (bL 1 (fun _=>.ok (.fre (.dic [] []))))
 (aC (wz 1 2 3 4 (bI 0 (vC (.int 1))))
 (bA (ai 1))))
def ci:List D->Res R:=eF iD iE
abbrev s__law_live:Stmt:=top 10
noncomputable abbrev iF:List Str:=["_law_machine_here", "_law_live_here", "_law_state", "_law_size", "_law_sign", "_law_far"]
noncomputable abbrev P__law_live:List Str:=["_law_machine_here"]
theorem sc__law_live:FnScope iF P__law_live (defScope s__law_live):=⟨rfl,rfl,rfl,by decide +kernel,rfl,by decide +kernel,by decide +kernel⟩
def dg:En->Res Fl:=fun env=>(gA 1 (ai 2) (vC (.bl true))) env
def b0:En->Res Fl:=fun env=>(j8 (vB (v2 kq (ai 5) (ai 1))) (gA 1 (ai 2) (vC (.bl true))) df) env
def b6:En->Res Fl:=fun env=>
 (aC (bL 3 (j6 bU (aj (ai 1) aw)))
 (dU (Cf (aj (bI 0 (vC (.int 1))) aw)) (gT 3 (bM (gN 2) (bM (gN 4) (bM (gN 5) lr)))) b0)) env
def iG:En->Res Fl:=
 (aC (bL 1 (fun _=>.ok (.fre (.dic [] []))))
 (aC (dU (fY (bI 0 (vC (.int 2)))) (gN 2) dg)
 (aC (bL 3 (yU (vC (.int 1))))
 (aC (aM (vB (v2 pW (ai 3) (j6 bU (aj (ai 1) aw)))) b6 100000)
 (bA (ai 1))))))
def cj:List D->Res R:=eF iF iG
abbrev s__law_there:Stmt:=top 11
noncomputable abbrev gS:List Str:=["_law_outs_here", "_law_here", "_law_sign", "_law_there_here", "_law_state", "_law_far"]
noncomputable abbrev P__law_there:List Str:=["_law_outs_here", "_law_here", "_law_sign"]
theorem sc__law_there:FnScope gS P__law_there (defScope s__law_there):=⟨rfl,rfl,rfl,by decide +kernel,rfl,by decide +kernel,by decide +kernel⟩
def bO:En->Res Fl:=fun env=>(gA 3 (ai 5) (vC (.bl true))) env
def cQ:En->Res Fl:=fun env=>(dU (fY (og (ai 0) (fX (aj (ai 4) (aj (ai 2) aw))) (iI aw))) (gN 5) bO) env
def gU:En->Res Fl:=
 (aC (bL 3 (fun _=>.ok (.fre (.dic [] []))))
 (aC (lE (ai 1) (gN 4) cQ)
 (bA (j6 mH (aj (j6 DM (aj (ai 3) aw)) aw)))))
def aE:List D->Res R:=eF gS gU
abbrev s__law_always:Stmt:=top 12
noncomputable abbrev b7:List Str:=["_law_machine_here", "_law_outs_here", "_law_signs", "_law_here", "_law_rows", "_law_seen", "_law_at", "_law_sign", "_law_there_here"]
noncomputable abbrev P__law_always:List Str:=["_law_machine_here", "_law_outs_here", "_law_signs", "_law_here"]
theorem sc__law_always:FnScope b7 P__law_always (defScope s__law_always):=⟨rfl,rfl,rfl,by decide +kernel,rfl,by decide +kernel,by decide +kernel⟩
theorem dc:((["_law_state"]:List Str)++(["_law_machine_here"]:List Str)).Nodup:=by decide +kernel
def aR:En->Res R:=fun env=>(v2 kq (ai 0) (bI 1 (vC (.int 2)))) env
def bf:En->Res Fl:=fun env=>
 (aC (fJ 8 (aY aE (aj (ai 1) (aj (ai 3) (aj (ai 7) aw)))))
 (j8 (vB (v2 mF (ai 8) (ai 5))) (aC (gA 5 (ai 8) (vC (.bl true)))
 (tO 4 (ai 8))) df)) env
def bC:En->Res Fl:=fun env=>
 (aC (bL 3 (bI 4 (ai 6)))
 (aC (wC 6 (vC (.int 1)))
 (aC (j8 (dF (d9 (j6 t9 (aj (eQ 1 [0] (ai 3) (gN 0) (fun _=>.ok true) aR) aw)))) (bA (vC (.bl false))) df)
 (dU (yN (aj (ai 2) aw)) (gN 7) bf)))) env
def fQ:En->Res Fl:=
 (aC (bL 4 (iI (aj (ai 3) aw)))
 (aC (bL 5 (v2 f7 (ai 3) (vC (.bl true))))
 (aC (bL 6 (vC (.int 0)))
 (aC (aM (vB (v2 pW (ai 6) (j6 bU (aj (ai 4) aw)))) bC 100000)
 (bA (vC (.bl true)))))))
def b8:List D->Res R:=eF b7 fQ
abbrev s__law_heads:Stmt:=top 13
noncomputable abbrev cw:List Str:=["_law_machine_here", "_law_rooms", "_law_signs", "_law_heads_here", "_law_outs_here", "_law_live_here", "_law_room", "_law_sign", "_law_there_here"]
noncomputable abbrev P__law_heads:List Str:=["_law_machine_here", "_law_rooms", "_law_signs", "_law_heads_here"]
theorem sc__law_heads:FnScope cw P__law_heads (defScope s__law_heads):=⟨rfl,rfl,rfl,by decide +kernel,rfl,by decide +kernel,by decide +kernel⟩
theorem dy:((["_law_state"]:List Str)++(["_law_live_here"]:List Str)).Nodup:=by decide +kernel
def cS:En->Res R:=fun env=>(v2 kq (ai 0) (ai 1)) env
def bt:En->Res Fl:=fun env=>
 (aC (fJ 8 (aY aE (aj (ai 4) (aj (fX (aj (ai 6) aw)) (aj (ai 7) aw)))))
 (j8 (vB (v2 kq (fX (aj (ai 6) (aj (ai 7) aw))) (ai 3))) (j8 (dF (d9 (aY b8 (aj (ai 0) (aj (ai 4) (aj (ai 2) (aj (ai 8) aw))))))) (bA (vC (.bl false))) df) (j8 (d9 (j6 t9 (aj (eQ 1 [5] (ai 8) (gN 0) (fun _=>.ok true) cS) aw))) (bA (vC (.bl false))) df))) env
def bP:En->Res Fl:=fun env=>
 (aC (j8 (vB (v2 kq (ai 6) (bI 0 (vC (.int 2))))) (bA (vC (.bl false))) df)
 (dU (yN (aj (ai 2) aw)) (gN 7) bt)) env
def gW:En->Res Fl:=
 (aC (fJ 4 (aY ci (aj (ai 0) aw)))
 (aC (fJ 5 (aY cj (aj (ai 0) aw)))
 (aC (dU (yN (aj (ai 1) aw)) (gN 6) bP)
 (bA (vC (.bl true))))))
def cy:List D->Res R:=eF cw gW
abbrev s__law_ended:Stmt:=top 14
noncomputable abbrev cz:List Str:=["_law_machine_here", "_law_rooms", "_law_signs", "_law_some", "_law_outs_here", "_law_live_here", "_law_room", "_law_sign"]
noncomputable abbrev P__law_ended:List Str:=["_law_machine_here", "_law_rooms", "_law_signs", "_law_some"]
theorem sc__law_ended:FnScope cz P__law_ended (defScope s__law_ended):=⟨rfl,rfl,rfl,by decide +kernel,rfl,by decide +kernel,by decide +kernel⟩
theorem dz:((["_law_state"]:List Str)++(["_law_live_here"]:List Str)).Nodup:=by decide +kernel
def cT:En->Res R:=fun env=>(v2 kq (ai 0) (ai 1)) env
def bQ:En->Res Fl:=fun env=>(j8 (d9 (j6 t9 (aj (eQ 1 [5] (aY aE (aj (ai 4) (aj (fX (aj (ai 6) aw)) (aj (ai 7) aw)))) (gN 0) (fun _=>.ok true) cT) aw))) (bA (vC (.bl false))) df) env
def bR:En->Res Fl:=fun env=>
 (aC (j8 (vB (v2 rh (v2 kq (ai 6) (bI 0 (vC (.int 2)))) (v2 kq (ai 6) (ai 3)))) (bA (vC (.bl false))) df)
 (dU (yN (aj (ai 2) aw)) (gN 7) bQ)) env
def gX:En->Res Fl:=
 (aC (fJ 4 (aY ci (aj (ai 0) aw)))
 (aC (fJ 5 (aY cj (aj (ai 0) aw)))
 (aC (dU (yN (aj (ai 1) aw)) (gN 6) bR)
 (bA (vC (.bl true))))))
def cA:List D->Res R:=eF cz gX
abbrev s_law:Stmt:=top 15
noncomputable abbrev xC:List Str:=["_law_script", "_law_size", "_law_rooms", "_law_signs", "_law_heads_here", "_law_some", "_law_pick", "_law_rest", "_law_k", "_law_handed", "_law_given", "_law_found", "_law_other"]
noncomputable abbrev P_law:List Str:=["_law_script"]
theorem sc_law:FnScope xC P_law (defScope s_law):=⟨rfl,rfl,rfl,by decide +kernel,rfl,by decide +kernel,by decide +kernel⟩
theorem uu:((["_law_cell"]:List Str)++(["_law_rooms", "_law_signs"]:List Str)).Nodup:=by decide +kernel
def gY:En->Res R:=fun env=>(aY db (aj (ai 0) (aj (ai 1) (aj (ai 2) aw)))) env
def gZ:En->Res Fl:=fun env=>
 (aC (tO 5 (v2 fV (ai 7) (ai 2)))
 (bL 7 (v2 mw (ai 7) (ai 2)))) env
def oG:En->Res Fl:=fun env=>(bA (yJ (v2 vS (ai 10) (ai 5)) (v2 vS (ai 9) (ai 4)))) env
def oH:En->Res Fl:=fun env=>
 (aC (lz 12 2 (vC (.int 0)))
 oG) env
def oJ:En->Res Fl:=fun env=>
 (aC (lz 11 2 (vC (.int 0)))
 oH) env
def oK:En->Res Fl:=fun env=>
 (aC (j8 (rl (dF (d9 (aY cy (aj (ai 11) (aj (ai 2) (aj (ai 3) (aj (ai 4) aw))))))) (dF (d9 (aY cA (aj (ai 12) (aj (ai 2) (aj (ai 3) (aj (ai 5) aw)))))))) (bA (vC (.bl false))) df)
 oJ) env
def oM:En->Res Fl:=fun env=>
 (aC (j8 (rl (dF (d9 (aY br (aj (ai 12) (aj (ai 2) (aj (ai 3) aw)))))) (vB (v2 rh (ai 10) (ai 5)))) (bA (vC (.bl false))) df)
 oK) env
def oN:En->Res Fl:=fun env=>
 (aC (bL 12 (aY gR (aj (fX (aj (ai 2) (aj (ai 3) (aj (iI aw) aw)))) (aj (ai 10) aw))))
 oM) env
def oO:En->Res Fl:=fun env=>
 (aC (j8 (rl (dF (d9 (aY br (aj (ai 11) (aj (ai 2) (aj (ai 3) aw)))))) (vB (v2 rh (ai 9) (ai 4)))) (bA (vC (.bl false))) df)
 oN) env
def jU:En->Res Fl:=fun env=>
 (aC (bL 11 (aY fA (aj (fX (aj (ai 2) (aj (ai 3) (aj (iI aw) aw)))) (aj (ai 9) aw))))
 oO) env
def oP:En->Res Fl:=fun env=>
 (aC (bL 10 (j6 h_ (aj (ai 5) aw)))
 jU) env
def oQ:En->Res Fl:=fun env=>
 (aC (bL 9 (j6 h_ (aj (ai 4) aw)))
 oP) env
def ss:En->Res Fl:=fun env=>
 (aC (dU (yN (aj (v2 fV (ai 6) (vC (.int 6))) aw)) (gN 8) gZ)
 oQ) env
def su:En->Res Fl:=fun env=>
 (aC (bL 7 (v2 mw (ai 6) (vC (.int 6))))
 ss) env
def sv:En->Res Fl:=fun env=>
 (aC (fJ 6 (aY aK (aj (ai 0) (aj (vC (.int 1)) aw))))
 su) env
def sw:En->Res Fl:=fun env=>
 (aC (bL 5 (iI aw))
 sv) env
def mQ:En->Res Fl:=fun env=>
 (aC (bL 4 (eB 1 [2,3] (fY (p_ (ai 0) (rC (vC (.int 2))) (rC (vC (.int 32))))) (gN 0) (fun _=>.ok true) gY))
 sw) env
def mR:En->Res Fl:=fun env=>
 (aC (j8 (vB (v2 vS (v2 fV (v2 mw (ai 1) (vC (.int 20))) (vC (.int 4))) (vC (.int 1)))) (aC (bL 2 (v2 d8 (vC (.int 1)) (v2 fV (v2 mw (ai 1) (vC (.int 80))) (vC (.int 8)))))
 (bL 3 (v2 d8 (vC (.int 1)) (v2 fV (v2 mw (ai 1) (vC (.int 640))) (vC (.int 40)))))) df)
 mQ) env
def mS:En->Res Fl:=fun env=>
 (aC (bL 3 (v2 d8 (vC (.int 1)) (v2 fV (v2 mw (ai 1) (vC (.int 4))) (vC (.int 5)))))
 mR) env
def mT:En->Res Fl:=fun env=>
 (aC (bL 2 (v2 d8 (vC (.int 1)) (v2 fV (ai 1) (vC (.int 4)))))
 mS) env
def xD:En->Res Fl:=
 (aC (fJ 1 (aY aK (aj (ai 0) (aj (vC (.int 0)) aw))))
 mT)
def lJ:List D->Res R:=eF xC xD
set_option genInjectivity false in
structure Tx (K:Lu) (mg:Str->Option Lx) where
 f_a:Addr
 fd_a:FuncData
 h_a:Fn K mg "_law_cell_at" s__law_cell_at P__law_cell_at f_a fd_a
 f_b:Addr
 fd_b:FuncData
 h_b:Fn K mg "_law_head" s__law_head P__law_head f_b fd_b
 f_c:Addr
 fd_c:FuncData
 h_c:Fn K mg "formed" s_formed P_formed f_c fd_c
 f_d:Addr
 fd_d:FuncData
 h_d:Fn K mg "heading" s_heading P_heading f_d fd_d
 f_e:Addr
 fd_e:FuncData
 h_e:Fn K mg "_law_whole" s__law_whole P__law_whole f_e fd_e
 f_f:Addr
 fd_f:FuncData
 h_f:Fn K mg "_law_machine" s__law_machine P__law_machine f_f fd_f
 f_g:Addr
 fd_g:FuncData
 h_g:Fn K mg "ending" s_ending P_ending f_g fd_g
 f_h:Addr
 fd_h:FuncData
 h_h:Fn K mg "_law_outs" s__law_outs P__law_outs f_h fd_h
 f_i:Addr
 fd_i:FuncData
 h_i:Fn K mg "_law_live" s__law_live P__law_live f_i fd_i
 f_j:Addr
 fd_j:FuncData
 h_j:Fn K mg "_law_there" s__law_there P__law_there f_j fd_j
 f_k:Addr
 fd_k:FuncData
 h_k:Fn K mg "_law_always" s__law_always P__law_always f_k fd_k
 f_l:Addr
 fd_l:FuncData
 h_l:Fn K mg "_law_heads" s__law_heads P__law_heads f_l fd_l
 f_m:Addr
 fd_m:FuncData
 h_m:Fn K mg "_law_ended" s__law_ended P__law_ended f_m fd_m
 f_n:Addr
 fd_n:FuncData
 h_n:Fn K mg "law" s_law P_law f_n fd_n
 nb_all:mg "all"=none
 nb_any:mg "any"=none
 nb_bool:mg "bool"=none
 nb_int:mg "int"=none
 nb_isinstance:mg "isinstance"=none
 nb_len:mg "len"=none
 nb_list:mg "list"=none
 nb_range:mg "range"=none
 nb_reversed:mg "reversed"=none
 nb_set:mg "set"=none
 nb_sorted:mg "sorted"=none
 nb_tuple:mg "tuple"=none
section
variable {P:Lw}{w:World}{K:Lu}{mg:Str->Option Lx}{base:Heap}
theorem dQ (t:Tx K mg):FnOk P w K mg base kc 1 t.f_a t.fd_a P__law_cell_at (m_ mg 2 aK):=
 c9 t.h_a.fu iM fun cdv A outer s H E hr=>
  have hu:=hr.units
  (af (a_ (bd (ip) (qv 1) (bo fw (by rfl) t.nb_len (by decide +kernel) (aa (qv 0) ak)) (bJ _)) (am (au (aN bW (aN pV (aN dE (aN dE (aN bW (qh (pX (pv 0) (qv 1) (fun _ _=>rfl)) (mI hu (mv (pv 0)) (qv 1) (fun _ _=>rfl))) ar) ar) (aN pV (qv 1) (qv 1))) ar) ar))) aD)
    (am (au ar)))
theorem mU (t:Tx K mg):FnOk P w K mg base kc 1 t.f_b t.fd_b P__law_head (m_ mg 3 db):=
 c9 t.h_b.fu sc__law_head fun cdv A outer s H E hr=>
  have hu:=hr.units
  (af (aG sc__law_head.nd rfl (.inl rfl) (aN bW (aN pV (aN dE (aN bW (qv 0) ar) ar) ar) ar))
    (am (au (cp (aa (aN bW (qv 0) (qv 1)) (aa (aN bW (aN fW (qv 0) (qv 1)) (qv 2)) ak))))))
theorem lK (t:Tx K mg):FnOk P w K mg base kc 1 t.f_c t.fd_c P_formed (m_ mg 3 cO):=
 c9 t.h_c.fu ur fun cdv A outer s H E hr=>
  have hu:=hr.units
  (am (au (cp (aa (qv 0) (aa (fK (by rfl) hu (qv 1) (by rfl) t.nb_sorted (by decide +kernel) (by rfl) t.nb_set (by decide +kernel)) (aa (fL (by rfl) (qv 2) (by rfl) t.nb_sorted (by decide +kernel) (by rfl) t.nb_set (by decide +kernel)) ak))))))
theorem qy (t:Tx K mg):FnOk P w K mg base kc 2 t.f_d t.fd_d P_heading (m_ mg 2 fA):=
 c9 t.h_d.fu sc_heading fun cdv A outer s H E hr=>
  have hu:=hr.units
  (af (aG sc_heading.nd rfl (.inr rfl) (aJ hu (pv 0)))
    (af (jz rfl (CScope.of (osc:=defScope s_heading) (N:=fz) (tN:=["room", "sign"]) (capN:=["end"]) (caps:=[2]) rfl rfl (by decide +kernel)) sc_heading.nd rfl rfl (bB (qv 1)) (by decide) (fun cl C s3 H3 fp=>(rq rfl (dr (aq fP rfl (.inl rfl)) (dr (aq fP rfl (.inl rfl)) nZ (fun _ a _ b=>cb a b)) (fun _ a _ b=>cb a b)))) (fun cl C s3 H3 fp=>bp) (fun cl C s3 H3 fp=>(cp (aa (qv 0) (aa (qv 1) (aa (qv 2) ak))))))
    (af (jz rfl (CScope.of (osc:=defScope s_heading) (N:=fz) (tN:=["sign"]) (capN:=["end"]) (caps:=[2]) rfl rfl (by decide +kernel)) sc_heading.nd rfl rfl (bH (by rfl) t.nb_range (aa (aJ hu (pv 0)) ak)) (by decide) (fun cl C s3 H3 fp=>(aq ky rfl (.inl rfl))) (fun cl C s3 H3 fp=>bp) (fun cl C s3 H3 fp=>(cp (aa (qv 1) (aa (qv 0) (aa (qv 1) ak))))))
    (am (au (aB (lK t) (hr.mono (by decide)) (by rfl) t.h_c.gl t.h_c.fu.kp t.h_c.bi bj (aa (aN dE (qv 2) ar) (aa (aN dE (qv 3) (qv 4)) (aa (d_ (aa (qv 2) ak)) ak))) (ah (ah (ah ay)))))))))
theorem b9 (t:Tx K mg):FnOk P w K mg base kc 1 t.f_e t.fd_e P__law_whole (m_ mg 1 bv):=
 c9 t.h_e.fu kz fun cdv A outer s H E hr=>
  have hu:=hr.units
  (am (au (vU (h7 v8 (by rfl) t.nb_isinstance (by rfl) t.nb_int (by decide +kernel) (qv 0)) (vT (BZ (h7 tW (by rfl) t.nb_isinstance (by rfl) t.nb_bool (by decide +kernel) (qv 0)))))))
theorem dR (t:Tx K mg):FnOk P w K mg base kc 2 t.f_f t.fd_f P__law_machine (m_ mg 3 br):=
 c9 t.h_f.fu sc__law_machine fun cdv A outer s H E hr=>
  have hu:=hr.units
  (af (a_ (PWD.pt (cn (aV (bG (h7 jA (by rfl) t.nb_isinstance (by rfl) t.nb_tuple (by decide +kernel) (qv 0)))) (cn (bd (lq hu) (bo fw (by rfl) t.nb_len (by decide +kernel) (aa (qv 0) ak)) ar (bJ _)) (cn (aV (bG (aB (b9 t) (hr.mono (by decide)) (by rfl) t.h_e.gl t.h_e.fu.kp t.h_e.bi bj (aa (aJ hu (pv 0)) ak) (ah ay)))) (c6 (bd (ip) (aJ hu (pv 0)) (qv 1) (bJ _))))))) (am (au aU)) aD)
    (af (a_ (PWD.pt (cn (aV (bG (h7 ly (by rfl) t.nb_isinstance (by rfl) t.nb_list (by decide +kernel) (aJ hu (pv 0))))) (c6 (aV (bG (h7 ly (by rfl) t.nb_isinstance (by rfl) t.nb_list (by decide +kernel) (aJ hu (pv 0)))))))) (am (au aU)) aD)
    (af (bu IC rfl (bB (aJ hu (pv 0))) (aq sc__law_machine.nd rfl (.inl rfl)) (af (a_ (PWD.pt (cn (aV (bG (h7 jA (by rfl) t.nb_isinstance (by rfl) t.nb_tuple (by decide +kernel) (qv 3)))) (cn (bd (lq hu) (bo fw (by rfl) t.nb_len (by decide +kernel) (aa (qv 3) ak)) ar (bJ _)) (c6 (aV (bG (bo (B6 (by rfl)) (by rfl) t.nb_all (by decide +kernel) (aa (gH (iZ rfl (CScope.of (osc:=defScope s__law_machine) (N:=bN) (tN:=["_law_part"]) (capN:=[]) (caps:=[]) rfl rfl (by decide +kernel)) (bB (qv 3)) (by decide) (fun cl C s3 H3 fp=>(aq cP rfl (.inl rfl))) (fun cl C s3 H3 fp=>bp) (fun cl C s3 H3 fp=>(aB (b9 t) (hr.mono (by decide)) (by rfl) t.h_e.gl t.h_e.fu.kp t.h_e.bi bj (aa (qv 0) ak) (ah ay)))) (gG rfl (CScope.of (osc:=defScope s__law_machine) (N:=bN) (tN:=["_law_part"]) (capN:=[]) (caps:=[]) rfl rfl (by decide +kernel)) (qv 3) (by decide) (fun cl C s3 H3 fp=>(aq cP rfl (.inl rfl))) (fun cl C s3 H3 fp=>bp) (fun cl C s3 H3 fp=>(aB (b9 t) (hr.mono (by decide)) (by rfl) t.h_e.gl t.h_e.fu.kp t.h_e.bi bj (aa (qv 0) ak) (ah ay))))) ak)))))))) (am (au aU)) aD)
    (am (a_ (PWD.pt (cn (aV (fm (rf) (ip) ar (aJ hu (pv 3)) (aJ hu (pv 0)))) (cn (aV (fm (rf) (ip) ar (aJ hu (pv 3)) (qv 2))) (c6 (aV (fm (rf) (ip) (qv 1) (aJ hu (pv 3)) (aJ hu (pv 0)))))))) (am (au aU)) aD))))
    (af (bu IC rfl (bB (aJ hu (pv 0))) (aq sc__law_machine.nd rfl (.inl rfl)) (am (a_ (PWD.pt (cn (aV (bG (aB (b9 t) (hr.mono (by decide)) (by rfl) t.h_e.gl t.h_e.fu.kp t.h_e.bi bj (aa (qv 4) ak) (ah ay)))) (c6 (aV (fm (rf) (ip) ar (qv 4) (aJ hu (pv 0))))))) (am (au aU)) aD)))
    (af (a_ (bd (lq hu) (aJ hu (pv 0)) (fK (by rfl) hu (aJ hu (pv 0)) (by rfl) t.nb_sorted (by decide +kernel) (by rfl) t.nb_set (by decide +kernel)) (bJ _)) (am (au aU)) aD)
    (am (au (cI (rj hu) (aJ hu (pv 0)) (fL (by rfl) (aJ hu (pv 0)) (by rfl) t.nb_sorted (by decide +kernel) (by rfl) t.nb_set (by decide +kernel)) (bJ _)))))))))
theorem uw (t:Tx K mg):FnOk P w K mg base kc 2 t.f_g t.fd_g P_ending (m_ mg 2 gR):=
 c9 t.h_g.fu ut fun cdv A outer s H E hr=>
  have hu:=hr.units
  (am (au (aB (lK t) (hr.mono (by decide)) (by rfl) t.h_c.gl t.h_c.fu.kp t.h_c.bi bj (aa (aJ hu (pv 0)) (aa (d_ ak) (aa (qv 1) ak))) (ah (ah (ah ay))))))
theorem g0 (t:Tx K mg):FnOk P w K mg base kc 1 t.f_h t.fd_h P__law_outs (m_ mg 1 ci):=
 c9 t.h_h.fu sc__law_outs fun cdv A outer s H E hr=>
  have hu:=hr.units
  (af (aG sc__law_outs.nd rfl (.inl rfl) mE)
    (af (zb IC rfl (aJ hu (pv 0)) (uM rfl (cb (iQ sc__law_outs.nd rfl (.inl rfl)) (cb (iQ sc__law_outs.nd rfl (.inl rfl)) (cb (iQ sc__law_outs.nd rfl (.inl rfl)) qH)))) (qG (lQ (qK KC Kt Ku eV (qK PySem.F.plainAttrs_dict KW PySem.F.type_dict_setdefault (vH hu) (pv 1) (bh (uV (bh (pv 2) (bh (pv 3) ck))) (bh (uW ck) ck))) (bh (pv 4) ck)))))
    (am (au (qv 1)))))
theorem g4 (t:Tx K mg):FnOk P w K mg base kc 1 t.f_i t.fd_i P__law_live (m_ mg 1 cj):=
 c9 t.h_i.fu sc__law_live fun cdv A outer s H E hr=>
  have hu:=hr.units
  (af (aG sc__law_live.nd rfl (.inl rfl) mE)
    (af (bu IC rfl (bB (aJ hu (pv 0))) (aq sc__law_live.nd rfl (.inl rfl)) (am (eL (eG (pv 1) (qv 2) aU) (gz hu (pv 1) (qv 2) aU))))
    (af (aG sc__law_live.nd rfl (.inl rfl) (B8 ar))
    (af (lB 100000 IC (bd (ip) (qv 3) (bo fw (by rfl) t.nb_len (by decide +kernel) (aa (qv 1) ak)) (bJ _)) (af (aG sc__law_live.nd rfl (.inl rfl) (bo fw (by rfl) t.nb_len (by decide +kernel) (aa (qv 1) ak)))
    (am (bu IC rfl (y8 (by rfl) t.nb_reversed (aa (aJ hu (pv 0)) ak)) (rq rfl (dr (aq sc__law_live.nd rfl (.inl rfl)) (dr (aq sc__law_live.nd rfl (.inl rfl)) (dr (aq sc__law_live.nd rfl (.inl rfl)) nZ (fun _ a _ b=>cb a b)) (fun _ a _ b=>cb a b)) (fun _ a _ b=>cb a b))) (am (a_ (bd (cL hu) (qv 5) (qv 1) (by rfl)) (am (eL (eG (pv 1) (qv 2) aU) (gz hu (pv 1) (qv 2) aU))) aD))))))
    (am (au (qv 1)))))))
theorem b_ (t:Tx K mg):FnOk P w K mg base kc 1 t.f_j t.fd_j P__law_there (m_ mg 3 aE):=
 c9 t.h_j.fu sc__law_there fun cdv A outer s H E hr=>
  have hu:=hr.units
  (af (aG sc__law_there.nd rfl (.inl rfl) mE)
    (af (ww (bu IC rfl (bB (qv 1)) (aq sc__law_there.nd rfl (.inl rfl)) (am (bu IC rfl (bB (rJ hu (qv 0) (cp (aa (qv 4) (aa (qv 2) ak))) (d_ ak) ⟨rfl,rfl,rfl,rfl⟩)) (aq sc__law_there.nd rfl (.inl rfl)) (am (eL (eG (pv 3) (qv 5) aU) (gz hu (pv 3) (qv 5) aU)))))) (wq IC rfl (qv 1) (aq sc__law_there.nd rfl (.inl rfl)) (am (bu IC rfl (bB (rJ hu (qv 0) (cp (aa (qv 4) (aa (qv 2) ak))) (d_ ak) ⟨rfl,rfl,rfl,rfl⟩)) (aq sc__law_there.nd rfl (.inl rfl)) (am (eL (eG (pv 3) (qv 5) aU) (gz hu (pv 3) (qv 5) aU)))))))
    (am (au (hU wg (by rfl) t.nb_tuple (by decide +kernel) (aa (bo (qw (by rfl)) (by rfl) t.nb_sorted (by decide +kernel) (aa (qv 3) ak)) ak))))))
theorem jV (t:Tx K mg):FnOk P w K mg base kc 2 t.f_k t.fd_k P__law_always (m_ mg 4 b8):=
 c9 t.h_k.fu sc__law_always fun cdv A outer s H E hr=>
  have hu:=hr.units
  (af (aG sc__law_always.nd rfl (.inl rfl) (d_ (aa (qv 3) ak)))
    (af (aG sc__law_always.nd rfl (.inl rfl) (wD hu (qv 3) aU))
    (af (aG sc__law_always.nd rfl (.inl rfl) ar)
    (af (lB 100000 IC (bd (ip) (qv 6) (bo fw (by rfl) t.nb_len (by decide +kernel) (aa (qv 4) ak)) (bJ _)) (af (aG sc__law_always.nd rfl (.inl rfl) (qh (pX (pv 4) (qv 6) (fun _ _=>rfl)) (mI hu (mv (pv 4)) (qv 6) (fun _ _=>rfl))))
    (af (zd sc__law_always.nd rfl (.inl rfl) ar)
    (af (a_ (aV (bG (bo (qg (by rfl)) (by rfl) t.nb_any (by decide +kernel) (aa (gH (iZ rfl (CScope.of (osc:=defScope s__law_always) (N:=b7) (tN:=["_law_state"]) (capN:=["_law_machine_here"]) (caps:=[0]) rfl rfl (by decide +kernel)) (bB (qv 3)) (by decide) (fun cl C s3 H3 fp=>(aq dc rfl (.inl rfl))) (fun cl C s3 H3 fp=>bp) (fun cl C s3 H3 fp=>(cI (cL hu) (qv 0) (aJ hu (pv 1)) (by rfl)))) (gG rfl (CScope.of (osc:=defScope s__law_always) (N:=b7) (tN:=["_law_state"]) (capN:=["_law_machine_here"]) (caps:=[0]) rfl rfl (by decide +kernel)) (qv 3) (by decide) (fun cl C s3 H3 fp=>(aq dc rfl (.inl rfl))) (fun cl C s3 H3 fp=>bp) (fun cl C s3 H3 fp=>(cI (cL hu) (qv 0) (aJ hu (pv 1)) (by rfl))))) ak)))) (am (au aU)) aD)
    (am (bu IC rfl (bH (by rfl) t.nb_range (aa (qv 2) ak)) (aq sc__law_always.nd rfl (.inl rfl)) (af (cc sc__law_always.nd rfl (.inl rfl) (aB (b_ t) (hr.mono (by decide)) (by rfl) t.h_j.gl t.h_j.fu.kp t.h_j.bi bj (aa (qv 1) (aa (qv 3) (aa (qv 7) ak))) (ah (ah (ah ay)))))
    (am (a_ (bd (t7 hu) (qv 8) (qv 5) (by rfl)) (af (eL (eG (pv 5) (qv 8) aU) (gz hu (pv 5) (qv 8) aU))
    (am (rp (pv 4) (qv 8)))) aD)))))))))
    (am (au aU))))))
theorem kA (t:Tx K mg):FnOk P w K mg base kc 3 t.f_l t.fd_l P__law_heads (m_ mg 4 cy):=
 c9 t.h_l.fu sc__law_heads fun cdv A outer s H E hr=>
  have hu:=hr.units
  (af (cc sc__law_heads.nd rfl (.inl rfl) (aB (g0 t) (hr.mono (by decide)) (by rfl) t.h_h.gl t.h_h.fu.kp t.h_h.bi bj (aa (qv 0) ak) (ah ay)))
    (af (cc sc__law_heads.nd rfl (.inr rfl) (aB (g4 t) (hr.mono (by decide)) (by rfl) t.h_i.gl t.h_i.fu.kp t.h_i.bi bj (aa (qv 0) ak) (ah ay)))
    (af (bu IC rfl (bH (by rfl) t.nb_range (aa (qv 1) ak)) (aq sc__law_heads.nd rfl (.inl rfl)) (af (a_ (bd (cL hu) (qv 6) (aJ hu (pv 0)) (by rfl)) (am (au aU)) aD)
    (am (bu IC rfl (bH (by rfl) t.nb_range (aa (qv 2) ak)) (aq sc__law_heads.nd rfl (.inl rfl)) (af (cc sc__law_heads.nd rfl (.inl rfl) (aB (b_ t) (hr.mono (by decide)) (by rfl) t.h_j.gl t.h_j.fu.kp t.h_j.bi bj (aa (qv 4) (aa (cp (aa (qv 6) ak)) (aa (qv 7) ak))) (ah (ah (ah ay)))))
    (am (a_ (bd (cL hu) (cp (aa (qv 6) (aa (qv 7) ak))) (qv 3) (by rfl)) (am (a_ (aV (bG (aB (jV t) (hr.mono (by decide)) (by rfl) t.h_k.gl t.h_k.fu.kp t.h_k.bi bj (aa (qv 0) (aa (qv 4) (aa (qv 2) (aa (qv 8) ak)))) (ah (ah (ah (ah ay))))))) (am (au aU)) aD)) (am (a_ (bG (bo (qg (by rfl)) (by rfl) t.nb_any (by decide +kernel) (aa (gH (iZ rfl (CScope.of (osc:=defScope s__law_heads) (N:=cw) (tN:=["_law_state"]) (capN:=["_law_live_here"]) (caps:=[5]) rfl rfl (by decide +kernel)) (bB (qv 8)) (by decide) (fun cl C s3 H3 fp=>(aq dy rfl (.inl rfl))) (fun cl C s3 H3 fp=>bp) (fun cl C s3 H3 fp=>(cI (cL hu) (qv 0) (qv 1) (by rfl)))) (gG rfl (CScope.of (osc:=defScope s__law_heads) (N:=cw) (tN:=["_law_state"]) (capN:=["_law_live_here"]) (caps:=[5]) rfl rfl (by decide +kernel)) (qv 8) (by decide) (fun cl C s3 H3 fp=>(aq dy rfl (.inl rfl))) (fun cl C s3 H3 fp=>bp) (fun cl C s3 H3 fp=>(cI (cL hu) (qv 0) (qv 1) (by rfl))))) ak))) (am (au aU)) aD)))))))))
    (am (au aU)))))
theorem kC (t:Tx K mg):FnOk P w K mg base kc 2 t.f_m t.fd_m P__law_ended (m_ mg 4 cA):=
 c9 t.h_m.fu sc__law_ended fun cdv A outer s H E hr=>
  have hu:=hr.units
  (af (cc sc__law_ended.nd rfl (.inl rfl) (aB (g0 t) (hr.mono (by decide)) (by rfl) t.h_h.gl t.h_h.fu.kp t.h_h.bi bj (aa (qv 0) ak) (ah ay)))
    (af (cc sc__law_ended.nd rfl (.inr rfl) (aB (g4 t) (hr.mono (by decide)) (by rfl) t.h_i.gl t.h_i.fu.kp t.h_i.bi bj (aa (qv 0) ak) (ah ay)))
    (af (bu IC rfl (bH (by rfl) t.nb_range (aa (qv 1) ak)) (aq sc__law_ended.nd rfl (.inl rfl)) (af (a_ (bd (lq hu) (cI (cL hu) (qv 6) (aJ hu (pv 0)) (by rfl)) (cI (cL hu) (qv 6) (qv 3) (by rfl)) (bJ _)) (am (au aU)) aD)
    (am (bu IC rfl (bH (by rfl) t.nb_range (aa (qv 2) ak)) (aq sc__law_ended.nd rfl (.inl rfl)) (am (a_ (bG (bo (qg (by rfl)) (by rfl) t.nb_any (by decide +kernel) (aa (gH (iZ rfl (CScope.of (osc:=defScope s__law_ended) (N:=cz) (tN:=["_law_state"]) (capN:=["_law_live_here"]) (caps:=[5]) rfl rfl (by decide +kernel)) (bB (aB (b_ t) (hr.mono (by decide)) (by rfl) t.h_j.gl t.h_j.fu.kp t.h_j.bi bj (aa (qv 4) (aa (cp (aa (qv 6) ak)) (aa (qv 7) ak))) (ah (ah (ah ay))))) (by decide) (fun cl C s3 H3 fp=>(aq dz rfl (.inl rfl))) (fun cl C s3 H3 fp=>bp) (fun cl C s3 H3 fp=>(cI (cL hu) (qv 0) (qv 1) (by rfl)))) (gG rfl (CScope.of (osc:=defScope s__law_ended) (N:=cz) (tN:=["_law_state"]) (capN:=["_law_live_here"]) (caps:=[5]) rfl rfl (by decide +kernel)) (aB (b_ t) (hr.mono (by decide)) (by rfl) t.h_j.gl t.h_j.fu.kp t.h_j.bi bj (aa (qv 4) (aa (cp (aa (qv 6) ak)) (aa (qv 7) ak))) (ah (ah (ah ay)))) (by decide) (fun cl C s3 H3 fp=>(aq dz rfl (.inl rfl))) (fun cl C s3 H3 fp=>bp) (fun cl C s3 H3 fp=>(cI (cL hu) (qv 0) (qv 1) (by rfl))))) ak))) (am (au aU)) aD))))))
    (am (au aU)))))
theorem Ds (t:Tx K mg):FnOk P w K mg base kc 4 t.f_n t.fd_n P_law (m_ mg 1 lJ):=
 c9 t.h_n.fu sc_law fun cdv A outer s H E hr=>
  have hu:=hr.units
  (af (cc sc_law.nd rfl (.inl rfl) (aB (dQ t) (hr.mono (by decide)) (by rfl) t.h_a.gl t.h_a.fu.kp t.h_a.bi bj (aa (qv 0) (aa ar ak)) (ah (ah ay))))
    (af (aG sc_law.nd rfl (.inr rfl) (aN dE ar (aN bW (qv 1) ar)))
    (af (aG sc_law.nd rfl (.inr rfl) (aN dE ar (aN bW (aN fW (qv 1) ar) ar)))
    (af (a_ (bd (rj hu) (aN bW (aN fW (qv 1) ar) ar) ar (bJ _)) (af (aG sc_law.nd rfl (.inr rfl) (aN dE ar (aN bW (aN fW (qv 1) ar) ar)))
    (am (aG sc_law.nd rfl (.inr rfl) (aN dE ar (aN bW (aN fW (qv 1) ar) ar))))) aD)
    (af (jz rfl (CScope.of (osc:=defScope s_law) (N:=xC) (tN:=["_law_cell"]) (capN:=["_law_rooms", "_law_signs"]) (caps:=[2,3]) rfl rfl (by decide +kernel)) sc_law.nd rfl rfl (bB (v6 (qv 0) (n8 ar) (n8 ar))) (by decide) (fun cl C s3 H3 fp=>(aq uu rfl (.inl rfl))) (fun cl C s3 H3 fp=>bp) (fun cl C s3 H3 fp=>(aB (mU t) (hr.mono (by decide)) (by rfl) t.h_b.gl t.h_b.fu.kp t.h_b.bi bj (aa (qv 0) (aa (qv 1) (aa (qv 2) ak))) (ah (ah (ah ay))))))
    (af (aG sc_law.nd rfl (.inl rfl) (d_ ak))
    (af (cc sc_law.nd rfl (.inl rfl) (aB (dQ t) (hr.mono (by decide)) (by rfl) t.h_a.gl t.h_a.fu.kp t.h_a.bi bj (aa (qv 0) (aa ar ak)) (ah (ah ay))))
    (af (aG sc_law.nd rfl (.inl rfl) (aN fW (qv 6) ar))
    (af (bu IC rfl (bH (by rfl) t.nb_range (aa (aN bW (qv 6) ar) ak)) (aq sc_law.nd rfl (.inl rfl)) (af (rp (pv 5) (aN bW (qv 7) (qv 2)))
    (am (aG sc_law.nd rfl (.inl rfl) (aN fW (qv 7) (qv 2))))))
    (af (aG sc_law.nd rfl (.inl rfl) (hU (oo (by rfl)) (by rfl) t.nb_list (by decide +kernel) (aa (qv 4) ak)))
    (af (aG sc_law.nd rfl (.inl rfl) (hU (oo (by rfl)) (by rfl) t.nb_list (by decide +kernel) (aa (qv 5) ak)))
    (af (aG sc_law.nd rfl (.inl rfl) (aB (qy t) (hr.mono (by decide)) (by rfl) t.h_d.gl t.h_d.fu.kp t.h_d.bi bj (aa (cp (aa (qv 2) (aa (qv 3) (aa (d_ ak) ak)))) (aa (qv 9) ak)) (ah (ah ay))))
    (af (a_ (PWD.pt (cn (aV (bG (aB (dR t) (hr.mono (by decide)) (by rfl) t.h_f.gl t.h_f.fu.kp t.h_f.bi bj (aa (qv 11) (aa (qv 2) (aa (qv 3) ak))) (ah (ah (ah ay)))))) (c6 (bd (lq hu) (qv 9) (qv 4) (bJ _))))) (am (au aU)) aD)
    (af (aG sc_law.nd rfl (.inl rfl) (aB (uw t) (hr.mono (by decide)) (by rfl) t.h_g.gl t.h_g.fu.kp t.h_g.bi bj (aa (cp (aa (qv 2) (aa (qv 3) (aa (d_ ak) ak)))) (aa (qv 10) ak)) (ah (ah ay))))
    (af (a_ (PWD.pt (cn (aV (bG (aB (dR t) (hr.mono (by decide)) (by rfl) t.h_f.gl t.h_f.fu.kp t.h_f.bi bj (aa (qv 12) (aa (qv 2) (aa (qv 3) ak))) (ah (ah (ah ay)))))) (c6 (bd (lq hu) (qv 10) (qv 5) (bJ _))))) (am (au aU)) aD)
    (af (a_ (PWD.pt (cn (aV (bG (aB (kA t) (hr.mono (by decide)) (by rfl) t.h_l.gl t.h_l.fu.kp t.h_l.bi bj (aa (qv 11) (aa (qv 2) (aa (qv 3) (aa (qv 4) ak)))) (ah (ah (ah (ah ay))))))) (c6 (aV (bG (aB (kC t) (hr.mono (by decide)) (by rfl) t.h_m.gl t.h_m.fu.kp t.h_m.bi bj (aa (qv 12) (aa (qv 2) (aa (qv 3) (aa (qv 5) ak)))) (ah (ah (ah (ah ay)))))))))) (am (au aU)) aD)
    (af (n_ (j:=2) (pv 11) (fun _ _=>rfl) ar)
    (af (n_ (j:=2) (pv 12) (fun _ _=>rfl) ar)
    (am (au (vU (cI (rj hu) (qv 10) (qv 5) (bJ _)) (vT (cI (rj hu) (qv 9) (qv 4) (bJ _))))))))))))))))))))))))
end
theorem Ad {Q:List Lx->Prop}{us:List Lx}(hl:us.length=1)(h:∀ a0:Lx,Q [a0]):Q us:=by
 match us,hl with
 | [a0],_=>exact h a0
theorem Dt {Q:List Lx->Prop}{us:List Lx}(hl:us.length=2)(h:∀ a0 a1:Lx,Q [a0,a1]):Q us:=by
 match us,hl with
 | [a0,a1],_=>exact h a0 a1
theorem Ae {Q:List Lx->Prop}{us:List Lx}(hl:us.length=3)(h:∀ a0 a1 a2:Lx,Q [a0,a1,a2]):Q us:=by
 match us,hl with
 | [a0,a1,a2],_=>exact h a0 a1 a2
theorem Du {Q:List Lx->Prop}{us:List Lx}(hl:us.length=4)(h:∀ a0 a1 a2 a3:Lx,Q [a0,a1,a2,a3]):Q us:=by
 match us,hl with
 | [a0,a1,a2,a3],_=>exact h a0 a1 a2 a3
theorem FG {K KK:Lu}{mg:Str->Option Lx}{h:Heap}(X:K.In h)(G:h.Ns mainGlobals mg)(U:SubK K KK)
 {f_a:Addr} {od_a an_a:Option Addr} {sl_a:Array (Option Lx)} {oc_a kV_a dc_a pm_a cd_a ct_a:Lx}
 (a_a:PySem.W.nsIn K mainGlobals "_law_cell_at"=some (some (.ref f_a))) (l_a:K.lookup f_a=some ⟨oc_a,od_a,.func (PySem.W.fnOf "_law_cell_at" "_law_cell_at" (defArgs s__law_cell_at) (defBody s__law_cell_at) (defScope s__law_cell_at) .none kV_a dc_a pm_a an_a cd_a ct_a),sl_a⟩) (c_a:PySem.W.codeIn K cd_a "_law_cell_at"=true) (k_a:PySem.W.keepIn K (.ref f_a)=true)
 {f_b:Addr} {od_b an_b:Option Addr} {sl_b:Array (Option Lx)} {oc_b kV_b dc_b pm_b cd_b ct_b:Lx}
 (a_b:PySem.W.nsIn K mainGlobals "_law_head"=some (some (.ref f_b))) (l_b:K.lookup f_b=some ⟨oc_b,od_b,.func (PySem.W.fnOf "_law_head" "_law_head" (defArgs s__law_head) (defBody s__law_head) (defScope s__law_head) .none kV_b dc_b pm_b an_b cd_b ct_b),sl_b⟩) (c_b:PySem.W.codeIn K cd_b "_law_head"=true) (k_b:PySem.W.keepIn K (.ref f_b)=true)
 {f_c:Addr} {od_c an_c:Option Addr} {sl_c:Array (Option Lx)} {oc_c kV_c dc_c pm_c cd_c ct_c:Lx}
 (a_c:PySem.W.nsIn K mainGlobals "formed"=some (some (.ref f_c))) (l_c:K.lookup f_c=some ⟨oc_c,od_c,.func (PySem.W.fnOf "formed" "formed" (defArgs s_formed) (defBody s_formed) (defScope s_formed) .none kV_c dc_c pm_c an_c cd_c ct_c),sl_c⟩) (c_c:PySem.W.codeIn K cd_c "formed"=true) (k_c:PySem.W.keepIn K (.ref f_c)=true)
 {f_d:Addr} {od_d an_d:Option Addr} {sl_d:Array (Option Lx)} {oc_d kV_d dc_d pm_d cd_d ct_d:Lx}
 (a_d:PySem.W.nsIn K mainGlobals "heading"=some (some (.ref f_d))) (l_d:K.lookup f_d=some ⟨oc_d,od_d,.func (PySem.W.fnOf "heading" "heading" (defArgs s_heading) (defBody s_heading) (defScope s_heading) .none kV_d dc_d pm_d an_d cd_d ct_d),sl_d⟩) (c_d:PySem.W.codeIn K cd_d "heading"=true) (k_d:PySem.W.keepIn K (.ref f_d)=true)
 {f_e:Addr} {od_e an_e:Option Addr} {sl_e:Array (Option Lx)} {oc_e kV_e dc_e pm_e cd_e ct_e:Lx}
 (a_e:PySem.W.nsIn K mainGlobals "_law_whole"=some (some (.ref f_e))) (l_e:K.lookup f_e=some ⟨oc_e,od_e,.func (PySem.W.fnOf "_law_whole" "_law_whole" (defArgs s__law_whole) (defBody s__law_whole) (defScope s__law_whole) .none kV_e dc_e pm_e an_e cd_e ct_e),sl_e⟩) (c_e:PySem.W.codeIn K cd_e "_law_whole"=true) (k_e:PySem.W.keepIn K (.ref f_e)=true)
 {f_f:Addr} {od_f an_f:Option Addr} {sl_f:Array (Option Lx)} {oc_f kV_f dc_f pm_f cd_f ct_f:Lx}
 (a_f:PySem.W.nsIn K mainGlobals "_law_machine"=some (some (.ref f_f))) (l_f:K.lookup f_f=some ⟨oc_f,od_f,.func (PySem.W.fnOf "_law_machine" "_law_machine" (defArgs s__law_machine) (defBody s__law_machine) (defScope s__law_machine) .none kV_f dc_f pm_f an_f cd_f ct_f),sl_f⟩) (c_f:PySem.W.codeIn K cd_f "_law_machine"=true) (k_f:PySem.W.keepIn K (.ref f_f)=true)
 {f_g:Addr} {od_g an_g:Option Addr} {sl_g:Array (Option Lx)} {oc_g kV_g dc_g pm_g cd_g ct_g:Lx}
 (a_g:PySem.W.nsIn K mainGlobals "ending"=some (some (.ref f_g))) (l_g:K.lookup f_g=some ⟨oc_g,od_g,.func (PySem.W.fnOf "ending" "ending" (defArgs s_ending) (defBody s_ending) (defScope s_ending) .none kV_g dc_g pm_g an_g cd_g ct_g),sl_g⟩) (c_g:PySem.W.codeIn K cd_g "ending"=true) (k_g:PySem.W.keepIn K (.ref f_g)=true)
 {f_h:Addr} {od_h an_h:Option Addr} {sl_h:Array (Option Lx)} {oc_h kV_h dc_h pm_h cd_h ct_h:Lx}
 (a_h:PySem.W.nsIn K mainGlobals "_law_outs"=some (some (.ref f_h))) (l_h:K.lookup f_h=some ⟨oc_h,od_h,.func (PySem.W.fnOf "_law_outs" "_law_outs" (defArgs s__law_outs) (defBody s__law_outs) (defScope s__law_outs) .none kV_h dc_h pm_h an_h cd_h ct_h),sl_h⟩) (c_h:PySem.W.codeIn K cd_h "_law_outs"=true) (k_h:PySem.W.keepIn K (.ref f_h)=true)
 {f_i:Addr} {od_i an_i:Option Addr} {sl_i:Array (Option Lx)} {oc_i kV_i dc_i pm_i cd_i ct_i:Lx}
 (a_i:PySem.W.nsIn K mainGlobals "_law_live"=some (some (.ref f_i))) (l_i:K.lookup f_i=some ⟨oc_i,od_i,.func (PySem.W.fnOf "_law_live" "_law_live" (defArgs s__law_live) (defBody s__law_live) (defScope s__law_live) .none kV_i dc_i pm_i an_i cd_i ct_i),sl_i⟩) (c_i:PySem.W.codeIn K cd_i "_law_live"=true) (k_i:PySem.W.keepIn K (.ref f_i)=true)
 {f_j:Addr} {od_j an_j:Option Addr} {sl_j:Array (Option Lx)} {oc_j kV_j dc_j pm_j cd_j ct_j:Lx}
 (a_j:PySem.W.nsIn K mainGlobals "_law_there"=some (some (.ref f_j))) (l_j:K.lookup f_j=some ⟨oc_j,od_j,.func (PySem.W.fnOf "_law_there" "_law_there" (defArgs s__law_there) (defBody s__law_there) (defScope s__law_there) .none kV_j dc_j pm_j an_j cd_j ct_j),sl_j⟩) (c_j:PySem.W.codeIn K cd_j "_law_there"=true) (k_j:PySem.W.keepIn K (.ref f_j)=true)
 {f_k:Addr} {od_k an_k:Option Addr} {sl_k:Array (Option Lx)} {oc_k kV_k dc_k pm_k cd_k ct_k:Lx}
 (a_k:PySem.W.nsIn K mainGlobals "_law_always"=some (some (.ref f_k))) (l_k:K.lookup f_k=some ⟨oc_k,od_k,.func (PySem.W.fnOf "_law_always" "_law_always" (defArgs s__law_always) (defBody s__law_always) (defScope s__law_always) .none kV_k dc_k pm_k an_k cd_k ct_k),sl_k⟩) (c_k:PySem.W.codeIn K cd_k "_law_always"=true) (k_k:PySem.W.keepIn K (.ref f_k)=true)
 {f_l:Addr} {od_l an_l:Option Addr} {sl_l:Array (Option Lx)} {oc_l kV_l dc_l pm_l cd_l ct_l:Lx}
 (a_l:PySem.W.nsIn K mainGlobals "_law_heads"=some (some (.ref f_l))) (l_l:K.lookup f_l=some ⟨oc_l,od_l,.func (PySem.W.fnOf "_law_heads" "_law_heads" (defArgs s__law_heads) (defBody s__law_heads) (defScope s__law_heads) .none kV_l dc_l pm_l an_l cd_l ct_l),sl_l⟩) (c_l:PySem.W.codeIn K cd_l "_law_heads"=true) (k_l:PySem.W.keepIn K (.ref f_l)=true)
 {f_m:Addr} {od_m an_m:Option Addr} {sl_m:Array (Option Lx)} {oc_m kV_m dc_m pm_m cd_m ct_m:Lx}
 (a_m:PySem.W.nsIn K mainGlobals "_law_ended"=some (some (.ref f_m))) (l_m:K.lookup f_m=some ⟨oc_m,od_m,.func (PySem.W.fnOf "_law_ended" "_law_ended" (defArgs s__law_ended) (defBody s__law_ended) (defScope s__law_ended) .none kV_m dc_m pm_m an_m cd_m ct_m),sl_m⟩) (c_m:PySem.W.codeIn K cd_m "_law_ended"=true) (k_m:PySem.W.keepIn K (.ref f_m)=true)
 {f_n:Addr} {od_n an_n:Option Addr} {sl_n:Array (Option Lx)} {oc_n kV_n dc_n pm_n cd_n ct_n:Lx}
 (a_n:PySem.W.nsIn K mainGlobals "law"=some (some (.ref f_n))) (l_n:K.lookup f_n=some ⟨oc_n,od_n,.func (PySem.W.fnOf "law" "law" (defArgs s_law) (defBody s_law) (defScope s_law) .none kV_n dc_n pm_n an_n cd_n ct_n),sl_n⟩) (c_n:PySem.W.codeIn K cd_n "law"=true) (k_n:PySem.W.keepIn K (.ref f_n)=true)
 (z_all:PySem.W.nsIn K mainGlobals "all"=some none)
 (z_any:PySem.W.nsIn K mainGlobals "any"=some none)
 (z_bool:PySem.W.nsIn K mainGlobals "bool"=some none)
 (z_int:PySem.W.nsIn K mainGlobals "int"=some none)
 (z_isinstance:PySem.W.nsIn K mainGlobals "isinstance"=some none)
 (z_len:PySem.W.nsIn K mainGlobals "len"=some none)
 (z_list:PySem.W.nsIn K mainGlobals "list"=some none)
 (z_range:PySem.W.nsIn K mainGlobals "range"=some none)
 (z_reversed:PySem.W.nsIn K mainGlobals "reversed"=some none)
 (z_set:PySem.W.nsIn K mainGlobals "set"=some none)
 (z_sorted:PySem.W.nsIn K mainGlobals "sorted"=some none)
 (z_tuple:PySem.W.nsIn K mainGlobals "tuple"=some none)
 : ∃ t:Tx KK mg,t.f_n=f_n:=
 ⟨⟨f_a,_,⟨aF (st:=s__law_cell_at) (U.look _ _ l_a (fun _ _ z=>nomatch z)) (U.code c_a) (U.keep l_a),(aF (st:=s__law_cell_at) (U.look _ _ l_a (fun _ _ z=>nomatch z)) (U.code c_a) (U.keep l_a)).binds (ps:=P__law_cell_at) fun _ _ _ _ _ _ us hl=>Dt (Q:=fun us=>bindArgs _ ⟨us,[]⟩=pure (List.zip P__law_cell_at us)) hl fun _ _=>rfl,Jh X G a_a⟩,
   f_b,_,⟨aF (st:=s__law_head) (U.look _ _ l_b (fun _ _ z=>nomatch z)) (U.code c_b) (U.keep l_b),(aF (st:=s__law_head) (U.look _ _ l_b (fun _ _ z=>nomatch z)) (U.code c_b) (U.keep l_b)).binds (ps:=P__law_head) fun _ _ _ _ _ _ us hl=>Ae (Q:=fun us=>bindArgs _ ⟨us,[]⟩=pure (List.zip P__law_head us)) hl fun _ _ _=>rfl,Jh X G a_b⟩,
   f_c,_,⟨aF (st:=s_formed) (U.look _ _ l_c (fun _ _ z=>nomatch z)) (U.code c_c) (U.keep l_c),(aF (st:=s_formed) (U.look _ _ l_c (fun _ _ z=>nomatch z)) (U.code c_c) (U.keep l_c)).binds (ps:=P_formed) fun _ _ _ _ _ _ us hl=>Ae (Q:=fun us=>bindArgs _ ⟨us,[]⟩=pure (List.zip P_formed us)) hl fun _ _ _=>rfl,Jh X G a_c⟩,
   f_d,_,⟨aF (st:=s_heading) (U.look _ _ l_d (fun _ _ z=>nomatch z)) (U.code c_d) (U.keep l_d),(aF (st:=s_heading) (U.look _ _ l_d (fun _ _ z=>nomatch z)) (U.code c_d) (U.keep l_d)).binds (ps:=P_heading) fun _ _ _ _ _ _ us hl=>Dt (Q:=fun us=>bindArgs _ ⟨us,[]⟩=pure (List.zip P_heading us)) hl fun _ _=>rfl,Jh X G a_d⟩,
   f_e,_,⟨aF (st:=s__law_whole) (U.look _ _ l_e (fun _ _ z=>nomatch z)) (U.code c_e) (U.keep l_e),(aF (st:=s__law_whole) (U.look _ _ l_e (fun _ _ z=>nomatch z)) (U.code c_e) (U.keep l_e)).binds (ps:=P__law_whole) fun _ _ _ _ _ _ us hl=>Ad (Q:=fun us=>bindArgs _ ⟨us,[]⟩=pure (List.zip P__law_whole us)) hl fun _=>rfl,Jh X G a_e⟩,
   f_f,_,⟨aF (st:=s__law_machine) (U.look _ _ l_f (fun _ _ z=>nomatch z)) (U.code c_f) (U.keep l_f),(aF (st:=s__law_machine) (U.look _ _ l_f (fun _ _ z=>nomatch z)) (U.code c_f) (U.keep l_f)).binds (ps:=P__law_machine) fun _ _ _ _ _ _ us hl=>Ae (Q:=fun us=>bindArgs _ ⟨us,[]⟩=pure (List.zip P__law_machine us)) hl fun _ _ _=>rfl,Jh X G a_f⟩,
   f_g,_,⟨aF (st:=s_ending) (U.look _ _ l_g (fun _ _ z=>nomatch z)) (U.code c_g) (U.keep l_g),(aF (st:=s_ending) (U.look _ _ l_g (fun _ _ z=>nomatch z)) (U.code c_g) (U.keep l_g)).binds (ps:=P_ending) fun _ _ _ _ _ _ us hl=>Dt (Q:=fun us=>bindArgs _ ⟨us,[]⟩=pure (List.zip P_ending us)) hl fun _ _=>rfl,Jh X G a_g⟩,
   f_h,_,⟨aF (st:=s__law_outs) (U.look _ _ l_h (fun _ _ z=>nomatch z)) (U.code c_h) (U.keep l_h),(aF (st:=s__law_outs) (U.look _ _ l_h (fun _ _ z=>nomatch z)) (U.code c_h) (U.keep l_h)).binds (ps:=P__law_outs) fun _ _ _ _ _ _ us hl=>Ad (Q:=fun us=>bindArgs _ ⟨us,[]⟩=pure (List.zip P__law_outs us)) hl fun _=>rfl,Jh X G a_h⟩,
   f_i,_,⟨aF (st:=s__law_live) (U.look _ _ l_i (fun _ _ z=>nomatch z)) (U.code c_i) (U.keep l_i),(aF (st:=s__law_live) (U.look _ _ l_i (fun _ _ z=>nomatch z)) (U.code c_i) (U.keep l_i)).binds (ps:=P__law_live) fun _ _ _ _ _ _ us hl=>Ad (Q:=fun us=>bindArgs _ ⟨us,[]⟩=pure (List.zip P__law_live us)) hl fun _=>rfl,Jh X G a_i⟩,
   f_j,_,⟨aF (st:=s__law_there) (U.look _ _ l_j (fun _ _ z=>nomatch z)) (U.code c_j) (U.keep l_j),(aF (st:=s__law_there) (U.look _ _ l_j (fun _ _ z=>nomatch z)) (U.code c_j) (U.keep l_j)).binds (ps:=P__law_there) fun _ _ _ _ _ _ us hl=>Ae (Q:=fun us=>bindArgs _ ⟨us,[]⟩=pure (List.zip P__law_there us)) hl fun _ _ _=>rfl,Jh X G a_j⟩,
   f_k,_,⟨aF (st:=s__law_always) (U.look _ _ l_k (fun _ _ z=>nomatch z)) (U.code c_k) (U.keep l_k),(aF (st:=s__law_always) (U.look _ _ l_k (fun _ _ z=>nomatch z)) (U.code c_k) (U.keep l_k)).binds (ps:=P__law_always) fun _ _ _ _ _ _ us hl=>Du (Q:=fun us=>bindArgs _ ⟨us,[]⟩=pure (List.zip P__law_always us)) hl fun _ _ _ _=>rfl,Jh X G a_k⟩,
   f_l,_,⟨aF (st:=s__law_heads) (U.look _ _ l_l (fun _ _ z=>nomatch z)) (U.code c_l) (U.keep l_l),(aF (st:=s__law_heads) (U.look _ _ l_l (fun _ _ z=>nomatch z)) (U.code c_l) (U.keep l_l)).binds (ps:=P__law_heads) fun _ _ _ _ _ _ us hl=>Du (Q:=fun us=>bindArgs _ ⟨us,[]⟩=pure (List.zip P__law_heads us)) hl fun _ _ _ _=>rfl,Jh X G a_l⟩,
   f_m,_,⟨aF (st:=s__law_ended) (U.look _ _ l_m (fun _ _ z=>nomatch z)) (U.code c_m) (U.keep l_m),(aF (st:=s__law_ended) (U.look _ _ l_m (fun _ _ z=>nomatch z)) (U.code c_m) (U.keep l_m)).binds (ps:=P__law_ended) fun _ _ _ _ _ _ us hl=>Du (Q:=fun us=>bindArgs _ ⟨us,[]⟩=pure (List.zip P__law_ended us)) hl fun _ _ _ _=>rfl,Jh X G a_m⟩,
   f_n,_,⟨aF (st:=s_law) (U.look _ _ l_n (fun _ _ z=>nomatch z)) (U.code c_n) (U.keep l_n),(aF (st:=s_law) (U.look _ _ l_n (fun _ _ z=>nomatch z)) (U.code c_n) (U.keep l_n)).binds (ps:=P_law) fun _ _ _ _ _ _ us hl=>Ad (Q:=fun us=>bindArgs _ ⟨us,[]⟩=pure (List.zip P_law us)) hl fun _=>rfl,Jh X G a_n⟩,
   IL X G z_all,
   IL X G z_any,
   IL X G z_bool,
   IL X G z_int,
   IL X G z_isinstance,
   IL X G z_len,
   IL X G z_list,
   IL X G z_range,
   IL X G z_reversed,
   IL X G z_set,
   IL X G z_sorted,
   IL X G z_tuple⟩,rfl⟩
theorem Dv {l:PySem.W.OpenLaw} {w:World} {K:Lu} {mg:Str->Option Lx} {fa:Addr} (hfa:mg "law"=some (.ref fa)) (T:∃ t:Tx K mg,True) :
 ∃ fd:FuncData,(∀(s:Ls)(v:Lx),BindsTo s fd ⟨[v],[]⟩ [("_law_script",v)])/\∀ base:Heap,FnOk l.prog w K mg base kc 4 fa fd ["_law_script"] (F0 lJ):=by
 obtain⟨t,_⟩:=T;have e:=hfa.symm.trans t.h_n.gl;cases e;obtain⟨oc,od,kV,doc,pm,an,cdv,ct,osl,efd,lk,hcd⟩:=t.h_n.fu.ex;exact⟨t.fd_n,fun s v=>by rw[efd];exact .of_eq rfl,fun base=>FnOk.top (Ds t)⟩
end W
namespace W
open PySem L2 L3
theorem sA (ns:List Int)(k:Int)(h0:0<=k)(h1:-18446744073709551616<k)(h2:k<18446744073709551616):aK [.lst (ns.map .int),.int k]=.ok (.val (.int (cell ns k)) true []):=by
 by_cases h:k<ns.length
 .have hd:decide (k<(ns.length:Int))=true:=HG h;obtain⟨a,ea,_⟩:=Dr h0 h;have ha:atI (ns.map D.int) k=some (.int a):=by rw[Ac,ea];rfl
  simp_arith[aK,cN,HA,hd,ha,h1,h2];unfold cell;rw[Hx h,ea];rfl
 .have hd:decide (k<(ns.length:Int))=false:=HF h;simp_arith[aK,cN,HA,hd];unfold cell;rw[Hz h]
theorem A3 (ns:List Int):aK [.lst (ns.map .int),.int 0]=.ok (.val (.int (cell ns 0)) true []):=sA ns 0 (by decide) (by decide) (by decide)
theorem FH (ns:List Int):aK [.lst (ns.map .int),.int 1]=.ok (.val (.int (cell ns 1)) true []):=sA ns 1 (by decide) (by decide) (by decide)
noncomputable def tD (t:Tri):D:=.tup [.int t.1,.int t.2.1,.int t.2.2]
theorem Af (t:Tri):(tD t).flat=true:=(rfl)
theorem Dw (t:Tri):(tD t).dep<=1:=HB _
noncomputable def pD (p:IP):D:=.tup [.int p.1,.int p.2]
theorem mV (p:IP):(pD p).flat=true:=(rfl)
theorem qz (p:IP):(pD p).dep<=1:=HB _
noncomputable def cU (c r g:Int):IP:=
 let c:=(c % 2147483629+5)*69621 % 2147483629
 (c % r,c / r % g)
theorem Ag (c r g:Int)(h1:0<r)(h2:r<1073741824)(h3:0<g)(h4:g<1073741824):db [.int c,.int r,.int g]=.ok (.val (pD (cU c r g)) true []):=by simp_arith[db,iC,h1,h2,h3,h4];rfl
def Mc (n:Int)(ts:List Tri)(es:List Int):D:=.tup [.int n,.lst (ts.map tD),.lst (es.map .int)]
theorem dN (n:Int)(ts:List Tri)(es:List Int):(Mc n ts es).flat=false:=by unfold Mc;simp only[ot,f9,jQ,ou,Bool.true_and,KF]
noncomputable def xE:List Int->Tri
 | [a,b,c]=>(a,b,c)
 |_=>(0,0,0)
noncomputable def mW (t:Tri):List Int:=[t.1,t.2.1,t.2.2]
theorem sB (k:List Int):∀ l,(jE k l).length<=l.length+1
 | []=>by simp[jE]
 |h::t=>by
  have:=sB k t;unfold jE;split
  .simp
  .split<;>simp<;>omega
theorem oR:∀ ks,(bT ks).length<=ks.length
 | []=>HB _
 |k::r=>by have h1:=sB k (bT r);have h2:=oR r;unfold bT;simp only[IE];omega
def arrsOf (ts:List Tri):List Tri:=(bT (ts.map mW)).map xE
theorem oS (ts:List Tri):(arrsOf ts).length<=ts.length:=by have:=oR (ts.map mW);unfold arrsOf;rw[HA];rw[HA]at this;exact this
theorem Ah (ts:List Tri):(bT (ts.map mW)).map oh=(arrsOf ts).map tD:=by unfold arrsOf;rw[ID];refine J4 fun k hk=>?_;obtain⟨t,_,rfl⟩:=HY.mp ((dw k _).mp hk);rfl
theorem sC (ts:List Tri)(h:ts.length<=300){r:R}(hr:r.d=.lst (ts.map tD)):ua r=.ok (.new ((arrsOf ts).map tD) true):=by
 have e:r.d=.lst ((ts.map mW).map oh):=by rw[hr,ID];rfl
 rw[Di e (by rw[HA];exact h) (by rw[List.all_map,Jn];intro t _;rfl),Ah]
theorem lL (n:Int)(ts:List Tri)(es:List Int)(h1:ts.length<=300)(h2:es.length<=300):cO [.int n,.lst (ts.map tD),.lst (es.map .int)]=.ok (.val (Mc n (arrsOf ts) (sortI es)) true []):=by simp_arith[cO,oD,sC ts h1 (aA _ _ _),xn (aA _ _ _) h2];rfl
noncomputable def oZ (e:Int)(hs:List IP):List Tri:=hs.map fun p=>(p.1,p.2,e)
noncomputable def o6 (e:Int)(g:Nat):List Tri:=(List.range g).map fun k=>(e,((k:Nat):Int),e)
theorem ux {e0 e1 e3 e4:Option Sl}{e:Int}{g fr:Bool}(hs:List IP)(hl:hs.length<=1000000) :
 fO 2 [2] (gT 2 (bM (gN 0) (bM (gN 1) lr))) (fun _=>.ok true) cf [e0,e1,some (.val (.int e) g),e3,e4] ⟨hs.map pD,fr,[]⟩=.ok (.new ((oZ e hs).map tD) true):=by
 have h:=cD (mk:=fun d=>gT 2 (bM (gN 0) (bM (gN 1) lr)) d fr (dt [e0,e1,some (.val (.int e) g),e3,e4] 2 [2])) (test:=fun _=>.ok true)
  (elt:=cf) pD (fun p=>.val (tD (p.1,p.2,e)) true []) hs fun p hp=>⟨_,rfl,rfl,by show cf [some (.val (.int p.1) fr),some (.val (.int p.2) fr),some (.val (.int e) g)]=_;simp_arith[cf];rfl⟩
 rw[gI (by rw[HA];exact hl) h,xB,jT];rw[mL (bX _ _ fun c=>rfl)];unfold oZ;rw[ID];rfl
theorem mX {e0 e1 e3 e4:Option Sl}{e:Int}{g fr:Bool}(n:Nat)(hn:n<=1000000) :
 fO 1 [2] (gN 0) (fun _=>.ok true) cg [e0,e1,some (.val (.int e) g),e3,e4] ⟨c8 0 n,fr,[]⟩=.ok (.new ((o6 e n).map tD) true):=by
 have h:=cD (mk:=fun d=>gN 0 d fr (dt [e0,e1,some (.val (.int e) g),e3,e4] 1 [2])) (test:=fun _=>.ok true)
  (elt:=cg) (fun k:Nat=>D.int k) (fun k=>.val (tD (e,((k:Nat):Int),e)) true []) (List.range n) fun k hk=>⟨_,rfl,rfl,by show cg [some (.val (.int (k:Nat)) fr),some (.val (.int e) g)]=_;simp_arith[cg];rfl⟩
 rw[dM,gI (by rw[HA,Lh];exact hn) h,xB,jT,mL (bX _ _ fun c=>rfl)];unfold o6;rw[ID];rfl
theorem mY (e:Int)(hs:List IP)(g:Nat):(oZ e hs++o6 e g).length=hs.length+g:=by unfold oZ o6;rw[Ig,HA,HA,Lh]
theorem qA (r:Int)(g:Nat)(hs:List IP)(hl:hs.length<=30)(hg:g<=40) :
 fA [.tup [.int r,.int g,.lst []],.lst (hs.map pD)]=.ok (.fre (Mc (r+1) (arrsOf (oZ r hs++o6 r g)) [r])):=by
 have h1:((g:Int)).toNat=g:=Kh g;have m1:(-4611686018427387904:Int)<=(g:Int):=by omega
 have m2:(g:Int)<4611686018427387904:=by omega
 have e:cO [.int (r+1),.lst (((oZ r hs).map tD)++((o6 r g).map tD)),.lst [.int r]]=.ok (.val (Mc (r+1) (arrsOf (oZ r hs++o6 r g)) [r]) true []):=by have:=lL (r+1) (oZ r hs++o6 r g) [r] (by rw[mY];omega) (by simp);rw[IU]at this;exact this
 have fl:D.flats (((oZ r hs).map tD)++((o6 r g).map tD))=true:=by rw[<- IU];exact bX _ _ Af
 have bg:(List.map tD (oZ r hs)).length+(List.map tD (o6 r g)).length<=1000000:=by have:=mY r hs g;rw[Ig]at this;rw[HA,HA];omega
 simp_arith[fA,lI,ux hs (by omega),mX g (by omega),h1,jP,m1,m2,e,dN,fl,Cw bg]
theorem uy (r:Int)(g:Nat)(es:List Int)(h2:es.length<=300) :
 gR [.tup [.int r,.int g,.lst []],.lst (es.map .int)]=.ok (.fre (Mc r [] (sortI es))):=by
 have e:cO [.int r,.lst [],.lst (es.map .int)]=.ok (.val (Mc r [] (sortI es)) true []):=lL r [] es (by simp) h2;simp_arith[gR,oF,e,dN]
end W
namespace L3
open PySem L2
theorem sD (k1 k2:R->R->Res R)(fa fb fc:En->Res R)(env:En):f6 k1 k2 fa fb fc env=(fa env).bind fun ra=>(fb env).bind fun rb=>(k1 ra rb).bind (EG k2 fc env rb):=(rfl)
theorem xF {k2:R->R->Res R}{fc:En->Res R}{env:En}{rb:R}{f:Bool}{al:List Nat}:EG k2 fc env rb (.val (.bl true) f al)=(fc env).bind fun rc=>k2 rb rc:=(rfl)
theorem lM:∀ ks:List (List Int),ks.Pairwise (fun x y=>lexB x y=true)->bT ks=ks
 | [],_=>rfl
 |k::r,h=>by
  have h':=Iw.mp h;unfold bT;rw[lM r h'.2];cases r with
  |nil=>rfl
  |cons a r=>
   have q:=h'.1 a HW;have n:¬ k=a:=fun e=>by rw[e,dD]at q;cases q
   show(if k=a then a::r else if lexB k a=true then k::a::r else a::jE k r)=_;rw[Hz n,Hx q]
theorem qB:∀ ks:List Int,ks.Pairwise (·< ·)->sortI ks=ks
 | [],_=>rfl
 |k::r,h=>c_ _ _ (eR _) h fun x=>cC x _
end L3
namespace W
open PySem L2 L3
theorem qC (t:Tri):xE (mW t)=t:=(rfl)
theorem xG (ts:List Tri)(t:Tri):t∈arrsOf ts↔t∈ts:=by
 unfold arrsOf;constructor
 .intro h;obtain⟨l,hl,rfl⟩:=HY.mp h;obtain⟨u,hu,rfl⟩:=HY.mp ((dw l _).mp hl);rw[qC];exact hu
 .intro h;exact HY.mpr ⟨mW t,(dw _ _).mpr (HY.mpr ⟨t,h,rfl⟩),rfl⟩
theorem uz (ts:List Tri):(arrsOf ts).map mW=bT (ts.map mW):=by unfold arrsOf;rw[ID];refine Eq.trans (J4 fun k hk=>?_) (List.map_id _);obtain⟨t,_,rfl⟩:=HY.mp ((dw k _).mp hk);rfl
theorem uA (ts:List Tri):arrsOf (arrsOf ts)=arrsOf ts:=by show(bT ((arrsOf ts).map mW)).map xE=_;rw[uz,lM _ (mK _)];rfl
structure Good (n r g:Int) (ts:List Tri) (es:List Int):Prop where
 low:r<=n
 arr:∀ t∈ts,0<=t.1/\t.1<n/\0<=t.2.1/\t.2.1<g/\r<=t.2.2/\t.2.2<n
 ends:∀ e∈es,0<=e/\e<n
 srt:arrsOf ts=ts
 sre:sortI es=es
 l1:ts.length<=300
 l2:es.length<=300
theorem ic (x:Int):bv [.int x]=.ok (.val (.bl true) true []):=by simp_arith[bv,gQ]
theorem uB {env:En}{fr:Bool}(t:Tri):fO 1 [] (gN 0) (fun _=>.ok true) aO env ⟨[.int t.1,.int t.2.1,.int t.2.2],fr,[]⟩=.ok (.new [.bl true,.bl true,.bl true] true):=by
 have h:=cD (mk:=fun d=>gN 0 d fr (dt env 1 [])) (test:=fun _=>.ok true)
  (elt:=aO) D.int (fun c=>.val (.bl true) true []) [t.1,t.2.1,t.2.2] fun c hc=>⟨_,rfl,rfl,by show aO [some (.val (.int c) fr)]=_;simp_arith[aO,ic]⟩
 rw[gI (xs:=[.int t.1,.int t.2.1,.int t.2.2]) (by show 3<=1000000;omega) h];rfl
noncomputable def mZ (M:D)(f:Bool)(r g:Int)(e3 e4:Option Sl):En:=[some (.val M f),some (.val (.int r) false),some (.val (.int g) false),e3,e4]
theorem Dx {n r g:Int}{ts:List Tri}{es:List Int}(G:Good n r g ts es){f fr:Bool}{e3 e4:Option Sl}:∃ e3',bS (gN 3) fr ba (ts.map tD) (mZ (Mc n ts es) f r g e3 e4)=.ok (.nx (mZ (Mc n ts es) f r g e3' e4)):=by
 obtain⟨az,h1,e3',h2⟩:=ce tD (asg:=gN 3) (fr:=fr) (body:=ba) (fun _ env=>∃ e3,env=mZ (Mc n ts es) f r g e3 e4) ts [] _ ⟨e3,rfl⟩ (fun pre post t env _ hp ht=>by
  obtain⟨e3,rfl⟩:=hp;refine⟨_,mZ (Mc n ts es) f r g (some (.val (tD t) fr)) e4,rfl,?_,_,rfl⟩;obtain⟨a1,a2,a3,a4,a5,a6⟩:=G.arr t ht;have d1:=HG a1;have d2:=HG a2;have d3:=HG a3;have d4:=HG a4;have d5:=HG a5;have d6:=HG a6;show ba [some (.val (Mc n ts es) f),some (.val (.int r) false),some (.val (.int g) false),some (.val (tD t) fr),e4]=.ok (.nx [some (.val (Mc n ts es) f),some (.val (.int r) false),some (.val (.int g) false),some (.val (tD t) fr),e4]);unfold tD Mc;have hv:ai 3 [some (.val (.tup [.int n,.lst (ts.map tD),.lst (es.map .int)]) f),some (.val (.int r) false),some (.val (.int g) false),some (.val (.tup [.int t.1,.int t.2.1,.int t.2.2]) fr),e4]=.ok (.val (.tup [.int t.1,.int t.2.1,.int t.2.2]) true []):=by simp_arith
  have hc:=gM (n:=1) (caps:=[]) (asg:=gN 0) (ft:=fun _=>.ok true) (fe:=aO) hv;have ha:Fq (.lst [.bl true,.bl true,.bl true])=.ok (.val (.bl true) true []):=rfl;simp_arith[ba,sD,xF,d1,d2,d3,d4,d5,d6,wG,uB t,hc,ha])
 exact⟨e3',by rw[h1,h2]⟩
theorem Dy {n r g:Int}{ts:List Tri}{es:List Int}(G:Good n r g ts es){f fr:Bool}{e3 e4:Option Sl}:∃ e4',bS (gN 4) fr bb (es.map .int) (mZ (Mc n ts es) f r g e3 e4)=.ok (.nx (mZ (Mc n ts es) f r g e3 e4')):=by obtain⟨az,h1,e4',h2⟩:=ce D.int (asg:=gN 4) (fr:=fr) (body:=bb) (fun _ env=>∃ e4,env=mZ (Mc n ts es) f r g e3 e4) es [] _ ⟨e4,rfl⟩ (fun pre post e env _ hp he=>by obtain⟨e4,rfl⟩:=hp;refine⟨_,mZ (Mc n ts es) f r g e3 (some (.val (.int e) fr)),rfl,?_,_,rfl⟩;obtain⟨a1,a2⟩:=G.ends e he;have d1:=HG a1;have d2:=HG a2;show bb [some (.val (Mc n ts es) f),some (.val (.int r) false),some (.val (.int g) false),e3,some (.val (.int e) fr)]=.ok (.nx [some (.val (Mc n ts es) f),some (.val (.int r) false),some (.val (.int g) false),e3,some (.val (.int e) fr)]);unfold Mc;simp_arith[bb,sD,xF,d1,d2,ic]);exact⟨e4',by rw[h1,h2]⟩
theorem Ai (ts:List Tri):D.deps (ts.map tD)<=1:=gO Dw
theorem jW {n r g:Int}{ts:List Tri}{es:List Int}(G:Good n r g ts es):br [Mc n ts es,.int r,.int g]=.ok (.val (.bl true) true []):=by
 have d0:decide (n<r)=false:=HF (by have:=G.low;omega);obtain⟨e3,h1⟩:=Dx G (f:=false) (fr:=false) (e3:=none) (e4:=none);obtain⟨e4,h2⟩:=Dy G (f:=false) (fr:=false) (e3:=e3) (e4:=none);unfold mZ Mc at h1 h2;have q1:∀ f al,ua (.val (.lst (ts.map tD)) f al)=.ok (.new (ts.map tD) true):=fun f al=>by rw[sC ts G.l1 (aA _ _ _),G.srt]
 have q2:∀ f al,ud (.val (.lst (es.map .int)) f al)=.ok (.new (es.map .int) true):=fun f al=>by rw[xn (aA _ _ _) G.l2,G.sre]
 have p1:(D.lst (ts.map tD)).dep<=50:=by rw[gJ];have:=Ai ts;omega
 have p2:(D.lst (es.map .int)).dep<=50:=by rw[gJ];have:=fy es;omega
 have n1:rh (.val (.lst (ts.map tD)) false []) (.new (ts.map tD) true)=.ok (.val (.bl false) true []):=by rw[wG (by rw[aA];exact p1) (by rw[gK];exact p1),aA,gK,bK];rfl
 have n2:vS (.val (.lst (es.map .int)) false []) (.new (es.map .int) true)=.ok (.val (.bl true) true []):=by rw[wF (by rw[aA];exact p2) (by rw[gK];exact p2),aA,gK,bK]
 simp_arith[br,eU,Mc,d0,wG,ic,h1,h2,q1,q2,n1,n2]
theorem oT (k:Int):∀ l,(jL k l).length<=l.length+1
 | []=>by simp[jL]
 |h::t=>by
  have:=oT k t;unfold jL;split
  .simp
  .split<;>simp<;>omega
theorem fC:∀ ks,(sortI ks).length<=ks.length
 | []=>HB _
 |k::r=>by have h1:=oT k (sortI r);have h2:=fC r;unfold sortI;simp only[IE];omega
abbrev lN (r:Int)(g:Nat)(hs:List IP):List Tri:=arrsOf (oZ r hs++o6 r g)
theorem g5 (r:Int)(g:Nat)(hs:List IP)(t:Tri):t∈lN r g hs↔(∃ p∈hs,t=(p.1,p.2,r))\/∃ k,k<g/\t=(r,((k:Nat):Int),r):=by rw[xG,H_];unfold oZ o6;rw[HY,HY];refine or_congr ⟨fun⟨p,h,e⟩=>⟨p,h,e.symm⟩,fun⟨p,h,e⟩=>⟨p,h,e.symm⟩⟩ ⟨fun⟨k,h,e⟩=>⟨k,IB.mp h,e.symm⟩,fun⟨k,h,e⟩=>⟨k,IB.mpr h,e.symm⟩⟩
structure InB (r g:Int) (hs:List IP):Prop where
 box:∀ p∈hs,0<=p.1/\p.1<r/\0<=p.2/\p.2<g
theorem m5 {r:Int}{g:Nat}{hs:List IP}(h0:0<=r)(hb:InB r g hs)(hl:hs.length<=30)(hg:g<=40):Good (r+1) r g (lN r g hs) [r] where
 low:=by omega
 arr:=fun t ht=>by
  rcases (g5 r g hs t).mp ht with⟨p,hp,rfl⟩|⟨k,hk,rfl⟩
  .obtain⟨a,b,c,d⟩:=hb.box p hp;refine⟨a,?_,c,d,Int.le_refl _,?_⟩
   .show p.1<r+1;omega
   .show r<r+1;omega
  .refine⟨h0,?_,?_,?_,Int.le_refl _,?_⟩
   .show r<r+1;omega
   .show(0:Int)<=(k:Int);omega
   .show(k:Int)<g;omega
   .show r<r+1;omega
 ends:=fun e he=>by
  obtain rfl:e=r:=by simpa using he
  omega
 srt:=uA _
 sre:=rfl
 l1:=by have:=oS (oZ r hs++o6 r g);rw[mY]at this;show(arrsOf (oZ r hs++o6 r g)).length<=300;omega
 l2:=by simp
theorem oU {r:Int}{g:Nat}{es:List Int}(he:∀ e∈es,0<=e/\e<r)(hl:es.length<=300):Good r r g [] (sortI es) where
 low:=Int.le_refl _
 arr:=fun t ht=>by cases ht
 ends:=fun e h=>he e ((cC e es).mp h)
 srt:=rfl
 sre:=qB _ (eR es)
 l1:=by simp
 l2:=HS (fC es) hl
theorem oV:∀ ts:List Tri,eO (ts.map tD)=some ts
 | []=>rfl
 |t::r=>by rw[HL];unfold eO;rw[oV r];rfl
theorem sE {n:Int}{ts:List Tri}{es:List Int}(h:ts.length<=1000):ci [Mc n ts es]=.ok (.val (bx ts) true [1]):=by
 have q:∀ env f,env.length=5->uf 1 2 3 4 env (.val (.lst (ts.map tD)) f [])=.ok (.nx (((((frz env []).set 2 none).set 3 none).set 4 none).set 1 (some (.tre (bx ts))))):=fun env f he=>by unfold uf;rw[aA];dsimp only;rw[oV];dsimp only;rw[Hx ⟨h,by rw[oz];exact JC,by decide,by decide,by decide,by decide,by decide,by decide,by omega,by omega,by omega⟩];rfl
 have q1:=q [some (.val (.tup [.int n,.lst (ts.map tD),.lst (es.map .int)]) false),some (.tre (.dic [] [])),none,none,none] false rfl;have fg:(bx ts).flat=false:=rfl;simp_arith[ci,iE,Mc,q1,fg]
theorem m7 {i:Nat}{fk:En->Res R}{env:En}{ks:List Int}{x:Int}{f:Bool}{al:List Nat}(he:env[i]?=some (some (.tre (bD ks))))(hk:fk env=.ok (.val (.int x) f al))(hl:ks.length<1000000) :
 gA i fk (vC (.bl true)) env=.ok (.nx (env.set i (some (.tre (bD (dd ks x)))))):=by
 rw[xl,he];show eJ i fk (vC (.bl true)) env (some (some (.tre (.dic (ks.map ik) (ks.map fun _=>.bl true)))))=_;rw[rZ,xk,he];show putAt i fk (vC (.bl true)) env (some (some (.tre (.dic (ks.map ik) (ks.map fun _=>.bl true)))))=_;rw[rY,GJ,cv,zQ rfl,hk,cv,zR (x:=.inl (.inl x)) rfl (sf x ks) (by rw[HA];exact hl),aA,xr]
def uH (e:Int)(ts:List Tri):Prop:=∀ t∈ts,t.2.2=e
theorem Dz {e:Int}{ts:List Tri}(h:uH e ts)(x y:Int):∀ z∈g3 ts x y,z=e:=fun z hz=>by unfold g3 at hz;obtain⟨t,ht,rfl⟩:=HY.mp hz;exact h t (J_.mp ht).1
theorem g3_ne {ts:List Tri}{x y:Int}:g3 ts x y≠[]↔(x,y)∈h1 ts:=by
 constructor
 .intro h;by_cases hh:(x,y)∈h1 ts
  .exact hh
  .exact(h (i7 hh)).elim
 .intro h e;obtain⟨t,ht,a,b⟩:=(qu ts (x,y)).mp h;have:t.2.2∈g3 ts x y:=by unfold g3;exact HY.mpr ⟨t,J_.mpr ⟨ht,by simp[a,b]⟩,rfl⟩
  rw[e]at this;cases this
theorem oW (ts:List Tri)(p:IP):∀ l:List IP,getD (l.map fun p=>(.inr (pk p):DK)) (l.map fun p=>D.lst ((g3 ts p.1 p.2).map .int)) (.inr (pk p))=if p∈l then some (.lst ((g3 ts p.1 p.2).map .int)) else none
 | []=>rfl
 |q::r=>by
  rw[HL,HL];unfold getD;rw[oW ts p r];by_cases h:q=p
  .rw[Hx (by rw[h]),Hx (by simp[h]),h]
  .rw[Hz (show ¬ (Sum.inr (pk q):DK)=.inr (pk p) from fun e=>h (ql (KY e)))];by_cases h2:p∈r
   .rw[Hx h2,Hx (by simp[h2])]
   .rw[Hz h2,Hz (by simp[h2];exact fun e=>h e.symm)]
theorem DA {env:En}{fa fk:En->Res R}{ts:List Tri}{x y:Int}{f fk':Bool}{al:List Nat}(ha:fa env=.ok (.val (bx ts) f []))(hk:fk env=.ok (.val (.tup [.int x,.int y]) fk' al)) :
 ∃ f',og fa fk (iI aw) env=.ok (.val (.lst ((g3 ts x y).map .int)) f' []):=by
 have hc:((h1 ts).map (fun p=>(.inr (pk p):DK))).all (kin (.inr (pk (x,y))))=true:=by rw[List.all_map,Jn];intro p _;rfl
 rw[xm,ha,cv,Fx (show(R.val (bx ts) f []).d=.dic ((h1 ts).map fun p=>.inr (pk p)) ((h1 ts).map fun p=>.lst ((g3 ts p.1 p.2).map .int)) from rfl),hk,cv,A1];have e0:iI aw env=.ok (.new [] true):=rfl;rw[e0,cv];unfold F1;have hx:keyX (R.val (.tup [.int x,.int y]) fk' al).d=some (.inr (pk (x,y))):=rfl;rw[hx];dsimp only;rw[Hx hc,oW ts (x,y)];by_cases h:(x,y)∈h1 ts
 .rw[Hx h];exact⟨f,rfl⟩
 .rw[Hz h,i7 h];exact⟨_,rfl⟩
theorem Aj {f:En->Res R}{asg:D->Bool->En->Option En}{fb:En->Res Fl}{env:En}{ds:List D}{fr:Bool}{al:List Nat}(h:f env=.ok (.val (.tup ds) fr al)):lE f asg fb env=dU (fY f) asg fb env:=by unfold lE;rw[h];rfl
theorem sF {e0 e1 e2 e4:Option Sl}{fr:Bool}:∀(zs ks:List Int)(e5:Option Sl),ks.length+zs.length<1000000->
 ∃ e5',bS (gN 5) fr bO (zs.map .int) [e0,e1,e2,some (.tre (bD ks)),e4,e5]=.ok (.nx [e0,e1,e2,some (.tre (bD (zs.foldl dd ks))),e4,e5'])
 | [],ks,e5,_=>⟨e5,rfl⟩
 |x::r,ks,e5,hl=>by have hd:=jJ ks x;simp only[IE]at hl;obtain⟨e5',h⟩:=sF (e0:=e0) (e1:=e1) (e2:=e2) (e4:=e4) (fr:=fr) r (dd ks x) (some (.val (.int x) fr)) (by omega);refine⟨e5',?_⟩;rw[HL,mM (env1:=[e0,e1,e2,some (.tre (bD ks)),e4,some (.val (.int x) fr)]) rfl];have hm:bO [e0,e1,e2,some (.tre (bD ks)),e4,some (.val (.int x) fr)]=.ok (.nx [e0,e1,e2,some (.tre (bD (dd ks x))),e4,some (.val (.int x) fr)]):=m7 (i:=3) (fk:=ai 5) (x:=x) (f:=true) (al:=[]) rfl (by simp_arith) (by omega);rw[hm,cv,gL,Jt];exact h
theorem sG {e:Int}:∀(zs:List Int),(∀ z∈zs,z=e)->zs.foldl dd [e]=[e]
 | [],_=>rfl
 |z::r,h=>by obtain rfl:=h z (by simp);rw[Jt,show dd [z] z=[z] from by unfold dd;rw[Hx (by simp)]];exact sG r fun y hy=>h y (by simp[hy])
theorem uC {e:Int}(zs:List Int)(h:∀ z∈zs,z=e):zs.foldl dd []=if zs=[] then [] else [e]:=by
 cases zs with
 |nil=>rfl
 |cons z r=>obtain rfl:=h z (by simp);rw[Hz (by simp),Jt];exact sG r fun y hy=>h y (by simp[hy])
def iN (e:Int)(ts:List Tri)(st sg:Int):List Int:=if (st,sg)∈h1 ts then [e] else []
theorem Ak {e:Int}{ts:List Tri}(h:uH e ts)(st sg:Int):(g3 ts st sg).foldl dd []=iN e ts st sg:=by
 rw[uC _ (Dz h st sg)];unfold iN;by_cases q:(st,sg)∈h1 ts
 .rw[Hx q,Hz (g3_ne.mpr q)]
 .rw[Hz q,Hx (i7 q)]
theorem Al (e:Int)(ts:List Tri)(st sg:Int):(iN e ts st sg).length<=1:=by unfold iN;split<;>simp
theorem xH (e:Int)(ts:List Tri)(st sg:Int):sortI (iN e ts st sg)=iN e ts st sg:=by unfold iN;split<;>rfl
theorem jX {e:Int}{ts:List Tri}(h:uH e ts)(hl:ts.length<=300)(st sg:Int):aE [bx ts,.tup [.int st],.int sg]=.ok (.val (.tup ((iN e ts st sg).map .int)) true []):=by
 have hg:(bx ts).flat=false:=rfl;obtain⟨f',hget⟩:=DA (env:=[some (.val (bx ts) false),some (.val (.tup [.int st]) false),some (.val (.int sg) false),some (.tre (bD [])),some (.val (.int st) true),none]) (fa:=ai 0) (fk:=fX (aj (ai 4) (aj (ai 2) aw))) (ts:=ts) (x:=st) (y:=sg) (f:=false) (fk':=true) (al:=[]) (by simp_arith[hg]) (by simp_arith);have g3l:=wu ts st sg;obtain⟨e5,h1⟩:=sF (e0:=some (.val (bx ts) false)) (e1:=some (.val (.tup [.int st]) false)) (e2:=some (.val (.int sg) false)) (e4:=some (.val (.int st) true)) (fr:=f') (g3 ts st sg) [] none (by simp only[JI];omega);rw[Ak h]at h1;have hk:∀ f al,DM [.val (bD (iN e ts st sg)) f al]=.ok (.new ((iN e ts st sg).map .int) true):=fun f al=>by rw[FC (show(R.val (bD (iN e ts st sg)) f al).d=.dic ((iN e ts st sg).map ik) ((iN e ts st sg).map fun _=>.bl true) from rfl) (by have:=Al e ts st sg;omega),xH]
 have hb:cQ [some (.val (bx ts) false),some (.val (.tup [.int st]) false),some (.val (.int sg) false),some (.tre (bD [])),some (.val (.int st) true),none]=.ok (.nx [some (.val (bx ts) false),some (.val (.tup [.int st]) false),some (.val (.int sg) false),some (.tre (bD (iN e ts st sg))),some (.val (.int st) true),e5]):=by show dU (fY (og (ai 0) (fX (aj (ai 4) (aj (ai 2) aw))) (iI aw))) (gN 5) bO _=_;rw[wW,qx,hget];exact h1
 have hv:ai 1 [some (.val (bx ts) false),some (.val (.tup [.int st]) false),some (.val (.int sg) false),some (.tre (bD [])),none,none]=.ok (.val (.tup [.int st]) true []):=by simp_arith
 have hF:lE (ai 1) (gN 4) cQ [some (.val (bx ts) false),some (.val (.tup [.int st]) false),some (.val (.int sg) false),some (.tre (bD [])),none,none]=.ok (.nx [some (.val (bx ts) false),some (.val (.tup [.int st]) false),some (.val (.int sg) false),some (.tre (bD (iN e ts st sg))),some (.val (.int st) true),e5]):=by rw[Aj hv,wW,qx,hv];rw[cv,oq,cv,wX,w6];rw[mM (env1:=[some (.val (bx ts) false),some (.val (.tup [.int st]) false),some (.val (.int sg) false),some (.tre (bD [])),some (.val (.int st) true),none]) rfl,hb,cv,gL,C9]
 have hD:(D.dic [] [])=bD []:=rfl;have hfb:(bD (iN e ts st sg)).flat=false:=rfl;have fi:=dL (iN e ts st sg);have kt:∀ f,mH [.new ((iN e ts st sg).map .int) f]=.ok (mkV (.tup ((iN e ts st sg).map .int)) f []):=fun f=>rfl;simp_arith[aE,gU,hD,hF,hk,hfb,fi,kt]
theorem GW {ks:List Int}{f:Bool}{al:List Nat}(h:ks.length<=1000000):bU [.val (bD ks) f al]=.ok (.val (.int ks.length) true []):=z4 (show(R.val (bD ks) f al).d=.dic (ks.map ik) (ks.map fun _=>.bl true) from rfl) h
theorem A4 {ks:List Int}(h:ks.length<=1000000):r_ (bD ks)=.ok (.val (.int ks.length) true []):=(xo (.val (bD ks) true [])).symm.trans (GW h)
def iO (M:D)(ks:List Int)(e2 e3 e4 e5:Option Sl):En:=[some (.val M false),some (.tre (bD ks)),e2,e3,e4,e5]
theorem xI {M:D}{e3 e4 e5:Option Sl}{fr:Bool}:∀(es ks:List Int)(e2:Option Sl),ks.length+es.length<1000000->
 ∃ e2',bS (gN 2) fr dg (es.map .int) (iO M ks e2 e3 e4 e5)=.ok (.nx (iO M (es.foldl dd ks) e2' e3 e4 e5))
 | [],ks,e2,_=>⟨e2,rfl⟩
 |x::r,ks,e2,hl=>by have hd:=jJ ks x;simp only[IE]at hl;obtain⟨e2',h⟩:=xI (M:=M) (e3:=e3) (e4:=e4) (e5:=e5) (fr:=fr) r (dd ks x) (some (.val (.int x) fr)) (by omega);refine⟨e2',?_⟩;rw[HL,mM (env1:=iO M ks (some (.val (.int x) fr)) e3 e4 e5) rfl];have hm:dg (iO M ks (some (.val (.int x) fr)) e3 e4 e5)=.ok (.nx (iO M (dd ks x) (some (.val (.int x) fr)) e3 e4 e5)):=m7 (i:=1) (fk:=ai 2) (x:=x) (f:=true) (al:=[]) rfl (by unfold iO;simp_arith) (by omega);rw[hm,cv,gL,Jt];exact h
def dA (ts:List Tri)(ks:List Int):List Int:=ts.foldl (fun k t=>dd k t.1) ks
theorem FI {l:List Int}{x y:Int}(h:y∈l):y∈dd l x:=(qi l x y).mpr (.inl h)
theorem oX:∀(ts:List Tri)(ks:List Int),(dA ts ks).length<=ks.length+ts.length
 | [],ks=>by simp[dA]
 |t::r,ks=>by have h1:=oX r (dd ks t.1);have h2:=jJ ks t.1;show(dA r (dd ks t.1)).length<=_;simp only[IE];omega
theorem jY {y:Int}:∀(ts:List Tri)(ks:List Int),y∈dA ts ks↔y∈ks\/∃ t∈ts,t.1=y
 | [],ks=>by simp[dA]
 |t::r,ks=>by show y∈dA r (dd ks t.1)↔_;rw[jY r,qi];simp only[HE,exists_eq_or_imp,or_assoc,eq_comm (a:=y)]
theorem lO:∀(ts:List Tri)(ks:List Int),(∀ t∈ts,t.1∈ks)->dA ts ks=ks
 | [],_,_=>rfl
 |t::r,ks,h=>by show dA r (dd ks t.1)=ks;rw[show dd ks t.1=ks from by unfold dd;rw[Hx (h t (by simp))]];exact lO r ks fun u hu=>h u (by simp[hu])
theorem xJ {M:D}{e3:Option Sl}{fr:Bool}{e:Int}:∀(ts:List Tri)(ks:List Int)(e2 e4 e5:Option Sl),uH e ts->e∈ks\/ts=[]->ks.length+ts.length<1000000->
 ∃ e2' e4' e5',bS (gT 3 (bM (gN 2) (bM (gN 4) (bM (gN 5) lr)))) fr b0 (ts.map tD) (iO M ks e2 e3 e4 e5)=.ok (.nx (iO M (dA ts ks) e2' e3 e4' e5'))
 | [],ks,e2,e4,e5,_,_,_=>⟨e2,e4,e5,rfl⟩
 |t::r,ks,e2,e4,e5,hf,he,hl=>by
  have he:=he.resolve_right (by simp);have hd:=jJ ks t.1;simp only[IE]at hl;obtain⟨e2',e4',e5',h⟩:=xJ (M:=M) (e3:=e3) (fr:=fr) (e:=e) r (dd ks t.1) (some (.val (.int t.1) fr)) (some (.val (.int t.2.1) fr)) (some (.val (.int t.2.2) fr)) (fun u hu=>hf u (by simp[hu])) (.inl (FI he)) (by omega);refine⟨e2',e4',e5',?_⟩;rw[HL,mM (env1:=iO M ks (some (.val (.int t.1) fr)) e3 (some (.val (.int t.2.1) fr)) (some (.val (.int t.2.2) fr))) rfl];have hm:gA 1 (ai 2) (vC (.bl true)) (iO M ks (some (.val (.int t.1) fr)) e3 (some (.val (.int t.2.1) fr)) (some (.val (.int t.2.2) fr)))=.ok (.nx (iO M (dd ks t.1) (some (.val (.int t.1) fr)) e3 (some (.val (.int t.2.1) fr)) (some (.val (.int t.2.2) fr)))):=m7 (i:=1) (fk:=ai 2) (x:=t.1) (f:=true) (al:=[]) rfl (by unfold iO;simp_arith) (by omega);have ht:t.2.2=e:=hf t (by simp);have hin:decide (t.2.2∈ks)=true:=by rw[ht];exact HG he
  have hb:b0 (iO M ks (some (.val (.int t.1) fr)) e3 (some (.val (.int t.2.1) fr)) (some (.val (.int t.2.2) fr)))=.ok (.nx (iO M (dd ks t.1) (some (.val (.int t.1) fr)) e3 (some (.val (.int t.2.1) fr)) (some (.val (.int t.2.2) fr)))):=by unfold iO at hm;unfold b0 iO;have hfb:(bD ks).flat=false:=rfl;simp_arith[hfb,FF,hin];exact hm
  rw[hb,cv,gL];exact h
theorem xK {n:Int}{ts:List Tri}{es ks:List Int}{e2 e3 e4 e5:Option Sl}{e:Int}(hf:uH e ts)(he:e∈ks\/ts=[])(hl:ks.length+ts.length<1000000) :
 ∃ e2' e4' e5',b6 (iO (Mc n ts es) ks e2 e3 e4 e5)=.ok (.nx (iO (Mc n ts es) (dA ts.reverse ks) e2' (some (.val (.int ks.length) true)) e4' e5')):=by
 obtain⟨e2',e4',e5',h⟩:=xJ (M:=Mc n ts es) (e3:=some (.val (.int ks.length) true)) (fr:=false) (e:=e) ts.reverse ks e2 e4 e5 (fun u hu=>hf u (KO.mp hu)) (he.imp id fun z=>by rw[z];rfl) (by rw[K6];exact hl);refine⟨e2',e4',e5',?_⟩;rw[List.map_reverse]at h;unfold iO Mc at h;unfold b6 iO Mc;have hfb:(bD ks).flat=false:=rfl;have hk2:=A4 (ks:=ks) (by omega);simp_arith[hfb,hk2,h]
theorem jZ {M:D}{ks:List Int}{e2 e4 e5:Option Sl}{sz:Int}{f:Bool}(hl:ks.length<1000000):vB (v2 pW (ai 3) (j6 bU (aj (ai 1) aw))) (iO M ks e2 (some (.val (.int sz) f)) e4 e5)=.ok (decide (sz<ks.length)):=by have hfb:(bD ks).flat=false:=rfl;have hk2:=A4 (ks:=ks) (by omega);unfold iO;simp_arith[hfb,hk2]
theorem DB {n:Int}{ts:List Tri}{es ks:List Int}{e2 e4 e5:Option Sl}{e:Int}{f:Bool}(m:Nat)(hf:uH e ts)(he:e∈ks\/ts=[])(hl:ks.length+ts.length+ts.length<1000000) :
 ∃ e2' e3' e4' e5',aM (vB (v2 pW (ai 3) (j6 bU (aj (ai 1) aw)))) b6 (m+3) (iO (Mc n ts es) ks e2 (some (.val (.int (-1)) f)) e4 e5)=.ok (.nx (iO (Mc n ts es) (dA ts.reverse ks) e2' e3' e4' e5')):=by
 obtain⟨a2,a4,a5,h1⟩:=xK (n:=n) (es:=es) (e2:=e2) (e3:=some (.val (.int (-1)) f)) (e4:=e4) (e5:=e5) hf he (by omega);have pl:=oX ts.reverse ks;rw[K6]at pl;have he1:e∈dA ts.reverse ks\/ts=[]:=he.imp (fun z=>(jY _ _).mpr (.inl z)) id;have ps:dA ts.reverse (dA ts.reverse ks)=dA ts.reverse ks:=lO _ _ fun t ht=>(jY _ _).mpr (.inr ⟨t,ht,rfl⟩);obtain⟨b2,b4,b5,h2⟩:=xK (n:=n) (es:=es) (e2:=a2) (e3:=some (.val (.int ks.length) true)) (e4:=a4) (e5:=a5) hf he1 (by omega);rw[ps]at h2;have c1:decide ((-1:Int)<(ks.length:Int))=true:=HG (by omega);have c3:decide (((dA ts.reverse ks).length:Int)<((dA ts.reverse ks).length:Int))=false:=HF (by omega);by_cases q:(ks.length:Int)<(dA ts.reverse ks).length
 .refine⟨b2,some (.val (.int (dA ts.reverse ks).length) true),b4,b5,?_⟩;have c2:=HG q;unfold aM;rw[jZ (by omega),c1,cv,Hx rfl,h1,cv];show aM _ _ (m+2) _=_;unfold aM;rw[jZ (by omega),c2,cv,Hx rfl,h2,cv];show aM _ _ (m+1) _=_;unfold aM;rw[jZ (by omega),c3,cv,Hz (by simp)]
 .refine⟨a2,some (.val (.int ks.length) true),a4,a5,?_⟩;have c2:=HF q;unfold aM;rw[jZ (by omega),c1,cv,Hx rfl,h1,cv];show aM _ _ (m+2) _=_;unfold aM;rw[jZ (by omega),c2,cv,Hz (by simp)]
theorem sH {n:Int}{ts:List Tri}{es:List Int}{e:Int}(hf:uH e ts)(he:e∈es\/ts=[])(h1:ts.length<=300)(h2:es.length<=300):∃ ks,cj [Mc n ts es]=.ok (.val (bD ks) true [1]):=by obtain⟨a2,g1⟩:=xI (M:=Mc n ts es) (e3:=none) (e4:=none) (e5:=none) (fr:=false) es [] none (by simp only[JI];omega);have hd:=sk es [];have hm:e∈es.foldl dd []\/ts=[]:=he.imp (fun z=>(oj e es []).mpr (.inr z)) id;obtain⟨b2,b3,b4,b5,g2⟩:=DB (n:=n) (es:=es) (e2:=a2) (e4:=none) (e5:=none) (f:=true) 99997 hf hm (by simp only[JI]at hd;omega);refine⟨dA ts.reverse (es.foldl dd []),?_⟩;have hD:(D.dic [] [])=bD []:=rfl;have hfb:∀ ks,(bD ks).flat=false:=fun _=>rfl;unfold iO Mc at g1 g2;simp_arith[cj,iG,Mc,hD,g1,g2,hfb]
def kE (n r g:Int)(ts:List Tri)(e3:Option Sl)(rows:List D)(at':Int)(e7 e8:Option Sl):En:=[some (.val (Mc n ts [r]) false),some (.val (bx ts) false),some (.val (.int g) false),e3,some (.own rows true),some (.tre (.dic [.inr [.inl r]] [.bl true])),some (.val (.int at') true),e7,e8]
theorem xL {n r g:Int}{ts:List Tri}{rows:List D}{at':Int}{e7 e8:Option Sl}{f3 fr:Bool}{k:Nat}(hf:uH r ts)(hl:ts.length<=300)(hk:(r,((k:Nat):Int))∈h1 ts) :
 bf (kE n r g ts (some (.val (.tup [.int r]) f3)) rows at' (some (.val (.int (k:Nat)) fr)) e8)=.ok (.nx (kE n r g ts (some (.val (.tup [.int r]) f3)) rows at' (some (.val (.int (k:Nat)) fr)) (some (.val (.tup [.int r]) true)))):=by
 have ht:=jX hf hl r ((k:Nat):Int);have et:iN r ts r ((k:Nat):Int)=[r]:=by unfold iN;rw[Hx hk]
 rw[et]at ht;have hg:(bx ts).flat=false:=rfl;have ht:aE [bx ts,.tup [.int r],.int (k:Nat)]=.ok (.val (.tup [.int r]) true []):=ht;have hin:iL true (.tup [.int r]) (.dic [.inr [.inl r]] [.bl true])=.ok (.val (.bl false) true []):=by rw[A0 (k:=.inr [.inl r]) rfl rfl];simp[fE]
 unfold bf kE;simp_arith[ht,hg,hin]
theorem xM {n r:Int}{g:Nat}{ts:List Tri}{rows:List D}{at':Int}{e7 e8:Option Sl}{f3:Bool}(hf:uH r ts)(hl:ts.length<=300)(hk:∀ k,k<g->(r,((k:Nat):Int))∈h1 ts) :
 ∃ e7' e8',bS (gN 7) true bf (c8 0 g) (kE n r g ts (some (.val (.tup [.int r]) f3)) rows at' e7 e8)=.ok (.nx (kE n r g ts (some (.val (.tup [.int r]) f3)) rows at' e7' e8')):=by
 obtain⟨az,q1,e7',e8',q2⟩:=ce (fun k:Nat=>D.int k) (asg:=gN 7) (fr:=true) (body:=bf) (fun _ env=>∃ e7 e8,env=kE n r g ts (some (.val (.tup [.int r]) f3)) rows at' e7 e8) (List.range g) [] _ ⟨e7,e8,rfl⟩ (fun pre post k env _ hp hm=>by obtain⟨e7,e8,rfl⟩:=hp;exact⟨_,_,rfl,xL (e7:=none) (fr:=true) hf hl (hk k (IB.mp hm)),_,_,rfl⟩);exact⟨e7',e8',by rw[dM,q1,q2]⟩
theorem qD {n r g:Int}{ts:List Tri}{rows:List D}{at':Int}{e7 e8:Option Sl}{fr:Bool}{e3:Option Sl}:fO 1 [0] (gN 0) (fun _=>.ok true) aR (kE n r g ts e3 rows at' e7 e8) ⟨[.int r],fr,[]⟩=.ok (.new [.bl true] true):=by
 have h:=cD (mk:=fun d=>gN 0 d fr (dt (kE n r g ts e3 rows at' e7 e8) 1 [0])) (test:=fun _=>.ok true)
  (elt:=aR) D.int (fun c=>.val (.bl true) true []) [r] fun c hc=>⟨_,rfl,rfl,by
    obtain rfl:c=r:=by simpa using hc
    show aR [some (.val (.int c) fr),some (.val (Mc n ts [c]) false)]=_;have hin:iL false (.int c) (.lst [.int c])=.ok (.val (.bl true) true []):=by rw[rX (by simp[D.deps,D.dep]) (by simp[D.dep])];simp[cq]
    unfold Mc;simp_arith[aR,hin]⟩
 rw[gI (xs:=[.int r]) (by show 1<=1000000;omega) h];rfl
theorem xN {n r:Int}{g:Nat}{ts:List Tri}{e3 e7 e8:Option Sl}(hf:uH r ts)(hl:ts.length<=300)(hg:g<=40)(hk:∀ k,k<g->(r,((k:Nat):Int))∈h1 ts) :
 ∃ e7' e8',bC (kE n r g ts e3 [.tup [.int r]] 0 e7 e8)=.ok (.nx (kE n r g ts (some (.val (.tup [.int r]) true)) [.tup [.int r]] 1 e7' e8')):=by
 obtain⟨e7',e8',q⟩:=xM (n:=n) (rows:=[.tup [.int r]]) (at':=1) (e7:=e7) (e8:=e8) (f3:=true) hf hl hk;refine⟨e7',e8',?_⟩;have ha:=qD (n:=n) (r:=r) (g:=g) (ts:=ts) (rows:=[.tup [.int r]]) (at':=1) (e7:=e7) (e8:=e8) (fr:=true) (e3:=some (.val (.tup [.int r]) true));have hv:ai 3 (kE n r g ts (some (.val (.tup [.int r]) true)) [.tup [.int r]] 1 e7 e8)=.ok (.val (.tup [.int r]) true []):=by unfold kE;simp_arith
 have hc:=gM (n:=1) (caps:=[0]) (asg:=gN 0) (ft:=fun _=>.ok true) (fe:=aR) hv;have hy:zX (.lst [.bl true])=.ok (.val (.bl true) true []):=rfl;have h1:((g:Int)).toNat=g:=Kh g;have m1:(-4611686018427387904:Int)<=(g:Int):=by omega
 have m2:(g:Int)<4611686018427387904:=by omega
 unfold kE at q ha hv hc;unfold bC kE;simp_arith[hc,ha,hy,q,jP,m1,m2,h1,JJ,Int.zero_add]
theorem uD {n r:Int}{g:Nat}{ts:List Tri}(hf:uH r ts)(hl:ts.length<=300)(hg:g<=40)(hk:∀ k,k<g->(r,((k:Nat):Int))∈h1 ts) :
 b8 [Mc n ts [r],bx ts,.int g,.tup [.int r]]=.ok (.val (.bl true) true []):=by
 obtain⟨e7,e8,q⟩:=xN (n:=n) (e3:=some (.val (.tup [.int r]) false)) (e7:=none) (e8:=none) hf hl hg hk;have hd:∀ f al,f7 (.val (.tup [.int r]) f al) (.val (.bl true) true [])=.ok (.fre (.dic [.inr [.inl r]] [.bl true])):=fun f al=>rfl;have hw:aM (vB (v2 pW (ai 6) (j6 bU (aj (ai 4) aw)))) bC 100000 (kE n r g ts (some (.val (.tup [.int r]) false)) [.tup [.int r]] 0 none none)=.ok (.nx (kE n r g ts (some (.val (.tup [.int r]) true)) [.tup [.int r]] 1 e7 e8)):=by
  show aM _ _ (99998+2) _=_;unfold aM;have c1:vB (v2 pW (ai 6) (j6 bU (aj (ai 4) aw))) (kE n r g ts (some (.val (.tup [.int r]) false)) [.tup [.int r]] 0 none none)=.ok true:=by unfold kE;simp_arith
  have c2:vB (v2 pW (ai 6) (j6 bU (aj (ai 4) aw))) (kE n r g ts (some (.val (.tup [.int r]) true)) [.tup [.int r]] 1 e7 e8)=.ok false:=by unfold kE;simp_arith
  rw[c1,cv,Hx rfl,q,cv];show aM _ _ (99998+1) _=_;unfold aM;rw[c2,cv,Hz (by simp)]
 have fM:=dN n ts [r];have fG:(bx ts).flat=false:=rfl;unfold kE at hw;simp_arith[b8,fQ,hd,hw]
theorem qE (r:Int)(g:Nat)(hs:List IP):uH r (lN r g hs):=fun t ht=>by rcases (g5 r g hs t).mp ht with⟨p,hp,rfl⟩|⟨k,hk,rfl⟩<;>rfl
theorem hd_h1 {r:Int}{g:Nat}{hs:List IP}{p:IP}:p∈h1 (lN r g hs)↔p∈hs\/∃ k,k<g/\p=(r,((k:Nat):Int)):=by
 rw[qu];constructor
 .rintro⟨t,ht,e1,e2⟩;rcases (g5 r g hs t).mp ht with⟨q,hq,rfl⟩|⟨k,hk,rfl⟩
  .left;obtain rfl:p=q:=Li e1.symm e2.symm;exact hq
  .exact .inr ⟨k,hk,Li e1.symm e2.symm⟩
 .rintro (h|⟨k,hk,rfl⟩)
  .exact⟨(p.1,p.2,r),(g5 r g hs _).mpr (.inl ⟨p,h,rfl⟩),rfl,rfl⟩
  .exact⟨(r,((k:Nat):Int),r),(g5 r g hs _).mpr (.inr ⟨k,hk,rfl⟩),rfl,rfl⟩
theorem i8 {r:Int}{g:Nat}{hs:List IP}(hl:hs.length<=30)(hg:g<=40):(lN r g hs).length<=300:=by have:=oS (oZ r hs++o6 r g);rw[mY]at this;show(arrsOf (oZ r hs++o6 r g)).length<=300;omega
theorem DC (hs:List IP)(p:IP):(hs.map pD).any (fun e=>cq e (pD p))=decide (p∈hs):=by
 rw[Lp];have:∀ q:IP,cq (pD q) (pD p)=decide (q=p):=fun q=>by show(decide (q.1=p.1)&&(decide (q.2=p.2)&&true))=_;rw[Bool.and_true,<- Bool.decide_and];exact Lm.mpr ⟨fun h=>Li h.1 h.2,fun h=>by rw[h];exact⟨rfl,rfl⟩⟩
 rw[show((fun e=>cq e (pD p)) ∘ pD)=fun q=>decide (q=p) from funext this];induction hs with
 |nil=>rfl
 |cons a r ih=>rw[Jm,ih];simp only[HE,Bool.decide_or,eq_comm (a:=a)]
def uI (r:Int)(g:Nat)(hs:List IP)(o5 e6 e7 e8:Option Sl):En:=[some (.val (Mc (r+1) (lN r g hs) [r]) false),some (.val (.int r) false),some (.val (.int g) false),some (.val (.lst (hs.map pD)) false),some (.val (bx (lN r g hs)) true),o5,e6,e7,e8]
theorem Am {r:Int}{g:Nat}{hs:List IP}{ks:List Int}{a:Int}{j:Nat}{e8:Option Sl}(hl:hs.length<=30)(hg:g<=40)(ha:a<r)(hj:j<g) :
 ∃ e8',bt (uI r g hs (some (.val (bD ks) true)) (some (.val (.int a) true)) (some (.val (.int (j:Nat)) true)) e8)=.ok (.nx (uI r g hs (some (.val (bD ks) true)) (some (.val (.int a) true)) (some (.val (.int (j:Nat)) true)) e8')):=by
 have ht:=jX (qE r g hs) (i8 hl hg) a ((j:Nat):Int);have hA:=uD (n:=r+1) (qE r g hs) (i8 hl hg) hg fun k hk=>hd_h1.mpr (.inr ⟨k,hk,rfl⟩);have fG:(bx (lN r g hs)).flat=false:=rfl;have fB:(bD ks).flat=false:=rfl;have fM:=dN (r+1) (lN r g hs) [r];have hin:iL false (.tup [.int a,.int (j:Nat)]) (.lst (hs.map pD))=.ok (.val (.bl (decide ((a,((j:Nat):Int))∈hs))) true []):=by rw[rX (by have:=gO (g:=pD) (xs:=hs) (n:=1) qz;omega) (by have:=qz (a,((j:Nat):Int));unfold pD at this;dsimp only at this;omega)];rw[show(D.tup [.int a,.int (j:Nat)])=pD (a,((j:Nat):Int)) from rfl,DC];rfl
 have hiff:(a,((j:Nat):Int))∈h1 (lN r g hs)↔(a,((j:Nat):Int))∈hs:=by rw[hd_h1];refine⟨fun z=>z.elim id ?_,.inl⟩;rintro⟨k,_,e⟩;have:=Ie Prod.fst e;have:a=r:=this;omega
 by_cases hh:(a,((j:Nat):Int))∈hs
 .have et:iN r (lN r g hs) a ((j:Nat):Int)=[r]:=by unfold iN;rw[Hx (hiff.mpr hh)]
  have ht:aE [bx (lN r g hs),.tup [.int a],.int (j:Nat)]=.ok (.val (.tup [.int r]) true []):=by rw[et]at ht;exact ht
  rw[HG hh]at hin;refine⟨some (.val (.tup [.int r]) true),?_⟩;unfold bt uI;simp_arith[ht,hA,hin,fG,fB,fM]
 .have et:iN r (lN r g hs) a ((j:Nat):Int)=[]:=by unfold iN;rw[Hz (fun z=>hh (hiff.mp z))]
  have ht:aE [bx (lN r g hs),.tup [.int a],.int (j:Nat)]=.ok (.val (.tup []) true []):=by rw[et]at ht;exact ht
  rw[HF hh]at hin;refine⟨some (.val (.tup []) true),?_⟩;unfold bt uI;have hv:ai 8 [some (.val (Mc (r+1) (lN r g hs) [r]) false),some (.val (.int r) false),some (.val (.int g) false),some (.val (.lst (hs.map pD)) false),some (.val (bx (lN r g hs)) true),some (.val (bD ks) true),some (.val (.int a) true),some (.val (.int (j:Nat)) true),some (.val (.tup []) true)]=.ok (.val (.tup []) true []):=by simp_arith
  have hc:=gM (n:=1) (caps:=[5]) (asg:=gN 0) (ft:=fun _=>.ok true) (fe:=cS) hv;have hk0:∀ env,fO 1 [5] (gN 0) (fun _=>.ok true) cS env ⟨[],true,[]⟩=.ok (f_ [] true ([]++([5]:List Nat).filter (isOwn env))):=fun env=>rfl;have hy:zX (.lst [])=.ok (.val (.bl false) true []):=rfl;simp_arith[ht,hin,fG,fB,fM,hc,hk0,hy]
theorem An {r:Int}{g:Nat}{hs:List IP}{ks:List Int}{a:Int}{e7 e8:Option Sl}(hl:hs.length<=30)(hg:g<=40)(ha:a<r) :
 ∃ e7' e8',bP (uI r g hs (some (.val (bD ks) true)) (some (.val (.int a) true)) e7 e8)=.ok (.nx (uI r g hs (some (.val (bD ks) true)) (some (.val (.int a) true)) e7' e8')):=by
 obtain⟨az,q1,e7',e8',q2⟩:=ce (fun k:Nat=>D.int k) (asg:=gN 7) (fr:=true) (body:=bt) (fun _ env=>∃ e7 e8,env=uI r g hs (some (.val (bD ks) true)) (some (.val (.int a) true)) e7 e8) (List.range g) [] _ ⟨e7,e8,rfl⟩ (fun pre post k env _ hp hm=>by obtain⟨e7,e8,rfl⟩:=hp;obtain⟨e8',h⟩:=Am (ks:=ks) (e8:=e8) hl hg ha (IB.mp hm);exact⟨_,_,rfl,h,_,_,rfl⟩);refine⟨e7',e8',?_⟩;rw[q2]at q1;have hin:iL false (.int a) (.lst [.int r])=.ok (.val (.bl false) true []):=by rw[rX (by simp[D.deps,D.dep]) (by simp[D.dep])];have:decide (r=a)=false:=HF (by omega);simp[cq,this];omega
 have h1:((g:Int)).toNat=g:=Kh g;have m1:(-4611686018427387904:Int)<=(g:Int):=by omega
 have m2:(g:Int)<4611686018427387904:=by omega
 rw[<- dM]at q1;unfold uI Mc at q1;unfold bP uI Mc;simp_arith[hin,jP,m1,m2,h1];exact q1
theorem xO {r:Int}{g:Nat}{hs:List IP}(hl:hs.length<=30)(hg:g<=40)(h0:0<=r)(hr:r<=100):cy [Mc (r+1) (lN r g hs) [r],.int r,.int g,.lst (hs.map pD)]=.ok (.val (.bl true) true []):=by
 obtain⟨ks,hL⟩:=sH (n:=r+1) (es:=[r]) (qE r g hs) (.inl (by simp)) (i8 hl hg) (by simp);have hO:=sE (n:=r+1) (es:=[r]) (ts:=lN r g hs) (by have:=i8 (r:=r) hl hg;omega);have fG:(bx (lN r g hs)).flat=false:=rfl;have fB:(bD ks).flat=false:=rfl;have fM:=dN (r+1) (lN r g hs) [r];obtain⟨az,q1,e6,e7,e8,q2⟩:=ce (fun k:Nat=>D.int k) (asg:=gN 6) (fr:=true) (body:=bP) (fun _ env=>∃ e6 e7 e8,env=uI r g hs (some (.val (bD ks) true)) e6 e7 e8) (List.range r.toNat) [] (uI r g hs (some (.val (bD ks) true)) none none none) ⟨none,none,none,rfl⟩ (fun pre post k env _ hp hm=>by obtain⟨e6,e7,e8,rfl⟩:=hp;obtain⟨e7',e8',h⟩:=An (r:=r) (g:=g) (hs:=hs) (ks:=ks) (e7:=e7) (e8:=e8) (a:=((k:Nat):Int)) hl hg (by have:=IB.mp hm;omega);exact⟨_,_,rfl,h,_,_,_,rfl⟩);rw[q2,<- dM]at q1;have m1:(-4611686018427387904:Int)<=r:=by omega
 have m2:r<4611686018427387904:=by omega
 unfold uI at q1;simp_arith[cy,gW,hO,hL,fG,fB,fM,jP,m1,m2,q1]
theorem Ao (es:List Int)(x:Int):(es.map D.int).any (fun e=>cq e (.int x))=decide (x∈es):=by
 rw[Lp];induction es with
 |nil=>rfl
 |cons a r ih=>rw[Jm,ih];show(decide (a=x) || decide (x∈r))=_;simp only[HE,Bool.decide_or,eq_comm (a:=x)]
theorem sI (es:List Int)(x:Int):iL false (.int x) (.lst (es.map .int))=.ok (.val (.bl (decide (x∈es))) true []):=by rw[rX (by have:=fy es;omega) (by simp[D.dep]),Ao];rfl
def qF (r:Int)(g:Nat)(so:List Int)(ks:List Int)(e6 e7:Option Sl):En:=[some (.val (Mc r [] (sortI so)) false),some (.val (.int r) false),some (.val (.int g) false),some (.val (.lst (so.map .int)) false),some (.val (bx []) true),some (.val (bD ks) true),e6,e7]
theorem Ap {r:Int}{g:Nat}{so ks:List Int}{a b:Int}:bQ (qF r g so ks (some (.val (.int a) true)) (some (.val (.int b) true)))=.ok (.nx (qF r g so ks (some (.val (.int a) true)) (some (.val (.int b) true)))):=by
 have ht:=jX (e:=0) (ts:=[]) (fun t ht=>by cases ht) (by simp) a b;have ht:aE [bx [],.tup [.int a],.int b]=.ok (.val (.tup []) true []):=ht;have fG:(bx []).flat=false:=rfl;have hv:aY aE (aj (ai 4) (aj (fX (aj (ai 6) aw)) (aj (ai 7) aw))) (qF r g so ks (some (.val (.int a) true)) (some (.val (.int b) true)))=.ok (.val (.tup []) true []):=by unfold qF;simp_arith[ht,fG]
 have hc:=gM (n:=1) (caps:=[5]) (asg:=gN 0) (ft:=fun _=>.ok true) (fe:=cT) hv;have hk0:fO 1 [5] (gN 0) (fun _=>.ok true) cT (qF r g so ks (some (.val (.int a) true)) (some (.val (.int b) true))) ⟨[],true,[]⟩=.ok (.new [] true):=rfl;have hy:zX (.lst [])=.ok (.val (.bl false) true []):=rfl;unfold qF at hc hk0;unfold bQ qF;simp_arith[hc,ht,fG,hk0,hy]
theorem Aq {r:Int}{g:Nat}{so ks:List Int}{a:Int}{e7:Option Sl}(hg:g<=40):∃ e7',bR (qF r g so ks (some (.val (.int a) true)) e7)=.ok (.nx (qF r g so ks (some (.val (.int a) true)) e7')):=by
 obtain⟨az,q1,e7',q2⟩:=ce (fun k:Nat=>D.int k) (asg:=gN 7) (fr:=true) (body:=bQ) (fun _ env=>∃ e7,env=qF r g so ks (some (.val (.int a) true)) e7) (List.range g) [] _ ⟨e7,rfl⟩ (fun pre post k env _ hp hm=>by obtain⟨e7,rfl⟩:=hp;exact⟨_,_,rfl,Ap (a:=a) (b:=((k:Nat):Int)),_,rfl⟩);refine⟨e7',?_⟩;rw[q2,<- dM]at q1;have h1:((g:Int)).toNat=g:=Kh g;have m1:(-4611686018427387904:Int)<=(g:Int):=by omega
 have m2:(g:Int)<4611686018427387904:=by omega
 have i1:=sI (sortI so) a;have i2:=sI so a;have hq:decide (a∈sortI so)=decide (a∈so):=Lm.mpr (cC a so);rw[hq]at i1;have hn:∀ b:Bool,rh (.val (.bl b) true []) (.val (.bl b) true [])=.ok (.val (.bl false) true []):=fun b=>by cases b<;>rfl
 unfold qF Mc at q1;unfold bR qF Mc;simp_arith[i1,i2,hn,jP,m1,m2,h1];exact q1
theorem xP {r:Int}{g:Nat}{so:List Int}(hg:g<=40)(hs:so.length<=300)(h0:0<=r)(hr:r<=100):cA [Mc r [] (sortI so),.int r,.int g,.lst (so.map .int)]=.ok (.val (.bl true) true []):=by
 obtain⟨ks,hL⟩:=sH (n:=r) (ts:=[]) (es:=sortI so) (e:=0) (fun t ht=>by cases ht) (.inr rfl) (by simp) (HS (fC so) hs);have hO:=sE (n:=r) (es:=sortI so) (ts:=[]) (by simp);have fG:(bx []).flat=false:=rfl;have fB:(bD ks).flat=false:=rfl;have fM:=dN r [] (sortI so);obtain⟨az,q1,e6,e7,q2⟩:=ce (fun k:Nat=>D.int k) (asg:=gN 6) (fr:=true) (body:=bR) (fun _ env=>∃ e6 e7,env=qF r g so ks e6 e7) (List.range r.toNat) [] (qF r g so ks none none) ⟨none,none,rfl⟩ (fun pre post k env _ hp hm=>by obtain⟨e6,e7,rfl⟩:=hp;obtain⟨e7',h⟩:=Aq (r:=r) (g:=g) (so:=so) (ks:=ks) (a:=((k:Nat):Int)) (e7:=e7) hg;exact⟨_,_,rfl,h,_,_,rfl⟩);rw[q2,<- dM]at q1;have m1:(-4611686018427387904:Int)<=r:=by omega
 have m2:r<4611686018427387904:=by omega
 unfold qF at q1;simp_arith[cA,gX,hO,hL,fG,fB,fM,jP,m1,m2,q1]
def sJ (ns:List Int)(sz r:Int)(g:Nat)(e4 e5 e6 e7 e8 e9 e10 e11 e12:Option Sl):En:=[some (.val (.lst (ns.map .int)) false),some (.val (.int sz) true),some (.val (.int r) true),some (.val (.int g) true),e4,e5,e6,e7,e8,e9,e10,e11,e12]
theorem uE {ns:List Int}{sz r:Int}{g:Nat}{e4 e5 e6 e7 e8 e9 e10 e11 e12:Option Sl}{fr:Bool}(h0:1<=r)(h1:r<=8)(h2:1<=g)(h3:g<=40)(xs:List Int)(hl:xs.length<=1000000) :
 fO 1 [2,3] (gN 0) (fun _=>.ok true) gY (sJ ns sz r g e4 e5 e6 e7 e8 e9 e10 e11 e12) ⟨xs.map .int,fr,[]⟩=.ok (.new ((xs.map fun c=>cU c r g).map pD) true):=by
 have b1:0<r:=by omega
 have b2:r<1073741824:=by omega
 have b3:(0:Int)<g:=by omega
 have b4:(g:Int)<1073741824:=by omega
 have h:=cD (mk:=fun d=>gN 0 d fr (dt (sJ ns sz r g e4 e5 e6 e7 e8 e9 e10 e11 e12) 1 [2,3])) (test:=fun _=>.ok true)
  (elt:=gY) D.int (fun c=>.val (pD (cU c r g)) true []) xs fun c hc=>⟨_,rfl,rfl,by show gY [some (.val (.int c) fr),some (.val (.int r) true),some (.val (.int g) true)]=_;simp_arith[gY,Ag,b1,b2,b3,b4,mV]⟩
 rw[gI (by rw[HA];exact hl) h,xB,jT];rw[mL (bX _ _ fun c=>rfl),ID];rfl
theorem Ar (c r:Int)(g:Nat)(h0:1<=r)(h2:1<=g):0<=(cU c r g).1/\(cU c r g).1<r/\0<=(cU c r g).2/\(cU c r g).2<g:=by unfold cU;exact⟨JQ _ (by omega),J8 _ (by omega),JQ _ (by omega),J8 _ (by omega)⟩
theorem uF {ns:List Int}{sz r:Int}{g:Nat}{e4 e6 e9 e10 e11 e12:Option Sl}(h0:1<=r)(h1:r<=8)(m:Nat)(hm:m<=10)(aW:Int) :
 ∃(so:List Int)(rest':Int)(e8':Option Sl),so.length=m/\(∀ x∈so,0<=x/\x<r)/\bS (gN 8) true gZ (c8 0 m) (sJ ns sz r g e4 (some (.own [] true)) e6 (some (.val (.int aW) true)) none e9 e10 e11 e12)=.ok (.nx (sJ ns sz r g e4 (some (.own (so.map .int) true)) e6 (some (.val (.int rest') true)) e8' e9 e10 e11 e12)):=by
 obtain⟨az,q1,so,rest',e8',c1,c2,q2⟩:=sq (fun k:Nat=>D.int k) (asg:=gN 8) (fr:=true) (body:=gZ) (List.range m) (fun(pre:List Nat) env=>∃(so:List Int)(rest':Int)(e8':Option Sl),so.length=pre.length/\(∀ x∈so,0<=x/\x<r)/\env=sJ ns sz r g e4 (some (.own (so.map .int) true)) e6 (some (.val (.int rest') true)) e8' e9 e10 e11 e12) (List.range m) [] _ rfl ⟨[],aW,none,rfl,(fun x hx=>by cases hx),rfl⟩ (fun pre post k env hall hp=>by
  obtain⟨so,rest',e8',c1,c2,rfl⟩:=hp;refine⟨_,sJ ns sz r g e4 (some (.own ((so++[rest' % r]).map .int) true)) e6 (some (.val (.int (rest' / r)) true)) (some (.val (.int (k:Nat)) true)) e9 e10 e11 e12,rfl,?_,so++[rest' % r],rest' / r,_,by rw[Ig,Ig,c1];rfl,fun x hx=>?_,rfl⟩
  .show gZ (sJ ns sz r g e4 (some (.own (so.map .int) true)) e6 (some (.val (.int rest') true)) (some (.val (.int (k:Nat)) true)) e9 e10 e11 e12)=_;rw[IU];have b1:0<r:=by omega
   have hap:(so.map D.int).length<1000000:=by have:=Ie List.length hall;rw[Lh,Ig]at this;rw[HA,c1];omega
   unfold gZ sJ;have b2:r<1073741824:=by omega
   simp_arith[C5 hap,b1,b2]
  .rcases H_.mp hx with z|z
   .exact c2 x z
   .obtain rfl:x=rest' % r:=by simpa using z
    exact⟨JQ _ (by omega),J8 _ (by omega)⟩)
 refine⟨so,rest',e8',by rw[c1];simp,c2,?_⟩;rw[dM];exact q1.trans (by rw[q2])
theorem DD {ns:List Int}{sz r:Int}{g:Nat}{hs:List IP}{so:List Int}{e6 e7 e8:Option Sl}(h0:1<=r)(h1:r<=8)(h2:1<=g)(h3:g<=40)(hl:hs.length<=30)(hb:InB r g hs)(hs1:so.length<=10)(hs2:∀ x∈so,0<=x/\x<r) :
 lw (jU (sJ ns sz r g (some (.own (hs.map pD) true)) (some (.own (so.map .int) true)) e6 e7 e8 (some (.own (hs.map pD) true)) (some (.own (so.map .int) true)) none none))=.ok (.val (.bl true) true []):=by
 have a1:=qA r g hs hl h3;have a2:=uy r g so (by omega);have a3:=jW (m5 (by omega) hb hl h3);have a4:=jW (oU (g:=g) hs2 (by omega));have a5:=xO (r:=r) hl h3 (by omega) (by omega);have a6:=xP (r:=r) (g:=g) (so:=so) h3 (by omega) (by omega) (by omega);have fM:=fun n ts es=>dN n ts es;have d1:D.deps (hs.map pD)<=1:=gO qz;have d2:=fy so;have p1:(D.lst (hs.map pD)).dep<=50:=by rw[gJ];omega
 have p2:(D.lst (so.map .int)).dep<=50:=by rw[gJ];omega
 have n1:∀ f f' al al',rh (.val (.lst (hs.map pD)) f al) (.val (.lst (hs.map pD)) f' al')=.ok (.val (.bl false) true []):=fun f f' al al'=>by rw[wG (by rw[aA];exact p1) (by rw[aA];exact p1),aA,aA,bK];rfl
 have n2:∀ f f' al al',rh (.val (.lst (so.map .int)) f al) (.val (.lst (so.map .int)) f' al')=.ok (.val (.bl false) true []):=fun f f' al al'=>by rw[wG (by rw[aA];exact p2) (by rw[aA];exact p2),aA,aA,bK];rfl
 have q1:∀ f f' al al',vS (.val (.lst (hs.map pD)) f al) (.val (.lst (hs.map pD)) f' al')=.ok (.val (.bl true) true []):=fun f f' al al'=>by rw[wF (by rw[aA];exact p1) (by rw[aA];exact p1),aA,aA,bK]
 have q2:∀ f f' al al',vS (.val (.lst (so.map .int)) f al) (.val (.lst (so.map .int)) f' al')=.ok (.val (.bl true) true []):=fun f f' al al'=>by rw[wF (by rw[aA];exact p2) (by rw[aA];exact p2),aA,aA,bK]
 have f1:D.flats (hs.map pD)=true:=bX _ _ mV;have f2:=dL so;have ap:∀(i:Nat)(env:En)(n:Int)(ts:List Tri)(es:List Int),es.length<=300->mO i 2 (vC (.int 0)) env (some (some (.tre (Mc n ts es))))=.ok (.nx (env.set i (some (.mes (Mc n ts es))))):=fun i env n ts es he=>zS (n:=(es.map D.int).length) rfl (by rw[HA];omega) (GJ _ _) rfl;have l1:([r]:List Int).length<=300:=by simp
 have l2:(sortI so).length<=300:=by have:=fC so;omega
 unfold sJ;simp_arith[jU,oO,oN,oM,oK,oJ,oH,oG,a1,a2,a3,a4,a5,a6,fM,n1,n2,q1,q2,f1,f2,ap _ _ _ _ _ l1,ap _ _ _ _ _ l2]
theorem FJ (ns:List Int):(dH ns (some 2) (some 32)).length<=30:=by
 unfold dH;rw[Ib,JB];have:HT.sIx ns.length 0 (some 2)=min 2 ns.length:=by simp[HT.sIx]
 have h2:HT.sIx ns.length ns.length (some 32)=min 32 ns.length:=by simp[HT.sIx]
 rw[this,h2];omega
theorem A5 {ns:List Int}{sz r:Int}{g:Nat}(h0:1<=r)(h1:r<=8)(h2:1<=g)(h3:g<=40) :
 lw (mQ (sJ ns sz r g none none none none none none none none none))=.ok (.val (.bl true) true []):=by
 have hl:=FJ ns;have hc:=fun e4 e5 e6 e7 e8 e9 e10 e11 e12 fr=>uE (ns:=ns) (sz:=sz) (e4:=e4) (e5:=e5) (e6:=e6) (e7:=e7) (e8:=e8) (e9:=e9) (e10:=e10) (e11:=e11) (e12:=e12) (fr:=fr) h0 h1 h2 h3 (dH ns (some 2) (some 32)) (by omega);have hc:=hc none none none none none none none none none true;have hx:InB r g ((dH ns (some 2) (some 32)).map fun c=>cU c r g):=⟨fun p hp=>by obtain⟨c,_,rfl⟩:=HY.mp hp;exact Ar c r g h0 h2⟩;have hxl:((dH ns (some 2) (some 32)).map fun c=>cU c r g).length<=30:=by rw[HA];exact hl
 generalize (dH ns (some 2) (some 32)).map (fun c=>cU c r g)=hs at *;have m0:=JQ (cell ns 1) (show(6:Int)≠0 by omega);have m6:=J8 (cell ns 1) (show(0:Int)<6 by omega);obtain⟨so,rest',e8,c1,c2,hq⟩:=uF (ns:=ns) (sz:=sz) (g:=g) (e4:=some (.own (hs.map pD) true)) (e6:=some (.val (.int (cell ns 1)) true)) (e9:=none) (e10:=none) (e11:=none) (e12:=none) h0 h1 (cell ns 1 % 6).toNat (by omega) (cell ns 1 / 6);have hL:=DD (ns:=ns) (sz:=sz) (e6:=some (.val (.int (cell ns 1)) true)) (e7:=some (.val (.int rest') true)) (e8:=e8) h0 h1 h2 h3 hxl hx (by omega) c2;have m1:(-4611686018427387904:Int)<=cell ns 1 % 6:=by omega
 have m2:cell ns 1 % 6<4611686018427387904:=by omega
 have f1:D.flats (hs.map pD)=true:=bX _ _ mV;have f2:=dL so;unfold sJ at hc hq hL;unfold sJ;simp_arith[mQ,sw,sv,su,ss,oQ,oP,xy,hc,FH,jP,m1,m2,hq,sn,mP,zq,f1,dL];exact hL
theorem DE (ns:List Int)(hl:ns.length<=63):lJ [.lst (ns.map .int)]=.ok (.val (.bl true) true []):=by
 have c0:=Aa ns 0;have e4:(1:Int)+cell ns 0 / 4 % 5=((1+cell ns 0 / 4 % 5).toNat:Nat):=by have:=JQ (cell ns 0 / 4) (show(5:Int)≠0 by omega);omega
 have e5:(1:Int)+cell ns 0 / 640 % 40=((1+cell ns 0 / 640 % 40).toNat:Nat):=by have:=JQ (cell ns 0 / 640) (show(40:Int)≠0 by omega);omega
 have b1:=A5 (ns:=ns) (sz:=cell ns 0) (r:=1+cell ns 0 % 4) (g:=(1+cell ns 0 / 4 % 5).toNat) (by omega) (by omega) (by omega) (by omega);have b2:=A5 (ns:=ns) (sz:=cell ns 0) (r:=1+cell ns 0 / 80 % 8) (g:=(1+cell ns 0 / 640 % 40).toNat) (by omega) (by omega) (by omega) (by omega);unfold sJ at b1 b2;rw[<- e4]at b1;rw[<- e5]at b2;by_cases h:cell ns 0 / 20 % 4=1
 .have hb:(cell ns 0 / 20 % 4==1)=true:=by rw[h];rfl
  simp_arith[lJ,xD,mT,mS,mR,A3,wF,h,hb];exact b2
 .have hb:(cell ns 0 / 20 % 4==1)=false:=by simp[h]
  simp_arith[lJ,xD,mT,mS,mR,A3,wF,h,hb];exact b1
end W
open PySem PySem.W PyProof.Rows
set_option maxRecDepth 100000 in
set_option maxHeartbeats 0 in
theorem PySem.Challenge.cw_callwalk_k13_heading_and_ending_holds : PySem.Challenge.rw_callwalk_k13_heading_and_ending.Holds := by
 w_on;o_law;k_head;(case hw=>w_witness2)
 k_fill
 refine L2.vL (l:=PySem.Challenge.rw_callwalk_k13_heading_and_ending) (n:=63) (k:=4) (x:="_law_script") (CX:=fun w=>L2.kc) (sp:=fun _=>L3.F0 W.lJ) rfl (by decide) rfl ⟨rfl,by decide,by decide⟩ (fun w h Y=>PySem.W.kIn_of Y) ?kL ?F ?S ?C
 case kL=>exact fun w=>⟨by rfl,by rfl⟩
 case F=>
  intro w mg fa h KX G hmg
  refine' Exists.imp (fun _ z=>⟨z.1,fun base _ _=>z.2 base⟩) (W.Dv hmg ?_)
  refine' Exists.imp (fun _ _=>True.intro) (W.FG KX G L2.tL ?a_a ?l_a ?c_a ?k_a ?a_b ?l_b ?c_b ?k_b ?a_c ?l_c ?c_c ?k_c ?a_d ?l_d ?c_d ?k_d ?a_e ?l_e ?c_e ?k_e ?a_f ?l_f ?c_f ?k_f ?a_g ?l_g ?c_g ?k_g ?a_h ?l_h ?c_h ?k_h ?a_i ?l_i ?c_i ?k_i ?a_j ?l_j ?c_j ?k_j ?a_k ?l_k ?c_k ?k_k ?a_l ?l_l ?c_l ?k_l ?a_m ?l_m ?c_m ?k_m ?a_n ?l_n ?c_n ?k_n ?z_all ?z_any ?z_bool ?z_int ?z_isinstance ?z_len ?z_list ?z_range ?z_reversed ?z_set ?z_sorted ?z_tuple)
  (case a_a=>k_is)
  (case l_a=>k_is)
  (case c_a=>k_is)
  (case k_a=>k_is)
  (case a_b=>k_is)
  (case l_b=>k_is)
  (case c_b=>k_is)
  (case k_b=>k_is)
  (case a_c=>k_is)
  (case l_c=>k_is)
  (case c_c=>k_is)
  (case k_c=>k_is)
  (case a_d=>k_is)
  (case l_d=>k_is)
  (case c_d=>k_is)
  (case k_d=>k_is)
  (case a_e=>k_is)
  (case l_e=>k_is)
  (case c_e=>k_is)
  (case k_e=>k_is)
  (case a_f=>k_is)
  (case l_f=>k_is)
  (case c_f=>k_is)
  (case k_f=>k_is)
  (case a_g=>k_is)
  (case l_g=>k_is)
  (case c_g=>k_is)
  (case k_g=>k_is)
  (case a_h=>k_is)
  (case l_h=>k_is)
  (case c_h=>k_is)
  (case k_h=>k_is)
  (case a_i=>k_is)
  (case l_i=>k_is)
  (case c_i=>k_is)
  (case k_i=>k_is)
  (case a_j=>k_is)
  (case l_j=>k_is)
  (case c_j=>k_is)
  (case k_j=>k_is)
  (case a_k=>k_is)
  (case l_k=>k_is)
  (case c_k=>k_is)
  (case k_k=>k_is)
  (case a_l=>k_is)
  (case l_l=>k_is)
  (case c_l=>k_is)
  (case k_l=>k_is)
  (case a_m=>k_is)
  (case l_m=>k_is)
  (case c_m=>k_is)
  (case k_m=>k_is)
  (case a_n=>k_is)
  (case l_n=>k_is)
  (case c_n=>k_is)
  (case k_n=>k_is)
  (case z_all=>k_is)
  (case z_any=>k_is)
  (case z_bool=>k_is)
  (case z_int=>k_is)
  (case z_isinstance=>k_is)
  (case z_len=>k_is)
  (case z_list=>k_is)
  (case z_range=>k_is)
  (case z_reversed=>k_is)
  (case z_set=>k_is)
  (case z_sorted=>k_is)
  (case z_tuple=>k_is)
 case S=>exact fun w H a ns hl hS=>L3.B7 (fun ns hn=>⟨_,_,W.DE ns hn⟩) H a ns hl hS
 case C=>exact fun _ _ _ _ _ z=>z
