import PyProof.Rows.All
import Wide.All
import OpenK.AllK
import Wide.FinOn
import Lean
import PyProof.EqAt
import PyProof.EqKinds
import PyProof.TupleCall
import PyProof.ZipIter
import PyProof.AttrMissHeap
import PyProof.Walks
import PyProof.WalksS
import PySem.SetTable
import KE.KSortTup
import KE.KRevIter
import PyProof.Rows.SetFrom
import PyProof.CollectWalk
import PyProof.DictWalks
import PyProof.DictItems
import KE.KDictList
import PyProof.ListRange
import PyProof.EqAt
import PyProof.WalkInts
import PyProof.StrBlockG
import PyProof.SumWalk
import PyProof.Rows.TupIter
import PyProof.StrLawsIdx
import PyProof.CallStr
import PyProof.StrCalls2
import PyProof.StrWalks
import KE.KIntText
import PyProof.SetRoads
import PyProof.StrLawsTight
import PyProof.Rows.FStr
import PyProof.Draws
import PyProof.EnumMake
import PyProof.ConsumeWalk
import PySem.Challenge.RW_callwalk_k15_common
set_option Elab.async false
set_option linter.all false
set_option genSizeOf false
set_option genSizeOfSpec false
set_option compiler.extract_closed false
set_option maxRecDepth 100000
set_option maxHeartbeats 4000000
set_option bootstrap.genMatcherCode false
noncomputable section
abbrev JT:=@PySem.wpAny_bind
abbrev JU:=@List.length_map
abbrev JV:=@PySem.Heap.get?_push_of_some
abbrev JW:=@if_pos
abbrev JX:=@List.getElem?_set_ne
abbrev JY:=@List.getElem?_eq_some_iff
abbrev JZ:=@List.getElem?_set_self
abbrev J0:=@if_neg
abbrev J1:=@Nat.le_refl
abbrev J2:=@PySem.wpAny_pure
abbrev J3:=@List.size_toArray
abbrev J4:=@List.map_cons
abbrev J5:=@List.mem_cons
abbrev J6:=@PySem.Heap.lt_size
abbrev J7:=@PySem.PassesOwn.never
abbrev J8:=@List.mem_map
abbrev J9:=@List.getElem?_map
abbrev J_:=@Bool.false_eq_true
abbrev Ka:=@List.getElem?_append_left
abbrev Kb:=@PySem.Heap.get?_push_size
abbrev Kc:=@List.mem_cons_of_mem
abbrev Ke:=@List.getElem?_append_right
abbrev Kf:=@List.mem_append
abbrev Kg:=@List.mem_cons_self
abbrev Kh:=@Bool.and_eq_true
abbrev Ki:=@List.map_append
abbrev Kj:=@Nat.ne_of_lt
abbrev Kk:=@decide_eq_true
abbrev Kl:=@List.map_map
abbrev Km:=@List.mem_iff_getElem?
abbrev Kn:=@List.pairwise_iff_getElem
abbrev Ko:=@Ne.symm
abbrev Kp:=@List.length_append
abbrev Kq:=@Option.some.inj
abbrev Kr:=@decide_eq_false
abbrev Ks:=@Nat.lt_of_lt_of_le
abbrev Kt:=@List.mem_append_left
abbrev Ku:=@List.mem_append_right
abbrev Kv:=@List.mem_range
abbrev Kw:=@Option.map_eq_some_iff
abbrev Kx:=@decide_eq_true_iff
abbrev Ky:=@Nat.le_trans
abbrev Kz:=@Nat.zero_le
abbrev KA:=@List.getElem?_eq_getElem
abbrev KB:=@List.mem_singleton
abbrev KC:=@Array.getElem?_toList
abbrev KD:=@List.length_cons
abbrev KE:=@List.length_set
abbrev KF:=@PySem.F.slot_dict_setdefault
abbrev KG:=@PySem.W.mg_none_of
abbrev KH:=@Sum.inl.inj
abbrev KI:=@PySem.F.plainAttrs_dict
abbrev KJ:=@List.all_eq_true
abbrev KL:=@Classical.byContradiction
abbrev KM:=@List.mem_of_getElem?
abbrev KN:=@PySem.wpAny_holding
abbrev KO:=@PySem.F.type_dict_setdefault
abbrev KP:=@PySem.W.mg_of
abbrev KQ:=@congrArg
abbrev KR:=@if_false
abbrev KS:=@List.mem_filter
abbrev KU:=@PySem.sizeLine_eq
abbrev KW:=@PySem.W.kia_one
abbrev KY:=@List.not_mem_nil
abbrev KZ:=@PySem.wpAny_setState_of
abbrev K0:=@Array.getElem?_eq_some_iff
abbrev K1:=@List.nodup_cons
abbrev K3:=@PyProof.Rows.F.plain_set_update_loop
abbrev K4:=@List.map_congr_left
abbrev K5:=@PySem.Heap.get?_update_self
abbrev K6:=@List.nodup_nil
abbrev K7:=@List.getElem?_replicate
abbrev K8:=@PySem.tupleKind_room_in1
abbrev K9:=@PySem.codeAny_builtin
abbrev K_:=@List.foldl_cons
abbrev La:=@PySem.Around.under_plainId
abbrev Lb:=@PySem.Heap.get?_update_other
abbrev Lc:=@PySem.wpAny_mono
abbrev Ld:=@Array.length_toList
abbrev Le:=@PySem.mem_of_lookup
abbrev Lf:=@List.any_cons
abbrev Lg:=@List.drop_eq_getElem_cons
abbrev Lh:=@List.length_singleton
abbrev Li:=@Int.emod_lt_of_pos
abbrev Lj:=@List.pairwise_cons
abbrev Lk:=@List.Pairwise.imp_of_mem
abbrev Ll:=@List.filterMap_cons_some
abbrev Lm:=@List.mem_of_mem_take
abbrev Ln:=@Bool.not_true
abbrev Lo:=@Nat.add_sub_cancel_left
abbrev Lp:=@PySem.wpAny_truthy_bool
abbrev Lq:=@List.pairwise_map
abbrev Lr:=@List.length_range
abbrev Ls:=@List.append_nil
abbrev Lu:=@PySem.Heap.SameBut.update
abbrev Lw:=@List.any_eq_true
abbrev Lx:=@PySem.wpAny_call_entry
abbrev Ly:=@PySem.F.slot_dict_get
abbrev Lz:=@List.length_filter_le
abbrev LA:=@PySem.wpAny_passesOwn
abbrev LB:=@List.length_nil
abbrev LC:=@of_decide_eq_true
abbrev LD:=@Int.emod_nonneg
abbrev LF:=@PySem.Value.ref.injEq
abbrev LG:=@decide_eq_true_eq
abbrev LH:=@List.filterMap_cons_none
abbrev LI:=@List.eq_nil_iff_forall_not_mem
abbrev LJ:=@PySem.F.args_dict_get_3
abbrev LK:=@PySem.plainId_quiet
abbrev LL:=@PySem.F.plainAttrs_list
abbrev LM:=@List.length_take
abbrev LN:=@List.lookup_cons
abbrev LO:=@Bool.false_and
abbrev LP:=@beq_iff_eq
abbrev LQ:=@PySem.Calls.callWith_builtin
abbrev LR:=@PySem.F.entry_dict_get
abbrev LS:=@PyProof.Rows.callWith_type1
abbrev LU:=@List.find?_cons
abbrev LV:=@List.take_append_drop
abbrev LW:=@List.getElem?_eq_none
abbrev LX:=@PySem.Paired.length
abbrev LY:=@List.reverse_cons
abbrev LZ:=@List.nodup_append
abbrev L0:=@List.append_assoc
abbrev L1:=@Bool.and_self
abbrev L4:=@Prod.mk.injEq
abbrev L5:=@List.mem_iff_getElem
abbrev L6:=@List.mem_of_mem_drop
abbrev L7:=@List.getElem?_zip_eq_some
abbrev L8:=@PyProof.Rows.F.entry_set_update_loop
abbrev L9:=@Nat.le_add_right
abbrev L_:=@List.nodup_range
abbrev Mb:=@beq_eq_false_iff_ne
abbrev Md:=@List.filterMap_cons
abbrev Me:=@if_true
abbrev Mf:=@Nat.le_of_lt
abbrev Mg:=@Nat.ne_of_gt
abbrev Mh:=@PySem.wpAny_typeOf
abbrev Mi:=@List.length_erase_of_mem
abbrev Mj:=@List.take_append_getElem
abbrev Mk:=@PySem.F.slot_list_append
abbrev Ml:=@PySem.F.type_list_append
abbrev Mm:=@Nat.lt_irrefl
abbrev Mn:=@Bool.false_ne_true
abbrev Mo:=@List.mem_filterMap
abbrev Mp:=@PySem.W.KasT.kasWp_bind
abbrev Mq:=@Bool.eq_iff_iff
abbrev Mr:=@List.getElem?_cons_succ
abbrev Ms:=@List.length_pos_of_mem
abbrev Mt:=@Option.isSome_map
abbrev Mv:=@PySem.wpAny_pyIter_list
abbrev Mw:=@Nat.lt_trichotomy
abbrev Mx:=@Nat.lt_succ_of_lt
abbrev My:=@bne_self_eq_false
abbrev Mz:=@PySem.wpAny_newObj_type
abbrev MA:=@List.foldl_append
abbrev MB:=@or_false
abbrev MC:=@List.length_replicate
abbrev MD:=@PySem.wpAny_notOrdered_dict
abbrev ME:=@List.set_getElem_self
abbrev MF:=@List.filter_cons
abbrev MG:=@List.eq_nil_of_length_eq_zero
abbrev MH:=@List.mem_erase_of_ne
abbrev MI:=@List.pairwise_append
abbrev MJ:=@Sum.inr.inj
abbrev MK:=@PySem.wpAny_execs_nil
abbrev ML:=@List.length_reverse
abbrev MM:=@Bool.or_eq_true
abbrev MN:=@Int.toNat_of_nonneg
abbrev MO:=@PySem.codeAny_mono
abbrev MP:=@List.map_nil
abbrev MQ:=@Nat.lt_trans
abbrev MR:=@PySem.call_meetsIn
abbrev MS:=@Nat.lt_or_gt_of_ne
abbrev MT:=@List.any_map
abbrev MU:=@PySem.wpAny_seqItems
abbrev MV:=@PySem.Heap.size_push
abbrev MW:=@PySem.W.kitx_dict
abbrev MX:=@Nat.le_of_lt_succ
abbrev MY:=@List.ext_getElem?
abbrev MZ:=@Option.some.injEq
abbrev M7:=@Bool.eq_false_iff
abbrev M8:=@Bool.true_and
abbrev M9:=@Nat.le_of_not_lt
abbrev M_:=@Nat.lt_succ_self
abbrev Na:=@List.getElem_mem
abbrev Nb:=@List.drop_length
abbrev Nc:=@Nat.zero_add
abbrev Nd:=@List.all_map
abbrev Nf:=PySem.Shared
abbrev Ng:=PySem.W.Frag
abbrev Nh:=PySem.Program
abbrev Ni:=PySem.Value
abbrev Nj:=PySem.Around
theorem Nq (h : True := by rfl) : True := h
theorem Nk (h : True := by decide) : True := h
theorem Nn (h : ∀ u : Unit, u = u := by intro _; rfl) : True := True.intro
theorem Nl (h : True := by first|exact .inl rfl|exact .inr rfl|assumption) : True := h
theorem Nm (h : True := by first|exact Or.inl rfl|exact Or.inr (Or.inl rfl)|exact Or.inr (Or.inr rfl)) : True := h
theorem Np (h : True := by intro _ _; rfl) : True := h

namespace L2
open PySem PySem.Spec PyProof.Rows
noncomputable abbrev Key:=Sum Int Str
noncomputable def j7:Key->Ni->Bool
 | .inl k,v=>Value.isInt k v
 | .inr x,v=>Value.isStrOf x v
noncomputable def Iz (w:World):Key->Int
 | .inl k=>hashInt k
 | .inr x=>hashStr w x
theorem aU:∀{k:Key}{v:Ni},j7 k v=true->(∃ i t,k=Sum.inl i/\v=Value.int i t)\/(∃ x t,k=Sum.inr x/\v=Value.str x t)
 | .inl i,v,h=>by obtain⟨t,e⟩:=Value.isInt_shape (k:=i) (v:=v) h;exact .inl ⟨i,t,rfl,e⟩
 | .inr x,v,h=>by obtain⟨t,e⟩:=Value.isStrOf_shape (x:=x) (v:=v) h;exact .inr ⟨x,t,rfl,e⟩
theorem vR (i:Int)(t:Tok):j7 (.inl i) (.int i t)=true:=by simp[j7,Value.isInt]
theorem vS (x:Str)(t:Tok):j7 (.inr x) (.str x t)=true:=by simp[j7,Value.isStrOf]
theorem Dg (a b:Int):decide ((Sum.inl a:Key)=Sum.inl b)=(a==b):=by
 by_cases e:a=b
 .subst e;simp
 .have h:¬ (Sum.inl a:Key)=Sum.inl b:=fun q=>e (KH q);rw[Kr h];exact(Mb.mpr e).symm
theorem Dh (a b:Str):decide ((Sum.inr a:Key)=Sum.inr b)=decide (a=b):=by
 by_cases e:a=b
 .subst e;simp
 .have h:¬ (Sum.inr a:Key)=Sum.inr b:=fun q=>e (MJ q);rw[Kr h,Kr e]
theorem Di (a:Int)(b:Str):decide ((Sum.inl a:Key)=Sum.inr b)=false:=Kr (fun q=>nomatch q)
theorem Dj (a:Str)(b:Int):decide ((Sum.inr a:Key)=Sum.inl b)=false:=Kr (fun q=>nomatch q)
def au (prog:Nh)(w:World):PySem.KeyKind prog w Key where
 is:=j7
 hash:=Iz w
 inj:=fun v a b ha hb=>by
  rcases aU ha with⟨i,t,rfl,rfl⟩|⟨x,t,rfl,rfl⟩
  .rcases aU hb with⟨j,u,rfl,e⟩|⟨y,u,rfl,e⟩
   .injection e with e1 _;rw[e1]
   .exact nomatch e
  .rcases aU hb with⟨j,u,rfl,e⟩|⟨y,u,rfl,e⟩
   .exact nomatch e
   .injection e with e1 _;rw[e1]
 byValue:=fun k v h=>by rcases aU h with⟨i,t,rfl,rfl⟩|⟨x,t,rfl,rfl⟩<;>rfl
 pyHash:=fun hv h=>by
  rcases aU hv with⟨i,t,rfl,rfl⟩|⟨x,t,rfl,rfl⟩
  .exact wpAny_pyHash_int h
  .exact wpAny_pyHash_str h
 eqBool:=fun hu hv h=>by
  rcases aU hu with⟨i,t,rfl,rfl⟩|⟨x,t,rfl,rfl⟩
  .rcases aU hv with⟨j,u,rfl,rfl⟩|⟨y,u,rfl,rfl⟩
   .rw[Dg]at h;exact wpAny_eqBool_int h
   .rw[Di]at h;exact SeqAt.EqAt.int_str i t y u _ _ _ _ h
  .rcases aU hv with⟨j,u,rfl,rfl⟩|⟨y,u,rfl,rfl⟩
   .rw[Dj]at h;exact SeqAt.EqAt.str_int x t j u _ _ _ _ h
   .rw[Dh]at h;exact wpAny_eqBool_str h
 «strs»:=fun k x t v h=>by
  rcases aU h with⟨i,u,rfl,e⟩|⟨y,u,rfl,e⟩
  .exact nomatch e
  .injection e with e1 _;subst e1;cases v<;>rfl
theorem qC (prog:Nh)(w:World)(i:Int)(t:Tok):(au prog w).is (.inl i) (.int i t)=true:=vR i t
theorem qD (prog:Nh)(w:World)(x:Str)(t:Tok):(au prog w).is (.inr x) (.str x t)=true:=vS x t
inductive V where
 |non|bl (b:Bool)|int (i:Int)|str (x:Str)|byt (b:Array UInt8)|flt (b:UInt64)|ref (a:Addr)|ty (n:String)
 deriving DecidableEq
noncomputable def RelV:V->Ni->Prop
 | .non,u=>u=Value.none
 | .bl b,u=>u=Value.bool b
 | .int i,u=>∃ t,u=Value.int i t
 | .str x,u=>∃ t,u=Value.str x t
 | .byt b,u=>∃ t,u=Value.bytes b t
 | .flt b,u=>∃ t,u=Value.float b t
 | .ref a,u=>u=Value.ref a
 | .ty n,u=>u=Value.type n
abbrev Vals:List V->List Ni->Prop:=Paired RelV
theorem Vals.length {xs:List V}{us:List Ni}(r:Vals xs us):xs.length=us.length:=LX r
theorem Vals.get:∀{xs:List V}{us:List Ni}{i:Nat}{x:V},Vals xs us->xs[i]?=some x->∃ u,us[i]?=some u/\RelV x u
 |_,_,_,_,.nil,e=>by simp at e
 |_,_,0,_,.cons r _,e=>by simp at e;subst e;exact⟨_,rfl,r⟩
 |_,_,i+1,x,.cons _ t,e=>by obtain⟨u,h1,h2⟩:=Vals.get (i:=i) (x:=x) t (by simpa using e);exact⟨u,by simpa using h1,h2⟩
theorem Vals.set {x:V}{u:Ni}(r:RelV x u):∀{xs:List V}{us:List Ni}(i:Nat),Vals xs us->Vals (xs.set i x) (us.set i u)
 |_,_,_,.nil=>.nil
 |_,_,0,.cons _ t=>.cons r t
 |_,_,i+1,.cons q t=>.cons q (Vals.set r i t)
theorem Vals.append:∀{xs ys:List V}{us ws:List Ni},Vals xs us->Vals ys ws->Vals (xs++ys) (us++ws)
 |_,_,_,_,.nil,s=>s
 |_,_,_,_,.cons r t,s=>.cons r (Vals.append t s)
def RelO:Option V->Option Ni->Prop
 |some v,some u=>RelV v u
 |none,none=>True
 |_,_=>False
def KV {κ:Type}:List (κ×V)->List (κ×Ni)->Prop:=Paired fun(p:κ×V)(q:κ×Ni)=>p.1=q.1/\RelV p.2 q.2
noncomputable def kV:Key->V
 | .inl i=>.int i
 | .inr x=>.str x
inductive HO where
  
 |lst (xs:List V)
  
 |tup (xs:List V)
  
 |dK (kvs:List (Key×V))|dT (kvs:List (List Key×V))
  
 |set (S:Int->Bool) (n:Nat)
  
 |ins (C dx:Addr) (fs:List (Str×V))
  
 |own (x:Addr)
  
 |xd (fs:List (Str×V))
  
 |met (f x:Addr)
  
 |rng (lo hi:Int)
  
 |frz (o:Obj) (u:HO)
  
 |tbl (ps:Array Ni)
  
 |ext (φ:Heap->Prop)
noncomputable abbrev Hp:=Addr->Option HO
noncomputable def ay (H:Hp)(a:Addr)(o:HO):Hp:=fun b=>if b=a then some o else H b
theorem ai {H:Hp}{a:Addr}{o:HO}:ay H a o a=some o:=by unfold ay;rw[JW rfl]
theorem af {H:Hp}{a b:Addr}{o:HO}(h:b≠a):ay H a o b=H b:=by unfold ay;rw[J0 h]
theorem uq {H:Hp}{a:Addr}{o u:HO}:ay (ay H a o) a u=ay H a u:=by funext b;unfold ay;split<;>rfl
theorem Cv {H:Hp}{a b:Addr}{o u:HO}(h:H a=some o)(h':H b=some u)(d:o≠u):a≠b:=by intro e;subst e;rw[h]at h';exact d (Kq h')
theorem ap {H:Hp}{a b:Addr}{o:HO}(h:H a=some o)(h':H b=none):a≠b:=by intro e;subst e;rw[h]at h';cases h'
section
variable (P:Nh)(w:World)
def ObjOk (H:Hp)(h:Heap)(a:Addr):HO->Prop
 | .lst xs=>xs.length<=sizeLine/\∃(its:List Ni)(n:Nat),Vals xs its/\h.get? a=some { cls:=.type "list",data:=.seq its.toArray n }
 | .tup xs=>xs.length<=sizeLine/\∃ its:List Ni,Vals xs its/\IsTup h a its.toArray
 | .dK kvs=>kvs.length<=sizeLine/\(a==sysModules)=false/\∃ vs,KV kvs vs/\h.DictOf (au P w) a vs
 | .dT kvs=>kvs.length<=sizeLine/\(a==sysModules)=false/\∃ xs:List (List Key×Addr×Ni),
  Paired (fun(p:List Key×V)(q:List Key×Addr×Ni)=>p.1=q.1/\H q.2.1=some (.tup (p.1.map kV))/\RelV p.2 q.2.2) kvs xs/\
  ∃ o es ep,h.get? a=some o/\o.ExactDict/\o.data=.dict es ep/\es.toList=xs.map (entryOfKey (tupleKind (au P w)))/\(xs.map (·.1)).Nodup
 | .set S n=>h.SetOf (intKind P w) a S n
 | .ins C dx fs=>H dx=some (.own a)/\fs.length<=1000/\dx≠a/\h.get? a=some (PySem.W.instObj C dx)/\
  ∃ mA,h.Ns1 dx mA/\(∀ f,RelO (fs.lookup f) (mA f))/\PySem.Within mA (fs.map (·.1))
 | .own _=>∃ o,h.get? a=some o
 | .xd fs=>∃ mA,h.Ns1 a mA/\∀ f,RelO (fs.lookup f) (mA f)
 | .rng lo hi=>∃ t u v,h.get? a=some { cls:=.type "range",data:=.fields #[.int lo t,.int hi u,.int 1 v] }
 | .frz o u=>h.get? a=some o/\ObjOk H h a u
 | .tbl ps=>h.get? a=some { cls:=.none,data:=.fields ps }
 | .met f x=>h.get? a=some (PySem.W.methodObj (.ref f) (.ref x))
 | .ext φ=>φ h/\(∃ o,h.get? a=some o)/\∀ h1 h2:Heap,φ h1->(∀ o,h1.get? a=some o->h2.get? a=some o)->φ h2
def HOk (H:Hp)(h:Heap):Prop:=∀ a o,H a=some o->ObjOk P w H h a o
end
section
variable {P:Nh}{w:World}{H H':Hp}{h h':Heap}{a:Addr}{o:HO}
theorem ObjOk.lt (x:ObjOk P w H h a o):a<h.objs.size:=by
 cases o with
 |lst xs=>obtain⟨_,_,_,_,e⟩:=x;exact J6 e
 |tup xs=>obtain⟨_,_,_,p⟩:=x;exact p.lt
 |dK kvs=>obtain⟨_,_,_,_,o,_,_,e,_⟩:=x;exact J6 e
 |dT kvs=>obtain⟨_,_,_,_,o,_,_,e,_⟩:=x;exact J6 e
 |set S n=>obtain⟨o,_,_,_,e,_⟩:=x;exact J6 e
 |ins C dx fs=>obtain⟨_,_,_,e,_⟩:=x;exact J6 e
 |own y=>obtain⟨_,e⟩:=x;exact J6 e
 |xd fs=>obtain⟨_,⟨_,_,_,e,_⟩,_⟩:=x;exact J6 e
 |rng lo hi=>obtain⟨_,_,_,e⟩:=x;exact J6 e
 |frz ob u=>obtain⟨e,_⟩:=x;exact J6 e
 |tbl ps=>exact J6 (show h.get? a=some _ from x)
 |met f y=>exact J6 (show h.get? a=some _ from x)
 |ext φ=>obtain⟨_,⟨_,e⟩,_⟩:=x;exact J6 e
theorem Paired.mapP {α β:Type}{F G:α->β->Prop}:∀{l₁:List α}{l₂:List β},Paired F l₁ l₂->(∀ a b,F a b->G a b)->Paired G l₁ l₂
 |_,_,.nil,_=>.nil
 |_,_,.cons r t,f=>.cons (f _ _ r) (Paired.mapP t f)
theorem ObjOk.stay (x:ObjOk P w H h a o)(k:∀ b u,(b=a\/H b=some (.own a))->h.get? b=some u->h'.get? b=some u)
 (ho:∀ b,H b=some (.own a)->H' b=some (.own a)) (ht:∀ b xs,H b=some (.tup xs)->H' b=some (.tup xs)):ObjOk P w H' h' a o:=by
 induction o with
 |lst xs=>obtain⟨z,its,n,r,e⟩:=x;exact⟨z,its,n,r,k _ _ (.inl rfl) e⟩
 |tup xs=>obtain⟨z,its,r,ob,e,c⟩:=x;exact⟨z,its,r,ob,k _ _ (.inl rfl) e,c⟩
 |dK kvs=>obtain⟨z,y,vs,r,ob,es,ep,e,c⟩:=x;exact⟨z,y,vs,r,ob,es,ep,k _ _ (.inl rfl) e,c⟩
 |dT kvs=>obtain⟨z,y,xs,r,ob,es,ep,e,c⟩:=x;exact⟨z,y,xs,Paired.mapP r fun p q z=>⟨z.1,ht _ _ z.2.1,z.2.2⟩,ob,es,ep,k _ _ (.inl rfl) e,c⟩
 |set S n=>obtain⟨ob,es,ep,t,e,c⟩:=x;exact⟨ob,es,ep,t,k _ _ (.inl rfl) e,c⟩
 |ins C dx fs=>obtain⟨d,z,ne,e,mA,⟨od,es,ep,e2,c⟩,r⟩:=x;exact⟨ho _ d,z,ne,k _ _ (.inl rfl) e,mA,⟨od,es,ep,k _ _ (.inr d) e2,c⟩,r⟩
 |own y=>obtain⟨ob,e⟩:=x;exact⟨ob,k _ _ (.inl rfl) e⟩
 |xd fs=>obtain⟨mA,⟨od,es,ep,e,c⟩,r⟩:=x;exact⟨mA,⟨od,es,ep,k _ _ (.inl rfl) e,c⟩,r⟩
 |rng lo hi=>obtain⟨t,u,v,e⟩:=x;exact⟨t,u,v,k _ _ (.inl rfl) e⟩
 |frz ob u ih=>obtain⟨e,q⟩:=x;exact⟨k _ _ (.inl rfl) e,ih q⟩
 |tbl ps=>have e:h.get? a=some { cls:=.none,data:=.fields ps }:=x;show h'.get? a=some { cls:=.none,data:=.fields ps };exact k a _ (.inl rfl) e
 |met f y=>have e:h.get? a=some (PySem.W.methodObj (.ref f) (.ref y)):=x;show h'.get? a=some (PySem.W.methodObj (.ref f) (.ref y));exact k a _ (.inl rfl) e
 |ext φ=>obtain⟨p,⟨o,e⟩,st⟩:=x;exact⟨st _ _ p fun o q=>k _ _ (.inl rfl) q,⟨o,k _ _ (.inl rfl) e⟩,st⟩
theorem HOk.lt (x:HOk P w H h)(e:H a=some o):a<h.objs.size:=(x a o e).lt
theorem HOk.fresh (x:HOk P w H h)(e:h.objs.size<=a):H a=none:=by
 cases q:H a with
 |none=>rfl
 |some u=>exact absurd (Ks (x.lt q) e) (Mm _)
theorem HOk.kept (x:HOk P w H h)(k:∀ b u,h.get? b=some u->h'.get? b=some u):HOk P w H h':=fun a o e=>(x a o e).stay (fun b u _ q=>k b u q) (fun _ q=>q) fun _ _ q=>q
theorem HOk.laid (x:HOk P w H h)(k:∀ b u,h.get? b=some u->h'.get? b=some u)(hp:h.objs.size<=a)(new:ObjOk P w (ay H a o) h' a o):HOk P w (ay H a o) h':=fun b u e=>by
 have hn:=x.fresh hp;by_cases hb:b=a
 .subst hb;rw[ai]at e;cases e;exact new
 .rw[af hb]at e;exact(x b u e).stay (fun c v _ q=>k c v q) (fun c q=>by rw[af (ap q hn)];exact q) fun c xs q=>by rw[af (ap q hn)];exact q
end
def Rd (H:Hp)(a:Addr)(u:HO):Prop:=H a=some u\/∃ o,H a=some (.frz o u)
theorem Rd.ok {P:Nh}{w:World}{H:Hp}{h:Heap}{a:Addr}{u:HO}(r:Rd H a u)(x:HOk P w H h):ObjOk P w H h a u:=by
 rcases r with r|⟨o,r⟩
 .exact x a u r
 .obtain⟨_,q⟩:=x a _ r;exact q
noncomputable def FZ:Option HO->Prop
 |some (.lst _)=>True
 |some (.dK _)=>True
 |some (.dT _)=>True
 |some (.set _ _)=>True
 |some (.ins _ _ _)=>True
 |some (.ext _)=>True
 |_=>False
section
variable {P:Nh}{w:World}{H:Hp}{h h':Heap}{x e:Addr}{o':HO}
theorem HOk.write (ok:HOk P w H h)(mu:FZ (H x))(he:e=x\/H e=some (.own x))(k:∀ b u,b≠e->h.get? b=some u->h'.get? b=some u)(heo:∃ u,h'.get? e=some u)
 (new:ObjOk P w (ay H x o') h' x o'):HOk P w (ay H x o') h':=fun b u q=>by
 have nown:∀ c y,H c=some (.own y)->c≠x:=fun c y r z=>by subst z;rw[r]at mu;exact mu
 have ntup:∀ c xs,H c=some (.tup xs)->c≠x:=fun c xs r z=>by subst z;rw[r]at mu;exact mu
 by_cases hb:b=x
 .subst hb;rw[ai]at q;cases q;exact new
 .rw[af hb]at q;by_cases hbe:b=e
  .have q':H b=some (.own x):=by
    rcases he with z|z
    .exact absurd (hbe.trans z) hb
    .rw[hbe];exact z
   rw[q]at q';cases q';obtain⟨v,hv⟩:=heo;exact⟨v,by rw[hbe];exact hv⟩
  .refine(ok b u q).stay (fun c v hc r=>k c v ?_ r) (fun c r=>by rw[af (nown c b r)];exact r) fun c xs r=>by rw[af (ntup c xs r)];exact r
   rcases hc with rfl|hc
   .exact hbe
   .rintro rfl;rcases he with z|z
    .exact nown c b hc z
    .rw[hc]at z;cases z;exact hb rfl
end
def Qt (H:Hp)(b:Addr):Prop:=H b=none\/∃ xs,H b=some (.tup xs)
structure Un (fs ex:List Addr) (H H':Hp) (h h':Heap):Prop where
 keep:∀ b o,h.get? b=some o->Qt H b->b∉fs->b∉ex->h'.get? b=some o
 slot:∀ b o,h.get? b=some o->H b=none->b∈fs->b∉ex->∃ sl,h'.get? b=some { o with slots:=sl }
 free:∀ b o,h.get? b=some o->H b=none->b∉ex->H' b=none
 there:∀ b o,h.get? b=some o->b∉ex->∃ o',h'.get? b=some o'
 tups:∀ b xs,H b=some (.tup xs)->H' b=some (.tup xs)
 frzs:∀ b o u,H b=some (.frz o u)->H' b=some (.frz o u)
 tbls:∀ b ps,H b=some (.tbl ps)->∃ more,H' b=some (.tbl (ps++more))
section
variable {fs fs' ex ex':List Addr}{H H1 H2:Hp}{h h1 h2 h':Heap}{a x e:Addr}{o:HO}
theorem Un.any (u:Un fs ex H H1 h h1){b:Addr}{ob:Obj}(q:h.get? b=some ob)(n:H b=none)(hx:b∉ex):∃ sl,h1.get? b=some { ob with slots:=sl }:=by
 by_cases hb:b∈fs
 .exact u.slot b ob q n hb hx
 .exact⟨ob.slots,u.keep b ob q (.inl n) hb hx⟩
theorem Un.trans (a:Un fs ex H H1 h h1)(b:Un fs ex H1 H2 h1 h2):Un fs ex H H2 h h2 where
 keep:=fun c ob q n hc hx=>b.keep c ob (a.keep c ob q n hc hx) (n.imp (fun n=>a.free c ob q n hx) fun⟨xs,e⟩=>⟨xs,a.tups c xs e⟩) hc hx
 slot:=fun c ob q n hc hx=>by obtain⟨sl,e1⟩:=a.slot c ob q n hc hx;obtain⟨sl',e2⟩:=b.slot c _ e1 (a.free c ob q n hx) hc hx;exact⟨sl',e2⟩
 free:=fun c ob q n hx=>by obtain⟨o',e1⟩:=a.there c ob q hx;exact b.free c o' e1 (a.free c ob q n hx) hx
 there:=fun c ob q hx=>by obtain⟨o',e1⟩:=a.there c ob q hx;exact b.there c o' e1 hx
 tups:=fun c xs q=>b.tups c xs (a.tups c xs q)
 frzs:=fun c ob xs q=>b.frzs c ob xs (a.frzs c ob xs q)
 tbls:=fun c ps q=>by obtain⟨m1,e1⟩:=a.tbls c ps q;obtain⟨m2,e2⟩:=b.tbls c _ e1;exact⟨m1++m2,by rw[e2,Array.append_assoc]⟩
theorem Un.kept (k:∀ b u,h.get? b=some u->h'.get? b=some u):Un fs ex H H h h':=⟨fun b ob q _ _ _=>k b ob q,fun b ob q _ _ _=>⟨ob.slots,k b ob q⟩,fun _ _ _ n _=>n,fun b ob q _=>⟨ob,k b ob q⟩,fun _ _ q=>q,fun _ _ _ q=>q,fun _ ps q=>⟨#[],by rw[q];simp⟩⟩
theorem Un.refl:Un fs ex H H h h:=Un.kept fun _ _ q=>q
theorem Un.laid (k:∀ b u,h.get? b=some u->h'.get? b=some u)(hp:h.objs.size<=a)(hn:H a=none):Un fs ex H (ay H a o) h h' where
 keep:=fun b u q _ _ _=>k b u q
 slot:=fun b u q _ _ _=>⟨u.slots,k b u q⟩
 free:=fun b u q n _=>by rw[af (Kj (Ks (J6 q) hp))];exact n
 there:=fun b u q _=>⟨u,k b u q⟩
 tups:=fun b xs q=>by rw[af (ap q hn)];exact q
 frzs:=fun b u xs q=>by rw[af (ap q hn)];exact q
 tbls:=fun b ps q=>⟨#[],by rw[af (ap q hn),q];simp⟩
theorem Un.write (mu:FZ (H x))(he:e=x\/H e=some (.own x))(k:∀ b u,b≠e->h.get? b=some u->h'.get? b=some u)(heo:∃ u,h'.get? e=some u):Un fs ex H (ay H x o) h h':=by
 have hx:∀ b,H b=none->b≠x:=fun b n z=>by subst z;rw[n]at mu;exact mu
 have hb:∀ b,H b=none->b≠e:=fun b n z=>by
  subst z;rcases he with r|r
  .exact hx b n r
  .rw[n]at r;cases r
 have hm:∀ b u,H b=some u->¬ FZ (some u)->b≠x:=fun b u q nm z=>by subst z;rw[q]at mu;exact nm mu
 refine⟨fun b u q n _ _=>k b u (n.elim (hb b) fun⟨xs,ee⟩ z=>by rcases he with r|r;(·rw[<- r,<- z,ee]at mu;exact mu);(·rw[<- z,ee]at r;cases r)) q,fun b u q n _ _=>⟨u.slots,k b u (hb b n) q⟩,fun b u q n _=>by rw[af (hx b n)];exact n,fun b u q _=>?_,
  fun b xs q=>by rw[af (hm b _ q fun z=>z)];exact q,fun b u xs q=>by rw[af (hm b _ q fun z=>z)];exact q,fun b ps q=>⟨#[],by rw[af (hm b _ q fun z=>z),q];simp⟩⟩
 by_cases hbe:b=e
 .subst hbe;exact heo
 .exact⟨u,k b u hbe q⟩
end
noncomputable def Ii (h:Heap)(H:Hp):List Addr:=(List.range h.objs.size).filter fun a=>(H a).isSome
def qE (h:Heap)(H:Hp):Heap:=PySem.W.hideAll h (Ii h H)
theorem vT (h:Heap)(H:Hp):(qE h H).objs.size=h.objs.size:=PySem.W.hideAll_size _ _
theorem qF {h:Heap}{H:Hp}{b:Addr}{o:Obj}(e:h.get? b=some o)(n:H b=none):(qE h H).get? b=some o:=PySem.W.hideAll_get _ e fun hm=>by have q:(H b).isSome=true:=(KS.mp hm).2;rw[n]at q;simp at q
theorem As {h:Heap}{H:Hp}{b:Addr}{o:Obj}(e:(qE h H).get? b=some o):h.get? b=some o/\H b=none:=by
 have e':h.get? b=some o:=PySem.W.of_hideAll (Ii h H) e;refine⟨e',?_⟩;cases q:H b with
 |none=>rfl
 |some x=>have hm:b∈Ii h H:=KS.mpr ⟨Kv.mpr (J6 e'),by simp[q]⟩;have z:(qE h H).get? b=none:=PySem.W.hideAll_none (Ii h H) hm;rw[z]at e;cases e
noncomputable def Au (g h:Heap)(L:Addr):List (Addr×Obj):=(List.range h.objs.size).filterMap fun a=>if a=L\/(g.get? a).isSome=true then none else (h.get? a).map fun o=>(a,o)
def aZ (g h:Heap)(L d:Addr):List (Addr×Obj):=(Au g h L).filter fun p=>decide (p.1≠d)
noncomputable def JF:Ni->V
 | .str x _=>.str x
 | .ref a=>.ref a
 |_=>.non
def Av (o:Obj):Option (Addr×List V):=match o.cls with
 | .type n=>if n=="kt" then (match o.data with
  | .seq its _=>(match its.toList with
   | .ref a::r=>some (a,r.map JF)
   |_=>none)
  |_=>none) else none
 |_=>none
def WrT (K:Ng)(H:Hp):Prop:=∀ p∈K,∀ a xs,Av p.2=some (a,xs)->H a=some (.tup xs)
structure Mod (K:Ng) (mg:Str->Option Ni) (base:Heap):Prop where
 kin:K.In base
 glob:base.Ns mainGlobals mg
 blt:∃ mb,base.Ns builtinsNs mb/\∀ x:Str,x≠"__name__"->mb x=bootBuiltins x
 nolimit:base.NoLimit
structure Cx where
 prog:Nh
 w:World
 K:Ng
 mg:Str->Option Ni
 base:Heap
 A:Nj
 N:List Str
 s₀:Nf
 H₀:Hp
 env:Env
 outer:List Env
 stack:List Env
 ex:List Addr
 fn:Str->Bool
 calm:Bool
 pn:List (Addr×Obj)
 xe:Ni->Nf->Prop
noncomputable def frs (l:List Env):List Addr:=l.filterMap (·.frame)
abbrev Cx.fs (X:Cx):List Addr:=frs X.outer
def Vis (sc:Scope)(x:Str):Prop:=sc.names.lookup x=some .local\/sc.names.lookup x=some .cell\/sc.names.lookup x=some .free
def An (sc:Scope)(x:Str):Prop:=sc.names.lookup x=some .local\/sc.names.lookup x=some .cell
def Look (env:Env)(h:Heap)(m:Str->Option Ni)(x:Str)(u:Ni):Prop:=(env.kindOf x=some .local/\m x=some u)\/((env.kindOf x=some .cell\/env.kindOf x=some .free)/\∃ c,env.cells.lookup x=some c/\h.IsCell c (some u))
structure Cx.Ok (X:Cx):Prop where
 mod:Mod X.K X.mg X.base
 kind:X.env.scope.kind=.function
 glob:X.env.globals=mainGlobals
 blt:X.env.builtins=builtinsNs
 above:X.s₀.heap.objs.size<=X.env.locals
 inj:∀ x y c,X.env.cells.lookup x=some c->X.env.cells.lookup y=some c->x=y
 has:∀ x,(X.env.kindOf x=some .cell\/X.env.kindOf x=some .free)->∃ c,X.env.cells.lookup x=some c
 cab:∀ x c,X.fn x=true->X.env.cells.lookup x=some c->X.s₀.heap.objs.size<=c
 hd:X.calm=true->X.A.handled=none
 frames:X.A.frames=some X.stack
 stk:X.stack=X.outer\/(X.stack=X.env::X.outer/\X.env.frame=some X.env.locals)
 exf:∀ b∈X.ex,b≠X.env.locals/\∀ x c,X.env.cells.lookup x=some c->c≠b
 bs:∀ b o,X.base.get? b=some o->X.s₀.heap.get? b=some o/\X.H₀ b=none
 bsz:X.base.objs.size<=X.s₀.heap.objs.size
 noex:∀ b o,X.base.get? b=some o->b∉X.ex
 exfs:∀ b∈X.ex,b∉X.fs
 funs:X.s₀.heap.FunFrames X.base X.outer
 frf:∀ b∈X.fs,X.H₀ b=none
 kt:WrT X.K X.H₀
structure Inv (X:Cx) (pins:List (Addr×Obj)) (σ:List (Option V)) (H:Hp) (s:Nf):Prop where
 ok:X.Ok
 os:s.os=X.s₀.os
 bare:AllBare s.gens
 base:Un X.fs X.ex X.H₀ H X.s₀.heap s.heap
 loc:∃ m,s.heap.Ns X.env.locals m/\∀(i:Nat)(x:Str)(v:V),X.N[i]?=some x->σ[i]?=some (some v)->Vis X.env.scope x->∃ u,RelV v u/\Look X.env s.heap m x u
 cell:∀ x c,X.env.cells.lookup x=some c->∃ v,s.heap.IsCell c v
 free:H X.env.locals=none
 freeC:∀ x c,X.env.cells.lookup x=some c->H c=none
 pin:∀ p∈X.pn++pins,s.heap.get? p.1=some p.2/\H p.1=none/\p.1≠X.env.locals/\p.1∉X.fs/\∀ v,p.2.data≠.cell v
 hok:HOk X.prog X.w H s.heap
 len:σ.length=X.N.length
section
variable {X:Cx}{pins:List (Addr×Obj)}{σ:List (Option V)}{H H':Hp}{s:Nf}{h':Heap}
theorem Cx.Ok.nofr (ok:X.Ok){b:Addr}{o:Obj}(e:X.base.get? b=some o):b∉X.fs:=fun hb=>by have:=(ok.funs.mem hb).1;rw[e]at this;cases this
theorem Inv.bs (I:Inv X pins σ H s):∀ b o,X.base.get? b=some o->s.heap.get? b=some o/\H b=none:=fun b o e=>⟨I.base.keep b o (I.ok.bs b o e).1 (.inl (I.ok.bs b o e).2) (I.ok.nofr e) (I.ok.noex b o e),I.base.free b o (I.ok.bs b o e).1 (I.ok.bs b o e).2 (I.ok.noex b o e)⟩
theorem Inv.kt (I:Inv X pins σ H s):WrT X.K H:=fun p hp a xs e=>I.base.tups a xs (I.ok.kt p hp a xs e)
theorem Inv.bk (I:Inv X pins σ H s):∀ b o,X.base.get? b=some o->s.heap.get? b=some o:=fun b o e=>(I.bs b o e).1
theorem Inv.mod (I:Inv X pins σ H s):Mod X.K X.mg X.base:=I.ok.mod
theorem Inv.kIn (I:Inv X pins σ H s):X.K.In s.heap:=I.ok.mod.kin.keeps I.bk
theorem Inv.fr (I:Inv X pins σ H s):∃ m,Fr X.base X.env.locals s.heap m:=
 let ⟨m,hn,_⟩:=I.loc
 ⟨m,hn,I.bk,Ky I.ok.bsz I.ok.above⟩
theorem Inv.lt (I:Inv X pins σ H s):X.env.locals<s.heap.objs.size:=let ⟨_,hn,_⟩:=I.loc;hn.lt
theorem Inv.sz (I:Inv X pins σ H s):X.s₀.heap.objs.size<=s.heap.objs.size:=Ky I.ok.above (Mf I.lt)
theorem Inv.nofs (I:Inv X pins σ H s){a:Addr}(h:s.heap.objs.size<=a):a∉X.fs:=fun hb=>by obtain⟨_,o,ho,_⟩:=I.ok.funs.mem hb;exact absurd (Ks (J6 ho) (Ky I.sz h)) (Mm _)
theorem Inv.cne (I:Inv X pins σ H s):∀ x c,X.env.cells.lookup x=some c->c≠X.env.locals:=fun x c e z=>by obtain⟨v,o,ho,hd⟩:=I.cell x c e;obtain⟨m,⟨o',es,ep,ho',hd',_⟩,_⟩:=I.loc;rw[z,ho']at ho;cases ho;rw[hd']at hd;cases hd
theorem Inv.funs (I:Inv X pins σ H s):s.heap.FunFrames X.base X.outer:=by
 have all:∀(l:List Env),(∀ b∈frs l,b∈X.fs)->X.s₀.heap.FunFrames X.base l->s.heap.FunFrames X.base l:=by
  intro l;induction l with
  |nil=>intro _ _;trivial
  |cons env r ih=>intro hs hl;obtain⟨hk,⟨L,o,hf,hn,ho,hd⟩,hr⟩:=hl;have hL:L∈X.fs:=hs L (by unfold frs;rw[Md,hf];exact Kg);obtain⟨sl,e⟩:=I.base.slot L o ho (I.ok.frf L hL) hL fun z=>I.ok.exfs L z hL;exact⟨hk,⟨L,_,hf,hn,e,hd⟩,ih (fun b hb=>hs b (by unfold frs;rw[Md,hf];exact Kc _ hb)) hr⟩
 exact all X.outer (fun _ hb=>hb) I.ok.funs
theorem Inv.stack (I:Inv X pins σ H s):s.heap.FunFrames X.base X.stack:=by
 rcases I.ok.stk with e|⟨e,hf⟩
 .rw[e];exact I.funs
 .rw[e];obtain⟨m,hn,_⟩:=I.loc;refine .cons (by rw[I.ok.kind];decide) hf hn ?_ I.funs;exact Heap.get?_none_of_le (Ky I.ok.bsz I.ok.above)
theorem Inv.stkSub (I:Inv X pins σ H s):∀ b∈frs X.stack,b∈X.env.locals::X.fs:=fun b hb=>by
 rcases I.ok.stk with e|⟨e,hf⟩
 .rw[e]at hb;exact Kc _ hb
 .rw[e]at hb;unfold frs at hb;rw[Md,hf]at hb;exact hb
theorem Inv.stkFree (I:Inv X pins σ H s):∀ b∈frs X.stack,H b=none:=fun b hb=>by
 rcases J5.mp (I.stkSub b hb) with e|hb
 .rw[e];exact I.free
 .obtain⟨_,o,ho,_⟩:=I.ok.funs.mem hb;exact I.base.free b o ho (I.ok.frf b hb) fun z=>I.ok.exfs b z hb
theorem Inv.step {g':Array GenState}{t':Nat}{d':Drawn}{ch:List Addr}(I:Inv X pins σ H s)
 (hch:∀ b∈ch,(b∈X.ex\/X.s₀.heap.objs.size<=b)/\b≠X.env.locals/\(∀ x c,X.env.cells.lookup x=some c->c≠b)/\∀ p∈X.pn++pins,p.1≠b)
 (keep:∀ b o,b≠X.env.locals->b∉X.fs->b∉ch->s.heap.get? b=some o->Qt H b->h'.get? b=some o)
 (slot:∀ b o,b≠X.env.locals->b∈X.fs->b∉ch->s.heap.get? b=some o->H b=none->∃ sl,h'.get? b=some { o with slots:=sl }) (free:∀ b o,b∉ch->s.heap.get? b=some o->H b=none->H' b=none)
 (there:∀ b o,b∉ch->s.heap.get? b=some o->∃ o',h'.get? b=some o')
 (tups:∀ b xs,H b=some (.tup xs)->H' b=some (.tup xs)) (frzs:∀ b o u,H b=some (.frz o u)->H' b=some (.frz o u)) (tbls:∀ b ps,H b=some (.tbl ps)->∃ more,H' b=some (.tbl (ps++more)))
 (ns:∀ m,s.heap.Ns X.env.locals m->h'.Ns X.env.locals m) (hok:HOk X.prog X.w H' h') (hg:AllBare g') :
 Inv X pins σ H' { s with heap:=h',gens:=g',drawn:=d',toks:=t' }:=by
 have neL:∀ b o,X.s₀.heap.get? b=some o->b≠X.env.locals:=fun b o e=>Kj (Ks (J6 e) I.ok.above);have neC:∀ b o,X.s₀.heap.get? b=some o->b∉X.ex->b∉ch:=fun b o e hx hb=>by
  rcases (hch b hb).1 with z|z
  .exact hx z
  .exact absurd (Ks (J6 e) z) (Mm _)
 have cellK:∀ x c,X.env.cells.lookup x=some c->∀ v,s.heap.IsCell c v->h'.IsCell c v:=fun x c e v ⟨o,ho,hd⟩=>by
  have nch:c∉ch:=fun z=>(hch c z).2.2.1 x c e rfl;by_cases hc:c∈X.fs
  .obtain⟨sl,q⟩:=slot c o (I.cne x c e) hc nch ho (I.freeC x c e);exact⟨_,q,hd⟩
  .exact⟨o,keep c o (I.cne x c e) hc nch ho (.inl (I.freeC x c e)),hd⟩
 refine⟨I.ok,I.os,hg,⟨fun b o e n hb hx=>?_,fun b o e n hb hx=>?_,fun b o e n hx=>?_,fun b o e hx=>?_,fun b xs e=>tups b xs (I.base.tups b xs e),fun b o xs e=>frzs b o xs (I.base.frzs b o xs e),fun b ps e=>?_⟩,?_,fun x c e=>?_,?_,fun x c e=>?_,fun p hp=>?_,hok,I.len⟩
 .exact keep b o (neL b o e) hb (neC b o e hx) (I.base.keep b o e n hb hx) (n.imp (fun n=>I.base.free b o e n hx) fun⟨xs,q⟩=>⟨xs,I.base.tups b xs q⟩)
 .obtain⟨sl,e1⟩:=I.base.slot b o e n hb hx;obtain⟨sl',e2⟩:=slot b _ (neL b o e) hb (neC b o e hx) e1 (I.base.free b o e n hx);exact⟨sl',e2⟩
 .obtain⟨o',e1⟩:=I.base.there b o e hx;exact free b o' (neC b o e hx) e1 (I.base.free b o e n hx)
 .obtain⟨o',e1⟩:=I.base.there b o e hx;exact there b o' (neC b o e hx) e1
 .obtain⟨m1,e1⟩:=I.base.tbls b ps e;obtain⟨m2,e2⟩:=tbls b _ e1;exact⟨m1++m2,by rw[e2,Array.append_assoc]⟩
 .obtain⟨m,hn,hl⟩:=I.loc;refine⟨m,ns m hn,fun i x v e1 e2 e3=>?_⟩;obtain⟨u,r,l⟩:=hl i x v e1 e2 e3;refine⟨u,r,?_⟩;rcases l with l|⟨k,c,e,z⟩
  .exact .inl l
  .exact .inr ⟨k,c,e,cellK x c e _ z⟩
 .obtain⟨v,z⟩:=I.cell x c e;exact⟨v,cellK x c e v z⟩
 .obtain⟨m,⟨o,_,_,ho,_⟩,_⟩:=I.loc;exact free _ o (fun z=>(hch _ z).2.1 rfl) ho I.free
 .obtain⟨v,o,ho,hd⟩:=I.cell x c e;exact free c o (fun z=>(hch c z).2.2.1 x c e rfl) ho (I.freeC x c e)
 .obtain⟨e,n,ne,nf,d⟩:=I.pin p hp;have nch:p.1∉ch:=fun z=>(hch p.1 z).2.2.2 p hp rfl;exact⟨keep p.1 p.2 ne nf nch e (.inl n),free p.1 p.2 nch e n,ne,nf,d⟩
theorem Inv.un {t':Nat}(I:Inv X pins σ H s)(u:Un X.fs [] H H' s.heap h')(hok:HOk X.prog X.w H' h'):Inv X pins σ H' { s with heap:=h',toks:=t' }:=by obtain⟨m,⟨o,es,ep,ho,r⟩,_⟩:=id I.loc;obtain⟨sl,hL⟩:=u.any ho I.free (by simp);exact I.step (g':=s.gens) (d':=s.drawn) (ch:=[]) (fun _ z=>nomatch z) (fun b o _ hb _ e n=>u.keep b o e n hb (by simp)) (fun b o _ hb _ e n=>u.slot b o e n hb (by simp)) (fun b o _ e n=>u.free b o e n (by simp)) (fun b o _ e=>u.there b o e (by simp)) u.tups u.frzs u.tbls (fun m' hm=>by obtain⟨o',es',ep',ho',r'⟩:=hm;rw[ho]at ho';cases ho';exact⟨_,es',ep',hL,r'⟩) hok I.bare
theorem Inv.call {g':Array GenState}{t':Nat}{d':Drawn}{ch:List Addr}(I:Inv X pins σ H s)(u:Un (frs X.stack) ch H H' s.heap h')(hok:HOk X.prog X.w H' h')(hg:AllBare g')
 (hch:∀ b∈ch,(b∈X.ex\/X.s₀.heap.objs.size<=b)/\b≠X.env.locals/\(∀ x c,X.env.cells.lookup x=some c->c≠b)/\∀ p∈X.pn++pins,p.1≠b) :
 Inv X pins σ H' { s with heap:=h',gens:=g',drawn:=d',toks:=t' }:=by
 obtain⟨m,⟨o,es,ep,ho,r⟩,_⟩:=id I.loc;obtain⟨sl,hL⟩:=u.any ho I.free fun z=>(hch _ z).2.1 rfl;exact I.step (ch:=ch) hch (fun b o hL hb hc e n=>u.keep b o e n (fun z=>(J5.mp (I.stkSub b z)).elim hL hb) hc) (fun b o _ _ hc e n=>u.any e n hc) (fun b o hc e n=>u.free b o e n hc) (fun b o hc e=>u.there b o e hc) u.tups u.frzs u.tbls (fun m' hm=>by obtain⟨o',es',ep',ho',r'⟩:=hm;rw[ho]at ho';cases ho';exact⟨_,es',ep',hL,r'⟩) hok hg
theorem Inv.turned {t':Nat}{it:Addr}(I:Inv X pins σ H s)(k:∀ b o,b≠it->s.heap.get? b=some o->h'.get? b=some o)(hn:H it=none)(hL:it≠X.env.locals)
 (h1:it∈X.ex\/X.s₀.heap.objs.size<=it) (h2:∀ x c,X.env.cells.lookup x=some c->c≠it) (h3:∀ p∈X.pn++pins,p.1≠it):Inv X pins σ H { s with heap:=h',toks:=t' }:=by
 have nit:∀ b u,H b=some u->b≠it:=fun b u e z=>by rw[z,hn]at e;cases e
 refine I.step (g':=s.gens) (d':=s.drawn) (ch:=[it]) (fun b hb=>?_) (fun b o _ _ hc e _=>k b o (fun z=>hc (by simp[z])) e) (fun b o _ _ hc e _=>⟨o.slots,k b o (fun z=>hc (by simp[z])) e⟩) (fun _ _ _ _ n=>n)
  (fun b o hc e=>⟨o,k b o (fun z=>hc (by simp[z])) e⟩) (fun _ _ e=>e) (fun _ _ _ e=>e) (fun b ps e=>⟨#[],by rw[e];simp⟩) (fun m hm=>?_) (fun b u e=>?_) I.bare
 .have e:b=it:=by simpa using hb
  subst e;exact⟨h1,hL,h2,h3⟩
 .obtain⟨o,es,ep,ho,r⟩:=hm;exact⟨o,es,ep,k _ o (Ko hL) ho,r⟩
 .refine(I.hok b u e).stay (fun c v hc q=>k c v ?_ q) (fun _ q=>q) fun _ _ q=>q;rcases hc with z|z
  .rw[z];exact nit b u e
  .exact nit c _ z
theorem Inv.tok (I:Inv X pins σ H s)(t:Nat):Inv X pins σ H { s with toks:=t }:=I.un (h':=s.heap) (t':=t) Un.refl I.hok
theorem Inv.kept {t':Nat}(I:Inv X pins σ H s)(k:∀ b u,s.heap.get? b=some u->h'.get? b=some u):Inv X pins σ H { s with heap:=h',toks:=t' }:=I.un (Un.kept k) (I.hok.kept k)
theorem Inv.laid {a:Addr}{o:HO}{t':Nat}(I:Inv X pins σ H s)(k:∀ b u,s.heap.get? b=some u->h'.get? b=some u)(hp:s.heap.objs.size<=a)(new:ObjOk X.prog X.w (ay H a o) h' a o) :
 Inv X pins σ (ay H a o) { s with heap:=h',toks:=t' }:=I.un (Un.laid k hp (I.hok.fresh hp)) (I.hok.laid k hp new)
theorem Inv.write {x e:Addr}{o:HO}{t':Nat}(I:Inv X pins σ H s)(mu:FZ (H x))(he:e=x\/H e=some (.own x))(k:∀ b u,b≠e->s.heap.get? b=some u->h'.get? b=some u)(heo:∃ u,h'.get? e=some u)
 (new:ObjOk X.prog X.w (ay H x o) h' x o):Inv X pins σ (ay H x o) { s with heap:=h',toks:=t' }:=I.un (Un.write mu he k heo) (I.hok.write mu he k heo new)
theorem Inv.pins_of {pins':List (Addr×Obj)}(I:Inv X pins σ H s)(h:∀ p∈pins',s.heap.get? p.1=some p.2/\H p.1=none/\p.1≠X.env.locals/\p.1∉X.fs/\∀ v,p.2.data≠.cell v):Inv X pins' σ H s:=⟨I.ok,I.os,I.bare,I.base,I.loc,I.cell,I.free,I.freeC,fun p hp=>(Kf.mp hp).elim (fun z=>I.pin p (Kt _ z)) (h p),I.hok,I.len⟩
theorem qG {N:List Str}(hN:N.Nodup){i j:Nat}{x:Str}(a:N[i]?=some x)(b:N[j]?=some x):i=j:=by obtain⟨h1,e1⟩:=JY.mp a;obtain⟨h2,e2⟩:=JY.mp b;exact(List.getElem_inj hN).mp (e1.trans e2.symm)
theorem mZ {M:Model}{A:Nj}{E:Ni->Nf->Prop}{i:Nat}{x:Str}{v:V}{u:Ni}{Q:Unit->Nf->Prop}(I:Inv X pins σ H s)(hN:X.N.Nodup)(hi:X.N[i]?=some x)(hx:An X.env.scope x)(r:RelV v u)
 (h:∀ s',Inv X pins (σ.set i (some v)) H s'->(∃ a,Heap.SameBut a s.heap s'.heap/\(a=X.env.locals\/X.env.cells.lookup x=some a))->Q () s') (hf:autoParam (X.fn x=true\/X.env.scope.names.lookup x=some .local) Nl._auto_1):wpAny M A (storeName X.env x u) Q E s:=by
 obtain⟨m,hn,hl⟩:=id I.loc;have hcls:(X.env.scope.kind==.class || (X.env.scope.kind==.module&&X.env.locals != X.env.globals))=false:=by rw[I.ok.kind];rfl
 have hiσ:i<σ.length:=by rw[I.len];exact(JY.mp hi).1
 have cne:=I.cne;have tracked:∀{a:Addr}{h':Heap},(∃ o,s.heap.get? a=some o/\H a=none)->Heap.SameBut a s.heap h'->HOk X.prog X.w H h':=fun{a h'} ha hs b ob e=>by
  obtain⟨_,_,hfree⟩:=ha;refine(I.hok b ob e).stay (fun c w' hc q=>(hs.2 c ?_).trans q) (fun _ q=>q) fun _ _ q=>q;rintro rfl;rcases hc with rfl|hc
  .rw[hfree]at e;cases e
  .rw[hfree]at hc;cases hc
 rcases hx with hk|hk
 .refine wpAny_storeName_local hk hn (fun h' hn' hs=>?_) hcls;obtain⟨oL,_,_,hoL,_⟩:=id hn;refine h _ ⟨I.ok,I.os,I.bare,⟨fun b o e n hb hx=>?_,fun b o e n hb hx=>?_,I.base.free,fun b o e hx=>?_,I.base.tups,I.base.frzs,I.base.tbls⟩,⟨_,hn',fun j y v' e1 e2 e3=>?_⟩,fun y c e=>?_,I.free,I.freeC,fun p hp=>?_,tracked ⟨oL,hoL,I.free⟩ hs,by simpa using I.len⟩ ⟨_,hs,.inl rfl⟩
  .exact(hs.2 b (Kj (Ks (J6 e) I.ok.above))).trans (I.base.keep b o e n hb hx)
  .obtain⟨sl,e1⟩:=I.base.slot b o e n hb hx;exact⟨sl,(hs.2 b (Kj (Ks (J6 e) I.ok.above))).trans e1⟩
  .obtain⟨o',e1⟩:=I.base.there b o e hx;exact⟨o',(hs.2 b (Kj (Ks (J6 e) I.ok.above))).trans e1⟩
  .by_cases hj:j=i
   .subst hj;rw[hi]at e1;cases e1;rw[JZ hiσ]at e2;cases e2;exact⟨u,r,.inl ⟨hk,by simp⟩⟩
   .rw[JX (Ko hj)]at e2;obtain⟨u',r',q⟩:=hl j y v' e1 e2 e3;refine⟨u',r',?_⟩;rcases q with⟨k,e⟩|⟨k,c,e,z⟩
    .refine .inl ⟨k,?_⟩;have:y≠x:=fun e=>hj (qG hN e1 (e▸hi));simp[this,e]
    .exact .inr ⟨k,c,e,z.sameBut hs (cne y c e)⟩
  .obtain⟨w',z⟩:=I.cell y c e;exact⟨w',z.sameBut hs (cne y c e)⟩
  .obtain⟨e,n,ne,nf,d⟩:=I.pin p hp;exact⟨(hs.2 p.1 ne).trans e,n,ne,nf,d⟩
 .have hfn:X.fn x=true:=by
   rcases hf with z|z
   .exact z
   .rw[z]at hk;cases hk
  obtain⟨c,hc⟩:=I.ok.has x (.inl hk);obtain⟨w',z⟩:=I.cell x c hc;refine wpAny_storeName_cell I.ok.kind hk hc z (fun h' hc' hs=>?_);obtain⟨oc,hoc,hocd⟩:=id z;refine h { s with heap:=h' } ⟨I.ok,I.os,I.bare,⟨fun b o e n hb hx=>?_,fun b o e n hb hx=>?_,I.base.free,fun b o e hx=>?_,I.base.tups,I.base.frzs,I.base.tbls⟩,⟨m,hn.sameBut hs (Ko (cne x c hc)),fun j y v' e1 e2 e3=>?_⟩,fun y c' e=>?_,I.free,I.freeC,fun p hp=>?_,tracked ⟨oc,hoc,I.freeC x c hc⟩ hs,by simpa using I.len⟩ ⟨c,hs,.inr hc⟩
  .exact(hs.2 b (Kj (Ks (J6 e) (I.ok.cab x c hfn hc)))).trans (I.base.keep b o e n hb hx)
  .obtain⟨sl,e1⟩:=I.base.slot b o e n hb hx;exact⟨sl,(hs.2 b (Kj (Ks (J6 e) (I.ok.cab x c hfn hc)))).trans e1⟩
  .obtain⟨o',e1⟩:=I.base.there b o e hx;exact⟨o',(hs.2 b (Kj (Ks (J6 e) (I.ok.cab x c hfn hc)))).trans e1⟩
  .by_cases hj:j=i
   .subst hj;rw[hi]at e1;cases e1;rw[JZ hiσ]at e2;cases e2;exact⟨u,r,.inr ⟨.inl hk,c,hc,hc'⟩⟩
   .rw[JX (Ko hj)]at e2;obtain⟨u',r',q⟩:=hl j y v' e1 e2 e3;refine⟨u',r',?_⟩;rcases q with q|⟨k,c',e,z'⟩
    .exact .inl q
    .refine .inr ⟨k,c',e,z'.sameBut hs ?_⟩;rintro rfl;exact hj (qG hN e1 (I.ok.inj _ _ _ e hc▸hi))
  .by_cases hcc:c'=c
   .subst hcc;exact⟨_,hc'⟩
   .obtain⟨w2,z2⟩:=I.cell y c' e;exact⟨w2,z2.sameBut hs hcc⟩
  .obtain⟨e,n,ne,nf,d⟩:=I.pin p hp;refine⟨(hs.2 p.1 ?_).trans e,n,ne,nf,d⟩;intro q;rw[q,hoc]at e;have q':oc=p.2:=Kq e;exact d w' (by rw[<- q'];exact hocd)
theorem qH {M:Model}{A:Nj}{E:Ni->Nf->Prop}{i:Nat}{x:Str}{v:V}{u:Ni}{Q:Unit->Nf->Prop}(I:Inv X pins σ H s)(hN:X.N.Nodup)(hi:X.N[i]?=some x)(hx:An X.env.scope x)(r:RelV v u)
 (h:∀ s',Inv X pins (σ.set i (some v)) H s'->Q () s') (hf:autoParam (X.fn x=true\/X.env.scope.names.lookup x=some .local) Nl._auto_1):wpAny M A (storeName X.env x u) Q E s:=
 mZ I hN hi hx r (fun s' I' _=>h s' I') hf
theorem Inv.call' {s':Nf}{ch:List Addr}(I:Inv X pins σ H s)(ho:s'.os=s.os)(u:Un (frs X.stack) ch H H' s.heap s'.heap)(hok:HOk X.prog X.w H' s'.heap)(hg:AllBare s'.gens)
 (hch:∀ b∈ch,(b∈X.ex\/X.s₀.heap.objs.size<=b)/\b≠X.env.locals/\(∀ x c,X.env.cells.lookup x=some c->c≠b)/\∀ p∈X.pn++pins,p.1≠b):Inv X pins σ H' s':=by
 obtain⟨h',g',d',t',o'⟩:=s';have e:o'=s.os:=ho;subst e;exact I.call (g':=g') (t':=t') (d':=d') u hok hg hch
end
abbrev XK:=Ni->Option Addr->Hp->Prop
noncomputable abbrev St:=List (Option V)
abbrev VK:=V->Hp->Prop
abbrev TE:=St->Hp->VK->Prop
abbrev TT:=St->Hp->(Bool->Hp->Prop)->Prop
abbrev TA:=St->Hp->(List V->Hp->Prop)->Prop
structure Ends where
 nx:St->Hp->Prop
 rt:VK
 bk:St->Hp->Prop:=fun _ _=>False
 ct:St->Hp->Prop:=fun _ _=>False
abbrev TS:=Ends->St->Hp->Prop
def EP (X:Cx)(pins:List (Addr×Obj))(σ:St)(Q:VK)(u:Ni)(s':Nf):Prop:=∃ v H',Inv X pins σ H' s'/\RelV v u/\Q v H'
def TP (X:Cx)(pins:List (Addr×Obj))(σ:St)(Q:Bool->Hp->Prop)(b:Bool)(s':Nf):Prop:=∃ H',Inv X pins σ H' s'/\Q b H'
def AP (X:Cx)(pins:List (Addr×Obj))(σ:St)(Q:List V->Hp->Prop)(us:List Ni)(s':Nf):Prop:=∃ vs H',Inv X pins σ H' s'/\Vals vs us/\Q vs H'
def SP (X:Cx)(pins:List (Addr×Obj))(D:Ends)(f:Flow)(s':Nf):Prop:=
 match f with
 | .next=>∃ σ' H',Inv X pins σ' H' s'/\D.nx σ' H'
 | .brk=>∃ σ' H',Inv X pins σ' H' s'/\D.bk σ' H'
 | .cont=>∃ σ' H',Inv X pins σ' H' s'/\D.ct σ' H'
 | .ret u=>∃ v σ' H',Inv X pins σ' H' s'/\RelV v u/\D.rt v H'
def PE (X:Cx)(e:Expr)(t:TE):Prop:=∀(pins:List (Addr×Obj))(s:Nf)(σ:St)(H:Hp)(Q:VK),Inv X pins σ H s->t σ H Q->wpAny (model X.prog X.w) X.A (eval e X.env) (EP X pins σ Q) X.xe s
def PT (X:Cx)(e:Expr)(t:TT):Prop:=∀(pins:List (Addr×Obj))(s:Nf)(σ:St)(H:Hp)(Q:Bool->Hp->Prop),Inv X pins σ H s->t σ H Q->wpAny (model X.prog X.w) X.A (isTrue e X.env (eval e X.env)) (TP X pins σ Q) X.xe s
def PW (X:Cx)(e:Expr)(t:TT):Prop:=∀(whole:Sem Ni)(pins:List (Addr×Obj))(s:Nf)(σ:St)(H:Hp)(Q:Bool->Hp->Prop),Inv X pins σ H s->t σ H Q->wpAny (model X.prog X.w) X.A (isTrue e X.env whole) (TP X pins σ Q) X.xe s
theorem PW.pt {X:Cx}{e:Expr}{t:TT}(h:PW X e t):PT X e t:=h _
def PA (X:Cx)(es:List Expr)(t:TA):Prop:=∀(pos:Pos)(pins:List (Addr×Obj))(s:Nf)(σ:St)(H:Hp)(Q:List V->Hp->Prop),Inv X pins σ H s->t σ H Q->wpAny (model X.prog X.w) X.A (spliced (backTo pos (starEach es X.env))) (AP X pins σ Q) X.xe s
def PS (X:Cx)(st:Stmt)(t:TS):Prop:=∀(pins:List (Addr×Obj))(s:Nf)(σ:St)(H:Hp)(D:Ends),Inv X pins σ H s->t D σ H->wpAny (model X.prog X.w) X.A (exec st X.env) (SP X pins D) X.xe s
def PSs (X:Cx)(st:List Stmt)(t:TS):Prop:=∀(pins:List (Addr×Obj))(s:Nf)(σ:St)(H:Hp)(D:Ends),Inv X pins σ H s->t D σ H->wpAny (model X.prog X.w) X.A (execs st X.env) (SP X pins D) X.xe s
theorem bz {α:Type}{t:Sem α}{Q Q':α->Nf->Prop}{M:Model}{A:Nj}{E:Ni->Nf->Prop}{s:Nf}(h:wpAny M A t Q E s)(hQ:∀ a s,Q a s->Q' a s):wpAny M A t Q' E s:=Lc h hQ fun _ _ x=>x
section
variable {X:Cx}
noncomputable def di (i:Nat):TE:=fun σ H Q=>∃ v,σ[i]?=some (some v)/\Q v H
noncomputable def tC (v:V):TE:=fun _ H Q=>Q v H
theorem Dk {i:Nat} {x:Str} {pos:Pos} (hN:X.N[i]?=some x) (hv:Vis X.env.scope x) (hd:autoParam ((x==("__debug__" : Str))=false) Nk._auto_1) (hcd:autoParam ((x==("__classdict__" : Str))=false) Nk._auto_1):PE X (.Name x pos) (di i):=by
 intro pins s σ H Q I h;obtain⟨v,e,h⟩:=h;obtain⟨m,hn,hl⟩:=I.loc;obtain⟨u,r,l⟩:=hl i x v hN e hv;have fin:EP X pins σ Q u s:=⟨v,H,I,r,h⟩;rcases l with⟨hk,hm⟩|⟨hk,c,hc,hcell⟩
 .exact wpAny_Name (wpAny_loadName_local I.ok.kind hk hn hm fin) hd
 .rcases hk with hk|hk
  .exact wpAny_Name (wpAny_loadName_cell I.ok.kind hk hc hcell fin) hd
  .exact wpAny_Name (wpAny_loadName_free I.ok.kind hk hc hcell fin hcd) hd
theorem w_ {i j pos}:PE X (.Constant (.int i) j pos) (tC (.int i)):=fun _ _ _ H _ I h=>wpAny_Constant_int ⟨.int i,H,I.tok _,⟨_,rfl⟩,h⟩
theorem Gg {b j pos}:PE X (.Constant (.bool b) j pos) (tC (.bl b)):=fun _ _ _ H _ I h=>Constant_bool ⟨.bl b,H,I,rfl,h⟩
theorem xa {j pos}:PE X (.Constant .none j pos) (tC .non):=fun _ _ _ H _ I h=>Constant_none ⟨.non,H,I,rfl,h⟩
def Gl (X:Cx)(x:Str):Prop:=X.env.kindOf x=some .globalImplicit
theorem Aw {E:Ni->Nf->Prop}{pins:List (Addr×Obj)}{s:Nf}{σ:St}{H:Hp}{x:Str}{u:Ni}{pos:Pos}{Q:Ni->Nf->Prop}(I:Inv X pins σ H s)(hg:Gl X x)(hm:X.mg x=some u)(h:Q u s)
 (hd:autoParam ((x==("__debug__" : Str))=false) Nk._auto_1):wpAny (model X.prog X.w) X.A (eval (.Name x pos) X.env) Q E s:=
 Calls.Name_function_global I.ok.kind hg (Calls.loadGlobal_global (by rw[I.ok.glob];exact I.mod.glob.keeps I.bk) hm h) hd
theorem lc {E:Ni->Nf->Prop}{pins:List (Addr×Obj)}{s:Nf}{σ:St}{H:Hp}{x:Str}{u:Ni}{pos:Pos}{Q:Ni->Nf->Prop}(I:Inv X pins σ H s)(hg:Gl X x)(hm:X.mg x=none)(hv:bootBuiltins x=some u)(h:Q u s)
 (hn:autoParam (x≠"__name__") Nk._auto_1) (hd:autoParam ((x==("__debug__" : Str))=false) Nk._auto_1):wpAny (model X.prog X.w) X.A (eval (.Name x pos) X.env) Q E s:=by
 obtain⟨mb,h1,h2⟩:=I.mod.blt;exact Calls.Name_function_global I.ok.kind hg (Calls.loadGlobal_builtin (by rw[I.ok.glob];exact I.mod.glob.keeps I.bk) hm (by rw[I.ok.blt];exact h1.keeps I.bk) ((h2 x hn).trans hv) h) hd
theorem Ax {x:Str} {v:V} {u:Ni} {pos:Pos} (hg:Gl X x) (hm:X.mg x=none) (hv:bootBuiltins x=some u) (r:RelV v u) (hn:autoParam (x≠"__name__") Nk._auto_1) (hd:autoParam ((x==("__debug__" : Str))=false) Nk._auto_1):PE X (.Name x pos) (tC v):=fun _ _ _ H _ I h=>lc I hg hm hv ⟨v,H,I,r,h⟩ hn hd
variable {a b:Expr}{ta tb:TE}{pos:Pos}
def PC (X:Cx)(op:CmpOp)(a b:Expr)(t:TE):Prop:=
 ∀(pins:List (Addr×Obj))(s:Nf)(σ:St)(H:Hp)(Q:VK),Inv X pins σ H s->t σ H Q->
  wpAny (model X.prog X.w) X.A (eval a X.env) (fun v s₁=>wpAny (model X.prog X.w) X.A (eval b X.env) (fun u s₂=>wpAny (model X.prog X.w) X.A (compareOp op v u) (EP X pins σ Q) X.xe s₂) X.xe s₁) X.xe s
theorem qI (b:Expr){op:CmpOp}(h:op≠.In)(h2:op≠.NotIn):behindInMarks op b=false:=by
 have e1:(op==CmpOp.In)=false:=by cases op<;>first|rfl|exact absurd rfl h
 have e2:(op==CmpOp.NotIn)=false:=by cases op<;>first|rfl|exact absurd rfl h2
 cases b<;>simp[behindInMarks,e1,e2]
noncomputable def IA (ta:TE):TE:=fun σ H Q=>ta σ H fun x H1=>Q (.bl (decide (x=.non))) H1
noncomputable def Gh (ta:TE):TE:=fun σ H Q=>ta σ H fun x H1=>Q (.bl (!decide (x=.non))) H1
theorem RelV.none_iff {x:V}{v:Ni}(r:RelV x v):(v==Value.none)=decide (x=.non):=by
 cases x with
 |non=>cases r;rfl
 |bl _=>cases r;rfl
 |int _=>obtain⟨t,rfl⟩:=r;rfl
 |str _=>obtain⟨t,rfl⟩:=r;rfl
 |byt _=>obtain⟨t,rfl⟩:=r;rfl
 |flt _=>obtain⟨t,rfl⟩:=r;rfl
 |ref _=>cases r;rfl
 |ty _=>cases r;rfl
theorem xb {j pos'}(ha:PE X a ta):PC X .Is a (.Constant .none j pos') (IA ta):=by intro pins s σ H Q I h;refine bz (ha pins s σ H _ I h) fun v s1 ⟨x,H1,I1,r1,q1⟩=>?_;exact Constant_none (is_none_gen ⟨.bl _,H1,I1,by rw[r1.none_iff];rfl,q1⟩)
theorem Ay {j pos'}(ha:PE X a ta):PC X .IsNot a (.Constant .none j pos') (Gh ta):=by intro pins s σ H Q I h;refine bz (ha pins s σ H _ I h) fun v s1 ⟨x,H1,I1,r1,q1⟩=>?_;exact Constant_none (isnot_none_gen ⟨.bl _,H1,I1,by rw[r1.none_iff];rfl,q1⟩)
noncomputable def tB (t:TE):TT:=fun σ H Q=>t σ H fun x H1=>∃ c,x=.bl c/\Q c H1
theorem Dm {op:CmpOp}{t:TE}(h:PC X op a b t)(h1:behindInMarks op b=false:=by first|exact qI _ (by decide) (by decide)|rfl):PE X (.Compare a [op] [b] pos) t:=fun pins s σ H Q I hw=>wpAny_Compare1 (h pins s σ H Q I hw) h1
theorem xc {op:CmpOp}{t:TE}(h:PC X op a b t)(h1:behindInMarks op b=false:=by first|exact qI _ (by decide) (by decide)|rfl):PT X (.Compare a [op] [b] pos) (tB t):=by intro pins s σ H Q I hw;refine wpAny_isTrue_Compare1 (bz (h pins s σ H _ I hw) fun v s1 h1=>bz h1 fun u s2 h2=>bz h2 fun c s3 ⟨x,H1,I1,r1,q1⟩=>?_) h1;obtain⟨d,rfl,q⟩:=q1;cases r1;exact Lp ⟨H1,I1,q⟩
variable {tA tB':TT}{aZ:List Expr}
noncomputable def IB (t u:TT):TT:=fun σ H Q=>t σ H fun c H1=>if c=true then u σ H1 Q else Q false H1
noncomputable def JG (t u:TT):TT:=fun σ H Q=>t σ H fun c H1=>if c=true then Q true H1 else u σ H1 Q
noncomputable def IC (t:TT):TT:=fun σ H Q=>t σ H fun c H1=>Q (!c) H1
theorem Az (ha:PT X a tA):PW X (.BoolOp .And [a] pos) tA:=by
 intro wh pins s σ H Q I h;refine isTrue_and (bz (ha pins s σ H Q I h) fun c s1 e=>?_);cases c with
 |true=>exact isTrue_and_nil e
 |false=>exact e
theorem Dn (ha:PT X a tA):PW X (.BoolOp .Or [a] pos) tA:=by
 intro wh pins s σ H Q I h;refine isTrue_or (bz (ha pins s σ H Q I h) fun c s1 e=>?_);cases c with
 |false=>exact isTrue_or_nil e
 |true=>exact e
theorem Do (ha:PT X a tA)(hb:PW X (.BoolOp .And (b::aZ) pos) tB'):PW X (.BoolOp .And (a::b::aZ) pos) (IB tA tB'):=by
 intro wh pins s σ H Q I h;refine isTrue_and (bz (ha pins s σ H _ I h) fun c s1 ⟨H1,I1,q1⟩=>?_);cases c with
 |true=>exact hb wh pins s1 σ H1 Q I1 q1
 |false=>exact⟨H1,I1,q1⟩
theorem Gi (ha:PT X a tA)(hb:PW X (.BoolOp .Or (b::aZ) pos) tB'):PW X (.BoolOp .Or (a::b::aZ) pos) (JG tA tB'):=by
 intro wh pins s σ H Q I h;refine isTrue_or (bz (ha pins s σ H _ I h) fun c s1 ⟨H1,I1,q1⟩=>?_);cases c with
 |true=>exact⟨H1,I1,q1⟩
 |false=>exact hb wh pins s1 σ H1 Q I1 q1
theorem Dp (ha:PT X a tA):PT X (.UnaryOp .Not a pos) (IC tA):=by intro pins s σ H Q I h;exact isTrue_not (ha pins s σ H (fun c H1=>Q (!c) H1) I h)
noncomputable def Gj (ta tb:TE):TE:=fun σ H Q=>ta σ H fun x H1=>∃ c,x=.bl c/\if c=true then tb σ H1 Q else Q (.bl false) H1
noncomputable def Gk (ta:TE):TE:=fun σ H Q=>ta σ H fun x H1=>∃ c,x=.bl c/\Q (.bl (!c)) H1
theorem Dq {op}{t:TE}(h:PE X a t):PE X (.BoolOp op [a] pos) t:=fun pins s σ H Q I hw=>BoolOp_one (h pins s σ H Q I hw)
theorem Dr (ha:PE X a ta)(hb:PE X (.BoolOp .And (b::aZ) pos) tb):PE X (.BoolOp .And (a::b::aZ) pos) (Gj ta tb):=by
 intro pins s σ H Q I h;refine BoolOp_and (bz (ha pins s σ H _ I h) fun v s1 ⟨x,H1,I1,r1,q1⟩=>?_);obtain⟨c,rfl,q1⟩:=q1;cases r1;refine Lp ?_;cases c with
 |true=>exact hb pins s1 σ H1 Q I1 q1
 |false=>exact⟨.bl false,H1,I1,rfl,q1⟩
theorem Ds (ha:PE X a ta):PE X (.UnaryOp .Not a pos) (Gk ta):=by intro pins s σ H Q I h;refine UnaryOp_ (bz (ha pins s σ H _ I h) fun v s1 ⟨x,H1,I1,r1,q1⟩=>?_);obtain⟨c,rfl,q1⟩:=q1;cases r1;exact not_of (Lp ⟨.bl (!c),H1,I1,rfl,q1⟩)
end
def SqL (K:Ng)(H:Hp)(a:Addr)(xs:List V):Prop:=
 Rd H a (.lst xs)\/
  ∃(o:Obj)(its:Array Ni)(n:Nat),K.lookup a=some o/\o.cls=.type "list"/\o.dict=none/\o.data=.seq its n/\its.size<=sizeLine/\Vals xs its.toList
def SqT (K:Ng)(H:Hp)(a:Addr)(xs:List V):Prop:=
 Rd H a (.tup xs)\/
  ∃(o:Obj)(its:Array Ni)(n:Nat),K.lookup a=some o/\o.cls=.type "tuple"/\o.data=.seq its n/\its.size<=sizeLine/\Vals xs its.toList
noncomputable def ID:Ni->Option V
 | .none=>some .non
 | .bool b=>some (.bl b)
 | .int i _=>some (.int i)
 | .str x _=>some (.str x)
 | .bytes b _=>some (.byt b)
 | .float b _=>some (.flt b)
 | .ref a=>some (.ref a)
 | .type n=>some (.ty n)
 |_=>none
theorem RelV.abs {x:V}{u:Ni}(r:RelV x u):ID u=some x:=by
 cases x with
 |non=>cases r;rfl
 |bl _=>cases r;rfl
 |int _=>obtain⟨t,rfl⟩:=r;rfl
 |str _=>obtain⟨t,rfl⟩:=r;rfl
 |byt _=>obtain⟨t,rfl⟩:=r;rfl
 |flt _=>obtain⟨t,rfl⟩:=r;rfl
 |ref _=>cases r;rfl
 |ty _=>cases r;rfl
theorem RelV.inj {x y:V}{u:Ni}(r:RelV x u)(q:RelV y u):x=y:=Kq (r.abs.symm.trans q.abs)
theorem Vals.inj:∀{xs ys:List V}{us:List Ni},Vals xs us->Vals ys us->xs=ys
 |_,_,_,.nil,.nil=>rfl
 |_,_,_,.cons r t,.cons r' t'=>by rw[r.inj r',Vals.inj t t']
section
variable {X:Cx}{pins:List (Addr×Obj)}{σ:St}{H:Hp}{s:Nf}{a:Addr}{xs ys:List V}
theorem SqL.of {K:Ng}(h:H a=some (.lst xs)):SqL K H a xs:=.inl (.inl h)
theorem SqT.of {K:Ng}(h:H a=some (.tup xs)):SqT K H a xs:=.inl (.inl h)
theorem Inv.list (I:Inv X pins σ H s)(h:SqL X.K H a xs):∃ its:List Ni,Vals xs its/\PlainL s.heap a its.toArray/\xs.length<=sizeLine:=by
 rcases h with h|⟨o,its,n,hk,hc,hd,hs,hz,r⟩
 .obtain⟨z,its,n,r,e⟩:=h.ok I.hok;exact⟨its,r,⟨_,n,e,rfl,rfl,rfl⟩,z⟩
 .refine⟨its.toList,r,⟨o,n,I.kIn a o hk,hc,hd,by simpa using hs⟩,?_⟩;have e:=r.length;simp only[Ld]at e;omega
theorem Inv.tuple (I:Inv X pins σ H s)(h:SqT X.K H a xs):∃ its:List Ni,Vals xs its/\IsTup s.heap a its.toArray/\xs.length<=sizeLine:=by
 rcases h with h|⟨o,its,n,hk,hc,hs,hz,r⟩
 .obtain⟨z,its,r,p⟩:=h.ok I.hok;exact⟨its,r,p,z⟩
 .refine⟨its.toList,r,⟨o,I.kIn a o hk,hc,n,by simpa using hs⟩,?_⟩;have e:=r.length;simp only[Ld]at e;omega
theorem Inv.list_inj (I:Inv X pins σ H s)(h:SqL X.K H a xs)(h':SqL X.K H a ys):xs=ys:=by
 obtain⟨its,r,⟨o,n,e,_,_,d⟩,_⟩:=I.list h;obtain⟨its',r',⟨o',n',e',_,_,d'⟩,_⟩:=I.list h';rw[e]at e';cases e';rw[d]at d';injection d' with d1 _;have:its=its':=by simpa using KQ Array.toList d1
 subst this;exact r.inj r'
theorem Inv.tuple_inj (I:Inv X pins σ H s)(h:SqT X.K H a xs)(h':SqT X.K H a ys):xs=ys:=by
 obtain⟨its,r,⟨o,e,_,n,d⟩,_⟩:=I.tuple h;obtain⟨its',r',⟨o',e',_,n',d'⟩,_⟩:=I.tuple h';rw[e]at e';cases e';rw[d]at d';injection d' with d1 _;have:its=its':=by simpa using KQ Array.toList d1
 subst this;exact r.inj r'
end
noncomputable abbrev Cx.wish (X:Cx)(E:Ni->Nf->Prop):Cx:={ X with xe:=E }
abbrev Cx.nox (X:Cx):Cx:=X.wish fun _ _=>False
theorem Cx.Ok.wish {X:Cx}(ok:X.Ok)(E:Ni->Nf->Prop):(X.wish E).Ok:=⟨ok.mod,ok.kind,ok.glob,ok.blt,ok.above,ok.inj,ok.has,ok.cab,ok.hd,ok.frames,ok.stk,ok.exf,ok.bs,ok.bsz,ok.noex,ok.exfs,ok.funs,ok.frf,ok.kt⟩
theorem Cx.Ok.unwish {X:Cx}{E:Ni->Nf->Prop}(ok:(X.wish E).Ok):X.Ok:=⟨ok.mod,ok.kind,ok.glob,ok.blt,ok.above,ok.inj,ok.has,ok.cab,ok.hd,ok.frames,ok.stk,ok.exf,ok.bs,ok.bsz,ok.noex,ok.exfs,ok.funs,ok.frf,ok.kt⟩
section
variable {X:Cx}{pins:List (Addr×Obj)}{σ:St}{H:Hp}{s:Nf}{E:Ni->Nf->Prop}
theorem Inv.wish (I:Inv X pins σ H s)(E:Ni->Nf->Prop):Inv (X.wish E) pins σ H s:=⟨I.ok.wish E,I.os,I.bare,I.base,I.loc,I.cell,I.free,I.freeC,I.pin,I.hok,I.len⟩
theorem Inv.unwish (I:Inv (X.wish E) pins σ H s):Inv X pins σ H s:=⟨I.ok.unwish,I.os,I.bare,I.base,I.loc,I.cell,I.free,I.freeC,I.pin,I.hok,I.len⟩
theorem SP.unwish {D:Ends}{f:Flow}{s':Nf}(h:SP (X.wish E) pins D f s'):SP X pins D f s':=by
 cases f with
 |next=>obtain⟨σ',H',I,q⟩:=h;exact⟨σ',H',I.unwish,q⟩
 |brk=>obtain⟨σ',H',I,q⟩:=h;exact⟨σ',H',I.unwish,q⟩
 |cont=>obtain⟨σ',H',I,q⟩:=h;exact⟨σ',H',I.unwish,q⟩
 |ret u=>obtain⟨v,σ',H',I,r,q⟩:=h;exact⟨v,σ',H',I.unwish,r,q⟩
theorem PSs.nox {st:List Stmt}{t:TS}(h:PSs X.nox st t):PSs X st t:=fun pins s σ H D I hw=>Lc (h pins s σ H D (I.wish _) hw) (fun _ _ q=>q.unwish) fun _ _ z=>False.elim z
end
section
variable {X:Cx}{st:Stmt}{aZ:List Stmt}{t u:TS}{e:Expr}{te:TE}{pos:Pos}
noncomputable def Gm:TS:=fun D σ H=>D.nx σ H
noncomputable def IE (t u:TS):TS:=fun D σ H=>t { D with nx:=u D } σ H
theorem AA:PSs X [] Gm:=fun _ _ σ H _ I h=>MK ⟨σ,H,I,h⟩
theorem qJ (h1:PS X st t)(h2:PSs X aZ u):PSs X (st::aZ) (IE t u):=by
 intro pins s σ H D I h;refine wpAny_execs_cons (bz (h1 pins s σ H { D with nx:=u D } I h) fun f s1 q=>?_);cases f with
 |next=>obtain⟨σ',H',I',q⟩:=q;exact h2 pins s1 σ' H' D I' q
 |ret v=>exact q
 |brk=>exact q
 |cont=>exact q
theorem ur (h1:PS X st t):PSs X [st] t:=by
 intro pins s σ H D I h;refine wpAny_execs_cons (bz (h1 pins s σ H D I h) fun f s1 q=>?_);cases f with
 |next=>exact MK q
 |ret v=>exact q
 |brk=>exact q
 |cont=>exact q
theorem Inv.quiet {pins:List (Addr×Obj)}{σ:St}{H:Hp}{s:Nf}(I:Inv X pins σ H s):interactive X.env=false:=by simp[interactive,I.ok.kind]
noncomputable def xf (te:TE):TS:=fun D σ H=>te σ H fun _ H1=>D.nx σ H1
theorem kJ (he:PE X e te)(hs:autoParam (swapsWith e none pos.line X.env=pure false) Nq._auto_1):PS X (.Expr e pos) (xf te):=by intro pins s σ H D I h;exact wpAny_Expr_any (bz (he pins s σ H _ I h) fun v s1 ⟨x,H1,I1,r1,q1⟩=>⟨σ,H1,I1,q1⟩) I.quiet hs
noncomputable def IF (te:TE):TS:=fun D σ H=>te σ H D.rt
theorem xg (he:PE X e te):PS X (.Return (some e) pos) (IF te):=by intro pins s σ H D I h;exact wpAny_Return_some (bz (he pins s σ H _ I h) fun v s1 ⟨x,H1,I1,r1,q1⟩=>⟨x,σ,H1,I1,r1,q1⟩)
noncomputable def IG (c:TT)(t u:TS):TS:=fun D σ H=>c σ H fun b H1=>if b=true then t D σ H1 else u D σ H1
theorem Gn {c:Expr}{a b:List Stmt}{tc:TT}(hc:PT X c tc)(ha:PSs X a t)(hb:PSs X b u):PS X (.If c a b pos) (IG tc t u):=by
 intro pins s σ H D I h;refine wpAny_If (bz (hc pins s σ H _ I h) fun d s1 ⟨H1,I1,q1⟩=>?_);cases d with
 |true=>exact ha pins s1 σ H1 D I1 q1
 |false=>exact hb pins s1 σ H1 D I1 q1
end
abbrev TG:=V->St->Hp->(St->Hp->Prop)->Prop
abbrev Cw:=List V->St->Hp->(St->Hp->Prop)->Prop
def PG (X:Cx)(target:Expr)(t:TG):Prop:=
 ∀(pins:List (Addr×Obj))(s:Nf)(σ:St)(H:Hp)(v:V)(u:Ni)(Q:St->Hp->Prop),Inv X pins σ H s->RelV v u->t v σ H Q->
  wpAny (model X.prog X.w) X.A (assign target X.env u) (fun _ s'=>∃ σ' H',Inv X pins σ' H' s'/\Q σ' H') X.xe s
def Dt (X:Cx)(ts:List Expr)(t:Cw):Prop:=
 ∀(pins:List (Addr×Obj))(s:Nf)(σ:St)(H:Hp)(vs:List V)(us:List Ni)(Q:St->Hp->Prop),Inv X pins σ H s->Vals vs us->t vs σ H Q->
  wpAny (model X.prog X.w) X.A (assignInOrder ((assignEach ts X.env).map (·.2)) us) (fun _ s'=>∃ σ' H',Inv X pins σ' H' s'/\Q σ' H') X.xe s
abbrev Du:=V->V->V->Hp->(Hp->Prop)->Prop
def Gp (X:Cx)(t:Du):Prop:=
 ∀(pins:List (Addr×Obj))(s:Nf)(σ:St)(H:Hp)(o i v:V)(ov iv u:Ni)(Q:Hp->Prop),Inv X pins σ H s->RelV o ov->RelV i iv->RelV v u->t o i v H Q->
  wpAny (model X.prog X.w) X.A (setItem ov iv u) (fun _ s'=>∃ H',Inv X pins σ H' s'/\Q H') X.xe s
section
variable {X:Cx}{pos:Pos}
noncomputable def gs (i:Nat):TG:=fun v σ H Q=>Q (σ.set i (some v)) H
theorem iG {i:Nat}{x:Str}(hN:X.N.Nodup)(hi:X.N[i]?=some x)(hx:An X.env.scope x)(hf:autoParam (X.fn x=true\/X.env.scope.names.lookup x=some .local) Nl._auto_1):PG X (.Name x pos) (gs i):=by intro pins s σ H v u Q I r h;exact wpAny_assign_Name (qH I hN hi hx r (fun s' I'=>⟨_,H,I',h⟩) hf)
noncomputable def Gs:Cw:=fun vs σ H Q=>vs=[]/\Q σ H
noncomputable def qK (t:TG)(u:Cw):Cw:=fun vs σ H Q=>∃ v r,vs=v::r/\t v σ H fun σ' H'=>u r σ' H' Q
theorem ut:Dt X [] Gs:=by intro pins s σ H vs us Q I r h;obtain⟨e,h⟩:=h;subst e;cases r;exact assignInOrder_nil ⟨σ,H,I,h⟩
theorem dG {e:Expr}{es:List Expr}{t:TG}{u:Cw}(h1:PG X e t)(h2:Dt X es u)
 (hs:autoParam ((assignEach (e::es) X.env).map (·.2)=assign e X.env::(assignEach es X.env).map (·.2)) Nq._auto_1):Dt X (e::es) (qK t u):=by
 intro pins s σ H vs us Q I r h;obtain⟨v,vr,e1,h⟩:=h;subst e1;cases r with
 |cons r rr=>rw[hs];refine assignInOrder_cons (bz (h1 pins s σ H _ _ _ I r h) fun _ s1 ⟨σ1,H1,I1,q1⟩=>?_);exact h2 pins s1 σ1 H1 _ _ Q I1 rr q1
noncomputable def Gu (K:Ng)(n:Nat)(t:Cw):TG:=fun v σ H Q=>∃ a xs,v=.ref a/\SqT K H a xs/\xs.length=n/\t xs σ H Q
theorem xh {es:List Expr}{k:Nat}{t:Cw}{n:Nat}(hc:X.calm=true)(h:Dt X es t)
 (hn:autoParam ((assignEach es X.env).length=n) Nq._auto_1) (hst:autoParam ((assignEach es X.env).findIdx? (·.1)=none) Nq._auto_1):PG X (.Tuple es k pos) (Gu X.K n t):=by
 intro pins s σ H v u Q I r hw;obtain⟨a,xs,e1,hq,hl,hw⟩:=hw;subst e1;cases r;obtain⟨its,rv,ht,hz⟩:=I.tuple hq;refine assign_Tuple_tuple (I.ok.hd hc) ht (by simp[hn,<- hl,rv.length]) hst fun h' hx=>?_;have I1:Inv X pins σ H { s with heap:=h' }:=I.kept (t':=s.toks) fun b o e=>hx b o (Kj (J6 e)) e;exact h pins _ σ H xs _ Q I1 (by simpa using rv) hw
noncomputable def IH (to ti:TE)(t:Du):TG:=fun v σ H Q=>to σ H fun o H1=>ti σ H1 fun i H2=>t o i v H2 fun H3=>Q σ H3
theorem Dv {o i:Expr}{to ti:TE}{t:Du}(ho:PE X o to)(hi:PE X i ti)(hs:Gp X t)
 (ha:autoParam (∀ v,assign (.Subscript o i pos) X.env v=(do
   let ov <- holding [v] (eval o X.env)
   let iv <- holding [v,ov] (eval i X.env)
   standAt pos
   holding [v,ov,iv] (setItem ov iv v)
   release [v,ov,iv] [])) Nn._auto_1):PG X (.Subscript o i pos) (IH to ti t):=by
 intro pins s σ H v u Q I r h;rw[ha];refine JT (KN (bz (ho pins s σ H _ I h) fun ov s1 ⟨x,H1,I1,r1,q1⟩=>?_));refine JT (KN (bz (hi pins s1 σ H1 _ I1 q1) fun iv s2 ⟨y,H2,I2,r2,q2⟩=>?_));refine JT (wpAny_standAt (JT (KN (bz (hs pins s2 σ H2 x y v ov iv u _ I2 r1 r2 r q2) fun _ s3 ⟨H3,I3,q3⟩=>?_))));exact wpAny_release ⟨σ,H3,I3,q3⟩
noncomputable def xi (te:TE)(g:TG):TS:=fun D σ H=>te σ H fun x H1=>g x σ H1 D.nx
theorem Dw {tg e:Expr}{te:TE}{g:TG}(he:PE X e te)(hg:PG X tg g)(hs:autoParam (swapsWithSole [tg] e pos.line X.env=pure false) Nq._auto_1)(hw:autoParam (swappedStores [tg] e X.env=pure none) Nq._auto_1)
 (h1:autoParam ((assignEach [tg] X.env).map (·.2)=[assign tg X.env]) Nq._auto_1):PS X (.Assign [tg] e pos) (xi te g):=by
 intro pins s σ H D I h;refine wpAny_Assign_stores (bz (he pins s σ H _ I h) fun v s1 ⟨x,H1,I1,r1,q1⟩=>?_) hs hw;rw[h1];exact bz (hg pins s1 σ H1 x v _ I1 r1 q1) fun _ s2 q=>q
theorem fK {i:Nat}{x:Str}{e:Expr}{te:TE}{pos':Pos}(hN:X.N.Nodup)(hi:X.N[i]?=some x)(hx:An X.env.scope x)(he:PE X e te)(hs:autoParam (swapsWith e (some (.Name x pos')) pos.line X.env=pure false) Nq._auto_1)(hf:autoParam (X.fn x=true\/X.env.scope.names.lookup x=some .local) Nl._auto_1) :
 PS X (.Assign [.Name x pos'] e pos) (xi te (gs i)):=by
 intro pins s σ H D I h;refine wpAny_Assign_Name (bz (he pins s σ H _ I h) fun v s1 ⟨y,H1,I1,r1,q1⟩=>?_) hs;exact qH I1 hN hi hx r1 (fun s2 I2=>⟨_,H1,I2,q1⟩) hf
def Dx (c:TT)(tb:TS):TS:=fun D σ H=>∃ W:Nat->St->Hp->Prop,(∃ m,W m σ H)/\∀ m σ H,W m σ H->
 c σ H fun b H1=>if b=true then ∃ N:St->Hp->Prop,(∀ σ' H',N σ' H'->∃ m',m'<m/\W m' σ' H')/\tb { D with nx:=N,ct:=N,bk:=D.nx } σ H1 else D.nx σ H1
theorem xj {c:Expr}{body:List Stmt}{tc:TT}{tb:TS}(hp:PassesOwn (model X.prog X.w) X.A X.env X.xe)(hc:PT X c tc)(hb:PSs X body tb):PS X (.While c body [] pos) (Dx tc tb):=by
 intro pins s σ H D I h;obtain⟨W,⟨m0,w0⟩,turn⟩:=h;refine wpAny_While (codeAny_whileLoop (fun n s'=>∃ σ' H',Inv X pins σ' H' s'/\W n σ' H') ?_ m0 ⟨σ,H,I,w0⟩);rintro n s1 ⟨σ1,H1,I1,w1⟩;refine LA hp (bz (hc pins s1 σ1 H1 _ I1 (turn n σ1 H1 w1)) fun b s2 ⟨H2,I2,q2⟩=>?_);cases b with
 |true=>
  obtain⟨N,hN,q2⟩:=q2;rw[JW rfl];refine LA hp (bz (hb pins s2 σ1 H2 _ I2 q2) fun f s3 q3=>?_);cases f with
  |next=>obtain⟨σ3,H3,I3,n3⟩:=q3;obtain⟨m',hm,w3⟩:=hN σ3 H3 n3;exact⟨m',hm,σ3,H3,I3,w3⟩
  |cont=>obtain⟨σ3,H3,I3,n3⟩:=q3;obtain⟨m',hm,w3⟩:=hN σ3 H3 n3;exact⟨m',hm,σ3,H3,I3,w3⟩
  |brk=>exact q3
  |ret v=>exact q3
 |false=>rw[J0 Mn];exact MK ⟨σ1,H2,I2,q2⟩
end
structure It where
 go:Nat->Hp->Prop
 yld:Nat->Hp->V->Hp->Prop
 stop:Nat->Hp->Prop
def FpOk (X:Cx)(pins:List (Addr×Obj))(H:Hp)(b:Addr):Prop:=H b=none/\b≠X.env.locals/\b∉X.fs/\(b∈X.ex\/X.s₀.heap.objs.size<=b)/\(∀ x c,X.env.cells.lookup x=some c->c≠b)/\∀ p∈X.pn++pins,p.1≠b
theorem Inv.fpOk {X:Cx}{pins:List (Addr×Obj)}{σ:St}{H H':Hp}{s:Nf}{b:Addr}(I:Inv X pins σ H s)(hb:s.heap.objs.size<=b)(hn:H' b=none):FpOk X pins H' b:=by
 refine⟨hn,Mg (Ks I.lt hb),I.nofs hb,.inr (Ky I.sz hb),fun x c e z=>?_,fun p hp z=>?_⟩
 .obtain⟨v,q⟩:=I.cell x c e;exact absurd (Ks q.lt (by rw[z];exact hb)) (Mm _)
 .exact absurd (Ks (J6 (I.pin p hp).1) (by rw[z];exact hb)) (Mm _)
structure Turn (P:Nh) (w:World) (K:Ng) (tg:Expr) (J:It) (fp:List Addr) (it:Addr) (tn:Nat->Heap->Prop):Prop where
 mem:it∈fp
 obj:∀ i h,tn i h->∀ b∈fp,∃ o,h.get? b=some o/\∀ v,o.data≠.cell v
 keep:∀ i h h',tn i h->(∀ b∈fp,∀ o,h.get? b=some o->h'.get? b=some o)->tn i h'
 item:∀(X:Cx),X.prog=P->X.w=w->X.K=K->X.calm=true->∀(i:Nat)(pins:List (Addr×Obj))(s:Nf)(σ:St)(H:Hp)(E:Ni->Nf->Prop),Inv X pins σ H s->(∀ b∈fp,FpOk X pins H b)->tn i s.heap->J.go i H->
  wpAny (model P w) X.A (pyNext (.ref it)) (fun r s1=>∃ u,r=some u/\
   wpAny (model P w) X.A (letOwnedTupleGo tg (.ref it) u) (fun _ s2=>∃ x H',Inv X pins σ H' s2/\RelV x u/\J.yld i H x H'/\tn (i+1) s2.heap/\∀ b∈fp,H' b=none) E s1) E s
 done:∀(X:Cx),X.prog=P->X.w=w->X.K=K->X.calm=true->∀(i:Nat)(pins:List (Addr×Obj))(s:Nf)(σ:St)(H:Hp)(E:Ni->Nf->Prop),Inv X pins σ H s->(∀ b∈fp,FpOk X pins H b)->tn i s.heap->J.stop i H->
  wpAny (model P w) X.A (pyNext (.ref it)) (fun r s1=>r=none/\Inv X pins σ H s1) E s
 self:∀(A:Nj)(i:Nat)(s:Nf)(Q:Ni->Nf->Prop)(E:Ni->Nf->Prop),tn i s.heap->Q (.ref it) s->wpAny (model P w) A (pyIter (.ref it)) Q E s
abbrev TI:=St->Hp->(It->Hp->Prop)->Prop
def Ij (X:Cx)(pins:List (Addr×Obj))(σ:St)(tg:Expr)(R:It->Hp->Prop)(itv:Ni)(s2:Nf):Prop:=∃(it:Addr)(fp:List Addr)(tn:Nat->Heap->Prop)(J:It)(H':Hp),itv=.ref it/\Inv X pins σ H' s2/\Turn X.prog X.w X.K tg J fp it tn/\tn 0 s2.heap/\(∀ b∈fp,FpOk X pins H' b)/\R J H'
def PI (X:Cx)(tg iter:Expr)(wi:TI):Prop:=
 ∀(pins:List (Addr×Obj))(s:Nf)(σ:St)(H:Hp)(R:It->Hp->Prop),Inv X pins σ H s->wi σ H R->
  wpAny (model X.prog X.w) X.A (eval iter X.env) (fun v s1=>wpAny (model X.prog X.w) X.A (pyIter v) (Ij X pins σ tg R) X.xe s1) X.xe s
theorem qL {M:Model}{A:Nj}{E:Ni->Nf->Prop}{s:Nf}{tg:Expr}{it:Addr}{u:Ni}{o:Obj}{n:String}{vs:Array Ni}{Q:Unit->Nf->Prop}(ho:s.heap.get? it=some o)(hc:o.cls=.type n)(hd:o.data=.fields vs)
 (hn:["enumerate", "zip", "dict_itemiterator", "dict_reverseitemiterator", "odict_iterator", "itertools.zip_longest", "itertools.pairwise"].contains n=false) (hQ:Q () s):wpAny M A (letOwnedTupleGo tg (.ref it) u) Q E s:=by
 unfold letOwnedTupleGo;cases tg<;>first
  |exact J2 hQ
  |(cases u<;>first
     |exact J2 hQ
     |(refine JT (wpAny_load ho ?_)
       rw[hc,hd];show wpAny M A (if (["enumerate", "zip", "dict_itemiterator", "dict_reverseitemiterator", "odict_iterator", "itertools.zip_longest", "itertools.pairwise"].contains n&&vs[0]?==some (rawInt _))=true then _ else _) Q E s;rw[J0 (by intro h;rw[hn,LO]at h;cases h)];exact J2 hQ))
noncomputable def F0 (K:Ng)(a:Addr):It:=⟨fun i H=>∃ xs x,SqL K H a xs/\xs[i]?=some x,fun i H x H'=>H'=H/\∀ xs,SqL K H a xs->xs[i]?=some x,fun i H=>∃ xs,SqL K H a xs/\xs.length<=i⟩
noncomputable def II (K:Ng)(a:Addr):It:=⟨fun i H=>∃ xs x,SqT K H a xs/\xs[i]?=some x,fun i H x H'=>H'=H/\∀ xs,SqT K H a xs->xs[i]?=some x,fun i H=>∃ xs,SqT K H a xs/\xs.length<=i⟩
noncomputable def Ik (lo:Int)(n:Nat):It:=⟨fun i _=>i<n,fun i H x H'=>H'=H/\x=.int (lo+i),fun i _=>n<=i⟩
theorem vU {P:Nh}{w:World}{K:Ng}{tg:Expr}(a it:Addr):Turn P w K tg (F0 K a) [it] it (fun i h=>h.IsListIter it a i) where
 mem:=by simp
 obj:=fun i h st b hb=>by
  have e:b=it:=by simpa using hb
  subst e;obtain⟨o,e,c,d⟩:=st;exact⟨o,e,fun v z=>by rw[d]at z;cases z⟩
 keep:=fun i h h' st k=>st.at fun o e=>k it (by simp) o e
 item:=by intro X hP hw hK hc i pins s σ H E I hf st hg;subst hP hw hK;obtain⟨xs,x,hq,hx⟩:=hg;obtain⟨its,rv,p,hz⟩:=I.list hq;obtain⟨u,hu,ru⟩:=rv.get hx;obtain⟨f0,f1,f2,f3,f4,f5⟩:=hf it (by simp);refine wpAny_pyNext_list_item st p.isList (x:=u) (by simpa using hu) fun h' st' sb=>?_;have I1:Inv X pins σ H { s with heap:=h' }:=I.turned (t':=s.toks) (fun b o hb e=>(sb.2 b hb).trans e) f0 f1 f3 f4 f5;obtain⟨o,e,c,d⟩:=id st';exact⟨u,rfl,qL (s:={ s with heap:=h' }) e c d (by decide) ⟨x,H,I1,ru,⟨rfl,fun ys hy=>by rw[I.list_inj hy hq];exact hx⟩,st',fun b hb=>(hf b hb).1⟩⟩
 done:=by intro X hP hw hK hc i pins s σ H E I hf st hg;subst hP hw hK;obtain⟨xs,hq,hx⟩:=hg;obtain⟨its,rv,p,hz⟩:=I.list hq;obtain⟨f0,f1,f2,f3,f4,f5⟩:=hf it (by simp);have hl:=rv.length;exact wpAny_pyNext_list_end (I.ok.hd hc) st p.isList (by simp;omega) fun h' eb=>⟨rfl,I.turned (t':=s.toks) (fun b o hb e=>eb b o hb e) f0 f1 f3 f4 f5⟩
 self:=fun _ _ _ _ _ st h=>wpAny_pyIter_listiter st h
theorem sR {P:Nh}{w:World}{K:Ng}{tg:Expr}(a it:Addr):Turn P w K tg (II K a) [it] it (fun i h=>h.IsTupleIter it a i) where
 mem:=by simp
 obj:=fun i h st b hb=>by
  have e:b=it:=by simpa using hb
  subst e;obtain⟨o,e,c,d⟩:=st;exact⟨o,e,fun v z=>by rw[d]at z;cases z⟩
 keep:=fun i h h' st k=>st.at fun o e=>k it (by simp) o e
 item:=by intro X hP hw hK hc i pins s σ H E I hf st hg;subst hP hw hK;obtain⟨xs,x,hq,hx⟩:=hg;obtain⟨its,rv,p,hz⟩:=I.tuple hq;obtain⟨u,hu,ru⟩:=rv.get hx;obtain⟨f0,f1,f2,f3,f4,f5⟩:=hf it (by simp);refine wpAny_pyNext_tuple_item st (show s.heap.IsTuple a its.toArray from p) (x:=u) (by simpa using hu) fun h' st' sb=>?_;have I1:Inv X pins σ H { s with heap:=h' }:=I.turned (t':=s.toks) (fun b o hb e=>(sb.2 b hb).trans e) f0 f1 f3 f4 f5;obtain⟨o,e,c,d⟩:=id st';exact⟨u,rfl,qL (s:={ s with heap:=h' }) e c d (by decide) ⟨x,H,I1,ru,⟨rfl,fun ys hy=>by rw[I.tuple_inj hy hq];exact hx⟩,st',fun b hb=>(hf b hb).1⟩⟩
 done:=by intro X hP hw hK hc i pins s σ H E I hf st hg;subst hP hw hK;obtain⟨xs,hq,hx⟩:=hg;obtain⟨its,rv,p,hz⟩:=I.tuple hq;obtain⟨f0,f1,f2,f3,f4,f5⟩:=hf it (by simp);have hl:=rv.length;exact wpAny_pyNext_tuple_end (I.ok.hd hc) st (show s.heap.IsTuple a its.toArray from p) (by simp;omega) fun h' eb=>⟨rfl,I.turned (t':=s.toks) (fun b o hb e=>eb b o hb e) f0 f1 f3 f4 f5⟩
 self:=fun _ _ _ _ _ st h=>wpAny_pyIter_tupleiter st h
theorem sS {P:Nh}{w:World}{K:Ng}{tg:Expr}(it:Addr)(lo:Int)(n:Nat):Turn P w K tg (Ik lo n) [it] it (fun i h=>IsRangeIter h it (lo+(i:Nat)*1) ((n:Int)-(i:Nat)) 1) where
 mem:=by simp
 obj:=fun i h st b hb=>by
  have e:b=it:=by simpa using hb
  subst e;exact⟨_,st,fun v z=>by have z':Data.fields _=Data.cell v:=z;cases z'⟩
 keep:=fun i h h' st k=>k it (by simp) _ st
 item:=by intro X hP hw hK hc i pins s σ H E I hf st hg;subst hP hw hK;obtain⟨f0,f1,f2,f3,f4,f5⟩:=hf it (by simp);have W:=Walks.range (prog:=X.prog) (w:=X.w) (I.ok.hd hc) it lo 1 n;refine W.item i s _ _ hg st fun v h' tk hv st' kk=>?_;obtain⟨t,rfl⟩:=hv;have I1:Inv X pins σ H { s with heap:=h',toks:=tk }:=I.turned (fun b o hb e=>kk b o (by simpa using hb) e) f0 f1 f3 f4 f5;refine⟨_,rfl,qL (s:={ s with heap:=h',toks:=tk }) (n:="range_iterator") st' rfl rfl (by decide) ⟨.int (lo+i),H,I1,⟨t,?_⟩,⟨rfl,rfl⟩,st',fun b hb=>(hf b hb).1⟩⟩;rw[Int.mul_one]
 done:=by intro X hP hw hK hc i pins s σ H E I hf st hg;subst hP hw hK;obtain⟨f0,f1,f2,f3,f4,f5⟩:=hf it (by simp);exact wpAny_pyNext_range_end (I.ok.hd hc) st (by have:n<=i:=hg;omega) fun h' eb=>⟨rfl,I.turned (t':=s.toks) (fun b o hb e=>eb b o hb e) f0 f1 f3 f4 f5⟩
 self:=fun _ _ _ _ _ st h=>wpAny_pyIter_rangeiter st h
section
variable {X:Cx}{tg:Expr}
theorem xk {pins:List (Addr×Obj)}{σ:St}{H:Hp}{s:Nf}{R:It->Hp->Prop}{E:Ni->Nf->Prop}{lo hi:Int}{t u v:Tok}{tk:Nat}(I:Inv X pins σ H s)(h1:-(2 ^ 62)<=lo)(h2:lo<2 ^ 62)(h3:-(2 ^ 62)<=hi)(h4:hi<2 ^ 62)
 (q:R (Ik lo (hi-lo).toNat) H):wpAny (model X.prog X.w) X.A (pyIter (.ref s.heap.objs.size)) (Ij X pins σ tg R) E { s with heap:=s.heap.push { cls:=.type "range",data:=.fields #[.int lo t,.int hi u,.int 1 v] },toks:=tk }:=by
 refine wpAny_pyIter_range (IsRange.new ..) (small_one h1 h2 h3 h4) ?_;have I1:Inv X pins σ H { s with heap:=s.heap.push { cls:=.type "range",data:=.fields #[.int lo t,.int hi u,.int 1 v] },toks:=tk }:=I.kept fun b o e=>JV _ e;refine⟨(s.heap.push { cls:=.type "range",data:=.fields #[.int lo t,.int hi u,.int 1 v] }).objs.size,[(s.heap.push { cls:=.type "range",data:=.fields #[.int lo t,.int hi u,.int 1 v] }).objs.size],_,_,H,rfl,
  I1.kept (t':=tk) fun b o e=>JV _ e,sS _ lo (hi-lo).toNat,?_,fun b hb=>?_,q⟩
 .have e1:lo+((0:Nat):Int)*1=lo:=by simp
  have e2:(((hi-lo).toNat:Nat):Int)-((0:Nat):Int)=Builtin.Range.rangeSize lo hi 1:=by rw[rangeSize_one];split<;>omega
  show IsRangeIter _ _ (lo+((0:Nat):Int)*1) ((((hi-lo).toNat:Nat):Int)-((0:Nat):Int)) 1;rw[e1,e2];exact Kb _ rfl
 .have e:b=(s.heap.push { cls:=.type "range",data:=.fields #[.int lo t,.int hi u,.int 1 v] }).objs.size:=by simpa using hb
  subst e;exact I1.fpOk (J1 _) (I1.hok.fresh (J1 _))
def Gv (ta:TA):TI:=fun σ H R=>ta σ H fun vs H1=>∃ j:Int,vs=[.int j]/\-(2 ^ 62)<=j/\j<2 ^ 62/\R (Ik 0 j.toNat) H1
theorem vV {a:Expr} {ta:TA} {p pos:Pos} (hg:Gl X "range") (hm:X.mg "range"=none) (ha:PA X [a] ta) (hs:autoParam (starEach [a] X.env=[(false,eval a X.env)]) Nq._auto_1):PI X tg (.Call (.Name "range" p) [a] [] pos) (Gv ta):=by
 intro pins s σ H R I h;refine Call_ (lc I hg hm boot_range (LS (bz (ha pos pins s σ H _ I h) fun us s1 ⟨vs,H1,I1,r1,q1⟩=>?_) hs rfl));obtain⟨j,e,q1,q2,q⟩:=q1;subst e;cases r1 with
 |cons r rr=>cases rr;obtain⟨t,rfl⟩:=r;exact call_range_1 (xk I1 (by omega) (by omega) q1 q2 (by simpa using q))
def IJ (wi:TI)(g:TG)(tb:TS):TS:=fun D σ H=>wi σ H fun J H1=>∃ W:Nat->Nat->St->Hp->Prop,(∃ m,W 0 m σ H1)/\∀ i m σ H,W i m σ H->
 (J.stop i H/\D.nx σ H)\/(J.go i H/\∃ N:St->Hp->Prop,(∀ σ' H',N σ' H'->∃ m',m'<m/\W (i+1) m' σ' H')/\∀ x H',J.yld i H x H'->g x σ H' fun σ2 H2=>tb { D with nx:=N,ct:=N,bk:=D.nx } σ2 H2)
noncomputable def lg (fp:List Addr)(h:Heap):List (Addr×Obj):=fp.filterMap fun b=>(h.get? b).map fun o=>(b,o)
theorem fL {fp:List Addr}{h:Heap}{b:Addr}{o:Obj}(hb:b∈fp)(e:h.get? b=some o):(b,o)∈lg fp h:=Mo.mpr ⟨b,hb,by rw[e];rfl⟩
theorem vW {fp:List Addr}{h:Heap}{p:Addr×Obj}(hp:p∈lg fp h):p.1∈fp/\h.get? p.1=some p.2:=by
 obtain⟨b,hb,e⟩:=Mo.mp hp;cases q:h.get? b with
 |none=>rw[q]at e;cases e
 |some o=>rw[q]at e;have e':(b,o)=p:=Kq e;subst e';exact⟨hb,q⟩
theorem Inv.pinned {pins:List (Addr×Obj)}{σ:St}{H:Hp}{s:Nf}{fp:List Addr}(I:Inv X pins σ H s)(hf:∀ b∈fp,FpOk X pins H b)(ho:∀ b∈fp,∃ o,s.heap.get? b=some o/\∀ v,o.data≠.cell v):Inv X (pins++lg fp s.heap) σ H s:=I.pins_of fun p hp=>(Kf.mp hp).elim (fun z=>I.pin p (Ku _ z)) fun z=>by obtain⟨hb,e⟩:=vW z;obtain⟨f0,f1,f2,_⟩:=hf p.1 hb;obtain⟨o,e',d⟩:=ho p.1 hb;rw[e]at e';cases e';exact⟨e,f0,f1,f2,d⟩
theorem Inv.unpinned {pins pl:List (Addr×Obj)}{σ:St}{H:Hp}{s:Nf}(I:Inv X (pins++pl) σ H s):Inv X pins σ H s:=I.pins_of fun p hp=>I.pin p (Ku _ (Kt _ hp))
theorem oM {iter:Expr}{body:List Stmt}{wi:TI}{g:TG}{tb:TS}{pos:Pos}(hp:PassesOwn (model X.prog X.w) X.A X.env X.xe)(hc:X.calm=true)(hi:PI X tg iter wi)(hg:PG X tg g)(hb:PSs X body tb)
 (hs:autoParam (∀ x,foldedSetIterable iter X.env x=pure x) Nn._auto_1):PS X (.For tg iter body [] pos) (IJ wi g tb):=by
 intro pins s σ H D I h;refine wpAny_For (bz (hi pins s σ H _ I h) fun v s1 h1=>bz h1 fun itv s2 h2=>?_) hs;obtain⟨it,fp,tn,J,H2,e,I2,T,st2,f2,W,⟨m0,w0⟩,turn⟩:=h2;subst e;have stat:∀{H':Hp},(∀ b∈fp,H' b=none)->∀ b∈fp,FpOk X pins H' b:=fun hn b hb=>⟨hn b hb,(f2 b hb).2⟩;refine codeAny_forLoop_any (fun n s'=>∃ i σ' H',Inv X pins σ' H' s'/\tn i s'.heap/\(∀ b∈fp,H' b=none)/\W i n σ' H') ?_ m0 ⟨0,σ,H2,I2,st2,fun b hb=>(f2 b hb).1,w0⟩;rintro n s3 ⟨i,σ3,H3,I3,st3,fr3,w3⟩;rcases turn i n σ3 H3 w3 with⟨stop,qn⟩|⟨go,N,hN,step⟩
 .refine LA hp (bz (T.done X rfl rfl rfl hc i pins s3 σ3 H3 X.xe I3 (stat fr3) st3 stop) fun r s4 ⟨hr,I4⟩=>?_);subst hr;exact MK ⟨σ3,H3,I4,qn⟩
 .refine LA hp (bz (T.item X rfl rfl rfl hc i pins s3 σ3 H3 X.xe I3 (stat fr3) st3 go) fun r s4 ⟨u,hr,h4⟩=>?_);subst hr;refine LA hp (bz h4 fun _ s5 ⟨x,H5,I5,r5,y5,st5,fr5⟩=>?_);have I5':=I5.pinned (stat fr5) (T.obj _ _ st5);refine LA hp (bz (hg _ s5 σ3 H5 x u _ I5' r5 (step x H5 y5)) fun _ s6 ⟨σ6,H6,I6,q6⟩=>?_);refine LA hp (bz (hb _ s6 σ6 H6 _ I6 q6) fun f s7 q7=>?_);have again:∀{σ7:St}{H7:Hp},Inv X (pins++lg fp s5.heap) σ7 H7 s7->N σ7 H7->∃ m,m<n/\∃ i σ' H',Inv X pins σ' H' s7/\tn i s7.heap/\(∀ b∈fp,H' b=none)/\W i m σ' H':=fun{σ7 H7} I7 n7=>by obtain⟨m',hm,w7⟩:=hN σ7 H7 n7;refine⟨m',hm,i+1,σ7,H7,I7.unpinned,T.keep _ _ _ st5 fun b hb o e=>(I7.pin (b,o) (Ku _ (Ku _ (fL hb e)))).1,fun b hb=>?_,w7⟩;obtain⟨o,e,d⟩:=T.obj _ _ st5 b hb;exact(I7.pin (b,o) (Ku _ (Ku _ (fL hb e)))).2.1
  cases f with
  |next=>obtain⟨σ7,H7,I7,n7⟩:=q7;exact again I7 n7
  |cont=>obtain⟨σ7,H7,I7,n7⟩:=q7;exact again I7 n7
  |brk=>obtain⟨σ7,H7,I7,q7⟩:=q7;exact⟨σ7,H7,I7.unpinned,q7⟩
  |ret v=>obtain⟨x7,σ7,H7,I7,r7,q7⟩:=q7;exact⟨x7,σ7,H7,I7.unpinned,r7,q7⟩
end
theorem xl {K:Ng}{a:Addr}{xs:List V}{g:TG}{tb:TS}{D:Ends}{σ:St}{H:Hp}(Pv:Nat->St->Hp->Prop)(h0:Pv 0 σ H)(hl:∀ i σ H,i<=xs.length->Pv i σ H->SqL K H a xs)
 (hs:∀ i x σ H,xs[i]?=some x->Pv i σ H->g x σ H fun σ2 H2=>tb { D with nx:=Pv (i+1),ct:=Pv (i+1),bk:=D.nx } σ2 H2) (hd:∀ σ H,Pv xs.length σ H->D.nx σ H) :
 ∃ W:Nat->Nat->St->Hp->Prop,(∃ m,W 0 m σ H)/\∀ i m σ H,W i m σ H->
  ((F0 K a).stop i H/\D.nx σ H)\/((F0 K a).go i H/\∃ N:St->Hp->Prop,(∀ σ' H',N σ' H'->∃ m',m'<m/\W (i+1) m' σ' H')/\∀ x H',(F0 K a).yld i H x H'->g x σ H' fun σ2 H2=>tb { D with nx:=N,ct:=N,bk:=D.nx } σ2 H2):=by
 refine⟨fun i m σ H=>m=xs.length-i/\i<=xs.length/\Pv i σ H,⟨xs.length,by simp,Kz _,h0⟩,?_⟩;rintro i m σ H ⟨rfl,hi,p⟩;have q:=hl i σ H hi p;by_cases hlt:i<xs.length
 .refine .inr ⟨⟨xs,xs[i],q,by simp[hlt]⟩,Pv (i+1),fun σ' H' p'=>⟨xs.length-(i+1),by omega,rfl,hlt,p'⟩,fun x H' y=>?_⟩;obtain⟨e,y⟩:=y;subst e;exact hs i x σ _ (y xs q) p
 .have e:i=xs.length:=by omega
  subst e;exact .inl ⟨⟨xs,q,J1 _⟩,hd σ H p⟩
abbrev R2:=V->V->Hp->VK->Prop
def OpR (X:Cx)(f:Ni->Ni->Sem Ni)(r:R2):Prop:=
 ∀(pins:List (Addr×Obj))(s:Nf)(σ:St)(H:Hp)(x y:V)(v u:Ni)(Q:VK),Inv X pins σ H s->RelV x v->RelV y u->r x y H Q->
  wpAny (model X.prog X.w) X.A (f v u) (EP X pins σ Q) X.xe s
def CallR (X:Cx)(f:Ni)(r:List V->Hp->VK->Prop):Prop:=
 ∀(pins:List (Addr×Obj))(s:Nf)(σ:St)(H:Hp)(xs:List V)(us:List Ni)(Q:VK),Inv X pins σ H s->Vals xs us->r xs H Q->
  wpAny (model X.prog X.w) X.A (call f us) (EP X pins σ Q) X.xe s
def IK (X:Cx)(r:V->Hp->(Bool->Hp->Prop)->Prop):Prop:=
 ∀(pins:List (Addr×Obj))(s:Nf)(σ:St)(H:Hp)(x:V)(v:Ni)(Q:Bool->Hp->Prop),Inv X pins σ H s->RelV x v->r x H Q->
  wpAny (model X.prog X.w) X.A (truthy v) (TP X pins σ Q) X.xe s
noncomputable def F3 (r:R2)(ta tb:TE):TE:=fun σ H Q=>ta σ H fun x H1=>tb σ H1 fun y H2=>r x y H2 Q
noncomputable def rI (C:Int->Int->Prop)(g:Int->Int->V):R2:=fun x y H Q=>∃ i j,x=.int i/\y=.int j/\C i j/\Q (g i j) H
noncomputable def AB (g:Int->Int->V):R2:=fun x y H Q=>∃ i j,x=.int i/\y=.int j/\Q (g i j) H
section
variable {X:Cx}{a b c:Expr}{ta tb tc:TE}{pos:Pos}
theorem Dy (ha:PE X a ta)(hb:PE X b tb){pins:List (Addr×Obj)}{s:Nf}{σ:St}{H:Hp}{R:V->V->Hp->Prop}(I:Inv X pins σ H s)
 (h:ta σ H fun x H1=>tb σ H1 fun y H2=>R x y H2) {Q:Ni->Nf->Prop} {f:Ni->Ni->Sem Ni}
 (hf:∀ v u s2 x y H2,Inv X pins σ H2 s2->RelV x v->RelV y u->R x y H2->wpAny (model X.prog X.w) X.A (f v u) Q X.xe s2) :
 wpAny (model X.prog X.w) X.A (eval a X.env) (fun v s₁=>wpAny (model X.prog X.w) X.A (eval b X.env) (fun u s₂=>wpAny (model X.prog X.w) X.A (f v u) Q X.xe s₂) X.xe s₁) X.xe s:=by
 refine bz (ha pins s σ H _ I h) fun v s1 ⟨x,H1,I1,r1,q1⟩=>?_;refine bz (hb pins s1 σ H1 _ I1 q1) fun u s2 ⟨y,H2,I2,r2,q2⟩=>?_;exact hf v u s2 x y H2 I2 r1 r2 q2
theorem Gw {op:Operator}{r:R2}(ho:OpR X (binaryOp op) r)(ha:PE X a ta)(hb:PE X b tb):PE X (.BinOp a op b pos) (F3 r ta tb):=by intro pins s σ H Q I h;exact wpAny_BinOp (Dy ha hb I h fun v u s2 x y H2 I2 rx ry q=>ho pins s2 σ H2 x y v u Q I2 rx ry q)
theorem Il {f:Ni->Ni->Sem Ni}{C:Int->Int->Prop}{g:Int->Int->Int}
 (rule:∀(i j:Int)(t u:Tok)(s:Nf)(Q:Ni->Nf->Prop)(E:Ni->Nf->Prop),C i j->Q (.int (g i j) s.toks) { s with toks:=s.toks+1 }->wpAny (model X.prog X.w) X.A (f (.int i t) (.int j u)) Q E s) :
 OpR X f (rI C fun i j=>.int (g i j)):=by
 intro pins s σ H x y v u Q I rx ry h;obtain⟨i,j,rfl,rfl,hc,q⟩:=h;obtain⟨t,rfl⟩:=rx;obtain⟨t',rfl⟩:=ry;exact rule i j t t' s _ _ hc ⟨.int (g i j),H,I.tok _,⟨_,rfl⟩,q⟩
theorem Dz {f:Ni->Ni->Sem Ni}{g:Int->Int->Int}
 (rule:∀(i j:Int)(t u:Tok)(s:Nf)(Q:Ni->Nf->Prop)(E:Ni->Nf->Prop),Q (.int (g i j) s.toks) { s with toks:=s.toks+1 }->wpAny (model X.prog X.w) X.A (f (.int i t) (.int j u)) Q E s) :
 OpR X f (AB fun i j=>.int (g i j)):=by
 intro pins s σ H x y v u Q I rx ry h;obtain⟨i,j,rfl,rfl,q⟩:=h;obtain⟨t,rfl⟩:=rx;obtain⟨t',rfl⟩:=ry;exact rule i j t t' s _ _ ⟨.int (g i j),H,I.tok _,⟨_,rfl⟩,q⟩
theorem DA {f:Ni->Ni->Sem Ni}{g:Int->Int->Bool}
 (rule:∀(i j:Int)(t u:Tok)(s:Nf)(Q:Ni->Nf->Prop)(E:Ni->Nf->Prop),Q (.bool (g i j)) s->wpAny (model X.prog X.w) X.A (f (.int i t) (.int j u)) Q E s) :
 OpR X f (AB fun i j=>.bl (g i j)):=by
 intro pins s σ H x y v u Q I rx ry h;obtain⟨i,j,rfl,rfl,q⟩:=h;obtain⟨t,rfl⟩:=rx;obtain⟨t',rfl⟩:=ry;exact rule i j t t' s _ _ ⟨.bl (g i j),H,I,rfl,q⟩
def IL (i j:Int):Prop:=0<j/\j<1073741824
def CMul (i j:Int):Prop:=(-(2 ^ 64)<i/\i<2 ^ 64)\/(-(2 ^ 64)<j/\j<2 ^ 64)
theorem CMul.ok {i j:Int}(h:CMul i j):IntMulOk i j:=by
 rcases h with⟨h1,h2⟩|⟨h1,h2⟩
 .exact .of_left (intBits_le_64 h1 h2)
 .exact .of_right (intBits_le_64 h1 h2)
theorem sT (k:Nat):(0:Int)<=2 ^ k:=by rw[two_pow_cast];exact Int.natCast_nonneg _
theorem op_add:OpR X (binaryOp .Add) (AB fun i j=>.int (i+j)):=Dz fun _ _ _ _ _ _ _ q=>add_int q
theorem DB:OpR X (binaryOp .Sub) (AB fun i j=>.int (i-j)):=Dz fun _ _ _ _ _ _ _ q=>sub_int q
theorem DC:OpR X (binaryOp .Mult) (rI CMul fun i j=>.int (i*j)):=Il fun _ _ _ _ _ _ _ hc q=>mul_int q hc.ok
theorem AC:OpR X (binaryOp .FloorDiv) (rI IL fun i j=>.int (i / j)):=Il fun i j _ _ _ _ _ hc q=>by have h1:(0:Int)<j:=hc.1;have h2:j<1073741824:=hc.2;exact floordiv_int (by omega) (by rw[Int.fdiv_eq_ediv_of_nonneg i (by omega)];exact q) (.inl (PyProof.noPylong_small (by omega)))
theorem DD:OpR X (binaryOp .Mod) (rI (fun _ j=>0<j) fun i j=>.int (i % j)):=Il fun i j _ _ _ _ _ hc q=>by have h1:(0:Int)<j:=hc;exact mod_int' (by omega) (by rw[Int.fmod_eq_emod_of_nonneg i (by omega)];exact q)
theorem DE:OpR X (binaryOp .RShift) (rI (fun _ j=>0<=j) fun i j=>.int (i / 2 ^ j.toNat)):=Il fun i j _ _ _ _ _ hc q=>rshift_int hc (by rw[Int.fdiv_eq_ediv_of_nonneg i (sT _)];exact q)
theorem DF:OpR X (binaryOp .BitAnd) (AB fun i j=>.int (Builtin.bitAnd i j)):=Dz fun _ _ _ _ _ _ _ q=>and_int q
theorem Gx:OpR X (compareOp .Lt) (AB fun i j=>.bl (decide (i<j))):=DA fun _ _ _ _ _ _ _ q=>lt_int q
theorem Gy:OpR X (compareOp .LtE) (AB fun i j=>.bl (decide (i<=j))):=DA fun _ _ _ _ _ _ _ q=>le_int q
theorem Gz:OpR X (compareOp .Gt) (AB fun i j=>.bl (decide (j<i))):=DA fun _ _ _ _ _ _ _ q=>gt_int q
theorem OpR.or {f:Ni->Ni->Sem Ni}{r r':R2}(h:OpR X f r)(h':OpR X f r'):OpR X f (fun x y H Q=>r x y H Q\/r' x y H Q):=by
 intro pins s σ H x y v u Q I rx ry q;rcases q with q|q
 .exact h pins s σ H x y v u Q I rx ry q
 .exact h' pins s σ H x y v u Q I rx ry q
theorem bn (b:Expr){op:CmpOp}(h:autoParam (op≠.In) Nk._auto_1)(h2:autoParam (op≠.NotIn) Nk._auto_1):behindInMarks op b=false:=by
 have e1:(op==CmpOp.In)=false:=by cases op<;>first|rfl|exact absurd rfl h
 have e2:(op==CmpOp.NotIn)=false:=by cases op<;>first|rfl|exact absurd rfl h2
 cases b<;>simp[behindInMarks,e1,e2]
theorem AD {op:CmpOp}{r:R2}(ho:OpR X (compareOp op) r)(ha:PE X a ta)(hb:PE X b tb)(hm:behindInMarks op b=false):PE X (.Compare a [op] [b] pos) (F3 r ta tb):=by intro pins s σ H Q I h;exact wpAny_Compare1 (Dy ha hb I h fun v u s2 x y H2 I2 rx ry q=>ho pins s2 σ H2 x y v u Q I2 rx ry q) hm
noncomputable def Cy (t:TE):TT:=fun σ H Q=>t σ H fun x H'=>∃ k,x=.bl k/\Q k H'
theorem AE {op:CmpOp}{r:R2}(ho:OpR X (compareOp op) r)(ha:PE X a ta)(hb:PE X b tb)(hm:behindInMarks op b=false):PT X (.Compare a [op] [b] pos) (Cy (F3 r ta tb)):=by intro pins s σ H Q I h;refine wpAny_isTrue_Compare1 (bz (ha pins s σ H _ I h) fun v s1 ⟨x,H1,I1,r1,q1⟩=>bz (hb pins s1 σ H1 _ I1 q1) fun u s2 ⟨y,H2,I2,r2,q2⟩=>bz (ho pins s2 σ H2 x y v u _ I2 r1 r2 q2) fun c s3 ⟨z,H3,I3,r3,k,e,q3⟩=>?_) hm;subst e;cases r3;exact Lp ⟨H3,I3,q3⟩
noncomputable def xm (r r':R2)(ta tb tc:TE):TE:=fun σ H Q=>ta σ H fun x H1=>tb σ H1 fun y H2=>r x y H2 fun z H3=>∃ k,z=.bl k/\
 (if k=true then tc σ H3 fun w' H4=>r' y w' H4 Q else Q (.bl false) H3)
theorem xn {op op':CmpOp}{r r':R2}(ho:OpR X (compareOp op) r)(ho':OpR X (compareOp op') r')(ha:PE X a ta)(hb:PE X b tb)(hc:PE X c tc)
 (hm:lastMarks [op,op'] [b,c]=false:=by with_unfolding_all rfl):PT X (.Compare a [op,op'] [b,c] pos) (Cy (xm r r' ta tb tc)):=by
 intro pins s σ H Q I h;refine isTrue_chain (bz (ha pins s σ H _ I h) fun v s1 ⟨x,H1,I1,r1,q1⟩=>test_link (bz (hb pins s1 σ H1 _ I1 q1) fun u s2 ⟨y,H2,I2,r2,q2⟩=>bz (ho pins s2 σ H2 x y v u _ I2 r1 r2 q2) fun d s3 ⟨z,H3,I3,r3,k,e,q3⟩=>?_)) hm;subst e;cases r3;refine Lp ?_;cases k with
 |false=>obtain⟨k',e',q'⟩:=q3;cases e';exact ite_ff ⟨H3,I3,q'⟩
 |true=>refine ite_tt (test_last (bz (hc pins s3 σ H3 _ I3 q3) fun w' s4 ⟨z',H4,I4,r4,q4⟩=>bz (ho' pins s4 σ H4 y z' u w' _ I4 r2 r4 q4) fun d' s5 ⟨z2,H5,I5,r5,k2,e2,q5⟩=>?_));subst e2;cases r5;exact Lp ⟨H5,I5,q5⟩
def DG (K:Ng)(x:V)(H:Hp)(k:Bool):Prop:=
 match x with
 | .non=>k=false
 | .bl b=>k=b
 | .int i=>k=(i != 0)
 | .str y=>y.length<=sizeLine/\k=((y.length:Int) != 0)
 | .byt y=>y.size<=sizeLine/\k=((y.size:Int) != 0)
 | .ref p=>(∃ xs,SqL K H p xs/\k=!xs.isEmpty)\/(∃ xs,SqT K H p xs/\k=!xs.isEmpty)\/∃ kvs,H p=some (.dK kvs)/\k=!kvs.isEmpty
 |_=>False
theorem sU {κ:Type}{kvs:List (κ×V)}{vs:List (κ×Ni)}(r:KV kvs vs):(!vs.isEmpty)=!kvs.isEmpty:=by cases r<;>rfl
theorem lh {xs:List V}{its:List Ni}(r:Vals xs its):(!its.toArray.isEmpty)=!xs.isEmpty:=by cases r<;>simp
theorem ig:(sizeLine:Nat)<2 ^ 63:=by rw[KU];decide
theorem DH:IK X (fun x H Q=>∃ k,DG X.K x H k/\Q k H):=by
 intro pins s σ H x v Q I rx h;obtain⟨k,e,q⟩:=h;have hl:=ig;have hs:sizeLine=16777216:=KU;cases x with
 |non=>cases rx;have e':k=false:=e;subst e';exact truthy_none ⟨H,I,q⟩
 |bl b=>cases rx;have e':k=b:=e;subst e';exact Lp ⟨H,I,q⟩
 |int i=>obtain⟨t,rfl⟩:=rx;have e':k=(i != 0):=e;subst e';exact PySem.P.truthy_int ⟨H,I,q⟩
 |str y=>obtain⟨t,rfl⟩:=rx;obtain⟨hy,e'⟩ : y.length<=sizeLine/\k=((y.length:Int) != 0):=e;subst e';exact PySem.P.truthy_str (by omega) ⟨H,I.tok _,q⟩
 |byt y=>obtain⟨t,rfl⟩:=rx;obtain⟨hy,e'⟩ : y.size<=sizeLine/\k=((y.size:Int) != 0):=e;subst e';exact PySem.W.truthy_bytes (by omega) ⟨H,I.tok _,q⟩
 |ref p=>
  cases rx;have e':(∃ xs,SqL X.K H p xs/\k=!xs.isEmpty)\/(∃ xs,SqT X.K H p xs/\k=!xs.isEmpty)\/∃ kvs,H p=some (.dK kvs)/\k=!kvs.isEmpty:=e;rcases e' with⟨xs,hx,e'⟩|⟨xs,hx,e'⟩|⟨kvs,hx,e'⟩
  .subst e';obtain⟨its,r,pl,hz⟩:=I.list hx;have bO:=r.length;exact wpAny_truthy_list pl.isList (by simp only[J3];omega) ⟨H,I.tok _,by rw[lh r];exact q⟩
  .subst e';obtain⟨its,r,pl,hz⟩:=I.tuple hx;have bO:=r.length;exact truthy_tuple pl (by simp only[J3];omega) ⟨H,I.tok _,by rw[lh r];exact q⟩
  .subst e';obtain⟨hz,hS,vs,r,m⟩ : kvs.length<=sizeLine/\(p==sysModules)=false/\∃ vs,KV kvs vs/\s.heap.DictOf (au X.prog X.w) p vs:=I.hok p _ hx;have bO:kvs.length=vs.length:=LX r;exact wpAny_truthy_dict hS m (by omega) ⟨H,I.tok _,by rw[sU r];exact q⟩
 |_=>exact(show False from e).elim
theorem xo (ha:PE X a ta)(he:∀ whole,isTrue a X.env whole=(do let v <- whole;standAt a.pos;holding [v] (truthy v))) :
 PT X a (fun σ H Q=>ta σ H fun x H'=>∃ k,DG X.K x H' k/\Q k H'):=by
 intro pins s σ H Q I h;exact isTrue_plain (bz (ha pins s σ H _ I h) fun v s1 ⟨x,H1,I1,r1,q1⟩=>DH pins s1 σ H1 x v Q I1 r1 q1) (he _)
theorem sV:OpR X (binaryOp .Add) (fun x y H Q=>∃ i j,x=.str i/\y=.str j/\i.length+j.length<=sizeLine/\Q (.str (i++j)) H):=by intro pins s σ H x y v u Q I rx ry h;obtain⟨i,j,rfl,rfl,hz,q⟩:=h;obtain⟨t,rfl⟩:=rx;obtain⟨t',rfl⟩:=ry;exact add_str (fun t' tk=>⟨.str (i++j),H,I.tok _,⟨_,rfl⟩,q⟩) hz
theorem iH {x:V}{us:List Ni}(r:Vals [x] us):∃ u,us=[u]/\RelV x u:=by
 cases r with
 |cons r1 r2=>cases r2;exact⟨_,rfl,r1⟩
theorem uu {x y:V}{us:List Ni}(r:Vals [x,y] us):∃ u w',us=[u,w']/\RelV x u/\RelV y w':=by
 cases r with
 |cons r1 r2=>
  cases r2 with
  |cons r3 r4=>cases r4;exact⟨_,_,rfl,r1,r3⟩
end
structure ObjM (h:Heap) (x dx C:Addr) (mA:Str->Option Ni):Prop where
 obj:h.get? x=some (PySem.W.instObj C dx)
 ns:h.Ns1 dx mA
 ne:dx≠x
theorem vX {h:Heap}{dx:Addr}{mA:Str->Option Ni}(n:h.Ns1 dx mA):∃ od,h.get? dx=some od/\∀ name,PySem.W.lookIn name od=some (mA name):=by
 obtain⟨o,es,ep,ho,hd,hk,_,hm⟩:=n;refine⟨o,ho,fun name=>?_⟩;have e:=hm name;unfold nsFind findBy at e;rw[<- Array.find?_toList]at e;unfold PySem.W.lookIn;rw[hd];dsimp only;split
 .rename_i y q;rw[q]at e;exact KQ some e
 .rename_i q;rw[q]at e;have a:es.toList.any (·.refKey)=false:=by rw[List.any_eq_false];intro y hy;obtain⟨z,t,gr⟩:=hk y (Array.mem_toList_iff.mp hy);simp[DictEntry.refKey,gr]
  have a':¬ es.toList.any (·.refKey)=true:=by rw[a];exact Mn
  rw[J0 a'];exact KQ some e
theorem ObjM.look {h:Heap}{x dx C:Addr}{mA:Str->Option Ni}(I:ObjM h x dx C mA):∃ od,PySem.W.InstAt h x (PySem.W.instObj C dx) C (some od)/\∀ name,PySem.W.lookIn name od=some (mA name):=
 let ⟨od,ho,hl⟩:=vX I.ns
 ⟨od,⟨I.obj,rfl,rfl,ho⟩,hl⟩
section
variable {prog:Nh}{w:World}{A:Nj}{E:Ni->Nf->Prop}{s:Nf}{K:Ng}{x dx C f:Addr}{mA:Str->Option Ni}{name:Str}{v:Ni}
end
theorem RelO.some_of {v:V}{o:Option Ni}(r:RelO (some v) o):∃ u,o=some u/\RelV v u:=by
 cases o with
 |none=>exact(show False from r).elim
 |some u=>exact⟨u,rfl,r⟩
section
variable {P:Nh}{w:World}{H H':Hp}{h h':Heap}{a C dx:Addr}{fs fs':List (Str×V)}
theorem AF (hok:HOk P w H h)(e:H a=some (.ins C dx fs)):∃ mA,ObjM h a dx C mA/\(∀ f,RelO (fs.lookup f) (mA f))/\PySem.Within mA (fs.map (·.1))/\fs.length<=1000/\H dx=some (.own a):=by obtain⟨d,z,ne,ob,mA,n,r,q⟩:=(show ObjOk P w H h a (.ins C dx fs) from hok a _ e);exact⟨mA,⟨ob,n,ne⟩,r,q,z,d⟩
end
structure Cls (K:Ng) (C:Addr):Prop where
 pg:PySem.W.plainGet K C Str.empty=true
 hd:PySem.W.hasDictIn K C=true
 po:PySem.W.plainOver K C=true
 sa:PySem.W.findIn K (.ref C) "__setattr__"=some (some (.builtin "object.__setattr__"))
theorem Cls.get {K:Ng}{C:Addr}(c:Cls K C)(f:Str):PySem.W.plainGet K C f=true:=c.pg
section
variable {X:Cx}{pins:List (Addr×Obj)}{σ:St}{H:Hp}{s:Nf}{a C dx:Addr}{fs:List (Str×V)}{f:Str}{v:V}{A:Nj}{E:Ni->Nf->Prop}
end
section
variable {X:Cx}{o e value:Expr}{f:Str}{pos pos' gq:Pos}{ta tv:TE}
end
section
variable {X:Cx}{pins:List (Addr×Obj)}{σ:St}{H:Hp}{s:Nf}{A:Nj}{E:Ni->Nf->Prop}{Q:Ni->Nf->Prop}{c:Ni}{b:Bool}
inductive TyOf (K:Ng) (H:Hp):V->Ni->Prop where
 |non:TyOf K H .non (.type "NoneType")
 |bl (x:Bool):TyOf K H (.bl x) (.type "bool")
 |int (i:Int):TyOf K H (.int i) (.type "int")
 |str (x:Str):TyOf K H (.str x) (.type "str")
 |flt (x:UInt64):TyOf K H (.flt x) (.type "float")
 |lst {a:Addr} {xs:List V} (e:H a=some (.lst xs)):TyOf K H (.ref a) (.type "list")
 |frz {a:Addr} {o:Obj} {xs:List V} (e:H a=some (.frz o (.lst xs))):TyOf K H (.ref a) (.type "list")
 |tup {a:Addr} {xs:List V} (e:H a=some (.tup xs)):TyOf K H (.ref a) (.type "tuple")
 |dK {a:Addr} {kvs:List (Key×V)} (e:H a=some (.dK kvs)):TyOf K H (.ref a) (.type "dict")
 |dT {a:Addr} {kvs:List (List Key×V)} (e:H a=some (.dT kvs)):TyOf K H (.ref a) (.type "dict")
 |ins {a C dx:Addr} {fs:List (Str×V)} (e:H a=some (.ins C dx fs)) (cl:Cls K C) (ha:PySem.W.findIn K (.ref C) "__class__"=some (some (.builtin "object.__class__")))
  (hn:PySem.W.specialIn K (.builtin "object.__class__") "__get__"=some (some (.builtin "getset_descriptor.__get__"))) (htk:PySem.W.takesIn K (.builtin "object.__class__")=some true)
  (hm:PySem.W.mroIn K C (.type "object")=some true):TyOf K H (.ref a) (.ref C)
theorem vY {x:V}{u t:Ni}(I:Inv X pins σ H s)(rx:RelV x u)(ty:TyOf X.K H x t)(e:PySem.W.kitOne X.K t c=some b)(h:∀ tk,Q (.bool b) { s with toks:=tk }) :
 wpAny (model X.prog X.w) A (call (.builtin "isinstance") [u,c]) Q E s:=by
 cases ty with
 |non=>cases (show u=Value.none from rx);exact KW PySem.W.kitx_none I.kIn True.intro e (fun z=>nomatch z) h
 |bl y=>cases (show u=Value.bool y from rx);exact KW PySem.W.kitx_bool I.kIn True.intro e (fun z=>nomatch z) h
 |int i=>obtain⟨t,q⟩:=(show ∃ t,u=Value.int i t from rx);cases q;exact KW PySem.W.kitx_int I.kIn True.intro e (fun z=>nomatch z) h
 |str y=>obtain⟨t,q⟩:=(show ∃ t,u=Value.str y t from rx);cases q;exact KW PySem.W.kitx_str I.kIn True.intro e (fun z=>nomatch z) h
 |flt y=>obtain⟨t,q⟩:=(show ∃ t,u=Value.float y t from rx);cases q;exact KW PySem.W.kitx_float I.kIn True.intro e (fun z=>nomatch z) h
 | @lst a xs ea=>cases (show u=Value.ref a from rx);obtain⟨_,_,n,_,h1⟩:=(show ObjOk X.prog X.w H s.heap a (.lst xs) from I.hok a _ ea);exact KW PySem.W.kitx_list I.kIn ⟨_,h1,rfl⟩ e (fun z=>nomatch z) h
 | @frz a ob xs ea=>cases (show u=Value.ref a from rx);obtain⟨_,_,_,n,_,h1⟩:=(show ObjOk X.prog X.w H s.heap a (.frz ob (.lst xs)) from I.hok a _ ea);exact KW PySem.W.kitx_list I.kIn ⟨_,h1,rfl⟩ e (fun z=>nomatch z) h
 | @tup a xs ea=>cases (show u=Value.ref a from rx);obtain⟨_,_,_,p⟩:=(show ObjOk X.prog X.w H s.heap a (.tup xs) from I.hok a _ ea);obtain⟨o,h1,h2,_⟩:=p;exact KW PySem.W.kitx_tuple I.kIn ⟨o,h1,h2⟩ e (fun z=>nomatch z) h
 | @dK a kvs ea=>cases (show u=Value.ref a from rx);obtain⟨_,_,vs,_,p⟩:=(show ObjOk X.prog X.w H s.heap a (.dK kvs) from I.hok a _ ea);obtain⟨o,es,ep,h1,h2,_⟩:=p;exact KW MW I.kIn ⟨o,h1,h2.1⟩ e (fun z=>nomatch z) h
 | @dT a kvs ea=>cases (show u=Value.ref a from rx);obtain⟨_,_,xs,_,o,es,ep,h1,h2,_⟩:=(show ObjOk X.prog X.w H s.heap a (.dT kvs) from I.hok a _ ea);exact KW MW I.kIn ⟨o,h1,h2.1⟩ e (fun z=>nomatch z) h
 | @ins a C dx fs ea cl ha hn htk hm=>cases (show u=Value.ref a from rx);obtain⟨mA,O,_⟩:=AF I.hok ea;obtain⟨od,J,_⟩:=O.look;exact KW (PySem.W.kitx_own (cl.get _) cl.hd ha hn htk hm) I.kIn J e (fun z=>nomatch z) h
end
structure Room (k:Nat) (A:Nj):Prop where
 hd:A.handled=none
 dp:A.depth+3*k+5<recursionLimit
 un:A.units+16*k+200<cLine
theorem Room.mono {j k:Nat}{A:Nj}(r:Room k A)(h:j<=k):Room j A:=⟨r.hd,by have:=r.dp;omega,by have:=r.un;omega⟩
theorem Room.deeper {k:Nat}{A:Nj}(r:Room (k+1) A)(env:Env):Room k (A.deeper env):=⟨r.hd,by have:=r.dp;show A.depth+1+3*k+5<_;omega,by have:=r.un;show A.units+3+16*k+200<_;omega⟩
theorem Room.in1 {k:Nat}{A:Nj}(r:Room (k+1) A):Room k A.in1:=⟨r.hd,by have:=r.dp;show A.depth+3*k+5<_;omega,by have:=r.un;show A.units+1+16*k+200<_;omega⟩
theorem Room.depth {k:Nat}{A:Nj}(r:Room k A):A.depth<recursionLimit:=by have:=r.dp;omega
theorem Room.units {k:Nat}{A:Nj}(r:Room k A):A.units+64<cLine:=by have:=r.un;omega
noncomputable def sW:TA:=fun _ H Q=>Q [] H
noncomputable def hJ (ta:TE)(tr:TA):TA:=fun σ H Q=>ta σ H fun x H1=>tr σ H1 fun xs H2=>Q (x::xs) H2
section
variable {X:Cx}{e:Expr}{es:List Expr}{te:TE}{t:TA}{pos:Pos}
theorem bK:PA X [] sW:=fun _ _ _ _ H Q I h=>Calls.spliced_nil ⟨[],H,I,.nil,h⟩
theorem aI (ha:PE X e te)(hr:PA X es t)(hs:autoParam (starEach (e::es) X.env=(false,eval e X.env)::starEach es X.env) Nq._auto_1):PA X (e::es) (hJ te t):=by intro pos pins s σ H Q I h;rw[hs];show wpAny _ _ (spliced ((false,eval e X.env)::backTo pos (starEach es X.env))) _ _ s;refine Calls.spliced_cons (bz (ha pins s σ H _ I h) fun u s1 ⟨x,H1,I1,r1,q1⟩=>?_);exact bz (hr pos pins s1 σ H1 _ I1 q1) fun us s2 ⟨xs,H2,I2,r2,q2⟩=>⟨x::xs,H2,I2,.cons r1 r2,q2⟩
def GA (t:TA):TE:=fun σ H Q=>t σ H fun xs H1=>xs.length<=sizeLine/\∀ p,H1 p=none->Q (.ref p) (ay H1 p (.tup xs))
def GB (t:TA):TE:=fun σ H Q=>t σ H fun xs H1=>xs.length<=sizeLine/\∀ p,H1 p=none->Q (.ref p) (ay H1 p (.lst xs))
theorem sX {x1}(h:PA X es t):PE X (.Tuple es x1 pos) (GA t):=by intro pins s σ H Q I hq;refine wpAny_Tuple_spliced (bz (h pos pins s σ H _ I hq) fun us s1 ⟨xs,H1,I1,r,z,q⟩=>⟨by rw[<- r.length];exact z,?_⟩);have hf:H1 s1.heap.objs.size=none:=I1.hok.fresh (J1 _);refine⟨.ref s1.heap.objs.size,ay H1 s1.heap.objs.size (.tup xs),I1.laid (t':=s1.toks) (fun b u e=>JV _ e) (J1 _) ?_,rfl,q _ hf⟩;exact⟨z,us,r,⟨_,Kb _ rfl,rfl,_,rfl⟩⟩
theorem xp (h:PA X es t):PE X (.List es pos) (GB t):=by intro pins s σ H Q I hq;refine wpAny_List_spliced (bz (h pos pins s σ H _ I hq) fun us s1 ⟨xs,H1,I1,r,z,q⟩=>⟨by rw[<- r.length];exact z,?_⟩);have hf:H1 s1.heap.objs.size=none:=I1.hok.fresh (J1 _);refine⟨.ref s1.heap.objs.size,ay H1 s1.heap.objs.size (.lst xs),I1.laid (t':=s1.toks) (fun b u e=>JV _ e) (J1 _) ?_,rfl,q _ hf⟩;exact⟨z,us,0,r,Kb _ rfl⟩
end
abbrev Sp:=List V->Hp->VK->XK->Prop
abbrev CXT:=List Env->Hp->Nf->XK->Ni->Nf->Prop
structure Env0 (P:Nh) (w:World) (K:Ng) (mg:Str->Option Ni) (base:Heap) (A:Nj) (outer:List Env) (s:Nf) (H:Hp):Prop where
 frames:A.frames=some outer
 mod:Mod K mg base
 bs:∀ b o,base.get? b=some o->s.heap.get? b=some o/\H b=none
 bsz:base.objs.size<=s.heap.objs.size
 funs:s.heap.FunFrames base outer
 frf:∀ b∈frs outer,H b=none
 hok:HOk P w H s.heap
 bare:AllBare s.gens
 kt:WrT K H
def CE (outer:List Env)(P:Nh)(w:World)(H:Hp)(s:Nf)(Q:VK)(u:Ni)(s':Nf):Prop:=∃ v H',s'.os=s.os/\AllBare s'.gens/\Un (frs outer) [] H H' s.heap s'.heap/\HOk P w H' s'.heap/\RelV v u/\Q v H'
def CR (CX:CXT)(outer:List Env)(P:Nh)(w:World)(H:Hp)(s:Nf)(Q:VK)(E:XK)(r:Result)(s':Nf):Prop:=
 match r with
 | .ok (.ret u)=>CE outer P w H s Q u s'
 | .ok _=>False
 | .error e=>CX outer H s E e s'
structure FnOk (P:Nh) (w:World) (K:Ng) (mg:Str->Option Ni) (base:Heap) (CX:CXT) (k:Nat) (f:Addr) (fd:FuncData) (ps:List Str) (sp:Sp):Prop where
 len:∀ vs H Q E,sp vs H Q E->vs.length=ps.length
 run:∀(A:Nj)(outer:List Env)(s:Nf)(H:Hp)(args:Args)(us:List Ni)(vs:List V)(Q:VK)(E:XK),Room k A->Env0 P w K mg base A outer s H->BindsTo s fd args (ps.zip us)->Vals vs us->sp vs H Q E->
  codeAny (model P w) A (.call (.ref f) args) (CR CX outer P w H s Q E) s
theorem FnOk.imp {P:Nh}{w:World}{K:Ng}{mg:Str->Option Ni}{base:Heap}{CX:CXT}{k:Nat}{f:Addr}{fd:FuncData}{ps:List Str}{sp sp':Sp}(F:FnOk P w K mg base CX k f fd ps sp)
 (h:∀ vs H Q E,sp' vs H Q E->sp vs H Q E):FnOk P w K mg base CX k f fd ps sp':=
 ⟨fun vs H Q E q=>F.len vs H Q E (h _ _ _ _ q),fun A outer s H args us vs Q E hr he hb hv hs=>F.run A outer s H args us vs Q E hr he hb hv (h _ _ _ _ hs)⟩
theorem Env0.in1 {P:Nh}{w:World}{K:Ng}{mg:Str->Option Ni}{base:Heap}{A:Nj}{outer:List Env}{s:Nf}{H:Hp}(e:Env0 P w K mg base A outer s H) :
 Env0 P w K mg base A.in1 outer s H:=⟨e.frames,e.mod,e.bs,e.bsz,e.funs,e.frf,e.hok,e.bare,e.kt⟩
section
variable {X:Cx}{pins:List (Addr×Obj)}{σ:St}{H:Hp}{s s':Nf}
theorem Inv.env0 (I:Inv X pins σ H s):Env0 X.prog X.w X.K X.mg X.base X.A X.stack s H:=⟨I.ok.frames,I.ok.mod,I.bs,Ky I.ok.bsz I.sz,I.stack,I.stkFree,I.hok,I.bare,I.kt⟩
theorem Inv.after {Q:VK}{u:Ni}(I:Inv X pins σ H s)(h:CE X.stack X.prog X.w H s Q u s'):EP X pins σ Q u s':=by obtain⟨v,H',os,bare,un,hok,r,q⟩:=h;obtain⟨hh,g,d,t,os'⟩:=s';obtain rfl:os'=s.os:=os;exact⟨v,H',I.call (h':=hh) (g':=g) (d':=d) (t':=t) (ch:=[]) un hok bare (fun b z=>absurd z (by simp)),r,q⟩
end
noncomputable def Cz (sp:Sp)(dvs:List V)(E:XK)(t:TA):TE:=fun σ H Q=>t σ H fun vs H1=>sp (vs++dvs) H1 Q E
def Binds (K:Ng)(fd:FuncData)(ps:List Str)(ds:List Ni):Prop:=∀(s:Nf)(us:List Ni),K.In s.heap->(us++ds).length=ps.length->BindsTo s fd ⟨us,[]⟩ (ps.zip (us++ds))
theorem Binds.all {K:Ng}{fd:FuncData}{ps:List Str}(h:∀ us:List Ni,us.length=ps.length->bindArgs fd ⟨us,[]⟩=pure (ps.zip us)):Binds K fd ps []:=fun s us _ hl=>by rw[Ls]at hl ⊢;exact .of_eq (h us hl)
def jv (CX:CXT)(X:Cx)(E:XK):Prop:=∀(pins:List (Addr×Obj))(σ:St)(H:Hp)(s:Nf)(e:Ni)(s':Nf),Inv X pins σ H s->CX X.stack H s E e s'->X.xe e s'
section
variable {X:Cx}{CX:CXT}{k:Nat}{f C:Addr}{fd:FuncData}{ps:List Str}{sp:Sp}{dvs:List V}{ds:List Ni}{E:XK}{x m:Str}{p pos apos:Pos}{e o:Expr}{es:List Expr}{ta:TE}{t:TA}
theorem DI {pins:List (Addr×Obj)}{σ:St}{H:Hp}{s:Nf}{Q:VK}{us:List Ni}{vs:List V}(F:FnOk X.prog X.w X.K X.mg X.base CX k f fd ps sp)(hr:Room k X.A)(hb:Binds X.K fd ps ds)(hd:Vals dvs ds)(hx:jv CX X E)
 (I:Inv X pins σ H s) (r:Vals vs us) (h:sp (vs++dvs) H Q E):wpAny (model X.prog X.w) X.A (call (.ref f) us) (EP X pins σ Q) X.xe s:=by
 have r2:Vals (vs++dvs) (us++ds):=r.append hd;have hl:(us++ds).length=ps.length:=by rw[<- r2.length];exact F.len _ _ _ _ h
 refine wpAny_call (MO (F.run X.A X.stack s H ⟨us,[]⟩ (us++ds) (vs++dvs) Q E hr I.env0 (hb s us I.kIn hl) r2 h) fun r s' hq=>?_);cases r with
 |error e=>exact hx pins σ H s e s' I hq
 |ok fl=>
  cases fl with
  |ret u=>exact I.after hq
  |next=>exact False.elim hq
  |brk=>exact False.elim hq
  |cont=>exact False.elim hq
theorem oN (F:FnOk X.prog X.w X.K X.mg X.base CX k f fd ps sp)(hr:Room k X.A)(hg:Gl X x)(hm:X.mg x=some (.ref f))(hk:PySem.W.keepIn X.K (.ref f)=true)(hb:Binds X.K fd ps ds)(hd:Vals dvs ds)(hx:jv CX X E)
 (ha:PA X (e::es) t) (hdb:autoParam ((x==("__debug__" : Str))=false) Nk._auto_1) (he:autoParam (starEach (e::es) X.env=(false,eval e X.env)::starEach es X.env) Nq._auto_1) (hpl:autoParam ((backTo pos (starEach es X.env)).any (·.1)=false) Nq._auto_1) :
 PE X (.Call (.Name x p) (e::es) [] pos) (Cz sp dvs E t):=by
 intro pins s σ H Q I h;refine wpAny_Call_Name_kw (Aw I hg hm ?_ hdb);refine PySem.W.callWith_K (h₀:=X.base) I.ok.mod.kin hk (bz (ha pos pins s σ H _ I h) fun us s1 ⟨vs,H1,I1,r,q⟩=>⟨I1.kIn,?_⟩) he hpl;exact DI F hr hb hd hx I1 r q
end
section
variable {X:Cx}{CX:CXT}{k:Nat}{f C:Addr}{fd:FuncData}{ps ks:List Str}{sp:Sp}{E:XK}{x m:Str}{p pos apos kpos:Pos}{e o:Expr}{es:List Expr}{kws:List Keyword}{te ta:TE}{t tk:TA}{nm:Option Str}
variable {g:List Ni->List Ni->List Ni}{gV:List V->List V->List V}
end
structure FnScope (N P:List Str) (sc:Scope):Prop where
 kind:sc.kind=.function
 co:sc.isCoroutine=false
 gen:sc.isGenerator=false
 nd:N.Nodup
 pre:N.take P.length=P
 par:∀ x∈P,sc.names.lookup x=some .local\/sc.names.lookup x=some .cell
 nofree:∀ y∈sc.names,y.2≠.free
theorem m5 {kindOf:Str->Option NameKind}{x:Str}:∀{binds:List (Str×Ni)}{m:Str->Option Ni},(∀ v,(x,v)∉binds)->bindL kindOf binds m x=m x
 | [],_,_=>rfl
 |(n,v)::r,m,h=>by
  unfold bindL;rw[m5 fun w hw=>h w (Kc _ hw)];split
  .have:x≠n:=by rintro rfl;exact h v Kg
   simp[this]
  .rfl
theorem m_ {kindOf:Str->Option NameKind}{x:Str}:∀{binds:List (Str×Ni)}{m:Str->Option Ni},(∀ v,(x,v)∉binds)->bindC kindOf binds m x=m x
 | [],_,_=>rfl
 |(n,v)::r,m,h=>by
  unfold bindC;rw[m_ fun w hw=>h w (Kc _ hw)];split
  .rfl
  .have:x≠n:=by rintro rfl;exact h v Kg
   simp[this]
theorem nc {kindOf:Str->Option NameKind}{x:Str}{v:Ni}:∀{P:List Str}{vs:List Ni}{i:Nat}{m:Str->Option Ni},P.Nodup->P[i]?=some x->vs[i]?=some v->kindOf x=some .local->
 bindL kindOf (P.zip vs) m x=some v
 | [],_,_,_,_,h,_,_=>by simp at h
 |_::_,[],_,_,_,_,h,_=>by simp at h
 |p::P,w::vs,0,m,nd,h1,h2,hk=>by simp at h1 h2;subst h1;subst h2;show bindL kindOf ((p,w)::P.zip vs) m p=_;unfold bindL;rw[m5 fun v hv=>(K1.mp nd).1 (List.of_mem_zip hv).1,JW hk];simp
 |p::P,w::vs,i+1,m,nd,h1,h2,hk=>by show bindL kindOf ((p,w)::P.zip vs) m x=_;unfold bindL;exact nc (i:=i) (K1.mp nd).2 (by simpa using h1) (by simpa using h2) hk
theorem ng {kindOf:Str->Option NameKind}{x:Str}{v:Ni}:∀{P:List Str}{vs:List Ni}{i:Nat}{m:Str->Option Ni},P.Nodup->P[i]?=some x->vs[i]?=some v->kindOf x≠some .local->
 bindC kindOf (P.zip vs) m x=some v
 | [],_,_,_,_,h,_,_=>by simp at h
 |_::_,[],_,_,_,_,h,_=>by simp at h
 |p::P,w::vs,0,m,nd,h1,h2,hk=>by simp at h1 h2;subst h1;subst h2;show bindC kindOf ((p,w)::P.zip vs) m p=_;unfold bindC;rw[m_ fun v hv=>(K1.mp nd).1 (List.of_mem_zip hv).1,J0 hk];simp
 |p::P,w::vs,i+1,m,nd,h1,h2,hk=>by show bindC kindOf ((p,w)::P.zip vs) m x=_;unfold bindC;exact ng (i:=i) (K1.mp nd).2 (by simpa using h1) (by simpa using h2) hk
noncomputable def start (N:List Str)(vs:List V):St:=vs.map some++List.replicate (N.length-vs.length) none
noncomputable def oO (CX:CXT)(P:Nh)(w:World)(K:Ng)(mg:Str->Option Ni)(base:Heap)(N:List Str)(qual:Str)(scope:Scope)(f:Addr)(cd:Ni)(A:Nj)(outer:List Env)(s:Nf)(H:Hp)(E:XK):Cx where
 prog:=P
 w:=w
 K:=K
 mg:=mg
 base:=base
 A:=A.deeper (envOfC qual scope s.heap.objs.size f cd)
 N:=N
 s₀:=s
 H₀:=H
 env:=envOfC qual scope s.heap.objs.size f cd
 outer:=outer
 stack:=envOfC qual scope s.heap.objs.size f cd::outer
 ex:=[]
 calm:=true
 fn:=fun _=>true
 pn:=[]
 xe:=fun e s'=>wpAny (model P w) (A.deeper (envOfC qual scope s.heap.objs.size f cd)) (leaving (envOfC qual scope s.heap.objs.size f cd) e) (fun _ s''=>CX outer H s E e s'') (fun e' s''=>CX outer H s E e' s'') s'
theorem qM {sc:Scope}{n:Nat}{x:Str}(h:sc.names.lookup x=some .cell):∃ c,(cellsFrom n sc.names []).lookup x=some c:=by have q:=PySem.W.cellsFrom_some sc.names n [] (.inl h);exact Option.isSome_iff_exists.mp q
theorem vZ {CX:CXT}{P:Nh}{w:World}{K:Ng}{mg:Str->Option Ni}{base:Heap}{N ps:List Str}{qual:Str}{scope:Scope}{f:Addr}{cd:Ni}{A:Nj}{outer:List Env}{s s1:Nf}{H:Hp}{E:XK}{us:List Ni}{vs:List V}
 (S:FnScope N ps scope) (hd:A.handled=none) (e0:Env0 P w K mg base A outer s H) (hl:vs.length=ps.length) (r:Vals vs us)
 (x:InCallC s s.heap.objs.size (bindL (envOfC qual scope s.heap.objs.size f cd).kindOf (ps.zip us) fun _=>none) (cellsFrom (s.heap.objs.size+1) scope.names []) (bindC (envOfC qual scope s.heap.objs.size f cd).kindOf (ps.zip us) fun _=>none) s1) :
 Inv (oO CX P w K mg base N qual scope f cd A outer s H E) [] (start N vs) H s1:=by
 have hpl:ps.length<=N.length:=by have:=KQ List.length S.pre;rw[LM]at this;omega
 obtain⟨h1,tk,rfl,hk⟩:=x.done;have noA:∀ b:Addr,b∉(oO CX P w K mg base N qual scope f cd A outer s H E).ex:=fun b z=>absurd (show b∈([]:List Addr) from z) (by simp);refine⟨⟨e0.mod,S.kind,rfl,rfl,J1 _,fun y z c h1 h2=>?_,fun y hy=>?_,fun y c _ h=>?_,fun _=>hd,Around.frames_deeper e0.frames,.inr ⟨rfl,rfl⟩,fun b z=>absurd z (noA b),e0.bs,e0.bsz,fun b _ _=>noA b,fun b z=>absurd z (noA b),e0.funs,e0.frf,e0.kt⟩,
  rfl,e0.bare,Un.kept hk,⟨_,x.toInCall.ns,fun i y v h1 h2 h3=>?_⟩,fun y c h=>⟨_,x.cell y c h⟩,e0.hok.fresh (J1 _),fun y c h=>?_,fun p hp=>absurd (show p∈([]:List (Addr×Obj)) from hp) (by simp),e0.hok.kept hk,?_⟩
 .exact name_of_addr x.apart (Le h1) (Le h2)
 .have hy:scope.names.lookup y=some .cell\/scope.names.lookup y=some .free:=hy;rcases hy with hy|hy
  .exact qM hy
  .exact absurd rfl (S.nofree _ (Le hy))
 .exact Mf (x.above y c (Le h))
 .have hi:i<vs.length:=by
   unfold start at h2;by_cases hi:i<vs.length
   .exact hi
   .rw[Ke (by simpa using hi)]at h2;rw[K7]at h2;split at h2<;>cases h2
  have ha:vs[i]?=some v:=by
   unfold start at h2;rw[Ka (by simpa using hi),J9]at h2;cases e:vs[i]? with
   |none=>rw[e]at h2;cases h2
   |some a=>rw[e]at h2;cases h2;rfl
  obtain⟨u,hu,rv⟩:=r.get ha;have hp:ps[i]?=some y:=by rw[<- S.pre,List.getElem?_take_of_lt (by omega)];exact h1
  have ndP:ps.Nodup:=by rw[<- S.pre];exact S.nd.sublist (List.take_sublist _ _)
  refine⟨u,rv,?_⟩;rcases S.par y (KM hp) with k|k
  .exact .inl ⟨k,nc ndP hp hu k⟩
  .obtain⟨c,e⟩:=qM (n:=s.heap.objs.size+1) k;refine .inr ⟨.inl k,c,e,?_⟩;have q:=x.cell y c e;rw[ng ndP hp hu (by show scope.names.lookup y≠_;rw[k];decide)]at q;exact q
 .exact e0.hok.fresh (Mf (x.above y c (Le h)))
 .unfold start;show _=N.length;rw[Kp,JU,MC];omega
theorem GC {CX:CXT}{P:Nh}{w:World}{K:Ng}{mg:Str->Option Ni}{base:Heap}{k:Nat}{f:Addr}{name qual:Str}{params:Arguments}{body:List Stmt}{scope:Scope}{dV kV doc pm cdv ct oc:Ni}{an od:Option Addr}
 {osl:Array (Option Ni)} {N ps:List Str} {sp:Sp} (lk:K.lookup f=some ⟨oc,od,.func (PySem.W.fnOf name qual params body scope dV kV doc pm an cdv ct),osl⟩) (hcd:PySem.W.codeIn K cdv qual=true) (S:FnScope N ps scope)
 (len:∀ vs H Q E,sp vs H Q E->vs.length=ps.length)
 (hbody:∀(A:Nj)(outer:List Env)(s:Nf)(H:Hp)(vs:List V)(Q:VK)(E:XK),Room k (A.deeper (envOfC qual scope s.heap.objs.size f cdv))->sp vs H Q E->
   ∃ t,PSs (oO CX P w K mg base N qual scope f cdv A outer s H E) body t/\t { nx:=fun _ H'=>Q .non H',rt:=Q } (start N vs) H) :
 FnOk P w K mg base CX (k+1) f (PySem.W.fnOf name qual params body scope dV kV doc pm an cdv ct) ps sp:=by
 refine⟨len,fun A outer s H args us vs Q E hr e0 hb r hsp=>?_⟩;have hl:=len _ _ _ _ hsp;have KX:K.In s.heap:=e0.mod.kin.keeps fun b o e=>(e0.bs b o e).1;have lim:s.heap.NoLimit:=e0.mod.nolimit.keeps fun b o e=>(e0.bs b o e).1;have hkind:∀ y∈ps.zip us,scope.names.lookup y.1=some .local\/(scope.names.lookup y.1=some .cell/\((cellsFrom (s.heap.objs.size+1) scope.names []).lookup y.1).isSome=true):=fun⟨n,v⟩ hy=>by
  rcases S.par n (List.of_mem_zip hy).1 with q|q
  .exact .inl q
  .exact .inr ⟨q,PySem.W.cellsFrom_some _ _ _ (.inl q)⟩
 refine codeAny_call_function hr.depth (KX _ _ lk) rfl S.co S.gen rfl (PySem.W.codeRec_of KX hcd) (hb _ _ _ _ ?_);refine wpAny_newFunctionEnv_cells S.kind hkind fun env he s1 x=>?_;subst he;refine⟨lim.keeps x.toInCall.keep,codeAny_func ?_⟩;obtain⟨t,ht,hq⟩:=hbody A outer s H vs Q E (hr.deeper _) hsp;have I:Inv (oO CX P w K mg base N qual scope f cdv A outer s H E) [] (start N vs) H s1:=vZ S hr.hd e0 hl r x;refine Lc (ht [] s1 (start N vs) H _ I hq) (fun fl s' hs=>?_) fun e s' hs=>hs;have fin:∀{σ':St}{H':Hp}{v:V}{u:Ni},Inv (oO CX P w K mg base N qual scope f cdv A outer s H E) [] σ' H' s'->RelV v u->Q v H'->CE outer P w H s Q u s':=fun{σ' H' v u} J rv q=>⟨v,H',J.os,J.bare,J.base,J.hok,rv,q⟩;cases fl with
 |ret u=>obtain⟨v,σ',H',J,rv,q⟩:=hs;exact fin J rv q
 |next=>obtain⟨σ',H',J,q⟩:=hs;exact fin (v:=V.non) (u:=Value.none) J rfl q
 |brk=>obtain⟨_,_,_,q⟩:=hs;exact False.elim q
 |cont=>obtain⟨_,_,_,q⟩:=hs;exact False.elim q
section
variable {X:Cx}{x:Str}{p pos:Pos}{e:Expr}{es:List Expr}{t:TA}{id T:String}{r:List V->Hp->VK->Prop}
noncomputable def Jw (r:List V->Hp->VK->Prop)(t:TA):TE:=fun σ H Q=>t σ H fun vs H1=>r vs H1 Q
theorem lj (hc:CallR X (.builtin id) r) (hg:Gl X x) (hm:X.mg x=none) (hv:bootBuiltins x=some (.builtin id)) (ha:PA X (e::es) t) (hn:autoParam (x≠"__name__") Nk._auto_1) (hdb:autoParam ((x==("__debug__" : Str))=false) Nk._auto_1)
 (he:autoParam (starEach (e::es) X.env=(false,eval e X.env)::starEach es X.env) Nq._auto_1) (hpl:autoParam ((backTo pos (starEach es X.env)).any (·.1)=false) Nq._auto_1):PE X (.Call (.Name x p) (e::es) [] pos) (Jw r t):=by
 intro pins s σ H Q I h;refine wpAny_Call_Name_kw (lc I hg hm hv ?_ hn hdb);exact PyProof.Rows.callWith_builtin1 (bz (ha pos pins s σ H _ I h) fun us s1 ⟨vs,H1,I1,r1,q1⟩=>hc pins s1 σ H1 vs us Q I1 r1 q1) he hpl
theorem jw (hc:CallR X (.type T) r) (hg:Gl X x) (hm:X.mg x=none) (hv:bootBuiltins x=some (.type T)) (ha:PA X (e::es) t) (hn:autoParam (x≠"__name__") Nk._auto_1) (hdb:autoParam ((x==("__debug__" : Str))=false) Nk._auto_1)
 (he:autoParam (starEach (e::es) X.env=(false,eval e X.env)::starEach es X.env) Nq._auto_1) (hpl:autoParam ((backTo pos (starEach es X.env)).any (·.1)=false) Nq._auto_1):PE X (.Call (.Name x p) (e::es) [] pos) (Jw r t):=by
 intro pins s σ H Q I h;refine wpAny_Call_Name_kw (lc I hg hm hv ?_ hn hdb);exact LS (bz (ha pos pins s σ H _ I h) fun us s1 ⟨vs,H1,I1,r1,q1⟩=>hc pins s1 σ H1 vs us Q I1 r1 q1) he hpl
end
end L2
namespace HT
open PySem PyProof.Rows
section
open PySem.SeqAt
open PySem.AutoSeq1 (wpAny_loadPart')
open PySem.MeetsSeq PySem.MeetsSeq2 PySem.MeetsSeq3
end
section
variable {prog:Nh}{w:World}{A:Nj}{E:Ni->Nf->Prop}{s:Nf}
theorem cat_tup {t b:Addr}{vs ws:List Ni}{Q:Ni->Nf->Prop}(ht:IsTup s.heap t vs.toArray)(hb:IsTup s.heap b ws.toArray)(hv:vs≠[])
 (h1:ws=[]->Q (.ref t) s) (h2:ws≠[]->Q (.ref s.heap.objs.size) { s with heap:=s.heap.push { cls:=.type "tuple",data:=.seq (vs++ws).toArray } })
 (hsz:vs.length+ws.length<=sizeLine):wpAny (model prog w) A (binaryOp .Add (.ref t) (.ref b)) Q E s:=by
 obtain⟨⟨cls,dd,data,sl⟩,ho,hc,n,hd⟩:=id ht;obtain⟨⟨cls2,dd2,data2,sl2⟩,ho2,hc2,n2,hd2⟩:=id hb;simp only at hc hd hc2 hd2;subst hc hd hc2 hd2;have e:vs.toArray++ws.toArray=(vs++ws).toArray:=by simp
 by_cases hw:ws=[]
 .exact concat_meets ⟨_,ho,rfl⟩ ⟨_,ho2,rfl⟩ noFill_tuple_add seq_tuple_add PySem.F.slot_tuple_add PySem.F.entry_tuple_add (PySem.F.args_tuple_add_2 _ _)
   (tuple_addW1 t b vs.toArray ws.toArray n n2 dd dd2 sl sl2 (by simpa using hv) (by simp[hw])) ⟨ho,ho2,h1 hw⟩
 .refine concat_meets ⟨_,ho,rfl⟩ ⟨_,ho2,rfl⟩ noFill_tuple_add seq_tuple_add PySem.F.slot_tuple_add PySem.F.entry_tuple_add (PySem.F.args_tuple_add_2 _ _)
   (tuple_addW2 t b vs.toArray ws.toArray n n2 dd dd2 sl sl2 (by simpa using hv) (by simpa using hw) (by rw[J3,J3];exact hsz)) ⟨ho,ho2,?_⟩
  rw[e];exact h2 hw
end
end HT
namespace L2
open PySem PySem.Spec PyProof.Rows
abbrev TO:=St->Hp->(Option Int->Hp->Prop)->Prop
def PO (X:Cx)(e:Option Expr)(t:TO):Prop:=
 ∀(pins:List (Addr×Obj))(s:Nf)(σ:St)(H:Hp)(Q:Option Int->Hp->Prop),Inv X pins σ H s->t σ H Q->
  wpAny (model X.prog X.w) X.A (evalPart e X.env) (fun u s'=>∃ o H',Inv X pins σ H' s'/\IsPart u o/\Q o H') X.xe s
noncomputable def GD (t:TE):TO:=fun σ H Q=>t σ H fun x H1=>∃ i,x=.int i/\Q (some i) H1
section
variable {X:Cx}{e:Expr}{te:TE}{lo hi:Option Expr}{tl th:TO}{pos p2:Pos}
theorem AG (h:PE X e te):PO X (some e) (GD te):=by intro pins s σ H Q I hw;rw[evalPart_some];refine bz (h pins s σ H _ I hw) fun u s1 ⟨x,H1,I1,r1,q1⟩=>?_;obtain⟨i,rfl,q⟩:=q1;obtain⟨t,rfl⟩:=r1;exact⟨some i,H1,I1,.int i t,q⟩
def GE (K:Ng):R2:=fun x y H Q=>∃ a b xs ys,x=.ref a/\y=.ref b/\SqT K H a xs/\SqT K H b ys/\xs≠[]/\xs.length+ys.length<=sizeLine/\
 (ys=[]->Q (.ref a) H)/\(ys≠[]->∀ p,H p=none->Q (.ref p) (ay H p (.tup (xs++ys))))
theorem Vals.nil_iff {xs:List V}{us:List Ni}(r:Vals xs us):us=[]↔xs=[]:=by
 cases r with
 |nil=>simp
 |cons _ _=>simp
theorem op_catT:OpR X (binaryOp .Add) (GE X.K):=by intro pins s σ H x y v u Q I rx ry h;obtain⟨a,b,xs,ys,rfl,rfl,ha,hb,hx,hz,q1,q2⟩:=h;cases rx;cases ry;obtain⟨its,r1,p1,_⟩:=I.tuple ha;obtain⟨its2,r2,p2,_⟩:=I.tuple hb;refine HT.cat_tup p1 p2 (fun z=>hx (r1.nil_iff.mp z)) (fun z=>⟨.ref a,H,I,rfl,q1 (r2.nil_iff.mp z)⟩) (fun z=>?_) (by rw[<- r1.length,<- r2.length];exact hz);refine⟨.ref s.heap.objs.size,_,I.laid (t':=s.toks) (o:=.tup (xs++ys)) (fun b ob q=>JV _ q) (J1 _) ?_,rfl,q2 (fun w=>z (r2.nil_iff.mpr w)) _ (I.hok.fresh (J1 _))⟩;exact⟨by rw[Kp];exact hz,_,r1.append r2,IsTup.new _ _⟩
end
noncomputable def qA (n:Nat)(i:Int):Option Nat:=if 0<=i then (if i<n then some i.toNat else none) else if -(n:Int)<=i then some (i+n).toNat else none
def atI {α:Type}(xs:List α)(i:Int):Option α:=(qA xs.length i).bind fun j=>xs[j]?
theorem uw {n:Nat}{i:Int}{j:Nat}(h:qA n i=some j):seqIndex? i n=some j/\j<n/\-(n:Int)<=i/\i<n:=by
 unfold qA at h;by_cases h0:0<=i
 .rw[JW h0]at h;by_cases h1:i<n
  .rw[JW h1]at h;have e:i.toNat=j:=Kq h;exact⟨by rw[seqIndex_of h0 h1,e],by omega,by omega,h1⟩
  .rw[J0 h1]at h;cases h
 .rw[J0 h0]at h;by_cases h1:-(n:Int)<=i
  .rw[JW h1]at h;have e:(i+n).toNat=j:=Kq h;exact⟨by rw[seqIndex_neg (by omega) h1,e],by omega,h1,by omega⟩
  .rw[J0 h1]at h;cases h
theorem oP {α:Type}{xs:List α}{i:Int}{v:α}(h:atI xs i=some v):∃ j,seqIndex? i xs.length=some j/\xs[j]?=some v/\j<xs.length/\-(xs.length:Int)<=i/\i<xs.length:=by
 unfold atI at h;cases e:qA xs.length i with
 |none=>rw[e]at h;cases h
 |some j=>rw[e]at h;obtain⟨h1,h2,h3,h4⟩:=uw e;exact⟨j,h1,h,h2,h3,h4⟩
theorem AH {α:Type}{xs:List α}{j:Nat}{v:α}(h:xs[j]?=some v):atI xs (j:Int)=some v:=by
 have hj:j<xs.length:=(JY.mp h).1;have e:qA xs.length (j:Int)=some j:=by unfold qA;rw[JW (by omega),JW (by omega)];simp
 unfold atI;rw[e];exact h
def oQ (b:Expr):Prop:=∀ o i,subscripted b false o i=operate [o,i] (getItem o i)
def IxR (X:Cx)(r:R2):Prop:=
 ∀(value slice:Expr)(pins:List (Addr×Obj))(s:Nf)(σ:St)(H:Hp)(x y:V)(v u:Ni)(Q:VK),Inv X pins σ H s->RelV x v->RelV y u->r x y H Q->
  subscripted slice false v u=operate [v,u] (getItem v u)->wpAny (model X.prog X.w) X.A (subscriptTail value slice v u) (EP X pins σ Q) X.xe s
def IM (X:Cx)(id:String)(r:V->List V->Hp->VK->Prop):Prop:=
 ∀(pins:List (Addr×Obj))(s:Nf)(σ:St)(H:Hp)(x:V)(xs:List V)(v:Ni)(us:List Ni)(Q:VK),Inv X pins σ H s->RelV x v->Vals xs us->r x xs H Q->
  wpAny (model X.prog X.w) X.A (call (.builtin id) (v::us)) (EP X pins σ Q) X.xe s
section
variable {X:Cx}{a b:Expr}{ta tb:TE}{pos:Pos}
theorem IxR.or {r r':R2}(h:IxR X r)(h':IxR X r'):IxR X (fun x y H Q=>r x y H Q\/r' x y H Q):=by
 intro value slice pins s σ H x y v u Q I rx ry q hs;rcases q with q|q
 .exact h value slice pins s σ H x y v u Q I rx ry q hs
 .exact h' value slice pins s σ H x y v u Q I rx ry q hs
theorem CA {r:R2}(hr:IxR X r)(ha:PE X a ta)(hb:PE X b tb)(hs:oQ b):PE X (.Subscript a b pos) (F3 r ta tb):=by intro pins s σ H Q I h;exact Subscript_ (Dy ha hb I h fun v u s2 x y H2 I2 rx ry q=>hr a b pins s2 σ H2 x y v u Q I2 rx ry q (hs _ _))
def DJ (K:Ng):R2:=fun x y H Q=>∃ p xs i v,x=.ref p/\y=.int i/\SqL K H p xs/\atI xs i=some v/\Q v H
def GF (K:Ng):R2:=fun x y H Q=>∃ p xs i v,x=.ref p/\y=.int i/\SqT K H p xs/\atI xs i=some v/\Q v H
def GG:R2:=fun x y H Q=>∃ z i c,x=.str z/\y=.int i/\z.length<=sizeLine/\atI z.cps.toList i=some c/\Q (.str ⟨#[c]⟩) H
theorem ix_list:IxR X (DJ X.K):=by
 intro value slice pins s σ H x y v u Q I rx ry h hs;obtain⟨p,xs,i,z,rfl,rfl,hq,he,q⟩:=h;cases rx;obtain⟨t,rfl⟩:=ry;obtain⟨its,r,pl,hz⟩:=I.list hq;obtain⟨j,h1,h2,h3,h4,h5⟩:=oP he;obtain⟨w,ew,rw'⟩:=r.get h2;have hl:=r.length;have hn:=ig;have fin:EP X pins σ Q w s:=⟨z,H,I,rw',q⟩;by_cases h0:0<=i
 .have hj:i.toNat=j:=by rw[seqIndex_of h0 h5]at h1;exact Kq h1
  exact item_listR pl.isList h0 (by omega) (by rw[hj];simpa using ew) fin hs
 .have hj:(i+(its.toArray.size:Int)).toNat=j:=by rw[seqIndex_neg (by omega) h4]at h1;rw[J3,<- hl];exact Kq h1
  exact subscriptTail_builtinR (x:=w) pl.isList.typeIs slot_list_getitem.lookup
   (wpAny_getItem_list_neg (Q:=fun r s'=>r=w/\EP X pins σ Q r s') pl.isList (by omega) (by rw[J3]<;>omega) (by omega) (by rw[hj];simpa using ew) ⟨rfl,fin⟩) hs
theorem ix_tup:IxR X (GF X.K):=by
 intro value slice pins s σ H x y v u Q I rx ry h hs;obtain⟨p,xs,i,z,rfl,rfl,hq,he,q⟩:=h;cases rx;obtain⟨t,rfl⟩:=ry;obtain⟨its,r,pl,hz⟩:=I.tuple hq;obtain⟨j,h1,h2,h3,h4,h5⟩:=oP he;obtain⟨w,ew,rw'⟩:=r.get h2;have hl:=r.length;have hn:=ig;have fin:EP X pins σ Q w s:=⟨z,H,I,rw',q⟩;exact subscriptTail_builtinR (x:=w) pl.typeIs slot_tuple_getitem.lookup
  (getItem_tuple (j:=j) (Q:=fun r s'=>r=w/\EP X pins σ Q r s') pl (by omega) (by omega) (by rw[J3,<- hl];exact h1) (by simpa using ew) ⟨rfl,fin⟩) hs
theorem DL:IxR X GG:=by
 intro value slice pins s σ H x y v u Q I rx ry h hs;obtain⟨z,i,c,rfl,rfl,hz,he,q⟩:=h;obtain⟨t,rfl⟩:=rx;obtain⟨t',rfl⟩:=ry;obtain⟨j,h1,h2,h3,h4,h5⟩:=oP he;have hl:z.cps.toList.length=z.length:=by simp[Str.length]
 rw[hl]at h1 h4 h5;have hn:=ig;exact tail_any (typeIs_str s z t) slot_str_getitem.lookup (getItem_str (c:=c) (by have e1:decide (i < -(2 ^ 63:Int))=false:=Kr (by omega);have e2:decide (i>=2 ^ 63)=false:=Kr (by omega);rw[e1,e2,Bool.or_false]) (by rw[h1];simpa using h2) ⟨.str ⟨#[c]⟩,H,I.tok _,⟨_,rfl⟩,q⟩) hs
def JH (K:Ng):R2:=fun x y H Q=>DJ K x y H Q\/GF K x y H Q\/GG x y H Q
theorem DM:IxR X (JH X.K):=ix_list.or (ix_tup.or DL)
theorem sY (its:List Ni) (n j:Nat) (u:Ni):Obj.mapSeq (·.setIfInBounds j u) { cls:=.type "list",data:=.seq its.toArray n }={ cls:=.type "list",data:=.seq (its.set j u).toArray n }:=by simp[Obj.mapSeq]
theorem Inv.lst {pins:List (Addr×Obj)}{σ:St}{H:Hp}{s:Nf}{p:Addr}{xs:List V}(I:Inv X pins σ H s)(h:H p=some (.lst xs)) :
 ∃(its:List Ni)(n:Nat),Vals xs its/\s.heap.get? p=some { cls:=.type "list",data:=.seq its.toArray n }/\xs.length<=sizeLine:=by
 obtain⟨z,its,n,r,e⟩:=I.hok p _ h;exact⟨its,n,r,e,z⟩
theorem Inv.lstUpd {pins:List (Addr×Obj)}{σ:St}{H:Hp}{s:Nf}{p:Addr}{xs ys:List V}{its its':List Ni}{n n':Nat}{f:Obj->Obj}(I:Inv X pins σ H s)(h:H p=some (.lst xs))
 (ho:s.heap.get? p=some { cls:=.type "list",data:=.seq its.toArray n }) (hf:f { cls:=.type "list",data:=.seq its.toArray n }={ cls:=.type "list",data:=.seq its'.toArray n' }) (r:Vals ys its') (hz:ys.length<=sizeLine) (t:Nat) :
 Inv X pins σ (ay H p (.lst ys)) { s with heap:=s.heap.update p f,toks:=t }:=by
 have e:(s.heap.update p f).get? p=some { cls:=.type "list",data:=.seq its'.toArray n' }:=by rw[K5 f ho (by rw[hf]<;>rfl),hf]
 refine I.write (x:=p) (e:=p) (by rw[h];trivial) (.inl rfl) (fun b u hb q=>(Lb _ _ (Ko hb)).trans q) ⟨_,e⟩ ?_;exact⟨hz,its',n',r,e⟩
def GH:V->V->V->Hp->(Hp->Prop)->Prop:=fun o i v H Q=>∃ p xs k j,o=.ref p/\i=.int k/\H p=some (.lst xs)/\qA xs.length k=some j/\Q (ay H p (.lst (xs.set j v)))
theorem xq:Gp X GH:=by
 intro pins s σ H o i v ov iv u Q I ro ri rv h;obtain⟨p,xs,k,j,rfl,rfl,hp,hj,q⟩:=h;cases ro;obtain⟨t,rfl⟩:=ri;obtain⟨its,n,r,ho,hz⟩:=I.lst hp;obtain⟨h1,h2,h3,h4⟩:=uw hj;have hl:=r.length;have hn:=ig;have I':Inv X pins σ (ay H p (.lst (xs.set j v))) { s with heap:=s.heap.update p (Obj.mapSeq (·.setIfInBounds j u)) }:=I.lstUpd hp ho (sY its n j u) (r.set rv j) (by rw[KE];exact hz) s.toks;by_cases h0:0<=k
 .have hk:k.toNat=j:=by rw[seqIndex_of h0 h4]at h1;exact Kq h1
  exact PySem.W.ki_setAt ho h0 (by omega) (by rw[J3,<- hl];exact h4) (by rw[hk];exact⟨_,I',q⟩)
 .have hk:(k+(its.toArray.size:Int)).toNat=j:=by rw[seqIndex_neg (by omega) h3]at h1;rw[J3,<- hl];exact Kq h1
  exact PySem.W.ki_setBack ho (by omega) (by rw[J3,<- hl];exact h3) (by omega) (by rw[hk];exact⟨_,I',q⟩)
theorem call_len_seq:CallR X (.builtin "len") (fun xs H Q=>∃ p ys,xs=[.ref p]/\(SqL X.K H p ys\/SqT X.K H p ys)/\Q (.int ys.length) H):=by
 intro pins s σ H xs us Q I r h;obtain⟨p,ys,rfl,hq,q⟩:=h;obtain⟨u,rfl,rx⟩:=iH r;cases rx;have hn:=ig;rcases hq with hq|hq
 .obtain⟨its,r',pl,hz⟩:=I.list hq;have bO:=r'.length;exact Calls.call_len_list pl.isList (by simp only[J3]<;>omega) ⟨.int ys.length,H,I.tok _,⟨s.toks+1,by rw[J3,bO]⟩,q⟩
 .obtain⟨its,r',pl,hz⟩:=I.tuple hq;have bO:=r'.length;exact len_tuple pl (by simp only[J3]<;>omega) ⟨.int ys.length,H,I.tok _,⟨s.toks+1,by rw[J3,bO]⟩,q⟩
theorem oR:CallR X (.builtin "len") (fun xs H Q=>∃ z,xs=[.str z]/\z.length<=sizeLine/\Q (.int z.length) H):=by intro pins s σ H xs us Q I r h;obtain⟨z,rfl,hz,q⟩:=h;obtain⟨u,rfl,t,rfl⟩:=iH r;have hn:=ig;exact len_str (by omega) ⟨.int z.length,H,I.tok _,⟨_,rfl⟩,q⟩
theorem CallR.or {f:Ni}{r r':List V->Hp->VK->Prop}(h:CallR X f r)(h':CallR X f r'):CallR X f (fun xs H Q=>r xs H Q\/r' xs H Q):=by
 intro pins s σ H xs us Q I rs q;rcases q with q|q
 .exact h pins s σ H xs us Q I rs q
 .exact h' pins s σ H xs us Q I rs q
theorem oS:CallR X (.type "list") (fun xs H Q=>∃ p ys,xs=[.ref p]/\(SqL X.K H p ys\/SqT X.K H p ys)/\∀ l,H l=none->Q (.ref l) (ay H l (.lst ys))):=by
 intro pins s σ H xs us Q I r h;obtain⟨p,ys,rfl,hq,q⟩:=h;obtain⟨u,rfl,rx⟩:=iH r;cases rx;have fin:∀(its:List Ni),Vals ys its->ys.length<=sizeLine->∀(h':Heap)(c':Nat),(∀ b o',s.heap.get? b=some o'->h'.get? b=some o')->
  h'.get? s.heap.objs.size=some { cls:=.type "list",dict:=none,data:=.seq its.toArray c',slots:=#[] }->EP X pins σ Q (.ref s.heap.objs.size) { s with heap:=h' }:=fun its r' hz h' c' kp e=>
  ⟨.ref s.heap.objs.size,_,I.laid (t':=s.toks) kp (J1 _) (show ObjOk X.prog X.w _ h' _ (.lst ys) from⟨hz,its,c',r',e⟩),rfl,q _ (I.hok.fresh (J1 _))⟩
 rcases hq with hq|hq
 .obtain⟨its,r',pl,hz⟩:=I.list hq;have bO:=r'.length;obtain⟨o,ho,hc,n,hd⟩:=pl.isList;exact call_list_seq p (.inl rfl) ho hc hd (fun h' c' kp e=>fin its r' hz h' c' kp e) (by simp only[J3]<;>omega)
 .obtain⟨its,r',pl,hz⟩:=I.tuple hq;have bO:=r'.length;obtain⟨o,ho,hc,n,hd⟩:=pl;exact call_list_seq p (.inr rfl) ho hc hd (fun h' c' kp e=>fin its r' hz h' c' kp e) (by simp only[J3]<;>omega)
def Im (K:Ng)(T:String)(x:V)(H:Hp):Prop:=match x with
 | .str _=>T="str"
 | .int _=>T="int"
 | .ref p=>(T="list"/\∃ xs,SqL K H p xs)\/(T="tuple"/\∃ o,K.lookup p=some o/\o.cls=.type "tuple"/\o.dict=none)\/
  (T="dict"/\((∃ kvs,H p=some (.dK kvs))\/∃ kvs,H p=some (.dT kvs)))\/(T="set"/\∃ S n,H p=some (.set S n))
 |_=>False
theorem xr {pins:List (Addr×Obj)}{σ:St}{H:Hp}{s:Nf}{T:String}{x:V}{v:Ni}(I:Inv X pins σ H s)(r:RelV x v)(ty:Im X.K T x H) :
 s.TypeIs v T/\∀ a,v=.ref a->∃ ob,s.heap.get? a=some ob/\ob.dict=none:=by
 cases x with
 |str z=>obtain⟨t,rfl⟩:=r;cases (show T="str" from ty);exact⟨typeIs_str s z t,fun _ e=>nomatch e⟩
 |int i=>obtain⟨t,rfl⟩:=r;cases (show T="int" from ty);exact⟨typeIs_int s i t,fun _ e=>nomatch e⟩
 |ref p=>
  cases r;rcases ty with⟨rfl,xs,hq⟩|⟨rfl,o,hk,hc,hd⟩|⟨rfl,hk⟩|⟨rfl,S,n,hk⟩
  .obtain⟨its,_,pl,_⟩:=I.list hq;refine⟨pl.isList.typeIs,fun a e=>?_⟩;cases e;obtain⟨o,n,e,c,hd,_⟩:=pl;exact⟨o,e,hd⟩
  .refine⟨⟨o,I.kIn p o hk,hc⟩,fun a e=>?_⟩;cases e;exact⟨o,I.kIn _ o hk,hd⟩
  .have z:∃ o,s.heap.get? p=some o/\o.ExactDict:=by
    rcases hk with⟨kvs,hk⟩|⟨kvs,hk⟩
    .obtain⟨_,_,_,_,o,_,_,e,ex,_⟩:=I.hok p _ hk;exact⟨o,e,ex⟩
    .obtain⟨_,_,_,_,o,_,_,e,ex,_⟩:=I.hok p _ hk;exact⟨o,e,ex⟩
   obtain⟨o,e,ex⟩:=z;refine⟨⟨o,e,ex.1⟩,fun a e2=>?_⟩;cases e2;exact⟨o,e,ex.2.1⟩
  .obtain⟨o,_,_,_,e,ex,_⟩:=I.hok p _ hk;refine⟨⟨o,e,ex.1⟩,fun a e2=>?_⟩;cases e2;exact⟨o,e,ex.2.1⟩
 |_=>exact False.elim ty
noncomputable def IN (K:Ng)(T:String)(r:V->List V->Hp->VK->Prop)(to:TE):TE:=fun σ H Q=>to σ H fun x H1=>Im K T x H1/\r x [] H1 Q
noncomputable def GI (K:Ng)(T:String)(r:V->List V->Hp->VK->Prop)(to:TE)(t:TA):TE:=fun σ H Q=>to σ H fun x H1=>Im K T x H1/\t σ H1 fun xs H2=>r x xs H2 Q
variable {o e:Expr}{es:List Expr}{to:TE}{t:TA}{name:Str}{apos cpos:Pos}{T id:String}{r:V->List V->Hp->VK->Prop}
theorem DN (pa:PlainAttrs T) (slot:Slot T name id) (hty:typeOf (.builtin id)=pure (.type "method_descriptor")) (hm:IM X id r) (ho:PE X o to)
 (hbase:autoParam (attributeBase o name X.env (eval o X.env)=eval o X.env) Nq._auto_1) (hline:autoParam ((apos.endLine==cpos.line)=true) Nq._auto_1):PE X (.Call (.Attribute o name apos) [] [] cpos) (IN X.K T r to):=by
 intro pins s σ H Q I h;refine wpAny_Call_method0_late hbase hline (bz (ho pins s σ H _ I h) fun v s1 ⟨x,H1,I1,r1,ty,q1⟩=>?_);obtain⟨h1,h2⟩:=xr I1 r1 ty;exact⟨T,id,pa,slot,hty,h1,h2,LQ rfl (PySem.evalArgs_none (hm pins s1 σ H1 x [] v [] Q I1 r1 .nil q1))⟩
theorem iI (pa:PlainAttrs T) (slot:Slot T name id) (hty:typeOf (.builtin id)=pure (.type "method_descriptor")) (hm:IM X id r) (ho:PE X o to) (ha:PA X (e::es) t)
 (hbase:autoParam (attributeBase o name X.env (eval o X.env)=eval o X.env) Nq._auto_1)
 (hfew:autoParam (((backTo cpos (starEach (e::es) X.env)).all (fun x=>!x.1)&&(backToKw cpos (keywordEach [] X.env)).all (fun x=>x.1.isSome)
   && decide ((e::es).length+([]:List Keyword).length+(if ([]:List Keyword).isEmpty then 0 else 1)<30))=true) Nq._auto_1)
 (hline:autoParam ((apos.endLine==cpos.line)=true) Nq._auto_1) (hs:autoParam (starEach (e::es) X.env=(false,eval e X.env)::starEach es X.env) Nq._auto_1) (hplain:autoParam ((backTo cpos (starEach es X.env)).any (·.1)=false) Nq._auto_1) :
 PE X (.Call (.Attribute o name apos) (e::es) [] cpos) (GI X.K T r to t):=by
 intro pins s σ H Q I h;refine wpAny_Call_method_late hbase hfew hline rfl (bz (ho pins s σ H _ I h) fun v s1 ⟨x,H1,I1,r1,ty,q1⟩=>?_);obtain⟨h1,h2⟩:=xr I1 r1 ty;refine⟨T,id,pa,slot,hty,h1,h2,?_⟩;have hA:=ha cpos pins s1 σ H1 _ I1 q1;rw[hs]at hA ⊢;refine LQ (by show(false || (backTo cpos (starEach es X.env)).any (·.1))=false;rw[hplain]<;>rfl) (Calls.evalArgs_plain ?_);exact bz hA fun us s2 ⟨vs,H2,I2,r2,q2⟩=>hm pins s2 σ H2 x vs v us Q I2 r1 r2 q2
end
def Jx (X:Cx)(id:String)(r:V->List V->Hp->VK->Prop):Prop:=
 ∀(pins:List (Addr×Obj))(s:Nf)(σ:St)(H:Hp)(x:V)(xs:List V)(v:Ni)(us:List Ni)(Q:VK),Inv X pins σ H s->RelV x v->Vals xs us->r x xs H Q->
  wpAny (model X.prog X.w) X.A (call (.builtin id) (v::us)) (EP X pins σ Q) X.xe s
theorem Vals.one:∀{x:V}{us:List Ni},Vals [x] us->∃ u,us=[u]/\RelV x u
 |_,_,.cons r .nil=>⟨_,rfl,r⟩
theorem Vals.zero:∀{us:List Ni},Vals [] us->us=[]
 |_,.nil=>rfl
theorem Vals.reverse {xs:List V}{us:List Ni}(h:Vals xs us):Vals xs.reverse us.reverse:=by
 induction h with
 |nil=>exact .nil
 |cons r t ih=>rw[LY,LY];exact Vals.append ih (.cons r .nil)
theorem Vals.rep {xs:List V}{us:List Ni}(h:Vals xs us):∀ k:Nat,Vals (List.replicate k xs).flatten (List.replicate k us).flatten
 |0=>.nil
 |k+1=>by rw[List.replicate_succ,List.replicate_succ,List.flatten_cons,List.flatten_cons];exact Vals.append h (Vals.rep h k)
section
variable {X:Cx}{pins:List (Addr×Obj)}{σ:St}{H:Hp}{s:Nf}{l b:Addr}{xs ys zs:List V}
theorem Inv.lset {its its':List Ni}{n:Nat}{f:Array Ni->Array Ni}{t':Nat}(I:Inv X pins σ H s)(hH:H l=some (.lst xs))
 (e:s.heap.get? l=some { cls:=.type "list",data:=.seq its.toArray n }) (hf:f its.toArray=its'.toArray) (hv:Vals ys its') (hz:ys.length<=sizeLine) :
 Inv X pins σ (ay H l (.lst ys)) { s with heap:=s.heap.update l (Obj.mapSeq f),toks:=t' }:=by
 have q:=PySem.IsL.update e f;rw[hf]at q;refine I.write (x:=l) (e:=l) (by rw[hH];exact trivial) (.inl rfl) (fun b' u hb hu=>(Lb s.heap (Obj.mapSeq f) (Ko hb)).trans hu) ⟨_,q⟩ ?_;exact⟨hz,its',_,hv,q⟩
theorem Inv.lnew {its:List Ni}{t':Nat}(I:Inv X pins σ H s)(hv:Vals ys its)(hz:ys.length<=sizeLine) :
 Inv X pins σ (ay H s.heap.objs.size (.lst ys)) { s with heap:=s.heap.push { cls:=.type "list",data:=.seq its.toArray },toks:=t' }:=
 I.laid (fun _ _ q=>JV _ q) (J1 _) ⟨hz,its,0,hv,Kb _ rfl⟩
theorem Inv.fresh (I:Inv X pins σ H s):H s.heap.objs.size=none:=I.hok.fresh (J1 _)
theorem Inv.lstM (I:Inv X pins σ H s) (hH:H l=some (.lst xs)):xs.length<=sizeLine/\∃(its:List Ni)(n:Nat),Vals xs its/\xs.length=its.length/\s.heap.get? l=some { cls:=.type "list",data:=.seq its.toArray n }:=by obtain⟨z,its,n,r,e⟩:=I.hok l _ hH;exact⟨z,its,n,r,r.length,e⟩
end
section
variable {X:Cx}
def ux:V->List V->Hp->VK->Prop:=fun x vs H Q=>∃ l xs y,x=.ref l/\vs=[y]/\H l=some (.lst xs)/\xs.length<sizeLine/\Q .non (ay H l (.lst (xs++[y])))
theorem gX:Jx X "list.append" ux:=by intro pins s σ H x vs v us Q I rx rv h;obtain⟨l,xs,y,rfl,rfl,hH,hz,q⟩:=h;cases rx;obtain⟨u,rfl,ru⟩:=rv.one;obtain⟨z,its,n,r,hl,e⟩:=I.lstM hH;refine call_meets F.slot_list_append ⟨_,e,rfl⟩ F.entry_list_append (F.args_list_append_2 _ _) (PySem.list_append l its.toArray n u (by rw[J3];omega)) ⟨e,?_⟩;refine⟨.non,_,I.lset (its':=its++[u]) hH e (by simp) (r.append (.cons ru .nil)) ?_,rfl,q⟩;rw[Kp,Lh];omega
def xt:V->List V->Hp->VK->Prop:=fun x vs H Q=>∃ l xs,x=.ref l/\vs=[]/\H l=some (.lst xs)/\Q .non (ay H l (.lst xs.reverse))
theorem sZ:Jx X "list.reverse" xt:=by intro pins s σ H x vs v us Q I rx rv h;obtain⟨l,xs,rfl,rfl,hH,q⟩:=h;cases rx;have hus:=rv.zero;subst hus;obtain⟨z,its,n,r,hl,e⟩:=I.lstM hH;refine call_meets F.slot_list_reverse ⟨_,e,rfl⟩ F.entry_list_reverse (F.args_list_reverse_1 _) (AutoSeq1.list_reverse_list_0 l its.toArray n (by rw[J3];omega)) ⟨e,?_⟩;refine⟨.non,_,I.lset (its':=its.reverse) hH e (by simp) r.reverse ?_,rfl,q⟩;rw[ML];omega
end
section
variable {prog:Nh}{w:World}{A:Nj}{E:Ni->Nf->Prop}{s:Nf}
end
section
variable {X:Cx}
end
section
variable {κ:Type}[DecidableEq κ]
noncomputable def dj (kvs:List (κ×V))(k:κ):Option V:=(kvs.find? fun kv=>decide (kv.1=k)).map (·.2)
noncomputable def bq (kvs:List (κ×V))(k:κ)(v:V):List (κ×V):=if (kvs.any fun kv=>decide (kv.1=k))=true then kvs.map (fun kv=>if kv.1=k then (kv.1,v) else kv) else kvs++[(k,v)]
theorem dH {p:κ×V}{r:List (κ×V)}{k:κ}(e:p.1=k):dj (p::r) k=some p.2:=by simp[dj,LU,e]
theorem c4 {p:κ×V}{r:List (κ×V)}{k:κ}(e:¬ p.1=k):dj (p::r) k=dj r k:=by simp[dj,LU,e]
theorem iJ (k:κ):∀ kvs:List (κ×V),(kvs.any fun kv=>decide (kv.1=k))=(dj kvs k).isSome
 | []=>rfl
 |p::r=>by
  rw[Lf];by_cases e:p.1=k
  .simp only[dH e,Kk e,Bool.true_or,Option.isSome_some]
  .rw[c4 e,Kr e,Bool.false_or];exact iJ k r
theorem c5 (kvs:List (κ×V))(k:κ)(v:V):(bq kvs k v).length<=kvs.length+1:=by
 unfold bq;split
 .rw[JU];omega
 .rw[Kp,KD,LB];omega
theorem qN {kvs:List (κ×V)}{k:κ}(v:V)(h:dj kvs k=none):bq kvs k v=kvs++[(k,v)]:=by unfold bq;rw[iJ,h];exact J0 (by decide)
theorem RelO.isSome_eq {o:Option V}{u:Option Ni}(r:RelO o u):o.isSome=u.isSome:=by
 cases o with
 |none=>cases u with
  |none=>rfl
  |some _=>exact(show False from r).elim
 |some _=>cases u with
  |none=>exact(show False from r).elim
  |some _=>rfl
theorem RelO.getD {o:Option V}{u:Option Ni}{d:V}{d':Ni}(r:RelO o u)(rd:RelV d d'):RelV (o.getD d) (u.getD d'):=by
 cases o with
 |none=>cases u with
  |none=>exact rd
  |some _=>exact(show False from r).elim
 |some _=>cases u with
  |none=>exact(show False from r).elim
  |some _=>exact r
theorem KV.val {kvs:List (κ×V)}{vs:List (κ×Ni)}(r:KV kvs vs)(k:κ):RelO (dj kvs k) (valueAt vs k):=by
 unfold KV at r;induction r with
 |nil=>exact True.intro
 | @cons p q ps qs h t ih=>
  obtain⟨h1,h2⟩:=h;by_cases e:p.1=k
  .have e':q.1=k:=h1.symm.trans e;have b:valueAt (q::qs) k=some q.2:=by simp[valueAt,LU,e']
   rw[dH e,b];exact h2
  .have e':¬ q.1=k:=fun z=>e (h1.trans z);have b:valueAt (q::qs) k=valueAt qs k:=by simp[valueAt,LU,e']
   rw[c4 e,b];exact ih
theorem KV.any {kvs:List (κ×V)}{vs:List (κ×Ni)}(r:KV kvs vs)(k:κ):(kvs.any fun kv=>decide (kv.1=k))=vs.any fun kv=>decide (kv.1=k):=by
 unfold KV at r;induction r with
 |nil=>rfl
 |cons h t ih=>rw[Lf,Lf,ih,h.1]
theorem KV.repl {kvs:List (κ×V)}{vs:List (κ×Ni)}(r:KV kvs vs)(k:κ){y:V}{u:Ni}(ry:RelV y u) :
 KV (kvs.map fun kv=>if kv.1=k then (kv.1,y) else kv) (vs.map fun kv=>if kv.1=k then (kv.1,u) else kv):=by
 unfold KV at r ⊢;induction r with
 |nil=>exact .nil
 | @cons p q ps qs h t ih=>
  rw[J4,J4];refine .cons ?_ ih;obtain⟨h1,h2⟩:=h;by_cases e:p.1=k
  .rw[JW e,JW (h1.symm.trans e)];exact⟨h1,ry⟩
  .rw[J0 e,J0 (fun z=>e (h1.trans z))];exact⟨h1,h2⟩
theorem KV.put {kvs:List (κ×V)}{vs:List (κ×Ni)}(r:KV kvs vs)(k:κ){y:V}{u:Ni}(ry:RelV y u):KV (bq kvs k y) (stored vs k u):=by
 unfold bq stored;rw[r.any k];by_cases e:(vs.any fun kv=>decide (kv.1=k))=true
 .rw[JW e,JW e];exact r.repl k ry
 .rw[J0 e,J0 e];exact Paired.snoc r ⟨rfl,ry⟩
theorem KV.keys {kvs:List (κ×V)}{vs:List (κ×Ni)}(r:KV kvs vs):kvs.map (·.1)=vs.map (·.1):=by
 unfold KV at r;induction r with
 |nil=>rfl
 |cons h t ih=>rw[J4,J4,ih,h.1]
theorem KV.length {kvs:List (κ×V)}{vs:List (κ×Ni)}(r:KV kvs vs):kvs.length=vs.length:=LX r
end
theorem gf {P:Nh}{w:World}{k:Key}{u:Ni}(r:RelV (kV k) u):(au P w).is k u=true:=by
 cases k with
 |inl i=>obtain⟨t,e⟩:=(show ∃ t,u=Value.int i t from r);subst e;exact qC P w i t
 |inr x=>obtain⟨t,e⟩:=(show ∃ t,u=Value.str x t from r);subst e;exact qD P w x t
theorem nh {P:Nh}{w:World}:∀{ks:List Key}{us:List Ni},Vals (ks.map kV) us->ItemsAre (au P w) ks us
 | [],_,r=>by rw[MP]at r;cases r;exact .nil
 |k::ks,_,r=>by
  rw[J4]at r;cases r with
  |cons h t=>exact .cons (gf h) (nh t)
abbrev KT (H:Hp):List (List Key×V)->List (List Key×Addr×Ni)->Prop:=Paired fun p q=>p.1=q.1/\H q.2.1=some (.tup (p.1.map kV))/\RelV p.2 q.2.2
theorem KT.val {H:Hp}{kvs:List (List Key×V)}{xs:List (List Key×Addr×Ni)}(r:KT H kvs xs)(k:List Key):RelO (dj kvs k) ((atKey xs k).map (·.2)):=by
 induction r with
 |nil=>exact True.intro
 | @cons p q ps qs h t ih=>
  obtain⟨h1,_,h2⟩:=h;by_cases e:p.1=k
  .have e':q.1=k:=h1.symm.trans e;have b:atKey (q::qs) k=some q.2:=by simp[atKey,LU,e']
   rw[dH e,b];exact h2
  .have e':¬ q.1=k:=fun z=>e (h1.trans z);have b:atKey (q::qs) k=atKey qs k:=by simp[atKey,LU,e']
   rw[c4 e,b];exact ih
theorem KT.repl {H:Hp}{kvs:List (List Key×V)}{xs:List (List Key×Addr×Ni)}(r:KT H kvs xs)(k:List Key){y:V}{u:Ni}(ry:RelV y u) :
 KT H (kvs.map fun kv=>if kv.1=k then (kv.1,y) else kv) (xs.map (putAt k u)):=by
 induction r with
 |nil=>exact .nil
 | @cons p q ps qs h t ih=>
  rw[J4,J4];refine .cons ?_ ih;obtain⟨h1,h2,h3⟩:=h;unfold putAt;by_cases e:p.1=k
  .rw[JW e,JW (h1.symm.trans e)];exact⟨h1,h2,ry⟩
  .rw[J0 e,J0 (fun z=>e (h1.trans z))];exact⟨h1,h2,h3⟩
theorem KT.put {H:Hp}{kvs:List (List Key×V)}{xs:List (List Key×Addr×Ni)}(r:KT H kvs xs)(k:List Key){b:Addr}{y:V}{u:Ni}(hb:H b=some (.tup (k.map kV)))(ry:RelV y u) :
 KT H (bq kvs k y) (storedH xs k b u):=by
 have e:(kvs.any fun kv=>decide (kv.1=k))=(atKey xs k).isSome:=by rw[iJ,(r.val k).isSome_eq,Mt]
 unfold bq storedH;rw[e];by_cases q:(atKey xs k).isSome=true
 .rw[JW q,JW q];exact r.repl k ry
 .rw[J0 q,J0 q];exact Paired.snoc r ⟨rfl,hb,ry⟩
theorem KT.keeps {H H':Hp}{kvs:List (List Key×V)}{xs:List (List Key×Addr×Ni)}(r:KT H kvs xs)(ht:∀ b ys,H b=some (.tup ys)->H' b=some (.tup ys)):KT H' kvs xs:=Paired.mapP r fun _ _ z=>⟨z.1,ht _ _ z.2.1,z.2.2⟩
section
variable {P:Nh}{w:World}{H:Hp}{h:Heap}{a:Addr}
theorem CB {u:HO}(ok:HOk P w H h)(e:Rd H a u):ObjOk P w H h a u:=e.ok ok
theorem j8 {kvs:List (Key×V)}(ok:HOk P w H h)(e:Rd H a (.dK kvs)):kvs.length<=sizeLine/\(a==sysModules)=false/\∃ vs,KV kvs vs/\h.DictOf (au P w) a vs:=show ObjOk P w H h a (.dK kvs) from CB ok e
theorem CC {kvs:List (Key×V)}(ok:HOk P w H h)(e:H a=some (.dK kvs)):kvs.length<=sizeLine/\(a==sysModules)=false/\∃ vs,KV kvs vs/\h.DictOf (au P w) a vs:=j8 ok (.inl e)
theorem dc {ks:List Key}(ok:HOk P w H h)(e:H a=some (.tup (ks.map kV))):(tupleKind (au P w)).is h ks a:=by obtain⟨_,its,r,o,h1,h2,n,h3⟩:=(show ObjOk P w H h a (.tup (ks.map kV)) from ok a _ e);exact⟨o,its.toArray,n,h1,h2,h3,by simpa using nh r⟩
theorem lq {kvs:List (List Key×V)}(ok:HOk P w H h)(e:Rd H a (.dT kvs)):kvs.length<=sizeLine/\(a==sysModules)=false/\
 ∃ xs,KT H kvs xs/\h.DictOfH (tupleKind (au P w)) a xs:=by
 obtain⟨z,y,xs,r,o,es,ep,h1,h2,h3,h4,h5⟩:=(show ObjOk P w H h a (.dT kvs) from CB ok e);refine⟨z,y,xs,r,o,es,ep,h1,h2,h3,h4,fun x hx=>?_,h5⟩;have all:∀{l:List (List Key×V)}{m:List (List Key×Addr×Ni)},KT H l m->∀ x∈m,(tupleKind (au P w)).is h x.1 x.2.1:=by
  intro l m q;induction q with
  |nil=>intro x hx;exact nomatch hx
  | @cons p q ps qs hq t ih=>
   intro x hx;rcases J5.mp hx with e|hx
   .subst e;exact dc ok (by rw[<- hq.1];exact hq.2.1)
   .exact ih x hx
 exact all r x hx
theorem GJ {kvs:List (List Key×V)}(ok:HOk P w H h)(e:H a=some (.dT kvs)):kvs.length<=sizeLine/\(a==sysModules)=false/\
 ∃ xs,KT H kvs xs/\h.DictOfH (tupleKind (au P w)) a xs:=lq ok (.inl e)
end
def DGet (H:Hp)(a:Addr)(y:V)(r:Option V):Prop:=(∃ kvs k,Rd H a (.dK kvs)/\y=kV k/\r=dj kvs k)\/∃ kvs k b,Rd H a (.dT kvs)/\y=.ref b/\H b=some (.tup (k.map kV))/\r=dj kvs k
def DPut (H:Hp)(a:Addr)(y v:V)(H':Hp):Prop:=
 (∃ kvs k,H a=some (.dK kvs)/\y=kV k/\kvs.length<sizeLine/\H'=ay H a (.dK (bq kvs k v)))\/
 ∃ kvs k b,H a=some (.dT kvs)/\y=.ref b/\H b=some (.tup (k.map kV))/\kvs.length<sizeLine/\H'=ay H a (.dT (bq kvs k v))
theorem DGet.k {H:Hp}{a:Addr}{kvs:List (Key×V)}{k:Key}(e:H a=some (.dK kvs)):DGet H a (kV k) (dj kvs k):=.inl ⟨kvs,k,.inl e,rfl,rfl⟩
theorem DGet.t {H:Hp}{a b:Addr}{kvs:List (List Key×V)}{k:List Key}(e:H a=some (.dT kvs))(eb:H b=some (.tup (k.map kV))):DGet H a (.ref b) (dj kvs k):=.inr ⟨kvs,k,b,.inl e,rfl,eb,rfl⟩
theorem DPut.k {H:Hp}{a:Addr}{kvs:List (Key×V)}{k:Key}{v:V}(e:H a=some (.dK kvs))(hl:kvs.length<sizeLine):DPut H a (kV k) v (ay H a (.dK (bq kvs k v))):=.inl ⟨kvs,k,e,rfl,hl,rfl⟩
theorem DPut.t {H:Hp}{a b:Addr}{kvs:List (List Key×V)}{k:List Key}{v:V}(e:H a=some (.dT kvs))(eb:H b=some (.tup (k.map kV)))(hl:kvs.length<sizeLine) :
 DPut H a (.ref b) v (ay H a (.dT (bq kvs k v))):=.inr ⟨kvs,k,b,e,rfl,eb,hl,rfl⟩
section
variable {X:Cx}{pins:List (Addr×Obj)}{σ:St}{H:Hp}{s:Nf}{a:Addr}{y v:V}{u r:Ni}{o:Option V}{A:Nj}{E:Ni->Nf->Prop}
theorem Inv.big (I:Inv X pins σ H s):sysModules<s.heap.objs.size:=by have h:mainGlobals<s.heap.objs.size:=(I.mod.glob.keeps I.bk).lt;exact MQ (by decide) h
theorem v3 {Q:Ni->Nf->Prop}(hu:A.units+1<cLine)(I:Inv X pins σ H s)(g:DGet H a y (some v))(ry:RelV y u)(h:∀ w' s',Inv X pins σ H s'->RelV v w'->Q w' s') :
 wpAny (model X.prog X.w) A (getItem (.ref a) u) Q E s:=by
 rcases g with⟨kvs,k,e,ey,l⟩|⟨kvs,k,b,e,ey,eb,l⟩
 .subst ey;obtain⟨z,hd,vs,rel,dd⟩:=j8 I.hok e;obtain⟨w',hw,rw'⟩:=RelO.some_of (v:=v) (o:=valueAt vs k) (by rw[l];exact rel.val k);exact wpAny_getItem_of (gf ry) dd.mapOf hw (h w' _ (I.tok _) rw')
 .subst ey;cases (show u=Value.ref b from ry);obtain⟨z,hd,xs,rel,dd⟩:=lq I.hok e;obtain⟨w',hw,rw'⟩:=RelO.some_of (v:=v) (o:=(atKey xs k).map (·.2)) (by rw[l];exact rel.val k);obtain⟨p,hp,hp2⟩:=Kw.mp hw;refine wpAny_getItem_heap (K8 hu) (dc I.hok eb) dd hp ?_;rw[hp2];exact h w' _ (I.tok _) rw'
theorem IP {Q:Ni->Nf->Prop}(hu:A.units+1<cLine)(I:Inv X pins σ H s)(g:DGet H a y o)(ry:RelV y u)(h:∀ s',Inv X pins σ H s'->Q (.bool o.isSome) s') :
 wpAny (model X.prog X.w) A (compareOp .In u (.ref a)) Q E s:=by
 rcases g with⟨kvs,k,e,ey,l⟩|⟨kvs,k,b,e,ey,eb,l⟩
 .subst ey;obtain⟨z,hd,vs,rel,dd⟩:=j8 I.hok e;refine wpAny_in_of (gf ry) hd dd.mapOf ?_;rw[<- (rel.val k).isSome_eq,<- l];exact h _ (I.tok _)
 .subst ey;cases (show u=Value.ref b from ry);obtain⟨z,hd,xs,rel,dd⟩:=lq I.hok e;refine wpAny_in_heap (K8 hu) (dc I.hok eb) hd dd ?_;have q:=(rel.val k).isSome_eq;rw[Mt]at q;rw[<- q,<- l];exact h _ (I.tok _)
theorem AI {Q:Ni->Nf->Prop}(hu:A.units+1<cLine)(I:Inv X pins σ H s)(g:DGet H a y o)(ry:RelV y u)(h:∀ s',Inv X pins σ H s'->Q (.bool (!o.isSome)) s') :
 wpAny (model X.prog X.w) A (compareOp .NotIn u (.ref a)) Q E s:=by
 rcases g with⟨kvs,k,e,ey,l⟩|⟨kvs,k,b,e,ey,eb,l⟩
 .subst ey;obtain⟨z,hd,vs,rel,dd⟩:=j8 I.hok e;refine wpAny_notIn_of (gf ry) hd dd.mapOf ?_;rw[<- (rel.val k).isSome_eq,<- l];exact h _ (I.tok _)
 .subst ey;cases (show u=Value.ref b from ry);obtain⟨z,hd,xs,rel,dd⟩:=lq I.hok e;refine wpAny_notIn_heap (K8 hu) (dc I.hok eb) hd dd ?_;have q:=(rel.val k).isSome_eq;rw[Mt]at q;rw[<- q,<- l];exact h _ (I.tok _)
theorem kK {h':Heap}{t':Nat}{ob:HO}(I:Inv X pins σ H s)(mu:FZ (H a))(hs:Heap.SameBut a s.heap h')(he:∃ q,h'.get? a=some q)(new:ObjOk X.prog X.w (ay H a ob) h' a ob) :
 Inv X pins σ (ay H a ob) { s with heap:=h',toks:=t' }:=
 I.write (x:=a) (e:=a) mu (.inl rfl) (fun b q hb z=>(hs.2 b hb).trans z) he new
theorem s_ {P:Nh}{w:World}{H':Hp}{h':Heap}{kvs:List (Key×V)}{vs:List (Key×Ni)}(z:kvs.length<=sizeLine)(hd:(a==sysModules)=false)(rel:KV kvs vs)(dd:h'.DictOf (au P w) a vs) :
 ObjOk P w H' h' a (.dK kvs):=⟨z,hd,vs,rel,dd⟩
theorem jy {H':Hp}{Q:Unit->Nf->Prop}(hu:A.units+1<cLine)(I:Inv X pins σ H s)(g:DPut H a y v H')(ry:RelV y u)(rv:RelV v r)(h:∀ s',Inv X pins σ H' s'->Q () s') :
 wpAny (model X.prog X.w) A (setItem (.ref a) u r) Q E s:=by
 rcases g with⟨kvs,k,e,ey,l,eH⟩|⟨kvs,k,b,e,ey,eb,l,eH⟩
 .subst ey eH;obtain⟨z,hd,vs,rel,dd⟩:=CC I.hok e;have hz:vs.length<=sizeLine:=by rw[<- rel.length];exact z
  have hl:(bq kvs k v).length<=sizeLine:=by have:=c5 kvs k v;omega
  refine wpAny_setItem_pairs (hsz:=hz) (gf ry) dd fun h' dd' hs=>h _ ?_;have he:∃ q,h'.get? a=some q:=let ⟨q,_,_,hq,_⟩:=dd';⟨q,hq⟩;exact kK I (by rw[e];exact True.intro) hs he (s_ hl hd (rel.put k rv) dd')
 .subst ey eH;cases (show u=Value.ref b from ry);obtain⟨z,hd,xs,rel,dd⟩:=GJ I.hok e;have hz:xs.length<=sizeLine:=by rw[<- LX rel];exact z
  have hl:(bq kvs k v).length<=sizeLine:=by have:=c5 kvs k v;omega
  refine wpAny_setItem_heap (hsz:=hz) (K8 hu) (dc I.hok eb) dd fun h' dd' hs=>h _ ?_;obtain⟨q,es,ep,hq,h2,h3,h4,_,h5⟩:=dd';refine kK I (by rw[e];exact True.intro) hs ⟨q,hq⟩ ⟨hl,hd,_,(rel.put k eb rv).keeps fun c ys ec=>?_,q,es,ep,hq,h2,h3,h4,h5⟩;rw[af (Cv ec e (fun z=>nomatch z))];exact ec
end
section
variable {X:Cx}{pins:List (Addr×Obj)}{σ:St}{H:Hp}{s:Nf}{a:Addr}{kvs:List (Key×V)}{k:Key}{u:Ni}{A:Nj}{E:Ni->Nf->Prop}
end
def DO (i:Expr):Prop:=∀ ov iv,subscripted i false ov iv=operate [ov,iv] (getItem ov iv)
theorem AJ {prog:Nh}{w:World}{A:Nj}{E:Ni->Nf->Prop}{s:Nf}{env:Env}{value slice:Expr}{pos:Pos}{T id:String}{Q:Ni->Nf->Prop}
 (hl:typeLookup (.type T) "__getitem__"=pure (some (.builtin id))) (hs:DO slice)
 (h:wpAny (model prog w) A (eval value env) (fun o s₁=>wpAny (model prog w) A (eval slice env) (fun i s₂=>s₂.TypeIs o T/\wpAny (model prog w) A (getItem o i) Q E s₂) E s₁) E s) :
 wpAny (model prog w) A (eval (.Subscript value slice pos) env) Q E s:=by
 refine Subscript_ (Lc h (fun o s₁ h₁=>Lc h₁ (fun i s₂ h₂=>?_) fun _ _ x=>x) fun _ _ x=>x);obtain⟨hT,h₂⟩:=h₂;unfold subscriptTail;refine JT ?_;rw[getitemInPython_of_ne hT.not_modules];refine JT (wpAny_specialOf hT hl ?_);have fin:wpAny (model prog w) A (subscripted slice false o i) (fun r s₃=>wpAny (model prog w) A (letTemporaryGo value o r >>= fun _=>pure r) Q E s₃) E s₂:=by rw[hs o i];exact wpAny_operating (Lc h₂ (fun r s₃ h₃=>JT (wpAny_letTemporaryGo (J2 h₃))) fun _ _ x=>x)
 first
  |exact J2 (JT fin)
  |exact JT (J2 (JT fin))
  |exact JT fin
theorem qO {X:Cx} {pins:List (Addr×Obj)} {σ:St} {H:Hp} {s:Nf} {a:Addr} {y:V} {o:Option V} (I:Inv X pins σ H s) (g:DGet H a y o):s.TypeIs (.ref a) "dict":=by
 rcases g with⟨kvs,k,e,_,_⟩|⟨kvs,k,b,e,_,_,_⟩
 .obtain⟨_,_,vs,_,dd⟩:=j8 I.hok e;exact dd.typeIs
 .obtain⟨_,_,xs,_,dd⟩:=lq I.hok e;exact dd.typeIs
noncomputable def GK (td ty:TE):TE:=fun σ H Q=>td σ H fun x H1=>ty σ H1 fun y H2=>∃ a v,x=.ref a/\DGet H2 a y (some v)/\Q v H2
section
variable {X:Cx}{o i e value:Expr}{pos pos' gq:Pos}{td ty tv:TE}
theorem AK (hu:X.A.units+1<cLine)(ho:PE X o td)(hi:PE X i ty)(hs:DO i):PE X (.Subscript o i pos) (GK td ty):=by intro pins s σ H Q I h;refine AJ PySem.F.slot_dict_getitem.lookup hs (bz (ho pins s σ H _ I h) fun u s1 ⟨x,H1,I1,rx,q1⟩=>bz (hi pins s1 σ H1 _ I1 q1) fun iv s2 ⟨y,H2,I2,ry,a,v,ex,g,q2⟩=>?_);subst ex;obtain rfl:u=Value.ref a:=rx;exact⟨qO I2 g,v3 hu I2 g ry fun w' s3 I3 rw'=>⟨v,H2,I3,rw',q2⟩⟩
end
theorem qP {P:Nh} {w:World} {H:Hp} (h:Heap) (hb:sysModules<h.objs.size):ObjOk P w H (h.push { cls:=.type "dict",data:=.dict #[] }) h.objs.size (.dK []):=⟨Kz _,Mb.mpr (Ko (Kj hb)),[],.nil,Heap.DictOf.new h⟩
def tf:TE:=fun _ H Q=>∀ p,H p=none->Q (.ref p) (ay H p (.dK []))
section
variable {X:Cx}{pos:Pos}
theorem ff:PE X (.Dict [] [] pos) tf:=fun pins s σ H Q I h=>wpAny_Dict_empty ⟨.ref s.heap.objs.size,_,I.laid (a:=s.heap.objs.size) (o:=.dK []) (t':=s.toks) (fun _ _ q=>JV _ q) (J1 _) (qP s.heap I.big),rfl,h _ (I.hok.fresh (J1 _))⟩
end
noncomputable def tj:List (TE×TE)->St->Hp->(List (V×V)->Hp->Prop)->Prop
 | [],_,H,Q=>Q [] H
 |(tk,tv)::r,σ,H,Q=>tk σ H fun x H1=>tv σ H1 fun y H2=>tj r σ H2 fun ps H3=>Q ((x,y)::ps) H3
abbrev VV:List (V×V)->List (Ni×Ni)->Prop:=Paired fun p q=>RelV p.1 q.1/\RelV p.2 q.2
def Ip (X:Cx)(pos:Pos)(keys:List (Option Expr))(values:List Expr)(trs:List (TE×TE)):Prop:=
 ∀(pins:List (Addr×Obj))(s:Nf)(σ:St)(H:Hp)(Q:List (V×V)->Hp->Prop),Inv X pins σ H s->tj trs σ H Q->
  wpAny (model X.prog X.w) X.A (evalPairs (pairTrees keys values X.env pos)) (fun vs s'=>∃ ps H',Inv X pins σ H' s'/\VV ps vs/\Q ps H') X.xe s
theorem AL {X:Cx}{pos:Pos}:Ip X pos [] [] []:=fun pins s σ H Q I h=>pairTrees_nil_walk ⟨[],H,I,.nil,h⟩
theorem xu {X:Cx}{pos:Pos}{k v:Expr}{ks:List (Option Expr)}{vs:List Expr}{tk tv:TE}{trs:List (TE×TE)}(hk:PE X k tk)(hv:PE X v tv)(hr:Ip X pos ks vs trs) :
 Ip X pos (some k::ks) (v::vs) ((tk,tv)::trs):=fun pins s σ H Q I h=>
 pairTrees_cons_walk (bz (hk pins s σ H _ I h) fun u s1 ⟨x,H1,I1,rx,q1⟩=>bz (hv pins s1 σ H1 _ I1 q1) fun w2 s2 ⟨y,H2,I2,ry,q2⟩=>bz (hr pins s2 σ H2 _ I2 q2) fun ws s3 ⟨ps,H3,I3,rel,q3⟩=>⟨(x,y)::ps,H3,I3,.cons ⟨rx,ry⟩ rel,q3⟩)
def bL (kvs more:List (Key×V)):List (Key×V):=more.foldl (fun acc kv=>bq acc kv.1 kv.2) kvs
theorem KV.merge:∀{more:List (Key×V)}{rs:List (Key×Ni)}{kvs:List (Key×V)}{vs:List (Key×Ni)},KV more rs->KV kvs vs->KV (bL kvs more) (merged vs rs):=by
 intro more rs kvs vs r;unfold KV at r;induction r generalizing kvs vs with
 |nil=>intro q;exact q
 | @cons p q ps qs h t ih=>
  intro r0;have e:KV (bq kvs p.1 p.2) (stored vs q.1 q.2):=by have:=r0.put p.1 h.2;rw[<- h.1];exact this
  exact ih e
theorem eV:∀(more kvs:List (Key×V)),(bL kvs more).length<=kvs.length+more.length
 | [],kvs=>by show kvs.length<=kvs.length+0;omega
 |p::r,kvs=>by have h1:=eV r (bq kvs p.1 p.2);have h2:=c5 kvs p.1 p.2;show(bL (bq kvs p.1 p.2) r).length<=_;rw[KD];omega
theorem lu {P:Nh}{w:World}:∀{kvs:List (Key×V)}{ws:List (Ni×Ni)},VV (kvs.map fun kv=>(kV kv.1,kv.2)) ws->∃ rs,Carries (au P w) ws rs/\KV kvs rs
 | [],_,r=>by rw[MP]at r;cases r;exact⟨[],True.intro,.nil⟩
 |p::kvs,_,r=>by
  rw[J4]at r;cases r with
  | @cons a b as bs h t=>obtain⟨rs,c,q⟩:=lu (P:=P) (w:=w) t;obtain⟨b1,b2⟩:=b;exact⟨(p.1,b2)::rs,⟨gf h.1,rfl,c⟩,.cons ⟨rfl,h.2⟩ q⟩
def CD (trs:List (TE×TE)):TE:=fun σ H Q=>∀ p,H p=none->tj trs σ (ay H p (.dK [])) fun ps H2=>H2 p=some (.dK [])/\∃ kvs:List (Key×V),ps=kvs.map (fun kv=>(kV kv.1,kv.2))/\kvs.length<=15/\Q (.ref p) (ay H2 p (.dK (bL [] kvs)))
theorem AM {X:Cx}{pos:Pos}{keys:List (Option Expr)}{values:List Expr}{trs:List (TE×TE)}(h:Ip X pos keys values trs)(hall:keys.all (·.isSome)=true)(hl:keys.length=values.length)(h0:keys≠[])
 (h15:keys.length<=15):PE X (.Dict keys values pos) (CD trs):=by
 intro pins s σ H Q I q;have hn:=I.hok.fresh (J1 s.heap.objs.size);have I1:=I.laid (a:=s.heap.objs.size) (o:=.dK []) (h':=s.heap.push { cls:=.type "dict",data:=.dict #[] }) (t':=s.toks) (fun _ _ q=>JV _ q) (J1 _) (qP s.heap I.big);refine wpAny_Dict_walk (knd:=au X.prog X.w) hall hl h0 h15 (bz (h pins _ σ _ _ I1 (q _ hn)) fun ws s2 ⟨ps,H2,I2,rel,e,kvs,ep,lk,q2⟩=>?_);subst ep;obtain⟨rs,c,rk⟩:=lu (P:=X.prog) (w:=X.w) rel;obtain⟨z,hd,vs0,r0,dd⟩:=CC I2.hok e;cases r0;refine⟨rs,c,dd,fun h' dd' hs=>⟨.ref s.heap.objs.size,_,?_,rfl,q2⟩⟩;have hz:(bL [] kvs).length<=sizeLine:=by have h1:=eV kvs [];rw[LB]at h1;rw[KU];omega
 have he:∃ q,h'.get? s.heap.objs.size=some q:=let ⟨q,_,_,hq,_⟩:=dd';⟨q,hq⟩;exact kK I2 (by rw[e];exact True.intro) hs he (s_ hz hd (rk.merge .nil) dd')
structure M1 (X:Cx) (o:Expr) (m:Str) (apos:Pos) (e:Expr) (cpos:Pos):Prop where
 base:attributeBase o m X.env (eval o X.env)=eval o X.env
 few:((backTo cpos (starEach [e] X.env)).all (fun x=>!x.1)&&(backToKw cpos (keywordEach [] X.env)).all (fun x=>x.1.isSome)
  && decide (([e]:List Expr).length+([]:List Keyword).length+(if ([]:List Keyword).isEmpty then 0 else 1)<30))=true
 line:(apos.endLine==cpos.line)=true
 trees:backTo cpos (starEach [e] X.env)=[(false,eval e X.env)]
structure M2 (X:Cx) (o:Expr) (m:Str) (apos:Pos) (e f:Expr) (cpos:Pos):Prop where
 base:attributeBase o m X.env (eval o X.env)=eval o X.env
 few:((backTo cpos (starEach [e,f] X.env)).all (fun x=>!x.1)&&(backToKw cpos (keywordEach [] X.env)).all (fun x=>x.1.isSome)
  && decide (([e,f]:List Expr).length+([]:List Keyword).length+(if ([]:List Keyword).isEmpty then 0 else 1)<30))=true
 line:(apos.endLine==cpos.line)=true
 trees:backTo cpos (starEach [e,f] X.env)=[(false,eval e X.env),(false,eval f X.env)]
def Iq (H:Hp)(a:Addr):Prop:=(∃ kvs,Rd H a (.dK kvs))\/∃ kvs,Rd H a (.dT kvs)
theorem xw {X:Cx}{pins:List (Addr×Obj)}{σ:St}{H:Hp}{s:Nf}{a:Addr}(I:Inv X pins σ H s)(d:Iq H a) :
 s.TypeIs (.ref a) "dict"/\(∀ b,Value.ref a=.ref b->∃ ob,s.heap.get? b=some ob/\ob.dict=none)/\(a==sysModules)=false:=by
 rcases d with⟨kvs,e⟩|⟨kvs,e⟩
 .obtain⟨_,hd,vs,_,dd⟩:=j8 I.hok e;refine⟨dd.typeIs,fun b q=>?_,hd⟩;cases q;obtain⟨ob,_,_,h1,h2,_⟩:=dd;exact⟨ob,h1,h2.2.1⟩
 .obtain⟨_,hd,xs,_,dd⟩:=lq I.hok e;refine⟨dd.typeIs,fun b q=>?_,hd⟩;cases q;obtain⟨ob,_,_,h1,h2,_⟩:=dd;exact⟨ob,h1,h2.2.1⟩
section
variable {X:Cx}{pins:List (Addr×Obj)}{σ:St}{H:Hp}{s:Nf}{a:Addr}{y d:V}{u r:Ni}{o:Option V}{A:Nj}{E:Ni->Nf->Prop}
theorem DP {Q:Ni->Nf->Prop}(hu:A.units+1<cLine)(I:Inv X pins σ H s)(g:DGet H a y o)(ry:RelV y u)(rd:RelV d r)(h:∀ w' s',Inv X pins σ H s'->RelV (o.getD d) w'->Q w' s') :
 wpAny (model X.prog X.w) A (call (.builtin "dict.get") [.ref a,u,r]) Q E s:=by
 rcases g with⟨kvs,k,e,ey,l⟩|⟨kvs,k,b,e,ey,eb,l⟩
 .subst ey;obtain⟨z,hd,vs,rel,dd⟩:=j8 I.hok e;refine MR Ly dd.typeIs LR (LJ _ _ _) (meets_dict_get_default (au X.prog X.w) a (gf ry) hd r) ⟨_,dd.mapOf,h _ _ (I.tok _) ?_⟩;rw[l];exact(rel.val k).getD rd
 .subst ey;cases (show u=Value.ref b from ry);obtain⟨z,hd,xs,rel,dd⟩:=lq I.hok e;refine MR Ly dd.typeIs LR (LJ _ _ _) (meetsH_dict_get_default (tupleKind (au X.prog X.w)) a b hd r) ⟨K8 hu,k,xs,dc I.hok eb,dd,h _ _ (I.tok _) ?_⟩;rw[l];exact(rel.val k).getD rd
end
section
variable {X:Cx}{o e f:Expr}{apos cpos:Pos}{td ty tx:TE}
end
section
variable {X:Cx}{pins:List (Addr×Obj)}{σ:St}{H:Hp}{s:Nf}{a:Addr}{kvs:List (Key×V)}{A:Nj}{E:Ni->Nf->Prop}
end
section
variable {X:Cx}{pins:List (Addr×Obj)}{σ:St}{H:Hp}{s:Nf}{a:Addr}{y:V}{u:Ni}{A:Nj}{E:Ni->Nf->Prop}
end
end L2
namespace Att
open PySem PySem.W PySem.Calls PyProof.Rows
theorem kA {P:Params}{h:Heap}:∀(ns:List Int)(vs:List Ni),WellAll P h vs (ns.map WData.int)->IntsAre vs ns:=by
 intro ns;induction ns with
 |nil=>intro vs w;rw[MP]at w;cases w;exact .nil
 |cons n ns ih=>
  intro vs w;rw[J4]at w;cases w with
  |cons a b=>cases a;exact .cons _ _ (ih _ b)
theorem v4 {l:OpenLaw}{n:Nat}(hn:l.most=some n){P:Params}{h:Heap}{args:List WData}{vals:List Ni}
 (hpre:l.row.toRowW.claim.pre args=true) (hwl:WellAll P h vals args) :
 ∃ a vs ns,vals=[Value.ref a]/\args=[WData.list (ns.map WData.int)]/\h.get? a=some { cls:=.type "list",data:=.seq vs.toArray }/\IntsAre vs ns/\ns.length<=n:=by
 have hsh:WShape.hasAll [] args [.list .int]=true:=(pre_splitW hpre).1;have hc:l.pre.holds [] { args:=args }=true:=(pre_splitW hpre).2;obtain⟨d,r,rfl,h1,h2⟩:=hasAllW_cons hsh;obtain rfl:=hasAllW_nil h2;obtain⟨xs,rfl,h3⟩:=hasW_list h1;obtain⟨ns,rfl⟩:=items_int h3;have bO:ns.length<=n:=by
  unfold OpenLaw.pre at hc;have h4:(WTm.not (.lt (.lit (.int (n:Int))) (.len (.arg 0)))).holds [] { args:=[.list (ns.map .int)] }=true:=by have h4:=(holds_andW hc).1;rw[hn]at h4;exact h4
  have h5:=condW_of h4 (w_not (w_lt w_lit (w_len_list (w_arg rfl))));rw[JU]at h5;refine M9 fun q=>?_;have q':(n:Int)<((ns.length:Nat):Int):=by omega
  first
   |(rw[Kk q']at h5;exact absurd h5 (by decide))
   |(simp at h5;omega)
 cases hwl with
 |cons w1 w2=>
  cases w2;cases w1 with
  |list ho hall=>exact⟨_,_,ns,rfl,rfl,ho,kA ns _ hall,bO⟩
theorem v5 (l:OpenLaw)(args:List WData):l.row.toRowW.claim.post args (.bool true) args=true:=
 postW_of (r:=l.row.toRowW) (X:=(true==true))
  (show WShape.has [] (.bool true) .bool=true by first|rfl|decide|simp[WShape.has,WShape.arms,WShape.armsAll])
  (show(WTm.eq .res (.lit (.bool true))).value [] { args:=args,res:=some (.bool true),after:=args }=some (.bool (true==true)) from w_eq_bool (w_res rfl) w_lit) rfl
theorem attach_call {l:OpenLaw}{n:Nat}{q:Nh}{loose:List Str}{XP:(Str->Option Ni)->Heap->Prop}{YP:World->Heap->Prop}{d:DefRec}
 (hn:l.most=some n) (hdf:d.params.defaults=[])
 (call:∀(w:World)(s₀ s₁:Nf)(mg mb:Str->Option Ni)(fa:Addr)(o:Obj)(pm cd doc:Ni)(a:Addr)(vs:List Ni)(ns:List Int),
   Ground q loose [] XP w s₀ mg mb s₁.heap->YP w s₁.heap->
   s₁.heap.get? fa=some o->o.data=.func (docDef d.name d.params d.body d.scope pm cd doc)->s₁.heap.CodeRec cd d.name->mg d.name=some (.ref fa)->
   s₁.heap.get? a=some { cls:=.type "list",data:=.seq vs.toArray }->IntsAre vs ns->ns.length<=n->s₁.gens=#[]->
   codeAny (model l.prog w) callerA (.call (.ref fa) ⟨[.ref a],[]⟩) (fun r s'=>r=.ok (.ret (.bool true))/\OldK s₁.heap s'.heap/\s'.os=s₁.os/\AllBare s'.gens) s₁) :
 WalkO q loose XP YP l.row.toRowW d [] (fun f vs=>PySem.call f vs):=by
 intro w s₀ s₁ mg mb G Y fa o pm cd doc dV kV ho hd hcd hD hmg hg args vals as hpre hlay hrd hwl hlo;obtain rfl:dV=.none:=Dflts.none hD hdf;obtain rfl:kV=.none:=Dflts.noKw hD;obtain⟨a,vs,ns,rfl,rfl,hobj,hints,bO⟩:=v4 hn hpre hwl;refine enter_call (MO (call w s₀ s₁ mg mb fa o pm cd doc a vs ns G Y ho (fd_plain hd) hcd hmg hobj hints bO hg) fun r s' hq=>?_);obtain⟨rfl,h2,h3,h4⟩:=hq;exact⟨.inl ⟨.bool true,.bool true,[],rfl,fun _=>rfl,.bool true,v5 l _,fun _=>⟨List.Pairwise.nil,fun _ hm=>(nomatch hm)⟩⟩,h2,h3,h4⟩
section
variable {prog:Nh}{w:World}{A:Nj}{E:Ni->Nf->Prop}{s:Nf}{K:Frag}
end
end Att
namespace L2
open PySem PySem.Spec PyProof.Rows
noncomputable def defArgs (s:Stmt):Arguments:=match s with
 | .FunctionDef _ a _ _ _ _ _ _ _ _=>a
 |_=>{ posonlyargs:=[],args:=[],vararg:=none,kwonlyargs:=[],kw_defaults:=[],kwarg:=none,defaults:=[] }
noncomputable def defBody (s:Stmt):List Stmt:=match s with
 | .FunctionDef _ _ b _ _ _ _ _ _ _=>b
 |_=>[]
noncomputable def defScope (s:Stmt):Scope:=match s with
 | .FunctionDef _ _ _ _ _ _ sc _ _ _=>sc
 |_=>{ kind:=.function,names:=[],isGenerator:=false,isCoroutine:=false }
noncomputable abbrev j9:CXT:=fun _ _ _ _ _ _=>False
noncomputable abbrev E0:XK:=fun _ _ _=>False
structure Fun (K:Ng) (x qual:Str) (st:Stmt) (f:Addr) (fd:FuncData):Prop where
 ex:∃(oc:Ni)(od:Option Addr)(kV doc pm:Ni)(an:Option Addr)(cdv ct:Ni)(osl:Array (Option Ni)),
  fd=PySem.W.fnOf x qual (defArgs st) (defBody st) (defScope st) .none kV doc pm an cdv ct/\K.lookup f=some ⟨oc,od,.func fd,osl⟩/\PySem.W.codeIn K cdv qual=true
 kp:PySem.W.keepIn K (.ref f)=true
section
variable {P:Nh}{w:World}{K:Ng}{mg:Str->Option Ni}{base:Heap}
theorem Fun.ok {x qual:Str}{st:Stmt}{f:Addr}{fd:FuncData}{N ps:List Str}{k:Nat}{sp:Sp}(F:Fun K x qual st f fd)(S:FnScope N ps (defScope st))(len:∀ vs H Q E,sp vs H Q E->vs.length=ps.length)
 (hbody:∀(cdv:Ni)(A:Nj)(outer:List Env)(s:Nf)(H:Hp)(vs:List V)(Q:VK)(E:XK),Room k (A.deeper (envOfC qual (defScope st) s.heap.objs.size f cdv))->sp vs H Q E->
   ∃ t,PSs (oO j9 P w K mg base N qual (defScope st) f cdv A outer s H E).nox (defBody st) t/\t { nx:=fun _ H'=>Q .non H',rt:=Q } (start N vs) H):FnOk P w K mg base j9 (k+1) f fd ps sp:=by
 obtain⟨oc,od,kV,doc,pm,an,cdv,ct,osl,rfl,lk,hcd⟩:=F.ex;refine GC lk hcd S len fun A outer s H vs Q E hr hsp=>?_;obtain⟨t,h,q⟩:=hbody cdv A outer s H vs Q E hr hsp;exact⟨t,h.nox,q⟩
theorem Fun.binds {x qual:Str}{st:Stmt}{f:Addr}{fd:FuncData}{ps:List Str}(F:Fun K x qual st f fd)
 (h:∀(kV doc pm:Ni)(an:Option Addr)(cdv ct:Ni)(us:List Ni),us.length=ps.length->bindArgs (PySem.W.fnOf x qual (defArgs st) (defBody st) (defScope st) .none kV doc pm an cdv ct) ⟨us,[]⟩=pure (ps.zip us)):Binds K fd ps []:=by
 obtain⟨oc,od,kV,doc,pm,an,cdv,ct,osl,rfl,lk,hcd⟩:=F.ex;exact .all (h kV doc pm an cdv ct)
theorem aO {x qual:Str}{st:Stmt}{f:Addr}{oc:Ni}{od an:Option Addr}{osl:Array (Option Ni)}{kV doc pm cdv ct:Ni}(l:K.lookup f=some ⟨oc,od,.func (PySem.W.fnOf x qual (defArgs st) (defBody st) (defScope st) .none kV doc pm an cdv ct),osl⟩)
 (c:PySem.W.codeIn K cdv qual=true) (k:PySem.W.keepIn K (.ref f)=true):Fun K x qual st f (PySem.W.fnOf x qual (defArgs st) (defBody st) (defScope st) .none kV doc pm an cdv ct):=⟨⟨oc,od,kV,doc,pm,an,cdv,ct,osl,rfl,l,c⟩,k⟩
end
section
variable {X:Cx}
theorem pv (i:Nat) {x:Str} {pos:Pos} (hN:autoParam (X.N[i]?=some x) Nq._auto_1) (hv:autoParam (Vis X.env.scope x) Nm._auto_1) (hd:autoParam ((x==("__debug__" : Str))=false) Nk._auto_1)
 (hcd:autoParam ((x==("__classdict__" : Str))=false) Nk._auto_1):PE X (.Name x pos) (di i):=Dk hN hv hd hcd
end
theorem tm {A B:Prop}(h:B):if false=true then A else B:=by rw[J0 Mn];exact h
theorem qQ {A B:Prop}(h:A):if true=true then A else B:=by rw[JW rfl];exact h
def Same (H H':Hp):Prop:=∀ b o,H b=some o->H' b=some o
theorem Same.refl (H:Hp):Same H H:=fun _ _ h=>h
theorem Same.trans {H H1 H2:Hp}(a:Same H H1)(b:Same H1 H2):Same H H2:=fun c o h=>b c o (a c o h)
theorem Same.free {H H':Hp}(e:Same H H'){l:Addr}(h:H' l=Option.none):H l=Option.none:=by
 cases q:H l with
 |none=>rfl
 |some o=>rw[e l o q]at h;cases h
theorem Same.seq {K:Ng}{H H':Hp}{a:Addr}{xs:List V}(e:Same H H')(h:SqL K H a xs):SqL K H' a xs:=by
 rcases h with(h|⟨o,h⟩)|h
 .exact .inl (.inl (e _ _ h))
 .exact .inl (.inr ⟨o,e _ _ h⟩)
 .exact .inr h
section
variable {κ:Type}[DecidableEq κ]
end
end L2
set_option autoImplicit false
namespace L2
open PySem PySem.Spec PyProof.Rows
section
variable {P:Nh}{w:World}{K:Ng}{mg:Str->Option Ni}{base:Heap}{N:List Str}{qual:Str}{scope:Scope}{f:Addr}{cd:Ni}{A:Nj}{outer:List Env}{s₀:Nf}{H₀:Hp}{E:XK}
end
noncomputable def DQ (K:Ng)(C:Addr):List Ni:=match K.lookup C with
 |some ⟨_,_,.cls cd,_⟩=>cd.mro
 |_=>[]
section
variable {X:Cx}{c:Str}{C:Addr}{np cpos pos:Pos}{e₀:Expr}{aZ:List Expr}{t:TA}
end
section
variable {M:Model}{A:Nj}{E:Ni->Nf->Prop}
end
abbrev TX:=St->Hp->VK->XK->Prop
section
variable {X:Cx}{k:Nat}{f:Addr}{fd:FuncData}{ps:List Str}{sp:Sp}{dvs:List V}{ds:List Ni}{x:Str}{p pos:Pos}{e:Expr}{es:List Expr}{t:TA}
end
section
variable {X:Cx}{pins:List (Addr×Obj)}{σ:St}{H:Hp}{s:Nf}{x:Addr}
end
section
variable {X:Cx}{hc:Str}{Ch:Addr}{np hpos pos epos:Pos}{b₀:Stmt}{suite:List Stmt}{ts:TS}{te:TX}{e:Expr}
end
end L2
namespace L2
open PySem PySem.Spec PySem.Calls PyProof.Rows
theorem gg {prog:Nh}{w:World}{A:Nj}{E:Ni->Nf->Prop}{s:Nf}{a:Addr}{o:Obj}{xs:Array Ni}{k:Nat}{name:Str}{Q:Option Ni->Nf->Prop}
 (hx:s.heap.get? a=some o) (hc:o.cls=.type "list") (hdat:o.data=.seq xs k) (hd:o.dict=none) (hmiss:typeLookup (.type "list") name=pure none) (hname:(["__module__", "__name__", "__qualname__", "__doc__", "__annotations__"]:List Str).contains name=false) (hA:A.handled=none)
 (h:∀ h' tk e,Heap.NewExcOf s.heap h' e "AttributeError"->Q none { s with heap:=h',toks:=tk }) (hsz:name.length+100<=sizeLine:=by size_fits) :
 wpAny (model prog w) A (getAttr? (.ref a) name) Q E s:=by
 obtain⟨c,dct,dat,sl⟩:=o;simp only at hc hdat hd;subst hc hdat hd;obtain⟨hp,g,d,tk,os⟩:=s;have hT:∀ tk',(⟨hp,g,d,tk',os⟩ : Nf).TypeIs (.ref a) "list":=fun _=>⟨_,hx,rfl⟩;have f1:=sub_AttributeError;have f3:=PySem.F.slot_list_getattribute.lookup;have f4:=PySem.F.slot_list_getattribute.bind (.ref a);have f5:=am_list_getattr_none;unfold getAttr? getAttrBy? getAttrBy
 repeat (any_goals (first|assumption|exact hT _|((with_reducible show wpAny _ _ (call (Value.builtin "list.__getattribute__") _ _) _ _ _);refine call_meets PySem.F.slot_list_getattribute (hT _) am_entry_list_getattribute (PySem.F.args_list_getattribute_2 _ _) (meets_getattribute_miss_list a xs k sl name _ hmiss hname hsz) ⟨hx,hA,fun h' tk' e hx'=>?_⟩)|wp_step))
 obtain⟨t',u',he⟩:=hx'.there;show wpAny _ _ (getattributeRaised _ _ _ _ _ _ _) _ _ _;unfold getattributeRaised
 repeat (any_goals (first|assumption|wp_step))
 exact h _ _ _ hx'.of
abbrev fg:=List Key×Addr×Ni
noncomputable def uy (xs:List fg)(its:List fg):List fg:=its.foldl (fun xs x=>storedH xs x.1 x.2.1 x.2.2) xs
theorem dk:entryFor table "dict.update.loop"=some Builtin.«dict.update.loop»:=entryFor_of_tree (by kernel_rfl)
theorem bg:plainId "dict.update.loop"=true:=by decide +kernel
section
variable {prog:Nh}{w:World}
abbrev tK (prog:Nh)(w:World):=tupleKind (au prog w)
def DRaw (prog:Nh)(w:World)(h:Heap)(S:Addr)(xs:List fg):Prop:=∃ o es ep,h.get? S=some o/\o.ExactDict/\o.data=.dict es ep/\es.toList=xs.map (entryOfKey (tK prog w))/\(xs.map (·.1)).Nodup
theorem fM {h h':Heap}{k:List Key}{a:Addr}(x:(tK prog w).is h k a)(e:∀ b o,h.get? b=some o->h'.get? b=some o):(tK prog w).is h' k a:=by obtain⟨o,items,n,h1,r⟩:=x;exact⟨o,items,n,e _ _ h1,r⟩
theorem DRaw.of {hb h:Heap}{S:Addr}{xs:List fg}(d:DRaw prog w h S xs)(ks:∀ x∈xs,(tK prog w).is hb x.1 x.2.1)(e:∀ b o,hb.get? b=some o->h.get? b=some o):h.DictOfH (tK prog w) S xs:=by obtain⟨o,es,ep,h1,h2,h3,h4,h5⟩:=d;exact⟨o,es,ep,h1,h2,h3,h4,fun x hx=>fM (ks x hx) e,h5⟩
theorem tp {hb:Heap}{xs:List fg}{k:List Key}{a:Addr}{v:Ni}(ks:∀ x∈xs,(tK prog w).is hb x.1 x.2.1)(hk:(tK prog w).is hb k a):∀ x∈storedH xs k a v,(tK prog w).is hb x.1 x.2.1:=by
 unfold storedH;split
 .intro x hx;obtain⟨y,hy,rfl⟩:=J8.mp hx;have:=ks y hy;unfold putAt;split<;>exact this
 .intro x hx;rcases Kf.mp hx with hx|hx
  .exact ks x hx
  .simp at hx;subst hx;exact hk
theorem qR {xs:List fg}{k:List Key}{a:Addr}{v:Ni}:(storedH xs k a v).length<=xs.length+1:=by
 unfold storedH;split
 .rw[JU];omega
 .rw[Kp];simp
variable {A:Nj}{R:Result->Nf->Prop}{I:Addr}{fp wr:List Addr}{G:Array GenState->Array GenState->Prop}{n:Nat}{P:Nat->Ni->Prop}{St:Nat->Nf->Prop}
theorem iL (W:WalksS prog w A.in1 I fp wr G n P St)(S:Addr)(hSf:S∉fp)(hu:A.in1.units<cLine)(hb:Heap)(hbS:hb.get? S=none)(hbw:∀ b∈wr,hb.get? b=none)(its:List fg)(hn:its.length=n)
 (hval:∀ i v,P i v->∃ p x,v=.ref p/\its[i]?=some x/\hb.IsTuple p #[.ref x.2.1,x.2.2]/\(tK prog w).is hb x.1 x.2.1) (hsz:n<=sizeLine) :
 ∀(k i:Nat)(s:Nf)(xs:List fg)(j:Int),n-i=k->i<=n->St i s->(∀ b o,hb.get? b=some o->s.heap.get? b=some o)->(∀ x∈xs,(tK prog w).is hb x.1 x.2.1)->xs.length<=i->
  DRaw prog w s.heap S xs->
  (∀ s',Moved (S::wr) G s s'->s'.heap.DictOfH (tK prog w) S (uy xs (its.drop i))->R (.ok (.ret .none)) s')->
  codeAny (model prog w) A (.builtin "dict.update.loop" ⟨[.ref S,.ref I,rawInt j,.none],[]⟩) R s:=by
 have hSw:S∉wr:=fun h=>hSf (W.sub _ h);have hsub:∀ b∈wr,b∈S::wr:=fun b hb=>Kc _ hb;intro k;induction k with
 |zero=>
  intro i s xs j hk hi hst K ks hxl hS hR;have hin:i=n:=by omega
  subst hin;refine K9 dk ?_;rw[La bg _];show wpAny _ A.in1 (pyNext (.ref I) >>= _) _ _ s;refine JT (W.done s _ _ hst fun s' hm=>?_);have hR':=hR s' (hm.mono hsub) (by rw[List.drop_of_length_le (by omega)];obtain⟨o,es,ep,ho,aZ⟩:=hS;exact DRaw.of (hb:=hb) ⟨o,es,ep,hm.heap S _ hSw ho,aZ⟩ ks fun b o e=>hm.heap b o (fun z=>by rw[hbw b z]at e;cases e) (K b o e));show wpAny _ A.in1 (Builtin.Dict.addKeywords S [] >>= fun _=>ret Value.none) _ _ s';exact JT (J2 (J2 hR'))
 |succ k ih=>
  intro i s xs j hk hi hst K ks hxl hS hR;have hlt:i<n:=by omega
  refine K9 dk ?_;rw[La bg _];show wpAny _ A.in1 (pyNext (.ref I) >>= _) _ _ s;refine JT (W.item i s _ _ hlt hst fun v s' hP hst' hm=>?_);obtain⟨p,x,rfl,hx,ht,gr⟩:=hval i v hP;have K':∀ b o,hb.get? b=some o->s'.heap.get? b=some o:=fun b o e=>hm.heap b o (fun z=>by rw[hbw b z]at e;cases e) (K b o e);obtain⟨ot,hot,hct,nt,hdt⟩:=ht;have hT:s'.TypeIs (.ref p) "tuple":=⟨ot,K' _ _ hot,hct⟩;have hS':DRaw prog w s'.heap S xs:=by obtain⟨o,es,ep,ho,aZ⟩:=hS;exact⟨o,es,ep,hm.heap S _ hSw ho,aZ⟩
  refine JT (KN ?_);refine JT ?_;refine wpAny_tryCatch ?_;unfold Builtin.Dict.pairItems;refine JT (Mh hT ?_);rw[JW (by decide)];refine JT (MU (K' _ _ hot) hdt ?_);refine J2 ?_;show wpAny _ A.in1 (holding [Value.ref x.2.1,x.2.2] (dictSet S (.ref x.2.1) x.2.2)) _ _ s';refine KN ?_;refine wpAny_dictSet_heap (knd:=tK prog w) (hsz:=by omega) hu (fM gr K') (DRaw.of hS' ks K') fun h' hd' hs'=>?_;have K2:∀ b o,hb.get? b=some o->h'.get? b=some o:=fun b o e=>(hs'.2 b (fun z=>by subst z;rw[hbS]at e;cases e)).trans (K' b o e);have hdrop:its.drop i=x::its.drop (i+1):=by
   have hil:i<its.length:=by omega
   rw[Lg hil];rw[KA hil]at hx;rw[Kq hx]
  refine J2 ⟨LK bg _,ih (i+1) _ (storedH xs x.1 x.2.1 x.2.2) (j+1) (by omega) hlt (W.frame _ s' _ _ hst' (L9 _ _) fun b hb o e=>?_) K2 (tp ks gr) (by have:=qR (xs:=xs) (k:=x.1) (a:=x.2.1) (v:=x.2.2);omega) ?_ fun s'' hm'' hS''=>?_⟩
  .rw[hs'.2 b (fun h:b=S=>hSf (by rw[<- h];exact hb))];exact e
  .obtain⟨o,es,ep,h1,h2,h3,h4,_,h5⟩:=hd';exact⟨o,es,ep,h1,h2,h3,h4,h5⟩
  .refine hR s'' (Moved.trans W.gtrans ((hm.mono hsub).then_heap (L9 _ _) fun b o hb e=>?_) hm'') (by rw[hdrop];exact hS'');rw[hs'.2 b (fun h:b=S=>hb (by rw[h];exact Kg))];exact e
end
section
variable {prog:Nh}{w:World}{A:Nj}{E:Ni->Nf->Prop}{s:Nf}
theorem kC {l:Addr} {items:Array Ni} {nl:Nat} {its:List fg} {Q:Ni->Nf->Prop} (hh:A.handled=none) (hu:A.in1.in1.units<cLine) (hl:s.heap.get? l=some { cls:=.type "list",data:=.seq items nl }) (hn:its.length=items.size) (hsz:items.size<=sizeLine)
 (hval:∀(i:Nat)(v:Ni),items[i]?=some v->∃(p:Addr)(x:fg),v=.ref p/\its[i]?=some x/\s.heap.IsTuple p #[.ref x.2.1,x.2.2]/\(tK prog w).is s.heap x.1 x.2.1)
 (h:∀(h':Heap)(tk:Nat),h'.DictOfH (tK prog w) s.heap.objs.size (uy [] its)->(∀ b o,b<s.heap.objs.size->s.heap.get? b=some o->h'.get? b=some o)->Q (.ref s.heap.objs.size) { s with heap:=h',toks:=tk }) :
 wpAny (model prog w) A (call (.type "dict") [.ref l]) Q E s:=by
 refine callType_codes (Q₁:=fun obj s₁=>obj=.ref s.heap.objs.size/\s₁={ s with heap:=s.heap.push { cls:=.type "dict",data:=.dict #[] } }) PySem.F.kt_called_dict (PySem.F.kt_typeCall_dict_1 _) PySem.F.entry_dict_init (kt_code_dict_new _ ⟨rfl,rfl⟩) ?_;rintro obj s₁ ⟨rfl,rfl⟩;have hD:(s.heap.push { cls:=.type "dict",data:=.dict #[] }).get? s.heap.objs.size=some { cls:=.type "dict",data:=.dict #[] }:=Kb _ rfl;have hT:Shared.TypeIs { s with heap:=s.heap.push { cls:=.type "dict",data:=.dict #[] } } (.ref s.heap.objs.size) "dict":=⟨_,hD,rfl⟩;refine⟨hT,PySem.F.args_dict_init_2 _ _,?_⟩;unfold Builtin.«dict.__init__»;refine JT ?_;unfold Builtin.Dict.selfAndRest;refine JT (MD hT ?_);show wpAny _ _ (pure (s.heap.objs.size,[Value.ref l])) _ _ _;refine J2 ?_;show wpAny _ _ (Builtin.Dict.updateFrom "dict.__init__" s.heap.objs.size (.ref l) [] .none) _ _ _;unfold Builtin.Dict.updateFrom;have hl1:(s.heap.push { cls:=.type "dict",data:=.dict #[] }).get? l=some { cls:=.type "list",data:=.seq items nl }:=JV _ hl;refine JT (Mh ⟨_,hl1,rfl⟩ ?_);rw[JW (by decide)];refine JT (gg (s:={ s with heap:=s.heap.push { cls:=.type "dict",data:=.dict #[] } }) hl1 rfl rfl rfl (am_miss_of_fast (by decide +kernel)) (by decide +kernel) (by simp[hh]) fun h1 tk1 e1 hx1=>?_);rw[JW (by decide)];refine JT (wpAny_rule ?_);have k1:∀ b o,s.heap.get? b=some o->h1.get? b=some o:=fun b o e=>hx1.keeps b o (JV _ e);have hl2:h1.get? l=some { cls:=.type "list",data:=.seq items nl }:=k1 _ _ hl;have hD1:h1.get? s.heap.objs.size=some { cls:=.type "dict",data:=.dict #[] }:=hx1.keeps _ _ hD;have hlt1:s.heap.objs.size<h1.objs.size:=J6 hD1;have hll:l<s.heap.objs.size:=J6 hl;refine JT (Mv (s:=⟨h1,s.gens,s.drawn,tk1,s.os⟩) ⟨_,hl2,rfl,nl,rfl⟩ ?_);have hh3:A.in1.in1.handled=none:=by simp[hh]
 have hno:∀ b,s.heap.objs.size<=b->s.heap.get? b=none:=fun b hb=>by
  cases q:s.heap.get? b with
  |none=>rfl
  |some o=>exact absurd (J6 q) (Nat.not_lt.mpr hb)
 have hneI:l≠h1.objs.size:=Kj (MQ hll hlt1);have k2:∀ b o,h1.get? b=some o->(h1.push { cls:=.type "list_iterator",data:=.fields #[.ref l,.int 0 0] }).get? b=some o:=fun b o e=>JV _ e;refine J2 ⟨LK bg _,iL (A:=A.in1) ((Walks.list hh3 h1.objs.size l hneI items).toS) s.heap.objs.size ?_ hu s.heap (hno _ (J1 _)) ?_ its hn hval hsz (items.size-0) 0 _ [] 0 rfl (Kz _) ⟨⟨_,Kb _ rfl,rfl,rfl⟩,⟨_,k2 _ _ hl2,rfl,nl,rfl⟩⟩ (fun b o e=>k2 _ _ (k1 b o e)) (fun x hx=>nomatch hx) (J1 _) ⟨_,#[],0,k2 _ _ hD1,?_,rfl,rfl,K6⟩ ?_⟩
 .simp only[J5,KY,MB,not_or];exact⟨Kj hlt1,Mg hll⟩
 .intro b hb;simp only[J5,KY,MB]at hb;subst hb;exact hno _ (Mf hlt1)
 .exact⟨rfl,rfl,rfl⟩
 .intro s' hm hS';obtain⟨h',g',d',tk',os'⟩:=s';have eg:g'=s.gens:=hm.gens;have ed:d'=s.drawn:=hm.drawn;have eo:os'=s.os:=hm.os;subst eg;subst ed;subst eo;refine⟨rfl,h h' tk' hS' fun b o hb e=>hm.heap b o ?_ (k2 _ _ (k1 _ _ e))⟩;simp only[J5,KY,MB,not_or];exact⟨Kj hb,Kj (MQ hb hlt1)⟩
end
def gu (t kvs:List (List Key×V)):List (List Key×V):=kvs.foldl (fun t x=>bq t x.1 x.2) t
def oT (H:Hp):List V->List (List Key×V)->Prop:=Paired fun v kv=>∃ p ka,v=.ref p/\H p=some (.tup [.ref ka,kv.2])/\H ka=some (.tup (kv.1.map kV))
section
variable {P:Nh}{w:World}{H:Hp}{h:Heap}
theorem ni (ok:HOk P w H h):∀{vs:List V}{us:List Ni}{kvs:List (List Key×V)},oT H vs kvs->Vals vs us->
 ∃ its:List fg,its.length=us.length/\(∀(i:Nat)(v:Ni),us[i]?=some v->∃(p:Addr)(x:fg),v=.ref p/\its[i]?=some x/\h.IsTuple p #[.ref x.2.1,x.2.2]/\(tK P w).is h x.1 x.2.1)/\
  ∀ t xs,KT H t xs->KT H (gu t kvs) (uy xs its)
 |_,_,_,.nil,.nil=>⟨[],rfl,fun i v e=>by simp at e,fun t xs r=>r⟩
 |_,_,_,.cons (a:=v) (b:=kv) q t,.cons (b:=u) r s=>by
  obtain⟨its,hl,hv,hk⟩:=ni ok t s;obtain⟨p,ka,rfl,hp,hka⟩:=q;cases r;obtain⟨_,is,r2,ot,ho,hc,n,hd⟩:=(show ObjOk P w H h p (.tup [.ref ka,kv.2]) from ok p _ hp);obtain⟨u1,u2,rfl,ru1,ru2⟩:=uu r2;cases ru1;refine⟨(kv.1,ka,u2)::its,by simp[hl],fun i v e=>?_,fun t xs rt=>?_⟩
  .cases i with
   |zero=>simp at e;subst e;exact⟨p,(kv.1,ka,u2),rfl,rfl,⟨ot,ho,hc,n,hd⟩,dc ok hka⟩
   |succ i=>exact hv i v (by simpa using e)
  .exact hk _ _ (rt.put kv.1 hka ru2)
theorem lw:∀(kvs t:List (List Key×V)),(gu t kvs).length<=t.length+kvs.length
 | [],t=>J1 _
 |x::r,t=>by have:=lw r (bq t x.1 x.2);have h2:=c5 t x.1 x.2;show(gu (bq t x.1 x.2) r).length<=_;simp only[KD];omega
end
section
variable {X:Cx}
theorem tq (hc:X.calm=true) (hu:X.A.units+64<cLine):CallR X (.type "dict") (fun xs H Q=>∃ l vs kvs,xs=[.ref l]/\Rd H l (.lst vs)/\oT H vs kvs/\∀ p,H p=none->Q (.ref p) (ay H p (.dT (gu [] kvs)))):=by
 intro pins s σ H xs us Q I r h;obtain⟨l,vs,kvs,rfl,hl,hp,q⟩:=h;obtain⟨u,rfl,ru⟩:=iH r;obtain rfl:u=Value.ref l:=ru;obtain⟨hz,its,n,rv,hg⟩:=(show ObjOk X.prog X.w H s.heap l (.lst vs) from hl.ok I.hok);obtain⟨pi,pl,pv,pk⟩:=ni I.hok hp rv;have hsz:its.toArray.size<=sizeLine:=by rw[J3,<- rv.length];exact hz
 refine kC (I.ok.hd hc) (by show X.A.units+1+1<cLine;omega) hg (its:=pi) (by rw[pl,J3]) hsz (fun i v e=>pv i v (by simpa using e)) fun h' tk hD hk=>?_;have hf:H s.heap.objs.size=none:=I.hok.fresh (J1 _);refine⟨.ref s.heap.objs.size,_,I.laid (a:=s.heap.objs.size) (o:=.dT (gu [] kvs)) (t':=tk) (fun b o e=>hk b o (J6 e) e) (J1 _) ?_,rfl,q _ hf⟩;obtain⟨o,es,ep,h1,h2,h3,h4,_,h5⟩:=hD;refine⟨?_,Mb.mpr (Ko (Kj I.big)),uy [] pi,(pk [] [] .nil).keeps fun b ys e=>?_,o,es,ep,h1,h2,h3,h4,h5⟩
 .have:=lw kvs [];have h2:=LX hp;simp only[LB]at this;omega
 .rw[af (ap e hf)];exact e
end
section
variable {X:Cx}{pins:List (Addr×Obj)}{σ:St}{H:Hp}{s:Nf}{a:Addr}
theorem Inv.retK (I:Inv X pins σ H s)(e:H a=some (.dT [])):Inv X pins σ (ay H a (.dK [])) s:=by
 obtain⟨z,y,xs,r,o,es,ep,h1,h2,h3,h4,h5⟩:=(show ObjOk X.prog X.w H s.heap a (.dT []) from I.hok a _ e);cases r;exact I.write (x:=a) (e:=a) (t':=s.toks) (h':=s.heap) (by rw[e];exact True.intro) (.inl rfl) (fun b u _ q=>q) ⟨o,h1⟩ ⟨z,y,[],.nil,o,es,ep,h1,h2,h3,by
  have e:es=#[]:=by simpa using h4
  subst e;intro x hx;simp at hx,by
  have e:es=#[]:=by simpa using h4
  subst e;constructor,K6⟩
theorem Inv.retT (I:Inv X pins σ H s)(e:H a=some (.dK [])):Inv X pins σ (ay H a (.dT [])) s:=by
 obtain⟨z,y,vs,r,o,es,ep,h1,h2,h3,h4,h5⟩:=(show ObjOk X.prog X.w H s.heap a (.dK []) from I.hok a _ e);cases r;exact I.write (x:=a) (e:=a) (t':=s.toks) (h':=s.heap) (by rw[e];exact True.intro) (.inl rfl) (fun b u _ q=>q) ⟨o,h1⟩ ⟨z,y,[],.nil,o,es,ep,h1,h2,h3,(by
  generalize es.toList=l at h5;obtain⟨h5,_⟩:=h5;cases l with
  |nil=>rfl
  |cons x r=>cases h5),K6⟩
end
def lz (H:Hp)(a:Addr)(y:V)(r:Option V):Prop:=DGet H a y r\/(Rd H a (.dT [])/\(∃ k,y=kV k)/\r=none)\/(Rd H a (.dK [])/\(∃(b:Addr)(k:List Key),y=.ref b/\H b=some (.tup (k.map kV)))/\r=none)
def CF (H:Hp)(a:Addr)(y v:V)(H':Hp):Prop:=DPut H a y v H'\/(H a=some (.dT [])/\∃ k,y=kV k/\H'=ay H a (.dK [(k,v)]))\/(H a=some (.dK [])/\∃(b:Addr)(k:List Key),y=.ref b/\H b=some (.tup (k.map kV))/\H'=ay H a (.dT [(k,v)]))
section
variable {X:Cx}{pins:List (Addr×Obj)}{σ:St}{H:Hp}{s:Nf}{a:Addr}{y v:V}{u r:Ni}{o:Option V}{A:Nj}{E:Ni->Nf->Prop}
theorem ii {P:Nh}{w:World}{h:Heap}(x:ObjOk P w H h a (.dT [])):(a==sysModules)=false/\h.DictOf (au P w) a []:=by
 obtain⟨z,y,xs,r,o,es,ep,h1,h2,h3,h4,h5⟩:=x;cases r;have e:es=#[]:=by simpa using h4
 subst e;exact⟨y,o,#[],ep,h1,h2,h3,fun x hx=>by simp at hx,by constructor,K6⟩
theorem tu {P:Nh}{w:World}{h:Heap}(x:ObjOk P w H h a (.dK [])):(a==sysModules)=false/\h.DictOfH (tupleKind (au P w)) a []:=by
 obtain⟨z,y,vs,r,o,es,ep,h1,h2,h3,h4,h5⟩:=x;cases r;refine⟨y,o,es,ep,h1,h2,h3,?_,fun x hx=>(nomatch hx),K6⟩;generalize es.toList=l at h5;obtain⟨h5,_⟩:=h5;cases l with
 |nil=>rfl
 |cons x r=>cases h5
theorem GL {Q:Ni->Nf->Prop}(hu:A.units+1<cLine)(I:Inv X pins σ H s)(g:lz H a y o)(ry:RelV y u)(h:∀ s',Inv X pins σ H s'->Q (.bool o.isSome) s') :
 wpAny (model X.prog X.w) A (compareOp .In u (.ref a)) Q E s:=by
 rcases g with g|⟨e,⟨k,rfl⟩,rfl⟩|⟨e,⟨b,k,rfl,eb⟩,rfl⟩
 .exact IP hu I g ry h
 .obtain⟨y,dd⟩:=ii (e.ok I.hok);exact wpAny_in_of (gf ry) y dd.mapOf (h _ (I.tok _))
 .obtain rfl:u=Value.ref b:=ry;obtain⟨y,dd⟩:=tu (e.ok I.hok);exact wpAny_in_heap (K8 hu) (dc I.hok eb) y dd (h _ (I.tok _))
theorem xx {Q:Ni->Nf->Prop}(hu:A.units+1<cLine)(I:Inv X pins σ H s)(g:lz H a y o)(ry:RelV y u)(h:∀ s',Inv X pins σ H s'->Q (.bool (!o.isSome)) s') :
 wpAny (model X.prog X.w) A (compareOp .NotIn u (.ref a)) Q E s:=by
 rcases g with g|⟨e,⟨k,rfl⟩,rfl⟩|⟨e,⟨b,k,rfl,eb⟩,rfl⟩
 .exact AI hu I g ry h
 .obtain⟨y,dd⟩:=ii (e.ok I.hok);exact wpAny_notIn_of (gf ry) y dd.mapOf (h _ (I.tok _))
 .obtain rfl:u=Value.ref b:=ry;obtain⟨y,dd⟩:=tu (e.ok I.hok);exact wpAny_notIn_heap (K8 hu) (dc I.hok eb) y dd (h _ (I.tok _))
theorem tw {H':Hp}{Q:Unit->Nf->Prop}(hu:A.units+1<cLine)(I:Inv X pins σ H s)(g:CF H a y v H')(ry:RelV y u)(rv:RelV v r)(h:∀ s',Inv X pins σ H' s'->Q () s') :
 wpAny (model X.prog X.w) A (setItem (.ref a) u r) Q E s:=by
 rcases g with g|⟨e,k,rfl,rfl⟩|⟨e,b,k,rfl,eb,rfl⟩
 .exact jy hu I g ry rv h
 .refine jy hu (I.retK e) (DPut.k (kvs:=[]) (k:=k) (v:=v) ai (by decide)) ry rv fun s' I'=>?_;rw[uq]at I';exact h s' I'
 .refine jy hu (I.retT e) (DPut.t (kvs:=[]) (k:=k) (v:=v) ai (by rw[af (Cv eb e (fun z=>nomatch z))];exact eb) (by decide)) ry rv fun s' I'=>?_;rw[uq]at I';exact h s' I'
end
section
variable {X:Cx}{value o i:Expr}{td ty tv:TE}{pos pos':Pos}
noncomputable def xy (td ty tv:TE):TS:=fun D σ H=>tv σ H fun v H1=>td σ H1 fun x H2=>ty σ H2 fun y H3=>∃ a H4,x=.ref a/\CF H3 a y v H4/\D.nx σ H4
theorem qS (hu:X.A.units+1<cLine)(ho:PE X o td)(hi:PE X i ty)(hv:PE X value tv)(hs:swapsWith value (some (.Subscript o i pos')) pos.line X.env=pure false) :
 PS X (.Assign [.Subscript o i pos'] value pos) (xy td ty tv):=by
 intro pins s σ H D I h;refine wpAny_Assign_Subscript (bz (hv pins s σ H _ I h) fun r s1 ⟨v,H1,I1,rv,q1⟩=>bz (ho pins s1 σ H1 _ I1 q1) fun u s2 ⟨x,H2,I2,rx,q2⟩=>bz (hi pins s2 σ H2 _ I2 q2) fun iv s3 ⟨y,H3,I3,ry,a,H4,ex,g,q3⟩=>?_) hs;subst ex;obtain rfl:u=Value.ref a:=rx;exact tw hu I3 g ry rv fun s4 I4=>⟨σ,H4,I4,q3⟩
end
section
variable {X:Cx}{pins:List (Addr×Obj)}{σ:St}{H:Hp}{s:Nf}{a:Addr}{y d:V}{u r:Ni}{o:Option V}{A:Nj}{E:Ni->Nf->Prop}
theorem AN {Q:Ni->Nf->Prop}(hu:A.units+1<cLine)(I:Inv X pins σ H s)(g:lz H a y o)(ry:RelV y u)(rd:RelV d r)(h:∀ w' s',Inv X pins σ H s'->RelV (o.getD d) w'->Q w' s') :
 wpAny (model X.prog X.w) A (call (.builtin "dict.get") [.ref a,u,r]) Q E s:=by
 rcases g with g|⟨e,⟨k,rfl⟩,rfl⟩|⟨e,⟨b,k,rfl,eb⟩,rfl⟩
 .exact DP hu I g ry rd h
 .obtain⟨y,dd⟩:=ii (e.ok I.hok);exact MR Ly dd.typeIs LR (LJ _ _ _) (meets_dict_get_default (au X.prog X.w) a (gf ry) y r) ⟨_,dd.mapOf,h _ _ (I.tok _) rd⟩
 .obtain rfl:u=Value.ref b:=ry;obtain⟨y,dd⟩:=tu (e.ok I.hok);exact MR Ly dd.typeIs LR (LJ _ _ _) (meetsH_dict_get_default (tupleKind (au X.prog X.w)) a b y r) ⟨K8 hu,k,[],dc I.hok eb,dd,h _ _ (I.tok _) rd⟩
end
noncomputable def AO (td ty tx:TE):TE:=fun σ H Q=>td σ H fun x H1=>∃ a,x=.ref a/\Iq H1 a/\ty σ H1 fun y H2=>tx σ H2 fun z H3=>∃ o,lz H3 a y o/\Q (o.getD z) H3
section
variable {X:Cx}{o e f:Expr}{apos cpos:Pos}{td ty tx:TE}
theorem v6 (hu:X.A.units+1<cLine) (ho:PE X o td) (he:PE X e ty) (hf:PE X f tx) (m:M2 X o "get" apos e f cpos):PE X (.Call (.Attribute o "get" apos) [e,f] [] cpos) (AO td ty tx):=by intro pins s σ H Q I h;refine wpAny_Call_method m.base m.few m.line KI Ly PySem.F.type_dict_get (bz (ho pins s σ H _ I h) fun u s1 ⟨x,H1,I1,rx,a,ex,d,q1⟩=>?_);subst ex;obtain rfl:u=Value.ref a:=rx;obtain⟨t1,t2,_⟩:=xw I1 d;refine⟨t1,t2,?_⟩;rw[m.trees];refine LQ rfl (Calls.evalArgs_plain (Calls.spliced_cons (bz (he pins s1 σ H1 _ I1 q1) fun iv s2 ⟨y,H2,I2,ry,q2⟩=>Calls.spliced_cons (bz (hf pins s2 σ H2 _ I2 q2) fun fv s3 ⟨z,H3,I3,rz,ov,g,q3⟩=>Calls.spliced_nil ?_))));exact AN hu I3 g ry rz fun w' s4 I4 rw'=>⟨_,H3,I4,rw',q3⟩
end
noncomputable def dI:HO->Prop
 | .dK _=>True
 | .dT _=>True
 |_=>False
section
variable {X:Cx}{pins:List (Addr×Obj)}{σ:St}{H H':Hp}{s:Nf}{d:Addr}{o:Obj}{u:HO}
theorem Inv.view (I:Inv X pins σ H s)(hn:∀ b,H b=none->H' b=none)(ht:∀ b xs,H b=some (.tup xs)->H' b=some (.tup xs))(hf:∀ b o u,X.H₀ b=some (.frz o u)->H' b=some (.frz o u))
 (hb:∀ b ps,H b=some (.tbl ps)->H' b=some (.tbl ps)) (hok:HOk X.prog X.w H' s.heap):Inv X pins σ H' s where
 ok:=I.ok
 os:=I.os
 bare:=I.bare
 base:=⟨I.base.keep,I.base.slot,fun b o e n hx=>hn b (I.base.free b o e n hx),I.base.there,fun b xs e=>ht b xs (I.base.tups b xs e),hf,fun b ps e=>let ⟨m,q⟩:=I.base.tbls b ps e;⟨m,hb b _ q⟩⟩
 loc:=I.loc
 cell:=I.cell
 free:=hn _ I.free
 freeC:=fun x c e=>hn c (I.freeC x c e)
 pin:=fun p hp=>let ⟨a,b,c⟩:=I.pin p hp;⟨a,hn _ b,c⟩
 hok:=hok
 len:=I.len
theorem uz {P:Nh}{w:World}{h:Heap}(ok:HOk P w H h){u':HO}(hd:∃ u,H d=some u/\(∀ y,u≠.own y)/\∀ xs,u≠.tup xs)(new:ObjOk P w (ay H d u') h d u'):HOk P w (ay H d u') h:=fun b v e=>by
 obtain⟨u,hu,h1,h2⟩:=hd;by_cases hb:b=d
 .subst hb;rw[ai]at e;cases e;exact new
 .rw[af hb]at e;refine(ok b v e).stay (fun _ _ _ q=>q) (fun c q=>?_) fun c xs q=>?_
  .rw[af]
   .exact q
   .rintro rfl;rw[hu]at q;cases q;exact h1 _ rfl
  .rw[af]
   .exact q
   .rintro rfl;rw[hu]at q;cases q;exact h2 _ rfl
theorem uA {u:HO}(h:dI u):(∀ y,u≠.own y)/\(∀ xs,u≠.tup xs)/\(∀ ps,u≠.tbl ps)/\∀ o v,u≠.frz o v:=by cases u<;>first|exact h.elim|exact⟨fun _ z=>(nomatch z),fun _ z=>(nomatch z),fun _ z=>(nomatch z),fun _ _ z=>(nomatch z)⟩
theorem nk {P:Nh}{w:World}{h:Heap}(hu:dI u)(x:ObjOk P w H h d u)(ht:∀ b xs,H b=some (.tup xs)->H' b=some (.tup xs)):ObjOk P w H' h d u:=by
 cases u with
 |dK kvs=>exact x
 |dT kvs=>obtain⟨z,y,xs,r,q⟩:=x;exact⟨z,y,xs,Paired.mapP r fun p q z=>⟨z.1,ht _ _ z.2.1,z.2.2⟩,q⟩
 |_=>exact hu.elim
theorem Inv.frz (I:Inv X pins σ H s)(e:H d=some u)(hu:dI u)(ho:s.heap.get? d=some o):Inv X pins σ (ay H d (.frz o u)) s:=by
 obtain⟨n1,n2,n3,n4⟩:=uA hu;have ht:∀ b xs,H b=some (.tup xs)->ay H d (.frz o u) b=some (.tup xs):=fun b xs q=>by
  rw[af]
  .exact q
  .rintro rfl;rw[e]at q;cases q;exact n2 _ rfl
 refine I.view (fun b hb=>?_) ht (fun b o' u' q=>?_) (fun b ps q=>?_) (uz I.hok ⟨u,e,n1,n2⟩ ⟨ho,nk hu (I.hok d u e) ht⟩)
 .rw[af]
  .exact hb
  .rintro rfl;rw[e]at hb;cases hb
 .have q:=I.base.frzs b o' u' q;rw[af]
  .exact q
  .rintro rfl;rw[e]at q;cases q;exact n4 _ _ rfl
 .rw[af]
  .exact q
  .rintro rfl;rw[e]at q;cases q;exact n3 _ rfl
theorem Inv.nofrz (I:Inv X pins σ H s)(e:H d=some u)(hu:dI u):∀ o v,X.H₀ d≠some (.frz o v):=fun o v q=>by have:=I.base.frzs d o v q;rw[e]at this;cases this;exact(uA hu).2.2.2 _ _ rfl
theorem Inv.unfrz (I:Inv X pins σ H s)(e:H d=some (.frz o u))(hu:dI u)(hn:∀ o v,X.H₀ d≠some (.frz o v)):Inv X pins σ (ay H d u) s:=by
 have ht:∀ b xs,H b=some (.tup xs)->ay H d u b=some (.tup xs):=fun b xs q=>by
  rw[af]
  .exact q
  .rintro rfl;rw[e]at q;cases q
 have x:ObjOk X.prog X.w H s.heap d u:=(show ObjOk X.prog X.w H s.heap d (.frz o u) from I.hok d _ e).2;refine I.view (fun b hb=>?_) ht (fun b o' u' q=>?_) (fun b ps q=>?_) (uz I.hok ⟨_,e,fun _ z=>(nomatch z),fun _ z=>(nomatch z)⟩ (nk hu x ht))
 .rw[af]
  .exact hb
  .rintro rfl;rw[e]at hb;cases hb
 .have q2:=I.base.frzs b o' u' q;rw[af]
  .exact q2
  .rintro rfl;exact hn _ _ q
 .rw[af]
  .exact q
  .rintro rfl;rw[e]at q;cases q
end
def CG (d:Addr)(o:Obj)(u:HO)(kvs:List (Key×V)):It:=⟨fun i H=>H d=some (.frz o u)/\i<kvs.length,fun i H x H'=>H'=H/\∃ k v,kvs[i]?=some (k,v)/\x=kV k,fun i H=>H d=some (.frz o u)/\kvs.length<=i⟩
theorem oU {k:Key}{u:Ni}{P:Nh}{w:World}(h:(au P w).is k u=true):RelV (kV k) u:=by
 rcases aU (show j7 k u=true from h) with⟨i,t,rfl,rfl⟩|⟨x,t,rfl,rfl⟩
 .exact⟨t,rfl⟩
 .exact⟨t,rfl⟩
theorem gv {P:Nh}{w:World}{h h':Heap}{d:Addr}{o:Obj}{vs:List (Key×Ni)}{ep:Nat}(x:h.DictAt (au P w) d vs ep)(e:h.get? d=some o)(e':h'.get? d=some o):h'.DictAt (au P w) d vs ep:=by obtain⟨o',es,ho,r⟩:=x;rw[e]at ho;cases ho;exact⟨o,es,e',r⟩
theorem v7 {P:Nh}{w:World}{K:Ng}{tg:Expr}{d it:Addr}{o:Obj}{u0:HO}{kvs:List (Key×V)}{vs:List (Key×Ni)}{ep:Nat}{h0:Heap}(rel:KV kvs vs)(x0:h0.DictAt (au P w) d vs ep)(e0:h0.get? d=some o) :
 Turn P w K tg (CG d o u0 kvs) [it] it (fun i h=>h.IsKeyIter it d i vs.length ep) where
 mem:=by simp
 obj:=fun i h st b hb=>by
  have e:b=it:=by simpa using hb
  subst e;obtain⟨o,e,c,q⟩:=st;exact⟨o,e,fun v z=>by rw[q]at z;cases z⟩
 keep:=fun i h h' st k=>st.at fun o e=>k it (by simp) o e
 item:=by
  intro X hP hw hK hc i pins s σ H E I hf st hg;subst hP hw hK;obtain⟨hd,hi⟩:=hg;obtain⟨eo,_⟩:=(show ObjOk X.prog X.w H s.heap d (.frz o u0) from I.hok d _ hd);have x1:=gv x0 e0 eo;obtain⟨f0,f1,f2,f3,f4,f5⟩:=hf it (by simp);have hiv:i<vs.length:=by rw[<- rel.length];exact hi
  have rg:∃ k v u,kvs[i]?=some (k,v)/\vs[i]?=some (k,u):=by
   have hk:kvs[i]?=some kvs[i]:=by simp[hi]
   have hv:vs[i]?=some vs[i]:=by simp[hiv]
   have key:∀{a:List (Key×V)}{b:List (Key×Ni)},KV a b->∀(i:Nat) p q,a[i]?=some p->b[i]?=some q->p.1=q.1:=by
    intro a b r;induction r with
    |nil=>intro i p q e;simp at e
    |cons hq t ih=>
     intro i p q e1 e2;cases i with
     |zero=>simp at e1 e2;subst e1 e2;exact hq.1
     |succ i=>exact ih i p q (by simpa using e1) (by simpa using e2)
   have:=key rel i _ _ hk hv;exact⟨kvs[i].1,kvs[i].2,vs[i].2,hk,by rw[hv,this]⟩
  obtain⟨k,v,uv,h1,h2⟩:=rg;refine wpAny_pyNext_dict_item st x1 h2 fun key h' gr st' sb=>?_;have I1:Inv X pins σ H { s with heap:=h' }:=I.turned (t':=s.toks) (fun b o hb e=>(sb.2 b hb).trans e) f0 f1 f3 f4 f5;obtain⟨oi,e,c,q⟩:=id st';exact⟨key,rfl,qL (s:={ s with heap:=h' }) e c q (by decide) ⟨kV k,H,I1,oU gr,⟨rfl,k,v,h1,rfl⟩,st',fun b hb=>(hf b hb).1⟩⟩
 done:=by intro X hP hw hK hc i pins s σ H E I hf st hg;subst hP hw hK;obtain⟨hd,hi⟩:=hg;obtain⟨eo,_⟩:=(show ObjOk X.prog X.w H s.heap d (.frz o u0) from I.hok d _ hd);have x1:=gv x0 e0 eo;obtain⟨f0,f1,f2,f3,f4,f5⟩:=hf it (by simp);have hl:=rel.length;exact wpAny_pyNext_dict_end (I.ok.hd hc) st x1 (by simp;omega) fun h' eb=>⟨rfl,I.turned (t':=s.toks) (fun b o hb e=>eb b o hb e) f0 f1 f3 f4 f5⟩
 self:=fun _ _ _ _ _ st h=>wpAny_pyIter_keyiter st h
section
variable {X:Cx}{tg:Expr}
def GM (X:Cx)(tl:TE):TI:=fun σ H R=>tl σ H fun x H1=>∃ d kvs u,x=.ref d/\(u=.dK kvs\/(u=.dT []/\kvs=[]))/\((∃ o,H1 d=some (.frz o u)/\R (CG d o u kvs) H1)\/(H1 d=some u/\∀ o,(∀ o' v,X.H₀ d≠some (.frz o' v))->R (CG d o u kvs) (ay H1 d (.frz o u))))
theorem uB {l:Expr}{tl:TE}(hl:PE X l tl):PI X tg l (GM X tl):=by
 intro pins s σ H R I h;refine bz (hl pins s σ H _ I h) fun v s1 ⟨x,H1,I1,r1,q1⟩=>?_;obtain⟨d,kvs,u,e,hu,q⟩:=q1;subst e;cases r1;have d9:dI u:=by rcases hu with rfl|⟨rfl,_⟩<;>exact True.intro
 have fin:∀(o:Obj)(H2:Hp),Inv X pins σ H2 s1->H2 d=some (.frz o u)->R (CG d o u kvs) H2->wpAny (model X.prog X.w) X.A (pyIter (.ref d)) (Ij X pins σ tg R) X.xe s1:=fun o H2 I2 e2 q2=>by
  obtain⟨eo,hx⟩:=(show ObjOk X.prog X.w H2 s1.heap d (.frz o u) from I2.hok d _ e2);have key:(d==sysModules)=false/\∃ vs,KV kvs vs/\s1.heap.DictOf (au X.prog X.w) d vs:=by
   rcases hu with rfl|⟨rfl,rfl⟩
   .obtain⟨z,hd,vs,rel,dd⟩:=hx;exact⟨hd,vs,rel,dd⟩
   .obtain⟨hd,dd⟩:=ii hx;exact⟨hd,[],.nil,dd⟩
  obtain⟨hd,vs,rel,dd⟩:=key;obtain⟨ep,da⟩:=dd.dictAt;refine wpAny_pyIter_dict hd da ?_;refine⟨s1.heap.objs.size,[s1.heap.objs.size],_,_,H2,rfl,I2.kept (t':=s1.toks) fun b o e=>JV _ e,v7 rel da eo,⟨_,Kb _ rfl,rfl,rfl⟩,fun b hb=>?_,q2⟩;have e:b=s1.heap.objs.size:=by simpa using hb
  subst e;exact I2.fpOk (J1 _) (I2.hok.fresh (J1 _))
 rcases q with⟨o,e1,q⟩|⟨e1,q⟩
 .exact fin o H1 I1 e1 q
 .have hob:∃ o,s1.heap.get? d=some o:=by
   rcases hu with rfl|⟨rfl,_⟩
   .obtain⟨_,_,_,_,o,_,_,ho,_⟩:=(show ObjOk X.prog X.w H1 s1.heap d (.dK kvs) from I1.hok d _ e1);exact⟨o,ho⟩
   .obtain⟨_,_,_,_,o,_,_,ho,_⟩:=(show ObjOk X.prog X.w H1 s1.heap d (.dT []) from I1.hok d _ e1);exact⟨o,ho⟩
  obtain⟨o,ho⟩:=hob;exact fin o _ (I1.frz e1 d9 ho) ai (q o (I1.nofrz e1 d9))
def unD (X:Cx)(D:Ends):Ends where
 nx:=fun σ H=>D.nx σ H\/∃ d o u,H d=some (.frz o u)/\dI u/\(∀ o v,X.H₀ d≠some (.frz o v))/\D.nx σ (ay H d u)
 rt:=D.rt
 bk:=D.bk
 ct:=D.ct
theorem DR {st:Stmt}{t:TS}(h:PS X st t):PS X st (fun D σ H=>t (unD X D) σ H):=by
 intro pins s σ H D I q;refine bz (h pins s σ H _ I q) fun f s' r=>?_;cases f with
 |next=>
  obtain⟨σ',H',I',r⟩:=r;rcases r with r|⟨d,o,u,e,hu,hn,r⟩
  .exact⟨σ',H',I',r⟩
  .exact⟨σ',_,I'.unfrz e hu hn,r⟩
 |_=>exact r
end
abbrev nq:=Key×Ni×Ni
noncomputable def IQ (vs:List (Key×Ni))(its:List nq):List (Key×Ni):=its.foldl (fun vs x=>stored vs x.1 x.2.2) vs
section
variable {prog:Nh}{w:World}
theorem j_ {h h':Heap}{S:Addr}{vs:List (Key×Ni)}(d:h.DictOf (au prog w) S vs)(e:∀ o,h.get? S=some o->h'.get? S=some o):h'.DictOf (au prog w) S vs:=let ⟨o,es,ep,ho,r⟩:=d;⟨o,es,ep,e o ho,r⟩
variable {A:Nj}{R:Result->Nf->Prop}{I:Addr}{fp wr:List Addr}{G:Array GenState->Array GenState->Prop}{n:Nat}{P:Nat->Ni->Prop}{St:Nat->Nf->Prop}
theorem ij (W:WalksS prog w A.in1 I fp wr G n P St)(S:Addr)(hSf:S∉fp)(hb:Heap)(hbS:hb.get? S=none)(hbw:∀ b∈wr,hb.get? b=none)(its:List nq)(hn:its.length=n)
 (hval:∀ i v,P i v->∃ p x,v=.ref p/\its[i]?=some x/\hb.IsTuple p #[x.2.1,x.2.2]/\(au prog w).is x.1 x.2.1=true) (hsz:n<=sizeLine) :
 ∀(k i:Nat)(s:Nf)(vs:List (Key×Ni))(j:Int),n-i=k->i<=n->St i s->(∀ b o,hb.get? b=some o->s.heap.get? b=some o)->vs.length<=i->s.heap.DictOf (au prog w) S vs->
  (∀ s',Moved (S::wr) G s s'->s'.heap.DictOf (au prog w) S (IQ vs (its.drop i))->R (.ok (.ret .none)) s')->
  codeAny (model prog w) A (.builtin "dict.update.loop" ⟨[.ref S,.ref I,rawInt j,.none],[]⟩) R s:=by
 have hSw:S∉wr:=fun h=>hSf (W.sub _ h);have hsub:∀ b∈wr,b∈S::wr:=fun b hb=>Kc _ hb;intro k;induction k with
 |zero=>
  intro i s vs j hk hi hst K hxl hS hR;have hin:i=n:=by omega
  subst hin;refine K9 dk ?_;rw[La bg _];show wpAny _ A.in1 (pyNext (.ref I) >>= _) _ _ s;refine JT (W.done s _ _ hst fun s' hm=>?_);have hR':=hR s' (hm.mono hsub) (by rw[List.drop_of_length_le (by omega)];exact j_ hS fun o e=>hm.heap S o hSw e);show wpAny _ A.in1 (Builtin.Dict.addKeywords S [] >>= fun _=>ret Value.none) _ _ s';exact JT (J2 (J2 hR'))
 |succ k ih=>
  intro i s vs j hk hi hst K hxl hS hR;have hlt:i<n:=by omega
  refine K9 dk ?_;rw[La bg _];show wpAny _ A.in1 (pyNext (.ref I) >>= _) _ _ s;refine JT (W.item i s _ _ hlt hst fun v s' hP hst' hm=>?_);obtain⟨p,x,rfl,hx,ht,gr⟩:=hval i v hP;have K':∀ b o,hb.get? b=some o->s'.heap.get? b=some o:=fun b o e=>hm.heap b o (fun z=>by rw[hbw b z]at e;cases e) (K b o e);obtain⟨ot,hot,hct,nt,hdt⟩:=ht;have hT:s'.TypeIs (.ref p) "tuple":=⟨ot,K' _ _ hot,hct⟩;have hS':=j_ hS fun o e=>hm.heap S o hSw e;refine JT (KN ?_);refine JT ?_;refine wpAny_tryCatch ?_;unfold Builtin.Dict.pairItems;refine JT (Mh hT ?_);rw[JW (by decide)];refine JT (MU (K' _ _ hot) hdt ?_);refine J2 ?_;show wpAny _ A.in1 (holding [x.2.1,x.2.2] (dictSet S x.2.1 x.2.2)) _ _ s';refine KN ?_;refine wpAny_dictSet_pairs (knd:=au prog w) (hsz:=by omega) gr hS' fun h' hd' hs'=>?_;have K2:∀ b o,hb.get? b=some o->h'.get? b=some o:=fun b o e=>(hs'.2 b (fun z=>by subst z;rw[hbS]at e;cases e)).trans (K' b o e);have hdrop:its.drop i=x::its.drop (i+1):=by
   have hil:i<its.length:=by omega
   rw[Lg hil];rw[KA hil]at hx;rw[Kq hx]
  refine J2 ⟨LK bg _,ih (i+1) _ (stored vs x.1 x.2.2) (j+1) (by omega) hlt (W.frame _ s' _ _ hst' (L9 _ _) fun b hb o e=>?_) K2 (by have:=stored_length_le vs x.1 x.2.2;omega) hd' fun s'' hm'' hS''=>?_⟩
  .rw[hs'.2 b (fun h:b=S=>hSf (by rw[<- h];exact hb))];exact e
  .refine hR s'' (Moved.trans W.gtrans ((hm.mono hsub).then_heap (L9 _ _) fun b o hb e=>?_) hm'') (by rw[hdrop];exact hS'');rw[hs'.2 b (fun h:b=S=>hb (by rw[h];exact Kg))];exact e
end
section
variable {prog:Nh}{w:World}{A:Nj}{E:Ni->Nf->Prop}{s:Nf}
theorem jz {l:Addr} {items:Array Ni} {nl:Nat} {its:List nq} {Q:Ni->Nf->Prop} (hh:A.handled=none) (hl:s.heap.get? l=some { cls:=.type "list",data:=.seq items nl }) (hn:its.length=items.size) (hsz:items.size<=sizeLine)
 (hval:∀(i:Nat)(v:Ni),items[i]?=some v->∃(p:Addr)(x:nq),v=.ref p/\its[i]?=some x/\s.heap.IsTuple p #[x.2.1,x.2.2]/\(au prog w).is x.1 x.2.1=true)
 (h:∀(h':Heap)(tk:Nat),h'.DictOf (au prog w) s.heap.objs.size (IQ [] its)->(∀ b o,b<s.heap.objs.size->s.heap.get? b=some o->h'.get? b=some o)->Q (.ref s.heap.objs.size) { s with heap:=h',toks:=tk }) :
 wpAny (model prog w) A (call (.type "dict") [.ref l]) Q E s:=by
 refine callType_codes (Q₁:=fun obj s₁=>obj=.ref s.heap.objs.size/\s₁={ s with heap:=s.heap.push { cls:=.type "dict",data:=.dict #[] } }) PySem.F.kt_called_dict (PySem.F.kt_typeCall_dict_1 _) PySem.F.entry_dict_init (kt_code_dict_new _ ⟨rfl,rfl⟩) ?_;rintro obj s₁ ⟨rfl,rfl⟩;have hD:(s.heap.push { cls:=.type "dict",data:=.dict #[] }).get? s.heap.objs.size=some { cls:=.type "dict",data:=.dict #[] }:=Kb _ rfl;have hT:Shared.TypeIs { s with heap:=s.heap.push { cls:=.type "dict",data:=.dict #[] } } (.ref s.heap.objs.size) "dict":=⟨_,hD,rfl⟩;refine⟨hT,PySem.F.args_dict_init_2 _ _,?_⟩;unfold Builtin.«dict.__init__»;refine JT ?_;unfold Builtin.Dict.selfAndRest;refine JT (MD hT ?_);show wpAny _ _ (pure (s.heap.objs.size,[Value.ref l])) _ _ _;refine J2 ?_;show wpAny _ _ (Builtin.Dict.updateFrom "dict.__init__" s.heap.objs.size (.ref l) [] .none) _ _ _;unfold Builtin.Dict.updateFrom;have hl1:(s.heap.push { cls:=.type "dict",data:=.dict #[] }).get? l=some { cls:=.type "list",data:=.seq items nl }:=JV _ hl;refine JT (Mh ⟨_,hl1,rfl⟩ ?_);rw[JW (by decide)];refine JT (gg (s:={ s with heap:=s.heap.push { cls:=.type "dict",data:=.dict #[] } }) hl1 rfl rfl rfl (am_miss_of_fast (by decide +kernel)) (by decide +kernel) (by simp[hh]) fun h1 tk1 e1 hx1=>?_);rw[JW (by decide)];refine JT (wpAny_rule ?_);have k1:∀ b o,s.heap.get? b=some o->h1.get? b=some o:=fun b o e=>hx1.keeps b o (JV _ e);have hl2:h1.get? l=some { cls:=.type "list",data:=.seq items nl }:=k1 _ _ hl;have hD1:h1.get? s.heap.objs.size=some { cls:=.type "dict",data:=.dict #[] }:=hx1.keeps _ _ hD;have hlt1:s.heap.objs.size<h1.objs.size:=J6 hD1;have hll:l<s.heap.objs.size:=J6 hl;refine JT (Mv (s:=⟨h1,s.gens,s.drawn,tk1,s.os⟩) ⟨_,hl2,rfl,nl,rfl⟩ ?_);have hh3:A.in1.in1.handled=none:=by simp[hh]
 have hno:∀ b,s.heap.objs.size<=b->s.heap.get? b=none:=fun b hb=>by
  cases q:s.heap.get? b with
  |none=>rfl
  |some o=>exact absurd (J6 q) (Nat.not_lt.mpr hb)
 have hneI:l≠h1.objs.size:=Kj (MQ hll hlt1);have k2:∀ b o,h1.get? b=some o->(h1.push { cls:=.type "list_iterator",data:=.fields #[.ref l,.int 0 0] }).get? b=some o:=fun b o e=>JV _ e;refine J2 ⟨LK bg _,ij (A:=A.in1) ((Walks.list hh3 h1.objs.size l hneI items).toS) s.heap.objs.size ?_ s.heap (hno _ (J1 _)) ?_ its hn hval hsz (items.size-0) 0 _ [] 0 rfl (Kz _) ⟨⟨_,Kb _ rfl,rfl,rfl⟩,⟨_,k2 _ _ hl2,rfl,nl,rfl⟩⟩ (fun b o e=>k2 _ _ (k1 b o e)) (J1 _) ⟨_,#[],0,k2 _ _ hD1,⟨rfl,rfl,rfl⟩,rfl,fun x hx=>by simp at hx,by constructor,K6⟩ ?_⟩
 .simp only[J5,KY,MB,not_or];exact⟨Kj hlt1,Mg hll⟩
 .intro b hb;simp only[J5,KY,MB]at hb;subst hb;exact hno _ (Mf hlt1)
 .intro s' hm hS';obtain⟨h',g',d',tk',os'⟩:=s';have eg:g'=s.gens:=hm.gens;have ed:d'=s.drawn:=hm.drawn;have eo:os'=s.os:=hm.os;subst eg;subst ed;subst eo;refine⟨rfl,h h' tk' hS' fun b o hb e=>hm.heap b o ?_ (k2 _ _ (k1 _ _ e))⟩;simp only[J5,KY,MB,not_or];exact⟨Kj hb,Kj (MQ hb hlt1)⟩
end
def jA (H:Hp):List V->List (Key×V)->Prop:=Paired fun v kv=>∃ p,v=.ref p/\H p=some (.tup [kV kv.1,kv.2])
section
variable {P:Nh}{w:World}{H:Hp}{h:Heap}
theorem lA (ok:HOk P w H h):∀{vs:List V}{us:List Ni}{kvs:List (Key×V)},jA H vs kvs->Vals vs us->
 ∃ its:List nq,its.length=us.length/\(∀(i:Nat)(v:Ni),us[i]?=some v->∃(p:Addr)(x:nq),v=.ref p/\its[i]?=some x/\h.IsTuple p #[x.2.1,x.2.2]/\(au P w).is x.1 x.2.1=true)/\
  ∀ t vs,KV t vs->KV (bL t kvs) (IQ vs its)
 |_,_,_,.nil,.nil=>⟨[],rfl,fun i v e=>by simp at e,fun t xs r=>r⟩
 |_,_,_,.cons (a:=v) (b:=kv) q t,.cons (b:=u) r s=>by
  obtain⟨its,hl,hv,hk⟩:=lA ok t s;obtain⟨p,rfl,hp⟩:=q;cases r;obtain⟨_,is,r2,ot,ho,hc,n,hd⟩:=(show ObjOk P w H h p (.tup [kV kv.1,kv.2]) from ok p _ hp);obtain⟨u1,u2,rfl,ru1,ru2⟩:=uu r2;refine⟨(kv.1,u1,u2)::its,by simp[hl],fun i v e=>?_,fun t xs rt=>?_⟩
  .cases i with
   |zero=>simp at e;subst e;exact⟨p,(kv.1,u1,u2),rfl,rfl,⟨ot,ho,hc,n,hd⟩,gf ru1⟩
   |succ i=>exact hv i v (by simpa using e)
  .exact hk _ _ (rt.put kv.1 ru2)
end
section
variable {X:Cx}
theorem lB (hc:X.calm=true):CallR X (.type "dict") (fun xs H Q=>∃ l vs kvs,xs=[.ref l]/\Rd H l (.lst vs)/\jA H vs kvs/\∀ p,H p=none->Q (.ref p) (ay H p (.dK (bL [] kvs)))):=by
 intro pins s σ H xs us Q I r h;obtain⟨l,vs,kvs,rfl,hl,hp,q⟩:=h;obtain⟨u,rfl,ru⟩:=iH r;obtain rfl:u=Value.ref l:=ru;obtain⟨hz,its,n,rv,hg⟩:=(show ObjOk X.prog X.w H s.heap l (.lst vs) from hl.ok I.hok);obtain⟨pi,pl,pv,pk⟩:=lA I.hok hp rv;have hsz:its.toArray.size<=sizeLine:=by rw[J3,<- rv.length];exact hz
 refine jz (I.ok.hd hc) hg (its:=pi) (by rw[pl,J3]) hsz (fun i v e=>pv i v (by simpa using e)) fun h' tk hD hk=>?_;have hf:H s.heap.objs.size=none:=I.hok.fresh (J1 _);refine⟨.ref s.heap.objs.size,_,I.laid (a:=s.heap.objs.size) (o:=.dK (bL [] kvs)) (t':=tk) (fun b o e=>hk b o (J6 e) e) (J1 _) ?_,rfl,q _ hf⟩;refine⟨?_,Mb.mpr (Ko (Kj I.big)),_,pk [] [] .nil,hD⟩;have:=eV kvs [];have h2:=LX hp;simp only[LB]at this;omega
theorem DS {pins:List (Addr×Obj)}{σ:St}{H:Hp}{s:Nf}{a:Addr}{kvs:List (Key×V)}(I:Inv X pins σ H s)(e:Rd H a (.dK kvs)\/(Rd H a (.dT [])/\kvs=[])) :
 kvs.length<=sizeLine/\(a==sysModules)=false/\∃ vs,KV kvs vs/\s.heap.DictOf (au X.prog X.w) a vs:=by
 rcases e with e|⟨e,rfl⟩
 .exact j8 I.hok e
 .obtain⟨y,dd⟩:=ii (e.ok I.hok);exact⟨Kz _,y,[],.nil,dd⟩
end
section
variable {prog:Nh}{w:World}{A:Nj}{E:Ni->Nf->Prop}{s:Nf}
theorem DT {d:Addr}{vs:List (Key×Ni)}{k:Key}{key dflt:Ni}{Q:Ni->Nf->Prop}(gr:(au prog w).is k key=true)(hm:s.heap.DictOf (au prog w) d vs)(hn0:valueAt vs k=none)
 (h:∀ h',h'.DictOf (au prog w) d (stored vs k dflt)->Heap.SameBut d s.heap h'->Q dflt { s with heap:=h',toks:=s.toks+1 }) (hsz:vs.length<=sizeLine):wpAny (model prog w) A (dictSetDefault d key dflt) Q E s:=by
 obtain⟨o,es,ep,ho,hc,hd,hk,hp,hn⟩:=hm;have hes:es.size<=sizeLine:=by
  have e1:=hp.length;have e2:es.toList.length=es.size:=by simp
  omega
 have hnone:vs.findIdx? (fun kv=>decide (kv.1=k))=none:=by
  rw[List.findIdx?_eq_none_iff];intro x hx;refine Kr fun e=>?_;have:(valueAt vs k).isSome=true:=by unfold valueAt;rw[Mt,List.find?_isSome];exact⟨x,hx,Kk e⟩
  rw[hn0]at this;cases this
 have hidx:(es.findIdx? fun e=>(au prog w).is k e.key)=none:=by
  have:(es.findIdx? fun e=>(au prog w).is k e.key)=vs.findIdx? fun kv=>decide (kv.1=k):=by rw[<- hp.findIdx k];obtain⟨l⟩:=es;simp
  rw[this];exact hnone
 have hnot:k∉vs.map (·.1):=not_mem_of_findIdx_none hnone;have hany:¬ (vs.any fun kv=>decide (kv.1=k))=true:=by rw[Lw];rintro⟨kv,hkv,he⟩;exact hnot (J8.mpr ⟨kv,hkv,LC he⟩)
 unfold dictSetDefault
 try with_reducible refine KN ?_
 refine JT ((au prog w).pyHash gr ?_);refine JT (wpAny_dictFind_of (s:={ s with toks:=s.toks+1 }) gr ho hd hk ?_);rw[hidx];refine JT (wpAny_rule (JT (wpAny_updateDictKeys (hz:=hes) (s:={ s with toks:=s.toks+1 }) ho hd (J2 (h _ ⟨_,_,ep+1,K5 _ ho (Obj.isFreed_of_dict (Obj.data_mapDictKeys hd _)),hc.mapDictKeys _,Obj.data_mapDictKeys hd _,hk.push gr _,?_,?_⟩ (Lu ..))))))
 .rw[stored,J0 hany];have:=hp.append gr ((au prog w).hash k) dflt;obtain⟨l⟩:=es;simpa using this
 .rw[stored,J0 hany,Ki,LZ];refine⟨hn,by simp,?_⟩;intro a ha b hb;simp only[J4,MP,KB]at hb;subst hb;exact fun e=>hnot (e▸ha)
end
section
variable {X:Cx}
def uC:V->List V->Hp->VK->Prop:=fun x xs H Q=>∃ a k y kvs,x=.ref a/\xs=[kV k,y]/\(H a=some (.dK kvs)\/(H a=some (.dT [])/\kvs=[]))/\kvs.length<sizeLine/\
 ((∃ v,dj kvs k=some v/\Q v H)\/(dj kvs k=none/\Q y (ay H a (.dK (bq kvs k y)))))
theorem gY:IM X "dict.setdefault" uC:=by
 intro pins s σ H x xs v us Q I rx rs q;obtain⟨a,k,y,kvs,rfl,rfl,ha,hz,q⟩:=q;obtain rfl:v=Value.ref a:=rx;obtain⟨u1,u2,rfl,ru1,ru2⟩:=uu rs;obtain⟨z1,y1,vs,r1,d1⟩:=DS I (ha.imp .inl fun⟨e,w⟩=>⟨.inl e,w⟩);have gr:=gf (P:=X.prog) (w:=X.w) ru1;refine Lx KF d1.typeIs PySem.F.entry_dict_setdefault ?_ (PySem.F.args_dict_setdefault_3 _ _ _);unfold Builtin.«dict.setdefault»;refine JT ?_;unfold Builtin.Dict.keyAndDefault;refine JT (MD d1.typeIs (show wpAny _ _ (pure (a,u1,some u2)) _ _ s from J2 ?_));show wpAny _ _ (if (a==sysModules)=true then _ else (dictSetDefault a u1 u2 >>= _)) _ _ s;rw[J0 (by rw[y1];exact Mn)];have bO:vs.length<=sizeLine:=by rw[<- r1.length];omega
 have dle:s.heap.DictLe a sizeLine:=fun o es ep ho hd=>by
  obtain⟨o',es',ep',ho',_,hd',_,hp,_⟩:=id d1;rw[ho]at ho';cases ho';rw[hd]at hd';cases hd';have e1:=hp.length;have e2:es.toList.length=es.size:=by simp
  omega
 have rv:=r1.val k;rcases q with⟨v,hv,q⟩|⟨hv,q⟩
 .obtain⟨w',hw,rw'⟩:=RelO.some_of (v:=v) (o:=valueAt vs k) (by rw[<- hv];exact rv);refine JT (wpAny_dictSetDefault_of (hz:=dle) gr d1.mapOf (fun v' e=>?_) fun e=>?_)
  .rw[hw]at e;cases e;exact J2 ⟨_,rfl,v,H,I.tok _,rw',q⟩
  .rw[hw]at e;cases e
 .have hn0:valueAt vs k=none:=by
   have:=rv.isSome_eq;rw[hv]at this;cases z:valueAt vs k with
   |none=>rfl
   |some _=>rw[z]at this;cases this
  refine JT (DT gr d1 hn0 (fun h' dd' hs=>J2 ⟨_,rfl,?_⟩) bO);have he:∃ q,h'.get? a=some q:=let ⟨q,_,_,hq,_⟩:=dd';⟨q,hq⟩;have mu:FZ (H a):=by rcases ha with e|⟨e,_⟩<;>(rw[e];exact True.intro)
  have hl:(bq kvs k y).length<=sizeLine:=by have:=c5 kvs k y;omega
  exact⟨y,_,kK (t':=s.toks+1) I mu hs he (s_ hl y1 (r1.put k ru2) dd'),ru2,q⟩
end
noncomputable def IR (K:Ng)(a:Addr)(n:Nat):It:=⟨fun i H=>∃ xs,SqL K H a xs/\xs.length=n/\i<n,fun i H x H'=>H'=H/\∀ xs,SqL K H a xs->xs[n-1-i]?=some x,fun i H=>n<=i⟩
theorem xA {P:Nh}{w:World}{K:Ng}{tg:Expr}(a it:Addr)(n:Nat):Turn P w K tg (IR K a n) [it] it (fun i h=>i<=n/\h.IsRevIter it a ((n:Int)-1-i)) where
 mem:=by simp
 obj:=fun i h st b hb=>by
  have e:b=it:=by simpa using hb
  subst e;obtain⟨_,o,e,c,d⟩:=st;exact⟨o,e,fun v z=>by rw[d]at z;cases z⟩
 keep:=fun i h h' st k=>⟨st.1,st.2.at fun o e=>k it (by simp) o e⟩
 item:=by
  intro X hP hw hK hc i pins s σ H E I hf st hg;subst hP hw hK;obtain⟨xs,hq,hn,hi⟩:=hg;obtain⟨its,rv,p,hz⟩:=I.list hq;have hx:xs[n-1-i]?=some xs[n-1-i]:=by simp[show n-1-i<xs.length by omega]
  obtain⟨u,hu,ru⟩:=rv.get hx;obtain⟨f0,f1,f2,f3,f4,f5⟩:=hf it (by simp);have ei:(n:Int)-1-i=((n-1-i:Nat):Int):=by omega
  have st2:=st.2;rw[ei]at st2;refine wpAny_pyNext_rev_item st2 p.isList (x:=u) (by simpa using hu) fun h' st' sb=>?_;have I1:Inv X pins σ H { s with heap:=h' }:=I.turned (t':=s.toks) (fun b o hb e=>(sb.2 b hb).trans e) f0 f1 f3 f4 f5;obtain⟨o,e,c,d⟩:=id st';have e2:((n-1-i:Nat):Int)-1=(n:Int)-1-((i+1:Nat):Int):=by omega
  exact⟨u,rfl,qL (s:={ s with heap:=h' }) e c d (by decide) ⟨xs[n-1-i],H,I1,ru,⟨rfl,fun ys hy=>by rw[I.list_inj hy hq];exact hx⟩,⟨by omega,by rw[<- e2];exact st'⟩,fun b hb=>(hf b hb).1⟩⟩
 done:=by intro X hP hw hK hc i pins s σ H E I hf st hg;subst hP hw hK;obtain⟨f0,f1,f2,f3,f4,f5⟩:=hf it (by simp);have hin:i=n:=Nat.le_antisymm st.1 hg;have st2:=st.2;rw[hin,show(n:Int)-1-(n:Nat)=-1 by omega]at st2;exact wpAny_pyNext_rev_end (I.ok.hd hc) st2 fun h' eb=>⟨rfl,I.turned (t':=s.toks) (fun b o hb e=>eb b o hb e) f0 f1 f3 f4 f5⟩
 self:=fun _ _ _ _ _ st h=>wpAny_pyIter_revIter st.2 h
section
variable {X:Cx}{tg:Expr}
def IS (K:Ng)(ta:TA):TI:=fun σ H R=>ta σ H fun vs H1=>∃ a xs,vs=[.ref a]/\SqL K H1 a xs/\R (IR K a xs.length) H1
theorem DU {l:Expr} {ta:TA} {p pos:Pos} (hg:Gl X "reversed") (hm:X.mg "reversed"=none) (ha:PA X [l] ta) (hs:autoParam (starEach [l] X.env=[(false,eval l X.env)]) Nq._auto_1):PI X tg (.Call (.Name "reversed" p) [l] [] pos) (IS X.K ta):=by
 intro pins s σ H R I h;refine Call_ (lc I hg hm boot_reversed (LS (bz (ha pos pins s σ H _ I h) fun us s1 ⟨vs,H1,I1,r1,q1⟩=>?_) hs rfl));obtain⟨a,xs,rfl,hq,q⟩:=q1;obtain⟨u,rfl,ru⟩:=iH r1;obtain rfl:u=Value.ref a:=ru;obtain⟨its,rv,pl,hz⟩:=I1.list hq;refine call_reversed_list pl.isList ?_;have hn:(its.toArray.size:Int)-1=(xs.length:Int)-1-((0:Nat):Int):=by rw[J3,<- rv.length];simp
 have st0:(s1.heap.push (revObj a ((its.toArray.size:Int)-1))).IsRevIter s1.heap.objs.size a ((xs.length:Int)-1-((0:Nat):Int)):=⟨_,Kb _ rfl,rfl,by rw[<- hn];rfl⟩;refine wpAny_pyIter_revIter st0 ?_;refine⟨s1.heap.objs.size,[s1.heap.objs.size],_,_,H1,rfl,I1.kept (t':=s1.toks) fun b o e=>JV _ e,xA a _ xs.length,⟨Kz _,st0⟩,fun b hb=>?_,q⟩;have e:b=s1.heap.objs.size:=by simpa using hb
 subst e;exact I1.fpOk (J1 _) (I1.hok.fresh (J1 _))
end
end L2
namespace ST
open PySem PySem.SetTable
noncomputable def st (m:Nat)(h:Int):Probe:={ j:=bits h % (m+1),more:=runEnd m (bits h % (m+1))-bits h % (m+1),i:=bits h % (m+1),perturb:=bits h,dummy:=none }
noncomputable def rs (m:Nat)(p:Nat×Nat):Probe:={ j:=p.1,more:=runEnd m p.1-p.1,i:=p.1,perturb:=p.2,dummy:=none }
noncomputable def adv (m:Nat)(p:Probe):Probe:=if p.more>0 then { p with j:=p.j+1,more:=p.more-1 } else { p with j:=(leap m p.i p.perturb).1,more:=runEnd m (leap m p.i p.perturb).1-(leap m p.i p.perturb).1,i:=(leap m p.i p.perturb).1,perturb:=(leap m p.i p.perturb).2 }
theorem tz (t:SetTable)(p:Probe):t.advance p=adv t.mask p:=rfl
def it (m:Nat):Nat->Probe->Probe
 |0,p=>p
 |n+1,p=>it m n (adv m p)
theorem de (m:Nat):∀(a b:Nat)(p:Probe),it m (a+b) p=it m b (it m a p)
 |0,b,p=>by rw[Nc];rfl
 |a+1,b,p=>by rw[Nat.succ_add];exact de m a b (adv m p)
theorem AQ (m n:Nat)(p:Probe):it m (n+1) p=adv m (it m n p):=de m n 1 p
structure Va (m:Nat) (p:Probe):Prop where
 i:p.i<=m
 more:p.more<=9
 j:p.j+p.more<=m
 q:p.perturb<2 ^ 64
 d:p.dummy=none
theorem oV (h:Int):bits h<2 ^ 64:=by unfold bits;have:=Li h (show(0:Int)<2 ^ 64 by decide);have h2:=LD h (show(2 ^ 64:Int)≠0 by decide);omega
theorem il (m i:Nat)(h:i<=m):runEnd m i-i<=9/\i+(runEnd m i-i)<=m:=by unfold runEnd;split<;>omega
theorem Va.rs {m:Nat}{p:Nat×Nat}(h1:p.1<=m)(h2:p.2<2 ^ 64):Va m (rs m p):=⟨h1,(il m _ h1).1,(il m _ h1).2,h2,rfl⟩
theorem Va.st (m:Nat)(h:Int):Va m (st m h):=by have:bits h % (m+1)<=m:=MX (Nat.mod_lt _ (Nat.succ_pos m));exact⟨this,(il m _ this).1,(il m _ this).2,oV h,rfl⟩
theorem oW (m i q:Nat):(leap m i q).1<=m:=by exact MX (Nat.mod_lt _ (Nat.succ_pos m))
theorem tE (m i q:Nat):(leap m i q).2=q / 32:=rfl
theorem Va.adv {m:Nat}{p:Probe}(v:Va m p):Va m (adv m p):=by
 unfold ST.adv;split
 .exact⟨v.i,by dsimp only;have:=v.more;omega,by dsimp only;have:=v.j;omega,v.q,v.d⟩
 .have l:=oW m p.i p.perturb;exact⟨l,(il m _ l).1,(il m _ l).2,by dsimp only;rw[tE];have:=v.q;have:=Nat.div_le_self p.perturb 32;omega,v.d⟩
theorem Va.it {m:Nat}:∀{n:Nat}{p:Probe},Va m p->Va m (it m n p)
 |0,_,v=>v
 |n+1,_,v=>Va.it (n:=n) v.adv
theorem Va.jle {m:Nat}{p:Probe}(v:Va m p):p.j<=m:=by have:=v.j;omega
theorem iM {m:Nat}:∀(k:Nat)(p:Probe),p.more=k->Va m p->it m (k+1) p=rs m (leap m p.i p.perturb)
 |0,p,e,v=>by show adv m p=_;unfold adv rs;rw[J0 (by omega)];obtain⟨j,mo,i,q,d⟩:=p;cases v.d;rfl
 |k+1,p,e,v=>by
  have e1:adv m p={ p with j:=p.j+1,more:=p.more-1 }:=by unfold adv;rw[JW (by omega)]
  show it m (k+1) (adv m p)=_;have:=iM k (adv m p) (by rw[e1];show p.more-1=k;omega) v.adv;rw[this,e1]
noncomputable def lp (m:Nat):Nat->Nat×Nat->Nat×Nat
 |0,p=>p
 |n+1,p=>lp m n (leap m p.1 p.2)
theorem xB (m:Nat):∀(a b:Nat)(p:Nat×Nat),lp m (a+b) p=lp m b (lp m a p)
 |0,b,p=>by rw[Nc];rfl
 |a+1,b,p=>by rw[Nat.succ_add];exact xB m a b _
theorem GN (m:Nat):∀(n:Nat)(p:Nat×Nat),(lp m n p).2=p.2 / 32 ^ n
 |0,p=>by simp[lp]
 |n+1,p=>by show(lp m n (leap m p.1 p.2)).2=_;rw[GN m n,tE,Nat.div_div_eq_div_mul,Nat.pow_succ,Nat.mul_comm]
theorem CH (m:Nat):∀(n:Nat)(p:Nat×Nat),p.1<=m->(lp m n p).1<=m
 |0,p,h=>h
 |n+1,p,_=>CH m n _ (oW m _ _)
theorem qT {m:Nat}:∀(L:Nat)(p:Probe),Va m p->∃ n,n<=10*(L+1)/\it m n p=rs m (lp m (L+1) (p.i,p.perturb))
 |0,p,v=>⟨p.more+1,by have:=v.more;omega,iM _ p rfl v⟩
 |L+1,p,v=>by
  have h1:=iM _ p rfl v;have v1:Va m (rs m (leap m p.i p.perturb)):=by rw[<- h1];exact v.it
  obtain⟨n,hn,e⟩:=qT L _ v1;refine⟨p.more+1+n,by have:=v.more;omega,?_⟩;rw[de,h1,e];rfl
noncomputable def f5 (m i:Nat):Nat:=(i*5+1) % (m+1)
def fN (m:Nat):Nat->Nat->Nat
 |0,i=>i
 |n+1,i=>fN m n (f5 m i)
def xC (m:Nat):Nat->Nat->List Nat
 |0,_=>[]
 |n+1,i=>i::xC m n (f5 m i)
theorem qU (m:Nat):∀(n i k:Nat),k<n->(xC m n i)[k]?=some (fN m k i)
 |n+1,i,0,_=>rfl
 |n+1,i,k+1,h=>qU m n _ k (by omega)
theorem qV (m:Nat):∀(n i:Nat),(xC m n i).length=n
 |0,_=>rfl
 |n+1,i=>by show(xC m n _).length+1=_;rw[qV]
theorem oX (m:Nat):∀(a b i:Nat),fN m (a+b) i=fN m b (fN m a i)
 |0,b,i=>by rw[Nc];rfl
 |a+1,b,i=>by rw[Nat.succ_add];exact oX m a b _
def IT (m:Nat):Bool:=((List.range (m+1)).all fun j=>(xC m (m+1) 0).contains j)&&(fN m (m+1) 0==0)
def Msk (m:Nat):Prop:=m=7\/m=31\/m=127
theorem uD {m:Nat}(h:Msk m):IT m=true:=by rcases h with rfl|rfl|rfl<;>decide +kernel
theorem xD {m j:Nat}(h:Msk m)(hj:j<=m):∃ n,n<=m/\fN m n 0=j:=by have:=uD h;unfold IT at this;simp only[Kh,KJ]at this;have h1:=this.1 j (Kv.mpr (by omega));rw[List.contains_iff_mem,Km]at h1;obtain⟨n,hn⟩:=h1;have hl:=(JY.mp hn).1;rw[qV]at hl;rw[qU m _ _ _ hl]at hn;exact⟨n,by omega,Kq hn⟩
theorem DV {m i j:Nat}(h:Msk m)(hi:i<=m)(hj:j<=m):∃ n,n<=m/\fN m n i=j:=by
 obtain⟨a,ha,ea⟩:=xD h hi;obtain⟨b,hb,eb⟩:=xD h hj;by_cases hab:a<=b
 .refine⟨b-a,by omega,?_⟩;rw[<- ea,<- oX,show a+(b-a)=b by omega,eb]
 .refine⟨m+1+b-a,by omega,?_⟩;have z:=uD h;unfold IT at z;simp only[Kh,LP]at z;rw[<- ea,<- oX,show a+(m+1+b-a)=m+1+b by omega,oX,z.2,eb]
theorem uE (m:Nat):∀(n i:Nat),lp m n (i,0)=(fN m n i,0)
 |0,_=>rfl
 |n+1,i=>by show lp m n (leap m i 0)=_;have:leap m i 0=(f5 m i,0):=rfl;rw[this];exact uE m n _
theorem qW {m j:Nat}(h:Msk m)(hj:j<=m)(p:Nat×Nat)(h1:p.1<=m)(h2:p.2<2 ^ 64):∃ n,13<=n/\n<=m+13/\(lp m n p).1=j:=by
 have hp13:(2:Nat) ^ 64<32 ^ 13:=by decide
 have hq:(lp m 13 p).2=0:=by rw[GN];exact Nat.div_eq_of_lt (by omega)
 obtain⟨n,hn,e⟩:=DV h (CH m 13 p h1) hj;refine⟨13+n,by omega,by omega,?_⟩;rw[xB];have:lp m 13 p=((lp m 13 p).1,0):=by rw[<- hq]
 rw[this,uE];exact e
theorem CI {m j:Nat}(h:Msk m)(hj:j<=m){p:Probe}(v:Va m p):∃ n,n<10*turns m/\(it m n p).j=j:=by obtain⟨L,h1,h2,e⟩:=qW h hj (p.i,p.perturb) v.i v.q;obtain⟨n,hn,en⟩:=qT (L-1) p v;rw[show L-1+1=L by omega]at en hn;refine⟨n,by unfold turns;omega,?_⟩;rw[en];exact e
def Ris (xs:List Nat):Prop:=xs.Pairwise (·< ·)
theorem lC {xs:Array Nat}{j:Nat}(hr:Ris xs.toList):∀(fuel lo hi:Nat),lo<=hi->hi<=xs.size->hi-lo<=fuel->
 (∀ i (h:i<xs.size),i<lo->xs[i]<j)->(∀ i (h:i<xs.size),hi<=i->j<=xs[i])->
 below.go xs j fuel lo hi<=xs.size/\(∀ i (h:i<xs.size),i<below.go xs j fuel lo hi->xs[i]<j)/\∀ i (h:i<xs.size),below.go xs j fuel lo hi<=i->j<=xs[i]
 |0,lo,hi,h1,h2,h3,h4,h5=>by
  have:lo=hi:=by omega
  subst this;exact⟨h2,h4,h5⟩
 |f+1,lo,hi,h1,h2,h3,h4,h5=>by
  have mono:∀ a b (ha:a<xs.size) (hb:b<xs.size),a<=b->xs[a]<=xs[b]:=by
   intro a b ha hb hab;rcases Nat.lt_or_eq_of_le hab with h|h
   .have:=Kn.mp hr a b (by simpa using ha) (by simpa using hb) h;simpa using Mf this
   .subst h;exact J1 _
  unfold below.go;by_cases hc:lo<hi
  .rw[JW hc];have hm:(lo+hi) / 2<xs.size:=by omega
   have eg:xs.getD ((lo+hi) / 2) j=xs[(lo+hi) / 2]:=by simp[Array.getD,hm]
   dsimp only;rw[eg];by_cases hq:xs[(lo+hi) / 2]<j
   .rw[JW hq];refine lC hr f _ _ (by omega) h2 (by omega) (fun i h hi'=>?_) h5;exact Nat.lt_of_le_of_lt (mono i _ h hm (by omega)) hq
   .rw[J0 hq];refine lC hr f _ _ (by omega) (by omega) (by omega) h4 fun i h hi'=>?_;exact Ky (by omega) (mono _ i hm h hi')
  .rw[J0 hc];have:lo=hi:=by omega
   subst this;exact⟨h2,h4,h5⟩
theorem dJ {xs:Array Nat}(j:Nat)(hr:Ris xs.toList):below xs j<=xs.size/\(∀ i (h:i<xs.size),i<below xs j->xs[i]<j)/\∀ i (h:i<xs.size),below xs j<=i->j<=xs[i]:=by unfold below;exact lC hr xs.size 0 xs.size (Kz _) (J1 _) (by omega) (fun i h z=>by omega) fun i h z=>by omega
theorem xE {xs:Array Nat}{i:Nat}(hr:Ris xs.toList)(h:i<xs.size):below xs xs[i]=i:=by
 obtain⟨a,b,c⟩:=dJ xs[i] hr;rcases Mw (below xs xs[i]) i with q|q|q
 .have hb:below xs xs[i]<xs.size:=by omega
  have h1:=c (below xs xs[i]) hb (J1 _);have h2:=Kn.mp hr _ i (by simpa using hb) (by simpa using h) q;simp at h2;omega
 .exact q
 .have:=b i h q;omega
theorem nr (j:Nat):has #[] j=false:=rfl
structure Tb (t:SetTable):Prop where
 msk:Msk t.mask
 dum:t.dummies=#[]
 ris:Ris t.place.toList
 le:∀ j∈t.place.toList,j<=t.mask
theorem nu {t:SetTable}(h:Tb t){i:Nat}(hi:i<t.place.size):t.slot t.place[i]=.live i:=by unfold slot;dsimp only;rw[xE h.ris hi];rw[JW];simp[hi]
theorem tF {t:SetTable}(h:Tb t){j:Nat}(hj:j∉t.place.toList):t.slot j=.empty:=by
 unfold slot;dsimp only;rw[J0,h.dum,nr]
 .rfl
 .intro e;have e:t.place[below t.place j]?=some j:=by simpa using e
  obtain⟨h1,h2⟩:=K0.mp e;exact hj (by rw[<- h2];simp)
theorem tG {t:SetTable}(h:Tb t)(j:Nat):(j∉t.place.toList/\t.slot j=.empty)\/∃ i,∃ hi:i<t.place.size,t.place[i]=j/\t.slot j=.live i:=by
 by_cases hj:j∈t.place.toList
 .right;obtain⟨i,hi,e⟩:=L5.mp hj;have hi':i<t.place.size:=by simpa using hi
  have e':t.place[i]=j:=by simpa using e
  exact⟨i,hi',e',by rw[<- e'];exact nu h hi'⟩
 .exact .inl ⟨hj,tF h hj⟩
def Lv (t:SetTable)(j:Nat):Prop:=j∈t.place.toList
inductive PrSpec (t:SetTable) (ha:Nat->Int) (h:Int) (p:Probe):Option Met->Prop
 |em (n:Nat) (e:¬ Lv t (it t.mask n p).j) (b:∀ k,k<n->∃ i,∃ hi:i<t.place.size,t.place[i]=(it t.mask k p).j/\ha i≠h):PrSpec t ha h p (some (.empty (it t.mask n p).j none))
 |ca (n i:Nat) (hi:i<t.place.size) (e:t.place[i]=(it t.mask n p).j) (q:ha i=h) (b:∀ k,k<n->∃ i,∃ hi:i<t.place.size,t.place[i]=(it t.mask k p).j/\ha i≠h) :
  PrSpec t ha h p (some (.candidate (it t.mask n p).j i (it t.mask (n+1) p)))
theorem qX {t:SetTable}(h:Tb t)(ha:Nat->Int)(x:Int):∀(fuel:Nat)(p:Probe),Va t.mask p->(∃ n,n<fuel/\¬ Lv t (it t.mask n p).j)->PrSpec t ha x p (probe.go t ha x fuel p)
 |0,p,v,⟨n,hn,_⟩=>by omega
 |f+1,p,v,⟨n,hn,he⟩=>by
  unfold probe.go;rcases tG h p.j with⟨h1,e⟩|⟨i,hi,h1,e⟩
  .rw[e];dsimp only;have:=PrSpec.em (t:=t) (ha:=ha) (h:=x) (p:=p) 0 h1 fun k hk=>by omega
   rw[v.d];exact this
  .rw[e];dsimp only;by_cases hq:ha i=x
   .rw[JW (by simpa using hq)];exact PrSpec.ca (t:=t) (ha:=ha) (h:=x) (p:=p) 0 i hi h1 hq fun k hk=>by omega
   .rw[J0 (by simpa using hq),tz];have hn0:n≠0:=by rintro rfl;exact he (by show p.j∈t.place.toList;rw[<- h1];simp)
    have ih:=qX h ha x f (adv t.mask p) v.adv ⟨n-1,by omega,by
     have:it t.mask (n-1) (adv t.mask p)=it t.mask n p:=by show _=it t.mask n p;rw[show n=(n-1)+1 by omega];rfl
     rw[this];exact he⟩
    have shift:∀{nn:Nat},(∀ k,k<nn->∃ i,∃ hi:i<t.place.size,t.place[i]=(it t.mask k (adv t.mask p)).j/\ha i≠x)->∀ k,k<nn+1->∃ i,∃ hi:i<t.place.size,t.place[i]=(it t.mask k p).j/\ha i≠x:=by
     intro nn b k hk;cases k with
     |zero=>exact⟨i,hi,h1,hq⟩
     |succ k=>exact b k (by omega)
    generalize probe.go t ha x f (adv t.mask p)=rr at ih;cases ih with
    |em n' e' b=>exact PrSpec.em (t:=t) (ha:=ha) (h:=x) (p:=p) (n'+1) e' (shift b)
    |ca n' i' hi' e' q' b=>exact PrSpec.ca (t:=t) (ha:=ha) (h:=x) (p:=p) (n'+1) i' hi' e' q' (shift b)
theorem lD:∀(l1 l2:List Nat),l1.Nodup->(∀ x∈l1,x∈l2)->l1.length<=l2.length
 | [],_,_,_=>Kz _
 |a::l1,l2,nd,hs=>by
  have ha:a∈l2:=hs a (Kg ..);have ih:=lD l1 (l2.erase a) (K1.mp nd).2 fun x hx=>by have:x≠a:=fun e=>(K1.mp nd).1 (e▸hx);exact(MH this).mpr (hs x (Kc _ hx))
  rw[Mi ha]at ih;have:0<l2.length:=Ms ha;simp only[KD];omega
theorem lE {t:SetTable}(h:Tb t)(hs:t.place.size<=t.mask):∃ j,j<=t.mask/\¬ Lv t j:=by refine KL fun hn=>?_;have hall:∀ j,j<=t.mask->j∈t.place.toList:=fun j hj=>KL fun z=>hn ⟨j,hj,z⟩;have:=lD (List.range (t.mask+1)) t.place.toList L_ fun j hj=>hall j (by have:=Kv.mp hj;omega);simp at this;omega
theorem tH {t:SetTable}(h:Tb t)(hs:t.place.size<=t.mask)(ha:Nat->Int)(x:Int){p:Probe}(v:Va t.mask p):PrSpec t ha x p (t.probe ha x p):=by obtain⟨j,hj,hn⟩:=lE h hs;obtain⟨n,h1,h2⟩:=CI h.msk hj v;unfold probe;exact qX h ha x _ p v ⟨n,h1,by rw[h2];exact hn⟩
def Rea (m:Nat)(lv:Nat->Prop)(h:Int)(j:Nat):Prop:=∃ n,(it m n (st m h)).j=j/\∀ k,k<n->lv (it m k (st m h)).j
theorem Rea.mono {m:Nat}{lv lv':Nat->Prop}{h:Int}{j:Nat}(r:Rea m lv h j)(s:∀ j,lv j->lv' j):Rea m lv' h j:=let ⟨n,e,b⟩:=r;⟨n,e,fun k hk=>s _ (b k hk)⟩
structure Tbl {V:Type} (t:SetTable) (es:Array (Int×V)):Prop where
 tb:Tb t
 len:t.place.size=es.size
 rea:∀ q∈t.place.toList.zip es.toList,Rea t.mask (·∈ t.place.toList) q.2.1 q.1
def nv (t:SetTable):Prop:=t.place.size*5<t.mask*3
theorem insertAt_toList {α:Type}(xs:Array α)(p:Nat)(x:α)(h:p<=xs.size):(insertAt xs p x).toList=xs.toList.take p++x::xs.toList.drop p:=by unfold insertAt;simp[Array.toList_extract,List.extract_eq_drop_take,List.take_of_length_le]
theorem insertAt_size {α:Type}(xs:Array α)(p:Nat)(x:α)(h:p<=xs.size):(insertAt xs p x).size=xs.size+1:=by rw[<- Ld,insertAt_toList xs p x h];simp;omega
theorem oY {t:SetTable}(h:Tb t)(j:Nat):(t.put j).1={ t with place:=insertAt t.place (below t.place j) j }:=by unfold put;dsimp only;rw[h.dum];have:has #[] j=false:=nr j;rw[J0 (by rw[this];simp),<- h.dum]
theorem uF (t:SetTable)(j:Nat):(t.put j).2=below t.place j:=rfl
theorem tI {α β:Type}(xs:List α)(ys:List β)(p:Nat)(x:α)(y:β)(h:xs.length=ys.length):(xs.take p++x::xs.drop p).zip (ys.take p++y::ys.drop p)=(xs.zip ys).take p++(x,y)::(xs.zip ys).drop p:=by rw[List.zip_append (by simp[h]),List.zip_cons_cons];simp[List.zip,List.take_zipWith,List.drop_zipWith]
theorem DW {V:Type}{t:SetTable}{es:Array (Int×V)}(h:Tbl t es){j:Nat}(hj:j∉t.place.toList)(hjm:j<=t.mask){hh:Int}{v:V}(r:Rea t.mask (·∈ t.place.toList) hh j) :
 Tbl (t.put j).1 (insertAt es (t.put j).2 (hh,v))/\(t.put j).1.mask=t.mask/\(t.put j).1.place.size=t.place.size+1:=by
 obtain⟨a,b,c⟩:=dJ j h.tb.ris;rw[oY h.tb,uF];have ae:below t.place j<=es.size:=by rw[<- h.len];exact a
 have el:=insertAt_toList t.place _ j a;have ee:=insertAt_toList es (below t.place j) (hh,v) ae;have mem:∀ k,k∈(insertAt t.place (below t.place j) j).toList↔k=j\/k∈t.place.toList:=by
  intro k;rw[el,Kf,J5];constructor
  .rintro (z|rfl|z)
   .exact .inr (Lm z)
   .exact .inl rfl
   .exact .inr (L6 z)
  .rintro (rfl|z)
   .exact .inr (.inl rfl)
   .rw[<- LV (below t.place j) t.place.toList,Kf]at z;exact z.elim .inl fun z=>.inr (.inr z)
 refine⟨⟨⟨h.tb.msk,h.tb.dum,?_,fun k hk=>?_⟩,?_,fun q hq=>?_⟩,rfl,insertAt_size _ _ _ a⟩
 .show Ris (insertAt t.place (below t.place j) j).toList;rw[el];unfold Ris;rw[MI];refine⟨h.tb.ris.sublist (List.take_sublist _ _),?_,?_⟩
  .rw[Lj];refine⟨fun k hk=>?_,h.tb.ris.sublist (List.drop_sublist _ _)⟩;obtain⟨i,hi,e⟩:=L5.mp hk;rw[List.length_drop]at hi;have hi2:below t.place j+i<t.place.size:=by simp at hi;omega
   have e2:t.place[below t.place j+i]=k:=by rw[<- e];simp
   have:=c _ hi2 (by omega);rw[e2]at this;have:k≠j:=fun z=>hj (by rw[<- z,<- e2];simp);omega
  .intro k hk l hl;obtain⟨i,hi,e⟩:=L5.mp hk;rw[LM]at hi;have hi2:i<t.place.size:=by simp at hi;omega
   have e2:t.place[i]=k:=by rw[<- e];simp
   have l1:=b i hi2 (by omega);rw[e2]at l1;rw[J5]at hl;rcases hl with rfl|hl
   .exact l1
   .obtain⟨i',hi',e'⟩:=L5.mp hl;rw[List.length_drop]at hi';have hi3:below t.place j+i'<t.place.size:=by simp at hi';omega
    have e3:t.place[below t.place j+i']=l:=by rw[<- e'];simp
    have:=c _ hi3 (by omega);rw[e3]at this;omega
 .rcases (mem k).mp hk with rfl|z
  .exact hjm
  .exact h.tb.le k z
 .show(insertAt t.place (below t.place j) j).size=_;rw[insertAt_size _ _ _ a,insertAt_size _ _ _ ae,h.len]
 .have hq:q∈(insertAt t.place (below t.place j) j).toList.zip (insertAt es (below t.place j) (hh,v)).toList:=hq;rw[el,ee,tI _ _ _ _ _ (by simpa using h.len)]at hq;have sub:∀ k,k∈t.place.toList->k∈(insertAt t.place (below t.place j) j).toList:=fun k hk=>(mem k).mpr (.inr hk);rw[Kf,J5]at hq;rcases hq with z|rfl|z
  .exact(h.rea q (Lm z)).mono sub
  .exact r.mono sub
  .exact(h.rea q (L6 z)).mono sub
def ow (owner:Array (Option Nat))(j:Nat):Prop:=∃ k,owner[j]?=some (some k)
theorem oZ {m:Nat}(i q:Nat):∀ k,k<=runEnd m i-i->it m k (rs m (i,q))={ j:=i+k,more:=runEnd m i-i-k,i:=i,perturb:=q,dummy:=none }
 |0,_=>rfl
 |k+1,h=>by rw[AQ,oZ i q k (by omega)];unfold adv;rw[JW (by dsimp only;omega)];dsimp only;congr 1
theorem nw {m:Nat}{owner:Array (Option Nat)}(hs:owner.size=m+1):∀(fuel i q:Nat),i<=m->q<2 ^ 64->(∃ L,L<fuel/\¬ ow owner (lp m L (i,q)).1)->
 ∃ j,layClean.free m owner fuel i q=some j/\j<=m/\¬ ow owner j/\∃ n,(it m n (rs m (i,q))).j=j/\∀ k,k<n->ow owner (it m k (rs m (i,q))).j
 |0,i,q,_,_,⟨L,h,_⟩=>by omega
 |f+1,i,q,hi,hq,⟨L,hL,hn⟩=>by
  obtain⟨r1,r2⟩:=il m i hi;have hre:runEnd m i+1-i=(runEnd m i-i)+1:=by
   have:i<=runEnd m i:=by unfold runEnd;split<;>omega
   omega
  have isn:∀ k,k<=runEnd m i-i->((owner.getD (i+k) (some 0)).isNone=true↔¬ ow owner (i+k)):=by
   intro k hk;have hb:i+k<owner.size:=by omega
   have e:owner[i+k]?=some owner[i+k]:=by simp[hb]
   have e2:owner.getD (i+k) (some 0)=owner[i+k]:=by simp[Array.getD,hb]
   unfold ow;rw[e2,e];cases owner[i+k]<;>simp
  unfold layClean.free;cases hf:(List.range (runEnd m i+1-i)).find? fun k=>(owner.getD (i+k) (some 0)).isNone with
  |some k=>
   dsimp only;rw[List.find?_range_eq_some]at hf;obtain⟨h1,h2,h3⟩:=hf;have h2:=Kv.mp h2;have hk:k<=runEnd m i-i:=by omega
   refine⟨i+k,rfl,by omega,(isn k hk).mp h1,k,by rw[oZ i q k hk],fun k' hk'=>?_⟩;rw[oZ i q k' (by omega)];have:=h3 k' hk';refine KL fun z=>?_;rw[(isn k' (by omega)).mpr z]at this;simp at this
  |none=>
   dsimp only;rw[List.find?_range_eq_none]at hf;have hrun:∀ k,k<=runEnd m i-i->ow owner (i+k):=by intro k hk;refine KL fun z=>?_;have:=hf k (by omega);rw[(isn k hk).mpr z]at this;simp at this
   have hL0:L≠0:=by rintro rfl;exact hn (hrun 0 (Kz _))
   have ih:=nw hs f (leap m i q).1 (leap m i q).2 (oW m i q) (by rw[tE];have:=Nat.div_le_self q 32;omega) ⟨L-1,by omega,by
    have:lp m L (i,q)=lp m (L-1) (leap m i q):=by rw[show L=(L-1)+1 by omega];rfl
    rw[this]at hn;exact hn⟩
   obtain⟨j,e,hj,hnj,n,en,hb⟩:=ih;refine⟨j,e,hj,hnj,runEnd m i-i+1+n,?_,fun k hk=>?_⟩
   .rw[de,iM (runEnd m i-i) (rs m (i,q)) rfl (Va.rs hi hq)];exact en
   .by_cases hk2:k<=runEnd m i-i
    .rw[oZ i q k hk2];exact hrun k hk2
    .have:it m k (rs m (i,q))=it m (k-(runEnd m i-i+1)) (rs m (leap m i q)):=by rw[show k=(runEnd m i-i+1)+(k-(runEnd m i-i+1)) by omega,de,iM (runEnd m i-i) (rs m (i,q)) rfl (Va.rs hi hq)];congr 1;omega
     rw[this];exact hb _ (by omega)
structure Own (m:Nat) (hs:List Int) (owner:Array (Option Nat)):Prop where
 size:owner.size=m+1
 all:∀ k:Nat,k<hs.length->∃ j:Nat,owner[j]?=some (some k)
 lt:∀ j k:Nat,owner[j]?=some (some k)->k<hs.length
 rea:∀(j k:Nat)(h:Int),owner[j]?=some (some k)->hs[k]?=some h->Rea m (ow owner) h j
 inj:∀ j j' k:Nat,owner[j]?=some (some k)->owner[j']?=some (some k)->j=j'
theorem Own.spare {m:Nat}{hs:List Int}{owner:Array (Option Nat)}(o:Own m hs owner)(hl:hs.length<=m):∃ j,j<=m/\¬ ow owner j:=by
 refine KL fun hn=>?_;have hall:∀ j,j<=m->ow owner j:=fun j hj=>KL fun z=>hn ⟨j,hj,z⟩
 let g:Nat->Nat:=fun j=>((owner[j]?).getD none).getD 0
 have hg:∀ j,j<=m->owner[j]?=some (some (g j)):=fun j hj=>by obtain⟨k,hk⟩:=hall j hj;show owner[j]?=some (some (((owner[j]?).getD none).getD 0));rw[hk];rfl
 have nd:((List.range (m+1)).map g).Nodup:=by unfold List.Nodup;rw[Lq];have:=L_ (n:=m+1);refine Lk (fun{a b} ha hb hab e=>hab ?_) this;have ha:=Kv.mp ha;have hb:=Kv.mp hb;exact o.inj a b (g a) (hg a (by omega)) (by rw[e];exact hg b (by omega))
 have:=lD _ (List.range hs.length) nd fun x hx=>by obtain⟨j,hj,rfl⟩:=J8.mp hx;have hj:=Kv.mp hj;exact Kv.mpr (o.lt j _ (hg j (by omega)))
 simp at this;omega
theorem xF {m:Nat}(hm:Msk m){hs:List Int}{owner:Array (Option Nat)}(o:Own m hs owner)(hl:hs.length<=m)(h:Int) :
 ∃ j,layClean.free m owner (turns m) (bits h % (m+1)) (bits h)=some j/\Own m (hs++[h]) (owner.setIfInBounds j (some hs.length)):=by
 obtain⟨j0,hj0,hn0⟩:=o.spare hl;have hi:bits h % (m+1)<=m:=MX (Nat.mod_lt _ (Nat.succ_pos m));obtain⟨L,l1,l2,el⟩:=qW hm hj0 (bits h % (m+1),bits h) hi (oV h);obtain⟨j,e,hj,hnj,n,en,hb⟩:=nw o.size (turns m) _ _ hi (oV h) ⟨L,by unfold turns;omega,by rw[el];exact hn0⟩;refine⟨j,e,?_⟩;have hjb:j<owner.size:=by rw[o.size];omega
 have get:∀ i,(owner.setIfInBounds j (some hs.length))[i]?=if i=j then some (some hs.length) else owner[i]?:=by
  intro i;rw[Array.getElem?_setIfInBounds];by_cases hij:j=i
  .subst hij;rw[JW rfl,JW hjb,JW rfl]
  .rw[J0 hij,J0 (fun z=>hij z.symm)]
 have sub:∀ i,ow owner i->ow (owner.setIfInBounds j (some hs.length)) i:=by
  rintro i ⟨k,hk⟩;by_cases hij:i=j
  .exact⟨_,by rw[get,JW hij]⟩
  .exact⟨k,by rw[get,J0 hij];exact hk⟩
 have inv:∀ i k,(owner.setIfInBounds j (some hs.length))[i]?=some (some k)->(i=j/\k=hs.length)\/(i≠j/\owner[i]?=some (some k)):=by
  intro i k hk;rw[get]at hk;by_cases hij:i=j
  .rw[JW hij]at hk;exact .inl ⟨hij,by simpa using hk.symm⟩
  .rw[J0 hij]at hk;exact .inr ⟨hij,hk⟩
 refine⟨by rw[Array.size_setIfInBounds,o.size],fun k hk=>?_,fun i k hk=>?_,fun i k h' hk hh=>?_,fun i i' k h1 h2=>?_⟩
 .rw[Kp,Lh]at hk;by_cases hkl:k=hs.length
  .exact⟨j,by rw[get,JW rfl,hkl]⟩
  .obtain⟨i,hi⟩:=o.all k (by omega);refine⟨i,?_⟩;rw[get,J0]
   .exact hi
   .rintro rfl;exact hnj ⟨k,hi⟩
 .rw[Kp,Lh];rcases inv i k hk with⟨_,rfl⟩|⟨_,z⟩
  .omega
  .have:=o.lt i k z;omega
 .rcases inv i k hk with⟨rfl,rfl⟩|⟨hij,z⟩
  .rw[Ke (J1 _),Nat.sub_self]at hh;cases hh;exact⟨n,en,fun k hk=>sub _ (hb k hk)⟩
  .have hkl:=o.lt i k z;rw[Ka hkl]at hh;exact(o.rea i k h' z hh).mono sub
 .rcases inv i k h1 with⟨rfl,rfl⟩|⟨hij,z⟩<;>rcases inv i' _ h2 with⟨rfl,e'⟩|⟨hij',z'⟩
  .rfl
  .have:=o.lt _ _ z';omega
  .have:=o.lt _ _ z;omega
  .exact o.inj i i' k z z'
theorem xG {m:Nat}(hm:Msk m):∀(suf pre:List Int)(owner:Array (Option Nat)),Own m pre owner->pre.length+suf.length<=m->
 ∃ owner',suf.foldl (fun acc h=>do
  let (owner,k) <- acc
  let j <- layClean.free m owner (turns m) (bits h % (m+1)) (bits h)
  pure (owner.setIfInBounds j (some k),k+1)) (some (owner,pre.length))=some (owner',pre.length+suf.length)/\Own m (pre++suf) owner'
 | [],pre,owner,o,_=>⟨owner,rfl,by rw[Ls];exact o⟩
 |h::suf,pre,owner,o,hl=>by simp only[KD]at hl;obtain⟨j,e,o'⟩:=xF hm o (by omega) h;obtain⟨owner',e2,o2⟩:=xG hm suf (pre++[h]) _ o' (by simp;omega);refine⟨owner',?_,by rw[L0]at o2;exact o2⟩;rw[K_];show List.foldl _ ((layClean.free m owner (turns m) (bits h % (m+1)) (bits h)).bind fun j=>some (owner.setIfInBounds j (some pre.length),pre.length+1)) suf=_;rw[e];show List.foldl _ (some (owner.setIfInBounds j (some pre.length),pre.length+1)) suf=_;rw[Kp,Lh]at e2;rw[e2];simp only[KD];congr 2;omega
theorem DX {m:Nat}(hm:Msk m)(hs:Array Int)(hl:hs.size<=m):∃ owner,layClean m hs=some owner/\Own m hs.toList owner:=by
 have o0:Own m [] (Array.replicate (m+1) none):=by
  have no:∀ j k:Nat,(Array.replicate (m+1) (none:Option Nat))[j]?=some (some k)->False:=by intro j k h;rw[Array.getElem?_replicate]at h;split at h<;>simp at h
  exact⟨by simp,fun k hk=>by simp at hk,fun j k h=>(no j k h).elim,fun j k _ h=>(no j k h).elim,fun j _ k h=>(no j k h).elim⟩
 obtain⟨owner,e,o⟩:=xG hm hs.toList [] _ o0 (by simpa using hl);refine⟨owner,?_,by simpa using o⟩;unfold layClean;rw[<- Array.foldl_toList];rw[LB]at e;rw[e];rfl
theorem xH {α:Type}(es:Array α):∀(l:List Nat),(∀ k∈l,k<es.size)->(l.filterMap (es[·]?)).length=l.length/\∀ i:Nat,(l.filterMap (es[·]?))[i]?=(l[i]?).bind (es[·]?)
 | [],_=>⟨rfl,fun i=>by simp⟩
 |k::l,h=>by
  have hk:k<es.size:=h k (Kg ..);have e:es[k]?=some es[k]:=by simp[hk]
  obtain⟨a,b⟩:=xH es l fun k hk=>h k (Kc _ hk);rw[Ll e];refine⟨by simp[a],fun i=>?_⟩;cases i with
  |zero=>simp[e]
  |succ i=>simpa using b i
theorem lF (o:Nat->Option Nat):∀ l:List Nat,(l.filterMap fun j=>(o j).map (j,·)).map Prod.fst=l.filter fun j=>(o j).isSome
 | []=>rfl
 |j::l=>by
  rw[Md,MF];cases e:o j with
  |none=>simpa using lF o l
  |some k=>simpa using lF o l
theorem xI (owner:Array (Option Nat))(m:Nat)(hs:owner.size=m+1)(j k:Nat):(j,k)∈((List.range (m+1)).filterMap fun j=>(owner.getD j none).map (j,·))↔owner[j]?=some (some k):=by
 rw[Mo];constructor
 .rintro⟨a,h1,h2⟩;have h1:=Kv.mp h1;have hb:a<owner.size:=by omega
  have e:owner.getD a none=owner[a]:=by simp[Array.getD,hb]
  rw[e]at h2;obtain⟨k',e1,e2⟩:=Kw.mp h2;cases e2;rw[show owner[j]?=some owner[j] by simp[hb],e1]
 .intro h;obtain⟨hb,e⟩:=K0.mp h;refine⟨j,Kv.mpr (by omega),?_⟩;have e2:owner.getD j none=owner[j]:=by simp[Array.getD,hb]
  rw[e2,e];rfl
structure Laid {V:Type} (m:Nat) (es es':Array (Int×V)) (t':SetTable):Prop where
 tbl:Tbl t' es'
 mask:t'.mask=m
 size:es'.size=es.size
 mem:∀ x,x∈es'.toList↔x∈es.toList
 pw:∀ R:Int×V->Int×V->Prop,(∀ x y,R x y->R y x)->es.toList.Pairwise R->es'.toList.Pairwise R
theorem AR {V:Type}{m:Nat}(hm:Msk m)(es:Array (Int×V))(hl:es.size<=m)(finger moves:Nat)(led plain:Bool) :
 ∃ t' order,laid m finger moves led plain (es.map (·.1))=some (t',order)/\Laid m es (order.filterMap (es[·]?)) t'/\t'.led=led/\t'.plain=plain:=by
 obtain⟨owner,eo,o⟩:=DX hm (es.map (·.1)) (by simpa using hl);have len:(es.map (·.1)).toList.length=es.size:=by simp
 let live:=(List.range (m+1)).filterMap fun j=>(owner.getD j none).map (j,·)
 have lm:∀ j k,(j,k)∈live↔owner[j]?=some (some k):=xI owner m o.size;have ris:Ris (live.map Prod.fst):=by show Ris (((List.range (m+1)).filterMap fun j=>(owner.getD j none).map (j,·)).map Prod.fst);rw[lF];exact List.pairwise_lt_range.sublist (List.filter_sublist)
 have ndS:(live.map Prod.snd).Nodup:=by unfold List.Nodup;unfold Ris at ris;rw[Lq]at ris ⊢;refine Lk (fun{a b} ha hb hab e=>?_) ris;have h1:=(lm a.1 a.2).mp ha;have h2:=(lm b.1 b.2).mp hb;rw[<- e]at h2;have:=o.inj _ _ _ h1 h2;omega
 have lt:∀ k∈live.map Prod.snd,k<es.size:=by
  intro k hk;obtain⟨p,hp,rfl⟩:=J8.mp hk;have:=o.lt p.1 p.2 ((lm p.1 p.2).mp hp)
  rwa [len]at this
 have all:∀ k,k<es.size->k∈live.map Prod.snd:=by intro k hk;obtain⟨j,hj⟩:=o.all k (by rw[len];exact hk);exact J8.mpr ⟨(j,k),(lm j k).mpr hj,rfl⟩
 have ll:live.length=es.size:=by have a:=lD _ (List.range es.size) ndS fun k hk=>Kv.mpr (lt k hk);have b:=lD (List.range es.size) (live.map Prod.snd) L_ fun k hk=>all k (Kv.mp hk);simp at a b;omega
 obtain⟨f1,f2⟩:=xH es (live.map Prod.snd) lt;refine⟨{ mask:=m,place:=(live.map (·.1)).toArray,dummies:=#[],finger,led,moves,plain },(live.map (·.2)).toArray,?_,?_,rfl,rfl⟩
 .unfold laid;rw[eo];rfl
 .have el:((live.map (·.2)).toArray.filterMap (es[·]?)).toList=(live.map Prod.snd).filterMap (es[·]?):=by simp
  have es':((live.map (·.2)).toArray.filterMap (es[·]?)).size=es.size:=by rw[<- Ld,el,f1,JU,ll]
  refine⟨⟨⟨hm,rfl,by simpa using ris,fun j hj=>?_⟩,?_,fun q hq=>?_⟩,rfl,es',fun x=>?_,fun R sy pw=>?_⟩
  .have hj:j∈live.map Prod.fst:=by simpa using hj
   obtain⟨p,hp,rfl⟩:=J8.mp hj;obtain⟨hb,_⟩:=K0.mp ((lm p.1 p.2).mp hp);show p.1<=m;have:=o.size;omega
  .rw[es'];simpa using ll
  .have hq:q∈(live.map Prod.fst).zip ((live.map Prod.snd).filterMap (es[·]?)):=by rw[el]at hq;simpa using hq
   obtain⟨i,hi⟩:=Km.mp hq;rw[L7,f2]at hi;obtain⟨h1,h2⟩:=hi;rw[J9]at h1 h2;obtain⟨p,hp,e1⟩:=Kw.mp h1;rw[hp]at h2;have h2:es[p.2]?=some q.2:=h2;have ho:=(lm p.1 p.2).mp (Km.mpr ⟨i,hp⟩);have hh:(es.map (·.1)).toList[p.2]?=some q.2.1:=by rw[KC,Array.getElem?_map,h2];rfl
   rw[<- e1];refine(o.rea p.1 p.2 q.2.1 ho hh).mono fun j ⟨k,hk⟩=>?_;show j∈(live.map (·.1)).toArray.toList;simpa using ⟨k,(lm j k).mpr hk⟩
  .rw[el];constructor
   .intro hx;obtain⟨k,_,h2⟩:=Mo.mp hx;exact Km.mpr ⟨k,by rw[KC];exact h2⟩
   .intro hx;obtain⟨k,hk⟩:=Km.mp hx;have hb:k<es.size:=by have:=(JY.mp hk).1;simpa using this
    exact Mo.mpr ⟨k,all k hb,by rw[KC]at hk;exact hk⟩
  .rw[el];rw[Kn];intro a b ha hb hab;have ea:=f2 a;have eb:=f2 b;rw[KA ha]at ea;rw[KA hb]at eb;rw[f1]at ha hb;rw[KA ha]at ea;rw[KA hb]at eb;have hne:(live.map Prod.snd)[a]≠(live.map Prod.snd)[b]:=Kn.mp ndS a b ha hb hab;have ea:es[(live.map Prod.snd)[a]]?=some _:=ea.symm;have eb:es[(live.map Prod.snd)[b]]?=some _:=eb.symm;obtain⟨ka,va⟩:=K0.mp ea;obtain⟨kb,vb⟩:=K0.mp eb;have P:=Kn.mp pw;rw[<- va,<- vb];rcases MS hne with z|z
   .simpa using P _ _ (by simpa using ka) (by simpa using kb) z
   .refine sy _ _ ?_;simpa using P _ _ (by simpa using kb) (by simpa using ka) z
end ST
namespace ST
open PySem PySem.W PyProof.Rows
structure Lt (N:Nat) (lt:Nat->Nat->Bool):Prop where
 irr:∀ i,lt i i=false
 tr:∀ i j k,lt i j=true->lt j k=true->lt i k=true
 tot:∀ i j,i<N->j<N->i≠j->lt i j=true\/lt j i=true
noncomputable abbrev Jy:=Nat->Nat->(Bool->Nf->Prop)->Nf->Prop
def CJ (N:Nat)(lt:Nat->Nat->Bool)(cmp:Jy)(s:Nf):Prop:=∀ i j C,i<N->j<N->C (lt i j) s->cmp i j C s
def Pm (N:Nat)(p:Array Nat):Prop:=p.toList.Perm (List.range N)
noncomputable def bX (p:Array Nat)(i:Nat):Nat:=p.getD i 0
section
variable {N:Nat}{lt:Nat->Nat->Bool}{cmp:Jy}{s:Nf}{p:Array Nat}
theorem Pm.size (h:Pm N p):p.size=N:=by have:=h.length_eq;simpa using this
theorem Pm.perm {p':Array Nat}(h:Pm N p)(q:p'.Perm p):Pm N p':=(Array.perm_iff_toList_perm.mp q).trans h
theorem DY {i:Nat}(hi:i<p.size):p[i]?=some (bX p i):=by unfold bX;simp[Array.getD,hi]
theorem qY {p':Array Nat}{i k:Nat}(h:p'[i]?=p[k]?):bX p' i=bX p k:=by unfold bX;rw[Array.getD_eq_getD_getElem?,Array.getD_eq_getD_getElem?,h]
theorem Pm.bd (h:Pm N p){i:Nat}(hi:i<N):bX p i<N:=by
 have hi':i<p.size:=by rw[h.size];exact hi
 have:bX p i∈p.toList:=Km.mpr ⟨i,by rw[KC];exact DY hi'⟩;exact Kv.mp (h.mem_iff.mp this)
theorem Pm.ne (h:Pm N p){i j:Nat}(hi:i<N)(hj:j<N)(e:i≠j):bX p i≠bX p j:=by
 have nd:p.toList.Nodup:=h.nodup_iff.mpr L_;have hi':i<p.size:=by rw[h.size];exact hi
 have hj':j<p.size:=by rw[h.size];exact hj
 have gi:p.toList[i]'(by simpa using hi')=bX p i:=by simp[bX,Array.getD,hi']
 have gj:p.toList[j]'(by simpa using hj')=bX p j:=by simp[bX,Array.getD,hj']
 intro z;rcases MS e with q|q
 .exact Kn.mp nd i j (by simpa using hi') (by simpa using hj') q (by rw[gi,gj];exact z)
 .exact Kn.mp nd j i (by simpa using hj') (by simpa using hi') q (by rw[gi,gj];exact z.symm)
def So (lt:Nat->Nat->Bool)(p:Array Nat)(k:Nat):Prop:=∀ a b,a<b->b<k->lt (bX p a) (bX p b)=true
def De (lt:Nat->Nat->Bool)(p:Array Nat)(k:Nat):Prop:=∀ a b,a<b->b<k->lt (bX p b) (bX p a)=true
theorem Lt.of_not (o:Lt N lt){i j:Nat}(hi:i<N)(hj:j<N)(e:i≠j)(h:lt i j=false):lt j i=true:=by
 rcases o.tot i j hi hj e with z|z
 .rw[h]at z;cases z
 .exact z
theorem So.snoc (o:Lt N lt){k:Nat}(h:So lt p k)(hk:1<=k)(l:lt (bX p (k-1)) (bX p k)=true):So lt p (k+1):=by
 intro a b hab hb;by_cases e:b=k
 .subst e;by_cases e2:a=b-1
  .rw[e2];exact l
  .exact o.tr _ _ _ (h a (b-1) (by omega) (by omega)) l
 .exact h a b hab (by omega)
theorem De.snoc (o:Lt N lt){k:Nat}(h:De lt p k)(hk:1<=k)(l:lt (bX p k) (bX p (k-1))=true):De lt p (k+1):=by
 intro a b hab hb;by_cases e:b=k
 .subst e;by_cases e2:a=b-1
  .rw[e2];exact l
  .exact o.tr _ _ _ l (h a (b-1) (by omega) (by omega))
 .exact h a b hab (by omega)
theorem tJ (o:Lt N lt)(an:CJ N lt cmp s)(pm:Pm N p):∀(f n:Nat){Q:Nat->Nf->Prop},1<=n->n+f=N->So lt p n->
 (∀ m,n<=m->m<=N->So lt p m->(m<N->lt (bX p m) (bX p (m-1))=true)->Q m s)->(kas_asc p f n).kasWp cmp Q s
 |0,n,Q,h1,h2,h3,k=>k n (J1 _) (by omega) h3 fun z=>by omega
 |f+1,n,Q,h1,h2,h3,k=>by
  refine an _ _ _ (pm.bd (by omega)) (pm.bd (by omega)) ?_;show KasT.kasWp cmp (if lt (bX p n) (bX p (n-1))=true then .ret n else kas_asc p f (n+1)) Q s;by_cases c:lt (bX p n) (bX p (n-1))=true
  .rw[JW c];exact k n (J1 _) (by omega) h3 fun _=>c
  .rw[J0 c];have c:lt (bX p n) (bX p (n-1))=false:=by simpa using c
   exact tJ o an pm f (n+1) (by omega) (by omega) (h3.snoc o h1 (o.of_not (pm.bd (by omega)) (pm.bd (by omega)) (pm.ne (by omega) (by omega) (by omega)) c)) fun m a b c d=>k m (by omega) b c d
theorem uG (o:Lt N lt)(an:CJ N lt cmp s)(pm:Pm N p):∀(f n:Nat){Q:Array Nat×Nat×Nat->Nf->Prop},1<=n->n+f=N->De lt p n->
 (∀ m,n<=m->m<=N->De lt p m->Q (p,m,0) s)->(kas_desc f p n 0).kasWp cmp Q s
 |0,n,Q,h1,h2,h3,k=>k n (J1 _) (by omega) h3
 |f+1,n,Q,h1,h2,h3,k=>by
  refine an _ _ _ (pm.bd (by omega)) (pm.bd (by omega)) ?_;show KasT.kasWp cmp (if lt (bX p n) (bX p (n-1))=true then (if 0>0 then kas_desc f (kas_rev p (n-(0+1)) n) (n+1) 0 else kas_desc f p (n+1) 0)
   else .ask (bX p (n-1)) (bX p n) fun d=>if d=true then .ret (p,n,0) else kas_desc f p (n+1) (0+1)) Q s
  by_cases c:lt (bX p n) (bX p (n-1))=true
  .rw[JW c,J0 (by omega)];exact uG o an pm f (n+1) (by omega) (by omega) (h3.snoc o h1 c) fun m a b c=>k m (by omega) b c
  .rw[J0 c];have c:lt (bX p n) (bX p (n-1))=false:=by simpa using c
   refine an _ _ _ (pm.bd (by omega)) (pm.bd (by omega)) ?_;rw[o.of_not (pm.bd (by omega)) (pm.bd (by omega)) (pm.ne (by omega) (by omega) (by omega)) c];show KasT.kasWp cmp (if true=true then _ else _) Q s;rw[JW rfl];exact k n (J1 _) (by omega) h3
theorem xJ (n:Nat)(hn:n<=p.size)(k:Nat):bX (kas_rev p 0 n) k=if k<n then bX p (n-1-k) else bX p k:=by
 have e:=getElem?_mirror_all (xs:=p) (i:=0) hn k;unfold kas_rev;by_cases h:k<n
 .rw[JW h];rw[JW ⟨Kz _,h⟩,Nc]at e;exact qY e
 .rw[J0 h];rw[J0 (by omega)]at e;exact qY e
theorem xK (o:Lt N lt)(an:CJ N lt cmp s)(pm:Pm N p){n:Nat}{Q:Nat×Array Nat->Nf->Prop}(h1:1<=n)(hn:n<=N)(hd:De lt p n)
 (k:∀ m p',1<=m->m<=N->Pm N p'->So lt p' m->Q (m,p') s):(kas_tail3 n N p).kasWp cmp Q s:=by
 unfold kas_tail3;rw[Mp];have pm':Pm N (kas_rev p 0 n):=pm.perm (mirror_perm _ _ _ _);refine tJ o an pm' (N-n) n h1 (by omega) ?_ fun m a b c _=>k m _ (by omega) b pm' c;intro a b hab hb;rw[xJ n (by rw[pm.size];exact hn),xJ n (by rw[pm.size];exact hn),JW (by omega),JW hb];exact hd _ _ (by omega) (by omega)
theorem xL (o:Lt N lt)(an:CJ N lt cmp s)(pm:Pm N p){Q:Nat×Array Nat->Nf->Prop}(h2:2<=N)
 (k:∀ m p',1<=m->m<=N->Pm N p'->So lt p' m->Q (m,p') s):(kas_count N p).kasWp cmp Q s:=by
 unfold kas_count;rw[Mp];refine tJ o an pm (N-1) 1 (J1 _) (by omega) (fun a b hab hb=>by omega) fun m a b c d=>?_;by_cases e:m=N
 .rw[JW (by simpa using e)];exact k m p a b pm c
 .rw[J0 (by simpa using e)];by_cases hm:m>1
  .rw[JW hm];refine an _ _ _ (pm.bd (by omega)) (pm.bd (by omega)) ?_;have:lt (bX p 0) (bX p (m-1))=true:=c 0 (m-1) (by omega) (by omega);show KasT.kasWp cmp (if lt (bX p 0) (bX p (m-1))=true then _ else _) Q s;rw[JW this];exact k m p a b pm c
  .rw[J0 hm];have hm1:m=1:=by omega
   subst hm1;unfold kas_descPart;rw[Mp];have l:=d (by omega);refine uG o an pm (N-(1+1)) (1+1) (by omega) (by omega) (fun a b hab hb=>?_) fun m' a' b' c'=>?_
   .have:a=0:=by omega
    have:b=1:=by omega
    subst_vars
    exact l
   .show KasT.kasWp cmp (if 0>0 then _ else kas_tail3 m' N p) Q s;rw[J0 (by omega)];exact xK o an pm (by omega) b' c' k
theorem lG (o:Lt N lt)(an:CJ N lt cmp s)(pm:Pm N p){i:Nat}(hi:i<N)(so:So lt p i):∀(f l r:Nat){Q:Nat->Nf->Prop},l<=r->r<=i->r-l<=f->
 (∀ a,a<l->lt (bX p a) (bX p i)=true)->(∀ a,r<=a->a<i->lt (bX p i) (bX p a)=true)->
 (∀ m,m<=i->(∀ a,a<m->lt (bX p a) (bX p i)=true)->(∀ a,m<=a->a<i->lt (bX p i) (bX p a)=true)->Q m s)->(kas_place p i f l r).kasWp cmp Q s
 |0,l,r,Q,h1,h2,h3,h4,h5,k=>k l (by omega) h4 fun a x y=>h5 a (by omega) y
 |f+1,l,r,Q,h1,h2,h3,h4,h5,k=>by
  unfold kas_place;by_cases c:l>=r
  .rw[JW c];exact k l (by omega) h4 fun a x y=>h5 a (by omega) y
  .rw[J0 c];refine an _ _ _ (pm.bd hi) (pm.bd (by omega)) ?_;show KasT.kasWp cmp (if lt (bX p i) (bX p ((l+r) / 2))=true then _ else _) Q s;by_cases q:lt (bX p i) (bX p ((l+r) / 2))=true
   .rw[JW q];refine lG o an pm hi so f l ((l+r) / 2) (by omega) (by omega) (by omega) h4 (fun a x y=>?_) k;by_cases e:a=(l+r) / 2
    .rw[e];exact q
    .exact o.tr _ _ _ q (so _ _ (by omega) y)
   .rw[J0 q];have q:lt (bX p i) (bX p ((l+r) / 2))=false:=by simpa using q
    have q:=o.of_not (pm.bd hi) (pm.bd (by omega)) (pm.ne hi (by omega) (by omega)) q;refine lG o an pm hi so f _ r (by omega) h2 (by omega) (fun a x=>?_) h5 k;by_cases e:a=(l+r) / 2
    .rw[e];exact q
    .exact o.tr _ _ _ (so _ _ (by omega) (by omega)) q
theorem xM {i l:Nat}(hi:i<p.size)(hl:l<=i)(k:Nat):bX (bubble p i (i-l)) k=if k=l then bX p i else if l<k/\k<=i then bX p (k-1) else bX p k:=by
 have e:=getElem?_bubble hi (i-l) (by omega) k;rw[show i-(i-l)=l by omega]at e;by_cases h1:k=l
 .rw[JW h1]at e ⊢;exact qY e
 .rw[J0 h1]at e ⊢;by_cases h2:l<k/\k<=i
  .rw[JW h2]at e ⊢;exact qY e
  .rw[J0 h2]at e ⊢;exact qY e
theorem xN (o:Lt N lt)(an:CJ N lt cmp s):∀(f i:Nat)(p:Array Nat){Q:Array Nat->Nf->Prop},Pm N p->i+f=N->So lt p i->
 (∀ p',Pm N p'->So lt p' N->Q p' s)->(kas_bin f p i).kasWp cmp Q s
 |0,i,p,Q,pm,h,so,k=>k p pm (by rw[<- h];exact so)
 |f+1,i,p,Q,pm,h,so,k=>by
  unfold kas_bin;rw[Mp];refine lG o an pm (by omega) so i 0 i (by omega) (J1 _) (by omega) (fun a x=>by omega) (fun a x y=>by omega) fun m hm lo hi=>?_;refine xN o an f (i+1) _ (pm.perm (bubble_perm _ _ _)) (by omega) (fun a b hab hb=>?_) k;have hs:i<p.size:=by rw[pm.size];omega
  rw[xM hs hm,xM hs hm]
  repeat' split
  all_goals first|omega|(exact hi _ (by omega) (by omega))|(exact lo _ (by omega))|(exact so _ _ (by omega) (by omega))
theorem AS (o:Lt N lt)(an:CJ N lt cmp s)(h2:2<=N){Q:Array Nat->Nf->Prop}(k:∀ p,Pm N p->So lt p N->Q p s):(kas_sort N).kasWp cmp Q s:=by
 unfold kas_sort;rw[Mp];have pm:Pm N (List.toArray (List.range N)):=by unfold Pm;simp
 refine xL o an pm h2 fun m p' a b c d=>?_;show KasT.kasWp cmp (if m<N then kas_bin (N-max m 1) p' (max m 1) else .ret p') Q s;by_cases e:m<N
 .rw[JW e];have:max m 1=m:=by omega
  rw[this];exact xN o an (N-m) m p' c (by omega) d k
 .rw[J0 e];have:m=N:=by omega
  subst this;exact k p' c d
end
end ST
namespace L2
open PySem PySem.Spec PySem.Calls PyProof.Rows ST
noncomputable abbrev iK (ns:List Int):List Key:=ns.map Sum.inl
section
variable {prog:Nh}{w:World}{A:Nj}{E:Ni->Nf->Prop}{s:Nf}
theorem kN {i:Int}{v:Ni}(h:(au prog w).is (.inl i) v=true):∃ t,v=.int i t:=by
 rcases aU (show j7 (.inl i) v=true from h) with⟨j,t,e,rfl⟩|⟨x,t,e,_⟩
 .cases e;exact⟨t,rfl⟩
 .cases e
theorem items_int:∀{ns:List Int}{vs:List Ni},ItemsAre (au prog w) (iK ns) vs->∀ v∈vs,∃ i t,v=.int i t
 | [],_,h,v,hv=>by cases h;simp at hv
 |n::ns,_,h,v,hv=>by
  cases h with
  |cons h1 h2=>
   rcases J5.mp hv with rfl|hv
   .obtain⟨t,rfl⟩:=kN h1;exact⟨n,t,rfl⟩
   .exact items_int h2 v hv
theorem DZ {ns:List Int}{b:Addr}{Q:Bool->Nf->Prop}(hk:(tK prog w).is s.heap (iK ns) b)(h:Q true s):wpAny (model prog w) A (hashByValue 8 (.ref b)) Q E s:=by
 have hT:=IsTupleKey.typeIs hk;obtain⟨o,items,n,ho,_,hd,hi⟩:=hk;unfold hashByValue;refine JT (wpAny_specialOf hT PySem.F.slot_tuple_hash.lookup ?_);dsimp only;refine JT (MU ho hd ?_);refine JT ?_;show wpAny _ _ (forIn items _ _) _ _ s;rw[<- Array.forIn_toList];refine wpAny_forIn_list _ (fun aZ r s'=>r.1=none/\s'=s/\∀ v∈aZ,∃ i t,v=Value.int i t) _ ?_ ?_ _ _ ⟨rfl,rfl,items_int hi⟩
 .rintro v aZ r s' ⟨hr,rfl,hall⟩;obtain⟨i,t,rfl⟩:=hall v Kg;refine JT (J2 ?_);simp only[Ln,J_,KR];exact J2 ⟨rfl,rfl,fun u hu'=>hall u (Kc _ hu')⟩
 .rintro⟨r1,r2⟩ s' ⟨hr,rfl,_⟩;simp only at hr;subst hr;exact J2 h
theorem qZ {ns:List Int}{b:Addr}{Q:Bool->Nf->Prop}(hk:(tK prog w).is s.heap (iK ns) b)(h:Q false s):wpAny (model prog w) A (ofAClassStatement 8 (.ref b)) Q E s:=by
 have hT:=IsTupleKey.typeIs hk;obtain⟨o,items,n,ho,_,hd,hi⟩:=hk;unfold ofAClassStatement;refine JT (Mh hT ?_);dsimp only;rw[JW (by decide)];refine JT (J2 ?_);simp only[Ln,J_,KR];refine JT (MU ho hd ?_);refine JT ?_;show wpAny _ _ (forIn items _ _) _ _ s;rw[<- Array.forIn_toList];refine wpAny_forIn_list _ (fun aZ r s'=>r.1=none/\s'=s/\∀ v∈aZ,∃ i t,v=Value.int i t) _ ?_ ?_ _ _ ⟨rfl,rfl,items_int hi⟩
 .rintro v aZ r s' ⟨hr,rfl,hall⟩;obtain⟨i,t,rfl⟩:=hall v Kg;refine JT (J2 ?_);simp only[J_,KR];exact J2 ⟨rfl,rfl,fun u hu'=>hall u (Kc _ hu')⟩
 .rintro⟨r1,r2⟩ s' ⟨hr,rfl,_⟩;simp only at hr;subst hr;exact J2 h
theorem D0 {ns:List Int}{b:Addr}{ys:List Ni}{Q:Bool->Nf->Prop}(hk:(tK prog w).is s.heap (iK ns) b)(hy:∀ y∈ys,∃ ms c,y=.ref c/\(tK prog w).is s.heap (iK ms) c)(h:Q false s):wpAny (model prog w) A (searchCouldBeSeen (.ref b) ys) Q E s:=by
 unfold searchCouldBeSeen;refine JT ?_;refine wpAny_forIn_list _ (fun aZ r s'=>r.1=none/\s'=s/\∀ y∈aZ,∃ ms c,y=.ref c/\(tK prog w).is s.heap (iK ms) c) _ ?_ ?_ _ _ ⟨rfl,rfl,hy⟩
 .rintro v aZ r s' ⟨hr,rfl,hall⟩;obtain⟨ms,c,rfl,hc⟩:=hall v Kg;have fin:∀ u∈aZ,∃ ms c,u=Value.ref c/\(tK prog w).is s'.heap (iK ms) c:=fun u hu'=>hall u (Kc _ hu');dsimp only;split
  .exact J2 ⟨rfl,rfl,fin⟩
  .refine JT ((tK prog w).quiet hk ?_);simp only[Ln,J_,KR];refine JT ((tK prog w).quiet hc ?_);simp only[Ln,J_,KR];refine JT (qZ hk ?_);simp only[J_,KR];refine JT (qZ hc ?_);simp only[J_,KR];exact J2 ⟨rfl,rfl,fin⟩
 .rintro⟨r1,r2⟩ s' ⟨hr,rfl,_⟩;simp only at hr;subst hr;exact J2 h
def IU (prog:Nh)(w:World)(h:Heap)(es:Array (Int×Ni)):Prop:=∀ e∈es.toList,∃ ms c,e=((tK prog w).hash (iK ms),Value.ref c)/\(tK prog w).is h (iK ms) c
theorem AT {m:Nat}(h:Msk m):(m % 2==0)=false:=by rcases h with rfl|rfl|rfl<;>rfl
theorem Tbl.fits {t:SetTable}{es:Array (Int×Ni)}(T:Tbl t es)(hs:t.place.size<=t.mask):t.fits es.size=true:=by unfold SetTable.fits SetTable.fill;rw[T.tb.dum];simp[T.len]at hs ⊢;exact hs
theorem tL {α:Type}{es:Array α}{i:Nat}{e:α}(h:es[i]?=some e):e∈es.toList:=Km.mpr ⟨i,by rw[KC];exact h⟩
theorem nz {a b:Addr}{o:Obj}{es:Array (Int×Ni)}{ep:Nat}{t:SetTable}{ns:List Int}{Q:SetFound->Nf->Prop}(ho:s.heap.get? a=some o)(hd:o.data=.set es ep t)(T:Tbl t es)(hs:t.place.size<=t.mask)
 (hu:A.units<cLine) (hk:(tK prog w).is s.heap (iK ns) b) (el:IU prog w s.heap es)
 (h1:(∃ e∈es.toList,∃ c,e.2=.ref c/\(tK prog w).is s.heap (iK ns) c)->Q (.there none) s)
 (h2:(∀ e∈es.toList,∀ c,e.2=.ref c->¬ (tK prog w).is s.heap (iK ns) c)->∀ j,j∉t.place.toList->j<=t.mask->Rea t.mask (·∈ t.place.toList) ((tK prog w).hash (iK ns)) j->Q (.free j false) s) :
 ∀(fuel n:Nat)(stand:Option SetTable.Probe),stand.getD (t.probeStart ((tK prog w).hash (iK ns)))=it t.mask n (st t.mask ((tK prog w).hash (iK ns)))->
  (∀ k,k<n->∃ i e,∃ hi:i<t.place.size,t.place[i]=(it t.mask k (st t.mask ((tK prog w).hash (iK ns)))).j/\es[i]?=some e/\∀ c,e.2=.ref c->¬ (tK prog w).is s.heap (iK ns) c)->
  (∃ N,n<=N/\N<n+fuel/\(it t.mask N (st t.mask ((tK prog w).hash (iK ns)))).j∉t.place.toList)->
  wpAny (model prog w) A (setSearchFrom a (.ref b) ((tK prog w).hash (iK ns)) true fuel stand) Q E s
 |0,n,stand,_,_,⟨N,x1,x2,_⟩=>by omega
 |fuel+1,n,stand,e1,e2,⟨N,x1,x2,x3⟩=>by
  have v0:Va t.mask (it t.mask n (st t.mask ((tK prog w).hash (iK ns)))):=(Va.st _ _).it;have sp:=tH T.tb hs (fun i=>(es[i]?.map (·.1)).getD 0) ((tK prog w).hash (iK ns)) v0;have at_:∀ i,i<t.place.size->∃ e,es[i]?=some e:=fun i hi=>⟨es[i]'(by rw[<- T.len];exact hi),by simp[T.len▸hi]⟩;unfold setSearchFrom;refine JT (KZ ho hd (Tbl.fits T hs) ?_);dsimp only;have hg:t.gaveWay=false:=AT T.tb.msk;rw[hg];simp only[J_,KR];rw[e1];have pre:∀{nn:Nat},(∀ k,k<nn->∃ i,∃ hi:i<t.place.size,t.place[i]=(it t.mask k (it t.mask n (st t.mask ((tK prog w).hash (iK ns))))).j/\(es[i]?.map (·.1)).getD 0≠(tK prog w).hash (iK ns))->
   ∀ k,k<n+nn->∃ i e,∃ hi:i<t.place.size,t.place[i]=(it t.mask k (st t.mask ((tK prog w).hash (iK ns)))).j/\es[i]?=some e/\∀ c,e.2=.ref c->¬ (tK prog w).is s.heap (iK ns) c:=by
   intro nn hb k hk';by_cases hkn:k<n
   .exact e2 k hkn
   .obtain⟨i,hi,q1,q2⟩:=hb (k-n) (by omega);obtain⟨e,he⟩:=at_ i hi;refine⟨i,e,hi,?_,he,fun c hc his=>q2 ?_⟩
    .rw[q1,<- de,show n+(k-n)=k by omega]
    .obtain⟨ms,c',rfl,his'⟩:=el e (tL he);have hc':c'=c:=by injection hc
     subst hc';rw[he];show(tK prog w).hash (iK ms)=_;rw[(tK prog w).inj his' his]
  generalize hq0:t.probe _ _ (it t.mask n (st t.mask ((tK prog w).hash (iK ns))))=pr;have hpr:t.probe (fun i=>(es[i]?.map (·.1)).getD 0) ((tK prog w).hash (iK ns)) (it t.mask n (st t.mask ((tK prog w).hash (iK ns))))=pr:=hq0;rw[hpr]at sp;clear hpr hq0;cases sp with
  |em nn hem hb=>
   dsimp only;refine J2 (h2 ?_ _ hem (v0.it).jle ?_)
   .intro e he c hc his;obtain⟨i,hi⟩:=Km.mp he;rw[KC]at hi;have hil:i<t.place.size:=by rw[T.len];exact(K0.mp hi).1
    obtain⟨ms,c',rfl,his'⟩:=el e he;have hc':c'=c:=by injection hc
    subst hc';have ek:=(tK prog w).inj his' his;have hz:(t.place[i],((tK prog w).hash (iK ms),Value.ref c'))∈t.place.toList.zip es.toList:=Km.mpr ⟨i,by rw[L7];exact⟨by simp[hil],by rw[KC];exact hi⟩⟩;obtain⟨m,em,eb⟩:=T.rea _ hz;have em:(it t.mask m (st t.mask ((tK prog w).hash (iK ms)))).j=t.place[i]:=em;rw[ek]at em eb;have hm:m<n+nn:=by
     rcases Mw m (n+nn) with q|q|q
     .exact q
     .exfalso;refine hem ?_;show(it t.mask nn (it t.mask n _)).j∈t.place.toList;rw[<- de,<- q,em];simp
     .exfalso;refine hem ?_;show(it t.mask nn (it t.mask n _)).j∈t.place.toList;rw[<- de];exact eb _ q
    obtain⟨i',e',hi',q1,q2,q3⟩:=pre hb m hm;have hii:i'=i:=by
     have:t.place[i']=t.place[i]:=q1.trans em;rcases Mw i' i with q|q|q
     .have:=Kn.mp T.tb.ris i' i (by simpa using hi') (by simpa using hil) q;simp at this;omega
     .exact q
     .have:=Kn.mp T.tb.ris i i' (by simpa using hil) (by simpa using hi') q;simp at this;omega
    subst hii;rw[hi]at q2;cases q2;exact q3 c' rfl his
   .refine⟨n+nn,by rw[de],fun k hk'=>?_⟩;obtain⟨i,e,hi,q1,_⟩:=pre hb k hk';show _∈t.place.toList;rw[<- q1];simp
  |ca nn i hi hij hq hb=>
   dsimp only;obtain⟨e,he⟩:=at_ i hi;obtain⟨ms,c,rfl,his⟩:=el e (tL he);have aZ:wpAny (model prog w) A (do
    let some (_,y):=es[i]?|unsupported "internal:set-entry"
    let equal <- holding [y] (eqBool y (.ref b))
    let (es',_,t') <- setState a
    if true&&equal then return SetFound.there none
    let some same:=t'.sameMemory t.moves t.mask|unsupported "set.changed-during-lookup:is-the-new-block-at-the-old-address"
    let still <- match (if same then t'.slot (it t.mask nn (it t.mask n (st t.mask ((tK prog w).hash (iK ns))))).j else .empty) with
     | .live i'=>match es'[i']? with
      |some (_,y')=>do pure (if <- isSame y' y then some i' else none)
      |none=>pure none
     |_=>pure none
    match still with
    |none=>rule "set.search.anew";setSearchFrom a (.ref b) ((tK prog w).hash (iK ns)) true fuel none
    |some i'=>if equal then return .there (some i') else setSearchFrom a (.ref b) ((tK prog w).hash (iK ns)) true fuel (some (it t.mask (nn+1) (it t.mask n (st t.mask ((tK prog w).hash (iK ns))))))) Q E s:=by
    rw[he];dsimp only;refine JT (KN ((tK prog w).eqBool hu his hk ?_));refine JT (KZ ho hd (Tbl.fits T hs) ?_);dsimp only;by_cases hkk:iK ms=iK ns
    .rw[Kk hkk];simp only[L1,Me];exact J2 (h1 ⟨_,tL he,c,rfl,by rw[<- hkk];exact his⟩)
    .rw[Kr hkk];simp only[Bool.and_false,J_,KR];have hsm:t.sameMemory t.moves t.mask=some true:=by unfold SetTable.sameMemory;simp
     rw[hsm];dsimp only;rw[JW rfl,<- hij,nu T.tb hi];dsimp only;rw[he];dsimp only;refine JT (wpAny_isSame_ref_self ?_);refine JT (J2 ?_);rw[JW rfl]
     try dsimp only
     refine nz ho hd T hs hu hk el h1 h2 fuel (n+(nn+1)) _ ?_ ?_ ⟨N,?_,?_,x3⟩
     .exact(de t.mask n (nn+1) _).symm
     .intro k hk';by_cases hkn:k<n+nn
      .exact pre hb k hkn
      .have:k=n+nn:=by omega
       subst this;refine⟨i,_,hi,by rw[hij,de],he,fun c' hc' hh=>hkk ?_⟩;have:c=c':=by injection hc'
       subst this;exact(tK prog w).inj his hh
     .refine KL fun hc=>?_;have hN:N<n+(nn+1):=by omega
      by_cases hNn:N<n+nn
      .obtain⟨i',e',hi',q1,_⟩:=pre hb N hNn;exact x3 (by rw[<- q1];simp)
      .have:N=n+nn:=by omega
       subst this;exact x3 (by rw[de,<- hij];simp)
     .omega
   split
   .refine JT (D0 hk ?_ ?_)
    .intro y hy;obtain⟨e',he',rfl⟩:=J8.mp hy;have he2:e'∈es.toList:=by have:=(Array.mem_toList_iff).mp he';rw[Array.mem_filter]at this;exact Array.mem_toList_iff.mpr this.1
     obtain⟨ms',c',rfl,his'⟩:=el e' he2;exact⟨ms',c',rfl,his'⟩
    .simp only[J_,KR];exact aZ
   .exact aZ
end
noncomputable def byT (w:World):Bool:=w.params.followText "set-order"
def SetAt (w:World)(h:Heap)(a:Addr)(es:Array (Int×Ni)):Prop:=∃ o ep t,h.get? a=some o/\o.ExactSet/\o.data=.set es ep t/\Tbl t es/\nv t/\t.plain=true/\t.led=!byT w
theorem SetAt.keep {w:World}{h h':Heap}{a:Addr}{es:Array (Int×Ni)}(x:SetAt w h a es)(k:∀ o,h.get? a=some o->h'.get? a=some o):SetAt w h' a es:=let ⟨o,ep,t,e,r⟩:=x;⟨o,ep,t,k o e,r⟩
theorem iN {t:SetTable}(h:nv t):t.place.size<=t.mask:=by unfold nv at h;omega
section
variable {prog:Nh}{w:World}{A:Nj}{E:Ni->Nf->Prop}{s:Nf}
structure Grown (es es':Array (Int×Ni)) (x:Int×Ni):Prop where
 mem:∀ y,y∈es'.toList↔y=x\/y∈es.toList
 pw:∀ R:Int×Ni->Int×Ni->Prop,(∀ x y,R x y->R y x)->es.toList.Pairwise R->(∀ e∈es.toList,R e x)->es'.toList.Pairwise R
 size:es'.size=es.size+1
theorem v8 (es:Array (Int×Ni))(p:Nat)(x:Int×Ni)(hp:p<=es.size):Grown es (SetTable.insertAt es p x) x:=by
 have e:=ST.insertAt_toList es p x hp;refine⟨fun y=>?_,fun R sy pw hx=>?_,ST.insertAt_size es p x hp⟩
 .rw[e,Kf,J5];constructor
  .rintro (z|rfl|z)
   .exact .inr (Lm z)
   .exact .inl rfl
   .exact .inr (L6 z)
  .rintro (rfl|z)
   .exact .inr (.inl rfl)
   .rw[<- LV p es.toList,Kf]at z;exact z.elim .inl fun z=>.inr (.inr z)
 .rw[e,MI];rw[<- LV p es.toList,MI]at pw;obtain⟨p1,p2,p3⟩:=pw;refine⟨p1,?_,?_⟩
  .rw[Lj];exact⟨fun y hy=>sy _ _ (hx y (L6 hy)),p2⟩
  .intro y hy z hz;rcases J5.mp hz with rfl|hz
   .exact hx y (Lm hy)
   .exact p3 y hy z hz
theorem Grown.laid {es es1 es2:Array (Int×Ni)}{x:Int×Ni}{m:Nat}{t:SetTable}(g:Grown es es1 x)(l:Laid m es1 es2 t):Grown es es2 x:=⟨fun y=>(l.mem y).trans (g.mem y),fun R sy pw hx=>l.pw R sy (g.pw R sy pw hx),by rw[l.size,g.size]⟩
theorem nB {a:Addr}{o:Obj}{es:Array (Int×Ni)}{ep:Nat}{t:SetTable}(es':Array (Int×Ni))(t':SetTable){h:Heap}(ho:h.get? a=some o)(hex:o.ExactSet)(hd:o.data=.set es ep t) :
 ∃ o',(h.update a (Obj.putSet es' t')).get? a=some o'/\o'.ExactSet/\o'.data=.set es' (ep+1) t':=by
 have:=K5 (Obj.putSet es' t') ho (by rw[putSet_of es' t' hd];rfl);rw[putSet_of es' t' hd]at this;exact⟨_,this,hex,rfl⟩
theorem tM {t:SetTable}{n:Nat}(h:Msk t.mask)(h1:n*5<t.mask*3)(h2:(n+1)*5>=t.mask*3)(h3:n+1<=63):∃ m,SetTable.sizeAbove (SetTable.grown (n+1))=m+1/\Msk m/\(n+1)*5<m*3:=by
 rcases h with e|e|e<;>rw[e]at h1 h2
 .have:n=4:=by omega
  subst this;exact⟨31,by decide,.inr (.inl rfl),by omega⟩
 .have:n=18:=by omega
  subst this;exact⟨127,by decide,.inr (.inr rfl),by omega⟩
 .omega
theorem xO {a:Addr}{o:Obj}{es:Array (Int×Ni)}{ep:Nat}{t:SetTable}{n m:Nat}{Q:Unit->Nf->Prop}(ho:s.heap.get? a=some o)(hex:o.ExactSet)(hd:o.data=.set es ep t)(hf:t.fits es.size=true)(hm:Msk m)(hn:SetTable.sizeAbove n=m+1)(hl:es.size*5<m*3)(hpl:t.plain=true)(hle:t.led=!byT w)
 (h:∀ es' t',Laid m es es' t'->SetAt w (s.heap.update a (Obj.putSet es' t')) a es'->Q () { s with heap:=s.heap.update a (Obj.putSet es' t') }):wpAny (model prog w) A (setRelay a n) Q E s:=by
 have hmb:m<=127:=by rcases hm with rfl|rfl|rfl<;>omega
 unfold setRelay;refine JT (KZ ho hd hf ?_);dsimp only;rw[J0 (by rw[hn,KU];omega)];obtain⟨t',order,e,L,hlp,hp⟩:=AR hm es (by omega) t.finger (t.movedTo m) t.led t.plain;have er:t.relaid (es.map (·.1)) n=some (t',order):=by unfold SetTable.relaid;rw[hn];exact e
 rw[er];show wpAny _ _ (do
  let r <- (do
   if (order.filterMap (es[·]?)).size != es.size then unsupported "internal:set-table-lost-an-element"
   pure (order.filterMap (es[·]?),t'):Sem (Array (Int×Ni)×SetTable))
  storeSet a r.1 r.2) _ _ _
 refine JT ?_;rw[J0 (by rw[L.size];simp)];refine J2 ?_;refine wpAny_storeSet_of ho hd ?_ (by show(order.filterMap (es[·]?)).size<=_;rw[L.size,KU];omega);obtain⟨o',g1,g2,g3⟩:=nB (order.filterMap (es[·]?)) t' ho hex hd;refine h _ t' L ⟨o',_,t',g1,g2,g3,L.tbl,?_,by rw[hp];exact hpl,by rw[hlp];exact hle⟩;unfold nv;rw[L.tbl.len,L.size,L.mask];exact hl
theorem xP {t:SetTable}{es:Array (Int×Ni)}(T:Tbl t es)(hs:t.place.size<=t.mask)(h:Int):∃ N,N<100000/\(it t.mask N (st t.mask h)).j∉t.place.toList:=by
 obtain⟨j,hj,hn⟩:=lE T.tb hs;obtain⟨N,h1,h2⟩:=CI T.tb.msk hj (Va.st t.mask h);refine⟨N,?_,by rw[h2];exact hn⟩;have:t.mask<=127:=by rcases T.tb.msk with e|e|e<;>rw[e]<;>omega
 unfold SetTable.turns at h1;omega
theorem D6 {a b:Addr}{es:Array (Int×Ni)}{ns:List Int}{Q:Bool->Nf->Prop}(hu:A.units<cLine)(hk:(tK prog w).is s.heap (iK ns) b)(hS:SetAt w s.heap a es)(el:IU prog w s.heap es)(hz:es.size+1<=63)
 (h1:∀ tk,s.toks<=tk->(∃ e∈es.toList,∃ c,e.2=.ref c/\(tK prog w).is s.heap (iK ns) c)->Q false { s with toks:=tk })
 (h2:∀ tk h' es',s.toks<=tk->(∀ e∈es.toList,∀ c,e.2=.ref c->¬ (tK prog w).is s.heap (iK ns) c)->Heap.SameBut a s.heap h'->SetAt w h' a es'->Grown es es' ((tK prog w).hash (iK ns),.ref b)->Q true { s with heap:=h',toks:=tk }) :
 wpAny (model prog w) A (setAdd a (.ref b)) Q E s:=by
 obtain⟨o,ep,t,ho,hex,hd,T,sp,hpl,hle⟩:=hS;have hf:=Tbl.fits T (iN sp);unfold setAdd;refine KN ?_;refine JT ((tK prog w).pyHash hu hk ?_);have htk:s.toks<=s.toks+(tK prog w).draws (iK ns):=L9 _ _;generalize s.toks+(tK prog w).draws (iK ns)=tk at htk;unfold setAddHashed setAddHashedIn;refine KN ?_;refine JT (KZ (s:={ s with toks:=tk }) ho hd hf ?_);dsimp only;have hbs:byScan (.ref b) es=false:=by simp[byScan,Value.scannable]
 rw[hbs];simp only[J_,KR];unfold setSearch;obtain⟨N,n1,n2⟩:=xP T (iN sp) ((tK prog w).hash (iK ns));refine JT (nz (s:={ s with toks:=tk }) ho hd T (iN sp) hu hk el (fun hin=>?_) (fun hout j hj hjm hr=>?_) 100000 0 none rfl (fun k hk'=>by omega) ⟨N,Kz _,by omega,n2⟩)
 .exact J2 (h1 tk htk hin)
 .dsimp only;refine JT (KZ (s:={ s with toks:=tk }) ho hd hf ?_);dsimp only;obtain⟨T',em,ez⟩:=DW T hj hjm (v:=Value.ref b) hr;have hpl':(t.put j).1.plain=true:=by rw[oY T.tb];exact hpl
  have hle':(t.put j).1.led=!byT w:=by rw[oY T.tb];exact hle
  rw[hpl'];simp only[Me];refine JT (DZ (s:={ s with toks:=tk }) hk ?_);simp only[Me];have hp:(t.put j).2<=es.size:=by rw[uF,<- T.len];exact(dJ j T.tb.ris).1
  have g:=v8 es (t.put j).2 ((tK prog w).hash (iK ns),Value.ref b) hp;refine JT (wpAny_storeSet_of (s:={ s with toks:=tk }) ho hd ?_ (by rw[g.size,KU];omega));obtain⟨o1,q1,q2,q3⟩:=nB (SetTable.insertAt es (t.put j).2 ((tK prog w).hash (iK ns),Value.ref b)) (t.put j).1 ho hex hd;have sb:=Lu s.heap a (Obj.putSet (SetTable.insertAt es (t.put j).2 ((tK prog w).hash (iK ns),Value.ref b)) (t.put j).1);have fill:(t.put j).1.fill=es.size+1:=by unfold SetTable.fill;rw[T'.tb.dum,ez,T.len];rfl
  by_cases hfull:(t.put j).1.tooFull=true
  .rw[hfull];simp only[Bool.not_false,L1,Me];unfold SetTable.tooFull at hfull;rw[fill,em]at hfull;have hfull:(es.size+1)*5>=t.mask*3:=by simpa using hfull
   have sp':es.size*5<t.mask*3:=by rw[<- T.len];exact sp
   obtain⟨m,m1,m2,m3⟩:=tM T.tb.msk sp' hfull hz;have le':(t.put j).1.place.size<=(t.put j).1.mask:=by
    rw[ez,em];unfold nv at sp;have:t.mask>=7:=by rcases T.tb.msk with e|e|e<;>rw[e]<;>omega
    omega
   refine JT (xO (s:={ s with heap:=s.heap.update a (Obj.putSet (SetTable.insertAt es (t.put j).2 ((tK prog w).hash (iK ns),Value.ref b)) (t.put j).1),toks:=tk }) q1 q2 q3 (Tbl.fits T' le') m2 m1 (by rw[g.size];exact m3) hpl' hle' fun es' t' L sa=>?_);exact J2 (h2 tk _ es' htk hout (sb.trans (Lu _ a _)) sa (g.laid L))
  .have hfull:(t.put j).1.tooFull=false:=by simpa using hfull
   rw[hfull];simp only[Bool.and_false,J_,KR];refine J2 (h2 tk _ _ htk hout sb ⟨o1,_,_,q1,q2,q3,T',?_,hpl',hle'⟩ g);unfold SetTable.tooFull at hfull;unfold nv;rw[fill]at hfull;rw[ez,T.len];simpa using hfull
end
noncomputable abbrev TItem:=List Int×Addr
theorem tO {a b:List Int}(h:iK a=iK b):a=b:=by
 induction a generalizing b with
 |nil=>cases b with
  |nil=>rfl
  |cons _ _=>cases h
 |cons x a ih=>cases b with
  |nil=>cases h
  |cons y b=>simp only[iK,J4,List.cons.injEq]at h;rw[KH h.1,ih h.2]
section
variable {prog:Nh}{w:World}
structure SInv (prog:Nh) (w:World) (es:Array (Int×Ni)) (xs:List TItem):Prop where
 el:∀ e∈es.toList,∃ x∈xs,e=((tK prog w).hash (iK x.1),Value.ref x.2)
 sz:es.size<=xs.length
 pw:es.toList.Pairwise fun e e'=>∀ x x':TItem,e=((tK prog w).hash (iK x.1),Value.ref x.2)->e'=((tK prog w).hash (iK x'.1),Value.ref x'.2)->x∈xs->x'∈xs->x.1≠x'.1
 all:∀ x∈xs,∃ y∈xs,y.1=x.1/\((tK prog w).hash (iK y.1),Value.ref y.2)∈es.toList
variable {A:Nj}{R:Result->Nf->Prop}{I:Addr}{fp wr:List Addr}{G:Array GenState->Array GenState->Prop}{n:Nat}{P:Nat->Ni->Prop}{St:Nat->Nf->Prop}
theorem SInv.els {hb h:Heap}{es:Array (Int×Ni)}{xs:List TItem}(v:SInv prog w es xs)(hx:∀ x∈xs,(tK prog w).is hb (iK x.1) x.2)(K:∀ b o,hb.get? b=some o->h.get? b=some o):IU prog w h es:=fun e he=>by obtain⟨x,h1,rfl⟩:=v.el e he;exact⟨x.1,x.2,rfl,fM (hx x h1) K⟩
def Ir (xs:List TItem):Prop:=∀ x∈xs,∀ y∈xs,x.2=y.2->x.1=y.1
theorem SInv.seen {es:Array (Int×Ni)}{xs:List TItem}{x:TItem}(v:SInv prog w es xs)(hin:∃ y∈xs,y.1=x.1)(un:Ir (xs++[x])):SInv prog w es (xs++[x]):=by
 refine⟨fun e he=>?_,?_,?_,fun y hy=>?_⟩
 .obtain⟨z,h1,h2⟩:=v.el e he;exact⟨z,Kt _ h1,h2⟩
 .have:=v.sz;simp;omega
 .refine Lk (fun{a b} ha hb hab z z' e1 e2 m1 m2=>?_) v.pw;obtain⟨y,y1,y2⟩:=v.el a ha;obtain⟨y',y1',y2'⟩:=v.el b hb;have q1:z.2=y.2:=by rw[e1]at y2;simp only[L4,LF]at y2;exact y2.2
  have q2:z'.2=y'.2:=by rw[e2]at y2';simp only[L4,LF]at y2';exact y2'.2
  rw[un z m1 y (Kt _ y1) q1,un z' m2 y' (Kt _ y1') q2];exact hab y y' y2 y2' y1 y1'
 .rcases Kf.mp hy with hy|hy
  .obtain⟨z,h1,h2⟩:=v.all y hy;exact⟨z,Kt _ h1,h2⟩
  .rw[KB]at hy;subst hy;obtain⟨y',h1,h2⟩:=hin;obtain⟨z,g1,g2,g3⟩:=v.all y' h1;exact⟨z,Kt _ g1,g2.trans h2,g3⟩
theorem SInv.new {es es':Array (Int×Ni)}{xs:List TItem}{x:TItem}(v:SInv prog w es xs)(hin:¬ ∃ y∈xs,y.1=x.1)(un:Ir (xs++[x]))(g:Grown es es' ((tK prog w).hash (iK x.1),.ref x.2)):SInv prog w es' (xs++[x]):=by
 have hx:x∈xs++[x]:=Ku _ (KB.mpr rfl);refine⟨fun e he=>?_,?_,?_,fun y hy=>?_⟩
 .rcases (g.mem e).mp he with rfl|he
  .exact⟨x,hx,rfl⟩
  .obtain⟨z,h1,h2⟩:=v.el e he;exact⟨z,Kt _ h1,h2⟩
 .have:=v.sz;rw[g.size];simp;omega
 .refine g.pw _ (fun a b hab z z' e1 e2 m1 m2 h=>hab z' z e2 e1 m2 m1 h.symm) ?_ ?_
  .refine Lk (fun{a b} ha hb hab z z' e1 e2 m1 m2=>?_) v.pw;obtain⟨y,y1,y2⟩:=v.el a ha;obtain⟨y',y1',y2'⟩:=v.el b hb;have q1:z.2=y.2:=by rw[e1]at y2;simp only[L4,LF]at y2;exact y2.2
   have q2:z'.2=y'.2:=by rw[e2]at y2';simp only[L4,LF]at y2';exact y2'.2
   rw[un z m1 y (Kt _ y1) q1,un z' m2 y' (Kt _ y1') q2];exact hab y y' y2 y2' y1 y1'
  .intro e he z z' e1 e2 m1 m2 h;obtain⟨y,y1,y2⟩:=v.el e he;have q1:z.2=y.2:=by rw[e1]at y2;simp only[L4,LF]at y2;exact y2.2
   have q2:z'.2=x.2:=by simp only[L4,LF]at e2;exact e2.2.symm
   have a1:=un z m1 y (Kt _ y1) q1;have a2:=un z' m2 x hx q2;exact hin ⟨y,y1,by rw[<- a1,<- a2];exact h⟩
 .rcases Kf.mp hy with hy|hy
  .obtain⟨z,h1,h2,h3⟩:=v.all y hy;exact⟨z,Kt _ h1,h2,(g.mem _).mpr (.inr h3)⟩
  .rw[KB]at hy;subst hy;exact⟨y,hx,rfl,(g.mem _).mpr (.inl rfl)⟩
theorem iO (W:WalksS prog w A.in1 I fp wr G n P St)(S:Addr)(hSf:S∉fp)(hu:A.in1.units<cLine)(hb:Heap)(hbS:hb.get? S=none)(hbw:∀ b∈wr,hb.get? b=none)(its:List TItem)(hn:its.length=n)
 (hval:∀ i v,P i v->∃ x,its[i]?=some x/\v=.ref x.2) (his:∀ x∈its,(tK prog w).is hb (iK x.1) x.2) (hz:n<=63) :
 ∀(k i:Nat)(s:Nf)(es:Array (Int×Ni)),n-i=k->i<=n->St i s->(∀ b o,hb.get? b=some o->s.heap.get? b=some o)->SetAt w s.heap S es->SInv prog w es (its.take i)->
  (∀ s' es',Moved (S::wr) G s s'->SetAt w s'.heap S es'->SInv prog w es' its->R (.ok (.ret .none)) s')->
  codeAny (model prog w) A (.builtin "set.update.loop" ⟨[.ref S,.ref I],[]⟩) R s:=by
 have hSw:S∉wr:=fun h=>hSf (W.sub _ h);have hsub:∀ b∈wr,b∈S::wr:=fun b hb=>Kc _ hb;have uni:Ir its:=fun x hx y hy e=>tO ((tK prog w).inj (his x hx) (by rw[e];exact his y hy));intro k;induction k with
 |zero=>
  intro i s es hk hi hst K hS v hR;have hin:i=n:=by omega
  subst hin;refine K9 L8 ?_;rw[La K3 _];show wpAny _ A.in1 (pyNext (.ref I) >>= _) _ _ s;refine JT (W.done s _ _ hst fun s' hm=>?_);have v':SInv prog w es its:=by rw[List.take_of_length_le (by omega)]at v;exact v
  have hR':=hR s' es (hm.mono hsub) (hS.keep fun o e=>hm.heap S o hSw e) v';show wpAny _ A.in1 (ret Value.none) _ _ s';exact J2 hR'
 |succ k ih=>
  intro i s es hk hi hst K hS v hR;have hlt:i<n:=by omega
  have htk:its.take (i+1)=its.take i++[its[i]'(by omega)]:=by rw[Mj]
  refine K9 L8 ?_;rw[La K3 _];show wpAny _ A.in1 (pyNext (.ref I) >>= _) _ _ s;refine JT (W.item i s _ _ hlt hst fun u s' hP hst' hm=>?_);obtain⟨x,hx,rfl⟩:=hval i u hP;have hxe:its[i]'(by omega)=x:=by rw[KA (by omega)]at hx;exact Kq hx
  have hxm:x∈its:=KM hx;rw[hxe]at htk;have sub:∀ y∈its.take i++[x],y∈its:=by rw[<- htk];exact fun y hy=>Lm hy
  have un:Ir (its.take i++[x]):=fun y hy z hz=>uni y (sub y hy) z (sub z hz);have K':∀ b o,hb.get? b=some o->s'.heap.get? b=some o:=fun b o e=>hm.heap b o (fun z=>by rw[hbw b z]at e;cases e) (K b o e);have hS':=hS.keep fun o e=>hm.heap S o hSw e;have hx':∀ y∈its.take i,(tK prog w).is hb (iK y.1) y.2:=fun y hy=>his y (Lm hy);have el:=v.els hx' K';have hes:es.size+1<=63:=by have:=v.sz;rw[LM]at this;omega
  show wpAny _ A.in1 (holding [Value.ref x.2] (setAdd S (.ref x.2)) >>= _) _ _ s';refine JT (KN ?_);have keyed:∀ e∈es.toList,∀ c,e.2=.ref c->(tK prog w).is s'.heap (iK x.1) c->∃ y∈its.take i,y.1=x.1:=fun e he c hc hh=>by
   obtain⟨y,y1,y2⟩:=v.el e he;have:c=y.2:=by rw[y2]at hc;injection hc with hc;exact hc.symm
   subst this;exact⟨y,y1,tO ((tK prog w).inj (fM (hx' y y1) K') hh)⟩
  refine D6 hu (fM (his x hxm) K') hS' el hes (fun tk htk' hin=>?_) fun tk h' es' htk' hout hsb hSn g=>?_
  .obtain⟨e,he,c,hc,hh⟩:=hin;refine J2 ⟨LK K3 _,ih (i+1) _ es (by omega) hlt (W.frame _ s' _ _ hst' htk' fun b hb o e=>e) K' hS' (by rw[htk];exact v.seen (keyed e he c hc hh) un) fun s'' es'' hm'' hS'' v''=>?_⟩;exact hR s'' es'' (Moved.trans W.gtrans ((hm.mono hsub).then_heap htk' fun b o hb e=>e) hm'') hS'' v''
  .have hnin:¬ ∃ y∈its.take i,y.1=x.1:=by rintro⟨y,y1,y2⟩;obtain⟨z,z1,z2,z3⟩:=v.all y y1;exact hout _ z3 z.2 rfl (by rw[<- y2,<- z2];exact fM (hx' z z1) K')
   have K2:∀ b o,hb.get? b=some o->h'.get? b=some o:=fun b o e=>(hsb.2 b (fun z=>by subst z;rw[hbS]at e;cases e)).trans (K' b o e);refine J2 ⟨LK K3 _,ih (i+1) _ es' (by omega) hlt (W.frame _ s' _ _ hst' htk' fun b hb o e=>?_) K2 hSn (by rw[htk];exact v.new hnin un g) fun s'' es'' hm'' hS'' v''=>?_⟩
   .rw[hsb.2 b (fun h:b=S=>hSf (by rw[<- h];exact hb))];exact e
   .refine hR s'' es'' (Moved.trans W.gtrans ((hm.mono hsub).then_heap htk' fun b o hb e=>?_) hm'') hS'' v'';rw[hsb.2 b (fun h:b=S=>hb (by rw[h];exact Kg))];exact e
end
noncomputable abbrev setNew (led:Bool):Obj:={ cls:=.type "set",dict:=none,data:=.set #[] 0 (.fresh 0 0 led) }
theorem v9 {w:World}{h:Heap}{a:Addr}(e:h.get? a=some (setNew (!byT w))):SetAt w h a #[]:=by refine⟨_,0,_,e,⟨rfl,rfl,rfl⟩,rfl,⟨⟨.inl rfl,rfl,List.Pairwise.nil,fun j hj=>nomatch hj⟩,rfl,fun q hq=>nomatch hq⟩,?_,rfl,rfl⟩;show 0*5<7*3;decide
section
variable {prog:Nh}{w:World}{A:Nj}{E:Ni->Nf->Prop}{s:Nf}
theorem mN (a:Ni){Q₁:Ni->Nf->Prop}(h:Q₁ (.ref s.heap.objs.size) { s with heap:=s.heap.push (setNew (!byT w)) }) :
 codeAny (model prog w) A (.call (.builtin "set.__new__") ⟨[.type "set",a],[]⟩) (wants Q₁ E) s:=by
 refine codeAny_of_tree (show wpAny _ A.in1 (do checkBuiltinCall "set.__new__" ⟨[.type "set",a],[]⟩;again (.builtin "set.__new__" ⟨[.type "set",a],[]⟩)) _ _ s from ?_);refine JT (wpAny_of_eq (PySem.F.newCall_set_1 a) (J2 ⟨LK PySem.F.plain_set_new _,K9 PySem.F.entry_set_new ?_⟩));rw[La PySem.F.plain_set_new _];unfold Builtin.«set.__new__» Builtin.Frozenset.newClass;have hsub:=sub_set_self;obtain⟨hp,g,d,tk,os⟩:=s;dsimp only;wp_walk;refine wpAny_askSetting (J2 ?_);dsimp only;simp only[newObj];refine JT (wpAny_alloc (J2 ?_));exact J2 h
theorem v_ {l:Addr} {items:Array Ni} {nl:Nat} {its:List TItem} {Q:Ni->Nf->Prop} (hh:A.handled=none) (hu:A.units+64<cLine) (hl:s.heap.get? l=some { cls:=.type "list",data:=.seq items nl }) (hn:its.length=items.size) (hz:items.size<=63)
 (hval:∀(i:Nat)(v:Ni),items[i]?=some v->∃ x:TItem,its[i]?=some x/\v=.ref x.2) (his:∀ x∈its,(tK prog w).is s.heap (iK x.1) x.2)
 (h:∀(h':Heap)(tk:Nat)(es:Array (Int×Ni)),SetAt w h' s.heap.objs.size es->SInv prog w es its->(∀ b o,b<s.heap.objs.size->s.heap.get? b=some o->h'.get? b=some o)->Q (.ref s.heap.objs.size) { s with heap:=h',toks:=tk }) :
 wpAny (model prog w) A (call (.type "set") [.ref l]) Q E s:=by
 obtain⟨c,tl,hmro⟩:=PySem.F.called_set.mro;have hmade:=PySem.F.called_set.made;have hsub:=PySem.F.called_set.sub;refine wpAny_call (codeAny_of_tree ?_);show wpAny _ _ (callAny (.type "set") _) _ _ _;refine J2 ⟨Code.quiet_builtin _ (by decide +kernel),K9 PySem.F.entry_type_call ?_⟩;rw[Around.under_plain (weight_type_call_type "set" [.ref l] []) rfl];have h1:=PySem.F.called_set.notType;have h2:=PySem.F.called_set.canCreate;have hct:=PySem.F.typeCall_set_1 (.ref l)
 repeat (any_goals (first|assumption|wp_step))
 refine MO (mN (.ref l) (E:=E) (Q₁:=fun obj s₁=>obj=.ref s.heap.objs.size/\s₁={ s with heap:=s.heap.push (setNew (!byT w)) }) ⟨rfl,rfl⟩) fun r s₁ hr=>?_;rcases r with e|fl
 .exact hr
 cases fl with
 |ret obj=>
  obtain⟨rfl,rfl⟩:=hr;have hS:(s.heap.push (setNew (!byT w))).get? s.heap.objs.size=some (setNew (!byT w)):=Kb _ rfl;have hT:Shared.TypeIs { s with heap:=s.heap.push (setNew (!byT w)) } (.ref s.heap.objs.size) "set":=⟨_,hS,rfl⟩;have hli:=PySem.F.called_set.init.lookup;have hbi:=PySem.F.called_set.init.bind (.ref s.heap.objs.size)
  repeat (any_goals (first|assumption|wp_step))
  refine MO (codeAny_call_builtin (R:=wants (fun r s₂=>r=.none/\∃ h' tk es,s₂={ s with heap:=h',toks:=tk }/\SetAt w h' s.heap.objs.size es/\SInv prog w es its/\
   (∀ b o,b<s.heap.objs.size->s.heap.get? b=some o->h'.get? b=some o)) E) PySem.F.called_set.init.plain PySem.F.entry_set_init (check_set_init_1 hT ?_)) fun r₂ s₂ hr₂=>?_
  .have hol':(s.heap.push (setNew (!byT w))).get? l=some { cls:=.type "list",data:=.seq items nl }:=JV _ hl;have hsls:=PySem.F.sub_list_set;have hslf:=PySem.F.sub_list_frozenset;have hne:(Value.type "list"==Value.type "dict")=false:=by decide
   have hl1:(s.heap.push (setNew (!byT w))).IsList l items:=⟨_,hol',rfl,nl,rfl⟩;unfold Builtin.«set.__init__» noKeywords Builtin.Frozenset.updateFrom;generalize hPI:pyIter=PI
   wp_walk
   subst hPI;refine Mv hl1 (JT (wpAny_runValue ?_));have hlS:l<s.heap.objs.size:=J6 hl;have hh3:A.in1.in1.in1.handled=none:=by simp[hh]
   have hneI:l≠(s.heap.push (setNew (!byT w))).objs.size:=by rw[MV];exact Kj (Mx hlS)
   have hno:∀ b,s.heap.objs.size<=b->s.heap.get? b=none:=fun b hb=>by
    cases q:s.heap.get? b with
    |none=>rfl
    |some o=>exact absurd (J6 q) (Nat.not_lt.mpr hb)
   refine iO ((Walks.list hh3 _ l hneI items).toS) s.heap.objs.size ?hSf (by show A.units+1+1+1<cLine;omega) s.heap (hno _ (J1 _)) ?hbw its hn hval his hz (items.size-0) 0 _ #[] rfl (Kz _) ⟨⟨_,Kb _ rfl,rfl,rfl⟩,(hl1.push _)⟩
    (fun b o e=>JV _ (JV _ e)) (v9 (JV _ hS)) ⟨fun e he=>(nomatch he),Kz _,List.Pairwise.nil,fun x hx=>(nomatch hx)⟩ ?hR
   case hSf=>rw[MV];simp only[J5,KY,MB,not_or];exact⟨Kj (M_ _),Mg hlS⟩
   case hbw=>intro b hb;simp only[J5,KY,MB]at hb;subst hb;exact hno _ (by rw[MV];omega)
   case hR=>intro s' es hm hS' v;obtain⟨h',g',d',tk',os'⟩:=s';have eg:g'=s.gens:=hm.gens;have ed:d'=s.drawn:=hm.drawn;have eo:os'=s.os:=hm.os;subst eg ed eo;refine J2 (J2 ⟨rfl,h',tk',es,rfl,hS',v,fun b o hb e=>hm.heap b o ?_ (JV _ (JV _ e))⟩);simp only[J5,KY,MB,not_or];exact⟨Kj hb,by rw[MV];exact Kj (Mx hb)⟩
  .rcases r₂ with e|fl₂
   .exact hr₂
   cases fl₂ with
   |ret r=>
    obtain⟨rfl,h',tk,es,rfl,hS',v,hk'⟩:=hr₂
    repeat (any_goals (first|assumption|wp_step))
    exact h _ _ _ hS' v hk'
   |_=>exact hr₂.elim
 |_=>exact hr.elim
end
theorem lH {α:Type}:∀(l:List α)(i:Nat)(h:i<l.length),(l[i]::l.eraseIdx i).Perm l
 | [],i,h=>by simp at h
 |x::l,0,h=>List.Perm.refl _
 |x::l,i+1,h=>by have ih:=lH l i (by simpa using h);have e:(x::l).eraseIdx (i+1)=x::l.eraseIdx i:=rfl;rw[e,List.getElem_cons_succ];exact(List.Perm.swap _ _ _).trans (List.Perm.cons x ih)
theorem uH {α:Type}(next:Nat->Nat):∀(fuel k:Nat)(left:List α)(out:Array α),left.length=fuel->(pickOrder.go next fuel k left out).toList.Perm (out.toList++left)
 |0,k,left,out,h=>by have:left=[]:=List.length_eq_zero_iff.mp h;subst this;unfold pickOrder.go;simp
 |f+1,k,left,out,h=>by have hi:next k % left.length<left.length:=Nat.mod_lt _ (by omega);unfold pickOrder.go;rw[KA hi];dsimp only;have ih:=uH next f (k+1) (left.eraseIdx (next k % left.length)) (out.push left[next k % left.length]) (by rw[List.length_eraseIdx,JW hi];omega);refine ih.trans ?_;rw[Array.toList_push,L0];exact List.Perm.append_left _ (lH left _ hi)
theorem wa {α:Type}(next:Nat->Nat)(xs:Array α):(pickOrder next xs).toList.Perm xs.toList:=by have:=uH next xs.size 0 xs.toList #[] (by simp);unfold pickOrder;simpa using this
def gw (w:World)(S:Addr)(ep:Nat)(es:Array (Int×Ni)):Array (Int×Ni):=if byT w then pickOrder (w.params.setOrder S ep) es else es
theorem q_ (w:World)(S:Addr)(ep:Nat)(es:Array (Int×Ni)):(gw w S ep es).toList.Perm es.toList:=by
 unfold gw;split
 .exact wa _ _
 .exact List.Perm.refl _
theorem iP (w:World)(S:Addr)(ep:Nat)(es:Array (Int×Ni)):(gw w S ep es).size=es.size:=by have:=(q_ w S ep es).length_eq;simpa using this
def ck (w:World)(t:SetTable):Nat->Nat
 |0=>0
 |i+1=>if byT w then 0 else t.place.getD i 0+1
theorem tP {t:SetTable}(T:Tb t):∀(i:Nat),i<=t.place.size->SetTable.below t.place (match i with|0=>0|i+1=>t.place.getD i 0+1)=i
 |0,_=>by
  obtain⟨a,b,c⟩:=dJ 0 T.ris;dsimp only;rcases Nat.eq_zero_or_pos (SetTable.below t.place 0) with h|h
  .exact h
  .have:=b 0 (by omega) h;omega
 |i+1,hi=>by
  dsimp only;have e:t.place.getD i 0=t.place[i]:=by simp[Array.getD,show i<t.place.size by omega]
  rw[e];obtain⟨a,b,c⟩:=dJ (t.place[i]+1) T.ris;rcases Mw (SetTable.below t.place (t.place[i]+1)) (i+1) with q|q|q
  .have h1:=c i (by omega) (by omega);omega
  .exact q
  .have h1:=b (i+1) (by omega) q;have h2:=Kn.mp T.ris i (i+1) (by simp;omega) (by simp;omega) (by omega);simp at h2;omega
theorem slot_setiter_next:Slot "set_iterator" "__next__" "set_iterator.__next__":=.of (owner:="set_iterator") (n:="__next__") (by rw[typeLookup_type,builtinLookup_eq_fast];kernel_rfl) (by decide +kernel) (by decide +kernel) (by decide +kernel) (by first|exact .inl (by decide +kernel)|exact .inr (by decide +kernel)) (by rw[isSubtype_type];kernel_rfl)
theorem dL:entryFor table "set_iterator.__next__"=some Builtin.«set_iterator.__next__»:=entryFor_of_fast (by kernel_rfl)
theorem d_ (a:Ni):argsOk "set_iterator.__next__" ⟨[a],[]⟩:=by (unfold argsOk;kernel_rfl)
theorem mO:entryFor table "set.__iter__"=some Builtin.«frozenset.__iter__»:=entryFor_alias (id':="frozenset.__iter__") (by kernel_rfl) rfl (by decide +kernel) (by kernel_rfl)
def SetIt (h:Heap) (it S:Addr) (slot i n ep:Nat):Prop:=∃ o,h.get? it=some o/\o.cls=.type "set_iterator"/\o.data=.fields #[.int slot 0,.int i 0,.ref S,.int n 0,.int ep 0]
theorem SetIt.typeIs {s:Nf} {it S:Addr} {slot i n ep:Nat} (x:SetIt s.heap it S slot i n ep):s.TypeIs (.ref it) "set_iterator":=let ⟨o,ho,hc,_⟩:=x;⟨o,ho,hc⟩
def jB (h:Heap)(S:Addr)(es:Array (Int×Ni))(ep:Nat)(t:SetTable):Prop:=∃ o,h.get? S=some o/\o.ExactSet/\o.data=.set es ep t
section
variable {prog:Nh}{w:World}{A:Nj}{E:Ni->Nf->Prop}{s:Nf}
theorem tQ {Q:Bool->Nf->Prop}(h:Q (byT w) s):wpAny (model prog w) A setsByText Q E s:=by unfold setsByText;exact JT (wpAny_askSetting (J2 h))
theorem lI {S:Addr}{es:Array (Int×Ni)}{ep i:Nat}{t:SetTable}{Q:Option (Ni×Nat)->Nf->Prop}(r:jB s.heap S es ep t)(T:Tbl t es)(hs:t.place.size<=t.mask)(hpl:t.plain=true)(hle:t.led=!byT w)(hi:i<=es.size)
 (h:Q (((gw w S ep es)[i]?).map fun e=>(e.2,ck w t (i+1))) s):wpAny (model prog w) A (setNext S (ck w t i) i ep) Q E s:=by
 obtain⟨o,ho,hex,hd⟩:=r;have hf:=Tbl.fits T hs;unfold setNext;refine JT (KZ ho hd hf ?_);dsimp only;refine JT (tQ ?_);cases hb:byT w with
 |true=>
  simp only[Me];rw[J0 (by simp)];refine JT ?_;unfold setWalk;refine JT (KZ ho hd hf ?_);dsimp only;refine JT (tQ ?_);rw[hb];simp only[Me];refine JT (wpAny_askSetting (J2 ?_));have e1:ck w t (i+1)=0:=by unfold ck;rw[hb];rfl
  have e2:ck w t i=0:=by cases i with|zero=>rfl|succ i=>(unfold ck;rw[hb];rfl)
  rw[e2];rw[e1]at h;unfold gw at h;rw[hb]at h;exact J2 h
 |false=>
  simp only[J_,KR];rw[hb]at hle;have hle:t.led=true:=hle;show wpAny _ _ (if (!t.plain&&decide (es.size>1))=true then _ else _) _ _ _;rw[hpl];simp only[Ln,LO,J_,KR];show wpAny _ _ ((if (!t.led&&!es.isEmpty)=true then unsupported "set:maker-not-led" else pure ()) >>= fun _=>_) _ _ _;rw[hle];simp only[Ln,LO,J_,KR];refine JT (J2 ?_);have e1:SetTable.below t.place (ck w t i)=i:=by
   have:=tP T.tb i (by rw[T.len];exact hi);cases i with
   |zero=>exact this
   |succ i=>unfold ck;rw[hb];exact this
  have eo:gw w S ep es=es:=by unfold gw;rw[hb];rfl
  rw[eo]at h;rw[e1];by_cases hlt:i<es.size
  .have g1:es[i]?=some es[i]:=by simp[hlt]
   have hp:i<t.place.size:=by rw[T.len];exact hlt
   have g2:t.place[i]?=some t.place[i]:=by simp[hp]
   rw[g1]at h;rw[g1,g2];have e2:ck w t (i+1)=t.place[i]+1:=by unfold ck;rw[hb];simp[Array.getD,hp]
   rw[e2]at h;exact J2 h
  .have g1:es[i]?=none:=by simp;omega
   rw[g1]at h;rw[g1];exact J2 h
end
theorem eh:Slot "set_iterator" "__iter__" "set_iterator.__iter__":=.of (owner:="set_iterator") (n:="__iter__") (by rw[typeLookup_type,builtinLookup_eq_fast];kernel_rfl) (by decide +kernel) (by decide +kernel) (by decide +kernel) (by first|exact .inl (by decide +kernel)|exact .inr (by decide +kernel)) (by rw[isSubtype_type];kernel_rfl)
theorem im:entryFor table "set_iterator.__iter__"=some Builtin.«dict_keyiterator.__iter__»:=entryFor_alias (id':="dict_keyiterator.__iter__") (by kernel_rfl) rfl (by decide +kernel) (by kernel_rfl)
theorem iQ (a:Ni):argsOk "set_iterator.__iter__" ⟨[a],[]⟩:=by (unfold argsOk;kernel_rfl)
section
variable {prog:Nh}{w:World}{A:Nj}{E:Ni->Nf->Prop}{s:Nf}
theorem nC {it S:Addr}{slot i n ep:Nat}{es:Array (Int×Ni)}{t:SetTable}{P:PySem.Fin->Nf->Prop}{F:Ni->Nf->Prop}{o:Obj}(ho:s.heap.get? it=some o)(hd:o.data=.fields #[.int slot 0,.int i 0,.ref S,.int n 0,.int ep 0])
 (r:jB s.heap S es ep t) (hf:t.fits es.size=true) (hn:n=es.size)
 (h:wpAny (model prog w) A (setNext S slot i ep) (fun m s'=>match m with
   |some (x,next)=>wpAny (model prog w) A (do setField (.ref it) 0 (rawInt next);setField (.ref it) 1 (rawInt (i+1));ret x) P F s'
   |none=>wpAny (model prog w) A (do setField (.ref it) 2 .none;raiseNew (<- newExc (.type "StopIteration") [])) P F s') F s) :
 wpAny (model prog w) A (Builtin.«set_iterator.__next__» ⟨[.ref it],[]⟩) P F s:=by
 obtain⟨os,hos,hex,hds⟩:=r;unfold Builtin.«set_iterator.__next__» slotArgs;simp only[List.isEmpty_nil,Ln,J_,KR,LB,My];refine JT (J2 ?_);refine JT (wpAny_fieldsOf ho hd ?_);dsimp only;refine JT ?_;unfold setEntries;refine JT (KZ hos hds hf (J2 ?_));dsimp only;rw[J0 (by rw[hn];simp)];simp only[Int.toNat_natCast];refine JT (Lc h (fun m s' hm=>?_) fun _ _ e=>e);cases m with
 |none=>exact hm
 |some p=>obtain⟨x,next⟩:=p;exact hm
theorem mP {it S:Addr}(hne:S≠it)(hh:A.handled=none){es:Array (Int×Ni)}{ep:Nat}{t:SetTable}(T:Tbl t es)(hs:t.place.size<=t.mask)(hpl:t.plain=true)(hle:t.led=!byT w) :
 Walks prog w A it [it,S] [it] es.size (fun i v=>((gw w S ep es)[i]?).map (·.2)=some v) (fun i h=>SetIt h it S (ck w t i) i es.size ep/\jB h S es ep t) where
 sub:=fun b hb=>by simp at hb;simp[hb]
 frame:=fun i h h' st hk=>by obtain⟨⟨o,h1,r1⟩,⟨o2,h2,r2⟩⟩:=st;exact⟨⟨o,hk it (by simp) o h1,r1⟩,⟨o2,hk S (by simp) o2 h2,r2⟩⟩
 item:=fun i s Q E hi st hQ=>by
  obtain⟨x1,x2⟩:=st;have hT:=x1.typeIs;obtain⟨o,ho,hc,hd⟩:=x1;have x2':=x2;obtain⟨o2,ho2,hex2,hd2⟩:=x2;unfold pyNext;refine JT (wpAny_attempt (wpAny_callSpecial?_slot (name:=Str.ofString "__next__") hT slot_setiter_next (Lx slot_setiter_next hT dL ?_ (d_ _))));refine nC ho hd x2' (Tbl.fits T hs) rfl (lI x2' T hs hpl hle (by omega) ?_);have hio:i<(gw w S ep es).size:=by rw[iP];exact hi
  have e1:(gw w S ep es)[i]?=some (gw w S ep es)[i]:=by simp[hio]
  rw[e1];show wpAny _ _ _ _ _ _;refine JT (wpAny_setField ho hd (by simp) ?_);have d1:=Obj.data_mapFields hd (·.setIfInBounds 0 (rawInt ((ck w t (i+1):Nat):Int)));have ho1:=K5 (Obj.mapFields (·.setIfInBounds 0 (rawInt ((ck w t (i+1):Nat):Int)))) ho (Obj.isFreed_of_fields d1);refine JT (wpAny_setField (s:={ s with heap:=_ }) ho1 d1 (by simp) ?_);have d2:=Obj.data_mapFields d1 (·.setIfInBounds 1 (rawInt ((i:Int)+1)));have ho3:=K5 (Obj.mapFields (·.setIfInBounds 1 (rawInt ((i:Int)+1)))) ho1 (Obj.isFreed_of_fields d2);have sb:=(Lu s.heap it (Obj.mapFields (·.setIfInBounds 0 (rawInt ((ck w t (i+1):Nat):Int))))).trans (Lu _ it (Obj.mapFields (·.setIfInBounds 1 (rawInt ((i:Int)+1)))));refine J2 ⟨_,rfl,J2 ?_⟩;refine hQ _ _ s.toks (by rw[e1];rfl) ⟨⟨_,ho3,?_,?_⟩,o2,(sb.2 S hne).trans ho2,hex2,hd2⟩ (fun b o hb e=>(sb.2 b (fun z=>hb (by simp[z]))).trans e)
  .exact(Obj.cls_mapFields ..).trans ((Obj.cls_mapFields ..).trans hc)
  .rw[d2];simp[rawInt]
 done:=fun s Q E st hQ=>by
  obtain⟨x1,x2⟩:=st;have hT:=x1.typeIs;obtain⟨o,ho,hc,hd⟩:=x1;unfold pyNext;refine JT (wpAny_attempt (wpAny_callSpecial?_slot (name:=Str.ofString "__next__") hT slot_setiter_next (Lx slot_setiter_next hT dL ?_ (d_ _))));refine nC ho hd x2 (Tbl.fits T hs) rfl (lI x2 T hs hpl hle (J1 _) ?_);have e1:(gw w S ep es)[es.size]?=none:=by simp[iP]
  rw[e1];show wpAny _ _ _ _ _ _;refine JT (wpAny_setField ho hd (by simp) ?_);refine JT ?_;simp only[newExc,newTuple];refine JT (Mz ?_ (by size_fits));refine JT (m:=firstArgMember _ _) (wpAny_of_eq (a:=Value.none) (by first|rfl|(simp only[firstArgMember];rfl)) ?_);refine Mz ?_ (by size_fits);simp only[raiseNew];refine JT (wpAny_handled ?_);rw[show A.in1.handled=none from hh];refine JT (J2 (wpAny_throw ?_));refine JT (wpAny_isInstance (T:="StopIteration") (b:=true) ⟨_,Kb _ rfl,rfl⟩ isSubtype_stop ?_);refine J2 (hQ _ s.toks fun b o hb e=>?_);exact JV _ (JV _ (((Lu ..).2 b (fun z=>hb (by simp[z]))).trans e))
 self:=fun _ _ _ _ st hQ=>by refine wpAny_pyIter_slot st.1.typeIs eh (Lx eh st.1.typeIs im ?_ (iQ _));exact J2 ⟨_,rfl, "set_iterator",_,st.1.typeIs,slot_setiter_next.lookup,hQ⟩
theorem tR {S:Addr}{es:Array (Int×Ni)}{ep:Nat}{t:SetTable}{Q:Ni->Nf->Prop}(r:jB s.heap S es ep t)(hf:t.fits es.size=true)(hpl:t.plain=true)
 (h:Q (.ref s.heap.objs.size) { s with heap:=s.heap.push { cls:=.type "set_iterator",data:=.fields #[.int 0 0,.int 0 0,.ref S,.int es.size 0,.int ep 0] } }):wpAny (model prog w) A (pyIter (.ref S)) Q E s:=by
 obtain⟨o,ho,hex,hd⟩:=r;have hT:s.TypeIs (.ref S) "set":=⟨o,ho,hex.1⟩;refine wpAny_pyIter_slot hT PySem.F.slot_set_iter (Lx PySem.F.slot_set_iter hT mO ?_ (PySem.F.args_set_iter_1 _));unfold Builtin.«frozenset.__iter__» Builtin.Frozenset.slot0 slotArgs;simp only[List.isEmpty_nil,Ln,J_,↓reduceIte,bind_assoc,LB,My];unfold Builtin.Frozenset.addrOf Builtin.Frozenset.sizeOf setEntries;refine JT (J2 (JT (J2 ?_)));simp only[bind_assoc];refine JT (KZ ho hd hf (JT (J2 (JT (J2 ?_)))));refine JT ?_;unfold setDrawn;refine JT (KZ ho hd hf ?_);dsimp only;refine JT (tQ (J2 ?_));show wpAny _ _ (if (!byT w&&(!t.plain&&decide (es.size>1)))=true then _ else _) _ _ _;rw[hpl];simp only[Ln,LO,Bool.and_false,J_,KR];refine JT (J2 ?_);refine JT (wpAny_setEpoch_of ho hd hf ?_);exact JT (Mz (J2 ⟨_,rfl, "set_iterator",_,⟨_,Kb _ rfl,rfl⟩,slot_setiter_next.lookup,h⟩))
theorem xQ {S:Addr} {Q:Bool->Nf->Prop} (hT:s.TypeIs (.ref S) "set") (h:Q false s):wpAny (model prog w) A (Builtin.List.listLengthHint (.ref S)) Q E s:=by
 unfold Builtin.List.listLengthHint;refine JT (wpAny_specialOf hT PySem.F.slot_set_len.lookup ?_);dsimp only;have hsp:splitId "set.__len__"=some ("set", "__len__"):=by decide +kernel
 rw[hsp];dsimp only;refine JT (wpAny_isInstance hT sub_set_self ?_);simp only[Ln,J_,KR];rw[JW (by decide +kernel)];refine JT (Mh hT ?_);exact J2 h
theorem re {S:Addr}{es:Array (Int×Ni)}{ep:Nat}{t:SetTable}{Q:List Ni->Nf->Prop}(r:jB s.heap S es ep t)(T:Tbl t es)(hs:t.place.size<=t.mask)(hpl:t.plain=true)(hle:t.led=!byT w)(hh:A.handled=none)(hz:es.size<=63)
 (h:∀ h' tk,s.heap.objs.size<h'.objs.size->(∀ b o,s.heap.get? b=some o->h'.get? b=some o)->Q ((gw w S ep es).toList.map (·.2)) { s with heap:=h',toks:=tk }):wpAny (model prog w) A (collect (.ref S)) Q E s:=by
 have hf:=Tbl.fits T hs;obtain⟨o,ho,hex,hd⟩:=r;have hlt:S<s.heap.objs.size:=J6 ho;unfold collect;refine JT (wpAny_runValue (K9 entry_proto_collect' (show wpAny _ _ (do again (.builtin "list.__iadd__" ⟨[<- newList [],.ref S],[]⟩)) _ _ s from ?_)));refine JT (wpAny_newList (J2 ⟨Code.quiet_builtin _ (by decide +kernel),K9 entry_list_iadd' ?_⟩));show wpAny _ _ (Builtin.List.listExtendWith (.ref s.heap.objs.size) (.ref S) (.ref s.heap.objs.size)) _ _ { s with heap:=s.heap.push (seqObj "list" #[] 0) };have ho1:(s.heap.push (seqObj "list" #[] 0)).get? S=some o:=JV _ ho;have hT1:Shared.TypeIs { s with heap:=s.heap.push (seqObj "list" #[] 0) } (.ref S) "set":=⟨o,ho1,hex.1⟩;unfold Builtin.List.listExtendWith;refine JT (Mh hT1 ?_);have q1:Builtin.List.listSameRef (.ref s.heap.objs.size) (.ref S)=false:=by simp[Builtin.List.listSameRef,Mg hlt]
 have q2:(Value.type "set"==Value.type "list")=false:=by decide
 have q3:(Value.type "set"==Value.type "tuple")=false:=by decide
 simp only[q1,q2,q3,Bool.or_false,J_,KR];refine JT (tR ⟨o,ho1,hex,hd⟩ hf hpl ?_);have hT2:Shared.TypeIs { s with heap:=(s.heap.push (seqObj "list" #[] 0)).push { cls:=.type "set_iterator",data:=.fields #[.int 0 0,.int 0 0,.ref S,.int es.size 0,.int ep 0] } } (.ref S) "set":=⟨o,JV _ ho1,hex.1⟩;refine JT (KN (xQ hT2 ?_));rw[JW (by decide +kernel)];refine JT (wpAny_rule ?_);have hS0:((s.heap.push (seqObj "list" #[] 0)).push { cls:=.type "set_iterator",data:=.fields #[.int 0 0,.int 0 0,.ref S,.int es.size 0,.int ep 0] }).get? s.heap.objs.size=some (seqObj "list" #[] 0):=JV _ (Kb _ rfl);refine JT (show wpAny _ _ (updateSeq s.heap.objs.size (·.push .none) >>= fun _=>updateSeq s.heap.objs.size (·.pop)) _ _ _ from ?_);refine JT (wpAny_updateSeq hS0 rfl ?_);have hS1:=K5 (Obj.mapSeq (·.push Value.none)) hS0 rfl;refine wpAny_updateSeq (hz:=by seq_fits) hS1 rfl ?_;have hS2:=K5 (Obj.mapSeq (·.pop)) hS1 rfl;generalize hH:(((s.heap.push (seqObj "list" #[] 0)).push { cls:=.type "set_iterator",data:=.fields #[.int 0 0,.int 0 0,.ref S,.int es.size 0,.int ep 0] }).update s.heap.objs.size (Obj.mapSeq (·.push Value.none))).update s.heap.objs.size (Obj.mapSeq (·.pop))=H2 at *;have oth:∀ b o,b≠s.heap.objs.size->((s.heap.push (seqObj "list" #[] 0)).push { cls:=.type "set_iterator",data:=.fields #[.int 0 0,.int 0 0,.ref S,.int es.size 0,.int ep 0] }).get? b=some o->H2.get? b=some o:=fun b o hb e=>by rw[<- hH];exact(Lb _ _ (Ko hb)).trans ((Lb _ _ (Ko hb)).trans e)
 have old:∀ b o,s.heap.get? b=some o->H2.get? b=some o:=fun b o e=>oth b o (Kj (J6 e)) (JV _ (JV _ e));have hsz1:(s.heap.push (seqObj "list" #[] 0)).objs.size=s.heap.objs.size+1:=size_push' _ _;have hit:H2.get? (s.heap.objs.size+1)=some { cls:=.type "set_iterator",data:=.fields #[.int 0 0,.int 0 0,.ref S,.int es.size 0,.int ep 0] }:=oth _ _ (by omega) (by rw[<- hsz1];exact Kb _ rfl);refine J2 ⟨LK PySem.F.plain_extend_loop _,?_⟩;show codeAny _ _ (.builtin "list.extend.loop" ⟨[.ref s.heap.objs.size,.ref (s.heap.push (seqObj "list" #[] 0)).objs.size,.ref s.heap.objs.size],[]⟩) _ _;rw[hsz1];have W:Walks prog w A.in1 (s.heap.objs.size+1) [s.heap.objs.size+1,S] [s.heap.objs.size+1] es.size (fun i v=>((gw w S ep es)[i]?).map (·.2)=some v) (fun i h=>SetIt h (s.heap.objs.size+1) S (ck w t i) i es.size ep/\jB h S es ep t):=mP (Kj (Mx hlt)) (by simp[hh]) T hs hpl hle;refine codeAny_extend_loopS W.toS (by rw[KU];omega) s.heap.objs.size (by simp only[J5,KY,MB,not_or];exact⟨Kj (M_ _),Mg hlt⟩) _ es.size 0 _ #[] _ rfl (Kz _) ⟨⟨_,hit,rfl,rfl⟩,o,old S o ho,hex,hd⟩ (by rw[hS2];rfl) (ItemsOf.nil _) fun s' acc c hm hS' hacc=>?_;obtain⟨h',g',d',tk',os'⟩:=s';have eg:g'=s.gens:=hm.gens;have ed:d'=s.drawn:=hm.drawn;have eo:os'=s.os:=hm.os;subst eg ed eo;refine JT (wpAny_load hS' ?_);have ea:acc.toList=(gw w S ep es).toList.map (·.2):=by
  apply MY
  intro i;by_cases hi:i<acc.size
  .have e1:acc.toList[i]?=some acc[i]:=by rw[KC];simp[hi]
   have e2:=hacc.2 i acc[i] (by simp[hi]);rw[e1,J9,KC];exact e2.symm
  .rw[LW (by simpa using M9 hi),LW];rw[JU,Ld,iP,<- hacc.1];exact M9 hi
 show wpAny _ _ (pure acc.toList) _ _ _;rw[ea];refine J2 (h h' tk' (J6 hS') fun b o e=>hm.heap b o ?_ (old b o e));have:=J6 e;simp only[J5,KY,MB,not_or];exact⟨Kj this,Kj (Mx this)⟩
end
noncomputable def lexB:List Int->List Int->Bool
 | [],[]=>false
 | [],_::_=>true
 |_::_,[]=>false
 |a::x,b::y=>if a=b then lexB x y else decide (a<b)
theorem fO:∀ a:List Int,lexB a a=false
 | []=>rfl
 |a::x=>by unfold lexB;rw[JW rfl];exact fO x
theorem o5:∀ a b c:List Int,lexB a b=true->lexB b c=true->lexB a c=true
 | [],[],_,h,_=>by cases h
 | [],_::_,[],_,h=>by cases h
 | [],_::_,_::_,_,_=>rfl
 |_::_,[],_,h,_=>by cases h
 |_::_,_::_,[],_,h=>by cases h
 |a::x,b::y,c::z,h1,h2=>by
  unfold lexB at h1 h2 ⊢;by_cases e1:a=b
  .subst e1;rw[JW rfl]at h1;by_cases e2:a=c
   .subst e2;rw[JW rfl]at h2 ⊢;exact o5 x y z h1 h2
   .rw[J0 e2]at h2 ⊢;exact h2
  .rw[J0 e1]at h1;have h1:a<b:=by simpa using h1
   by_cases e2:b=c
   .subst e2;rw[J0 e1];simpa using h1
   .rw[J0 e2]at h2;have h2:b<c:=by simpa using h2
    rw[J0 (by omega)];simp;omega
theorem o6:∀ a b:List Int,a≠b->lexB a b=true\/lexB b a=true
 | [],[],h=>(h rfl).elim
 | [],_::_,_=>.inl rfl
 |_::_,[],_=>.inr rfl
 |a::x,b::y,h=>by
  unfold lexB;by_cases e:a=b
  .subst e;rw[JW rfl,JW rfl];exact o6 x y fun z=>h (by rw[z])
  .rw[J0 e,J0 (Ko e)];rcases Int.lt_or_gt_of_ne e with z|z
   .exact .inl (by simpa using z)
   .exact .inr (by simpa using z)
section
variable {prog:Nh}{w:World}{A:Nj}{E:Ni->Nf->Prop}{s:Nf}
theorem uI {Q:Bool->Nf->Prop}:∀{a b:List Int}{xs ys:List Ni}(i:Nat),ItemsAre (au prog w) (iK a) xs->ItemsAre (au prog w) (iK b) ys->Q (lexB a b) s->PySem.W.KatLex prog w A true (decide (xs.length<ys.length)) Q (xs.zip ys) i s
 | [],[],_,_,i,hx,hy,h=>by cases hx;cases hy;exact h
 | [],_::_,_,_,i,hx,hy,h=>by
  cases hx;cases hy with
  |cons h1 h2=>exact PySem.W.kat_nil h
 |_::_,[],_,_,i,hx,hy,h=>by
  cases hy;cases hx with
  |cons h1 h2=>exact PySem.W.kat_nil h
 |a::x,b::y,_,_,i,hx,hy,h=>by
  cases hx with
  | @cons _ v1 _ vs1 h1 hx'=>
   cases hy with
   | @cons _ v2 _ vs2 h2 hy'=>
    obtain⟨t1,rfl⟩:=kN h1;obtain⟨t2,rfl⟩:=kN h2;rw[List.zip_cons_cons];refine PySem.W.kat_cons (wpAny_eqBool_int ?_);unfold lexB at h;by_cases e:a=b
    .subst e;rw[JW rfl]at h;rw[beq_self_eq_true];refine PySem.W.kat_yes ?_;have:=uI (i+1) hx' hy' h;simpa using this
    .rw[J0 e]at h;have eb:(a==b)=false:=by simpa using e
     rw[eb];refine PySem.W.kat_no ?_;cases i with
     |zero=>exact oneLt_int h
     |succ i=>exact PySem.W.kat_one _ _ (lt_int h)
structure Tups (prog:Nh) (w:World) (h:Heap) (xs:List TItem):Prop where
 is:∀ x∈xs,(tK prog w).is h (iK x.1) x.2
 ne:∀ x∈xs,x.1≠[]
 nd:(xs.map (·.1)).Nodup
noncomputable def valsT (xs:List TItem):List Ni:=xs.map fun x=>Value.ref x.2
noncomputable def cv (xs:List TItem)(i:Nat):List Int:=((xs[i]?).map (·.1)).getD []
theorem AU {xs:List TItem}(t:Tups prog w s.heap xs):Lt xs.length fun i j=>lexB (cv xs i) (cv xs j) where
 irr:=fun i=>fO _
 tr:=fun i j k=>o5 _ _ _
 tot:=fun i j hi hj e=>o6 _ _ fun z=>by
  have gi:cv xs i=(xs.map (·.1))[i]'(by simpa using hi):=by simp[cv,hi]
  have gj:cv xs j=(xs.map (·.1))[j]'(by simpa using hj):=by simp[cv,hj]
  rw[gi,gj]at z;rcases MS e with q|q
  .exact Kn.mp t.nd i j (by simpa using hi) (by simpa using hj) q z
  .exact Kn.mp t.nd j i (by simpa using hj) (by simpa using hi) q z.symm
theorem xR {xs:List TItem}(t:Tups prog w s.heap xs):CJ xs.length (fun i j=>lexB (cv xs i) (cv xs j)) (PySem.W.kas_ask prog w A (tuples' true) (valsT xs)) s:=by intro i j C hi hj h;have one:∀ k,k<xs.length->∃ x,(valsT xs).getD k Value.none=.ref x.2/\cv xs k=x.1/\x∈xs:=fun k hk=>⟨xs[k],by simp[valsT,hk],by simp[cv,hk],Na hk⟩;obtain⟨x,ex,kx,mx⟩:=one i hi;obtain⟨y,ey,ky,my⟩:=one j hj;unfold PySem.W.kas_ask;rw[ex,ey];obtain⟨ox,ix,nx,hx,cx,dx,lx⟩:=t.is x mx;obtain⟨oy,iy,ny,hy,cy,dy,ly⟩:=t.is y my;refine PySem.W.kat_lt hx dx hy dy ?_;have h:C (lexB (cv xs i) (cv xs j)) s:=h;rw[kx,ky]at h;have:=uI (A:=A) 0 lx ly h;simpa using this
theorem rf {h:Heap}:∀{xs:List TItem},(∀ x∈xs,(tK prog w).is h (iK x.1) x.2)->(∀ x∈xs,x.1≠[])->∃ fs:List Ni,PySem.W.KatTups h (valsT xs) fs/\fs.length=xs.length/\∀ v∈fs,∃ i t,v=Value.int i t
 | [],_,_=>⟨[],trivial,rfl,fun v hv=>nomatch hv⟩
 |x::xs,h1,h2=>by
  obtain⟨fs,a,b,c⟩:=rf (fun y hy=>h1 y (Kc _ hy)) fun y hy=>h2 y (Kc _ hy);obtain⟨ox,ix,nx,hx,cx,dx,lx⟩:=h1 x Kg;have hne:=h2 x Kg;obtain⟨k,b'⟩:=x;dsimp only at hne lx hx;cases k with
  |nil=>exact(hne rfl).elim
  |cons n ns=>
   generalize hl:ix.toList=l at lx;cases lx with
   | @cons _ v _ vs q1 q2=>
    obtain⟨t,rfl⟩:=kN q1;refine⟨.int n t::fs,⟨⟨b',ox,ix,nx,rfl,hx,cx,dx,?_⟩,a⟩,by simp[b],fun v hv=>?_⟩
    .rw[<- KC,hl];rfl
    .rcases J5.mp hv with rfl|hv
     .exact⟨n,t,rfl⟩
     .exact c v hv
theorem wb {xs:List TItem}{Q:SortKind->Nf->Prop}(t:Tups prog w s.heap xs)(hne:0<xs.length)(h:Q (tuples' true) s):wpAny (model prog w) A (keyKind' (valsT xs).toArray) Q E s:=by
 obtain⟨fs,a,b,c⟩:=rf t.is t.ne;refine PySem.W.kat_kind (T:=.type "int") a (by omega) (fun v hv=>?_) (by decide) ?_
 .obtain⟨i,t,rfl⟩:=c v hv;exact fun A Q E s k q=>J2 q
 .have:(Value.type "int" != Value.type "tuple")=true:=by decide
  rw[this];exact h
end
noncomputable def dM (xs:List TItem)(i:Nat):TItem:=(xs[i]?).getD ([],0)
theorem rh:∀(xs:List TItem),(List.range xs.length).map (dM xs)=xs:=by
 intro xs;apply MY
 intro i;rw[J9];by_cases h:i<xs.length
 .rw[List.getElem?_range h,KA h];simp[dM,h]
 .rw[LW (by simpa using h),LW (by simpa using h)];rfl
theorem rj (xs:List TItem)(i:Nat):cv xs i=(dM xs i).1:=by unfold cv dM;cases xs[i]?<;>rfl
section
variable {prog:Nh}{w:World}{A:Nj}{E:Ni->Nf->Prop}{s:Nf}
theorem Tups.off {h h':Heap} {xs:List TItem} {a:Addr} {o:Obj} (t:Tups prog w h xs) (ho:h.get? a=some o) (hc:o.cls=.type "list") (k:∀ b o,b≠a->h.get? b=some o->h'.get? b=some o):Tups prog w h' xs:=by refine⟨fun x hx=>?_,t.ne,t.nd⟩;obtain⟨ox,ix,nx,h1,c1,r⟩:=t.is x hx;refine⟨ox,ix,nx,k x.2 ox (fun e=>?_) h1,c1,r⟩;rw[e,ho]at h1;cases h1;rw[hc]at c1;exact absurd c1 (by decide)
theorem tS {N:Nat}{xs:List TItem}{p:Array Nat}(hN:N=xs.length)(pm:Pm N p):(p.toList.map (dM xs)).Perm xs:=by subst hN;have:=List.Perm.map (dM xs) pm;rw[rh]at this;exact this
theorem xS {xs:List TItem}{p:Array Nat}(pm:Pm xs.length p)(so:So (fun i j=>lexB (cv xs i) (cv xs j)) p xs.length):(p.toList.map (dM xs)).Pairwise fun x y=>lexB x.1 y.1=true:=by
 rw[Lq,Kn];intro i j hi hj hij;have hi':i<p.size:=by simpa using hi
 have hj':j<p.size:=by simpa using hj
 have:=so i j hij (by rw[<- pm.size];exact hj');dsimp only at this;rw[rj,rj]at this;have ei:bX p i=p.toList[i]:=by simp[bX,Array.getD,hi']
 have ej:bX p j=p.toList[j]:=by simp[bX,Array.getD,hj']
 rw[ei,ej]at this;exact this
theorem tT {xs:List TItem}{p:Array Nat}(pm:Pm xs.length p):(p.toList.map fun i=>(valsT xs).getD i Value.none)=valsT (p.toList.map (dM xs)):=by unfold valsT;rw[Kl];refine K4 fun i hi=>?_;have hi:i<xs.length:=Kv.mp (pm.mem_iff.mp hi);simp[dM,hi]
theorem wc {a:Addr} {n:Nat} {xs:List TItem} {P:PySem.Fin->Nf->Prop} (ho:s.heap.get? a=some (seqObj "list" (valsT xs).toArray n)) (t:Tups prog w s.heap xs) (h64:xs.length<64)
 (h:∀ ys h' c,ys.Perm xs->ys.Pairwise (fun x y=>lexB x.1 y.1=true)->h'.get? a=some (seqObj "list" (valsT ys).toArray c)->(∀ b o,b≠a->s.heap.get? b=some o->h'.get? b=some o)->P (.done (.ret .none)) { s with heap:=h' }) :
 wpAny (model prog w) A (Builtin.«list.sort» ⟨[.ref a],[]⟩) P E s:=by
 have ha:a<s.heap.objs.size:=J6 ho;have hvl:(valsT xs).length=xs.length:=by simp[valsT]
 rw[list_sort_plain];refine JT (listItems_at ho rfl (JT (listUpdate_at ho rfl ?_ (by rw[J3,hvl,KU];omega) (Kz _))));obtain⟨e1,ho1⟩ : ∃ e1,(s.heap.update a (Obj.mapSeq fun _=>#[])).get? a=some (seqObj "list" #[] e1):=⟨_,get?_update_seq ho (fun _=>#[])⟩;refine JT (seqEpoch_at ho1 rfl (JT (wpAny_newTuple (JT (wpAny_newList (KN ?_) (Kz _))) (by show(valsT xs).length<=_;rw[hvl,KU];omega))));have lt1:a<(s.heap.update a (Obj.mapSeq fun _=>(#[]:Array Ni))).objs.size:=J6 ho1;have oth:∀ b o,b≠a->s.heap.get? b=some o->(((s.heap.update a (Obj.mapSeq fun _=>(#[]:Array Ni))).push (seqObj "tuple" (valsT xs).toArray 0)).push (seqObj "list" #[] 0)).get? b=some o:=fun b o hb e=>JV _ (JV _ ((Lb _ _ (Ko hb)).trans e));have ho6:(((s.heap.update a (Obj.mapSeq fun _=>(#[]:Array Ni))).push (seqObj "tuple" (valsT xs).toArray 0)).push (seqObj "list" #[] 0)).get? a=some (seqObj "list" #[] e1):=JV _ (JV _ ho1);show wpAny (model prog w) A _ P E { s with heap:=((s.heap.update a (Obj.mapSeq fun _=>(#[]:Array Ni))).push (seqObj "tuple" (valsT xs).toArray 0)).push (seqObj "list" #[] 0) };generalize (((s.heap.update a (Obj.mapSeq fun _=>(#[]:Array Ni))).push (seqObj "tuple" (valsT xs).toArray 0)).push (seqObj "list" #[] 0))=H6 at ho6 oth;dsimp only;have fin:∀(ys:List TItem)(out:Array Ni),ys.Perm xs->ys.Pairwise (fun x y=>lexB x.1 y.1=true)->out=(valsT ys).toArray->P (.done (.ret .none)) { s with heap:=H6.update a (Obj.mapSeq fun _=>out) }:=fun ys out hp hw ho=>by subst ho;exact h ys _ _ hp hw (get?_update_seq ho6 fun _=>(valsT ys).toArray) fun b o hb e=>(Lb _ _ (Ko hb)).trans (oth b o hb e)
 by_cases h2:(valsT xs).toArray.size<2
 .rw[JW h2,JW h2];refine JT (J2 ?_);rw[StateT.run_pure];have hx2:xs.length<2:=by rw[J3,hvl]at h2;exact h2
  have hout:Array.map (fun x:Keyed=>x.2) ((valsT xs).toArray.zip (valsT xs).toArray)=(valsT xs).toArray:=by apply Array.ext';simp[List.map_snd_zip]
  refine JT (J2 ?_);dsimp only;refine JT (seqEpoch_at ho6 rfl (JT (listUpdate_at ho6 rfl ?_ (Kz _) ?_)))
  .simp only[My,J_,KR];refine J2 (fin xs _ (List.Perm.refl _) ?_ hout)
   match xs,hx2 with
   | [],_=>exact List.Pairwise.nil
   | [x],_=>exact List.pairwise_singleton _ _
  .show(Array.map (fun x:Keyed=>x.2) ((valsT xs).toArray.zip (valsT xs).toArray)).size<=_;rw[hout,J3,hvl,KU];omega
 .rw[J0 h2,J0 h2];have hx2:2<=xs.length:=by rw[J3,hvl]at h2;omega
  have t6:Tups prog w H6 xs:=t.off ho rfl oth;refine JT (wb (s:={ s with heap:=H6 }) t6 (by omega) ?_);refine JT (Lc (PySem.W.kat_run (s:={ s with heap:=H6 }) (Q:=fun st' s'=>s'={ s with heap:=H6 }/\∃ p:Array Nat,Pm xs.length p/\So (fun i j=>lexB (cv xs i) (cv xs j)) p xs.length/\arrOf st'=p.map (PySem.W.kas_item ((valsT xs).toArray.zip (valsT xs).toArray))/\failedOf st'=none)
   (G:=fun p s'=>s'={ s with heap:=H6 }/\Pm xs.length p/\So (fun i j=>lexB (cv xs i) (cv xs j)) p xs.length) rfl (by omega) (by omega) (fun p st' s' _ a2 a3 g=>⟨g.1,p,g.2.1,g.2.2,a2,a3⟩) ?_) ?_ fun _ _ e=>e)
  .rw[hvl];exact AS (AU (s:={ s with heap:=H6 }) t6) (xR (s:={ s with heap:=H6 }) t6) hx2 fun p pm so=>⟨rfl,pm,so⟩
  .rintro⟨⟨⟩,st'⟩ s' ⟨rfl,p,pm,so,har,hf⟩;dsimp only;have hout:(arrOf st').map (·.2)=(valsT (p.toList.map (dM xs))).toArray:=by rw[PySem.W.kat_snds rfl har,tT pm]
   rw[hout];refine JT (seqEpoch_at ho6 rfl (JT (listUpdate_at ho6 rfl ?_ (Kz _) ?_)))
   .rw[hf];simp only[My,J_,KR];exact J2 (fin _ _ (tS rfl pm) (xS pm so) rfl)
   .show(valsT (p.toList.map (dM xs))).toArray.size<=_;have:=pm.size;simp[valsT,this];rw[KU];omega
theorem rl {its:List TItem}:∀(l:List (Int×Ni)),(∀ e∈l,∃ x∈its,e=((tK prog w).hash (iK x.1),Value.ref x.2))->∃ zs:List TItem,l=zs.map (fun x=>((tK prog w).hash (iK x.1),Value.ref x.2))/\∀ z∈zs,z∈its
 | [],_=>⟨[],rfl,fun z hz=>nomatch hz⟩
 |e::l,h=>by
  obtain⟨x,hx,rfl⟩:=h e Kg;obtain⟨zs,h1,h2⟩:=rl l fun e he=>h e (Kc _ he);exact⟨x::zs,by rw[h1];rfl,fun z hz=>by
   rcases J5.mp hz with rfl|hz
   .exact hx
   .exact h2 z hz⟩
structure SortedOf (its ys:List TItem):Prop where
 sub:∀ y∈ys,y∈its
 all:∀ x∈its,∃ y∈ys,y.1=x.1
 pw:ys.Pairwise fun x y=>lexB x.1 y.1=true
theorem o7 {S:Addr}{es:Array (Int×Ni)}{its:List TItem}{Q:Ni->Nf->Prop}(sa:SetAt w s.heap S es)(v:SInv prog w es its)(his:∀ x∈its,(tK prog w).is s.heap (iK x.1) x.2)(hne:∀ x∈its,x.1≠[])(hh:A.handled=none)(hz:es.size<=63)
 (h:∀ ys h' tk l c,SortedOf its ys->s.heap.objs.size<=l->h'.get? l=some (seqObj "list" (valsT ys).toArray c)->(∀ b o,s.heap.get? b=some o->h'.get? b=some o)->Q (.ref l) { s with heap:=h',toks:=tk }) :
 wpAny (model prog w) A (call (.builtin "sorted") [.ref S]) Q E s:=by
 obtain⟨o,ep,t,ho,hex,hd,T,sp,hpl,hle⟩:=sa;have pe:=q_ w S ep es;obtain⟨zs,ez,zm⟩:=rl (prog:=prog) (w:=w) (its:=its) (gw w S ep es).toList fun e he=>v.el e (pe.mem_iff.mp he);have ev:(gw w S ep es).toList.map (·.2)=valsT zs:=by rw[ez,Kl];rfl
 have hzl:zs.length=es.size:=by have:=KQ List.length ez;rw[JU,Ld,iP]at this;exact this.symm
 have nd:(zs.map (·.1)).Nodup:=by have pw:=(pe.pairwise_iff (fun{x y} hxy a b e1 e2 m1 m2 z=>hxy b a e2 e1 m2 m1 z.symm)).mpr v.pw;rw[ez,Lq]at pw;unfold List.Nodup;rw[Lq];exact Lk (fun{a b} ha hb hab=>hab a b rfl rfl (zm a ha) (zm b hb)) pw
 refine Calls.call_function_entry kind_sorted plain_sorted entry_sorted (args_sorted1 _) ?_;unfold Builtin.«sorted»;refine JT (m:=checkCount "sorted" 1 1 _) (J2 (JT (re ⟨o,ho,hex,hd⟩ T (iN sp) hpl hle (by simp[hh]) hz fun h1 tk1 g1 k1=>?_)));rw[ev];refine JT (wpAny_newList ?_ (by show(valsT zs).length<=_;simp only[valsT,JU];rw[hzl,KU];omega));have hoL:(h1.push (seqObj "list" (valsT zs).toArray 0)).get? h1.objs.size=some (seqObj "list" (valsT zs).toArray 0):=Kb _ rfl;have kk:∀ b o,s.heap.get? b=some o->(h1.push (seqObj "list" (valsT zs).toArray 0)).get? b=some o:=fun b o e=>JV _ (k1 b o e);have ge:s.heap.objs.size<=h1.objs.size:=Mf g1;have t1:Tups prog w (h1.push (seqObj "list" (valsT zs).toArray 0)) zs:=⟨fun x hx=>fM (his x (zm x hx)) kk,fun x hx=>hne x (zm x hx),nd⟩;refine JT (KN (Lx slot_list_sort ⟨_,hoL,rfl⟩ entry_list_sort ?body (args_list_sort _)))
 case body=>
  refine wc (s:={ s with heap:=h1.push (seqObj "list" (valsT zs).toArray 0),toks:=tk1 }) hoL t1 (by omega) fun ys h2 c2 hp hw hl2 k2=>⟨_,rfl,?_⟩;refine J2 ⟨_,rfl,h ys h2 tk1 _ c2 ⟨fun y hy=>zm y (hp.mem_iff.mp hy),fun x hx=>?_,hw⟩ ge hl2 fun b o e=>k2 b o (fun z=>?_) (kk b o e)⟩
  .obtain⟨y,y1,y2,y3⟩:=v.all x hx;have y4:((tK prog w).hash (iK y.1),Value.ref y.2)∈zs.map (fun x=>((tK prog w).hash (iK x.1),Value.ref x.2)):=by rw[<- ez];exact pe.mem_iff.mpr y3
   obtain⟨z,z1,z2⟩:=J8.mp y4;have z3:z.2=y.2:=by simp only[L4,LF]at z2;exact z2.2
   refine⟨z,hp.mem_iff.mpr z1,?_⟩;have:=(tK prog w).inj (his z (zm z z1)) (by rw[z3];exact his y y1);rw[tO this,y2]
  .subst z;exact absurd (J6 e) (Nat.not_lt.mpr ge)
end
def TupsIn (H:Hp):List V->List TItem->Prop:=Paired fun v x=>v=.ref x.2/\H x.2=some (.tup ((iK x.1).map kV))
theorem TupsIn.get {H:Hp}:∀{vs:List V}{us:List Ni}{its:List TItem},TupsIn H vs its->Vals vs us->its.length=us.length/\(∀(i:Nat)(v:Ni),us[i]?=some v->∃ x:TItem,its[i]?=some x/\v=.ref x.2)/\∀ x∈its,H x.2=some (.tup ((iK x.1).map kV))
 |_,_,_,.nil,.nil=>⟨rfl,fun i v e=>by simp at e,fun x hx=>nomatch hx⟩
 |_,_,_,.cons (a:=v) (b:=y) q t,.cons (b:=u) r s=>by
  obtain⟨a,b,c⟩:=TupsIn.get t s;obtain⟨rfl,q⟩:=q;obtain rfl:u=Value.ref y.2:=r;refine⟨by simp[a],fun i v e=>?_,fun x hx=>?_⟩
  .cases i with
   |zero=>simp at e;exact⟨y,rfl,e.symm⟩
   |succ i=>exact b i v (by simpa using e)
  .rcases J5.mp hx with rfl|hx
   .exact q
   .exact c x hx
section
variable {X:Cx}
theorem wd (hc:X.calm=true) (hu:X.A.units+64<cLine):CallR X (.type "set") (fun xs H Q=>∃ l vs its,xs=[.ref l]/\Rd H l (.lst vs)/\TupsIn H vs its/\vs.length<=63/\
 ∀ p es,H p=none->SInv X.prog X.w es its->Q (.ref p) (ay H p (.ext fun h=>SetAt X.w h p es))):=by
 intro pins s σ H xs us Q I r h;obtain⟨l,vs,its,rfl,hl,hp,hz,q⟩:=h;obtain⟨u,rfl,ru⟩:=iH r;obtain rfl:u=Value.ref l:=ru;obtain⟨_,us,n,rv,hg⟩:=(show ObjOk X.prog X.w H s.heap l (.lst vs) from hl.ok I.hok);obtain⟨g1,g2,g3⟩:=hp.get rv;refine v_ (I.ok.hd hc) hu hg (its:=its) (by rw[g1,J3]) (by rw[J3,<- rv.length];exact hz) (fun i v e=>g2 i v (by simpa using e)) (fun x hx=>dc I.hok (g3 x hx)) fun h' tk es hS v hk=>?_;have hf:H s.heap.objs.size=none:=I.hok.fresh (J1 _);refine⟨.ref s.heap.objs.size,_,I.laid (a:=s.heap.objs.size) (o:=.ext fun h=>SetAt X.w h s.heap.objs.size es) (t':=tk) (fun b o e=>hk b o (J6 e) e) (J1 _) ?_,rfl,q _ es hf v⟩;exact⟨hS,(let ⟨o,_,_,e,_⟩:=hS;⟨o,e⟩),fun h1 h2 hs k=>SetAt.keep hs k⟩
theorem o8 (hc:X.calm=true):CallR X (.builtin "sorted") (fun xs H Q=>∃ p es its,xs=[.ref p]/\H p=some (.ext fun h=>SetAt X.w h p es)/\SInv X.prog X.w es its/\(∀ x∈its,H x.2=some (.tup ((iK x.1).map kV)))/\(∀ x∈its,x.1≠[])/\its.length<=63/\
 ∀ l ys,H l=none->SortedOf its ys->Q (.ref l) (ay H l (.lst (ys.map fun y=>.ref y.2)))):=by
 intro pins s σ H xs us Q I r h;obtain⟨p,es,its,rfl,hp,v,ht,hne,hz,q⟩:=h;obtain⟨u,rfl,ru⟩:=iH r;obtain rfl:u=Value.ref p:=ru;obtain⟨hS,_,_⟩:=(show ObjOk X.prog X.w H s.heap p (.ext fun h=>SetAt X.w h p es) from I.hok p _ hp);have hes:es.size<=63:=Ky v.sz hz;refine o7 hS v (fun x hx=>dc I.hok (ht x hx)) hne (I.ok.hd hc) hes fun ys h' tk l c so hle hl hk=>?_;have hf:H l=none:=I.hok.fresh hle;have hyl:ys.length<=63:=by
  have nd:(ys.map (·.1)).Nodup:=by unfold List.Nodup;rw[Lq];exact so.pw.imp fun{a b} hab e=>by rw[e,fO]at hab;cases hab
  refine Ky ?_ hz;have:∀(a b:List (List Int)),a.Nodup->(∀ x∈a,x∈b)->a.length<=b.length:=by
   intro a;induction a with
   |nil=>intro b _ _;exact Kz _
   |cons x a ih=>intro b nd hs;have hx:x∈b:=hs x Kg;have:=ih (b.erase x) (K1.mp nd).2 fun y hy=>(MH (show y≠x from fun e=>(K1.mp nd).1 (by rw[<- e];exact hy))).mpr (hs y (Kc _ hy));rw[Mi hx]at this;have:0<b.length:=Ms hx;simp only[KD];omega
  have:=this _ (its.map (·.1)) nd fun k hk=>by obtain⟨y,hy,rfl⟩:=J8.mp hk;exact J8.mpr ⟨y,so.sub y hy,rfl⟩
  simpa using this
 refine⟨.ref l,_,I.laid (a:=l) (o:=.lst (ys.map fun y=>.ref y.2)) (t':=tk) hk hle ?_,rfl,q l ys hf so⟩;refine⟨by rw[JU,KU];omega,valsT ys,c,?_,hl⟩;clear so hl hyl;induction ys with
 |nil=>exact .nil
 |cons y ys ih=>exact .cons rfl ih
end
end L2
namespace L2
open PySem PySem.Spec PyProof.Rows
section
variable {prog:Nh}{w:World}{A:Nj}{R:Result->Nf->Prop}{I:Addr}{fp wr:List Addr}{G:Array GenState->Array GenState->Prop}{n:Nat}{P:Nat->Ni->Prop}{St:Nat->Nf->Prop}
end
section
variable {prog:Nh}{w:World}{A:Nj}{E:Ni->Nf->Prop}{s:Nf}
end
section
variable {X:Cx}
end
end L2
namespace L2
open PySem PySem.Spec PySem.Calls PyProof.Rows
def GO (d:Addr)(o:Obj)(u:HO)(kvs:List (Key×V)):It:=⟨fun i H=>H d=some (.frz o u)/\i<kvs.length,fun i H x H'=>∃ p k v,H p=none/\x=.ref p/\H'=ay H p (.tup [kV k,v])/\kvs[i]?=some (k,v),fun i H=>H d=some (.frz o u)/\kvs.length<=i⟩
theorem KV.at {a:List (Key×V)}{b:List (Key×Ni)}(r:KV a b):∀(i:Nat) p q,a[i]?=some p->b[i]?=some q->p.1=q.1/\RelV p.2 q.2:=by
 induction r with
 |nil=>intro i p q e;simp at e
 |cons hq t ih=>
  intro i p q e1 e2;cases i with
  |zero=>simp at e1 e2;subst e1 e2;exact hq
  |succ i=>exact ih i p q (by simpa using e1) (by simpa using e2)
theorem tU {P:Nh}{w:World}{K:Ng}{es:List Expr}{k0:Nat}{pos:Pos}{d it:Addr}{o:Obj}{u0:HO}{kvs:List (Key×V)}{vs:List (Key×Ni)}{ep:Nat}{h0:Heap}(rel:KV kvs vs)(x0:h0.DictAt (au P w) d vs ep)(e0:h0.get? d=some o) :
 Turn P w K (.Tuple es k0 pos) (GO d o u0 kvs) [it] it (fun i h=>∃ ok ov,IsItemIter h it d i vs.length ep ok ov) where
 mem:=by simp
 obj:=fun i h st b hb=>by
  have e:b=it:=by simpa using hb
  subst e;obtain⟨ok,ov,e⟩:=st;exact⟨_,e,fun v z=>by cases z⟩
 keep:=fun i h h' st k=>by obtain⟨ok,ov,e⟩:=st;exact⟨ok,ov,k it (by simp) _ e⟩
 item:=by
  intro X hP hw hK hc i pins s σ H E I hf st hg;subst hP hw hK;obtain⟨hd,hi⟩:=hg;obtain⟨ok,ov,st⟩:=st;obtain⟨eo,_⟩:=(show ObjOk X.prog X.w H s.heap d (.frz o u0) from I.hok d _ hd);have x1:=gv x0 e0 eo;have fi:=hf it (by simp);have hiv:i<vs.length:=by rw[<- rel.length];exact hi
  have hk:kvs[i]?=some kvs[i]:=by simp[hi]
  have hv:vs[i]?=some vs[i]:=by simp[hiv]
  obtain⟨ek,rv⟩:=rel.at i _ _ hk hv;refine wpAny_pyNext_items_item (k:=vs[i].1) (v:=vs[i].2) st x1 hv fun key h' gr hout hT hsz kp=>?_;refine⟨_,rfl,wpAny_letOwnedTupleGo_items hout fun h'' hit'' hs''=>?_⟩;have keep2:∀ b o,b≠it->s.heap.get? b=some o->h''.get? b=some o:=fun b o n1 q=>(hs''.2 b n1).trans (kp b o n1 q);have hTe:s.heap.objs.size≠it:=Mg (J6 st);have hT'':h''.get? s.heap.objs.size=some { cls:=.type "tuple",data:=.seq #[key,vs[i].2] }:=(hs''.2 _ hTe).trans hT;have I1:Inv X pins σ (ay H s.heap.objs.size (.tup [kV kvs[i].1,kvs[i].2])) { s with heap:=h'' }:=by
   refine I.step (g':=s.gens) (d':=s.drawn) (ch:=[it]) (fun b hb=>?_) (fun b o _ _ hn q _=>keep2 b o (fun z=>hn (by simp[z])) q)
    (fun b o _ _ hn q _=>⟨o.slots,keep2 b o (fun z=>hn (by simp[z])) q⟩) (fun b o _ q hH=>by rw[af (Kj (J6 q))];exact hH)
    (fun b o hn q=>⟨o,keep2 b o (fun z=>hn (by simp[z])) q⟩) (fun b ys q=>by rw[af (ap q (I.hok.fresh (J1 _)))];exact q)
    (fun b o' u' q=>by rw[af (ap q (I.hok.fresh (J1 _)))];exact q) (fun b ps q=>⟨#[],by rw[af (ap q (I.hok.fresh (J1 _)))];simp[q]⟩) (fun m hm=>?_) (fun b u' q=>?_) I.bare
   .have:b=it:=by simpa using hb
    subst this;exact⟨fi.2.2.2.1,fi.2.1,fi.2.2.2.2.1,fi.2.2.2.2.2⟩
   .obtain⟨o,es',ep,ho',r⟩:=hm;exact⟨o,es',ep,keep2 _ o (Ko fi.2.1) ho',r⟩
   .by_cases hb:b=s.heap.objs.size
    .subst hb;rw[ai]at q;cases q;refine⟨by show 2<=sizeLine;decide,[key,vs[i].2],.cons ?_ (.cons rv .nil),⟨_,hT'',rfl,0,rfl⟩⟩;rw[ek];exact oU gr
    .rw[af hb]at q;refine(I.hok b u' q).stay (fun c v hc' q'=>keep2 c v ?_ q') (fun c r=>by rw[af (ap r (I.hok.fresh (J1 _)))];exact r) fun c ys r=>by rw[af (ap r (I.hok.fresh (J1 _)))];exact r
     rcases hc' with z|z
     .rw[z];exact ap q fi.1
     .exact ap z fi.1
  refine⟨.ref s.heap.objs.size,_,I1,rfl,⟨_,kvs[i].1,kvs[i].2,I.hok.fresh (J1 _),rfl,rfl,hk⟩,⟨_,_,hit''⟩,fun b hb=>?_⟩;have:b=it:=by simpa using hb
  subst this;rw[af (Kj (J6 st))];exact fi.1
 done:=by intro X hP hw hK hc i pins s σ H E I hf st hg;subst hP hw hK;obtain⟨hd,hi⟩:=hg;obtain⟨ok,ov,st⟩:=st;obtain⟨eo,_⟩:=(show ObjOk X.prog X.w H s.heap d (.frz o u0) from I.hok d _ hd);have x1:=gv x0 e0 eo;obtain⟨f0,f1,f2,f3,f4,f5⟩:=hf it (by simp);have hl:=rel.length;exact wpAny_pyNext_items_end (I.ok.hd hc) st x1 (by simp;omega) fun h' eb=>⟨rfl,I.turned (t':=s.toks) (fun b o hb e=>eb b o hb e) f0 f1 f3 f4 f5⟩
 self:=fun A i s Q E st h=>by obtain⟨ok,ov,st⟩:=st;have hT:s.TypeIs (.ref it) "dict_itemiterator":=⟨_,st,rfl⟩;refine wpAny_pyIter_slot hT F.slot_dict_itemiterator_iter (Lx F.slot_dict_itemiterator_iter hT (entryFor_alias (id':="dict_keyiterator.__iter__") (by kernel_rfl) rfl (by decide +kernel) (by kernel_rfl):entryFor table "dict_itemiterator.__iter__"=some Builtin.«dict_keyiterator.__iter__») ?_ (F.args_dict_itemiterator_iter_1 _));show wpAny _ _ (ret (.ref it)) _ _ s;exact J2 ⟨_,rfl, "dict_itemiterator",_,hT,F.slot_dict_itemiterator_next.lookup,h⟩
section
variable {X:Cx}{es:List Expr}{k0:Nat}{gq:Pos}
def IV (X:Cx)(tl:TE):TI:=fun σ H R=>tl σ H fun x H1=>∃ d kvs u,x=.ref d/\(u=.dK kvs\/(u=.dT []/\kvs=[]))/\((∃ o,H1 d=some (.frz o u)/\R (GO d o u kvs) H1)\/(H1 d=some u/\∀ o,(∀ o' v,X.H₀ d≠some (.frz o' v))->R (GO d o u kvs) (ay H1 d (.frz o u))))
theorem xT {l:Expr} {tl:TE} {apos cpos:Pos} (hl:PE X l tl) (hbase:autoParam (attributeBase l "items" X.env (eval l X.env)=eval l X.env) Nq._auto_1) (hline:autoParam ((apos.endLine==cpos.line)=true) Nq._auto_1):PI X (.Tuple es k0 gq) (.Call (.Attribute l "items" apos) [] [] cpos) (IV X tl):=by
 intro pins s σ H R I h;refine wpAny_Call_method0_late hbase hline (bz (hl pins s σ H _ I h) fun v s1 ⟨x,H1,I1,r1,q1⟩=>?_);obtain⟨d,kvs,u,e,hu,q⟩:=q1;subst e;cases r1;have d9:dI u:=by rcases hu with rfl|⟨rfl,_⟩<;>exact True.intro
 have fin:∀(o:Obj)(H2:Hp),Inv X pins σ H2 s1->H2 d=some (.frz o u)->R (GO d o u kvs) H2->MethodOn X.prog X.w X.A "items" cpos (.ref d) [] (fun v s1=>wpAny (model X.prog X.w) X.A (pyIter v) (Ij X pins σ (.Tuple es k0 gq) R) X.xe s1) X.xe s1:=fun o H2 I2 e2 q2=>by
  obtain⟨eo,hx⟩:=(show ObjOk X.prog X.w H2 s1.heap d (.frz o u) from I2.hok d _ e2);have key:(d==sysModules)=false/\∃ vs,KV kvs vs/\s1.heap.DictOf (au X.prog X.w) d vs:=by
   rcases hu with rfl|⟨rfl,rfl⟩
   .obtain⟨z,hd,vs,rel,dd⟩:=hx;exact⟨hd,vs,rel,dd⟩
   .obtain⟨hd,dd⟩:=ii hx;exact⟨hd,[],.nil,dd⟩
  obtain⟨hd,vs,rel,dd⟩:=key;obtain⟨ep,da⟩:=dd.dictAt;have hnod:∀ a,Value.ref d=.ref a->∃ ob,s1.heap.get? a=some ob/\ob.dict=none:=fun a e=>by cases e;obtain⟨o',_,_,e',ex,_⟩:=dd;exact⟨o',e',ex.2.1⟩
  refine⟨"dict", "dict.items",KI,PySem.F.slot_dict_items,PySem.F.type_dict_items,dd.typeIs,hnod,LQ rfl (PySem.evalArgs_none ?_)⟩;refine MR PySem.F.slot_dict_items dd.typeIs PySem.F.entry_dict_items (PySem.F.args_dict_items_1 _) (meets_dict_items (au X.prog X.w) d hd) ⟨⟨vs,dd⟩,?_⟩;have I3:Inv X pins σ H2 { s1 with heap:=s1.heap.push { cls:=.type "dict_items",data:=.fields #[.ref d] } }:=I2.kept (t':=s1.toks) fun b o e=>JV _ e;have e3:({ s1 with heap:=s1.heap.push { cls:=.type "dict_items",data:=.fields #[.ref d] } }:Nf).heap.get? d=some o:=JV _ eo;have da3:=gv da eo e3;generalize hs3:({ s1 with heap:=s1.heap.push { cls:=.type "dict_items",data:=.fields #[.ref d] } }:Nf)=s3 at I3 e3 da3;have hv:s3.heap.IsItemsView s1.heap.objs.size d:=by rw[<- hs3];exact⟨_,Kb _ rfl,rfl,rfl⟩
  show wpAny _ _ (pyIter (.ref s1.heap.objs.size)) _ _ _;refine wpAny_pyIter_items hv da3 ?_;refine⟨s3.heap.objs.size,[s3.heap.objs.size],_,_,H2,rfl,I3.kept (t':=s3.toks) fun b o e=>JV _ e,tU rel da3 e3,⟨_,_,Kb _ rfl⟩,fun b hb=>?_,q2⟩;have e:b=s3.heap.objs.size:=by simpa using hb
  subst e;exact I3.fpOk (J1 _) (I3.hok.fresh (J1 _))
 rcases q with⟨o,e1,q⟩|⟨e1,q⟩
 .exact fin o H1 I1 e1 q
 .have hob:∃ o,s1.heap.get? d=some o:=by
   rcases hu with rfl|⟨rfl,_⟩
   .obtain⟨_,_,_,_,o,_,_,ho,_⟩:=(show ObjOk X.prog X.w H1 s1.heap d (.dK kvs) from I1.hok d _ e1);exact⟨o,ho⟩
   .obtain⟨_,_,_,_,o,_,_,ho,_⟩:=(show ObjOk X.prog X.w H1 s1.heap d (.dT []) from I1.hok d _ e1);exact⟨o,ho⟩
  obtain⟨o,ho⟩:=hob;exact fin o _ (I1.frz e1 d9 ho) ai (q o (I1.nofrz e1 d9))
end
section
variable {X:Cx}
def xU:List V->Hp->VK->Prop:=fun xs H Q=>∃ d kvs u,xs=[.ref d]/\(u=.dK kvs\/(u=.dT []/\kvs=[]))/\Rd H d u/\kvs.length<=sizeLine/\∀ l,H l=none->Q (.ref l) (ay H l (.lst (kvs.map fun p=>kV p.1)))
theorem uJ:∀{vs:List V}{its:List Ni},vs.length=its.length->(∀(i:Nat) v u,vs[i]?=some v->its[i]?=some u->RelV v u)->Vals vs its
 | [],[],_,_=>.nil
 | [],_::_,e,_=>by cases e
 |_::_,[],e,_=>by cases e
 |v::vs,u::its,e,f=>.cons (f 0 v u rfl rfl) (uJ (by simpa using e) fun i w z a b=>f (i+1) w z (by simpa using a) (by simpa using b))
theorem tV (hc:X.calm=true):CallR X (.type "list") xU:=by
 intro pins s σ H xs us Q I r h;obtain⟨d,kvs,u,rfl,hu,hrd,hz,q⟩:=h;obtain⟨w,rfl,rx⟩:=iH r;cases rx;have hx:=hrd.ok I.hok;have key:(d==sysModules)=false/\∃ vs,KV kvs vs/\s.heap.DictOf (au X.prog X.w) d vs:=by
  rcases hu with rfl|⟨rfl,rfl⟩
  .obtain⟨z,hd,vs,rel,dd⟩:=hx;exact⟨hd,vs,rel,dd⟩
  .obtain⟨hd,dd⟩:=ii hx;exact⟨hd,[],.nil,dd⟩
 obtain⟨hd,vs,rel,dd⟩:=key;obtain⟨ep,da⟩:=dd.dictAt;have hl:=rel.length;refine PySem.W.kdl_call (PySem.W.kdl_dict (knd:=au X.prog X.w) (kvs:=vs) (ep:=ep) hd) (I.ok.hd hc) da (by rw[<- hl];exact hz) fun h' tk acc c' kp e it=>?_;obtain⟨i1,i2⟩:=it;have la:acc.toList.length=kvs.length:=by rw[Ld,i1,hl]
 have rv:Vals (kvs.map fun p=>kV p.1) acc.toList:=by
  refine uJ (by rw[JU,la]) fun i v w ev ew=>?_;rw[J9]at ev;cases ek:kvs[i]? with
  |none=>rw[ek]at ev;cases ev
  |some p=>rw[ek]at ev;cases ev;obtain⟨k,x,e1,e2⟩:=i2 i w (by rw[<- KC];exact ew);obtain⟨ek',_⟩:=rel.at i _ _ ek e1;show RelV (kV p.1) w;rw[show p.1=k from ek'];exact oU e2
 have e:h'.get? s.heap.objs.size=some { cls:=.type "list",dict:=none,data:=.seq acc.toList.toArray c',slots:=#[] }:=by rw[Array.toArray_toList];exact e
 exact⟨.ref s.heap.objs.size,_,I.laid (t':=tk) kp (J1 _) (show ObjOk X.prog X.w _ h' _ (.lst (kvs.map fun p=>kV p.1)) from⟨by rw[JU];exact hz,acc.toList,c',rv,e⟩),rfl,q _ (I.hok.fresh (J1 _))⟩
end
section
open PySem.MeetsSeq PySem.SeqAt
open PySem.AutoSeq1 (wpAny_loadPart')
end
end L2
namespace L2
open PySem PySem.Spec PyProof.Rows
section
variable {X:Cx}{hc hc2:Str}{Ch Ch2:Addr}{np hpos np2 hpos2 pos epos:Pos}{b₀ c₀:Stmt}{suite suite2:List Stmt}{ts ts2:TS}{te:TX}{e:Expr}
end
open Sem (wp)
open Builtin
section
variable {prog:Nh}{w:World}{A:Nj}{E:Ni->Nf->Prop}{s:Nf}
theorem IsTupIter.at {h h':Heap}{a t:Addr}{i:Nat}(x:IsTupIter h a t i)(e:∀ o,h.get? a=some o->h'.get? a=some o):IsTupIter h' a t i:=let ⟨o,ho,r⟩:=x;⟨o,e o ho,r⟩
end
open Sem (wp)
open Builtin
def SIt (k:Bool) (h:Heap) (j t:Addr) (n:Nat):Prop:=∃ o,h.get? j=some o/\o.cls=.type (if k then "tuple_iterator" else "list_iterator")/\o.data=.fields #[.ref t,.int n 0]
def JI (k:Bool) (h:Heap) (t:Addr) (xs:Array Ni):Prop:=∃ o,h.get? t=some o/\o.cls=.type (if k then "tuple" else "list")/\∃ n,o.data=.seq xs n
theorem SIt.at {k:Bool}{h h':Heap}{a t:Addr}{i:Nat}(x:SIt k h a t i)(e:∀ o,h.get? a=some o->h'.get? a=some o):SIt k h' a t i:=let ⟨o,ho,r⟩:=x;⟨o,e o ho,r⟩
section
variable {prog:Nh}{w:World}{A:Nj}{E:Ni->Nf->Prop}{s:Nf}
end
noncomputable def lJ (kts:List (Addr×List V))(a:Addr)(o:Obj)(ns:List Int):Hp:=fun b=>match kts.lookup b with
 |some xs=>some (.tup xs)
 |none=>if b=a then some (.frz o (.lst (ns.map V.int))) else none
section
variable {kts:List (Addr×List V)}{a b:Addr}{o:Obj}{ns:List Int}{xs:List V}
theorem AV (e:kts.lookup b=some xs):lJ kts a o ns b=some (.tup xs):=by unfold lJ;rw[e]
theorem AW (e:kts.lookup a=none):lJ kts a o ns a=some (.frz o (.lst (ns.map V.int))):=by unfold lJ;rw[e];exact JW rfl
theorem AX (e:kts.lookup b=none)(n:b≠a):lJ kts a o ns b=none:=by unfold lJ;rw[e];exact J0 n
end
theorem iR:∀{vs:List Ni}{ns:List Int},IntsAre vs ns->Vals (ns.map V.int) vs
 |_,_,.nil=>.nil
 |_,_,.cons n t h=>.cons ⟨t,rfl⟩ (iR h)
theorem we {P:Nh}{w:World}{K:Ng}{mg mb:Str->Option Ni}{CX:CXT}{k:Nat}{fa a:Addr}{fd:FuncData}{x:Str}{sp:Sp}{s₁:Nf}{vs:List Ni}{ns:List Int}{kts:List (Addr×List V)}
 (KX:K.In s₁.heap) (hns:s₁.heap.Ns mainGlobals mg) (hb:s₁.heap.Ns builtinsNs mb) (hbb:∀ x:Str,x≠"__name__"->mb x=bootBuiltins x) (hlim:s₁.heap.NoLimit) (hg:s₁.gens=#[])
 (ha:s₁.heap.get? a=some { cls:=.type "list",data:=.seq vs.toArray }) (hi:IntsAre vs ns) (hl:ns.length<=sizeLine) (hr:Room k callerA)
 (hK:∀ o,K.lookup a=some o->o.cls=.type "list"->False)
 (hT:∀ b xs,kts.lookup b=some xs->K.lookup b=none/\∃(o:Obj)(its:Array Ni)(n:Nat),s₁.heap.get? b=some o/\o.cls=.type "tuple"/\o.data=.seq its n/\its.size<=sizeLine/\Vals xs its.toList)
 (hM:∀ p∈K,∀ b xs,Av p.2=some (b,xs)->kts.lookup b=some xs)
 (F:∀ base:Heap,K.In base->base.Ns mainGlobals mg->FnOk P w K mg base CX k fa fd [x] sp) (hbind:∀(s:Nf)(u:Ni),BindsTo s fd ⟨[u],[]⟩ [(x,u)])
 (hsp:∀ H:Hp,(∃ o,H a=some (.frz o (.lst (ns.map V.int))))->sp [.ref a] H (fun v _=>v=.bl true) fun _ _ _=>False)
 (hCX:∀ H e s',CX [] H s₁ (fun _ _ _=>False) e s'->False) :
 codeAny (model P w) callerA (.call (.ref fa) ⟨[.ref a],[]⟩) (fun r s'=>r=.ok (.ret (.bool true))/\OldK s₁.heap s'.heap/\s'.os=s₁.os/\AllBare s'.gens) s₁:=by
 have rv:=iR hi;have noK:K.lookup a=none:=by
  cases q:K.lookup a with
  |none=>rfl
  |some o=>have e:=KX a o q;rw[ha]at e;cases e;exact(hK _ q rfl).elim
 have noT:kts.lookup a=none:=by
  cases q:kts.lookup a with
  |none=>rfl
  |some xs=>obtain⟨_,o,its,n,e,c,_⟩:=hT a xs q;rw[ha]at e;cases e;exact absurd c (by simp)
 obtain⟨ob,eob⟩ : ∃ ob:Obj,ob={ cls:=.type "list",data:=.seq vs.toArray }:=⟨_,rfl⟩;rw[<- eob]at ha;generalize eH:lJ kts a ob ns=H;have Ha:H a=some (.frz ob (.lst (ns.map V.int))):=by rw[<- eH];exact AW noT
 have Ht:∀ b xs,kts.lookup b=some xs->H b=some (.tup xs):=fun b xs e=>by rw[<- eH];exact AV e
 have Hn:∀ b,kts.lookup b=none->b≠a->H b=none:=fun b e n=>by rw[<- eH];exact AX e n
 have freeK:∀ b o,K.lookup b=some o->H b=none:=fun b o e=>by
  refine Hn b ?_ fun z=>by rw[z,noK]at e;cases e
  cases q:kts.lookup b with
  |none=>rfl
  |some xs=>rw[(hT b xs q).1]at e;cases e
 have freeD:∀(b:Addr)(o:Obj)(es:Array DictEntry)(ep:Nat),s₁.heap.get? b=some o->o.data=.dict es ep->H b=none:=fun b o es ep e d=>by
  refine Hn b ?_ fun z=>?_
  .cases q:kts.lookup b with
   |none=>rfl
   |some xs=>obtain⟨_,o',its,n,e',_,d',_⟩:=hT b xs q;rw[e]at e';cases e';rw[d]at d';cases d'
  .rw[z,ha]at e;cases e;rw[eob]at d;cases d
 have nsK:∀{b:Addr}{m:Str->Option Ni},s₁.heap.Ns b m->(qE s₁.heap H).Ns b m:=fun{b m} ⟨o,es,ep,e,d,r⟩=>⟨o,es,ep,qF e (freeD b o es ep e d),d,r⟩;have hKb:K.In (qE s₁.heap H):=fun b o e=>qF (KX b o e) (freeK b o e);have hMd:Mod K mg (qE s₁.heap H):=⟨hKb,nsK hns,⟨mb,nsK hb,hbb⟩,let ⟨mc,h1,h2⟩:=hlim;⟨mc,nsK h1,h2⟩⟩;have hok:HOk P w H s₁.heap:=fun b u e=>by
  cases q:kts.lookup b with
  |some xs=>rw[Ht b xs q]at e;cases e;obtain⟨_,o,its,n,e1,c,d,z,r⟩:=hT b xs q;refine⟨by rw[r.length];simpa using z,its.toList,r,o,e1,c,n,by simpa using d⟩
  |none=>
   by_cases hba:b=a
   .rw[hba,Ha]at e;cases e;rw[hba];exact⟨ha,by rw[JU];exact hl,vs,_,rv,by rw[ha,eob]⟩
   .rw[Hn b q hba]at e;cases e
 have e0:Env0 P w K mg (qE s₁.heap H) callerA [] s₁ H:=⟨rfl,hMd,fun b o e=>As e,Nat.le_of_eq (vT _ _),trivial,fun b hb=>absurd (show b∈([]:List Addr) from hb) (by simp),hok,.of_eq hg,fun p hp b xs e=>Ht b xs (hM p hp b xs e)⟩;refine MO ((F _ hKb (nsK hns)).run callerA [] s₁ H ⟨[.ref a],[]⟩ [.ref a] [.ref a] _ _ hr e0 (hbind s₁ (.ref a)) (.cons rfl .nil) (hsp H ⟨ob,Ha⟩)) fun r s' h=>?_;cases r with
 |error e=>exact(hCX H e s' h).elim
 |ok fl=>
  cases fl with
  |next=>exact False.elim h
  |brk=>exact False.elim h
  |cont=>exact False.elim h
  |ret u=>
   obtain⟨v,H',os,bare,un,hok',r',q⟩:=h;have q':v=.bl true:=q;subst q';obtain rfl:u=Value.bool true:=r';refine⟨rfl,OldK.of_keep fun b o e=>?_,os,bare⟩;by_cases hba:b=a
   .rw[hba]at e ⊢;have z2:=un.frzs a ob _ Ha;obtain⟨e2,_⟩:=hok' a _ z2;rw[ha]at e;cases e;exact e2
   .refine un.keep b o e ?_ (by intro z;exact absurd (show b∈([]:List Addr) from z) (by simp)) (by simp);cases q:kts.lookup b with
    |none=>exact .inl (Hn b q hba)
    |some xs=>exact .inr ⟨xs,Ht b xs q⟩
section
variable {K K':Ng}{g:Addr}{kts:List (Addr×List V)}
def IW (K:Ng):Bool:=K.all fun p=>(Av p.2).isNone
structure SubK (K K':Ng):Prop where
 look:∀ b o,K.lookup b=some o->(∀ its n,o.data≠.seq its n)->K'.lookup b=some o
theorem wf:SubK K K:=⟨fun _ _ e _=>e⟩
theorem SubK.code (S:SubK K K'){cd:Ni}{q:Str}(h:PySem.W.codeIn K cd q=true):PySem.W.codeIn K' cd q=true:=by
 unfold PySem.W.codeIn at h ⊢;cases cd with
 |ref c=>
  dsimp only at h ⊢;cases e:K.lookup c with
  |none=>rw[e]at h;cases h
  |some o=>
   obtain⟨o1,o2,o3,o4⟩:=o;cases o3 with
   |fields vs=>rw[S.look c _ e (fun _ _ z=>nomatch z)];rw[e]at h;exact h
   |_=>rw[e]at h;cases h
 |_=>cases h
theorem SubK.keep (S:SubK K K'){f:Addr}{o1:Ni}{o2:Option Addr}{fd:FuncData}{o4:Array (Option Ni)}(e:K.lookup f=some ⟨o1,o2,.func fd,o4⟩):PySem.W.keepIn K' (.ref f)=true:=by unfold PySem.W.keepIn;dsimp only;rw[S.look f _ e (fun _ _ z=>nomatch z)]
theorem SubK.ns (S:SubK K K'){n:Addr}{x:Str}{r:Option Ni}(h:PySem.W.nsIn K n x=some r):PySem.W.nsIn K' n x=some r:=by
 unfold PySem.W.nsIn at h ⊢;cases e:K.lookup n with
 |none=>rw[e]at h;cases h
 |some o=>
  obtain⟨o1,o2,o3,o4⟩:=o;cases o3 with
  |dict es ep=>rw[S.look n _ e (fun _ _ z=>nomatch z)];rw[e]at h;exact h
  |_=>rw[e]at h;cases h
theorem SubK.nsOk (S:SubK K K'){n:Addr}(h:PySem.W.nsOkIn K n=true):PySem.W.nsOkIn K' n=true:=by
 unfold PySem.W.nsOkIn at h ⊢;cases e:K.lookup n with
 |none=>rw[e]at h;cases h
 |some o=>
  obtain⟨o1,o2,o3,o4⟩:=o;cases o3 with
  |dict es ep=>rw[S.look n _ e (fun _ _ z=>nomatch z)];rw[e]at h;exact h
  |_=>rw[e]at h;cases h
theorem SubK.tail (S:SubK K K'){bm:List Ni}:∀{l:List Ni},PySem.W.tailIn K bm l=true->PySem.W.tailIn K' bm l=true
 | [],h=>h
 |v::r,h=>by
  unfold PySem.W.tailIn at h ⊢;rw[MM]at h ⊢;refine h.imp id fun h=>?_;cases v with
  |ref A=>
   dsimp only at h ⊢;cases e:K.lookup A with
   |none=>rw[e]at h;cases h
   |some o=>
    obtain⟨o1,o2,o3,o4⟩:=o;cases o3 with
    |cls cd=>rw[S.look A _ e (fun _ _ z=>nomatch z)];rw[e]at h;dsimp only at h ⊢;simp only[Kh,LP]at h ⊢;exact⟨⟨S.nsOk h.1.1,S.ns h.1.2⟩,S.tail h.2⟩
    |_=>rw[e]at h;cases h
  |_=>cases h
theorem SubK.exc (S:SubK K K'){C:Addr}{bm:List Ni}{i:String}(h:PySem.W.excIn K C bm i=true):PySem.W.excIn K' C bm i=true/\DQ K' C=DQ K C:=by
 unfold PySem.W.excIn at h ⊢;unfold DQ;cases e:K.lookup C with
 |none=>rw[e]at h;cases h
 |some o=>
  obtain⟨o1,o2,o3,o4⟩:=o;rw[e]at h;cases o3 with
  |cls cd=>
   rw[S.look C _ e (fun _ _ z=>nomatch z)];refine⟨?_,rfl⟩;split at h
   .rename_i dd cd' sl he;injection he with he;injection he with he1 he2 he3 he4;injection he3 with he3;subst he1 he2 he3 he4
    try dsimp only at h
    try dsimp only
    split at h
    .rename_i hm hs;simp only[Kh,LP]at h ⊢;exact⟨⟨⟨h.1.1.1,S.tail h.1.1.2⟩,S.nsOk h.1.2⟩,S.ns h.2⟩
    .cases h
   .cases h
  |_=>split at h<;>first|cases h|(rename_i he;injection he with he;injection he with _ _ he _;cases he)
end
noncomputable def uK:Ni->Bool
 | .type n=>n=="list"
 |_=>false
def IX (K:Ng):Bool:=K.all fun p=>!uK p.2.cls
theorem xV {a:Addr} {o:Obj}:∀{K:Ng},IX K=true->K.lookup a=some o->o.cls=.type "list"->False
 | [],_,e,_=>by cases e
 |(b,x)::r,h,e,c=>by
  unfold IX at h;rw[List.all_cons,Kh]at h;rw[LN]at e;split at e
  .cases e;rw[c]at h;have h1:=h.1;simp[uK]at h1
  .exact xV (K:=r) h.2 e c
section
variable {l:PySem.W.OpenLaw}{n k:Nat}{q:Nh}{loose:List Str}{XP:(Str->Option Ni)->Heap->Prop}{YP:World->Heap->Prop}{d:DefRec}{K:Params->Ng}{CX:World->CXT}{sp:World->Sp}{x:Str}
theorem xW (hn:l.most=some n)(hn2:n<=sizeLine)(hdf:d.params.defaults=[])(hr:Room k callerA)(hY:∀(w:World)(h:Heap),YP w h->(K w.params).In h)
 (hL:∀ w:World,IX (K w.params)=true/\IW (K w.params)=true)
 (F:∀(w:World)(mg:Str->Option Ni)(fa:Addr)(h:Heap),(K w.params).In h->h.Ns mainGlobals mg->mg d.name=some (.ref fa)->
   ∃ fd:FuncData,(∀(s:Nf)(u:Ni),BindsTo s fd ⟨[u],[]⟩ [(x,u)])/\∀ base:Heap,(K w.params).In base->base.Ns mainGlobals mg->FnOk l.prog w (K w.params) mg base (CX w) k fa fd [x] (sp w))
 (hsp:∀(w:World)(H:Hp)(a:Addr)(ns:List Int),ns.length<=n->(∃ o,H a=some (.frz o (.lst (ns.map V.int))))->sp w [.ref a] H (fun v _=>v=.bl true) fun _ _ _=>False)
 (hCX:∀(w:World)(H:Hp)(s:Nf)(e:Ni)(s':Nf),CX w [] H s (fun _ _ _=>False) e s'->False) :
 PySem.W.WalkO q loose XP YP l.row.toRowW d [] (fun f vs=>PySem.call f vs):=by
 refine Att.attach_call hn hdf fun w s₀ s₁ mg mb fa o pm cd doc a vs ns G Y ho hd hcd hmg hobj hints bO hg=>?_;have KX:=hY w _ Y;obtain⟨fd,hb,hF⟩:=F w mg fa _ KX G.T.g hmg;exact we (kts:=[]) KX G.T.g G.T.b G.T.builtins G.T.nolimit hg hobj hints (Ky bO hn2) hr (fun o e c=>xV (hL w).1 e c) (fun b xs e=>by cases e)
  (fun p hp b xs e=>by have:=KJ.mp (hL w).2 p hp;rw[e]at this;cases this) hF hb (fun H hS=>hsp w H a ns bO hS) fun H e s'=>hCX w H s₁ e s'
end
end L2
set_option autoImplicit true
namespace L3
open PySem PySem.Spec PyProof.Rows L2
abbrev DK:=Sum Key (List Key)
inductive D where
 |non|bl (b:Bool)|int (i:Int)|str (x:Str)|tup (ds:List D)|lst (ds:List D)|dic (ks:List DK) (ds:List D)
mutual
noncomputable def D.flat:D->Bool
 | .lst _=>false
 | .dic _ _=>false
 | .tup ds=>D.flats ds
 |_=>true
noncomputable def D.flats:List D->Bool
 | []=>true
 |d::ds=>d.flat&&D.flats ds
end
mutual
noncomputable def D.dep:D->Nat
 | .lst ds=>D.deps ds+1
 | .tup ds=>D.deps ds+1
 | .dic _ ds=>D.deps ds+1000
 |_=>0
noncomputable def D.deps:List D->Nat
 | []=>0
 |d::ds=>max d.dep (D.deps ds)
end
mutual
noncomputable def eB:D->D->Bool
 | .non,e=>match e with|.non=>true|_=>false
 | .bl a,e=>match e with|.bl b=>a==b|.int b=>(if a then 1 else 0)==b|_=>false
 | .int a,e=>match e with|.int b=>a==b|.bl b=>a==(if b then 1 else 0)|_=>false
 | .str a,e=>match e with|.str b=>a==b|_=>false
 | .tup as,e=>match e with|.tup bs=>eqDs as bs|_=>false
 | .lst as,e=>match e with|.lst bs=>eqDs as bs|_=>false
 | .dic ks as,e=>match e with|.dic ls bs=>decide (ks=ls)&&eqDs as bs|_=>false
noncomputable def eqDs:List D->List D->Bool
 | [],bs=>match bs with|[]=>true|_=>false
 |a::as,bs=>match bs with|b::r=>eB a b&&eqDs as r|[]=>false
end
mutual
theorem fj:∀ d:D,eB d d=true
 | .non=>rfl
 | .bl a=>by simp[eB]
 | .int a=>by simp[eB]
 | .str a=>by simp[eB]
 | .tup as=>by simp only[eB];exact eqDs_refl as
 | .lst as=>by simp only[eB];exact eqDs_refl as
 | .dic ks as=>by simp only[eB,decide_true,M8];exact eqDs_refl as
theorem eqDs_refl:∀ ds:List D,eqDs ds ds=true
 | []=>rfl
 |d::ds=>by simp only[eqDs,fj d,eqDs_refl ds,L1]
end
def DAt (H:Hp)(a:Addr)(ks:List DK)(vs:List V):Prop:=(∃ kvs:List (Key×V),Rd H a (.dK kvs)/\ks=kvs.map (fun p=>.inl p.1)/\vs=kvs.map Prod.snd)\/∃ kvs:List (List Key×V),Rd H a (.dT kvs)/\ks=kvs.map (fun p=>.inr p.1)/\vs=kvs.map Prod.snd
noncomputable def D7:HO->Prop
 | .lst _=>True
 | .dK _=>True
 | .dT _=>True
 |_=>False
def Mu (H:Hp)(a:Addr):Prop:=∃ o,H a=some o/\D7 o
theorem Mu.lst {H:Hp}{a:Addr}{vs:List V}(h:H a=some (.lst vs)):Mu H a:=⟨_,h,True.intro⟩
theorem Mu.same {H H':Hp}{a:Addr}(h:Mu H a)(s:∀ o,H a=some o->H' a=some o):Mu H' a:=let ⟨o,e,m⟩:=h;⟨o,s o e,m⟩
theorem Mu.some {H:Hp}{a:Addr}(h:Mu H a):H a≠none:=by obtain⟨o,e,_⟩:=h;rw[e];simp
theorem xX {H:Hp}{a:Addr}{u:HO}(h:Rd H a u):∃ o,H a=some o:=h.elim (fun e=>⟨_,e⟩) fun⟨_,e⟩=>⟨_,e⟩
theorem io {H H':Hp}{a:Addr}{u:HO}(h:Rd H a u)(s:∀ o,H a=some o->H' a=some o):Rd H' a u:=h.imp (s _) fun⟨o,e⟩=>⟨o,s _ e⟩
theorem DAt.obj {H:Hp}{a:Addr}{ks:List DK}{vs:List V}(h:DAt H a ks vs):∃ o,H a=some o:=h.elim (fun⟨_,e,_⟩=>xX e) fun⟨_,e,_⟩=>xX e
theorem DAt.mu {H:Hp}{a:Addr}{ks:List DK}{vs:List V}(h:DAt H a ks vs)(n:∀ o u,H a≠some (.frz o u)):Mu H a:=by rcases h with⟨kvs,e|⟨o,e⟩,_⟩|⟨kvs,e|⟨o,e⟩,_⟩<;>first|exact⟨_,e,True.intro⟩|exact(n _ _ e).elim
theorem DAt.keep {H H':Hp}{a:Addr}{ks:List DK}{vs:List V}(h:DAt H a ks vs)(s:∀ o,H a=some o->H' a=some o):DAt H' a ks vs:=h.imp (fun⟨kvs,e,r⟩=>⟨kvs,io e s,r⟩) fun⟨kvs,e,r⟩=>⟨kvs,io e s,r⟩
theorem DAt.inj {H:Hp}{a:Addr}{ks ls:List DK}{vs ws:List V}(h:DAt H a ks vs)(g:DAt H a ls ws):ks=ls/\vs=ws:=by rcases h with⟨k1,e1|⟨o1,e1⟩,r1,r2⟩|⟨k1,e1|⟨o1,e1⟩,r1,r2⟩<;>rcases g with⟨k2,e2|⟨o2,e2⟩,q1,q2⟩|⟨k2,e2|⟨o2,e2⟩,q1,q2⟩<;>(rw[e1]at e2;cases e2;try exact⟨r1.trans q1.symm,r2.trans q2.symm⟩)
noncomputable def IY:HO->Prop
 | .dK _=>False
 | .dT _=>False
 | .frz _ (.dK _)=>False
 | .frz _ (.dT _)=>False
 |_=>True
theorem DAt.no {H:Hp}{a:Addr}{ks:List DK}{vs:List V}{o:HO}(h:DAt H a ks vs)(e:H a=some o)(n:IY o):False:=by rcases h with⟨k,z|⟨o',z⟩,_⟩|⟨k,z|⟨o',z⟩,_⟩<;>(rw[e]at z;cases z;exact n)
mutual
noncomputable def Is (H:Hp)(m:Addr->Prop):D->V->Prop
 | .non,v=>v=.non
 | .bl b,v=>v=.bl b
 | .int i,v=>v=.int i
 | .str x,v=>v=.str x
 | .tup ds,v=>∃ a vs,v=.ref a/\H a=some (.tup vs)/\IsAll H m ds vs
 | .lst ds,v=>∃ a vs,v=.ref a/\((H a=some (.lst vs)/\m a)\/∃ o,H a=some (.frz o (.lst vs))/\m a)/\IsAll H m ds vs
 | .dic ks ds,v=>∃ a vs,v=.ref a/\(DAt H a ks vs/\m a)/\IsAll H m ds vs
noncomputable def IsAll (H:Hp)(m:Addr->Prop):List D->List V->Prop
 | [],vs=>vs=[]
 |d::ds,vs=>∃ v r,vs=v::r/\Is H m d v/\IsAll H m ds r
end
noncomputable def fixd:HO->Prop
 | .tup _=>True
 | .frz _ _=>True
 |_=>False
section
variable {H H':Hp}{m m':Addr->Prop}
mutual
theorem Is.mono (kp:∀ a o,H a=some o->(m a\/fixd o)->H' a=some o)(mm:∀ a o,H a=some o->m a->m' a):∀{d:D}{v:V},Is H m d v->Is H' m' d v
 | .non,_,h=>h
 | .bl _,_,h=>h
 | .int _,_,h=>h
 | .str _,_,h=>h
 | .tup ds,_,h=>by obtain⟨a,vs,e,h1,h2⟩:=h;exact⟨a,vs,e,kp a _ h1 (.inr True.intro),IsAll.mono kp mm h2⟩
 | .lst ds,_,h=>by
  obtain⟨a,vs,e,h1,h2⟩:=h;refine⟨a,vs,e,?_,IsAll.mono kp mm h2⟩;rcases h1 with⟨h1,h3⟩|⟨o,h1,h3⟩
  .exact .inl ⟨kp a _ h1 (.inl h3),mm a _ h1 h3⟩
  .exact .inr ⟨o,kp a _ h1 (.inr True.intro),mm a _ h1 h3⟩
 | .dic ks ds,_,h=>by obtain⟨a,vs,e,h1,h2⟩:=h;obtain⟨o,eo⟩:=h1.1.obj;exact⟨a,vs,e,⟨h1.1.keep fun o e=>kp a o e (.inl h1.2),mm a o eo h1.2⟩,IsAll.mono kp mm h2⟩
theorem IsAll.mono (kp:∀ a o,H a=some o->(m a\/fixd o)->H' a=some o)(mm:∀ a o,H a=some o->m a->m' a):∀{ds:List D}{vs:List V},IsAll H m ds vs->IsAll H' m' ds vs
 | [],_,h=>h
 |d::ds,_,h=>by obtain⟨v,r,e,h1,h2⟩:=h;exact⟨v,r,e,Is.mono kp mm h1,IsAll.mono kp mm h2⟩
end
theorem Is.weak (mm:∀ a,m a->m' a){d:D}{v:V}(h:Is H m d v):Is H m' d v:=h.mono (fun _ _ e _=>e) fun a _ _=>mm a
theorem IsAll.weak (mm:∀ a,m a->m' a){ds:List D}{vs:List V}(h:IsAll H m ds vs):IsAll H m' ds vs:=h.mono (fun _ _ e _=>e) fun a _ _=>mm a
theorem Is.same (s:Same H H'){d:D}{v:V}(h:Is H m d v):Is H' m d v:=h.mono (fun a o e _=>s a o e) fun _ _ _ z=>z
theorem IsAll.same (s:Same H H'){ds:List D}{vs:List V}(h:IsAll H m ds vs):IsAll H' m ds vs:=h.mono (fun a o e _=>s a o e) fun _ _ _ z=>z
mutual
theorem Is.flat:∀{d:D}{v:V},d.flat=true->Is H m d v->Is H m' d v
 | .non,_,_,h=>h
 | .bl _,_,_,h=>h
 | .int _,_,_,h=>h
 | .str _,_,_,h=>h
 | .tup ds,_,f,h=>by obtain⟨a,vs,e,h1,h2⟩:=h;exact⟨a,vs,e,h1,IsAll.flat (by simpa only[D.flat] using f) h2⟩
 | .lst ds,_,f,_=>by simp[D.flat]at f
 | .dic ks ds,_,f,_=>by simp[D.flat]at f
theorem IsAll.flat:∀{ds:List D}{vs:List V},D.flats ds=true->IsAll H m ds vs->IsAll H m' ds vs
 | [],_,_,h=>h
 |d::ds,_,f,h=>by obtain⟨v,r,e,h1,h2⟩:=h;simp only[D.flats,Kh]at f;exact⟨v,r,e,Is.flat f.1 h1,IsAll.flat f.2 h2⟩
end
mutual
theorem Is.inj:∀{d e:D}{v:V},Is H m d v->Is H m' e v->d=e
 | .non,e,_,h,g=>by cases e<;>first|rfl|(cases h;first|(obtain⟨_,_,z,_⟩:=g;cases z;done)|cases g)
 | .bl _,e,_,h,g=>by cases e<;>(cases h;first|(obtain⟨_,_,z,_⟩:=g;cases z;done)|(cases g;rfl)|cases g)
 | .int _,e,_,h,g=>by cases e<;>(cases h;first|(obtain⟨_,_,z,_⟩:=g;cases z;done)|(cases g;rfl)|cases g)
 | .str _,e,_,h,g=>by cases e<;>(cases h;first|(obtain⟨_,_,z,_⟩:=g;cases z;done)|(cases g;rfl)|cases g)
 | .tup ds,e,_,h,g=>by
  obtain⟨a,vs,rfl,h1,h2⟩:=h;cases e with
  |tup es=>obtain⟨b,ws,z,g1,g2⟩:=g;cases z;rw[h1]at g1;cases g1;rw[IsAll.inj h2 g2]
  |lst es=>obtain⟨b,ws,z,g1,g2⟩:=g;cases z;rcases g1 with⟨g1,_⟩|⟨o,g1,_⟩<;>(rw[h1]at g1;cases g1)
  |dic ls es=>obtain⟨b,ws,z,g1,g2⟩:=g;cases z;exact(g1.1.no h1 True.intro).elim
  |_=>cases g
 | .lst ds,e,_,h,g=>by
  obtain⟨a,vs,rfl,h1,h2⟩:=h;cases e with
  |tup es=>obtain⟨b,ws,z,g1,g2⟩:=g;cases z;rcases h1 with⟨h1,_⟩|⟨o,h1,_⟩<;>(rw[h1]at g1;cases g1)
  |lst es=>
   obtain⟨b,ws,z,g1,g2⟩:=g;cases z;have e:vs=ws:=by rcases h1 with⟨h1,_⟩|⟨o,h1,_⟩<;>rcases g1 with⟨g1,_⟩|⟨o',g1,_⟩<;>(rw[h1]at g1;cases g1;try rfl)
   subst e;rw[IsAll.inj h2 g2]
  |dic ls es=>obtain⟨b,ws,z,g1,g2⟩:=g;cases z;rcases h1 with⟨h1,_⟩|⟨o,h1,_⟩<;>exact(g1.1.no h1 True.intro).elim
  |_=>cases g
 | .dic ks ds,e,_,h,g=>by
  obtain⟨a,vs,rfl,h1,h2⟩:=h;cases e with
  |tup es=>obtain⟨b,ws,z,g1,g2⟩:=g;cases z;exact(h1.1.no g1 True.intro).elim
  |lst es=>obtain⟨b,ws,z,g1,g2⟩:=g;cases z;rcases g1 with⟨g1,_⟩|⟨o,g1,_⟩<;>exact(h1.1.no g1 True.intro).elim
  |dic ls es=>obtain⟨b,ws,z,g1,g2⟩:=g;cases z;obtain⟨e1,e2⟩:=h1.1.inj g1.1;subst e1 e2;rw[IsAll.inj h2 g2]
  |_=>cases g
theorem IsAll.inj:∀{ds es:List D}{vs:List V},IsAll H m ds vs->IsAll H m' es vs->ds=es
 | [],es,_,h,g=>by
  cases h;cases es with
  |nil=>rfl
  |cons e es=>obtain⟨_,_,z,_⟩:=g;cases z
 |d::ds,es,_,h,g=>by
  obtain⟨v,r,rfl,h1,h2⟩:=h;cases es with
  |nil=>cases g
  |cons e es=>obtain⟨w,q,z,g1,g2⟩:=g;cases z;rw[Is.inj h1 g1,IsAll.inj h2 g2]
end
theorem IsAll.length:∀{ds:List D}{vs:List V},IsAll H m ds vs->vs.length=ds.length
 | [],_,h=>by cases h;rfl
 |d::ds,_,h=>by obtain⟨v,r,rfl,_,h2⟩:=h;simp[IsAll.length h2]
theorem IsAll.append:∀{ds es:List D}{vs ws:List V},IsAll H m ds vs->IsAll H m es ws->IsAll H m (ds++es) (vs++ws)
 | [],_,_,_,h,g=>by cases h;exact g
 |d::ds,_,_,_,h,g=>by obtain⟨v,r,rfl,h1,h2⟩:=h;exact⟨v,r++_,rfl,h1,IsAll.append h2 g⟩
theorem IsAll.snoc {ds:List D}{d:D}{vs:List V}{v:V}(h:IsAll H m ds vs)(g:Is H m d v):IsAll H m (ds++[d]) (vs++[v]):=h.append ⟨v,[],rfl,g,rfl⟩
theorem IsAll.get:∀{ds:List D}{vs:List V}{i:Nat}{d:D},IsAll H m ds vs->ds[i]?=some d->∃ v,vs[i]?=some v/\Is H m d v
 | [],_,_,_,_,e=>by simp at e
 |d::ds,_,0,_,h,e=>by obtain⟨v,r,rfl,h1,h2⟩:=h;simp at e;subst e;exact⟨v,rfl,h1⟩
 |d::ds,_,i+1,_,h,e=>by obtain⟨v,r,rfl,h1,h2⟩:=h;obtain⟨w,a,b⟩:=IsAll.get (i:=i) h2 (by simpa using e);exact⟨w,by simpa using a,b⟩
theorem IsAll.set:∀{ds:List D}{vs:List V}{d:D}{v:V}(i:Nat),IsAll H m ds vs->Is H m d v->IsAll H m (ds.set i d) (vs.set i v)
 | [],_,_,_,_,h,_=>by cases h;exact rfl
 |x::ds,_,d,v,0,h,g=>by obtain⟨w,r,rfl,h1,h2⟩:=h;exact⟨v,r,rfl,g,h2⟩
 |x::ds,_,d,v,i+1,h,g=>by obtain⟨w,r,rfl,h1,h2⟩:=h;exact⟨w,r.set i v,rfl,h1,IsAll.set i h2 g⟩
end
section
variable {P:Nh}{w:World}{H:Hp}{s:Nf}{m m':Addr->Prop}
theorem D8 (ok:HOk P w H s.heap){a:Addr}{vs:List V}(h:(H a=some (.lst vs)/\m a)\/∃ o,H a=some (.frz o (.lst vs))/\m a) :
 ∃ its:List Ni,Vals vs its/\s.heap.IsList a its.toArray:=by
 have key:ObjOk P w H s.heap a (.lst vs)->∃ its:List Ni,Vals vs its/\s.heap.IsList a its.toArray:=fun⟨_,its,n,r,e⟩=>⟨its,r,⟨_,e,rfl,n,rfl⟩⟩;rcases h with⟨h,_⟩|⟨o,h,_⟩
 .exact key (ok a _ h)
 .exact key (ok a _ h).2
theorem D9 (ok:HOk P w H s.heap){a:Addr}{vs:List V}(h:H a=some (.tup vs)):∃ its:List Ni,Vals vs its/\s.heap.IsTuple a its.toArray:=by obtain⟨_,its,r,e⟩:=ok a _ h;exact⟨its,r,e⟩
theorem wg (n:Nat)(e:Nat->Bool):(List.range n).all e=true↔∀ j,j<n->e j=true:=by simp[KJ,Kv]
theorem lK:∀(ds es:List D),eqDs ds es=true↔ds.length=es.length/\∀(j:Nat)(d e:D),ds[j]?=some d->es[j]?=some e->eB d e=true
 | [],[]=>by simp[eqDs]
 | [],e::es=>by simp[eqDs]
 |d::ds,[]=>by simp[eqDs]
 |d::ds,e::es=>by
  simp only[eqDs,Kh,lK ds es,KD,Nat.add_right_cancel_iff];constructor
  .rintro⟨h1,h2,h3⟩;refine⟨h2,fun j x y ex ey=>?_⟩;cases j with
   |zero=>simp at ex ey;subst ex;subst ey;exact h1
   |succ j=>exact h3 j x y (by simpa using ex) (by simpa using ey)
  .rintro⟨h2,h3⟩;exact⟨h3 0 d e rfl rfl,h2,fun j x y ex ey=>h3 (j+1) x y (by simpa using ex) (by simpa using ey)⟩
theorem dq:∀{ds:List D}{j:Nat}{d:D},ds[j]?=some d->d.dep<=D.deps ds
 | [],_,_,e=>by simp at e
 |d::ds,0,_,e=>by simp at e;subst e;simp only[D.deps];omega
 |d::ds,j+1,x,e=>by have:=dq (ds:=ds) (j:=j) (d:=x) (by simpa using e);simp only[D.deps];omega
theorem o9 (ok:HOk P w H s.heap){A:Nj}{ds es:List D}{vs ws:List V}{its its2:List Ni}(h1:IsAll H m ds vs)(h2:IsAll H m' es ws)(r1:Vals vs its)(r2:Vals ws its2)
 (rec:∀ d∈ds,∀ e∈es,∀(v w:V)(u u':Ni),Is H m d v->Is H m' e w->RelV v u->RelV w u'->SeqAt.EqAt A.in1 s u u' (eB d e)) :
 ∀ j (z1:j<its.toArray.size) (z2:j<its2.toArray.size),SeqAt.EqAt A.in1 s its.toArray[j] its2.toArray[j] (match ds[j]?,es[j]? with|some d,some e=>eB d e|_,_=>true):=by
 intro j z1 z2;have l1:=r1.length;have l2:=r2.length;have l3:=h1.length;have l4:=h2.length;have y1:j<its.length:=by simpa using z1
 have y2:j<its2.length:=by simpa using z2
 have k1:j<ds.length:=by omega
 have k2:j<es.length:=by omega
 obtain⟨v,ev,iv⟩:=h1.get (i:=j) (d:=ds[j]) (by simp[k1]);obtain⟨v',ev',iv'⟩:=h2.get (i:=j) (d:=es[j]) (by simp[k2]);obtain⟨u,eu,ru⟩:=r1.get ev;obtain⟨u',eu',ru'⟩:=r2.get ev';have q1:its.toArray[j]=u:=by
  have:its[j]?=some its[j]:=by simp[y1]
  rw[this]at eu;simpa using Kq eu
 have q2:its2.toArray[j]=u':=by
  have:its2[j]?=some its2[j]:=by simp[y2]
  rw[this]at eu';simpa using Kq eu'
 have g1:ds[j]?=some ds[j]:=by simp[k1]
 have g2:es[j]?=some es[j]:=by simp[k2]
 rw[q1,q2,g1,g2];exact rec ds[j] (Na _) es[j] (Na _) v v' u u' iv iv' ru ru'
theorem tW {ds es:List D}(hl:ds.length=es.length) :
 ((List.range ds.length).all fun j=>match ds[j]?,es[j]? with|some d,some e=>eB d e|_,_=>true)=eqDs ds es:=by
 rw[Mq,wg,lK];constructor
 .intro h;refine⟨hl,fun j d e ed ee=>?_⟩;have:=h j (JY.mp ed).1;rw[ed,ee]at this;exact this
 .rintro⟨_,h⟩ j hj;have e1:ds[j]?=some ds[j]:=by simp[hj]
  have hj':j<es.length:=by omega
  have e2:es[j]?=some es[j]:=by simp[hj']
  rw[e1,e2];exact h j _ _ e1 e2
theorem o_ {ds es:List D}(hl:ds.length≠es.length):eqDs ds es=false:=by
 cases h:eqDs ds es with
 |false=>rfl
 |true=>exact absurd ((lK ds es).mp h).1 hl
abbrev kc (H:Hp)(s:Nf)(m m':Addr->Prop)(A:Nj)(n:Nat):Prop:=∀(d e:D)(v w:V)(u u':Ni),d.dep<n->e.dep<1000->Is H m d v->Is H m' e w->RelV v u->RelV w u'->SeqAt.EqAt A.in1 s u u' (eB d e)
section
variable {A:Nj}{n:Nat}{l1 l2:List D}{vs1 vs2:List V}{its1 its2:List Ni}{a1 a2:Addr}
theorem lL (ok:HOk P w H s.heap)(hn:(D.lst l1).dep<=n)(hE:(D.lst l2).dep<1000)(hu:A.units<cLine)(q1:IsAll H m l1 vs1)(q2:IsAll H m' l2 vs2)(y1:Vals vs1 its1)(y2:Vals vs2 its2)(p1:s.heap.IsList a1 its1.toArray)(p2:s.heap.IsList a2 its2.toArray)
 (rec:kc H s m m' A n):SeqAt.RcAt A s (.ref a1) (.ref a2) (eB (.lst l1) (.lst l2)):=by
 have e1:its1.toArray.size=l1.length:=by rw[J3,<- y1.length,q1.length]
 have e2:its2.toArray.size=l2.length:=by rw[J3,<- y2.length,q2.length]
 have hd:∀ d∈l1,d.dep<n:=fun d hd=>by obtain⟨j,hj⟩:=Km.mp hd;have:=dq hj;simp only[D.dep]at hn;omega
 have he:∀ e∈l2,e.dep<1000:=fun d hd=>by obtain⟨j,hj⟩:=Km.mp hd;have:=dq hj;simp only[D.dep]at hE;omega
 by_cases hl:l1.length=l2.length
 .have z:=SeqAt.RcAt.lists p1 p2 (by rw[e1,e2,hl]) hu (o9 ok q1 q2 y1 y2 fun d hm e hm2 v w u u' i1 i2 r1 r2=>rec d e v w u u' (hd d hm) (he e hm2) i1 i2 r1 r2);rw[e1,tW hl]at z;exact z
 .have z:=SeqAt.RcAt.lists_lengths p1 p2 (by rw[e1,e2];simpa using hl) hu;rw[show eB (.lst l1) (.lst l2)=eqDs l1 l2 from rfl,o_ hl];exact z
theorem pd (ok:HOk P w H s.heap)(hn:(D.lst l1).dep<=n)(hE:(D.lst l2).dep<1000)(hu:A.units<cLine)(q1:IsAll H m l1 vs1)(q2:IsAll H m' l2 vs2)(y1:Vals vs1 its1)(y2:Vals vs2 its2)(p1:s.heap.IsList a1 its1.toArray)(p2:s.heap.IsList a2 its2.toArray)
 (rec:kc H s m m' A n):SeqAt.RcNeAt A s (.ref a1) (.ref a2) (!eB (.lst l1) (.lst l2)):=by
 have e1:its1.toArray.size=l1.length:=by rw[J3,<- y1.length,q1.length]
 have e2:its2.toArray.size=l2.length:=by rw[J3,<- y2.length,q2.length]
 have hd:∀ d∈l1,d.dep<n:=fun d hd=>by obtain⟨j,hj⟩:=Km.mp hd;have:=dq hj;simp only[D.dep]at hn;omega
 have he:∀ e∈l2,e.dep<1000:=fun d hd=>by obtain⟨j,hj⟩:=Km.mp hd;have:=dq hj;simp only[D.dep]at hE;omega
 by_cases hl:l1.length=l2.length
 .have z:=SeqAt.RcNeAt.lists p1 p2 (by rw[e1,e2,hl]) hu (o9 ok q1 q2 y1 y2 fun d hm e hm2 v w u u' i1 i2 r1 r2=>rec d e v w u u' (hd d hm) (he e hm2) i1 i2 r1 r2);rw[e1,tW hl]at z;exact z
 .have z:=SeqAt.RcNeAt.lists_lengths p1 p2 (by rw[e1,e2];simpa using hl) hu;rw[show eB (.lst l1) (.lst l2)=eqDs l1 l2 from rfl,o_ hl];exact z
theorem uL:((List.range (min l1.length l2.length)).all (fun j=>match l1[j]?,l2[j]? with|some d,some e=>eB d e|_,_=>true)&&l1.length==l2.length)=eqDs l1 l2:=by
 by_cases hl:l1.length=l2.length
 .rw[hl,Nat.min_self,<- hl,tW hl];simp[hl]
 .rw[o_ hl];simp[hl]
theorem nE (ok:HOk P w H s.heap)(hn:(D.tup l1).dep<=n)(hE:(D.tup l2).dep<1000)(hu:A.units<cLine)(q1:IsAll H m l1 vs1)(q2:IsAll H m' l2 vs2)(y1:Vals vs1 its1)(y2:Vals vs2 its2)(p1:s.heap.IsTuple a1 its1.toArray)(p2:s.heap.IsTuple a2 its2.toArray)
 (rec:kc H s m m' A n):SeqAt.RcAt A s (.ref a1) (.ref a2) (eB (.tup l1) (.tup l2)):=by
 have e1:its1.toArray.size=l1.length:=by rw[J3,<- y1.length,q1.length]
 have e2:its2.toArray.size=l2.length:=by rw[J3,<- y2.length,q2.length]
 have hd:∀ d∈l1,d.dep<n:=fun d hd=>by obtain⟨j,hj⟩:=Km.mp hd;have:=dq hj;simp only[D.dep]at hn;omega
 have he:∀ e∈l2,e.dep<1000:=fun d hd=>by obtain⟨j,hj⟩:=Km.mp hd;have:=dq hj;simp only[D.dep]at hE;omega
 have z:=SeqAt.RcAt.tuples p1 p2 hu (o9 ok q1 q2 y1 y2 fun d hm e hm2 v w u u' i1 i2 r1 r2=>rec d e v w u u' (hd d hm) (he e hm2) i1 i2 r1 r2);rw[e1,e2,uL]at z;exact z
theorem rp (ok:HOk P w H s.heap)(hn:(D.tup l1).dep<=n)(hE:(D.tup l2).dep<1000)(hu:A.units<cLine)(q1:IsAll H m l1 vs1)(q2:IsAll H m' l2 vs2)(y1:Vals vs1 its1)(y2:Vals vs2 its2)(p1:s.heap.IsTuple a1 its1.toArray)(p2:s.heap.IsTuple a2 its2.toArray)
 (rec:kc H s m m' A n):SeqAt.RcNeAt A s (.ref a1) (.ref a2) (!eB (.tup l1) (.tup l2)):=by
 have e1:its1.toArray.size=l1.length:=by rw[J3,<- y1.length,q1.length]
 have e2:its2.toArray.size=l2.length:=by rw[J3,<- y2.length,q2.length]
 have hd:∀ d∈l1,d.dep<n:=fun d hd=>by obtain⟨j,hj⟩:=Km.mp hd;have:=dq hj;simp only[D.dep]at hn;omega
 have he:∀ e∈l2,e.dep<1000:=fun d hd=>by obtain⟨j,hj⟩:=Km.mp hd;have:=dq hj;simp only[D.dep]at hE;omega
 have z:=SeqAt.RcNeAt.tuples p1 p2 hu (o9 ok q1 q2 y1 y2 fun d hm e hm2 v w u u' i1 i2 r1 r2=>rec d e v w u u' (hd d hm) (he e hm2) i1 i2 r1 r2);rw[e1,e2,uL]at z;exact z
theorem rq (h:SeqAt.RcAt A s (.ref a1) (.ref a2) k)(hs:a1=a2->k=true):SeqAt.EqAt A s (.ref a1) (.ref a2) k:=by
 by_cases e:a1=a2
 .subst e;rw[hs rfl];exact SeqAt.EqAt.same _
 .exact SeqAt.EqAt.of_refs e h
end
theorem Is.shape (ok:HOk P w H s.heap){d:D}{v:V}{u:Ni}(hE:d.dep<1000)(h:Is H m d v)(r:RelV v u):(d=.non/\u=.none)\/(∃ b,d=.bl b/\u=.bool b)\/(∃ i t,d=.int i/\u=.int i t)\/(∃ x t,d=.str x/\u=.str x t)\/
 (∃ l a vs its,d=.lst l/\v=.ref a/\u=.ref a/\IsAll H m l vs/\Vals vs its/\s.heap.IsList a its.toArray)\/∃ l a vs its,d=.tup l/\v=.ref a/\u=.ref a/\IsAll H m l vs/\Vals vs its/\s.heap.IsTuple a its.toArray:=by
 cases d with
 |non=>cases h;cases r;exact .inl ⟨rfl,rfl⟩
 |bl b=>cases h;cases r;exact .inr (.inl ⟨b,rfl,rfl⟩)
 |int i=>cases h;obtain⟨t,rfl⟩:=r;exact .inr (.inr (.inl ⟨i,t,rfl,rfl⟩))
 |str x=>cases h;obtain⟨t,rfl⟩:=r;exact .inr (.inr (.inr (.inl ⟨x,t,rfl,rfl⟩)))
 |lst l=>obtain⟨a,vs,rfl,g,q⟩:=h;cases r;obtain⟨its,y,p⟩:=D8 ok g;exact .inr (.inr (.inr (.inr (.inl ⟨l,a,vs,its,rfl,rfl,rfl,q,y,p⟩))))
 |tup l=>obtain⟨a,vs,rfl,g,q⟩:=h;cases r;obtain⟨its,y,p⟩:=D9 ok g;exact .inr (.inr (.inr (.inr (.inr ⟨l,a,vs,its,rfl,rfl,rfl,q,y,p⟩))))
 |dic k l=>exact absurd hE (by simp only[D.dep];omega)
theorem AY (ok:HOk P w H s.heap){A:Nj}{n:Nat}(hu:A.units<cLine)(rec:kc H s m m' A n){d e:D}{v w':V}{u u':Ni}(hn:d.dep<=n)(hN:n<1000)(hE:e.dep<1000)(h1:Is H m d v)(h2:Is H m' e w')(r1:RelV v u)(r2:RelV w' u') :
 SeqAt.RcAt A s u u' (eB d e):=by
 rcases h1.shape ok (by omega) r1 with⟨rfl,rfl⟩|⟨b1,rfl,rfl⟩|⟨i1,t1,rfl,rfl⟩|⟨x1,t1,rfl,rfl⟩|⟨l1,a1,vs1,its1,rfl,rfl,rfl,q1,y1,p1⟩|⟨l1,a1,vs1,its1,rfl,rfl,rfl,q1,y1,p1⟩<;>rcases h2.shape ok hE r2 with⟨rfl,rfl⟩|⟨b2,rfl,rfl⟩|⟨i2,t2,rfl,rfl⟩|⟨x2,t2,rfl,rfl⟩|⟨l2,a2,vs2,its2,rfl,rfl,rfl,q2,y2,p2⟩|⟨l2,a2,vs2,its2,rfl,rfl,rfl,q2,y2,p2⟩;exact .none_none;exact .none_bool b2;exact .none_int i2 t2;exact .none_str x2 t2;exact .none_list p2 hu;exact .none_tuple p2 hu;exact .bool_none b1;exact .bool_bool b1 b2;exact .bool_int b1 i2 t2;exact .bool_str b1 x2 t2;exact .bool_list b1 p2 hu;exact .bool_tuple b1 p2 hu;exact .int_none i1 t1;exact .int_bool i1 t1 b2;exact .int_int i1 t1 i2 t2;exact .int_str i1 t1 x2 t2;exact .int_list i1 t1 p2 hu;exact .int_tuple i1 t1 p2 hu;exact .str_none x1 t1;exact .str_bool x1 t1 b2;exact .str_int x1 t1 i2 t2;exact .str_str x1 t1 x2 t2;exact .str_list x1 t1 p2 hu;exact .str_tuple x1 t1 p2 hu;exact .list_none p1 hu;exact .list_bool b2 p1 hu;exact .list_int i2 t2 p1 hu;exact .list_str x2 t2 p1 hu;exact lL ok hn hE hu q1 q2 y1 y2 p1 p2 rec;exact .list_tuple p1 p2 hu;exact .tuple_none p1 hu;exact .tuple_bool b2 p1 hu;exact .tuple_int i2 t2 p1 hu;exact .tuple_str x2 t2 p1 hu;exact .tuple_list p1 p2 hu;exact nE ok hn hE hu q1 q2 y1 y2 p1 p2 rec
theorem AZ (ok:HOk P w H s.heap){A:Nj}{n:Nat}(hu:A.units<cLine)(rec:kc H s m m' A n){d e:D}{v w':V}{u u':Ni}(hn:d.dep<=n)(hN:n<1000)(hE:e.dep<1000)(h1:Is H m d v)(h2:Is H m' e w')(r1:RelV v u)(r2:RelV w' u') :
 SeqAt.RcNeAt A s u u' (!eB d e):=by
 rcases h1.shape ok (by omega) r1 with⟨rfl,rfl⟩|⟨b1,rfl,rfl⟩|⟨i1,t1,rfl,rfl⟩|⟨x1,t1,rfl,rfl⟩|⟨l1,a1,vs1,its1,rfl,rfl,rfl,q1,y1,p1⟩|⟨l1,a1,vs1,its1,rfl,rfl,rfl,q1,y1,p1⟩<;>rcases h2.shape ok hE r2 with⟨rfl,rfl⟩|⟨b2,rfl,rfl⟩|⟨i2,t2,rfl,rfl⟩|⟨x2,t2,rfl,rfl⟩|⟨l2,a2,vs2,its2,rfl,rfl,rfl,q2,y2,p2⟩|⟨l2,a2,vs2,its2,rfl,rfl,rfl,q2,y2,p2⟩;exact .none_none;exact .none_bool b2;exact .none_int i2 t2;exact .none_str x2 t2;exact .none_list p2 hu;exact .none_tuple p2 hu;exact .bool_none b1;exact .bool_bool b1 b2;exact .bool_int b1 i2 t2;exact .bool_str b1 x2 t2;exact .bool_list b1 p2 hu;exact .bool_tuple b1 p2 hu;exact .int_none i1 t1;exact .int_bool i1 t1 b2;exact .int_int i1 t1 i2 t2;exact .int_str i1 t1 x2 t2;exact .int_list i1 t1 p2 hu;exact .int_tuple i1 t1 p2 hu;exact .str_none x1 t1;exact .str_bool x1 t1 b2;exact .str_int x1 t1 i2 t2;exact .str_str x1 t1 x2 t2;exact .str_list x1 t1 p2 hu;exact .str_tuple x1 t1 p2 hu;exact .list_none p1 hu;exact .list_bool b2 p1 hu;exact .list_int i2 t2 p1 hu;exact .list_str x2 t2 p1 hu;exact pd ok hn hE hu q1 q2 y1 y2 p1 p2 rec;exact .list_tuple p1 p2 hu;exact .tuple_none p1 hu;exact .tuple_bool b2 p1 hu;exact .tuple_int i2 t2 p1 hu;exact .tuple_str x2 t2 p1 hu;exact .tuple_list p1 p2 hu;exact rp ok hn hE hu q1 q2 y1 y2 p1 p2 rec
theorem uM (ok:HOk P w H s.heap){A:Nj}{n:Nat}(hu:A.units<cLine)(rec:kc H s m m' A n){d e:D}{v w':V}{u u':Ni}(hn:d.dep<=n)(hN:n<1000)(hE:e.dep<1000)(h1:Is H m d v)(h2:Is H m' e w')(r1:RelV v u)(r2:RelV w' u') :
 SeqAt.EqAt A s u u' (eB d e):=by
 rcases h1.shape ok (by omega) r1 with⟨rfl,rfl⟩|⟨b1,rfl,rfl⟩|⟨i1,t1,rfl,rfl⟩|⟨x1,t1,rfl,rfl⟩|⟨l1,a1,vs1,its1,rfl,rfl,rfl,q1,y1,p1⟩|⟨l1,a1,vs1,its1,rfl,rfl,rfl,q1,y1,p1⟩<;>rcases h2.shape ok hE r2 with⟨rfl,rfl⟩|⟨b2,rfl,rfl⟩|⟨i2,t2,rfl,rfl⟩|⟨x2,t2,rfl,rfl⟩|⟨l2,a2,vs2,its2,rfl,rfl,rfl,q2,y2,p2⟩|⟨l2,a2,vs2,its2,rfl,rfl,rfl,q2,y2,p2⟩;exact .same _;exact .none_bool b2;exact .none_int i2 t2;exact .none_str x2 t2;exact .none_list p2 hu;exact .none_tuple p2 hu;exact .bool_none b1;exact .bool_bool b1 b2;exact .bool_int b1 i2 t2;exact .bool_str b1 x2 t2;exact .bool_list b1 p2 hu;exact .bool_tuple b1 p2 hu;exact .int_none i1 t1;exact .int_bool i1 t1 b2;exact .int_int i1 t1 i2 t2;exact .int_str i1 t1 x2 t2;exact .int_list i1 t1 p2 hu;exact .int_tuple i1 t1 p2 hu;exact .str_none x1 t1;exact .str_bool x1 t1 b2;exact .str_int x1 t1 i2 t2;exact .str_str x1 t1 x2 t2;exact .str_list x1 t1 p2 hu;exact .str_tuple x1 t1 p2 hu;exact .list_none p1 hu;exact .list_bool b2 p1 hu;exact .list_int i2 t2 p1 hu;exact .list_str x2 t2 p1 hu;exact rq (lL ok hn hE hu q1 q2 y1 y2 p1 p2 rec) (fun z=>by subst z;rw[Is.inj h1 h2];exact fj _);exact .list_tuple p1 p2 hu;exact .tuple_none p1 hu;exact .tuple_bool b2 p1 hu;exact .tuple_int i2 t2 p1 hu;exact .tuple_str x2 t2 p1 hu;exact .tuple_list p1 p2 hu;exact rq (nE ok hn hE hu q1 q2 y1 y2 p1 p2 rec) (fun z=>by subst z;rw[Is.inj h1 h2];exact fj _)
theorem xY (ok:HOk P w H s.heap):∀(n:Nat)(A:Nj){d e:D}{v w':V}{u u':Ni},A.units+n<cLine->n<1000->d.dep<=n->e.dep<1000->Is H m d v->Is H m' e w'->RelV v u->RelV w' u'->SeqAt.EqAt A s u u' (eB d e)
 |0,A,d,e,v,w',u,u',hu,hN,hn,hE,h1,h2,r1,r2=>uM ok (by omega) (fun d e v w u u' hd=>absurd hd (by omega)) hn hN hE h1 h2 r1 r2
 |n+1,A,d,e,v,w',u,u',hu,hN,hn,hE,h1,h2,r1,r2=>uM ok (by omega) (fun d e v w u u' hd he i1 i2 r1 r2=>xY ok n A.in1 (by show A.units+1+n<cLine;omega) (by omega) (by omega) he i1 i2 r1 r2) hn hN hE h1 h2 r1 r2
theorem xZ (ok:HOk P w H s.heap){A:Nj}{n:Nat}(hu:A.units+n<cLine)(hN:n<1000):kc H s m m' A n:=fun d e v w u u' hd he i1 i2 r1 r2=>xY ok (n-1) A.in1 (by show A.units+1+(n-1)<cLine;omega) (by omega) (by omega) he i1 i2 r1 r2
end
end L3
set_option autoImplicit false
namespace L3
open PySem PySem.Spec PyProof.Rows L2
abbrev St:=L2.St
inductive Res (α:Type) where
 |stuck|ok (a:α)|exc (c:Str)
noncomputable def Res.bind {α β:Type}:Res α->(α->Res β)->Res β
 | .stuck,_=>.stuck
 | .exc c,_=>.exc c
 | .ok a,k=>k a
@[simp] theorem Res.bind_ok {α β:Type}(a:α)(k:α->Res β):(Res.ok a).bind k=k a:=rfl
inductive Kd where
 |no|tr (d:D)|ds (d:D)
inductive Sl where
 |val (d:D) (fr:Bool)|own (ds:List D) (fr:Bool)|tre (d:D)|mes (d:D)|pin (d:D)|dis (d:D)|fix (n:Nat) (k:Kd)|kon (a:Addr)
noncomputable abbrev En:=List (Option Sl)
inductive R where
 |val (d:D) (fr:Bool) (al:List Nat)|new (ds:List D) (fr:Bool)|fre (d:D)
noncomputable def R.d:R->D
 | .val d _ _=>d
 | .new ds _=>.lst ds
 | .fre d=>d
noncomputable def R.fr:R->Bool
 | .val _ f _=>f
 | .new _ f=>f
 | .fre _=>true
noncomputable def R.al:R->List Nat
 | .val _ _ al=>al
 | .new _ _=>[]
 | .fre _=>[]
def mkV (d:D)(fr:Bool)(al:List Nat):R:=if d.flat then .val d true [] else .val d fr al
structure Gd where
 H₀:Hp
 Ma:Addr->Prop
 Z:Addr->Prop
 root:Option V
 rooT:Option V
noncomputable abbrev GP (H:Hp)(Ma:Addr->Prop):Gd:=⟨H,Ma,fun _=>False,none,none⟩
def MuZ (g:Gd)(H:Hp)(a:Addr):Prop:=Mu H a\/(g.Z a/\∃ o u,H a=some (.frz o u))
theorem MuZ.same {g:Gd}{H H':Hp}{a:Addr}(h:MuZ g H a)(s:∀ o,H a=some o->H' a=some o):MuZ g H' a:=h.imp (fun z=>z.same s) fun⟨z,o,u,e⟩=>⟨z,o,u,s _ e⟩
def msk (g:Gd)(M:Addr->Prop)(fr:Bool)(a:Addr):Prop:=M a/\(fr=true->g.H₀ a=none)
noncomputable abbrev Pr:=Nat->Addr->Prop
def vmsk (g:Gd)(M:Addr->Prop)(fr:Bool)(ρ:Pr)(al:List Nat)(a:Addr):Prop:=msk g M fr a\/∃ i,i∈al/\ρ i a
mutual
noncomputable def IsSh (H:Hp)(m:Addr->Prop):D->V->Prop
 | .tup ds,v=>∃ a vs,v=.ref a/\H a=some (.tup vs)/\IsShs H m ds vs
 | .lst _,v=>∃ a vs,v=.ref a/\H a=some (.lst vs)/\m a
 |_,_=>True
noncomputable def IsShs (H:Hp)(m:Addr->Prop):List D->List V->Prop
 | [],_=>True
 |d::ds,vs=>∃ v r,vs=v::r/\IsSh H m d v/\IsShs H m ds r
end
def Dst (H:Hp)(T:Addr->Prop)(v:V):Prop:=∃(a:Addr)(vs:List V),v=.ref a/\T a/\(H a=some (.lst vs)\/(∃ kvs,H a=some (.dK kvs)/\vs=kvs.map Prod.snd)\/(H a=some (.dT [])/\vs=[]))/\V.ref a∉vs/\∀(i j:Nat)(b:Addr),vs[i]?=some (V.ref b)->vs[j]?=some (V.ref b)->i=j
theorem Dst.mono {H H':Hp}{T T':Addr->Prop}{v:V}(kp:∀ a o,T a->H a=some o->H' a=some o)(mm:∀ a,T a->T' a)(h:Dst H T v):Dst H' T' v:=by obtain⟨a,vs,e,ta,h1,h2⟩:=h;exact⟨a,vs,e,mm a ta,h1.imp (kp a _ ta) (.imp (fun⟨kvs,q,z⟩=>⟨kvs,kp a _ ta q,z⟩) fun⟨q,z⟩=>⟨kp a _ ta q,z⟩),h2⟩
def KdOk (H:Hp)(T:Addr->Prop)(v:V):Kd->Prop
 | .no=>True
 | .tr d=>Is H T d v
 | .ds d=>Is H T d v/\Dst H T v
theorem KdOk.mono {H H':Hp}{T:Addr->Prop}{v:V}{k:Kd}(kp:∀ a o,H a=some o->(T a\/fixd o)->H' a=some o)(h:KdOk H T v k):KdOk H' T v k:=by
 cases k with
 |no=>exact h
 |tr d=>exact Is.mono kp (fun _ _ _ z=>z) h
 |ds d=>exact⟨Is.mono kp (fun _ _ _ z=>z) h.1,h.2.mono (fun a o z e=>kp a o e (.inl z)) fun _ z=>z⟩
noncomputable def Gd.rt (g:Gd)(n:Nat):Option V:=if n=0 then g.root else g.rooT
def SlOk (g:Gd)(M T:Addr->Prop)(H:Hp)(v:V):Sl->Prop
 | .val d fr=>Is H (msk g M fr) d v
 | .own ds fr=>∃ a vs,v=.ref a/\H a=some (.lst vs)/\(∀ b,T b↔b=a)/\IsAll H (msk g M fr) ds vs
 | .tre d=>Is H T d v
 | .mes d=>IsSh H T d v
 | .pin d=>Is H T d v/\g.root=some v
 | .dis d=>Is H T d v/\Dst H T v
 | .fix n k=>g.rt n=some v/\KdOk H T v k
 | .kon a=>v=.ref a
noncomputable def Sl.isO:Sl->Bool
 | .val _ _=>false
 | .kon _=>false
 | .fix _ .no=>false
 |_=>true
def isOwn (env:En)(j:Nat):Bool:=match env[j]? with
 |some (some sl)=>sl.isO
 |_=>false
structure Rep (g:Gd) (M:Addr->Prop) (ρ:Pr) (env:En) (σ:St) (H:Hp):Prop where
 same:Same g.H₀ H
 froz:∀ a,M a->H a≠none
 inn:∀ a,M a->g.H₀ a=none\/g.Ma a
 fl:∀ a,M a->g.H₀ a=none->MuZ g H a
 slot:∀(i:Nat)(sl:Sl),env[i]?=some (some sl)->∃ v,σ[i]?=some (some v)/\SlOk g M (ρ i) H v sl
 priv:∀(i:Nat)(a:Addr),ρ i a->¬ M a/\g.H₀ a=none/\Mu H a
 apart:∀(i j:Nat)(a:Addr),ρ i a->ρ j a->i=j
 ow:∀(i:Nat)(a:Addr),ρ i a->isOwn env i=true
 len:env.length=σ.length
 zz:∀ a,g.Z a->H a≠none
def ROk (g:Gd)(M:Addr->Prop)(ρ:Pr)(H0 H:Hp)(v:V):R->Prop
 | .val d fr al=>Is H (vmsk g M fr ρ al) d v
 | .new ds fr=>∃ a vs,v=.ref a/\H a=some (.lst vs)/\¬ M a/\H0 a=none/\(∀ i,¬ ρ i a)/\IsAll H (msk g M fr) ds vs
 | .fre d=>∃ T:Addr->Prop,(∀ a,T a->¬ M a/\H0 a=none/\Mu H a/\∀ i,¬ ρ i a)/\Is H T d v
structure Ext (M:Addr->Prop) (H:Hp) (M':Addr->Prop) (H':Hp):Prop where
 m:∀ a,M a->M' a
 h:Same H H'
 n:∀ a,M' a->M a\/H a=none
theorem Ext.refl (M:Addr->Prop)(H:Hp):Ext M H M H:=⟨fun _ z=>z,Same.refl H,fun _ z=>.inl z⟩
theorem Ext.trans {M M1 M2:Addr->Prop}{H H1 H2:Hp}(a:Ext M H M1 H1)(b:Ext M1 H1 M2 H2):Ext M H M2 H2:=⟨fun x z=>b.m x (a.m x z),a.h.trans b.h,fun x z=>(b.n x z).elim (a.n x) fun w=>.inr (a.h.free w)⟩
section
variable {g:Gd}{M M':Addr->Prop}{ρ:Pr}{env:En}{σ:St}{H H' H0:Hp}{fr:Bool}{al:List Nat}
mutual
theorem IsSh.mono {m m':Addr->Prop}(kp:∀ a o,H a=some o->fixd o->H' a=some o)(kl:∀ a vs,m a->H a=some (.lst vs)->∃ vs',H' a=some (.lst vs'))(mm:∀ a,m a->m' a):∀{d:D}{v:V},IsSh H m d v->IsSh H' m' d v
 | .non,_,h=>h
 | .bl _,_,h=>h
 | .int _,_,h=>h
 | .str _,_,h=>h
 | .tup ds,_,h=>by obtain⟨a,vs,e,h1,h2⟩:=h;exact⟨a,vs,e,kp a _ h1 True.intro,IsShs.mono kp kl mm h2⟩
 | .lst ds,_,h=>by obtain⟨a,vs,e,h1,h2⟩:=h;obtain⟨vs',h3⟩:=kl a vs h2 h1;exact⟨a,vs',e,h3,mm a h2⟩
 | .dic _ _,_,h=>h
theorem IsShs.mono {m m':Addr->Prop}(kp:∀ a o,H a=some o->fixd o->H' a=some o)(kl:∀ a vs,m a->H a=some (.lst vs)->∃ vs',H' a=some (.lst vs'))(mm:∀ a,m a->m' a):∀{ds:List D}{vs:List V},IsShs H m ds vs->IsShs H' m' ds vs
 | [],_,h=>h
 |d::ds,_,h=>by obtain⟨v,r,e,h1,h2⟩:=h;exact⟨v,r,e,IsSh.mono kp kl mm h1,IsShs.mono kp kl mm h2⟩
end
theorem msk.mono (mm:∀ a,M a->M' a){a:Addr}(h:msk g M fr a):msk g M' fr a:=⟨mm a h.1,h.2⟩
theorem vmsk.mono (mm:∀ a,M a->M' a){a:Addr}(h:vmsk g M fr ρ al a):vmsk g M' fr ρ al a:=h.imp (msk.mono mm) id
theorem Is.ext {d:D}{v:V}(e:Ext M H M' H')(h:Is H (vmsk g M fr ρ al) d v):Is H' (vmsk g M' fr ρ al) d v:=h.mono (fun a o q _=>e.h a o q) fun _ _ _ z=>z.mono e.m
theorem IsAll.ext {ds:List D}{vs:List V}(e:Ext M H M' H')(h:IsAll H (vmsk g M fr ρ al) ds vs):IsAll H' (vmsk g M' fr ρ al) ds vs:=h.mono (fun a o q _=>e.h a o q) fun _ _ _ z=>z.mono e.m
theorem SlOk.weak {T:Addr->Prop}{v:V}{sl:Sl}(mm:∀ a,M a->M' a)(h:SlOk g M T H v sl):SlOk g M' T H v sl:=by
 cases sl with
 |val d fr=>exact Is.weak (fun b z=>msk.mono mm z) h
 |own ds fr=>obtain⟨b,vs,rfl,h1,h2,h4⟩:=h;exact⟨b,vs,rfl,h1,h2,IsAll.weak (fun b z=>msk.mono mm z) h4⟩
 |tre d=>exact h
 |mes d=>exact h
 |pin d=>exact h
 |dis d=>exact h
 |fix n k=>exact h
 |kon a=>exact h
theorem SlOk.same {T:Addr->Prop}{v:V}{sl:Sl}(s:Same H H')(h:SlOk g M T H v sl):SlOk g M T H' v sl:=by
 cases sl with
 |val d fr=>exact Is.same s h
 |own ds fr=>obtain⟨b,vs,rfl,h1,h2,h4⟩:=h;exact⟨b,vs,rfl,s _ _ h1,h2,IsAll.same s h4⟩
 |tre d=>exact Is.same s h
 |mes d=>exact IsSh.mono (fun a o e _=>s a o e) (fun a vs _ e=>⟨vs,s _ _ e⟩) (fun _ z=>z) h
 |pin d=>exact⟨Is.same s h.1,h.2⟩
 |dis d=>exact⟨Is.same s h.1,h.2.mono (fun a o _ e=>s a o e) fun _ z=>z⟩
 |fix n k=>exact⟨h.1,h.2.mono fun a o e _=>s a o e⟩
 |kon a=>exact h
theorem Rep.moreT {T:Addr->Prop}(r:Rep g M ρ env σ H)(ht:∀ a,T a->Mu H a/\g.H₀ a=none/\∀ i,¬ ρ i a):Rep g (fun b=>M b\/T b) ρ env σ H where
 same:=r.same
 froz:=fun b hb=>hb.elim (r.froz b) fun e=>(ht b e).1.some
 inn:=fun b hb=>hb.elim (r.inn b) fun e=>.inl (ht b e).2.1
 fl:=fun b hb h0=>hb.elim (fun z=>r.fl b z h0) fun e=>.inl (ht b e).1
 slot:=fun i sl e=>by obtain⟨v,ev,s⟩:=r.slot i sl e;exact⟨v,ev,SlOk.weak (fun _=>.inl) s⟩
 priv:=fun i a h=>⟨fun z=>z.elim (r.priv i a h).1 fun z=>(ht a z).2.2 i h,(r.priv i a h).2⟩
 apart:=r.apart
 ow:=r.ow
 len:=r.len
 zz:=r.zz
theorem Rep.more {a:Addr}{ws:List V}(r:Rep g M ρ env σ H)(ha:H a=some (.lst ws))(h0:g.H₀ a=none)(no:∀ i,¬ ρ i a):Rep g (fun b=>M b\/b=a) ρ env σ H:=r.moreT fun b e=>by subst e;exact⟨Mu.lst ha,h0,no⟩
theorem Rep.grow (r:Rep g M ρ env σ H)(s:Same H H'):Rep g M ρ env σ H' where
 same:=r.same.trans s
 froz:=fun a ha e=>by
  cases q:H a with
  |none=>exact r.froz a ha q
  |some o=>rw[s a o q]at e;cases e
 inn:=r.inn
 fl:=fun a ha h0=>(r.fl a ha h0).same fun o e=>s a o e
 slot:=fun i sl e=>by obtain⟨v,ev,k⟩:=r.slot i sl e;exact⟨v,ev,SlOk.same s k⟩
 priv:=fun i a h=>let ⟨a1,a2,a3⟩:=r.priv i a h;⟨a1,a2,a3.same fun o e=>s a o e⟩
 apart:=r.apart
 ow:=r.ow
 len:=r.len
 zz:=fun a z e=>by
  cases q:H a with
  |none=>exact r.zz a z q
  |some o=>rw[s a o q]at e;cases e
theorem Rep.free {a:Addr}(r:Rep g M ρ env σ H)(h:H a=none):g.H₀ a=none/\¬ M a/\∀ i,¬ ρ i a:=by refine⟨r.same.free h,fun z=>r.froz a z h,fun i o=>?_⟩;exact(r.priv i a o).2.2.some h
theorem aV {a:Addr}{o:HO}(h:H a=none):Same H (ay H a o):=fun b u e=>by rw[af (ap e h)];exact e
theorem ROk.is {v:V}{r:R}{M0:Addr->Prop}(rep:Rep g M ρ env σ H)(x:Ext M0 H0 M H)(h0:Same g.H₀ H0)(h:ROk g M ρ H0 H v r):∃ M',Ext M0 H0 M' H/\(∀ a,M a->M' a)/\Rep g M' ρ env σ H/\Is H (vmsk g M' r.fr ρ r.al) r.d v:=by
 cases r with
 |val d fr al=>exact⟨M,x,fun _ z=>z,rep,h⟩
 |new ds fr=>obtain⟨a,vs,rfl,h1,h2,h3,h4,h5⟩:=h;have z0:g.H₀ a=none:=h0.free h3;exact⟨fun b=>M b\/b=a,⟨fun b z=>.inl (x.m b z),x.h,fun b z=>z.elim (x.n b) fun e=>.inr (e▸h3)⟩,fun _=>.inl,rep.more h1 z0 h4,a,vs,rfl,.inl ⟨h1,.inl ⟨.inr rfl,fun _=>z0⟩⟩,IsAll.weak (fun b z=>.inl (msk.mono (fun _=>.inl) z)) h5⟩
 |fre d=>obtain⟨T,ht,is⟩:=h;exact⟨fun b=>M b\/T b,⟨fun b z=>.inl (x.m b z),x.h,fun b z=>z.elim (x.n b) fun e=>.inr (ht b e).2.1⟩,fun _=>.inl,rep.moreT fun a z=>let ⟨a1,a2,a3,a4⟩:=ht a z;⟨a3,h0.free a2,a4⟩,Is.weak (fun b z=>.inl ⟨.inr z,fun _=>h0.free (ht b z).2.1⟩) is⟩
theorem ROk.mkV {d:D}{v:V}(h:Is H (vmsk g M fr ρ al) d v):ROk g M ρ H0 H v (mkV d fr al):=by
 unfold L3.mkV;split
 .exact Is.flat (by assumption) h
 .exact h
theorem ROk.back {v:V}{r:R}{H1:Hp}(s:Same H1 H0)(h:ROk g M ρ H0 H v r):ROk g M ρ H1 H v r:=by
 cases r with
 |val d fr al=>exact h
 |new ds fr=>obtain⟨a,vs,rfl,h1,h2,h3,h4,h5⟩:=h;exact⟨a,vs,rfl,h1,h2,s.free h3,h4,h5⟩
 |fre d=>obtain⟨T,ht,is⟩:=h;exact⟨T,fun a z=>let ⟨a1,a2,a3⟩:=ht a z;⟨a1,s.free a2,a3⟩,is⟩
end
def Ao (mg:Str->Option Ni)(E:XK)(g:Gd)(c:Str):Prop:=∀ cls dx H',mg c=some cls->Same g.H₀ H'->E cls dx H'
section
variable (mg:Str->Option Ni)(E:XK)(g:Gd)(M:Addr->Prop)(ρ:Pr)(env:En)(σ:St)(H:Hp)
def PostE (Q:VK):Res R->Prop
 | .stuck=>False
 | .exc c=>Ao mg E g c
 | .ok r=>∀ v M' H',Ext M H M' H'->Rep g M' ρ env σ H'->ROk g M' ρ H H' v r->Q v H'
def a_ (rs:List R):Bool:=rs.all R.fr
def bc (rs:List R):List Nat:=rs.flatMap R.al
def PostA (Q:List V->Hp->Prop):Res (List R)->Prop
 | .stuck=>False
 | .exc c=>Ao mg E g c
 | .ok rs=>∀ vs M' H',Ext M H M' H'->Rep g M' ρ env σ H'->IsAll H' (vmsk g M' (a_ rs) ρ (bc rs)) (rs.map R.d) vs->Q vs H'
noncomputable def PostT (Q:Bool->Hp->Prop):Res Bool->Prop
 | .stuck=>False
 | .exc c=>Ao mg E g c
 | .ok b=>∀ M' H',Ext M H M' H'->Rep g M' ρ env σ H'->Q b H'
end
def Snd (mg:Str->Option Ni)(E:XK)(t:TE)(f:En->Res R):Prop:=∀ g M ρ env σ H Q,Rep g M ρ env σ H->PostE mg E g M ρ env σ H Q (f env)->t σ H Q
def SndA (mg:Str->Option Ni)(E:XK)(t:TA)(f:En->Res (List R)):Prop:=∀ g M ρ env σ H Q,Rep g M ρ env σ H->PostA mg E g M ρ env σ H Q (f env)->t σ H Q
def SndT (mg:Str->Option Ni)(E:XK)(t:TT)(f:En->Res Bool):Prop:=∀ g M ρ env σ H Q,Rep g M ρ env σ H->PostT mg E g M ρ env σ H Q (f env)->t σ H Q
def PD (X:Cx)(E:XK)(e:Expr)(f:En->Res R):Prop:=∃ t,PE X e t/\Snd X.mg E t f
def Ap (X:Cx)(E:XK)(es:List Expr)(f:En->Res (List R)):Prop:=∃ t,PA X es t/\SndA X.mg E t f
def rA (X:Cx)(E:XK)(e:Expr)(f:En->Res Bool):Prop:=∃ t,PT X e t/\SndT X.mg E t f
def PWD (X:Cx)(E:XK)(e:Expr)(f:En->Res Bool):Prop:=∃ t,PW X e t/\SndT X.mg E t f
theorem PWD.pt {X:Cx}{E:XK}{e:Expr}{f:En->Res Bool}(h:PWD X E e f):rA X E e f:=let ⟨t,a,b⟩:=h;⟨t,a.pt,b⟩
section
variable {mg:Str->Option Ni}{E:XK}{g:Gd}{M M':Addr->Prop}{ρ:Pr}{env:En}{σ:St}{H H':Hp}
theorem PostE.ext {Q:VK}{r:Res R}(e:Ext M H M' H')(p:PostE mg E g M ρ env σ H Q r):PostE mg E g M' ρ env σ H' Q r:=by
 cases r with
 |stuck=>exact p
 |exc c=>exact p
 |ok r=>exact fun v M2 H2 e2 rep2 ro=>p v M2 H2 (e.trans e2) rep2 (ro.back e.h)
theorem PostA.ext {Q:List V->Hp->Prop}{r:Res (List R)}(e:Ext M H M' H')(p:PostA mg E g M ρ env σ H Q r):PostA mg E g M' ρ env σ H' Q r:=by
 cases r with
 |stuck=>exact p
 |exc c=>exact p
 |ok r=>exact fun v M2 H2 e2=>p v M2 H2 (e.trans e2)
theorem PostT.ext {Q:Bool->Hp->Prop}{r:Res Bool}(e:Ext M H M' H')(p:PostT mg E g M ρ env σ H Q r):PostT mg E g M' ρ env σ H' Q r:=by
 cases r with
 |stuck=>exact p
 |exc c=>exact p
 |ok r=>exact fun M2 H2 e2=>p M2 H2 (e.trans e2)
theorem PostE.val {Q:VK}{d:D}{fr:Bool}{al:List Nat}{v:V}(p:PostE mg E g M ρ env σ H Q (.ok (mkV d fr al)))(rep:Rep g M ρ env σ H)(h:Is H (vmsk g M fr ρ al) d v):Q v H:=p v M H (Ext.refl M H) rep (ROk.mkV h)
theorem PostE.new {Q:VK}{ds:List D}{fr:Bool}{vs:List V}{a:Addr}(p:PostE mg E g M ρ env σ H Q (.ok (.new ds fr)))(rep:Rep g M ρ env σ H)(ha:H a=none)(h:IsAll H (msk g M fr) ds vs):Q (.ref a) (ay H a (.lst vs)):=by have s:Same H (ay H a (.lst vs)):=aV ha;obtain⟨h0,hm,ho⟩:=rep.free ha;exact p _ M _ ⟨fun _ z=>z,s,fun _ z=>.inl z⟩ (rep.grow s) ⟨a,vs,rfl,ai,hm,ha,ho,IsAll.same s h⟩
theorem PostE.tup {Q:VK}{ds:List D}{fr:Bool}{al:List Nat}{vs:List V}{a:Addr}(p:PostE mg E g M ρ env σ H Q (.ok (mkV (.tup ds) fr al)))(rep:Rep g M ρ env σ H)(ha:H a=none)(h:IsAll H (vmsk g M fr ρ al) ds vs):Q (.ref a) (ay H a (.tup vs)):=by have s:Same H (ay H a (.tup vs)):=aV ha;exact p _ M _ ⟨fun _ z=>z,s,fun _ z=>.inl z⟩ (rep.grow s) (ROk.mkV ⟨a,vs,rfl,ai,IsAll.same s h⟩)
theorem Snd.one {t:TE}{f:En->Res R}(h:Snd mg E t f)(rep:Rep g M ρ env σ H){α:Type}{K:R->Res α}{P:(M:Addr->Prop)->(H:Hp)->Res α->Prop}{Q:VK}
 (hp:P M H ((f env).bind K)) (hs:∀ M H,P M H .stuck->False) (hx:∀ M H c,P M H (.exc c)->Ao mg E g c) (he:∀ M H M' H' r,Ext M H M' H'->P M H r->P M' H' r)
 (k:∀ r v M' H',Ext M H M' H'->Rep g M' ρ env σ H'->Is H' (vmsk g M' r.fr ρ r.al) r.d v->P M' H' (K r)->Q v H'):t σ H Q:=by
 refine h g M ρ env σ H Q rep ?_;cases e:f env with
 |stuck=>rw[e]at hp;exact hs _ _ hp
 |exc c=>rw[e]at hp;exact hx _ _ c hp
 |ok r=>rw[e]at hp;intro v M1 H1 e1 rep1 ro;obtain⟨M2,e2,_,rep2,is⟩:=ro.is rep1 e1 rep.same;exact k r v M2 H1 e2 rep2 is (he _ _ _ _ _ e2 hp)
theorem Snd.oneE {t:TE}{f:En->Res R}(h:Snd mg E t f)(rep:Rep g M ρ env σ H){K:R->Res R}{Q':VK}{Q:VK}(hp:PostE mg E g M ρ env σ H Q' ((f env).bind K))
 (k:∀ r v M' H',Ext M H M' H'->Rep g M' ρ env σ H'->Is H' (vmsk g M' r.fr ρ r.al) r.d v->PostE mg E g M' ρ env σ H' Q' (K r)->Q v H'):t σ H Q:=
 h.one rep (P:=fun M H r=>PostE mg E g M ρ env σ H Q' r) hp (fun _ _ z=>z) (fun _ _ _ z=>z) (fun _ _ _ _ _ e p=>p.ext e) k
theorem Snd.oneA {t:TE}{f:En->Res R}(h:Snd mg E t f)(rep:Rep g M ρ env σ H){K:R->Res (List R)}{Q':List V->Hp->Prop}{Q:VK}(hp:PostA mg E g M ρ env σ H Q' ((f env).bind K))
 (k:∀ r v M' H',Ext M H M' H'->Rep g M' ρ env σ H'->Is H' (vmsk g M' r.fr ρ r.al) r.d v->PostA mg E g M' ρ env σ H' Q' (K r)->Q v H'):t σ H Q:=
 h.one rep (P:=fun M H r=>PostA mg E g M ρ env σ H Q' r) hp (fun _ _ z=>z) (fun _ _ _ z=>z) (fun _ _ _ _ _ e p=>p.ext e) k
theorem Snd.oneT {t:TE}{f:En->Res R}(h:Snd mg E t f)(rep:Rep g M ρ env σ H){K:R->Res Bool}{Q':Bool->Hp->Prop}{Q:VK}(hp:PostT mg E g M ρ env σ H Q' ((f env).bind K))
 (k:∀ r v M' H',Ext M H M' H'->Rep g M' ρ env σ H'->Is H' (vmsk g M' r.fr ρ r.al) r.d v->PostT mg E g M' ρ env σ H' Q' (K r)->Q v H'):t σ H Q:=
 h.one rep (P:=fun M H r=>PostT mg E g M ρ env σ H Q' r) hp (fun _ _ z=>z) (fun _ _ _ z=>z) (fun _ _ _ _ _ e p=>p.ext e) k
theorem Snd.twoE {ta tb:TE}{fa fb:En->Res R}(ha:Snd mg E ta fa)(hb:Snd mg E tb fb)(rep:Rep g M ρ env σ H){K:R->R->Res R}{Q':VK}{S:V->V->Hp->Prop}
 (hp:PostE mg E g M ρ env σ H Q' ((fa env).bind fun ra=>(fb env).bind fun rb=>K ra rb))
 (k:∀ ra rb x y M' H',Rep g M' ρ env σ H'->Is H' (vmsk g M' ra.fr ρ ra.al) ra.d x->Is H' (vmsk g M' rb.fr ρ rb.al) rb.d y->PostE mg E g M' ρ env σ H' Q' (K ra rb)->S x y H') :
 ta σ H fun x H1=>tb σ H1 fun y H2=>S x y H2:=
 ha.oneE rep hp fun ra x M1 H1 e1 rep1 i1 p1=>hb.oneE rep1 p1 fun rb y M2 H2 e2 rep2 i2 p2=>k ra rb x y M2 H2 rep2 (i1.ext e2) i2 p2
end
noncomputable def lim:Nat:=1000000
theorem fP {n:Nat}(h:n<=lim):n<=sizeLine:=by rw[KU];unfold lim at h;omega
theorem gx {n:Nat}(h:n<lim):n<sizeLine:=by rw[KU];unfold lim at h;omega
def jC (ds:List D)(fr:Bool)(al:List Nat):R:=if D.flats ds then .new ds true else if al.isEmpty then .new ds fr else .val (.lst ds) fr al
section
variable {mg:Str->Option Ni}{E:XK}{g:Gd}{M M':Addr->Prop}{ρ:Pr}{env:En}{σ:St}{H H':Hp}
theorem vmsk.nil {fr:Bool}{a:Addr}(h:vmsk g M fr ρ [] a):msk g M fr a:=h.elim id fun⟨_,z,_⟩=>absurd z (by simp)
theorem PostE.lst {Q:VK}{ds:List D}{fr:Bool}{al:List Nat}{vs:List V}{a:Addr}(p:PostE mg E g M ρ env σ H Q (.ok (jC ds fr al)))(rep:Rep g M ρ env σ H)(ha:H a=none)(h:IsAll H (vmsk g M fr ρ al) ds vs):Q (.ref a) (ay H a (.lst vs)):=by
 unfold jC at p;by_cases hf:D.flats ds=true
 .rw[JW hf]at p;exact p.new rep ha (IsAll.flat hf h)
 .rw[J0 hf]at p;cases al with
  |nil=>exact PostE.new (p:=p) rep ha (IsAll.weak (fun _ z=>z.nil) h)
  |cons i al=>have p:PostE mg E g M ρ env σ H Q (.ok (.val (.lst ds) fr (i::al))):=p;have s:Same H (ay H a (.lst vs)):=aV ha;obtain⟨h0,hm,ho⟩:=rep.free ha;refine p _ (fun b=>M b\/b=a) _ ⟨fun _=>.inl,s,fun b z=>z.imp id fun(e:b=a)=>by rw[e];exact ha⟩ ((rep.grow s).more ai h0 ho) ⟨a,vs,rfl,.inl ⟨ai,.inl ⟨.inr rfl,fun _=>h0⟩⟩,?_⟩;exact(IsAll.same s h).weak fun b z=>z.mono fun _=>.inl
theorem Is.rd {m:Addr->Prop}{ds:List D}{v:V}(h:Is H m (.lst ds) v):∃ a vs,v=.ref a/\Rd H a (.lst vs)/\IsAll H m ds vs:=by obtain⟨a,vs,e,h1,h2⟩:=h;exact⟨a,vs,e,h1.imp (·.1) fun⟨o,z,_⟩=>⟨o,z⟩,h2⟩
end
section
variable {X:Cx}{E:XK}
def ag (i:Nat):En->Res R:=fun env=>match env[i]? with
 |some (some (.val d fr))=>.ok (mkV d fr [])
 |some (some (.own ds fr))=>.ok (.val (.lst ds) fr [i])
 |some (some (.tre d))=>.ok (.val d true [i])
 |some (some (.pin d))=>.ok (.val d true [i])
 |some (some (.dis d))=>.ok (.val d true [i])
 |some (some (.fix _ (.tr d)))=>.ok (.val d true [i])
 |some (some (.fix _ (.ds d)))=>.ok (.val d true [i])
 |_=>.stuck
theorem uN {mg:Str->Option Ni}{i:Nat}:Snd mg E (di i) (ag i):=by
 intro g M ρ env σ H Q rep p;unfold ag at p;cases e1:env[i]? with
 |none=>rw[e1]at p;exact p.elim
 |some o=>
  cases o with
  |none=>rw[e1]at p;exact p.elim
  |some sl=>
   obtain⟨v,ev,k⟩:=rep.slot i sl e1;rw[e1]at p;refine⟨v,ev,?_⟩;cases sl with
   |val d fr=>exact PostE.val p rep (Is.weak (fun _ z=>.inl z) k)
   |own ds fr=>obtain⟨a,vs,rfl,h1,h2,h4⟩:=k;exact p _ M H (Ext.refl M H) rep ⟨a,vs,rfl,.inl ⟨h1,.inr ⟨i,by simp,(h2 a).mpr rfl⟩⟩,IsAll.weak (fun _ z=>.inl z) h4⟩
   |tre d=>exact p _ M H (Ext.refl M H) rep (Is.weak (fun a z=>.inr ⟨i,by simp,z⟩) k)
   |mes d=>exact p.elim
   |pin d=>exact p _ M H (Ext.refl M H) rep (Is.weak (fun a z=>.inr ⟨i,by simp,z⟩) k.1)
   |dis d=>exact p _ M H (Ext.refl M H) rep (Is.weak (fun a z=>.inr ⟨i,by simp,z⟩) k.1)
   |fix n q0=>
    cases q0 with
    |no=>exact p.elim
    |tr d=>exact p _ M H (Ext.refl M H) rep (Is.weak (fun a z=>.inr ⟨i,by simp,z⟩) k.2)
    |ds d=>exact p _ M H (Ext.refl M H) rep (Is.weak (fun a z=>.inr ⟨i,by simp,z⟩) k.2.1)
   |kon a=>exact p.elim
theorem lM {i:Nat}{e:Expr}(h:PE X e (di i)):PD X E e (ag i):=⟨_,h,uN⟩
def vC (d:D):En->Res R:=fun _=>.ok (.val d true [])
theorem x4 {mg:Str->Option Ni}{d:D}{v:V}(h:∀ H m,Is H m d v):Snd mg E (tC v) (vC d):=fun g M ρ env σ H Q rep p=>p v M H (Ext.refl M H) rep (h H _)
theorem av {i j pos}:PD X E (.Constant (.int i) j pos) (vC (.int i)):=⟨_,w_,x4 fun _ _=>rfl⟩
theorem cL {b j pos}:PD X E (.Constant (.bool b) j pos) (vC (.bl b)):=⟨_,Gg,x4 fun _ _=>rfl⟩
theorem x5 {j pos}:PD X E (.Constant .none j pos) (vC .non):=⟨_,xa,x4 fun _ _=>rfl⟩
def v2 (op:R->R->Res R)(fa fb:En->Res R):En->Res R:=fun env=>(fa env).bind fun ra=>(fb env).bind fun rb=>op ra rb
def ke (X:Cx)(E:XK)(f:Ni->Ni->Sem Ni)(op:R->R->Res R):Prop:=∃ r:R2,OpR X f r/\
 ∀ g M ρ env σ H Q ra rb x y,Rep g M ρ env σ H->Is H (vmsk g M ra.fr ρ ra.al) ra.d x->Is H (vmsk g M rb.fr ρ rb.al) rb.d y->PostE X.mg E g M ρ env σ H Q (op ra rb)->r x y H Q
theorem aC {a b:Expr}{fa fb:En->Res R}{op:Operator}{k:R->R->Res R}{pos:Pos}(ho:ke X E (binaryOp op) k)(ha:PD X E a fa)(hb:PD X E b fb):PD X E (.BinOp a op b pos) (v2 k fa fb):=by obtain⟨r,h1,h2⟩:=ho;obtain⟨ta,pa,sa⟩:=ha;obtain⟨tb,pb,sb⟩:=hb;exact⟨_,Gw h1 pa pb,fun g M ρ env σ H Q rep p=>sa.twoE sb rep p fun ra rb x y M' H' rep' i1 i2 p'=>h2 g M' ρ env σ H' Q ra rb x y rep' i1 i2 p'⟩
theorem tX {a b:Expr}{fa fb:En->Res R}{op:CmpOp}{k:R->R->Res R}{pos:Pos}(ho:ke X E (compareOp op) k)(ha:PD X E a fa)(hb:PD X E b fb)(hm:behindInMarks op b=false):PD X E (.Compare a [op] [b] pos) (v2 k fa fb):=by obtain⟨r,h1,h2⟩:=ho;obtain⟨ta,pa,sa⟩:=ha;obtain⟨tb,pb,sb⟩:=hb;exact⟨_,AD h1 pa pb hm,fun g M ρ env σ H Q rep p=>sa.twoE sb rep p fun ra rb x y M' H' rep' i1 i2 p'=>h2 g M' ρ env σ H' Q ra rb x y rep' i1 i2 p'⟩
def oI (C:Int->Int->Bool)(k:Int->Int->D)(a b:R):Res R:=match a.d,b.d with
 | .int i,.int j=>if C i j then .ok (.val (k i j) true []) else .stuck
 |_,_=>.stuck
theorem rB {f:Ni->Ni->Sem Ni}{C:Int->Int->Prop}{kV:Int->Int->V}(c:Int->Int->Bool)(k:Int->Int->D)(ho:OpR X f (rI C kV))(hc:∀ i j,c i j=true->C i j)(hk:∀ H m i j,Is H m (k i j) (kV i j)):ke X E f (oI c k):=by
 refine⟨_,ho,fun g M ρ env σ H Q ra rb x y rep i1 i2 p=>?_⟩;unfold oI at p;cases e1:ra.d with
 |int i=>
  rw[e1]at p i1;cases e2:rb.d with
  |int j=>
   rw[e2]at p i2;cases i1;cases i2;by_cases h:c i j=true
   .simp only[h,Me]at p;exact⟨i,j,rfl,rfl,hc i j h,p _ M H (Ext.refl M H) rep (hk H _ i j)⟩
   .simp only[h]at p;exact p.elim
  |_=>rw[e2]at p;exact p.elim
 |_=>rw[e1]at p;exact p.elim
theorem lN {f:Ni->Ni->Sem Ni}{kV:Int->Int->V}(k:Int->Int->D)(ho:OpR X f (AB kV))(hk:∀ H m i j,Is H m (k i j) (kV i j)):ke X E f (oI (fun _ _=>true) k):=by refine rB (C:=fun _ _=>True) (kV:=kV) _ k (fun pins s σ H x y v u Q I rx ry h=>?_) (fun _ _ _=>True.intro) hk;obtain⟨i,j,a,b,_,q⟩:=h;exact ho pins s σ H x y v u Q I rx ry ⟨i,j,a,b,q⟩
def D_:R->R->Res R:=oI (fun _ _=>true) fun i j=>.int (i-j)
noncomputable def x8 (i j:Int):Bool:=(decide (-(2 ^ 64)<i)&&decide (i<2 ^ 64)) || (decide (-(2 ^ 64)<j)&&decide (j<2 ^ 64))
def x9:R->R->Res R:=oI x8 fun i j=>.int (i*j)
def gp:R->R->Res R:=oI (fun _ j=>decide (0<j)&&decide (j<1073741824)) fun i j=>.int (i / j)
def c6:R->R->Res R:=oI (fun _ j=>decide (0<j)) fun i j=>.int (i % j)
theorem Ea:ke X E (binaryOp .Sub) D_:=lN _ DB fun _ _ _ _=>rfl
theorem tY:ke X E (binaryOp .Mult) x9:=rB _ _ DC (fun i j h=>by simp only[x8,MM,Kh,LG]at h;exact h) fun _ _ _ _=>rfl
theorem cB:ke X E (binaryOp .FloorDiv) gp:=rB _ _ AC (fun i j h=>by simp only[Kh,LG]at h;exact h) fun _ _ _ _=>rfl
theorem be:ke X E (binaryOp .Mod) c6:=rB _ _ DD (fun i j h=>by simpa using h) fun _ _ _ _=>rfl
def A0:R->R->Res R:=oI (fun _ _=>true) fun i j=>.bl (decide (i<j))
def CK:R->R->Res R:=oI (fun _ _=>true) fun i j=>.bl (decide (i<=j))
def F_:R->R->Res R:=oI (fun _ _=>true) fun i j=>.bl (decide (j<i))
theorem x_:ke X E (compareOp .Lt) A0:=lN _ Gx fun _ _ _ _=>rfl
theorem CL:ke X E (compareOp .LtE) CK:=lN _ Gy fun _ _ _ _=>rfl
theorem CM:ke X E (compareOp .Gt) F_:=lN _ Gz fun _ _ _ _=>rfl
theorem Inv.rdL {pins:List (Addr×Obj)}{σ:St}{H:Hp}{s:Nf}{l:Addr}{xs:List V}(I:L2.Inv X pins σ H s)(h:Rd H l (.lst xs)) :
 xs.length<=sizeLine/\∃(its:List Ni)(n:Nat),Vals xs its/\xs.length=its.length/\s.heap.get? l=some { cls:=.type "list",data:=.seq its.toArray n }:=by
 obtain⟨z,its,n,r,e⟩:=(h.ok I.hok:ObjOk X.prog X.w H s.heap l (.lst xs));exact⟨z,its,n,r,r.length,e⟩
def GQ:R2:=fun x y H Q=>∃ l b xs zs,x=.ref l/\y=.ref b/\Rd H l (.lst xs)/\Rd H b (.lst zs)/\xs.length+zs.length<=sizeLine/\∀ p,H p=none->Q (.ref p) (ay H p (.lst (xs++zs)))
theorem op_catS:OpR X (binaryOp .Add) GQ:=by
 intro pins s σ H x y v u Q I rx ry h;obtain⟨l,b,xs,zs,rfl,rfl,hH,hB,hz,q⟩:=h;cases rx;cases ry;obtain⟨z,its,n,r,hl,e⟩:=Inv.rdL I hH;obtain⟨z2,its2,n2,r2,hl2,e2⟩:=Inv.rdL I hB;refine PySem.P.add_list e e2 ?_ (by rw[J3,J3];omega);have ea:its.toArray++its2.toArray=(its++its2).toArray:=by simp
 rw[ea];exact⟨.ref _,_,I.lnew (t':=s.toks) (r.append r2) (by rw[Kp];omega),rfl,q _ I.fresh⟩
def cC (a b:R):Res R:=match a.d,b.d with
 | .int i,.int j=>.ok (.val (.int (i+j)) true [])
 | .lst xs,.lst ys=>if xs.length+ys.length<=lim then .ok (jC (xs++ys) (a.fr&&b.fr) (a.al++b.al)) else .stuck
 | .tup xs,.tup ys=>if xs.length+ys.length<=lim/\xs≠[] then .ok (mkV (.tup (xs++ys)) (a.fr&&b.fr) (a.al++b.al)) else .stuck
 | .str x,.str y=>if x.length+y.length<=lim then .ok (.val (.str (x++y)) true []) else .stuck
 |_,_=>.stuck
section
variable {g:Gd}{M:Addr->Prop}{ρ:Pr}{env:En}{σ:St}
theorem vmsk.l {f1 f2:Bool}{l1 l2:List Nat}{a:Addr}(h:vmsk g M f1 ρ l1 a):vmsk g M (f1&&f2) ρ (l1++l2) a:=h.imp (fun z=>⟨z.1,fun e=>z.2 (by cases f1<;>simp_all)⟩) fun⟨i,hi,o⟩=>⟨i,by simp[hi],o⟩
theorem vmsk.r {f1 f2:Bool}{l1 l2:List Nat}{a:Addr}(h:vmsk g M f2 ρ l2 a):vmsk g M (f1&&f2) ρ (l1++l2) a:=h.imp (fun z=>⟨z.1,fun e=>z.2 (by cases f2<;>simp_all)⟩) fun⟨i,hi,o⟩=>⟨i,by simp[hi],o⟩
end
theorem bR:ke X E (binaryOp .Add) cC:=by
 refine⟨_,op_add.or (op_catS.or (op_catT.or sV)),fun g M ρ env σ H Q ra rb x y rep i1 i2 p=>?_⟩;unfold cC at p;cases e1:ra.d with
 |int i=>
  rw[e1]at p i1;cases e2:rb.d with
  |int j=>rw[e2]at p i2;cases i1;cases i2;exact .inl ⟨i,j,rfl,rfl,p _ M H (Ext.refl M H) rep rfl⟩
  |_=>rw[e2]at p;exact p.elim
 |lst xs=>
  rw[e1]at p i1;cases e2:rb.d with
  |lst ys=>
   rw[e2]at p i2;obtain⟨a,vs,rfl,h1,h2⟩:=i1.rd;obtain⟨b,ws,rfl,h3,h4⟩:=i2.rd;by_cases hz:xs.length+ys.length<=lim
   .simp only[hz,Me]at p;refine .inr (.inl ⟨a,b,vs,ws,rfl,rfl,h1,h3,by rw[h2.length,h4.length];exact fP hz,fun q hq=>?_⟩);exact p.lst rep hq ((h2.weak fun _ z=>z.l).append (h4.weak fun _ z=>z.r))
   .simp only[hz,KR]at p;exact p.elim
  |_=>rw[e2]at p;exact p.elim
 |tup xs=>
  rw[e1]at p i1;cases e2:rb.d with
  |tup ys=>
   rw[e2]at p i2;obtain⟨a,vs,rfl,h1,h2⟩:=i1;obtain⟨b,ws,rfl,h3,h4⟩:=i2;dsimp only at p;by_cases hz:xs.length+ys.length<=lim/\xs≠[]
   .rw[JW hz]at p;have n1:vs≠[]:=fun z=>hz.2 (by have:=h2.length;rw[z]at this;exact MG this.symm);refine .inr (.inr (.inl ⟨a,b,vs,ws,rfl,rfl,SqT.of h1,SqT.of h3,n1,by rw[h2.length,h4.length];exact fP hz.1,fun z=>?_,fun _ q hq=>?_⟩))
    .have ey:ys=[]:=by have:=h4.length;rw[z]at this;exact MG this.symm
     rw[ey,Ls]at p;exact p.val rep (Is.weak (d:=.tup xs) (fun _ z=>z.l) ⟨a,vs,rfl,h1,h2⟩)
    .exact p.tup rep hq ((h2.weak fun _ z=>z.l).append (h4.weak fun _ z=>z.r))
   .rw[J0 hz]at p;exact p.elim
  |_=>rw[e2]at p;exact p.elim
 |str xs=>
  rw[e1]at p i1;cases e2:rb.d with
  |str ys=>
   rw[e2]at p i2;cases i1;cases i2;by_cases hz:xs.length+ys.length<=lim
   .simp only[hz,Me]at p;exact .inr (.inr (.inr ⟨xs,ys,rfl,rfl,fP hz,p _ M H (Ext.refl M H) rep rfl⟩))
   .simp only[hz,KR]at p;exact p.elim
  |_=>rw[e2]at p;exact p.elim
 |_=>rw[e1]at p;exact p.elim
def mQ (a b:R):Res R:=if a.d.dep<=50/\b.d.dep<=50 then .ok (.val (.bl (eB a.d b.d)) true []) else .stuck
def w4 (a b:R):Res R:=if a.d.dep<=50/\b.d.dep<=50 then .ok (.val (.bl (!eB a.d b.d)) true []) else .stuck
def IZ:R2:=fun x y H Q=>∃ d e m m',Is H m d x/\Is H m' e y/\(d.dep<=50/\e.dep<=50)/\Q (.bl (eB d e)) H
def I0:R2:=fun x y H Q=>∃ d e m m',Is H m d x/\Is H m' e y/\(d.dep<=50/\e.dep<=50)/\Q (.bl (!eB d e)) H
theorem Eb (hu:X.A.units+64<cLine):OpR X (compareOp .Eq) IZ:=by intro pins s σ H x y v u Q I rx ry h;obtain⟨d,e,m,m',h1,h2,hd,q⟩:=h;exact AY I.hok (by omega) (xZ I.hok (A:=X.A) (n:=50) (by omega) (by omega)) hd.1 (by omega) (by omega) h1 h2 rx ry X.prog X.w X.xe _ ⟨.bl _,H,I,rfl,q⟩
theorem Ec (hu:X.A.units+64<cLine):OpR X (compareOp .NotEq) I0:=by intro pins s σ H x y v u Q I rx ry h;obtain⟨d,e,m,m',h1,h2,hd,q⟩:=h;exact AZ I.hok (by omega) (xZ I.hok (A:=X.A) (n:=50) (by omega) (by omega)) hd.1 (by omega) (by omega) h1 h2 rx ry X.prog X.w X.xe _ ⟨.bl _,H,I,rfl,q⟩
theorem eF (hu:X.A.units+64<cLine):ke X E (compareOp .Eq) mQ:=by
 refine⟨_,Eb hu,fun g M ρ env σ H Q ra rb x y rep i1 i2 p=>?_⟩;unfold mQ at p;by_cases h:ra.d.dep<=50/\rb.d.dep<=50
 .rw[JW h]at p;exact⟨_,_,_,_,i1,i2,h,p _ M H (Ext.refl M H) rep rfl⟩
 .rw[J0 h]at p;exact p.elim
theorem uO (hu:X.A.units+64<cLine):ke X E (compareOp .NotEq) w4:=by
 refine⟨_,Ec hu,fun g M ρ env σ H Q ra rb x y rep i1 i2 p=>?_⟩;unfold w4 at p;by_cases h:ra.d.dep<=50/\rb.d.dep<=50
 .rw[JW h]at p;exact⟨_,_,_,_,i1,i2,h,p _ M H (Ext.refl M H) rep rfl⟩
 .rw[J0 h]at p;exact p.elim
end
section
variable {X:Cx}{E:XK}
noncomputable def D.isNon:D->Bool
 | .non=>true
 |_=>false
theorem Is.non_iff {H:Hp}{m:Addr->Prop}{d:D}{v:V}(h:Is H m d v):decide (v=.non)=d.isNon:=by
 cases d with
 |non=>cases h;rfl
 |bl b=>cases h;rfl
 |int b=>cases h;rfl
 |str b=>cases h;rfl
 |tup ds=>obtain⟨a,vs,rfl,_⟩:=h;rfl
 |lst ds=>obtain⟨a,vs,rfl,_⟩:=h;rfl
 |dic ks ds=>obtain⟨a,vs,rfl,_⟩:=h;rfl
def A1 (fa:En->Res R):En->Res R:=fun env=>(fa env).bind fun ra=>.ok (.val (.bl ra.d.isNon) true [])
theorem Ed {a:Expr}{fa:En->Res R}{pos pos':Pos}{j:Nat}(ha:PD X E a fa):PD X E (.Compare a [.Is] [.Constant .none j pos'] pos) (A1 fa):=by obtain⟨ta,pa,sa⟩:=ha;refine⟨_,Dm (xb pa),fun g M ρ env σ H Q rep p=>sa.oneE rep p fun r v M' H' e rep' i p'=>?_⟩;show Q (.bl (decide (v=.non))) H';rw[i.non_iff];exact p' _ M' H' (Ext.refl _ _) rep' rfl
def Ee (fa:En->Res R):En->Res R:=fun env=>(fa env).bind fun ra=>match ra.d with
 | .bl b=>.ok (.val (.bl (!b)) true [])
 |_=>.stuck
def wj (fa fb:En->Res R):En->Res R:=fun env=>(fa env).bind fun ra=>match ra.d with
 | .bl true=>fb env
 | .bl false=>.ok (.val (.bl false) true [])
 |_=>.stuck
theorem Ef {a:Expr}{fa:En->Res R}{pos:Pos}(ha:PD X E a fa):PD X E (.UnaryOp .Not a pos) (Ee fa):=by
 obtain⟨ta,pa,sa⟩:=ha;refine⟨_,Ds pa,fun g M ρ env σ H Q rep p=>sa.oneE rep p fun r v M' H' e rep' i p'=>?_⟩;cases q:r.d with
 |bl b=>rw[q]at i;simp only[q]at p';cases i;exact⟨b,rfl,p' _ M' H' (Ext.refl _ _) rep' rfl⟩
 |_=>simp only[q]at p';exact p'.elim
theorem tZ {op:BoolOp}{a:Expr}{fa:En->Res R}{pos:Pos}(ha:PD X E a fa):PD X E (.BoolOp op [a] pos) fa:=let ⟨t,pa,sa⟩:=ha;⟨t,Dq pa,sa⟩
theorem pf {a b:Expr}{aZ:List Expr}{fa fb:En->Res R}{pos:Pos}(ha:PD X E a fa)(hb:PD X E (.BoolOp .And (b::aZ) pos) fb):PD X E (.BoolOp .And (a::b::aZ) pos) (wj fa fb):=by
 obtain⟨ta,pa,sa⟩:=ha;obtain⟨tb,pb,sb⟩:=hb;refine⟨_,Dr pa pb,fun g M ρ env σ H Q rep p=>sa.oneE rep p fun r v M' H' e rep' i p'=>?_⟩;cases q:r.d with
 |bl b=>
  rw[q]at i;simp only[q]at p';cases i;refine⟨b,rfl,?_⟩;cases b with
  |true=>exact qQ (sb g M' ρ env σ H' Q rep' p')
  |false=>exact tm (p' _ M' H' (Ext.refl _ _) rep' rfl)
 |_=>simp only[q]at p';exact p'.elim
def tru:D->Res Bool
 | .non=>.ok false
 | .bl b=>.ok b
 | .int i=>.ok (i != 0)
 | .str y=>if y.length<=lim then .ok ((y.length:Int) != 0) else .stuck
 | .tup ds=>.ok (!ds.isEmpty)
 | .lst ds=>.ok (!ds.isEmpty)
 | .dic _ _=>.stuck
theorem Is.tru {H:Hp}{m:Addr->Prop}{d:D}{v:V}{k:Bool}(h:Is H m d v)(e:tru d=.ok k):DG X.K v H k:=by
 cases d with
 |non=>cases h;cases e;rfl
 |bl b=>cases h;cases e;rfl
 |int b=>cases h;cases e;rfl
 |str b=>
  cases h;unfold L3.tru at e;dsimp only at e;by_cases hl:b.length<=lim
  .rw[JW hl]at e;cases e;exact⟨fP hl,rfl⟩
  .rw[J0 hl]at e;cases e
 |tup ds=>obtain⟨a,vs,rfl,h1,h2⟩:=h;cases e;refine .inr (.inl ⟨vs,SqT.of h1,?_⟩);have:=h2.length;cases ds<;>cases vs<;>simp_all
 |lst ds=>obtain⟨a,vs,rfl,h1,h2⟩:=h.rd;cases e;refine .inl ⟨vs,.inl h1,?_⟩;have:=h2.length;cases ds<;>cases vs<;>simp_all
 |dic ks ds=>cases e
def mR (fa:En->Res R):En->Res Bool:=fun env=>(fa env).bind fun ra=>tru ra.d
theorem jD {a:Expr}{fa:En->Res R}(ha:PD X E a fa)(he:autoParam (∀ whole,isTrue a X.env whole=(do let v <- whole;standAt a.pos;holding [v] (truthy v))) Nn._auto_1):rA X E a (mR fa):=by
 obtain⟨ta,pa,sa⟩:=ha;refine⟨_,xo pa he,fun g M ρ env σ H Q rep p=>sa.oneT rep p fun r v M' H' e rep' i p'=>?_⟩;cases q:tru r.d with
 |stuck=>rw[q]at p';exact p'.elim
 |exc c=>exfalso;unfold tru at q;cases z:r.d<;>simp only[z]at q<;>first|cases q|(split at q<;>cases q)
 |ok k=>rw[q]at p';exact⟨k,i.tru q,p' M' H' (Ext.refl _ _) rep'⟩
def vB (fa:En->Res R):En->Res Bool:=fun env=>(fa env).bind fun ra=>match ra.d with
 | .bl b=>.ok b
 |_=>.stuck
theorem aE {a b:Expr}{fa fb:En->Res R}{op:CmpOp}{k:R->R->Res R}{pos:Pos}(ho:ke X E (compareOp op) k)(ha:PD X E a fa)(hb:PD X E b fb)(hm:behindInMarks op b=false):rA X E (.Compare a [op] [b] pos) (vB (v2 k fa fb)):=by
 obtain⟨r,h1,h2⟩:=ho;obtain⟨ta,pa,sa⟩:=ha;obtain⟨tb,pb,sb⟩:=hb;have S:Snd X.mg E (F3 r ta tb) (v2 k fa fb):=fun g M ρ env σ H Q rep p=>sa.twoE sb rep p fun ra rb x y M' H' rep' i1 i2 p'=>h2 g M' ρ env σ H' Q ra rb x y rep' i1 i2 p';refine⟨_,AE h1 pa pb hm,fun g M ρ env σ H Q rep p=>S.oneT rep p fun r v M' H' e rep' i p'=>?_⟩;cases q:r.d with
 |bl b=>rw[q]at i;simp only[q]at p';cases i;exact⟨b,rfl,p' M' H' (Ext.refl _ _) rep'⟩
 |_=>simp only[q]at p';exact p'.elim
theorem A2 {a:Expr}{fa:En->Res R}{pos pos':Pos}{j:Nat}(ha:PD X E a fa):rA X E (.Compare a [.Is] [.Constant .none j pos'] pos) (fun env=>(fa env).bind fun ra=>.ok ra.d.isNon):=by obtain⟨ta,pa,sa⟩:=ha;refine⟨_,xc (xb pa),fun g M ρ env σ H Q rep p=>sa.oneT rep p fun r v M' H' e rep' i p'=>?_⟩;exact⟨_,rfl,by rw[i.non_iff];exact p' M' H' (Ext.refl _ _) rep'⟩
theorem ya {a:Expr}{fa:En->Res R}{pos pos':Pos}{j:Nat}(ha:PD X E a fa):rA X E (.Compare a [.IsNot] [.Constant .none j pos'] pos) (fun env=>(fa env).bind fun ra=>.ok (!ra.d.isNon)):=by obtain⟨ta,pa,sa⟩:=ha;refine⟨_,xc (Ay pa),fun g M ρ env σ H Q rep p=>sa.oneT rep p fun r v M' H' e rep' i p'=>?_⟩;exact⟨_,rfl,by rw[i.non_iff];exact p' M' H' (Ext.refl _ _) rep'⟩
def ph (fa:En->Res Bool):En->Res Bool:=fun env=>(fa env).bind fun b=>.ok (!b)
def jE (fa fb:En->Res Bool):En->Res Bool:=fun env=>(fa env).bind fun b=>if b then fb env else .ok false
def A3 (fa fb:En->Res Bool):En->Res Bool:=fun env=>(fa env).bind fun b=>if b then .ok true else fb env
section
variable {mg:Str->Option Ni}{g:Gd}{M M':Addr->Prop}{ρ:Pr}{env:En}{σ:St}{H H':Hp}
theorem SndT.oneT {t:TT}{f:En->Res Bool}(h:SndT mg E t f)(rep:Rep g M ρ env σ H){K:Bool->Res Bool}{Q':Bool->Hp->Prop}{Q:Bool->Hp->Prop}(hp:PostT mg E g M ρ env σ H Q' ((f env).bind K))
 (k:∀ b M' H',Ext M H M' H'->Rep g M' ρ env σ H'->PostT mg E g M' ρ env σ H' Q' (K b)->Q b H'):t σ H Q:=by
 refine h g M ρ env σ H Q rep ?_;cases e:f env with
 |stuck=>rw[e]at hp;exact hp
 |exc c=>rw[e]at hp;exact hp
 |ok b=>rw[e]at hp;exact fun M1 H1 e1 rep1=>k b M1 H1 e1 rep1 (PostT.ext e1 hp)
end
theorem fQ {a:Expr}{fa:En->Res Bool}{pos:Pos}(ha:rA X E a fa):rA X E (.UnaryOp .Not a pos) (ph fa):=by obtain⟨ta,pa,sa⟩:=ha;exact⟨_,Dp pa,fun g M ρ env σ H Q rep p=>sa.oneT rep p fun b M' H' e rep' p'=>p' M' H' (Ext.refl _ _) rep'⟩
theorem c7 {a:Expr}{fa:En->Res Bool}{pos:Pos}(ha:rA X E a fa):PWD X E (.BoolOp .And [a] pos) fa:=let ⟨t,pa,sa⟩:=ha;⟨t,Az pa,sa⟩
theorem kP {a:Expr}{fa:En->Res Bool}{pos:Pos}(ha:rA X E a fa):PWD X E (.BoolOp .Or [a] pos) fa:=let ⟨t,pa,sa⟩:=ha;⟨t,Dn pa,sa⟩
theorem cU {a b:Expr}{aZ:List Expr}{fa fb:En->Res Bool}{pos:Pos}(ha:rA X E a fa)(hb:PWD X E (.BoolOp .And (b::aZ) pos) fb):PWD X E (.BoolOp .And (a::b::aZ) pos) (jE fa fb):=by
 obtain⟨ta,pa,sa⟩:=ha;obtain⟨tb,pb,sb⟩:=hb;refine⟨_,Do pa pb,fun g M ρ env σ H Q rep p=>sa.oneT rep p fun b M' H' e rep' p'=>?_⟩;cases b with
 |true=>exact qQ (sb g M' ρ env σ H' Q rep' p')
 |false=>exact tm (p' M' H' (Ext.refl _ _) rep')
theorem ip {a b:Expr}{aZ:List Expr}{fa fb:En->Res Bool}{pos:Pos}(ha:rA X E a fa)(hb:PWD X E (.BoolOp .Or (b::aZ) pos) fb):PWD X E (.BoolOp .Or (a::b::aZ) pos) (A3 fa fb):=by
 obtain⟨ta,pa,sa⟩:=ha;obtain⟨tb,pb,sb⟩:=hb;refine⟨_,Gi pa pb,fun g M ρ env σ H Q rep p=>sa.oneT rep p fun b M' H' e rep' p'=>?_⟩;cases b with
 |true=>exact qQ (p' M' H' (Ext.refl _ _) rep')
 |false=>exact tm (sb g M' ρ env σ H' Q rep' p')
def Aq (a b:R):Res R:=match a.d,b.d with
 | .lst xs,.int i=>match atI xs i with
  |some d=>.ok (mkV d a.fr a.al)
  |none=>.stuck
 | .tup xs,.int i=>match atI xs i with
  |some d=>.ok (mkV d a.fr a.al)
  |none=>.stuck
 | .str z,.int i=>if z.length<=lim then (match atI z.cps.toList i with
  |some c=>.ok (.val (.str ⟨#[c]⟩) true [])
  |none=>.stuck) else .stuck
 |_,_=>.stuck
theorem IsAll.atI {H:Hp}{m:Addr->Prop}{ds:List D}{vs:List V}{i:Int}{d:D}(h:IsAll H m ds vs)(e:L2.atI ds i=some d):∃ v,L2.atI vs i=some v/\Is H m d v:=by
 unfold L2.atI at e ⊢;rw[h.length];cases q:qA ds.length i with
 |none=>rw[q]at e;cases e
 |some j=>rw[q]at e;exact h.get e
theorem GR:∃ r:R2,IxR X r/\∀ g M ρ env σ H Q ra rb x y,Rep g M ρ env σ H->Is H (vmsk g M ra.fr ρ ra.al) ra.d x->Is H (vmsk g M rb.fr ρ rb.al) rb.d y->PostE X.mg E g M ρ env σ H Q (Aq ra rb)->r x y H Q:=by
 refine⟨_,DM,fun g M ρ env σ H Q ra rb x y rep i1 i2 p=>?_⟩;unfold Aq at p;cases e1:ra.d with
 |lst xs=>
  rw[e1]at p i1;cases e2:rb.d with
  |int i=>
   rw[e2]at p i2;cases i2;obtain⟨a,vs,rfl,h1,h2⟩:=i1.rd;cases q:atI xs i with
   |none=>simp only[q]at p;exact p.elim
   |some d=>simp only[q]at p;obtain⟨v,ev,iv⟩:=h2.atI q;exact .inl ⟨a,vs,i,v,rfl,rfl,.inl h1,ev,p.val rep iv⟩
  |_=>rw[e2]at p;exact p.elim
 |tup xs=>
  rw[e1]at p i1;cases e2:rb.d with
  |int i=>
   rw[e2]at p i2;cases i2;obtain⟨a,vs,rfl,h1,h2⟩:=i1;cases q:atI xs i with
   |none=>simp only[q]at p;exact p.elim
   |some d=>simp only[q]at p;obtain⟨v,ev,iv⟩:=h2.atI q;exact .inr (.inl ⟨a,vs,i,v,rfl,rfl,SqT.of h1,ev,p.val rep iv⟩)
  |_=>rw[e2]at p;exact p.elim
 |str z=>
  rw[e1]at p i1;cases e2:rb.d with
  |int i=>
   rw[e2]at p i2;cases i1;cases i2;by_cases hz:z.length<=lim
   .simp only[hz,Me]at p;cases q:atI z.cps.toList i with
    |none=>simp only[q]at p;exact p.elim
    |some c=>simp only[q]at p;exact .inr (.inr ⟨z,i,c,rfl,rfl,fP hz,q,p _ M H (Ext.refl _ _) rep rfl⟩)
   .simp only[hz,KR]at p;exact p.elim
  |_=>rw[e2]at p;exact p.elim
 |_=>rw[e1]at p;exact p.elim
def lO (i:Nat)(fb:En->Res R):En->Res R:=fun env=>match env[i]? with
 |some (some (.own ds fr))=>(fb env).bind fun rb=>match rb.d with
  | .int k=>match atI ds k with
   |some d=>.ok (mkV d fr [])
   |none=>.stuck
  |_=>.stuck
 |_=>v2 Aq (ag i) fb env
theorem pp {i:Nat}{a b:Expr}{fb:En->Res R}{pos:Pos}(ha:PE X a (di i))(hb:PD X E b fb)(hs:oQ b):PD X E (.Subscript a b pos) (lO i fb):=by
 obtain⟨r,h1,h2⟩:=GR (X:=X) (E:=E);obtain⟨tb,pb,sb⟩:=hb;refine⟨_,CA (ix_list.or h1) ha pb hs,fun g M ρ env σ H Q rep p=>?_⟩;have gen:PostE X.mg E g M ρ env σ H Q (v2 Aq (ag i) fb env)->F3 (fun x y H Q=>DJ X.K x y H Q\/r x y H Q) (di i) tb σ H Q:=fun p=>Snd.twoE uN sb rep p fun ra rb x y M' H' rep' i1 i2 p'=>.inr (h2 g M' ρ env σ H' Q ra rb x y rep' i1 i2 p');unfold lO at p;cases e1:env[i]? with
 |none=>rw[e1]at p;exact gen p
 |some o=>
  cases o with
  |none=>rw[e1]at p;exact gen p
  |some sl=>
   cases sl with
   |val d fr=>rw[e1]at p;exact gen p
   |tre d=>rw[e1]at p;exact gen p
   |mes d=>rw[e1]at p;exact gen p
   |pin d=>rw[e1]at p;exact gen p
   |dis d=>rw[e1]at p;exact gen p
   |fix n q0=>rw[e1]at p;exact gen p
   |kon a=>rw[e1]at p;exact gen p
   |own ds fr=>
    rw[e1]at p;obtain⟨v,ev,a,vs,rfl,k1,k2,k4⟩:=rep.slot i _ e1;refine⟨_,ev,sb.oneE rep p fun rb y M' H' e rep' i2 p'=>?_⟩;cases q:rb.d with
    |int k=>
     rw[q]at i2;simp only[q]at p';cases i2;cases q2:atI ds k with
     |none=>simp only[q2]at p';exact p'.elim
     |some d=>simp only[q2]at p';have k5:IsAll H' (vmsk g M' fr ρ []) ds vs:=(IsAll.weak (fun _ z=>.inl z) k4:IsAll H (vmsk g M fr ρ []) ds vs).ext e;obtain⟨w,ew,iw⟩:=k5.atI q2;exact .inl ⟨a,vs,k,w,rfl,rfl,.inl (.inl (e.h _ _ k1)),ew,p'.val rep' iw⟩
    |_=>simp only[q]at p';exact p'.elim
end
section
variable {mg:Str->Option Ni}{E:XK}{g:Gd}{M M':Addr->Prop}{ρ:Pr}{env:En}{σ:St}{H H':Hp}
theorem SndA.one {t:TA}{f:En->Res (List R)}(h:SndA mg E t f)(rep:Rep g M ρ env σ H){α:Type}{K:List R->Res α}{P:(M:Addr->Prop)->(H:Hp)->Res α->Prop}{Q:List V->Hp->Prop}
 (hp:P M H ((f env).bind K)) (hs:∀ M H,P M H .stuck->False) (hx:∀ M H c,P M H (.exc c)->Ao mg E g c) (he:∀ M H M' H' r,Ext M H M' H'->P M H r->P M' H' r)
 (k:∀ rs vs M' H',Ext M H M' H'->Rep g M' ρ env σ H'->IsAll H' (vmsk g M' (a_ rs) ρ (bc rs)) (rs.map R.d) vs->P M' H' (K rs)->Q vs H'):t σ H Q:=by
 refine h g M ρ env σ H Q rep ?_;cases e:f env with
 |stuck=>rw[e]at hp;exact hs _ _ hp
 |exc c=>rw[e]at hp;exact hx _ _ c hp
 |ok r=>rw[e]at hp;exact fun vs M1 H1 e1 rep1 is=>k r vs M1 H1 e1 rep1 is (he _ _ _ _ _ e1 hp)
theorem SndA.oneE {t:TA}{f:En->Res (List R)}(h:SndA mg E t f)(rep:Rep g M ρ env σ H){K:List R->Res R}{Q':VK}{Q:List V->Hp->Prop}(hp:PostE mg E g M ρ env σ H Q' ((f env).bind K))
 (k:∀ rs vs M' H',Ext M H M' H'->Rep g M' ρ env σ H'->IsAll H' (vmsk g M' (a_ rs) ρ (bc rs)) (rs.map R.d) vs->PostE mg E g M' ρ env σ H' Q' (K rs)->Q vs H'):t σ H Q:=
 h.one rep (P:=fun M H r=>PostE mg E g M ρ env σ H Q' r) hp (fun _ _ z=>z) (fun _ _ _ z=>z) (fun _ _ _ _ _ e p=>p.ext e) k
theorem SndA.oneA {t:TA}{f:En->Res (List R)}(h:SndA mg E t f)(rep:Rep g M ρ env σ H){K:List R->Res (List R)}{Q':List V->Hp->Prop}{Q:List V->Hp->Prop}(hp:PostA mg E g M ρ env σ H Q' ((f env).bind K))
 (k:∀ rs vs M' H',Ext M H M' H'->Rep g M' ρ env σ H'->IsAll H' (vmsk g M' (a_ rs) ρ (bc rs)) (rs.map R.d) vs->PostA mg E g M' ρ env σ H' Q' (K rs)->Q vs H'):t σ H Q:=
 h.one rep (P:=fun M H r=>PostA mg E g M ρ env σ H Q' r) hp (fun _ _ z=>z) (fun _ _ _ z=>z) (fun _ _ _ _ _ e p=>p.ext e) k
theorem IsAll.args {r:R}{rs:List R}{v:V}{vs:List V}(h1:Is H (vmsk g M r.fr ρ r.al) r.d v)(h2:IsAll H (vmsk g M (a_ rs) ρ (bc rs)) (rs.map R.d) vs) :
 IsAll H (vmsk g M (a_ (r::rs)) ρ (bc (r::rs))) ((r::rs).map R.d) (v::vs):=by
 refine⟨v,vs,rfl,h1.weak fun a z=>?_,h2.weak fun a z=>?_⟩
 .exact(z.l:vmsk g M (r.fr&&a_ rs) ρ (r.al++bc rs) a)
 .exact(z.r:vmsk g M (r.fr&&a_ rs) ρ (r.al++bc rs) a)
end
section
variable {X:Cx}{E:XK}
noncomputable def az:En->Res (List R):=fun _=>.ok []
def aj (f:En->Res R)(fs:En->Res (List R)):En->Res (List R):=fun env=>(f env).bind fun r=>(fs env).bind fun rs=>.ok (r::rs)
theorem ao:Ap X E [] az:=⟨_,bK,fun g M ρ env σ H Q rep p=>p [] M H (Ext.refl _ _) rep rfl⟩
theorem aa {e:Expr}{es:List Expr}{f:En->Res R}{fs:En->Res (List R)}(he:PD X E e f)(hr:Ap X E es fs)(hs:autoParam (starEach (e::es) X.env=(false,eval e X.env)::starEach es X.env) Nq._auto_1):Ap X E (e::es) (aj f fs):=by obtain⟨t,p1,s1⟩:=he;obtain⟨u,p2,s2⟩:=hr;refine⟨_,aI p1 p2 hs,fun g M ρ env σ H Q rep p=>s1.oneA rep p fun r v M1 H1 e1 rep1 i1 q1=>s2.oneA rep1 q1 fun rs vs M2 H2 e2 rep2 i2 q2=>?_⟩;exact q2 (v::vs) M2 H2 (Ext.refl _ _) rep2 (IsAll.args (i1.ext e2) i2)
def fm (fs:En->Res (List R)):En->Res R:=fun env=>(fs env).bind fun rs=>if rs.length<=lim then .ok (mkV (.tup (rs.map R.d)) (a_ rs) (bc rs)) else .stuck
theorem aQ {es:List Expr}{fs:En->Res (List R)}{k:Nat}{pos:Pos}(h:Ap X E es fs):PD X E (.Tuple es k pos) (fm fs):=by
 obtain⟨t,p1,s1⟩:=h;refine⟨_,sX p1,fun g M ρ env σ H Q rep p=>s1.oneE rep p fun rs vs M1 H1 e1 rep1 i1 q1=>?_⟩;by_cases hl:rs.length<=lim
 .rw[JW hl]at q1;exact⟨by rw[i1.length,JU];exact fP hl,fun a ha=>q1.tup rep1 ha i1⟩
 .rw[J0 hl]at q1;exact q1.elim
def iq (fs:En->Res (List R)):En->Res R:=fun env=>(fs env).bind fun rs=>if rs.length<=lim then .ok (jC (rs.map R.d) (a_ rs) (bc rs)) else .stuck
theorem fR {es:List Expr}{fs:En->Res (List R)}{pos:Pos}(h:Ap X E es fs):PD X E (.List es pos) (iq fs):=by
 obtain⟨t,p1,s1⟩:=h;refine⟨_,xp p1,fun g M ρ env σ H Q rep p=>s1.oneE rep p fun rs vs M1 H1 e1 rep1 i1 q1=>?_⟩;by_cases hl:rs.length<=lim
 .rw[JW hl]at q1;exact⟨by rw[i1.length,JU];exact fP hl,fun a ha=>q1.lst rep1 ha i1⟩
 .rw[J0 hl]at q1;exact q1.elim
end
def nl (H0 H':Hp)(a:Addr):Prop:=H0 a=none/\Mu H' a
def RetOk (g:Gd)(H':Hp)(v:V):R->Prop
 | .val d fr _=>Is H' (fun a=>nl g.H₀ H' a\/(fr=false/\g.Ma a)) d v
 | .new ds fr=>∃ a vs,v=.ref a/\H' a=some (.lst vs)/\g.H₀ a=none/\IsAll H' (fun b=>b≠a/\(nl g.H₀ H' b\/(fr=false/\g.Ma b))) ds vs
 | .fre d=>Is H' (nl g.H₀ H') d v
def GS (mg:Str->Option Ni)(E:XK)(g:Gd)(Q:VK):Res R->Prop
 | .stuck=>False
 | .exc c=>Ao mg E g c
 | .ok r=>∀ v H',Same g.H₀ H'->RetOk g H' v r->Q v H'
def rC (mg:Str->Option Ni)(n:Nat)(F:List D->Res R):Sp:=fun vs H Q E=>vs.length=n/\∃ ds Ma,IsAll H Ma ds vs/\GS mg E (GP H Ma) Q (F ds)
def Ar (d:D)(fr:Bool)(rs:List R):R:=if d.flat then .val d true [] else if fr then .fre d else .val d (a_ rs) (bc rs)
def eG (rs:List R):R->R
 | .val d fr _=>Ar d fr rs
 | .new ds fr=>if D.flats ds then .new ds true else if fr then .fre (.lst ds) else if (bc rs).isEmpty then .new ds (a_ rs) else .val (.lst ds) (a_ rs) (bc rs)
 | .fre d=>Ar d true rs
section
variable {g:Gd}{M:Addr->Prop}{ρ:Pr}{env:En}{σ:St}{H H':Hp}
theorem Rep.came (rep:Rep g M ρ env σ H)(s:Same H H')(p:Addr->Prop):Rep g (fun a=>M a\/(nl H H' a/\p a)) ρ env σ H':=(rep.grow s).moreT fun a z=>⟨z.1.2,rep.same.free z.1.1,(rep.free z.1.1).2.2⟩
theorem yb {d:D}{fr:Bool}{v:V}(rs:List R)(rep:Rep g M ρ env σ H)(s:Same H H')(h:Is H' (fun a=>nl H H' a\/(fr=false/\vmsk g M (a_ rs) ρ (bc rs) a)) d v) :
 ∃ M',Ext M H M' H'/\Rep g M' ρ env σ H'/\ROk g M' ρ H H' v (Ar d fr rs):=by
 unfold Ar;by_cases hf:d.flat=true
 .rw[JW hf];exact⟨M,⟨fun _ z=>z,s,fun _ z=>.inl z⟩,rep.grow s,Is.flat hf h⟩
 .rw[J0 hf];cases fr with
  |true=>
   refine⟨M,⟨fun _ z=>z,s,fun _ z=>.inl z⟩,rep.grow s,nl H H',fun a z=>?_,?_⟩
   .exact⟨fun w=>rep.froz a w z.1,z.1,z.2,(rep.free z.1).2.2⟩
   .exact Is.weak (fun a z=>z.elim id fun w=>by cases w.1) h
  |false=>
   refine⟨_,⟨fun _=>.inl,s,fun _ z=>z.imp id (·.1.1)⟩,rep.came s fun _=>True,?_⟩;refine Is.weak (fun a z=>?_) h;rcases z with z|⟨_,z⟩
   .exact .inl ⟨.inr ⟨z,True.intro⟩,fun _=>rep.same.free z.1⟩
   .exact z.mono fun _=>.inl
theorem RetOk.caller {v:V}{r:R}(rs:List R)(rep:Rep g M ρ env σ H)(s:Same H H')(h:RetOk (GP H (vmsk g M (a_ rs) ρ (bc rs))) H' v r) :
 ∃ M',Ext M H M' H'/\Rep g M' ρ env σ H'/\ROk g M' ρ H H' v (eG rs r):=by
 cases r with
 |val d fr al=>exact yb rs rep s h
 |fre d=>exact yb rs rep s (Is.weak (fun a z=>.inl z) h)
 |new ds fr=>
  obtain⟨a,vs,rfl,h1,h2,h3⟩:=h;have h2:H a=none:=h2;obtain⟨f0,f1,f2⟩:=rep.free h2;have R1:Rep g (fun b=>M b\/(nl H H' b/\b≠a)) ρ env σ H':=rep.came s fun b=>b≠a;have nm:¬ (M a\/(nl H H' a/\a≠a)):=fun z=>z.elim f1 fun z=>z.2 rfl;have X1:Ext M H (fun b=>M b\/(nl H H' b/\b≠a)) H':=⟨fun _=>.inl,s,fun _ z=>z.imp id (·.1.1)⟩;unfold eG;dsimp only;by_cases hfl:D.flats ds=true
  .rw[JW hfl];exact⟨_,X1,R1,a,vs,rfl,h1,nm,h2,f2,IsAll.flat hfl h3⟩
  .rw[J0 hfl];cases fr with
   |true=>
    refine⟨M,⟨fun _ z=>z,s,fun _ z=>.inl z⟩,rep.grow s,nl H H',fun a z=>?_,?_⟩
    .exact⟨fun w=>rep.froz a w z.1,z.1,z.2,(rep.free z.1).2.2⟩
    .exact⟨a,vs,rfl,.inl ⟨h1,h2,Mu.lst h1⟩,IsAll.weak (fun b z=>z.2.elim id fun w=>by cases w.1) h3⟩
   |false=>
    simp only[J_,KR];by_cases hc:(bc rs).isEmpty=true
    .rw[JW hc];refine⟨_,X1,R1,a,vs,rfl,h1,nm,h2,f2,?_⟩;refine IsAll.weak (fun b z=>?_) h3;rcases z with⟨nb,z|⟨hf,z⟩⟩
     .exact⟨.inr ⟨z,nb⟩,fun _=>rep.same.free z.1⟩
     .have hl:bc rs=[]:=by simpa using hc
      have z:vmsk g M (a_ rs) ρ (bc rs) b:=z;rw[hl]at z;exact⟨.inl z.nil.1,z.nil.2⟩
    .rw[J0 hc];refine⟨fun b=>(M b\/(nl H H' b/\b≠a))\/b=a,⟨fun _ z=>.inl (.inl z),s,fun b z=>z.elim (X1.n b) fun e=>.inr (e▸h2)⟩,R1.more h1 f0 f2,a,vs,rfl,.inl ⟨h1,.inl ⟨.inr rfl,fun _=>f0⟩⟩,?_⟩;refine IsAll.weak (fun b z=>?_) h3;rcases z with⟨nb,z|⟨hf,z⟩⟩
     .exact .inl ⟨.inl (.inr ⟨z,nb⟩),fun _=>rep.same.free z.1⟩
     .exact vmsk.mono (fun _ w=>.inl (.inl w)) z
end
section
variable {X:Cx}{E:XK}{CX:CXT}{k:Nat}{f:Addr}{fd:FuncData}{ps:List Str}{F:List D->Res R}{x:Str}{p pos:Pos}{e:Expr}{es:List Expr}{fs:En->Res (List R)}
def aW (F:List D->Res R)(fs:En->Res (List R)):En->Res R:=fun env=>(fs env).bind fun rs=>(F (rs.map R.d)).bind fun r=>.ok (eG rs r)
theorem yc {t:TA}(hl:∀ env rs,fs env=.ok rs->rs.length=ps.length)(s:SndA X.mg E t fs):Snd X.mg E (Cz (rC X.mg ps.length F) [] E t) (aW F fs):=by
 intro g M ρ env σ H Q rep p;refine s g M ρ env σ H _ rep ?_;unfold aW at p;cases e:fs env with
 |stuck=>rw[e]at p;exact p
 |exc c=>rw[e]at p;exact p
 |ok rs=>
  rw[e]at p;intro vs M1 H1 e1 rep1 is;have p1:PostE X.mg E g M1 ρ env σ H1 Q ((F (rs.map R.d)).bind fun r=>.ok (eG rs r)):=PostE.ext e1 p;rw[Ls];refine⟨by rw[is.length,JU];exact hl env rs e,rs.map R.d,_,is,?_⟩;cases q:F (rs.map R.d) with
  |stuck=>rw[q]at p1;exact p1
  |exc c=>rw[q]at p1;exact fun cls dx H' h1 h2=>p1 cls dx H' h1 (rep1.same.trans h2)
  |ok r=>rw[q]at p1;intro v H2 s2 ro;obtain⟨M3,e3,rep3,ro3⟩:=RetOk.caller rs rep1 s2 ro;exact p1 v M3 H2 e3 rep3 ro3
theorem aM (G:FnOk X.prog X.w X.K X.mg X.base CX k f fd ps (rC X.mg ps.length F))(hr:Room k X.A)(hg:Gl X x)(hm:X.mg x=some (.ref f))(hk:PySem.W.keepIn X.K (.ref f)=true)(hb:Binds X.K fd ps [])(hx:jv CX X E)
 (ha:Ap X E (e::es) fs) (hl:∀ env rs,fs env=.ok rs->rs.length=ps.length) (hdb:autoParam ((x==("__debug__" : Str))=false) Nk._auto_1) (he:autoParam (starEach (e::es) X.env=(false,eval e X.env)::starEach es X.env) Nq._auto_1) (hpl:autoParam ((backTo pos (starEach es X.env)).any (·.1)=false) Nq._auto_1) :
 PD X E (.Call (.Name x p) (e::es) [] pos) (aW F fs):=by
 obtain⟨t,p1,s1⟩:=ha;exact⟨_,oN G hr hg hm hk hb .nil hx p1 hdb he hpl,yc hl s1⟩
theorem aG:∀ env rs,az env=.ok rs->rs.length=0:=fun _ _ e=>by cases e;rfl
theorem ak {f:En->Res R}{fs:En->Res (List R)}{n:Nat}(h:∀ env rs,fs env=.ok rs->rs.length=n):∀ env rs,aj f fs env=.ok rs->rs.length=n+1:=fun env rs e=>by
 unfold aj at e;cases q:f env with
 |stuck=>rw[q]at e;cases e
 |exc c=>rw[q]at e;cases e
 |ok r=>
  rw[q]at e;cases q2:fs env with
  |stuck=>simp only[Res.bind_ok,q2]at e;cases e
  |exc c=>simp only[Res.bind_ok,q2]at e;cases e
  |ok rs'=>simp only[Res.bind_ok,q2]at e;cases e;simp[h env rs' q2]
def lP (X:Cx)(E:XK)(f:Ni)(k:List R->Res R):Prop:=∃ r,CallR X f r/\
 ∀ g M ρ env σ H Q rs vs,Rep g M ρ env σ H->IsAll H (vmsk g M (a_ rs) ρ (bc rs)) (rs.map R.d) vs->PostE X.mg E g M ρ env σ H Q (k rs)->r vs H Q
def pq (k:List R->Res R)(fs:En->Res (List R)):En->Res R:=fun env=>(fs env).bind k
theorem iS {id:String} {k:List R->Res R} (hc:lP X E (.builtin id) k) (hg:Gl X x) (hm:X.mg x=none) (hv:bootBuiltins x=some (.builtin id)) (ha:Ap X E (e::es) fs) (hn:autoParam (x≠"__name__") Nk._auto_1) (hdb:autoParam ((x==("__debug__" : Str))=false) Nk._auto_1)
 (he:autoParam (starEach (e::es) X.env=(false,eval e X.env)::starEach es X.env) Nq._auto_1) (hpl:autoParam ((backTo pos (starEach es X.env)).any (·.1)=false) Nq._auto_1):PD X E (.Call (.Name x p) (e::es) [] pos) (pq k fs):=by
 obtain⟨r,h1,h2⟩:=hc;obtain⟨t,p1,s1⟩:=ha;exact⟨_,lj h1 hg hm hv p1 hn hdb he hpl,fun g M ρ env σ H Q rep p=>s1.oneE rep p fun rs vs M1 H1 e1 rep1 i1 q1=>h2 g M1 ρ env σ H1 Q rs vs rep1 i1 q1⟩
theorem dC {T:String} {k:List R->Res R} (hc:lP X E (.type T) k) (hg:Gl X x) (hm:X.mg x=none) (hv:bootBuiltins x=some (.type T)) (ha:Ap X E (e::es) fs) (hn:autoParam (x≠"__name__") Nk._auto_1) (hdb:autoParam ((x==("__debug__" : Str))=false) Nk._auto_1)
 (he:autoParam (starEach (e::es) X.env=(false,eval e X.env)::starEach es X.env) Nq._auto_1) (hpl:autoParam ((backTo pos (starEach es X.env)).any (·.1)=false) Nq._auto_1):PD X E (.Call (.Name x p) (e::es) [] pos) (pq k fs):=by
 obtain⟨r,h1,h2⟩:=hc;obtain⟨t,p1,s1⟩:=ha;exact⟨_,jw h1 hg hm hv p1 hn hdb he hpl,fun g M ρ env σ H Q rep p=>s1.oneE rep p fun rs vs M1 H1 e1 rep1 i1 q1=>h2 g M1 ρ env σ H1 Q rs vs rep1 i1 q1⟩
def mS:List R->Res R
 | [r]=>match r.d with
  | .lst ds=>.ok (.val (.int ds.length) true [])
  | .tup ds=>.ok (.val (.int ds.length) true [])
  | .str z=>if z.length<=lim then .ok (.val (.int z.length) true []) else .stuck
  |_=>.stuck
 |_=>.stuck
theorem px:lP X E (.builtin "len") mS:=by
 refine⟨_,call_len_seq.or oR,fun g M ρ env σ H Q rs vs rep i p=>?_⟩
 match rs,i,p with
 | [r],i,p=>
  obtain⟨v,w,rfl,i1,i2⟩:=i;cases i2;have i1:Is H (vmsk g M (a_ [r]) ρ (bc [r])) r.d v:=i1;unfold mS at p;dsimp only at p;cases q:r.d with
  |lst ds=>rw[q]at p i1;obtain⟨a,ws,rfl,h1,h2⟩:=i1.rd;exact .inl ⟨a,ws,rfl,.inl (.inl h1),by rw[h2.length];exact p _ M H (Ext.refl _ _) rep rfl⟩
  |tup ds=>rw[q]at p i1;obtain⟨a,ws,rfl,h1,h2⟩:=i1;exact .inl ⟨a,ws,rfl,.inr (SqT.of h1),by rw[h2.length];exact p _ M H (Ext.refl _ _) rep rfl⟩
  |str z=>
   rw[q]at p i1;cases i1;by_cases hz:z.length<=lim
   .simp only[hz,Me]at p;exact .inr ⟨z,rfl,fP hz,p _ M H (Ext.refl _ _) rep rfl⟩
   .simp only[hz,KR]at p;exact p.elim
  |_=>rw[q]at p;exact p.elim
 | [],_,p=>exact p.elim
 |_::_::_,_,p=>exact p.elim
def rD:List R->Res R
 | [r]=>match r.d with
  | .lst ds=>.ok (jC ds r.fr r.al)
  | .tup ds=>.ok (jC ds r.fr r.al)
  |_=>.stuck
 |_=>.stuck
theorem pz {g:Gd}{M:Addr->Prop}{ρ:Pr}{r:R}{a:Addr}(h:vmsk g M (a_ [r]) ρ (bc [r]) a):vmsk g M r.fr ρ r.al a:=by
 have e1:a_ [r]=r.fr:=by simp[a_]
 have e2:bc [r]=r.al:=by simp[bc]
 rw[e1,e2]at h;exact h
theorem A4:lP X E (.type "list") rD:=by
 refine⟨_,oS,fun g M ρ env σ H Q rs vs rep i p=>?_⟩
 match rs,i,p with
 | [r],i,p=>
  obtain⟨v,w,rfl,i1,i2⟩:=i;cases i2;have i1:Is H (vmsk g M (a_ [r]) ρ (bc [r])) r.d v:=i1;replace i1:=i1.weak fun _ z=>pz z;unfold rD at p;dsimp only at p;cases q:r.d with
  |lst ds=>rw[q]at p i1;obtain⟨a,ws,rfl,h1,h2⟩:=i1.rd;exact⟨a,ws,rfl,.inl (.inl h1),fun l hl=>p.lst rep hl h2⟩
  |tup ds=>rw[q]at p i1;obtain⟨a,ws,rfl,h1,h2⟩:=i1;exact⟨a,ws,rfl,.inr (SqT.of h1),fun l hl=>p.lst rep hl h2⟩
  |_=>rw[q]at p;exact p.elim
 | [],_,p=>exact p.elim
 |_::_::_,_,p=>exact p.elim
end
inductive Fl where
 |nx (env:En)|rt (r:R)|bk (env:En)|ct (env:En)|rm (r:R) (env:En)
structure Frz (M:Addr->Prop) (H:Hp) (M':Addr->Prop) (H':Hp):Prop where
 m:∀ a,M a->M' a
 h:∀ a o,H a=some o->(M a\/fixd o)->H' a=some o
theorem Frz.refl (M:Addr->Prop)(H:Hp):Frz M H M H:=⟨fun _ z=>z,fun _ _ e _=>e⟩
theorem Frz.trans {M M1 M2:Addr->Prop}{H H1 H2:Hp}(a:Frz M H M1 H1)(b:Frz M1 H1 M2 H2):Frz M H M2 H2:=⟨fun x z=>b.m x (a.m x z),fun x o e z=>b.h x o (a.h x o e z) (z.imp (a.m x) id)⟩
theorem Ext.frz {M M':Addr->Prop}{H H':Hp}(e:Ext M H M' H'):Frz M H M' H':=⟨e.m,fun a o q _=>e.h a o q⟩
section
variable (mg:Str->Option Ni)(E:XK)(g:Gd)(M:Addr->Prop)(H:Hp)(D:Ends)
def PostS:Res Fl->Prop
 | .stuck=>False
 | .exc c=>Ao mg E g c
 | .ok (.nx env)=>∀ σ M' ρ H',Frz M H M' H'->Rep g M' ρ env σ H'->D.nx σ H'
 | .ok (.bk env)=>∀ σ M' ρ H',Frz M H M' H'->Rep g M' ρ env σ H'->D.bk σ H'
 | .ok (.ct env)=>∀ σ M' ρ H',Frz M H M' H'->Rep g M' ρ env σ H'->D.ct σ H'
 | .ok (.rt r)=>∀ v M' H',Frz M H M' H'->Same g.H₀ H'->((∀ a,¬ g.Z a)->RetOk g H' v r)->(r.d.flat=true->Is H' (fun _=>False) r.d v)->D.rt v H'
 | .ok (.rm r env)=>∀ v σ M' ρ H0 H',Frz M H M' H'->Rep g M' ρ env σ H'->Same g.H₀ H0->ROk g M' ρ H0 H' v r->D.rt v H'
end
def yd (mg:Str->Option Ni)(E:XK)(t:TS)(f:En->Res Fl):Prop:=∀ g M ρ env σ H D,Rep g M ρ env σ H->PostS mg E g M H D (f env)->t D σ H
def ju (X:Cx)(E:XK)(st:Stmt)(f:En->Res Fl):Prop:=∃ t,PS X st t/\yd X.mg E t f
def iu (X:Cx)(E:XK)(st:List Stmt)(f:En->Res Fl):Prop:=∃ t,PSs X st t/\yd X.mg E t f
section
variable {mg:Str->Option Ni}{E:XK}{g:Gd}{M M':Addr->Prop}{ρ:Pr}{env:En}{σ:St}{H H':Hp}{D:Ends}
theorem PostS.frz {r:Res Fl}(e:Frz M H M' H')(p:PostS mg E g M H D r):PostS mg E g M' H' D r:=by
 cases r with
 |stuck=>exact p
 |exc c=>exact p
 |ok r=>cases r with
  |nx env=>exact fun σ M2 ρ2 H2 e2=>p σ M2 ρ2 H2 (e.trans e2)
  |bk env=>exact fun σ M2 ρ2 H2 e2=>p σ M2 ρ2 H2 (e.trans e2)
  |ct env=>exact fun σ M2 ρ2 H2 e2=>p σ M2 ρ2 H2 (e.trans e2)
  |rt r=>exact fun v M2 H2 e2=>p v M2 H2 (e.trans e2)
  |rm r env=>exact fun v σ M2 ρ2 H0 H2 e2=>p v σ M2 ρ2 H0 H2 (e.trans e2)
theorem Snd.oneS {t:TE}{f:En->Res R}(h:Snd mg E t f)(rep:Rep g M ρ env σ H){K:R->Res Fl}{Q:VK}(hp:PostS mg E g M H D ((f env).bind K))
 (k:∀ r v M' H',Ext M H M' H'->Rep g M' ρ env σ H'->ROk g M' ρ H H' v r->PostS mg E g M' H' D (K r)->Q v H'):t σ H Q:=by
 refine h g M ρ env σ H Q rep ?_;cases e:f env with
 |stuck=>rw[e]at hp;exact hp
 |exc c=>rw[e]at hp;exact hp
 |ok r=>rw[e]at hp;exact fun v M1 H1 e1 rep1 ro=>k r v M1 H1 e1 rep1 ro (PostS.frz e1.frz hp)
theorem SndT.oneS {t:TT}{f:En->Res Bool}(h:SndT mg E t f)(rep:Rep g M ρ env σ H){K:Bool->Res Fl}{Q:Bool->Hp->Prop}(hp:PostS mg E g M H D ((f env).bind K))
 (k:∀ b M' H',Frz M H M' H'->Rep g M' ρ env σ H'->PostS mg E g M' H' D (K b)->Q b H'):t σ H Q:=by
 refine h g M ρ env σ H Q rep ?_;cases e:f env with
 |stuck=>rw[e]at hp;exact hp
 |exc c=>rw[e]at hp;exact hp
 |ok r=>rw[e]at hp;exact fun M1 H1 e1 rep1=>k r M1 H1 e1.frz rep1 (PostS.frz e1.frz hp)
noncomputable def GT (ρ:Pr)(i:Nat):Pr:=fun j a=>if j=i then False else ρ j a
theorem t3 {j i:Nat}(h:j≠i):GT ρ i j=ρ j:=by funext a;unfold GT;rw[J0 h]
theorem lQ {j i:Nat}{a:Addr}(h:GT ρ i j a):j≠i/\ρ j a:=by
 unfold GT at h;by_cases e:j=i
 .rw[JW e]at h;exact h.elim
 .rw[J0 e]at h;exact⟨e,h⟩
noncomputable def lR (ρ:Pr)(i:Nat)(T:Addr->Prop):Pr:=fun j a=>if j=i then T a else ρ j a
theorem aK {j i:Nat}{T:Addr->Prop}(h:j≠i):lR ρ i T j=ρ j:=by funext a;unfold lR;rw[J0 h]
theorem bb {i:Nat}{T:Addr->Prop}:lR ρ i T i=T:=by funext a;unfold lR;rw[JW rfl]
def frz1 (env:En)(i:Nat):En:=match env[i]? with
 |some (some (.own ds fr))=>env.set i (some (.val (.lst ds) fr))
 |some (some (.tre d))=>env.set i (some (.val d true))
 |some (some (.mes _))=>env.set i none
 |some (some (.pin d))=>env.set i (some (.val d true))
 |some (some (.dis d))=>env.set i (some (.val d true))
 |some (some (.fix _ (.tr d)))=>env.set i (some (.val d true))
 |some (some (.fix _ (.ds d)))=>env.set i (some (.val d true))
 |_=>env
def frz (env:En)(al:List Nat):En:=al.foldl frz1 env
theorem pA {i j:Nat}(h:j≠i):(frz1 env i)[j]?=env[j]?:=by unfold frz1;split<;>first|rfl|exact JX (Ko h)
theorem rE (i:Nat):(frz1 env i).length=env.length:=by unfold frz1;split<;>simp
theorem pB:∀(al:List Nat){env:En}{j:Nat},¬ j∈al->(frz env al)[j]?=env[j]?
 | [],_,_,_=>rfl
 |i::al,env,j,h=>by show(frz (frz1 env i) al)[j]?=_;rw[pB al fun z=>h (by simp[z]),pA fun z=>h (by simp[z])]
theorem dr:∀(al:List Nat)(env:En),(frz env al).length=env.length
 | [],_=>rfl
 |i::al,env=>by show(frz (frz1 env i) al).length=_;rw[dr al,rE]
theorem Rep.frz1 (rep:Rep g M ρ env σ H)(i:Nat):Rep g (fun a=>M a\/ρ i a) (GT ρ i) (frz1 env i) σ H where
 same:=rep.same
 froz:=fun b hb=>hb.elim (rep.froz b) fun z=>(rep.priv i b z).2.2.some
 inn:=fun b hb=>hb.elim (rep.inn b) fun z=>.inl (rep.priv i b z).2.1
 fl:=fun b hb h0=>hb.elim (fun z=>rep.fl b z h0) fun z=>.inl (rep.priv i b z).2.2
 slot:=fun j sl ej=>by
  by_cases hj:j=i
  .subst hj;cases e:env[j]? with
   |none=>
    have:L3.frz1 env j=env:=by unfold L3.frz1;rw[e]
    rw[this,e]at ej;cases ej
   |some o=>
    have hi:j<env.length:=(JY.mp e).1;cases o with
    |none=>
     have:L3.frz1 env j=env:=by unfold L3.frz1;rw[e]
     rw[this,e]at ej;cases ej
    |some s0=>
     obtain⟨v,ev,k⟩:=rep.slot j s0 e;cases s0 with
     |val d fr=>
      have:L3.frz1 env j=env:=by unfold L3.frz1;rw[e]
      rw[this,e]at ej;cases ej;exact⟨v,ev,Is.weak (fun b z=>msk.mono (fun _=>.inl) z) k⟩
     |own ds fr=>
      have:L3.frz1 env j=env.set j (some (.val (.lst ds) fr)):=by unfold L3.frz1;rw[e]
      rw[this,JZ hi]at ej;cases ej;obtain⟨a,vs,rfl,h1,h2,h4⟩:=k;have ha:=(h2 a).mpr rfl;exact⟨_,ev,a,vs,rfl,.inl ⟨h1,.inr ha,fun _=>(rep.priv j a ha).2.1⟩,IsAll.weak (fun b z=>msk.mono (fun _=>.inl) z) h4⟩
     |tre d=>
      have:L3.frz1 env j=env.set j (some (.val d true)):=by unfold L3.frz1;rw[e]
      rw[this,JZ hi]at ej;cases ej;exact⟨v,ev,Is.weak (fun b z=>⟨.inr z,fun _=>(rep.priv j b z).2.1⟩) k⟩
     |mes d=>
      have:L3.frz1 env j=env.set j none:=by unfold L3.frz1;rw[e]
      rw[this,JZ hi]at ej;cases ej
     |pin d=>
      have:L3.frz1 env j=env.set j (some (.val d true)):=by unfold L3.frz1;rw[e]
      rw[this,JZ hi]at ej;cases ej;exact⟨v,ev,Is.weak (fun b z=>⟨.inr z,fun _=>(rep.priv j b z).2.1⟩) k.1⟩
     |dis d=>
      have:L3.frz1 env j=env.set j (some (.val d true)):=by unfold L3.frz1;rw[e]
      rw[this,JZ hi]at ej;cases ej;exact⟨v,ev,Is.weak (fun b z=>⟨.inr z,fun _=>(rep.priv j b z).2.1⟩) k.1⟩
     |fix n q0=>
      cases q0 with
      |no=>
       have:L3.frz1 env j=env:=by unfold L3.frz1;rw[e]
       rw[this,e]at ej;cases ej;exact⟨v,ev,k.1,True.intro⟩
      |tr d=>
       have:L3.frz1 env j=env.set j (some (.val d true)):=by unfold L3.frz1;rw[e]
       rw[this,JZ hi]at ej;cases ej;exact⟨v,ev,Is.weak (fun b z=>⟨.inr z,fun _=>(rep.priv j b z).2.1⟩) k.2⟩
      |ds d=>
       have:L3.frz1 env j=env.set j (some (.val d true)):=by unfold L3.frz1;rw[e]
       rw[this,JZ hi]at ej;cases ej;exact⟨v,ev,Is.weak (fun b z=>⟨.inr z,fun _=>(rep.priv j b z).2.1⟩) k.2.1⟩
     |kon a=>
      have:L3.frz1 env j=env:=by unfold L3.frz1;rw[e]
      rw[this,e]at ej;cases ej;exact⟨v,ev,k⟩
  .rw[pA hj]at ej;obtain⟨v,ev,k⟩:=rep.slot j sl ej;exact⟨v,ev,by rw[t3 hj];exact SlOk.weak (fun _=>.inl) k⟩
 priv:=fun j a h=>by obtain⟨hj,h⟩:=lQ h;exact⟨fun z=>z.elim (rep.priv j a h).1 fun z=>hj (rep.apart j i a h z),(rep.priv j a h).2⟩
 apart:=fun j k a h1 h2=>rep.apart j k a (lQ h1).2 (lQ h2).2
 ow:=fun j a h=>by obtain⟨hj,h⟩:=lQ h;have:=rep.ow j a h;unfold isOwn at this ⊢;rw[pA hj];exact this
 len:=by rw[rE];exact rep.len
 zz:=rep.zz
theorem Rep.frz:∀(al:List Nat){env:En}{M:Addr->Prop}{ρ:Pr},Rep g M ρ env σ H->∃(M':Addr->Prop)(ρ':Pr),(∀ a,M a->M' a)/\Rep g M' ρ' (L3.frz env al) σ H/\(∀ i,i∈al->∀ a,ρ i a->M' a)/\(∀ j a,ρ' j a->ρ j a)/\(∀ j,¬ j∈al->ρ' j=ρ j)
 | [],env,M,ρ,rep=>⟨M,ρ,fun _ z=>z,rep,fun _ z=>absurd z (by simp),fun _ _ o=>o,fun _ _=>rfl⟩
 |i::al,env,M,ρ,rep=>by
  obtain⟨M2,ρ2,e2,rep2,o2,k2,l2⟩:=Rep.frz al (rep.frz1 i);refine⟨M2,ρ2,fun a z=>e2 a (.inl z),rep2,fun j hj a o=>?_,fun j a o=>(lQ (k2 j a o)).2,fun j hj=>?_⟩
  .by_cases hji:j=i
   .exact e2 a (.inr (hji▸o))
   .exact o2 j ((J5.mp hj).resolve_left hji) a (by rw[t3 hji];exact o)
  .rw[l2 j fun z=>hj (by simp[z]),t3 fun z=>hj (by simp[z])]
theorem Is.frozen {fr:Bool}{al:List Nat}{d:L3.D}{v:V}(rep:Rep g M ρ env σ H)(e:∀ a,M a->M' a)(hm:∀ i,i∈al->∀ a,ρ i a->M' a)(h:Is H (vmsk g M fr ρ al) d v):Is H (msk g M' fr) d v:=h.weak fun a z=>z.elim (msk.mono e) fun⟨i,hi,o⟩=>⟨hm i hi a o,fun _=>(rep.priv i a o).2.1⟩
theorem Rep.put {i:Nat}{sl:Sl}{v:V}{T:Addr->Prop}(rep:Rep g M ρ env σ H)(hi:i<env.length)(ok:SlOk g M T H v sl)(ht:∀ a,T a->¬ M a/\g.H₀ a=none/\Mu H a/\∀ j,j≠i->¬ ρ j a)(hO:autoParam (∀ a,T a->sl.isO=true) Np._auto_1) :
 Rep g M (lR ρ i T) (env.set i (some sl)) (σ.set i (some v)) H:=by
 have hi2:i<σ.length:=by rw[<- rep.len];exact hi
 refine⟨rep.same,rep.froz,rep.inn,rep.fl,fun j s ej=>?_,fun j a h=>?_,fun j k a h1 h2=>?_,fun j a h=>?_,by rw[KE,KE];exact rep.len,rep.zz⟩
 .by_cases hj:j=i
  .subst hj;rw[JZ hi]at ej;cases ej;exact⟨v,JZ hi2,by rw[bb];exact ok⟩
  .rw[JX (Ko hj)]at ej;obtain⟨w,ew,k⟩:=rep.slot j s ej;exact⟨w,by rw[JX (Ko hj)];exact ew,by rw[aK hj];exact k⟩
 .by_cases hj:j=i
  .subst hj;rw[bb]at h;exact⟨(ht a h).1,(ht a h).2.1,(ht a h).2.2.1⟩
  .rw[aK hj]at h;exact rep.priv j a h
 .by_cases hj:j=i
  .by_cases hk:k=i
   .rw[hj,hk]
   .subst hj;rw[bb]at h1;rw[aK hk]at h2;exact absurd h2 ((ht a h1).2.2.2 k hk)
  .by_cases hk:k=i
   .subst hk;rw[bb]at h2;rw[aK hj]at h1;exact absurd h1 ((ht a h2).2.2.2 j hj)
   .rw[aK hj]at h1;rw[aK hk]at h2;exact rep.apart j k a h1 h2
 .unfold isOwn;by_cases hj:j=i
  .subst hj;rw[bb]at h;rw[JZ hi];exact hO a h
  .rw[aK hj]at h;rw[JX (Ko hj)];exact rep.ow j a h
def put (env:En)(i:Nat):R->En
 | .new ds fr=>env.set i (some (.own ds fr))
 | .val d fr al=>(frz env al).set i (some (.val d fr))
 | .fre d=>env.set i (some (.tre d))
theorem Rep.store {i:Nat}{r:R}{v:V}{H0:Hp}(rep:Rep g M ρ env σ H)(h0:Same g.H₀ H0)(hi:i<env.length)(h:ROk g M ρ H0 H v r):∃ M' ρ',Frz M H M' H/\Rep g M' ρ' (L3.put env i r) (σ.set i (some v)) H:=by
 cases r with
 |new ds fr=>obtain⟨a,vs,rfl,h1,h2,h3,h4,h5⟩:=h;exact⟨M,_,Frz.refl _ _,rep.put (sl:=.own ds fr) (T:=fun b=>b=a) hi ⟨a,vs,rfl,h1,fun _=>Iff.rfl,h5⟩ fun b e=>by subst e;exact⟨h2,h0.free h3,Mu.lst h1,fun j _=>h4 j⟩⟩
 |val d fr al=>obtain⟨M1,ρ1,e1,rep1,o1,k1,_⟩:=Rep.frz al rep;exact⟨M1,_,⟨e1,fun _ _ e _=>e⟩,rep1.put (sl:=.val d fr) (T:=fun _=>False) (by rw[dr];exact hi) (Is.frozen rep e1 o1 h) (fun _ z=>z.elim) fun _ z=>z.elim⟩
 |fre d=>obtain⟨T,ht,is⟩:=h;exact⟨M,_,Frz.refl _ _,rep.put (sl:=.tre d) (T:=T) hi is fun b z=>let ⟨a1,a2,a3,a4⟩:=ht b z;⟨a1,h0.free a2,a3,fun j _=>a4 j⟩⟩
theorem Rep.writeO {i:Nat}{a:Addr}{sl:Sl}{v:V}{u':HO}(hu:D7 u')(rep:Rep g M ρ env σ H)(o:ρ i a)(hi:i<env.length)(ev:σ[i]?=some (some v))(ok:SlOk g M (ρ i) (ay H a u') v sl)(hO:autoParam (sl.isO=true) Nq._auto_1) :
 Frz M H M (ay H a u')/\Rep g M ρ (env.set i (some sl)) σ (ay H a u'):=by
 obtain⟨nm,n0,uo,ha,hmu⟩:=rep.priv i a o;have nfx:∀ u,H a=some u->¬ fixd u:=fun u e z=>by rw[ha]at e;cases e;cases uo<;>first|exact z|exact hmu
 have kp:∀ b u,H b=some u->(M b\/fixd u)->ay H a u' b=some u:=fun b u q z=>by
  rw[af]
  .exact q
  .rintro rfl;rcases z with z|z
   .exact nm z
   .exact nfx u q z
 have km:∀(fr:Bool) b u,H b=some u->(msk g M fr b\/fixd u)->ay H a u' b=some u:=fun fr b u q z=>kp b u q (z.imp (·.1) id);refine⟨⟨fun _ z=>z,kp⟩,fun b u q=>?_,fun b hb=>?_,rep.inn,fun b hb h0=>?_,fun j s ej=>?_,fun j b h=>?_,rep.apart,fun j b h=>?_,by rw[KE];exact rep.len,fun c z e=>by
  by_cases hc:c=a
  .subst hc;rw[ai]at e;cases e
  .rw[af hc]at e;exact rep.zz c z e⟩
 .rw[af (fun z=>by rw[z,n0]at q;cases q)];exact rep.same b u q
 .have nb:b≠a:=fun z=>nm (by rw[<- z];exact hb);rw[af nb];exact rep.froz b hb
 .have nb:b≠a:=fun z=>nm (by rw[<- z];exact hb);exact(rep.fl b hb h0).same fun o e=>by rw[af nb];exact e
 .by_cases hj:j=i
  .subst hj;rw[JZ hi]at ej;cases ej;exact⟨v,ev,ok⟩
  .rw[JX (Ko hj)]at ej;obtain⟨w,ew,k⟩:=rep.slot j s ej;refine⟨w,ew,?_⟩;have nj:∀ b,ρ j b->b≠a:=fun b hb e=>hj (rep.apart j i a (e▸hb) o);cases s with
   |val d fr=>exact Is.mono (km fr) (fun _ _ _ z=>z) k
   |own ds' fr'=>obtain⟨b,ws,rfl,h1,h2,h4⟩:=k;exact⟨b,ws,rfl,by rw[af (nj b ((h2 b).mpr rfl))];exact h1,h2,IsAll.mono (km fr') (fun _ _ _ z=>z) h4⟩
   |tre d=>
    refine Is.mono (fun b u q z=>?_) (fun _ _ _ z=>z) k;rw[af]
    .exact q
    .rcases z with z|z
     .exact nj b z
     .intro e;rw[e]at q;exact nfx u q z
   |mes d=>refine IsSh.mono (fun b u q z=>kp b u q (.inr z)) (fun b ws z q=>⟨ws,by rw[af (nj b z)];exact q⟩) (fun _ z=>z) k
   |pin d=>
    refine⟨Is.mono (fun b u q z=>?_) (fun _ _ _ z=>z) k.1,k.2⟩;rw[af]
    .exact q
    .rcases z with z|z
     .exact nj b z
     .intro e;rw[e]at q;exact nfx u q z
   |dis d=>
    refine⟨Is.mono (fun b u q z=>?_) (fun _ _ _ z=>z) k.1,k.2.mono (fun b u z q=>by rw[af (nj b z)];exact q) fun _ z=>z⟩;rw[af]
    .exact q
    .rcases z with z|z
     .exact nj b z
     .intro e;rw[e]at q;exact nfx u q z
   |fix n q0=>
    refine⟨k.1,k.2.mono fun b u q z=>?_⟩;rw[af]
    .exact q
    .rcases z with z|z
     .exact nj b z
     .intro e;rw[e]at q;exact nfx u q z
   |kon a=>exact k
 .obtain⟨b1,b2,b3⟩:=rep.priv j b h;refine⟨b1,b2,?_⟩;by_cases e:b=a
  .exact⟨u',by rw[e,ai],hu⟩
  .exact b3.same fun o z=>by rw[af e];exact z
 .unfold isOwn;by_cases hj:j=i
  .subst hj;rw[JZ hi];exact hO
  .rw[JX (Ko hj)];exact rep.ow j b h
theorem Rep.write {i:Nat}{a:Addr}{sl:Sl}{v:V}{vs':List V}(rep:Rep g M ρ env σ H)(o:ρ i a)(hi:i<env.length)(ev:σ[i]?=some (some v))(ok:SlOk g M (ρ i) (ay H a (.lst vs')) v sl)(hO:autoParam (sl.isO=true) Nq._auto_1) :
 Frz M H M (ay H a (.lst vs'))/\Rep g M ρ (env.set i (some sl)) σ (ay H a (.lst vs')):=rep.writeO (u':=.lst vs') True.intro o hi ev ok hO
end
section
variable {X:Cx}{E:XK}
noncomputable def fS:En->Res Fl:=fun env=>.ok (.nx env)
def aD (f k:En->Res Fl):En->Res Fl:=fun env=>(f env).bind fun r=>match r with
 | .nx aJ=>k aJ
 |r=>.ok r
theorem aL:iu X E [] fS:=⟨_,AA,fun g M ρ env σ H D rep p=>p σ M ρ H (Frz.refl _ _) rep⟩
theorem am {st:Stmt}{f:En->Res Fl}(h:ju X E st f):iu X E [st] f:=let ⟨t,a,b⟩:=h;⟨t,ur a,b⟩
theorem ac {st:Stmt}{aZ:List Stmt}{f k:En->Res Fl}(h1:ju X E st f)(h2:iu X E aZ k):iu X E (st::aZ) (aD f k):=by
 obtain⟨t,a,b⟩:=h1;obtain⟨u,c,d⟩:=h2;refine⟨_,qJ a c,fun g M ρ env σ H D rep p=>b g M ρ env σ H _ rep ?_⟩;unfold aD at p;cases q:f env with
 |stuck=>rw[q]at p;exact p
 |exc c=>rw[q]at p;exact p
 |ok r=>
  rw[q]at p;cases r with
  |nx aJ=>exact fun σ' M' ρ' H' e rep'=>d g M' ρ' aJ σ' H' D rep' (PostS.frz e p)
  |bk aJ=>exact p
  |ct aJ=>exact p
  |rt r=>exact p
  |rm r aJ=>exact p
def pC (c:En->Res Bool)(a b:En->Res Fl):En->Res Fl:=fun env=>(c env).bind fun k=>if k then a env else b env
theorem br {c:Expr}{a b:List Stmt}{fc:En->Res Bool}{fa fb:En->Res Fl}{pos:Pos}(hc:rA X E c fc)(ha:iu X E a fa)(hb:iu X E b fb):ju X E (.If c a b pos) (pC fc fa fb):=by
 obtain⟨tc,p1,s1⟩:=hc;obtain⟨ta,p2,s2⟩:=ha;obtain⟨tb,p3,s3⟩:=hb;refine⟨_,Gn p1 p2 p3,fun g M ρ env σ H D rep p=>s1.oneS rep p fun b M' H' e rep' p'=>?_⟩;cases b with
 |true=>exact qQ (s2 g M' ρ env σ H' D rep' p')
 |false=>exact tm (s3 g M' ρ env σ H' D rep' p')
def cN (f:En->Res R):En->Res Fl:=fun env=>(f env).bind fun r=>.ok (.rt r)
theorem ROk.ret {g:Gd}{M:Addr->Prop}{ρ:Pr}{env:En}{σ:St}{H H0:Hp}{v:V}{r:R}(rep:Rep g M ρ env σ H)(h0:Same g.H₀ H0)(h:ROk g M ρ H0 H v r)(hz:∀ a,¬ g.Z a):RetOk g H v r:=by
 have mu:∀ a,M a->g.H₀ a=none->Mu H a:=fun a h1 h2=>(rep.fl a h1 h2).elim id fun z=>(hz a z.1).elim;have key:∀{fr:Bool}{a:Addr},msk g M fr a->nl g.H₀ H a\/(fr=false/\g.Ma a):=fun{fr a} z=>by
  cases fr with
  |true=>exact .inl ⟨z.2 rfl,mu a z.1 (z.2 rfl)⟩
  |false=>exact(rep.inn a z.1).imp (fun w=>⟨w,mu a z.1 w⟩) fun w=>⟨rfl,w⟩
 cases r with
 |val d fr al=>exact Is.weak (fun a z=>z.elim key fun⟨i,_,o⟩=>.inl (rep.priv i a o).2) h
 |new ds fr=>obtain⟨a,vs,rfl,h1,h2,h3,h4,h5⟩:=h;exact⟨a,vs,rfl,h1,h0.free h3,IsAll.weak (fun b z=>⟨fun e=>h2 (e▸z.1),key z⟩) h5⟩
 |fre d=>obtain⟨T,ht,is⟩:=h;exact Is.weak (fun a z=>let ⟨_,a2,a3,_⟩:=ht a z;⟨h0.free a2,a3⟩) is
theorem ROk.flatIs {g:Gd}{M:Addr->Prop}{ρ:Pr}{H H0:Hp}{v:V}{r:R}(h:ROk g M ρ H0 H v r)(hf:r.d.flat=true):Is H (fun _=>False) r.d v:=by
 cases r with
 |val d fr al=>exact Is.flat hf h
 |new ds fr=>simp[D.flat,R.d]at hf
 |fre d=>obtain⟨T,_,is⟩:=h;exact Is.flat hf is
theorem aR {e:Expr}{f:En->Res R}{pos:Pos}(h:PD X E e f):ju X E (.Return (some e) pos) (cN f):=by obtain⟨t,p1,s1⟩:=h;exact⟨_,xg p1,fun g M ρ env σ H D rep p=>s1.oneS rep p fun r v M' H' e rep' ro p'=>p' v M' H' (Frz.refl _ _) rep'.same (fun hz=>ro.ret rep' rep.same hz) fun hf=>ro.flatIs hf⟩
def aP (i:Nat)(f:En->Res R):En->Res Fl:=fun env=>(f env).bind fun r=>if i<env.length then .ok (.nx (put env i r)) else .stuck
theorem uP {mg:Str->Option Ni}{i:Nat}{t:TE}{f:En->Res R}(s:Snd mg E t f):yd mg E (xi t (gs i)) (aP i f):=by
 intro g M ρ env σ H D rep p;refine s.oneS rep p fun r v M' H' e rep' ro p'=>?_;by_cases hi:i<env.length
 .rw[JW hi]at p';obtain⟨M2,ρ2,e2,rep2⟩:=rep'.store rep.same hi ro;exact p' _ M2 ρ2 H' e2 rep2
 .rw[J0 hi]at p';exact p'.elim
theorem ax {i:Nat}{x:Str}{e:Expr}{f:En->Res R}{pos pos':Pos}(hN:X.N.Nodup)(hi:X.N[i]?=some x)(hx:An X.env.scope x)(h:PD X E e f)(hs:autoParam (swapsWith e (some (.Name x pos')) pos.line X.env=pure false) Nq._auto_1)
 (hf:autoParam (X.fn x=true\/X.env.scope.names.lookup x=some .local) Nl._auto_1):ju X E (.Assign [.Name x pos'] e pos) (aP i f):=by
 obtain⟨t,p1,s1⟩:=h;exact⟨_,fK hN hi hx p1 hs hf,uP s1⟩
def gk (env:En)(i:Nat):Option (List D×Bool):=match env[i]? with
 |some (some (.own ds fr))=>some (ds,fr)
 |some (some (.tre (.lst ds)))=>some (ds,true)
 |_=>none
mutual
noncomputable def D.sz:D->Nat
 | .tup ds=>D.szs ds+1
 | .lst ds=>D.szs ds+1
 | .dic _ ds=>D.szs ds+1
 |_=>0
noncomputable def D.szs:List D->Nat
 | []=>0
 |d::ds=>d.sz+D.szs ds+1
end
section
variable {H:Hp}{m m':Addr->Prop}
mutual
theorem Is.avoid {a:Addr}{e:D}(ha:Is H m' e (.ref a)):∀{d:D}{v:V},d.sz<e.sz->Is H m d v->Is H (fun b=>m b/\b≠a) d v
 | .non,_,_,h=>h
 | .bl _,_,_,h=>h
 | .int _,_,_,h=>h
 | .str _,_,_,h=>h
 | .tup ds,_,hs,h=>by obtain⟨b,vs,rfl,h1,h2⟩:=h;simp only[D.sz]at hs;exact⟨b,vs,rfl,h1,IsAll.avoid ha (by omega) h2⟩
 | .lst ds,_,hs,h=>by
  have h':=h;obtain⟨b,vs,rfl,h1,h2⟩:=h;have nb:b≠a:=fun z=>by subst z;have q:=Is.inj h' ha;rw[q]at hs;omega
  simp only[D.sz]at hs;refine⟨b,vs,rfl,?_,IsAll.avoid ha (by omega) h2⟩;rcases h1 with⟨h1,h3⟩|⟨o,h1,h3⟩
  .exact .inl ⟨h1,h3,nb⟩
  .exact .inr ⟨o,h1,h3,nb⟩
 | .dic ks ds,_,hs,h=>by
  have h':=h;obtain⟨b,kvs,rfl,h1,h2⟩:=h;have nb:b≠a:=fun z=>by subst z;have q:=Is.inj h' ha;rw[q]at hs;omega
  simp only[D.sz]at hs;exact⟨b,kvs,rfl,⟨h1.1,h1.2,nb⟩,IsAll.avoid ha (by omega) h2⟩
theorem IsAll.avoid {a:Addr}{e:D}(ha:Is H m' e (.ref a)):∀{ds:List D}{vs:List V},D.szs ds<e.sz->IsAll H m ds vs->IsAll H (fun b=>m b/\b≠a) ds vs
 | [],_,_,h=>h
 |d::ds,_,hs,h=>by obtain⟨v,r,rfl,h1,h2⟩:=h;simp only[D.szs]at hs;exact⟨v,r,rfl,Is.avoid ha (by omega) h1,IsAll.avoid ha (by omega) h2⟩
end
end
theorem Rep.toOwn {g:Gd}{M:Addr->Prop}{ρ:Pr}{env:En}{σ:St}{H:Hp}{i:Nat}{ds:List D}{fr:Bool}(rep:Rep g M ρ env σ H)(e:gk env i=some (ds,fr)) :
 ∃(M':Addr->Prop)(ρ':Pr)(a:Addr)(vs:List V),(∀ b,M b->M' b)/\Rep g M' ρ' (env.set i (some (.own ds fr))) σ H/\σ[i]?=some (some (.ref a))/\H a=some (.lst vs)/\(∀ b,ρ' i b↔b=a)/\IsAll H (msk g M' fr) ds vs/\i<env.length/\(∀ j b,ρ' j b->ρ j b)/\(∀ j,j≠i->ρ' j=ρ j):=by
 unfold gk at e;cases q:env[i]? with
 |none=>rw[q]at e;cases e
 |some o=>
  have hi:i<env.length:=(JY.mp q).1;have hself:env.set i (env[i])=env:=ME hi;cases o with
  |none=>rw[q]at e;cases e
  |some sl=>
   obtain⟨v,ev,k⟩:=rep.slot i sl q;rw[q]at e;cases sl with
   |val d f=>cases e
   |mes d=>cases e
   |pin d=>cases e
   |dis d=>cases e
   |fix n q0=>cases e
   |kon a=>cases e
   |own ds' f'=>
    cases e;obtain⟨a,vs,rfl,h1,h2,h4⟩:=k;have eq:env.set i (some (.own ds fr))=env:=by
     have:env[i]=some (.own ds fr):=by have:=(JY.mp q).2;exact this
     rw[<- this];exact hself
    rw[eq];exact⟨M,ρ,a,vs,fun _ z=>z,rep,ev,h1,h2,h4,hi,fun _ _ z=>z,fun _ _=>rfl⟩
   |tre d=>
    cases d with
    |lst ds'=>
     cases e;have k':=k;obtain⟨a,vs,rfl,h1,h2⟩:=k;have pa:ρ i a:=by rcases h1 with⟨_,z⟩|⟨_,_,z⟩<;>exact z
     obtain⟨pm,p0,uo,pl,pmu⟩:=rep.priv i a pa;have hl:H a=some (.lst vs):=by
      rcases h1 with⟨h1,_⟩|⟨o,h1,_⟩
      .exact h1
      .rw[h1]at pl;cases pl;exact pmu.elim
     have inner:IsAll H (fun b=>ρ i b/\b≠a) ds vs:=IsAll.avoid k' (by simp only[D.sz];omega) h2
     let M':Addr->Prop:=fun b=>M b\/(ρ i b/\b≠a)
     let ρ':Pr:=lR ρ i fun b=>b=a
     have rr:Rep g M' ρ' (env.set i (some (.own ds true))) (σ.set i (some (.ref a))) H:=by
      have r1:Rep g M' (fun j b=>if j=i then b=a else ρ j b) (env.set i (some (.own ds true))) σ H:=by
       refine⟨rep.same,fun b hb=>hb.elim (rep.froz b) fun z=>?_,fun b hb=>hb.elim (rep.inn b) fun z=>.inl (rep.priv i b z.1).2.1,fun b hb h0=>hb.elim (fun z=>rep.fl b z h0) fun z=>.inl (rep.priv i b z.1).2.2,fun j s ej=>?_,fun j b h=>?_,fun j k b w1 w2=>?_,fun j b h=>?_,by rw[KE];exact rep.len,rep.zz⟩
       .exact(rep.priv i b z.1).2.2.some
       .by_cases hj:j=i
        .subst hj;rw[JZ hi]at ej;cases ej;exact⟨_,ev,a,vs,rfl,hl,fun b=>by simp,IsAll.weak (fun b z=>⟨.inr z,fun _=>(rep.priv j b z.1).2.1⟩) inner⟩
        .rw[JX (Ko hj)]at ej;obtain⟨v',ev',k2⟩:=rep.slot j s ej;have eT:(fun b=>if j=i then b=a else ρ j b)=ρ j:=by funext b;rw[J0 hj]
         exact⟨v',ev',by show SlOk g M' (fun b=>if j=i then b=a else ρ j b) H v' s;rw[eT];exact SlOk.weak (fun _=>.inl) k2⟩
       .by_cases hj:j=i
        .rw[JW hj]at h;subst h;exact⟨fun z=>z.elim pm fun z=>z.2 rfl,p0,Mu.lst hl⟩
        .rw[J0 hj]at h;exact⟨fun z=>z.elim (rep.priv j b h).1 fun z=>hj (rep.apart j i b h z.1),(rep.priv j b h).2⟩
       .by_cases hj:j=i
        .by_cases hk:k=i
         .rw[hj,hk]
         .rw[JW hj]at w1;rw[J0 hk]at w2;subst w1;exact absurd (rep.apart k i b w2 pa) hk
        .by_cases hk:k=i
         .rw[JW hk]at w2;rw[J0 hj]at w1;subst w2;exact absurd (rep.apart j i b w1 pa) hj
         .rw[J0 hj]at w1;rw[J0 hk]at w2;exact rep.apart j k b w1 w2
       .unfold isOwn;by_cases hj:j=i
        .subst hj;rw[JZ hi];rfl
        .rw[J0 hj]at h;rw[JX (Ko hj)];exact rep.ow j b h
      have hi2:i<σ.length:=by rw[<- rep.len];exact hi
      have es:σ.set i (some (.ref a))=σ:=by have:σ[i]=some (.ref a):=(JY.mp ev).2;rw[<- this];exact ME hi2
      rw[es];exact r1
     have hi2:i<σ.length:=by rw[<- rep.len];exact hi
     have es:σ.set i (some (.ref a))=σ:=by have:σ[i]=some (.ref a):=(JY.mp ev).2;rw[<- this];exact ME hi2
     rw[es]at rr;refine⟨M',ρ',a,vs,fun _=>.inl,rr,ev,hl,fun b=>by show lR ρ i (fun b=>b=a) i b↔b=a;rw[bb],IsAll.weak (fun b z=>⟨.inr z,fun _=>(rep.priv i b z.1).2.1⟩) inner,hi,fun j b z=>?_,fun j hj=>aK hj⟩;by_cases hj:j=i
     .subst hj;have z:lR ρ j (fun b=>b=a) j b:=z;rw[bb]at z;rw[z];exact pa
     .have z:lR ρ i (fun b=>b=a) j b:=z;rw[aK hj]at z;exact z
    |_=>cases e
def mT (i:Nat)(f:En->Res R):En->Res Fl:=fun env=>match gk env i with
 |some (ds,fr)=>(f env).bind fun r=>if ds.length<lim/\¬ i∈r.al then .ok (.nx ((frz env r.al).set i (some (.own (ds++[r.d]) (fr&&r.fr))))) else .stuck
 |none=>.stuck
theorem b8 {i:Nat}{a e:Expr}{f:En->Res R}{apos cpos pos:Pos}(ha:PE X a (di i))(h:PD X E e f)
 (hbase:autoParam (attributeBase a "append" X.env (eval a X.env)=eval a X.env) Nq._auto_1)
 (hfew:autoParam (((backTo cpos (starEach [e] X.env)).all (fun x=>!x.1)&&(backToKw cpos (keywordEach [] X.env)).all (fun x=>x.1.isSome)
   && decide (([e]:List Expr).length+([]:List Keyword).length+(if ([]:List Keyword).isEmpty then 0 else 1)<30))=true) Nq._auto_1)
 (hline:autoParam ((apos.endLine==cpos.line)=true) Nq._auto_1) (hs:autoParam (starEach [e] X.env=(false,eval e X.env)::starEach [] X.env) Nq._auto_1) (hplain:autoParam ((backTo cpos (starEach [] X.env)).any (·.1)=false) Nq._auto_1)
 (hsw:autoParam (swapsWith (.Call (.Attribute a "append" apos) [e] [] cpos) none pos.line X.env=pure false) Nq._auto_1) :
 ju X E (.Expr (.Call (.Attribute a "append" apos) [e] [] cpos) pos) (mT i f):=by
 obtain⟨t,p1,s1⟩:=h;refine⟨_,kJ (iI LL Mk Ml gX ha (aI p1 bK hs) hbase hfew hline hs hplain) hsw,fun g M ρ env σ H D rep p=>?_⟩;unfold mT at p;cases e1:gk env i with
 |none=>rw[e1]at p;exact p.elim
 |some o=>
  obtain⟨ds,fr⟩:=o;rw[e1]at p;dsimp only at p;obtain⟨M0,ρ0,l,vs,m0,rep0,ev,k1,k2,k4,hi,_⟩:=rep.toOwn e1;refine⟨_,ev,.inl ⟨rfl,vs,SqL.of k1⟩,s1.oneS rep p fun r y M' H' e rep' ro p'=>?_⟩;by_cases hc:ds.length<lim/\¬ i∈r.al
  .rw[JW hc]at p';obtain⟨M1,x1,x1m,rep1,is1⟩:=ro.is rep' e rep.same;obtain⟨M2,ρ2,x2,rep2,o2,k5,k6⟩:=Rep.frz r.al rep1;have is2:Is H' (msk g M2 r.fr) r.d y:=Is.frozen rep1 x2 o2 is1;have e2:gk (frz env r.al) i=some (ds,fr):=by unfold gk;rw[pB _ hc.2];exact e1
   obtain⟨M3,ρ3,l3,vs3,m3,rep3,ev3,j1,j2,j4,hi3,_⟩:=rep2.toOwn e2;rw[ev]at ev3;cases ev3;have hl:H' l=some (.lst vs):=e.h _ _ k1;rw[hl]at j1;cases j1;have pl:ρ3 i l:=(j2 l).mpr rfl;obtain⟨nl3,_⟩:=rep3.priv i l pl;have is4:IsAll H' (msk g M3 (fr&&r.fr)) (ds++[r.d]) (vs++[y]):=by refine IsAll.snoc (IsAll.weak (fun b z=>⟨z.1,fun q=>z.2 (by cases fr<;>simp_all)⟩) j4) (Is.weak (fun b z=>⟨m3 b z.1,fun q=>z.2 (by cases fr<;>simp_all)⟩) is2)
   have kp:∀ b u,H' b=some u->(msk g M3 (fr&&r.fr) b\/fixd u)->ay H' l (.lst (vs++[y])) b=some u:=fun b u q z=>by
    rw[af]
    .exact q
    .rintro rfl;rcases z with z|z
     .exact nl3 z.1
     .rw[hl]at q;cases q;exact z
   obtain⟨f1,rep4⟩:=rep3.write (sl:=.own (ds++[r.d]) (fr&&r.fr)) (vs':=vs++[y]) pl (by rw[KE];exact hi3) ev ⟨l,vs++[y],rfl,ai,j2,IsAll.mono kp (fun _ _ _ z=>z) is4⟩;rw[List.set_set]at rep4;refine⟨l,vs,y,rfl,rfl,hl,by rw[k4.length];exact gx hc.1,?_⟩;exact p' σ M3 ρ3 _ (Frz.trans ⟨fun a z=>m3 a (x2 a (x1m a z)),fun _ _ q _=>q⟩ f1) rep4
  .rw[J0 hc]at p';exact p'.elim
end
def Eg (ix:List Nat)(t:TG)(asg:D->Bool->En->Option En):Prop:=∀(g:Gd)(M:Addr->Prop)(ρ:Pr)(env aJ:En)(σ:St)(H:Hp)(d:D)(fr:Bool)(v:V)(Q:St->Hp->Prop),
 Rep g M ρ env σ H->Is H (msk g M fr) d v->asg d fr env=some aJ->(∀(σ':St)(ρ':Pr),Rep g M ρ' aJ σ' H->(∀ j,¬ j∈ix->σ'[j]?=σ[j]?)->(∀ j a,ρ' j a->ρ j a)->Q σ' H)->t v σ H Q
def GU (ix:List Nat)(t:Cw)(asg:List D->Bool->En->Option En):Prop:=∀(g:Gd)(M:Addr->Prop)(ρ:Pr)(env aJ:En)(σ:St)(H:Hp)(ds:List D)(fr:Bool)(vs:List V)(Q:St->Hp->Prop),
 Rep g M ρ env σ H->IsAll H (msk g M fr) ds vs->asg ds fr env=some aJ->(∀(σ':St)(ρ':Pr),Rep g M ρ' aJ σ' H->(∀ j,¬ j∈ix->σ'[j]?=σ[j]?)->(∀ j a,ρ' j a->ρ j a)->Q σ' H)->t vs σ H Q
def ye (X:Cx)(ix:List Nat)(tg:Expr)(asg:D->Bool->En->Option En):Prop:=∃ t,PG X tg t/\Eg ix t asg
def A5 (X:Cx)(ix:List Nat)(ts:List Expr)(asg:List D->Bool->En->Option En):Prop:=∃ t,Dt X ts t/\GU ix t asg
section
variable {X:Cx}{E:XK}
def gN (i:Nat):D->Bool->En->Option En:=fun d fr env=>if i<env.length then some (env.set i (some (.val d fr))) else none
theorem wl {i:Nat}:Eg [i] (gs i) (gN i):=by
 intro g M ρ env aJ σ H d fr v Q rep is e k;unfold gN at e;by_cases hi:i<env.length
 .rw[JW hi]at e;cases e;exact k _ _ (rep.put (sl:=.val d fr) (T:=fun _=>False) hi is (fun _ z=>z.elim) fun _ z=>z.elim) (fun j hj=>JX fun e=>hj (by simp[e])) fun j a z=>by
   by_cases hj:j=i
   .subst hj;rw[bb]at z;exact z.elim
   .rw[aK hj]at z;exact z
 .rw[J0 hi]at e;cases e
theorem ar {i:Nat}{x:Str}{pos:Pos}(hN:X.N.Nodup)(hi:X.N[i]?=some x)(hx:An X.env.scope x)(hf:autoParam (X.fn x=true\/X.env.scope.names.lookup x=some .local) Nl._auto_1):ye X [i] (.Name x pos) (gN i):=⟨_,iG hN hi hx hf,wl⟩
noncomputable def yf:List D->Bool->En->Option En:=fun ds _ env=>match ds with
 | []=>some env
 |_=>none
def jF (f:D->Bool->En->Option En)(fs:List D->Bool->En->Option En):List D->Bool->En->Option En:=fun ds fr env=>match ds with
 |d::r=>(f d fr env).bind fun aJ=>fs r fr aJ
 | []=>none
theorem rF:A5 X [] [] yf:=⟨_,ut,fun g M ρ env aJ σ H ds fr vs Q rep is e k=>by
 cases ds with
 |nil=>cases e;cases is;exact⟨rfl,k σ ρ rep (fun _ _=>rfl) fun _ _ z=>z⟩
 |cons d ds=>cases e⟩
theorem gZ {e:Expr}{es:List Expr}{f:D->Bool->En->Option En}{fs:List D->Bool->En->Option En}{ix jx:List Nat}(h1:ye X ix e f)(h2:A5 X jx es fs)
 (hs:∀ t,PG X e t->∀ u,Dt X es u->Dt X (e::es) (qK t u)):A5 X (ix++jx) (e::es) (jF f fs):=by
 obtain⟨t,p1,s1⟩:=h1;obtain⟨u,p2,s2⟩:=h2;refine⟨_,hs t p1 u p2,fun g M ρ env aJ σ H ds fr vs Q rep is e k=>?_⟩;cases ds with
 |nil=>cases e
 |cons d ds=>
  obtain⟨v,r,rfl,i1,i2⟩:=is;unfold jF at e;dsimp only at e;cases q:f d fr env with
  |none=>rw[q]at e;cases e
  |some cu=>rw[q]at e;refine⟨v,r,rfl,s1 g M ρ env cu σ H d fr v _ rep i1 q fun σ1 ρ1 rep1 c1 d1=>?_⟩;exact s2 g M ρ1 cu aJ σ1 H ds fr r Q rep1 i2 e fun σ2 ρ2 rep2 c2 d2=>k σ2 ρ2 rep2 (fun j hj=>(c2 j fun z=>hj (by simp[z])).trans (c1 j fun z=>hj (by simp[z]))) fun j a z=>d1 j a (d2 j a z)
def gT (n:Nat)(fs:List D->Bool->En->Option En):D->Bool->En->Option En:=fun d fr env=>match d with
 | .tup ds=>if ds.length=n then fs ds fr env else none
 |_=>none
theorem uQ {ix:List Nat}{es:List Expr}{k:Nat}{pos:Pos}{n:Nat}{fs:List D->Bool->En->Option En}(hc:X.calm=true)(h:A5 X ix es fs)(hn:autoParam ((assignEach es X.env).length=n) Nq._auto_1)(hst:autoParam ((assignEach es X.env).findIdx? (·.1)=none) Nq._auto_1):ye X ix (.Tuple es k pos) (gT n fs):=by
 obtain⟨t,p1,s1⟩:=h;refine⟨_,xh hc p1 hn hst,fun g M ρ env aJ σ H d fr v Q rep is e kk=>?_⟩;unfold gT at e;cases d with
 |tup ds=>
  obtain⟨a,vs,rfl,h1,h2⟩:=is;dsimp only at e;by_cases hl:ds.length=n
  .rw[JW hl]at e;exact⟨a,vs,rfl,SqT.of h1,h2.length.trans hl,s1 g M ρ env aJ σ H ds fr vs Q rep h2 e kk⟩
  .rw[J0 hl]at e;cases e
 |_=>cases e
end
structure Src where
 xs:List D
 fr:Bool
 al:List Nat
structure Walk (J:It) (m:Addr->Prop) (H:Hp) (xs:List D):Prop where
 go:∀ H' i d,(∀ a o,H a=some o->(m a\/fixd o)->H' a=some o)->xs[i]?=some d->J.go i H'/\∀ x H'',J.yld i H' x H''->Same H' H''/\Is H'' m d x
 stop:∀ H',(∀ a o,H a=some o->(m a\/fixd o)->H' a=some o)->J.stop xs.length H'
theorem Walk.weak {J:It}{m m':Addr->Prop}{H:Hp}{xs:List D}(w:Walk J m H xs)(h:∀ a,m a->m' a):Walk J m' H xs:=⟨fun H' i d k e=>let ⟨a,b⟩:=w.go H' i d (fun a o q z=>k a o q (z.imp (h a) id)) e;⟨a,fun x H'' y=>let ⟨c,d⟩:=b x H'' y;⟨c,d.weak h⟩⟩,fun H' k=>w.stop H' fun a o q z=>k a o q (z.imp (h a) id)⟩
def PostI (mg:Str->Option Ni)(E:XK)(g:Gd)(M:Addr->Prop)(ρ:Pr)(env:En)(σ:St)(H:Hp)(R:It->Hp->Prop):Res Src->Prop
 | .stuck=>False
 | .exc c=>Ao mg E g c
 | .ok s=>∀ J M' H',Ext M H M' H'->Rep g M' ρ env σ H'->Walk J (vmsk g M' s.fr ρ s.al) H' s.xs->R J H'
def GV (mg:Str->Option Ni)(E:XK)(wi:TI)(f:En->Res Src):Prop:=∀ g M ρ env σ H R,Rep g M ρ env σ H->PostI mg E g M ρ env σ H R (f env)->wi σ H R
def Eh (X:Cx)(E:XK)(tg iter:Expr)(f:En->Res Src):Prop:=∃ wi,PI X tg iter wi/\GV X.mg E wi f
section
variable {X:Cx}{E:XK}{tg:Expr}
def I_ (K:Ng)(tl:TE):TI:=fun σ H R=>tl σ H fun x H1=>∃ a,x=.ref a/\(((∃ xs,SqL K H1 a xs)/\R (F0 K a) H1)\/((∃ xs,SqT K H1 a xs)/\R (II K a) H1))
theorem yg {l:Expr}{tl:TE}(hl:PE X l tl):PI X tg l (I_ X.K tl):=by
 intro pins s σ H R I h;refine bz (hl pins s σ H _ I h) fun v s1 ⟨x,H1,I1,r1,q1⟩=>?_;obtain⟨a,e,q⟩:=q1;subst e;cases r1;rcases q with⟨⟨xs,hq⟩,q⟩|⟨⟨xs,hq⟩,q⟩
 .obtain⟨its,rv,p,hz⟩:=I1.list hq;refine Mv p.isList ?_;refine⟨s1.heap.objs.size,[s1.heap.objs.size],_,_,H1,rfl,I1.kept (t':=s1.toks) fun b o e=>JV _ e,vU a _,⟨_,Kb _ rfl,rfl,rfl⟩,fun b hb=>?_,q⟩;have e:b=s1.heap.objs.size:=by simpa using hb
  subst e;exact I1.fpOk (J1 _) (I1.hok.fresh (J1 _))
 .obtain⟨its,rv,p,hz⟩:=I1.tuple hq;refine wpAny_pyIter_tuple (show s1.heap.IsTuple a its.toArray from p) ?_;refine⟨s1.heap.objs.size,[s1.heap.objs.size],_,_,H1,rfl,I1.kept (t':=s1.toks) fun b o e=>JV _ e,sR a _,⟨_,Kb _ rfl,rfl,rfl⟩,fun b hb=>?_,q⟩;have e:b=s1.heap.objs.size:=by simpa using hb
  subst e;exact I1.fpOk (J1 _) (I1.hok.fresh (J1 _))
theorem wm {K:Ng}{a:Addr}{m:Addr->Prop}{H:Hp}{ds:List D}{vs:List V}(h:(H a=some (.lst vs)/\m a)\/∃ o,H a=some (.frz o (.lst vs))/\m a)(is:IsAll H m ds vs):Walk (F0 K a) m H ds:=by
 have st:∀ H',(∀ a o,H a=some o->(m a\/fixd o)->H' a=some o)->SqL K H' a vs:=fun H' k=>by
  rcases h with⟨h,hm⟩|⟨o,h,_⟩
  .exact .inl (.inl (k a _ h (.inl hm)))
  .exact .inl (.inr ⟨o,k a _ h (.inr True.intro)⟩)
 refine⟨fun H' i d k e=>?_,fun H' k=>⟨vs,st H' k,by rw[is.length];exact J1 _⟩⟩;obtain⟨v,ev,iv⟩:=(is.mono k fun _ _ _ z=>z:IsAll H' m ds vs).get e;refine⟨⟨vs,v,st H' k,ev⟩,fun x H'' y=>?_⟩;obtain⟨rfl,y⟩:=y;have:=y vs (st _ k);rw[ev]at this;cases this;exact⟨Same.refl _,iv⟩
theorem yh {K:Ng}{a:Addr}{m:Addr->Prop}{H:Hp}{ds:List D}{vs:List V}(h:H a=some (.tup vs))(is:IsAll H m ds vs):Walk (II K a) m H ds:=by have st:∀ H',(∀ a o,H a=some o->(m a\/fixd o)->H' a=some o)->SqT K H' a vs:=fun H' k=>SqT.of (k a _ h (.inr True.intro));refine⟨fun H' i d k e=>?_,fun H' k=>⟨vs,st H' k,by rw[is.length];exact J1 _⟩⟩;obtain⟨v,ev,iv⟩:=(is.mono k fun _ _ _ z=>z:IsAll H' m ds vs).get e;refine⟨⟨vs,v,st H' k,ev⟩,fun x H'' y=>?_⟩;obtain⟨rfl,y⟩:=y;have:=y vs (st _ k);rw[ev]at this;cases this;exact⟨Same.refl _,iv⟩
noncomputable def dN (lo:Int)(n:Nat):List D:=(List.range n).map fun k=>.int (lo+(k:Nat))
theorem t4 {m:Addr->Prop}{H:Hp}(lo:Int)(n:Nat):Walk (Ik lo n) m H (dN lo n):=by
 refine⟨fun H' i d k e=>?_,fun H' k=>by show n<=(dN lo n).length;simp[dN]⟩;have hi:i<n:=by have:=(JY.mp e).1;simpa[dN] using this
 refine⟨hi,fun x H'' y=>?_⟩;obtain⟨rfl,rfl⟩:=y;refine⟨Same.refl _,?_⟩;have:(dN lo n)[i]?=some (.int (lo+(i:Nat))):=by simp[dN,hi]
 rw[this]at e;cases e;rfl
def fq (f:En->Res R):En->Res Src:=fun env=>(f env).bind fun r=>match r.d with
 | .lst ds=>.ok ⟨ds,r.fr,r.al⟩
 | .tup ds=>.ok ⟨ds,r.fr,r.al⟩
 |_=>.stuck
theorem aN {l:Expr}{f:En->Res R}(h:PD X E l f):Eh X E tg l (fq f):=by
 obtain⟨t,p1,s1⟩:=h;refine⟨_,yg p1,fun g M ρ env σ H R rep p=>?_⟩;refine s1.one rep (P:=fun M H r=>PostI X.mg E g M ρ env σ H R r) p (fun _ _ z=>z) (fun _ _ _ z=>z) (fun M H M' H' r e p=>?_) fun r v M1 H1 e1 rep1 is q=>?_
 .cases r with
  |stuck=>exact p
  |exc c=>exact p
  |ok s=>exact fun J M2 H2 e2=>p J M2 H2 (e.trans e2)
 .cases z:r.d with
  |lst ds=>rw[z]at is;simp only[z]at q;obtain⟨a,vs,rfl,h1,h2⟩:=is;exact⟨a,rfl,.inl ⟨⟨vs,.inl (h1.imp (·.1) fun⟨o,z,_⟩=>⟨o,z⟩)⟩,q _ M1 H1 (Ext.refl _ _) rep1 (wm h1 h2)⟩⟩
  |tup ds=>rw[z]at is;simp only[z]at q;obtain⟨a,vs,rfl,h1,h2⟩:=is;exact⟨a,rfl,.inr ⟨⟨vs,SqT.of h1⟩,q _ M1 H1 (Ext.refl _ _) rep1 (yh h1 h2)⟩⟩
  |_=>simp only[z]at q;exact q.elim
noncomputable def cR (i:Int):Bool:=decide (-(2 ^ 62)<=i)&&decide (i<2 ^ 62)
def w6 (fs:En->Res (List R)):En->Res Src:=fun env=>(fs env).bind fun rs=>match rs.map R.d with
 | [.int j]=>if cR j then .ok ⟨dN 0 j.toNat,true,[]⟩ else .stuck
 |_=>.stuck
theorem PostI.ext {mg:Str->Option Ni}{g:Gd}{M M':Addr->Prop}{ρ:Pr}{env:En}{σ:St}{H H':Hp}{R:It->Hp->Prop}{r:Res Src}(e:Ext M H M' H')(p:PostI mg E g M ρ env σ H R r):PostI mg E g M' ρ env σ H' R r:=by
 cases r with
 |stuck=>exact p
 |exc c=>exact p
 |ok s=>exact fun J M2 H2 e2=>p J M2 H2 (e.trans e2)
theorem dO {a:Expr} {fs:En->Res (List R)} {p pos:Pos} (hg:Gl X "range") (hm:X.mg "range"=none) (ha:Ap X E [a] fs) (hs:autoParam (starEach [a] X.env=[(false,eval a X.env)]) Nq._auto_1):Eh X E tg (.Call (.Name "range" p) [a] [] pos) (w6 fs):=by
 obtain⟨t,p1,s1⟩:=ha;refine⟨_,vV hg hm p1 hs,fun g M ρ env σ H Rq rep p=>s1.one rep (P:=fun M H r=>PostI X.mg E g M ρ env σ H Rq r) p (fun _ _ z=>z) (fun _ _ _ z=>z) (fun _ _ _ _ _ e p=>p.ext e) fun rs vs M1 H1 e1 rep1 is q=>?_⟩;generalize hd:rs.map R.d=ds at is q
 match ds,is,q with
 | [.int j],is,q=>
  obtain⟨v,w,rfl,i1,i2⟩:=is;cases i1;cases i2;dsimp only at q;by_cases hc:cR j=true
  .rw[JW hc]at q;simp only[cR,Kh,LG]at hc;exact⟨j,rfl,hc.1,hc.2,q _ M1 H1 (Ext.refl _ _) rep1 (t4 0 j.toNat)⟩
  .rw[J0 hc]at q;exact q.elim
 | [],_,q=>exact q.elim
 | [.non],_,q=>exact q.elim
 | [.bl _],_,q=>exact q.elim
 | [.str _],_,q=>exact q.elim
 | [.tup _],_,q=>exact q.elim
 | [.lst _],_,q=>exact q.elim
 | [.dic _ _],_,q=>exact q.elim
 | .int _::_::_,_,q=>exact q.elim
 | .non::_::_,_,q=>exact q.elim
 | .bl _::_::_,_,q=>exact q.elim
 | .str _::_::_,_,q=>exact q.elim
 | .tup _::_::_,_,q=>exact q.elim
 | .lst _::_::_,_,q=>exact q.elim
 | .dic _ _::_::_,_,q=>exact q.elim
def bx (asg:D->Bool->En->Option En)(fr:Bool)(body:En->Res Fl):List D->En->Res Fl
 | [],env=>.ok (.nx env)
 |x::xs,env=>match asg x fr env with
  |none=>.stuck
  |some cu=>(body cu).bind fun r=>match r with
   | .nx aJ=>bx asg fr body xs aJ
   | .ct aJ=>bx asg fr body xs aJ
   | .bk aJ=>.ok (.nx aJ)
   | .rt r=>.ok (.rt r)
   | .rm r e=>.ok (.rm r e)
def iT (src:En->Res Src)(asg:D->Bool->En->Option En)(body:En->Res Fl):En->Res Fl:=fun env=>(src env).bind fun s=>bx asg s.fr body s.xs (frz env s.al)
def GW (J:It)(u:TG)(tb:TS)(D:Ends)(σ:St)(H1:Hp):Prop:=∃ W:Nat->Nat->St->Hp->Prop,(∃ m,W 0 m σ H1)/\∀ i m σ H,W i m σ H->(J.stop i H/\D.nx σ H)\/(J.go i H/\∃ N:St->Hp->Prop,(∀ σ' H',N σ' H'->∃ m',m'<m/\W (i+1) m' σ' H')/\∀ x H',J.yld i H x H'->u x σ H' fun σ2 H2=>tb { D with nx:=N,ct:=N,bk:=D.nx } σ2 H2)
theorem lS {J:It}{u:TG}{tb:TS}{ix:List Nat}{asg:D->Bool->En->Option En}{fb:En->Res Fl}{fr:Bool}{xs:List D}{g:Gd}{M2:Addr->Prop}{ρ2:Pr}{env2:En}{σ:St}{H1:Hp}{D:Ends}(s2:Eg ix u asg)(s3:yd X.mg E tb fb)(rep2:Rep g M2 ρ2 env2 σ H1)(wk2:Walk J (msk g M2 fr) H1 xs)(p2':PostS X.mg E g M2 H1 D (bx asg fr fb xs env2)):GW J u tb D σ H1:=by
 refine⟨fun i m σ' H'=>m=xs.length-i/\i<=xs.length/\∃ M' ρ' aJ,Rep g M' ρ' aJ σ' H'/\Frz M2 H1 M' H'/\PostS X.mg E g M' H' D (bx asg fr fb (xs.drop i) aJ),⟨_,rfl,Kz _,M2,ρ2,_,rep2,Frz.refl _ _,p2'⟩,?_⟩;rintro i m σ' H' ⟨rfl,hle,M',ρ',aJ,rep',f',p'⟩;have kp:∀ a o,H1 a=some o->(msk g M2 fr a\/fixd o)->H' a=some o:=fun a o e z=>f'.h a o e (z.imp (·.1) id);by_cases hlt:i<xs.length
 .have ed:xs[i]?=some xs[i]:=by simp[hlt]
  obtain⟨go,yl⟩:=wk2.go H' i _ kp ed;have edrop:xs.drop i=xs[i]::xs.drop (i+1):=Lg hlt;rw[edrop]at p';unfold bx at p';refine .inr ⟨go,fun σ'' H''=>∃ M'' ρ'' env'',Rep g M'' ρ'' env'' σ'' H''/\Frz M2 H1 M'' H''/\PostS X.mg E g M'' H'' D (bx asg fr fb (xs.drop (i+1)) env''),fun σ'' H'' z=>⟨xs.length-(i+1),by omega,rfl,hlt,z⟩,fun x H'' y=>?_⟩;obtain⟨sm,is⟩:=yl x H'' y;have rep'':=rep'.grow sm;have fx:Frz M' H' M' H'':=⟨fun _ z=>z,fun a o e _=>sm a o e⟩;have is':Is H'' (msk g M' fr) xs[i] x:=is.weak fun a z=>msk.mono f'.m z;cases qa:asg xs[i] fr aJ with
  |none=>simp only[qa]at p';exact p'.elim
  |some cu=>
   simp only[qa]at p';refine s2 g M' ρ' aJ cu σ' H'' _ fr x _ rep'' is' qa fun σ1 ρ1 rep1' _ _=>?_;refine s3 g M' ρ1 cu σ1 H'' _ rep1' ?_;have p'':=PostS.frz fx p';cases qb:fb cu with
   |stuck=>rw[qb]at p'';exact p''
   |exc c=>rw[qb]at p'';exact p''
   |ok r=>
    rw[qb]at p'';cases r with
    |nx e3=>exact fun σ3 M3 ρ3 H3 f3 rep3=>⟨M3,ρ3,e3,rep3,(f'.trans fx).trans f3,PostS.frz f3 p''⟩
    |ct e3=>exact fun σ3 M3 ρ3 H3 f3 rep3=>⟨M3,ρ3,e3,rep3,(f'.trans fx).trans f3,PostS.frz f3 p''⟩
    |bk e3=>exact p''
    |rt r=>exact p''
    |rm r e3=>exact p''
 .have e:i=xs.length:=by omega
  subst e;rw[Nb]at p';exact .inl ⟨wk2.stop H' kp,p' σ' M' ρ' H' (Frz.refl _ _) rep'⟩
theorem aX {ix:List Nat}{iter:Expr}{body:List Stmt}{src:En->Res Src}{asg:D->Bool->En->Option En}{fb:En->Res Fl}{pos:Pos}(hp:PassesOwn (model X.prog X.w) X.A X.env X.xe)(hc:X.calm=true)
 (hi:Eh X E tg iter src) (hg:ye X ix tg asg) (hb:iu X E body fb) (hs:autoParam (∀ x,foldedSetIterable iter X.env x=pure x) Nn._auto_1):ju X E (.For tg iter body [] pos) (iT src asg fb):=by
 obtain⟨wi,p1,s1⟩:=hi;obtain⟨u,p2,s2⟩:=hg;obtain⟨tb,p3,s3⟩:=hb;refine⟨_,oM hp hc p1 p2 p3 hs,fun g M ρ env σ H D rep p=>?_⟩;refine s1 g M ρ env σ H _ rep ?_;unfold iT at p;cases q:src env with
 |stuck=>rw[q]at p;exact p
 |exc c=>rw[q]at p;exact p
 |ok s=>rw[q]at p;intro J M1 H1 e1 rep1 wk;obtain⟨M2,ρ2,x2,rep2,o2,_,_⟩:=Rep.frz s.al rep1;have wk2:Walk J (msk g M2 s.fr) H1 s.xs:=wk.weak fun a z=>z.elim (msk.mono x2) fun⟨i,hi,o⟩=>⟨o2 i hi a o,fun _=>(rep1.priv i a o).2.1⟩;have p2':PostS X.mg E g M2 H1 D (bx asg s.fr fb s.xs (frz env s.al)):=PostS.frz (e1.frz.trans ⟨x2,fun _ _ q _=>q⟩) p;exact lS s2 s3 rep2 wk2 p2'
end
theorem fT {env:Env}:∀(names:List (Str×NameKind))(cs:List (Str×Addr)),(∀ x∈names,x.2=.free->∃ c,env.cells.lookup x.1=some c)->(∀ y c,cs.lookup y=some c->env.cells.lookup y=some c)->
 ∃ cl,(forIn names cs fun(x:Str×NameKind)(r:List (Str×Addr))=>(do
  if (x.2==.free)=true then
   let c <- cellOf env x.1
   pure (ForInStep.yield ((x.1,c)::r))
  else pure (ForInStep.yield r):Sem (ForInStep (List (Str×Addr)))))=pure cl/\(∀ y c,cl.lookup y=some c->env.cells.lookup y=some c)/\(∀ x∈names,x.2=.free->∃ c,cl.lookup x.1=some c)/\(∀ y c,cs.lookup y=some c->∃ c',cl.lookup y=some c')
 | [],cs,_,h=>⟨cs,by simp,h,fun _ z=>absurd z (by simp),fun y c e=>⟨c,e⟩⟩
 |(n,k)::r,cs,hf,h=>by
  by_cases hk:k=.free
  .subst hk;obtain⟨c,hc⟩:=hf (n,.free) (by simp) rfl;have hco:cellOf env n=pure c:=by simp[cellOf,hc]
   have h':∀ y c',((n,c)::cs).lookup y=some c'->env.cells.lookup y=some c':=fun y c' e=>by
    rw[LN]at e;cases hy:y==n with
    |true=>rw[hy]at e;cases e;rw[eq_of_beq hy];exact hc
    |false=>rw[hy]at e;exact h y c' e
   obtain⟨cl,e1,e2,e3,e4⟩:=fT r ((n,c)::cs) (fun x hx=>hf x (by simp[hx])) h';have self:∃ c',cl.lookup n=some c':=e4 n c (by simp[LN]);refine⟨cl,?_,e2,fun x hx hxf=>?_,fun y c' e=>?_⟩
   .rw[List.forIn_cons];simp only[beq_self_eq_true,Me,hco,pure_bind];exact e1
   .rcases J5.mp hx with rfl|hx
    .exact self
    .exact e3 x hx hxf
   .by_cases hy:y=n
    .rw[hy];exact self
    .refine e4 y c' ?_;have hb:(y==n)=false:=by simpa using hy
     rw[LN,hb];exact e
  .obtain⟨cl,e1,e2,e3,e4⟩:=fT r cs (fun x hx=>hf x (by simp[hx])) h;refine⟨cl,?_,e2,fun x hx hxf=>?_,e4⟩
   .rw[List.forIn_cons];have hkb:(k==NameKind.free)=false:=by simpa using hk
    simp only[hkb,J_,KR,pure_bind];exact e1
   .rcases J5.mp hx with rfl|hx
    .exact absurd hxf hk
    .exact e3 x hx hxf
theorem mU {scope:Scope}{env:Env}(h:∀ x∈scope.names,x.2=.free->∃ c,env.cells.lookup x.1=some c) :
 ∃ cl,closureFor scope env=pure cl/\(∀ y c,cl.lookup y=some c->env.cells.lookup y=some c)/\(∀ x∈scope.names,x.2=.free->∃ c,cl.lookup x.1=some c):=by
 obtain⟨cl,e1,e2,e3,_⟩:=fT scope.names [] h (fun _ _ e=>by simp at e);refine⟨cl,?_,e2,e3⟩;unfold closureFor;refine Eq.trans ?_ (show((pure cl:Sem (List (Str×Addr))) >>= fun cs=>pure cs)=pure cl by simp);rw[<- e1]
 all_goals first
  |rfl
  |(congr 1;congr 1;funext x r;obtain⟨n,k⟩:=x;first|rfl|(dsimp only;split<;>simp_all))
theorem kf {f:Str->NameKind->NameKind}:∀(names:List (Str×NameKind))(y:Str),(names.map fun x=>(x.1,f x.1 x.2)).lookup y=(names.lookup y).map (f y)
 | [],y=>rfl
 |(n,k)::r,y=>by
  rw[J4,LN,LN];cases h:y==n with
  |true=>rw[eq_of_beq h];rfl
  |false=>exact kf r y
theorem gy (scope:Scope)(env:Env)(y:Str):(relabel scope env).names.lookup y=(scope.names.lookup y).map fun k=>if (k==.free&&env.scope.kind==.function&&env.kindOf y==some .cell)=true then .cell else k:=by
 have e:(relabel scope env).names=scope.names.map fun x=>(x.1,(fun n k=>if (k==NameKind.free&&env.scope.kind==.function&&env.kindOf n==some .cell)=true then NameKind.cell else k) x.1 x.2):=by unfold relabel;refine K4 fun x _=>?_;obtain⟨n,k⟩:=x;dsimp only;split<;>rfl
 rw[e];exact kf (f:=fun n k=>if (k==NameKind.free&&env.scope.kind==.function&&env.kindOf n==some .cell)=true then NameKind.cell else k) scope.names y
theorem pD {scope:Scope}{env:Env}{y:Str}(h:scope.names.lookup y=some .free):(relabel scope env).names.lookup y=some .cell\/(relabel scope env).names.lookup y=some .free:=by
 rw[gy,h];simp only[Option.map_some];split
 .exact .inl rfl
 .exact .inr rfl
noncomputable def bt (X:Cx)(scope:Scope)(N:List Str)(cl:List (Str×Addr))(C:Addr)(s:Nf)(H:Hp)(ex:List Addr):Cx:={ X with N:=N,s₀:=s,H₀:=H,env:=compEnvC scope cl C X.env,outer:=X.stack,ex:=ex,fn:=fun _=>false,pn:=[],xe:=fun _ _=>False }
section
variable {X:Cx}{pins:List (Addr×Obj)}{σ:St}{H:Hp}{s:Nf}{scope:Scope}{N:List Str}{cl:List (Str×Addr)}{C:Addr}{ex:List Addr}
theorem A6 (I:L2.Inv X pins σ H s)(hkind:scope.kind=.function)(hcell:∀ y∈scope.names,y.2≠.cell)(hcl:∀ y c,cl.lookup y=some c->X.env.cells.lookup y=some c)(hhas:∀ x∈scope.names,x.2=.free->∃ c,cl.lookup x.1=some c)
 (hC:s.heap.objs.size<=C) (hex:∀ b∈ex,FpOk X pins H b/\b<s.heap.objs.size):(bt X scope N cl C s H ex).Ok where
 mod:=I.ok.mod
 kind:=hkind
 glob:=I.ok.glob
 blt:=I.ok.blt
 above:=hC
 inj:=fun x y c h1 h2=>I.ok.inj x y c (hcl x c h1) (hcl y c h2)
 has:=fun y hy=>by
  have key:∀ k,(relabel scope X.env).names.lookup y=some k->(k=.cell\/k=.free)->∃ c,cl.lookup y=some c:=fun k e hk=>by
   rw[gy]at e;cases q:scope.names.lookup y with
   |none=>rw[q]at e;cases e
   |some k0=>
    have hm:=Le q;have h0:=hcell _ hm;have hf:k0=.free:=by
     rw[q]at e;simp only[Option.map_some,MZ]at e;split at e
     .rename_i z;simp only[Kh,LP]at z;exact z.1.1
     .rcases hk with hk|hk
      .exact absurd (e.trans hk) h0
      .exact e.trans hk
    exact hhas _ hm hf
  rcases hy with hy|hy
  .exact key _ hy (.inl rfl)
  .exact key _ hy (.inr rfl)
 cab:=fun _ _ h=>by cases h
 hd:=I.ok.hd
 frames:=I.ok.frames
 stk:=.inl rfl
 exf:=fun b hb=>⟨Kj (Ks (hex b hb).2 hC),fun x c e=>(hex b hb).1.2.2.2.2.1 x c (hcl x c e)⟩
 bs:=fun b o e=>I.bs b o e
 bsz:=Ky I.ok.bsz I.sz
 noex:=fun b o e hb=>by
  rcases (hex b hb).1.2.2.2.1 with z|z
  .exact I.ok.noex b o e z
  .exact absurd (Ks (J6 e) (Ky I.ok.bsz z)) (Mm _)
 exfs:=fun b hb hfs=>by
  rcases J5.mp (I.stkSub b hfs) with z|z
  .exact(hex b hb).1.2.1 z
  .exact(hex b hb).1.2.2.1 z
 funs:=I.stack
 frf:=I.stkFree
 kt:=I.kt
structure Caps (X:Cx) (scope:Scope) (capN:List Str) (caps:List Nat):Prop where
 at':∀(k:Nat)(y:Str),capN[k]?=some y->∃ j:Nat,caps[k]?=some j/\X.N[j]?=some y
 out:∀ y∈capN,X.env.kindOf y=some .cell\/X.env.kindOf y=some .free
 inn:∀ y∈capN,scope.names.lookup y=some .free
 len:caps.length=capN.length
noncomputable def iU (σ:St)(caps:List Nat):St:=caps.map fun j=>(σ[j]?).join
theorem yi {tN:List Str}{capN:List Str}{caps:List Nat}{h4:Heap}{tk:Nat}{m4:Str->Option Ni}(I:L2.Inv X pins σ H s)(hkind:scope.kind=.function)(hcell:∀ y∈scope.names,y.2≠.cell)(hcl:∀ y c,cl.lookup y=some c->X.env.cells.lookup y=some c)(hhas:∀ x∈scope.names,x.2=.free->∃ c,cl.lookup x.1=some c)
 (hC:s.heap.objs.size<=C) (hex:∀ b∈ex,FpOk X pins H b/\b<s.heap.objs.size) (hc:Caps X scope capN caps) (kp:∀ b o,s.heap.get? b=some o->h4.get? b=some o) (ns:h4.Ns C m4) :
 L2.Inv (bt X scope (tN++capN) cl C s H ex) [] (List.replicate tN.length none++iU σ caps) H { s with heap:=h4,toks:=tk } where
 ok:=A6 I hkind hcell hcl hhas hC hex
 os:=rfl
 bare:=I.bare
 base:=Un.kept kp
 loc:=by
  refine⟨m4,ns,fun i y v e1 e2 e3=>?_⟩;by_cases hlt:i<tN.length
  .rw[Ka (by simpa using hlt),K7]at e2;rw[JW hlt]at e2;cases e2
  .obtain⟨k,rfl⟩ : ∃ k,i=tN.length+k:=⟨i-tN.length,by omega⟩;have e1:capN[k]?=some y:=by
    have e1:(tN++capN)[tN.length+k]?=some y:=e1
    rwa [Ke (by omega),Lo]at e1
   have e2:(iU σ caps)[k]?=some (some v):=by
    rwa [Ke (by simp),MC,Lo]at e2
   obtain⟨j,ej,eN⟩:=hc.at' k y e1;have e4:σ[j]?=some (some v):=by
    unfold iU at e2;rw[J9,ej]at e2;have e2:(σ[j]?).join=some v:=by simpa using e2
    cases q:σ[j]? with
    |none=>rw[q]at e2;cases e2
    |some o=>rw[q]at e2;cases o with
     |none=>cases e2
     |some w=>cases e2;rfl
   have hm:=KM e1;obtain⟨m,hn,hl⟩:=I.loc;have hout:=hc.out y hm;obtain⟨u,r,l⟩:=hl j y v eN e4 (.inr hout);refine⟨u,r,.inr ⟨pD (hc.inn y hm),?_⟩⟩;obtain⟨c,hcl2⟩:=hhas (y,.free) (Le (hc.inn y hm)) rfl;refine⟨c,hcl2,?_⟩;rcases l with⟨l,_⟩|⟨_,c',e5,z⟩
   .rcases hout with h|h<;>(rw[h]at l;cases l)
   .have:=hcl y c hcl2;rw[e5]at this;cases this;obtain⟨o,ho,hd⟩:=z;exact⟨o,kp _ o ho,hd⟩
 cell:=fun y c e=>by obtain⟨v,o,ho,hd⟩:=I.cell y c (hcl y c e);exact⟨v,o,kp _ o ho,hd⟩
 free:=I.hok.fresh hC
 freeC:=fun y c e=>I.freeC y c (hcl y c e)
 pin:=fun p hp=>absurd (show p∈([]:List (Addr×Obj)) from hp) (by simp)
 hok:=I.hok.kept kp
 len:=by simp[bt,iU,hc.len]
theorem wn {X':Cx}{pl:List (Addr×Obj)}{σ':St}{H':Hp}{s':Nf}(I:L2.Inv X pins σ H s)(hX:X'=bt X scope N cl C s H ex)(hC:s.heap.objs.size<=C)(hex:∀ b∈ex,FpOk X pins H b/\b<s.heap.objs.size)
 (I':L2.Inv X' pl σ' H' s'):L2.Inv X pins σ H' s'/\FpOk X pins H' C:=by
 subst hX;refine⟨I.call' (ch:=ex) I'.os I'.base I'.hok I'.bare fun b hb=>?_,I.fpOk hC I'.free⟩;obtain⟨_,h2,h3,h4,h5,h6⟩:=(hex b hb).1;exact⟨h4,h2,h5,h6⟩
theorem uR {H:Hp}{h':Heap}(I:L2.Inv X pins σ H s)(hf:FpOk X pins H C)(sb:Heap.SameBut C s.heap h'):L2.Inv X pins σ H { s with heap:=h' }:=I.turned (t':=s.toks) (it:=C) (fun b o hb e=>(sb.2 b hb).trans e) hf.1 hf.2.1 hf.2.2.2.1 hf.2.2.2.2.1 hf.2.2.2.2.2
end
section
variable {X:Cx}{pins:List (Addr×Obj)}{σ:St}{H3:Hp}{s3:Nf}{scope:Scope}{tg:Expr}{tN:List Str}{capN:List Str}{cl:List (Str×Addr)}{C:Addr}{fp:List Addr}{elt iter:Expr}{pos:Pos}{ifs:List Expr}
def GX (X:Cx)(ifs:List Expr)(tt:TT):Prop:=∀(pins:List (Addr×Obj))(s:Nf)(σ:St)(H:Hp)(Q:Bool->Hp->Prop),L2.Inv X pins σ H s->tt σ H Q->
 wpAny (model X.prog X.w) X.A (forIn ifs true fun c r=>if r=true then do let ok <- isTrue c X.env (eval c X.env);pure (ForInStep.yield ok) else pure (ForInStep.yield r)) (TP X pins σ Q) X.xe s
theorem uS:GX X [] (fun _ H Q=>Q true H):=fun _ _ σ H Q I q=>wpAny_tests_nil ⟨H,I,q⟩
theorem A7 {c:Expr}{tt:TT}(h:PT X c tt):GX X [c] tt:=fun pins s σ H Q I q=>wpAny_tests_one (h pins s σ H Q I q)
theorem wo {J:It}{it Dl:Addr}{tn:Nat->Heap->Prop}{X':Cx}(hX:X'=bt X scope (tN++capN) cl C s3 H3 fp)(T:Turn X.prog X.w X.K tg J fp it tn)(hcalm:X.calm=true)
 {σc:St} {s4:Nf} (I4:L2.Inv X' [] (List.replicate tN.length none++σc) H3 s4) (bO:X'.N.length=tN.length+σc.length) (st4:tn 0 s4.heap) (hf:∀ b∈fp,FpOk X' [] H3 b)
 {tt:TT} {te:TE} {gt:TG} (hg:PG X' tg gt) (ht:GX X' ifs tt) (he:PE X' elt te)
 (W:Nat->Nat->List V->Hp->Prop) (Fin:List V->Hp->Prop) (w0:∃ m,W 0 m [] H3)
 (turn:∀ i m acc H,W i m acc H->H Dl=some (.lst acc)/\((J.stop i H/\Fin acc H)\/(J.go i H/\∀ xv H' o,J.yld i H xv H'->o.length=tN.length->gt xv (o++σc) H' fun σ2 H1=>(∀ j:Nat,tN.length<=j->σ2[j]?=(o++σc)[j]?)/\tt σ2 H1 fun b H2=>if b=true then
   te σ2 H2 fun y H5=>H5 Dl=some (.lst acc)/\acc.length<sizeLine/\∃ m',m'<m/\W (i+1) m' (acc++[y]) (ay H5 Dl (.lst (acc++[y]))) else ∃ m',m'<m/\W (i+1) m' acc H2)))
 (R:Result->Nf->Prop) (hR:∀ σ' H' acc s',L2.Inv X' [] σ' H' s'->H' Dl=some (.lst acc)->Fin acc H'->R (.ok .next) s') :
 codeAny (model X.prog X.w) X.A (.compLoop (.ListComp elt [⟨tg,iter,ifs,0⟩] scope pos) 0 (.ref it) (.ref Dl) (compEnvC scope cl C X.env)) R s4:=by
 obtain⟨m0,w0⟩:=w0;have eA:X'.A=X.A:=by rw[hX];rfl
 have eP:X'.prog=X.prog:=by rw[hX];rfl
 have eW:X'.w=X.w:=by rw[hX];rfl
 have eK:X'.K=X.K:=by rw[hX];rfl
 have eE:X'.env=compEnvC scope cl C X.env:=by rw[hX];rfl
 have eX:X'.xe=fun _ _=>False:=by rw[hX];rfl
 have eC:X'.calm=true:=by rw[hX];exact hcalm
 have stat:∀{H':Hp},(∀ b∈fp,H' b=none)->∀ b∈fp,FpOk X' [] H' b:=fun hn b hb=>⟨hn b hb,(hf b hb).2⟩;refine codeAny_loop rfl (fun n s=>∃ i o acc H,L2.Inv X' [] (o++σc) H s/\o.length=tN.length/\tn i s.heap/\(∀ b∈fp,H b=none)/\W i n acc H) ?_ m0 ⟨0,List.replicate tN.length none,[],H3,I4,by simp,st4,fun b hb=>(hf b hb).1,w0⟩;rintro n s5 ⟨i,o,acc,H5,I5,lo,st5,fr5,w5⟩;show wpAny _ X.A ((compTurn (.ListComp elt [⟨tg,iter,ifs,0⟩] scope pos) 0 (.ref it) (.ref Dl) (compEnvC scope cl C X.env)).onRaise (fun x=>do noteFrame x (compEnvC scope cl C X.env);theTreesLotGoes x)) _ _ s5;refine wpAny_noted ?_;rw[compTurn_list];obtain⟨hD,alt⟩:=turn i n acc H5 w5;rcases alt with⟨stop,fin⟩|⟨go,step⟩
 .refine JT (wpAny_standAt (JT (Lc (eA▸T.done X' eP eW eK eC i [] s5 _ H5 _ I5 (stat fr5) st5 stop) (fun r s6 ⟨hr,I6⟩=>?_) fun _ _ z=>z)));subst hr;exact J2 (hR _ H5 acc s6 I6 hD fin)
 .refine JT (wpAny_standAt (JT (Lc (eA▸T.item X' eP eW eK eC i [] s5 _ H5 _ I5 (stat fr5) st5 go) (fun r s6 ⟨u,hr,h6⟩=>?_) fun _ _ z=>z)));subst hr;refine JT (Lc h6 (fun _ s7 ⟨xv,H7,I7,r7,y7,st7,fr7⟩=>?_) fun _ _ z=>z);have I7':=I7.pinned (stat fr7) (T.obj _ _ st7);have hg':=hg _ s7 _ H7 xv u _ I7' r7 (step xv H7 o y7 lo);rw[eP,eW,eA,eE,eX]at hg';refine JT (Lc hg' (fun _ s8 ⟨σ8,H8,I8,shp,q8⟩=>?_) fun _ _ z=>z.elim);obtain⟨o2,lo2,eσ⟩ : ∃ o2:St,o2.length=tN.length/\σ8=o2++σc:=by
   have l8:σ8.length=tN.length+σc.length:=I8.len.trans bO;refine⟨σ8.take tN.length,by rw[LM];omega,?_⟩;have ed:σ8.drop tN.length=σc:=by
    apply MY
    intro j;rw[List.getElem?_drop,shp (tN.length+j) (by omega),Ke (by omega),lo,Lo]
   rw[<- ed,LV]
  subst eσ;have ht':=ht _ s8 _ H8 _ I8 q8;rw[eP,eW,eA,eE,eX]at ht';refine JT (Lc ht' (fun ok s9 ⟨H9,I9,q9⟩=>?_) fun _ _ z=>z.elim);have again:∀{s':Nf}{H':Hp},L2.Inv X' ([]++lg fp s7.heap) (o2++σc) H' s'->L2.Inv X' [] (o2++σc) H' s'/\tn (i+1) s'.heap/\∀ b∈fp,H' b=none:=fun{s' H'} J'=>by refine⟨J'.unpinned,T.keep _ _ _ st7 fun b hb ob e=>(J'.pin (b,ob) (Ku _ (Ku _ (fL hb e)))).1,fun b hb=>?_⟩;obtain⟨ob,e,d⟩:=T.obj _ _ st7 b hb;exact(J'.pin (b,ob) (Ku _ (Ku _ (fL hb e)))).2.1
  cases ok with
  |false=>obtain⟨m',hm,w9⟩:=(show ∃ m',m'<n/\W (i+1) m' acc H9 from by simpa using q9);obtain⟨a1,a2,a3⟩:=again I9;exact J2 ⟨rfl,m',hm,i+1,o2,acc,H9,a1,lo2,a2,a3,w9⟩
  |true=>
   have q9:te (o2++σc) H9 fun y H5=>H5 Dl=some (.lst acc)/\acc.length<sizeLine/\∃ m',m'<n/\W (i+1) m' (acc++[y]) (ay H5 Dl (.lst (acc++[y]))):=by simpa using q9
   have he':=he _ s9 _ H9 _ I9 q9;rw[eP,eW,eA,eE,eX]at he';refine JT (JT (Lc he' (fun v s10 ⟨y,H10,I10,ry,eD,hl,m',hm,w10⟩=>?_) fun _ _ z=>z.elim));have hm':=gX (X:=X') _ s10 _ H10 (.ref Dl) [y] (.ref Dl) [v] (fun w H'=>w=.non/\H'=ay H10 Dl (.lst (acc++[y]))) I10 rfl (.cons ry .nil) ⟨Dl,acc,y,rfl,rfl,eD,hl,rfl,rfl⟩;rw[eP,eW,eA,eX]at hm';refine JT (Lc hm' (fun _ s11 ⟨w,H11,I11,_,_,eH⟩=>?_) fun _ _ z=>z.elim);subst eH;obtain⟨a1,a2,a3⟩:=again I11;exact J2 (J2 ⟨rfl,m',hm,i+1,o2,acc++[y],_,a1,lo2,a2,a3,w10⟩)
end
structure CScope (X:Cx) (scope:Scope) (tN:List Str) (capN:List Str) (caps:List Nat):Prop where
 kind:scope.kind=.function
 ncell:∀ y∈scope.names,y.2≠.cell
 names:∀ y∈scope.names,y.2=.local->scope.names.lookup y.1=some .local
 own:∀ x∈tN,scope.names.lookup x=some .local
 free:∀ y∈scope.names,y.2=.free->X.env.kindOf y.1=some .cell\/X.env.kindOf y.1=some .free
 cap:Caps X scope capN caps
 nd:(tN++capN).Nodup
section
variable {X:Cx}{pins:List (Addr×Obj)}{σ:St}{H:Hp}{s:Nf}{scope:Scope}{tg:Expr}{tN:List Str}{capN:List Str}{caps:List Nat}{elt iter:Expr}{pos:Pos}{ifs:List Expr}{wi:TI}
def gz (X:Cx)(scope:Scope)(tg:Expr)(tN:List Str)(capN:List Str)(caps:List Nat)(elt:Expr)(ifs:List Expr)(σ:St)(Fin:Addr->List V->Hp->Prop)(J:It)(H2:Hp):Prop:=
 ∀(Dl:Addr),H2 Dl=none->∀(cl:List (Str×Addr))(C:Addr)(s3:Nf)(fp:List Addr),∃(gt:TG)(tt:TT)(te:TE)(W:Nat->Nat->List V->Hp->Prop),
  PG (bt X scope (tN++capN) cl C s3 (ay H2 Dl (.lst [])) fp) tg gt/\GX (bt X scope (tN++capN) cl C s3 (ay H2 Dl (.lst [])) fp) ifs tt/\PE (bt X scope (tN++capN) cl C s3 (ay H2 Dl (.lst [])) fp) elt te/\(∃ m,W 0 m [] (ay H2 Dl (.lst [])))/\
  ∀ i m acc H,W i m acc H->H Dl=some (.lst acc)/\((J.stop i H/\Fin Dl acc H)\/(J.go i H/\∀ xv H' (o:St),J.yld i H xv H'->o.length=tN.length->gt xv (o++iU σ caps) H' fun σ2 H1=>(∀ j:Nat,tN.length<=j->σ2[j]?=(o++iU σ caps)[j]?)/\tt σ2 H1 fun b H2=>if b=true then
   te σ2 H2 fun y H5=>H5 Dl=some (.lst acc)/\acc.length<sizeLine/\∃ m',m'<m/\W (i+1) m' (acc++[y]) (ay H5 Dl (.lst (acc++[y]))) else ∃ m',m'<m/\W (i+1) m' acc H2))
theorem nH {use:Option (Ni->Sem Unit)}{Qv:Ni->Nf->Prop}{Fin:Addr->List V->Hp->Prop}(hc:X.calm=true)(S:CScope X scope tN capN caps)(I:L2.Inv X pins σ H s)(hi:PI X tg iter wi)
 (h:wi σ H (gz X scope tg tN capN caps elt ifs σ Fin))
 (hu:∀(Dl C:Addr)(acc:List V)(H':Hp)(s':Nf),L2.Inv X pins σ H' s'->FpOk X pins H' C->H' Dl=some (.lst acc)->Fin Dl acc H'->(∃ m,s'.heap.Ns C m)->compPost (model X.prog X.w) X.A X.xe use Qv (.ref Dl) C (.ok .next) s')
 (hs:autoParam (∀ x,foldedSetIterable iter X.env x=pure x) Nn._auto_1) :
 wpAny (model X.prog X.w) X.A (comprehension (.ListComp elt [⟨tg,iter,ifs,0⟩] scope pos) scope X.env (firstIterPos [⟨tg,iter,ifs,0⟩] pos) (newList []) false (eval iter X.env) use) Qv X.xe s:=by
 obtain⟨cl,ecl,hcl,hhas⟩:=mU (scope:=scope) (env:=X.env) fun y hy hf=>I.ok.has y.1 (S.free y hy hf);refine wpAny_comprehension_free rfl hs ecl S.kind S.names (bz (hi pins s σ H _ I h) fun v s1 h1=>bz h1 fun itv s2 h2=>?_);obtain⟨it,fp,tn,J,H2,rfl,I2,T,st2,f2,goal⟩:=h2;refine Mz (wpAny_newFunctionEnv S.ncell (by intro y hy;simp at hy) (fun h₁ hns₁ hsb₁=>?_) S.kind);dsimp only at hns₁ hsb₁ ⊢;have hD:H2 s2.heap.objs.size=none:=I2.hok.fresh (J1 _);have I3:L2.Inv X pins σ (ay H2 s2.heap.objs.size (.lst [])) { s2 with heap:=s2.heap.push { cls:=.type "list",dict:=none,data:=.seq ([]:List Ni).toArray } }:=I2.laid (t':=s2.toks) (fun b u e=>JV _ e) (J1 _) ⟨Kz _,[],0,.nil,Kb _ rfl⟩;generalize hs3:({ s2 with heap:=s2.heap.push { cls:=.type "list",dict:=none,data:=.seq ([]:List Ni).toArray } }:Nf)=s3 at I3;have e3:s2.heap.push { cls:=.type "list",dict:=none,data:=.seq ([]:List Ni).toArray }=s3.heap:=by rw[<- hs3]
 rw[e3]at hns₁ hsb₁ ⊢;have kp:∀ b o,s3.heap.get? b=some o->h₁.get? b=some o:=fun b o e=>hsb₁.extBut b o (Kj (J6 e)) (JV _ e);have k23:∀ b o,s2.heap.get? b=some o->s3.heap.get? b=some o:=fun b o e=>by rw[<- e3];exact JV _ e
 have hex:∀ b∈fp,FpOk X pins (ay H2 s2.heap.objs.size (.lst [])) b/\b<s3.heap.objs.size:=fun b hb=>by obtain⟨o,ho,_⟩:=T.obj 0 _ st2 b hb;have hlt:b<s2.heap.objs.size:=J6 ho;refine⟨⟨?_,(f2 b hb).2⟩,J6 (k23 b o ho)⟩;rw[af (Kj hlt)];exact(f2 b hb).1
 have es:({ s2 with heap:=h₁,toks:=s2.toks+([]:List (Str×Ni)).length }:Nf)={ s3 with heap:=h₁,toks:=s2.toks+([]:List (Str×Ni)).length }:=by rw[<- hs3]
 have I4:L2.Inv (bt X scope (tN++capN) cl s3.heap.objs.size s3 (ay H2 s2.heap.objs.size (.lst [])) fp) [] (List.replicate tN.length none++iU σ caps) (ay H2 s2.heap.objs.size (.lst [])) { s3 with heap:=h₁,toks:=s2.toks+([]:List (Str×Ni)).length }:=yi I3 S.kind S.ncell hcl hhas (J1 _) hex S.cap kp hns₁;obtain⟨gt,tt,te,W,hg,ht,he,w0,turn⟩:=goal s2.heap.objs.size hD cl s3.heap.objs.size s3 fp;have st4:tn 0 h₁:=T.keep 0 _ _ st2 fun b hb o e=>kp b o (k23 b o e);have f4:∀ b∈fp,FpOk (bt X scope (tN++capN) cl s3.heap.objs.size s3 (ay H2 s2.heap.objs.size (.lst [])) fp) [] (ay H2 s2.heap.objs.size (.lst [])) b:=fun b hb=>by
  obtain⟨f,hlt⟩:=hex b hb;refine⟨f.1,Kj hlt,fun hfs=>?_,.inl hb,fun y c e=>f.2.2.2.2.1 y c (hcl y c e),fun p hp=>absurd (show p∈([]:List (Addr×Obj)) from hp) (by simp)⟩;rcases J5.mp (I3.stkSub b hfs) with z|z
  .exact f.2.1 z
  .exact f.2.2.1 z
 have loop:codeAny (model X.prog X.w) X.A (.compLoop (.ListComp elt [⟨tg,iter,ifs,0⟩] scope pos) 0 (.ref it) (.ref s2.heap.objs.size) (compEnvC scope cl s3.heap.objs.size X.env)) (compPost (model X.prog X.w) X.A X.xe use Qv (.ref s2.heap.objs.size) s3.heap.objs.size)
  { s3 with heap:=h₁,toks:=s2.toks+([]:List (Str×Ni)).length }:=by
  refine wo rfl T hc I4 (by show(tN++capN).length=_;simp[iU,S.cap.len]) st4 f4 hg ht he W (Fin s2.heap.objs.size) w0 turn _ fun σ' H' acc s' I' hD' fin=>?_;obtain⟨Io,fo⟩:=wn I3 rfl (J1 _) hex I';obtain⟨m',hn',_⟩:=I'.loc;exact hu _ _ acc H' s' Io fo hD' fin ⟨m',hn'⟩
 rw[es];exact codeAny_compStart_list loop (T.self _ 0 _ _ _ st4 loop)
theorem lT {Q:VK}(hc:X.calm=true)(S:CScope X scope tN capN caps)(I:L2.Inv X pins σ H s)(hi:PI X tg iter wi)(h:wi σ H (gz X scope tg tN capN caps elt ifs σ fun Dl _ H'=>Q (.ref Dl) H'))
 (hs:autoParam (∀ x,foldedSetIterable iter X.env x=pure x) Nn._auto_1):wpAny (model X.prog X.w) X.A (eval (.ListComp elt [⟨tg,iter,ifs,0⟩] scope pos) X.env) (EP X pins σ Q) X.xe s:=by
 rw[eval_ListComp];refine nH (use:=none) hc S I hi h (fun Dl C acc H' s' Io fo hD fin hn=>?_) hs;obtain⟨m,hn⟩:=hn;exact⟨m,hn,fun h' sb=>⟨.ref Dl,H',uR Io fo sb,rfl,fin⟩⟩
theorem yj {D:Ends}{i:Nat}{y:Str}{py spos:Pos}(hc:X.calm=true)(S:CScope X scope tN capN caps)(hN:X.N.Nodup)(hi':X.N[i]?=some y)(hy:X.env.scope.names.lookup y=some .local)
 (hsw:swapsWith (.ListComp elt [⟨tg,iter,ifs,0⟩] scope pos) (some (.Name y py)) spos.line X.env=pure true) (I:L2.Inv X pins σ H s) (hi:PI X tg iter wi)
 (h:wi σ H (gz X scope tg tN capN caps elt ifs σ fun Dl _ H'=>D.nx (σ.set i (some (.ref Dl))) H')) (hs:autoParam (∀ x,foldedSetIterable iter X.env x=pure x) Nn._auto_1) :
 wpAny (model X.prog X.w) X.A (exec (.Assign [.Name y py] (.ListComp elt [⟨tg,iter,ifs,0⟩] scope pos) spos) X.env) (SP X pins D) X.xe s:=by
 rw[exec_Assign_Name_used _ _ _ _ hsw];refine JT (wpAny_standAt (JT ?_));show wpAny _ X.A (do let _ <- comprehension (.ListComp elt [⟨tg,iter,ifs,0⟩] scope pos) scope X.env _ (newList []) false (eval iter X.env) (some (assign (.Name y py) X.env))) _ _ s;refine JT (Lc (nH (use:=some (assign (.Name y py) X.env)) (Qv:=fun _ s'=>SP X pins D .next s') hc S I hi h (fun Dl C acc H' s' Io fo hD fin hn=>?_) hs) (fun _ s' hq=>J2 (J2 hq)) fun _ _ e=>e);obtain⟨m,hn⟩:=hn;show wpAny _ X.A (assign (.Name y py) X.env (.ref Dl)) _ _ _;refine wpAny_assign_Name (mZ (v:=.ref Dl) Io hN hi' (.inl hy) rfl (fun s'' I'' ⟨a,sb,ha⟩=>?_) (.inr hy));have nca:C≠a:=by
  rcases ha with z|z
  .rw[z];exact fo.2.1
  .exact Ko (fo.2.2.2.2.1 y a z)
 refine⟨m,hn.sameBut sb nca,fun h' sb'=>?_⟩;exact⟨_,H',uR I'' fo sb',fin⟩
end
noncomputable def Res.noX {α:Type}:Res α->Res α
 | .exc _=>.stuck
 |r=>r
def A8 (env:En)(j:Nat):Option Sl:=match env[j]? with
 |some (some (.val d fr))=>some (.val d fr)
 |some (some (.own ds fr))=>some (.val (.lst ds) fr)
 |some (some (.tre d))=>some (.val d true)
 |some (some (.pin d))=>some (.val d true)
 |some (some (.dis d))=>some (.val d true)
 |some (some (.fix _ (.tr d)))=>some (.val d true)
 |some (some (.fix _ (.ds d)))=>some (.val d true)
 |_=>none
def fw (env:En)(n:Nat)(caps:List Nat):En:=List.replicate n none++caps.map (A8 env)
def c8 (mk:D->Option En)(test:En->Res Bool)(elt:En->Res R):List D->Res (List R)
 | []=>.ok []
 |x::xs=>match mk x with
  |none=>.stuck
  |some e=>(test e).bind fun b=>if b then (elt e).bind fun r=>(c8 mk test elt xs).bind fun rs=>.ok (r::rs) else c8 mk test elt xs
def cM (n:Nat)(caps:List Nat)(src:En->Res Src)(asg:D->Bool->En->Option En)(test:En->Res Bool)(elt:En->Res R):En->Res R:=fun env=>(src env).bind fun s=>if s.xs.length<=lim then
 (c8 (fun d=>asg d s.fr (fw env n caps)) test elt s.xs).noX.bind fun rs=>.ok (jC (rs.map R.d) (a_ rs) (s.al++caps.filter (isOwn env))) else .stuck
def t5 (X:Cx)(E:XK)(ifs:List Expr)(f:En->Res Bool):Prop:=∃ t,GX X ifs t/\SndT X.mg E t f
section
variable {X:Cx}{E:XK}
theorem gA:t5 X E [] (fun _=>.ok true):=⟨_,uS,fun g M ρ env σ H Q rep p=>p M H (Ext.refl _ _) rep⟩
theorem gB {c:Expr}{f:En->Res Bool}(h:rA X E c f):t5 X E [c] f:=let ⟨t,a,b⟩:=h;⟨t,A7 a,b⟩
end
section
variable {g:Gd}{M M1:Addr->Prop}{ρ:Pr}{env:En}{σ:St}{H H1:Hp}
theorem GY {n:Nat}{caps:List Nat}{M':Addr->Prop}{o:St}(rep:Rep g M1 ρ env σ H1)(s:Same H1 H)(ho:o.length=n)(hM:∀ a,(M1 a\/∃ i,i∈caps/\ρ i a)->M' a)(hf:∀ a,M' a->H a≠none)(hi:∀ a,M' a->g.H₀ a=none\/g.Ma a)(hfl:∀ a,M' a->g.H₀ a=none->MuZ g H a) :
 Rep g M' (fun _ _=>False) (fw env n caps) (o++iU σ caps) H where
 same:=rep.same.trans s
 froz:=hf
 inn:=hi
 fl:=hfl
 slot:=fun i sl e=>by
  by_cases hlt:i<n
  .unfold fw at e;rw[Ka (by simpa using hlt),K7,JW hlt]at e;cases e
  .obtain⟨k,rfl⟩ : ∃ k,i=n+k:=⟨i-n,by omega⟩;have e:(caps.map (A8 env))[k]?=some (some sl):=by
    unfold fw at e
    rwa [Ke (by simp),MC,Lo]at e
   rw[J9]at e;cases q:caps[k]? with
   |none=>rw[q]at e;cases e
   |some j=>
    rw[q]at e;have e:A8 env j=some sl:=by simpa using e
    have hj:j∈caps:=KM q;unfold A8 at e;cases q2:env[j]? with
    |none=>rw[q2]at e;cases e
    |some o=>
     cases o with
     |none=>rw[q2]at e;cases e
     |some sl0=>
      obtain⟨v,ev,k2⟩:=rep.slot j sl0 q2;have el:(o++iU σ caps)[n+k]?=some (some v):=by rw[Ke (by omega),ho,Lo];unfold iU;rw[J9,q];simp[ev]
      rw[q2]at e;cases sl0 with
      |val d' fr'=>cases e;exact⟨v,el,Is.mono (fun a o q _=>s a o q) (fun a _ _ z=>⟨hM a (.inl z.1),z.2⟩) k2⟩
      |own ds' fr'=>cases e;obtain⟨a,vs,rfl,h1,h2,h4⟩:=k2;have ha:=(h2 a).mpr rfl;exact⟨_,el,a,vs,rfl,.inl ⟨s _ _ h1,hM a (.inr ⟨j,hj,ha⟩),fun _=>(rep.priv j a ha).2.1⟩,IsAll.mono (fun a o q _=>s a o q) (fun a _ _ z=>⟨hM a (.inl z.1),z.2⟩) h4⟩
      |tre d'=>cases e;exact⟨v,el,Is.mono (fun a o q _=>s a o q) (fun a _ _ z=>⟨hM a (.inr ⟨j,hj,z⟩),fun _=>(rep.priv j a z).2.1⟩) k2⟩
      |mes d'=>cases e
      |kon a'=>cases e
      |pin d'=>cases e;exact⟨v,el,Is.mono (fun a o q _=>s a o q) (fun a _ _ z=>⟨hM a (.inr ⟨j,hj,z⟩),fun _=>(rep.priv j a z).2.1⟩) k2.1⟩
      |dis d'=>cases e;exact⟨v,el,Is.mono (fun a o q _=>s a o q) (fun a _ _ z=>⟨hM a (.inr ⟨j,hj,z⟩),fun _=>(rep.priv j a z).2.1⟩) k2.1⟩
      |fix n q0=>
       cases q0 with
       |no=>cases e
       |tr d'=>cases e;exact⟨v,el,Is.mono (fun a o q _=>s a o q) (fun a _ _ z=>⟨hM a (.inr ⟨j,hj,z⟩),fun _=>(rep.priv j a z).2.1⟩) k2.2⟩
       |ds d'=>cases e;exact⟨v,el,Is.mono (fun a o q _=>s a o q) (fun a _ _ z=>⟨hM a (.inr ⟨j,hj,z⟩),fun _=>(rep.priv j a z).2.1⟩) k2.2.1⟩
 priv:=fun _ _ z=>z.elim
 apart:=fun _ _ _ z=>z.elim
 ow:=fun _ _ z=>z.elim
 len:=by simp[fw,iU,ho]
 zz:=fun a z e=>rep.zz a z (s.free e)
end
noncomputable def rG (X:Cx)(scope:Scope)(tg:Expr)(tN:List Str)(capN:List Str)(caps:List Nat)(elt:Expr)(ifs:List Expr)(wi:TI):TE:=fun σ H Q=>wi σ H (gz X scope tg tN capN caps elt ifs σ fun Dl _ H'=>Q (.ref Dl) H')
section
variable {X:Cx}{E:XK}{scope:Scope}{tg:Expr}{tN:List Str}{capN:List Str}{caps:List Nat}{ix:List Nat}{asg:D->Bool->En->Option En}{elt iter:Expr}{pos:Pos}{ifs:List Expr}{wi:TI}{src:En->Res Src}{ft:En->Res Bool}{fe:En->Res R}
theorem jG {g:Gd}{M1:Addr->Prop}{ρ:Pr}{env:En}{σ:St}{H1:Hp}{Q:VK}{J:It}{s:Src}{full:List R}(hix:∀ j∈ix,j<tN.length)(hg:∀ cl C s3 H3 fp,ye (bt X scope (tN++capN) cl C s3 H3 fp) ix tg asg)(ht:∀ cl C s3 H3 fp,t5 (bt X scope (tN++capN) cl C s3 H3 fp) E0 ifs ft)(he:∀ cl C s3 H3 fp,PD (bt X scope (tN++capN) cl C s3 H3 fp) E0 elt fe)(rep1:Rep g M1 ρ env σ H1)(wk:Walk J (vmsk g M1 s.fr ρ s.al) H1 s.xs)(hlim:s.xs.length<=lim)(qc:c8 (fun d=>asg d s.fr (fw env tN.length caps)) ft fe s.xs=.ok full)
 (p:PostE X.mg E g M1 ρ env σ H1 Q (.ok (jC (full.map R.d) (a_ full) (s.al++caps.filter (isOwn env))))):gz X scope tg tN capN caps elt ifs σ (fun Dl _ H'=>Q (.ref Dl) H') J H1:=by
 intro Dl hDl cl C s3 fp;obtain⟨gt,pg,sg⟩:=hg cl C s3 (ay H1 Dl (.lst [])) fp;obtain⟨tt,pt,st⟩:=ht cl C s3 (ay H1 Dl (.lst [])) fp;obtain⟨te,pe,se⟩:=he cl C s3 (ay H1 Dl (.lst [])) fp;obtain⟨d0,dm,dow⟩:=rep1.free hDl;refine⟨gt,tt,te,fun i m acc H=>m=s.xs.length-i/\i<=s.xs.length/\∃(M':Addr->Prop)(rs aZ:List R),Same H1 H/\H Dl=some (.lst acc)/\(∀ a,(M1 a\/∃ j,j∈s.al++caps/\ρ j a)->M' a)/\
  (∀ a,M' a->(M1 a\/∃ j,j∈s.al++caps/\ρ j a)\/H1 a=none)/\¬ M' Dl/\(∀ a,M' a->H a≠none)/\(∀ a,M' a->g.H₀ a=none->MuZ g H a)/\rs.length<=i/\IsAll H (msk g M' (a_ rs)) (rs.map R.d) acc/\c8 (fun d=>asg d s.fr (fw env tN.length caps)) ft fe (s.xs.drop i)=.ok aZ/\full=rs++aZ,
  pg,pt,pe,⟨_,rfl,Kz _,(fun a=>M1 a\/∃ j,j∈s.al++caps/\ρ j a),[],full,aV hDl,ai,fun _ z=>z,fun _ z=>.inl z,?_,?_,?_,J1 _,rfl,qc,rfl⟩,?_⟩
 .rintro (z|⟨j,_,z⟩)
  .exact dm z
  .exact dow j z
 .rintro a (z|⟨j,_,z⟩) hn
  .exact rep1.froz a z ((aV hDl).free hn)
  .obtain⟨_,_,uo,hz,_⟩:=rep1.priv j a z;rw[(aV hDl) a _ hz]at hn;cases hn
 .rintro a (z|⟨j,_,z⟩) h0
  .exact(rep1.fl a z h0).same fun o e=>aV hDl _ _ e
  .exact .inl ((rep1.priv j a z).2.2.same fun o e=>aV hDl _ _ e)
 .rintro i m acc H2 ⟨rfl,hle,M',rs,aZ,sm,hD2,hMi,hMo,nD,frz2,fl2,hrs,isA,qr,efull⟩;refine⟨hD2,?_⟩;have kp:∀ a o,H1 a=some o->(vmsk g M1 s.fr ρ s.al a\/fixd o)->H2 a=some o:=fun a o e _=>sm a o e;have inn2:∀{M'':Addr->Prop}{a:Addr},(M1 a\/∃ j,j∈s.al++caps/\ρ j a)\/H1 a=none->g.H₀ a=none\/g.Ma a:=fun{M'' a} z=>by
   rcases z with(z|⟨j,_,z⟩)|z
   .exact rep1.inn a z
   .exact .inl (rep1.priv j _ z).2.1
   .exact .inl (rep1.same.free z)
  by_cases hlt:i<s.xs.length
  .have ed:s.xs[i]?=some s.xs[i]:=by simp[hlt]
   obtain⟨go,yl⟩:=wk.go H2 i _ kp ed;refine .inr ⟨go,fun xv H3 o y lo=>?_⟩;obtain⟨s23,isx⟩:=yl xv H3 y;have edrop:s.xs.drop i=s.xs[i]::s.xs.drop (i+1):=Lg hlt;rw[edrop]at qr;unfold c8 at qr;have isx':Is H3 (msk g M' s.fr) s.xs[i] xv:=isx.weak fun a z=>by
    rcases z with z|⟨j,hj,z⟩
    .exact⟨hMi a (.inl z.1),z.2⟩
    .exact⟨hMi a (.inr ⟨j,by simp[hj],z⟩),fun _=>(rep1.priv j _ z).2.1⟩
   have repI:Rep g M' (fun _ _=>False) (fw env tN.length caps) (o++iU σ caps) H3:=GY rep1 (sm.trans s23) lo (fun a z=>hMi a (z.imp id fun⟨j,hj,w⟩=>⟨j,by simp[hj],w⟩)) (fun a z hn=>frz2 a z (s23.free hn)) (fun a z=>inn2 (M'':=M') (hMo a z)) (fun a z h0=>(fl2 a z h0).same fun o e=>s23 _ _ e);cases qa:asg s.xs[i] s.fr (fw env tN.length caps) with
   |none=>simp only[qa]at qr;cases qr
   |some envT=>
   simp only[qa]at qr;refine sg g M' _ _ envT _ H3 _ s.fr xv _ repI isx' qa fun σ2 ρ2 repT shp nρ=>⟨fun j hj=>shp j fun z=>absurd (hix j z) (by omega),?_⟩;refine st g M' ρ2 _ _ H3 _ repT ?_;cases qt:ft envT with
   |stuck=>rw[qt]at qr;cases qr
   |exc c=>rw[qt]at qr;cases qr
   |ok b=>
    rw[qt]at qr;intro M4 H4 e4 rep4;cases b with
    |false=>refine tm ⟨s.xs.length-(i+1),by omega,rfl,hlt,M',rs,aZ,(sm.trans s23).trans e4.h,e4.h _ _ (s23 _ _ hD2),hMi,hMo,nD,fun a z hn=>frz2 a z (s23.free (e4.h.free hn)),fun a z h0=>(fl2 a z h0).same fun o e=>e4.h _ _ (s23 _ _ e),by omega,?_,by simpa using qr,efull⟩;exact IsAll.same e4.h (IsAll.same s23 isA)
    |true=>
     refine qQ ?_;simp only[Res.bind_ok,Me]at qr;refine se g M4 ρ2 _ _ H4 _ rep4 ?_;cases qe:fe envT with
     |stuck=>rw[qe]at qr;cases qr
     |exc c=>rw[qe]at qr;cases qr
     |ok r=>
      rw[qe]at qr;simp only[Res.bind_ok]at qr;cases qd:c8 (fun d=>asg d s.fr (fw env tN.length caps)) ft fe (s.xs.drop (i+1)) with
      |stuck=>rw[qd]at qr;cases qr
      |exc c=>rw[qd]at qr;cases qr
      |ok rest'=>
       rw[qd]at qr;have qr:r::rest'=aZ:=by simpa using qr
       intro yv M5 H5 e5 rep5 ro;obtain⟨M6,e6,m56,rep6,is6⟩:=ro.is rep5 e5 rep4.same;have D3:H3 Dl=some (.lst acc):=s23 _ _ hD2;have D4:H4 Dl=some (.lst acc):=e4.h _ _ D3;have D5:H5 Dl=some (.lst acc):=e5.h _ _ D4;have nD4:¬ M4 Dl:=fun z=>(e4.n Dl z).elim nD fun w=>by rw[D3]at w;cases w
       have nD6:¬ M6 Dl:=fun z=>(e6.n Dl z).elim nD4 fun w=>by rw[D4]at w;cases w
       have M46:∀ a,M4 a->M6 a:=e6.m;have up:∀ a o,H5 a=some o->a≠Dl->ay H5 Dl (.lst (acc++[yv])) a=some o:=fun a o e n=>by rw[af n];exact e
       have kp5:∀(fr:Bool) a o,H5 a=some o->(msk g M6 fr a\/fixd o)->ay H5 Dl (.lst (acc++[yv])) a=some o:=fun fr a o e z=>up a o e fun w=>by
        subst w;rcases z with z|z
        .exact nD6 z.1
        .rw[D5]at e;cases e;exact z
       refine⟨D5,?_,s.xs.length-(i+1),by omega,rfl,hlt,M6,rs++[r],rest',?_,ai,fun a z=>M46 a (e4.m a (hMi a z)),fun a z=>?_,nD6,fun a z=>?_,fun a z h0=>?_,by simp;omega,?_,qd,by rw[efull,<- qr];simp⟩
       .have:acc.length=rs.length:=by rw[isA.length,JU]
        exact gx (by omega)
       .intro b o e;exact up b o (e5.h _ _ (e4.h _ _ (s23 _ _ (sm _ _ e)))) (ap e hDl)
       .rcases e6.n a z with z|z
        .rcases e4.n a z with z|z
         .exact hMo a z
         .exact .inr (sm.free (s23.free z))
        .exact .inr (sm.free (s23.free (e4.h.free z)))
       .by_cases hw:a=Dl
        .rw[hw,ai];simp
        .rw[af hw];exact rep6.froz a z
       .have hw:a≠Dl:=fun e=>nD6 (e▸z);exact(rep6.fl a z h0).same fun o e=>by rw[af hw];exact e
       .rw[Ki];refine IsAll.append ?_ ⟨yv,[],rfl,?_,rfl⟩
        .have i5:IsAll H5 (msk g M' (a_ rs)) (rs.map R.d) acc:=((isA.same s23).same e4.h).same e5.h;refine(i5.weak fun a z=>(⟨M46 a (e4.m a z.1),fun e=>z.2 (by simp[a_]at e ⊢;exact e.1)⟩ : msk g M6 (a_ (rs++[r])) a)).mono (kp5 _) fun _ _ _ z=>z
        .refine(is6.weak fun a z=>?_:Is H5 (msk g M6 (a_ (rs++[r]))) r.d yv).mono (kp5 _) fun _ _ _ z=>z;rcases z with z|⟨j,_,z⟩
         .exact⟨z.1,fun e=>z.2 (by simp[a_]at e;exact e.2)⟩
         .exact(nρ _ _ z).elim
  .have ei:i=s.xs.length:=by omega
   subst ei;refine .inl ⟨wk.stop H2 kp,?_⟩;rw[Nb]at qr;unfold c8 at qr;cases qr;rw[Ls]at efull;subst efull;have RM:Rep g (fun a=>M1 a\/(nl H1 H2 a/\M' a)) ρ env σ H2:=rep1.came sm M';have XM:Ext M1 H1 (fun a=>M1 a\/(nl H1 H2 a/\M' a)) H2:=⟨fun _=>.inl,sm,fun _ z=>z.imp id (·.1.1)⟩;have nDl:¬ (M1 Dl\/(nl H1 H2 Dl/\M' Dl)):=fun z=>z.elim dm fun z=>nD z.2;have nwD:∀ b,V.ref Dl=.ref b->H1 b=none:=fun b e=>by cases e;exact hDl
   unfold jC at p;by_cases hfl:D.flats (full.map R.d)=true
   .rw[JW hfl]at p;exact p _ _ H2 XM RM ⟨Dl,acc,rfl,hD2,nDl,hDl,dow,IsAll.flat hfl isA⟩
   .rw[J0 hfl]at p;by_cases hal:(s.al++caps.filter (isOwn env)).isEmpty=true
    .rw[JW hal]at p;refine p _ _ H2 XM RM ⟨Dl,acc,rfl,hD2,nDl,hDl,dow,isA.weak fun a z=>⟨?_,z.2⟩⟩;rcases hMo a z.1 with(w|⟨j,hj,w⟩)|w
     .exact .inl w
     .exfalso;have he:s.al++caps.filter (isOwn env)=[]:=by simpa using hal
      rcases Kf.mp hj with hj|hj
      .have:j∈s.al++caps.filter (isOwn env):=Kt _ hj;rw[he]at this;simp at this
      .have:j∈s.al++caps.filter (isOwn env):=Ku _ (KS.mpr ⟨hj,rep1.ow j a w⟩);rw[he]at this;simp at this
     .exact .inr ⟨⟨w,(fl2 a z.1 (rep1.same.free w)).elim id fun q=>(rep1.zz a q.1 w).elim⟩,z.1⟩
    .rw[J0 hal]at p;refine p _ (fun a=>(M1 a\/(nl H1 H2 a/\M' a))\/a=Dl) H2 ⟨fun _ z=>.inl (.inl z),sm,fun a z=>z.elim (XM.n a) fun e=>.inr (e▸hDl)⟩ (RM.more hD2 d0 dow) ⟨Dl,acc,rfl,.inl ⟨hD2,.inl ⟨.inr rfl,fun _=>d0⟩⟩,isA.weak fun a z=>?_⟩;rcases hMo a z.1 with(w|⟨j,hj,w⟩)|w
     .exact .inl ⟨.inl (.inl w),z.2⟩
     .refine .inr ⟨j,?_,w⟩;rcases Kf.mp hj with hj|hj
      .exact Kt _ hj
      .exact Ku _ (KS.mpr ⟨hj,rep1.ow j a w⟩)
     .exact .inl ⟨.inl (.inr ⟨⟨w,(fl2 a z.1 (rep1.same.free w)).elim id fun q=>(rep1.zz a q.1 w).elim⟩,z.1⟩),z.2⟩
theorem rH (si:GV X.mg E wi src)(hix:∀ j∈ix,j<tN.length)(hg:∀ cl C s3 H3 fp,ye (bt X scope (tN++capN) cl C s3 H3 fp) ix tg asg)(ht:∀ cl C s3 H3 fp,t5 (bt X scope (tN++capN) cl C s3 H3 fp) E0 ifs ft)(he:∀ cl C s3 H3 fp,PD (bt X scope (tN++capN) cl C s3 H3 fp) E0 elt fe) :
 Snd X.mg E (rG X scope tg tN capN caps elt ifs wi) (cM tN.length caps src asg ft fe):=by
 intro g M ρ env σ H Q rep p;refine si g M ρ env σ H _ rep ?_;unfold cM at p;cases q:src env with
 |stuck=>rw[q]at p;exact p
 |exc c=>rw[q]at p;exact p
 |ok s=>
  rw[q]at p;simp only[Res.bind_ok]at p;intro J M1 H1 e1 rep1 wk Dl hDl cl C s3 fp;by_cases hlim:s.xs.length<=lim
  .rw[JW hlim]at p;cases qc:c8 (fun d=>asg d s.fr (fw env tN.length caps)) ft fe s.xs with
   |stuck=>rw[qc]at p;exact p.elim
   |exc c=>rw[qc]at p;exact p.elim
   |ok full=>rw[qc]at p;have p:PostE X.mg E g M1 ρ env σ H1 Q (.ok (jC (full.map R.d) (a_ full) (s.al++caps.filter (isOwn env)))):=PostE.ext e1 p;exact jG hix hg ht he rep1 wk hlim qc p Dl hDl cl C s3 fp
  .rw[J0 hlim]at p;exact p.elim
theorem A9 (hc:X.calm=true)(S:CScope X scope tN capN caps)(hi:Eh X E tg iter src)(hix:∀ j∈ix,j<tN.length)(hg:∀ cl C s3 H3 fp,ye (bt X scope (tN++capN) cl C s3 H3 fp) ix tg asg)(ht:∀ cl C s3 H3 fp,t5 (bt X scope (tN++capN) cl C s3 H3 fp) E0 ifs ft)(he:∀ cl C s3 H3 fp,PD (bt X scope (tN++capN) cl C s3 H3 fp) E0 elt fe)
 (hs:autoParam (∀ x,foldedSetIterable iter X.env x=pure x) Nn._auto_1):PD X E (.ListComp elt [⟨tg,iter,ifs,0⟩] scope pos) (cM tN.length caps src asg ft fe):=by
 obtain⟨wi,p1,s1⟩:=hi;exact⟨rG X scope tg tN capN caps elt ifs wi,fun pins s σ H Q I h=>lT hc S I p1 h hs,rH s1 hix hg ht he⟩
theorem c9 {i:Nat}{y:Str}{py spos:Pos}(hc:X.calm=true)(S:CScope X scope tN capN caps)(hN:X.N.Nodup)(hi':X.N[i]?=some y)(hy:X.env.scope.names.lookup y=some .local)
 (hi:Eh X E tg iter src) (hix:∀ j∈ix,j<tN.length) (hg:∀ cl C s3 H3 fp,ye (bt X scope (tN++capN) cl C s3 H3 fp) ix tg asg) (ht:∀ cl C s3 H3 fp,t5 (bt X scope (tN++capN) cl C s3 H3 fp) E0 ifs ft) (he:∀ cl C s3 H3 fp,PD (bt X scope (tN++capN) cl C s3 H3 fp) E0 elt fe)
 (hsw:autoParam (swapsWith (.ListComp elt [⟨tg,iter,ifs,0⟩] scope pos) (some (.Name y py)) spos.line X.env=pure true) Nq._auto_1) (hs:autoParam (∀ x,foldedSetIterable iter X.env x=pure x) Nn._auto_1) :
 ju X E (.Assign [.Name y py] (.ListComp elt [⟨tg,iter,ifs,0⟩] scope pos) spos) (aP i (cM tN.length caps src asg ft fe)):=by
 obtain⟨wi,p1,s1⟩:=hi;exact⟨xi (rG X scope tg tN capN caps elt ifs wi) (gs i),fun pins s σ H D I h=>yj hc S hN hi' hy hsw I p1 h hs,uP (rH s1 hix hg ht he)⟩
end
def dP (N:List Str)(ds:List D):En:=ds.map (fun d=>some (.val d false))++List.replicate (N.length-ds.length) none
def df:Res Fl->Res R
 | .ok (.nx _)=>.ok (.val .non true [])
 | .ok (.rt r)=>.ok r
 | .ok _=>.stuck
 | .exc c=>.exc c
 | .stuck=>.stuck
def fy (N:List Str)(FB:En->Res Fl)(ds:List D):Res R:=df (FB (dP N ds))
theorem bA {X:Cx}{E:XK}:jv j9 X E:=fun _ _ _ _ _ _ _ h=>h.elim
theorem wq {H:Hp}{Ma:Addr->Prop}{ds:List D}{vs:List V}{N:List Str}(is:IsAll H Ma ds vs):Rep (GP H Ma) (fun a=>Ma a/\H a≠none) (fun _ _=>False) (dP N ds) (L2.start N vs) H where
 same:=Same.refl H
 froz:=fun a z=>z.2
 inn:=fun a z=>.inr z.1
 fl:=fun a z h=>absurd h z.2
 slot:=fun i sl e=>by
  have hl:=is.length;unfold dP at e;by_cases hi:i<ds.length
  .rw[Ka (by simpa using hi),J9]at e;obtain⟨v,ev,iv⟩:=is.get (i:=i) (d:=ds[i]) (by simp[hi]);have e1:ds[i]?=some ds[i]:=by simp[hi]
   rw[e1]at e;cases e;refine⟨v,?_,Is.mono (fun _ _ q _=>q) (fun a o q z=>⟨⟨z,by rw[q];simp⟩,fun z=>by cases z⟩) iv⟩;unfold L2.start;rw[Ka (by simp;omega),J9,ev];rfl
  .rw[Ke (by simpa using hi),K7]at e;split at e<;>cases e
 priv:=fun _ _ z=>z.elim
 apart:=fun _ _ _ z=>z.elim
 ow:=fun _ _ z=>z.elim
 len:=by have hl:=is.length;unfold dP L2.start;simp[hl]
 zz:=fun _ z=>z.elim
section
variable {P:Nh}{w:World}{K:Ng}{mg:Str->Option Ni}{base:Heap}
theorem fA {x qual:Str}{st:Stmt}{f:Addr}{fd:FuncData}{N ps:List Str}{k:Nat}{FB:En->Res Fl}(F:Fun K x qual st f fd)(S:FnScope N ps (defScope st))
 (body:∀(cdv:Ni)(A:Nj)(outer:List Env)(s:Nf)(H:Hp)(E:XK),Room k (A.deeper (envOfC qual (defScope st) s.heap.objs.size f cdv))->iu (oO j9 P w K mg base N qual (defScope st) f cdv A outer s H E).nox E (defBody st) FB) :
 FnOk P w K mg base j9 (k+1) f fd ps (rC mg ps.length (fy N FB)):=by
 refine F.ok S (fun vs H Q E h=>h.1) (fun cdv A outer s H vs Q E hr h=>?_);obtain⟨hl,ds,Ma,is,post⟩:=h;obtain⟨t,p1,s1⟩:=body cdv A outer s H E hr;refine⟨t,p1,s1 (GP H Ma) _ _ (dP N ds) (L2.start N vs) H _ (wq is) ?_⟩;unfold fy at post;cases q:FB (dP N ds) with
 |stuck=>rw[q]at post;exact post
 |exc c=>rw[q]at post;exact post
 |ok r=>
  rw[q]at post;cases r with
  |nx env=>exact fun σ M' ρ' H' _ rep=>post .non H' rep.same rfl
  |rt r=>exact fun v M' H' _ s ro _=>post v H' s (ro fun _ z=>z)
  |rm r env=>exact post.elim
  |bk env=>exact post.elim
  |ct env=>exact post.elim
end
section
variable {X:Cx}{E:XK}
noncomputable def CN (mg:Str->Option Ni)(E:XK)(g:Gd)(M:Addr->Prop)(ρ:Pr)(env:En)(σ:St)(H:Hp)(Q:Option Int->Hp->Prop):Res (Option Int)->Prop
 | .stuck=>False
 | .exc c=>Ao mg E g c
 | .ok o=>∀ M' H',Ext M H M' H'->Rep g M' ρ env σ H'->Q o H'
def Iu (X:Cx)(E:XK)(e:Option Expr)(f:En->Res (Option Int)):Prop:=∃ t,PO X e t/\∀ g M ρ env σ H Q,Rep g M ρ env σ H->CN X.mg E g M ρ env σ H Q (f env)->t σ H Q
def kg (f:En->Res R):En->Res (Option Int):=fun env=>(f env).bind fun r=>match r.d with
 | .int i=>.ok (some i)
 |_=>.stuck
theorem fB {e:Expr}{f:En->Res R}(h:PD X E e f):Iu X E (some e) (kg f):=by
 obtain⟨t,p1,s1⟩:=h;refine⟨_,AG p1,fun g M ρ env σ H Q rep p=>s1.one rep (P:=fun M H r=>CN X.mg E g M ρ env σ H Q r) p (fun _ _ z=>z) (fun _ _ _ z=>z) (fun M H M' H' r e p=>?_) fun r v M1 H1 e1 rep1 is q=>?_⟩
 .cases r with
  |stuck=>exact p
  |exc c=>exact p
  |ok o=>exact fun M2 H2 e2=>p M2 H2 (e.trans e2)
 .cases z:r.d with
  |int i=>rw[z]at is;simp only[z]at q;cases is;exact⟨i,rfl,q M1 H1 (Ext.refl _ _) rep1⟩
  |_=>simp only[z]at q;exact q.elim
noncomputable def D.ty:D->String
 | .non=>"NoneType" | .bl _=>"bool" | .int _=>"int" | .str _=>"str" | .tup _=>"tuple" | .lst _=>"list" | .dic _ _=>"dict"
def Jz (K:Ng) (H:Hp) (x:V) (t:Ni):Prop:=TyOf K H x t\/(t=.type "dict"/\∃ a,x=.ref a/\Iq H a)
theorem Is.ty {H:Hp}{m:Addr->Prop}{d:D}{v:V}{K:Ng}(h:Is H m d v):Jz K H v (.type d.ty):=by
 cases d with
 |non=>cases h;exact .inl .non
 |bl b=>cases h;exact .inl (.bl b)
 |int b=>cases h;exact .inl (.int b)
 |str b=>cases h;exact .inl (.str b)
 |tup ds=>obtain⟨a,vs,rfl,h1,_⟩:=h;exact .inl (.tup h1)
 |lst ds=>
  obtain⟨a,vs,rfl,h1,_⟩:=h;rcases h1 with⟨h1,_⟩|⟨o,h1,_⟩
  .exact .inl (.lst h1)
  .exact .inl (.frz h1)
 |dic ks ds=>obtain⟨a,kvs,rfl,h1,_⟩:=h;exact .inr ⟨rfl,a,rfl,h1.1.imp (fun⟨kvs,e,_⟩=>⟨kvs,e⟩) fun⟨kvs,e,_⟩=>⟨kvs,e⟩⟩
def A_ (T:String)(d:D):Bool:=match d with
 | .non=>T=="NoneType"
 | .bl _=>T=="bool" || T=="int"
 | .int _=>T=="int"
 | .str _=>T=="str"
 | .tup _=>T=="tuple"
 | .lst _=>T=="list"
 | .dic _ _=>T=="dict"
def ym (T:String):Prop:=∀(K:Ng)(d:D),PySem.W.kitOne K (.type d.ty) (.type T)=some (A_ T d)
theorem yn:ym "int":=fun K d=>by cases d<;>kernel_rfl
theorem wt:ym "bool":=fun K d=>by cases d<;>kernel_rfl
theorem wu:ym "list":=fun K d=>by cases d<;>kernel_rfl
theorem t7:ym "tuple":=fun K d=>by cases d<;>kernel_rfl
def wv (T:String)(fa:En->Res R):En->Res R:=fun env=>(fa env).bind fun r=>.ok (.val (.bl (A_ T r.d)) true [])
theorem yo:CallR X (.builtin "isinstance") (fun xs H Q=>∃ x T t b,xs=[x,.ty T]/\Jz X.K H x t/\PySem.W.kitOne X.K t (.type T)=some b/\Q (.bl b) H):=by
 intro pins s σ H xs us Q I r h;obtain⟨x,T,t,b,rfl,ty,e,q⟩:=h;obtain⟨u,c,rfl,ru,rc⟩:=uu r;obtain rfl:c=Value.type T:=rc;rcases ty with ty|⟨rfl,a,rfl,hd⟩
 .exact vY I ru ty e fun tk=>⟨.bl b,H,I.tok tk,rfl,q⟩
 .obtain rfl:u=Value.ref a:=ru;obtain⟨t1,_⟩:=xw I hd;exact KW MW I.kIn t1 e (fun z=>nomatch z) fun tk=>⟨.bl b,H,I.tok tk,rfl,q⟩
theorem pE {T:Str} {T':String} {e:Expr} {fa:En->Res R} {p q pos:Pos} (hK:ym T') (hg:Gl X "isinstance") (hm:X.mg "isinstance"=none) (hgT:Gl X T) (hmT:X.mg T=none) (hvT:bootBuiltins T=some (.type T')) (ha:PD X E e fa)
 (hnT:autoParam (T≠"__name__") Nk._auto_1) (hdT:autoParam ((T==("__debug__" : Str))=false) Nk._auto_1)
 (he:autoParam (starEach [e,.Name T q] X.env=(false,eval e X.env)::starEach [.Name T q] X.env) Nq._auto_1) (he2:autoParam (starEach [.Name T q] X.env=(false,eval (.Name T q) X.env)::starEach [] X.env) Nq._auto_1) (hpl:autoParam ((backTo pos (starEach [.Name T q] X.env)).any (·.1)=false) Nq._auto_1) :
 PD X E (.Call (.Name "isinstance" p) [e,.Name T q] [] pos) (wv T' fa):=by
 obtain⟨ta,p1,s1⟩:=ha;refine⟨_,lj yo hg hm (by decide +kernel) (aI p1 (aI (Ax hgT hmT hvT (v:=.ty T') rfl hnT hdT) bK he2) he) (by decide) (by decide) he hpl,fun g M ρ env σ H Q rep p=>s1.oneE rep p fun r v M1 H1 e1 rep1 is q=>?_⟩;exact⟨v,T',_,_,rfl,is.ty,hK X.K r.d,q _ M1 H1 (Ext.refl _ _) rep1 rfl⟩
def kh (i:Nat)(fk fv:En->Res R):En->Res Fl:=fun env=>match gk env i with
 |some (ds,fr)=>(fv env).bind fun r=>(fk env).bind fun k=>match k.d with
  | .int z=>match qA ds.length z with
   |some j=>if ¬ i∈r.al then .ok (.nx ((frz env r.al).set i (some (.own (ds.set j r.d) (fr&&r.fr))))) else .stuck
   |none=>.stuck
  |_=>.stuck
 |none=>.stuck
theorem fC {i:Nat}{o k v:Expr}{fk fv:En->Res R}{gq pos:Pos}(ho:PE X o (di i))(hk:PD X E k fk)(hv:PD X E v fv)
 (ha:autoParam (∀ v,assign (.Subscript o k gq) X.env v=(do
   let ov <- holding [v] (eval o X.env)
   let iv <- holding [v,ov] (eval k X.env)
   standAt gq
   holding [v,ov,iv] (setItem ov iv v)
   release [v,ov,iv] [])) Nn._auto_1)
 (hs:autoParam (swapsWithSole [.Subscript o k gq] v pos.line X.env=pure false) Nq._auto_1) (hw:autoParam (swappedStores [.Subscript o k gq] v X.env=pure none) Nq._auto_1)
 (h1:autoParam ((assignEach [.Subscript o k gq] X.env).map (·.2)=[assign (.Subscript o k gq) X.env]) Nq._auto_1):ju X E (.Assign [.Subscript o k gq] v pos) (kh i fk fv):=by
 obtain⟨tk,p1,s1⟩:=hk;obtain⟨tv,p2,s2⟩:=hv;refine⟨_,Dw p2 (Dv ho p1 xq ha) hs hw h1,fun g M ρ env σ H D rep p=>?_⟩;unfold kh at p;cases e1:gk env i with
 |none=>rw[e1]at p;exact p.elim
 |some q=>
  obtain⟨ds,fr⟩:=q;rw[e1]at p;dsimp only at p;obtain⟨M0,ρ0,l,vs,m0,rep0,ev,k1,k2,k4,hi,_⟩:=rep.toOwn e1;refine s2.oneS rep p fun r y M' H' e rep' ro p'=>?_;obtain⟨M1,x1,x1m,rep1,is1⟩:=ro.is rep' e rep.same;refine⟨_,ev,s1.oneS (D:=D) rep1 (PostS.frz ⟨x1m,fun _ _ q _=>q⟩ p') fun rk yk M5 H5 e5 rep5 rok p5=>?_⟩;obtain⟨M6,x6,x6m,rep6,is6⟩:=rok.is rep5 e5 rep1.same;cases z:rk.d with
  |int iz=>
   rw[z]at is6;simp only[z]at p5;cases is6;cases zj:qA ds.length iz with
   |none=>simp only[zj]at p5;exact p5.elim
   |some j=>
    simp only[zj]at p5;by_cases hc:¬ i∈r.al
    .rw[JW hc]at p5;have is1':Is H5 (vmsk g M6 r.fr ρ r.al) r.d y:=(is1.ext e5).weak fun a z=>z.mono x6m;obtain⟨M2,ρ2,x2,rep2,o2,k5,k6⟩:=Rep.frz r.al rep6;have is2:Is H5 (msk g M2 r.fr) r.d y:=Is.frozen rep6 x2 o2 is1';have e2:gk (frz env r.al) i=some (ds,fr):=by unfold gk;rw[pB _ hc];exact e1
     obtain⟨M3,ρ3,l3,vs3,m3,rep3,ev3,j1,j2,j4,hi3,_⟩:=rep2.toOwn e2;rw[ev]at ev3;cases ev3;have hl:H5 l=some (.lst vs):=e5.h _ _ (e.h _ _ k1);rw[hl]at j1;cases j1;have pl:ρ3 i l:=(j2 l).mpr rfl;obtain⟨nl3,_⟩:=rep3.priv i l pl;have is4:IsAll H5 (msk g M3 (fr&&r.fr)) (ds.set j r.d) (vs.set j y):=IsAll.set j (IsAll.weak (fun b z=>⟨z.1,fun q=>z.2 (by cases fr<;>simp_all)⟩) j4) (Is.weak (fun b z=>⟨m3 b z.1,fun q=>z.2 (by cases fr<;>simp_all)⟩) is2);have kp:∀ b u,H5 b=some u->(msk g M3 (fr&&r.fr) b\/fixd u)->ay H5 l (.lst (vs.set j y)) b=some u:=fun b u q z=>by
      rw[af]
      .exact q
      .rintro rfl;rcases z with z|z
       .exact nl3 z.1
       .rw[hl]at q;cases q;exact z
     obtain⟨f1,rep4⟩:=rep3.write (sl:=.own (ds.set j r.d) (fr&&r.fr)) (vs':=vs.set j y) pl (by rw[KE];exact hi3) ev ⟨l,vs.set j y,rfl,ai,j2,IsAll.mono kp (fun _ _ _ z=>z) is4⟩;rw[List.set_set]at rep4;refine⟨l,vs,iz,j,rfl,rfl,hl,by rw[k4.length];exact zj,?_⟩;exact p5 σ M3 ρ3 _ (Frz.trans ⟨fun a z=>m3 a (x2 a (x6m a z)),fun _ _ q _=>q⟩ f1) rep4
    .rw[J0 hc]at p5;exact p5.elim
  |_=>simp only[z]at p5;exact p5.elim
mutual
theorem Is.sh {H:Hp}{m:Addr->Prop}(hp:∀ a,m a->Mu H a):∀{d:D}{v:V},Is H m d v->IsSh H m d v
 | .non,_,_=>True.intro
 | .bl _,_,_=>True.intro
 | .int _,_,_=>True.intro
 | .str _,_,_=>True.intro
 | .tup ds,_,h=>by obtain⟨a,vs,e,h1,h2⟩:=h;exact⟨a,vs,e,h1,IsAll.sh hp h2⟩
 | .lst ds,_,h=>by
  obtain⟨a,vs,e,h1,h2⟩:=h;rcases h1 with⟨h1,h3⟩|⟨o,h1,h3⟩
  .exact⟨a,vs,e,h1,h3⟩
  .obtain⟨uo,z,zm⟩:=hp a h3;rw[h1]at z;cases z;exact zm.elim
 | .dic _ _,_,_=>True.intro
theorem IsAll.sh {H:Hp}{m:Addr->Prop}(hp:∀ a,m a->Mu H a):∀{ds:List D}{vs:List V},IsAll H m ds vs->IsShs H m ds vs
 | [],_,_=>True.intro
 |d::ds,_,h=>by obtain⟨v,r,e,h1,h2⟩:=h;exact⟨v,r,e,Is.sh hp h1,IsAll.sh hp h2⟩
end
theorem IsShs.get {H:Hp}{m:Addr->Prop}:∀{ds:List D}{vs:List V}{j:Nat}{d:D},IsShs H m ds vs->ds[j]?=some d->∃ v,vs[j]?=some v/\IsSh H m d v
 | [],_,_,_,_,e=>by simp at e
 |d::ds,_,0,_,h,e=>by obtain⟨v,r,rfl,h1,h2⟩:=h;simp at e;subst e;exact⟨v,rfl,h1⟩
 |d::ds,_,j+1,_,h,e=>by obtain⟨v,r,rfl,h1,h2⟩:=h;obtain⟨w,a,b⟩:=IsShs.get (j:=j) h2 (by simpa using e);exact⟨w,by simpa using a,b⟩
def lU (d:D)(j:Nat):Option Nat:=match d with
 | .tup ds=>match ds[j]? with
  |some (.lst es)=>some es.length
  |_=>none
 |_=>none
def rJ (i j:Nat)(f:En->Res R):En->Res Fl:=fun env=>match env[i]? with
 |some (some (.tre d))=>match lU d j with
  |some n=>if n<lim then (f env).bind fun r=>if r.d.flat then .ok (.nx (env.set i (some (.mes d)))) else .stuck else .stuck
  |none=>.stuck
 |_=>.stuck
theorem yp {H:Hp}{m:Addr->Prop}{d:D}{v:V}{j n:Nat}(hp:∀ a,m a->Mu H a)(h:Is H m d v)(e:lU d j=some n):∃ a vs l ws,v=.ref a/\H a=some (.tup vs)/\vs[j]?=some (.ref l)/\H l=some (.lst ws)/\m l/\ws.length=n:=by
 unfold lU at e;cases d with
 |tup ds=>
  obtain⟨a,vs,rfl,h1,h2⟩:=h;dsimp only at e;cases q:ds[j]? with
  |none=>rw[q]at e;cases e
  |some d'=>
   obtain⟨w,ew,iw⟩:=h2.get q;rw[q]at e;cases d' with
   |lst es=>
    cases e;obtain⟨l,ws,rfl,h3,h4⟩:=iw;rcases h3 with⟨h3,h5⟩|⟨o,h3,h5⟩
    .exact⟨a,vs,l,ws,rfl,h1,ew,h3,h5,h4.length⟩
    .obtain⟨uo,z,zm⟩:=hp l h5;rw[h3]at z;cases z;exact zm.elim
   |_=>cases e
 |_=>cases e
theorem ww {H:Hp}{m:Addr->Prop}{d:D}{v:V}{l:Addr}{ws ws':List V}(hl:H l=some (.lst ws))(h:IsSh H m d v):IsSh (ay H l (.lst ws')) m d v:=by
 refine IsSh.mono (fun a o e z=>?_) (fun a vs _ e=>?_) (fun _ z=>z) h
 .rw[af]
  .exact e
  .rintro rfl;rw[hl]at e;cases e;exact z
 .by_cases ha:a=l
  .exact⟨ws',by rw[ha,ai]⟩
  .exact⟨vs,by rw[af ha];exact e⟩
theorem yq {i j c:Nat}{a e:Expr}{f:En->Res R}{kpos spos apos cpos pos:Pos}(ha:PE X a (di i))(hs:oQ (.Constant (.int (j:Nat)) c kpos))(h:PD X E e f)
 (hbase:autoParam (attributeBase (.Subscript a (.Constant (.int (j:Nat)) c kpos) spos) "append" X.env (eval (.Subscript a (.Constant (.int (j:Nat)) c kpos) spos) X.env)=eval (.Subscript a (.Constant (.int (j:Nat)) c kpos) spos) X.env) Nq._auto_1)
 (hfew:autoParam (((backTo cpos (starEach [e] X.env)).all (fun x=>!x.1)&&(backToKw cpos (keywordEach [] X.env)).all (fun x=>x.1.isSome)
   && decide (([e]:List Expr).length+([]:List Keyword).length+(if ([]:List Keyword).isEmpty then 0 else 1)<30))=true) Nq._auto_1)
 (hline:autoParam ((apos.endLine==cpos.line)=true) Nq._auto_1) (hse:autoParam (starEach [e] X.env=(false,eval e X.env)::starEach [] X.env) Nq._auto_1) (hplain:autoParam ((backTo cpos (starEach [] X.env)).any (·.1)=false) Nq._auto_1)
 (hsw:autoParam (swapsWith (.Call (.Attribute (.Subscript a (.Constant (.int (j:Nat)) c kpos) spos) "append" apos) [e] [] cpos) none pos.line X.env=pure false) Nq._auto_1) :
 ju X E (.Expr (.Call (.Attribute (.Subscript a (.Constant (.int (j:Nat)) c kpos) spos) "append" apos) [e] [] cpos) pos) (rJ i j f):=by
 obtain⟨t,p1,s1⟩:=h;refine⟨_,kJ (iI LL Mk Ml gX (CA ix_tup ha w_ hs) (aI p1 bK hse) hbase hfew hline hse hplain) hsw,fun g M ρ env σ H D rep p=>?_⟩;unfold rJ at p;cases e1:env[i]? with
 |none=>rw[e1]at p;exact p.elim
 |some o=>
  cases o with
  |none=>rw[e1]at p;exact p.elim
  |some sl=>
   cases sl with
   |val d f=>rw[e1]at p;exact p.elim
   |own d f=>rw[e1]at p;exact p.elim
   |mes d=>rw[e1]at p;exact p.elim
   |pin d=>rw[e1]at p;exact p.elim
   |dis d=>rw[e1]at p;exact p.elim
   |fix n q0=>rw[e1]at p;exact p.elim
   |kon a=>rw[e1]at p;exact p.elim
   |tre d=>
    rw[e1]at p;dsimp only at p;have hi:i<env.length:=(JY.mp e1).1;obtain⟨v,ev,k⟩:=rep.slot i _ e1;have k:Is H (ρ i) d v:=k;cases e2:lU d j with
    |none=>rw[e2]at p;exact p.elim
    |some n=>
     rw[e2]at p;dsimp only at p;by_cases hn:n<lim
     .rw[JW hn]at p;have hp:∀ a,ρ i a->Mu H a:=fun a z=>(rep.priv i a z).2.2;obtain⟨b,vs,l,ws,rfl,h1,h2,h3,h4,h5⟩:=yp hp k e2;have sh:=Is.sh hp k;refine⟨_,ev,b,vs,j,.ref l,rfl,rfl,SqT.of h1,AH h2,.inl ⟨rfl,ws,SqL.of h3⟩,s1.oneS rep p fun r y M' H' e rep' ro p'=>?_⟩;by_cases hf:r.d.flat=true
      .rw[JW hf]at p';have h3':=e.h _ _ h3;have sh':IsSh H' (ρ i) d (.ref b):=IsSh.mono (fun a o q _=>e.h a o q) (fun a vs _ q=>⟨vs,e.h _ _ q⟩) (fun _ z=>z) sh;obtain⟨f1,rep2⟩:=rep'.write (sl:=.mes d) (vs':=ws++[y]) h4 hi ev (ww h3' sh');exact⟨l,ws,y,rfl,rfl,h3',by rw[h5];exact gx hn,p' σ M' ρ _ f1 rep2⟩
      .rw[J0 hf]at p';exact p'.elim
     .rw[J0 hn]at p;exact p.elim
end
section
variable {X:Cx}{E:XK}{es:List Expr}{k:Nat}{gq:Pos}
end
noncomputable def JA (osc:Scope)(N:List Str)(scope:Scope)(tN capN:List Str)(caps:List Nat):Bool:=
 (scope.kind==.function)&&scope.names.all (fun y=>y.2 != .cell)&&scope.names.all (fun y=>y.2 != .local || scope.names.lookup y.1==some .local)&&tN.all (fun x=>scope.names.lookup x==some .local) &&
 scope.names.all (fun y=>y.2 != .free || (osc.names.lookup y.1==some .cell || osc.names.lookup y.1==some .free))&&(capN.zip caps).all (fun p=>N[p.2]?==some p.1)&&(caps.length==capN.length) &&
 capN.all (fun y=>osc.names.lookup y==some .cell || osc.names.lookup y==some .free)&&capN.all (fun y=>scope.names.lookup y==some .free)&&decide (tN++capN).Nodup
theorem CScope.of {X:Cx}{osc:Scope}{N:List Str}{scope:Scope}{tN capN:List Str}{caps:List Nat}(h1:X.env.scope=osc)(h2:X.N=N)(h3:JA osc N scope tN capN caps=true):CScope X scope tN capN caps:=by
 unfold JA at h3;simp only[Kh,KJ,MM,LP,bne_iff_ne,LG,ne_eq]at h3;obtain⟨⟨⟨⟨⟨⟨⟨⟨⟨a1,a2⟩,a3⟩,a4⟩,a5⟩,a6⟩,a7⟩,a8⟩,a9⟩,a10⟩:=h3;subst h1 h2;refine⟨a1,a2,fun y hy hl=>(a3 y hy).resolve_left fun z=>z hl,a4,fun y hy hf=>(a5 y hy).resolve_left fun z=>z hf,⟨fun k y e=>?_,a8,a9,a7⟩,a10⟩;have hk:k<capN.length:=(JY.mp e).1;have hk2:k<caps.length:=by omega
 refine⟨caps[k],by simp[hk2],?_⟩;have hm:(y,caps[k])∈capN.zip caps:=by
  have:(capN.zip caps)[k]?=some (y,caps[k]):=by rw[L7];exact⟨e,by simp[hk2]⟩
  exact KM this
 exact a6 _ hm
structure Fn (K:Ng) (mg:Str->Option Ni) (x:Str) (st:Stmt) (ps:List Str) (f:Addr) (fd:FuncData):Prop where
 fu:Fun K x x st f fd
 bi:Binds K fd ps []
 gl:mg x=some (.ref f)
section
variable {X:Cx}{E:XK}
end
def Iv (F:List D->Res R):Sp:=fun vs H Q _=>vs.length=1/\∃ ds Ma r,IsAll H Ma ds vs/\F ds=.ok r/\∀ v H',Same H H'->RetOk (GP H Ma) H' v r->Q v H'
theorem lV {H:Hp}{m:Addr->Prop}:∀ ns:List Int,IsAll H m (ns.map D.int) (ns.map V.int)
 | []=>rfl
 |n::r=>⟨.int n,r.map V.int,rfl,rfl,lV r⟩
theorem Ei {F:List D->Res R}(hF:∀ ns:List Int,ns.length<=63->∃ f al,F [.lst (ns.map .int)]=.ok (.val (.bl true) f al))(H:Hp)(a:Addr)(ns:List Int)(hl:ns.length<=63)(hS:∃ o,H a=some (.frz o (.lst (ns.map V.int)))) :
 Iv F [.ref a] H (fun v _=>v=.bl true) fun _ _ _=>False:=by
 obtain⟨f,al,e⟩:=hF ns hl;obtain⟨o,hS⟩:=hS;exact⟨rfl,[.lst (ns.map .int)],fun b=>b=a,_,⟨_,[],rfl,⟨a,ns.map V.int,rfl,.inr ⟨o,hS,rfl⟩,lV ns⟩,rfl⟩,e,fun v H' _ h=>h⟩
section
variable {P:Nh}{w:World}{K:Ng}{mg:Str->Option Ni}{base:Heap}
theorem FnOk.top {CX:CXT}{k:Nat}{f:Addr}{fd:FuncData}{ps:List Str}{F:List D->Res R}(h:FnOk P w K mg base CX k f fd ps (rC mg 1 F)):FnOk P w K mg base CX k f fd ps (Iv F):=h.imp fun vs H Q E ⟨hl,ds,Ma,r,is,e,q⟩=>⟨hl,ds,Ma,is,by rw[e];exact q⟩
end
section
variable {P:Nh}{w:World}{K:Ng}{mg:Str->Option Ni}{base:Heap}{N:List Str}{qual:Str}{scope:Scope}{f:Addr}{cd:Ni}{A:Nj}{outer:List Env}{s₀:Nf}{H₀:Hp}{E:XK}
end
section
variable {X:Cx}{E:XK}{hc:Str}{Ch:Addr}{cs:List Str}{np hpos pos epos p cpos:Pos}{b₀:Stmt}{suite:List Stmt}{fsu:En->Res Fl}{k:Nat}{f:Addr}{fd:FuncData}{ps:List Str}{F:List D->Res R}{x:Str}{e:Expr}{es:List Expr}{fs:En->Res (List R)}
end
section
variable {h:Heap}{z TI TO i1 i2 a b:Addr}{i:Nat}{its its2:Array Ni}
end
section
variable {X:Cx}{E:XK}{es:List Expr}{k:Nat}{gq:Pos}
end
section
variable {X:Cx}{E:XK}
def Ej (fa:En->Res R):En->Res Bool:=fun env=>(fa env).bind fun ra=>.ok ra.d.isNon
def nI (fa:En->Res R):En->Res Bool:=fun env=>(fa env).bind fun ra=>.ok (!ra.d.isNon)
theorem Ba {a:Expr}{fa:En->Res R}{pos pos':Pos}{j:Nat}(ha:PD X E a fa):rA X E (.Compare a [.Is] [.Constant .none j pos'] pos) (Ej fa):=A2 ha
theorem rK {a:Expr}{fa:En->Res R}{pos pos':Pos}{j:Nat}(ha:PD X E a fa):rA X E (.Compare a [.IsNot] [.Constant .none j pos'] pos) (nI fa):=ya ha
open Classical in
def bY (H:Hp)(m:Addr->Prop)(x:D)(u:Ni):Bool:=decide (∃ d v,RelV v u/\Is H m d v/\eB d x=true)
theorem nJ {H:Hp}{m:Addr->Prop}{x d:D}{v:V}{u:Ni}(r:RelV v u)(h:Is H m d v):bY H m x u=eB d x:=by
 unfold bY;cases q:eB d x with
 |true=>exact @Kk _ (Classical.propDecidable _) ⟨d,v,r,h,q⟩
 |false=>refine @Kr _ (Classical.propDecidable _) fun⟨d',v',r',h',q'⟩=>?_;have e:=L2.RelV.inj r r';subst e;have e:=Is.inj h h';subst e;rw[q]at q';cases q'
theorem fD {H:Hp}{m:Addr->Prop}{x:D}:∀{ds:List D}{vs:List V}{us:List Ni},IsAll H m ds vs->Vals vs us->us.any (bY H m x)=ds.any fun d=>eB d x
 | [],_,_,h,r=>by cases h;cases r;rfl
 |d::ds,_,_,h,r=>by
  obtain⟨v,w,rfl,h1,h2⟩:=h;cases r with
  |cons r1 r2=>rw[Lf,Lf,nJ r1 h1,fD h2 r2]
def Ek (neg:Bool)(K:Ng):R2:=fun x y H Q=>∃ p ds vs d m m',y=.ref p/\(SqL K H p vs\/SqT K H p vs)/\IsAll H m ds vs/\Is H m' d x/\(D.deps ds<=50/\d.dep<=50)/\Q (.bl (if neg then !(ds.any fun e=>eB e d) else ds.any fun e=>eB e d)) H
theorem fE {pins:List (Addr×Obj)}{σ:St}{H:Hp}{s:Nf}{m m':Addr->Prop}{d:D}{x:V}{v:Ni}{A:Nj}(I:L2.Inv X pins σ H s)(hu:A.units+50<cLine)(hx:Is H m' d x)(hE:d.dep<=50)(rx:RelV x v) :
 ∀{ds:List D}{vs:List V}{us:List Ni},IsAll H m ds vs->Vals vs us->D.deps ds<=50->∀ u∈us,SeqAt.EqAt A s u v (bY H m d u)
 | [],_,_,h,r,_=>fun u hu=>by cases h;cases r;cases hu
 |e::ds,_,_,h,r,hd=>fun u hm=>by
  obtain⟨y,w,rfl,h1,h2⟩:=h;have hd':max e.dep (D.deps ds)<=50:=hd;cases r with
  |cons r1 r2=>
   rcases J5.mp hm with rfl|hm
   .rw[nJ r1 h1];exact xY I.hok 50 A hu (by omega) (by omega) (by omega) h1 hx r1 rx
   .exact fE I hu hx hE rx h2 r2 (by omega) u hm
theorem El (hu:X.A.units+64<cLine):OpR X (compareOp .In) (Ek false X.K):=by
 intro pins s σ H x y v u Q I rx ry h;obtain⟨p,ds,vs,d,m,m',rfl,hq,hi,hx,hd,q⟩:=h;cases ry;rcases hq with hq|hq
 .obtain⟨its,r,pl,hz⟩:=I.list hq;refine SeqAt.in_listAt (bY H m d) pl.isList (fun w hw=>fE I (by show X.A.units+1+50<cLine;omega) hx hd.2 rx hi r hd.1 w (by simpa using hw)) ⟨.bl _,H,I,rfl,?_⟩;rw[show its.toArray.any (bY H m d)=its.any (bY H m d) by simp,fD hi r];exact q
 .obtain⟨its,r,pl,hz⟩:=I.tuple hq;refine SeqAt.in_tupleAt (bY H m d) pl (fun w hw=>fE I (by show X.A.units+1+50<cLine;omega) hx hd.2 rx hi r hd.1 w (by simpa using hw)) ⟨.bl _,H,I,rfl,?_⟩;rw[show its.toArray.any (bY H m d)=its.any (bY H m d) by simp,fD hi r];exact q
theorem wx (hu:X.A.units+64<cLine):OpR X (compareOp .NotIn) (Ek true X.K):=by
 intro pins s σ H x y v u Q I rx ry h;obtain⟨p,ds,vs,d,m,m',rfl,hq,hi,hx,hd,q⟩:=h;cases ry;rcases hq with hq|hq
 .obtain⟨its,r,pl,hz⟩:=I.list hq;refine SeqAt.notIn_listAt (bY H m d) pl.isList (fun w hw=>fE I (by show X.A.units+1+50<cLine;omega) hx hd.2 rx hi r hd.1 w (by simpa using hw)) ⟨.bl _,H,I,rfl,?_⟩;rw[show its.toArray.any (bY H m d)=its.any (bY H m d) by simp,fD hi r];exact q
 .obtain⟨its,r,pl,hz⟩:=I.tuple hq;refine SeqAt.notIn_tupleAt (bY H m d) pl (fun w hw=>fE I (by show X.A.units+1+50<cLine;omega) hx hd.2 rx hi r hd.1 w (by simpa using hw)) ⟨.bl _,H,I,rfl,?_⟩;rw[show its.toArray.any (bY H m d)=its.any (bY H m d) by simp,fD hi r];exact q
def Gb (neg:Bool)(x:D)(ds:List D):Res R:=if D.deps ds<=50/\x.dep<=50 then .ok (.val (.bl (if neg then !(ds.any fun e=>eB e x) else ds.any fun e=>eB e x)) true []) else .stuck
def t8 (neg:Bool)(a b:R):Res R:=match b.d with
 | .lst ds=>Gb neg a.d ds
 | .tup ds=>Gb neg a.d ds
 |_=>.stuck
def JJ:R->R->Res R:=t8 false
def Em:R->R->Res R:=t8 true
theorem yr {neg:Bool}{f:Ni->Ni->Sem Ni}(h:OpR X f (Ek neg X.K)):ke X E f (t8 neg):=by
 refine⟨_,h,fun g M ρ env σ H Q ra rb x y rep i1 i2 p=>?_⟩;unfold t8 at p;have key:∀ ds,PostE X.mg E g M ρ env σ H Q (Gb neg ra.d ds)->(D.deps ds<=50/\ra.d.dep<=50)/\Q (.bl (if neg then !(ds.any fun e=>eB e ra.d) else ds.any fun e=>eB e ra.d)) H:=fun ds p=>by
  unfold Gb at p;by_cases hd:D.deps ds<=50/\ra.d.dep<=50
  .rw[JW hd]at p;exact⟨hd,p _ M H (Ext.refl _ _) rep rfl⟩
  .rw[J0 hd]at p;exact p.elim
 cases e2:rb.d with
 |lst ds=>rw[e2]at p i2;obtain⟨a,vs,rfl,h1,h2⟩:=i2.rd;obtain⟨k1,k2⟩:=key ds p;exact⟨a,ds,vs,ra.d,_,_,rfl,.inl (.inl h1),h2,i1,k1,k2⟩
 |tup ds=>rw[e2]at p i2;obtain⟨a,vs,rfl,h1,h2⟩:=i2;obtain⟨k1,k2⟩:=key ds p;exact⟨a,ds,vs,ra.d,_,_,rfl,.inr (SqT.of h1),h2,i1,k1,k2⟩
 |_=>rw[e2]at p;exact p.elim
theorem GZ (hu:X.A.units+64<cLine):ke X E (compareOp .In) JJ:=yr (El hu)
theorem yt (hu:X.A.units+64<cLine):ke X E (compareOp .NotIn) Em:=yr (wx hu)
end
end L3
namespace L2
open PySem PySem.Spec PySem.Calls PyProof.Rows
section
variable {K:Ng}{x C:Addr}{c:Ni}
end
section
variable {X:Cx}{pins:List (Addr×Obj)}{σ:St}{H:Hp}{s:Nf}{x:Addr}{o:Obj}
end
section
variable {X:Cx}{hc:Str}{Ch:Addr}{np hpos pos epos:Pos}{b₀:Stmt}{suite:List Stmt}{ts:Addr->Addr->TS}{te:TX}{e:Expr}{i:Nat}{n:Str}
end
section
variable {X:Cx}{i iw:Nat}{n y b1 b2:Str}{s1 s2:Str}{py p1 p2 p3 p4 p5 p6 p7 p8 p9 p10 p11 p12 p13 p14 p15 lp:Pos}{j1 j2}{T1:String}{Ch2:Addr}
end
end L2
namespace L3
open PySem PySem.Spec PyProof.Rows L2
section
variable {X:Cx}{E:XK}{i iw:Nat}{n y b1 b2:Str}{s1 s2:Str}{py p1 p2 p3 p4 p5 p6 p7 p8 p9 p10 p11 p12 p13 p14 p15 lp:Pos}{j1 j2}{T1:String}{Ch2:Addr}
variable {hc:Str}{Ch:Addr}{cs:List Str}{np hpos pos epos p cpos:Pos}{k:Nat}{f:Addr}{fd:FuncData}{ps:List Str}{F:List D->Res R}{x:Str}{e:Expr}{es:List Expr}{fs:En->Res (List R)}
end
noncomputable def yu:D->Option Key
 | .int i=>some (.inl i)
 | .str x=>some (.inr x)
 |_=>none
def kj:List D->Option (List Key)
 | []=>some []
 |d::ds=>match yu d,kj ds with
  |some k,some ks=>some (k::ks)
  |_,_=>none
def keyT:D->Option (List Key)
 | .tup ds=>kj ds
 |_=>none
def yw:D->Option (List Key×D)
 | .tup [k,v]=>(keyT k).map fun ks=>(ks,v)
 |_=>none
def jH:List D->Option (List (List Key×D))
 | []=>some []
 |d::ds=>match yw d,jH ds with
  |some p,some ps=>some (p::ps)
  |_,_=>none
def yx (t:List (List Key×D))(k:List Key)(d:D):List (List Key×D):=if (t.any fun x=>decide (x.1=k))=true then t.map (fun x=>if x.1=k then (x.1,d) else x) else t++[(k,d)]
def rL (t ps:List (List Key×D)):List (List Key×D):=ps.foldl (fun t x=>yx t x.1 x.2) t
def G0 (ps:List (List Key×D)):D:=.dic ((rL [] ps).map fun p=>.inr p.1) ((rL [] ps).map Prod.snd)
def yz:List R->Res R
 | [r]=>match r.d with
  | .lst ds=>match jH ds with
   |some ps=>if D.flats ((rL [] ps).map Prod.snd) then .ok (.fre (G0 ps)) else .stuck
   |none=>.stuck
  |_=>.stuck
 |_=>.stuck
section
variable {H:Hp}{m:Addr->Prop}
theorem Is.key {d:D}{v:V}{k:Key}(h:Is H m d v)(e:yu d=some k):v=kV k:=by
 cases d with
 |int i=>cases e;exact h
 |str x=>cases e;exact h
 |_=>cases e
theorem IsAll.keys:∀{ds:List D}{vs:List V}{ks:List Key},IsAll H m ds vs->kj ds=some ks->vs=ks.map kV
 | [],_,_,h,e=>by cases h;cases e;rfl
 |d::ds,_,ks,h,e=>by
  obtain⟨v,r,rfl,h1,h2⟩:=h;unfold kj at e;cases q:yu d with
  |none=>rw[q]at e;cases e
  |some k=>
   cases q2:kj ds with
   |none=>rw[q,q2]at e;cases e
   |some ks'=>rw[q,q2]at e;cases e;rw[h1.key q,IsAll.keys h2 q2];rfl
theorem Is.keyT {d:D}{v:V}{k:List Key}(h:Is H m d v)(e:L3.keyT d=some k):∃ b,v=.ref b/\H b=some (.tup (k.map kV)):=by
 cases d with
 |tup ds=>obtain⟨a,vs,rfl,h1,h2⟩:=h;have e:kj ds=some k:=e;rw[IsAll.keys h2 e]at h1;exact⟨a,rfl,h1⟩
 |_=>cases e
def RKV (H:Hp)(m:Addr->Prop):List (List Key×V)->List (List Key×D)->Prop:=Paired fun a b=>a.1=b.1/\Is H m b.2 a.2
theorem RKV.fst {a:List (List Key×V)}{b:List (List Key×D)}(r:RKV H m a b):a.map Prod.fst=b.map Prod.fst:=by
 induction r with
 |nil=>rfl
 |cons h _ ih=>rw[J4,J4,ih,h.1]
theorem RKV.snd {a:List (List Key×V)}{b:List (List Key×D)}(r:RKV H m a b):IsAll H m (b.map Prod.snd) (a.map Prod.snd):=by
 induction r with
 |nil=>rfl
 |cons h _ ih=>exact⟨_,_,rfl,h.2,ih⟩
theorem RKV.append {a c:List (List Key×V)}{b d:List (List Key×D)}(r:RKV H m a b)(s:RKV H m c d):RKV H m (a++c) (b++d):=by
 induction r with
 |nil=>exact s
 |cons h _ ih=>exact .cons h ih
theorem RKV.any {a:List (List Key×V)}{b:List (List Key×D)}(r:RKV H m a b)(k:List Key):(a.any fun x=>decide (x.1=k))=(b.any fun x=>decide (x.1=k)):=by
 induction r with
 |nil=>rfl
 |cons h _ ih=>rw[Lf,Lf,ih,h.1]
theorem RKV.repl {a:List (List Key×V)}{b:List (List Key×D)}{k:List Key}{v:V}{d:D}(r:RKV H m a b)(h:Is H m d v):RKV H m (a.map fun x=>if x.1=k then (x.1,v) else x) (b.map fun x=>if x.1=k then (x.1,d) else x):=by
 induction r with
 |nil=>exact .nil
 | @cons p q ps qs hq t ih=>
  refine .cons ?_ ih;dsimp only;by_cases e:p.1=k
  .rw[JW e,JW (hq.1▸e)];exact⟨hq.1,h⟩
  .rw[J0 e,J0 (fun z=>e (hq.1.trans z))];exact hq
theorem RKV.put {a:List (List Key×V)}{b:List (List Key×D)}{k:List Key}{v:V}{d:D}(r:RKV H m a b)(h:Is H m d v):RKV H m (bq a k v) (yx b k d):=by
 unfold bq yx;rw[r.any k];split
 .exact r.repl h
 .exact r.append (.cons ⟨rfl,h⟩ .nil)
theorem rM:∀{ds:List D}{vs:List V}{ps:List (List Key×D)},IsAll H m ds vs->jH ds=some ps->∃ kvs,oT H vs kvs/\∀ a b,RKV H m a b->RKV H m (gu a kvs) (rL b ps)
 | [],_,_,h,e=>by cases h;cases e;exact⟨[],.nil,fun a b r=>r⟩
 |d::ds,_,ps,h,e=>by
  obtain⟨v,r,rfl,h1,h2⟩:=h;unfold jH at e;cases q:yw d with
  |none=>rw[q]at e;cases e
  |some p=>
   cases q2:jH ds with
   |none=>rw[q,q2]at e;cases e
   |some ps'=>
    rw[q,q2]at e;cases e;obtain⟨kvs,k1,k2⟩:=rM h2 q2;unfold yw at q;split at q
    .rename_i kd vd;obtain⟨a,vs2,rfl,g1,g2⟩:=h1;obtain⟨y1,r1,rfl,i1,y2,r2,rfl,i2,i3⟩:=g2;cases i3;cases q3:keyT kd with
     |none=>rw[q3]at q;cases q
     |some kk=>rw[q3]at q;cases q;obtain⟨ka,rfl,hka⟩:=i1.keyT q3;exact⟨(kk,y2)::kvs,.cons ⟨a,ka,rfl,g1,hka⟩ k1,fun a b r=>k2 _ _ (r.put i2)⟩
    .cases q
end
section
variable {X:Cx}{E:XK}
theorem pF {g:Gd}{M:Addr->Prop}{ρ:Pr}{env:En}{σ:St}{H H':Hp}{b:Addr}{d:D}(rep:Rep g M ρ env σ H)(hb:H b=none)(is:Is H' (fun a=>a=b) d (.ref b))(mu:Mu H' b):ROk g M ρ H H' (.ref b) (.fre d):=by obtain⟨h0,hm,ho⟩:=rep.free hb;exact⟨fun a=>a=b,fun a e=>by subst e;exact⟨hm,hb,mu,ho⟩,is⟩
theorem eJ {pos:Pos}:PD X E (.Dict [] [] pos) (fun _=>.ok (.fre (.dic [] []))):=by refine⟨_,ff,fun g M ρ env σ H Q rep p b hb=>?_⟩;have s:Same H (ay H b (.dK [])):=aV hb;exact p _ M _ ⟨fun _ z=>z,s,fun _ z=>.inl z⟩ (rep.grow s) (pF rep hb ⟨b,[],rfl,⟨.inl ⟨[],.inl ai,rfl,rfl⟩,rfl⟩,rfl⟩ ⟨_,ai,True.intro⟩)
theorem Bb (hc:X.calm=true) (hu:X.A.units+64<cLine):lP X E (.type "dict") yz:=by
 refine⟨_,tq hc hu,fun g M ρ env σ H Q rs vs rep i p=>?_⟩
 match rs,i,p with
 | [r],i,p=>
  obtain⟨v,w,rfl,i1,i2⟩:=i;cases i2;have i1:Is H (vmsk g M (a_ [r]) ρ (bc [r])) r.d v:=i1;replace i1:=i1.weak fun _ z=>pz z;unfold yz at p;dsimp only at p;cases q:r.d with
  |lst ds=>
   rw[q]at p i1;dsimp only at p;cases q2:jH ds with
   |none=>rw[q2]at p;exact p.elim
   |some ps=>
    rw[q2]at p;obtain⟨a,ws,rfl,h1,h2⟩:=i1.rd;obtain⟨kvs,k1,k2⟩:=rM h2 q2;refine⟨a,ws,kvs,rfl,h1,k1,fun b hb=>?_⟩;have rk:=k2 [] [] .nil;have s:Same H (ay H b (.dT (gu [] kvs))):=aV hb;dsimp only at p;by_cases hf:D.flats ((rL [] ps).map Prod.snd)=true
    .rw[JW hf]at p;refine p _ M _ ⟨fun _ z=>z,s,fun _ z=>.inl z⟩ (rep.grow s) (pF rep hb ⟨b,_,rfl,⟨.inr ⟨gu [] kvs,.inl ai,?_,rfl⟩,rfl⟩,IsAll.flat hf (IsAll.same s rk.snd)⟩ ⟨_,ai,True.intro⟩);have:=KQ (List.map fun k:List Key=>(Sum.inr k:DK)) rk.fst;rw[Kl,Kl]at this;exact this.symm
    .rw[J0 hf]at p;exact p.elim
  |_=>rw[q]at p;exact p.elim
 | [],_,p=>exact p.elim
 |_::_::_,_,p=>exact p.elim
def keyX:D->Option DK
 | .int i=>some (.inl (.inl i))
 | .str x=>some (.inl (.inr x))
 | .tup ds=>(kj ds).map .inr
 |_=>none
noncomputable def kin:DK->DK->Bool
 | .inl _,.inl _=>true
 | .inr _,.inr _=>true
 |_,_=>false
noncomputable def fU (ks:List DK)(k:DK):Bool:=ks.any fun x=>decide (x=k)
def rN (neg:Bool)(a:D)(ks:List DK):Res R:=match keyX a with
 |some k=>if ks.all (kin k) then .ok (.val (.bl (if neg then !fU ks k else fU ks k)) true []) else .stuck
 |none=>.stuck
def wy (neg:Bool)(a b:R):Res R:=match b.d with
 | .dic ks _=>rN neg a.d ks
 |_=>t8 neg a b
def jI:R->R->Res R:=wy false
def iV:R->R->Res R:=wy true
noncomputable def Eo (neg:Bool):R2:=fun x y H Q=>∃ a o,y=.ref a/\lz H a x o/\Q (.bl (if neg then !o.isSome else o.isSome)) H
theorem Ep (hu:X.A.units+64<cLine):OpR X (compareOp .In) (Eo false):=by intro pins s σ H x y v u Q I rx ry h;obtain⟨a,o,rfl,g,q⟩:=h;cases ry;exact GL (by omega) I g rx fun s' I'=>⟨.bl _,H,I',rfl,q⟩
theorem wz (hu:X.A.units+64<cLine):OpR X (compareOp .NotIn) (Eo true):=by intro pins s σ H x y v u Q I rx ry h;obtain⟨a,o,rfl,g,q⟩:=h;cases ry;exact xx (by omega) I g rx fun s' I'=>⟨.bl _,H,I',rfl,q⟩
theorem lW {κ:Type}[DecidableEq κ]{kvs:List (κ×V)}(inj:κ->DK)(hi:∀ a b,inj a=inj b->a=b)(k:κ):(dj kvs k).isSome=fU (kvs.map fun p=>inj p.1) (inj k):=by
 unfold fU;induction kvs with
 |nil=>rfl
 |cons p r ih=>
  rw[J4,Lf];by_cases e:p.1=k
  .rw[dH e,Kk (KQ inj e)];rfl
  .rw[c4 e,ih,Kr (fun z=>e (hi _ _ z)),Bool.false_or]
theorem Is.keyX {H:Hp}{m:Addr->Prop}{d:D}{v:V}{k:DK}(h:Is H m d v)(e:L3.keyX d=some k):(∃ k0,k=.inl k0/\v=kV k0)\/∃ k0 b,k=.inr k0/\v=.ref b/\H b=some (.tup (k0.map kV)):=by
 cases d with
 |int i=>cases e;exact .inl ⟨_,rfl,h⟩
 |str x=>cases e;exact .inl ⟨_,rfl,h⟩
 |tup ds=>have e:(kj ds).map Sum.inr=some k:=e;obtain⟨k0,hk,rfl⟩:=Kw.mp e;obtain⟨b,e1,e2⟩:=Is.keyT (d:=.tup ds) h hk;exact .inr ⟨k0,b,rfl,e1,e2⟩
 |_=>cases e
theorem Bc {H:Hp}{a:Addr}{ks:List DK}{vs:List V}{m:Addr->Prop}{d:D}{x:V}{k:DK}(h:DAt H a ks vs)(hx:Is H m d x)(e:L3.keyX d=some k)(hk:ks.all (kin k)=true):∃ o,lz H a x o/\o.isSome=fU ks k:=by
 rcases hx.keyX e with⟨k0,rfl,rfl⟩|⟨k0,b,rfl,rfl,hb⟩
 .rcases h with⟨kvs,e1,rfl,rfl⟩|⟨kvs,e1,rfl,rfl⟩
  .exact⟨_,.inl (.inl ⟨kvs,k0,e1,rfl,rfl⟩),lW Sum.inl (fun _ _ z=>KH z) k0⟩
  .cases kvs with
   |nil=>exact⟨none,.inr (.inl ⟨e1,⟨k0,rfl⟩,rfl⟩),rfl⟩
   |cons p r=>simp[kin]at hk
 .rcases h with⟨kvs,e1,rfl,rfl⟩|⟨kvs,e1,rfl,rfl⟩
  .cases kvs with
   |nil=>exact⟨none,.inr (.inr ⟨e1,⟨b,k0,rfl,hb⟩,rfl⟩),rfl⟩
   |cons p r=>simp[kin]at hk
  .exact⟨_,.inl (.inr ⟨kvs,k0,b,e1,rfl,hb,rfl⟩),lW Sum.inr (fun _ _ z=>MJ z) k0⟩
theorem yA {neg:Bool}{f:Ni->Ni->Sem Ni}(h1:ke X E f (t8 neg))(h2:OpR X f (Eo neg)):ke X E f (wy neg):=by
 obtain⟨r,o1,s1⟩:=h1;refine⟨_,o1.or h2,fun g M ρ env σ H Q ra rb x y rep i1 i2 p=>?_⟩;unfold wy at p;cases q:rb.d with
 |dic ks ds=>
  right;rw[q]at p i2;dsimp only at p;unfold rN at p;cases q2:keyX ra.d with
  |none=>rw[q2]at p;exact p.elim
  |some k=>
   rw[q2]at p;dsimp only at p;by_cases hk:ks.all (kin k)=true
   .rw[JW hk]at p;obtain⟨a,vs,rfl,h1,h2⟩:=i2;obtain⟨o,g1,g2⟩:=Bc h1.1 i1 q2 hk;refine⟨a,o,rfl,g1,?_⟩;rw[g2];exact p _ M H (Ext.refl _ _) rep rfl
   .rw[J0 hk]at p;exact p.elim
 |_=>left;refine s1 g M ρ env σ H Q ra rb x y rep i1 i2 ?_;rw[q]at p;exact p
theorem eY (hu:X.A.units+64<cLine):ke X E (compareOp .In) jI:=yA (GZ hu) (Ep hu)
theorem dD (hu:X.A.units+64<cLine):ke X E (compareOp .NotIn) iV:=yA (yt hu) (wz hu)
def nK:List DK->List D->DK->D->List D
 |k'::ks,d'::ds,k,d=>(if k'=k then d else d')::nK ks ds k d
 |_,_,_,_=>[]
def bZ (ks:List DK)(ds:List D)(k:DK)(d:D):D:=if fU ks k then .dic ks (nK ks ds k d) else .dic (ks++[k]) (ds++[d])
theorem uT {κ:Type}[DecidableEq κ](inj:κ->DK)(hi:∀ a b,inj a=inj b->a=b){H:Hp}{m:Addr->Prop}{kvs:List (κ×V)}{ds:List D}{k:κ}{v:V}{d:D}(h:IsAll H m ds (kvs.map Prod.snd))(hv:Is H m d v) :
 ∃ ks' ds',bZ (kvs.map fun p=>inj p.1) ds (inj k) d=.dic ks' ds'/\ks'=(bq kvs k v).map (fun p=>inj p.1)/\IsAll H m ds' ((bq kvs k v).map Prod.snd):=by
 have hany:fU (kvs.map fun p=>inj p.1) (inj k)=kvs.any fun p=>decide (p.1=k):=by unfold fU;rw[MT];congr 1;funext p;exact decide_eq_decide.mpr ⟨hi _ _,KQ inj⟩
 unfold bZ bq;rw[hany];by_cases e:(kvs.any fun p=>decide (p.1=k))=true
 .rw[JW e,JW e];refine⟨_,_,rfl,?_,?_⟩
  .rw[Kl];refine K4 fun p _=>?_;show inj p.1=inj (if p.1=k then (p.1,v) else p).1;split<;>rfl
  .clear e hany;induction kvs generalizing ds with
   |nil=>
    cases ds with
    |nil=>exact rfl
    |cons d0 r=>obtain⟨_,_,z,_⟩:=h;cases z
   |cons p r ih=>
    cases ds with
    |nil=>cases h
    |cons d0 ds=>
     obtain⟨v0,r0,z,i1,i2⟩:=h;cases z;have:=ih i2;refine⟨_,_,rfl,?_,this⟩;dsimp only;by_cases e:p.1=k
     .rw[JW (KQ inj e),JW e];exact hv
     .rw[J0 (fun z=>e (hi _ _ z)),J0 e];exact i1
 .rw[J0 e,J0 e];exact⟨_,_,rfl,by simp,by rw[Ki];exact h.append ⟨v,[],rfl,hv,rfl⟩⟩
def uU (i:Nat)(env:En)(ks:List DK)(ds:List D)(d:D)(k:R):Res Fl:=match keyX k.d with
 |some x=>if ks.all (kin x)/\ks.length<lim then .ok (.nx (env.set i (some (.tre (bZ ks ds x d))))) else .stuck
 |none=>.stuck
def uV (i:Nat)(fk:En->Res R)(env:En)(ks:List DK)(ds:List D)(r:R):Res Fl:=if r.d.flat then (fk env).bind (uU i env ks ds r.d) else .stuck
def pG (i:Nat)(env:En)(ks:List DK)(ds:List D)(d:D)(k:R):Res Fl:=match keyX k.d with
 |some x=>if ks.all (kin x)/\ks.length<lim then .ok (.nx (env.set i (some (.pin (bZ ks ds x d))))) else .stuck
 |none=>.stuck
def pH (i:Nat)(fk:En->Res R)(env:En)(ks:List DK)(ds:List D)(r:R):Res Fl:=if r.d.flat then (fk env).bind (pG i env ks ds r.d) else .stuck
def iW (i:Nat)(fk fv:En->Res R):En->Res Fl:=fun env=>match env[i]? with
 |some (some (.tre (.dic ks ds)))=>(fv env).bind (uV i fk env ks ds)
 |some (some (.pin (.dic ks ds)))=>(fv env).bind (pH i fk env ks ds)
 |_=>.stuck
def lX (mk:D->Sl)(i:Nat)(env:En)(ks:List DK)(ds:List D)(d:D)(k:R):Res Fl:=match keyX k.d with
 |some x=>if ks.all (kin x)/\ks.length<lim then .ok (.nx (env.set i (some (mk (bZ ks ds x d))))) else .stuck
 |none=>.stuck
def lY (mk:D->Sl)(i:Nat)(fk:En->Res R)(env:En)(ks:List DK)(ds:List D)(r:R):Res Fl:=if r.d.flat then (fk env).bind (lX mk i env ks ds r.d) else .stuck
theorem lZ {i:Nat}{tk tv:TE}{fk fv:En->Res R}{g:Gd}{M:Addr->Prop}{ρ:Pr}{env:En}{σ:St}{H:Hp}{D:Ends}{ks:List DK}{ds:List L3.D}(mk:L3.D->Sl)(P0:Gd->V->Prop)(hmk:∀(g:Gd)(M T:Addr->Prop)(H:Hp)(v:V)(d:L3.D),SlOk g M T H v (mk d)↔Is H T d v/\P0 g v)(hmo':∀ d,(mk d).isO=true)
 (s1:Snd X.mg E tk fk) (s2:Snd X.mg E tv fv) (rep:Rep g M ρ env σ H) (hq:env[i]?=some (some (mk (.dic ks ds)))) (p:PostS X.mg E g M H D ((fv env).bind (lY mk i fk env ks ds))):xy (di i) tk tv D σ H:=by
 have hi:i<env.length:=(JY.mp hq).1;refine s2.oneS rep p fun r v M1 H1 e1 rep1 ro p1=>?_;obtain⟨M1',x1,x1m,rep1',is1⟩:=ro.is rep1 e1 rep.same;unfold lY at p1;by_cases hf:r.d.flat=true
 .rw[JW hf]at p1;obtain⟨va,ev,ka⟩:=rep1'.slot i _ hq;obtain⟨ka,hroot⟩:=(hmk g M1' (ρ i) H1 va (.dic ks ds)).mp ka;obtain⟨a,vs,rfl,⟨dat,pa⟩,hall⟩:=ka;refine⟨.ref a,ev,s1.oneS rep1' (PostS.frz ⟨x1m,fun _ _ q _=>q⟩ p1) fun rk y M2 H2 e2 rep2 rok p2=>?_⟩;obtain⟨M2',x2,x2m,rep2',is2⟩:=rok.is rep2 e2 rep1'.same;unfold lX at p2;cases qk:keyX rk.d with
  |none=>rw[qk]at p2;exact p2.elim
  |some x=>
   rw[qk]at p2;dsimp only at p2;by_cases hc:ks.all (kin x)=true/\ks.length<lim
   .rw[JW hc]at p2;have dat2:DAt H2 a ks vs:=dat.keep fun o e=>e2.h _ _ e;have hall2:IsAll H2 (ρ i) ds vs:=hall.same e2.h;have hv2:Is H2 (ρ i) r.d v:=Is.flat hf (is1.same e2.h);have kd:Is H2 (ρ i) (.dic ks ds) (.ref a):=⟨a,vs,rfl,⟨dat2,pa⟩,hall2⟩;have inner:IsAll H2 (fun b=>ρ i b/\b≠a) ds vs:=IsAll.avoid kd (by simp only[L3.D.sz];omega) hall2;have hv3:Is H2 (fun b=>ρ i b/\b≠a) r.d v:=Is.flat hf hv2;have nofz:∀ o u,H2 a≠some (.frz o u):=fun o u z=>by obtain⟨_,_,uo,q,qm⟩:=rep2'.priv i a pa;rw[z]at q;cases q;exact qm
    obtain⟨uo,huo,hmo⟩:=dat2.mu nofz;have rdn:∀ u,Rd H2 a u->H2 a=some u:=fun u z=>z.elim id fun⟨o,z⟩=>(nofz _ _ z).elim;have nfx:∀ u,H2 a=some u->¬ fixd u:=fun u e z=>by rw[huo]at e;cases e;cases uo<;>first|exact z|exact hmo
    have fin:∀(u':HO)(ks':List DK)(ds':List L3.D)(vs':List V),D7 u'->DAt (ay H2 a u') a ks' vs'->bZ ks ds x r.d=.dic ks' ds'->IsAll H2 (fun b=>ρ i b/\b≠a) ds' vs'->D.nx σ (ay H2 a u'):=fun u' ks' ds' vs' hu' hd he hall'=>by
     rw[he]at p2;have hall3:IsAll (ay H2 a u') (ρ i) ds' vs':=hall'.mono (fun b u q z=>by
      rw[af]
      .exact q
      .rintro rfl;rcases z with z|z
       .exact z.2 rfl
       .exact nfx u q z) fun _ _ _ z=>z.1
     obtain⟨f1,rep3⟩:=rep2'.writeO (u':=u') hu' pa hi ev (sl:=mk (.dic ks' ds')) ((hmk g M2' (ρ i) _ _ _).mpr ⟨⟨a,vs',rfl,⟨hd,pa⟩,hall3⟩,hroot⟩) (hmo' _);exact p2 σ M2' ρ _ (Frz.trans ⟨x2m,fun _ _ q _=>q⟩ f1) rep3
    refine⟨a,?_⟩;rcases is2.keyX qk with⟨k0,rfl,rfl⟩|⟨k0,b,rfl,rfl,hb⟩
    .rcases dat2 with⟨kvs,e1,rfl,rfl⟩|⟨kvs,e1,rfl,rfl⟩
     .obtain⟨ks',ds',g1,g2,g3⟩:=uT Sum.inl (fun _ _ z=>KH z) (k:=k0) inner hv3;refine⟨_,rfl,.inl (DPut.k (rdn _ e1) (by have:=hc.2;rw[JU]at this;exact gx this)),fin _ ks' ds' _ True.intro (.inl ⟨_,.inl ai,g2,rfl⟩) g1 g3⟩
     .cases kvs with
      |nil=>
       cases ds with
       |nil=>exact⟨_,rfl,.inr (.inl ⟨rdn _ e1,k0,rfl,rfl⟩),fin (.dK [(k0,v)]) [.inl k0] [r.d] [v] True.intro (.inl ⟨_,.inl ai,rfl,rfl⟩) rfl ⟨v,[],rfl,hv3,rfl⟩⟩
       |cons d0 ds0=>obtain⟨_,_,z,_⟩:=inner;cases z
      |cons q r0=>simp[kin]at hc
    .rcases dat2 with⟨kvs,e1,rfl,rfl⟩|⟨kvs,e1,rfl,rfl⟩
     .cases kvs with
      |nil=>
       cases ds with
       |nil=>exact⟨_,rfl,.inr (.inr ⟨rdn _ e1,b,k0,rfl,hb,rfl⟩),fin (.dT [(k0,v)]) [.inr k0] [r.d] [v] True.intro (.inr ⟨_,.inl ai,rfl,rfl⟩) rfl ⟨v,[],rfl,hv3,rfl⟩⟩
       |cons d0 ds0=>obtain⟨_,_,z,_⟩:=inner;cases z
      |cons q r0=>simp[kin]at hc
     .obtain⟨ks',ds',g1,g2,g3⟩:=uT Sum.inr (fun _ _ z=>MJ z) (k:=k0) inner hv3;refine⟨_,rfl,.inl (DPut.t (rdn _ e1) hb (by have:=hc.2;rw[JU]at this;exact gx this)),fin _ ks' ds' _ True.intro (.inr ⟨_,.inl ai,g2,rfl⟩) g1 g3⟩
   .rw[J0 hc]at p2;exact p2.elim
 .rw[J0 hf]at p1;exact p1.elim
theorem g6 {i:Nat}{o ki value:Expr}{fk fv:En->Res R}{pos pos':Pos}(hu:X.A.units+64<cLine)(ho:PE X o (di i))(hk:PD X E ki fk)(hv:PD X E value fv)
 (hs:autoParam (swapsWith value (some (.Subscript o ki pos')) pos.line X.env=pure false) Nq._auto_1):ju X E (.Assign [.Subscript o ki pos'] value pos) (iW i fk fv):=by
 obtain⟨tk,p1,s1⟩:=hk;obtain⟨tv,p2,s2⟩:=hv;refine⟨_,qS (by omega) ho p1 p2 hs,fun g M ρ env σ H D rep p=>?_⟩;unfold iW at p;split at p
 .rename_i ks ds hq;exact lZ .tre (fun _ _=>True) (fun _ _ _ _ _ _=>⟨fun z=>⟨z,True.intro⟩,fun z=>z.1⟩) (fun _=>rfl) s1 s2 rep hq p
 .rename_i ks ds hq;exact lZ .pin (fun g v=>g.root=some v) (fun _ _ _ _ _ _=>Iff.rfl) (fun _=>rfl) s1 s2 rep hq p
 .exact p.elim
def JB (k:En->Res Fl):Fl->Res Fl
 | .nx e=>k e
 | .ct e=>k e
 | .bk e=>.ok (.nx e)
 | .rt r=>.ok (.rt r)
 | .rm r e=>.ok (.rm r e)
def bM (c:En->Res Bool)(b:En->Res Fl):Nat->En->Res Fl
 |0,_=>.stuck
 |n+1,env=>(c env).bind fun k=>if k then (b env).bind (JB (bM c b n)) else .ok (.nx env)
theorem jJ (N:Nat){c:Expr}{body:List Stmt}{fc:En->Res Bool}{fb:En->Res Fl}{pos:Pos}(hp:PassesOwn (model X.prog X.w) X.A X.env X.xe)(hc:rA X E c fc)(hb:iu X E body fb):ju X E (.While c body [] pos) (bM fc fb N):=by
 obtain⟨tc,p1,s1⟩:=hc;obtain⟨tb,p2,s2⟩:=hb;refine⟨_,xj hp p1 p2,fun g M ρ env σ H D rep p=>?_⟩;refine⟨fun m σ H=>∃ M1 ρ1 cu,Rep g M1 ρ1 cu σ H/\PostS X.mg E g M1 H D (bM fc fb m cu),⟨N,M,ρ,env,rep,p⟩,?_⟩;rintro m σ1 H1 ⟨M1,ρ1,cu,rep1,q1⟩;cases m with
 |zero=>exact(show False from q1).elim
 |succ m=>
  unfold bM at q1;refine s1 g M1 ρ1 cu σ1 H1 _ rep1 ?_;cases e:fc cu with
  |stuck=>rw[e]at q1;exact q1
  |exc c=>rw[e]at q1;exact q1
  |ok b=>
   rw[e]at q1;intro M2 H2 e2 rep2;cases b with
   |false=>refine tm ?_;exact(show PostS X.mg E g M1 H1 D (.ok (.nx cu)) from q1) σ1 M2 ρ1 H2 e2.frz rep2
   |true=>
    refine qQ ?_;have q1:PostS X.mg E g M1 H1 D ((fb cu).bind (JB (bM fc fb m))):=q1;refine⟨fun σ' H'=>∃ M' ρ' aJ,Rep g M' ρ' aJ σ' H'/\PostS X.mg E g M' H' D (bM fc fb m aJ),fun σ' H' h=>⟨m,M_ m,h⟩,?_⟩;refine s2 g M2 ρ1 cu σ1 H2 _ rep2 ?_;cases e3:fb cu with
    |stuck=>rw[e3]at q1;exact q1
    |exc c=>rw[e3]at q1;exact q1
    |ok fl=>
     rw[e3]at q1;cases fl with
     |nx e'=>exact fun σ' M' ρ' H' f rep'=>⟨M',ρ',e',rep',PostS.frz (e2.frz.trans f) (show PostS X.mg E g M1 H1 D (bM fc fb m e') from q1)⟩
     |ct e'=>exact fun σ' M' ρ' H' f rep'=>⟨M',ρ',e',rep',PostS.frz (e2.frz.trans f) (show PostS X.mg E g M1 H1 D (bM fc fb m e') from q1)⟩
     |bk e'=>exact fun σ' M' ρ' H' f rep'=>(show PostS X.mg E g M1 H1 D (.ok (.nx e')) from q1) σ' M' ρ' H' (e2.frz.trans f) rep'
     |rt r=>exact fun v M' H' f=>(show PostS X.mg E g M1 H1 D (.ok (.rt r)) from q1) v M' H' (e2.frz.trans f)
     |rm r e'=>exact fun v σ' M' ρ' H0 H' f=>(show PostS X.mg E g M1 H1 D (.ok (.rm r e')) from q1) v σ' M' ρ' H0 H' (e2.frz.trans f)
def Er:R->R->Res R:=oI (fun _ j=>decide (0<=j)) fun i j=>.int (i / 2 ^ j.toNat)
def yB:R->R->Res R:=oI (fun _ _=>true) fun i j=>.int (Builtin.bitAnd i j)
theorem Es:ke X E (binaryOp .RShift) Er:=rB _ _ DE (fun i j h=>by simpa using h) fun _ _ _ _=>rfl
theorem Bd:ke X E (binaryOp .BitAnd) yB:=lN _ DF fun _ _ _ _=>rfl
def Ja (k2:R->R->Res R)(fc:En->Res R)(env:En)(rb:R):R->Res R
 | .val (.bl true) _ _=>(fc env).bind fun rc=>k2 rb rc
 | .val (.bl false) _ _=>.ok (.val (.bl false) true [])
 |_=>.stuck
def fV (k1 k2:R->R->Res R)(fa fb fc:En->Res R):En->Res R:=fun env=>(fa env).bind fun ra=>(fb env).bind fun rb=>(k1 ra rb).bind (Ja k2 fc env rb)
theorem wA {r r':R2}{k1 k2:R->R->Res R}{ta tb tc:TE}{fa fb fc:En->Res R}{mg:Str->Option Ni}
 (h1:∀ g M ρ env σ H Q ra rb x y,Rep g M ρ env σ H->Is H (vmsk g M ra.fr ρ ra.al) ra.d x->Is H (vmsk g M rb.fr ρ rb.al) rb.d y->PostE mg E g M ρ env σ H Q (k1 ra rb)->r x y H Q)
 (h2:∀ g M ρ env σ H Q ra rb x y,Rep g M ρ env σ H->Is H (vmsk g M ra.fr ρ ra.al) ra.d x->Is H (vmsk g M rb.fr ρ rb.al) rb.d y->PostE mg E g M ρ env σ H Q (k2 ra rb)->r' x y H Q)
 (sa:Snd mg E ta fa) (sb:Snd mg E tb fb) (sc:Snd mg E tc fc):Snd mg E (xm r r' ta tb tc) (fV k1 k2 fa fb fc):=by
 intro g M ρ env σ H Q rep p;refine sa.twoE sb rep p fun ra rb x y M1 H1 rep1 i1 i2 p1=>?_;refine h1 g M1 ρ env σ H1 _ ra rb x y rep1 i1 i2 ?_;cases q:k1 ra rb with
 |stuck=>rw[q]at p1;exact p1
 |exc c=>rw[q]at p1;exact p1
 |ok rr=>
  rw[q]at p1;have p1:PostE mg E g M1 ρ env σ H1 Q (Ja k2 fc env rb rr):=p1;unfold Ja at p1;intro v M2 H2 e2 rep2 ro;split at p1
  .cases (show v=.bl true from ro);refine⟨true,rfl,qQ ?_⟩;have p2:=PostE.ext e2 p1;have i2':=Is.ext e2 i2;refine sc.oneE rep2 p2 fun rc z M3 H3 e3 rep3 i3 p3=>?_;exact h2 g M3 ρ env σ H3 Q rb rc y z rep3 (Is.ext e3 i2') i3 p3
  .cases (show v=.bl false from ro);exact⟨false,rfl,tm (p1 (.bl false) M2 H2 e2 rep2 rfl)⟩
  .exact p1.elim
theorem nL {a b c:Expr}{fa fb fc:En->Res R}{op op':CmpOp}{k1 k2:R->R->Res R}{pos:Pos}(ho:ke X E (compareOp op) k1)(ho':ke X E (compareOp op') k2)(ha:PD X E a fa)(hb:PD X E b fb)(hc:PD X E c fc)
 (hm:lastMarks [op,op'] [b,c]=false:=by with_unfolding_all rfl):rA X E (.Compare a [op,op'] [b,c] pos) (vB (fV k1 k2 fa fb fc)):=by
 obtain⟨r,o1,h1⟩:=ho;obtain⟨r',o2,h2⟩:=ho';obtain⟨ta,pa,sa⟩:=ha;obtain⟨tb,pb,sb⟩:=hb;obtain⟨tc,pc,sc⟩:=hc;have S:=wA h1 h2 sa sb sc;refine⟨_,xn o1 o2 pa pb pc hm,fun g M ρ env σ H Q rep p=>S.oneT rep p fun r v M' H' e rep' i p'=>?_⟩;cases q:r.d with
 |bl b=>rw[q]at i;simp only[q]at p';cases i;exact⟨b,rfl,p' M' H' (Ext.refl _ _) rep'⟩
 |_=>simp only[q]at p';exact p'.elim
end
def gC (i:Nat)(fk fv:En->Res R)(env:En):Option (Option Sl)->Res Fl
 |some (some (.tre (.dic _ _)))=>iW i fk fv env
 |some (some (.pin (.dic _ _)))=>iW i fk fv env
 |_=>kh i fk fv env
def iX (i:Nat)(fk fv:En->Res R):En->Res Fl:=fun env=>gC i fk fv env env[i]?
theorem fF {X:Cx}{E:XK}{i:Nat}{fk fv:En->Res R}{st:Stmt}(h1:ju X E st (kh i fk fv))(h2:ju X E st (iW i fk fv)):ju X E st (iX i fk fv):=by
 obtain⟨t1,p1,s1⟩:=h1;obtain⟨t2,p2,s2⟩:=h2;refine⟨fun D σ H=>t1 D σ H\/t2 D σ H,fun pins s σ H D I h=>h.elim (p1 pins s σ H D I) (p2 pins s σ H D I),fun g M ρ env σ H D rep p=>?_⟩;unfold iX gC at p;split at p
 .exact .inr (s2 g M ρ env σ H D rep p)
 .exact .inr (s2 g M ρ env σ H D rep p)
 .exact .inl (s1 g M ρ env σ H D rep p)
def getD:List DK->List D->DK->Option D
 |k'::ks,d::ds,k=>if k'=k then some d else getD ks ds k
 |_,_,_=>none
def fG (ra rk:R):Res R:=match ra.d with
 | .dic ks ds=>match keyX rk.d with
  |some x=>if ks.all (kin x) then (match getD ks ds x with
   |some d=>.ok (mkV d ra.fr ra.al)
   |none=>.stuck) else .stuck
  |none=>.stuck
 |_=>.stuck
theorem kQ {κ:Type}[DecidableEq κ](inj:κ->DK)(hi:∀ a b,inj a=inj b->a=b){H:Hp}{m:Addr->Prop}{k:κ}{d:D}:∀{kvs:List (κ×V)}{ds:List D},IsAll H m ds (kvs.map Prod.snd)->getD (kvs.map fun p=>inj p.1) ds (inj k)=some d->∃ v,dj kvs k=some v/\Is H m d v
 | [],ds,_,e=>by cases ds<;>cases e
 |p::r,[],h,e=>by cases h
 |p::r,d0::ds,h,e=>by
  obtain⟨v0,r0,z,i1,i2⟩:=h;cases z;rw[J4]at e;unfold getD at e;by_cases hk:p.1=k
  .rw[JW (KQ inj hk)]at e;cases e;exact⟨p.2,dH hk,i1⟩
  .rw[J0 (fun z=>hk (hi _ _ z))]at e;obtain⟨v,e1,e2⟩:=kQ inj hi i2 e;exact⟨v,by rw[c4 hk];exact e1,e2⟩
section
variable {X:Cx}{E:XK}
theorem g7 {o k:Expr}{fa fk:En->Res R}{pos:Pos}(hu:X.A.units+64<cLine)(ho:PD X E o fa)(hk:PD X E k fk)(hs:DO k):PD X E (.Subscript o k pos) (v2 fG fa fk):=by
 obtain⟨ta,p1,s1⟩:=ho;obtain⟨tk,p2,s2⟩:=hk;refine⟨_,AK (by omega) p1 p2 hs,fun g M ρ env σ H Q rep p=>s1.twoE s2 rep p fun ra rk x y M1 H1 rep1 i1 i2 q=>?_⟩;unfold fG at q;cases qa:ra.d with
 |dic ks ds=>
  rw[qa]at q i1;dsimp only at q;cases qk:keyX rk.d with
  |none=>rw[qk]at q;exact q.elim
  |some kx=>
   rw[qk]at q;dsimp only at q;by_cases hc:ks.all (kin kx)=true
   .rw[JW hc]at q;obtain⟨a,vs,rfl,⟨dat,_⟩,hall⟩:=i1;cases qd:getD ks ds kx with
    |none=>rw[qd]at q;exact q.elim
    |some d=>
     rw[qd]at q;refine⟨a,?_⟩;rcases i2.keyX qk with⟨k0,rfl,rfl⟩|⟨k0,b,rfl,rfl,hb⟩
     .rcases dat with⟨kvs,e1,rfl,rfl⟩|⟨kvs,e1,rfl,rfl⟩
      .obtain⟨v,g1,g2⟩:=kQ Sum.inl (fun _ _ z=>KH z) hall qd;exact⟨v,rfl,by rw[<- g1];exact .inl ⟨kvs,k0,e1,rfl,rfl⟩,q.val rep1 g2⟩
      .cases kvs with
       |nil=>cases ds<;>cases qd
       |cons p r=>simp[kin]at hc
     .rcases dat with⟨kvs,e1,rfl,rfl⟩|⟨kvs,e1,rfl,rfl⟩
      .cases kvs with
       |nil=>cases ds<;>cases qd
       |cons p r=>simp[kin]at hc
      .obtain⟨v,g1,g2⟩:=kQ Sum.inr (fun _ _ z=>MJ z) hall qd;exact⟨v,rfl,by rw[<- g1];exact .inr ⟨kvs,k0,b,e1,rfl,hb,rfl⟩,q.val rep1 g2⟩
   .rw[J0 hc]at q;exact q.elim
 |_=>rw[qa]at q;exact q.elim
def iY (i:Nat)(fb:En->Res R)(env:En):Option (Option Sl)->Res R
 |some (some (.tre (.dic _ _)))=>v2 fG (ag i) fb env
 |some (some (.val (.dic _ _) _))=>v2 fG (ag i) fb env
 |some (some (.pin (.dic _ _)))=>v2 fG (ag i) fb env
 |_=>lO i fb env
def aw (i:Nat)(fb:En->Res R):En->Res R:=fun env=>iY i fb env env[i]?
theorem pI {e:Expr}{i:Nat}{fb:En->Res R}(h1:PD X E e (lO i fb))(h2:PD X E e (v2 fG (ag i) fb)):PD X E e (aw i fb):=by
 obtain⟨t1,p1,s1⟩:=h1;obtain⟨t2,p2,s2⟩:=h2;refine⟨fun σ H Q=>t1 σ H Q\/t2 σ H Q,fun pins s σ H Q I h=>h.elim (p1 pins s σ H Q I) (p2 pins s σ H Q I),fun g M ρ env σ H Q rep p=>?_⟩;unfold aw iY at p;split at p
 .exact .inr (s2 g M ρ env σ H Q rep p)
 .exact .inr (s2 g M ρ env σ H Q rep p)
 .exact .inr (s2 g M ρ env σ H Q rep p)
 .exact .inl (s1 g M ρ env σ H Q rep p)
def G1 (ra:R)(ks:List DK)(ds:List D)(rk rz:R):Res R:=match keyX rk.d with
 |some x=>if ks.all (kin x) then (match getD ks ds x with
  |some d=>.ok (mkV d ra.fr ra.al)
  |none=>.ok (mkV rz.d rz.fr rz.al)) else .stuck
 |none=>.stuck
def Jb (fx:En->Res R)(env:En)(ra:R)(ks:List DK)(ds:List D)(rk:R):Res R:=(fx env).bind (G1 ra ks ds rk)
def Gc (fk fx:En->Res R)(env:En)(ra:R):Res R:=match ra.d with
 | .dic ks ds=>(fk env).bind (Jb fx env ra ks ds)
 |_=>.stuck
def l0 (fa fk fx:En->Res R):En->Res R:=fun env=>(fa env).bind (Gc fk fx env)
theorem DAt.isD {H:Hp}{a:Addr}{ks:List DK}{vs:List V}(h:DAt H a ks vs):Iq H a:=h.imp (fun⟨kvs,e,_⟩=>⟨kvs,e⟩) fun⟨kvs,e,_⟩=>⟨kvs,e⟩
theorem uW:∀{ks:List DK}{ds:List D}{k:DK},ks.length=ds.length->fU ks k=(getD ks ds k).isSome
 | [],ds,k,_=>by cases ds<;>rfl
 |k'::ks,[],k,h=>by cases h
 |k'::ks,d::ds,k,h=>by
  have ih:=uW (ks:=ks) (ds:=ds) (k:=k) (by simpa using h);unfold fU getD;unfold fU at ih;rw[Lf];by_cases e:k'=k
  .rw[JW e,Kk e];rfl
  .rw[J0 e,Kr e,Bool.false_or];exact ih
theorem yC {H:Hp}{a:Addr}{ks:List DK}{vs:List V}{ds:List D}{m m':Addr->Prop}{d:D}{x:V}{k:DK}(h:DAt H a ks vs)(hall:IsAll H m ds vs)(hx:Is H m' d x)(e:L3.keyX d=some k)(hk:ks.all (kin k)=true) :
 ∃ o,lz H a x o/\(match getD ks ds k with|some d=>∃ v,o=some v/\Is H m d v|none=>o=none):=by
 have key:∀{κ:Type} [DecidableEq κ] (inj:κ->DK) (hi:∀ a b,inj a=inj b->a=b) (kvs:List (κ×V)) (k0:κ),IsAll H m ds (kvs.map Prod.snd)->(match getD (kvs.map fun p=>inj p.1) ds (inj k0) with|some d=>∃ v,dj kvs k0=some v/\Is H m d v|none=>dj kvs k0=none):=by
  intro κ _ inj hi kvs k0 hl;have bO:(kvs.map fun p=>inj p.1).length=ds.length:=by have:=hl.length;rw[JU]at this ⊢;exact this
  have h1:=uW (k:=inj k0) bO;have h2:=lW (kvs:=kvs) inj hi k0;cases q:getD (kvs.map fun p=>inj p.1) ds (inj k0) with
  |some d=>exact kQ inj hi hl q
  |none=>
   rw[q]at h1;rw[h1]at h2;cases z:dj kvs k0 with
   |none=>rfl
   |some v=>rw[z]at h2;cases h2
 rcases hx.keyX e with⟨k0,rfl,rfl⟩|⟨k0,b,rfl,rfl,hb⟩
 .rcases h with⟨kvs,e1,rfl,rfl⟩|⟨kvs,e1,rfl,rfl⟩
  .exact⟨_,.inl (.inl ⟨kvs,k0,e1,rfl,rfl⟩),key Sum.inl (fun _ _ z=>KH z) kvs k0 hall⟩
  .cases kvs with
   |nil=>exact⟨none,.inr (.inl ⟨e1,⟨k0,rfl⟩,rfl⟩),by cases ds<;>rfl⟩
   |cons p r=>simp[kin]at hk
 .rcases h with⟨kvs,e1,rfl,rfl⟩|⟨kvs,e1,rfl,rfl⟩
  .cases kvs with
   |nil=>exact⟨none,.inr (.inr ⟨e1,⟨b,k0,rfl,hb⟩,rfl⟩),by cases ds<;>rfl⟩
   |cons p r=>simp[kin]at hk
  .exact⟨_,.inl (.inr ⟨kvs,k0,b,e1,rfl,hb,rfl⟩),key Sum.inr (fun _ _ z=>MJ z) kvs k0 hall⟩
theorem g8 {o k x:Expr} {fa fk fx:En->Res R} {apos cpos:Pos} (hu:X.A.units+64<cLine) (ho:PD X E o fa) (hk:PD X E k fk) (hx:PD X E x fx) (m:M2 X o "get" apos k x cpos):PD X E (.Call (.Attribute o "get" apos) [k,x] [] cpos) (l0 fa fk fx):=by
 obtain⟨ta,p1,s1⟩:=ho;obtain⟨tk,p2,s2⟩:=hk;obtain⟨tx,p3,s3⟩:=hx;refine⟨_,v6 (by omega) p1 p2 p3 m,fun g M ρ env σ H Q rep p=>s1.oneE rep p fun ra v M1 H1 e1 rep1 i1 q1=>?_⟩;unfold Gc at q1;cases qa:ra.d with
 |dic ks ds=>
  rw[qa]at q1 i1;dsimp only at q1;obtain⟨a,vs,rfl,⟨dat,ma⟩,hall⟩:=i1;refine⟨a,rfl,dat.isD,s2.oneE rep1 q1 fun rk y M2 H2 e2 rep2 i2 q2=>?_⟩;refine s3.oneE rep2 q2 fun rz z M3 H3 e3 rep3 i3 q3=>?_;unfold G1 at q3;cases qk:keyX rk.d with
  |none=>rw[qk]at q3;exact q3.elim
  |some kx=>
   rw[qk]at q3;dsimp only at q3;by_cases hc:ks.all (kin kx)=true
   .rw[JW hc]at q3;have dat3:DAt H3 a ks vs:=dat.keep fun o e=>e3.h _ _ (e2.h _ _ e);have hall3:IsAll H3 (vmsk g M3 ra.fr ρ ra.al) ds vs:=(hall.ext e2).ext e3;obtain⟨ov,g1,g2⟩:=yC dat3 hall3 (i2.ext e3) qk hc;refine⟨ov,g1,?_⟩;cases qd:getD ks ds kx with
    |some d=>rw[qd]at q3 g2;obtain⟨v,rfl,iv⟩:=g2;exact q3.val rep3 iv
    |none=>rw[qd]at q3 g2;have g2:ov=none:=g2;subst g2;exact q3.val rep3 i3
   .rw[J0 hc]at q3;exact q3.elim
 |_=>rw[qa]at q1;exact q1.elim
end
noncomputable def gD:List D->Option (List Int)
 | []=>some []
 | .int i::r=>(gD r).map (i::·)
 |_::_=>none
def Et:D->Option (List Int)
 | .tup ds=>gD ds
 |_=>none
def tupsI:List D->Option (List (List Int))
 | []=>some []
 |d::r=>match Et d,tupsI r with
  |some k,some ks=>some (k::ks)
  |_,_=>none
noncomputable def rO (k:List Int):D:=.tup (k.map .int)
def mV (k:List Int):List (List Int)->List (List Int)
 | []=>[k]
 |h::t=>if k=h then h::t else if lexB k h then k::h::t else h::mV k t
def eL:List (List Int)->List (List Int)
 | []=>[]
 |k::ks=>mV k (eL ks)
def Eu (r:R):Res R:=match r.d with
 | .lst ds=>match tupsI ds with
  |some ks=>if decide (ds.length<=63)&&ks.all (fun k=>!k.isEmpty) then .ok (.new ((eL ks).map rO) true) else .stuck
  |none=>.stuck
 |_=>.stuck
def G2 (f:En->Res R):En->Res R:=fun env=>(f env).bind Eu
theorem pJ (k x:List Int):∀ l,x∈mV k l↔x=k\/x∈l
 | []=>by simp[mV]
 |h::t=>by
  unfold mV;split
  .rename_i e;subst e;simp
  .split
   .simp
   .rw[J5,pJ k x t,J5];constructor
    .rintro (z|z|z)
     .exact .inr (.inl z)
     .exact .inl z
     .exact .inr (.inr z)
    .rintro (z|z|z)
     .exact .inr (.inl z)
     .exact .inl z
     .exact .inr (.inr z)
theorem yD (k:List Int):∀ l,l.Pairwise (fun x y=>lexB x y=true)->(mV k l).Pairwise (fun x y=>lexB x y=true)
 | [],_=>List.pairwise_singleton _ _
 |h::t,p=>by
  obtain⟨p1,p2⟩:=Lj.mp p;unfold mV;split
  .exact p
  .rename_i hne;split
   .rename_i hlt;refine Lj.mpr ⟨fun y hy=>?_,p⟩;rcases J5.mp hy with rfl|hy
    .exact hlt
    .exact o5 _ _ _ hlt (p1 y hy)
   .rename_i hlt;refine Lj.mpr ⟨fun y hy=>?_,yD k t p2⟩;rcases (pJ k y t).mp hy with rfl|hy
    .exact(o6 _ _ hne).resolve_left hlt
    .exact p1 y hy
theorem dQ (x:List Int):∀ ks,x∈eL ks↔x∈ks
 | []=>by simp[eL]
 |k::ks=>by unfold eL;rw[pJ,dQ x ks,J5]
theorem pK:∀ ks,(eL ks).Pairwise (fun x y=>lexB x y=true)
 | []=>List.Pairwise.nil
 |k::ks=>by unfold eL;exact yD k _ (pK ks)
theorem yE {a b:List Int}(h:lexB a b=true):lexB b a=false:=by
 cases q:lexB b a with
 |false=>rfl
 |true=>have:=o5 _ _ _ h q;rw[fO]at this;cases this
theorem l5:∀(a b:List (List Int)),a.Pairwise (fun x y=>lexB x y=true)->b.Pairwise (fun x y=>lexB x y=true)->(∀ x,x∈a↔x∈b)->a=b
 | [],[],_,_,_=>rfl
 | [],y::b,_,_,h=>by have:=(h y).mpr Kg;simp at this
 |x::a,[],_,_,h=>by have:=(h x).mp Kg;simp at this
 |x::a,y::b,pa,pb,h=>by
  obtain⟨a1,a2⟩:=Lj.mp pa;obtain⟨b1,b2⟩:=Lj.mp pb;have hxy:x=y:=by
   rcases J5.mp ((h x).mp Kg) with e|e
   .exact e
   .rcases J5.mp ((h y).mpr Kg) with e'|e'
    .exact e'.symm
    .have:=yE (a1 y e');rw[b1 x e]at this;cases this
  subst hxy;rw[l5 a b a2 b2 fun z=>?_];constructor
  .intro hz;rcases J5.mp ((h z).mp (Kc _ hz)) with e|e
   .have:=a1 z hz;rw[e,fO]at this;cases this
   .exact e
  .intro hz;rcases J5.mp ((h z).mpr (Kc _ hz)) with e|e
   .have:=b1 z hz;rw[e,fO]at this;cases this
   .exact e
section
variable {H:Hp}{m:Addr->Prop}
theorem IsAll.ints:∀{ds:List D}{vs:List V}{k:List Int},IsAll H m ds vs->gD ds=some k->vs=(iK k).map kV
 | [],_,_,h,e=>by cases h;cases e;rfl
 |d::ds,_,k,h,e=>by
  obtain⟨v,r,rfl,h1,h2⟩:=h;cases d with
  |int i=>unfold gD at e;obtain⟨k',e1,rfl⟩:=Kw.mp e;rw[IsAll.ints h2 e1,show v=V.int i from h1];rfl
  |_=>cases e
theorem l6:∀(k:List Int),IsAll H m (k.map .int) ((iK k).map kV)
 | []=>rfl
 |i::k=>⟨.int i,_,rfl,rfl,l6 k⟩
theorem IsAll.tupsI:∀{ds:List D}{vs:List V}{ks:List (List Int)},IsAll H m ds vs->L3.tupsI ds=some ks->∃ its:List TItem,TupsIn H vs its/\its.map (·.1)=ks
 | [],_,_,h,e=>by cases h;cases e;exact⟨[],.nil,rfl⟩
 |d::ds,_,ks,h,e=>by
  obtain⟨v,r,rfl,h1,h2⟩:=h;unfold L3.tupsI at e;cases q:Et d with
  |none=>rw[q]at e;cases e
  |some k=>
   cases q2:L3.tupsI ds with
   |none=>rw[q,q2]at e;cases e
   |some ks'=>
    rw[q,q2]at e;cases e;obtain⟨its,t1,t2⟩:=IsAll.tupsI h2 q2;cases d with
    |tup es=>obtain⟨a,ws,rfl,g1,g2⟩:=h1;have q:gD es=some k:=q;rw[IsAll.ints g2 q]at g1;exact⟨(k,a)::its,.cons ⟨rfl,g1⟩ t1,by rw[J4,t2]⟩
    |_=>cases q
end
theorem l7 {H:Hp}:∀{vs:List V}{its:List TItem},TupsIn H vs its->vs.length=its.length
 |_,_,.nil=>rfl
 |_,_,.cons _ t=>by simp[l7 t]
theorem nN {H:Hp}:∀{vs:List V}{its:List TItem},TupsIn H vs its->∀ x∈its,H x.2=some (.tup ((iK x.1).map kV))
 |_,_,.nil,x,hx=>nomatch hx
 |_,_,.cons q t,x,hx=>by
  rcases J5.mp hx with rfl|hx
  .exact q.2
  .exact nN t x hx
theorem ko {H:Hp}{m:Addr->Prop}:∀{ys:List TItem},(∀ y∈ys,H y.2=some (.tup ((iK y.1).map kV)))->IsAll H m (ys.map (rO ∘ fun y=>y.1)) (ys.map fun y=>.ref y.2)
 | [],_=>rfl
 |y::ys,h=>⟨.ref y.2,_,rfl,⟨y.2,_,rfl,h y Kg,l6 y.1⟩,ko fun z hz=>h z (Kc _ hz)⟩
section
variable {X:Cx}{E:XK}
theorem iZ {e:Expr}{f:En->Res R}{x1 x2:Str}{p1 p2 pos1 pos2:Pos}(hc:X.calm=true)(hu:X.A.units+64<cLine)(h:PD X E e f)
 (hg1:Gl X x1) (hm1:X.mg x1=none) (hv1:bootBuiltins x1=some (.builtin "sorted")) (hg2:Gl X x2) (hm2:X.mg x2=none) (hv2:bootBuiltins x2=some (.type "set"))
 (hn1:autoParam (x1≠"__name__") Nk._auto_1) (hdb1:autoParam ((x1==("__debug__" : Str))=false) Nk._auto_1) (hn2:autoParam (x2≠"__name__") Nk._auto_1) (hdb2:autoParam ((x2==("__debug__" : Str))=false) Nk._auto_1)
 (he2:autoParam (starEach [e] X.env=(false,eval e X.env)::starEach [] X.env) Nq._auto_1) (hpl2:autoParam ((backTo pos2 (starEach [] X.env)).any (·.1)=false) Nq._auto_1)
 (he1:autoParam (starEach [.Call (.Name x2 p2) [e] [] pos2] X.env=(false,eval (.Call (.Name x2 p2) [e] [] pos2) X.env)::starEach [] X.env) Nq._auto_1) (hpl1:autoParam ((backTo pos1 (starEach [] X.env)).any (·.1)=false) Nq._auto_1) :
 PD X E (.Call (.Name x1 p1) [.Call (.Name x2 p2) [e] [] pos2] [] pos1) (G2 f):=by
 obtain⟨t,p1,s1⟩:=h;refine⟨_,lj (o8 hc) hg1 hm1 hv1 (aI (jw (wd hc hu) hg2 hm2 hv2 (aI p1 bK he2) hn2 hdb2 he2 hpl2) bK he1) hn1 hdb1 he1 hpl1,fun g M ρ env σ H Q rep p=>?_⟩;refine s1.oneE rep p fun r v M1 H1 e1 rep1 i1 q1=>?_;unfold Eu at q1;cases qd:r.d with
 |lst ds=>
  rw[qd]at q1 i1;dsimp only at q1;cases qt:tupsI ds with
  |none=>rw[qt]at q1;exact q1.elim
  |some ks=>
   rw[qt]at q1;dsimp only at q1;by_cases hcond:(decide (ds.length<=63)&&ks.all (fun k=>!k.isEmpty))=true
   .rw[JW hcond]at q1;simp only[Kh,LG,KJ]at hcond;obtain⟨hl,hne⟩:=hcond;obtain⟨a,vs,rfl,h1,h2⟩:=i1.rd;obtain⟨its,t1,t2⟩:=h2.tupsI qt;have hvl:vs.length<=63:=by rw[h2.length];exact hl
    have tat:=nN t1;refine⟨a,vs,its,rfl,h1,t1,hvl,fun b es hb v=>?_⟩;refine⟨b,es,its,rfl,ai,v,fun x hx=>?_,fun x hx z=>?_,by rw[<- l7 t1];exact hvl,fun l ys hl so=>?_⟩
    .rw[af (ap (tat x hx) hb)];exact tat x hx
    .have:x.1∈ks:=by rw[<- t2];exact J8.mpr ⟨x,hx,rfl⟩
     have:=hne _ this;rw[z]at this;simp at this
    .have hlb:l≠b:=fun z=>by rw[z,ai]at hl;cases hl
     have hl1:H1 l=none:=by rw[af hlb]at hl;exact hl
     have sm1:Same H1 (ay H1 b (.ext fun h=>SetAt X.w h b es)):=aV hb;have sm2:Same (ay H1 b (.ext fun h=>SetAt X.w h b es)) (ay (ay H1 b (.ext fun h=>SetAt X.w h b es)) l (.lst (ys.map fun y=>.ref y.2))):=aV hl;have sm:=sm1.trans sm2;obtain⟨z0,zm,zo⟩:=rep1.free hl1;refine q1 _ M1 _ ⟨fun _ z=>z,sm,fun _ z=>.inl z⟩ (rep1.grow sm) ⟨l,_,rfl,ai,zm,hl1,zo,?_⟩;have ek:ys.map (·.1)=eL ks:=by
      refine l5 _ _ ?_ (pK ks) fun k=>?_
      .rw[Lq];exact so.pw
      .rw[dQ,<- t2];constructor
       .intro hk;obtain⟨y,hy,rfl⟩:=J8.mp hk;exact J8.mpr ⟨y,so.sub y hy,rfl⟩
       .intro hk;obtain⟨x,hx,rfl⟩:=J8.mp hk;obtain⟨y,y1,y2⟩:=so.all x hx;exact J8.mpr ⟨y,y1,y2⟩
     rw[<- ek,Kl];exact ko (fun x hx=>sm _ _ (tat x (so.sub x hx)))
   .rw[J0 hcond]at q1;exact q1.elim
 |_=>rw[qd]at q1;exact q1.elim
end
section
variable {H H':Hp}{m m':Addr->Prop}
mutual
theorem Is.view (hl:∀ a vs,H a=some (.lst vs)->H' a=some (.lst vs))(hf:∀ a o vs,H a=some (.frz o (.lst vs))->H' a=some (.frz o (.lst vs)))(ht:∀ a vs,H a=some (.tup vs)->H' a=some (.tup vs))(hd:∀ a u,dI u->Rd H a u->Rd H' a u)(mm:∀ a,m a->m' a):∀{d:D}{v:V},Is H m d v->Is H' m' d v
 | .non,_,h=>h
 | .bl _,_,h=>h
 | .int _,_,h=>h
 | .str _,_,h=>h
 | .tup ds,_,h=>by obtain⟨a,vs,e,h1,h2⟩:=h;exact⟨a,vs,e,ht a _ h1,IsAll.view hl hf ht hd mm h2⟩
 | .lst ds,_,h=>by
  obtain⟨a,vs,e,h1,h2⟩:=h;refine⟨a,vs,e,?_,IsAll.view hl hf ht hd mm h2⟩;rcases h1 with⟨h1,h3⟩|⟨o,h1,h3⟩
  .exact .inl ⟨hl a _ h1,mm a h3⟩
  .exact .inr ⟨o,hf a o _ h1,mm a h3⟩
 | .dic ks ds,_,h=>by obtain⟨a,vs,e,h1,h2⟩:=h;refine⟨a,vs,e,⟨?_,mm a h1.2⟩,IsAll.view hl hf ht hd mm h2⟩;exact h1.1.imp (fun⟨kvs,e,r⟩=>⟨kvs,hd a _ True.intro e,r⟩) fun⟨kvs,e,r⟩=>⟨kvs,hd a _ True.intro e,r⟩
theorem IsAll.view (hl:∀ a vs,H a=some (.lst vs)->H' a=some (.lst vs))(hf:∀ a o vs,H a=some (.frz o (.lst vs))->H' a=some (.frz o (.lst vs)))(ht:∀ a vs,H a=some (.tup vs)->H' a=some (.tup vs))(hd:∀ a u,dI u->Rd H a u->Rd H' a u)(mm:∀ a,m a->m' a):∀{ds:List D}{vs:List V},IsAll H m ds vs->IsAll H' m' ds vs
 | [],_,h=>h
 |d::ds,_,h=>by obtain⟨v,r,e,h1,h2⟩:=h;exact⟨v,r,e,Is.view hl hf ht hd mm h1,IsAll.view hl hf ht hd mm h2⟩
end
mutual
theorem IsSh.view (hl:∀ a vs,H a=some (.lst vs)->H' a=some (.lst vs))(ht:∀ a vs,H a=some (.tup vs)->H' a=some (.tup vs)):∀{d:D}{v:V},IsSh H m d v->IsSh H' m d v
 | .non,_,h=>h
 | .bl _,_,h=>h
 | .int _,_,h=>h
 | .str _,_,h=>h
 | .tup ds,_,h=>by obtain⟨a,vs,e,h1,h2⟩:=h;exact⟨a,vs,e,ht a _ h1,IsShs.view hl ht h2⟩
 | .lst ds,_,h=>by obtain⟨a,vs,e,h1,h2⟩:=h;exact⟨a,vs,e,hl a _ h1,h2⟩
 | .dic _ _,_,h=>h
theorem IsShs.view (hl:∀ a vs,H a=some (.lst vs)->H' a=some (.lst vs))(ht:∀ a vs,H a=some (.tup vs)->H' a=some (.tup vs)):∀{ds:List D}{vs:List V},IsShs H m ds vs->IsShs H' m ds vs
 | [],_,h=>h
 |d::ds,_,h=>by obtain⟨v,r,e,h1,h2⟩:=h;exact⟨v,r,e,IsSh.view hl ht h1,IsShs.view hl ht h2⟩
end
end
section
variable {g:Gd}{M:Addr->Prop}{ρ:Pr}{env:En}{σ:St}{H:Hp}{d:Addr}{o:Obj}{u:HO}
open Classical in
def cO (g:Gd)(d:Addr)(o:Obj)(u:HO):Gd:=⟨if g.H₀ d=none then g.H₀ else ay g.H₀ d (.frz o u),g.Ma,fun a=>g.Z a\/a=d,g.root,g.rooT⟩
theorem i6 {b:Addr}(hb:b≠d):(cO g d o u).H₀ b=g.H₀ b:=by
 unfold cO;dsimp only;split
 .rfl
 .exact af hb
theorem bS (b:Addr):(cO g d o u).H₀ b=none↔g.H₀ b=none:=by
 by_cases hb:b=d
 .subst hb;unfold cO;dsimp only;split
  .exact Iff.rfl
  .rename_i h;rw[ai];exact⟨fun z=>(by cases z),fun z=>(h z).elim⟩
 .rw[i6 hb]
theorem Be (h:g.H₀ d≠none):(cO g d o u).H₀ d=some (.frz o u):=by unfold cO;dsimp only;rw[J0 h,ai]
theorem nO (hu:dI u)(hd:H d=some u):(∀ a vs,H a=some (.lst vs)->a≠d)/\(∀ a o vs,H a=some (.frz o (.lst vs))->a≠d)/\∀ a vs,H a=some (.tup vs)->a≠d:=by refine⟨fun a vs e z=>?_,fun a o vs e z=>?_,fun a vs e z=>?_⟩<;>(subst z;rw[hd]at e;cases e;exact hu)
theorem msk_still {fr:Bool}{a:Addr}:msk (cO g d o u) M fr a↔msk g M fr a:=by unfold msk;rw[bS]
theorem Rep.still (rep:Rep g M ρ env σ H)(hd:H d=some u)(hu:dI u)(hm:M d):Rep (cO g d o u) M ρ env σ (ay H d (.frz o u)):=by
 obtain⟨k1,k2,k3⟩:=nO hu hd;have vl:∀ a vs,H a=some (.lst vs)->ay H d (.frz o u) a=some (.lst vs):=fun a vs e=>by rw[af (k1 a vs e)];exact e
 have vf:∀ a o' vs,H a=some (.frz o' (.lst vs))->ay H d (.frz o u) a=some (.frz o' (.lst vs)):=fun a o' vs e=>by rw[af (k2 a o' vs e)];exact e
 have vt:∀ a vs,H a=some (.tup vs)->ay H d (.frz o u) a=some (.tup vs):=fun a vs e=>by rw[af (k3 a vs e)];exact e
 have vd:∀ a u',dI u'->Rd H a u'->Rd (ay H d (.frz o u)) a u':=fun a u' hu' e=>by
  by_cases ha:a=d
  .subst ha;rcases e with e|⟨o',e⟩
   .rw[hd]at e;cases e;exact .inr ⟨o,ai⟩
   .rw[hd]at e;cases e;exact hu.elim
  .exact io e fun o' q=>by rw[af ha];exact q
 have pn:∀ i a,ρ i a->a≠d:=fun i a h z=>(rep.priv i a h).1 (z▸hm);refine⟨fun b x e=>?_,fun a ha=>?_,fun a ha=>(rep.inn a ha).imp (bS a).mpr id,fun a ha h0=>?_,fun i sl e=>?_,fun i a h=>?_,rep.apart,rep.ow,rep.len,fun a z=>?_⟩
 .by_cases hb:b=d
  .subst hb;have hn:g.H₀ b≠none:=fun z=>by rw[(bS b).mpr z]at e;cases e
   rw[Be hn]at e;cases e;exact ai
  .rw[i6 hb]at e;rw[af hb];exact rep.same b x e
 .by_cases hb:a=d
  .rw[hb,ai];simp
  .rw[af hb];exact rep.froz a ha
 .by_cases hb:a=d
  .rw[hb];exact .inr ⟨.inr rfl,o,u,ai⟩
  .rcases rep.fl a ha ((bS a).mp h0) with q|⟨q,o',u',e⟩
   .exact .inl (q.same fun o' e=>by rw[af hb];exact e)
   .exact .inr ⟨.inl q,o',u',by rw[af hb];exact e⟩
 .obtain⟨v,ev,k⟩:=rep.slot i sl e;refine⟨v,ev,?_⟩;cases sl with
  |val d' fr=>exact Is.view vl vf vt vd (fun a z=>msk_still.mpr z) k
  |own ds fr=>obtain⟨a,vs,rfl,h1,h2,h3⟩:=k;exact⟨a,vs,rfl,vl _ _ h1,h2,IsAll.view vl vf vt vd (fun a z=>msk_still.mpr z) h3⟩
  |tre d'=>exact Is.view vl vf vt vd (fun a z=>z) k
  |pin d'=>exact⟨Is.view vl vf vt vd (fun a z=>z) k.1,k.2⟩
  |dis d'=>exact⟨Is.view vl vf vt vd (fun a z=>z) k.1,k.2.mono (fun a o' z e=>by rw[af (pn i a z)];exact e) fun _ z=>z⟩
  |fix n q0=>
   cases q0 with
   |no=>exact⟨k.1,True.intro⟩
   |tr d'=>exact⟨k.1,Is.view vl vf vt vd (fun a z=>z) k.2⟩
   |ds d'=>exact⟨k.1,Is.view vl vf vt vd (fun a z=>z) k.2.1,k.2.2.mono (fun a o' z e=>by rw[af (pn i a z)];exact e) fun _ z=>z⟩
  |mes d'=>exact IsSh.view vl vt k
  |kon a'=>exact k
 .obtain⟨q1,q2,q3⟩:=rep.priv i a h;exact⟨q1,(bS a).mpr q2,q3.same fun o' e=>by rw[af (pn i a h)];exact e⟩
 .by_cases hb:a=d
  .rw[hb,ai];simp
  .rw[af hb];exact rep.zz a (z.resolve_right hb)
theorem Rep.unstill (rep:Rep (cO g d o u) M ρ env σ H)(hd:H d=some (.frz o u))(hu:dI u)(hm:M d)(hx:∀ x,g.H₀ d=some x->x=u):Rep g M ρ env σ (ay H d u):=by
 have n1:∀ a vs,H a=some (.lst vs)->a≠d:=fun a vs e z=>by subst z;rw[hd]at e;cases e
 have n2:∀ a o' vs,H a=some (.frz o' (.lst vs))->a≠d:=fun a o' vs e z=>by subst z;rw[hd]at e;cases e;exact hu
 have n3:∀ a vs,H a=some (.tup vs)->a≠d:=fun a vs e z=>by subst z;rw[hd]at e;cases e
 have vl:∀ a vs,H a=some (.lst vs)->ay H d u a=some (.lst vs):=fun a vs e=>by rw[af (n1 a vs e)];exact e
 have vf:∀ a o' vs,H a=some (.frz o' (.lst vs))->ay H d u a=some (.frz o' (.lst vs)):=fun a o' vs e=>by rw[af (n2 a o' vs e)];exact e
 have vt:∀ a vs,H a=some (.tup vs)->ay H d u a=some (.tup vs):=fun a vs e=>by rw[af (n3 a vs e)];exact e
 have vd:∀ a u',dI u'->Rd H a u'->Rd (ay H d u) a u':=fun a u' hu' e=>by
  by_cases ha:a=d
  .subst ha;rcases e with e|⟨o',e⟩
   .rw[hd]at e;cases e;exact hu'.elim
   .rw[hd]at e;cases e;exact .inl ai
  .exact io e fun o' q=>by rw[af ha];exact q
 have muu:Mu (ay H d u) d:=⟨u,ai,by cases u<;>first|exact True.intro|exact hu.elim⟩;have pn:∀ i a,ρ i a->a≠d:=fun i a h z=>(rep.priv i a h).1 (z▸hm);refine⟨fun b x e=>?_,fun a ha=>?_,fun a ha=>(rep.inn a ha).imp (bS a).mp id,fun a ha h0=>?_,fun i sl e=>?_,fun i a h=>?_,rep.apart,rep.ow,rep.len,fun a z=>?_⟩
 .by_cases hb:b=d
  .subst hb;rw[hx x e,ai]
  .rw[af hb];exact rep.same b x (by rw[i6 hb];exact e)
 .by_cases hb:a=d
  .rw[hb];exact muu.some
  .rw[af hb];exact rep.froz a ha
 .by_cases hb:a=d
  .rw[hb];exact .inl muu
  .rcases rep.fl a ha ((bS a).mpr h0) with q|⟨q,o',u',e⟩
   .exact .inl (q.same fun o' e=>by rw[af hb];exact e)
   .exact .inr ⟨q.resolve_right hb,o',u',by rw[af hb];exact e⟩
 .obtain⟨v,ev,k⟩:=rep.slot i sl e;refine⟨v,ev,?_⟩;cases sl with
  |val d' fr=>exact Is.view vl vf vt vd (fun a z=>msk_still.mp z) k
  |own ds fr=>obtain⟨a,vs,rfl,h1,h2,h3⟩:=k;exact⟨a,vs,rfl,vl _ _ h1,h2,IsAll.view vl vf vt vd (fun a z=>msk_still.mp z) h3⟩
  |tre d'=>exact Is.view vl vf vt vd (fun a z=>z) k
  |pin d'=>exact⟨Is.view vl vf vt vd (fun a z=>z) k.1,k.2⟩
  |dis d'=>exact⟨Is.view vl vf vt vd (fun a z=>z) k.1,k.2.mono (fun a o' z e=>by rw[af (pn i a z)];exact e) fun _ z=>z⟩
  |fix n q0=>
   cases q0 with
   |no=>exact⟨k.1,True.intro⟩
   |tr d'=>exact⟨k.1,Is.view vl vf vt vd (fun a z=>z) k.2⟩
   |ds d'=>exact⟨k.1,Is.view vl vf vt vd (fun a z=>z) k.2.1,k.2.2.mono (fun a o' z e=>by rw[af (pn i a z)];exact e) fun _ z=>z⟩
  |mes d'=>exact IsSh.view vl vt k
  |kon a'=>exact k
 .obtain⟨q1,q2,q3⟩:=rep.priv i a h;exact⟨q1,(bS a).mp q2,q3.same fun o' e=>by rw[af (pn i a h)];exact e⟩
 .by_cases hb:a=d
  .rw[hb];exact muu.some
  .rw[af hb];exact rep.zz a (.inl z)
end
noncomputable def kD:Key->D
 | .inl i=>.int i
 | .inr x=>.str x
def kE:List DK->Option (List D)
 | []=>some []
 | .inl k::r=>(kE r).map (kD k::·)
 | .inr _::_=>none
noncomputable def kF (asg:D->Bool->En->Option En)(body:En->Res Fl):List D->En->Res Fl
 | [],env=>.ok (.nx env)
 |x::xs,env=>match asg x true env with
  |none=>.stuck
  |some cu=>match body cu with
   | .ok (.nx aJ)=>kF asg body xs aJ
   | .ok (.ct aJ)=>kF asg body xs aJ
   | .ok (.bk aJ)=>.ok (.nx aJ)
   |_=>.stuck
def CO (asg:D->Bool->En->Option En)(body:En->Res Fl)(env:En)(r:R):Res Fl:=match r.d with
 | .dic ks _=>match kE ks with
  |some xs=>kF asg body xs (frz env r.al)
  |none=>.stuck
 |_=>.stuck
def yF (f:En->Res R)(asg:D->Bool->En->Option En)(body:En->Res Fl):En->Res Fl:=fun env=>(f env).bind (CO asg body env)
theorem i7:∀{kvs:List (Key×V)}{xs:List D},kE (kvs.map fun p=>.inl p.1)=some xs->xs=kvs.map fun p=>kD p.1
 | [],_,e=>by cases e;rfl
 |p::r,_,e=>by rw[J4]at e;unfold kE at e;obtain⟨y,e1,rfl⟩:=Kw.mp e;rw[i7 e1];rfl
theorem uX {H:Hp}{m:Addr->Prop}(k:Key):Is H m (kD k) (kV k):=by cases k<;>exact rfl
section
variable {X:Cx}{E:XK}{tg:Expr}
theorem bT {ix:List Nat}{l:Expr}{body:List Stmt}{f:En->Res R}{asg:D->Bool->En->Option En}{fb:En->Res Fl}{pos:Pos}(hp:PassesOwn (model X.prog X.w) X.A X.env X.xe)(hc:X.calm=true)
 (hl:PD X E l f) (hg:ye X ix tg asg) (hb:iu X E body fb) (hs:autoParam (∀ x,foldedSetIterable l X.env x=pure x) Nn._auto_1):ju X E (.For tg l body [] pos) (yF f asg fb):=by
 obtain⟨tl,p1,s1⟩:=hl;obtain⟨u,p2,s2⟩:=hg;obtain⟨tb,p3,s3⟩:=hb;refine⟨_,DR (oM hp hc (uB p1) p2 p3 hs),fun g M ρ env σ H D rep p=>?_⟩;refine s1.oneS rep p fun r v M0 H1 e1 rep0 ro p0=>?_;obtain⟨M1,x1,x1m,rep1,is1⟩:=ro.is rep0 e1 rep.same;obtain⟨M2,ρ2,x2,rep2,o2,_,_⟩:=Rep.frz r.al rep1;have is2:Is H1 (msk g M2 r.fr) r.d v:=Is.frozen rep1 x2 o2 is1;have p2':=PostS.frz (⟨fun a z=>x2 a (x1m a z),fun _ _ q _=>q⟩ : Frz M0 H1 M2 H1) p0;clear p0 p;unfold CO at p2';cases qd:r.d with
 |dic ks ds=>
  rw[qd]at p2' is2;dsimp only at p2';cases qk:kE ks with
  |none=>rw[qk]at p2';exact p2'.elim
  |some xs=>
   rw[qk]at p2';dsimp only at p2';obtain⟨d,vs,rfl,⟨dat,md⟩,_⟩:=is2;have md:M2 d:=md.1;have shape:∃ kvs u,(u=.dK kvs\/(u=.dT []/\kvs=[]))/\Rd H1 d u/\xs=kvs.map fun p=>kD p.1:=by
    rcases dat with⟨kvs,e,rfl,_⟩|⟨kvs,e,rfl,_⟩
    .exact⟨kvs,_,.inl rfl,e,i7 qk⟩
    .cases kvs with
     |nil=>cases qk;exact⟨[],_,.inr ⟨rfl,rfl⟩,e,rfl⟩
     |cons p r=>cases qk
   obtain⟨kvs,u',hu',hrd,rfl⟩:=shape;have d9:dI u':=by rcases hu' with rfl|⟨rfl,_⟩<;>exact True.intro
   have loop:∀(g':Gd)(o:Obj)(H2:Hp),Rep g' M2 ρ2 (frz env r.al) σ H2->H2 d=some (.frz o u')->
    (∀ aJ,kF asg fb (kvs.map fun p=>kD p.1) (frz env r.al)=.ok (.nx aJ)->∀ σ' M' ρ' H',Frz M2 H2 M' H'->Rep g' M' ρ' aJ σ' H'->(unD X D).nx σ' H')->
    ∃ W:Nat->Nat->St->Hp->Prop,(∃ m,W 0 m σ H2)/\∀ i m σ H,W i m σ H->((CG d o u' kvs).stop i H/\(unD X D).nx σ H)\/((CG d o u' kvs).go i H/\∃ N:St->Hp->Prop,(∀ σ' H',N σ' H'->∃ m',m'<m/\W (i+1) m' σ' H')/\∀ x H',(CG d o u' kvs).yld i H x H'->u x σ H' fun σ2 H2=>tb { unD X D with nx:=N,ct:=N,bk:=(unD X D).nx } σ2 H2):=by
    intro g' o H2 repL hz fin;have nst:kF asg fb (kvs.map fun p=>kD p.1) (frz env r.al)≠.stuck:=fun z=>by rw[z]at p2';exact p2'
    have shp:∀(ys:List L3.D)(en:En),kF asg fb ys en=.stuck\/∃ en',kF asg fb ys en=.ok (.nx en'):=by
     intro ys;induction ys with
     |nil=>intro en;exact .inr ⟨en,rfl⟩
     |cons y ys ih=>
      intro en;unfold kF;cases asg y true en with
      |none=>exact .inl rfl
      |some e1=>
       dsimp only;cases fb e1 with
       |stuck=>exact .inl rfl
       |exc c=>exact .inl rfl
       |ok fl=>
        cases fl with
        |nx e2=>exact ih e2
        |ct e2=>exact ih e2
        |bk e2=>exact .inr ⟨e2,rfl⟩
        |rt r=>exact .inl rfl
        |rm r e2=>exact .inl rfl
    obtain⟨envE,hE⟩:=(shp (kvs.map fun p=>kD p.1) (frz env r.al)).resolve_left nst;refine⟨fun i m σ' H'=>m=kvs.length-i/\i<=kvs.length/\∃ M' ρ' aJ,Rep g' M' ρ' aJ σ' H'/\Frz M2 H2 M' H'/\kF asg fb ((kvs.drop i).map fun p=>kD p.1) aJ=.ok (.nx envE),⟨_,rfl,Kz _,M2,ρ2,_,repL,Frz.refl _ _,hE⟩,?_⟩;rintro i m σ' H' ⟨rfl,hle,M',ρ',aJ,rep',f',q'⟩;have hd':H' d=some (.frz o u'):=f'.h d _ hz (.inl md);by_cases hlt:i<kvs.length
    .have edrop:kvs.drop i=kvs[i]::kvs.drop (i+1):=Lg hlt;rw[edrop,J4]at q';unfold kF at q';cases qa:asg (kD kvs[i].1) true aJ with
     |none=>simp only[qa]at q';cases q'
     |some cu=>
      simp only[qa]at q';refine .inr ⟨⟨hd',hlt⟩,fun σ'' H''=>∃ M'' ρ'' env'',Rep g' M'' ρ'' env'' σ'' H''/\Frz M2 H2 M'' H''/\kF asg fb ((kvs.drop (i+1)).map fun p=>kD p.1) env''=.ok (.nx envE),fun σ'' H'' z=>⟨kvs.length-(i+1),by omega,rfl,hlt,z⟩,fun x H'' y=>?_⟩;obtain⟨rfl,k,v,ek,rfl⟩:=y;have ek':kvs[i].1=k:=by
       have:kvs[i]?=some kvs[i]:=by simp[hlt]
       exact KQ Prod.fst (Kq (this.symm.trans ek))
      rw[ek']at qa;refine s2 g' M' ρ' aJ cu σ' _ _ true (kV k) _ rep' (uX k) qa fun σ1 ρ1 rep1' _ _=>?_;refine s3 g' M' ρ1 cu σ1 _ _ rep1' ?_;cases qb:fb cu with
      |stuck=>rw[qb]at q';cases q'
      |exc c=>rw[qb]at q';cases q'
      |ok fl=>
       rw[qb]at q';cases fl with
       |nx e3=>exact fun σ3 M3 ρ3 H3 f3 rep3=>⟨M3,ρ3,e3,rep3,f'.trans f3,q'⟩
       |ct e3=>exact fun σ3 M3 ρ3 H3 f3 rep3=>⟨M3,ρ3,e3,rep3,f'.trans f3,q'⟩
       |bk e3=>simp only[Res.ok.injEq,Fl.nx.injEq]at q';subst q';exact fun σ3 M3 ρ3 H3 f3 rep3=>fin _ hE σ3 M3 ρ3 H3 (f'.trans f3) rep3
       |rt r=>cases q'
       |rm r e2=>cases q'
    .have e:i=kvs.length:=by omega
     subst e;rw[Nb]at q';simp only[MP]at q';unfold kF at q';simp only[Res.ok.injEq,Fl.nx.injEq]at q';subst q';exact .inl ⟨⟨hd',J1 _⟩,fin _ hE σ' M' ρ' H' f' rep'⟩
   refine⟨d,kvs,u',rfl,hu',?_⟩;rcases hrd with hrd|⟨o,hrd⟩
   .right;refine⟨hrd,fun o hnf=>loop (cO g d o u') o _ (rep2.still hrd d9 md) ai fun aJ hE σ' M' ρ' H' f' rep'=>?_⟩;rw[hE]at p2';have hd':H' d=some (.frz o u'):=f'.h d _ ai (.inl md);have hx:∀ x,g.H₀ d=some x->x=u':=fun x e=>by have:=rep2.same d x e;rw[hrd]at this;cases this;rfl
    have rep3:=rep'.unstill hd' d9 (f'.m d md) hx;refine .inr ⟨d,o,u',hd',d9,hnf,p2' σ' M' ρ' _ ⟨f'.m,fun a x e z=>?_⟩ rep3⟩;by_cases ha:a=d
    .subst ha;rw[hrd]at e;cases e;exact ai
    .rw[af ha];exact f'.h a x (by rw[af ha];exact e) z
   .left;refine⟨o,hrd,loop g o H1 rep2 hrd fun aJ hE σ' M' ρ' H' f' rep'=>?_⟩;rw[hE]at p2';exact .inl (p2' σ' M' ρ' H' f' rep')
 |_=>rw[qd]at p2';exact p2'.elim
end
def Bf:List R->Res Src
 | [r]=>match r.d with
  | .lst ds=>.ok ⟨ds.reverse,r.fr,r.al⟩
  |_=>.stuck
 |_=>.stuck
def Ew (fs:En->Res (List R)):En->Res Src:=fun env=>(fs env).bind Bf
section
variable {X:Cx}{E:XK}{tg:Expr}
theorem yG {K:Ng}{a:Addr}{m:Addr->Prop}{H:Hp}{ds:List D}{vs:List V}(h:(H a=some (.lst vs)/\m a)\/∃ o,H a=some (.frz o (.lst vs))/\m a)(is:IsAll H m ds vs):Walk (IR K a vs.length) m H ds.reverse:=by
 have st:∀ H',(∀ a o,H a=some o->(m a\/fixd o)->H' a=some o)->SqL K H' a vs:=fun H' k=>by
  rcases h with⟨h,hm⟩|⟨o,h,_⟩
  .exact .inl (.inl (k a _ h (.inl hm)))
  .exact .inl (.inr ⟨o,k a _ h (.inr True.intro)⟩)
 have hl:=is.length;refine⟨fun H' i d k e=>?_,fun H' k=>by show vs.length<=ds.reverse.length;rw[ML,hl];exact J1 _⟩;have hi:i<ds.length:=by have:=(JY.mp e).1;simpa using this
 rw[List.getElem?_reverse hi]at e;obtain⟨v,ev,iv⟩:=(is.mono k fun _ _ _ z=>z:IsAll H' m ds vs).get e;refine⟨⟨vs,st H' k,rfl,by omega⟩,fun x H'' y=>?_⟩;obtain⟨rfl,y⟩:=y;have:=y vs (st _ k);rw[hl,ev]at this;cases this;exact⟨Same.refl _,iv⟩
theorem Bg {l:Expr} {fs:En->Res (List R)} {p pos:Pos} (hg:Gl X "reversed") (hm:X.mg "reversed"=none) (ha:Ap X E [l] fs) (hs:autoParam (starEach [l] X.env=[(false,eval l X.env)]) Nq._auto_1):Eh X E tg (.Call (.Name "reversed" p) [l] [] pos) (Ew fs):=by
 obtain⟨t,p1,s1⟩:=ha;refine⟨_,DU hg hm p1 hs,fun g M ρ env σ H Rq rep p=>s1.one rep (P:=fun M H r=>PostI X.mg E g M ρ env σ H Rq r) p (fun _ _ z=>z) (fun _ _ _ z=>z) (fun _ _ _ _ _ e p=>p.ext e) fun rs vs M1 H1 e1 rep1 is q=>?_⟩
 match rs,is,q with
 | [r],is,q=>
  obtain⟨v,w,rfl,i1,i2⟩:=is;cases i2;have i1:Is H1 (vmsk g M1 (a_ [r]) ρ (bc [r])) r.d v:=i1;replace i1:=i1.weak fun _ z=>pz z;unfold Bf at q;dsimp only at q;cases z:r.d with
  |lst ds=>rw[z]at i1 q;obtain⟨a,ws,rfl,h1,h2⟩:=i1;exact⟨a,ws,rfl,.inl (h1.imp (·.1) fun⟨o,z,_⟩=>⟨o,z⟩),q _ M1 H1 (Ext.refl _ _) rep1 (yG h1 h2)⟩
  |_=>rw[z]at q;exact q.elim
 | [],_,q=>exact q.elim
 |_::_::_,_,q=>exact q.elim
end
def yH:D->Option (Key×D)
 | .tup [k,v]=>(yu k).map fun k=>(k,v)
 |_=>none
def gE:List D->Option (List (Key×D))
 | []=>some []
 |d::ds=>match yH d,gE ds with
  |some p,some ps=>some (p::ps)
  |_,_=>none
def t9 (t:List (Key×D))(k:Key)(d:D):List (Key×D):=if (t.any fun x=>decide (x.1=k))=true then t.map (fun x=>if x.1=k then (x.1,d) else x) else t++[(k,d)]
def i8 (t ps:List (Key×D)):List (Key×D):=ps.foldl (fun t x=>t9 t x.1 x.2) t
noncomputable def Bh (t:List (Key×D)):D:=.dic (t.map fun p=>.inl p.1) (t.map Prod.snd)
def jK:List R->Res R
 | [r]=>match r.d with
  | .lst ds=>match gE ds with
   |some ps=>if D.flats ((i8 [] ps).map Prod.snd) then .ok (.fre (Bh (i8 [] ps))) else .stuck
   |none=>yz [r]
  |_=>.stuck
 |_=>.stuck
section
variable {H:Hp}{m:Addr->Prop}
def REK (H:Hp)(m:Addr->Prop):List (Key×V)->List (Key×D)->Prop:=Paired fun a b=>a.1=b.1/\Is H m b.2 a.2
theorem REK.fst {a:List (Key×V)}{b:List (Key×D)}(r:REK H m a b):a.map Prod.fst=b.map Prod.fst:=by
 induction r with
 |nil=>rfl
 |cons h _ ih=>rw[J4,J4,ih,h.1]
theorem REK.snd {a:List (Key×V)}{b:List (Key×D)}(r:REK H m a b):IsAll H m (b.map Prod.snd) (a.map Prod.snd):=by
 induction r with
 |nil=>rfl
 |cons h _ ih=>exact⟨_,_,rfl,h.2,ih⟩
theorem REK.of:∀{a:List (Key×V)}{b:List (Key×D)},a.map Prod.fst=b.map Prod.fst->IsAll H m (b.map Prod.snd) (a.map Prod.snd)->REK H m a b
 | [],[],_,_=>.nil
 | [],_::_,e,_=>by cases e
 |_::_,[],e,_=>by cases e
 |p::a,q::b,e,h=>by obtain⟨v,r,z,h1,h2⟩:=h;cases z;simp only[J4,List.cons.injEq]at e;exact .cons ⟨e.1,h1⟩ (REK.of e.2 h2)
theorem REK.append {a c:List (Key×V)}{b d:List (Key×D)}(r:REK H m a b)(s:REK H m c d):REK H m (a++c) (b++d):=by
 induction r with
 |nil=>exact s
 |cons h _ ih=>exact .cons h ih
theorem REK.any {a:List (Key×V)}{b:List (Key×D)}(r:REK H m a b)(k:Key):(a.any fun x=>decide (x.1=k))=(b.any fun x=>decide (x.1=k)):=by
 induction r with
 |nil=>rfl
 |cons h _ ih=>rw[Lf,Lf,ih,h.1]
theorem REK.repl {a:List (Key×V)}{b:List (Key×D)}{k:Key}{v:V}{d:D}(r:REK H m a b)(h:Is H m d v):REK H m (a.map fun x=>if x.1=k then (x.1,v) else x) (b.map fun x=>if x.1=k then (x.1,d) else x):=by
 induction r with
 |nil=>exact .nil
 | @cons p q ps qs hq t ih=>
  refine .cons ?_ ih;dsimp only;by_cases e:p.1=k
  .rw[JW e,JW (hq.1▸e)];exact⟨hq.1,h⟩
  .rw[J0 e,J0 (fun z=>e (hq.1.trans z))];exact hq
theorem REK.put {a:List (Key×V)}{b:List (Key×D)}{k:Key}{v:V}{d:D}(r:REK H m a b)(h:Is H m d v):REK H m (bq a k v) (t9 b k d):=by
 unfold bq t9;rw[r.any k];split
 .exact r.repl h
 .exact r.append (.cons ⟨rfl,h⟩ .nil)
theorem REK.merge {a c:List (Key×V)}{b d:List (Key×D)}(r:REK H m a b)(s:REK H m c d):REK H m (bL a c) (i8 b d):=by
 induction s generalizing a b with
 |nil=>exact r
 | @cons p q ps qs hq t ih=>have:=ih (r.put (k:=p.1) hq.2);show REK H m (bL (bq a p.1 p.2) ps) (i8 (t9 b q.1 q.2) qs);rw[<- hq.1];exact this
theorem nP:∀{ds:List D}{vs:List V}{ps:List (Key×D)},IsAll H m ds vs->gE ds=some ps->∃ kvs,jA H vs kvs/\REK H m kvs ps
 | [],_,_,h,e=>by cases h;cases e;exact⟨[],.nil,.nil⟩
 |d::ds,_,ps,h,e=>by
  obtain⟨v,r,rfl,h1,h2⟩:=h;unfold gE at e;cases q:yH d with
  |none=>rw[q]at e;cases e
  |some p=>
   cases q2:gE ds with
   |none=>rw[q,q2]at e;cases e
   |some ps'=>
    rw[q,q2]at e;cases e;obtain⟨kvs,k1,k2⟩:=nP h2 q2;unfold yH at q;split at q
    .rename_i kd vd;obtain⟨a,vs2,rfl,g1,g2⟩:=h1;obtain⟨y1,r1,rfl,i1,y2,r2,rfl,i2,i3⟩:=g2;cases i3;cases q3:yu kd with
     |none=>rw[q3]at q;cases q
     |some kk=>rw[q3]at q;cases q;have:=i1.key q3;subst this;exact⟨(kk,y2)::kvs,.cons ⟨a,rfl,g1⟩ k1,.cons ⟨rfl,i2⟩ k2⟩
    .cases q
theorem Bi {b:Addr}{u:HO}{kvs:List (Key×V)}{t:List (Key×D)}(e:H b=some (.dK kvs))(r:REK H m kvs t)(hb:m b):Is H m (Bh t) (.ref b):=by refine⟨b,_,rfl,⟨.inl ⟨kvs,.inl e,?_,rfl⟩,hb⟩,r.snd⟩;have:=KQ (List.map fun k:Key=>(Sum.inl k:DK)) r.fst;rw[Kl,Kl]at this;exact this.symm
theorem REK.flat {m':Addr->Prop}{a:List (Key×V)}{b:List (Key×D)}(hf:D.flats (b.map Prod.snd)=true)(r:REK H m a b):REK H m' a b:=REK.of r.fst (IsAll.flat hf r.snd)
theorem REK.same {H':Hp}(s:Same H H'){a:List (Key×V)}{b:List (Key×D)}(r:REK H m a b):REK H' m a b:=REK.of r.fst (IsAll.same s r.snd)
end
section
variable {X:Cx}{E:XK}
theorem yI (hc:X.calm=true) (hu:X.A.units+64<cLine):lP X E (.type "dict") jK:=by
 obtain⟨r0,c0,s0⟩:=Bb (X:=X) (E:=E) hc hu;refine⟨fun xs H Q=>(∃ l vs kvs,xs=[.ref l]/\Rd H l (.lst vs)/\jA H vs kvs/\∀ p,H p=none->Q (.ref p) (ay H p (.dK (bL [] kvs))))\/r0 xs H Q,fun pins s σ H xs us Q I r h=>h.elim (lB hc pins s σ H xs us Q I r) (c0 pins s σ H xs us Q I r),fun g M ρ env σ H Q rs vs rep i p=>?_⟩
 match rs,i,p with
 | [r],i,p=>
  unfold jK at p;dsimp only at p;cases q:r.d with
  |lst ds=>
   rw[q]at p;dsimp only at p;cases q2:gE ds with
   |none=>rw[q2]at p;exact .inr (s0 g M ρ env σ H Q [r] vs rep i p)
   |some ps=>
    rw[q2]at p;dsimp only at p;left;obtain⟨v,w,rfl,i1,i2⟩:=i;cases i2;have i1:Is H (vmsk g M (a_ [r]) ρ (bc [r])) r.d v:=i1;rw[q]at i1;obtain⟨a,ws,rfl,h1,h2⟩:=i1.rd;obtain⟨kvs,k1,k2⟩:=nP h2 q2;refine⟨a,ws,kvs,rfl,h1,k1,fun b hb=>?_⟩;have rk:REK H _ (bL [] kvs) (i8 [] ps):=REK.merge .nil k2;have s:Same H (ay H b (.dK (bL [] kvs))):=aV hb;by_cases hf:D.flats ((i8 [] ps).map Prod.snd)=true
    .rw[JW hf]at p;exact p _ M _ ⟨fun _ z=>z,s,fun _ z=>.inl z⟩ (rep.grow s) (pF rep hb (Bi (u:=.dK []) ai ((rk.flat hf).same s) rfl) ⟨_,ai,True.intro⟩)
    .rw[J0 hf]at p;exact p.elim
  |_=>rw[q]at p;exact p.elim
 | [],_,p=>exact p.elim
 |_::_::_,_,p=>exact p.elim
end
theorem REK.length {H:Hp}{m:Addr->Prop}{a:List (Key×V)}{b:List (Key×D)}(r:REK H m a b):a.length=b.length:=LX r
section
variable {X:Cx}{E:XK}
end
noncomputable abbrev Tri:=Int×Int×Int
noncomputable def dd (l:List Int)(x:Int):List Int:=if x∈l then l else l++[x]
def bV (xs:List Int):List Int:=xs.foldl dd []
def g1 (ts:List Tri):List Int:=bV (ts.map (·.1))
def g2 (ts:List Tri)(x:Int):List Int:=bV ((ts.filter fun t=>decide (t.1=x)).map (·.2.1))
noncomputable def g3 (ts:List Tri)(x y:Int):List Int:=(ts.filter fun t=>decide (t.1=x)&&decide (t.2.1=y)).map (·.2.2)
noncomputable def ik (i:Int):DK:=.inl (.inl i)
def iA (ts:List Tri)(x:Int):D:=.dic ((g2 ts x).map ik) ((g2 ts x).map fun y=>.lst ((g3 ts x y).map .int))
def bN (ts:List Tri):D:=.dic ((g1 ts).map ik) ((g1 ts).map (iA ts))
theorem nQ (xs:List Int)(x:Int):bV (xs++[x])=dd (bV xs) x:=by unfold bV;rw[MA];rfl
theorem cm (l:List Int)(x y:Int):y∈dd l x↔y∈l\/y=x:=by
 unfold dd;split
 .rename_i h;exact⟨.inl,fun z=>z.elim id fun e=>e▸h⟩
 .simp
theorem du (ts:List Tri)(x y z:Int):g1 (ts++[(x,y,z)])=dd (g1 ts) x:=by unfold g1;rw[Ki];exact nQ _ _
theorem cD (ts:List Tri)(x y z u:Int):g2 (ts++[(x,y,z)]) u=if x=u then dd (g2 ts u) y else g2 ts u:=by
 unfold g2;rw[List.filter_append,Ki];by_cases h:x=u
 .rw[JW h];have:([(x,y,z)]:List Tri).filter (fun t=>decide (t.1=u))=[(x,y,z)]:=by simp[h]
  rw[this];exact nQ _ _
 .rw[J0 h];have:([(x,y,z)]:List Tri).filter (fun t=>decide (t.1=u))=[]:=by simp[h]
  rw[this];simp
theorem pL (ts:List Tri)(x y z u v:Int):g3 (ts++[(x,y,z)]) u v=if x=u/\y=v then g3 ts u v++[z] else g3 ts u v:=by
 unfold g3;rw[List.filter_append,Ki];by_cases h:x=u/\y=v
 .rw[JW h];have:([(x,y,z)]:List Tri).filter (fun t=>decide (t.1=u)&&decide (t.2.1=v))=[(x,y,z)]:=by simp[h.1,h.2]
  rw[this];rfl
 .rw[J0 h];have:([(x,y,z)]:List Tri).filter (fun t=>decide (t.1=u)&&decide (t.2.1=v))=[]:=by rw[MF,J0,List.filter_nil];simpa using h
  rw[this];simp
theorem fH (y:Int):∀(xs:List Int)(l:List Int),y∈xs.foldl dd l↔y∈l\/y∈xs
 | [],l=>by simp
 |x::xs,l=>by rw[K_,fH y xs,cm,J5,or_assoc]
theorem t_ (ts:List Tri)(x:Int):x∈g1 ts↔∃ t∈ts,t.1=x:=by unfold g1 bV;rw[fH];simp
theorem jL (ts:List Tri)(x y:Int):y∈g2 ts x↔∃ t∈ts,t.1=x/\t.2.1=y:=by
 unfold g2 bV;rw[fH,J8];constructor
 .rintro (h|⟨t,h1,h2⟩)
  .simp at h
  .rw[KS]at h1;exact⟨t,h1.1,by simpa using h1.2,h2⟩
 .rintro⟨t,h1,h2,h3⟩;exact .inr ⟨t,KS.mpr ⟨h1,by simpa using h2⟩,h3⟩
theorem pM {ts:List Tri}{x:Int}(h:x∉g1 ts):g2 ts x=[]:=by rw[LI];intro y hy;obtain⟨t,h1,h2,_⟩:=(jL ts x y).mp hy;exact h ((t_ ts x).mpr ⟨t,h1,h2⟩)
theorem uY {ts:List Tri}{x y:Int}(h:y∉g2 ts x):g3 ts x y=[]:=by unfold g3;rw[List.map_eq_nil_iff,List.filter_eq_nil_iff];intro t ht z;simp only[Kh,LG]at z;exact h ((jL ts x y).mpr ⟨t,ht,z.1,z.2⟩)
theorem pN (l:List Int)(x:Int):(dd l x).length<=l.length+1:=by unfold dd;split<;>simp
theorem l9:∀(xs l:List Int),(xs.foldl dd l).length<=l.length+xs.length
 | [],l=>by simp
 |x::xs,l=>by rw[K_];have:=l9 xs (dd l x);have h2:=pN l x;simp only[KD];omega
theorem Ex (ts:List Tri):(g1 ts).length<=ts.length:=by unfold g1 bV;have:=l9 (ts.map (·.1)) [];simpa using this
theorem Ey (ts:List Tri)(x:Int):(g2 ts x).length<=ts.length:=by unfold g2 bV;have:=l9 ((ts.filter fun t=>decide (t.1=x)).map (·.2.1)) [];have h2:=Lz (fun t:Tri=>decide (t.1=x)) ts;simp at this ⊢;omega
theorem ua (ts:List Tri)(x y:Int):(g3 ts x y).length<=ts.length:=by unfold g3;rw[JU];exact Lz _ _
noncomputable def kvI (l:List Int)(A:Int->Addr):List (Key×V):=l.map fun x=>(.inl x,.ref (A x))
theorem kU (l:List Int)(A:Int->Addr)(x:Int):dj (kvI l A) (.inl x)=if x∈l then some (.ref (A x)) else none:=by
 induction l with
 |nil=>rfl
 |cons y l ih=>
  unfold kvI at ih ⊢;rw[J4];by_cases h:y=x
  .rw[dH (by rw[h]),JW (by rw[h];exact Kg),h]
  .rw[c4 (by intro z;exact h (KH z)),ih];by_cases hx:x∈l
   .rw[JW hx,JW (Kc _ hx)]
   .rw[J0 hx,J0];intro z;rcases J5.mp z with z|z
    .exact h z.symm
    .exact hx z
theorem uZ {l:List Int}{A:Int->Addr}{x:Int}{b:Addr}(h:x∉l):bq (kvI l A) (.inl x) (.ref b)=kvI (l++[x]) (fun u=>if u=x then b else A u):=by
 have e:kvI l (fun u=>if u=x then b else A u)=kvI l A:=by unfold kvI;refine K4 fun u hu=>?_;show(_:Key×V)=_;dsimp only;rw[J0 (show ¬ u=x from fun z=>h (by rw[<- z];exact hu))]
 unfold bq;rw[J0]
 .show _=kvI (l++[x]) _;unfold kvI at e ⊢;rw[Ki,e];simp
 .intro z;obtain⟨p,hp,hq⟩:=Lw.mp z;obtain⟨u,hu,rfl⟩:=J8.mp hp;have:(Sum.inl u:Key)=.inl x:=LC hq;exact h (KH this▸hu)
structure Gr (H:Hp) (a:Addr) (ts:List Tri) (A:Int->Addr) (B:Int->Int->Addr):Prop where
 root:H a=some (.dK (kvI (g1 ts) A))\/(g1 ts=[]/\H a=some (.dT []))
 inn:∀ x∈g1 ts,H (A x)=some (.dK (kvI (g2 ts x) (B x)))
 leaf:∀ x y,y∈g2 ts x->H (B x y)=some (.lst ((g3 ts x y).map .int))
 d1:∀ x∈g1 ts,A x≠a
 d2:∀ x∈g1 ts,∀ x'∈g1 ts,A x=A x'->x=x'
 d3:∀ x y,y∈g2 ts x->∀ x' y',y'∈g2 ts x'->B x y=B x' y'->x=x'/\y=y'
def qB (a:Addr)(ts:List Tri)(A:Int->Addr)(B:Int->Int->Addr)(b:Addr):Prop:=b=a\/(∃ x∈g1 ts,b=A x)\/∃ x y,y∈g2 ts x/\b=B x y
theorem G3 {ts:List Tri}{x y:Int}(h:y∈g2 ts x):x∈g1 ts:=by obtain⟨t,h1,h2,_⟩:=(jL ts x y).mp h;exact(t_ ts x).mpr ⟨t,h1,h2⟩
section
variable {H:Hp}{a:Addr}{ts:List Tri}{A:Int->Addr}{B:Int->Int->Addr}{x y z:Int}
theorem Gr.both (G:Gr H a ts A B)(hx:x∈g1 ts)(hy:y∈g2 ts x){H':Hp}(hm:H' (B x y)=some (.lst ((g3 ts x y++[z]).map .int)))(kp:∀ c u,H c=some u->c≠B x y->H' c=some u):Gr H' a (ts++[(x,y,z)]) A B:=by
 have e1:g1 (ts++[(x,y,z)])=g1 ts:=by rw[du];unfold dd;rw[JW hx]
 have e2:∀ u,g2 (ts++[(x,y,z)]) u=g2 ts u:=fun u=>by
  rw[cD];split
  .rename_i h;subst h;unfold dd;rw[JW hy]
  .rfl
 have hl:=G.leaf x y hy;have na:a≠B x y:=fun e=>by
  rcases G.root with q|⟨q,_⟩
  .rw[e,hl]at q;cases q
  .rw[q]at hx;simp at hx
 refine⟨?_,fun u hu=>?_,fun u v hv=>?_,by rw[e1];exact G.d1,by rw[e1];exact G.d2,fun u v hv u' v' hv'=>by rw[e2]at hv hv';exact G.d3 u v hv u' v' hv'⟩
 .rw[e1];rcases G.root with q|⟨q,_⟩
  .exact .inl (kp a _ q na)
  .rw[q]at hx;simp at hx
 .rw[e1]at hu;rw[e2];refine kp _ _ (G.inn u hu) fun e=>?_;have:=G.inn u hu;rw[e,hl]at this;cases this
 .rw[e2]at hv;rw[pL];by_cases h:x=u/\y=v
  .obtain⟨rfl,rfl⟩:=h;rw[JW ⟨rfl,rfl⟩];exact hm
  .rw[J0 h];exact kp _ _ (G.leaf u v hv) fun e=>h ((G.d3 u v hv x y hy e).imp Eq.symm Eq.symm)
theorem Gr.second (G:Gr H a ts A B)(hx:x∈g1 ts)(hy:y∉g2 ts x){l:Addr}(hl:H l=none){H':Hp}(hm:H' l=some (.lst [.int z]))(hc:H' (A x)=some (.dK (kvI (g2 ts x++[y]) fun v=>if v=y then l else B x v)))
 (kp:∀ c u,H c=some u->c≠A x->H' c=some u):Gr H' a (ts++[(x,y,z)]) A (fun u v=>if u=x/\v=y then l else B u v):=by
 have e1:g1 (ts++[(x,y,z)])=g1 ts:=by rw[du];unfold dd;rw[JW hx]
 have ex:g2 (ts++[(x,y,z)]) x=g2 ts x++[y]:=by rw[cD,JW rfl];unfold dd;rw[J0 hy]
 have e2:∀ u,u≠x->g2 (ts++[(x,y,z)]) u=g2 ts u:=fun u hu=>by rw[cD,J0 (Ko hu)]
 have old:∀ u v,v∈g2 (ts++[(x,y,z)]) u->¬ (u=x/\v=y)->v∈g2 ts u:=fun u v hv hn=>by
  by_cases h:u=x
  .subst h;rw[ex]at hv;rcases Kf.mp hv with q|q
   .exact q
   .exact(hn ⟨rfl,by simpa using q⟩).elim
  .rw[e2 u h]at hv;exact hv
 refine⟨?_,fun u hu=>?_,fun u v hv=>?_,by rw[e1];exact G.d1,by rw[e1];exact G.d2,fun u v hv u' v' hv' e=>?_⟩
 .rw[e1];rcases G.root with q|⟨q,_⟩
  .exact .inl (kp a _ q (Ko (G.d1 x hx)))
  .rw[q]at hx;simp at hx
 .rw[e1]at hu;by_cases h:u=x
  .subst h;rw[ex,hc];have:(fun v=>if u=u/\v=y then l else B u v)=fun v=>if v=y then l else B u v:=by funext v;simp
   rw[this]
  .rw[e2 u h];have:(fun v=>if u=x/\v=y then l else B u v)=B u:=by funext v;rw[J0 (fun z=>h z.1)]
   rw[this];exact kp _ _ (G.inn u hu) fun e=>h (G.d2 u hu x hx e)
 .rw[pL];by_cases h:u=x/\v=y
  .obtain⟨rfl,rfl⟩:=h;rw[JW ⟨rfl,rfl⟩,JW ⟨rfl,rfl⟩,uY hy];exact hm
  .rw[J0 h,J0 (fun q=>h ⟨q.1.symm,q.2.symm⟩)];have hv':=old u v hv h;refine kp _ _ (G.leaf u v hv') fun e=>?_;have:=G.leaf u v hv';rw[e,G.inn x hx]at this;cases this
 .have nl:∀ u v,v∈g2 (ts++[(x,y,z)]) u->¬ (u=x/\v=y)->B u v≠l:=fun u v hv hn e=>by have:=G.leaf u v (old u v hv hn);rw[e,hl]at this;cases this
  try dsimp only at e
  by_cases h:u=x/\v=y<;>by_cases h':u'=x/\v'=y
  .exact⟨h.1.trans h'.1.symm,h.2.trans h'.2.symm⟩
  .rw[JW h,J0 h']at e;exact(nl u' v' hv' h' e.symm).elim
  .rw[J0 h,JW h']at e;exact(nl u v hv h e).elim
  .rw[J0 h,J0 h']at e;exact G.d3 u v (old u v hv h) u' v' (old u' v' hv' h') e
theorem Gr.first (G:Gr H a ts A B)(hx:x∉g1 ts){b l:Addr}(hb:H b=none)(hl:H l=none)(hbl:b≠l){H':Hp}(hm:H' l=some (.lst [.int z]))(hi:H' b=some (.dK [(.inl y,.ref l)]))(ha:H' a=some (.dK (kvI (g1 ts++[x]) fun u=>if u=x then b else A u)))
 (kp:∀ c u,H c=some u->c≠a->H' c=some u) (han:H a≠none):Gr H' a (ts++[(x,y,z)]) (fun u=>if u=x then b else A u) (fun u v=>if u=x/\v=y then l else B u v):=by
 have e1:g1 (ts++[(x,y,z)])=g1 ts++[x]:=by rw[du];unfold dd;rw[J0 hx]
 have ex:g2 (ts++[(x,y,z)]) x=[y]:=by rw[cD,JW rfl,pM hx];rfl
 have e2:∀ u,u≠x->g2 (ts++[(x,y,z)]) u=g2 ts u:=fun u hu=>by rw[cD,J0 (Ko hu)]
 have o1:∀ u,u∈g1 (ts++[(x,y,z)])->u≠x->u∈g1 ts:=fun u hu hn=>by
  rw[e1]at hu;rcases Kf.mp hu with q|q
  .exact q
  .exact(hn (by simpa using q)).elim
 have old:∀ u v,v∈g2 (ts++[(x,y,z)]) u->¬ (u=x/\v=y)->u≠x/\v∈g2 ts u:=fun u v hv hn=>by
  by_cases h:u=x
  .subst h;rw[ex]at hv;exact(hn ⟨rfl,by simpa using hv⟩).elim
  .rw[e2 u h]at hv;exact⟨h,hv⟩
 have nA:∀ u∈g1 ts,A u≠b:=fun u hu e=>by have:=G.inn u hu;rw[e,hb]at this;cases this
 refine⟨.inl (by rw[e1];exact ha),fun u hu=>?_,fun u v hv=>?_,fun u hu=>?_,fun u hu u' hu' e=>?_,fun u v hv u' v' hv' e=>?_⟩
 .by_cases h:u=x
  .subst h;rw[JW rfl,ex,hi];simp[kvI]
  .rw[J0 h,e2 u h];have:(fun v=>if u=x/\v=y then l else B u v)=B u:=by funext v;rw[J0 (fun z=>h z.1)]
   rw[this];exact kp _ _ (G.inn u (o1 u hu h)) (G.d1 u (o1 u hu h))
 .rw[pL];by_cases h:u=x/\v=y
  .obtain⟨rfl,rfl⟩:=h;rw[JW ⟨rfl,rfl⟩,JW ⟨rfl,rfl⟩,uY (by rw[pM hx];simp)];exact hm
  .rw[J0 h,J0 (fun q=>h ⟨q.1.symm,q.2.symm⟩)];obtain⟨hu,hv'⟩:=old u v hv h;refine kp _ _ (G.leaf u v hv') fun e=>?_;have:=G.leaf u v hv';rcases G.root with q|⟨_,q⟩<;>(rw[e,q]at this;cases this)
 .by_cases h:u=x
  .rw[JW h];exact fun e=>han (by rw[<- e];exact hb)
  .rw[J0 h];exact G.d1 u (o1 u hu h)
 .try dsimp only at e
  by_cases h:u=x<;>by_cases h':u'=x
  .exact h.trans h'.symm
  .rw[JW h,J0 h']at e;exact(nA u' (o1 u' hu' h') e.symm).elim
  .rw[J0 h,JW h']at e;exact(nA u (o1 u hu h) e).elim
  .rw[J0 h,J0 h']at e;exact G.d2 u (o1 u hu h) u' (o1 u' hu' h') e
 .have nl:∀ u v,v∈g2 (ts++[(x,y,z)]) u->¬ (u=x/\v=y)->B u v≠l:=fun u v hv hn e=>by have:=G.leaf u v (old u v hv hn).2;rw[e,hl]at this;cases this
  try dsimp only at e
  by_cases h:u=x/\v=y<;>by_cases h':u'=x/\v'=y
  .exact⟨h.1.trans h'.1.symm,h.2.trans h'.2.symm⟩
  .rw[JW h,J0 h']at e;exact(nl u' v' hv' h' e.symm).elim
  .rw[J0 h,JW h']at e;exact(nl u v hv h e).elim
  .rw[J0 h,J0 h']at e;exact G.d3 u v (old u v hv h).2 u' v' (old u' v' hv' h').2 e
end
theorem dE {H:Hp}{m:Addr->Prop}{F:Int->D}{G:Int->V}:∀{l:List Int},(∀ x∈l,Is H m (F x) (G x))->IsAll H m (l.map F) (l.map G)
 | [],_=>rfl
 |x::l,h=>⟨_,_,rfl,h x Kg,dE fun y hy=>h y (Kc _ hy)⟩
theorem l_ {H:Hp}{m:Addr->Prop}:∀(k:List Int),IsAll H m (k.map .int) (k.map .int)
 | []=>rfl
 |i::k=>⟨.int i,_,rfl,rfl,l_ k⟩
theorem Gr.is {H:Hp}{a:Addr}{ts:List Tri}{A:Int->Addr}{B:Int->Int->Addr}(G:Gr H a ts A B):Is H (qB a ts A B) (bN ts) (.ref a):=by
 have keys:∀(l:List Int)(C:Int->Addr),l.map ik=(kvI l C).map (fun p=>.inl p.1):=fun l C=>by unfold kvI;rw[Kl];rfl
 have vals:∀(l:List Int)(C:Int->Addr),(kvI l C).map Prod.snd=l.map fun x=>.ref (C x):=fun l C=>by unfold kvI;rw[Kl];rfl
 have inner:∀ x∈g1 ts,Is H (qB a ts A B) (iA ts x) (.ref (A x)):=fun x hx=>by refine⟨A x,(g2 ts x).map fun y=>.ref (B x y),rfl,⟨.inl ⟨_,.inl (G.inn x hx),keys _ _,(vals _ _).symm⟩,.inr (.inl ⟨x,hx,rfl⟩)⟩,dE fun y hy=>?_⟩;exact⟨B x y,_,rfl,.inl ⟨G.leaf x y hy,.inr (.inr ⟨x,y,hy,rfl⟩)⟩,l_ _⟩
 refine⟨a,(g1 ts).map fun x=>.ref (A x),rfl,⟨?_,.inl rfl⟩,dE inner⟩;rcases G.root with q|⟨q,e⟩
 .exact .inl ⟨_,.inl q,keys _ _,(vals _ _).symm⟩
 .rw[q];exact .inr ⟨[],.inl e,rfl,rfl⟩
noncomputable def Bj:D->Option Tri
 | .tup [.int x,.int y,.int z]=>some (x,y,z)
 |_=>none
def gm:List D->Option (List Tri)
 | []=>some []
 |d::r=>match Bj d,gm r with
  |some t,some ts=>some (t::ts)
  |_,_=>none
def wB (i r1 r2 r3:Nat)(env:En)(r:R):Res Fl:=match r.d with
 | .lst ds=>match gm ds with
  |some ts=>if ts.length<=1000/\¬ i∈r.al/\i≠r1/\i≠r2/\i≠r3/\r1≠r2/\r1≠r3/\r2≠r3/\r1<env.length/\r2<env.length/\r3<env.length then
   .ok (.nx (((((frz env r.al).set r1 none).set r2 none).set r3 none).set i (some (.tre (bN ts))))) else .stuck
  |none=>.stuck
 |_=>.stuck
def yJ (i r1 r2 r3:Nat)(f:En->Res R):En->Res Fl:=fun env=>match env[i]? with
 |some (some (.tre (.dic [] [])))=>(f env).bind (wB i r1 r2 r3 env)
 |_=>.stuck
def Ez (K:Ng) (i r1 r2 r3:Nat):TE:=GI K "list" ux (GI K "dict" uC (GI K "dict" uC (di i) (hJ (di r1) (hJ tf sW))) (hJ (di r2) (hJ (GB sW) sW))) (hJ (di r3) sW)
theorem yK {K:Ng}{H:Hp}{a:Addr}{ts:List Tri}{A:Int->Addr}{B:Int->Int->Addr}{x y z:Int}{i r1 r2 r3:Nat}{σ:St}{C:Hp->Prop}(G:Gr H a ts A B)(hl:ts.length<=1000)
 (hi:σ[i]?=some (some (.ref a))) (h1:σ[r1]?=some (some (.int x))) (h2:σ[r2]?=some (some (.int y))) (h3:σ[r3]?=some (some (.int z)))
 (k:∀ H' A' B',Gr H' a (ts++[(x,y,z)]) A' B'->(∀ b u,H b=some u->¬ qB a ts A B b->H' b=some u)->(∀ b,qB a ts A B b->qB a (ts++[(x,y,z)]) A' B' b)->(∀ b,qB a (ts++[(x,y,z)]) A' B' b->qB a ts A B b\/H b=none)->C H') :
 Ez K i r1 r2 r3 σ H fun _ H'=>C H':=by
 have sz:∀ n,n<=1000->n<sizeLine:=fun n h=>gx (by unfold lim;omega);have han:H a≠none:=by rcases G.root with q|⟨_,q⟩<;>(rw[q];simp)
 have tya:Im K "dict" (.ref a) H:=.inr (.inr (.inl ⟨rfl,G.root.imp (fun q=>⟨_,q⟩) fun⟨_,q⟩=>⟨_,q⟩⟩));refine⟨.ref a,hi,tya,.int x,h1,fun b hb=>?_⟩;have nba:a≠b:=fun e=>han (by rw[e];exact hb);have kb:∀ c u,H c=some u->ay H b (.dK []) c=some u:=fun c u e=>by rw[af (ap e hb)];exact e
 have roots:(ay H b (.dK []) a=some (.dK (kvI (g1 ts) A))\/(ay H b (.dK []) a=some (.dT [])/\kvI (g1 ts) A=[])):=by
  rcases G.root with q|⟨e,q⟩
  .exact .inl (kb _ _ q)
  .exact .inr ⟨kb _ _ q,by rw[e];rfl⟩
 refine⟨a,.inl x,.ref b,kvI (g1 ts) A,rfl,rfl,roots,sz _ (by unfold kvI;rw[JU];exact Ky (Ex ts) hl),?_⟩;by_cases hx:x∈g1 ts
 .left;refine⟨.ref (A x),by rw[kU,JW hx],.inr (.inr (.inl ⟨rfl,.inl ⟨_,kb _ _ (G.inn x hx)⟩⟩)),.int y,h2,Kz _,fun l hl'=>?_⟩;have hlH:H l=none:=(aV hb).free hl';have kl:∀ c u,H c=some u->ay (ay H b (.dK [])) l (.lst []) c=some u:=fun c u e=>by rw[af (ap e hlH)];exact kb c u e
  refine⟨A x,.inl y,.ref l,kvI (g2 ts x) (B x),rfl,rfl,.inl (kl _ _ (G.inn x hx)),sz _ (by unfold kvI;rw[JU];exact Ky (Ey ts x) hl),?_⟩;by_cases hy:y∈g2 ts x
  .left;have hm:=G.leaf x y hy;refine⟨.ref (B x y),by rw[kU,JW hy],.inl ⟨rfl,_,SqL.of (kl _ _ hm)⟩,.int z,h3,B x y,_,.int z,rfl,rfl,kl _ _ hm,sz _ (by rw[JU];exact Ky (ua ts x y) hl),?_⟩;have G':=G.both (z:=z) hx hy (H':=ay (ay (ay H b (.dK [])) l (.lst [])) (B x y) (.lst ((g3 ts x y).map .int++[.int z]))) (by rw[ai,Ki];rfl) (fun c u e hn=>by rw[af hn];exact kl c u e);refine k _ A B G' (fun c u e hn=>?_) (fun c hc=>?_) fun c hc=>?_
   .rw[af (fun q=>hn (.inr (.inr ⟨x,y,hy,q⟩)))];exact kl c u e
   .rcases hc with q|⟨u,hu,q⟩|⟨u,v,hv,q⟩
    .exact .inl q
    .exact .inr (.inl ⟨u,by rw[du,cm];exact .inl hu,q⟩)
    .refine .inr (.inr ⟨u,v,?_,q⟩);rw[cD];split
     .rw[cm];exact .inl hv
     .exact hv
   .left;rcases hc with q|⟨u,hu,q⟩|⟨u,v,hv,q⟩
    .exact .inl q
    .rw[du,cm]at hu;exact .inr (.inl ⟨u,hu.elim id fun e=>e▸hx,q⟩)
    .refine .inr (.inr ⟨u,v,?_,q⟩);rw[cD]at hv;split at hv
     .rename_i e;subst e;rw[cm]at hv;exact hv.elim id fun e=>e▸hy
     .exact hv
  .right;refine⟨by rw[kU,J0 hy],.inl ⟨rfl,[],SqL.of ?_⟩,.int z,h3,l,[],.int z,rfl,rfl,?_,by simp[KU],?_⟩
   .rw[af (ap (G.inn x hx) hlH).symm,ai]
   .rw[af (ap (G.inn x hx) hlH).symm,ai]
   .have nAl:A x≠l:=ap (G.inn x hx) hlH;have G':=G.second (z:=z) hx hy hlH (H':=ay (ay (ay (ay H b (.dK [])) l (.lst [])) (A x) (.dK (bq (kvI (g2 ts x) (B x)) (.inl y) (.ref l)))) l (.lst ([]++[.int z]))) ai (by rw[af nAl,ai,uZ hy])
     (fun c u e hn=>by rw[af (ap e hlH),af hn];exact kl c u e)
    refine k _ A _ G' (fun c u e hn=>?_) (fun c hc=>?_) fun c hc=>?_
    .rw[af (ap e hlH),af (fun q=>hn (.inr (.inl ⟨x,hx,q⟩)))];exact kl c u e
    .rcases hc with q|⟨u,hu,q⟩|⟨u,v,hv,q⟩
     .exact .inl q
     .exact .inr (.inl ⟨u,by rw[du,cm];exact .inl hu,q⟩)
     .refine .inr (.inr ⟨u,v,?_,?_⟩)
      .rw[cD];split
       .rw[cm];exact .inl hv
       .exact hv
      .show c=if u=x/\v=y then l else B u v;rw[J0]
       .exact q
       .rintro⟨rfl,rfl⟩;exact hy hv
    .rcases hc with q|⟨u,hu,q⟩|⟨u,v,hv,q⟩
     .exact .inl (.inl q)
     .rw[du,cm]at hu;exact .inl (.inr (.inl ⟨u,hu.elim id fun e=>e▸hx,q⟩))
     .by_cases h:u=x/\v=y
      .dsimp only at q;rw[JW h]at q;exact .inr (by rw[q];exact hlH)
      .dsimp only at q;rw[J0 h]at q;refine .inl (.inr (.inr ⟨u,v,?_,q⟩));rw[cD]at hv;split at hv
       .rename_i e;subst e;rw[cm]at hv;exact hv.elim id fun e=>(h ⟨rfl,e⟩).elim
       .exact hv
 .right;have hroot:∀ c u,H c=some u->c≠a->ay (ay H b (.dK [])) a (.dK (bq (kvI (g1 ts) A) (.inl x) (.ref b))) c=some u:=fun c u e hn=>by rw[af hn];exact kb c u e
  refine⟨by rw[kU,J0 hx],.inr (.inr (.inl ⟨rfl,.inl ⟨[],by rw[af (Ko nba),ai]⟩⟩)),.int y,h2,Kz _,fun l hl'=>?_⟩;have nla:l≠a:=fun e=>by rw[e,ai]at hl';cases hl'
  have nlb:b≠l:=fun e=>by rw[<- e,af (Ko nba),ai]at hl';cases hl'
  have hlH:H l=none:=by rw[af nla,af (Ko nlb)]at hl';exact hl'
  refine⟨b,.inl y,.ref l,[],rfl,rfl,.inl (by rw[af nlb,af (Ko nba),ai]),by simp[KU],.inr ⟨rfl,.inl ⟨rfl,[],SqL.of ?_⟩,.int z,h3,l,[],.int z,rfl,rfl,?_,by simp[KU],?_⟩⟩
  .rw[af (Ko nlb),ai]
  .rw[af (Ko nlb),ai]
  .have G':=G.first (z:=z) (y:=y) hx hb hlH nlb (H':=ay (ay (ay (ay (ay H b (.dK [])) a (.dK (bq (kvI (g1 ts) A) (.inl x) (.ref b)))) l (.lst [])) b (.dK (bq [] (.inl y) (.ref l)))) l (.lst ([]++[.int z]))) ai (by rw[af nlb,ai];rfl)
    (by rw[af (Ko nla),af nba,af (Ko nla),ai,uZ hx]) (fun c u e hn=>by rw[af (ap e hlH),af (ap e hb),af (ap e hlH)];exact hroot c u e hn) han
   refine k _ _ _ G' (fun c u e hn=>?_) (fun c hc=>?_) fun c hc=>?_
   .rw[af (ap e hlH),af (ap e hb),af (ap e hlH)];exact hroot c u e fun q=>hn (.inl q)
   .rcases hc with q|⟨u,hu,q⟩|⟨u,v,hv,q⟩
    .exact .inl q
    .refine .inr (.inl ⟨u,by rw[du,cm];exact .inl hu,?_⟩);show c=if u=x then b else A u;rw[J0 (show ¬ u=x from fun e=>hx (e▸hu))];exact q
    .have hu:=G3 hv;refine .inr (.inr ⟨u,v,?_,?_⟩)
     .rw[cD,J0 (show ¬ x=u from fun e=>hx (e▸hu))];exact hv
     .show c=if u=x/\v=y then l else B u v;rw[J0 (show ¬ (u=x/\v=y) from fun e=>hx (e.1▸hu))];exact q
   .rcases hc with q|⟨u,hu,q⟩|⟨u,v,hv,q⟩
    .exact .inl (.inl q)
    .by_cases h:u=x
     .dsimp only at q;rw[JW h]at q;exact .inr (by rw[q];exact hb)
     .dsimp only at q;rw[J0 h]at q;rw[du,cm]at hu;exact .inl (.inr (.inl ⟨u,hu.resolve_right h,q⟩))
    .by_cases h:u=x/\v=y
     .dsimp only at q;rw[JW h]at q;exact .inr (by rw[q];exact hlH)
     .dsimp only at q;rw[J0 h]at q;refine .inl (.inr (.inr ⟨u,v,?_,q⟩));rw[cD]at hv;split at hv
      .rename_i e;subst e;rw[pM hx,cm]at hv;rcases hv with z|z
       .simp at z
       .exact(h ⟨rfl,z⟩).elim
      .exact hv
theorem nR:∀{ds:List D}{ts:List Tri},gm ds=some ts->ds.length=ts.length
 | [],_,e=>by cases e;rfl
 |d::ds,ts,e=>by
  unfold gm at e;cases q:Bj d with
  |none=>rw[q]at e;cases e
  |some t=>
   cases q2:gm ds with
   |none=>rw[q,q2]at e;cases e
   |some ts'=>rw[q,q2]at e;cases e;simp[nR q2]
theorem rP {H:Hp}{m:Addr->Prop}:∀{ds:List D}{vs:List V}{ts:List Tri}{j:Nat}{v:V},IsAll H m ds vs->gm ds=some ts->vs[j]?=some v->∃ x y z p,ts[j]?=some (x,y,z)/\v=.ref p/\H p=some (.tup [.int x,.int y,.int z])
 | [],_,_,_,_,h,_,ev=>by cases h;simp at ev
 |d::ds,_,ts,j,v,h,e,ev=>by
  obtain⟨w,r,rfl,h1,h2⟩:=h;unfold gm at e;cases q:Bj d with
  |none=>rw[q]at e;cases e
  |some t=>
   cases q2:gm ds with
   |none=>rw[q,q2]at e;cases e
   |some ts'=>
    rw[q,q2]at e;cases e;cases j with
    |zero=>
     simp at ev;subst ev;unfold Bj at q;split at q
     .rename_i x y z;cases q;obtain⟨p,us,rfl,g1,w1,r1,rfl,i1,w2,r2,rfl,i2,w3,r3,rfl,i3,i4⟩:=h1;cases i1;cases i2;cases i3;cases i4;exact⟨x,y,z,p,rfl,rfl,g1⟩
     .cases q
    |succ j=>exact rP (j:=j) h2 q2 (by simpa using ev)
section
variable {X:Cx}{E:XK}{tg:Expr}
theorem Bk {i r1 r2 r3:Nat}{l:Expr}{body:List Stmt}{f:En->Res R}{pos:Pos}(hp:PassesOwn (model X.prog X.w) X.A X.env X.xe)(hc:X.calm=true)(hl:PD X E l f)
 (hg:PG X tg (Gu X.K 3 (qK (gs r1) (qK (gs r2) (qK (gs r3) Gs))))) (hb:PSs X body (xf (Ez X.K i r1 r2 r3))) (hs:autoParam (∀ x,foldedSetIterable l X.env x=pure x) Nn._auto_1):ju X E (.For tg l body [] pos) (yJ i r1 r2 r3 f):=by
 obtain⟨tl,p1,s1⟩:=hl;refine⟨_,oM hp hc (yg p1) hg hb hs,fun g M ρ env σ H D rep p=>?_⟩;unfold yJ at p;split at p
 .rename_i hq;refine s1.oneS rep p fun r v M0 H1 e1 rep0 ro p0=>?_;obtain⟨M1,x1,x1m,rep1,is1⟩:=ro.is rep0 e1 rep.same;unfold wB at p0;cases qd:r.d with
  |lst ds=>
   rw[qd]at p0;dsimp only at p0;cases qt:gm ds with
   |none=>rw[qt]at p0;exact p0.elim
   |some ts=>
    rw[qt]at p0;dsimp only at p0;by_cases hcond:ts.length<=1000/\¬ i∈r.al/\i≠r1/\i≠r2/\i≠r3/\r1≠r2/\r1≠r3/\r2≠r3/\r1<env.length/\r2<env.length/\r3<env.length
    .rw[JW hcond]at p0;obtain⟨bO,hal,ni1,ni2,ni3,n12,n13,n23,l1,l2,l3⟩:=hcond;obtain⟨M2,ρ2,x2,rep2,o2,_,_⟩:=Rep.frz r.al rep1;have is2:Is H1 (msk g M2 r.fr) r.d v:=Is.frozen rep1 x2 o2 is1;have p2:=PostS.frz (⟨fun a z=>x2 a (x1m a z),fun _ _ q _=>q⟩ : Frz M0 H1 M2 H1) p0;clear p0;rw[qd]at is2;have hq2:(frz env r.al)[i]?=some (some (.tre (.dic [] []))):=by rw[pB _ hal];exact hq
     have hi:i<(frz env r.al).length:=(JY.mp hq2).1;obtain⟨va,ev,ka⟩:=rep2.slot i _ hq2;have ka:Is H1 (ρ2 i) (.dic [] []) va:=ka;obtain⟨a,ws,rfl,⟨dat,pa⟩,hw⟩:=ka;obtain⟨nMa,a0,muA⟩:=rep2.priv i a pa;have nofz:∀ o u,H1 a≠some (.frz o u):=fun o u z=>by obtain⟨uo,q,qm⟩:=muA;rw[z]at q;cases q;exact qm
     have rootA:H1 a=some (.dK [])\/H1 a=some (.dT []):=by
      rcases dat with⟨kvs,e|⟨o,e⟩,h1,_⟩|⟨kvs,e|⟨o,e⟩,h1,_⟩
      .left;have:kvs=[]:=by simpa using h1.symm
       rw[this]at e;exact e
      .exact(nofz _ _ e).elim
      .right;have:kvs=[]:=by simpa using h1.symm
       rw[this]at e;exact e
      .exact(nofz _ _ e).elim
     have notA:∀ c u,H1 c=some u->(∀ k,u≠.dK k)->(∀ k,u≠.dT k)->c≠a:=fun c u e n1 n2 z=>by
      subst z;rcases rootA with q|q<;>(rw[q]at e;cases e)
      .exact n1 _ rfl
      .exact n2 _ rfl
     obtain⟨la,vs,rfl,hla,hall⟩:=is2;have lists:Rd H1 la (.lst vs):=hla.imp (·.1) fun⟨o,z,_⟩=>⟨o,z⟩;have nla:la≠a:=by
      rcases hla with⟨q,_⟩|⟨o,q,_⟩
      .exact notA la _ q (fun _ z=>nomatch z) fun _ z=>nomatch z
      .exact notA la _ q (fun _ z=>nomatch z) fun _ z=>nomatch z
     have hvl:vs.length=ts.length:=by rw[hall.length];exact nR qt
     let Pv:Nat->St->Hp->Prop:=fun j σ' H'=>σ'.length=σ.length/\(∀ n,n≠r1->n≠r2->n≠r3->σ'[n]?=σ[n]?)/\(∀ c u,H1 c=some u->c≠a->H' c=some u)/\∃ A B,Gr H' a (ts.take j) A B/\∀ c,qB a (ts.take j) A B c->c=a\/H1 c=none
     have P0:Pv 0 σ H1:=by
      refine⟨rfl,fun _ _ _ _=>rfl,fun _ _ e _=>e,fun _=>0,fun _ _=>0,?_,?_⟩
      .rw[List.take_zero];exact⟨rootA.imp (fun q=>by exact q) fun q=>⟨rfl,q⟩,fun x hx=>(by cases hx),fun x y hy=>(by cases hy),fun x hx=>(by cases hx),fun x hx=>(by cases hx),fun x y hy=>(by cases hy)⟩
      .rw[List.take_zero];rintro c (h|⟨x,hx,_⟩|⟨x,y,hy,_⟩)
       .exact .inl h
       .cases hx
       .cases hy
     have sql:∀ σ' H' j,Pv j σ' H'->SqL X.K H' la vs:=fun σ' H' j z=>.inl (io lists fun o e=>z.2.2.1 la o e nla);refine⟨la,rfl,.inl ⟨⟨vs,.inl lists⟩,xl (K:=X.K) (a:=la) (xs:=vs) Pv P0 (fun j σ' H' _ z=>sql σ' H' j z) (fun j v σ' H' ex z=>?_) fun σ' H' z=>?_⟩⟩
     .obtain⟨z1,z2,z3,A,B,G,tin⟩:=z;obtain⟨x,y,w,pj,et,rfl,hpj⟩:=rP hall qt ex;have hj:j<ts.length:=(JY.mp et).1;have npj:pj≠a:=notA pj _ hpj (fun _ z=>nomatch z) fun _ z=>nomatch z;have htk:ts.take (j+1)=ts.take j++[(x,y,w)]:=by
       have e2:ts[j]=(x,y,w):=by rw[KA hj]at et;exact Kq et
       rw[<- e2,Mj]
      have hlσ:σ'.length=(frz env r.al).length:=by rw[z1,rep2.len]
      have b1:r1<σ'.length:=by rw[hlσ,dr];exact l1
      have b2:r2<σ'.length:=by rw[hlσ,dr];exact l2
      have b3:r3<σ'.length:=by rw[hlσ,dr];exact l3
      refine⟨pj,_,rfl,SqT.of (z3 pj _ hpj npj),rfl,_,_,rfl,_,_,rfl,_,_,rfl,rfl,?_⟩;show xf (Ez X.K i r1 r2 r3) _ (((σ'.set r1 (some (.int x))).set r2 (some (.int y))).set r3 (some (.int w))) H';have get:∀ n,n≠r1->n≠r2->n≠r3->(((σ'.set r1 (some (.int x))).set r2 (some (.int y))).set r3 (some (.int w)))[n]?=σ'[n]?:=fun n a1 a2 a3=>by rw[JX (Ko a3),JX (Ko a2),JX (Ko a1)]
      refine yK G (Ky (by rw[LM];omega) bO) (x:=x) (y:=y) (z:=w) ?_ ?_ ?_ ?_ fun H2 A' B' G' kp up dn=>?_
      .rw[get i ni1 ni2 ni3,z2 i ni1 ni2 ni3];exact ev
      .rw[JX (Ko n13),JX (Ko n12),JZ b1]
      .rw[JX (Ko n23),JZ (by rw[KE];exact b2)]
      .rw[JZ (by rw[KE,KE];exact b3)]
      .refine⟨by simp[z1],fun n a1 a2 a3=>(get n a1 a2 a3).trans (z2 n a1 a2 a3),fun c u e hn=>?_,A',B',by rw[htk];exact G',fun c hc=>?_⟩
       .refine kp c u (z3 c u e hn) fun q=>?_;rcases tin c q with q|q
        .exact hn q
        .rw[e]at q;cases q
       .rw[htk]at hc;rcases dn c hc with q|q
        .exact tin c q
        .by_cases hca:c=a
         .exact .inl hca
         .right;cases e:H1 c with
          |none=>rfl
          |some u=>rw[z3 c u e hca]at q;cases q
     .obtain⟨z1,z2,z3,A,B,G,tin⟩:=z;rw[hvl,List.take_length]at G tin;have kM:∀ c u,H1 c=some u->(M2 c\/fixd u)->H' c=some u:=fun c u e q=>z3 c u e fun z=>by
       subst z;rcases q with q|q
       .exact nMa q
       .rcases rootA with w|w<;>(rw[w]at e;cases e;exact q)
      have kR:∀ j,j≠i->∀ c u,H1 c=some u->(ρ2 j c\/fixd u)->H' c=some u:=fun j hj c u e q=>z3 c u e fun z=>by
       subst z;rcases q with q|q
       .exact hj (rep2.apart j i _ q pa)
       .rcases rootA with w|w<;>(rw[w]at e;cases e;exact q)
      have muT:∀ c,qB a ts A B c->Mu H' c:=fun c hc=>by
       rcases hc with rfl|⟨x,hx,rfl⟩|⟨x,y,hy,rfl⟩
       .rcases G.root with q|⟨_,q⟩<;>exact⟨_,q,True.intro⟩
       .exact⟨_,G.inn x hx,True.intro⟩
       .exact⟨_,G.leaf x y hy,True.intro⟩
      refine p2 σ' M2 (fun j c=>if j=i then qB a ts A B c else if j=r1\/j=r2\/j=r3 then False else ρ2 j c) H' ⟨fun _ z=>z,kM⟩ ?_;have rho:∀ j c,(if j=i then qB a ts A B c else if j=r1\/j=r2\/j=r3 then False else ρ2 j c)->(j=i/\qB a ts A B c)\/(j≠i/\¬ (j=r1\/j=r2\/j=r3)/\ρ2 j c):=fun j c h=>by
       by_cases hj:j=i
       .rw[JW hj]at h;exact .inl ⟨hj,h⟩
       .rw[J0 hj]at h;by_cases hr:j=r1\/j=r2\/j=r3
        .rw[JW hr]at h;exact h.elim
        .rw[J0 hr]at h;exact .inr ⟨hj,hr,h⟩
      have fresh:∀ c,qB a ts A B c->¬ M2 c/\g.H₀ c=none/\∀ j,j≠i->¬ ρ2 j c:=fun c hc=>by
       rcases tin c hc with q|q
       .subst q;exact⟨nMa,a0,fun j hj w=>hj (rep2.apart j i _ w pa)⟩
       .exact⟨fun w=>rep2.froz c w q,rep2.same.free q,fun j _ w=>(rep2.priv j c w).2.2.some q⟩
      have envs:∀ j,j≠i->∀ sl,(((((frz env r.al).set r1 none).set r2 none).set r3 none).set i (some (.tre (bN ts))))[j]?=some (some sl)->¬ (j=r1\/j=r2\/j=r3)/\(frz env r.al)[j]?=some (some sl):=fun j hj sl e=>by
       rw[JX (Ko hj)]at e;by_cases h3:j=r3
       .subst h3;rw[JZ (by simp[dr];exact l3)]at e;cases e
       .rw[JX (Ko h3)]at e;by_cases h2:j=r2
        .subst h2;rw[JZ (by simp[dr];exact l2)]at e;cases e
        .rw[JX (Ko h2)]at e;by_cases h1:j=r1
         .subst h1;rw[JZ (by simp[dr];exact l1)]at e;cases e
         .rw[JX (Ko h1)]at e;exact⟨fun z=>z.elim h1 fun z=>z.elim h2 h3,e⟩
      refine⟨fun c u e=>?_,fun c hm e=>?_,rep2.inn,fun c hm h0=>?_,fun j sl ej=>?_,fun j c w=>?_,fun j k c w1 w2=>?_,fun j c w=>?_,by simp[z1,rep2.len],fun c zc e=>?_⟩
      .exact z3 c u (rep2.same c u e) fun z=>by rw[z,a0]at e;cases e
      .cases q:H1 c with
       |none=>exact rep2.froz c hm q
       |some u=>rw[kM c u q (.inl hm)]at e;cases e
      .exact(rep2.fl c hm h0).same fun o e=>kM c o e (.inl hm)
      .by_cases hj:j=i
       .subst hj;rw[JZ (by simpa using hi)]at ej;cases ej;refine⟨.ref a,by rw[z2 j ni1 ni2 ni3];exact ev,?_⟩;rw[show(fun c=>if j=j then qB a ts A B c else if j=r1\/j=r2\/j=r3 then False else ρ2 j c)=qB a ts A B by funext c;rw[JW rfl]];exact G.is
       .obtain⟨hr,ej'⟩:=envs j hj sl ej;obtain⟨v',ev',k2⟩:=rep2.slot j sl ej';refine⟨v',by rw[z2 j (fun z=>hr (.inl z)) (fun z=>hr (.inr (.inl z))) (fun z=>hr (.inr (.inr z)))];exact ev',?_⟩;rw[show(fun c=>if j=i then qB a ts A B c else if j=r1\/j=r2\/j=r3 then False else ρ2 j c)=ρ2 j by funext c;rw[J0 hj,J0 hr]];cases sl with
        |val d f=>exact Is.mono (fun c u e z=>kM c u e (z.imp (·.1) id)) (fun _ _ _ z=>z) k2
        |own ds' f=>obtain⟨c,us,rfl,q1,q2,q3⟩:=k2;exact⟨c,us,rfl,kR j hj c _ q1 (.inl ((q2 c).mpr rfl)),q2,IsAll.mono (fun c u e z=>kM c u e (z.imp (·.1) id)) (fun _ _ _ z=>z) q3⟩
        |tre d=>exact Is.mono (fun c u e z=>kR j hj c u e z) (fun _ _ _ z=>z) k2
        |pin d=>exact⟨Is.mono (fun c u e z=>kR j hj c u e z) (fun _ _ _ z=>z) k2.1,k2.2⟩
        |dis d=>exact⟨Is.mono (fun c u e z=>kR j hj c u e z) (fun _ _ _ z=>z) k2.1,k2.2.mono (fun c u z e=>kR j hj c u e (.inl z)) fun _ z=>z⟩
        |fix n q0=>exact⟨k2.1,k2.2.mono fun c u e z=>kR j hj c u e z⟩
        |kon a=>exact k2
        |mes d=>exact IsSh.mono (fun c u e z=>kM c u e (.inr z)) (fun c us z e=>⟨us,kR j hj c _ e (.inl z)⟩) (fun _ z=>z) k2
      .rcases rho j c w with⟨rfl,q⟩|⟨hj,hr,q⟩
       .exact⟨(fresh c q).1,(fresh c q).2.1,muT c q⟩
       .obtain⟨q1,q2,uo,q3,qm⟩:=rep2.priv j c q;exact⟨q1,q2,uo,kR j hj c _ q3 (.inl q),qm⟩
      .rcases rho j c w1 with⟨rfl,q⟩|⟨hj,hr,q⟩<;>rcases rho k c w2 with⟨rfl,q'⟩|⟨hk,hr',q'⟩
       .rfl
       .exact((fresh c q).2.2 k hk q').elim
       .exact((fresh c q').2.2 j hj q).elim
       .exact rep2.apart j k c q q'
      .unfold isOwn;rcases rho j c w with⟨rfl,q⟩|⟨hj,hr,q⟩
       .rw[JZ (by simpa using hi)];rfl
       .have:=rep2.ow j c q;unfold isOwn at this;rw[JX (Ko hj),JX (fun z=>hr (.inr (.inr z.symm))),JX (fun z=>hr (.inr (.inl z.symm))),JX (fun z=>hr (.inl z.symm))];exact this
      .cases q:H1 c with
       |none=>exact rep2.zz c zc q
       |some u=>
        by_cases hca:c=a
        .subst hca;exact(muT c (.inl rfl)).some e
        .rw[z3 c u q hca]at e;cases e
    .rw[J0 hcond]at p0;exact p0.elim
  |_=>rw[qd]at p0;exact p0.elim
 .exact p.elim
end
noncomputable def yL:Res R->Bool
 | .ok (.val (.dic _ _) _ _)=>true
 | .ok (.fre (.dic _ _))=>true
 |_=>false
def dR (f:En->Res R)(asg:D->Bool->En->Option En)(fb:En->Res Fl):En->Res Fl:=fun env=>if yL (f env) then yF f asg fb env else iT (fq f) asg fb env
theorem bU {X:Cx}{E:XK}{st:Stmt}{f:En->Res R}{asg:D->Bool->En->Option En}{fb:En->Res Fl}(h1:ju X E st (iT (fq f) asg fb))(h2:ju X E st (yF f asg fb)):ju X E st (dR f asg fb):=by
 obtain⟨t1,p1,s1⟩:=h1;obtain⟨t2,p2,s2⟩:=h2;refine⟨fun D σ H=>t1 D σ H\/t2 D σ H,fun pins s σ H D I h=>h.elim (p1 pins s σ H D I) (p2 pins s σ H D I),fun g M ρ env σ H D rep p=>?_⟩;unfold dR at p;split at p
 .exact .inr (s2 g M ρ env σ H D rep p)
 .exact .inl (s1 g M ρ env σ H D rep p)
section
variable {X:Cx}
def JC (X:Cx)(Q:VK):VK:=fun v H=>Q v H\/∃ d o u,H d=some (.frz o u)/\dI u/\(∀ o v,X.H₀ d≠some (.frz o v))/\Q v (ay H d u)
theorem EA {e:Expr}{t:TE}(h:PE X e t):PE X e (fun σ H Q=>t σ H (JC X Q)):=by
 intro pins s σ H Q I q;refine bz (h pins s σ H _ I q) fun v s' r=>?_;obtain⟨x,H',I',rv,r⟩:=r;rcases r with r|⟨d,o,u,e,hu,hn,r⟩
 .exact⟨x,H',I',rv,r⟩
 .exact⟨x,_,I'.unfrz e hu hn,rv,r⟩
def Jc (X:Cx)(D:Ends):Ends where
 nx:=fun σ H=>D.nx σ H\/∃ d o u,H d=some (.frz o u)/\dI u/\(∀ o v,X.H₀ d≠some (.frz o v))/\D.nx σ (ay H d u)
 rt:=JC X D.rt
 bk:=D.bk
 ct:=D.ct
theorem EB {st:Stmt}{t:TS}(h:PS X st t):PS X st (fun D σ H=>t (Jc X D) σ H):=by
 intro pins s σ H D I q;refine bz (h pins s σ H _ I q) fun f s' r=>?_;cases f with
 |next=>
  obtain⟨σ',H',I',r⟩:=r;rcases r with r|⟨d,o,u,e,hu,hn,r⟩
  .exact⟨σ',H',I',r⟩
  .exact⟨σ',_,I'.unfrz e hu hn,r⟩
 |ret v=>
  obtain⟨x,σ',H',I',rv,r⟩:=r;rcases r with r|⟨d,o,u,e,hu,hn,r⟩
  .exact⟨x,σ',H',I',rv,r⟩
  .exact⟨x,σ',_,I'.unfrz e hu hn,rv,r⟩
 |brk=>exact r
 |cont=>exact r
end
section
variable {g:Gd}{M M2 M':Addr->Prop}{ρ:Pr}{env:En}{σ:St}{H H1 H':Hp}{d:Addr}{o:Obj}{u:HO}{m m':Addr->Prop}
theorem Is.thaw {x:D}{v:V}(hd:H d=some (.frz o u))(hu:dI u)(mm:∀ a,m a->m' a)(h:Is H m x v):Is (ay H d u) m' x v:=by
 refine Is.view (fun a vs e=>?_) (fun a o' vs e=>?_) (fun a vs e=>?_) (fun a u' hu' e=>?_) mm h
 .rw[af (fun z=>by subst z;rw[hd]at e;cases e)];exact e
 .rw[af (fun z=>by subst z;rw[hd]at e;cases e;exact hu)];exact e
 .rw[af (fun z=>by subst z;rw[hd]at e;cases e)];exact e
 .by_cases ha:a=d
  .subst ha;rcases e with e|⟨o',e⟩
   .rw[hd]at e;cases e;exact hu'.elim
   .rw[hd]at e;cases e;exact .inl ai
  .exact io e fun o' q=>by rw[af ha];exact q
theorem Is.still {x:D}{v:V}(hd:H d=some u)(hu:dI u)(mm:∀ a,m a->m' a)(h:Is H m x v):Is (ay H d (.frz o u)) m' x v:=by
 obtain⟨k1,k2,k3⟩:=nO hu hd;refine Is.view (fun a vs e=>?_) (fun a o' vs e=>?_) (fun a vs e=>?_) (fun a u' hu' e=>?_) mm h
 .rw[af (k1 a vs e)];exact e
 .rw[af (k2 a o' vs e)];exact e
 .rw[af (k3 a vs e)];exact e
 .by_cases ha:a=d
  .subst ha;rcases e with e|⟨o',e⟩
   .rw[hd]at e;cases e;exact .inr ⟨o,ai⟩
   .rw[hd]at e;cases e;exact hu.elim
  .exact io e fun o' q=>by rw[af ha];exact q
theorem IsAll.of_each:∀{ds:List D}{vs:List V}{P:D->V->Prop},(∀ x v,Is H m x v->Is H' m' x v)->IsAll H m ds vs->IsAll H' m' ds vs
 | [],_,_,_,h=>h
 |d::ds,_,P,f,h=>by obtain⟨v,r,e,h1,h2⟩:=h;exact⟨v,r,e,f _ _ h1,IsAll.of_each (P:=P) f h2⟩
theorem wC (s:Same (ay H1 d (.frz o u)) H')(hrd:H1 d=some u):Same H1 (ay H' d u):=fun a x e=>by
 by_cases ha:a=d
 .subst ha;rw[hrd]at e;cases e;exact ai
 .rw[af ha];exact s a x (by rw[af ha];exact e)
theorem rQ (rep:Rep g M ρ env σ H1)(hrd:H1 d=some u):∀ x,g.H₀ d=some x->x=u:=fun x e=>by have:=rep.same d x e;rw[hrd]at this;cases this;rfl
end
theorem nS {d:Addr}{o:Obj}{u:HO}{kvs:List (Key×V)}{m:Addr->Prop}{H:Hp}(hd:H d=some (.frz o u)):Walk (CG d o u kvs) m H (kvs.map fun p=>kD p.1):=by
 refine⟨fun H' i x k e=>?_,fun H' k=>⟨k d _ hd (.inr True.intro),by simp⟩⟩;have hi:i<kvs.length:=by have:=(JY.mp e).1;simpa using this
 refine⟨⟨k d _ hd (.inr True.intro),hi⟩,fun y H'' z=>?_⟩;obtain⟨rfl,k',v,ek,rfl⟩:=z;rw[J9,ek]at e;cases e;exact⟨Same.refl _,uX k'⟩
def kG:List DK->List D->Option (List D)
 | [],[]=>some []
 | .inl k::r,x::ds=>(kG r ds).map (.tup [kD k,x]::·)
 |_,_=>none
theorem rR:∀{kvs:List (Key×V)}{ds xs:List D},kG (kvs.map fun p=>.inl p.1) ds=some xs->xs.length=kvs.length/\∀(i:Nat)(x:D),xs[i]?=some x->∃ p y,kvs[i]?=some p/\ds[i]?=some y/\x=.tup [kD p.1,y]
 | [],[],_,e=>by cases e;exact⟨rfl,fun i x e=>by simp at e⟩
 | [],_::_,_,e=>by cases e
 |_::_,[],_,e=>by cases e
 |p::r,y::ds,xs,e=>by
  rw[J4]at e;unfold kG at e;obtain⟨ys,e1,rfl⟩:=Kw.mp e;obtain⟨l,f⟩:=rR e1;refine⟨by simp[l],fun i x ex=>?_⟩;cases i with
  |zero=>simp at ex;subst ex;exact⟨p,y,rfl,rfl,rfl⟩
  |succ i=>obtain⟨p',y',a,b,c⟩:=f i x (by simpa using ex);exact⟨p',y',by simpa using a,by simpa using b,c⟩
theorem me {d:Addr}{o:Obj}{u:HO}{kvs:List (Key×V)}{ds xs:List D}{m:Addr->Prop}{H:Hp}(hd:H d=some (.frz o u))(is:IsAll H m ds (kvs.map Prod.snd))(e0:kG (kvs.map fun p=>.inl p.1) ds=some xs):Walk (GO d o u kvs) m H xs:=by
 obtain⟨l,f⟩:=rR e0;refine⟨fun H' i x k e=>?_,fun H' k=>⟨k d _ hd (.inr True.intro),by rw[l];exact J1 _⟩⟩;have hi:i<kvs.length:=by rw[<- l];exact(JY.mp e).1
 refine⟨⟨k d _ hd (.inr True.intro),hi⟩,fun y H'' z=>?_⟩;obtain⟨p,k',v,hp,rfl,rfl,ek⟩:=z;obtain⟨q,w,e1,e2,rfl⟩:=f i x e;rw[ek]at e1;cases e1;have s:Same H' (ay H' p (.tup [kV k',v])):=aV hp;obtain⟨v',ev,iv⟩:=(is.mono k fun _ _ _ z=>z:IsAll H' m ds (kvs.map Prod.snd)).get e2;rw[J9,ek]at ev;cases ev;exact⟨s,p,_,rfl,ai,_,_,rfl,uX k',_,_,rfl,iv.same s,rfl⟩
def yM (n:Nat)(caps:List Nat)(asg:D->Bool->En->Option En)(ft:En->Res Bool)(fe:En->Res R)(env:En)(r:R):Res R:=match r.d with
 | .dic ks _=>match kE ks with
  |some xs=>if xs.length<=lim/\r.al=[] then (match c8 (fun d=>asg d true (fw env n caps)) ft fe xs with
   | .ok full=>if D.flats (full.map R.d) then .ok (.new (full.map R.d) true) else .stuck
   |_=>.stuck) else .stuck
  |none=>.stuck
 |_=>.stuck
def ub (n:Nat)(caps:List Nat)(f:En->Res R)(asg:D->Bool->En->Option En)(ft:En->Res Bool)(fe:En->Res R):En->Res R:=fun env=>(f env).bind (yM n caps asg ft fe env)
theorem jM {H:Hp}{m:Addr->Prop}{ks:List DK}{ds:List D}{v:V}(h:Is H m (.dic ks ds) v)(hk:∀ k∈ks,∃ a,k=.inl a):∃ d kvs u,v=.ref d/\m d/\(u=.dK kvs\/(u=.dT []/\kvs=[]))/\Rd H d u/\ks=kvs.map (fun p=>.inl p.1)/\IsAll H m ds (kvs.map Prod.snd):=by
 obtain⟨d,vs,rfl,⟨dat,md⟩,hall⟩:=h;rcases dat with⟨kvs,e,rfl,rfl⟩|⟨kvs,e,rfl,rfl⟩
 .exact⟨d,kvs,_,rfl,md,.inl rfl,e,rfl,hall⟩
 .cases kvs with
  |nil=>exact⟨d,[],_,rfl,md,.inr ⟨rfl,rfl⟩,e,rfl,hall⟩
  |cons p r=>obtain⟨a,ea⟩:=hk (.inr p.1) (by simp);cases ea
theorem mf:∀{ks:List DK}{xs:List D},kE ks=some xs->∀ k∈ks,∃ a,k=.inl a
 | [],_,_,k,h=>by cases h
 | .inl a::r,_,e,k,h=>by
  unfold kE at e;obtain⟨y,e1,_⟩:=Kw.mp e;rcases J5.mp h with h|h
  .exact⟨a,h⟩
  .exact mf e1 k h
 | .inr _::_,_,e,_,_=>by cases e
theorem rS:∀{ks:List DK}{ds xs:List D},kG ks ds=some xs->∀ k∈ks,∃ a,k=.inl a
 | [],_,_,_,k,h=>by cases h
 | .inl a::r,x::ds,_,e,k,h=>by
  unfold kG at e;obtain⟨y,e1,_⟩:=Kw.mp e;rcases J5.mp h with h|h
  .exact⟨a,h⟩
  .exact rS e1 k h
 | .inl _::_,[],_,e,_,_=>by cases e
 | .inr _::_,_,_,e,_,_=>by simp[kG]at e
section
variable {X:Cx}{E:XK}{scope:Scope}{tg:Expr}{tN:List Str}{capN:List Str}{caps:List Nat}{ix:List Nat}{asg:D->Bool->En->Option En}{elt iter:Expr}{pos:Pos}{ifs:List Expr}{f:En->Res R}{ft:En->Res Bool}{fe:En->Res R}
theorem yN (hc:X.calm=true)(S:CScope X scope tN capN caps)(hi:PD X E iter f)(hix:∀ j∈ix,j<tN.length)(hg:∀ cl C s3 H3 fp,ye (bt X scope (tN++capN) cl C s3 H3 fp) ix tg asg)(ht:∀ cl C s3 H3 fp,t5 (bt X scope (tN++capN) cl C s3 H3 fp) E0 ifs ft)(he:∀ cl C s3 H3 fp,PD (bt X scope (tN++capN) cl C s3 H3 fp) E0 elt fe)
 (hs:autoParam (∀ x,foldedSetIterable iter X.env x=pure x) Nn._auto_1):PD X E (.ListComp elt [⟨tg,iter,ifs,0⟩] scope pos) (ub tN.length caps f asg ft fe):=by
 obtain⟨tl,p1,s1⟩:=hi;refine⟨_,EA (t:=rG X scope tg tN capN caps elt ifs (GM X tl)) fun pins s σ H Q I h=>lT hc S I (uB p1) h hs,fun g M ρ env σ H Q rep p=>?_⟩;refine s1.oneE rep p fun r v M1 H1 e1 rep1 is q=>?_;unfold yM at q;cases qd:r.d with
 |dic ks ds=>
  rw[qd]at q is;dsimp only at q;cases qk:kE ks with
  |none=>rw[qk]at q;exact q.elim
  |some xs=>
   rw[qk]at q;dsimp only at q;by_cases hcon:xs.length<=lim/\r.al=[]
   .rw[JW hcon]at q;obtain⟨hlim,hal⟩:=hcon;cases qc:c8 (fun d=>asg d true (fw env tN.length caps)) ft fe xs with
    |stuck=>rw[qc]at q;exact q.elim
    |exc c=>rw[qc]at q;exact q.elim
    |ok full=>
     rw[qc]at q;dsimp only at q;by_cases hfl:D.flats (full.map R.d)=true
     .rw[JW hfl]at q;obtain⟨d,kvs,u,rfl,md,hu,hrd,rfl,hall⟩:=jM is (mf qk);have md:M1 d:=by rw[hal]at md;exact md.nil.1
      have d9:dI u:=by rcases hu with rfl|⟨rfl,_⟩<;>exact True.intro
      have ex:xs=kvs.map fun p=>kD p.1:=i7 qk;have mk:jC (full.map R.d) (a_ full) ([]++caps.filter (isOwn env))=.new (full.map R.d) true:=by unfold jC;rw[JW hfl]
      refine⟨d,kvs,u,rfl,hu,?_⟩;rcases hrd with hrd|⟨o,hrd⟩
      .right;refine⟨hrd,fun o hnf=>jG (g:=cO g d o u) (E:=E) (s:=⟨xs,true,[]⟩) hix hg ht he (rep1.still hrd d9 md) (by rw[ex];exact nS ai) hlim qc ?_⟩;rw[mk];intro v M' H' e rep' ro;have hd':H' d=some (.frz o u):=e.h _ _ ai;have rep3:=rep'.unstill hd' d9 (e.m d md) (rQ rep1 hrd);refine .inr ⟨d,o,u,hd',d9,hnf,q v M' _ ⟨e.m,wC e.h hrd,fun a z=>?_⟩ rep3 ?_⟩
       .refine(e.n a z).imp id fun w=>?_;by_cases ha:a=d
        .subst ha;rw[ai]at w;cases w
        .rw[af ha]at w;exact w
       .obtain⟨a,vs,rfl,h1,h2,h3,h4,h5⟩:=ro;have na:a≠d:=fun z=>by subst z;rw[hd']at h1;cases h1
        refine⟨a,vs,rfl,by rw[af na];exact h1,h2,by rw[af na]at h3;exact h3,h4,?_⟩;exact IsAll.of_each (P:=fun _ _=>True) (fun x w=>Is.thaw hd' d9 fun _ z=>z) (IsAll.flat (m':=msk g M' true) hfl h5)
      .left;refine⟨o,hrd,jG (g:=g) (E:=E) (s:=⟨xs,true,[]⟩) hix hg ht he rep1 (by rw[ex];exact nS hrd) hlim qc ?_⟩;rw[mk];exact fun v M' H' e rep' ro=>.inl (q v M' H' e rep' ro)
     .rw[J0 hfl]at q;exact q.elim
   .rw[J0 hcon]at q;exact q.elim
 |_=>rw[qd]at q;exact q.elim
def jN (n:Nat)(caps:List Nat)(f:En->Res R)(asg:D->Bool->En->Option En)(ft:En->Res Bool)(fe:En->Res R):En->Res R:=fun env=>if yL (f env) then ub n caps f asg ft fe env else cM n caps (fq f) asg ft fe env
theorem yO {e:Expr}{n:Nat}(h1:PD X E e (cM n caps (fq f) asg ft fe))(h2:PD X E e (ub n caps f asg ft fe)):PD X E e (jN n caps f asg ft fe):=by
 obtain⟨t1,p1,s1⟩:=h1;obtain⟨t2,p2,s2⟩:=h2;refine⟨fun σ H Q=>t1 σ H Q\/t2 σ H Q,fun pins s σ H Q I h=>h.elim (p1 pins s σ H Q I) (p2 pins s σ H Q I),fun g M ρ env σ H Q rep p=>?_⟩;unfold jN at p;split at p
 .exact .inr (s2 g M ρ env σ H Q rep p)
 .exact .inl (s1 g M ρ env σ H Q rep p)
end
def fW:Res Fl->Res Fl
 | .ok (.nx e)=>.ok (.nx e)
 | .ok (.rt r)=>if r.d.flat then .ok (.rt (.val r.d true [])) else .stuck
 |_=>.stuck
def u3 (asg:D->Bool->En->Option En)(fb:En->Res Fl)(env:En)(r:R):Res Fl:=match r.d with
 | .dic ks ds=>match kG ks ds with
  |some xs=>fW (bx asg r.fr fb xs (frz env r.al))
  |none=>.stuck
 |_=>.stuck
def yP (f:En->Res R)(asg:D->Bool->En->Option En)(fb:En->Res Fl):En->Res Fl:=fun env=>(f env).bind (u3 asg fb env)
section
variable {X:Cx}{E:XK}{g:Gd}{M:Addr->Prop}{ρ:Pr}{env:En}{σ:St}{H:Hp}{D:Ends}{d:Addr}{o:Obj}{u:HO}
theorem uc {r:Res Fl}(rep:Rep g M ρ env σ H)(hrd:H d=some u)(d9:dI u)(md:M d)(hnf:∀ o v,X.H₀ d≠some (.frz o v))(p:PostS X.mg E g M H D (fW r)):PostS X.mg E (cO g d o u) M (ay H d (.frz o u)) (Jc X D) r:=by
 have hx:=rQ rep hrd;have fz:∀{M':Addr->Prop}{H':Hp},Frz M (ay H d (.frz o u)) M' H'->Frz M H M' (ay H' d u):=fun{M' H'} f=>⟨f.m,fun a x e z=>by
  by_cases ha:a=d
  .subst ha;rw[hrd]at e;cases e;exact ai
  .rw[af ha];exact f.h a x (by rw[af ha];exact e) z⟩
 cases r with
 |stuck=>exact p
 |exc c=>exact(show False from p).elim
 |ok r=>
  cases r with
  |nx e=>intro σ' M' ρ' H' f rep';have hd':H' d=some (.frz o u):=f.h d _ ai (.inl md);exact .inr ⟨d,o,u,hd',d9,hnf,p σ' M' ρ' _ (fz f) (rep'.unstill hd' d9 (f.m d md) hx)⟩
  |bk e=>exact(show False from p).elim
  |ct e=>exact(show False from p).elim
  |rm r e=>exact(show False from p).elim
  |rt r=>
   unfold fW at p;by_cases hf:r.d.flat=true
   .simp only[hf,Me]at p;intro v M' H' f s _ fl;have hd':H' d=some (.frz o u):=f.h d _ ai (.inl md);have is:∀{m:Addr->Prop},Is (ay H' d u) m r.d v:=fun{m}=>Is.flat hf (Is.thaw (m':=m) hd' d9 (fun _ z=>z.elim) (fl hf));refine .inr ⟨d,o,u,hd',d9,hnf,p v M' _ (fz f) (fun b x e=>?_) (fun _=>is) fun _=>is⟩;by_cases hb:b=d
    .subst hb;rw[hx x e];exact ai
    .rw[af hb];exact s b x (by rw[i6 hb];exact e)
   .simp only[hf]at p;exact(show False from p).elim
theorem rT {r:Res Fl}(p:PostS X.mg E g M H D (fW r)):PostS X.mg E g M H (Jc X D) r:=by
 cases r with
 |stuck=>exact p
 |exc c=>exact(show False from p).elim
 |ok r=>
  cases r with
  |nx e=>exact fun σ' M' ρ' H' f rep'=>.inl (p σ' M' ρ' H' f rep')
  |bk e=>exact(show False from p).elim
  |ct e=>exact(show False from p).elim
  |rm r e=>exact(show False from p).elim
  |rt r=>
   unfold fW at p;by_cases hf:r.d.flat=true
   .simp only[hf,Me]at p;exact fun v M' H' f s _ fl=>.inl (p v M' H' f s (fun _=>Is.flat hf (fl hf)) fun _=>Is.flat hf (fl hf))
   .simp only[hf]at p;exact(show False from p).elim
theorem rU {es:List Expr}{k0:Nat}{gq apos cpos:Pos}{ix:List Nat}{l:Expr}{body:List Stmt}{f:En->Res R}{asg:L3.D->Bool->En->Option En}{fb:En->Res Fl}{pos:Pos}(hp:PassesOwn (model X.prog X.w) X.A X.env X.xe)(hc:X.calm=true)
 (hl:PD X E l f) (hg:ye X ix (.Tuple es k0 gq) asg) (hb:iu X E body fb) (hbase:autoParam (attributeBase l "items" X.env (eval l X.env)=eval l X.env) Nq._auto_1) (hline:autoParam ((apos.endLine==cpos.line)=true) Nq._auto_1)
 (hs:autoParam (∀ x,foldedSetIterable (.Call (.Attribute l "items" apos) [] [] cpos) X.env x=pure x) Nn._auto_1):ju X E (.For (.Tuple es k0 gq) (.Call (.Attribute l "items" apos) [] [] cpos) body [] pos) (yP f asg fb):=by
 obtain⟨tl,p1,s1⟩:=hl;obtain⟨w,p2,s2⟩:=hg;obtain⟨tb,p3,s3⟩:=hb;refine⟨_,EB (oM hp hc (xT p1 hbase hline) p2 p3 hs),fun g M ρ env σ H D rep p=>?_⟩;refine s1.oneS rep p fun r v M0 H1 e1 rep0 ro p0=>?_;obtain⟨M1,x1,x1m,rep1,is1⟩:=ro.is rep0 e1 rep.same;obtain⟨M2,ρ2,x2,rep2,o2,_,_⟩:=Rep.frz r.al rep1;have is2:Is H1 (msk g M2 r.fr) r.d v:=Is.frozen rep1 x2 o2 is1;have p2':=PostS.frz (⟨fun a z=>x2 a (x1m a z),fun _ _ q _=>q⟩ : Frz M0 H1 M2 H1) p0;clear p0 p;unfold u3 at p2';cases qd:r.d with
 |dic ks ds=>
  rw[qd]at p2' is2;dsimp only at p2';cases qk:kG ks ds with
  |none=>rw[qk]at p2';exact p2'.elim
  |some xs=>
   rw[qk]at p2';dsimp only at p2';obtain⟨d,kvs,u,rfl,md,hu,hrd,rfl,hall⟩:=jM is2 (rS qk);have md:M2 d:=md.1;have d9:dI u:=by rcases hu with rfl|⟨rfl,_⟩<;>exact True.intro
   refine⟨d,kvs,u,rfl,hu,?_⟩;rcases hrd with hrd|⟨o,hrd⟩
   .right;refine⟨hrd,fun o hnf=>lS (E:=E) (g:=cO g d o u) (fr:=r.fr) (xs:=xs) s2 s3 (rep2.still hrd d9 md) (me ai ?_ qk) (uc rep2 hrd d9 md hnf p2')⟩;exact IsAll.of_each (P:=fun _ _=>True) (fun x w=>Is.still hrd d9 fun _ z=>msk_still.mpr z) hall
   .left;exact⟨o,hrd,lS (E:=E) (g:=g) (fr:=r.fr) (xs:=xs) s2 s3 rep2 (me hrd hall qk) (rT p2')⟩
 |_=>rw[qd]at p2';exact p2'.elim
end
def G4 (H:Hp)(T:Addr->Prop)(w:V)(Q:VK):Res (List D×D)->Prop
 | .ok (es,x)=>∀ a us H' T',H' a=some (.lst us)->(H a=none\/T a)->¬ T' a->IsAll H' (fun _=>False) es us->(∀ b o,H b=some o->¬ T b->H' b=some o)->(∀ b,T' b->(T b\/H b=none)/\Mu H' b)->(∀ b,T b->H' b≠none)->Is H' T' x w->Q (.ref a) H'
 |_=>False
def Jd (n:Nat)(F:List D->D->Res (List D×D)):Sp:=fun vs H Q E=>vs.length=n+1/\∃ ws w,vs=ws++[w]/\∃ ds x Ma T,ds.length=n/\IsAll H Ma ds ws/\Is H T x w/\(∀ a,T a->Mu H a/\¬ Ma a)/\G4 H T w Q (F ds x)
def gF (N:List Str)(ds:List D)(x:D):En:=ds.map (fun d=>some (.val d false))++some (.pin x)::List.replicate (N.length-(ds.length+1)) none
noncomputable def wD:R->Option (List D)
 | .new es _=>some es
 | .fre (.lst es)=>some es
 |_=>none
def Bl (n:Nat):Res Fl->Res (List D×D)
 | .ok (.rm r env)=>match wD r with
  |some es=>if D.flats es then (match env[n]? with
   |some (some (.pin x))=>.ok (es,x)
   |_=>.stuck) else .stuck
  |none=>.stuck
 |_=>.stuck
theorem u4 {g:Gd}{M:Addr->Prop}{ρ:Pr}{H0 H:Hp}{v:V}{r:R}{es:List D}(h:ROk g M ρ H0 H v r)(e:wD r=some es):∃ a us m,v=.ref a/\H a=some (.lst us)/\H0 a=none/\(∀ i,¬ ρ i a)/\IsAll H m es us:=by
 cases r with
 |val d fr al=>cases e
 |new ds fr=>cases e;obtain⟨a,us,rfl,h1,h2,h3,h4,h5⟩:=h;exact⟨a,us,_,rfl,h1,h3,h4,h5⟩
 |fre d=>
  cases d with
  |lst ds=>
   cases e;obtain⟨T,ht,a,us,rfl,h1,h2⟩:=h;rcases h1 with⟨h1,h3⟩|⟨o,h1,h3⟩
   .exact⟨a,us,T,rfl,h1,(ht a h3).2.1,(ht a h3).2.2.2,h2⟩
   .obtain⟨_,_,⟨u,y1,y2⟩,_⟩:=ht a h3;rw[h1]at y1;cases y1;exact y2.elim
  |_=>cases e
def Bm (N:List Str)(FB:En->Res Fl)(ds:List D)(x:D):Res (List D×D):=Bl ds.length (FB (gF N ds x))
open Classical in
noncomputable def gG (H:Hp)(Ma T:Addr->Prop)(w:V):Gd:=⟨fun a=>if T a then none else H a,Ma,T,some w,none⟩
theorem fX {H:Hp}{Ma T:Addr->Prop}{w:V}{a:Addr}(h:T a):(gG H Ma T w).H₀ a=none:=JW h
theorem bI {H:Hp}{Ma T:Addr->Prop}{w:V}{a:Addr}(h:¬ T a):(gG H Ma T w).H₀ a=H a:=J0 h
theorem ud {H:Hp}{Ma T:Addr->Prop}{ds:List D}{x:D}{ws:List V}{w:V}{N:List Str}(is:IsAll H Ma ds ws)(ix:Is H T x w)(ht:∀ a,T a->Mu H a/\¬ Ma a)(hN:ds.length+1<=N.length) :
 Rep (gG H Ma T w) (fun a=>Ma a/\H a≠none) (fun i a=>i=ds.length/\T a) (gF N ds x) (L2.start N (ws++[w])) H where
 same:=fun a o e=>by
  by_cases h:T a
  .rw[fX h]at e;cases e
  .rw[bI h]at e;exact e
 froz:=fun a z=>z.2
 inn:=fun a z=>.inr z.1
 fl:=fun a z h=>by
  by_cases q:T a
  .exact((ht a q).2 z.1).elim
  .rw[bI q]at h;exact absurd h z.2
 slot:=fun i sl e=>by
  have hl:=is.length;unfold gF at e;by_cases hi:i<ds.length
  .rw[Ka (by simpa using hi),J9]at e;obtain⟨v,ev,iv⟩:=is.get (i:=i) (d:=ds[i]) (by simp[hi]);have e1:ds[i]?=some ds[i]:=by simp[hi]
   rw[e1]at e;cases e;refine⟨v,?_,Is.mono (fun _ _ q _=>q) (fun a o q z=>⟨⟨z,by rw[q];simp⟩,fun z=>by cases z⟩) iv⟩;unfold L2.start;rw[Ka (by simp;omega),J9,Ka (by omega),ev];rfl
  .rw[Ke (by simpa using hi),JU]at e;by_cases hz:i=ds.length
   .subst hz;simp only[Nat.sub_self,List.getElem?_cons_zero,MZ]at e;subst e;refine⟨w,?_,Is.weak (fun a z=>⟨rfl,z⟩) ix,rfl⟩;unfold L2.start;rw[Ka (by simp;omega),J9,Ke (by omega),hl];simp
   .have:i-ds.length=(i-ds.length-1)+1:=by omega
    rw[this,Mr,K7]at e;split at e<;>cases e
 priv:=fun i a z=>⟨fun h=>(ht a z.2).2 h.1,fX z.2,(ht a z.2).1⟩
 apart:=fun i j a z1 z2=>z1.1.trans z2.1.symm
 ow:=fun i a z=>by obtain⟨rfl,_⟩:=z;unfold isOwn gF;rw[Ke (by simp)];simp[Sl.isO]
 len:=by have hl:=is.length;unfold gF L2.start;simp[hl]
 zz:=fun a z=>(ht a z).1.some
section
variable {P:Nh}{w:World}{K:Ng}{mg:Str->Option Ni}{base:Heap}
theorem G5 {x qual:Str}{st:Stmt}{f:Addr}{fd:FuncData}{N ps:List Str}{k n:Nat}{FB:En->Res Fl}(F:Fun K x qual st f fd)(S:FnScope N ps (defScope st))(hn:ps.length=n+1)(hN:n+1<=N.length)
 (body:∀(cdv:Ni)(A:Nj)(outer:List Env)(s:Nf)(H:Hp)(E:XK),Room k (A.deeper (envOfC qual (defScope st) s.heap.objs.size f cdv))->iu (oO j9 P w K mg base N qual (defScope st) f cdv A outer s H E).nox E (defBody st) FB) :
 FnOk P w K mg base j9 (k+1) f fd ps (Jd n (Bm N FB)):=by
 refine F.ok S (fun vs H Q E h=>h.1.trans hn.symm) (fun cdv A outer s H vs Q E hr h=>?_);obtain⟨hl,ws,w0,rfl,ds,x0,Ma,T,hds,is,ix,ht,post⟩:=h;obtain⟨t,p1,s1⟩:=body cdv A outer s H E hr;refine⟨t,p1,s1 (gG H Ma T w0) _ _ (gF N ds x0) (L2.start N (ws++[w0])) H _ (ud is ix ht (by omega)) ?_⟩;unfold Bm at post;cases q:FB (gF N ds x0) with
 |stuck=>rw[q]at post;exact post
 |exc c=>rw[q]at post;exact(show False from post).elim
 |ok r=>
  rw[q]at post;cases r with
  |nx env=>exact(show False from post).elim
  |rt r=>exact(show False from post).elim
  |bk env=>exact(show False from post).elim
  |ct env=>exact(show False from post).elim
  |rm r env=>
   unfold Bl at post;dsimp only at post;cases qr:wD r with
   |none=>rw[qr]at post;exact post.elim
   |some es=>
    rw[qr]at post;dsimp only at post;by_cases hf:D.flats es=true
    .rw[JW hf]at post;cases q2:env[ds.length]? with
     |none=>rw[q2]at post;exact post.elim
     |some o=>
      cases o with
      |none=>rw[q2]at post;exact post.elim
      |some sl=>
       cases sl with
       |pin y=>
        rw[q2]at post;intro v σ M' ρ H0 H' fz rep hs ro;obtain⟨a,us,m0,rfl,h1,h3,h4,h5⟩:=u4 ro qr;obtain⟨v',ev,k1,k2⟩:=rep.slot _ _ q2;cases k2;refine post a us H' (ρ ds.length) h1 ?_ (h4 _) (IsAll.flat hf h5) (fun b o e nb=>?_) (fun b z=>⟨?_,(rep.priv _ b z).2.2⟩) (fun b z=>rep.zz b z) k1
        .-- the list is new
         have h0:(gG H Ma T w0).H₀ a=none:=hs.free h3;by_cases hT:T a
         .exact .inr hT
         .rw[bI hT]at h0;exact .inl h0
        .exact rep.same b o (by rw[bI nb];exact e)
        .have h0:=(rep.priv _ b z).2.1;by_cases hT:T b
         .exact .inl hT
         .rw[bI hT]at h0;exact .inr h0
       |_=>rw[q2]at post;exact post.elim
    .rw[J0 hf]at post;exact post.elim
end
def yQ (X:Cx)(E:XK)(j:Nat)(es:List Expr)(fs:En->Res (List R)):Prop:=∃ t,PA X es t/\∀ g M ρ env σ H (Q:List V->Hp->Prop),Rep g M ρ env σ H->(match fs env with
 | .stuck=>False
 | .exc c=>Ao X.mg E g c
 | .ok rs=>∀ vs w M' H',Ext M H M' H'->Rep g M' ρ env σ H'->IsAll H' (vmsk g M' (a_ rs) ρ (bc rs)) (rs.map R.d) vs->σ[j]?=some (some w)->Q (vs++[w]) H')->(∃ sl,env[j]?=some (some sl))->t σ H Q
section
variable {X:Cx}{E:XK}
theorem rV {e:Expr}{j:Nat}(h:PE X e (di j))(hs:autoParam (starEach [e] X.env=(false,eval e X.env)::starEach [] X.env) Nq._auto_1):yQ X E j [e] az:=by refine⟨_,aI h bK hs,fun g M ρ env σ H Q rep p hsl=>?_⟩;obtain⟨sl,e1⟩:=hsl;obtain⟨v,ev,_⟩:=rep.slot j sl e1;exact⟨v,ev,p [] v M H (Ext.refl _ _) rep rfl ev⟩
theorem dF {e:Expr}{es:List Expr}{j:Nat}{f:En->Res R}{fs:En->Res (List R)}(he:PD X E e f)(hr:yQ X E j es fs)(hs:autoParam (starEach (e::es) X.env=(false,eval e X.env)::starEach es X.env) Nq._auto_1):yQ X E j (e::es) (aj f fs):=by
 obtain⟨t,p1,s1⟩:=he;obtain⟨u,p2,s2⟩:=hr;refine⟨_,aI p1 p2 hs,fun g M ρ env σ H Q rep p hsl=>?_⟩;unfold aj at p;refine s1 g M ρ env σ H _ rep ?_;cases q:f env with
 |stuck=>rw[q]at p;exact p
 |exc c=>rw[q]at p;exact p
 |ok r=>
  rw[q]at p;intro v M1 H1 e1 rep1 ro;obtain⟨M2,e2,_,rep2,is⟩:=ro.is rep1 e1 rep.same;refine s2 g M2 ρ env σ H1 _ rep2 ?_ hsl;simp only[Res.bind_ok]at p;cases q2:fs env with
  |stuck=>rw[q2]at p;exact p
  |exc c=>rw[q2]at p;exact p
  |ok rs=>rw[q2]at p;exact fun vs w M3 H3 e3 rep3 is3 ew=>p (v::vs) w M3 H3 (e2.trans e3) rep3 (IsAll.args (is.ext e3) is3) ew
theorem Rep.change {g:Gd}{M:Addr->Prop}{ρ:Pr}{env:En}{σ:St}{H H':Hp}{j:Nat}{x:D}{v:V}{T':Addr->Prop}(rep:Rep g M ρ env σ H)(hj:j<env.length)(ev:σ[j]?=some (some v))(kp:∀ b o,H b=some o->¬ ρ j b->H' b=some o)(ht:∀ b,T' b->(ρ j b\/H b=none)/\Mu H' b)(hz:∀ b,ρ j b->H' b≠none)(is:Is H' T' x v) :
 Frz M H M H'/\Rep g M (lR ρ j T') (env.set j (some (.tre x))) σ H':=by
 have nM:∀ b,M b->¬ ρ j b:=fun b h z=>(rep.priv j b z).1 h;have nF:∀ b o,H b=some o->fixd o->¬ ρ j b:=fun b o e hf z=>by obtain⟨_,_,u,e2,hm⟩:=rep.priv j b z;rw[e]at e2;cases e2;cases o<;>first|exact hf|exact hm
 have kM:∀ b o,H b=some o->(M b\/fixd o)->H' b=some o:=fun b o e z=>kp b o e (z.elim (nM b) (nF b o e));have kR:∀ k,k≠j->∀ b o,H b=some o->(ρ k b\/fixd o)->H' b=some o:=fun k hk b o e z=>kp b o e (z.elim (fun z w=>hk (rep.apart k j b z w)) (nF b o e));refine⟨⟨fun _ z=>z,kM⟩,fun b o e=>?_,fun b hb e=>?_,rep.inn,fun b hb h0=>?_,fun k sl e=>?_,fun k b h=>?_,fun k l b h1 h2=>?_,fun k b h=>?_,by rw[KE];exact rep.len,fun b z e=>?_⟩
 .exact kp b o (rep.same b o e) fun z=>by rw[(rep.priv j b z).2.1]at e;cases e
 .cases q:H b with
  |none=>exact rep.froz b hb q
  |some o=>rw[kM b o q (.inl hb)]at e;cases e
 .exact(rep.fl b hb h0).same fun o e=>kM b o e (.inl hb)
 .by_cases hk:k=j
  .subst hk;rw[JZ hj]at e;cases e;exact⟨v,ev,by rw[bb];exact is⟩
  .rw[JX (Ko hk)]at e;obtain⟨w,ew,k1⟩:=rep.slot k sl e;refine⟨w,ew,?_⟩;rw[aK hk];cases sl with
   |val d fr=>exact Is.mono (fun b o e z=>kM b o e (z.imp (·.1) id)) (fun _ _ _ z=>z) k1
   |own ds fr=>obtain⟨b,ws,rfl,h1,h2,h4⟩:=k1;exact⟨b,ws,rfl,kR k hk b _ h1 (.inl ((h2 b).mpr rfl)),h2,IsAll.mono (fun b o e z=>kM b o e (z.imp (·.1) id)) (fun _ _ _ z=>z) h4⟩
   |tre d=>exact Is.mono (fun b o e z=>kR k hk b o e z) (fun _ _ _ z=>z) k1
   |pin d=>exact⟨Is.mono (fun b o e z=>kR k hk b o e z) (fun _ _ _ z=>z) k1.1,k1.2⟩
   |dis d=>exact⟨Is.mono (fun b o e z=>kR k hk b o e z) (fun _ _ _ z=>z) k1.1,k1.2.mono (fun b o z e=>kR k hk b o e (.inl z)) fun _ z=>z⟩
   |fix n q0=>exact⟨k1.1,k1.2.mono fun b o e z=>kR k hk b o e z⟩
   |kon a=>exact k1
   |mes d=>exact IsSh.mono (fun b o e z=>kM b o e (.inr z)) (fun b us z e=>⟨us,kR k hk b _ e (.inl z)⟩) (fun _ z=>z) k1
 .by_cases hk:k=j
  .subst hk;rw[bb]at h;obtain⟨h1,h2⟩:=ht b h;rcases h1 with h1|h1
   .exact⟨(rep.priv k b h1).1,(rep.priv k b h1).2.1,h2⟩
   .exact⟨fun z=>rep.froz b z h1,rep.same.free h1,h2⟩
  .rw[aK hk]at h;obtain⟨h1,h2,u,h3,h4⟩:=rep.priv k b h;exact⟨h1,h2,u,kR k hk b u h3 (.inl h),h4⟩
 .have key:∀ l,l≠j->T' b->ρ l b->False:=fun l hl z w=>by
   rcases (ht b z).1 with h|h
   .exact hl (rep.apart l j b w h)
   .exact(rep.priv l b w).2.2.some h
  by_cases hk:k=j
  .by_cases hl:l=j
   .rw[hk,hl]
   .subst hk;rw[bb]at h1;rw[aK hl]at h2;exact(key l hl h1 h2).elim
  .by_cases hl:l=j
   .subst hl;rw[bb]at h2;rw[aK hk]at h1;exact(key k hk h2 h1).elim
   .rw[aK hk]at h1;rw[aK hl]at h2;exact rep.apart k l b h1 h2
 .unfold isOwn;by_cases hk:k=j
  .subst hk;rw[JZ hj];rfl
  .rw[aK hk]at h;rw[JX (Ko hk)];exact rep.ow k b h
 .by_cases hr:ρ j b
  .exact hz b hr e
  .cases q:H b with
   |none=>exact rep.zz b z q
   |some o=>rw[kp b o q hr]at e;cases e
def jO (i j:Nat)(F:List D->D->Res (List D×D))(env:En)(rs:List R):Res Fl:=match env[j]? with
 |some (some (.tre x))=>if ¬ j∈bc rs/\i≠j/\i<env.length then (match F (rs.map R.d) x with
  | .ok (es,y)=>.ok (.nx ((env.set j (some (.tre y))).set i (some (.own es true))))
  |_=>.stuck) else .stuck
 |_=>.stuck
def pO (i j:Nat)(F:List D->D->Res (List D×D))(fs:En->Res (List R)):En->Res Fl:=fun env=>(fs env).noX.bind (jO i j F env)
theorem wF {CX:CXT}{k n:Nat}{f:Addr}{fd:FuncData}{ps:List Str}{F:List D->D->Res (List D×D)}{x y:Str}{p pos py spos:Pos}{e:Expr}{es:List Expr}{fs:En->Res (List R)}{i j:Nat}(hN:X.N.Nodup)(hi:X.N[i]?=some y)(hy:An X.env.scope y)
 (G:FnOk X.prog X.w X.K X.mg X.base CX k f fd ps (Jd n F)) (hr:Room k X.A) (hg:Gl X x) (hm:X.mg x=some (.ref f)) (hk:PySem.W.keepIn X.K (.ref f)=true) (hb:Binds X.K fd ps []) (hx:jv CX X E)
 (ha:yQ X E j (e::es) fs) (hl:∀ env rs,fs env=.ok rs->rs.length=n) (hdb:autoParam ((x==("__debug__" : Str))=false) Nk._auto_1) (he:autoParam (starEach (e::es) X.env=(false,eval e X.env)::starEach es X.env) Nq._auto_1) (hpl:autoParam ((backTo pos (starEach es X.env)).any (·.1)=false) Nq._auto_1)
 (hs:autoParam (swapsWith (.Call (.Name x p) (e::es) [] pos) (some (.Name y py)) spos.line X.env=pure false) Nq._auto_1) (hf:autoParam (X.fn y=true\/X.env.scope.names.lookup y=some .local) Nl._auto_1) :
 ju X E (.Assign [.Name y py] (.Call (.Name x p) (e::es) [] pos) spos) (pO i j F fs):=by
 obtain⟨t,p1,s1⟩:=ha;refine⟨_,fK hN hi hy (oN G hr hg hm hk hb .nil hx p1 hdb he hpl) hs hf,fun g M ρ env σ H D rep p=>?_⟩;unfold pO at p;cases q:fs env with
 |stuck=>rw[q]at p;exact(show False from p).elim
 |exc c=>rw[q]at p;exact(show False from p).elim
 |ok rs=>
  rw[q]at p;have p:PostS X.mg E g M H D (jO i j F env rs):=p;unfold jO at p;cases q1:env[j]? with
  |none=>rw[q1]at p;exact p.elim
  |some o=>
   cases o with
   |none=>rw[q1]at p;exact p.elim
   |some sl=>
    cases sl with
    |tre x0=>
     rw[q1]at p;dsimp only at p;by_cases hcon:¬ j∈bc rs/\i≠j/\i<env.length
     .rw[JW hcon]at p;obtain⟨nal,nij,hil⟩:=hcon;cases q2:F (rs.map R.d) x0 with
      |stuck=>rw[q2]at p;exact p.elim
      |exc c=>rw[q2]at p;exact p.elim
      |ok r=>
       obtain⟨es',y0⟩:=r;rw[q2]at p;dsimp only at p;refine s1 g M ρ env σ H _ rep ?_ ⟨_,q1⟩;rw[q];intro vs w M1 H1 e1 rep1 is ew;have hjl:j<env.length:=(JY.mp q1).1;obtain⟨w',ew',iw⟩:=rep1.slot j _ q1;rw[ew]at ew';cases ew';have iw:Is H1 (ρ j) x0 w:=iw;have hln:rs.length=n:=hl env rs q;rw[Ls];refine⟨by rw[Kp,is.length,JU,hln];rfl,vs,w,rfl,rs.map R.d,x0,_,ρ j,by rw[JU];exact hln,is,iw,fun a z=>⟨(rep1.priv j a z).2.2,fun w=>?_⟩,?_⟩
       .rcases w with w|⟨l,hl',w⟩
        .exact(rep1.priv j a z).1 w.1
        .exact nal (rep1.apart l j a w z▸hl')
       .rw[q2];intro a us H' T' h1 h2 h3 h4 kp ht hz ix;obtain⟨f1,rep2⟩:=rep1.change hjl ew kp ht hz ix;obtain⟨z0,zm,zo⟩ : g.H₀ a=none/\¬ M1 a/\∀ l,l≠j->¬ ρ l a:=by
         rcases h2 with h2|h2
         .exact⟨(rep1.free h2).1,(rep1.free h2).2.1,fun l _=>(rep1.free h2).2.2 l⟩
         .exact⟨(rep1.priv j a h2).2.1,(rep1.priv j a h2).1,fun l hl w=>hl (rep1.apart l j a w h2)⟩
        have rep3:=rep2.put (i:=i) (sl:=.own es' true) (v:=.ref a) (T:=fun b=>b=a) (by rw[KE];exact hil) ⟨a,us,rfl,h1,fun _=>Iff.rfl,IsAll.weak (fun _ z=>z.elim) h4⟩ (fun b e=>by
         subst e;refine⟨zm,z0,Mu.lst h1,fun l hl z=>?_⟩;by_cases hlj:l=j
         .subst hlj;rw[bb]at z;exact h3 z
         .rw[aK hlj]at z;exact zo l hlj z)
        exact p _ M1 _ H' (e1.frz.trans f1) rep3
     .rw[J0 hcon]at p;exact p.elim
    |_=>rw[q1]at p;exact p.elim
end
def G6 (l:List Int):D:=.dic ((bV l).map ik) ((bV l).map fun _=>.bl true)
def G7 (ts:List Tri)(x:Int):D:=.dic ((g2 ts x).map ik) ((g2 ts x).map fun y=>G6 (g3 ts x y))
def Je (ts:List Tri):D:=.dic ((g1 ts).map ik) ((g1 ts).map (G7 ts))
def kvT (l:List Int):List (Key×V):=(bV l).map fun z=>(.inl z,.bl true)
structure Gq (H:Hp) (a:Addr) (ts:List Tri) (A:Int->Addr) (B:Int->Int->Addr):Prop where
 root:H a=some (.dK (kvI (g1 ts) A))\/(g1 ts=[]/\H a=some (.dT []))
 inn:∀ x∈g1 ts,H (A x)=some (.dK (kvI (g2 ts x) (B x)))
 leaf:∀ x y,y∈g2 ts x->H (B x y)=some (.dK (kvT (g3 ts x y)))
 d1:∀ x∈g1 ts,A x≠a
 d2:∀ x∈g1 ts,∀ x'∈g1 ts,A x=A x'->x=x'
 d3:∀ x y,y∈g2 ts x->∀ x' y',y'∈g2 ts x'->B x y=B x' y'->x=x'/\y=y'
 d4:∀ u∈g1 ts,∀ x y,y∈g2 ts x->A u≠B x y
 d5:∀ x y,y∈g2 ts x->B x y≠a
section
variable {H:Hp}{a:Addr}{ts:List Tri}{A:Int->Addr}{B:Int->Int->Addr}{x y z:Int}
end
theorem Gq.is {H:Hp}{a:Addr}{ts:List Tri}{A:Int->Addr}{B:Int->Int->Addr}(G:Gq H a ts A B):Is H (qB a ts A B) (Je ts) (.ref a):=by
 have keys:∀(l:List Int)(C:Int->Addr),l.map ik=(kvI l C).map (fun p=>.inl p.1):=fun l C=>by unfold kvI;rw[Kl];rfl
 have vals:∀(l:List Int)(C:Int->Addr),(kvI l C).map Prod.snd=l.map fun x=>.ref (C x):=fun l C=>by unfold kvI;rw[Kl];rfl
 have inner:∀ x∈g1 ts,Is H (qB a ts A B) (G7 ts x) (.ref (A x)):=fun x hx=>by
  refine⟨A x,(g2 ts x).map fun y=>.ref (B x y),rfl,⟨.inl ⟨_,.inl (G.inn x hx),keys _ _,(vals _ _).symm⟩,.inr (.inl ⟨x,hx,rfl⟩)⟩,dE fun y hy=>?_⟩;refine⟨B x y,(kvT (g3 ts x y)).map Prod.snd,rfl,⟨.inl ⟨_,.inl (G.leaf x y hy),?_,rfl⟩,.inr (.inr ⟨x,y,hy,rfl⟩)⟩,?_⟩
  .unfold kvT;rw[Kl];rfl
  .unfold kvT;rw[Kl];exact dE fun _ _=>rfl
 refine⟨a,(g1 ts).map fun x=>.ref (A x),rfl,⟨?_,.inl rfl⟩,dE inner⟩;rcases G.root with q|⟨q,e⟩
 .exact .inl ⟨_,.inl q,keys _ _,(vals _ _).symm⟩
 .rw[q];exact .inr ⟨[],.inl e,rfl,rfl⟩
section
variable {X:Cx}{E:XK}{tg:Expr}
end
section
variable {X:Cx}{E:XK}
def cP:List R->Res R
 | [r]=>match r.d with
  | .dic ks _=>match kE ks with
   |some xs=>if xs.length<=lim then .ok (.new xs true) else .stuck
   |none=>.stuck
  |_=>rD [r]
 |_=>.stuck
theorem rW {H:Hp}{m:Addr->Prop}:∀(kvs:List (Key×V)),IsAll H m (kvs.map fun p=>kD p.1) (kvs.map fun p=>kV p.1)
 | []=>rfl
 |p::r=>⟨_,_,rfl,uX p.1,rW r⟩
theorem gH (hc:X.calm=true):lP X E (.type "list") cP:=by
 obtain⟨r0,c0,s0⟩:=A4 (X:=X) (E:=E);refine⟨fun xs H Q=>xU xs H Q\/r0 xs H Q,fun pins s σ H xs us Q I r h=>h.elim (tV hc pins s σ H xs us Q I r) (c0 pins s σ H xs us Q I r),fun g M ρ env σ H Q rs vs rep i p=>?_⟩
 match rs,i,p with
 | [r],i,p=>
  unfold cP at p;dsimp only at p;split at p
  .rename_i ks ds q;cases qk:kE ks with
   |none=>rw[qk]at p;exact p.elim
   |some xs=>
    rw[qk]at p;dsimp only at p;by_cases hl:xs.length<=lim
    .rw[JW hl]at p;left;obtain⟨v,w,rfl,i1,i2⟩:=i;cases i2;have i1:Is H (vmsk g M (a_ [r]) ρ (bc [r])) r.d v:=i1;rw[q]at i1;obtain⟨d,kvs,u,rfl,md,hu,hrd,rfl,hall⟩:=jM i1 (mf qk);have ex:xs=kvs.map fun p=>kD p.1:=i7 qk;subst ex;refine⟨d,kvs,u,rfl,hu,hrd,by rw[JU]at hl;exact fP hl,fun l hl'=>p.new rep hl' (rW kvs)⟩
    .rw[J0 hl]at p;exact p.elim
  .exact .inr (s0 g M ρ env σ H Q [r] vs rep i p)
 | [],_,p=>exact p.elim
 |_::_::_,_,p=>exact p.elim
def ue (r0 r1 r2:R):Res R:=match r1,r2 with
 | .new d1 _,.new d2 _=>if r0.d.flat/\D.flats d1=true/\D.flats d2=true then .ok (.fre (.tup [r0.d,.lst d1,.lst d2])) else .stuck
 |_,_=>.stuck
def Ge (f0 f1 f2:En->Res R):En->Res R:=fun env=>(f0 env).bind fun r0=>(f1 env).bind fun r1=>(f2 env).bind fun r2=>ue r0 r1 r2
theorem CP {e0 e1 e2:Expr}{f0 f1 f2:En->Res R}{k:Nat}{pos:Pos}(h0:PD X E e0 f0)(h1:PD X E e1 f1)(h2:PD X E e2 f2)(hs0:autoParam (starEach [e0,e1,e2] X.env=(false,eval e0 X.env)::starEach [e1,e2] X.env) Nq._auto_1)(hs1:autoParam (starEach [e1,e2] X.env=(false,eval e1 X.env)::starEach [e2] X.env) Nq._auto_1)(hs2:autoParam (starEach [e2] X.env=(false,eval e2 X.env)::starEach [] X.env) Nq._auto_1):PD X E (.Tuple [e0,e1,e2] k pos) (Ge f0 f1 f2):=by
 obtain⟨t0,p0,s0⟩:=h0;obtain⟨t1,p1,s1⟩:=h1;obtain⟨t2,p2,s2⟩:=h2;refine⟨_,sX (aI p0 (aI p1 (aI p2 bK hs2) hs1) hs0),fun g M ρ env σ H Q rep p=>?_⟩;have p:PostE X.mg E g M ρ env σ H Q ((f0 env).bind fun r0=>(f1 env).bind fun r1=>(f2 env).bind fun r2=>ue r0 r1 r2):=p;refine s0.oneE rep p fun r0 v0 M0 H0 x0 rep0 i0 q0=>?_;refine s1 g M0 ρ env σ H0 _ rep0 ?_;cases e1':f1 env with
 |stuck=>rw[e1']at q0;exact q0
 |exc c=>rw[e1']at q0;exact q0
 |ok r1=>
  rw[e1']at q0;intro v1 M1 H1 x1 rep1 ro1;refine s2 g M1 ρ env σ H1 _ rep1 ?_;simp only[Res.bind_ok]at q0;cases e2':f2 env with
  |stuck=>rw[e2']at q0;exact q0
  |exc c=>rw[e2']at q0;exact q0
  |ok r2=>
   rw[e2']at q0;simp only[Res.bind_ok]at q0;intro v2 M2 H2 x2 rep2 ro2;unfold ue at q0;cases r1 with
   |val d fr al=>exact q0.elim
   |fre d=>exact q0.elim
   |new d1 fr1=>
    cases r2 with
    |val d fr al=>exact q0.elim
    |fre d=>exact q0.elim
    |new d2 fr2=>
     dsimp only at q0;by_cases hc:r0.d.flat=true/\D.flats d1=true/\D.flats d2=true
     .rw[JW hc]at q0;obtain⟨c0,c1,c2⟩:=hc;obtain⟨a1,w1,rfl,g1,g2,g3,g4,g5⟩:=ro1;obtain⟨a2,w2,rfl,k1,k2,k3,k4,k5⟩:=ro2;refine⟨by show 3<=sizeLine;decide,fun b hb=>?_⟩;have sb:Same H2 (ay H2 b (.tup [v0,.ref a1,.ref a2])):=aV hb;have g1':H2 a1=some (.lst w1):=x2.h _ _ g1;have nm1:¬ M2 a1:=fun z=>(x2.n a1 z).elim g2 fun w=>by rw[g1]at w;cases w
      have g3':H0 a1=none:=g3;have k3':H1 a2=none:=k3;have n12:a1≠a2:=fun e=>by rw[e,k3']at g1;cases g1
      refine q0 (.ref b) M2 _ ((x1.trans x2).trans ⟨fun _ z=>z,sb,fun _ z=>.inl z⟩) (rep2.grow sb) ⟨fun a=>a=a1\/a=a2,fun a z=>?_,b,_,rfl,ai,v0,_,rfl,Is.flat c0 ((((i0.same x1.h).same x2.h)).same sb),.ref a1,_,rfl,⟨a1,w1,rfl,.inl ⟨sb _ _ g1',.inl rfl⟩,IsAll.flat c1 ((g5.same x2.h).same sb)⟩,.ref a2,_,rfl,⟨a2,w2,rfl,.inl ⟨sb _ _ k1,.inr rfl⟩,IsAll.flat c2 (k5.same sb)⟩,rfl⟩;rcases z with rfl|rfl
      .exact⟨nm1,g3',⟨_,sb _ _ g1',True.intro⟩,g4⟩
      .exact⟨k2,x1.h.free k3',⟨_,sb _ _ k1,True.intro⟩,k4⟩
     .rw[J0 hc]at q0;exact q0.elim
def cE (i:Nat)(f:En->Res R):En->Res Fl:=fun env=>(f env).bind fun r=>if i<env.length then .ok (.nx ((frz env r.al).set i (some (.val r.d r.fr)))) else .stuck
theorem bC {i:Nat}{x:Str}{e:Expr}{f:En->Res R}{pos pos':Pos}(hN:X.N.Nodup)(hi:X.N[i]?=some x)(hx:An X.env.scope x)(h:PD X E e f)(hs:autoParam (swapsWith e (some (.Name x pos')) pos.line X.env=pure false) Nq._auto_1)
 (hf:autoParam (X.fn x=true\/X.env.scope.names.lookup x=some .local) Nl._auto_1):ju X E (.Assign [.Name x pos'] e pos) (cE i f):=by
 obtain⟨t,p1,s1⟩:=h;refine⟨_,fK hN hi hx p1 hs hf,fun g M ρ env σ H D rep p=>?_⟩;refine s1.oneS rep p fun r v M' H' e rep' ro p'=>?_;by_cases hi:i<env.length
 .rw[JW hi]at p';obtain⟨M2,x2,x2m,rep2,is2⟩:=ro.is rep' e rep.same;obtain⟨M3,ρ3,x3,rep3,o3,_,_⟩:=Rep.frz r.al rep2;have rep4:=rep3.put (i:=i) (sl:=.val r.d r.fr) (T:=fun _=>False) (by rw[dr];exact hi) (Is.frozen rep2 x3 o3 is2) (fun _ z=>z.elim) fun _ z=>z.elim;exact p' _ M3 _ H' ⟨fun a z=>x3 a (x2m a z),fun _ _ q _=>q⟩ rep4
 .rw[J0 hi]at p';exact p'.elim
theorem qv (i:Nat) {x:Str} {pos:Pos} (hN:autoParam (X.N[i]?=some x) Nq._auto_1) (hv:autoParam (Vis X.env.scope x) Nm._auto_1) (hd:autoParam ((x==("__debug__" : Str))=false) Nk._auto_1)
 (hc:autoParam ((x==("__classdict__" : Str))=false) Nk._auto_1):PD X E (.Name x pos) (ag i):=lM (pv i hN hv hd hc)
theorem aq {i:Nat}{o:Expr}{k:Int}{j:Nat}{pos pos':Pos}(hu:X.A.units+64<cLine)(h:PE X o (di i)):PD X E (.Subscript o (.Constant (.int k) j pos') pos) (aw i (vC (.int k))):=pI (pp h av (fun _ _=>rfl)) (g7 hu (lM h) av (fun _ _=>rfl))
end
end L3
namespace L2
open PySem PySem.Spec PyProof.Rows
section
variable {X:Cx}
end
end L2
namespace L3
open PySem PySem.Spec PyProof.Rows L2
section
variable {X:Cx}{E:XK}
end
section
variable {X:Cx}{E:XK}{hc hc2:Str}{Ch Ch2:Addr}{cs cs2:List Str}{np hpos np2 hpos2 pos epos p cpos:Pos}{b₀ c₀:Stmt}{suite suite2:List Stmt}{fsu fsu2:En->Res Fl}{k:Nat}{f:Addr}{fd:FuncData}{ps:List Str}{F:List D->Res R}{x:Str}{e:Expr}{es:List Expr}{fs:En->Res (List R)}
end
section
variable {X:Cx}{E:XK}
end
section
variable {X:Cx}{E:XK}{scope:Scope}{tg:Expr}{tN:List Str}{capN:List Str}{caps:List Nat}{iter:Expr}{pos lpos:Pos}{src:En->Res Src}
end
section
variable {X:Cx}{E:XK}
end
noncomputable def Iw:Bool->List V->HO
 |true,xs=>.tup xs
 |false,xs=>.lst xs
theorem u5:∀{k:Bool}{xs ys:List V},Iw k xs=Iw k ys->xs=ys
 |true,_,_,e=>by cases e;rfl
 |false,_,_,e=>by cases e;rfl
theorem u6:∀{k:Bool}{xs:List V}{o:Obj}{u:HO},Iw k xs≠.frz o u
 |true,_,_,_,e=>by cases e
 |false,_,_,_,e=>by cases e
def SqX (k:Bool)(H:Hp)(a:Addr)(xs:List V):Prop:=Rd H a (Iw k xs)
theorem SqX.inj {k:Bool}{H:Hp}{a:Addr}{xs ys:List V}(h:SqX k H a xs)(g:SqX k H a ys):xs=ys:=by
 rcases h with h|⟨o,h⟩<;>rcases g with g|⟨o',g⟩<;>rw[h]at g
 .exact u5 (Kq g)
 .exact(u6 (Kq g)).elim
 .exact(u6 (Kq g).symm).elim
 .have e:=Kq g;injection e with _ e;exact u5 e
theorem SqX.some {k:Bool}{H:Hp}{a:Addr}{xs:List V}(h:SqX k H a xs):∃ o,H a=some o:=xX h
theorem SqX.at {X:Cx}{pins:List (Addr×Obj)}{σ:St}{H:Hp}{s:Nf}:∀{k:Bool}{a:Addr}{xs:List V},L2.Inv X pins σ H s->SqX k H a xs->∃ its:List Ni,Vals xs its/\JI k s.heap a its.toArray
 |true,_,_,I,h=>let ⟨its,r,p,_⟩:=I.tuple (.inl h);⟨its,r,p⟩
 |false,_,_,I,h=>let ⟨its,r,p,_⟩:=I.list (.inl h);⟨its,r,p.isList⟩
section
variable {X:Cx}{E:XK}{es:List Expr}{k:Nat}{gq:Pos}
end
section
variable {X:Cx}{E:XK}
def u7 (a b:Str):Prop:=0<b.length/\a.length<=100000/\(Txt.split a b).length<=100000/\(Builtin.Str.partsBetween a (Builtin.Str.occurrences a b 0 a.length (a.length+1)) b.length).length<=100000
instance (a b:Str):Decidable (u7 a b):=by unfold u7;infer_instance
end
mutual
noncomputable def KtIs (K:Ng):D->V->Prop
 | .str x,v=>v=.str x
 | .tup ds,v=>∃ a vs,v=.ref a/\(∃ p∈K,Av p.2=some (a,vs))/\KtAll K ds vs
 |_,_=>False
noncomputable def KtAll (K:Ng):List D->List V->Prop
 | [],vs=>vs=[]
 |d::ds,vs=>∃ v r,vs=v::r/\KtIs K d v/\KtAll K ds r
end
section
variable {K:Ng}{H:Hp}{m:Addr->Prop}
mutual
theorem KtIs.is (kt:WrT K H):∀{d:D}{v:V},KtIs K d v->Is H m d v
 | .str _,_,h=>h
 | .tup ds,_,h=>by obtain⟨a,vs,e,⟨p,hp,hk⟩,r⟩:=h;exact⟨a,vs,e,kt p hp a vs hk,KtAll.is kt r⟩
 | .non,_,h=>h.elim
 | .bl _,_,h=>h.elim
 | .int _,_,h=>h.elim
 | .lst _,_,h=>h.elim
 | .dic _ _,_,h=>h.elim
theorem KtAll.is (kt:WrT K H):∀{ds:List D}{vs:List V},KtAll K ds vs->IsAll H m ds vs
 | [],_,h=>h
 |d::ds,_,h=>by obtain⟨v,r,e,h1,h2⟩:=h;exact⟨v,r,e,KtIs.is kt h1,KtAll.is kt h2⟩
end
end
section
variable {X:Cx}{E:XK}
end
def b7 {α:Type}(xs:List α)(lo hi st:Option Int):List α:=(sliceRange (sliceBounds lo hi st xs.length).1 (sliceBounds lo hi st xs.length).2.1 (sliceBounds lo hi st xs.length).2.2).filterMap fun i=>xs[i]?
theorem IsAll.picks {H:Hp}{m:Addr->Prop}{ds:List D}{vs:List V}(h:IsAll H m ds vs):∀ is:List Nat,IsAll H m (is.filterMap fun i=>ds[i]?) (is.filterMap fun i=>vs[i]?)
 | []=>rfl
 |i::is=>by
  cases e:ds[i]? with
  |none=>
   have e':vs[i]?=none:=by rw[List.getElem?_eq_none_iff]at e ⊢;rw[h.length];exact e
   rw[LH e,LH e'];exact IsAll.picks h is
  |some d=>obtain⟨v,ev,hv⟩:=h.get e;rw[Ll e,Ll ev];exact⟨v,_,rfl,hv,IsAll.picks h is⟩
theorem IsAll.pick {H:Hp}{m:Addr->Prop}{ds:List D}{vs:List V}(h:IsAll H m ds vs)(lo hi st:Option Int):IsAll H m (b7 ds lo hi st) (b7 vs lo hi st):=by unfold b7;rw[h.length];exact h.picks _
theorem jP:∀{xs:List V}{us:List Ni},Vals xs us->∀ is:List Nat,Vals (is.filterMap fun i=>xs[i]?) (is.filterMap fun i=>us[i]?)
 |xs,us,h,[]=>.nil
 |xs,us,h,i::is=>by
  have hl:=h.length;cases e:xs[i]? with
  |none=>
   have e':us[i]?=none:=by rw[List.getElem?_eq_none_iff]at e ⊢;omega
   rw[LH e,LH e'];exact jP h is
  |some x=>obtain⟨u,eu,ru⟩:=Vals.get h e;rw[Ll e,Ll eu];exact .cons ru (jP h is)
def Jf (K:Ng)(te:TE)(tl th ts:TO):TE:=fun σ H Q=>te σ H fun x H1=>tl σ H1 fun l H2=>th σ H2 fun u H3=>ts σ H3 fun st H4=>st≠some 0/\∃ a xs,x=.ref a/\SqL K H4 a xs/\∀ p,H4 p=none->Q (.ref p) (ay H4 p (.lst (b7 xs l u st)))
section
variable {X:Cx}{E:XK}
theorem wG {e:Expr}{te:TE}{lo hi:Option Expr}{s3:Expr}{tl th ts:TO}{pos p2:Pos}(he:PE X e te)(hl:PO X lo tl)(hu:PO X hi th)(hs:PO X (some s3) ts):PE X (.Subscript e (.Slice lo hi (some s3) p2) pos) (Jf X.K te tl th ts):=by
 intro pins s σ H Q I h;refine Subscript_ (bz (he pins s σ H _ I h) fun v s1 ⟨x,H1,I1,r1,q1⟩=>?_);refine wpAny_Slice (bz (hl pins s1 σ H1 _ I1 q1) fun vl s2 ⟨l,H2,I2,pl,q2⟩=>bz (hu pins s2 σ H2 _ I2 q2) fun vu s3 ⟨u,H3,I3,pu,q3⟩=>bz (hs pins s3 σ H3 _ I3 q3) fun vs s4 ⟨st,H4,I4,ps,q4⟩=>?_);obtain⟨h0,a,xs,rfl,hx,q⟩:=q4;cases r1;have I5:Inv X pins σ H4 { s4 with heap:=s4.heap.push { cls:=.type "slice",data:=.fields #[vl,vu,vs] } }:=I4.kept (t':=s4.toks) fun b ob q=>JV _ q;obtain⟨its,r,ht,hz⟩:=I5.list hx;have bO:=r.length;have hg:=wpAny_getItem_list_slice (prog:=X.prog) (w:=X.w) (A:=X.A) (E:=X.xe) (Q:=EP X pins σ Q) ht.isList (Heap.IsSliceOf.new s4.heap vl vu vs) pl pu ps h0 (by
  refine⟨.ref _,_,I5.laid (t':=s4.toks) (o:=.lst (b7 xs l u st)) (fun b ob q=>JV _ q) (J1 _) ?_,rfl,q _ (I5.hok.fresh (J1 _))⟩;have e1:slicePick its.toArray l u st=(b7 its l u st).toArray:=by unfold slicePick b7;simp only[J3,List.getElem?_toArray]
  have r2:Vals (b7 xs l u st) (b7 its l u st):=by unfold b7;rw[<- bO];exact jP r _
  refine⟨?_,_,0,r2,?_⟩
  .have:=slicePick_size_le its.toArray l u st;rw[e1,J3,J3]at this;rw[r2.length];omega
  .rw[e1];exact Kb _ rfl) (by rw[J3];omega)
 exact tail_any (ops:=[.ref a,.ref s4.heap.objs.size]) ht.isList.typeIs slot_list_getitem.lookup hg (by with_unfolding_all rfl)
def i9 (r:R)(lo hi st:Option Int):Res R:=match r.d with
 | .lst xs=>if st=some 0 then .stuck else .ok (jC (b7 xs lo hi st) r.fr r.al)
 |_=>.stuck
def kW (fa:En->Res R)(fl fh fs:En->Res (Option Int)):En->Res R:=fun env=>(fa env).bind fun r=>(fl env).bind fun lo=>(fh env).bind fun hi=>(fs env).bind fun st=>i9 r lo hi st
theorem nT {e:Expr}{lo hi:Option Expr}{s3:Expr}{fa:En->Res R}{fl fh fs:En->Res (Option Int)}{p2 pos:Pos}(ha:PD X E e fa)(hl:Iu X E lo fl)(hh:Iu X E hi fh)(hs:Iu X E (some s3) fs):PD X E (.Subscript e (.Slice lo hi (some s3) p2) pos) (kW fa fl fh fs):=by
 obtain⟨ta,p1,s1⟩:=ha;obtain⟨tl,p2,s2⟩:=hl;obtain⟨th,p3,s3'⟩:=hh;obtain⟨ts,p4,s4⟩:=hs;refine⟨_,wG p1 p2 p3 p4,fun g M ρ env σ H Q rep p=>s1.oneE rep p fun r v M1 H1 e1 rep1 is q=>?_⟩;refine s2 g M1 ρ env σ H1 _ rep1 ?_;cases z1:fl env with
 |stuck=>rw[z1]at q;exact q
 |exc c=>rw[z1]at q;exact q
 |ok lo'=>
  rw[z1]at q;intro M2 H2 e2 rep2;have q2:PostE X.mg E g M2 ρ env σ H2 Q ((fh env).bind fun hi=>(fs env).bind fun st=>i9 r lo' hi st):=PostE.ext e2 q;refine s3' g M2 ρ env σ H2 _ rep2 ?_;cases z2:fh env with
  |stuck=>rw[z2]at q2;exact q2
  |exc c=>rw[z2]at q2;exact q2
  |ok hi'=>
   rw[z2]at q2;intro M3 H3 e3 rep3;have q3:PostE X.mg E g M3 ρ env σ H3 Q ((fs env).bind fun st=>i9 r lo' hi' st):=PostE.ext e3 q2;refine s4 g M3 ρ env σ H3 _ rep3 ?_;cases z3:fs env with
   |stuck=>rw[z3]at q3;exact q3
   |exc c=>rw[z3]at q3;exact q3
   |ok st'=>
    rw[z3]at q3;intro M4 H4 e4 rep4;have q4:PostE X.mg E g M4 ρ env σ H4 Q (i9 r lo' hi' st'):=PostE.ext e4 q3;have is4:=((is.ext e2).ext e3).ext e4;unfold i9 at q4;cases z:r.d with
    |lst xs=>
     rw[z]at q4 is4;dsimp only at q4;by_cases h0:st'=some 0
     .rw[JW h0]at q4;exact q4.elim
     .rw[J0 h0]at q4;obtain⟨a,vs,rfl,h1,h2⟩:=is4.rd;exact⟨h0,a,vs,rfl,.inl h1,fun p hp=>q4.lst rep4 hp (h2.pick lo' hi' st')⟩
    |_=>rw[z]at q4;exact q4.elim
def wH (i:Nat):En->Res Fl:=fun env=>match env[i]? with
 |some (some (.own ds fr))=>.ok (.nx (env.set i (some (.own ds.reverse fr))))
 |_=>.stuck
theorem IsAll.rev {H:Hp}{m:Addr->Prop}:∀{ds:List D}{vs:List V},IsAll H m ds vs->IsAll H m ds.reverse vs.reverse
 | [],_,h=>by cases h;rfl
 |d::ds,_,h=>by obtain⟨v,r,rfl,h1,h2⟩:=h;rw[LY,LY];exact(IsAll.rev h2).append ⟨v,[],rfl,h1,rfl⟩
theorem Bn {i:Nat} {a:Expr} {apos cpos pos:Pos} (ha:PE X a (di i)) (hbase:autoParam (attributeBase a "reverse" X.env (eval a X.env)=eval a X.env) Nq._auto_1) (hline:autoParam ((apos.endLine==cpos.line)=true) Nq._auto_1)
 (hsw:autoParam (swapsWith (.Call (.Attribute a "reverse" apos) [] [] cpos) none pos.line X.env=pure false) Nq._auto_1):ju X E (.Expr (.Call (.Attribute a "reverse" apos) [] [] cpos) pos) (wH i):=by
 refine⟨_,kJ (DN LL PySem.F.slot_list_reverse PySem.F.type_list_reverse sZ ha hbase hline) hsw,fun g M ρ env σ H D rep p=>?_⟩;unfold wH at p;split at p
 .rename_i ds fr e1;have hi:i<env.length:=(JY.mp e1).1;obtain⟨v,ev,l,vs,rfl,h1,h2,h3⟩:=rep.slot i _ e1;have hT:ρ i l:=(h2 l).mpr rfl;have kp:∀ b u,H b=some u->msk g M fr b\/fixd u->ay H l (.lst vs.reverse) b=some u:=fun b u q z=>by
   refine(af fun w=>?_).trans q;subst w;rcases z with z|z
   .exact(rep.priv i b hT).1 z.1
   .rw[h1]at q;cases q;exact z
  obtain⟨f1,rep2⟩:=rep.write (sl:=.own ds.reverse fr) (vs':=vs.reverse) hT hi ev ⟨l,vs.reverse,rfl,ai,h2,IsAll.mono kp (fun _ _ _ z=>z) h3.rev⟩;exact⟨_,ev,.inl ⟨rfl,vs,SqL.of h1⟩,l,vs,rfl,rfl,h1,p σ M ρ _ f1 rep2⟩
 .exact p.elim
end
noncomputable def eQ:List DK->DK->Option Nat
 | [],_=>none
 |k'::ks,k=>if k'=k then some 0 else (eQ ks k).map (·+ 1)
theorem cQ:∀{kvs:List (Key×V)}{k:Key}{j:Nat},eQ (kvs.map fun p=>(.inl p.1:DK)) (.inl k)=some j->∃ v,kvs[j]?=some (k,v)/\dj kvs k=some v
 | [],k,j,h=>by cases h
 |p::r,k,j,h=>by
  rw[J4]at h;unfold eQ at h;by_cases e:p.1=k
  .rw[JW (KQ Sum.inl e)]at h;cases h;exact⟨p.2,by rw[<- e];rfl,dH e⟩
  .rw[J0 (fun z=>e (KH z))]at h;cases q:eQ (r.map fun p=>(.inl p.1:DK)) (.inl k) with
   |none=>rw[q]at h;cases h
   |some i=>rw[q]at h;cases h;obtain⟨v,h1,h2⟩:=cQ q;exact⟨v,h1,by rw[c4 e];exact h2⟩
theorem cS:∀{kvs:List (Key×V)}{k:Key},eQ (kvs.map fun p=>(.inl p.1:DK)) (.inl k)=none->dj kvs k=none
 | [],k,h=>rfl
 |p::r,k,h=>by
  rw[J4]at h;unfold eQ at h;by_cases e:p.1=k
  .rw[JW (KQ Sum.inl e)]at h;cases h
  .rw[J0 (fun z=>e (KH z))]at h;cases q:eQ (r.map fun p=>(.inl p.1:DK)) (.inl k) with
   |none=>rw[c4 e];exact cS q
   |some i=>rw[q]at h;cases h
def Bo:D->Bool
 | .dic _ ds=>D.flats ds
 |_=>false
def mh (ks:List DK)(ds:List D)(k:DK):Option D:=match eQ ks k with
 |some j=>ds[j]?
 |none=>some (.dic [] [])
def fY (ks:List DK)(ds:List D)(k:DK)(d:D):D:=match eQ ks k with
 |some j=>.dic ks (ds.set j d)
 |none=>.dic (ks++[k]) (ds++[d])
noncomputable def cA:Option Sl->Bool
 |some (.fix n _)=>n==0
 |_=>true
noncomputable def EC:Option (Option Sl)->Bool
 |some none=>true
 |_=>false
noncomputable def ED:Option (Option Sl)->Bool
 |some (some (.fix n .no))=>n==0
 |_=>false
def wI (ic ir:Nat)(mk:D->D):Res Fl->Res Fl
 | .ok (.nx env)=>match env[ir]? with
  |some (some (.fix 1 (.tr (.dic ks ds))))=>if D.flats ds=true/\ED env[ic]?=true/\(env.set ir none).all cA=true then .ok (.nx ((env.set ir none).set ic (some (.fix 0 (.ds (mk (.dic ks ds))))))) else .stuck
  |_=>.stuck
 |_=>.stuck
def fZ (ic ir:Nat)(env:En)(d:D):En:=(env.set ic (some (.fix 0 .no))).set ir (some (.fix 1 (.tr d)))
def yR (ic is ir:Nat)(f:En->Res Fl):En->Res Fl:=fun env=>match env[ic]? with
 |some (some (.fix 0 (.ds (.dic ks ds))))=>match env[is]? with
  |some (some (.val (.int x) _))=>if ic≠ir/\EC env[ir]?=true/\env.all cA=true/\ks.all (kin (ik x))=true/\ks.length<lim/\ds.all Bo=true then
   (match mh ks ds (ik x) with
   |some (.dic k2 d2)=>wI ic ir (fY ks ds (ik x)) (f (fZ ic ir env (.dic k2 d2)))
   |_=>.stuck) else .stuck
  |_=>.stuck
 |_=>.stuck
theorem mi {H:Hp}{m:Addr->Prop}:∀{ds:List D}{vs:List V},ds.length=vs.length->(∀(i:Nat) d v,ds[i]?=some d->vs[i]?=some v->Is H m d v)->IsAll H m ds vs
 | [],[],_,_=>rfl
 | [],_::_,h,_=>by cases h
 |_::_,[],h,_=>by cases h
 |d::ds,v::vs,h,f=>⟨v,vs,rfl,f 0 d v rfl rfl,mi (by simpa using h) fun i d' v' e1 e2=>f (i+1) d' v' e1 e2⟩
open Classical in
noncomputable def uf (g:Gd)(G:Addr->Prop)(H2:Hp)(c:Addr):Gd:=⟨fun z=>if G z then H2 z else g.H₀ z,fun z=>g.Ma z/\¬ G z,g.Z,g.root,some (.ref c)⟩
theorem mj {g:Gd}{G:Addr->Prop}{H2:Hp}{c z:Addr}(h:G z):(uf g G H2 c).H₀ z=H2 z:=JW h
theorem b9 {g:Gd}{G:Addr->Prop}{H2:Hp}{c z:Addr}(h:¬ G z):(uf g G H2 c).H₀ z=g.H₀ z:=J0 h
theorem yS {env:En}{i n:Nat}{k:Kd}(h:env.all cA=true)(e:env[i]?=some (some (.fix n k))):n=0:=by have:=KJ.mp h _ (KM e);simpa[cA] using this
theorem SlOk.move {g g':Gd}{M T T':Addr->Prop}{H H':Hp}{v:V}{sl:Sl}(kM:∀ z o,H z=some o->(M z\/fixd o)->H' z=some o)(kT:∀ z o,H z=some o->T z->H' z=some o)(eT:∀ z,T z↔T' z)
 (hm:∀ fr z,msk g M fr z->msk g' M fr z) (hr:g'.root=g.root) (hn:∀ n k,sl=.fix n k->n=0) (h:SlOk g M T H v sl):SlOk g' M T' H' v sl:=by
 have e:T=T':=by funext z;exact propext (eT z)
 subst e;have kR:∀ z o,H z=some o->(T z\/fixd o)->H' z=some o:=fun z o q w=>w.elim (kT z o q) fun w=>kM z o q (.inr w);cases sl with
 |val d f=>exact Is.mono (fun z o q w=>kM z o q (w.imp (·.1) id)) (fun _ _ _ w=>hm _ _ w) h
 |own ds f=>obtain⟨b,us,rfl,q1,q2,q3⟩:=h;exact⟨b,us,rfl,kT b _ q1 ((q2 b).mpr rfl),q2,IsAll.mono (fun z o q w=>kM z o q (w.imp (·.1) id)) (fun _ _ _ w=>hm _ _ w) q3⟩
 |tre d=>exact Is.mono kR (fun _ _ _ z=>z) h
 |pin d=>exact⟨Is.mono kR (fun _ _ _ z=>z) h.1,hr.trans h.2⟩
 |dis d=>exact⟨Is.mono kR (fun _ _ _ z=>z) h.1,h.2.mono (fun z o w q=>kT z o q w) fun _ z=>z⟩
 |fix n k=>have n0:=hn n k rfl;subst n0;exact⟨hr.trans h.1,h.2.mono kR⟩
 |kon b=>exact h
 |mes d=>exact IsSh.mono (fun z o q w=>kM z o q (.inr w)) (fun z us w q=>⟨us,kT z _ q w⟩) (fun _ z=>z) h
section
variable {X:Cx}{E:XK}{g:Gd}{M:Addr->Prop}{ρ:Pr}{env:En}{σ:St}{H H2:Hp}{D:Ends}
theorem rX {t2:TS}{f:En->Res Fl}{ic ir j:Nat}{a c:Addr}{x:Key}{kvs2:List (Key×V)}{ds2:List L3.D}{k2:List DK}{d2:List L3.D}{sl0:Sl}(s2:yd X.mg E t2 f)(rep:Rep g M ρ env σ H)(hic:env[ic]?=some (some sl0))(evc:σ[ic]?=some (some (.ref a)))(hroot:g.root=some (.ref a))(hir:env[ir]?=some none)
 (hne:ic≠ir) (nf:env.all cA=true) (Ta:ρ ic a) (F1:∀ z o,H z=some o->z≠a->H2 z=some o) (F2:H2 a=some (.dK kvs2)) (ca:c≠a) (muc:Mu H2 c) (cT:ρ ic c\/H c=none) (F4:kvs2[j]?=some (x,.ref c)) (F5:Is H2 (fun z=>z=c) (.dic k2 d2) (.ref c)) (F7:ds2.length=kvs2.length)
 (F6:∀(i:Nat) p d,kvs2[i]?=some p->i≠j->ds2[i]?=some d->∃ ci,p.2=.ref ci/\ρ ic ci/\ci≠c/\Is H2 (fun z=>z=ci) d (.ref ci))
 (F8:V.ref a∉kvs2.map Prod.snd) (F9:∀(i j:Nat)(b:Addr),(kvs2.map Prod.snd)[i]?=some (V.ref b)->(kvs2.map Prod.snd)[j]?=some (V.ref b)->i=j)
 (p:PostS X.mg E g M H D (wI ic ir (fun d=>.dic (kvs2.map fun p=>.inl p.1) (ds2.set j d)) (f (fZ ic ir env (.dic k2 d2))))):t2 D (σ.set ir (some (.ref c))) H2:=by
 have li:ic<env.length:=(JY.mp hic).1;have lr:ir<env.length:=(JY.mp hir).1;have muA:Mu H a:=(rep.priv ic a Ta).2.2;have nfa:∀ u,H a=some u->¬ fixd u:=fun u e z=>by obtain⟨o,q,m⟩:=muA;rw[e]at q;cases q;cases u<;>first|exact z|exact m
 have norir:∀ z,¬ ρ ir z:=fun z h=>by have:=rep.ow ir z h;unfold isOwn at this;rw[hir]at this;cases this
 have nMc:¬ M c:=fun z=>cT.elim (fun w=>(rep.priv ic c w).1 z) fun w=>rep.froz c z w;have g0c:g.H₀ c=none:=cT.elim (fun w=>(rep.priv ic c w).2.1) fun w=>rep.same.free w;have noc:∀ i,i≠ic->¬ ρ i c:=fun i hi w=>cT.elim (fun z=>hi (rep.apart i ic c w z)) fun z=>(rep.priv i c w).2.2.some z
 let G:Addr->Prop:=fun z=>ρ ic z/\z≠c
 have hG:∀ z,G z->Mu H2 z:=fun z h=>by
  by_cases e:z=a
  .subst e;exact⟨_,F2,True.intro⟩
  .exact(rep.priv ic z h.1).2.2.same fun o q=>F1 z o q e
 have kM:∀ z o,H z=some o->(M z\/fixd o)->H2 z=some o:=fun z o q w=>F1 z o q fun e=>by
  subst e;rcases w with w|w
  .exact(rep.priv ic z Ta).1 w
  .exact nfa o q w
 have nGM:∀ z,M z->¬ G z:=fun z h w=>(rep.priv ic z w.1).1 h;have rep2:Rep (uf g G H2 c) M (fun i z=>if i=ir then z=c else if i=ic then False else ρ i z) (fZ ic ir env (.dic k2 d2)) (σ.set ir (some (.ref c))) H2:=by
  have rho:∀ i z,(if i=ir then z=c else if i=ic then False else ρ i z)->(i=ir/\z=c)\/(i≠ir/\i≠ic/\ρ i z):=fun i z h=>by
   by_cases e:i=ir
   .rw[JW e]at h;exact .inl ⟨e,h⟩
   .rw[J0 e]at h;by_cases e2:i=ic
    .rw[JW e2]at h;exact h.elim
    .rw[J0 e2]at h;exact .inr ⟨e,e2,h⟩
  have nG:∀ i z,i≠ic->ρ i z->¬ G z:=fun i z hi h w=>hi (rep.apart i ic z h w.1);refine⟨fun z o e=>?_,fun z hz e=>?_,fun z hz=>?_,fun z hz h0=>?_,fun i sl e=>?_,fun i z h=>?_,fun i k z h1 h2=>?_,fun i z h=>?_,?_,fun z hz e=>?_⟩
  .by_cases h:G z
   .rw[mj h]at e;exact e
   .rw[b9 h]at e;exact F1 z o (rep.same z o e) fun q=>by subst q;rw[(rep.priv ic z Ta).2.1]at e;cases e
  .cases q:H z with
   |none=>exact rep.froz z hz q
   |some o=>rw[kM z o q (.inl hz)]at e;cases e
  .rw[b9 (nGM z hz)];exact(rep.inn z hz).imp id fun w=>⟨w,nGM z hz⟩
  .rw[b9 (nGM z hz)]at h0;exact(rep.fl z hz h0).same fun o q=>kM z o q (.inl hz)
  .unfold fZ at e;by_cases hi:i=ir
   .subst hi;rw[JZ (by simpa using lr)]at e;cases e;refine⟨.ref c,JZ (by rw[<- rep.len];exact lr),rfl,?_⟩;exact Is.weak (fun z q=>by rw[JW rfl];exact q) F5
   .rw[JX (Ko hi)]at e;by_cases hc:i=ic
    .subst hc;rw[JZ li]at e;cases e;exact⟨.ref a,by rw[JX (Ko hi)];exact evc,hroot,True.intro⟩
    .rw[JX (Ko hc)]at e;obtain⟨v,ev,k⟩:=rep.slot i sl e;refine⟨v,by rw[JX (Ko hi)];exact ev,SlOk.move (g:=g) (g':=uf g G H2 c) kM (fun z o q w=>F1 z o q fun e=>hc (rep.apart i ic z w (e▸Ta))) (fun z=>by rw[J0 hi,J0 hc]) (fun fr z w=>⟨w.1,fun q=>by rw[b9 (nGM z w.1)];exact w.2 q⟩) rfl (fun n k q=>by subst q;exact yS nf e) k⟩
  .rcases rho i z h with⟨rfl,rfl⟩|⟨h1,h2,h3⟩
   .exact⟨nMc,by rw[b9 (fun w=>w.2 rfl)];exact g0c,muc⟩
   .obtain⟨q1,q2,q3⟩:=rep.priv i z h3;exact⟨q1,by rw[b9 (nG i z h2 h3)];exact q2,q3.same fun o q=>F1 z o q fun e=>h2 (rep.apart i ic z h3 (e▸Ta))⟩
  .rcases rho i z h1 with⟨rfl,rfl⟩|⟨a1,a2,a3⟩<;>rcases rho k z h2 with⟨rfl,q⟩|⟨b1,b2,b3⟩
   .rfl
   .exact(noc k b2 b3).elim
   .subst q;exact(noc i a2 a3).elim
   .exact rep.apart i k z a3 b3
  .unfold isOwn fZ;rcases rho i z h with⟨rfl,rfl⟩|⟨a1,a2,a3⟩
   .rw[JZ (by simpa using lr)];rfl
   .rw[JX (Ko a1),JX (Ko a2)];exact rep.ow i z a3
  .unfold fZ;simp[rep.len]
  .cases q:H z with
   |none=>exact rep.zz z hz q
   |some o=>
    by_cases h:z=a
    .subst h;rw[F2]at e;cases e
    .rw[F1 z o q h]at e;cases e
 refine s2 (uf g G H2 c) M _ (fZ ic ir env (.dic k2 d2)) _ H2 D rep2 ?_;unfold wI at p;split at p
 .rename_i env4 ef;rw[ef];split at p
  .rename_i k3 d3 e4;by_cases hc:L3.D.flats d3=true/\ED env4[ic]?=true/\(env4.set ir none).all cA=true
   .rw[JW hc]at p;obtain⟨_,hlk,nf4⟩:=hc;intro σ' M' ρ' H' fz rep';have e4c:env4[ic]?=some (some (.fix 0 .no)):=by
     unfold ED at hlk;split at hlk
     .rename_i n e;rw[e];simp at hlk;rw[hlk]
     .cases hlk
    have li4:ic<env4.length:=(JY.mp e4c).1;have lr4:ir<env4.length:=(JY.mp e4).1;obtain⟨vr,evr,rr,isr⟩:=rep'.slot ir _ e4;have rr:some (V.ref c)=some vr:=rr;cases rr;have isr:Is H' (ρ' ir) (.dic k3 d3) (.ref c):=isr;obtain⟨va,eva,ra,_⟩:=rep'.slot ic _ e4c;have ra:g.root=some va:=ra;rw[hroot]at ra;cases ra;have gh:∀ z,G z->(uf g G H2 c).H₀ z≠none:=fun z h e=>by rw[mj h]at e;exact(hG z h).some e
    have nG':∀ z,M' z->¬ G z:=fun z h w=>(rep'.inn z h).elim (gh z w) fun q=>q.2 w;have nGr:∀ i z,ρ' i z->¬ G z:=fun i z h w=>gh z w (rep'.priv i z h).2.1;have keepG:∀ z o,G z->H2 z=some o->H' z=some o:=fun z o h e=>rep'.same z o (by rw[mj h];exact e);have Ga:G a:=⟨Ta,Ko ca⟩;have Ha:H' a=some (.dK kvs2):=keepG a _ Ga F2;have hj:j<kvs2.length:=(JY.mp F4).1;have fin:Is H' (fun z=>G z\/ρ' ir z) (.dic (kvs2.map fun p=>.inl p.1) (ds2.set j (.dic k3 d3))) (.ref a):=by
     refine⟨a,kvs2.map Prod.snd,rfl,⟨.inl ⟨kvs2,.inl Ha,rfl,rfl⟩,.inl Ga⟩,mi (by simp[F7]) fun i d v e1 e2=>?_⟩;rw[J9]at e2;cases q:kvs2[i]? with
     |none=>rw[q]at e2;cases e2
     |some pr=>
      rw[q]at e2;cases e2;by_cases hij:i=j
      .subst hij;rw[JZ (by rw[F7];exact hj)]at e1;cases e1;rw[F4]at q;cases q;exact Is.weak (fun z w=>.inr w) isr
      .rw[JX (Ko hij)]at e1;obtain⟨ci,ep,hci,hcc,is6⟩:=F6 i pr d q hij e1;show Is H' _ d pr.2;rw[ep];refine Is.mono (fun z o e w=>?_) (fun z _ _ w=>?_) is6
       .rcases w with w|w
        .subst w;exact keepG z o ⟨hci,hcc⟩ e
        .exact fz.h z o e (.inr w)
       .subst w;exact .inl ⟨hci,hcc⟩
    have dst:Dst H' (fun z=>G z\/ρ' ir z) (.ref a):=⟨a,kvs2.map Prod.snd,rfl,.inl Ga,.inr (.inl ⟨kvs2,Ha,rfl⟩),F8,F9⟩;refine p σ' M' (fun i z=>if i=ic then G z\/ρ' ir z else if i=ir then False else ρ' i z) H' ⟨fz.m,fun z o e w=>fz.h z o (kM z o e w) w⟩ ?_;have rho:∀ i z,(if i=ic then G z\/ρ' ir z else if i=ir then False else ρ' i z)->(i=ic/\G z)\/(i=ic/\ρ' ir z)\/(i≠ic/\i≠ir/\ρ' i z):=fun i z h=>by
     by_cases e:i=ic
     .rw[JW e]at h;exact h.elim (fun w=>.inl ⟨e,w⟩) fun w=>.inr (.inl ⟨e,w⟩)
     .rw[J0 e]at h;by_cases e2:i=ir
      .rw[JW e2]at h;exact h.elim
      .rw[J0 e2]at h;exact .inr (.inr ⟨e,e2,h⟩)
    refine⟨fun z o e=>?_,rep'.froz,fun z hz=>?_,fun z hz h0=>?_,fun i sl e=>?_,fun i z h=>?_,fun i k z h1 h2=>?_,fun i z h=>?_,?_,rep'.zz⟩
    .refine rep'.same z o ?_;rw[b9]
     .exact e
     .intro w;rw[(rep.priv ic z w.1).2.1]at e;cases e
    .refine(rep'.inn z hz).imp (fun w=>?_) fun w=>w.1;rw[b9 (nG' z hz)]at w;exact w
    .exact rep'.fl z hz (by rw[b9 (nG' z hz)];exact h0)
    .by_cases hi:i=ic
     .subst hi;rw[JZ (by simpa using li4)]at e;cases e;refine⟨.ref a,eva,hroot,?_⟩;rw[show(fun z=>if i=i then G z\/ρ' ir z else if i=ir then False else ρ' i z)=fun z=>G z\/ρ' ir z by funext z;rw[JW rfl]];exact⟨fin,dst⟩
     .rw[JX (Ko hi)]at e;by_cases h2:i=ir
      .subst h2;rw[JZ lr4]at e;cases e
      .have e0:=e;rw[JX (Ko h2)]at e;obtain⟨v,ev,k⟩:=rep'.slot i sl e;exact⟨v,ev,SlOk.move (g:=uf g G H2 c) (g':=g) (fun _ _ q _=>q) (fun _ _ q _=>q) (fun z=>by rw[J0 hi,J0 h2]) (fun fr z w=>⟨w.1,fun q=>by have:=w.2 q;rw[b9 (nG' z w.1)]at this;exact this⟩) rfl (fun n k q=>by subst q;exact yS nf4 e0) k⟩
    .rcases rho i z h with⟨rfl,w⟩|⟨rfl,w⟩|⟨a1,a2,w⟩
     .exact⟨fun m=>nG' z m w,(rep.priv _ z w.1).2.1,(hG z w).same fun o q=>keepG z o w q⟩
     .obtain⟨q1,q2,q3⟩:=rep'.priv ir z w;exact⟨q1,by rw[b9 (nGr ir z w)]at q2;exact q2,q3⟩
     .obtain⟨q1,q2,q3⟩:=rep'.priv i z w;exact⟨q1,by rw[b9 (nGr i z w)]at q2;exact q2,q3⟩
    .rcases rho i z h1 with⟨i1,w⟩|⟨i1,w⟩|⟨a1,a2,w⟩<;>rcases rho k z h2 with⟨k1,u⟩|⟨k1,u⟩|⟨b1,b2,u⟩
     .exact i1.trans k1.symm
     .exact i1.trans k1.symm
     .exact(nGr k z u w).elim
     .exact i1.trans k1.symm
     .exact i1.trans k1.symm
     .exact(b2 (rep'.apart k ir z u w)).elim
     .exact(nGr i z w u).elim
     .exact(a2 (rep'.apart i ir z w u)).elim
     .exact rep'.apart i k z w u
    .unfold isOwn;have key:i=ic\/(i≠ic/\i≠ir/\ρ' i z):=(rho i z h).elim (fun w=>.inl w.1) fun w=>w.elim (fun w=>.inl w.1) .inr;rcases key with rfl|⟨a1,a2,w⟩
     .rw[JZ (by simpa using li4)];rfl
     .rw[JX (Ko a1),JX (Ko a2)];exact rep'.ow i z w
    .simp[rep'.len]
   .rw[J0 hc]at p;exact p.elim
  .exact p.elim
 .exact p.elim
theorem qN {kvs:List (Key×V)}{k:Key}{y:V}(h:dj kvs k=none):bq kvs k y=kvs++[(k,y)]:=by unfold bq;rw[iJ,h,J0 (by simp)]
theorem i_ {ic is ir:Nat} {s1:Stmt} {aZ:List Stmt} {f:En->Res Fl} (h1:PS X s1 (xi (GI X.K "dict" uC (di ic) (hJ (di is) (hJ tf sW))) (gs ir))) (h2:iu X E aZ f):iu X E (s1::aZ) (yR ic is ir f):=by
 obtain⟨t2,p2,s2⟩:=h2;refine⟨_,qJ h1 p2,fun g M ρ env σ H D rep p=>?_⟩;unfold yR at p;split at p
 .rename_i ks ds hq;split at p
  .rename_i x fx hx;by_cases hc:ic≠ir/\EC env[ir]?=true/\env.all cA=true/\ks.all (kin (ik x))=true/\ks.length<lim/\ds.all Bo=true
   .rw[JW hc]at p;obtain⟨hne,hno,nf,hkin,bO,hdf⟩:=hc;split at p
    .rename_i k2 d2 hrow;obtain⟨va,eva,ra,isd,dst⟩:=rep.slot ic _ hq;have ra:g.root=some va:=ra;obtain⟨a,ws,rfl,⟨dat,Ta⟩,hall⟩:=isd;obtain⟨vx,evx,kx⟩:=rep.slot is _ hx;have kx:vx=.int x:=kx;subst kx;have hir:env[ir]?=some none:=by
      unfold EC at hno;split at hno
      .assumption
      .cases hno
     obtain⟨uo,hA,mA⟩:=(rep.priv ic a Ta).2.2;have nofz:∀ o u,H a≠some (.frz o u):=fun o u z=>by rw[z]at hA;cases hA;exact mA
     have nfa:∀ u,H a=some u->¬ fixd u:=fun u e z=>by rw[e]at hA;cases hA;cases uo<;>first|exact z|exact mA
     have rdn:∀ u,Rd H a u->H a=some u:=fun u z=>z.elim id fun⟨o,z⟩=>(nofz _ _ z).elim;obtain⟨kvs,roots,rfl,rfl⟩ : ∃ kvs:List (Key×V),(H a=some (.dK kvs)\/(H a=some (.dT [])/\kvs=[]))/\ks=kvs.map (fun p=>.inl p.1)/\ws=kvs.map Prod.snd:=by
      rcases dat with⟨kvs,e,q1,q2⟩|⟨kvs,e,q1,q2⟩
      .exact⟨kvs,.inl (rdn _ e),q1,q2⟩
      .cases kvs with
       |nil=>exact⟨[],.inr ⟨rdn _ e,rfl⟩,q1,q2⟩
       |cons q r0=>rw[q1]at hkin;simp[kin,ik]at hkin
     obtain⟨nself,inj⟩ : V.ref a∉kvs.map Prod.snd/\∀(i j:Nat)(b:Addr),(kvs.map Prod.snd)[i]?=some (V.ref b)->(kvs.map Prod.snd)[j]?=some (V.ref b)->i=j:=by
      obtain⟨a',vs,e,_,hv,n1,n2⟩:=dst;cases e;have:vs=kvs.map Prod.snd:=by
       rcases hv with q|⟨kv',q,rfl⟩|⟨q,rfl⟩<;>rcases roots with r|⟨r,e⟩<;>(rw[q]at r;cases r)
       .rfl
       .rw[e];rfl
      rw[<- this];exact⟨n1,n2⟩
     have ent:∀(i:Nat) p d,kvs[i]?=some p->ds[i]?=some d->∃ ci,p.2=.ref ci/\ρ ic ci/\ci≠a/\Is H (fun z=>z=ci) d (.ref ci):=fun i p d e1 e2=>by
      obtain⟨v,ev,iv⟩:=hall.get e2;rw[J9,e1]at ev;cases ev;have hd:=KJ.mp hdf d (KM e2);cases d with
      |dic k' d'=>obtain⟨ci,us,e,⟨dt,tc⟩,al⟩:=iv;refine⟨ci,e,tc,fun z=>?_,ci,us,rfl,⟨dt,rfl⟩,IsAll.flat hd al⟩;exact nself (J8.mpr ⟨p,KM e1,by rw[e,z]⟩)
      |_=>cases hd
     have hlen2:ds.length=kvs.length:=by have:=hall.length;rw[JU]at this;exact this.symm
     refine⟨.ref a,eva,.inr (.inr (.inl ⟨rfl,roots.imp (fun q=>⟨_,q⟩) fun q=>⟨_,q.1⟩⟩)),.int x,evx,fun b hb=>?_⟩;have hba:b≠a:=fun e=>by rw[e,hA]at hb;cases hb
     have kb:∀ z o,H z=some o->ay H b (.dK []) z=some o:=fun z o e=>by rw[af (ap e hb)];exact e
     refine⟨a,.inl x,.ref b,kvs,rfl,rfl,roots.imp (kb _ _) fun q=>⟨kb _ _ q.1,q.2⟩,by rw[JU]at bO;exact gx bO,?_⟩;cases hix:eQ (kvs.map fun p=>(.inl p.1:DK)) (ik x) with
     |some j=>
      left;obtain⟨v,hj,hv⟩:=cQ hix;have hrow':ds[j]?=some (.dic k2 d2):=by unfold mh at hrow;rw[hix]at hrow;exact hrow
      obtain⟨c,ec,Tc,ca,isc⟩:=ent j _ _ hj hrow';have ec:v=.ref c:=ec;subst ec;refine⟨.ref c,hv,?_⟩;have hroot:H a=some (.dK kvs):=by
       rcases roots with q|⟨_,q⟩
       .exact q
       .rw[q]at hj;cases hj
      have em:fY (kvs.map fun p=>(.inl p.1:DK)) ds (ik x)=fun d=>.dic (kvs.map fun p=>.inl p.1) (ds.set j d):=by funext d;unfold fY;rw[hix]
      rw[em]at p;exact rX s2 rep hq eva ra hir hne nf Ta (fun z o e _=>kb z o e) (kb _ _ hroot) ca ((rep.priv ic c Tc).2.2.same fun o e=>kb c o e) (.inl Tc) hj (isc.same fun z o e=>kb z o e) hlen2 (fun i p d e1 e2 e3=>by
       obtain⟨ci,q1,q2,_,q4⟩:=ent i p d e1 e3;refine⟨ci,q1,q2,fun z=>e2 (inj i j c ?_ ?_),q4.same fun z o e=>kb z o e⟩
       .rw[J9,e1];exact KQ some (q1.trans (by rw[z]))
       .rw[J9,hj];rfl) nself inj p
     |none=>
      right;have hv:=cS hix;refine⟨hv,?_⟩;have hrow':k2=[]/\d2=[]:=by unfold mh at hrow;rw[hix]at hrow;injection hrow with e;injection e with e1 e2;exact⟨e1.symm,e2.symm⟩
      obtain⟨rfl,rfl⟩:=hrow';rw[qN hv];have F1:∀ z o,H z=some o->z≠a->ay (ay H b (.dK [])) a (.dK (kvs++[(.inl x,.ref b)])) z=some o:=fun z o e hz=>by rw[af hz];exact kb z o e
      have hb2:ay (ay H b (.dK [])) a (.dK (kvs++[(.inl x,.ref b)])) b=some (.dK []):=by rw[af hba,ai]
      have em:fY (kvs.map fun p=>(.inl p.1:DK)) ds (ik x)=fun d=>.dic ((kvs++[((.inl x:Key),V.ref b)]).map fun p=>.inl p.1) ((ds++[L3.D.dic [] []]).set kvs.length d):=by funext d;unfold fY;rw[hix];rw[<- hlen2,List.set_append_right _ _ (J1 _)];simp[ik]
      rw[em]at p;refine rX s2 rep hq eva ra hir hne nf Ta F1 ai hba ⟨_,hb2,True.intro⟩ (.inr hb) (x:=.inl x) (j:=kvs.length) (k2:=[]) (d2:=[]) (by simp) ⟨b,[],rfl,⟨.inl ⟨[],.inl hb2,rfl,rfl⟩,rfl⟩,rfl⟩ (by simp[hlen2]) (fun i p d e1 e2 e3=>?_) ?_ ?_ p
      .have hi:i<kvs.length:=by have:=(JY.mp e1).1;rw[Kp,Lh]at this;omega
       rw[Ka hi]at e1;rw[Ka (by omega)]at e3;obtain⟨ci,q1,q2,q3,q4⟩:=ent i p d e1 e3;refine⟨ci,q1,q2,fun z=>(rep.priv ic ci q2).2.2.some (z▸hb),Is.mono (fun z o e w=>F1 z o e fun ez=>?_) (fun _ _ _ w=>w) q4⟩;rcases w with w|w
       .exact q3 (w.symm.trans ez)
       .subst ez;exact nfa o e w
      .rw[Ki];intro w;rcases Kf.mp w with w|w
       .exact nself w
       .simp at w;exact hba w.symm
      .have key:∀(i:Nat)(b':Addr),((kvs++[((.inl x:Key),V.ref b)]).map Prod.snd)[i]?=some (V.ref b')->((kvs.map Prod.snd)[i]?=some (V.ref b')/\b'≠b)\/(i=kvs.length/\b'=b):=fun i b' e=>by
        rw[Ki]at e;by_cases hi:i<kvs.length
        .rw[Ka (by simpa using hi)]at e;refine .inl ⟨e,fun z=>?_⟩;rw[J9]at e;cases q:kvs[i]? with
         |none=>rw[q]at e;cases e
         |some pr=>
          rw[q]at e;have hd:i<ds.length:=by omega
          obtain⟨ci,q1,q2,_⟩:=ent i pr ds[i] q (by simp[hd]);have e:some pr.2=some (V.ref b'):=e;rw[q1]at e;cases e;exact(rep.priv ic _ q2).2.2.some (z▸hb)
        .have hl:=(JY.mp e).1;rw[Kp,JU,JU,Lh]at hl;have:i=kvs.length:=by omega
         subst this;rw[Ke (by simp)]at e;simp at e;exact .inr ⟨rfl,e.symm⟩
       intro i j' b' e1 e2;rcases key i b' e1 with⟨q1,n1⟩|⟨q1,n1⟩<;>rcases key j' b' e2 with⟨r1,m1⟩|⟨r1,m1⟩
       .exact inj i j' b' q1 r1
       .exact(n1 m1).elim
       .exact(m1 n1).elim
       .exact q1.trans r1.symm
    .exact p.elim
   .rw[J0 hc]at p;exact p.elim
  .exact p.elim
 .exact p.elim
def nU (i:Nat)(fk fv:En->Res R):En->Res Fl:=fun env=>match env[i]? with
 |some (some (.fix 1 (.tr (.dic ks ds))))=>(fv env).bind (lY (fun d=>.fix 1 (.tr d)) i fk env ks ds)
 |_=>.stuck
theorem c_ {i:Nat}{o ki value:Expr}{fk fv:En->Res R}{pos pos':Pos}(hu:X.A.units+64<cLine)(ho:PE X o (di i))(hk:PD X E ki fk)(hv:PD X E value fv)
 (hs:autoParam (swapsWith value (some (.Subscript o ki pos')) pos.line X.env=pure false) Nq._auto_1):ju X E (.Assign [.Subscript o ki pos'] value pos) (nU i fk fv):=by
 obtain⟨tk,p1,s1⟩:=hk;obtain⟨tv,p2,s2⟩:=hv;refine⟨_,qS (by omega) ho p1 p2 hs,fun g M ρ env σ H D rep p=>?_⟩;unfold nU at p;split at p
 .rename_i ks ds hq;exact lZ (fun d=>.fix 1 (.tr d)) (fun g v=>g.rt 1=some v) (fun _ _ _ _ _ _=>⟨fun z=>⟨z.2,z.1⟩,fun z=>⟨z.2,z.1⟩⟩) (fun _=>rfl) s1 s2 rep hq p
 .exact p.elim
end
def G8 (H:Hp)(T:Addr->Prop)(w:V)(Q:VK):Res (List D×D)->Prop
 | .ok (es,x)=>∀ a us H' T',H' a=some (.lst us)->(H a=none\/T a)->¬ T' a->IsAll H' (fun _=>False) es us->(∀ b o,H b=some o->¬ T b->H' b=some o)->(∀ b,T' b->(T b\/H b=none)/\Mu H' b)->(∀ b,T b->H' b≠none)->Is H' T' x w->Dst H' T' w->Q (.ref a) H'
 |_=>False
def Jg (n:Nat)(F:List D->D->Res (List D×D)):Sp:=fun vs H Q E=>vs.length=n+1/\∃ ws w,vs=ws++[w]/\∃ ds x Ma T,ds.length=n/\IsAll H Ma ds ws/\Is H T x w/\Dst H T w/\(∀ a,T a->Mu H a/\¬ Ma a)/\G8 H T w Q (F ds x)
def gI (N:List Str)(ds:List D)(x:D):En:=ds.map (fun d=>some (.val d false))++some (.fix 0 (.ds x))::List.replicate (N.length-(ds.length+1)) none
def yT (n:Nat):Res Fl->Res (List D×D)
 | .ok (.rm r env)=>match wD r with
  |some es=>if D.flats es then (match env[n]? with
   |some (some (.fix 0 (.ds x)))=>.ok (es,x)
   |_=>.stuck) else .stuck
  |none=>.stuck
 |_=>.stuck
def Bp (N:List Str)(FB:En->Res Fl)(ds:List D)(x:D):Res (List D×D):=yT ds.length (FB (gI N ds x))
theorem ug {H:Hp}{Ma T:Addr->Prop}{ds:List D}{x:D}{ws:List V}{w:V}{N:List Str}(is:IsAll H Ma ds ws)(ix:Is H T x w)(dx:Dst H T w)(ht:∀ a,T a->Mu H a/\¬ Ma a)(hN:ds.length+1<=N.length) :
 Rep (gG H Ma T w) (fun a=>Ma a/\H a≠none) (fun i a=>i=ds.length/\T a) (gI N ds x) (L2.start N (ws++[w])) H where
 same:=fun a o e=>by
  by_cases h:T a
  .rw[fX h]at e;cases e
  .rw[bI h]at e;exact e
 froz:=fun a z=>z.2
 inn:=fun a z=>.inr z.1
 fl:=fun a z h=>by
  by_cases q:T a
  .exact((ht a q).2 z.1).elim
  .rw[bI q]at h;exact absurd h z.2
 slot:=fun i sl e=>by
  have hl:=is.length;unfold gI at e;by_cases hi:i<ds.length
  .rw[Ka (by simpa using hi),J9]at e;obtain⟨v,ev,iv⟩:=is.get (i:=i) (d:=ds[i]) (by simp[hi]);have e1:ds[i]?=some ds[i]:=by simp[hi]
   rw[e1]at e;cases e;refine⟨v,?_,Is.mono (fun _ _ q _=>q) (fun a o q z=>⟨⟨z,by rw[q];simp⟩,fun z=>by cases z⟩) iv⟩;unfold L2.start;rw[Ka (by simp;omega),J9,Ka (by omega),ev];rfl
  .rw[Ke (by simpa using hi),JU]at e;by_cases hz:i=ds.length
   .subst hz;simp only[Nat.sub_self,List.getElem?_cons_zero,MZ]at e;subst e;refine⟨w,?_,rfl,Is.weak (fun a z=>⟨rfl,z⟩) ix,dx.mono (fun _ _ _ q=>q) fun a z=>⟨rfl,z⟩⟩;unfold L2.start;rw[Ka (by simp;omega),J9,Ke (by omega),hl];simp
   .have:i-ds.length=(i-ds.length-1)+1:=by omega
    rw[this,Mr,K7]at e;split at e<;>cases e
 priv:=fun i a z=>⟨fun h=>(ht a z.2).2 h.1,fX z.2,(ht a z.2).1⟩
 apart:=fun i j a z1 z2=>z1.1.trans z2.1.symm
 ow:=fun i a z=>by obtain⟨rfl,_⟩:=z;unfold isOwn gI;rw[Ke (by simp)];simp[Sl.isO]
 len:=by have hl:=is.length;unfold gI L2.start;simp[hl]
 zz:=fun a z=>(ht a z).1.some
section
variable {P:Nh}{w:World}{K:Ng}{mg:Str->Option Ni}{base:Heap}
theorem G9 {x qual:Str}{st:Stmt}{f:Addr}{fd:FuncData}{N ps:List Str}{k n:Nat}{FB:En->Res Fl}(F:Fun K x qual st f fd)(S:FnScope N ps (defScope st))(hn:ps.length=n+1)(hN:n+1<=N.length)
 (body:∀(cdv:Ni)(A:Nj)(outer:List Env)(s:Nf)(H:Hp)(E:XK),Room k (A.deeper (envOfC qual (defScope st) s.heap.objs.size f cdv))->iu (oO j9 P w K mg base N qual (defScope st) f cdv A outer s H E).nox E (defBody st) FB) :
 FnOk P w K mg base j9 (k+1) f fd ps (Jg n (Bp N FB)):=by
 refine F.ok S (fun vs H Q E h=>h.1.trans hn.symm) (fun cdv A outer s H vs Q E hr h=>?_);obtain⟨hl,ws,w0,rfl,ds,x0,Ma,T,hds,is,ix,dx,ht,post⟩:=h;obtain⟨t,p1,s1⟩:=body cdv A outer s H E hr;refine⟨t,p1,s1 (gG H Ma T w0) _ _ (gI N ds x0) (L2.start N (ws++[w0])) H _ (ug is ix dx ht (by omega)) ?_⟩;unfold Bp at post;cases q:FB (gI N ds x0) with
 |stuck=>rw[q]at post;exact post
 |exc c=>rw[q]at post;exact(show False from post).elim
 |ok r=>
  rw[q]at post;cases r with
  |nx env=>exact(show False from post).elim
  |rt r=>exact(show False from post).elim
  |bk env=>exact(show False from post).elim
  |ct env=>exact(show False from post).elim
  |rm r env=>
   unfold yT at post;dsimp only at post;cases qr:wD r with
   |none=>rw[qr]at post;exact post.elim
   |some es=>
    rw[qr]at post;dsimp only at post;by_cases hf:D.flats es=true
    .rw[JW hf]at post;cases q2:env[ds.length]? with
     |none=>rw[q2]at post;exact post.elim
     |some o=>
      cases o with
      |none=>rw[q2]at post;exact post.elim
      |some sl=>
       cases sl with
       |fix n0 q0=>
        cases q0 with
        |no=>rw[q2]at post;cases n0<;>exact post.elim
        |tr y=>rw[q2]at post;cases n0<;>exact post.elim
        |ds y=>
        cases n0 with
        |succ n1=>rw[q2]at post;exact post.elim
        |zero=>
        rw[q2]at post;intro v σ M' ρ H0 H' fz rep hs ro;obtain⟨a,us,m0,rfl,h1,h3,h4,h5⟩:=u4 ro qr;obtain⟨v',ev,k2,k1,k3⟩:=rep.slot _ _ q2;have k2:some w0=some v':=k2;cases k2;refine post a us H' (ρ ds.length) h1 ?_ (h4 _) (IsAll.flat hf h5) (fun b o e nb=>?_) (fun b z=>⟨?_,(rep.priv _ b z).2.2⟩) (fun b z=>rep.zz b z) k1 k3
        .-- the list is new
         have h0:(gG H Ma T w0).H₀ a=none:=hs.free h3;by_cases hT:T a
         .exact .inr hT
         .rw[bI hT]at h0;exact .inl h0
        .exact rep.same b o (by rw[bI nb];exact e)
        .have h0:=(rep.priv _ b z).2.1;by_cases hT:T b
         .exact .inl hT
         .rw[bI hT]at h0;exact .inr h0
       |_=>rw[q2]at post;exact post.elim
    .rw[J0 hf]at post;exact post.elim
end
section
variable {X:Cx}{E:XK}
theorem Rep.changeG {g:Gd}{M:Addr->Prop}{ρ:Pr}{env:En}{σ:St}{H H':Hp}{j:Nat}{sl0:Sl}{v:V}{T':Addr->Prop}(rep:Rep g M ρ env σ H)(hj:j<env.length)(ev:σ[j]?=some (some v))(kp:∀ b o,H b=some o->¬ ρ j b->H' b=some o)(ht:∀ b,T' b->(ρ j b\/H b=none)/\Mu H' b)(hz:∀ b,ρ j b->H' b≠none)(is:SlOk g M T' H' v sl0)(hO:sl0.isO=true) :
 Frz M H M H'/\Rep g M (lR ρ j T') (env.set j (some sl0)) σ H':=by
 have nM:∀ b,M b->¬ ρ j b:=fun b h z=>(rep.priv j b z).1 h;have nF:∀ b o,H b=some o->fixd o->¬ ρ j b:=fun b o e hf z=>by obtain⟨_,_,u,e2,hm⟩:=rep.priv j b z;rw[e]at e2;cases e2;cases o<;>first|exact hf|exact hm
 have kM:∀ b o,H b=some o->(M b\/fixd o)->H' b=some o:=fun b o e z=>kp b o e (z.elim (nM b) (nF b o e));have kR:∀ k,k≠j->∀ b o,H b=some o->(ρ k b\/fixd o)->H' b=some o:=fun k hk b o e z=>kp b o e (z.elim (fun z w=>hk (rep.apart k j b z w)) (nF b o e));refine⟨⟨fun _ z=>z,kM⟩,fun b o e=>?_,fun b hb e=>?_,rep.inn,fun b hb h0=>?_,fun k sl e=>?_,fun k b h=>?_,fun k l b h1 h2=>?_,fun k b h=>?_,by rw[KE];exact rep.len,fun b z e=>?_⟩
 .exact kp b o (rep.same b o e) fun z=>by rw[(rep.priv j b z).2.1]at e;cases e
 .cases q:H b with
  |none=>exact rep.froz b hb q
  |some o=>rw[kM b o q (.inl hb)]at e;cases e
 .exact(rep.fl b hb h0).same fun o e=>kM b o e (.inl hb)
 .by_cases hk:k=j
  .subst hk;rw[JZ hj]at e;cases e;exact⟨v,ev,by rw[bb];exact is⟩
  .rw[JX (Ko hk)]at e;obtain⟨w,ew,k1⟩:=rep.slot k sl e;refine⟨w,ew,?_⟩;rw[aK hk];cases sl with
   |val d fr=>exact Is.mono (fun b o e z=>kM b o e (z.imp (·.1) id)) (fun _ _ _ z=>z) k1
   |own ds fr=>obtain⟨b,ws,rfl,h1,h2,h4⟩:=k1;exact⟨b,ws,rfl,kR k hk b _ h1 (.inl ((h2 b).mpr rfl)),h2,IsAll.mono (fun b o e z=>kM b o e (z.imp (·.1) id)) (fun _ _ _ z=>z) h4⟩
   |tre d=>exact Is.mono (fun b o e z=>kR k hk b o e z) (fun _ _ _ z=>z) k1
   |pin d=>exact⟨Is.mono (fun b o e z=>kR k hk b o e z) (fun _ _ _ z=>z) k1.1,k1.2⟩
   |dis d=>exact⟨Is.mono (fun b o e z=>kR k hk b o e z) (fun _ _ _ z=>z) k1.1,k1.2.mono (fun b o z e=>kR k hk b o e (.inl z)) fun _ z=>z⟩
   |fix n q0=>exact⟨k1.1,k1.2.mono fun b o e z=>kR k hk b o e z⟩
   |kon a=>exact k1
   |mes d=>exact IsSh.mono (fun b o e z=>kM b o e (.inr z)) (fun b us z e=>⟨us,kR k hk b _ e (.inl z)⟩) (fun _ z=>z) k1
 .by_cases hk:k=j
  .subst hk;rw[bb]at h;obtain⟨h1,h2⟩:=ht b h;rcases h1 with h1|h1
   .exact⟨(rep.priv k b h1).1,(rep.priv k b h1).2.1,h2⟩
   .exact⟨fun z=>rep.froz b z h1,rep.same.free h1,h2⟩
  .rw[aK hk]at h;obtain⟨h1,h2,u,h3,h4⟩:=rep.priv k b h;exact⟨h1,h2,u,kR k hk b u h3 (.inl h),h4⟩
 .have key:∀ l,l≠j->T' b->ρ l b->False:=fun l hl z w=>by
   rcases (ht b z).1 with h|h
   .exact hl (rep.apart l j b w h)
   .exact(rep.priv l b w).2.2.some h
  by_cases hk:k=j
  .by_cases hl:l=j
   .rw[hk,hl]
   .subst hk;rw[bb]at h1;rw[aK hl]at h2;exact(key l hl h1 h2).elim
  .by_cases hl:l=j
   .subst hl;rw[bb]at h2;rw[aK hk]at h1;exact(key k hk h2 h1).elim
   .rw[aK hk]at h1;rw[aK hl]at h2;exact rep.apart k l b h1 h2
 .unfold isOwn;by_cases hk:k=j
  .subst hk;rw[JZ hj];exact hO
  .rw[aK hk]at h;rw[JX (Ko hk)];exact rep.ow k b h
 .by_cases hr:ρ j b
  .exact hz b hr e
  .cases q:H b with
   |none=>exact rep.zz b z q
   |some o=>rw[kp b o q hr]at e;cases e
def jQ (i j:Nat)(F:List D->D->Res (List D×D))(env:En)(rs:List R):Res Fl:=match env[j]? with
 |some (some (.dis x))=>if ¬ j∈bc rs/\i≠j/\i<env.length then (match F (rs.map R.d) x with
  | .ok (es,y)=>.ok (.nx ((env.set j (some (.dis y))).set i (some (.own es true))))
  |_=>.stuck) else .stuck
 |_=>.stuck
def pP (i j:Nat)(F:List D->D->Res (List D×D))(fs:En->Res (List R)):En->Res Fl:=fun env=>(fs env).noX.bind (jQ i j F env)
theorem wJ {CX:CXT}{k n:Nat}{f:Addr}{fd:FuncData}{ps:List Str}{F:List D->D->Res (List D×D)}{x y:Str}{p pos py spos:Pos}{e:Expr}{es:List Expr}{fs:En->Res (List R)}{i j:Nat}(hN:X.N.Nodup)(hi:X.N[i]?=some y)(hy:An X.env.scope y)
 (G:FnOk X.prog X.w X.K X.mg X.base CX k f fd ps (Jg n F)) (hr:Room k X.A) (hg:Gl X x) (hm:X.mg x=some (.ref f)) (hk:PySem.W.keepIn X.K (.ref f)=true) (hb:Binds X.K fd ps []) (hx:jv CX X E)
 (ha:yQ X E j (e::es) fs) (hl:∀ env rs,fs env=.ok rs->rs.length=n) (hdb:autoParam ((x==("__debug__" : Str))=false) Nk._auto_1) (he:autoParam (starEach (e::es) X.env=(false,eval e X.env)::starEach es X.env) Nq._auto_1) (hpl:autoParam ((backTo pos (starEach es X.env)).any (·.1)=false) Nq._auto_1)
 (hs:autoParam (swapsWith (.Call (.Name x p) (e::es) [] pos) (some (.Name y py)) spos.line X.env=pure false) Nq._auto_1) (hf:autoParam (X.fn y=true\/X.env.scope.names.lookup y=some .local) Nl._auto_1) :
 ju X E (.Assign [.Name y py] (.Call (.Name x p) (e::es) [] pos) spos) (pP i j F fs):=by
 obtain⟨t,p1,s1⟩:=ha;refine⟨_,fK hN hi hy (oN G hr hg hm hk hb .nil hx p1 hdb he hpl) hs hf,fun g M ρ env σ H D rep p=>?_⟩;unfold pP at p;cases q:fs env with
 |stuck=>rw[q]at p;exact(show False from p).elim
 |exc c=>rw[q]at p;exact(show False from p).elim
 |ok rs=>
  rw[q]at p;have p:PostS X.mg E g M H D (jQ i j F env rs):=p;unfold jQ at p;cases q1:env[j]? with
  |none=>rw[q1]at p;exact p.elim
  |some o=>
   cases o with
   |none=>rw[q1]at p;exact p.elim
   |some sl=>
    cases sl with
    |dis x0=>
     rw[q1]at p;dsimp only at p;by_cases hcon:¬ j∈bc rs/\i≠j/\i<env.length
     .rw[JW hcon]at p;obtain⟨nal,nij,hil⟩:=hcon;cases q2:F (rs.map R.d) x0 with
      |stuck=>rw[q2]at p;exact p.elim
      |exc c=>rw[q2]at p;exact p.elim
      |ok r=>
       obtain⟨es',y0⟩:=r;rw[q2]at p;dsimp only at p;refine s1 g M ρ env σ H _ rep ?_ ⟨_,q1⟩;rw[q];intro vs w M1 H1 e1 rep1 is ew;have hjl:j<env.length:=(JY.mp q1).1;obtain⟨w',ew',iw⟩:=rep1.slot j _ q1;rw[ew]at ew';cases ew';obtain⟨iw,dw⟩ : Is H1 (ρ j) x0 w/\Dst H1 (ρ j) w:=iw;have hln:rs.length=n:=hl env rs q;rw[Ls];refine⟨by rw[Kp,is.length,JU,hln];rfl,vs,w,rfl,rs.map R.d,x0,_,ρ j,by rw[JU];exact hln,is,iw,dw,fun a z=>⟨(rep1.priv j a z).2.2,fun w=>?_⟩,?_⟩
       .rcases w with w|⟨l,hl',w⟩
        .exact(rep1.priv j a z).1 w.1
        .exact nal (rep1.apart l j a w z▸hl')
       .rw[q2];intro a us H' T' h1 h2 h3 h4 kp ht hz ix dx;obtain⟨f1,rep2⟩:=rep1.changeG (sl0:=.dis y0) hjl ew kp ht hz ⟨ix,dx⟩ rfl;obtain⟨z0,zm,zo⟩ : g.H₀ a=none/\¬ M1 a/\∀ l,l≠j->¬ ρ l a:=by
         rcases h2 with h2|h2
         .exact⟨(rep1.free h2).1,(rep1.free h2).2.1,fun l _=>(rep1.free h2).2.2 l⟩
         .exact⟨(rep1.priv j a h2).2.1,(rep1.priv j a h2).1,fun l hl w=>hl (rep1.apart l j a w h2)⟩
        have rep3:=rep2.put (i:=i) (sl:=.own es' true) (v:=.ref a) (T:=fun b=>b=a) (by rw[KE];exact hil) ⟨a,us,rfl,h1,fun _=>Iff.rfl,IsAll.weak (fun _ z=>z.elim) h4⟩ (fun b e=>by
         subst e;refine⟨zm,z0,Mu.lst h1,fun l hl z=>?_⟩;by_cases hlj:l=j
         .subst hlj;rw[bb]at z;exact h3 z
         .rw[aK hlj]at z;exact zo l hlj z)
        exact p _ M1 _ H' (e1.frz.trans f1) rep3
     .rw[J0 hcon]at p;exact p.elim
    |_=>rw[q1]at p;exact p.elim
def gJ (i:Nat):En->Res Fl:=fun env=>match env[i]? with
 |some (some (.own ds fr))=>.ok (.rm (.new ds fr) (env.set i none))
 |_=>.stuck
theorem Rep.drop {g:Gd}{M:Addr->Prop}{ρ:Pr}{env:En}{σ:St}{H:Hp}(i:Nat)(hi:i<env.length)(rep:Rep g M ρ env σ H):Rep g M (fun j b=>j≠i/\ρ j b) (env.set i none) σ H:=by
 refine⟨rep.same,rep.froz,rep.inn,rep.fl,fun j sl e=>?_,fun j b h=>rep.priv j b h.2,fun j k b h1 h2=>rep.apart j k b h1.2 h2.2,fun j b h=>?_,by rw[KE];exact rep.len,rep.zz⟩
 .by_cases hj:j=i
  .subst hj;rw[JZ hi]at e;cases e
  .rw[JX (Ko hj)]at e;obtain⟨v,ev,k⟩:=rep.slot j sl e;exact⟨v,ev,by rw[show(fun b=>j≠i/\ρ j b)=ρ j by funext b;exact propext ⟨fun z=>z.2,fun z=>⟨hj,z⟩⟩];exact k⟩
 .unfold isOwn;rw[JX (Ko h.1)];exact rep.ow j b h.2
open Classical in
theorem nV {i:Nat}{e:Expr}{pos:Pos}(h:PE X e (di i)):ju X E (.Return (some e) pos) (gJ i):=by
 refine⟨_,xg h,fun g M ρ env σ H D rep p=>?_⟩;unfold gJ at p;split at p
 .rename_i ds fr q;have hi:i<env.length:=(JY.mp q).1;obtain⟨v,ev,a,vs,rfl,h1,h2,h3⟩:=rep.slot i _ q;have ha:ρ i a:=(h2 a).mpr rfl;obtain⟨nm,g0,mu⟩:=rep.priv i a ha;refine⟨.ref a,ev,?_⟩;exact p (.ref a) σ M _ (fun z=>if z=a then none else H z) H (Frz.refl _ _) (rep.drop i hi) (fun z o e=>by show(if z=a then none else H z)=some o;rw[J0 (fun w=>by rw[w,g0]at e;cases e)];exact rep.same z o e) ⟨a,vs,rfl,h1,nm,JW rfl,fun j w=>w.1 (rep.apart j i a w.2 ha),h3⟩
 .exact p.elim
end
theorem rY:∀{ds:List D}{is:List Int},gD ds=some is->ds=is.map .int
 | [],is,h=>by cases h;rfl
 | .int i::r,is,h=>by unfold gD at h;obtain⟨js,hj,rfl⟩:=Kw.mp h;rw[rY hj];rfl
 | .non::_,_,h=>by cases h
 | .bl _::_,_,h=>by cases h
 | .str _::_,_,h=>by cases h
 | .tup _::_,_,h=>by cases h
 | .lst _::_,_,h=>by cases h
 | .dic _ _::_,_,h=>by cases h
theorem yU {acc:List (Key×V)}{k:Key}{y:V}(h:k∉acc.map Prod.fst):bq acc k y=acc++[(k,y)]:=by unfold bq;rw[J0];intro q;obtain⟨p,hp,e⟩:=Lw.mp q;exact h (J8.mpr ⟨p,hp,LC e⟩)
theorem nW:∀{more acc:List (Key×V)},((acc++more).map Prod.fst).Nodup->bL acc more=acc++more
 | [],acc,_=>by unfold bL;simp
 |p::r,acc,h=>by
  have h2:((acc++[p]++r).map Prod.fst).Nodup:=by rw[L0];exact h
  have h1:p.1∉acc.map Prod.fst:=by rw[Ki]at h;intro w;exact(LZ.mp h).2.2 _ w _ (by simp) rfl
  have:=nW h2;unfold bL at this ⊢;rw[K_,yU h1,this,L0];rfl
def CQ:TE:=GA (hJ (di 0) (hJ (CD [(di 0,tC .non)]) sW))
def jR (i:Nat)(src:En->Res Src):En->Res Fl:=fun env=>(src env).bind fun s=>match gD s.xs with
 |some is=>if is.Nodup/\is.length<=lim/\i<env.length then .ok (.nx (env.set i (some (.dis (.dic (is.map ik) (is.map fun x=>.dic [ik x] [.non])))))) else .stuck
 |none=>.stuck
section
variable {X:Cx}{E:XK}{scope:Scope}{tg:Expr}{tN:List Str}{capN:List Str}{caps:List Nat}{iter elt:Expr}{pos:Pos}{src:En->Res Src}
theorem wK {i:Nat} {y:Str} {py spos dp cpos:Pos} (hc:X.calm=true) (S:CScope X scope tN capN caps) (hN:X.N.Nodup) (hi':X.N[i]?=some y) (hy:An X.env.scope y) (hgd:Gl X "dict") (hmd:X.mg "dict"=none)
 (hi:Eh X E tg iter src) (hg:∀ cl C s3 H3 fp,PG (bt X scope (tN++capN) cl C s3 H3 fp) tg (gs 0)) (he:∀ cl C s3 H3 fp,PE (bt X scope (tN++capN) cl C s3 H3 fp) elt CQ) (h0:0<tN.length)
 (hst:autoParam (starEach [.ListComp elt [⟨tg,iter,[],0⟩] scope pos] X.env=[(false,eval (.ListComp elt [⟨tg,iter,[],0⟩] scope pos) X.env)]) Nq._auto_1)
 (hsw:autoParam (swapsWith (.Call (.Name "dict" dp) [.ListComp elt [⟨tg,iter,[],0⟩] scope pos] [] cpos) (some (.Name y py)) spos.line X.env=pure false) Nq._auto_1) (hs:autoParam (∀ x,foldedSetIterable iter X.env x=pure x) Nn._auto_1)
 (hf:autoParam (X.fn y=true\/X.env.scope.names.lookup y=some .local) Nl._auto_1) :
 ju X E (.Assign [.Name y py] (.Call (.Name "dict" dp) [.ListComp elt [⟨tg,iter,[],0⟩] scope pos] [] cpos) spos) (jR i src):=by
 obtain⟨wi,p1,s1⟩:=hi;have pc:PE X (.ListComp elt [⟨tg,iter,[],0⟩] scope pos) (rG X scope tg tN capN caps elt [] wi):=fun pins s σ H Q I h=>lT hc S I p1 h hs;refine⟨_,fK hN hi' hy (jw (lB hc) hgd hmd rfl (aI pc bK hst)) hsw hf,fun g M ρ env σ H D rep p=>?_⟩;refine s1 g M ρ env σ H _ rep ?_;unfold jR at p;cases q:src env with
 |stuck=>rw[q]at p;exact p
 |exc c=>rw[q]at p;exact p
 |ok s=>
  rw[q]at p;simp only[Res.bind_ok]at p;cases qi:gD s.xs with
  |none=>rw[qi]at p;exact p.elim
  |some is=>
  rw[qi]at p;dsimp only at p;intro J M1 H1 e1 rep1 wk Dl hDl cl C s3 fp;have exs:=rY qi;have hlx:s.xs.length=is.length:=by rw[exs,JU]
  by_cases hlim:is.Nodup/\is.length<=lim/\i<env.length
  .rw[JW hlim]at p;obtain⟨hnd,hlm,hil⟩:=hlim;have kp:∀{H2:Hp},Same H1 H2->∀ a o,H1 a=some o->(vmsk g M1 s.fr ρ s.al a\/fixd o)->H2 a=some o:=fun sm a o e _=>sm a o e;refine⟨gs 0,fun _ H Q=>Q true H,CQ,fun k m acc H2=>m=is.length-k/\k<=is.length/\Same H1 H2/\H2 Dl=some (.lst acc)/\∃ qs:List (Addr×Addr×Int),acc=qs.map (fun t=>V.ref t.1)/\qs.map (fun t=>t.2.2)=is.take k/\(qs.map fun t=>t.2.1).Nodup/\∀ t∈qs,t.1≠Dl/\t.2.1≠Dl/\H1 t.2.1=none/\H2 t.1=some (.tup [.int t.2.2,.ref t.2.1])/\H2 t.2.1=some (.dK [(.inl t.2.2,.non)]),
    hg cl C s3 _ fp,uS,he cl C s3 _ fp,⟨_,rfl,Kz _,aV hDl,ai,[],rfl,by simp,K6,fun _ z=>by cases z⟩,?_⟩
   rintro k m acc H2 ⟨rfl,hle,sm,hD2,qs,rfl,hqs,nd,hal⟩;have hql:qs.length=k:=by have:=KQ List.length hqs;rw[JU,LM]at this;omega
   refine⟨hD2,?_⟩;by_cases hlt:k<is.length
   .obtain⟨go,yl⟩:=wk.go H2 k (.int is[k]) (kp sm) (by rw[exs,J9];simp[hlt]);refine .inr ⟨go,fun xv H3 o yy lo=>?_⟩;obtain⟨s23,isx⟩:=yl xv H3 yy;have isx:xv=.int is[k]:=isx;subst isx;have g0:((o++iU σ caps).set 0 (some (.int is[k])))[0]?=some (some (.int is[k])):=JZ (by rw[Kp];omega);refine⟨fun j hj=>JX (by omega),qQ ⟨_,g0,fun b hb=>⟨_,g0,?_⟩⟩⟩;have hb2:H2 b=none:=s23.free hb;have hb1:H1 b=none:=sm.free hb2;refine⟨ai,[(.inl is[k],.non)],rfl,by simp,(show 2<=sizeLine by decide),fun a ha=>?_⟩;have nbD:b≠Dl:=fun e=>by rw[e,s23 _ _ hD2]at hb;cases hb
    have em:bL [] [((.inl is[k]:Key),V.non)]=[(.inl is[k],.non)]:=rfl;rw[em]at ha ⊢;have nab:a≠b:=fun e=>by rw[e,ai]at ha;cases ha
    have ha3:H3 a=none:=by rw[af nab,af nab]at ha;exact ha
    have ha2:H2 a=none:=s23.free ha3;have ha1:H1 a=none:=sm.free ha2;have naD:a≠Dl:=fun e=>by rw[e,hD2]at ha2;cases ha2
    have old:∀ c u,H2 c=some u->c≠Dl->ay (ay (ay (ay H3 b (.dK [])) b (.dK [(.inl is[k],.non)])) a (.tup [.int is[k],.ref b])) Dl (.lst (qs.map (fun t=>V.ref t.1)++[.ref a])) c=some u:=fun c u e hn=>by rw[af hn,af (ap e ha2),af (ap e hb2),af (ap e hb2)];exact s23 _ _ e
    refine⟨by rw[af (Ko naD),af (Ko nbD),af (Ko nbD)];exact s23 _ _ hD2,by rw[JU,hql];exact gx (by omega),is.length-(k+1),by omega,rfl,hlt,fun c u e=>?_,ai,qs++[(a,b,is[k])],by simp,?_,?_,fun t ht=>?_⟩
    .exact old c u (sm c u e) (ap e hDl)
    .rw[Ki,hqs,<- Mj hlt];rfl
    .rw[Ki];refine LZ.mpr ⟨nd,by simp,fun c hc' d hd=>?_⟩;obtain⟨t,ht,rfl⟩:=J8.mp hc';have:d=b:=by simpa using hd
     subst this;exact ap (hal t ht).2.2.2.2 hb2
    .rcases Kf.mp ht with ht|ht
     .obtain⟨n1,n2,n3,n4,n5⟩:=hal t ht;exact⟨n1,n2,n3,old _ _ n4 n1,old _ _ n5 n2⟩
     .have:t=(a,b,is[k]):=by simpa using ht
      subst this;refine⟨naD,nbD,hb1,by rw[af naD,ai],?_⟩;show ay _ Dl _ b=_;rw[af nbD,af (Ko nab),ai]
   .have ei:k=is.length:=by omega
    subst ei;rw[List.take_length]at hqs;refine .inl ⟨by rw[<- hlx];exact wk.stop H2 (kp sm),?_⟩
    let kvs:List (Key×V):=qs.map fun t=>(.inl t.2.2,.ref t.2.1)
    have pk:jA H2 (qs.map fun t=>V.ref t.1) kvs:=by
     have:∀ l:List (Addr×Addr×Int),(∀ t∈l,H2 t.1=some (.tup [.int t.2.2,.ref t.2.1]))->jA H2 (l.map fun t=>V.ref t.1) (l.map fun t=>((.inl t.2.2:Key),V.ref t.2.1)):=fun l=>by
      induction l with
      |nil=>intro _;exact .nil
      |cons t r ih=>intro h;exact .cons ⟨t.1,rfl,h t (by simp)⟩ (ih fun u hu=>h u (by simp[hu]))
     exact this qs fun t ht=>(hal t ht).2.2.2.1
    have mk:bL [] kvs=kvs:=by
     refine nW ?_;have:([]++kvs).map Prod.fst=is.map fun x=>(.inl x:Key):=by show(qs.map fun t=>((.inl t.2.2:Key),V.ref t.2.1)).map Prod.fst=_;rw[<- hqs,Kl,Kl];rfl
     rw[this];exact hnd.map (f:=fun x=>(.inl x:Key)) fun a b hab e=>hab (KH e)
    refine⟨Dl,_,kvs,rfl,.inl hD2,pk,fun a ha=>?_⟩;rw[mk];have ha1:H1 a=none:=sm.free ha;have sm2:Same H1 (ay H2 a (.dK kvs)):=fun c u e=>by rw[af (ap e ha1)];exact sm c u e
    have rep2:=rep1.grow sm2;have cell:∀ t∈qs,ay H2 a (.dK kvs) t.2.1=some (.dK [(.inl t.2.2,.non)]):=fun t ht=>by rw[af (ap (hal t ht).2.2.2.2 ha)];exact(hal t ht).2.2.2.2
    have rep3:=rep2.put (i:=i) (sl:=.dis (.dic (is.map ik) (is.map fun x=>.dic [ik x] [.non]))) (v:=.ref a) (T:=fun c=>c=a\/∃ t∈qs,c=t.2.1) hil ⟨⟨a,kvs.map Prod.snd,rfl,⟨.inl ⟨kvs,.inl ai,?_,rfl⟩,.inl rfl⟩,?_⟩,a,kvs.map Prod.snd,rfl,.inl rfl,.inr (.inl ⟨kvs,ai,rfl⟩),?_,fun j k b ej ek=>?_⟩ fun c z=>?_
    .exact p _ M1 _ _ (e1.frz.trans ⟨fun _ z=>z,fun c o e _=>sm2 c o e⟩) rep3
    .show is.map ik=(qs.map fun t=>((.inl t.2.2:Key),V.ref t.2.1)).map _;rw[<- hqs,Kl,Kl];rfl
    .show IsAll _ _ (is.map fun x=>.dic [ik x] [.non]) ((qs.map fun t=>((.inl t.2.2:Key),V.ref t.2.1)).map Prod.snd);rw[<- hqs,Kl,Kl];refine mi (by simp) fun j d v ed ev=>?_;rw[J9]at ed ev;cases qj:qs[j]? with
     |none=>rw[qj]at ed;cases ed
     |some t=>rw[qj]at ed ev;cases ed;cases ev;have ht:=KM qj;exact⟨t.2.1,[.non],rfl,⟨.inl ⟨_,.inl (cell t ht),rfl,rfl⟩,.inr ⟨t,ht,rfl⟩⟩,⟨.non,[],rfl,rfl,rfl⟩⟩
    .intro z;show False;obtain⟨pr,hp,e⟩:=J8.mp z;obtain⟨t,ht,rfl⟩:=J8.mp hp;have e:V.ref t.2.1=V.ref a:=e;cases e;exact ap (hal t ht).2.2.2.2 ha rfl
    .have eq:kvs.map Prod.snd=(qs.map fun t=>t.2.1).map V.ref:=by show(qs.map fun t=>((.inl t.2.2:Key),V.ref t.2.1)).map Prod.snd=_;rw[Kl,Kl];rfl
     rw[eq,J9]at ej ek;obtain⟨u,ea,e1⟩:=Kw.mp ej;obtain⟨c,ec,e2⟩:=Kw.mp ek;cases e1;cases e2;have hj:=(JY.mp ea).1;exact(List.getElem?_inj hj nd).mp (by rw[ea,ec])
    .have fr:H1 c=none:=by
      rcases z with rfl|⟨t,ht,rfl⟩
      .exact ha1
      .exact(hal t ht).2.2.1
     obtain⟨f0,f1,f2⟩:=rep1.free fr;refine⟨f1,f0,?_,fun j _=>f2 j⟩;rcases z with rfl|⟨t,ht,rfl⟩
     .exact⟨_,ai,True.intro⟩
     .exact⟨_,cell t ht,True.intro⟩
  .rw[J0 hlim]at p;exact p.elim
end
end L3
set_option autoImplicit false
namespace L3
open PySem L2
section
variable {env aJ:En}{i j:Nat}{d:D}{ds es:List D}{f g:Bool}{al bl:List Nat}{x y:Int}
noncomputable def kS (k:En->Res Fl):Fl->Res Fl
 | .nx aJ=>k aJ
 |r=>.ok r
theorem aT (f k:En->Res Fl)(env:En):aD f k env=(f env).bind (kS k):=by rfl
theorem cn (k:En->Res Fl)(e:En):kS k (.nx e)=k e:=(rfl)
theorem EE (k:En->Res Fl)(r:R):kS k (.rt r)=.ok (.rt r):=(rfl)
noncomputable def Jh (a b:En->Res Fl)(env:En)(k:Bool):Res Fl:=if k then a env else b env
theorem rZ (c:En->Res Bool)(a b:En->Res Fl)(env:En):pC c a b env=(c env).bind (Jh a b env):=(rfl)
theorem nX (a b:En->Res Fl)(env:En):Jh a b env true=a env:=(rfl)
theorem nY (a b:En->Res Fl)(env:En):Jh a b env false=b env:=(rfl)
theorem nZ (env:En):fS env=.ok (.nx env):=(rfl)
def G_ (r:R):Res Fl:=.ok (.rt r)
theorem CS (a:En->Res R)(env:En):cN a env=(a env).bind G_:=(rfl)
theorem yV (r:R):G_ r=.ok (.rt r):=(rfl)
def Hb (i:Nat)(env:En)(r:R):Res Fl:=if i<env.length then .ok (.nx (put env i r)) else .stuck
theorem n_ (i:Nat)(a:En->Res R)(env:En):aP i a env=(a env).bind (Hb i env):=(rfl)
theorem jS (r:R)(h:i<env.length):Hb i env r=.ok (.nx (put env i r)):=JW h
theorem ml:put env i (.val d f [])=env.set i (some (.val d f)):=(rfl)
theorem EF:put env i (.new ds f)=env.set i (some (.own ds f)):=(rfl)
theorem EG:put env i (.fre d)=env.set i (some (.tre d)):=(rfl)
theorem EH:put env i (.val d f al)=(frz env al).set i (some (.val d f)):=(rfl)
def w8 (i:Nat):Option (Option Sl)->Res R
 |some (some (.val d fr))=>.ok (mkV d fr [])
 |some (some (.own ds fr))=>.ok (.val (.lst ds) fr [i])
 |some (some (.tre d))=>.ok (.val d true [i])
 |some (some (.pin d))=>.ok (.val d true [i])
 |some (some (.dis d))=>.ok (.val d true [i])
 |some (some (.fix _ (.tr d)))=>.ok (.val d true [i])
 |some (some (.fix _ (.ds d)))=>.ok (.val d true [i])
 |_=>.stuck
theorem u9 (i:Nat)(env:En):ag i env=w8 i env[i]?:=by unfold ag w8;rfl
theorem CT:w8 i (some (some (.val d f)))=.ok (mkV d f []):=(rfl)
theorem Hc:w8 i (some (some (.own ds f)))=.ok (.val (.lst ds) f [i]):=(rfl)
theorem Hd:w8 i (some (some (.tre d)))=.ok (.val d true [i]):=(rfl)
theorem He:w8 i (some (some (.pin d)))=.ok (.val d true [i]):=(rfl)
theorem Bq:w8 i (some (some (.dis d)))=.ok (.val d true [i]):=(rfl)
theorem Gf (d:D)(env:En):vC d env=.ok (.val d true []):=(rfl)
theorem yW (h:d.flat=true):mkV d f al=.val d true []:=by unfold mkV;rw[JW h]
theorem yX (h:d.flat=false):mkV d f al=.val d f al:=by unfold mkV;rw[J0 (by rw[h];simp)]
theorem gK (h:D.flats ds=true):jC ds f al=.new ds true:=by unfold jC;rw[JW h]
theorem Br:jC ds true []=.new ds true:=by unfold jC;split<;>rfl
def JD (op:R->R->Res R)(fb:En->Res R)(env:En)(ra:R):Res R:=(fb env).bind (op ra)
theorem EI (op:R->R->Res R)(fa fb:En->Res R)(env:En):v2 op fa fb env=(fa env).bind (JD op fb env):=(rfl)
theorem yY (op:R->R->Res R)(fb:En->Res R)(env:En)(ra:R):JD op fb env ra=(fb env).bind (op ra):=(rfl)
theorem Hf:cC (.val (.int x) f al) (.val (.int y) g bl)=.ok (.val (.int (x+y)) true []):=(rfl)
theorem Hg:D_ (.val (.int x) f al) (.val (.int y) g bl)=.ok (.val (.int (x-y)) true []):=(rfl)
theorem EJ (h1:-18446744073709551616<y)(h2:y<18446744073709551616):x9 (.val (.int x) f al) (.val (.int y) g bl)=.ok (.val (.int (x*y)) true []):=by
 have:x8 x y=true:=by unfold x8;rw[MM,Kh,Kh];exact .inr ⟨Kk (by omega),Kk (by omega)⟩
 show(if x8 x y=true then _ else _)=_;rw[JW this]
theorem Hh (h:0<y):c6 (.val (.int x) f al) (.val (.int y) g bl)=.ok (.val (.int (x % y)) true []):=by show(if decide (0<y)=true then _ else _)=_;rw[JW (Kk h)]
theorem Hi (h:0<y)(h2:y<1073741824):gp (.val (.int x) f al) (.val (.int y) g bl)=.ok (.val (.int (x / y)) true []):=by show(if (decide (0<y)&&decide (y<1073741824))=true then _ else _)=_;rw[JW (by rw[Kk h,Kk h2];rfl)]
theorem Hj:A0 (.val (.int x) f al) (.val (.int y) g bl)=.ok (.val (.bl (decide (x<y))) true []):=(rfl)
theorem Hk:CK (.val (.int x) f al) (.val (.int y) g bl)=.ok (.val (.bl (decide (x<=y))) true []):=(rfl)
theorem Ji:F_ (.val (.int x) f al) (.val (.int y) g bl)=.ok (.val (.bl (decide (y<x))) true []):=(rfl)
theorem iB {a b:R}(h:a.d.dep<=50)(h2:b.d.dep<=50):mQ a b=.ok (.val (.bl (eB a.d b.d)) true []):=by unfold mQ;rw[JW ⟨h,h2⟩]
theorem Hl {a b:R}(h:a.d.dep<=50)(h2:b.d.dep<=50):w4 a b=.ok (.val (.bl (!eB a.d b.d)) true []):=by unfold w4;rw[JW ⟨h,h2⟩]
theorem Hm:eB (.int x) (.int y)=(x==y):=(rfl)
def Bs (xs ys:List D)(f:Bool)(al:List Nat):Res R:=if xs.length+ys.length<=lim then .ok (jC (xs++ys) f al) else .stuck
theorem Bt:cC (.val (.lst ds) f al) (.val (.lst es) g bl)=Bs ds es (f&&g) (al++bl):=(rfl)
theorem Bu:cC (.val (.lst ds) f al) (.new es g)=Bs ds es (f&&g) (al++[]):=(rfl)
theorem Bv:cC (.new ds f) (.val (.lst es) g bl)=Bs ds es (f&&g) ([]++bl):=(rfl)
theorem Bw:cC (.new ds f) (.new es g)=Bs ds es (f&&g) []:=(rfl)
def CU (fs:En->Res (List R))(env:En)(r:R):Res (List R):=(fs env).bind (fun rs=>.ok (r::rs))
def yZ (r:R)(rs:List R):Res (List R):=.ok (r::rs)
theorem y6 (env:En):az env=.ok []:=(rfl)
theorem pQ (a:En->Res R)(fs:En->Res (List R))(env:En):aj a fs env=(a env).bind (CU fs env):=(rfl)
theorem pR (fs:En->Res (List R))(env:En)(r:R):CU fs env r=(fs env).bind (yZ r):=(rfl)
theorem mn (r:R)(rs:List R):yZ r rs=.ok (r::rs):=(rfl)
def Ho (rs:List R):Res R:=if rs.length<=lim then .ok (mkV (.tup (rs.map R.d)) (a_ rs) (bc rs)) else .stuck
theorem Hq (fs:En->Res (List R))(env:En):fm fs env=(fs env).bind Ho:=(rfl)
theorem EK (rs:List R)(h:rs.length<=1000000):Ho rs=.ok (mkV (.tup (rs.map R.d)) (a_ rs) (bc rs)):=JW h
def Hr (rs:List R):Res R:=if rs.length<=lim then .ok (jC (rs.map R.d) (a_ rs) (bc rs)) else .stuck
theorem Hs (fs:En->Res (List R))(env:En):iq fs env=(fs env).bind Hr:=(rfl)
theorem EL (rs:List R)(h:rs.length<=1000000):Hr rs=.ok (jC (rs.map R.d) (a_ rs) (bc rs)):=JW h
theorem y8:a_ []=true:=(rfl)
theorem wL (r:R)(rs:List R):a_ (r::rs)=(r.fr&&a_ rs):=(rfl)
theorem y9:bc []=[]:=(rfl)
theorem wM (r:R)(rs:List R):bc (r::rs)=r.al++bc rs:=(rfl)
def CV (F:List D->Res R)(rs:List R):Res R:=(F (rs.map R.d)).bind (fun r=>.ok (eG rs r))
def y_ (rs:List R)(r:R):Res R:=.ok (eG rs r)
theorem za (F:List D->Res R)(fs:En->Res (List R))(env:En):aW F fs env=(fs env).bind (CV F):=(rfl)
theorem u_ (F:List D->Res R)(rs:List R):CV F rs=(F (rs.map R.d)).bind (y_ rs):=(rfl)
theorem r_ (rs:List R)(r:R):y_ rs r=.ok (eG rs r):=(rfl)
theorem sd (rs:List R)(h:d.flat=true):eG rs (.val d f al)=.val d true []:=JW h
theorem sf (rs:List R)(h:d.flat=false):eG rs (.val d true al)=.fre d:=by show Ar d true rs=_;unfold Ar;rw[J0 (by rw[h];simp),JW rfl]
theorem zb (rs:List R)(h:d.flat=false):eG rs (.val d false al)=.val d (a_ rs) (bc rs):=by show Ar d false rs=_;unfold Ar;rw[J0 (by rw[h];simp),J0 (by simp)]
theorem zd (rs:List R)(h:D.flats ds=true):eG rs (.new ds f)=.new ds true:=by show(if D.flats ds=true then _ else _)=_;rw[JW h]
theorem wN (rs:List R)(h:D.flats ds=false):eG rs (.new ds true)=.fre (.lst ds):=by show(if D.flats ds=true then _ else _)=_;rw[J0 (by rw[h];simp),JW rfl]
theorem Jj (k:List R->Res R)(fs:En->Res (List R))(env:En):pq k fs env=(fs env).bind k:=(rfl)
def Bx:D->Res R
 | .lst ds=>.ok (.val (.int ds.length) true [])
 | .tup ds=>.ok (.val (.int ds.length) true [])
 | .str z=>if z.length<=lim then .ok (.val (.int z.length) true []) else .stuck
 |_=>.stuck
theorem Hu (r:R):mS [r]=Bx r.d:=by unfold mS Bx;rfl
theorem EM:Bx (.lst ds)=.ok (.val (.int ds.length) true []):=(rfl)
theorem EN:Bx (.tup ds)=.ok (.val (.int ds.length) true []):=(rfl)
def vc (f:Bool)(al:List Nat):D->Res R
 | .lst ds=>.ok (jC ds f al)
 | .tup ds=>.ok (jC ds f al)
 |_=>.stuck
theorem EO (r:R):rD [r]=vc r.fr r.al r.d:=by unfold rD vc;rfl
theorem pS:vc f al (.lst ds)=.ok (jC ds f al):=(rfl)
def kB (ra:R):Res Bool:=match ra.d with
 | .bl b=>.ok b
 |_=>.stuck
theorem Jk (a:En->Res R)(env:En):vB a env=(a env).bind kB:=(rfl)
theorem Jl (b:Bool):kB (.val (.bl b) f al)=.ok b:=(rfl)
def EQ (ra:R):Res Bool:=tru ra.d
theorem ER (a:En->Res R)(env:En):mR a env=(a env).bind EQ:=(rfl)
theorem ES (b:Bool):EQ (.val (.bl b) f al)=.ok b:=(rfl)
noncomputable def CW (b:Bool):Res Bool:=.ok (!b)
theorem ET (a:En->Res Bool)(env:En):ph a env=(a env).bind CW:=(rfl)
theorem By (b:Bool):CW b=.ok (!b):=(rfl)
noncomputable def ze (b:En->Res Bool)(env:En)(k:Bool):Res Bool:=if k then b env else .ok false
noncomputable def EU (b:En->Res Bool)(env:En)(k:Bool):Res Bool:=if k then .ok true else b env
theorem EV (a b:En->Res Bool)(env:En):jE a b env=(a env).bind (ze b env):=(rfl)
theorem Hv (a b:En->Res Bool)(env:En):A3 a b env=(a env).bind (EU b env):=(rfl)
theorem EW (b:En->Res Bool)(env:En):ze b env true=b env:=(rfl)
theorem EX (b:En->Res Bool)(env:En):ze b env false=.ok false:=(rfl)
theorem Hw (b:En->Res Bool)(env:En):EU b env true=.ok true:=(rfl)
theorem Hx (b:En->Res Bool)(env:En):EU b env false=b env:=(rfl)
def zf (b:En->Res R)(env:En)(ra:R):Res R:=match ra.d with
 | .bl true=>b env
 | .bl false=>.ok (.val (.bl false) true [])
 |_=>.stuck
theorem EY (a b:En->Res R)(env:En):wj a b env=(a env).bind (zf b env):=(rfl)
theorem Bz (b:En->Res R)(env:En):zf b env (.val (.bl true) f al)=b env:=(rfl)
theorem BA (b:En->Res R)(env:En):zf b env (.val (.bl false) f al)=.ok (.val (.bl false) true []):=(rfl)
def CY (ra:R):Res R:=match ra.d with
 | .bl b=>.ok (.val (.bl (!b)) true [])
 |_=>.stuck
theorem EZ (a:En->Res R)(env:En):Ee a env=(a env).bind CY:=(rfl)
theorem E1 (b:Bool):CY (.val (.bl b) f al)=.ok (.val (.bl (!b)) true []):=(rfl)
def CZ (f:Bool)(al:List Nat):Option D->Res R
 |some d=>.ok (mkV d f al)
 |none=>.stuck
def BB (a b:D)(f:Bool)(al:List Nat):Res R:=match a,b with
 | .lst xs,.int i=>CZ f al (atI xs i)
 | .tup xs,.int i=>CZ f al (atI xs i)
 | .str z,.int i=>if z.length<=lim then (match atI z.cps.toList i with
  |some c=>.ok (.val (.str ⟨#[c]⟩) true [])
  |none=>.stuck) else .stuck
 |_,_=>.stuck
theorem Jm (a b:R):Aq a b=BB a.d b.d a.fr a.al:=by unfold Aq BB CZ;rfl
theorem Hy {k:Int}:BB (.lst ds) (.int k) f al=CZ f al (atI ds k):=(rfl)
theorem Hz {k:Int}:BB (.tup ds) (.int k) f al=CZ f al (atI ds k):=(rfl)
theorem HA:CZ f al (some d)=.ok (mkV d f al):=(rfl)
def BC (ds:List D)(fr:Bool)(rb:R):Res R:=match rb.d with
 | .int k=>match atI ds k with
  |some d=>.ok (mkV d fr [])
  |none=>.stuck
 |_=>.stuck
def wO (i:Nat)(fb:En->Res R)(env:En):Option (Option Sl)->Res R
 |some (some (.own ds fr))=>(fb env).bind (BC ds fr)
 |_=>v2 Aq (ag i) fb env
theorem HB (i:Nat)(fb:En->Res R)(env:En):lO i fb env=wO i fb env env[i]?:=by unfold lO wO;rfl
theorem E2 (fb:En->Res R):wO i fb env (some (some (.own ds f)))=(fb env).bind (BC ds f):=(rfl)
theorem E3 (fb:En->Res R):wO i fb env (some (some (.val d f)))=v2 Aq (ag i) fb env:=(rfl)
theorem E4 (fb:En->Res R):wO i fb env (some (some (.tre d)))=v2 Aq (ag i) fb env:=(rfl)
theorem E5 {k:Int}:BC ds f (.val (.int k) g al)=CZ f [] (atI ds k):=by unfold BC CZ;rfl
theorem bX {α:Type}(a:α)(l:List α):atI (a::l) 0=some a:=by unfold atI qA;rw[JW (by omega),JW (by simp)];rfl
theorem JK {α:Type}(a b:α)(l:List α):atI (a::b::l) 1=some b:=by unfold atI qA;rw[JW (by omega),JW (by simp;omega)];rfl
theorem JL {α:Type}(a b c:α)(l:List α):atI (a::b::c::l) 2=some c:=by unfold atI qA;rw[JW (by omega),JW (by simp;omega)];rfl
theorem JM {α:Type}(a b c d:α)(l:List α):atI (a::b::c::d::l) 3=some d:=by unfold atI qA;rw[JW (by omega),JW (by simp;omega)];rfl
def kO (r:R):Res (Option Int):=match r.d with
 | .int i=>.ok (some i)
 |_=>.stuck
theorem BD (a:En->Res R)(env:En):kg a env=(a env).bind kO:=(rfl)
theorem Jn:kO (.val (.int x) f al)=.ok (some x):=(rfl)
def HC (T:String)(r:R):Res R:=.ok (.val (.bl (A_ T r.d)) true [])
theorem HD (T:String)(a:En->Res R)(env:En):wv T a env=(a env).bind (HC T):=(rfl)
theorem E6 (T:String)(r:R):HC T r=.ok (.val (.bl (A_ T r.d)) true []):=(rfl)
theorem E7:A_ "int" (.int x)=true:=(rfl)
theorem E8:A_ "bool" (.int x)=false:=(rfl)
theorem E9:A_ "list" (.lst ds)=true:=(rfl)
theorem E_:A_ "tuple" (.tup ds)=true:=(rfl)
def HE (asg:D->Bool->En->Option En)(body:En->Res Fl)(env:En)(s:Src):Res Fl:=bx asg s.fr body s.xs (frz env s.al)
theorem zg (src:En->Res Src)(asg:D->Bool->En->Option En)(body:En->Res Fl)(env:En):iT src asg body env=(src env).bind (HE asg body env):=(rfl)
theorem Fa (asg:D->Bool->En->Option En)(body:En->Res Fl)(env:En)(xs:List D):HE asg body env ⟨xs,f,al⟩=bx asg f body xs (frz env al):=(rfl)
def wQ (r:R):Res Src:=match r.d with
 | .lst ds=>.ok ⟨ds,r.fr,r.al⟩
 | .tup ds=>.ok ⟨ds,r.fr,r.al⟩
 |_=>.stuck
theorem Fb (a:En->Res R)(env:En):fq a env=(a env).bind wQ:=(rfl)
theorem zh:wQ (.val (.lst ds) f al)=.ok ⟨ds,f,al⟩:=(rfl)
theorem zi:wQ (.val (.tup ds) f al)=.ok ⟨ds,f,al⟩:=(rfl)
theorem BE:wQ (.new ds f)=.ok ⟨ds,f,[]⟩:=(rfl)
theorem zk:wQ (.fre (.lst ds))=.ok ⟨ds,true,[]⟩:=(rfl)
theorem zl:wQ (.fre (.tup ds))=.ok ⟨ds,true,[]⟩:=(rfl)
def JE (rs:List R):Res Src:=match rs.map R.d with
 | [.int j]=>if cR j then .ok ⟨dN 0 j.toNat,true,[]⟩ else .stuck
 |_=>.stuck
theorem HF (fs:En->Res (List R))(env:En):w6 fs env=(fs env).bind JE:=(rfl)
theorem HG (h1:-4611686018427387904<=x)(h2:x<4611686018427387904):cR x=true:=by unfold cR;rw[Kh];exact⟨Kk (by omega),Kk (by omega)⟩
theorem oa (h1:-4611686018427387904<=x)(h2:x<4611686018427387904):JE [.val (.int x) f al]=.ok ⟨dN 0 x.toNat,true,[]⟩:=JW (HG h1 h2)
theorem Fc:frz env []=env:=(rfl)
theorem zn (h:i<env.length):gN i d f env=some (env.set i (some (.val d f))):=JW h
def kq (n:Nat)(caps:List Nat)(asg:D->Bool->En->Option En)(test:En->Res Bool)(elt:En->Res R)(env:En)(s:Src):Res R:=if s.xs.length<=lim then
 (c8 (fun d=>asg d s.fr (fw env n caps)) test elt s.xs).noX.bind fun rs=>.ok (jC (rs.map R.d) (a_ rs) (s.al++caps.filter (isOwn env))) else .stuck
theorem Fd (n:Nat)(caps:List Nat)(src:En->Res Src)(asg:D->Bool->En->Option En)(test:En->Res Bool)(elt:En->Res R)(env:En) :
 cM n caps src asg test elt env=(src env).bind (kq n caps asg test elt env):=(rfl)
theorem ja {n:Nat}{caps:List Nat}{asg:D->Bool->En->Option En}{test:En->Res Bool}{elt:En->Res R}{xs:List D}{rs:List R}(hl:xs.length<=1000000)
 (h:c8 (fun d=>asg d f (fw env n caps)) test elt xs=.ok rs):kq n caps asg test elt env ⟨xs,f,al⟩=.ok (jC (rs.map R.d) (a_ rs) (al++caps.filter (isOwn env))):=by
 unfold kq;dsimp only;rw[JW (show xs.length<=lim from hl),h];rfl
theorem g9 {α:Type}{mk:D->Option En}{test:En->Res Bool}{elt:En->Res R}(g:α->D)(k:α->R):∀(xs:List α),(∀ a∈xs,∃ e,mk (g a)=some e/\test e=.ok true/\elt e=.ok (k a))->c8 mk test elt (xs.map g)=.ok (xs.map k)
 | [],_=>rfl
 |a::r,h=>by obtain⟨e,h1,h2,h3⟩:=h a (by simp);rw[J4,J4];unfold c8;rw[h1];dsimp only;rw[h2];dsimp only[Res.bind];rw[JW rfl,h3,g9 g k r fun b hb=>h b (by simp[hb])]
theorem f_ {α:Type}{mk:D->Option En}{test:En->Res Bool}{elt:En->Res R}(g:α->D)(p:α->Bool)(k:α->R):∀(xs:List α),(∀ a∈xs,∃ e,mk (g a)=some e/\test e=.ok (p a)/\(p a=true->elt e=.ok (k a)))->c8 mk test elt (xs.map g)=.ok ((xs.filter p).map k)
 | [],_=>rfl
 |a::r,h=>by
  obtain⟨e,h1,h2,h3⟩:=h a (by simp);rw[J4];unfold c8;rw[h1];dsimp only;rw[h2];dsimp only[Res.bind];have ih:=f_ g p k r fun b hb=>h b (by simp[hb]);cases hp:p a with
  |true=>rw[JW rfl,h3 hp,MF,JW hp,ih];rfl
  |false=>rw[J0 (by simp),MF,J0 (by rw[hp];simp),ih]
def wR (i:Nat)(env:En)(ds:List D)(fr:Bool)(r:R):Res Fl:=if ds.length<lim/\¬ i∈r.al then .ok (.nx ((frz env r.al).set i (some (.own (ds++[r.d]) (fr&&r.fr))))) else .stuck
def ve (i:Nat)(a:En->Res R)(env:En):Option (Option Sl)->Res Fl
 |some (some (.own ds fr))=>(a env).bind (wR i env ds fr)
 |some (some (.tre (.lst ds)))=>(a env).bind (wR i env ds true)
 |_=>.stuck
theorem HH (a:En->Res R)(env:En):mT i a env=ve i a env env[i]?:=by
 unfold mT gk ve;cases env[i]? with
 |none=>rfl
 |some o=>cases o with
  |none=>rfl
  |some s=>cases s with
   |tre d=>cases d<;>rfl
   |_=>rfl
theorem Fe (a:En->Res R):ve i a env (some (some (.own ds f)))=(a env).bind (wR i env ds f):=(rfl)
theorem Ff (a:En->Res R):ve i a env (some (some (.tre (.lst ds))))=(a env).bind (wR i env ds true):=(rfl)
theorem pT {r:R}(h:ds.length<1000000)(hr:r.al=[]):wR i env ds f r=.ok (.nx (env.set i (some (.own (ds++[r.d]) (f&&r.fr))))):=by unfold wR;rw[hr];rw[JW ⟨h,by simp⟩];rfl
end
theorem gL (x:Int):(D.int x).flat=true:=(rfl)
theorem BF (x:Bool):(D.bl x).flat=true:=(rfl)
theorem zp (x:Str):(D.str x).flat=true:=(rfl)
theorem sj:D.non.flat=true:=(rfl)
theorem jb (ds:List D):(D.tup ds).flat=D.flats ds:=(rfl)
theorem jc (ds:List D):(D.lst ds).flat=false:=(rfl)
theorem wU:D.flats []=true:=(rfl)
theorem dS (d:D)(ds:List D):D.flats (d::ds)=(d.flat&&D.flats ds):=(rfl)
theorem jd (x:Int):(D.int x).dep=0:=(rfl)
theorem Fg (x:Bool):(D.bl x).dep=0:=(rfl)
theorem BG (x:Str):(D.str x).dep=0:=(rfl)
theorem BH:D.non.dep=0:=(rfl)
theorem vg (ds:List D):(D.tup ds).dep=D.deps ds+1:=(rfl)
theorem vh (ds:List D):(D.lst ds).dep=D.deps ds+1:=(rfl)
theorem mq:D.deps []=0:=(rfl)
theorem jT (d:D)(ds:List D):D.deps (d::ds)=max d.dep (D.deps ds):=(rfl)
theorem Fh (r:R):df (.ok (.rt r))=.ok r:=(rfl)
theorem Fi (e:En):df (.ok (.nx e))=.ok (.val .non true []):=(rfl)
theorem bW (d:D)(f:Bool)(al:List Nat):(R.val d f al).d=d:=(rfl)
theorem BI (ds:List D)(f:Bool):(R.new ds f).d=.lst ds:=(rfl)
theorem BJ (d:D):(R.fre d).d=d:=(rfl)
theorem zq (d:D)(f:Bool)(al:List Nat):(R.val d f al).fr=f:=(rfl)
theorem zr (ds:List D)(f:Bool):(R.new ds f).fr=f:=(rfl)
theorem zt (d:D):(R.fre d).fr=true:=(rfl)
theorem zu (d:D)(f:Bool)(al:List Nat):(R.val d f al).al=al:=(rfl)
theorem zv (ds:List D)(f:Bool):(R.new ds f).al=[]:=(rfl)
theorem zw (d:D):(R.fre d).al=[]:=(rfl)
theorem aB {α β:Type}(a:α)(k:α->Res β):(Res.ok a).bind k=k a:=(rfl)
def zx (asg:D->Bool->En->Option En)(fr:Bool)(body:En->Res Fl)(xs:List D):Fl->Res Fl
 | .nx e=>bx asg fr body xs e
 | .ct e=>bx asg fr body xs e
 | .bk e=>.ok (.nx e)
 | .rt r=>.ok (.rt r)
 | .rm r e=>.ok (.rm r e)
theorem gM {asg:D->Bool->En->Option En}{fr:Bool}{body:En->Res Fl}{x:D}{xs:List D}{env cu:En}(h:asg x fr env=some cu):bx asg fr body (x::xs) env=(body cu).bind (zx asg fr body xs):=by unfold bx;rw[h];rfl
theorem g_ (asg:D->Bool->En->Option En)(fr:Bool)(body:En->Res Fl)(xs:List D)(e:En):zx asg fr body xs (.nx e)=bx asg fr body xs e:=(rfl)
theorem vi (asg:D->Bool->En->Option En)(fr:Bool)(body:En->Res Fl)(xs:List D)(r:R):zx asg fr body xs (.rt r)=.ok (.rt r):=(rfl)
def mr (i:Nat)(env:En)(ds:List D)(fr:Bool)(fk:En->Res R)(r:R):Res Fl:=(fk env).bind fun k=>match k.d with
 | .int z=>match qA ds.length z with
  |some j=>if ¬ i∈r.al then .ok (.nx ((frz env r.al).set i (some (.own (ds.set j r.d) (fr&&r.fr))))) else .stuck
  |none=>.stuck
 |_=>.stuck
def Fj (i:Nat)(env:En)(ds:List D)(fr:Bool)(r k:R):Res Fl:=match k.d with
 | .int z=>match qA ds.length z with
  |some j=>if ¬ i∈r.al then .ok (.nx ((frz env r.al).set i (some (.own (ds.set j r.d) (fr&&r.fr))))) else .stuck
  |none=>.stuck
 |_=>.stuck
def pU (i:Nat)(fk fv:En->Res R)(env:En):Option (Option Sl)->Res Fl
 |some (some (.own ds fr))=>(fv env).bind (mr i env ds fr fk)
 |some (some (.tre (.lst ds)))=>(fv env).bind (mr i env ds true fk)
 |_=>.stuck
theorem Fk (i:Nat)(fk fv:En->Res R)(env:En):kh i fk fv env=pU i fk fv env env[i]?:=by
 unfold kh gk pU;cases env[i]? with
 |none=>rfl
 |some o=>cases o with
  |none=>rfl
  |some s=>cases s with
   |tre d=>cases d<;>rfl
   |_=>rfl
theorem BK {i:Nat}{fk fv:En->Res R}{env:En}{ds:List D}{f:Bool}:pU i fk fv env (some (some (.own ds f)))=(fv env).bind (mr i env ds f fk):=(rfl)
theorem BL {i:Nat}{fk fv:En->Res R}{env:En}{ds:List D}:pU i fk fv env (some (some (.tre (.lst ds))))=(fv env).bind (mr i env ds true fk):=(rfl)
theorem zy (i:Nat)(env:En)(ds:List D)(fr:Bool)(fk:En->Res R)(r:R):mr i env ds fr fk r=(fk env).bind (Fj i env ds fr r):=(rfl)
theorem JN:((0:Nat):Int)=0:=(rfl)
theorem JO:((1:Nat):Int)=1:=(rfl)
theorem JP:((2:Nat):Int)=2:=(rfl)
theorem JQ:((3:Nat):Int)=3:=(rfl)
theorem JR:((4:Nat):Int)=4:=(rfl)
theorem HI {α β:Type}(c:Str)(k:α->Res β):(Res.exc c:Res α).bind k=.exc c:=(rfl)
theorem BM (c:Str):df (.exc c)=.exc c:=(rfl)
def C0 (r:R):Res Bool:=.ok (!r.d.isNon)
def HJ (r:R):Res Bool:=.ok r.d.isNon
theorem BN (a:En->Res R)(env:En):nI a env=(a env).bind C0:=(rfl)
theorem Fm (a:En->Res R)(env:En):Ej a env=(a env).bind HJ:=(rfl)
theorem BO (r:R):C0 r=.ok (!r.d.isNon):=(rfl)
theorem Fo (r:R):HJ r=.ok r.d.isNon:=(rfl)
theorem BP:D.non.isNon=true:=(rfl)
theorem BQ (x:Int):(D.int x).isNon=false:=(rfl)
theorem BR (x:List D):(D.tup x).isNon=false:=(rfl)
theorem BS (x:List D):(D.lst x).isNon=false:=(rfl)
theorem Res.noX_ok {α:Type}(a:α):(Res.ok a).noX=.ok a:=(rfl)
def mW (neg:Bool)(a b:D):Res R:=match b with
 | .dic ks _=>rN neg a ks
 | .lst ds=>Gb neg a ds
 | .tup ds=>Gb neg a ds
 |_=>.stuck
theorem C3 (neg:Bool)(a b:R):wy neg a b=mW neg a.d b.d:=by unfold wy t8 mW;cases b.d<;>rfl
theorem Jo (a b:R):jI a b=mW false a.d b.d:=C3 false a b
theorem BU (a b:R):iV a b=mW true a.d b.d:=C3 true a b
theorem HK {neg:Bool}{a:D}{ds:List D}(h:D.deps ds<=50)(h2:a.dep<=50):mW neg a (.lst ds)=.ok (.val (.bl (if neg then !(ds.any fun e=>eB e a) else ds.any fun e=>eB e a)) true []):=JW ⟨h,h2⟩
theorem zA {neg:Bool}{a:D}{ks:List DK}{ds:List D}{k:DK}(h:keyX a=some k)(hk:ks.all (kin k)=true):mW neg a (.dic ks ds)=.ok (.val (.bl (if neg then !fU ks k else fU ks k)) true []):=by show rN neg a ks=_;unfold rN;rw[h];exact JW hk
theorem sk (ks:List DK)(ds:List D):(D.dic ks ds).flat=false:=(rfl)
def putAt (i:Nat)(fk fv:En->Res R)(env:En):Option (Option Sl)->Res Fl
 |some (some (.tre (.dic ks ds)))=>(fv env).bind (uV i fk env ks ds)
 |some (some (.pin (.dic ks ds)))=>(fv env).bind (pH i fk env ks ds)
 |_=>.stuck
theorem pV (i:Nat)(fk fv:En->Res R)(env:En):iW i fk fv env=putAt i fk fv env env[i]?:=by unfold iW putAt;rfl
theorem pW {i:Nat}{fk fv:En->Res R}{env:En}{ks:List DK}{ds:List D}:putAt i fk fv env (some (some (.tre (.dic ks ds))))=(fv env).bind (uV i fk env ks ds):=(rfl)
theorem vj {i:Nat}{fk:En->Res R}{env:En}{ks:List DK}{ds:List D}{r:R}(h:r.d.flat=true):uV i fk env ks ds r=(fk env).bind (uU i env ks ds r.d):=JW h
theorem vk {i:Nat}{env:En}{ks:List DK}{ds:List D}{d:D}{k:R}{x:DK}(h:keyX k.d=some x)(h2:ks.all (kin x)=true)(h3:ks.length<1000000):uU i env ks ds d k=.ok (.nx (env.set i (some (.tre (bZ ks ds x d))))):=by unfold uU;rw[h];exact JW ⟨h2,h3⟩
def Jp (xs ys:List D)(f:Bool)(al:List Nat):Res R:=if xs.length+ys.length<=lim/\xs≠[] then .ok (mkV (.tup (xs++ys)) f al) else .stuck
theorem Fp {xs ys:List D}{f g:Bool}{al bl:List Nat}:cC (.val (.tup xs) f al) (.val (.tup ys) g bl)=Jp xs ys (f&&g) (al++bl):=(rfl)
def pX (i j:Nat)(a:En->Res R)(env:En):Option (Option Sl)->Res Fl
 |some (some (.tre d))=>match lU d j with
  |some n=>if n<lim then (a env).bind fun r=>if r.d.flat then .ok (.nx (env.set i (some (.mes d)))) else .stuck else .stuck
  |none=>.stuck
 |_=>.stuck
theorem Fq (i j:Nat)(a:En->Res R)(env:En):rJ i j a env=pX i j a env env[i]?:=by unfold rJ pX;rfl
theorem BV {i j n:Nat}{a:En->Res R}{env:En}{d:D}{r:R}(h:lU d j=some n)(hn:n<1000000)(ha:a env=.ok r)(hr:r.d.flat=true):pX i j a env (some (some (.tre d)))=.ok (.nx (env.set i (some (.mes d)))):=by show(match lU d j with|some n=>if n<lim then (a env).bind (fun r=>if r.d.flat then Res.ok (Fl.nx (env.set i (some (.mes d)))) else .stuck) else .stuck|none=>.stuck)=_;rw[h];dsimp only;rw[JW (show n<lim from hn),ha];show(if _ then _ else _)=_;rw[JW hr]
def zB (env:En)(i:Nat):Option (Option Sl)->En
 |some (some (.own ds fr))=>env.set i (some (.val (.lst ds) fr))
 |some (some (.tre d))=>env.set i (some (.val d true))
 |some (some (.mes _))=>env.set i none
 |some (some (.pin d))=>env.set i (some (.val d true))
 |some (some (.dis d))=>env.set i (some (.val d true))
 |some (some (.fix _ (.tr d)))=>env.set i (some (.val d true))
 |some (some (.fix _ (.ds d)))=>env.set i (some (.val d true))
 |_=>env
theorem Fs (env:En)(i:Nat)(al:List Nat):frz env (i::al)=frz (frz1 env i) al:=(rfl)
theorem zC (env:En)(i:Nat):frz1 env i=zB env i env[i]?:=by unfold frz1 zB;rfl
theorem Ft {env:En}{i:Nat}{d:D}:zB env i (some (some (.tre d)))=env.set i (some (.val d true)):=(rfl)
theorem oe {rs:List R}{d:D}(h:d.flat=false):eG rs (.fre d)=.fre d:=by show Ar d true rs=_;unfold Ar;rw[J0 (by rw[h];simp),JW rfl]
theorem pY (i:Nat)(fk fv:En->Res R)(env:En):iX i fk fv env=gC i fk fv env env[i]?:=(rfl)
theorem BW {i:Nat}{fk fv:En->Res R}{env:En}{ds:List D}{f:Bool}:gC i fk fv env (some (some (.own ds f)))=kh i fk fv env:=(rfl)
theorem BX {i:Nat}{fk fv:En->Res R}{env:En}{ds:List D}:gC i fk fv env (some (some (.tre (.lst ds))))=kh i fk fv env:=(rfl)
theorem pZ {i:Nat}{fk fv:En->Res R}{env:En}{ks:List DK}{ds:List D}:gC i fk fv env (some (some (.tre (.dic ks ds))))=iW i fk fv env:=(rfl)
theorem C4 (i:Nat)(fb:En->Res R)(env:En):aw i fb env=iY i fb env env[i]?:=(rfl)
theorem uh (fa fk fx:En->Res R)(env:En):l0 fa fk fx env=(fa env).bind (Gc fk fx env):=(rfl)
theorem HL {fk fx:En->Res R}{env:En}{ra:R}{ks:List DK}{ds:List D}(h:ra.d=.dic ks ds):Gc fk fx env ra=(fk env).bind (Jb fx env ra ks ds):=by unfold Gc;rw[h]
theorem C5 (fx:En->Res R)(env:En)(ra:R)(ks:List DK)(ds:List D)(rk:R):Jb fx env ra ks ds rk=(fx env).bind (G1 ra ks ds rk):=(rfl)
theorem Fu {i:Nat}{fb:En->Res R}{env:En}{ds:List D}{f:Bool}:iY i fb env (some (some (.own ds f)))=lO i fb env:=(rfl)
theorem Fv {i:Nat}{fb:En->Res R}{env:En}{ds:List D}:iY i fb env (some (some (.tre (.tup ds))))=lO i fb env:=(rfl)
theorem Fw {i:Nat}{fb:En->Res R}{env:En}{ds:List D}:iY i fb env (some (some (.tre (.lst ds))))=lO i fb env:=(rfl)
theorem BY {i:Nat}{fb:En->Res R}{env:En}{ds:List D}{f:Bool}:iY i fb env (some (some (.val (.tup ds) f)))=lO i fb env:=(rfl)
theorem BZ {i:Nat}{fb:En->Res R}{env:En}{ds:List D}{f:Bool}:iY i fb env (some (some (.val (.lst ds) f)))=lO i fb env:=(rfl)
theorem HM {x y:Int}{f g:Bool}{al bl:List Nat}(h:0<=y):Er (.val (.int x) f al) (.val (.int y) g bl)=.ok (.val (.int (x / 2 ^ y.toNat)) true []):=by show(if decide (0<=y)=true then _ else _)=_;rw[JW (Kk h)]
theorem Fx {x y:Int}{f g:Bool}{al bl:List Nat}:yB (.val (.int x) f al) (.val (.int y) g bl)=.ok (.val (.int (Builtin.bitAnd x y)) true []):=(rfl)
theorem Jq (f:En->Res R)(env:En):G2 f env=(f env).bind Eu:=(rfl)
theorem jU:∀ k:List Int,gD (k.map .int)=some k
 | []=>rfl
 |a::r=>by rw[J4];unfold gD;rw[jU r];rfl
theorem og:∀ ks:List (List Int),tupsI (ks.map rO)=some ks
 | []=>rfl
 |k::r=>by rw[J4];unfold tupsI;rw[og r,show Et (rO k)=some k from jU k]
theorem Fy {r:R}{ks:List (List Int)}(hr:r.d=.lst (ks.map rO))(h:ks.length<=63)(hn:ks.all (fun k=>!k.isEmpty)=true):Eu r=.ok (.new ((eL ks).map rO) true):=by unfold Eu;rw[hr];dsimp only;rw[og];dsimp only;rw[JW (by rw[JU,Kk h,hn];rfl)]
theorem Fz (fs:En->Res (List R))(env:En):Ew fs env=(fs env).bind Bf:=(rfl)
theorem B0 {ds:List D}{f:Bool}{al:List Nat}:Bf [.val (.lst ds) f al]=.ok ⟨ds.reverse,f,al⟩:=(rfl)
def zD (i r1 r2 r3:Nat)(f:En->Res R)(env:En):Option (Option Sl)->Res Fl
 |some (some (.tre (.dic [] [])))=>(f env).bind (wB i r1 r2 r3 env)
 |_=>.stuck
theorem HN (i r1 r2 r3:Nat)(f:En->Res R)(env:En):yJ i r1 r2 r3 f env=zD i r1 r2 r3 f env env[i]?:=by unfold yJ zD;rfl
theorem FA {i r1 r2 r3:Nat}{f:En->Res R}{env:En}:zD i r1 r2 r3 f env (some (some (.tre (.dic [] []))))=(f env).bind (wB i r1 r2 r3 env):=(rfl)
def bD (ks:List Int):D:=.dic (ks.map ik) (ks.map fun _=>.bl true)
noncomputable def bE (ks:List Int):List (Key×D):=ks.map fun k=>(.inl k,.bl true)
theorem B1 (ks:List Int):Bh (bE ks)=bD ks:=by unfold Bh bE bD;rw[Kl,Kl];rfl
theorem B2 (ks:List Int)(x:Int):t9 (bE ks) (.inl x) (.bl true)=bE (dd ks x):=by
 unfold t9 dd;have ha:((bE ks).any fun p=>decide (p.1=(.inl x:Key)))=decide (x∈ks):=by
  unfold bE;rw[MT,Mq,Lw,Kx];constructor
  .rintro⟨k,hk,e⟩;have:k=x:=by have:=LC e;exact KH this
   exact this▸hk
  .intro h;exact⟨x,h,by simp⟩
 rw[ha];by_cases h:x∈ks
 .rw[JW (Kk h),JW h];unfold bE;rw[Kl];refine K4 fun k _=>?_;show(if (Sum.inl k:Key)=.inl x then _ else _)=_;split<;>rfl
 .rw[J0 (by rw[Kr h];simp),J0 h];unfold bE;rw[Ki];rfl
theorem sn:∀(xs ks:List Int),i8 (bE ks) (bE xs)=bE (xs.foldl dd ks)
 | [],ks=>rfl
 |x::r,ks=>by show i8 (t9 (bE ks) (.inl x) (.bl true)) (bE r)=_;rw[B2,sn r];rfl
theorem sq:∀ xs:List Int,gE (xs.map fun x=>D.tup [.int x,.bl true])=some (bE xs)
 | []=>rfl
 |k::r=>by rw[J4];unfold gE;rw[sq r];rfl
theorem zE (ks:List Int):D.flats ((bE ks).map Prod.snd)=true:=by
 unfold bE;rw[Kl];induction ks with
 |nil=>rfl
 |cons a r ih=>rw[J4];exact ih
theorem zF {r:R}{xs:List Int}(h:r.d=.lst (xs.map fun x=>D.tup [.int x,.bl true])):jK [r]=.ok (.fre (bD (bV xs))):=by unfold jK;dsimp only;rw[h];dsimp only;rw[sq];dsimp only;have:i8 [] (bE xs)=bE (bV xs):=sn xs [];rw[this,JW (zE _),B1]
theorem eR (x:Int)(ks:List Int):(ks.map ik).all (kin (.inl (.inl x)))=true:=by rw[Nd,KJ];intro k _;rfl
theorem kX (ks:List Int)(x:Int):fU (ks.map ik) (.inl (.inl x))=decide (x∈ks):=by
 unfold fU;rw[MT,Mq,Lw,Kx];constructor
 .rintro⟨k,hk,e⟩;have:k=x:=by have:=LC e;exact KH (KH this)
  exact this▸hk
 .intro h;exact⟨x,h,by simp[ik]⟩
theorem zG (x:Int)(ks:List Int)(neg:Bool):mW neg (.int x) (bD ks)=.ok (.val (.bl (if neg then !decide (x∈ks) else decide (x∈ks))) true []):=by unfold bD;rw[zA (k:=.inl (.inl x)) rfl (eR x ks),kX]
theorem kY (g:Int->D)(x:Int):∀ ks:List Int,getD (ks.map ik) (ks.map g) (.inl (.inl x))=if x∈ks then some (g x) else none
 | []=>rfl
 |k::r=>by
  rw[J4,J4];unfold getD;rw[kY g x r];by_cases h:k=x
  .rw[JW (by rw[h];rfl),JW (by simp[h]),h]
  .rw[J0 (show ¬ ik k=Sum.inl (Sum.inl x) from fun e=>h (KH (KH e)))];by_cases h2:x∈r
   .rw[JW h2,JW (by simp[h2])]
   .rw[J0 h2,J0 (by simp[h2];exact fun e=>h e.symm)]
theorem zH (ks:List Int)(x:Int):bZ (ks.map ik) (ks.map fun _=>D.bl true) (.inl (.inl x)) (.bl true)=bD (dd ks x):=by
 unfold bZ;rw[kX];have hr:∀ ks:List Int,nK (ks.map ik) (ks.map fun _=>D.bl true) (.inl (.inl x)) (.bl true)=ks.map fun _=>D.bl true:=by
  intro ks;induction ks with
  |nil=>rfl
  |cons a r ih=>rw[J4,J4];unfold nK;rw[ih];split<;>rfl
 unfold dd;by_cases h:x∈ks
 .rw[JW (Kk h),JW h,hr];rfl
 .rw[J0 (by rw[Kr h];simp),J0 h];unfold bD;rw[Ki,Ki];rfl
theorem oh:∀ ts:List Tri,gm (ts.map fun t=>D.tup [.int t.1,.int t.2.1,.int t.2.2])=some ts
 | []=>rfl
 |t::r=>by rw[J4];unfold gm;rw[oh r];rfl
theorem vm:∀(xs l:List Int),(xs.foldl dd l).length<=l.length+xs.length
 | [],l=>by simp
 |x::r,l=>by have h1:=vm r (dd l x);have h2:=pN l x;simp only[K_,KD];omega
theorem kZ {env:En}{i:Nat}{ds:List D}{f:Bool}(h:env[i]?=some (some (.own ds f))):frz env [i]=env.set i (some (.val (.lst ds) f)):=by show frz1 env i=_;rw[zC,h];rfl
theorem FC {b:Bool}:A_ "bool" (.bl b)=true:=(rfl)
theorem Jr (k:En->Res Fl)(r:R)(e:En):kS k (.rm r e)=.ok (.rm r e):=(rfl)
def C6 (i:Nat)(env:En)(r:R):Res Fl:=if i<env.length then .ok (.nx ((frz env r.al).set i (some (.val r.d r.fr)))) else .stuck
theorem zI (i:Nat)(a:En->Res R)(env:En):cE i a env=(a env).bind (C6 i env):=(rfl)
theorem vn {i:Nat}{env:En}{r:R}(h:i<env.length):C6 i env r=.ok (.nx ((frz env r.al).set i (some (.val r.d r.fr)))):=JW h
def jV (f:Bool)(al:List Nat):D->Res R
 | .dic ks _=>match kE ks with
  |some xs=>if xs.length<=lim then .ok (.new xs true) else .stuck
  |none=>.stuck
 |d=>vc f al d
theorem vo (r:R):cP [r]=jV r.fr r.al r.d:=by unfold cP jV;dsimp only;cases h:r.d<;>first|rfl|(dsimp only;rw[EO,h])
theorem zJ {f:Bool}{al:List Nat}{ds:List D}:jV f al (.lst ds)=.ok (jC ds f al):=(rfl)
def HP (f1 f2:En->Res R)(env:En)(r0:R):Res R:=(f1 env).bind fun r1=>(f2 env).bind fun r2=>ue r0 r1 r2
def HQ (f2:En->Res R)(env:En)(r0 r1:R):Res R:=(f2 env).bind (ue r0 r1)
theorem Js (f0 f1 f2:En->Res R)(env:En):Ge f0 f1 f2 env=(f0 env).bind (HP f1 f2 env):=(rfl)
theorem FD (f1 f2:En->Res R)(env:En)(r0:R):HP f1 f2 env r0=(f1 env).bind (HQ f2 env r0):=(rfl)
theorem FE (f2:En->Res R)(env:En)(r0 r1:R):HQ f2 env r0 r1=(f2 env).bind (ue r0 r1):=(rfl)
theorem zK {r0:R}{d1 d2:List D}{g1 g2:Bool}(h0:r0.d.flat=true)(h1:D.flats d1=true)(h2:D.flats d2=true):ue r0 (.new d1 g1) (.new d2 g2)=.ok (.fre (.tup [r0.d,.lst d1,.lst d2])):=JW ⟨h0,h1,h2⟩
theorem zL {n:Nat}{caps:List Nat}{f:En->Res R}{asg:D->Bool->En->Option En}{ft:En->Res Bool}{fe:En->Res R}{env:En}{ds:List D}{fr:Bool}{al:List Nat}(h:f env=.ok (.val (.lst ds) fr al)):jN n caps f asg ft fe env=cM n caps (fq f) asg ft fe env:=by unfold jN;rw[h];rfl
theorem zM (f:En->Res R)(asg:D->Bool->En->Option En)(fb:En->Res Fl)(env:En):yP f asg fb env=(f env).bind (u3 asg fb env):=(rfl)
theorem vp (g:Int->D):∀ ks:List Int,kG (ks.map ik) (ks.map g)=some (ks.map fun k=>.tup [.int k,g k])
 | []=>(rfl)
 |k::r=>by rw[J4,J4];show Option.map _ (kG (r.map ik) (r.map g))=_;rw[vp g r];rfl
theorem B3 {asg:D->Bool->En->Option En}{fb:En->Res Fl}{env:En}{ks:List Int}{g:Int->D}{fr:Bool}:u3 asg fb env (.val (.dic (ks.map ik) (ks.map g)) fr [])=fW (bx asg fr fb (ks.map fun k=>.tup [.int k,g k]) env):=by show(match kG (ks.map ik) (ks.map g) with|some xs=>fW (bx asg fr fb xs env)|none=>.stuck)=_;rw[vp]
theorem zN (e:En):fW (.ok (.nx e))=.ok (.nx e):=(rfl)
theorem vq (i j:Nat)(F:List D->D->Res (List D×D))(fs:En->Res (List R))(env:En):pO i j F fs env=(fs env).noX.bind (jO i j F env):=(rfl)
theorem zO {i j:Nat}{F:List D->D->Res (List D×D)}{env:En}{rs:List R}{x y:D}{es:List D}(h:env[j]?=some (some (.tre x)))(h1:¬ j∈bc rs)(h2:i≠j)(h3:i<env.length)(hF:F (rs.map R.d) x=.ok (es,y)):jO i j F env rs=.ok (.nx ((env.set j (some (.tre y))).set i (some (.own es true)))):=by unfold jO;rw[h];dsimp only;rw[JW ⟨h1,h2,h3⟩,hF]
theorem sr {i:Nat}{fk fv:En->Res R}{env:En}{ks:List DK}{ds:List D}:putAt i fk fv env (some (some (.pin (.dic ks ds))))=(fv env).bind (pH i fk env ks ds):=(rfl)
theorem ss {i:Nat}{fk:En->Res R}{env:En}{ks:List DK}{ds:List D}{r:R}(h:r.d.flat=true):pH i fk env ks ds r=(fk env).bind (pG i env ks ds r.d):=JW h
theorem zP {i:Nat}{env:En}{ks:List DK}{ds:List D}{d:D}{k:R}{x:DK}(h:keyX k.d=some x)(h2:ks.all (kin x)=true)(h3:ks.length<1000000):pG i env ks ds d k=.ok (.nx (env.set i (some (.pin (bZ ks ds x d))))):=by unfold pG;rw[h];exact JW ⟨h2,h3⟩
theorem vw {i:Nat}{fk fv:En->Res R}{env:En}{ks:List DK}{ds:List D}:gC i fk fv env (some (some (.pin (.dic ks ds))))=iW i fk fv env:=(rfl)
theorem B4 {i:Nat}{fb:En->Res R}{env:En}{ks:List DK}{ds:List D}{f:Bool}:iY i fb env (some (some (.val (.dic ks ds) f)))=v2 fG (ag i) fb env:=(rfl)
theorem zQ {ra rk:R}{ks:List DK}{ds:List D}{x:DK}{d:D}(h:ra.d=.dic ks ds)(hk:keyX rk.d=some x)(ha:ks.all (kin x)=true)(hg:getD ks ds x=some d):fG ra rk=.ok (mkV d ra.fr ra.al):=by unfold fG;rw[h];dsimp only;rw[hk];dsimp only;rw[JW ha,hg]
theorem B5 {n:Nat}{es:List D}{f:Bool}{env:En}{x:D}(h:D.flats es=true)(h2:env[n]?=some (some (.pin x))):Bl n (.ok (.rm (.new es f) env))=.ok (es,x):=by show(if D.flats es then (match env[n]? with|some (some (.pin x))=>Res.ok (es,x)|_=>.stuck) else .stuck)=_;rw[JW h,h2]
theorem B6 {ds:List D}{f:Bool}{al:List Nat}:EQ (.val (.lst ds) f al)=.ok (!ds.isEmpty):=(rfl)
theorem zR {i:Nat}{fb:En->Res R}{env:En}{d:D}:wO i fb env (some (some (.dis d)))=v2 Aq (ag i) fb env:=(rfl)
end L3
local macro_rules|`(tactic| simp_arith[$as,*] $[$l:location]?)=>do
 let ls←("L3.fy L3.dP L3.zR L3.Bq L3.Jr L3.zI L3.vn L3.vo L3.zJ L3.Js L3.FD L3.FE L3.zM L3.vq L3.sr L3.ss L3.vw L3.B4 L3.He L3.B6 decide_true decide_false List.map_cons List.map_nil List.length_cons List.length_nil List.replicate List.cons_append List.nil_append List.append_nil Nat.reduceAdd Nat.max_self Nat.zero_max Nat.max_zero Nat.zero_add Nat.reduceSub L3.aT L3.n_ L3.EI L3.yY L3.u9 L3.CT L3.Hc L3.Hd L3.yW L3.yX L3.gL L3.BF L3.zp L3.sj L3.jb L3.jc L3.wU L3.dS L3.jd L3.Fg L3.BG L3.BH L3.vg L3.vh L3.mq L3.jT L3.Gf L3.aB List.getElem?_cons_zero List.getElem?_cons_succ L3.Hh L3.Hi L3.Hf L3.Hg L3.EJ Int.reduceLT Int.reduceLE Int.reduceNeg L3.jS L3.ml L3.EF L3.EG L3.cn L3.EE List.set_cons_zero List.set_cons_succ Nat.reduceLT Nat.reduceLeDiff L3.rZ L3.nX L3.nY L3.nZ L3.CS L3.yV L3.Hj L3.Hk L3.Ji L3.Hm L3.Bt L3.Bu L3.Bv L3.Bw L3.y6 L3.pQ L3.pR L3.mn L3.Hq L3.EK L3.Hs L3.EL L3.y8 L3.wL L3.y9 L3.wM L3.za L3.u_ L3.r_ L3.sd L3.sf L3.zb L3.zd L3.wN L3.Jj L3.Hu L3.EM L3.EN L3.Jk L3.Jl L3.ER L3.ES L3.ET L3.By L3.EV L3.Hv L3.EW L3.EX L3.Hw L3.Hx L3.EY L3.Bz L3.BA L3.EZ L3.E1 L3.Jm L3.Hy L3.Hz L3.HA L3.HB L3.E2 L3.E3 L3.E4 L3.E5 L3.bX L3.JK L3.JL L3.JM L3.BD L3.Jn L3.HD L3.E6 L3.E7 L3.E8 L3.E9 L3.E_ L3.zg L3.Fa L3.Fb L3.zh L3.zi L3.BE L3.zk L3.zl L3.HF L3.Fc L3.BN L3.Fm L3.BO L3.Fo L3.BP L3.BQ L3.BR L3.BS L3.HI L3.BM L3.Res.noX_ok L3.JN L3.JO L3.JP L3.JQ L3.JR Int.reduceBEq L3.Fk L3.BK L3.BL L3.zy Bool.not_not Nat.reduceEqDiff L3.Fd L3.HH L3.Fe L3.Ff L3.bW L3.BI L3.BJ L3.zq L3.zr L3.zt L3.zu L3.zv L3.zw L3.g_ L3.vi Bool.and_true Bool.true_and Bool.and_false Bool.false_and Bool.and_self Bool.not_true Bool.not_false L3.Fh L3.Fi L3.gK L3.Br L3.Jo L3.BU L3.Fq L3.sk L3.Fp L3.pY L3.BW L3.BX L3.pZ L3.pV L3.pW L3.C4 L3.Fu L3.Fv L3.Fw L3.BY L3.BZ L3.HM L3.Fx L3.Jq L3.Fz L3.B0 L3.HN L3.FA L3.FC L3.uh L3.C5 L3.oe".splitOn " ").toArray.mapM fun s=>`(Lean.Parser.Tactic.simpLemma| $(Lean.mkIdent s.toName):ident)
 `(tactic| simp only[$[$ls:simpLemma],*,$as,*] $[$l]?)
local macro_rules|`(tactic| simp_arith $[$l:location]?)=>`(tactic| simp_arith[L3.aB] $[$l]?)
namespace L3
open PySem L2
theorem HR (d:D)(f:Bool)(al:List Nat):(mkV d f al).d=d:=by unfold mkV;split<;>rfl
theorem su {ds:List D}:(∀ d∈ds,d.flat=true)->D.flats ds=true:=by
 induction ds with
 |nil=>intro _;rfl
 |cons d r ih=>intro h;rw[dS,h d (by simp),ih fun x hx=>h x (by simp[hx])];rfl
theorem cw {α:Type}(g:α->D)(xs:List α)(h:∀ a,(g a).flat=true):D.flats (xs.map g)=true:=su fun d hd=>by obtain⟨a,_,rfl⟩:=J8.mp hd;exact h a
theorem cp (xs:List Int):D.flats (xs.map D.int)=true:=cw _ _ gL
theorem B7 {ds:List D}{n:Nat}:(∀ d∈ds,d.dep<=n)->D.deps ds<=n:=by
 induction ds with
 |nil=>intro _;rw[mq];omega
 |cons d r ih=>intro h;have h1:=h d (by simp);have h2:=ih fun x hx=>h x (by simp[hx]);rw[jT];omega
theorem sv {α:Type}{g:α->D}{xs:List α}{n:Nat}(h:∀ a,(g a).dep<=n):D.deps (xs.map g)<=n:=B7 fun d hd=>by obtain⟨a,_,rfl⟩:=J8.mp hd;exact h a
theorem oj (xs:List Int):D.deps (xs.map D.int)<=0:=sv fun _=>J1 0
theorem gO {α:Type}(g:α->D)(xs:List α):a_ (xs.map fun a=>.val (g a) true [])=true:=by unfold a_;rw[KJ];intro r h;obtain⟨a,_,rfl⟩:=J8.mp h;rfl
theorem sw {α:Type}(g:α->D)(fr:Bool)(al:List Nat)(xs:List α):(xs.map fun a=>R.val (g a) fr al).map R.d=xs.map g:=by rw[Kl];rfl
theorem k7 (n:Nat):dN 0 n=(List.range n).map fun k=>.int (k:Nat):=by unfold dN;congr 1;funext k;simp
theorem cV {α:Type}(g:α->D){asg:D->Bool->En->Option En}{fr:Bool}{body:En->Res Fl}(all:List α)(P:List α->En->Prop):∀(xs pre:List α)(env:En),all=pre++xs->P pre env->
 (∀(pre post:List α)(a:α)(env:En),all=pre++a::post->P pre env->∃ cu env2,asg (g a) fr env=some cu/\body cu=.ok (.nx env2)/\P (pre++[a]) env2)->
 ∃ aJ,bx asg fr body (xs.map g) env=.ok (.nx aJ)/\P all aJ
 | [],pre,env,e,h,_=>⟨env,rfl,by rw[e,Ls];exact h⟩
 |a::r,pre,env,e,h,st=>by obtain⟨cu,env2,h1,h2,h3⟩:=st pre r a env e h;obtain⟨aJ,e1,e2⟩:=cV g all P r (pre++[a]) env2 (by rw[e];simp) h3 st;refine⟨aJ,?_,e2⟩;rw[J4];unfold bx;rw[h1];dsimp only;rw[h2];exact e1
def cell (ns:List Int)(k:Int):Int:=if k<ns.length then ((atI ns k).getD 0 % 2147483647+11+k*k)*48271 % 2147483647 else 0
theorem k8 (ns:List Int)(k:Int):0<=cell ns k:=by unfold cell;split<;>omega
theorem B8 {α β:Type}(g:α->β)(xs:List α)(k:Int):atI (xs.map g) k=(atI xs k).map g:=by
 unfold atI;rw[JU];cases qA xs.length k with
 |none=>rfl
 |some j=>simp
theorem FF {α:Type}{xs:List α}{k:Int}(h0:0<=k)(h:k<xs.length):∃ a,atI xs k=some a/\xs[k.toNat]?=some a:=by
 unfold atI qA;rw[JW h0,JW h];have:k.toNat<xs.length:=by omega
 exact⟨xs[k.toNat],by simp[this],by simp[this]⟩
structure Rl where
 room:Int
 sign:Int
 to:Int
 put:List Int
def Rl.d (r:Rl):D:=.tup [.int r.room,.int r.sign,.int r.to,.tup (r.put.map .int)]
end L3
namespace W
open PySem PySem.Spec PyProof.Rows L2 L3
def top (i:Nat):Stmt:=PySem.Challenge.pw_callwalk_k15_common.main.body.getD i (.Pass ⟨0,0,0,0⟩)
abbrev s__law_cell_at:Stmt:=top 8
noncomputable abbrev gP:List Str:=["_law_script", "_law_k"]
noncomputable abbrev P__law_cell_at:List Str:=["_law_script", "_law_k"]
theorem kH:FnScope gP P__law_cell_at (defScope s__law_cell_at):=⟨rfl,rfl,rfl,by decide +kernel,rfl,by decide +kernel,by decide +kernel⟩
def dU:En->Res Fl:=
 (aD (pC (vB (v2 A0 (ag 1) (pq mS (aj (ag 0) az)))) (cN (v2 c6 (v2 x9 (v2 cC (v2 cC (v2 c6 (aw 0 (ag 1)) (vC (.int 2147483647))) (vC (.int 11))) (v2 x9 (ag 1) (ag 1))) (vC (.int 48271))) (vC (.int 2147483647)))) fS)
 (cN (vC (.int 0))))
def aH:List D->Res R:=fy gP dU
abbrev s__law_arrow:Stmt:=top 10
noncomputable abbrev je:List Str:=["_law_cell", "_law_states", "_law_signs", "_law_low", "_law_state", "_law_sign"]
noncomputable abbrev P__law_arrow:List Str:=["_law_cell", "_law_states", "_law_signs", "_law_low"]
theorem sc__law_arrow:FnScope je P__law_arrow (defScope s__law_arrow):=⟨rfl,rfl,rfl,by decide +kernel,rfl,by decide +kernel,by decide +kernel⟩
def jf:En->Res Fl:=
 (aD (aP 0 (v2 c6 (v2 x9 (v2 cC (v2 c6 (ag 0) (vC (.int 2147483587))) (vC (.int 7))) (vC (.int 16807))) (vC (.int 2147483587))))
 (aD (aP 4 (v2 c6 (ag 0) (ag 1)))
 (aD (aP 0 (v2 gp (ag 0) (ag 1)))
 (aD (aP 5 (v2 c6 (ag 0) (ag 2)))
 (aD (aP 0 (v2 gp (ag 0) (ag 2)))
 (cN (fm (aj (ag 4) (aj (ag 5) (aj (v2 cC (ag 3) (v2 c6 (ag 0) (v2 D_ (ag 1) (ag 3)))) az))))))))))
def dv:List D->Res R:=fy je jf
abbrev s__law_drawn:Stmt:=top 11
noncomputable abbrev dz:List Str:=["_law_cells", "_law_pick", "_law_rooms", "_law_signs", "_law_own", "_law_low", "_law_arrows", "_law_bits", "_law_ends"]
noncomputable abbrev P__law_drawn:List Str:=["_law_cells", "_law_pick", "_law_rooms", "_law_signs"]
theorem sc__law_drawn:FnScope dz P__law_drawn (defScope s__law_drawn):=⟨rfl,rfl,rfl,by decide +kernel,rfl,by decide +kernel,by decide +kernel⟩
theorem jW:((["_law_cell"]:List Str)++(["_law_rooms", "_law_signs", "_law_own", "_law_low"]:List Str)).Nodup:=by decide +kernel
theorem jX:((["_law_state"]:List Str)++(["_law_bits"]:List Str)).Nodup:=by decide +kernel
def bu:En->Res R:=fun env=>(aW dv (aj (ag 0) (aj (v2 cC (ag 1) (ag 3)) (aj (ag 2) (aj (ag 4) az))))) env
def bv:En->Res Bool:=fun env=>(vB (v2 mQ (v2 yB (v2 Er (ag 1) (ag 0)) (vC (.int 1))) (vC (.int 1)))) env
def bw:En->Res R:=fun env=>(ag 0) env
def dA:En->Res Fl:=
 (aD (aP 4 (v2 c6 (ag 1) (vC (.int 4))))
 (aD (aP 5 (vC (.int 0)))
 (aD (pC (jE (vB (v2 mQ (v2 c6 (v2 gp (ag 1) (vC (.int 4))) (vC (.int 2))) (vC (.int 0)))) (vB (v2 F_ (ag 4) (vC (.int 0))))) (aP 5 (ag 2)) fS)
 (aD (aP 6 (cM 1 [2,3,4,5] (fq (ag 0)) (gN 0) (fun _=>.ok true) bu))
 (aD (aP 7 (v2 gp (ag 1) (vC (.int 8))))
 (aD (aP 8 (cM 1 [7] (w6 (aj (v2 cC (ag 2) (ag 4)) az)) (gN 0) bv bw))
 (aD (pC (vB (v2 mQ (v2 c6 (v2 gp (ag 1) (vC (.int 4))) (vC (.int 3))) (vC (.int 1)))) (aP 8 (iq (aj (v2 c6 (ag 7) (v2 cC (ag 2) (ag 4))) az))) fS)
 (cN (fm (aj (v2 cC (ag 2) (ag 4)) (aj (G2 (ag 6)) (aj (ag 8) az))))))))))))
def bB:List D->Res R:=fy dz dA
abbrev s__law_far:Stmt:=top 12
noncomputable abbrev mv:List Str:=["_law_machine", "_law_start", "_law_sign", "_law_many", "_law_arrows", "_law_state", "_law_k"]
noncomputable abbrev P__law_far:List Str:=["_law_machine", "_law_start", "_law_sign", "_law_many"]
theorem sc__law_far:FnScope mv P__law_far (defScope s__law_far):=⟨rfl,rfl,rfl,by decide +kernel,rfl,by decide +kernel,by decide +kernel⟩
def dB:En->Res Fl:=fun env=>
 (aD (mT 4 (fm (aj (ag 5) (aj (ag 2) (aj (v2 cC (aw 0 (vC (.int 0))) (ag 6)) az)))))
 (aP 5 (v2 cC (aw 0 (vC (.int 0))) (ag 6)))) env
def mw:En->Res Fl:=
 (aD (aP 4 (pq cP (aj (aw 0 (vC (.int 1))) az)))
 (aD (aP 5 (ag 1))
 (aD (iT (w6 (aj (ag 3) az)) (gN 6) dB)
 (cN (fm (aj (v2 cC (aw 0 (vC (.int 0))) (ag 3)) (aj (G2 (ag 4)) (aj (iq (aj (ag 5) az)) az))))))))
def dW:List D->Res R:=fy mv mw
abbrev s_arrows_from:Stmt:=top 3
noncomputable abbrev hU:List Str:=["machine", "leading", "start", "sign", "to"]
noncomputable abbrev P_arrows_from:List Str:=["machine"]
theorem sc_arrows_from:FnScope hU P_arrows_from (defScope s_arrows_from):=⟨rfl,rfl,rfl,by decide +kernel,rfl,by decide +kernel,by decide +kernel⟩
def hV:En->Res Fl:=
 (aD (aP 1 (fun _=>.ok (.fre (.dic [] []))))
 (aD (yJ 1 2 3 4 (aw 0 (vC (.int 1))))
 (cN (ag 1))))
def bo:List D->Res R:=fy hU hV
abbrev s_marked:Stmt:=top 1
noncomputable abbrev jg:List Str:=["things"]
noncomputable abbrev P_marked:List Str:=["things"]
theorem wV:FnScope jg P_marked (defScope s_marked):=⟨rfl,rfl,rfl,by decide +kernel,rfl,by decide +kernel,by decide +kernel⟩
theorem jh:((["thing"]:List Str)++([]:List Str)).Nodup:=by decide +kernel
def cq:En->Res R:=fun env=>(fm (aj (ag 0) (aj (vC (.bl true)) az))) env
def sx:En->Res Fl:=(cN (pq jK (aj (jN 1 [] (ag 0) (gN 0) (fun _=>.ok true) cq) az)))
def dX:List D->Res R:=fy jg sx
abbrev s_standing_to:Stmt:=top 5
noncomputable abbrev eZ:List Str:=["came", "pair", "stack", "back"]
noncomputable abbrev P_standing_to:List Str:=["came", "pair"]
theorem sc_standing_to:FnScope eZ P_standing_to (defScope s_standing_to):=⟨rfl,rfl,rfl,by decide +kernel,rfl,by decide +kernel,by decide +kernel⟩
def bF:En->Res Fl:=fun env=>
 (aD (mT 2 (aw 3 (vC (.int 1))))
 (aD (aP 1 (aw 3 (vC (.int 0))))
 (aP 3 (v2 fG (aw 0 (aw 1 (vC (.int 0)))) (aw 1 (vC (.int 1))))))) env
def hW:En->Res Fl:=
 (aD (aP 2 (iq az))
 (aD (aP 3 (v2 fG (aw 0 (aw 1 (vC (.int 0)))) (aw 1 (vC (.int 1)))))
 (aD (bM (nI (ag 3)) bF 100000)
 (aD (wH 2)
 (cN (fm (aj (aw 1 (vC (.int 0))) (aj (ag 2) az))))))))
def bJ:List D->Res R:=fy eZ hW
abbrev s_pairs_ahead:Stmt:=top 4
noncomputable abbrev bp:List Str:=["leading", "other_leading", "pairs", "came", "ahead", "pair", "beside", "sign", "states", "others", "state", "row", "fresh", "other"]
noncomputable abbrev P_pairs_ahead:List Str:=["leading", "other_leading", "pairs", "came"]
theorem sc_pairs_ahead:FnScope bp P_pairs_ahead (defScope s_pairs_ahead):=⟨rfl,rfl,rfl,by decide +kernel,rfl,by decide +kernel,by decide +kernel⟩
theorem bP:((["other"]:List Str)++(["row"]:List Str)).Nodup:=by decide +kernel
def bG:En->Res Bool:=fun env=>(vB (v2 iV (ag 0) (ag 1))) env
def bH:En->Res R:=fun env=>(ag 0) env
def b_:En->Res Fl:=fun env=>
 (aD (nU 11 (ag 13) (fm (aj (ag 5) (aj (ag 7) az))))
 (mT 4 (fm (aj (ag 10) (aj (ag 13) az))))) env
def cb:En->Res Fl:=fun env=>
 (aD (aP 12 (cM 1 [11] (fq (ag 9)) (gN 0) bG bH))
 (dR (ag 12) (gN 13) b_)) env
def cc:En->Res Fl:=fun env=>(yR 3 10 11 cb) env
def ce:En->Res Fl:=fun env=>
 (aD (aP 9 (l0 (ag 6) (ag 7) (iq az)))
 (dR (ag 8) (gN 10) cc)) env
def cf:En->Res Fl:=fun env=>
 (aD (aP 6 (l0 (ag 1) (aw 5 (vC (.int 1))) (fun _=>.ok (.fre (.dic [] [])))))
 (yP (l0 (ag 0) (aw 5 (vC (.int 0))) (fun _=>.ok (.fre (.dic [] [])))) (gT 2 (jF (gN 7) (jF (gN 8) yf))) ce)) env
def hZ:En->Res Fl:=
 (aD (aP 4 (iq az))
 (aD (dR (ag 2) (gN 5) cf)
 (gJ 4)))
def cW:List D->D->Res (List D×D):=Bp bp hZ
abbrev s_common:Stmt:=top 6
noncomputable abbrev gQ:List Str:=["house", "one", "other", "leading", "other_leading", "ends", "other_ends", "pairs", "came", "pair"]
noncomputable abbrev P_common:List Str:=["house", "one", "other"]
theorem sc_common:FnScope gQ P_common (defScope s_common):=⟨rfl,rfl,rfl,by decide +kernel,rfl,by decide +kernel,by decide +kernel⟩
theorem p_:((["room"]:List Str)++([]:List Str)).Nodup:=by decide +kernel
theorem qf:((["room"]:List Str)++([]:List Str)).Nodup:=by decide +kernel
def dY:En->Res R:=fun env=>(fm (aj (ag 0) (aj (ag 0) az))) env
def cr:En->Res Fl:=fun env=>(pC (jE (vB (v2 jI (aw 9 (vC (.int 0))) (ag 5))) (vB (v2 jI (aw 9 (vC (.int 1))) (ag 6)))) (cN (aW bJ (aj (ag 8) (aj (ag 9) az)))) fS) env
def ga:En->Res Fl:=fun env=>
 (aD (dR (ag 7) (gN 9) cr)
 (pP 7 8 cW (aj (ag 3) (aj (ag 4) (aj (ag 7) az))))) env
def sA:En->Res Fl:=
 (aD (cE 3 (aW bo (aj (ag 1) az)))
 (aD (cE 4 (aW bo (aj (ag 2) az)))
 (aD (cE 5 (aW dX (aj (aw 1 (vC (.int 2))) az)))
 (aD (cE 6 (aW dX (aj (aw 2 (vC (.int 2))) az)))
 (aD (aP 7 (cM 1 [] (w6 (aj (aw 0 (vC (.int 0))) az)) (gN 0) (fun _=>.ok true) dY))
 (aD (jR 8 (w6 (aj (aw 0 (vC (.int 0))) az)))
 (aD (bM (mR (ag 7)) ga 100000)
 (cN (vC .non)))))))))
def dZ:List D->Res R:=fy gQ sA
abbrev s__law_next:Stmt:=top 14
noncomputable abbrev gR:List Str:=["_law_one", "_law_other", "_law_duos", "_law_seen", "_law_found", "_law_duo", "_law_mine", "_law_theirs", "_law_far_here"]
noncomputable abbrev P__law_next:List Str:=["_law_one", "_law_other", "_law_duos", "_law_seen"]
theorem sc__law_next:FnScope gR P__law_next (defScope s__law_next):=⟨rfl,rfl,rfl,by decide +kernel,rfl,by decide +kernel,by decide +kernel⟩
def cX:En->Res Fl:=fun env=>
 (aD (aP 8 (fm (aj (aw 6 (vC (.int 2))) (aj (aw 7 (vC (.int 2))) az))))
 (pC (jE (vB (v2 mQ (aw 7 (vC (.int 0))) (aw 5 (vC (.int 1))))) (jE (vB (v2 mQ (aw 7 (vC (.int 1))) (aw 6 (vC (.int 1))))) (vB (v2 iV (ag 8) (ag 3))))) (aD (iX 3 (ag 8) (vC (.bl true)))
 (mT 4 (ag 8))) fS)) env
def cY:En->Res Fl:=fun env=>(pC (vB (v2 mQ (aw 6 (vC (.int 0))) (aw 5 (vC (.int 0))))) (iT (fq (aw 1 (vC (.int 1)))) (gN 7) cX) fS) env
def cZ:En->Res Fl:=fun env=>(iT (fq (aw 0 (vC (.int 1)))) (gN 6) cY) env
def kr:En->Res Fl:=
 (aD (aP 4 (iq az))
 (aD (dR (ag 2) (gN 5) cZ)
 (gJ 4)))
def eU:List D->D->Res (List D×D):=Bm gR kr
abbrev s__law_shortest:Stmt:=top 15
noncomputable abbrev cg:List Str:=["_law_one", "_law_other", "_law_rooms", "_law_duos", "_law_seen", "_law_duo", "_law_length"]
noncomputable abbrev P__law_shortest:List Str:=["_law_one", "_law_other", "_law_rooms"]
theorem sc__law_shortest:FnScope cg P__law_shortest (defScope s__law_shortest):=⟨rfl,rfl,rfl,by decide +kernel,rfl,by decide +kernel,by decide +kernel⟩
theorem hI:((["_law_room"]:List Str)++([]:List Str)).Nodup:=by decide +kernel
def bh:En->Res R:=fun env=>(fm (aj (ag 0) (aj (ag 0) az))) env
def bj:En->Res Fl:=fun env=>(iX 4 (ag 5) (vC (.bl true))) env
def aS:En->Res Fl:=fun env=>(pC (jE (vB (v2 jI (aw 5 (vC (.int 0))) (aw 0 (vC (.int 2))))) (vB (v2 jI (aw 5 (vC (.int 1))) (aw 1 (vC (.int 2)))))) (cN (ag 6)) fS) env
def bQ:En->Res Fl:=fun env=>
 (aD (dR (ag 3) (gN 5) aS)
 (aD (pO 3 4 eU (aj (ag 0) (aj (ag 1) (aj (ag 3) az))))
 (aP 6 (v2 cC (ag 6) (vC (.int 1)))))) env
def gn:En->Res Fl:=
 (aD (aP 3 (cM 1 [] (w6 (aj (ag 2) az)) (gN 0) (fun _=>.ok true) bh))
 (aD (aP 4 (fun _=>.ok (.fre (.dic [] []))))
 (aD (dR (ag 3) (gN 5) bj)
 (aD (aP 6 (vC (.int 0)))
 (aD (bM (vB (v2 F_ (pq mS (aj (ag 3) az)) (vC (.int 0)))) bQ 100000)
 (cN (vC .non)))))))
def aY:List D->Res R:=fy cg gn
abbrev s__law_whole:Stmt:=top 9
noncomputable abbrev ji:List Str:=["_law_found"]
noncomputable abbrev P__law_whole:List Str:=["_law_found"]
theorem mX:FnScope ji P__law_whole (defScope s__law_whole):=⟨rfl,rfl,rfl,by decide +kernel,rfl,by decide +kernel,by decide +kernel⟩
def jj:En->Res Fl:=(cN (wj (wv "int" (ag 0)) (Ee (wv "bool" (ag 0)))))
def cF:List D->Res R:=fy ji jj
abbrev s__law_taken:Stmt:=top 13
noncomputable abbrev jk:List Str:=["_law_machine", "_law_room", "_law_stack", "_law_good", "_law_state", "_law_sign", "_law_more", "_law_arrow_here"]
noncomputable abbrev P__law_taken:List Str:=["_law_machine", "_law_room", "_law_stack"]
theorem sc__law_taken:FnScope jk P__law_taken (defScope s__law_taken):=⟨rfl,rfl,rfl,by decide +kernel,rfl,by decide +kernel,by decide +kernel⟩
def cG:En->Res Fl:=fun env=>(iX 3 (ag 4) (vC (.bl true))) env
def cH:En->Res Fl:=fun env=>(pC (jE (vB (v2 mQ (aw 7 (vC (.int 1))) (ag 5))) (vB (v2 jI (aw 7 (vC (.int 2))) (ag 3)))) (iX 6 (aw 7 (vC (.int 0))) (vC (.bl true))) fS) env
def d6:En->Res Fl:=fun env=>
 (aD (aP 6 (fun _=>.ok (.fre (.dic [] []))))
 (aD (iT (fq (aw 0 (vC (.int 1)))) (gN 7) cH)
 (aP 3 (ag 6)))) env
def jl:En->Res Fl:=
 (aD (aP 3 (fun _=>.ok (.fre (.dic [] []))))
 (aD (iT (fq (aw 0 (vC (.int 2)))) (gN 4) cG)
 (aD (iT (Ew (aj (ag 2) az)) (gN 5) d6)
 (cN (v2 jI (ag 1) (ag 3))))))
def cI:List D->Res R:=fy jk jl
abbrev s__law_right:Stmt:=top 16
noncomputable abbrev gb:List Str:=["_law_found", "_law_one", "_law_other", "_law_rooms", "_law_signs", "_law_length", "_law_sign"]
noncomputable abbrev P__law_right:List Str:=["_law_found", "_law_one", "_law_other", "_law_rooms", "_law_signs"]
theorem sc__law_right:FnScope gb P__law_right (defScope s__law_right):=⟨rfl,rfl,rfl,by decide +kernel,rfl,by decide +kernel,by decide +kernel⟩
def d7:En->Res Fl:=fun env=>(pC (A3 (ph (mR (aW cF (aj (ag 6) az)))) (ph (vB (fV CK A0 (vC (.int 0)) (ag 6) (ag 4))))) (cN (vC (.bl false))) fS) env
def jm:En->Res Fl:=
 (aD (cE 5 (aW aY (aj (ag 1) (aj (ag 2) (aj (ag 3) az)))))
 (aD (pC (Ej (ag 5)) (cN (A1 (ag 0))) fS)
 (aD (pC (A3 (ph (mR (wv "tuple" (ag 0)))) (A3 (vB (v2 w4 (pq mS (aj (ag 0) az)) (vC (.int 2)))) (A3 (ph (mR (aW cF (aj (aw 0 (vC (.int 0))) az)))) (ph (vB (fV CK A0 (vC (.int 0)) (aw 0 (vC (.int 0))) (ag 3))))))) (cN (vC (.bl false))) fS)
 (aD (pC (A3 (ph (mR (wv "list" (aw 0 (vC (.int 1)))))) (vB (v2 w4 (pq mS (aj (aw 0 (vC (.int 1))) az)) (ag 5)))) (cN (vC (.bl false))) fS)
 (aD (iT (fq (aw 0 (vC (.int 1)))) (gN 6) d7)
 (cN (wj (aW cI (aj (ag 1) (aj (aw 0 (vC (.int 0))) (aj (aw 0 (vC (.int 1))) az)))) (aW cI (aj (ag 2) (aj (aw 0 (vC (.int 0))) (aj (aw 0 (vC (.int 1))) az)))))))))))
def cJ:List D->Res R:=fy gb jm
abbrev s_law:Stmt:=top 17
noncomputable abbrev C7:List Str:=["_law_script", "_law_size", "_law_rooms", "_law_signs", "_law_one", "_law_other", "_law_far_here", "_law_many", "_law_first", "_law_second", "_law_found", "_law_again"]
noncomputable abbrev P_law:List Str:=["_law_script"]
theorem sc_law:FnScope C7 P_law (defScope s_law):=⟨rfl,rfl,rfl,by decide +kernel,rfl,by decide +kernel,by decide +kernel⟩
def mz:En->Res Fl:=fun env=>(cN (wj (aW cJ (aj (ag 11) (aj (ag 5) (aj (ag 4) (aj (ag 2) (aj (ag 3) az)))))) (wj (v2 mQ (ag 8) (ag 4)) (v2 mQ (ag 9) (ag 5))))) env
def mB:En->Res Fl:=fun env=>
 (aD (cE 11 (aW dZ (aj (fm (aj (ag 2) (aj (ag 3) (aj (iq az) az)))) (aj (ag 9) (aj (ag 8) az)))))
 mz) env
def jn:En->Res Fl:=fun env=>
 (aD (pC (nI (ag 10)) (rJ 10 1 (vC (.int 0))) fS)
 mB) env
def mC:En->Res Fl:=fun env=>
 (aD (pC (A3 (vB (v2 w4 (ag 8) (ag 4))) (A3 (vB (v2 w4 (ag 9) (ag 5))) (ph (mR (aW cJ (aj (ag 10) (aj (ag 4) (aj (ag 5) (aj (ag 2) (aj (ag 3) az)))))))))) (cN (vC (.bl false))) fS)
 jn) env
def sB:En->Res Fl:=fun env=>
 (aD (aP 10 (aW dZ (aj (fm (aj (ag 2) (aj (ag 3) (aj (iq az) az)))) (aj (ag 8) (aj (ag 9) az)))))
 mC) env
def sC:En->Res Fl:=fun env=>
 (aD (aP 9 (Ge (aw 5 (vC (.int 0))) (pq cP (aj (aw 5 (vC (.int 1))) az)) (pq cP (aj (aw 5 (vC (.int 2))) az))))
 sB) env
def qg:En->Res Fl:=fun env=>
 (aD (aP 8 (Ge (aw 4 (vC (.int 0))) (pq cP (aj (aw 4 (vC (.int 1))) az)) (pq cP (aj (aw 4 (vC (.int 2))) az))))
 sC) env
def vy:En->Res Fl:=fun env=>
 (aD (pC (vB (v2 mQ (v2 c6 (ag 6) (vC (.int 8))) (vC (.int 1)))) (aD (aP 7 (v2 cC (vC (.int 1)) (v2 c6 (v2 gp (ag 6) (vC (.int 8))) (vC (.int 20)))))
 (aD (cE 4 (aW dW (aj (ag 4) (aj (v2 c6 (v2 gp (ag 6) (vC (.int 320))) (ag 2)) (aj (v2 c6 (v2 gp (ag 6) (vC (.int 960))) (ag 3)) (aj (ag 7) az))))))
 (cE 5 (aW dW (aj (ag 5) (aj (v2 c6 (v2 gp (ag 6) (vC (.int 320))) (ag 2)) (aj (v2 c6 (v2 gp (ag 6) (vC (.int 960))) (ag 3)) (aj (ag 7) az)))))))) fS)
 qg) env
def vz:En->Res Fl:=fun env=>
 (aD (cE 6 (aW aH (aj (ag 0) (aj (vC (.int 3)) az))))
 vy) env
def vA:En->Res Fl:=fun env=>
 (aD (cE 5 (aW bB (aj (kW (ag 0) (kg (vC (.int 5))) (kg (vC (.int 64))) (kg (vC (.int 2)))) (aj (aW aH (aj (ag 0) (aj (vC (.int 2)) az))) (aj (ag 2) (aj (ag 3) az))))))
 vz) env
def qh:En->Res Fl:=fun env=>
 (aD (cE 4 (aW bB (aj (kW (ag 0) (kg (vC (.int 4))) (kg (vC (.int 64))) (kg (vC (.int 2)))) (aj (aW aH (aj (ag 0) (aj (vC (.int 1)) az))) (aj (ag 2) (aj (ag 3) az))))))
 vA) env
def ql:En->Res Fl:=fun env=>
 (aD (pC (vB (v2 mQ (v2 c6 (v2 gp (ag 1) (vC (.int 12))) (vC (.int 4))) (vC (.int 1)))) (aD (aP 2 (v2 cC (vC (.int 1)) (v2 c6 (v2 gp (ag 1) (vC (.int 48))) (vC (.int 8)))))
 (aP 3 (v2 cC (vC (.int 1)) (v2 c6 (v2 gp (ag 1) (vC (.int 384))) (vC (.int 40)))))) fS)
 qh) env
def qo:En->Res Fl:=fun env=>
 (aD (aP 3 (v2 cC (vC (.int 1)) (v2 c6 (v2 gp (ag 1) (vC (.int 3))) (vC (.int 4)))))
 ql) env
def qp:En->Res Fl:=fun env=>
 (aD (aP 2 (v2 cC (vC (.int 1)) (v2 c6 (ag 1) (vC (.int 3)))))
 qo) env
def zS:En->Res Fl:=
 (aD (cE 1 (aW aH (aj (ag 0) (aj (vC (.int 0)) az))))
 qp)
def ol:List D->Res R:=fy C7 zS
set_option genInjectivity false in
structure Tx (K:Ng) (mg:Str->Option Ni) where
 f_a:Addr
 fd_a:FuncData
 h_a:Fn K mg "_law_cell_at" s__law_cell_at P__law_cell_at f_a fd_a
 f_b:Addr
 fd_b:FuncData
 h_b:Fn K mg "_law_arrow" s__law_arrow P__law_arrow f_b fd_b
 f_c:Addr
 fd_c:FuncData
 h_c:Fn K mg "_law_drawn" s__law_drawn P__law_drawn f_c fd_c
 f_d:Addr
 fd_d:FuncData
 h_d:Fn K mg "_law_far" s__law_far P__law_far f_d fd_d
 f_e:Addr
 fd_e:FuncData
 h_e:Fn K mg "arrows_from" s_arrows_from P_arrows_from f_e fd_e
 f_f:Addr
 fd_f:FuncData
 h_f:Fn K mg "marked" s_marked P_marked f_f fd_f
 f_g:Addr
 fd_g:FuncData
 h_g:Fn K mg "standing_to" s_standing_to P_standing_to f_g fd_g
 f_h:Addr
 fd_h:FuncData
 h_h:Fn K mg "pairs_ahead" s_pairs_ahead P_pairs_ahead f_h fd_h
 f_i:Addr
 fd_i:FuncData
 h_i:Fn K mg "common" s_common P_common f_i fd_i
 f_j:Addr
 fd_j:FuncData
 h_j:Fn K mg "_law_next" s__law_next P__law_next f_j fd_j
 f_k:Addr
 fd_k:FuncData
 h_k:Fn K mg "_law_shortest" s__law_shortest P__law_shortest f_k fd_k
 f_l:Addr
 fd_l:FuncData
 h_l:Fn K mg "_law_whole" s__law_whole P__law_whole f_l fd_l
 f_m:Addr
 fd_m:FuncData
 h_m:Fn K mg "_law_taken" s__law_taken P__law_taken f_m fd_m
 f_n:Addr
 fd_n:FuncData
 h_n:Fn K mg "_law_right" s__law_right P__law_right f_n fd_n
 f_o:Addr
 fd_o:FuncData
 h_o:Fn K mg "law" s_law P_law f_o fd_o
 nb_bool:mg "bool"=none
 nb_dict:mg "dict"=none
 nb_int:mg "int"=none
 nb_isinstance:mg "isinstance"=none
 nb_len:mg "len"=none
 nb_list:mg "list"=none
 nb_range:mg "range"=none
 nb_reversed:mg "reversed"=none
 nb_set:mg "set"=none
 nb_sorted:mg "sorted"=none
 nb_tuple:mg "tuple"=none
section
variable {P:Nh}{w:World}{K:Ng}{mg:Str->Option Ni}{base:Heap}
theorem cj (t:Tx K mg):FnOk P w K mg base j9 1 t.f_a t.fd_a P__law_cell_at (rC mg 2 aH):=
 fA t.h_a.fu kH fun cdv A outer s H E hr=>
  have hu:=hr.units
  (ac (br (aE (x_) (qv 1) (iS px (by rfl) t.nb_len (by decide +kernel) (aa (qv 0) ao)) (bn _)) (am (aR (aC be (aC tY (aC bR (aC bR (aC be (pI (pp (pv 0) (qv 1) (fun _ _=>rfl)) (g7 hu (lM (pv 0)) (qv 1) (fun _ _=>rfl))) av) av) (aC tY (qv 1) (qv 1))) av) av))) aL)
    (am (aR av)))
theorem mY (t:Tx K mg):FnOk P w K mg base j9 1 t.f_b t.fd_b P__law_arrow (rC mg 4 dv):=
 fA t.h_b.fu sc__law_arrow fun cdv A outer s H E hr=>
  have hu:=hr.units
  (ac (ax sc__law_arrow.nd rfl (.inl rfl) (aC be (aC tY (aC bR (aC be (qv 0) av) av) av) av))
    (ac (ax sc__law_arrow.nd rfl (.inl rfl) (aC be (qv 0) (qv 1)))
    (ac (ax sc__law_arrow.nd rfl (.inl rfl) (aC cB (qv 0) (qv 1)))
    (ac (ax sc__law_arrow.nd rfl (.inl rfl) (aC be (qv 0) (qv 2)))
    (ac (ax sc__law_arrow.nd rfl (.inl rfl) (aC cB (qv 0) (qv 2)))
    (am (aR (aQ (aa (qv 4) (aa (qv 5) (aa (aC bR (qv 3) (aC be (qv 0) (aC Ea (qv 1) (qv 3)))) ao)))))))))))
theorem h_ (t:Tx K mg):FnOk P w K mg base j9 2 t.f_c t.fd_c P__law_drawn (rC mg 4 bB):=
 fA t.h_c.fu sc__law_drawn fun cdv A outer s H E hr=>
  have hu:=hr.units
  (ac (ax sc__law_drawn.nd rfl (.inr rfl) (aC be (qv 1) av))
    (ac (ax sc__law_drawn.nd rfl (.inr rfl) av)
    (ac (br (PWD.pt (cU (aE (eF hu) (aC be (aC cB (qv 1) av) av) av (bn _)) (c7 (aE (CM) (qv 4) av (bn _))))) (am (ax sc__law_drawn.nd rfl (.inr rfl) (qv 2))) aL)
    (ac (c9 rfl (CScope.of (osc:=defScope s__law_drawn) (N:=dz) (tN:=["_law_cell"]) (capN:=["_law_rooms", "_law_signs", "_law_own", "_law_low"]) (caps:=[2,3,4,5]) rfl rfl (by decide +kernel)) sc__law_drawn.nd rfl rfl (aN (qv 0)) (by decide) (fun cl C s3 H3 fp=>(ar jW rfl (.inl rfl))) (fun cl C s3 H3 fp=>gA) (fun cl C s3 H3 fp=>(aM (mY t) (hr.mono (by decide)) (by rfl) t.h_b.gl t.h_b.fu.kp t.h_b.bi bA (aa (qv 0) (aa (aC bR (qv 1) (qv 3)) (aa (qv 2) (aa (qv 4) ao)))) (ak (ak (ak (ak aG)))))))
    (ac (ax sc__law_drawn.nd rfl (.inr rfl) (aC cB (qv 1) av))
    (ac (c9 rfl (CScope.of (osc:=defScope s__law_drawn) (N:=dz) (tN:=["_law_state"]) (capN:=["_law_bits"]) (caps:=[7]) rfl rfl (by decide +kernel)) sc__law_drawn.nd rfl rfl (dO (by rfl) t.nb_range (aa (aC bR (qv 2) (qv 4)) ao)) (by decide) (fun cl C s3 H3 fp=>(ar jX rfl (.inl rfl))) (fun cl C s3 H3 fp=>(gB (aE (eF hu) (aC Bd (aC Es (qv 1) (qv 0)) av) av (bn _)))) (fun cl C s3 H3 fp=>(qv 0)))
    (ac (br (aE (eF hu) (aC be (aC cB (qv 1) av) av) av (bn _)) (am (ax sc__law_drawn.nd rfl (.inl rfl) (fR (aa (aC be (qv 7) (aC bR (qv 2) (qv 4))) ao)))) aL)
    (am (aR (aQ (aa (aC bR (qv 2) (qv 4)) (aa (iZ (by rfl) hu (qv 6) (by rfl) t.nb_sorted (by decide +kernel) (by rfl) t.nb_set (by decide +kernel)) (aa (qv 8) ao)))))))))))))
theorem ku (t:Tx K mg):FnOk P w K mg base j9 1 t.f_d t.fd_d P__law_far (rC mg 4 dW):=
 fA t.h_d.fu sc__law_far fun cdv A outer s H E hr=>
  have hu:=hr.units
  (ac (ax sc__law_far.nd rfl (.inl rfl) (dC (gH (by rfl)) (by rfl) t.nb_list (by decide +kernel) (aa (aq hu (pv 0)) ao)))
    (ac (ax sc__law_far.nd rfl (.inl rfl) (qv 1))
    (ac (aX J7 rfl (dO (by rfl) t.nb_range (aa (qv 3) ao)) (ar sc__law_far.nd rfl (.inl rfl)) (ac (b8 (pv 4) (aQ (aa (qv 5) (aa (qv 2) (aa (aC bR (aq hu (pv 0)) (qv 6)) ao)))))
    (am (ax sc__law_far.nd rfl (.inl rfl) (aC bR (aq hu (pv 0)) (qv 6))))))
    (am (aR (aQ (aa (aC bR (aq hu (pv 0)) (qv 3)) (aa (iZ (by rfl) hu (qv 4) (by rfl) t.nb_sorted (by decide +kernel) (by rfl) t.nb_set (by decide +kernel)) (aa (fR (aa (qv 5) ao)) ao)))))))))
theorem gS (t:Tx K mg):FnOk P w K mg base j9 1 t.f_e t.fd_e P_arrows_from (rC mg 1 bo):=
 fA t.h_e.fu sc_arrows_from fun cdv A outer s H E hr=>
  have hu:=hr.units
  (ac (ax sc_arrows_from.nd rfl (.inl rfl) eJ)
    (ac (Bk J7 rfl (aq hu (pv 0)) (xh rfl (dG (iG sc_arrows_from.nd rfl (.inl rfl)) (dG (iG sc_arrows_from.nd rfl (.inl rfl)) (dG (iG sc_arrows_from.nd rfl (.inl rfl)) ut)))) (ur (kJ (iI LL Mk Ml gX (iI KI KF KO gY (iI KI KF KO gY (pv 1) (aI (pv 2) (aI ff bK))) (aI (pv 3) (aI (xp bK) bK))) (aI (pv 4) bK)))))
    (am (aR (qv 1)))))
theorem om (t:Tx K mg):FnOk P w K mg base j9 1 t.f_f t.fd_f P_marked (rC mg 1 dX):=
 fA t.h_f.fu wV fun cdv A outer s H E hr=>
  have hu:=hr.units
  (am (aR (dC (yI (by rfl) hu) (by rfl) t.nb_dict (by decide +kernel) (aa (yO (A9 rfl (CScope.of (osc:=defScope s_marked) (N:=jg) (tN:=["thing"]) (capN:=[]) (caps:=[]) rfl rfl (by decide +kernel)) (aN (qv 0)) (by decide) (fun cl C s3 H3 fp=>(ar jh rfl (.inl rfl))) (fun cl C s3 H3 fp=>gA) (fun cl C s3 H3 fp=>(aQ (aa (qv 0) (aa cL ao))))) (yN rfl (CScope.of (osc:=defScope s_marked) (N:=jg) (tN:=["thing"]) (capN:=[]) (caps:=[]) rfl rfl (by decide +kernel)) (qv 0) (by decide) (fun cl C s3 H3 fp=>(ar jh rfl (.inl rfl))) (fun cl C s3 H3 fp=>gA) (fun cl C s3 H3 fp=>(aQ (aa (qv 0) (aa cL ao)))))) ao))))
theorem gU (t:Tx K mg):FnOk P w K mg base j9 1 t.f_g t.fd_g P_standing_to (rC mg 2 bJ):=
 fA t.h_g.fu sc_standing_to fun cdv A outer s H E hr=>
  have hu:=hr.units
  (ac (ax sc_standing_to.nd rfl (.inl rfl) (fR ao))
    (ac (ax sc_standing_to.nd rfl (.inl rfl) (g7 hu (pI (pp (pv 0) (aq hu (pv 1)) (fun _ _=>rfl)) (g7 hu (lM (pv 0)) (aq hu (pv 1)) (fun _ _=>rfl))) (aq hu (pv 1)) (fun _ _=>rfl)))
    (ac (jJ 100000 J7 (rK (qv 3)) (ac (b8 (pv 2) (aq hu (pv 3)))
    (ac (ax sc_standing_to.nd rfl (.inl rfl) (aq hu (pv 3)))
    (am (ax sc_standing_to.nd rfl (.inl rfl) (g7 hu (pI (pp (pv 0) (aq hu (pv 1)) (fun _ _=>rfl)) (g7 hu (lM (pv 0)) (aq hu (pv 1)) (fun _ _=>rfl))) (aq hu (pv 1)) (fun _ _=>rfl)))))))
    (ac (Bn (pv 2))
    (am (aR (aQ (aa (aq hu (pv 1)) (aa (qv 2) ao)))))))))
theorem mD (t:Tx K mg):FnOk P w K mg base j9 1 t.f_h t.fd_h P_pairs_ahead (Jg 3 cW):=
 G9 t.h_h.fu sc_pairs_ahead rfl (by decide) fun cdv A outer s H E hr=>
  have hu:=hr.units
  (ac (ax sc_pairs_ahead.nd rfl (.inl rfl) (fR ao))
    (ac (bU (aX J7 rfl (aN (qv 2)) (ar sc_pairs_ahead.nd rfl (.inl rfl)) (ac (ax sc_pairs_ahead.nd rfl (.inl rfl) (g8 hu (qv 1) (aq hu (pv 5)) eJ ⟨rfl,rfl,rfl,rfl⟩))
    (am (rU J7 rfl (g8 hu (qv 0) (aq hu (pv 5)) eJ ⟨rfl,rfl,rfl,rfl⟩) (uQ rfl (gZ (ar sc_pairs_ahead.nd rfl (.inl rfl)) (gZ (ar sc_pairs_ahead.nd rfl (.inl rfl)) rF (fun _ a _ b=>dG a b)) (fun _ a _ b=>dG a b))) (ac (ax sc_pairs_ahead.nd rfl (.inl rfl) (g8 hu (qv 6) (qv 7) (fR ao) ⟨rfl,rfl,rfl,rfl⟩))
    (am (bU (aX J7 rfl (aN (qv 8)) (ar sc_pairs_ahead.nd rfl (.inl rfl)) (i_ (fK sc_pairs_ahead.nd rfl (.inr rfl) (iI KI KF KO gY (pv 3) (aI (pv 10) (aI ff bK))))
    (ac (c9 rfl (CScope.of (osc:=defScope s_pairs_ahead) (N:=bp) (tN:=["other"]) (capN:=["row"]) (caps:=[11]) rfl rfl (by decide +kernel)) sc_pairs_ahead.nd rfl rfl (aN (qv 9)) (by decide) (fun cl C s3 H3 fp=>(ar bP rfl (.inl rfl))) (fun cl C s3 H3 fp=>(gB (aE (dD hu) (qv 0) (qv 1) (by rfl)))) (fun cl C s3 H3 fp=>(qv 0)))
    (am (bU (aX J7 rfl (aN (qv 12)) (ar sc_pairs_ahead.nd rfl (.inl rfl)) (ac (c_ hu (pv 11) (qv 13) (aQ (aa (qv 5) (aa (qv 7) ao))))
    (am (b8 (pv 4) (aQ (aa (qv 10) (aa (qv 13) ao))))))) (bT J7 rfl (qv 12) (ar sc_pairs_ahead.nd rfl (.inl rfl)) (ac (c_ hu (pv 11) (qv 13) (aQ (aa (qv 5) (aa (qv 7) ao))))
    (am (b8 (pv 4) (aQ (aa (qv 10) (aa (qv 13) ao)))))))))))) (bT J7 rfl (qv 8) (ar sc_pairs_ahead.nd rfl (.inl rfl)) (i_ (fK sc_pairs_ahead.nd rfl (.inr rfl) (iI KI KF KO gY (pv 3) (aI (pv 10) (aI ff bK))))
    (ac (c9 rfl (CScope.of (osc:=defScope s_pairs_ahead) (N:=bp) (tN:=["other"]) (capN:=["row"]) (caps:=[11]) rfl rfl (by decide +kernel)) sc_pairs_ahead.nd rfl rfl (aN (qv 9)) (by decide) (fun cl C s3 H3 fp=>(ar bP rfl (.inl rfl))) (fun cl C s3 H3 fp=>(gB (aE (dD hu) (qv 0) (qv 1) (by rfl)))) (fun cl C s3 H3 fp=>(qv 0)))
    (am (bU (aX J7 rfl (aN (qv 12)) (ar sc_pairs_ahead.nd rfl (.inl rfl)) (ac (c_ hu (pv 11) (qv 13) (aQ (aa (qv 5) (aa (qv 7) ao))))
    (am (b8 (pv 4) (aQ (aa (qv 10) (aa (qv 13) ao))))))) (bT J7 rfl (qv 12) (ar sc_pairs_ahead.nd rfl (.inl rfl)) (ac (c_ hu (pv 11) (qv 13) (aQ (aa (qv 5) (aa (qv 7) ao))))
    (am (b8 (pv 4) (aQ (aa (qv 10) (aa (qv 13) ao))))))))))))))))))) (bT J7 rfl (qv 2) (ar sc_pairs_ahead.nd rfl (.inl rfl)) (ac (ax sc_pairs_ahead.nd rfl (.inl rfl) (g8 hu (qv 1) (aq hu (pv 5)) eJ ⟨rfl,rfl,rfl,rfl⟩))
    (am (rU J7 rfl (g8 hu (qv 0) (aq hu (pv 5)) eJ ⟨rfl,rfl,rfl,rfl⟩) (uQ rfl (gZ (ar sc_pairs_ahead.nd rfl (.inl rfl)) (gZ (ar sc_pairs_ahead.nd rfl (.inl rfl)) rF (fun _ a _ b=>dG a b)) (fun _ a _ b=>dG a b))) (ac (ax sc_pairs_ahead.nd rfl (.inl rfl) (g8 hu (qv 6) (qv 7) (fR ao) ⟨rfl,rfl,rfl,rfl⟩))
    (am (bU (aX J7 rfl (aN (qv 8)) (ar sc_pairs_ahead.nd rfl (.inl rfl)) (i_ (fK sc_pairs_ahead.nd rfl (.inr rfl) (iI KI KF KO gY (pv 3) (aI (pv 10) (aI ff bK))))
    (ac (c9 rfl (CScope.of (osc:=defScope s_pairs_ahead) (N:=bp) (tN:=["other"]) (capN:=["row"]) (caps:=[11]) rfl rfl (by decide +kernel)) sc_pairs_ahead.nd rfl rfl (aN (qv 9)) (by decide) (fun cl C s3 H3 fp=>(ar bP rfl (.inl rfl))) (fun cl C s3 H3 fp=>(gB (aE (dD hu) (qv 0) (qv 1) (by rfl)))) (fun cl C s3 H3 fp=>(qv 0)))
    (am (bU (aX J7 rfl (aN (qv 12)) (ar sc_pairs_ahead.nd rfl (.inl rfl)) (ac (c_ hu (pv 11) (qv 13) (aQ (aa (qv 5) (aa (qv 7) ao))))
    (am (b8 (pv 4) (aQ (aa (qv 10) (aa (qv 13) ao))))))) (bT J7 rfl (qv 12) (ar sc_pairs_ahead.nd rfl (.inl rfl)) (ac (c_ hu (pv 11) (qv 13) (aQ (aa (qv 5) (aa (qv 7) ao))))
    (am (b8 (pv 4) (aQ (aa (qv 10) (aa (qv 13) ao)))))))))))) (bT J7 rfl (qv 8) (ar sc_pairs_ahead.nd rfl (.inl rfl)) (i_ (fK sc_pairs_ahead.nd rfl (.inr rfl) (iI KI KF KO gY (pv 3) (aI (pv 10) (aI ff bK))))
    (ac (c9 rfl (CScope.of (osc:=defScope s_pairs_ahead) (N:=bp) (tN:=["other"]) (capN:=["row"]) (caps:=[11]) rfl rfl (by decide +kernel)) sc_pairs_ahead.nd rfl rfl (aN (qv 9)) (by decide) (fun cl C s3 H3 fp=>(ar bP rfl (.inl rfl))) (fun cl C s3 H3 fp=>(gB (aE (dD hu) (qv 0) (qv 1) (by rfl)))) (fun cl C s3 H3 fp=>(qv 0)))
    (am (bU (aX J7 rfl (aN (qv 12)) (ar sc_pairs_ahead.nd rfl (.inl rfl)) (ac (c_ hu (pv 11) (qv 13) (aQ (aa (qv 5) (aa (qv 7) ao))))
    (am (b8 (pv 4) (aQ (aa (qv 10) (aa (qv 13) ao))))))) (bT J7 rfl (qv 12) (ar sc_pairs_ahead.nd rfl (.inl rfl)) (ac (c_ hu (pv 11) (qv 13) (aQ (aa (qv 5) (aa (qv 7) ao))))
    (am (b8 (pv 4) (aQ (aa (qv 10) (aa (qv 13) ao))))))))))))))))))))
    (am (nV (pv 4)))))
theorem oo (t:Tx K mg):FnOk P w K mg base j9 2 t.f_i t.fd_i P_common (rC mg 3 dZ):=
 fA t.h_i.fu sc_common fun cdv A outer s H E hr=>
  have hu:=hr.units
  (ac (bC sc_common.nd rfl (.inl rfl) (aM (gS t) (hr.mono (by decide)) (by rfl) t.h_e.gl t.h_e.fu.kp t.h_e.bi bA (aa (qv 1) ao) (ak aG)))
    (ac (bC sc_common.nd rfl (.inl rfl) (aM (gS t) (hr.mono (by decide)) (by rfl) t.h_e.gl t.h_e.fu.kp t.h_e.bi bA (aa (qv 2) ao) (ak aG)))
    (ac (bC sc_common.nd rfl (.inl rfl) (aM (om t) (hr.mono (by decide)) (by rfl) t.h_f.gl t.h_f.fu.kp t.h_f.bi bA (aa (aq hu (pv 1)) ao) (ak aG)))
    (ac (bC sc_common.nd rfl (.inl rfl) (aM (om t) (hr.mono (by decide)) (by rfl) t.h_f.gl t.h_f.fu.kp t.h_f.bi bA (aa (aq hu (pv 2)) ao) (ak aG)))
    (ac (c9 rfl (CScope.of (osc:=defScope s_common) (N:=gQ) (tN:=["room"]) (capN:=[]) (caps:=[]) rfl rfl (by decide +kernel)) sc_common.nd rfl rfl (dO (by rfl) t.nb_range (aa (aq hu (pv 0)) ao)) (by decide) (fun cl C s3 H3 fp=>(ar p_ rfl (.inl rfl))) (fun cl C s3 H3 fp=>gA) (fun cl C s3 H3 fp=>(aQ (aa (qv 0) (aa (qv 0) ao)))))
    (ac (wK rfl (CScope.of (osc:=defScope s_common) (N:=gQ) (tN:=["room"]) (capN:=[]) (caps:=[]) rfl rfl (by decide +kernel)) sc_common.nd rfl (.inl rfl) (by rfl) t.nb_dict (dO (by rfl) t.nb_range (aa (aq hu (pv 0)) ao)) (fun cl C s3 H3 fp=>iG qf rfl (.inl rfl)) (fun cl C s3 H3 fp=>sX (aI (pv 0) (aI (AM (xu (pv 0) xa AL) rfl rfl (by simp) (by simp)) bK))) (by decide))
    (ac (jJ 100000 J7 (jD (qv 7)) (ac (bU (aX J7 rfl (aN (qv 7)) (ar sc_common.nd rfl (.inl rfl)) (am (br (PWD.pt (cU (aE (eY hu) (aq hu (pv 9)) (qv 5) (by rfl)) (c7 (aE (eY hu) (aq hu (pv 9)) (qv 6) (by rfl))))) (am (aR (aM (gU t) (hr.mono (by decide)) (by rfl) t.h_g.gl t.h_g.fu.kp t.h_g.bi bA (aa (qv 8) (aa (qv 9) ao)) (ak (ak aG))))) aL))) (bT J7 rfl (qv 7) (ar sc_common.nd rfl (.inl rfl)) (am (br (PWD.pt (cU (aE (eY hu) (aq hu (pv 9)) (qv 5) (by rfl)) (c7 (aE (eY hu) (aq hu (pv 9)) (qv 6) (by rfl))))) (am (aR (aM (gU t) (hr.mono (by decide)) (by rfl) t.h_g.gl t.h_g.fu.kp t.h_g.bi bA (aa (qv 8) (aa (qv 9) ao)) (ak (ak aG))))) aL))))
    (am (wJ sc_common.nd rfl (.inl rfl) (mD t) (hr.mono (by decide)) (by rfl) t.h_h.gl t.h_h.fu.kp t.h_h.bi bA (dF (qv 3) (dF (qv 4) (dF (qv 7) (rV (pv 8))))) (ak (ak (ak aG)))))))
    (am (aR x5)))))))))
theorem qq (t:Tx K mg):FnOk P w K mg base j9 1 t.f_j t.fd_j P__law_next (Jd 3 eU):=
 G5 t.h_j.fu sc__law_next rfl (by decide) fun cdv A outer s H E hr=>
  have hu:=hr.units
  (ac (ax sc__law_next.nd rfl (.inl rfl) (fR ao))
    (ac (bU (aX J7 rfl (aN (qv 2)) (ar sc__law_next.nd rfl (.inl rfl)) (am (aX J7 rfl (aN (aq hu (pv 0))) (ar sc__law_next.nd rfl (.inl rfl)) (am (br (aE (eF hu) (aq hu (pv 6)) (aq hu (pv 5)) (bn _)) (am (aX J7 rfl (aN (aq hu (pv 1))) (ar sc__law_next.nd rfl (.inl rfl)) (ac (ax sc__law_next.nd rfl (.inl rfl) (aQ (aa (aq hu (pv 6)) (aa (aq hu (pv 7)) ao))))
    (am (br (PWD.pt (cU (aE (eF hu) (aq hu (pv 7)) (aq hu (pv 5)) (bn _)) (cU (aE (eF hu) (aq hu (pv 7)) (aq hu (pv 6)) (bn _)) (c7 (aE (dD hu) (qv 8) (qv 3) (by rfl)))))) (ac (fF (fC (pv 3) (qv 8) cL) (g6 hu (pv 3) (qv 8) cL))
    (am (b8 (pv 4) (qv 8)))) aL))))) aL))))) (bT J7 rfl (qv 2) (ar sc__law_next.nd rfl (.inl rfl)) (am (aX J7 rfl (aN (aq hu (pv 0))) (ar sc__law_next.nd rfl (.inl rfl)) (am (br (aE (eF hu) (aq hu (pv 6)) (aq hu (pv 5)) (bn _)) (am (aX J7 rfl (aN (aq hu (pv 1))) (ar sc__law_next.nd rfl (.inl rfl)) (ac (ax sc__law_next.nd rfl (.inl rfl) (aQ (aa (aq hu (pv 6)) (aa (aq hu (pv 7)) ao))))
    (am (br (PWD.pt (cU (aE (eF hu) (aq hu (pv 7)) (aq hu (pv 5)) (bn _)) (cU (aE (eF hu) (aq hu (pv 7)) (aq hu (pv 6)) (bn _)) (c7 (aE (dD hu) (qv 8) (qv 3) (by rfl)))))) (ac (fF (fC (pv 3) (qv 8) cL) (g6 hu (pv 3) (qv 8) cL))
    (am (b8 (pv 4) (qv 8)))) aL))))) aL))))))
    (am (nV (pv 4)))))
theorem jY (t:Tx K mg):FnOk P w K mg base j9 2 t.f_k t.fd_k P__law_shortest (rC mg 3 aY):=
 fA t.h_k.fu sc__law_shortest fun cdv A outer s H E hr=>
  have hu:=hr.units
  (ac (c9 rfl (CScope.of (osc:=defScope s__law_shortest) (N:=cg) (tN:=["_law_room"]) (capN:=[]) (caps:=[]) rfl rfl (by decide +kernel)) sc__law_shortest.nd rfl rfl (dO (by rfl) t.nb_range (aa (qv 2) ao)) (by decide) (fun cl C s3 H3 fp=>(ar hI rfl (.inl rfl))) (fun cl C s3 H3 fp=>gA) (fun cl C s3 H3 fp=>(aQ (aa (qv 0) (aa (qv 0) ao)))))
    (ac (ax sc__law_shortest.nd rfl (.inl rfl) eJ)
    (ac (bU (aX J7 rfl (aN (qv 3)) (ar sc__law_shortest.nd rfl (.inl rfl)) (am (fF (fC (pv 4) (qv 5) cL) (g6 hu (pv 4) (qv 5) cL)))) (bT J7 rfl (qv 3) (ar sc__law_shortest.nd rfl (.inl rfl)) (am (fF (fC (pv 4) (qv 5) cL) (g6 hu (pv 4) (qv 5) cL)))))
    (ac (ax sc__law_shortest.nd rfl (.inl rfl) av)
    (ac (jJ 100000 J7 (aE (CM) (iS px (by rfl) t.nb_len (by decide +kernel) (aa (qv 3) ao)) av (bn _)) (ac (bU (aX J7 rfl (aN (qv 3)) (ar sc__law_shortest.nd rfl (.inl rfl)) (am (br (PWD.pt (cU (aE (eY hu) (aq hu (pv 5)) (aq hu (pv 0)) (by rfl)) (c7 (aE (eY hu) (aq hu (pv 5)) (aq hu (pv 1)) (by rfl))))) (am (aR (qv 6))) aL))) (bT J7 rfl (qv 3) (ar sc__law_shortest.nd rfl (.inl rfl)) (am (br (PWD.pt (cU (aE (eY hu) (aq hu (pv 5)) (aq hu (pv 0)) (by rfl)) (c7 (aE (eY hu) (aq hu (pv 5)) (aq hu (pv 1)) (by rfl))))) (am (aR (qv 6))) aL))))
    (ac (wF sc__law_shortest.nd rfl (.inl rfl) (qq t) (hr.mono (by decide)) (by rfl) t.h_j.gl t.h_j.fu.kp t.h_j.bi bA (dF (qv 0) (dF (qv 1) (dF (qv 3) (rV (pv 4))))) (ak (ak (ak aG))))
    (am (ax sc__law_shortest.nd rfl (.inl rfl) (aC bR (qv 6) av))))))
    (am (aR x5)))))))
theorem ia (t:Tx K mg):FnOk P w K mg base j9 1 t.f_l t.fd_l P__law_whole (rC mg 1 cF):=
 fA t.h_l.fu mX fun cdv A outer s H E hr=>
  have hu:=hr.units
  (am (aR (pf (pE yn (by rfl) t.nb_isinstance (by rfl) t.nb_int (by decide +kernel) (qv 0)) (tZ (Ef (pE wt (by rfl) t.nb_isinstance (by rfl) t.nb_bool (by decide +kernel) (qv 0)))))))
theorem ib (t:Tx K mg):FnOk P w K mg base j9 1 t.f_m t.fd_m P__law_taken (rC mg 3 cI):=
 fA t.h_m.fu sc__law_taken fun cdv A outer s H E hr=>
  have hu:=hr.units
  (ac (ax sc__law_taken.nd rfl (.inl rfl) eJ)
    (ac (aX J7 rfl (aN (aq hu (pv 0))) (ar sc__law_taken.nd rfl (.inl rfl)) (am (fF (fC (pv 3) (qv 4) cL) (g6 hu (pv 3) (qv 4) cL))))
    (ac (aX J7 rfl (Bg (by rfl) t.nb_reversed (aa (qv 2) ao)) (ar sc__law_taken.nd rfl (.inl rfl)) (ac (ax sc__law_taken.nd rfl (.inl rfl) eJ)
    (ac (aX J7 rfl (aN (aq hu (pv 0))) (ar sc__law_taken.nd rfl (.inl rfl)) (am (br (PWD.pt (cU (aE (eF hu) (aq hu (pv 7)) (qv 5) (bn _)) (c7 (aE (eY hu) (aq hu (pv 7)) (qv 3) (by rfl))))) (am (fF (fC (pv 6) (aq hu (pv 7)) cL) (g6 hu (pv 6) (aq hu (pv 7)) cL))) aL)))
    (am (ax sc__law_taken.nd rfl (.inl rfl) (qv 6))))))
    (am (aR (tX (eY hu) (qv 1) (qv 3) (by rfl)))))))
theorem ie (t:Tx K mg):FnOk P w K mg base j9 3 t.f_n t.fd_n P__law_right (rC mg 5 cJ):=
 fA t.h_n.fu sc__law_right fun cdv A outer s H E hr=>
  have hu:=hr.units
  (ac (bC sc__law_right.nd rfl (.inl rfl) (aM (jY t) (hr.mono (by decide)) (by rfl) t.h_k.gl t.h_k.fu.kp t.h_k.bi bA (aa (qv 1) (aa (qv 2) (aa (qv 3) ao))) (ak (ak (ak aG)))))
    (ac (br (Ba (qv 5)) (am (aR (Ed (qv 0)))) aL)
    (ac (br (PWD.pt (ip (fQ (jD (pE t7 (by rfl) t.nb_isinstance (by rfl) t.nb_tuple (by decide +kernel) (qv 0)))) (ip (aE (uO hu) (iS px (by rfl) t.nb_len (by decide +kernel) (aa (qv 0) ao)) av (bn _)) (ip (fQ (jD (aM (ia t) (hr.mono (by decide)) (by rfl) t.h_l.gl t.h_l.fu.kp t.h_l.bi bA (aa (aq hu (pv 0)) ao) (ak aG)))) (kP (fQ (nL (CL) (x_) av (aq hu (pv 0)) (qv 3)))))))) (am (aR cL)) aL)
    (ac (br (PWD.pt (ip (fQ (jD (pE wu (by rfl) t.nb_isinstance (by rfl) t.nb_list (by decide +kernel) (aq hu (pv 0))))) (kP (aE (uO hu) (iS px (by rfl) t.nb_len (by decide +kernel) (aa (aq hu (pv 0)) ao)) (qv 5) (bn _))))) (am (aR cL)) aL)
    (ac (aX J7 rfl (aN (aq hu (pv 0))) (ar sc__law_right.nd rfl (.inl rfl)) (am (br (PWD.pt (ip (fQ (jD (aM (ia t) (hr.mono (by decide)) (by rfl) t.h_l.gl t.h_l.fu.kp t.h_l.bi bA (aa (qv 6) ao) (ak aG)))) (kP (fQ (nL (CL) (x_) av (qv 6) (qv 4)))))) (am (aR cL)) aL)))
    (am (aR (pf (aM (ib t) (hr.mono (by decide)) (by rfl) t.h_m.gl t.h_m.fu.kp t.h_m.bi bA (aa (qv 1) (aa (aq hu (pv 0)) (aa (aq hu (pv 0)) ao))) (ak (ak (ak aG)))) (tZ (aM (ib t) (hr.mono (by decide)) (by rfl) t.h_m.gl t.h_m.fu.kp t.h_m.bi bA (aa (qv 2) (aa (aq hu (pv 0)) (aa (aq hu (pv 0)) ao))) (ak (ak (ak aG)))))))))))))
theorem FG (t:Tx K mg):FnOk P w K mg base j9 4 t.f_o t.fd_o P_law (rC mg 1 ol):=
 fA t.h_o.fu sc_law fun cdv A outer s H E hr=>
  have hu:=hr.units
  (ac (bC sc_law.nd rfl (.inl rfl) (aM (cj t) (hr.mono (by decide)) (by rfl) t.h_a.gl t.h_a.fu.kp t.h_a.bi bA (aa (qv 0) (aa av ao)) (ak (ak aG))))
    (ac (ax sc_law.nd rfl (.inl rfl) (aC bR av (aC be (qv 1) av)))
    (ac (ax sc_law.nd rfl (.inl rfl) (aC bR av (aC be (aC cB (qv 1) av) av)))
    (ac (br (aE (eF hu) (aC be (aC cB (qv 1) av) av) av (bn _)) (ac (ax sc_law.nd rfl (.inl rfl) (aC bR av (aC be (aC cB (qv 1) av) av)))
    (am (ax sc_law.nd rfl (.inl rfl) (aC bR av (aC be (aC cB (qv 1) av) av))))) aL)
    (ac (bC sc_law.nd rfl (.inl rfl) (aM (h_ t) (hr.mono (by decide)) (by rfl) t.h_c.gl t.h_c.fu.kp t.h_c.bi bA (aa (nT (qv 0) (fB av) (fB av) (fB av)) (aa (aM (cj t) (hr.mono (by decide)) (by rfl) t.h_a.gl t.h_a.fu.kp t.h_a.bi bA (aa (qv 0) (aa av ao)) (ak (ak aG))) (aa (qv 2) (aa (qv 3) ao)))) (ak (ak (ak (ak aG))))))
    (ac (bC sc_law.nd rfl (.inl rfl) (aM (h_ t) (hr.mono (by decide)) (by rfl) t.h_c.gl t.h_c.fu.kp t.h_c.bi bA (aa (nT (qv 0) (fB av) (fB av) (fB av)) (aa (aM (cj t) (hr.mono (by decide)) (by rfl) t.h_a.gl t.h_a.fu.kp t.h_a.bi bA (aa (qv 0) (aa av ao)) (ak (ak aG))) (aa (qv 2) (aa (qv 3) ao)))) (ak (ak (ak (ak aG))))))
    (ac (bC sc_law.nd rfl (.inl rfl) (aM (cj t) (hr.mono (by decide)) (by rfl) t.h_a.gl t.h_a.fu.kp t.h_a.bi bA (aa (qv 0) (aa av ao)) (ak (ak aG))))
    (ac (br (aE (eF hu) (aC be (qv 6) av) av (bn _)) (ac (ax sc_law.nd rfl (.inl rfl) (aC bR av (aC be (aC cB (qv 6) av) av)))
    (ac (bC sc_law.nd rfl (.inl rfl) (aM (ku t) (hr.mono (by decide)) (by rfl) t.h_d.gl t.h_d.fu.kp t.h_d.bi bA (aa (qv 4) (aa (aC be (aC cB (qv 6) av) (qv 2)) (aa (aC be (aC cB (qv 6) av) (qv 3)) (aa (qv 7) ao)))) (ak (ak (ak (ak aG))))))
    (am (bC sc_law.nd rfl (.inl rfl) (aM (ku t) (hr.mono (by decide)) (by rfl) t.h_d.gl t.h_d.fu.kp t.h_d.bi bA (aa (qv 5) (aa (aC be (aC cB (qv 6) av) (qv 2)) (aa (aC be (aC cB (qv 6) av) (qv 3)) (aa (qv 7) ao)))) (ak (ak (ak (ak aG))))))))) aL)
    (ac (ax sc_law.nd rfl (.inl rfl) (CP (aq hu (pv 4)) (dC (gH (by rfl)) (by rfl) t.nb_list (by decide +kernel) (aa (aq hu (pv 4)) ao)) (dC (gH (by rfl)) (by rfl) t.nb_list (by decide +kernel) (aa (aq hu (pv 4)) ao))))
    (ac (ax sc_law.nd rfl (.inl rfl) (CP (aq hu (pv 5)) (dC (gH (by rfl)) (by rfl) t.nb_list (by decide +kernel) (aa (aq hu (pv 5)) ao)) (dC (gH (by rfl)) (by rfl) t.nb_list (by decide +kernel) (aa (aq hu (pv 5)) ao))))
    (ac (ax sc_law.nd rfl (.inl rfl) (aM (oo t) (hr.mono (by decide)) (by rfl) t.h_i.gl t.h_i.fu.kp t.h_i.bi bA (aa (aQ (aa (qv 2) (aa (qv 3) (aa (fR ao) ao)))) (aa (qv 8) (aa (qv 9) ao))) (ak (ak (ak aG)))))
    (ac (br (PWD.pt (ip (aE (uO hu) (qv 8) (qv 4) (bn _)) (ip (aE (uO hu) (qv 9) (qv 5) (bn _)) (kP (fQ (jD (aM (ie t) (hr.mono (by decide)) (by rfl) t.h_n.gl t.h_n.fu.kp t.h_n.bi bA (aa (qv 10) (aa (qv 4) (aa (qv 5) (aa (qv 2) (aa (qv 3) ao))))) (ak (ak (ak (ak (ak aG)))))))))))) (am (aR cL)) aL)
    (ac (br (rK (qv 10)) (am (yq (j:=1) (pv 10) (fun _ _=>rfl) av)) aL)
    (ac (bC sc_law.nd rfl (.inl rfl) (aM (oo t) (hr.mono (by decide)) (by rfl) t.h_i.gl t.h_i.fu.kp t.h_i.bi bA (aa (aQ (aa (qv 2) (aa (qv 3) (aa (fR ao) ao)))) (aa (qv 9) (aa (qv 8) ao))) (ak (ak (ak aG)))))
    (am (aR (pf (aM (ie t) (hr.mono (by decide)) (by rfl) t.h_n.gl t.h_n.fu.kp t.h_n.bi bA (aa (qv 11) (aa (qv 5) (aa (qv 4) (aa (qv 2) (aa (qv 3) ao))))) (ak (ak (ak (ak (ak aG)))))) (pf (tX (eF hu) (qv 8) (qv 4) (bn _)) (tZ (tX (eF hu) (qv 9) (qv 5) (bn _)))))))))))))))))))))
end
theorem B9 {Q:List Ni->Prop}{us:List Ni}(hl:us.length=1)(h:∀ a0:Ni,Q [a0]):Q us:=by
 match us,hl with
 | [a0],_=>exact h a0
theorem HS {Q:List Ni->Prop}{us:List Ni}(hl:us.length=2)(h:∀ a0 a1:Ni,Q [a0,a1]):Q us:=by
 match us,hl with
 | [a0,a1],_=>exact h a0 a1
theorem FH {Q:List Ni->Prop}{us:List Ni}(hl:us.length=3)(h:∀ a0 a1 a2:Ni,Q [a0,a1,a2]):Q us:=by
 match us,hl with
 | [a0,a1,a2],_=>exact h a0 a1 a2
theorem zT {Q:List Ni->Prop}{us:List Ni}(hl:us.length=4)(h:∀ a0 a1 a2 a3:Ni,Q [a0,a1,a2,a3]):Q us:=by
 match us,hl with
 | [a0,a1,a2,a3],_=>exact h a0 a1 a2 a3
theorem Jt {Q:List Ni->Prop}{us:List Ni}(hl:us.length=5)(h:∀ a0 a1 a2 a3 a4:Ni,Q [a0,a1,a2,a3,a4]):Q us:=by
 match us,hl with
 | [a0,a1,a2,a3,a4],_=>exact h a0 a1 a2 a3 a4
theorem HU {K KK:Ng}{mg:Str->Option Ni}{h:Heap}(X:K.In h)(G:h.Ns mainGlobals mg)(U:SubK K KK)
 {f_a:Addr} {od_a an_a:Option Addr} {sl_a:Array (Option Ni)} {oc_a kV_a dc_a pm_a cd_a ct_a:Ni}
 (a_a:PySem.W.nsIn K mainGlobals "_law_cell_at"=some (some (.ref f_a))) (l_a:K.lookup f_a=some ⟨oc_a,od_a,.func (PySem.W.fnOf "_law_cell_at" "_law_cell_at" (defArgs s__law_cell_at) (defBody s__law_cell_at) (defScope s__law_cell_at) .none kV_a dc_a pm_a an_a cd_a ct_a),sl_a⟩) (c_a:PySem.W.codeIn K cd_a "_law_cell_at"=true) (k_a:PySem.W.keepIn K (.ref f_a)=true)
 {f_b:Addr} {od_b an_b:Option Addr} {sl_b:Array (Option Ni)} {oc_b kV_b dc_b pm_b cd_b ct_b:Ni}
 (a_b:PySem.W.nsIn K mainGlobals "_law_arrow"=some (some (.ref f_b))) (l_b:K.lookup f_b=some ⟨oc_b,od_b,.func (PySem.W.fnOf "_law_arrow" "_law_arrow" (defArgs s__law_arrow) (defBody s__law_arrow) (defScope s__law_arrow) .none kV_b dc_b pm_b an_b cd_b ct_b),sl_b⟩) (c_b:PySem.W.codeIn K cd_b "_law_arrow"=true) (k_b:PySem.W.keepIn K (.ref f_b)=true)
 {f_c:Addr} {od_c an_c:Option Addr} {sl_c:Array (Option Ni)} {oc_c kV_c dc_c pm_c cd_c ct_c:Ni}
 (a_c:PySem.W.nsIn K mainGlobals "_law_drawn"=some (some (.ref f_c))) (l_c:K.lookup f_c=some ⟨oc_c,od_c,.func (PySem.W.fnOf "_law_drawn" "_law_drawn" (defArgs s__law_drawn) (defBody s__law_drawn) (defScope s__law_drawn) .none kV_c dc_c pm_c an_c cd_c ct_c),sl_c⟩) (c_c:PySem.W.codeIn K cd_c "_law_drawn"=true) (k_c:PySem.W.keepIn K (.ref f_c)=true)
 {f_d:Addr} {od_d an_d:Option Addr} {sl_d:Array (Option Ni)} {oc_d kV_d dc_d pm_d cd_d ct_d:Ni}
 (a_d:PySem.W.nsIn K mainGlobals "_law_far"=some (some (.ref f_d))) (l_d:K.lookup f_d=some ⟨oc_d,od_d,.func (PySem.W.fnOf "_law_far" "_law_far" (defArgs s__law_far) (defBody s__law_far) (defScope s__law_far) .none kV_d dc_d pm_d an_d cd_d ct_d),sl_d⟩) (c_d:PySem.W.codeIn K cd_d "_law_far"=true) (k_d:PySem.W.keepIn K (.ref f_d)=true)
 {f_e:Addr} {od_e an_e:Option Addr} {sl_e:Array (Option Ni)} {oc_e kV_e dc_e pm_e cd_e ct_e:Ni}
 (a_e:PySem.W.nsIn K mainGlobals "arrows_from"=some (some (.ref f_e))) (l_e:K.lookup f_e=some ⟨oc_e,od_e,.func (PySem.W.fnOf "arrows_from" "arrows_from" (defArgs s_arrows_from) (defBody s_arrows_from) (defScope s_arrows_from) .none kV_e dc_e pm_e an_e cd_e ct_e),sl_e⟩) (c_e:PySem.W.codeIn K cd_e "arrows_from"=true) (k_e:PySem.W.keepIn K (.ref f_e)=true)
 {f_f:Addr} {od_f an_f:Option Addr} {sl_f:Array (Option Ni)} {oc_f kV_f dc_f pm_f cd_f ct_f:Ni}
 (a_f:PySem.W.nsIn K mainGlobals "marked"=some (some (.ref f_f))) (l_f:K.lookup f_f=some ⟨oc_f,od_f,.func (PySem.W.fnOf "marked" "marked" (defArgs s_marked) (defBody s_marked) (defScope s_marked) .none kV_f dc_f pm_f an_f cd_f ct_f),sl_f⟩) (c_f:PySem.W.codeIn K cd_f "marked"=true) (k_f:PySem.W.keepIn K (.ref f_f)=true)
 {f_g:Addr} {od_g an_g:Option Addr} {sl_g:Array (Option Ni)} {oc_g kV_g dc_g pm_g cd_g ct_g:Ni}
 (a_g:PySem.W.nsIn K mainGlobals "standing_to"=some (some (.ref f_g))) (l_g:K.lookup f_g=some ⟨oc_g,od_g,.func (PySem.W.fnOf "standing_to" "standing_to" (defArgs s_standing_to) (defBody s_standing_to) (defScope s_standing_to) .none kV_g dc_g pm_g an_g cd_g ct_g),sl_g⟩) (c_g:PySem.W.codeIn K cd_g "standing_to"=true) (k_g:PySem.W.keepIn K (.ref f_g)=true)
 {f_h:Addr} {od_h an_h:Option Addr} {sl_h:Array (Option Ni)} {oc_h kV_h dc_h pm_h cd_h ct_h:Ni}
 (a_h:PySem.W.nsIn K mainGlobals "pairs_ahead"=some (some (.ref f_h))) (l_h:K.lookup f_h=some ⟨oc_h,od_h,.func (PySem.W.fnOf "pairs_ahead" "pairs_ahead" (defArgs s_pairs_ahead) (defBody s_pairs_ahead) (defScope s_pairs_ahead) .none kV_h dc_h pm_h an_h cd_h ct_h),sl_h⟩) (c_h:PySem.W.codeIn K cd_h "pairs_ahead"=true) (k_h:PySem.W.keepIn K (.ref f_h)=true)
 {f_i:Addr} {od_i an_i:Option Addr} {sl_i:Array (Option Ni)} {oc_i kV_i dc_i pm_i cd_i ct_i:Ni}
 (a_i:PySem.W.nsIn K mainGlobals "common"=some (some (.ref f_i))) (l_i:K.lookup f_i=some ⟨oc_i,od_i,.func (PySem.W.fnOf "common" "common" (defArgs s_common) (defBody s_common) (defScope s_common) .none kV_i dc_i pm_i an_i cd_i ct_i),sl_i⟩) (c_i:PySem.W.codeIn K cd_i "common"=true) (k_i:PySem.W.keepIn K (.ref f_i)=true)
 {f_j:Addr} {od_j an_j:Option Addr} {sl_j:Array (Option Ni)} {oc_j kV_j dc_j pm_j cd_j ct_j:Ni}
 (a_j:PySem.W.nsIn K mainGlobals "_law_next"=some (some (.ref f_j))) (l_j:K.lookup f_j=some ⟨oc_j,od_j,.func (PySem.W.fnOf "_law_next" "_law_next" (defArgs s__law_next) (defBody s__law_next) (defScope s__law_next) .none kV_j dc_j pm_j an_j cd_j ct_j),sl_j⟩) (c_j:PySem.W.codeIn K cd_j "_law_next"=true) (k_j:PySem.W.keepIn K (.ref f_j)=true)
 {f_k:Addr} {od_k an_k:Option Addr} {sl_k:Array (Option Ni)} {oc_k kV_k dc_k pm_k cd_k ct_k:Ni}
 (a_k:PySem.W.nsIn K mainGlobals "_law_shortest"=some (some (.ref f_k))) (l_k:K.lookup f_k=some ⟨oc_k,od_k,.func (PySem.W.fnOf "_law_shortest" "_law_shortest" (defArgs s__law_shortest) (defBody s__law_shortest) (defScope s__law_shortest) .none kV_k dc_k pm_k an_k cd_k ct_k),sl_k⟩) (c_k:PySem.W.codeIn K cd_k "_law_shortest"=true) (k_k:PySem.W.keepIn K (.ref f_k)=true)
 {f_l:Addr} {od_l an_l:Option Addr} {sl_l:Array (Option Ni)} {oc_l kV_l dc_l pm_l cd_l ct_l:Ni}
 (a_l:PySem.W.nsIn K mainGlobals "_law_whole"=some (some (.ref f_l))) (l_l:K.lookup f_l=some ⟨oc_l,od_l,.func (PySem.W.fnOf "_law_whole" "_law_whole" (defArgs s__law_whole) (defBody s__law_whole) (defScope s__law_whole) .none kV_l dc_l pm_l an_l cd_l ct_l),sl_l⟩) (c_l:PySem.W.codeIn K cd_l "_law_whole"=true) (k_l:PySem.W.keepIn K (.ref f_l)=true)
 {f_m:Addr} {od_m an_m:Option Addr} {sl_m:Array (Option Ni)} {oc_m kV_m dc_m pm_m cd_m ct_m:Ni}
 (a_m:PySem.W.nsIn K mainGlobals "_law_taken"=some (some (.ref f_m))) (l_m:K.lookup f_m=some ⟨oc_m,od_m,.func (PySem.W.fnOf "_law_taken" "_law_taken" (defArgs s__law_taken) (defBody s__law_taken) (defScope s__law_taken) .none kV_m dc_m pm_m an_m cd_m ct_m),sl_m⟩) (c_m:PySem.W.codeIn K cd_m "_law_taken"=true) (k_m:PySem.W.keepIn K (.ref f_m)=true)
 {f_n:Addr} {od_n an_n:Option Addr} {sl_n:Array (Option Ni)} {oc_n kV_n dc_n pm_n cd_n ct_n:Ni}
 (a_n:PySem.W.nsIn K mainGlobals "_law_right"=some (some (.ref f_n))) (l_n:K.lookup f_n=some ⟨oc_n,od_n,.func (PySem.W.fnOf "_law_right" "_law_right" (defArgs s__law_right) (defBody s__law_right) (defScope s__law_right) .none kV_n dc_n pm_n an_n cd_n ct_n),sl_n⟩) (c_n:PySem.W.codeIn K cd_n "_law_right"=true) (k_n:PySem.W.keepIn K (.ref f_n)=true)
 {f_o:Addr} {od_o an_o:Option Addr} {sl_o:Array (Option Ni)} {oc_o kV_o dc_o pm_o cd_o ct_o:Ni}
 (a_o:PySem.W.nsIn K mainGlobals "law"=some (some (.ref f_o))) (l_o:K.lookup f_o=some ⟨oc_o,od_o,.func (PySem.W.fnOf "law" "law" (defArgs s_law) (defBody s_law) (defScope s_law) .none kV_o dc_o pm_o an_o cd_o ct_o),sl_o⟩) (c_o:PySem.W.codeIn K cd_o "law"=true) (k_o:PySem.W.keepIn K (.ref f_o)=true)
 (z_bool:PySem.W.nsIn K mainGlobals "bool"=some none)
 (z_dict:PySem.W.nsIn K mainGlobals "dict"=some none)
 (z_int:PySem.W.nsIn K mainGlobals "int"=some none)
 (z_isinstance:PySem.W.nsIn K mainGlobals "isinstance"=some none)
 (z_len:PySem.W.nsIn K mainGlobals "len"=some none)
 (z_list:PySem.W.nsIn K mainGlobals "list"=some none)
 (z_range:PySem.W.nsIn K mainGlobals "range"=some none)
 (z_reversed:PySem.W.nsIn K mainGlobals "reversed"=some none)
 (z_set:PySem.W.nsIn K mainGlobals "set"=some none)
 (z_sorted:PySem.W.nsIn K mainGlobals "sorted"=some none)
 (z_tuple:PySem.W.nsIn K mainGlobals "tuple"=some none)
 : ∃ t:Tx KK mg,t.f_o=f_o:=
 ⟨⟨f_a,_,⟨aO (st:=s__law_cell_at) (U.look _ _ l_a (fun _ _ z=>nomatch z)) (U.code c_a) (U.keep l_a),(aO (st:=s__law_cell_at) (U.look _ _ l_a (fun _ _ z=>nomatch z)) (U.code c_a) (U.keep l_a)).binds (ps:=P__law_cell_at) fun _ _ _ _ _ _ us hl=>HS (Q:=fun us=>bindArgs _ ⟨us,[]⟩=pure (List.zip P__law_cell_at us)) hl fun _ _=>rfl,KP X G a_a⟩,
   f_b,_,⟨aO (st:=s__law_arrow) (U.look _ _ l_b (fun _ _ z=>nomatch z)) (U.code c_b) (U.keep l_b),(aO (st:=s__law_arrow) (U.look _ _ l_b (fun _ _ z=>nomatch z)) (U.code c_b) (U.keep l_b)).binds (ps:=P__law_arrow) fun _ _ _ _ _ _ us hl=>zT (Q:=fun us=>bindArgs _ ⟨us,[]⟩=pure (List.zip P__law_arrow us)) hl fun _ _ _ _=>rfl,KP X G a_b⟩,
   f_c,_,⟨aO (st:=s__law_drawn) (U.look _ _ l_c (fun _ _ z=>nomatch z)) (U.code c_c) (U.keep l_c),(aO (st:=s__law_drawn) (U.look _ _ l_c (fun _ _ z=>nomatch z)) (U.code c_c) (U.keep l_c)).binds (ps:=P__law_drawn) fun _ _ _ _ _ _ us hl=>zT (Q:=fun us=>bindArgs _ ⟨us,[]⟩=pure (List.zip P__law_drawn us)) hl fun _ _ _ _=>rfl,KP X G a_c⟩,
   f_d,_,⟨aO (st:=s__law_far) (U.look _ _ l_d (fun _ _ z=>nomatch z)) (U.code c_d) (U.keep l_d),(aO (st:=s__law_far) (U.look _ _ l_d (fun _ _ z=>nomatch z)) (U.code c_d) (U.keep l_d)).binds (ps:=P__law_far) fun _ _ _ _ _ _ us hl=>zT (Q:=fun us=>bindArgs _ ⟨us,[]⟩=pure (List.zip P__law_far us)) hl fun _ _ _ _=>rfl,KP X G a_d⟩,
   f_e,_,⟨aO (st:=s_arrows_from) (U.look _ _ l_e (fun _ _ z=>nomatch z)) (U.code c_e) (U.keep l_e),(aO (st:=s_arrows_from) (U.look _ _ l_e (fun _ _ z=>nomatch z)) (U.code c_e) (U.keep l_e)).binds (ps:=P_arrows_from) fun _ _ _ _ _ _ us hl=>B9 (Q:=fun us=>bindArgs _ ⟨us,[]⟩=pure (List.zip P_arrows_from us)) hl fun _=>rfl,KP X G a_e⟩,
   f_f,_,⟨aO (st:=s_marked) (U.look _ _ l_f (fun _ _ z=>nomatch z)) (U.code c_f) (U.keep l_f),(aO (st:=s_marked) (U.look _ _ l_f (fun _ _ z=>nomatch z)) (U.code c_f) (U.keep l_f)).binds (ps:=P_marked) fun _ _ _ _ _ _ us hl=>B9 (Q:=fun us=>bindArgs _ ⟨us,[]⟩=pure (List.zip P_marked us)) hl fun _=>rfl,KP X G a_f⟩,
   f_g,_,⟨aO (st:=s_standing_to) (U.look _ _ l_g (fun _ _ z=>nomatch z)) (U.code c_g) (U.keep l_g),(aO (st:=s_standing_to) (U.look _ _ l_g (fun _ _ z=>nomatch z)) (U.code c_g) (U.keep l_g)).binds (ps:=P_standing_to) fun _ _ _ _ _ _ us hl=>HS (Q:=fun us=>bindArgs _ ⟨us,[]⟩=pure (List.zip P_standing_to us)) hl fun _ _=>rfl,KP X G a_g⟩,
   f_h,_,⟨aO (st:=s_pairs_ahead) (U.look _ _ l_h (fun _ _ z=>nomatch z)) (U.code c_h) (U.keep l_h),(aO (st:=s_pairs_ahead) (U.look _ _ l_h (fun _ _ z=>nomatch z)) (U.code c_h) (U.keep l_h)).binds (ps:=P_pairs_ahead) fun _ _ _ _ _ _ us hl=>zT (Q:=fun us=>bindArgs _ ⟨us,[]⟩=pure (List.zip P_pairs_ahead us)) hl fun _ _ _ _=>rfl,KP X G a_h⟩,
   f_i,_,⟨aO (st:=s_common) (U.look _ _ l_i (fun _ _ z=>nomatch z)) (U.code c_i) (U.keep l_i),(aO (st:=s_common) (U.look _ _ l_i (fun _ _ z=>nomatch z)) (U.code c_i) (U.keep l_i)).binds (ps:=P_common) fun _ _ _ _ _ _ us hl=>FH (Q:=fun us=>bindArgs _ ⟨us,[]⟩=pure (List.zip P_common us)) hl fun _ _ _=>rfl,KP X G a_i⟩,
   f_j,_,⟨aO (st:=s__law_next) (U.look _ _ l_j (fun _ _ z=>nomatch z)) (U.code c_j) (U.keep l_j),(aO (st:=s__law_next) (U.look _ _ l_j (fun _ _ z=>nomatch z)) (U.code c_j) (U.keep l_j)).binds (ps:=P__law_next) fun _ _ _ _ _ _ us hl=>zT (Q:=fun us=>bindArgs _ ⟨us,[]⟩=pure (List.zip P__law_next us)) hl fun _ _ _ _=>rfl,KP X G a_j⟩,
   f_k,_,⟨aO (st:=s__law_shortest) (U.look _ _ l_k (fun _ _ z=>nomatch z)) (U.code c_k) (U.keep l_k),(aO (st:=s__law_shortest) (U.look _ _ l_k (fun _ _ z=>nomatch z)) (U.code c_k) (U.keep l_k)).binds (ps:=P__law_shortest) fun _ _ _ _ _ _ us hl=>FH (Q:=fun us=>bindArgs _ ⟨us,[]⟩=pure (List.zip P__law_shortest us)) hl fun _ _ _=>rfl,KP X G a_k⟩,
   f_l,_,⟨aO (st:=s__law_whole) (U.look _ _ l_l (fun _ _ z=>nomatch z)) (U.code c_l) (U.keep l_l),(aO (st:=s__law_whole) (U.look _ _ l_l (fun _ _ z=>nomatch z)) (U.code c_l) (U.keep l_l)).binds (ps:=P__law_whole) fun _ _ _ _ _ _ us hl=>B9 (Q:=fun us=>bindArgs _ ⟨us,[]⟩=pure (List.zip P__law_whole us)) hl fun _=>rfl,KP X G a_l⟩,
   f_m,_,⟨aO (st:=s__law_taken) (U.look _ _ l_m (fun _ _ z=>nomatch z)) (U.code c_m) (U.keep l_m),(aO (st:=s__law_taken) (U.look _ _ l_m (fun _ _ z=>nomatch z)) (U.code c_m) (U.keep l_m)).binds (ps:=P__law_taken) fun _ _ _ _ _ _ us hl=>FH (Q:=fun us=>bindArgs _ ⟨us,[]⟩=pure (List.zip P__law_taken us)) hl fun _ _ _=>rfl,KP X G a_m⟩,
   f_n,_,⟨aO (st:=s__law_right) (U.look _ _ l_n (fun _ _ z=>nomatch z)) (U.code c_n) (U.keep l_n),(aO (st:=s__law_right) (U.look _ _ l_n (fun _ _ z=>nomatch z)) (U.code c_n) (U.keep l_n)).binds (ps:=P__law_right) fun _ _ _ _ _ _ us hl=>Jt (Q:=fun us=>bindArgs _ ⟨us,[]⟩=pure (List.zip P__law_right us)) hl fun _ _ _ _ _=>rfl,KP X G a_n⟩,
   f_o,_,⟨aO (st:=s_law) (U.look _ _ l_o (fun _ _ z=>nomatch z)) (U.code c_o) (U.keep l_o),(aO (st:=s_law) (U.look _ _ l_o (fun _ _ z=>nomatch z)) (U.code c_o) (U.keep l_o)).binds (ps:=P_law) fun _ _ _ _ _ _ us hl=>B9 (Q:=fun us=>bindArgs _ ⟨us,[]⟩=pure (List.zip P_law us)) hl fun _=>rfl,KP X G a_o⟩,
   KG X G z_bool,
   KG X G z_dict,
   KG X G z_int,
   KG X G z_isinstance,
   KG X G z_len,
   KG X G z_list,
   KG X G z_range,
   KG X G z_reversed,
   KG X G z_set,
   KG X G z_sorted,
   KG X G z_tuple⟩,rfl⟩
theorem FI {l:PySem.W.OpenLaw} {w:World} {K:Ng} {mg:Str->Option Ni} {fa:Addr} (hfa:mg "law"=some (.ref fa)) (T:∃ t:Tx K mg,True) :
 ∃ fd:FuncData,(∀(s:Nf)(v:Ni),BindsTo s fd ⟨[v],[]⟩ [("_law_script",v)])/\∀ base:Heap,FnOk l.prog w K mg base j9 4 fa fd ["_law_script"] (Iv ol):=by
 obtain⟨t,_⟩:=T;have e:=hfa.symm.trans t.h_o.gl;cases e;obtain⟨oc,od,kV,doc,pm,an,cdv,ct,osl,efd,lk,hcd⟩:=t.h_o.fu.ex;exact⟨t.fd_o,fun s v=>by rw[efd];exact .of_eq rfl,fun base=>FnOk.top (FG t)⟩
end W
namespace L3
open PySem L2
theorem sD (fa:En->Res R)(fl fh fs:En->Res (Option Int))(env:En):kW fa fl fh fs env=(fa env).bind fun r=>(fl env).bind fun lo=>(fh env).bind fun hi=>(fs env).bind fun st=>i9 r lo hi st:=(rfl)
theorem vD {xs:List D}{f:Bool}{al:List Nat}{lo hi st:Option Int}(h:st≠some 0):i9 (.val (.lst xs) f al) lo hi st=.ok (jC (b7 xs lo hi st) f al):=J0 h
theorem HV {i:Nat}{env:En}{ds:List D}{fr:Bool}(h:env[i]?=some (some (.own ds fr))):wH i env=.ok (.nx (env.set i (some (.own ds.reverse fr)))):=by unfold wH;rw[h]
theorem vE {i:Nat}{env:En}{ds:List D}{fr:Bool}(h:env[i]?=some (some (.own ds fr))):gJ i env=.ok (.rm (.new ds fr) (env.set i none)):=by unfold gJ;rw[h]
theorem B_ {i:Nat}{fk fv:En->Res R}{env:En}{ks:List DK}{ds:List D}(h:env[i]?=some (some (.fix 1 (.tr (.dic ks ds))))):nU i fk fv env=(fv env).bind (lY (fun d=>.fix 1 (.tr d)) i fk env ks ds):=by unfold nU;rw[h];simp only[]
theorem zU {mk:D->Sl}{i:Nat}{fk:En->Res R}{env:En}{ks:List DK}{ds:List D}{r:R}(h:r.d.flat=true):lY mk i fk env ks ds r=(fk env).bind (lX mk i env ks ds r.d):=JW h
theorem zV {mk:D->Sl}{i:Nat}{env:En}{ks:List DK}{ds:List D}{d:D}{k:R}{x:DK}(h:keyX k.d=some x)(h2:ks.all (kin x)=true)(h3:ks.length<lim):lX mk i env ks ds d k=.ok (.nx (env.set i (some (mk (bZ ks ds x d))))):=by unfold lX;rw[h];exact JW ⟨h2,h3⟩
theorem HW {ic is ir:Nat}{f:En->Res Fl}{env:En}{ks k2:List DK}{ds d2:List D}{x:Int}{fx:Bool}(h1:env[ic]?=some (some (.fix 0 (.ds (.dic ks ds)))))(h2:env[is]?=some (some (.val (.int x) fx)))(h3:ic≠ir)(h4:env[ir]?=some none)(h5:env.all cA=true)(h6:ks.all (kin (ik x))=true)(h7:ks.length<lim)(h8:ds.all Bo=true)
 (h9:mh ks ds (ik x)=some (.dic k2 d2)):yR ic is ir f env=wI ic ir (fY ks ds (ik x)) (f (fZ ic ir env (.dic k2 d2))):=by
 unfold yR;rw[h1];simp only[];rw[h2];simp only[];rw[JW ⟨h3,by rw[h4];rfl,h5,h6,h7,h8⟩,h9]
theorem FJ {ic ir:Nat}{mk:D->D}{env:En}{ks:List DK}{ds:List D}(h1:env[ir]?=some (some (.fix 1 (.tr (.dic ks ds)))))(h2:D.flats ds=true)(h3:env[ic]?=some (some (.fix 0 .no)))(h4:(env.set ir none).all cA=true):wI ic ir mk (.ok (.nx env))=.ok (.nx ((env.set ir none).set ic (some (.fix 0 (.ds (mk (.dic ks ds))))))):=by unfold wI;simp only[];rw[h1];simp only[];rw[JW ⟨h2,by rw[h3];rfl,h4⟩]
theorem FK {n:Nat}{es:List D}{f:Bool}{env:En}{x:D}(h:D.flats es=true)(h2:env[n]?=some (some (.fix 0 (.ds x)))):yT n (.ok (.rm (.new es f) env))=.ok (es,x):=by unfold yT;simp only[wD];rw[JW h,h2];simp only[]
theorem Ca (i j:Nat)(F:List D->D->Res (List D×D))(fs:En->Res (List R))(env:En):pP i j F fs env=(fs env).noX.bind (jQ i j F env):=(rfl)
theorem zW {i j:Nat}{F:List D->D->Res (List D×D)}{env:En}{rs:List R}{x y:D}{es:List D}(h:env[j]?=some (some (.dis x)))(h1:¬ j∈bc rs)(h2:i≠j)(h3:i<env.length)(hF:F (rs.map R.d) x=.ok (es,y)):jQ i j F env rs=.ok (.nx ((env.set j (some (.dis y))).set i (some (.own es true)))):=by unfold jQ;rw[h];dsimp only;rw[JW ⟨h1,h2,h3⟩,hF]
theorem Cb {i:Nat}{src:En->Res Src}{env:En}{s:Src}{is:List Int}(h:src env=.ok s)(hx:s.xs=is.map .int)(h1:is.Nodup)(h2:is.length<=lim)(h3:i<env.length):jR i src env=.ok (.nx (env.set i (some (.dis (.dic (is.map ik) (is.map fun x=>.dic [ik x] [.non])))))):=by unfold jR;rw[h,Res.bind_ok,hx,jU];exact JW ⟨h1,h2,h3⟩
end L3
namespace W
open PySem L2 L3
theorem k9 (ns:List Int)(k:Int)(h0:0<=k)(h1:-18446744073709551616<k)(h2:k<18446744073709551616):aH [.lst (ns.map .int),.int k]=.ok (.val (.int (cell ns k)) true []):=by
 by_cases h:k<ns.length
 .have hd:decide (k<(ns.length:Int))=true:=Kk h;obtain⟨a,ea,_⟩:=FF h0 h;have ha:atI (ns.map D.int) k=some (.int a):=by rw[B8,ea];rfl
  simp_arith[aH,dU,JU,hd,ha,h1,h2];unfold cell;rw[JW h,ea];rfl
 .have hd:decide (k<(ns.length:Int))=false:=Kr h;simp_arith[aH,dU,JU,hd];unfold cell;rw[J0 h]
theorem C8 (ns:List Int):aH [.lst (ns.map .int),.int 0]=.ok (.val (.int (cell ns 0)) true []):=k9 ns 0 (by decide) (by decide) (by decide)
theorem HX (ns:List Int):aH [.lst (ns.map .int),.int 1]=.ok (.val (.int (cell ns 1)) true []):=k9 ns 1 (by decide) (by decide) (by decide)
theorem HY (ns:List Int):aH [.lst (ns.map .int),.int 2]=.ok (.val (.int (cell ns 2)) true []):=k9 ns 2 (by decide) (by decide) (by decide)
theorem HZ (ns:List Int):aH [.lst (ns.map .int),.int 3]=.ok (.val (.int (cell ns 3)) true []):=k9 ns 3 (by decide) (by decide) (by decide)
noncomputable def tD (t:Tri):D:=.tup [.int t.1,.int t.2.1,.int t.2.2]
theorem Cc (t:Tri):(tD t).flat=true:=(rfl)
theorem FL (t:Tri):(tD t).dep<=1:=J1 _
noncomputable def dg (c n g low:Int):Tri:=
 let c:=(c % 2147483587+7)*16807 % 2147483587
 (c % n,c / n % g,low+c / n / g % (n-low))
theorem zX (c n g low:Int)(h1:0<n)(h2:n<1073741824)(h3:0<g)(h4:g<1073741824)(h5:0<n-low):dv [.int c,.int n,.int g,.int low]=.ok (.val (tD (dg c n g low)) true []):=by simp_arith[dv,jf,h1,h2,h3,h4,h5];rfl
def Mc (n:Int)(ts:List Tri)(es:List Int):D:=.tup [.int n,.lst (ts.map tD),.lst (es.map .int)]
theorem cK (n:Int)(ts:List Tri)(es:List Int):(Mc n ts es).flat=false:=by unfold Mc;simp only[jb,dS,gL,jc,M8,LO]
noncomputable def C9:List Int->Tri
 | [a,b,c]=>(a,b,c)
 |_=>(0,0,0)
noncomputable def wW (t:Tri):List Int:=[t.1,t.2.1,t.2.2]
theorem vF (k:List Int):∀ l,(mV k l).length<=l.length+1
 | []=>by simp[mV]
 |h::t=>by
  have:=vF k t;unfold mV;split
  .simp
  .split<;>simp<;>omega
theorem sE:∀ ks,(eL ks).length<=ks.length
 | []=>J1 _
 |k::r=>by have h1:=vF k (eL r);have h2:=sE r;unfold eL;simp only[KD];omega
def b6 (ts:List Tri):List Tri:=(eL (ts.map wW)).map C9
theorem mE (ts:List Tri):(b6 ts).length<=ts.length:=by have:=sE (ts.map wW);unfold b6;rw[JU];rw[JU]at this;exact this
theorem Cd (ts:List Tri):(eL (ts.map wW)).map rO=(b6 ts).map tD:=by unfold b6;rw[Kl];refine K4 fun k hk=>?_;obtain⟨t,_,rfl⟩:=J8.mp ((dQ k _).mp hk);rfl
theorem zY (ts:List Tri)(h:ts.length<=63)(f:Bool)(al:List Nat):Eu (.val (.lst (ts.map tD)) f al)=.ok (.new ((b6 ts).map tD) true):=by
 have e:(R.val (.lst (ts.map tD)) f al).d=.lst ((ts.map wW).map rO):=by rw[bW,Kl];rfl
 rw[Fy e (by rw[JU];exact h) (by rw[Nd,KJ];intro t _;rfl),Cd]
theorem mF {e0 e1 e6 e7 e8:Option Sl}{ro sg own low:Int}{g1 g2 g4 g5 fr:Bool}(h1:0<ro+own)(h2:ro+own<1073741824)(h3:0<sg)(h4:sg<1073741824)(h5:0<ro+own-low)(xs:List Int)(hl:xs.length<=1000000) :
 kq 1 [2,3,4,5] (gN 0) (fun _=>.ok true) bu [e0,e1,some (.val (.int ro) g1),some (.val (.int sg) g2),some (.val (.int own) g4),some (.val (.int low) g5),e6,e7,e8] ⟨xs.map .int,fr,[]⟩=.ok (.new ((xs.map fun c=>dg c (ro+own) sg low).map tD) true):=by
 have h:=g9 (mk:=fun d=>gN 0 d fr (fw [e0,e1,some (.val (.int ro) g1),some (.val (.int sg) g2),some (.val (.int own) g4),some (.val (.int low) g5),e6,e7,e8] 1 [2,3,4,5])) (test:=fun _=>.ok true)
  (elt:=bu) D.int (fun c=>.val (tD (dg c (ro+own) sg low)) true []) xs fun c hc=>⟨_,rfl,rfl,by show bu [some (.val (.int c) fr),some (.val (.int ro) g1),some (.val (.int sg) g2),some (.val (.int own) g4),some (.val (.int low) g5)]=_;simp_arith[bu,zX,h1,h2,h3,h4,h5,Cc]⟩
 rw[ja (by rw[JU];exact hl) h,sw,gO,Kl];rw[gK (cw _ _ fun c=>rfl)];rfl
noncomputable def C_ (bits:Int)(k:Nat):Bool:=Builtin.bitAnd (bits / 2 ^ ((k:Int)).toNat) 1==1
def iC (bits:Int)(n:Nat):List Int:=((List.range n).filter (C_ bits)).map fun k=>((k:Nat):Int)
theorem zZ (bits:Int)(n:Nat):(iC bits n).length<=n:=by unfold iC;rw[JU];exact Ky (Lz _ _) (by rw[Lr];exact J1 _)
theorem Ce (bits:Int)(n:Nat):∀ e∈iC bits n,0<=e/\e<n:=fun e he=>by unfold iC at he;obtain⟨k,hk,rfl⟩:=J8.mp he;have:=Kv.mp (KS.mp hk).1;omega
theorem oq {e0 e1 e2 e3 e4 e5 e6 e8:Option Sl}{bits:Int}{g fr:Bool}(n:Nat)(hn:n<=1000000) :
 kq 1 [7] (gN 0) bv bw [e0,e1,e2,e3,e4,e5,e6,some (.val (.int bits) g),e8] ⟨dN 0 n,fr,[]⟩=.ok (.new ((iC bits n).map .int) true):=by
 have h:=f_ (mk:=fun d=>gN 0 d fr (fw [e0,e1,e2,e3,e4,e5,e6,some (.val (.int bits) g),e8] 1 [7])) (test:=bv)
  (elt:=bw) (fun k:Nat=>D.int k) (C_ bits) (fun k=>.val (.int k) true []) (List.range n) fun k hk=>⟨_,rfl,by
    show bv [some (.val (.int (k:Nat)) fr),some (.val (.int bits) g)]=_;have hp:(0:Int)<=((k:Nat):Int):=by omega
    simp_arith[bv,hp,iB];rfl,fun _=>by
    show bw [some (.val (.int (k:Nat)) fr),some (.val (.int bits) g)]=_;simp_arith[bw]⟩
 rw[k7,ja (by rw[JU,Lr];exact hn) h,sw,gO,gK (cw _ _ fun c=>rfl)];unfold iC;rw[Kl];rfl
theorem sF {α β:Type}(g:α->β)(xs:List α)(lo hi st:Option Int):b7 (xs.map g) lo hi st=(b7 xs lo hi st).map g:=by unfold b7;rw[JU,List.map_filterMap];congr 1;funext i;rw[J9]
theorem sG {α:Type}(xs:List α)(a:Int)(h1:4<=a)(h2:a<=5):(b7 xs (some a) (some 64) (some 2)).length<=30:=by
 unfold b7;refine Ky (List.length_filterMap_le _ _) ?_;generalize xs.length=n;unfold sliceRange sliceBounds;simp only[JU,Lr,Option.getD_some,show((2:Int)>0)=True from eq_true (by decide),Me];have h3:¬ a<0:=by omega
 have h4:¬ (64:Int)<0:=by omega
 simp only[h3,h4,KR];split<;>omega
theorem z4 (c n g low:Int)(h1:0<n)(h3:0<g)(h0:0<=low)(h5:0<n-low):0<=(dg c n g low).1/\(dg c n g low).1<n/\0<=(dg c n g low).2.1/\(dg c n g low).2.1<g/\0<=(dg c n g low).2.2/\(dg c n g low).2.2<n:=by
 unfold dg;refine⟨LD _ (by omega),Li _ h1,LD _ (by omega),Li _ h3,?_,?_⟩
 .have:=LD ((c % 2147483587+7)*16807 % 2147483587 / n / g) (show n-low≠0 by omega);simp only[];omega
 .have:=Li ((c % 2147483587+7)*16807 % 2147483587 / n / g) h5;simp only[];omega
structure MOk (n sg:Int) (ts:List Tri) (es:List Int):Prop where
 arr:∀ t∈ts,0<=t.1/\t.1<n/\0<=t.2.1/\t.2.1<sg/\0<=t.2.2/\t.2.2<n
 nd:ts.Nodup
 ends:∀ e∈es,0<=e/\e<n
theorem gc (t:Tri):C9 (wW t)=t:=by obtain⟨a,b,c⟩:=t;rfl
theorem sH (ts:List Tri)(t:Tri):t∈b6 ts↔t∈ts:=by
 unfold b6;constructor
 .intro h;obtain⟨l,hl,rfl⟩:=J8.mp h;obtain⟨u,hu,rfl⟩:=J8.mp ((dQ l _).mp hl);rw[gc];exact hu
 .intro h;exact J8.mpr ⟨wW t,(dQ _ _).mpr (J8.mpr ⟨t,h,rfl⟩),gc t⟩
theorem cz {α β:Type}(f:α->β):∀{l:List α},l.Nodup->(∀ a∈l,∀ b∈l,f a=f b->a=b)->(l.map f).Nodup
 | [],_,_=>by simp
 |a::r,h,hi=>by have h':=K1.mp h;rw[J4,K1];refine⟨fun hm=>?_,cz f h'.2 fun x hx y hy=>hi x (by simp[hx]) y (by simp[hy])⟩;obtain⟨b,hb,e⟩:=J8.mp hm;exact h'.1 (hi b (by simp[hb]) a (by simp) e▸hb)
theorem iD (ts:List Tri):(b6 ts).Nodup:=by
 unfold b6;refine cz _ ((pK _).imp fun{a b} h e=>?_) fun a ha b hb e=>?_
 .subst e;rw[fO]at h;cases h
 .obtain⟨u,_,rfl⟩:=J8.mp ((dQ a _).mp ha);obtain⟨v,_,rfl⟩:=J8.mp ((dQ b _).mp hb);rw[gc,gc]at e;rw[e]
theorem sI (xs:List Int)(hl:xs.length<=30)(pick ro sg:Int)(hp:0<=pick)(h1:0<ro)(h2:ro<=8)(h3:0<sg)(h4:sg<=40) :
 ∃ n ts es al,ro<=n/\n<=ro+3/\ts.length<=30/\es.length<=11/\MOk n sg ts es/\bB [.lst (xs.map .int),.int pick,.int ro,.int sg]=.ok (.val (Mc n ts es) true al):=by
 have bO:xs.length<=1000000:=by omega
 have hfl:D.flats (List.map D.int xs)=true:=cp _;have hkss:∀(n low:Int) f al,Eu (.val (.lst ((xs.map fun c=>dg c n sg low).map tD)) f al)=.ok (.new ((b6 (xs.map fun c=>dg c n sg low)).map tD) true):=fun n low f al=>zY _ (by rw[JU];omega) f al;have hal:∀ n low,(b6 (xs.map fun c=>dg c n sg low)).length<=30:=fun n low=>Ky (mE _) (by rw[JU];omega);have s3:sg<1073741824:=by omega
 have key:∀ own low:Int,0<=own->own<=3->0<=low->0<ro+own-low->
  ∃ n ts es al,ro<=n/\n<=ro+3/\ts.length<=30/\es.length<=11/\MOk n sg ts es/\df (
  (aD (aP 6 (cM 1 [2,3,4,5] (fq (ag 0)) (gN 0) (fun _=>.ok true) bu))
  (aD (aP 7 (v2 gp (ag 1) (vC (.int 8))))
  (aD (aP 8 (cM 1 [7] (w6 (aj (v2 cC (ag 2) (ag 4)) az)) (gN 0) bv bw))
  (aD (pC (vB (v2 mQ (v2 c6 (v2 gp (ag 1) (vC (.int 4))) (vC (.int 3))) (vC (.int 1)))) (aP 8 (iq (aj (v2 c6 (ag 7) (v2 cC (ag 2) (ag 4))) az))) fS)
  (cN (fm (aj (v2 cC (ag 2) (ag 4)) (aj (G2 (ag 6)) (aj (ag 8) az))))))))) [some (.val (.lst (xs.map .int)) false),some (.val (.int pick) false),some (.val (.int ro) false),some (.val (.int sg) false),some (.val (.int own) true),some (.val (.int low) true),none,none,none])=.ok (.val (Mc n ts es) true al):=by
  intro own low ho1 ho2 hlo ho3;have b1:0<ro+own:=by omega
  have b2:ro+own<1073741824:=by omega
  have m1:-4611686018427387904<=ro+own:=by omega
  have m2:ro+own<4611686018427387904:=by omega
  have hn:(ro+own).toNat<=1000000:=by omega
  have b0:ro+own≠0:=by omega
  have arr:∀ t∈b6 (xs.map fun c=>dg c (ro+own) sg low),0<=t.1/\t.1<ro+own/\0<=t.2.1/\t.2.1<sg/\0<=t.2.2/\t.2.2<ro+own:=fun t ht=>by obtain⟨c,_,rfl⟩:=J8.mp ((sH _ t).mp ht);exact z4 c _ _ _ b1 h3 hlo ho3
  by_cases c1:pick / 4 % 3=1
  .have hb:(pick / 4 % 3==1)=true:=by rw[c1];rfl
   refine⟨ro+own,b6 (xs.map fun c=>dg c (ro+own) sg low),[pick / 8 % (ro+own)],?_,by omega,by omega,hal _ _,by simp,⟨arr,iD _,fun e he=>?_⟩,?_⟩
   rotate_left
   .have:e=pick / 8 % (ro+own):=by simpa using he
    subst this;exact⟨LD _ b0,Li _ b1⟩
   .simp_arith[hfl,mF b1 b2 h3 s3 ho3 _ bO,hkss,oq _ hn,oa,m1,m2,cp,iB,hb,b0,b1,b2];rfl
  .have hb:(pick / 4 % 3==1)=false:=by simpa using c1
   refine⟨ro+own,b6 (xs.map fun c=>dg c (ro+own) sg low),iC (pick / 8) (ro+own).toNat,?_,by omega,by omega,hal _ _,Ky (zZ _ _) (by omega),⟨arr,iD _,fun e he=>?_⟩,?_⟩
   rotate_left
   .have:=Ce _ _ e he;omega
   .simp_arith[hfl,mF b1 b2 h3 s3 ho3 _ bO,hkss,oq _ hn,oa,m1,m2,cp,iB,hb];rfl
 by_cases c2:pick / 4 % 2=0
 .have hb2:(pick / 4 % 2==0)=true:=by rw[c2];rfl
  by_cases c3:0<pick % 4
  .have hb3:decide (0<pick % 4)=true:=Kk c3;obtain⟨n,ts,es,al,q1,q2,q3,q4,q5,p3⟩:=key (pick % 4) ro (by omega) (by omega) (by omega) (by omega);refine⟨n,ts,es,al,q1,q2,q3,q4,q5,?_⟩;rw[<- p3];simp_arith[bB,dA,iB,hb2,hb3]
  .have hb3:decide (0<pick % 4)=false:=Kr c3;obtain⟨n,ts,es,al,q1,q2,q3,q4,q5,p3⟩:=key (pick % 4) 0 (by omega) (by omega) (by omega) (by omega);refine⟨n,ts,es,al,q1,q2,q3,q4,q5,?_⟩;rw[<- p3];simp_arith[bB,dA,iB,hb2,hb3]
 .have hb2:(pick / 4 % 2==0)=false:=by simpa using c2
  obtain⟨n,ts,es,al,q1,q2,q3,q4,q5,p3⟩:=key (pick % 4) 0 (by omega) (by omega) (by omega) (by omega);refine⟨n,ts,es,al,q1,q2,q3,q4,q5,?_⟩;rw[<- p3];simp_arith[bB,dA,iB,hb2]
noncomputable def kI (n sign:Int)(p:List Tri×Int)(k:Nat):List Tri×Int:=(p.1++[(p.2,sign,n+(k:Int))],n+(k:Int))
def e_ (n sign:Int)(ts:List Tri)(s:Int)(ks:List Nat):List Tri×Int:=ks.foldl (kI n sign) (ts,s)
theorem wX (n sign:Int)(ts:List Tri)(s:Int)(ks:List Nat)(k:Nat):e_ n sign ts s (ks++[k])=kI n sign (e_ n sign ts s ks) k:=by unfold e_;rw[MA];rfl
theorem jo (n sign:Int)(s:Int):∀(ks:List Nat)(ts:List Tri),(e_ n sign ts s ks).1.length=ts.length+ks.length:=fun ks=>by
 suffices h:∀(ks:List Nat)(p:List Tri×Int),(ks.foldl (kI n sign) p).1.length=p.1.length+ks.length from fun ts=>h ks (ts,s)
 intro ks;induction ks with
 |nil=>intro p;rfl
 |cons k r ih=>intro p;rw[K_,ih];unfold kI;simp;omega
theorem z5 {n start sign many:Int}{ts0 ts:List Tri}{es:List Int}(m:Nat)(hm:m<=20)(hts:ts.length<=30)(s:Int){g0 fr:Bool}{e6:Option Sl}(hn:0<=n)(hn2:n<=100) :
 ∃ bf,bx (gN 6) fr dB ((List.range m).map fun k=>.int (k:Nat)) [some (.val (Mc n ts0 es) false),some (.val (.int start) false),some (.val (.int sign) false),some (.val (.int many) false),some (.own (ts.map tD) true),some (.val (.int s) g0),e6]=.ok (.nx bf)/\
  ∃ g e,bf=[some (.val (Mc n ts0 es) false),some (.val (.int start) false),some (.val (.int sign) false),some (.val (.int many) false),some (.own ((e_ n sign ts s (List.range m)).1.map tD) true),some (.val (.int (e_ n sign ts s (List.range m)).2) g),e]:=by
 refine cV (fun k:Nat=>D.int (k:Nat)) (List.range m) (fun pre env=>∃ g e,env=[some (.val (Mc n ts0 es) false),some (.val (.int start) false),some (.val (.int sign) false),some (.val (.int many) false),some (.own ((e_ n sign ts s pre).1.map tD) true),some (.val (.int (e_ n sign ts s pre).2) g),e]) (List.range m) [] _ rfl ⟨g0,e6,rfl⟩ ?_;rintro pre post k env hall ⟨g,e,rfl⟩;have hpl:pre.length<m:=by have:=KQ List.length hall;simp at this;omega
 have bO:((e_ n sign ts s pre).1.map tD).length<1000000:=by rw[JU,jo];omega
 have hkm:k<m:=Kv.mp (by rw[hall];simp);have a1:-4611686018427387904<=n+(k:Int):=by omega
 have a2:n+(k:Int)<4611686018427387904:=by omega
 refine⟨[some (.val (Mc n ts0 es) false),some (.val (.int start) false),some (.val (.int sign) false),some (.val (.int many) false),some (.own ((e_ n sign ts s pre).1.map tD) true),some (.val (.int (e_ n sign ts s pre).2) g),some (.val (.int (k:Nat)) fr)],
  [some (.val (Mc n ts0 es) false),some (.val (.int start) false),some (.val (.int sign) false),some (.val (.int many) false),some (.own ((kI n sign (e_ n sign ts s pre) k).1.map tD) true),some (.val (.int (kI n sign (e_ n sign ts s pre) k).2) true),some (.val (.int (k:Nat)) fr)],rfl,?_,true,some (.val (.int (k:Nat)) fr),by rw[wX]⟩
 generalize e_ n sign ts s pre=q at bO ⊢;have e1:(kI n sign q k).1.map tD=q.1.map tD++[.tup [.int q.2,.int sign,.int (n+(k:Int))]]:=by unfold kI;rw[Ki];rfl
 rw[e1];show dB _=.ok (.nx [_,_,_,_,_,some (.val (.int (n+(k:Int))) true),_]);simp_arith[dB,Mc,pT bO,a1,a2]
theorem jZ (ts:List Tri):D.flats (ts.map tD)=true:=cw _ _ fun _=>rfl
theorem z6 (n start sign:Int)(m:Nat)(hm:m<=20)(ts:List Tri)(es:List Int)(hts:ts.length<=30)(hn:0<=n)(hn2:n<=100) :
 ∃ al,dW [Mc n ts es,.int start,.int sign,.int (m:Nat)]=.ok (.val (Mc (n+(m:Int)) (b6 (e_ n sign ts start (List.range m)).1) [(e_ n sign ts start (List.range m)).2]) true al):=by
 obtain⟨bf,hf,g,e,rfl⟩:=z5 (start:=start) (sign:=sign) (many:=(m:Int)) (ts0:=ts) (ts:=ts) (es:=es) m hm hts start (g0:=true) (fr:=true) (e6:=none) hn hn2;have bO:(e_ n sign ts start (List.range m)).1.length<=63:=by rw[jo,Lr];omega
 have hk:=fun f al=>zY (e_ n sign ts start (List.range m)).1 bO f al;have m1:-4611686018427387904<=(m:Int):=by omega
 have m2:(m:Int)<4611686018427387904:=by omega
 have mt:((m:Nat):Int).toNat=m:=rfl;have fl:=jZ ts;have hl3:(List.range m).length<=1000000:=by rw[Lr];omega
 unfold Mc at hf ⊢;refine⟨?_,?_⟩
 rotate_left
 .simp_arith[dW,mw,vo,jV,pS,fl,oa,m1,m2,k7,hf,hk,mt];rfl
theorem z7 (n sign sg:Int)(hn:0<n)(h1:0<=sign)(h2:sign<sg)(m:Nat):∀(ks:List Nat)(p:List Tri×Int),(∀ k∈ks,k<m)->0<=p.2->p.2<n+(m:Int)->(∀ t∈p.1,0<=t.1/\t.1<n+(m:Int)/\0<=t.2.1/\t.2.1<sg/\0<=t.2.2/\t.2.2<n+(m:Int))->
 (∀ t∈(ks.foldl (kI n sign) p).1,0<=t.1/\t.1<n+(m:Int)/\0<=t.2.1/\t.2.1<sg/\0<=t.2.2/\t.2.2<n+(m:Int))/\0<=(ks.foldl (kI n sign) p).2/\(ks.foldl (kI n sign) p).2<n+(m:Int)
 | [],p,_,a,b,c=>⟨c,a,b⟩
 |k::r,p,hk,a,b,c=>by
  have hkm:=hk k (by simp);rw[K_];refine z7 n sign sg hn h1 h2 m r _ (fun j hj=>hk j (by simp[hj])) ?_ ?_ fun t ht=>?_
  .show 0<=n+(k:Int);omega
  .show n+(k:Int)<n+(m:Int);omega
  .unfold kI at ht;rcases Kf.mp ht with ht|ht
   .exact c t ht
   .have:t=(p.2,sign,n+(k:Int)):=by simpa using ht
    subst this;exact⟨a,b,h1,h2,by show 0<=n+(k:Int);omega,by show n+(k:Int)<n+(m:Int);omega⟩
theorem MOk.far {n sg:Int}{ts:List Tri}{es:List Int}(M:MOk n sg ts es)(hn:0<n){start sign:Int}(h1:0<=sign)(h2:sign<sg)(h3:0<=start)(h4:start<n)(m:Nat):MOk (n+(m:Int)) sg (b6 (e_ n sign ts start (List.range m)).1) [(e_ n sign ts start (List.range m)).2]:=by
 obtain⟨q1,q2,q3⟩:=z7 n sign sg hn h1 h2 m (List.range m) (ts,start) (fun k hk=>Kv.mp hk) h3 (by show start<n+(m:Int);omega) fun t ht=>by obtain⟨a,b,c,d,e,f⟩:=M.arr t ht;exact⟨a,by omega,c,d,e,by omega⟩
 refine⟨fun t ht=>q1 t ((sH _ t).mp ht),iD _,fun e he=>?_⟩;have:e=(e_ n sign ts start (List.range m)).2:=by simpa using he
 subst this;exact⟨q2,q3⟩
def iE (ts:List Tri):Int->List Int->Int->Prop
 |s,[],e=>s=e
 |s,c::st,e=>∃ m,(s,c,m)∈ts/\iE ts m st e
theorem qu (ts:List Tri)(x y z:Int):z∈g3 ts x y↔(x,y,z)∈ts:=by
 unfold g3;rw[J8];constructor
 .rintro⟨⟨a,b,c⟩,h,rfl⟩;rw[KS,Kh,Kx,Kx]at h;obtain⟨h1,h2,h3⟩:=h;dsimp only at h2 h3 ⊢;rw[<- h2,<- h3];exact h1
 .intro h;exact⟨(x,y,z),KS.mpr ⟨h,by simp⟩,rfl⟩
def fI (ts:List Tri)(good:List Int)(sign:Int)(acc:List Int):List Int:=ts.foldl (fun acc t=>if (t.2.1==sign&&decide (t.2.2∈good))=true then dd acc t.1 else acc) acc
theorem ou (good:List Int)(sign x:Int):∀(ts:List Tri)(acc:List Int),x∈fI ts good sign acc↔x∈acc\/∃ m∈good,(x,sign,m)∈ts
 | [],acc=>by simp[fI]
 |t::r,acc=>by
  have ih:=ou good sign x r;unfold fI at ih ⊢;rw[K_,ih];by_cases h:(t.2.1==sign&&decide (t.2.2∈good))=true
  .rw[JW h,cm];rw[Kh,Kx,LP]at h;constructor
   .rintro ((h1|h1)|⟨m,h1,h2⟩)
    .exact .inl h1
    .exact .inr ⟨t.2.2,h.2,by rw[h1,<- h.1];simp⟩
    .exact .inr ⟨m,h1,by simp[h2]⟩
   .rintro (h1|⟨m,h1,h2⟩)
    .exact .inl (.inl h1)
    .rcases J5.mp h2 with e|h2
     .exact .inl (.inr (by rw[<- e]))
     .exact .inr ⟨m,h1,h2⟩
  .rw[J0 h];rw[Kh,Kx,LP]at h;constructor
   .rintro (h1|⟨m,h1,h2⟩)
    .exact .inl h1
    .exact .inr ⟨m,h1,by simp[h2]⟩
   .rintro (h1|⟨m,h1,h2⟩)
    .exact .inl h1
    .rcases J5.mp h2 with e|h2
     .exact absurd (show t.2.1=sign/\t.2.2∈good by rw[<- e];exact⟨rfl,h1⟩) h
     .exact .inr ⟨m,h1,h2⟩
def H_ (ts:List Tri)(rs good:List Int):List Int:=rs.foldl (fun g c=>fI ts g c []) good
theorem vG (ts:List Tri)(good:List Int):∀(st:List Int)(x:Int),x∈H_ ts st.reverse good↔∃ e∈good,iE ts x st e
 | [],x=>by simp[H_,iE]
 |c::r,x=>by
  have ih:=vG ts good r;unfold H_ at ih ⊢;rw[LY,MA];show x∈fI ts (List.foldl (fun g c=>fI ts g c []) good r.reverse) c []↔_;rw[ou];constructor
  .rintro (h|⟨m,h1,h2⟩)
   .cases h
   .obtain⟨e,h3,h4⟩:=(ih m).mp h1;exact⟨e,h3,m,h2,h4⟩
  .rintro⟨e,h3,m,h2,h4⟩;exact .inr ⟨m,(ih m).mpr ⟨e,h3,h4⟩,h2⟩
def ui (ts:List Tri)(es st:List Int)(room:Int):Bool:=decide (room∈H_ ts st.reverse (bV es))
theorem sJ {l:List Int}{x:Int}(h:l.Nodup):(dd l x).Nodup:=by
 unfold dd;split
 .exact h
 .rename_i hx;rw[LZ];refine⟨h,by simp,?_⟩;intro a ha b hb e;rw[KB]at hb;exact hx (by rw[<- hb,<- e];exact ha)
theorem oz:∀(xs l:List Int),l.Nodup->(xs.foldl dd l).Nodup
 | [],l,h=>h
 |x::r,l,h=>oz r (dd l x) (sJ h)
theorem ua (ts:List Tri)(x y:Int):(g3 ts x y).length<=ts.length:=by unfold g3;rw[JU];exact Lz _ _
theorem k_ (ks:List Int):(bD ks).flat=false:=(rfl)
theorem fJ (ts:List Tri):(bN ts).flat=false:=(rfl)
theorem z8 (n:Int)(ts:List Tri)(es:List Int)(hl:ts.length<=63):bo [Mc n ts es]=.ok (.val (bN ts) true [1]):=by
 have hg:∀(e0 e1 e2 e3 e4:Option Sl)(f:Bool),wB 1 2 3 4 [e0,e1,e2,e3,e4] (.val (.lst (ts.map tD)) f [])=.ok (.nx [e0,some (.tre (bN ts)),none,none,none]):=by intro e0 e1 e2 e3 e4 f;unfold wB;rw[bW];dsimp only;rw[show gm (ts.map tD)=some ts from oh ts];dsimp only;rw[JW (by refine⟨by omega,?_⟩;simp[R.al])];rfl
 simp_arith[bo,hV,Mc,hg]
noncomputable abbrev Pr:=Int×Int
def jp (A B:List Tri)(p q:Pr):Prop:=∃ c,(p.1,c,q.1)∈A/\(p.2,c,q.2)∈B
mutual
noncomputable def layN (A B:List Tri)(ro:Int):Nat->Pr->Prop
 |0,p=>p.1=p.2/\0<=p.1/\p.1<ro
 |k+1,q=>¬ seenN A B ro k q/\∃ p,layN A B ro k p/\jp A B p q
noncomputable def seenN (A B:List Tri)(ro:Int):Nat->Pr->Prop
 |0,p=>p.1=p.2/\0<=p.1/\p.1<ro
 |k+1,q=>seenN A B ro k q\/(¬ seenN A B ro k q/\∃ p,layN A B ro k p/\jp A B p q)
end
section
variable {A B:List Tri}{ro:Int}
theorem lay0 {p:Pr}:layN A B ro 0 p↔p.1=p.2/\0<=p.1/\p.1<ro:=by unfold layN;exact Iff.rfl
theorem seen0 {p:Pr}:seenN A B ro 0 p↔p.1=p.2/\0<=p.1/\p.1<ro:=by unfold seenN;exact Iff.rfl
theorem layS {k:Nat}{q:Pr}:layN A B ro (k+1) q↔¬ seenN A B ro k q/\∃ p,layN A B ro k p/\jp A B p q:=by
 conv=>lhs;unfold layN
theorem seenS {k:Nat}{q:Pr}:seenN A B ro (k+1) q↔seenN A B ro k q\/layN A B ro (k+1) q:=by rw[layS];conv=>lhs;unfold seenN
theorem db:∀{k:Nat}{q:Pr},layN A B ro k q->seenN A B ro k q
 |0,q,h=>seen0.mpr (lay0.mp h)
 |k+1,q,h=>seenS.mpr (.inr h)
theorem vH {k:Nat}{q:Pr}(h:seenN A B ro k q):∀ d,seenN A B ro (k+d) q
 |0=>h
 |d+1=>seenS.mpr (.inl (vH h d))
theorem vI {j k:Nat}{q:Pr}(h:seenN A B ro j q)(hk:j<=k):seenN A B ro k q:=by have:=vH h (k-j);rwa [show j+(k-j)=k by omega]at this
theorem z_ {j k:Nat}{q:Pr}(h1:layN A B ro j q)(h2:layN A B ro k q):¬ j<k:=fun h=>by obtain⟨i,rfl⟩ : ∃ i,k=i+1:=⟨k-1,by omega⟩;exact(layS.mp h2).1 (vI (db h1) (by omega))
theorem Aa {j k:Nat}{q:Pr}(h1:layN A B ro j q)(h2:layN A B ro k q):j=k:=by have a:=z_ h1 h2;have b:=z_ h2 h1;omega
theorem mG:∀{k:Nat},(∃ q,layN A B ro k q)->∀ j,j<=k->∃ q,layN A B ro j q
 |0,h,j,hj=>by rw[show j=0 by omega];exact h
 |k+1,h,j,hj=>by
  by_cases e:j=k+1
  .rw[e];exact h
  .obtain⟨q,hq⟩:=h;obtain⟨p,hp,_⟩:=(layS.mp hq).2;exact mG ⟨p,hp⟩ j (by omega)
theorem sK:∀{k:Nat},(∃ q,layN A B ro k q)->∃ l:List Pr,l.length=k+1/\l.Nodup/\∀ q∈l,seenN A B ro k q
 |0,⟨q,hq⟩=>⟨[q],rfl,by simp,fun x hx=>by rw[KB]at hx;exact hx▸db hq⟩
 |k+1,⟨q,hq⟩=>by
  obtain⟨hn,p,hp,_⟩:=layS.mp hq;obtain⟨l,h1,h2,h3⟩:=sK ⟨p,hp⟩;refine⟨q::l,by rw[KD,h1],K1.mpr ⟨fun hx=>hn (h3 q hx),h2⟩,fun x hx=>?_⟩;rcases J5.mp hx with rfl|hx
  .exact db hq
  .exact seenS.mpr (.inl (h3 x hx))
theorem jq {α:Type}[DecidableEq α]:∀(l m:List α),l.Nodup->(∀ x∈l,x∈m)->l.length<=m.length
 | [],m,_,_=>Kz _
 |a::r,m,hn,hs=>by
  have hn':=K1.mp hn;have ha:a∈m:=hs a (by simp);have h:=jq r (m.erase a) hn'.2 fun x hx=>by have hne:x≠a:=fun e=>hn'.1 (e▸hx);exact(MH hne).mpr (hs x (by simp[hx]))
  have h2:=Mi ha;have h3:0<m.length:=Ms ha;simp only[KD];omega
noncomputable def boxL:List Pr:=((List.range 31).map fun i:Nat=>(List.range 31).map fun j:Nat=>(((i:Nat):Int),((j:Nat):Int))).flatten
theorem qw:boxL.length=961:=by decide +kernel
theorem qx {q:Pr}(h1:0<=q.1)(h2:q.1<31)(h3:0<=q.2)(h4:q.2<31):q∈boxL:=by unfold boxL;rw[List.mem_flatten];refine⟨_,J8.mpr ⟨q.1.toNat,Kv.mpr (by omega),rfl⟩,J8.mpr ⟨q.2.toNat,Kv.mpr (by omega),?_⟩⟩;obtain⟨a,b⟩:=q;dsimp only at *;rw[MN h1,MN h3]
end
structure Two (A B:List Tri) (ro:Int):Prop where
 r0:0<ro
 r1:ro<=8
 a:∀ t∈A,0<=t.1/\t.1<31/\0<=t.2.2/\t.2.2<31
 b:∀ t∈B,0<=t.1/\t.1<31/\0<=t.2.2/\t.2.2<31
 la:A.length<=63
 lb:B.length<=63
 nb:B.Nodup
section
variable {A B:List Tri}{ro:Int}
theorem Two.step (T:Two A B ro){p q:Pr}(h:jp A B p q):0<=q.1/\q.1<31/\0<=q.2/\q.2<31:=by obtain⟨c,h1,h2⟩:=h;have a:=T.a _ h1;have b:=T.b _ h2;exact⟨a.2.2.1,a.2.2.2,b.2.2.1,b.2.2.2⟩
theorem Two.lay (T:Two A B ro):∀{k:Nat}{q:Pr},layN A B ro k q->0<=q.1/\q.1<31/\0<=q.2/\q.2<31
 |0,q,h=>by have:=lay0.mp h;have:=T.r1;omega
 |k+1,q,h=>by obtain⟨p,_,h2⟩:=(layS.mp h).2;exact T.step h2
theorem Two.seen (T:Two A B ro):∀{k:Nat}{q:Pr},seenN A B ro k q->0<=q.1/\q.1<31/\0<=q.2/\q.2<31
 |0,q,h=>T.lay (k:=0) (lay0.mpr (seen0.mp h))
 |k+1,q,h=>by rcases seenS.mp h with h|h;exact T.seen h;exact T.lay h
theorem Two.lt (T:Two A B ro){k:Nat}(h:∃ q,layN A B ro k q):k<961:=by
 obtain⟨l,h1,h2,h3⟩:=sK h;have:=jq l boxL h2 fun q hq=>by have:=T.seen (h3 q hq);exact qx this.1 this.2.1 this.2.2.1 this.2.2.2
 rw[qw]at this;omega
theorem Two.few (T:Two A B ro){l:List Pr}{k:Nat}(hn:l.Nodup)(h:∀ q∈l,seenN A B ro k q):l.length<=961:=by
 have:=jq l boxL hn fun q hq=>by have:=T.seen (h q hq);exact qx this.1 this.2.1 this.2.2.1 this.2.2.2
 rw[qw]at this;exact this
def Back (A B:List Tri)(ro:Int):Nat->Pr->D->Prop
 |0,q,d=>d=.non/\layN A B ro 0 q
 |j+1,q,d=>layN A B ro (j+1) q/\∃(p:Pr)(c:Int),d=.tup [.tup [.int p.1,.int p.2],.int c]/\layN A B ro j p/\(p.1,c,q.1)∈A/\(p.2,c,q.2)∈B
theorem Back.lay:∀{j:Nat}{q:Pr}{d:D},Back A B ro j q d->layN A B ro j q
 |0,_,_,h=>h.2
 |_+1,_,_,h=>h.1
theorem Back.flat:∀{j:Nat}{q:Pr}{d:D},Back A B ro j q d->d.flat=true
 |0,_,_,h=>by rw[h.1];rfl
 |_+1,_,_,h=>by obtain⟨_,p,c,rfl,_⟩:=h;rfl
end
def ay {α:Type}(g:Int->α)(x:Int)(d:α):Int->α:=fun y=>if y=x then d else g y
def jr (l:List Int)(g:Int->D):D:=.dic (l.map ik) (l.map g)
abbrev vv (d:D)(f:Bool):Option Sl:=some (.val d f)
abbrev ow (d:List D)(f:Bool):Option Sl:=some (.own d f)
abbrev tt (d:D):Option Sl:=some (.tre d)
structure Cm where
 ks:List Int
 rk:Int->List Int
 v:Int->Int->D
def Cm.d (C:Cm):D:=jr C.ks fun x=>jr (C.rk x) (C.v x)
theorem uj {a b:Int}(h:ik a=ik b):a=b:=KH (KH h)
theorem qy {α:Type}(g:Int->α)(x:Int)(d:α){l:List Int}(h:¬ x∈l):l.map (ay g x d)=l.map g:=K4 fun y hy=>J0 fun(e:y=x)=>h (e▸hy)
theorem vJ (g:Int->D)(o:Int)(d:D):∀ l:List Int,nK (l.map ik) (l.map g) (ik o) d=l.map (ay g o d)
 | []=>rfl
 |a::r=>by
  rw[J4,J4,J4];unfold nK;rw[vJ g o d r];by_cases h:a=o
  .rw[JW (by rw[h])];unfold ay;rw[JW h]
  .rw[J0 fun e=>h (uj e)];unfold ay;rw[J0 h]
theorem FM (l:List Int)(g:Int->D)(o:Int)(d:D):bZ (l.map ik) (l.map g) (ik o) d=jr (dd l o) (ay g o d):=by
 unfold bZ;rw[show fU (l.map ik) (ik o)=decide (o∈l) from kX l o];unfold dd jr;by_cases h:o∈l
 .rw[JW (Kk h),JW h,vJ]
 .rw[J0 (by rw[Kr h];simp),J0 h,Ki,Ki,qy g o d h];show _=D.dic (_++[ik o]) (_++[ay g o d o]);rw[show ay g o d o=d from JW rfl]
theorem cS {x:Int}:∀{ks:List Int},¬ x∈ks->eQ (ks.map ik) (ik x)=none
 | [],_=>rfl
 |a::r,h=>by rw[J4];unfold eQ;rw[J0 fun e=>h (by rw[uj e];simp),cS fun hx=>h (by simp[hx])];rfl
theorem cQ (g:Int->D)(d:D){x:Int}:∀{ks:List Int},ks.Nodup->x∈ks->∃ j,eQ (ks.map ik) (ik x)=some j/\(ks.map g)[j]?=some (g x)/\(ks.map g).set j d=ks.map (ay g x d)
 | [],_,h=>by cases h
 |a::r,hn,h=>by
  have hn':=K1.mp hn;rw[J4,J4,J4];unfold eQ;by_cases e:a=x
  .subst e;refine⟨0,JW rfl,rfl,?_⟩;rw[List.set_cons_zero,qy g a d hn'.1,show ay g a d a=d from JW rfl]
  .obtain⟨j,h1,h2,h3⟩:=cQ g d hn'.2 ((J5.mp h).resolve_left fun z=>e z.symm);refine⟨j+1,by rw[J0 fun z=>e (uj z),h1];rfl,by rw[Mr];exact h2,?_⟩;rw[List.set_cons_succ,h3,show ay g x d a=g a from J0 e]
theorem Ab {ks:List Int}{g:Int->D}(hn:ks.Nodup)(x:Int):mh (ks.map ik) (ks.map g) (ik x)=some (if x∈ks then g x else .dic [] []):=by
 unfold mh;by_cases h:x∈ks
 .obtain⟨j,h1,h2,_⟩:=cQ g .non hn h;rw[h1,JW h];exact h2
 .rw[cS h,J0 h]
theorem wY {ks:List Int}{g:Int->D}(hn:ks.Nodup)(x:Int)(d:D):fY (ks.map ik) (ks.map g) (ik x) d=jr (dd ks x) (ay g x d):=by
 unfold fY dd jr;by_cases h:x∈ks
 .obtain⟨j,h1,_,h3⟩:=cQ g d hn h;rw[h1,JW h,<- h3]
 .rw[cS h,J0 h];dsimp only;rw[Ki,Ki,qy g x d h];show _=D.dic (_++[ik x]) (_++[ay g x d x]);rw[show ay g x d x=d from JW rfl]
noncomputable def aA (q:Pr):D:=.tup [.int q.1,.int q.2]
theorem Ac (q:Pr):(aA q).flat=true:=(rfl)
theorem oA (l:List Pr):D.flats (l.map aA)=true:=cw _ _ Ac
def j3 (p:Pr)(c:Int):D:=.tup [aA p,.int c]
structure Ah (A B:List Tri) (ro:Int) (k:Nat) (C:Cm) (ah:List Pr):Prop where
 kn:C.ks.Nodup
 kb:∀ s∈C.ks,0<=s/\s<31
 rn:∀ s,(C.rk s).Nodup
 r0:∀ s,¬ s∈C.ks->C.rk s=[]
 an:ah.Nodup
 mem:∀ q:Pr,q.2∈C.rk q.1↔seenN A B ro k q\/q∈ah
 lay:∀ q∈ah,layN A B ro (k+1) q
 bk:∀ q:Pr,q.2∈C.rk q.1->∃ j,Back A B ro j q (C.v q.1 q.2)
def Cm.more (C:Cm)(s:Int)(fr:List Int)(d:D):Cm:=⟨dd C.ks s,ay C.rk s (fr.foldl dd (C.rk s)),ay C.v s fun y=>if y∈fr then d else C.v s y⟩
def aF (B:List Tri)(C:Cm)(p2 c s:Int):List Int:=(g3 B p2 c).filter fun o=>!decide (o∈C.rk s)
theorem Ad {B:List Tri}(h:B.Nodup)(x y:Int):(g3 B x y).Nodup:=by unfold g3;refine cz _ (h.filter _) fun a ha b hb e=>?_;have ha:=(KS.mp ha).2;have hb:=(KS.mp hb).2;rw[Kh,Kx,Kx]at ha hb;obtain⟨a1,a2,a3⟩:=a;obtain⟨b1,b2,b3⟩:=b;dsimp only at *;rw[ha.1,ha.2,hb.1,hb.2,e]
theorem fresh_mem {B:List Tri}{C:Cm}{p2 c s o:Int}:o∈aF B C p2 c s↔(p2,c,o)∈B/\¬ o∈C.rk s:=by unfold aF;rw[KS,qu];simp
section
variable {A B:List Tri}{ro:Int}{k:Nat}{C:Cm}{ah:List Pr}
theorem gW {s:Int}{fr:List Int}{d:D}(q:Pr):q.2∈(C.more s fr d).rk q.1↔q.2∈C.rk q.1\/(q.1=s/\q.2∈fr):=by
 show q.2∈ay C.rk s (fr.foldl dd (C.rk s)) q.1↔_;unfold ay;by_cases h:q.1=s
 .rw[JW h,fH,h];simp
 .rw[J0 h];simp[h]
theorem Ah.more (T:Two A B ro)(H:Ah A B ro k C ah){p:Pr}{c s:Int}(hp:layN A B ro k p)(hs:(p.1,c,s)∈A) :
 Ah A B ro k (C.more s (aF B C p.2 c s) (j3 p c)) (ah++(aF B C p.2 c s).map fun o=>(s,o)):=by
 have hlay:∀ o∈aF B C p.2 c s,layN A B ro (k+1) (s,o):=fun o ho=>by have h:=fresh_mem.mp ho;exact layS.mpr ⟨fun h2=>h.2 ((H.mem (s,o)).mpr (.inl h2)),p,hp,c,hs,h.1⟩
 refine⟨sJ H.kn,fun x hx=>?_,fun x=>?_,fun x hx=>?_,?_,fun q=>?_,fun q hq=>?_,fun q hq=>?_⟩
 .rcases (cm _ _ _).mp hx with hx|rfl
  .exact H.kb x hx
  .exact(T.a _ hs).2.2
 .show(ay C.rk s _ x).Nodup;unfold ay;split
  .exact oz _ _ (H.rn s)
  .exact H.rn x
 .show ay C.rk s _ x=[];have hx:¬ x∈dd C.ks s:=hx;rw[cm]at hx;unfold ay;rw[J0 fun e=>hx (.inr e)];exact H.r0 x fun e=>hx (.inl e)
 .rw[LZ];refine⟨H.an,cz _ ((Ad T.nb _ _).filter _) fun a _ b _ e=>KQ Prod.snd e,fun a ha b hb e=>?_⟩;obtain⟨o,ho,rfl⟩:=J8.mp hb;subst e;exact(fresh_mem.mp ho).2 ((H.mem _).mpr (.inr ha))
 .rw[gW,H.mem,Kf,J8];constructor
  .rintro ((h|h)|⟨h1,h2⟩)
   .exact .inl h
   .exact .inr (.inl h)
   .exact .inr (.inr ⟨q.2,h2,by rw[<- h1]⟩)
  .rintro (h|h|⟨o,ho,rfl⟩)
   .exact .inl (.inl h)
   .exact .inl (.inr h)
   .exact .inr ⟨rfl,ho⟩
 .rcases Kf.mp hq with hq|hq
  .exact H.lay q hq
  .obtain⟨o,ho,rfl⟩:=J8.mp hq;exact hlay o ho
 .show ∃ j,Back A B ro j q (ay C.v s _ q.1 q.2);rw[gW]at hq;unfold ay;by_cases e:q.1=s
  .rw[JW e];by_cases hf:q.2∈aF B C p.2 c s
   .rw[JW hf];have:=hlay _ hf;have hq2:(s,q.2)=q:=by rw[<- e]
    rw[hq2]at this;exact⟨k+1,this,p,c,rfl,hp,by rw[e];exact hs,(fresh_mem.mp hf).1⟩
   .rw[J0 hf,<- e];exact H.bk q (hq.resolve_right fun z=>hf z.2)
  .rw[J0 e];exact H.bk q (hq.resolve_right fun z=>e z.1)
theorem Ae {p:Pr}{c s:Int}(o:Int)(h:(p.2,c,o)∈B):o∈(C.more s (aF B C p.2 c s) (j3 p c)).rk s:=by
 rw[gW (q:=(s,o))];by_cases hf:o∈C.rk s
 .exact .inl hf
 .exact .inr ⟨rfl,fresh_mem.mpr ⟨h,hf⟩⟩
theorem Ah.seen (H:Ah A B ro k C ah){q:Pr}(h:q.2∈C.rk q.1):seenN A B ro (k+1) q:=by
 rcases (H.mem q).mp h with h|h
 .exact seenS.mpr (.inl h)
 .exact db (H.lay q h)
theorem Ah.few (T:Two A B ro)(H:Ah A B ro k C ah):ah.length<=961:=T.few (k:=k+1) H.an fun q hq=>db (H.lay q hq)
theorem Ah.rows (T:Two A B ro)(H:Ah A B ro k C ah)(s:Int):(C.rk s).length<=961:=by
 have:=T.few (k:=k+1) (l:=(C.rk s).map fun o=>(s,o)) (cz _ (H.rn s) fun a _ b _ e=>KQ Prod.snd e) fun q hq=>by obtain⟨o,ho,rfl⟩:=J8.mp hq;exact H.seen (q:=(s,o)) ho
 rwa [JU]at this
theorem Ah.keys (H:Ah A B ro k C ah):C.ks.length<=961:=by
 have:=jq (C.ks.map fun s=>((s,0):Pr)) boxL (cz _ H.kn fun a _ b _ e=>KQ Prod.fst e) fun q hq=>by obtain⟨s,hs,rfl⟩:=J8.mp hq;have:=H.kb s hs;exact qx this.1 this.2 (Int.le_refl 0) (show(0:Int)<31 by decide)
 rwa [JU,qw]at this
theorem Ah.rowF (H:Ah A B ro k C ah)(s:Int):D.flats ((C.rk s).map (C.v s))=true:=su fun d hd=>by obtain⟨o,ho,rfl⟩:=J8.mp hd;obtain⟨j,hj⟩:=H.bk (s,o) ho;exact hj.flat
theorem Ah.rowsF (H:Ah A B ro k C ah):(C.ks.map fun x=>jr (C.rk x) (C.v x)).all Bo=true:=by rw[Nd,KJ];intro s _;exact H.rowF s
end
theorem FN (C:Cm)(s:Int)(fr:List Int)(d:D)(hn:C.ks.Nodup):fY (C.ks.map ik) (C.ks.map fun x=>jr (C.rk x) (C.v x)) (ik s) (jr (fr.foldl dd (C.rk s)) fun y=>if y∈fr then d else C.v s y)=(C.more s fr d).d:=by rw[wY hn];show jr (dd C.ks s) _=jr (dd C.ks s) fun x=>jr (ay C.rk s (fr.foldl dd (C.rk s)) x) (ay C.v s (fun y=>if y∈fr then d else C.v s y) x);congr 1;funext x;unfold ay;split<;>rfl
theorem Ia {i n:Nat}{d:D}:w8 i (some (some (.fix n (.tr d))))=.ok (.val d true [i]):=(rfl)
theorem Da {d:D}{f:Bool}:cA (vv d f)=true:=(rfl)
theorem Dc {d:List D}{f:Bool}:cA (ow d f)=true:=(rfl)
theorem Dd {k:Kd}:cA (some (.fix 0 k))=true:=(rfl)
theorem Df:cA none=true:=(rfl)
theorem gd {f:En->Res R}{asg:D->Bool->En->Option En}{fb:En->Res Fl}{env:En}{ds:List D}{fr:Bool}{al:List Nat}(h:f env=.ok (.val (.lst ds) fr al)):dR f asg fb env=bx asg fr fb ds (frz env al):=by unfold dR;rw[h];show iT (fq f) asg fb env=_;unfold iT fq;rw[h];rfl
theorem Cf {env:En}{i:Nat}{fk fv:En->Res R}{l:List Int}{g:Int->D}{o:Int}{d:D}(h:env[i]?=some (some (.fix 1 (.tr (jr l g)))))(hv:fv env=.ok (.val d true []))(hk:fk env=.ok (.val (.int o) true []))(hf:d.flat=true)(hl:l.length<1000000) :
 nU i fk fv env=.ok (.nx (env.set i (some (.fix 1 (.tr (jr (dd l o) (ay g o d))))))):=by
 unfold jr at h;rw[B_ h,hv,aB,zU (r:=.val d true []) hf,hk,aB,zV (x:=ik o) rfl (eR o l) (by rw[JU];exact hl)];show Res.ok (Fl.nx (env.set i (some (.fix 1 (.tr (bZ (l.map ik) (l.map g) (ik o) d))))))=_;rw[FM]
abbrev eI (A B:List Tri)(X:List Pr)(l:List Int)(g:Int->D)(ah:List Pr)(p:Pr)(c s:Int)(f5 f7 f10:Bool)(e6 e8 e9 e12 e13:Option Sl):En:=[vv (bN A) false,vv (bN B) false,vv (.lst (X.map aA)) false,some (.fix 0 .no),ow (ah.map aA) true,vv (aA p) f5,e6,vv (.int c) f7,e8,e9,vv (.int s) f10,some (.fix 1 (.tr (jr l g))),e12,e13]
theorem Af {A B:List Tri}{X:List Pr}{l:List Int}{g:Int->D}{ah:List Pr}{p:Pr}{c s:Int}{f5 f7 f10 fr:Bool}{e6 e8 e9 e12 e13:Option Sl}(he:cA e13=true)(fresh:List Int)(hl:l.length+fresh.length<=5000)(ha:ah.length+fresh.length<=5000) :
 ∃ e',cA e'=true/\bx (gN 13) fr b_ (fresh.map .int) (eI A B X l g ah p c s f5 f7 f10 e6 e8 e9 e12 e13)=.ok (.nx (eI A B X (fresh.foldl dd l) (fun y=>if y∈fresh then j3 p c else g y) (ah++fresh.map fun o=>(s,o)) p c s f5 f7 f10 e6 e8 e9 e12 e')):=by
 obtain⟨aJ,h1,e',h2,rfl⟩:=cV D.int (asg:=gN 13) (fr:=fr) (body:=b_) fresh (fun pre env=>∃ e',cA e'=true/\env=eI A B X (pre.foldl dd l) (fun y=>if y∈pre then j3 p c else g y) (ah++pre.map fun o=>(s,o)) p c s f5 f7 f10 e6 e8 e9 e12 e') fresh [] (eI A B X l g ah p c s f5 f7 f10 e6 e8 e9 e12 e13) rfl ⟨e13,he,by simp⟩ (by
  rintro pre post o env hall ⟨e',he',rfl⟩;have hpl:pre.length<fresh.length:=by rw[hall];simp
  refine⟨_,eI A B X ((pre++[o]).foldl dd l) (fun y=>if y∈pre++[o] then j3 p c else g y) (ah++(pre++[o]).map fun o=>(s,o)) p c s f5 f7 f10 e6 e8 e9 e12 (vv (.int o) fr),zn (by simp),?_,_,rfl,rfl⟩;dsimp only[List.set_cons_succ,List.set_cons_zero];have bO:=vm pre l;have hg:ay (fun y=>if y∈pre then j3 p c else g y) o (j3 p c)=fun y=>if y∈pre++[o] then j3 p c else g y:=by
   funext y;unfold ay;by_cases h:y=o
   .rw[JW h,JW (by simp[h])]
   .rw[J0 h];dsimp only;by_cases h2:y∈pre
    .rw[JW h2,JW (by simp[h2])]
    .rw[J0 h2,J0 (by simp[h,h2])]
  have hap:((ah++pre.map fun o=>(s,o)).map aA).length<1000000:=by simp only[JU,Kp];omega
  unfold b_;rw[aT,Cf (l:=pre.foldl dd l) (o:=o) (d:=j3 p c) rfl (by unfold aA j3;simp_arith[aA]) (by simp_arith) rfl (by omega),aB,hg];dsimp only[List.set_cons_succ,List.set_cons_zero];simp_arith[pT hap];have e1:(ah++(pre++[o]).map fun o=>(s,o)).map aA=(ah++pre.map fun o=>(s,o)).map aA++[.tup [.int s,.int o]]:=by rw[Ki (f:=fun o=>(s,o)),<- L0,Ki (f:=aA)];rfl
  show _=Res.ok (Fl.nx [_,_,_,_,ow ((ah++(pre++[o]).map fun o=>(s,o)).map aA) true,_,_,_,_,_,_,_,_,_]);rw[e1,MA];rfl)
 exact⟨e',h2,h1⟩
theorem uk {e0 e1 e2 e3 e4 e5 e6 e7 e8 e9 e10 e12 e13:Option Sl}{B:List Tri}{C:Cm}{p2 c s:Int}{fr:Bool}(hl:(g3 B p2 c).length<=1000000) :
 kq 1 [11] (gN 0) bG bH [e0,e1,e2,e3,e4,e5,e6,e7,e8,e9,e10,some (.fix 1 (.tr (jr (C.rk s) (C.v s)))),e12,e13] ⟨(g3 B p2 c).map .int,fr,[]⟩=.ok (.new ((aF B C p2 c s).map .int) true):=by
 have h:=f_ (mk:=fun d=>gN 0 d fr (fw [e0,e1,e2,e3,e4,e5,e6,e7,e8,e9,e10,some (.fix 1 (.tr (jr (C.rk s) (C.v s)))),e12,e13] 1 [11])) (test:=bG)
  (elt:=bH) D.int (fun o=>!decide (o∈C.rk s)) (fun o=>.val (.int o) true []) (g3 B p2 c) fun o ho=>⟨_,rfl,by
    show bG [vv (.int o) fr,some (.fix 1 (.tr (jr (C.rk s) (C.v s))))]=_;have hin:mW true (.int o) (jr (C.rk s) (C.v s))=.ok (.val (.bl (!decide (o∈C.rk s))) true []):=by unfold jr;rw[zA (k:=ik o) rfl (eR o _),show fU ((C.rk s).map ik) (ik o)=_ from kX _ o];rfl
    simp_arith[bG,Ia,hin],fun _=>by
    show bH [vv (.int o) fr,some (.fix 1 (.tr (jr (C.rk s) (C.v s))))]=_;simp_arith[bH]⟩
 rw[ja (by rw[JU];exact hl) h,sw,gO,gK (cw _ _ fun c=>rfl)];rfl
abbrev eO (A B:List Tri)(X:List Pr)(C:Cm)(ah:List Pr)(e5 e6 e7 e8 e9 e10 e12 e13:Option Sl):En:=[vv (bN A) false,vv (bN B) false,vv (.lst (X.map aA)) false,some (.fix 0 (.ds C.d)),ow (ah.map aA) true,e5,e6,e7,e8,e9,e10,none,e12,e13]
section
variable {A B:List Tri}{ro:Int}{k:Nat}{C:Cm}{ah X:List Pr}
theorem FO (T:Two A B ro)(H:Ah A B ro k C ah){p:Pr}{c s:Int}(hp:layN A B ro k p)(hs:(p.1,c,s)∈A){f5 f7 f9 f10:Bool}{e6 e8 e12 e13:Option Sl}(n6:cA e6=true)(n8:cA e8=true)(n12:cA e12=true)(n13:cA e13=true) :
 ∃ e12' e13',cA e12'=true/\cA e13'=true/\cc (eO A B X C ah (vv (aA p) f5) e6 (vv (.int c) f7) e8 (vv (.lst ((g3 B p.2 c).map .int)) f9) (vv (.int s) f10) e12 e13) =
  .ok (.nx (eO A B X (C.more s (aF B C p.2 c s) (j3 p c)) (ah++(aF B C p.2 c s).map fun o=>(s,o)) (vv (aA p) f5) e6 (vv (.int c) f7) e8 (vv (.lst ((g3 B p.2 c).map .int)) f9) (vv (.int s) f10) e12' e13')):=by
 have hg:=ua B p.2 c;have hlb:=T.lb;have hfl:(aF B C p.2 c s).length<=63:=Ky (Lz _ _) (by omega);have hrl:=H.rows T s;have hal:=H.few T;have H':=H.more T hp hs;obtain⟨e',he',lp⟩:=Af (A:=A) (B:=B) (X:=X) (l:=C.rk s) (g:=C.v s) (ah:=ah) (p:=p) (c:=c) (s:=s) (f5:=f5) (f7:=f7) (f10:=f10) (fr:=true) (e6:=e6) (e8:=e8) (e9:=vv (.lst ((g3 B p.2 c).map .int)) f9) (e12:=vv (.lst ((aF B C p.2 c s).map .int)) true) n13 (aF B C p.2 c s) (by omega) (by omega);refine⟨vv (.lst ((aF B C p.2 c s).map .int)) true,e',rfl,he',?_⟩;have hrow:mh (C.ks.map ik) (C.ks.map fun x=>jr (C.rk x) (C.v x)) (ik s)=some (.dic ((C.rk s).map ik) ((C.rk s).map (C.v s))):=by
  rw[Ab H.kn];by_cases h:s∈C.ks
  .rw[JW h];rfl
  .rw[J0 h,H.r0 s h];rfl
 unfold cc;rw[HW (ks:=C.ks.map ik) (ds:=C.ks.map fun x=>jr (C.rk x) (C.v x)) (x:=s) rfl rfl (by decide) rfl (by simp only[List.all_cons,List.all_nil,Da,Dc,Dd,Df,n6,n8,n12,n13,L1]) (eR s _) (by rw[JU];exact Nat.lt_of_le_of_lt H.keys (by decide)) H.rowsF hrow];have hb:cb (fZ 3 11 (eO A B X C ah (vv (aA p) f5) e6 (vv (.int c) f7) e8 (vv (.lst ((g3 B p.2 c).map .int)) f9) (vv (.int s) f10) e12 e13) (.dic ((C.rk s).map ik) ((C.rk s).map (C.v s)))) =
  .ok (.nx (eI A B X ((aF B C p.2 c s).foldl dd (C.rk s)) (fun y=>if y∈aF B C p.2 c s then j3 p c else C.v s y) (ah++(aF B C p.2 c s).map fun o=>(s,o)) p c s f5 f7 f10 e6 e8 (vv (.lst ((g3 B p.2 c).map .int)) f9) (vv (.lst ((aF B C p.2 c s).map .int)) true) e')):=by
  show cb (eI A B X (C.rk s) (C.v s) ah p c s f5 f7 f10 e6 e8 (vv (.lst ((g3 B p.2 c).map .int)) f9) e12 e13)=_;unfold cb;simp_arith[uk (B:=B) (C:=C) (p2:=p.2) (c:=c) (s:=s) (show(g3 B p.2 c).length<=1000000 by omega)];rw[gd (ds:=(aF B C p.2 c s).map .int) (fr:=true) (al:=[12]) (by simp_arith),kZ (ds:=(aF B C p.2 c s).map .int) (f:=true) rfl];exact lp
 rw[hb];have hflat:D.flats (((aF B C p.2 c s).foldl dd (C.rk s)).map fun y=>if y∈aF B C p.2 c s then j3 p c else C.v s y)=true:=by have:=H'.rowF s;have e1:(C.more s (aF B C p.2 c s) (j3 p c)).rk s=(aF B C p.2 c s).foldl dd (C.rk s):=JW rfl;have e2:(C.more s (aF B C p.2 c s) (j3 p c)).v s=fun y=>if y∈aF B C p.2 c s then j3 p c else C.v s y:=JW rfl;rw[e1,e2]at this;exact this
 rw[FJ (ks:=((aF B C p.2 c s).foldl dd (C.rk s)).map ik) (ds:=((aF B C p.2 c s).foldl dd (C.rk s)).map fun y=>if y∈aF B C p.2 c s then j3 p c else C.v s y) rfl hflat rfl (by simp only[List.set_cons_succ,List.set_cons_zero,List.all_cons,List.all_nil,Da,Dc,Dd,Df,n6,n8,he',L1])];rw[show D.dic (((aF B C p.2 c s).foldl dd (C.rk s)).map ik) (((aF B C p.2 c s).foldl dd (C.rk s)).map fun y=>if y∈aF B C p.2 c s then j3 p c else C.v s y)=jr ((aF B C p.2 c s).foldl dd (C.rk s)) (fun y=>if y∈aF B C p.2 c s then j3 p c else C.v s y) from rfl,FN _ _ _ _ H.kn];rfl
end
theorem FP {ra rz:R}{ks:List Int}{g:Int->D}{x:Int}{f:Bool}{al:List Nat}:G1 ra (ks.map ik) (ks.map g) (.val (.int x) f al) rz=.ok (if x∈ks then mkV (g x) ra.fr ra.al else mkV rz.d rz.fr rz.al):=by
 unfold G1;rw[bW];dsimp only[keyX];rw[JW (eR x ks),kY];by_cases h:x∈ks
 .rw[JW h,JW h]
 .rw[J0 h,J0 h]
theorem Ag {fk fx:En->Res R}{env:En}{ra rz:R}{ks:List Int}{g:Int->D}{x:Int}{f:Bool}{al:List Nat}(h:ra.d=.dic (ks.map ik) (ks.map g))(hk:fk env=.ok (.val (.int x) f al))(hx:fx env=.ok rz) :
 Gc fk fx env ra=.ok (if x∈ks then mkV (g x) ra.fr ra.al else mkV rz.d rz.fr rz.al):=by
 rw[HL h,hk,aB,C5,hx,aB,FP]
theorem FQ {ts:List Tri}{x:Int}(h:¬ x∈g1 ts):g2 ts x=[]:=by rw[LI];intro y hy;obtain⟨t,ht,h1,_⟩:=(jL ts x y).mp hy;exact h ((t_ ts x).mpr ⟨t,ht,h1⟩)
theorem FR {ts:List Tri}{x y:Int}(h:¬ y∈g2 ts x):g3 ts x y=[]:=by rw[LI];intro z hz;exact h ((jL ts x y).mpr ⟨_,(qu _ _ _ _).mp hz,rfl,rfl⟩)
theorem vK {ts:List Tri}{x:Int}{fa fk:En->Res R}{env:En}{f0:Bool}(ha:fa env=.ok (.val (bN ts) f0 []))(hk:fk env=.ok (.val (.int x) true [])) :
 ∃ f,l0 fa fk (fun _=>.ok (.fre (.dic [] []))) env=.ok (.val (iA ts x) f []):=by
 rw[uh,ha,aB,Ag (ks:=g1 ts) (g:=iA ts) rfl hk rfl];by_cases h:x∈g1 ts
 .rw[JW h];exact⟨f0,rfl⟩
 .rw[J0 h];unfold iA;rw[FQ h];exact⟨true,rfl⟩
theorem FS {ts:List Tri}{x y:Int}{fa fk:En->Res R}{env:En}{f0:Bool}(ha:fa env=.ok (.val (iA ts x) f0 []))(hk:fk env=.ok (.val (.int y) true [])) :
 ∃ f,l0 fa fk (iq az) env=.ok (.val (.lst ((g3 ts x y).map .int)) f []):=by
 rw[uh,ha,aB,Ag (ks:=g2 ts x) (g:=fun y=>.lst ((g3 ts x y).map .int)) rfl hk rfl];by_cases h:y∈g2 ts x
 .rw[JW h];exact⟨f0,rfl⟩
 .rw[J0 h,FR h];exact⟨true,rfl⟩
theorem wZ (ts:List Tri)(x:Int):(iA ts x).flat=false:=(rfl)
section
variable {A B:List Tri}{ro:Int}{k:Nat}{C:Cm}{ah X:List Pr}
def Ai (C C':Cm):Prop:=∀ q:Pr,q.2∈C.rk q.1->q.2∈C'.rk q.1
theorem Cg (T:Two A B ro)(H:Ah A B ro k C ah){p:Pr}{c:Int}(hp:layN A B ro k p){f5 f6 f7 f8:Bool}{e9 e10 e12 e13:Option Sl}(n9:cA e9=true)(n10:cA e10=true)(n12:cA e12=true)(n13:cA e13=true) :
 ∃ C' ah' e9' e10' e12' e13',(cA e9'=true/\cA e10'=true/\cA e12'=true/\cA e13'=true)/\Ah A B ro k C' ah'/\Ai C C'/\(∀ s o,(p.1,c,s)∈A->(p.2,c,o)∈B->o∈C'.rk s)/\
  ce (eO A B X C ah (vv (aA p) f5) (vv (iA B p.2) f6) (vv (.int c) f7) (vv (.lst ((g3 A p.1 c).map .int)) f8) e9 e10 e12 e13) =
  .ok (.nx (eO A B X C' ah' (vv (aA p) f5) (vv (iA B p.2) f6) (vv (.int c) f7) (vv (.lst ((g3 A p.1 c).map .int)) f8) e9' e10' e12' e13')):=by
 obtain⟨f9,h9⟩:=FS (ts:=B) (x:=p.2) (y:=c) (fa:=ag 6) (fk:=ag 7) (f0:=f6) (env:=eO A B X C ah (vv (aA p) f5) (vv (iA B p.2) f6) (vv (.int c) f7) (vv (.lst ((g3 A p.1 c).map .int)) f8) e9 e10 e12 e13) (by simp_arith[wZ]) (by simp_arith);obtain⟨aJ,lp,C',ah',e10',e12',e13',q1,q2,q3,q4,q5,q6,rfl⟩:=cV D.int (asg:=gN 10) (fr:=f8) (body:=cc) (g3 A p.1 c)
  (fun pre env=>∃ C' ah' e10' e12' e13',cA e10'=true/\cA e12'=true/\cA e13'=true/\Ah A B ro k C' ah'/\Ai C C'/\(∀ s∈pre,∀ o,(p.2,c,o)∈B->o∈C'.rk s)/\
    env=eO A B X C' ah' (vv (aA p) f5) (vv (iA B p.2) f6) (vv (.int c) f7) (vv (.lst ((g3 A p.1 c).map .int)) f8) (vv (.lst ((g3 B p.2 c).map .int)) f9) e10' e12' e13') (g3 A p.1 c) [] _ rfl ⟨C,ah,e10,e12,e13,n10,n12,n13,H,fun _ h=>h,(by simp),rfl⟩ (by
  rintro pre post s env hall ⟨C1,ah1,e10',e12',e13',m10,m12,m13,H1,M1,D1,rfl⟩;have hs:(p.1,c,s)∈A:=(qu _ _ _ _).mp (by rw[hall];simp);obtain⟨e12'',e13'',z12,z13,hr⟩:=FO (X:=X) T H1 hp hs (f5:=f5) (f7:=f7) (f9:=f9) (f10:=f8) (e6:=vv (iA B p.2) f6) (e8:=vv (.lst ((g3 A p.1 c).map .int)) f8) (e12:=e12') (e13:=e13') rfl rfl m12 m13;refine⟨_,_,rfl,hr,_,_,_,_,_,rfl,z12,z13,H1.more T hp hs,fun q hq=>(gW q).mpr (.inl (M1 q hq)),fun s' hs' o ho=>?_,rfl⟩;rcases Kf.mp hs' with hs'|hs'
  .exact(gW (s',o)).mpr (.inl (D1 s' hs' o ho))
  .rw[KB]at hs';subst hs';exact Ae o ho)
 refine⟨C',ah',vv (.lst ((g3 B p.2 c).map .int)) f9,e10',e12',e13',⟨rfl,q1,q2,q3⟩,q4,q5,fun s o h1 h2=>q6 s ((qu _ _ _ _).mpr h1) o h2,?_⟩;unfold ce;rw[aT,n_,h9,aB,jS _ (by simp),ml];dsimp only[List.set_cons_succ,List.set_cons_zero];rw[aB,cn,gd (ds:=(g3 A p.1 c).map .int) (fr:=f8) (al:=[]) (by simp_arith)];exact lp
theorem Ci (T:Two A B ro)(H:Ah A B ro k C ah){p:Pr}(hp:layN A B ro k p){f5:Bool}{e6 e7 e8 e9 e10 e12 e13:Option Sl}(n6:cA e6=true)(n7:cA e7=true)(n8:cA e8=true)(n9:cA e9=true)(n10:cA e10=true)(n12:cA e12=true)(n13:cA e13=true) :
 ∃ C' ah' e6' e7' e8' e9' e10' e12' e13',(cA e6'=true/\cA e7'=true/\cA e8'=true/\cA e9'=true/\cA e10'=true/\cA e12'=true/\cA e13'=true)/\Ah A B ro k C' ah'/\Ai C C'/\(∀ q,jp A B p q->q.2∈C'.rk q.1)/\
  cf (eO A B X C ah (vv (aA p) f5) e6 e7 e8 e9 e10 e12 e13)=.ok (.nx (eO A B X C' ah' (vv (aA p) f5) e6' e7' e8' e9' e10' e12' e13')):=by
 obtain⟨f6,h6⟩:=vK (ts:=B) (x:=p.2) (fa:=ag 1) (fk:=aw 5 (vC (.int 1))) (f0:=false) (env:=eO A B X C ah (vv (aA p) f5) e6 e7 e8 e9 e10 e12 e13) (by simp_arith[fJ]) (by simp_arith[aA]);obtain⟨f8,h8⟩:=vK (ts:=A) (x:=p.1) (fa:=ag 0) (fk:=aw 5 (vC (.int 0))) (f0:=false) (env:=eO A B X C ah (vv (aA p) f5) (vv (iA B p.2) f6) e7 e8 e9 e10 e12 e13) (by simp_arith[fJ]) (by simp_arith[aA]);obtain⟨aJ,lp,C',ah',e7',e8',e9',e10',e12',e13',q1,q2,q3,q4,rfl⟩:=cV (fun c:Int=>D.tup [.int c,.lst ((g3 A p.1 c).map .int)]) (asg:=gT 2 (jF (gN 7) (jF (gN 8) yf))) (fr:=f8) (body:=ce) (g2 A p.1)
  (fun pre env=>∃ C' ah' e7' e8' e9' e10' e12' e13',(cA e7'=true/\cA e8'=true/\cA e9'=true/\cA e10'=true/\cA e12'=true/\cA e13'=true)/\Ah A B ro k C' ah'/\Ai C C'/\(∀ c∈pre,∀ s o,(p.1,c,s)∈A->(p.2,c,o)∈B->o∈C'.rk s)/\
    env=eO A B X C' ah' (vv (aA p) f5) (vv (iA B p.2) f6) e7' e8' e9' e10' e12' e13') (g2 A p.1) [] _ rfl ⟨C,ah,e7,e8,e9,e10,e12,e13,⟨n7,n8,n9,n10,n12,n13⟩,H,fun _ h=>h,(by simp),rfl⟩ (by
  rintro pre post c env hall ⟨C1,ah1,e7',e8',e9',e10',e12',e13',⟨_,_,m9,m10,m12,m13⟩,H1,M1,D1,rfl⟩;obtain⟨C2,ah2,e9'',e10'',e12'',e13'',⟨z9,z10,z12,z13⟩,H2,M2,D2,hr⟩:=Cg (X:=X) T H1 hp (c:=c) (f5:=f5) (f6:=f6) (f7:=f8) (f8:=f8) m9 m10 m12 m13;refine⟨_,_,rfl,hr,_,_,_,_,_,_,_,_,⟨rfl,rfl,z9,z10,z12,z13⟩,H2,fun q hq=>M2 q (M1 q hq),fun c' hc' s o h1 h2=>?_,rfl⟩;rcases Kf.mp hc' with hc'|hc'
  .exact M2 (s,o) (D1 c' hc' s o h1 h2)
  .rw[KB]at hc';subst hc';exact D2 s o h1 h2)
 refine⟨C',ah',vv (iA B p.2) f6,e7',e8',e9',e10',e12',e13',⟨rfl,q1⟩,q2,q3,fun q hq=>?_,?_⟩
 .obtain⟨c,h1,h2⟩:=hq;exact q4 c ((jL _ _ _).mpr ⟨_,h1,rfl,rfl⟩) _ _ h1 h2
 .unfold cf;rw[aT,n_,h6,aB,jS _ (by simp),ml];dsimp only[List.set_cons_succ,List.set_cons_zero];rw[aB,cn,zM,h8,aB];refine(B3 (ks:=g2 A p.1) (g:=fun y=>.lst ((g3 A p.1 y).map .int))).trans ?_;exact(KQ fW lp).trans (zN _)
theorem Aj (T:Two A B ro)(hX:∀ q,q∈X↔layN A B ro k q)(H:Ah A B ro k C []) :
 ∃ C' ah',Ah A B ro k C' ah'/\(∀ q,q∈ah'↔layN A B ro (k+1) q)/\cW [bN A,bN B,.lst (X.map aA)] C.d=.ok (ah'.map aA,C'.d):=by
 obtain⟨aJ,lp,C',ah',e5',e6',e7',e8',e9',e10',e12',e13',q1,q2,q3,q4,rfl⟩:=cV aA (asg:=gN 5) (fr:=false) (body:=cf) X
  (fun pre env=>∃ C' ah' e5' e6' e7' e8' e9' e10' e12' e13',(cA e6'=true/\cA e7'=true/\cA e8'=true/\cA e9'=true/\cA e10'=true/\cA e12'=true/\cA e13'=true)/\Ah A B ro k C' ah'/\Ai C C'/\(∀ p∈pre,∀ q,jp A B p q->q.2∈C'.rk q.1)/\
    env=eO A B X C' ah' e5' e6' e7' e8' e9' e10' e12' e13') X [] (eO A B X C [] none none none none none none none none) rfl ⟨C,[],none,none,none,none,none,none,none,none,⟨rfl,rfl,rfl,rfl,rfl,rfl,rfl⟩,H,fun _ h=>h,(by simp),rfl⟩ (by
  rintro pre post p env hall ⟨C1,ah1,e5',e6',e7',e8',e9',e10',e12',e13',⟨m6,m7,m8,m9,m10,m12,m13⟩,H1,M1,D1,rfl⟩;have hp:layN A B ro k p:=(hX p).mp (by rw[hall];simp);obtain⟨C2,ah2,e6'',e7'',e8'',e9'',e10'',e12'',e13'',z,H2,M2,D2,hr⟩:=Ci (X:=X) T H1 hp (f5:=false) m6 m7 m8 m9 m10 m12 m13;refine⟨_,_,rfl,hr,_,_,_,_,_,_,_,_,_,_,z,H2,fun q hq=>M2 q (M1 q hq),fun p' hp' q hq=>?_,rfl⟩;rcases Kf.mp hp' with hp'|hp'
  .exact M2 q (D1 p' hp' q hq)
  .rw[KB]at hp';subst hp';exact D2 q hq)
 refine⟨C',ah',q2,fun q=>⟨q2.lay q,fun hq=>?_⟩,?_⟩
 .obtain⟨hn,p,hp,hs⟩:=layS.mp hq;exact((q2.mem q).mp (q4 p ((hX p).mpr hp) q hs)).resolve_left hn
 .unfold cW L3.Bp;rw[show gI bp [bN A,bN B,.lst (X.map aA)] C.d=[vv (bN A) false,vv (bN B) false,vv (.lst (X.map aA)) false,some (.fix 0 (.ds C.d)),none,none,none,none,none,none,none,none,none,none] from rfl];unfold hZ;rw[aT];simp_arith;rw[gd (ds:=X.map aA) (fr:=false) (al:=[]) (by simp_arith)];refine(KQ (fun z:Res Fl=>yT 3 (z.bind (kS (gJ 4)))) lp).trans ?_;rw[aB,cn,vE (ds:=ah'.map aA) (fr:=true) rfl];exact FK (oA _) rfl
theorem vL {q:Pr}{f0 f1:Bool}{e2 e3:Option Sl}(h1:q.1∈C.ks)(h2:q.2∈C.rk q.1)(hf:(C.v q.1 q.2).flat=true) :
 v2 fG (aw 0 (aw 1 (vC (.int 0)))) (aw 1 (vC (.int 1))) [vv C.d f0,vv (aA q) f1,e2,e3]=.ok (.val (C.v q.1 q.2) true []):=by
 have h3:aw 1 (vC (.int 0)) [vv C.d f0,vv (aA q) f1,e2,e3]=.ok (.val (.int q.1) true []):=by simp_arith[aA]
 have h4:aw 1 (vC (.int 1)) [vv C.d f0,vv (aA q) f1,e2,e3]=.ok (.val (.int q.2) true []):=by simp_arith[aA]
 have h5:aw 0 (aw 1 (vC (.int 0))) [vv C.d f0,vv (aA q) f1,e2,e3]=.ok (.val (jr (C.rk q.1) (C.v q.1)) f0 []):=by rw[C4];show v2 fG (ag 0) (aw 1 (vC (.int 0))) [vv C.d f0,vv (aA q) f1,e2,e3]=_;rw[EI,u9];show((Res.ok (R.val C.d f0 [])).bind _)=_;rw[aB,yY,h3,aB,zQ (ks:=C.ks.map ik) (ds:=C.ks.map fun x=>jr (C.rk x) (C.v x)) (x:=ik q.1) (d:=jr (C.rk q.1) (C.v q.1)) rfl rfl (eR q.1 _) (by rw[show ik q.1=Sum.inl (Sum.inl q.1) from rfl,kY,JW h1])];rfl
 rw[EI,h5,aB,yY,h4,aB,zQ (ks:=(C.rk q.1).map ik) (ds:=(C.rk q.1).map (C.v q.1)) (x:=ik q.2) (d:=C.v q.1 q.2) rfl rfl (eR q.2 _) (by rw[show ik q.2=Sum.inl (Sum.inl q.2) from rfl,kY,JW h2]),yW hf]
theorem Ah.key (H:Ah A B ro k C ah){q:Pr}(h:q.2∈C.rk q.1):q.1∈C.ks:=by
 by_cases h1:q.1∈C.ks
 .exact h1
 .rw[H.r0 _ h1]at h;cases h
theorem Ah.back (H:Ah A B ro k C []){j:Nat}{q:Pr}(hj:j<=k)(hq:layN A B ro j q):q.2∈C.rk q.1/\Back A B ro j q (C.v q.1 q.2):=by have h1:q.2∈C.rk q.1:=(H.mem q).mpr (.inl (vI (db hq) hj));obtain⟨i,hi⟩:=H.bk q h1;rw[Aa hq hi.lay];exact⟨h1,hi⟩
theorem oB (T:Two A B ro)(H:Ah A B ro k C [])(hk:k<=1000){z:Pr}:∀(j n:Nat)(q:Pr)(st:List Int)(f1:Bool),j<=k->j<n->st.length+j<=1000->layN A B ro j q->iE A q.1 st.reverse z.1->iE B q.2 st.reverse z.2->
 ∃(r:Pr)(st':List Int)(f1':Bool)(e3:Option Sl),layN A B ro 0 r/\st'.length=st.length+j/\iE A r.1 st'.reverse z.1/\iE B r.2 st'.reverse z.2/\
  bM (nI (ag 3)) bF n [vv C.d false,vv (aA q) f1,ow (st.map .int) true,vv (C.v q.1 q.2) true]=.ok (.nx [vv C.d false,vv (aA r) f1',ow (st'.map .int) true,e3])
 |0,n,q,st,f1,hj,hn,hl,hq,p1,p2=>by obtain⟨n,rfl⟩ : ∃ m,n=m+1:=⟨n-1,by omega⟩;obtain⟨h1,h2⟩:=H.back hj hq;refine⟨q,st,f1,vv (C.v q.1 q.2) true,hq,rfl,p1,p2,?_⟩;rw[h2.1];unfold bM;simp_arith;rfl
 |j+1,n,q,st,f1,hj,hn,hl,hq,p1,p2=>by
  obtain⟨n,rfl⟩ : ∃ m,n=m+1:=⟨n-1,by omega⟩;obtain⟨h1,_,p,c,hd,hp,a1,a2⟩:=H.back hj hq;obtain⟨g1,g2⟩:=H.back (by omega) hp;obtain⟨r,st',f1',e3,r1,r2,r3,r4,ih⟩:=oB T H hk j n p (st++[c]) true (by omega) (by omega) (by rw[Kp];simp;omega) hp (by rw[List.reverse_append];exact⟨q.1,a1,p1⟩) (by rw[List.reverse_append];exact⟨q.2,a2,p2⟩);refine⟨r,st',f1',e3,r1,by rw[r2,Kp];simp;omega,r3,r4,?_⟩;have hap:(st.map D.int).length<1000000:=by rw[JU];omega
  have hl:=vL (C:=C) (q:=p) (f0:=false) (f1:=true) (e2:=ow ((st++[c]).map .int) true) (e3:=vv (j3 p c) true) (H.key g1) g1 g2.flat;have hb:bF [vv C.d false,vv (aA q) f1,ow (st.map .int) true,vv (j3 p c) true]=.ok (.nx [vv C.d false,vv (aA p) true,ow ((st++[c]).map .int) true,vv (C.v p.1 p.2) true]):=by
   unfold bF;rw[aT];have e1:mT 2 (aw 3 (vC (.int 1))) [vv C.d false,vv (aA q) f1,ow (st.map .int) true,vv (j3 p c) true]=.ok (.nx [vv C.d false,vv (aA q) f1,ow ((st++[c]).map .int) true,vv (j3 p c) true]):=by rw[Ki];simp_arith[j3,aA,pT hap]
   have e2:aP 1 (aw 3 (vC (.int 0))) [vv C.d false,vv (aA q) f1,ow ((st++[c]).map .int) true,vv (j3 p c) true]=.ok (.nx [vv C.d false,vv (aA p) true,ow ((st++[c]).map .int) true,vv (j3 p c) true]):=by simp_arith[j3,aA]
   rw[e1,aB,cn,aT,e2,aB,cn,n_,hl,aB,jS _ (by simp),ml];rfl
  rw[hd];unfold bM;rw[show nI (ag 3) [vv C.d false,vv (aA q) f1,ow (st.map .int) true,vv (.tup [.tup [.int p.1,.int p.2],.int c]) true]=.ok true by simp_arith,aB,JW rfl,show bF [vv C.d false,vv (aA q) f1,ow (st.map .int) true,vv (.tup [.tup [.int p.1,.int p.2],.int c]) true]=_ from hb,aB];exact ih
theorem sL (T:Two A B ro)(H:Ah A B ro k C [])(hk:k<=1000){q:Pr}(hq:layN A B ro k q) :
 ∃(r:Int)(st:List Int),0<=r/\r<ro/\st.length=k/\iE A r st q.1/\iE B r st q.2/\bJ [C.d,aA q]=.ok (.val (.tup [.int r,.lst (st.map .int)]) true [2]):=by
 obtain⟨g1,g2⟩:=H.back (J1 k) hq;obtain⟨r,st',f1',e3,r1,r2,r3,r4,lp⟩:=oB T H hk k 100000 q [] false (J1 k) (by omega) (by simp;omega) hq rfl rfl;have hl:=vL (C:=C) (q:=q) (f0:=false) (f1:=false) (e2:=ow [] true) (e3:=none) (H.key g1) g1 g2.flat;have h0:=lay0.mp r1;refine⟨r.1,st'.reverse,h0.2.1,h0.2.2,by rw[ML,r2];simp,r3,by rw[h0.1];exact r4,?_⟩;unfold bJ fy;rw[show dP eZ [C.d,aA q]=[vv C.d false,vv (aA q) false,none,none] from rfl];unfold hW;have e1:aP 2 (iq az) [vv C.d false,vv (aA q) false,none,none]=.ok (.nx [vv C.d false,vv (aA q) false,ow [] true,none]):=by simp_arith
 rw[aT,e1,aB,cn,aT,n_,hl,aB,jS _ (by simp),ml,aB,cn,aT];refine(KQ (fun z:Res Fl=>df (z.bind (kS (aD (wH 2) (cN (fm (aj (aw 1 (vC (.int 0))) (aj (ag 2) az)))))))) lp).trans ?_;rw[aB,cn,aT,HV (ds:=st'.map .int) (fr:=true) rfl,aB,cn,<- List.map_reverse];simp_arith[aA]
end
theorem vM {f:En->Res R}{asg:D->Bool->En->Option En}{fb:En->Res Fl}{env:En}{ds:List D}{fr:Bool}(h:f env=.ok (.val (.lst ds) fr [])):dR f asg fb env=bx asg fr fb ds env:=gd h
theorem oC (xs:List Int)(hl:xs.length<=1000):dX [.lst (xs.map .int)]=.ok (.fre (bD (bV xs))):=by
 have hl2:xs.length<=1000000:=by omega
 have hc:∀(e0:Option Sl)(fr:Bool),kq 1 [] (gN 0) (fun _=>.ok true) cq [e0] ⟨xs.map .int,fr,[]⟩=.ok (.new (xs.map fun x=>.tup [.int x,.bl true]) true):=by
  intro e0 fr;have h:=g9 (mk:=fun d=>gN 0 d fr (fw [e0] 1 [])) (test:=fun _=>.ok true)
   (elt:=cq) D.int (fun x=>.val (.tup [.int x,.bl true]) true []) xs fun x hc=>⟨_,rfl,rfl,by show cq [vv (.int x) fr]=_;simp_arith[cq]⟩
  rw[ja (by rw[JU];exact hl2) h,sw,gO,gK (cw _ _ fun c=>rfl)]
 have hd:∀ f,jK [.new (xs.map fun x=>.tup [.int x,.bl true]) f]=.ok (.fre (bD (bV xs))):=fun f=>zF rfl;have hx:∀ f,jN 1 [] (ag 0) (gN 0) (fun _=>.ok true) cq [vv (.lst (xs.map .int)) f]=cM 1 [] (fq (ag 0)) (gN 0) (fun _=>.ok true) cq [vv (.lst (xs.map .int)) f]:=fun f=>zL (ds:=xs.map .int) (fr:=f) (al:=[]) (by simp_arith);simp_arith[dX,sx,hx,hc,hd]
def jt (ea eb:List Int)(q:Pr):Prop:=q.1∈ea/\q.2∈eb
def Iy (A B:List Tri)(ro:Int)(ea eb:List Int):Option (Int×List Int)->Prop
 |some (r,st)=>0<=r/\r<ro/\(∃ e∈ea,iE A r st e)/\(∃ e∈eb,iE B r st e)/\(∃ q,layN A B ro st.length q/\jt ea eb q)/\∀ j<st.length,∀ q,layN A B ro j q->¬ jt ea eb q
 |none=>∃ K,(∀ q,¬ layN A B ro K q)/\∀ j<K,∀ q,layN A B ro j q->¬ jt ea eb q
def Ju:Option (Int×List Int)->Fl->Prop
 |some (r,st),f=>f=.rt (.fre (.tup [.int r,.lst (st.map .int)]))
 |none,f=>∃ e,f=.nx e
theorem Ib (x:Int)(es:List Int):decide (x∈bV es)=decide (x∈es):=by
 have:x∈bV es↔x∈es:=by unfold bV;rw[fH];simp
 rw[decide_eq_decide];exact this
section
variable {A B:List Tri}{ro:Int}{k:Nat}{C:Cm}{X:List Pr}{ea eb:List Int}
abbrev eC (e0 e1 e2:Option Sl)(A B:List Tri)(ea eb:List Int)(e7:Option Sl)(C:Cm)(e9:Option Sl):En:=[e0,e1,e2,vv (bN A) true,vv (bN B) true,vv (bD (bV ea)) true,vv (bD (bV eb)) true,e7,some (.dis C.d),e9]
theorem oD (T:Two A B ro)(H:Ah A B ro k C [])(hk:k<=1000){e0 e1 e2 e7:Option Sl}{fr:Bool}:∀(X:List Pr)(e9:Option Sl),(∀ q∈X,layN A B ro k q)->
 (∃ r st,0<=r/\r<ro/\st.length=k/\(∃ q,layN A B ro k q/\jt ea eb q/\iE A r st q.1/\iE B r st q.2)/\bx (gN 9) fr cr (X.map aA) (eC e0 e1 e2 A B ea eb e7 C e9)=.ok (.rt (.fre (.tup [.int r,.lst (st.map .int)]))))\/
 ((∀ q∈X,¬ jt ea eb q)/\∃ e9',bx (gN 9) fr cr (X.map aA) (eC e0 e1 e2 A B ea eb e7 C e9)=.ok (.nx (eC e0 e1 e2 A B ea eb e7 C e9')))
 | [],e9,_=>.inr ⟨by simp,e9,rfl⟩
 |q::X,e9,hX=>by
  have hq:=hX q (by simp);have hasg:gN 9 (aA q) fr (eC e0 e1 e2 A B ea eb e7 C e9)=some (eC e0 e1 e2 A B ea eb e7 C (vv (aA q) fr)):=rfl;have hcond:∀(a b:Bool),decide (q.1∈ea)=a->decide (q.2∈eb)=b->jE (vB (v2 jI (aw 9 (vC (.int 0))) (ag 5))) (vB (v2 jI (aw 9 (vC (.int 1))) (ag 6))) (eC e0 e1 e2 A B ea eb e7 C (vv (aA q) fr))=.ok (a&&b):=by intro a b ha hb;unfold aA;cases a<;>simp_arith[k_,zG,Ib,ha,hb,KR,J_]
  by_cases h:jt ea eb q
  .left;obtain⟨r,st,r0,r1,r2,r3,r4,hst⟩:=sL T H hk hq;refine⟨r,st,r0,r1,r2,⟨q,hq,h,r3,r4⟩,?_⟩;rw[J4,gM hasg];unfold cr;rw[rZ,hcond true true (Kk h.1) (Kk h.2),aB,L1,nX];have:aW bJ (aj (ag 8) (aj (ag 9) az)) (eC e0 e1 e2 A B ea eb e7 C (vv (aA q) fr))=.ok (.fre (.tup [.int r,.lst (st.map .int)])):=by
    have h9:ag 9 (eC e0 e1 e2 A B ea eb e7 C (vv (aA q) fr))=.ok (.val (aA q) true []):=by simp_arith[aA]
    rw[za,pQ,u9];show((Res.ok (R.val C.d true [8])).bind _).bind _=_;rw[aB,pR,pQ,h9,aB,pR,y6,aB,mn,aB,mn,aB,u_];show((bJ [C.d,aA q]).bind _)=_;rw[hst,aB,r_,sf _ (by simp only[jb,dS,gL,jc,M8,LO])]
   rw[CS,this,aB,yV,aB,vi]
  .have hx:=oD T H hk (e0:=e0) (e1:=e1) (e2:=e2) (e7:=e7) (fr:=fr) X (vv (aA q) fr) fun z hz=>hX z (by simp[hz]);have hstep:bx (gN 9) fr cr ((q::X).map aA) (eC e0 e1 e2 A B ea eb e7 C e9)=bx (gN 9) fr cr (X.map aA) (eC e0 e1 e2 A B ea eb e7 C (vv (aA q) fr)):=by
    have hb:(decide (q.1∈ea)&&decide (q.2∈eb))=false:=by rw[M7];intro e;rw[Kh,Kx,Kx]at e;exact h e
    rw[J4,gM hasg];unfold cr;rw[rZ,hcond _ _ rfl rfl,aB,hb,nY,nZ,aB,g_]
   rw[hstep];rcases hx with hx|⟨h1,h2⟩
   .exact .inl hx
   .refine .inr ⟨fun z hz=>?_,h2⟩;rcases J5.mp hz with rfl|hz
    .exact h
    .exact h1 z hz
theorem Ah.next {ah:List Pr}(H:Ah A B ro k C ah)(h:∀ q,q∈ah↔layN A B ro (k+1) q):Ah A B ro (k+1) C []:=⟨H.kn,H.kb,H.rn,H.r0,K6,fun q=>by rw[H.mem,seenS,h];simp,(fun q hq=>by cases hq),H.bk⟩
theorem kz (T:Two A B ro){e0 e1 e2:Option Sl}:∀(n k:Nat)(X:List Pr)(C:Cm)(e9:Option Sl),k+n=100000->k<=961->(∀ q,q∈X↔layN A B ro k q)->Ah A B ro k C []->(∀ j<k,∀ q,layN A B ro j q->¬ jt ea eb q)->
 ∃ o f,Iy A B ro ea eb o/\Ju o f/\bM (mR (ag 7)) ga n (eC e0 e1 e2 A B ea eb (ow (X.map aA) true) C e9)=.ok f
 |0,k,X,C,e9,hn,hk,_,_,_=>by omega
 |n+1,k,X,C,e9,hn,hk,hX,H,hno=>by
  have hc:mR (ag 7) (eC e0 e1 e2 A B ea eb (ow (X.map aA) true) C e9)=.ok (!(X.map aA).isEmpty):=by simp_arith
  unfold bM;rw[hc,aB];by_cases hXe:X=[]
  .refine⟨none,_,⟨k,fun q hq=>?_,hno⟩,⟨_,rfl⟩,by rw[hXe];rfl⟩;have:=(hX q).mpr hq;rw[hXe]at this;cases this
  .have hne:(!(X.map aA).isEmpty)=true:=by
    cases X with
    |nil=>exact absurd rfl hXe
    |cons a r=>rfl
   have hk1:k<961:=by obtain⟨a,ha⟩:=List.exists_mem_of_ne_nil X hXe;exact T.lt ⟨a,(hX a).mp ha⟩
   rw[hne,JW rfl];have hfx:∀ L,dR (ag 7) (gN 9) L (eC e0 e1 e2 A B ea eb (ow (X.map aA) true) C e9)=bx (gN 9) true L (X.map aA) (eC e0 e1 e2 A B ea eb (vv (.lst (X.map aA)) true) C e9):=fun L=>by rw[gd (ds:=X.map aA) (fr:=true) (al:=[7]) (by simp_arith),kZ (ds:=X.map aA) (f:=true) rfl];rfl
   rcases oD (ea:=ea) (eb:=eb) T H (by omega) (e0:=e0) (e1:=e1) (e2:=e2) (e7:=vv (.lst (X.map aA)) true) (fr:=true) X e9 fun q hq=>(hX q).mp hq with⟨r,st,r0,r1,r2,⟨q,q1,q2,q3,q4⟩,hl⟩|⟨h1,e9',hl⟩
   .refine⟨some (r,st),_,⟨r0,r1,⟨_,q2.1,q3⟩,⟨_,q2.2,q4⟩,⟨q,r2▸q1,q2⟩,r2▸hno⟩,rfl,?_⟩;unfold ga;rw[aT,hfx,hl,aB,EE,aB];rfl
   .obtain⟨C',ah',H',hah,hF⟩:=Aj T hX H;obtain⟨o,f,i1,i2,i3⟩:=kz T (e0:=e0) (e1:=e1) (e2:=e2) n (k+1) ah' C' e9' (by omega) (by omega) hah (H'.next hah) fun j hj q hq=>by
     by_cases e:j=k
     .subst e;exact h1 q ((hX q).mpr hq)
     .exact hno j (by omega) q hq
    refine⟨o,f,i1,i2,?_⟩;have hargs:(aj (ag 3) (aj (ag 4) (aj (ag 7) az))) (eC e0 e1 e2 A B ea eb (vv (.lst (X.map aA)) true) C e9')=.ok [.val (bN A) true [],.val (bN B) true [],.val (.lst (X.map aA)) true []]:=by simp_arith[fJ]
    unfold ga;rw[aT,hfx,hl,aB,cn,Ca,hargs,Res.noX_ok,aB,zW (x:=C.d) (y:=C'.d) (es:=ah'.map aA) rfl (by simp[bc,R.al]) (by decide) (by simp) hF,aB];exact i3
end
noncomputable def dh (ro:Int):List Int:=(List.range ro.toNat).map fun k=>((k:Nat):Int)
theorem room_mem {ro x:Int}:x∈dh ro↔0<=x/\x<ro:=by
 unfold dh;rw[J8];constructor
 .rintro⟨j,hj,rfl⟩;have:=Kv.mp hj;omega
 .rintro⟨h1,h2⟩;exact⟨x.toNat,Kv.mpr (by omega),MN h1⟩
theorem iF (ro:Int):(dh ro).Nodup:=cz _ L_ fun a _ b _ e=>by omega
theorem mH (ro:Int):(dh ro).length=ro.toNat:=by unfold dh;simp
def Ic (ro:Int):Cm:=⟨dh ro,fun x=>if 0<=x/\x<ro then [x] else [],fun _ _=>.non⟩
theorem Ie (ro:Int):(Ic ro).d=.dic ((dh ro).map ik) ((dh ro).map fun x=>.dic [ik x] [.non]):=by show D.dic ((dh ro).map ik) ((dh ro).map _)=_;congr 1;refine K4 fun x hx=>?_;have h:=room_mem.mp hx;show jr (if 0<=x/\x<ro then [x] else []) _=_;rw[JW h];rfl
theorem Cm0_mem {ro x y:Int}:y∈(Ic ro).rk x↔x=y/\0<=x/\x<ro:=by
 show y∈(if 0<=x/\x<ro then [x] else [])↔_;by_cases h:0<=x/\x<ro
 .rw[JW h,KB];exact⟨fun e=>⟨e.symm,h⟩,fun e=>e.1.symm⟩
 .rw[J0 h];exact⟨(fun e=>by cases e),fun e=>absurd e.2 h⟩
theorem JS {A B:List Tri}{ro:Int}(T:Two A B ro):Ah A B ro 0 (Ic ro) []:=by
 refine⟨iF ro,fun s hs=>?_,fun s=>?_,fun s hs=>?_,K6,fun q=>?_,(fun q hq=>by cases hq),fun q hq=>?_⟩
 .have:=room_mem.mp hs;have:=T.r1;omega
 .show(if 0<=s/\s<ro then [s] else []).Nodup;split<;>simp
 .exact J0 fun h=>hs (room_mem.mpr h)
 .rw[Cm0_mem,seen0];simp
 .exact⟨0,rfl,lay0.mpr (Cm0_mem.mp hq)⟩
def ba (ro:Int):List Pr:=(dh ro).map fun x=>(x,x)
theorem j5 {A B:List Tri}{ro:Int}(q:Pr):q∈ba ro↔layN A B ro 0 q:=by
 unfold ba;rw[J8,lay0];constructor
 .rintro⟨x,hx,rfl⟩;exact⟨rfl,room_mem.mp hx⟩
 .rintro⟨h1,h2⟩;exact⟨q.1,room_mem.mpr h2,by obtain⟨a,b⟩:=q;dsimp only at h1;rw[h1]⟩
theorem oE {F:En->Res R}{env:En}{fr:Bool}(ro:Int)(hr:ro<=8)(hF:∀ x f,F [vv (.int x) f]=.ok (.val (.tup [.int x,.int x]) true [])) :
 kq 1 [] (gN 0) (fun _=>.ok true) F env ⟨dN 0 ro.toNat,fr,[]⟩=.ok (.new ((ba ro).map aA) true):=by
 have h:=g9 (mk:=fun d=>gN 0 d fr (fw env 1 [])) (test:=fun _=>.ok true)
  (elt:=F) D.int (fun x=>.val (aA (x,x)) true []) (dh ro) fun x hc=>⟨_,rfl,rfl,hF x fr⟩
 have e:dN 0 ro.toNat=(dh ro).map D.int:=by rw[k7];unfold dh;rw[Kl];rfl
 rw[e,ja (by rw[JU,mH];omega) h,sw,gO,gK (cw _ _ fun c=>rfl)];unfold ba;rw[Kl];rfl
def sM:Option (Int×List Int)->R
 |some (r,st)=>.fre (.tup [.int r,.lst (st.map .int)])
 |none=>.val .non true []
abbrev eM (na nb ro sg:Int)(A B:List Tri)(ea eb:List Int)(a b c d e f g:Option Sl):En:=[vv (.tup [.int ro,.int sg,.lst []]) false,vv (Mc na A ea) false,vv (Mc nb B eb) false,a,b,c,d,e,f,g]
theorem oF {A B:List Tri}{ro:Int}(T:Two A B ro)(sg na nb:Int)(ea eb:List Int)(la:ea.length<=1000)(lb:eb.length<=1000) :
 ∃ o,Iy A B ro ea eb o/\dZ [.tup [.int ro,.int sg,.lst []],Mc na A ea,Mc nb B eb]=.ok (sM o):=by
 have r0:=T.r0;have r1:=T.r1;have m1:-4611686018427387904<=ro:=by omega
 have m2:ro<4611686018427387904:=by omega
 have hr:∀(env:En),8<env.length->(w6 (aj (aw 0 (vC (.int 0))) az)) env=.ok ⟨dN 0 ro.toNat,true,[]⟩->jR 8 (w6 (aj (aw 0 (vC (.int 0))) az)) env=.ok (.nx (env.set 8 (some (.dis (Ic ro).d)))):=fun env h1 h2=>by rw[Cb (is:=dh ro) h2 (by rw[k7];unfold dh;rw[Kl];rfl) (iF _) (by rw[mH];exact Ky (show ro.toNat<=8 by omega) (by decide)) h1,Ie]
 obtain⟨o,f,h1,h2,h3⟩:=kz (ea:=ea) (eb:=eb) T (e0:=vv (.tup [.int ro,.int sg,.lst []]) false) (e1:=vv (Mc na A ea) false) (e2:=vv (Mc nb B eb) false) 100000 0 (ba ro) (Ic ro) none rfl (by omega) (fun q=>j5 q) (JS T) (fun j hj=>by omega);refine⟨o,h1,?_⟩;have hga:=z8 na A ea T.la;have hgb:=z8 nb B eb T.lb;have hma:=oC ea la;have hmb:=oC eb lb;have hE:∀ x f,dY [vv (.int x) f]=.ok (.val (.tup [.int x,.int x]) true []):=fun x f=>by simp_arith[dY]
 have hpc:=fun(env:En)(fr:Bool)=>oE (F:=dY) (env:=env) (fr:=fr) ro r1 hE;have s3:cE 3 (aW bo (aj (ag 1) az)) (dP gQ [.tup [.int ro,.int sg,.lst []],Mc na A ea,Mc nb B eb])=.ok (.nx (eM na nb ro sg A B ea eb (vv (bN A) true) none none none none none none)):=by simp_arith[cK,hga,fJ]
 have s4:cE 4 (aW bo (aj (ag 2) az)) (eM na nb ro sg A B ea eb (vv (bN A) true) none none none none none none)=.ok (.nx (eM na nb ro sg A B ea eb (vv (bN A) true) (vv (bN B) true) none none none none none)):=by simp_arith[cK,hgb,fJ]
 have s5:cE 5 (aW dX (aj (aw 1 (vC (.int 2))) az)) (eM na nb ro sg A B ea eb (vv (bN A) true) (vv (bN B) true) none none none none none)=.ok (.nx (eM na nb ro sg A B ea eb (vv (bN A) true) (vv (bN B) true) (vv (bD (bV ea)) true) none none none none)):=by unfold eM Mc;simp_arith[hma,k_]
 have s6:cE 6 (aW dX (aj (aw 2 (vC (.int 2))) az)) (eM na nb ro sg A B ea eb (vv (bN A) true) (vv (bN B) true) (vv (bD (bV ea)) true) none none none none)=.ok (.nx (eM na nb ro sg A B ea eb (vv (bN A) true) (vv (bN B) true) (vv (bD (bV ea)) true) (vv (bD (bV eb)) true) none none none)):=by unfold eM Mc;simp_arith[hmb,k_]
 have s7:aP 7 (cM 1 [] (w6 (aj (aw 0 (vC (.int 0))) az)) (gN 0) (fun _=>.ok true) dY) (eM na nb ro sg A B ea eb (vv (bN A) true) (vv (bN B) true) (vv (bD (bV ea)) true) (vv (bD (bV eb)) true) none none none)=.ok (.nx (eM na nb ro sg A B ea eb (vv (bN A) true) (vv (bN B) true) (vv (bD (bV ea)) true) (vv (bD (bV eb)) true) (ow ((ba ro).map aA) true) none none)):=by simp_arith[oa,m1,m2,hpc]
 unfold dZ L3.fy sA;rw[aT,s3,aB,cn,aT,s4,aB,cn,aT,s5,aB,cn,aT,s6,aB,cn,aT,s7,aB,cn,aT,hr _ (by simp) (by simp_arith[oa,m1,m2]),aB,cn,aT];refine(KQ (fun z:Res Fl=>df (z.bind (kS (cN (vC .non))))) h3).trans ?_;cases o with
 |none=>obtain⟨e,rfl⟩:=h2;rfl
 |some p=>obtain⟨r,st⟩:=p;have:f=.rt (.fre (.tup [.int r,.lst (st.map .int)])):=h2;subst this;rfl
noncomputable def pk (q:Pr):DK:=.inr [.inl q.1,.inl q.2]
def d8 (qs:List Pr):D:=.dic (qs.map pk) (qs.map fun _=>.bl true)
theorem FT {a b:Pr}(h:pk a=pk b):a=b:=by have h:=MJ h;have h1:=KH (List.cons.inj h).1;have h2:=KH (List.cons.inj (List.cons.inj h).2).1;obtain⟨a1,a2⟩:=a;obtain⟨b1,b2⟩:=b;dsimp only at h1 h2;rw[h1,h2]
theorem ul (q:Pr)(qs:List Pr):(qs.map pk).all (kin (pk q))=true:=by rw[Nd,KJ];intro k _;rfl
theorem vN (qs:List Pr)(q:Pr):fU (qs.map pk) (pk q)=decide (q∈qs):=by
 unfold fU;rw[MT,Mq,Lw,Kx];constructor
 .rintro⟨k,hk,e⟩;exact FT (LC e)▸hk
 .intro h;exact⟨q,h,by simp⟩
theorem Ak (qs:List Pr)(q:Pr)(h:¬ q∈qs):bZ (qs.map pk) (qs.map fun _=>D.bl true) (pk q) (.bl true)=d8 (qs++[q]):=by unfold bZ;rw[vN,J0 (by rw[Kr h];simp)];unfold d8;rw[Ki,Ki];rfl
theorem Cj (q:Pr):keyX (aA q)=some (pk q):=(rfl)
theorem Ck (q:Pr)(qs:List Pr)(neg:Bool):mW neg (aA q) (d8 qs)=.ok (.val (.bl (if neg then !decide (q∈qs) else decide (q∈qs))) true []):=by unfold d8;rw[zA (k:=pk q) (Cj q) (ul q qs),vN]
structure Nx (A B:List Tri) (ro:Int) (k:Nat) (qs fd:List Pr):Prop where
 qn:qs.Nodup
 fn:fd.Nodup
 mem:∀ q:Pr,q∈qs↔seenN A B ro k q\/q∈fd
 lay:∀ q∈fd,layN A B ro (k+1) q
section
variable {A B:List Tri}{ro:Int}{k:Nat}{qs fd X:List Pr}
theorem mI {l:List Pr}{q:Pr}(h:l.Nodup)(hq:¬ q∈l):(l++[q]).Nodup:=by rw[LZ];refine⟨h,by simp,fun a ha b hb e=>?_⟩;rw[KB]at hb;exact hq (by rw[<- hb,<- e];exact ha)
theorem Nx.add (N:Nx A B ro k qs fd){q:Pr}(hq:¬ q∈qs){p:Pr}(hp:layN A B ro k p)(hs:jp A B p q):Nx A B ro k (qs++[q]) (fd++[q]):=by
 refine⟨mI N.qn hq,mI N.fn fun h=>hq ((N.mem q).mpr (.inr h)),fun z=>?_,fun z hz=>?_⟩
 .rw[Kf,Kf,N.mem];exact or_assoc
 .rcases Kf.mp hz with hz|hz
  .exact N.lay z hz
  .rw[KB]at hz;subst hz;exact layS.mpr ⟨fun h=>hq ((N.mem z).mpr (.inl h)),p,hp,hs⟩
theorem Nx.seen (N:Nx A B ro k qs fd){q:Pr}(h:q∈qs):seenN A B ro (k+1) q:=by
 rcases (N.mem q).mp h with h|h
 .exact seenS.mpr (.inl h)
 .exact db (N.lay q h)
theorem Nx.few (T:Two A B ro)(N:Nx A B ro k qs fd):qs.length<=961:=T.few N.qn fun _ h=>N.seen h
theorem Nx.few2 (T:Two A B ro)(N:Nx A B ro k qs fd):fd.length<=961:=T.few N.fn fun _ h=>db (N.lay _ h)
abbrev eN (na nb:Int)(A B:List Tri)(ea eb:List Int)(X qs fd:List Pr)(e5 e6 e7 e8:Option Sl):En:=[vv (Mc na A ea) false,vv (Mc nb B eb) false,vv (.lst (X.map aA)) false,some (.pin (d8 qs)),ow (fd.map aA) true,e5,e6,e7,e8]
theorem FU (T:Two A B ro)(N:Nx A B ro k qs fd){p:Pr}(hp:layN A B ro k p){t1 t2:Tri}(h1:t1∈A)(h1':t1.1=p.1)(h2:t2∈B){na nb:Int}{ea eb:List Int}{f5 f6 f7:Bool}{e8:Option Sl} :
 ∃ qs' fd' e8',Nx A B ro k qs' fd'/\(∀ q∈qs,q∈qs')/\(t2.1=p.2->t2.2.1=t1.2.1->(t1.2.2,t2.2.2)∈qs')/\cX (eN na nb A B ea eb X qs fd (vv (aA p) f5) (vv (tD t1) f6) (vv (tD t2) f7) e8)=.ok (.nx (eN na nb A B ea eb X qs' fd' (vv (aA p) f5) (vv (tD t1) f6) (vv (tD t2) f7) e8')):=by
 have ha:=N.few T;have hb:=N.few2 T;have hin:=Ck (t1.2.2,t2.2.2) qs true;have s1:aP 8 (fm (aj (aw 6 (vC (.int 2))) (aj (aw 7 (vC (.int 2))) az))) (eN na nb A B ea eb X qs fd (vv (aA p) f5) (vv (tD t1) f6) (vv (tD t2) f7) e8)=.ok (.nx (eN na nb A B ea eb X qs fd (vv (aA p) f5) (vv (tD t1) f6) (vv (tD t2) f7) (vv (aA (t1.2.2,t2.2.2)) true))):=by unfold tD aA;simp_arith
 have hc:∀ a b c:Bool,(t2.1==p.2)=a->(t2.2.1==t1.2.1)=b->(!decide ((t1.2.2,t2.2.2)∈qs))=c->jE (vB (v2 mQ (aw 7 (vC (.int 0))) (aw 5 (vC (.int 1))))) (jE (vB (v2 mQ (aw 7 (vC (.int 1))) (aw 6 (vC (.int 1))))) (vB (v2 iV (ag 8) (ag 3)))) (eN na nb A B ea eb X qs fd (vv (aA p) f5) (vv (tD t1) f6) (vv (tD t2) f7) (vv (aA (t1.2.2,t2.2.2)) true))=.ok (a&&(b&&c)):=by intro a b c ea eb ec;rw[JW rfl,ec]at hin;unfold aA at hin;unfold tD aA;cases a<;>cases b<;>simp_arith[iB,ea,eb,hin]
 unfold cX;rw[aT,s1,aB,cn,rZ,hc _ _ _ rfl rfl rfl,aB];by_cases h:t2.1=p.2/\t2.2.1=t1.2.1/\¬ (t1.2.2,t2.2.2)∈qs
 .have hcc:(t2.1==p.2&&(t2.2.1==t1.2.1&&!decide ((t1.2.2,t2.2.2)∈qs)))=true:=by rw[Kr h.2.2,h.1,h.2.1];simp
  have hN:=N.add h.2.2 hp (p:=p) ⟨t1.2.1,by rw[<- h1'];exact h1,by rw[<- h.1,<- h.2.1];exact h2⟩;refine⟨qs++[(t1.2.2,t2.2.2)],fd++[(t1.2.2,t2.2.2)],vv (aA (t1.2.2,t2.2.2)) true,hN,fun q hq=>by simp[hq],fun _ _=>by simp,?_⟩;rw[hcc,nX];have s2:iX 3 (ag 8) (vC (.bl true)) (eN na nb A B ea eb X qs fd (vv (aA p) f5) (vv (tD t1) f6) (vv (tD t2) f7) (vv (aA (t1.2.2,t2.2.2)) true))=.ok (.nx (eN na nb A B ea eb X (qs++[(t1.2.2,t2.2.2)]) fd (vv (aA p) f5) (vv (tD t1) f6) (vv (tD t2) f7) (vv (aA (t1.2.2,t2.2.2)) true))):=by have e3:(eN na nb A B ea eb X qs fd (vv (aA p) f5) (vv (tD t1) f6) (vv (tD t2) f7) (vv (aA (t1.2.2,t2.2.2)) true))[3]?=some (some (.pin (.dic (qs.map pk) (qs.map fun _=>.bl true)))):=rfl;rw[pY,e3,vw,pV,e3,sr];rw[Gf,aB,ss rfl,show ag 8 (eN na nb A B ea eb X qs fd (vv (aA p) f5) (vv (tD t1) f6) (vv (tD t2) f7) (vv (aA (t1.2.2,t2.2.2)) true))=.ok (.val (aA (t1.2.2,t2.2.2)) true []) by simp_arith[aA],aB,zP (x:=pk (t1.2.2,t2.2.2)) rfl (ul _ _) (by rw[JU];omega)];rw[show(R.val (D.bl true) true []).d=.bl true from rfl,Ak _ _ h.2.2];rfl
  have hap:(fd.map aA).length<1000000:=by rw[JU];omega
  have s3:mT 4 (ag 8) (eN na nb A B ea eb X (qs++[(t1.2.2,t2.2.2)]) fd (vv (aA p) f5) (vv (tD t1) f6) (vv (tD t2) f7) (vv (aA (t1.2.2,t2.2.2)) true))=.ok (.nx (eN na nb A B ea eb X (qs++[(t1.2.2,t2.2.2)]) (fd++[(t1.2.2,t2.2.2)]) (vv (aA p) f5) (vv (tD t1) f6) (vv (tD t2) f7) (vv (aA (t1.2.2,t2.2.2)) true))):=by
   have e1:(fd++[(t1.2.2,t2.2.2)]).map aA=fd.map aA++[.tup [.int t1.2.2,.int t2.2.2]]:=by rw[Ki];rfl
   show _=Res.ok (Fl.nx [_,_,_,_,ow ((fd++[(t1.2.2,t2.2.2)]).map aA) true,_,_,_,_]);rw[e1];simp_arith[aA,pT hap]
  rw[aT,s2,aB,cn,s3]
 .have hcc:(t2.1==p.2&&(t2.2.1==t1.2.1&&!decide ((t1.2.2,t2.2.2)∈qs)))=false:=by rw[M7];intro e;rw[Kh,Kh,LP,LP,Bool.not_eq_true',decide_eq_false_iff_not]at e;exact h e
  rw[hcc,nY,nZ];refine⟨qs,fd,_,N,fun q hq=>hq,fun g1 g2=>?_,rfl⟩;by_cases h3:(t1.2.2,t2.2.2)∈qs
  .exact h3
  .exact absurd ⟨g1,g2,h3⟩ h
theorem Co (T:Two A B ro)(hX:∀ q,q∈X↔layN A B ro k q)(N:Nx A B ro k qs [])(na nb:Int)(ea eb:List Int) :
 ∃ qs' fd',Nx A B ro k qs' fd'/\(∀ q,q∈fd'↔layN A B ro (k+1) q)/\eU [Mc na A ea,Mc nb B eb,.lst (X.map aA)] (d8 qs)=.ok (fd'.map aA,d8 qs'):=by
 have l2:∀(qs fd:List Pr),Nx A B ro k qs fd->∀(p:Pr),layN A B ro k p->∀(t1:Tri),t1∈A->∀(f5 f6:Bool)(e7 e8:Option Sl),∃ qs' fd' e7' e8',Nx A B ro k qs' fd'/\(∀ q∈qs,q∈qs')/\(t1.1=p.1->∀ t2∈B,t2.1=p.2->t2.2.1=t1.2.1->(t1.2.2,t2.2.2)∈qs')/\
  cY (eN na nb A B ea eb X qs fd (vv (aA p) f5) (vv (tD t1) f6) e7 e8)=.ok (.nx (eN na nb A B ea eb X qs' fd' (vv (aA p) f5) (vv (tD t1) f6) e7' e8')):=by
  intro qs fd N p hp t1 ht1 f5 f6 e7 e8;have hc:vB (v2 mQ (aw 6 (vC (.int 0))) (aw 5 (vC (.int 0)))) (eN na nb A B ea eb X qs fd (vv (aA p) f5) (vv (tD t1) f6) e7 e8)=.ok (t1.1==p.1):=by unfold tD aA;simp_arith[iB]
  unfold cY;rw[rZ,hc,aB];by_cases h:t1.1=p.1
  .rw[LP.mpr h,nX];obtain⟨aJ,lp,qs',fd',e7',e8',q1,q2,q3,rfl⟩:=cV tD (asg:=gN 7) (fr:=false) (body:=cX) B
    (fun pre env=>∃ qs' fd' e7' e8',Nx A B ro k qs' fd'/\(∀ q∈qs,q∈qs')/\(∀ t2∈pre,t2.1=p.2->t2.2.1=t1.2.1->(t1.2.2,t2.2.2)∈qs')/\env=eN na nb A B ea eb X qs' fd' (vv (aA p) f5) (vv (tD t1) f6) e7' e8') B [] _ rfl ⟨qs,fd,e7,e8,N,fun _ h=>h,(by simp),rfl⟩ (by
    rintro pre post t2 env hall ⟨qs1,fd1,e7',e8',N1,M1,D1,rfl⟩;have h2:t2∈B:=by rw[hall];simp
    obtain⟨qs2,fd2,e8'',N2,M2,D2,hr⟩:=FU (X:=X) T N1 hp ht1 h h2 (na:=na) (nb:=nb) (ea:=ea) (eb:=eb) (f5:=f5) (f6:=f6) (f7:=false) (e8:=e8');refine⟨_,_,rfl,hr,_,_,_,_,N2,fun q hq=>M2 q (M1 q hq),fun t ht=>?_,rfl⟩;rcases Kf.mp ht with ht|ht
    .exact fun g1 g2=>M2 _ (D1 t ht g1 g2)
    .rw[KB]at ht;subst ht;exact D2)
   refine⟨qs',fd',e7',e8',q1,q2,fun _=>q3,?_⟩;have hs:fq (aw 1 (vC (.int 1))) (eN na nb A B ea eb X qs fd (vv (aA p) f5) (vv (tD t1) f6) e7 e8)=.ok ⟨B.map tD,false,[]⟩:=by unfold eN Mc;simp_arith
   rw[zg,hs,aB];exact lp
  .rw[show(t1.1==p.1)=false by simpa using h,nY,nZ];exact⟨qs,fd,e7,e8,N,fun _ h=>h,fun e=>absurd e h,rfl⟩
 have l3:∀(qs fd:List Pr),Nx A B ro k qs fd->∀(p:Pr),layN A B ro k p->∀(f5:Bool)(e6 e7 e8:Option Sl),∃ qs' fd' e6' e7' e8',Nx A B ro k qs' fd'/\(∀ q∈qs,q∈qs')/\(∀ q,jp A B p q->q∈qs')/\
  cZ (eN na nb A B ea eb X qs fd (vv (aA p) f5) e6 e7 e8)=.ok (.nx (eN na nb A B ea eb X qs' fd' (vv (aA p) f5) e6' e7' e8')):=by
  intro qs fd N p hp f5 e6 e7 e8;obtain⟨aJ,lp,qs',fd',e6',e7',e8',q1,q2,q3,rfl⟩:=cV tD (asg:=gN 6) (fr:=false) (body:=cY) A
   (fun pre env=>∃ qs' fd' e6' e7' e8',Nx A B ro k qs' fd'/\(∀ q∈qs,q∈qs')/\(∀ t1∈pre,t1.1=p.1->∀ t2∈B,t2.1=p.2->t2.2.1=t1.2.1->(t1.2.2,t2.2.2)∈qs')/\env=eN na nb A B ea eb X qs' fd' (vv (aA p) f5) e6' e7' e8') A [] _ rfl ⟨qs,fd,e6,e7,e8,N,fun _ h=>h,(by simp),rfl⟩ (by
   rintro pre post t1 env hall ⟨qs1,fd1,e6',e7',e8',N1,M1,D1,rfl⟩;have h1:t1∈A:=by rw[hall];simp
   obtain⟨qs2,fd2,e7'',e8'',N2,M2,D2,hr⟩:=l2 qs1 fd1 N1 p hp t1 h1 f5 false e7' e8';refine⟨_,_,rfl,hr,_,_,_,_,_,N2,fun q hq=>M2 q (M1 q hq),fun t ht=>?_,rfl⟩;rcases Kf.mp ht with ht|ht
   .exact fun g1 t2 h2 g2 g3=>M2 _ (D1 t ht g1 t2 h2 g2 g3)
   .rw[KB]at ht;subst ht;exact D2)
  refine⟨qs',fd',e6',e7',e8',q1,q2,fun q hq=>?_,?_⟩
  .obtain⟨c,h1,h2⟩:=hq;exact q3 _ h1 rfl _ h2 rfl rfl
  .have hs:fq (aw 0 (vC (.int 1))) (eN na nb A B ea eb X qs fd (vv (aA p) f5) e6 e7 e8)=.ok ⟨A.map tD,false,[]⟩:=by unfold eN Mc;simp_arith
   unfold cZ;rw[zg,hs,aB];exact lp
 obtain⟨aJ,lp,qs',fd',e5',e6',e7',e8',q1,q2,q3,rfl⟩:=cV aA (asg:=gN 5) (fr:=false) (body:=cZ) X
  (fun pre env=>∃ qs' fd' e5' e6' e7' e8',Nx A B ro k qs' fd'/\(∀ q∈qs,q∈qs')/\(∀ p∈pre,∀ q,jp A B p q->q∈qs')/\env=eN na nb A B ea eb X qs' fd' e5' e6' e7' e8') X [] (eN na nb A B ea eb X qs [] none none none none) rfl ⟨qs,[],none,none,none,none,N,fun _ h=>h,(by simp),rfl⟩ (by
  rintro pre post p env hall ⟨qs1,fd1,e5',e6',e7',e8',N1,M1,D1,rfl⟩;have h1:p∈X:=by rw[hall];simp
  obtain⟨qs2,fd2,e6'',e7'',e8'',N2,M2,D2,hr⟩:=l3 qs1 fd1 N1 p ((hX p).mp h1) false e6' e7' e8';refine⟨_,_,rfl,hr,_,_,_,_,_,_,N2,fun q hq=>M2 q (M1 q hq),fun t ht=>?_,rfl⟩;rcases Kf.mp ht with ht|ht
  .exact fun q hq=>M2 _ (D1 t ht q hq)
  .rw[KB]at ht;subst ht;exact D2)
 refine⟨qs',fd',q1,fun q=>⟨q1.lay q,fun hq=>?_⟩,?_⟩
 .obtain⟨hn,p,hp,hs⟩:=layS.mp hq;exact((q1.mem q).mp (q3 p ((hX p).mpr hp) q hs)).resolve_left hn
 .unfold eU L3.Bm;rw[show gF gR [Mc na A ea,Mc nb B eb,.lst (X.map aA)] (d8 qs)=[vv (Mc na A ea) false,vv (Mc nb B eb) false,vv (.lst (X.map aA)) false,some (.pin (d8 qs)),none,none,none,none,none] from rfl];unfold kr;rw[aT];simp_arith;rw[vM (ds:=X.map aA) (fr:=false) (by simp_arith)];refine(KQ (fun z:Res Fl=>Bl 3 (z.bind (kS (gJ 4)))) lp).trans ?_;rw[aB,cn,vE (ds:=fd'.map aA) (fr:=true) rfl];exact B5 (oA _) rfl
end
theorem Ig {i:Nat}{env:En}{ks:List Int}{x:Int}{fk:En->Res R}{g:Bool}(h:env[i]?=some (tt (bD ks)))(hk:fk env=.ok (.val (.int x) g []))(hl:ks.length<1000000):iX i fk (vC (.bl true)) env=.ok (.nx (env.set i (tt (bD (dd ks x))))):=by rw[pY,h];show gC i fk _ env (some (tt (.dic (ks.map ik) (ks.map fun _=>.bl true))))=_;rw[pZ,pV,h];show putAt i fk _ env (some (tt (.dic (ks.map ik) (ks.map fun _=>.bl true))))=_;rw[pW,Gf,aB,vj rfl,hk,aB,vk (x:=.inl (.inl x)) rfl (eR x ks) (by rw[JU];exact hl),bW,zH]
theorem oG {e0 e1 e2 e5 e6 e7:Option Sl}{fr:Bool}:∀(es ks:List Int)(e4:Option Sl),ks.length+es.length<1000000->
 ∃ e4',bx (gN 4) fr cG (es.map .int) [e0,e1,e2,tt (bD ks),e4,e5,e6,e7]=.ok (.nx [e0,e1,e2,tt (bD (es.foldl dd ks)),e4',e5,e6,e7])
 | [],ks,e4,_=>⟨e4,rfl⟩
 |x::r,ks,e4,hl=>by have hd:=pN ks x;simp only[KD]at hl;obtain⟨e4',ih⟩:=oG (e0:=e0) (e1:=e1) (e2:=e2) (e5:=e5) (e6:=e6) (e7:=e7) (fr:=fr) r (dd ks x) (vv (.int x) fr) (by omega);refine⟨e4',?_⟩;rw[J4,gM (zn (by simp))];dsimp only[List.set_cons_succ,List.set_cons_zero];unfold cG;rw[Ig (ks:=ks) (x:=x) (g:=true) rfl (by simp_arith) (by omega),aB,g_];exact ih
theorem j6 {e0 e1 e2 e4:Option Sl}{sl:Sl}{good:List Int}{sign:Int}{g5 fr:Bool}{al:List Nat}(hv:w8 3 (some (some sl))=.ok (.val (bD good) true al)):∀(ts:List Tri)(acc:List Int)(e7:Option Sl),acc.length+ts.length<1000000->
 ∃ e7',bx (gN 7) fr cH (ts.map tD) [e0,e1,e2,some sl,e4,vv (.int sign) g5,tt (bD acc),e7]=.ok (.nx [e0,e1,e2,some sl,e4,vv (.int sign) g5,tt (bD (fI ts good sign acc)),e7'])
 | [],acc,e7,_=>⟨e7,rfl⟩
 |t::r,acc,e7,hl=>by
  have hd:=pN acc t.1;simp only[KD]at hl;rw[J4,gM (zn (by simp))];dsimp only[List.set_cons_succ,List.set_cons_zero];have hc:(jE (vB (v2 mQ (aw 7 (vC (.int 1))) (ag 5))) (vB (v2 jI (aw 7 (vC (.int 2))) (ag 3)))) [e0,e1,e2,some sl,e4,vv (.int sign) g5,tt (bD acc),vv (tD t) fr]=.ok (t.2.1==sign&&decide (t.2.2∈good)):=by
   unfold tD;cases hq:(t.2.1==sign) with
   |true=>simp_arith[iB,hq,hv,zG];rfl
   |false=>simp_arith[iB,hq]
  unfold cH;rw[rZ,hc,aB];by_cases h:(t.2.1==sign&&decide (t.2.2∈good))=true
  .obtain⟨e7',ih⟩:=j6 (e0:=e0) (e1:=e1) (e2:=e2) (e4:=e4) (sign:=sign) (g5:=g5) (fr:=fr) hv r (dd acc t.1) (vv (tD t) fr) (by omega);refine⟨e7',?_⟩;rw[h,nX,Ig (ks:=acc) (x:=t.1) (g:=true) rfl (by unfold tD;simp_arith) (by omega),aB,g_];unfold fI at ih ⊢;rw[K_,JW h];exact ih
  .obtain⟨e7',ih⟩:=j6 (e0:=e0) (e1:=e1) (e2:=e2) (e4:=e4) (sign:=sign) (g5:=g5) (fr:=fr) hv r acc (vv (tD t) fr) (by omega);refine⟨e7',?_⟩;rw[show(t.2.1==sign&&decide (t.2.2∈good))=false by simpa using h,nY,nZ,aB,g_];unfold fI at ih ⊢;rw[K_,J0 h];exact ih
theorem oH {n:Int}{ts:List Tri}{es:List Int}(hl:ts.length<=63){e1 e2 e4:Option Sl}{g0 fr:Bool}:∀(rs good:List Int)(sl:Sl)(al:List Nat)(e5 e6 e7:Option Sl),w8 3 (some (some sl))=.ok (.val (bD good) true al)->
 ∃ sl' al' e5' e6' e7',bx (gN 5) fr d6 (rs.map .int) [vv (Mc n ts es) g0,e1,e2,some sl,e4,e5,e6,e7]=.ok (.nx [vv (Mc n ts es) g0,e1,e2,some sl',e4,e5',e6',e7'])/\w8 3 (some (some sl'))=.ok (.val (bD (H_ ts rs good)) true al')
 | [],good,sl,al,e5,e6,e7,hv=>⟨sl,al,e5,e6,e7,rfl,hv⟩
 |c::r,good,sl,al,e5,e6,e7,hv=>by obtain⟨e7',lp⟩:=j6 (e0:=vv (Mc n ts es) g0) (e1:=e1) (e2:=e2) (e4:=e4) (sign:=c) (g5:=fr) (fr:=g0) hv ts [] e7 (by simp;omega);obtain⟨sl',al',e5',e6',e7'',ih,hv'⟩:=oH (n:=n) (es:=es) hl (e1:=e1) (e2:=e2) (e4:=e4) (g0:=g0) (fr:=fr) r (fI ts good c []) (.val (bD (fI ts good c [])) true) [] (vv (.int c) fr) (vv (bD (fI ts good c [])) true) e7' (by rw[CT,yX (k_ _)]);refine⟨sl',al',e5',e6',e7'',?_,hv'⟩;rw[J4,gM (zn (by simp))];dsimp only[List.set_cons_succ,List.set_cons_zero];have lp':bx (gN 7) g0 cH (ts.map tD) [vv (.tup [.int n,.lst (ts.map tD),.lst (es.map .int)]) g0,e1,e2,some sl,e4,vv (.int c) fr,tt (.dic [] []),e7]=.ok (.nx [vv (.tup [.int n,.lst (ts.map tD),.lst (es.map .int)]) g0,e1,e2,some sl,e4,vv (.int c) fr,tt (bD (fI ts good c [])),e7']):=lp;simp_arith[d6,Mc,lp',EH,Fs,zC,Ft];exact ih
theorem Al (n room:Int)(ts:List Tri)(es st:List Int)(hl:ts.length<=63)(he:es.length<=2000):cI [Mc n ts es,.int room,.lst (st.map .int)]=.ok (.val (.bl (ui ts es st room)) true []):=by
 obtain⟨e4',l1⟩:=oG (e0:=vv (Mc n ts es) false) (e1:=vv (.int room) false) (e2:=vv (.lst (st.map .int)) false) (e5:=none) (e6:=none) (e7:=none) (fr:=false) es [] none (by simp;omega);obtain⟨sl',al',e5',e6',e7',l3,hv'⟩:=oH (n:=n) (es:=es) hl (e1:=vv (.int room) false) (e2:=vv (.lst (st.map .int)) false) (e4:=e4') (g0:=false) (fr:=false) st.reverse (bV es) (.tre (bD (bV es))) [3] none none none rfl;have l1':bx (gN 4) false cG (es.map .int) [vv (.tup [.int n,.lst (ts.map tD),.lst (es.map .int)]) false,vv (.int room) false,vv (.lst (st.map .int)) false,tt (.dic [] []),none,none,none,none]=.ok (.nx [vv (.tup [.int n,.lst (ts.map tD),.lst (es.map .int)]) false,vv (.int room) false,vv (.lst (st.map .int)) false,tt (bD (bV es)),e4',none,none,none]):=l1;unfold Mc at l3;have hr:(st.map D.int).reverse=st.reverse.map D.int:=by rw[List.map_reverse]
 simp_arith[cI,jl,Mc,l1',hr,l3,hv',zG];rfl
theorem qz (n:Int)(ts:List Tri)(es:List Int):(Mc n ts es).dep<=50:=by have h1:D.deps (ts.map tD)<=1:=sv fun t=>FL t;have h2:=oj es;unfold Mc;simp only[vg,vh,jT,jd,mq];omega
theorem Cp {n:Int}{ts:List Tri}{es:List Int}{f g:Bool}{al bl:List Nat}:mQ (.val (Mc n ts es) f al) (.val (Mc n ts es) g bl)=.ok (.val (.bl true) true []):=by rw[iB (a:=.val (Mc n ts es) f al) (b:=.val (Mc n ts es) g bl) (qz _ _ _) (qz _ _ _),bW,bW,fj]
theorem Cq (x:Int)(es:List Int):((es.map D.int).any fun e=>eB e (.int x))=decide (x∈es):=by
 rw[MT,Mq,Lw,Kx];constructor
 .rintro⟨y,hy,e⟩;have:y=x:=LP.mp e;exact this▸hy
 .intro h;exact⟨x,h,LP.mpr rfl⟩
theorem vO (x:Int)(es:List Int):mW false (.int x) (.lst (es.map .int))=.ok (.val (.bl (decide (x∈es))) true []):=by have:=oj es;rw[HK (by omega) (by rw[jd];omega),Cq];rfl
def FV (A B:List Tri)(ro:Int)(ea eb:List Int):Option Nat->Prop
 |some K=>(∃ q,layN A B ro K q/\jt ea eb q)/\∀ j<K,∀ q,layN A B ro j q->¬ jt ea eb q
 |none=>∃ K,(∀ q,¬ layN A B ro K q)/\∀ j<K,∀ q,layN A B ro j q->¬ jt ea eb q
noncomputable def Ih:Option Nat->R
 |some K=>.val (.int (K:Nat)) true []
 |none=>.val .non true []
def Jv:Option Nat->Fl->Prop
 |some K,f=>f=.rt (.val (.int (K:Nat)) true [])
 |none,f=>∃ e,f=.nx e
section
variable {A B:List Tri}{ro:Int}{k:Nat}{qs X:List Pr}{ea eb:List Int}
theorem FW:∀{o:Option (Int×List Int)}{l:Option Nat},Iy A B ro ea eb o->FV A B ro ea eb l->l=o.map fun p=>p.2.length
 |some (r,st),some K,h,g=>by obtain⟨_,_,_,_,⟨q,h1,h2⟩,h3⟩:=h;obtain⟨⟨z,g1,g2⟩,g3⟩:=g;have a:¬ st.length<K:=fun e=>g3 _ e q h1 h2;have b:¬ K<st.length:=fun e=>h3 _ e z g1 g2;show some K=some st.length;rw[show K=st.length by omega]
 |some (r,st),none,h,g=>by
  obtain⟨_,_,_,_,⟨q,h1,h2⟩,h3⟩:=h;obtain⟨K,g1,g2⟩:=g;by_cases e:st.length<K
  .exact absurd h2 (g2 _ e q h1)
  .obtain⟨z,hz⟩:=mG ⟨q,h1⟩ K (by omega);exact absurd hz (g1 z)
 |none,some K,h,g=>by
  obtain⟨⟨z,g1,g2⟩,g3⟩:=g;obtain⟨K',h1,h2⟩:=h;by_cases e:K<K'
  .exact absurd g2 (h2 _ e z g1)
  .obtain⟨y,hy⟩:=mG ⟨z,g1⟩ K' (by omega);exact absurd hy (h1 y)
 |none,none,_,_=>rfl
abbrev eS (na nb:Int)(A B:List Tri)(ea eb:List Int)(e2 e3:Option Sl)(qs:List Pr)(e5 e6:Option Sl):En:=[vv (Mc na A ea) false,vv (Mc nb B eb) false,e2,e3,tt (d8 qs),e5,e6]
theorem mJ {na nb:Int}{e2 e3:Option Sl}{fr:Bool}{K:Int}:∀(X:List Pr)(e5:Option Sl),
 ((∃ q∈X,jt ea eb q)/\bx (gN 5) fr aS (X.map aA) (eS na nb A B ea eb e2 e3 qs e5 (vv (.int K) true))=.ok (.rt (.val (.int K) true [])))\/
 ((∀ q∈X,¬ jt ea eb q)/\∃ e5',bx (gN 5) fr aS (X.map aA) (eS na nb A B ea eb e2 e3 qs e5 (vv (.int K) true))=.ok (.nx (eS na nb A B ea eb e2 e3 qs e5' (vv (.int K) true))))
 | [],e5=>.inr ⟨by simp,e5,rfl⟩
 |q::X,e5=>by
  have hasg:gN 5 (aA q) fr (eS na nb A B ea eb e2 e3 qs e5 (vv (.int K) true))=some (eS na nb A B ea eb e2 e3 qs (vv (aA q) fr) (vv (.int K) true)):=rfl;have hcond:∀(a b:Bool),decide (q.1∈ea)=a->decide (q.2∈eb)=b->jE (vB (v2 jI (aw 5 (vC (.int 0))) (aw 0 (vC (.int 2))))) (vB (v2 jI (aw 5 (vC (.int 1))) (aw 1 (vC (.int 2))))) (eS na nb A B ea eb e2 e3 qs (vv (aA q) fr) (vv (.int K) true))=.ok (a&&b):=by intro a b ha hb;have i1:=vO q.1 ea;have i2:=vO q.2 eb;rw[ha]at i1;rw[hb]at i2;unfold eS Mc aA;cases a<;>simp_arith[i1,i2]
  by_cases h:jt ea eb q
  .left;refine⟨⟨q,by simp,h⟩,?_⟩;rw[J4,gM hasg];unfold aS;rw[rZ,hcond true true (Kk h.1) (Kk h.2),aB,L1,nX];simp_arith
  .have hx:=mJ (na:=na) (nb:=nb) (e2:=e2) (e3:=e3) (fr:=fr) (K:=K) X (vv (aA q) fr);have hstep:bx (gN 5) fr aS ((q::X).map aA) (eS na nb A B ea eb e2 e3 qs e5 (vv (.int K) true))=bx (gN 5) fr aS (X.map aA) (eS na nb A B ea eb e2 e3 qs (vv (aA q) fr) (vv (.int K) true)):=by
    have hb:(decide (q.1∈ea)&&decide (q.2∈eb))=false:=by rw[M7];intro e;rw[Kh,Kx,Kx]at e;exact h e
    rw[J4,gM hasg];unfold aS;rw[rZ,hcond _ _ rfl rfl,aB,hb,nY,nZ,aB,g_]
   rw[hstep];rcases hx with⟨⟨z,z1,z2⟩,hx⟩|⟨h1,h2⟩
   .exact .inl ⟨⟨z,by simp[z1],z2⟩,hx⟩
   .refine .inr ⟨fun z hz=>?_,h2⟩;rcases J5.mp hz with rfl|hz
    .exact h
    .exact h1 z hz
theorem Nx.next {fd:List Pr}(N:Nx A B ro k qs fd)(h:∀ q,q∈fd↔layN A B ro (k+1) q):Nx A B ro (k+1) qs []:=⟨N.qn,K6,fun q=>by rw[N.mem,seenS,h];simp,fun q hq=>by cases hq⟩
theorem mK (T:Two A B ro){na nb:Int}{e2:Option Sl}:∀(n k:Nat)(X qs:List Pr)(e3 e5:Option Sl),k+n=100000->k<=961->(e3=vv (.lst (X.map aA)) true\/e3=ow (X.map aA) true)->(∀ q,q∈X↔layN A B ro k q)->Nx A B ro k qs []->(∀ j<k,∀ q,layN A B ro j q->¬ jt ea eb q)->
 ∃ o f,FV A B ro ea eb o/\Jv o f/\bM (vB (v2 F_ (pq mS (aj (ag 3) az)) (vC (.int 0)))) bQ n (eS na nb A B ea eb e2 e3 qs e5 (vv (.int (k:Nat)) true))=.ok f
 |0,k,X,qs,e3,e5,hn,hk,_,_,_,_=>by omega
 |n+1,k,X,qs,e3,e5,hn,hk,h3,hX,N,hno=>by
  have hc:vB (v2 F_ (pq mS (aj (ag 3) az)) (vC (.int 0))) (eS na nb A B ea eb e2 e3 qs e5 (vv (.int (k:Nat)) true))=.ok (decide ((0:Int)<((X.map aA).length:Nat))):=by rcases h3 with rfl|rfl<;>simp_arith
  have hfx:∀ L,dR (ag 3) (gN 5) L (eS na nb A B ea eb e2 e3 qs e5 (vv (.int (k:Nat)) true))=bx (gN 5) true L (X.map aA) (eS na nb A B ea eb e2 (vv (.lst (X.map aA)) true) qs e5 (vv (.int (k:Nat)) true)):=fun L=>by
   rcases h3 with rfl|rfl
   .rw[vM (ds:=X.map aA) (fr:=true) (by simp_arith)]
   .rw[gd (ds:=X.map aA) (fr:=true) (al:=[3]) (by simp_arith),kZ (ds:=X.map aA) (f:=true) rfl];rfl
  unfold bM;rw[hc,aB];by_cases hXe:X=[]
  .refine⟨none,_,⟨k,fun q hq=>?_,hno⟩,⟨_,rfl⟩,by rw[hXe];rfl⟩;have:=(hX q).mpr hq;rw[hXe]at this;cases this
  .have hne:decide ((0:Int)<((X.map aA).length:Nat))=true:=by have:0<X.length:=List.length_pos_iff.mpr hXe;rw[JU];exact Kk (by omega)
   have hk1:k<961:=by obtain⟨a,ha⟩:=List.exists_mem_of_ne_nil X hXe;exact T.lt ⟨a,(hX a).mp ha⟩
   rw[hne,JW rfl];rcases mJ (A:=A) (B:=B) (qs:=qs) (ea:=ea) (eb:=eb) (na:=na) (nb:=nb) (e2:=e2) (e3:=vv (.lst (X.map aA)) true) (fr:=true) (K:=(k:Nat)) X e5 with⟨⟨q,q1,q2⟩,hl⟩|⟨h1,e5',hl⟩
   .refine⟨some k,_,⟨⟨q,(hX q).mp q1,q2⟩,hno⟩,rfl,?_⟩;unfold bQ;rw[aT,hfx,hl,aB,EE,aB];rfl
   .obtain⟨qs',fd',N',hfd,hF⟩:=Co T hX N na nb ea eb;obtain⟨o,f,i1,i2,i3⟩:=mK T (na:=na) (nb:=nb) (e2:=e2) n (k+1) fd' qs' (ow (fd'.map aA) true) e5' (by omega) (by omega) (.inr rfl) hfd (N'.next hfd) fun j hj q hq=>by
     by_cases e:j=k
     .subst e;exact h1 q ((hX q).mpr hq)
     .exact hno j (by omega) q hq
    refine⟨o,f,i1,i2,?_⟩;have hargs:(aj (ag 0) (aj (ag 1) (aj (ag 3) az))) (eS na nb A B ea eb e2 (vv (.lst (X.map aA)) true) qs e5' (vv (.int (k:Nat)) true))=.ok [.val (Mc na A ea) false [],.val (Mc nb B eb) false [],.val (.lst (X.map aA)) true []]:=by simp_arith[cK]
    have hset:aP 6 (v2 cC (ag 6) (vC (.int 1))) (eS na nb A B ea eb e2 (ow (fd'.map aA) true) qs' e5' (vv (.int (k:Nat)) true))=.ok (.nx (eS na nb A B ea eb e2 (ow (fd'.map aA) true) qs' e5' (vv (.int ((k+1:Nat):Nat)) true))):=by simp_arith;rfl
    unfold bQ;rw[aT,hfx,hl,aB,cn,aT,vq,hargs,Res.noX_ok,aB,zO (x:=d8 qs) (y:=d8 qs') (es:=fd'.map aA) rfl (by simp[bc,R.al]) (by decide) (by simp) hF,aB,cn];rw[show((eS na nb A B ea eb e2 (vv (.lst (X.map aA)) true) qs e5' (vv (.int (k:Nat)) true)).set 4 (tt (d8 qs'))).set 3 (ow (fd'.map aA) true)=eS na nb A B ea eb e2 (ow (fd'.map aA) true) qs' e5' (vv (.int (k:Nat)) true) from rfl,hset,aB];exact i3
theorem Am (T:Two A B ro)(na nb:Int):∃ o,FV A B ro ea eb o/\aY [Mc na A ea,Mc nb B eb,.int ro]=.ok (Ih o):=by
 have r0:=T.r0;have r1:=T.r1;have m1:-4611686018427387904<=ro:=by omega
 have m2:ro<4611686018427387904:=by omega
 have hE:∀ x f,bh [vv (.int x) f]=.ok (.val (.tup [.int x,.int x]) true []):=fun x f=>by simp_arith[bh]
 have hpc:=fun(env:En)(fr:Bool)=>oE (F:=bh) (env:=env) (fr:=fr) ro r1 hE;have hPn:(ba ro).Nodup:=cz _ (iF ro) fun a _ b _ e=>KQ Prod.fst e;have hPl:(ba ro).length<=8:=by unfold ba;rw[JU,mH];omega
 obtain⟨aJ,lp,e5',rfl⟩:=cV aA (asg:=gN 5) (fr:=true) (body:=bj) (ba ro)
  (fun pre env=>∃ e5,env=eS na nb A B ea eb (vv (.int ro) false) (vv (.lst ((ba ro).map aA)) true) pre e5 none) (ba ro) [] (eS na nb A B ea eb (vv (.int ro) false) (vv (.lst ((ba ro).map aA)) true) [] none none) rfl ⟨none,rfl⟩ (by
  rintro pre post q env hall ⟨e5,rfl⟩;have hq:¬ q∈pre:=by rw[hall,LZ]at hPn;exact fun h=>hPn.2.2 q h q (by simp) rfl
  have hpl:pre.length<=8:=by have:=KQ List.length hall;rw[Kp]at this;omega
  refine⟨_,_,rfl,?_,vv (aA q) true,rfl⟩;have e4:(eS na nb A B ea eb (vv (.int ro) false) (vv (.lst ((ba ro).map aA)) true) pre (vv (aA q) true) none)[4]?=some (tt (.dic (pre.map pk) (pre.map fun _=>.bl true))):=rfl;show bj (eS na nb A B ea eb (vv (.int ro) false) (vv (.lst ((ba ro).map aA)) true) pre (vv (aA q) true) none)=_;unfold bj;rw[pY,e4,pZ,pV,e4,pW,Gf,aB,vj rfl,show ag 5 (eS na nb A B ea eb (vv (.int ro) false) (vv (.lst ((ba ro).map aA)) true) pre (vv (aA q) true) none)=.ok (.val (aA q) true []) by simp_arith[aA],aB,vk (x:=pk q) rfl (ul _ _) (by rw[JU];omega),show(R.val (D.bl true) true []).d=.bl true from rfl,Ak _ _ hq];rfl)
 have N0:Nx A B ro 0 (ba ro) []:=⟨hPn,K6,fun q=>by rw[j5 (A:=A) (B:=B),lay0,seen0];simp,fun q hq=>by cases hq⟩;obtain⟨o,f,h1,h2,h3⟩:=mK (ea:=ea) (eb:=eb) T (na:=na) (nb:=nb) (e2:=vv (.int ro) false) 100000 0 (ba ro) (ba ro) (vv (.lst ((ba ro).map aA)) true) e5' rfl (by omega) (.inl rfl) (fun q=>j5 q) N0 (fun j hj=>by omega);refine⟨o,h1,?_⟩;have s3:aP 3 (cM 1 [] (w6 (aj (ag 2) az)) (gN 0) (fun _=>.ok true) bh) (dP cg [Mc na A ea,Mc nb B eb,.int ro])=.ok (.nx [vv (Mc na A ea) false,vv (Mc nb B eb) false,vv (.int ro) false,ow ((ba ro).map aA) true,none,none,none]):=by simp_arith[oa,m1,m2,hpc]
 have s4:aP 4 (fun _=>.ok (.fre (.dic [] []))) [vv (Mc na A ea) false,vv (Mc nb B eb) false,vv (.int ro) false,ow ((ba ro).map aA) true,none,none,none]=.ok (.nx [vv (Mc na A ea) false,vv (Mc nb B eb) false,vv (.int ro) false,ow ((ba ro).map aA) true,tt (d8 []),none,none]):=by simp_arith;rfl
 have s5:dR (ag 3) (gN 5) bj [vv (Mc na A ea) false,vv (Mc nb B eb) false,vv (.int ro) false,ow ((ba ro).map aA) true,tt (d8 []),none,none]=.ok (.nx (eS na nb A B ea eb (vv (.int ro) false) (vv (.lst ((ba ro).map aA)) true) (ba ro) e5' none)):=by rw[gd (ds:=(ba ro).map aA) (fr:=true) (al:=[3]) (by simp_arith),kZ (ds:=(ba ro).map aA) (f:=true) rfl];exact lp
 have s6:aP 6 (vC (.int 0)) (eS na nb A B ea eb (vv (.int ro) false) (vv (.lst ((ba ro).map aA)) true) (ba ro) e5' none)=.ok (.nx (eS na nb A B ea eb (vv (.int ro) false) (vv (.lst ((ba ro).map aA)) true) (ba ro) e5' (vv (.int ((0:Nat):Nat)) true))):=by simp_arith
 unfold aY L3.fy gn;rw[aT,s3,aB,cn,aT,s4,aB,cn,aT,s5,aB,cn,aT,s6,aB,cn,aT];refine(KQ (fun z:Res Fl=>df (z.bind (kS (cN (vC .non))))) h3).trans ?_;cases o with
 |none=>obtain⟨e,rfl⟩:=h2;rfl
 |some K=>have:f=.rt (.val (.int (K:Nat)) true []):=h2;subst this;rfl
end
theorem Cr (k1 k2:R->R->Res R)(fa fb fc:En->Res R)(env:En){ra rb rc:R}{v:R}(ha:fa env=.ok ra)(hb:fb env=.ok rb)(hc:fc env=.ok rc){f:Bool}{al:List Nat}(h1:k1 ra rb=.ok (.val (.bl true) f al))(h2:k2 rb rc=.ok v):fV k1 k2 fa fb fc env=.ok v:=by unfold fV;rw[ha,aB,hb,aB,h1,aB];show(fc env).bind _=_;rw[hc,aB,h2]
theorem sN {i:Nat}{x y:Int}{fb:En->Res R}{env:En}{f g:Bool}{al:List Nat}(hb:fb env=.ok (.val (.int x) f al))(hc:ag i env=.ok (.val (.int y) g []))(h1:0<=x)(h2:x<y):fV CK A0 (vC (.int 0)) fb (ag i) env=.ok (.val (.bl true) true []):=by rw[Cr CK A0 _ _ _ env (Gf _ _) hb hc (by rw[Hk,Kk h1]) (by rw[Hj,Kk h2])]
theorem sO (x:Int):cF [.int x]=.ok (.val (.bl true) true []):=by simp_arith[cF,jj]
theorem um {x y:Int}{f g:Bool}{al bl:List Nat}(h:x=y):w4 (.val (.int x) f al) (.val (.int y) g bl)=.ok (.val (.bl false) true []):=by rw[Hl (by rw[bW,jd];omega) (by rw[bW,jd];omega),bW,bW,h,fj];rfl
theorem oJ {A:List Tri}{e:Int}:∀{st:List Int}{s:Int},iE A s st e->∀ c∈st,∃ t∈A,t.2.1=c
 | [],_,_,c,hc=>by cases hc
 |d::r,s,⟨m,h1,h2⟩,c,hc=>by
  rcases J5.mp hc with rfl|hc
  .exact⟨_,h1,rfl⟩
  .exact oJ h2 c hc
theorem mL {ts:List Tri}{es st:List Int}{room:Int}(h:∃ e∈es,iE ts room st e):ui ts es st room=true:=by unfold ui;rw[Kx,vG];obtain⟨e,h1,h2⟩:=h;exact⟨e,by unfold bV;rw[fH];exact .inr h1,h2⟩
def sP:Option (Int×List Int)->D
 |some (r,st)=>.tup [.int r,.lst (st.map .int)]
 |none=>.non
theorem mM {e0 e1 e2 e3 e5:Option Sl}{sg:Int}{fr g:Bool}:∀(st:List Int)(e6:Option Sl),(∀ c∈st,0<=c/\c<sg)->∃ e6',bx (gN 6) fr d7 (st.map .int) [e0,e1,e2,e3,vv (.int sg) g,e5,e6]=.ok (.nx [e0,e1,e2,e3,vv (.int sg) g,e5,e6'])
 | [],e6,_=>⟨e6,rfl⟩
 |c::r,e6,h=>by obtain⟨e6',ih⟩:=mM (e0:=e0) (e1:=e1) (e2:=e2) (e3:=e3) (e5:=e5) (sg:=sg) (fr:=fr) (g:=g) r (vv (.int c) fr) fun x hx=>h x (by simp[hx]);refine⟨e6',?_⟩;have hc:=h c (by simp);rw[J4,gM (zn (by simp))];dsimp only[List.set_cons_succ,List.set_cons_zero];have hch:fV CK A0 (vC (.int 0)) (ag 6) (ag 4) [e0,e1,e2,e3,vv (.int sg) g,e5,vv (.int c) fr]=.ok (.val (.bl true) true []):=sN (x:=c) (y:=sg) (f:=true) (g:=true) (al:=[]) (by simp_arith) (by simp_arith) hc.1 hc.2;simp_arith[d7,sO,hch];exact ih
section
variable {A B:List Tri}{ro:Int}{ea eb:List Int}
theorem sQ (T:Two A B ro){sg na nb:Int}(hA:∀ t∈A,0<=t.2.1/\t.2.1<sg)(la:ea.length<=1000)(lb:eb.length<=1000){o:Option (Int×List Int)}(ho:Iy A B ro ea eb o) :
 cJ [sP o,Mc na A ea,Mc nb B eb,.int ro,.int sg]=.ok (.val (.bl true) true []):=by
 obtain⟨l,hl,hs⟩:=Am (ea:=ea) (eb:=eb) T na nb;have hlo:=FW ho hl;subst hlo;have s5:∀ d:D,cE 5 (aW aY (aj (ag 1) (aj (ag 2) (aj (ag 3) az)))) [vv d false,vv (Mc na A ea) false,vv (Mc nb B eb) false,vv (.int ro) false,vv (.int sg) false,none,none]=.ok (.nx [vv d false,vv (Mc na A ea) false,vv (Mc nb B eb) false,vv (.int ro) false,vv (.int sg) false,vv (Ih (o.map fun p=>p.2.length)).d true,none]):=by
  intro d;cases o with
  |none=>have hs:aY [Mc na A ea,Mc nb B eb,.int ro]=.ok (.val .non true []):=hs;simp_arith[cK,hs];rfl
  |some p=>have hs:aY [Mc na A ea,Mc nb B eb,.int ro]=.ok (.val (.int (p.2.length:Nat)) true []):=hs;simp_arith[cK,hs];rfl
 unfold cJ L3.fy;rw[show dP gb [sP o,Mc na A ea,Mc nb B eb,.int ro,.int sg]=[vv (sP o) false,vv (Mc na A ea) false,vv (Mc nb B eb) false,vv (.int ro) false,vv (.int sg) false,none,none] from rfl];unfold jm;rw[aT,s5,aB,cn];cases o with
 |none=>
  have hi:A1 (ag 0) [vv (sP none) false,vv (Mc na A ea) false,vv (Mc nb B eb) false,vv (.int ro) false,vv (.int sg) false,vv .non true,none]=.ok (.val (.bl true) true []):=by unfold A1;rw[u9];rfl
  show df (aD _ _ [vv (sP none) false,vv (Mc na A ea) false,vv (Mc nb B eb) false,vv (.int ro) false,vv (.int sg) false,vv .non true,none])=_;simp_arith[hi]
 |some p=>
  obtain⟨r,st⟩:=p;obtain⟨r0,r1,pa,pb,_,_⟩:=ho;show df (aD _ _ [vv (.tup [.int r,.lst (st.map .int)]) false,vv (Mc na A ea) false,vv (Mc nb B eb) false,vv (.int ro) false,vv (.int sg) false,vv (.int (st.length:Nat)) true,none])=_;have hsg:∀ c∈st,0<=c/\c<sg:=fun c hc=>by obtain⟨e,_,hp⟩:=pa;obtain⟨t,ht,rfl⟩:=oJ hp c hc;exact hA t ht
  obtain⟨e6',lp⟩:=mM (e0:=vv (.tup [.int r,.lst (st.map .int)]) false) (e1:=vv (Mc na A ea) false) (e2:=vv (Mc nb B eb) false) (e3:=vv (.int ro) false) (e5:=vv (.int (st.length:Nat)) true) (sg:=sg) (fr:=false) (g:=false) st none hsg;have hch:∀ e6,fV CK A0 (vC (.int 0)) (aw 0 (vC (.int 0))) (ag 3) [vv (.tup [.int r,.lst (st.map .int)]) false,vv (Mc na A ea) false,vv (Mc nb B eb) false,vv (.int ro) false,vv (.int sg) false,vv (.int (st.length:Nat)) true,e6]=.ok (.val (.bl true) true []):=fun e6=>sN (x:=r) (y:=ro) (f:=true) (g:=true) (al:=[]) (by simp_arith) (by simp_arith) r0 r1;have t1:=Al na r A ea st T.la (by omega);have t2:=Al nb r B eb st T.lb (by omega);rw[mL pa]at t1;rw[mL pb]at t2;have h22:∀{f g:Bool}{al bl:List Nat},w4 (.val (.int ((2:Nat):Nat)) f al) (.val (.int 2) g bl)=.ok (.val (.bl false) true []):=fun{f g al bl}=>um rfl;have hll:∀{f g:Bool}{al bl:List Nat},w4 (.val (.int (((st.map D.int).length:Nat):Int)) f al) (.val (.int ((st.length:Nat):Int)) g bl)=.ok (.val (.bl false) true []):=fun{f g al bl}=>um (by rw[JU]);simp_arith[sO,hch,um,hll,lp,cK,t1,t2]
end
theorem Two.mk' {A B:List Tri}{ro sg na nb:Int}{ea eb:List Int}(r0:0<ro)(r1:ro<=8)(ha:MOk na sg A ea)(hb:MOk nb sg B eb)(na1:na<=31)(nb1:nb<=31)(la:A.length<=63)(lb:B.length<=63):Two A B ro:=⟨r0,r1,fun t ht=>by have:=ha.arr t ht;omega,fun t ht=>by have:=hb.arr t ht;omega,la,lb,hb.nd⟩
theorem oK (rs:List R)(o:Option (Int×List Int)):eG rs (sM o)=sM o:=by
 cases o with
 |none=>exact sd rs sj
 |some p=>exact oe (by simp only[jb,dS,gL,jc,M8,LO])
theorem FX (o:Option (Int×List Int)):(sM o).d=sP o:=by cases o<;>rfl
theorem Cs (o:Option (Int×List Int)):(sM o).al=[]:=by cases o<;>rfl
theorem Ct (o:Option (Int×List Int)):(sM o).fr=true:=by cases o<;>rfl
theorem Cu {n:Int}{ts:List Tri}{es:List Int}{f g:Bool}{al bl:List Nat}:w4 (.val (Mc n ts es) f al) (.val (Mc n ts es) g bl)=.ok (.val (.bl false) true []):=by rw[Hl (a:=.val (Mc n ts es) f al) (b:=.val (Mc n ts es) g bl) (qz _ _ _) (qz _ _ _),bW,bW,fj];rfl
abbrev eT (ns:List Int)(na nb ro sg:Int)(A B:List Tri)(ea eb:List Int)(e1 e6 e7 a b c d:Option Sl):En:=[vv (.lst (ns.map .int)) false,e1,vv (.int ro) true,vv (.int sg) true,vv (Mc na A ea) true,vv (Mc nb B eb) true,e6,e7,a,b,c,d]
theorem vP {ns:List Int}{ro sg na nb:Int}{A B:List Tri}{ea eb:List Int}(r0:0<ro)(r1:ro<=8)(ha:MOk na sg A ea)(hb:MOk nb sg B eb)(na1:na<=31)(nb1:nb<=31)(la:A.length<=63)(lb:B.length<=63)(le:ea.length<=1000)(lf:eb.length<=1000){e1 e6 e7:Option Sl} :
 df (qg (eT ns na nb ro sg A B ea eb e1 e6 e7 none none none none))=.ok (.val (.bl true) true []):=by
 have T:=Two.mk' r0 r1 ha hb na1 nb1 la lb;have T':=Two.mk' r0 r1 hb ha nb1 na1 lb la;obtain⟨o,ho,hc⟩:=oF T sg na nb ea eb le lf;obtain⟨o',ho',hc'⟩:=oF T' sg nb na eb ea lf le;have hr:=sQ T (na:=na) (nb:=nb) (fun t ht=>⟨(ha.arr t ht).2.2.1,(ha.arr t ht).2.2.2.1⟩) le lf ho;have hr':=sQ T' (na:=nb) (nb:=na) (fun t ht=>⟨(hb.arr t ht).2.2.1,(hb.arr t ht).2.2.2.1⟩) lf le ho';have fa:=jZ A;have fb:=jZ B;have fea:=cp ea;have feb:=cp eb;have s8:∀{e8 e9 e10 e11:Option Sl},aP 8 (Ge (aw 4 (vC (.int 0))) (pq cP (aj (aw 4 (vC (.int 1))) az)) (pq cP (aj (aw 4 (vC (.int 2))) az))) (eT ns na nb ro sg A B ea eb e1 e6 e7 e8 e9 e10 e11)=.ok (.nx (eT ns na nb ro sg A B ea eb e1 e6 e7 (tt (Mc na A ea)) e9 e10 e11)):=by
  intros;unfold eT Mc
  simp_arith[jV,pS,fa,fea,zK]
 have s9:∀{e8 e9 e10 e11:Option Sl},aP 9 (Ge (aw 5 (vC (.int 0))) (pq cP (aj (aw 5 (vC (.int 1))) az)) (pq cP (aj (aw 5 (vC (.int 2))) az))) (eT ns na nb ro sg A B ea eb e1 e6 e7 e8 e9 e10 e11)=.ok (.nx (eT ns na nb ro sg A B ea eb e1 e6 e7 e8 (tt (Mc nb B eb)) e10 e11)):=by
  intros;unfold eT Mc
  simp_arith[jV,pS,fb,feb,zK]
 have c10:∀{e10 e11:Option Sl},aW dZ (aj (fm (aj (ag 2) (aj (ag 3) (aj (iq az) az)))) (aj (ag 8) (aj (ag 9) az))) (eT ns na nb ro sg A B ea eb e1 e6 e7 (tt (Mc na A ea)) (tt (Mc nb B eb)) e10 e11)=.ok (sM o):=by
  intros
  simp_arith[hc,oK]
 have c11:∀{e10 e11:Option Sl},aW dZ (aj (fm (aj (ag 2) (aj (ag 3) (aj (iq az) az)))) (aj (ag 9) (aj (ag 8) az))) (eT ns na nb ro sg A B ea eb e1 e6 e7 (tt (Mc na A ea)) (tt (Mc nb B eb)) e10 e11)=.ok (sM o'):=by
  intros
  simp_arith[hc',oK]
 have h15:∀{e10:Option Sl},df (mB (eT ns na nb ro sg A B ea eb e1 e6 e7 (tt (Mc na A ea)) (tt (Mc nb B eb)) e10 none))=.ok (.val (.bl true) true []):=by intro e10;unfold mB;rw[aT,zI,c11,aB,vn (by simp),FX,Cs,Ct,aB,cn];show df (mz (eT ns na nb ro sg A B ea eb e1 e6 e7 (tt (Mc na A ea)) (tt (Mc nb B eb)) e10 (vv (sP o') true)))=_;unfold mz;simp_arith[HR,hr',Cp,cK]
 unfold qg;rw[aT,s8,aB,cn];unfold sC;rw[aT,s9,aB,cn];unfold sB;rw[aT,n_,c10,aB,jS _ (by simp),aB,cn];have key:∀ sl:Sl,w8 10 (some (some sl))=.ok (.val (sP o) true (match o with|none=>[]|some _=>[10]))->
  df (jn (eT ns na nb ro sg A B ea eb e1 e6 e7 (tt (Mc na A ea)) (tt (Mc nb B eb)) (some sl) none))=.ok (.val (.bl true) true [])->
  df (mC (eT ns na nb ro sg A B ea eb e1 e6 e7 (tt (Mc na A ea)) (tt (Mc nb B eb)) (some sl) none))=.ok (.val (.bl true) true []):=by
  intro sl hv h13;unfold mC;simp_arith[hv,hr,Cu,cK];exact h13
 cases o with
 |none=>refine key (.val .non true) rfl ?_;unfold jn;simp_arith;exact h15
 |some p=>
  obtain⟨r,st⟩:=p;have hsl:st.length<1000000:=by obtain⟨_,_,_,_,⟨q,h1,_⟩,_⟩:=ho;have:=T.lt ⟨q,h1⟩;omega
  refine key (.tre (.tup [.int r,.lst (st.map .int)])) rfl ?_;unfold jn;have hap:∀{env:En},pX 10 1 (vC (.int 0)) env (some (tt (.tup [.int r,.lst (st.map .int)])))=.ok (.nx (env.set 10 (some (.mes (.tup [.int r,.lst (st.map .int)]))))):=fun{env}=>BV (n:=(st.map D.int).length) rfl (by rw[JU];exact hsl) (Gf _ _) rfl;simp_arith[hap];exact h15
theorem vQ (ns:List Int)(size ro sg:Int)(r0:0<ro)(r1:ro<=8)(s0:0<sg)(s1:sg<=40){g1:Bool} :
 df (qh [vv (.lst (ns.map .int)) false,vv (.int size) g1,vv (.int ro) true,vv (.int sg) true,none,none,none,none,none,none,none,none])=.ok (.val (.bl true) true []):=by
 have c1:=k8 ns 1;have c2:=k8 ns 2;have c3:=k8 ns 3;obtain⟨na,A,ea,al1,a1,a2,a3,a4,a5,hA⟩:=sI (b7 ns (some 4) (some 64) (some 2)) (sG ns 4 (by omega) (by omega)) (cell ns 1) ro sg c1 r0 r1 s0 s1;obtain⟨nb,B,eb,al2,b1,b2,b3,b4,b5,hB⟩:=sI (b7 ns (some 5) (some 64) (some 2)) (sG ns 5 (by omega) (by omega)) (cell ns 2) ro sg c2 r0 r1 s0 s1;have p4:∀{f:Bool}{al:List Nat},i9 (.val (.lst (ns.map D.int)) f al) (some 4) (some 64) (some 2)=.ok (.new ((b7 ns (some 4) (some 64) (some 2)).map .int) true):=fun{f al}=>by rw[vD (by decide),sF,gK (cp _)]
 have p5:∀{f:Bool}{al:List Nat},i9 (.val (.lst (ns.map D.int)) f al) (some 5) (some 64) (some 2)=.ok (.new ((b7 ns (some 5) (some 64) (some 2)).map .int) true):=fun{f al}=>by rw[vD (by decide),sF,gK (cp _)]
 unfold qh;simp_arith[sD,p4,HX,hA,cK];unfold vA;simp_arith[sD,p5,HY,hB,cK];unfold vz;simp_arith[HZ];unfold vy;by_cases h:cell ns 3 % 8=1
 .have hb:(cell ns 3 % 8==1)=true:=by rw[h];rfl
  obtain⟨m,hm⟩ : ∃ m:Nat,1+cell ns 3 / 8 % 20=(m:Int):=⟨(1+cell ns 3 / 8 % 20).toNat,by omega⟩;have hm1:m<=20:=by omega
  obtain⟨al3,f1⟩:=z6 na (cell ns 3 / 320 % ro) (cell ns 3 / 960 % sg) m hm1 A ea a3 (by omega) (by omega);obtain⟨al4,f2⟩:=z6 nb (cell ns 3 / 320 % ro) (cell ns 3 / 960 % sg) m hm1 B eb b3 (by omega) (by omega);have k1:=LD (cell ns 3 / 960) (show sg≠0 by omega);have k2:=Li (cell ns 3 / 960) s0;have k3:=LD (cell ns 3 / 320) (show ro≠0 by omega);have k4:=Li (cell ns 3 / 320) r0;have M1:=a5.far (by omega) k1 k2 k3 (by omega) m;have M2:=b5.far (by omega) k1 k2 k3 (by omega) m;simp_arith[iB,hb,hm,r0,s0,cK,f1,f2];refine vP r0 r1 M1 M2 (by omega) (by omega) ?_ ?_ (by simp) (by simp)
  .exact Ky (mE _) (by rw[jo,Lr];omega)
  .exact Ky (mE _) (by rw[jo,Lr];omega)
 .have hb:(cell ns 3 % 8==1)=false:=by simpa using h
  simp_arith[iB,hb];exact vP r0 r1 a5 b5 (by omega) (by omega) (by omega) (by omega) (by omega) (by omega)
theorem FY (ns:List Int)(hl:ns.length<=63):ol [.lst (ns.map .int)]=.ok (.val (.bl true) true []):=by
 have hc:=k8 ns 0;generalize hS:cell ns 0=s at hc;by_cases c:s / 12 % 4=1
 .have hb:(s / 12 % 4==1)=true:=by rw[c];rfl
  have hr:=vQ ns s (1+s / 48 % 8) (1+s / 384 % 40) (by omega) (by omega) (by omega) (by omega) (g1:=true);simp_arith[ol,zS,C8,hS,qp,qo,ql,iB,hb,hr]
 .have hb:(s / 12 % 4==1)=false:=by simpa using c
  have hr:=vQ ns s (1+s % 3) (1+s / 3 % 4) (by omega) (by omega) (by omega) (by omega) (g1:=true);simp_arith[ol,zS,C8,hS,qp,qo,ql,iB,hb,hr]
end W
open PySem PySem.W PyProof.Rows
set_option maxRecDepth 100000 in
set_option maxHeartbeats 0 in
theorem PySem.Challenge.cw_callwalk_k15_common_holds : PySem.Challenge.rw_callwalk_k15_common.Holds := by
 w_on;o_law;k_head;(case hw=>w_witness2)
 k_fill
 refine L2.xW (l:=PySem.Challenge.rw_callwalk_k15_common) (n:=63) (k:=4) (x:="_law_script") (CX:=fun w=>L2.j9) (sp:=fun _=>L3.Iv W.ol) rfl (by decide) rfl ⟨rfl,by decide,by decide⟩ (fun w h Y=>PySem.W.kIn_of Y) ?kL ?F ?S ?C
 case kL=>exact fun w=>⟨by rfl,by rfl⟩
 case F=>
  intro w mg fa h KX G hmg
  refine' Exists.imp (fun _ z=>⟨z.1,fun base _ _=>z.2 base⟩) (W.FI hmg ?_)
  refine' Exists.imp (fun _ _=>True.intro) (W.HU KX G L2.wf ?a_a ?l_a ?c_a ?k_a ?a_b ?l_b ?c_b ?k_b ?a_c ?l_c ?c_c ?k_c ?a_d ?l_d ?c_d ?k_d ?a_e ?l_e ?c_e ?k_e ?a_f ?l_f ?c_f ?k_f ?a_g ?l_g ?c_g ?k_g ?a_h ?l_h ?c_h ?k_h ?a_i ?l_i ?c_i ?k_i ?a_j ?l_j ?c_j ?k_j ?a_k ?l_k ?c_k ?k_k ?a_l ?l_l ?c_l ?k_l ?a_m ?l_m ?c_m ?k_m ?a_n ?l_n ?c_n ?k_n ?a_o ?l_o ?c_o ?k_o ?z_bool ?z_dict ?z_int ?z_isinstance ?z_len ?z_list ?z_range ?z_reversed ?z_set ?z_sorted ?z_tuple)
  (case a_a=>k_is)
  (case l_a=>k_is)
  (case c_a=>k_is)
  (case k_a=>k_is)
  (case a_b=>k_is)
  (case l_b=>k_is)
  (case c_b=>k_is)
  (case k_b=>k_is)
  (case a_c=>k_is)
  (case l_c=>k_is)
  (case c_c=>k_is)
  (case k_c=>k_is)
  (case a_d=>k_is)
  (case l_d=>k_is)
  (case c_d=>k_is)
  (case k_d=>k_is)
  (case a_e=>k_is)
  (case l_e=>k_is)
  (case c_e=>k_is)
  (case k_e=>k_is)
  (case a_f=>k_is)
  (case l_f=>k_is)
  (case c_f=>k_is)
  (case k_f=>k_is)
  (case a_g=>k_is)
  (case l_g=>k_is)
  (case c_g=>k_is)
  (case k_g=>k_is)
  (case a_h=>k_is)
  (case l_h=>k_is)
  (case c_h=>k_is)
  (case k_h=>k_is)
  (case a_i=>k_is)
  (case l_i=>k_is)
  (case c_i=>k_is)
  (case k_i=>k_is)
  (case a_j=>k_is)
  (case l_j=>k_is)
  (case c_j=>k_is)
  (case k_j=>k_is)
  (case a_k=>k_is)
  (case l_k=>k_is)
  (case c_k=>k_is)
  (case k_k=>k_is)
  (case a_l=>k_is)
  (case l_l=>k_is)
  (case c_l=>k_is)
  (case k_l=>k_is)
  (case a_m=>k_is)
  (case l_m=>k_is)
  (case c_m=>k_is)
  (case k_m=>k_is)
  (case a_n=>k_is)
  (case l_n=>k_is)
  (case c_n=>k_is)
  (case k_n=>k_is)
  (case a_o=>k_is)
  (case l_o=>k_is)
  (case c_o=>k_is)
  (case k_o=>k_is)
  (case z_bool=>k_is)
  (case z_dict=>k_is)
  (case z_int=>k_is)
  (case z_isinstance=>k_is)
  (case z_len=>k_is)
  (case z_list=>k_is)
  (case z_range=>k_is)
  (case z_reversed=>k_is)
  (case z_set=>k_is)
  (case z_sorted=>k_is)
  (case z_tuple=>k_is)
 case S=>exact fun w H a ns hl hS=>L3.Ei (fun ns hn=>⟨_,_,W.FY ns hn⟩) H a ns hl hS
 case C=>exact fun _ _ _ _ _ z=>z
