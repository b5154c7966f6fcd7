import PyProof.Rows.All
import Wide.All
import OpenK.AllK
import Wide.FinOn
import Lean
import PyProof.EqAt
import PyProof.EqKinds
import PyProof.TupleCall
import PyProof.ZipIter
import PyProof.AttrMissHeap
import PyProof.Walks
import PyProof.WalksS
import PySem.SetTable
import KE.KSortTup
import KE.KRevIter
import PyProof.Rows.SetFrom
import PyProof.CollectWalk
import PyProof.DictWalks
import PyProof.DictItems
import KE.KDictList
import PyProof.ListRange
import PyProof.EqAt
import PyProof.WalkInts
import PyProof.StrBlockG
import PyProof.SumWalk
import PyProof.Rows.TupIter
import PyProof.StrLawsIdx
import PyProof.CallStr
import PyProof.StrCalls2
import PyProof.StrWalks
import KE.KIntText
import PyProof.SetRoads
import PyProof.StrLawsTight
import PyProof.Rows.FStr
import PyProof.SumAny
import PyProof.MinMaxWalk
import PyProof.DefCall
import KE.KMinKey
import KE.KEqDict
import PyProof.DictFindH
import PyProof.Rows.CallKw2
import PyProof.Rows.CallKwBuiltin
import KE.KDictOf
import PyProof.ExcArgsOwn
import PyProof.Draws
import PyProof.EnumMake
import PyProof.ConsumeWalk
import PySem.Challenge.RW_callwalk_k27_deep_calls
section
open PySem PySem.W PyProof.Rows
def PySem.W.Vw:Program:={PySem.Challenge.pw_callwalk_k27_deep_calls with main:={PySem.Challenge.pw_callwalk_k27_deep_calls.main with body:=PySem.Challenge.pw_callwalk_k27_deep_calls.main.body.filter fun s=>match s with|.FunctionDef n ..=>!(["way"]:List Str).contains n|.ClassDef ..=>true|_=>false}}
local macro_rules | `(tactic| o_head $H) => `(tactic| refine holds_open (q := PySem.W.Vw) (loose := ["way"]) (Xt := fun s => xlAt PySem.W.Vw [] s && recOk (RowW.records PySem.Challenge.rw_callwalk_k27_deep_calls.row.toRowW) s) (XP := XL PySem.W.Vw []) (Yf := Hook.obs $H) (Ya := Hook.val $H) (YP := Hook.says $H) (N := 4700) (fun w => by kernel_rfl) (Hook.of $H) (Hook.keeps $H) (fun s e => xl_of s (Bool.and_eq_true_iff.mp e).1) XL.keeps (by rfl) (by rfl) (by rfl) (fun s e => recFacts_of (Bool.and_eq_true_iff.mp e).2) (by rfl) (by first | assumption | decide +kernel) (by decide +kernel) ⟨rfl, rfl, rfl, rfl, rfl, by decide +kernel⟩ ?_ ?_)
set_option Elab.async false
set_option maxRecDepth 100000
set_option maxHeartbeats 0
theorem PySem.W.Ew:PySem.Challenge.rw_callwalk_k27_deep_calls.wellSaid=true:=by kernel_rfl
def PySem.W.Ea:=fun hc=>(by
 w_on;refine holds_law PySem.W.Ew fun said=>?_;k_head;(· w_witness2)
 exact hc:PySem.Challenge.rw_callwalk_k27_deep_calls.Holds)
end
set_option autoImplicit true
set_option Elab.async false
set_option linter.all false
set_option genSizeOf false
set_option genSizeOfSpec false
set_option compiler.extract_closed false
set_option maxRecDepth 100000
set_option maxHeartbeats 4000000
set_option bootstrap.genMatcherCode false
noncomputable section
abbrev Il:=@PySem.wpAny_bind
abbrev Im:=@Nat.le_refl
abbrev Ip:=@PySem.Heap.get?_push_of_some
abbrev Iq:=@List.length_map
abbrev Ir:=@List.getElem?_eq_getElem
abbrev Iu:=@PySem.wpAny_pure
abbrev Iv:=@List.getElem?_eq_some_iff
abbrev Iw:=@List.mem_cons_of_mem
abbrev Iy:=@List.mem_cons_self
abbrev Iz:=@PySem.Heap.lt_size
abbrev IA:=@List.mem_singleton
abbrev IB:=@List.size_toArray
abbrev IC:=@List.not_mem_nil
abbrev ID:=@List.mem_cons
abbrev IE:=@List.getElem?_map
abbrev IF:=@List.length_append
abbrev IG:=@PySem.Heap.get?_push_size
abbrev IH:=@List.mem_of_getElem?
abbrev II:=@List.map_cons
abbrev IJ:=@decide_eq_true
abbrev IK:=@if_neg
abbrev IL:=@Nat.zero_le
abbrev IM:=@List.length_cons
abbrev IN:=@Nat.ne_of_lt
abbrev IQ:=@decide_eq_false
abbrev IR:=@List.mem_append
abbrev IS:=@if_pos
abbrev IT:=@List.mem_map
abbrev IU:=@Option.some.inj
abbrev IV:=@Nat.le_trans
abbrev IW:=@List.map_append
abbrev IX:=@Bool.false_ne_true
abbrev IY:=@PySem.sizeLine_eq
abbrev IZ:=@PySem.F.plainAttrs_list
abbrev I0:=@Nat.lt_of_lt_of_le
abbrev I_:=@List.mem_append_right
abbrev Ja:=@of_decide_eq_true
abbrev Jb:=@List.mem_iff_getElem?
abbrev Jc:=@PySem.F.slot_list_append
abbrev Jd:=@PySem.F.type_list_append
abbrev Je:=@PySem.PassesOwn.never
abbrev Jf:=@List.take_add_one
abbrev Jg:=@Option.map_eq_some_iff
abbrev Jh:=@List.nodup_nil
abbrev Ji:=@PySem.F.plainAttrs_dict
abbrev Jj:=@Int.eq_ofNat_of_zero_le
abbrev Jk:=@PySem.W.mg_none_of
abbrev Jl:=@List.map_congr_left
abbrev Jm:=@PySem.F.slot_dict_setdefault
abbrev Jn:=@Ne.symm
abbrev Jo:=@PySem.Heap.get?_update_other
abbrev Jp:=@List.take_length
abbrev Jq:=@List.nodup_cons
abbrev Jr:=@List.length_eq_zero_iff
abbrev Js:=@List.mem_filter
abbrev Jt:=@List.length_take
abbrev Ju:=@PySem.F.slot_dict_itemiterator_next
abbrev Jv:=@List.nodup_append
abbrev Jw:=@PySem.boot_len
abbrev Jx:=@List.take_of_length_le
abbrev Jy:=@Nat.lt_of_le_of_lt
abbrev Jz:=@PySem.W.kia_one
abbrev JA:=@PyProof.Rows.callWith_type1
abbrev JB:=@List.find?_cons
abbrev JC:=@PySem.wpAny_mono
abbrev JD:=@List.mem_append_left
abbrev JE:=@List.drop_eq_getElem_cons
abbrev JF:=@Nat.shiftRight_eq_div_pow
abbrev JG:=@PySem.wpAny_truthy_bool
abbrev JH:=@PySem.F.type_dict_setdefault
abbrev JI:=@Nat.lt_irrefl
abbrev JJ:=@PySem.wpAny_execs_nil
abbrev JK:=@List.map_map
abbrev JL:=@congrArg
abbrev JM:=@PySem.Calls.callWith_builtin
abbrev JN:=@PySem.mem_of_lookup
abbrev JO:=@PySem.wpAny_dictEntries
abbrev JP:=@PySem.F.slot_dict_get
abbrev JQ:=@PySem.wpAny_typeNameOfWhole_itemiter
abbrev JR:=@PySem.wpAny_Call_Name_kw
abbrev JS:=@PySem.tupleKind_room_in1
abbrev JT:=@Nat.exists_eq_add_of_le'
abbrev JU:=@Nat.lt_succ_self
abbrev JV:=@PySem.Paired.length
abbrev JW:=@PySem.wpAny_holding
abbrev JX:=@Int.le_trans
abbrev JY:=@Array.length_toList
abbrev JZ:=@List.length_nil
abbrev J0:=@Int.le_refl
abbrev J1:=@List.length_reverse
abbrev J2:=@List.getElem?_append_right
abbrev J3:=@Nat.le_add_right
abbrev J4:=@PySem.wpAny_call_entry
abbrev J5:=@beq_self_eq_true
abbrev J6:=@PySem.F.plain_min_loop
abbrev J7:=@Nat.ne_of_gt
abbrev J8:=@PySem.Calls.spliced_cons
abbrev J9:=@Array.getElem?_toList
abbrev J_:=@PySem.wpAny_notOrdered_dict
abbrev Ka:=@PySem.Heap.get?_update_self
abbrev Kb:=@List.take_append_drop
abbrev Kc:=@PySem.wpAny_typeNameOf_itemiter
abbrev Kd:=@List.getElem?_append_left
abbrev Ke:=@PySem.Calls.evalArgs_plain
abbrev Kf:=@PySem.Around.under_plainId
abbrev Kg:=@List.pairwise_append
abbrev Kh:=@PySem.wpAny_passesOwn
abbrev Ki:=@PySem.wpAny_newObj_type
abbrev Kj:=@List.foldl_append
abbrev Kk:=@List.append_assoc
abbrev Kl:=@List.foldl_cons
abbrev Km:=@Int.emod_nonneg
abbrev Kn:=@PySem.Heap.SameBut.update
abbrev Ko:=@List.length_drop
abbrev Kq:=@Bool.and_eq_true
abbrev Kr:=@List.lookup_cons
abbrev Ks:=@PySem.F.entry_dict_get
abbrev Kt:=@PySem.wpAny_setField_rec
abbrev Ku:=@List.map_nil
abbrev Kv:=@PySem.wpAny_pyIter_list
abbrev Kw:=@PySem.Calls.spliced_nil
abbrev Kx:=@PySem.plainId_quiet
abbrev Ky:=@List.flatMap_cons
abbrev Kz:=@PySem.Obj.data_mapDictKeys
abbrev KA:=@List.Perm.refl
abbrev KB:=@PySem.wpAny_execs_cons
abbrev KC:=@List.filterMap_cons
abbrev KD:=@PySem.Heap.SameBut.extBut
abbrev KE:=@PySem.call_meetsIn
abbrev KF:=@Int.le_of_lt
abbrev KG:=@Bool.eq_iff_iff
abbrev KH:=@List.append_nil
abbrev KI:=@PySem.W.callWith_K
abbrev KJ:=@PySem.wpAny_Call_method0_late
abbrev KL:=@PySem.codeAny_builtin
abbrev KM:=@PySem.wpAny_dictEpoch
abbrev KN:=@Bool.false_eq_true
abbrev KO:=@Nat.add_sub_cancel_left
abbrev KP:=@List.filter_cons_of_neg
abbrev KQ:=@List.filter_cons_of_pos
abbrev KR:=@PySem.W.mg_of
abbrev KU:=@List.filter_append
abbrev KW:=@PySem.wpAny_isOneOf_itemiter
abbrev KY:=@List.length_pos_of_mem
abbrev KZ:=@List.length_eq_one_iff
abbrev K1:=@List.reverse_cons
abbrev K3:=@PySem.Heap.size_push
abbrev K4:=@PySem.wpAny_tryCatch
abbrev K5:=@PySem.wpAny_seqItems
abbrev K6:=@or_false
abbrev K7:=@Nat.le_of_lt
abbrev K8:=@List.length_filter_le
abbrev K9:=@PySem.F.args_dict_setdefault_3
abbrev K_:=@PySem.F.entry_dict_setdefault
abbrev La:=@PySem.wpAny_pyIter_revIter
abbrev Lb:=@List.length_take_le'
abbrev Lc:=@List.sum_cons
abbrev Ld:=@List.dropLast_concat_getLast
abbrev Le:=@beq_iff_eq
abbrev Lf:=@PySem.W.plainGet_of
abbrev Lg:=@beq_eq_false_iff_ne
abbrev Lh:=@Nat.add_le_add_left
abbrev Li:=@PySem.size_of_entries
abbrev Lj:=@PySem.wpAny_letGo
abbrev Ll:=@List.length_pos_iff
abbrev Lm:=@Nat.mul_le_mul_left
abbrev Lo:=@PySem.wpAny_updateSeq
abbrev Lp:=@PySem.W.of_hideAll
abbrev Lq:=@Nat.le_of_eq
abbrev Lr:=@PySem.codeAny_mono
abbrev Ls:=@Int.lt_of_lt_of_le
abbrev Lu:=@Nat.add_comm
abbrev Lv:=@Bool.false_and
abbrev Lw:=@Nat.mul_le_mul
abbrev Lx:=@PySem.W.kitx_dict
abbrev Ly:=@Int.toNat_natCast
abbrev Lz:=@Option.isSome_map
abbrev LA:=@PySem.wpAny_rule
abbrev LB:=@Nat.lt_succ_of_lt
abbrev LC:=@List.getElem?_inj
abbrev LD:=@List.any_cons
abbrev LF:=@List.all_cons
abbrev LG:=@Nat.mul_add
abbrev LH:=@List.perm_middle
abbrev LI:=@Nat.min_eq_right
abbrev LJ:=@if_true
abbrev LK:=@if_false
abbrev LL:=PySem.Shared
abbrev LM:=PySem.W.Frag
abbrev LN:=PySem.Program
abbrev LO:=PySem.Value
abbrev LP:=PySem.Around
theorem LW (h : True := by rfl) : True := h
theorem LQ (h : True := by decide) : True := h
theorem LU (h : ∀ u : Unit, u = u := by intro _; rfl) : True := True.intro
theorem LR (h : True := by first|exact .inl rfl|exact .inr rfl|assumption) : True := h
theorem LS (h : True := by first|exact Or.inl rfl|exact Or.inr (Or.inl rfl)|exact Or.inr (Or.inr rfl)) : True := h
theorem LV (h : True := by intro _ _; rfl) : True := h

namespace L2
open PySem PySem.Spec PyProof.Rows
noncomputable abbrev ba:=Sum Int Str
noncomputable def hZ:ba->LO->Bool
 | .inl k,v=>Value.isInt k v
 | .inr x,v=>Value.isStrOf x v
noncomputable def EE (w:World):ba->Int
 | .inl k=>hashInt k
 | .inr x=>hashStr w x
theorem br:∀{k:ba}{v:LO},hZ k v=true->(∃ i t,k=Sum.inl i/\v=Value.int i t)\/(∃ x t,k=Sum.inr x/\v=Value.str x t)
 | .inl i,v,h=>by obtain⟨t,e⟩:=Value.isInt_shape (k:=i) (v:=v) h;exact .inl ⟨i,t,rfl,e⟩
 | .inr x,v,h=>by obtain⟨t,e⟩:=Value.isStrOf_shape (x:=x) (v:=v) h;exact .inr ⟨x,t,rfl,e⟩
theorem ri (i:Int)(t:Tok):hZ (.inl i) (.int i t)=true:=by simp[hZ,Value.isInt]
theorem rj (x:Str)(t:Tok):hZ (.inr x) (.str x t)=true:=by simp[hZ,Value.isStrOf]
theorem zJ (a b:Int):decide ((Sum.inl a:ba)=Sum.inl b)=(a==b):=by grind
theorem zK (a b:Str):decide ((Sum.inr a:ba)=Sum.inr b)=decide (a=b):=by grind
theorem zL (a:Int)(b:Str):decide ((Sum.inl a:ba)=Sum.inr b)=false:=IQ (fun q=>nomatch q)
theorem zM (a:Str)(b:Int):decide ((Sum.inr a:ba)=Sum.inl b)=false:=IQ (fun q=>nomatch q)
def aI (prog:LN)(w:World):PySem.KeyKind prog w ba where
 is:=hZ
 hash:=EE w
 inj:=fun v a b ha hb=>by
  rcases br ha with⟨i,t,rfl,rfl⟩|⟨x,t,rfl,rfl⟩
  .rcases br hb with⟨j,u,rfl,e⟩|⟨y,u,rfl,e⟩
   .injection e with e1 _;rw[e1]
   .exact nomatch e
  .rcases br hb with⟨j,u,rfl,e⟩|⟨y,u,rfl,e⟩
   .exact nomatch e
   .injection e with e1 _;rw[e1]
 byValue:=fun k v h=>by rcases br h with⟨i,t,rfl,rfl⟩|⟨x,t,rfl,rfl⟩<;>rfl
 pyHash:=fun hv h=>by
  rcases br hv with⟨i,t,rfl,rfl⟩|⟨x,t,rfl,rfl⟩
  .exact wpAny_pyHash_int h
  .exact wpAny_pyHash_str h
 eqBool:=fun hu hv h=>by
  rcases br hu with⟨i,t,rfl,rfl⟩|⟨x,t,rfl,rfl⟩
  .rcases br hv with⟨j,u,rfl,rfl⟩|⟨y,u,rfl,rfl⟩
   .rw[zJ]at h;exact wpAny_eqBool_int h
   .rw[zL]at h;exact SeqAt.EqAt.int_str i t y u _ _ _ _ h
  .rcases br hv with⟨j,u,rfl,rfl⟩|⟨y,u,rfl,rfl⟩
   .rw[zM]at h;exact SeqAt.EqAt.str_int x t j u _ _ _ _ h
   .rw[zK]at h;exact wpAny_eqBool_str h
 «strs»:=fun k x t v h=>by
  rcases br h with⟨i,u,rfl,e⟩|⟨y,u,rfl,e⟩
  .exact nomatch e
  .injection e with e1 _;subst e1;cases v<;>rfl
theorem nI (prog:LN)(w:World)(i:Int)(t:Tok):(aI prog w).is (.inl i) (.int i t)=true:=ri i t
theorem nJ (prog:LN)(w:World)(x:Str)(t:Tok):(aI prog w).is (.inr x) (.str x t)=true:=rj x t
inductive V where
 |bu|bl (b:Bool)|int (i:Int)|str (x:Str)|qh (b:Array UInt8)|zE (b:UInt64)|ref (a:Addr)|ty (n:String)
 deriving DecidableEq
noncomputable def RelV:V->LO->Prop
 | .bu,u=>u=Value.none
 | .bl b,u=>u=Value.bool b
 | .int i,u=>∃ t,u=Value.int i t
 | .str x,u=>∃ t,u=Value.str x t
 | .qh b,u=>∃ t,u=Value.bytes b t
 | .zE b,u=>∃ t,u=Value.float b t
 | .ref a,u=>u=Value.ref a
 | .ty n,u=>u=Value.type n
abbrev Vals:List V->List LO->Prop:=Paired RelV
theorem Vals.length (r:Vals xs us):xs.length=us.length:=JV r
theorem Vals.get:∀{xs:List V}{us:List LO}{i:Nat}{x:V},Vals xs us->xs[i]?=some x->∃ u,us[i]?=some u/\RelV x u
 |_,_,_,_,.nil,e=>by simp at e
 |_,_,0,_,.cons r _,e=>by simp at e;subst e;exact⟨_,rfl,r⟩
 |_,_,i+1,x,.cons _ t,e=>by obtain⟨u,h1,h2⟩:=Vals.get (i:=i) (x:=x) t (by simpa using e);exact⟨u,by simpa using h1,h2⟩
theorem Vals.append:∀{xs ys:List V}{us ws:List LO},Vals xs us->Vals ys ws->Vals (xs++ys) (us++ws)
 |_,_,_,_,.nil,s=>s
 |_,_,_,_,.cons r t,s=>.cons r (Vals.append t s)
theorem Vals.take:∀{xs:List V}{us:List LO}(n:Nat),Vals xs us->Vals (xs.take n) (us.take n)
 |_,_,0,_=>.nil
 |_,_,_+1,.nil=>.nil
 |_,_,n+1,.cons r t=>.cons r (Vals.take n t)
theorem Vals.drop:∀{xs:List V}{us:List LO}(n:Nat),Vals xs us->Vals (xs.drop n) (us.drop n)
 |_,_,0,r=>r
 |_,_,_+1,.nil=>.nil
 |_,_,n+1,.cons _ t=>Vals.drop n t
def RelO:Option V->Option LO->Prop
 |some v,some u=>RelV v u
 |none,none=>True
 |_,_=>False
def KV {κ:Type}:List (κ×V)->List (κ×LO)->Prop:=Paired fun(p:κ×V)(q:κ×LO)=>p.1=q.1/\RelV p.2 q.2
noncomputable def kV:ba->V
 | .inl i=>.int i
 | .inr x=>.str x
inductive HO where
  
 |lst (xs:List V)
  
 |tup (xs:List V)
  
 |dK (kvs:List (ba×V))|dT (kvs:List (List ba×V))
  
 |set (S:Int->Bool) (n:Nat)
  
 |ins (C dx:Addr) (fs:List (Str×V))
  
 |own (x:Addr)
  
 |xd (fs:List (Str×V))
  
 |met (f x:Addr)
  
 |EB (lo hi:Int)
  
 |bO (o:Obj) (u:HO)
  
 |wt (ps:Array LO)
  
 |ext (φ:Heap->Prop)
noncomputable abbrev Hp:=Addr->Option HO
noncomputable def upd (H:Hp)(a:Addr)(o:HO):Hp:=fun b=>if b=a then some o else H b
theorem af:upd H a o a=some o:=by unfold upd;rw[IS rfl]
theorem au (h:b≠a):upd H a o b=H b:=by unfold upd;rw[IK h]
theorem tU {H:Hp}(h:H a=some o)(h':H b=some u)(d:o≠u):a≠b:=by intro e;subst e;rw[h]at h';exact d (IU h')
theorem am {H:Hp}(h:H a=some o)(h':H b=none):a≠b:=by intro e;subst e;rw[h]at h';cases h'
section
variable (P:LN)(w:World)
def ObjOk (H:Hp)(h:Heap)(a:Addr):HO->Prop
 | .lst xs=>xs.length<=sizeLine/\∃(its:List LO)(n:Nat),Vals xs its/\h.get? a=some { cls:=.type "list",data:=.seq its.toArray n }
 | .tup xs=>xs.length<=sizeLine/\∃ its:List LO,Vals xs its/\IsTup h a its.toArray
 | .dK kvs=>kvs.length<=sizeLine/\(a==sysModules)=false/\∃ vs,KV kvs vs/\h.DictOf (aI P w) a vs
 | .dT kvs=>kvs.length<=sizeLine/\(a==sysModules)=false/\∃ xs:List (List ba×Addr×LO),
  Paired (fun(p:List ba×V)(q:List ba×Addr×LO)=>p.1=q.1/\H q.2.1=some (.tup (p.1.map kV))/\RelV p.2 q.2.2) kvs xs/\
  ∃ o es ep,h.get? a=some o/\o.ExactDict/\o.data=.dict es ep/\es.toList=xs.map (entryOfKey (tupleKind (aI P w)))/\(xs.map (·.1)).Nodup
 | .set S n=>h.SetOf (intKind P w) a S n
 | .ins C dx fs=>H dx=some (.own a)/\fs.length<=1000/\dx≠a/\h.get? a=some (PySem.W.instObj C dx)/\
  ∃ mA,h.Ns1 dx mA/\(∀ f,RelO (fs.lookup f) (mA f))/\PySem.Within mA (fs.map (·.1))
 | .own _=>∃ o,h.get? a=some o
 | .xd fs=>∃ mA,h.Ns1 a mA/\∀ f,RelO (fs.lookup f) (mA f)
 | .EB lo hi=>∃ t u v,h.get? a=some { cls:=.type "range",data:=.fields #[.int lo t,.int hi u,.int 1 v] }
 | .bO o u=>h.get? a=some o/\ObjOk H h a u
 | .wt ps=>h.get? a=some { cls:=.none,data:=.fields ps }
 | .met f x=>h.get? a=some (PySem.W.methodObj (.ref f) (.ref x))
 | .ext φ=>φ h/\(∃ o,h.get? a=some o)/\∀ h1 h2:Heap,φ h1->(∀ o,h1.get? a=some o->h2.get? a=some o)->φ h2
def HOk (H:Hp)(h:Heap):Prop:=∀ a o,H a=some o->ObjOk P w H h a o
end
section
theorem ObjOk.lt (x:ObjOk P w H h a o):a<h.objs.size:=by
 cases o with
 |lst xs=>obtain⟨_,_,_,_,e⟩:=x;exact Iz e
 |tup xs=>obtain⟨_,_,_,p⟩:=x;exact p.lt
 |dK kvs=>obtain⟨_,_,_,_,o,_,_,e,_⟩:=x;exact Iz e
 |dT kvs=>obtain⟨_,_,_,_,o,_,_,e,_⟩:=x;exact Iz e
 |set S n=>obtain⟨o,_,_,_,e,_⟩:=x;exact Iz e
 |ins C dx fs=>obtain⟨_,_,_,e,_⟩:=x;exact Iz e
 |own y=>obtain⟨_,e⟩:=x;exact Iz e
 |xd fs=>obtain⟨_,⟨_,_,_,e,_⟩,_⟩:=x;exact Iz e
 |EB lo hi=>obtain⟨_,_,_,e⟩:=x;exact Iz e
 |bO ob u=>obtain⟨e,_⟩:=x;exact Iz e
 |wt ps=>exact Iz (show h.get? a=some _ from x)
 |met f y=>exact Iz (show h.get? a=some _ from x)
 |ext φ=>obtain⟨_,⟨_,e⟩,_⟩:=x;exact Iz e
theorem Paired.yM {α β:Type}{F G:α->β->Prop}{l₁:List α}{l₂:List β}(h:Paired F l₁ l₂)(f:∀ a b,F a b->G a b):Paired G l₁ l₂:=by
 induction h with
 |nil=>exact .nil
 |cons r _ ih=>exact .cons (f _ _ r) ih
theorem Paired.imp' {α β:Type}{F G:α->β->Prop}(f:∀ a b,F a b->G a b){l₁:List α}{l₂:List β}(r:Paired F l₁ l₂):Paired G l₁ l₂:=Paired.yM r f
theorem ObjOk.stay (x:ObjOk P w H h a o)(k:∀ b u,(b=a\/H b=some (.own a))->h.get? b=some u->h'.get? b=some u)
 (ho:∀ b,H b=some (.own a)->H' b=some (.own a)) (ht:∀ b xs,H b=some (.tup xs)->H' b=some (.tup xs)):ObjOk P w H' h' a o:=by
 induction o with
 |lst xs=>obtain⟨z,its,n,r,e⟩:=x;exact⟨z,its,n,r,k _ _ (.inl rfl) e⟩
 |tup xs=>obtain⟨z,its,r,ob,e,c⟩:=x;exact⟨z,its,r,ob,k _ _ (.inl rfl) e,c⟩
 |dK kvs=>obtain⟨z,y,vs,r,ob,es,ep,e,c⟩:=x;exact⟨z,y,vs,r,ob,es,ep,k _ _ (.inl rfl) e,c⟩
 |dT kvs=>obtain⟨z,y,xs,r,ob,es,ep,e,c⟩:=x;exact⟨z,y,xs,Paired.yM r fun p q z=>⟨z.1,ht _ _ z.2.1,z.2.2⟩,ob,es,ep,k _ _ (.inl rfl) e,c⟩
 |set S n=>obtain⟨ob,es,ep,t,e,c⟩:=x;exact⟨ob,es,ep,t,k _ _ (.inl rfl) e,c⟩
 |ins C dx fs=>obtain⟨d,z,ne,e,mA,⟨od,es,ep,e2,c⟩,r⟩:=x;exact⟨ho _ d,z,ne,k _ _ (.inl rfl) e,mA,⟨od,es,ep,k _ _ (.inr d) e2,c⟩,r⟩
 |own y=>obtain⟨ob,e⟩:=x;exact⟨ob,k _ _ (.inl rfl) e⟩
 |xd fs=>obtain⟨mA,⟨od,es,ep,e,c⟩,r⟩:=x;exact⟨mA,⟨od,es,ep,k _ _ (.inl rfl) e,c⟩,r⟩
 |EB lo hi=>obtain⟨t,u,v,e⟩:=x;exact⟨t,u,v,k _ _ (.inl rfl) e⟩
 |bO ob u ih=>obtain⟨e,q⟩:=x;exact⟨k _ _ (.inl rfl) e,ih q⟩
 |wt ps=>have e:h.get? a=some { cls:=.none,data:=.fields ps }:=x;show h'.get? a=some { cls:=.none,data:=.fields ps };exact k a _ (.inl rfl) e
 |met f y=>have e:h.get? a=some (PySem.W.methodObj (.ref f) (.ref y)):=x;show h'.get? a=some (PySem.W.methodObj (.ref f) (.ref y));exact k a _ (.inl rfl) e
 |ext φ=>obtain⟨p,⟨o,e⟩,st⟩:=x;exact⟨st _ _ p fun o q=>k _ _ (.inl rfl) q,⟨o,k _ _ (.inl rfl) e⟩,st⟩
theorem HOk.lt (x:HOk P w H h)(e:H a=some o):a<h.objs.size:=(x a o e).lt
theorem HOk.fresh (x:HOk P w H h)(e:h.objs.size<=a):H a=none:=by
 cases q:H a with
 |none=>rfl
 |some u=>exact absurd (I0 (x.lt q) e) (JI _)
theorem HOk.kept (x:HOk P w H h)(k:∀ b u,h.get? b=some u->h'.get? b=some u):HOk P w H h':=fun a o e=>(x a o e).stay (fun b u _ q=>k b u q) (fun _ q=>q) fun _ _ q=>q
theorem HOk.laid (x:HOk P w H h)(k:∀ b u,h.get? b=some u->h'.get? b=some u)(hp:h.objs.size<=a)(new:ObjOk P w (upd H a o) h' a o):HOk P w (upd H a o) h':=fun b u e=>by
 have hn:=x.fresh hp;by_cases hb:b=a
 .subst hb;rw[af]at e;cases e;exact new
 .rw[au hb]at e;exact(x b u e).stay (fun c v _ q=>k c v q) (fun c q=>by rw[au (am q hn)];exact q) fun c xs q=>by rw[au (am q hn)];exact q
end
def Rd (H:Hp)(a:Addr)(u:HO):Prop:=H a=some u\/∃ o,H a=some (.bO o u)
theorem Rd.ok (r:Rd H a u)(x:HOk P w H h):ObjOk P w H h a u:=by
 rcases r with r|⟨o,r⟩
 .exact x a u r
 .obtain⟨_,q⟩:=x a _ r;exact q
noncomputable def BS:Option HO->Prop
 |some (.lst _)=>True
 |some (.dK _)=>True
 |some (.dT _)=>True
 |some (.set _ _)=>True
 |some (.ins _ _ _)=>True
 |some (.ext _)=>True
 |_=>False
section
theorem HOk.write (ok:HOk P w H h)(mu:BS (H x))(he:e=x\/H e=some (.own x))(k:∀ b u,b≠e->h.get? b=some u->h'.get? b=some u)(heo:∃ u,h'.get? e=some u)
 (new:ObjOk P w (upd H x o') h' x o'):HOk P w (upd H x o') h':=fun b u q=>by
 have nown:∀ c y,H c=some (.own y)->c≠x:=fun c y r z=>by subst z;rw[r]at mu;exact mu
 have ntup:∀ c xs,H c=some (.tup xs)->c≠x:=fun c xs r z=>by subst z;rw[r]at mu;exact mu
 by_cases hb:b=x
 .subst hb;rw[af]at q;cases q;exact new
 .rw[au hb]at q;by_cases hbe:b=e
  .have q':H b=some (.own x):=by
    grind
   rw[q]at q';cases q';obtain⟨v,hv⟩:=heo;exact⟨v,by rw[hbe];exact hv⟩
  .refine(ok b u q).stay (fun c v hc r=>k c v ?_ r) (fun c r=>by rw[au (nown c b r)];exact r) fun c xs r=>by rw[au (ntup c xs r)];exact r
   grind
end
def Qt (H:Hp)(b:Addr):Prop:=H b=none\/∃ xs,H b=some (.tup xs)
structure Un (fs ex:List Addr) (H H':Hp) (h h':Heap):Prop where
 keep:∀ b o,h.get? b=some o->Qt H b->b∉fs->b∉ex->h'.get? b=some o
 slot:∀ b o,h.get? b=some o->H b=none->b∈fs->b∉ex->∃ sl,h'.get? b=some { o with slots:=sl }
 free:∀ b o,h.get? b=some o->H b=none->b∉ex->H' b=none
 there:∀ b o,h.get? b=some o->b∉ex->∃ o',h'.get? b=some o'
 gw:∀ b xs,H b=some (.tup xs)->H' b=some (.tup xs)
 gK:∀ b o u,H b=some (.bO o u)->H' b=some (.bO o u)
 jG:∀ b ps,H b=some (.wt ps)->∃ more,H' b=some (.wt (ps++more))
section
theorem Un.any (u:Un fs ex H H1 h h1)(q:h.get? b=some ob)(n:H b=none)(hx:b∉ex):∃ sl,h1.get? b=some { ob with slots:=sl }:=by
 by_cases hb:b∈fs
 .exact u.slot b ob q n hb hx
 .exact⟨ob.slots,u.keep b ob q (.inl n) hb hx⟩
theorem Un.kept (k:∀ b u,h.get? b=some u->h'.get? b=some u):Un fs ex H H h h':=⟨fun b ob q _ _ _=>k b ob q,fun b ob q _ _ _=>⟨ob.slots,k b ob q⟩,fun _ _ _ n _=>n,fun b ob q _=>⟨ob,k b ob q⟩,fun _ _ q=>q,fun _ _ _ q=>q,fun _ ps q=>⟨#[],by rw[q];simp⟩⟩
theorem Un.refl:Un fs ex H H h h:=Un.kept fun _ _ q=>q
theorem Un.laid (k:∀ b u,h.get? b=some u->h'.get? b=some u)(hp:h.objs.size<=a)(hn:H a=none):Un fs ex H (upd H a o) h h' where
 keep:=fun b u q _ _ _=>k b u q
 slot:=fun b u q _ _ _=>⟨u.slots,k b u q⟩
 free:=fun b u q n _=>by rw[au (IN (I0 (Iz q) hp))];exact n
 there:=fun b u q _=>⟨u,k b u q⟩
 gw:=fun b xs q=>by rw[au (am q hn)];exact q
 gK:=fun b u xs q=>by rw[au (am q hn)];exact q
 jG:=fun b ps q=>⟨#[],by rw[au (am q hn),q];simp⟩
theorem Un.write (mu:BS (H x))(he:e=x\/H e=some (.own x))(k:∀ b u,b≠e->h.get? b=some u->h'.get? b=some u)(heo:∃ u,h'.get? e=some u):Un fs ex H (upd H x o) h h':=by
 have hx:∀ b,H b=none->b≠x:=fun b n z=>by subst z;rw[n]at mu;exact mu
 have hb:∀ b,H b=none->b≠e:=fun b n z=>by grind
 have hm:∀ b u,H b=some u->¬ BS (some u)->b≠x:=fun b u q nm z=>by subst z;rw[q]at mu;exact nm mu
 refine⟨fun b u q n _ _=>k b u (n.elim (hb b) fun⟨xs,ee⟩ z=>by rcases he with r|r;(·rw[<- r,<- z,ee]at mu;exact mu);(·rw[<- z,ee]at r;cases r)) q,fun b u q n _ _=>⟨u.slots,k b u (hb b n) q⟩,fun b u q n _=>by rw[au (hx b n)];exact n,fun b u q _=>?_,
  fun b xs q=>by rw[au (hm b _ q fun z=>z)];exact q,fun b u xs q=>by rw[au (hm b _ q fun z=>z)];exact q,fun b ps q=>⟨#[],by rw[au (hm b _ q fun z=>z),q];simp⟩⟩
 by_cases hbe:b=e
 .subst hbe;exact heo
 .exact⟨u,k b u hbe q⟩
end
noncomputable def nK (h:Heap)(H:Hp):List Addr:=(List.range h.objs.size).filter fun a=>(H a).isSome
def nL (h:Heap)(H:Hp):Heap:=PySem.W.hideAll h (nK h H)
theorem rn (h:Heap)(H:Hp):(nL h H).objs.size=h.objs.size:=PySem.W.hideAll_size _ _
theorem nM (e:h.get? b=some o)(n:H b=none):(nL h H).get? b=some o:=PySem.W.hideAll_get _ e fun hm=>by have q:(H b).isSome=true:=(Js.mp hm).2;rw[n]at q;simp at q
theorem wY (e:(nL h H).get? b=some o):h.get? b=some o/\H b=none:=by
 have e':h.get? b=some o:=Lp (nK h H) e;refine⟨e',?_⟩;cases q:H b with
 |none=>rfl
 |some x=>have hm:b∈nK h H:=Js.mpr ⟨List.mem_range.mpr (Iz e'),by simp[q]⟩;have z:(nL h H).get? b=none:=PySem.W.hideAll_none (nK h H) hm;rw[z]at e;cases e
noncomputable def wZ (g h:Heap)(L:Addr):List (Addr×Obj):=(List.range h.objs.size).filterMap fun a=>if a=L\/(g.get? a).isSome=true then none else (h.get? a).map fun o=>(a,o)
def rest (g h:Heap)(L d:Addr):List (Addr×Obj):=(wZ g h L).filter fun p=>decide (p.1≠d)
noncomputable def GR:LO->V
 | .str x _=>.str x
 | .ref a=>.ref a
 |_=>.bu
def zN (o:Obj):Option (Addr×List V):=match o.cls with
 | .type n=>if n=="kt" then (match o.data with
  | .seq its _=>(match its.toList with
   | .ref a::r=>some (a,r.map GR)
   |_=>none)
  |_=>none) else none
 |_=>none
def EF (K:LM)(H:Hp):Prop:=∀ p∈K,∀ a xs,zN p.2=some (a,xs)->H a=some (.tup xs)
structure Mod (K:LM) (mg:Str->Option LO) (base:Heap):Prop where
 BP:K.In base
 glob:base.Ns mainGlobals mg
 blt:∃ mb,base.Ns builtinsNs mb/\∀ x:Str,x≠"__name__"->mb x=bootBuiltins x
 nolimit:base.NoLimit
structure Cx where
 prog:LN
 w:World
 K:LM
 mg:Str->Option LO
 base:Heap
 A:LP
 N:List Str
 s₀:LL
 H₀:Hp
 env:Env
 outer:List Env
 stack:List Env
 ex:List Addr
 fn:Str->Bool
 calm:Bool
 pn:List (Addr×Obj)
 xe:LO->LL->Prop
abbrev wX (X:Cx){α:Type}(m:Sem α):(α->LL->Prop)->(LO->LL->Prop)->LL->Prop:=wpAny (model X.prog X.w) X.A m
abbrev sE (X:Cx)(e:Expr)(es:List Expr):Prop:=starEach (e::es) X.env=(false,eval e X.env)::starEach es X.env
abbrev bT (X:Cx)(p:Pos)(es:List Expr):Prop:=(backTo p (starEach es X.env)).any (·.1)=false
abbrev dB (x:Str):Prop:=(x==("__debug__" : Str))=false
noncomputable def fX (l:List Env):List Addr:=l.filterMap (·.frame)
abbrev Cx.fs (X:Cx):List Addr:=fX X.outer
def EG (sc:Scope)(x:Str):Prop:=sc.names.lookup x=some .local\/sc.names.lookup x=some .cell\/sc.names.lookup x=some .free
def B3 (sc:Scope)(x:Str):Prop:=sc.names.lookup x=some .local\/sc.names.lookup x=some .cell
def EH (env:Env)(h:Heap)(m:Str->Option LO)(x:Str)(u:LO):Prop:=(env.kindOf x=some .local/\m x=some u)\/((env.kindOf x=some .cell\/env.kindOf x=some .free)/\∃ c,env.cells.lookup x=some c/\h.IsCell c (some u))
structure Cx.Ok (X:Cx):Prop where
 mod:Mod X.K X.mg X.base
 kind:X.env.scope.kind=.function
 glob:X.env.globals=mainGlobals
 blt:X.env.builtins=builtinsNs
 above:X.s₀.heap.objs.size<=X.env.locals
 inj:∀ x y c,X.env.cells.lookup x=some c->X.env.cells.lookup y=some c->x=y
 has:∀ x,(X.env.kindOf x=some .cell\/X.env.kindOf x=some .free)->∃ c,X.env.cells.lookup x=some c
 yK:∀ x c,X.fn x=true->X.env.cells.lookup x=some c->X.s₀.heap.objs.size<=c
 hd:X.calm=true->X.A.handled=none
 frames:X.A.frames=some X.stack
 aV:X.stack=X.outer\/(X.stack=X.env::X.outer/\X.env.frame=some X.env.locals)
 B0:∀ b∈X.ex,b≠X.env.locals/\∀ x c,X.env.cells.lookup x=some c->c≠b
 bs:∀ b o,X.base.get? b=some o->X.s₀.heap.get? b=some o/\X.H₀ b=none
 tL:X.base.objs.size<=X.s₀.heap.objs.size
 nw:∀ b o,X.base.get? b=some o->b∉X.ex
 oZ:∀ b∈X.ex,b∉X.fs
 gJ:X.s₀.heap.FunFrames X.base X.outer
 wu:∀ b∈X.fs,X.H₀ b=none
 kt:EF X.K X.H₀
structure Inv (X:Cx) (ae:List (Addr×Obj)) (σ:List (Option V)) (H:Hp) (s:LL):Prop where
 ok:X.Ok
 os:s.os=X.s₀.os
 bare:AllBare s.gens
 base:Un X.fs X.ex X.H₀ H X.s₀.heap s.heap
 loc:∃ m,s.heap.Ns X.env.locals m/\∀(i:Nat)(x:Str)(v:V),X.N[i]?=some x->σ[i]?=some (some v)->EG X.env.scope x->∃ u,RelV v u/\EH X.env s.heap m x u
 cell:∀ x c,X.env.cells.lookup x=some c->∃ v,s.heap.IsCell c v
 free:H X.env.locals=none
 dc:∀ x c,X.env.cells.lookup x=some c->H c=none
 pin:∀ p∈X.pn++ae,s.heap.get? p.1=some p.2/\H p.1=none/\p.1≠X.env.locals/\p.1∉X.fs/\∀ v,p.2.data≠.cell v
 aO:HOk X.prog X.w H s.heap
 len:σ.length=X.N.length
section
variable {X:Cx}{ae:List (Addr×Obj)}{σ:List (Option V)}{H H':Hp}{s:LL}
theorem Cx.Ok.F6 (ok:X.Ok)(e:X.base.get? b=some o):b∉X.fs:=fun hb=>by have:=(ok.gJ.mem hb).1;rw[e]at this;cases this
theorem Inv.bs (I:Inv X ae σ H s):∀ b o,X.base.get? b=some o->s.heap.get? b=some o/\H b=none:=fun b o e=>⟨I.base.keep b o (I.ok.bs b o e).1 (.inl (I.ok.bs b o e).2) (I.ok.F6 e) (I.ok.nw b o e),I.base.free b o (I.ok.bs b o e).1 (I.ok.bs b o e).2 (I.ok.nw b o e)⟩
theorem Inv.kt (I:Inv X ae σ H s):EF X.K H:=fun p hp a xs e=>I.base.gw a xs (I.ok.kt p hp a xs e)
theorem Inv.bk (I:Inv X ae σ H s):∀ b o,X.base.get? b=some o->s.heap.get? b=some o:=fun b o e=>(I.bs b o e).1
theorem Inv.mod (I:Inv X ae σ H s):Mod X.K X.mg X.base:=I.ok.mod
theorem Inv.hV (I:Inv X ae σ H s):X.K.In s.heap:=I.ok.mod.BP.keeps I.bk
theorem Inv.lt (I:Inv X ae σ H s):X.env.locals<s.heap.objs.size:=let ⟨_,hn,_⟩:=I.loc;hn.lt
theorem Inv.sz (I:Inv X ae σ H s):X.s₀.heap.objs.size<=s.heap.objs.size:=IV I.ok.above (K7 I.lt)
theorem Inv.F_ (I:Inv X ae σ H s)(h:s.heap.objs.size<=a):a∉X.fs:=fun hb=>by obtain⟨_,o,ho,_⟩:=I.ok.gJ.mem hb;exact absurd (I0 (Iz ho) (IV I.sz h)) (JI _)
theorem Inv.Bv (I:Inv X ae σ H s):∀ x c,X.env.cells.lookup x=some c->c≠X.env.locals:=fun x c e z=>by obtain⟨v,o,ho,hd⟩:=I.cell x c e;obtain⟨m,⟨o',es,ep,ho',hd',_⟩,_⟩:=I.loc;rw[z,ho']at ho;cases ho;rw[hd']at hd;cases hd
theorem Inv.gJ (I:Inv X ae σ H s):s.heap.FunFrames X.base X.outer:=by
 have all:∀(l:List Env),(∀ b∈fX l,b∈X.fs)->X.s₀.heap.FunFrames X.base l->s.heap.FunFrames X.base l:=by
  intro l;induction l with
  |nil=>intro _ _;trivial
  |cons env r ih=>intro hs hl;obtain⟨hk,⟨L,o,hf,hn,ho,hd⟩,hr⟩:=hl;have hL:L∈X.fs:=hs L (by unfold fX;rw[KC,hf];exact Iy);obtain⟨sl,e⟩:=I.base.slot L o ho (I.ok.wu L hL) hL fun z=>I.ok.oZ L z hL;exact⟨hk,⟨L,_,hf,hn,e,hd⟩,ih (fun b hb=>hs b (by unfold fX;rw[KC,hf];exact Iw _ hb)) hr⟩
 exact all X.outer (fun _ hb=>hb) I.ok.gJ
theorem Inv.stack (I:Inv X ae σ H s):s.heap.FunFrames X.base X.stack:=by
 rcases I.ok.aV with e|⟨e,hf⟩
 .rw[e];exact I.gJ
 .rw[e];obtain⟨m,hn,_⟩:=I.loc;refine .cons (by rw[I.ok.kind];decide) hf hn ?_ I.gJ;exact Heap.get?_none_of_le (IV I.ok.tL I.ok.above)
theorem Inv.kW (I:Inv X ae σ H s):∀ b∈fX X.stack,b∈X.env.locals::X.fs:=fun b hb=>by
 rcases I.ok.aV with e|⟨e,hf⟩
 .rw[e]at hb;exact Iw _ hb
 .rw[e]at hb;unfold fX at hb;rw[KC,hf]at hb;exact hb
theorem Inv.nC (I:Inv X ae σ H s):∀ b∈fX X.stack,H b=none:=fun b hb=>by
 rcases ID.mp (I.kW b hb) with e|hb
 .rw[e];exact I.free
 .obtain⟨_,o,ho,_⟩:=I.ok.gJ.mem hb;exact I.base.free b o ho (I.ok.wu b hb) fun z=>I.ok.oZ b z hb
theorem Inv.step {d':Drawn}{ch:List Addr}(I:Inv X ae σ H s)
 (hch:∀ b∈ch,(b∈X.ex\/X.s₀.heap.objs.size<=b)/\b≠X.env.locals/\(∀ x c,X.env.cells.lookup x=some c->c≠b)/\∀ p∈X.pn++ae,p.1≠b)
 (keep:∀ b o,b≠X.env.locals->b∉X.fs->b∉ch->s.heap.get? b=some o->Qt H b->h'.get? b=some o)
 (slot:∀ b o,b≠X.env.locals->b∈X.fs->b∉ch->s.heap.get? b=some o->H b=none->∃ sl,h'.get? b=some { o with slots:=sl }) (free:∀ b o,b∉ch->s.heap.get? b=some o->H b=none->H' b=none)
 (there:∀ b o,b∉ch->s.heap.get? b=some o->∃ o',h'.get? b=some o')
 (gw:∀ b xs,H b=some (.tup xs)->H' b=some (.tup xs)) (gK:∀ b o u,H b=some (.bO o u)->H' b=some (.bO o u)) (jG:∀ b ps,H b=some (.wt ps)->∃ more,H' b=some (.wt (ps++more)))
 (ns:∀ m,s.heap.Ns X.env.locals m->h'.Ns X.env.locals m) (aO:HOk X.prog X.w H' h') (hg:AllBare g') :
 Inv X ae σ H' { s with heap:=h',gens:=g',drawn:=d',toks:=t' }:=by
 have neL:∀ b o,X.s₀.heap.get? b=some o->b≠X.env.locals:=fun b o e=>IN (I0 (Iz e) I.ok.above);have neC:∀ b o,X.s₀.heap.get? b=some o->b∉X.ex->b∉ch:=fun b o e hx hb=>by
  rcases (hch b hb).1 with z|z
  .exact hx z
  .exact absurd (I0 (Iz e) z) (JI _)
 have cellK:∀ x c,X.env.cells.lookup x=some c->∀ v,s.heap.IsCell c v->h'.IsCell c v:=fun x c e v ⟨o,ho,hd⟩=>by
  have nch:c∉ch:=fun z=>(hch c z).2.2.1 x c e rfl;by_cases hc:c∈X.fs
  .obtain⟨sl,q⟩:=slot c o (I.Bv x c e) hc nch ho (I.dc x c e);exact⟨_,q,hd⟩
  .exact⟨o,keep c o (I.Bv x c e) hc nch ho (.inl (I.dc x c e)),hd⟩
 refine⟨I.ok,I.os,hg,⟨fun b o e n hb hx=>?_,fun b o e n hb hx=>?_,fun b o e n hx=>?_,fun b o e hx=>?_,fun b xs e=>gw b xs (I.base.gw b xs e),fun b o xs e=>gK b o xs (I.base.gK b o xs e),fun b ps e=>?_⟩,?_,fun x c e=>?_,?_,fun x c e=>?_,fun p hp=>?_,aO,I.len⟩
 .exact keep b o (neL b o e) hb (neC b o e hx) (I.base.keep b o e n hb hx) (n.imp (fun n=>I.base.free b o e n hx) fun⟨xs,q⟩=>⟨xs,I.base.gw b xs q⟩)
 .obtain⟨sl,e1⟩:=I.base.slot b o e n hb hx;obtain⟨sl',e2⟩:=slot b _ (neL b o e) hb (neC b o e hx) e1 (I.base.free b o e n hx);exact⟨sl',e2⟩
 .obtain⟨o',e1⟩:=I.base.there b o e hx;exact free b o' (neC b o e hx) e1 (I.base.free b o e n hx)
 .obtain⟨o',e1⟩:=I.base.there b o e hx;exact there b o' (neC b o e hx) e1
 .obtain⟨m1,e1⟩:=I.base.jG b ps e
  grind
 .obtain⟨m,hn,hl⟩:=I.loc;refine⟨m,ns m hn,fun i x v e1 e2 e3=>?_⟩;obtain⟨u,r,l⟩:=hl i x v e1 e2 e3;refine⟨u,r,?_⟩;rcases l with l|⟨k,c,e,z⟩
  .exact .inl l
  .exact .inr ⟨k,c,e,cellK x c e _ z⟩
 .obtain⟨v,z⟩:=I.cell x c e;exact⟨v,cellK x c e v z⟩
 .obtain⟨m,⟨o,_,_,ho,_⟩,_⟩:=I.loc;exact free _ o (fun z=>(hch _ z).2.1 rfl) ho I.free
 .obtain⟨v,o,ho,hd⟩:=I.cell x c e;exact free c o (fun z=>(hch c z).2.2.1 x c e rfl) ho (I.dc x c e)
 .obtain⟨e,n,ne,nf,d⟩:=I.pin p hp;have nch:p.1∉ch:=fun z=>(hch p.1 z).2.2.2 p hp rfl;exact⟨keep p.1 p.2 ne nf nch e (.inl n),free p.1 p.2 nch e n,ne,nf,d⟩
theorem Inv.un {t':Nat}(I:Inv X ae σ H s)(u:Un X.fs [] H H' s.heap h')(aO:HOk X.prog X.w H' h'):Inv X ae σ H' { s with heap:=h',toks:=t' }:=by obtain⟨m,⟨o,es,ep,ho,r⟩,_⟩:=id I.loc;obtain⟨sl,hL⟩:=u.any ho I.free (by simp);exact I.step (g':=s.gens) (d':=s.drawn) (ch:=[]) (fun _ z=>nomatch z) (fun b o _ hb _ e n=>u.keep b o e n hb (by simp)) (fun b o _ hb _ e n=>u.slot b o e n hb (by simp)) (fun b o _ e n=>u.free b o e n (by simp)) (fun b o _ e=>u.there b o e (by simp)) u.gw u.gK u.jG (fun m' hm=>by obtain⟨o',es',ep',ho',r'⟩:=hm;rw[ho]at ho';cases ho';exact⟨_,es',ep',hL,r'⟩) aO I.bare
theorem Inv.call {d':Drawn}{ch:List Addr}(I:Inv X ae σ H s)(u:Un (fX X.stack) ch H H' s.heap h')(aO:HOk X.prog X.w H' h')(hg:AllBare g')
 (hch:∀ b∈ch,(b∈X.ex\/X.s₀.heap.objs.size<=b)/\b≠X.env.locals/\(∀ x c,X.env.cells.lookup x=some c->c≠b)/\∀ p∈X.pn++ae,p.1≠b) :
 Inv X ae σ H' { s with heap:=h',gens:=g',drawn:=d',toks:=t' }:=by
 obtain⟨m,⟨o,es,ep,ho,r⟩,_⟩:=id I.loc;obtain⟨sl,hL⟩:=u.any ho I.free fun z=>(hch _ z).2.1 rfl;exact I.step (ch:=ch) hch (fun b o hL hb hc e n=>u.keep b o e n (fun z=>(ID.mp (I.kW b z)).elim hL hb) hc) (fun b o _ _ hc e n=>u.any e n hc) (fun b o hc e n=>u.free b o e n hc) (fun b o hc e=>u.there b o e hc) u.gw u.gK u.jG (fun m' hm=>by obtain⟨o',es',ep',ho',r'⟩:=hm;rw[ho]at ho';cases ho';exact⟨_,es',ep',hL,r'⟩) aO hg
theorem Inv.turned {it:Addr}(I:Inv X ae σ H s)(k:∀ b o,b≠it->s.heap.get? b=some o->h'.get? b=some o)(hn:H it=none)(hL:it≠X.env.locals)
 (h1:it∈X.ex\/X.s₀.heap.objs.size<=it) (h2:∀ x c,X.env.cells.lookup x=some c->c≠it) (h3:∀ p∈X.pn++ae,p.1≠it):Inv X ae σ H { s with heap:=h',toks:=t' }:=by
 have nit:∀ b u,H b=some u->b≠it:=fun b u e z=>by rw[z,hn]at e;cases e
 refine I.step (g':=s.gens) (d':=s.drawn) (ch:=[it]) (fun b hb=>?_) (fun b o _ _ hc e _=>k b o (fun z=>hc (by simp[z])) e) (fun b o _ _ hc e _=>⟨o.slots,k b o (fun z=>hc (by simp[z])) e⟩) (fun _ _ _ _ n=>n)
  (fun b o hc e=>⟨o,k b o (fun z=>hc (by simp[z])) e⟩) (fun _ _ e=>e) (fun _ _ _ e=>e) (fun b ps e=>⟨#[],by rw[e];simp⟩) (fun m hm=>?_) (fun b u e=>?_) I.bare
 .have e:b=it:=by simpa using hb
  subst e;exact⟨h1,hL,h2,h3⟩
 .obtain⟨o,es,ep,ho,r⟩:=hm;exact⟨o,es,ep,k _ o (Jn hL) ho,r⟩
 .refine(I.aO b u e).stay (fun c v hc q=>k c v ?_ q) (fun _ q=>q) fun _ _ q=>q;rcases hc with z|z
  .rw[z];exact nit b u e
  .exact nit c _ z
theorem Inv.tok (I:Inv X ae σ H s)(t:Nat):Inv X ae σ H { s with toks:=t }:=I.un (h':=s.heap) (t':=t) Un.refl I.aO
theorem Inv.kept (I:Inv X ae σ H s)(k:∀ b u,s.heap.get? b=some u->h'.get? b=some u):Inv X ae σ H { s with heap:=h',toks:=t' }:=I.un (Un.kept k) (I.aO.kept k)
theorem Inv.laid (I:Inv X ae σ H s)(k:∀ b u,s.heap.get? b=some u->h'.get? b=some u)(hp:s.heap.objs.size<=a)(new:ObjOk X.prog X.w (upd H a o) h' a o) :
 Inv X ae σ (upd H a o) { s with heap:=h',toks:=t' }:=I.un (Un.laid k hp (I.aO.fresh hp)) (I.aO.laid k hp new)
theorem Inv.write (I:Inv X ae σ H s)(mu:BS (H x))(he:e=x\/H e=some (.own x))(k:∀ b u,b≠e->s.heap.get? b=some u->h'.get? b=some u)(heo:∃ u,h'.get? e=some u)
 (new:ObjOk X.prog X.w (upd H x o) h' x o):Inv X ae σ (upd H x o) { s with heap:=h',toks:=t' }:=I.un (Un.write mu he k heo) (I.aO.write mu he k heo new)
theorem Inv.rh (I:Inv X ae σ H s)(h:∀ p∈pins',s.heap.get? p.1=some p.2/\H p.1=none/\p.1≠X.env.locals/\p.1∉X.fs/\∀ v,p.2.data≠.cell v):Inv X pins' σ H s:=⟨I.ok,I.os,I.bare,I.base,I.loc,I.cell,I.free,I.dc,fun p hp=>(IR.mp hp).elim (fun z=>I.pin p (JD _ z)) (h p),I.aO,I.len⟩
theorem nN {N:List Str}(hN:N.Nodup){i j:Nat}{x:Str}(a:N[i]?=some x)(b:N[j]?=some x):i=j:=by obtain⟨h1,e1⟩:=Iv.mp a;obtain⟨h2,e2⟩:=Iv.mp b;exact(List.getElem_inj hN).mp (e1.trans e2.symm)
theorem rq {E:LO->LL->Prop}{x:Str}{v:V}{u:LO}{Q:Unit->LL->Prop}(I:Inv X ae σ H s)(hN:X.N.Nodup)(hi:X.N[i]?=some x)(hx:B3 X.env.scope x)(r:RelV v u)
 (h:∀ s',Inv X ae (σ.set i (some v)) H s'->(∃ a,Heap.SameBut a s.heap s'.heap/\(a=X.env.locals\/X.env.cells.lookup x=some a))->Q () s') (hf:autoParam (X.fn x=true\/X.env.scope.names.lookup x=some .local) LR._auto_1):wpAny M A (storeName X.env x u) Q E s:=by
 obtain⟨m,hn,hl⟩:=id I.loc;have hcls:(X.env.scope.kind==.class || (X.env.scope.kind==.module&&X.env.locals != X.env.globals))=false:=by rw[I.ok.kind];rfl
 have hiσ:i<σ.length:=by rw[I.len];exact(Iv.mp hi).1
 have Bv:=I.Bv;have tracked:∀{a:Addr}{h':Heap},(∃ o,s.heap.get? a=some o/\H a=none)->Heap.SameBut a s.heap h'->HOk X.prog X.w H h':=fun{a h'} ha hs b ob e=>by
  obtain⟨_,_,hfree⟩:=ha;refine(I.aO b ob e).stay (fun c w' hc q=>(hs.2 c ?_).trans q) (fun _ q=>q) fun _ _ q=>q
  grind
 rcases hx with hk|hk
 .refine wpAny_storeName_local hk hn (fun h' hn' hs=>?_) hcls;obtain⟨oL,_,_,hoL,_⟩:=id hn;refine h _ ⟨I.ok,I.os,I.bare,⟨fun b o e n hb hx=>?_,fun b o e n hb hx=>?_,I.base.free,fun b o e hx=>?_,I.base.gw,I.base.gK,I.base.jG⟩,⟨_,hn',fun j y v' e1 e2 e3=>?_⟩,fun y c e=>?_,I.free,I.dc,fun p hp=>?_,tracked ⟨oL,hoL,I.free⟩ hs,by simpa using I.len⟩ ⟨_,hs,.inl rfl⟩
  .exact(hs.2 b (IN (I0 (Iz e) I.ok.above))).trans (I.base.keep b o e n hb hx)
  .obtain⟨sl,e1⟩:=I.base.slot b o e n hb hx;exact⟨sl,(hs.2 b (IN (I0 (Iz e) I.ok.above))).trans e1⟩
  .obtain⟨o',e1⟩:=I.base.there b o e hx;exact⟨o',(hs.2 b (IN (I0 (Iz e) I.ok.above))).trans e1⟩
  .by_cases hj:j=i
   .subst hj;rw[hi]at e1;cases e1;rw[List.getElem?_set_self hiσ]at e2;cases e2;exact⟨u,r,.inl ⟨hk,by simp⟩⟩
   .rw[List.getElem?_set_ne (Jn hj)]at e2;obtain⟨u',r',q⟩:=hl j y v' e1 e2 e3;refine⟨u',r',?_⟩;rcases q with⟨k,e⟩|⟨k,c,e,z⟩
    .refine .inl ⟨k,?_⟩;have:y≠x:=fun e=>hj (nN hN e1 (e▸hi));simp[this,e]
    .exact .inr ⟨k,c,e,z.sameBut hs (Bv y c e)⟩
  .obtain⟨w',z⟩:=I.cell y c e;exact⟨w',z.sameBut hs (Bv y c e)⟩
  .obtain⟨e,n,ne,nf,d⟩:=I.pin p hp;exact⟨(hs.2 p.1 ne).trans e,n,ne,nf,d⟩
 .have hfn:X.fn x=true:=by
   rcases hf with z|z
   .exact z
   .rw[z]at hk;cases hk
  obtain⟨c,hc⟩:=I.ok.has x (.inl hk);obtain⟨w',z⟩:=I.cell x c hc;refine wpAny_storeName_cell I.ok.kind hk hc z (fun h' hc' hs=>?_);obtain⟨oc,hoc,hocd⟩:=id z;refine h { s with heap:=h' } ⟨I.ok,I.os,I.bare,⟨fun b o e n hb hx=>?_,fun b o e n hb hx=>?_,I.base.free,fun b o e hx=>?_,I.base.gw,I.base.gK,I.base.jG⟩,⟨m,hn.sameBut hs (Jn (Bv x c hc)),fun j y v' e1 e2 e3=>?_⟩,fun y c' e=>?_,I.free,I.dc,fun p hp=>?_,tracked ⟨oc,hoc,I.dc x c hc⟩ hs,by simpa using I.len⟩ ⟨c,hs,.inr hc⟩
  .exact(hs.2 b (IN (I0 (Iz e) (I.ok.yK x c hfn hc)))).trans (I.base.keep b o e n hb hx)
  .obtain⟨sl,e1⟩:=I.base.slot b o e n hb hx;exact⟨sl,(hs.2 b (IN (I0 (Iz e) (I.ok.yK x c hfn hc)))).trans e1⟩
  .obtain⟨o',e1⟩:=I.base.there b o e hx;exact⟨o',(hs.2 b (IN (I0 (Iz e) (I.ok.yK x c hfn hc)))).trans e1⟩
  .by_cases hj:j=i
   .subst hj;rw[hi]at e1;cases e1;rw[List.getElem?_set_self hiσ]at e2;cases e2;exact⟨u,r,.inr ⟨.inl hk,c,hc,hc'⟩⟩
   .rw[List.getElem?_set_ne (Jn hj)]at e2;obtain⟨u',r',q⟩:=hl j y v' e1 e2 e3;refine⟨u',r',?_⟩;rcases q with q|⟨k,c',e,z'⟩
    .exact .inl q
    .refine .inr ⟨k,c',e,z'.sameBut hs ?_⟩;rintro rfl;exact hj (nN hN e1 (I.ok.inj _ _ _ e hc▸hi))
  .by_cases hcc:c'=c
   .subst hcc;exact⟨_,hc'⟩
   .obtain⟨w2,z2⟩:=I.cell y c' e;exact⟨w2,z2.sameBut hs hcc⟩
  .obtain⟨e,n,ne,nf,d⟩:=I.pin p hp;refine⟨(hs.2 p.1 ?_).trans e,n,ne,nf,d⟩
   grind
theorem h_ (I:Inv X ae σ H s)(hN:X.N.Nodup)(hi:X.N[i]?=some x)(hx:B3 X.env.scope x)(r:RelV v u)
 (h:∀ s',Inv X ae (σ.set i (some v)) H s'->Q () s') (hf:autoParam (X.fn x=true\/X.env.scope.names.lookup x=some .local) LR._auto_1):wpAny M A (storeName X.env x u) Q E s:=
 rq I hN hi hx r (fun s' I' _=>h s' I') hf
theorem Inv.zC (I:Inv X ae σ H s)(ho:s'.os=s.os)(u:Un (fX X.stack) ch H H' s.heap s'.heap)(aO:HOk X.prog X.w H' s'.heap)(hg:AllBare s'.gens)
 (hch:∀ b∈ch,(b∈X.ex\/X.s₀.heap.objs.size<=b)/\b≠X.env.locals/\(∀ x c,X.env.cells.lookup x=some c->c≠b)/\∀ p∈X.pn++ae,p.1≠b):Inv X ae σ H' s':=by
 obtain⟨h',g',d',t',o'⟩:=s';have e:o'=s.os:=ho;subst e;exact I.call (g':=g') (t':=t') (d':=d') u aO hg hch
end
abbrev XK:=LO->Option Addr->Hp->Prop
noncomputable abbrev St:=List (Option V)
abbrev VK:=V->Hp->Prop
abbrev TE:=St->Hp->VK->Prop
abbrev TT:=St->Hp->(Bool->Hp->Prop)->Prop
abbrev TA:=St->Hp->(List V->Hp->Prop)->Prop
structure Ends where
 nx:St->Hp->Prop
 rt:VK
 bk:St->Hp->Prop:=fun _ _=>False
 ct:St->Hp->Prop:=fun _ _=>False
abbrev TS:=Ends->St->Hp->Prop
def EP (X:Cx)(ae:List (Addr×Obj))(σ:St)(Q:VK)(u:LO)(s':LL):Prop:=∃ v H',Inv X ae σ H' s'/\RelV v u/\Q v H'
def TP (X:Cx)(ae:List (Addr×Obj))(σ:St)(Q:Bool->Hp->Prop)(b:Bool)(s':LL):Prop:=∃ H',Inv X ae σ H' s'/\Q b H'
def AP (X:Cx)(ae:List (Addr×Obj))(σ:St)(Q:List V->Hp->Prop)(us:List LO)(s':LL):Prop:=∃ vs H',Inv X ae σ H' s'/\Vals vs us/\Q vs H'
def SP (X:Cx)(ae:List (Addr×Obj))(D:Ends)(f:Flow)(s':LL):Prop:=
 match f with
 | .next=>∃ σ' H',Inv X ae σ' H' s'/\D.nx σ' H'
 | .brk=>∃ σ' H',Inv X ae σ' H' s'/\D.bk σ' H'
 | .cont=>∃ σ' H',Inv X ae σ' H' s'/\D.ct σ' H'
 | .ret u=>∃ v σ' H',Inv X ae σ' H' s'/\RelV v u/\D.rt v H'
def PE (X:Cx)(e:Expr)(t:TE):Prop:=∀(ae:List (Addr×Obj))(s:LL)(σ:St)(H:Hp)(Q:VK),Inv X ae σ H s->t σ H Q->wpAny (model X.prog X.w) X.A (eval e X.env) (EP X ae σ Q) X.xe s
def PT (X:Cx)(e:Expr)(t:TT):Prop:=∀(ae:List (Addr×Obj))(s:LL)(σ:St)(H:Hp)(Q:Bool->Hp->Prop),Inv X ae σ H s->t σ H Q->wpAny (model X.prog X.w) X.A (isTrue e X.env (eval e X.env)) (TP X ae σ Q) X.xe s
def PW (X:Cx)(e:Expr)(t:TT):Prop:=∀(whole:Sem LO)(ae:List (Addr×Obj))(s:LL)(σ:St)(H:Hp)(Q:Bool->Hp->Prop),Inv X ae σ H s->t σ H Q->wpAny (model X.prog X.w) X.A (isTrue e X.env whole) (TP X ae σ Q) X.xe s
theorem PW.pt (h:PW X e t):PT X e t:=h _
def PA (X:Cx)(es:List Expr)(t:TA):Prop:=∀(pos:Pos)(ae:List (Addr×Obj))(s:LL)(σ:St)(H:Hp)(Q:List V->Hp->Prop),Inv X ae σ H s->t σ H Q->wpAny (model X.prog X.w) X.A (spliced (backTo pos (starEach es X.env))) (AP X ae σ Q) X.xe s
def PS (X:Cx)(st:Stmt)(t:TS):Prop:=∀(ae:List (Addr×Obj))(s:LL)(σ:St)(H:Hp)(D:Ends),Inv X ae σ H s->t D σ H->wpAny (model X.prog X.w) X.A (exec st X.env) (SP X ae D) X.xe s
def PSs (X:Cx)(st:List Stmt)(t:TS):Prop:=∀(ae:List (Addr×Obj))(s:LL)(σ:St)(H:Hp)(D:Ends),Inv X ae σ H s->t D σ H->wpAny (model X.prog X.w) X.A (execs st X.env) (SP X ae D) X.xe s
theorem bI {α:Type}{t:Sem α}{Q Q':α->LL->Prop}{M:Model}{A:LP}{E:LO->LL->Prop}{s:LL}(h:wpAny M A t Q E s)(hQ:∀ a s,Q a s->Q' a s):wpAny M A t Q' E s:=JC h hQ fun _ _ x=>x
section
variable {X:Cx}
noncomputable def ao (i:Nat):TE:=fun σ H Q=>∃ v,σ[i]?=some (some v)/\Q v H
noncomputable def tC (v:V):TE:=fun _ H Q=>Q v H
theorem zO (hN:X.N[i]?=some x) (hv:EG X.env.scope x) (hd:autoParam (dB x) LQ._auto_1) (hcd:autoParam ((x==("__classdict__" : Str))=false) LQ._auto_1):PE X (.Name x pos) (ao i):=by
 intro ae s σ H Q I h;obtain⟨v,e,h⟩:=h;obtain⟨m,hn,hl⟩:=I.loc;obtain⟨u,r,l⟩:=hl i x v hN e hv;have fin:EP X ae σ Q u s:=⟨v,H,I,r,h⟩;rcases l with⟨hk,hm⟩|⟨hk,c,hc,hcell⟩
 .exact wpAny_Name (wpAny_loadName_local I.ok.kind hk hn hm fin) hd
 .rcases hk with hk|hk
  .exact wpAny_Name (wpAny_loadName_cell I.ok.kind hk hc hcell fin) hd
  .exact wpAny_Name (wpAny_loadName_free I.ok.kind hk hc hcell fin hcd) hd
theorem av {i j pos}:PE X (.Constant (.int i) j pos) (tC (.int i)):=fun _ _ _ H _ I h=>wpAny_Constant_int ⟨.int i,H,I.tok _,⟨_,rfl⟩,h⟩
theorem qq {b j pos}:PE X (.Constant (.bool b) j pos) (tC (.bl b)):=fun _ _ _ H _ I h=>Constant_bool ⟨.bl b,H,I,rfl,h⟩
theorem bR {j pos}:PE X (.Constant .none j pos) (tC .bu):=fun _ _ _ H _ I h=>Constant_none ⟨.bu,H,I,rfl,h⟩
theorem tV {x j pos}:PE X (.Constant (.str x) j pos) (tC (.str x)):=fun _ _ _ H _ I h=>Calls.Constant_str ⟨.str x,H,I.tok _,⟨_,rfl⟩,h⟩
def Gl (X:Cx)(x:Str):Prop:=X.env.kindOf x=some .globalImplicit
theorem gz (I:Inv X ae σ H s)(hg:Gl X x)(hm:X.mg x=some u)(h:Q u s)
 (hd:autoParam (dB x) LQ._auto_1):wX X (eval (.Name x pos) X.env) Q E s:=
 Calls.Name_function_global I.ok.kind hg (Calls.loadGlobal_global (by rw[I.ok.glob];exact I.mod.glob.keeps I.bk) hm h) hd
theorem fq (I:Inv X ae σ H s)(hg:Gl X x)(hm:X.mg x=none)(hv:bootBuiltins x=some u)(h:Q u s)
 (hn:autoParam (x≠"__name__") LQ._auto_1) (hd:autoParam (dB x) LQ._auto_1):wX X (eval (.Name x pos) X.env) Q E s:=by
 obtain⟨mb,h1,h2⟩:=I.mod.blt;exact Calls.Name_function_global I.ok.kind hg (Calls.loadGlobal_builtin (by rw[I.ok.glob];exact I.mod.glob.keeps I.bk) hm (by rw[I.ok.blt];exact h1.keeps I.bk) ((h2 x hn).trans hv) h) hd
theorem l_ (hg:Gl X x) (hm:X.mg x=none) (hv:bootBuiltins x=some u) (r:RelV v u) (hn:autoParam (x≠"__name__") LQ._auto_1) (hd:autoParam (dB x) LQ._auto_1):PE X (.Name x pos) (tC v):=fun _ _ _ H _ I h=>fq I hg hm hv ⟨v,H,I,r,h⟩ hn hd
variable {a b:Expr}{ta tb:TE}{pos:Pos}
def PC (X:Cx)(op:CmpOp)(a b:Expr)(t:TE):Prop:=
 ∀(ae:List (Addr×Obj))(s:LL)(σ:St)(H:Hp)(Q:VK),Inv X ae σ H s->t σ H Q->
  wpAny (model X.prog X.w) X.A (eval a X.env) (fun v s₁=>wpAny (model X.prog X.w) X.A (eval b X.env) (fun u s₂=>wpAny (model X.prog X.w) X.A (compareOp op v u) (EP X ae σ Q) X.xe s₂) X.xe s₁) X.xe s
theorem tW (b:Expr)(h:op≠.In)(h2:op≠.NotIn):behindInMarks op b=false:=by
 have e1:(op==CmpOp.In)=false:=by cases op<;>first|rfl|exact absurd rfl h
 have e2:(op==CmpOp.NotIn)=false:=by cases op<;>first|rfl|exact absurd rfl h2
 cases b<;>simp[behindInMarks,e1,e2]
noncomputable def yS (ta:TE):TE:=fun σ H Q=>ta σ H fun x H1=>Q (.bl (!decide (x=.bu))) H1
theorem RelV.wn (r:RelV x v):(v==Value.none)=decide (x=.bu):=by
 cases x with
 |bu=>cases r;rfl
 |bl _=>cases r;rfl
 |int _=>obtain⟨t,rfl⟩:=r;rfl
 |str _=>obtain⟨t,rfl⟩:=r;rfl
 |qh _=>obtain⟨t,rfl⟩:=r;rfl
 |zE _=>obtain⟨t,rfl⟩:=r;rfl
 |ref _=>cases r;rfl
 |ty _=>cases r;rfl
theorem w6 {j pos'}(ha:PE X a ta):PC X .IsNot a (.Constant .none j pos') (yS ta):=by intro ae s σ H Q I h;refine bI (ha ae s σ H _ I h) fun v s1 ⟨x,H1,I1,r1,q1⟩=>?_;exact Constant_none (isnot_none_gen ⟨.bl _,H1,I1,by rw[r1.wn];rfl,q1⟩)
noncomputable def tB (t:TE):TT:=fun σ H Q=>t σ H fun x H1=>∃ c,x=.bl c/\Q c H1
theorem zP (h:PC X op a b t)(h1:behindInMarks op b=false:=by first|exact tW _ (by decide) (by decide)|rfl):PT X (.Compare a [op] [b] pos) (tB t):=by intro ae s σ H Q I hw;refine wpAny_isTrue_Compare1 (bI (h ae s σ H _ I hw) fun v s1 h1=>bI h1 fun u s2 h2=>bI h2 fun c s3 ⟨x,H1,I1,r1,q1⟩=>?_) h1;obtain⟨d,rfl,q⟩:=q1;cases r1;exact JG ⟨H1,I1,q⟩
theorem jQ (h:PE X e t)(he:autoParam (∀ whole,isTrue e X.env whole=(do let v <- whole;standAt e.pos;holding [v] (truthy v))) LU._auto_1):PT X e (tB t):=by intro ae s σ H Q I hw;refine isTrue_plain (bI (h ae s σ H _ I hw) fun v s1 ⟨x,H1,I1,r1,q1⟩=>?_) (he _);obtain⟨d,rfl,q⟩:=q1;cases r1;exact JG ⟨H1,I1,q⟩
variable {tA tB':TT}{rest:List Expr}
noncomputable def zQ (t u:TT):TT:=fun σ H Q=>t σ H fun c H1=>if c=true then u σ H1 Q else Q false H1
noncomputable def yT (t u:TT):TT:=fun σ H Q=>t σ H fun c H1=>if c=true then Q true H1 else u σ H1 Q
noncomputable def o_ (t:TT):TT:=fun σ H Q=>t σ H fun c H1=>Q (!c) H1
theorem qr (ha:PT X a tA):PW X (.BoolOp .And [a] pos) tA:=by
 intro wh ae s σ H Q I h;refine isTrue_and (bI (ha ae s σ H Q I h) fun c s1 e=>?_);cases c with
 |true=>exact isTrue_and_nil e
 |false=>exact e
theorem gZ (ha:PT X a tA):PW X (.BoolOp .Or [a] pos) tA:=by
 intro wh ae s σ H Q I h;refine isTrue_or (bI (ha ae s σ H Q I h) fun c s1 e=>?_);cases c with
 |false=>exact isTrue_or_nil e
 |true=>exact e
theorem tX (ha:PT X a tA)(hb:PW X (.BoolOp .And (b::rest) pos) tB'):PW X (.BoolOp .And (a::b::rest) pos) (zQ tA tB'):=by
 intro wh ae s σ H Q I h;refine isTrue_and (bI (ha ae s σ H _ I h) fun c s1 ⟨H1,I1,q1⟩=>?_);cases c with
 |true=>exact hb wh ae s1 σ H1 Q I1 q1
 |false=>exact⟨H1,I1,q1⟩
theorem jR (ha:PT X a tA)(hb:PW X (.BoolOp .Or (b::rest) pos) tB'):PW X (.BoolOp .Or (a::b::rest) pos) (yT tA tB'):=by
 intro wh ae s σ H Q I h;refine isTrue_or (bI (ha ae s σ H _ I h) fun c s1 ⟨H1,I1,q1⟩=>?_);cases c with
 |true=>exact⟨H1,I1,q1⟩
 |false=>exact hb wh ae s1 σ H1 Q I1 q1
theorem iW (ha:PT X a tA):PT X (.UnaryOp .Not a pos) (o_ tA):=by intro ae s σ H Q I h;exact isTrue_not (ha ae s σ H (fun c H1=>Q (!c) H1) I h)
noncomputable def yU (ta tb:TE):TE:=fun σ H Q=>ta σ H fun x H1=>∃ c,x=.bl c/\if c=true then tb σ H1 Q else Q (.bl false) H1
noncomputable def yV (ta:TE):TE:=fun σ H Q=>ta σ H fun x H1=>∃ c,x=.bl c/\Q (.bl (!c)) H1
theorem zR {op}(h:PE X a t):PE X (.BoolOp op [a] pos) t:=fun ae s σ H Q I hw=>BoolOp_one (h ae s σ H Q I hw)
theorem zS (ha:PE X a ta)(hb:PE X (.BoolOp .And (b::rest) pos) tb):PE X (.BoolOp .And (a::b::rest) pos) (yU ta tb):=by
 intro ae s σ H Q I h;refine BoolOp_and (bI (ha ae s σ H _ I h) fun v s1 ⟨x,H1,I1,r1,q1⟩=>?_);obtain⟨c,rfl,q1⟩:=q1;cases r1;refine JG ?_;cases c with
 |true=>exact hb ae s1 σ H1 Q I1 q1
 |false=>exact⟨.bl false,H1,I1,rfl,q1⟩
theorem zT (ha:PE X a ta):PE X (.UnaryOp .Not a pos) (yV ta):=by intro ae s σ H Q I h;refine UnaryOp_ (bI (ha ae s σ H _ I h) fun v s1 ⟨x,H1,I1,r1,q1⟩=>?_);obtain⟨c,rfl,q1⟩:=q1;cases r1;exact not_of (JG ⟨.bl (!c),H1,I1,rfl,q1⟩)
noncomputable def Gg (t:TT)(ta tb:TE):TE:=fun σ H Q=>t σ H fun c H1=>if c=true then ta σ H1 Q else tb σ H1 Q
theorem tY (hc:PT X c tA)(ha:PE X a ta)(hb:PE X b tb):PE X (.IfExp c a b pos) (Gg tA ta tb):=by
 intro ae s σ H Q I h;refine wpAny_IfExp (bI (hc ae s σ H _ I h) fun d s1 ⟨H1,I1,q1⟩=>?_);cases d with
 |true=>exact ha ae s1 σ H1 Q I1 q1
 |false=>exact hb ae s1 σ H1 Q I1 q1
end
def SqL (K:LM)(H:Hp)(a:Addr)(xs:List V):Prop:=
 Rd H a (.lst xs)\/
  ∃(o:Obj)(its:Array LO)(n:Nat),K.lookup a=some o/\o.cls=.type "list"/\o.dict=none/\o.data=.seq its n/\its.size<=sizeLine/\Vals xs its.toList
def SqT (K:LM)(H:Hp)(a:Addr)(xs:List V):Prop:=
 Rd H a (.tup xs)\/
  ∃(o:Obj)(its:Array LO)(n:Nat),K.lookup a=some o/\o.cls=.type "tuple"/\o.data=.seq its n/\its.size<=sizeLine/\Vals xs its.toList
noncomputable def EI:LO->Option V
 | .none=>some .bu
 | .bool b=>some (.bl b)
 | .int i _=>some (.int i)
 | .str x _=>some (.str x)
 | .bytes b _=>some (.qh b)
 | .float b _=>some (.zE b)
 | .ref a=>some (.ref a)
 | .type n=>some (.ty n)
 |_=>none
theorem RelV.abs (r:RelV x u):EI u=some x:=by
 cases x with
 |bu=>cases r;rfl
 |bl _=>cases r;rfl
 |int _=>obtain⟨t,rfl⟩:=r;rfl
 |str _=>obtain⟨t,rfl⟩:=r;rfl
 |qh _=>obtain⟨t,rfl⟩:=r;rfl
 |zE _=>obtain⟨t,rfl⟩:=r;rfl
 |ref _=>cases r;rfl
 |ty _=>cases r;rfl
theorem RelV.inj (r:RelV x u)(q:RelV y u):x=y:=IU (r.abs.symm.trans q.abs)
theorem Vals.inj {xs ys:List V}{us:List LO}(h:Vals xs us)(k:Vals ys us):xs=ys:=by
 induction h generalizing ys with
 |nil=>cases k;rfl
 |cons r _ ih=>
  cases k with
  |cons r' t'=>rw[r.inj r',ih t']
section
theorem SqL.of {K:LM}(h:H a=some (.lst xs)):SqL K H a xs:=.inl (.inl h)
theorem SqT.of {K:LM}(h:H a=some (.tup xs)):SqT K H a xs:=.inl (.inl h)
theorem Inv.list (I:Inv X ae σ H s)(h:SqL X.K H a xs):∃ its:List LO,Vals xs its/\PlainL s.heap a its.toArray/\xs.length<=sizeLine:=by
 rcases h with h|⟨o,its,n,hk,hc,hd,hs,hz,r⟩
 .obtain⟨z,its,n,r,e⟩:=h.ok I.aO;exact⟨its,r,⟨_,n,e,rfl,rfl,rfl⟩,z⟩
 .refine⟨its.toList,r,⟨o,n,I.hV a o hk,hc,hd,by simpa using hs⟩,?_⟩;have e:=r.length;simp only[JY]at e;lia
theorem Inv.tuple (I:Inv X ae σ H s)(h:SqT X.K H a xs):∃ its:List LO,Vals xs its/\IsTup s.heap a its.toArray/\xs.length<=sizeLine:=by
 rcases h with h|⟨o,its,n,hk,hc,hs,hz,r⟩
 .obtain⟨z,its,r,p⟩:=h.ok I.aO;exact⟨its,r,p,z⟩
 .refine⟨its.toList,r,⟨o,I.hV a o hk,hc,n,by simpa using hs⟩,?_⟩;have e:=r.length;simp only[JY]at e;lia
theorem Inv.gx (I:Inv X ae σ H s)(h:SqL X.K H a xs)(h':SqL X.K H a ys):xs=ys:=by
 obtain⟨its,r,⟨o,n,e,_,_,d⟩,_⟩:=I.list h;obtain⟨its',r',⟨o',n',e',_,_,d'⟩,_⟩:=I.list h';rw[e]at e';cases e';rw[d]at d';injection d' with d1 _;have:its=its':=by simpa using JL Array.toList d1
 subst this;exact r.inj r'
theorem Inv.tG (I:Inv X ae σ H s)(h:SqT X.K H a xs)(h':SqT X.K H a ys):xs=ys:=by
 obtain⟨its,r,⟨o,e,_,n,d⟩,_⟩:=I.tuple h;obtain⟨its',r',⟨o',e',_,n',d'⟩,_⟩:=I.tuple h';rw[e]at e';cases e';rw[d]at d';injection d' with d1 _;have:its=its':=by simpa using JL Array.toList d1
 subst this;exact r.inj r'
end
noncomputable abbrev Cx.kR (X:Cx)(E:LO->LL->Prop):Cx:={ X with xe:=E }
abbrev Cx.D0 (X:Cx):Cx:=X.kR fun _ _=>False
theorem Cx.Ok.kR {X:Cx}(ok:X.Ok)(E:LO->LL->Prop):(X.kR E).Ok:=⟨ok.mod,ok.kind,ok.glob,ok.blt,ok.above,ok.inj,ok.has,ok.yK,ok.hd,ok.frames,ok.aV,ok.B0,ok.bs,ok.tL,ok.nw,ok.oZ,ok.gJ,ok.wu,ok.kt⟩
theorem Cx.Ok.fS {X:Cx}{E:LO->LL->Prop}(ok:(X.kR E).Ok):X.Ok:=⟨ok.mod,ok.kind,ok.glob,ok.blt,ok.above,ok.inj,ok.has,ok.yK,ok.hd,ok.frames,ok.aV,ok.B0,ok.bs,ok.tL,ok.nw,ok.oZ,ok.gJ,ok.wu,ok.kt⟩
section
theorem Inv.kR (I:Inv X ae σ H s)(E:LO->LL->Prop):Inv (X.kR E) ae σ H s:=⟨I.ok.kR E,I.os,I.bare,I.base,I.loc,I.cell,I.free,I.dc,I.pin,I.aO,I.len⟩
theorem Inv.fS (I:Inv (X.kR E) ae σ H s):Inv X ae σ H s:=⟨I.ok.fS,I.os,I.bare,I.base,I.loc,I.cell,I.free,I.dc,I.pin,I.aO,I.len⟩
theorem SP.fS (h:SP (X.kR E) ae D f s'):SP X ae D f s':=by
 cases f with
 |next=>obtain⟨σ',H',I,q⟩:=h;exact⟨σ',H',I.fS,q⟩
 |brk=>obtain⟨σ',H',I,q⟩:=h;exact⟨σ',H',I.fS,q⟩
 |cont=>obtain⟨σ',H',I,q⟩:=h;exact⟨σ',H',I.fS,q⟩
 |ret u=>obtain⟨v,σ',H',I,r,q⟩:=h;exact⟨v,σ',H',I.fS,r,q⟩
theorem PSs.D0 {st:List Stmt}(h:PSs X.D0 st t):PSs X st t:=fun ae s σ H D I hw=>JC (h ae s σ H D (I.kR _) hw) (fun _ _ q=>q.fS) fun _ _ z=>False.elim z
end
section
variable {X:Cx}{st:Stmt}{rest:List Stmt}{t u:TS}
noncomputable def bX:TS:=fun D σ H=>D.nx σ H
noncomputable def aJ (t u:TS):TS:=fun D σ H=>t { D with nx:=u D } σ H
theorem bh:PSs X [] bX:=fun _ _ σ H _ I h=>JJ ⟨σ,H,I,h⟩
theorem ax (h1:PS X st t)(h2:PSs X rest u):PSs X (st::rest) (aJ t u):=by
 intro ae s σ H D I h;refine KB (bI (h1 ae s σ H { D with nx:=u D } I h) fun f s1 q=>?_);cases f with
 |next=>obtain⟨σ',H',I',q⟩:=q;exact h2 ae s1 σ' H' D I' q
 |ret v=>exact q
 |brk=>exact q
 |cont=>exact q
theorem ay (h1:PS X st t):PSs X [st] t:=by
 intro ae s σ H D I h;refine KB (bI (h1 ae s σ H D I h) fun f s1 q=>?_);cases f with
 |next=>exact JJ q
 |ret v=>exact q
 |brk=>exact q
 |cont=>exact q
theorem Inv.quiet (I:Inv X ae σ H s):interactive X.env=false:=by simp[interactive,I.ok.kind]
noncomputable def bY (te:TE):TS:=fun D σ H=>te σ H fun _ H1=>D.nx σ H1
theorem bj (he:PE X e te)(hs:autoParam (swapsWith e none pos.line X.env=pure false) LW._auto_1):PS X (.Expr e pos) (bY te):=by intro ae s σ H D I h;exact wpAny_Expr_any (bI (he ae s σ H _ I h) fun v s1 ⟨x,H1,I1,r1,q1⟩=>⟨σ,H1,I1,q1⟩) I.quiet hs
noncomputable def bU (te:TE):TS:=fun D σ H=>te σ H D.rt
theorem bb (he:PE X e te):PS X (.Return (some e) pos) (bU te):=by intro ae s σ H D I h;exact wpAny_Return_some (bI (he ae s σ H _ I h) fun v s1 ⟨x,H1,I1,r1,q1⟩=>⟨x,σ,H1,I1,r1,q1⟩)
noncomputable def cy (c:TT)(t u:TS):TS:=fun D σ H=>c σ H fun b H1=>if b=true then t D σ H1 else u D σ H1
theorem bS (hc:PT X c tc)(ha:PSs X a t)(hb:PSs X b u):PS X (.If c a b pos) (cy tc t u):=by
 intro ae s σ H D I h;refine wpAny_If (bI (hc ae s σ H _ I h) fun d s1 ⟨H1,I1,q1⟩=>?_);cases d with
 |true=>exact ha ae s1 σ H1 D I1 q1
 |false=>exact hb ae s1 σ H1 D I1 q1
end
abbrev TG:=V->St->Hp->(St->Hp->Prop)->Prop
abbrev B4:=List V->St->Hp->(St->Hp->Prop)->Prop
def PG (X:Cx)(target:Expr)(t:TG):Prop:=
 ∀(ae:List (Addr×Obj))(s:LL)(σ:St)(H:Hp)(v:V)(u:LO)(Q:St->Hp->Prop),Inv X ae σ H s->RelV v u->t v σ H Q->
  wpAny (model X.prog X.w) X.A (assign target X.env u) (fun _ s'=>∃ σ' H',Inv X ae σ' H' s'/\Q σ' H') X.xe s
def Ef (X:Cx)(ts:List Expr)(t:B4):Prop:=
 ∀(ae:List (Addr×Obj))(s:LL)(σ:St)(H:Hp)(vs:List V)(us:List LO)(Q:St->Hp->Prop),Inv X ae σ H s->Vals vs us->t vs σ H Q->
  wpAny (model X.prog X.w) X.A (assignInOrder ((assignEach ts X.env).map (·.2)) us) (fun _ s'=>∃ σ' H',Inv X ae σ' H' s'/\Q σ' H') X.xe s
section
noncomputable def aB (i:Nat):TG:=fun v σ H Q=>Q (σ.set i (some v)) H
theorem aK (hN:X.N.Nodup)(hi:X.N[i]?=some x)(hx:B3 X.env.scope x)(hf:autoParam (X.fn x=true\/X.env.scope.names.lookup x=some .local) LR._auto_1):PG X (.Name x pos) (aB i):=by intro ae s σ H v u Q I r h;exact wpAny_assign_Name (h_ I hN hi hx r (fun s' I'=>⟨_,H,I',h⟩) hf)
noncomputable def de:B4:=fun vs σ H Q=>vs=[]/\Q σ H
noncomputable def aU (t:TG)(u:B4):B4:=fun vs σ H Q=>∃ v r,vs=v::r/\t v σ H fun σ' H'=>u r σ' H' Q
theorem b9:Ef X [] de:=by intro ae s σ H vs us Q I r h;obtain⟨e,h⟩:=h;subst e;cases r;exact assignInOrder_nil ⟨σ,H,I,h⟩
theorem aN (h1:PG X e t)(h2:Ef X es u)
 (hs:autoParam ((assignEach (e::es) X.env).map (·.2)=assign e X.env::(assignEach es X.env).map (·.2)) LW._auto_1):Ef X (e::es) (aU t u):=by
 intro ae s σ H vs us Q I r h;obtain⟨v,vr,e1,h⟩:=h;subst e1;cases r with
 |cons r rr=>rw[hs];refine assignInOrder_cons (bI (h1 ae s σ H _ _ _ I r h) fun _ s1 ⟨σ1,H1,I1,q1⟩=>?_);exact h2 ae s1 σ1 H1 _ _ Q I1 rr q1
noncomputable def dg (K:LM)(n:Nat)(t:B4):TG:=fun v σ H Q=>∃ a xs,v=.ref a/\SqT K H a xs/\xs.length=n/\t xs σ H Q
theorem cz (hc:X.calm=true)(h:Ef X es t)
 (hn:autoParam ((assignEach es X.env).length=n) LW._auto_1) (hst:autoParam ((assignEach es X.env).findIdx? (·.1)=none) LW._auto_1):PG X (.Tuple es k pos) (dg X.K n t):=by
 intro ae s σ H v u Q I r hw;obtain⟨a,xs,e1,hq,hl,hw⟩:=hw;subst e1;cases r;obtain⟨its,rv,ht,hz⟩:=I.tuple hq;refine assign_Tuple_tuple (I.ok.hd hc) ht (by simp[hn,<- hl,rv.length]) hst fun h' hx=>?_;have I1:Inv X ae σ H { s with heap:=h' }:=I.kept (t':=s.toks) fun b o e=>hx b o (IN (Iz e)) e;exact h ae _ σ H xs _ Q I1 (by simpa using rv) hw
noncomputable def aY (te:TE)(g:TG):TS:=fun D σ H=>te σ H fun x H1=>g x σ H1 D.nx
theorem aG (hN:X.N.Nodup)(hi:X.N[i]?=some x)(hx:B3 X.env.scope x)(he:PE X e te)(hs:autoParam (swapsWith e (some (.Name x pos')) pos.line X.env=pure false) LW._auto_1)(hf:autoParam (X.fn x=true\/X.env.scope.names.lookup x=some .local) LR._auto_1) :
 PS X (.Assign [.Name x pos'] e pos) (aY te (aB i)):=by
 intro ae s σ H D I h;refine wpAny_Assign_Name (bI (he ae s σ H _ I h) fun v s1 ⟨y,H1,I1,r1,q1⟩=>?_) hs;exact h_ I1 hN hi hx r1 (fun s2 I2=>⟨_,H1,I2,q1⟩) hf
end
section
def ma (c:TT)(tb:TS):TS:=fun D σ H=>∃ W:Nat->St->Hp->Prop,(∃ m,W m σ H)/\∀ m σ H,W m σ H->
 c σ H fun b H1=>if b=true then ∃ N:St->Hp->Prop,(∀ σ' H',N σ' H'->∃ m',m'<m/\W m' σ' H')/\tb { D with nx:=N,ct:=N,bk:=D.nx } σ H1 else D.nx σ H1
theorem nO (hp:PassesOwn (model X.prog X.w) X.A X.env X.xe)(hc:PT X c tc)(hb:PSs X body tb):PS X (.While c body [] pos) (ma tc tb):=by
 intro ae s σ H D I h;obtain⟨W,⟨m0,w0⟩,turn⟩:=h;refine wpAny_While (codeAny_whileLoop (fun n s'=>∃ σ' H',Inv X ae σ' H' s'/\W n σ' H') ?_ m0 ⟨σ,H,I,w0⟩);rintro n s1 ⟨σ1,H1,I1,w1⟩;refine Kh hp (bI (hc ae s1 σ1 H1 _ I1 (turn n σ1 H1 w1)) fun b s2 ⟨H2,I2,q2⟩=>?_);cases b with
 |true=>
  obtain⟨N,hN,q2⟩:=q2;rw[IS rfl];refine Kh hp (bI (hb ae s2 σ1 H2 _ I2 q2) fun f s3 q3=>?_);cases f with
  |next=>obtain⟨σ3,H3,I3,n3⟩:=q3;obtain⟨m',hm,w3⟩:=hN σ3 H3 n3;exact⟨m',hm,σ3,H3,I3,w3⟩
  |cont=>obtain⟨σ3,H3,I3,n3⟩:=q3;obtain⟨m',hm,w3⟩:=hN σ3 H3 n3;exact⟨m',hm,σ3,H3,I3,w3⟩
  |brk=>exact q3
  |ret v=>exact q3
 |false=>rw[IK IX];exact JJ ⟨σ1,H2,I2,q2⟩
end
structure It where
 go:Nat->Hp->Prop
 tS:Nat->Hp->V->Hp->Prop
 stop:Nat->Hp->Prop
def gH (X:Cx)(ae:List (Addr×Obj))(H:Hp)(b:Addr):Prop:=H b=none/\b≠X.env.locals/\b∉X.fs/\(b∈X.ex\/X.s₀.heap.objs.size<=b)/\(∀ x c,X.env.cells.lookup x=some c->c≠b)/\∀ p∈X.pn++ae,p.1≠b
theorem Inv.kU (I:Inv X ae σ H s)(hb:s.heap.objs.size<=b)(hn:H' b=none):gH X ae H' b:=by
 refine⟨hn,J7 (I0 I.lt hb),I.F_ hb,.inr (IV I.sz hb),fun x c e z=>?_,fun p hp z=>?_⟩
 .obtain⟨v,q⟩:=I.cell x c e;exact absurd (I0 q.lt (by rw[z];exact hb)) (JI _)
 .exact absurd (I0 (Iz (I.pin p hp).1) (by rw[z];exact hb)) (JI _)
structure Turn (P:LN) (w:World) (K:LM) (tg:Expr) (J:It) (fp:List Addr) (it:Addr) (tn:Nat->Heap->Prop):Prop where
 mem:it∈fp
 obj:∀ i h,tn i h->∀ b∈fp,∃ o,h.get? b=some o/\∀ v,o.data≠.cell v
 keep:∀ i h h',tn i h->(∀ b∈fp,∀ o,h.get? b=some o->h'.get? b=some o)->tn i h'
 item:∀(X:Cx),X.prog=P->X.w=w->X.K=K->X.calm=true->∀(i:Nat)(ae:List (Addr×Obj))(s:LL)(σ:St)(H:Hp)(E:LO->LL->Prop),Inv X ae σ H s->(∀ b∈fp,gH X ae H b)->tn i s.heap->J.go i H->
  wpAny (model P w) X.A (pyNext (.ref it)) (fun r s1=>∃ u,r=some u/\
   wpAny (model P w) X.A (letOwnedTupleGo tg (.ref it) u) (fun _ s2=>∃ x H',Inv X ae σ H' s2/\RelV x u/\J.tS i H x H'/\tn (i+1) s2.heap/\∀ b∈fp,H' b=none) E s1) E s
 done:∀(X:Cx),X.prog=P->X.w=w->X.K=K->X.calm=true->∀(i:Nat)(ae:List (Addr×Obj))(s:LL)(σ:St)(H:Hp)(E:LO->LL->Prop),Inv X ae σ H s->(∀ b∈fp,gH X ae H b)->tn i s.heap->J.stop i H->
  wpAny (model P w) X.A (pyNext (.ref it)) (fun r s1=>r=none/\Inv X ae σ H s1) E s
 self:∀(A:LP)(i:Nat)(s:LL)(Q:LO->LL->Prop)(E:LO->LL->Prop),tn i s.heap->Q (.ref it) s->wpAny (model P w) A (pyIter (.ref it)) Q E s
abbrev TI:=St->Hp->(It->Hp->Prop)->Prop
def Eg (X:Cx)(ae:List (Addr×Obj))(σ:St)(tg:Expr)(R:It->Hp->Prop)(itv:LO)(s2:LL):Prop:=∃(it:Addr)(fp:List Addr)(tn:Nat->Heap->Prop)(J:It)(H':Hp),itv=.ref it/\Inv X ae σ H' s2/\Turn X.prog X.w X.K tg J fp it tn/\tn 0 s2.heap/\(∀ b∈fp,gH X ae H' b)/\R J H'
def PI (X:Cx)(tg iter:Expr)(wi:TI):Prop:=
 ∀(ae:List (Addr×Obj))(s:LL)(σ:St)(H:Hp)(R:It->Hp->Prop),Inv X ae σ H s->wi σ H R->
  wpAny (model X.prog X.w) X.A (eval iter X.env) (fun v s1=>wpAny (model X.prog X.w) X.A (pyIter v) (Eg X ae σ tg R) X.xe s1) X.xe s
theorem tZ (ho:s.heap.get? it=some o)(hc:o.cls=.type n)(hd:o.data=.fields vs)
 (hn:["enumerate", "zip", "dict_itemiterator", "dict_reverseitemiterator", "odict_iterator", "itertools.zip_longest", "itertools.pairwise"].contains n=false) (hQ:Q () s):wpAny M A (letOwnedTupleGo tg (.ref it) u) Q E s:=by
 unfold letOwnedTupleGo;cases tg<;>first
  |exact Iu hQ
  |(cases u<;>first
     |exact Iu hQ
     |(refine Il (wpAny_load ho ?_)
       rw[hc,hd];show wpAny M A (if (["enumerate", "zip", "dict_itemiterator", "dict_reverseitemiterator", "odict_iterator", "itertools.zip_longest", "itertools.pairwise"].contains n&&vs[0]?==some (rawInt _))=true then _ else _) Q E s;rw[IK (by intro h;rw[hn,Lv]at h;cases h)];exact Iu hQ))
noncomputable def zV (K:LM)(a:Addr):It:=⟨fun i H=>∃ xs x,SqL K H a xs/\xs[i]?=some x,fun i H x H'=>H'=H/\∀ xs,SqL K H a xs->xs[i]?=some x,fun i H=>∃ xs,SqL K H a xs/\xs.length<=i⟩
noncomputable def Gh (K:LM)(a:Addr):It:=⟨fun i H=>∃ xs x,SqT K H a xs/\xs[i]?=some x,fun i H x H'=>H'=H/\∀ xs,SqT K H a xs->xs[i]?=some x,fun i H=>∃ xs,SqT K H a xs/\xs.length<=i⟩
theorem rA {K:LM}{tg:Expr}(a it:Addr):Turn P w K tg (zV K a) [it] it (fun i h=>h.IsListIter it a i) where
 mem:=by simp
 obj:=fun i h st b hb=>by
  have e:b=it:=by simpa using hb
  subst e;obtain⟨o,e,c,d⟩:=st;exact⟨o,e,fun v z=>by rw[d]at z;cases z⟩
 keep:=fun i h h' st k=>st.at fun o e=>k it (by simp) o e
 item:=by intro X hP hw hK hc i ae s σ H E I hf st hg;subst hP hw hK;obtain⟨xs,x,hq,hx⟩:=hg;obtain⟨its,rv,p,hz⟩:=I.list hq;obtain⟨u,hu,ru⟩:=rv.get hx;obtain⟨f0,f1,f2,f3,f4,f5⟩:=hf it (by simp);refine wpAny_pyNext_list_item st p.isList (x:=u) (by simpa using hu) fun h' st' sb=>?_;have I1:Inv X ae σ H { s with heap:=h' }:=I.turned (t':=s.toks) (fun b o hb e=>(sb.2 b hb).trans e) f0 f1 f3 f4 f5;obtain⟨o,e,c,d⟩:=id st';exact⟨u,rfl,tZ (s:={ s with heap:=h' }) e c d (by decide) ⟨x,H,I1,ru,⟨rfl,fun ys hy=>by rw[I.gx hy hq];exact hx⟩,st',fun b hb=>(hf b hb).1⟩⟩
 done:=by intro X hP hw hK hc i ae s σ H E I hf st hg;subst hP hw hK;obtain⟨xs,hq,hx⟩:=hg;obtain⟨its,rv,p,hz⟩:=I.list hq;obtain⟨f0,f1,f2,f3,f4,f5⟩:=hf it (by simp);have hl:=rv.length;exact wpAny_pyNext_list_end (I.ok.hd hc) st p.isList (by simp;lia) fun h' eb=>⟨rfl,I.turned (t':=s.toks) (fun b o hb e=>eb b o hb e) f0 f1 f3 f4 f5⟩
 self:=fun _ _ _ _ _ st h=>wpAny_pyIter_listiter st h
theorem pc {K:LM}{tg:Expr}(a it:Addr):Turn P w K tg (Gh K a) [it] it (fun i h=>h.IsTupleIter it a i) where
 mem:=by simp
 obj:=fun i h st b hb=>by
  have e:b=it:=by simpa using hb
  subst e;obtain⟨o,e,c,d⟩:=st;exact⟨o,e,fun v z=>by rw[d]at z;cases z⟩
 keep:=fun i h h' st k=>st.at fun o e=>k it (by simp) o e
 item:=by intro X hP hw hK hc i ae s σ H E I hf st hg;subst hP hw hK;obtain⟨xs,x,hq,hx⟩:=hg;obtain⟨its,rv,p,hz⟩:=I.tuple hq;obtain⟨u,hu,ru⟩:=rv.get hx;obtain⟨f0,f1,f2,f3,f4,f5⟩:=hf it (by simp);refine wpAny_pyNext_tuple_item st (show s.heap.IsTuple a its.toArray from p) (x:=u) (by simpa using hu) fun h' st' sb=>?_;have I1:Inv X ae σ H { s with heap:=h' }:=I.turned (t':=s.toks) (fun b o hb e=>(sb.2 b hb).trans e) f0 f1 f3 f4 f5;obtain⟨o,e,c,d⟩:=id st';exact⟨u,rfl,tZ (s:={ s with heap:=h' }) e c d (by decide) ⟨x,H,I1,ru,⟨rfl,fun ys hy=>by rw[I.tG hy hq];exact hx⟩,st',fun b hb=>(hf b hb).1⟩⟩
 done:=by intro X hP hw hK hc i ae s σ H E I hf st hg;subst hP hw hK;obtain⟨xs,hq,hx⟩:=hg;obtain⟨its,rv,p,hz⟩:=I.tuple hq;obtain⟨f0,f1,f2,f3,f4,f5⟩:=hf it (by simp);have hl:=rv.length;exact wpAny_pyNext_tuple_end (I.ok.hd hc) st (show s.heap.IsTuple a its.toArray from p) (by simp;lia) fun h' eb=>⟨rfl,I.turned (t':=s.toks) (fun b o hb e=>eb b o hb e) f0 f1 f3 f4 f5⟩
 self:=fun _ _ _ _ _ st h=>wpAny_pyIter_tupleiter st h
section
def cJ (K:LM)(tl:TE):TI:=fun σ H R=>tl σ H fun x H1=>∃ a,x=.ref a/\(∃ xs,SqL K H1 a xs)/\R (zV K a) H1
def B5 (K:LM)(tl:TE):TI:=fun σ H R=>tl σ H fun x H1=>∃ a,x=.ref a/\(∃ xs,SqT K H1 a xs)/\R (Gh K a) H1
theorem bV {tl:TE}(hl:PE X l tl):PI X tg l (cJ X.K tl):=by
 intro ae s σ H R I h;refine bI (hl ae s σ H _ I h) fun v s1 ⟨x,H1,I1,r1,q1⟩=>?_;obtain⟨a,e,⟨xs,hq⟩,q⟩:=q1;subst e;cases r1;obtain⟨its,rv,p,hz⟩:=I1.list hq;refine Kv p.isList ?_;refine⟨s1.heap.objs.size,[s1.heap.objs.size],_,_,H1,rfl,I1.kept (t':=s1.toks) fun b o e=>Ip _ e,rA a _,⟨_,IG _ rfl,rfl,rfl⟩,fun b hb=>?_,q⟩;have e:b=s1.heap.objs.size:=by simpa using hb
 subst e;exact I1.kU (Im _) (I1.aO.fresh (Im _))
theorem zW {tl:TE}(hl:PE X l tl):PI X tg l (B5 X.K tl):=by
 intro ae s σ H R I h;refine bI (hl ae s σ H _ I h) fun v s1 ⟨x,H1,I1,r1,q1⟩=>?_;obtain⟨a,e,⟨xs,hq⟩,q⟩:=q1;subst e;cases r1;obtain⟨its,rv,p,hz⟩:=I1.tuple hq;refine wpAny_pyIter_tuple (show s1.heap.IsTuple a its.toArray from p) ?_;refine⟨s1.heap.objs.size,[s1.heap.objs.size],_,_,H1,rfl,I1.kept (t':=s1.toks) fun b o e=>Ip _ e,pc a _,⟨_,IG _ rfl,rfl,rfl⟩,fun b hb=>?_,q⟩;have e:b=s1.heap.objs.size:=by simpa using hb
 subst e;exact I1.kU (Im _) (I1.aO.fresh (Im _))
def dS (wi:TI)(g:TG)(tb:TS):TS:=fun D σ H=>wi σ H fun J H1=>∃ W:Nat->Nat->St->Hp->Prop,(∃ m,W 0 m σ H1)/\∀ i m σ H,W i m σ H->
 (J.stop i H/\D.nx σ H)\/(J.go i H/\∃ N:St->Hp->Prop,(∀ σ' H',N σ' H'->∃ m',m'<m/\W (i+1) m' σ' H')/\∀ x H',J.tS i H x H'->g x σ H' fun σ2 H2=>tb { D with nx:=N,ct:=N,bk:=D.nx } σ2 H2)
noncomputable def jS (fp:List Addr)(h:Heap):List (Addr×Obj):=fp.filterMap fun b=>(h.get? b).map fun o=>(b,o)
theorem ft (hb:b∈fp)(e:h.get? b=some o):(b,o)∈jS fp h:=List.mem_filterMap.mpr ⟨b,hb,by rw[e];rfl⟩
theorem rB (hp:p∈jS fp h):p.1∈fp/\h.get? p.1=some p.2:=by
 obtain⟨b,hb,e⟩:=List.mem_filterMap.mp hp;cases q:h.get? b with
 |none=>rw[q]at e;cases e
 |some o=>rw[q]at e;have e':(b,o)=p:=IU e;subst e';exact⟨hb,q⟩
theorem Inv.pinned (I:Inv X ae σ H s)(hf:∀ b∈fp,gH X ae H b)(ho:∀ b∈fp,∃ o,s.heap.get? b=some o/\∀ v,o.data≠.cell v):Inv X (ae++jS fp s.heap) σ H s:=
 I.rh fun p hp=>(IR.mp hp).elim (fun z=>I.pin p (I_ _ z)) fun z=>by
  obtain⟨hb,e⟩:=rB z;obtain⟨f0,f1,f2,_⟩:=hf p.1 hb
  grind
theorem Inv.iN (I:Inv X (ae++pl) σ H s):Inv X ae σ H s:=I.rh fun p hp=>I.pin p (I_ _ (JD _ hp))
theorem bZ (hp:PassesOwn (model X.prog X.w) X.A X.env X.xe)(hc:X.calm=true)(hi:PI X tg iter wi)(hg:PG X tg g)(hb:PSs X body tb)
 (hs:autoParam (∀ x,foldedSetIterable iter X.env x=pure x) LU._auto_1):PS X (.For tg iter body [] pos) (dS wi g tb):=by
 intro ae s σ H D I h;refine wpAny_For (bI (hi ae s σ H _ I h) fun v s1 h1=>bI h1 fun itv s2 h2=>?_) hs;obtain⟨it,fp,tn,J,H2,e,I2,T,st2,f2,W,⟨m0,w0⟩,turn⟩:=h2;subst e;have stat:∀{H':Hp},(∀ b∈fp,H' b=none)->∀ b∈fp,gH X ae H' b:=fun hn b hb=>⟨hn b hb,(f2 b hb).2⟩;refine codeAny_forLoop_any (fun n s'=>∃ i σ' H',Inv X ae σ' H' s'/\tn i s'.heap/\(∀ b∈fp,H' b=none)/\W i n σ' H') ?_ m0 ⟨0,σ,H2,I2,st2,fun b hb=>(f2 b hb).1,w0⟩;rintro n s3 ⟨i,σ3,H3,I3,st3,fr3,w3⟩;rcases turn i n σ3 H3 w3 with⟨stop,qn⟩|⟨go,N,hN,step⟩
 .refine Kh hp (bI (T.done X rfl rfl rfl hc i ae s3 σ3 H3 X.xe I3 (stat fr3) st3 stop) fun r s4 ⟨hr,I4⟩=>?_);subst hr;exact JJ ⟨σ3,H3,I4,qn⟩
 .refine Kh hp (bI (T.item X rfl rfl rfl hc i ae s3 σ3 H3 X.xe I3 (stat fr3) st3 go) fun r s4 ⟨u,hr,h4⟩=>?_);subst hr;refine Kh hp (bI h4 fun _ s5 ⟨x,H5,I5,r5,y5,st5,fr5⟩=>?_);have I5':=I5.pinned (stat fr5) (T.obj _ _ st5);refine Kh hp (bI (hg _ s5 σ3 H5 x u _ I5' r5 (step x H5 y5)) fun _ s6 ⟨σ6,H6,I6,q6⟩=>?_);refine Kh hp (bI (hb _ s6 σ6 H6 _ I6 q6) fun f s7 q7=>?_);have again:∀{σ7:St}{H7:Hp},Inv X (ae++jS fp s5.heap) σ7 H7 s7->N σ7 H7->∃ m,m<n/\∃ i σ' H',Inv X ae σ' H' s7/\tn i s7.heap/\(∀ b∈fp,H' b=none)/\W i m σ' H':=fun{σ7 H7} I7 n7=>by obtain⟨m',hm,w7⟩:=hN σ7 H7 n7;refine⟨m',hm,i+1,σ7,H7,I7.iN,T.keep _ _ _ st5 fun b hb o e=>(I7.pin (b,o) (I_ _ (I_ _ (ft hb e)))).1,fun b hb=>?_,w7⟩;obtain⟨o,e,d⟩:=T.obj _ _ st5 b hb;exact(I7.pin (b,o) (I_ _ (I_ _ (ft hb e)))).2.1
  cases f with
  |next=>obtain⟨σ7,H7,I7,n7⟩:=q7;exact again I7 n7
  |cont=>obtain⟨σ7,H7,I7,n7⟩:=q7;exact again I7 n7
  |brk=>obtain⟨σ7,H7,I7,q7⟩:=q7;exact⟨σ7,H7,I7.iN,q7⟩
  |ret v=>obtain⟨x7,σ7,H7,I7,r7,q7⟩:=q7;exact⟨x7,σ7,H7,I7.iN,r7,q7⟩
end
theorem eR {K:LM}{a:Addr}{xs:List V}{g:TG}{tb:TS}{D:Ends}{σ:St}{H:Hp}(Pv:Nat->St->Hp->Prop)(h0:Pv 0 σ H)(hl:∀ i σ H,i<=xs.length->Pv i σ H->SqL K H a xs)
 (hs:∀ i x σ H,xs[i]?=some x->Pv i σ H->g x σ H fun σ2 H2=>tb { D with nx:=Pv (i+1),ct:=Pv (i+1),bk:=D.nx } σ2 H2) (hd:∀ σ H,Pv xs.length σ H->D.nx σ H) :
 ∃ W:Nat->Nat->St->Hp->Prop,(∃ m,W 0 m σ H)/\∀ i m σ H,W i m σ H->
  ((zV K a).stop i H/\D.nx σ H)\/((zV K a).go i H/\∃ N:St->Hp->Prop,(∀ σ' H',N σ' H'->∃ m',m'<m/\W (i+1) m' σ' H')/\∀ x H',(zV K a).tS i H x H'->g x σ H' fun σ2 H2=>tb { D with nx:=N,ct:=N,bk:=D.nx } σ2 H2):=by
 refine⟨fun i m σ H=>m=xs.length-i/\i<=xs.length/\Pv i σ H,⟨xs.length,by simp,IL _,h0⟩,?_⟩;rintro i m σ H ⟨rfl,hi,p⟩;have q:=hl i σ H hi p;by_cases hlt:i<xs.length
 .refine .inr ⟨⟨xs,xs[i],q,by simp[hlt]⟩,Pv (i+1),fun σ' H' p'=>⟨xs.length-(i+1),by lia,rfl,hlt,p'⟩,fun x H' y=>?_⟩;obtain⟨e,y⟩:=y;subst e;exact hs i x σ _ (y xs q) p
 .have e:i=xs.length:=by lia
  subst e;exact .inl ⟨⟨xs,q,Im _⟩,hd σ H p⟩
abbrev R2:=V->V->Hp->VK->Prop
def iV (X:Cx)(f:LO->LO->Sem LO)(r:R2):Prop:=
 ∀(ae:List (Addr×Obj))(s:LL)(σ:St)(H:Hp)(x y:V)(v u:LO)(Q:VK),Inv X ae σ H s->RelV x v->RelV y u->r x y H Q->
  wpAny (model X.prog X.w) X.A (f v u) (EP X ae σ Q) X.xe s
def EJ (X:Cx)(f:LO->Sem LO)(r:V->Hp->VK->Prop):Prop:=
 ∀(ae:List (Addr×Obj))(s:LL)(σ:St)(H:Hp)(x:V)(v:LO)(Q:VK),Inv X ae σ H s->RelV x v->r x H Q->
  wpAny (model X.prog X.w) X.A (f v) (EP X ae σ Q) X.xe s
def cK (X:Cx)(f:LO)(r:List V->Hp->VK->Prop):Prop:=
 ∀(ae:List (Addr×Obj))(s:LL)(σ:St)(H:Hp)(xs:List V)(us:List LO)(Q:VK),Inv X ae σ H s->Vals xs us->r xs H Q->
  wpAny (model X.prog X.w) X.A (call f us) (EP X ae σ Q) X.xe s
def EK (X:Cx)(r:V->Hp->(Bool->Hp->Prop)->Prop):Prop:=
 ∀(ae:List (Addr×Obj))(s:LL)(σ:St)(H:Hp)(x:V)(v:LO)(Q:Bool->Hp->Prop),Inv X ae σ H s->RelV x v->r x H Q->
  wpAny (model X.prog X.w) X.A (truthy v) (TP X ae σ Q) X.xe s
noncomputable def bn (r:R2)(ta tb:TE):TE:=fun σ H Q=>ta σ H fun x H1=>tb σ H1 fun y H2=>r x y H2 Q
noncomputable def Gi (r:V->Hp->VK->Prop)(ta:TE):TE:=fun σ H Q=>ta σ H fun x H1=>r x H1 Q
noncomputable def rI (C:Int->Int->Prop)(g:Int->Int->V):R2:=fun x y H Q=>∃ i j,x=.int i/\y=.int j/\C i j/\Q (g i j) H
noncomputable def tM (g:Int->Int->V):R2:=fun x y H Q=>∃ i j,x=.int i/\y=.int j/\Q (g i j) H
noncomputable def rU (g:Int->V):V->Hp->VK->Prop:=fun x H Q=>∃ i,x=.int i/\Q (g i) H
section
theorem zX (ha:PE X a ta)(hb:PE X b tb){R:V->V->Hp->Prop}(I:Inv X ae σ H s)
 (h:ta σ H fun x H1=>tb σ H1 fun y H2=>R x y H2) {Q:LO->LL->Prop} {f:LO->LO->Sem LO}
 (hf:∀ v u s2 x y H2,Inv X ae σ H2 s2->RelV x v->RelV y u->R x y H2->wX X (f v u) Q X.xe s2) :
 wX X (eval a X.env) (fun v s₁=>wX X (eval b X.env) (fun u s₂=>wX X (f v u) Q X.xe s₂) X.xe s₁) X.xe s:=by
 refine bI (ha ae s σ H _ I h) fun v s1 ⟨x,H1,I1,r1,q1⟩=>?_;refine bI (hb ae s1 σ H1 _ I1 q1) fun u s2 ⟨y,H2,I2,r2,q2⟩=>?_;exact hf v u s2 x y H2 I2 r1 r2 q2
theorem aP {op:Operator}(ho:iV X (binaryOp op) r)(ha:PE X a ta)(hb:PE X b tb):PE X (.BinOp a op b pos) (bn r ta tb):=by intro ae s σ H Q I h;exact wpAny_BinOp (zX ha hb I h fun v u s2 x y H2 I2 rx ry q=>ho ae s2 σ H2 x y v u Q I2 rx ry q)
theorem lE (ho:EJ X (unaryOp op) r)(ha:PE X a ta):PE X (.UnaryOp op a pos) (Gi r ta):=by intro ae s σ H Q I h;exact UnaryOp_ (bI (ha ae s σ H _ I h) fun v s1 ⟨x,H1,I1,r1,q1⟩=>ho ae s1 σ H1 x v Q I1 r1 q1)
theorem EL {f:LO->LO->Sem LO}{C:Int->Int->Prop}{g:Int->Int->Int}
 (rule:∀(i j:Int)(t u:Tok)(s:LL)(Q:LO->LL->Prop)(E:LO->LL->Prop),C i j->Q (.int (g i j) s.toks) { s with toks:=s.toks+1 }->wX X (f (.int i t) (.int j u)) Q E s) :
 iV X f (rI C fun i j=>.int (g i j)):=by
 intro ae s σ H x y v u Q I rx ry h;obtain⟨i,j,rfl,rfl,hc,q⟩:=h;obtain⟨t,rfl⟩:=rx;obtain⟨t',rfl⟩:=ry;exact rule i j t t' s _ _ hc ⟨.int (g i j),H,I.tok _,⟨_,rfl⟩,q⟩
theorem B6 {f:LO->LO->Sem LO}{g:Int->Int->Int}
 (rule:∀(i j:Int)(t u:Tok)(s:LL)(Q:LO->LL->Prop)(E:LO->LL->Prop),Q (.int (g i j) s.toks) { s with toks:=s.toks+1 }->wX X (f (.int i t) (.int j u)) Q E s) :
 iV X f (tM fun i j=>.int (g i j)):=by
 intro ae s σ H x y v u Q I rx ry h;obtain⟨i,j,rfl,rfl,q⟩:=h;obtain⟨t,rfl⟩:=rx;obtain⟨t',rfl⟩:=ry;exact rule i j t t' s _ _ ⟨.int (g i j),H,I.tok _,⟨_,rfl⟩,q⟩
theorem zY {f:LO->LO->Sem LO}{g:Int->Int->Bool}
 (rule:∀(i j:Int)(t u:Tok)(s:LL)(Q:LO->LL->Prop)(E:LO->LL->Prop),Q (.bool (g i j)) s->wX X (f (.int i t) (.int j u)) Q E s) :
 iV X f (tM fun i j=>.bl (g i j)):=by
 intro ae s σ H x y v u Q I rx ry h;obtain⟨i,j,rfl,rfl,q⟩:=h;obtain⟨t,rfl⟩:=rx;obtain⟨t',rfl⟩:=ry;exact rule i j t t' s _ _ ⟨.bl (g i j),H,I,rfl,q⟩
def B7 (i j:Int):Prop:=0<j/\j<1073741824
def CMul (i j:Int):Prop:=(-(2 ^ 64)<i/\i<2 ^ 64)\/(-(2 ^ 64)<j/\j<2 ^ 64)
theorem CMul.ok (h:CMul i j):IntMulOk i j:=by
 rcases h with⟨h1,h2⟩|⟨h1,h2⟩
 .exact .of_left (intBits_le_64 h1 h2)
 .exact .of_right (intBits_le_64 h1 h2)
theorem bL:iV X (binaryOp .Add) (tM fun i j=>.int (i+j)):=B6 fun _ _ _ _ _ _ _ q=>add_int q
theorem t6:iV X (binaryOp .Mult) (rI CMul fun i j=>.int (i*j)):=EL fun _ _ _ _ _ _ _ hc q=>mul_int q hc.ok
theorem cS:iV X (binaryOp .FloorDiv) (rI B7 fun i j=>.int (i / j)):=EL fun i j _ _ _ _ _ hc q=>by have h1:(0:Int)<j:=hc.1;have h2:j<1073741824:=hc.2;exact floordiv_int (by lia) (by rw[Int.fdiv_eq_ediv_of_nonneg i (by lia)];exact q) (.inl (PyProof.noPylong_small (by lia)))
theorem bM:iV X (binaryOp .Mod) (rI (fun _ j=>0<j) fun i j=>.int (i % j)):=EL fun i j _ _ _ _ _ hc q=>by have h1:(0:Int)<j:=hc;exact mod_int' (by lia) (by rw[Int.fmod_eq_emod_of_nonneg i (by lia)];exact q)
theorem zZ:iV X (binaryOp .BitXor) (tM fun i j=>.int (Builtin.bitXor i j)):=B6 fun _ _ _ _ _ _ _ q=>xor_int q
theorem GS {f:LO->Sem LO}{g:Int->Int}
 (rule:∀(i:Int)(t:Tok)(s:LL)(Q:LO->LL->Prop)(E:LO->LL->Prop),Q (.int (g i) s.toks) { s with toks:=s.toks+1 }->wX X (f (.int i t)) Q E s) :
 EJ X f (rU fun i=>.int (g i)):=by
 intro ae s σ H x v Q I rx h;obtain⟨i,rfl,q⟩:=h;obtain⟨t,rfl⟩:=rx;exact rule i t s _ _ ⟨.int (g i),H,I.tok _,⟨_,rfl⟩,q⟩
theorem iX:EJ X (unaryOp .USub) (rU fun i=>.int (-i)):=GS fun _ _ _ _ _ q=>neg_int q
end
noncomputable def B8:V->V->Bool
 | .bu,.bu=>true|.bu,.int _=>true|.int _,.bu=>true|.bu,.bl _=>true|.bl _,.bu=>true|.bu,.str _=>true|.str _,.bu=>true
 | .int _,.int _=>true|.bl _,.bl _=>true|.str _,.str _=>true|.qh _,.qh _=>true
 | .int _,.str _=>true|.str _,.int _=>true|.bl _,.str _=>true|.str _,.bl _=>true
 |_,_=>false
def rC:R2:=fun x y H Q=>B8 x y=true/\Q (.bl (decide (x=y))) H
def EM:R2:=fun x y H Q=>B8 x y=true/\Q (.bl (!decide (x=y))) H
theorem qt:decide (V.int i=V.int j)=(i==j):=by rw[KG];simp
theorem t7:decide (V.bl i=V.bl j)=(i==j):=by rw[KG];simp
theorem qu:decide (V.str i=V.str j)=(i==j):=by rw[KG];simp
theorem qv:decide (V.qh i=V.qh j)=(i.toList==j.toList):=by rw[KG];cases i;cases j;simp
section
theorem be (I:Inv X ae σ H s)(q:Q (.bl k) H)(e:k=k'):EP X ae σ Q (.bool k') s:=by subst e;exact⟨.bl k,H,I,rfl,q⟩
theorem fY:iV X (compareOp .Eq) rC:=by
 intro ae s σ H x y v u Q I rx ry h;obtain⟨hs,q⟩:=h;cases x with
 |bu=>
  cases rx;cases y with
  |bu=>cases ry;exact PySem.EqNone.eq_none_none (be I q (by simp))
  |bl j=>cases ry;exact PySem.EqNone.eq_none_bool (be I q (by simp))
  |int j=>obtain⟨t',rfl⟩:=ry;exact PySem.EqNone.eq_none_int (be I q (by simp))
  |str j=>obtain⟨t',rfl⟩:=ry;exact PySem.EqNone.eq_none_str (be I q (by simp))
  |_=>exact absurd (show false=true from hs) IX
 |bl i=>
  cases rx;cases y with
  |bu=>cases ry;exact PySem.EqNone.eq_bool_none (be I q (by simp))
  |bl j=>cases ry;exact eq_bool (be I q t7)
  |str j=>obtain⟨t',rfl⟩:=ry;exact PySem.EqMixed.eq_bool_str (be I q (by simp))
  |_=>exact absurd (show false=true from hs) IX
 |int i=>
  obtain⟨t,rfl⟩:=rx;cases y with
  |bu=>cases ry;exact PySem.EqNone.eq_int_none (be I q (by simp))
  |int j=>obtain⟨t',rfl⟩:=ry;exact eq_int (be I q qt)
  |str j=>obtain⟨t',rfl⟩:=ry;exact PySem.EqMixed.eq_int_str (be I q (by simp))
  |_=>exact absurd (show false=true from hs) IX
 |str i=>
  obtain⟨t,rfl⟩:=rx;cases y with
  |bu=>cases ry;exact PySem.EqNone.eq_str_none (be I q (by simp))
  |bl j=>cases ry;exact PySem.EqMixed.eq_str_bool (be I q (by simp))
  |int j=>obtain⟨t',rfl⟩:=ry;exact PySem.EqMixed.eq_str_int (be I q (by simp))
  |str j=>obtain⟨t',rfl⟩:=ry;exact eq_str (be I q qu)
  |_=>exact absurd (show false=true from hs) IX
 |qh i=>
  obtain⟨t,rfl⟩:=rx;cases y with
  |qh j=>obtain⟨t',rfl⟩:=ry;exact PySem.W.eq_bytes (be I q qv)
  |_=>exact absurd (show false=true from hs) IX
 |_=>cases y<;>exact absurd (show false=true from hs) IX
theorem yW:iV X (compareOp .NotEq) EM:=by
 intro ae s σ H x y v u Q I rx ry h;obtain⟨hs,q⟩:=h;cases x with
 |bu=>
  cases rx;cases y with
  |bu=>cases ry;exact PySem.EqNone.ne_none_none (be I q (by simp))
  |bl j=>cases ry;exact PySem.EqNone.ne_none_bool (be I q (by simp))
  |int j=>obtain⟨t',rfl⟩:=ry;exact PySem.EqNone.ne_none_int (be I q (by simp))
  |str j=>obtain⟨t',rfl⟩:=ry;exact PySem.EqNone.ne_none_str (be I q (by simp))
  |_=>exact absurd (show false=true from hs) IX
 |bl i=>
  cases rx;cases y with
  |bu=>cases ry;exact PySem.EqNone.ne_bool_none (be I q (by simp))
  |bl j=>cases ry;exact ne_bool (be I q (JL not t7))
  |str j=>obtain⟨t',rfl⟩:=ry;exact PySem.EqMixed.ne_bool_str (be I q (by simp))
  |_=>exact absurd (show false=true from hs) IX
 |int i=>
  obtain⟨t,rfl⟩:=rx;cases y with
  |bu=>cases ry;exact PySem.EqNone.ne_int_none (be I q (by simp))
  |int j=>obtain⟨t',rfl⟩:=ry;exact ne_int (be I q (JL not qt))
  |str j=>obtain⟨t',rfl⟩:=ry;exact PySem.EqMixed.ne_int_str (be I q (by simp))
  |_=>exact absurd (show false=true from hs) IX
 |str i=>
  obtain⟨t,rfl⟩:=rx;cases y with
  |bu=>cases ry;exact PySem.EqNone.ne_str_none (be I q (by simp))
  |bl j=>cases ry;exact PySem.EqMixed.ne_str_bool (be I q (by simp))
  |int j=>obtain⟨t',rfl⟩:=ry;exact PySem.EqMixed.ne_str_int (be I q (by simp))
  |str j=>obtain⟨t',rfl⟩:=ry;exact ne_str (be I q (JL not qu))
  |_=>exact absurd (show false=true from hs) IX
 |qh i=>
  obtain⟨t,rfl⟩:=rx;cases y with
  |qh j=>obtain⟨t',rfl⟩:=ry;exact PySem.W.ne_bytes (be I q (JL not qv))
  |_=>exact absurd (show false=true from hs) IX
 |_=>cases y<;>exact absurd (show false=true from hs) IX
theorem qw:iV X (compareOp .Lt) (tM fun i j=>.bl (decide (i<j))):=zY fun _ _ _ _ _ _ _ q=>lt_int q
theorem B9:iV X (compareOp .LtE) (tM fun i j=>.bl (decide (i<=j))):=zY fun _ _ _ _ _ _ _ q=>le_int q
theorem nP:iV X (compareOp .Gt) (tM fun i j=>.bl (decide (j<i))):=zY fun _ _ _ _ _ _ _ q=>gt_int q
theorem z0:iV X (compareOp .Is) (fun x y H Q=>y=.bu/\Q (.bl (decide (x=.bu))) H):=by
 intro ae s σ H x y v u Q I rx ry h;obtain⟨rfl,q⟩:=h;cases ry;refine is_none_gen (be I q ?_);cases x<;>first
  |(cases rx;rfl)
  |(obtain⟨t,rfl⟩:=rx;rfl)
theorem w8:iV X (compareOp .IsNot) (fun x y H Q=>y=.bu/\Q (.bl (!decide (x=.bu))) H):=by
 intro ae s σ H x y v u Q I rx ry h;obtain⟨rfl,q⟩:=h;cases ry;refine isnot_none_gen (be I q ?_);cases x<;>first
  |(cases rx;rfl)
  |(obtain⟨t,rfl⟩:=rx;rfl)
theorem aZ (b:Expr)(h:autoParam (op≠.In) LQ._auto_1)(h2:autoParam (op≠.NotIn) LQ._auto_1):behindInMarks op b=false:=by
 have e1:(op==CmpOp.In)=false:=by cases op<;>first|rfl|exact absurd rfl h
 have e2:(op==CmpOp.NotIn)=false:=by cases op<;>first|rfl|exact absurd rfl h2
 cases b<;>simp[behindInMarks,e1,e2]
theorem md (ho:iV X (compareOp op) r)(ha:PE X a ta)(hb:PE X b tb)(hm:behindInMarks op b=false):PE X (.Compare a [op] [b] pos) (bn r ta tb):=by intro ae s σ H Q I h;exact wpAny_Compare1 (zX ha hb I h fun v u s2 x y H2 I2 rx ry q=>ho ae s2 σ H2 x y v u Q I2 rx ry q) hm
noncomputable def bv (t:TE):TT:=fun σ H Q=>t σ H fun x H'=>∃ k,x=.bl k/\Q k H'
theorem aQ (ho:iV X (compareOp op) r)(ha:PE X a ta)(hb:PE X b tb)(hm:behindInMarks op b=false):PT X (.Compare a [op] [b] pos) (bv (bn r ta tb)):=by intro ae s σ H Q I h;refine wpAny_isTrue_Compare1 (bI (ha ae s σ H _ I h) fun v s1 ⟨x,H1,I1,r1,q1⟩=>bI (hb ae s1 σ H1 _ I1 q1) fun u s2 ⟨y,H2,I2,r2,q2⟩=>bI (ho ae s2 σ H2 x y v u _ I2 r1 r2 q2) fun c s3 ⟨z,H3,I3,r3,k,e,q3⟩=>?_) hm;subst e;cases r3;exact JG ⟨H3,I3,q3⟩
noncomputable def t8 (r r':R2)(ta tb tc:TE):TE:=fun σ H Q=>ta σ H fun x H1=>tb σ H1 fun y H2=>r x y H2 fun z H3=>∃ k,z=.bl k/\
 (if k=true then tc σ H3 fun w' H4=>r' y w' H4 Q else Q (.bl false) H3)
theorem t9 (ho:iV X (compareOp op) r)(ho':iV X (compareOp op') r')(ha:PE X a ta)(hb:PE X b tb)(hc:PE X c tc)
 (hm:lastMarks [op,op'] [b,c]=false:=by with_unfolding_all rfl):PT X (.Compare a [op,op'] [b,c] pos) (bv (t8 r r' ta tb tc)):=by
 intro ae s σ H Q I h;refine isTrue_chain (bI (ha ae s σ H _ I h) fun v s1 ⟨x,H1,I1,r1,q1⟩=>test_link (bI (hb ae s1 σ H1 _ I1 q1) fun u s2 ⟨y,H2,I2,r2,q2⟩=>bI (ho ae s2 σ H2 x y v u _ I2 r1 r2 q2) fun d s3 ⟨z,H3,I3,r3,k,e,q3⟩=>?_)) hm;subst e;cases r3;refine JG ?_;cases k with
 |false=>obtain⟨k',e',q'⟩:=q3;cases e';exact ite_ff ⟨H3,I3,q'⟩
 |true=>refine ite_tt (test_last (bI (hc ae s3 σ H3 _ I3 q3) fun w' s4 ⟨z',H4,I4,r4,q4⟩=>bI (ho' ae s4 σ H4 y z' u w' _ I4 r2 r4 q4) fun d' s5 ⟨z2,H5,I5,r5,k2,e2,q5⟩=>?_));subst e2;cases r5;exact JG ⟨H5,I5,q5⟩
def z4 (K:LM)(x:V)(H:Hp)(k:Bool):Prop:=
 match x with
 | .bu=>k=false
 | .bl b=>k=b
 | .int i=>k=(i != 0)
 | .str y=>y.length<=sizeLine/\k=((y.length:Int) != 0)
 | .qh y=>y.size<=sizeLine/\k=((y.size:Int) != 0)
 | .ref p=>(∃ xs,SqL K H p xs/\k=!xs.isEmpty)\/(∃ xs,SqT K H p xs/\k=!xs.isEmpty)\/∃ kvs,H p=some (.dK kvs)/\k=!kvs.isEmpty
 |_=>False
theorem pd {κ:Type}{kvs:List (κ×V)}{vs:List (κ×LO)}(r:KV kvs vs):(!vs.isEmpty)=!kvs.isEmpty:=by cases r<;>rfl
theorem jT (r:Vals xs its):(!its.toArray.isEmpty)=!xs.isEmpty:=by cases r<;>simp
theorem mj:(sizeLine:Nat)<2 ^ 63:=by rw[IY];decide
theorem z5:EK X (fun x H Q=>∃ k,z4 X.K x H k/\Q k H):=by
 intro ae s σ H x v Q I rx h;obtain⟨k,e,q⟩:=h;have hl:=mj;have hs:sizeLine=16777216:=IY;cases x with
 |bu=>cases rx;have e':k=false:=e;subst e';exact truthy_none ⟨H,I,q⟩
 |bl b=>cases rx;have e':k=b:=e;subst e';exact JG ⟨H,I,q⟩
 |int i=>obtain⟨t,rfl⟩:=rx;have e':k=(i != 0):=e;subst e';exact PySem.P.truthy_int ⟨H,I,q⟩
 |str y=>obtain⟨t,rfl⟩:=rx;obtain⟨hy,e'⟩ : y.length<=sizeLine/\k=((y.length:Int) != 0):=e;subst e';exact PySem.P.truthy_str (by lia) ⟨H,I.tok _,q⟩
 |qh y=>obtain⟨t,rfl⟩:=rx;obtain⟨hy,e'⟩ : y.size<=sizeLine/\k=((y.size:Int) != 0):=e;subst e';exact PySem.W.truthy_bytes (by lia) ⟨H,I.tok _,q⟩
 |ref p=>
  cases rx;have e':(∃ xs,SqL X.K H p xs/\k=!xs.isEmpty)\/(∃ xs,SqT X.K H p xs/\k=!xs.isEmpty)\/∃ kvs,H p=some (.dK kvs)/\k=!kvs.isEmpty:=e;rcases e' with⟨xs,hx,e'⟩|⟨xs,hx,e'⟩|⟨kvs,hx,e'⟩
  .subst e';obtain⟨its,r,pl,hz⟩:=I.list hx;have bH:=r.length;exact wpAny_truthy_list pl.isList (by simp only[IB];lia) ⟨H,I.tok _,by rw[jT r];exact q⟩
  .subst e';obtain⟨its,r,pl,hz⟩:=I.tuple hx;have bH:=r.length;exact truthy_tuple pl (by simp only[IB];lia) ⟨H,I.tok _,by rw[jT r];exact q⟩
  .subst e';obtain⟨hz,hS,vs,r,m⟩ : kvs.length<=sizeLine/\(p==sysModules)=false/\∃ vs,KV kvs vs/\s.heap.DictOf (aI X.prog X.w) p vs:=I.aO p _ hx;have bH:kvs.length=vs.length:=JV r;exact wpAny_truthy_dict hS m (by lia) ⟨H,I.tok _,by rw[pd r];exact q⟩
 |_=>exact(show False from e).elim
theorem t_ (ha:PE X a ta)(he:∀ whole,isTrue a X.env whole=(do let v <- whole;standAt a.pos;holding [v] (truthy v))) :
 PT X a (fun σ H Q=>ta σ H fun x H'=>∃ k,z4 X.K x H' k/\Q k H'):=by
 intro ae s σ H Q I h;exact isTrue_plain (bI (ha ae s σ H _ I h) fun v s1 ⟨x,H1,I1,r1,q1⟩=>z5 ae s1 σ H1 x v Q I1 r1 q1) (he _)
theorem eS (r:Vals [x] us):∃ u,us=[u]/\RelV x u:=by
 cases r with
 |cons r1 r2=>cases r2;exact⟨_,rfl,r1⟩
theorem lF (r:Vals [x,y] us):∃ u w',us=[u,w']/\RelV x u/\RelV y w':=by
 cases r with
 |cons r1 r2=>
  cases r2 with
  |cons r3 r4=>cases r4;exact⟨_,_,rfl,r1,r3⟩
theorem eU (hc:X.calm=true):cK X (.builtin "min") (fun xs H Q=>∃ i j,xs=[.int i,.int j]/\Q (.int (if j<i then j else i)) H):=by
 intro ae s σ H xs us Q I r h;obtain⟨i,j,rfl,q⟩:=h;obtain⟨u,w',rfl,⟨t,rfl⟩,⟨t',rfl⟩⟩:=lF r;refine min_two_ints (I.ok.hd hc) fun h' tk k=>⟨_,H,I.kept k,?_,q⟩;by_cases hj:j<i
 .rw[IS hj,IS hj];exact⟨_,rfl⟩
 .rw[IK hj,IK hj];exact⟨_,rfl⟩
end
structure qp (h:Heap) (x dx C:Addr) (mA:Str->Option LO):Prop where
 obj:h.get? x=some (PySem.W.instObj C dx)
 ns:h.Ns1 dx mA
 ne:dx≠x
theorem rD {h:Heap}{mA:Str->Option LO}(n:h.Ns1 dx mA):∃ od,h.get? dx=some od/\∀ name,PySem.W.lookIn name od=some (mA name):=by
 obtain⟨o,es,ep,ho,hd,hk,_,hm⟩:=n;refine⟨o,ho,fun name=>?_⟩;have e:=hm name;unfold nsFind findBy at e;rw[<- Array.find?_toList]at e;unfold PySem.W.lookIn;rw[hd];dsimp only;split
 .rename_i y q;rw[q]at e;exact JL some e
 .rename_i q;rw[q]at e;have a:es.toList.any (·.refKey)=false:=by rw[List.any_eq_false];intro y hy;obtain⟨z,t,fW⟩:=hk y (Array.mem_toList_iff.mp hy);simp[DictEntry.refKey,fW]
  have a':¬ es.toList.any (·.refKey)=true:=by rw[a];exact IX
  rw[IK a'];exact JL some e
theorem qp.look (I:qp h x dx C mA):∃ od,PySem.W.InstAt h x (PySem.W.instObj C dx) C (some od)/\∀ name,PySem.W.lookIn name od=some (mA name):=
 let ⟨od,ho,hl⟩:=rD I.ns
 ⟨od,⟨I.obj,rfl,rfl,ho⟩,hl⟩
section
variable {prog:LN}{w:World}{A:LP}{E:LO->LL->Prop}{s:LL}{K:LM}{x dx C f:Addr}{mA:Str->Option LO}{name:Str}{v:LO}
theorem w_ (X:K.In s.heap)(I:qp s.heap x dx C mA)(hg:PySem.W.plainGet K C name=true)(hh:PySem.W.hasDictIn K C=true)
 (ha:PySem.W.findIn K (.ref C) name=some none) (hv:mA name=some v) (hv':PySem.W.handedIn v=true) (h:Q v { s with toks:=s.toks+1 }) :
 wpAny (model prog w) A (getAttr (.ref x) name expr) Q E s:=by
 obtain⟨od,J,hl⟩:=I.look;exact PySem.W.get_value X J (Lf hg).1 (PySem.W.findObj_own hh ha rfl (by rw[hl,hv])) hv' h
theorem ua (X:K.In s.heap)(I:qp s.heap x dx C mA)(hg:PySem.W.plainGet K C name=true)
 (hf:PySem.W.findIn K (.ref C) name=some (some (.ref f))) (ht:PySem.W.isFn K (.ref f)=true) (hv:mA name=none) (h:Q (.ref f,[.ref x]) s) :
 wpAny (model prog w) A (getMethod (.ref x) name pl) Q E s:=by
 obtain⟨od,J,hl⟩:=I.look;exact PySem.W.method_fn X J (Lf hg).1 (Lf hg).2 hf (Le.mp ht) (by show(PySem.W.lookIn name od).map (·.isSome)=some false;rw[hl,hv];rfl) h
theorem xc (X:K.In s.heap)(I:qp s.heap x dx C mA)
 (hs:PySem.W.findIn K (.ref C) "__setattr__"=some (some (.builtin "object.__setattr__"))) (hp:PySem.W.plainOver K C=true) (ht:PySem.W.takerIn K C name=some none) (hh:PySem.W.hasDictIn K C=true)
 (hw:PySem.Within mA ns) (hsz:ns.length<=sizeLine)
 (h:∀ h',qp h' x dx C (fun y=>if y=name then some v else mA y)->Heap.SameBut dx s.heap h'->Q () { s with heap:=h',toks:=s.toks+2 }) :
 wpAny (model prog w) A (setAttr (.ref x) name v) Q E s:=by
 obtain⟨od,J,hl⟩:=I.look;refine PySem.W.set_plain X J hs (PySem.W.osa_open (s:={ s with toks:=s.toks+1 }) (r:=none) X J hp ht fun b=>?_);obtain⟨cd,hc,hd'⟩:=PySem.W.any_some hh;have hx:s.heap.get? x=some ⟨.ref C,some dx,.plain,#[]⟩:=I.obj;refine Il (Iu (Il (Il (wpAny_loadPart hx (Il (PySem.W.Looks.here (s:={ s with toks:=s.toks+1 }) (PySem.W.looks_clsIn X hc) ?_))))));rw[hd'];refine Iu (a:=some dx) (Il (Iu (Il ?_)));refine wpAny_nsSet1 (s:={ s with toks:=s.toks+1 }) I.ns fun h' hn2 hs2=>?_;obtain⟨oD,esD,epD,hoD,hdD,hcD⟩:=hn2.count (PySem.Within.cons name v hw);refine Il (wpAny_lookBehind hoD (by rw[hdD];exact pastItsLine_dict (IV hcD (by rw[IM];lia))) ?_);exact Iu (h _ ⟨(hs2.2 _ (Jn I.ne)).trans I.obj,hn2,I.ne⟩ hs2)
theorem ub (X:K.In s.heap)(hm:PySem.W.makesIn K C=true)
 (hi:PySem.W.findIn K (.ref C) "__init__"=some (some (.ref f))) (hf:PySem.W.typeIn K (.ref f)=some (.type "function"))
 (h:codeAny (model prog w) (A.under (.builtin "type.__call__" ⟨.ref C::vs,kw⟩)) (.call (.ref f) ⟨.ref (s.heap.objs.size+1)::vs,kw⟩) (PySem.W.InitBack (s.heap.objs.size+1) R)
   { s with heap:=(s.heap.push PySem.W.emptyDict).push (PySem.W.instObj C s.heap.objs.size) }) :
 codeAny (model prog w) A (.call (.ref C) ⟨vs,kw⟩) R s:=by
 obtain⟨hh,g,d,t,os⟩:=s;exact PySem.W.make_core (PySem.W.makes_of X hm) (PySem.W.looks_findIn X hi) (fun self=>PySem.W.bind_fn X self hf) (.inl rfl) h
end
noncomputable def eV (f:Str)(v:V):List (Str×V)->List (Str×V)
 | []=>[(f,v)]
 |(g,x)::r=>if g=f then (g,v)::r else (g,x)::eV f v r
theorem jk (f g:Str)(v:V):∀ fs:List (Str×V),(eV f v fs).lookup g=if g=f then some v else fs.lookup g
 | []=>by
  show List.lookup g [(f,v)]=_
  grind
 |(k,x)::r=>by
  have ih:=jk f g v r
  grind [eV]
theorem iY (f:Str)(v:V):∀ fs:List (Str×V),f∈(eV f v fs).map (·.1)/\∀ g,g∈fs.map (·.1)->g∈(eV f v fs).map (·.1)
 | []=>⟨by simp[eV],fun g h=>by simp at h⟩
 |(k,x)::r=>by
  obtain⟨i1,i2⟩:=iY f v r
  grind [eV]
theorem jl (f:Str)(v:V):∀ fs:List (Str×V),(eV f v fs).length<=fs.length+1
 | []=>by simp[eV]
 |(k,x)::r=>by
  have ih:=jl f v r;rw[show eV f v ((k,x)::r)=(if k=f then (k,v)::r else (k,x)::eV f v r) from rfl];by_cases hk:k=f
  .rw[IS hk,IM,IM];lia
  .rw[IK hk,IM,IM];lia
theorem RelO.some_of (r:RelO (some v) o):∃ u,o=some u/\RelV v u:=by
 cases o with
 |none=>exact(show False from r).elim
 |some u=>exact⟨u,rfl,r⟩
theorem RelO.none_of (r:RelO none o):o=none:=by
 cases o with
 |none=>rfl
 |some u=>exact(show False from r).elim
theorem rE (r:RelV v u):PySem.W.handedIn u=true:=by
 cases v with
 |bu=>cases (show u=Value.none from r);rfl
 |bl b=>cases (show u=Value.bool b from r);rfl
 |int i=>obtain⟨t,e⟩:=(show ∃ t,u=Value.int i t from r);cases e;rfl
 |str x=>obtain⟨t,e⟩:=(show ∃ t,u=Value.str x t from r);cases e;rfl
 |qh b=>obtain⟨t,e⟩:=(show ∃ t,u=Value.bytes b t from r);cases e;rfl
 |zE b=>obtain⟨t,e⟩:=(show ∃ t,u=Value.float b t from r);cases e;rfl
 |ref a=>cases (show u=Value.ref a from r);rfl
 |ty n=>cases (show u=Value.type n from r);rfl
section
theorem jH (aO:HOk P w H h)(e:H a=some (.ins C dx fs)):∃ mA,qp h a dx C mA/\(∀ f,RelO (fs.lookup f) (mA f))/\PySem.Within mA (fs.map (·.1))/\fs.length<=1000/\H dx=some (.own a):=by obtain⟨d,z,ne,ob,mA,n,r,q⟩:=(show ObjOk P w H h a (.ins C dx fs) from aO a _ e);exact⟨mA,⟨ob,n,ne⟩,r,q,z,d⟩
end
structure nv (K:LM) (C:Addr):Prop where
 pg:PySem.W.plainGet K C Str.empty=true
 hd:PySem.W.hasDictIn K C=true
 po:PySem.W.plainOver K C=true
 sa:PySem.W.findIn K (.ref C) "__setattr__"=some (some (.builtin "object.__setattr__"))
theorem nv.get {K:LM}(c:nv K C)(f:Str):PySem.W.plainGet K C f=true:=c.pg
def NoAttr (K:LM)(C:Addr)(f:Str):Prop:=PySem.W.findIn K (.ref C) f=some none
theorem NoAttr.taker {K:LM}(n:NoAttr K C f):PySem.W.takerIn K C f=some none:=by unfold PySem.W.takerIn;rw[show PySem.W.findIn K (.ref C) f=some none from n];rfl
structure Meth (K:LM) (C:Addr) (m:Str) (f:Addr):Prop where
 at_:PySem.W.findIn K (.ref C) m=some (some (.ref f))
 fn:PySem.W.isFn K (.ref f)=true
 kp:PySem.W.keepIn K (.ref f)=true
section
theorem pe (I:Inv X ae σ H s)(e:H a=some (.ins C dx fs))(c:nv X.K C)(n:NoAttr X.K C f)(l:fs.lookup f=some v)
 (h:∀ u s',Inv X ae σ H s'->RelV v u->Q u s'):wpAny (model X.prog X.w) A (getAttr (.ref a) f b) Q E s:=by
 obtain⟨mA,O,r,_,_,_⟩:=jH I.aO e;obtain⟨u,hu,ru⟩:=RelO.some_of (v:=v) (o:=mA f) (by rw[<- l];exact r f);exact w_ I.hV O (c.get f) c.hd n hu (rE ru) (h u _ (I.tok _) ru)
theorem jU (I:Inv X ae σ H s)(e:H a=some (.ins C dx fs))(c:nv X.K C)(k:Meth X.K C m g)(l:fs.lookup m=none)
 (h:Q (.ref g,[.ref a]) s):wpAny (model X.prog X.w) A (getMethod (.ref a) m pl) Q E s:=by
 obtain⟨mA,O,r,_,_,_⟩:=jH I.aO e;have hn:mA m=none:=RelO.none_of (by rw[<- l];exact r m);exact ua I.hV O (c.get m) k.at_ k.fn hn h
theorem ph (I:Inv X ae σ H s)(e:H a=some (.ins C dx fs))(c:nv X.K C)(n:NoAttr X.K C f)(hl:fs.length<1000)(ry:RelV y u)
 (h:∀ s',Inv X ae σ (upd H a (.ins C dx (eV f y fs))) s'->Q () s'):wpAny (model X.prog X.w) A (setAttr (.ref a) f u) Q E s:=by
 obtain⟨mA,O,r,wi,_,ho⟩:=jH I.aO e;have hz:(fs.map (·.1)).length<=sizeLine:=by rw[Iq,IY];lia
 refine xc I.hV O c.sa c.po n.taker c.hd wi hz fun h' O' sb=>h _ ?_;have hd:∃ o,h'.get? dx=some o:=let ⟨o,_,_,e',_⟩:=O'.ns;⟨o,e'⟩;refine I.write (x:=a) (e:=dx) (by rw[e];exact True.intro) (.inr ho) (fun b q hb z=>(sb.2 b hb).trans z) hd ?_;refine⟨by rw[au O.ne];exact ho,?_,O.ne,O'.obj,_,O'.ns,fun g=>?_,fun g hg=>?_⟩
 .have:=jl f y fs;lia
 .grind [RelO,eV,jk]
 .by_cases q:g=f
  .rw[q];exact(iY f y fs).1
  .refine(iY f y fs).2 g (wi g fun z=>hg ?_);show(if g=f then some u else mA g)=none;rw[IK q];exact z
theorem Inv.made (I:Inv X ae σ H s):Inv X ae σ (upd (upd H s.heap.objs.size (.own (s.heap.objs.size+1))) (s.heap.objs.size+1) (.ins C s.heap.objs.size []))
 { s with heap:=(s.heap.push PySem.W.emptyDict).push (PySem.W.instObj C s.heap.objs.size) }:=by
 have e1:(s.heap.push PySem.W.emptyDict).get? s.heap.objs.size=some PySem.W.emptyDict:=IG s.heap rfl;have e2:((s.heap.push PySem.W.emptyDict).push (PySem.W.instObj C s.heap.objs.size)).get? (s.heap.objs.size+1)=some (PySem.W.instObj C s.heap.objs.size):=by
  have:=IG (s.heap.push PySem.W.emptyDict) (o:=PySem.W.instObj C s.heap.objs.size) rfl
  rwa [K3]at this
 have e3:(s.heap.push PySem.W.emptyDict).Ns s.heap.objs.size (fun _=>none):=⟨PySem.W.emptyDict,#[],_,e1,rfl,(fun e he=>absurd he (by simp)),fun _=>rfl⟩;have I1:=I.laid (a:=s.heap.objs.size) (o:=.own (s.heap.objs.size+1)) (h':=s.heap.push PySem.W.emptyDict) (t':=s.toks) (fun b u q=>Ip _ q) (Im _) ⟨_,e1⟩;refine I1.laid (a:=s.heap.objs.size+1) (o:=.ins C s.heap.objs.size []) (t':=s.toks) (fun b u q=>Ip _ q) (Lq (K3 _ _)) ?_;have ne:s.heap.objs.size≠s.heap.objs.size+1:=IN (JU _);refine⟨by rw[au ne,af],IL _,ne,e2,fun _=>none,(Heap.Ns1.of_empty e3).at fun o q=>Ip _ q,fun _=>True.intro,fun y hy=>absurd rfl hy⟩
theorem xf (hb:attributeBase e f env (eval e env)=eval e env)
 (h:wpAny (model prog w) A (eval e env) (fun o s₁=>wpAny (model prog w) A (getAttr o f true) Q E s₁) E s):wpAny (model prog w) A (eval (.Attribute e f pos) env) Q E s:=
 Attribute_any_ h (by rw[arm_eval_Attribute,hb])
end
def dh (K:LM)(ta:TE)(f:Str):TE:=fun σ H Q=>ta σ H fun x H1=>∃ a C dx fs v,x=.ref a/\H1 a=some (.ins C dx fs)/\nv K C/\NoAttr K C f/\fs.lookup f=some v/\Q v H1
def ml (K:LM)(ta tv:TE)(f:Str):TS:=fun D σ H=>tv σ H fun y H1=>ta σ H1 fun x H2=>∃ a C dx fs,x=.ref a/\H2 a=some (.ins C dx fs)/\nv K C/\NoAttr K C f/\fs.length<1000/\
 D.nx σ (upd H2 a (.ins C dx (eV f y fs)))
section
theorem b7 (he:PE X e ta)(hb:attributeBase e f X.env (eval e X.env)=eval e X.env):PE X (.Attribute e f pos) (dh X.K ta f):=by intro ae s σ H Q I h;refine xf hb (bI (he ae s σ H _ I h) fun u s1 z=>?_);obtain⟨x,H1,I1,rx,a,C,dx,fs,v,rfl,ea,c,n,l,q⟩:=z;obtain rfl:u=Value.ref a:=rx;exact pe I1 ea c n l fun u' s2 I2 ru=>⟨v,H1,I2,ru,q⟩
theorem fZ (ha:PE X o ta)(hv:PE X value tv)(hs:swapsWith value (some (.Attribute o f pos')) pos.line X.env=pure false):PS X (.Assign [.Attribute o f pos'] value pos) (ml X.K ta tv f):=by intro ae s σ H D I h;refine plainObj_wpAny_Assign_Attribute (bI (hv ae s σ H _ I h) fun u s1 ⟨y,H1,I1,ry,q⟩=>bI (ha ae s1 σ H1 _ I1 q) fun ov s2 z=>?_) hs;obtain⟨x,H2,I2,rx,a,C,dx,fs,rfl,ea,c,n,l,q2⟩:=z;obtain rfl:ov=Value.ref a:=rx;exact ph I2 ea c n l ry fun s3 I3=>⟨σ,_,I3,q2⟩
end
section
inductive ji (K:LM) (H:Hp):V->LO->Prop where
 |bu:ji K H .bu (.type "NoneType")
 |bl (x:Bool):ji K H (.bl x) (.type "bool")
 |int (i:Int):ji K H (.int i) (.type "int")
 |str (x:Str):ji K H (.str x) (.type "str")
 |zE (x:UInt64):ji K H (.zE x) (.type "float")
 |lst {a:Addr} {xs:List V} (e:H a=some (.lst xs)):ji K H (.ref a) (.type "list")
 |bO {a:Addr} {o:Obj} {xs:List V} (e:H a=some (.bO o (.lst xs))):ji K H (.ref a) (.type "list")
 |tup {a:Addr} {xs:List V} (e:H a=some (.tup xs)):ji K H (.ref a) (.type "tuple")
 |dK {a:Addr} {kvs:List (ba×V)} (e:H a=some (.dK kvs)):ji K H (.ref a) (.type "dict")
 |dT {a:Addr} {kvs:List (List ba×V)} (e:H a=some (.dT kvs)):ji K H (.ref a) (.type "dict")
 |ins {a C dx:Addr} {fs:List (Str×V)} (e:H a=some (.ins C dx fs)) (cl:nv K C) (ha:PySem.W.findIn K (.ref C) "__class__"=some (some (.builtin "object.__class__")))
  (hn:PySem.W.specialIn K (.builtin "object.__class__") "__get__"=some (some (.builtin "getset_descriptor.__get__"))) (htk:PySem.W.takesIn K (.builtin "object.__class__")=some true)
  (hm:PySem.W.mroIn K C (.type "object")=some true):ji K H (.ref a) (.ref C)
theorem rF (I:Inv X ae σ H s)(rx:RelV x u)(ty:ji X.K H x t)(e:PySem.W.kitOne X.K t c=some b)(h:∀ tk,Q (.bool b) { s with toks:=tk }) :
 wpAny (model X.prog X.w) A (call (.builtin "isinstance") [u,c]) Q E s:=by
 cases ty with
 |bu=>cases (show u=Value.none from rx);exact Jz PySem.W.kitx_none I.hV True.intro e (fun z=>nomatch z) h
 |bl y=>cases (show u=Value.bool y from rx);exact Jz PySem.W.kitx_bool I.hV True.intro e (fun z=>nomatch z) h
 |int i=>obtain⟨t,q⟩:=(show ∃ t,u=Value.int i t from rx);cases q;exact Jz PySem.W.kitx_int I.hV True.intro e (fun z=>nomatch z) h
 |str y=>obtain⟨t,q⟩:=(show ∃ t,u=Value.str y t from rx);cases q;exact Jz PySem.W.kitx_str I.hV True.intro e (fun z=>nomatch z) h
 |zE y=>obtain⟨t,q⟩:=(show ∃ t,u=Value.float y t from rx);cases q;exact Jz PySem.W.kitx_float I.hV True.intro e (fun z=>nomatch z) h
 | @lst a xs ea=>cases (show u=Value.ref a from rx);obtain⟨_,_,n,_,h1⟩:=(show ObjOk X.prog X.w H s.heap a (.lst xs) from I.aO a _ ea);exact Jz PySem.W.kitx_list I.hV ⟨_,h1,rfl⟩ e (fun z=>nomatch z) h
 | @bO a ob xs ea=>cases (show u=Value.ref a from rx);obtain⟨_,_,_,n,_,h1⟩:=(show ObjOk X.prog X.w H s.heap a (.bO ob (.lst xs)) from I.aO a _ ea);exact Jz PySem.W.kitx_list I.hV ⟨_,h1,rfl⟩ e (fun z=>nomatch z) h
 | @tup a xs ea=>cases (show u=Value.ref a from rx);obtain⟨_,_,_,p⟩:=(show ObjOk X.prog X.w H s.heap a (.tup xs) from I.aO a _ ea);obtain⟨o,h1,h2,_⟩:=p;exact Jz PySem.W.kitx_tuple I.hV ⟨o,h1,h2⟩ e (fun z=>nomatch z) h
 | @dK a kvs ea=>cases (show u=Value.ref a from rx);obtain⟨_,_,vs,_,p⟩:=(show ObjOk X.prog X.w H s.heap a (.dK kvs) from I.aO a _ ea);obtain⟨o,es,ep,h1,h2,_⟩:=p;exact Jz Lx I.hV ⟨o,h1,h2.1⟩ e (fun z=>nomatch z) h
 | @dT a kvs ea=>cases (show u=Value.ref a from rx);obtain⟨_,_,xs,_,o,es,ep,h1,h2,_⟩:=(show ObjOk X.prog X.w H s.heap a (.dT kvs) from I.aO a _ ea);exact Jz Lx I.hV ⟨o,h1,h2.1⟩ e (fun z=>nomatch z) h
 | @ins a C dx fs ea cl ha hn htk hm=>cases (show u=Value.ref a from rx);obtain⟨mA,O,_⟩:=jH I.aO ea;obtain⟨od,J,_⟩:=O.look;exact Jz (PySem.W.kitx_own (cl.get _) cl.hd ha hn htk hm) I.hV J e (fun z=>nomatch z) h
end
structure cv (k:Nat) (A:LP):Prop where
 hd:A.handled=none
 dp:A.depth+3*k+5<recursionLimit
 un:A.units+16*k+200<cLine
theorem cv.mono (r:cv k A)(h:j<=k):cv j A:=⟨r.hd,by have:=r.dp;lia,by have:=r.un;lia⟩
theorem cv.deeper (r:cv (k+1) A)(env:Env):cv k (A.deeper env):=⟨r.hd,by have:=r.dp;show A.depth+1+3*k+5<_;lia,by have:=r.un;show A.units+3+16*k+200<_;lia⟩
theorem pj {A:LP} {C:Addr}:(A.under (.builtin "type.__call__" ⟨.ref C::us,kw⟩)).depth=A.depth+1:=by
 first|rfl|simp[Around.under,Code.weight,Code.isCreation,Code.isGuard,Code.isCaller,Code.frames,Code.isFrame,guardIds]
theorem pq {A:LP} {C:Addr}:(A.under (.builtin "type.__call__" ⟨.ref C::us,kw⟩)).units=A.units+1:=by
 first|rfl|simp[Around.under,Code.cUnits,Code.frames,Code.isFrame]
theorem cv.make (r:cv (k+1) A) (C:Addr) (us:List LO) (kw:List (Str×LO)):cv k (A.under (.builtin "type.__call__" ⟨.ref C::us,kw⟩)):=⟨r.hd,by have:=r.dp;rw[pj];lia,by have:=r.un;rw[pq];lia⟩
theorem cv.depth (r:cv k A):A.depth<recursionLimit:=by have:=r.dp;lia
theorem cv.units (r:cv k A):A.units+64<cLine:=by have:=r.un;lia
noncomputable def aC:TA:=fun _ H Q=>Q [] H
noncomputable def ai (ta:TE)(tr:TA):TA:=fun σ H Q=>ta σ H fun x H1=>tr σ H1 fun xs H2=>Q (x::xs) H2
section
theorem aj:PA X [] aC:=fun _ _ _ _ H Q I h=>Kw ⟨[],H,I,.nil,h⟩
theorem ac (ha:PE X e te)(hr:PA X es t)(hs:autoParam (starEach (e::es) X.env=(false,eval e X.env)::starEach es X.env) LW._auto_1):PA X (e::es) (ai te t):=by intro pos ae s σ H Q I h;rw[hs];show wpAny _ _ (spliced ((false,eval e X.env)::backTo pos (starEach es X.env))) _ _ s;refine J8 (bI (ha ae s σ H _ I h) fun u s1 ⟨x,H1,I1,r1,q1⟩=>?_);exact bI (hr pos ae s1 σ H1 _ I1 q1) fun us s2 ⟨xs,H2,I2,r2,q2⟩=>⟨x::xs,H2,I2,.cons r1 r2,q2⟩
def bN (t:TA):TE:=fun σ H Q=>t σ H fun xs H1=>xs.length<=sizeLine/\∀ p,H1 p=none->Q (.ref p) (upd H1 p (.tup xs))
def ce (t:TA):TE:=fun σ H Q=>t σ H fun xs H1=>xs.length<=sizeLine/\∀ p,H1 p=none->Q (.ref p) (upd H1 p (.lst xs))
theorem aT {x1}(h:PA X es t):PE X (.Tuple es x1 pos) (bN t):=by intro ae s σ H Q I hq;refine wpAny_Tuple_spliced (bI (h pos ae s σ H _ I hq) fun us s1 ⟨xs,H1,I1,r,z,q⟩=>⟨by rw[<- r.length];exact z,?_⟩);have hf:H1 s1.heap.objs.size=none:=I1.aO.fresh (Im _);refine⟨.ref s1.heap.objs.size,upd H1 s1.heap.objs.size (.tup xs),I1.laid (t':=s1.toks) (fun b u e=>Ip _ e) (Im _) ?_,rfl,q _ hf⟩;exact⟨z,us,r,⟨_,IG _ rfl,rfl,_,rfl⟩⟩
theorem bp (h:PA X es t):PE X (.List es pos) (ce t):=by intro ae s σ H Q I hq;refine wpAny_List_spliced (bI (h pos ae s σ H _ I hq) fun us s1 ⟨xs,H1,I1,r,z,q⟩=>⟨by rw[<- r.length];exact z,?_⟩);have hf:H1 s1.heap.objs.size=none:=I1.aO.fresh (Im _);refine⟨.ref s1.heap.objs.size,upd H1 s1.heap.objs.size (.lst xs),I1.laid (t':=s1.toks) (fun b u e=>Ip _ e) (Im _) ?_,rfl,q _ hf⟩;exact⟨z,us,0,r,IG _ rfl⟩
end
abbrev Sp:=List V->Hp->VK->XK->Prop
abbrev uc:=List Env->Hp->LL->XK->LO->LL->Prop
structure qk (P:LN) (w:World) (K:LM) (mg:Str->Option LO) (base:Heap) (A:LP) (outer:List Env) (s:LL) (H:Hp):Prop where
 frames:A.frames=some outer
 mod:Mod K mg base
 bs:∀ b o,base.get? b=some o->s.heap.get? b=some o/\H b=none
 tL:base.objs.size<=s.heap.objs.size
 gJ:s.heap.FunFrames base outer
 wu:∀ b∈fX outer,H b=none
 aO:HOk P w H s.heap
 bare:AllBare s.gens
 kt:EF K H
def CE (outer:List Env)(P:LN)(w:World)(H:Hp)(s:LL)(Q:VK)(u:LO)(s':LL):Prop:=∃ v H',s'.os=s.os/\AllBare s'.gens/\Un (fX outer) [] H H' s.heap s'.heap/\HOk P w H' s'.heap/\RelV v u/\Q v H'
def CR (CX:uc)(outer:List Env)(P:LN)(w:World)(H:Hp)(s:LL)(Q:VK)(E:XK)(r:Result)(s':LL):Prop:=
 match r with
 | .ok (.ret u)=>CE outer P w H s Q u s'
 | .ok _=>False
 | .error e=>CX outer H s E e s'
structure bz (P:LN) (w:World) (K:LM) (mg:Str->Option LO) (base:Heap) (CX:uc) (k:Nat) (f:Addr) (fd:FuncData) (ps:List Str) (sp:Sp):Prop where
 len:∀ vs H Q E,sp vs H Q E->vs.length=ps.length
 run:∀(A:LP)(outer:List Env)(s:LL)(H:Hp)(args:Args)(us:List LO)(vs:List V)(Q:VK)(E:XK),cv k A->qk P w K mg base A outer s H->BindsTo s fd args (ps.zip us)->Vals vs us->sp vs H Q E->
  codeAny (model P w) A (.call (.ref f) args) (CR CX outer P w H s Q E) s
theorem bz.imp {P:LN}{w:World}{K:LM}{mg:Str->Option LO}{base:Heap}{CX:uc}(F:bz P w K mg base CX k f fd ps sp)
 (h:∀ vs H Q E,sp' vs H Q E->sp vs H Q E):bz P w K mg base CX k f fd ps sp':=
 ⟨fun vs H Q E q=>F.len vs H Q E (h _ _ _ _ q),fun A outer s H args us vs Q E hr he hb hv hs=>F.run A outer s H args us vs Q E hr he hb hv (h _ _ _ _ hs)⟩
theorem qk.make {P:LN}{w:World}{K:LM}{mg:Str->Option LO}{base:Heap}(e:qk P w K mg base A outer s H)(C:Addr)(us:List LO)(kw:List (Str×LO)) :
 qk P w K mg base (A.under (.builtin "type.__call__" ⟨.ref C::us,kw⟩)) outer s H:=⟨by first|exact e.frames|(simpa[Around.under,Code.envs,Code.isFrame,pushEnvs] using e.frames),e.mod,e.bs,e.tL,e.gJ,e.wu,e.aO,e.bare,e.kt⟩
section
theorem Inv.By (I:Inv X ae σ H s):qk X.prog X.w X.K X.mg X.base X.A X.stack s H:=⟨I.ok.frames,I.ok.mod,I.bs,IV I.ok.tL I.sz,I.stack,I.nC,I.aO,I.bare,I.kt⟩
theorem Inv.after (I:Inv X ae σ H s)(h:CE X.stack X.prog X.w H s Q u s'):EP X ae σ Q u s':=by obtain⟨v,H',os,bare,un,aO,r,q⟩:=h;obtain⟨hh,g,d,t,os'⟩:=s';obtain rfl:os'=s.os:=os;exact⟨v,H',I.call (h':=hh) (g':=g) (d':=d) (t':=t) (ch:=[]) un aO bare (fun b z=>absurd z (by simp)),r,q⟩
end
noncomputable def bC (sp:Sp)(dvs:List V)(E:XK)(t:TA):TE:=fun σ H Q=>t σ H fun vs H1=>sp (vs++dvs) H1 Q E
def dw (C:Addr)(m:Str)(sp:Sp)(dvs:List V)(E:XK)(ta:TE)(t:TA):TE:=fun σ H Q=>ta σ H fun x H1=>∃ a dx fs,x=.ref a/\H1 a=some (.ins C dx fs)/\fs.lookup m=none/\
 t σ H1 fun vs H2=>sp (x::(vs++dvs)) H2 Q E
def qx (C:Addr)(sp:Sp)(dvs:List V)(E:XK)(t:TA):TE:=fun σ H Q=>t σ H fun vs H1=>∀ x dx,H1 x=none->H1 dx=none->dx≠x->
 sp (.ref x::(vs++dvs)) (upd (upd H1 dx (.own x)) x (.ins C dx [])) (fun v H2=>v=.bu/\Q (.ref x) H2) E
def Binds (K:LM)(fd:FuncData)(ps:List Str)(ds:List LO):Prop:=∀(s:LL)(us:List LO),K.In s.heap->(us++ds).length=ps.length->BindsTo s fd ⟨us,[]⟩ (ps.zip (us++ds))
theorem Binds.all {K:LM}(h:∀ us:List LO,us.length=ps.length->bindArgs fd ⟨us,[]⟩=pure (ps.zip us)):Binds K fd ps []:=fun s us _ hl=>by rw[KH]at hl ⊢;exact .of_eq (h us hl)
def d9 (CX:uc)(X:Cx)(E:XK):Prop:=∀(ae:List (Addr×Obj))(σ:St)(H:Hp)(s:LL)(e:LO)(s':LL),Inv X ae σ H s->CX X.stack H s E e s'->X.xe e s'
section
theorem px (F:bz X.prog X.w X.K X.mg X.base CX k f fd ps sp)(hr:cv k X.A)(hb:Binds X.K fd ps ds)(hd:Vals dvs ds)(hx:d9 CX X E)
 (I:Inv X ae σ H s) (r:Vals vs us) (h:sp (vs++dvs) H Q E):wX X (call (.ref f) us) (EP X ae σ Q) X.xe s:=by
 have r2:Vals (vs++dvs) (us++ds):=r.append hd;have hl:(us++ds).length=ps.length:=by rw[<- r2.length];exact F.len _ _ _ _ h
 refine wpAny_call (Lr (F.run X.A X.stack s H ⟨us,[]⟩ (us++ds) (vs++dvs) Q E hr I.By (hb s us I.hV hl) r2 h) fun r s' hq=>?_);cases r with
 |error e=>exact hx ae σ H s e s' I hq
 |ok fl=>
  cases fl with
  |ret u=>exact I.after hq
  |next=>exact False.elim hq
  |brk=>exact False.elim hq
  |cont=>exact False.elim hq
theorem aW (F:bz X.prog X.w X.K X.mg X.base CX k f fd ps sp)(hr:cv k X.A)(hg:Gl X x)(hm:X.mg x=some (.ref f))(hk:PySem.W.keepIn X.K (.ref f)=true)(hb:Binds X.K fd ps ds)(hd:Vals dvs ds)(hx:d9 CX X E)
 (ha:PA X (e::es) t) (hdb:autoParam (dB x) LQ._auto_1) (he:autoParam (sE X e es) LW._auto_1) (hpl:autoParam (bT X pos es) LW._auto_1) :
 PE X (.Call (.Name x p) (e::es) [] pos) (bC sp dvs E t):=by
 intro ae s σ H Q I h;refine JR (gz I hg hm ?_ hdb);refine KI (h₀:=X.base) I.ok.mod.BP hk (bI (ha pos ae s σ H _ I h) fun us s1 ⟨vs,H1,I1,r,q⟩=>⟨I1.hV,?_⟩) he hpl;exact px F hr hb hd hx I1 r q
theorem dC (he:PE X o ta)(c:nv X.K C)(hm:Meth X.K C m f)(F:bz X.prog X.w X.K X.mg X.base CX k f fd ps sp)(hr:cv k X.A)(hb:Binds X.K fd ps ds)(hd:Vals dvs ds)(hx:d9 CX X E)(ha:PA X (e::es) t)
 (hst:autoParam (starEach (e::es) X.env=(false,eval e X.env)::starEach es X.env) LW._auto_1) (hpl:autoParam (bT X pos es) LW._auto_1)
 (ht:autoParam (eval (.Call (.Attribute o m apos) (e::es) [] pos) X.env=(do
   let ov <- eval o X.env
   standAt apos.atName
   let (f,first) <- holding [ov] (getMethod ov m pl)
   callWith pos f first (backTo pos (starEach (e::es) X.env)) (backToKw pos (keywordEach [] X.env)))) LW._auto_1) :
 PE X (.Call (.Attribute o m apos) (e::es) [] pos) (dw C m sp dvs E ta t):=by
 intro ae s σ H Q I h;refine PySem.W.methodCall_KW (pl:=pl) (bI (he ae s σ H _ I h) fun u s1 z=>?_) ht;obtain⟨x,H1,I1,rx,a,dx,fs,rfl,ea,l,q⟩:=z;obtain rfl:u=Value.ref a:=rx;refine jU I1 ea c hm l ?_;refine KI (first:=[.ref a]) (h₀:=X.base) I.ok.mod.BP hm.kp (bI (ha pos ae s1 σ H1 _ I1 q) fun us s2 ⟨vs,H2,I2,r,q2⟩=>⟨I2.hV,?_⟩) hst hpl;exact px (us:=.ref a::us) (vs:=.ref a::vs) F hr hb hd hx I2 (.cons rfl r) q2
theorem jV (he:PE X o ta)(c:nv X.K C)(hm:Meth X.K C m f)(F:bz X.prog X.w X.K X.mg X.base CX k f fd ps sp)(hr:cv k X.A)(hb:Binds X.K fd ps ds)(hd:Vals dvs ds)(hx:d9 CX X E)
 (ht:autoParam (eval (.Call (.Attribute o m apos) [] [] pos) X.env=(do
   let ov <- eval o X.env
   standAt apos.atName
   let (f,first) <- holding [ov] (getMethod ov m pl)
   callWith pos f first (backTo pos (starEach [] X.env)) (backToKw pos (keywordEach [] X.env)))) LW._auto_1) :
 PE X (.Call (.Attribute o m apos) [] [] pos) (dw C m sp dvs E ta aC):=by
 intro ae s σ H Q I h;refine PySem.W.methodCall_KW (pl:=pl) (bI (he ae s σ H _ I h) fun u s1 z=>?_) ht;obtain⟨x,H1,I1,rx,a,dx,fs,rfl,ea,l,q⟩:=z;obtain rfl:u=Value.ref a:=rx;refine jU I1 ea c hm l ?_;exact PySem.W.callWith_K0 (first:=[.ref a]) I1.hV hm.kp (px (us:=[.ref a]) (vs:=[.ref a]) F hr hb hd hx I1 (.cons rfl .nil) q)
structure Mk (K:LM) (C f:Addr):Prop where
 makes:PySem.W.makesIn K C=true
 init:PySem.W.findIn K (.ref C) "__init__"=some (some (.ref f))
 fn:PySem.W.isFn K (.ref f)=true
 kp:PySem.W.keepIn K (.ref C)=true
theorem nQ (M:Mk X.K C f)(F:bz X.prog X.w X.K X.mg X.base CX k f fd ps sp)(hr:cv (k+1) X.A)(hb:Binds X.K fd ps ds)(hd:Vals dvs ds)
 (hx:d9 CX X E) (I:Inv X ae σ H s) (r:Vals vs us)
 (h:∀ x dx,H x=none->H dx=none->dx≠x->sp (.ref x::(vs++dvs)) (upd (upd H dx (.own x)) x (.ins C dx [])) (fun v H2=>v=.bu/\Q (.ref x) H2) E) :
 wX X (call (.ref C) us) (EP X ae σ Q) X.xe s:=by
 have hq:=h (s.heap.objs.size+1) s.heap.objs.size (I.aO.fresh (Nat.le_succ _)) (I.aO.fresh (Im _)) (IN (JU _));have I2:=Inv.made (C:=C) I;have r2:Vals (V.ref (s.heap.objs.size+1)::(vs++dvs)) (Value.ref (s.heap.objs.size+1)::(us++ds)):=.cons rfl (r.append hd);have hl:(Value.ref (s.heap.objs.size+1)::us++ds).length=ps.length:=by have e:=r2.length;rw[F.len _ _ _ _ hq]at e;exact e.symm
 refine wpAny_call (ub (f:=f) I.hV M.makes M.init (Le.mp M.fn) (Lr (F.run _ X.stack _ _ ⟨Value.ref (s.heap.objs.size+1)::us,[]⟩ (Value.ref (s.heap.objs.size+1)::(us++ds)) _ _ E (hr.make C us [])
  (I2.By.make C us []) (hb _ (Value.ref (s.heap.objs.size+1)::us) I2.hV hl) r2 hq) fun r s' hq'=>?_))
 cases r with
 |error e=>exact hx ae σ _ _ e s' I2 hq'
 |ok fl=>
  cases fl with
  |ret u=>obtain⟨v,H',I3,rv,ev,q3⟩:=I2.after hq';subst ev;exact⟨rv,⟨V.ref (s.heap.objs.size+1),H',I3,rfl,q3⟩⟩
  |next=>exact False.elim hq'
  |brk=>exact False.elim hq'
  |cont=>exact False.elim hq'
theorem xg (M:Mk X.K C f)(F:bz X.prog X.w X.K X.mg X.base CX k f fd ps sp)(hr:cv (k+1) X.A)(hg:Gl X x)(hm:X.mg x=some (.ref C))(hb:Binds X.K fd ps ds)(hd:Vals dvs ds)(hx:d9 CX X E)
 (ha:PA X (e::es) t) (hdb:autoParam (dB x) LQ._auto_1) (he:autoParam (sE X e es) LW._auto_1) (hpl:autoParam (bT X pos es) LW._auto_1) :
 PE X (.Call (.Name x p) (e::es) [] pos) (qx C sp dvs E t):=by
 intro ae s σ H Q I h;refine JR (gz I hg hm ?_ hdb);refine KI (h₀:=X.base) I.ok.mod.BP M.kp (bI (ha pos ae s σ H _ I h) fun us s1 ⟨vs,H1,I1,r,q⟩=>⟨I1.hV,?_⟩) he hpl;exact nQ M F hr hb hd hx I1 r q
theorem ud (M:Mk X.K C f)(F:bz X.prog X.w X.K X.mg X.base CX k f fd ps sp)(hr:cv (k+1) X.A)(hg:Gl X x)(hm:X.mg x=some (.ref C))(hb:Binds X.K fd ps ds)(hd:Vals dvs ds)(hx:d9 CX X E)
 (hdb:autoParam (dB x) LQ._auto_1):PE X (.Call (.Name x p) [] [] pos) (qx C sp dvs E aC):=by
 intro ae s σ H Q I h;refine JR (gz I hg hm ?_ hdb);exact PySem.W.callWith_K0 I.hV M.kp (nQ (us:=[]) M F hr hb hd hx I .nil h)
end
def PK (X:Cx)(kws:List Keyword)(t:TA):Prop:=∀(pos:Pos)(ae:List (Addr×Obj))(s:LL)(σ:St)(H:Hp)(Q:List V->Hp->Prop),Inv X ae σ H s->t σ H Q->wpAny (model X.prog X.w) X.A (evalAll ((backToKw pos (keywordEach kws X.env)).map (·.2))) (AP X ae σ Q) X.xe s
section
theorem z7:PK X [] aC:=fun _ _ _ _ H Q I h=>wpAny_evalAll_nil ⟨[],H,I,.nil,h⟩
theorem xh (ha:PE X e te)(hr:PK X kws t):PK X (⟨nm,e,kpos⟩::kws) (ai te t):=by intro pos ae s σ H Q I h;show wpAny _ _ (evalAll ((do let v <- eval e X.env;standAt pos;pure v)::(backToKw pos (keywordEach kws X.env)).map (·.2))) _ _ s;refine wpAny_evalAll_cons (Il (bI (ha ae s σ H _ I h) fun u s1 ⟨x,H1,I1,r1,q1⟩=>Il (wpAny_standAt (Iu ?_))));exact bI (hr pos ae s1 σ H1 _ I1 q1) fun us s2 ⟨xs,H2,I2,r2,q2⟩=>⟨x::xs,H2,I2,.cons r1 r2,q2⟩
end
structure aL (N P:List Str) (sc:Scope):Prop where
 kind:sc.kind=.function
 co:sc.isCoroutine=false
 gen:sc.isGenerator=false
 nd:N.Nodup
 pre:N.take P.length=P
 par:∀ x∈P,sc.names.lookup x=some .local\/sc.names.lookup x=some .cell
 BR:∀ y∈sc.names,y.2≠.free
theorem lG {kindOf:Str->Option NameKind}:∀{binds:List (Str×LO)}{m:Str->Option LO},(∀ v,(x,v)∉binds)->bindL kindOf binds m x=m x
 | [],_,_=>rfl
 |(n,v)::r,m,h=>by
  unfold bindL;rw[lG fun w hw=>h w (Iw _ hw)];split
  .have:x≠n:=by rintro rfl;exact h v Iy
   simp[this]
  .rfl
theorem lH {kindOf:Str->Option NameKind}:∀{binds:List (Str×LO)}{m:Str->Option LO},(∀ v,(x,v)∉binds)->bindC kindOf binds m x=m x
 | [],_,_=>rfl
 |(n,v)::r,m,h=>by
  unfold bindC;rw[lH fun w hw=>h w (Iw _ hw)];split
  .rfl
  .have:x≠n:=by rintro rfl;exact h v Iy
   simp[this]
theorem lI {kindOf:Str->Option NameKind}:∀{P:List Str}{vs:List LO}{i:Nat}{m:Str->Option LO},P.Nodup->P[i]?=some x->vs[i]?=some v->kindOf x=some .local->
 bindL kindOf (P.zip vs) m x=some v
 | [],_,_,_,_,h,_,_=>by simp at h
 |_::_,[],_,_,_,_,h,_=>by simp at h
 |p::P,w::vs,0,m,nd,h1,h2,hk=>by simp at h1 h2;subst h1;subst h2;show bindL kindOf ((p,w)::P.zip vs) m p=_;unfold bindL;rw[lG fun v hv=>(Jq.mp nd).1 (List.of_mem_zip hv).1,IS hk];simp
 |p::P,w::vs,i+1,m,nd,h1,h2,hk=>by show bindL kindOf ((p,w)::P.zip vs) m x=_;unfold bindL;exact lI (i:=i) (Jq.mp nd).2 (by simpa using h1) (by simpa using h2) hk
theorem lJ {kindOf:Str->Option NameKind}:∀{P:List Str}{vs:List LO}{i:Nat}{m:Str->Option LO},P.Nodup->P[i]?=some x->vs[i]?=some v->kindOf x≠some .local->
 bindC kindOf (P.zip vs) m x=some v
 | [],_,_,_,_,h,_,_=>by simp at h
 |_::_,[],_,_,_,_,h,_=>by simp at h
 |p::P,w::vs,0,m,nd,h1,h2,hk=>by simp at h1 h2;subst h1;subst h2;show bindC kindOf ((p,w)::P.zip vs) m p=_;unfold bindC;rw[lH fun v hv=>(Jq.mp nd).1 (List.of_mem_zip hv).1,IK hk];simp
 |p::P,w::vs,i+1,m,nd,h1,h2,hk=>by show bindC kindOf ((p,w)::P.zip vs) m x=_;unfold bindC;exact lJ (i:=i) (Jq.mp nd).2 (by simpa using h1) (by simpa using h2) hk
abbrev nS (n:Nat):List Str:=List.replicate n ""
noncomputable def bc (N:List Str)(vs:List V):St:=vs.map some++List.replicate (N.length-vs.length) none
noncomputable def py (CX:uc)(P:LN)(w:World)(K:LM)(mg:Str->Option LO)(base:Heap)(N:List Str)(qual:Str)(scope:Scope)(f:Addr)(cd:LO)(A:LP)(outer:List Env)(s:LL)(H:Hp)(E:XK):Cx where
 prog:=P
 w:=w
 K:=K
 mg:=mg
 base:=base
 A:=A.deeper (envOfC qual scope s.heap.objs.size f cd)
 N:=N
 s₀:=s
 H₀:=H
 env:=envOfC qual scope s.heap.objs.size f cd
 outer:=outer
 stack:=envOfC qual scope s.heap.objs.size f cd::outer
 ex:=[]
 calm:=true
 fn:=fun _=>true
 pn:=[]
 xe:=fun e s'=>wpAny (model P w) (A.deeper (envOfC qual scope s.heap.objs.size f cd)) (leaving (envOfC qual scope s.heap.objs.size f cd) e) (fun _ s''=>CX outer H s E e s'') (fun e' s''=>CX outer H s E e' s'') s'
theorem nR {sc:Scope}(h:sc.names.lookup x=some .cell):∃ c,(cellsFrom n sc.names []).lookup x=some c:=by have q:=PySem.W.cellsFrom_some sc.names n [] (.inl h);exact Option.isSome_iff_exists.mp q
theorem rG {CX:uc}{P:LN}{w:World}{K:LM}{mg:Str->Option LO}{base:Heap}{N ps:List Str}{qual:Str}{scope:Scope}
 (S:aL N ps scope) (hd:A.handled=none) (e0:qk P w K mg base A outer s H) (hl:vs.length=ps.length) (r:Vals vs us)
 (x:InCallC s s.heap.objs.size (bindL (envOfC qual scope s.heap.objs.size f cd).kindOf (ps.zip us) fun _=>none) (cellsFrom (s.heap.objs.size+1) scope.names []) (bindC (envOfC qual scope s.heap.objs.size f cd).kindOf (ps.zip us) fun _=>none) s1) :
 Inv (py CX P w K mg base N qual scope f cd A outer s H E) [] (bc N vs) H s1:=by
 have hpl:ps.length<=N.length:=by have:=JL List.length S.pre;rw[Jt]at this;lia
 obtain⟨h1,tk,rfl,hk⟩:=x.done;have noA:∀ b:Addr,b∉(py CX P w K mg base N qual scope f cd A outer s H E).ex:=fun b z=>absurd (show b∈([]:List Addr) from z) (by simp);refine⟨⟨e0.mod,S.kind,rfl,rfl,Im _,fun y z c h1 h2=>?_,fun y hy=>?_,fun y c _ h=>?_,fun _=>hd,Around.frames_deeper e0.frames,.inr ⟨rfl,rfl⟩,fun b z=>absurd z (noA b),e0.bs,e0.tL,fun b _ _=>noA b,fun b z=>absurd z (noA b),e0.gJ,e0.wu,e0.kt⟩,
  rfl,e0.bare,Un.kept hk,⟨_,x.toInCall.ns,fun i y v h1 h2 h3=>?_⟩,fun y c h=>⟨_,x.cell y c h⟩,e0.aO.fresh (Im _),fun y c h=>?_,fun p hp=>absurd (show p∈([]:List (Addr×Obj)) from hp) (by simp),e0.aO.kept hk,?_⟩
 .exact name_of_addr x.apart (JN h1) (JN h2)
 .have hy:scope.names.lookup y=some .cell\/scope.names.lookup y=some .free:=hy;rcases hy with hy|hy
  .exact nR hy
  .exact absurd rfl (S.BR _ (JN hy))
 .exact K7 (x.above y c (JN h))
 .have hi:i<vs.length:=by
   grind [bc]
  have ha:vs[i]?=some v:=by grind [bc]
  obtain⟨u,hu,rv⟩:=r.get ha;have hp:ps[i]?=some y:=by rw[<- S.pre,List.getElem?_take_of_lt (by lia)];exact h1
  have ndP:ps.Nodup:=by rw[<- S.pre];exact S.nd.sublist (List.take_sublist _ _)
  refine⟨u,rv,?_⟩;rcases S.par y (IH hp) with k|k
  .exact .inl ⟨k,lI ndP hp hu k⟩
  .obtain⟨c,e⟩:=nR (n:=s.heap.objs.size+1) k;refine .inr ⟨.inl k,c,e,?_⟩;have q:=x.cell y c e;rw[lJ ndP hp hu (by show scope.names.lookup y≠_;rw[k];decide)]at q;exact q
 .exact e0.aO.fresh (K7 (x.above y c (JN h)))
 .unfold bc;show _=N.length;rw[IF,Iq,List.length_replicate];lia
abbrev eQ (Q:VK):Ends:={ nx:=fun _ H'=>Q .bu H',rt:=Q }
theorem uf {CX:uc}{P:LN}{w:World}{K:LM}{mg:Str->Option LO}{base:Heap}{k:Nat}{f:Addr}{name qual:Str}{params:Arguments}{body:List Stmt}{scope:Scope}{dV kV doc pm cdv ct oc:LO}{an od:Option Addr}
 {osl:Array (Option LO)} {N ps:List Str} {sp:Sp} (lk:K.lookup f=some ⟨oc,od,.func (PySem.W.fnOf name qual params body scope dV kV doc pm an cdv ct),osl⟩) (hcd:PySem.W.codeIn K cdv qual=true) (S:aL N ps scope)
 (len:∀ vs H Q E,sp vs H Q E->vs.length=ps.length)
 (hbody:∀(A:LP)(outer:List Env)(s:LL)(H:Hp)(vs:List V)(Q:VK)(E:XK),cv k (A.deeper (envOfC qual scope s.heap.objs.size f cdv))->sp vs H Q E->
   ∃ t,PSs (py CX P w K mg base N qual scope f cdv A outer s H E) body t/\t (eQ Q) (bc N vs) H) :
 bz P w K mg base CX (k+1) f (PySem.W.fnOf name qual params body scope dV kV doc pm an cdv ct) ps sp:=by
 refine⟨len,fun A outer s H args us vs Q E hr e0 hb r hsp=>?_⟩;have hl:=len _ _ _ _ hsp;have KX:K.In s.heap:=e0.mod.BP.keeps fun b o e=>(e0.bs b o e).1;have lim:s.heap.NoLimit:=e0.mod.nolimit.keeps fun b o e=>(e0.bs b o e).1;have hkind:∀ y∈ps.zip us,scope.names.lookup y.1=some .local\/(scope.names.lookup y.1=some .cell/\((cellsFrom (s.heap.objs.size+1) scope.names []).lookup y.1).isSome=true):=fun⟨n,v⟩ hy=>by
  rcases S.par n (List.of_mem_zip hy).1 with q|q
  .exact .inl q
  .exact .inr ⟨q,PySem.W.cellsFrom_some _ _ _ (.inl q)⟩
 refine codeAny_call_function hr.depth (KX _ _ lk) rfl S.co S.gen rfl (PySem.W.codeRec_of KX hcd) (hb _ _ _ _ ?_);refine wpAny_newFunctionEnv_cells S.kind hkind fun env he s1 x=>?_;subst he;refine⟨lim.keeps x.toInCall.keep,codeAny_func ?_⟩;obtain⟨t,ht,hq⟩:=hbody A outer s H vs Q E (hr.deeper _) hsp;have I:Inv (py CX P w K mg base N qual scope f cdv A outer s H E) [] (bc N vs) H s1:=rG S hr.hd e0 hl r x;refine JC (ht [] s1 (bc N vs) H _ I hq) (fun fl s' hs=>?_) fun e s' hs=>hs;have fin:∀{σ':St}{H':Hp}{v:V}{u:LO},Inv (py CX P w K mg base N qual scope f cdv A outer s H E) [] σ' H' s'->RelV v u->Q v H'->CE outer P w H s Q u s':=fun{σ' H' v u} J rv q=>⟨v,H',J.os,J.bare,J.base,J.aO,rv,q⟩;cases fl with
 |ret u=>obtain⟨v,σ',H',J,rv,q⟩:=hs;exact fin J rv q
 |next=>obtain⟨σ',H',J,q⟩:=hs;exact fin (v:=V.bu) (u:=Value.none) J rfl q
 |brk=>obtain⟨_,_,_,q⟩:=hs;exact False.elim q
 |cont=>obtain⟨_,_,_,q⟩:=hs;exact False.elim q
section
variable {X:Cx}{x:Str}{p pos:Pos}{e:Expr}{es:List Expr}{t:TA}{id T:String}{r:List V->Hp->VK->Prop}
noncomputable def g7 (r:List V->Hp->VK->Prop)(t:TA):TE:=fun σ H Q=>t σ H fun vs H1=>r vs H1 Q
theorem aR (hc:cK X (.builtin id) r) (hg:Gl X x) (hm:X.mg x=none) (hv:bootBuiltins x=some (.builtin id)) (ha:PA X (e::es) t) (hn:autoParam (x≠"__name__") LQ._auto_1) (hdb:autoParam (dB x) LQ._auto_1)
 (he:autoParam (starEach (e::es) X.env=(false,eval e X.env)::starEach es X.env) LW._auto_1) (hpl:autoParam (bT X pos es) LW._auto_1):PE X (.Call (.Name x p) (e::es) [] pos) (g7 r t):=by
 intro ae s σ H Q I h;refine JR (fq I hg hm hv ?_ hn hdb);exact PyProof.Rows.callWith_builtin1 (bI (ha pos ae s σ H _ I h) fun us s1 ⟨vs,H1,I1,r1,q1⟩=>hc ae s1 σ H1 vs us Q I1 r1 q1) he hpl
theorem eY (hc:cK X (.type T) r) (hg:Gl X x) (hm:X.mg x=none) (hv:bootBuiltins x=some (.type T)) (ha:PA X (e::es) t) (hn:autoParam (x≠"__name__") LQ._auto_1) (hdb:autoParam (dB x) LQ._auto_1)
 (he:autoParam (starEach (e::es) X.env=(false,eval e X.env)::starEach es X.env) LW._auto_1) (hpl:autoParam (bT X pos es) LW._auto_1):PE X (.Call (.Name x p) (e::es) [] pos) (g7 r t):=by
 intro ae s σ H Q I h;refine JR (fq I hg hm hv ?_ hn hdb);exact JA (bI (ha pos ae s σ H _ I h) fun us s1 ⟨vs,H1,I1,r1,q1⟩=>hc ae s1 σ H1 vs us Q I1 r1 q1) he hpl
end
end L2
namespace HT
open PySem PyProof.Rows
noncomputable def lexLt:List Int->List Int->Bool
 | [],[]=>false
 | [],_::_=>true
 |_::_,[]=>false
 |x::xs,y::ys=>if x=y then lexLt xs ys else decide (x<y)
theorem pz (x y:Int)(xs ys:List Int):lexLt (x::xs) (y::ys)=if x=y then lexLt xs ys else decide (x<y):=rfl
theorem kY:lexLt [] []=false:=rfl
theorem jW (y:Int)(ys:List Int):lexLt [] (y::ys)=true:=rfl
theorem jX (x:Int)(xs:List Int):lexLt (x::xs) []=false:=rfl
theorem ug (A:LP)(s:LL)(a:Int)(t:Tok)(c:Int)(u:Tok):∃ e,SeqAt.EqAt A s (.int a t) (.int c u) e/\(e=true↔a=c):=⟨(a==c),SeqAt.EqAt.int_int a t c u,by simp⟩
theorem rcLt_int (A:LP)(s:LL)(a:Int)(t:Tok)(c:Int)(u:Tok)(prog:LN)(w:World)(E:LO->LL->Prop)(Q:LO->LL->Prop)(h:Q (.bool (decide (a<c))) s) :
 wpAny (model prog w) A (richCompare .Lt (.int a t) (.int c u)) Q E s:=
 (PyProof.Rows.lt_int h:wpAny (model prog w) A (compareOp .Lt (.int a t) (.int c u)) Q E s)
section
open PySem.SeqAt
open PySem.AutoSeq1 (wpAny_loadPart')
open PySem.MeetsSeq PySem.MeetsSeq2 PySem.MeetsSeq3
theorem kZ (l b:Addr)(items items2:Array LO)(n n2:Nat)(dd dd2:Option Addr)(sl sl2:Array (Option LO))(ns ms:List Int)(hi:IntsAre items.toList ns)(hj:IntsAre items2.toList ms) :
 Meets (Builtin.«tuple.__lt__» ⟨[.ref l,.ref b],[]⟩)
  (fun _ R s=>s.heap.get? l=some { cls:=.type "tuple",dict:=dd,data:=.seq items n,slots:=sl }/\s.heap.get? b=some { cls:=.type "tuple",dict:=dd2,data:=.seq items2 n2,slots:=sl2 }/\
    R (.ok (.ret (.bool (lexLt ns ms)))) s):=
 .of_wp fun prog w A R s h=>by
  obtain⟨hp,g,d,tk,os⟩:=s;obtain⟨hl,hb,h⟩:=h;have f2:=AutoSeq1.sub_tuple_tuple;have z1:items.size=ns.length:=by rw[<- hi.length];simp
  have z2:items2.size=ms.length:=by rw[<- hj.length];simp
  wp_walk using wpAny_loadPart' hl,wpAny_loadPart' hb,wpAny_forIn_list _ (fun rest b s'=>b.1=none/\s'=⟨hp,g,d,tk,os⟩/\∃(vs ws:List LO)(ns' ms':List Int),rest=vs.zip ws/\
   IntsAre vs ns'/\IntsAre ws ms'/\ns'.length+items2.size=ms'.length+items.size/\R (.ok (.ret (.bool (lexLt ns' ms')))) ⟨hp,g,d,tk,os⟩) _
  case turn=>
   rintro⟨y,x⟩ rest b s' ⟨hb',rfl,vs,ws,ns',ms',hz,hvi,hwi,bH,hR⟩;cases hvi with
   |nil=>rw[List.zip_nil_left]at hz;cases hz
   |cons a t hvi'=>
    cases hwi with
    |nil=>rw[List.zip_nil_right]at hz;cases hz
    |cons c u hwi'=>
     rw[List.zip_cons_cons]at hz;injection hz with hyx hrest;injection hyx with hy hx;subst hy hx;rw[pz]at hR;simp only[IM]at bH;obtain⟨e,he,hiff⟩:=ug A.in1 ⟨hp,g,d,tk,os⟩ a t c u;refine Il (he prog w _ _ ?_);cases e with
     |true=>
      rw[IS (hiff.mp rfl)]at hR
      wp_walk
      exact⟨rfl,rfl,_,_,_,_,hrest,hvi',hwi',by lia,hR⟩
     |false=>
      rw[IK (fun q=>absurd (hiff.mpr q) IX)]at hR;have hri:=rcLt_int A.in1 ⟨hp,g,d,tk,os⟩ a t c u prog w
      wp_walk using hri
      exact⟨_,rfl,by simpa using hR⟩
  case fin=>
   rintro⟨b1,b2⟩ s' ⟨hb',rfl,vs,ws,ns',ms',hz,hvi,hwi,bH,hR⟩;simp only at hb';subst hb';have hv:lexLt ns' ms'=decide (items.size<items2.size):=by
    cases hvi with
    |nil=>
     cases hwi with
     |nil=>simp only[JZ]at bH;rw[kY];exact(IQ (by lia)).symm
     |cons c u hw=>simp only[JZ,IM]at bH;rw[jW];exact(IJ (by lia)).symm
    |cons a t hv=>
     cases hwi with
     |nil=>simp only[JZ,IM]at bH;rw[jX];exact(IQ (by lia)).symm
     |cons c u hw=>rw[List.zip_cons_cons]at hz;cases hz
   rw[hv]at hR
   wp_walk
   exact⟨_,rfl,by simpa[Builtin.Tuple.tupleCompareSizes] using hR⟩
  case h=>exact⟨rfl,rfl,items.toList,items2.toList,ns,ms,rfl,hi,hj,by lia,h⟩
end
section
theorem lt_tupInts (hl:IsTup s.heap l items)(hb:IsTup s.heap b items2)(hi:IntsAre items.toList ns)(hj:IntsAre items2.toList ms)
 (hu:A.units<cLine) (h:Q (.bool (lexLt ns ms)) s):wpAny (model prog w) A (compareOp .Lt (.ref l) (.ref b)) Q E s:=by
 obtain⟨⟨cls,dd,data,sl⟩,ho,hc,n,hd⟩:=id hl;obtain⟨⟨cls2,dd2,data2,sl2⟩,ho2,hc2,n2,hd2⟩:=id hb;simp only at hc hd hc2 hd2;subst hc hd hc2 hd2;exact richCompare_meets_room (op:=.Lt) ⟨_,ho,rfl⟩ ⟨_,ho2,rfl⟩ PySem.F.slot_tuple_lt PySem.F.entry_tuple_lt (PySem.F.args_tuple_lt_2 _ _) (kZ l b items items2 n n2 dd dd2 sl sl2 ns ms hi hj)
  ⟨ho,ho2,show Value.bool (lexLt ns ms)≠Value.notImplemented/\Q (.bool (lexLt ns ms)) s from⟨(fun x=>nomatch x),h⟩⟩ hu
noncomputable def sIx (n d:Nat):Option Int->Nat
 |none=>d
 |some v=>if v<0 then (v+(n:Int)).toNat else min v.toNat n
theorem sIx_nat (n d k:Nat):sIx n d (some (k:Int))=min k n:=by show(if (k:Int)<0 then ((k:Int)+(n:Int)).toNat else min (k:Int).toNat n)=min k n;rw[IK (by lia),Ly]
end
end HT
namespace L2
open PySem PySem.Spec PyProof.Rows
abbrev TO:=St->Hp->(Option Int->Hp->Prop)->Prop
def PO (X:Cx)(e:Option Expr)(t:TO):Prop:=
 ∀(ae:List (Addr×Obj))(s:LL)(σ:St)(H:Hp)(Q:Option Int->Hp->Prop),Inv X ae σ H s->t σ H Q->
  wpAny (model X.prog X.w) X.A (evalPart e X.env) (fun u s'=>∃ o H',Inv X ae σ H' s'/\IsPart u o/\Q o H') X.xe s
noncomputable def gA:TO:=fun _ H Q=>Q none H
noncomputable def jm (t:TE):TO:=fun σ H Q=>t σ H fun x H1=>∃ i,x=.int i/\Q (some i) H1
theorem jY:∀{us:List LO},Vals (ns.map V.int) us->IntsAre us ns:=by
 induction ns with
 |nil=>intro us r;rw[Ku]at r;cases r;exact .nil
 |cons n ns ih=>
  intro us r;rw[II]at r;cases r with
  |cons r1 r2=>obtain⟨t,e⟩:=r1;subst e;exact .cons n t (ih r2)
section
variable {X:Cx}{e:Expr}{te:TE}{lo hi:Option Expr}{tl th:TO}{pos p2:Pos}
theorem ic:PO X none gA:=by intro ae s σ H Q I h;rw[evalPart_none];exact Iu ⟨none,H,I,.none,h⟩
theorem fw (h:PE X e te):PO X (some e) (jm te):=by intro ae s σ H Q I hw;rw[evalPart_some];refine bI (h ae s σ H _ I hw) fun u s1 ⟨x,H1,I1,r1,q1⟩=>?_;obtain⟨i,rfl,q⟩:=q1;obtain⟨t,rfl⟩:=r1;exact⟨some i,H1,I1,.int i t,q⟩
def Gj (X:Cx)(r:V->Option Int->Option Int->Hp->VK->Prop):Prop:=
 ∀(ae:List (Addr×Obj))(s:LL)(σ:St)(H:Hp)(x:V)(v vl vu:LO)(lo hi:Option Int)(sl:Addr)(Q:VK),Inv X ae σ H s->RelV x v->s.heap.IsSliceOf sl vl vu .none->IsPart vl lo->IsPart vu hi->r x lo hi H Q->
  ∃ T id,typeLookup (.type T) "__getitem__"=pure (some (.builtin id))/\s.TypeIs v T/\wpAny (model X.prog X.w) X.A (getItem v (.ref sl)) (EP X ae σ Q) X.xe s
noncomputable def yX (r:V->Option Int->Option Int->Hp->VK->Prop)(te:TE)(tl th:TO):TE:=fun σ H Q=>te σ H fun x H1=>tl σ H1 fun l H2=>th σ H2 fun u H3=>r x l u H3 Q
theorem eZ (hr:Gj X r)(he:PE X e te)(hl:PO X lo tl)(hu:PO X hi th):PE X (.Subscript e (.Slice lo hi none p2) pos) (yX r te tl th):=by intro ae s σ H Q I h;refine Subscript_ (bI (he ae s σ H _ I h) fun v s1 ⟨x,H1,I1,r1,q1⟩=>?_);refine wpAny_Slice (bI (hl ae s1 σ H1 _ I1 q1) fun vl s2 ⟨l,H2,I2,pl,q2⟩=>bI (hu ae s2 σ H2 _ I2 q2) fun vu s3 ⟨u,H3,I3,pu,q3⟩=>?_);rw[evalPart_none];refine Iu ?_;have I4:Inv X ae σ H3 { s3 with heap:=s3.heap.push { cls:=.type "slice",data:=.fields #[vl,vu,.none] } }:=I3.kept (t':=s3.toks) fun b ob q=>Ip _ q;obtain⟨T,id,hT,ht,hg⟩:=hr ae { s3 with heap:=s3.heap.push { cls:=.type "slice",data:=.fields #[vl,vu,.none] } } σ H3 x v vl vu l u s3.heap.objs.size Q I4 r1 (Heap.IsSliceOf.new ..) pl pu q3;show wX X (subscriptTail e (.Slice lo hi none p2) v (.ref s3.heap.objs.size)) (EP X ae σ Q) X.xe { s3 with heap:=s3.heap.push { cls:=.type "slice",data:=.fields #[vl,vu,.none] } };exact tail_any (ops:=[.ref s3.heap.objs.size,v]) ht hT hg (by with_unfolding_all rfl)
def iZ (xs:List V)(lo hi:Option Int):List V:=(xs.drop (HT.sIx xs.length 0 lo)).take (HT.sIx xs.length xs.length hi-HT.sIx xs.length 0 lo)
theorem nT (xs:List V)(lo hi:Option Int):(iZ xs lo hi).length<=xs.length:=by unfold iZ;rw[Jt,Ko];lia
end
noncomputable def z8 (n:Nat)(i:Int):Option Nat:=if 0<=i then (if i<n then some i.toNat else none) else if -(n:Int)<=i then some (i+n).toNat else none
def rH {α:Type}(xs:List α)(i:Int):Option α:=(z8 xs.length i).bind fun j=>xs[j]?
theorem xj (h:z8 n i=some j):seqIndex? i n=some j/\j<n/\-(n:Int)<=i/\i<n:=by
 unfold z8 at h;by_cases h0:0<=i
 .rw[IS h0]at h;by_cases h1:i<n
  .rw[IS h1]at h;have e:i.toNat=j:=IU h;exact⟨by rw[seqIndex_of h0 h1,e],by lia,by lia,h1⟩
  .rw[IK h1]at h;cases h
 .rw[IK h0]at h;by_cases h1:-(n:Int)<=i
  .rw[IS h1]at h;have e:(i+n).toNat=j:=IU h;exact⟨by rw[seqIndex_neg (by lia) h1,e],by lia,h1,by lia⟩
  .rw[IK h1]at h;cases h
theorem qy {α:Type}{xs:List α}{i:Int}{v:α}(h:rH xs i=some v):∃ j,seqIndex? i xs.length=some j/\xs[j]?=some v/\j<xs.length/\-(xs.length:Int)<=i/\i<xs.length:=by
 unfold rH at h;cases e:z8 xs.length i with
 |none=>rw[e]at h;cases h
 |some j=>rw[e]at h;obtain⟨h1,h2,h3,h4⟩:=xj e;exact⟨j,h1,h,h2,h3,h4⟩
theorem ie {α:Type}{xs:List α}{j:Nat}{v:α}(h:xs[j]?=some v):rH xs (j:Int)=some v:=by grind [z8,rH]
def xk (b:Expr):Prop:=∀ o i,subscripted b false o i=operate [o,i] (getItem o i)
def EN (X:Cx)(r:R2):Prop:=
 ∀(value slice:Expr)(ae:List (Addr×Obj))(s:LL)(σ:St)(H:Hp)(x y:V)(v u:LO)(Q:VK),Inv X ae σ H s->RelV x v->RelV y u->r x y H Q->
  subscripted slice false v u=operate [v,u] (getItem v u)->wpAny (model X.prog X.w) X.A (subscriptTail value slice v u) (EP X ae σ Q) X.xe s
def z9 (X:Cx)(id:String)(r:V->List V->Hp->VK->Prop):Prop:=
 ∀(ae:List (Addr×Obj))(s:LL)(σ:St)(H:Hp)(x:V)(xs:List V)(v:LO)(us:List LO)(Q:VK),Inv X ae σ H s->RelV x v->Vals xs us->r x xs H Q->
  wpAny (model X.prog X.w) X.A (call (.builtin id) (v::us)) (EP X ae σ Q) X.xe s
section
variable {X:Cx}
theorem aF (hr:EN X r)(ha:PE X a ta)(hb:PE X b tb)(hs:xk b):PE X (.Subscript a b pos) (bn r ta tb):=by intro ae s σ H Q I h;exact Subscript_ (zX ha hb I h fun v u s2 x y H2 I2 rx ry q=>hr a b ae s2 σ H2 x y v u Q I2 rx ry q (hs _ _))
def jx (K:LM):R2:=fun x y H Q=>∃ p xs i v,x=.ref p/\y=.int i/\SqL K H p xs/\rH xs i=some v/\Q v H
def ig (K:LM):R2:=fun x y H Q=>∃ p xs i v,x=.ref p/\y=.int i/\SqT K H p xs/\rH xs i=some v/\Q v H
theorem cT:EN X (jx X.K):=by
 intro value slice ae s σ H x y v u Q I rx ry h hs;obtain⟨p,xs,i,z,rfl,rfl,hq,he,q⟩:=h;cases rx;obtain⟨t,rfl⟩:=ry;obtain⟨its,r,pl,hz⟩:=I.list hq;obtain⟨j,h1,h2,h3,h4,h5⟩:=qy he;obtain⟨w,ew,rw'⟩:=r.get h2;have hl:=r.length;have hn:=mj;have fin:EP X ae σ Q w s:=⟨z,H,I,rw',q⟩;by_cases h0:0<=i
 .have hj:i.toNat=j:=by rw[seqIndex_of h0 h5]at h1;exact IU h1
  exact item_listR pl.isList h0 (by lia) (by rw[hj];simpa using ew) fin hs
 .have hj:(i+(its.toArray.size:Int)).toNat=j:=by rw[seqIndex_neg (by lia) h4]at h1;rw[IB,<- hl];exact IU h1
  exact subscriptTail_builtinR (x:=w) pl.isList.typeIs slot_list_getitem.lookup
   (wpAny_getItem_list_neg (Q:=fun r s'=>r=w/\EP X ae σ Q r s') pl.isList (by lia) (by rw[IB]<;>lia) (by lia) (by rw[hj];simpa using ew) ⟨rfl,fin⟩) hs
theorem aD:EN X (ig X.K):=by
 intro value slice ae s σ H x y v u Q I rx ry h hs;obtain⟨p,xs,i,z,rfl,rfl,hq,he,q⟩:=h;cases rx;obtain⟨t,rfl⟩:=ry;obtain⟨its,r,pl,hz⟩:=I.tuple hq;obtain⟨j,h1,h2,h3,h4,h5⟩:=qy he;obtain⟨w,ew,rw'⟩:=r.get h2;have hl:=r.length;have hn:=mj;have fin:EP X ae σ Q w s:=⟨z,H,I,rw',q⟩;exact subscriptTail_builtinR (x:=w) pl.typeIs slot_tuple_getitem.lookup
  (getItem_tuple (j:=j) (Q:=fun r s'=>r=w/\EP X ae σ Q r s') pl (by lia) (by lia) (by rw[IB,<- hl];exact h1) (by simpa using ew) ⟨rfl,fin⟩) hs
theorem mn (lo hi:Option Int)(n:Nat):(sliceBounds lo hi none n).1=((HT.sIx n 0 lo:Nat):Int)/\(sliceBounds lo hi none n).2.1=((HT.sIx n n hi:Nat):Int)/\(sliceBounds lo hi none n).2.2=1:=by
 refine⟨?_,?_,rfl⟩
 .cases lo with
  |none=>simp[sliceBounds,HT.sIx]
  |some i=>
   simp only[sliceBounds,HT.sIx,Option.getD_none,show(1:Int)>0 by decide,LJ]
   grind
 .cases hi with
  |none=>simp[sliceBounds,HT.sIx]
  |some i=>
   simp only[sliceBounds,HT.sIx,Option.getD_none,show(1:Int)>0 by decide,LJ]
   grind
theorem k8 (its:List LO)(lo hi:Option Int):slicePick its.toArray lo hi none=((its.drop (HT.sIx its.length 0 lo)).take (HT.sIx its.length its.length hi-HT.sIx its.length 0 lo)).toArray:=by obtain⟨h1,h2,h3⟩:=mn lo hi its.toArray.size;unfold slicePick;rw[h1,h2,h3];simp only[sliceRange_one,pick_run,IB]<;>rfl
def pA (K:LM):V->Option Int->Option Int->Hp->VK->Prop:=fun x lo hi H Q=>∃ a xs,x=.ref a/\SqL K H a xs/\∀ p,H p=none->Q (.ref p) (upd H p (.lst (iZ xs lo hi)))
theorem gB:Gj X (pA X.K):=by intro ae s σ H x v vl vu lo hi sl Q I rx hs pl pu h;obtain⟨a,xs,rfl,hx,q⟩:=h;cases rx;obtain⟨its,r,ht,hz⟩:=I.list hx;have bH:=r.length;refine⟨"list",_,slot_list_getitem.lookup,ht.isList.typeIs,?_⟩;refine wpAny_getItem_list_slice ht.isList hs pl pu .none (by simp) ?_ (by rw[IB]<;>lia);rw[k8,<- bH];refine⟨.ref s.heap.objs.size,_,I.laid (t':=s.toks) (o:=.lst (iZ xs lo hi)) (fun b ob q=>Ip _ q) (Im _) ?_,rfl,q _ (I.aO.fresh (Im _))⟩;exact⟨IV (nT xs lo hi) hz,_,0,(r.drop (HT.sIx xs.length 0 lo)).take (HT.sIx xs.length xs.length hi-HT.sIx xs.length 0 lo),IG _ rfl⟩
theorem mq:cK X (.builtin "len") (fun xs H Q=>∃ p ys,xs=[.ref p]/\(SqL X.K H p ys\/SqT X.K H p ys)/\Q (.int ys.length) H):=by
 intro ae s σ H xs us Q I r h;obtain⟨p,ys,rfl,hq,q⟩:=h;obtain⟨u,rfl,rx⟩:=eS r;cases rx;have hn:=mj;rcases hq with hq|hq
 .obtain⟨its,r',pl,hz⟩:=I.list hq;have bH:=r'.length;exact Calls.call_len_list pl.isList (by simp only[IB]<;>lia) ⟨.int ys.length,H,I.tok _,⟨s.toks+1,by rw[IB,bH]⟩,q⟩
 .obtain⟨its,r',pl,hz⟩:=I.tuple hq;have bH:=r'.length;exact len_tuple pl (by simp only[IB]<;>lia) ⟨.int ys.length,H,I.tok _,⟨s.toks+1,by rw[IB,bH]⟩,q⟩
theorem mw:cK X (.type "list") (fun xs H Q=>∃ p ys,xs=[.ref p]/\(SqL X.K H p ys\/SqT X.K H p ys)/\∀ l,H l=none->Q (.ref l) (upd H l (.lst ys))):=by
 intro ae s σ H xs us Q I r h;obtain⟨p,ys,rfl,hq,q⟩:=h;obtain⟨u,rfl,rx⟩:=eS r;cases rx;have fin:∀(its:List LO),Vals ys its->ys.length<=sizeLine->∀(h':Heap)(c':Nat),(∀ b o',s.heap.get? b=some o'->h'.get? b=some o')->
  h'.get? s.heap.objs.size=some { cls:=.type "list",dict:=none,data:=.seq its.toArray c',slots:=#[] }->EP X ae σ Q (.ref s.heap.objs.size) { s with heap:=h' }:=fun its r' hz h' c' kp e=>
  ⟨.ref s.heap.objs.size,_,I.laid (t':=s.toks) kp (Im _) (show ObjOk X.prog X.w _ h' _ (.lst ys) from⟨hz,its,c',r',e⟩),rfl,q _ (I.aO.fresh (Im _))⟩
 rcases hq with hq|hq
 .obtain⟨its,r',pl,hz⟩:=I.list hq;have bH:=r'.length;obtain⟨o,ho,hc,n,hd⟩:=pl.isList;exact call_list_seq p (.inl rfl) ho hc hd (fun h' c' kp e=>fin its r' hz h' c' kp e) (by simp only[IB]<;>lia)
 .obtain⟨its,r',pl,hz⟩:=I.tuple hq;have bH:=r'.length;obtain⟨o,ho,hc,n,hd⟩:=pl;exact call_list_seq p (.inr rfl) ho hc hd (fun h' c' kp e=>fin its r' hz h' c' kp e) (by simp only[IB]<;>lia)
def B_ (K:LM)(T:String)(x:V)(H:Hp):Prop:=match x with
 | .str _=>T="str"
 | .int _=>T="int"
 | .ref p=>(T="list"/\∃ xs,SqL K H p xs)\/(T="tuple"/\∃ o,K.lookup p=some o/\o.cls=.type "tuple"/\o.dict=none)\/
  (T="dict"/\((∃ kvs,H p=some (.dK kvs))\/∃ kvs,H p=some (.dT kvs)))\/(T="set"/\∃ S n,H p=some (.set S n))
 |_=>False
theorem uh (I:Inv X ae σ H s)(r:RelV x v)(ty:B_ X.K T x H) :
 s.TypeIs v T/\∀ a,v=.ref a->∃ ob,s.heap.get? a=some ob/\ob.dict=none:=by
 cases x with
 |str z=>obtain⟨t,rfl⟩:=r;cases (show T="str" from ty);exact⟨typeIs_str s z t,fun _ e=>nomatch e⟩
 |int i=>obtain⟨t,rfl⟩:=r;cases (show T="int" from ty);exact⟨typeIs_int s i t,fun _ e=>nomatch e⟩
 |ref p=>
  cases r;rcases ty with⟨rfl,xs,hq⟩|⟨rfl,o,hk,hc,hd⟩|⟨rfl,hk⟩|⟨rfl,S,n,hk⟩
  .obtain⟨its,_,pl,_⟩:=I.list hq;refine⟨pl.isList.typeIs,fun a e=>?_⟩;cases e;obtain⟨o,n,e,c,hd,_⟩:=pl;exact⟨o,e,hd⟩
  .refine⟨⟨o,I.hV p o hk,hc⟩,fun a e=>?_⟩;cases e;exact⟨o,I.hV _ o hk,hd⟩
  .have z:∃ o,s.heap.get? p=some o/\o.ExactDict:=by
    rcases hk with⟨kvs,hk⟩|⟨kvs,hk⟩
    .obtain⟨_,_,_,_,o,_,_,e,ex,_⟩:=I.aO p _ hk;exact⟨o,e,ex⟩
    .obtain⟨_,_,_,_,o,_,_,e,ex,_⟩:=I.aO p _ hk;exact⟨o,e,ex⟩
   obtain⟨o,e,ex⟩:=z;refine⟨⟨o,e,ex.1⟩,fun a e2=>?_⟩;cases e2;exact⟨o,e,ex.2.1⟩
  .obtain⟨o,_,_,_,e,ex,_⟩:=I.aO p _ hk;refine⟨⟨o,e,ex.1⟩,fun a e2=>?_⟩;cases e2;exact⟨o,e,ex.2.1⟩
 |_=>exact False.elim ty
noncomputable def xm (K:LM)(T:String)(r:V->List V->Hp->VK->Prop)(to:TE):TE:=fun σ H Q=>to σ H fun x H1=>B_ K T x H1/\r x [] H1 Q
noncomputable def qz (K:LM)(T:String)(r:V->List V->Hp->VK->Prop)(to:TE)(t:TA):TE:=fun σ H Q=>to σ H fun x H1=>B_ K T x H1/\t σ H1 fun xs H2=>r x xs H2 Q
variable {o e:Expr}{es:List Expr}{to:TE}{t:TA}{name:Str}{apos cpos:Pos}{T id:String}{r:V->List V->Hp->VK->Prop}
theorem pB (pa:PlainAttrs T) (slot:Slot T name id) (hty:typeOf (.builtin id)=pure (.type "method_descriptor")) (hm:z9 X id r) (ho:PE X o to)
 (hbase:autoParam (attributeBase o name X.env (eval o X.env)=eval o X.env) LW._auto_1) (hline:autoParam ((apos.endLine==cpos.line)=true) LW._auto_1):PE X (.Call (.Attribute o name apos) [] [] cpos) (xm X.K T r to):=by
 intro ae s σ H Q I h;refine KJ hbase hline (bI (ho ae s σ H _ I h) fun v s1 ⟨x,H1,I1,r1,ty,q1⟩=>?_);obtain⟨h1,h2⟩:=uh I1 r1 ty;exact⟨T,id,pa,slot,hty,h1,h2,JM rfl (PySem.evalArgs_none (hm ae s1 σ H1 x [] v [] Q I1 r1 .nil q1))⟩
theorem cL (pa:PlainAttrs T) (slot:Slot T name id) (hty:typeOf (.builtin id)=pure (.type "method_descriptor")) (hm:z9 X id r) (ho:PE X o to) (ha:PA X (e::es) t)
 (hbase:autoParam (attributeBase o name X.env (eval o X.env)=eval o X.env) LW._auto_1)
 (hfew:autoParam (((backTo cpos (starEach (e::es) X.env)).all (fun x=>!x.1)&&(backToKw cpos (keywordEach [] X.env)).all (fun x=>x.1.isSome)
   && decide ((e::es).length+([]:List Keyword).length+(if ([]:List Keyword).isEmpty then 0 else 1)<30))=true) LW._auto_1)
 (hline:autoParam ((apos.endLine==cpos.line)=true) LW._auto_1) (hs:autoParam (starEach (e::es) X.env=(false,eval e X.env)::starEach es X.env) LW._auto_1) (hplain:autoParam (bT X cpos es) LW._auto_1) :
 PE X (.Call (.Attribute o name apos) (e::es) [] cpos) (qz X.K T r to t):=by
 intro ae s σ H Q I h;refine wpAny_Call_method_late hbase hfew hline rfl (bI (ho ae s σ H _ I h) fun v s1 ⟨x,H1,I1,r1,ty,q1⟩=>?_);obtain⟨h1,h2⟩:=uh I1 r1 ty;refine⟨T,id,pa,slot,hty,h1,h2,?_⟩;have hA:=ha cpos ae s1 σ H1 _ I1 q1;rw[hs]at hA ⊢;refine JM (by show(false || (backTo cpos (starEach es X.env)).any (·.1))=false;rw[hplain]<;>rfl) (Ke ?_);exact bI hA fun us s2 ⟨vs,H2,I2,r2,q2⟩=>hm ae s2 σ H2 x vs v us Q I2 r1 r2 q2
end
def EO (X:Cx)(id:String)(r:V->List V->Hp->VK->Prop):Prop:=
 ∀(ae:List (Addr×Obj))(s:LL)(σ:St)(H:Hp)(x:V)(xs:List V)(v:LO)(us:List LO)(Q:VK),Inv X ae σ H s->RelV x v->Vals xs us->r x xs H Q->
  wpAny (model X.prog X.w) X.A (call (.builtin id) (v::us)) (EP X ae σ Q) X.xe s
theorem Vals.one {x:V}{us:List LO}(h:Vals [x] us):∃ u,us=[u]/\RelV x u:=eS h
theorem Vals.zero:∀{us:List LO},Vals [] us->us=[]
 |_,.nil=>rfl
theorem Vals.dropLast (h:Vals xs us):Vals xs.dropLast us.dropLast:=by
 induction h with
 |nil=>exact .nil
 |cons r t ih=>
  cases t with
  |nil=>exact .nil
  |cons q t'=>exact .cons r ih
theorem pC {α:Type}(l:List α):l.eraseIdx (l.length-1)=l.dropLast:=by
 induction l with
 |nil=>rfl
 |cons a r ih=>
  cases r with
  |nil=>rfl
  |cons b r=>
   have e:(a::b::r).length-1=((b::r).length-1)+1:=by have h1:(a::b::r).length=r.length+2:=rfl;have h2:(b::r).length=r.length+1:=rfl;lia
   rw[e,List.eraseIdx_cons_succ,ih]
   all_goals rfl
section
theorem Inv.BH {its its':List LO}{f:Array LO->Array LO}(I:Inv X ae σ H s)(hH:H l=some (.lst xs))
 (e:s.heap.get? l=some { cls:=.type "list",data:=.seq its.toArray n }) (hf:f its.toArray=its'.toArray) (hv:Vals ys its') (hz:ys.length<=sizeLine) :
 Inv X ae σ (upd H l (.lst ys)) { s with heap:=s.heap.update l (Obj.mapSeq f),toks:=t' }:=by
 have q:=PySem.IsL.update e f;rw[hf]at q;refine I.write (x:=l) (e:=l) (by rw[hH];exact trivial) (.inl rfl) (fun b' u hb hu=>(Jo s.heap (Obj.mapSeq f) (Jn hb)).trans hu) ⟨_,q⟩ ?_;exact⟨hz,its',_,hv,q⟩
theorem Inv.Gc (I:Inv X ae σ H s)(hv:Vals ys its)(hz:ys.length<=sizeLine) :
 Inv X ae σ (upd H s.heap.objs.size (.lst ys)) { s with heap:=s.heap.push { cls:=.type "list",data:=.seq its.toArray },toks:=t' }:=
 I.laid (fun _ _ q=>Ip _ q) (Im _) ⟨hz,its,0,hv,IG _ rfl⟩
theorem Inv.fresh (I:Inv X ae σ H s):H s.heap.objs.size=none:=I.aO.fresh (Im _)
theorem Inv.tq (I:Inv X ae σ H s) (hH:H l=some (.lst xs)):xs.length<=sizeLine/\∃(its:List LO)(n:Nat),Vals xs its/\xs.length=its.length/\s.heap.get? l=some { cls:=.type "list",data:=.seq its.toArray n }:=by obtain⟨z,its,n,r,e⟩:=I.aO l _ hH;exact⟨z,its,n,r,r.length,e⟩
theorem ui (h:n<=sizeLine):Builtin.List.listTooLong n=false:=by unfold Builtin.List.listTooLong;exact IQ (by lia)
end
section
def cn:V->List V->Hp->VK->Prop:=fun x vs H Q=>∃ l xs y,x=.ref l/\vs=[y]/\H l=some (.lst xs)/\xs.length<sizeLine/\Q .bu (upd H l (.lst (xs++[y])))
theorem bD:EO X "list.append" cn:=by intro ae s σ H x vs v us Q I rx rv h;obtain⟨l,xs,y,rfl,rfl,hH,hz,q⟩:=h;cases rx;obtain⟨u,rfl,ru⟩:=rv.one;obtain⟨z,its,n,r,hl,e⟩:=I.tq hH;refine call_meets F.slot_list_append ⟨_,e,rfl⟩ F.entry_list_append (F.args_list_append_2 _ _) (PySem.list_append l its.toArray n u (by rw[IB];lia)) ⟨e,?_⟩;refine⟨.bu,_,I.BH (its':=its++[u]) hH e (by simp) (r.append (.cons ru .nil)) ?_,rfl,q⟩;rw[IF,List.length_singleton];lia
def qA:V->List V->Hp->VK->Prop:=fun x vs H Q=>∃ l b xs zs,x=.ref l/\vs=[.ref b]/\H l=some (.lst xs)/\H b=some (.lst zs)/\xs.length+zs.length<=sizeLine/\Q .bu (upd H l (.lst (xs++zs)))
theorem rJ:EO X "list.extend" qA:=by
 intro ae s σ H x vs v us Q I rx rv h;obtain⟨l,b,xs,zs,rfl,rfl,hH,hB,hz,q⟩:=h;cases rx;obtain⟨u,rfl,ru⟩:=rv.one;cases ru;obtain⟨z,its,n,r,hl,e⟩:=I.tq hH;obtain⟨z2,its2,n2,r2,hl2,e2⟩:=I.tq hB;have hsz:its.toArray.size+its2.toArray.size<=sizeLine:=by rw[IB,IB];lia
 have hlong:¬ (!its.toArray.isEmpty&&Builtin.List.listTooLong (its.toArray.size+its2.toArray.size))=true:=by rw[ui hsz,Bool.and_false];exact IX
 refine call_meets F.slot_list_extend ⟨_,e,rfl⟩ F.entry_list_extend (F.args_list_extend_2 _ _)
  (AutoSeq1.list_extend_list_list_0 l its.toArray n b its2.toArray n2 hlong (by rw[IB];lia) (by lia)) ⟨e,e2,?_⟩
 refine⟨.bu,_,I.BH (its':=its++its2) hH e (by simp) (r.append r2) ?_,rfl,q⟩;rw[IF];lia
def Ca:V->List V->Hp->VK->Prop:=fun x vs H Q=>∃ l xs y,x=.ref l/\vs=[]/\H l=some (.lst xs)/\xs[xs.length-1]?=some y/\Q y (upd H l (.lst xs.dropLast))
theorem z_:EO X "list.pop" Ca:=by
 intro ae s σ H x vs v us Q I rx rv h;obtain⟨l,xs,y,rfl,rfl,hH,hy,q⟩:=h;cases rx;have hus:=rv.zero;subst hus;obtain⟨z,its,n,r,hl,e⟩:=I.tq hH;obtain⟨u,hu,ru⟩:=r.get hy;have hy':its.toArray[its.toArray.size-1]?=some u:=by show its.toArray[its.length-1]?=some u;rw[<- J9,<- hl];exact hu
 refine call_meets F.slot_list_pop ⟨_,e,rfl⟩ F.entry_list_pop (F.args_list_pop_1 _) (MeetsSeq.list_pop_last l its.toArray n u hy' (by rw[IB];lia)) ⟨e,?_⟩;refine⟨y,_,I.BH (its':=its.dropLast) hH e ?_ r.dropLast ?_,ru,q⟩
 .show its.toArray.eraseIdxIfInBounds (its.toArray.size-1)=its.dropLast.toArray;rw[IB,List.eraseIdxIfInBounds_toArray,pC]
 .rw[List.length_dropLast];lia
def uj:R2:=fun x y H Q=>∃ l b xs zs,x=.ref l/\y=.ref b/\H l=some (.lst xs)/\H b=some (.lst zs)/\xs.length+zs.length<=sizeLine/\∀ p,H p=none->Q (.ref p) (upd H p (.lst (xs++zs)))
theorem pD:iV X (binaryOp .Add) uj:=by
 intro ae s σ H x y v u Q I rx ry h;obtain⟨l,b,xs,zs,rfl,rfl,hH,hB,hz,q⟩:=h;cases rx;cases ry;obtain⟨z,its,n,r,hl,e⟩:=I.tq hH;obtain⟨z2,its2,n2,r2,hl2,e2⟩:=I.tq hB;refine PySem.P.add_list e e2 ?_ (by rw[IB,IB];lia);have ea:its.toArray++its2.toArray=(its++its2).toArray:=by simp
 rw[ea];exact⟨.ref _,_,I.Gc (t':=s.toks) (r.append r2) (by rw[IF];lia),rfl,q _ I.fresh⟩
end
section
variable {κ:Type}[DecidableEq κ]
noncomputable def cf (kvs:List (κ×V))(k:κ):Option V:=(kvs.find? fun kv=>decide (kv.1=k)).map (·.2)
noncomputable def bE (kvs:List (κ×V))(k:κ)(v:V):List (κ×V):=if (kvs.any fun kv=>decide (kv.1=k))=true then kvs.map (fun kv=>if kv.1=k then (kv.1,v) else kv) else kvs++[(k,v)]
noncomputable def gN (kvs:List (κ×V))(k:κ):List (κ×V):=kvs.filter fun kv=>decide (kv.1≠k)
theorem c9 {p:κ×V}(e:p.1=k):cf (p::r) k=some p.2:=by simp[cf,JB,e]
theorem cA {p:κ×V}(e:¬ p.1=k):cf (p::r) k=cf r k:=by simp[cf,JB,e]
theorem e8 (k:κ):∀ kvs:List (κ×V),(kvs.any fun kv=>decide (kv.1=k))=(cf kvs k).isSome
 | []=>rfl
 |p::r=>by
  rw[LD];by_cases e:p.1=k
  .simp only[c9 e,IJ e,Bool.true_or,Option.isSome_some]
  .rw[cA e,IQ e,Bool.false_or];exact e8 k r
theorem cw (kvs:List (κ×V))(k:κ)(v:V):(bE kvs k v).length<=kvs.length+1:=by grind [bE]
theorem f6 {kvs:List (κ×V)}(v:V)(h:cf kvs k=none):bE kvs k v=kvs++[(k,v)]:=by unfold bE;rw[e8,h];exact IK (by decide)
theorem RelO.dR (r:RelO o u):o.isSome=u.isSome:=by
 cases o with
 |none=>cases u with
  |none=>rfl
  |some _=>exact(show False from r).elim
 |some _=>cases u with
  |none=>exact(show False from r).elim
  |some _=>rfl
theorem RelO.getD (r:RelO o u)(rd:RelV d d'):RelV (o.getD d) (u.getD d'):=by
 cases o with
 |none=>cases u with
  |none=>exact rd
  |some _=>exact(show False from r).elim
 |some _=>cases u with
  |none=>exact(show False from r).elim
  |some _=>exact r
theorem KV.val {kvs:List (κ×V)}(r:KV kvs vs)(k:κ):RelO (cf kvs k) (valueAt vs k):=by
 unfold KV at r;induction r with
 |nil=>exact True.intro
 | @cons p q ps qs h t ih=>
  obtain⟨h1,h2⟩:=h;by_cases e:p.1=k
  .have e':q.1=k:=h1.symm.trans e;have b:valueAt (q::qs) k=some q.2:=by simp[valueAt,JB,e']
   rw[c9 e,b];exact h2
  .have e':¬ q.1=k:=fun z=>e (h1.trans z);have b:valueAt (q::qs) k=valueAt qs k:=by simp[valueAt,JB,e']
   rw[cA e,b];exact ih
theorem KV.any (r:KV kvs vs)(k:κ):(kvs.any fun kv=>decide (kv.1=k))=vs.any fun kv=>decide (kv.1=k):=by
 unfold KV at r;induction r with
 |nil=>rfl
 |cons h t ih=>rw[LD,LD,ih,h.1]
theorem KV.BK (r:KV kvs vs)(k:κ)(ry:RelV y u) :
 KV (kvs.map fun kv=>if kv.1=k then (kv.1,y) else kv) (vs.map fun kv=>if kv.1=k then (kv.1,u) else kv):=by
 unfold KV at r ⊢;induction r with
 |nil=>exact .nil
 | @cons p q ps qs h t ih=>
  rw[II,II];refine .cons ?_ ih
  grind
theorem KV.put (r:KV kvs vs)(k:κ)(ry:RelV y u):KV (bE kvs k y) (stored vs k u):=by
 unfold bE stored;rw[r.any k];by_cases e:(vs.any fun kv=>decide (kv.1=k))=true
 .rw[IS e,IS e];exact r.BK k ry
 .rw[IK e,IK e];exact Paired.snoc r ⟨rfl,ry⟩
theorem KV.drop (r:KV kvs vs)(k:κ):KV (gN kvs k) (without vs k):=by
 unfold KV at r ⊢;unfold gN without;induction r with
 |nil=>exact .nil
 | @cons p q ps qs h t ih=>
  obtain⟨h1,h2⟩:=h;rw[List.filter_cons,List.filter_cons];by_cases e:p.1=k
  .grind
  .have e':¬ q.1=k:=fun z=>e (h1.trans z);have a:decide (p.1≠k)=true:=by simp[e]
   have b:decide (q.1≠k)=true:=by simp[e']
   rw[IS a,IS b];exact .cons ⟨h1,h2⟩ ih
theorem KV.length (r:KV kvs vs):kvs.length=vs.length:=JV r
theorem uk (kvs:List (κ×V))(k:κ):(gN kvs k).length<=kvs.length:=K8 _ _
end
theorem gO (r:RelV (kV k) u):(aI P w).is k u=true:=by
 cases k with
 |inl i=>obtain⟨t,e⟩:=(show ∃ t,u=Value.int i t from r);subst e;exact nI P w i t
 |inr x=>obtain⟨t,e⟩:=(show ∃ t,u=Value.str x t from r);subst e;exact nJ P w x t
theorem lK:∀{ks:List ba}{us:List LO},Vals (ks.map kV) us->ItemsAre (aI P w) ks us
 | [],_,r=>by rw[Ku]at r;cases r;exact .nil
 |k::ks,_,r=>by
  rw[II]at r;cases r with
  |cons h t=>exact .cons (gO h) (lK t)
abbrev KT (H:Hp):List (List ba×V)->List (List ba×Addr×LO)->Prop:=Paired fun p q=>p.1=q.1/\H q.2.1=some (.tup (p.1.map kV))/\RelV p.2 q.2.2
theorem KT.val {H:Hp}(r:KT H kvs xs)(k:List ba):RelO (cf kvs k) ((atKey xs k).map (·.2)):=by
 induction r with
 |nil=>exact True.intro
 | @cons p q ps qs h t ih=>
  obtain⟨h1,_,h2⟩:=h;by_cases e:p.1=k
  .have e':q.1=k:=h1.symm.trans e;have b:atKey (q::qs) k=some q.2:=by simp[atKey,JB,e']
   rw[c9 e,b];exact h2
  .have e':¬ q.1=k:=fun z=>e (h1.trans z);have b:atKey (q::qs) k=atKey qs k:=by simp[atKey,JB,e']
   rw[cA e,b];exact ih
theorem KT.BK (r:KT H kvs xs)(k:List ba)(ry:RelV y u) :
 KT H (kvs.map fun kv=>if kv.1=k then (kv.1,y) else kv) (xs.map (putAt k u)):=by
 induction r with
 |nil=>exact .nil
 | @cons p q ps qs h t ih=>
  rw[II,II];refine .cons ?_ ih;obtain⟨h1,h2,h3⟩:=h;unfold putAt
  grind
theorem KT.put (r:KT H kvs xs)(k:List ba)(hb:H b=some (.tup (k.map kV)))(ry:RelV y u) :
 KT H (bE kvs k y) (storedH xs k b u):=by
 have e:(kvs.any fun kv=>decide (kv.1=k))=(atKey xs k).isSome:=by rw[e8,(r.val k).dR,Lz]
 unfold bE storedH;rw[e];by_cases q:(atKey xs k).isSome=true
 .rw[IS q,IS q];exact r.BK k ry
 .rw[IK q,IK q];exact Paired.snoc r ⟨rfl,hb,ry⟩
theorem KT.keeps (r:KT H kvs xs)(ht:∀ b ys,H b=some (.tup ys)->H' b=some (.tup ys)):KT H' kvs xs:=Paired.yM r fun _ _ z=>⟨z.1,ht _ _ z.2.1,z.2.2⟩
section
theorem yY (ok:HOk P w H h)(e:Rd H a u):ObjOk P w H h a u:=e.ok ok
theorem ii (ok:HOk P w H h)(e:Rd H a (.dK kvs)):kvs.length<=sizeLine/\(a==sysModules)=false/\∃ vs,KV kvs vs/\h.DictOf (aI P w) a vs:=show ObjOk P w H h a (.dK kvs) from yY ok e
theorem nU (ok:HOk P w H h)(e:H a=some (.dK kvs)):kvs.length<=sizeLine/\(a==sysModules)=false/\∃ vs,KV kvs vs/\h.DictOf (aI P w) a vs:=ii ok (.inl e)
theorem fx (ok:HOk P w H h)(e:H a=some (.tup (ks.map kV))):(tupleKind (aI P w)).is h ks a:=by obtain⟨_,its,r,o,h1,h2,n,h3⟩:=(show ObjOk P w H h a (.tup (ks.map kV)) from ok a _ e);exact⟨o,its.toArray,n,h1,h2,h3,by simpa using lK r⟩
theorem ij (ok:HOk P w H h)(e:Rd H a (.dT kvs)):kvs.length<=sizeLine/\(a==sysModules)=false/\
 ∃ xs,KT H kvs xs/\h.DictOfH (tupleKind (aI P w)) a xs:=by
 obtain⟨z,y,xs,r,o,es,ep,h1,h2,h3,h4,h5⟩:=(show ObjOk P w H h a (.dT kvs) from yY ok e);refine⟨z,y,xs,r,o,es,ep,h1,h2,h3,h4,fun x hx=>?_,h5⟩;have all:∀{l:List (List ba×V)}{m:List (List ba×Addr×LO)},KT H l m->∀ x∈m,(tupleKind (aI P w)).is h x.1 x.2.1:=by
  intro l m q;induction q with
  |nil=>intro x hx;exact nomatch hx
  | @cons p q ps qs hq t ih=>grind [fx]
 exact all r x hx
theorem yZ (ok:HOk P w H h)(e:H a=some (.dT kvs)):kvs.length<=sizeLine/\(a==sysModules)=false/\
 ∃ xs,KT H kvs xs/\h.DictOfH (tupleKind (aI P w)) a xs:=ij ok (.inl e)
end
def DGet (H:Hp)(a:Addr)(y:V)(r:Option V):Prop:=(∃ kvs k,Rd H a (.dK kvs)/\y=kV k/\r=cf kvs k)\/∃ kvs k b,Rd H a (.dT kvs)/\y=.ref b/\H b=some (.tup (k.map kV))/\r=cf kvs k
def DPut (H:Hp)(a:Addr)(y v:V)(H':Hp):Prop:=
 (∃ kvs k,H a=some (.dK kvs)/\y=kV k/\kvs.length<sizeLine/\H'=upd H a (.dK (bE kvs k v)))\/
 ∃ kvs k b,H a=some (.dT kvs)/\y=.ref b/\H b=some (.tup (k.map kV))/\kvs.length<sizeLine/\H'=upd H a (.dT (bE kvs k v))
theorem DGet.k {kvs:List (ba×V)}{k:ba}(e:H a=some (.dK kvs)):DGet H a (kV k) (cf kvs k):=.inl ⟨kvs,k,.inl e,rfl,rfl⟩
theorem DGet.t {kvs:List (List ba×V)}{k:List ba}(e:H a=some (.dT kvs))(eb:H b=some (.tup (k.map kV))):DGet H a (.ref b) (cf kvs k):=.inr ⟨kvs,k,b,.inl e,rfl,eb,rfl⟩
theorem DPut.k {kvs:List (ba×V)}{k:ba}{v:V}(e:H a=some (.dK kvs))(hl:kvs.length<sizeLine):DPut H a (kV k) v (upd H a (.dK (bE kvs k v))):=.inl ⟨kvs,k,e,rfl,hl,rfl⟩
theorem DPut.t {kvs:List (List ba×V)}{k:List ba}{v:V}(e:H a=some (.dT kvs))(eb:H b=some (.tup (k.map kV)))(hl:kvs.length<sizeLine) :
 DPut H a (.ref b) v (upd H a (.dT (bE kvs k v))):=.inr ⟨kvs,k,b,e,rfl,eb,hl,rfl⟩
section
theorem Inv.big (I:Inv X ae σ H s):sysModules<s.heap.objs.size:=by have h:mainGlobals<s.heap.objs.size:=(I.mod.glob.keeps I.bk).lt;exact Nat.lt_trans (by decide) h
theorem rK (hu:A.units+1<cLine)(I:Inv X ae σ H s)(g:DGet H a y (some v))(ry:RelV y u)(h:∀ w' s',Inv X ae σ H s'->RelV v w'->Q w' s') :
 wpAny (model X.prog X.w) A (getItem (.ref a) u) Q E s:=by
 rcases g with⟨kvs,k,e,ey,l⟩|⟨kvs,k,b,e,ey,eb,l⟩
 .subst ey;obtain⟨z,hd,vs,rel,dd⟩:=ii I.aO e;obtain⟨w',hw,rw'⟩:=RelO.some_of (v:=v) (o:=valueAt vs k) (by rw[l];exact rel.val k);exact wpAny_getItem_of (gO ry) dd.mapOf hw (h w' _ (I.tok _) rw')
 .subst ey;cases (show u=Value.ref b from ry);obtain⟨z,hd,xs,rel,dd⟩:=ij I.aO e;obtain⟨w',hw,rw'⟩:=RelO.some_of (v:=v) (o:=(atKey xs k).map (·.2)) (by rw[l];exact rel.val k);obtain⟨p,hp,hp2⟩:=Jg.mp hw;refine wpAny_getItem_heap (JS hu) (fx I.aO eb) dd hp ?_;rw[hp2];exact h w' _ (I.tok _) rw'
theorem EQ (hu:A.units+1<cLine)(I:Inv X ae σ H s)(g:DGet H a y o)(ry:RelV y u)(h:∀ s',Inv X ae σ H s'->Q (.bool o.isSome) s') :
 wpAny (model X.prog X.w) A (compareOp .In u (.ref a)) Q E s:=by
 rcases g with⟨kvs,k,e,ey,l⟩|⟨kvs,k,b,e,ey,eb,l⟩
 .subst ey;obtain⟨z,hd,vs,rel,dd⟩:=ii I.aO e;refine wpAny_in_of (gO ry) hd dd.mapOf ?_;rw[<- (rel.val k).dR,<- l];exact h _ (I.tok _)
 .subst ey;cases (show u=Value.ref b from ry);obtain⟨z,hd,xs,rel,dd⟩:=ij I.aO e;refine wpAny_in_heap (JS hu) (fx I.aO eb) hd dd ?_;have q:=(rel.val k).dR;rw[Lz]at q;rw[<- q,<- l];exact h _ (I.tok _)
theorem gC (I:Inv X ae σ H s)(mu:BS (H a))(hs:Heap.SameBut a s.heap h')(he:∃ q,h'.get? a=some q)(new:ObjOk X.prog X.w (upd H a ob) h' a ob) :
 Inv X ae σ (upd H a ob) { s with heap:=h',toks:=t' }:=
 I.write (x:=a) (e:=a) mu (.inl rfl) (fun b q hb z=>(hs.2 b hb).trans z) he new
theorem mx (z:kvs.length<=sizeLine)(hd:(a==sysModules)=false)(rel:KV kvs vs)(dd:h'.DictOf (aI P w) a vs) :
 ObjOk P w H' h' a (.dK kvs):=⟨z,hd,vs,rel,dd⟩
theorem rL (hu:A.units+1<cLine)(I:Inv X ae σ H s)(g:DPut H a y v H')(ry:RelV y u)(rv:RelV v r)(h:∀ s',Inv X ae σ H' s'->Q () s') :
 wpAny (model X.prog X.w) A (setItem (.ref a) u r) Q E s:=by
 rcases g with⟨kvs,k,e,ey,l,eH⟩|⟨kvs,k,b,e,ey,eb,l,eH⟩
 .subst ey eH;obtain⟨z,hd,vs,rel,dd⟩:=nU I.aO e;have hz:vs.length<=sizeLine:=by rw[<- rel.length];exact z
  have hl:(bE kvs k v).length<=sizeLine:=by have:=cw kvs k v;lia
  refine wpAny_setItem_pairs (hsz:=hz) (gO ry) dd fun h' dd' hs=>h _ ?_;have he:∃ q,h'.get? a=some q:=let ⟨q,_,_,hq,_⟩:=dd';⟨q,hq⟩;exact gC I (by rw[e];exact True.intro) hs he (mx hl hd (rel.put k rv) dd')
 .subst ey eH;cases (show u=Value.ref b from ry);obtain⟨z,hd,xs,rel,dd⟩:=yZ I.aO e;have hz:xs.length<=sizeLine:=by rw[<- JV rel];exact z
  have hl:(bE kvs k v).length<=sizeLine:=by have:=cw kvs k v;lia
  refine wpAny_setItem_heap (hsz:=hz) (JS hu) (fx I.aO eb) dd fun h' dd' hs=>h _ ?_;obtain⟨q,es,ep,hq,h2,h3,h4,_,h5⟩:=dd';refine gC I (by rw[e];exact True.intro) hs ⟨q,hq⟩ ⟨hl,hd,_,(rel.put k eb rv).keeps fun c ys ec=>?_,q,es,ep,hq,h2,h3,h4,h5⟩;rw[au (tU ec e (fun z=>nomatch z))];exact ec
end
section
theorem Cb (I:Inv X ae σ H s)(e:H a=some (.dK kvs))(ry:RelV (kV k) u)(l:cf kvs k=some v)(hm:more=[]\/∃ x,more=[x])
 (h:∀ w' s',Inv X ae σ (upd H a (.dK (gN kvs k))) s'->RelV v w'->Q w' s'):wpAny (model X.prog X.w) A (call (.builtin "dict.pop") (.ref a::u::more)) Q E s:=by
 obtain⟨z,hd,vs,rel,dd⟩:=nU I.aO e;obtain⟨w',hw,rw'⟩:=RelO.some_of (v:=v) (o:=valueAt vs k) (by rw[<- l];exact rel.val k);have hp:(keyPart u).isSome=true:=by
  cases k with
  |inl i=>obtain⟨t,q⟩:=(show ∃ t,u=Value.int i t from ry);subst q;rfl
  |inr x=>obtain⟨t,q⟩:=(show ∃ t,u=Value.str x t from ry);subst q;rfl
 have ha:argsOk "dict.pop" ⟨.ref a::u::more,[]⟩:=by
  rcases hm with q|⟨x,q⟩
  .subst q;exact PySem.F.args_dict_pop_2 _ _
  .subst q;exact PySem.F.args_dict_pop_3 _ _ _
 refine KE PySem.F.slot_dict_pop dd.typeIs PySem.F.entry_dict_pop ha (meets_dict_pop_there (aI X.prog X.w) a (gO ry) more hm hp)
  ⟨vs,w',dd,by rw[<- rel.length];exact z,hw,fun h' dd' hs=>h w' _ ?_ rw'⟩
 have he:∃ q,h'.get? a=some q:=let ⟨q,_,_,hq,_⟩:=dd';⟨q,hq⟩;exact gC I (by rw[e];exact True.intro) hs he (mx (IV (uk kvs k) z) hd (rel.drop k) dd')
end
def Cc (i:Expr):Prop:=∀ ov iv,subscripted i false ov iv=operate [ov,iv] (getItem ov iv)
theorem xo {E:LO->LL->Prop}{env:Env}{value slice:Expr}{pos:Pos}{T id:String}{Q:LO->LL->Prop}
 (hl:typeLookup (.type T) "__getitem__"=pure (some (.builtin id))) (hs:Cc slice)
 (h:wpAny (model prog w) A (eval value env) (fun o s₁=>wpAny (model prog w) A (eval slice env) (fun i s₂=>s₂.TypeIs o T/\wpAny (model prog w) A (getItem o i) Q E s₂) E s₁) E s) :
 wpAny (model prog w) A (eval (.Subscript value slice pos) env) Q E s:=by
 refine Subscript_ (JC h (fun o s₁ h₁=>JC h₁ (fun i s₂ h₂=>?_) fun _ _ x=>x) fun _ _ x=>x);obtain⟨hT,h₂⟩:=h₂;unfold subscriptTail;refine Il ?_;rw[getitemInPython_of_ne hT.not_modules];refine Il (wpAny_specialOf hT hl ?_);have fin:wpAny (model prog w) A (subscripted slice false o i) (fun r s₃=>wpAny (model prog w) A (letTemporaryGo value o r >>= fun _=>pure r) Q E s₃) E s₂:=by rw[hs o i];exact wpAny_operating (JC h₂ (fun r s₃ h₃=>Il (wpAny_letTemporaryGo (Iu h₃))) fun _ _ x=>x)
 first
  |exact Iu (Il fin)
  |exact Il (Iu (Il fin))
  |exact Il fin
theorem nV (I:Inv X ae σ H s) (g:DGet H a y o):s.TypeIs (.ref a) "dict":=by
 rcases g with⟨kvs,k,e,_,_⟩|⟨kvs,k,b,e,_,_,_⟩
 .obtain⟨_,_,vs,_,dd⟩:=ii I.aO e;exact dd.typeIs
 .obtain⟨_,_,xs,_,dd⟩:=ij I.aO e;exact dd.typeIs
noncomputable def lL (td ty:TE):TE:=fun σ H Q=>td σ H fun x H1=>ty σ H1 fun y H2=>∃ a v,x=.ref a/\DGet H2 a y (some v)/\Q v H2
noncomputable def ik (td ty tv:TE):TS:=fun D σ H=>tv σ H fun v H1=>td σ H1 fun x H2=>ty σ H2 fun y H3=>∃ a H4,x=.ref a/\DPut H3 a y v H4/\D.nx σ H4
section
theorem fy (hu:X.A.units+1<cLine)(ho:PE X o td)(hi:PE X i ty)(hs:Cc i):PE X (.Subscript o i pos) (lL td ty):=by intro ae s σ H Q I h;refine xo PySem.F.slot_dict_getitem.lookup hs (bI (ho ae s σ H _ I h) fun u s1 ⟨x,H1,I1,rx,q1⟩=>bI (hi ae s1 σ H1 _ I1 q1) fun iv s2 ⟨y,H2,I2,ry,a,v,ex,g,q2⟩=>?_);subst ex;obtain rfl:u=Value.ref a:=rx;exact⟨nV I2 g,rK hu I2 g ry fun w' s3 I3 rw'=>⟨v,H2,I3,rw',q2⟩⟩
theorem jI (hu:X.A.units+1<cLine)(ho:PE X o td)(hi:PE X i ty)(hv:PE X value tv)(hs:swapsWith value (some (.Subscript o i pos')) pos.line X.env=pure false) :
 PS X (.Assign [.Subscript o i pos'] value pos) (ik td ty tv):=by
 intro ae s σ H D I h;refine wpAny_Assign_Subscript (bI (hv ae s σ H _ I h) fun r s1 ⟨v,H1,I1,rv,q1⟩=>bI (ho ae s1 σ H1 _ I1 q1) fun u s2 ⟨x,H2,I2,rx,q2⟩=>bI (hi ae s2 σ H2 _ I2 q2) fun iv s3 ⟨y,H3,I3,ry,a,H4,ex,g,q3⟩=>?_) hs;subst ex;obtain rfl:u=Value.ref a:=rx;exact rL hu I3 g ry rv fun s4 I4=>⟨σ,H4,I4,q3⟩
end
theorem nW (h:Heap) (hb:sysModules<h.objs.size):ObjOk P w H (h.push { cls:=.type "dict",data:=.dict #[] }) h.objs.size (.dK []):=⟨IL _,Lg.mpr (Jn (IN hb)),[],.nil,Heap.DictOf.new h⟩
theorem um (h:Heap) (hb:sysModules<h.objs.size):ObjOk P w H (h.push { cls:=.type "dict",data:=.dict #[] }) h.objs.size (.dT []):=⟨IL _,Lg.mpr (Jn (IN hb)),[],.nil,_,#[],0,IG _ rfl,⟨rfl,rfl,rfl⟩,rfl,rfl,Jh⟩
def my:TE:=fun _ H Q=>∀ p,H p=none->Q (.ref p) (upd H p (.dK []))
def g8:TE:=fun _ H Q=>∀ p,H p=none->Q (.ref p) (upd H p (.dT []))
section
theorem jZ:PE X (.Dict [] [] pos) my:=fun ae s σ H Q I h=>wpAny_Dict_empty ⟨.ref s.heap.objs.size,_,I.laid (a:=s.heap.objs.size) (o:=.dK []) (t':=s.toks) (fun _ _ q=>Ip _ q) (Im _) (nW s.heap I.big),rfl,h _ (I.aO.fresh (Im _))⟩
theorem e9:PE X (.Dict [] [] pos) g8:=fun ae s σ H Q I h=>wpAny_Dict_empty ⟨.ref s.heap.objs.size,_,I.laid (a:=s.heap.objs.size) (o:=.dT []) (t':=s.toks) (fun _ _ q=>Ip _ q) (Im _) (um s.heap I.big),rfl,h _ (I.aO.fresh (Im _))⟩
end
noncomputable def pE:List (TE×TE)->St->Hp->(List (V×V)->Hp->Prop)->Prop
 | [],_,H,Q=>Q [] H
 |(tk,tv)::r,σ,H,Q=>tk σ H fun x H1=>tv σ H1 fun y H2=>pE r σ H2 fun ps H3=>Q ((x,y)::ps) H3
abbrev VV:List (V×V)->List (LO×LO)->Prop:=Paired fun p q=>RelV p.1 q.1/\RelV p.2 q.2
def Eh (X:Cx)(pos:Pos)(keys:List (Option Expr))(values:List Expr)(trs:List (TE×TE)):Prop:=
 ∀(ae:List (Addr×Obj))(s:LL)(σ:St)(H:Hp)(Q:List (V×V)->Hp->Prop),Inv X ae σ H s->pE trs σ H Q->
  wpAny (model X.prog X.w) X.A (evalPairs (pairTrees keys values X.env pos)) (fun vs s'=>∃ ps H',Inv X ae σ H' s'/\VV ps vs/\Q ps H') X.xe s
theorem xq:Eh X pos [] [] []:=fun ae s σ H Q I h=>pairTrees_nil_walk ⟨[],H,I,.nil,h⟩
theorem uq (hk:PE X k tk)(hv:PE X v tv)(hr:Eh X pos ks vs trs) :
 Eh X pos (some k::ks) (v::vs) ((tk,tv)::trs):=fun ae s σ H Q I h=>
 pairTrees_cons_walk (bI (hk ae s σ H _ I h) fun u s1 ⟨x,H1,I1,rx,q1⟩=>bI (hv ae s1 σ H1 _ I1 q1) fun w2 s2 ⟨y,H2,I2,ry,q2⟩=>bI (hr ae s2 σ H2 _ I2 q2) fun ws s3 ⟨ps,H3,I3,rel,q3⟩=>⟨(x,y)::ps,H3,I3,.cons ⟨rx,ry⟩ rel,q3⟩)
def f7 (kvs more:List (ba×V)):List (ba×V):=more.foldl (fun acc kv=>bE acc kv.1 kv.2) kvs
theorem KV.merge:∀{more:List (ba×V)}{rs:List (ba×LO)}{kvs:List (ba×V)}{vs:List (ba×LO)},KV more rs->KV kvs vs->KV (f7 kvs more) (merged vs rs):=by
 intro more rs kvs vs r;unfold KV at r;induction r generalizing kvs vs with
 |nil=>intro q;exact q
 | @cons p q ps qs h t ih=>
  intro r0;have e:KV (bE kvs p.1 p.2) (stored vs q.1 q.2):=by have:=r0.put p.1 h.2;rw[<- h.1];exact this
  exact ih e
theorem gR:∀(more kvs:List (ba×V)),(f7 kvs more).length<=kvs.length+more.length
 | [],kvs=>by show kvs.length<=kvs.length+0;lia
 |p::r,kvs=>by
  have h1:=gR r (bE kvs p.1 p.2)
  grind [cw,f7,bE]
theorem j1:∀{kvs:List (ba×V)}{ws:List (LO×LO)},VV (kvs.map fun kv=>(kV kv.1,kv.2)) ws->∃ rs,Carries (aI P w) ws rs/\KV kvs rs
 | [],_,r=>by rw[Ku]at r;cases r;exact⟨[],True.intro,.nil⟩
 |p::kvs,_,r=>by
  rw[II]at r;cases r with
  | @cons a b as bs h t=>obtain⟨rs,c,q⟩:=j1 (P:=P) (w:=w) t;obtain⟨b1,b2⟩:=b;exact⟨(p.1,b2)::rs,⟨gO h.1,rfl,c⟩,.cons ⟨rfl,h.2⟩ q⟩
def y8 (trs:List (TE×TE)):TE:=fun σ H Q=>∀ p,H p=none->pE trs σ (upd H p (.dK [])) fun ps H2=>H2 p=some (.dK [])/\∃ kvs:List (ba×V),ps=kvs.map (fun kv=>(kV kv.1,kv.2))/\kvs.length<=15/\Q (.ref p) (upd H2 p (.dK (f7 [] kvs)))
theorem xu (h:Eh X pos keys values trs)(Bt:keys.all (·.isSome)=true)(hl:keys.length=values.length)(h0:keys≠[])
 (h15:keys.length<=15):PE X (.Dict keys values pos) (y8 trs):=by
 intro ae s σ H Q I q;have hn:=I.aO.fresh (Im s.heap.objs.size);have I1:=I.laid (a:=s.heap.objs.size) (o:=.dK []) (h':=s.heap.push { cls:=.type "dict",data:=.dict #[] }) (t':=s.toks) (fun _ _ q=>Ip _ q) (Im _) (nW s.heap I.big);refine wpAny_Dict_walk (knd:=aI X.prog X.w) Bt hl h0 h15 (bI (h ae _ σ _ _ I1 (q _ hn)) fun ws s2 ⟨ps,H2,I2,rel,e,kvs,ep,lk,q2⟩=>?_);subst ep;obtain⟨rs,c,rk⟩:=j1 (P:=X.prog) (w:=X.w) rel;obtain⟨z,hd,vs0,r0,dd⟩:=nU I2.aO e;cases r0;refine⟨rs,c,dd,fun h' dd' hs=>⟨.ref s.heap.objs.size,_,?_,rfl,q2⟩⟩;have hz:(f7 [] kvs).length<=sizeLine:=by have h1:=gR kvs [];rw[JZ]at h1;rw[IY];lia
 have he:∃ q,h'.get? s.heap.objs.size=some q:=let ⟨q,_,_,hq,_⟩:=dd';⟨q,hq⟩;exact gC I2 (by rw[e];exact True.intro) hs he (mx hz hd (rk.merge .nil) dd')
structure M1 (X:Cx) (o:Expr) (m:Str) (apos:Pos) (e:Expr) (cpos:Pos):Prop where
 base:attributeBase o m X.env (eval o X.env)=eval o X.env
 kX:((backTo cpos (starEach [e] X.env)).all (fun x=>!x.1)&&(backToKw cpos (keywordEach [] X.env)).all (fun x=>x.1.isSome)
  && decide (([e]:List Expr).length+([]:List Keyword).length+(if ([]:List Keyword).isEmpty then 0 else 1)<30))=true
 line:(apos.endLine==cpos.line)=true
 trees:backTo cpos (starEach [e] X.env)=[(false,eval e X.env)]
structure M2 (X:Cx) (o:Expr) (m:Str) (apos:Pos) (e f:Expr) (cpos:Pos):Prop where
 base:attributeBase o m X.env (eval o X.env)=eval o X.env
 kX:((backTo cpos (starEach [e,f] X.env)).all (fun x=>!x.1)&&(backToKw cpos (keywordEach [] X.env)).all (fun x=>x.1.isSome)
  && decide (([e,f]:List Expr).length+([]:List Keyword).length+(if ([]:List Keyword).isEmpty then 0 else 1)<30))=true
 line:(apos.endLine==cpos.line)=true
 trees:backTo cpos (starEach [e,f] X.env)=[(false,eval e X.env),(false,eval f X.env)]
def Cd (H:Hp)(a:Addr):Prop:=(∃ kvs,Rd H a (.dK kvs))\/∃ kvs,Rd H a (.dT kvs)
theorem mz (I:Inv X ae σ H s)(d:Cd H a) :
 s.TypeIs (.ref a) "dict"/\(∀ b,Value.ref a=.ref b->∃ ob,s.heap.get? b=some ob/\ob.dict=none)/\(a==sysModules)=false:=by
 rcases d with⟨kvs,e⟩|⟨kvs,e⟩
 .obtain⟨_,hd,vs,_,dd⟩:=ii I.aO e;refine⟨dd.typeIs,fun b q=>?_,hd⟩;cases q;obtain⟨ob,_,_,h1,h2,_⟩:=dd;exact⟨ob,h1,h2.2.1⟩
 .obtain⟨_,hd,xs,_,dd⟩:=ij I.aO e;refine⟨dd.typeIs,fun b q=>?_,hd⟩;cases q;obtain⟨ob,_,_,h1,h2,_⟩:=dd;exact⟨ob,h1,h2.2.1⟩
section
theorem Aa (hu:A.units+1<cLine)(I:Inv X ae σ H s)(g:DGet H a y o)(ry:RelV y u)(h:∀ w' s',Inv X ae σ H s'->RelV (o.getD .bu) w'->Q w' s') :
 wpAny (model X.prog X.w) A (call (.builtin "dict.get") [.ref a,u]) Q E s:=by
 rcases g with⟨kvs,k,e,ey,l⟩|⟨kvs,k,b,e,ey,eb,l⟩
 .subst ey;obtain⟨z,hd,vs,rel,dd⟩:=ii I.aO e;refine KE JP dd.typeIs Ks (PySem.F.args_dict_get_2 _ _) (meets_dict_get (aI X.prog X.w) a (gO ry) hd) ⟨_,dd.mapOf,h _ _ (I.tok _) ?_⟩;rw[l];exact(rel.val k).getD rfl
 .subst ey;cases (show u=Value.ref b from ry);obtain⟨z,hd,xs,rel,dd⟩:=ij I.aO e;refine KE JP dd.typeIs Ks (PySem.F.args_dict_get_2 _ _) (meetsH_dict_get (tupleKind (aI X.prog X.w)) a b hd) ⟨JS hu,k,xs,fx I.aO eb,dd,h _ _ (I.tok _) ?_⟩;rw[l];exact(rel.val k).getD rfl
theorem Ab (hu:A.units+1<cLine)(I:Inv X ae σ H s)(g:DGet H a y o)(ry:RelV y u)(rd:RelV d r)(h:∀ w' s',Inv X ae σ H s'->RelV (o.getD d) w'->Q w' s') :
 wpAny (model X.prog X.w) A (call (.builtin "dict.get") [.ref a,u,r]) Q E s:=by
 rcases g with⟨kvs,k,e,ey,l⟩|⟨kvs,k,b,e,ey,eb,l⟩
 .subst ey;obtain⟨z,hd,vs,rel,dd⟩:=ii I.aO e;refine KE JP dd.typeIs Ks (PySem.F.args_dict_get_3 _ _ _) (meets_dict_get_default (aI X.prog X.w) a (gO ry) hd r) ⟨_,dd.mapOf,h _ _ (I.tok _) ?_⟩;rw[l];exact(rel.val k).getD rd
 .subst ey;cases (show u=Value.ref b from ry);obtain⟨z,hd,xs,rel,dd⟩:=ij I.aO e;refine KE JP dd.typeIs Ks (PySem.F.args_dict_get_3 _ _ _) (meetsH_dict_get_default (tupleKind (aI X.prog X.w)) a b hd r) ⟨JS hu,k,xs,fx I.aO eb,dd,h _ _ (I.tok _) ?_⟩;rw[l];exact(rel.val k).getD rd
end
noncomputable def mB (td ty:TE):TE:=fun σ H Q=>td σ H fun x H1=>∃ a,x=.ref a/\Cd H1 a/\ty σ H1 fun y H2=>∃ o,DGet H2 a y o/\Q (o.getD .bu) H2
noncomputable def dU (td ty tx:TE):TE:=fun σ H Q=>td σ H fun x H1=>∃ a,x=.ref a/\Cd H1 a/\ty σ H1 fun y H2=>tx σ H2 fun z H3=>∃ o,DGet H3 a y o/\Q (o.getD z) H3
def j3 (td ty:TE):TE:=fun σ H Q=>td σ H fun x H1=>∃ a,x=.ref a/\Cd H1 a/\ty σ H1 fun y H2=>∃ kvs k v,H2 a=some (.dK kvs)/\y=kV k/\cf kvs k=some v/\Q v (upd H2 a (.dK (gN kvs k)))
section
theorem nX (hu:X.A.units+1<cLine) (ho:PE X o td) (he:PE X e ty) (m:M1 X o "get" apos e cpos):PE X (.Call (.Attribute o "get" apos) [e] [] cpos) (mB td ty):=by intro ae s σ H Q I h;refine wpAny_Call_method m.base m.kX m.line Ji JP PySem.F.type_dict_get (bI (ho ae s σ H _ I h) fun u s1 ⟨x,H1,I1,rx,a,ex,d,q1⟩=>?_);subst ex;obtain rfl:u=Value.ref a:=rx;obtain⟨t1,t2,_⟩:=mz I1 d;refine⟨t1,t2,?_⟩;rw[m.trees];refine JM rfl (Ke (J8 (bI (he ae s1 σ H1 _ I1 q1) fun iv s2 ⟨y,H2,I2,ry,ov,g,q2⟩=>Kw ?_)));exact Aa hu I2 g ry fun w' s3 I3 rw'=>⟨_,H2,I3,rw',q2⟩
theorem f9 (hu:X.A.units+1<cLine) (ho:PE X o td) (he:PE X e ty) (hf:PE X f tx) (m:M2 X o "get" apos e f cpos):PE X (.Call (.Attribute o "get" apos) [e,f] [] cpos) (dU td ty tx):=by intro ae s σ H Q I h;refine wpAny_Call_method m.base m.kX m.line Ji JP PySem.F.type_dict_get (bI (ho ae s σ H _ I h) fun u s1 ⟨x,H1,I1,rx,a,ex,d,q1⟩=>?_);subst ex;obtain rfl:u=Value.ref a:=rx;obtain⟨t1,t2,_⟩:=mz I1 d;refine⟨t1,t2,?_⟩;rw[m.trees];refine JM rfl (Ke (J8 (bI (he ae s1 σ H1 _ I1 q1) fun iv s2 ⟨y,H2,I2,ry,q2⟩=>J8 (bI (hf ae s2 σ H2 _ I2 q2) fun fv s3 ⟨z,H3,I3,rz,ov,g,q3⟩=>Kw ?_))));exact Ab hu I3 g ry rz fun w' s4 I4 rw'=>⟨_,H3,I4,rw',q3⟩
theorem nY (ho:PE X o td) (he:PE X e ty) (m:M1 X o "pop" apos e cpos):PE X (.Call (.Attribute o "pop" apos) [e] [] cpos) (j3 td ty):=by intro ae s σ H Q I h;refine wpAny_Call_method m.base m.kX m.line Ji PySem.F.slot_dict_pop PySem.F.type_dict_pop (bI (ho ae s σ H _ I h) fun u s1 ⟨x,H1,I1,rx,a,ex,d,q1⟩=>?_);subst ex;obtain rfl:u=Value.ref a:=rx;obtain⟨t1,t2,_⟩:=mz I1 d;refine⟨t1,t2,?_⟩;rw[m.trees];refine JM rfl (Ke (J8 (bI (he ae s1 σ H1 _ I1 q1) fun iv s2 z=>Kw ?_)));obtain⟨y,H2,I2,ry,kvs,k,v,ea,rfl,l,q2⟩:=z;exact Cb I2 ea ry l (.inl rfl) fun w' s3 I3 rw'=>⟨v,_,I3,rw',q2⟩
end
end L2
namespace Att
open PySem PySem.W PySem.Calls PyProof.Rows
theorem jy:∀(ns:List Int)(vs:List LO),WellAll P h vs (ns.map WData.int)->IntsAre vs ns:=by
 intro ns;induction ns with
 |nil=>intro vs w;rw[Ku]at w;cases w;exact .nil
 |cons n ns ih=>
  intro vs w;rw[II]at w;cases w with
  |cons a b=>cases a;exact .cons _ _ (ih _ b)
theorem rM {l:OpenLaw}{n:Nat}(hn:l.most=some n){P:Params}
 (hpre:l.row.toRowW.claim.pre args=true) (hwl:WellAll P h vals args) :
 ∃ a vs ns,vals=[Value.ref a]/\args=[WData.list (ns.map WData.int)]/\h.get? a=some { cls:=.type "list",data:=.seq vs.toArray }/\IntsAre vs ns/\ns.length<=n:=by
 have hsh:WShape.hasAll [] args [.list .int]=true:=(pre_splitW hpre).1;have hc:l.pre.holds [] { args:=args }=true:=(pre_splitW hpre).2;obtain⟨d,r,rfl,h1,h2⟩:=hasAllW_cons hsh;obtain rfl:=hasAllW_nil h2;obtain⟨xs,rfl,h3⟩:=hasW_list h1;obtain⟨ns,rfl⟩:=items_int h3;have bH:ns.length<=n:=by
  unfold OpenLaw.pre at hc;have h4:(WTm.not (.lt (.lit (.int (n:Int))) (.len (.arg 0)))).holds [] { args:=[.list (ns.map .int)] }=true:=by have h4:=(holds_andW hc).1;rw[hn]at h4;exact h4
  have h5:=condW_of h4 (w_not (w_lt w_lit (w_len_list (w_arg rfl))))
  grind
 cases hwl with
 |cons w1 w2=>
  cases w2;cases w1 with
  |list ho Bt=>exact⟨_,_,ns,rfl,rfl,ho,jy ns _ Bt,bH⟩
theorem rN (l:OpenLaw)(args:List WData):l.row.toRowW.claim.post args (.bool true) args=true:=
 postW_of (r:=l.row.toRowW) (X:=(true==true))
  (show WShape.has [] (.bool true) .bool=true by first|rfl|decide|simp[WShape.has,WShape.arms,WShape.armsAll])
  (show(WTm.eq .res (.lit (.bool true))).value [] { args:=args,res:=some (.bool true),after:=args }=some (.bool (true==true)) from w_eq_bool (w_res rfl) w_lit) rfl
theorem attach_call {l:OpenLaw}{n:Nat}{XP:(Str->Option LO)->Heap->Prop}{YP:World->Heap->Prop}
 (hn:l.most=some n) (hdf:d.params.defaults=[])
 (call:∀(w:World)(s₀ s₁:LL)(mg mb:Str->Option LO)(fa:Addr)(o:Obj)(pm cd doc:LO)(a:Addr)(vs:List LO)(ns:List Int),
   Ground q loose [] XP w s₀ mg mb s₁.heap->YP w s₁.heap->
   s₁.heap.get? fa=some o->o.data=.func (docDef d.name d.params d.body d.scope pm cd doc)->s₁.heap.CodeRec cd d.name->mg d.name=some (.ref fa)->
   s₁.heap.get? a=some { cls:=.type "list",data:=.seq vs.toArray }->IntsAre vs ns->ns.length<=n->s₁.gens=#[]->
   codeAny (model l.prog w) callerA (.call (.ref fa) ⟨[.ref a],[]⟩) (fun r s'=>r=.ok (.ret (.bool true))/\OldK s₁.heap s'.heap/\s'.os=s₁.os/\AllBare s'.gens) s₁) :
 WalkO q loose XP YP l.row.toRowW d [] (fun f vs=>PySem.call f vs):=by
 intro w s₀ s₁ mg mb G Y fa o pm cd doc dV kV ho hd hcd hD hmg hg args vals as hpre hlay hrd hwl hlo;obtain rfl:dV=.none:=Dflts.none hD hdf;obtain rfl:kV=.none:=Dflts.noKw hD;obtain⟨a,vs,ns,rfl,rfl,hobj,hints,bH⟩:=rM hn hpre hwl;refine enter_call (Lr (call w s₀ s₁ mg mb fa o pm cd doc a vs ns G Y ho (fd_plain hd) hcd hmg hobj hints bH hg) fun r s' hq=>?_);obtain⟨rfl,h2,h3,h4⟩:=hq;exact⟨.inl ⟨.bool true,.bool true,[],rfl,fun _=>rfl,.bool true,rN l _,fun _=>⟨List.Pairwise.nil,fun _ hm=>(nomatch hm)⟩⟩,h2,h3,h4⟩
end Att
namespace L2
open PySem PySem.Spec PyProof.Rows
noncomputable def dD (s:Stmt)(j:Nat):Stmt:=match s with
 | .ClassDef _ _ _ body _ _ _ _ _ _ _=>body.getD j (.Pass ⟨0,0,0,0⟩)
 |_=>.Pass ⟨0,0,0,0⟩
noncomputable def bK (s:Stmt):Arguments:=match s with
 | .FunctionDef _ a _ _ _ _ _ _ _ _=>a
 |_=>{ posonlyargs:=[],args:=[],vararg:=none,kwonlyargs:=[],kw_defaults:=[],kwarg:=none,defaults:=[] }
noncomputable def bA (s:Stmt):List Stmt:=match s with
 | .FunctionDef _ _ b _ _ _ _ _ _ _=>b
 |_=>[]
noncomputable def aA (s:Stmt):Scope:=match s with
 | .FunctionDef _ _ _ _ _ _ sc _ _ _=>sc
 |_=>{ kind:=.function,names:=[],isGenerator:=false,isCoroutine:=false }
noncomputable abbrev gS:uc:=fun _ _ _ _ _ _=>False
noncomputable abbrev E0:XK:=fun _ _ _=>False
theorem bf:d9 gS X E0:=fun _ _ _ _ _ _ _ h=>h.elim
structure wV (K:LM) (x qual:Str) (st:Stmt) (f:Addr) (fd:FuncData):Prop where
 ex:∃(oc:LO)(od:Option Addr)(kV doc pm:LO)(an:Option Addr)(cdv ct:LO)(osl:Array (Option LO)),
  fd=PySem.W.fnOf x qual (bK st) (bA st) (aA st) .none kV doc pm an cdv ct/\K.lookup f=some ⟨oc,od,.func fd,osl⟩/\PySem.W.codeIn K cdv qual=true
 kp:PySem.W.keepIn K (.ref f)=true
section
variable {P:LN}{w:World}{K:LM}{mg:Str->Option LO}{base:Heap}
theorem wV.ok {x qual:Str}{st:Stmt}{f:Addr}{fd:FuncData}{N ps:List Str}{k:Nat}{sp:Sp}(F:wV K x qual st f fd)(S:aL N ps (aA st))(len:∀ vs H Q E,sp vs H Q E->vs.length=ps.length)
 (hbody:∀(cdv:LO)(A:LP)(outer:List Env)(s:LL)(H:Hp)(vs:List V)(Q:VK)(E:XK),cv k (A.deeper (envOfC qual (aA st) s.heap.objs.size f cdv))->sp vs H Q E->
   ∃ t,PSs (py gS P w K mg base N qual (aA st) f cdv A outer s H E).D0 (bA st) t/\t (eQ Q) (bc N vs) H):bz P w K mg base gS (k+1) f fd ps sp:=by
 obtain⟨oc,od,kV,doc,pm,an,cdv,ct,osl,rfl,lk,hcd⟩:=F.ex;refine uf lk hcd S len fun A outer s H vs Q E hr hsp=>?_;obtain⟨t,h,q⟩:=hbody cdv A outer s H vs Q E hr hsp;exact⟨t,h.D0,q⟩
theorem wV.binds {x qual:Str}{st:Stmt}(F:wV K x qual st f fd)
 (h:∀(kV doc pm:LO)(an:Option Addr)(cdv ct:LO)(us:List LO),us.length=ps.length->bindArgs (PySem.W.fnOf x qual (bK st) (bA st) (aA st) .none kV doc pm an cdv ct) ⟨us,[]⟩=pure (ps.zip us)):Binds K fd ps []:=by
 obtain⟨oc,od,kV,doc,pm,an,cdv,ct,osl,rfl,lk,hcd⟩:=F.ex;exact .all (h kV doc pm an cdv ct)
theorem ur {x qual:Str}{st:Stmt}{f:Addr}{oc:LO}{od an:Option Addr}{osl:Array (Option LO)}{kV doc pm cdv ct:LO}(l:K.lookup f=some ⟨oc,od,.func (PySem.W.fnOf x qual (bK st) (bA st) (aA st) .none kV doc pm an cdv ct),osl⟩)
 (c:PySem.W.codeIn K cdv qual=true) (k:PySem.W.keepIn K (.ref f)=true):wV K x qual st f (PySem.W.fnOf x qual (bK st) (bA st) (aA st) .none kV doc pm an cdv ct):=⟨⟨oc,od,kV,doc,pm,an,cdv,ct,osl,rfl,l,c⟩,k⟩
end
theorem cM (hr:cv k A):A.units+1<cLine:=Jy (Lh (by decide:1<=64) _) hr.units
section
theorem pv (i:Nat){x:Str}{pos:Pos}(hN:autoParam (X.N[i]?=some x) LW._auto_1)(hv:autoParam (EG X.env.scope x) LS._auto_1)(hd:autoParam (dB x) LQ._auto_1)
 (hcd:autoParam ((x==("__classdict__" : Str))=false) LQ._auto_1):PE X (.Name x pos) (ao i):=zO hN hv hd hcd
end
theorem cg {A B:Prop}(h:B):if false=true then A else B:=by rw[IK IX];exact h
theorem di {A B:Prop}(h:A):if true=true then A else B:=by rw[IS rfl];exact h
theorem ut {c A B:Prop}[Decidable c](h1:c->A)(h2:¬ c->B):if c then A else B:=by
 by_cases h:c
 .rw[IS h];exact h1 h
 .rw[IK h];exact h2 h
def Same (H H':Hp):Prop:=∀ b o,H b=some o->H' b=some o
theorem Same.trans (a:Same H H1)(b:Same H1 H2):Same H H2:=fun c o h=>b c o (a c o h)
theorem Same.free (e:Same H H')(h:H' l=Option.none):H l=Option.none:=by
 cases q:H l with
 |none=>rfl
 |some o=>rw[e l o q]at h;cases h
def rO (P:LN)(w:World):uc:=fun outer H s E e s'=>
 ∃(x C t:Addr)(B:Heap)(H':Hp),e=.ref x/\s'.os=s.os/\AllBare s'.gens/\Un (fX outer) [] H H' s.heap s'.heap/\HOk P w H' s'.heap/\
  Heap.FlyingW B outer x (.ref C) (.ref t) s'.heap/\(∀ b u,H' b=some u->∃ o,B.get? b=some o)/\(∀ b o,s.heap.get? b=some o->Qt H b->b∉fX outer->B.get? b=some o)/\
  (∀ b o,s.heap.get? b=some o->b∉fX outer->∃ o',B.get? b=some o')/\H' x=none/\E (.ref C) none H'
theorem i5 {H:Hp}{B h1 h2:Heap}(ok:HOk P w H h1)(nK:∀ b u,H b=some u->∃ o,B.get? b=some o)(s1:B.StaysIn h1)(s2:B.StaysIn h2):HOk P w H h2:=fun a o e=>(ok a o e).stay (fun b u hb q=>by have hb':∃ v,H b=some v:=hb.elim (fun z=>⟨o,by rw[z];exact e⟩) fun z=>⟨_,z⟩;obtain⟨v,hv⟩:=hb';obtain⟨o',ho⟩:=nK b v hv;have:=s1 b o' ho;rw[q]at this;cases this;exact s2 b _ ho) (fun _ q=>q) fun _ _ q=>q
theorem j5:∀{o:HO},ObjOk P w H h a o->∃ ob,h.get? a=some ob
 | .lst xs,x=>by obtain⟨_,_,_,_,e⟩:=x;exact⟨_,e⟩
 | .tup xs,x=>by obtain⟨_,_,_,⟨_,e,_⟩⟩:=x;exact⟨_,e⟩
 | .dK kvs,x=>by obtain⟨_,_,_,_,o,_,_,e,_⟩:=x;exact⟨_,e⟩
 | .dT kvs,x=>by obtain⟨_,_,_,_,o,_,_,e,_⟩:=x;exact⟨_,e⟩
 | .set S n,x=>by obtain⟨o,_,_,_,e,_⟩:=x;exact⟨_,e⟩
 | .ins C dx fs,x=>by obtain⟨_,_,_,e,_⟩:=x;exact⟨_,e⟩
 | .own y,x=>x
 | .xd fs,x=>by obtain⟨_,⟨_,_,_,e,_⟩,_⟩:=x;exact⟨_,e⟩
 | .EB lo hi,x=>by obtain⟨_,_,_,e⟩:=x;exact⟨_,e⟩
 | .bO ob u,x=>by obtain⟨e,_⟩:=x;exact⟨_,e⟩
 | .wt ps,x=>⟨_,(show h.get? a=some _ from x)⟩
 | .met f y,x=>⟨_,(show h.get? a=some _ from x)⟩
 | .ext φ,x=>x.2.1
section
variable {P:LN}{w:World}{K:LM}{mg:Str->Option LO}{base:Heap}{N:List Str}{qual:Str}{scope:Scope}{f:Addr}{cd:LO}{A:LP}{outer:List Env}{s₀:LL}{H₀:Hp}{E:XK}
abbrev lM (P:LN)(w:World)(K:LM)(mg:Str->Option LO)(base:Heap)(N:List Str)(qual:Str)(scope:Scope)(f:Addr)(cd:LO)(A:LP)(outer:List Env)(s:LL)(H:Hp)(E:XK):Cx:=py (rO P w) P w K mg base N qual scope f cd A outer s H E
theorem nZ (I:Inv (lM P w K mg base N qual scope f cd A outer s₀ H₀ E) ae σ H s)(e:s₀.heap.get? b=some o)(hb:b∉fX outer) :
 b∉fX (lM P w K mg base N qual scope f cd A outer s₀ H₀ E).stack:=fun z=>by
 rcases ID.mp (I.kW b z) with q|q
 .exact absurd (I0 (Iz e) (IV I.ok.above (Lq q.symm))) (JI _)
 .exact hb q
theorem pF (hb:b∈fX outer):b∈fX (lM P w K mg base N qual scope f cd A outer s₀ H₀ E).stack:=by show b∈fX (envOfC qual scope s₀.heap.objs.size f cd::outer);unfold fX;rw[KC];have:(envOfC qual scope s₀.heap.objs.size f cd).frame=some s₀.heap.objs.size:=rfl;rw[this];exact Iw _ hb
theorem xw:d9 (rO P w) (lM P w K mg base N qual scope f cd A outer s₀ H₀ E) E:=by
 intro ae σ H s e s' I h;obtain⟨x,C,t,B,H',rfl,os,bare,un,aO,fly,nK,unt,inB,hx,hE⟩:=h;show wpAny _ _ (leaving _ _) _ _ s';have nx:∀ b:Addr,b∉(lM P w K mg base N qual scope f cd A outer s₀ H₀ E).ex:=fun b z=>absurd (show b∈([]:List Addr) from z) (by simp);refine wpAny_leaves_onW I.ok.frames rfl fly fun h' fly' up=>?_;have nf:∀ b,b∈fX outer->∀ o,s'.heap.get? b=some o->∀ vs,o.data≠.fields vs:=fun b hb o e=>by obtain⟨_,o',e',d⟩:=fly.2.2.1.mem (pF (P:=P) (w:=w) (K:=K) (mg:=mg) (base:=base) (N:=N) (H₀:=H₀) (E:=E) (A:=A) hb);rw[e]at e';cases e';exact d
 refine⟨x,C,t,B,H',rfl,os.trans I.os,bare,⟨fun b o e n hb _=>?_,fun b o e n hb _=>?_,fun b o e n _=>?_,fun b o e _=>?_,fun b xs q=>un.gw b xs (I.base.gw b xs q),fun b o u q=>un.gK b o u (I.base.gK b o u q),fun b ps q=>?_⟩,i5 aO nK fly.1 fly'.1,fly',nK,fun b o e n hb=>?_,fun b o e hb=>?_,hx,hE⟩
 .exact fly'.1 b o (unt b o (I.base.keep b o e n hb (nx b)) (n.imp (fun n=>I.base.free b o e n (nx b)) fun⟨xs,q⟩=>⟨xs,I.base.gw b xs q⟩) (nZ I e hb))
 .obtain⟨sl,e1⟩:=I.base.slot b o e n hb (nx b);obtain⟨sl',e2⟩:=un.slot b _ e1 (I.base.free b o e n (nx b)) (pF hb) (by simp);obtain⟨sl'',e3⟩:=up b _ e2 (nf b hb _ e2);exact⟨sl'',e3⟩
 .obtain⟨o1,e1⟩:=I.base.there b o e (nx b);exact un.free b o1 e1 (I.base.free b o e n (nx b)) (by simp)
 .obtain⟨o1,e1⟩:=I.base.there b o e (nx b);by_cases hb:b∈fX outer
  .obtain⟨o2,e2⟩:=un.there b o1 e1 (by simp);obtain⟨sl,e3⟩:=up b _ e2 (nf b hb _ e2);exact⟨_,e3⟩
  .obtain⟨o',q⟩:=inB b o1 e1 (nZ I e hb);exact⟨o',fly'.1 b o' q⟩
 .obtain⟨m1,e1⟩:=I.base.jG b ps q;obtain⟨m2,e2⟩:=un.jG b _ e1;exact⟨m1++m2,by rw[e2,Array.append_assoc]⟩
 .exact unt b o (I.base.keep b o e n hb (nx b)) (n.imp (fun n=>I.base.free b o e n (nx b)) fun⟨xs,q⟩=>⟨xs,I.base.gw b xs q⟩) (nZ I e hb)
 .obtain⟨o1,e1⟩:=I.base.there b o e (nx b);exact inB b o1 e1 (nZ I e hb)
theorem qB {s:LL}{h':Heap}{x C:Addr}{args:List LO}(I:Inv (lM P w K mg base N qual scope f cd A outer s₀ H₀ E) ae σ H s)(hx:Heap.MadeExcOf s.heap h' x (.ref C) args)(hE:E (.ref C) none H) :
 (lM P w K mg base N qual scope f cd A outer s₀ H₀ E).xe (.ref x) { s with heap:=h' }:=by
 show wpAny _ _ (leaving _ _) _ _ _;have nx:∀ b:Addr,b∉(lM P w K mg base N qual scope f cd A outer s₀ H₀ E).ex:=fun b z=>absurd (show b∈([]:List Addr) from z) (by simp);have hin:∀ env∈(lM P w K mg base N qual scope f cd A outer s₀ H₀ E).stack,∀ b,env.frame=some b->b∈fX (lM P w K mg base N qual scope f cd A outer s₀ H₀ E).stack:=fun env he b hb=>List.mem_filterMap.mpr ⟨env,he,hb⟩;have FF:=I.stack;refine wpAny_leaves_madeW (base:=PySem.W.hideAll s.heap (fX (lM P w K mg base N qual scope f cd A outer s₀ H₀ E).stack)) I.ok.frames rfl (fun b o q=>Lp _ q) (PySem.W.funFrames_hide FF hin) hx fun h'' t fly _ _ up=>?_;have inB:∀ b o,s.heap.get? b=some o->b∉fX (lM P w K mg base N qual scope f cd A outer s₀ H₀ E).stack->(PySem.W.hideAll s.heap (fX (lM P w K mg base N qual scope f cd A outer s₀ H₀ E).stack)).get? b=some o:=fun b o e hb=>PySem.W.hideAll_get _ e hb;have nK:∀ b u,H b=some u->∃ o,(PySem.W.hideAll s.heap (fX (lM P w K mg base N qual scope f cd A outer s₀ H₀ E).stack)).get? b=some o:=fun b u e=>by obtain⟨o,ho⟩:=j5 (I.aO b u e);exact⟨o,inB b o ho fun z=>by rw[I.nC b z]at e;cases e⟩
 have st:(PySem.W.hideAll s.heap (fX (lM P w K mg base N qual scope f cd A outer s₀ H₀ E).stack)).StaysIn s.heap:=fun b o q=>Lp _ q;have nf:∀ b,b∈fX outer->∀ o,s.heap.get? b=some o->∀ vs,o.data≠.fields vs:=fun b hb o e=>by obtain⟨_,o',e',d⟩:=FF.mem (pF (P:=P) (w:=w) (K:=K) (mg:=mg) (base:=base) (N:=N) (H₀:=H₀) (E:=E) (A:=A) hb);rw[e]at e';cases e';exact d
 have hxn:H x=none:=by
  cases q:H x with
  |none=>rfl
  |some u=>obtain⟨o,ho⟩:=j5 (I.aO x u q);rw[hx.new]at ho;cases ho
 refine⟨x,C,t,_,H,rfl,I.os,I.bare,⟨fun b o e n hb _=>?_,fun b o e n hb _=>?_,fun b o e n _=>I.base.free b o e n (nx b),fun b o e _=>?_,I.base.gw,I.base.gK,I.base.jG⟩,i5 I.aO nK st fly.1,fly,nK,fun b o e n hb=>?_,fun b o e hb=>?_,hxn,hE⟩
 .exact fly.1 b o (inB b o (I.base.keep b o e n hb (nx b)) (nZ I e hb))
 .obtain⟨sl,e1⟩:=I.base.slot b o e n hb (nx b);obtain⟨sl',e2⟩:=up b _ (hx.keeps b _ e1) (nf b hb _ e1);exact⟨sl',e2⟩
 .obtain⟨o1,e1⟩:=I.base.there b o e (nx b);by_cases hb:b∈fX outer
  .obtain⟨sl,e2⟩:=up b _ (hx.keeps b _ e1) (nf b hb _ e1);exact⟨_,e2⟩
  .exact⟨o1,fly.1 b o1 (inB b o1 e1 (nZ I e hb))⟩
 .exact inB b o (I.base.keep b o e n hb (nx b)) (nZ I e hb)
 .obtain⟨o1,e1⟩:=I.base.there b o e (nx b);exact⟨o1,inB b o1 e1 (nZ I e hb)⟩
theorem ER:PassesOwn (model P w) (lM P w K mg base N qual scope f cd A outer s₀ H₀ E).A (lM P w K mg base N qual scope f cd A outer s₀ H₀ E).env (lM P w K mg base N qual scope f cd A outer s₀ H₀ E).xe:=by
 show PassesOwn _ _ _ (fun e s'=>wpAny _ _ (leaving _ e) _ _ s')
 passes_own
end
abbrev n5:List LO:=[.type "ValueError",.type "Exception",.type "BaseException",.type "object"]
def uu (h:Heap) (C:Addr) (bm:List LO):Prop:=∃ N nm q bs hdct sn sub ab col dd k0 k1 k2 k3 k5 mN,h.get? C=some (excClassObj nm q C N bs bm hdct sn sub ab col dd k0 k1 k2 k3 k5 "ValueError.__new__")/\h.Ns N mN/\mN "__init__"=none/\OwnTail h n5 bm
noncomputable def j6 (K:LM)(C:Addr):List LO:=match K.lookup C with
 |some ⟨_,_,.cls cd,_⟩=>cd.mro
 |_=>[]
theorem j7 {K:LM} (X:K.In h) (q:PySem.W.excIn K C n5 "ValueError.__new__"=true):∃ bm,j6 K C=.ref C::bm/\uu h C bm:=by
 have q0:=q;unfold PySem.W.excIn at q;unfold j6;cases ho:K.lookup C with
 |none=>rw[ho]at q;cases q
 |some ob=>
  rw[ho]at q;split at q
  .rename_i dd cd sl he;injection he with he;subst he;dsimp only;split at q
   .rename_i D bm k0 k1 k2 k3 n k5 hm hs;rw[hm];simp only[Kq,Le,Bool.not_eq_true']at q;obtain⟨⟨⟨⟨⟨hD,hn⟩,hdel⟩,ht⟩,aO⟩,hni⟩:=q;refine⟨bm,by rw[hD],?_⟩;obtain⟨nm,bs,mro,ns,qn,hd,sn,sub,ab,col,del⟩:=cd;dsimp only at hm hdel aO hni;have es:sl=#[k0,k1,k2,k3,some (.builtin n),k5]:=by
     cases sl with
     |mk l=>simp only at hs;rw[hs]
    rw[hn]at es;subst es;have hC:=X _ _ ho;rw[hdel,hm,hD]at hC;exact⟨ns,nm,qn,bs,hd,sn,sub,ab,col,dd,k0,k1,k2,k3,k5,_,hC,.of_isNs (PySem.W.isNs_of_in X aO),PySem.W.nsMap_none_of_in X aO hni,PySem.W.tail_of_in X ht⟩
   .cases q
  .cases q
structure XC (K:LM) (mg:Str->Option LO) (c:Str) (C:Addr):Prop where
 gl:mg c=some (.ref C)
 ex:PySem.W.excIn K C n5 "ValueError.__new__"=true
section
variable {X:Cx}{c:Str}{C:Addr}{np cpos pos:Pos}{e₀:Expr}{rest:List Expr}{t:TA}
noncomputable def pG (t:TA)(EW:Hp->Prop):TS:=fun _ σ H=>t σ H fun vs H'=>vs.length<=sizeLine/\EW H'
theorem n8 {EW:Hp->Prop}(hc:XC X.K X.mg c C)(hg:Gl X c)(hcalm:X.calm=true)(ha:PA X (e₀::rest) t)
 (hl:∀(ae:List (Addr×Obj))(σ:St)(H:Hp)(s:LL)(h':Heap)(x:Addr)(args:List LO),Inv X ae σ H s->Heap.MadeExcOf s.heap h' x (.ref C) args->EW H->X.xe (.ref x) { s with heap:=h' })
 (he:autoParam (starEach (e₀::rest) X.env=(false,eval e₀ X.env)::starEach rest X.env) LW._auto_1) (hpl:autoParam (bT X cpos rest) LW._auto_1) (hd:autoParam (dB c) LQ._auto_1) :
 PS X (.Raise (some (.Call (.Name c np) (e₀::rest) [] cpos)) none pos) (pG t EW):=by
 intro ae s σ H D I h;obtain⟨bm,_,N,nm,q,bs,hdct,sn,sub,ab,col,dd,k0,k1,k2,k3,k5,mN,hC,hN,hni,TL⟩:=j7 I.ok.mod.BP hc.ex;have fb:=PySem.F.excBase_ValueError;refine wpAny_Raise_call_subU (C:=C) (nm:=nm) (q:=q) (N:=N) (bs:=bs) (bm:=bm) (hdct:=hdct) (sn:=sn) (sub:=sub) (ab:=ab) (col:=col) (dd:=dd) (k0:=k0) (k1:=k1) (k2:=k2) (k3:=k3) (k5:=k5) (bmB:=n5)
  fb (by decide +kernel) fb (mN:=mN) (TL.hasType fb.hasBase) (I.ok.hd hcalm) ?_ hni (gz I hg hc.gl ⟨rfl,?_⟩ hd)
 .rw[he];show(false || (backTo cpos (starEach rest X.env)).any (·.1))=false;rw[hpl];rfl
 .have ha':=ha cpos ae s σ H _ I h;rw[he]at ha' ⊢;refine Ke (JC ha' (fun us s2 ⟨vs,H2,I2,r,q2⟩=>?_) fun _ _ y=>y);exact⟨rfl,by rw[<- r.length];exact q2.1,I2.bk _ _ hC,hN.keeps I2.bk,TL.keeps I2.bk,fun h' e hm=>hl ae σ H2 s2 h' e us I2 hm q2.2⟩
end
section
variable {M:Model}{A:LP}{E:LO->LL->Prop}
theorem k9 (hC:uu s.heap C bm)(hC':uu s.heap C' bm')(he:s.heap.get? e=some oe)(hcls:oe.cls=.ref C)
 (hq:Q ((Value.ref C::bm).contains (.ref C')) s):wpAny M A (excMatches (.ref e) (.ref C')) Q E s:=by
 obtain⟨N,nm,q,bs,hd,sn,sub,ab,col,dd,k0,k1,k2,k3,k5,mN,hC,_,_,_⟩:=hC;obtain⟨N',nm',q',bs',hd',sn',sub',ab',col',dd',k0',k1',k2',k3',k5',mN',hC',_,_,TL'⟩:=hC';obtain⟨h,g,d,t,os⟩:=s;have hcB:(Value.ref C'::bm').contains (.type "BaseException")=true:=by rw[List.contains_cons,TL'.hasType PySem.F.excBase_ValueError.hasBase,Bool.or_true]
 have f:=tc_notTuple;unfold excMatches
 repeat (first|(with_reducible refine wpAny_loadPart_at he ?_;rw[hcls])|with_reducible refine wpAny_loadPart_at hC' ?_|(with_reducible refine wpAny_isSubtype_exc hC' ?_;rw[hcB])|with_reducible refine wpAny_isSubtype_exc hC ?_|wp_step)
 cases hb:(Value.ref C::bm).contains (.ref C')<;>(rw[hb]at hq;wp_walk;exact hq)
end
abbrev TX:=St->Hp->VK->XK->Prop
def ES (X:Cx)(e:Expr)(t:TX):Prop:=∀(ae:List (Addr×Obj))(s:LL)(σ:St)(H:Hp)(Q:VK)(EX:XK),Inv X ae σ H s->t σ H Q EX->
 wpAny (model X.prog X.w) X.A (eval e X.env) (EP X ae σ Q) (fun ev s'=>∃ H1 s1,Inv X ae σ H1 s1/\rO X.prog X.w X.stack H1 s1 EX ev s') s
section
variable {X:Cx}{k:Nat}{f:Addr}{fd:FuncData}{ps:List Str}{sp:Sp}{dvs:List V}{ds:List LO}{x:Str}{p pos:Pos}{e:Expr}{es:List Expr}{t:TA}
theorem n9 (F:bz X.prog X.w X.K X.mg X.base (rO X.prog X.w) k f fd ps sp)(hr:cv k X.A)(hg:Gl X x)(hm:X.mg x=some (.ref f))(hk:PySem.W.keepIn X.K (.ref f)=true)(hb:Binds X.K fd ps ds)(hd:Vals dvs ds)(ha:PA X.D0 (e::es) t)
 (hdb:autoParam (dB x) LQ._auto_1) (he:autoParam (sE X e es) LW._auto_1) (hpl:autoParam (bT X pos es) LW._auto_1) :
 ES X (.Call (.Name x p) (e::es) [] pos) (fun σ H Q EX=>t σ H fun vs H1=>sp (vs++dvs) H1 Q EX):=by
 intro ae s σ H Q EX I h;refine JR (gz I hg hm ?_ hdb);refine KI (h₀:=X.base) I.ok.mod.BP hk (JC (ha pos ae s σ H _ (I.kR _) h) (fun us s1 ⟨vs,H1,I1,r,q⟩=>⟨I1.hV,?_⟩) fun _ _ z=>False.elim z) he hpl;have J:Inv X ae σ H1 s1:=I1.fS;have r2:Vals (vs++dvs) (us++ds):=r.append hd;have hl:(us++ds).length=ps.length:=by rw[<- r2.length];exact F.len _ _ _ _ q
 refine wpAny_call (Lr (F.run X.A X.stack s1 H1 ⟨us,[]⟩ (us++ds) (vs++dvs) Q EX hr J.By (hb s1 us J.hV hl) r2 q) fun r s' hq=>?_);cases r with
 |error ev=>exact⟨H1,s1,J,hq⟩
 |ok fl=>
  cases fl with
  |ret u=>exact J.after hq
  |next=>exact False.elim hq
  |brk=>exact False.elim hq
  |cont=>exact False.elim hq
end
noncomputable abbrev Cx.caught (X:Cx)(x:Addr):Cx:={ X with A:=X.A.mark (some (.ref x)),calm:=false,xe:=fun _ _=>False }
section
variable {X:Cx}{ae:List (Addr×Obj)}{σ:St}{H:Hp}{s:LL}{x:Addr}
theorem Inv.caught (I:Inv X ae σ H s)(x:Addr):Inv (X.caught x) ae σ H s:=⟨⟨I.ok.mod,I.ok.kind,I.ok.glob,I.ok.blt,I.ok.above,I.ok.inj,I.ok.has,I.ok.yK,(fun z=>by cases z),I.ok.frames,I.ok.aV,I.ok.B0,I.ok.bs,I.ok.tL,I.ok.nw,I.ok.oZ,I.ok.gJ,I.ok.wu,I.ok.kt⟩,I.os,I.bare,I.base,I.loc,I.cell,I.free,I.dc,I.pin,I.aO,I.len⟩
theorem Inv.uncaught (I:Inv (X.caught x) ae σ H s)(ok:X.Ok):Inv X ae σ H s:=⟨ok,I.os,I.bare,I.base,I.loc,I.cell,I.free,I.dc,I.pin,I.aO,I.len⟩
theorem SP.uncaught {D:Ends}{f:Flow}{s':LL}(h:SP (X.caught x) ae D f s')(ok:X.Ok):SP X ae D f s':=by
 cases f with
 |next=>obtain⟨σ',H',I,q⟩:=h;exact⟨σ',H',I.uncaught ok,q⟩
 |brk=>obtain⟨σ',H',I,q⟩:=h;exact⟨σ',H',I.uncaught ok,q⟩
 |cont=>obtain⟨σ',H',I,q⟩:=h;exact⟨σ',H',I.uncaught ok,q⟩
 |ret u=>obtain⟨v,σ',H',I,r,q⟩:=h;exact⟨v,σ',H',I.uncaught ok,r,q⟩
theorem Inv.landed {H1:Hp}{s1 s':LL}{B:Heap}{h6:Heap}{C t:Addr}{g6:Array GenState}{l:List Env}(I:Inv X ae σ H1 s1)(os:s'.os=s1.os)(bare:AllBare s'.gens)(un:Un (fX X.stack) [] H1 H s1.heap s'.heap)(aO:HOk X.prog X.w H s'.heap)(fly:Heap.FlyingW B X.stack x (.ref C) (.ref t) s'.heap)
 (nK:∀ b u,H b=some u->∃ o,B.get? b=some o) (unt:∀ b o,s1.heap.get? b=some o->Qt H1 b->b∉fX X.stack->B.get? b=some o) (inB:∀ b o,s1.heap.get? b=some o->b∉fX X.stack->∃ o',B.get? b=some o')
 (st:B.StaysIn h6) (up:s'.heap.UpToSlots h6):Inv X ae σ H { s' with heap:=h6 }:=by
 have nf:∀ b,b∈fX X.stack->∀ o,s'.heap.get? b=some o->∀ vs,o.data≠.fields vs:=fun b hb o e=>by obtain⟨_,o',e',d⟩:=fly.2.2.1.mem hb;rw[e]at e';cases e';exact d
 refine I.zC (ch:=[]) os ⟨fun b o e n hb _=>st b o (unt b o e n hb),fun b o e n hb _=>?_,fun b o e n hx=>un.free b o e n hx,fun b o e hx=>?_,un.gw,un.gK,un.jG⟩ (i5 aO nK fly.1 st) bare fun b z=>absurd z (by simp)
 .obtain⟨sl,e1⟩:=un.slot b o e n hb (by simp);obtain⟨sl',e2⟩:=up b _ e1 (nf b hb _ e1);exact⟨sl',e2⟩
 .by_cases hb:b∈fX X.stack
  .obtain⟨o1,e1⟩:=un.there b o e (by simp);obtain⟨sl',e2⟩:=up b _ e1 (nf b hb _ e1);exact⟨_,e2⟩
  .obtain⟨o',q⟩:=inB b o e hb;exact⟨o',st b o' q⟩
end
def f_ (X:Cx) (Ch:Addr) (ts:TS) (D:Ends) (σ:St):XK:=fun cls _ H1=>∃ C,cls=.ref C/\PySem.W.excIn X.K C n5 "ValueError.__new__"=true/\(j6 X.K C).contains (.ref Ch)=true/\ts D σ H1
section
variable {X:Cx}{hc:Str}{Ch:Addr}{np hpos:Pos}{b₀:Stmt}{suite:List Stmt}{ts:TS}
theorem j8 {ae:List (Addr×Obj)}{σ:St}{D:Ends}{ev:LO}{s':LL}(hst:X.stack=X.env::X.outer)(hf:X.env.frame=some X.env.locals)(hx:XC X.K X.mg hc Ch)(hg:Gl X hc)(hs:∀ x,PSs (X.caught x) (b₀::suite) ts)
 (h:∃ H1 s1,Inv X ae σ H1 s1/\rO X.prog X.w X.stack H1 s1 (f_ X Ch ts D σ) ev s') (hdb:autoParam (dB hc) LQ._auto_1) :
 wX X (noteFrame ev X.env) (fun _ s2=>wX X (setFlight ev none) (fun _ s3=>wX X (handleBy ev X.env [.ExceptHandler (some (.Name hc np)) none (b₀::suite) hpos]) (SP X ae D) X.xe s3) X.xe s2) X.xe s':=by
 obtain⟨H1,s1,I1,x,C,t,B,H',rfl,os,bare,un,aO,fly,nK,unt,inB,hxn,C0,ec,hex,hmr,q⟩:=h;cases ec;have fly':Heap.FlyingW B (X.env::X.outer) x (.ref C) (.ref t) s'.heap:=hst▸fly;have fr:X.A.frames=some (X.env::X.outer):=hst▸I1.ok.frames;refine wpAny_looks_onW fr hf fly' fun h4 held up4=>?_;refine wpAny_landsW held fun h5 fly5 up5=>?_;have up45:=up4.trans up5;have I5:Inv X ae σ H' { s' with heap:=h5 }:=I1.landed (l:=[]) (g6:=#[]) os bare un aO fly nK unt inB fly5.1 up45;obtain⟨bm,em,hC⟩:=j7 I5.hV hex;obtain⟨bm',em',hC'⟩:=j7 I5.hV hx.ex;obtain⟨oe,he,hcls⟩:=fly5.there;refine wpAny_handleBy_cons (codeAny_handlers_test (gz (X:=X.caught x) (I5.caught x) hg hx.gl ?_ hdb)) (by intro z;cases z);refine k9 hC hC' he hcls ?_;rw[em]at hmr;rw[hmr];refine codeAny_handlers_suite ?_;refine lands_againW fly5 fun h6 fly6 up6=>?_;have I6:Inv X ae σ H' { s' with heap:=h6 }:=I1.landed (l:=[]) (g6:=#[]) os bare un aO fly nK unt inB fly6.1 (up45.trans up6);exact JC (hs x ae _ σ H' D (I6.caught x) q) (fun f s7 h7=>h7.uncaught I6.ok) fun _ _ z=>False.elim z
end
end L2
namespace L2
open PySem PySem.Spec PySem.Calls PyProof.Rows
theorem jz
 (hx:s.heap.get? a=some o) (hc:o.cls=.type "list") (hdat:o.data=.seq xs k) (hd:o.dict=none) (hmiss:typeLookup (.type "list") name=pure none) (hname:(["__module__", "__name__", "__qualname__", "__doc__", "__annotations__"]:List Str).contains name=false) (hA:A.handled=none)
 (h:∀ h' tk e,Heap.NewExcOf s.heap h' e "AttributeError"->Q none { s with heap:=h',toks:=tk }) (hsz:name.length+100<=sizeLine:=by size_fits) :
 wpAny (model prog w) A (getAttr? (.ref a) name) Q E s:=by
 obtain⟨c,dct,dat,sl⟩:=o;simp only at hc hdat hd;subst hc hdat hd;obtain⟨hp,g,d,tk,os⟩:=s;have hT:∀ tk',(⟨hp,g,d,tk',os⟩ : LL).TypeIs (.ref a) "list":=fun _=>⟨_,hx,rfl⟩;have f1:=sub_AttributeError;have f3:=PySem.F.slot_list_getattribute.lookup;have f4:=PySem.F.slot_list_getattribute.bind (.ref a);have f5:=am_list_getattr_none;unfold getAttr? getAttrBy? getAttrBy
 repeat (any_goals (first|assumption|exact hT _|((with_reducible show wpAny _ _ (call (Value.builtin "list.__getattribute__") _ _) _ _ _);refine call_meets PySem.F.slot_list_getattribute (hT _) am_entry_list_getattribute (PySem.F.args_list_getattribute_2 _ _) (meets_getattribute_miss_list a xs k sl name _ hmiss hname hsz) ⟨hx,hA,fun h' tk' e hx'=>?_⟩)|wp_step))
 obtain⟨t',u',he⟩:=hx'.there;show wpAny _ _ (getattributeRaised _ _ _ _ _ _ _) _ _ _;unfold getattributeRaised
 repeat (any_goals (first|assumption|wp_step))
 exact h _ _ _ hx'.of
abbrev gT:=List ba×Addr×LO
noncomputable def qC (xs:List gT)(its:List gT):List gT:=its.foldl (fun xs x=>storedH xs x.1 x.2.1 x.2.2) xs
theorem iq:entryFor table "dict.update.loop"=some Builtin.«dict.update.loop»:=entryFor_of_tree (by kernel_rfl)
theorem dE:plainId "dict.update.loop"=true:=by decide +kernel
section
variable {prog:LN}{w:World}
abbrev tK (prog:LN)(w:World):=tupleKind (aI prog w)
def DRaw (prog:LN)(w:World)(h:Heap)(S:Addr)(xs:List gT):Prop:=∃ o es ep,h.get? S=some o/\o.ExactDict/\o.data=.dict es ep/\es.toList=xs.map (entryOfKey (tK prog w))/\(xs.map (·.1)).Nodup
theorem qD (x:(tK prog w).is h k a)(e:∀ b o,h.get? b=some o->h'.get? b=some o):(tK prog w).is h' k a:=by obtain⟨o,items,n,h1,r⟩:=x;exact⟨o,items,n,e _ _ h1,r⟩
theorem DRaw.of (d:DRaw prog w h S xs)(ks:∀ x∈xs,(tK prog w).is hb x.1 x.2.1)(e:∀ b o,hb.get? b=some o->h.get? b=some o):h.DictOfH (tK prog w) S xs:=by obtain⟨o,es,ep,h1,h2,h3,h4,h5⟩:=d;exact⟨o,es,ep,h1,h2,h3,h4,fun x hx=>qD (ks x hx) e,h5⟩
theorem pH (ks:∀ x∈xs,(tK prog w).is hb x.1 x.2.1)(hk:(tK prog w).is hb k a):∀ x∈storedH xs k a v,(tK prog w).is hb x.1 x.2.1:=by
 unfold storedH;split
 .intro x hx;obtain⟨y,hy,rfl⟩:=IT.mp hx;have:=ks y hy;unfold putAt;split<;>exact this
 .intro x hx;rcases IR.mp hx with hx|hx
  .exact ks x hx
  .simp at hx;subst hx;exact hk
theorem n_ {xs:List gT}{k:List ba}:(storedH xs k a v).length<=xs.length+1:=by
 unfold storedH;split
 .rw[Iq];lia
 .rw[IF];simp
variable {A:LP}{R:Result->LL->Prop}{I:Addr}{fp wr:List Addr}{G:Array GenState->Array GenState->Prop}{n:Nat}{P:Nat->LO->Prop}{St:Nat->LL->Prop}
theorem iu (W:WalksS prog w A.in1 I fp wr G n P St)(S:Addr)(hSf:S∉fp)(hu:A.in1.units<cLine)(hb:Heap)(hbS:hb.get? S=none)(hbw:∀ b∈wr,hb.get? b=none)(its:List gT)(hn:its.length=n)
 (hval:∀ i v,P i v->∃ p x,v=.ref p/\its[i]?=some x/\hb.IsTuple p #[.ref x.2.1,x.2.2]/\(tK prog w).is hb x.1 x.2.1) (hsz:n<=sizeLine) :
 ∀(k i:Nat)(s:LL)(xs:List gT)(j:Int),n-i=k->i<=n->St i s->(∀ b o,hb.get? b=some o->s.heap.get? b=some o)->(∀ x∈xs,(tK prog w).is hb x.1 x.2.1)->xs.length<=i->
  DRaw prog w s.heap S xs->
  (∀ s',Moved (S::wr) G s s'->s'.heap.DictOfH (tK prog w) S (qC xs (its.drop i))->R (.ok (.ret .none)) s')->
  codeAny (model prog w) A (.builtin "dict.update.loop" ⟨[.ref S,.ref I,rawInt j,.none],[]⟩) R s:=by
 have hSw:S∉wr:=fun h=>hSf (W.sub _ h);have hsub:∀ b∈wr,b∈S::wr:=fun b hb=>Iw _ hb;intro k;induction k with
 |zero=>
  intro i s xs j hk hi hst K ks hxl hS hR;have hin:i=n:=by lia
  subst hin;refine KL iq ?_;rw[Kf dE _];show wpAny _ A.in1 (pyNext (.ref I) >>= _) _ _ s;refine Il (W.done s _ _ hst fun s' hm=>?_);have hR':=hR s' (hm.mono hsub) (by rw[List.drop_of_length_le (by lia)];obtain⟨o,es,ep,ho,rest⟩:=hS;exact DRaw.of (hb:=hb) ⟨o,es,ep,hm.heap S _ hSw ho,rest⟩ ks fun b o e=>hm.heap b o (fun z=>by grind) (K b o e));show wpAny _ A.in1 (Builtin.Dict.addKeywords S [] >>= fun _=>ret Value.none) _ _ s';exact Il (Iu (Iu hR'))
 |succ k ih=>
  intro i s xs j hk hi hst K ks hxl hS hR;have hlt:i<n:=by lia
  refine KL iq ?_;rw[Kf dE _];show wpAny _ A.in1 (pyNext (.ref I) >>= _) _ _ s;refine Il (W.item i s _ _ hlt hst fun v s' hP hst' hm=>?_);obtain⟨p,x,rfl,hx,ht,fW⟩:=hval i v hP;have K':∀ b o,hb.get? b=some o->s'.heap.get? b=some o:=fun b o e=>hm.heap b o (fun z=>by grind) (K b o e);obtain⟨ot,hot,hct,nt,hdt⟩:=ht;have hT:s'.TypeIs (.ref p) "tuple":=⟨ot,K' _ _ hot,hct⟩;have hS':DRaw prog w s'.heap S xs:=by obtain⟨o,es,ep,ho,rest⟩:=hS;exact⟨o,es,ep,hm.heap S _ hSw ho,rest⟩
  refine Il (JW ?_);refine Il ?_;refine K4 ?_;unfold Builtin.Dict.pairItems;refine Il (wpAny_typeOf hT ?_);rw[IS (by decide)];refine Il (K5 (K' _ _ hot) hdt ?_);refine Iu ?_;show wpAny _ A.in1 (holding [Value.ref x.2.1,x.2.2] (dictSet S (.ref x.2.1) x.2.2)) _ _ s';refine JW ?_;refine wpAny_dictSet_heap (knd:=tK prog w) (hsz:=by lia) hu (qD fW K') (DRaw.of hS' ks K') fun h' hd' hs'=>?_;have K2:∀ b o,hb.get? b=some o->h'.get? b=some o:=fun b o e=>(hs'.2 b (fun z=>by grind)).trans (K' b o e);have hdrop:its.drop i=x::its.drop (i+1):=by
   have hil:i<its.length:=by lia
   rw[JE hil];rw[Ir hil]at hx;rw[IU hx]
  refine Iu ⟨Kx dE _,ih (i+1) _ (storedH xs x.1 x.2.1 x.2.2) (j+1) (by lia) hlt (W.frame _ s' _ _ hst' (J3 _ _) fun b hb o e=>?_) K2 (pH ks fW) (by have:=n_ (xs:=xs) (k:=x.1) (a:=x.2.1) (v:=x.2.2);lia) ?_ fun s'' hm'' hS''=>?_⟩
  .rw[hs'.2 b (fun h:b=S=>hSf (by grind))];exact e
  .obtain⟨o,es,ep,h1,h2,h3,h4,_,h5⟩:=hd';exact⟨o,es,ep,h1,h2,h3,h4,h5⟩
  .refine hR s'' (Moved.trans W.gtrans ((hm.mono hsub).then_heap (J3 _ _) fun b o hb e=>?_) hm'') (by rw[hdrop];exact hS'');rw[hs'.2 b (fun h:b=S=>hb (by grind))];exact e
end
section
variable {prog:LN}{w:World}{A:LP}{E:LO->LL->Prop}{s:LL}
theorem jA (hh:A.handled=none) (hu:A.in1.in1.units<cLine) (hl:s.heap.get? l=some { cls:=.type "list",data:=.seq items nl }) (hn:its.length=items.size) (hsz:items.size<=sizeLine)
 (hval:∀(i:Nat)(v:LO),items[i]?=some v->∃(p:Addr)(x:gT),v=.ref p/\its[i]?=some x/\s.heap.IsTuple p #[.ref x.2.1,x.2.2]/\(tK prog w).is s.heap x.1 x.2.1)
 (h:∀(h':Heap)(tk:Nat),h'.DictOfH (tK prog w) s.heap.objs.size (qC [] its)->(∀ b o,b<s.heap.objs.size->s.heap.get? b=some o->h'.get? b=some o)->Q (.ref s.heap.objs.size) { s with heap:=h',toks:=tk }) :
 wpAny (model prog w) A (call (.type "dict") [.ref l]) Q E s:=by
 refine callType_codes (Q₁:=fun obj s₁=>obj=.ref s.heap.objs.size/\s₁={ s with heap:=s.heap.push { cls:=.type "dict",data:=.dict #[] } }) PySem.F.kt_called_dict (PySem.F.kt_typeCall_dict_1 _) PySem.F.entry_dict_init (kt_code_dict_new _ ⟨rfl,rfl⟩) ?_;rintro obj s₁ ⟨rfl,rfl⟩;have hD:(s.heap.push { cls:=.type "dict",data:=.dict #[] }).get? s.heap.objs.size=some { cls:=.type "dict",data:=.dict #[] }:=IG _ rfl;have hT:Shared.TypeIs { s with heap:=s.heap.push { cls:=.type "dict",data:=.dict #[] } } (.ref s.heap.objs.size) "dict":=⟨_,hD,rfl⟩;refine⟨hT,PySem.F.args_dict_init_2 _ _,?_⟩;unfold Builtin.«dict.__init__»;refine Il ?_;unfold Builtin.Dict.selfAndRest;refine Il (J_ hT ?_);show wpAny _ _ (pure (s.heap.objs.size,[Value.ref l])) _ _ _;refine Iu ?_;show wpAny _ _ (Builtin.Dict.updateFrom "dict.__init__" s.heap.objs.size (.ref l) [] .none) _ _ _;unfold Builtin.Dict.updateFrom;have hl1:(s.heap.push { cls:=.type "dict",data:=.dict #[] }).get? l=some { cls:=.type "list",data:=.seq items nl }:=Ip _ hl;refine Il (wpAny_typeOf ⟨_,hl1,rfl⟩ ?_);rw[IS (by decide)];refine Il (jz (s:={ s with heap:=s.heap.push { cls:=.type "dict",data:=.dict #[] } }) hl1 rfl rfl rfl (am_miss_of_fast (by decide +kernel)) (by decide +kernel) (by simp[hh]) fun h1 tk1 e1 hx1=>?_);rw[IS (by decide)];refine Il (LA ?_);have k1:∀ b o,s.heap.get? b=some o->h1.get? b=some o:=fun b o e=>hx1.keeps b o (Ip _ e);have hl2:h1.get? l=some { cls:=.type "list",data:=.seq items nl }:=k1 _ _ hl;have hD1:h1.get? s.heap.objs.size=some { cls:=.type "dict",data:=.dict #[] }:=hx1.keeps _ _ hD;have hlt1:s.heap.objs.size<h1.objs.size:=Iz hD1;have hll:l<s.heap.objs.size:=Iz hl;refine Il (Kv (s:=⟨h1,s.gens,s.drawn,tk1,s.os⟩) ⟨_,hl2,rfl,nl,rfl⟩ ?_);have hh3:A.in1.in1.handled=none:=by simp[hh]
 have hno:∀ b,s.heap.objs.size<=b->s.heap.get? b=none:=fun b hb=>by
  cases q:s.heap.get? b with
  |none=>rfl
  |some o=>exact absurd (Iz q) (Nat.not_lt.mpr hb)
 have hneI:l≠h1.objs.size:=IN (Nat.lt_trans hll hlt1);have k2:∀ b o,h1.get? b=some o->(h1.push { cls:=.type "list_iterator",data:=.fields #[.ref l,.int 0 0] }).get? b=some o:=fun b o e=>Ip _ e;refine Iu ⟨Kx dE _,iu (A:=A.in1) ((Walks.list hh3 h1.objs.size l hneI items).toS) s.heap.objs.size ?_ hu s.heap (hno _ (Im _)) ?_ its hn hval hsz (items.size-0) 0 _ [] 0 rfl (IL _) ⟨⟨_,IG _ rfl,rfl,rfl⟩,⟨_,k2 _ _ hl2,rfl,nl,rfl⟩⟩ (fun b o e=>k2 _ _ (k1 b o e)) (fun x hx=>nomatch hx) (Im _) ⟨_,#[],0,k2 _ _ hD1,?_,rfl,rfl,Jh⟩ ?_⟩
 .simp only[ID,IC,K6,not_or];exact⟨IN hlt1,J7 hll⟩
 .intro b hb;simp only[ID,IC,K6]at hb;subst hb;exact hno _ (K7 hlt1)
 .exact⟨rfl,rfl,rfl⟩
 .intro s' hm hS';obtain⟨h',g',d',tk',os'⟩:=s';have eg:g'=s.gens:=hm.gens;have ed:d'=s.drawn:=hm.drawn;have eo:os'=s.os:=hm.os;subst eg;subst ed;subst eo;refine⟨rfl,h h' tk' hS' fun b o hb e=>hm.heap b o ?_ (k2 _ _ (k1 _ _ e))⟩;simp only[ID,IC,K6,not_or];exact⟨IN hb,IN (Nat.lt_trans hb hlt1)⟩
end
def ga (t kvs:List (List ba×V)):List (List ba×V):=kvs.foldl (fun t x=>bE t x.1 x.2) t
def jJ (H:Hp):List V->List (List ba×V)->Prop:=Paired fun v kv=>∃ p ka,v=.ref p/\H p=some (.tup [.ref ka,kv.2])/\H ka=some (.tup (kv.1.map kV))
section
variable {P:LN}{w:World}{H:Hp}{h:Heap}
theorem lN (ok:HOk P w H h):∀{vs:List V}{us:List LO}{kvs:List (List ba×V)},jJ H vs kvs->Vals vs us->
 ∃ its:List gT,its.length=us.length/\(∀(i:Nat)(v:LO),us[i]?=some v->∃(p:Addr)(x:gT),v=.ref p/\its[i]?=some x/\h.IsTuple p #[.ref x.2.1,x.2.2]/\(tK P w).is h x.1 x.2.1)/\
  ∀ t xs,KT H t xs->KT H (ga t kvs) (qC xs its)
 |_,_,_,.nil,.nil=>⟨[],rfl,fun i v e=>by simp at e,fun t xs r=>r⟩
 |_,_,_,.cons (a:=v) (b:=kv) q t,.cons (b:=u) r s=>by
  obtain⟨its,hl,hv,hk⟩:=lN ok t s;obtain⟨p,ka,rfl,hp,hka⟩:=q;cases r;obtain⟨_,is,r2,ot,ho,hc,n,hd⟩:=(show ObjOk P w H h p (.tup [.ref ka,kv.2]) from ok p _ hp);obtain⟨u1,u2,rfl,ru1,ru2⟩:=lF r2;cases ru1;refine⟨(kv.1,ka,u2)::its,by simp[hl],fun i v e=>?_,fun t xs rt=>?_⟩
  .cases i with
   |zero=>simp at e;subst e;exact⟨p,(kv.1,ka,u2),rfl,rfl,⟨ot,ho,hc,n,hd⟩,fx ok hka⟩
   |succ i=>exact hv i v (by simpa using e)
  .exact hk _ _ (rt.put kv.1 hka ru2)
theorem j9:∀(kvs t:List (List ba×V)),(ga t kvs).length<=t.length+kvs.length
 | [],t=>Im _
 |x::r,t=>by have:=j9 r (bE t x.1 x.2);have h2:=cw t x.1 x.2;show(ga (bE t x.1 x.2) r).length<=_;simp only[IM];lia
end
section
variable {X:Cx}
theorem pI (hc:X.calm=true) (hu:X.A.units+64<cLine):cK X (.type "dict") (fun xs H Q=>∃ l vs kvs,xs=[.ref l]/\Rd H l (.lst vs)/\jJ H vs kvs/\∀ p,H p=none->Q (.ref p) (upd H p (.dT (ga [] kvs)))):=by
 intro ae s σ H xs us Q I r h;obtain⟨l,vs,kvs,rfl,hl,hp,q⟩:=h;obtain⟨u,rfl,ru⟩:=eS r;obtain rfl:u=Value.ref l:=ru;obtain⟨hz,its,n,rv,hg⟩:=(show ObjOk X.prog X.w H s.heap l (.lst vs) from hl.ok I.aO);obtain⟨pi,pl,pv,pk⟩:=lN I.aO hp rv;have hsz:its.toArray.size<=sizeLine:=by rw[IB,<- rv.length];exact hz
 refine jA (I.ok.hd hc) (by show X.A.units+1+1<cLine;lia) hg (its:=pi) (by rw[pl,IB]) hsz (fun i v e=>pv i v (by simpa using e)) fun h' tk hD hk=>?_;have hf:H s.heap.objs.size=none:=I.aO.fresh (Im _);refine⟨.ref s.heap.objs.size,_,I.laid (a:=s.heap.objs.size) (o:=.dT (ga [] kvs)) (t':=tk) (fun b o e=>hk b o (Iz e) e) (Im _) ?_,rfl,q _ hf⟩;obtain⟨o,es,ep,h1,h2,h3,h4,_,h5⟩:=hD;refine⟨?_,Lg.mpr (Jn (IN I.big)),qC [] pi,(pk [] [] .nil).keeps fun b ys e=>?_,o,es,ep,h1,h2,h3,h4,h5⟩
 .have:=j9 kvs [];have h2:=JV hp;simp only[JZ]at this;lia
 .rw[au (am e hf)];exact e
end
end L2
namespace L2
open PySem PySem.Spec PySem.Calls PyProof.Rows PySem.W Builtin Builtin.ObjectAttr Builtin.Getset_descriptor
end L2
namespace L2
open PySem PySem.Spec PySem.Calls PyProof.Rows
section
theorem Inv.F9 (I:Inv X ae σ H s)(e:H a=some (.dK [])):Inv X ae σ (upd H a (.dT [])) s:=by
 obtain⟨z,y,vs,r,o,es,ep,h1,h2,h3,h4,h5⟩:=(show ObjOk X.prog X.w H s.heap a (.dK []) from I.aO a _ e);cases r;exact I.write (x:=a) (e:=a) (t':=s.toks) (h':=s.heap) (by rw[e];exact True.intro) (.inl rfl) (fun b u _ q=>q) ⟨o,h1⟩ ⟨z,y,[],.nil,o,es,ep,h1,h2,h3,(by
  generalize es.toList=l at h5;obtain⟨h5,_⟩:=h5;cases l with
  |nil=>rfl
  |cons x r=>cases h5),Jh⟩
end
def y9 (H:Hp)(a:Addr)(y:V)(r:Option V):Prop:=DGet H a y r\/(Rd H a (.dT [])/\(∃ k,y=kV k)/\r=none)\/(Rd H a (.dK [])/\(∃(b:Addr)(k:List ba),y=.ref b/\H b=some (.tup (k.map kV)))/\r=none)
section
theorem mC (x:ObjOk P w H h a (.dT [])):(a==sysModules)=false/\h.DictOf (aI P w) a []:=by
 obtain⟨z,y,xs,r,o,es,ep,h1,h2,h3,h4,h5⟩:=x;cases r;have e:es=#[]:=by grind
 subst e;exact⟨y,o,#[],ep,h1,h2,h3,fun x hx=>by simp at hx,by constructor,Jh⟩
theorem uv (x:ObjOk P w H h a (.dK [])):(a==sysModules)=false/\h.DictOfH (tupleKind (aI P w)) a []:=by
 obtain⟨z,y,vs,r,o,es,ep,h1,h2,h3,h4,h5⟩:=x;cases r;refine⟨y,o,es,ep,h1,h2,h3,?_,fun x hx=>(nomatch hx),Jh⟩;generalize es.toList=l at h5;obtain⟨h5,_⟩:=h5;cases l with
 |nil=>rfl
 |cons x r=>cases h5
theorem Ce (hu:A.units+1<cLine)(I:Inv X ae σ H s)(g:y9 H a y o)(ry:RelV y u)(h:∀ s',Inv X ae σ H s'->Q (.bool o.isSome) s') :
 wpAny (model X.prog X.w) A (compareOp .In u (.ref a)) Q E s:=by
 rcases g with g|⟨e,⟨k,rfl⟩,rfl⟩|⟨e,⟨b,k,rfl,eb⟩,rfl⟩
 .exact EQ hu I g ry h
 .obtain⟨y,dd⟩:=mC (e.ok I.aO);exact wpAny_in_of (gO ry) y dd.mapOf (h _ (I.tok _))
 .obtain rfl:u=Value.ref b:=ry;obtain⟨y,dd⟩:=uv (e.ok I.aO);exact wpAny_in_heap (JS hu) (fx I.aO eb) y dd (h _ (I.tok _))
end
noncomputable def j_:HO->Prop
 | .dK _=>True
 | .dT _=>True
 |_=>False
section
theorem Inv.view (I:Inv X ae σ H s)(hn:∀ b,H b=none->H' b=none)(ht:∀ b xs,H b=some (.tup xs)->H' b=some (.tup xs))(hf:∀ b o u,X.H₀ b=some (.bO o u)->H' b=some (.bO o u))
 (hb:∀ b ps,H b=some (.wt ps)->H' b=some (.wt ps)) (aO:HOk X.prog X.w H' s.heap):Inv X ae σ H' s where
 ok:=I.ok
 os:=I.os
 bare:=I.bare
 base:=⟨I.base.keep,I.base.slot,fun b o e n hx=>hn b (I.base.free b o e n hx),I.base.there,fun b xs e=>ht b xs (I.base.gw b xs e),hf,fun b ps e=>let ⟨m,q⟩:=I.base.jG b ps e;⟨m,hb b _ q⟩⟩
 loc:=I.loc
 cell:=I.cell
 free:=hn _ I.free
 dc:=fun x c e=>hn c (I.dc x c e)
 pin:=fun p hp=>let ⟨a,b,c⟩:=I.pin p hp;⟨a,hn _ b,c⟩
 aO:=aO
 len:=I.len
theorem qE (ok:HOk P w H h)(hd:∃ u,H d=some u/\(∀ y,u≠.own y)/\∀ xs,u≠.tup xs)(new:ObjOk P w (upd H d u') h d u'):HOk P w (upd H d u') h:=fun b v e=>by
 obtain⟨u,hu,h1,h2⟩:=hd;by_cases hb:b=d
 .subst hb;rw[af]at e;cases e;exact new
 .rw[au hb]at e;refine(ok b v e).stay (fun _ _ _ q=>q) (fun c q=>?_) fun c xs q=>?_
  .rw[au]
   .exact q
   .rintro rfl;rw[hu]at q;cases q;exact h1 _ rfl
  .rw[au]
   .exact q
   .rintro rfl;rw[hu]at q;cases q;exact h2 _ rfl
theorem qF (h:j_ u):(∀ y,u≠.own y)/\(∀ xs,u≠.tup xs)/\(∀ ps,u≠.wt ps)/\∀ o v,u≠.bO o v:=by cases u<;>first|exact h.elim|exact⟨fun _ z=>(nomatch z),fun _ z=>(nomatch z),fun _ z=>(nomatch z),fun _ _ z=>(nomatch z)⟩
theorem lP (hu:j_ u)(x:ObjOk P w H h d u)(ht:∀ b xs,H b=some (.tup xs)->H' b=some (.tup xs)):ObjOk P w H' h d u:=by
 cases u with
 |dK kvs=>exact x
 |dT kvs=>obtain⟨z,y,xs,r,q⟩:=x;exact⟨z,y,xs,Paired.yM r fun p q z=>⟨z.1,ht _ _ z.2.1,z.2.2⟩,q⟩
 |_=>exact hu.elim
theorem Inv.bO (I:Inv X ae σ H s)(e:H d=some u)(hu:j_ u)(ho:s.heap.get? d=some o):Inv X ae σ (upd H d (.bO o u)) s:=by
 obtain⟨n1,n2,n3,n4⟩:=qF hu;have ht:∀ b xs,H b=some (.tup xs)->upd H d (.bO o u) b=some (.tup xs):=fun b xs q=>by
  rw[au]
  .exact q
  .rintro rfl;rw[e]at q;cases q;exact n2 _ rfl
 refine I.view (fun b hb=>?_) ht (fun b o' u' q=>?_) (fun b ps q=>?_) (qE I.aO ⟨u,e,n1,n2⟩ ⟨ho,lP hu (I.aO d u e) ht⟩)
 .rw[au]
  .exact hb
  .rintro rfl;rw[e]at hb;cases hb
 .have q:=I.base.gK b o' u' q;rw[au]
  .exact q
  .rintro rfl;rw[e]at q;cases q;exact n4 _ _ rfl
 .rw[au]
  .exact q
  .rintro rfl;rw[e]at q;cases q;exact n3 _ rfl
theorem Inv.zG (I:Inv X ae σ H s)(e:H d=some u)(hu:j_ u):∀ o v,X.H₀ d≠some (.bO o v):=fun o v q=>by have:=I.base.gK d o v q;rw[e]at this;cases this;exact(qF hu).2.2.2 _ _ rfl
theorem Inv.Ee (I:Inv X ae σ H s)(e:H d=some (.bO o u))(hu:j_ u)(hn:∀ o v,X.H₀ d≠some (.bO o v)):Inv X ae σ (upd H d u) s:=by
 have ht:∀ b xs,H b=some (.tup xs)->upd H d u b=some (.tup xs):=fun b xs q=>by
  rw[au]
  .exact q
  .rintro rfl;rw[e]at q;cases q
 have x:ObjOk X.prog X.w H s.heap d u:=(show ObjOk X.prog X.w H s.heap d (.bO o u) from I.aO d _ e).2;refine I.view (fun b hb=>?_) ht (fun b o' u' q=>?_) (fun b ps q=>?_) (qE I.aO ⟨_,e,fun _ z=>(nomatch z),fun _ z=>(nomatch z)⟩ (lP hu x ht))
 .rw[au]
  .exact hb
  .rintro rfl;rw[e]at hb;cases hb
 .have q2:=I.base.gK b o' u' q;rw[au]
  .exact q2
  .rintro rfl;exact hn _ _ q
 .rw[au]
  .exact q
  .rintro rfl;rw[e]at q;cases q
end
theorem xx (h:(aI P w).is k u=true):RelV (kV k) u:=by
 rcases br (show hZ k u=true from h) with⟨i,t,rfl,rfl⟩|⟨x,t,rfl,rfl⟩
 .exact⟨t,rfl⟩
 .exact⟨t,rfl⟩
section
def Ei (X:Cx)(D:Ends):Ends where
 nx:=fun σ H=>D.nx σ H\/∃ d o u,H d=some (.bO o u)/\j_ u/\(∀ o v,X.H₀ d≠some (.bO o v))/\D.nx σ (upd H d u)
 rt:=D.rt
 bk:=D.bk
 ct:=D.ct
theorem pJ {st:Stmt}(h:PS X st t):PS X st (fun D σ H=>t (Ei X D) σ H):=by
 intro ae s σ H D I q;refine bI (h ae s σ H _ I q) fun f s' r=>?_;cases f with
 |next=>
  obtain⟨σ',H',I',r⟩:=r;rcases r with r|⟨d,o,u,e,hu,hn,r⟩
  .exact⟨σ',H',I',r⟩
  .exact⟨σ',_,I'.Ee e hu hn,r⟩
 |_=>exact r
end
section
theorem Ac (I:Inv X ae σ H s)(e:Rd H a (.dK kvs)\/(Rd H a (.dT [])/\kvs=[])) :
 kvs.length<=sizeLine/\(a==sysModules)=false/\∃ vs,KV kvs vs/\s.heap.DictOf (aI X.prog X.w) a vs:=by
 rcases e with e|⟨e,rfl⟩
 .exact ii I.aO e
 .obtain⟨y,dd⟩:=mC (e.ok I.aO);exact⟨IL _,y,[],.nil,dd⟩
end
section
theorem Ad {k:ba}{key dflt:LO}{Q:LO->LL->Prop}(fW:(aI prog w).is k key=true)(hm:s.heap.DictOf (aI prog w) d vs)(hn0:valueAt vs k=none)
 (h:∀ h',h'.DictOf (aI prog w) d (stored vs k dflt)->Heap.SameBut d s.heap h'->Q dflt { s with heap:=h',toks:=s.toks+1 }) (hsz:vs.length<=sizeLine):wpAny (model prog w) A (dictSetDefault d key dflt) Q E s:=by
 obtain⟨o,es,ep,ho,hc,hd,hk,hp,hn⟩:=hm;have hes:es.size<=sizeLine:=by
  have e1:=hp.length;have e2:es.toList.length=es.size:=by simp
  lia
 have hnone:vs.findIdx? (fun kv=>decide (kv.1=k))=none:=by
  rw[List.findIdx?_eq_none_iff];intro x hx;refine IQ fun e=>?_;have:(valueAt vs k).isSome=true:=by unfold valueAt;rw[Lz,List.find?_isSome];exact⟨x,hx,IJ e⟩
  rw[hn0]at this;cases this
 have hidx:(es.findIdx? fun e=>(aI prog w).is k e.key)=none:=by
  have:(es.findIdx? fun e=>(aI prog w).is k e.key)=vs.findIdx? fun kv=>decide (kv.1=k):=by rw[<- hp.findIdx k];obtain⟨l⟩:=es;simp
  rw[this];exact hnone
 have hnot:k∉vs.map (·.1):=not_mem_of_findIdx_none hnone;have hany:¬ (vs.any fun kv=>decide (kv.1=k))=true:=by rw[List.any_eq_true];rintro⟨kv,hkv,he⟩;exact hnot (IT.mpr ⟨kv,hkv,Ja he⟩)
 unfold dictSetDefault
 try with_reducible refine JW ?_
 refine Il ((aI prog w).pyHash fW ?_);refine Il (wpAny_dictFind_of (s:={ s with toks:=s.toks+1 }) fW ho hd hk ?_);rw[hidx];refine Il (LA (Il (wpAny_updateDictKeys (hz:=hes) (s:={ s with toks:=s.toks+1 }) ho hd (Iu (h _ ⟨_,_,ep+1,Ka _ ho (Obj.isFreed_of_dict (Kz hd _)),hc.mapDictKeys _,Kz hd _,hk.push fW _,?_,?_⟩ (Kn ..))))))
 .rw[stored,IK hany];have:=hp.append fW ((aI prog w).hash k) dflt;obtain⟨l⟩:=es;simpa using this
 .rw[stored,IK hany,IW,Jv];refine⟨hn,by simp,?_⟩;intro a ha b hb;simp only[II,Ku,IA]at hb;subst hb;exact fun e=>hnot (e▸ha)
end
section
def y_:V->List V->Hp->VK->Prop:=fun x xs H Q=>∃ a k y kvs,x=.ref a/\xs=[kV k,y]/\(H a=some (.dK kvs)\/(H a=some (.dT [])/\kvs=[]))/\kvs.length<sizeLine/\
 ((∃ v,cf kvs k=some v/\Q v H)\/(cf kvs k=none/\Q y (upd H a (.dK (bE kvs k y)))))
theorem xy:z9 X "dict.setdefault" y_:=by
 intro ae s σ H x xs v us Q I rx rs q;obtain⟨a,k,y,kvs,rfl,rfl,ha,hz,q⟩:=q;obtain rfl:v=Value.ref a:=rx;obtain⟨u1,u2,rfl,ru1,ru2⟩:=lF rs;obtain⟨z1,y1,vs,r1,d1⟩:=Ac I (ha.imp .inl fun⟨e,w⟩=>⟨.inl e,w⟩);have fW:=gO (P:=X.prog) (w:=X.w) ru1;refine J4 Jm d1.typeIs K_ ?_ (K9 _ _ _);unfold Builtin.«dict.setdefault»;refine Il ?_;unfold Builtin.Dict.keyAndDefault;refine Il (J_ d1.typeIs (show wpAny _ _ (pure (a,u1,some u2)) _ _ s from Iu ?_));show wpAny _ _ (if (a==sysModules)=true then _ else (dictSetDefault a u1 u2 >>= _)) _ _ s;rw[IK (by grind)];have bH:vs.length<=sizeLine:=by rw[<- r1.length];lia
 have dle:s.heap.DictLe a sizeLine:=fun o es ep ho hd=>by
  obtain⟨o',es',ep',ho',_,hd',_,hp,_⟩:=id d1;rw[ho]at ho';cases ho';rw[hd]at hd';cases hd';have e1:=hp.length;have e2:es.toList.length=es.size:=by simp
  lia
 have rv:=r1.val k;rcases q with⟨v,hv,q⟩|⟨hv,q⟩
 .obtain⟨w',hw,rw'⟩:=RelO.some_of (v:=v) (o:=valueAt vs k) (by grind);refine Il (wpAny_dictSetDefault_of (hz:=dle) fW d1.mapOf (fun v' e=>?_) fun e=>?_)
  .rw[hw]at e;cases e;exact Iu ⟨_,rfl,v,H,I.tok _,rw',q⟩
  .rw[hw]at e;cases e
 .have hn0:valueAt vs k=none:=by
   have:=rv.dR;rw[hv]at this;cases z:valueAt vs k with
   |none=>rfl
   |some _=>rw[z]at this;cases this
  refine Il (Ad fW d1 hn0 (fun h' dd' hs=>Iu ⟨_,rfl,?_⟩) bH);have he:∃ q,h'.get? a=some q:=let ⟨q,_,_,hq,_⟩:=dd';⟨q,hq⟩;have mu:BS (H a):=by rcases ha with e|⟨e,_⟩<;>(rw[e];exact True.intro)
  have hl:(bE kvs k y).length<=sizeLine:=by have:=cw kvs k y;lia
  exact⟨y,_,gC (t':=s.toks+1) I mu hs he (mx hl y1 (r1.put k ru2) dd'),ru2,q⟩
end
noncomputable def Gk (K:LM)(a:Addr)(n:Nat):It:=⟨fun i H=>∃ xs,SqL K H a xs/\xs.length=n/\i<n,fun i H x H'=>H'=H/\∀ xs,SqL K H a xs->xs[n-1-i]?=some x,fun i H=>n<=i⟩
theorem uw {K:LM}{tg:Expr}(a it:Addr)(n:Nat):Turn P w K tg (Gk K a n) [it] it (fun i h=>i<=n/\h.IsRevIter it a ((n:Int)-1-i)) where
 mem:=by simp
 obj:=fun i h st b hb=>by
  have e:b=it:=by simpa using hb
  subst e;obtain⟨_,o,e,c,d⟩:=st;exact⟨o,e,fun v z=>by rw[d]at z;cases z⟩
 keep:=fun i h h' st k=>⟨st.1,st.2.at fun o e=>k it (by simp) o e⟩
 item:=by
  intro X hP hw hK hc i ae s σ H E I hf st hg;subst hP hw hK;obtain⟨xs,hq,hn,hi⟩:=hg;obtain⟨its,rv,p,hz⟩:=I.list hq;have hx:xs[n-1-i]?=some xs[n-1-i]:=by simp[show n-1-i<xs.length by lia]
  obtain⟨u,hu,ru⟩:=rv.get hx;obtain⟨f0,f1,f2,f3,f4,f5⟩:=hf it (by simp);have ei:(n:Int)-1-i=((n-1-i:Nat):Int):=by lia
  have st2:=st.2;rw[ei]at st2;refine wpAny_pyNext_rev_item st2 p.isList (x:=u) (by simpa using hu) fun h' st' sb=>?_;have I1:Inv X ae σ H { s with heap:=h' }:=I.turned (t':=s.toks) (fun b o hb e=>(sb.2 b hb).trans e) f0 f1 f3 f4 f5;obtain⟨o,e,c,d⟩:=id st';have e2:((n-1-i:Nat):Int)-1=(n:Int)-1-((i+1:Nat):Int):=by lia
  exact⟨u,rfl,tZ (s:={ s with heap:=h' }) e c d (by decide) ⟨xs[n-1-i],H,I1,ru,⟨rfl,fun ys hy=>by rw[I.gx hy hq];exact hx⟩,⟨by lia,by rw[<- e2];exact st'⟩,fun b hb=>(hf b hb).1⟩⟩
 done:=by intro X hP hw hK hc i ae s σ H E I hf st hg;subst hP hw hK;obtain⟨f0,f1,f2,f3,f4,f5⟩:=hf it (by simp);have hin:i=n:=Nat.le_antisymm st.1 hg;have st2:=st.2;rw[hin,show(n:Int)-1-(n:Nat)=-1 by lia]at st2;exact wpAny_pyNext_rev_end (I.ok.hd hc) st2 fun h' eb=>⟨rfl,I.turned (t':=s.toks) (fun b o hb e=>eb b o hb e) f0 f1 f3 f4 f5⟩
 self:=fun _ _ _ _ _ st h=>La st.2 h
section
variable {X:Cx}{tg:Expr}
def Ae (K:LM)(ta:TA):TI:=fun σ H R=>ta σ H fun vs H1=>∃ a xs,vs=[.ref a]/\SqL K H1 a xs/\R (Gk K a xs.length) H1
theorem ux {ta:TA} {p pos:Pos} (hg:Gl X "reversed") (hm:X.mg "reversed"=none) (ha:PA X [l] ta) (hs:autoParam (starEach [l] X.env=[(false,eval l X.env)]) LW._auto_1):PI X tg (.Call (.Name "reversed" p) [l] [] pos) (Ae X.K ta):=by
 intro ae s σ H R I h;refine Call_ (fq I hg hm boot_reversed (JA (bI (ha pos ae s σ H _ I h) fun us s1 ⟨vs,H1,I1,r1,q1⟩=>?_) hs rfl));obtain⟨a,xs,rfl,hq,q⟩:=q1;obtain⟨u,rfl,ru⟩:=eS r1;obtain rfl:u=Value.ref a:=ru;obtain⟨its,rv,pl,hz⟩:=I1.list hq;refine call_reversed_list pl.isList ?_;have hn:(its.toArray.size:Int)-1=(xs.length:Int)-1-((0:Nat):Int):=by rw[IB,<- rv.length];simp
 have st0:(s1.heap.push (revObj a ((its.toArray.size:Int)-1))).IsRevIter s1.heap.objs.size a ((xs.length:Int)-1-((0:Nat):Int)):=⟨_,IG _ rfl,rfl,by rw[<- hn];rfl⟩;refine La st0 ?_;refine⟨s1.heap.objs.size,[s1.heap.objs.size],_,_,H1,rfl,I1.kept (t':=s1.toks) fun b o e=>Ip _ e,uw a _ xs.length,⟨IL _,st0⟩,fun b hb=>?_,q⟩;have e:b=s1.heap.objs.size:=by simpa using hb
 subst e;exact I1.kU (Im _) (I1.aO.fresh (Im _))
end
end L2
namespace ST
open PySem PySem.SetTable
noncomputable def st (m:Nat)(h:Int):Probe:={ j:=bits h % (m+1),more:=runEnd m (bits h % (m+1))-bits h % (m+1),i:=bits h % (m+1),perturb:=bits h,dummy:=none }
noncomputable def rs (m:Nat)(p:Nat×Nat):Probe:={ j:=p.1,more:=runEnd m p.1-p.1,i:=p.1,perturb:=p.2,dummy:=none }
noncomputable def GT (m:Nat)(p:Probe):Probe:=if p.more>0 then { p with j:=p.j+1,more:=p.more-1 } else { p with j:=(leap m p.i p.perturb).1,more:=runEnd m (leap m p.i p.perturb).1-(leap m p.i p.perturb).1,i:=(leap m p.i p.perturb).1,perturb:=(leap m p.i p.perturb).2 }
def it (m:Nat):Nat->Probe->Probe
 |0,p=>p
 |n+1,p=>it m n (GT m p)
noncomputable def lp (m:Nat):Nat->Nat×Nat->Nat×Nat
 |0,p=>p
 |n+1,p=>lp m n (leap m p.1 p.2)
end ST
namespace ST
open PySem PySem.W PyProof.Rows
end ST
namespace L2
open PySem PySem.Spec PySem.Calls PyProof.Rows ST
noncomputable abbrev iK (ns:List Int):List ba:=ns.map Sum.inl
noncomputable abbrev Cf:=List Int×Addr
section
abbrev eT (prog:LN)(w:World)(x:Cf):Int×LO:=((tK prog w).hash (iK x.1),Value.ref x.2)
end
end L2
namespace L2
open PySem PySem.Spec PyProof.Rows
end L2
namespace L2
open PySem PySem.Spec PySem.Calls PyProof.Rows ST
end L2
namespace L2
open PySem PySem.Spec PySem.Calls PyProof.Rows
section
theorem Af {k:List ba}{dflt:LO}{Q:LO->LL->Prop}(hu:A.units<cLine)(fW:(tK prog w).is s.heap k a)(hm:s.heap.DictOfH (tK prog w) d xs)(hsz:xs.length<=sizeLine)
 (h1:∀ p,atKey xs k=some p->Q p.2 { s with toks:=s.toks+(tK prog w).draws k })
 (h2:atKey xs k=none->∀ h',h'.DictOfH (tK prog w) d (storedH xs k a dflt)->Heap.SameBut d s.heap h'->Q dflt { s with heap:=h',toks:=s.toks+(tK prog w).draws k }):wpAny (model prog w) A (dictSetDefault d (.ref a) dflt) Q E s:=by
 obtain⟨o,es,ep,ho,hc,hd,he,his,hn⟩:=hm;unfold dictSetDefault
 try with_reducible refine JW ?_
 refine Il ((tK prog w).pyHash hu fW (Il (wpAny_dictFind_heap (knd:=tK prog w) (s:={ s with toks:=s.toks+(tK prog w).draws k }) hu fW ho hd he his hn (fun hno=>?_) fun j p hj=>?_)))
 .have hnone:=atKey_none_of_get hno;have hnot:k∉xs.map (·.1):=not_mem_keys_of_get hno;refine Il (LA (Il (wpAny_updateDictKeys (hz:=by have e:=Li he;lia) (s:={ s with toks:=s.toks+(tK prog w).draws k }) ho hd (Iu (h2 hnone _ ⟨_,_,ep+1,Ka _ ho (Obj.isFreed_of_dict (Kz hd _)),hc.mapDictKeys _,Kz hd _,?_,?_,?_⟩ (Kn ..))))))
  .rw[storedH_new hnone];simp[he,entryOfKey]
  .rw[storedH_new hnone];intro x hx;rcases IR.mp hx with hx|hx
   .exact(tK prog w).keeps (his x hx) ho hd (Kn ..)
   .obtain rfl:=IA.mp hx;exact(tK prog w).keeps fW ho hd (Kn ..)
  .rw[storedH_new hnone,IW,Jv];exact⟨hn,by simp,fun x hx y hy e=>by simp only[II,Ku,IA]at hy;subst hy;exact hnot (e▸hx)⟩
 .refine Il (JO (s:={ s with toks:=s.toks+(tK prog w).draws k }) ho hd ?_);rw[entry_at he j,hj];exact Il (LA (Iu (h1 p (atKey_of_get hn hj))))
end
section
def xA:V->List V->Hp->VK->Prop:=fun x xs H Q=>∃ a b k y kvs,x=.ref a/\xs=[.ref b,y]/\H b=some (.tup (k.map kV))/\H a=some (.dT kvs)/\kvs.length<sizeLine/\
 ((∃ v,cf kvs k=some v/\Q v H)\/(cf kvs k=none/\Q y (upd H a (.dT (bE kvs k y)))))
theorem lQ (hu:X.A.units+64<cLine):z9 X "dict.setdefault" xA:=by
 intro ae s σ H x xs v us Q I rx rs q;obtain⟨a,b,k,y,kvs,rfl,rfl,hb,ha,hz,q⟩:=q;obtain rfl:v=Value.ref a:=rx;obtain⟨u1,u2,rfl,ru1,ru2⟩:=lF rs;obtain rfl:u1=Value.ref b:=ru1;obtain⟨z1,y1,vs,r1,d1⟩:=yZ I.aO ha;have fW:=fx I.aO hb;have hT:Shared.TypeIs s (.ref a) "dict":=by obtain⟨o,es,ep,ho,hc,_⟩:=d1;exact⟨o,ho,hc.1⟩
 refine J4 Jm hT K_ ?_ (K9 _ _ _);unfold Builtin.«dict.setdefault»;refine Il ?_;unfold Builtin.Dict.keyAndDefault;refine Il (J_ hT (show wpAny _ _ (pure (a,Value.ref b,some u2)) _ _ s from Iu ?_));show wpAny _ _ (if (a==sysModules)=true then _ else (dictSetDefault a (Value.ref b) u2 >>= _)) _ _ s;rw[IK (by grind)];have bH:vs.length<=sizeLine:=by rw[<- JV r1];exact z1
 have rv:=r1.val k;refine Il (Af (by grind) fW d1 bH (fun p hp=>?_) fun hn0 h' dd' hs=>?_)
 .rcases q with⟨v,hv,q⟩|⟨hv,q⟩
  .have:RelO (some v) (some p.2):=by rw[<- hv];rw[hp]at rv;exact rv
   exact Iu ⟨_,rfl,v,H,I.tok _,this,q⟩
  .have:=rv.dR;rw[hv,hp]at this;cases this
 .rcases q with⟨v,hv,q⟩|⟨hv,q⟩
  .have:=rv.dR;rw[hv,hn0]at this;cases this
  .obtain⟨o',es,ep,hq,h2,h3,h4,_,h5⟩:=dd';have hl:(bE kvs k y).length<=sizeLine:=by have:=cw kvs k y;lia
   have aO:ObjOk X.prog X.w (upd H a (.dT (bE kvs k y))) h' a (.dT (bE kvs k y)):=by refine⟨hl,y1,_,(r1.put k hb ru2).keeps fun c ys ec=>?_,o',es,ep,hq,h2,h3,h4,h5⟩;rw[au (tU ec ha (fun z=>nomatch z))];exact ec
   exact Iu ⟨_,rfl,y,_,gC (t':=s.toks+(tK X.prog X.w).draws k) I (by rw[ha];exact True.intro) hs ⟨o',hq⟩ aO,ru2,q⟩
def pK:V->List V->Hp->VK->Prop:=fun x xs H Q=>∃ a b k y kvs,x=.ref a/\xs=[.ref b,y]/\H b=some (.tup (k.map kV))/\(H a=some (.dT kvs)\/(H a=some (.dK [])/\kvs=[]))/\kvs.length<sizeLine/\
 ((∃ v,cf kvs k=some v/\Q v H)\/(cf kvs k=none/\Q y (upd H a (.dT (bE kvs k y)))))
theorem iy (hu:X.A.units+64<cLine):z9 X "dict.setdefault" pK:=by
 intro ae s σ H x xs v us Q I rx rs q;obtain⟨a,b,k,y,kvs,e1,e2,hb,ha,hz,q⟩:=q;rcases ha with ha|⟨ha,rfl⟩
 .exact lQ hu ae s σ H x xs v us Q I rx rs ⟨a,b,k,y,kvs,e1,e2,hb,ha,hz,q⟩
 .have nba:b≠a:=tU hb ha (fun z=>nomatch z);refine lQ hu ae s σ (upd H a (.dT [])) x xs v us Q (I.F9 ha) rx rs ⟨a,b,k,y,[],e1,e2,by rw[au nba];exact hb,af,hz,.inr ?_⟩;rcases q with⟨v,hv,q⟩|⟨hv,q⟩
  .cases hv
  .have:upd (upd H a (.dT [])) a (.dT (bE [] k y))=upd H a (.dT (bE [] k y)):=by
    funext c;by_cases h:c=a
    .subst h;rw[af,af]
    .rw[au h,au h,au h]
   exact⟨hv,by grind⟩
end
def RawD (h:Heap)(d:Addr)(es:Array DictEntry)(ep:Nat):Prop:=∃ o,h.get? d=some o/\o.ExactDict/\o.data=.dict es ep
section
variable {prog:LN}{w:World}{A:LP}{s:LL}{d v it:Addr}{es:Array DictEntry}{ep i:Nat}{ok ov:LO}
theorem RawD.ty (m:RawD s.heap d es ep):s.TypeIs (.ref d) "dict":=let ⟨o,h,c,_⟩:=m;⟨o,h,c.1⟩
theorem mE (d:Addr)(hd:(d==sysModules)=false) :
 MeetsIn prog w (Builtin.«dict.items» ⟨[.ref d],[]⟩) (fun _ R s=>(∃ es ep,RawD s.heap d es ep)/\R (.ok (.ret (.ref s.heap.objs.size))) { s with heap:=s.heap.push { cls:=.type "dict_items",data:=.fields #[.ref d] } }):=
 .of_wp fun A R s ⟨⟨es,ep,m⟩,h⟩=>by unfold Builtin.«dict.items» Builtin.Dict.noArgs;refine Il (Il (J_ m.ty (Iu ?_)));show wpAny _ _ (Builtin.Dict.showsAll d >>= _) _ _ s;unfold Builtin.Dict.showsAll;rw[IK (by rw[hd];simp)];exact Il (Iu (Il (Ki (Iu ⟨_,rfl,h⟩))))
theorem og (hv:s.heap.IsItemsView v d)(m:RawD s.heap d es ep)
 (hQ:Q (.ref s.heap.objs.size) { s with heap:=s.heap.push { cls:=.type "dict_itemiterator",data:=.fields #[.none,.bool false,.ref d,.int 0 0,.int es.size 0,.int ep 0,.none,.none] } }) :
 wpAny (model prog w) A (pyIter (.ref v)) Q E s:=by
 obtain⟨vo,e1,_,e2⟩:=id hv;obtain⟨o,ho,_,hd⟩:=id m;refine wpAny_pyIter_slot hv.typeIs F.slot_dict_items_iter (J4 F.slot_dict_items_iter hv.typeIs F.entry_dict_items_iter ?_ (F.args_dict_items_iter_1 _));unfold Builtin.«dict_items.__iter__» Builtin.Dict_items.dictOf Builtin.Dict_items.newIterator;refine Il (Iu (Il (Il (wpAny_field e1 e2 (x:=.ref d) rfl (Iu (Il (Il (JO ho hd (Il (KM ho hd ?_))))))))));simp only[show Builtin.Dict_items.ownsTuple "dict_itemiterator"=true by decide,LJ];refine Ki (Iu ⟨_,rfl, "dict_itemiterator",_,⟨_,IG _ rfl,rfl⟩,Ju.lookup,?_⟩)
  (by simp only[sizeOk,Builtin.Dict_items.ownedTupleFields,IB,IF,IM,JZ,IY];lia)
 simpa[rawInt,Builtin.Dict_items.ownedTupleFields] using hQ
theorem oh (hh:A.handled=none)(y:IsItemIter s.heap it d i es.size ep ok ov)(m:RawD s.heap d es ep)(hi:es.size<=i)(hQ:∀ h',Heap.ExtBut it s.heap h'->Q none { s with heap:=h' }):wpAny (model prog w) A (pyNext (.ref it)) Q E s:=by
 obtain⟨o,ho,_,hd⟩:=id m;have hT:s.TypeIs (.ref it) "dict_itemiterator":=⟨_,y,rfl⟩;unfold pyNext;refine Il (wpAny_attempt (wpAny_callSpecial?_slot (name:=Str.ofString "__next__") hT Ju (J4 Ju hT F.entry_dict_itemiterator_next ?_ (F.args_dict_itemiterator_next_1 _))));refine Il (Iu (Il (Il ?_)))
 first|refine Il (JQ hT (Iu ?_))|refine Il (Kc hT (Iu ?_))
 refine Il (wpAny_fieldsOf y rfl ?_);simp only[show Builtin.Dict_items.ownsTuple "dict_itemiterator"=true by decide,LJ];show wpAny _ _ (if (Value.ref d==Value.none)=true then _ else _) _ _ s;rw[IK (show ¬ ((Value.ref d==Value.none)=true) from IX)];refine Il (Iu (Il (JO ho hd ?_)));rw[IK (by simp)];refine Il (Iu (Il (KM ho hd ?_)));rw[IK (by simp)];refine Iu ?_;simp only[show ¬ ((i:Int)<0) from by lia,LK,Ly,Array.getElem?_eq_none hi];refine Il ?_
 first|refine Il (JQ hT (Iu ?_))|refine Il (Kc hT (Iu ?_))
 show wpAny _ _ (setField (.ref it) 2 .none >>= _) _ _ s;refine Il (wpAny_setField y rfl (by simp) ?_);show wpAny _ _ (newExc (.type "StopIteration") [] >>= _) _ _ _;refine Il ?_;simp only[newExc,newTuple];refine Il (Ki ?_ (by size_fits));refine Il (m:=firstArgMember _ _) (wpAny_of_eq (a:=Value.none) (by first|rfl|(simp only[firstArgMember];rfl)) ?_);refine Ki ?_ (by size_fits);simp only[raiseNew];refine Il (wpAny_handled ?_);rw[show A.in1.handled=none from hh];refine Il (Iu (wpAny_throw ?_));refine Il (wpAny_isInstance (T:="StopIteration") (b:=true) ⟨_,IG _ rfl,rfl⟩ isSubtype_stop ?_);exact Iu (hQ _ (((Kn ..).extBut.push _).push _))
theorem pL (y:IsItemIter s.heap it d i es.size ep ok ov)(m:RawD s.heap d es ep)(he:es[i]?=some e)
 (hQ:∀ h',IsItemIterOut h' it d (i+1) es.size ep e.key e.val s.heap.objs.size->h'.get? s.heap.objs.size=some { cls:=.type "tuple",data:=.seq #[e.key,e.val] }->
   (∀ b o,b≠it->s.heap.get? b=some o->h'.get? b=some o)->Q (some (.ref s.heap.objs.size)) { s with heap:=h' }):wpAny (model prog w) A (pyNext (.ref it)) Q E s:=by
 obtain⟨hp,g,dr,tk,os⟩:=s;obtain⟨o,ho,_,hd⟩:=id m;have hT:Shared.TypeIs ⟨hp,g,dr,tk,os⟩ (.ref it) "dict_itemiterator":=⟨_,y,rfl⟩;have hil:hp.objs.size≠it:=J7 (Iz y);unfold pyNext;refine Il (wpAny_attempt (wpAny_callSpecial?_slot (name:=Str.ofString "__next__") hT Ju (J4 Ju hT F.entry_dict_itemiterator_next ?_ (F.args_dict_itemiterator_next_1 _))));refine Il (Iu (Il (Il ?_)))
 first|refine Il (JQ hT (Iu ?_))|refine Il (Kc hT (Iu ?_))
 refine Il (wpAny_fieldsOf y rfl ?_);simp only[show Builtin.Dict_items.ownsTuple "dict_itemiterator"=true by decide,LJ];show wpAny _ _ (if (Value.ref d==Value.none)=true then _ else _) _ _ _;rw[IK (show ¬ ((Value.ref d==Value.none)=true) from IX)];refine Il (Iu (Il (JO ho hd ?_)));rw[IK (by simp)];refine Il (Iu (Il (KM ho hd ?_)));rw[IK (by simp)];refine Iu ?_;simp only[show ¬ ((i:Int)<0) from by lia,LK,Ly,he];refine Il ?_
 first|refine Il (JQ hT (Iu ?_))|refine Il (Kc hT (Iu ?_))
 refine Il (KW hT ?_);show wpAny _ _ (setField (.ref it) 3 (rawInt ((i:Int)+1)) >>= _) _ _ ⟨hp,g,dr,tk,os⟩;refine Il (Kt y (by simp) fun h1 y1 s1=>?_);replace s1:Heap.SameBut it hp h1:=s1;replace y1:IsItemIter h1 it d (i+1) es.size ep ok ov:=by
  have q:((i+1:Nat):Int)=(i:Int)+1:=by lia
  unfold IsItemIter;rw[q];simpa[rawInt] using y1
 have hT1:Shared.TypeIs ⟨h1,g,dr,tk,os⟩ (.ref it) "dict_itemiterator":=⟨_,y1,rfl⟩;refine Il (JW (Il (KW hT1 (Il (KW hT1 ?_)))));show wpAny _ _ (Builtin.Dict_items.pairFromOwner (.ref it) 6 e.key e.val) _ _ ⟨h1,g,dr,tk,os⟩;unfold Builtin.Dict_items.pairFromOwner;refine Il (wpAny_newTuple ?_);have y2:IsItemIter (h1.push { cls:=.type "tuple",data:=.seq #[e.key,e.val] }) it d (i+1) es.size ep ok ov:=Ip _ y1;have t2:(h1.push { cls:=.type "tuple",data:=.seq #[e.key,e.val] }).get? hp.objs.size=some { cls:=.type "tuple",data:=.seq #[e.key,e.val] }:=by rw[<- s1.1];exact IG _ rfl
 have k2:∀ b o,b≠it->hp.get? b=some o->(h1.push { cls:=.type "tuple",data:=.seq #[e.key,e.val] }).get? b=some o:=fun b o n q=>Ip _ (s1.extBut b o n q);have z1:h1.objs.size=hp.objs.size:=s1.1;generalize h1.push { cls:=.type "tuple",data:=.seq #[e.key,e.val] }=h2 at y2 t2 k2;show wpAny _ _ (Builtin.Dict_items.ownedTupleIsFree (.ref it) >>= _) _ _ ⟨h2,g,dr,tk,os⟩;rw[z1];clear y1 s1 hT1 z1 h1;refine Il ?_;unfold Builtin.Dict_items.ownedTupleIsFree;refine Il (wpAny_field y2 rfl (x:=.none) rfl (Iu ?_));simp only[LJ];refine Il (wpAny_field y2 rfl (x:=ok) rfl (Il (wpAny_field y2 rfl (x:=ov) rfl ?_)));refine Il (Kt y2 (by simp) fun h3 y3 s3=>?_);replace y3:IsItemIter h3 it d (i+1) es.size ep e.key ov:=y3;refine Il (Kt y3 (by simp) fun h4 y4 s4=>?_);replace y4:IsItemIter h4 it d (i+1) es.size ep e.key e.val:=y4;refine Il (Kt y4 (by simp) fun h5 y5 s5=>?_);replace y5:IsItemIterOut h5 it d (i+1) es.size ep e.key e.val hp.objs.size:=y5;refine Il (Kt y5 (by simp) fun h6 y6 s6=>?_);replace y6:IsItemIterOut h6 it d (i+1) es.size ep e.key e.val hp.objs.size:=y6;have up:∀ b o,b≠it->h2.get? b=some o->h6.get? b=some o:=fun b o n q=>KD (show Heap.SameBut it h5 h6 from s6) b o n (KD (show Heap.SameBut it h4 h5 from s5) b o n (KD (show Heap.SameBut it h3 h4 from s4) b o n (KD (show Heap.SameBut it h2 h3 from s3) b o n q)));exact Il (Lj (Iu (Iu ⟨_,rfl,Iu (hQ h6 y6 (up _ _ hil t2) fun b o n q=>up b o n (k2 b o n q))⟩)))
end
theorem pM {P:LN}{w:World}{K:LM}{es:List Expr}{k0:Nat}{pos:Pos}{J:It}{d it:Addr}{o:Obj}{u:HO}{en:Array DictEntry}{ep:Nat}(hex:o.ExactDict)(hdat:o.data=.dict en ep)(hgo:∀ i H,J.go i H->H d=some (.bO o u))(hst:∀ i H,J.stop i H->H d=some (.bO o u)/\en.size<=i)
 (hent:∀ H h,HOk P w H h->∀ i,J.go i H->∃ e y v,en[i]?=some e/\RelV y e.key/\RelV v e.val/\∀ p,H p=none->J.tS i H (.ref p) (upd H p (.tup [y,v]))) :
 Turn P w K (.Tuple es k0 pos) J [it] it (fun i h=>∃ ok ov,IsItemIter h it d i en.size ep ok ov) where
 mem:=by simp
 obj:=fun i h st b hb=>by
  have e:b=it:=by simpa using hb
  subst e;obtain⟨ok,ov,e⟩:=st;exact⟨_,e,fun v z=>by cases z⟩
 keep:=fun i h h' st k=>by obtain⟨ok,ov,e⟩:=st;exact⟨ok,ov,k it (by simp) _ e⟩
 item:=by
  intro X hP hw hK hc i ae s σ H E I hf st hg;subst hP hw hK;have hd:=hgo i H hg;obtain⟨ok,ov,st⟩:=st;obtain⟨eo,_⟩:=(show ObjOk X.prog X.w H s.heap d (.bO o u) from I.aO d _ hd);obtain⟨e,y,v,he,ry,rv,hy⟩:=hent H s.heap I.aO i hg;have fi:=hf it (by simp);refine pL st ⟨o,eo,hex,hdat⟩ he fun h' hout hT kp=>?_;refine⟨_,rfl,wpAny_letOwnedTupleGo_items hout fun h'' hit'' hs''=>?_⟩;have keep2:∀ b o,b≠it->s.heap.get? b=some o->h''.get? b=some o:=fun b o n1 q=>(hs''.2 b n1).trans (kp b o n1 q);have hTe:s.heap.objs.size≠it:=J7 (Iz st);have hT'':h''.get? s.heap.objs.size=some { cls:=.type "tuple",data:=.seq #[e.key,e.val] }:=(hs''.2 _ hTe).trans hT;have fr:=I.aO.fresh (Im _);have I1:Inv X ae σ (upd H s.heap.objs.size (.tup [y,v])) { s with heap:=h'' }:=by
   refine I.step (g':=s.gens) (d':=s.drawn) (ch:=[it]) (fun b hb=>?_) (fun b o _ _ hn q _=>keep2 b o (fun z=>hn (by simp[z])) q)
    (fun b o _ _ hn q _=>⟨o.slots,keep2 b o (fun z=>hn (by simp[z])) q⟩) (fun b o _ q hH=>by rw[au (IN (Iz q))];exact hH)
    (fun b o hn q=>⟨o,keep2 b o (fun z=>hn (by simp[z])) q⟩) (fun b ys q=>by rw[au (am q fr)];exact q)
    (fun b o' u' q=>by rw[au (am q fr)];exact q) (fun b ps q=>⟨#[],by rw[au (am q fr)];simp[q]⟩) (fun m hm=>?_) (fun b u' q=>?_) I.bare
   .have:b=it:=by simpa using hb
    subst this;exact⟨fi.2.2.2.1,fi.2.1,fi.2.2.2.2.1,fi.2.2.2.2.2⟩
   .obtain⟨o,es',ep,ho',r⟩:=hm;exact⟨o,es',ep,keep2 _ o (Jn fi.2.1) ho',r⟩
   .by_cases hb:b=s.heap.objs.size
    .subst hb;rw[af]at q;cases q;exact⟨by show 2<=sizeLine;decide,[e.key,e.val],.cons ry (.cons rv .nil),⟨_,hT'',rfl,0,rfl⟩⟩
    .rw[au hb]at q;refine(I.aO b u' q).stay (fun c v hc' q'=>keep2 c v ?_ q') (fun c r=>by rw[au (am r fr)];exact r) fun c ys r=>by rw[au (am r fr)];exact r
     rcases hc' with z|z
     .rw[z];exact am q fi.1
     .exact am z fi.1
  refine⟨.ref s.heap.objs.size,_,I1,rfl,hy _ fr,⟨_,_,hit''⟩,fun b hb=>?_⟩;have:b=it:=by simpa using hb
  subst this;rw[au (IN (Iz st))];exact fi.1
 done:=by intro X hP hw hK hc i ae s σ H E I hf st hg;subst hP hw hK;obtain⟨hd,hi⟩:=hst i H hg;obtain⟨ok,ov,st⟩:=st;obtain⟨eo,_⟩:=(show ObjOk X.prog X.w H s.heap d (.bO o u) from I.aO d _ hd);obtain⟨f0,f1,f2,f3,f4,f5⟩:=hf it (by simp);exact oh (I.ok.hd hc) st ⟨o,eo,hex,hdat⟩ (by lia) fun h' eb=>⟨rfl,I.turned (t':=s.toks) (fun b o hb e=>eb b o hb e) f0 f1 f3 f4 f5⟩
 self:=fun A i s Q E st h=>by obtain⟨ok,ov,st⟩:=st;have hT:s.TypeIs (.ref it) "dict_itemiterator":=⟨_,st,rfl⟩;refine wpAny_pyIter_slot hT F.slot_dict_itemiterator_iter (J4 F.slot_dict_itemiterator_iter hT (entryFor_alias (id':="dict_keyiterator.__iter__") (by kernel_rfl) rfl (by decide +kernel) (by kernel_rfl):entryFor table "dict_itemiterator.__iter__"=some Builtin.«dict_keyiterator.__iter__») ?_ (F.args_dict_itemiterator_iter_1 _));show wpAny _ _ (ret (.ref it)) _ _ s;exact Iu ⟨_,rfl, "dict_itemiterator",_,hT,Ju.lookup,h⟩
section
theorem lR {R:It->Hp->Prop}(I2:Inv X ae σ H2 s1)(e2:H2 d=some (.bO o u))(hd:(d==sysModules)=false)(hex:o.ExactDict)(hdat:o.data=.dict en ep)(hgo:∀ i H,J.go i H->H d=some (.bO o u))(hst:∀ i H,J.stop i H->H d=some (.bO o u)/\en.size<=i)
 (hent:∀ H h,HOk X.prog X.w H h->∀ i,J.go i H->∃ e y v,en[i]?=some e/\RelV y e.key/\RelV v e.val/\∀ p,H p=none->J.tS i H (.ref p) (upd H p (.tup [y,v]))) (q2:R J H2) :
 MethodOn X.prog X.w X.A "items" cpos (.ref d) [] (fun v s1=>wX X (pyIter v) (Eg X ae σ (.Tuple es k0 s_) R) X.xe s1) X.xe s1:=by
 obtain⟨eo,_⟩:=(show ObjOk X.prog X.w H2 s1.heap d (.bO o u) from I2.aO d _ e2);have hty:s1.TypeIs (.ref d) "dict":=⟨o,eo,hex.1⟩;have hnod:∀ a,Value.ref d=.ref a->∃ ob,s1.heap.get? a=some ob/\ob.dict=none:=fun a e=>by cases e;exact⟨o,eo,hex.2.1⟩
 refine⟨"dict", "dict.items",Ji,PySem.F.slot_dict_items,PySem.F.type_dict_items,hty,hnod,JM rfl (PySem.evalArgs_none ?_)⟩;refine KE PySem.F.slot_dict_items hty PySem.F.entry_dict_items (PySem.F.args_dict_items_1 _) (mE d hd) ⟨⟨en,ep,o,eo,hex,hdat⟩,?_⟩;have I3:Inv X ae σ H2 { s1 with heap:=s1.heap.push { cls:=.type "dict_items",data:=.fields #[.ref d] } }:=I2.kept (t':=s1.toks) fun b o e=>Ip _ e;have e3:({ s1 with heap:=s1.heap.push { cls:=.type "dict_items",data:=.fields #[.ref d] } }:LL).heap.get? d=some o:=Ip _ eo;generalize hs3:({ s1 with heap:=s1.heap.push { cls:=.type "dict_items",data:=.fields #[.ref d] } }:LL)=s3 at I3 e3;have hv:s3.heap.IsItemsView s1.heap.objs.size d:=by rw[<- hs3];exact⟨_,IG _ rfl,rfl,rfl⟩
 show wpAny _ _ (pyIter (.ref s1.heap.objs.size)) _ _ _;refine og hv ⟨o,e3,hex,hdat⟩ ?_;refine⟨s3.heap.objs.size,[s3.heap.objs.size],_,_,H2,rfl,I3.kept (t':=s3.toks) fun b o e=>Ip _ e,pM hex hdat hgo hst hent,⟨_,_,IG _ rfl⟩,fun b hb=>?_,q2⟩;have e:b=s3.heap.objs.size:=by simpa using hb
 subst e;exact I3.kU (Im _) (I3.aO.fresh (Im _))
end
def Ej (d:Addr)(o:Obj)(u:HO)(kvs:List (ba×V)):It:=⟨fun i H=>H d=some (.bO o u)/\i<kvs.length,fun i H x H'=>∃ p k v,H p=none/\x=.ref p/\H'=upd H p (.tup [kV k,v])/\kvs[i]?=some (k,v),fun i H=>H d=some (.bO o u)/\kvs.length<=i⟩
theorem KV.at (r:KV a b):∀(i:Nat) p q,a[i]?=some p->b[i]?=some q->p.1=q.1/\RelV p.2 q.2:=by
 induction r with
 |nil=>intro i p q e;simp at e
 |cons hq t ih=>
  intro i p q e1 e2;cases i with
  |zero=>simp at e1 e2;subst e1 e2;exact hq
  |succ i=>exact ih i p q (by simpa using e1) (by simpa using e2)
theorem uy {P:LN}{w:World}{a:List (ba×V)}{b:List (ba×LO)}{l:List DictEntry}(r:KV a b)(q:Pairs (aI P w) l b):l.length=a.length/\∀(i:Nat) p,a[i]?=some p->∃ e,l[i]?=some e/\RelV (kV p.1) e.key/\RelV p.2 e.val:=by
 unfold KV at r;induction r generalizing l with
 |nil=>cases q;exact⟨rfl,fun i p e=>by simp at e⟩
 |cons h _ ih=>
  cases q with
  |cons h1 h2 q=>
   obtain⟨a,b⟩:=ih q;refine⟨by simp[a],fun i p e=>?_⟩;cases i with
   |zero=>simp only[List.getElem?_cons_zero,Option.some.injEq]at e;subst e;exact⟨_,rfl,by rw[h.1];exact xx h1,by rw[h2];exact h.2⟩
   |succ i=>exact b i p e
section
def Ag (X:Cx)(tl:TE):TI:=fun σ H R=>tl σ H fun x H1=>∃ d kvs u,x=.ref d/\(u=.dK kvs\/(u=.dT []/\kvs=[]))/\((∃ o,H1 d=some (.bO o u)/\R (Ej d o u kvs) H1)\/(H1 d=some u/\∀ o,(∀ o' v,X.H₀ d≠some (.bO o' v))->R (Ej d o u kvs) (upd H1 d (.bO o u))))
theorem oj {tl:TE} {apos cpos:Pos} (hl:PE X l tl) (hbase:autoParam (attributeBase l "items" X.env (eval l X.env)=eval l X.env) LW._auto_1) (hline:autoParam ((apos.endLine==cpos.line)=true) LW._auto_1):PI X (.Tuple es k0 s_) (.Call (.Attribute l "items" apos) [] [] cpos) (Ag X tl):=by
 intro ae s σ H R I h;refine KJ hbase hline (bI (hl ae s σ H _ I h) fun v s1 ⟨x,H1,I1,r1,q1⟩=>?_);obtain⟨d,kvs,u,e,hu,q⟩:=q1;subst e;cases r1;have kO:j_ u:=by rcases hu with rfl|⟨rfl,_⟩<;>exact True.intro
 have fin:∀(o:Obj)(H2:Hp),Inv X ae σ H2 s1->H2 d=some (.bO o u)->R (Ej d o u kvs) H2->MethodOn X.prog X.w X.A "items" cpos (.ref d) [] (fun v s1=>wX X (pyIter v) (Eg X ae σ (.Tuple es k0 s_) R) X.xe s1) X.xe s1:=fun o H2 I2 e2 q2=>by
  obtain⟨eo,hx⟩:=(show ObjOk X.prog X.w H2 s1.heap d (.bO o u) from I2.aO d _ e2);have key:∀{H h},HOk X.prog X.w H h->H d=some (.bO o u)->(d==sysModules)=false/\∃ en ep vs,o.ExactDict/\o.data=.dict en ep/\KV kvs vs/\Pairs (aI X.prog X.w) en.toList vs:=fun{H h} ok e=>by
   obtain⟨eo,hx⟩:=(show ObjOk X.prog X.w H h d (.bO o u) from ok d _ e);have key:(d==sysModules)=false/\∃ vs,KV kvs vs/\h.DictOf (aI X.prog X.w) d vs:=by
    rcases hu with rfl|⟨rfl,rfl⟩
    .exact hx.2
    .obtain⟨hd,dd⟩:=mC hx;exact⟨hd,[],.nil,dd⟩
   obtain⟨hd,vs,rel,o',en,ep,eo',hex,hdat,_,hpr,_⟩:=key;rw[eo]at eo';cases eo';exact⟨hd,en,ep,vs,hex,hdat,rel,hpr⟩
  obtain⟨hd,en,ep,vs,hex,hdat,rel,hpr⟩:=key I2.aO e2;refine lR (J:=Ej d o u kvs) I2 e2 hd hex hdat (fun i H h=>h.1) (fun i H h=>⟨h.1,?_⟩) (fun H h ok i g=>?_) q2
  .rw[<- JY,(uy rel hpr).1];exact h.2
  .obtain⟨_,g⟩ : _/\i<kvs.length:=g;have hk:kvs[i]?=some kvs[i]:=by simp[g]
   obtain⟨e,h1,h2,h3⟩:=(uy rel hpr).2 i _ hk;exact⟨e,kV kvs[i].1,kvs[i].2,by rw[<- J9];exact h1,h2,h3,fun p hp=>⟨p,_,_,hp,rfl,rfl,hk⟩⟩
 rcases q with⟨o,e1,q⟩|⟨e1,q⟩
 .exact fin o H1 I1 e1 q
 .have hob:∃ o,s1.heap.get? d=some o:=by
   rcases hu with rfl|⟨rfl,_⟩
   .obtain⟨_,_,_,_,o,_,_,ho,_⟩:=(show ObjOk X.prog X.w H1 s1.heap d (.dK kvs) from I1.aO d _ e1);exact⟨o,ho⟩
   .obtain⟨_,_,_,_,o,_,_,ho,_⟩:=(show ObjOk X.prog X.w H1 s1.heap d (.dT []) from I1.aO d _ e1);exact⟨o,ho⟩
  obtain⟨o,ho⟩:=hob;exact fin o _ (I1.bO e1 kO ho) af (q o (I1.zG e1 kO))
end
def Ek (d:Addr)(o:Obj)(u:HO)(kvs:List (List ba×V)):It:=⟨fun i H=>H d=some (.bO o u)/\i<kvs.length,fun i H x H'=>∃ p b k v,H p=none/\x=.ref p/\H b=some (.tup (k.map kV))/\H'=upd H p (.tup [.ref b,v])/\kvs[i]?=some (k,v),fun i H=>H d=some (.bO o u)/\kvs.length<=i⟩
theorem KT.at {H:Hp}{a:List (List ba×V)}{b:List (List ba×Addr×LO)}(r:KT H a b):∀(i:Nat) p q,a[i]?=some p->b[i]?=some q->p.1=q.1/\H q.2.1=some (.tup (p.1.map kV))/\RelV p.2 q.2.2:=by
 induction r with
 |nil=>intro i p q e;simp at e
 |cons hq t ih=>
  intro i p q e1 e2;cases i with
  |zero=>simp at e1 e2;subst e1 e2;exact hq
  |succ i=>exact ih i p q (by simpa using e1) (by simpa using e2)
section
def Ah (X:Cx)(tl:TE):TI:=fun σ H R=>tl σ H fun x H1=>∃ d kvs u,x=.ref d/\(u=.dT kvs\/(u=.dK []/\kvs=[]))/\((∃ o,H1 d=some (.bO o u)/\R (Ek d o u kvs) H1)\/(H1 d=some u/\∀ o,(∀ o' v,X.H₀ d≠some (.bO o' v))->R (Ek d o u kvs) (upd H1 d (.bO o u))))
theorem lS (hl:PE X l tl) (hbase:autoParam (attributeBase l "items" X.env (eval l X.env)=eval l X.env) LW._auto_1) (hline:autoParam ((apos.endLine==cpos.line)=true) LW._auto_1):PI X (.Tuple es k0 s_) (.Call (.Attribute l "items" apos) [] [] cpos) (Ah X tl):=by
 intro ae s σ H R I h;refine KJ hbase hline (bI (hl ae s σ H _ I h) fun v s1 ⟨x,H1,I1,r1,q1⟩=>?_);obtain⟨d,kvs,u,e,hu,q⟩:=q1;subst e;cases r1;have kO:j_ u:=by rcases hu with rfl|⟨rfl,_⟩<;>exact True.intro
 have fin:∀(o:Obj)(H2:Hp),Inv X ae σ H2 s1->H2 d=some (.bO o u)->R (Ek d o u kvs) H2->MethodOn X.prog X.w X.A "items" cpos (.ref d) [] (fun v s1=>wX X (pyIter v) (Eg X ae σ (.Tuple es k0 s_) R) X.xe s1) X.xe s1:=fun o H2 I2 e2 q2=>by
  obtain⟨eo,_⟩:=(show ObjOk X.prog X.w H2 s1.heap d (.bO o u) from I2.aO d _ e2);have key:∀{H h},HOk X.prog X.w H h->H d=some (.bO o u)->(d==sysModules)=false/\∃(en:Array DictEntry)(ep:Nat),o.ExactDict/\o.data=.dict en ep/\en.size=kvs.length/\∀(i:Nat) p,kvs[i]?=some p->∃ e b,en[i]?=some e/\e.key=.ref b/\H b=some (.tup (p.1.map kV))/\RelV p.2 e.val:=fun{H h} ok e=>by
   obtain⟨eo,hx⟩:=(show ObjOk X.prog X.w H h d (.bO o u) from ok d _ e);rcases hu with rfl|⟨rfl,rfl⟩
   .obtain⟨_,hd,xs,rel,o',en,ep,eo',hex,hdat,hes,_,_⟩:=ij ok (.inr ⟨o,e⟩);rw[eo]at eo';cases eo';refine⟨hd,en,ep,hex,hdat,by rw[Li hes,JV rel],fun i p hp=>?_⟩;have hl:i<xs.length:=by rw[<- JV rel];exact(Iv.mp hp).1
    have hx:xs[i]?=some xs[i]:=by simp[hl]
    obtain⟨_,hb,rv⟩:=rel.at i _ _ hp hx;exact⟨_,_,by rw[entry_at hes,hx];rfl,rfl,hb,rv⟩
   .obtain⟨_,hd,vs,rel,o',en,ep,eo',hex,hdat,_,hpr,_⟩:=ii ok (.inr ⟨o,e⟩);rw[eo]at eo';cases eo';cases rel;cases he:en.toList with
    |nil=>exact⟨hd,en,ep,hex,hdat,by rw[<- JY,he];rfl,fun i p e=>by simp at e⟩
    |cons _ _=>rw[he]at hpr;cases hpr
  obtain⟨hd,en,ep,hex,hdat,bH,_⟩:=key I2.aO e2;refine lR (J:=Ek d o u kvs) I2 e2 hd hex hdat (fun i H h=>h.1) (fun i H h=>⟨h.1,by rw[bH];exact h.2⟩) (fun H h ok i g=>?_) q2;obtain⟨_,en',ep',_,hdat',_,f⟩:=key ok g.1;rw[hdat]at hdat';cases hdat';obtain⟨_,g⟩ : _/\i<kvs.length:=g;have hk:kvs[i]?=some kvs[i]:=by simp[g]
  obtain⟨e,b,h1,h2,h3,h4⟩:=f i _ hk;exact⟨e,.ref b,kvs[i].2,h1,h2,h4,fun p hp=>⟨p,b,_,_,hp,rfl,h3,rfl,hk⟩⟩
 rcases q with⟨o,e1,q⟩|⟨e1,q⟩
 .exact fin o H1 I1 e1 q
 .have hob:∃ o,s1.heap.get? d=some o:=by
   rcases hu with rfl|⟨rfl,_⟩
   .obtain⟨_,_,_,_,o,_,_,ho,_⟩:=(show ObjOk X.prog X.w H1 s1.heap d (.dT kvs) from I1.aO d _ e1);exact⟨o,ho⟩
   .obtain⟨_,_,_,_,o,_,_,ho,_⟩:=(show ObjOk X.prog X.w H1 s1.heap d (.dK []) from I1.aO d _ e1);exact⟨o,ho⟩
  obtain⟨o,ho⟩:=hob;exact fin o _ (I1.bO e1 kO ho) af (q o (I1.zG e1 kO))
end
section
theorem qG:∀{vs:List V}{its:List LO},vs.length=its.length->(∀(i:Nat) v u,vs[i]?=some v->its[i]?=some u->RelV v u)->Vals vs its
 | [],[],_,_=>.nil
 | [],_::_,e,_=>by cases e
 |_::_,[],e,_=>by cases e
 |v::vs,u::its,e,f=>.cons (f 0 v u rfl rfl) (qG (by simpa using e) fun i w z a b=>f (i+1) w z (by simpa using a) (by simpa using b))
end
section
open PySem.MeetsSeq PySem.SeqAt
open PySem.AutoSeq1 (wpAny_loadPart')
end
noncomputable def mF:List Int->Int
 | []=>0
 |x::r=>r.foldl (fun a b=>if b<a then b else a) x
theorem rP (h:l≠[])(z:Int):mF (l++[z])=if z<mF l then z else mF l:=by
 cases l with
 |nil=>exact(h rfl).elim
 |cons x r=>show(r++[z]).foldl _ x=_;rw[Kj];rfl
theorem kc (xs:Array (Int×Tok)):∀ k,k<xs.size->numAt xs (argBest (fun i j=>decide (numAt xs i<numAt xs j)) k)=mF ((xs.toList.map (·.1)).take (k+1))
 |0,h=>by
  have e:xs.toList.map (·.1)≠[]:=fun z=>by have:=JL List.length z;simp at this;rw[this]at h;simp at h
  cases q:xs.toList.map (·.1) with
  |nil=>exact(e q).elim
  |cons y r=>
   have:(xs[0]?.map (·.1))=some y:=by rw[<- J9,<- IE,q];rfl
   show numAt xs 0=y;unfold numAt;rw[this];rfl
 |k+1,h=>by
  have ih:=kc xs k (by lia);have ez:(xs.toList.map (·.1))[k+1]?=some (numAt xs (k+1)):=by rw[IE,J9];unfold numAt;rw[Array.getElem?_eq_getElem h];rfl
  have et:(xs.toList.map (·.1)).take (k+1+1)=(xs.toList.map (·.1)).take (k+1)++[numAt xs (k+1)]:=by rw[List.take_succ,ez];rfl
  have ne:(xs.toList.map (·.1)).take (k+1)≠[]:=fun z=>by have h9:=JL List.length z;rw[Jt,Iq,JY,JZ]at h9;lia
  rw[et,rP ne,<- ih];show numAt xs (if (decide (numAt xs (k+1)<numAt xs (argBest _ k)))=true then k+1 else argBest _ k)=_;by_cases hl:numAt xs (k+1)<numAt xs (argBest (fun i j=>decide (numAt xs i<numAt xs j)) k)
  .rw[IS (IJ hl),IS hl]
  .rw[IK (by simpa using hl),IK hl]
theorem kd:∀{ns:List Int}{its:List LO},Vals (ns.map V.int) its->∃ ps:List (Int×Tok),its=ps.map (fun p=>.int p.1 p.2)/\ps.map (·.1)=ns
 | [],_,h=>by cases h;exact⟨[],rfl,rfl⟩
 |n::ns,_,h=>by
  cases h with
  |cons r rr=>obtain⟨t,rfl⟩:=r;obtain⟨ps,rfl,e⟩:=kd rr;exact⟨(n,t)::ps,rfl,by rw[II,e]⟩
theorem rQ (hc:X.calm=true):cK X (.builtin "min") (fun xs H Q=>∃ p ns,xs=[.ref p]/\SqL X.K H p (ns.map V.int)/\ns≠[]/\Q (.int (mF ns)) H):=by
 intro ae s σ H xs us Q I r h;obtain⟨p,ns,rfl,hq,hne,q⟩:=h;obtain⟨u,rfl,rx⟩:=eS r;cases rx;obtain⟨its,rv,pl,hz⟩:=I.list hq;obtain⟨ps,rfl,e⟩:=kd rv;have hl:s.heap.IsList p (intItems ps.toArray):=by
  have:intItems ps.toArray=(ps.map (fun p=>Value.int p.1 p.2)).toArray:=by simp[intItems]
  rw[this];exact pl.isList
 have hpos:0<ps.toArray.size:=by
  cases ps with
  |nil=>exact(hne e.symm).elim
  |cons _ _=>simp
 refine min_intList (I.ok.hd hc) hl hpos fun v h' tk ev kp=>?_;obtain⟨t,rfl⟩:=intItems_at ev;rw[kc ps.toArray _ (by lia)];have ef:(ps.toArray.toList.map (·.1)).take (ps.toArray.size-1+1)=ns:=by rw[Jx (by simp;lia)];simpa using e
 rw[ef];exact⟨.int (mF ns),H,I.kept (t':=tk) kp,⟨t,rfl⟩,q⟩
end L2
namespace L2
open PySem PySem.Spec PySem.Calls PyProof.Rows ST
end L2
namespace L2
open PySem PySem.Spec PySem.Calls PyProof.Rows
end L2
namespace L2
open PySem PySem.Spec PyProof.Rows
open Sem (wp)
open Builtin
open Sem (wp)
open Builtin
noncomputable def ke (kts:List (Addr×List V))(a:Addr)(o:Obj)(ns:List Int):Hp:=fun b=>match kts.lookup b with
 |some xs=>some (.tup xs)
 |none=>if b=a then some (.bO o (.lst (ns.map V.int))) else none
section
theorem xB (e:kts.lookup b=some xs):ke kts a o ns b=some (.tup xs):=by unfold ke;rw[e]
theorem xC (e:kts.lookup a=none):ke kts a o ns a=some (.bO o (.lst (ns.map V.int))):=by unfold ke;rw[e];exact IS rfl
theorem xD (e:kts.lookup b=none)(n:b≠a):ke kts a o ns b=none:=by unfold ke;rw[e];exact IK n
end
theorem iz:∀{vs:List LO}{ns:List Int},IntsAre vs ns->Vals (ns.map V.int) vs
 |_,_,.nil=>.nil
 |_,_,.cons n t h=>.cons ⟨t,rfl⟩ (iz h)
theorem rR {P:LN}{w:World}{K:LM}{mg mb:Str->Option LO}{CX:uc}{k:Nat}{fa a:Addr}{fd:FuncData}{x:Str}{sp:Sp}{s₁:LL}{vs:List LO}{ns:List Int}{kts:List (Addr×List V)}
 (KX:K.In s₁.heap) (hns:s₁.heap.Ns mainGlobals mg) (hb:s₁.heap.Ns builtinsNs mb) (hbb:∀ x:Str,x≠"__name__"->mb x=bootBuiltins x) (hlim:s₁.heap.NoLimit) (hg:s₁.gens=#[])
 (ha:s₁.heap.get? a=some { cls:=.type "list",data:=.seq vs.toArray }) (hi:IntsAre vs ns) (hl:ns.length<=sizeLine) (hr:cv k callerA)
 (hK:∀ o,K.lookup a=some o->o.cls=.type "list"->False)
 (hT:∀ b xs,kts.lookup b=some xs->K.lookup b=none/\∃(o:Obj)(its:Array LO)(n:Nat),s₁.heap.get? b=some o/\o.cls=.type "tuple"/\o.data=.seq its n/\its.size<=sizeLine/\Vals xs its.toList)
 (hM:∀ p∈K,∀ b xs,zN p.2=some (b,xs)->kts.lookup b=some xs)
 (F:∀ base:Heap,K.In base->base.Ns mainGlobals mg->bz P w K mg base CX k fa fd [x] sp) (hbind:∀(s:LL)(u:LO),BindsTo s fd ⟨[u],[]⟩ [(x,u)])
 (hsp:∀ H:Hp,(∃ o,H a=some (.bO o (.lst (ns.map V.int))))->sp [.ref a] H (fun v _=>v=.bl true) fun _ _ _=>False)
 (hCX:∀ H e s',CX [] H s₁ (fun _ _ _=>False) e s'->False) :
 codeAny (model P w) callerA (.call (.ref fa) ⟨[.ref a],[]⟩) (fun r s'=>r=.ok (.ret (.bool true))/\OldK s₁.heap s'.heap/\s'.os=s₁.os/\AllBare s'.gens) s₁:=by
 have rv:=iz hi;have noK:K.lookup a=none:=by
  cases q:K.lookup a with
  |none=>rfl
  |some o=>have e:=KX a o q;rw[ha]at e;cases e;exact(hK _ q rfl).elim
 have noT:kts.lookup a=none:=by
  cases q:kts.lookup a with
  |none=>rfl
  |some xs=>obtain⟨_,o,its,n,e,c,_⟩:=hT a xs q;rw[ha]at e;cases e;exact absurd c (by simp)
 obtain⟨ob,eob⟩ : ∃ ob:Obj,ob={ cls:=.type "list",data:=.seq vs.toArray }:=⟨_,rfl⟩;rw[<- eob]at ha;generalize eH:ke kts a ob ns=H;have Ha:H a=some (.bO ob (.lst (ns.map V.int))):=by rw[<- eH];exact xC noT
 have Ht:∀ b xs,kts.lookup b=some xs->H b=some (.tup xs):=fun b xs e=>by rw[<- eH];exact xB e
 have Hn:∀ b,kts.lookup b=none->b≠a->H b=none:=fun b e n=>by rw[<- eH];exact xD e n
 have freeK:∀ b o,K.lookup b=some o->H b=none:=fun b o e=>by
  refine Hn b ?_ fun z=>by rw[z,noK]at e;cases e
  cases q:kts.lookup b with
  |none=>rfl
  |some xs=>rw[(hT b xs q).1]at e;cases e
 have freeD:∀(b:Addr)(o:Obj)(es:Array DictEntry)(ep:Nat),s₁.heap.get? b=some o->o.data=.dict es ep->H b=none:=fun b o es ep e d=>by
  refine Hn b ?_ fun z=>?_
  .cases q:kts.lookup b with
   |none=>rfl
   |some xs=>obtain⟨_,o',its,n,e',_,d',_⟩:=hT b xs q;rw[e]at e';cases e';rw[d]at d';cases d'
  .rw[z,ha]at e;cases e;rw[eob]at d;cases d
 have nsK:∀{b:Addr}{m:Str->Option LO},s₁.heap.Ns b m->(nL s₁.heap H).Ns b m:=fun{b m} ⟨o,es,ep,e,d,r⟩=>⟨o,es,ep,nM e (freeD b o es ep e d),d,r⟩;have hKb:K.In (nL s₁.heap H):=fun b o e=>nM (KX b o e) (freeK b o e);have hMd:Mod K mg (nL s₁.heap H):=⟨hKb,nsK hns,⟨mb,nsK hb,hbb⟩,let ⟨mc,h1,h2⟩:=hlim;⟨mc,nsK h1,h2⟩⟩;have aO:HOk P w H s₁.heap:=fun b u e=>by
  cases q:kts.lookup b with
  |some xs=>rw[Ht b xs q]at e;cases e;obtain⟨_,o,its,n,e1,c,d,z,r⟩:=hT b xs q;refine⟨by rw[r.length];simpa using z,its.toList,r,o,e1,c,n,by simpa using d⟩
  |none=>
   by_cases hba:b=a
   .rw[hba,Ha]at e;cases e;rw[hba];exact⟨ha,by rw[Iq];exact hl,vs,_,rv,by rw[ha,eob]⟩
   .rw[Hn b q hba]at e;cases e
 have e0:qk P w K mg (nL s₁.heap H) callerA [] s₁ H:=⟨rfl,hMd,fun b o e=>wY e,Lq (rn _ _),trivial,fun b hb=>absurd (show b∈([]:List Addr) from hb) (by simp),aO,.of_eq hg,fun p hp b xs e=>Ht b xs (hM p hp b xs e)⟩;refine Lr ((F _ hKb (nsK hns)).run callerA [] s₁ H ⟨[.ref a],[]⟩ [.ref a] [.ref a] _ _ hr e0 (hbind s₁ (.ref a)) (.cons rfl .nil) (hsp H ⟨ob,Ha⟩)) fun r s' h=>?_;cases r with
 |error e=>exact(hCX H e s' h).elim
 |ok fl=>
  cases fl with
  |next=>exact False.elim h
  |brk=>exact False.elim h
  |cont=>exact False.elim h
  |ret u=>
   obtain⟨v,H',os,bare,un,hok',r',q⟩:=h;have q':v=.bl true:=q;subst q';obtain rfl:u=Value.bool true:=r';refine⟨rfl,OldK.of_keep fun b o e=>?_,os,bare⟩;by_cases hba:b=a
   .rw[hba]at e ⊢;have z2:=un.gK a ob _ Ha;obtain⟨e2,_⟩:=hok' a _ z2;rw[ha]at e;cases e;exact e2
   .refine un.keep b o e ?_ (by intro z;exact absurd (show b∈([]:List Addr) from z) (by simp)) (by simp);cases q:kts.lookup b with
    |none=>exact .inl (Hn b q hba)
    |some xs=>exact .inr ⟨xs,Ht b xs q⟩
section
variable {K K':LM}
def ET (K:LM):Bool:=K.all fun p=>(zN p.2).isNone
structure gM (K K':LM):Prop where
 look:∀ b o,K.lookup b=some o->(∀ its n,o.data≠.seq its n)->K'.lookup b=some o
theorem rS:gM K K:=⟨fun _ _ e _=>e⟩
theorem gM.code (S:gM K K')(h:PySem.W.codeIn K cd q=true):PySem.W.codeIn K' cd q=true:=by
 unfold PySem.W.codeIn at h ⊢;cases cd with
 |ref c=>
  dsimp only at h ⊢;cases e:K.lookup c with
  |none=>rw[e]at h;cases h
  |some o=>
   obtain⟨o1,o2,o3,o4⟩:=o;cases o3 with
   |fields vs=>rw[S.look c _ e (fun _ _ z=>nomatch z)];rw[e]at h;exact h
   |_=>rw[e]at h;cases h
 |_=>cases h
theorem gM.keep (S:gM K K')(e:K.lookup f=some ⟨o1,o2,.func fd,o4⟩):PySem.W.keepIn K' (.ref f)=true:=by unfold PySem.W.keepIn;dsimp only;rw[S.look f _ e (fun _ _ z=>nomatch z)]
theorem gM.ns (S:gM K K')(h:PySem.W.nsIn K n x=some r):PySem.W.nsIn K' n x=some r:=by
 unfold PySem.W.nsIn at h ⊢;cases e:K.lookup n with
 |none=>rw[e]at h;cases h
 |some o=>
  obtain⟨o1,o2,o3,o4⟩:=o;cases o3 with
  |dict es ep=>rw[S.look n _ e (fun _ _ z=>nomatch z)];rw[e]at h;exact h
  |_=>rw[e]at h;cases h
theorem gM.nsOk (S:gM K K')(h:PySem.W.nsOkIn K n=true):PySem.W.nsOkIn K' n=true:=by
 unfold PySem.W.nsOkIn at h ⊢;cases e:K.lookup n with
 |none=>rw[e]at h;cases h
 |some o=>
  obtain⟨o1,o2,o3,o4⟩:=o;cases o3 with
  |dict es ep=>rw[S.look n _ e (fun _ _ z=>nomatch z)];rw[e]at h;exact h
  |_=>rw[e]at h;cases h
theorem gM.tail (S:gM K K'):∀{l:List LO},PySem.W.tailIn K bm l=true->PySem.W.tailIn K' bm l=true
 | [],h=>h
 |v::r,h=>by
  unfold PySem.W.tailIn at h ⊢;rw[Bool.or_eq_true]at h ⊢;refine h.imp id fun h=>?_;cases v with
  |ref A=>
   dsimp only at h ⊢;cases e:K.lookup A with
   |none=>rw[e]at h;cases h
   |some o=>
    obtain⟨o1,o2,o3,o4⟩:=o;cases o3 with
    |cls cd=>rw[S.look A _ e (fun _ _ z=>nomatch z)];rw[e]at h;dsimp only at h ⊢;simp only[Kq,Le]at h ⊢;exact⟨⟨S.nsOk h.1.1,S.ns h.1.2⟩,S.tail h.2⟩
    |_=>rw[e]at h;cases h
  |_=>cases h
theorem gM.exc (S:gM K K')(h:PySem.W.excIn K C bm i=true):PySem.W.excIn K' C bm i=true/\j6 K' C=j6 K C:=by
 unfold PySem.W.excIn at h ⊢;unfold j6;cases e:K.lookup C with
 |none=>rw[e]at h;cases h
 |some o=>
  obtain⟨o1,o2,o3,o4⟩:=o;rw[e]at h;cases o3 with
  |cls cd=>
   rw[S.look C _ e (fun _ _ z=>nomatch z)];refine⟨?_,rfl⟩;split at h
   .rename_i dd cd' sl he;injection he with he;injection he with he1 he2 he3 he4;injection he3 with he3;subst he1 he2 he3 he4
    try dsimp only at h
    try dsimp only
    split at h
    .rename_i hm hs;simp only[Kq,Le]at h ⊢;exact⟨⟨⟨h.1.1.1,S.tail h.1.1.2⟩,S.nsOk h.1.2⟩,S.ns h.2⟩
    .cases h
   .cases h
  |_=>split at h<;>first|cases h|(rename_i he;injection he with he;injection he with _ _ he _;cases he)
end
noncomputable def qH:LO->Bool
 | .type n=>n=="list"
 |_=>false
def EU (K:LM):Bool:=K.all fun p=>!qH p.2.cls
theorem uz:∀{K:LM},EU K=true->K.lookup a=some o->o.cls=.type "list"->False
 | [],_,e,_=>by cases e
 |(b,x)::r,h,e,c=>by
  unfold EU at h;rw[LF,Kq]at h;rw[Kr]at e;split at e
  .cases e;rw[c]at h;have h1:=h.1;simp[qH]at h1
  .exact uz (K:=r) h.2 e c
section
variable {l:PySem.W.OpenLaw}{K:Params->LM}{CX:World->uc}{sp:World->Sp}
theorem uA (hn:l.most=some n)(hn2:n<=sizeLine)(hdf:d.params.defaults=[])(hr:cv k callerA)(hY:∀(w:World)(h:Heap),YP w h->(K w.params).In h)
 (hL:∀ w:World,EU (K w.params)=true/\ET (K w.params)=true)
 (F:∀(w:World)(mg:Str->Option LO)(fa:Addr)(h:Heap),(K w.params).In h->h.Ns mainGlobals mg->mg d.name=some (.ref fa)->
   ∃ fd:FuncData,(∀(s:LL)(u:LO),BindsTo s fd ⟨[u],[]⟩ [(x,u)])/\∀ base:Heap,(K w.params).In base->base.Ns mainGlobals mg->bz l.prog w (K w.params) mg base (CX w) k fa fd [x] (sp w))
 (hsp:∀(w:World)(H:Hp)(a:Addr)(ns:List Int),ns.length<=n->(∃ o,H a=some (.bO o (.lst (ns.map V.int))))->sp w [.ref a] H (fun v _=>v=.bl true) fun _ _ _=>False)
 (hCX:∀(w:World)(H:Hp)(s:LL)(e:LO)(s':LL),CX w [] H s (fun _ _ _=>False) e s'->False) :
 PySem.W.WalkO q loose XP YP l.row.toRowW d [] (fun f vs=>PySem.call f vs):=by
 refine Att.attach_call hn hdf fun w s₀ s₁ mg mb fa o pm cd doc a vs ns G Y ho hd hcd hmg hobj hints bH hg=>?_;have KX:=hY w _ Y;obtain⟨fd,hb,hF⟩:=F w mg fa _ KX G.T.g hmg;exact rR (kts:=[]) KX G.T.g G.T.b G.T.builtins G.T.nolimit hg hobj hints (IV bH hn2) hr (fun o e c=>uz (hL w).1 e c) (fun b xs e=>by cases e)
  (fun p hp b xs e=>by have:=List.all_eq_true.mp (hL w).2 p hp;rw[e]at this;cases this) hF hb (fun H hS=>hsp w H a ns bH hS) fun H e s'=>hCX w H s₁ e s'
end
end L2
namespace L2
open PySem PySem.Spec PySem.Calls PyProof.Rows
noncomputable abbrev K0:=Sum Int (List Int)
abbrev NX:=List (List K0×Addr×LO)
end L2
namespace L2
open PySem PySem.Spec PySem.Calls PyProof.Rows ST
end L2
namespace L3
open PySem PySem.Spec PyProof.Rows L2
abbrev DK:=Sum ba (List ba)
inductive D where
 |bu|bl (b:Bool)|int (i:Int)|str (x:Str)|tup (ds:List D)|lst (ds:List D)|rg (ks:List DK) (ds:List D)
mutual
noncomputable def D.flat:D->Bool
 | .lst _=>false
 | .rg _ _=>false
 | .tup ds=>D.wo ds
 |_=>true
noncomputable def D.wo:List D->Bool
 | []=>true
 |d::ds=>d.flat&&D.wo ds
end
mutual
noncomputable def D.dep:D->Nat
 | .lst ds=>D.lC ds+1
 | .tup ds=>D.lC ds+1
 | .rg _ ds=>D.lC ds+1000
 |_=>0
noncomputable def D.lC:List D->Nat
 | []=>0
 |d::ds=>max d.dep (D.lC ds)
end
def DAt (H:Hp)(a:Addr)(ks:List DK)(vs:List V):Prop:=(∃ kvs:List (ba×V),Rd H a (.dK kvs)/\ks=kvs.map (fun p=>.inl p.1)/\vs=kvs.map Prod.snd)\/∃ kvs:List (List ba×V),Rd H a (.dT kvs)/\ks=kvs.map (fun p=>.inr p.1)/\vs=kvs.map Prod.snd
noncomputable def EV:HO->Prop
 | .lst _=>True
 | .dK _=>True
 | .dT _=>True
 | .ext _=>True
 |_=>False
def Mu (H:Hp)(a:Addr):Prop:=∃ o,H a=some o/\EV o
theorem za (h:Rd H a u):∃ o,H a=some o:=h.elim (fun e=>⟨_,e⟩) fun⟨_,e⟩=>⟨_,e⟩
theorem uB (h:Rd H a u)(s:∀ o,H a=some o->H' a=some o):Rd H' a u:=h.imp (s _) fun⟨o,e⟩=>⟨o,s _ e⟩
theorem DAt.obj (h:DAt H a ks vs):∃ o,H a=some o:=h.elim (fun⟨_,e,_⟩=>za e) fun⟨_,e,_⟩=>za e
theorem DAt.keep (h:DAt H a ks vs)(s:∀ o,H a=some o->H' a=some o):DAt H' a ks vs:=h.imp (fun⟨kvs,e,r⟩=>⟨kvs,uB e s,r⟩) fun⟨kvs,e,r⟩=>⟨kvs,uB e s,r⟩
mutual
noncomputable def Is (H:Hp)(m:Addr->Prop):D->V->Prop
 | .bu,v=>v=.bu
 | .bl b,v=>v=.bl b
 | .int i,v=>v=.int i
 | .str x,v=>v=.str x
 | .tup ds,v=>∃ a vs,v=.ref a/\H a=some (.tup vs)/\IsAll H m ds vs
 | .lst ds,v=>∃ a vs,v=.ref a/\((H a=some (.lst vs)/\m a)\/∃ o,H a=some (.bO o (.lst vs))/\m a)/\IsAll H m ds vs
 | .rg ks ds,v=>∃ a vs,v=.ref a/\(DAt H a ks vs/\m a)/\IsAll H m ds vs
noncomputable def IsAll (H:Hp)(m:Addr->Prop):List D->List V->Prop
 | [],vs=>vs=[]
 |d::ds,vs=>∃ v r,vs=v::r/\Is H m d v/\IsAll H m ds r
end
noncomputable def Cg:HO->Prop
 | .tup _=>True
 | .bO _ _=>True
 |_=>False
section
mutual
theorem Is.mono (kp:∀ a o,H a=some o->(m a\/Cg o)->H' a=some o)(mm:∀ a o,H a=some o->m a->m' a):∀{d:D}{v:V},Is H m d v->Is H' m' d v
 | .bu,_,h=>h
 | .bl _,_,h=>h
 | .int _,_,h=>h
 | .str _,_,h=>h
 | .tup ds,_,h=>by obtain⟨a,vs,e,h1,h2⟩:=h;exact⟨a,vs,e,kp a _ h1 (.inr True.intro),IsAll.mono kp mm h2⟩
 | .lst ds,_,h=>by
  obtain⟨a,vs,e,h1,h2⟩:=h;refine⟨a,vs,e,?_,IsAll.mono kp mm h2⟩;rcases h1 with⟨h1,h3⟩|⟨o,h1,h3⟩
  .exact .inl ⟨kp a _ h1 (.inl h3),mm a _ h1 h3⟩
  .exact .inr ⟨o,kp a _ h1 (.inr True.intro),mm a _ h1 h3⟩
 | .rg ks ds,_,h=>by obtain⟨a,vs,e,h1,h2⟩:=h;obtain⟨o,eo⟩:=h1.1.obj;exact⟨a,vs,e,⟨h1.1.keep fun o e=>kp a o e (.inl h1.2),mm a o eo h1.2⟩,IsAll.mono kp mm h2⟩
theorem IsAll.mono (kp:∀ a o,H a=some o->(m a\/Cg o)->H' a=some o)(mm:∀ a o,H a=some o->m a->m' a):∀{ds:List D}{vs:List V},IsAll H m ds vs->IsAll H' m' ds vs
 | [],_,h=>h
 |d::ds,_,h=>by obtain⟨v,r,e,h1,h2⟩:=h;exact⟨v,r,e,Is.mono kp mm h1,IsAll.mono kp mm h2⟩
end
theorem IsAll.length:∀{ds:List D}{vs:List V},IsAll H m ds vs->vs.length=ds.length
 | [],_,h=>by cases h;rfl
 |d::ds,_,h=>by obtain⟨v,r,rfl,_,h2⟩:=h;simp[IsAll.length h2]
theorem IsAll.get:∀{ds:List D}{vs:List V}{i:Nat}{d:D},IsAll H m ds vs->ds[i]?=some d->∃ v,vs[i]?=some v/\Is H m d v
 | [],_,_,_,_,e=>by simp at e
 |d::ds,_,0,_,h,e=>by obtain⟨v,r,rfl,h1,h2⟩:=h;simp at e;subst e;exact⟨v,rfl,h1⟩
 |d::ds,_,i+1,_,h,e=>by obtain⟨v,r,rfl,h1,h2⟩:=h;obtain⟨w,a,b⟩:=IsAll.get (i:=i) h2 (by simpa using e);exact⟨w,by simpa using a,b⟩
end
section
variable {s:LL}{m:Addr->Prop}
theorem pN (ok:HOk P w H s.heap)(h:(H a=some (.lst vs)/\m a)\/∃ o,H a=some (.bO o (.lst vs))/\m a) :
 ∃ its:List LO,Vals vs its/\s.heap.IsList a its.toArray:=by
 have key:ObjOk P w H s.heap a (.lst vs)->∃ its:List LO,Vals vs its/\s.heap.IsList a its.toArray:=fun⟨_,its,n,r,e⟩=>⟨its,r,⟨_,e,rfl,n,rfl⟩⟩;rcases h with⟨h,_⟩|⟨o,h,_⟩
 .exact key (ok a _ h)
 .exact key (ok a _ h).2
theorem i7 (ok:HOk P w H s.heap)(h:H a=some (.tup vs)):∃ its:List LO,Vals vs its/\s.heap.IsTuple a its.toArray:=by obtain⟨_,its,r,e⟩:=ok a _ h;exact⟨its,r,e⟩
theorem jK:∀{ds:List D}{j:Nat}{d:D},ds[j]?=some d->d.dep<=D.lC ds
 | [],_,_,e=>by simp at e
 |d::ds,0,_,e=>by simp at e;subst e;simp only[D.lC];lia
 |d::ds,j+1,x,e=>by have:=jK (ds:=ds) (j:=j) (d:=x) (by simpa using e);simp only[D.lC];lia
end
abbrev St:=L2.St
inductive Res (α:Type) where
 |stuck|ok (a:α)|exc (c:Str)
noncomputable def Res.bind {α β:Type}:Res α->(α->Res β)->Res β
 | .stuck,_=>.stuck
 | .exc c,_=>.exc c
 | .ok a,k=>k a
inductive Sl where
 |val (d:D) (fr:Bool)|own (ds:List D) (fr:Bool)|Gb (d:D)|HU (d:D)
noncomputable abbrev En:=List (Option Sl)
inductive R where
 |val (d:D) (fr:Bool) (al:List Nat)|new (ds:List D) (fr:Bool)|o0 (d:D)
noncomputable def R.d:R->D
 | .val d _ _=>d
 | .new ds _=>.lst ds
 | .o0 d=>d
noncomputable def R.fr:R->Bool
 | .val _ f _=>f
 | .new _ f=>f
 | .o0 _=>true
noncomputable def R.al:R->List Nat
 | .val _ _ al=>al
 | .new _ _=>[]
 | .o0 _=>[]
structure Gd where
 H₀:Hp
 Ma:Addr->Prop
 Z:Addr->Prop
 root:Option V
 Gf:Option V
noncomputable abbrev Gm (H:Hp)(Ma:Addr->Prop):Gd:=⟨H,Ma,fun _=>False,none,none⟩
noncomputable abbrev Pr:=Nat->Addr->Prop
noncomputable def Gd.rt (g:Gd)(n:Nat):Option V:=if n=0 then g.root else g.Gf
noncomputable def Sl.Ew:Sl->Bool
 | .val _ _=>false
 |_=>true
def zb (env:En)(j:Nat):Bool:=match env[j]? with
 |some (some sl)=>sl.Ew
 |_=>false
section
theorem aw (h:H a=none):Same H (upd H a o):=fun b u e=>by rw[au (am e h)];exact e
end
def GU (mg:Str->Option LO)(E:XK)(g:Gd)(c:Str):Prop:=∀ cls dx H',mg c=some cls->Same g.H₀ H'->E cls dx H'
section
def Ci (rs:List R):Bool:=rs.all R.fr
end
noncomputable def lim:Nat:=1000000
def Gn (ds:List D)(fr:Bool)(al:List Nat):R:=if D.wo ds then .new ds true else if al.isEmpty then .new ds fr else .val (.lst ds) fr al
def nl (H0 H':Hp)(a:Addr):Prop:=H0 a=none/\Mu H' a
def zc (g:Gd)(H':Hp)(v:V):R->Prop
 | .val d fr _=>Is H' (fun a=>nl g.H₀ H' a\/(fr=false/\g.Ma a)) d v
 | .new ds fr=>∃ a vs,v=.ref a/\H' a=some (.lst vs)/\g.H₀ a=none/\IsAll H' (fun b=>b≠a/\(nl g.H₀ H' b\/(fr=false/\g.Ma b))) ds vs
 | .o0 d=>Is H' (nl g.H₀ H') d v
def Cj (mg:Str->Option LO)(E:XK)(g:Gd)(Q:VK):Res R->Prop
 | .stuck=>False
 | .exc c=>GU mg E g c
 | .ok r=>∀ v H',Same g.H₀ H'->zc g H' v r->Q v H'
def tO (mg:Str->Option LO)(n:Nat)(F:List D->Res R):Sp:=fun vs H Q E=>vs.length=n/\∃ ds Ma,IsAll H Ma ds vs/\Cj mg E (Gm H Ma) Q (F ds)
inductive Fl where
 |nx (env:En)|rt (r:R)|bk (env:En)|ct (env:En)|rm (r:R) (env:En)
section
def EY (env:En)(i:Nat):En:=match env[i]? with
 |some (some (.own ds fr))=>env.set i (some (.val (.lst ds) fr))
 |some (some (.Gb d))=>env.set i (some (.val d true))
 |some (some (.HU _))=>env.set i none
 |_=>env
def bO (env:En)(al:List Nat):En:=al.foldl EY env
def put (env:En)(i:Nat):R->En
 | .new ds fr=>env.set i (some (.own ds fr))
 | .val d fr al=>(bO env al).set i (some (.val d fr))
 | .o0 d=>env.set i (some (.Gb d))
end
structure Src where
 xs:List D
 fr:Bool
 al:List Nat
theorem fA:∀(names:List (Str×NameKind))(cs:List (Str×Addr)),(∀ x∈names,x.2=.free->∃ c,env.cells.lookup x.1=some c)->(∀ y c,cs.lookup y=some c->env.cells.lookup y=some c)->
 ∃ cl,(forIn names cs fun(x:Str×NameKind)(r:List (Str×Addr))=>(do
  if (x.2==.free)=true then
   let c <- cellOf env x.1
   pure (ForInStep.yield ((x.1,c)::r))
  else pure (ForInStep.yield r):Sem (ForInStep (List (Str×Addr)))))=pure cl/\(∀ y c,cl.lookup y=some c->env.cells.lookup y=some c)/\(∀ x∈names,x.2=.free->∃ c,cl.lookup x.1=some c)/\(∀ y c,cs.lookup y=some c->∃ c',cl.lookup y=some c')
 | [],cs,_,h=>⟨cs,by simp,h,fun _ z=>absurd z (by simp),fun y c e=>⟨c,e⟩⟩
 |(n,k)::r,cs,hf,h=>by
  by_cases hk:k=.free
  .subst hk;obtain⟨c,hc⟩:=hf (n,.free) (by simp) rfl;have hco:cellOf env n=pure c:=by simp[cellOf,hc]
   have h':∀ y c',((n,c)::cs).lookup y=some c'->env.cells.lookup y=some c':=fun y c' e=>by
    rw[Kr]at e;cases hy:y==n with
    |true=>rw[hy]at e;cases e;rw[eq_of_beq hy];exact hc
    |false=>rw[hy]at e;exact h y c' e
   obtain⟨cl,e1,e2,e3,e4⟩:=fA r ((n,c)::cs) (fun x hx=>hf x (by simp[hx])) h';have self:∃ c',cl.lookup n=some c':=e4 n c (by simp[Kr]);refine⟨cl,?_,e2,fun x hx hxf=>?_,fun y c' e=>?_⟩
   .rw[List.forIn_cons];simp only[J5,LJ,hco,pure_bind];exact e1
   .rcases ID.mp hx with rfl|hx
    .exact self
    .exact e3 x hx hxf
   .by_cases hy:y=n
    .rw[hy];exact self
    .refine e4 y c' ?_;have hb:(y==n)=false:=by simpa using hy
     rw[Kr,hb];exact e
  .obtain⟨cl,e1,e2,e3,e4⟩:=fA r cs (fun x hx=>hf x (by simp[hx])) h;refine⟨cl,?_,e2,fun x hx hxf=>?_,e4⟩
   .rw[List.forIn_cons];have hkb:(k==NameKind.free)=false:=by simpa using hk
    simp only[hkb,KN,LK,pure_bind];exact e1
   .rcases ID.mp hx with rfl|hx
    .exact absurd hxf hk
    .exact e3 x hx hxf
theorem k_ (h:∀ x∈scope.names,x.2=.free->∃ c,env.cells.lookup x.1=some c) :
 ∃ cl,closureFor scope env=pure cl/\(∀ y c,cl.lookup y=some c->env.cells.lookup y=some c)/\(∀ x∈scope.names,x.2=.free->∃ c,cl.lookup x.1=some c):=by
 obtain⟨cl,e1,e2,e3,_⟩:=fA scope.names [] h (fun _ _ e=>by simp at e);refine⟨cl,?_,e2,e3⟩;unfold closureFor;refine Eq.trans ?_ (show((pure cl:Sem (List (Str×Addr))) >>= fun cs=>pure cs)=pure cl by simp);rw[<- e1]
 all_goals first
  |rfl
  |(congr 1;congr 1;funext x r;obtain⟨n,k⟩:=x;first|rfl|(dsimp only;split<;>simp_all))
theorem jn {f:Str->NameKind->NameKind}:∀(names:List (Str×NameKind))(y:Str),(names.map fun x=>(x.1,f x.1 x.2)).lookup y=(names.lookup y).map (f y)
 | [],y=>rfl
 |(n,k)::r,y=>by
  rw[II,Kr,Kr];cases h:y==n with
  |true=>rw[eq_of_beq h];rfl
  |false=>exact jn r y
theorem gb (scope:Scope)(env:Env)(y:Str):(relabel scope env).names.lookup y=(scope.names.lookup y).map fun k=>if (k==.free&&env.scope.kind==.function&&env.kindOf y==some .cell)=true then .cell else k:=by
 have e:(relabel scope env).names=scope.names.map fun x=>(x.1,(fun n k=>if (k==NameKind.free&&env.scope.kind==.function&&env.kindOf n==some .cell)=true then NameKind.cell else k) x.1 x.2):=by unfold relabel;refine Jl fun x _=>?_;obtain⟨n,k⟩:=x;dsimp only;split<;>rfl
 rw[e];exact jn (f:=fun n k=>if (k==NameKind.free&&env.scope.kind==.function&&env.kindOf n==some .cell)=true then NameKind.cell else k) scope.names y
theorem mG (h:scope.names.lookup y=some .free):(relabel scope env).names.lookup y=some .cell\/(relabel scope env).names.lookup y=some .free:=by
 rw[gb,h];simp only[Option.map_some];split
 .exact .inl rfl
 .exact .inr rfl
noncomputable def b_ (X:Cx)(scope:Scope)(N:List Str)(cl:List (Str×Addr))(C:Addr)(s:LL)(H:Hp)(ex:List Addr):Cx:={ X with N:=N,s₀:=s,H₀:=H,env:=compEnvC scope cl C X.env,outer:=X.stack,ex:=ex,fn:=fun _=>false,pn:=[],xe:=fun _ _=>False }
section
theorem xE (I:L2.Inv X ae σ H s)(hkind:scope.kind=.function)(hcell:∀ y∈scope.names,y.2≠.cell)(hcl:∀ y c,cl.lookup y=some c->X.env.cells.lookup y=some c)(hhas:∀ x∈scope.names,x.2=.free->∃ c,cl.lookup x.1=some c)
 (hC:s.heap.objs.size<=C) (hex:∀ b∈ex,gH X ae H b/\b<s.heap.objs.size):(b_ X scope N cl C s H ex).Ok where
 mod:=I.ok.mod
 kind:=hkind
 glob:=I.ok.glob
 blt:=I.ok.blt
 above:=hC
 inj:=fun x y c h1 h2=>I.ok.inj x y c (hcl x c h1) (hcl y c h2)
 has:=fun y hy=>by
  have key:∀ k,(relabel scope X.env).names.lookup y=some k->(k=.cell\/k=.free)->∃ c,cl.lookup y=some c:=fun k e hk=>by
   rw[gb]at e;cases q:scope.names.lookup y with
   |none=>rw[q]at e;cases e
   |some k0=>
    have hm:=JN q;have h0:=hcell _ hm;have hf:k0=.free:=by
     rw[q]at e;simp only[Option.map_some,Option.some.injEq]at e;split at e
     .rename_i z;simp only[Kq,Le]at z;exact z.1.1
     .rcases hk with hk|hk
      .exact absurd (e.trans hk) h0
      .exact e.trans hk
    exact hhas _ hm hf
  rcases hy with hy|hy
  .exact key _ hy (.inl rfl)
  .exact key _ hy (.inr rfl)
 yK:=fun _ _ h=>by cases h
 hd:=I.ok.hd
 frames:=I.ok.frames
 aV:=.inl rfl
 B0:=fun b hb=>⟨IN (I0 (hex b hb).2 hC),fun x c e=>(hex b hb).1.2.2.2.2.1 x c (hcl x c e)⟩
 bs:=fun b o e=>I.bs b o e
 tL:=IV I.ok.tL I.sz
 nw:=fun b o e hb=>by
  rcases (hex b hb).1.2.2.2.1 with z|z
  .exact I.ok.nw b o e z
  .exact absurd (I0 (Iz e) (IV I.ok.tL z)) (JI _)
 oZ:=fun b hb hfs=>by
  rcases ID.mp (I.kW b hfs) with z|z
  .exact(hex b hb).1.2.1 z
  .exact(hex b hb).1.2.2.1 z
 gJ:=I.stack
 wu:=I.nC
 kt:=I.kt
structure D4 (X:Cx) (scope:Scope) (capN:List Str) (caps:List Nat):Prop where
 at':∀(k:Nat)(y:Str),capN[k]?=some y->∃ j:Nat,caps[k]?=some j/\X.N[j]?=some y
 out:∀ y∈capN,X.env.kindOf y=some .cell\/X.env.kindOf y=some .free
 GG:∀ y∈capN,scope.names.lookup y=some .free
 len:caps.length=capN.length
noncomputable def kg (σ:St)(caps:List Nat):St:=caps.map fun j=>(σ[j]?).join
theorem uC (I:L2.Inv X ae σ H s)(hkind:scope.kind=.function)(hcell:∀ y∈scope.names,y.2≠.cell)(hcl:∀ y c,cl.lookup y=some c->X.env.cells.lookup y=some c)(hhas:∀ x∈scope.names,x.2=.free->∃ c,cl.lookup x.1=some c)
 (hC:s.heap.objs.size<=C) (hex:∀ b∈ex,gH X ae H b/\b<s.heap.objs.size) (hc:D4 X scope capN caps) (kp:∀ b o,s.heap.get? b=some o->h4.get? b=some o) (ns:h4.Ns C m4) :
 L2.Inv (b_ X scope (tN++capN) cl C s H ex) [] (List.replicate tN.length none++kg σ caps) H { s with heap:=h4,toks:=tk } where
 ok:=xE I hkind hcell hcl hhas hC hex
 os:=rfl
 bare:=I.bare
 base:=Un.kept kp
 loc:=by
  refine⟨m4,ns,fun i y v e1 e2 e3=>?_⟩;by_cases hlt:i<tN.length
  .rw[Kd (by simpa using hlt),List.getElem?_replicate]at e2;rw[IS hlt]at e2;cases e2
  .obtain⟨k,rfl⟩ : ∃ k,i=tN.length+k:=⟨i-tN.length,by lia⟩;have e1:capN[k]?=some y:=by
    have e1:(tN++capN)[tN.length+k]?=some y:=e1
    rwa [J2 (by lia),KO]at e1
   have e2:(kg σ caps)[k]?=some (some v):=by
    rwa [J2 (by simp),List.length_replicate,KO]at e2
   obtain⟨j,ej,eN⟩:=hc.at' k y e1;have e4:σ[j]?=some (some v):=by
    unfold kg at e2;rw[IE,ej]at e2;have e2:(σ[j]?).join=some v:=by simpa using e2
    cases q:σ[j]? with
    |none=>rw[q]at e2;cases e2
    |some o=>rw[q]at e2;cases o with
     |none=>cases e2
     |some w=>cases e2;rfl
   have hm:=IH e1;obtain⟨m,hn,hl⟩:=I.loc;have hout:=hc.out y hm;obtain⟨u,r,l⟩:=hl j y v eN e4 (.inr hout);refine⟨u,r,.inr ⟨mG (hc.GG y hm),?_⟩⟩;obtain⟨c,hcl2⟩:=hhas (y,.free) (JN (hc.GG y hm)) rfl;refine⟨c,hcl2,?_⟩;rcases l with⟨l,_⟩|⟨_,c',e5,z⟩
   .rcases hout with h|h<;>(rw[h]at l;cases l)
   .have:=hcl y c hcl2;rw[e5]at this;cases this;obtain⟨o,ho,hd⟩:=z;exact⟨o,kp _ o ho,hd⟩
 cell:=fun y c e=>by obtain⟨v,o,ho,hd⟩:=I.cell y c (hcl y c e);exact⟨v,o,kp _ o ho,hd⟩
 free:=I.aO.fresh hC
 dc:=fun y c e=>I.dc y c (hcl y c e)
 pin:=fun p hp=>absurd (show p∈([]:List (Addr×Obj)) from hp) (by simp)
 aO:=I.aO.kept kp
 len:=by simp[b_,kg,hc.len]
theorem rT (I:L2.Inv X ae σ H s)(hX:X'=b_ X scope N cl C s H ex)(hC:s.heap.objs.size<=C)(hex:∀ b∈ex,gH X ae H b/\b<s.heap.objs.size)
 (I':L2.Inv X' pl σ' H' s'):L2.Inv X ae σ H' s'/\gH X ae H' C:=by
 subst hX;refine⟨I.zC (ch:=ex) I'.os I'.base I'.aO I'.bare fun b hb=>?_,I.kU hC I'.free⟩;obtain⟨_,h2,h3,h4,h5,h6⟩:=(hex b hb).1;exact⟨h4,h2,h5,h6⟩
theorem xF (I:L2.Inv X ae σ H s)(hf:gH X ae H C)(sb:Heap.SameBut C s.heap h'):L2.Inv X ae σ H { s with heap:=h' }:=I.turned (t':=s.toks) (it:=C) (fun b o hb e=>(sb.2 b hb).trans e) hf.1 hf.2.1 hf.2.2.2.1 hf.2.2.2.2.1 hf.2.2.2.2.2
end
section
def BU (X:Cx)(ifs:List Expr)(tt:TT):Prop:=∀(ae:List (Addr×Obj))(s:LL)(σ:St)(H:Hp)(Q:Bool->Hp->Prop),L2.Inv X ae σ H s->tt σ H Q->
 wpAny (model X.prog X.w) X.A (forIn ifs true fun c r=>if r=true then do let ok <- isTrue c X.env (eval c X.env);pure (ForInStep.yield ok) else pure (ForInStep.yield r)) (TP X ae σ Q) X.xe s
theorem iA:BU X [] (fun _ H Q=>Q true H):=fun _ _ σ H Q I q=>wpAny_tests_nil ⟨H,I,q⟩
theorem xG (h:PT X c tt):BU X [c] tt:=fun ae s σ H Q I q=>wpAny_tests_one (h ae s σ H Q I q)
theorem rV (hX:X'=b_ X scope (tN++capN) cl C s3 H3 fp)(T:Turn X.prog X.w X.K tg J fp it tn)(hcalm:X.calm=true)
 (I4:L2.Inv X' [] (List.replicate tN.length none++σc) H3 s4) (bH:X'.N.length=tN.length+σc.length) (st4:tn 0 s4.heap) (hf:∀ b∈fp,gH X' [] H3 b)
 (hg:PG X' tg gt) (ht:BU X' ifs tt) (he:PE X' elt te)
   (W:Nat->Nat->List V->Hp->Prop) (Fin:List V->Hp->Prop) (w0:∃ m,W 0 m [] H3)
   (turn:∀ i m acc H,W i m acc H->H Dl=some (.lst acc)/\((J.stop i H/\Fin acc H)\/(J.go i H/\∀ xv H' o,J.tS i H xv H'->o.length=tN.length->gt xv (o++σc) H' fun σ2 H1=>(∀ j:Nat,tN.length<=j->σ2[j]?=(o++σc)[j]?)/\tt σ2 H1 fun b H2=>if b=true then
     te σ2 H2 fun y H5=>H5 Dl=some (.lst acc)/\acc.length<sizeLine/\∃ m',m'<m/\W (i+1) m' (acc++[y]) (upd H5 Dl (.lst (acc++[y]))) else ∃ m',m'<m/\W (i+1) m' acc H2)))
   (R:Result->LL->Prop) (hR:∀ σ' H' acc s',L2.Inv X' [] σ' H' s'->H' Dl=some (.lst acc)->Fin acc H'->R (.ok .next) s') :
   codeAny (model X.prog X.w) X.A (.compLoop (.ListComp elt [⟨tg,iter,ifs,0⟩] scope pos) 0 (.ref it) (.ref Dl) (compEnvC scope cl C X.env)) R s4:=by
  obtain⟨m0,w0⟩:=w0;have eA:X'.A=X.A:=by rw[hX];rfl
  have eP:X'.prog=X.prog:=by rw[hX];rfl
  have eW:X'.w=X.w:=by rw[hX];rfl
  have eK:X'.K=X.K:=by rw[hX];rfl
  have eE:X'.env=compEnvC scope cl C X.env:=by rw[hX];rfl
  have eX:X'.xe=fun _ _=>False:=by rw[hX];rfl
  have eC:X'.calm=true:=by rw[hX];exact hcalm
  have stat:∀{H':Hp},(∀ b∈fp,H' b=none)->∀ b∈fp,gH X' [] H' b:=fun hn b hb=>⟨hn b hb,(hf b hb).2⟩;refine codeAny_loop rfl (fun n s=>∃ i o acc H,L2.Inv X' [] (o++σc) H s/\o.length=tN.length/\tn i s.heap/\(∀ b∈fp,H b=none)/\W i n acc H) ?_ m0 ⟨0,List.replicate tN.length none,[],H3,I4,by simp,st4,fun b hb=>(hf b hb).1,w0⟩;rintro n s5 ⟨i,o,acc,H5,I5,lo,st5,fr5,w5⟩;show wpAny _ X.A ((compTurn (.ListComp elt [⟨tg,iter,ifs,0⟩] scope pos) 0 (.ref it) (.ref Dl) (compEnvC scope cl C X.env)).onRaise (fun x=>do noteFrame x (compEnvC scope cl C X.env);theTreesLotGoes x)) _ _ s5;refine wpAny_noted ?_;rw[compTurn_list];obtain⟨hD,alt⟩:=turn i n acc H5 w5;rcases alt with⟨stop,fin⟩|⟨go,step⟩
  .refine Il (wpAny_standAt (Il (JC (eA▸T.done X' eP eW eK eC i [] s5 _ H5 _ I5 (stat fr5) st5 stop) (fun r s6 ⟨hr,I6⟩=>?_) fun _ _ z=>z)));subst hr;exact Iu (hR _ H5 acc s6 I6 hD fin)
  .refine Il (wpAny_standAt (Il (JC (eA▸T.item X' eP eW eK eC i [] s5 _ H5 _ I5 (stat fr5) st5 go) (fun r s6 ⟨u,hr,h6⟩=>?_) fun _ _ z=>z)));subst hr;refine Il (JC h6 (fun _ s7 ⟨xv,H7,I7,r7,y7,st7,fr7⟩=>?_) fun _ _ z=>z);have I7':=I7.pinned (stat fr7) (T.obj _ _ st7);have hg':=hg _ s7 _ H7 xv u _ I7' r7 (step xv H7 o y7 lo);rw[eP,eW,eA,eE,eX]at hg';refine Il (JC hg' (fun _ s8 ⟨σ8,H8,I8,shp,q8⟩=>?_) fun _ _ z=>z.elim);obtain⟨o2,lo2,eσ⟩ : ∃ o2:St,o2.length=tN.length/\σ8=o2++σc:=by
    have l8:σ8.length=tN.length+σc.length:=I8.len.trans bH;refine⟨σ8.take tN.length,by rw[Jt];lia,?_⟩;have ed:σ8.drop tN.length=σc:=by
     apply List.ext_getElem?
     intro j;rw[List.getElem?_drop,shp (tN.length+j) (by lia),J2 (by lia),lo,KO]
    rw[<- ed,Kb]
   subst eσ;have ht':=ht _ s8 _ H8 _ I8 q8;rw[eP,eW,eA,eE,eX]at ht';refine Il (JC ht' (fun ok s9 ⟨H9,I9,q9⟩=>?_) fun _ _ z=>z.elim);have again:∀{s':LL}{H':Hp},L2.Inv X' ([]++jS fp s7.heap) (o2++σc) H' s'->L2.Inv X' [] (o2++σc) H' s'/\tn (i+1) s'.heap/\∀ b∈fp,H' b=none:=fun{s' H'} J'=>by refine⟨J'.iN,T.keep _ _ _ st7 fun b hb ob e=>(J'.pin (b,ob) (I_ _ (I_ _ (ft hb e)))).1,fun b hb=>?_⟩;obtain⟨ob,e,d⟩:=T.obj _ _ st7 b hb;exact(J'.pin (b,ob) (I_ _ (I_ _ (ft hb e)))).2.1
   cases ok with
   |false=>obtain⟨m',hm,w9⟩:=(show ∃ m',m'<n/\W (i+1) m' acc H9 from by simpa using q9);obtain⟨a1,a2,a3⟩:=again I9;exact Iu ⟨rfl,m',hm,i+1,o2,acc,H9,a1,lo2,a2,a3,w9⟩
   |true=>
    have q9:te (o2++σc) H9 fun y H5=>H5 Dl=some (.lst acc)/\acc.length<sizeLine/\∃ m',m'<n/\W (i+1) m' (acc++[y]) (upd H5 Dl (.lst (acc++[y]))):=by simpa using q9
    have he':=he _ s9 _ H9 _ I9 q9;rw[eP,eW,eA,eE,eX]at he';refine Il (Il (JC he' (fun v s10 ⟨y,H10,I10,ry,eD,hl,m',hm,w10⟩=>?_) fun _ _ z=>z.elim));have hm':=bD (X:=X') _ s10 _ H10 (.ref Dl) [y] (.ref Dl) [v] (fun w H'=>w=.bu/\H'=upd H10 Dl (.lst (acc++[y]))) I10 rfl (.cons ry .nil) ⟨Dl,acc,y,rfl,rfl,eD,hl,rfl,rfl⟩;rw[eP,eW,eA,eX]at hm';refine Il (JC hm' (fun _ s11 ⟨w,H11,I11,_,_,eH⟩=>?_) fun _ _ z=>z.elim);subst eH;obtain⟨a1,a2,a3⟩:=again I11;exact Iu (Iu ⟨rfl,m',hm,i+1,o2,acc++[y],_,a1,lo2,a2,a3,w10⟩)
end
structure dt (X:Cx) (scope:Scope) (tN:List Str) (capN:List Str) (caps:List Nat):Prop where
 kind:scope.kind=.function
 zI:∀ y∈scope.names,y.2≠.cell
 names:∀ y∈scope.names,y.2=.local->scope.names.lookup y.1=some .local
 own:∀ x∈tN,scope.names.lookup x=some .local
 free:∀ y∈scope.names,y.2=.free->X.env.kindOf y.1=some .cell\/X.env.kindOf y.1=some .free
 cap:D4 X scope capN caps
 nd:(tN++capN).Nodup
section
def gc (X:Cx)(scope:Scope)(tg:Expr)(tN:List Str)(capN:List Str)(caps:List Nat)(elt:Expr)(ifs:List Expr)(σ:St)(Fin:Addr->List V->Hp->Prop)(J:It)(H2:Hp):Prop:=
 ∀(Dl:Addr),H2 Dl=none->∀(cl:List (Str×Addr))(C:Addr)(s3:LL)(fp:List Addr),∃(gt:TG)(tt:TT)(te:TE)(W:Nat->Nat->List V->Hp->Prop),
  PG (b_ X scope (tN++capN) cl C s3 (upd H2 Dl (.lst [])) fp) tg gt/\BU (b_ X scope (tN++capN) cl C s3 (upd H2 Dl (.lst [])) fp) ifs tt/\PE (b_ X scope (tN++capN) cl C s3 (upd H2 Dl (.lst [])) fp) elt te/\(∃ m,W 0 m [] (upd H2 Dl (.lst [])))/\
  ∀ i m acc H,W i m acc H->H Dl=some (.lst acc)/\((J.stop i H/\Fin Dl acc H)\/(J.go i H/\∀ xv H' (o:St),J.tS i H xv H'->o.length=tN.length->gt xv (o++kg σ caps) H' fun σ2 H1=>(∀ j:Nat,tN.length<=j->σ2[j]?=(o++kg σ caps)[j]?)/\tt σ2 H1 fun b H2=>if b=true then
   te σ2 H2 fun y H5=>H5 Dl=some (.lst acc)/\acc.length<sizeLine/\∃ m',m'<m/\W (i+1) m' (acc++[y]) (upd H5 Dl (.lst (acc++[y]))) else ∃ m',m'<m/\W (i+1) m' acc H2))
theorem rW {use:Option (LO->Sem Unit)}{Qv:LO->LL->Prop}{Fin:Addr->List V->Hp->Prop}(hc:X.calm=true)(S:dt X scope tN capN caps)(I:L2.Inv X ae σ H s)(hi:PI X tg iter wi)
 (h:wi σ H (gc X scope tg tN capN caps elt ifs σ Fin))
 (hu:∀(Dl C:Addr)(acc:List V)(H':Hp)(s':LL),L2.Inv X ae σ H' s'->gH X ae H' C->H' Dl=some (.lst acc)->Fin Dl acc H'->(∃ m,s'.heap.Ns C m)->compPost (model X.prog X.w) X.A X.xe use Qv (.ref Dl) C (.ok .next) s')
 (hs:autoParam (∀ x,foldedSetIterable iter X.env x=pure x) LU._auto_1) :
 wX X (comprehension (.ListComp elt [⟨tg,iter,ifs,0⟩] scope pos) scope X.env (firstIterPos [⟨tg,iter,ifs,0⟩] pos) (newList []) false (eval iter X.env) use) Qv X.xe s:=by
 obtain⟨cl,ecl,hcl,hhas⟩:=k_ (scope:=scope) (env:=X.env) fun y hy hf=>I.ok.has y.1 (S.free y hy hf);refine wpAny_comprehension_free rfl hs ecl S.kind S.names (bI (hi ae s σ H _ I h) fun v s1 h1=>bI h1 fun itv s2 h2=>?_);obtain⟨it,fp,tn,J,H2,rfl,I2,T,st2,f2,goal⟩:=h2;refine Ki (wpAny_newFunctionEnv S.zI (by intro y hy;simp at hy) (fun h₁ hns₁ hsb₁=>?_) S.kind);dsimp only at hns₁ hsb₁ ⊢;have hD:H2 s2.heap.objs.size=none:=I2.aO.fresh (Im _);have I3:L2.Inv X ae σ (upd H2 s2.heap.objs.size (.lst [])) { s2 with heap:=s2.heap.push { cls:=.type "list",dict:=none,data:=.seq ([]:List LO).toArray } }:=I2.laid (t':=s2.toks) (fun b u e=>Ip _ e) (Im _) ⟨IL _,[],0,.nil,IG _ rfl⟩;generalize hs3:({ s2 with heap:=s2.heap.push { cls:=.type "list",dict:=none,data:=.seq ([]:List LO).toArray } }:LL)=s3 at I3;have e3:s2.heap.push { cls:=.type "list",dict:=none,data:=.seq ([]:List LO).toArray }=s3.heap:=by rw[<- hs3]
 rw[e3]at hns₁ hsb₁ ⊢;have kp:∀ b o,s3.heap.get? b=some o->h₁.get? b=some o:=fun b o e=>hsb₁.extBut b o (IN (Iz e)) (Ip _ e);have k23:∀ b o,s2.heap.get? b=some o->s3.heap.get? b=some o:=fun b o e=>by rw[<- e3];exact Ip _ e
 have hex:∀ b∈fp,gH X ae (upd H2 s2.heap.objs.size (.lst [])) b/\b<s3.heap.objs.size:=fun b hb=>by obtain⟨o,ho,_⟩:=T.obj 0 _ st2 b hb;have hlt:b<s2.heap.objs.size:=Iz ho;refine⟨⟨?_,(f2 b hb).2⟩,Iz (k23 b o ho)⟩;rw[au (IN hlt)];exact(f2 b hb).1
 have es:({ s2 with heap:=h₁,toks:=s2.toks+([]:List (Str×LO)).length }:LL)={ s3 with heap:=h₁,toks:=s2.toks+([]:List (Str×LO)).length }:=by rw[<- hs3]
 have I4:L2.Inv (b_ X scope (tN++capN) cl s3.heap.objs.size s3 (upd H2 s2.heap.objs.size (.lst [])) fp) [] (List.replicate tN.length none++kg σ caps) (upd H2 s2.heap.objs.size (.lst [])) { s3 with heap:=h₁,toks:=s2.toks+([]:List (Str×LO)).length }:=uC I3 S.kind S.zI hcl hhas (Im _) hex S.cap kp hns₁;obtain⟨gt,tt,te,W,hg,ht,he,w0,turn⟩:=goal s2.heap.objs.size hD cl s3.heap.objs.size s3 fp;have st4:tn 0 h₁:=T.keep 0 _ _ st2 fun b hb o e=>kp b o (k23 b o e);have f4:∀ b∈fp,gH (b_ X scope (tN++capN) cl s3.heap.objs.size s3 (upd H2 s2.heap.objs.size (.lst [])) fp) [] (upd H2 s2.heap.objs.size (.lst [])) b:=fun b hb=>by
  obtain⟨f,hlt⟩:=hex b hb;refine⟨f.1,IN hlt,fun hfs=>?_,.inl hb,fun y c e=>f.2.2.2.2.1 y c (hcl y c e),fun p hp=>absurd (show p∈([]:List (Addr×Obj)) from hp) (by simp)⟩;rcases ID.mp (I3.kW b hfs) with z|z
  .exact f.2.1 z
  .exact f.2.2.1 z
 have loop:codeAny (model X.prog X.w) X.A (.compLoop (.ListComp elt [⟨tg,iter,ifs,0⟩] scope pos) 0 (.ref it) (.ref s2.heap.objs.size) (compEnvC scope cl s3.heap.objs.size X.env)) (compPost (model X.prog X.w) X.A X.xe use Qv (.ref s2.heap.objs.size) s3.heap.objs.size)
  { s3 with heap:=h₁,toks:=s2.toks+([]:List (Str×LO)).length }:=by
  refine rV rfl T hc I4 (by show(tN++capN).length=_;simp[kg,S.cap.len]) st4 f4 hg ht he W (Fin s2.heap.objs.size) w0 turn _ fun σ' H' acc s' I' hD' fin=>?_;obtain⟨Io,fo⟩:=rT I3 rfl (Im _) hex I';obtain⟨m',hn',_⟩:=I'.loc;exact hu _ _ acc H' s' Io fo hD' fin ⟨m',hn'⟩
 rw[es];exact codeAny_compStart_list loop (T.self _ 0 _ _ _ st4 loop)
theorem uD (hc:X.calm=true)(S:dt X scope tN capN caps)(I:L2.Inv X ae σ H s)(hi:PI X tg iter wi)(h:wi σ H (gc X scope tg tN capN caps elt ifs σ fun Dl _ H'=>Q (.ref Dl) H'))
 (hs:autoParam (∀ x,foldedSetIterable iter X.env x=pure x) LU._auto_1):wX X (eval (.ListComp elt [⟨tg,iter,ifs,0⟩] scope pos) X.env) (EP X ae σ Q) X.xe s:=by
 rw[eval_ListComp];refine rW (use:=none) hc S I hi h (fun Dl C acc H' s' Io fo hD fin hn=>?_) hs;obtain⟨m,hn⟩:=hn;exact⟨m,hn,fun h' sb=>⟨.ref Dl,H',xF Io fo sb,rfl,fin⟩⟩
end
noncomputable def Res.GE {α:Type}:Res α->Res α
 | .exc _=>.stuck
 |r=>r
def EZ (env:En)(j:Nat):Option Sl:=match env[j]? with
 |some (some (.val d fr))=>some (.val d fr)
 |some (some (.own ds fr))=>some (.val (.lst ds) fr)
 |some (some (.Gb d))=>some (.val d true)
 |_=>none
def Ck (env:En)(n:Nat)(caps:List Nat):En:=List.replicate n none++caps.map (EZ env)
def qI (mk:D->Option En)(test:En->Res Bool)(elt:En->Res R):List D->Res (List R)
 | []=>.ok []
 |x::xs=>match mk x with
  |none=>.stuck
  |some e=>(test e).bind fun b=>if b then (elt e).bind fun r=>(qI mk test elt xs).bind fun rs=>.ok (r::rs) else qI mk test elt xs
def Cm (n:Nat)(caps:List Nat)(src:En->Res Src)(asg:D->Bool->En->Option En)(test:En->Res Bool)(elt:En->Res R):En->Res R:=fun env=>(src env).bind fun s=>if s.xs.length<=lim then
 (qI (fun d=>asg d s.fr (Ck env n caps)) test elt s.xs).GE.bind fun rs=>.ok (Gn (rs.map R.d) (Ci rs) (s.al++caps.filter (zb env))) else .stuck
noncomputable def jo (X:Cx)(scope:Scope)(tg:Expr)(tN:List Str)(capN:List Str)(caps:List Nat)(elt:Expr)(ifs:List Expr)(wi:TI):TE:=fun σ H Q=>wi σ H (gc X scope tg tN capN caps elt ifs σ fun Dl _ H'=>Q (.ref Dl) H')
def uE (N:List Str)(ds:List D):En:=ds.map (fun d=>some (.val d false))++List.replicate (N.length-ds.length) none
def Co:Res Fl->Res R
 | .ok (.nx _)=>.ok (.val .bu true [])
 | .ok (.rt r)=>.ok r
 | .ok _=>.stuck
 | .exc c=>.exc c
 | .stuck=>.stuck
def E2 (N:List Str)(FB:En->Res Fl)(ds:List D):Res R:=Co (FB (uE N ds))
theorem Cp:d9 gS X E:=fun _ _ _ _ _ _ _ h=>h.elim
section
noncomputable def D.ty:D->String
 | .bu=>"NoneType" | .bl _=>"bool" | .int _=>"int" | .str _=>"str" | .tup _=>"tuple" | .lst _=>"list" | .rg _ _=>"dict"
def El (K:LM) (H:Hp) (x:V) (t:LO):Prop:=ji K H x t\/(t=.type "dict"/\∃ a,x=.ref a/\Cd H a)
theorem Is.ty {m:Addr->Prop}{v:V}{K:LM}(h:Is H m d v):El K H v (.type d.ty):=by
 cases d with
 |bu=>cases h;exact .inl .bu
 |bl b=>cases h;exact .inl (.bl b)
 |int b=>cases h;exact .inl (.int b)
 |str b=>cases h;exact .inl (.str b)
 |tup ds=>obtain⟨a,vs,rfl,h1,_⟩:=h;exact .inl (.tup h1)
 |lst ds=>
  obtain⟨a,vs,rfl,h1,_⟩:=h;rcases h1 with⟨h1,_⟩|⟨o,h1,_⟩
  .exact .inl (.lst h1)
  .exact .inl (.bO h1)
 |rg ks ds=>obtain⟨a,kvs,rfl,h1,_⟩:=h;exact .inr ⟨rfl,a,rfl,h1.1.imp (fun⟨kvs,e,_⟩=>⟨kvs,e⟩) fun⟨kvs,e,_⟩=>⟨kvs,e⟩⟩
def Gp (T:String)(d:D):Bool:=match d with
 | .bu=>T=="NoneType"
 | .bl _=>T=="bool" || T=="int"
 | .int _=>T=="int"
 | .str _=>T=="str"
 | .tup _=>T=="tuple"
 | .lst _=>T=="list"
 | .rg _ _=>T=="dict"
def xH (T:String):Prop:=∀(K:LM)(d:D),PySem.W.kitOne K (.type d.ty) (.type T)=some (Gp T d)
theorem uF:xH "int":=fun K d=>by cases d<;>kernel_rfl
theorem rX:xH "bool":=fun K d=>by cases d<;>kernel_rfl
theorem rY:xH "list":=fun K d=>by cases d<;>kernel_rfl
theorem uG:cK X (.builtin "isinstance") (fun xs H Q=>∃ x T t b,xs=[x,.ty T]/\El X.K H x t/\PySem.W.kitOne X.K t (.type T)=some b/\Q (.bl b) H):=by
 intro ae s σ H xs us Q I r h;obtain⟨x,T,t,b,rfl,ty,e,q⟩:=h;obtain⟨u,c,rfl,ru,rc⟩:=lF r;obtain rfl:c=Value.type T:=rc;rcases ty with ty|⟨rfl,a,rfl,hd⟩
 .exact rF I ru ty e fun tk=>⟨.bl b,H,I.tok tk,rfl,q⟩
 .obtain rfl:u=Value.ref a:=ru;obtain⟨t1,_⟩:=mz I hd;exact Jz Lx I.hV t1 e (fun z=>nomatch z) fun tk=>⟨.bl b,H,I.tok tk,rfl,q⟩
end
def Em (K:LM)(a:Addr):It:=⟨fun i H=>∃ xs x,SqL K H a xs/\xs[i]?=some x,fun i H y H'=>∃ p x,H p=none/\y=.ref p/\H'=upd H p (.tup [.int (i:Nat),x])/\∀ xs,SqL K H a xs->xs[i]?=some x,fun i H=>∃ xs,SqL K H a xs/\xs.length<=i⟩
theorem rZ {P:LN}{w:World}{K:LM}(a it e:Addr)(hei:e≠it):Turn P w K (.Tuple es k pos) (Em K a) [e,it] e (fun i h=>(∃ old,IsEnum h e it i old)/\h.IsListIter it a i) where
 mem:=by simp
 obj:=fun i h st b hb=>by
  obtain⟨⟨old,he⟩,o,ho,c,d⟩:=st;rcases ID.mp hb with rfl|hb
  .exact⟨_,he,fun v z=>by cases z⟩
  .have:b=it:=by simpa using hb
   subst this;exact⟨o,ho,fun v z=>by rw[d]at z;cases z⟩
 keep:=fun i h h' st kk=>by obtain⟨⟨old,he⟩,hl⟩:=st;exact⟨⟨old,kk e (by simp) _ he⟩,hl.at fun o q=>kk it (by simp) o q⟩
 item:=by
  intro X hP hw hK hc i ae s σ H E I hf st hg;subst hP hw hK;obtain⟨xs,x,hq,hx⟩:=hg;obtain⟨⟨old,he⟩,hl⟩:=st;obtain⟨its,rv,p,hz⟩:=I.list hq;obtain⟨u,hu,ru⟩:=rv.get hx;have fe:=hf e (by simp);have fi:=hf it (by simp);have hai:a≠it:=by intro z;obtain⟨o1,e1,c1,_⟩:=p.isList;obtain⟨o2,e2,c2,_⟩:=hl;rw[z,e2]at e1;cases e1;rw[c2]at c1;injection c1 with z;exact absurd z (by decide)
  have hae:a≠e:=by intro z;obtain⟨o1,e1,c1,_⟩:=p.isList;rw[z,he]at e1;cases e1;injection c1 with z;exact absurd z (by decide)
  have hh:X.A.in1.handled=none:=I.ok.hd hc;have hil:i<its.length:=(Iv.mp hu).1;refine wpAny_pyNext_enum_itemD (Draws.list hh it a hai its.toArray) he ⟨hl,p.isList⟩ (by simpa using hil) hei (by simp;exact⟨hei,Jn hae⟩) fun x' h' tk hx' ho hs' hT hsz hk=>?_;have ex:x'=u:=by
   have:its[i]?=some x':=by simpa using hx'
   rw[hu]at this;exact(IU this).symm
  subst ex;refine⟨_,rfl,wpAny_letOwnedTupleGo_enum ho fun h'' he'' hs''=>?_⟩;have keep2:∀ b o,b≠e->b≠it->s.heap.get? b=some o->h''.get? b=some o:=fun b o n1 n2 q=>(hs''.2 b n1).trans (hk b o n1 n2 q);have hTe:s.heap.objs.size≠e:=J7 (Iz he);have hT'':h''.get? s.heap.objs.size=some { cls:=.type "tuple",data:=.seq #[.int i tk,x'] }:=(hs''.2 _ hTe).trans hT;have I1:L2.Inv X ae σ (upd H s.heap.objs.size (.tup [.int (i:Nat),x])) { s with heap:=h'',toks:=tk+1 }:=by
   refine I.step (g':=s.gens) (d':=s.drawn) (ch:=[e,it]) (fun b hb=>?_) (fun b o _ _ hn q _=>keep2 b o (fun z=>hn (by simp[z])) (fun z=>hn (by simp[z])) q)
    (fun b o _ _ hn q _=>⟨o.slots,keep2 b o (fun z=>hn (by simp[z])) (fun z=>hn (by simp[z])) q⟩) (fun b o _ q hH=>by rw[au (IN (Iz q))];exact hH)
    (fun b o hn q=>⟨o,keep2 b o (fun z=>hn (by simp[z])) (fun z=>hn (by simp[z])) q⟩) (fun b ys q=>by rw[au (am q (I.aO.fresh (Im _)))];exact q)
    (fun b o' u' q=>by rw[au (am q (I.aO.fresh (Im _)))];exact q) (fun b ps q=>⟨#[],by rw[au (am q (I.aO.fresh (Im _)))];simp[q]⟩) (fun m hm=>?_) (fun b u' q=>?_) I.bare
   .rcases ID.mp hb with rfl|hb
    .exact⟨fe.2.2.2.1,fe.2.1,fe.2.2.2.2.1,fe.2.2.2.2.2⟩
    .have:b=it:=by simpa using hb
     subst this;exact⟨fi.2.2.2.1,fi.2.1,fi.2.2.2.2.1,fi.2.2.2.2.2⟩
   .obtain⟨o,es',ep,ho',r⟩:=hm;exact⟨o,es',ep,keep2 _ o (Jn fe.2.1) (Jn fi.2.1) ho',r⟩
   .by_cases hb:b=s.heap.objs.size
    .subst hb;rw[af]at q;cases q;refine⟨by show 2<=sizeLine;decide,[.int i tk,x'],.cons ⟨tk,rfl⟩ (.cons ru .nil),⟨_,hT'',rfl,0,rfl⟩⟩
    .rw[au hb]at q;refine(I.aO b u' q).stay (fun c v hc' q'=>keep2 c v ?_ ?_ q') (fun c r=>by rw[au (am r (I.aO.fresh (Im _)))];exact r) fun c ys r=>by rw[au (am r (I.aO.fresh (Im _)))];exact r
     .rcases hc' with z|z
      .rw[z];exact am q fe.1
      .exact am z fe.1
     .rcases hc' with z|z
      .rw[z];exact am q fi.1
      .exact am z fi.1
  refine⟨.ref s.heap.objs.size,_,I1,rfl,⟨_,x,I.aO.fresh (Im _),rfl,rfl,fun ys hy=>by rw[I.gx hy hq];exact hx⟩,⟨⟨_,by simpa using he''⟩,?_⟩,fun b hb=>?_⟩
  .obtain⟨o,q,r⟩:=hs'.1;exact⟨o,(hs''.2 it (Jn hei)).trans q,r⟩
  .rcases ID.mp hb with rfl|hb
   .rw[au (IN (Iz he))];exact fe.1
   .have:b=it:=by simpa using hb
    subst this;obtain⟨o,q,_⟩:=hl;rw[au (IN (Iz q))];exact fi.1
 done:=by
  intro X hP hw hK hc i ae s σ H E I hf st hg;subst hP hw hK;obtain⟨xs,hq,hx⟩:=hg;obtain⟨⟨old,he⟩,hl⟩:=st;obtain⟨its,rv,p,hz⟩:=I.list hq;have fi:=hf it (by simp);have hai:a≠it:=by intro z;obtain⟨o1,e1,c1,_⟩:=p.isList;obtain⟨o2,e2,c2,_⟩:=hl;rw[z,e2]at e1;cases e1;rw[c2]at c1;injection c1 with z;exact absurd z (by decide)
  have hh:X.A.in1.handled=none:=I.ok.hd hc;have hln:=rv.length;have Dr:Draws X.prog X.w X.A.in1 it [it,a] 0 (fun _ _=>True) (fun _ h=>h.IsListIter it a i/\h.IsList a its.toArray):=
   { live:=fun _ _ st=>let ⟨o,ho,_⟩:=st.1;⟨o,ho⟩
     frame:=fun _ _ _ st hk=>⟨st.1.at fun o e=>hk it (by simp) o e,st.2.at fun o e=>hk a (by simp) o e⟩
     item:=fun i s Q E hi=>absurd hi (by lia)
     done:=fun s Q E st hE=>wpAny_nextOf_list_end hh st.1 st.2 (by simp;lia) hE }
  exact wpAny_pyNext_enum_endD Dr he ⟨hl,p.isList⟩ fun h' eb=>⟨rfl,I.turned (t':=s.toks) (fun b o hb e=>eb b o hb e) fi.1 fi.2.1 fi.2.2.2.1 fi.2.2.2.2.1 fi.2.2.2.2.2⟩
 self:=fun A i s Q E st h=>by obtain⟨⟨old,he⟩,_⟩:=st;exact wpAny_pyIter_enum he h
section
def qJ (K:LM)(ta:TA):TI:=fun σ H R=>ta σ H fun vs H1=>∃ a xs,vs=[.ref a]/\SqL K H1 a xs/\R (Em K a) H1
theorem qK {l:Expr} (hg:Gl X "enumerate") (hm:X.mg "enumerate"=none) (ha:PA X [l] ta) (hs:autoParam (starEach [l] X.env=[(false,eval l X.env)]) LW._auto_1):PI X (.Tuple es k s_) (.Call (.Name "enumerate" p) [l] [] pos) (qJ X.K ta):=by
 intro ae s σ H R I h;refine Call_ (fq I hg hm (by decide +kernel:bootBuiltins "enumerate"=some (.type "enumerate")) (JA (bI (ha pos ae s σ H _ I h) fun us s1 ⟨vs,H1,I1,r1,q1⟩=>?_) hs rfl));obtain⟨a,xs,e,hq,q⟩:=q1;subst e;cases r1 with
 |cons r rr=>
  cases rr;cases r;obtain⟨its,rv,pl,hz⟩:=I1.list hq;refine call_enumerate_list pl.isList fun h' he hl hsz kp=>?_;have I2:L2.Inv X ae σ H1 { s1 with heap:=h' }:=I1.kept (t':=s1.toks) kp;refine wpAny_pyIter_enum he ?_;refine⟨s1.heap.objs.size+1,[s1.heap.objs.size+1,s1.heap.objs.size],_,_,H1,rfl,I2,rZ a s1.heap.objs.size (s1.heap.objs.size+1) (Nat.succ_ne_self _),⟨⟨_,by simpa using he⟩,hl⟩,fun b hb=>?_,q⟩;rcases ID.mp hb with rfl|hb
  .exact I1.kU (Nat.le_succ _) (I1.aO.fresh (Nat.le_succ _))
  .have e:b=s1.heap.objs.size:=by simpa using hb
   subst e;exact I1.kU (Im _) (I1.aO.fresh (Im _))
end
noncomputable def Gq (osc:Scope)(N:List Str)(scope:Scope)(tN capN:List Str)(caps:List Nat):Bool:=
 (scope.kind==.function)&&scope.names.all (fun y=>y.2 != .cell)&&scope.names.all (fun y=>y.2 != .local || scope.names.lookup y.1==some .local)&&tN.all (fun x=>scope.names.lookup x==some .local) &&
 scope.names.all (fun y=>y.2 != .free || (osc.names.lookup y.1==some .cell || osc.names.lookup y.1==some .free))&&(capN.zip caps).all (fun p=>N[p.2]?==some p.1)&&(caps.length==capN.length) &&
 capN.all (fun y=>osc.names.lookup y==some .cell || osc.names.lookup y==some .free)&&capN.all (fun y=>scope.names.lookup y==some .free)&&decide (tN++capN).Nodup
theorem dt.of (h1:X.env.scope=osc)(h2:X.N=N)(h3:Gq osc N scope tN capN caps=true):dt X scope tN capN caps:=by
 unfold Gq at h3;simp only[Kq,List.all_eq_true,Bool.or_eq_true,Le,bne_iff_ne,decide_eq_true_eq,ne_eq]at h3;obtain⟨⟨⟨⟨⟨⟨⟨⟨⟨a1,a2⟩,a3⟩,a4⟩,a5⟩,a6⟩,a7⟩,a8⟩,a9⟩,a10⟩:=h3;subst h1 h2;refine⟨a1,a2,fun y hy hl=>(a3 y hy).resolve_left fun z=>z hl,a4,fun y hy hf=>(a5 y hy).resolve_left fun z=>z hf,⟨fun k y e=>?_,a8,a9,a7⟩,a10⟩;have hk:k<capN.length:=(Iv.mp e).1;have hk2:k<caps.length:=by lia
 refine⟨caps[k],by simp[hk2],?_⟩;have hm:(y,caps[k])∈capN.zip caps:=by
  have:(capN.zip caps)[k]?=some (y,caps[k]):=by rw[List.getElem?_zip_eq_some];exact⟨e,by simp[hk2]⟩
  exact IH this
 exact a6 _ hm
structure Fn (K:LM) (mg:Str->Option LO) (x:Str) (st:Stmt) (ps:List Str) (f:Addr) (fd:FuncData):Prop where
 fu:wV K x x st f fd
 bi:Binds K fd ps []
 gl:mg x=some (.ref f)
def Eo (F:List D->Res R):Sp:=fun vs H Q _=>vs.length=1/\∃ ds Ma r,IsAll H Ma ds vs/\F ds=.ok r/\∀ v H',Same H H'->zc (Gm H Ma) H' v r->Q v H'
theorem kh:∀ ns:List Int,IsAll H m (ns.map D.int) (ns.map V.int)
 | []=>rfl
 |n::r=>⟨.int n,r.map V.int,rfl,rfl,kh r⟩
theorem Ai (hF:∀ ns:List Int,ns.length<=63->∃ f al,F [.lst (ns.map .int)]=.ok (.val (.bl true) f al))(H:Hp)(a:Addr)(ns:List Int)(hl:ns.length<=63)(hS:∃ o,H a=some (.bO o (.lst (ns.map V.int)))) :
 Eo F [.ref a] H (fun v _=>v=.bl true) fun _ _ _=>False:=by
 obtain⟨f,al,e⟩:=hF ns hl;obtain⟨o,hS⟩:=hS;exact⟨rfl,[.lst (ns.map .int)],fun b=>b=a,_,⟨_,[],rfl,⟨a,ns.map V.int,rfl,.inr ⟨o,hS,rfl⟩,kh ns⟩,rfl⟩,e,fun v H' _ h=>h⟩
section
variable {P:LN}{w:World}{K:LM}{mg:Str->Option LO}{base:Heap}
theorem bz.top (h:bz P w K mg base CX k f fd ps (tO mg 1 F)):bz P w K mg base CX k f fd ps (Eo F):=h.imp fun vs H Q E ⟨hl,ds,Ma,r,is,e,q⟩=>⟨hl,ds,Ma,is,by rw[e];exact q⟩
end
theorem Aj (h:rO P w l H s (fun _ _ _=>False) e s'):False:=by obtain⟨_,_,_,_,_,_,_,_,_,_,_,_,_,_,_,z⟩:=h;exact z
def Gs (K:LM)(a b:Addr):It:=
 ⟨fun i H=>∃ xs ys x y,SqL K H a xs/\SqL K H b ys/\xs[i]?=some x/\ys[i]?=some y,fun i H v H'=>∃ p x y,H p=none/\v=.ref p/\H'=upd H p (.tup [x,y])/\(∀ xs,SqL K H a xs->xs[i]?=some x)/\∀ ys,SqL K H b ys->ys[i]?=some y,
   fun i H=>∃ xs ys,SqL K H a xs/\SqL K H b ys/\(xs.length<=i\/ys.length<=i)⟩
structure zH (h:Heap) (z TI TO i1 i2 a b:Addr) (i:Nat):Prop where
 zip:IsZip h z TI TO .none
 ti:IsPair h TI (.ref i1) (.ref i2)
 to:∃ u v,IsPair h TO u v
 l:h.IsListIter i1 a i
 r:h.IsListIter i2 b i
structure wx (z TI TO i1 i2:Addr):Prop where
 TIz:TI≠z
 TOz:TO≠z
 i1z:i1≠z
 i2z:i2≠z
 TITO:TI≠TO
 TIi1:TI≠i1
 TIi2:TI≠i2
 TOi1:TO≠i1
 TOi2:TO≠i2
 i12:i1≠i2
section
variable {h:Heap}{z TI TO i1 i2 a b:Addr}{i:Nat}{its its2:Array LO}
theorem gd (e1:h.get? p=some o1)(e2:h.get? q=some o2)(n:o1.cls≠o2.cls):p≠q:=fun e=>by subst e;rw[e1]at e2;cases e2;exact n rfl
theorem lU (N:wx z TI TO i1 i2)(S:zH h z TI TO i1 i2 a b i)(ha:h.IsList a its)(hb:h.IsList b its2):ZipApart z TI TO i1 i2 a b:=by
 obtain⟨oa,ea,ca,_⟩:=ha;obtain⟨ob,eb,cb,_⟩:=hb;obtain⟨u,v,hto⟩:=S.to;obtain⟨o1,e1,c1,_⟩:=S.l;obtain⟨o2,e2,c2,_⟩:=S.r;have t1:oa.cls≠Value.type "zip":=by grind
 have t2:oa.cls≠Value.type "tuple":=by grind
 have t3:oa.cls≠Value.type "list_iterator":=by grind
 have s1:ob.cls≠Value.type "zip":=by grind
 have s2:ob.cls≠Value.type "tuple":=by grind
 have s3:ob.cls≠Value.type "list_iterator":=by grind
 exact⟨N.TIz,N.TOz,N.i1z,N.i2z,N.TITO,N.TIi1,N.TIi2,N.TOi1,N.TOi2,N.i12,gd ea S.zip t1,gd ea hto t2,gd ea e1 (by grind),gd ea e2 (by grind),
  gd eb S.zip s1,gd eb hto s2,gd eb e1 (by grind),gd eb e2 (by grind)⟩
end
theorem uH {P:LN}{w:World}{K:LM}(a b z TI TO i1 i2:Addr)(N:wx z TI TO i1 i2):Turn P w K (.Tuple es k pos) (Gs K a b) [z,TI,TO,i1,i2] z (fun i h=>zH h z TI TO i1 i2 a b i) where
 mem:=by simp
 obj:=fun i h st c hc=>by
  obtain⟨u,v,hto⟩:=st.to;obtain⟨o1,e1,c1,d1⟩:=st.l;obtain⟨o2,e2,c2,d2⟩:=st.r;simp only[ID,IC,K6]at hc;rcases hc with rfl|rfl|rfl|rfl|rfl
  .exact⟨_,st.zip,fun v z=>by cases z⟩
  .exact⟨_,st.ti,fun v z=>by cases z⟩
  .exact⟨_,hto,fun v z=>by cases z⟩
  .exact⟨o1,e1,fun v z=>by rw[d1]at z;cases z⟩
  .exact⟨o2,e2,fun v z=>by rw[d2]at z;cases z⟩
 keep:=fun i h h' st kk=>by obtain⟨u,v,hto⟩:=st.to;exact⟨kk z (by simp) _ st.zip,kk TI (by simp) _ st.ti,⟨u,v,kk TO (by simp) _ hto⟩,st.l.at fun o q=>kk i1 (by simp) o q,st.r.at fun o q=>kk i2 (by simp) o q⟩
 item:=by
  intro X hP hw hK hc i ae s σ H E I hf st hg;subst hP hw hK;obtain⟨xs,ys,x,y,hq,hq2,hx,hy⟩:=hg;obtain⟨its,rv,p,hz⟩:=I.list hq;obtain⟨its2,rv2,p2,hz2⟩:=I.list hq2;obtain⟨u,hu,ru⟩:=rv.get hx;obtain⟨u2,hu2,ru2⟩:=rv2.get hy;obtain⟨o1,o2,hto⟩:=st.to;have A:=lU N st p.isList p2.isList;have fz:=hf z (by simp);have fI:=hf TI (by simp);have fO:=hf TO (by simp);have f1:=hf i1 (by simp);have f2:=hf i2 (by simp);refine wpAny_pyNext_zip_item A st.zip st.ti hto st.l st.r p.isList p2.isList (x:=u) (y:=u2) (by simpa using hu) (by simpa using hu2) fun h' hz' hto' h1' h2' hp hsz hk=>?_;refine⟨_,rfl,wpAny_letOwnedTupleGo_zip hz' fun h'' hz'' hs''=>?_⟩;have zlt:z<s.heap.objs.size:=Iz st.zip;have keep2:∀ c o,c≠z->c≠TO->c≠i1->c≠i2->s.heap.get? c=some o->h''.get? c=some o:=fun c o n1 n2 n3 n4 q=>(hs''.2 c n1).trans (hk c o n1 n2 n3 n4 q);have hT'':h''.get? s.heap.objs.size=some { cls:=.type "tuple",data:=.seq #[u,u2] }:=(hs''.2 _ (J7 zlt)).trans hp;have fresh:=I.aO.fresh (Im s.heap.objs.size);have nin:∀{c:Addr},c∉[z,TO,i1,i2]->c≠z/\c≠TO/\c≠i1/\c≠i2:=fun hn=>⟨fun z=>hn (by simp[z]),fun z=>hn (by simp[z]),fun z=>hn (by simp[z]),fun z=>hn (by simp[z])⟩;have I1:L2.Inv X ae σ (upd H s.heap.objs.size (.tup [x,y])) { s with heap:=h'' }:=by
   refine I.step (t':=s.toks) (g':=s.gens) (d':=s.drawn) (ch:=[z,TO,i1,i2]) (fun c hb=>?_) (fun c o _ _ hn q _=>let ⟨n1,n2,n3,n4⟩:=nin hn;keep2 c o n1 n2 n3 n4 q)
    (fun c o _ _ hn q _=>let ⟨n1,n2,n3,n4⟩:=nin hn;⟨o.slots,keep2 c o n1 n2 n3 n4 q⟩) (fun c o _ q hH=>by rw[au (IN (Iz q))];exact hH)
    (fun c o hn q=>let ⟨n1,n2,n3,n4⟩:=nin hn;⟨o,keep2 c o n1 n2 n3 n4 q⟩) (fun c zs q=>by rw[au (am q fresh)];exact q)
    (fun c o' u' q=>by rw[au (am q fresh)];exact q) (fun c ps q=>⟨#[],by rw[au (am q fresh)];simp[q]⟩) (fun m hm=>?_) (fun c u' q=>?_) I.bare
   .simp only[ID,IC,K6]at hb;rcases hb with rfl|rfl|rfl|rfl
    .exact⟨fz.2.2.2.1,fz.2.1,fz.2.2.2.2.1,fz.2.2.2.2.2⟩
    .exact⟨fO.2.2.2.1,fO.2.1,fO.2.2.2.2.1,fO.2.2.2.2.2⟩
    .exact⟨f1.2.2.2.1,f1.2.1,f1.2.2.2.2.1,f1.2.2.2.2.2⟩
    .exact⟨f2.2.2.2.1,f2.2.1,f2.2.2.2.2.1,f2.2.2.2.2.2⟩
   .obtain⟨o,es',ep,ho',r⟩:=hm;exact⟨o,es',ep,keep2 _ o (Jn fz.2.1) (Jn fO.2.1) (Jn f1.2.1) (Jn f2.2.1) ho',r⟩
   .by_cases hb:c=s.heap.objs.size
    .subst hb;rw[af]at q;cases q;refine⟨by show 2<=sizeLine;decide,[u,u2],.cons ru (.cons ru2 .nil),⟨_,hT'',rfl,0,rfl⟩⟩
    .rw[au hb]at q;refine(I.aO c u' q).stay (fun d v hc' q'=>?_) (fun d r=>by rw[au (am r fresh)];exact r) fun d zs r=>by rw[au (am r fresh)];exact r
     have tr:∃ w,H d=some w:=hc'.elim (fun z=>⟨u',by rw[z];exact q⟩) fun z=>⟨_,z⟩;obtain⟨w',hw'⟩:=tr;exact keep2 d v (am hw' fz.1) (am hw' fO.1) (am hw' f1.1) (am hw' f2.1) q'
  refine⟨.ref s.heap.objs.size,_,I1,rfl,⟨_,x,y,fresh,rfl,rfl,fun zs hz'=>by rw[I.gx hz' hq];exact hx,fun zs hz'=>by rw[I.gx hz' hq2];exact hy⟩,?_,fun c hb=>?_⟩
  .have mv:∀ c o,c≠z->h'.get? c=some o->h''.get? c=some o:=fun c o n q=>(hs''.2 c n).trans q;exact⟨hz'',keep2 TI _ N.TIz N.TITO N.TIi1 N.TIi2 st.ti,⟨_,_,mv TO _ N.TOz hto'⟩,h1'.at fun o q=>mv i1 o N.i1z q,h2'.at fun o q=>mv i2 o N.i2z q⟩
  .have lt:∀{c:Addr}{o:Obj},s.heap.get? c=some o->H c=none->(upd H s.heap.objs.size (.tup [x,y])) c=none:=fun q n=>by rw[au (IN (Iz q))];exact n
   obtain⟨oo1,q1,_⟩:=st.l;obtain⟨oo2,q2,_⟩:=st.r;simp only[ID,IC,K6]at hb;rcases hb with rfl|rfl|rfl|rfl|rfl
   .exact lt st.zip fz.1
   .exact lt st.ti fI.1
   .exact lt hto fO.1
   .exact lt q1 f1.1
   .exact lt q2 f2.1
 done:=by
  intro X hP hw hK hc i ae s σ H E I hf st hg;subst hP hw hK;obtain⟨xs,ys,hq,hq2,hx⟩:=hg;obtain⟨its,rv,p,hz⟩:=I.list hq;obtain⟨its2,rv2,p2,hz2⟩:=I.list hq2;obtain⟨o1,o2,hto⟩:=st.to;have A:=lU N st p.isList p2.isList;have fz:=hf z (by simp);have fO:=hf TO (by simp);have f1:=hf i1 (by simp);have f2:=hf i2 (by simp);have l1:=rv.length;have l2:=rv2.length;refine wpAny_pyNext_zip_end (I.ok.hd hc) A st.zip st.ti hto st.l st.r p.isList p2.isList (hx.imp (fun z=>by simp;lia) fun z=>by simp;lia) fun h' hk=>⟨rfl,?_⟩;have nin:∀{c:Addr},c∉[z,TO,i1,i2]->c≠z/\c≠TO/\c≠i1/\c≠i2:=fun hn=>⟨fun z=>hn (by simp[z]),fun z=>hn (by simp[z]),fun z=>hn (by simp[z]),fun z=>hn (by simp[z])⟩;refine I.step (t':=s.toks) (g':=s.gens) (d':=s.drawn) (ch:=[z,TO,i1,i2]) (fun c hb=>?_) (fun c o _ _ hn q _=>let ⟨n1,n2,n3,n4⟩:=nin hn;hk c o n1 n2 n3 n4 q)
   (fun c o _ _ hn q _=>let ⟨n1,n2,n3,n4⟩:=nin hn;⟨o.slots,hk c o n1 n2 n3 n4 q⟩) (fun c o _ q hH=>hH)
   (fun c o hn q=>let ⟨n1,n2,n3,n4⟩:=nin hn;⟨o,hk c o n1 n2 n3 n4 q⟩) (fun c zs q=>q)
   (fun c o' u' q=>q) (fun c ps q=>⟨#[],by simp[q]⟩) (fun m hm=>?_) (fun c u' q=>?_) I.bare
  .simp only[ID,IC,K6]at hb;rcases hb with rfl|rfl|rfl|rfl
   .exact⟨fz.2.2.2.1,fz.2.1,fz.2.2.2.2.1,fz.2.2.2.2.2⟩
   .exact⟨fO.2.2.2.1,fO.2.1,fO.2.2.2.2.1,fO.2.2.2.2.2⟩
   .exact⟨f1.2.2.2.1,f1.2.1,f1.2.2.2.2.1,f1.2.2.2.2.2⟩
   .exact⟨f2.2.2.2.1,f2.2.1,f2.2.2.2.2.1,f2.2.2.2.2.2⟩
  .obtain⟨o,es',ep,ho',r⟩:=hm;exact⟨o,es',ep,hk _ o (Jn fz.2.1) (Jn fO.2.1) (Jn f1.2.1) (Jn f2.2.1) ho',r⟩
  .refine(I.aO c u' q).stay (fun d v hc' q'=>?_) (fun d r=>r) fun d zs r=>r;have tr:∃ w,H d=some w:=hc'.elim (fun z=>⟨u',by rw[z];exact q⟩) fun z=>⟨_,z⟩;obtain⟨w',hw'⟩:=tr;exact hk d v (am hw' fz.1) (am hw' fO.1) (am hw' f1.1) (am hw' f2.1) q'
 self:=fun A i s Q E st h=>wpAny_pyIter_zip st.zip h
theorem Ak (n:Nat):wx (n+4) (n+2) (n+3) n (n+1):=
 ⟨(show(n+2:Nat)≠n+4 by lia),(show(n+3:Nat)≠n+4 by lia),(show(n:Nat)≠n+4 by lia),(show(n+1:Nat)≠n+4 by lia),(show(n+2:Nat)≠n+3 by lia),(show(n+2:Nat)≠n by lia),(show(n+2:Nat)≠n+1 by lia),
   (show(n+3:Nat)≠n by lia),(show(n+3:Nat)≠n+1 by lia),(show(n:Nat)≠n+1 by lia)⟩
section
def Al (K:LM)(ta:TA):TI:=fun σ H R=>ta σ H fun vs H1=>∃ a b xs ys,vs=[.ref a,.ref b]/\SqL K H1 a xs/\SqL K H1 b ys/\R (Gs K a b) H1
theorem Am {l r:Expr} (hg:Gl X "zip") (hm:X.mg "zip"=none) (ha:PA X [l,r] ta) (hs:autoParam (starEach [l,r] X.env=(false,eval l X.env)::starEach [r] X.env) LW._auto_1) (hpl:autoParam ((backTo pos (starEach [r] X.env)).any (·.1)=false) LW._auto_1) :
 PI X (.Tuple es k s_) (.Call (.Name "zip" p) [l,r] [] pos) (Al X.K ta):=by
 intro ae s σ H R I h;refine Call_ (fq I hg hm (by decide +kernel:bootBuiltins "zip"=some (.type "zip")) (JA (bI (ha pos ae s σ H _ I h) fun us s1 ⟨vs,H1,I1,r1,q1⟩=>?_) hs hpl));obtain⟨a,b,xs,ys,e,hq,hq2,q⟩:=q1;subst e;obtain⟨u,c,rfl,ru,rc⟩:=lF r1;cases ru;cases rc;obtain⟨its,rv,pl,hz⟩:=I1.list hq;obtain⟨its2,rv2,pl2,hz2⟩:=I1.list hq2;refine call_zip_2 pl.isList pl2.isList fun h' g1 g2 g3 g4 g5 hsz kp=>?_;have I2:L2.Inv X ae σ H1 { s1 with heap:=h' }:=I1.kept (t':=s1.toks) kp;refine wpAny_pyIter_zip g1 ?_;refine⟨s1.heap.objs.size+4,[s1.heap.objs.size+4,s1.heap.objs.size+2,s1.heap.objs.size+3,s1.heap.objs.size,s1.heap.objs.size+1],_,_,H1,rfl,I2,uH a b (s1.heap.objs.size+4) (s1.heap.objs.size+2) (s1.heap.objs.size+3) s1.heap.objs.size (s1.heap.objs.size+1) (Ak s1.heap.objs.size),⟨g1,g2,⟨_,_,g3⟩,g4,g5⟩,fun c hb=>?_,q⟩;have hc:s1.heap.objs.size<=c:=by
  simp only[ID,IC,K6]at hb;rcases hb with rfl|rfl|rfl|rfl|rfl
  .exact J3 _ 4
  .exact J3 _ 2
  .exact J3 _ 3
  .exact Im _
  .exact J3 _ 1
 exact I1.kU hc (I1.aO.fresh hc)
end
end L3
namespace L2
open PySem PySem.Spec PySem.Calls PyProof.Rows
end L2
namespace L3
open PySem PySem.Spec PyProof.Rows L2
section
variable {X:Cx}
noncomputable def Cq (neg:Bool):R2:=fun x y H Q=>∃ a o,y=.ref a/\y9 H a x o/\Q (.bl (if neg then !o.isSome else o.isSome)) H
theorem An (hu:X.A.units+64<cLine):iV X (compareOp .In) (Cq false):=by intro ae s σ H x y v u Q I rx ry h;obtain⟨a,o,rfl,g,q⟩:=h;cases ry;exact Ce (by lia) I g rx fun s' I'=>⟨.bl _,H,I',rfl,q⟩
end
def getD:List DK->List D->DK->Option D
 |k'::ks,d::ds,k=>if k'=k then some d else getD ks ds k
 |_,_,_=>none
noncomputable abbrev Gu:=Int×Int×Int
noncomputable def dd (l:List Int)(x:Int):List Int:=if x∈l then l else l++[x]
def E3 (xs:List Int):List Int:=xs.foldl dd []
def g2 (ts:List Gu)(x:Int):List Int:=E3 ((ts.filter fun t=>decide (t.1=x)).map (·.2.1))
theorem fB:∀(k:List Int),IsAll H m (k.map .int) (k.map .int)
 | []=>rfl
 |i::k=>⟨.int i,_,rfl,rfl,fB k⟩
end L3
namespace L2
open PySem PySem.Spec PyProof.Rows
end L2
namespace L3
open PySem PySem.Spec PyProof.Rows L2
section
theorem jq (ns:List Int):∀ j,j<=ns.length->preSum (fun i=>(ns[i]?).getD 0) j=(ns.take j).sum
 |0,_=>by simp[preSum]
 |j+1,h=>by have hj:j<ns.length:=h;rw[preSum,jq ns j (K7 h),List.take_succ_eq_append_getElem hj,List.sum_append];simp[hj]
end
section
def qL (a b:Str):Prop:=0<b.length/\a.length<=100000/\(Txt.split a b).length<=100000/\(Builtin.Str.partsBetween a (Builtin.Str.occurrences a b 0 a.length (a.length+1)) b.length).length<=100000
instance (a b:Str):Decidable (qL a b):=by unfold qL;infer_instance
end
section
theorem f6 {kvs:List (ba×V)}(h:cf kvs k=none):bE kvs k y=kvs++[(k,y)]:=by unfold bE;rw[e8,h,IK (by simp)]
end
noncomputable abbrev IP:=Int×Int
noncomputable def dp (l:List IP)(x:IP):List IP:=if x∈l then l else l++[x]
def h1 (ts:List Gu):List IP:=(ts.map fun t=>(t.1,t.2.1)).foldl dp []
end L3
namespace L2
open PySem PySem.Spec PySem.Calls PyProof.Rows
section
theorem r_:cK X (.builtin "len") (fun xs H Q=>∃(d:Addr)(kvs:List (ba×V))(u:HO),xs=[.ref d]/\(u=.dK kvs\/(u=.dT []/\kvs=[]))/\Rd H d u/\kvs.length<=sizeLine/\Q (.int kvs.length) H):=by
 intro ae s σ H xs us Q I r h;obtain⟨d,kvs,u,rfl,hu,hrd,hz,q⟩:=h;obtain⟨w,rfl,rx⟩:=eS r;cases rx;have hx:=hrd.ok I.aO;have key:(d==sysModules)=false/\∃ vs,KV kvs vs/\s.heap.DictOf (aI X.prog X.w) d vs:=by
  rcases hu with rfl|⟨rfl,rfl⟩
  .obtain⟨z,hd,vs,rel,dd⟩:=hx;exact⟨hd,vs,rel,dd⟩
  .obtain⟨hd,dd⟩:=mC hx;exact⟨hd,[],.nil,dd⟩
 obtain⟨hd,vs,rel,dd⟩:=key;refine call_len_dict hd dd (by rw[<- rel.length];rw[IY]at hz;lia) ?_;exact⟨.int kvs.length,H,I.tok _,⟨_,by rw[rel.length]⟩,q⟩
end
end L2
namespace L3
open PySem PySem.Spec PyProof.Rows L2
theorem Ao {K KK:LM}{mg:Str->Option LO}{x:Str}{st:Stmt}{ps:List Str}{f:Addr}{oc:LO}{od an:Option Addr}{osl:Array (Option LO)}{kV doc pm cdv ct:LO}(U:gM K KK)
 (l:K.lookup f=some ⟨oc,od,.func (PySem.W.fnOf x x (bK st) (bA st) (aA st) .none kV doc pm an cdv ct),osl⟩) (c:PySem.W.codeIn K cdv x=true) (g:mg x=some (.ref f))
 (h:∀(kV doc pm:LO)(an:Option Addr)(cdv ct:LO)(us:List LO),us.length=ps.length->bindArgs (PySem.W.fnOf x x (bK st) (bA st) (aA st) .none kV doc pm an cdv ct) ⟨us,[]⟩=pure (ps.zip us)) :
 Fn KK mg x st ps f (PySem.W.fnOf x x (bK st) (bA st) (aA st) .none kV doc pm an cdv ct):=
 have F:wV KK x x st f _:=ur (U.look _ _ l (fun _ _ z=>nomatch z)) (U.code c) (U.keep l)
 ⟨F,F.binds h,g⟩
section
variable {X:Cx}
theorem lV (hc:X.calm=true):cK X (.builtin "sum") (fun xs H Q=>∃(p:Addr)(ns:List Int),xs=[.ref p]/\SqL X.K H p (ns.map V.int)/\Q (.int ns.sum) H):=by
 intro ae s σ H xs us Q I r h;obtain⟨p,ns,rfl,hq,q⟩:=h;obtain⟨u,rfl,rx⟩:=eS r;cases rx;obtain⟨its,rv,pl,hz⟩:=I.list hq;have hh:X.A.in1.handled=none:=I.ok.hd hc;obtain⟨o,ho,_⟩:=pl.isList;have hlt:p<s.heap.objs.size:=Iz ho;have hl:=rv.length;rw[Iq]at hl;refine call_sum_walkAnyS (Kv pl.isList ?_);refine⟨s.heap.objs.size,_,_,_,_,_,_,fun i=>(ns[i]?).getD 0,rfl,(Walks.list hh s.heap.objs.size p (IN hlt) its.toArray).toS,⟨⟨_,IG _ rfl,rfl,rfl⟩,?_⟩,?_,?_,fun s' t' hm=>?_⟩
 .exact pl.isList.at fun o e=>Ip _ e
 .intro b hb;rw[K3];rcases ID.mp hb with e|hb
  .rw[e];exact JU _
  .rcases ID.mp hb with e|hb
   .rw[e];exact LB hlt
   .cases hb
 .intro i v hv;have hv:its[i]?=some v:=by simpa using hv
  have hi:i<its.length:=(Iv.mp hv).1;have hb:i<ns.length:=by lia
  obtain⟨u',hu,ru⟩:=rv.get (i:=i) (x:=.int ns[i]) (by simp[hb]);rw[hv]at hu;cases hu;obtain⟨t,rfl⟩:=ru;exact⟨t,by simp[hb]⟩
 .have e:preSum (fun i=>(ns[i]?).getD 0) its.toArray.size=ns.sum:=by rw[IB,<- hl,jq ns ns.length (Im _),Jp]
  rw[e];refine⟨.int _,H,?_,⟨_,rfl⟩,q⟩;obtain⟨h',g',d',tk',os'⟩:=s';obtain rfl:g'=s.gens:=hm.gens;obtain rfl:d'=s.drawn:=hm.drawn;obtain rfl:os'=s.os:=hm.os;have I1:L2.Inv X ae σ H { s with heap:=s.heap.push { cls:=.type "list_iterator",data:=.fields #[.ref p,.int 0 0] } }:=I.kept (t':=s.toks) fun b o e=>Ip _ e;have fo:=I.kU (H':=H) (Im s.heap.objs.size) (I.aO.fresh (Im _));have I2:=I1.turned (h':=h') (t':=tk') (it:=s.heap.objs.size) (fun b o hb e=>hm.heap b o (by simpa using hb) e) fo.1 fo.2.1 fo.2.2.2.1 fo.2.2.2.2.1 fo.2.2.2.2.2;exact I2
end
end L3
namespace Pz
section
variable {κ α:Type}[DecidableEq κ]
noncomputable abbrev MD (κ α:Type):=List (κ×List α)
def MD.get (d:MD κ α)(k:κ):List α:=((d.find? fun x=>decide (x.1=k)).map (·.2)).getD []
def MD.has (d:MD κ α)(k:κ):Bool:=d.any fun x=>decide (x.1=k)
def MD.app (d:MD κ α)(k:κ)(v:α):MD κ α:=if d.has k then d.map (fun x=>if x.1=k then (x.1,x.2++[v]) else x) else d++[(k,[v])]
def MD.drop (d:MD κ α)(k:κ):MD κ α:=d.filter fun x=>decide (x.1≠k)
def MD.flat (d:MD κ α):List α:=d.flatMap (·.2)
abbrev MD.keys (d:MD κ α):List κ:=d.map (·.1)
structure MD.Ok (d:MD κ α):Prop where
 nk:d.keys.Nodup
 ne:∀ x∈d,x.2≠[]
theorem cB (x:κ×List α)(d:MD κ α)(k:κ):MD.get (x::d) k=if x.1=k then x.2 else MD.get d k:=by grind [MD.get]
theorem has_iff {d:MD κ α}{k:κ}:d.has k=true↔k∈d.keys:=by
 unfold MD.has
 grind
theorem uI {d:MD κ α}{k:κ}(h:k∉d.keys):d.get k=[]:=by
 induction d with
 |nil=>rfl
 |cons x r ih=>grind [cB]
theorem xI {d:MD κ α}(nd:d.keys.Nodup){k:κ}{l:List α}(h:(k,l)∈d):d.get k=l:=by
 induction d with
 |nil=>cases h
 |cons x r ih=>grind [cB]
theorem mH {d:MD κ α}{k:κ}{v:α}(h:v∈d.get k):(k,d.get k)∈d:=by
 induction d with
 |nil=>cases h
 |cons x r ih=>grind [cB]
theorem mI {d:MD κ α}{k:κ}{v:α}(h:k∉d.keys):d.map (fun x=>if x.1=k then (x.1,x.2++[v]) else x)=d:=by induction d<;>grind
theorem uJ (d:MD κ α)(k:κ)(v:α):(d.app k v).keys=if k∈d.keys then d.keys else d.keys++[k]:=by
 unfold MD.app;by_cases h:k∈d.keys
 .rw[IS (has_iff.mpr h),IS h];unfold MD.keys;rw[JK];exact Jl fun x _=>by grind
 .rw[IK (fun q=>h (has_iff.mp q)),IK h];unfold MD.keys;rw[IW];rfl
theorem ko {d:MD κ α}(O:d.Ok)(k:κ)(v:α):(d.app k v).Ok:=by
 constructor
 .rw[uJ];split
  .exact O.nk
  .rename_i h;exact Jv.mpr ⟨O.nk,by simp,fun a ha b hb e=>by grind⟩
 .intro x hx;unfold MD.app at hx;split at hx
  .obtain⟨y,hy,rfl⟩:=IT.mp hx;split
   .simp
   .exact O.ne y hy
  .rcases IR.mp hx with h|h
   .exact O.ne x h
   .rw[IA]at h;subst h;simp
theorem jB {d:MD κ α}{k:κ}{l:List α}(h:k∉d.keys):MD.get (d++[(k,l)]) k=l:=by
 grind [MD.get]
theorem lb {d:MD κ α}{k k':κ}{l:List α}(h:k≠k'):MD.get (d++[(k,l)]) k'=d.get k':=by
 grind [MD.get]
theorem mJ {d:MD κ α}{k:κ}{v:α}(h:k∈d.keys):MD.get (d.map (fun x=>if x.1=k then (x.1,x.2++[v]) else x)) k=d.get k++[v]:=by
 induction d with
 |nil=>cases h
 |cons x r ih=>
  rw[II,cB,cB];by_cases e:x.1=k
  .rw[IS e,IS (show x.1=k from e),IS e]
  .rw[IK e,IK e,IK e];rcases ID.mp h with q|q
   .exact(e q.symm).elim
   .exact ih q
theorem pO {d:MD κ α}{k k':κ}{v:α}(h:k≠k'):MD.get (d.map (fun x=>if x.1=k then (x.1,x.2++[v]) else x)) k'=d.get k':=by
 induction d with
 |nil=>rfl
 |cons x r ih=>grind [cB]
theorem mK (d:MD κ α)(k:κ)(v:α)(k':κ):(d.app k v).get k'=if k=k' then d.get k++[v] else d.get k':=by
 unfold MD.app;by_cases h:k∈d.keys
 .rw[IS (has_iff.mpr h)];by_cases e:k=k'
  .subst e;rw[IS rfl,mJ h]
  .rw[IK e,pO e]
 .rw[IK (fun q=>h (has_iff.mp q))];by_cases e:k=k'
  .subst e;rw[IS rfl,jB h,uI h];rfl
  .rw[IK e,lb e]
theorem dW {d:MD κ α}(nd:d.keys.Nodup)(k:κ)(v:α):(d.app k v).flat.Perm (v::d.flat):=by
 unfold MD.app;by_cases h:k∈d.keys
 .rw[IS (has_iff.mpr h)];induction d with
  |nil=>cases h
  |cons x r ih=>
   have nd':=Jq.mp nd;unfold MD.flat at ih ⊢;rw[II,Ky,Ky];by_cases e:x.1=k
   .subst e;rw[IS rfl,mI nd'.1];show((x.2++[v])++_).Perm _;rw[Kk];exact LH
   .rw[IK e];rcases ID.mp h with q|q
    .exact(e q.symm).elim
    .exact((KA _).append (ih nd'.2 q)).trans LH
 .rw[IK (fun q=>h (has_iff.mp q))];unfold MD.flat;rw[List.flatMap_append];show(_++([v]++[])).Perm _;rw[KH];exact List.perm_append_singleton _ _
theorem si (d:MD κ α)(k:κ):(d.drop k).keys=d.keys.filter fun x=>decide (x≠k):=by unfold MD.drop MD.keys;rw[List.filter_map];rfl
theorem qM {d:MD κ α}(O:d.Ok)(k:κ):(d.drop k).Ok:=⟨by rw[si];exact List.Pairwise.filter _ O.nk,fun x hx=>O.ne x (Js.mp hx).1⟩
theorem sj {d:MD κ α}{k:κ}(h:k∉d.keys):d.drop k=d:=by induction d<;>grind [MD.drop]
theorem i8 {d:MD κ α}(nd:d.keys.Nodup)(k:κ):d.flat.Perm (d.get k++(d.drop k).flat):=by
 induction d with
 |nil=>exact KA _
 |cons x r ih=>
  have nd':=Jq.mp nd;rw[cB];by_cases e:x.1=k
  .subst e;rw[IS rfl];have:MD.drop (x::r) x.1=r:=by grind [MD.drop,sj]
   rw[this];exact KA _
  .rw[IK e];have:MD.drop (x::r) k=x::MD.drop r k:=by grind [MD.drop]
   rw[this];unfold MD.flat at ih ⊢;rw[Ky,Ky];refine((KA _).append (ih nd'.2)).trans ?_;rw[<- Kk,<- Kk];exact List.perm_append_comm.append_right _
theorem mem_flat {d:MD κ α}{v:α}:v∈d.flat↔∃ x∈d,v∈x.2:=List.mem_flatMap
theorem iB (d:MD κ α){k:κ}{v:α}(h:v∈d.get k):v∈d.flat:=mem_flat.mpr ⟨_,mH h,h⟩
theorem jL (d:MD κ α)(k:κ):(d.get k).length<=d.flat.length:=by
 induction d with
 |nil=>exact Im _
 |cons x r ih=>grind [cB,MD.flat]
theorem fC {d:MD κ α}(O:d.Ok):d.length<=d.flat.length:=by
 have:∀ d:MD κ α,(∀ x∈d,x.2≠[])->d.length<=d.flat.length:=by
  intro d;induction d with
  |nil=>intro _;exact Im _
  |cons x r ih=>
   intro h;have h1:=ih fun y hy=>h y (Iw _ hy);have h2:0<x.2.length:=Ll.mpr (h x Iy);unfold MD.flat at h1 ⊢
   grind
 exact this d O.ne
end
end Pz
namespace Pz
noncomputable def lo:List Int->Int
 | []=>0
 |x::r=>r.foldl (fun a b=>if b<a then b else a) x
theorem pP:∀(r:List Int)(x:Int),r.foldl (fun a b=>if b<a then b else a) x∈x::r/\∀ y∈x::r,r.foldl (fun a b=>if b<a then b else a) x<=y
 | [],x=>by grind
 |z::r,x=>by
  obtain⟨h1,h2⟩:=pP r (if z<x then z else x);rw[Kl];constructor
  .grind
  .intro y hy;have h3:=h2 _ Iy
   grind
theorem uK (h:l≠[]):lo l∈l:=by
 cases l with
 |nil=>exact(h rfl).elim
 |cons x r=>exact(pP r x).1
theorem uL (h:y∈l):lo l<=y:=by
 cases l with
 |nil=>cases h
 |cons x r=>exact(pP r x).2 y h
structure nE (pile:Int->Int->Int):Prop where
 nn:∀{p l:Int},0<=p->0<=l->0<=pile p l
 ch:∀{p l:Int},0<=p->0<=l->∀ k:Nat,pile p l<=k↔p / 2 ^ k=l / 2 ^ k
section
variable (P:nE pile)
include P
theorem nE.zero (hp:0<=p)(hl:0<=l):pile p l=0↔p=l:=by
 have h1:=P.nn hp hl;have h2:=P.ch hp hl 0
 grind
theorem nE.lt (hl:0<=l)(hp:l<=p)(hr:l<=r)(h:pile p l<pile r l):p<r:=by
 have p0:0<=p:=JX hl hp;have r0:0<=r:=JX hl hr;obtain⟨k,hk⟩:=Jj (P.nn p0 hl);have e1:=(P.ch p0 hl k).mp (by lia);have e2:¬ r / 2 ^ k=l / 2 ^ k:=fun e=>by have:=(P.ch r0 hl k).mpr e;lia
 have pos:(0:Int)<2 ^ k:=Int.pow_pos (by decide);have e3:=Int.ediv_le_ediv pos hr;refine Int.not_le.mp fun hc=>?_;have e4:=Int.ediv_le_ediv pos hc;lia
theorem nE.same (hl:0<=l)(hm:l<=m)(hr:l<=r)(h:pile m l<pile r l):pile r m=pile r l:=by
 have m0:0<=m:=JX hl hm;have r0:0<=r:=JX hl hr;have key:∀ j:Nat,pile r m<=j↔pile r l<=j:=by
  intro j;rw[P.ch r0 m0,P.ch r0 hl];by_cases hj:pile m l<=j
  .rw[(P.ch m0 hl j).mp hj]
  .have hd:∀{a b:Int}{i:Nat},a / 2 ^ j=b / 2 ^ j->a / 2 ^ (j+i)=b / 2 ^ (j+i):=by intro a b i e;rw[Int.pow_add,<- Int.ediv_ediv_of_nonneg (KF (Int.pow_pos (by decide))),<- Int.ediv_ediv_of_nonneg (KF (Int.pow_pos (by decide))),e]
   obtain⟨k,hk⟩:=Jj (P.nn m0 hl);obtain⟨i,rfl⟩ : ∃ i,k=j+i:=⟨k-j,by lia⟩;constructor<;>intro e<;>exfalso
   .have e1:=hd (i:=i) e;rw[(P.ch m0 hl (j+i)).mp (by lia)]at e1;have:=(P.ch r0 hl (j+i)).mpr e1;lia
   .have:=(P.ch r0 hl j).mpr e;lia
 obtain⟨a,ha⟩:=Jj (P.nn r0 m0);obtain⟨b,hb⟩:=Jj (P.nn r0 hl);have h1:=key a;have h2:=key b;lia
end
section
variable {α:Type}
abbrev Q (α:Type):=MD Int (Int×α)
structure o9 (pile:Int->Int->Int) (last:Int) (d:Q α):Prop where
 ok:d.Ok
 l0:0<=last
 at_:∀ x∈d,∀ y∈x.2,x.1=pile y.1 last/\last<=y.1
theorem o9.add (h:o9 pile last d)(a:α)(hp:last<=p):o9 pile last (d.app (pile p last) (p,a)):=by
 refine⟨ko h.ok _ _,h.l0,fun x hx y hy=>?_⟩;unfold MD.app at hx;split at hx
 .obtain⟨z,hz,rfl⟩:=IT.mp hx;by_cases e:z.1=pile p last
  .rw[IS e]at hy ⊢;rcases IR.mp hy with hy|hy
   .exact h.at_ z hz y hy
   .rw[IA]at hy;subst hy;exact⟨e,hp⟩
  .rw[IK e]at hy ⊢;exact h.at_ z hz y hy
 .rcases IR.mp hx with hx|hx
  .exact h.at_ x hx y hy
  .grind
def cm (pile:Int->Int->Int)(last:Int)(d:Q α)(l:List (Int×α)):Q α:=l.foldl (fun d x=>d.app (pile x.1 last) x) d
theorem o9.cm:∀{l:List (Int×α)}{d:Q α},o9 pile last d->(∀ x∈l,last<=x.1)->o9 pile last (cm pile last d l)
 | [],d,h,_=>h
 |x::l,d,h,hl=>o9.cm (l:=l) (h.add x.2 (hl x Iy)) fun y hy=>hl y (Iw _ hy)
theorem gf:∀{l:List (Int×α)}{d:Q α},d.Ok->(cm pile last d l).flat.Perm (l++d.flat)
 | [],d,h=>KA _
 |x::l,d,h=>(gf (l:=l) (ko h _ _)).trans (((KA _).append (dW h.nk _ _)).trans LH)
def bQ (d:Q α):Int:=lo d.keys
def lowP (d:Q α):Int:=lo ((d.get (bQ d)).map (·.1))
def mid (pile:Int->Int->Int)(d:Q α):Q α:=cm pile (lowP d) (d.drop (bQ d)) (d.get (bQ d))
def cC (pile:Int->Int->Int)(d:Q α):List (Int×α):=(mid pile d).get 0
def left (pile:Int->Int->Int)(d:Q α):Q α:=(mid pile d).drop 0
structure BE (pile:Int->Int->Int) (last:Int) (d:Q α):Prop where
 ge:last<=lowP d
 ok:o9 pile (lowP d) (left pile d)
 eq:∀ x∈cC pile d,x.1=lowP d
 lt:∀ x∈(left pile d).flat,lowP d<x.1
 pm:d.flat.Perm (cC pile d++(left pile d).flat)
 ne:cC pile d≠[]
 k1:bQ d∈d.keys
 k2:d.get (bQ d)≠[]
 k3:0∈(mid pile d).keys
 o1:o9 pile (lowP d) (d.drop (bQ d))
theorem sk (P:nE pile)(h:o9 pile last d)(hne:d≠[]):BE pile last d:=by
 have k1:bQ d∈d.keys:=uK (by simpa[MD.keys] using hne);obtain⟨x0,hx0,ex0⟩:=IT.mp k1;have g0:d.get (bQ d)=x0.2:=xI h.ok.nk (by grind);have k2:d.get (bQ d)≠[]:=by rw[g0];exact h.ok.ne x0 hx0
 have hm:lowP d∈(d.get (bQ d)).map (·.1):=uK (by simpa using k2);obtain⟨y0,hy0,ey0⟩:=IT.mp hm;have at0:∀ y∈d.get (bQ d),bQ d=pile y.1 last/\last<=y.1:=fun y hy=>by rw[g0]at hy;have:=h.at_ x0 hx0 y hy;rw[ex0]at this;exact this
 have hl:last<=lowP d:=by grind
 have l0:0<=lowP d:=JX h.l0 hl;have kP:pile (lowP d) last=bQ d:=by grind
 have minP:∀ y∈d.get (bQ d),lowP d<=y.1:=fun y hy=>uL (IT.mpr ⟨y,hy,rfl⟩);have oth:∀ x∈d.drop (bQ d),∀ y∈x.2,x.1=pile y.1 (lowP d)/\lowP d<y.1:=fun x hx y hy=>by
  obtain⟨hx,hn⟩:=Js.mp hx;have hn:x.1≠bQ d:=Ja hn;have hle:bQ d<=x.1:=uL (IT.mpr ⟨x,hx,rfl⟩);obtain⟨e1,e2⟩:=h.at_ x hx y hy;have hlt:pile (lowP d) last<pile y.1 last:=by grind
  exact⟨e1.trans (P.same h.l0 hl e2 hlt).symm,P.lt h.l0 hl e2 hlt⟩
 have o1:o9 pile (lowP d) (d.drop (bQ d)):=⟨qM h.ok _,l0,fun x hx y hy=>⟨(oth x hx y hy).1,KF (oth x hx y hy).2⟩⟩;have o2:o9 pile (lowP d) (mid pile d):=o1.cm minP;have pm1:d.flat.Perm (mid pile d).flat:=(i8 h.ok.nk _).trans (gf o1.ok).symm;have pm2:(mid pile d).flat.Perm (cC pile d++(left pile d).flat):=i8 o2.ok.nk 0;have eq:∀ x∈cC pile d,x.1=lowP d:=fun x hx=>by have:=o2.at_ _ (mH hx) x hx;exact(P.zero (JX l0 this.2) l0).mp this.1.symm
 have lt:∀ x∈(left pile d).flat,lowP d<x.1:=fun x hx=>by obtain⟨y,hy,hx⟩:=mem_flat.mp hx;obtain⟨hy,hn⟩:=Js.mp hy;have hn:y.1≠0:=Ja hn;obtain⟨e1,e2⟩:=o2.at_ y hy x hx;have:¬ x.1=lowP d:=fun e=>hn (e1.trans ((P.zero (JX l0 e2) l0).mpr e));lia
 have yin:y0∈cC pile d:=by
  have h1:y0∈d.flat:=iB d hy0
  grind
 exact⟨hl,⟨qM o2.ok _,l0,fun x hx=>o2.at_ x (Js.mp hx).1⟩,eq,lt,pm1.trans pm2,(fun e=>by grind),k1,k2,IT.mpr ⟨_,mH yin,rfl⟩,o1⟩
end
end Pz
namespace Pz
noncomputable abbrev Arr:=Int×Int×Int
noncomputable abbrev Rule:=Int×Int×Int×List Int
noncomputable abbrev jC:=Int×Option Int×Option Int
abbrev TD:=List (Arr×jC)
noncomputable def bw (t:TD)(a:Arr):Option jC:=(t.find? fun x=>decide (x.1=a)).map (·.2)
def tput (t:TD)(a:Arr)(v:jC):TD:=if (bw t a).isSome then t.map (fun x=>if x.1=a then (x.1,v) else x) else t++[(a,v)]
structure PS where
 told:TD
 last:Int
 aE:Q Arr
 settled:MD (Int×Int) (Int×Int)
 aH:MD (Int×Int) (Int×Rule×Int)
abbrev RS:=MD (Int×Int) (Int×Rule)
section
variable (pile:Int->Int->Int)(rs:RS)
def e_ (S:PS)(a:Arr)(p:Int):Bool:=match bw S.told a with
 |none=>true
 |some v=>decide (p<v.1)
def gg (S:PS)(a:Arr)(p:Int)(n m:Option Int):PS:={ S with told:=tput S.told a (p,n,m),aE:=S.aE.app (pile p S.last) (p,a) }
def a_ (S:PS)(a:Arr)(p:Int)(n m:Option Int):PS:=if e_ S a p then gg pile S a p n m else S
def nth1 (l:List Int):Int:=l[1]?.getD 0
def mL (S:PS)(num:Int)(r:Rule)(mid price:Int):PS:={ S with aH:=S.aH.app (mid,nth1 r.2.2.2) (num,r,price) }
def first (S:PS)(num:Int)(r:Rule)(mid price:Int):PS:=(S.settled.get (mid,nth1 r.2.2.2)).foldl (fun S x=>a_ pile S (r.1,r.2.1,x.1) (price+x.2+1) (some num) (some mid)) (mL S num r mid price)
def note (S:PS)(a:Arr)(price:Int):PS:={ S with settled:=S.settled.app (a.1,a.2.1) (a.2.2,price) }
def jr (a:Arr)(price:Int)(S:PS)(x:Int×Rule×Int):PS:=a_ pile S (x.2.1.1,x.2.1.2.1,a.2.2) (x.2.2+price+1) (some x.1) (some a.1)
def cc (a:Arr)(price:Int)(S:PS)(x:Int×Rule):PS:=if x.2.2.2.2.length=1 then a_ pile S (x.2.1,x.2.2.1,a.2.2) (price+1) (some x.1) none else first pile S x.1 x.2 a.2.2 price
def settle (S:PS)(a:Arr)(price:Int):PS:=(rs.get (a.1,a.2.1)).foldl (cc pile a price) ((S.aH.get (a.1,a.2.1)).foldl (jr pile a price) (note S a price))
def Ap (S:PS)(x:Int×Arr):Bool:=match bw S.told x.2 with
 |none=>false
 |some v=>decide (v.1=x.1)
def turn (S:PS)(x:Int×Arr):PS:=if Ap S x then settle pile rs S x.2 x.1 else S
def batch (S:PS)(l:List (Int×Arr)):PS:=l.foldl (turn pile rs) S
def take (S:PS):PS:={ S with last:=lowP S.aE,aE:=left pile S.aE }
end
noncomputable def L:Nat:=16000000
structure gY (S:PS):Prop where
 t:S.told.length<L
 p:S.aE.length<L
 pf:S.aE.flat.length<L
 s:S.settled.length<L
 sf:S.settled.flat.length<L
 l:S.aH.length<L
 lf:S.aH.flat.length<L
inductive Loop (pile:Int->Int->Int) (rs:RS):Nat->PS->PS->Prop where
 |done {S:PS}:S.aE=[]->Loop pile rs 0 S S
 |step {n:Nat} {S T:PS}:S.aE≠[]->o9 pile S.last S.aE->(∀ x∈cC pile S.aE,bw S.told x.2≠none)->gY S->gY (batch pile rs (take pile S) (cC pile S.aE))->
  Loop pile rs n (batch pile rs (take pile S) (cC pile S.aE)) T->Loop pile rs (n+1) S T
theorem cx (x:Arr×jC)(t:TD)(a:Arr):bw (x::t) a=if x.1=a then some x.2 else bw t a:=by grind [bw]
theorem tget_none:bw t a=none↔a∉t.map (·.1):=by
 induction t with
 |nil=>simp[bw]
 |cons x r ih=>grind [cx]
theorem c_ (h:bw t a=some v):(a,v)∈t:=by
 induction t with
 |nil=>cases h
 |cons x r ih=>grind [cx]
theorem om (nd:(t.map (·.1)).Nodup)(h:(a,v)∈t):bw t a=some v:=by
 induction t with
 |nil=>cases h
 |cons x r ih=>grind [cx]
theorem sq (t:TD)(a:Arr)(v:jC):(tput t a v).map (·.1)=if a∈t.map (·.1) then t.map (·.1) else t.map (·.1)++[a]:=by
 unfold tput;cases h:bw t a with
 |none=>rw[IK (by simp),IK (tget_none.mp h),IW];rfl
 |some w=>have:a∈t.map (·.1):=IT.mpr ⟨_,c_ h,rfl⟩;rw[IS (by simp),IS this,JK];exact Jl fun x _=>by grind
theorem xJ (h:(t.map (·.1)).Nodup)(a:Arr)(v:jC):((tput t a v).map (·.1)).Nodup:=by
 rw[sq];split
 .exact h
 .rename_i q;exact Jv.mpr ⟨h,by simp,fun x hx b hb e=>by rw[IA]at hb;subst hb;subst e;exact q hx⟩
theorem oo (t:TD)(a:Arr)(v:jC):t.length<=(tput t a v).length/\(tput t a v).length<=t.length+1:=by
 unfold tput;split
 .rw[Iq];lia
 .rw[IF];simp
theorem fc (t:TD)(a:Arr)(v:jC)(b:Arr):bw (tput t a v) b=if a=b then some v else bw t b:=by
 unfold tput;cases h:bw t a with
 |none=>
  rw[IK (by simp)];have hn:=tget_none.mp h;clear h;induction t with
  |nil=>rw[List.nil_append,cx]
  |cons x r ih=>grind [cx]
 |some w=>
  rw[IS (by simp)];have hm:a∈t.map (·.1):=IT.mpr ⟨_,c_ h,rfl⟩;clear h;by_cases e:a=b
  .subst e;rw[IS rfl];induction t with
   |nil=>cases hm
   |cons x r ih=>grind [cx]
  .rw[IK e];clear hm;induction t with
   |nil=>rfl
   |cons x r ih=>grind [cx]
structure dP (S T:PS):Prop where
 t:S.told.length<=T.told.length
 p:S.aE.length<=T.aE.length
 pf:S.aE.flat.length<=T.aE.flat.length
 s:S.settled.length<=T.settled.length
 sf:S.settled.flat.length<=T.settled.flat.length
 l:S.aH.length<=T.aH.length
 lf:S.aH.flat.length<=T.aH.flat.length
theorem dP.refl (S:PS):dP S S:=by
 grind [PS,dP]
theorem dP.trans (a:dP S T)(b:dP T U):dP S U:=⟨IV a.t b.t,IV a.p b.p,IV a.pf b.pf,IV a.s b.s,IV a.sf b.sf,IV a.l b.l,IV a.lf b.lf⟩
theorem dP.fit (a:dP S T)(h:gY T):gY S:=⟨Jy a.t h.t,Jy a.p h.p,Jy a.pf h.pf,Jy a.s h.s,Jy a.sf h.sf,Jy a.l h.l,Jy a.lf h.lf⟩
theorem dF {κ α:Type}[DecidableEq κ](d:MD κ α)(k:κ)(v:α):d.length<=(d.app k v).length/\d.flat.length<=(d.app k v).flat.length:=by
 unfold MD.app;split
 .rw[Iq];refine⟨Im _,?_⟩;unfold MD.flat;rw[List.length_flatMap,List.length_flatMap,JK];induction d with
  |nil=>exact Im _
  |cons x r ih=>
   rename_i h;clear h;rw[II,II,Lc,Lc];refine Nat.add_le_add ?_ ?_
   .simp only[Function.comp];split<;>simp
   .clear ih;induction r with
    |nil=>exact Im _
    |cons y r ih=>rw[II,II,Lc,Lc];exact Nat.add_le_add (by simp only[Function.comp];split<;>simp) ih
 .rw[IF];unfold MD.flat;rw[List.flatMap_append,IF];lia
theorem bW {β:Type}(f:PS->β->PS)(h:∀ S x,dP S (f S x)):∀(l:List β)(S:PS),dP S (l.foldl f S)
 | [],S=>.refl S
 |x::l,S=>(h S x).trans (bW f h l _)
theorem bP (S:PS)(a:Arr)(p:Int)(n m:Option Int):dP S (a_ pile S a p n m):=by
 unfold a_;split
 .exact⟨(oo _ _ _).1,(dF _ _ _).1,(dF _ _ _).2,Im _,Im _,Im _,Im _⟩
 .exact .refl S
theorem pQ (S:PS)(num:Int)(r:Rule)(mid price:Int):dP S (first pile S num r mid price):=dP.trans (T:=mL S num r mid price) ⟨Im _,Im _,Im _,Im _,Im _,(dF _ _ _).1,(dF _ _ _).2⟩ (bW _ (fun S x=>bP S _ _ _ _) _ _)
theorem g9 (a:Arr)(price:Int)(S:PS)(x:Int×Rule):dP S (cc pile a price S x):=by
 unfold cc;split
 .exact bP _ _ _ _ _
 .exact pQ _ _ _ _ _
theorem oq (S:PS)(a:Arr)(price:Int):dP S (settle pile rs S a price):=(dP.trans (S:=S) (T:=note S a price) ⟨Im _,Im _,Im _,(dF _ _ _).1,(dF _ _ _).2,Im _,Im _⟩ (bW (jr pile a price) (fun S x=>bP S _ _ _ _) _ _)).trans (bW _ (g9 a price) _ _)
theorem sr (S:PS)(x:Int×Arr):dP S (turn pile rs S x):=by
 unfold turn;split
 .exact oq _ _ _
 .exact .refl S
theorem gh {β:Type}(f:PS->β->PS){a:Arr}(h:∀ S x,bw S.told a≠none->bw (f S x).told a≠none):∀(l:List β)(S:PS),bw S.told a≠none->bw (l.foldl f S).told a≠none
 | [],S,k=>k
 |x::l,S,k=>gh f h l _ (h S x k)
theorem kq (h:bw S.told b≠none):bw (a_ pile S a p n m).told b≠none:=by
 unfold a_;split
 .show bw (tput _ _ _) _≠none;rw[fc];split
  .simp
  .exact h
 .exact h
theorem uM (h:bw S.told b≠none):bw (cc pile a p S x).told b≠none:=by
 unfold cc;split
 .exact kq h
 .exact gh _ (fun S x k=>kq k) _ _ (show bw (mL S _ _ _ _).told b≠none from h)
theorem xK (h:bw S.told b≠none):bw (turn pile rs S x).told b≠none:=by
 unfold turn;split
 .exact gh _ (fun S x k=>uM k) _ _ (gh (jr pile _ _) (fun S x k=>kq k) _ _ (show bw (note S _ _).told b≠none from h))
 .exact h
end Pz
namespace Pz
def Sd (S:PS)(a:Arr)(q:Int):Prop:=(a.2.2,q)∈S.settled.get (a.1,a.2.1)
def d_ (S:PS)(a:Arr)(p:Int):Prop:=∃ v,bw S.told a=some v/\v.1<=p
def JustP (sd:Arr->Int->Prop)(c:Int)(put:List Int)(t p:Int)(m:Option Int):Prop:=match put with
 | []=>m=none/\p=1/\t=c
 | [x]=>m=none/\∃ q,sd (c,x,t) q/\p=q+1
 | [x,y]=>∃ d q1 q2,m=some d/\sd (c,x,d) q1/\sd (d,y,t) q2/\p=q1+q2+1
 |_=>False
theorem JustP.mono (h:∀ a q,sd a q->sd' a q)(j:JustP sd c put t p m):JustP sd' c put t p m:=by
 match put,j with
 | [],j=>exact j
 | [x],⟨e,q,s,e2⟩=>exact⟨e,q,h _ _ s,e2⟩
 | [x,y],⟨d,q1,q2,e,s1,s2,e2⟩=>exact⟨d,q1,q2,e,h _ _ s1,h _ _ s2,e2⟩
section
variable (RL:List Rule)(M:List Arr)
def Just (sd:Arr->Int->Prop)(a:Arr)(v:jC):Prop:=match v.2.1 with
 |none=>v.2.2=none/\v.1=0/\a∈M
 |some i=>∃(j:Nat)(r:Rule),i=j/\RL[j]?=some r/\a.1=r.1/\a.2.1=r.2.1/\JustP sd r.2.2.1 r.2.2.2 a.2.2 v.1 v.2.2
theorem Just.mono (h:∀ a q,sd a q->sd' a q)(j:Just RL M sd a v):Just RL M sd' a v:=by
 obtain⟨p,n,m⟩:=v;cases n with
 |none=>exact j
 |some i=>obtain⟨k,r,e1,e2,e3,e4,j⟩:=j;exact⟨k,r,e1,e2,e3,e4,j.mono h⟩
structure B (pile:Int->Int->Int) (U:List Arr) (S:PS) (rest:List (Int×Arr)):Prop where
 q:o9 pile S.last S.aE
 nd:S.aE.flat.Nodup
 nr:rest.Nodup
 tk:(S.told.map (·.1)).Nodup
 tu:∀ a v,bw S.told a=some v->a∈U
 ju:∀ a v,bw S.told a=some v->Just RL M (Sd S) a v
 ps:∀ a v,bw S.told a=some v->0<=v.1
 sd:∀ a p,Sd S a p->p<=S.last/\∃ v,bw S.told a=some v/\v.1=p
 sp:∀ a v,bw S.told a=some v->Sd S a v.1\/(v.1,a)∈S.aE.flat\/(v.1,a)∈rest
 it:∀ p a,(p,a)∈S.aE.flat\/(p,a)∈rest->d_ S a p
 ns:∀ p a,(p,a)∈S.aE.flat\/(p,a)∈rest->¬ Sd S a p
 m0:∀ a v,bw S.told a=some v->a∈M->v=(0,none,none)
end
theorem ou (h:¬ e_ S a p=true):d_ S a p:=by
 grind [e_,d_]
theorem dX (h:e_ S a p=true)(e:bw S.told a=some v):p<v.1:=by unfold e_ at h;rw[e]at h;exact Ja h
theorem gD (a:Arr)(p:Int)(n m:Option Int):d_ (a_ pile S a p n m) a p:=by
 unfold a_;by_cases h:e_ S a p=true
 .rw[IS h];exact⟨(p,n,m),by show bw (tput _ _ _) _=_;rw[fc,IS rfl],J0 _⟩
 .rw[IK h];exact ou h
theorem fD (h:d_ S b q):d_ (a_ pile S a p n m) b q:=by
 unfold a_;by_cases k:e_ S a p=true
 .rw[IS k];obtain⟨v,e,hv⟩:=h;by_cases e2:a=b
  .subst e2;exact⟨(p,n,m),by show bw (tput _ _ _) _=_;rw[fc,IS rfl],KF (Ls (dX k e) hv)⟩
  .exact⟨v,by show bw (tput _ _ _) _=_;rw[fc,IK e2];exact e,hv⟩
 .rw[IK k];exact h
theorem fE (a:Arr)(p:Int)(n m:Option Int):(a_ pile S a p n m).settled=S.settled/\(a_ pile S a p n m).aH=S.aH/\(a_ pile S a p n m).last=S.last:=by unfold a_;split<;>exact⟨rfl,rfl,rfl⟩
theorem pR (h:S.aE.Ok)(a:Arr)(p:Int)(n m:Option Int)(hx:x∈(a_ pile S a p n m).aE.flat):x∈S.aE.flat\/x=(p,a):=by
 unfold a_ at hx;split at hx
 .rcases ID.mp ((dW h.nk _ _).mem_iff.mp hx) with e|e
  .exact .inr e
  .exact .inl e
 .exact .inl hx
theorem lW (h:S.aE.Ok)(a:Arr)(p:Int)(n m:Option Int):(a_ pile S a p n m).aE.flat.length<=S.aE.flat.length+1:=by
 unfold a_;split
 .exact Lq (dW h.nk _ _).length_eq
 .lia
theorem B.a_ (b:B RL M pile U S rest)(hj:Just RL M (Sd S) a (p,n,m))(hu:a∈U)(hp:S.last<=p)(hr:(p,a)∉rest)(hs:¬ Sd S a p)
 (hm:a∈M->d_ S a 0\/(p,n,m)=(0,none,none)):B RL M pile U (a_ pile S a p n m) rest:=by
 unfold Pz.a_;by_cases k:e_ S a p=true
 .rw[IS k];have hS:∀ c q,Sd (gg pile S a p n m) c q↔Sd S c q:=fun c q=>Iff.rfl;have tg:∀ c,bw (gg pile S a p n m).told c=if a=c then some (p,n,m) else bw S.told c:=fun c=>fc _ _ _ _;have pf:=dW b.q.ok.nk (pile p S.last) (p,a);have p0:0<=p:=JX b.q.l0 hp;have fl:∀ x,x∈(gg pile S a p n m).aE.flat↔x=(p,a)\/x∈S.aE.flat:=fun x=>by show x∈(S.aE.app (pile p S.last) (p,a)).flat↔_;rw[pf.mem_iff,ID]
  refine⟨b.q.add a hp,?_,b.nr,xJ b.tk _ _,fun c v e=>?_,fun c v e=>?_,fun c v e=>?_,fun c q h=>?_,fun c v e=>?_,fun q c h=>?_,fun q c h=>?_,fun c v e hc=>?_⟩
  .refine pf.nodup_iff.mpr (Jq.mpr ⟨fun h=>?_,b.nd⟩);obtain⟨v,e,hv⟩:=b.it p a (.inl h);have:=dX k e;lia
  .rw[tg]at e;by_cases z:a=c
   .rw[<- z];exact hu
   .rw[IK z]at e;exact b.tu c v e
  .rw[tg]at e;by_cases z:a=c
   .rw[IS z]at e;cases e;rw[<- z];exact hj
   .rw[IK z]at e;exact b.ju c v e
  .rw[tg]at e;by_cases z:a=c
   .rw[IS z]at e;cases e;exact p0
   .rw[IK z]at e;exact b.ps c v e
  .obtain⟨h1,v,e,hv⟩:=b.sd c q h;refine⟨h1,v,?_,hv⟩;rw[tg,IK (fun z=>?_)]
   .exact e
   .subst z;have:=dX k e;lia
  .rw[tg]at e;by_cases z:a=c
   .rw[IS z]at e;cases e;subst z;exact .inr (.inl ((fl _).mpr (.inl rfl)))
   .rw[IK z]at e;rcases b.sp c v e with h|h|h
    .exact .inl h
    .exact .inr (.inl ((fl _).mpr (.inr h)))
    .exact .inr (.inr h)
  .have:(q,c)=(p,a)\/(q,c)∈S.aE.flat\/(q,c)∈rest:=by
    rcases h with h|h
    .rcases (fl _).mp h with h|h
     .exact .inl h
     .exact .inr (.inl h)
    .exact .inr (.inr h)
   rcases this with h|h
   .cases h;exact⟨(p,n,m),by grind,J0 _⟩
   .obtain⟨v,e,hv⟩:=b.it q c h;by_cases z:a=c
    .subst z;exact⟨(p,n,m),by grind,KF (Ls (dX k e) hv)⟩
    .exact⟨v,by grind,hv⟩
  .rcases h with h|h
   .rcases (fl _).mp h with h|h
    .cases h;exact hs
    .exact b.ns q c (.inl h)
   .exact b.ns q c (.inr h)
  .rw[tg]at e;by_cases z:a=c
   .rw[IS z]at e;cases e;subst z;rcases hm hc with⟨v,e,hv⟩|h
    .have:=dX k e;lia
    .exact h
   .rw[IK z]at e;exact b.m0 c v e hc
 .rw[IK k];exact b
end Pz
namespace Pz
section
variable (RL:List Rule)(M U:List Arr)(pile:Int->Int->Int)
structure BG (S:PS) (rest:List (Int×Arr)):Prop where
 b:B RL M pile U S rest
 gt:∀ x∈S.aE.flat,S.last<x.1
 eq:∀ x∈rest,x.1=S.last
 mh:∀ a∈M,d_ S a 0
structure Ext (S T:PS) (rest:List (Int×Arr)) (k:Nat):Prop where
 bg:BG RL M U pile T rest
 mono:∀ a p,d_ S a p->d_ T a p
 se:T.settled=S.settled
 la:T.last=S.last
 len:T.aE.flat.length<=S.aE.flat.length+k
end
theorem lX (h:T.settled=S.settled):Sd T=Sd S:=by unfold Sd;rw[h]
theorem Ext.trans (x:Ext RL M U pile S T rest k)(y:Ext RL M U pile T V rest l):Ext RL M U pile S V rest (k+l):=⟨y.bg,fun a p h=>y.mono a p (x.mono a p h),y.se.trans x.se,y.la.trans x.la,by have:=x.len;have:=y.len;lia⟩
theorem BG.a_ (g:BG RL M U pile S rest)(hj:Just RL M (Sd S) a (p,n,m))(hu:a∈U)(hp:S.last<p):Ext RL M U pile S (a_ pile S a p n m) rest 1:=by
 obtain⟨e1,e2,e3⟩:=fE (pile:=pile) (S:=S) a p n m;have hb:=g.b.a_ hj hu (KF hp) (fun h=>by have:=g.eq _ h;dsimp only at this;lia) (fun h=>by have:=(g.b.sd _ _ h).1;lia) fun h=>.inl (g.mh a h);refine⟨⟨hb,fun x hx=>?_,fun x hx=>by rw[e3];exact g.eq x hx,fun b hb=>fD (g.mh b hb)⟩,fun b q h=>fD h,e1,e3,lW g.b.q.ok _ _ _ _⟩;rw[e3];rcases pR g.b.q.ok _ _ _ _ hx with h|rfl
 .exact g.gt x h
 .exact hp
theorem g_ {β:Type}(fa:β->Arr)(fp:β->Int)(fn fm:β->Option Int):∀(l:List β){S:PS},BG RL M U pile S rest->
 (∀ x∈l,Just RL M (Sd S) (fa x) (fp x,fn x,fm x)/\fa x∈U/\S.last<fp x)->
 Ext RL M U pile S (l.foldl (fun S x=>a_ pile S (fa x) (fp x) (fn x) (fm x)) S) rest l.length/\(l.foldl (fun S x=>a_ pile S (fa x) (fp x) (fn x) (fm x)) S).aH=S.aH/\
 ∀ x∈l,d_ (l.foldl (fun S x=>a_ pile S (fa x) (fp x) (fn x) (fm x)) S) (fa x) (fp x)
 | [],S,g,_=>⟨⟨g,fun _ _ h=>h,rfl,rfl,Im _⟩,rfl,fun _ h=>nomatch h⟩
 |x::l,S,g,h=>by
  obtain⟨j,u,lt⟩:=h x Iy;have e:=g.a_ j u lt;obtain⟨r,r1,r2⟩:=g_ fa fp fn fm l (S:=a_ pile S (fa x) (fp x) (fn x) (fm x)) e.bg fun y hy=>by rw[lX e.se,e.la];exact h y (Iw _ hy)
  rw[Kl,IM,Lu];refine⟨e.trans r,r1.trans (fE _ _ _ _).2.1,fun y hy=>?_⟩;rcases ID.mp hy with rfl|hy
  .exact r.mono _ _ (gD _ _ _ _)
  .exact r2 y hy
structure oX (RL:List Rule) (M U:List Arr) (rs:RS):Prop where
 kX:∀ r∈RL,r.2.2.2.length<=2
 to:∀{n r c x},(n,r)∈rs.get (c,x)->∃(j:Nat)(l:List Int),n=j/\RL[j]?=some r/\r.2.2.1=c/\r.2.2.2=x::l
 of:∀{j:Nat}{r:Rule}{x l},RL[j]?=some r->r.2.2.2=x::l->((j:Int),r)∈rs.get (r.2.2.1,x)
 u1:∀ a∈M,a∈U
 u2:∀ r∈RL,(r.1,r.2.1,r.2.2.1)∈U
 u3:∀ r∈RL,∀ s x t,(s,x,t)∈U->(r.1,r.2.1,t)∈U
def Gv (RL:List Rule)(S:PS):Prop:=∀(j:Nat)(r:Rule),RL[j]?=some r->match r.2.2.2 with
 | []=>d_ S (r.1,r.2.1,r.2.2.1) 1
 | [x]=>∀ t q,Sd S (r.2.2.1,x,t) q->d_ S (r.1,r.2.1,t) (q+1)
 | [x,y]=>∀ d t q1 q2,Sd S (r.2.2.1,x,d) q1->Sd S (d,y,t) q2->d_ S (r.1,r.2.1,t) (q1+q2+1)
 |_=>True
structure Lk (RL:List Rule) (S:PS):Prop where
 ok:S.aH.Ok
 to:∀{n r q d y},(n,r,q)∈S.aH.get (d,y)->∃(j:Nat)(x:Int),n=j/\RL[j]?=some r/\r.2.2.2=[x,y]/\Sd S (r.2.2.1,x,d) q
 of:∀{j:Nat}{r:Rule}{x y d q},RL[j]?=some r->r.2.2.2=[x,y]->Sd S (r.2.2.1,x,d) q->((j:Int),r,q)∈S.aH.get (d,y)
theorem zd (Hs:oX RL M U rs)(hau:a∈U)(p0:0<=p):∀(l:List (Int×Rule)){S:PS},BG RL M U pile S rest->S.aH.Ok->S.settled.Ok->S.last=p->Sd S a p->(∀ x∈l,x∈rs.get (a.1,a.2.1))->
 Ext RL M U pile S (l.foldl (cc pile a p) S) rest (l.length*S.settled.flat.length)/\(l.foldl (cc pile a p) S).aH.Ok/\(l.foldl (cc pile a p) S).aH.flat.length<=S.aH.flat.length+l.length/\
 (∀ k z,z∈(l.foldl (cc pile a p) S).aH.get k↔z∈S.aH.get k\/∃ x∈l,x.2.2.2.2.length=2/\k=(a.2.2,nth1 x.2.2.2.2)/\z=(x.1,x.2,p))/\
 (∀ x∈l,x.2.2.2.2.length=1->d_ (l.foldl (cc pile a p) S) (x.2.1,x.2.2.1,a.2.2) (p+1))/\
 ∀ x∈l,x.2.2.2.2.length=2->∀ t q,Sd S (a.2.2,nth1 x.2.2.2.2,t) q->d_ (l.foldl (cc pile a p) S) (x.2.1,x.2.2.1,t) (p+q+1)
 | [],S,g,ok,so,hl,ha,_=>⟨⟨g,fun _ _ h=>h,rfl,rfl,J3 _ _⟩,ok,by simp,(fun k z=>⟨.inl,fun h=>h.elim id fun⟨x,h,_⟩=>(IC h).elim⟩),(fun _ h=>(IC h).elim),fun _ h=>(IC h).elim⟩
 |x::l,S,g,ok,so,hl,ha,hin=>by
  obtain⟨n,r⟩:=x;obtain⟨j,ys,rfl,hj,hc,hp⟩:=Hs.to (hin _ Iy);have hr:r∈RL:=IH hj;have bH:=Hs.kX r hr;have n1:1<=S.settled.flat.length:=KY (iB _ ha);have one:Ext RL M U pile S (cc pile a p S ((j:Int),r)) rest S.settled.flat.length/\(cc pile a p S ((j:Int),r)).aH.Ok/\(cc pile a p S ((j:Int),r)).aH.flat.length<=S.aH.flat.length+1/\
   (∀ k z,z∈(cc pile a p S ((j:Int),r)).aH.get k↔z∈S.aH.get k\/(r.2.2.2.length=2/\k=(a.2.2,nth1 r.2.2.2)/\z=((j:Int),r,p)))/\
   (r.2.2.2.length=1->d_ (cc pile a p S ((j:Int),r)) (r.1,r.2.1,a.2.2) (p+1))/\
   (r.2.2.2.length=2->∀ t q,Sd S (a.2.2,nth1 r.2.2.2,t) q->d_ (cc pile a p S ((j:Int),r)) (r.1,r.2.1,t) (p+q+1)):=by
   unfold cc;by_cases h1:r.2.2.2.length=1
   .rw[IS (show((j:Int),r).2.2.2.2.length=1 from h1)];have hys:r.2.2.2=[a.2.1]:=by
     rw[hp]at h1 ⊢;cases ys with
     |nil=>rfl
     |cons _ _=>simp at h1
    have e:=g.a_ (a:=(r.1,r.2.1,a.2.2)) (p:=p+1) (n:=some (j:Int)) (m:=none) ⟨j,r,rfl,hj,rfl,rfl,by rw[hys];exact⟨rfl,p,by rw[hc];exact ha,rfl⟩⟩ (Hs.u3 r hr _ _ _ hau) (by lia);obtain⟨_,e2,_⟩:=fE (pile:=pile) (S:=S) (r.1,r.2.1,a.2.2) (p+1) (some (j:Int)) none;refine⟨⟨e.bg,e.mono,e.se,e.la,IV e.len (Lh n1 _)⟩,by rw[e2];exact ok,by rw[e2];lia,fun k z=>?_,fun _=>gD _ _ _ _,fun h=>by lia⟩;rw[e2];exact⟨.inl,fun h=>h.elim id fun h=>by lia⟩
   .rw[IK (show ¬ ((j:Int),r).2.2.2.2.length=1 from h1)];have h2:r.2.2.2.length=2:=by rw[hp]at h1 bH ⊢;simp only[IM]at h1 bH ⊢;lia
    obtain⟨y,hys⟩ : ∃ y,r.2.2.2=[a.2.1,y]:=by
     rw[hp]at h2 ⊢
     match ys,h2 with
     | [y],_=>exact⟨y,rfl⟩
    have hn:nth1 r.2.2.2=y:=by rw[hys];rfl
    have g1:BG RL M U pile (mL S (j:Int) r a.2.2 p) rest:=⟨⟨g.b.q,g.b.nd,g.b.nr,g.b.tk,g.b.tu,g.b.ju,g.b.ps,g.b.sd,g.b.sp,g.b.it,g.b.ns,g.b.m0⟩,g.gt,g.eq,g.mh⟩;obtain⟨e,e2,e3⟩:=g_ (fun x:Int×Int=>(r.1,r.2.1,x.1)) (fun x=>p+x.2+1) (fun _=>some (j:Int)) (fun _=>some a.2.2) (S.settled.get (a.2.2,nth1 r.2.2.2)) g1 fun x hx=>by
     have sx:Sd S (a.2.2,y,x.1) x.2:=by rw[hn]at hx;exact hx
     obtain⟨_,v,tv,hv⟩:=g.b.sd _ _ sx;have:=g.b.ps _ _ tv;refine⟨⟨j,r,rfl,hj,rfl,rfl,?_⟩,Hs.u3 r hr _ _ _ (g.b.tu _ _ tv),by show S.last<_;lia⟩;rw[hys];exact⟨a.2.2,p,x.2,rfl,by rw[hc];exact ha,sx,rfl⟩
    have lm:∀ k z,z∈(first pile S (j:Int) r a.2.2 p).aH.get k↔z∈S.aH.get k\/(r.2.2.2.length=2/\k=(a.2.2,nth1 r.2.2.2)/\z=((j:Int),r,p)):=fun k z=>by
     show z∈(List.foldl _ _ _:PS).aH.get k↔_;rw[e2];show z∈(S.aH.app _ _).get k↔_;rw[mK];by_cases hk:(a.2.2,nth1 r.2.2.2)=k
     .subst hk;rw[IS rfl,IR,IA];exact⟨fun h=>h.elim .inl fun h=>.inr ⟨h2,rfl,h⟩,fun h=>h.elim .inl fun h=>.inr h.2.2⟩
     .rw[IK hk];exact⟨.inl,fun h=>h.elim id fun h=>(hk h.2.1.symm).elim⟩
    have lk:(first pile S (j:Int) r a.2.2 p).aH=S.aH.app (a.2.2,nth1 r.2.2.2) ((j:Int),r,p):=e2;refine⟨⟨e.bg,fun b q h=>e.mono b q h,e.se,e.la,IV e.len (Lh (jL _ _) _)⟩,by rw[lk];exact ko ok _ _,by rw[lk,(dW ok.nk _ _).length_eq];exact Im _,lm,fun h=>by lia,fun _ t q h=>e3 (t,q) h⟩
  obtain⟨e,ok1,le1,lm1,hA,hB⟩:=one;obtain⟨r0,r1,r2,r3,r4,r5⟩:=zd Hs hau p0 l e.bg ok1 (by rw[e.se];exact so) (by rw[e.la];exact hl) (by rw[lX e.se];exact ha) fun y hy=>hin y (Iw _ hy);rw[Kl,IM];rw[e.se]at r0;refine⟨by rw[Nat.add_mul,Nat.one_mul,Lu];exact e.trans r0,r1,by lia,fun k z=>?_,fun x hx h=>?_,fun x hx h t q hq=>?_⟩
  .rw[r3,lm1];constructor
   .rintro ((h|h)|⟨x,hx,h⟩)
    .exact .inl h
    .exact .inr ⟨_,Iy,h⟩
    .exact .inr ⟨x,Iw _ hx,h⟩
   .rintro (h|⟨x,hx,h⟩)
    .exact .inl (.inl h)
    .rcases ID.mp hx with rfl|hx
     .exact .inl (.inr h)
     .exact .inr ⟨x,hx,h⟩
  .rcases ID.mp hx with rfl|hx
   .exact r0.mono _ _ (hA h)
   .exact r4 x hx h
  .rcases ID.mp hx with rfl|hx
   .exact r0.mono _ _ (hB h t q hq)
   .exact r5 x hx h t q (by rw[lX e.se];exact hq)
end Pz
namespace Pz
section
variable (RL:List Rule)(M U:List Arr)(pile:Int->Int->Int)(C:Nat)
structure GL (S:PS) (k:Nat):Prop where
 so:S.settled.Ok
 G:∃ G:List Arr,G.Nodup/\G.length=S.settled.flat.length/\∀ a∈G,∃ q,Sd S a q
 ln:S.aH.flat.length<=RL.length*S.settled.flat.length
 pn:S.aE.flat.length+k<=C+RL.length*(S.settled.flat.length*S.settled.flat.length)
structure I (S:PS) (rest:List (Int×Arr)):Prop where
 bg:BG RL M U pile S rest
 zD:Gv RL S
 lk:Lk RL S
 cnt:GL RL C S rest.length
end
theorem sd_note:Sd (note S a p) c q↔Sd S c q\/(a=c/\p=q):=by
 grind [Sd,note,mK]
theorem I.settle (Hs:oX RL M U rs)(hrl:∀ k,(rs.get k).length<=RL.length)(i:I RL M U pile C S ((p,a)::rest))(hv:bw S.told a=some v)(hp:v.1=p) :
 I RL M U pile C (settle pile rs S a p) rest/\(settle pile rs S a p).settled.flat.length=S.settled.flat.length+1:=by
 have b:=i.bg.b;have pl:p=S.last:=i.bg.eq _ Iy;have p0:0<=p:=by rw[pl];exact b.q.l0
 have hau:a∈U:=b.tu a v hv;have nS:∀ q,¬ Sd S a q:=fun q h=>by obtain⟨_,w,e,ew⟩:=b.sd a q h;rw[hv]at e;cases e;rw[<- ew,hp]at h;exact b.ns p a (.inr Iy) h
 have nr:=Jq.mp b.nr;have smono:∀ c q,Sd S c q->Sd (note S a p) c q:=fun c q h=>sd_note.mpr (.inl h);have hS1:Sd (note S a p) a p:=sd_note.mpr (.inr ⟨rfl,rfl⟩);have g1:BG RL M U pile (note S a p) rest:=by
  refine⟨⟨b.q,b.nd,nr.2,b.tk,b.tu,fun c w e=>(b.ju c w e).mono RL M smono,b.ps,fun c q h=>?_,fun c w e=>?_,fun q c h=>?_,fun q c h k=>?_,b.m0⟩,i.bg.gt,fun x hx=>i.bg.eq x (Iw _ hx),i.bg.mh⟩
  .rcases sd_note.mp h with h|⟨rfl,rfl⟩
   .exact b.sd c q h
   .exact⟨Int.le_of_eq pl,v,hv,hp⟩
  .rcases b.sp c w e with h|h|h
   .exact .inl (smono _ _ h)
   .exact .inr (.inl h)
   .rcases ID.mp h with h|h
    .cases h;exact .inl hS1
    .exact .inr (.inr h)
  .exact b.it q c (h.elim .inl fun h=>.inr (Iw _ h))
  .rcases sd_note.mp k with k|⟨rfl,rfl⟩
   .exact b.ns q c (h.elim .inl fun h=>.inr (Iw _ h)) k
   .rcases h with h|h
    .have:=i.bg.gt _ h;dsimp only at this;lia
    .exact nr.1 h
 have so1:(note S a p).settled.Ok:=ko i.cnt.so _ _;have n1:(note S a p).settled.flat.length=S.settled.flat.length+1:=(dW i.cnt.so.nk _ _).length_eq;obtain⟨e1,l1,h1⟩:=g_ (fun x:Int×Rule×Int=>(x.2.1.1,x.2.1.2.1,a.2.2)) (fun x=>x.2.2+p+1) (fun x=>some x.1) (fun _=>some a.1) (S.aH.get (a.1,a.2.1)) g1 fun x hx=>by obtain⟨n,r,q⟩:=x;obtain⟨j,y,rfl,hj,hy,hq⟩:=i.lk.to hx;obtain⟨_,w,tw,hw⟩:=b.sd _ _ hq;have:=b.ps _ _ tw;refine⟨⟨j,r,rfl,hj,rfl,rfl,?_⟩,Hs.u3 r (IH hj) _ _ _ hau,by show S.last<q+p+1;lia⟩;show JustP _ r.2.2.1 r.2.2.2 _ _ _;rw[hy];exact⟨a.1,q,p,rfl,smono _ _ hq,hS1,rfl⟩
 generalize hS2:(S.aH.get (a.1,a.2.1)).foldl (fun S x=>a_ pile S (x.2.1.1,x.2.1.2.1,a.2.2) (x.2.2+p+1) (some x.1) (some a.1)) (note S a p)=S2 at e1 l1 h1;have s2:S2.settled=(note S a p).settled:=e1.se;have hs2:Sd S2=Sd (note S a p):=lX s2;have l2:S2.aH=S.aH:=l1;obtain⟨e2,k1,k2,k3,k4,k5⟩:=zd (rs:=rs) Hs hau p0 (rs.get (a.1,a.2.1)) e1.bg (by rw[l2];exact i.lk.ok) (by grind) (by rw[e1.la,pl];rfl) (by rw[hs2];exact hS1) fun x hx=>hx;have eT:(rs.get (a.1,a.2.1)).foldl (cc pile a p) S2=Pz.settle pile rs S a p:=by rw[<- hS2];rfl
 rw[eT]at e2 k1 k2 k3 k4 k5;generalize Pz.settle pile rs S a p=T at e2 k1 k2 k3 k4 k5;have sT:T.settled=(note S a p).settled:=e2.se.trans s2;have hsT:∀ c q,Sd T c q↔Sd S c q\/(a=c/\p=q):=fun c q=>by rw[lX sT];exact sd_note
 have hm:∀{j:Nat}{r:Rule}{x d l},RL[j]?=some r->r.2.2.2=x::l->a=(r.2.2.1,x,d)->((j:Int),r)∈rs.get (a.1,a.2.1):=fun hj hp h=>by rw[h];exact Hs.of hj hp
 have mono:∀ c q,d_ S c q->d_ T c q:=fun c q h=>e2.mono _ _ (e1.mono _ _ h);refine⟨⟨e2.bg,?_,⟨k1,?_,?_⟩,⟨by grind,?_,?_,?_⟩⟩,by grind⟩
 .intro j r hj;have hc:=i.zD j r hj;cases hput:r.2.2.2 with
  |nil=>rw[hput]at hc;exact mono _ _ hc
  |cons x ys=>
   cases ys with
   |nil=>
    rw[hput]at hc;intro t q hq;rcases (hsT _ _).mp hq with h|⟨h,rfl⟩
    .exact mono _ _ (hc t q h)
    .obtain rfl:a.2.2=t:=by rw[h]
     exact k4 ((j:Int),r) (hm hj hput h) (by rw[hput];rfl)
   |cons y zs=>
    cases zs with
    |cons _ _=>trivial
    |nil=>
     rw[hput]at hc;intro d t q1 q2 hq1 hq2;have ny:nth1 r.2.2.2=y:=by rw[hput];rfl
     rcases (hsT _ _).mp hq1 with z1|⟨z1,rfl⟩
     .rcases (hsT _ _).mp hq2 with z2|⟨z2,rfl⟩
      .exact mono _ _ (hc d t q1 q2 z1 z2)
      .obtain rfl:a.2.2=t:=by rw[z2]
       exact e2.mono _ _ (h1 ((j:Int),r,q1) (by rw[z2];exact i.lk.of hj hput z1))
     .obtain rfl:a.2.2=d:=by rw[z1]
      refine k5 ((j:Int),r) (hm hj hput z1) (by rw[hput];rfl) t q2 ?_;rw[ny,hs2,<- lX sT];exact hq2
 .intro n r q d y h;rcases (k3 _ _).mp h with h|⟨x,hx,hl,hk,hz⟩
  .rw[l2]at h;obtain⟨j,x,e1,e2,e3,e4⟩:=i.lk.to h;exact⟨j,x,e1,e2,e3,(hsT _ _).mpr (.inl e4)⟩
  .obtain⟨n',r'⟩:=x;obtain⟨rfl,hz⟩:=Prod.mk.inj hz;obtain⟨rfl,hq⟩:=Prod.mk.inj hz;obtain⟨j,l,rfl,hj,hc,hput⟩:=Hs.to hx;obtain⟨rfl,hy⟩:=Prod.mk.inj hk;have hl:r.2.2.2.length=2:=hl;have hy:y=nth1 r.2.2.2:=hy;rw[hput]at hl hy;refine⟨j,a.2.1,rfl,hj,?_,(hsT _ _).mpr (.inr ⟨by rw[hc],hq.symm⟩)⟩;rcases l with _|⟨z,_|_⟩
   .cases hl
   .rw[hput,hy];rfl
   .cases hl
 .intro j r x y d q hj hput hq;rw[k3];rcases (hsT _ _).mp hq with h|⟨h,rfl⟩
  .rw[l2];exact .inl (i.lk.of hj hput h)
  .exact .inr ⟨((j:Int),r),hm hj hput h,by rw[hput];rfl,by rw[hput,h];rfl,rfl⟩
 .obtain⟨G,g1,g2,g3⟩:=i.cnt.G;refine⟨a::G,Jq.mpr ⟨fun h=>?_,g1⟩,by grind,fun c hc=>?_⟩
  .obtain⟨q,hq⟩:=g3 a h;exact nS q hq
  .rcases ID.mp hc with rfl|hc
   .exact⟨p,(hsT _ _).mpr (.inr ⟨rfl,rfl⟩)⟩
   .obtain⟨q,hq⟩:=g3 c hc;exact⟨q,(hsT _ _).mpr (.inl hq)⟩
 .have:=i.cnt.ln;have:=hrl (a.1,a.2.1);rw[sT,n1,LG,Nat.mul_one];rw[l2]at k2;lia
 .have c1:=i.cnt.pn;have c2:=e1.len;have c3:=e2.len;have c4:=i.cnt.ln;have c5:=jL S.aH (a.1,a.2.1);have c6:(rs.get (a.1,a.2.1)).length*S2.settled.flat.length<=RL.length*(S.settled.flat.length+1):=by rw[s2,n1];exact Nat.mul_le_mul_right _ (hrl _)
  rw[IM]at c1;have c7:(note S a p).aE.flat.length=S.aE.flat.length:=rfl;rw[sT,n1];have c8:RL.length*((S.settled.flat.length+1)*(S.settled.flat.length+1))=RL.length*(S.settled.flat.length*S.settled.flat.length)+RL.length*S.settled.flat.length+RL.length*(S.settled.flat.length+1):=by rw[Nat.add_mul,Nat.one_mul,LG RL.length,LG S.settled.flat.length,Nat.mul_one,LG RL.length (S.settled.flat.length*S.settled.flat.length)]
  rw[c8];lia
theorem I.skip (i:I RL M U pile C S (x::rest))(h:¬ Ap S x=true):I RL M U pile C S rest:=by
 have b:=i.bg.b;refine⟨⟨⟨b.q,b.nd,(Jq.mp b.nr).2,b.tk,b.tu,b.ju,b.ps,b.sd,fun c w e=>?_,fun q c h=>b.it q c (h.elim .inl fun h=>.inr (Iw _ h)),fun q c h=>b.ns q c (h.elim .inl fun h=>.inr (Iw _ h)),b.m0⟩,i.bg.gt,fun y hy=>i.bg.eq y (Iw _ hy),i.bg.mh⟩,i.zD,i.lk,i.cnt.so,i.cnt.G,i.cnt.ln,by have:=i.cnt.pn;rw[IM]at this;lia⟩;rcases b.sp c w e with k|k|k
 .exact .inl k
 .exact .inr (.inl k)
 .grind [Ap]
theorem I.batch (Hs:oX RL M U rs)(hrl:∀ k,(rs.get k).length<=RL.length):∀(l:List (Int×Arr)){S:PS},I RL M U pile C S l->
 I RL M U pile C (batch pile rs S l) []/\S.settled.flat.length<=(batch pile rs S l).settled.flat.length/\((batch pile rs S l).settled.flat.length=S.settled.flat.length->batch pile rs S l=S)
 | [],S,i=>⟨i,Im _,fun _=>rfl⟩
 |x::l,S,i=>by
  show I RL M U pile C (Pz.batch pile rs (turn pile rs S x) l) []/\_<=(Pz.batch pile rs (turn pile rs S x) l).settled.flat.length/\((Pz.batch pile rs (turn pile rs S x) l).settled.flat.length=_->Pz.batch pile rs (turn pile rs S x) l=S);unfold turn;by_cases h:Ap S x=true
  .rw[IS h];obtain⟨p,a⟩:=x;unfold Ap at h;cases e:bw S.told a with
   |none=>rw[show((p,a):Int×Arr).2=a from rfl,e]at h;cases h
   |some v=>rw[show((p,a):Int×Arr).2=a from rfl,e]at h;obtain⟨j,n⟩:=i.settle Hs hrl e (Ja h);obtain⟨r1,r2,r3⟩:=I.batch Hs hrl l j;exact⟨r1,by grind,fun q=>by grind⟩
  .rw[IK h];exact I.batch Hs hrl l (i.skip h)
structure Top (RL:List Rule) (M U:List Arr) (pile:Int->Int->Int) (C:Nat) (S:PS):Prop where
 b:B RL M pile U S []
 mh:∀ a∈M,d_ S a 0
 zD:Gv RL S
 lk:Lk RL S
 cnt:GL RL C S 0
theorem I.top (i:I RL M U pile C S []):Top RL M U pile C S:=⟨i.bg.b,i.bg.mh,i.zD,i.lk,i.cnt⟩
theorem Top.take (P:nE pile)(t:Top RL M U pile C S)(hne:S.aE≠[]):I RL M U pile C (take pile S) (cC pile S.aE):=by
 have b:=t.b;have k:=sk P b.q hne;have mem:∀ x,x∈S.aE.flat↔x∈(left pile S.aE).flat\/x∈cC pile S.aE:=fun x=>by rw[k.pm.mem_iff,IR];exact Or.comm
 obtain⟨n1,n2,_⟩:=Jv.mp (k.pm.nodup_iff.mp b.nd);have no:∀{q c},(q,c)∉([]:List (Int×Arr)):=fun h=>nomatch h;refine⟨⟨⟨k.ok,n2,n1,b.tk,b.tu,b.ju,b.ps,fun a p h=>⟨JX (b.sd a p h).1 k.ge,(b.sd a p h).2⟩,fun a v e=>?_,fun p a h=>b.it p a (.inl ((mem _).mpr h)),fun p a h=>b.ns p a (.inl ((mem _).mpr h)),b.m0⟩,k.lt,k.eq,t.mh⟩,t.zD,⟨t.lk.ok,t.lk.to,t.lk.of⟩,t.cnt.so,t.cnt.G,t.cnt.ln,?_⟩
 .rcases b.sp a v e with h|h|h
  .exact .inl h
  .exact .inr ((mem _).mp h)
  .exact(no h).elim
 .have h1:=k.pm.length_eq;rw[IF]at h1;have h2:=t.cnt.pn;show(left pile S.aE).flat.length+(cC pile S.aE).length<=_;show _<=C+RL.length*(S.settled.flat.length*S.settled.flat.length);lia
theorem d4 {α:Type}[DecidableEq α]:∀(l m:List α),l.Nodup->(∀ x∈l,x∈m)->l.length<=m.length
 | [],m,_,_=>IL _
 |x::l,m,nd,h=>by
  have hx:=h x Iy;have nd':=Jq.mp nd;have:=d4 l (m.erase x) nd'.2 fun y hy=>(List.mem_erase_of_ne (fun(e:y=x)=>nd'.1 (by grind))).mpr (h y (Iw _ hy))
  grind
theorem Top.kX (t:Top RL M U pile C S):S.settled.flat.length<=U.length/\S.told.length<=U.length:=by
 obtain⟨G,g1,g2,g3⟩:=t.cnt.G;constructor
 .rw[<- g2];exact d4 G U g1 fun a ha=>by obtain⟨q,hq⟩:=g3 a ha;obtain⟨_,v,e,_⟩:=t.b.sd a q hq;exact t.b.tu a v e
 .have:=d4 (S.told.map (·.1)) U t.b.tk fun a ha=>by obtain⟨x,hx,rfl⟩:=IT.mp ha;exact t.b.tu x.1 x.2 (om t.b.tk hx)
  rwa [Iq]at this
theorem Top.fit (t:Top RL M U pile C S)(hC:C+RL.length*(U.length*U.length)<L)(hR:RL.length*U.length<L)(hU:U.length<L):gY S:=by obtain⟨f1,f2⟩:=t.kX;have a1:=fC t.b.q.ok;have a2:=fC t.cnt.so;have a3:=fC t.lk.ok;have b1:=t.cnt.pn;have b2:RL.length*(S.settled.flat.length*S.settled.flat.length)<=RL.length*(U.length*U.length):=Lm _ (Lw f1 f1);have b3:=t.cnt.ln;have b4:RL.length*S.settled.flat.length<=RL.length*U.length:=Lm _ f1;constructor<;>lia
theorem Top.loop (P:nE pile)(Hs:oX RL M U rs)(hrl:∀ k,(rs.get k).length<=RL.length)(hC:C+RL.length*(U.length*U.length)<L)(hR:RL.length*U.length<L)(hU:U.length<L) :
 ∀(a b:Nat)(S:PS),Top RL M U pile C S->U.length-S.settled.flat.length<=a->S.aE.flat.length<=b->∃ n T,Loop pile rs n S T/\Top RL M U pile C T/\T.aE=[]:=by
 have step:∀ S,Top RL M U pile C S->S.aE≠[]->let S2:=batch pile rs (Pz.take pile S) (cC pile S.aE);Top RL M U pile C S2/\(∀ n T,Loop pile rs n S2 T->Loop pile rs (n+1) S T)/\
  (S.settled.flat.length<S2.settled.flat.length\/S2.settled.flat.length=S.settled.flat.length/\S2.aE.flat.length<S.aE.flat.length):=by
  intro S t hne;obtain⟨i,h1,h2⟩:=I.batch Hs hrl _ (t.take P hne);have t2:=i.top;refine⟨t2,fun n T l=>.step hne t.b.q (fun x hx=>?_) (t.fit hC hR hU) (t2.fit hC hR hU) l,?_⟩
  .obtain⟨v,e,_⟩:=t.b.it x.1 x.2 (.inl ((sk P t.b.q hne).pm.mem_iff.mpr (IR.mpr (.inl hx))));rw[e];simp
  have k:=sk P t.b.q hne;by_cases e:(batch pile rs (Pz.take pile S) (cC pile S.aE)).settled.flat.length=S.settled.flat.length
  .refine .inr ⟨e,?_⟩;rw[h2 e];show(left pile S.aE).flat.length<_;rw[k.pm.length_eq,IF];have:=Ll.mpr k.ne;lia
  .have h1:S.settled.flat.length<=(batch pile rs (Pz.take pile S) (cC pile S.aE)).settled.flat.length:=h1;exact .inl (by lia)
 intro a;induction a with
 |zero=>
  intro b;induction b with
  |zero=>intro S t _ hb;have:S.aE=[]:=Jr.mp (by have:=fC t.b.q.ok;lia);exact⟨0,S,.done this,t,this⟩
  |succ b ih=>
   intro S t ha hb;by_cases hne:S.aE=[]
   .exact⟨0,S,.done hne,t,hne⟩
   obtain⟨t2,hl,hd⟩:=step S t hne;have:=t2.kX.1;obtain⟨n,T,l,r⟩:=ih _ t2 (by rcases hd with h|h<;>lia) (by rcases hd with h|h<;>lia);exact⟨_,T,hl _ _ l,r⟩
 |succ a iha=>
  intro b;induction b with
  |zero=>intro S t _ hb;have:S.aE=[]:=Jr.mp (by have:=fC t.b.q.ok;lia);exact⟨0,S,.done this,t,this⟩
  |succ b ih=>
   intro S t ha hb;by_cases hne:S.aE=[]
   .exact⟨0,S,.done hne,t,hne⟩
   obtain⟨t2,hl,hd⟩:=step S t hne;have:=t2.kX.1;rcases hd with h|h
   .obtain⟨n,T,l,r⟩:=iha _ _ t2 (by lia) (Im _);exact⟨_,T,hl _ _ l,r⟩
   .obtain⟨n,T,l,r⟩:=ih _ t2 (by lia) (by lia);exact⟨_,T,hl _ _ l,r⟩
end Pz
namespace Pz
noncomputable def en:List Rule->Nat->List (Int×Rule)
 | [],_=>[]
 |r::l,k=>((k:Int),r)::en l (k+1)
theorem en_mem:∀{l:List Rule}{k:Nat}{n:Int}{r:Rule},(n,r)∈en l k↔∃ j:Nat,n=((k+j:Nat):Int)/\l[j]?=some r
 | [],k,n,r=>⟨fun h=>(IC h).elim,fun⟨j,_,h⟩=>by simp at h⟩
 |x::l,k,n,r=>by
  unfold en;rw[ID,en_mem];constructor
  .rintro (h|⟨j,rfl,h⟩)
   .obtain⟨rfl,rfl⟩:=Prod.mk.inj h;exact⟨0,rfl,rfl⟩
   .exact⟨j+1,by lia,by simpa using h⟩
  .rintro⟨j,rfl,h⟩;cases j with
   |zero=>left;simp at h;subst h;rfl
   |succ j=>exact .inr ⟨j,by lia,by simpa using h⟩
theorem kr:∀(l:List Rule)(k:Nat),(en l k).length=l.length:=by intro l;induction l<;>grind [en]
def d5 (d:RS)(x:Int×Rule):RS:=if x.2.2.2.2.length>0 then d.app (x.2.2.2.1,x.2.2.2.2[0]?.getD 0) x else d
def bB (RL:List Rule):RS:=(en RL 0).foldl d5 []
theorem ss (d:RS)(x:Int×Rule)(k:Int×Int)(z:Int×Rule):z∈(d5 d x).get k↔z∈d.get k\/(z=x/\∃ y l,x.2.2.2.2=y::l/\k=(x.2.2.2.1,y)):=by
 unfold d5;cases h:x.2.2.2.2 with
 |nil=>grind
 |cons y l=>
  rw[IS (by simp),mK]
  grind
theorem mM:∀(l:List (Int×Rule))(d:RS)(k:Int×Int)(z:Int×Rule),z∈(l.foldl d5 d).get k↔z∈d.get k\/(z∈l/\∃ y l',z.2.2.2.2=y::l'/\k=(z.2.2.2.1,y))
 | [],d,k,z=>⟨.inl,fun q=>q.elim id fun q=>(IC q.1).elim⟩
 |x::l,d,k,z=>by
  rw[Kl,mM l,ss,ID];constructor
  .rintro ((h|⟨rfl,h⟩)|⟨h1,h2⟩)
   .exact .inl h
   .exact .inr ⟨.inl rfl,h⟩
   .exact .inr ⟨.inr h1,h2⟩
  .rintro (h|⟨rfl|h1,h2⟩)
   .exact .inl (.inl h)
   .exact .inl (.inr ⟨rfl,h2⟩)
   .exact .inr ⟨h1,h2⟩
theorem pS:∀(l:List (Int×Rule))(d:RS),d.Ok->(l.foldl d5 d).Ok/\(l.foldl d5 d).flat.length<=d.flat.length+l.length
 | [],d,h=>⟨h,Im _⟩
 |x::l,d,h=>by
  rw[Kl,IM];have:(d5 d x).Ok/\(d5 d x).flat.length<=d.flat.length+1:=by
   unfold d5;split
   .exact⟨ko h _ _,Lq (dW h.nk _ _).length_eq⟩
   .exact⟨h,by lia⟩
  obtain⟨a,b⟩:=pS l _ this.1;exact⟨a,by lia⟩
theorem ow {κ α:Type}:MD.Ok (κ:=κ) (α:=α) []:=⟨Jh,fun _ h=>(IC h).elim⟩
theorem Aq (RL:List Rule):(bB RL).Ok/\(bB RL).flat.length<=RL.length:=by
 grind [bB,en,MD.flat,pS,ow,kr]
noncomputable def S0:PS:=⟨[],0,[],[],[]⟩
variable (pile:Int->Int->Int)
def fT (S:PS)(a:Arr):PS:=a_ pile S a 0 none none
def dz (S:PS)(x:Int×Rule):PS:=if x.2.2.2.2.length=0 then a_ pile S (x.2.1,x.2.2.1,x.2.2.2.1) 1 (some x.1) none else S
def gi (RL:List Rule)(M:List Arr):PS:=(en RL 0).foldl (dz pile) (M.foldl (fT pile) S0)
variable {pile}
structure tT (RL:List Rule) (M U:List Arr) (pile:Int->Int->Int) (S:PS) (k:Nat):Prop where
 b:B RL M pile U S []
 l0:S.last=0
 s0:S.settled=[]
 k0:S.aH=[]
 len:S.aE.flat.length<=k
theorem tT.no (h:tT RL M U pile S k)(a:Arr)(q:Int):¬ Sd S a q:=by unfold Sd;rw[h.s0];exact fun h=>(IC h).elim
theorem tT.a_ (h:tT RL M U pile S k)(hj:Just RL M (Sd S) a (p,n,m))(hu:a∈U)(hp:0<=p)(hm:a∈M->d_ S a 0\/(p,n,m)=(0,none,none)):tT RL M U pile (a_ pile S a p n m) (k+1):=by obtain⟨e1,e2,e3⟩:=fE (pile:=pile) (S:=S) a p n m;exact⟨h.b.a_ hj hu (by rw[h.l0];exact hp) (fun h=>(IC h).elim) (h.no _ _) hm,by rw[e3];exact h.l0,by rw[e1];exact h.s0,by rw[e2];exact h.k0,IV (lW h.b.q.ok _ _ _ _) (Nat.add_le_add_right h.len 1)⟩
theorem E4:tT RL M U pile S0 0:=by have no:∀{α:Type}{x:α},x∉([]:List α):=fun h=>(IC h).elim;exact⟨⟨⟨ow,J0 _,fun _ h=>(no h).elim⟩,Jh,Jh,Jh,(fun _ _ h=>nomatch h),(fun _ _ h=>nomatch h),(fun _ _ h=>nomatch h),(fun _ _ h=>(no h).elim),(fun _ _ h=>nomatch h),(fun _ _ h=>h.elim (fun h=>(no h).elim) fun h=>(no h).elim),(fun _ _ h=>h.elim (fun h=>(no h).elim) fun h=>(no h).elim),(fun _ _ h=>nomatch h)⟩,rfl,rfl,rfl,Im _⟩
theorem Cr:∀(l:List Arr){S:PS}{k:Nat},tT RL M U pile S k->(∀ a∈l,a∈M/\a∈U)->tT RL M U pile (l.foldl (fT pile) S) (k+l.length)/\(∀ a p,d_ S a p->d_ (l.foldl (fT pile) S) a p)/\∀ a∈l,d_ (l.foldl (fT pile) S) a 0
 | [],S,k,h,_=>⟨h,fun _ _ h=>h,fun _ h=>(IC h).elim⟩
 |a::l,S,k,h,hl=>by
  obtain⟨h1,h2⟩:=hl a Iy;have e:=h.a_ (a:=a) (p:=0) (n:=none) (m:=none) ⟨rfl,rfl,h1⟩ h2 (J0 _) fun _=>.inr rfl;obtain⟨r1,r2,r3⟩:=Cr l e fun b hb=>hl b (Iw _ hb);rw[Kl,IM,Lu l.length,<- Nat.add_assoc];refine⟨r1,fun b p h=>r2 b p (fD h),fun b hb=>?_⟩;rcases ID.mp hb with rfl|hb
  .exact r2 _ _ (gD _ _ _ _)
  .exact r3 b hb
theorem Cs (u2:∀ r∈RL,(r.1,r.2.1,r.2.2.1)∈U):∀(l:List (Int×Rule)){S:PS}{k:Nat},tT RL M U pile S k->(∀ a∈M,d_ S a 0)->(∀ x∈l,∃ j:Nat,x.1=j/\RL[j]?=some x.2)->
 tT RL M U pile (l.foldl (dz pile) S) (k+l.length)/\(∀ a p,d_ S a p->d_ (l.foldl (dz pile) S) a p)/\∀ x∈l,x.2.2.2.2=[]->d_ (l.foldl (dz pile) S) (x.2.1,x.2.2.1,x.2.2.2.1) 1
 | [],S,k,h,_,_=>⟨h,fun _ _ h=>h,fun _ h=>(IC h).elim⟩
 |x::l,S,k,h,hm,hl=>by
  obtain⟨j,e1,e2⟩:=hl x Iy;have one:tT RL M U pile (dz pile S x) (k+1)/\(∀ a p,d_ S a p->d_ (dz pile S x) a p)/\(x.2.2.2.2=[]->d_ (dz pile S x) (x.2.1,x.2.2.1,x.2.2.2.1) 1):=by
   unfold dz;by_cases h0:x.2.2.2.2.length=0
   .rw[IS h0];have e:=h.a_ (a:=(x.2.1,x.2.2.1,x.2.2.2.1)) (p:=1) (n:=some x.1) (m:=none) ⟨j,x.2,e1,e2,rfl,rfl,by rw[Jr.mp h0];exact⟨rfl,rfl,rfl⟩⟩ (u2 _ (IH e2)) (by decide) fun h=>.inl (hm _ h);exact⟨e,fun b p h=>fD h,fun _=>gD _ _ _ _⟩
   .rw[IK h0];exact⟨⟨h.b,h.l0,h.s0,h.k0,Nat.le_succ_of_le h.len⟩,fun _ _ h=>h,fun e=>(h0 (by rw[e];rfl)).elim⟩
  obtain⟨o1,o2,o3⟩:=one;obtain⟨r1,r2,r3⟩:=Cs u2 l o1 (fun a ha=>o2 a 0 (hm a ha)) fun b hb=>hl b (Iw _ hb);rw[Kl,IM,Lu l.length,<- Nat.add_assoc];refine⟨r1,fun b p h=>r2 b p (o2 b p h),fun b hb e=>?_⟩;rcases ID.mp hb with rfl|hb
  .exact r2 _ _ (o3 e)
  .exact r3 b hb e
structure Set (RL:List Rule) (M U:List Arr):Prop where
 kX:∀ r∈RL,r.2.2.2.length<=2
 u1:∀ a∈M,a∈U
 u2:∀ r∈RL,(r.1,r.2.1,r.2.2.1)∈U
 u3:∀ r∈RL,∀ s x t,(s,x,t)∈U->(r.1,r.2.1,t)∈U
 big:M.length+RL.length+RL.length*(U.length*U.length)<L
 D_:RL.length*U.length<L
 Ed:U.length<L
theorem Set.D3 (h:Set RL M U):oX RL M U (bB RL):=by
 refine⟨h.kX,fun{n r c x} q=>?_,fun{j r x l} e1 e2=>?_,h.u1,h.u2,h.u3⟩
 .rcases (mM _ _ _ _).mp q with q|⟨q,y,l,e,k⟩
  .exact(IC q).elim
  .obtain⟨j,e1,e2⟩:=en_mem.mp q
   grind
 .exact(mM _ _ _ _).mpr (.inr ⟨en_mem.mpr ⟨j,by grind,e1⟩,x,l,e2,rfl⟩)
theorem su (h:Set RL M U):Top RL M U pile (M.length+RL.length) (gi pile RL M):=by
 obtain⟨a1,a2,a3⟩:=Cr (RL:=RL) (M:=M) (U:=U) (pile:=pile) M E4 fun a ha=>⟨ha,h.u1 a ha⟩;obtain⟨b1,b2,b3⟩:=Cs h.u2 (en RL 0) a1 a3 fun x hx=>by obtain⟨j,e1,e2⟩:=en_mem.mp hx;exact⟨j,by grind,e2⟩
 have b1:tT RL M U pile (gi pile RL M) _:=b1;refine⟨b1.b,fun a ha=>b2 a 0 (a3 a ha),fun j r hj=>?_,⟨by rw[b1.k0];exact ow,fun{n r q d y} h=>by rw[b1.k0]at h;exact(IC h).elim,fun _ _ h=>(b1.no _ _ h).elim⟩,⟨by rw[b1.s0];exact ow,⟨[],Jh,by rw[b1.s0];rfl,fun _ h=>(IC h).elim⟩,by rw[b1.k0];exact IL _,?_⟩⟩
 .cases hp:r.2.2.2 with
  |nil=>exact b3 ((j:Int),r) (en_mem.mpr ⟨j,by grind,hj⟩) hp
  |cons x l=>
   match l with
   | []=>exact fun t q h=>(b1.no _ _ h).elim
   | [y]=>exact fun d t q1 q2 h=>(b1.no _ _ h).elim
   |_::_::_=>trivial
 .have:=b1.len;rw[kr]at this;lia
def At (t:TD)(a:Arr)(q:Int):Prop:=∃ w,bw t a=some w/\w.1=q
def Ep (t:TD)(a:Arr)(q:Int):Prop:=∃ w,bw t a=some w/\w.1<=q
structure Good (RL:List Rule) (M U:List Arr) (t:TD):Prop where
 nd:(t.map (·.1)).Nodup
 u:∀ a v,bw t a=some v->a∈U
 ju:∀ a v,bw t a=some v->Just RL M (At t) a v
 ps:∀ a v,bw t a=some v->0<=v.1
 m0:∀ a∈M,bw t a=some (0,none,none)
 zD:∀(j:Nat)(r:Rule),RL[j]?=some r->match r.2.2.2 with
  | []=>Ep t (r.1,r.2.1,r.2.2.1) 1
  | [x]=>∀ d q,At t (r.2.2.1,x,d) q->Ep t (r.1,r.2.1,d) (q+1)
  | [x,y]=>∀ d e q1 q2,At t (r.2.2.1,x,d) q1->At t (d,y,e) q2->Ep t (r.1,r.2.1,e) (q1+q2+1)
  |_=>True
theorem Top.good (h:Top RL M U pile C S)(e:S.aE=[]):Good RL M U S.told:=by
 have hs:∀ a q,Sd S a q↔At S.told a q:=fun a q=>by
  constructor
  .intro k;exact(h.b.sd a q k).2
  .rintro⟨w,k,rfl⟩;rcases h.b.sp a w k with k|k|k
   .exact k
   .rw[e]at k;exact(IC k).elim
   .exact(IC k).elim
 refine⟨h.b.tk,h.b.tu,fun a v k=>(h.b.ju a v k).mono RL M fun a q=>(hs a q).mp,h.b.ps,fun a ha=>?_,fun j r hj=>?_⟩
 .obtain⟨v,k,_⟩:=h.mh a ha;rw[k,h.b.m0 a v k ha]
 .have hc:=h.zD j r hj;cases hp:r.2.2.2 with
  |nil=>rw[hp]at hc;exact hc
  |cons x l=>
   rw[hp]at hc
   match l with
   | []=>exact fun t q k=>hc t q ((hs _ _).mpr k)
   | [y]=>exact fun d t q1 q2 k1 k2=>hc d t q1 q2 ((hs _ _).mpr k1) ((hs _ _).mpr k2)
   |_::_::_=>trivial
theorem Set.run (P:nE pile)(h:Set RL M U):gY (gi pile RL M)/\∃ n T,Loop pile (bB RL) n (gi pile RL M) T/\Good RL M U T.told:=by have t:=su (pile:=pile) h;obtain⟨n,T,l,t2,e⟩:=t.loop P h.D3 (fun k=>IV (jL _ k) (Aq RL).2) h.big h.D_ h.Ed _ _ _ (Im _) (Im _);exact⟨t.fit h.big h.D_ h.Ed,n,T,l,t2.good e⟩
end Pz
namespace Pz
theorem xL (x y k:Nat):(x ||| y)-(x &&& y)<2 ^ k↔x / 2 ^ k=y / 2 ^ k:=by
 have hO:(x ||| y) / 2 ^ k=x / 2 ^ k ||| y / 2 ^ k:=by rw[<- JF,<- JF,<- JF,Nat.shiftRight_or_distrib]
 have hA:(x &&& y) / 2 ^ k=x / 2 ^ k &&& y / 2 ^ k:=by rw[<- JF,<- JF,<- JF,Nat.shiftRight_and_distrib]
 have mO:(x ||| y) % 2 ^ k=x % 2 ^ k ||| y % 2 ^ k:=Nat.or_mod_two_pow;have mA:(x &&& y) % 2 ^ k=x % 2 ^ k &&& y % 2 ^ k:=Nat.and_mod_two_pow;have pos:0<2 ^ k:=Nat.two_pow_pos k;have dO:=Nat.div_add_mod (x ||| y) (2 ^ k);have dA:=Nat.div_add_mod (x &&& y) (2 ^ k);have lO:=Nat.mod_lt (x ||| y) pos;have a1:x / 2 ^ k &&& y / 2 ^ k<=x / 2 ^ k:=Nat.and_le_left;have a2:x / 2 ^ k &&& y / 2 ^ k<=y / 2 ^ k:=Nat.and_le_right;have a3:x / 2 ^ k<=x / 2 ^ k ||| y / 2 ^ k:=Nat.left_le_or;have a4:y / 2 ^ k<=x / 2 ^ k ||| y / 2 ^ k:=Nat.right_le_or;have a5:x % 2 ^ k &&& y % 2 ^ k<=x % 2 ^ k:=Nat.and_le_left;have a6:x % 2 ^ k<=x % 2 ^ k ||| y % 2 ^ k:=Nat.left_le_or;constructor
 .intro h;refine Nat.le_antisymm ?_ ?_
  all_goals
   refine Nat.not_lt.mp fun hc=>?_;have hlt:(x &&& y) / 2 ^ k+1<=(x ||| y) / 2 ^ k:=by lia
   have hm:=Lm (2 ^ k) hlt;rw[LG,Nat.mul_one]at hm;lia
 .grind
theorem xM (z k:Nat):(if ((z:Int)==0)=true then 0 else (z:Int).natAbs.log2+1)<=k↔z<2 ^ k:=by
 rw[Int.natAbs_natCast];by_cases h:z=0
 .subst h;rw[IS (by decide)];exact⟨fun _=>Nat.two_pow_pos k,fun _=>IL _⟩
 .have:¬ ((z:Int)==0)=true:=by simpa using h
  rw[IK this];exact Nat.log2_lt h
end Pz
namespace L4
open PySem PySem.Spec PyProof.Rows L2 L3
section
variable {κ:Type}[DecidableEq κ]
noncomputable abbrev DX (κ:Type):=List (κ×Addr×List V)
noncomputable abbrev DX.kv (xs:DX κ):List (κ×V):=xs.map fun x=>(x.1,V.ref x.2.1)
structure DL (mk:List (κ×V)->HO) (H:Hp) (a:Addr) (xs:DX κ):Prop where
 root:H a=some (mk xs.kv)
 nA:∀ x∈xs,H x.2.1=some (.lst x.2.2)
 nk:(xs.map (·.1)).Nodup
 na:(xs.map (·.2.1)).Nodup
def cj (a:Addr)(xs:DX κ)(b:Addr):Prop:=b=a\/∃ x∈xs,b=x.2.1
noncomputable def d6 (xs:DX κ)(k:κ):Option (Addr×List V):=(xs.find? fun x=>decide (x.1=k)).map (·.2)
noncomputable def i9 (xs:DX κ)(k:κ)(v:V):DX κ:=xs.map fun x=>if x.1=k then (x.1,x.2.1,x.2.2++[v]) else x
theorem hG (xs:DX κ)(k:κ):cf xs.kv k=(d6 xs k).map fun p=>.ref p.1:=by
 induction xs with
 |nil=>rfl
 |cons x r ih=>
  unfold d6 at ih ⊢;show cf ((x.1,V.ref x.2.1)::DX.kv r) k=_;rw[JB];by_cases h:x.1=k
  .rw[c9 h,IJ h];rfl
  .rw[cA h,IQ h,ih]
theorem sv (xs:DX κ)(k:κ)(v:V):(i9 xs k v).kv=xs.kv:=by unfold i9 DX.kv;rw[JK];apply Jl;intro x _;show((if x.1=k then (x.1,x.2.1,x.2.2++[v]) else x).1,V.ref (if x.1=k then (x.1,x.2.1,x.2.2++[v]) else x).2.1)=_;split<;>rfl
theorem ku {β:Type}(f:κ×Addr×List V->β)(hf:∀ a b c d,f (a,b,c)=f (a,b,d))(xs:DX κ)(k:κ)(v:V):(i9 xs k v).map f=xs.map f:=by
 unfold i9;rw[JK];apply Jl;intro x _;show f (if x.1=k then (x.1,x.2.1,x.2.2++[v]) else x)=_;split
 .exact hf _ _ _ _
 .rfl
theorem cD {xs:DX κ}(h:d6 xs k=some p):(k,p)∈xs:=by unfold d6 at h;obtain⟨x,hx,rfl⟩:=Jg.mp h;have h1:=List.find?_some hx;have h2:=List.mem_of_find?_eq_some hx;have e:x.1=k:=Ja h1;obtain⟨a,b⟩:=x;dsimp only at e;subst e;exact h2
theorem sy {xs:DX κ}(h:d6 xs k=none):k∉xs.map (·.1):=fun hk=>by obtain⟨x,hx,rfl⟩:=IT.mp hk;unfold d6 at h;have:=List.find?_eq_none.mp (Option.map_eq_none_iff.mp h) x hx;simp at this
variable {mk:List (κ×V)->HO}
theorem DL.old (hmk:∀ q ws,mk q≠.lst ws)(G:DL mk H a xs)(hk:d6 xs k=some p)(hm:H' p.1=some (.lst (p.2++[v])))(kp:∀ c u,H c=some u->c≠p.1->H' c=some u):DL mk H' a (i9 xs k v):=by
 have hp:=cD hk;have nap:a≠p.1:=fun e=>by have:=G.nA _ hp;dsimp only at this;rw[<- e,G.root]at this;exact hmk _ _ (IU this)
 refine⟨by rw[sv];exact kp _ _ G.root nap,fun x hx=>?_,by rw[ku _ (fun _ _ _ _=>rfl)];exact G.nk,by rw[ku _ (fun _ _ _ _=>rfl)];exact G.na⟩;obtain⟨y,hy,rfl⟩:=IT.mp hx;by_cases e:y.1=k
 .rw[IS e];have:y=(k,p):=by
   have h1:(xs.map (·.1)).Nodup:=G.nk;obtain⟨i,hi⟩:=Jb.mp hy;obtain⟨j,hj⟩:=Jb.mp hp;have e1:(xs.map (·.1))[i]?=some k:=by rw[IE,hi];exact JL some e
   have e2:(xs.map (·.1))[j]?=some k:=by rw[IE,hj];rfl
   have:i=j:=(LC (Iv.mp e1).1 h1).mp (e1.trans e2.symm);subst this;rw[hi]at hj;exact IU hj
  subst this;exact hm
 .rw[IK e];refine kp _ _ (G.nA y hy) fun q=>e ?_;obtain⟨i,hi⟩:=Jb.mp hy;obtain⟨j,hj⟩:=Jb.mp hp;have e1:(xs.map (·.2.1))[i]?=some p.1:=by rw[IE,hi];exact JL some q
  have e2:(xs.map (·.2.1))[j]?=some p.1:=by rw[IE,hj];rfl
  have:i=j:=(LC (Iv.mp e1).1 G.na).mp (e1.trans e2.symm);subst this;rw[hi]at hj;rw[IU hj]
theorem DL.new (hmk:∀ q ws,mk q≠.lst ws)(G:DL mk H a xs)(hk:d6 xs k=none)(hl:H l=none)(hm:H' l=some (.lst [v]))(ha:H' a=some (mk (xs.kv++[(k,.ref l)])))(kp:∀ c u,H c=some u->c≠a->H' c=some u):DL mk H' a (xs++[(k,l,[v])]):=by
 have nl:∀ x∈xs,x.2.1≠l:=fun x hx e=>by have:=G.nA x hx;rw[e,hl]at this;cases this
 refine⟨by grind,fun x hx=>?_,?_,?_⟩
 .rcases IR.mp hx with h|h
  .refine kp _ _ (G.nA x h) fun e=>?_;have:=G.nA x h;rw[e,G.root]at this;exact hmk _ _ (IU this)
  .rw[IA]at h;subst h;exact hm
 .rw[IW,Jv];exact⟨G.nk,by simp,fun b hb c hc e=>by rw[II,Ku,IA]at hc;subst hc;subst e;exact sy hk hb⟩
 .rw[IW,Jv];exact⟨G.na,by simp,fun b hb c hc e=>by rw[II,Ku,IA]at hc;subst hc;subst e;obtain⟨x,hx,q⟩:=IT.mp hb;exact nl x hx q⟩
end
def Reads (t:TE)(σ:L2.St)(H:Hp)(v:V):Prop:=∀ Q:VK,Q v H->t σ H Q
def Makes (t:TE)(σ:L2.St)(H:Hp)(ws:List V):Prop:=∀ Q:VK,(∀ p,H p=none->Q (.ref p) (upd H p (.tup ws)))->t σ H Q
section
variable {K:LM}
theorem Reads.va (h:σ[i]?=some (some v)):Reads (ao i) σ H v:=fun _ q=>⟨_,h,q⟩
theorem Reads.k:Reads (tC v) σ H v:=fun _ q=>q
theorem Reads.op (ha:Reads ta σ H x)(hb:Reads tb σ H y)(h:∀ Q:VK,Q z H->r x y H Q):Reads (bn r ta tb) σ H z:=fun Q q=>ha _ (hb _ (h Q q))
theorem Reads.ix (h:Reads ta σ H (.ref b))(hs:H b=some (.tup ws))(e:rH ws n=some v):Reads (bn (ig K) ta (tC (.int n))) σ H v:=h.op .k fun _ q=>⟨b,ws,n,v,rfl,rfl,SqT.of hs,e,q⟩
theorem Reads.fld (h:Reads ta σ H (.ref o))(hi:∃ dx,H o=some (.ins C dx fs))(cl:nv K C)(n:NoAttr K C f)(hl:fs.lookup f=some v):Reads (dh K ta f) σ H v:=fun Q q=>by obtain⟨dx,hi⟩:=hi;exact h _ ⟨o,C,dx,_,_,rfl,hi,cl,n,hl,q⟩
theorem Ar (h:Reads ta σ H (.ref o))(hi:∃ dx,H o=some (.ins C dx fs))(cl:nv K C)(n:NoAttr K C f)(hl:fs.lookup f=some v)(q:Q v H):dh K ta f σ H Q:=Reads.fld h hi cl n hl _ q
def ReadsA (t:TA)(σ:L2.St)(H:Hp)(vs:List V):Prop:=∀ Q:List V->Hp->Prop,Q vs H->t σ H Q
theorem ReadsA.ni:ReadsA aC σ H []:=fun _ q=>q
theorem ReadsA.c (h:Reads ta σ H v)(k:ReadsA tr σ H vs):ReadsA (ai ta tr) σ H (v::vs):=fun _ q=>h _ (k _ q)
theorem Makes.t (h:ReadsA tr σ H ws)(l:Nat.ble ws.length 9=true):Makes (bN tr) σ H ws:=fun _ q=>h _ ⟨IV (Nat.le_of_ble_eq_true l) (by decide),q⟩
theorem fU (h:ReadsA tr σ H ws)(l:Nat.ble ws.length 9=true)(k:∀ p,H p=none->Q (.ref p) (upd H p (.tup ws))):bN tr σ H Q:=Makes.t h l _ k
theorem ox (h:Reads ta σ H (.ref b))(hi:∃ dx,H b=some (.ins C dx fs))(hl:fs.lookup m=none)(ha:ReadsA tr σ H vs)(k:sp (.ref b::(vs++dvs)) H Q E):dw C m sp dvs E ta tr σ H Q:=by obtain⟨dx,hi⟩:=hi;exact h _ ⟨b,dx,fs,rfl,hi,hl,ha _ k⟩
theorem sA {Q:L2.St->Hp->Prop}(ht:H b=some (.tup [v,w]))(k:Q ((σ.set i (some v)).set j (some w)) H):dg K 2 (aU (aB i) (aU (aB j) de)) (.ref b) σ H Q:=⟨b,_,rfl,SqT.of ht,rfl,_,_,rfl,_,_,rfl,rfl,k⟩
theorem iC {t u:TS}{D:Ends}(h:Reads te σ H (.bl c))(k1:c=true->t D σ H)(k2:¬ c=true->u D σ H):cy (bv te) t u D σ H:=h _ ⟨_,rfl,ut k1 k2⟩
end
def i_ {κ:Type}[DecidableEq κ](xs:DX κ)(k:κ)(l:Addr)(v:V):DX κ:=if (d6 xs k).isSome then i9 xs k v else xs++[(k,l,[v])]
def kx (K:LM) (to tk te:TE):TE:=qz K "list" cn (qz K "dict" pK to (ai tk (ai (ce aC) aC))) (ai te aC)
theorem qN {κ:Type}[DecidableEq κ]{mk:List (κ×V)->HO}(hmk:∀ q ws,mk q≠.lst ws){K:LM}{te:TE}{σ:L2.St}{H:Hp}{a l:Addr}{xs:DX κ}{k:κ}{ws:List V}{C:Hp->Prop}(G:DL mk H a xs)(hl:H l=none)
 (hte:∀ H',(∀ c u,H c=some u->c≠a->H' c=some u)->Makes te σ H' ws) (hw:∀ x∈xs,x.2.2.length<16000000)
 (kk:∀(l p:Addr)(H':Hp),H l=none->H p=none->H' p=some (.tup ws)->DL mk H' a (i_ xs k l (.ref p))->(∀ c u,H c=some u->¬ cj a xs c->H' c=some u)->C H') :
 (∃ v,cf xs.kv k=some v/\B_ K "list" v (upd H l (.lst []))/\ai te aC σ (upd H l (.lst [])) fun xs H2=>cn v xs H2 fun _ H'=>C H')\/(cf xs.kv k=none/\B_ K "list" (.ref l) (upd (upd H l (.lst [])) a (mk (bE xs.kv k (.ref l))))/\ai te aC σ (upd (upd H l (.lst [])) a (mk (bE xs.kv k (.ref l)))) fun xs H2=>cn (.ref l) xs H2 fun _ H'=>C H'):=by
 have sz:∀ n,n<16000000->n<sizeLine:=fun n h=>by rw[IY];lia
 have han:H a≠none:=by rw[G.root];simp
 have nal:a≠l:=fun e=>han (by rw[e];exact hl);have kl:∀ c u,H c=some u->upd H l (.lst []) c=some u:=fun c u e=>by rw[au (am e hl)];exact e
 cases hf:d6 xs k with
 |some q=>
  left;have hq:=G.nA _ (cD hf);refine⟨.ref q.1,by rw[hG,hf];rfl,.inl ⟨rfl,_,SqL.of (kl _ _ hq)⟩,hte _ (fun c u e _=>kl c u e) _ fun p hp=>?_⟩;have hpH:H p=none:=(aw hl).free hp;have nqp:q.1≠p:=fun e=>by grind
  refine⟨q.1,q.2,.ref p,rfl,rfl,by rw[au nqp];exact kl _ _ hq,sz _ (hw _ (cD hf)),?_⟩;have kp:∀ c u,H c=some u->c≠q.1->upd (upd (upd H l (.lst [])) p (.tup ws)) q.1 (.lst (q.2++[.ref p])) c=some u:=fun c u e hn=>by rw[au hn,au (am e hpH)];exact kl c u e
  refine kk l p _ hl hpH (by rw[au (Jn nqp),af]) ?_ fun c u e hn=>kp c u e fun z=>hn (.inr ⟨_,cD hf,z⟩);unfold i_;rw[hf,IS (by simp)];exact G.old hmk hf af kp
 |none=>
  right;refine⟨by rw[hG,hf];rfl,.inl ⟨rfl,[],SqL.of (by rw[au (Jn nal),af])⟩,hte _ (fun c u e hn=>by rw[au hn];exact kl c u e) _ fun p hp=>?_⟩;have hvn:cf xs.kv k=none:=by rw[hG,hf];rfl
  have hpa:p≠a:=fun e=>by rw[e,af]at hp;cases hp
  have hpl:p≠l:=fun e=>by rw[e,au (Jn nal),af]at hp;cases hp
  have hpH:H p=none:=by rw[au hpa,au hpl]at hp;exact hp
  refine⟨l,[],.ref p,rfl,rfl,by rw[au (Jn hpl),au (Jn nal),af],by decide,?_⟩;refine kk l p _ hl hpH (by rw[au hpl,af]) ?_ fun c u e hn=>?_
  .unfold i_;rw[hf,IK (by simp)];refine G.new hmk hf hl af (by rw[au nal,au (Jn hpa),af,f6 _ hvn]) fun c u e hn=>?_;rw[au (am e hl),au (am e hpH),au hn];exact kl c u e
  .rw[au (am e hl),au (am e hpH),au (fun z=>hn (.inl z))];exact kl c u e
theorem mP {K:LM}{to tk te:TE}{σ:L2.St}{H:Hp}{C:Hp->Prop}(G:DL .dT H a xs)(hto:Reads to σ H (.ref a))(htk:Reads tk σ H (.ref b))(hb:H b=some (.tup (k.map kV)))
 (hte:∀ H',(∀ c u,H c=some u->c≠a->H' c=some u)->Makes te σ H' ws) (hz:xs.length<16000000) (hw:∀ x∈xs,x.2.2.length<16000000)
 (kk:∀(l p:Addr)(H':Hp),H l=none->H p=none->H' p=some (.tup ws)->DL .dT H' a (i_ xs k l (.ref p))->(∀ c u,H c=some u->¬ cj a xs c->H' c=some u)->C H') :
 kx K to tk te σ H fun _ H'=>C H':=by
 have kl:∀ l,H l=none->∀ c u,H c=some u->upd H l (.lst []) c=some u:=fun l hl c u e=>by rw[au (am e hl)];exact e
 exact hto _ ⟨.inr (.inr (.inl ⟨rfl,.inr ⟨_,G.root⟩⟩)),htk _ ⟨IL _,fun l hl=>⟨a,b,k,.ref l,xs.kv,rfl,rfl,kl l hl _ _ hb,.inl (kl l hl _ _ G.root),by unfold DX.kv;rw[Iq,IY];lia,qN (mk:=.dT) (fun _ _ z=>HO.noConfusion z) G hl hte hw kk⟩⟩⟩
def zf (K:LM) (to tk te:TE):TE:=qz K "list" cn (qz K "dict" y_ to (ai tk (ai (ce aC) aC))) (ai te aC)
theorem xN {K:LM}{to tk te:TE}{σ:L2.St}{H:Hp}{C:Hp->Prop}(G:DL .dK H a xs)(hto:Reads to σ H (.ref a))(htk:Reads tk σ H (.int i))
 (hte:∀ H',(∀ c u,H c=some u->c≠a->H' c=some u)->Makes te σ H' ws) (hz:xs.length<16000000) (hw:∀ x∈xs,x.2.2.length<16000000)
 (kk:∀(l p:Addr)(H':Hp),H l=none->H p=none->H' p=some (.tup ws)->DL .dK H' a (i_ xs (.inl i) l (.ref p))->(∀ c u,H c=some u->¬ cj a xs c->H' c=some u)->C H') :
 zf K to tk te σ H fun _ H'=>C H':=by
 have kl:∀ l,H l=none->upd H l (.lst []) a=some (.dK xs.kv):=fun l hl=>by rw[au (am G.root hl)];exact G.root
 exact hto _ ⟨.inr (.inr (.inl ⟨rfl,.inl ⟨_,G.root⟩⟩)),htk _ ⟨IL _,fun l hl=>⟨a,.inl i,.ref l,xs.kv,rfl,rfl,.inl (kl l hl),by unfold DX.kv;rw[Iq,IY];lia,qN (mk:=.dK) (fun _ _ z=>HO.noConfusion z) G hl hte hw kk⟩⟩⟩
section
def zg:V->List V->Hp->VK->Prop:=fun x xs H Q=>∃ i,x=.int i/\xs=[]/\Q (.int (Builtin.Int.intBits i)) H
theorem xO:z9 X "int.bit_length" zg:=by intro ae s σ H x xs v us Q I rx rs q;obtain⟨i,rfl,rfl,q⟩:=q;obtain⟨t,rfl⟩:=rx;cases rs;exact call_int_bit_length ⟨.int _,H,I.tok _,⟨_,rfl⟩,q⟩
end
structure BN (C:Addr) (H:Hp) (q ap:Addr) (last:Int) (xs:DX ba):Prop where
 ins:∃ dx,H q=some (.ins C dx [("last",.int last),("piles",.ref ap)])
 aE:DL .dK H ap xs
 kX:xs.length<16000000
 low:∀ x∈xs,x.2.2.length<16000000
structure nz (K:LM) (C:Addr):Prop where
 cl:nv K C
 nl:NoAttr K C "last"
 np:NoAttr K C "piles"
noncomputable def az (price last:Int):Int:=Builtin.Int.intBits (Builtin.bitXor price last)
def Ct (K:LM):TE:=zf K (dh K (ao 0) "piles") (xm K "int" zg (bn (tM fun i j=>.int (Builtin.bitXor i j)) (ao 1) (dh K (ao 0) "last"))) (bN (ai (ao 1) (ai (ao 2) aC)))
theorem Au {K:LM}{C q ap b:Addr}{H:Hp}{Cn:Hp->Prop}(T:nz K C)(G:BN C H q ap last xs)(h0:σ[0]?=some (some (.ref q)))(h1:σ[1]?=some (some (.int price)))(h2:σ[2]?=some (some (.ref b)))
 (kk:∀(l p:Addr)(H':Hp),H l=none->H p=none->H' p=some (.tup [.int price,.ref b])->(∃ dx,H' q=some (.ins C dx [("last",.int last),("piles",.ref ap)]))->DL .dK H' ap (i_ xs (.inl (az price last)) l (.ref p))->(∀ c u,H c=some u->¬ cj ap xs c->H' c=some u)->Cn H') :
 Ct K σ H fun _ H'=>Cn H':=by
 obtain⟨dx,hq⟩:=G.ins;have nq:¬ cj ap xs q:=fun z=>by
  rcases z with z|⟨x,hx,z⟩
  .have:=G.aE.root;rw[<- z,hq]at this;cases this
  .have:=G.aE.nA x hx;rw[<- z,hq]at this;cases this
 refine xN (ws:=[.int price,.ref b]) (i:=az price last) G.aE (fun Q h=>⟨_,h0,q,C,dx,_,_,rfl,hq,T.cl,T.np,rfl,h⟩) (fun Q h=>?_) (fun H' _ Q h=>⟨_,h1,_,h2,(by show 2<=sizeLine;decide),h⟩) G.kX G.low fun l p H' hl hp hm hd kp=>kk l p H' hl hp hm ⟨dx,kp _ _ hq nq⟩ hd kp;exact⟨_,h1,_,h0,q,C,dx,_,_,rfl,hq,T.cl,T.nl,rfl,_,_,rfl,rfl,rfl,_,rfl,rfl,h⟩
inductive l9 (C:Addr):Sp
 |mk {q ap b:Addr} {last price:Int} {xs:DX ba} {H:Hp} {Q:VK} {E:XK} (G:BN C H q ap last xs) (k:∀(l p:Addr)(H':Hp),H l=none->H p=none->H' p=some (.tup [.int price,.ref b])->(∃ dx,H' q=some (.ins C dx [("last",.int last),("piles",.ref ap)]))->DL .dK H' ap (i_ xs (.inl (az price last)) l (.ref p))->(∀ c u,H c=some u->¬ cj ap xs c->H' c=some u)->Q .bu H'):l9 C [.ref q,.int price,.ref b] H Q E
theorem sB (h:l9 C vs H Q E):vs.length=3:=by cases h;rfl
theorem uN {K:LM}{C:Addr}{vs:List V}(T:nz K C)(h:l9 C vs H Q E)(hN:N.length=3):bY (Ct K) (eQ Q) (bc N vs) H:=by obtain⟨G,k⟩:=h;exact Au T G rfl rfl rfl k
section
variable {κ:Type}[DecidableEq κ]{mk:List (κ×V)->HO}{H H':Hp}{a:Addr}{xs:DX κ}{k:κ}{p:Addr×List V}
noncomputable def iD (xs:DX κ)(k:κ):DX κ:=xs.filter fun x=>decide (x.1≠k)
theorem uO (xs:DX κ)(k:κ):(iD xs k).kv=gN xs.kv k:=by unfold iD gN DX.kv;rw[List.filter_map];rfl
theorem DL.drop (hmk:∀ q ws,mk q≠.lst ws)(G:DL mk H a xs)(hk:d6 xs k=some p)(ha:H' a=some (mk (gN xs.kv k)))(kp:∀ c u,H c=some u->c≠a->H' c=some u) :
 DL mk H' a (iD xs k)/\H' p.1=some (.lst p.2)/\¬ cj a (iD xs k) p.1:=by
 have hp:=cD hk;have nap:∀ x∈xs,x.2.1≠a:=fun x hx e=>by have:=G.nA x hx;rw[e,G.root]at this;exact hmk _ _ (IU this)
 have sub:(iD xs k).Sublist xs:=List.filter_sublist;refine⟨⟨by rw[uO];exact ha,fun x hx=>?_,(sub.map _).nodup G.nk,(sub.map _).nodup G.na⟩,kp _ _ (G.nA _ hp) (nap _ hp),fun z=>?_⟩
 .have hx':=(Js.mp hx).1;exact kp _ _ (G.nA x hx') (nap x hx')
 .rcases z with z|⟨x,hx,z⟩
  .exact nap _ hp z
  .obtain⟨h1,h2⟩:=Js.mp hx;have hne:x.1≠k:=Ja h2;obtain⟨i,hi⟩:=Jb.mp h1;obtain⟨j,hj⟩:=Jb.mp hp;have e1:(xs.map (·.2.1))[i]?=some p.1:=by grind
   have e2:(xs.map (·.2.1))[j]?=some p.1:=by grind
   have:i=j:=(LC (Iv.mp e1).1 G.na).mp (e1.trans e2.symm);subst this;rw[hi]at hj;exact hne (by grind)
end
end L4
namespace L4
open PySem PySem.Spec PySem.Calls PyProof.Rows L2 L3
section
abbrev oy (v d:Addr):HO:=.ext fun h=>PySem.W.KdlKeysView h v d
def zh:V->List V->Hp->VK->Prop:=fun x xs H Q=>∃ a kvs,x=.ref a/\xs=[]/\H a=some (.dK kvs)/\∀ v,H v=none->Q (.ref v) (upd H v (oy v a))
theorem xP:z9 X "dict.keys" zh:=by intro ae s σ H x xs v us Q I rx rs q;obtain⟨a,kvs,rfl,rfl,ha,q⟩:=q;obtain rfl:v=Value.ref a:=rx;cases rs;obtain⟨z,hd,vs,rel,dd⟩:=nU I.aO ha;refine KE PySem.F.slot_dict_keys dd.typeIs PySem.F.entry_dict_keys (PySem.F.args_dict_keys_1 _) (PySem.W.kdl_meets_keys (aI X.prog X.w) a hd) ?_;have hv:PySem.W.KdlKeysView (s.heap.push { cls:=.type "dict_keys",data:=.fields #[.ref a] }) s.heap.objs.size a:=⟨_,IG _ rfl,rfl,rfl⟩;exact⟨⟨vs,dd⟩,.ref s.heap.objs.size,_,I.laid (a:=s.heap.objs.size) (o:=oy s.heap.objs.size a) (t':=s.toks) (fun _ _ e=>Ip _ e) (Im _) ⟨hv,⟨_,IG _ rfl⟩,fun h1 h2 ⟨o,ho,r⟩ k=>⟨o,k _ ho,r⟩⟩,rfl,q _ (I.aO.fresh (Im _))⟩
def zi:List V->Hp->VK->Prop:=fun xs H Q=>∃(v a:Addr)(kvs:List (ba×V))(ns:List Int),xs=[.ref v]/\H v=some (oy v a)/\H a=some (.dK kvs)/\kvs.map (·.1)=ns.map Sum.inl/\ns≠[]/\Q (.int (mF ns)) H
theorem sC (hc:X.calm=true):cK X (.builtin "min") zi:=by
 intro ae s σ H xs us Q I r q;obtain⟨v,a,kvs,ns,rfl,hv,ha,hk,hne,q⟩:=q;obtain⟨u,rfl,ru⟩:=eS r;obtain rfl:u=Value.ref v:=ru;obtain⟨z,hd,vs,rel,dd⟩:=nU I.aO ha;obtain⟨hv',_,_⟩:=(show ObjOk X.prog X.w H s.heap v (oy v a) from I.aO v _ hv);obtain⟨ep,da⟩:=dd.dictAt;have hl:=rel.length;have hkn:kvs.length=ns.length:=by have:=JL List.length hk;simpa using this
 have hvk:∀(i:Nat)(k:ba)(x:LO),vs[i]?=some (k,x)->∃ n,ns[i]?=some n/\k=.inl n:=fun i k x e=>by
  have hi:i<kvs.length:=by rw[hl];exact(Iv.mp e).1
  obtain⟨e1,_⟩:=rel.at i _ _ (Ir hi) e;have e2:(kvs.map (·.1))[i]?=some k:=by rw[IE,Ir hi];exact JL some e1
  rw[hk,IE]at e2;obtain⟨n,h1,h2⟩:=Jg.mp e2;exact⟨n,h1,h2.symm⟩
 generalize hps:(ns.map fun n=>(n,(0:Tok))).toArray=ps;have hsz:ps.size=ns.length:=by rw[<- hps];simp
 have hna:∀(i:Nat)(n:Int),ns[i]?=some n->numAt ps i=n:=fun i n e=>by unfold numAt;rw[<- hps];simp[e]
 have hpn:ps.toList.map (·.1)=ns:=by rw[<- hps];simp[Function.comp_def]
 have hpos:0<ns.length:=Ll.mpr hne;have hne2:a≠s.heap.objs.size:=by obtain⟨o,_,_,ho,_⟩:=dd;exact IN (Iz ho)
 refine call_min_walk (PySem.W.kdl_pyIter_keys (knd:=aI X.prog X.w) (s:=s) hv' da ?_);refine⟨_,_,_,_,_,_,_,rfl,Walks.dictKeys (knd:=aI X.prog X.w) (A:=X.A.in1) (I.ok.hd hc) s.heap.objs.size a hne2 vs ep,⟨⟨_,IG _ rfl,rfl,rfl⟩,da.at' fun o e=>Ip _ e⟩,fun b hb=>?_,by lia,CmpOf.ints_lt (numAt ps) (fun i v hv=>?_),fun v h' tk hP kp=>?_⟩
 .simp only[ID,IC,K6]at hb;rw[K3];rcases hb with rfl|rfl
  .exact JU _
  .obtain⟨o,_,_,ho,_⟩:=dd;exact LB (Iz ho)
 .obtain⟨k,x,e1,e2⟩:=hv;obtain⟨n,e3,rfl⟩:=hvk i k x e1;obtain⟨j,t,e4,rfl⟩|⟨j,t,e4,_⟩:=br (show hZ (.inl n) v=true from e2)
  .cases e4;exact⟨t,by rw[hna i n e3]⟩
  .cases e4
 .obtain⟨k,x,e1,e2⟩:=hP;obtain⟨n,e3,rfl⟩:=hvk _ k x e1;obtain⟨j,t,e4,rfl⟩|⟨j,t,e4,_⟩:=br (show hZ (.inl n) v=true from e2)
  .cases e4;have hb:=kc ps (vs.length-1) (by lia);rw[hna _ n e3,hpn,Jx (by lia)]at hb;exact⟨.int n,H,I.kept (t':=tk) fun b o e=>kp b o (fun hm=>by rw[IA]at hm;subst hm;exact JI _ (Iz e)) (Ip _ e),⟨t,rfl⟩,by rw[hb];exact q⟩
  .cases e4
end
end L4
namespace L4
open PySem PySem.Spec PyProof.Rows L2 L3
inductive aS {α β:Type} (R:α->β->Prop):List α->List β->Prop where
 |nil:aS R [] []
 |cons {x y xs ys}:R x y->aS R xs ys->aS R (x::xs) (y::ys)
section
variable {α β:Type}{R R':α->β->Prop}
theorem aS.len (h:aS R xs ys):xs.length=ys.length:=by
 induction h with
 |nil=>rfl
 |cons _ _ ih=>rw[IM,IM,ih]
theorem aS.mono (f:∀ x y,R x y->R' x y)(h:aS R xs ys):aS R' xs ys:=by
 induction h with
 |nil=>exact .nil
 |cons a _ ih=>exact .cons (f _ _ a) ih
theorem aS.snoc (h:aS R xs ys)(r:R x y):aS R (xs++[x]) (ys++[y]):=by
 induction h with
 |nil=>exact .cons r .nil
 |cons a _ ih=>exact .cons a ih
theorem aS.get (h:aS R xs ys){i:Nat}(e:ys[i]?=some y):∃ x,xs[i]?=some x/\R x y:=by
 induction h generalizing i with
 |nil=>simp at e
 |cons a _ ih=>
  cases i with
  |zero=>simp at e;subst e;exact⟨_,rfl,a⟩
  |succ i=>simp at e;obtain⟨x,e1,e2⟩:=ih e;exact⟨x,by simpa using e1,e2⟩
theorem aS.Eb {γ δ:Type}{T:γ->δ->Prop}(f:α->γ)(g:β->δ)(k:∀ x y,R x y->T (f x) (g y))(h:aS R xs ys):aS T (xs.map f) (ys.map g):=by
 induction h with
 |nil=>exact .nil
 |cons a _ ih=>exact .cons (k _ _ a) ih
end
def KT (H H':Hp):Prop:=∀ a ws,H a=some (.tup ws)->H' a=some (.tup ws)
section
variable {κ κ' α:Type}[DecidableEq κ][DecidableEq κ'](key:κ->κ')(it:Hp->α->V->Prop)
abbrev RepM (H:Hp)(d:Pz.MD κ α)(xs:DX κ'):Prop:=aS (fun x y=>y.1=key x.1/\aS (it H) x.2 y.2.2) d xs
variable {key it}
theorem RepM.keep (hm:∀ a v,it H a v->it H' a v)(h:RepM key it H d xs):RepM key it H' d xs:=h.mono fun _ _ ⟨e,a⟩=>⟨e,a.mono hm⟩
theorem RepM.find (inj:∀ a b,key a=key b->a=b)(h:RepM key it H d xs)(k:κ) :
 (d6 xs (key k)=none/\d.has k=false/\d.get k=[])\/∃ p,d6 xs (key k)=some p/\d.has k=true/\aS (it H) (d.get k) p.2:=by
 induction h with
 |nil=>exact .inl ⟨rfl,rfl,rfl⟩
 | @cons x y d xs r _ ih=>
  unfold d6 at ih ⊢;unfold Pz.MD.has at ih ⊢;rw[JB,Pz.cB,LD];by_cases e:x.1=k
  .right;have:y.1=key k:=by rw[r.1,e]
   rw[IJ this,IJ e,IS e];exact⟨y.2,rfl,rfl,r.2⟩
  .have:¬ y.1=key k:=fun z=>e (inj _ _ (r.1.symm.trans z));rw[IQ this,IQ e,IK e,Bool.false_or];exact ih
theorem RepM.add (inj:∀ a b,key a=key b->a=b)(hm:∀ a v,it H a v->it H' a v)(h:RepM key it H d xs)(hv:it H' v (.ref p)):RepM key it H' (d.app k v) (i_ xs (key k) l (.ref p)):=by
 have h':=h.keep hm;unfold Pz.MD.app i_;rcases h.find inj k with⟨e1,e2,_⟩|⟨q,e1,e2,_⟩
 .rw[e1,e2];exact h'.snoc ⟨rfl,.cons hv .nil⟩
 .rw[e1,e2];refine h'.Eb _ _ fun x y ⟨r1,r2⟩=>?_;by_cases e:x.1=k
  .have:y.1=key k:=by rw[r1,e]
   rw[IS e,IS this];exact⟨r1,r2.snoc hv⟩
  .grind
theorem RepM.drop (inj:∀ a b,key a=key b->a=b)(h:RepM key it H d xs)(k:κ):RepM key it H (d.drop k) (iD xs (key k)):=by
 induction h with
 |nil=>exact .nil
 | @cons x y d xs r _ ih=>
  unfold Pz.MD.drop iD at ih ⊢;by_cases e:x.1=k
  .have:y.1=key k:=by rw[r.1,e]
   rw[KP (by simpa using e),KP (by simpa using this)];exact ih
  .have:¬ y.1=key k:=fun z=>e (inj _ _ (r.1.symm.trans z));rw[KQ (by simpa using e),KQ (by simpa using this)];exact .cons r ih
theorem RepM.keys (h:RepM key it H d xs):xs.map (·.1)=d.keys.map key:=by
 induction h with
 |nil=>rfl
 |cons r _ ih=>grind
theorem RepM.low (h:RepM key it H d xs)(hn:d.flat.length<n):∀ x∈xs,x.2.2.length<n:=by
 induction h with
 |nil=>exact fun _ h=>(IC h).elim
 | @cons x y d xs r _ ih=>
  unfold Pz.MD.flat at hn ih;rw[Ky,IF]at hn;intro z hz;rcases ID.mp hz with rfl|hz
  .have:=r.2.len;lia
  .exact ih (by lia) z hz
end
noncomputable def vO:Option Int->V
 |none=>.bu
 |some i=>.int i
noncomputable def gj (a:Pz.Arr):List V:=[.int a.1,.int a.2.1,.int a.2.2]
def IsArr (H:Hp)(a:Pz.Arr)(v:V):Prop:=∃ p,v=.ref p/\H p=some (.tup (gj a))
def IsRule (H:Hp)(r:Pz.Rule)(v:V):Prop:=∃ p q,v=.ref p/\H p=some (.tup [.int r.1,.int r.2.1,.int r.2.2.1,.ref q])/\H q=some (.tup (r.2.2.2.map .int))
def IsVal (H:Hp)(x:Pz.jC)(v:V):Prop:=∃ p,v=.ref p/\H p=some (.tup [.int x.1,vO x.2.1,vO x.2.2])
def IsItem (H:Hp)(x:Int×Pz.Arr)(v:V):Prop:=∃ p w,v=.ref p/\H p=some (.tup [.int x.1,w])/\IsArr H x.2 w
def IsSet (H:Hp)(x:Int×Int)(v:V):Prop:=∃ p,v=.ref p/\H p=some (.tup [.int x.1,.int x.2])
def IsLack (H:Hp)(x:Int×Pz.Rule×Int)(v:V):Prop:=∃ p w,v=.ref p/\H p=some (.tup [.int x.1,w,.int x.2.2])/\IsRule H x.2.1 w
def IsNum (H:Hp)(x:Int×Pz.Rule)(v:V):Prop:=∃ p w,v=.ref p/\H p=some (.tup [.int x.1,w])/\IsRule H x.2 w
section
variable (k:KT H H')
include k
theorem IsArr.keep (a:Pz.Arr)(v:V):IsArr H a v->IsArr H' a v:=fun⟨p,e,h⟩=>⟨p,e,k _ _ h⟩
theorem IsRule.keep (a:Pz.Rule)(v:V):IsRule H a v->IsRule H' a v:=fun⟨p,q,e,h,g⟩=>⟨p,q,e,k _ _ h,k _ _ g⟩
theorem IsVal.keep (a:Pz.jC)(v:V):IsVal H a v->IsVal H' a v:=fun⟨p,e,h⟩=>⟨p,e,k _ _ h⟩
theorem IsItem.keep (a:Int×Pz.Arr)(v:V):IsItem H a v->IsItem H' a v:=fun⟨p,w,e,h,g⟩=>⟨p,w,e,k _ _ h,IsArr.keep k _ _ g⟩
theorem IsSet.keep (a:Int×Int)(v:V):IsSet H a v->IsSet H' a v:=fun⟨p,e,h⟩=>⟨p,e,k _ _ h⟩
theorem IsLack.keep (a:Int×Pz.Rule×Int)(v:V):IsLack H a v->IsLack H' a v:=fun⟨p,w,e,h,g⟩=>⟨p,w,e,k _ _ h,IsRule.keep k _ _ g⟩
theorem IsNum.keep (a:Int×Pz.Rule)(v:V):IsNum H a v->IsNum H' a v:=fun⟨p,w,e,h,g⟩=>⟨p,w,e,k _ _ h,IsRule.keep k _ _ g⟩
end
noncomputable def ak (a:Pz.Arr):List ba:=[.inl a.1,.inl a.2.1,.inl a.2.2]
theorem ja (a b:Pz.Arr)(h:ak a=ak b):a=b:=by grind [ak]
noncomputable def k2 (k:Int×Int):List ba:=[.inl k.1,.inl k.2]
theorem ky (a b:Int×Int)(h:k2 a=k2 b):a=b:=by grind [k2]
noncomputable def k1 (i:Int):ba:=.inl i
theorem jb (a b:Int)(h:k1 a=k1 b):a=b:=Sum.inl.inj h
abbrev RepT (H:Hp)(t:Pz.TD)(kt:List (List ba×V)):Prop:=aS (fun x y=>y.1=ak x.1/\IsVal H x.2 y.2) t kt
theorem RepT.keep (k:KT H H')(h:RepT H t kt):RepT H' t kt:=h.mono fun _ _ ⟨e,a⟩=>⟨e,IsVal.keep k _ _ a⟩
theorem RepT.find (h:RepT H t kt)(a:Pz.Arr) :
 (cf kt (ak a)=none/\Pz.bw t a=none)\/∃ v x,cf kt (ak a)=some v/\Pz.bw t a=some x/\IsVal H x v:=by
 induction h with
 |nil=>exact .inl ⟨rfl,rfl⟩
 | @cons x y t kt r _ ih=>
  rw[Pz.cx];by_cases e:x.1=a
  .have:y.1=ak a:=by rw[r.1,e]
   rw[IS e,c9 this];exact .inr ⟨_,_,rfl,rfl,r.2⟩
  .have:¬ y.1=ak a:=fun z=>e (ja _ _ (r.1.symm.trans z));rw[IK e,cA this];exact ih
theorem RepT.put (h:RepT H t kt)(hv:IsVal H x v):RepT H (Pz.tput t a x) (bE kt (ak a) v):=by
 unfold Pz.tput bE;rw[e8];rcases h.find a with⟨e1,e2⟩|⟨w,y,e1,e2,_⟩
 .rw[e1,e2];exact h.snoc ⟨rfl,hv⟩
 .rw[e1,e2];refine h.Eb _ _ fun z y ⟨r1,r2⟩=>?_;by_cases e:z.1=a
  .have:y.1=ak a:=by rw[r1,e]
   rw[IS e,IS this];exact⟨r1,hv⟩
  .have:¬ y.1=ak a:=fun q=>e (ja _ _ (r1.symm.trans q));rw[IK e,IK this];exact⟨r1,r2⟩
theorem gE {κ:Type}[DecidableEq κ]{xs:DX κ}{k:κ}{l a c:Addr}{v:V}(h:cj a (i_ xs k l v) c):cj a xs c\/c=l:=by
 rcases h with h|⟨x,hx,h⟩
 .exact .inl (.inl h)
 .unfold i_ at hx;split at hx
  .obtain⟨y,hy,rfl⟩:=IT.mp hx;refine .inl (.inr ⟨y,hy,?_⟩);rw[h];split<;>rfl
  .rcases IR.mp hx with hx|hx
   .exact .inl (.inr ⟨x,hx,h⟩)
   .rw[IA]at hx;subst hx;exact .inr h
section
variable {κ κ' α:Type}[DecidableEq κ][DecidableEq κ'](mk:List (κ'×V)->HO)(key:κ->κ')(it:Hp->α->V->Prop)
structure PM (col:Addr->Nat) (j:Nat) (B H:Hp) (a:Addr) (dd:Pz.MD κ α) (xs:DX κ'):Prop where
 d:DL mk H a xs
 r:RepM key it H dd xs
 c:∀ c,cj a xs c->col c=j/\B c=none
variable {mk key it}{d:Pz.MD κ α}
theorem DL.obj (h:DL mk H a xs)(hc:cj a xs c):H c≠none:=by
 grind [DL,cj]
theorem DL.keep (h:DL mk H a xs)(kp:∀ c u,H c=some u->cj a xs c->H' c=some u):DL mk H' a xs:=⟨kp _ _ h.root (.inl rfl),fun x hx=>kp _ _ (h.nA x hx) (.inr ⟨x,hx,rfl⟩),h.nk,h.na⟩
theorem PM.keep (h:PM mk key it col j B H a d xs)(hit:∀ x v,it H x v->it H' x v)(kp:∀ c u,H c=some u->col c=j->H' c=some u)(hc:∀ c,H c≠none->col' c=col c):PM mk key it col' j B H' a d xs:=⟨h.d.keep fun c u e i=>kp c u e (h.c c i).1,h.r.keep hit,fun c i=>⟨by rw[hc c (h.d.obj i)];exact(h.c c i).1,(h.c c i).2⟩⟩
theorem DL.kt (hmk:∀ q ws,mk q≠.tup ws)(h:DL mk H a xs)(kp:∀ c u,H c=some u->¬ cj a xs c->H' c=some u):KT H H':=by
 grind [DL,cj,KT]
noncomputable def mQ (col:Addr->Nat)(j:Nat)(H:Hp):Addr->Nat:=fun c=>open Classical in if H c=none then j else col c
theorem bq (hc:H a≠none):mQ col j H a=col a:=by unfold mQ;rw[IK hc]
theorem uP (hc:H a=none):mQ col j H a=j:=by unfold mQ;rw[IS hc]
theorem PM.new (h:PM mk key it col j B H a d xs)(sm:Same B H)(h1:DL mk H' a xs')(h2:RepM key it H' d' xs')(hn:∀ c,cj a xs' c->cj a xs c\/H c=none):PM mk key it (mQ col j H) j B H' a d' xs':=
 ⟨h1,h2,fun c i=>by
   rcases hn c i with i|e
   .rw[bq (h.d.obj i)];exact h.c c i
   .exact⟨uP e,sm.free e⟩⟩
theorem PM.base (h:PM mk key it col j B H a d xs)(hb:∀ c,cj a xs c->B' c=none):PM mk key it col j B' H a d xs:=⟨h.d,h.r,fun c i=>⟨(h.c c i).1,hb c i⟩⟩
end
structure PA where
 o:Addr
 ta:Addr
 aq:Addr
 ap:Addr
 sa:Addr
 la:Addr
 ar:Addr
noncomputable def pf (A:PA):List (Str×V):=[("rules",.ref A.ar),("told",.ref A.ta),("offers",.ref A.aq),("settled",.ref A.sa),("lacking",.ref A.la)]
noncomputable abbrev qf (A:PA) (last:Int):List (Str×V):=[("last",.int last),("piles",.ref A.ap)]
structure PO (CP CQ:Addr) (col:Addr->Nat) (B H:Hp) (A:PA) (last:Int) (t:Pz.TD) (kt:List (List ba×V)):Prop where
 ins:∃ dx,H A.o=some (.ins CP dx (pf A))
 wK:∃ dx,H A.aq=some (.ins CQ dx (qf A last))
 td:H A.ta=some (.dT kt)
 tr:RepT H t kt
 c5:col A.ta=5/\B A.ta=none
 c6:col A.o=6/\B A.o=none
 c7:col A.aq=7/\B A.aq=none
structure bo (CP CQ:Addr) (B H:Hp) (A:PA) (rs:Pz.RS) (S:Pz.PS) (xs xl xr:DX (List ba)) (xp:DX ba) (kt:List (List ba×V)) (col:Addr->Nat):Prop where
 same:Same B H
 p1:PM .dK k1 IsItem col 1 B H A.ap S.aE xp
 p2:PM .dT k2 IsSet col 2 B H A.sa S.settled xs
 p3:PM .dT k2 IsLack col 3 B H A.la S.aH xl
 p4:PM .dT k2 IsNum col 4 B H A.ar rs xr
 po:PO CP CQ col B H A S.last S.told kt
def PAt (CP CQ:Addr)(B H:Hp)(A:PA)(rs:Pz.RS)(S:Pz.PS)(xs xl xr:DX (List ba)):Prop:=∃ xp kt col,bo CP CQ B H A rs S xs xl xr xp kt col
section
theorem PO.keep (h:PO CP CQ col B H A last t kt)(k:KT H H')(kp:∀ c u,H c=some u->5<=col c->col c<=7->H' c=some u)(hc:∀ c,H c≠none->col' c=col c):PO CP CQ col' B H' A last t kt:=by
 obtain⟨⟨dx,h1⟩,⟨dy,h2⟩,h3,h4,c5,c6,c7⟩:=h;refine⟨⟨dx,kp _ _ h1 (by lia) (by lia)⟩,⟨dy,kp _ _ h2 (by lia) (by lia)⟩,kp _ _ h3 (by lia) (by lia),h4.keep k,?_,?_,?_⟩
 .rw[hc _ (by grind)];exact c5
 .rw[hc _ (by grind)];exact c6
 .rw[hc _ (by grind)];exact c7
theorem bo.pile (h:bo CP CQ B H A rs S xs xl xr xp kt col)(h1:DL .dK H' A.ap xp')(h2:RepM k1 IsItem H' d' xp')(hn:∀ c,cj A.ap xp' c->cj A.ap xp c\/H c=none)
 (kp:∀ c u,H c=some u->¬ cj A.ap xp c->H' c=some u):bo CP CQ B H' A rs { S with aE:=d' } xs xl xr xp' kt (mQ col 1 H):=by
 have k:KT H H':=h.p1.d.kt (fun _ _ z=>HO.noConfusion z) kp;have kj:∀ c u,H c=some u->col c≠1->H' c=some u:=fun c u e n=>kp c u e fun i=>n (h.p1.c c i).1;exact⟨(fun c u e=>kp c u (h.same c u e) fun i=>by rw[(h.p1.c c i).2]at e;cases e),h.p1.new h.same h1 h2 hn,h.p2.keep (IsSet.keep k) (fun c u e z=>kj c u e (by lia)) fun c=>bq,h.p3.keep (IsLack.keep k) (fun c u e z=>kj c u e (by lia)) fun c=>bq,h.p4.keep (IsNum.keep k) (fun c u e z=>kj c u e (by lia)) fun c=>bq,h.po.keep k (fun c u e z _=>kj c u e (by lia)) fun c=>bq⟩
theorem bo.F8 (h:bo CP CQ B H A rs S xs xl xr xp kt col)(h1:DL .dT H' A.sa xs')(h2:RepM k2 IsSet H' d' xs')(hn:∀ c,cj A.sa xs' c->cj A.sa xs c\/H c=none)
 (kp:∀ c u,H c=some u->¬ cj A.sa xs c->H' c=some u):bo CP CQ B H' A rs { S with settled:=d' } xs' xl xr xp kt (mQ col 2 H):=by
 have k:KT H H':=h.p2.d.kt (fun _ _ z=>HO.noConfusion z) kp;have kj:∀ c u,H c=some u->col c≠2->H' c=some u:=fun c u e n=>kp c u e fun i=>n (h.p2.c c i).1;exact⟨(fun c u e=>kp c u (h.same c u e) fun i=>by rw[(h.p2.c c i).2]at e;cases e),h.p1.keep (IsItem.keep k) (fun c u e z=>kj c u e (by lia)) fun c=>bq,h.p2.new h.same h1 h2 hn,h.p3.keep (IsLack.keep k) (fun c u e z=>kj c u e (by lia)) fun c=>bq,h.p4.keep (IsNum.keep k) (fun c u e z=>kj c u e (by lia)) fun c=>bq,h.po.keep k (fun c u e z _=>kj c u e (by lia)) fun c=>bq⟩
theorem bo.mL (h:bo CP CQ B H A rs S xs xl xr xp kt col)(h1:DL .dT H' A.la xl')(h2:RepM k2 IsLack H' d' xl')(hn:∀ c,cj A.la xl' c->cj A.la xl c\/H c=none)
 (kp:∀ c u,H c=some u->¬ cj A.la xl c->H' c=some u):bo CP CQ B H' A rs { S with aH:=d' } xs xl' xr xp kt (mQ col 3 H):=by
 have k:KT H H':=h.p3.d.kt (fun _ _ z=>HO.noConfusion z) kp;have kj:∀ c u,H c=some u->col c≠3->H' c=some u:=fun c u e n=>kp c u e fun i=>n (h.p3.c c i).1;exact⟨(fun c u e=>kp c u (h.same c u e) fun i=>by rw[(h.p3.c c i).2]at e;cases e),h.p1.keep (IsItem.keep k) (fun c u e z=>kj c u e (by lia)) fun c=>bq,h.p2.keep (IsSet.keep k) (fun c u e z=>kj c u e (by lia)) fun c=>bq,h.p3.new h.same h1 h2 hn,h.p4.keep (IsNum.keep k) (fun c u e z=>kj c u e (by lia)) fun c=>bq,h.po.keep k (fun c u e z _=>kj c u e (by lia)) fun c=>bq⟩
theorem bo.more (h:bo CP CQ B H A rs S xs xl xr xp kt col)(s:Same H H'):bo CP CQ B H' A rs S xs xl xr xp kt col:=by have k:KT H H':=fun a ws e=>s a _ e;exact⟨h.same.trans s,h.p1.keep (IsItem.keep k) (fun c u e _=>s c u e) fun _ _=>rfl,h.p2.keep (IsSet.keep k) (fun c u e _=>s c u e) fun _ _=>rfl,h.p3.keep (IsLack.keep k) (fun c u e _=>s c u e) fun _ _=>rfl,h.p4.keep (IsNum.keep k) (fun c u e _=>s c u e) fun _ _=>rfl,h.po.keep k (fun c u e _ _=>s c u e) fun _ _=>rfl⟩
theorem PAt.more (h:PAt CP CQ B H A rs S xs xl xr)(s:Same H H'):PAt CP CQ B H' A rs S xs xl xr:=let ⟨xp,kt,col,h⟩:=h;⟨xp,kt,col,h.more s⟩
theorem bo.tell (h:bo CP CQ B H A rs S xs xl xr xp kt col)(hp:H p=some (.tup [.int x.1,vO x.2.1,vO x.2.2])) :
 bo CP CQ B (upd H A.ta (.dT (bE kt (ak a) (.ref p)))) A rs { S with told:=Pz.tput S.told a x } xs xl xr xp (bE kt (ak a) (.ref p)) col:=by
 have kp:∀ c u,H c=some u->col c≠5->upd H A.ta (.dT (bE kt (ak a) (.ref p))) c=some u:=fun c u e n=>by rw[au (fun z=>n (by rw[z];exact h.po.c5.1))];exact e
 have k:KT H (upd H A.ta (.dT (bE kt (ak a) (.ref p)))):=fun c ws e=>by rw[au (fun z=>by rw[z,h.po.td]at e;cases e)];exact e
 obtain⟨⟨dx,h1⟩,⟨dy,h2⟩,h3,h4,c5,c6,c7⟩:=h.po;refine⟨fun c u e=>?_,h.p1.keep (IsItem.keep k) (fun c u e z=>kp c u e (by lia)) fun _ _=>rfl,h.p2.keep (IsSet.keep k) (fun c u e z=>kp c u e (by lia)) fun _ _=>rfl,h.p3.keep (IsLack.keep k) (fun c u e z=>kp c u e (by lia)) fun _ _=>rfl,h.p4.keep (IsNum.keep k) (fun c u e z=>kp c u e (by lia)) fun _ _=>rfl,⟨dx,kp _ _ h1 (by lia)⟩,⟨dy,kp _ _ h2 (by lia)⟩,af,(h4.keep k).put ⟨p,rfl,k _ _ hp⟩,c5,c6,c7⟩;rw[au (fun z=>by grind)];exact h.same c u e
theorem bo.wide (h:bo CP CQ B H A rs S xs xl xr xp kt col)(Z:Addr->Prop)(hz:∀ c,Z c->¬ cj A.ap xp c/\¬ cj A.sa xs c/\¬ cj A.la xl c/\¬ cj A.ar xr c/\c≠A.ta/\c≠A.o/\c≠A.aq) :
 ∃ B',Same B B'/\KT H B'/\(∀ c u,Z c->H c=some u->B' c=some u)/\bo CP CQ B' H A rs S xs xl xr xp kt col:=by
 classical
 refine⟨fun c=>if B c≠none\/Z c\/∃ ws,H c=some (.tup ws) then H c else none,fun c u e=>?_,fun c ws e=>?_,fun c u z e=>?_,fun c u e=>?_,h.p1.base fun c i=>?_,h.p2.base fun c i=>?_,h.p3.base fun c i=>?_,h.p4.base fun c i=>?_,h.po.ins,h.po.wK,h.po.td,h.po.tr,⟨h.po.c5.1,?_⟩,⟨h.po.c6.1,?_⟩,⟨h.po.c7.1,?_⟩⟩
 .dsimp only;rw[IS (.inl (by grind))];exact h.same c u e
 .dsimp only;rw[IS (.inr (.inr ⟨ws,e⟩))];exact e
 .dsimp only;rw[IS (.inr (.inl z))];exact e
 .split at e
  .exact e
  .cases e
 all_goals
  refine IK fun q=>?_
 .rcases q with q|q|⟨ws,q⟩
  .exact q (h.p1.c c i).2
  .exact(hz c q).1 i
  .rcases i with rfl|⟨x,hx,rfl⟩
   .rw[h.p1.d.root]at q;cases q
   .rw[h.p1.d.nA x hx]at q;cases q
 .rcases q with q|q|⟨ws,q⟩
  .exact q (h.p2.c c i).2
  .exact(hz c q).2.1 i
  .rcases i with rfl|⟨x,hx,rfl⟩
   .rw[h.p2.d.root]at q;cases q
   .rw[h.p2.d.nA x hx]at q;cases q
 .rcases q with q|q|⟨ws,q⟩
  .exact q (h.p3.c c i).2
  .exact(hz c q).2.2.1 i
  .rcases i with rfl|⟨x,hx,rfl⟩
   .rw[h.p3.d.root]at q;cases q
   .rw[h.p3.d.nA x hx]at q;cases q
 .rcases q with q|q|⟨ws,q⟩
  .exact q (h.p4.c c i).2
  .exact(hz c q).2.2.2.1 i
  .rcases i with rfl|⟨x,hx,rfl⟩
   .rw[h.p4.d.root]at q;cases q
   .rw[h.p4.d.nA x hx]at q;cases q
 .rcases q with q|q|⟨ws,q⟩
  .exact q h.po.c5.2
  .exact(hz _ q).2.2.2.2.1 rfl
  .rw[h.po.td]at q;cases q
 .rcases q with q|q|⟨ws,q⟩
  .exact q h.po.c6.2
  .exact(hz _ q).2.2.2.2.2.1 rfl
  .obtain⟨dx,e⟩:=h.po.ins;rw[e]at q;cases q
 .rcases q with q|q|⟨ws,q⟩
  .exact q h.po.c7.2
  .exact(hz _ q).2.2.2.2.2.2 rfl
  .obtain⟨dx,e⟩:=h.po.wK;rw[e]at q;cases q
theorem PAt.less (h:PAt CP CQ B' H A rs S xs xl xr)(s:Same B B'):PAt CP CQ B H A rs S xs xl xr:=by obtain⟨xp,kt,col,h⟩:=h;refine⟨xp,kt,col,s.trans h.same,h.p1.base fun c i=>s.free (h.p1.c c i).2,h.p2.base fun c i=>s.free (h.p2.c c i).2,h.p3.base fun c i=>s.free (h.p3.c c i).2,h.p4.base fun c i=>s.free (h.p4.c c i).2,h.po.ins,h.po.wK,h.po.td,h.po.tr,⟨h.po.c5.1,s.free h.po.c5.2⟩,⟨h.po.c6.1,s.free h.po.c6.2⟩,⟨h.po.c7.1,s.free h.po.c7.2⟩⟩
theorem PAt.same (h:PAt CP CQ B H A rs S xs xl xr):Same B H:=let ⟨_,_,_,h⟩:=h;h.same
end
theorem xQ (x y:Nat):Builtin.bitXor (x:Int) (y:Int)=(((x ||| y)-(x &&& y):Nat):Int):=by
 have n1:∀ z:Nat,decide (0<=Builtin.bitNot (z:Int))=false:=fun z=>IQ (by unfold Builtin.bitNot;lia);have n2:∀ z:Nat,(Builtin.bitNot (Builtin.bitNot (z:Int))).toNat=z:=fun z=>by unfold Builtin.bitNot;lia
 have p1:∀ z:Nat,decide (0<=(z:Int))=true:=fun z=>IJ (by lia);have eA:Builtin.bitAnd (x:Int) (y:Int)=((x &&& y:Nat):Int):=by unfold Builtin.bitAnd;rw[p1,p1];rfl
 have eO:Builtin.bitOr (x:Int) (y:Int)=((x ||| y:Nat):Int):=by unfold Builtin.bitOr Builtin.bitAnd;rw[n1,n1];show Builtin.bitNot (Builtin.bitNot (((Builtin.bitNot (Builtin.bitNot (x:Int))).toNat ||| (Builtin.bitNot (Builtin.bitNot (y:Int))).toNat:Nat):Int))=_;rw[n2,n2];unfold Builtin.bitNot;lia
 unfold Builtin.bitXor;rw[eA,eO];have:x &&& y<=x ||| y:=IV Nat.and_le_left Nat.left_le_or;lia
theorem qO:Pz.nE az:=by
 have key:∀{p l:Int},0<=p->0<=l->∃ z:Nat,az p l=(z:Int)/\∀ k:Nat,z<=k↔p / 2 ^ k=l / 2 ^ k:=by
  intro p l hp hl;obtain⟨x,rfl⟩:=Jj hp;obtain⟨y,rfl⟩:=Jj hl;refine⟨_,rfl,fun k=>?_⟩;rw[xQ];unfold Builtin.Int.intBits;rw[Pz.xM,Pz.xL];have e:∀ z:Nat,(z:Int) / 2 ^ k=((z / 2 ^ k:Nat):Int):=fun z=>by rw[Int.natCast_ediv];norm_cast
  rw[e,e];lia
 constructor
 .intro p l hp hl;obtain⟨z,e,_⟩:=key hp hl;rw[e];lia
 .intro p l hp hl k;obtain⟨z,e,h⟩:=key hp hl;rw[e,<- h k];lia
section
variable {K:LM}{C q ap:Addr}{H:Hp}{last:Int}
inductive iL (C:Addr):Sp
 |mk {q dx:Addr} {H:Hp} {Q:VK} {E:XK} (hq:H q=some (.ins C dx [])) (k:∀(d:Addr)(H':Hp),H d=none->H' q=some (.ins C dx [("last",.int 0),("piles",.ref d)])->H' d=some (.dK [])->(∀ b o,H b=some o->b≠q->H' b=some o)->Q .bu H'):iL C [.ref q] H Q E
def Av (K:LM):TS:=aJ (ml K (ao 0) (tC (.int 0)) "last") (ml K (ao 0) my "piles")
theorem oz (h:iL C vs H Q E):vs.length=1:=by cases h;rfl
theorem pT (T:nz K C)(h:iL C vs H Q E):Av K (eQ Q) (bc N vs) H:=by
 obtain @⟨q,dx,_,_,_,hq,k⟩:=h;refine⟨_,rfl,q,C,dx,[],rfl,hq,T.cl,T.nl,(by show 0<1000;decide),?_⟩;intro d hd;have hdq:d≠q:=fun e=>by rw[e,af]at hd;cases hd
 have hd0:H d=none:=by rw[au hdq]at hd;exact hd
 refine⟨_,rfl,q,C,dx,_,rfl,(by rw[au (Jn hdq),af]),T.cl,T.np,(by show 1<1000;decide),?_⟩;refine k d _ hd0 (by rw[af];rfl) (by rw[au hdq,af]) fun b o e hb=>?_;rw[au hb,au (am e hd0),au hb];exact e
inductive iU (C:Addr):Sp
 |mk {q ap dx:Addr} {last:Int} {kvs:List (ba×V)} {H:Hp} {Q:VK} {E:XK} (hq:H q=some (.ins C dx [("last",.int last),("piles",.ref ap)])) (ha:H ap=some (.dK kvs)) (hl:kvs.length<=sizeLine) (k:Q (.bl (decide (kvs.length=0))) H):iU C [.ref q] H Q E
def oA:List V->Hp->VK->Prop:=fun xs H Q=>∃(d:Addr)(kvs:List (ba×V))(u:HO),xs=[.ref d]/\(u=.dK kvs\/(u=.dT []/\kvs=[]))/\Rd H d u/\kvs.length<=sizeLine/\Q (.int kvs.length) H
theorem ff:cK X (.builtin "len") oA:=r_
def Aw (K:LM):TS:=bU (bn rC (g7 oA (ai (dh K (ao 0) "piles") aC)) (tC (.int 0)))
theorem oB (h:iU C vs H Q E):vs.length=1:=by cases h;rfl
theorem pU (T:nz K C)(h:iU C vs H Q E):Aw K (eQ Q) (bc N vs) H:=by
 obtain @⟨q,ap,dx,last,kvs,_,_,_,hq,ha,hl,k⟩:=h;refine⟨_,rfl,q,C,dx,_,_,rfl,hq,T.cl,T.np,rfl,ap,kvs,_,rfl,.inl rfl,.inl ha,hl,rfl,?_⟩;have:decide (V.int (kvs.length:Int)=V.int 0)=decide (kvs.length=0):=by apply decide_eq_decide.mpr;exact⟨fun e=>by injection e with e;lia,fun e=>by rw[e];rfl⟩
 rw[this];exact k
def E5 (C q ap:Addr)(d:Pz.Q Pz.Arr)(xp:DX ba)(H:Hp)(Q:VK):Prop:=∀(l:Addr)(vs':List V)(xp':DX ba)(H':Hp),BN C H' q ap (Pz.lowP d) xp'->RepM k1 IsItem H' (Pz.left az d) xp'->H' l=some (.lst vs')->aS (IsItem H') (Pz.cC az d) vs'->¬ cj ap xp' l->(cj ap xp l\/H l=none)->(∀ c,cj ap xp' c->cj ap xp c\/H c=none)->
 (∀ c u,H c=some u->¬ cj ap xp c->c≠q->H' c=some u)->Q (.ref l) H'
inductive kT (C:Addr):Sp
 |mk {q ap:Addr} {last:Int} {xp:DX ba} {d:Pz.Q Pz.Arr} {H:Hp} {Q:VK} {E:XK} (G:BN C H q ap last xp) (R:RepM k1 IsItem H d xp) (ok:Pz.o9 az last d) (hne:d≠[]) (hfew:d.flat.length<16000000)
  (k:E5 C q ap d xp H Q):kT C [.ref q] H Q E
theorem pV (h:kT C vs H Q E):vs.length=1:=by cases h;rfl
def Ax (K:LM):TS:=bU (j3 (dh K (ao 0) "piles") (tC (.int 0)))
def Cu (C:Addr):TS:=bY (dw C "add" (l9 C) [] E0 (ao 0) (ai (ao 2) (ai (ao 3) aC)))
def E6 (K:LM)(C:Addr):TS:=aJ (dS (cJ K (ao 1)) (dg K 2 (aU (aB 2) (aU (aB 3) de))) (Cu C)) (Ax K)
def Cv (K:LM) (C:Addr) (tm:TE):TS:=aJ (ml K (ao 0) tm "last") (E6 K C)
def f_ (K:LM) (C:Addr) (tm:TE):TS:=aJ (aY (j3 (dh K (ao 0) "piles") (g7 zi (ai (xm K "dict" zh (dh K (ao 0) "piles")) aC))) (aB 1)) (Cv K C tm)
def Ay (tm:TE):Prop:=∀(σ:L2.St)(H:Hp)(a:Addr)(vs:List V)(its:List (Int×Pz.Arr))(Q:VK),σ[1]?=some (some (.ref a))->H a=some (.lst vs)->aS (IsItem H) its vs->its≠[]->its.length<16000000->(∀ H',Same H H'->Q (.int (Pz.lo (its.map (·.1)))) H')->tm σ H Q
theorem qP (l:List Int):mF l=Pz.lo l:=by cases l<;>rfl
theorem xR {κ:Type}(xs:DX κ):xs.kv.map (·.1)=xs.map (·.1):=by unfold DX.kv;rw[JK];rfl
theorem BN.ne (G:BN C H q ap last xp)(i:cj ap xp c):c≠q:=fun e=>by
 obtain⟨dx,hq⟩:=G.ins;rcases i with z|⟨x,hx,z⟩
 .have:=G.aE.root;rw[<- z,e,hq]at this;cases this
 .have:=G.aE.nA x hx;rw[<- z,e,hq]at this;cases this
end
section
variable {K:LM}{C q ap:Addr}{H:Hp}{last:Int}{xp:DX ba}
theorem js (m:Int)(d:Pz.Q Pz.Arr)(l:List (Int×Pz.Arr))(x:Int×Pz.Arr):Pz.cm az m d (l++[x])=(Pz.cm az m d l).app (az x.1 m) x:=by unfold Pz.cm;rw[Kj];rfl
theorem mR (s:Same H H'):KT H H':=fun a ws e=>s a _ e
variable {D:Ends}{σ:L2.St}{d:Pz.Q Pz.Arr}{H0:Hp}{p:Addr×List V}{i:Nat}{xi:DX ba}
structure EA (C q ap:Addr) (d:Pz.Q Pz.Arr) (H0:Hp) (xp:DX ba) (p:Addr×List V) (i:Nat) (H:Hp) (xi:DX ba):Prop where
 G:BN C H q ap (Pz.lowP d) xi
 R:RepM k1 IsItem H (Pz.cm az (Pz.lowP d) (d.drop (Pz.bQ d)) ((d.get (Pz.bQ d)).take i)) xi
 l:H p.1=some (.lst p.2)
 n:¬ cj ap xi p.1
 a:aS (IsItem H) (d.get (Pz.bQ d)) p.2
 sub:∀ c,cj ap xi c->cj ap xp c\/H0 c=none
 kp:∀ c u,H0 c=some u->¬ cj ap xp c->c≠q->H c=some u
def Er (q:Addr)(l:Addr)(σ:L2.St):Prop:=∃ u v,σ=[some (.ref q),some (.ref l),u,v]
theorem GV (I:EA C q ap d H0 xp p i H xi)(hx:(d.get (Pz.bQ d))[i]?=some x)(h:IsItem H x v)(hs:Er q p.1 σ)(ok:(Pz.cm az (Pz.lowP d) (d.drop (Pz.bQ d)) ((d.get (Pz.bQ d)).take (i+1))).Ok)(kX:(Pz.cm az (Pz.lowP d) (d.drop (Pz.bQ d)) ((d.get (Pz.bQ d)).take (i+1))).flat.length<16000000)
 (k:∀ σ' H' xi',Er q p.1 σ'->EA C q ap d H0 xp p (i+1) H' xi'->D.nx σ' H'):dg K 2 (aU (aB 2) (aU (aB 3) de)) v σ H fun σ2 H2=>Cu C D σ2 H2:=by
 obtain⟨t,_,rfl,ht,b,rfl,hb⟩:=h;obtain⟨u,w,rfl⟩:=hs;refine sA ht (ox (.va rfl) I.G.ins rfl (.c (.va rfl) (.c (.va rfl) .ni)) (.mk I.G fun l p' H6 hl hp' hm hq6 hD6 kp6=>?_));have kt6:KT H H6:=I.G.aE.kt (fun _ _ z=>HO.noConfusion z) kp6;rw[Jf,hx,show(some x).toList=[x] from rfl,js]at ok kX;have R6:RepM k1 IsItem H6 _ (i_ xi (.inl (az x.1 (Pz.lowP d))) l (.ref p')):=I.R.add (k:=az x.1 (Pz.lowP d)) jb (IsItem.keep kt6) ⟨p',_,rfl,hm,b,rfl,kt6 _ _ hb⟩;refine k _ H6 _ ⟨_,_,rfl⟩ ⟨⟨hq6,hD6,?_,R6.low kX⟩,?_,kp6 _ _ I.l I.n,fun z=>?_,I.a.mono (IsItem.keep kt6),fun c z=>?_,fun c u e n m=>?_⟩
 .have:=R6.len;have:=Pz.fC ok;exact Jy (by lia) kX
 .rw[Jf,hx,show(some x).toList=[x] from rfl,js];exact R6
 .rcases gE z with z|z
  .exact I.n z
  .rw[<- z,I.l]at hl;cases hl
 .rcases gE z with z|rfl
  .exact I.sub c z
  .by_cases i':cj ap xp c
   .exact .inl i'
   .refine .inr ?_;cases e:H0 c with
    |none=>rfl
    |some u=>
     by_cases z:c=q
     .obtain⟨_,hq⟩:=I.G.ins;rw[z,hq]at hl;cases hl
     .rw[I.kp c u e i' z]at hl;cases hl
 .exact kp6 _ _ (I.kp c u e n m) fun z=>(I.sub c z).elim n fun z=>by rw[z]at e;cases e
theorem qQ {κ:Type}[DecidableEq κ]{xs:DX κ}{k:κ}{a c:Addr}(i:cj a (iD xs k) c):cj a xs c:=i.imp id fun⟨x,hx,e⟩=>⟨x,(Js.mp hx).1,e⟩
theorem GW (T:nz K C)(TK:Pz.BE az last d)(hfew:d.flat.length<16000000)(I:EA C q ap d H0 xp p p.2.length H xi)(hs:Er q p.1 σ)
 (k:E5 C q ap d xp H0 D.rt):Ax K D σ H:=by
 obtain⟨u,w,rfl⟩:=hs;have Ri:=I.R;rw[Jx (by rw[I.a.len];exact Im _)]at Ri;have Ri:RepM k1 IsItem H (Pz.mid az d) xi:=Ri;have ha:=I.G.aE.root;obtain⟨dy,hq⟩:=I.G.ins;rcases Ri.find jb 0 with⟨_,hh,_⟩|⟨p1,f1,_,a1⟩
 .have:=Pz.has_iff.mpr TK.k3;rw[hh]at this;cases this
 delta Ax bU j3
 refine Ar (.va rfl) I.G.ins T.cl T.np rfl ⟨ap,rfl,.inl ⟨_,.inl ha⟩,xi.kv,k1 0,.ref p1.1,ha,rfl,(by rw[hG,f1];rfl),?_⟩;generalize hH6:upd H ap (.dK (gN xi.kv (k1 0)))=H6;have kp6:∀ c u,H c=some u->c≠ap->H6 c=some u:=fun c u e n=>by rw[<- hH6,au n];exact e
 obtain⟨D6,l6,n6⟩:=I.G.aE.drop (fun _ _ z=>HO.noConfusion z) f1 (by rw[<- hH6,af]) kp6;have kt6:KT H H6:=fun c ws e=>kp6 c _ e fun z=>by rw[z,ha]at e;cases e
 have R6:RepM k1 IsItem H6 (Pz.left az d) (iD xi (k1 0)):=(Ri.drop jb 0).keep (IsItem.keep kt6);have fl6:(Pz.left az d).flat.length<16000000:=by have:=TK.pm.length_eq;rw[IF]at this;lia
 have:=R6.len;have:=Pz.fC TK.ok.ok;exact k p1.1 p1.2 _ H6 ⟨⟨dy,kp6 _ _ hq fun e=>by rw[e,ha]at hq;cases hq⟩,D6,by lia,R6.low fl6⟩ R6 l6 (a1.mono (IsItem.keep kt6)) n6 (I.sub _ (.inr ⟨_,cD f1,rfl⟩)) (fun c z=>I.sub c (qQ z)) fun c u e n m=>kp6 _ _ (I.kp c u e n m) fun z=>n (.inl z)
theorem tk1 (T:nz K C) (HM:Ay tm) (TK:Pz.BE az last d) (ok:d.Ok) (hfew:d.flat.length<16000000) (hq:∃ dx,H q=some (.ins C dx [("last",.int last),("piles",.ref ap)])) (D2:DL .dK H ap xi) (R2:RepM k1 IsItem H (d.drop (Pz.bQ d)) xi) (nq:∀ c,cj ap xp c->c≠q) (l2:H p.1=some (.lst p.2)) (hp:p.1≠q) (n2:¬ cj ap xi p.1) (i0:aS (IsItem H) (d.get (Pz.bQ d)) p.2) (sub:∀ c,cj ap xi c->cj ap xp c) (kp:∀ c u,H0 c=some u->¬ cj ap xp c->H c=some u)
 (hs:σ=[some (.ref q),some (.ref p.1),none,none]) (k:E5 C q ap d xp H0 D.rt):Cv K C tm D σ H:=by
 subst hs;obtain⟨dx,hq⟩:=hq;refine HM _ H p.1 p.2 (d.get (Pz.bQ d)) _ rfl l2 i0 TK.k2 (Jy (Pz.jL d _) hfew) fun H3 s3=>?_;refine⟨_,rfl,q,C,dx,_,rfl,s3 _ _ hq,T.cl,T.nl,(by show 2<1000;decide),?_⟩;generalize hH4:upd H3 q (.ins C dx (eV "last" (.int (Pz.lo ((d.get (Pz.bQ d)).map (·.1)))) [("last",.int last),("piles",.ref ap)]))=H4;have kp4:∀ c u,H c=some u->c≠q->H4 c=some u:=fun c u e n=>by rw[<- hH4,au n];exact s3 c u e
 have q4:H4 q=some (.ins C dx [("last",.int (Pz.lowP d)),("piles",.ref ap)]):=by rw[<- hH4,af];rfl
 have kt4:KT H H4:=fun c ws e=>kp4 c _ e fun z=>by rw[z,hq]at e;cases e
 have ge:∀ y∈d.get (Pz.bQ d),Pz.lowP d<=y.1:=fun y hy=>Pz.uL (IT.mpr ⟨y,hy,rfl⟩);have fl:∀ i,((Pz.cm az (Pz.lowP d) (d.drop (Pz.bQ d)) ((d.get (Pz.bQ d)).take i))).flat.length<16000000:=fun i=>by rw[(Pz.gf TK.o1.ok).length_eq,IF];have:=Lb i (d.get (Pz.bQ d));have:=(Pz.i8 ok.nk (Pz.bQ d)).length_eq;rw[IF]at this;lia
 have okI:∀ i,(Pz.cm az (Pz.lowP d) (d.drop (Pz.bQ d)) ((d.get (Pz.bQ d)).take i)).Ok:=fun i=>(TK.o1.cm fun x hx=>ge x (List.mem_of_mem_take hx)).ok;have h3:=fl 0;have h2:=Pz.fC (okI 0);have h5:=R2.len;rw[List.take_zero]at h3 h2;have h4:(Pz.cm az (Pz.lowP d) (d.drop (Pz.bQ d)) [])=d.drop (Pz.bQ d):=rfl;rw[h4]at h3 h2;refine⟨_,rfl,p.1,rfl,⟨_,SqL.of (kp4 _ _ l2 hp)⟩,eR (K:=K) (a:=p.1) (xs:=p.2) (fun i σ H5=>Er q p.1 σ/\∃ xi,EA C q ap d H0 xp p i H5 xi)
  ⟨⟨none,none,rfl⟩,xi,⟨⟨dx,q4⟩,D2.keep fun c u e i=>kp4 c u e (nq c (sub c i)),by lia,R2.low h3⟩,?_,kp4 _ _ l2 hp,n2,i0.mono (IsItem.keep kt4),fun c i=>.inl (sub c i),fun c u e n m=>kp4 c u (kp c u e n) m⟩
  (fun i σ H5 _ ⟨_,xi,I⟩=>SqL.of I.l) (fun i y σ H5 hi ⟨hs,xi,I⟩=>?_) fun σ H5 ⟨hs,xi,I⟩=>GW T TK hfew I hs k⟩
 .rw[List.take_zero];exact R2.keep (IsItem.keep kt4)
 .obtain⟨x,hx,hy⟩:=I.a.get hi;exact GV I hx hy hs (okI _) (fl _) fun σ' H' xi' h1 h2=>⟨h1,xi',h2⟩
theorem sD (T:nz K C) (hna:∀(last:Int)(ap:Addr),List.lookup ("add" : Str) ([("last",V.int last),("piles",V.ref ap)]:List (Str×V))=none) (HM:Ay tm) (h:kT C vs H Q E) :
 f_ K C tm (eQ Q) (bc (nS 4) vs) H:=by
 obtain @⟨q,ap,last,xp,d,H,Q,_,G,R,ok,hne,hfew,k⟩:=h;have TK:=Pz.sk qO ok hne;have hap:=G.aE.root
 delta f_ aJ aY j3
 refine Ar (.va rfl) G.ins T.cl T.np rfl ⟨ap,rfl,.inl ⟨_,.inl hap⟩,Ar (.va rfl) G.ins T.cl T.np rfl ⟨.inr (.inr (.inl ⟨rfl,.inl ⟨_,hap⟩⟩)),ap,_,rfl,rfl,hap,fun v hv=>?_⟩⟩;have hva:ap≠v:=am hap hv;refine⟨v,ap,xp.kv,d.keys,rfl,af,(by rw[au hva];exact hap),(by rw[xR,R.keys];rfl),(by intro e;exact hne (List.map_eq_nil_iff.mp e)),?_⟩;rcases R.find jb (Pz.bQ d) with⟨_,_,e⟩|⟨p0,f0,_,a0⟩
 .exact(TK.k2 e).elim
 refine⟨xp.kv,k1 (Pz.bQ d),.ref p0.1,(by rw[au hva];exact hap),(by rw[qP];rfl),(by rw[hG,f0];rfl),?_⟩;generalize hH2:upd (upd H v (oy v ap)) ap (.dK (gN xp.kv (k1 (Pz.bQ d))))=H2;have kp2:∀ c u,H c=some u->c≠ap->H2 c=some u:=fun c u e n=>by rw[<- hH2,au n,au (am e hv)];exact e
 obtain⟨D2,l2,n2⟩:=G.aE.drop (fun _ _ z=>HO.noConfusion z) f0 (by rw[<- hH2,af]) kp2;have kt2:KT H H2:=fun c ws e=>kp2 c _ e fun z=>by rw[z,hap]at e;cases e
 obtain⟨dx,hq⟩:=G.ins;exact tk1 T HM TK ok.ok hfew ⟨dx,kp2 _ _ hq fun e=>by rw[e,hap]at hq;cases hq⟩ D2 ((R.drop jb _).keep (IsItem.keep kt2)) (fun c=>G.ne) l2 (G.ne (.inr ⟨_,cD f0,rfl⟩)) n2 (a0.mono (IsItem.keep kt2)) (fun c=>qQ) (fun c u e n=>kp2 c u e fun z=>n (.inl z)) rfl k
end
structure gL (K:LM) (C:Addr):Prop where
 cl:nv K C
 nr:NoAttr K C "rules"
 nt:NoAttr K C "told"
 no:NoAttr K C "offers"
 ns:NoAttr K C "settled"
 nl:NoAttr K C "lacking"
theorem E7 (A:PA):(pf A).lookup ("rules" : Str)=some (V.ref A.ar):=rfl
theorem xS (A:PA):(pf A).lookup ("told" : Str)=some (V.ref A.ta):=rfl
theorem Az (A:PA):(pf A).lookup ("offers" : Str)=some (V.ref A.aq):=rfl
theorem Cw (A:PA):(pf A).lookup ("settled" : Str)=some (V.ref A.sa):=rfl
theorem Cy (A:PA):(pf A).lookup ("lacking" : Str)=some (V.ref A.la):=rfl
theorem AA (A:PA) (last:Int):(qf A last).lookup ("add" : Str)=none:=rfl
section
variable {K:LM}
inductive cZ (CP CQ:Addr):Sp
 |mk {B H:Hp} {A:PA} {rs:Pz.RS} {S:Pz.PS} {xs xl xr:DX (List ba)} {b:Addr} {a:Pz.Arr} {p:Int} {n m:Option Int} {Q:VK} {E:XK} (P:PAt CP CQ B H A rs S xs xl xr) (hb:H b=some (.tup (gj a))) (f:Pz.gY (Pz.a_ az S a p n m)) (k:∀ H',PAt CP CQ B H' A rs (Pz.a_ az S a p n m) xs xl xr->Q .bu H'):cZ CP CQ [.ref A.o,.ref b,.int p,vO n,vO m] H Q E
def mS:R2:=fun x y H Q=>y=.bu/\Q (.bl (decide (x=.bu))) H
theorem hI:iV X (compareOp .Is) mS:=z0
def Es:R2:=tM fun i j=>.bl (decide (i<j))
def AB (K:LM) (CQ:Addr):TS:=aJ (ik (dh K (ao 0) "told") (ao 1) (bN (ai (ao 2) (ai (ao 3) (ai (ao 4) aC)))))
 (bY (dw CQ "add" (l9 CQ) [] E0 (dh K (ao 0) "offers") (ai (ao 2) (ai (ao 1) aC))))
def Cz (K:LM)(CQ:Addr):TS:=cy (yT (bv (bn mS (ao 5) (tC .bu))) (bv (bn Es (ao 2) (bn (ig K) (ao 5) (tC (.int 0)))))) (AB K CQ) bX
def uQ (K:LM) (CQ:Addr):TS:=aJ (aY (mB (dh K (ao 0) "told") (ao 1)) (aB 5)) (Cz K CQ)
theorem oC (h:cZ CP CQ vs H Q E):vs.length=5:=by cases h;rfl
variable {D:Ends}
theorem bo.fld (P:bo CP CQ B H A rs S xs xl xr xp kt col)(cl:nv K CP)(n:NoAttr K CP f)(hl:(pf A).lookup f=some v)(h:σ[i]?=some (some (.ref A.o))):Reads (dh K (ao i) f) σ H v:=.fld (.va h) P.po.ins cl n hl
theorem bo.rd (P:bo CP CQ B H A rs S xs xl xr xp kt col)(cl:nv K CP)(n:NoAttr K CP f)(hl:(pf A).lookup f=some v)(h:σ[i]?=some (some (.ref A.o)))(q:Q v H):dh K (ao i) f σ H Q:=P.fld cl n hl h _ q
theorem oE (TP:gL K CP)(P:bo CP CQ B H A rs S xs xl xr xp kt col)(hb:H b=some (.tup (gj a)))(fit:Pz.gY (Pz.gg az S a p n m))
 (k:∀ σ H',PAt CP CQ B H' A rs (Pz.gg az S a p n m) xs xl xr->D.nx σ H'):AB K CQ D [some (.ref A.o),some (.ref b),some (.int p),some (vO n),some (vO m),some w] H:=by
 delta AB aJ ik
 refine fU (.c (.va rfl) (.c (.va rfl) (.c (.va rfl) .ni))) rfl fun t ht'=>?_;have s1:Same H (upd H t (.tup [.int p,vO n,vO m])):=aw ht';have P1:=P.more s1;have ht:=P1.po.td;have hb1:=s1 _ _ hb;have hl:kt.length<sizeLine:=by have e1:S.told.length=kt.length:=P.po.tr.len;have e2:=fit.t;have e3:=(Pz.oo S.told a (p,n,m)).1;have e4:(Pz.gg az S a p n m).told=Pz.tput S.told a (p,n,m):=rfl;rw[e4]at e2;rw[IY];unfold Pz.L at e2;lia
 refine P1.rd TP.cl TP.nt (xS A) rfl ⟨_,rfl,A.ta,_,rfl,DPut.t (k:=ak a) ht hb1 hl,?_⟩;have P2:=P1.tell (a:=a) (x:=(p,n,m)) (p:=t) af;have hb2:upd (upd H t (.tup [.int p,vO n,vO m])) A.ta (.dT (bE kt (ak a) (.ref t))) b=some (.tup (gj a)):=by rw[au (fun z=>by rw[z,ht]at hb1;cases hb1)];exact hb1
 generalize upd (upd H t (.tup [.int p,vO n,vO m])) A.ta (.dT (bE kt (ak a) (.ref t)))=H2 at P2 hb2;clear P1 ht hb1 s1 hl ht';have fitp:=fit.p;have fitf:=fit.pf;have al:=Pz.dF S.aE (az p S.last) (p,a);have e5:(Pz.gg az S a p n m).aE=S.aE.app (az p S.last) (p,a):=rfl;rw[e5]at fitp fitf;unfold Pz.L at fitp fitf;have pr2:RepM k1 IsItem H2 S.aE xp:=P2.p1.r;refine ox (P2.fld TP.cl TP.no (Az A) rfl) P2.po.wK (AA A _) (.c (.va rfl) (.c (.va rfl) .ni)) (.mk ⟨P2.po.wK,P2.p1.d,by rw[<- pr2.len];lia,pr2.low (by lia)⟩ ?_);intro l p' H3 hl3 hp3 hm3 hq3 hd3 kp3;have kk:=P2.p1.d.kt (fun _ _ z=>HO.noConfusion z) kp3;exact k _ H3 ⟨_,_,_,P2.pile hd3 (pr2.add jb (IsItem.keep kk) ⟨p',_,rfl,hm3,b,rfl,kk _ _ hb2⟩) (fun c z=>(gE z).imp id fun z=>by rw[z];exact hl3) kp3⟩
theorem uR (TP:gL K CP)(P:bo CP CQ B H A rs S xs xl xr xp kt col)(hb:H b=some (.tup (gj a)))(fit:Pz.gY (Pz.a_ az S a p n m))
 (k:∀ σ H',PAt CP CQ B H' A rs (Pz.a_ az S a p n m) xs xl xr->D.nx σ H'):Cz K CQ D [some (.ref A.o),some (.ref b),some (.int p),some (vO n),some (vO m),some ((cf kt (ak a)).getD .bu)] H:=by
 unfold Pz.a_ at fit k;rcases P.po.tr.find a with⟨e1,e2⟩|⟨v,x,e1,e2,q,rfl,hq⟩
 .rw[IS (show Pz.e_ S a p=true by unfold Pz.e_;rw[e2])]at fit k;rw[e1];exact⟨_,rfl,rfl,_,rfl,oE TP P hb fit k⟩
 .rw[e1];refine⟨_,rfl,rfl,_,rfl,?_⟩;refine iC (c:=decide (p<x.1)) (.op (.va rfl) (.ix (.va rfl) hq rfl) (fun _ q=>⟨p,x.1,rfl,rfl,q⟩)) (fun h=>?_) (fun h=>?_)
  .rw[IS (show Pz.e_ S a p=true by unfold Pz.e_;rw[e2];exact h)]at fit k;exact oE TP P hb fit k
  .rw[IK fun z=>by unfold Pz.e_ at z;rw[e2]at z;exact h z]at k;exact k _ H ⟨xp,kt,col,P⟩
theorem pW (TP:gL K CP)(TQ:nz K CQ)(h:cZ CP CQ vs H Q E):uQ K CQ (eQ Q) (bc (nS 6) vs) H:=by
 obtain⟨⟨xp,kt,col,P⟩,hb,fit,k⟩:=h
 delta uQ aJ aY mB
 exact P.rd TP.cl TP.nt (xS _) rfl ⟨_,rfl,.inr ⟨_,.inl P.po.td⟩,_,rfl,_,DGet.t (k:=ak _) P.po.td hb,uR TP P hb fit fun _=>k⟩
theorem mT (P:PAt CP CQ B H A rs S xs xl xr)(f:Pz.gY (Pz.a_ az S a p n m))(h:Reads ta σ H (.ref A.o))(ht:Makes te σ H (gj a))(hr:∀ H',Same H H'->ReadsA tr σ H' [.int p,vO n,vO m])(k:∀ H',PAt CP CQ B H' A rs (Pz.a_ az S a p n m) xs xl xr->D.nx σ H') :
 bY (dw CP "offer" (cZ CP CQ) [] E0 ta (ai te tr)) D σ H:=by
 have P':=P;obtain⟨_,_,_,Q4⟩:=P';obtain⟨dx,hi⟩:=Q4.po.ins;exact h _ ⟨A.o,dx,_,rfl,hi,rfl,ht _ fun q hq=>hr _ (aw hq) _ (.mk (P.more (aw hq)) af f k)⟩
end
section
variable {K:LM}{CP CQ:Addr}{B H:Hp}{A:PA}{rs:Pz.RS}{S:Pz.PS}{xs xl xr:DX (List ba)}{xp:DX ba}{kt:List (List ba×V)}{col:Addr->Nat}
theorem bo.obj (P:bo CP CQ B H A rs S xs xl xr xp kt col)(hz:H z=none):¬ cj A.ap xp z/\¬ cj A.sa xs z/\¬ cj A.la xl z/\¬ cj A.ar xr z/\z≠A.ta/\z≠A.o/\z≠A.aq:=by
 refine⟨fun i=>P.p1.d.obj i hz,fun i=>P.p2.d.obj i hz,fun i=>P.p3.d.obj i hz,fun i=>P.p4.d.obj i hz,fun e=>?_,fun e=>?_,fun e=>?_⟩
 .rw[e,P.po.td]at hz;cases hz
 .obtain⟨_,h⟩:=P.po.ins;rw[e,h]at hz;cases hz
 .obtain⟨_,h⟩:=P.po.wK;rw[e,h]at hz;cases hz
theorem xT {α:Type}{it:Hp->α->V->Prop}(hk:∀ H H',KT H H'->∀ x v,it H x v->it H' x v){a:Addr}{f:Str}{ys:DX (List ba)}{d:Pz.MD (Int×Int) α}(P:bo CP CQ B H A rs S xs xl xr xp kt col)(hD:DL .dT H a ys)(hR:RepM k2 it H d ys)
 (cl:nv K CP) (nf:NoAttr K CP f) (hf:(pf A).lookup f=some (V.ref a)) {σ:L2.St} {j:Nat} {b:Addr} {k:Int×Int} (h0:σ[0]?=some (some (.ref A.o))) (hj:σ[j]?=some (some (.ref b))) (hb:H b=some (.tup [.int k.1,.int k.2])) {Q:VK}
 (kk:∀(l:Addr)(vs:List V)(B1 H1:Hp),Same H H1->Same B B1->KT H1 B1->bo CP CQ B1 H1 A rs S xs xl xr xp kt col->H1 l=some (.lst vs)->(∀ H2,Same B1 H2->DL .dT H2 a ys->H2 l=some (.lst vs)/\aS (it H2) (d.get k) vs)->Q (.ref l) H1) :
 dU (dh K (ao 0) f) (ao j) (ce aC) σ H Q:=by
 delta dU
 refine P.rd cl nf hf h0 ⟨a,rfl,.inr ⟨_,.inl hD.root⟩,_,hj,IL _,fun z hz=>?_⟩;have s1:Same H (upd H z (.lst [])):=aw hz;have hb1:upd H z (.lst []) b=some (.tup ((k2 k).map kV)):=s1 _ _ hb;refine⟨_,DGet.t (s1 _ _ hD.root) hb1,?_⟩;have P1:=P.more s1;rcases hR.find ky k with⟨f1,f2,f3⟩|⟨p,f1,f2,f3⟩
 .rw[hG,f1];obtain⟨B1,w1,w2,w3,w4⟩:=P1.wide (fun c=>c=z) fun c e=>by subst e;exact P.obj hz
  refine kk z [] B1 _ s1 w1 w2 w4 af fun H2 s2 _=>⟨s2 _ _ (w3 z _ rfl af),?_⟩;rw[f3];exact .nil
 .rw[hG,f1];obtain⟨B1,w1,w2,w3,w4⟩:=P1.wide (fun _=>False) fun _ e=>e.elim;refine kk p.1 p.2 B1 _ s1 w1 w2 w4 (s1 _ _ (hD.nA _ (cD f1))) fun H2 s2 D2=>⟨D2.nA _ (cD f1),f3.mono (hk _ _ fun c ws e=>s2 _ _ (w2 _ _ (s1 _ _ e)))⟩
def Wk (J:L2.It)(g:TG)(tb:TS)(D:Ends)(σ:L2.St)(H:Hp):Prop:=∃ W:Nat->Nat->L2.St->Hp->Prop,(∃ m,W 0 m σ H)/\∀ i m σ H,W i m σ H->
 (J.stop i H/\D.nx σ H)\/(J.go i H/\∃ N:L2.St->Hp->Prop,(∀ σ' H',N σ' H'->∃ m',m'<m/\W (i+1) m' σ' H')/\∀ x H',J.tS i H x H'->g x σ H' fun σ2 H2=>tb { D with nx:=N,ct:=N,bk:=D.nx } σ2 H2)
theorem dQ {tb:TS}{D:Ends}{σ:L2.St}(h:tl σ H fun x H1=>∃ a,x=.ref a/\(∃ xs,SqL K H1 a xs)/\Wk (zV K a) g tb D σ H1):dS (cJ K tl) g tb D σ H:=h
theorem mU {α:Type}{it:Hp->α->V->Prop}{l:Addr}{vs:List V}{its:List α}{g:TG}{tb:TS}{D:Ends}{σ:L2.St}{H1:Hp}(Sh:L2.St->Prop)(step:Pz.PS->α->Pz.PS)(S0:Pz.PS)(W:Pz.PS->Hp->Prop)(h0:Sh σ)(h1:W S0 H1)
 (hW:∀ S H,W S H->Rd H l (.lst vs)/\aS (it H) its vs)
 (hb:∀(i:Nat)(x:α)(v:V)(σ:L2.St)(H:Hp)(D':Ends),its[i]?=some x->it H x v->Sh σ->W ((its.take i).foldl step S0) H->(∀ σ' H',Sh σ'->W (step ((its.take i).foldl step S0) x) H'->D'.nx σ' H')->g v σ H fun σ2 H2=>tb D' σ2 H2)
 (hd:∀ σ H,Sh σ->W (its.foldl step S0) H->D.nx σ H):Wk (zV K l) g tb D σ H1:=by
 have bH:its.length=vs.length:=(hW _ _ h1).2.len;refine eR (K:=K) (a:=l) (xs:=vs) (fun i σ H=>Sh σ/\W ((its.take i).foldl step S0) H) ⟨h0,h1⟩ (fun i σ H _ ⟨_,w⟩=>Or.inl (hW _ _ w).1) (fun i v σ H hi ⟨s,w⟩=>?_) fun σ H ⟨s,w⟩=>?_
 .obtain⟨x,hx,ix⟩:=(hW _ _ w).2.get hi;have e:(its.take (i+1)).foldl step S0=step ((its.take i).foldl step S0) x:=by rw[Jf,hx,Kj];rfl
  rw[e];exact hb i x v σ H _ hx ix s w fun _ _=>And.intro
 .rw[Jx (by lia)]at w;exact hd σ H s w
theorem mV {α:Type}{it:Hp->α->V->Prop}(hk:∀ H H',KT H H'->∀ x v,it H x v->it H' x v){a:Addr}{f:Str}{ys:DX (List ba)}{d:Pz.MD (Int×Int) α}(P:bo CP CQ B H A rs S xs xl xr xp kt col)(hD:DL .dT H a ys)(hR:RepM k2 it H d ys)
 (cl:nv K CP) (nf:NoAttr K CP f) (hf:(pf A).lookup f=some (V.ref a)) {σ:L2.St} {j:Nat} {b:Addr} {k:Int×Int} (h0:σ[0]?=some (some (.ref A.o))) (hj:σ[j]?=some (some (.ref b))) (hb:H b=some (.tup [.int k.1,.int k.2])) {g:TG} {tb:TS} {D:Ends} (Sh:L2.St->Prop) (step:Pz.PS->α->Pz.PS) (W:Hp->Pz.PS->Hp->Prop) (hs:Sh σ)
 (w0:∀ B1 H1,bo CP CQ B1 H1 A rs S xs xl xr xp kt col->W B1 S H1) (w1:∀ B1 T H1,W B1 T H1->Same B1 H1/\DL .dT H1 a ys)
 (hy:∀ B1 (i:Nat) x v σ H2 (D':Ends),KT H H2->(d.get k)[i]?=some x->it H2 x v->Sh σ->W B1 (((d.get k).take i).foldl step S) H2->(∀ σ' H',Sh σ'->W B1 (step (((d.get k).take i).foldl step S) x) H'->D'.nx σ' H')->g v σ H2 fun σ2 H3=>tb D' σ2 H3)
 (hd:∀ B1 σ H2,Same B B1->KT H H2->Sh σ->W B1 ((d.get k).foldl step S) H2->D.nx σ H2):dS (cJ K (dU (dh K (ao 0) f) (ao j) (ce aC))) g tb D σ H:=by
 refine dQ (xT hk P hD hR cl nf hf h0 hj hb fun l vs B1 H1 s1 b1 w3 P1 hl1 hkk=>?_);have kt1:∀ T H2,W B1 T H2->KT H H2:=fun T H2 w a ws e=>(w1 B1 T H2 w).1 _ _ (w3 _ _ (s1 _ _ e));exact⟨l,rfl,⟨_,SqL.of hl1⟩,mU (it:=it) Sh step S (W B1) hs (w0 B1 H1 P1) (fun T H2 w=>⟨.inl (hkk H2 (w1 B1 T H2 w).1 (w1 B1 T H2 w).2).1,(hkk H2 (w1 B1 T H2 w).1 (w1 B1 T H2 w).2).2⟩)
  (fun i x v σ H2 D' e1 e2 e3 e4=>hy B1 i x v σ H2 D' (kt1 _ _ e4) e1 e2 e3 e4) fun σ H2 s w=>hd B1 σ H2 b1 (kt1 _ _ w) s w⟩
theorem GX (ht:H b=some (.tup [x,y,z]))(k:Q (((σ.set i (some x)).set j (some y)).set l (some z)) H):dg K 3 (aU (aB i) (aU (aB j) (aU (aB l) de))) (.ref b) σ H Q:=⟨b,_,rfl,SqT.of ht,rfl,_,_,rfl,_,_,rfl,_,_,rfl,rfl,k⟩
theorem fg {α:Type}{step:Pz.PS->α->Pz.PS}(hg:∀ S x,Pz.dP S (step S x)){its:List α}{S0:Pz.PS}(h:Pz.gY (its.foldl step S0)){i:Nat}{x:α}(hx:its[i]?=some x):Pz.gY (step ((its.take i).foldl step S0) x):=by
 have e:(its.take (i+1)).foldl step S0=step ((its.take i).foldl step S0) x:=by rw[Jf,hx,Kj];rfl
 rw[<- e];refine Pz.dP.fit (Pz.bW step hg (its.drop (i+1)) _) ?_;rw[<- Kj,Kb];exact h
def ck:R2:=tM fun i j=>.int (i+j)
theorem Reads.add (h:Reads ta σ H (.int i))(h':Reads tb σ H (.int j)):Reads (bn ck ta tb) σ H (.int (i+j)):=h.op h' fun _ q=>⟨i,j,rfl,rfl,q⟩
inductive iP (CP CQ:Addr):Sp
 |mk {B H:Hp} {A:PA} {rs:Pz.RS} {S:Pz.PS} {xs xl xr:DX (List ba)} {c:Addr} {r:Pz.Rule} {num mid price:Int} {Q:VK} {E:XK} (P:PAt CP CQ B H A rs S xs xl xr) (hr:IsRule H r (.ref c)) (h2:2<=r.2.2.2.length) (f:Pz.gY (Pz.first az S num r mid price))
  (k:∀ H' xl',PAt CP CQ B H' A rs (Pz.first az S num r mid price) xs xl' xr->Q .bu H'):iP CP CQ [.ref A.o,.int num,.ref c,.int mid,.int price] H Q E
def CA (K:LM) (CP CQ:Addr):TS:=bY (dw CP "offer" (cZ CP CQ) [] E0 (ao 0) (ai (bN (ai (bn (ig K) (ao 2) (tC (.int 0))) (ai (bn (ig K) (ao 2) (tC (.int 1))) (ai (ao 6) aC))))
 (ai (bn ck (bn ck (ao 4) (ao 7)) (tC (.int 1))) (ai (ao 1) (ai (ao 3) aC)))))
def E8 (K:LM) (CP CQ:Addr):TS:=dS (cJ K (dU (dh K (ao 0) "settled") (ao 5) (ce aC))) (dg K 2 (aU (aB 6) (aU (aB 7) de))) (CA K CP CQ)
def CB (K:LM) (CP CQ:Addr):TS:=aJ (bY (kx K (dh K (ao 0) "lacking") (ao 5) (bN (ai (ao 1) (ai (ao 2) (ai (ao 4) aC)))))) (E8 K CP CQ)
def uS (K:LM)(CP CQ:Addr):TS:=aJ (aY (bN (ai (ao 3) (ai (bn (ig K) (bn (ig K) (ao 2) (tC (.int 3))) (tC (.int 1))) aC))) (aB 5)) (CB K CP CQ)
theorem oF (h:iP CP CQ vs H Q E):vs.length=5:=by cases h;rfl
theorem uT (A:PA):(pf A).lookup ("offer" : Str)=none:=rfl
theorem xU {l:List Int}(h:2<=l.length):(l.map V.int)[1]?=some (.int (Pz.nth1 l)):=by rcases l with _|⟨_,_|⟨_,_⟩⟩<;>first|rfl|(simp at h)
variable {D:Ends}{σ:L2.St}{b c q:Addr}{r:Pz.Rule}{num mid price:Int}
abbrev Et (r:Pz.Rule)(num mid price:Int)(S:Pz.PS)(x:Int×Int):Pz.PS:=Pz.a_ az S (r.1,r.2.1,x.1) (price+x.2+1) (some num) (some mid)
def E9 (A:PA)(num:Int)(c:Addr)(mid price:Int)(b:Addr)(σ:L2.St):Prop:=∃ u v,σ=[some (.ref A.o),some (.int num),some (.ref c),some (.int mid),some (.int price),some (.ref b),u,v]
theorem AC (P:PAt CP CQ B H A rs S xs xl xr)(h:IsSet H x v)(hs:E9 A num c mid price b σ)(hr:H c=some (.tup [.int r.1,.int r.2.1,.int r.2.2.1,.ref q]))(f:Pz.gY (Et r num mid price S x))
 (k:∀ σ' H',E9 A num c mid price b σ'->PAt CP CQ B H' A rs (Et r num mid price S x) xs xl xr->D.nx σ' H'):dg K 2 (aU (aB 6) (aU (aB 7) de)) v σ H fun σ2 H2=>CA K CP CQ D σ2 H2:=by
 obtain⟨t,rfl,ht⟩:=h;obtain⟨u,w,rfl⟩:=hs;exact sA ht (mT P f (.va rfl) (.t (.c (.ix (.va rfl) hr rfl) (.c (.ix (.va rfl) hr rfl) (.c (.va rfl) .ni))) rfl) (fun _ _=>.c (.add (.add (.va rfl) (.va rfl)) .k) (.c (.va rfl) (.c (.va rfl) .ni))) fun H'=>k _ H' ⟨_,_,rfl⟩)
theorem AD (TP:gL K CP)(P:bo CP CQ B H A rs S xs xl xr xp kt col)(hb:H b=some (.tup [.int mid,.int (Pz.nth1 r.2.2.2)]))(hr:H c=some (.tup [.int r.1,.int r.2.1,.int r.2.2.1,.ref q]))(hq:H q=some (.tup (r.2.2.2.map .int)))(fit:Pz.gY (Pz.first az S num r mid price))(hs:σ=[some (.ref A.o),some (.int num),some (.ref c),some (.int mid),some (.int price),some (.ref b),none,none])
 (k:∀ σ' H' xl',PAt CP CQ B H' A rs (Pz.first az S num r mid price) xs xl' xr->D.nx σ' H'):CB K CP CQ D σ H:=by
 subst hs;have fitL:Pz.gY (Pz.mL S num r mid price):=Pz.dP.fit (Pz.bW _ (fun S x=>Pz.bP S _ _ _ _) _ _) fit;have f1:=fitL.l;have f2:=fitL.lf;have al:=Pz.dF S.aH (mid,Pz.nth1 r.2.2.2) (num,r,price);have e5:(Pz.mL S num r mid price).aH=S.aH.app (mid,Pz.nth1 r.2.2.2) (num,r,price):=rfl;rw[e5]at f1 f2;unfold Pz.L at f1 f2;have lr1:RepM k2 IsLack H S.aH xl:=P.p3.r;refine mP (a:=A.la) (b:=b) (xs:=xl) (k:=k2 (mid,Pz.nth1 r.2.2.2)) (ws:=[.int num,.ref c,.int price]) P.p3.d (P.fld TP.cl TP.nl (Cy A) rfl) (.va rfl) hb (fun H' _=>.t (.c (.va rfl) (.c (.va rfl) (.c (.va rfl) .ni))) rfl) (by rw[<- lr1.len];lia) (lr1.low (by lia)) ?_;intro l p H2 hl hp hm hd kp;have kt2:=P.p3.d.kt (fun _ _ z=>HO.noConfusion z) kp;have P2:bo CP CQ B H2 A rs (Pz.mL S num r mid price) xs _ xr _ _ _:=P.mL hd (lr1.add (k:=(mid,Pz.nth1 r.2.2.2)) (v:=(num,r,price)) ky (IsLack.keep kt2) ⟨p,_,rfl,hm,c,q,rfl,kt2 _ _ hr,kt2 _ _ hq⟩) (fun c z=>(gE z).imp id fun z=>by rw[z];exact hl) kp;exact mV (fun H H' k=>IsSet.keep k) P2 P2.p2.d P2.p2.r TP.cl TP.ns (Cw A) (j:=5) (k:=(mid,Pz.nth1 r.2.2.2)) rfl rfl (kt2 _ _ hb) (E9 A num c mid price b) (Et r num mid price) (fun B1 T H4=>PAt CP CQ B1 H4 A rs T xs _ xr) ⟨none,none,rfl⟩ (fun B1 H1 P=>⟨_,_,_,P⟩)
  (fun B1 T H1 ⟨_,_,_,P⟩=>⟨P.same,P.p2.d⟩) (fun B1 i x v σ H4 D' k4 e1 e2 e3 e4 k=>AC e4 e2 e3 (k4 _ _ (kt2 _ _ hr)) (fg (step:=Et r num mid price) (fun S x=>Pz.bP S _ _ _ _) fit e1) k) fun B1 σ H4 b1 k4 s w=>k σ H4 _ (w.less b1)
theorem pX {vs:List V}(TP:gL K CP)(h:iP CP CQ vs H Q E):uS K CP CQ (eQ Q) (bc (nS 8) vs) H:=by
 obtain⟨⟨xp,kt,col,P⟩,⟨_,q,ec,hr,hq⟩,h2,fit,k⟩:=h;cases ec
 delta uS aJ aY
 exact fU (.c (.va rfl) (.c (.ix (.ix (.va rfl) hr rfl) hq (ie (j:=1) (xU h2))) .ni)) rfl fun b hb=>AD TP (P.more (aw hb)) af (aw hb _ _ hr) (aw hb _ _ hq) fit rfl fun _=>k
end
section
variable {K:LM}{xp:DX ba}{kt:List (List ba×V)}{col:Addr->Nat}
def gk (K:LM):List V->Hp->VK->Prop:=fun xs H Q=>∃ p ys,xs=[.ref p]/\(SqL K H p ys\/SqT K H p ys)/\Q (.int ys.length) H
theorem ci:cK X (.builtin "len") (gk X.K):=mq
abbrev tI (K:LM)(i:Nat)(n:Int):TE:=bn (ig K) (ao i) (tC (.int n))
def mW (rs:Pz.RS):Prop:=∀ k x,x∈rs.get k->1<=x.2.2.2.2.length
inductive gy (CP CQ:Addr):Sp
 |mk {B H:Hp} {A:PA} {rs:Pz.RS} {S:Pz.PS} {xs xl xr:DX (List ba)} {b:Addr} {a:Pz.Arr} {price:Int} {Q:VK} {E:XK} (P:PAt CP CQ B H A rs S xs xl xr) (ha:H b=some (.tup (gj a))) (rok:mW rs) (f:Pz.gY (Pz.settle az rs S a price))
  (k:∀ H' xs' xl',PAt CP CQ B H' A rs (Pz.settle az rs S a price) xs' xl' xr->Q .bu H'):gy CP CQ [.ref A.o,.ref b,.int price] H Q E
def CC (K:LM)(CP CQ:Addr):TS:=cy (bv (bn rC (g7 (gk K) (ai (tI K 5 3) aC)) (tC (.int 1))))
 (bY (dw CP "offer" (cZ CP CQ) [] E0 (ao 0) (ai (bN (ai (tI K 5 0) (ai (tI K 5 1) (ai (tI K 1 2) aC)))) (ai (bn ck (ao 2) (tC (.int 1))) (ai (ao 4) (ai (tC .bu) aC))))))
 (bY (dw CP "settle_first" (iP CP CQ) [] E0 (ao 0) (ai (ao 4) (ai (ao 5) (ai (tI K 1 2) (ai (ao 2) aC))))))
def E_ (K:LM) (CP CQ:Addr):TS:=dS (cJ K (dU (dh K (ao 0) "rules") (ao 3) (ce aC))) (dg K 2 (aU (aB 4) (aU (aB 5) de))) (CC K CP CQ)
def CD (K:LM) (CP CQ:Addr):TS:=bY (dw CP "offer" (cZ CP CQ) [] E0 (ao 0) (ai (bN (ai (tI K 5 0) (ai (tI K 5 1) (ai (tI K 1 2) aC)))) (ai (bn ck (bn ck (ao 6) (ao 2)) (tC (.int 1))) (ai (ao 4) (ai (tI K 1 0) aC)))))
def Fa (K:LM) (CP CQ:Addr):TS:=aJ (dS (cJ K (dU (dh K (ao 0) "lacking") (ao 3) (ce aC))) (dg K 3 (aU (aB 4) (aU (aB 5) (aU (aB 6) de)))) (CD K CP CQ)) (E_ K CP CQ)
def CF (K:LM) (CP CQ:Addr):TS:=aJ (bY (kx K (dh K (ao 0) "settled") (ao 3) (bN (ai (tI K 1 2) (ai (ao 2) aC))))) (Fa K CP CQ)
def qR (K:LM)(CP CQ:Addr):TS:=aJ (aY (bN (ai (tI K 1 0) (ai (tI K 1 1) aC))) (aB 3)) (CF K CP CQ)
theorem mX (h:gy CP CQ vs H Q E):vs.length=3:=by cases h;rfl
theorem uU (A:PA):(pf A).lookup ("settle_first" : Str)=none:=rfl
theorem Reads.len (h:Reads ta σ H (.ref q))(hq:H q=some (.tup ws)):Reads (g7 (gk K) (ai ta aC)) σ H (.int ws.length):=fun _ k=>h _ ⟨q,ws,rfl,.inr (SqT.of hq),k⟩
theorem Reads.Bz (h:Reads ta σ H (.int m))(h':Reads tb σ H (.int n)):Reads (bn rC ta tb) σ H (.bl (decide (m=n))):=h.op h' fun _ q=>⟨rfl,by rw[show decide (V.int m=V.int n)=decide (m=n) from decide_eq_decide.mpr ⟨fun e=>by injection e,fun e=>by rw[e]⟩];exact q⟩
variable {D:Ends}{σ:L2.St}{b b0:Addr}{a:Pz.Arr}{price:Int}
def BV (A:PA)(b0:Addr)(price:Int)(b:Addr)(σ:L2.St):Prop:=∃ u v w,σ=[some (.ref A.o),some (.ref b0),some (.int price),some (.ref b),u,v,w]
theorem Fd (P:PAt CP CQ B H A rs S xs xl xr)(h:IsLack H x v)(hs:BV A b0 price b σ)(ha:H b0=some (.tup (gj a)))(f:Pz.gY (Pz.jr az a price S x))
 (k:∀ σ' H',BV A b0 price b σ'->PAt CP CQ B H' A rs (Pz.jr az a price S x) xs xl xr->D.nx σ' H'):dg K 3 (aU (aB 4) (aU (aB 5) (aU (aB 6) de))) v σ H fun σ2 H2=>CD K CP CQ D σ2 H2:=by
 obtain⟨t,_,rfl,ht,c,q,rfl,hr,hq⟩:=h;obtain⟨u,w,z,rfl⟩:=hs;exact GX ht (mT P f (.va rfl) (.t (.c (.ix (.va rfl) hr rfl) (.c (.ix (.va rfl) hr rfl) (.c (.ix (.va rfl) ha rfl) .ni))) rfl) (fun _ s=>.c (.add (.add (.va rfl) (.va rfl)) .k) (.c (.va rfl) (.c (.ix (.va rfl) (s _ _ ha) rfl) .ni))) fun H'=>k _ H' ⟨_,_,_,rfl⟩)
theorem Fe (P:PAt CP CQ B H A rs S xs xl xr)(h:IsNum H x v)(hs:BV A b0 price b σ)(ha:H b0=some (.tup (gj a)))(hl:1<=x.2.2.2.2.length)(f:Pz.gY (Pz.cc az a price S x))
 (k:∀ σ' H',BV A b0 price b σ'->(∃ xl',PAt CP CQ B H' A rs (Pz.cc az a price S x) xs xl' xr)->D.nx σ' H'):dg K 2 (aU (aB 4) (aU (aB 5) de)) v σ H fun σ2 H2=>CC K CP CQ D σ2 H2:=by
 obtain⟨t,_,rfl,ht,c,q,rfl,hr,hq⟩:=h;obtain⟨u,w,z,rfl⟩:=hs;unfold Pz.cc at f k;have e1:(((x.2.2.2.2.map V.int).length:Nat):Int)=1↔x.2.2.2.2.length=1:=by rw[Iq];lia
 refine sA ht (iC (.Bz (.len (.ix (.va rfl) hr rfl) hq) .k) (fun h=>?_) fun h=>?_)
 .rw[IS (e1.mp (Ja h))]at f k;exact mT P f (.va rfl) (.t (.c (.ix (.va rfl) hr rfl) (.c (.ix (.va rfl) hr rfl) (.c (.ix (.va rfl) ha rfl) .ni))) rfl) (fun _ s=>.c (.add (.va rfl) .k) (.c (.va rfl) (.c .k .ni))) fun H' P'=>k _ H' ⟨_,_,_,rfl⟩ ⟨_,P'⟩
 .have h1:¬ x.2.2.2.2.length=1:=fun z=>h (IJ (e1.mpr z));have h2:2<=x.2.2.2.2.length:=by lia
  rw[IK h1]at f k;have P':=P;obtain⟨_,_,_,Q⟩:=P';exact ox (.va rfl) Q.po.ins (uU A) (.c (.va rfl) (.c (.va rfl) (.c (.ix (.va rfl) ha rfl) (.c (.va rfl) .ni)))) (.mk P ⟨c,q,rfl,hr,hq⟩ h2 f fun H' xl' P'=>k _ H' ⟨_,_,_,rfl⟩ ⟨xl',P'⟩)
theorem Ff (TP:gL K CP)(P:bo CP CQ B H A rs S xs xl xr xp kt col)(ha:H b0=some (.tup (gj a)))(hb:H b=some (.tup [.int a.1,.int a.2.1]))(rok:mW rs)(fit:Pz.gY (Pz.settle az rs S a price))(hs:σ=[some (.ref A.o),some (.ref b0),some (.int price),some (.ref b),none,none,none])
 (k:∀ σ' H' xs' xl',PAt CP CQ B H' A rs (Pz.settle az rs S a price) xs' xl' xr->D.nx σ' H'):CF K CP CQ D σ H:=by
 subst hs;have g2:Pz.dP ((S.aH.get (a.1,a.2.1)).foldl (Pz.jr az a price) (Pz.note S a price)) (Pz.settle az rs S a price):=Pz.bW _ (Pz.g9 a price) _ _;have fit1:=g2.fit fit;have fitN:Pz.gY (Pz.note S a price):=Pz.dP.fit (Pz.bW _ (fun S x=>Pz.bP S _ _ _ _) _ _) fit1;have f1:=fitN.s;have f2:=fitN.sf;have al:=Pz.dF S.settled (a.1,a.2.1) (a.2.2,price);have e5:(Pz.note S a price).settled=S.settled.app (a.1,a.2.1) (a.2.2,price):=rfl;rw[e5]at f1 f2;unfold Pz.L at f1 f2;have sr1:RepM k2 IsSet H S.settled xs:=P.p2.r;refine mP (a:=A.sa) (b:=b) (xs:=xs) (k:=k2 (a.1,a.2.1)) (ws:=[.int a.2.2,.int price]) P.p2.d (P.fld TP.cl TP.ns (Cw A) rfl) (.va rfl) hb (fun H' kp=>.t (.c (.ix (.va rfl) (kp _ _ ha (fun z=>by rw[z,P.p2.d.root]at ha;cases ha)) rfl) (.c (.va rfl) .ni)) rfl) (by rw[<- sr1.len];lia) (sr1.low (by lia)) ?_;intro l p H2 hl hp hm hd kp;have kt2:=P.p2.d.kt (fun _ _ z=>HO.noConfusion z) kp;have P2:bo CP CQ B H2 A rs (Pz.note S a price) _ xl xr _ _ _:=P.F8 hd (sr1.add (k:=(a.1,a.2.1)) (v:=(a.2.2,price)) ky (IsSet.keep kt2) ⟨p,rfl,hm⟩) (fun c z=>(gE z).imp id fun z=>by rw[z];exact hl) kp;generalize i_ xs (k2 (a.1,a.2.1)) l (.ref p)=xs2 at P2;refine mV (fun H H' k=>IsLack.keep k) P2 P2.p3.d P2.p3.r TP.cl TP.nl (Cy A) (j:=3) (k:=(a.1,a.2.1)) rfl rfl (kt2 _ _ hb) (BV A b0 price b) (Pz.jr az a price) (fun B1 T H4=>PAt CP CQ B1 H4 A rs T xs2 xl xr) ⟨none,none,none,rfl⟩ (fun B1 H1 P=>⟨_,_,_,P⟩)
  (fun B1 T H1 ⟨_,_,_,P⟩=>⟨P.same,P.p3.d⟩) (fun B1 i x v σ H4 D' k4 e1 e2 e3 e4 k=>Fd e4 e2 e3 (k4 _ _ (kt2 _ _ ha)) (fg (step:=Pz.jr az a price) (fun S x=>Pz.bP S _ _ _ _) fit1 e1) k) fun B1 σ H4 b1 k4 s w=>?_
 obtain⟨u,v,z,rfl⟩:=s;obtain⟨_,_,_,Q4⟩:=w;have ha4:=k4 _ _ (kt2 _ _ ha);exact mV (fun H H' k=>IsNum.keep k) Q4 Q4.p4.d Q4.p4.r TP.cl TP.nr (E7 A) (j:=3) (k:=(a.1,a.2.1)) rfl rfl (k4 _ _ (kt2 _ _ hb)) (BV A b0 price b) (Pz.cc az a price) (fun B1 T H6=>∃ xl',PAt CP CQ B1 H6 A rs T xs2 xl' xr) ⟨_,_,_,rfl⟩ (fun B1 H1 P=>⟨_,_,_,_,P⟩)
  (fun B1 T H1 ⟨_,_,_,_,P⟩=>⟨P.same,P.p4.d⟩) (fun B1 i x v σ H6 D' k6 e1 e2 e3 ⟨_,e4⟩ k=>Fe e4 e2 e3 (k6 _ _ ha4) (rok _ _ (IH e1)) (fg (step:=Pz.cc az a price) (Pz.g9 a price) fit e1) k) fun B2 σ H6 b2 k6 s ⟨xl',w⟩=>k σ H6 _ xl' (w.less (b1.trans b2))
theorem oG (TP:gL K CP)(h:gy CP CQ vs H Q E):qR K CP CQ (eQ Q) (bc (nS 7) vs) H:=by
 obtain⟨⟨xp,kt,col,P⟩,ha,rok,fit,k⟩:=h
 delta qR aJ aY
 exact fU (.c (.ix (.va rfl) ha rfl) (.c (.ix (.va rfl) ha rfl) .ni)) rfl fun b hb=>Ff TP (P.more (aw hb)) (aw hb _ _ ha) af rok fit rfl fun _=>k
end
section
variable {K:LM}
theorem bo.sk (h:bo CP CQ B H A rs S xs xl xr xp kt col)(h0:∃ dx,H' A.aq=some (.ins CQ dx (qf A m)))(h1:DL .dK H' A.ap xp')(h2:RepM k1 IsItem H' d' xp')(hn:∀ c,cj A.ap xp' c->cj A.ap xp c\/H c=none)
 (kp:∀ c u,H c=some u->¬ cj A.ap xp c->c≠A.aq->H' c=some u):bo CP CQ B H' A rs { S with last:=m,aE:=d' } xs xl xr xp' kt (mQ col 1 H):=by
 obtain⟨dy,hq⟩:=h.po.wK;have k:KT H H':=fun c ws e=>kp c _ e (fun i=>by
  rcases i with rfl|⟨x,hx,rfl⟩
  .rw[h.p1.d.root]at e;cases e
  .rw[h.p1.d.nA x hx]at e;cases e) fun z=>by rw[z,hq]at e;cases e
 have kj:∀ c u,H c=some u->col c≠1->col c≠7->H' c=some u:=fun c u e n n'=>kp c u e (fun i=>n (h.p1.c c i).1) fun z=>n' (by rw[z];exact h.po.c7.1);obtain⟨⟨dx,i1⟩,_,i3,i4,c5,c6,c7⟩:=h.po;refine⟨(fun c u e=>kp c u (h.same c u e) (fun i=>by rw[(h.p1.c c i).2]at e;cases e) fun z=>by rw[z,c7.2]at e;cases e),h.p1.new h.same h1 h2 hn,h.p2.keep (IsSet.keep k) (fun c u e z=>kj c u e (by lia) (by lia)) fun c=>bq,h.p3.keep (IsLack.keep k) (fun c u e z=>kj c u e (by lia) (by lia)) fun c=>bq,h.p4.keep (IsNum.keep k) (fun c u e z=>kj c u e (by lia) (by lia)) fun c=>bq,⟨dx,kj _ _ i1 (by lia) (by lia)⟩,h0,kj _ _ i3 (by lia) (by lia),i4.keep k,?_,?_,?_⟩
 .rw[bq (by rw[i3];simp)];exact c5
 .rw[bq (by rw[i1];simp)];exact c6
 .rw[bq (by rw[hq];simp)];exact c7
inductive oY (CP CQ:Addr):Sp
 |mk {B H:Hp} {A:PA} {rs:Pz.RS} {S T:Pz.PS} {xs xl xr:DX (List ba)} {n:Nat} {Q:VK} {E:XK} (P:PAt CP CQ B H A rs S xs xl xr) (rok:mW rs) (fit:Pz.gY S) (lp:Pz.Loop az rs n S T) (k:∀ H' xs' xl',PAt CP CQ B H' A rs T xs' xl' xr->Q .bu H'):oY CP CQ [.ref A.o] H Q E
def CG (K:LM) (CP CQ:Addr):TS:=cy (bv (bn rC (bn (ig K) (lL (dh K (ao 0) "told") (ao 2)) (tC (.int 0))) (ao 1))) (bY (dw CP "settle" (gy CP CQ) [] E0 (ao 0) (ai (ao 2) (ai (ao 1) aC)))) bX
def CH (K:LM) (CP CQ:Addr):TS:=dS (cJ K (dw CQ "take_lowest" (kT CQ) [] E0 (dh K (ao 0) "offers") aC)) (dg K 2 (aU (aB 1) (aU (aB 2) de))) (CG K CP CQ)
def Fg (K:LM) (CP CQ:Addr):TS:=ma (o_ (tB (dw CQ "is_empty" (iU CQ) [] E0 (dh K (ao 0) "offers") aC))) (CH K CP CQ)
theorem sF (h:oY CP CQ vs H Q E):vs.length=1:=by cases h;rfl
theorem AE (A:PA) (last:Int):(qf A last).lookup ("is_empty" : Str)=none:=rfl
theorem xV (A:PA) (last:Int):(qf A last).lookup ("take_lowest" : Str)=none:=rfl
theorem sG (A:PA):(pf A).lookup ("settle" : Str)=none:=rfl
variable {D:Ends}{σ:L2.St}{T:Pz.PS}{m:Nat}
def CI (A:PA)(σ:L2.St):Prop:=∃ u v,σ=[some (.ref A.o),u,v]
def wA (CP CQ:Addr)(B:Hp)(A:PA)(rs:Pz.RS)(xr:DX (List ba))(T:Pz.PS)(m:Nat)(σ:L2.St)(H:Hp):Prop:=CI A σ/\∃ S xs xl,PAt CP CQ B H A rs S xs xl xr/\Pz.gY S/\Pz.Loop az rs m S T
theorem al3 (TP:gL K CP)(rok:mW rs)(P:PAt CP CQ B H A rs S xs xl xr)(h:IsItem H x v)(hs:CI A σ)(kn:Pz.bw S.told x.2≠none)(f:Pz.gY (Pz.turn az rs S x))
 (k:∀ σ' H',CI A σ'->(∃ xs' xl',PAt CP CQ B H' A rs (Pz.turn az rs S x) xs' xl' xr)->D.nx σ' H'):dg K 2 (aU (aB 1) (aU (aB 2) de)) v σ H fun σ2 H2=>CG K CP CQ D σ2 H2:=by
 obtain⟨t,_,rfl,ht,b,rfl,hb⟩:=h;obtain⟨u,w,rfl⟩:=hs;have P':=P;obtain⟨_,_,_,Q⟩:=P';rcases Q.po.tr.find x.2 with⟨_,e2⟩|⟨_,y,e1,e2,q,rfl,hq⟩
 .exact(kn e2).elim
 unfold Pz.turn Pz.Ap at f k;rw[e2]at f k;refine sA ht (iC (.Bz (.ix (fun _ z=>Q.fld TP.cl TP.nt (xS A) rfl _ ⟨_,rfl,A.ta,.ref q,rfl,by rw[<- e1];exact DGet.t Q.po.td hb,z⟩) hq rfl) (.va rfl)) (fun h=>?_) fun h=>?_)
 .rw[IS h]at f k;exact ox (.va rfl) Q.po.ins (sG A) (.c (.va rfl) (.c (.va rfl) .ni)) (.mk P hb rok f fun H' xs' xl' P'=>k _ H' ⟨_,_,rfl⟩ ⟨xs',xl',P'⟩)
 .rw[IK h]at k;exact k _ H ⟨_,_,rfl⟩ ⟨xs,xl,P⟩
theorem al2 (TP:gL K CP)(rok:mW rs)(P:bo CP CQ B H A rs S xs xl xr xp kt col)(fit:Pz.gY S)(hs:CI A σ)(hne:S.aE≠[])(aO:Pz.o9 az S.last S.aE)(hkn:∀ x∈Pz.cC az S.aE,Pz.bw S.told x.2≠none)(fit2:Pz.gY (Pz.batch az rs (Pz.take az S) (Pz.cC az S.aE)))
 (lp:Pz.Loop az rs m (Pz.batch az rs (Pz.take az S) (Pz.cC az S.aE)) T) (k:∀ σ' H',wA CP CQ B A rs xr T m σ' H'->D.nx σ' H'):CH K CP CQ D σ H:=by
 obtain⟨u,v,rfl⟩:=hs;have pr:RepM k1 IsItem H S.aE xp:=P.p1.r;have f1:=fit.p;have f2:=fit.pf;unfold Pz.L at f1 f2;refine dQ (ox (P.fld TP.cl TP.no (Az A) rfl) P.po.wK (xV A _) .ni (.mk ⟨P.po.wK,P.p1.d,by rw[<- pr.len];lia,pr.low (by lia)⟩ pr aO hne (by lia) ?_));intro l vs' xp' H1 G1 R1 hl1 a1 nl il sub1 kp1;have P1:bo CP CQ B H1 A rs (Pz.take az S) xs xl xr xp' kt _:=P.sk (m:=Pz.lowP S.aE) (d':=Pz.left az S.aE) G1.ins G1.aE R1 sub1 kp1;obtain⟨B1,w1,w2,w3,P2⟩:=P1.wide (fun c=>c=l) fun c e=>by
  subst e;rcases il with il|il
  .have hc:=(P.p1.c c il).1;refine⟨nl,fun i=>?_,fun i=>?_,fun i=>?_,fun z=>?_,fun z=>?_,fun z=>?_⟩
   .have:=(P.p2.c c i).1;lia
   .have:=(P.p3.c c i).1;lia
   .have:=(P.p4.c c i).1;lia
   .have:=P.po.c5.1;rw[z]at hc;lia
   .have:=P.po.c6.1;rw[z]at hc;lia
   .have:=P.po.c7.1;rw[z]at hc;lia
  .exact⟨nl,(P.obj il).2⟩
 have sm:∀ T' H2,(∃ xs' xl',PAt CP CQ B1 H2 A rs T' xs' xl' xr)->Same B1 H2:=fun T' H2 ⟨_,_,_,_,_,P⟩=>P.same;exact⟨l,rfl,⟨_,SqL.of hl1⟩,mU (it:=IsItem) (CI A) (Pz.turn az rs) (Pz.take az S) (fun T' H2=>∃ xs' xl',PAt CP CQ B1 H2 A rs T' xs' xl' xr) ⟨_,_,rfl⟩ ⟨xs,xl,_,_,_,P2⟩ (fun T' H2 w=>⟨.inl (sm T' H2 w _ _ (w3 l _ rfl hl1)),a1.mono (IsItem.keep fun c ws e=>sm T' H2 w _ _ (w2 _ _ e))⟩)
  (fun i x v σ H2 D' hx ix s ⟨_,_,w⟩ k=>al3 TP rok w ix s (Pz.gh _ (fun S x k=>Pz.xK k) _ _ (hkn x (IH hx))) (fg (step:=Pz.turn az rs) Pz.sr fit2 hx) k) fun σ H2 s ⟨xs',xl',w⟩=>k σ H2 ⟨s,_,xs',xl',w.less w1,fit2,lp⟩⟩
theorem uV (TP:gL K CP)(h:oY CP CQ vs H Q E):Fg K CP CQ (eQ Q) (bc (nS 3) vs) H:=by
 obtain @⟨B,H,A,rs,S,T,xs,xl,xr,n,Q,E,P,rok,fit,lp,k⟩:=h;refine⟨wA CP CQ B A rs xr T,⟨n,⟨none,none,rfl⟩,S,xs,xl,P,fit,lp⟩,?_⟩;clear P lp fit;rintro m σ H ⟨hs,S,xs,xl,⟨xp,kt,col,P⟩,fit,lp⟩;have h0:σ[0]?=some (some (.ref A.o)):=by obtain⟨_,_,rfl⟩:=hs;rfl
 have el:xp.kv.length=S.aE.length:=by unfold DX.kv;rw[Iq,<- P.p1.r.len]
 obtain⟨dy,hq⟩:=P.po.wK;have f1:=fit.p;unfold Pz.L at f1;refine ox (P.fld TP.cl TP.no (Az A) h0) ⟨dy,hq⟩ (AE A _) .ni (.mk hq P.p1.d.root (by rw[el,IY];lia) ⟨_,rfl,?_⟩);rw[el];cases lp with
 |done e=>rw[e];exact cg (k H xs xl ⟨xp,kt,col,P⟩)
 | @step m _ _ hne aO hkn _ fit2 lp=>rw[IQ fun z=>hne (Jr.mp z)];exact di ⟨wA CP CQ B A rs xr T m,fun σ' H' h'=>⟨m,JU _,h'⟩,al2 TP rok P fit hs hne aO hkn fit2 lp fun _ _=>id⟩
end
section
variable {K:LM}{H:Hp}
theorem qS {tb:TS}{D:Ends}{σ:L2.St}{H1:Hp}(Sh:L2.St->Prop)(W:Nat->Hp->Prop)(h0:Sh σ)(h1:W 0 H1)(hW:∀ i H,W i H->SqL K H l vs)
 (hb:∀(i:Nat)(v:V)(p:Addr)(σ:L2.St)(H:Hp)(D':Ends),vs[i]?=some v->H p=none->Sh σ->W i H->(∀ σ' H',Sh σ'->W (i+1) H'->D'.nx σ' H')->g (.ref p) σ (upd H p (.tup [.int (i:Nat),v])) fun σ2 H2=>tb D' σ2 H2)
 (hd:∀ σ H,Sh σ->W vs.length H->D.nx σ H):Wk (Em K l) g tb D σ H1:=by
 refine⟨fun i m σ H=>m=vs.length-i/\i<=vs.length/\Sh σ/\W i H,⟨vs.length,by simp,IL _,h0,h1⟩,?_⟩;rintro i m σ H ⟨rfl,hi,s,w⟩;have q:=hW i H w;by_cases hlt:i<vs.length
 .refine .inr ⟨⟨vs,vs[i],q,by simp[hlt]⟩,fun σ' H'=>Sh σ'/\W (i+1) H',fun σ' H' p'=>⟨vs.length-(i+1),by lia,rfl,hlt,p'⟩,fun x H' y=>?_⟩;obtain⟨p,v,hp,rfl,rfl,y⟩:=y;exact hb i v p σ H _ (y vs q) hp s w fun _ _=>And.intro
 .have e:i=vs.length:=by lia
  subst e;exact .inl ⟨⟨vs,q,Im _⟩,hd σ H s w⟩
theorem lY {tb:TS}{D:Ends}{σ:L2.St}(h:ta σ H fun vs H1=>∃ a xs,vs=[.ref a]/\SqL K H1 a xs/\Wk (Em K a) g tb D σ H1):dS (qJ K ta) g tb D σ H:=h
theorem pY:∀(l:List Pz.Rule)(k i:Nat),(Pz.en l k)[i]?=(l[i]?).map fun r=>(((k+i:Nat):Int),r)
 | [],k,i=>by simp[Pz.en]
 |r::l,k,0=>by simp[Pz.en]
 |r::l,k,i+1=>by show(Pz.en l (k+1))[i]?=(l[i]?).map _;rw[pY l];congr 1;funext r;congr 2;lia
theorem qT {β:Type}(f:β->Int×Pz.Rule->β)(b:β){l:List Pz.Rule}{i:Nat}{r:Pz.Rule}(h:l[i]?=some r):((Pz.en l 0).take (i+1)).foldl f b=f (((Pz.en l 0).take i).foldl f b) ((i:Int),r):=by
 have e:(Pz.en l 0)[i]?=some ((i:Int),r):=by rw[pY,h];simp
 rw[Jf,e,Kj];rfl
structure d8 (H:Hp) (RL:List Pz.Rule) (p l:Addr) (vs:List V):Prop where
 tup:∃ w0 w1,H p=some (.tup [w0,w1,.ref l])
 lst:Rd H l (.lst vs)
 its:aS (IsRule H) RL vs
theorem aX (s:Same H H')(h:Rd H a u):Rd H' a u:=h.imp (s a _) fun⟨o,e⟩=>⟨o,s a _ e⟩
theorem d8.same (h:d8 H RL p l vs)(s:Same H H'):d8 H' RL p l vs:=⟨let ⟨w0,w1,e⟩:=h.tup;⟨w0,w1,s _ _ e⟩,aX s h.lst,h.its.mono (IsRule.keep (mR s))⟩
inductive we:Sp
 |mk {RL:List Pz.Rule} {p l:Addr} {ws:List V} {H:Hp} {Q:VK} {E:XK} (G:d8 H RL p l ws) (bH:RL.length<16000000) (k:∀(ar:Addr)(xr:DX (List ba))(H':Hp),Same H H'->DL .dT H' ar xr->RepM k2 IsNum H' (Pz.bB RL) xr->(∀ c,cj ar xr c->H c=none)->Q (.ref ar) H'):we [.ref p] H Q E
def BW:R2:=tM fun i j=>.bl (decide (j<i))
def CJ (K:LM):TS:=cy (bv (bn BW (g7 (gk K) (ai (tI K 3 3) aC)) (tC (.int 0)))) (bY (kx K (ao 1) (bN (ai (tI K 3 2) (ai (bn (ig K) (tI K 3 3) (tC (.int 0))) aC))) (bN (ai (ao 2) (ai (ao 3) aC))))) bX
def Fi (K:LM):TS:=aJ (dS (qJ K (ai (tI K 0 2) aC)) (dg K 2 (aU (aB 2) (aU (aB 3) de))) (CJ K)) (bU (ao 1))
def GY (K:LM):TS:=aJ (aY g8 (aB 1)) (Fi K)
theorem uW (h:we vs H Q E):vs.length=1:=by cases h;rfl
theorem sI (hto:Reads to σ H (.ref a))(hr:H a=some (.dT kvs))(hk:Makes tk σ H ks)(h:∀ b,H b=none->kx K (tC (.ref a)) (tC (.ref b)) te σ (upd H b (.tup ks)) Q):kx K to tk te σ H Q:=hto _ ⟨.inr (.inr (.inl ⟨rfl,.inr ⟨_,hr⟩⟩)),hk _ fun b hb=>(h b hb).2⟩
theorem AF {β:Type}{it:Hp->β->V->Prop}(kp:∀{H H':Hp},KT H H'->∀ a v,it H a v->it H' a v){to tk te:TE}{σ:L2.St}{ar:Addr}{xr:DX (List ba)}{d:Pz.MD (Int×Int) β}{k:Int×Int}{v:β}{ws:List V}{C:Hp->Prop}(D2:DL .dT H ar xr)(R2:RepM k2 it H d xr)(ok:d.Ok)(kX:d.flat.length<16000000)(ht:Reads to σ H (.ref ar))(hk:Makes tk σ H [.int k.1,.int k.2])(hm:∀ H',KT H H'->Makes te σ H' ws)(hi:∀ p H',KT H H'->H' p=some (.tup ws)->it H' v (.ref p))
 (kk:∀ H' xr',DL .dT H' ar xr'->RepM k2 it H' (d.app k v) xr'->(∀ c,cj ar xr' c->cj ar xr c\/H c=none)->(∀ c u,H c=some u->¬ cj ar xr c->H' c=some u)->C H'):kx K to tk te σ H fun _ H'=>C H':=by
 refine sI ht D2.root hk fun b hb=>?_;have s4:=aw (o:=HO.tup [.int k.1,.int k.2]) hb;refine mP (a:=ar) (b:=b) (xs:=xr) (k:=k2 k) (ws:=ws) (D2.keep fun c u e _=>s4 c u e) .k .k af (fun H' kp=>hm H' fun c vs e=>kp c _ (s4 _ _ e) fun z=>by rw[z,D2.root]at e;cases e) (by rw[<- R2.len];have:=Pz.fC ok;lia) (R2.low kX) ?_;intro l5 p5 H5 hl5 hp5 hm5 hd5 kp5;have kp':∀ c u,H c=some u->¬ cj ar xr c->H5 c=some u:=fun c u e=>kp5 c u (s4 _ _ e);have kt5:=D2.kt (fun _ _ z=>HO.noConfusion z) kp';exact kk H5 _ hd5 (R2.add (k:=k) (v:=v) ky (kp kt5) (hi p5 H5 kt5 hm5)) (fun c z=>(gE z).imp id fun z=>by rw[z];exact s4.free hl5) kp'
variable {D:Ends}{σ:L2.St}{p ar pp c q:Addr}{r:Pz.Rule}{n:Int}{xr:DX (List ba)}{d:Pz.RS}
def Fj (p ar:Addr)(σ:L2.St):Prop:=∃ u v,σ=[some (.ref p),some (.ref ar),u,v]
theorem GZ (D2:DL .dT H ar xr)(R2:RepM k2 IsNum H d xr)(ok:d.Ok)(kX:d.flat.length<16000000)(hs:Fj p ar σ)(hpp:H pp=some (.tup [.int n,.ref c]))(hc:H c=some (.tup [.int r.1,.int r.2.1,.int r.2.2.1,.ref q]))(hq:H q=some (.tup (r.2.2.2.map .int)))
 (k:∀ σ' H' xr',Fj p ar σ'->DL .dT H' ar xr'->RepM k2 IsNum H' (Pz.d5 d (n,r)) xr'->(∀ c,cj ar xr' c->cj ar xr c\/H c=none)->(∀ c u,H c=some u->¬ cj ar xr c->H' c=some u)->D.nx σ' H'):dg K 2 (aU (aB 2) (aU (aB 3) de)) (.ref pp) σ H fun σ2 H2=>CJ K D σ2 H2:=by
 obtain⟨u,w,rfl⟩:=hs;have e2:(0:Int)<(((r.2.2.2.map V.int).length:Nat):Int)↔r.2.2.2.length>0:=by rw[Iq];lia
 unfold Pz.d5 at k;refine sA hpp (iC (.op (.len (.ix (.va rfl) hc rfl) hq) .k fun _ q=>⟨_,_,rfl,rfl,q⟩) (fun h=>?_) fun h=>?_)
 .have h1:=e2.mp (Ja h);rw[IS h1]at k;have hat:(r.2.2.2.map V.int)[0]?=some (.int (r.2.2.2[0]?.getD 0)):=by
   cases hl:r.2.2.2 with
   |nil=>rw[hl]at h1;simp at h1
   |cons x y=>rfl
  exact AF (k:=(r.2.2.1,r.2.2.2[0]?.getD 0)) (v:=(n,r)) (fun k=>IsNum.keep k) D2 R2 ok kX (.va rfl) (.t (.c (.ix (.va rfl) hc rfl) (.c (.ix (.ix (.va rfl) hc rfl) hq (ie (j:=0) hat)) .ni)) rfl) (fun H' _=>.t (.c (.va rfl) (.c (.va rfl) .ni)) rfl) (fun p H' kt hm=>⟨p,_,rfl,hm,c,q,rfl,kt _ _ hc,kt _ _ hq⟩) fun H' xr'=>k _ H' xr' ⟨_,_,rfl⟩
 .rw[IK fun z=>h (IJ (e2.mpr z))]at k;exact k _ H _ ⟨_,_,rfl⟩ D2 R2 (fun c=>.inl) fun c u e _=>e
theorem xW {Q:VK}{E:XK}(h:we vs H Q E):GY K (eQ Q) (bc (nS 4) vs) H:=by
 obtain @⟨RL,p,l,ws,H,Q,E,G,bH,k⟩:=h;intro ar har;have s1:Same H (upd H ar (.dT [])):=aw har;obtain⟨w0,w1,hp⟩:=(G.same s1).tup;have bl:∀ i,(((Pz.en RL 0).take i).foldl Pz.d5 []).Ok/\(((Pz.en RL 0).take i).foldl Pz.d5 []).flat.length<16000000:=fun i=>by obtain⟨a,b⟩:=Pz.pS ((Pz.en RL 0).take i) [] Pz.ow;have h1:=Lb i (Pz.en RL 0);rw[Pz.kr]at h1;have h2:(Pz.MD.flat ([]:Pz.RS)).length=0:=rfl;exact⟨a,by lia⟩
 refine lY (ReadsA.c (.ix (.va (i:=0) rfl) hp (v:=.ref l) rfl) .ni _ ⟨l,ws,rfl,.inl (aX s1 G.lst),?_⟩);refine qS (Fj p ar) (fun i H2=>∃ xr,Same H H2/\DL .dT H2 ar xr/\RepM k2 IsNum H2 (((Pz.en RL 0).take i).foldl Pz.d5 []) xr/\∀ c,cj ar xr c->H c=none) ⟨none,none,rfl⟩ ⟨[],s1,⟨af,fun _ h=>(IC h).elim,Jh,Jh⟩,.nil,fun c i=>?_⟩ (fun i H2 ⟨xr,s2,_⟩=>.inl (aX s2 G.lst)) (fun i v pp σ H2 D' hv hpp hs ⟨xr,s2,D2,R2,n2⟩ k=>?_) fun σ H2 ⟨u,w,e⟩ ⟨xr,s2,D2,R2,n2⟩=>?_
 .rcases i with rfl|⟨x,hx,_⟩
  .exact har
  .exact(IC hx).elim
 .obtain⟨r,hr,c,q,rfl,hc,hq⟩:=G.its.get hv;have s3:=aw (o:=HO.tup [.int (i:Nat),.ref c]) hpp;have s03:=s2.trans s3;rw[qT _ _ hr]at k;exact GZ (D2.keep fun c u e _=>s3 c u e) (R2.keep (IsNum.keep (mR s3))) (bl i).1 (bl i).2 hs af (s03 _ _ hc) (s03 _ _ hq) fun σ' H' xr' h1 h2 h3 h4 h5=>k σ' H' h1 ⟨xr',(fun c u e=>h5 c u (s03 _ _ e) fun z=>by rw[n2 c z]at e;cases e),h2,h3,fun c z=>(h4 c z).elim (n2 c) s03.free⟩
 .subst e;rw[Jx (by rw[Pz.kr,G.its.len];exact Im _)]at R2;exact⟨_,rfl,k ar xr H2 s2 D2 R2 n2⟩
end
section
variable {K:LM}{CP CQ:Addr}{H:Hp}
inductive iS (CP CQ:Addr):Sp
 |mk {B H:Hp} {RL:List Pz.Rule} {o dx p l:Addr} {ws:List V} {Q:VK} {E:XK} (ho:H o=some (.ins CP dx [])) (sb:Same B H) (nb:B o=none) (G:d8 H RL p l ws) (bH:RL.length<16000000) (k:∀(A:PA)(xr:DX (List ba))(H':Hp),A.o=o->PAt CP CQ B H' A (Pz.bB RL) Pz.S0 [] [] xr->Q .bu H'):iS CP CQ [.ref o,.ref p] H Q E
def AG (K:LM)(CQ:Addr):TS:=
 aJ (ml K (ao 0) (bC we [] E0 (ai (ao 1) aC)) "rules")
 (aJ (ml K (ao 0) g8 "told")
 (aJ (ml K (ao 0) (qx CQ (iL CQ) [] E0 aC) "offers")
 (aJ (ml K (ao 0) g8 "settled")
 (ml K (ao 0) g8 "lacking"))))
theorem oH (h:iS CP CQ vs H Q E):vs.length=2:=by cases h;rfl
theorem pZ (TP:gL K CP)(h:iS CP CQ vs H Q E):AG K CQ (eQ Q) (bc N vs) H:=by
 obtain @⟨B,H,RL,o,dx,p,l,ws,Q,E,ho,sb,nb,G,bH,k⟩:=h;refine⟨_,rfl,.mk G bH fun ar xr H1 s1 D1 R1 n1=>?_⟩;have ho1:=s1 _ _ ho;have nor:∀ c,cj ar xr c->c≠o:=fun c i z=>by grind
 refine⟨_,rfl,o,CP,dx,_,rfl,ho1,TP.cl,TP.nr,(by grind),?_⟩;generalize hH2:upd H1 o (.ins CP dx (eV "rules" (.ref ar) []))=H2;have ho2:H2 o=some (.ins CP dx [("rules",.ref ar)]):=by rw[<- hH2,af];rfl
 have kp2:∀ c u,H1 c=some u->c≠o->H2 c=some u:=fun c u e n=>by rw[<- hH2,au n];exact e
 intro ta hta;have e3:upd H2 ta (.dT []) o=some (.ins CP dx [("rules",.ref ar)]):=by rw[au (am ho2 hta)];exact ho2
 refine⟨_,rfl,o,CP,dx,_,rfl,e3,TP.cl,TP.nt,(by grind),?_⟩;generalize hH4:upd (upd H2 ta (.dT [])) o (.ins CP dx (eV "told" (.ref ta) [("rules",.ref ar)]))=H4;have no_ta:ta≠o:=(am ho2 hta).symm;have ho4:H4 o=some (.ins CP dx [("rules",.ref ar),("told",.ref ta)]):=by rw[<- hH4,af];rfl
 have ta4:H4 ta=some (.dT []):=by rw[<- hH4,au no_ta,af]
 have kp4:∀ c u,H2 c=some u->c≠o->H4 c=some u:=fun c u e n=>by rw[<- hH4,au n,au (am e hta)];exact e
 intro aq dq haq hdq ndq;refine .mk af fun ap H5 hap hq5 hp5 kp5=>⟨rfl,?_⟩;have kp5':∀ c u,H4 c=some u->H5 c=some u:=fun c u e=>kp5 c u (by rw[au (am e haq),au (am e hdq)];exact e) (am e haq);have ap4:H4 ap=none:=by
  have h1:ap≠aq:=fun z=>by grind
  have h2:ap≠dq:=fun z=>by rw[z,au ndq,af]at hap;cases hap
  rw[au h1,au h2]at hap;exact hap
 have apq:ap≠aq:=fun z=>by grind
 refine⟨_,rfl,o,CP,dx,_,rfl,kp5' _ _ ho4,TP.cl,TP.no,(by grind),?_⟩;generalize hH6:upd H5 o (.ins CP dx (eV "offers" (.ref aq) [("rules",.ref ar),("told",.ref ta)]))=H6;have noq:aq≠o:=fun z=>by grind
 have nop:ap≠o:=fun z=>by grind
 have ho6:H6 o=some (.ins CP dx [("rules",.ref ar),("told",.ref ta),("offers",.ref aq)]):=by rw[<- hH6,af];rfl
 have kp6:∀ c u,H5 c=some u->c≠o->H6 c=some u:=fun c u e n=>by rw[<- hH6,au n];exact e
 intro sa hsa;have nsa:sa≠o:=(am ho6 hsa).symm;refine⟨_,rfl,o,CP,dx,_,rfl,(by rw[au (am ho6 hsa)];exact ho6),TP.cl,TP.ns,(by grind),?_⟩;generalize hH8:upd (upd H6 sa (.dT [])) o (.ins CP dx (eV "settled" (.ref sa) [("rules",.ref ar),("told",.ref ta),("offers",.ref aq)]))=H8;have ho8:H8 o=some (.ins CP dx [("rules",.ref ar),("told",.ref ta),("offers",.ref aq),("settled",.ref sa)]):=by rw[<- hH8,af];rfl
 have sa8:H8 sa=some (.dT []):=by rw[<- hH8,au nsa,af]
 have kp8:∀ c u,H6 c=some u->c≠o->H8 c=some u:=fun c u e n=>by rw[<- hH8,au n,au (am e hsa)];exact e
 intro la hla;have nla:la≠o:=(am ho8 hla).symm;refine⟨_,rfl,o,CP,dx,_,rfl,(by rw[au (am ho8 hla)];exact ho8),TP.cl,TP.nl,(by grind),?_⟩;generalize hH9:upd (upd H8 la (.dT [])) o (.ins CP dx (eV "lacking" (.ref la) [("rules",.ref ar),("told",.ref ta),("offers",.ref aq),("settled",.ref sa)]))=H9;have ho9:H9 o=some (.ins CP dx (pf ⟨o,ta,aq,ap,sa,la,ar⟩)):=by rw[<- hH9,af];rfl
 have la9:H9 la=some (.dT []):=by rw[<- hH9,au nla,af]
 have kp9:∀ c u,H8 c=some u->c≠o->H9 c=some u:=fun c u e n=>by rw[<- hH9,au n,au (am e hla)];exact e
 have sa9:=kp9 _ _ sa8 nsa;have k69:∀ c u,H6 c=some u->c≠o->H9 c=some u:=fun c u e n=>kp9 c u (kp8 c u e n) n;have k59:∀ c u,H5 c=some u->c≠o->H9 c=some u:=fun c u e n=>k69 c u (kp6 c u e n) n;have k49:∀ c u,H4 c=some u->c≠o->H9 c=some u:=fun c u e n=>k59 c u (kp5' c u e) n;have k19:∀ c u,H1 c=some u->c≠o->H9 c=some u:=fun c u e n=>k49 c u (kp4 c u (kp2 c u e n) n) n;have fr:∀ c,H9 c≠none->H c=none->B c=none:=fun c _ e=>sb.free e;have oldR:∀ c,cj ar xr c->H1 c≠none:=fun c i=>D1.obj i;have n1_ta:H1 ta=none:=by
  cases e:H1 ta with
  |none=>rfl
  |some u=>rw[kp2 _ _ e no_ta]at hta;cases hta
 have n4_up:∀ c,H4 c=none->c≠o->H1 c=none/\c≠ta:=fun c e n=>by
  refine⟨?_,fun z=>by grind⟩;cases e':H1 c with
  |none=>rfl
  |some u=>rw[kp4 _ _ (kp2 _ _ e' n) n]at e;cases e
 have n5_up:∀ c,H5 c=none->c≠o->H4 c=none/\c≠aq/\c≠ap:=fun c e n=>by
  refine⟨?_,(fun z=>by grind),fun z=>by grind⟩;cases e':H4 c with
  |none=>rfl
  |some u=>rw[kp5' _ _ e']at e;cases e
 have n6_up:∀ c,H6 c=none->H5 c=none:=fun c e=>by
  cases e':H5 c with
  |none=>rfl
  |some u=>
   by_cases n:c=o
   .rw[n,ho6]at e;cases e
   .rw[kp6 _ _ e' n]at e;cases e
 have n8_up:∀ c,H8 c=none->H6 c=none/\c≠sa:=fun c e=>by
  refine⟨?_,fun z=>by grind⟩;cases e':H6 c with
  |none=>rfl
  |some u=>
   by_cases n:c=o
   .rw[n,ho8]at e;cases e
   .rw[kp8 _ _ e' n]at e;cases e
 obtain⟨la6,la_sa⟩:=n8_up la hla;obtain⟨la4,la_aq,la_ap⟩:=n5_up la (n6_up la la6) nla;obtain⟨la1,la_ta⟩:=n4_up la la4 nla;obtain⟨sa4,sa_aq,sa_ap⟩:=n5_up sa (n6_up sa hsa) nsa;obtain⟨sa1,sa_ta⟩:=n4_up sa sa4 nsa;obtain⟨aq1,aq_ta⟩:=n4_up aq haq noq;obtain⟨ap1,ap_ta⟩:=n4_up ap ap4 nop;have H0of:∀ c,H1 c=none->H c=none:=fun c e=>s1.free e;have same:Same B H9:=fun c u e=>k19 c u (s1 c u (sb c u e)) fun z=>by grind
 have inNil:∀{a c:Addr},cj a ([]:DX (List ba)) c->c=a:=fun i=>i.elim id fun⟨x,hx,_⟩=>(IC hx).elim
 classical
 refine k ⟨o,ta,aq,ap,sa,la,ar⟩ xr H9 rfl ⟨[],[],fun c=>if c=o then 6 else if c=ta then 5 else if c=aq then 7 else if c=ap then 1 else if c=sa then 2 else if c=la then 3 else 4,same,⟨⟨?_,fun _ h=>(IC h).elim,Jh,Jh⟩,.nil,fun c i=>?_⟩,⟨⟨sa9,fun _ h=>(IC h).elim,Jh,Jh⟩,.nil,fun c i=>?_⟩,⟨⟨la9,fun _ h=>(IC h).elim,Jh,Jh⟩,.nil,fun c i=>?_⟩,⟨D1.keep fun c u e i=>k19 c u e (nor c i),R1.keep (IsNum.keep fun c ws e=>k19 c _ e fun z=>by grind),fun c i=>?_⟩,⟨dx,ho9⟩,⟨dq,k59 _ _ hq5 noq⟩,k49 _ _ ta4 no_ta,.nil,?_,?_,?_⟩
 .exact k59 _ _ hp5 nop
 .have:c=ap:=i.elim id fun⟨x,hx,_⟩=>(IC hx).elim;subst this;exact⟨by grind,sb.free (H0of _ ap1)⟩
 .have:=inNil i;dsimp only at this;subst this;exact⟨by grind,sb.free (H0of _ sa1)⟩
 .have:=inNil i;dsimp only at this;subst this;exact⟨by grind,sb.free (H0of _ la1)⟩
 .have hc:=oldR c i;refine⟨?_,sb.free (n1 c i)⟩;rw[IK (nor c i),IK (fun z=>hc (by grind)),IK (fun z=>hc (by grind)),IK (fun z=>hc (by grind)),IK (fun z=>hc (by grind)),IK (fun z=>hc (by grind))]
 .exact⟨by grind,sb.free (H0of _ n1_ta)⟩
 .exact⟨IS rfl,nb⟩
 .exact⟨by grind,sb.free (H0of _ aq1)⟩
end
noncomputable def p8 (a:Pz.Arr):D:=.tup [.int a.1,.int a.2.1,.int a.2.2]
noncomputable def gU (r:Pz.Rule):D:=.tup [.int r.1,.int r.2.1,.int r.2.2.1,.tup (r.2.2.2.map .int)]
noncomputable def oD:Option Int->D
 |none=>.bu
 |some i=>.int i
def AH (x:Pz.jC):D:=.tup [.int x.1,oD x.2.1,oD x.2.2]
def d7 (t:Pz.TD):D:=.rg (t.map fun x=>.inr (ak x.1)) (t.map fun x=>AH x.2)
def kA (ds:List D)(t:Pz.TD):Prop:=∃(RL:List Pz.Rule)(M:List Pz.Arr)(h0 h1 m0 m2:D)(n:Nat)(T:Pz.PS),ds=[.tup [h0,h1,.lst (RL.map gU)],.tup [m0,.lst (M.map p8),m2]]/\RL.length<16000000/\Pz.gY (Pz.gi az RL M)/\Pz.Loop az (Pz.bB RL) n (Pz.gi az RL M) T/\t=T.told
open Classical in
def BX (Fr:List D->Res R)(ds:List D):Res R:=match Fr ds with
 | .ok _=>if h:∃ t,kA ds t then .ok (.o0 (d7 (Classical.choose h))) else .stuck
 | .exc c=>.exc c
 | .stuck=>.stuck
theorem p9:∀{ns:List Int}{vs:List V},IsAll H m (ns.map .int) vs->vs=ns.map .int
 | [],vs,h=>h
 |n::ns,vs,h=>by obtain⟨v,r,rfl,h1,h2⟩:=h;rw[p9 h2,show v=.int n from h1];rfl
theorem AI (h:Is H m (gU r) v):IsRule H r v:=by obtain⟨a,vs,rfl,ha,v0,r0,rfl,e0,v1,r1,rfl,e1,v2,r2,rfl,e2,v3,r3,rfl,⟨q,ws,rfl,hq,hw⟩,rfl⟩:=h;obtain rfl:v0=.int r.1:=e0;obtain rfl:v1=.int r.2.1:=e1;obtain rfl:v2=.int r.2.2.1:=e2;exact⟨a,q,rfl,ha,by rw[hq,p9 hw]⟩
theorem CL (h:Is H m (p8 r) v):IsArr H r v:=by obtain⟨a,vs,rfl,ha,v0,r0,rfl,e0,v1,r1,rfl,e1,v2,r2,rfl,e2,rfl⟩:=h;obtain rfl:v0=.int r.1:=e0;obtain rfl:v1=.int r.2.1:=e1;obtain rfl:v2=.int r.2.2:=e2;exact⟨a,rfl,ha⟩
theorem uX {α:Type}{H:Hp}{m:Addr->Prop}{f:α->D}{it:α->V->Prop}(hf:∀ x v,Is H m (f x) v->it x v):∀{xs:List α}{vs:List V},IsAll H m (xs.map f) vs->aS it xs vs
 | [],vs,h=>by cases (show vs=[] from h);exact .nil
 |x::xs,vs,h=>by obtain⟨v,r,rfl,h1,h2⟩:=h;exact .cons (hf x v h1) (uX hf h2)
theorem uY (h:Is H m (.lst ds) v):∃ a vs,v=.ref a/\Rd H a (.lst vs)/\IsAll H m ds vs:=by obtain⟨a,vs,rfl,h1,h2⟩:=h;exact⟨a,vs,rfl,h1.imp And.left fun⟨o,e,_⟩=>⟨o,e⟩,h2⟩
theorem Fk (RL:List Pz.Rule):mW (Pz.bB RL):=fun k x hx=>by
 rcases (Pz.mM _ _ _ _).mp hx with h|⟨_,y,l,e,_⟩
 .exact(IC h).elim
 .rw[e];simp
section
variable {K:LM}{CP CQ:Addr}{H:Hp}
def CM (K:LM) (CP CQ:Addr):TS:=aJ (bY (dw CP "settle_all" (oY CP CQ) [] E0 (ao 2) aC)) (bU (dh K (ao 2) "told"))
def CO (K:LM)(CP CQ:Addr):TS:=cy (bv (bn rC (g7 (gk K) (ai (tI K 5 3) aC)) (tC (.int 0))))
 (bY (dw CP "offer" (cZ CP CQ) [] E0 (ao 2) (ai (bN (ai (tI K 5 0) (ai (tI K 5 1) (ai (tI K 5 2) aC)))) (ai (tC (.int 1)) (ai (ao 4) (ai (tC .bu) aC)))))) bX
def CS (K:LM)(CP CQ:Addr):TS:=aJ (dS (qJ K (ai (tI K 0 2) aC)) (dg K 2 (aU (aB 4) (aU (aB 5) de))) (CO K CP CQ)) (CM K CP CQ)
def CU (CP CQ:Addr):TS:=bY (dw CP "offer" (cZ CP CQ) [] E0 (ao 2) (ai (ao 3) (ai (tC (.int 0)) (ai (tC .bu) (ai (tC .bu) aC)))))
def CV (K:LM)(CP CQ:Addr):TS:=aJ (dS (cJ K (tI K 1 1)) (aB 3) (CU CP CQ)) (CS K CP CQ)
def xX (K:LM)(mg:Str->Option LO)(Fr:List D->Res R)(CP CQ:Addr)(E:XK):TS:=aJ (bY (bC (tO mg 2 Fr) [] E (ai (ao 0) (ai (ao 1) aC)))) (aJ (aY (qx CP (iS CP CQ) [] E0 (ai (ao 0) aC)) (aB 2)) (CV K CP CQ))
theorem AJ (A:PA):(pf A).lookup ("settle_all" : Str)=none:=rfl
theorem AK (h:RepT H t kt):(t.map fun x=>(Sum.inr (ak x.1):DK))=kt.map (fun p=>.inr p.1)/\IsAll H m (t.map fun x=>AH x.2) (kt.map Prod.snd):=by
 have ho:∀ o:Option Int,Is H m (oD o) (vO o):=fun o=>by cases o<;>rfl
 induction h with
 |nil=>exact⟨rfl,rfl⟩
 | @cons x y _ _ q _ ih=>obtain⟨e,p,hp,hv⟩:=q;exact⟨by rw[II,II,e,ih.1],y.2,_,rfl,⟨p,_,hp,hv,_,_,rfl,rfl,_,_,rfl,ho _,_,_,rfl,ho _,rfl⟩,ih.2⟩
section
variable {D:Ends}{σ:L2.St}{B:Hp}{A:PA}{rs:Pz.RS}{S T:Pz.PS}{xs xl xr:DX (List ba)}{p0 p1 l lm:Addr}{RL:List Pz.Rule}{M:List Pz.Arr}{ws wm:List V}{n:Nat}
def xY (p0 p1:Addr)(A:PA)(σ:L2.St):Prop:=∃ u v w,σ=[some (.ref p0),some (.ref p1),some (.ref A.o),u,v,w]
theorem pr2 (P:PAt CP CQ B H A rs S xs xl xr)(h:IsArr H a v)(hs:xY p0 p1 A σ)(f:Pz.gY (Pz.fT az S a))(k:∀ σ' H',xY p0 p1 A σ'->PAt CP CQ B H' A rs (Pz.fT az S a) xs xl xr->D.nx σ' H'):aB 3 v σ H fun σ2 H2=>CU CP CQ D σ2 H2:=by obtain⟨b,rfl,hb⟩:=h;obtain⟨u,w,z,rfl⟩:=hs;have P':=P;obtain⟨_,_,_,Q⟩:=P';exact ox (.va rfl) Q.po.ins (uT A) (.c (.va rfl) (.c .k (.c .k (.c .k .ni)))) (.mk (n:=none) (m:=none) P hb f fun H'=>k _ H' ⟨_,_,_,rfl⟩)
theorem G8 (P:PAt CP CQ B H A rs S xs xl xr)(hp:H pp=some (.tup [.int i,.ref c]))(hc:H c=some (.tup [.int r.1,.int r.2.1,.int r.2.2.1,.ref q]))(hq:H q=some (.tup (r.2.2.2.map .int)))(hs:xY p0 p1 A σ)(f:Pz.gY (Pz.dz az S (i,r)))
 (k:∀ σ' H',xY p0 p1 A σ'->PAt CP CQ B H' A rs (Pz.dz az S (i,r)) xs xl xr->D.nx σ' H'):dg K 2 (aU (aB 4) (aU (aB 5) de)) (.ref pp) σ H fun σ2 H2=>CO K CP CQ D σ2 H2:=by
 obtain⟨u,w,z,rfl⟩:=hs;have e2:(((r.2.2.2.map V.int).length:Nat):Int)=0↔r.2.2.2.length=0:=by rw[Iq];lia
 unfold Pz.dz at f k;refine sA hp (iC (.Bz (.len (.ix (.va rfl) hc rfl) hq) .k) (fun h=>?_) fun h=>?_)
 .rw[IS (e2.mp (Ja h))]at f k;exact mT P f (.va rfl) (.t (.c (.ix (.va rfl) hc rfl) (.c (.ix (.va rfl) hc rfl) (.c (.ix (.va rfl) hc rfl) .ni))) rfl) (fun _ _=>.c .k (.c (.va rfl) (.c .k .ni))) fun H'=>k _ H' ⟨_,_,_,rfl⟩
 .rw[IK fun z=>h (IJ (e2.mpr z))]at k;exact k _ H ⟨_,_,_,rfl⟩ P
theorem G9 (TP:gL K CP)(P:PAt CP CQ B H A rs S xs xl xr)(rok:mW rs)(fit:Pz.gY S)(lp:Pz.Loop az rs n S T)(hs:xY p0 p1 A σ)(k:∀ H' xs' xl',PAt CP CQ B H' A rs T xs' xl' xr->D.rt (.ref A.ta) H'):CM K CP CQ D σ H:=by obtain⟨u,w,z,rfl⟩:=hs;have P':=P;obtain⟨_,_,_,Q⟩:=P';exact ox (.va rfl) Q.po.ins (AJ A) .ni (.mk P rok fit lp fun H' xs' xl' P'=>by have P2:=P';obtain⟨_,_,_,Q⟩:=P2;exact Q.fld TP.cl TP.nt (xS A) rfl _ (k H' xs' xl' P'))
theorem G_ (TP:gL K CP)(G:d8 B RL p0 l ws)(P:PAt CP CQ B H A (Pz.bB RL) (M.foldl (Pz.fT az) Pz.S0) xs xl xr)(fit:Pz.gY (Pz.gi az RL M))(rok:mW (Pz.bB RL))(lp:Pz.Loop az (Pz.bB RL) n (Pz.gi az RL M) T)(hs:xY p0 p1 A σ)
 (k:∀ H' xs' xl',PAt CP CQ B H' A (Pz.bB RL) T xs' xl' xr->D.rt (.ref A.ta) H'):CS K CP CQ D σ H:=by
 obtain⟨w0,w1,hp0⟩:=(G.same P.same).tup;have h0:σ[0]?=some (some (.ref p0)):=by obtain⟨_,_,_,rfl⟩:=hs;rfl
 refine lY (ReadsA.c (.ix (.va h0) hp0 (v:=.ref l) rfl) .ni _ ⟨l,ws,rfl,.inl (aX P.same G.lst),?_⟩);refine qS (xY p0 p1 A) (fun i H5=>PAt CP CQ B H5 A (Pz.bB RL) (((Pz.en RL 0).take i).foldl (Pz.dz az) (M.foldl (Pz.fT az) Pz.S0)) xs xl xr) hs P (fun i H5 P5=>.inl (aX P5.same G.lst)) (fun i v pp σ H5 D' hv hpp hs P5 k=>?_) fun σ H5 hs P5=>?_
 .obtain⟨r,hr,c,q,rfl,hc,hq⟩:=G.its.get hv;have P6:=P5.more (aw (o:=.tup [.int (i:Nat),.ref c]) hpp);rw[qT (Pz.dz az) (M.foldl (Pz.fT az) Pz.S0) hr]at k;exact G8 P6 af (P6.same _ _ hc) (P6.same _ _ hq) hs (fg (step:=Pz.dz az) (fun S x=>by unfold Pz.dz;split;exact Pz.bP _ _ _ _ _;exact .refl _) (its:=Pz.en RL 0) fit (by rw[pY,hr];simp)) k
 .rw[Jx (by rw[Pz.kr,G.its.len];exact Im _)]at P5;exact G9 TP P5 rok fit lp hs k
theorem Hb (TP:gL K CP)(G:d8 B RL p0 l ws)(hp1:B p1=some (.tup [y0,.ref lm,y2]))(hlm:Rd B lm (.lst wm))(aM:aS (IsArr B) M wm)(P:PAt CP CQ B H A (Pz.bB RL) Pz.S0 xs xl xr)(fit:Pz.gY (Pz.gi az RL M))(rok:mW (Pz.bB RL))(lp:Pz.Loop az (Pz.bB RL) n (Pz.gi az RL M) T)(hs:xY p0 p1 A σ)
 (k:∀ H' xs' xl',PAt CP CQ B H' A (Pz.bB RL) T xs' xl' xr->D.rt (.ref A.ta) H'):CV K CP CQ D σ H:=by
 have g2:Pz.dP (M.foldl (Pz.fT az) Pz.S0) (Pz.gi az RL M):=Pz.bW _ (fun S x=>by unfold Pz.dz;split;exact Pz.bP _ _ _ _ _;exact .refl _) _ _;have h1:σ[1]?=some (some (.ref p1)):=by obtain⟨_,_,_,rfl⟩:=hs;rfl
 exact dQ (Reads.ix (.va h1) (P.same _ _ hp1) (v:=.ref lm) rfl _ ⟨lm,rfl,⟨wm,.inl (aX P.same hlm)⟩,mU (it:=IsArr) (xY p0 p1 A) (Pz.fT az) Pz.S0 (fun T H4=>PAt CP CQ B H4 A (Pz.bB RL) T xs xl xr) hs P (fun T' H4 P4=>⟨aX P4.same hlm,aM.mono (IsArr.keep (mR P4.same))⟩)
  (fun i a v σ H4 D' hi ia hs P4 k=>pr2 P4 ia hs (fg (step:=Pz.fT az) (fun S x=>Pz.bP S _ _ _ _) (g2.fit fit) hi) k) fun σ H4 hs P4=>G_ TP G P4 fit rok lp hs k⟩)
end
theorem oI {mg:Str->Option LO}{Fr:List D->Res R}(TP:gL K CP)(h:tO mg 2 (BX Fr) vs H Q E):xX K mg Fr CP CQ E (eQ Q) (bc (nS 6) vs) H:=by
 obtain⟨hl,ds,Ma,is,post⟩:=h;obtain⟨v0,v1,rfl⟩ : ∃ v0 v1,vs=[v0,v1]:=by rcases vs with _|⟨v0,_|⟨v1,_|⟨_,_⟩⟩⟩<;>first|(cases hl;done)|exact⟨_,_,rfl⟩
 refine⟨_,rfl,_,rfl,rfl,ds,Ma,is,?_⟩;unfold BX at post;cases hF:Fr ds with
 |stuck=>rw[hF]at post;exact post
 |exc c=>rw[hF]at post;exact post
 |ok r=>
  rw[hF]at post;dsimp only at post;by_cases hex:∃ t,kA ds t
  case neg=>rw[dif_neg hex]at post;exact post.elim
  case pos=>
  rw[dif_pos hex]at post;have hch:=Classical.choose_spec hex;generalize Classical.choose hex=t at post hch;obtain⟨RL,M,d0,d1,m0,m2,n,T,rfl,bH,fit,lp,rfl⟩:=hch;intro v H1 s1 _;obtain⟨_,_,ev,⟨p0,_,rfl,hp0,w0,_,rfl,_,w1,_,rfl,_,w2,_,rfl,iw2,rfl⟩,_,_,ev2,⟨p1,_,rfl,hp1,y0,_,rfl,_,y1,_,rfl,iy1,y2,_,rfl,_,rfl⟩,rfl⟩:=is;cases ev;cases ev2;obtain⟨l,ws,rfl,hl,iR⟩:=uY iw2;obtain⟨lm,wm,rfl,hlm,iM⟩:=uY iy1;have G:d8 H RL p0 l ws:=⟨⟨_,_,hp0⟩,hl,uX (fun x v=>AI) iR⟩;refine⟨_,rfl,fun o dx ho hdx hne=>?_⟩;have s2:Same H (upd (upd H1 dx (.own o)) o (.ins CP dx [])):=s1.trans fun b u e=>by rw[au (am e ho),au (am e hdx)];exact e
  refine .mk af s2 (s1.free ho) (G.same s2) bH fun A xr H3 eA P=>⟨rfl,?_⟩;subst eA;refine Hb TP G hp1 hlm (uX (fun x v=>CL) iM) P fit (Fk RL) lp ⟨none,none,none,rfl⟩ fun H6 xs6 xl6 ⟨_,kt6,_,Q6⟩=>?_;obtain⟨t1,t2⟩:=AK (m:=nl H H6) Q6.po.tr;exact post _ H6 Q6.same ⟨A.ta,kt6.map Prod.snd,rfl,⟨.inr ⟨kt6,.inl Q6.po.td,t1,rfl⟩,Q6.po.c5.2,⟨_,Q6.po.td,True.intro⟩⟩,t2⟩
end
theorem uZ:∀{n:Nat}{S T:Pz.PS},Pz.Loop pile rs n S T->∀{m:Nat}{T':Pz.PS},Pz.Loop pile rs m S T'->T=T':=by
 intro n S T h;induction h with
 |done e=>
  intro m T' h';cases h' with
  |done _=>rfl
  |step hne=>exact(hne e).elim
 |step hne _ _ _ _ _ ih=>
  intro m T' h';cases h' with
  |done e=>exact(hne e).elim
  |step _ _ _ _ _ h'=>exact ih h'
theorem sJ (h:gU r=gU s):r=s:=by
 have im:∀{l m:List Int},l.map D.int=m.map D.int->l=m:=fun{l m} e=>by
  induction l generalizing m with
  |nil=>cases m with
   |nil=>rfl
   |cons _ _=>cases e
  |cons x l ih=>cases m with
   |nil=>cases e
   |cons y m=>rw[II,II]at e;injection e with e1 e2;injection e1 with e1;rw[e1,ih e2]
 unfold gU at h;injection h with h;injection h with h0 h;injection h with h1 h;injection h with h2 h;injection h with h3 h;injection h0 with h0;injection h1 with h1;injection h2 with h2;injection h3 with h3;exact Prod.ext h0 (Prod.ext h1 (Prod.ext h2 (im h3)))
theorem u4 (h:p8 r=p8 s):r=s:=by unfold p8 at h;injection h with h;injection h with h0 h;injection h with h1 h;injection h with h2 h;injection h0 with h0;injection h1 with h1;injection h2 with h2;exact Prod.ext h0 (Prod.ext h1 h2)
theorem mY {α:Type}{f:α->D}(hf:∀{x y},f x=f y->x=y):∀{l m:List α},l.map f=m.map f->l=m
 | [],[],_=>rfl
 | [],_::_,e=>nomatch e
 |_::_,[],e=>nomatch e
 |x::l,y::m,e=>by rw[II,II]at e;injection e with e1 e2;rw[hf e1,mY hf e2]
structure Mt (K:LM) (C:Addr) (x q:Str) (st:Stmt) (ps:List Str) (f:Addr) (fd:FuncData):Prop where
 fu:wV K x q st f fd
 bi:Binds K fd ps []
 me:Meth K C x f
theorem CW {K:LM}{C:Addr}{x q:Str}{st:Stmt}{ps:List Str}{f:Addr}{oc:LO}{od an:Option Addr}{osl:Array (Option LO)}{kV doc pm cdv ct:LO}
 (l:K.lookup f=some ⟨oc,od,.func (PySem.W.fnOf x q (bK st) (bA st) (aA st) .none kV doc pm an cdv ct),osl⟩) (c:PySem.W.codeIn K cdv q=true) (k:PySem.W.keepIn K (.ref f)=true) (a:PySem.W.findIn K (.ref C) x=some (some (.ref f))) (i:PySem.W.isFn K (.ref f)=true)
 (h:∀(kV doc pm:LO)(an:Option Addr)(cdv ct:LO)(us:List LO),us.length=ps.length->bindArgs (PySem.W.fnOf x q (bK st) (bA st) (aA st) .none kV doc pm an cdv ct) ⟨us,[]⟩=pure (ps.zip us)) :
 Mt K C x q st ps f (PySem.W.fnOf x q (bK st) (bA st) (aA st) .none kV doc pm an cdv ct):=
 have F:wV K x q st f _:=ur l c k
 ⟨F,F.binds h,a,i,k⟩
section
variable {P:LN}{w:World}{K:LM}{mg:Str->Option LO}{base:Heap}
theorem zj {x qual:Str}{st:Stmt}{f:Addr}(F:wV K x qual st f fd)(S:aL N ps (aA st))(len:∀ vs H Q E,sp vs H Q E->vs.length=ps.length)
 (body:∀(cdv:LO)(A:LP)(outer:List Env)(s:LL)(H:Hp)(vs:List V)(Q:VK)(E:XK),cv k (A.deeper (envOfC qual (aA st) s.heap.objs.size f cdv))->sp vs H Q E->
   ∃ t,PSs (lM P w K mg base N qual (aA st) f cdv A outer s H E) (bA st) t/\t (eQ Q) (bc N vs) H):bz P w K mg base (rO P w) (k+1) f fd ps sp:=by
 obtain⟨oc,od,kV,doc,pm,an,cdv,ct,osl,rfl,lk,hcd⟩:=F.ex;exact uf lk hcd S len fun A outer s H vs Q E hr hsp=>body cdv A outer s H vs Q E hr hsp
end
theorem Hc {α:Type}{l:List α}(h:l.length=2):∃ a b,l=[a,b]:=by rcases l with _|⟨a,_|⟨b,_|_⟩⟩<;>first|(cases h;done)|exact⟨_,_,rfl⟩
theorem dY (hc:X.calm=true)(S:dt X scope tN capN caps)(hi:PI X tg iter wi)(hs:autoParam (∀ x,foldedSetIterable iter X.env x=pure x) LU._auto_1) :
 PE X (.ListComp elt [⟨tg,iter,ifs,0⟩] scope pos) (jo X scope tg tN capN caps elt ifs wi):=fun ae s σ H Q I h=>uD hc S I hi h hs
def zl (K:LM):List V->Hp->VK->Prop:=fun xs H Q=>∃ p ns,xs=[.ref p]/\SqL K H p (ns.map V.int)/\ns≠[]/\Q (.int (mF ns)) H
theorem sK (hc:X.calm=true):cK X (.builtin "min") (zl X.K):=rQ hc
theorem sL (h2:tN.length=2)(hg:∀ cl C s3 H3 fp,PG (b_ X scope (tN++[]) cl C s3 H3 fp) tg (dg X.K 2 (aU (aB 0) (aU (aB 1) de))))(he:∀ cl C s3 H3 fp,PE (b_ X scope (tN++[]) cl C s3 H3 fp) elt (ao 0)) :
 Ay (g7 (zl X.K) (ai (jo X scope tg tN [] [] elt [] (cJ X.K (ao 1))) aC)):=by
 intro σ H a vs its Q h1 hl a2 hne bH k;refine⟨_,h1,a,rfl,⟨_,SqL.of hl⟩,?_⟩;intro Dl hD cl C s3 fp;have hDa:a≠Dl:=am hl hD;have hlv:=a2.len;refine⟨_,_,_,fun i m acc H'=>m=its.length-i/\i<=its.length/\acc=((its.take i).map fun x=>V.int x.1)/\Same H H'/\H' Dl=some (.lst acc),hg cl C s3 _ fp,iA,he cl C s3 _ fp,⟨its.length,by simp,IL _,by simp,aw hD,af⟩,?_⟩;rintro i m acc H' ⟨rfl,hi,rfl,s,hDl⟩;have hl':=s _ _ hl;refine⟨hDl,?_⟩;by_cases hlt:i<its.length
 .right;have hiv:i<vs.length:=by lia
  refine⟨⟨vs,vs[i],SqL.of hl',by simp[hiv]⟩,fun xv H'' o y ho=>?_⟩;obtain⟨rfl,y⟩:=y;have hx:=y vs (SqL.of hl');obtain⟨x,ex,p,w,rfl,hp,_⟩:=a2.get hx;rw[h2]at ho;obtain⟨u0,u1,rfl⟩:=Hc ho;refine sA (s _ _ hp) ⟨fun j hj=>?_,?_⟩
  .rw[h2]at hj;obtain⟨j,rfl⟩:=JT hj;rfl
  .refine di ?_;refine⟨_,rfl,hDl,?_,its.length-(i+1),by lia,rfl,hlt,?_,fun c u e=>?_,af⟩
   .rw[Iq,IY];have:=Lb i its;lia
   .rw[Jf,ex,IW];rfl
   .rw[au (am e hD)];exact s _ _ e
 .left;have ei:i=its.length:=by lia
  subst ei;refine⟨⟨vs,SqL.of hl',by lia⟩,Dl,its.map (·.1),rfl,?_,by simpa using hne,?_⟩
  .rw[Jp]at hDl;rw[JK];exact SqL.of hDl
  .rw[qP];exact k H' s
theorem bF {N P:List Str}{sc:Scope}(a:autoParam (sc.kind=.function) LW._auto_1)(b:autoParam (sc.isCoroutine=false) LW._auto_1)(c:autoParam (sc.isGenerator=false) LW._auto_1)(d:N.Nodup:=by decide +kernel)(e:autoParam (N.take P.length=P) LW._auto_1)
 (f:∀ x∈P,sc.names.lookup x=some .local\/sc.names.lookup x=some .cell:=by decide +kernel) (g:∀ y∈sc.names,y.2≠.free:=by decide +kernel):aL N P sc:=⟨a,b,c,d,e,f,g⟩
abbrev BY (x q:Str)(st:Stmt)(kV doc pm:LO)(an:Option Addr)(cdv ct:LO):FuncData:=PySem.W.fnOf x q (bK st) (bA st) (aA st) .none kV doc pm an cdv ct
structure Df (K:LM) (mg:Str->Option LO) (x:Str) (st:Stmt) (ps:List Str) where
 f:Addr
 fd:FuncData
 h:Fn K mg x st ps f fd
structure Mf (K:LM) (C:Addr) (x q:Str) (st:Stmt) (ps:List Str) where
 f:Addr
 fd:FuncData
 h:Mt K C x q st ps f fd
section
variable {K KK:LM}{x q:Str}{st:Stmt}{f C:Addr}{oc:LO}{od an:Option Addr}{osl:Array (Option LO)}{kV doc pm cdv ct:LO}
def Lk (K:LM)(x q:Str)(st:Stmt)(f:Addr):Prop:=∃ oc od an osl kV doc pm cdv ct,K.lookup f=some ⟨oc,od,.func (BY x q st kV doc pm an cdv ct),osl⟩/\PySem.W.codeIn K cdv q=true
theorem lk (l:K.lookup f=some ⟨oc,od,.func (BY x q st kV doc pm an cdv ct),osl⟩)(c:PySem.W.codeIn K cdv q=true):Lk K x q st f:=⟨_,_,_,_,_,_,_,_,_,l,c⟩
def FK (K:LM)(x:Str)(st:Stmt):Prop:=∃ f,PySem.W.nsIn K mainGlobals x=some (some (.ref f))/\Lk K x x st f
theorem fk (a:PySem.W.nsIn K mainGlobals x=some (some (.ref f)))(l:K.lookup f=some ⟨oc,od,.func (BY x x st kV doc pm an cdv ct),osl⟩)(c:PySem.W.codeIn K cdv x=true):FK K x st:=⟨_,a,lk l c⟩
structure MK (K:LM) (C:Addr) (x q:Str) (st:Stmt) (f:Addr):Prop where
 a:PySem.W.findIn K (.ref C) x=some (some (.ref f))
 i:PySem.W.isFn K (.ref f)=true
 l:Lk K x q st f
 k:PySem.W.keepIn K (.ref f)=true
theorem mk (a:PySem.W.findIn K (.ref C) x=some (some (.ref f)))(i:PySem.W.isFn K (.ref f)=true)(l:K.lookup f=some ⟨oc,od,.func (BY x q st kV doc pm an cdv ct),osl⟩)(c:PySem.W.codeIn K cdv q=true)(k:PySem.W.keepIn K (.ref f)=true):MK K C x q st f:=⟨a,i,lk l c,k⟩
structure CK (K KK:LM) (x:Str) (C:Addr):Prop where
 b:PySem.W.nsIn K mainGlobals x=some (some (.ref C))
 pg:PySem.W.plainGet KK C Str.empty=true
 hd:PySem.W.hasDictIn KK C=true
 po:PySem.W.plainOver KK C=true
 sa:PySem.W.findIn KK (.ref C) "__setattr__"=some (some (.builtin "object.__setattr__"))
 m:PySem.W.makesIn KK C=true
 k:PySem.W.keepIn KK (.ref C)=true
theorem CK.cl (c:CK K KK x C):nv KK C:=⟨c.pg,c.hd,c.po,c.sa⟩
variable {mg:Str->Option LO}{ps:List Str}{h:Heap}
noncomputable def AllN:Nat->(List LO->Prop)->Prop
 |0,P=>P []
 |n+1,P=>∀ a,AllN n fun us=>P (a::us)
theorem AllN.of {n:Nat}{P:List LO->Prop}(h:AllN n P):∀ us:List LO,us.length=n->P us:=by
 induction n generalizing P with
 |zero=>intro us e;cases us with|nil=>exact h|cons _ _=>cases e
 |succ n ih=>intro us e;cases us with|nil=>cases e|cons a r=>exact ih (h a) r (Nat.succ.inj e)
theorem df (X:K.In h)(G:h.Ns mainGlobals mg)(U:gM K KK)(k:FK K x st)
 (hb:∀(kV doc pm:LO)(an:Option Addr)(cdv ct:LO),AllN ps.length fun us=>bindArgs (BY x x st kV doc pm an cdv ct) ⟨us,[]⟩=pure (ps.zip us):=by (repeat intro _);exact rfl):Nonempty (Df KK mg x st ps):=by
 obtain⟨f,a,oc,od,an,osl,kV,doc,pm,cdv,ct,l,c⟩:=k;exact⟨f,_,Ao U l c (KR X G a) fun kV doc pm an cdv ct=>(hb kV doc pm an cdv ct).of⟩
theorem mf (k:MK K C x q st f)
 (hb:∀(kV doc pm:LO)(an:Option Addr)(cdv ct:LO),AllN ps.length fun us=>bindArgs (BY x q st kV doc pm an cdv ct) ⟨us,[]⟩=pure (ps.zip us):=by (repeat intro _);exact rfl):∃ m:Mf K C x q st ps,m.f=f:=by
 obtain⟨a,i,⟨oc,od,an,osl,kV,doc,pm,cdv,ct,l,c⟩,kp⟩:=k;exact⟨⟨f,_,CW l c kp a i fun kV doc pm an cdv ct=>(hb kV doc pm an cdv ct).of⟩,rfl⟩
theorem CY (c:CK K KK x C) (k:MK KK C "__init__" q st f):Mk KK C f:=⟨c.m,k.a,k.i,c.k⟩
end
end L4
namespace L2
open PySem PySem.Spec PySem.Calls PyProof.Rows
section
variable {St:Nat->LL->Prop}
def kB (h h':Heap):Prop:=∀ b o,h.get? b=some o->h'.get? b=some o
def u5 (prog:LN)(w:World)(A:LP)(h0:Heap)(P:Nat->LO->Prop)(bt:Nat->Nat->Bool):Prop:=∀ i j u v (s:LL) (Q:LO->LL->Prop) (E:LO->LL->Prop),kB h0 s.heap->P i u->P j v->Q (.bool (bt i j)) s->wpAny (model prog w) A (richCompare .Lt u v) Q E s
theorem gF:(toString "min"++toString ".loop" : String)="min.loop":=by decide
theorem sM (W:WalksS prog w A.in1 I fp wr G n P St)(hcmp:u5 prog w A.in1 h0 P bt)(hwr:∀ b∈wr,h0.get? b=none)(hS:S∉fp)(hS0:h0.get? S=none) :
 ∀(k j:Nat)(s:LL)(vb:LO)(c:Nat),n-(j+1)=k->j+1<=n->St (j+1) s->kB h0 s.heap->P (argBest bt j) vb->s.heap.get? S=some { cls:=.type "list",dict:=none,data:=.seq #[vb,vb] c,slots:=#[] }->
  (∀ v s',P (argBest bt (n-1)) v->Moved (S::wr) G s s'->R (.ok (.ret v)) s')->codeAny (model prog w) A (.builtin "min.loop" ⟨[.ref I,.none,.ref S],kw⟩) R s:=by
 have sw:S∉wr:=fun h=>hS (W.sub _ h);have sub:∀ b∈wr,b∈S::wr:=fun b hb=>Iw _ hb;have nS:∀{b:Addr},b∉S::wr->S≠b:=fun hb h=>hb (h▸Iy);have kpM:∀{s s':LL},kB h0 s.heap->Moved wr G s s'->kB h0 s'.heap:=fun hk hm b o e=>hm.heap b o (fun z=>by rw[hwr b z]at e;cases e) (hk b o e);intro k;induction k with
 |zero=>
  intro j s vb c hk hj hst kp hP he hR;have ej:j+1=n:=by lia
  refine KL F.entry_min_loop ?_;rw[Kf J6 _];refine Il (K5 he rfl (Il (K4 (W.done s _ _ (ej▸hst) fun s' hm=>?_))));have he':=hm.heap S _ sw he;refine Il (Lo he' rfl (Il (Lj (Iu ?_))));exact hR vb _ (by rw[<- ej];exact hP) ((hm.mono sub).then_heap (tk:=s'.toks) (Im _) fun b o hb e=>(Jo _ _ (nS hb)).trans e)
 |succ k ih=>
  intro j s vb c hk hj hst kp hP he hR;have hlt:j+1<n:=by lia
  refine KL F.entry_min_loop ?_;rw[Kf J6 _];refine Il (K5 he rfl (Il (K4 (W.item (j+1) s _ _ hlt hst fun v s' hP' hst' hm=>?_))));have he':=hm.heap S _ sw he;have kp':=kpM kp hm;show wpAny _ A.in1 (tryCatch (holding [v,v] (richCompare .Lt v vb >>= _)) _ >>= _) _ _ _;refine Il (K4 (JW (Il (hcmp (j+1) (argBest bt j) v vb _ _ _ kp' hP' hP (Il (JW (JG (Il (Lj (Iu ?_))))))))));cases hb:bt (j+1) (argBest bt j) with
  |true=>
   simp only[LJ];refine Il (Lo he' rfl (Il (Lj ?_)));rw[gF];refine Iu ⟨Kx J6 _,ih (j+1) _ v _ (by lia) hlt (W.frame _ s' _ s'.toks hst' (Im _) fun b hbf o e=>?_) (fun b o e=>?_) (by simp only[argBest,hb,LJ];exact hP') (Ka _ he' rfl) fun v' s'' hP'' hm''=>?_⟩
   .exact(Jo _ _ (fun h:S=b=>hS (h▸hbf))).trans e
   .exact(Jo _ _ (fun h:S=b=>by rw[<- h,hS0]at e;cases e)).trans (kp' b o e)
   .exact hR v' s'' hP'' (Moved.trans W.gtrans ((hm.mono sub).then_heap (Im _) fun b o hb e=>(Jo _ _ (nS hb)).trans e) hm'')
  |false=>simp only[KN,LK];refine Il (Lj ?_);rw[gF];refine Iu ⟨Kx J6 _,ih (j+1) _ vb c (by lia) hlt hst' kp' (by simp only[argBest,hb,KN,LK];exact hP) he' fun v' s'' hP'' hm''=>?_⟩;exact hR v' s'' hP'' (Moved.trans W.gtrans (hm.mono sub) hm'')
theorem sN (d:LO):Builtin.Builtins.bindParams "min" ["key", "default"] 0 ⟨[],[(("default" : Str),d)]⟩=pure [none,some d]:=by rfl
theorem sO (a d:LO):argsOk "min" ⟨[a],[(("default" : Str),d)]⟩:=by unfold argsOk;kernel_rfl
theorem sP
 (h:wpAny (model prog w) A.in1 (pyIter x) (fun it s₂=>∃ I fp wr G n P St bt h0,it=.ref I/\WalksS prog w A.in1 I fp wr G n P St/\St 0 s₂/\(∀ b∈fp,b<s₂.heap.objs.size)/\u5 prog w A.in1 h0 P bt/\kB h0 s₂.heap/\(∀ b∈wr,h0.get? b=none)/\
   (n=0->∀ s',Moved wr G s₂ s'->Q d s')/\(0<n->∀ v s',P (argBest bt (n-1)) v->Moved wr G s₂ s'->Q v s')) E s) :
 wpAny (model prog w) A (call (.builtin "min") [x] [(("default" : Str),d)]) Q E s:=by
 refine PyProof.Rows.kmk_tree PySem.F.kind_min PySem.F.plain_min PySem.F.entry_min (sO _ _) ?_;show wpAny _ A.in1 (Builtin.Builtins.bindParams "min" ["key", "default"] 0 ⟨[],[(("default" : Str),d)]⟩ >>= _) _ _ s;refine Il (wpAny_of_eq (sN d) ?_);refine Il (Iu ?_);refine Il (JC h (fun it s₂ h₂=>?_) fun _ _ e=>e);obtain⟨I,fp,wr,G,n,P,St,bt,h0,rfl,W,hst,hfp,hcmp,kp,hwr,q0,q1⟩:=h₂;have hSf:s₂.heap.objs.size∉fp:=fun hm=>JI _ (hfp _ hm);have hSw:s₂.heap.objs.size∉wr:=fun h=>hSf (W.sub _ h);have hS0:h0.get? s₂.heap.objs.size=none:=by
  cases e:h0.get? s₂.heap.objs.size with
  |none=>rfl
  |some o=>exact absurd (Iz (kp _ _ e)) (JI _)
 refine Il (Ki ?_);rw[gF];have st1:=W.frame 0 s₂ (s₂.heap.push { cls:=.type "list",data:=.seq #[] }) s₂.toks hst (Im _) fun b _ o e=>Ip _ e;have he:(s₂.heap.push { cls:=.type "list",data:=.seq #[] }).get? s₂.heap.objs.size=_:=IG _ rfl;have nS:∀{b:Addr},b∉s₂.heap.objs.size::wr->s₂.heap.objs.size≠b:=fun hb h=>hb (h▸Iy);have sub:∀ b∈wr,b∈s₂.heap.objs.size::wr:=fun b hb=>Iw _ hb;refine Iu ⟨Kx J6 _,KL F.entry_min_loop ?_⟩;rw[Kf J6 _];refine Il (K5 he rfl (Il (K4 ?_)));by_cases hn:n=0
 .subst hn;refine W.done _ _ _ st1 fun s' hm=>?_;refine Il (LA (Iu ?_));exact q0 rfl s' (Moved.drop_new (tk:=s₂.toks) (hm.mono sub) (Im _))
 .refine W.item 0 _ _ _ (by lia) st1 fun v s' hP hst' hm=>?_;have he':=hm.heap _ _ hSw he;show wpAny _ A.in1 (updateSeq s₂.heap.objs.size (fun _=>#[v,v]) >>= _) _ _ _;refine Il (Lo he' rfl ?_);rw[gF];refine Iu ⟨Kx J6 _,sM W hcmp hwr hSf hS0 _ 0 _ v _ rfl (by lia) (W.frame _ s' _ s'.toks hst' (Im _) fun b hbf o e=>?_) (fun b o e=>?_) hP (Ka _ he' rfl) fun v' s'' hP' hm''=>?_⟩
  .exact(Jo _ _ (fun h:s₂.heap.objs.size=b=>hSf (h▸hbf))).trans e
  .exact(Jo _ _ (fun h:s₂.heap.objs.size=b=>by rw[<- h,hS0]at e;cases e)).trans (hm.heap b o (fun z=>by rw[hwr b z]at e;cases e) (Ip _ (kp b o e)))
  .exact q1 (by lia) v' s'' hP' (Moved.drop_new (tk:=s₂.toks) (Moved.trans W.gtrans ((hm.mono sub).then_heap (Im _) fun b o hb e=>(Jo _ _ (nS hb)).trans e) hm'') (Im _))
end
def mZ (K:LM)(H:Hp)(vs:List V)(ks:List (List Int)):Prop:=ks.length=vs.length/\∀(i:Nat) v k,vs[i]?=some v->ks[i]?=some k->∃ a,v=.ref a/\SqT K H a (k.map .int)
def m5 (vs:List V)(ks:List (List Int)):Prop:=ks.length=vs.length/\∀(i:Nat) v k,vs[i]?=some v->ks[i]?=some k->∃ n,k=[n]/\v=.int n
def sQ (ks:List (List Int))(i j:Nat):Bool:=HT.lexLt (ks[i]?.getD []) (ks[j]?.getD [])
def zm (K:LM)(te:TE):TE:=fun σ H Q=>te σ H fun x H1=>∃ p vs ks,x=.ref p/\SqL K H1 p vs/\(mZ K H1 vs ks\/m5 vs ks)/\(vs=[]->Q .bu H1)/\∀ v,vs[argBest (sQ ks) (vs.length-1)]?=some v->Q v H1
section
theorem m7 (bt:Nat->Nat->Bool):∀ n,argBest bt n<=n
 |0=>Im _
 |n+1=>by unfold argBest;split;exact Im _;exact Nat.le_succ_of_le (m7 bt n)
theorem xZ (hc:X.calm=true)(hu:X.A.units+64<cLine)(I:Inv X ae σ H s)(hl:SqL X.K H p vs)(hk:mZ X.K H vs ks\/m5 vs ks)(q0:vs=[]->Q .bu H)(q1:∀ v,vs[argBest (sQ ks) (vs.length-1)]?=some v->Q v H) :
 wX X (call (.builtin "min") [.ref p] [(("default" : Str),.none)]) (EP X ae σ Q) X.xe s:=by
 obtain⟨its,rv,pl,hz⟩:=I.list hl;have hh:X.A.in1.handled=none:=I.ok.hd hc;obtain⟨o,ho,_⟩:=pl.isList;have hlt:p<s.heap.objs.size:=Iz ho;have bH:=rv.length;have hkl:ks.length=vs.length:=hk.elim And.left And.left;have cmp:u5 X.prog X.w X.A.in1 s.heap (fun i v=>its[i]?=some v) (sQ ks):=by
  intro i j u v s' Q' E' kp hu' hv' hQ;have hi:i<its.length:=(Iv.mp hu').1;have hj:j<its.length:=(Iv.mp hv').1;have eki:ks[i]?=some ks[i]:=by simp[show i<ks.length by lia]
  have ekj:ks[j]?=some ks[j]:=by simp[show j<ks.length by lia]
  have evi:vs[i]?=some vs[i]:=by simp[show i<vs.length by lia]
  have evj:vs[j]?=some vs[j]:=by simp[show j<vs.length by lia]
  obtain⟨u',e1,r1⟩:=rv.get evi;obtain⟨v',e2,r2⟩:=rv.get evj;rw[hu']at e1;cases e1;rw[hv']at e2;cases e2;unfold sQ at hQ;rw[eki,ekj]at hQ;simp only[Option.getD_some]at hQ;generalize ks[i]=ki at eki hQ;generalize ks[j]=kj at ekj hQ;generalize vs[i]=wi at evi r1;generalize vs[j]=wj at evj r2;rcases hk with hk|hk
  .obtain⟨a,rfl,ha⟩:=hk.2 i _ _ evi eki;obtain⟨b,rfl,hb⟩:=hk.2 j _ _ evj ekj;cases r1;cases r2;obtain⟨ia,ra,pa,_⟩:=I.tuple ha;obtain⟨ib,rb,pb,_⟩:=I.tuple hb;obtain⟨oa,ea,pa⟩:=pa;obtain⟨ob,eb,pb⟩:=pb;refine HT.lt_tupInts (s:=s') ⟨oa,kp _ _ ea,pa⟩ ⟨ob,kp _ _ eb,pb⟩ (jY ra) (jY rb) ?_ hQ;show X.A.units+1<cLine;lia
  .obtain⟨m,rfl,rfl⟩:=hk.2 i _ _ evi eki;obtain⟨n,rfl,rfl⟩:=hk.2 j _ _ evj ekj;obtain⟨t1,rfl⟩:=r1;obtain⟨t2,rfl⟩:=r2;refine HT.rcLt_int _ _ _ _ _ _ _ _ _ _ ?_;have:HT.lexLt [m] [n]=decide (m<n):=by
    show(if m=n then false else decide (m<n))=_;split
    .rename_i e;rw[IQ (by lia)]
    .rfl
   rw[<- this];exact hQ
 refine sP (Kv pl.isList ?_);refine⟨s.heap.objs.size,_,_,_,_,_,_,sQ ks,s.heap,rfl,(Walks.list hh s.heap.objs.size p (IN hlt) its.toArray).toS,⟨⟨_,IG _ rfl,rfl,rfl⟩,?_⟩,?_,?_,?_,?_,?_,?_⟩
 .exact pl.isList.at fun o e=>Ip _ e
 .intro b hb;rw[K3];rcases ID.mp hb with e|hb
  .rw[e];exact JU _
  .rcases ID.mp hb with e|hb
   .rw[e];exact LB hlt
   .cases hb
 .intro i j u v s' Q' E' kp hu' hv' hQ;exact cmp i j u v s' Q' E' kp (by simpa using hu') (by simpa using hv') hQ
 .exact fun b o e=>Ip _ e
 .intro b hb;obtain rfl:=IA.mp hb;cases e:s.heap.get? s.heap.objs.size with
  |none=>rfl
  |some o=>exact absurd (Iz e) (JI _)
 .intro hn s' hm;have e0:vs=[]:=Jr.mp (by rw[bH];simpa using hn);exact⟨.bu,H,back I hm,rfl,q0 e0⟩
 .intro hn v s' hv hm;have hv:its[argBest (sQ ks) (its.length-1)]?=some v:=by simpa using hv
  have hb:=m7 (sQ ks) (vs.length-1);have hpos:0<its.length:=by simpa using hn
  have ev:vs[argBest (sQ ks) (vs.length-1)]?=some (vs[argBest (sQ ks) (vs.length-1)]'(by lia)):=by simp
  obtain⟨u',e1,r1⟩:=rv.get ev;rw[bH,hv]at e1;cases e1;exact⟨_,H,back I hm,r1,q1 _ ev⟩
where
 back {X:Cx} {ae:List (Addr×Obj)} {s s':LL} {σ:St} {H:Hp} {p:Addr} (I:Inv X ae σ H s) (hm:Moved [s.heap.objs.size] (fun a b=>b=a) { s with heap:=s.heap.push { cls:=.type "list_iterator",data:=.fields #[.ref p,.int 0 0] } } s'):Inv X ae σ H s':=by obtain⟨h',g',d',tk',os'⟩:=s';obtain rfl:g'=s.gens:=hm.gens;obtain rfl:d'=s.drawn:=hm.drawn;obtain rfl:os'=s.os:=hm.os;have I1:Inv X ae σ H { s with heap:=s.heap.push { cls:=.type "list_iterator",data:=.fields #[.ref p,.int 0 0] } }:=I.kept (t':=s.toks) fun b o e=>Ip _ e;have fo:=I.kU (H':=H) (Im s.heap.objs.size) (I.aO.fresh (Im _));have I2:=I1.turned (h':=h') (t':=tk') (it:=s.heap.objs.size) (fun b o hb e=>hm.heap b o (by simpa using hb) e) fo.1 fo.2.1 fo.2.2.2.1 fo.2.2.2.2.1 fo.2.2.2.2.2;exact I2
theorem x_ (hc:X.calm=true) (hu:X.A.units+64<cLine) (hg:Gl X "min") (hm:X.mg "min"=none) (he:PE X e te) (hst:autoParam (sE X e []) LW._auto_1)
 (hpl:autoParam (((backTo pos (starEach [e] X.env)).any (·.1) || (backToKw pos (keywordEach [⟨some "default",.Constant .none j kp,kpos⟩] X.env)).any (·.1.isNone))=false) LW._auto_1) :
 PE X (.Call (.Name "min" p) [e] [⟨some "default",.Constant .none j kp,kpos⟩] pos) (zm X.K te):=by
 intro ae s σ H Q I h;refine JR (fq I hg hm (by decide +kernel:bootBuiltins "min"=some (.builtin "min")) ?_ (by decide) (by decide));have hp:PA X [e] (ai te aC):=ac he aj (hs:=hst);have hk1:PK X [⟨some "default",.Constant .none j kp,kpos⟩] (ai (tC .bu) aC):=xh bR z7;refine PySem.W.callWith_of (P:=fun _=>True) hpl (fun h _=>⟨Keeper.machine,.inr (.inl rfl),PySem.W.Looks.now⟩) (PyProof.Rows.evalArgs_kw2 rfl (bI (hp pos ae s σ H (fun ws H1=>match ws with|[x]=>(∃ p vs ks,x=.ref p/\SqL X.K H1 p vs/\(mZ X.K H1 vs ks\/m5 vs ks)/\(vs=[]->Q .bu H1)/\∀ v,vs[argBest (sQ ks) (vs.length-1)]?=some v->Q v H1)|_=>False) I h) fun us s1 ⟨vs,H1,I1,r,q⟩=>?_) hst);obtain⟨x,rfl⟩ : ∃ x,vs=[x]:=by
  match vs,q with
  | [x],_=>exact⟨x,rfl⟩
 obtain⟨p,vs,ks,rfl,hl,hk,q0,q1⟩:=q;obtain⟨u,rfl,ru⟩:=eS r;cases ru;refine bI (hk1 pos ae s1 σ H1 (fun vs H2=>vs=[.bu]/\H2=H1) I1 ⟨rfl,rfl⟩) fun ws s2 ⟨zs,H2,I2,rz,e1,e2⟩=>⟨True.intro,?_⟩;subst e1 e2;obtain⟨u,rfl,ru⟩:=eS rz;cases ru;exact xZ hc hu I2 hl hk q0 q1
end
end L2
namespace L3
open PySem PySem.Spec PyProof.Rows L2
end L3
namespace L2
open PySem PySem.Spec PySem.Calls PyProof.Rows
abbrev zn:=List (List ba×Addr×LO)
noncomputable def u6:LO->Int
 | .int n _=>n
 |_=>0
def oJ (xb:zn)(x:List ba×Addr×LO):Bool:=match xb.find? fun y=>decide (y.1=x.1) with
 |some y=>u6 x.2.2==u6 y.2.2
 |none=>false
def CZ (xa xb:zn):Bool:=xa.length==xb.length&&xa.all (oJ xb)
section
variable {prog:LN}{w:World}{A:LP}{E:LO->LL->Prop}{s:LL}{a b:Addr}{xa xb:zn}
theorem kC:∀{xb:zn}{j:Nat}{k:List ba}{p:Addr×LO},(xb.map (·.1)).Nodup->xb[j]?=some (k,p)->xb.find? (fun y=>decide (y.1=k))=some (k,p)
 | [],_,_,_,_,e=>by simp at e
 |y::r,0,k,p,nd,e=>by simp at e;subst e;rw[JB];simp
 |y::r,j+1,k,p,nd,e=>by
  have nd':=Jq.mp nd;have e':r[j]?=some (k,p):=by simpa using e
  have hm:k∈r.map (·.1):=IT.mpr ⟨_,IH e',rfl⟩;rw[JB,IQ (fun z=>nd'.1 (by show y.1∈_;rw[z];exact hm))];exact kC nd'.2 e'
theorem oK {nm:String}{Q:Bool->LL->Prop}(hu:(tupleKind (aI prog w)).room A)(ha:(a==sysModules)=false)(hb:(b==sysModules)=false)(da:s.heap.DictOfH (tupleKind (aI prog w)) a xa)(db:s.heap.DictOfH (tupleKind (aI prog w)) b xb)
 (na:∀ x∈xa,∃ n t,x.2.2=.int n t) (nb:∀ x∈xb,∃ n t,x.2.2=.int n t) (h:Q (CZ xa xb) s):wpAny (model prog w) A (Builtin.Dict.samePairs nm a b) Q E s:=by
 obtain⟨oa,es,ep,hoa,_,hda,hea,hia,hna⟩:=da;obtain⟨ob,es',ep',hob,_,hdb,heb,hib,hnb⟩:=db;have hla:es.size=xa.length:=Li hea;have hlb:es'.size=xb.length:=Li heb;unfold Builtin.Dict.samePairs Builtin.Dict.showsAll;rw[IK (by grind),IK (by grind)];refine Il (Iu (Il (Iu (Il (JO hoa hda ?_)))));dsimp only;refine Il (JO hob hdb ?_);unfold CZ at h;by_cases hsz:es.size=es'.size
 case neg=>
  have:(xa.length==xb.length)=false:=by grind
  rw[this,Lv]at h;rw[IS (by grind)];exact Il (LA (Iu h))
 case pos=>
  have:(xa.length==xb.length)=true:=by grind
  rw[this,Bool.true_and]at h;rw[IK (by grind)];refine Il (KM hoa hda (Il ?_));rw[Std.Legacy.Range.forIn_eq_forIn_range'];simp only[Std.Legacy.Range.size,Nat.sub_zero,Nat.add_sub_cancel,Nat.div_one];refine wpAny_forIn_list _ (fun rest q s'=>s'=s/\q=(none,())/\∃ i,rest=List.range' i (es.size-i)/\i<=es.size/\Q ((xa.drop i).all (oJ xb)) s) _ ?_ ?_ _ _ ⟨rfl,rfl,0,by simp,IL _,h⟩
  .rintro i rest q s' ⟨rfl,rfl,i',hr,hi,hQ⟩;have hlt:i'<es.size:=Nat.lt_of_not_le fun z=>by rw[Nat.sub_eq_zero_of_le z]at hr;simp at hr
   have e1:es.size-i'=(es.size-(i'+1))+1:=by lia
   rw[e1,List.range'_succ]at hr;injection hr with e2 hrest;subst e2;have hltx:i<xa.length:=by lia
   have hx:xa[i]?=some xa[i]:=by simp[hltx]
   have hdrop:xa.drop i=xa[i]::xa.drop (i+1):=JE hltx;have hent:=entry_at hea i;rw[hx]at hent;have hxm:=List.getElem_mem hltx;rw[hdrop,LF]at hQ;generalize xa[i]=x at hx hent hxm hQ;obtain⟨k,c,v⟩:=x;obtain⟨n,t,rfl⟩ : ∃ n t,v=.int n t:=na _ hxm;refine Il (JO hoa hda ?_);rw[hent];refine Il (JW (Il (wpAny_dictFind_heap hu (hia _ hxm) hob hdb heb hib hnb (fun hno=>?_) fun j p hj=>?_)))
   .have hf:xb.find? (fun y=>decide (y.1=k))=none:=by rw[List.find?_eq_none];intro y hy z;obtain⟨m,hm⟩:=List.getElem?_of_mem hy;exact hno m y.2 (by grind)
    have:oJ xb (k,c,.int n t)=false:=by unfold oJ;dsimp only;rw[hf]
    rw[this,Lv]at hQ;exact Iu (Iu (Iu hQ))
   .have hf:=kC hnb hj;have hentb:=entry_at heb j;rw[hj]at hentb;obtain⟨m,u,epv⟩:=nb _ (IH hj);obtain⟨pa,pv⟩:=p;dsimp only at epv;subst epv;have hh:oJ xb (k,c,.int n t)=(n==m):=by unfold oJ;dsimp only;rw[hf];rfl
    rw[hh]at hQ;refine Il (JO hob hdb ?_);rw[hentb];refine JW (SeqAt.EqAt.int_int n t m u prog w _ _ ?_);cases q:(n==m) with
    |false=>rw[q,Lv]at hQ;exact Iu (Iu hQ)
    |true=>rw[q,Bool.true_and]at hQ;refine Il (KM hoa hda ?_);rw[IK (by simp)];exact Iu ⟨rfl,rfl,i+1,hrest,hlt,hQ⟩
  .rintro q s' ⟨rfl,rfl,i,hr,hi,hQ⟩;have hin:i=es.size:=Nat.le_antisymm hi (Nat.le_of_not_lt fun z=>by
    have e:es.size-i=(es.size-(i+1))+1:=by lia
    rw[e,List.range'_succ]at hr;exact nomatch hr)
   rw[hin,hla,List.drop_length]at hQ;exact Iu hQ
end
def sR (kvs:List (List ba×V)):Prop:=∀ p∈kvs,∃ n,p.2=.int n
noncomputable def ya (kb:List (List ba×V))(p:List ba×V):Bool:=match kb.find? fun y=>decide (y.1=p.1) with
 |some y=>decide (p.2=y.2)
 |none=>false
def p_ (ka kb:List (List ba×V)):Bool:=ka.length==kb.length&&ka.all (ya kb)
def u7 (H:Hp)(a:Addr)(kvs:List (List ba×V)):Prop:=Rd H a (.dT kvs)\/(kvs=[]/\Rd H a (.dK []))
theorem yb {H:Hp}{kb:List (List ba×V)}{xb:zn}(r:KT H kb xb)(ib:sR kb){p:List ba×V}{x:List ba×Addr×LO}(e:p.1=x.1)(rv:RelV p.2 x.2.2)(ip:∃ n,p.2=.int n):ya kb p=oJ xb x:=by
 obtain⟨n,en⟩:=ip;rw[en]at rv;obtain⟨t,et⟩:=rv;unfold ya oJ;rw[<- e,en,et];clear e en et;induction r with
 |nil=>rfl
 | @cons q y kb xb hq _ ih=>
  obtain⟨h1,_,h3⟩:=hq;rw[JB,JB,h1];by_cases z:y.1=p.1
  .rw[IJ z];obtain⟨m,em⟩:=ib q Iy;rw[em]at h3;obtain⟨u,eu⟩:=h3;show decide (V.int n=q.2)=(n==u6 y.2.2);rw[em,eu];show decide (V.int n=V.int m)=(n==m);rw[KG];simp
  .rw[IQ z];exact ih fun p hp=>ib p (Iw _ hp)
theorem u9 {H:Hp}{ka kb:List (List ba×V)}{xa xb:zn}(ra:KT H ka xa)(rb:KT H kb xb)(ia:sR ka)(ib:sR kb):p_ ka kb=CZ xa xb:=by
 unfold p_ CZ;rw[JV ra,JV rb];congr 1;induction ra with
 |nil=>rfl
 | @cons p x ka xa hq _ ih=>rw[LF,LF,ih fun p hp=>ia p (Iw _ hp),yb rb ib hq.1 hq.2.2 (ia p Iy)]
theorem oM {H:Hp}{ka:List (List ba×V)}{xa:zn}(ra:KT H ka xa)(ia:sR ka):∀ x∈xa,∃ n t,x.2.2=.int n t:=by
 induction ra with
 |nil=>exact fun _ h=>(IC h).elim
 | @cons p x ka xa hq _ ih=>
  intro y hy;rcases ID.mp hy with rfl|hy
  .obtain⟨n,en⟩:=ia p Iy;have:=hq.2.2;rw[en]at this;obtain⟨t,et⟩:=this;exact⟨n,t,et⟩
  .exact ih (fun p hp=>ia p (Iw _ hp)) y hy
end L2
namespace L3
open PySem PySem.Spec PyProof.Rows L2
end L3
namespace L2
open PySem PySem.Spec PySem.Calls PyProof.Rows
abbrev H_:=St->Hp->(Hp->Prop)->XK->Prop
end L2
namespace L3
open PySem PySem.Spec PyProof.Rows L2
structure D9 (K:LM) (x qual:Str) (st:Stmt) (f:Addr) (fd:FuncData):Prop where
 ex:∃(oc:LO)(od:Option Addr)(dV kV doc pm:LO)(an:Option Addr)(cdv ct:LO)(osl:Array (Option LO)),
  fd=PySem.W.fnOf x qual (bK st) (bA st) (aA st) dV kV doc pm an cdv ct/\K.lookup f=some ⟨oc,od,.func fd,osl⟩/\PySem.W.codeIn K cdv qual=true
 kp:PySem.W.keepIn K (.ref f)=true
structure GP (K:LM) (mg:Str->Option LO) (x:Str) (st:Stmt) (ps:List Str) (v:LO) (f:Addr) (fd:FuncData):Prop where
 fu:D9 K x x st f fd
 bi:Binds K fd ps []
 bd:Binds K fd ps [v]
 gl:mg x=some (.ref f)
theorem AL {K:LM}{mg:Str->Option LO}{x:Str}{st:Stmt}{ps:List Str}{f T:Addr}{oc tc v:LO}{od an td:Option Addr}{osl tsl:Array (Option LO)}{kV doc pm cdv ct:LO}{n:Nat}
 (l:K.lookup f=some ⟨oc,od,.func (PySem.W.fnOf x x (bK st) (bA st) (aA st) (.ref T) kV doc pm an cdv ct),osl⟩) (lT:K.lookup T=some ⟨tc,td,.seq #[v] n,tsl⟩) (c:PySem.W.codeIn K cdv x=true) (kp:PySem.W.keepIn K (.ref f)=true) (g:mg x=some (.ref f))
 (h0:∀ us:List LO,us.length=ps.length->∃ k,bindArgs (PySem.W.fnOf x x (bK st) (bA st) (aA st) (.ref T) kV doc pm an cdv ct) ⟨us,[]⟩=seqItems? (.ref T) >>= k/\k (some #[v])=pure (ps.zip us))
 (h1:∀ us:List LO,us.length+1=ps.length->∃ k,bindArgs (PySem.W.fnOf x x (bK st) (bA st) (aA st) (.ref T) kV doc pm an cdv ct) ⟨us,[]⟩=seqItems? (.ref T) >>= k/\k (some #[v])=pure (ps.zip (us++[v]))) :
 GP K mg x st ps v f (PySem.W.fnOf x x (bK st) (bA st) (aA st) (.ref T) kV doc pm an cdv ct) where
 fu:=⟨⟨oc,od,.ref T,kV,doc,pm,an,cdv,ct,osl,rfl,l,c⟩,kp⟩
 bi:=fun s us X hl=>by rw[KH]at hl ⊢;obtain⟨k,e1,e2⟩:=h0 us hl;exact PySem.W.binds_K X rfl lT rfl e1 e2
 bd:=fun s us X hl=>by obtain⟨k,e1,e2⟩:=h1 us (by simpa using hl);exact PySem.W.binds_K X rfl lT rfl e1 e2
 gl:=g
end L3
namespace L2
open PySem PySem.Spec PySem.Calls PyProof.Rows
end L2
namespace L4
open PySem PySem.Spec PyProof.Rows L2 L3
end L4
namespace Sp
noncomputable abbrev Arr:=Int×Int×Int
noncomputable abbrev Rule:=Int×Int×Int×List Int
section
variable {κ β:Type}[DecidableEq κ]
def get (d:List (κ×β))(k:κ):Option β:=(d.find? fun x=>decide (x.1=k)).map (·.2)
def put (d:List (κ×β))(k:κ)(v:β):List (κ×β):=if (get d k).isSome then d.map (fun x=>if x.1=k then (x.1,v) else x) else d++[(k,v)]
end
structure St where
 tb:List (Int×List (Int×List Int))
 en:List Int
 fo:List (Int×List Int)
 mi:List ((Int×Int)×Int)
 du:List Arr
noncomputable def add (l:List Int)(x:Int):List Int:=if x∈l then l else l++[x]
def row (tb:List (Int×List (Int×List Int)))(s:Int):List (Int×List Int):=(get tb s).getD []
def leaf (tb:List (Int×List (Int×List Int)))(s g:Int):List Int:=(get (row tb s) g).getD []
def fol (S:St)(s:Int):List Int:=(get S.fo s).getD []
def d_ (S:St)(a:Arr):Prop:=a.2.2∈leaf S.tb a.1 a.2.1
def u_ (S:St)(s g t:Int):St:=if t∈leaf S.tb s g then S else { S with tb:=put S.tb s (put (row S.tb s) g (leaf S.tb s g++[t])),du:=S.du++[(s,g,t)] }
def yc (r:Int)(S:St)(x:Int×List Int):St:=x.2.foldl (fun S t=>u_ S r x.1 t) S
def AM (S:St)(r s:Int):St:=if r∈fol S s then S else
 (row S.tb s).foldl (yc r) { S with fo:=put S.fo s (fol S s++[r]),en:=if s∈S.en then add S.en r else S.en }
def C1 (n:Int)(S:St)(r g:Int):Int:=(get S.mi (r,g)).getD (n+S.mi.length)
def Fo (n:Int)(S:St)(r g:Int):St:=if (get S.mi (r,g)).isSome then S else { S with mi:=S.mi++[((r,g),n+S.mi.length)] }
def C2 (n:Int)(t:Int)(S:St)(r:Rule):St:=match r.2.2.2 with
 | []=>AM S r.2.2.1 t
 | [a]=>u_ S r.2.2.1 a t
 |a::b::_=>u_ (u_ (Fo n S r.2.2.1 a) r.2.2.1 a (C1 n S r.2.2.1 a)) (C1 n S r.2.2.1 a) b t
abbrev RS:=List ((Int×Int)×List Rule)
def C3 (a:Arr)(S:St):St:=(fol S a.1).foldl (fun S r=>u_ S r a.2.1 a.2.2) S
def turn (n:Int)(rs:RS)(a:Arr)(S:St):St:=((get rs (a.1,a.2.1)).getD []).foldl (C2 n a.2.2) (C3 a S)
end Sp
namespace Sp
def Hd (ro:Int)(S:St)(r:Rule)(t:Int):Prop:=match r.2.2.2 with
 | []=>r.2.2.1∈fol S t
 | [x]=>d_ S (r.2.2.1,x,t)
 |x::y::_=>∃ m,ro<=m/\d_ S (r.2.2.1,x,m)/\d_ S (m,y,t)
def yd (rs:RS)(s g:Int):List Rule:=(get rs (s,g)).getD []
def Fq (ro:Int)(rs:RS)(S:St)(a:Arr):Prop:=∀ r∈yd rs a.1 a.2.1,Hd ro S r a.2.2
structure J (ro:Int) (rs:RS) (S:St) (pf:Int->Arr->Prop) (pr:Arr->Prop):Prop where
 to:∀ a,d_ S a->ro<=a.2.2
 mi:∀ x∈S.mi,ro<=x.2
 fo:∀ s r,r∈fol S s->r<ro/\ro<=s/\(s∈S.en->r∈S.en)/\∀ g t,d_ S (s,g,t)->d_ S (r,g,t)\/(s,g,t)∈S.du\/pf r (s,g,t)
 dn:∀ a,d_ S a->Fq ro rs S a\/a∈S.du\/pr a
end Sp
namespace Sp
section
def Fs {κ β:Type}(d:List (κ×β)):Prop:=(d.map (·.1)).Nodup
end
end Sp
namespace Sp
end Sp
namespace Sp
theorem nodup_sub {α:Type}[DecidableEq α]:∀{l U:List α},l.Nodup->(∀ x∈l,x∈U)->l.length<=U.length
 | [],U,_,_=>IL _
 |x::l,U,nd,h=>by rw[Jq]at nd;have hx:=h x (by simp);have:=nodup_sub (l:=l) (U:=U.erase x) nd.2 fun y hy=>(List.mem_erase_of_ne fun e=>nd.1 (by rw[<- e];exact hy)).mpr (h y (by simp[hy]));rw[List.length_erase_of_mem hx]at this;have:=KY hx;rw[IM];lia
def Bx (sg m:Int)(a:Arr):Prop:=(0<=a.1/\a.1<m)/\(0<=a.2.1/\a.2.1<sg)/\0<=a.2.2/\a.2.2<m
structure B (ro n sg:Int) (ks:List (Int×Int)) (t0 pp:List Arr) (S:St):Prop where
 old:∀ a,d_ S a->ro<=a.1->a.1<n->a∈t0
 bx:∀ a,d_ S a->Bx sg (n+ks.length) a
 ne1:∀ x∈S.tb,x.2≠[]
 ne2:∀ s,∀ x∈row S.tb s,x.2≠[]
 lf:∀ s g,(leaf S.tb s g).Nodup
 nd:(pp++S.du).Nodup
 sub:∀ a∈pp++S.du,d_ S a
 mc:(S.mi.map (·.1)).Nodup
 ms:∀ x∈S.mi,x.1∈ks
 mv:∀ x∈S.mi,n<=x.2/\x.2<n+S.mi.length
 en:S.en.Nodup
 er:∀ e∈S.en,0<=e/\e<n
 fk:Fs S.fo
 fl:∀ s,(fol S s).Nodup
 fr:∀ s,∀ r∈fol S s,0<=r/\r<ro
 fs:∀ x∈S.fo,0<=x.1/\x.1<n+ks.length
end Sp
namespace Sp
end Sp
namespace Sp
def AN (l:List Int):List Int:=l.foldl add []
def bc (es:List Int):St:=⟨[],AN es,[],[],[]⟩
end Sp
namespace Sp
section
variable {ro n sg:Int}
noncomputable def AO (ts:List Arr)(es:List Int):Int->List Int->Prop
 |s,[]=>s∈es
 |s,g::w=>∃ t,(s,g,t)∈ts/\AO ts es t w
structure Fw (ro sg n:Int) (RL:List Rule) (ts:List Arr) (es:List Int) (n':Int) (ts':List Arr) (es':List Int):Prop where
 t:∀ a∈ts,a∈ts'
 e:∀ x∈es,x∈es'
 c:∀ r∈RL,r.2.2.2.length<=2->∀ w,AO ts' es' r.1 (r.2.1::w)->AO ts' es' r.2.2.1 (r.2.2.2++w)
end
end Sp
namespace L2
open PySem PySem.Spec PySem.Calls PyProof.Rows
end L2
namespace L4
open PySem PySem.Spec PyProof.Rows L2 L3
theorem KT.trans (h:KT H H')(h':KT H' H''):KT H H'':=fun a ws e=>h' a ws (h a ws e)
theorem KT.of (s:Same H H'):KT H H':=fun a _ e=>s a _ e
theorem KT.upd (h:H a=some u)(n:∀ ws,u≠.tup ws):KT H (upd H a v):=fun c ws e=>by rw[au (fun z=>by subst z;rw[h]at e;cases e;exact n _ rfl)];exact e
section
variable {τ:Type}
structure Ln (τ:Type) where
 z:τ->Prop
 c:τ->Option (Addr×HO)
end
inductive Tag where
 |o|ta|en|fo|mi|du|ru
 |row (s:Int)
 |lf (s g:Int)
 |fl (s:Int)
 |rl (k:Int×Int)
structure SA where
 o:Addr
 ta:Addr
 en:Addr
 fo:Addr
 mi:Addr
 du:Addr
 ru:Addr
structure Fx where
 A:SA
 C:Addr
 dx:Addr
 n:Int
 rs:Sp.RS
 RA:Int×Int->Addr
 xs:Int×Int->NX
structure Vr where
 R:Int->Addr
 L:Int->Int->Addr
 F:Int->Addr
 dv:List V
 ue:HO
section
section
variable {β:Type}{d:List (Int×β)}
def sd {κ β:Type}[DecidableEq κ](d:List (κ×β))(k:κ)(x:β):List (κ×β):=if (Sp.get d k).isSome then d else d++[(k,x)]
end
end
section
theorem qa (h:n<15000000):n<sizeLine:=by rw[IY];lia
end
theorem jc {J:L2.It}{n:Nat}{g:TG}{tb:TS}{D:Ends}{σ:L2.St}{H:Hp}(P:Nat->L2.St->Hp->Prop)(p0:P 0 σ H)(hgo:∀ i σ H,P i σ H->i<n->J.go i H)(hst:∀ σ H,P n σ H->J.stop n H)
 (hb:∀ i σ H x H' (D':Ends),i<n->P i σ H->J.tS i H x H'->(∀ σ' H',P (i+1) σ' H'->D'.nx σ' H')->g x σ H' fun σ2 H2=>tb D' σ2 H2) (he:∀ σ H,P n σ H->D.nx σ H):∃ W:Nat->Nat->L2.St->Hp->Prop,(∃ m,W 0 m σ H)/\∀ i m σ H,W i m σ H->
 (J.stop i H/\D.nx σ H)\/(J.go i H/\∃ N:L2.St->Hp->Prop,(∀ σ' H',N σ' H'->∃ m',m'<m/\W (i+1) m' σ' H')/\∀ x H',J.tS i H x H'->g x σ H' fun σ2 H2=>tb { D with nx:=N,ct:=N,bk:=D.nx } σ2 H2):=by
 refine⟨fun i m σ H=>m=n-i/\i<=n/\P i σ H,⟨n,by simp,IL _,p0⟩,?_⟩;rintro i m σ H ⟨rfl,hi,p⟩;by_cases h:i<n
 .exact .inr ⟨hgo i σ H p h,P (i+1),fun σ' H' q=>⟨n-(i+1),by lia,rfl,h,q⟩,fun x H' y=>hb i σ H x H' _ h p y fun _ _=>id⟩
 .have e:i=n:=by lia
  subst e;exact .inl ⟨hst σ H p,he σ H p⟩
end L4
namespace Sp
end Sp
namespace L4
open PySem PySem.Spec PyProof.Rows L2 L3
end L4
namespace Sp
end Sp
namespace L4
open PySem PySem.Spec PyProof.Rows L2 L3
theorem aS.BJ {α β:Type}{R:α->β->Prop}{xs:List α}{x:α}{ys:List β}(h:aS R (xs++[x]) ys):∃ zs y,ys=zs++[y]/\aS R xs zs/\R x y:=by
 induction xs generalizing ys with
 |nil=>
  cases h with
  |cons a b=>cases b;exact⟨[],_,rfl,.nil,a⟩
 |cons w xs ih=>
  cases h with
  |cons a b=>obtain⟨zs,y,e,h1,h2⟩:=ih b;exact⟨_::zs,y,by rw[e];rfl,.cons a h1,h2⟩
section
variable {H:Hp}{s:Int}{la:Addr}
def Kp (la:Addr)(G H:Hp):Prop:=∀ c u,G c=some u->c≠la->H c=some u
theorem Kp.of (s:Same G H):Kp la G H:=fun c u e _=>s c u e
end
end L4
namespace Sp
end Sp
namespace L4
open PySem PySem.Spec PyProof.Rows L2 L3
section
variable {k:Int×Int}{p:Addr}
noncomputable def ye {β:Type}(R:Int×Int->β)(k:Int×Int)(p:β):Int×Int->β:=fun u=>if u=k then p else R u
end
end L4
namespace Sp
end Sp
namespace L4
open PySem PySem.Spec PyProof.Rows L2 L3
end L4
namespace Sp
end Sp
namespace L4
open PySem PySem.Spec PyProof.Rows L2 L3
end L4
namespace L2
open PySem PySem.Spec PySem.Calls PyProof.Rows
end L2
namespace L2
open PySem PySem.Spec PySem.Calls PyProof.Rows ST
end L2
namespace L4
open PySem PySem.Spec PyProof.Rows L2 L3 ST
noncomputable abbrev eh:=Int×Int
end L4
namespace L4
open PySem PySem.Spec PyProof.Rows L2 L3
theorem lZ {β:Type}{R:eh->β}{k:eh}{p:β}:ye R k p k=p:=IS rfl
theorem jt {β:Type}{R:eh->β}{k u:eh}{p:β}(h:u≠k):ye R k p u=R u:=IK h
noncomputable def sS (ks:List eh)(k:eh):List eh:=if k∈ks then ks else ks++[k]
structure Gr {α:Type} (R:Hp->α->V->Prop) (B H:Hp) (a:Addr) (ks:List eh) (F:eh->List α) (RA:eh->Addr):Prop where
 s:Same B H
 r:H a=some (.dT (ks.map fun k=>(k2 k,.ref (RA k))))
 na:B a=none
 v:∀ k∈ks,B (RA k)=none/\∃ vs,H (RA k)=some (.lst vs)/\aS (R H) (F k) vs
 i:∀ k∈ks,∀ k'∈ks,RA k=RA k'->k=k'
 z:∀ k,k∉ks->F k=[]
def kD {α:Type}(R:Hp->α->V->Prop):Prop:=∀{H H':Hp},KT H H'->∀ x v,R H x v->R H' x v
theorem C4:kD IsSet:=fun k _ _ ⟨p,e,h⟩=>⟨p,e,k _ _ h⟩
section
variable {α:Type}{R:Hp->α->V->Prop}{K:LM}{B H H':Hp}{a q p:Addr}{ks:List eh}{F:eh->List α}{RA:eh->Addr}{σ:L2.St}{k:eh}{vs ws:List V}{zs:List α}{Q:VK}
theorem qb:cf (ks.map fun k=>(k2 k,V.ref (RA k))) (k2 k)=if k∈ks then some (.ref (RA k)) else none:=by
 induction ks with
 |nil=>rfl
 |cons x r ih=>
  rw[II];by_cases h:x=k
  .rw[c9 (by rw[h]),IS (by rw[h];exact Iy),h]
  .rw[cA fun z=>h (ky _ _ z),ih];simp[Jn h]
theorem Gr.more (h:Gr R B H a ks F RA)(hR:kD R)(s:Same H H'):Gr R B H' a ks F RA:=⟨h.s.trans s,s _ _ h.r,h.na,fun k' b=>let ⟨h1,vs,h2,h3⟩:=h.v k' b;⟨h1,vs,s _ _ h2,h3.mono (hR (.of s))⟩,h.i,h.z⟩
theorem aS.app {β γ:Type}{R:β->γ->Prop}{xs us:List β}{ys zs:List γ}(h:aS R xs ys)(g:aS R us zs):aS R (xs++us) (ys++zs):=by
 induction h with
 |nil=>exact g
 |cons a _ ih=>exact .cons a ih
theorem Gr.ext (h:Gr R B H a ks F RA)(hR:kD R)(hk:k∈ks)(hl:H (RA k)=some (.lst vs))(hw:aS (R H) zs ws):Gr R B (upd H (RA k) (.lst (vs++ws))) a ks (ye F k (F k++zs)) RA:=by
 obtain⟨n,vs',e,al⟩:=h.v k hk;rw[hl]at e;cases e;have kt:KT H (upd H (RA k) (.lst (vs++ws))):=.upd hl fun _ z=>(nomatch z);refine⟨fun b u e=>?_,?_,h.na,fun j hj=>?_,h.i,fun j hj=>?_⟩
 .rw[au fun z=>by rw[z,n]at e;cases e];exact h.s _ _ e
 .rw[au fun z=>by rw[<- z,h.r]at hl;cases hl];exact h.r
 .obtain⟨n',us,e,al'⟩:=h.v j hj;refine⟨n',?_⟩;by_cases ej:j=k
  .rw[ej,lZ];exact⟨_,af,(al.app hw).mono (hR kt)⟩
  .rw[jt ej];exact⟨us,by rw[au fun z=>ej (h.i j hj k hk z)];exact e,al'.mono (hR kt)⟩
 .rw[jt fun z:j=k=>hj (z▸hk)];exact h.z j hj
theorem Gr.new (h:Gr R B H a ks F RA)(hR:kD R)(hk:k∉ks)(hq:H q=none):Gr R B (upd (upd H q (.lst [])) a (.dT ((ks.map fun k=>(k2 k,V.ref (RA k)))++[(k2 k,.ref q)]))) a (ks++[k]) F (ye RA k q):=by
 have naq:a≠q:=am h.r hq;have s1:Same H (upd H q (.lst [])):=aw hq;have kt:KT H (upd (upd H q (.lst [])) a (.dT ((ks.map fun k=>(k2 k,V.ref (RA k)))++[(k2 k,.ref q)]))):=(KT.of s1).trans (.upd (s1 _ _ h.r) fun _ z=>(nomatch z));have hne:∀ j∈ks,j≠k:=fun j hj z=>hk (z▸hj);have hRA:∀ j∈ks,RA j≠q:=fun j hj z=>by obtain⟨_,_,e,_⟩:=h.v j hj;rw[z,hq]at e;cases e
 refine⟨fun b u e=>?_,?_,h.na,fun j hj=>?_,fun j hj j' hj' e=>?_,fun j hj=>h.z j fun z=>hj (JD _ z)⟩
 .rw[au fun z=>by rw[z,h.na]at e;cases e];exact s1 _ _ (h.s _ _ e)
 .rw[af,IW];congr 3
  .exact Jl fun j hj=>by rw[jt (hne j hj)]
  .show _=[(k2 k,V.ref (ye RA k q k))];rw[lZ]
 .rcases IR.mp hj with hj|hj
  .rw[jt (hne j hj)];obtain⟨n',us,e,al'⟩:=h.v j hj;exact⟨n',us,by rw[au fun z=>by rw[z,h.r]at e;cases e];exact s1 _ _ e,al'.mono (hR kt)⟩
  .rw[IA]at hj;subst hj;rw[lZ,h.z _ hk];exact⟨h.s.free hq,[],by rw[au (Jn naq),af],.nil⟩
 .rcases IR.mp hj with g|g<;>rcases IR.mp hj' with g'|g'
  .rw[jt (hne j g),jt (hne j' g')]at e;exact h.i j g j' g' e
  .rw[IA.mp g',jt (hne j g),lZ]at e;exact(hRA j g e).elim
  .rw[IA.mp g,jt (hne j' g'),lZ]at e;exact(hRA j' g' e.symm).elim
  .rw[IA.mp g,IA.mp g']
def Gw (K:LM) (i:Nat) (tk:TE):TE:=qz K "dict" pK (ao i) (ai tk (ai (ce aC) aC))
theorem C5 (h:Gr R B H a ks F RA)(hR:kD R)(hz:ks.length<15000000)(hi:σ[i]?=some (some (.ref a)))(hk:Makes tk σ H [.int k.1,.int k.2])
 (kk:∀ H' RA',Kp a H H'->KT H H'->Gr R B H' a (sS ks k) F RA'->k∈sS ks k->Q (.ref (RA' k)) H'):Gw K i tk σ H Q:=by
 refine⟨_,hi,.inr (.inr (.inl ⟨rfl,.inr ⟨_,h.r⟩⟩)),hk _ fun b hb=>⟨IL _,fun q hq=>?_⟩⟩;have s1:Same H (upd H b (.tup [.int k.1,.int k.2])):=aw hb;have G1:=h.more hR s1;have hb1:upd H b (.tup [.int k.1,.int k.2]) b=some (.tup ((k2 k).map kV)):=af;generalize upd H b (.tup [.int k.1,.int k.2])=H1 at s1 G1 hb1 hq;have s2:Same H1 (upd H1 q (.lst [])):=aw hq;refine⟨a,b,k2 k,.ref q,_,rfl,rfl,s2 _ _ hb1,.inl (s2 _ _ G1.r),qa (by rw[Iq];exact hz),?_⟩;rw[qb];unfold sS at kk;by_cases e:k∈ks
 .rw[IS e]at kk ⊢;exact .inl ⟨_,rfl,kk _ _ (.of (s1.trans s2)) (.of (s1.trans s2)) (G1.more hR s2) e⟩
 .rw[IK e]at kk ⊢;refine .inr ⟨rfl,?_⟩;rw[f6 _ (by rw[qb,IK e])];have:=kk _ _ (fun c u e n=>by rw[au n];exact s2 _ _ (s1 _ _ e)) ((KT.of (s1.trans s2)).trans (.upd (s2 _ _ G1.r) fun _ z=>(nomatch z))) (G1.new hR e hq) (I_ _ Iy);rw[lZ]at this;exact this
theorem AQ (h:Gr R B H a ks F RA)(hq:H q=none)(k:eh):∃ p vs,(cf (ks.map fun k=>(k2 k,V.ref (RA k))) (k2 k)).getD (.ref q)=.ref p/\upd H q (.lst []) p=some (.lst vs)/\aS (R H) (F k) vs:=by
 rw[qb];by_cases e:k∈ks
 .rw[IS e];obtain⟨_,vs,e1,al⟩:=h.v k e;exact⟨_,vs,rfl,aw hq _ _ e1,al⟩
 .rw[IK e,h.z k e];exact⟨q,[],rfl,af,.nil⟩
end
section
variable {H H':Hp}{a q d:Addr}{As:List Sp.Arr}{kvs:List (List ba×V)}
theorem qc (h:Is H' (nl H H') (.rg (As.map fun a=>.inr (ak a)) ds) v):∃ d kvs u,v=.ref d/\H d=none/\H' d=some u/\(u=.dT kvs\/(u=.dK []/\kvs=[]))/\kvs.map (·.1)=As.map ak:=by
 obtain⟨d,vs,rfl,⟨sh,n0,mu⟩,all⟩:=h;have nofz:∀ o u,H' d≠some (.bO o u):=fun o u z=>by obtain⟨uo,q,qm⟩:=mu;rw[z]at q;cases q;exact qm
 rcases sh with⟨kvs,e|⟨o,e⟩,h1,h2⟩|⟨kvs,e|⟨o,e⟩,h1,h2⟩
 .have e0:As=[]:=by
   cases As with
   |nil=>rfl
   |cons x l=>cases kvs with
    |nil=>cases h1
    |cons y kvs=>rw[II,II]at h1;injection h1 with h1;cases h1
  subst e0;have:kvs=[]:=by cases kvs with
   |nil=>rfl
   |cons _ _=>cases h1
  subst this;exact⟨d,[],_,rfl,n0,e,.inr ⟨rfl,rfl⟩,rfl⟩
 .exact(nofz _ _ e).elim
 .refine⟨d,kvs,_,rfl,n0,e,.inl rfl,?_⟩;have:=JL (List.map fun k:DK=>match k with|.inr a=>a|.inl _=>[]) h1;rw[JK,JK]at this;exact this.symm
 .exact(nofz _ _ e).elim
theorem vc (ks:List eh)(k:eh):(sS ks k).length<=ks.length+1:=by unfold sS;split<;>simp
end
noncomputable def hd (r:Sp.Rule):eh:=(r.1,r.2.1)
section
variable {X:Cx}{H:Hp}{p:Addr}{Q:VK}
def vd:List V->Hp->VK->Prop:=fun xs H Q=>∃ l vs kvs,xs=[.ref l]/\Rd H l (.lst vs)/\jJ H vs kvs/\∀ p,H p=none->Q (.ref p) (upd H p (.dT (ga [] kvs)))
theorem qd (hc:X.calm=true) (hu:X.A.units+64<cLine):cK X (.type "dict") vd:=pI hc hu
end
end L4
namespace L2
open PySem PySem.Spec PySem.Calls PyProof.Rows ST
end L2
namespace L4
open PySem PySem.Spec PyProof.Rows L2 L3
section
variable {X:Cx}{scope:Scope}{tg elt:Expr}{ifs:List Expr}{tN capN:List Str}{caps:List Nat}{σ:L2.St}{H1:Hp}{Fin:Addr->List V->Hp->Prop}{J:L2.It}{n:Nat}{gt:TG}{tt:TT}{te:TE}
theorem m8 (hg:∀ cl C s3 H3 fp,PG (b_ X scope (tN++capN) cl C s3 H3 fp) tg gt)(ht:∀ cl C s3 H3 fp,BU (b_ X scope (tN++capN) cl C s3 H3 fp) ifs tt)(he:∀ cl C s3 H3 fp,PE (b_ X scope (tN++capN) cl C s3 H3 fp) elt te)(I:Addr->Nat->List V->Hp->Prop)(p0:∀ Dl,H1 Dl=none->I Dl 0 [] (upd H1 Dl (.lst [])))(hD:∀{Dl i acc H},I Dl i acc H->H Dl=some (.lst acc))
 (hgo:∀ Dl i acc H,I Dl i acc H->i<n->J.go i H) (hst:∀ Dl acc H,I Dl n acc H->J.stop n H)
 (hb:∀ Dl i acc H x H' o,i<n->I Dl i acc H->J.tS i H x H'->o.length=tN.length->gt x (o++kg σ caps) H' fun σ2 H2=>(∀ j:Nat,tN.length<=j->σ2[j]?=(o++kg σ caps)[j]?)/\tt σ2 H2 fun b H3=>if b=true then te σ2 H3 fun y H5=>H5 Dl=some (.lst acc)/\acc.length<sizeLine/\I Dl (i+1) (acc++[y]) (upd H5 Dl (.lst (acc++[y]))) else I Dl (i+1) acc H3)
 (fin:∀ Dl acc H,H1 Dl=none->I Dl n acc H->Fin Dl acc H):gc X scope tg tN capN caps elt ifs σ Fin J H1:=by
 intro Dl hDl cl C s3 fp;refine⟨_,_,_,fun i m acc H'=>m=n-i/\i<=n/\I Dl i acc H',hg cl C s3 _ fp,ht cl C s3 _ fp,he cl C s3 _ fp,⟨n,by simp,IL _,p0 Dl hDl⟩,?_⟩;rintro i m acc H' ⟨rfl,hi,p⟩;refine⟨hD p,?_⟩;by_cases hlt:i<n
 .refine .inr ⟨hgo Dl i acc H' p hlt,fun xv H'' o y ho=>?_⟩;have:=hb Dl i acc H' xv H'' o hlt p y ho;have e2:∀{A:Prop},(∃ m',m'<n-i/\(m'=n-(i+1)/\i+1<=n/\A))↔A:=⟨fun⟨_,_,_,_,a⟩=>a,fun a=>⟨_,by lia,rfl,hlt,a⟩⟩;simp only[e2];exact this
 .have ei:i=n:=by lia
  subst ei;exact .inl ⟨hst Dl acc H' p,fin Dl acc H' hDl p⟩
end
section
variable {X:Cx}{K:LM}{H:Hp}{q:Addr}{σ:L2.St}{Q:VK}
def C6 (K:LM):List V->Hp->VK->Prop:=fun xs H Q=>∃ x T t b,xs=[x,.ty T]/\El K H x t/\PySem.W.kitOne K t (.type T)=some b/\Q (.bl b) H
theorem jd:cK X (.builtin "isinstance") (C6 X.K):=uG
def yf (K:LM)(T:String)(te:TE):TE:=g7 (C6 K) (ai te (ai (tC (.ty T)) aC))
theorem Reads.Ga {te:TE}{T:String}{x:V}{dd:D}(h:Reads te σ H x)(is:El K H x (.type dd.ty))(hK:xH T):Reads (yf K T te) σ H (.bl (Gp T dd)):=fun Q q=>h _ ⟨x,T,_,_,rfl,is,hK K dd,q⟩
def Eu:TS:=bU (tC (.bl false))
end
noncomputable abbrev Rw:=Int×List Int
section
variable {K:LM}{H:Hp}{p:Addr}{σ:L2.St}{k:eh}
theorem Reads.EC (ha:Reads ta σ H (.ref p))(hb:Reads tb σ H (.int i))(h:Rd H p (.lst xs))(e:xs[j]?=some v)(ei:i=(j:Nat)):Reads (bn (jx K) ta tb) σ H v:=ha.op hb fun _ q=>⟨p,xs,i,v,rfl,rfl,.inl h,by rw[ei];exact ie e,q⟩
theorem Reads.yP (ha:Reads ta σ H (.ref p))(h:Rd H p (.lst xs)):Reads (g7 (gk K) (ai ta aC)) σ H (.int xs.length):=fun _ k=>ha _ ⟨p,xs,rfl,.inl (.inl h),k⟩
end
def kE (K:LM):List V->Hp->VK->Prop:=fun xs H Q=>∃ p ys,xs=[.ref p]/\(SqL K H p ys\/SqT K H p ys)/\∀ l,H l=none->Q (.ref l) (upd H l (.lst ys))
theorem fF:cK X (.type "list") (kE X.K):=mw
section
variable {H:Hp}{k:eh}{D:Ends}
theorem ve {α:Type}{m:Addr->Prop}{f:α->V->Prop}{g:α->L3.D}{xs:List α}{l:List V}(h:aS f xs l):(∀ x∈xs,∀ v,f x v->Is H m (g x) v)->IsAll H m (xs.map g) l:=by
 induction h with
 |nil=>exact fun _=>rfl
 |cons a _ ih=>exact fun g=>⟨_,_,rfl,g _ Iy _ a,ih fun k hk=>g k (Iw _ hk)⟩
end
noncomputable abbrev fG:=List D->Res R
noncomputable abbrev Tr:Addr->Prop:=fun _=>True
def dj (rooms signs:Int)(RL:List Sp.Rule):D:=.tup [.int rooms,.int signs,.lst (RL.map gU)]
structure Ih where
 (Fp Fm Fc Ig Ia Ij Fh Fb:fG)
section
variable {H H':Hp}
theorem C7 {m:Addr->Prop}{dd:D}(h:Is H m dd v)(s:Same H H'):Is H' Tr dd v:=Is.mono (fun c u e _=>s c u e) (fun _ _ _ _=>True.intro) h
end
theorem zo (h:IsRule H r v):Is H m (gU r) v:=by obtain⟨p,q,rfl,hp,hq⟩:=h;exact⟨p,_,rfl,hp,_,_,rfl,rfl,_,_,rfl,rfl,_,_,rfl,rfl,_,_,rfl,⟨q,_,rfl,hq,fB _⟩,rfl⟩
structure Ic where
 (Ib D8 D5:Scope)
 (Ii HY D7 HS Ea HZ:Expr)
 (Ik tN capN:List Str)
 (caps:List Nat)
section
def cE:R2:=rI (fun _ j=>0<j) fun i j=>.int (i % j)
def kF:R2:=rI B7 fun i j=>.int (i / j)
end
section
variable {K:LM}{H H':Hp}{σ:L2.St}{Q:VK}
def C8 (K:LM)(t:TE):TT:=fun σ H Q=>t σ H fun x H'=>∃ k,z4 K x H' k/\Q k H'
end
noncomputable def AR (Z:eh->List eh)(k:eh):Int:=((Z k).length:Nat)
structure KS where
 N:eh->Int
 ended:List eh
 Ap:List eh
section
variable {ks:List eh}{Z:eh->List eh}
def ks0 (Z:eh->List eh)(ks:List eh):KS:=⟨AR Z,ks.filter fun k=>decide (AR Z k=0),ks.filter fun k=>decide (AR Z k=0)⟩
end
section
variable {X:Cx}{P:LN}{w:World}{H:Hp}{s:LL}{m m':Addr->Prop}
theorem iE {A:LP}{l:List D}{vs ws:List V}{us us':List LO}(f:∀ d∈l,∀ v w' u u',Is H m d v->Is H m' d w'->RelV v u->RelV w' u'->SeqAt.EqAt A s u u' true)(i1:IsAll H m l vs)(i2:IsAll H m' l ws)(r1:Vals vs us)(r2:Vals ws us') :
 us.length=us'.length/\∀ j (h1:j<us.toArray.size) (h2:j<us'.toArray.size),SeqAt.EqAt A s us.toArray[j] us'.toArray[j] true:=by
 have e1:=r1.length;have e2:=r2.length;have e3:=i1.length;have e4:=i2.length;refine⟨by lia,fun j h1 h2=>?_⟩;rw[IB]at h1 h2;have k:l[j]?=some (l[j]'(by lia)):=Ir _;obtain⟨v,ev,iv⟩:=i1.get k;obtain⟨v',ev',iv'⟩:=i2.get k;obtain⟨u,eu,ru⟩:=r1.get ev;obtain⟨u',eu',ru'⟩:=r2.get ev';rw[Ir h1]at eu;rw[Ir h2]at eu';cases eu;cases eu';exact f _ (List.getElem_mem _) v v' _ _ iv iv' ru ru'
theorem qU (n:Nat):(List.range n).all (fun _=>true)=true:=List.all_eq_true.mpr fun _ _=>rfl
theorem oN {A:LP}{a b:Addr}(h:SeqAt.RcAt A s (.ref a) (.ref b) true):SeqAt.EqAt A s (.ref a) (.ref b) true:=by
 by_cases e:a=b
 .rw[e];exact SeqAt.EqAt.same _
 .exact SeqAt.EqAt.of_refs e h
theorem qV (ok:HOk P w H s.heap)(n:Nat):∀(A:LP){d:D}{v w':V}{u u':LO},A.units+n<cLine->d.dep<=n->n<1000->Is H m d v->Is H m' d w'->RelV v u->RelV w' u'->SeqAt.EqAt A s u u' true:=by
 induction n with
 |zero=>
  intro A d v w' u u' hu hd hn h1 h2 r1 r2;cases d with
  |int i=>cases h1;cases h2;obtain⟨t,rfl⟩:=r1;obtain⟨t',rfl⟩:=r2;have:=SeqAt.EqAt.int_int (A:=A) (s:=s) i t i t';rwa [J5]at this
  |str x=>cases h1;cases h2;obtain⟨t,rfl⟩:=r1;obtain⟨t',rfl⟩:=r2;have:=SeqAt.EqAt.str_str (A:=A) (s:=s) x t x t';rwa [J5]at this
  |bu=>cases h1;cases h2;cases r1;cases r2;exact .same _
  |bl b=>cases h1;cases h2;cases r1;cases r2;exact .same _
  |_=>simp only[D.dep]at hd;lia
 |succ n ih=>
  intro A d v w' u u' hu hd hn h1 h2 r1 r2;have f:∀ l:List D,D.lC l<=n->∀ d∈l,∀ v w' u u',Is H m d v->Is H m' d w'->RelV v u->RelV w' u'->SeqAt.EqAt A.in1 s u u' true:=fun l hl d hm v w' u u' i1 i2 r1 r2=>by obtain⟨j,hj⟩:=Jb.mp hm;exact ih A.in1 (by show A.units+1+n<cLine;lia) (IV (jK hj) hl) (by lia) i1 i2 r1 r2
  cases d with
  |tup l=>obtain⟨a,vs,rfl,g,q⟩:=h1;obtain⟨a',vs',rfl,g',q'⟩:=h2;cases r1;cases r2;obtain⟨us,y,p⟩:=i7 ok g;obtain⟨us',y',p'⟩:=i7 ok g';obtain⟨e,z⟩:=iE (f l (by simp only[D.dep]at hd;lia)) q q' y y';have z:=SeqAt.RcAt.tuples p p' (by lia) z;rw[IB,IB,e,J5,qU]at z;exact oN z
  |lst l=>obtain⟨a,vs,rfl,g,q⟩:=h1;obtain⟨a',vs',rfl,g',q'⟩:=h2;cases r1;cases r2;obtain⟨us,y,p⟩:=pN ok g;obtain⟨us',y',p'⟩:=pN ok g';obtain⟨e,z⟩:=iE (f l (by simp only[D.dep]at hd;lia)) q q' y y';have z:=SeqAt.RcAt.lists p p' (by rw[IB,IB,e]) (by lia) z;rw[qU]at z;exact oN z
  |rg k l=>simp only[D.dep]at hd;lia
  |_=>exact ih A (by lia) (IL _) (by lia) h1 h2 r1 r2
def AS:R2:=fun x y H Q=>∃ l m m',Is H m (.tup l) x/\Is H m' (.tup l) y/\D.lC l<=49/\Q (.bl false) H
theorem AT (hu:X.A.units+64<cLine):iV X (compareOp .NotEq) AS:=by intro ae s σ H x y v u Q I rx ry h;obtain⟨l,m,m',⟨a,vs,rfl,g,q⟩,⟨a',vs',rfl,g',q'⟩,hd,k⟩:=h;cases rx;cases ry;obtain⟨us,y,p⟩:=i7 I.aO g;obtain⟨us',y',p'⟩:=i7 I.aO g';obtain⟨e,z⟩:=iE (fun d hm v w' u u' i1 i2 r1 r2=>by obtain⟨j,hj⟩:=Jb.mp hm;exact qV I.aO 49 X.A.in1 (by show X.A.units+1+49<cLine;lia) (IV (jK hj) hd) (by lia) i1 i2 r1 r2) q q' y y';have z:=SeqAt.RcNeAt.tuples p p' (by lia) z;rw[IB,IB,e,J5,qU]at z;exact z X.prog X.w X.xe _ ⟨.bl _,H,I,rfl,k⟩
end
section
variable {a:Addr}{h:eh}
theorem je (xs:List V)(j:Nat):iZ xs (some (j:Nat)) none=xs.drop j:=by
 unfold iZ;have h1:HT.sIx xs.length 0 (some ((j:Nat):Int))=min j xs.length:=HT.sIx_nat xs.length 0 j;have h2:HT.sIx xs.length xs.length none=xs.length:=rfl;rw[h1,h2];by_cases h:j<=xs.length
 .rw[Nat.min_eq_left h,Jx (by simp)]
 .rw[LI (by lia),List.drop_eq_nil_of_le (by lia),List.drop_eq_nil_of_le (by lia),List.take_nil]
theorem aS.drop {α β:Type}{R:α->β->Prop}{xs:List α}{ys:List β}(h:aS R xs ys):∀ j,aS R (xs.drop j) (ys.drop j):=by
 induction h with
 |nil=>intro j;rw[List.drop_nil,List.drop_nil];exact .nil
 |cons a t ih=>
  intro j;cases j with
  |zero=>exact .cons a t
  |succ j=>exact ih j
end
end L4
namespace L4
open PySem PySem.Spec PySem.Calls PyProof.Rows L2 L3 ST
section
variable {K:LM}{H:Hp}{q p l:Addr}{σ:L2.St}
theorem Reads.GO (ha:Reads ta σ H (.ref p))(hb:Reads tb σ H (.int i))(h:H p=some (.lst xs))(e:rH xs i=some v):Reads (bn (jx K) ta tb) σ H v:=ha.op hb fun _ q=>⟨p,xs,i,v,rfl,rfl,SqL.of h,e,q⟩
theorem iF (l:List V)(v:V):rH (l++[v]) (-1)=some v:=by
 unfold rH z8;rw[IK (by lia),IS (by simp;lia)];have:((-1:Int)+((l++[v]).length:Nat)).toNat=l.length:=by simp;lia
 show(l++[v])[((-1:Int)+((l++[v]).length:Nat)).toNat]?=some v;rw[this];simp
end
end L4
namespace L4
open PySem PySem.Spec PyProof.Rows L2 L3
section
variable {H:Hp}{σ:L2.St}
theorem Reads.mod (ha:Reads ta σ H (.int i))(hb:Reads tb σ H (.int j))(h:0<j):Reads (bn cE ta tb) σ H (.int (i % j)):=ha.op hb fun _ q=>⟨_,_,rfl,rfl,h,q⟩
theorem Reads.dv (ha:Reads ta σ H (.int i))(hb:Reads tb σ H (.int j))(h:0<j/\j<1073741824):Reads (bn kF ta tb) σ H (.int (i / j)):=ha.op hb fun _ q=>⟨_,_,rfl,rfl,h,q⟩
def vf:R2:=rI CMul fun i j=>.int (i*j)
theorem Reads.mul (ha:Reads ta σ H (.int i))(hb:Reads tb σ H (.int j))(h:-(2 ^ 64)<j/\j<2 ^ 64):Reads (bn vf ta tb) σ H (.int (i*j)):=ha.op hb fun _ q=>⟨_,_,rfl,rfl,.inr h,q⟩
theorem Reads.ad (ha:Reads ta σ H (.int i))(hb:Reads tb σ H (.int j)):Reads (bn ck ta tb) σ H (.int (i+j)):=ha.op hb fun _ q=>⟨_,_,rfl,rfl,q⟩
end
section
theorem vg (xs:List V)(a b:Int)(ha:0<=a)(hb:0<=b):(iZ xs (some a) (some (a+b))).length<=b.toNat:=by
 unfold iZ;rw[Jt,Ko];have e1:HT.sIx xs.length 0 (some a)=min a.toNat xs.length:=by have:=HT.sIx_nat xs.length 0 a.toNat;rw[Int.toNat_of_nonneg ha]at this;exact this
 have e2:HT.sIx xs.length xs.length (some (a+b))=min (a+b).toNat xs.length:=by have:=HT.sIx_nat xs.length xs.length (a+b).toNat;rw[Int.toNat_of_nonneg (by lia)]at this;exact this
 rw[e1,e2];refine IV (Nat.min_le_left _ _) ?_;rw[Int.toNat_add ha hb];exact Nat.sub_le_of_le_add ((Nat.le_total xs.length a.toNat).elim (fun h=>IV (Nat.min_le_right _ _) (by rw[LI h];exact Nat.le_add_left _ _)) fun h=>IV (Nat.min_le_left _ _) (by rw[Nat.min_eq_left h,Lu];exact Im _))
end
section
variable {K:LM}
def C9 (K:LM)(i:Nat):TE:=g7 (gk K) (ai (ao i) aC)
end
section
variable {X:Cx}{K:LM}{mg:Str->Option LO}{Fr:fG}
theorem sU:∀(l acc:List (List ba×V)),((acc++l).map (·.1)).Nodup->ga acc l=acc++l:=by
 intro l;induction l with
 |nil=>intro acc _;rw[KH];rfl
 |cons x l ih=>
  intro acc nd;have hx:¬ (acc.any fun y=>decide (y.1=x.1))=true:=fun h=>by obtain⟨y,hy,e⟩:=List.any_eq_true.mp h;rw[IW,II]at nd;exact(Jv.mp nd).2.2 y.1 (IT.mpr ⟨y,hy,rfl⟩) x.1 (by simp) (Ja e)
  have:bE acc x.1 x.2=acc++[x]:=by unfold bE;rw[IK hx]
  show ga (bE acc x.1 x.2) l=_;rw[this,ih (acc++[x]) (by rw[Kk];exact nd),Kk];rfl
noncomputable def Gx (ro:Int):L3.D:=.tup [.int ro,.lst [],.lst []]
def Ft (K:LM):TE:=bN (ai (ao 0) (ai (tI K 1 0) aC))
def Fu (X:Cx)(scope:Scope)(tg elt:Expr)(tN:List Str):TS:=bU (g7 vd (ai (jo X scope tg tN [] [] elt [] (Ah X (ao 1))) aC))
def He (X:Cx)(mg:Str->Option LO)(Fr:fG)(scope:Scope)(tg elt:Expr)(tN:List Str):TS:=aJ (aY (bC (tO mg 2 Fr) [] E0 (ai (ao 0) (ai (bN (ai (tI X.K 0 0) (ai (ce aC) (ai (ce aC) aC)))) aC))) (aB 1)) (Fu X scope tg elt tN)
theorem C_ {As:List Sp.Arr}(h:As.Nodup):(As.map ak).Nodup:=by unfold List.Nodup;rw[List.pairwise_map];exact h.imp fun h e=>h (ja _ _ e)
end
structure Ie where
 (Fr Fm Fc:fG)
def zp (K:LM):List V->Hp->VK->Prop:=fun xs H Q=>∃ p,xs=[.ref p]/\SqL K H p []/\Q (.bl true) H
noncomputable def BZ (ds:List L3.D):Res R:=@ite _ (∃ a b c,ds=[a,.tup [b,.lst [],c]]) (Classical.propDecidable _) (.ok (.val .bu true [])) .stuck
section
variable {X:Cx}{K:LM}{mg:Str->Option LO}{H H':Hp}{σ:L2.St}{vs:List V}{Q:VK}{E E1:XK}
theorem sV (hc:X.calm=true):cK X (.builtin "all") (zp X.K):=by
 intro ae s σ H xs us Q I r h;obtain⟨p,rfl,hq,q⟩:=h;obtain⟨u,rfl,rx⟩:=eS r;cases rx;obtain⟨its,rv,pl,hz⟩:=I.list hq;cases its with
 |cons=>exact absurd rv.length (by simp)
 |nil=>
 have hh:X.A.in1.handled=none:=I.ok.hd hc;obtain⟨o,ho,_⟩:=pl.isList;refine call_all_walk (Kv pl.isList ?_);refine⟨s.heap.objs.size,_,_,_,_,_,fun _=>true,rfl,Walks.list hh s.heap.objs.size p (IN (Iz ho)) [].toArray,⟨⟨_,IG _ rfl,rfl,rfl⟩,pl.isList.at fun o e=>Ip _ e⟩,fun i v s' Q' E' hv=>?_,fun h' tk hk=>⟨.bl true,H,?_,?_,q⟩⟩
 .simp at hv
 rotate_left
 .rfl
 have I1:L2.Inv X ae σ H { s with heap:=s.heap.push { cls:=.type "list_iterator",data:=.fields #[.ref p,.int 0 0] } }:=I.kept (t':=s.toks) fun b o e=>Ip _ e;have fo:=I.kU (H':=H) (Im s.heap.objs.size) (I.aO.fresh (Im _));exact I1.turned (t':=tk) (it:=s.heap.objs.size) (fun b o hb e=>hk b o (by simpa using hb) e) fo.1 fo.2.1 fo.2.2.2.1 fo.2.2.2.2.1 fo.2.2.2.2.2
inductive wc:Sp
 |mk {H:Hp} {v a b:V} {q l:Addr} {Q:VK} {E:XK} (hq:H q=some (.tup [a,.ref l,b])) (hl:Rd H l (.lst [])) (k:∀ H',Same H H'->Q (.bl true) H')   : wc [v,.ref q] H Q E
theorem vh (h:wc vs H Q E):vs.length=2:=by cases h;rfl
def Hf (X:Cx)(scope:Scope)(tg elt:Expr)(tN capN:List Str)(caps:List Nat):TS:=bU (g7 (zp X.K) (ai (jo X scope tg tN capN caps elt [] (cJ X.K (tI X.K 1 1))) aC))
theorem yg (h:wc vs H Q E):Hf X scope tg elt tN capN caps (eQ Q) (bc (nS 2) vs) H:=by obtain @⟨H,v,a,b,q,l,Q,E,hq,hl,k⟩:=h;refine Reads.ix (n:=1) (.va (i:=1) rfl) hq (v:=.ref l) (ie (j:=1) rfl) _ ⟨l,rfl,⟨_,.inl hl⟩,fun Dl hD cl C s3 fp=>⟨fun _ _ _ _=>False,_,fun _ _ _=>False,fun i m acc H'=>acc=[]/\Same H H'/\H' Dl=some (.lst []),fun _ _ _ _ _ _ _ _ _ h=>h.elim,iA,fun _ _ _ _ _ _ h=>h.elim,⟨0,rfl,aw hD,af⟩,?_⟩⟩;rintro i m acc H' ⟨rfl,s,hDl⟩;exact⟨hDl,.inl ⟨⟨[],.inl (aX s hl),IL _⟩,Dl,rfl,SqL.of hDl,k _ s⟩⟩
noncomputable def Da:TS:=fun _ _ _=>False
theorem AU:PSs X b Da:=fun _ _ _ _ _ _ h=>h.elim
def Hg (E:XK):TS:=cy (o_ (tB (bC wc [] E (ai (ao 0) (ai (ao 1) aC))))) Da bX
theorem yh (h:tO mg 2 BZ vs H Q E):Hg E1 (eQ Q) (bc (nS 2) vs) H:=by
 obtain⟨hl,ds,Ma,is,post⟩:=h;unfold BZ at post;by_cases c:∃ a b c,ds=[a,.tup [b,.lst [],c]]
 .rw[IS c]at post;obtain⟨a,b,c,rfl⟩:=c;obtain⟨v0,r0,rfl,i0,v1,r1,rfl,⟨q,ws,rfl,hq,w0,t0,rfl,j0,w1,t1,rfl,⟨l,xs,rfl,hx,ex⟩,w2,t2,rfl,j2,rfl⟩,rfl⟩:=is;obtain rfl:xs=[]:=ex;exact⟨_,rfl,_,rfl,.mk hq (hx.imp (·.1) fun⟨o,h⟩=>⟨o,h.1⟩) fun H' s=>⟨true,rfl,cg (post _ _ s rfl)⟩⟩
 .rw[IK c]at post;exact post.elim
end
section
variable {K:LM}
def Hh (K:LM):TS:=bU (yU (yf K "int" (ao 0)) (yV (yf K "bool" (ao 0))))
end
def IsTo (H:Hp)(x:Pz.Arr×Pz.jC)(kv:List ba×V):Prop:=kv.1=ak x.1/\∃ p,kv.2=.ref p/\H p=some (.tup [.int x.2.1,vO x.2.2.1,vO x.2.2.2])
section
variable {X:Cx}{K:LM}{H H':Hp}{d:Addr}{t:Pz.TD}{kvs:List (List ba×V)}{D:Ends}{σ:L2.St}{vs:List V}{Q:VK}{E:XK}
theorem IsTo.keep {x:Pz.Arr×Pz.jC}{kv:List ba×V}(k:KT H H')(h:IsTo H x kv):IsTo H' x kv:=let ⟨a,p,b,c⟩:=h;⟨a,p,b,k _ _ c⟩
theorem Ew {m:Addr->Prop}{o:Option Int}{v:V}(h:Is H m (oD o) v):v=vO o:=by cases o<;>exact h
theorem qW {α β:Type}{R:α->β->Prop}:∀{xs:List α}{ys:List β},xs.length=ys.length->(∀(i:Nat) x y,xs[i]?=some x->ys[i]?=some y->R x y)->aS R xs ys
 | [],[],_,_=>.nil
 |x::xs,y::ys,e,h=>.cons (h 0 x y rfl rfl) (qW (Nat.succ.inj e) fun i x y e1 e2=>h (i+1) x y e1 e2)
theorem oO {v:V}(h:Is H' (nl H H') (d7 t) v):∃ d kvs u,v=.ref d/\H d=none/\H' d=some u/\(u=.dT kvs\/(u=.dK []/\kvs=[]))/\aS (IsTo H') t kvs:=by
 obtain⟨d,kvs,u,e0,n0,eu,hu,hk⟩:=qc (As:=t.map (·.1)) (by unfold d7 at h;rw[JK];exact h);obtain⟨d',vs,e1,⟨sh,_⟩,all⟩:=h;cases e0.symm.trans e1;refine⟨d,kvs,u,e0,n0,eu,hu,qW (by have:=JL List.length hk;simpa using this.symm) fun i x kv ex ei=>?_⟩;have hv:vs[i]?=some kv.2:=by
  rcases hu with rfl|⟨rfl,rfl⟩
  .rcases sh with⟨kvs',e|⟨o,e⟩,h1,h2⟩|⟨kvs',e|⟨o,e⟩,h1,h2⟩
   .rw[eu]at e;cases e
   .rw[eu]at e;cases e
   .rw[eu]at e;cases e;rw[h2,IE,ei];rfl
   .rw[eu]at e;cases e
  .simp at ei
 obtain⟨w',ew,iw⟩:=all.get (i:=i) (d:=AH x.2) (by rw[IE,ex];rfl);rw[hv]at ew;cases ew;obtain⟨p,ws,e,hp,v0,r,rfl,i0,v1,r1,rfl,i1,v2,r2,rfl,i2,rfl⟩:=iw;obtain rfl:v0=.int x.2.1:=i0;rw[Ew i1,Ew i2]at hp;refine⟨?_,p,e,hp⟩;have:=JL (fun l:List (List ba)=>l[i]?) hk;simp only[IE,ei,ex,Option.map_some]at this;exact IU this
def oP (H:Hp)(x:Pz.Arr×Int)(v:V):Prop:=∃ p b,v=.ref p/\H p=some (.tup [.ref b,.int x.2])/\H b=some (.tup (gj x.1))
theorem dZ:kD oP:=fun k _ _ ⟨p,b,e,h,g⟩=>⟨p,b,e,k _ _ h,k _ _ g⟩
noncomputable def nF (t:Pz.TD)(k:eh):List (Pz.Arr×Int):=(t.filter fun x=>decide ((x.1.1,x.1.2.1)=k)).map fun x=>(x.1,x.2.1)
theorem vi (t:Pz.TD)(x:Pz.Arr×Pz.jC):nF (t++[x])=ye (nF t) (x.1.1,x.1.2.1) (nF t (x.1.1,x.1.2.1)++[(x.1,x.2.1)]):=by
 funext k;unfold nF ye;by_cases h:k=(x.1.1,x.1.2.1)
 .rw[IS h,h,KU];simp
 .rw[IK h,KU];simp[Jn h]
theorem yi (t:Pz.TD)(k:eh):(nF t k).length<=t.length:=by unfold nF;rw[Iq];exact K8 ..
theorem mem_ldT {k:eh}{a:Pz.Arr}{p:Int}:(a,p)∈nF t k↔(a.1,a.2.1)=k/\∃ v,(a,v)∈t/\v.1=p:=by
 unfold nF;rw[IT];constructor
 .rintro⟨⟨a',v⟩,h,e⟩;cases e;rw[Js]at h;exact⟨Ja h.2,v,h.1,rfl⟩
 .rintro⟨h,v,hv,rfl⟩;exact⟨(a,v),Js.mpr ⟨hv,IJ h⟩,rfl⟩
inductive wq:Sp
 |mk {H:Hp} {d:Addr} {u:HO} {kvs:List (List ba×V)} {t:Pz.TD} {Q:VK} {E:XK} (hd:H d=some u) (hu:u=.dT kvs\/(u=.dK []/\kvs=[])) (al:aS (IsTo H) t kvs) (hz:t.length<1000000) (k:∀ a ks RA H',Gr oP H H' a ks (nF t) RA->Q (.ref a) H'):wq [.ref d] H Q E
theorem vj (h:wq vs H Q E):vs.length=1:=by cases h;rfl
def Dc (K:LM):TE:=bN (ai (ao 2) (ai (tI K 3 0) aC))
def Fv (K:LM):TE:=bN (ai (tI K 2 0) (ai (tI K 2 1) aC))
def Fy (K:LM):TS:=bY (qz K "list" cn (Gw K 1 (Fv K)) (ai (Dc K) aC))
def Hi (X:Cx):TS:=aJ (aY g8 (aB 1)) (aJ (fun D σ H=>dS (Ah X (ao 0)) (dg X.K 2 (aU (aB 2) (aU (aB 3) de))) (Fy X.K) (Ei X D) σ H) (bU (ao 1)))
def sW (H:Hp)(d:Addr):Hp:=fun c=>if c=d then none else H c
theorem yj (H:Hp)(d:Addr):sW H d d=none:=IS rfl
theorem iG {c:Addr}(n:c≠d):sW H d c=H c:=IK n
theorem sX {c:Addr}{u:HO}(h:sW H d c=some u):c≠d/\H c=some u:=by
 by_cases e:c=d
 .rw[e,yj]at h;cases h
 .rw[iG e]at h;exact⟨e,h⟩
theorem Gr.Ec {α:Type}{R:Hp->α->V->Prop}{a:Addr}{ks:List eh}{F:eh->List α}{RA:eh->Addr}{o:Obj}{u:HO}(h:Gr R (sW H d) H' a ks F RA)(hR:kD R)(hd:H d=some u)(hf:H' d=some (.bO o u))(hu:j_ u):Gr R H (upd H' d u) a ks F RA:=by
 have nad:a≠d:=fun z=>by have:=h.r;rw[z,hf]at this;cases this
 have kt:KT H' (upd H' d u):=.upd hf fun _ z=>(nomatch z);refine⟨fun c w e=>?_,by rw[au nad];exact h.r,by have:=h.na;rwa [iG nad]at this,fun k hk=>?_,h.i,h.z⟩
 .by_cases z:c=d
  .rw[z,af];rw[z,hd]at e;exact e
  .rw[au z];exact h.s _ _ (by rw[iG z];exact e)
 .obtain⟨n,vs,e,al⟩:=h.v k hk;have nr:RA k≠d:=fun z=>by rw[z,hf]at e;cases e
  exact⟨by rwa [iG nr]at n,vs,by rw[au nr];exact e,al.mono (hR kt)⟩
theorem yk (h:wq vs H Q E):Hi X (eQ Q) (bc (nS 4) vs) H:=by
 obtain @⟨H,d,u,kvs,t,Q,E,hd,hu,al,hz,k⟩:=h;intro a ha;have kO:j_ u:=by rcases hu with rfl|⟨rfl,_⟩<;>exact True.intro
 have nad:a≠d:=fun z=>by rw[z,hd]at ha;cases ha
 have s1:Same H (upd H a (.dT [])):=aw ha;have ha1:upd H a (.dT []) a=some (.dT []):=af;generalize upd H a (.dT [])=H1 at s1 ha1;refine⟨_,rfl,d,kvs,u,rfl,hu,.inr ⟨s1 _ _ hd,fun o ho=>?_⟩⟩;have kp:Kp d H1 (upd H1 d (.bO o u)):=fun c w e n=>by rw[au n];exact e
 have hf:upd H1 d (.bO o u) d=some (.bO o u):=af;have kt:KT H (upd H1 d (.bO o u)):=(KT.of s1).trans (.upd (s1 _ _ hd) fun ws z=>by subst z;exact kO);generalize upd H1 d (.bO o u)=H2 at hf kp kt;have G0:Gr oP (sW H d) H2 a [] (nF []) (fun _=>0):=⟨fun c w e=>let ⟨n,e⟩:=sX e;kp _ _ (s1 _ _ e) n,kp _ _ ha1 nad,by rw[iG nad];exact ha,fun k h=>(nomatch h),fun k h=>(nomatch h),fun k h=>rfl⟩;refine jc (n:=kvs.length) (fun i σ' H'=>(∃ x y,σ'=[some (.ref d),some (.ref a),x,y])/\H' d=some (.bO o u)/\KT H H'/\∃ ks RA,ks.length<=i/\Gr oP (sW H d) H' a ks (nF (t.take i)) RA) ⟨⟨none,none,rfl⟩,hf,kt,[],_,Im _,G0⟩ (fun i σ' H' p hi=>⟨p.2.1,hi⟩) (fun σ' H' p=>⟨p.2.1,Im _⟩) (fun i σ' H' x H'' D' hi p y k'=>?_) fun σ' H' p=>?_
 .obtain⟨⟨x2,x3,rfl⟩,hf,kt,ks,RA,hl,G⟩:=p;obtain⟨p5,b,kk,w,hp5,rfl,hb,rfl,e⟩:=y;obtain⟨⟨ar,pr,nu,mi⟩,ex,ek,p,rfl,hp⟩:=al.get e;cases ek;have hi':=(Iv.mp ex).1;have s5:Same H' (upd H' p5 (.tup [.ref b,.ref p])):=aw hp5;refine sA af ?_;have G5:=G.more dZ s5;have hb5:=s5 _ _ hb;have hf5:=s5 _ _ hf;have k5:=kt.trans (.of s5);have hp5':=k5 _ _ hp;generalize upd H' p5 (.tup [.ref b,.ref p])=H5 at G5 hb5 hf5 k5 hp5';have hb5:H5 b=some (.tup (gj ar)):=hb5;refine C5 (k:=(ar.1,ar.2.1)) G5 dZ (by lia) rfl (.t (.c (.ix (n:=0) (.va rfl) hb5 (v:=.int ar.1) rfl) (.c (.ix (n:=1) (.va rfl) hb5 (v:=.int ar.2.1) rfl) .ni)) rfl) fun H6 RA' kp6 kt6 G6 hk6=>?_;obtain⟨n6,us,e6,al6⟩:=G6.v _ hk6;refine⟨.inl ⟨rfl,_,SqL.of e6⟩,?_⟩;show Dc X.K [some (.ref d),some (.ref a),some (.ref b),some (.ref p)] H6 _;refine fU (ws:=[.ref b,.int pr]) (.c (.va rfl) (.c (.ix (n:=0) (.va rfl) (kt6 _ _ hp5') (v:=.int pr) rfl) .ni)) rfl fun p7 hp7=>?_;have s7:=aw (o:=.tup [.ref b,.int pr]) hp7;have h7:upd H6 p7 (.tup [.ref b,.int pr]) p7=some (.tup [.ref b,.int pr]):=af;have G7:=G6.more dZ s7;have e7:=s7 _ _ e6;have hf7:=s7 _ _ (kp6 _ _ hf5 (Jn nad));have hb7:=s7 _ _ (kt6 _ _ hb5);have k7:=(k5.trans kt6).trans (.of s7);generalize upd H6 p7 (.tup [.ref b,.int pr])=H7 at s7 h7 G7 e7 hf7 hb7 k7;have ln:=yi (t.take i) (ar.1,ar.2.1);rw[Jt]at ln;have et:t.take (i+1)=t.take i++[(ar,pr,nu,mi)]:=by rw[Jf,ex];rfl
  have nd:d≠RA' (ar.1,ar.2.1):=fun z=>by rw[<- z,hf7]at e7;cases e7
  refine⟨_,_,_,rfl,rfl,e7,qa (by rw[<- al6.len];lia),k' _ _ ⟨⟨_,_,rfl⟩,by rw[au nd];exact hf7,k7.trans (.upd e7 fun _ z=>(nomatch z)),sS ks (ar.1,ar.2.1),RA',?_,?_⟩⟩
  .have:=vc ks (ar.1,ar.2.1);lia
  .have:=G7.ext (zs:=[(ar,pr)]) dZ hk6 e7 (.cons ⟨p7,b,rfl,h7,hb7⟩ .nil);rw[et,vi];exact this
 .obtain⟨⟨x2,x3,rfl⟩,hf,kt,ks,RA,_,G⟩:=p;rw[<- al.len,Jp]at G;exact .inr ⟨d,o,u,hf,kO,ho,_,rfl,k a ks RA _ (G.Ec dZ hd hf kO)⟩
end
abbrev hJ (ks:List Int)(f:Int->V):List (ba×V):=ks.map fun k=>((.inl k:ba),f k)
noncomputable def tP (ks:List Int)(b:Int):List Int:=if b∈ks then ks else ks++[b]
noncomputable def o5 {β:Type}(f:Int->β)(b:Int)(m:β):Int->β:=fun k=>if k=b then m else f k
theorem cr {β:Type}{f:Int->β}{b:Int}{m:β}:o5 f b m b=m:=IS rfl
theorem cu {β:Type}{f:Int->β}{b c:Int}{m:β}(h:c≠b):o5 f b m c=f c:=IK h
theorem jv {ks:List Int}{f:Int->V}{b:Int}:cf (hJ ks f) (.inl b)=if b∈ks then some (f b) else none:=by
 induction ks with
 |nil=>rfl
 |cons x r ih=>
  rw[hJ,II];by_cases h:x=b
  .rw[c9 (by rw[h]),IS (by rw[h];exact Iy),h]
  .rw[cA fun z=>h (Sum.inl.inj z)];show cf (hJ r f) _=_;rw[ih];simp[Jn h]
theorem zq {ks:List Int}{f:Int->V}{b:Int}{v:V}:bE (hJ ks f) (.inl b) v=hJ (tP ks b) (o5 f b v):=by
 unfold tP;by_cases h:b∈ks
 .unfold bE;rw[IS (by rw[e8,jv,IS h];rfl),IS h,hJ,JK];refine Jl fun j _=>?_;show(if (.inl j:ba)=.inl b then ((.inl j:ba),v) else (.inl j,f j))=(.inl j,o5 f b v j);by_cases e:j=b
  .rw[IS (by rw[e]),e,cr]
  .rw[IK fun z=>e (Sum.inl.inj z),cu e]
 .rw[f6 _ (by rw[jv,IK h]),IK h,hJ,hJ,IW];congr 1
  .exact Jl fun j hj=>by rw[cu fun z:j=b=>h (z▸hj)]
  .show _=[((.inl b:ba),o5 f b v b)];rw[cr]
theorem mem_adI {ks:List Int}{b c:Int}:c∈tP ks b↔c∈ks\/c=b:=by
 unfold tP;split
 .exact⟨.inl,fun h=>h.elim id fun e=>by rw[e];assumption⟩
 .simp
structure nH (P:Int->Int->Pz.Arr->Prop) (ks:List Int) (S:Int->Int) (A:Int->Option Pz.Arr):Prop where
 nd:ks.Nodup
 k:∀ b n a,P b n a->b∈ks/\S b<=n
 v:∀ b∈ks,∃ a,A b=some a/\P b (S b) a
section
variable {P P':Int->Int->Pz.Arr->Prop}{ks:List Int}{S:Int->Int}{A:Int->Option Pz.Arr}{b n:Int}{a:Pz.Arr}
theorem nH.to (h:nH P ks S A)(h1:∀ b n a,P b n a↔P' b n a):nH P' ks S A:=⟨h.nd,fun b n a q=>h.k b n a ((h1 b n a).mpr q),fun b hb=>let ⟨a,e,q⟩:=h.v b hb;⟨a,e,(h1 _ _ _).mp q⟩⟩
theorem nH.old (h:nH P ks S A)(hb:b∈ks)(hn:S b<=n):nH (fun b' n' a'=>P b' n' a'\/(b'=b/\n'=n/\a'=a)) ks S A:=⟨h.nd,fun b' n' a' q=>q.elim (h.k b' n' a') fun⟨e1,e2,_⟩=>by rw[e1,e2];exact⟨hb,hn⟩,fun b hb=>let ⟨a,e,q⟩:=h.v b hb;⟨a,e,.inl q⟩⟩
theorem nH.new (h:nH P ks S A)(hn:b∈ks->n<S b):nH (fun b' n' a'=>P b' n' a'\/(b'=b/\n'=n/\a'=a)) (tP ks b) (o5 S b n) (o5 A b (some a)):=by
 refine⟨?_,fun b' n' a' q=>⟨mem_adI.mpr (q.elim (fun q=>.inl (h.k _ _ _ q).1) fun q=>.inr q.1),?_⟩,fun b' hb=>?_⟩
 .unfold tP;split
  .exact h.nd
  .rename_i nb;rw[Jv];exact⟨h.nd,by simp,fun x hx y hy e=>nb (by rw[<- IA.mp hy,<- e];exact hx)⟩
 .by_cases e:b'=b
  .rw[e,cr];rcases q with q|q
   .have:=h.k _ _ _ q;rw[e]at this;exact KF (Ls (hn this.1) this.2)
   .rw[q.2.1];exact J0 _
  .rw[cu e];exact(h.k _ _ _ (q.resolve_right fun z=>e z.1)).2
 .by_cases e:b'=b
  .rw[e,cr,cr];exact⟨a,rfl,.inr ⟨rfl,rfl,rfl⟩⟩
  .rw[cu e,cu e];obtain⟨a,e1,q⟩:=h.v b' ((mem_adI.mp hb).resolve_right e);exact⟨a,e1,.inl q⟩
end
def IsOA (H:Hp):Option Pz.Arr->V->Prop
 |none,w=>w=.bu
 |some a,w=>∃ b,w=.ref b/\H b=some (.tup (gj a))
theorem IsOA.keep {H H':Hp}(k:KT H H'){o:Option Pz.Arr}{w:V}(h:IsOA H o w):IsOA H' o w:=by
 cases o with
 |none=>exact h
 |some a=>obtain⟨b,e,h⟩:=h;exact⟨b,e,k _ _ h⟩
structure Row (H:Hp) (d:Addr) (ks:List Int) (S:Int->Int) (A:Int->Option Pz.Arr) (T:Int->Addr):Prop where
 r:H d=some (.dK (hJ ks fun k=>.ref (T k)))
 t:∀ k∈ks,∃ w,H (T k)=some (.tup [.int (S k),w])/\IsOA H (A k) w
section
variable {X:Cx}{K:LM}{B H H':Hp}{ld sm ah d rp:Addr}{t:Pz.TD}{D:Ends}{σ:L2.St}{vs:List V}{Q:VK}{E:XK}{P:Int->Int->Pz.Arr->Prop}{ks ks0 U:List Int}{S S0:Int->Int}{A A0:Int->Option Pz.Arr}{T T0:Int->Addr}{sign:Int}{a:Pz.Arr}
theorem Row.keep (h:Row H d ks S A T)(k:KT H H')(hd:H' d=some (.dK (hJ ks fun k=>.ref (T k)))):Row H' d ks S A T:=⟨hd,fun j hj=>let ⟨w,e,i⟩:=h.t j hj;⟨w,k _ _ e,i.keep k⟩⟩
theorem Row.more (h:Row H d ks S A T)(s:Same H H'):Row H' d ks S A T:=h.keep (.of s) (s _ _ h.r)
noncomputable def m9 (ld sm:Addr)(sign:Int)(ah:Addr)(x4 x5 x6 x7 x8:Option V):L2.St:=[some (.ref ld),some (.ref sm),some (.int sign),some (.ref ah),x4,x5,x6,x7,x8]
def Dd (K:LM):TE:=bn ck (tI K 5 0) (ao 7)
def AV (K:LM):TS:=ik (ao 3) (tI K 6 2) (bN (ai (Dd K) (ai (ao 6) aC)))
def De (K:LM):TS:=aJ (aY (mB (ao 3) (tI K 6 2)) (aB 8)) (cy (yT (bv (bn mS (ao 8) (tC .bu))) (bv (bn Es (Dd K) (tI K 8 0)))) (AV K) bX)
def AW (X:Cx):TS:=dS (cJ X.K (dU (ao 0) (bN (ai (ao 4) (ai (ao 2) aC))) (ce aC))) (dg X.K 2 (aU (aB 6) (aU (aB 7) de))) (De X.K)
def Fz (X:Cx):TS:=fun D σ H=>dS (Ag X (ao 1)) (dg X.K 2 (aU (aB 4) (aU (aB 5) de))) (AW X) (Ei X D) σ H
def Hj (X:Cx):TS:=aJ (aY my (aB 3)) (aJ (Fz X) (bU (ao 3)))
theorem Gy {x4 x8:Option V}{b:Addr}{s0 p:Int}{w:V}(R:Row H ah ks S A T)(m:nH P ks S A)(hz:ks.length<1000000)(hb:H b=some (.tup (gj a)))(hr:H rp=some (.tup [.int s0,w]))(hn:a.2.2∈ks->s0+p<S a.2.2)
 (k:∀ T' H',Kp ah H H'->KT H H'->Row H' ah (tP ks a.2.2) (o5 S a.2.2 (s0+p)) (o5 A a.2.2 (some a)) T'->D.nx (m9 ld sm sign ah x4 (some (.ref rp)) (some (.ref b)) (some (.int p)) x8) H'):AV K D (m9 ld sm sign ah x4 (some (.ref rp)) (some (.ref b)) (some (.int p)) x8) H:=by
 delta AV ik
 refine fU (ws:=[.int (s0+p),.ref b]) (.c (.ad (.ix (n:=0) (.va rfl) hr (v:=.int s0) rfl) (.va rfl)) (.c (.va rfl) .ni)) rfl fun q hq=>?_;have s1:=aw (o:=.tup [.int (s0+p),.ref b]) hq;have h1:upd H q (.tup [.int (s0+p),.ref b]) q=some (.tup [.int (s0+p),.ref b]):=af;have R1:=R.more s1;have hb1:=s1 _ _ hb;generalize upd H q (.tup [.int (s0+p),.ref b])=H1 at s1 h1 R1 hb1;refine⟨_,rfl,Reads.ix (n:=2) (.va rfl) hb1 (v:=.int a.2.2) rfl _ ⟨ah,_,rfl,DPut.k (k:=.inl a.2.2) R1.r (qa (by rw[Iq];lia)),?_⟩⟩;rw[zq];have kt:KT H1 (upd H1 ah (.dK (hJ (tP ks a.2.2) (o5 (fun k=>V.ref (T k)) a.2.2 (.ref q))))):=.upd R1.r fun _ z=>(nomatch z);refine k (o5 T a.2.2 q) _ (fun c u e n=>by rw[au n];exact s1 _ _ e) ((KT.of s1).trans kt) ⟨?_,fun j hj=>?_⟩
 .rw[af];congr 2;refine Jl fun j _=>?_;dsimp only;by_cases e:j=a.2.2
  .rw[e,cr,cr]
  .rw[cu e,cu e]
 .by_cases e:j=a.2.2
  .rw[e,cr,cr,cr];exact⟨_,kt _ _ h1,b,rfl,kt _ _ hb1⟩
  .rw[cu e,cu e,cu e];obtain⟨w,e1,i1⟩:=R1.t j ((mem_adI.mp hj).resolve_right e);exact⟨w,kt _ _ e1,i1.keep kt⟩
theorem Hk {x4 x8:Option V}{b:Addr}{s0 p:Int}{w:V}(R:Row H ah ks S A T)(m:nH P ks S A)(hz:ks.length<1000000)(hb:H b=some (.tup (gj a)))(hr:H rp=some (.tup [.int s0,w]))
 (k:∀ ks' S' A' T' x8 H',Kp ah H H'->KT H H'->Row H' ah ks' S' A' T'->nH (fun b' n' a'=>P b' n' a'\/(b'=a.2.2/\n'=s0+p/\a'=a)) ks' S' A'->(∀ c∈ks',c∈ks\/c=a.2.2)->D.nx (m9 ld sm sign ah x4 (some (.ref rp)) (some (.ref b)) (some (.int p)) x8) H'):De K D (m9 ld sm sign ah x4 (some (.ref rp)) (some (.ref b)) (some (.int p)) x8) H:=by
 refine⟨_,rfl,ah,rfl,.inl ⟨_,.inl R.r⟩,Reads.ix (n:=2) (.va rfl) hb (v:=.int a.2.2) rfl _ ⟨_,DGet.k (k:=.inl a.2.2) R.r,?_⟩⟩;rw[jv];by_cases e:a.2.2∈ks
 .rw[IS e];obtain⟨w1,h1,i1⟩:=R.t _ e;refine⟨_,rfl,rfl,_,rfl,cg (Reads.op (.ad (.ix (n:=0) (.va rfl) hr (v:=.int s0) rfl) (.va rfl)) (.ix (n:=0) (.va rfl) h1 (v:=.int (S a.2.2)) rfl) (fun _ q=>⟨_,_,rfl,rfl,q⟩) _ ⟨_,rfl,ut (fun c=>?_) fun c=>?_⟩)⟩
  .have c:=Ja c;exact Gy R m hz hb hr (fun _=>c) fun T' H' kp kt R'=>k _ _ _ T' _ H' kp kt R' (m.new fun _=>c) fun c hc=>mem_adI.mp hc
  .have c:¬ s0+p<S a.2.2:=fun z=>c (IJ z);exact k _ _ _ T _ H (fun _ _ e _=>e) (fun _ _ e=>e) R (m.old e (by lia)) fun c hc=>.inl hc
 .rw[IK e];exact⟨_,rfl,rfl,_,rfl,di (Gy R m hz hb hr (fun z=>(e z).elim) fun T' H' kp kt R'=>k _ _ _ T' _ H' kp kt R' (m.new fun z=>(e z).elim) fun c hc=>mem_adI.mp hc)⟩
def Dg (t:Pz.TD)(sign:Int)(S0:Int->Int)(L:List Int)(b n:Int)(a:Pz.Arr):Prop:=∃ s∈L,∃ p,(a,p)∈nF t (s,sign)/\b=a.2.2/\n=S0 s+p
inductive GF (ld sm rp:Addr) (sign st s0:Int) (ah:Addr) (P:Int->Int->Pz.Arr->Prop) (U:List Int) (l:List (Pz.Arr×Int)) (H1:Hp) (i:Nat):L2.St->Hp->Prop
 |mk {H':Hp} {ks:List Int} {S:Int->Int} {A:Int->Option Pz.Arr} {T:Int->Addr} {x6 x7 x8:Option V}:Kp ah H1 H'->KT H1 H'->Row H' ah ks S A T->nH (fun b n a=>P b n a\/∃ p,(a,p)∈l.take i/\b=a.2.2/\n=s0+p) ks S A->(∀ b∈ks,b∈U)->GF ld sm rp sign st s0 ah P U l H1 i (m9 ld sm sign ah (some (.int st)) (some (.ref rp)) x6 x7 x8) H'
theorem Hl {x6 x7 x8:Option V}{ks1:List eh}{RA:eh->Addr}{st s0:Int}{w:V}(G:Gr oP B H ld ks1 (nF t) RA)(R:Row H ah ks S A T)(m:nH P ks S A)(nl:ld≠ah)(hr:H rp=some (.tup [.int s0,w]))(hu:∀ x∈t,x.1.2.2∈U)(hk:∀ b∈ks,b∈U)(hz:U.length<1000)
 (k:∀ ks' S' A' T' x6 x7 x8 H',Kp ah H H'->KT H H'->Row H' ah ks' S' A' T'->nH (fun b n a=>P b n a\/∃ p,(a,p)∈nF t (st,sign)/\b=a.2.2/\n=s0+p) ks' S' A'->(∀ b∈ks',b∈U)->D.nx (m9 ld sm sign ah (some (.int st)) (some (.ref rp)) x6 x7 x8) H'):AW X D (m9 ld sm sign ah (some (.int st)) (some (.ref rp)) x6 x7 x8) H:=by
 refine dQ (tl:=dU (ao 0) (bN (ai (ao 4) (ai (ao 2) aC))) (ce aC)) ⟨_,rfl,ld,rfl,.inr ⟨_,.inl G.r⟩,fU (ws:=[.int st,.int sign]) (.c (.va rfl) (.c (.va rfl) .ni)) rfl fun b hb=>⟨IL _,fun q hq=>?_⟩⟩;have s1:=aw (o:=.tup [.int st,.int sign]) hb;have h1:upd H b (.tup [.int st,.int sign]) b=some (.tup ((k2 (st,sign)).map kV)):=af;generalize upd H b (.tup [.int st,.int sign])=H1 at s1 h1 hq;have G1:=G.more dZ s1;have s2:=aw (o:=.lst []) hq;obtain⟨p,vs,ep,hp,al⟩:=AQ G1 hq (st,sign);refine⟨_,DGet.t (k:=k2 (st,sign)) (s2 _ _ G1.r) (s2 _ _ h1),?_⟩;rw[ep];have al:=al.mono (dZ (.of s2));have s12:=s1.trans s2;generalize upd H1 q (.lst [])=H2 at s2 s12 hp al;have R2:=R.more s12;have npa:p≠ah:=fun z=>by rw[z,R2.r]at hp;cases hp
 refine⟨p,rfl,⟨vs,SqL.of hp⟩,?_⟩;refine eR (K:=X.K) (a:=p) (xs:=vs) (GF ld sm rp sign st s0 ah P U (nF t (st,sign)) H2) (.mk (fun _ _ e _=>e) (fun _ _ e=>e) R2 (m.to fun b n a=>⟨.inl,fun h=>h.resolve_right fun⟨_,z,_⟩=>(nomatch z)⟩) hk) (fun i σ' H' _ z=>by cases z with|mk kp _ _ _ _=>exact SqL.of (kp _ _ hp npa)) (fun i v σ' H' hi z=>?_) fun σ' H' z=>?_
 .obtain @⟨H',ks',S',A',T',x6,x7,x8,kp,kt,R',m',hk'⟩:=z;obtain⟨⟨a,pr⟩,ex,p5,b5,rfl,h5,hb5⟩:=al.get hi;have lz:=Sp.nodup_sub m'.nd hk';refine sA (kt _ _ h5) (Hk R' m' (by lia) (kt _ _ hb5) (kt _ _ (s12 _ _ hr)) fun ks2 S2 A2 T2 x8 H3 kp3 kt3 R3 m3 hc=>.mk (fun c u e n=>kp3 _ _ (kp _ _ e n) n) (kt.trans kt3) R3 (m3.to fun b n a'=>?_) fun c hm=>(hc c hm).elim (hk' c) fun e=>?_)
  .rw[Jf,ex];constructor
   .rintro ((h|⟨p,h,e1,e2⟩)|⟨e1,e2,rfl⟩)
    .exact .inl h
    .exact .inr ⟨p,JD _ h,e1,e2⟩
    .exact .inr ⟨pr,I_ _ Iy,e1,e2⟩
   .rintro (h|⟨p,h,e1,e2⟩)
    .exact .inl (.inl h)
    .rcases IR.mp h with h|h
     .exact .inl (.inr ⟨p,h,e1,e2⟩)
     .have e:(a',p)=(a,pr):=by simpa using h
      cases e;exact .inr ⟨e1,e2,rfl⟩
  .obtain⟨_,v,hv,_⟩:=mem_ldT.mp (IH ex);rw[e];exact hu _ hv
 .obtain @⟨H',ks',S',A',T',x6,x7,x8,kp,kt,R',m',hk'⟩:=z;rw[<- al.len,Jp]at m';exact k ks' S' A' T' x6 x7 x8 H' (fun c u e n=>kp _ _ (s12 _ _ e) n) ((KT.of s12).trans kt) R' m' hk'
inductive wb:Sp
 |mk {B H:Hp} {ld sm:Addr} {t:Pz.TD} {ks1:List eh} {RA:eh->Addr} {ks U:List Int} {S:Int->Int} {A:Int->Option Pz.Arr} {T:Int->Addr} {sign:Int} {Q:VK} {E:XK} (G:Gr oP B H ld ks1 (nF t) RA) (R:Row H sm ks S A T) (hu:∀ x∈t,x.1.2.2∈U) (hz:U.length<1000)
  (k:∀ ah ks' S' A' T' H',Same H H'->H ah=none->Row H' ah ks' S' A' T'->nH (Dg t sign S ks) ks' S' A'->(∀ b∈ks',b∈U)->Q (.ref ah) H'):wb [.ref ld,.ref sm,.int sign] H Q E
theorem vk (h:wb vs H Q E):vs.length=3:=by cases h;rfl
inductive GC (ld sm ah:Addr) (sign:Int) (t:Pz.TD) (S0:Int->Int) (ks0 U:List Int) (H1:Hp) (i:Nat):L2.St->Hp->Prop
 |mk {H':Hp} {ks:List Int} {S:Int->Int} {A:Int->Option Pz.Arr} {T:Int->Addr} {x4 x5 x6 x7 x8:Option V}:Kp ah H1 H'->KT H1 H'->Row H' ah ks S A T->nH (Dg t sign S0 (ks0.take i)) ks S A->(∀ b∈ks,b∈U)->GC ld sm ah sign t S0 ks0 U H1 i (m9 ld sm sign ah x4 x5 x6 x7 x8) H'
theorem yl (h:wb vs H Q E):Hj X (eQ Q) (bc (nS 9) vs) H:=by
 obtain @⟨B,H,ld,sm,t,ks1,RA,ks0,U,S0,A0,T0,sign,Q,E,G,R,hu,hz,k⟩:=h;intro ah ha;have s1:=aw (o:=.dK []) ha;have h1:upd H ah (.dK []) ah=some (.dK []):=af;generalize upd H ah (.dK [])=H1 at s1 h1;have G1:=G.more dZ s1;have R1:=R.more s1;have nl:ld≠ah:=fun z=>by rw[<- z,G.r]at ha;cases ha
 have ns:sm≠ah:=fun z=>by rw[<- z,R.r]at ha;cases ha
 have nls:ld≠sm:=fun z=>by have:=G.r;rw[z,R.r]at this;cases this
 refine⟨_,rfl,sm,_,_,rfl,.inl rfl,.inr ⟨R1.r,fun o ho=>?_⟩⟩;have hf:upd H1 sm (.bO o (.dK (hJ ks0 fun k=>.ref (T0 k)))) sm=some (.bO o (.dK (hJ ks0 fun k=>.ref (T0 k)))):=af;have k0:Kp sm H1 (upd H1 sm (.bO o (.dK (hJ ks0 fun k=>.ref (T0 k))))):=fun c u e n=>by rw[au n];exact e
 have t0:KT H1 (upd H1 sm (.bO o (.dK (hJ ks0 fun k=>.ref (T0 k))))):=.upd R1.r fun _ z=>(nomatch z);generalize upd H1 sm (.bO o (.dK (hJ ks0 fun k=>.ref (T0 k))))=H2 at hf k0 t0;refine jc (n:=(hJ ks0 fun k=>V.ref (T0 k)).length) (GC ld sm ah sign t S0 ks0 U H2) (.mk (ks:=[]) (S:=fun _=>0) (A:=fun _=>none) (T:=fun _=>0) (fun _ _ e _=>e) (fun _ _ e=>e) ⟨k0 _ _ h1 (Jn ns),fun _ z=>(nomatch z)⟩ ⟨Jh,fun _ _ _ ⟨_,z,_⟩=>(nomatch z),fun _ z=>(nomatch z)⟩ fun _ z=>(nomatch z)) (fun i σ' H' p hi=>?_) (fun σ' H' p=>?_) (fun i σ' H' x H'' D' hi p y k'=>?_) fun σ' H' p=>?_
 .obtain @⟨H',ks',S',A',T',x4,x5,x6,x7,x8,kp,kt,R',m',hk'⟩:=p;exact⟨kp _ _ hf ns,hi⟩
 .obtain @⟨H',ks',S',A',T',x4,x5,x6,x7,x8,kp,kt,R',m',hk'⟩:=p;exact⟨kp _ _ hf ns,Im _⟩
 .obtain @⟨H',ks',S',A',T',x4,x5,x6,x7,x8,kp,kt,R',m',hk'⟩:=p;obtain⟨p5,kk5,w,hp5,rfl,rfl,ei⟩:=y;rw[IE]at ei;obtain⟨st,es,e2⟩:=Jg.mp ei;cases e2;obtain⟨w5,h5,_⟩:=R1.t st (IH es);have s5:=aw (o:=.tup [.int st,.ref (T0 st)]) hp5;refine sA af ?_;have up:∀{c u},H1 c=some u->c≠sm->c≠ah->upd H' p5 (.tup [.int st,.ref (T0 st)]) c=some u:=fun e n n'=>s5 _ _ (kp _ _ (k0 _ _ e n) n');have G5:Gr oP (fun _=>none) (upd H' p5 (.tup [.int st,.ref (T0 st)])) ld ks1 (nF t) RA:=⟨(fun _ _ e=>nomatch e),up G1.r nls nl,rfl,fun k hk=>by obtain⟨_,vs,e,al⟩:=G1.v k hk;exact⟨rfl,vs,up e (fun z=>by rw[z,R1.r]at e;cases e) (fun z=>by rw[z,h1]at e;cases e),al.mono (dZ ((t0.trans kt).trans (.of s5)))⟩,G1.i,G1.z⟩;have h5':=(kt.trans (.of s5)) _ _ (t0 _ _ h5);have k5:Kp ah H2 (upd H' p5 (.tup [.int st,.ref (T0 st)])):=fun c u e n=>s5 _ _ (kp _ _ e n);have kt5:=kt.trans (.of s5);have R5:=R'.more s5;show AW X D' (m9 ld sm sign ah (some (.int st)) (some (.ref (T0 st))) x6 x7 x8) (upd H' p5 (.tup [.int st,.ref (T0 st)]));generalize upd H' p5 (.tup [.int st,.ref (T0 st)])=H5 at G5 h5' k5 kt5 R5;refine Hl G5 R5 m' nl h5' hu hk' hz fun ks2 S2 A2 T2 x6 x7 x8 H6 kp6 kt6 R6 m6 hk6=>k' _ _ (.mk (fun c u e n=>kp6 _ _ (k5 _ _ e n) n) (kt5.trans kt6) R6 (m6.to fun b n a=>?_) hk6);unfold Dg;rw[Jf,es];constructor
  .rintro (⟨s,hs,h⟩|⟨p,h⟩)
   .exact⟨s,JD _ hs,h⟩
   .exact⟨st,I_ _ Iy,p,h⟩
  .rintro⟨s,hs,h⟩;rcases IR.mp hs with hs|hs
   .exact .inl ⟨s,hs,h⟩
   .have e:s=st:=by simpa using hs
    rw[e]at h;exact .inr h
 .obtain @⟨H',ks',S',A',T',x4,x5,x6,x7,x8,kp,kt,R',m',hk'⟩:=p;rw[Iq,Jp]at m';have th:Same H (upd H' sm (.dK (hJ ks0 fun k=>.ref (T0 k)))):=fun c u e=>by
   by_cases z:c=sm
   .rw[z,af];rw[z,R.r]at e;exact e
   .rw[au z];exact kp _ _ (k0 _ _ (s1 _ _ e) z) (am e ha)
  exact .inr ⟨sm,o,_,kp _ _ hf ns,True.intro,ho,_,rfl,k ah ks' S' A' T' _ th ha (R'.keep (.upd (kp _ _ hf ns) fun _ z=>(nomatch z)) (by rw[au (Jn ns)];exact R'.r)) m' hk'⟩
end
structure l7 where
 ks:List Int
 S:Int->Int
 A:Int->Option Pz.Arr
def RsmAt (H:Hp)(r:l7)(v:V):Prop:=∃ d T,v=.ref d/\Row H d r.ks r.S r.A T
structure kS (t:Pz.TD) (room:Int) (aV:List Int) (L:List l7):Prop where
 z:L[0]?=some ⟨[room],fun _=>0,fun _=>none⟩
 s:∀(j:Nat) r r' s,L[j]?=some r->L[j+1]?=some r'->aV[j]?=some s->nH (Dg t s r.S r.ks) r'.ks r'.S r'.A
section
variable {X:Cx}{K:LM}{H H':Hp}{ld ah d:Addr}{t:Pz.TD}{vs:List V}{Q:VK}{E:XK}{L:List l7}{room:Int}{aV:List Int}
theorem RsmAt.more {r:l7}{v:V}(s:Same H H')(h:RsmAt H r v):RsmAt H' r v:=let ⟨d,T,e,R⟩:=h;⟨d,T,e,R.more s⟩
def Ex:TE:=Gi (rU fun i=>.int (-i)) (tC (.int 1))
def FA (K:LM):TE:=bN (ai (tC (.int 0)) (ai (tC .bu) aC))
def FC (K:LM):TS:=bY (qz K "list" cn (ao 3) (ai (bC wb [] E0 (ai (ao 2) (ai (bn (jx K) (ao 3) Ex) (ai (ao 4) aC)))) aC))
def Hm (X:Cx):TS:=aJ (aY (bC wq [] E0 (ai (ao 0) aC)) (aB 2)) (aJ (aY (ce (ai (y8 [(tI X.K 1 0,FA X.K)]) aC)) (aB 3)) (aJ (dS (cJ X.K (tI X.K 1 1)) (aB 4) (FC X.K)) (bU (ao 3))))
inductive tH:Sp
 |mk {H:Hp} {d:Addr} {u:HO} {kvs:List (List ba×V)} {t:Pz.TD} {sp sl:Addr} {room:Int} {aV U:List Int} {Q:VK} {E:XK} (hd:H d=some u) (hu:u=.dT kvs\/(u=.dK []/\kvs=[])) (al:aS (IsTo H) t kvs) (hz:t.length<1000000) (hp:H sp=some (.tup [.int room,.ref sl])) (hl:Rd H sl (.lst (aV.map .int))) (hs:aV.length<1000) (hU:∀ x∈t,x.1.2.2∈U) (zU:U.length<1000)
  (k:∀ rl L vs H',Same H H'->H rl=none->H' rl=some (.lst vs)->aS (RsmAt H') L vs->L.length=aV.length+1->kS t room aV L->Q (.ref rl) H'):tH [.ref d,.ref sp] H Q E
theorem vm (h:tH vs H Q E):vs.length=2:=by cases h;rfl
inductive GM (d sp ld rl:Addr) (H3:Hp) (t:Pz.TD) (room:Int) (aV:List Int) (i:Nat):L2.St->Hp->Prop
 |mk {H':Hp} {L:List l7} {vs:List V} {x4:Option V}:Kp rl H3 H'->H' rl=some (.lst vs)->aS (RsmAt H') L vs->L.length=i+1->kS t room aV L->GM d sp ld rl H3 t room aV i [some (.ref d),some (.ref sp),some (.ref ld),some (.ref rl),x4] H'
theorem ym (h:tH vs H Q E):Hm X (eQ Q) (bc (nS 5) vs) H:=by
 obtain @⟨H,d,u,kvs,t,sp,sl,room,aV,U,Q,E,hd,hu,al,hz,hp,hl,hs,hU,zU,k⟩:=h;refine⟨_,rfl,.mk hd hu al hz fun ld ks1 RA H1 G=>fun rd hrd=>?_⟩;have s1:=G.s;have s2:=aw (o:=.dK []) hrd;have h2:upd H1 rd (.dK []) rd=some (.dK []):=af;generalize upd H1 rd (.dK [])=H2 at s2 h2;refine Reads.ix (n:=0) (.va (i:=1) rfl) (s2 _ _ (s1 _ _ hp)) (v:=.int room) rfl _ (fU (ws:=[.int 0,.bu]) (.c .k (.c .k .ni)) rfl fun q hq=>?_);have s3:=aw (o:=.tup [.int 0,.bu]) hq;have h3:upd H2 q (.tup [.int 0,.bu]) q=some (.tup [.int 0,.bu]):=af;generalize upd H2 q (.tup [.int 0,.bu])=H3 at s3 h3;refine⟨s3 _ _ h2,[(.inl room,.ref q)],rfl,by show 1<=15;decide,by show 1<=_;rw[IY];lia,fun rl hrl=>?_⟩;have s4:Same H1 (upd H3 rd (.dK (f7 [] [((.inl room:ba),V.ref q)]))):=fun c u e=>by rw[au (am e hrd)];exact s3 _ _ (s2 _ _ e)
 have R4:Row (upd H3 rd (.dK (f7 [] [((.inl room:ba),V.ref q)]))) rd [room] (fun _=>0) (fun _=>none) fun _=>q:=⟨af,fun k _=>⟨.bu,by rw[au fun z=>by rw[z,s3 _ _ h2]at h3;cases h3];exact h3,rfl⟩⟩;generalize upd H3 rd (.dK (f7 [] [((.inl room:ba),V.ref q)]))=H4 at s4 R4 hrl;have s5:=aw (o:=.lst [.ref rd]) hrl;have h5:upd H4 rl (.lst [.ref rd]) rl=some (.lst [.ref rd]):=af;generalize upd H4 rl (.lst [.ref rd])=H5 at s5 h5;have s15:=s4.trans s5;have s05:=s1.trans s15;have nrl:H1 rl=none:=s4.free hrl;refine Reads.ix (n:=1) (.va (i:=1) rfl) (s05 _ _ hp) (v:=.ref sl) rfl _ ⟨sl,rfl,⟨_,.inl (aX s05 hl)⟩,?_⟩;have hl5:=aX s05 hl;have nsl:∀{H'},Kp rl H5 H'->Rd H' sl (.lst (aV.map .int)):=fun kp=>by
  have n:sl≠rl:=fun z=>by have nr:H rl=none:=s1.free nrl;rcases hl with e|⟨o,e⟩<;>(rw[z,nr]at e;cases e)
  exact hl5.imp (fun e=>kp _ _ e n) fun⟨o,e⟩=>⟨o,kp _ _ e n⟩
 refine eR (K:=X.K) (a:=sl) (xs:=aV.map .int) (GM d sp ld rl H5 t room aV) (.mk (fun _ _ e _=>e) h5 (.cons ⟨rd,_,rfl,R4.more s5⟩ .nil) rfl ⟨rfl,fun j r r' s _ e _=>by simp at e⟩) (fun i σ' H' _ z=>by cases z with|mk kp _ _ _ _=>exact .inl (nsl kp)) (fun i v σ' H' hi z=>?_) fun σ' H' z=>?_
 .obtain @⟨H',L,us,x4,kp,hr,al',ll,ok⟩:=z;rw[IE]at hi;obtain⟨s,es,rfl⟩:=Jg.mp hi;obtain⟨us,w,rfl⟩ : ∃ a b,us=a++[b]:=by
   rcases List.eq_nil_or_concat us with rfl|⟨a,b,rfl⟩
   .have:=al'.len;rw[ll]at this;cases this
   .exact⟨a,b,by simp⟩
  have ul:=al'.len;rw[IF]at ul;obtain⟨r,er,rd',T',rfl,R'⟩:=al'.get (i:=us.length) (y:=w) (by simp);have li:=(Iv.mp es).1;have ei:us.length=i:=by simp at ul;lia
  have G':Gr oP (fun _=>none) H' ld ks1 (nF t) RA:=by
   have G5:=G.more dZ s15;have kt5:KT H5 H':=fun c w e=>kp _ _ e fun z=>by rw[z,h5]at e;cases e
   exact⟨(fun _ _ e=>nomatch e),kp _ _ G5.r (fun z=>by have:=G5.r;rw[z,h5]at this;cases this),rfl,fun k hk=>by obtain⟨_,vs,e,al⟩:=G.v k hk;exact⟨rfl,vs,kp _ _ (s15 _ _ e) (am e nrl),al.mono (dZ ((KT.of s15).trans kt5))⟩,G.i,G.z⟩
  refine⟨_,rfl,.inl ⟨rfl,_,SqL.of hr⟩,_,rfl,Reads.op (.va rfl) (fun Q q=>⟨1,rfl,q⟩) (fun _ q=>⟨rl,_,_,_,rfl,rfl,SqL.of hr,iF us _,q⟩) _ ⟨_,rfl,.mk (sign:=s) G' R' hU zU fun ah ks' S' A' T'' H6 s6 nah R6 m6 hk6=>?_⟩⟩;have hr6:=s6 _ _ hr;refine⟨rl,_,_,rfl,rfl,hr6,qa (by rw[IF];simp;lia),?_⟩;have nar:ah≠rl:=fun z=>by rw[z,hr]at nah;cases nah
  have kt:KT H6 (upd H6 rl (.lst ((us++[.ref rd'])++[.ref ah]))):=.upd hr6 fun _ z=>(nomatch z);have keepR:∀{r v},RsmAt H6 r v->RsmAt (upd H6 rl (.lst ((us++[.ref rd'])++[.ref ah]))) r v:=fun⟨d,T,e,R⟩=>⟨d,T,e,R.keep kt (by rw[au fun z=>by have:=R.r;rw[z,hr6]at this;cases this];exact R.r)⟩;refine .mk (L:=L++[⟨ks',S',A'⟩]) (fun c u e n=>by rw[au n];exact s6 _ _ (kp _ _ e n)) af (.snoc (al'.mono fun r v h=>keepR (h.more s6)) (keepR ⟨ah,T'',rfl,R6⟩)) (by rw[IF,ll];rfl) ⟨?_,fun j r1 r2 s' e1 e2 e3=>?_⟩
  .rw[Kd (by lia)];exact ok.z
  .by_cases hj:j+1<L.length
   .rw[Kd (by lia)]at e1 e2;exact ok.s j r1 r2 s' e1 e2 e3
   .have lt:=(Iv.mp e2).1;rw[IF]at lt;have ej:j=i:=by simp at lt;lia
    rw[ej,es]at e3;cases e3;rw[Kd (by lia),ej,<- ei,er]at e1;cases e1;rw[J2 (by lia),show j+1-L.length=0 by lia]at e2;cases e2;exact m6
 .obtain @⟨H',L,us,x4,kp,hr,al',ll,ok⟩:=z;rw[Iq]at ll;exact⟨_,rfl,k rl L us H' (fun c u e=>kp _ _ (s05 _ _ e) (am (s1 _ _ e) nrl)) (s1.free nrl) hr al' ll ok⟩
end
noncomputable def vn (r:l7)(ends:List Int):Option (Int×Int)->Prop
 |none=>∀ e∈ends,e∉r.ks
 |some (v,e)=>e∈ends/\e∈r.ks/\v=r.S e/\∀ e'∈ends,e'∈r.ks->v<=r.S e'
noncomputable def AX (H:Hp):Option (Int×Int)->V->Prop
 |none,w=>w=.bu
 |some x,w=>IsSet H x w
theorem vp (bt:Nat->Nat->Bool)(num:Nat->Int)(n:Nat)(h:∀ i j,i<=n->j<=n->if bt i j=true then num i<=num j else num j<=num i)(k:Nat)(hk:k<=n):∀ j,j<=k->num (argBest bt k)<=num j:=by
 induction k with
 |zero=>intro j hj;rw[Nat.le_zero.mp hj];exact J0 _
 |succ k ih=>
  intro j hj;have h:=h (k+1) (argBest bt k) hk (by have:=m7 bt k;lia);unfold argBest;by_cases b:bt (k+1) (argBest bt k)=true
  .rw[IS b]at h ⊢;by_cases e:j=k+1
   .rw[e];exact J0 _
   .exact JX h (ih (by lia) j (by lia))
  .rw[IK b]at h ⊢;by_cases e:j=k+1
   .rw[e];exact h
   .exact ih (by lia) j (by lia)
section
variable {X:Cx}{K:LM}{H H':Hp}{sm el p:Addr}{t:Pz.TD}{vs:List V}{Q:VK}{E:XK}{r:l7}{ends:List Int}{T:Int->Addr}
inductive qj:Sp
 |mk {H:Hp} {p el sm:Addr} {a b:V} {r:l7} {ends:List Int} {T:Int->Addr} {Q:VK} {E:XK} (hp:H p=some (.tup [a,b,.ref el])) (he:Rd H el (.lst (ends.map .int))) (R:Row H sm r.ks r.S r.A T) (hz:ends.length<1000) (k:∀ o v H',Same H H'->vn r ends o->AX H' o v->Q v H'):qj [.ref p,.ref sm] H Q E
theorem vq (h:qj vs H Q E):vs.length=2:=by cases h;rfl
def FD:TT:=bv (bn (Cq false) (ao 0) (ao 1))
def Dh (K:LM):TE:=bN (ai (bn (ig K) (lL (ao 1) (ao 0)) (tC (.int 0))) (ai (ao 0) aC))
def Ho (X:Cx)(scope:Scope)(tg elt:Expr)(tN capN:List Str)(caps:List Nat)(ifs:List Expr):TS:=bU (zm X.K (jo X scope tg tN capN caps elt ifs (cJ X.K (tI X.K 0 2))))
structure HW (X:Cx) (scope:Scope) (tg elt:Expr) (tN capN:List Str) (caps:List Nat) (ifs:List Expr):Prop where
 h:tN.length=1
 c:caps=[1]
 g:∀ cl C s3 H3 fp,PG (b_ X scope (tN++capN) cl C s3 H3 fp) tg (aB 0)
 t:∀ cl C s3 H3 fp,BU (b_ X scope (tN++capN) cl C s3 H3 fp) ifs FD
 e:∀ cl C s3 H3 fp,PE (b_ X scope (tN++capN) cl C s3 H3 fp) elt (Dh X.K)
theorem Di {es:List Int}{acc:List V}(al:aS (IsSet H) ((es.filter fun e=>decide (e∈r.ks)).map fun e=>(r.S e,e)) acc)(k:∀ o v,vn r es o->AX H o v->Q v H)(hl:H p=some (.lst acc)) :
 ∃ p' vs ks,V.ref p=.ref p'/\SqL K H p' vs/\(mZ K H vs ks\/m5 vs ks)/\(vs=[]->Q .bu H)/\∀ v,vs[argBest (sQ ks) (vs.length-1)]?=some v->Q v H:=by
 have ln:=al.len;refine⟨p,acc,((es.filter fun e=>decide (e∈r.ks)).map fun e=>[r.S e,e]),rfl,SqL.of hl,.inl ⟨by rw[<- ln];simp,fun i v ks ev ek=>?_⟩,fun e=>?_,fun v ev=>?_⟩
 .obtain⟨x,ex,q,rfl,hq⟩:=al.get ev;rw[IE]at ex ek;obtain⟨e,ee,rfl⟩:=Jg.mp ex;rw[ee]at ek;cases ek;exact⟨q,rfl,SqT.of hq⟩
 .subst e;refine k none _ (fun e he z=>?_) rfl;have:e∈es.filter fun e=>decide (e∈r.ks):=Js.mpr ⟨he,IJ z⟩;rw[Iq]at ln;rw[Jr.mp ln]at this;cases this
 .obtain⟨x,ex,hx⟩:=al.get ev;rw[IE]at ex;obtain⟨e,ee,rfl⟩:=Jg.mp ex;obtain⟨m1,m2⟩:=Js.mp (IH ee);refine k (some (r.S e,e)) v ⟨m1,Ja m2,rfl,fun e' h1 h2=>?_⟩ hx;obtain⟨j,hj⟩:=Jb.mp (Js.mpr ⟨h1,IJ h2⟩ : e'∈es.filter fun e=>decide (e∈r.ks));have lj:=(Iv.mp hj).1;rw[Iq]at ln;generalize es.filter (fun e=>decide (e∈r.ks))=fs at *;have key:=vp (sQ (fs.map fun e=>[r.S e,e])) (fun i=>(fs[i]?.map r.S).getD 0) (acc.length-1) (fun a b ha hb=>?_) (acc.length-1) (Im _) j (by lia)
  .rw[ee,hj]at key;exact key
  .unfold sQ;rw[IE,IE,Ir (by lia:a<fs.length),Ir (by lia:b<fs.length)];simp[HT.lexLt];split<;>split<;>lia
theorem yn {scope:Scope}{tg elt:Expr}{tN capN:List Str}{caps:List Nat}{ifs:List Expr}(c:HW X scope tg elt tN capN caps ifs)(h:qj vs H Q E):Ho X scope tg elt tN capN caps ifs (eQ Q) (bc (nS 2) vs) H:=by
 obtain @⟨H,p,el,sm,a,b,r,ends,T,Q,E,hp,he,R,hz,k⟩:=h;refine Reads.ix (n:=2) (.va (i:=0) rfl) hp (v:=.ref el) rfl _ ⟨el,rfl,⟨_,.inl he⟩,?_⟩;refine m8 (n:=ends.length) c.g c.t c.e (fun Dl i acc H'=>Same H H'/\H' Dl=some (.lst acc)/\aS (IsSet H') (((ends.take i).filter fun e=>decide (e∈r.ks)).map fun e=>(r.S e,e)) acc/\H Dl=none) (fun Dl hD=>⟨aw hD,af,.nil,hD⟩) (fun h=>h.2.1) (fun Dl i acc H' ⟨sm,_⟩ hi=>⟨ends.map .int,V.int ends[i],.inl (aX sm he),by rw[IE,Ir hi];rfl⟩) (fun Dl acc H' ⟨sm,_⟩=>⟨ends.map .int,.inl (aX sm he),by rw[Iq];exact Im _⟩) (fun Dl i acc H' xv H'' ol hi ⟨sm',hD,al,nD⟩ y hol=>?_) fun Dl acc H' hD ⟨sm',hD',al,_⟩=>?_
 .obtain⟨rfl,y⟩:=y;have y:=y _ (.inl (aX sm' he));rw[IE,Ir hi]at y;cases y;rw[c.h]at hol;obtain⟨u0,rfl⟩:=KZ.mp hol;rw[c.c];have R':=R.more sm';have et:ends.take (i+1)=ends.take i++[ends[i]]:=by rw[Jf,Ir hi];rfl
  refine⟨fun j hj=>?_,_,rfl,_,rfl,sm,_,rfl,.inl (DGet.k (k:=.inl ends[i]) R'.r),_,rfl,?_⟩
  .rw[c.h]at hj;obtain⟨j,rfl⟩:=JT hj;rfl
  rw[jv];have ll:=al.len;have lf:=K8 (fun e=>decide (e∈r.ks)) (ends.take i);rw[Iq]at ll;rw[Jt]at lf;by_cases m:ends[i]∈r.ks
  .rw[IS m];obtain⟨w,hw,_⟩:=R'.t _ m;refine di ?_;show Dh X.K [some (.int ends[i]),some (.ref sm)] H'' _;refine fU (ws:=[.int (r.S ends[i]),.int ends[i]]) (.c (.ix (n:=0) (b:=T ends[i]) (fun Q q=>⟨_,rfl,_,rfl,sm,_,rfl,by have:=DGet.k (k:=.inl ends[i]) R'.r;rwa [jv,IS m]at this,q⟩) hw (v:=.int (r.S ends[i])) rfl) (.c (.va rfl) .ni)) rfl fun q hq=>?_;have s1:=aw (o:=.tup [.int (r.S ends[i]),.int ends[i]]) hq;have hq1:upd H'' q (.tup [.int (r.S ends[i]),.int ends[i]]) q=some (.tup [.int (r.S ends[i]),.int ends[i]]):=af;have hD1:=s1 _ _ hD;generalize upd H'' q (.tup [.int (r.S ends[i]),.int ends[i]])=H1 at s1 hq1 hD1;have kt:KT H1 (upd H1 Dl (.lst (acc++[.ref q]))):=.upd hD1 fun _ z=>(nomatch z);refine⟨hD1,qa (by lia),fun c u e=>by rw[au (am e nD)];exact s1 _ _ (sm' _ _ e),af,?_,nD⟩;rw[et,KU,KQ (by exact IJ m),IW];exact(al.mono (C4 ((KT.of s1).trans kt))).snoc ⟨q,rfl,kt _ _ hq1⟩
  .rw[IK m];refine cg ⟨sm',hD,?_,nD⟩;rw[et,KU,KP (by simpa using m)];simpa using al
 .rw[Jp]at al;exact Di al (fun o v h1 h2=>k o v H' sm' h1 h2) hD'
end
structure nB (Fr:fG) (H:Hp) (p mp sp:Addr) (t:Pz.TD) (room:Int) (aV ends U:List Int):Prop where
 pr:∃ hD mD,Is H Tr hD (.ref p)/\Is H Tr mD (.ref mp)/\Fr [hD,mD]=.ok (.o0 (d7 t))
 m:∃ a b el,H mp=some (.tup [a,b,.ref el])/\Rd H el (.lst (ends.map .int))
 s:∃ sl,H sp=some (.tup [.int room,.ref sl])/\Rd H sl (.lst (aV.map .int))
 z:t.length<1000000
 zs:aV.length<1000
 ze:ends.length<1000
 u:∀ x∈t,x.1.2.2∈U
 zu:U.length<1000
inductive jF (t:Pz.TD) (room:Int) (aV ends:List Int) (L:List l7) (r:l7) (o:Option (Int×Int)):Prop
 |mk (n:L.length=aV.length+1) (ok:kS t room aV L) (l:L[aV.length]?=some r) (e:vn r ends o):jF t room aV ends L r o
noncomputable def Hq (o:Option (Int×Int)):V:=o.elim .bu fun x=>.int x.1
section
variable {K:LM}{mg:Str->Option LO}{Fr:fG}{H H':Hp}{p mp sp:Addr}{t:Pz.TD}{room:Int}{aV ends U:List Int}{σ:L2.St}{vs:List V}{Q:VK}{E:XK}
theorem nB.more (h:nB Fr H p mp sp t room aV ends U)(s:Same H H'):nB Fr H' p mp sp t room aV ends U:=⟨let ⟨a,b,c,d,e⟩:=h.pr;⟨a,b,C7 c s,C7 d s,e⟩,let ⟨a,b,c,d,e⟩:=h.m;⟨a,b,c,s _ _ d,aX s e⟩,let ⟨a,b,c⟩:=h.s;⟨a,s _ _ b,aX s c⟩,h.z,h.zs,h.ze,h.u,h.zu⟩
theorem vt {ta:TA}(h:nB Fr H p mp sp t room aV ends U)(ha:ReadsA ta σ H [.ref p,.ref mp])(k:∀ d kvs u H',Same H H'->H d=none->H' d=some u->(u=.dT kvs\/(u=.dK []/\kvs=[]))->aS (IsTo H') t kvs->Q (.ref d) H'):bC (tO mg 2 Fr) [] E0 ta σ H Q:=by obtain⟨hD,mD,i1,i2,hF⟩:=h.pr;refine ha _ ⟨rfl,[hD,mD],Tr,⟨_,_,rfl,i1,_,_,rfl,i2,rfl⟩,?_⟩;rw[hF];intro v H4 s4 r4;obtain⟨d,kvs,u,rfl,n4,e4,hu,al⟩:=oO r4;exact k d kvs u H4 s4 n4 e4 hu al
theorem vv {rl:Addr}{L:List l7}{vs:List V}(h:nB Fr H p mp sp t room aV ends U)(hr:H rl=some (.lst vs))(al:aS (RsmAt H) L vs)(n:L.length=aV.length+1)(ok:kS t room aV L)(k:∀ r o v H',Same H H'->jF t room aV ends L r o->AX H' o v->Q v H'):jx K (.ref rl) (.int (-1)) H fun x H1=>qj [.ref mp,x] H1 Q E:=by
 obtain⟨us,w,rfl⟩ : ∃ a b,vs=a++[b]:=by
  rcases List.eq_nil_or_concat vs with rfl|⟨a,b,rfl⟩
  .have:=al.len;rw[n]at this;cases this
  .exact⟨a,b,by simp⟩
 have ul:us.length=aV.length:=by have:=al.len;rw[IF,n]at this;simpa using this.symm
 obtain⟨r,er,rd,T,rfl,R⟩:=al.get (i:=us.length) (y:=w) (by simp);obtain⟨a,b,el,hm,he⟩:=h.m;exact⟨rl,_,_,_,rfl,rfl,SqL.of hr,iF us _,.mk hm he R h.ze fun o v H' s lo io=>k r o v H' s ⟨n,ok,ul▸er,lo⟩ io⟩
inductive tD (Fr:fG):Sp
 |mk {H:Hp} {p mp sp:Addr} {t:Pz.TD} {room:Int} {aV ends U:List Int} {Q:VK} {E:XK} (i:nB Fr H p mp sp t room aV ends U) (k:∀ L r o H',Same H H'->jF t room aV ends L r o->Q (Hq o) H'):tD Fr [.ref p,.ref mp,.ref sp] H Q E
theorem vw (h:tD Fr vs H Q E):vs.length=3:=by cases h;rfl
def FE (mg:Str->Option LO)(Fr:fG):TE:=bC tH [] E0 (ai (bC (tO mg 2 Fr) [] E0 (ai (ao 0) (ai (ao 1) aC))) (ai (ao 2) aC))
def Hr (K:LM)(mg:Str->Option LO)(Fr:fG):TS:=aJ (aY (bC qj [] E0 (ai (ao 1) (ai (bn (jx K) (FE mg Fr) Ex) aC))) (aB 3)) (bU (Gg (bv (bn mS (ao 3) (tC .bu))) (tC .bu) (tI K 3 0)))
theorem yo (h:tD Fr vs H Q E):Hr K mg Fr (eQ Q) (bc (nS 4) vs) H:=by
 obtain @⟨H,p,mp,sp,t,room,aV,ends,U,Q,E,i,k⟩:=h;refine⟨_,rfl,vt (σ:=[some (.ref p),some (.ref mp),some (.ref sp),none]) i (.c (.va rfl) (.c (.va rfl) .ni)) fun d kvs u H1 s1 nd hd hu al=>⟨_,rfl,?_⟩⟩;have i1:=i.more s1;obtain⟨sl,hp,hl⟩:=i1.s;refine .mk hd hu al i.z hp hl i.zs i.u i.zu fun rl L ws H2 s2 nr hr al2 n ok=>?_;have i2:=i1.more s2;refine⟨1,rfl,vv i2 hr al2 n ok fun r o v H3 s3 lt io=>?_⟩;have fin:=k L r o H3 ((s1.trans s2).trans s3) lt;cases o with
 |none=>cases (show v=.bu from io);exact⟨_,rfl,rfl,_,rfl,di fin⟩
 |some x=>obtain⟨q,rfl,hq⟩:=io;exact⟨_,rfl,rfl,_,rfl,cg (Reads.ix (n:=0) (.va rfl) hq (v:=.int x.1) rfl _ fin)⟩
end
inductive iT (t:Pz.TD):Int->List Pz.Arr->Int->Int->Prop
 |nil {s:Int}:iT t s [] s 0
 |cons {a:Pz.Arr} {v:Pz.jC} {as:List Pz.Arr} {e c:Int}:(a,v)∈t->iT t a.2.2 as e c->iT t a.1 (a::as) e (v.1+c)
section
variable {K:LM}{H H':Hp}{rl ar:Addr}{t:Pz.TD}{room e:Int}{aV:List Int}{vs:List V}{Q:VK}{E:XK}{L:List l7}{r:l7}
inductive ww:Sp
 |mk {H:Hp} {rl:Addr} {vs:List V} {L:List l7} {t:Pz.TD} {room e:Int} {aV:List Int} {r:l7} {Q:VK} {E:XK} (hr:H rl=some (.lst vs)) (al:aS (RsmAt H) L vs) (n:L.length=aV.length+1) (ok:kS t room aV L) (hl:L[aV.length]?=some r) (he:e∈r.ks) (zs:aV.length<1000)
  (k:∀ ar us as H',Same H H'->H ar=none->H' ar=some (.lst us)->aS (IsArr H') as.reverse us->iT t room as e (r.S e)->as.map (·.2.1)=aV->Q (.ref ar) H'):ww [.ref rl,.int e] H Q E
theorem vx (h:ww vs H Q E):vs.length=2:=by cases h;rfl
def FG (K:LM):TS:=aJ (aY (bn (ig K) (lL (ao 3) (ao 1)) (tC (.int 1))) (aB 4)) (aJ (bY (qz K "list" cn (ao 2) (ai (ao 4) aC))) (aY (tI K 4 0) (aB 1)))
def Hu (K:LM):TS:=aJ (aY (ce aC) (aB 2)) (aJ (dS (Ae K (ai (yX (pA K) (ao 0) (jm (tC (.int 1))) gA) aC)) (aB 3) (FG K)) (bU (ao 2)))
inductive GJ (rl ar:Addr) (H3:Hp) (t:Pz.TD) (aV:List Int) (L:List l7) (e c0:Int) (i:Nat):L2.St->Hp->Prop
 |mk {H':Hp} {us:List V} {as:List Pz.Arr} {st c:Int} {r:l7} {x3 x4:Option V}:Kp ar H3 H'->H' ar=some (.lst us)->aS (IsArr H') as.reverse us->iT t st as e c->as.map (·.2.1)=aV.drop (aV.length-i)->L[aV.length-i]?=some r->st∈r.ks->r.S st+c=c0->GJ rl ar H3 t aV L e c0 i [some (.ref rl),some (.int st),some (.ref ar),x3,x4] H'
theorem yp (h:ww vs H Q E):Hu K (eQ Q) (bc (nS 5) vs) H:=by
 obtain @⟨H,rl,vs,L,t,room,e,aV,r,Q,E,hr,al,n,ok,hl,he,zs,k⟩:=h;refine⟨IL _,fun ar har=>?_⟩;have s1:=aw (o:=.lst []) har;have h1:upd H ar (.lst []) ar=some (.lst []):=af;generalize upd H ar (.lst [])=H1 at s1 h1;refine⟨_,rfl,1,rfl,rl,vs,rfl,SqL.of (s1 _ _ hr),fun q hq=>?_⟩;rw[show(some (1:Int))=some ((1:Nat):Int) from rfl,je];have s2:=aw (o:=.lst (vs.drop 1)) hq;have h2:upd H1 q (.lst (vs.drop 1)) q=some (.lst (vs.drop 1)):=af;have har2:=s2 _ _ h1;generalize upd H1 q (.lst (vs.drop 1))=H2 at s2 h2 har2;have nqa:q≠ar:=fun z=>by rw[z,h1]at hq;cases hq
 have s12:=s1.trans s2;have lv:=al.len;have ld:(vs.drop 1).length=aV.length:=by rw[Ko];lia
 refine⟨q,_,rfl,SqL.of h2,?_⟩;rw[ld];have al2:aS (RsmAt H2) L vs:=al.mono fun _ _ h=>h.more s12;refine jc (n:=aV.length) (GJ rl ar H2 t aV L e (r.S e)) (.mk (as:=[]) (fun _ _ e _=>e) har2 .nil .nil (by simp) (by rw[Nat.sub_zero];exact hl) he (by lia)) (fun i σ' H' p hi=>?_) (fun σ' H' p=>Im _) (fun i σ' H' x H'' D' hi p y k'=>?_) fun σ' H' p=>?_
 .cases p with|mk kp _ _ _ _ _ _ _=>exact⟨_,SqL.of (kp _ _ h2 nqa),ld,hi⟩
 .obtain @⟨H',us,as,st,c,r1,x3,x4,kp,ha,aa,pt,sg,hr1,hs,sm⟩:=p;obtain⟨rfl,y⟩:=y;have y:=y _ (SqL.of (kp _ _ h2 nqa));rw[List.getElem?_drop]at y;obtain⟨r2,e2,d,T,rfl,R⟩:=al2.get y;have ei:1+(aV.length-1-i)=aV.length-i:=by lia
  rw[ei,hr1]at e2;cases e2;obtain⟨r0,hr0⟩ : ∃ r0,L[aV.length-(i+1)]?=some r0:=⟨_,Ir (by lia)⟩;obtain⟨s,es⟩ : ∃ s,aV[aV.length-(i+1)]?=some s:=⟨_,Ir (by lia)⟩;have m:=ok.s _ r0 r1 s hr0 (by rw[show aV.length-(i+1)+1=aV.length-i by lia];exact hr1) es;obtain⟨a,ea,s',hs',p,hp,eb,en⟩:=m.v st hs;obtain⟨ek,v,hv,rfl⟩:=mem_ldT.mp hp;injection ek with ek1 ek2;subst ek1 ek2;have rg:H2 d=some (.dK (hJ r1.ks fun k=>.ref (T k))):=R.r;have nda:d≠ar:=fun z=>by rw[z,har2]at rg;cases rg
  obtain⟨w,hw,io⟩:=R.t st hs;rw[ea]at io;obtain⟨b,rfl,hb⟩:=io;have kt:KT H2 H'':=fun c w e=>kp _ _ e fun z=>by rw[z,har2]at e;cases e
  refine⟨_,rfl,_,rfl,d,_,rfl,by have:=DGet.k (k:=.inl st) (kp _ _ rg nda);rwa [jv,IS hs]at this,T st,_,1,_,rfl,rfl,SqT.of (kt _ _ hw),rfl,_,rfl,.inl ⟨rfl,_,SqL.of ha⟩,_,rfl,_,_,_,rfl,rfl,ha,?_,?_⟩
  .have:=aa.len;have l2:=JL List.length sg;rw[Iq,Ko]at l2;rw[J1]at this;exact qa (by lia)
  have kt2:KT H'' (upd H'' ar (.lst (us++[.ref b]))):=.upd ha fun _ z=>(nomatch z);refine Reads.ix (n:=0) (.va rfl) (kt2 _ _ (kt _ _ hb)) (v:=.int a.1) rfl _ (k' _ _ (.mk (as:=a::as) (fun c u e n=>by rw[au n];exact kp _ _ e n) af ?_ (.cons hv (eb▸pt)) ?_ hr0 hs' ?_))
  .rw[K1];exact(aa.mono fun x v ⟨p,e,h⟩=>⟨p,e,kt2 _ _ h⟩).snoc ⟨b,rfl,kt2 _ _ (kt _ _ hb)⟩
  .rw[II,sg];have:=JE (l:=aV) (i:=aV.length-(i+1)) (by lia);rw[this,show aV.length-(i+1)+1=aV.length-i by lia];rw[Ir (by lia)]at es;rw[IU es]
  .rw[en]at sm;lia
 .obtain @⟨H',us,as,st,c,r1,x3,x4,kp,ha,aa,pt,sg,hr1,hs,sm⟩:=p;rw[Nat.sub_self,ok.z]at hr1;cases hr1;obtain rfl:st=room:=by simpa using hs
  have sm:(0:Int)+c=r.S e:=sm;rw[Int.zero_add]at sm;subst sm;rw[Nat.sub_self]at sg;exact⟨_,rfl,k ar us as H' (fun c u e=>kp _ _ (s12 _ _ e) (am e har)) har ha aa pt sg⟩
end
inductive iO (r:Pz.Rule) (mid:Option Int) (st:Int):List Pz.Arr->Prop
 |p0:r.2.2.2=[]->iO r mid st []
 |p1 {x:Int}:r.2.2.2=[x]->iO r mid st [(r.2.2.1,x,st)]
 |p2 {x y m:Int}:r.2.2.2=[x,y]->mid=some m->iO r mid st [(r.2.2.1,x,m),(m,y,st)]
section
variable {K:LM}{H H':Hp}{t:Pz.TD}{σ:L2.St}{vs:List V}{Q:VK}{E:XK}
inductive wd:Sp
 |mk {H:Hp} {r:Pz.Rule} {v:V} {mid:Option Int} {st:Int} {ps:List Pz.Arr} {Q:VK} {E:XK} (hr:IsRule H r v) (pp:iO r mid st ps) (k:∀ l us H',Same H H'->H l=none->H' l=some (.lst us)->aS (IsArr H') ps.reverse us->Q (.ref l) H'):wd [v,vO mid,.int st] H Q E
theorem vy (h:wd vs H Q E):vs.length=3:=by cases h;rfl
abbrev vz (K:LM)(n:Int):TE:=bn (ig K) (tI K 0 3) (tC (.int n))
def Dj (K:LM)(n:Int):TT:=bv (bn rC (g7 (gk K) (ai (tI K 0 3) aC)) (tC (.int n)))
def qe (a b c:TE):TE:=bN (ai a (ai b (ai c aC)))
def Hv (K:LM):TS:=aJ (cy (Dj K 0) (bU (ce aC)) bX) (aJ (cy (Dj K 1) (bU (ce (ai (qe (tI K 0 2) (vz K 0) (ao 2)) aC))) bX) (bU (ce (ai (qe (ao 1) (vz K 1) (ao 2)) (ai (qe (tI K 0 2) (vz K 0) (ao 1)) aC)))))
theorem yq (h:wd vs H Q E):Hv K (eQ Q) (bc (nS 3) vs) H:=by
 obtain @⟨H,r,v,mid,st,ps,Q,E,⟨p,q,rfl,hp,hq⟩,pp,k⟩:=h;have r3:∀{H'},Same H H'->Reads (tI K 0 3) [some (.ref p),some (vO mid),some (.int st)] H' (.ref q):=fun s=>.ix (n:=3) (.va rfl) (s _ _ hp) (v:=.ref q) rfl;have r2:∀{H'},Same H H'->Reads (tI K 0 2) [some (.ref p),some (vO mid),some (.int st)] H' (.int r.2.2.1):=fun s=>.ix (n:=2) (.va rfl) (s _ _ hp) (v:=.int r.2.2.1) rfl;have s0:Same H H:=fun _ _ e=>e;have len:∀ n,Reads (bn rC (g7 (gk K) (ai (tI K 0 3) aC)) (tC (.int n))) [some (.ref p),some (vO mid),some (.int st)] H (.bl (decide (((r.2.2.2.map V.int).length:Int)=n))):=fun n=>.Bz (.len (r3 s0) hq) .k;have len':∀ n,((r.2.2.2.map V.int).length:Int)=n↔(r.2.2.2.length:Int)=n:=fun n=>by rw[Iq]
 cases pp with
 |p0 e=>exact len 0 _ ⟨_,rfl,by rw[IJ ((len' 0).mpr (by rw[e];rfl))];exact di ⟨IL _,fun l hl=>k l [] _ (aw hl) hl af .nil⟩⟩
 | @p1 x e=>
  refine len 0 _ ⟨_,rfl,?_⟩;rw[IQ (fun z=>by rw[len',e]at z;cases z)];refine cg (len 1 _ ⟨_,rfl,?_⟩);rw[IJ ((len' 1).mpr (by rw[e];rfl))];rw[e]at hq;refine di ?_
  delta bU ce ai qe
  refine fU (σ:=[some (.ref p),some (vO mid),some (.int st)]) (ws:=[.int r.2.2.1,.int x,.int st]) (.c (r2 s0) (.c (.ix (n:=0) (r3 s0) hq (v:=.int x) rfl) (.c (.va rfl) .ni))) rfl fun a ha=>⟨by show 1<=_;rw[IY];lia,fun l hl=>?_⟩;have s1:=aw (o:=.tup [.int r.2.2.1,.int x,.int st]) ha;exact k l _ _ (s1.trans (aw hl)) (s1.free hl) af (.cons ⟨a,rfl,aw hl _ _ af⟩ .nil)
 | @p2 x y m e em=>
  refine len 0 _ ⟨_,rfl,?_⟩;rw[IQ (fun z=>by rw[len',e]at z;cases z)];refine cg (len 1 _ ⟨_,rfl,?_⟩);rw[IQ (fun z=>by rw[len',e]at z;cases z)];rw[e]at hq;subst em;refine cg (?_:bU (ce (ai (qe (ao 1) (vz K 1) (ao 2)) (ai (qe (tI K 0 2) (vz K 0) (ao 1)) aC))) (eQ Q) [some (.ref p),some (.int m),some (.int st)] H)
  delta bU ce ai qe
  refine fU (σ:=[some (.ref p),some (.int m),some (.int st)]) (ws:=[.int m,.int y,.int st]) (.c (.va (i:=1) rfl) (.c (.ix (n:=1) (r3 s0) hq (v:=.int y) rfl) (.c (.va (i:=2) rfl) .ni))) rfl fun a ha=>?_;have s1:=aw (o:=.tup [.int m,.int y,.int st]) ha;have h1:upd H a (.tup [.int m,.int y,.int st]) a=some (.tup [.int m,.int y,.int st]):=af;generalize upd H a (.tup [.int m,.int y,.int st])=H1 at s1 h1;refine fU (σ:=[some (.ref p),some (.int m),some (.int st)]) (ws:=[.int r.2.2.1,.int x,.int m]) (.c (r2 s1) (.c (.ix (n:=0) (r3 s1) (s1 _ _ hq) (v:=.int x) rfl) (.c (.va (i:=1) rfl) .ni))) rfl fun b hb=>⟨by show 2<=_;rw[IY];lia,fun l hl=>?_⟩;have s2:=aw (o:=.tup [.int r.2.2.1,.int x,.int m]) hb;exact k l _ _ ((s1.trans s2).trans (aw hl)) ((s1.trans s2).free hl) af (.cons ⟨a,rfl,aw hl _ _ (s2 _ _ h1)⟩ (.cons ⟨b,rfl,aw hl _ _ af⟩ .nil))
inductive gu (RL:List Pz.Rule) (t:Pz.TD):Nat->List Pz.Arr->List Int->Prop
 |nil:gu RL t 0 [] []
 |none {a:Pz.Arr} {v:Pz.jC} {as:List Pz.Arr} {ns:List Int} {n:Nat}:(a,v)∈t->v.2.1=none->gu RL t n as ns->gu RL t (n+1) (a::as) ns
 |rule {a:Pz.Arr} {v:Pz.jC} {as ps:List Pz.Arr} {ns:List Int} {n j:Nat} {r:Pz.Rule}:(a,v)∈t->v.2.1=some (j:Nat)->RL[j]?=some r->iO r v.2.2 a.2.2 ps->gu RL t n (ps++as) ns->gu RL t (n+1) (a::as) ((j:Nat)::ns)
theorem gu.len {RL:List Pz.Rule}{n:Nat}{as:List Pz.Arr}{ns:List Int}(h:gu RL t n as ns):as.length<=n/\ns.length<=n:=by
 induction h with
 |nil=>exact⟨Im _,Im _⟩
 |none _ _ _ ih=>simp only[IM];lia
 |rule _ _ _ _ _ ih=>rw[IF]at ih;simp only[IM];lia
theorem vA {kvs:List (List ba×V)}{a:Pz.Arr}{v:Pz.jC}(al:aS (IsTo H) t kvs)(nd:(t.map (·.1)).Nodup)(h:(a,v)∈t):∃ p,cf kvs (ak a)=some (.ref p)/\H p=some (.tup [.int v.1,vO v.2.1,vO v.2.2]):=by
 induction al with
 |nil=>cases h
 | @cons x kv xs ys hx _ ih=>
  rw[II,Jq]at nd;obtain⟨ek,p,ep,hp⟩:=hx;rcases ID.mp h with rfl|h
  .exact⟨p,by rw[c9 ek,ep],hp⟩
  .rw[cA fun z=>?_]
   .exact ih nd.2 h
   .rw[ek]at z;exact nd.1 (by rw[ja _ _ z];exact IT.mpr ⟨(a,v),h,rfl⟩)
inductive wl:Sp
 |mk {H:Hp} {p rl d ar:Addr} {a b:V} {ws us:List V} {RL:List Pz.Rule} {t:Pz.TD} {u:HO} {kvs:List (List ba×V)} {as:List Pz.Arr} {ns:List Int} {n:Nat} {Q:VK} {E:XK} (hp:H p=some (.tup [a,b,.ref rl])) (hl:Rd H rl (.lst ws)) (ir:aS (IsRule H) RL ws) (hd:H d=some u) (hu:u=.dT kvs\/(u=.dK []/\kvs=[])) (al:aS (IsTo H) t kvs) (nd:(t.map (·.1)).Nodup) (ha:H ar=some (.lst us)) (aa:aS (IsArr H) as.reverse us) (w:gu RL t n as ns) (hn:n<1000000)
  (k:∀ l H',Same H H'->H l=none->H' l=some (.lst (ns.map .int))->Q (.ref l) H'):wl [.ref p,.ref d,.ref ar] H Q E
theorem vB (h:wl vs H Q E):vs.length=3:=by cases h;rfl
def vC (K:LM)(n:Int):TE:=bn (ig K) (lL (ao 1) (ao 5)) (tC (.int n))
def Dk (K:LM):TS:=bY (qz K "list" qA (ao 3) (ai (bC wd [] E0 (ai (bn (jx K) (tI K 0 2) (ao 6)) (ai (vC K 2) (ai (tI K 5 2) aC)))) aC))
def AY (K:LM):TS:=cy (bv (bn (fun x y H Q=>y=.bu/\Q (.bl (!decide (x=.bu))) H) (ao 6) (tC .bu))) (aJ (bY (qz K "list" cn (ao 4) (ai (ao 6) aC))) (Dk K)) bX
def Dm (K:LM):TS:=aJ (aY (xm K "list" Ca (ao 3)) (aB 5)) (aJ (aY (vC K 1) (aB 6)) (AY K))
def Hw (K:LM):TS:=aJ (aY (g7 (kE K) (ai (ao 2) aC)) (aB 3)) (aJ (aY (ce aC) (aB 4)) (aJ (ma (C8 K (ao 3)) (Dm K)) (bU (ao 4))))
def oQ (p d ar dl nl:Addr)(x5 x6:Option V):L2.St:=[some (.ref p),some (.ref d),some (.ref ar),some (.ref dl),some (.ref nl),x5,x6]
inductive ED (p d ar dl nl:Addr) (H2:Hp) (RL:List Pz.Rule) (t:Pz.TD) (ns:List Int) (n:Nat):L2.St->Hp->Prop
 |mk {H':Hp} {us:List V} {as:List Pz.Arr} {dn rs:List Int} {x5 x6:Option V}:(∀ c u,H2 c=some u->c≠dl->c≠nl->H' c=some u)->H' dl=some (.lst us)->aS (IsArr H') as.reverse us->H' nl=some (.lst (dn.map .int))->ns=dn++rs->n<1000000->gu RL t n as rs->ED p d ar dl nl H2 RL t ns n (oQ p d ar dl nl x5 x6) H'
theorem vD {d b:Addr}{u:HO}{kvs:List (List ba×V)}{a:Pz.Arr}{v:Pz.jC}{x:V}{n:Int}(hd:H d=some u)(hu:u=.dT kvs\/(u=.dK []/\kvs=[]))(al:aS (IsTo H) t kvs)(nd:(t.map (·.1)).Nodup)(h:(a,v)∈t)(hb:H b=some (.tup (gj a)))(h1:σ[1]?=some (some (.ref d)))(h5:σ[5]?=some (some (.ref b)))(e:rH [.int v.1,vO v.2.1,vO v.2.2] n=some x):Reads (vC K n) σ H x:=by
 obtain⟨p,ep,hp⟩:=vA al nd h;obtain rfl:u=.dT kvs:=hu.resolve_right fun z=>by rw[z.2]at ep;cases ep
 exact .ix (b:=p) (fun Q q=>⟨_,h1,_,h5,d,_,rfl,by have:=DGet.t (k:=ak a) hd hb;rwa [ep]at this,q⟩) hp e
theorem yr (h:wl vs H Q E):Hw K (eQ Q) (bc (nS 7) vs) H:=by
 obtain @⟨H,p,rl,d,ar,a0,b0,ws,us,RL,t,u,kvs,as,ns,n,Q,E,hp,hl,ir,hd,hu,al,nd,ha,aa,w,hn,k⟩:=h;refine⟨_,rfl,ar,us,rfl,.inl (.inl (.inl ha)),fun dl hdl=>⟨IL _,fun nl hnl=>?_⟩⟩;have s1:=aw (o:=.lst us) hdl;have h1:upd H dl (.lst us) dl=some (.lst us):=af;generalize upd H dl (.lst us)=H1 at s1 h1 hnl;have s2:=aw (o:=.lst []) hnl;have h2:upd H1 nl (.lst []) nl=some (.lst []):=af;have hdl2:=s2 _ _ h1;generalize upd H1 nl (.lst [])=H2 at s2 h2 hdl2;have s12:=s1.trans s2;have ndn:dl≠nl:=fun z=>by rw[z]at h1;rw[h1]at hnl;cases hnl
 have n1:∀{c u},H c=some u->c≠dl/\c≠nl:=fun e=>⟨am e hdl,am (s1 _ _ e) hnl⟩;show ma (C8 K (ao 3)) (Dm K) { nx:=bU (ao 4) (eQ Q),rt:=Q } (oQ p d ar dl nl none none) H2;refine⟨ED p d ar dl nl H2 RL t ns,⟨n,.mk (dn:=[]) (fun _ _ e _ _=>e) hdl2 (aa.mono fun x v ⟨p,e,h⟩=>⟨p,e,s12 _ _ h⟩) h2 rfl hn w⟩,?_⟩;have lw0:=w.len;rintro m σ H' @⟨H',us,as,dn,rs,x5,x6,kp,hdl,aa,hnl',ens,hm,w⟩;have up:∀{c u},H c=some u->H' c=some u:=fun e=>kp _ _ (s12 _ _ e) (n1 e).1 (n1 e).2;refine⟨_,rfl,_,.inl ⟨_,SqL.of hdl,rfl⟩,?_⟩;have al':aS (IsTo H') t kvs:=al.mono fun x kv h=>h.keep fun _ _ e=>up e;have step:∀{a as'},as=a::as'->∃ b zs,us=zs++[.ref b]/\H' b=some (.tup (gj a))/\aS (IsArr H') as'.reverse zs:=fun e=>by rw[e,K1]at aa;obtain⟨zs,y,rfl,a1,b,rfl,hb⟩:=aa.BJ;exact⟨b,zs,rfl,hb,a1⟩
 have lw:=w.len;cases w with
 |nil=>cases aa;rw[KH]at ens;subst ens;exact cg ⟨_,rfl,k nl H' (fun c u e=>up e) (s1.free hnl) hnl'⟩
 | @none a v as' _ m' hv e0 w'=>
  obtain⟨b,zs,rfl,hb,a1⟩:=step rfl;rw[show(!(zs++[V.ref b]).isEmpty)=true by simp];refine di ⟨fun σ' H''=>ED p d ar dl nl H2 RL t ns m' σ' H'',fun σ' H'' z=>⟨m',JU _,z⟩,_,rfl,.inl ⟨rfl,_,SqL.of hdl⟩,dl,zs++[.ref b],.ref b,rfl,rfl,hdl,by simp,?_⟩;rw[List.dropLast_concat];have kt:KT H' (upd H' dl (.lst zs)):=.upd hdl fun _ z=>(nomatch z);have k3:∀ c u,H' c=some u->c≠dl->upd H' dl (.lst zs) c=some u:=fun c u e n=>by rw[au n];exact e
  have h3:upd H' dl (.lst zs) dl=some (.lst zs):=af;generalize upd H' dl (.lst zs)=H3 at kt k3 h3;show aJ (aY (vC K 1) (aB 6)) (AY K) _ (oQ p d ar dl nl (some (.ref b)) x6) H3;refine vD (σ:=oQ p d ar dl nl (some (.ref b)) x6) (k3 _ _ (up hd) (n1 hd).1) hu (al'.mono fun x kv h=>h.keep kt) nd hv (kt _ _ hb) rfl rfl (x:=.bu) (by rw[e0];rfl) _ ⟨_,rfl,rfl,_,rfl,cg (.mk (fun c u e n n'=>k3 _ _ (kp _ _ e n n') n) h3 (a1.mono fun x v ⟨p,e,h⟩=>⟨p,e,kt _ _ h⟩) (k3 _ _ hnl' (Jn ndn)) ens (by lia) w')⟩
 | @rule a v as' ps rs' m' j r hv e0 hr pp w'=>
  obtain⟨b,zs,rfl,hb,a1⟩:=step rfl;rw[show(!(zs++[V.ref b]).isEmpty)=true by simp];refine di ⟨fun σ' H''=>ED p d ar dl nl H2 RL t ns m' σ' H'',fun σ' H'' z=>⟨m',JU _,z⟩,_,rfl,.inl ⟨rfl,_,SqL.of hdl⟩,dl,zs++[.ref b],.ref b,rfl,rfl,hdl,by simp,?_⟩;rw[List.dropLast_concat];have kt:KT H' (upd H' dl (.lst zs)):=.upd hdl fun _ z=>(nomatch z);have k3:∀ c u,H' c=some u->c≠dl->upd H' dl (.lst zs) c=some u:=fun c u e n=>by rw[au n];exact e
  have h3:upd H' dl (.lst zs) dl=some (.lst zs):=af;generalize upd H' dl (.lst zs)=H3 at kt k3 h3;have a3:=a1.mono fun x v (⟨p,e,h⟩ : IsArr H' x v)=>(⟨p,e,kt _ _ h⟩ : IsArr H3 x v);have hn3:=k3 _ _ hnl' (Jn ndn);show aJ (aY (vC K 1) (aB 6)) (AY K) _ (oQ p d ar dl nl (some (.ref b)) x6) H3;have al3:=al'.mono fun x kv (h:IsTo H' x kv)=>h.keep kt;refine vD (σ:=oQ p d ar dl nl (some (.ref b)) x6) (k3 _ _ (up hd) (n1 hd).1) hu al3 nd hv (kt _ _ hb) rfl rfl (x:=.int j) (by rw[e0];rfl) _ ⟨_,rfl,rfl,_,rfl,di ⟨_,rfl,.inl ⟨rfl,_,SqL.of hn3⟩,_,rfl,nl,_,_,rfl,rfl,hn3,?_,?_⟩⟩
  .have:=JL List.length ens;rw[IF,IM]at this;exact qa (by rw[Iq];lia)
  have kt4:KT H3 (upd H3 nl (.lst (dn.map .int++[.int j]))):=.upd hn3 fun _ z=>(nomatch z);have k4:∀ c u,H3 c=some u->c≠nl->upd H3 nl (.lst (dn.map .int++[.int j])) c=some u:=fun c u e n=>by rw[au n];exact e
  have h4:upd H3 nl (.lst (dn.map .int++[.int j])) nl=some (.lst ((dn++[(j:Int)]).map .int)):=by rw[af,IW];rfl
  have hd4:=k4 _ _ h3 ndn;generalize upd H3 nl (.lst (dn.map .int++[.int j]))=H4 at kt4 k4 h4 hd4;have up4:∀{c u},H c=some u->H4 c=some u:=fun e=>k4 _ _ (k3 _ _ (up e) (n1 e).1) (n1 e).2;obtain⟨wv,ewv⟩ : ∃ wv,ws[j]?=some wv:=⟨_,Ir (by rw[<- ir.len];exact(Iv.mp hr).1)⟩;obtain⟨r',er',hr'⟩:=ir.get ewv;rw[hr]at er';cases er';show Dk K _ (oQ p d ar dl nl (some (.ref b)) (some (.int j))) H4;have hl4:Rd H4 rl (.lst ws):=hl.imp (fun e=>up4 e) fun⟨o,e⟩=>⟨o,up4 e⟩;have kt04:KT H H4:=fun c w e=>up4 e;refine⟨_,rfl,.inl ⟨rfl,_,SqL.of hd4⟩,Reads.EC (j:=j) (.ix (n:=2) (.va (i:=0) rfl) (up4 hp) (v:=.ref rl) rfl) (.va (i:=6) rfl) hl4 ewv rfl _ (vD (σ:=oQ p d ar dl nl (some (.ref b)) (some (.int j))) (up4 hd) hu (al3.mono fun x kv h=>h.keep kt4) nd hv (kt4 _ _ (kt _ _ hb)) rfl rfl (n:=2) (x:=vO v.2.2) rfl _ (Reads.ix (n:=2) (.va (i:=5) rfl) (kt4 _ _ (kt _ _ hb)) (v:=.int a.2.2) rfl _ (.mk (IsRule.keep kt04 _ _ hr') pp fun l ls H5 s5 nl5 hl5 a5=>?_)))⟩;have hd5:=s5 _ _ hd4;have l1:=a1.len;have l5:=a5.len;have w2:=w'.len;rw[IF]at w2;rw[J1]at l1 l5;refine⟨dl,l,zs,ls,rfl,rfl,hd5,hl5,by rw[IY];lia,?_⟩;have kt6:KT H5 (upd H5 dl (.lst (zs++ls))):=.upd hd5 fun _ z=>(nomatch z);refine .mk (as:=ps++as') (dn:=dn++[(j:Int)]) (fun c u e n n'=>by rw[au n];exact s5 _ _ (k4 _ _ (k3 _ _ (kp _ _ e n n') n) n')) af ?_ (by rw[au (Jn ndn)];exact s5 _ _ h4) (by rw[ens,Kk];rfl) (by lia) w';rw[List.reverse_append];exact(a3.mono fun x v ⟨p,e,h⟩=>⟨p,e,kt6 _ _ (s5 _ _ (kt4 _ _ h))⟩).app (a5.mono fun x v ⟨p,e,h⟩=>⟨p,e,kt6 _ _ h⟩)
end
end L4
namespace L2
open PySem PySem.Spec PyProof.Rows
section
variable {X:Cx}{hc:Str}{Ch:Addr}{np hpos pos:Pos}{b₀:Stmt}{suite:List Stmt}{ts:TS}
theorem Inv.xe {ae:List (Addr×Obj)}{σ:St}{H:Hp}{s:LL}(I:Inv X ae σ H s)(xe:LO->LL->Prop):Inv { X with xe:=xe } ae σ H s:=⟨⟨I.ok.mod,I.ok.kind,I.ok.glob,I.ok.blt,I.ok.above,I.ok.inj,I.ok.has,I.ok.yK,I.ok.hd,I.ok.frames,I.ok.aV,I.ok.B0,I.ok.bs,I.ok.tL,I.ok.nw,I.ok.oZ,I.ok.gJ,I.ok.wu,I.ok.kt⟩,I.os,I.bare,I.base,I.loc,I.cell,I.free,I.dc,I.pin,I.aO,I.len⟩
theorem Inv.Ge {xe:LO->LL->Prop}{ae:List (Addr×Obj)}{σ:St}{H:Hp}{s:LL}(I:Inv { X with xe:=xe } ae σ H s):Inv X ae σ H s:=⟨⟨I.ok.mod,I.ok.kind,I.ok.glob,I.ok.blt,I.ok.above,I.ok.inj,I.ok.has,I.ok.yK,I.ok.hd,I.ok.frames,I.ok.aV,I.ok.B0,I.ok.bs,I.ok.tL,I.ok.nw,I.ok.oZ,I.ok.gJ,I.ok.wu,I.ok.kt⟩,I.os,I.bare,I.base,I.loc,I.cell,I.free,I.dc,I.pin,I.aO,I.len⟩
theorem vE {i:Nat}{y:Str}{c e1 e2:Expr}{p1 p2 q1 q2 ip:Pos}{tc:TT}{te1 te2:TX}(hN:X.N.Nodup)(hi:X.N[i]?=some y)(hy:B3 X.env.scope y)(hst:X.stack=X.env::X.outer)(hf:X.env.frame=some X.env.locals)(hx:XC X.K X.mg hc Ch)(hg:Gl X hc)(hcn:PT { X with xe:=fun _ _=>False } c tc)(he1:ES X e1 te1)(he2:ES X e2 te2)(hs:∀ x,PSs (X.caught x) (b₀::suite) ts)
 (hsw1:autoParam (swapsWith e1 (some (.Name y p1)) q1.line X.env=pure false) LW._auto_1) (hsw2:autoParam (swapsWith e2 (some (.Name y p2)) q2.line X.env=pure false) LW._auto_1) (hdb:autoParam (dB hc) LQ._auto_1) (hfn:autoParam (X.fn y=true\/X.env.scope.names.lookup y=some .local) LR._auto_1) :
 PS X (.Try [.If c [.Assign [.Name y p1] e1 q1] [.Assign [.Name y p2] e2 q2] ip] [.ExceptHandler (some (.Name hc np)) none (b₀::suite) hpos] [] [] pos) (fun D σ H=>tc σ H fun b H1=>if b=true then te1 σ H1 (fun v H2=>D.nx (σ.set i (some v)) H2) (f_ X Ch ts D σ) else te2 σ H1 (fun v H2=>D.nx (σ.set i (some v)) H2) (f_ X Ch ts D σ)):=by
 intro ae s σ H D I h;refine wpAny_Try_except ?_;refine KB (wpAny_If (JC (hcn ae s σ H (fun b H1=>if b=true then te1 σ H1 (fun v H2=>D.nx (σ.set i (some v)) H2) (f_ X Ch ts D σ) else te2 σ H1 (fun v H2=>D.nx (σ.set i (some v)) H2) (f_ X Ch ts D σ)) (I.xe _) h) (fun b s1 hh=>?_) fun _ _ z=>False.elim z));obtain⟨H1,I1,k1⟩:=hh;have I1:=I1.Ge;cases b with
 |true=>
  refine KB (wpAny_Assign_Name (JC (he1 ae s1 σ H1 _ _ I1 k1) (fun v s2 ⟨z,H2,I2,r2,q2⟩=>?_) fun ev s' z=>?_) hsw1)
  .exact h_ I2 hN hi hy r2 (fun s3 I3=>JJ (JJ (JJ ⟨_,H2,I3,q2⟩))) hfn
  .exact j8 hst hf hx hg hs z hdb
 |false=>
  refine KB (wpAny_Assign_Name (JC (he2 ae s1 σ H1 _ _ I1 k1) (fun v s2 ⟨z,H2,I2,r2,q2⟩=>?_) fun ev s' z=>?_) hsw2)
  .exact h_ I2 hN hi hy r2 (fun s3 I3=>JJ (JJ (JJ ⟨_,H2,I3,q2⟩))) hfn
  .exact j8 hst hf hx hg hs z hdb
end
end L2
namespace L4
open PySem PySem.Spec PyProof.Rows L2 L3
section
variable {K:LM}{mg:Str->Option LO}{Fr:fG}{CN CT:Addr}{H H':Hp}{p mp sp:Addr}{t:Pz.TD}{room most:Int}{aV ends U:List Int}{σ:L2.St}{vs:List V}{Q:VK}{E:XK}
def RlAt (H:Hp)(p:Addr)(RL:List Pz.Rule):Prop:=∃ a b rl ws,H p=some (.tup [a,b,.ref rl])/\Rd H rl (.lst ws)/\aS (IsRule H) RL ws
theorem RlAt.more {RL:List Pz.Rule}(h:RlAt H p RL)(s:Same H H'):RlAt H' p RL:=let ⟨a,b,rl,ws,h1,h2,h3⟩:=h;⟨a,b,rl,ws,s _ _ h1,aX s h2,h3.mono (IsRule.keep (.of s))⟩
inductive tE (Fr:fG) (CN CT:Addr):Sp
 |mk {H:Hp} {p mp sp:Addr} {t:Pz.TD} {room most:Int} {aV ends U:List Int} {RL:List Pz.Rule} {Q:VK} {E:XK} (i:nB Fr H p mp sp t room aV ends U) (hr:RlAt H p RL) (nd:(t.map (·.1)).Nodup) (al:∀ as e c,iT t room as e c->as.map (·.2.1)=aV->c<=most->∃ n ns,gu RL t n as ns/\n<1000000)
  (k:∀ L r v e as n ns l H',Same H H'->jF t room aV ends L r (some (v,e))->v<=most->iT t room as e v->as.map (·.2.1)=aV->gu RL t n as ns->H l=none->H' l=some (.lst (ns.map .int))->Q (.ref l) H')
  (xn:∀ L r,jF t room aV ends L r none->∀ H',Same H H'->E (.ref CN) none H') (xt:∀ L r v e,jF t room aV ends L r (some (v,e))->most<v->∀ H',Same H H'->E (.ref CT) none H'):tE Fr CN CT [.ref p,.ref mp,.ref sp,.int most] H Q E
theorem vF (h:tE Fr CN CT vs H Q E):vs.length=4:=by cases h;rfl
def FH:TS:=bU (bC wl [] E0 (ai (ao 0) (ai (ao 4) (ai (bC ww [] E0 (ai (ao 5) (ai (tI K 6 1) aC))) aC))))
def FI (K:LM)(CT:Addr)(E:XK)(m2:Str):TS:=aJ (cy (bv (bn BW (tI K 6 0) (ao 3))) (pG (ai (tC (.str m2)) aC) (fun H=>E (.ref CT) none H)) bX) (FH (K:=K))
def FJ (K:LM)(CN CT:Addr)(E:XK)(m1 m2:Str):TS:=aJ (cy (bv (bn mS (ao 6) (tC .bu))) (pG (ai (tC (.str m1)) aC) (fun H=>E (.ref CN) none H)) bX) (FI K CT E m2)
def Hx (K:LM)(mg:Str->Option LO)(Fr:fG)(CN CT:Addr)(E:XK)(m1 m2:Str):TS:=aJ (aY (bC (tO mg 2 Fr) [] E0 (ai (ao 0) (ai (ao 1) aC))) (aB 4)) (aJ (aY (bC tH [] E0 (ai (ao 4) (ai (ao 2) aC))) (aB 5)) (aJ (aY (bC qj [] E0 (ai (ao 1) (ai (bn (jx K) (ao 5) Ex) aC))) (aB 6)) (FJ K CN CT E m1 m2)))
theorem yt {m1 m2:Str}(h:tE Fr CN CT vs H Q E):Hx K mg Fr CN CT E m1 m2 (eQ Q) (bc (nS 7) vs) H:=by
 obtain @⟨H,p,mp,sp,t,room,most,aV,ends,U,RL,Q,E,i,hr,nd,wk,k,xn,xt⟩:=h;refine vt (σ:=[some (.ref p),some (.ref mp),some (.ref sp),some (.int most),none,none,none]) i (.c (.va rfl) (.c (.va rfl) .ni)) fun d kvs u H1 s1 _ hd hu al=>?_;have i1:=i.more s1;obtain⟨sl,hp,hl⟩:=i1.s;refine⟨_,rfl,_,rfl,.mk hd hu al i.z hp hl i.zs i.u i.zu fun rl L ws H2 s2 nr hrl al2 n ok=>⟨_,rfl,_,rfl,1,rfl,vv (i1.more s2) hrl al2 n ok fun r o v H3 s3 lt io=>?_⟩⟩;have s13:=(s1.trans s2).trans s3;have l1:∀{m:Str},[V.str m].length<=sizeLine:=fun{m}=>by show 1<=_;rw[IY];lia
 cases o with
 |none=>cases (show v=.bu from io);exact⟨_,rfl,rfl,_,rfl,di ⟨l1,xn L r lt H3 s13⟩⟩
 |some x=>
  obtain⟨q,rfl,hq⟩:=io;obtain⟨lv,e⟩:=x;refine⟨_,rfl,rfl,_,rfl,cg (iC (Reads.op (.ix (n:=0) (.va (i:=6) rfl) hq (v:=.int lv) rfl) (.va (i:=3) rfl) fun _ q=>⟨_,_,rfl,rfl,q⟩) (fun c=>⟨l1,xt L r lv e lt (by have:=Ja c;lia) H3 s13⟩) fun c=>?_)⟩;have c:lv<=most:=by have:¬ most<lv:=fun z=>c (IJ (by lia));lia
  obtain⟨n',ok',hl',le1,le2,le3,le4⟩:=id lt;have al3:=al2.mono fun r v (h:RsmAt H2 r v)=>h.more s3;refine⟨_,rfl,_,rfl,_,rfl,Reads.ix (n:=1) (.va (i:=6) rfl) hq (v:=.int e) rfl _ (.mk (s3 _ _ hrl) al3 n ok hl' le2 i.zs fun ar us as H4 s4 _ ha aa pt sg=>?_)⟩;rw[<- le3]at pt;obtain⟨nn,ns,ag,hn⟩:=wk as e lv pt sg c;have s34:=s3.trans s4;obtain⟨a0,b0,r0,ws0,h1,h2,h3⟩:=hr.more (s13.trans s4);exact .mk h1 h2 h3 ((s2.trans s34) _ _ hd) hu (al.mono fun x kv h=>h.keep (.of (s2.trans s34))) nd ha aa ag hn fun l H5 s5 nl hl5=>k L r lv e as nn ns l H5 ((s13.trans s4).trans s5) lt c pt sg ag ((s13.trans s4).free nl) hl5
end
end L4
namespace L2
open PySem PySem.Spec PySem.Calls PyProof.Rows
section
variable {prog:LN}{w:World}{A:LP}{E:LO->LL->Prop}{s:LL}{a b:Addr}{xa xb:zn}
theorem vG {Q:LO->LL->Prop}(hu:A.units+2<cLine)(ha:(a==sysModules)=false)(hb:(b==sysModules)=false)(da:s.heap.DictOfH (tupleKind (aI prog w)) a xa)(db:s.heap.DictOfH (tupleKind (aI prog w)) b xb)
 (na:∀ x∈xa,∃ n t,x.2.2=.int n t) (nb:∀ x∈xb,∃ n t,x.2.2=.int n t) (h:Q (.bool (!CZ xa xb)) s):wpAny (model prog w) A (compareOp .NotEq (.ref a) (.ref b)) Q E s:=by
 refine wpAny_richCompare_same_room (op:=.NotEq) da.typeIs db.typeIs PySem.F.slot_dict_ne (J4 PySem.F.slot_dict_ne da.typeIs PySem.F.entry_dict_ne ?_ (PySem.F.args_dict_ne_2 _ _)) (by lia);show wpAny _ _ (Builtin.Dict.dictSlotArgs "__ne__" ⟨[.ref a,.ref b],[]⟩ >>= _) _ _ s;unfold Builtin.Dict.dictSlotArgs;refine Il (Il (J_ da.typeIs ?_));show wpAny _ _ (pure (Value.ref a,Value.ref b)) _ _ s;refine Iu (Il (wpAny_isInstance (T:="dict") db.typeIs PySem.F.sub_dict_dict ?_));simp only[Bool.not_true,KN,LK];refine Il (Iu (Il (Iu (Il (oK (JS (by lia)) ha hb da db na nb (Iu ⟨_,rfl,fun x=>(nomatch x),?_⟩))))));simpa using h
def Dn:R2:=fun x y H Q=>∃ a b ka kb,x=.ref a/\y=.ref b/\u7 H a ka/\u7 H b kb/\sR ka/\sR kb/\Q (.bl (!p_ ka kb)) H
theorem AZ {X:Cx}(hu:X.A.units+64<cLine):iV X (compareOp .NotEq) Dn:=by
 intro ae s σ H x y v u Q I rx ry h;obtain⟨a,b,ka,kb,rfl,rfl,ta,tb,ia,ib,q⟩:=h;cases rx;cases ry;have rd:∀{a:Addr}{kvs:List (List ba×V)},u7 H a kvs->(a==sysModules)=false/\∃ xs,KT H kvs xs/\s.heap.DictOfH (tupleKind (aI X.prog X.w)) a xs:=fun{a kvs} t=>by
  rcases t with t|⟨rfl,t⟩
  .exact(ij I.aO t).2
  .obtain⟨y,dd⟩:=uv (t.ok I.aO);exact⟨y,[],.nil,dd⟩
 obtain⟨ha,xa,ra,da⟩:=rd ta;obtain⟨hb,xb,rb,db⟩:=rd tb;exact vG (by lia) ha hb da db (oM ra ia) (oM rb ib) ⟨.bl _,H,I,by rw[u9 ra rb ia ib];rfl,q⟩
end
end L2
namespace L4
open PySem PySem.Spec PyProof.Rows L2 L3
section
variable {X:Cx}{K:LM}{mg:Str->Option LO}{Fr:fG}{H H':Hp}{D:Ends}{vs:List V}{Q:VK}{E:XK}
def wB (t:Pz.TD):List (List ba×V):=t.map fun x=>(ak x.1,.int x.2.1)
inductive wf (Fr:fG):Sp
 |mk {H:Hp} {p:Addr} {hD:L3.D} {ro:Int} {ws:List V} {t:Pz.TD} {Q:VK} {E:XK} (is:Is H Tr hD (.ref p)) (hp:H p=some (.tup (.int ro::ws))) (hF:Fr [hD,Gx ro]=.ok (.o0 (d7 t))) (nd:(t.map (·.1)).Nodup) (hz:t.length<1000) (k:∀ d H',Same H H'->H d=none->H' d=some (.dT (wB t))->Q (.ref d) H'):wf Fr [.ref p] H Q E
theorem vH (h:wf Fr vs H Q E):vs.length=1:=by cases h;rfl
theorem yu {scope:Scope}{tg elt:Expr}{tN:List Str}(h1:tN.length=2)(hg:∀ cl C s3 H3 fp,PG (b_ X scope (tN++[]) cl C s3 H3 fp) tg (dg X.K 2 (aU (aB 0) (aU (aB 1) de))))(he:∀ cl C s3 H3 fp,PE (b_ X scope (tN++[]) cl C s3 H3 fp) elt (Ft X.K))(h:wf Fr vs H Q E):He X mg Fr scope tg elt tN (eQ Q) (bc (nS 2) vs) H:=by
 obtain @⟨H,p,hD,ro,ws,t,Q,E,is,hp,hF,nd,hz,k⟩:=h;refine⟨_,rfl,Reads.ix (n:=0) (.va (i:=0) rfl) hp (v:=.int ro) (ie (j:=0) rfl) _ ⟨IL _,fun l1 hl1=>⟨IL _,fun l2 hl2=>⟨by show 3<=_;rw[IY];lia,fun q hq=>?_⟩⟩⟩⟩;have t1:=aw (o:=.lst []) hl1;have t2:=aw (o:=.lst []) hl2;have t3:=aw (o:=.tup [.int ro,.ref l1,.ref l2]) hq;have a1:=t3 _ _ (t2 _ _ (af:upd H l1 (.lst []) l1=_));have a2:=t3 _ _ (af:upd (upd H l1 (.lst [])) l2 (.lst []) l2=_);have a3:upd (upd (upd H l1 (.lst [])) l2 (.lst [])) q (.tup [.int ro,.ref l1,.ref l2]) q=some (.tup [.int ro,.ref l1,.ref l2]):=af;have t13:=(t1.trans t2).trans t3;generalize upd (upd (upd H l1 (.lst [])) l2 (.lst [])) q (.tup [.int ro,.ref l1,.ref l2])=H3 at t13 a1 a2 a3;refine⟨rfl,[hD,Gx ro],Tr,⟨_,_,rfl,C7 is t13,_,_,rfl,⟨q,_,rfl,a3,_,_,rfl,rfl,_,_,rfl,⟨l1,[],rfl,.inl ⟨a1,True.intro⟩,rfl⟩,_,_,rfl,⟨l2,[],rfl,.inl ⟨a2,True.intro⟩,rfl⟩,rfl⟩,rfl⟩,?_⟩;rw[hF];intro v H4 s4 r4;have s4:Same H3 H4:=s4;obtain⟨d,kvs,u,rfl,n4,e4,hu,al⟩:=oO r4;have kO:j_ u:=by rcases hu with rfl|⟨rfl,_⟩<;>exact True.intro
 have ln:=al.len;refine⟨_,rfl,d,kvs,u,rfl,hu,.inr ⟨e4,fun o ho=>?_⟩⟩;have hf:upd H4 d (.bO o u) d=some (.bO o u):=af;have kp:Kp d H4 (upd H4 d (.bO o u)):=fun c w e n=>by rw[au n];exact e
 have kt:KT H4 (upd H4 d (.bO o u)):=.upd e4 fun ws z=>by subst z;exact kO
 generalize upd H4 d (.bO o u)=H5 at hf kp kt;have nd3:H d=none:=t13.free n4;refine m8 (n:=kvs.length) hg (fun _ _ _ _ _=>iA) he (fun Dl i acc H'=>Same H5 H'/\H' Dl=some (.lst acc)/\jJ H' acc (wB (t.take i))/\acc.length=i/\H5 Dl=none) (fun Dl hD=>⟨aw hD,af,.nil,rfl,hD⟩) (fun h=>h.2.1) (fun Dl i acc H' ⟨sm,_⟩ hi=>⟨sm _ _ hf,hi⟩) (fun Dl acc H' ⟨sm,_⟩=>⟨sm _ _ hf,Im _⟩) (fun Dl i acc H' xv H'' ol hi ⟨sm,hD,pi,al',nD⟩ y hol=>?_) fun Dl acc H' hD ⟨sm,hD',pi,_⟩=>?_
 .obtain⟨p5,b,kk,w,hp5,rfl,hb,rfl,e⟩:=y;obtain⟨⟨ar,pr,nu,mi⟩,ex,ek,pw,rfl,hpw⟩:=al.get e;cases ek;rw[h1]at hol;obtain⟨u0,u1,rfl⟩ : ∃ x y,ol=[x,y]:=by
   match ol,hol with
   | [x,y],_=>exact⟨x,y,rfl⟩
  have s2:Same H' (upd H' p5 (.tup [.ref b,.ref pw])):=aw hp5;have hpw:=s2 _ _ (sm _ _ (kt _ _ hpw));refine sA af ⟨fun j hj=>?_,di (fU (ws:=[.ref b,.int pr]) (.c (.va rfl) (.c (.ix (n:=0) (.va rfl) hpw (v:=.int pr) rfl) .ni)) rfl fun p6 hp6=>?_)⟩
  .rw[h1]at hj;obtain⟨j,rfl⟩:=JT hj;rfl
  .have hD2:=s2 _ _ hD;generalize upd H' p5 (.tup [.ref b,.ref pw])=H2 at s2 hp6 hD2;have np:Dl≠p6:=am hD2 hp6;have s3:Same H2 (upd H2 p6 (.tup [.ref b,.int pr])):=aw hp6;have k3:KT H2 (upd (upd H2 p6 (.tup [.ref b,.int pr])) Dl (.lst (acc++[.ref p6]))):=(KT.of s3).trans (.upd (s3 _ _ hD2) fun _ z=>(nomatch z));refine⟨s3 _ _ hD2,qa (by lia),fun c u e=>?_,af,?_,by rw[IF,al'];rfl,nD⟩
   .rw[au (am e nD)];exact s3 _ _ (s2 _ _ (sm _ _ e))
   .have k23:=(KT.of s2).trans k3;have et:t.take (i+1)=t.take i++[(ar,pr,nu,mi)]:=by rw[Jf,ex];rfl
    rw[et,wB,IW];exact Paired.snoc (Paired.imp' (fun a b ⟨p,ka,e,e1,e2⟩=>⟨p,ka,e,k23 _ _ e1,k23 _ _ e2⟩) pi) ⟨p6,b,rfl,by rw[au (Jn np),af],k3 _ _ (s2 _ _ hb)⟩
 .rw[<- ln,Jp]at pi;refine⟨Dl,acc,wB t,rfl,.inl hD',pi,fun d2 hd2=>?_⟩;rw[sU (wB t) [] (by rw[List.nil_append,wB,JK];have:=C_ nd;rw[JK]at this;exact this),List.nil_append];have sH:Same H H':=fun c w e=>sm _ _ (kp _ _ (s4 _ _ (t13 _ _ e)) fun z=>by rw[z,nd3]at e;cases e);exact k d2 _ (sH.trans (aw hd2)) (sH.free hd2) af
end
noncomputable def A1 (c:Int):Int:=(c % 2147483647+11)*48271*69621 % 2147483629
section
variable {X:Cx}{K:LM}{H:Hp}{D:Ends}{σ:L2.St}{vs:List V}{Q:VK}{E:XK}
inductive qi:Sp
 |mk {H:Hp} {c:Int} {Q:VK} {E:XK} (k:Q (.int (A1 c)) H):qi [.int c] H Q E
theorem vI (h:qi vs H Q E):vs.length=1:=by cases h;rfl
def Hy:TS:=bU (bn cE (bn vf (bn vf (bn ck (bn cE (ao 0) (tC (.int 2147483647))) (tC (.int 11))) (tC (.int 48271))) (tC (.int 69621))) (tC (.int 2147483629)))
theorem yv (h:qi vs H Q E):Hy (eQ Q) (bc (nS 1) vs) H:=by obtain @⟨H,c,Q,E,k⟩:=h;exact Reads.mod (.mul (.mul (.ad (.mod (.va rfl) .k (by decide)) .k) .k (by decide)) .k (by decide)) .k (by decide) _ k
def jw (sc:List Int)(k:Nat):Int:=A1 (sc[k]?.getD 0)
inductive lD:Sp
 |mk {H:Hp} {l:Addr} {sc:List Int} {k:Nat} {Q:VK} {E:XK} (hl:Rd H l (.lst (sc.map .int))) (q:Q (.int (jw sc k)) H):lD [.ref l,.int k] H Q E
theorem vJ (h:lD vs H Q E):vs.length=2:=by cases h;rfl
def Hz (K:LM):TS:=aJ (cy (bv (bn Es (ao 1) (g7 (gk K) (ai (ao 0) aC)))) (bU (bC qi [] E0 (ai (bn (jx K) (ao 0) (ao 1)) aC))) bX) (bU (bC qi [] E0 (ai (tC (.int 0)) aC)))
theorem yw (h:lD vs H Q E):Hz K (eQ Q) (bc (nS 2) vs) H:=by
 obtain @⟨H,l,sc,k,Q,E,hl,q⟩:=h;unfold jw at q;refine iC (Reads.op (.va rfl) (.yP (.va rfl) hl) fun _ q=>⟨_,_,rfl,rfl,q⟩) (fun c=>?_) fun c=>?_
 .have c:=Ja c;rw[Iq]at c;have lt:k<sc.length:=by lia
  rw[Ir lt]at q;exact Reads.EC (j:=k) (v:=.int sc[k]) (.va rfl) (.va rfl) hl (by rw[IE,Ir lt];rfl) rfl _ (.mk q)
 .have c:¬ (k:Int)<(sc.map V.int).length:=fun z=>c (IJ z);rw[Iq]at c;rw[List.getElem?_eq_none (by lia)]at q;exact .mk q
def A3:R2:=fun x y H Q=>∃ a b xs,x=.ref a/\y=.ref b/\Rd H a (.lst xs)/\H b=some (.lst [])/\Q (.bl (decide (xs=[]))) H
theorem m_ {P:LN}{w:World}{s:LL}(ok:HOk P w H s.heap){a:Addr}{xs:List V}(h:Rd H a (.lst xs)):∃ its:List LO,Vals xs its/\s.heap.IsList a its.toArray:=pN (m:=Tr) ok (h.imp (fun e=>⟨e,True.intro⟩) fun⟨o,e⟩=>⟨o,e,True.intro⟩)
theorem vK (hu:X.A.units+64<cLine):iV X (compareOp .Eq) A3:=by
 intro ae s σ H x y v u Q I rx ry h;obtain⟨a,b,xs,rfl,rfl,ha,hb,q⟩:=h;cases rx;cases ry;obtain⟨us,y,p⟩:=m_ I.aO ha;obtain⟨us',y',p'⟩:=m_ I.aO (.inl hb);cases y'.zero;have ln:=y.length;by_cases e:xs=[]
 .subst e;cases y.zero;have z:=SeqAt.RcAt.lists (A:=X.A) (e:=fun _=>true) p p' rfl (by lia) fun j h1 _=>absurd h1 (by simp);exact z X.prog X.w X.xe _ ⟨.bl _,H,I,rfl,q⟩
 .rw[IQ e]at q;exact SeqAt.RcAt.lists_lengths (A:=X.A) p p' (by cases us with|nil=>(rw[Jr.mp ln]at e;exact(e rfl).elim)|cons _ _=>rfl) (by lia) X.prog X.w X.xe _ ⟨.bl _,H,I,rfl,q⟩
def Do:R2:=fun x y H Q=>∃ a b xs,x=.ref a/\y=.ref b/\Rd H a (.lst xs)/\H b=some (.lst [])/\Q (.bl (!decide (xs=[]))) H
theorem A4 (hu:X.A.units+64<cLine):iV X (compareOp .NotEq) Do:=by
 intro ae s σ H x y v u Q I rx ry h;obtain⟨a,b,xs,rfl,rfl,ha,hb,q⟩:=h;cases rx;cases ry;obtain⟨us,y,p⟩:=m_ I.aO ha;obtain⟨us',y',p'⟩:=m_ I.aO (.inl hb);cases y'.zero;have ln:=y.length;by_cases e:xs=[]
 .subst e;cases y.zero;have z:=SeqAt.RcNeAt.lists (A:=X.A) (e:=fun _=>true) p p' rfl (by lia) fun j h1 _=>absurd h1 (by simp);exact z X.prog X.w X.xe _ ⟨.bl _,H,I,rfl,q⟩
 .rw[IQ e]at q;exact SeqAt.RcNeAt.lists_lengths (A:=X.A) p p' (by cases us with|nil=>(rw[Jr.mp ln]at e;exact(e rfl).elim)|cons _ _=>rfl) (by lia) X.prog X.w X.xe _ ⟨.bl _,H,I,rfl,q⟩
def Dq:R2:=fun x y H Q=>∃ l m m',Is H m (.tup l) x/\Is H m' (.tup l) y/\L3.D.lC l<=49/\Q (.bl true) H
theorem A5 (hu:X.A.units+64<cLine):iV X (compareOp .Eq) Dq:=by intro ae s σ H x y v u Q I rx ry h;obtain⟨l,m,m',⟨a,vs,rfl,g,q⟩,⟨a',vs',rfl,g',q'⟩,hd,k⟩:=h;cases rx;cases ry;obtain⟨us,y,p⟩:=i7 I.aO g;obtain⟨us',y',p'⟩:=i7 I.aO g';obtain⟨e,z⟩:=iE (fun d hm v w' u u' i1 i2 r1 r2=>by obtain⟨j,hj⟩:=Jb.mp hm;exact qV I.aO 49 X.A.in1 (by show X.A.units+1+49<cLine;lia) (IV (jK hj) hd) (by lia) i1 i2 r1 r2) q q' y y';have z:=SeqAt.RcAt.tuples p p' (by lia) z;rw[IB,IB,e,J5,qU]at z;exact z X.prog X.w X.xe _ ⟨.bl _,H,I,rfl,k⟩
end
structure Dp (room last:Int) (RL:List Pz.Rule):Prop where
 l:0<=last
 a:∀ r∈RL,r.1=room/\r.2.2.1=room/\0<=r.2.1/\r.2.1<=last/\r.2.2.2.length<=2/\∀ x∈r.2.2.2,r.2.1<x/\x<=last
 e:∀ r∈RL,r.2.2.2=[]->r.2.1=last
 s:∀ g,0<=g->g<=last->∃ r∈RL,r.2.1=g
 o:RL.Pairwise fun r r'=>r.2.1<=r'.2.1
structure zF (S:List Int):Prop where
 o:S.Pairwise (·<= ·)
 n:∀ x∈S,0<=x
 s:∀ x∈S,∀ g,0<=g->g<=x->g∈S
theorem zF.add {S:List Int}{x:Int}(h:zF (S++[x]))(y:Int)(hy:y=x\/y=x+1):zF (S++[x]++[y]):=by
 have nx:=h.n x (by simp);refine⟨Kg.mpr ⟨h.o,by simp,fun a ha b hb=>?_⟩,fun z hz=>?_,fun z hz g g1 g2=>?_⟩
 .rw[IA.mp hb];have:a<=x:=by
   rcases IR.mp ha with ha|ha
   .exact(Kg.mp h.o).2.2 a ha x (by simp)
   .rw[IA.mp ha];exact J0 _
  lia
 .rcases IR.mp hz with hz|hz
  .exact h.n z hz
  .rw[IA.mp hz];lia
 .rcases IR.mp hz with hz|hz
  .exact JD _ (h.s z hz g g1 g2)
  .rw[IA.mp hz]at g2;by_cases e:g<=x
   .exact JD _ (h.s x (by simp) g g1 e)
   .rw[show g=y by lia];simp
theorem Ds {room last:Int}{S:List Int}{RL:List Pz.Rule}(h:zF S)(hl:(S=[]/\last=0)\/∃ S' x,S=S'++[x]/\last=x+1)(al:aS (fun s r=>r.1=room/\r.2.1=s/\r.2.2.1=room/\r.2.2.2≠[]/\r.2.2.2.length<=2/\∀ x∈r.2.2.2,s<x/\x<=last) S RL):Dp room last (RL++[(room,last,room,[])]):=by
 have le:∀ s∈S,s<last/\0<=s:=fun s hs=>by
  rcases hl with⟨rfl,_⟩|⟨S',x,rfl,rfl⟩
  .cases hs
  .refine⟨?_,h.n s hs⟩;rcases IR.mp hs with hs|hs
   .have:=(Kg.mp h.o).2.2 s hs x (by simp);lia
   .rw[IA.mp hs];lia
 have l0:0<=last:=by
  rcases hl with⟨_,rfl⟩|⟨S',x,rfl,rfl⟩
  .exact J0 _
  .have:=h.n x (by simp);lia
 have get:∀ r∈RL,∃ s∈S,r.1=room/\r.2.1=s/\r.2.2.1=room/\r.2.2.2≠[]/\r.2.2.2.length<=2/\∀ x∈r.2.2.2,s<x/\x<=last:=fun r hr=>by obtain⟨i,hi⟩:=Jb.mp hr;obtain⟨s,es,q⟩:=al.get hi;exact⟨s,IH es,q⟩
 refine⟨l0,fun r hr=>?_,fun r hr e=>?_,fun g g1 g2=>?_,?_⟩
 .rcases IR.mp hr with hr|hr
  .obtain⟨s,hs,h1,h2,h3,h4,h5,h6⟩:=get r hr;have:=le s hs;exact⟨h1,h3,by lia,by lia,h5,fun x hx=>by rw[h2];exact h6 x hx⟩
  .rw[IA.mp hr];exact⟨rfl,rfl,l0,J0 _,IL _,fun x hx=>(nomatch hx)⟩
 .rcases IR.mp hr with hr|hr
  .obtain⟨s,hs,h1,h2,h3,h4,h5,h6⟩:=get r hr;exact(h4 e).elim
  .rw[IA.mp hr]
 .by_cases e:g=last
  .exact⟨_,I_ _ Iy,e.symm⟩
  .have gm:g∈S:=by
    rcases hl with⟨rfl,rfl⟩|⟨S',x,rfl,rfl⟩
    .lia
    .exact h.s x (by simp) g g1 (by lia)
   obtain⟨i,hi⟩:=Jb.mp gm;have li:=(Iv.mp hi).1;have hr:RL[i]?=some (RL[i]'(by rw[<- al.len];exact li)):=Ir _;obtain⟨s,es,h1,h2,_⟩:=al.get hr;rw[hi]at es;cases es;exact⟨_,JD _ (IH hr),h2⟩
 .refine Kg.mpr ⟨?_,by simp,fun a ha b hb=>?_⟩
  .have ho:=h.o;clear hl get le l0 h;induction al with
   |nil=>exact .nil
   | @cons x r xs rs hx al ih=>rw[List.pairwise_cons]at ho ⊢;refine⟨fun r' hr'=>?_,ih ho.2⟩;obtain⟨i,hi⟩:=Jb.mp hr';obtain⟨s,es,q⟩:=al.get hi;rw[hx.2.1,q.2.1];exact ho.1 s (IH es)
  .rw[IA.mp hb];obtain⟨s,hs,h1,h2,_⟩:=get a ha;have:=le s hs;show a.2.1<=last;lia
section
variable {K:LM}{H H':Hp}{D:Ends}{σ:L2.St}{vs:List V}{Q:VK}{E:XK}
inductive wy:Sp
 |mk {H:Hp} {cl:Addr} {cs:List Int} {room:Int} {Q:VK} {E:XK} (hc:Rd H cl (.lst (cs.map .int))) (hz:cs.length<=60) (k:∀ l ws RL last H',Same H H'->H l=none->H' l=some (.lst ws)->aS (IsRule H') RL ws->Dp room last RL->RL.length<=61->Q (.ref l) H'):wy [.ref cl,.int room] H Q E
theorem vL (h:wy vs H Q E):vs.length=2:=by cases h;rfl
def oR:List V->Hp->VK->Prop:=fun xs H Q=>∃ i j,xs=[.int i,.int j]/\Q (.int (if j<i then j else i)) H
def vM (K:LM):TE:=bn (jx K) (ao 2) Ex
def yx (K:LM) (te:TE):TS:=bY (qz K "list" cn (ao 2) (ai te aC))
def Dt (K:LM):TS:=cy (bv (bn A3 (ao 2) (ce aC))) (yx K (tC (.int 0))) (cy (bv (bn rC (bn cE (ao 3) (tC (.int 5))) (tC (.int 4)))) (yx K (vM K)) (yx K (bn ck (vM K) (tC (.int 1)))))
def yy (a:Int):TE:=g7 oR (ai (ao 4) (ai (bn ck (bn ck (ao 6) (tC (.int 1))) (bn cE (bn kF (ao 3) (tC (.int a))) (tC (.int 3)))) aC))
def Du (n:Int):TT:=bv (bn rC (bn cE (bn kF (ao 3) (tC (.int 5))) (tC (.int 4))) (tC (.int n)))
def vN (K:LM):TS:=aJ (aY (bN (ai (bn ck (ao 6) (tC (.int 1))) (ai (bn ck (ao 6) (tC (.int 1))) aC))) (aB 7)) (aJ (cy (Du 1) (aY (bN (ai (yy 20) (ai (yy 60) aC))) (aB 7)) bX) (aJ (cy (Du 2) (aY (bN (ai (yy 20) aC)) (aB 7)) bX) (bY (qz K "list" cn (ao 5) (ai (bN (ai (ao 1) (ai (ao 6) (ai (ao 1) (ai (ao 7) aC))))) aC)))))
def HA (K:LM):TS:=aJ (aY (ce aC) (aB 2)) (aJ (dS (cJ K (ao 0)) (aB 3) (Dt K)) (aJ (aY (tC (.int 0)) (aB 4)) (aJ (cy (bv (bn Do (ao 2) (ce aC))) (aY (bn ck (vM K) (tC (.int 1))) (aB 4)) bX)
 (aJ (aY (ce aC) (aB 5)) (aJ (dS (Al K (ai (ao 2) (ai (ao 0) aC))) (dg K 2 (aU (aB 6) (aU (aB 3) de))) (vN K)) (bU (bn uj (ao 5) (ce (ai (bN (ai (ao 1) (ai (ao 4) (ai (ao 1) (ai (bN aC) aC))))) aC)))))))))
noncomputable def gI (cl:Addr)(room:Int)(sl:Addr)(x3 x4 x5 x6 x7:Option V):L2.St:=[some (.ref cl),some (.int room),some (.ref sl),x3,x4,x5,x6,x7]
theorem map_nil {S:List Int}:decide (S.map V.int=[])=decide (S=[]):=by cases S<;>rfl
theorem FL {te:TE}{sl:Addr}{S:List Int}{y:Int}(h2:σ[2]?=some (some (.ref sl)))(hs:H sl=some (.lst (S.map .int)))(hz:S.length<1000)(ht:Reads te σ H (.int y))(k:∀ H',Kp sl H H'->H' sl=some (.lst ((S++[y]).map .int))->D.nx σ H'):yx K te D σ H:=⟨_,h2,.inl ⟨rfl,_,SqL.of hs⟩,ht _ ⟨sl,_,_,rfl,rfl,hs,qa (by rw[Iq];lia),k _ (fun c u e n=>by rw[au n];exact e) (by rw[af,IW];rfl)⟩⟩
theorem HB {sl:Addr}{S:List Int}{c:Int}(h2:σ[2]?=some (some (.ref sl)))(h3:σ[3]?=some (some (.int c)))(hs:H sl=some (.lst (S.map .int)))(hz:S.length<1000)(ok:zF S)(k:∀ y H',Kp sl H H'->H' sl=some (.lst ((S++[y]).map .int))->zF (S++[y])->D.nx σ H'):Dt K D σ H:=by
 refine⟨_,h2,IL _,fun q hq=>?_⟩;have s1:=aw (o:=.lst []) hq;have hq1:upd H q (.lst []) q=some (.lst []):=af;have hs1:=s1 _ _ hs;generalize upd H q (.lst [])=H1 at s1 hq1 hs1;have k1:∀ y,zF (S++[y])->∀ H',Kp sl H1 H'->H' sl=some (.lst ((S++[y]).map .int))->D.nx σ H':=fun y o H' kp h=>k y H' (fun c u e n=>kp _ _ (s1 _ _ e) n) h o;refine⟨sl,q,_,rfl,rfl,.inl hs1,hq1,_,rfl,?_⟩;rw[map_nil];cases S with
 |nil=>exact di (FL h2 hs1 hz .k (k1 0 ⟨by simp,fun x hx=>by simp at hx;lia,fun x hx g g1 g2=>by simp at hx ⊢;lia⟩))
 |cons a l=>obtain⟨S',x,e⟩ : ∃ S' x,a::l=S'++[x]:=⟨(a::l).dropLast,(a::l).getLast (by simp),(Ld _).symm⟩;rw[e]at hs1 hz ok k1 ⊢;have rl:Reads (vM K) σ H1 (.int x):=Reads.GO (.va h2) (fun Q q=>⟨1,rfl,q⟩) hs1 (by rw[IW];exact iF _ _);rw[IQ (by simp)];refine cg (iC (.Bz (.mod (.va h3) .k (by decide)) .k) (fun _=>FL h2 hs1 hz rl (k1 x (ok.add x (.inl rfl)))) fun _=>FL h2 hs1 hz (.ad rl .k) (k1 (x+1) (ok.add _ (.inr rfl))))
theorem HC {cl sl rl:Addr}{room s c last:Int}{ws:List V}{x7:Option V}(hr:H rl=some (.lst ws))(hz:ws.length<1000)(hs:s<last)(k:∀ p put x7 H',Kp rl H H'->H' rl=some (.lst (ws++[.ref p]))->IsRule H' (room,s,room,put) (.ref p)->put≠[]->put.length<=2->(∀ x∈put,s<x/\x<=last)->KT H H'->D.nx (gI cl room sl (some (.int c)) (some (.int last)) (some (.ref rl)) (some (.int s)) x7) H'):vN K D (gI cl room sl (some (.int c)) (some (.int last)) (some (.ref rl)) (some (.int s)) x7) H:=by
 have rm:∀{H1 x7} a,0<a/\a<1073741824->∃ y,s<y/\y<=last/\Reads (yy a) (gI cl room sl (some (.int c)) (some (.int last)) (some (.ref rl)) (some (.int s)) x7) H1 (.int y):=fun{H1 x7} a ha=>by have m0:=Km (c / a) (show(3:Int)≠0 by decide);refine⟨if s+1+c / a % 3<last then s+1+c / a % 3 else last,by split<;>lia,by split<;>lia,fun Q q=>?_⟩;exact(ReadsA.c (.va (i:=4) rfl) (.c (.ad (.ad (.va (i:=6) rfl) .k) (.mod (.dv (.va (i:=3) rfl) .k ha) .k (by decide))) .ni):ReadsA (ai (ao 4) (ai (bn ck (bn ck (ao 6) (tC (.int 1))) (bn cE (bn kF (ao 3) (tC (.int a))) (tC (.int 3)))) aC)) (gI cl room sl (some (.int c)) (some (.int last)) (some (.ref rl)) (some (.int s)) x7) H1 [.int last,.int (s+1+c / a % 3)]) (fun vs H=>oR vs H Q) ⟨_,_,rfl,q⟩
 have rc:∀{H1 x7} n,Reads (bn rC (bn cE (bn kF (ao 3) (tC (.int 5))) (tC (.int 4))) (tC (.int n))) (gI cl room sl (some (.int c)) (some (.int last)) (some (.ref rl)) (some (.int s)) x7) H1 (.bl (decide (c / 5 % 4=n))):=fun n=>.Bz (.mod (.dv (.va rfl) .k ⟨by decide,by decide⟩) .k (by decide)) .k;have last':∀{H1 q put},Same H H1->H1 q=some (.tup (put.map .int))->put≠[]->put.length<=2->(∀ x∈put,s<x/\x<=last)->bY (qz K "list" cn (ao 5) (ai (bN (ai (ao 1) (ai (ao 6) (ai (ao 1) (ai (ao 7) aC))))) aC)) D (gI cl room sl (some (.int c)) (some (.int last)) (some (.ref rl)) (some (.int s)) (some (.ref q))) H1:=fun{H1 q put} s1 hq h1 h2 h3=>by
  have hr1:=s1 _ _ hr;refine⟨_,rfl,.inl ⟨rfl,_,SqL.of hr1⟩,?_⟩
  delta ai
  refine fU (σ:=gI cl room sl (some (.int c)) (some (.int last)) (some (.ref rl)) (some (.int s)) (some (.ref q))) (ws:=[.int room,.int s,.int room,.ref q]) (.c (.va (i:=1) rfl) (.c (.va (i:=6) rfl) (.c (.va (i:=1) rfl) (.c (.va (i:=7) rfl) .ni)))) rfl fun p hp=>?_;have s2:=aw (o:=.tup [.int room,.int s,.int room,.ref q]) hp;have hp2:upd H1 p (.tup [.int room,.int s,.int room,.ref q]) p=some (.tup [.int room,.int s,.int room,.ref q]):=af;have hr2:=s2 _ _ hr1;generalize upd H1 p (.tup [.int room,.int s,.int room,.ref q])=H2 at s2 hp2 hr2;have kt:KT H2 (upd H2 rl (.lst (ws++[.ref p]))):=.upd hr2 fun _ z=>(nomatch z);exact⟨rl,_,_,rfl,rfl,hr2,qa (by lia),k p put _ _ (fun c u e n=>by rw[au n];exact s2 _ _ (s1 _ _ e)) af ⟨p,q,rfl,kt _ _ hp2,kt _ _ (s2 _ _ hq)⟩ h1 h2 h3 ((KT.of (s1.trans s2)).trans kt)⟩
 delta vN aJ aY
 refine fU (σ:=gI cl room sl (some (.int c)) (some (.int last)) (some (.ref rl)) (some (.int s)) x7) (ws:=[.int (s+1),.int (s+1)]) (.c (.ad (.va (i:=6) rfl) .k) (.c (.ad (.va (i:=6) rfl) .k) .ni)) rfl fun q hq=>?_;have s1:=aw (o:=.tup [.int (s+1),.int (s+1)]) hq;have hq1:upd H q (.tup [.int (s+1),.int (s+1)]) q=some (.tup ([s+1,s+1].map .int)):=af;generalize upd H q (.tup [.int (s+1),.int (s+1)])=H1 at s1 hq1;refine rc (x7:=some (.ref q)) 1 _ ⟨_,rfl,ut (fun c1=>?_) fun c1=>?_⟩
 .obtain⟨y1,a1,b1,r1⟩:=rm (H1:=H1) (x7:=some (.ref q)) 20 ⟨by decide,by decide⟩;obtain⟨y2,a2,b2,r2⟩:=rm (H1:=H1) (x7:=some (.ref q)) 60 ⟨by decide,by decide⟩;refine fU (σ:=gI cl room sl (some (.int c)) (some (.int last)) (some (.ref rl)) (some (.int s)) (some (.ref q))) (ws:=[.int y1,.int y2]) (.c r1 (.c r2 .ni)) rfl fun q' hq'=>?_;refine rc (x7:=some (.ref q')) 2 _ ⟨_,rfl,?_⟩;rw[IQ (by have:=Ja c1;lia)];exact cg (last' (put:=[y1,y2]) (s1.trans (aw hq')) af (by simp) (by simp) fun x hx=>by simp at hx;rcases hx with rfl|rfl<;>lia)
 .refine rc (x7:=some (.ref q)) 2 _ ⟨_,rfl,ut (fun c2=>?_) fun c2=>last' s1 hq1 (by simp) (by simp) fun x hx=>by simp at hx;lia⟩;obtain⟨y1,a1,b1,r1⟩:=rm (H1:=H1) (x7:=some (.ref q)) 20 ⟨by decide,by decide⟩;refine fU (σ:=gI cl room sl (some (.int c)) (some (.int last)) (some (.ref rl)) (some (.int s)) (some (.ref q))) (ws:=[.int y1]) (.c r1 .ni) rfl fun q' hq'=>last' (put:=[y1]) (s1.trans (aw hq')) af (by simp) (by simp) fun x hx=>by simp at hx;lia
inductive GI (cl:Addr) (room:Int) (sl:Addr) (H1:Hp) (i:Nat):L2.St->Hp->Prop
 |mk {H':Hp} {S:List Int} {x3:Option V}:Kp sl H1 H'->H' sl=some (.lst (S.map .int))->zF S->S.length=i->GI cl room sl H1 i (gI cl room sl x3 none none none none) H'
inductive GD (cl:Addr) (room:Int) (sl:Addr) (last:Int) (rl:Addr) (S:List Int) (H1:Hp) (i:Nat):L2.St->Hp->Prop
 |mk {H':Hp} {ws:List V} {RL:List Pz.Rule} {x3 x6 x7:Option V}:Kp rl H1 H'->KT H1 H'->H' rl=some (.lst ws)->aS (IsRule H') RL ws->aS (fun s r=>r.1=room/\r.2.1=s/\r.2.2.1=room/\r.2.2.2≠[]/\r.2.2.2.length<=2/\∀ x∈r.2.2.2,s<x/\x<=last) (S.take i) RL->GD cl room sl last rl S H1 i (gI cl room sl x3 (some (.int last)) (some (.ref rl)) x6 x7) H'
theorem yz (h:wy vs H Q E):HA K (eQ Q) (bc (nS 8) vs) H:=by
 obtain @⟨H,cl,cs,room,Q,E,hc,hz,k⟩:=h;refine⟨IL _,fun sl hsl=>?_⟩;have s1:=aw (o:=.lst []) hsl;have h1:upd H sl (.lst []) sl=some (.lst []):=af;generalize upd H sl (.lst [])=H1 at s1 h1;have ncl:∀{H'},Kp sl H1 H'->Rd H' cl (.lst (cs.map .int)):=fun kp=>by
  have n:cl≠sl:=fun z=>by rcases hc with e|⟨o,e⟩<;>(rw[z,hsl]at e;cases e)
  exact(aX s1 hc).imp (fun e=>kp _ _ e n) fun⟨o,e⟩=>⟨o,kp _ _ e n⟩
 refine dQ (tl:=ao 0) ⟨_,rfl,cl,rfl,⟨_,.inl (aX s1 hc)⟩,?_⟩;refine eR (K:=K) (a:=cl) (xs:=cs.map .int) (GI cl room sl H1) (.mk (S:=[]) (fun _ _ e _=>e) h1 ⟨.nil,(fun _ z=>nomatch z),fun _ z=>nomatch z⟩ rfl) (fun i σ' H' _ z=>by cases z with|mk kp _ _ _=>exact .inl (ncl kp)) (fun i v σ' H' hi z=>?_) fun σ' H' z=>?_
 .obtain @⟨H',S,x3,kp,hs,ok,ln⟩:=z;have li:=(Iv.mp hi).1;rw[Iq]at li;rw[IE]at hi;obtain⟨c,ec,rfl⟩:=Jg.mp hi;exact HB (σ:=gI cl room sl (some (.int c)) none none none none) rfl rfl hs (by lia) ok fun y H2 kp2 h2 o2=>.mk (fun c u e n=>kp2 _ _ (kp _ _ e n) n) h2 o2 (by rw[IF,ln];rfl)
 obtain @⟨H',S,x3,kp,hs,ok,ln⟩:=z;rw[Iq]at ln;have s0:Same H H':=fun c u e=>kp _ _ (s1 _ _ e) (am e hsl);have hc':=ncl kp;have mid:∀{last H2 x3},Same H' H2->((S=[]/\last=0)\/∃ S' x,S=S'++[x]/\last=x+1)->aJ (aY (ce aC) (aB 5)) (aJ (dS (Al K (ai (ao 2) (ai (ao 0) aC))) (dg K 2 (aU (aB 6) (aU (aB 3) de))) (vN K)) (bU (bn uj (ao 5) (ce (ai (bN (ai (ao 1) (ai (ao 4) (ai (ao 1) (ai (bN aC) aC))))) aC))))) (eQ Q) (gI cl room sl x3 (some (.int last)) none none none) H2:=fun{last H2 x3} s2 hl=>by
  have hs2:=s2 _ _ hs;have hc2:=aX s2 hc';refine⟨IL _,fun rl hrl=>?_⟩;have s3:=aw (o:=.lst []) hrl;have h3:upd H2 rl (.lst []) rl=some (.lst []):=af;generalize upd H2 rl (.lst [])=H3 at s3 h3;have nsr:sl≠rl:=am hs2 hrl;have ncr:cl≠rl:=fun z=>by rcases hc2 with e|⟨o,e⟩<;>(rw[z,hrl]at e;cases e)
  have gs:∀{H'},Kp rl H3 H'->SqL K H' sl (S.map .int)/\SqL K H' cl (cs.map .int):=fun kp=>⟨SqL.of (kp _ _ (s3 _ _ hs2) nsr),.inl ((aX s3 hc2).imp (fun e=>kp _ _ e ncr) fun⟨o,e⟩=>⟨o,kp _ _ e ncr⟩)⟩;have lt:∀(i:Nat) s,S[i]?=some s->s<last:=fun i s es=>by
   rcases hl with⟨rfl,_⟩|⟨S',x,rfl,rfl⟩
   .simp at es
   .rcases IR.mp (IH es) with hs|hs
    .have:=(Kg.mp ok.o).2.2 s hs x (by simp);lia
    .rw[IA.mp hs];lia
  refine⟨_,rfl,_,rfl,sl,cl,_,_,rfl,(gs fun _ _ e _=>e).1,(gs fun _ _ e _=>e).2,?_⟩;refine jc (n:=S.length) (GD cl room sl last rl S H3) (.mk (RL:=[]) (fun _ _ e _=>e) (fun _ _ e=>e) h3 .nil .nil) (fun i σ' H' p hi=>?_) (fun σ' H' p=>?_) (fun i σ' H' x H'' D' hi p y k'=>?_) fun σ' H' p=>?_
  .cases p with|mk kp _ _ _ _=>exact⟨_,_,.int S[i],.int (cs[i]'(by lia)),(gs kp).1,(gs kp).2,by rw[IE,Ir hi];rfl,by rw[IE,Ir (by lia)];rfl⟩
  .cases p with|mk kp _ _ _ _=>exact⟨_,_,(gs kp).1,(gs kp).2,.inl (by rw[Iq];exact Im _)⟩
  .obtain @⟨H',ws,RL,x3,x6,x7,kp,kt,hr,ir,al⟩:=p;obtain⟨p5,v1,v2,hp5,rfl,rfl,y1,y2⟩:=y;have y1:=y1 _ (gs kp).1;have y2:=y2 _ (gs kp).2;have es:S[i]?=some S[i]:=Ir hi;rw[IE,es]at y1;rw[IE,Ir (by lia)]at y2;cases y1;cases y2;have s5:=aw (o:=.tup [.int S[i],.int (cs[i]'(by lia))]) hp5;refine sA af ?_;have hr5:=s5 _ _ hr;have l1:=al.len;have l2:=ir.len;rw[Jt]at l1;show vN K D' (gI cl room sl (some (.int (cs[i]'(by lia)))) (some (.int last)) (some (.ref rl)) (some (.int S[i])) x7) (upd H' p5 (.tup [.int S[i],.int (cs[i]'(by lia))]));refine HC hr5 (by lia) (lt i _ es) fun p put x7 H6 kp6 h6 i6 n6 z6 b6 kt6=>k' _ _ (.mk (RL:=RL++[(room,S[i],room,put)]) (fun c u e n=>kp6 _ _ (s5 _ _ (kp _ _ e n)) n) ((kt.trans (.of s5)).trans kt6) h6 ((ir.mono (IsRule.keep ((KT.of s5).trans kt6))).snoc i6) ?_);rw[Jf,es];exact al.snoc ⟨rfl,rfl,rfl,n6,z6,b6⟩
  .obtain @⟨H',ws,RL,x3,x6,x7,kp,kt,hr,ir,al⟩:=p;rw[Jp]at al;have dp:=Ds (room:=room) ok hl al;have l1:=al.len;have l2:=ir.len;have s4:Same H H':=fun c u e=>kp _ _ (s3 _ _ (s2 _ _ (s0 _ _ e))) (am (s2 _ _ (s0 _ _ e)) hrl);refine⟨_,rfl,?_⟩
   delta ce ai
   refine⟨_,rfl,_,rfl,_,rfl,IL _,fun q hq=>⟨by show 4<=_;rw[IY];lia,fun p hp=>⟨by show 1<=_;rw[IY];lia,fun b hb=>?_⟩⟩⟩;have t1:=aw (o:=.tup []) hq;have q1:upd H' q (.tup []) q=some (.tup []):=af;generalize upd H' q (.tup [])=G1 at t1 q1 hp hb;have t2:=aw (o:=.tup [.int room,.int last,.int room,.ref q]) hp;have q2:upd G1 p (.tup [.int room,.int last,.int room,.ref q]) p=some (.tup [.int room,.int last,.int room,.ref q]):=af;generalize upd G1 p (.tup [.int room,.int last,.int room,.ref q])=G2 at t2 q2 hb;have t3:=aw (o:=.lst [.ref p]) hb;have q3:upd G2 b (.lst [.ref p]) b=some (.lst [.ref p]):=af;generalize upd G2 b (.lst [.ref p])=G3 at t3 q3;have t13:=(t1.trans t2).trans t3;refine⟨rl,b,ws,_,rfl,rfl,t13 _ _ hr,q3,by rw[IY];simp;lia,fun l hl'=>?_⟩;have t4:=aw (o:=.lst (ws++[.ref p])) hl';exact k l _ (RL++[(room,last,room,[])]) last _ ((s4.trans t13).trans t4) ((s4.trans t13).free hl') af ((ir.mono (IsRule.keep (.of (t13.trans t4)))).snoc ⟨p,q,rfl,t4 _ _ (t3 _ _ q2),t4 _ _ (t3 _ _ (t2 _ _ q1))⟩) dp (by rw[IF];simp;lia)
 refine⟨_,rfl,IL _,fun q hq=>?_⟩;have s2:=aw (o:=.lst []) hq;refine⟨sl,q,_,rfl,rfl,.inl (s2 _ _ hs),af,_,rfl,?_⟩;rw[map_nil];by_cases e:S=[]
 .rw[IJ e];exact cg (mid s2 (.inl ⟨e,rfl⟩))
 .rw[IQ e];obtain⟨S',x,es⟩ : ∃ S' x,S=S'++[x]:=⟨S.dropLast,S.getLast e,(Ld _).symm⟩;refine di ((Reads.ad (Reads.GO (.va rfl) (fun Q q=>⟨1,rfl,q⟩) (s2 _ _ hs) (by rw[es,IW];exact iF _ _)) .k:Reads (bn ck (vM K) (tC (.int 1))) (gI cl room sl x3 (some (.int 0)) none none none) _ (.int (x+1))) _ (mid s2 (.inr ⟨S',x,es,rfl⟩)))
end
structure tR (P:List Pz.Rule) (ks:List Int) (S:Int->Int):Prop where
 nd:ks.Nodup
 m:∀ g,g∈ks↔∃ r∈P,r.2.1=g
 lo:∀ r∈P,S r.2.1<=1+(r.2.2.2.map S).sum
 ex:∀ g∈ks,∃ r∈P,r.2.1=g/\S g=1+(r.2.2.2.map S).sum
theorem qX {S:Int->Int}{g m:Int}{l:List Int}(h:∀ x∈l,x≠g):(l.map (o5 S g m)).sum=(l.map S).sum:=by congr 1;exact Jl fun x hx=>cu (h x hx)
theorem tR.put {P:List Pz.Rule}{ks:List Int}{S:Int->Int}{r:Pz.Rule}(h:tR P ks S)(h1:∀ x∈r.2.2.2,r.2.1<x)(h2:∀ r'∈P,r.2.1<=r'.2.1/\∀ x∈r'.2.2.2,r'.2.1<x):tR (r::P) (tP ks r.2.1) (o5 S r.2.1 (if (if r.2.1∈ks then S r.2.1 else 1+(r.2.2.2.map S).sum)<1+(r.2.2.2.map S).sum then (if r.2.1∈ks then S r.2.1 else 1+(r.2.2.2.map S).sum) else 1+(r.2.2.2.map S).sum)):=by
 have e0:∀{m},(r.2.2.2.map (o5 S r.2.1 m)).sum=(r.2.2.2.map S).sum:=fun{m}=>qX fun x hx z=>by have:=h1 x hx;lia
 have e1:∀{m} r',r'∈P->(r'.2.2.2.map (o5 S r.2.1 m)).sum=(r'.2.2.2.map S).sum:=fun{m} r' hr=>qX fun x hx z=>by have:=h2 r' hr;have:=this.2 x hx;lia
 generalize hw:(if (if r.2.1∈ks then S r.2.1 else 1+(r.2.2.2.map S).sum)<1+(r.2.2.2.map S).sum then (if r.2.1∈ks then S r.2.1 else 1+(r.2.2.2.map S).sum) else 1+(r.2.2.2.map S).sum)=m;have m1:m<=1+(r.2.2.2.map S).sum:=by rw[<- hw];split<;>lia
 have m2:r.2.1∈ks->m<=S r.2.1:=fun z=>by rw[<- hw,IS z];split<;>lia
 have m3:(r.2.1∈ks/\m=S r.2.1)\/m=1+(r.2.2.2.map S).sum:=by
  rw[<- hw];by_cases z:r.2.1∈ks
  .rw[IS z];split
   .exact .inl ⟨z,rfl⟩
   .exact .inr rfl
  .rw[IK z];split<;>exact .inr rfl
 refine⟨?_,fun g=>?_,fun r' hr=>?_,fun g hg=>?_⟩
 .unfold tP;split
  .exact h.nd
  .rename_i nb;rw[Jv];exact⟨h.nd,by simp,fun x hx y hy e=>nb (by rw[<- IA.mp hy,<- e];exact hx)⟩
 .rw[mem_adI,h.m];constructor
  .rintro (⟨r',h1,h2⟩|e)
   .exact⟨r',Iw _ h1,h2⟩
   .exact⟨r,Iy,e.symm⟩
  .rintro⟨r',z1,z2⟩;rcases ID.mp z1 with rfl|z1
   .exact .inr z2.symm
   .exact .inl ⟨r',z1,z2⟩
 .rcases ID.mp hr with rfl|hr
  .rw[cr,e0];exact m1
  .rw[e1 r' hr];have a:=h.lo r' hr;by_cases e:r'.2.1=r.2.1
   .rw[e,cr];have b:=m2 ((h.m _).mpr ⟨r',hr,e⟩);rw[e]at a;lia
   .rw[cu e];exact a
 .by_cases e:g=r.2.1
  .rw[e,cr];rcases m3 with⟨z,e2⟩|e2
   .obtain⟨r',h3,h4,h5⟩:=h.ex _ z;exact⟨r',Iw _ h3,h4,by rw[e2,e1 r' h3];exact h5⟩
   .exact⟨r,Iy,rfl,by rw[e0];exact e2⟩
  .rw[cu e];obtain⟨r',h3,h4,h5⟩:=h.ex g ((mem_adI.mp hg).resolve_right e);exact⟨r',Iw _ h3,h4,by rw[e1 r' h3];exact h5⟩
section
variable {X:Cx}{K:LM}{H H':Hp}{σ:L2.St}{vs:List V}{Q:VK}{E:XK}
inductive wz:Sp
 |mk {H:Hp} {rl:Addr} {ws:List V} {RL:List Pz.Rule} {room last:Int} {Q:VK} {E:XK} (hl:Rd H rl (.lst ws)) (ir:aS (IsRule H) RL ws) (dp:Dp room last RL) (hz:RL.length<=61) (k:∀ d ks S H',Same H H'->H d=none->H' d=some (.dK (hJ ks fun g=>.int (S g)))->tR RL ks S->Q (.ref d) H'):wz [.ref rl] H Q E
theorem vP (h:wz vs H Q E):vs.length=1:=by cases h;rfl
def zv (K:LM):List V->Hp->VK->Prop:=fun xs H Q=>∃(p:Addr)(ns:List Int),xs=[.ref p]/\SqL K H p (ns.map V.int)/\Q (.int ns.sum) H
def FM:TE:=lL (ao 1) (ao 0)
structure Ez (X:Cx) (scope:Scope) (tg elt:Expr) (tN capN:List Str) (caps:List Nat) (c:Nat):Prop where
 h:tN.length=1
 c:caps=[c]
 g:∀ cl C s3 H3 fp,PG (b_ X scope (tN++capN) cl C s3 H3 fp) tg (aB 0)
 e:∀ cl C s3 H3 fp,PE (b_ X scope (tN++capN) cl C s3 H3 fp) elt FM
theorem zx {scope:Scope}{tg elt:Expr}{tN capN:List Str}{caps:List Nat}{J:L2.It}{j:Nat}{d:Addr}{ks l:List Int}{S:Int->Int}{Fin:Addr->List V->Hp->Prop}(c:Ez X scope tg elt tN capN caps j)(hj:σ[j]?.join=some (.ref d))(hd:H d=some (.dK (hJ ks fun g=>.int (S g))))(hl:∀ x∈l,x∈ks)(hz:l.length<1000)
 (hgo:∀ i H',Same H H'->i<l.length->J.go i H') (hst:∀ H',Same H H'->J.stop l.length H') (hy:∀ i H' x H'',Same H H'->J.tS i H' x H''->H''=H'/\∃ g,l[i]?=some g/\x=.int g)
 (k:∀ Dl H',Same H H'->H Dl=none->H' Dl=some (.lst ((l.map S).map .int))->Fin Dl ((l.map S).map .int) H'):gc X scope tg tN capN caps elt [] σ Fin J H:=by
 refine m8 (n:=l.length) c.g (fun _ _ _ _ _=>iA) c.e (fun Dl i acc H'=>Same H H'/\H' Dl=some (.lst acc)/\acc=((l.take i).map S).map .int/\H Dl=none) (fun Dl hD=>⟨aw hD,af,rfl,hD⟩) (fun h=>h.2.1) (fun Dl i acc H' ⟨sm,_⟩ hi=>hgo i H' sm hi) (fun Dl acc H' ⟨sm,_⟩=>hst H' sm) (fun Dl i acc H' xv H'' ol hi ⟨sm,hD,ea,nD⟩ y hol=>?_) fun Dl acc H' hD ⟨sm,hD',ea,_⟩=>?_
 .obtain⟨rfl,g,eg,rfl⟩:=hy _ _ _ _ sm y;rw[c.h]at hol;obtain⟨u0,rfl⟩:=KZ.mp hol;rw[c.c];have cap:kg σ [j]=[some (.ref d)]:=by show[σ[j]?.join]=_;rw[hj]
  rw[cap];refine⟨fun i hi=>?_,di ⟨_,rfl,_,rfl,d,.int (S g),rfl,?_,hD,qa (by rw[ea];simp;lia),fun c u e=>by rw[au (am e nD)];exact sm _ _ e,af,?_,nD⟩⟩
  .rw[c.h]at hi;obtain⟨i,rfl⟩:=JT hi;rfl
  .have:=DGet.k (k:=.inl g) (sm _ _ hd);rw[jv,IS (hl g (IH eg))]at this;exact this
  .rw[ea,Jf,eg,IW,IW];rfl
 .rw[Jp]at ea;subst ea;exact k Dl H' sm hD hD'
def FN (X:Cx)(scope:Scope)(tg elt:Expr)(tN capN:List Str)(caps:List Nat):TS:=aJ (aY (bn ck (tC (.int 1)) (g7 (zv X.K) (ai (jo X scope tg tN capN caps elt [] (B5 X.K (tI X.K 2 3))) aC))) (aB 3)) (ik (ao 1) (tI X.K 2 1) (g7 oR (ai (ao 3) (ai (dU (ao 1) (tI X.K 2 1) (ao 3)) aC))))
def HD (X:Cx)(scope:Scope)(tg elt:Expr)(tN capN:List Str)(caps:List Nat):TS:=aJ (aY my (aB 1)) (aJ (dS (Ae X.K (ai (ao 0) aC)) (aB 2) (FN X scope tg elt tN capN caps)) (bU (ao 1)))
inductive GK (rl d:Addr) (H1:Hp) (RL:List Pz.Rule) (i:Nat):L2.St->Hp->Prop
 |mk {H':Hp} {ks:List Int} {S:Int->Int} {x2 x3:Option V}:Kp d H1 H'->H' d=some (.dK (hJ ks fun g=>.int (S g)))->tR (RL.drop (RL.length-i)) ks S->ks.length<=i->GK rl d H1 RL i [some (.ref rl),some (.ref d),x2,x3] H'
theorem yA {scope:Scope}{tg elt:Expr}{tN capN:List Str}{caps:List Nat}(c:Ez X scope tg elt tN capN caps 1)(h:wz vs H Q E):HD X scope tg elt tN capN caps (eQ Q) (bc (nS 4) vs) H:=by
 obtain @⟨H,rl,ws,RL,room,last,Q,E,hl,ir,dp,hz,k⟩:=h;intro d hd;have s1:=aw (o:=.dK []) hd;have h1:upd H d (.dK []) d=some (.dK []):=af;generalize upd H d (.dK [])=H1 at s1 h1;have nrd:rl≠d:=fun z=>by rcases hl with e|⟨o,e⟩<;>(rw[z,hd]at e;cases e)
 have gl:∀{H'},Kp d H1 H'->SqL X.K H' rl ws:=fun kp=>.inl ((aX s1 hl).imp (fun e=>kp _ _ e nrd) fun⟨o,e⟩=>⟨o,kp _ _ e nrd⟩);have ln:=ir.len;refine⟨_,rfl,rl,ws,rfl,gl fun _ _ e _=>e,?_⟩;rw[<- ln];refine jc (n:=RL.length) (GK rl d H1 RL) (.mk (ks:=[]) (S:=fun _=>0) (fun _ _ e _=>e) h1 ⟨.nil,fun g=>by simp,fun r hr=>by simp at hr,fun _ z=>nomatch z⟩ (Im _)) (fun i σ' H' p hi=>?_) (fun σ' H' p=>Im _) (fun i σ' H' x H'' D' hi p y k'=>?_) fun σ' H' p=>?_
 .cases p with|mk kp _ _ _=>exact⟨_,gl kp,ln.symm,hi⟩
 .obtain @⟨H',ks,S,x2,x3,kp,hd',sm,lk⟩:=p;obtain⟨rfl,y⟩:=y;have y:=y _ (gl kp);obtain⟨r,er,p,q,rfl,hp,hq⟩:=ir.get y;have kt:KT H H'':=fun c w e=>kp _ _ (s1 _ _ e) (am e hd);have ed:RL.drop (RL.length-(i+1))=r::RL.drop (RL.length-i):=by
   have lt:RL.length-1-i<RL.length:=by lia
   rw[show RL.length-(i+1)=RL.length-1-i by lia,JE lt,show RL.length-1-i+1=RL.length-i by lia];rw[Ir lt]at er;rw[IU er]
  have mr:=dp.a r (IH er);have ord:∀ r'∈RL.drop (RL.length-i),r.2.1<=r'.2.1:=fun r' hr'=>by have:(RL.drop (RL.length-(i+1))).Pairwise fun r r'=>r.2.1<=r'.2.1:=dp.o.sublist (List.drop_sublist _ _);rw[ed,List.pairwise_cons]at this;exact this.1 r' hr'
  have inK:∀ x∈r.2.2.2,x∈ks:=fun x hx=>by
   obtain⟨r',hr',e'⟩:=dp.s x (by have:=mr.2.2.2.2.2 x hx;lia) (mr.2.2.2.2.2 x hx).2;refine(sm.m x).mpr ⟨r',?_,e'⟩;have sp:=Kb (RL.length-(i+1)) RL;rw[<- sp,ed]at hr';rcases IR.mp hr' with z|z
   .have:=dp.o;rw[<- sp,ed,Kg]at this;have:=this.2.2 r' z r Iy;have:=mr.2.2.2.2.2 x hx;lia
   .rcases ID.mp z with rfl|z
    .have:=mr.2.2.2.2.2 x hx;lia
    .exact z
  have hq':=kt _ _ hq;refine Reads.ix (n:=3) (.va (i:=2) rfl) (kt _ _ hp) (v:=.ref q) rfl _ ⟨q,rfl,⟨_,SqT.of hq'⟩,?_⟩;refine zx (l:=r.2.2.2) (d:=d) c rfl hd' inK (by have:=mr.2.2.2.2.1;lia) (fun i H' s hi=>⟨_,.int r.2.2.2[i],SqT.of (s _ _ hq'),by rw[IE,Ir hi];rfl⟩) (fun H' s=>⟨_,SqT.of (s _ _ hq'),by rw[Iq];exact Im _⟩) (fun i H' x H2 s y=>?_) fun Dl H2 s2 nD hD=>?_
  .obtain⟨e,y⟩:=y;have y:=y _ (SqT.of (s _ _ hq'));rw[IE]at y;obtain⟨g,eg,e2⟩:=Jg.mp y;exact⟨e,g,eg,e2.symm⟩
  refine⟨Dl,_,rfl,SqL.of hD,_,_,rfl,rfl,?_⟩;have hd2:=s2 _ _ hd';have hp2:=s2 _ _ (kt _ _ hp);show ik (ao 1) (tI X.K 2 1) (g7 oR (ai (ao 3) (ai (dU (ao 1) (tI X.K 2 1) (ao 3)) aC))) D' [some (.ref rl),some (.ref d),some (.ref p),some (.int (1+(r.2.2.2.map S).sum))] H2;generalize hw:(1:Int)+(r.2.2.2.map S).sum=pr;have r21:∀{x3},Reads (tI X.K 2 1) [some (.ref rl),some (.ref d),some (.ref p),x3] H2 (.int r.2.1):=.ix (n:=1) (.va rfl) hp2 (v:=.int r.2.1) rfl;refine⟨_,rfl,_,rfl,d,rfl,.inl ⟨_,.inl hd2⟩,r21 (x3:=some (.int pr)) _ ⟨_,rfl,_,DGet.k (k:=.inl r.2.1) hd2,?_⟩⟩;rw[jv];have eg:((if r.2.1∈ks then some (V.int (S r.2.1)) else none).getD (.int pr))=.int (if r.2.1∈ks then S r.2.1 else pr):=by split<;>rfl
  rw[eg];refine⟨_,_,rfl,_,rfl,r21 (x3:=some (.int pr)) _ ⟨d,_,rfl,DPut.k (k:=.inl r.2.1) hd2 (qa (by rw[Iq];lia)),k' _ _ (.mk (ks:=tP ks r.2.1) (S:=o5 S r.2.1 (if (if r.2.1∈ks then S r.2.1 else pr)<pr then (if r.2.1∈ks then S r.2.1 else pr) else pr)) (fun c u e n=>by rw[au n];exact s2 _ _ (kp _ _ e n)) ?_ ?_ ?_)⟩⟩
  .rw[af,zq];congr 2;refine Jl fun j _=>?_;dsimp only;by_cases e:j=r.2.1
   .rw[e,cr,cr]
   .rw[cu e,cu e]
  .rw[ed,<- hw];exact sm.put (fun x hx=>(mr.2.2.2.2.2 x hx).1) fun r' hr'=>⟨ord r' hr',fun x hx=>((dp.a r' (List.mem_of_mem_drop hr')).2.2.2.2.2 x hx).1⟩
  .unfold tP;split
   .lia
   .rw[IF];simp;lia
 .obtain @⟨H',ks,S,x2,x3,kp,hd',sm,lk⟩:=p;rw[Nat.sub_self,List.drop_zero]at sm;exact⟨_,rfl,k d ks S H' (fun c u e=>kp _ _ (s1 _ _ e) (am e hd)) hd hd' sm⟩
end
inductive wM (RL:List Pz.Rule):List Int->Rw->Rw->Prop
 |nil {x:Rw}:wM RL [] x x
 |cons {j:Nat} {r:Pz.Rule} {w:List Int} {ns:List Int} {y:Rw}:RL[j]?=some r->wM RL ns (r.2.2.1,r.2.2.2++w) y->wM RL ((j:Int)::ns) (r.1,r.2.1::w) y
section
variable {X:Cx}{K:LM}{Fr:fG}{CN CT:Addr}{H H':Hp}{D:Ends}{σ:L2.St}{vs:List V}{Q:VK}{E:XK}
inductive tj:Sp
 |mk {H:Hp} {x:Int} {Q:VK} {E:XK} (k:Q (.bl true) H):tj [.int x] H Q E
theorem vQ (h:tj vs H Q E):vs.length=1:=by cases h;rfl
theorem yB (h:tj vs H Q E):Hh K (eQ Q) (bc (nS 1) vs) H:=by obtain @⟨H,x,Q,E,k⟩:=h;exact Reads.Ga (dd:=.int x) (.va rfl) (.inl (.int x)) uF _ ⟨true,rfl,di (Reads.Ga (dd:=.int x) (.va rfl) (.inl (.int x)) rX _ ⟨false,rfl,k⟩)⟩
inductive v9:Sp
 |mk {H:Hp} {p sp sl nl:Addr} {RL:List Pz.Rule} {x y:Rw} {ns:List Int} {Q:VK} {E:XK} (hr:RlAt H p RL) (hs:H sp=some (.tup [.int x.1,.ref sl])) (hl:Rd H sl (.lst (x.2.map .int))) (hn:Rd H nl (.lst (ns.map .int))) (w:wM RL ns x y) (z1:ns.length<=1000) (z2:x.2.length<=1000) (hp:∀ r∈RL,r.2.2.2.length<=2) (k:∀ q l H',Same H H'->H' q=some (.tup [.int y.1,.ref l])->H' l=some (.lst (y.2.map .int))->Q (.ref q) H'):v9 [.ref p,.ref sp,.ref nl] H Q E
theorem vR (h:v9 vs H Q E):vs.length=3:=by cases h;rfl
def FO (K:LM):TE:=g7 (gk K) (ai (tI K 0 2) aC)
def FP (K:LM):TT:=yT (o_ (tB (bC tj [] E0 (ai (ao 5) aC)))) (o_ (bv (t8 (tM fun i j=>.bl (decide (i<=j))) Es (tC (.int 0)) (ao 5) (FO K))))
def FQ (K:LM):TT:=yT (bv (bn A3 (ao 4) (ce aC))) (bv (bn AS (bN (ai (ao 3) (ai (bn (jx K) (ao 4) (tC (.int 0))) aC))) (bN (ai (tI K 6 0) (ai (tI K 6 1) aC)))))
def Dv (K:LM):TS:=aJ (aY (tI K 6 2) (aB 3)) (aY (bn uj (g7 (kE K) (ai (tI K 6 3) aC)) (yX (pA K) (ao 4) (jm (tC (.int 1))) gA)) (aB 4))
def FR (K:LM):TS:=aJ (cy (FP K) (bU (tC .bu)) bX) (aJ (aY (bn (jx K) (tI K 0 2) (ao 5)) (aB 6)) (aJ (cy (FQ K) (bU (tC .bu)) bX) (Dv K)))
def HE (K:LM):TS:=aJ (aY (tI K 1 0) (aB 3)) (aJ (aY (g7 (kE K) (ai (tI K 1 1) aC)) (aB 4)) (aJ (dS (cJ K (ao 2)) (aB 5) (FR K)) (bU (bN (ai (ao 3) (ai (ao 4) aC))))))
theorem A6 {Q:Bool->Hp->Prop}{ta tb:TE}{x y:Int}(ha:Makes ta σ H [.int x,.int y])(hb:∀ H',Same H H'->Makes tb σ H' [.int x,.int y])(k:∀ H',Same H H'->Q false H'):bv (bn AS ta tb) σ H Q:=ha _ fun u hu=>hb _ (aw hu) _ fun u' hu'=>⟨[.int x,.int y],Tr,Tr,⟨u,_,rfl,aw hu' _ _ af,_,_,rfl,rfl,_,_,rfl,rfl,rfl⟩,⟨u',_,rfl,af,_,_,rfl,rfl,_,_,rfl,rfl,rfl⟩,IL _,_,rfl,k _ ((aw hu).trans (aw hu'))⟩
inductive GN (p sp nl:Addr) (H1:Hp) (RL:List Pz.Rule) (ns:List Int) (y:Rw) (i:Nat):L2.St->Hp->Prop
 |mk {H':Hp} {x:Rw} {l:Addr} {x5 x6:Option V}:Same H1 H'->H' l=some (.lst (x.2.map .int))->wM RL (ns.drop i) x y->x.2.length<=1000+i->GN p sp nl H1 RL ns y i [some (.ref p),some (.ref sp),some (.ref nl),some (.int x.1),some (.ref l),x5,x6] H'
theorem yC (h:v9 vs H Q E):HE K (eQ Q) (bc (nS 7) vs) H:=by
 obtain @⟨H,p,sp,sl,nl,RL,x,y,ns,Q,E,⟨a0,b0,rl,ws,hp,hrl,ir⟩,hs,hl,hn,w,z1,z2,hp2,k⟩:=h;refine Reads.ix (n:=0) (.va (i:=1) rfl) hs (v:=.int x.1) rfl _ (Reads.ix (n:=1) (.va (i:=1) rfl) hs (v:=.ref sl) rfl _ ⟨sl,_,rfl,.inl (.inl hl),fun l hl'=>?_⟩);have s1:=aw (o:=.lst (x.2.map .int)) hl';have h1:upd H l (.lst (x.2.map .int)) l=some (.lst (x.2.map .int)):=af;generalize upd H l (.lst (x.2.map .int))=H1 at s1 h1;refine dQ (tl:=ao 2) ⟨_,rfl,nl,rfl,⟨_,.inl (aX s1 hn)⟩,?_⟩;refine eR (K:=K) (a:=nl) (xs:=ns.map .int) (GN p sp nl H1 RL ns y) (.mk (fun _ _ e=>e) h1 w (by lia)) (fun i σ' H' _ z=>by cases z with|mk s _ _ _=>exact .inl (aX (s1.trans s) hn)) (fun i v σ' H' hi z=>?_) fun σ' H' z=>?_
 .obtain @⟨H',x,l,x5,x6,s,hl,w,z⟩:=z;have li:=(Iv.mp hi).1;rw[Iq]at li;rw[IE,Ir li]at hi;cases hi;rw[JE li]at w;generalize ns[i]=n at w;generalize hd:ns.drop (i+1)=rs at w;cases w with
  | @cons j r w rs y hj w'=>
  have s01:=s1.trans s;obtain⟨wv,ewv⟩ : ∃ wv,ws[j]?=some wv:=⟨_,Ir (by rw[<- ir.len];exact(Iv.mp hj).1)⟩;have lj:=(Iv.mp ewv).1;obtain⟨r',er',hr'⟩:=ir.get ewv;rw[hj]at er';cases er';obtain⟨b,q,rfl,hb,hq⟩:=IsRule.keep (.of s01) _ _ hr';have r02:∀{σ:L2.St}{H'},Same H H'->σ[0]?=some (some (.ref p))->Reads (tI K 0 2) σ H' (.ref rl):=fun s e=>.ix (n:=2) (.va e) (s _ _ hp) (v:=.ref rl) rfl;refine⟨_,rfl,.mk ⟨_,rfl,cg ⟨_,rfl,_,_,rfl,rfl,_,rfl,?_⟩⟩⟩;rw[IJ (Int.natCast_nonneg j)];refine di (Reads.yP (r02 s01 rfl) (aX s01 hrl) _ ⟨_,_,rfl,rfl,_,rfl,?_⟩);rw[IJ (by lia)];refine cg (Reads.EC (j:=j) (r02 s01 rfl) (.va rfl) (aX s01 hrl) ewv rfl _ ?_);refine⟨_,rfl,IL _,fun e he=>?_⟩;have t1:=aw (o:=.lst []) he;have e1:upd H' e (.lst []) e=some (.lst []):=af;generalize upd H' e (.lst [])=G1 at t1 e1;refine⟨l,e,_,rfl,rfl,.inl (t1 _ _ hl),e1,_,rfl,cg ?_⟩;refine A6 (x:=r.1) (y:=r.2.1) (.t (.c (.va rfl) (.c (.EC (j:=0) (v:=.int r.2.1) (.va rfl) .k (.inl (t1 _ _ hl)) rfl rfl) .ni)) rfl) (fun G2 t2=>.t (.c (.ix (n:=0) (.va rfl) (t2 _ _ (t1 _ _ hb)) (v:=.int r.1) rfl) (.c (.ix (n:=1) (.va rfl) (t2 _ _ (t1 _ _ hb)) (v:=.int r.2.1) rfl) .ni)) rfl) fun G3 t3=>cg ?_;have t13:=t1.trans t3;have b3:=t13 _ _ hb;have q3:=t13 _ _ hq;have l3:=t13 _ _ hl;show Dv K _ [some (.ref p),some (.ref sp),some (.ref nl),some (.int r.1),some (.ref l),some (.int j),some (.ref b)] G3;refine Reads.ix (n:=2) (.va (i:=6) rfl) b3 (v:=.int r.2.2.1) rfl _ (Reads.ix (n:=3) (.va (i:=6) rfl) b3 (v:=.ref q) rfl _ ⟨q,_,rfl,.inr (SqT.of q3),fun m1 hm1=>⟨_,rfl,1,rfl,l,_,rfl,SqL.of (aw hm1 _ _ l3),fun m2 hm2=>?_⟩⟩);have ec:iZ ((r.2.1::w).map V.int) (some 1) none=w.map .int:=je _ 1;rw[ec];have v1:=aw (o:=.lst (r.2.2.2.map .int)) hm1;have c1:upd G3 m1 (.lst (r.2.2.2.map .int)) m1=some (.lst (r.2.2.2.map .int)):=af;generalize upd G3 m1 (.lst (r.2.2.2.map .int))=G4 at v1 c1 hm2;have v2:=aw (o:=.lst (w.map .int)) hm2;have c2:upd G4 m2 (.lst (w.map .int)) m2=some (.lst (w.map .int)):=af;have c12:=v2 _ _ c1;generalize upd G4 m2 (.lst (w.map .int))=G5 at v2 c2 c12;have hpr:=hp2 r (IH hj);have zw:w.length+1<=1000+i:=z;refine⟨m1,m2,_,_,rfl,rfl,c12,c2,K7 (qa (by simp;lia)),fun m3 hm3=>?_⟩;have v3:=aw (o:=.lst (r.2.2.2.map V.int++w.map .int)) hm3;exact .mk (x:=(r.2.2.1,r.2.2.2++w)) (((s.trans t13).trans (v1.trans v2)).trans v3) (by rw[af,IW]) (by rw[hd];exact w') (by show(r.2.2.2++w).length<=_;rw[IF];lia)
 .obtain @⟨H',x,l,x5,x6,s,hl,w,z⟩:=z;rw[Iq,List.drop_length]at w;cases w;refine fU (σ:=[some (.ref p),some (.ref sp),some (.ref nl),some (.int y.1),some (.ref l),x5,x6]) (ws:=[.int y.1,.ref l]) (.c (.va (i:=3) rfl) (.c (.va (i:=4) rfl) .ni)) rfl fun q hq=>k q l _ ((s1.trans s).trans (aw hq)) af (aw hq _ _ hl)
def kG (o:Option Int):Int:=o.getD 60
inductive v_ (Fr:fG) (CN CT:Addr):Sp
 |mk {H:Hp} {p mp sp:Addr} {t:Pz.TD} {room:Int} {mo:Option Int} {aV ends U:List Int} {RL:List Pz.Rule} {Q:VK} {E:XK} (i:nB Fr H p mp sp t room aV ends U) (hr:RlAt H p RL) (nd:(t.map (·.1)).Nodup) (al:∀ as e c,iT t room as e c->as.map (·.2.1)=aV->c<=kG mo->∃ n ns,gu RL t n as ns/\n<1000000) (xn:∀ L r,jF t room aV ends L r none->False)
  (k:∀ L r v e as n ns l H',Same H H'->jF t room aV ends L r (some (v,e))->v<=kG mo->iT t room as e v->as.map (·.2.1)=aV->gu RL t n as ns->H' l=some (.lst (ns.map .int))->Q (.ref l) H') (x:∀ L r v e H',Same H H'->jF t room aV ends L r (some (v,e))->kG mo<v->Q .bu H'):v_ Fr CN CT [.ref p,.ref mp,.ref sp,vO mo] H Q E
theorem vS (h:v_ Fr CN CT vs H Q E):vs.length=4:=by cases h;rfl
def Dw (Fr:fG)(CN CT:Addr)(ta:TA)(dv:List V):TX:=fun σ H Q EX=>ta σ H fun vs H1=>tE Fr CN CT (vs++dv) H1 Q EX
def yD:TS:=aY (tC .bu) (aB 4)
def FS (X:Cx)(Fr:fG)(CN CT:Addr):TS:=fun D σ H=>bv (bn mS (ao 3) (tC .bu)) σ H fun b H1=>if b=true then Dw Fr CN CT (ai (ao 0) (ai (ao 1) (ai (ao 2) aC))) [.int 60] σ H1 (fun v H2=>D.nx (σ.set 4 (some v)) H2) (L2.f_ X CT yD D σ) else Dw Fr CN CT (ai (ao 0) (ai (ao 1) (ai (ao 2) (ai (ao 3) aC)))) [] σ H1 (fun v H2=>D.nx (σ.set 4 (some v)) H2) (L2.f_ X CT yD D σ)
def HF (X:Cx)(Fr:fG)(CN CT:Addr):TS:=aJ yD (aJ (FS X Fr CN CT) (bU (ao 4)))
theorem yE (hx:PySem.W.excIn X.K CT n5 "ValueError.__new__"=true) (hm:(j6 X.K CT).contains (.ref CT)=true) (h:v_ Fr CN CT vs H Q E):HF X Fr CN CT (eQ Q) (bc (nS 5) vs) H:=by
 obtain @⟨H,p,mp,sp,t,room,mo,aV,ends,U,RL,Q,E,i,hr,nd,al,xn,k,x⟩:=h;have w:tE Fr CN CT [.ref p,.ref mp,.ref sp,.int (kG mo)] H (fun v H2=>bU (ao 4) (eQ Q) [some (.ref p),some (.ref mp),some (.ref sp),some (vO mo),some v] H2) (L2.f_ X CT yD { nx:=bU (ao 4) (eQ Q),rt:=Q } [some (.ref p),some (.ref mp),some (.ref sp),some (vO mo),some .bu]):=.mk i hr nd al (fun L r v e as n ns l H' s lt c pt sg ag _ hl=>⟨_,rfl,k L r v e as n ns l H' s lt c pt sg ag hl⟩) (fun L r lt=>(xn L r lt).elim) fun L r v e lt c H' s=>⟨CT,rfl,hx,hm,⟨_,rfl,x L r v e H' s lt c⟩⟩;cases mo with
 |none=>exact⟨_,rfl,rfl,_,rfl,di ⟨_,rfl,_,rfl,_,rfl,w⟩⟩
 |some m=>exact⟨_,rfl,rfl,_,rfl,cg ⟨_,rfl,_,rfl,_,rfl,_,rfl,w⟩⟩
end
end L4
namespace L2
open PySem PySem.Spec PySem.Calls PyProof.Rows
theorem sY:typeLookup (.type "list_reverseiterator") "__len__"=pure none:=by rw[typeLookup_type,builtinLookup_eq_fast];kernel_rfl
theorem vT:typeLookup (.type "list_reverseiterator") "__length_hint__"=pure (some (.builtin "list_reverseiterator.__length_hint__")):=by rw[typeLookup_type,builtinLookup_eq_fast];kernel_rfl
section
variable {prog:LN}{w:World}{A:LP}{E:LO->LL->Prop}{s:LL}
theorem lg {Q:LO->LL->Prop}{it l:Addr}{items:Array LO}(hh:A.handled=none)(hi:s.heap.IsRevIter it l ((items.size:Int)-1-((0:Nat):Int)))(hl:s.heap.IsList l items)(hne:l≠it)(hz:items.size<=1000)
 (hQ:∀ h' tk acc c,(∀ b o,b≠it->s.heap.get? b=some o->h'.get? b=some o)->h'.get? s.heap.objs.size=some { cls:=.type "list",dict:=none,data:=.seq acc c,slots:=#[] }->ItemsOf (fun i v=>items[items.size-1-i]?=some v) acc items.size->Q (.ref s.heap.objs.size) { s with heap:=h',toks:=tk }) :
 wpAny (model prog w) A (call (.type "list") [.ref it]) Q E s:=by
 obtain⟨oi,ei,_⟩:=id hi;obtain⟨ol,el,_⟩:=id hl;have lti:=Iz ei;have ltl:=Iz el;refine callType_codes (Q₁:=fun obj s₁=>obj=.ref s.heap.objs.size/\s₁={ s with heap:=s.heap.push { cls:=.type "list",data:=.seq #[] } }) F.called_list (F.typeCall_list_1 _) F.entry_list_init (code_list_new _ ⟨rfl,rfl⟩) fun obj s₁ h₁=>?_;obtain⟨rfl,rfl⟩:=h₁;have hS:(s.heap.push { cls:=.type "list",data:=.seq #[] }).get? s.heap.objs.size=some { cls:=.type "list",data:=.seq #[] }:=IG _ rfl;refine⟨⟨_,hS,rfl⟩,F.args_list_init_2 _ _,?_⟩;show wpAny _ _ (do let old <- Builtin.List.listItems (.ref s.heap.objs.size);Builtin.List.listUpdate (.ref s.heap.objs.size) (fun _=>#[]);letGo old.toList.reverse;Builtin.List.listExtendWith (.ref s.heap.objs.size) (.ref it) .none) _ _ _;refine Il ?_;unfold Builtin.List.listItems;refine Il (K5 hS rfl (Iu ?_));show wpAny _ _ (updateSeq s.heap.objs.size (fun _=>#[]) >>= fun _=>letGo (#[]:Array LO).toList.reverse >>= fun _=>Builtin.List.listExtendWith (.ref s.heap.objs.size) (.ref it) .none) _ _ _;refine Il (Lo hS rfl ?_);have hS2:=Ka (Obj.mapSeq (fun _=>(#[]:Array LO))) hS rfl;have oth:∀ b o,s.heap.get? b=some o->((s.heap.push { cls:=.type "list",data:=.seq #[] }).update s.heap.objs.size (Obj.mapSeq (fun _=>(#[]:Array LO)))).get? b=some o:=fun b o e=>(Jo _ _ (J7 (Iz e))).trans (Ip _ e);refine Il (Lj ?_);generalize ((s.heap.push { cls:=.type "list",data:=.seq #[] }).update s.heap.objs.size (Obj.mapSeq (fun _=>(#[]:Array LO))))=h2 at hS2 oth;have st:(0:Nat)<=items.size/\h2.IsRevIter it l ((items.size:Int)-1-((0:Nat):Int))/\h2.IsList l items:=⟨IL _,hi.at fun o e=>oth _ _ e,hl.at fun o e=>oth _ _ e⟩;have W:=(Walks.listRev (prog:=prog) (w:=w) (A:=A.in1.in1) hh it l hne items).toS;have h1:Builtin.List.listSameRef (.ref s.heap.objs.size) (.ref it)=false:=by simp[Builtin.List.listSameRef,J7 lti]
 have hT:({ s with heap:=h2 }:LL).TypeIs (.ref it) "list_reverseiterator":=st.2.1.typeIs (s:={ s with heap:=h2 });unfold Builtin.List.listExtendWith;refine Il (wpAny_typeOf hT ?_);rw[IK (by rw[h1];decide)];refine Il (La (s:={ s with heap:=h2 }) st.2.1 ?_);refine Il (JW ?_);unfold Builtin.List.listLengthHint;refine Il (wpAny_specialOf hT sY ?_);show wpAny _ _ (specialOf (Value.ref it) (Str.ofString "__length_hint__") >>= _) _ _ _;refine Il (wpAny_specialOf hT vT ?_)
 (generalize hid:("list_reverseiterator.__length_hint__" : String)=id0;(fail_if_success (clear hid id0));wp_delta;rw[show splitId id0=some ("list_reverseiterator", "__length_hint__") from by subst hid;decide +kernel];subst hid)
 refine Il (wpAny_isInstance (b:=true) hT (by rw[isSubtype_type];kernel_rfl) ?_);refine Iu ?_;rw[IK (by decide)];refine Iu ⟨Kx F.plain_extend_loop _,codeAny_extend_loopS W (by rw[IY];lia) _ (by simp only[ID,IC,K6,not_or];exact⟨J7 lti,J7 ltl⟩) _ items.size 0 _ _ _ rfl (IL _) st hS2 (ItemsOf.nil _) fun s' acc' c' hm hS' hacc=>?_⟩;rw[Moved.eq_with hm];refine⟨rfl,hQ s'.heap s'.toks acc' c' (fun b o n e=>hm.heap b o (fun hmem=>?_) (oth b o e)) hS' hacc⟩;rcases ID.mp hmem with e'|hmem
 .exact absurd (Iz e) (by rw[e'];exact JI _)
 .exact n (IA.mp hmem)
end
section
variable {X:Cx}
def zy (K:LM)(ta:TA):TE:=fun σ H Q=>ta σ H fun vs H1=>∃ a xs,vs=[.ref a]/\SqL K H1 a xs/\xs.length<=1000/\∀ l,H1 l=none->Q (.ref l) (upd H1 l (.lst xs.reverse))
theorem yF {a:Expr} {ta:TA} {p pos p2 pos2:Pos} (hc:X.calm=true) (hgl:Gl X "list") (hml:X.mg "list"=none) (hvl:bootBuiltins "list"=some (.type "list")) (hg:Gl X "reversed") (hm:X.mg "reversed"=none) (ha:PA X [a] ta) (hs:autoParam (starEach [a] X.env=[(false,eval a X.env)]) LW._auto_1)
 (hs2:autoParam (starEach [.Call (.Name "reversed" p2) [a] [] pos2] X.env=[(false,eval (.Call (.Name "reversed" p2) [a] [] pos2) X.env)]) LW._auto_1):PE X (.Call (.Name "list" p) [.Call (.Name "reversed" p2) [a] [] pos2] [] pos) (zy X.K ta):=by
 intro ae s σ H Q I h;refine Call_ (fq I hgl hml hvl (JA ?_ hs2 rfl));rw[hs2];show wpAny _ _ (spliced ((false,eval (.Call (.Name "reversed" p2) [a] [] pos2) X.env)::[])) _ _ s;refine J8 (Call_ (fq I hg hm boot_reversed (JA (bI (ha pos2 ae s σ H _ I h) fun us s1 ⟨vs,H1,I1,r1,q1⟩=>?_) hs rfl)));obtain⟨a,xs,rfl,hq,hx,q⟩:=q1;obtain⟨u,rfl,ru⟩:=eS r1;obtain rfl:u=Value.ref a:=ru;obtain⟨its,rv,pl,hz⟩:=I1.list hq;refine call_reversed_list pl.isList (Kw ?_);have ln:=rv.length;obtain⟨ol,el,_⟩:=id pl.isList;have lta:=Iz el;have hit:(s1.heap.push (revObj a ((its.toArray.size:Int)-1))).IsRevIter s1.heap.objs.size a ((its.toArray.size:Int)-1-((0:Nat):Int)):=⟨_,IG _ rfl,rfl,by simp[revObj]⟩;have hli:(s1.heap.push (revObj a ((its.toArray.size:Int)-1))).IsList a its.toArray:=pl.isList.at fun o e=>Ip _ e;refine lg (s:={ s1 with heap:=s1.heap.push (revObj a ((its.toArray.size:Int)-1)) }) (I1.ok.hd hc) hit hli (IN lta) (by rw[IB];lia) fun h' tk acc c' kp e it=>?_;obtain⟨i1,i2⟩:=it;have la:acc.toList.length=its.length:=by rw[JY];simpa using i1
 rw[IB]at i2;have kp1:∀ b o,s1.heap.get? b=some o->h'.get? b=some o:=fun b o e=>kp b o (IN (Iz e)) (Ip _ e);have rv':Vals xs.reverse acc.toList:=by
  refine qG (by rw[J1,la,ln]) fun i v w ev ew=>?_;have hi:=(Iv.mp ev).1;rw[J1]at hi;have e2:=i2 i w (by rw[<- J9];exact ew);rw[List.getElem?_reverse hi]at ev;obtain⟨u,eu,ru⟩:=rv.get ev;rw[<- ln]at e2;have e2:its[xs.length-1-i]?=some w:=by simpa using e2
  rw[eu]at e2;cases e2;exact ru
 have e:h'.get? (s1.heap.push (revObj a ((its.toArray.size:Int)-1))).objs.size=some { cls:=.type "list",dict:=none,data:=.seq acc.toList.toArray c',slots:=#[] }:=by rw[Array.toArray_toList];exact e
 have sz:s1.heap.objs.size<=(s1.heap.push (revObj a ((its.toArray.size:Int)-1))).objs.size:=by unfold Heap.push;simp
 exact⟨.ref _,_,I1.laid (t':=tk) kp1 sz (show ObjOk X.prog X.w _ h' _ (.lst xs.reverse) from⟨by rw[J1,IY];lia,acc.toList,c',rv',e⟩),rfl,q _ (I1.aO.fresh sz)⟩
end
end L2
namespace L4
open PySem PySem.Spec PyProof.Rows L2 L3
theorem aS.take {α β:Type}{R:α->β->Prop}{xs:List α}{ys:List β}(h:aS R xs ys):∀ j,aS R (xs.take j) (ys.take j):=by
 induction h with
 |nil=>intro j;rw[List.take_nil,List.take_nil];exact .nil
 |cons a t ih=>
  intro j;cases j with
  |zero=>exact .nil
  |succ j=>exact .cons a (ih j)
theorem aS.rev {α β:Type}{R:α->β->Prop}{xs:List α}{ys:List β}(h:aS R xs ys):aS R xs.reverse ys.reverse:=by
 induction h with
 |nil=>exact .nil
 |cons a t ih=>rw[K1,K1];exact ih.snoc a
theorem l4 (xs:List V)(j:Nat):iZ xs none (some (j:Nat))=xs.take j:=by
 unfold iZ;have e0:HT.sIx xs.length 0 none=0:=rfl;have e:HT.sIx xs.length xs.length (some ((j:Nat):Int))=min j xs.length:=by unfold HT.sIx;simp only;split<;>lia
 rw[e0,e,List.drop_zero,Nat.sub_zero];by_cases h:j<=xs.length
 .rw[Nat.min_eq_left h]
 .rw[LI (by lia),Jp,Jx (by lia)]
theorem sZ (l:List Int)(a b:Option Int):∃ cs:List Int,iZ (l.map V.int) a b=cs.map .int:=by unfold iZ;rw[<- List.map_drop,<- List.map_take];exact⟨_,rfl⟩
structure yR (room:Int) (TL:List Pz.Rule) (ks:List Int) (S:Int->Int) (t:Pz.TD):Prop where
 nd:(t.map (·.1)).Nodup
 z:t.length<1000
 u:∀ x∈t,x.1.2.2=room
 eq:p_ (wB t) (ks.map fun g=>(ak (room,g,room),V.int (S g)))=true
 kz:(0:Int)∈ks/\0<ks.length/\ks.length<1000
 km:∀ x:Int,x % (ks.length:Nat)∈ks
 le:∀ aV,(∀ x∈aV,x∈ks)->∀ L r o,jF t room aV [room] L r o->∃ e,o=some ((aV.map S).sum,e)
 ot:∀ aV e L r o,e≠room->jF t room aV [e] L r o->o=none
 al:∀ as e c,iT t room as e c->c<=400->as.length<=3->∃ n ns,gu TL t n as ns/\n<1000000
 wk:∀ as e c n ns,iT t room as e c->gu TL t n as ns->wM TL ns (room,as.map (·.2.1)) (room,[])/\(ns.length:Int)=c
 p2:∀ r∈TL,r.2.2.2.length<=2
structure F7 (Fr:fG) (sc:List Int):Prop where
 z:sc.length<=63
 k:∀ RL last ks S TL,Dp (jw sc 0 / 3 % 6 % (1+jw sc 0 % 3)) last RL->RL.length<=61->tR RL ks S->(∀ r,r∈TL↔r∈RL)->TL.length=RL.length->∃ t,(∀ ends:List Int,Fr [dj (1+jw sc 0 % 3) (ks.length:Nat) TL,.tup [.int (1+jw sc 0 % 3),.lst [],.lst (ends.map .int)]]=.ok (.o0 (d7 t)))/\yR (jw sc 0 / 3 % 6 % (1+jw sc 0 % 3)) TL ks S t
structure ql (H0 H:Hp) (a0:Addr) (sc:List Int) (sd tl hp:Addr) (ws:List V) (rooms:Int) (TL:List Pz.Rule) (ks:List Int) (S:Int->Int):Prop where
 s:Same H0 H
 i:Rd H a0 (.lst (sc.map .int))
 sm:H sd=some (.dK (hJ ks fun g=>.int (S g)))
 l:H tl=some (.lst ws)
 ir:aS (IsRule H) TL ws
 h:H hp=some (.tup [.int rooms,.int (ks.length:Nat),.ref tl])
def nc (a0:Addr)(seed rooms room:Int)(rl sd:Addr)(turn:Int)(tl:Addr)(rest:L2.St):L2.St:=some (.ref a0)::some (.int seed)::some (.int rooms)::some (.int room)::some (.ref rl)::some (.ref sd)::some (.int turn)::some (.ref tl)::rest
section
variable {X:Cx}{K:LM}{H0 H H':Hp}{D:Ends}{ws:List V}{a0 sd tl hp rl:Addr}{sc:List Int}{seed rooms room turn:Int}{TL RL:List Pz.Rule}{ks:List Int}{S:Int->Int}{rest:L2.St}{tb:TS}
theorem ql.more (a:ql H0 H a0 sc sd tl hp ws rooms TL ks S)(s:Same H H'):ql H0 H' a0 sc sd tl hp ws rooms TL ks S:=⟨a.s.trans s,aX s a.i,s _ _ a.sm,s _ _ a.l,a.ir.mono (IsRule.keep (.of s)),s _ _ a.h⟩
def yG (a b:Int):TE:=bn cE (bn kF (ao 1) (tC (.int a))) (tC (.int b))
structure GH (X:Cx) (scope:Scope) (tg elt:Expr) (tN:List Str):Prop where
 h:tN.length=1
 g:∀ cl C s3 H3 fp,PG (b_ X scope (tN++[]) cl C s3 H3 fp) tg (aB 0)
 e:∀ cl C s3 H3 fp,PE (b_ X scope (tN++[]) cl C s3 H3 fp) elt (bC qi [] E0 (ai (ao 0) aC))
def A7 (K:LM)(tb:TS):TS:=aJ (aY (bN (ai (ao 2) (ai (g7 oA (ai (ao 5) aC)) (ai (ao 7) aC)))) (aB 8)) tb
def Dx (K:LM)(tb:TS):TS:=aJ (cy (bv (bn rC (yG 1098 2) (tC (.int 1)))) (aY (L2.zy K (ai (ao 7) aC)) (aB 7)) bX) (A7 K tb)
def FT (K:LM)(tb:TS):TS:=aJ (aY (bn uj (yX (pA K) (ao 4) (jm (ao 6)) gA) (yX (pA K) (ao 4) gA (jm (ao 6)))) (aB 7)) (Dx K tb)
def Dy (K:LM)(tb:TS):TS:=aJ (aY (bn cE (yG 18 61) (C9 K 4)) (aB 6)) (FT K tb)
def FU (K:LM)(tb:TS):TS:=aJ (aY (bC wz [] E0 (ai (ao 4) aC)) (aB 5)) (Dy K tb)
def FV (X:Cx)(scope:Scope)(tg elt:Expr)(tN:List Str)(tb:TS):TS:=aJ (aY (bC wy [] E0 (ai (jo X scope tg tN [] [] elt [] (cJ X.K (yX (pA X.K) (ao 0) (jm (tC (.int 3))) (jm (tC (.int 63)))))) (ai (ao 3) aC))) (aB 4)) (FU X.K tb)
def FW (X:Cx)(scope:Scope)(tg elt:Expr)(tN:List Str)(tb:TS):TS:=aJ (aY (bn cE (yG 3 6) (ao 2)) (aB 3)) (FV X scope tg elt tN tb)
def Dz (X:Cx)(scope:Scope)(tg elt:Expr)(tN:List Str)(tb:TS):TS:=aJ (aY (bC lD [] E0 (ai (ao 0) (ai (tC (.int 0)) aC))) (aB 1)) (aJ (aY (bn ck (tC (.int 1)) (bn cE (ao 1) (tC (.int 3)))) (aB 2)) (FW X scope tg elt tN tb))
theorem Gz {x8:Option V}{rest:L2.St}(i:Rd H a0 (.lst (sc.map .int)))(sm:H sd=some (.dK (hJ ks fun g=>.int (S g))))(zk:ks.length<1000)(l:H tl=some (.lst ws))(ir:aS (IsRule H) TL ws)(k:∀ hp H',ql H H' a0 sc sd tl hp ws rooms TL ks S->tb D (nc a0 seed rooms room rl sd turn tl (some (.ref hp)::rest)) H'):A7 K tb D (nc a0 seed rooms room rl sd turn tl (x8::rest)) H:=by
 delta A7 aJ aY
 refine⟨_,rfl,_,rfl,⟨sd,_,_,rfl,.inl rfl,.inl sm,by rw[Iq,IY];lia,?_⟩⟩;rw[Iq];refine⟨_,rfl,by show 3<=_;rw[IY];lia,fun hp hhp=>?_⟩;have s1:=aw (o:=.tup [.int rooms,.int (ks.length:Nat),.ref tl]) hhp;exact k hp _ ⟨s1,aX s1 i,s1 _ _ sm,s1 _ _ l,ir.mono (IsRule.keep (.of s1)),af⟩
theorem HG {x6 x7 x8:Option V}{rest:L2.St}{last:Int}(i:Rd H a0 (.lst (sc.map .int)))(sm:H sd=some (.dK (hJ ks fun g=>.int (S g))))(zk:ks.length<1000)(hl:H rl=some (.lst ws))(ir:aS (IsRule H) RL ws)(dp:Dp room last RL)(hz:RL.length<=61)
 (k:∀ turn tl TL ws hp H1 H',Same H H1->ql H1 H' a0 sc sd tl hp ws rooms TL ks S->(∀ r,r∈TL↔r∈RL)->TL.length=RL.length->tb D (nc a0 seed rooms room rl sd turn tl (some (.ref hp)::rest)) H'):Dy K tb D (some (.ref a0)::some (.int seed)::some (.int rooms)::some (.int room)::some (.ref rl)::some (.ref sd)::x6::x7::x8::rest) H:=by
 have ln:=ir.len;have pos:0<RL.length:=by obtain⟨r,hr,_⟩:=dp.s 0 (J0 _) dp.l;exact KY hr
 have p0:(0:Int)<(ws.length:Nat):=by lia
 refine Reads.mod (.mod (.dv (.va rfl) .k ⟨by decide,by decide⟩) .k (by decide)) (.yP (.va rfl) (.inl hl)) p0 _ ?_;have b:=Km (seed / 18 % 61) (Int.ne_of_gt p0);generalize seed / 18 % 61 % ((ws.length:Nat):Int)=tn at b;obtain⟨n,rfl⟩:=Jj b;refine⟨_,rfl,_,rfl,_,rfl,rl,ws,rfl,SqL.of hl,fun b1 hb1=>⟨_,rfl,_,rfl,_,rfl,rl,ws,rfl,SqL.of (aw hb1 _ _ hl),fun b2 hb2=>?_⟩⟩;rw[je]at hb2 ⊢;rw[l4];have t1:=aw (o:=.lst (ws.drop n)) hb1;have c1:upd H b1 (.lst (ws.drop n)) b1=some (.lst (ws.drop n)):=af;generalize upd H b1 (.lst (ws.drop n))=G1 at t1 c1 hb2;have t2:=aw (o:=.lst (ws.take n)) hb2;have c2:upd G1 b2 (.lst (ws.take n)) b2=some (.lst (ws.take n)):=af;have c12:=t2 _ _ c1;generalize upd G1 b2 (.lst (ws.take n))=G2 at t2 c2 c12;refine⟨b1,b2,_,_,rfl,rfl,c12,c2,by rw[IY,Ko,Jt];lia,fun tl htl=>?_⟩;have t3:=aw (o:=.lst (ws.drop n++ws.take n)) htl;have c3:upd G2 tl (.lst (ws.drop n++ws.take n)) tl=some (.lst (ws.drop n++ws.take n)):=af;generalize upd G2 tl (.lst (ws.drop n++ws.take n))=G3 at t3 c3;have t13:=(t1.trans t2).trans t3;have ir3:aS (IsRule G3) (RL.drop n++RL.take n) (ws.drop n++ws.take n):=((ir.drop n).app (ir.take n)).mono (IsRule.keep (.of t13));have mem:∀ r,r∈RL.drop n++RL.take n↔r∈RL:=fun r=>by rw[IR,Or.comm,<- IR,Kb]
 have len:(RL.drop n++RL.take n).length=RL.length:=by rw[IF,Ko,Jt];lia
 show Dx K tb D (nc a0 seed rooms room rl sd (n:Nat) tl (x8::rest)) G3;refine iC (.Bz (.mod (.dv (.va rfl) .k ⟨by decide,by decide⟩) .k (by decide)) .k) (fun _=>?_) fun _=>?_
 .refine⟨_,rfl,tl,_,rfl,SqL.of c3,by rw[<- ir3.len,len];lia,fun t2l ht2=>?_⟩;have t4:=aw (o:=.lst (ws.drop n++ws.take n).reverse) ht2;have c4:upd G3 t2l (.lst (ws.drop n++ws.take n).reverse) t2l=some (.lst (ws.drop n++ws.take n).reverse):=af;generalize upd G3 t2l (.lst (ws.drop n++ws.take n).reverse)=G4 at t4 c4;have t14:=t13.trans t4;exact Gz (K:=K) (aX t14 i) (t14 _ _ sm) zk c4 (ir3.rev.mono (IsRule.keep (.of t4))) fun hp H' a=>k n t2l _ _ hp _ H' t14 a (fun r=>by rw[List.mem_reverse];exact mem r) (by rw[J1];exact len)
 .exact Gz (K:=K) (aX t13 i) (t13 _ _ sm) zk c3 ir3 fun hp H' a=>k n tl _ _ hp _ H' t13 a mem len
theorem HH {scope:Scope}{tg elt:Expr}{tN:List Str}{x1 x2 x3 x4 x5 x6 x7 x8:Option V}{rest:L2.St}(c:GH X scope tg elt tN)(i:Rd H a0 (.lst (sc.map .int)))(zs:sc.length<=63)
 (k:∀ RL last ks S rl sd turn tl TL ws hp H1 H',Dp (jw sc 0 / 3 % 6 % (1+jw sc 0 % 3)) last RL->RL.length<=61->tR RL ks S->(∀ r,r∈TL↔r∈RL)->TL.length=RL.length->Same H H1->ql H1 H' a0 sc sd tl hp ws (1+jw sc 0 % 3) TL ks S->tb D (nc a0 (jw sc 0) (1+jw sc 0 % 3) (jw sc 0 / 3 % 6 % (1+jw sc 0 % 3)) rl sd turn tl (some (.ref hp)::rest)) H'):Dz X scope tg elt tN tb D (some (.ref a0)::x1::x2::x3::x4::x5::x6::x7::x8::rest) H:=by
 refine⟨_,rfl,lD.mk (k:=0) i ?_⟩;have rp:(0:Int)<1+jw sc 0 % 3:=by have:=Km (jw sc 0) (show(3:Int)≠0 by decide);lia
 generalize jw sc 0=seed at *;refine(Reads.ad .k (.mod (.va rfl) .k (by decide)):Reads (bn ck (tC (.int 1)) (bn cE (ao 1) (tC (.int 3)))) (some (.ref a0)::some (.int seed)::x2::x3::x4::x5::x6::x7::x8::rest) H (.int (1+seed % 3))) _ ?_;generalize 1+seed % 3=rooms at *;refine(Reads.mod (.mod (.dv (.va rfl) .k ⟨by decide,by decide⟩) .k (by decide)) (.va rfl) rp:Reads (bn cE (yG 3 6) (ao 2)) (some (.ref a0)::some (.int seed)::some (.int rooms)::x3::x4::x5::x6::x7::x8::rest) H (.int (seed / 3 % 6 % rooms))) _ ?_;generalize seed / 3 % 6 % rooms=room at *;obtain⟨cs,ec⟩:=sZ sc (some 3) (some 63);have lc:cs.length<=60:=by have:=vg (sc.map V.int) 3 60 (by decide) (by decide);rw[show((3:Int)+60)=63 from rfl,ec,Iq]at this;exact this
 refine⟨_,rfl,_,rfl,_,rfl,a0,_,rfl,.inl i,fun b hb=>?_⟩;rw[ec];have t1:=aw (o:=.lst (cs.map .int)) hb;have c1:upd H b (.lst (cs.map .int)) b=some (.lst (cs.map .int)):=af;generalize upd H b (.lst (cs.map .int))=G1 at t1 c1;refine⟨b,rfl,⟨_,SqL.of c1⟩,?_⟩;refine m8 (n:=cs.length) c.g (fun _ _ _ _ _=>iA) c.e (fun Dl i acc H'=>Same G1 H'/\H' Dl=some (.lst acc)/\acc=((cs.take i).map A1).map .int/\G1 Dl=none) (fun Dl hD=>⟨aw hD,af,rfl,hD⟩) (fun h=>h.2.1) (fun Dl i acc H' ⟨sm,_⟩ hi=>⟨_,.int cs[i],SqL.of (sm _ _ c1),by rw[IE,Ir hi];rfl⟩) (fun Dl acc H' ⟨sm,_⟩=>⟨_,SqL.of (sm _ _ c1),by rw[Iq];exact Im _⟩) (fun Dl i acc H' xv H'' ol hi ⟨sm,hD,ea,nD⟩ y hol=>?_) fun Dl acc H' hD ⟨sm,hD',ea,_⟩=>?_
 .obtain⟨rfl,y⟩:=y;have y:=y _ (SqL.of (sm _ _ c1));rw[IE,Ir hi]at y;cases y;rw[c.h]at hol;obtain⟨u0,rfl⟩:=KZ.mp hol;refine⟨fun j hj=>?_,di ⟨_,rfl,.mk ⟨hD,qa (by rw[ea];simp;lia),fun c u e=>by rw[au (am e nD)];exact sm _ _ e,af,?_,nD⟩⟩⟩
  .rw[c.h]at hj;obtain⟨j,rfl⟩:=JT hj;rfl
  .rw[ea,Jf,Ir hi,IW,IW];rfl
 rw[Jp]at ea;subst ea;have t2:=t1.trans sm;refine⟨_,rfl,.mk (.inl hD') (by rw[Iq];exact lc) fun rl ws RL last H2 s2 nrl hrl ir dp zr=>⟨_,rfl,.mk (.inl hrl) ir dp zr fun sd ks S H3 s3 nsd hsd smr=>?_⟩⟩;have t3:=(t2.trans s2).trans s3;have lk:ks.length<=RL.length:=by refine IV (Sp.nodup_sub smr.nd (U:=RL.map (·.2.1)) fun g hg=>?_) (by rw[Iq];exact Im _);obtain⟨r,hr,e⟩:=(smr.m g).mp hg;exact IT.mpr ⟨r,hr,e⟩
 exact HG (aX t3 i) hsd (by lia) (s3 _ _ hrl) (ir.mono (IsRule.keep (.of s3))) dp zr fun turn tl TL ws hp H1 H' s a m l=>k RL last ks S rl sd turn tl TL ws hp H1 H' dp zr smr m l (t3.trans s) a
end
def zz (room:Int)(ks:List Int)(S:Int->Int):List (List ba×V):=ks.map fun g=>(ak (room,g,room),V.int (S g))
theorem qY {room g:Int}{S:Int->Int}:∀{l:List Int},g∉l->cf (zz room l S) (ak (room,g,room))=none
 | [],_=>rfl
 |x::l,h=>by rw[zz,II,cA fun z=>h (by have:=ja _ _ z;injection this with _ this;injection this with this;rw[this];exact Iy)];exact qY fun z=>h (Iw _ z)
section
variable {X:Cx}{K:LM}{Fr:fG}{H0 H H':Hp}{D:Ends}{σ:L2.St}{ws:List V}{a0 sd tl hp rl:Addr}{sc:List Int}{seed rooms room turn:Int}{TL:List Pz.Rule}{ks:List Int}{S:Int->Int}{rest:L2.St}{tb:TS}{t:Pz.TD}
theorem ql.is (a:ql H0 H a0 sc sd tl hp ws rooms TL ks S):Is H Tr (dj rooms (ks.length:Nat) TL) (.ref hp):=⟨hp,_,rfl,a.h,_,_,rfl,rfl,_,_,rfl,rfl,_,_,rfl,⟨tl,ws,rfl,.inl ⟨a.l,True.intro⟩,ve a.ir fun x _ v h=>zo h⟩,rfl⟩
def FX:TE:=bN (ai (ao 2) (ai (g7 oA (ai (ao 5) aC)) (ai (g7 (kE K) (ai (ao 7) aC)) aC)))
def DA (K:LM)(Fr:fG)(tb:TS):TS:=aJ (cy (bv (bn Dn (bC (wf Fr) [] E0 (ai (FX (K:=K)) aC)) (ao 9))) Eu bX) tb
def A8:TS:=ik (ao 9) (bN (ai (ao 3) (ai (ao 10) (ai (ao 3) aC)))) (ao 11)
def FY (X:Cx)(Fr:fG)(tb:TS):TS:=aJ (fun D σ H=>dS (Ag X (ao 5)) (dg X.K 2 (aU (aB 10) (aU (aB 11) de))) A8 (Ei X D) σ H) (DA X.K Fr tb)
def DB (X:Cx)(Fr:fG)(tb:TS):TS:=aJ (aY g8 (aB 9)) (FY X Fr tb)
theorem HI {dd:Addr}{x10 x11:Option V}(a:ql H0 H a0 sc sd tl hp ws rooms TL ks S)(Z:yR room TL ks S t)(hF:Fr [dj rooms (ks.length:Nat) TL,.tup [.int rooms,.lst [],.lst []]]=.ok (.o0 (d7 t)))(hd:H dd=some (.dT (zz room ks S)))(k:∀ H',ql H0 H' a0 sc sd tl hp ws rooms TL ks S->tb D (nc a0 seed rooms room rl sd turn tl (some (.ref hp)::some (.ref dd)::x10::x11::rest)) H'):DA K Fr tb D (nc a0 seed rooms room rl sd turn tl (some (.ref hp)::some (.ref dd)::x10::x11::rest)) H:=by
 refine⟨_,rfl,_,rfl,⟨sd,_,_,rfl,.inl rfl,.inl a.sm,by rw[Iq,IY];have:=Z.kz;lia,?_⟩⟩;rw[Iq];refine⟨_,rfl,tl,ws,rfl,.inl (SqL.of a.l),fun l2 hl2=>⟨by show 3<=_;rw[IY];lia,fun p2 hp2=>?_⟩⟩;have t1:=aw (o:=.lst ws) hl2;have c1:upd H l2 (.lst ws) l2=some (.lst ws):=af;generalize upd H l2 (.lst ws)=G1 at t1 c1 hp2;have t2:=aw (o:=.tup [.int rooms,.int (ks.length:Nat),.ref l2]) hp2;have c2:upd G1 p2 (.tup [.int rooms,.int (ks.length:Nat),.ref l2]) p2=some (.tup [.int rooms,.int (ks.length:Nat),.ref l2]):=af;have c12:=t2 _ _ c1;generalize upd G1 p2 (.tup [.int rooms,.int (ks.length:Nat),.ref l2])=G2 at t2 c2 c12;have t12:=t1.trans t2;have a2:=a.more t12;refine .mk (hD:=dj rooms (ks.length:Nat) TL) ⟨p2,_,rfl,c2,_,_,rfl,rfl,_,_,rfl,rfl,_,_,rfl,⟨l2,ws,rfl,.inl ⟨c12,True.intro⟩,ve a2.ir fun x _ v h=>zo h⟩,rfl⟩ c2 hF Z.nd Z.z fun d G3 t3 nd hd3=>?_;refine⟨_,rfl,d,dd,_,_,rfl,rfl,.inl (.inl hd3),.inl (.inl (t3 _ _ (t12 _ _ hd))),fun p hp=>?_,fun p hp=>?_,_,rfl,?_⟩
 .obtain⟨x,_,rfl⟩:=IT.mp hp;exact⟨_,rfl⟩
 .obtain⟨x,_,rfl⟩:=IT.mp hp;exact⟨_,rfl⟩
 .rw[show p_ (wB t) (zz room ks S)=true from Z.eq];exact cg (k G3 (a2.more t3))
inductive GQ (a0:Addr) (seed rooms room:Int) (rl sd:Addr) (turn:Int) (tl hp dd:Addr) (rest:L2.St) (H2:Hp) (ks:List Int) (S:Int->Int) (i:Nat):L2.St->Hp->Prop
 |mk {H':Hp} {x10 x11:Option V}:Kp dd H2 H'->H' dd=some (.dT (zz room (ks.take i) S))->GQ a0 seed rooms room rl sd turn tl hp dd rest H2 ks S i (nc a0 seed rooms room rl sd turn tl (some (.ref hp)::some (.ref dd)::x10::x11::rest)) H'
theorem HJ {x9 x10 x11:Option V}(a:ql H0 H a0 sc sd tl hp ws rooms TL ks S)(nk:ks.Nodup)(Z:yR room TL ks S t)(hF:Fr [dj rooms (ks.length:Nat) TL,.tup [.int rooms,.lst [],.lst []]]=.ok (.o0 (d7 t)))(k:∀ dd x10 x11 H',ql H0 H' a0 sc sd tl hp ws rooms TL ks S->tb D (nc a0 seed rooms room rl sd turn tl (some (.ref hp)::some (.ref dd)::x10::x11::rest)) H'):DB X Fr tb D (nc a0 seed rooms room rl sd turn tl (some (.ref hp)::x9::x10::x11::rest)) H:=by
 intro dd hdd;have s1:=aw (o:=.dT []) hdd;have h1:upd H dd (.dT []) dd=some (.dT []):=af;generalize upd H dd (.dT [])=H1 at s1 h1;have a1:=a.more s1;have nsd:sd≠dd:=am a.sm hdd;refine⟨_,rfl,sd,_,_,rfl,.inl rfl,.inr ⟨a1.sm,fun o ho=>?_⟩⟩;have hf:upd H1 sd (.bO o (.dK (hJ ks fun g=>.int (S g)))) sd=some (.bO o (.dK (hJ ks fun g=>.int (S g)))):=af;have k0:Kp sd H1 (upd H1 sd (.bO o (.dK (hJ ks fun g=>.int (S g))))):=fun c u e n=>by rw[au n];exact e
 generalize upd H1 sd (.bO o (.dK (hJ ks fun g=>.int (S g))))=H2 at hf k0;refine jc (n:=(hJ ks fun g=>V.int (S g)).length) (GQ a0 seed rooms room rl sd turn tl hp dd rest H2 ks S) (.mk (fun _ _ e _=>e) (k0 _ _ h1 (Jn nsd))) (fun i σ' H' p hi=>by cases p with|mk kp _=>exact⟨kp _ _ hf nsd,hi⟩) (fun σ' H' p=>by cases p with|mk kp _=>exact⟨kp _ _ hf nsd,Im _⟩) (fun i σ' H' x H'' D' hi p y k'=>?_) fun σ' H' p=>?_
 .obtain @⟨H',x10,x11,kp,hd⟩:=p;obtain⟨p5,kk5,w,hp5,rfl,rfl,ei⟩:=y;rw[IE]at ei;obtain⟨g,eg,e2⟩:=Jg.mp ei;cases e2;have s5:=aw (o:=.tup [.int g,.int (S g)]) hp5;refine sA af ?_;have hd5:=s5 _ _ hd;show A8 D' (nc a0 seed rooms room rl sd turn tl (some (.ref hp)::some (.ref dd)::some (.int g)::some (.int (S g))::rest)) (upd H' p5 (.tup [.int g,.int (S g)]));generalize upd H' p5 (.tup [.int g,.int (S g)])=H5 at s5 hd5
  delta A8 ik
  refine⟨_,rfl,_,rfl,fU (σ:=nc a0 seed rooms room rl sd turn tl (some (.ref hp)::some (.ref dd)::some (.int g)::some (.int (S g))::rest)) (ws:=[.int room,.int g,.int room]) (.c (.va (i:=3) rfl) (.c (.va (i:=10) rfl) (.c (.va (i:=3) rfl) .ni))) rfl fun b hb=>?_⟩;have s6:=aw (o:=.tup [.int room,.int g,.int room]) hb;have hb6:upd H5 b (.tup [.int room,.int g,.int room]) b=some (.tup ((ak (room,g,room)).map kV)):=af;have hd6:=s6 _ _ hd5;generalize upd H5 b (.tup [.int room,.int g,.int room])=H6 at s6 hb6 hd6;have gn:g∉ks.take i:=fun z=>by
   obtain⟨li,e1⟩:=Iv.mp eg;have es:ks=ks.take i++g::ks.drop (i+1):=by rw[<- e1,<- JE li,Kb]
   rw[es,Jv]at nk;exact nk.2.2 g z g Iy rfl
  refine⟨dd,_,rfl,DPut.t hd6 (k:=ak (room,g,room)) hb6 (qa (by rw[zz,Iq,Jt];have:=Z.kz;lia)),k' _ _ (.mk (fun c u e n=>by rw[au n];exact s6 _ _ (s5 _ _ (kp _ _ e n))) ?_)⟩;rw[af,f6 _ (qY gn),Jf,eg,zz,zz,IW];rfl
 .obtain @⟨H',x10,x11,kp,hd⟩:=p;rw[Iq,Jp]at hd;have th:Same H (upd H' sd (.dK (hJ ks fun g=>.int (S g)))):=fun c u e=>by
   by_cases z:c=sd
   .rw[z,af];rw[z,a.sm]at e;exact e
   .rw[au z];exact kp _ _ (k0 _ _ (s1 _ _ e) z) (am e hdd)
  exact .inr ⟨sd,o,_,kp _ _ hf nsd,True.intro,ho,HI (a.more th) Z hF (by rw[au (Jn nsd)];exact hd) fun H3 a3=>k dd _ _ H3 a3⟩
end
structure tQ (H:Hp) (rooms room:Int) (hp mp sp sl:Addr) (TL:List Pz.Rule) (n:Nat) (aV ends:List Int):Prop where
 h:Is H Tr (dj rooms n TL) (.ref hp)
 r:RlAt H hp TL
 m:∃ l1 l2,H mp=some (.tup [.int rooms,.ref l1,.ref l2])/\H l1=some (.lst [])/\H l2=some (.lst (ends.map .int))
 s:H sp=some (.tup [.int room,.ref sl])
 l:H sl=some (.lst (aV.map .int))
section
variable {K:LM}{Fr:fG}{CN CT:Addr}{H0 H H':Hp}{D:Ends}{σ:L2.St}{ws:List V}{Q:VK}{E:XK}{a0 sd tl hp rl mp sp sl:Addr}{sc:List Int}{seed rooms room turn:Int}{TL:List Pz.Rule}{ks:List Int}{S:Int->Int}{rest:L2.St}{t:Pz.TD}{n:Nat}{aV ends:List Int}
theorem ql.HX (a:ql H0 H a0 sc sd tl hp ws rooms TL ks S):RlAt H hp TL:=⟨_,_,tl,ws,a.h,.inl a.l,a.ir⟩
theorem tQ.more (w:tQ H rooms room hp mp sp sl TL n aV ends)(s:Same H H'):tQ H' rooms room hp mp sp sl TL n aV ends:=⟨C7 w.h s,w.r.more s,let ⟨l1,l2,a,b,c⟩:=w.m;⟨l1,l2,s _ _ a,s _ _ b,s _ _ c⟩,s _ _ w.s,s _ _ w.l⟩
theorem tQ.in (w:tQ H rooms room hp mp sp sl TL n aV ends)(hF:Fr [dj rooms n TL,.tup [.int rooms,.lst [],.lst (ends.map .int)]]=.ok (.o0 (d7 t)))(Z:yR room TL ks S t)(z:aV.length<=3)(ze:ends.length<=1):nB Fr H hp mp sp t room aV ends [room]:=by obtain⟨l1,l2,m1,m2,m3⟩:=w.m;refine⟨⟨dj rooms n TL,.tup [.int rooms,.lst [],.lst (ends.map .int)],w.h,⟨mp,_,rfl,m1,_,_,rfl,rfl,_,_,rfl,⟨l1,[],rfl,.inl ⟨m2,True.intro⟩,rfl⟩,_,_,rfl,⟨l2,_,rfl,.inl ⟨m3,True.intro⟩,fB _⟩,rfl⟩,hF⟩,⟨_,_,l2,m1,.inl m3⟩,⟨sl,w.s,.inl w.l⟩,by have:=Z.z;lia,by lia,by lia,fun x hx=>by rw[Z.u x hx];exact Iy,by show 1<1000;decide⟩
def FZ (te:TE):TE:=bN (ai (ao 2) (ai (ce aC) (ai (ce (ai te aC)) aC)))
theorem zA {te:TE}{e:Int}(h2:σ[2]?=some (some (.int rooms)))(he:∀ H',Same H H'->Reads te σ H' (.int e))(k:∀ mp l1 l2 H',Same H H'->H' mp=some (.tup [.int rooms,.ref l1,.ref l2])->H' l1=some (.lst [])->H' l2=some (.lst [.int e])->Q (.ref mp) H'):FZ te σ H Q:=by refine⟨_,h2,IL _,fun l1 hl1=>?_⟩;have t1:=aw (o:=.lst []) hl1;have c1:upd H l1 (.lst []) l1=some (.lst []):=af;generalize upd H l1 (.lst [])=G1 at t1 c1;refine he G1 t1 _ ⟨by show 1<=_;rw[IY];lia,fun l2 hl2=>⟨by show 3<=_;rw[IY];lia,fun mp hmp=>?_⟩⟩;have t2:=aw (o:=.lst [.int e]) hl2;have c2:upd G1 l2 (.lst [.int e]) l2=some (.lst [.int e]):=af;generalize upd G1 l2 (.lst [.int e])=G2 at t2 c2 hmp;have t3:=aw (o:=.tup [.int rooms,.ref l1,.ref l2]) hmp;exact k mp l1 l2 _ ((t1.trans t2).trans t3) af (t3 _ _ (t2 _ _ c1)) (t3 _ _ c2)
def qg (a0:Addr)(seed rooms room:Int)(rl sd:Addr)(turn:Int)(tl hp:Addr)(x9 x10 x11:Option V)(asked:Int)(sl:Addr)(total:Int)(mp sp:Addr)(rest:L2.St):L2.St:=nc a0 seed rooms room rl sd turn tl (some (.ref hp)::x9::x10::x11::some (.int asked)::some (.ref sl)::some (.int total)::some (.ref mp)::some (.ref sp)::rest)
def F0 (K:LM):TS:=bU (bn Dq (bC v9 [] E0 (ai (ao 8) (ai (ao 16) (ai (ao 20) aC)))) (bN (ai (ao 3) (ai (ce aC) aC))))
def tL7Q (K:LM):TS:=aJ (cy (yT (o_ (tB (yf K "list" (ao 20)))) (bv (bn EM (C9 K 20) (ao 14)))) Eu bX) (F0 K)
def A9 (K:LM):TS:=aJ (cy (yT (zQ (bv (bn mS (ao 19) (tC .bu))) (bv (bn BW (ao 14) (tC (.int 60))))) (bv (bn BW (ao 14) (tC (.int 400))))) (bU (bn mS (ao 20) (tC .bu))) bX) (tL7Q K)
def DC (K:LM)(Fr:fG)(CN CT:Addr)(E:XK):TS:=aJ (aY (bC (v_ Fr CN CT) [] E (ai (ao 8) (ai (ao 15) (ai (ao 16) (ai (ao 19) aC))))) (aB 20)) (A9 K)
def DD (K:LM)(Fr:fG)(CN CT:Addr)(E:XK):TS:=aJ (aY (tC .bu) (aB 19)) (aJ (cy (bv (bn rC (bn cE (bC lD [] E0 (ai (ao 0) (ai (tC (.int 2)) aC))) (tC (.int 2))) (tC (.int 1)))) (aY (g7 oR (ai (ao 14) (ai (tC (.int 400)) aC))) (aB 19)) bX) (DC K Fr CN CT E))
variable {asked total:Int}{x9 x10 x11 x17 x18 x19 x20:Option V}
theorem HK {row:Addr}{ns:List Int}(w:tQ H rooms room hp mp sp sl TL n aV ends)(hr:H row=some (.lst (ns.map .int)))(st:wM TL ns (room,aV) (room,[]))(ln:(ns.length:Int)=total)(zt:total<=400)(z:aV.length<=3)(p2:∀ r∈TL,r.2.2.2.length<=2)(k:∀ H',Same H H'->D.rt (.bl true) H'):tL7Q K D (qg a0 seed rooms room rl sd turn tl hp x9 x10 x11 asked sl total mp sp [x17,x18,x19,some (.ref row)]) H:=by refine Reads.Ga (dd:=.lst (ns.map .int)) (.va rfl) (Is.ty (m:=Tr) ⟨row,_,rfl,.inl ⟨hr,True.intro⟩,fB _⟩) rY _ ⟨_,rfl,cg (Reads.yP (.va rfl) (.inl hr) _ ⟨_,rfl,rfl,_,rfl,?_⟩)⟩;rw[Iq,ln,IJ rfl];refine cg ⟨_,rfl,_,rfl,_,rfl,.mk w.r w.s (.inl w.l) (.inl hr) st (by lia) (by show aV.length<=_;lia) p2 fun q l H1 s1 hq hl=>⟨_,rfl,IL _,fun l2 hl2=>⟨by show 2<=_;rw[IY];lia,fun u hu=>?_⟩⟩⟩;have t1:=aw (o:=.lst []) hl2;have c1:upd H1 l2 (.lst []) l2=some (.lst []):=af;generalize upd H1 l2 (.lst [])=G1 at t1 c1 hu;have t2:=aw (o:=.tup [.int room,.ref l2]) hu;have c2:upd G1 u (.tup [.int room,.ref l2]) u=some (.tup [.int room,.ref l2]):=af;generalize upd G1 u (.tup [.int room,.ref l2])=G2 at t2 c2;have t12:=t1.trans t2;exact⟨[.int room,.lst []],Tr,Tr,⟨q,_,rfl,t12 _ _ hq,_,_,rfl,rfl,_,_,rfl,⟨l,[],rfl,.inl ⟨t12 _ _ hl,True.intro⟩,rfl⟩,rfl⟩,⟨u,_,rfl,c2,_,_,rfl,rfl,_,_,rfl,⟨l2,[],rfl,.inl ⟨t2 _ _ c1,True.intro⟩,rfl⟩,rfl⟩,by show max 0 (max (0+1) 0)<=49;decide,k _ (s1.trans t12)⟩
theorem GA {mo:Option Int}(w:tQ H rooms room hp mp sp sl TL n aV [room])(hF:Fr [dj rooms n TL,.tup [.int rooms,.lst [],.lst [.int room]]]=.ok (.o0 (d7 t)))(Z:yR room TL ks S t)(z:aV.length<=3)(hk:∀ x∈aV,x∈ks)(et:total=(aV.map S).sum)(hm:mo=none\/mo=some (if 400<total then 400 else total))(k:∀ H',Same H H'->D.rt (.bl true) H'):DC K Fr CN CT E D (qg a0 seed rooms room rl sd turn tl hp x9 x10 x11 asked sl total mp sp [x17,x18,some (vO mo),x20]) H:=by
 have mo4:kG mo<=400:=by
  rcases hm with rfl|rfl
  .show(60:Int)<=400;decide
  .show(if 400<total then (400:Int) else total)<=400;split<;>lia
 have tot:∀{L r v e},jF t room aV [room] L r (some (v,e))->v=total:=fun lt=>by obtain⟨e',h⟩:=Z.le aV hk _ _ _ lt;injection h with h;injection h with h;rw[et];exact h
 have la:∀{as:List Pz.Arr},as.map (·.2.1)=aV->as.length<=3:=fun h=>by rw[<- h,Iq]at z;exact z
 refine⟨_,rfl,_,rfl,_,rfl,_,rfl,.mk (w.in (ends:=[room]) hF Z z (Im _)) w.r Z.nd (fun as e c p sg c4=>Z.al as e c p (JX c4 mo4) (la sg)) (fun L r lt=>by obtain⟨e,h⟩:=Z.le aV hk _ _ _ lt;cases h) (fun L r v e as n' ns l H1 s1 lt c pt sg ag hl=>?_) fun L r v e H1 s1 lt c=>?_⟩
 .have ev:=tot lt;subst ev;obtain⟨st,ln⟩:=Z.wk as e v n' ns pt ag;rw[sg]at st;show A9 K D (qg a0 seed rooms room rl sd turn tl hp x9 x10 x11 asked sl v mp sp [x17,x18,some (vO mo),some (.ref l)]) H1;have fin:tL7Q K D (qg a0 seed rooms room rl sd turn tl hp x9 x10 x11 asked sl v mp sp [x17,x18,some (vO mo),some (.ref l)]) H1:=HK (w.more s1) hl st ln (by lia) z Z.p2 fun H' s=>k H' (s1.trans s);have n4:∀{Q':Bool->Hp->Prop},Q' false H1->bv (bn BW (ao 14) (tC (.int 400))) (qg a0 seed rooms room rl sd turn tl hp x9 x10 x11 asked sl v mp sp [x17,x18,some (vO mo),some (.ref l)]) H1 Q':=fun q=>⟨_,rfl,_,_,rfl,rfl,_,rfl,by rw[IQ (by lia)];exact q⟩;rcases hm with rfl|rfl
  .have c6:v<=60:=c;refine⟨_,rfl,rfl,_,rfl,di ⟨_,rfl,_,_,rfl,rfl,_,rfl,?_⟩⟩;rw[IQ (by lia)];exact cg (n4 (cg fin))
  .exact⟨_,rfl,rfl,_,rfl,cg (cg (n4 (cg fin)))⟩
 .have ev:=tot lt;subst ev;show A9 K D (qg a0 seed rooms room rl sd turn tl hp x9 x10 x11 asked sl v mp sp [x17,x18,some (vO mo),some .bu]) H1;have fin:bU (bn mS (ao 20) (tC .bu)) { D with nx:=tL7Q K D } (qg a0 seed rooms room rl sd turn tl hp x9 x10 x11 asked sl v mp sp [x17,x18,some (vO mo),some .bu]) H1:=⟨_,rfl,rfl,k H1 s1⟩;rcases hm with rfl|rfl
  .have c6:60<v:=c;refine⟨_,rfl,rfl,_,rfl,di ⟨_,rfl,_,_,rfl,rfl,_,rfl,?_⟩⟩;rw[IJ (by lia)];exact di (di fin)
  .have c6:(if 400<v then (400:Int) else v)<v:=c;have c7:400<v:=by
    by_cases q:400<v
    .exact q
    .rw[IK q]at c6;lia
   refine⟨_,rfl,rfl,_,rfl,cg (cg ⟨_,rfl,_,_,rfl,rfl,_,rfl,?_⟩)⟩;rw[IJ (by lia)];exact di fin
end
section
variable {X:Cx}{K:LM}{mg:Str->Option LO}{Fr:fG}{CN CT:Addr}{H0 H H':Hp}{D:Ends}{σ:L2.St}{vs ws:List V}{Q:VK}{E:XK}{a0 sd tl hp rl mp sp sl:Addr}{sc:List Int}{seed rooms room turn:Int}{TL RL:List Pz.Rule}{ks:List Int}{S:Int->Int}{tb:TS}{t:Pz.TD}{n:Nat}{aV ends:List Int}{asked total:Int}{x9 x10 x11 x12 x13 x14 x15 x16 x17 x18 x19 x20:Option V}
theorem HL (i:Rd H a0 (.lst (sc.map .int)))(w:tQ H rooms room hp mp sp sl TL n aV [room])(hF:Fr [dj rooms n TL,.tup [.int rooms,.lst [],.lst [.int room]]]=.ok (.o0 (d7 t)))(Z:yR room TL ks S t)(z:aV.length<=3)(hk:∀ x∈aV,x∈ks)(et:total=(aV.map S).sum)(k:∀ H',Same H H'->D.rt (.bl true) H'):DD K Fr CN CT E D (qg a0 seed rooms room rl sd turn tl hp x9 x10 x11 asked sl total mp sp [x17,x18,x19,x20]) H:=by refine⟨_,rfl,lD.mk (k:=2) i ⟨_,_,rfl,rfl,(by show(0:Int)<2;decide),rfl,?_⟩⟩;refine⟨_,rfl,ut (fun _=>?_) fun _=>GA (mo:=none) w hF Z z hk et (.inl rfl) k⟩;exact⟨_,rfl,_,_,rfl,GA (mo:=some (if 400<total then 400 else total)) w hF Z z hk et (.inr rfl) k⟩
def DE (K:LM)(Fr:fG)(tb:TS):TS:=aJ (cy (zQ (bv (bn BW (ao 2) (tC (.int 1)))) (tB (yS (bC (tD Fr) [] E0 (ai (ao 8) (ai (ao 18) (ai (ao 16) aC))))))) Eu bX) tb
def A_ (K:LM)(Fr:fG)(tb:TS):TS:=aJ (aY (FZ (bn cE (bn ck (ao 3) (tC (.int 1))) (ao 2))) (aB 18)) (DE K Fr tb)
def DF (K:LM)(Fr:fG)(tb:TS):TS:=aJ (cy (yT (o_ (tB (bC tj [] E0 (ai (ao 17) aC)))) (bv (bn EM (ao 17) (ao 14)))) Eu bX) (A_ K Fr tb)
def DG (K:LM)(Fr:fG)(tb:TS):TS:=aJ (aY (bC (tD Fr) [] E0 (ai (ao 8) (ai (ao 15) (ai (ao 16) aC)))) (aB 17)) (DF K Fr tb)
theorem HN (hF:∀ ends:List Int,Fr [dj rooms n TL,.tup [.int rooms,.lst [],.lst (ends.map .int)]]=.ok (.o0 (d7 t)))(w:tQ H rooms room hp mp sp sl TL n aV [room])(Z:yR room TL ks S t)(z:aV.length<=3)(hk:∀ x∈aV,x∈ks)(et:total=(aV.map S).sum)(hr:0<=room/\room<rooms)
 (k:∀ x17 x18 H',Same H H'->tb D (qg a0 seed rooms room rl sd turn tl hp x9 x10 x11 asked sl total mp sp [x17,x18,x19,x20]) H'):DG K Fr tb D (qg a0 seed rooms room rl sd turn tl hp x9 x10 x11 asked sl total mp sp [x17,x18,x19,x20]) H:=by
 refine⟨_,rfl,_,rfl,_,rfl,.mk (w.in (hF [room]) Z z (Im _)) fun L r o H1 s1 lt=>?_⟩;obtain⟨e,rfl⟩:=Z.le aV hk _ _ _ lt;rw[<- et];show DF K Fr tb D (qg a0 seed rooms room rl sd turn tl hp x9 x10 x11 asked sl total mp sp [some (.int total),x18,x19,x20]) H1;refine⟨_,rfl,.mk ⟨_,rfl,cg ⟨_,rfl,_,rfl,rfl,_,rfl,?_⟩⟩⟩;rw[IJ rfl];refine cg (?_:A_ K Fr tb D (qg a0 seed rooms room rl sd turn tl hp x9 x10 x11 asked sl total mp sp [some (.int total),x18,x19,x20]) H1)
 delta A_ aJ aY
 refine zA (σ:=qg a0 seed rooms room rl sd turn tl hp x9 x10 x11 asked sl total mp sp [some (.int total),x18,x19,x20]) (e:=(room+1) % rooms) rfl (fun G g=>.mod (.ad (.va (i:=3) rfl) .k) (.va (i:=2) rfl) (by lia)) fun m2 l1 l2 H2 s2 hm2 hl1 hl2=>?_;have s12:=s1.trans s2;show DE K Fr tb D (qg a0 seed rooms room rl sd turn tl hp x9 x10 x11 asked sl total mp sp [some (.int total),some (.ref m2),x19,x20]) H2;refine⟨_,rfl,_,_,rfl,rfl,_,rfl,?_⟩;by_cases c:1<rooms
 .rw[IJ c];have w2:=w.more s12;have w2':tQ H2 rooms room hp m2 sp sl TL n aV [(room+1) % rooms]:=⟨w2.h,w2.r,⟨l1,l2,hm2,hl1,hl2⟩,w2.s,w2.l⟩;have ne:(room+1) % rooms≠room:=fun z=>by
   by_cases q:room+1=rooms
   .rw[q,Int.emod_self]at z;lia
   .rw[Int.emod_eq_of_lt (by lia) (by lia)]at z;lia
  refine di ⟨_,rfl,_,rfl,_,rfl,.mk (w2'.in (hF [(room+1) % rooms]) Z z (Im _)) fun L r o H3 s3 lt=>?_⟩;rw[Z.ot aV _ L r o ne lt];exact⟨_,rfl,cg (k _ _ H3 (s12.trans s3))⟩
 .rw[IQ c];exact cg (cg (k _ _ H2 s12))
def vU (a:Int):TE:=bn cE (bn cE (bn kF (ao 12) (tC (.int a))) (tC (.int 61))) (g7 oA (ai (ao 5) aC))
def Ba (K:LM)(Fr:fG)(tb:TS):TS:=aJ (aY (FZ (ao 3)) (aB 15)) (aJ (aY (bN (ai (ao 3) (ai (ao 13) aC))) (aB 16)) (DG K Fr tb))
def F1 (X:Cx)(scope:Scope)(tg elt:Expr)(tN capN:List Str)(caps:List Nat)(Fr:fG)(tb:TS):TS:=aJ (aY (g7 (zv X.K) (ai (jo X scope tg tN capN caps elt [] (cJ X.K (ao 13))) aC)) (aB 14)) (Ba X.K Fr tb)
def Bb (X:Cx)(scope:Scope)(tg elt:Expr)(tN capN:List Str)(caps:List Nat)(Fr:fG)(tb:TS):TS:=aJ (aY (yX (pA X.K) (ce (ai (tC (.int 0)) (ai (vU 4) (ai (vU 244) aC)))) gA (jm (bn cE (ao 12) (tC (.int 4))))) (aB 13)) (F1 X scope tg elt tN capN caps Fr tb)
def DH (X:Cx)(scope:Scope)(tg elt:Expr)(tN capN:List Str)(caps:List Nat)(Fr:fG)(tb:TS):TS:=aJ (aY (bC lD [] E0 (ai (ao 0) (ai (tC (.int 1)) aC))) (aB 12)) (Bb X scope tg elt tN capN caps Fr tb)
theorem HP {scope:Scope}{tg elt:Expr}{tN capN:List Str}{caps:List Nat}(c:Ez X scope tg elt tN capN caps 5)(a:ql H0 H a0 sc sd tl hp ws rooms TL ks S)(hF:∀ ends:List Int,Fr [dj rooms (ks.length:Nat) TL,.tup [.int rooms,.lst [],.lst (ends.map .int)]]=.ok (.o0 (d7 t)))(Z:yR room TL ks S t)(hr:0<=room/\room<rooms)
 (k:∀ asked sl total mp sp aV x17 x18 H',Same H H'->tQ H' rooms room hp mp sp sl TL ks.length aV [room]->aV.length<=3->(∀ x∈aV,x∈ks)->total=(aV.map S).sum->tb D (qg a0 seed rooms room rl sd turn tl hp x9 x10 x11 asked sl total mp sp [x17,x18,x19,x20]) H'):DH X scope tg elt tN capN caps Fr tb D (nc a0 seed rooms room rl sd turn tl (some (.ref hp)::x9::x10::x11::[x12,x13,x14,x15,x16,x17,x18,x19,x20])) H:=by
 refine⟨_,rfl,lD.mk (k:=1) a.i ?_⟩;generalize jw sc 1=asked;have zk:=Z.kz;have rk:∀ b,0<b/\b<1073741824->Reads (vU b) (nc a0 seed rooms room rl sd turn tl (some (.ref hp)::x9::x10::x11::some (.int asked)::[x13,x14,x15,x16,x17,x18,x19,x20])) H (.int (asked / b % 61 % (ks.length:Nat))):=fun b hb=>.mod (.mod (.dv (.va rfl) .k hb) .k (by decide)) (fun Q q=>⟨_,rfl,sd,_,_,rfl,.inl rfl,.inl a.sm,by rw[Iq,IY];lia,by rw[Iq];exact q⟩) (by lia);show Bb X scope tg elt tN capN caps Fr tb D (nc a0 seed rooms room rl sd turn tl (some (.ref hp)::x9::x10::x11::some (.int asked)::[x13,x14,x15,x16,x17,x18,x19,x20])) H
 delta Bb aJ aY yX ce
 refine(ReadsA.c .k (.c (rk 4 ⟨by decide,by decide⟩) (.c (rk 244 ⟨by decide,by decide⟩) .ni)):ReadsA (ai (tC (.int 0)) (ai (vU 4) (ai (vU 244) aC))) (nc a0 seed rooms room rl sd turn tl (some (.ref hp)::x9::x10::x11::some (.int asked)::[x13,x14,x15,x16,x17,x18,x19,x20])) H [.int 0,.int (asked / 4 % 61 % (ks.length:Nat)),.int (asked / 244 % 61 % (ks.length:Nat))]) _ ⟨by show 3<=_;rw[IY];lia,fun b hb=>?_⟩;have m1:=Z.km (asked / 4 % 61);have m2:=Z.km (asked / 244 % 61);generalize asked / 4 % 61 % ((ks.length:Nat):Int)=y1 at m1 hb;generalize asked / 244 % 61 % ((ks.length:Nat):Int)=y2 at m2 hb;have t1:=aw (o:=.lst [.int 0,.int y1,.int y2]) hb;have c1:upd H b (.lst [.int 0,.int y1,.int y2]) b=some (.lst ([0,y1,y2].map .int)):=af;generalize upd H b (.lst [.int 0,.int y1,.int y2])=G1 at t1 c1;refine⟨_,rfl,_,_,rfl,rfl,(by show(0:Int)<4;decide),_,rfl,b,_,rfl,SqL.of c1,fun sl hsl=>?_⟩;have p4:=Km asked (show(4:Int)≠0 by decide);generalize asked % 4=j4 at p4;obtain⟨j,rfl⟩:=Jj p4;rw[l4,<- List.map_take];have t2:=aw (o:=.lst (([0,y1,y2].take j).map .int)) hsl;have c2:upd G1 sl (.lst (([0,y1,y2].take j).map .int)) sl=some (.lst (([0,y1,y2].take j).map .int)):=af;generalize upd G1 sl (.lst (([0,y1,y2].take j).map .int))=G2 at t2 c2;have hk:∀ x∈[0,y1,y2].take j,x∈ks:=fun x hx=>by
  have:=List.mem_of_mem_take hx;simp only[ID,IC,K6]at this;rcases this with rfl|rfl|rfl
  .exact zk.1
  .exact m1
  .exact m2
 have z3:([0,y1,y2].take j).length<=3:=by rw[Jt];exact Nat.min_le_right _ _
 generalize [0,y1,y2].take j=aV at c2 hk z3;have t12:=t1.trans t2;have a2:=a.more t12;refine⟨_,rfl,sl,rfl,⟨_,SqL.of c2⟩,?_⟩;refine zx (l:=aV) (d:=sd) c rfl a2.sm hk (by lia) (fun i H' s hi=>⟨_,.int aV[i],SqL.of (s _ _ c2),by rw[IE,Ir hi];rfl⟩) (fun H' s=>⟨_,SqL.of (s _ _ c2),by rw[Iq];exact Im _⟩) (fun i H' x H2 s y=>?_) fun Dl H3 s3 nD hD=>?_
 .obtain⟨e,y⟩:=y;have y:=y _ (SqL.of (s _ _ c2));rw[IE]at y;obtain⟨g,eg,e2⟩:=Jg.mp y;exact⟨e,g,eg,e2.symm⟩
 refine⟨Dl,_,rfl,SqL.of hD,?_⟩;show Ba X.K Fr tb D (nc a0 seed rooms room rl sd turn tl (some (.ref hp)::x9::x10::x11::some (.int asked)::some (.ref sl)::some (.int (aV.map S).sum)::[x15,x16,x17,x18,x19,x20])) H3
 delta Ba aJ aY
 refine zA (σ:=nc a0 seed rooms room rl sd turn tl (some (.ref hp)::x9::x10::x11::some (.int asked)::some (.ref sl)::some (.int (aV.map S).sum)::[x15,x16,x17,x18,x19,x20])) (te:=ao 3) (e:=room) rfl (fun _ _=>.va rfl) fun mp l1 l2 H4 s4 hmp hl1 hl2=>?_;refine⟨_,rfl,_,rfl,by show 2<=_;rw[IY];lia,fun sp hsp=>?_⟩;have t5:=aw (o:=.tup [.int room,.ref sl]) hsp;have c5:upd H4 sp (.tup [.int room,.ref sl]) sp=some (.tup [.int room,.ref sl]):=af;generalize upd H4 sp (.tup [.int room,.ref sl])=H5 at t5 c5;have t35:=(s3.trans s4).trans t5;have a5:=a2.more t35;have w:tQ H5 rooms room hp mp sp sl TL ks.length aV [room]:=⟨a5.is,a5.HX,⟨l1,l2,t5 _ _ hmp,t5 _ _ hl1,t5 _ _ hl2⟩,c5,t35 _ _ c2⟩;exact HN hF w Z z3 hk rfl hr fun x17 x18 H6 s6=>k asked sl _ mp sp aV x17 x18 H6 ((t12.trans t35).trans s6) (w.more s6) z3 hk rfl
def vV (Fr:fG)(ds:List L3.D):Prop:=∃ sc,ds=[.lst (sc.map .int)]/\F7 Fr sc
noncomputable def vW (Fr:fG)(ds:List L3.D):Res R:=@ite _ (vV Fr ds) (Classical.propDecidable _) (.ok (.val (.bl true) true [])) .stuck
theorem yH {ds:List L3.D}(h:vV Fr ds):vW Fr ds=.ok (.val (.bl true) true []):=IS h
def F2 (X:Cx)(D8:Scope)(D7 el1:Expr)(tN1:List Str)(D5:Scope)(Ea el2:Expr)(tN2 capN2:List Str)(caps2:List Nat)(Fr:fG)(CN CT:Addr)(E:XK):TS:=Dz X D8 D7 el1 tN1 (DB X Fr (DH X D5 Ea el2 tN2 capN2 caps2 Fr (DD X.K Fr CN CT E)))
theorem vX {N:List Str}{D8 D5:Scope}{D7 el1 Ea el2:Expr}{tN1 tN2 capN2:List Str}{caps2:List Nat}(hN:N.length=21)(c1:GH X D8 D7 el1 tN1)(c2:Ez X D5 Ea el2 tN2 capN2 caps2 5)(h:tO mg 1 (vW Fr) vs H Q E):F2 X D8 D7 el1 tN1 D5 Ea el2 tN2 capN2 caps2 Fr CN CT E (eQ Q) (bc N vs) H:=by
 obtain⟨hl,ds,Ma,is,post⟩:=h;unfold vW at post;by_cases hw:vV Fr ds
 case neg=>rw[IK hw]at post;exact post.elim
 rw[IS hw]at post;obtain⟨sc,rfl,R⟩:=hw;obtain⟨v0,r0,rfl,i0,rfl⟩:=is;have es:L2.bc N [v0]=some v0::List.replicate 20 none:=by unfold L2.bc;rw[hN];rfl
 rw[es];obtain⟨a0,wa,rfl,hla,iw⟩:=uY (C7 i0 fun _ _ e=>e);rw[p9 iw]at hla;have hr:0<=jw sc 0 / 3 % 6 % (1+jw sc 0 % 3)/\jw sc 0 / 3 % 6 % (1+jw sc 0 % 3)<1+jw sc 0 % 3:=by have:=Km (jw sc 0) (show(3:Int)≠0 by decide);exact⟨Km _ (by lia),Int.emod_lt_of_pos _ (by lia)⟩
 refine HH c1 hla R.z fun RL last ks S rl sd turn tl TL ws hp H1 H2 dp zr sm m l s1 a=>?_;obtain⟨t,hF,Z⟩:=R.k RL last ks S TL dp zr sm m l;refine HJ a sm.nd Z (hF []) fun dd x10 x11 H3 a3=>?_;refine HP c2 a3 hF Z hr fun asked sl total mp sp aV x17 x18 H4 s4 w z3 hk et=>?_;exact HL (a3.more s4).i w (hF [_]) Z z3 hk et fun H5 s5=>post _ _ (s1.trans ((a3.s.trans s4).trans s5)) rfl
end
structure GB (K:LM) (mg:Str->Option LO) (x:Str) (st:Stmt) (ps:List Str) (n:Int) where
 f:Addr
 fd:FuncData
 tk:Tok
 h:GP K mg x st ps (.int n tk) f fd
section
variable {K KK:LM}{x:Str}{st:Stmt}{f T:Addr}{oc tc:LO}{od an td:Option Addr}{osl tsl:Array (Option LO)}{kV doc pm cdv ct:LO}{tk:Tok}{m:Nat}{i:Int}
abbrev Ey (x:Str)(st:Stmt)(T:Addr)(kV doc pm:LO)(an:Option Addr)(cdv ct:LO):FuncData:=PySem.W.fnOf x x (bK st) (bA st) (aA st) (.ref T) kV doc pm an cdv ct
def F3 (K KK:LM)(x:Str)(st:Stmt)(i:Int):Prop:=∃ f T oc tc od an td osl tsl kV doc pm cdv ct tk m,PySem.W.nsIn K mainGlobals x=some (some (.ref f))/\KK.lookup f=some ⟨oc,od,.func (Ey x st T kV doc pm an cdv ct),osl⟩/\KK.lookup T=some ⟨tc,td,.seq #[.int i tk] m,tsl⟩/\PySem.W.codeIn KK cdv x=true/\PySem.W.keepIn KK (.ref f)=true
theorem HQ (a:PySem.W.nsIn K mainGlobals x=some (some (.ref f)))(l:KK.lookup f=some ⟨oc,od,.func (Ey x st T kV doc pm an cdv ct),osl⟩)(lT:KK.lookup T=some ⟨tc,td,.seq #[.int i tk] m,tsl⟩)(c:PySem.W.codeIn KK cdv x=true)(k:PySem.W.keepIn KK (.ref f)=true):F3 K KK x st i:=⟨_,_,_,_,_,_,_,_,_,_,_,_,_,_,_,_,a,l,lT,c,k⟩
variable {mg:Str->Option LO}{ps:List Str}{h:Heap}
theorem HR (n:Nat)(hn:ps.length=n+1)(X:K.In h)(G:h.Ns mainGlobals mg)(k:F3 K KK x st i)
 (h0:∀(T:Addr)(kV doc pm:LO)(an:Option Addr)(cdv ct:LO)(tk:Tok),AllN (n+1) fun us=>∃ k,bindArgs (Ey x st T kV doc pm an cdv ct) ⟨us,[]⟩=seqItems? (.ref T) >>= k/\k (some #[.int i tk])=pure (ps.zip us):=by (repeat intro _);exact⟨_,rfl,rfl⟩)
 (h1:∀(T:Addr)(kV doc pm:LO)(an:Option Addr)(cdv ct:LO)(tk:Tok),AllN n fun us=>∃ k,bindArgs (Ey x st T kV doc pm an cdv ct) ⟨us,[]⟩=seqItems? (.ref T) >>= k/\k (some #[.int i tk])=pure (ps.zip (us++[.int i tk])):=by (repeat intro _);exact⟨_,rfl,rfl⟩):Nonempty (GB KK mg x st ps i):=by
 obtain⟨f,T,oc,tc,od,an,td,osl,tsl,kV,doc,pm,cdv,ct,tk,m,a,l,lT,c,kp⟩:=k;exact⟨f,_,tk,AL l lT c kp (KR X G a) (fun us e=>(h0 T kV doc pm an cdv ct tk).of us (e.trans hn)) fun us e=>(h1 T kV doc pm an cdv ct tk).of us (Nat.succ.inj (e.trans hn))⟩
end
section
variable {P:LN}{w:World}{K:LM}{mg:Str->Option LO}{base:Heap}
theorem DI {x qual:Str}{st:Stmt}{f:Addr}{fd:FuncData}{N ps:List Str}{k:Nat}{sp:Sp}(F:D9 K x qual st f fd)(S:aL N ps (aA st))(len:∀ vs H Q E,sp vs H Q E->vs.length=ps.length)
 (body:∀(cdv:LO)(A:LP)(outer:List Env)(s:LL)(H:Hp)(vs:List V)(Q:VK)(E:XK),cv k (A.deeper (envOfC qual (aA st) s.heap.objs.size f cdv))->sp vs H Q E->
   ∃ t,PSs (lM P w K mg base N qual (aA st) f cdv A outer s H E) (bA st) t/\t (eQ Q) (bc N vs) H):bz P w K mg base (rO P w) (k+1) f fd ps sp:=by
 obtain⟨oc,od,dV,kV,doc,pm,an,cdv,ct,osl,rfl,lk,hcd⟩:=F.ex;exact uf lk hcd S len fun A outer s H vs Q E hr hsp=>body cdv A outer s H vs Q E hr hsp
end
theorem vY {RL:List Pz.Rule}{U:List Pz.Arr}{h0 h1:L3.D}(hs:Pz.Set RL [] U):∃ t,Pz.Good RL [] U t/\∀ m0 m2,BX BZ [.tup [h0,h1,.lst (RL.map gU)],.tup [m0,.lst [],m2]]=.ok (.o0 (d7 t)):=by
 obtain⟨fit,n,T,lp,good⟩:=hs.run qO;have hl:RL.length<16000000:=by have:=hs.big;unfold Pz.L at this;lia
 refine⟨T.told,good,fun m0 m2=>?_⟩;have hex:∃ t,kA [.tup [h0,h1,.lst (RL.map gU)],.tup [m0,.lst [],m2]] t:=⟨T.told,RL,[],h0,h1,m0,m2,n,T,rfl,hl,fit,lp,rfl⟩;have e:Classical.choose hex=T.told:=by obtain⟨RL',M',a0,a1,a2,a3,n',T',e,_,_,lp',e2⟩:=Classical.choose_spec hex;rw[e2];injection e with e3 e;injection e3 with e3;injection e3 with _ e3;injection e3 with _ e3;injection e3 with e3 _;injection e3 with e3;injection e with e _;injection e with e;injection e with _ e;injection e with e _;injection e with e;have e:([]:List Pz.Arr).map p8=M'.map p8:=e;rw[<- mY (fun h=>sJ h) e3,<- mY (fun h=>u4 h) e]at lp';rw[<- uZ lp lp']
 have hr:BZ [.tup [h0,h1,.lst (RL.map gU)],.tup [m0,.lst [],m2]]=.ok (.val .bu true []):=IS ⟨_,_,_,rfl⟩;unfold BX;rw[hr];dsimp only;rw[dif_pos hex,e]
structure nG (room last:Int) (RL:List Pz.Rule) (ks:List Int) (S:Int->Int) (TL:List Pz.Rule) (t:Pz.TD):Prop where
 dp:Dp room last RL
 z:RL.length<=61
 sm:tR RL ks S
 m:∀ r,r∈TL↔r∈RL
 g:Pz.Good TL [] (ks.map fun g=>(room,g,room)) t
section
variable {room last:Int}{RL TL:List Pz.Rule}{ks:List Int}{S:Int->Int}{t:Pz.TD}
theorem gp (dp:Dp room last RL)(sm:tR RL ks S)(g:Int):g∈ks↔0<=g/\g<=last:=by
 rw[sm.m];constructor
 .rintro⟨r,hr,rfl⟩;exact⟨(dp.a r hr).2.2.1,(dp.a r hr).2.2.2.1⟩
 .exact fun h=>dp.s g h.1 h.2
theorem vZ (sm:tR RL ks S):ks.length<=RL.length:=by
 have:=Pz.d4 ks (RL.map fun r=>r.2.1) sm.nd fun g hg=>by obtain⟨r,hr,e⟩:=(sm.m g).mp hg;exact IT.mpr ⟨r,hr,e⟩
 rwa [Iq]at this
theorem Bc (dp:Dp room last RL)(sm:tR RL ks S):(ks.length:Int)=last+1:=by
 have h0:=dp.l;have a:=Pz.d4 ks ((List.range (last+1).toNat).map fun(n:Nat)=>(n:Int)) sm.nd fun g hg=>by have:=(gp dp sm g).mp hg;exact IT.mpr ⟨g.toNat,List.mem_range.mpr (by lia),by lia⟩
 have b:=Pz.d4 ((List.range (last+1).toNat).map fun(n:Nat)=>(n:Int)) ks (List.pairwise_map.mpr (List.Pairwise.imp (fun{x y:Nat}(h:x<y)(e:(x:Int)=y)=>by lia) List.pairwise_lt_range)) fun g hg=>by obtain⟨n,hn,rfl⟩:=IT.mp hg;have:=List.mem_range.mp hn;exact(gp dp sm _).mpr (by lia)
 rw[Iq,List.length_range]at a b;lia
theorem F4 (dp:Dp room last RL)(z:RL.length<=61)(sm:tR RL ks S)(m:∀ r,r∈TL↔r∈RL)(ln:TL.length=RL.length):Pz.Set TL [] (ks.map fun g=>(room,g,room)):=by
 have hk:=vZ sm;have hU:(ks.map fun g=>((room,g,room):Pz.Arr)).length<=61:=by rw[Iq];lia
 generalize hq:(ks.map fun g=>((room,g,room):Pz.Arr))=U at hU;have mem:∀ a s b:Int,(a,s,b)∈U->a=room/\b=room:=fun a s b h=>by rw[<- hq]at h;obtain⟨g,_,e⟩:=IT.mp h;cases e;exact⟨rfl,rfl⟩
 have inU:∀ r∈TL,(r.1,r.2.1,room)∈U:=fun r hr=>by have h:=dp.a r ((m r).mp hr);rw[<- hq,h.1];exact IT.mpr ⟨r.2.1,(gp dp sm _).mpr ⟨h.2.2.1,h.2.2.2.1⟩,rfl⟩
 refine⟨fun r h=>(dp.a r ((m r).mp h)).2.2.2.2.1,fun a h=>(nomatch h),fun r h=>?_,fun r h s x e k=>?_,?_,?_,?_⟩
 .have:=inU r h;rw[(dp.a r ((m r).mp h)).2.1];exact this
 .rw[(mem _ _ _ k).2];exact inU r h
 .have:TL.length*(U.length*U.length)<=61*(61*61):=Lw (by lia) (Lw hU hU);rw[JZ];unfold Pz.L;lia
 .have:TL.length*U.length<=61*61:=Lw (by lia) hU;unfold Pz.L;lia
 .unfold Pz.L;lia
variable (A:nG room last RL ks S TL t)
include A
theorem nG.key {a:Pz.Arr}{v:Pz.jC}(h:Pz.bw t a=some v):a.1=room/\a.2.2=room/\a.2.1∈ks:=by obtain⟨g,hg,rfl⟩:=IT.mp (A.g.u a v h);exact⟨rfl,rfl,hg⟩
theorem nG.tg {a:Pz.Arr}{v:Pz.jC}(h:(a,v)∈t):Pz.bw t a=some v:=Pz.om A.g.nd h
theorem nG.why {a:Pz.Arr}{v:Pz.jC}(h:(a,v)∈t):∃(j:Nat)(r:Pz.Rule)(ps:List Pz.Arr),v.2.1=some (j:Nat)/\TL[j]?=some r/\r.1=room/\r.2.2.1=room/\a=(room,r.2.1,room)/\iO r v.2.2 a.2.2 ps/\iT t room ps room (v.1-1)/\ps.map (·.2.1)=r.2.2.2:=by
 have k:=A.tg h;have ju:=A.g.ju a v k;obtain⟨k1,k2,k3⟩:=A.key k;obtain⟨a1,a2,a3⟩:=a;obtain⟨p,n,mid⟩:=v;dsimp only at k1 k2 k3;obtain rfl:=k1.symm;obtain rfl:=k2.symm;cases n with
 |none=>exact nomatch ju.2.2
 |some i=>
  obtain⟨j,r,rfl,hj,e1,e2,jp⟩:=ju;have hr:=A.dp.a r ((A.m r).mp (IH hj));dsimp only at e1 e2 jp;rw[hr.2.1]at jp;have fin:∀ ps,iO r mid room ps->iT t room ps room (p-1)->ps.map (·.2.1)=r.2.2.2->∃(j':Nat)(r:Pz.Rule)(ps:List Pz.Arr),some (j:Int)=some (j':Int)/\TL[j']?=some r/\r.1=room/\r.2.2.1=room/\((room,a2,room):Pz.Arr)=(room,r.2.1,room)/\iO r mid room ps/\iT t room ps room (p-1)/\ps.map (·.2.1)=r.2.2.2:=fun ps h1 h2 h3=>⟨j,r,ps,rfl,hj,hr.1,hr.2.1,by rw[e2],h1,h2,h3⟩;generalize hp:r.2.2.2=put at jp;rw[hp]at fin
  match put,jp with
  | [],⟨e,q,_⟩=>exact fin [] (.p0 hp) (by rw[q];exact .nil) rfl
  | [x],⟨e,q,⟨w,s1,s2⟩,e3⟩=>refine fin [(room,x,room)] (by have:=iO.p1 (mid:=mid) (st:=room) hp;rwa [hr.2.1]at this) ?_ rfl;have:=iT.cons (Pz.c_ s1) (iT.nil (t:=t));rw[show p-1=w.1+0 by lia];exact this
  | [x,y],⟨d,q1,q2,e,⟨w1,s1,s2⟩,⟨w2,s3,s4⟩,e3⟩=>have hd:=(A.key s1).2.1;dsimp only at hd;obtain rfl:=hd.symm;refine fin [(room,x,room),(room,y,room)] (by have:=iO.p2 (st:=room) hp e;rwa [hr.2.1]at this) ?_ rfl;have:=iT.cons (Pz.c_ s1) (iT.cons (Pz.c_ s3) (iT.nil (t:=t)));rw[show p-1=w1.1+(w2.1+0) by lia];exact this
omit A in
theorem iT.app {a b c:List Pz.Arr}{s e f p q:Int}(h:iT t s a e p)(k:iT t e b f q):iT t s (a++b) f (p+q):=by
 induction h with
 |nil=>rw[Int.zero_add];exact k
 |cons m _ ih=>rw[Int.add_assoc];exact .cons m (ih k)
theorem nG.pos {s e c:Int}{as:List Pz.Arr}(h:iT t s as e c):0<=c:=by
 induction h with
 |nil=>exact J0 _
 |cons m _ ih=>have:=A.g.ps _ _ (A.tg m);lia
theorem nG.step {a:Pz.Arr}{as:List Pz.Arr}{e c:Int}(h:iT t room (a::as) e c):∃(v:Pz.jC)(j:Nat)(r:Pz.Rule)(ps:List Pz.Arr),(a,v)∈t/\v.2.1=some (j:Nat)/\TL[j]?=some r/\r.1=room/\r.2.2.1=room/\a.2.1=r.2.1/\iO r v.2.2 a.2.2 ps/\iT t room (ps++as) e (c-1)/\ps.map (·.2.1)=r.2.2.2:=by
 cases h with
 |cons m k=>
  obtain⟨j,r,ps,h1,h2,h3,h4,h5,h6,h7,h8⟩:=A.why m;rw[(A.key (A.tg m)).2.1]at k;refine⟨_,j,r,ps,m,h1,h2,h3,h4,by rw[h5],h6,?_,h8⟩;have:=h7.app (c:=[]) k
  rwa [show ∀ x y:Int,x-1+y=x+y-1 by intro x y;lia]at this
omit A in
theorem iO.det {r:Pz.Rule}{mid:Option Int}{st:Int}{a b:List Pz.Arr}(h:iO r mid st a)(k:iO r mid st b):a=b:=by cases h<;>cases k<;>grind
theorem nG.al:∀(n:Nat)(as:List Pz.Arr)(e:Int),iT t room as e n->∃ ns,gu TL t n as ns:=by
 intro n;induction n with
 |zero=>
  intro as e h;cases as with
  |nil=>exact⟨[],.nil⟩
  |cons a as=>obtain⟨_,_,_,_,_,_,_,_,_,_,_,k,_⟩:=A.step h;have:=A.pos k;lia
 |succ n ih=>
  intro as e h;cases as with
  |nil=>cases h
  |cons a as=>obtain⟨v,j,r,ps,h1,h2,h3,h4,h5,h6,h7,k,h8⟩:=A.step h;rw[show((n+1:Nat):Int)-1=(n:Nat) by lia]at k;obtain⟨ns,w⟩:=ih _ _ k;exact⟨_,.rule h1 h2 h3 h7 w⟩
theorem nG.wk {as:List Pz.Arr}{n:Nat}{ns:List Int}(w:gu TL t n as ns):∀ e c,iT t room as e c->wM TL ns (room,as.map (·.2.1)) (room,[])/\(ns.length:Int)=c:=by
 induction w with
 |nil=>intro e c h;cases h;exact⟨.nil,rfl⟩
 |none m q _ ih=>intro e c h;obtain⟨j,_,_,h1,_⟩:=A.why m;rw[q]at h1;cases h1
 | @rule a v as ps ns n j r m q hj pp _ ih=>
  intro e c h;obtain⟨v',j',r',ps',h1,h2,h3,h4,h5,h6,h7,k,h8⟩:=A.step h;have ev:v'=v:=by have a1:=A.tg h1;rw[A.tg m]at a1;exact(IU a1).symm
  subst ev;rw[q]at h2;have ej:j=j':=by have:=IU h2;lia
  subst ej;rw[hj]at h3;obtain rfl:=IU h3;obtain rfl:=pp.det h7;obtain⟨s,l⟩:=ih _ _ k;refine⟨?_,by rw[IM];lia⟩;rw[IW,h8]at s;rw[II,h6];have s:wM TL ns (r.2.2.1,r.2.2.2++as.map (·.2.1)) (room,[]):=by rw[h5];exact s
  have:=wM.cons hj s
  rwa [h4]at this
theorem nG.eq:∀(n:Nat)(g:Int),g∈ks->last-g<n->Pz.At t (room,g,room) (S g):=by
 intro n;induction n with
 |zero=>intro g hg h;have:=(gp A.dp A.sm g).mp hg;lia
 |succ n ih=>
  intro g hg hn;have sub:∀ r∈RL,r.2.1=g->∀ x∈r.2.2.2,Pz.At t (room,x,room) (S x):=fun r hr e x hx=>by have h:=A.dp.a r hr;have q:=h.2.2.2.2.2 x hx;exact ih x ((gp A.dp A.sm x).mpr (by lia)) (by lia)
  obtain⟨r,hr,e,es⟩:=A.sm.ex g hg;have low:Pz.Ep t (room,g,room) (S g):=by
   have h:=A.dp.a r hr;have sb:=sub r hr e;obtain⟨j,hj⟩:=Jb.mp ((A.m r).mpr hr);have c:=A.g.zD j r hj;rw[h.1,h.2.1,e]at c;generalize hp:r.2.2.2=put at c es sb;have l2:put.length<=2:=by rw[<- hp];exact h.2.2.2.2.1
   match put,l2 with
   | [],_=>rw[es];exact c
   | [x],_=>have:=c room (S x) (sb x (Iy ..));rw[es];simpa[Int.add_comm] using this
   | [x,y],_=>have:=c room room (S x) (S y) (sb x (Iy ..)) (sb y (Iw _ (Iy ..)));rw[es];simpa[Int.add_comm] using this
  obtain⟨w,hw,le⟩:=low;refine⟨w,hw,?_⟩;have m:=Pz.c_ hw;obtain⟨j,r',ps,h1,h2,h3,h4,h5,h6,h7,h8⟩:=A.why m;have hr':=(A.m r').mp (IH h2);have eg:r'.2.1=g:=by have:=JL (fun x:Pz.Arr=>x.2.1) h5;exact this.symm
  have lo:=A.sm.lo r' hr';rw[eg]at lo;have sb:=sub r' hr' eg;rw[<- h8]at lo sb;have gen:∀{s e c:Int}{ps:List Pz.Arr},iT t s ps e c->(∀ x∈ps.map (·.2.1),Pz.At t (room,x,room) (S x))->c=((ps.map (·.2.1)).map S).sum:=by
   intro s e c ps h;induction h with
   |nil=>intro _;rfl
   | @cons a v as e c m _ ih=>
    intro sb;rw[II]at sb ⊢;rw[II,Lc,<- ih fun x hx=>sb x (Iw _ hx)];obtain⟨w,q1,q2⟩:=sb _ (Iy ..);have k:=A.key (A.tg m);have:a=(room,a.2.1,room):=by obtain⟨a1,a2,a3⟩:=a;obtain⟨k1,k2,_⟩:=k;dsimp only at k1 k2;rw[k1,k2]
    rw[<- this,A.tg m]at q1;obtain rfl:=IU q1;rw[q2]
  have:=gen h7 sb;lia
theorem nG.at {g:Int}(hg:g∈ks):Pz.At t (room,g,room) (S g):=A.eq (last-g+1).toNat g hg (by have:=(gp A.dp A.sm g).mp hg;lia)
theorem nG.val {a:Pz.Arr}{v:Pz.jC}(h:(a,v)∈t):a=(room,a.2.1,room)/\a.2.1∈ks/\v.1=S a.2.1:=by
 have k:=A.key (A.tg h);obtain⟨w,q1,q2⟩:=A.at k.2.2;have e:a=(room,a.2.1,room):=by obtain⟨a1,a2,a3⟩:=a;obtain⟨k1,k2,_⟩:=k;dsimp only at k1 k2;rw[k1,k2]
 rw[<- e,A.tg h]at q1;exact⟨e,k.2.2,by rw[IU q1];exact q2⟩
end
section
variable {room last:Int}{RL TL:List Pz.Rule}{ks:List Int}{S:Int->Int}{t:Pz.TD}{aV:List Int}{L:List l7}
variable (A:nG room last RL ks S TL t)
include A
theorem nG.rk (n:L.length=aV.length+1)(ok:kS t room aV L){j:Nat}{r:l7}(h:L[j]?=some r):∀ b∈r.ks,b=room:=by
 intro b hb;cases j with
 |zero=>rw[ok.z]at h;obtain rfl:=IU h;exact IA.mp hb
 |succ j=>obtain⟨hj,e⟩:=Iv.mp h;obtain⟨a,_,s,_,p,ha,e,_⟩:=(ok.s j L[j] r aV[j] (Ir (by lia)) h (Ir (by lia))).v b hb;obtain⟨_,v,hv,_⟩:=mem_ldT.mp ha;rw[e];exact(A.key (A.tg hv)).2.1
theorem nG.rs (hs:∀ x∈aV,x∈ks)(n:L.length=aV.length+1)(ok:kS t room aV L):∀(j:Nat)(r:l7),L[j]?=some r->room∈r.ks/\r.S room=((aV.take j).map S).sum:=by
 intro j;induction j with
 |zero=>intro r h;rw[ok.z]at h;obtain rfl:=IU h;exact⟨IA.mpr rfl,rfl⟩
 |succ j ih=>intro r h;obtain⟨hj,e⟩:=Iv.mp h;have h0:L[j]?=some L[j]:=Ir (by lia);have hk:aV[j]?=some aV[j]:=Ir (by lia);obtain⟨i1,i2⟩:=ih _ h0;have M:=ok.s j L[j] r aV[j] h0 h hk;have hg:=hs aV[j] (IH hk);obtain⟨w,w1,w2⟩:=A.at hg;have q:Dg t aV[j] L[j].S L[j].ks room (L[j].S room+S aV[j]) (room,aV[j],room):=⟨room,i1,S aV[j],mem_ldT.mpr ⟨rfl,w,Pz.c_ w1,w2⟩,rfl,rfl⟩;obtain⟨m1,m2⟩:=M.k _ _ _ q;refine⟨m1,?_⟩;obtain⟨a,_,s,hs',p,ha,_,e2⟩:=M.v room m1;obtain⟨k1,v,hv,k2⟩:=mem_ldT.mp ha;have es:=A.rk n ok h0 s hs';obtain⟨_,_,q3⟩:=A.val hv;have eg:a.2.1=aV[j]:=JL Prod.snd k1;rw[e2,es,<- k2,q3,eg,i2,List.take_succ,hk,Option.toList_some,IW,List.sum_append,List.map_singleton,List.sum_singleton]
theorem nG.len:t.length=ks.length:=by
 have nd:(ks.map fun g=>((room,g,room):Pz.Arr)).Nodup:=List.pairwise_map.mpr (A.sm.nd.imp fun h e=>h (by cases e;rfl));have a:=Pz.d4 (t.map (·.1)) _ A.g.nd fun a ha=>by obtain⟨x,hx,rfl⟩:=IT.mp ha;exact A.g.u x.1 x.2 (A.tg (by obtain⟨a,v⟩:=x;exact hx))
 have b:=Pz.d4 _ (t.map (·.1)) nd fun a ha=>by obtain⟨g,hg,rfl⟩:=IT.mp ha;obtain⟨w,h,_⟩:=A.at hg;exact IT.mpr ⟨_,Pz.c_ h,rfl⟩
 rw[Iq,Iq]at a b;lia
omit A in
theorem yI (room:Int)(S:Int->Int):∀(ks:List Int)(g:Int),g∈ks->((ks.map fun g=>(ak (room,g,room),V.int (S g))).find? fun y=>decide (y.1=ak (room,g,room)))=some (ak (room,g,room),V.int (S g)):=by
 intro ks;induction ks with
 |nil=>intro g h;cases h
 |cons x xs ih=>
  intro g h;rw[II];by_cases e:x=g
  .subst e;rw[List.find?_cons_of_pos (by exact IJ rfl)]
  .rw[List.find?_cons_of_neg (by intro z;exact e (JL (fun a:Pz.Arr=>a.2.1) (ja _ _ (Ja z))))];exact ih g ((ID.mp h).resolve_left (Jn e))
theorem nG.eqv:p_ (wB t) (ks.map fun g=>(ak (room,g,room),V.int (S g)))=true:=by unfold p_ wB;rw[Iq,Iq,A.len,J5,Bool.true_and,List.all_eq_true];intro y hy;obtain⟨x,hx,rfl⟩:=IT.mp hy;obtain⟨a,v⟩:=x;obtain⟨e,h1,h2⟩:=A.val hx;have f:=yI room S ks a.2.1 h1;rw[<- e]at f;unfold ya;dsimp only;rw[f,h2];exact IJ rfl
theorem nG.HV:yR room TL ks S t:=by
 have kl:=Bc A.dp A.sm;have kf:=vZ A.sm;have z:=A.z;have l0:=A.dp.l;refine⟨A.g.nd,by rw[A.len];lia,fun x hx=>(A.key (A.tg (v:=x.2) hx)).2.1,A.eqv,⟨(gp A.dp A.sm 0).mpr ⟨by lia,l0⟩,by lia,by lia⟩,fun x=>?_,fun aV hs L r o h=>?_,fun aV e L r o ne h=>?_,fun as e c h hc _=>?_,fun as e c n ns h w=>A.wk w e c h,fun r hr=>(A.dp.a r ((A.m r).mp hr)).2.2.2.2.1⟩
 .have a:=Km x (b:=((ks.length:Nat):Int)) (by lia);have b:=Int.emod_lt_of_pos x (b:=((ks.length:Nat):Int)) (by lia);exact(gp A.dp A.sm _).mpr ⟨a,by lia⟩
 .obtain⟨n,ok,l,lo⟩:=h;obtain⟨q1,q2⟩:=A.rs hs n ok _ r l;rw[Jp]at q2;cases o with
  |none=>exact(lo room (IA.mpr rfl) q1).elim
  |some x=>obtain⟨v,e⟩:=x;obtain⟨h1,_,h3,_⟩:=lo;rw[IA.mp h1]at h3;exact⟨e,by rw[h3,q2]⟩
 .obtain⟨n,ok,l,lo⟩:=h;cases o with
  |none=>rfl
  |some x=>obtain⟨v,e'⟩:=x;obtain⟨h1,h2,_⟩:=lo;exact(ne ((IA.mp h1).symm.trans (A.rk n ok l e' h2))).elim
 .obtain⟨n,rfl⟩:=Jj (A.pos h);obtain⟨ns,w⟩:=A.al n as e h;exact⟨n,ns,w,by lia⟩
end
theorem DJ {sc:List Int}(hz:sc.length<=63):vW (BX BZ) [.lst (sc.map .int)]=.ok (.val (.bl true) true []):=by refine yH ⟨sc,rfl,hz,fun RL last ks S TL dp z sm m ln=>?_⟩;obtain⟨t,g,h⟩:=vY (h0:=.int (1+jw sc 0 % 3)) (h1:=.int (ks.length:Nat)) (F4 dp z sm m ln);exact⟨t,fun ends=>h _ _,nG.HV ⟨dp,z,sm,m,g⟩⟩
end L4
namespace L3
open PySem L2
section
variable {env:En}{d:D}{al:List Nat}
theorem ye {α:Type}(a b c:α)(l:List α):rH (a::b::c::l) 2=some c:=by unfold rH z8;rw[IS (by lia),IS (by simp;lia)];rfl
def DM (n:Nat)(caps:List Nat)(asg:D->Bool->En->Option En)(test:En->Res Bool)(elt:En->Res R)(env:En)(s:Src):Res R:=if s.xs.length<=lim then
 (qI (fun d=>asg d s.fr (Ck env n caps)) test elt s.xs).GE.bind fun rs=>.ok (Gn (rs.map R.d) (Ci rs) (s.al++caps.filter (zb env))) else .stuck
theorem Bd (n:Nat)(caps:List Nat)(src:En->Res Src)(asg:D->Bool->En->Option En)(test:En->Res Bool)(elt:En->Res R)(env:En) :
 Cm n caps src asg test elt env=(src env).bind (DM n caps asg test elt env):=(rfl)
end
theorem F5 {α β:Type}(a:α)(k:α->Res β):(Res.ok a).bind k=k a:=(rfl)
end L3
local macro_rules|`(tactic| simp_arith[$as,*] $[$l:location]?)=>do
 let ls←("L3.E2 L3.uE decide_true decide_false List.map_cons List.map_nil List.length_cons List.length_nil List.replicate List.cons_append List.nil_append List.append_nil Nat.reduceAdd Nat.max_self Nat.zero_max Nat.max_zero Nat.zero_add Nat.reduceSub List.getElem?_cons_zero List.getElem?_cons_succ Int.reduceLT Int.reduceLE Int.reduceNeg List.set_cons_zero List.set_cons_succ Nat.reduceLT Nat.reduceLeDiff L3.ye Int.reduceBEq Bool.not_not Nat.reduceEqDiff L3.Bd Bool.and_true Bool.true_and Bool.and_false Bool.false_and Bool.and_self Bool.not_true Bool.not_false".splitOn " ").toArray.mapM fun s=>`(Lean.Parser.Tactic.simpLemma| $(Lean.mkIdent s.toName):ident)
 `(tactic| simp only[$[$ls:simpLemma],*,$as,*] $[$l]?)
local macro_rules|`(tactic| simp_arith $[$l:location]?)=>`(tactic| simp_arith[L3.F5] $[$l]?)
namespace L3
open PySem L2
end L3
namespace W
open PySem PySem.Spec PyProof.Rows L2 L3 L4
def top (i:Nat):Stmt:=PySem.Challenge.pw_callwalk_k27_deep_calls.main.body.getD i (.Pass ⟨0,0,0,0⟩)
abbrev fH:Stmt:=top 26
noncomputable abbrev ng:List Str:=["_law_cell"]
noncomputable abbrev dG:List Str:=["_law_cell"]
theorem lh:aL ng dG (aA fH):=bF
abbrev d3:Stmt:=top 27
noncomputable abbrev N__law_seed_at:List Str:=["_law_script", "_law_k"]
abbrev cF:List Str:=N__law_seed_at.take 2
theorem jD:aL N__law_seed_at cF (aA d3):=bF
abbrev dk:Stmt:=top 29
noncomputable abbrev N__law_rules_by:List Str:=["_law_cells", "_law_room", "_law_signs", "_law_cell", "_law_last", "_law_rules", "_law_sign", "_law_put"]
abbrev cp:List Str:=N__law_rules_by.take 2
theorem sc__law_rules_by:aL N__law_rules_by cp (aA dk):=bF
abbrev cG:Stmt:=top 30
noncomputable abbrev gq:List Str:=["_law_rules", "_law_sums", "_law_rule", "_law_price"]
noncomputable abbrev cH:List Str:=["_law_rules"]
theorem sc__law_sums_of:aL gq cH (aA cG):=bF
abbrev fJ:Stmt:=top 6
noncomputable abbrev N_is_plain:List Str:=["house", "machine"]
abbrev fK:List Str:=N_is_plain.take 2
theorem oS:aL N_is_plain fK (aA fJ):=bF
abbrev b8:Stmt:=top 7
noncomputable abbrev fV:List Str:=["house", "machine"]
noncomputable abbrev bG:List Str:=["house", "machine"]
theorem fL:aL fV bG (aA b8):=bF
def cN:List D->Res R:=L4.BZ
abbrev cO:Stmt:=top 11
noncomputable abbrev jf:List Str:=["house", "rules", "number", "rule"]
noncomputable abbrev cR:List Str:=["house"]
theorem sc_rules_by_start:aL jf cR (aA cO):=bF
abbrev kH:Stmt:=top 13
noncomputable abbrev N_prices:List Str:=["house", "machine", "pricing", "arrow", "number", "rule"]
abbrev iH:List Str:=N_prices.take 2
theorem sc_prices:aL N_prices iH (aA kH):=bF
abbrev Be:Stmt:=dD (top 9) 0
theorem DN:aL ["self"] ["self"] (aA Be):=bF
abbrev Bf:Stmt:=dD (top 9) 1
theorem DO:aL ["self", "price", "thing"] ["self", "price", "thing"] (aA Bf):=bF
abbrev Bg:Stmt:=dD (top 9) 2
theorem DP:aL ["self"] ["self"] (aA Bg):=bF
abbrev yJ:Stmt:=dD (top 9) 3
theorem sc_QT:aL ["self", "pile", "price", "thing"] ["self"] (aA yJ):=bF
abbrev Bh:Stmt:=dD (top 12) 0
theorem DQ:aL ["self", "house"] ["self", "house"] (aA Bh):=bF
abbrev Bi:Stmt:=dD (top 12) 1
theorem sc_PO:aL ["self", "arrow", "price", "number", "mid", "known"] ["self", "arrow", "price", "number", "mid"] (aA Bi):=bF
abbrev Bj:Stmt:=dD (top 12) 2
theorem sc_PS:aL ["self", "arrow", "price", "start", "number", "rule", "first"] ["self", "arrow", "price"] (aA Bj):=bF
abbrev Bk:Stmt:=dD (top 12) 3
theorem sc_PF:aL ["self", "number", "rule", "mid", "price", "start", "state", "second"] ["self", "number", "rule", "mid", "price"] (aA Bk):=bF
abbrev Bl:Stmt:=dD (top 12) 4
theorem sc_PA:aL ["self", "price", "arrow"] ["self"] (aA Bl):=bF
def fh:List D->Res R:=L4.BX cN
abbrev jM:Stmt:=top 24
noncomputable abbrev qZ:List Str:=["house", "told"]
noncomputable abbrev jN:List Str:=["house"]
theorem sc_pairs:aL qZ jN (aA jM):=bF
abbrev eB:Stmt:=top 15
noncomputable abbrev lq:List Str:=["told", "leading", "arrow", "price"]
noncomputable abbrev cU:List Str:=["told"]
theorem sc_priced_from:aL lq cU (aA eB):=bF
abbrev fM:Stmt:=top 16
noncomputable abbrev N_sums_ahead:List Str:=["leading", "sums", "sign", "ahead", "state", "reached", "arrow", "price", "known"]
abbrev dH:List Str:=N_sums_ahead.take 3
theorem sc_sums_ahead:aL N_sums_ahead dH (aA fM):=bF
abbrev fN:Stmt:=top 17
noncomputable abbrev N_sums_along:List Str:=["told", "standing", "leading", "rows", "sign"]
abbrev dI:List Str:=N_sums_along.take 2
theorem sc_sums_along:aL N_sums_along dI (aA fN):=bF
abbrev dJ:Stmt:=top 18
noncomputable abbrev iI:List Str:=["machine", "sums"]
noncomputable abbrev dL:List Str:=["machine", "sums"]
theorem lr:aL iI dL (aA dJ):=bF
abbrev nh:Stmt:=top 19
noncomputable abbrev N_least:List Str:=["house", "machine", "standing", "lowest"]
abbrev jO:List Str:=N_least.take 3
theorem sc_least:aL N_least jO (aA nh):=bF
abbrev fP:Stmt:=top 28
noncomputable abbrev nj:List Str:=["_law_found"]
noncomputable abbrev dM:List Str:=["_law_found"]
theorem lu:aL nj dM (aA fP):=bF
abbrev eF:Stmt:=top 20
noncomputable abbrev lx:List Str:=["rows", "state", "arrows", "sums", "arrow"]
noncomputable abbrev cV:List Str:=["rows", "state"]
theorem sc_arrows_back:aL lx cV (aA eF):=bF
abbrev fQ:Stmt:=top 21
noncomputable abbrev N_parts_back:List Str:=["rule", "mid", "state"]
abbrev dN:List Str:=N_parts_back.take 3
theorem ly:aL N_parts_back dN (aA fQ):=bF
abbrev eG:Stmt:=top 22
noncomputable abbrev N_rules_along:List Str:=["house", "told", "arrows", "due", "numbers", "arrow", "number"]
abbrev cW:List Str:=N_rules_along.take 3
theorem sc_rules_along:aL N_rules_along cW (aA eG):=bF
abbrev v4:Stmt:=top 23
noncomputable abbrev N_way:List Str:=["house", "machine", "standing", "most", "told", "rows", "lowest"]
abbrev q_:List Str:=N_way.take 4
theorem sc_way:aL N_way q_ (aA v4):=bF
abbrev eI:Stmt:=top 32
noncomputable abbrev N__law_way_of:List Str:=["_law_house", "_law_machine", "_law_standing", "_law_most", "_law_found"]
abbrev cX:List Str:=N__law_way_of.take 4
theorem sc__law_way_of:aL N__law_way_of cX (aA eI):=bF
abbrev eJ:Stmt:=top 31
noncomputable abbrev N__law_walked:List Str:=["_law_house", "_law_standing", "_law_numbers", "_law_room", "_law_stack", "_law_number", "_law_rule"]
abbrev cY:List Str:=N__law_walked.take 3
theorem sc__law_walked:aL N__law_walked cY (aA eJ):=bF
abbrev oT:Stmt:=top 33
noncomputable abbrev N_law:List Str:=["_law_script", "_law_seed", "_law_rooms", "_law_room", "_law_rules", "_law_sums", "_law_turn", "_law_told", "_law_house", "_law_due", "_law_sign", "_law_price", "_law_asked", "_law_stack", "_law_total", "_law_machine", "_law_standing", "_law_found", "_law_other", "_law_most", "_law_row"]
abbrev re:List Str:=N_law.take 1
theorem sc_law:aL N_law re (aA oT):=bF
def rf:List D->Res R:=L4.vW fh
set_option genInjectivity false in
structure Tx (K:LM) (mg:Str->Option LO) where
 o8:Df K mg "_law_mixed" fH dG
 o7:Df K mg "_law_seed_at" d3 cF
 wD:Df K mg "_law_rules_by" dk cp
 wU:Df K mg "_law_sums_of" cG cH
 wQ:Df K mg "is_plain" fJ fK
 wN:Df K mg "refuse_unless_plain" b8 bG
 wL:Df K mg "rules_by_start" cO cR
 o6:Df K mg "prices" kH iH
 wO:Df K mg "pairs" jM jN
 wH:Df K mg "priced_from" eB cU
 wR:Df K mg "sums_ahead" fM dH
 tz:Df K mg "sums_along" fN dI
 tp:Df K mg "lowest_end" dJ dL
 tJ:Df K mg "least" nh jO
 tf:Df K mg "_law_whole" fP dM
 wW:Df K mg "arrows_back" eF cV
 wG:Df K mg "parts_back" fQ dN
 wJ:Df K mg "rules_along" eG cW
 tF:GB K mg "way" v4 q_ 60
 wI:Df K mg "_law_way_of" eI cX
 wC:Df K mg "_law_walked" eJ cY
 wF:Df K mg "law" oT re
 BL:mg "all"=none
 yN:mg "bool"=none
 yL:mg "dict"=none
 iQ:mg "enumerate"=none
 Bu:mg "int"=none
 eM:mg "isinstance"=none
 cI:mg "len"=none
 gG:mg "list"=none
 gr:mg "min"=none
 gv:mg "reversed"=none
 wg:mg "sum"=none
 Bw:mg "zip"=none
 cq:Addr
 yQ:XC K mg "NoWay" cq
 jP:(j6 K cq).contains (.ref cq)=true
 bJ:Addr
 jj:XC K mg "TooLong" bJ
 fj:(j6 K bJ).contains (.ref bJ)=true
 CQ:Addr
 kQ:nz K CQ
 gQ:mg "Queue"=some (.ref CQ)
 CP:Addr
 kP:gL K CP
 gP:mg "Pricing"=some (.ref CP)
 BI:Mf K CQ "__init__" "Queue.__init__" Be ["self"]
 BF:Mk K CQ BI.f
 yO:Mf K CQ "add" "Queue.add" Bf ["self", "price", "thing"]
 BA:Mf K CQ "is_empty" "Queue.is_empty" Bg ["self"]
 BO:Mf K CQ "take_lowest" "Queue.take_lowest" yJ ["self"]
 BD:Mf K CP "__init__" "Pricing.__init__" Bh ["self", "house"]
 BC:Mk K CP BD.f
 qo:Mf K CP "offer" "Pricing.offer" Bi ["self", "arrow", "price", "number", "mid"]
 BM:Mf K CP "settle" "Pricing.settle" Bj ["self", "arrow", "price"]
 BB:Mf K CP "settle_first" "Pricing.settle_first" Bk ["self", "number", "rule", "mid", "price"]
 BQ:Mf K CP "settle_all" "Pricing.settle_all" Bl ["self"]
section
variable {P:LN}{w:World}{K:LM}{mg:Str->Option LO}{base:Heap}(t:Tx K mg)
theorem eL:bz P w K mg base gS 1 t.o8.f t.o8.fd dG qi:=
 t.o8.h.fu.ok lh (fun _ _ _ _ h=>vI h) fun cdv A outer s H vs Q E hr h=>
  have hu:=hr.units
  ⟨_,(ay (bb (aP bM (aP t6 (aP t6 (aP bL (aP bM (pv 0) av) av) av) av) av))),yv h⟩
theorem dm:bz P w K mg base gS 2 t.o7.f t.o7.fd cF lD:=
 t.o7.h.fu.ok jD (fun _ _ _ _ h=>vJ h) fun cdv A outer s H vs Q E hr h=>
  have hu:=hr.units
  ⟨_,(ax (bS (aQ qw (pv 1) (aR ci (by rfl) t.cI Jw (ac (pv 0) aj)) (aZ _)) (ay (bb (aW (eL t) (hr.mono (by decide)) rfl t.o8.h.gl t.o8.h.fu.kp t.o8.h.bi .nil bf (ac (aF cT (pv 0) (pv 1) (fun _ _=>rfl)) aj)))) bh)
    (ay (bb (aW (eL t) (hr.mono (by decide)) rfl t.o8.h.gl t.o8.h.fu.kp t.o8.h.bi .nil bf (ac av aj))))),yw h⟩
theorem jg:bz P w K mg base gS 1 t.wD.f t.wD.fd cp wy:=
 t.wD.h.fu.ok sc__law_rules_by (fun _ _ _ _ h=>vL h) fun cdv A outer s H vs Q E hr h=>
  have hu:=hr.units
  ⟨_,(ax (aG (i:=2) sc__law_rules_by.nd rfl (Or.inl rfl) (bp aj))
    (ax (bZ Je rfl (bV (pv 0)) (aK (i:=3) sc__law_rules_by.nd rfl (Or.inl rfl)) (ay (bS (aQ (vK hu) (pv 2) (bp aj) (aZ _)) (ay (bj (cL IZ Jc Jd bD (pv 2) (ac av aj)))) (ay (bS (aQ fY (aP bM (pv 3) av) av (aZ _)) (ay (bj (cL IZ Jc Jd bD (pv 2) (ac (aF cT (pv 2) (lE iX av) (fun _ _=>rfl)) aj)))) (ay (bj (cL IZ Jc Jd bD (pv 2) (ac (aP bL (aF cT (pv 2) (lE iX av) (fun _ _=>rfl)) av) aj)))))))))
    (ax (aG (i:=4) sc__law_rules_by.nd rfl (Or.inl rfl) av)
    (ax (bS (aQ (A4 hu) (pv 2) (bp aj) (aZ _)) (ay (aG (i:=4) sc__law_rules_by.nd rfl (Or.inl rfl) (aP bL (aF cT (pv 2) (lE iX av) (fun _ _=>rfl)) av))) bh)
    (ax (aG (i:=5) sc__law_rules_by.nd rfl (Or.inl rfl) (bp aj))
    (ax (bZ Je rfl (Am rfl t.Bw (ac (pv 2) (ac (pv 0) aj))) (cz rfl (aN (aK (i:=6) sc__law_rules_by.nd rfl (Or.inl rfl)) (aN (aK (i:=3) sc__law_rules_by.nd rfl (Or.inl rfl)) b9))) (ax (aG (i:=7) sc__law_rules_by.nd rfl (Or.inl rfl) (aT (ac (aP bL (pv 6) av) (ac (aP bL (pv 6) av) aj))))
    (ax (bS (aQ fY (aP bM (aP cS (pv 3) av) av) av (aZ _)) (ay (aG (i:=7) sc__law_rules_by.nd rfl (Or.inl rfl) (aT (ac (aR (eU rfl) (by rfl) t.gr (by decide +kernel) (ac (pv 4) (ac (aP bL (aP bL (pv 6) av) (aP bM (aP cS (pv 3) av) av)) aj))) (ac (aR (eU rfl) (by rfl) t.gr (by decide +kernel) (ac (pv 4) (ac (aP bL (aP bL (pv 6) av) (aP bM (aP cS (pv 3) av) av)) aj))) aj))))) bh)
    (ax (bS (aQ fY (aP bM (aP cS (pv 3) av) av) av (aZ _)) (ay (aG (i:=7) sc__law_rules_by.nd rfl (Or.inl rfl) (aT (ac (aR (eU rfl) (by rfl) t.gr (by decide +kernel) (ac (pv 4) (ac (aP bL (aP bL (pv 6) av) (aP bM (aP cS (pv 3) av) av)) aj))) aj)))) bh)
    (ay (bj (cL IZ Jc Jd bD (pv 5) (ac (aT (ac (pv 1) (ac (pv 6) (ac (pv 1) (ac (pv 7) aj))))) aj))))))))
    (ay (bb (aP pD (pv 5) (bp (ac (aT (ac (pv 1) (ac (pv 4) (ac (pv 1) (ac (aT aj) aj))))) aj))))))))))),yz h⟩
theorem Bm:((["_law_sign"]:List Str)++(["_law_sums"]:List Str)).Nodup:=by decide +kernel
theorem jE:bz P w K mg base gS 1 t.wU.f t.wU.fd cH wz:=
 t.wU.h.fu.ok sc__law_sums_of (fun _ _ _ _ h=>vP h) fun cdv A outer s H vs Q E hr h=>
  have hu:=hr.units
  ⟨_,(ax (aG (i:=1) sc__law_sums_of.nd rfl (Or.inr rfl) jZ)
    (ax (bZ Je rfl (ux rfl t.gv (ac (pv 0) aj)) (aK (i:=2) sc__law_sums_of.nd rfl (Or.inl rfl)) (ax (aG (i:=3) sc__law_sums_of.nd rfl (Or.inl rfl) (aP bL av (aR (lV rfl) (by rfl) t.wg (by decide +kernel) (ac (dY (tN:=["_law_sign"]) (capN:=["_law_sums"]) (caps:=[1]) rfl (dt.of (osc:=aA cG) (N:=gq) rfl rfl (by decide +kernel)) (zW (aF aD (pv 2) av (fun _ _=>rfl)))) aj))))
    (ay (jI (cM hr) (pv 1) (aF aD (pv 2) av (fun _ _=>rfl)) (aR (eU rfl) (by rfl) t.gr (by decide +kernel) (ac (pv 3) (ac (f9 (cM hr) (pv 1) (aF aD (pv 2) av (fun _ _=>rfl)) (pv 3) ⟨rfl,rfl,rfl,rfl⟩) aj))) rfl))))
    (ay (bb (pv 1))))),yA ⟨rfl,rfl,fun _ _ _ _ _=>aK (i:=0) Bm rfl (Or.inl rfl),fun _ _ _ _ _=>(fy (cM hr) (pv 1) (pv 0) (fun _ _=>rfl))⟩ h⟩
theorem oU:bz P w K mg base gS 1 t.wQ.f t.wQ.fd fK wc:=t.wQ.h.fu.ok oS (fun _ _ _ _ h=>vh h) fun cdv A outer s H vs Q E hr h=>⟨_,ay (bb (aR (sV rfl) (by rfl) t.BL (by decide +kernel) (ac (dY (tN:=["arrow"]) (capN:=["house"]) (caps:=[0]) rfl (dt.of (osc:=aA fJ) (N:=N_is_plain) rfl rfl (by decide +kernel)) (bV (aF aD (pv 1) av (fun _ _=>rfl)))) aj))),yg h⟩
theorem fR:bz P w K mg base gS 2 t.wN.f t.wN.fd bG (tO mg 2 cN):=t.wN.h.fu.ok fL (fun _ _ _ _ h=>h.1) fun cdv A outer s H vs Q E hr h=>⟨_,ay (bS (iW (jQ (aW (oU t) (hr.mono (by decide)) rfl t.wQ.h.gl t.wQ.h.fu.kp t.wQ.h.bi .nil bf (ac (pv 0) (ac (pv 1) aj))))) AU bh),yh h⟩
theorem DR:bz P w K mg base gS 1 t.BI.f t.BI.fd ["self"] (iL t.CQ):=t.BI.h.fu.ok DN (fun _ _ _ _ h=>oz h) fun cdv A outer s H vs Q E hr h=>⟨_,ax (fZ (pv 0) av rfl) (ay (fZ (pv 0) jZ rfl)),pT t.kQ h⟩
theorem zB:bz P w K mg base gS 1 t.yO.f t.yO.fd ["self", "price", "thing"] (l9 t.CQ):=
 t.yO.h.fu.ok DO (fun _ _ _ _ h=>sB h) fun cdv A outer s H vs Q E hr h=>
  ⟨_,ay (bj (cL IZ Jc Jd bD (cL Ji Jm JH xy (b7 (pv 0) rfl)
    (ac (pB PySem.F.plainAttrs_int PySem.F.slot_int_bit_length PySem.F.type_int_bit_length xO (aP zZ (pv 1) (b7 (pv 0) rfl))) (ac (bp aj) aj))) (ac (aT (ac (pv 1) (ac (pv 2) aj))) aj))),uN t.kQ h rfl⟩
theorem DS:bz P w K mg base gS 1 t.BA.f t.BA.fd ["self"] (iU t.CQ):=t.BA.h.fu.ok DP (fun _ _ _ _ h=>oB h) fun cdv A outer s H vs Q E hr h=>⟨_,ay (bb (md fY (aR ff (by rfl) t.cI Jw (ac (b7 (pv 0) rfl) aj)) av (aZ _))),pU t.kQ h⟩
theorem oV:bz P w K mg base gS 2 t.qo.f t.qo.fd ["self", "arrow", "price", "number", "mid"] (cZ t.CP t.CQ):=
 t.qo.h.fu.ok sc_PO (fun _ _ _ _ h=>oC h) fun cdv A outer s H vs Q E hr h=>
  ⟨_,ax (aG (i:=5) sc_PO.nd rfl (Or.inl rfl) (nX (cM hr) (b7 (pv 0) rfl) (pv 1) ⟨rfl,rfl,rfl,rfl⟩))
    (ay (bS (PW.pt (jR (aQ hI (pv 5) bR (aZ _)) (gZ (aQ qw (pv 2) (aF aD (pv 5) av (fun _ _=>rfl)) (aZ _)))))
      (ax (jI (cM hr) (b7 (pv 0) rfl) (pv 1) (aT (ac (pv 2) (ac (pv 3) (ac (pv 4) aj)))) rfl)
        (ay (bj (dC (b7 (pv 0) rfl) t.kQ.cl t.yO.h.me (zB t) hr t.yO.h.bi .nil bf (ac (pv 2) (ac (pv 1) aj))))))
      bh)),pW t.kP t.kQ h⟩
theorem v5:((["price", "thing"]:List Str)++([]:List Str)).Nodup:=by decide +kernel
theorem DT:bz P w K mg base gS 2 t.BO.f t.BO.fd ["self"] (kT t.CQ):=
 t.BO.h.fu.ok sc_QT (fun _ _ _ _ h=>pV h) fun cdv A outer s H vs Q E hr h=>
  ⟨_,ax (aG (i:=1) sc_QT.nd rfl (Or.inl rfl) (nY (b7 (pv 0) rfl) (aR (sC rfl) (by rfl) t.gr (by decide +kernel) (ac (pB Ji PySem.F.slot_dict_keys PySem.F.type_dict_keys xP (b7 (pv 0) rfl)) aj)) ⟨rfl,rfl,rfl,rfl⟩))
    (ax (fZ (pv 0) (aR (sK rfl) (by rfl) t.gr (by decide +kernel) (ac (dY (tN:=["price", "thing"]) (capN:=[]) (caps:=[]) rfl (dt.of (osc:=aA yJ) (N:=["self", "pile", "price", "thing"]) rfl rfl (by decide +kernel)) (bV (pv 1))) aj)) rfl)
    (ax (bZ Je rfl (bV (pv 1)) (cz rfl (aN (aK (i:=2) sc_QT.nd rfl (Or.inl rfl)) (aN (aK (i:=3) sc_QT.nd rfl (Or.inl rfl)) b9)))
      (ay (bj (dC (pv 0) t.kQ.cl t.yO.h.me (zB t) hr t.yO.h.bi .nil bf (ac (pv 2) (ac (pv 3) aj))))))
    (ay (bb (nY (b7 (pv 0) rfl) av ⟨rfl,rfl,rfl,rfl⟩))))),
    sD t.kQ (fun _ _=>rfl) (sL rfl (fun _ _ _ _ _=>cz rfl (aN (aK (i:=0) v5 rfl (Or.inl rfl)) (aN (aK (i:=1) v5 rfl (Or.inl rfl)) b9))) fun _ _ _ _ _=>pv 0) h⟩
theorem DU:bz P w K mg base gS 3 t.BB.f t.BB.fd ["self", "number", "rule", "mid", "price"] (iP t.CP t.CQ):=
 t.BB.h.fu.ok sc_PF (fun _ _ _ _ h=>oF h) fun cdv A outer s H vs Q E hr h=>
  ⟨_,ax (aG (i:=5) sc_PF.nd rfl (Or.inl rfl) (aT (ac (pv 3) (ac (aF aD (aF aD (pv 2) av (fun _ _=>rfl)) av (fun _ _=>rfl)) aj))))
    (ax (bj (cL IZ Jc Jd bD (cL Ji Jm JH (iy hr.units) (b7 (pv 0) rfl) (ac (pv 5) (ac (bp aj) aj))) (ac (aT (ac (pv 1) (ac (pv 2) (ac (pv 4) aj)))) aj)))
    (ay (bZ Je rfl (bV (f9 (cM hr) (b7 (pv 0) rfl) (pv 5) (bp aj) ⟨rfl,rfl,rfl,rfl⟩)) (cz rfl (aN (aK (i:=6) sc_PF.nd rfl (Or.inl rfl)) (aN (aK (i:=7) sc_PF.nd rfl (Or.inl rfl)) b9)))
      (ay (bj (dC (pv 0) t.kP.cl t.qo.h.me (oV t) hr t.qo.h.bi .nil bf (ac (aT (ac (aF aD (pv 2) av (fun _ _=>rfl)) (ac (aF aD (pv 2) av (fun _ _=>rfl)) (ac (pv 6) aj))))
        (ac (aP bL (aP bL (pv 4) (pv 7)) av) (ac (pv 1) (ac (pv 3) aj)))))))))),pX t.kP h⟩
theorem DV:bz P w K mg base gS 4 t.BM.f t.BM.fd ["self", "arrow", "price"] (gy t.CP t.CQ):=
 t.BM.h.fu.ok sc_PS (fun _ _ _ _ h=>mX h) fun cdv A outer s H vs Q E hr h=>
  have hr2:cv 2 _:=hr.mono (by decide)
  ⟨_,ax (aG (i:=3) sc_PS.nd rfl (Or.inl rfl) (aT (ac (aF aD (pv 1) av (fun _ _=>rfl)) (ac (aF aD (pv 1) av (fun _ _=>rfl)) aj))))
    (ax (bj (cL IZ Jc Jd bD (cL Ji Jm JH (iy hr.units) (b7 (pv 0) rfl) (ac (pv 3) (ac (bp aj) aj))) (ac (aT (ac (aF aD (pv 1) av (fun _ _=>rfl)) (ac (pv 2) aj))) aj)))
    (ax (bZ Je rfl (bV (f9 (cM hr) (b7 (pv 0) rfl) (pv 3) (bp aj) ⟨rfl,rfl,rfl,rfl⟩)) (cz rfl (aN (aK (i:=4) sc_PS.nd rfl (Or.inl rfl)) (aN (aK (i:=5) sc_PS.nd rfl (Or.inl rfl)) (aN (aK (i:=6) sc_PS.nd rfl (Or.inl rfl)) b9))))
      (ay (bj (dC (pv 0) t.kP.cl t.qo.h.me (oV t) hr2 t.qo.h.bi .nil bf (ac (aT (ac (aF aD (pv 5) av (fun _ _=>rfl)) (ac (aF aD (pv 5) av (fun _ _=>rfl)) (ac (aF aD (pv 1) av (fun _ _=>rfl)) aj))))
        (ac (aP bL (aP bL (pv 6) (pv 2)) av) (ac (pv 4) (ac (aF aD (pv 1) av (fun _ _=>rfl)) aj))))))))
    (ay (bZ Je rfl (bV (f9 (cM hr) (b7 (pv 0) rfl) (pv 3) (bp aj) ⟨rfl,rfl,rfl,rfl⟩)) (cz rfl (aN (aK (i:=4) sc_PS.nd rfl (Or.inl rfl)) (aN (aK (i:=5) sc_PS.nd rfl (Or.inl rfl)) b9)))
      (ay (bS (aQ fY (aR ci (by rfl) t.cI Jw (ac (aF aD (pv 5) av (fun _ _=>rfl)) aj)) av (aZ _))
        (ay (bj (dC (pv 0) t.kP.cl t.qo.h.me (oV t) hr2 t.qo.h.bi .nil bf (ac (aT (ac (aF aD (pv 5) av (fun _ _=>rfl)) (ac (aF aD (pv 5) av (fun _ _=>rfl)) (ac (aF aD (pv 1) av (fun _ _=>rfl)) aj))))
          (ac (aP bL (pv 2) av) (ac (pv 4) (ac bR aj)))))))
        (ay (bj (dC (pv 0) t.kP.cl t.BB.h.me (DU t) hr t.BB.h.bi .nil bf (ac (pv 4) (ac (pv 5) (ac (aF aD (pv 1) av (fun _ _=>rfl)) (ac (pv 2) aj))))))))))))),oG t.kP h⟩
theorem DW:bz P w K mg base gS 5 t.BQ.f t.BQ.fd ["self"] (oY t.CP t.CQ):=
 t.BQ.h.fu.ok sc_PA (fun _ _ _ _ h=>sF h) fun cdv A outer s H vs Q E hr h=>
  ⟨_,ay (nO Je (iW (jQ (jV (b7 (pv 0) rfl) t.kQ.cl t.BA.h.me (DS t) (hr.mono (by decide)) t.BA.h.bi .nil bf)))
    (ay (bZ Je rfl (bV (jV (b7 (pv 0) rfl) t.kQ.cl t.BO.h.me (DT t) (hr.mono (by decide)) t.BO.h.bi .nil bf)) (cz rfl (aN (aK (i:=1) sc_PA.nd rfl (Or.inl rfl)) (aN (aK (i:=2) sc_PA.nd rfl (Or.inl rfl)) b9)))
      (ay (bS (aQ fY (aF aD (fy (cM hr) (b7 (pv 0) rfl) (pv 2) (fun _ _=>rfl)) av (fun _ _=>rfl)) (pv 1) (aZ _))
        (ay (bj (dC (pv 0) t.kP.cl t.BM.h.me (DV t) hr t.BM.h.bi .nil bf (ac (pv 2) (ac (pv 1) aj))))) bh))))),uV t.kP h⟩
theorem iJ:bz P w K mg base gS 1 t.wL.f t.wL.fd ["house"] we:=
 t.wL.h.fu.ok sc_rules_by_start (fun _ _ _ _ h=>uW h) fun cdv A outer s H vs Q E hr h=>
  ⟨_,ax (aG (i:=1) sc_rules_by_start.nd rfl (Or.inl rfl) e9)
    (ax (bZ Je rfl (qK rfl t.iQ (ac (aF aD (pv 0) av (fun _ _=>rfl)) aj)) (cz rfl (aN (aK (i:=2) sc_rules_by_start.nd rfl (Or.inl rfl)) (aN (aK (i:=3) sc_rules_by_start.nd rfl (Or.inl rfl)) b9)))
      (ay (bS (aQ nP (aR ci (by rfl) t.cI Jw (ac (aF aD (pv 3) av (fun _ _=>rfl)) aj)) av (aZ _))
        (ay (bj (cL IZ Jc Jd bD (cL Ji Jm JH (iy hr.units) (pv 1)
          (ac (aT (ac (aF aD (pv 3) av (fun _ _=>rfl)) (ac (aF aD (aF aD (pv 3) av (fun _ _=>rfl)) av (fun _ _=>rfl)) aj))) (ac (bp aj) aj))) (ac (aT (ac (pv 2) (ac (pv 3) aj))) aj)))) bh)))
    (ay (bb (pv 1)))),xW h⟩
theorem DY:bz P w K mg base gS 3 t.BD.f t.BD.fd ["self", "house"] (iS t.CP t.CQ):=
 t.BD.h.fu.ok DQ (fun _ _ _ _ h=>oH h) fun cdv A outer s H vs Q E hr h=>
  ⟨_,ax (fZ (pv 0) (aW (iJ t) (hr.mono (by decide)) rfl t.wL.h.gl t.wL.h.fu.kp t.wL.h.bi .nil bf (ac (pv 1) aj)) rfl)
    (ax (fZ (pv 0) e9 rfl) (ax (fZ (pv 0) (ud t.BF (DR t) hr rfl t.gQ t.BI.h.bi .nil bf) rfl) (ax (fZ (pv 0) e9 rfl) (ay (fZ (pv 0) e9 rfl))))),pZ t.kP h⟩
theorem jh:bz P w K mg base gS 6 t.o6.f t.o6.fd iH (tO mg 2 fh):=
 t.o6.h.fu.ok sc_prices (fun _ _ _ _ h=>h.1) fun cdv A outer s H vs Q E hr h=>
  have hr2:cv 2 _:=hr.mono (by decide)
  ⟨_,ax (bj (aW (fR t) (hr.mono (by decide)) rfl t.wN.h.gl t.wN.h.fu.kp t.wN.h.bi .nil Cp (ac (pv 0) (ac (pv 1) aj))))
    (ax (aG (i:=2) sc_prices.nd rfl (Or.inl rfl) (xg t.BC (DY t) (hr.mono (by decide)) rfl t.gP t.BD.h.bi .nil bf (ac (pv 0) aj)))
    (ax (bZ Je rfl (bV (aF aD (pv 1) av (fun _ _=>rfl))) (aK (i:=3) sc_prices.nd rfl (Or.inl rfl)) (ay (bj (dC (pv 2) t.kP.cl t.qo.h.me (oV t) hr2 t.qo.h.bi .nil bf (ac (pv 3) (ac av (ac bR (ac bR aj))))))))
    (ax (bZ Je rfl (qK rfl t.iQ (ac (aF aD (pv 0) av (fun _ _=>rfl)) aj)) (cz rfl (aN (aK (i:=4) sc_prices.nd rfl (Or.inl rfl)) (aN (aK (i:=5) sc_prices.nd rfl (Or.inl rfl)) b9)))
      (ay (bS (aQ fY (aR ci (by rfl) t.cI Jw (ac (aF aD (pv 5) av (fun _ _=>rfl)) aj)) av (aZ _))
        (ay (bj (dC (pv 2) t.kP.cl t.qo.h.me (oV t) hr2 t.qo.h.bi .nil bf (ac (aT (ac (aF aD (pv 5) av (fun _ _=>rfl)) (ac (aF aD (pv 5) av (fun _ _=>rfl)) (ac (aF aD (pv 5) av (fun _ _=>rfl)) aj))))
          (ac av (ac (pv 4) (ac bR aj))))))) bh)))
    (ax (bj (jV (pv 2) t.kP.cl t.BQ.h.me (DW t) hr t.BQ.h.bi .nil bf))
    (ay (bb (b7 (pv 2) rfl))))))),oI t.kP h⟩
theorem v6:((["arrow", "price"]:List Str)++([]:List Str)).Nodup:=by decide +kernel
theorem v7:bz P w K mg base gS 7 t.wO.f t.wO.fd jN (wf fh):=
 t.wO.h.fu.ok sc_pairs (fun _ _ _ _ h=>vH h) fun cdv A outer s H vs Q E hr h=>
  have hu:=hr.units
  ⟨_,(ax (aG (i:=1) sc_pairs.nd rfl (Or.inl rfl) (aW (jh t) (hr.mono (by decide)) rfl t.o6.h.gl t.o6.h.fu.kp t.o6.h.bi .nil bf (ac (pv 0) (ac (aT (ac (aF aD (pv 0) av (fun _ _=>rfl)) (ac (bp aj) (ac (bp aj) aj)))) aj))))
      (ay (bb (eY (qd rfl hu) (by rfl) t.yL (by decide +kernel) (ac (dY (tN:=["arrow", "price"]) (capN:=[]) (caps:=[]) rfl (dt.of (osc:=aA jM) (N:=qZ) rfl rfl (by decide +kernel)) (lS (pv 1))) aj))))),yu rfl (fun _ _ _ _ _=>cz rfl (aN (aK (i:=0) v6 rfl (Or.inl rfl)) (aN (aK (i:=1) v6 rfl (Or.inl rfl)) b9))) (fun _ _ _ _ _=>(aT (ac (pv 0) (ac (aF aD (pv 1) av (fun _ _=>rfl)) aj)))) h⟩
theorem kI:bz P w K mg base gS 1 t.wH.f t.wH.fd cU wq:=
 t.wH.h.fu.ok sc_priced_from (fun _ _ _ _ h=>vj h) fun cdv A outer s H vs Q E hr h=>
  have hu:=hr.units
  ⟨_,(ax (aG (i:=1) sc_priced_from.nd rfl (Or.inl rfl) e9)
    (ax (pJ (bZ Je rfl (lS (pv 0)) (cz rfl (aN (aK (i:=2) sc_priced_from.nd rfl (Or.inl rfl)) (aN (aK (i:=3) sc_priced_from.nd rfl (Or.inl rfl)) b9))) (ay (bj (cL IZ Jc Jd bD (cL Ji Jm JH (iy hu) (pv 1) (ac (aT (ac (aF aD (pv 2) av (fun _ _=>rfl)) (ac (aF aD (pv 2) av (fun _ _=>rfl)) aj))) (ac (bp aj) aj))) (ac (aT (ac (pv 2) (ac (aF aD (pv 3) av (fun _ _=>rfl)) aj))) aj))))))
    (ay (bb (pv 1))))),yk h⟩
theorem lA:bz P w K mg base gS 1 t.wR.f t.wR.fd dH wb:=
 t.wR.h.fu.ok sc_sums_ahead (fun _ _ _ _ h=>vk h) fun cdv A outer s H vs Q E hr h=>
  have hu:=hr.units
  ⟨_,(ax (aG (i:=3) sc_sums_ahead.nd rfl (Or.inl rfl) jZ)
    (ax (pJ (bZ Je rfl (oj (pv 1)) (cz rfl (aN (aK (i:=4) sc_sums_ahead.nd rfl (Or.inl rfl)) (aN (aK (i:=5) sc_sums_ahead.nd rfl (Or.inl rfl)) b9))) (ay (bZ Je rfl (bV (f9 (cM hr) (pv 0) (aT (ac (pv 4) (ac (pv 2) aj))) (bp aj) ⟨rfl,rfl,rfl,rfl⟩)) (cz rfl (aN (aK (i:=6) sc_sums_ahead.nd rfl (Or.inl rfl)) (aN (aK (i:=7) sc_sums_ahead.nd rfl (Or.inl rfl)) b9))) (ax (aG (i:=8) sc_sums_ahead.nd rfl (Or.inl rfl) (nX (cM hr) (pv 3) (aF aD (pv 6) av (fun _ _=>rfl)) ⟨rfl,rfl,rfl,rfl⟩))
    (ay (bS (PW.pt (jR (aQ hI (pv 8) bR (aZ _)) (gZ (aQ qw (aP bL (aF aD (pv 5) av (fun _ _=>rfl)) (pv 7)) (aF aD (pv 8) av (fun _ _=>rfl)) (aZ _))))) (ay (jI (cM hr) (pv 3) (aF aD (pv 6) av (fun _ _=>rfl)) (aT (ac (aP bL (aF aD (pv 5) av (fun _ _=>rfl)) (pv 7)) (ac (pv 6) aj))) rfl)) bh)))))))
    (ay (bb (pv 3))))),yl h⟩
theorem gV:bz P w K mg base gS 2 t.tz.f t.tz.fd dI tH:=
 t.tz.h.fu.ok sc_sums_along (fun _ _ _ _ h=>vm h) fun cdv A outer s H vs Q E hr h=>
  have hu:=hr.units
  ⟨_,(ax (aG (i:=2) sc_sums_along.nd rfl (Or.inl rfl) (aW (kI t) (hr.mono (by decide)) rfl t.wH.h.gl t.wH.h.fu.kp t.wH.h.bi .nil bf (ac (pv 0) aj)))
    (ax (aG (i:=3) sc_sums_along.nd rfl (Or.inl rfl) (bp (ac (xu (uq (aF aD (pv 1) av (fun _ _=>rfl)) (aT (ac av (ac bR aj))) xq) rfl rfl (fun z=>nomatch z) (by decide)) aj)))
    (ax (bZ Je rfl (bV (aF aD (pv 1) av (fun _ _=>rfl))) (aK (i:=4) sc_sums_along.nd rfl (Or.inl rfl)) (ay (bj (cL IZ Jc Jd bD (pv 3) (ac (aW (lA t) (hr.mono (by decide)) rfl t.wR.h.gl t.wR.h.fu.kp t.wR.h.bi .nil bf (ac (pv 2) (ac (aF cT (pv 3) (lE iX av) (fun _ _=>rfl)) (ac (pv 4) aj)))) aj)))))
    (ay (bb (pv 3)))))),ym h⟩
theorem Bn:((["end"]:List Str)++(["sums"]:List Str)).Nodup:=by decide +kernel
theorem gW:bz P w K mg base gS 1 t.tp.f t.tp.fd dL qj:=
 t.tp.h.fu.ok lr (fun _ _ _ _ h=>vq h) fun cdv A outer s H vs Q E hr h=>
  have hu:=hr.units
  ⟨_,(ay (bb (x_ rfl hu (by rfl) t.gr (dY (tN:=["end"]) (capN:=["sums"]) (caps:=[1]) rfl (dt.of (osc:=aA dJ) (N:=iI) rfl rfl (by decide +kernel)) (bV (aF aD (pv 0) av (fun _ _=>rfl))))))),yn ⟨rfl,rfl,fun _ _ _ _ _=>aK (i:=0) Bn rfl (Or.inl rfl),fun _ _ _ _ _=>xG (aQ (An hu) (pv 0) (pv 1) rfl),fun _ _ _ _ _=>(aT (ac (aF aD (fy (cM hr) (pv 1) (pv 0) (fun _ _=>rfl)) av (fun _ _=>rfl)) (ac (pv 0) aj)))⟩ h⟩
theorem oW:bz P w K mg base gS 7 t.tJ.f t.tJ.fd jO (tD fh):=
 t.tJ.h.fu.ok sc_least (fun _ _ _ _ h=>vw h) fun cdv A outer s H vs Q E hr h=>
  have hu:=hr.units
  ⟨_,(ax (aG (i:=3) sc_least.nd rfl (Or.inl rfl) (aW (gW t) (hr.mono (by decide)) rfl t.tp.h.gl t.tp.h.fu.kp t.tp.h.bi .nil bf (ac (pv 1) (ac (aF cT (aW (gV t) (hr.mono (by decide)) rfl t.tz.h.gl t.tz.h.fu.kp t.tz.h.bi .nil bf (ac (aW (jh t) (hr.mono (by decide)) rfl t.o6.h.gl t.o6.h.fu.kp t.o6.h.bi .nil bf (ac (pv 0) (ac (pv 1) aj))) (ac (pv 2) aj))) (lE iX av) (fun _ _=>rfl)) aj))))
    (ay (bb (tY (aQ hI (pv 3) bR (aZ _)) bR (aF aD (pv 3) av (fun _ _=>rfl)))))),yo h⟩
theorem gX:bz P w K mg base gS 1 t.tf.f t.tf.fd dM tj:=
 t.tf.h.fu.ok lu (fun _ _ _ _ h=>vQ h) fun cdv A outer s H vs Q E hr h=>
  have hu:=hr.units
  ⟨_,(ay (bb (zS (aR jd (by rfl) t.eM (by decide +kernel) (ac (pv 0) (ac (l_ (v:=.ty "int") (by rfl) t.Bu (by decide +kernel) rfl) aj))) (zR (zT (aR jd (by rfl) t.eM (by decide +kernel) (ac (pv 0) (ac (l_ (v:=.ty "bool") (by rfl) t.yN (by decide +kernel) rfl) aj)))))))),yB h⟩
theorem kJ:bz P w K mg base gS 1 t.wW.f t.wW.fd cV ww:=
 t.wW.h.fu.ok sc_arrows_back (fun _ _ _ _ h=>vx h) fun cdv A outer s H vs Q E hr h=>
  have hu:=hr.units
  ⟨_,(ax (aG (i:=2) sc_arrows_back.nd rfl (Or.inl rfl) (bp aj))
    (ax (bZ Je rfl (ux rfl t.gv (ac (eZ gB (pv 0) (fw av) ic) aj)) (aK (i:=3) sc_arrows_back.nd rfl (Or.inl rfl)) (ax (aG (i:=4) sc_arrows_back.nd rfl (Or.inl rfl) (aF aD (fy (cM hr) (pv 3) (pv 1) (fun _ _=>rfl)) av (fun _ _=>rfl)))
    (ax (bj (cL IZ Jc Jd bD (pv 2) (ac (pv 4) aj)))
    (ay (aG (i:=1) sc_arrows_back.nd rfl (Or.inl rfl) (aF aD (pv 4) av (fun _ _=>rfl)))))))
    (ay (bb (pv 2))))),yp h⟩
theorem lB:bz P w K mg base gS 1 t.wG.f t.wG.fd dN wd:=
 t.wG.h.fu.ok ly (fun _ _ _ _ h=>vy h) fun cdv A outer s H vs Q E hr h=>
  have hu:=hr.units
  ⟨_,(ax (bS (aQ fY (aR ci (by rfl) t.cI Jw (ac (aF aD (pv 0) av (fun _ _=>rfl)) aj)) av (aZ _)) (ay (bb (bp aj))) bh)
    (ax (bS (aQ fY (aR ci (by rfl) t.cI Jw (ac (aF aD (pv 0) av (fun _ _=>rfl)) aj)) av (aZ _)) (ay (bb (bp (ac (aT (ac (aF aD (pv 0) av (fun _ _=>rfl)) (ac (aF aD (aF aD (pv 0) av (fun _ _=>rfl)) av (fun _ _=>rfl)) (ac (pv 2) aj)))) aj)))) bh)
    (ay (bb (bp (ac (aT (ac (pv 1) (ac (aF aD (aF aD (pv 0) av (fun _ _=>rfl)) av (fun _ _=>rfl)) (ac (pv 2) aj)))) (ac (aT (ac (aF aD (pv 0) av (fun _ _=>rfl)) (ac (aF aD (aF aD (pv 0) av (fun _ _=>rfl)) av (fun _ _=>rfl)) (ac (pv 1) aj)))) aj))))))),yq h⟩
theorem kK:bz P w K mg base gS 2 t.wJ.f t.wJ.fd cW wl:=
 t.wJ.h.fu.ok sc_rules_along (fun _ _ _ _ h=>vB h) fun cdv A outer s H vs Q E hr h=>
  have hu:=hr.units
  ⟨_,(ax (aG (i:=3) sc_rules_along.nd rfl (Or.inl rfl) (eY fF (by rfl) t.gG (by decide +kernel) (ac (pv 2) aj)))
    (ax (aG (i:=4) sc_rules_along.nd rfl (Or.inl rfl) (bp aj))
    (ax (nO Je (t_ (pv 3) (fun _=>rfl)) (ax (aG (i:=5) sc_rules_along.nd rfl (Or.inl rfl) (pB IZ PySem.F.slot_list_pop PySem.F.type_list_pop z_ (pv 3)))
    (ax (aG (i:=6) sc_rules_along.nd rfl (Or.inl rfl) (aF aD (fy (cM hr) (pv 1) (pv 5) (fun _ _=>rfl)) av (fun _ _=>rfl)))
    (ay (bS (aQ w8 (pv 6) bR (aZ _)) (ax (bj (cL IZ Jc Jd bD (pv 4) (ac (pv 6) aj)))
    (ay (bj (cL IZ PySem.F.slot_list_extend PySem.F.type_list_extend rJ (pv 3) (ac (aW (lB t) (hr.mono (by decide)) rfl t.wG.h.gl t.wG.h.fu.kp t.wG.h.bi .nil bf (ac (aF cT (aF aD (pv 0) av (fun _ _=>rfl)) (pv 6) (fun _ _=>rfl)) (ac (aF aD (fy (cM hr) (pv 1) (pv 5) (fun _ _=>rfl)) av (fun _ _=>rfl)) (ac (aF aD (pv 5) av (fun _ _=>rfl)) aj)))) aj))))) bh)))))
    (ay (bb (pv 4)))))),yr h⟩
theorem v8:bz P w K mg base (rO P w) 7 t.tF.f t.tF.fd q_ (tE fh t.cq t.bJ):=
 DI t.tF.h.fu sc_way (fun _ _ _ _ h=>vF h) fun cdv A outer s H vs Q E hr h=>
  have hu:=hr.units
  ⟨_,(ax (aG (i:=4) sc_way.nd rfl (Or.inl rfl) (aW (jh t) (hr.mono (by decide)) rfl t.o6.h.gl t.o6.h.fu.kp t.o6.h.bi .nil bf (ac (pv 0) (ac (pv 1) aj))))
    (ax (aG (i:=5) sc_way.nd rfl (Or.inl rfl) (aW (gV t) (hr.mono (by decide)) rfl t.tz.h.gl t.tz.h.fu.kp t.tz.h.bi .nil bf (ac (pv 4) (ac (pv 2) aj))))
    (ax (aG (i:=6) sc_way.nd rfl (Or.inl rfl) (aW (gW t) (hr.mono (by decide)) rfl t.tp.h.gl t.tp.h.fu.kp t.tp.h.bi .nil bf (ac (pv 1) (ac (aF cT (pv 5) (lE iX av) (fun _ _=>rfl)) aj))))
    (ax (bS (aQ hI (pv 6) bR (aZ _)) (ay (n8 (EW:=fun H=>E (.ref t.cq) none H) t.yQ (by rfl) rfl (ac tV aj) (fun ae σ H s h' x args I hm hE=>qB I hm hE))) bh)
    (ax (bS (aQ nP (aF aD (pv 6) av (fun _ _=>rfl)) (pv 3) (aZ _)) (ay (n8 (EW:=fun H=>E (.ref t.bJ) none H) t.jj (by rfl) rfl (ac tV aj) (fun ae σ H s h' x args I hm hE=>qB I hm hE))) bh)
    (ay (bb (aW (kK t) (hr.mono (by decide)) rfl t.wJ.h.gl t.wJ.h.fu.kp t.wJ.h.bi .nil bf (ac (pv 0) (ac (pv 4) (ac (aW (kJ t) (hr.mono (by decide)) rfl t.wW.h.gl t.wW.h.fu.kp t.wW.h.bi .nil bf (ac (pv 5) (ac (aF aD (pv 6) av (fun _ _=>rfl)) aj))) aj))))))))))),yt h⟩
theorem kM:bz P w K mg base (rO P w) 8 t.wI.f t.wI.fd cX (v_ fh t.cq t.bJ):=
 zj t.wI.h.fu sc__law_way_of (fun _ _ _ _ h=>vS h) fun cdv A outer s H vs Q E hr h=>
  have hu:=hr.units
  ⟨_,(ax (aG (i:=4) sc__law_way_of.nd rfl (Or.inl rfl) bR)
    (ax (vE (i:=4) sc__law_way_of.nd rfl (Or.inl rfl) rfl rfl t.jj (by rfl) (aQ hI (pv 3) bR (aZ _)) (n9 (dvs:=[.int 60]) (v8 t) (hr.mono (by decide)) (by rfl) t.tF.h.gl t.tF.h.fu.kp t.tF.h.bd (.cons ⟨_,rfl⟩ .nil) (ac (pv 0) (ac (pv 1) (ac (pv 2) aj)))) (n9 (dvs:=[]) (v8 t) (hr.mono (by decide)) (by rfl) t.tF.h.gl t.tF.h.fu.kp t.tF.h.bi .nil (ac (pv 0) (ac (pv 1) (ac (pv 2) (ac (pv 3) aj))))) (fun x=>ay (aG (i:=4) sc__law_way_of.nd rfl (Or.inl rfl) bR)))
    (ay (bb (pv 4))))),yE t.jj.ex t.fj h⟩
theorem kN:bz P w K mg base gS 2 t.wC.f t.wC.fd cY v9:=
 t.wC.h.fu.ok sc__law_walked (fun _ _ _ _ h=>vR h) fun cdv A outer s H vs Q E hr h=>
  have hu:=hr.units
  ⟨_,(ax (aG (i:=3) sc__law_walked.nd rfl (Or.inl rfl) (aF aD (pv 1) av (fun _ _=>rfl)))
    (ax (aG (i:=4) sc__law_walked.nd rfl (Or.inl rfl) (eY fF (by rfl) t.gG (by decide +kernel) (ac (aF aD (pv 1) av (fun _ _=>rfl)) aj)))
    (ax (bZ Je rfl (bV (pv 2)) (aK (i:=5) sc__law_walked.nd rfl (Or.inl rfl)) (ax (bS (PW.pt (jR (iW (jQ (aW (gX t) (hr.mono (by decide)) rfl t.tf.h.gl t.tf.h.fu.kp t.tf.h.bi .nil bf (ac (pv 5) aj)))) (gZ (iW (t9 B9 qw av (pv 5) (aR ci (by rfl) t.cI Jw (ac (aF aD (pv 0) av (fun _ _=>rfl)) aj))))))) (ay (bb bR)) bh)
    (ax (aG (i:=6) sc__law_walked.nd rfl (Or.inl rfl) (aF cT (aF aD (pv 0) av (fun _ _=>rfl)) (pv 5) (fun _ _=>rfl)))
    (ax (bS (PW.pt (jR (aQ (vK hu) (pv 4) (bp aj) (aZ _)) (gZ (aQ (AT hu) (aT (ac (pv 3) (ac (aF cT (pv 4) av (fun _ _=>rfl)) aj))) (aT (ac (aF aD (pv 6) av (fun _ _=>rfl)) (ac (aF aD (pv 6) av (fun _ _=>rfl)) aj))) (aZ _))))) (ay (bb bR)) bh)
    (ax (aG (i:=3) sc__law_walked.nd rfl (Or.inl rfl) (aF aD (pv 6) av (fun _ _=>rfl)))
    (ay (aG (i:=4) sc__law_walked.nd rfl (Or.inl rfl) (aP pD (eY fF (by rfl) t.gG (by decide +kernel) (ac (aF aD (pv 6) av (fun _ _=>rfl)) aj)) (eZ gB (pv 4) (fw av) ic)))))))))
    (ay (bb (aT (ac (pv 3) (ac (pv 4) aj)))))))),yC h⟩
theorem Bo:((["_law_cell"]:List Str)++([]:List Str)).Nodup:=by decide +kernel
theorem Bp:((["_law_sign"]:List Str)++(["_law_sums"]:List Str)).Nodup:=by decide +kernel
theorem Bq:bz P w K mg base (rO P w) 9 t.wF.f t.wF.fd re (tO mg 1 rf):=
 zj t.wF.h.fu sc_law (fun _ _ _ _ h=>h.1) fun cdv A outer s H vs Q E hr h=>
  have hu:=hr.units
  ⟨_,(ax (aG (i:=1) sc_law.nd rfl (Or.inl rfl) (aW (dm t) (hr.mono (by decide)) rfl t.o7.h.gl t.o7.h.fu.kp t.o7.h.bi .nil bf (ac (pv 0) (ac av aj))))
    (ax (aG (i:=2) sc_law.nd rfl (Or.inl rfl) (aP bL av (aP bM (pv 1) av)))
    (ax (aG (i:=3) sc_law.nd rfl (Or.inl rfl) (aP bM (aP bM (aP cS (pv 1) av) av) (pv 2)))
    (ax (aG (i:=4) sc_law.nd rfl (Or.inl rfl) (aW (jg t) (hr.mono (by decide)) rfl t.wD.h.gl t.wD.h.fu.kp t.wD.h.bi .nil bf (ac (dY (tN:=["_law_cell"]) (capN:=[]) (caps:=[]) rfl (dt.of (osc:=aA oT) (N:=N_law) rfl rfl (by decide +kernel)) (bV (eZ gB (pv 0) (fw av) (fw av)))) (ac (pv 3) aj))))
    (ax (aG (i:=5) sc_law.nd rfl (Or.inr rfl) (aW (jE t) (hr.mono (by decide)) rfl t.wU.h.gl t.wU.h.fu.kp t.wU.h.bi .nil bf (ac (pv 4) aj)))
    (ax (aG (i:=6) sc_law.nd rfl (Or.inl rfl) (aP bM (aP bM (aP cS (pv 1) av) av) (aR ci (by rfl) t.cI Jw (ac (pv 4) aj))))
    (ax (aG (i:=7) sc_law.nd rfl (Or.inl rfl) (aP pD (eZ gB (pv 4) (fw (pv 6)) ic) (eZ gB (pv 4) ic (fw (pv 6)))))
    (ax (bS (aQ fY (aP bM (aP cS (pv 1) av) av) av (aZ _)) (ay (aG (i:=7) sc_law.nd rfl (Or.inl rfl) (yF rfl (by rfl) t.gG (by decide +kernel) (by rfl) t.gv (ac (pv 7) aj)))) bh)
    (ax (aG (i:=8) sc_law.nd rfl (Or.inl rfl) (aT (ac (pv 2) (ac (aR ff (by rfl) t.cI Jw (ac (pv 5) aj)) (ac (pv 7) aj)))))
    (ax (aG (i:=9) sc_law.nd rfl (Or.inl rfl) e9)
    (ax (pJ (bZ ER rfl (oj (pv 5)) (cz rfl (aN (aK (i:=10) sc_law.nd rfl (Or.inl rfl)) (aN (aK (i:=11) sc_law.nd rfl (Or.inl rfl)) b9))) (ay (jI (cM hr) (pv 9) (aT (ac (pv 3) (ac (pv 10) (ac (pv 3) aj)))) (pv 11) rfl))))
    (ax (bS (aQ (AZ hu) (aW (v7 t) (hr.mono (by decide)) rfl t.wO.h.gl t.wO.h.fu.kp t.wO.h.bi .nil bf (ac (aT (ac (pv 2) (ac (aR ff (by rfl) t.cI Jw (ac (pv 5) aj)) (ac (eY fF (by rfl) t.gG (by decide +kernel) (ac (pv 7) aj)) aj)))) aj)) (pv 9) (aZ _)) (ay (bb qq)) bh)
    (ax (aG (i:=12) sc_law.nd rfl (Or.inl rfl) (aW (dm t) (hr.mono (by decide)) rfl t.o7.h.gl t.o7.h.fu.kp t.o7.h.bi .nil bf (ac (pv 0) (ac av aj))))
    (ax (aG (i:=13) sc_law.nd rfl (Or.inl rfl) (eZ gB (bp (ac av (ac (aP bM (aP bM (aP cS (pv 12) av) av) (aR ff (by rfl) t.cI Jw (ac (pv 5) aj))) (ac (aP bM (aP bM (aP cS (pv 12) av) av) (aR ff (by rfl) t.cI Jw (ac (pv 5) aj))) aj)))) ic (fw (aP bM (pv 12) av))))
    (ax (aG (i:=14) sc_law.nd rfl (Or.inl rfl) (aR (lV rfl) (by rfl) t.wg (by decide +kernel) (ac (dY (tN:=["_law_sign"]) (capN:=["_law_sums"]) (caps:=[5]) rfl (dt.of (osc:=aA oT) (N:=N_law) rfl rfl (by decide +kernel)) (bV (pv 13))) aj)))
    (ax (aG (i:=15) sc_law.nd rfl (Or.inl rfl) (aT (ac (pv 2) (ac (bp aj) (ac (bp (ac (pv 3) aj)) aj)))))
    (ax (aG (i:=16) sc_law.nd rfl (Or.inl rfl) (aT (ac (pv 3) (ac (pv 13) aj))))
    (ax (aG (i:=17) sc_law.nd rfl (Or.inl rfl) (aW (oW t) (hr.mono (by decide)) rfl t.tJ.h.gl t.tJ.h.fu.kp t.tJ.h.bi .nil bf (ac (pv 8) (ac (pv 15) (ac (pv 16) aj)))))
    (ax (bS (PW.pt (jR (iW (jQ (aW (gX t) (hr.mono (by decide)) rfl t.tf.h.gl t.tf.h.fu.kp t.tf.h.bi .nil bf (ac (pv 17) aj)))) (gZ (aQ yW (pv 17) (pv 14) (aZ _))))) (ay (bb qq)) bh)
    (ax (aG (i:=18) sc_law.nd rfl (Or.inl rfl) (aT (ac (pv 2) (ac (bp aj) (ac (bp (ac (aP bM (aP bL (pv 3) av) (pv 2)) aj)) aj)))))
    (ax (bS (PW.pt (tX (aQ nP (pv 2) av (aZ _)) (qr (zP (w6 (aW (oW t) (hr.mono (by decide)) rfl t.tJ.h.gl t.tJ.h.fu.kp t.tJ.h.bi .nil bf (ac (pv 8) (ac (pv 18) (ac (pv 16) aj))))))))) (ay (bb qq)) bh)
    (ax (aG (i:=19) sc_law.nd rfl (Or.inl rfl) bR)
    (ax (bS (aQ fY (aP bM (aW (dm t) (hr.mono (by decide)) rfl t.o7.h.gl t.o7.h.fu.kp t.o7.h.bi .nil bf (ac (pv 0) (ac av aj))) av) av (aZ _)) (ay (aG (i:=19) sc_law.nd rfl (Or.inl rfl) (aR (eU rfl) (by rfl) t.gr (by decide +kernel) (ac (pv 14) (ac av aj))))) bh)
    (ax (aG (i:=20) sc_law.nd rfl (Or.inl rfl) (aW (kM t) (hr.mono (by decide)) rfl t.wI.h.gl t.wI.h.fu.kp t.wI.h.bi .nil xw (ac (pv 8) (ac (pv 15) (ac (pv 16) (ac (pv 19) aj))))))
    (ax (bS (PW.pt (jR (PW.pt (tX (aQ hI (pv 19) bR (aZ _)) (qr (aQ nP (pv 14) av (aZ _))))) (gZ (aQ nP (pv 14) av (aZ _))))) (ay (bb (md hI (pv 20) bR (aZ _)))) bh)
    (ax (bS (PW.pt (jR (iW (jQ (aR jd (by rfl) t.eM (by decide +kernel) (ac (pv 20) (ac (l_ (v:=.ty "list") (by rfl) t.gG (by decide +kernel) rfl) aj))))) (gZ (aQ yW (aR ci (by rfl) t.cI Jw (ac (pv 20) aj)) (pv 14) (aZ _))))) (ay (bb qq)) bh)
    (ay (bb (md (A5 hu) (aW (kN t) (hr.mono (by decide)) rfl t.wC.h.gl t.wC.h.fu.kp t.wC.h.bi .nil bf (ac (pv 8) (ac (pv 16) (ac (pv 20) aj)))) (aT (ac (pv 3) (ac (bp aj) aj))) (aZ _)))))))))))))))))))))))))))))),vX rfl ⟨rfl,fun _ _ _ _ _=>aK (i:=0) Bo rfl (Or.inl rfl),fun _ _ _ _ _=>(aW (eL t) (hr.mono (by decide)) rfl t.o8.h.gl t.o8.h.fu.kp t.o8.h.bi .nil bf (ac (pv 0) aj))⟩ ⟨rfl,rfl,fun _ _ _ _ _=>aK (i:=0) Bp rfl (Or.inl rfl),fun _ _ _ _ _=>(fy (cM hr) (pv 1) (pv 0) (fun _ _=>rfl))⟩ h⟩
end
theorem DZ {K KK:LM}{mg:Str->Option LO}{h:Heap}(X:K.In h)(G:h.Ns mainGlobals mg)(U:gM K KK)
 (o8:FK K "_law_mixed" fH) (o7:FK K "_law_seed_at" d3) (wD:FK K "_law_rules_by" dk) (wU:FK K "_law_sums_of" cG) (wQ:FK K "is_plain" fJ) (wN:FK K "refuse_unless_plain" b8) (wL:FK K "rules_by_start" cO) (o6:FK K "prices" kH) (wO:FK K "pairs" jM) (wH:FK K "priced_from" eB) (wR:FK K "sums_ahead" fM) (tz:FK K "sums_along" fN) (tp:FK K "lowest_end" dJ) (tJ:FK K "least" nh) (tf:FK K "_law_whole" fP) (wW:FK K "arrows_back" eF) (wG:FK K "parts_back" fQ) (wJ:FK K "rules_along" eG) (tF:F3 K KK "way" v4 60) (wI:FK K "_law_way_of" eI) (wC:FK K "_law_walked" eJ) (wF:FK K "law" oT)
 (z_all:PySem.W.nsIn K mainGlobals "all"=some none)
 (z_bool:PySem.W.nsIn K mainGlobals "bool"=some none)
 (z_dict:PySem.W.nsIn K mainGlobals "dict"=some none)
 (z_enumerate:PySem.W.nsIn K mainGlobals "enumerate"=some none)
 (z_int:PySem.W.nsIn K mainGlobals "int"=some none)
 (z_isinstance:PySem.W.nsIn K mainGlobals "isinstance"=some none)
 (z_len:PySem.W.nsIn K mainGlobals "len"=some none)
 (z_list:PySem.W.nsIn K mainGlobals "list"=some none)
 (z_min:PySem.W.nsIn K mainGlobals "min"=some none)
 (z_reversed:PySem.W.nsIn K mainGlobals "reversed"=some none)
 (z_sum:PySem.W.nsIn K mainGlobals "sum"=some none)
 (z_zip:PySem.W.nsIn K mainGlobals "zip"=some none)
 {cq:Addr} (b_NoWay:PySem.W.nsIn K mainGlobals "NoWay"=some (some (.ref cq))) (e_NoWay:PySem.W.excIn K cq n5 "ValueError.__new__"=true) (jP:(j6 K cq).contains (.ref cq)=true)
 {bJ:Addr} (b_TooLong:PySem.W.nsIn K mainGlobals "TooLong"=some (some (.ref bJ))) (e_TooLong:PySem.W.excIn K bJ n5 "ValueError.__new__"=true) (fj:(j6 K bJ).contains (.ref bJ)=true)
 {CQ:Addr} (cQ:CK K KK "Queue" CQ) (nQ_0:PySem.W.findIn KK (.ref CQ) "last"=some none) (nQ_1:PySem.W.findIn KK (.ref CQ) "piles"=some none)
 {CP:Addr} (cP:CK K KK "Pricing" CP) (nP_0:PySem.W.findIn KK (.ref CP) "rules"=some none) (nP_1:PySem.W.findIn KK (.ref CP) "told"=some none) (nP_2:PySem.W.findIn KK (.ref CP) "offers"=some none) (nP_3:PySem.W.findIn KK (.ref CP) "settled"=some none) (nP_4:PySem.W.findIn KK (.ref CP) "lacking"=some none)
 {f_QI:Addr} (y_x_w:MK KK CQ "__init__" "Queue.__init__" Be f_QI)
 {f_QA:Addr} (y_x_x:MK KK CQ "add" "Queue.add" Bf f_QA)
 {f_QE:Addr} (y_x_y:MK KK CQ "is_empty" "Queue.is_empty" Bg f_QE)
 {f_QT:Addr} (y_x_z:MK KK CQ "take_lowest" "Queue.take_lowest" yJ f_QT)
 {f_PI:Addr} (y_x_A:MK KK CP "__init__" "Pricing.__init__" Bh f_PI)
 {f_PO:Addr} (y_x_B:MK KK CP "offer" "Pricing.offer" Bi f_PO)
 {f_PS:Addr} (y_x_C:MK KK CP "settle" "Pricing.settle" Bj f_PS)
 {f_PF:Addr} (y_x_D:MK KK CP "settle_first" "Pricing.settle_first" Bk f_PF)
 {f_PA:Addr} (y_x_E:MK KK CP "settle_all" "Pricing.settle_all" Bl f_PA)
 : ∃ t:Tx KK mg,True:=by
 obtain⟨o8⟩:=df (ps:=dG) X G U o8;obtain⟨o7⟩:=df (ps:=cF) X G U o7;obtain⟨wD⟩:=df (ps:=cp) X G U wD;obtain⟨wU⟩:=df (ps:=cH) X G U wU;obtain⟨wQ⟩:=df (ps:=fK) X G U wQ;obtain⟨wN⟩:=df (ps:=bG) X G U wN;obtain⟨wL⟩:=df (ps:=cR) X G U wL;obtain⟨o6⟩:=df (ps:=iH) X G U o6;obtain⟨wO⟩:=df (ps:=jN) X G U wO;obtain⟨wH⟩:=df (ps:=cU) X G U wH;obtain⟨wR⟩:=df (ps:=dH) X G U wR;obtain⟨tz⟩:=df (ps:=dI) X G U tz;obtain⟨tp⟩:=df (ps:=dL) X G U tp;obtain⟨tJ⟩:=df (ps:=jO) X G U tJ;obtain⟨tf⟩:=df (ps:=dM) X G U tf;obtain⟨wW⟩:=df (ps:=cV) X G U wW;obtain⟨wG⟩:=df (ps:=dN) X G U wG;obtain⟨wJ⟩:=df (ps:=cW) X G U wJ;obtain⟨tF⟩:=HR (ps:=q_) 3 rfl X G tF;obtain⟨wI⟩:=df (ps:=cX) X G U wI;obtain⟨wC⟩:=df (ps:=cY) X G U wC;obtain⟨wF⟩:=df (ps:=re) X G U wF;have BF:=CY cQ y_x_w;obtain⟨BI,rfl⟩:=mf (ps:=["self"]) y_x_w;obtain⟨yO,rfl⟩:=mf (ps:=["self", "price", "thing"]) y_x_x;obtain⟨BA,rfl⟩:=mf (ps:=["self"]) y_x_y;obtain⟨BO,rfl⟩:=mf (ps:=["self"]) y_x_z;have BC:=CY cP y_x_A;obtain⟨BD,rfl⟩:=mf (ps:=["self", "house"]) y_x_A;obtain⟨qo,rfl⟩:=mf (ps:=["self", "arrow", "price", "number", "mid"]) y_x_B;obtain⟨BM,rfl⟩:=mf (ps:=["self", "arrow", "price"]) y_x_C;obtain⟨BB,rfl⟩:=mf (ps:=["self", "number", "rule", "mid", "price"]) y_x_D;obtain⟨BQ,rfl⟩:=mf (ps:=["self"]) y_x_E;exact⟨⟨o8,o7,wD,wU,wQ,wN,wL,o6,wO,wH,wR,tz,tp,tJ,tf,wW,wG,wJ,tF,wI,wC,wF,Jk X G z_all,Jk X G z_bool,Jk X G z_dict,Jk X G z_enumerate,Jk X G z_int,Jk X G z_isinstance,Jk X G z_len,Jk X G z_list,Jk X G z_min,Jk X G z_reversed,Jk X G z_sum,Jk X G z_zip,cq,⟨KR X G b_NoWay,(U.exc e_NoWay).1⟩,(by rw[(U.exc e_NoWay).2];exact jP),bJ,⟨KR X G b_TooLong,(U.exc e_TooLong).1⟩,(by rw[(U.exc e_TooLong).2];exact fj),CQ,⟨cQ.cl,nQ_0,nQ_1⟩,KR X G cQ.b,CP,⟨cP.cl,nP_0,nP_1,nP_2,nP_3,nP_4⟩,KR X G cP.b,BI,BF,yO,BA,BO,BD,BC,qo,BM,BB,BQ⟩,True.intro⟩
theorem Br {l:PySem.W.OpenLaw} {w:World} {K:LM} {mg:Str->Option LO} {fa:Addr} (hfa:mg "law"=some (.ref fa)) (T:∃ t:Tx K mg,True) :
 ∃ fd:FuncData,(∀(s:LL)(v:LO),BindsTo s fd ⟨[v],[]⟩ [("_law_script",v)])/\∀ base:Heap,bz l.prog w K mg base (rO l.prog w) 9 fa fd ["_law_script"] (Eo rf):=by
 obtain⟨t,_⟩:=T;have e:=hfa.symm.trans t.wF.h.gl;cases e;obtain⟨oc,od,kV,doc,pm,an,cdv,ct,osl,efd,lk,hcd⟩:=t.wF.h.fu.ex;exact⟨t.wF.fd,fun s v=>by rw[efd];exact .of_eq rfl,fun base=>bz.top (Bq t)⟩
end W
namespace W
open L3
theorem Bs (ns:List Int)(hl:ns.length<=63):rf [.lst (ns.map .int)]=.ok (.val (.bl true) true []):=L4.DJ hl
end W
open PySem PySem.W PyProof.Rows
set_option maxRecDepth 100000 in
set_option maxHeartbeats 0 in
theorem PySem.Challenge.cw_callwalk_k27_deep_calls_holds : PySem.Challenge.rw_callwalk_k27_deep_calls.Holds := by
 w_on;refine PySem.W.Ea ?_
 k_fill
 refine L2.uA (l:=PySem.Challenge.rw_callwalk_k27_deep_calls) (n:=63) (k:=9) (x:="_law_script") (CX:=fun w=>L2.rO PySem.Challenge.pw_callwalk_k27_deep_calls w) (sp:=fun _=>L3.Eo W.rf) rfl (by decide) rfl ⟨rfl,by decide,by decide⟩ (fun w h Y=>PySem.W.kIn_of Y) ?kL ?F ?S ?C
 case kL=>exact fun w=>⟨by rfl,by rfl⟩
 case F=>
  intro w mg fa h KX G hmg
  refine' Exists.imp (fun _ z=>⟨z.1,fun base _ _=>z.2 base⟩) (W.Br hmg ?_)
  refine' (W.DZ KX G L2.rS (L4.fk ?_ ?_ ?_) (L4.fk ?_ ?_ ?_) (L4.fk ?_ ?_ ?_) (L4.fk ?_ ?_ ?_) (L4.fk ?_ ?_ ?_) (L4.fk ?_ ?_ ?_) (L4.fk ?_ ?_ ?_) (L4.fk ?_ ?_ ?_) (L4.fk ?_ ?_ ?_) (L4.fk ?_ ?_ ?_) (L4.fk ?_ ?_ ?_) (L4.fk ?_ ?_ ?_) (L4.fk ?_ ?_ ?_) (L4.fk ?_ ?_ ?_) (L4.fk ?_ ?_ ?_) (L4.fk ?_ ?_ ?_) (L4.fk ?_ ?_ ?_) (L4.fk ?_ ?_ ?_) (L4.HQ ?_ ?_ ?_ ?_ ?_) (L4.fk ?_ ?_ ?_) (L4.fk ?_ ?_ ?_) (L4.fk ?_ ?_ ?_) ?_ ?_ ?_ ?_ ?_ ?_ ?_ ?_ ?_ ?_ ?_ ?_ ?b_NoWay ?e_NoWay ?jP ?b_TooLong ?e_TooLong ?fj ⟨?_,?_,?_,?_,?_,?_,?_⟩ ?_ ?_ ⟨?_,?_,?_,?_,?_,?_,?_⟩ ?_ ?_ ?_ ?_ ?_ (L4.mk ?_ ?_ ?_ ?_ ?_) (L4.mk ?_ ?_ ?_ ?_ ?_) (L4.mk ?_ ?_ ?_ ?_ ?_) (L4.mk ?_ ?_ ?_ ?_ ?_) (L4.mk ?_ ?_ ?_ ?_ ?_) (L4.mk ?_ ?_ ?_ ?_ ?_) (L4.mk ?_ ?_ ?_ ?_ ?_) (L4.mk ?_ ?_ ?_ ?_ ?_) (L4.mk ?_ ?_ ?_ ?_ ?_))
  (case b_NoWay=>k_is)
  (case e_NoWay=>k_exc)
  (case jP=>rfl)
  (case b_TooLong=>k_is)
  (case e_TooLong=>k_exc)
  (case fj=>rfl)
  all_goals try k_is
 case S=>exact fun w H a ns hl hS=>L3.Ai (fun ns hn=>⟨_,_,W.Bs ns hn⟩) H a ns hl hS
 case C=>exact fun _ _ _ _ _ z=>L3.Aj z
